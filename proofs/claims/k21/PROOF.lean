import PyProof.Rows.All
import Wide.All
import OpenK.AllK
import Wide.FinOn
import Lean
import PyProof.EqAt
import PyProof.EqKinds
import PyProof.TupleCall
import KE.KTab
import KE.KRevSl
import PyProof.Rows.Range3
import PyProof.WalkInts
import PyProof.Rows.StrSplitMax
import KE.KMinKey
import PyProof.LongRange
import PyProof.ListRange
import PyProof.ExcClass3
import PyProof.InstStore
import PyProof.StationsW
import PyProof.ExcQuiet
import PyProof.RulesTry
import PyProof.ExcArgsOwn
import PySem.Challenge.RW_fourvoices_k21_ranges_and_weight
set_option Elab.async false
set_option linter.all false
set_option maxRecDepth 100000
namespace L2
open PySem PySem.Spec PyProof.Rows
abbrev mf:=Sum Int Str
def wR:mf→Value→Bool
 | .inl k,v=>Value.isInt k v
 | .inr x,v=>Value.isStrOf x v
def zS(w:World):mf→Int
 | .inl k=>hashInt k
 | .inr x=>hashStr w x
theorem br:∀{k:mf} {v:Value},wR k v=true→(∃i t,k=Sum.inl i∧v=Value.int i t)∨(∃x t,k=Sum.inr x∧v=Value.str x t)
 | .inl i,v,h=>by
  obtain⟨t,e⟩:=Value.isInt_shape (k:=i) (v:=v) h
  exact .inl ⟨i,t,rfl,e⟩
 | .inr x,v,h=>by
  obtain⟨t,e⟩:=Value.isStrOf_shape (x:=x) (v:=v) h
  exact .inr ⟨x,t,rfl,e⟩
theorem xp(a b:Int):decide ((Sum.inl a:mf)=Sum.inl b)=(a == b):=by
 by_cases e:a=b
 ·subst e;simp
 ·have h:¬(Sum.inl a:mf)=Sum.inl b:=fun q=>e (Sum.inl.inj q)
  rw [decide_eq_false h]
  exact(beq_eq_false_iff_ne.mpr e).symm
theorem xt(a b:Str):decide ((Sum.inr a:mf)=Sum.inr b)=decide (a=b):=by
 by_cases e:a=b
 ·subst e;simp
 ·have h:¬(Sum.inr a:mf)=Sum.inr b:=fun q=>e (Sum.inr.inj q)
  rw [decide_eq_false h,decide_eq_false e]
theorem xq(a:Int)(b:Str):decide ((Sum.inl a:mf)=Sum.inr b)=false:=decide_eq_false (fun q=>nomatch q)
theorem xr(a:Str)(b:Int):decide ((Sum.inr a:mf)=Sum.inl b)=false:=decide_eq_false (fun q=>nomatch q)
def kR(prog:Program)(w:World):PySem.KeyKind prog w mf where
 is:=wR
 hash:=zS w
 inj:=fun v a b ha hb=>by
  rcases br ha with⟨i,t,rfl,rfl⟩ | ⟨x,t,rfl,rfl⟩
  ·rcases br hb with⟨j,u,rfl,e⟩ | ⟨y,u,rfl,e⟩
   ·injection e with e1 _;rw [e1]
   ·exact nomatch e
  ·rcases br hb with⟨j,u,rfl,e⟩ | ⟨y,u,rfl,e⟩
   ·exact nomatch e
   ·injection e with e1 _;rw [e1]
 byValue:=fun k v h=>by
  rcases br h with⟨i,t,rfl,rfl⟩ | ⟨x,t,rfl,rfl⟩<;>rfl
 pyHash:=fun hv h=>by
  rcases br hv with⟨i,t,rfl,rfl⟩ | ⟨x,t,rfl,rfl⟩
  ·exact wpAny_pyHash_int h
  ·exact wpAny_pyHash_str h
 eqBool:=fun hu hv h=>by
  rcases br hu with⟨i,t,rfl,rfl⟩ | ⟨x,t,rfl,rfl⟩
  ·rcases br hv with⟨j,u,rfl,rfl⟩ | ⟨y,u,rfl,rfl⟩
   ·rw [xp]at h;exact wpAny_eqBool_int h
   ·rw [xq]at h;exact SeqAt.EqAt.int_str i t y u _ _ _ _ h
  ·rcases br hv with⟨j,u,rfl,rfl⟩ | ⟨y,u,rfl,rfl⟩
   ·rw [xr]at h;exact SeqAt.EqAt.str_int x t j u _ _ _ _ h
   ·rw [xt]at h;exact wpAny_eqBool_str h
 «strs»:=fun k x t v h=>by
  rcases br h with⟨i,u,rfl,e⟩ | ⟨y,u,rfl,e⟩
  ·exact nomatch e
  ·injection e with e1 _
   subst e1
   cases v<;>rfl
end L2
namespace L2
open PySem PySem.Spec PyProof.Rows
inductive V where
 | non | bl (b:Bool) | int (i:Int) | str (x:Str) | byt (b:Array UInt8) | flt (b:UInt64) | ref (a:Addr) | ty (n:String)
 deriving DecidableEq
def aG:V→Value→Prop
 | .non,u=>u=Value.none
 | .bl b,u=>u=Value.bool b
 | .int i,u=>∃t,u=Value.int i t
 | .str x,u=>∃t,u=Value.str x t
 | .byt b,u=>∃t,u=Value.bytes b t
 | .flt b,u=>∃t,u=Value.float b t
 | .ref a,u=>u=Value.ref a
 | .ty n,u=>u=Value.type n
abbrev aC:List V→List Value→Prop:=Paired aG
theorem aC.length{xs:List V}{us:List Value}(r:aC xs us):xs.length=us.length:=Paired.length r
theorem aC.get:∀{xs:List V} {us:List Value} {i:Nat} {x:V},aC xs us→xs[i]?=some x→∃u,us[i]?=some u∧aG x u
 | _,_,_,_,.nil,e=>by simp at e
 | _,_,0,_,.cons r _,e=>by simp at e;subst e;exact⟨_,rfl,r⟩
 | _,_,i+1,x,.cons _ t,e=>by
  obtain⟨u,h1,h2⟩:=aC.get (i:=i) (x:=x) t (by simpa using e)
  exact⟨u,by simpa using h1,h2⟩
theorem aC.set{x:V}{u:Value}(r:aG x u):∀{xs:List V} {us:List Value} (i:Nat),aC xs us→aC (xs.set i x) (us.set i u)
 | _,_,_,.nil=>.nil
 | _,_,0,.cons _ t=>.cons r t
 | _,_,i+1,.cons q t=>.cons q (aC.set r i t)
theorem aC.append:∀{xs ys:List V} {us ws:List Value},aC xs us→aC ys ws→aC (xs++ys) (us++ws)
 | _,_,_,_,.nil,s=>s
 | _,_,_,_,.cons r t,s=>.cons r (aC.append t s)
theorem aC.take:∀{xs:List V} {us:List Value} (n:Nat),aC xs us→aC (xs.take n) (us.take n)
 | _,_,0,_=>.nil
 | _,_,_+1,.nil=>.nil
 | _,_,n+1,.cons r t=>.cons r (aC.take n t)
theorem aC.drop:∀{xs:List V} {us:List Value} (n:Nat),aC xs us→aC (xs.drop n) (us.drop n)
 | _,_,0,r=>r
 | _,_,_+1,.nil=>.nil
 | _,_,n+1,.cons _ t=>aC.drop n t
theorem aC.none_of:∀{xs:List V} {us:List Value} {i:Nat},aC xs us→xs[i]?=none→us[i]?=none:=fun {xs us i} r e=>by
 have h1:=r.length
 have h2:xs.length≤i:=List.getElem?_eq_none_iff.mp e
 exact List.getElem?_eq_none_iff.mpr (by omega)
def gz:Option V→Option Value→Prop
 | some v,some u=>aG v u
 | none,none=>True
 | _,_=>False
def KV{κ:Type}:List (κ×V)→List (κ×Value)→Prop:=Paired fun(p:κ×V) (q:κ×Value)=>p.1=q.1∧aG p.2 q.2
def kV:mf→V
 | .inl i=>.int i
 | .inr x=>.str x
inductive HO where
 | lst (xs:List V)
 | tup (xs:List V)
 | dK (kvs:List (mf×V)) | dT (kvs:List (List mf×V))
 | set (S:Int→Bool) (n:Nat)
 | ins (C dx:Addr) (fs:List (Str×V))
 | own (x:Addr)
 | xd (fs:List (Str×V))
 | met (f x:Addr)
 | rng (lo hi:Int)
 | frz (o:Obj) (u:HO)
 | tbl (ps:Array Value)
 | ext (φ:Heap→Prop)
abbrev Hp:=Addr→Option HO
def upd(H:Hp)(a:Addr)(o:HO):Hp:=fun b=>if b=a then some o else H b
theorem ae{H:Hp}{a:Addr}{o:HO}:upd H a o a=some o:=by unfold upd;rw [if_pos rfl]
theorem ai{H:Hp}{a b:Addr}{o:HO}(h:b≠a):upd H a o b=H b:=by unfold upd;rw [if_neg h]
theorem bX{H:Hp}{a:Addr}{o u:HO}:upd (upd H a o) a u=upd H a u:=by
 funext b;unfold upd;split<;>rfl
theorem dw{H:Hp}{a b:Addr}{o u:HO}(h:H a=some o)(h':H b=some u)(d:o≠u):a≠b:=by
 intro e;subst e;rw [h]at h';exact d (Option.some.inj h')
theorem aq{H:Hp}{a b:Addr}{o:HO}(h:H a=some o)(h':H b=none):a≠b:=by
 intro e;subst e;rw [h]at h';cases h'
section
variable (P:Program) (w:World)
def bD(H:Hp)(h:Heap)(a:Addr):HO→Prop
 | .lst xs=>xs.length≤sizeLine∧∃(its:List Value) (n:Nat),aC xs its∧h.get? a=some { cls:=.type "list",data:=.seq its.toArray n }
 | .tup xs=>xs.length≤sizeLine∧∃its:List Value,aC xs its∧IsTup h a its.toArray
 | .dK kvs=>kvs.length≤sizeLine∧(a == sysModules)=false∧∃vs,KV kvs vs∧h.DictOf (kR P w) a vs
 | .dT kvs=>kvs.length≤sizeLine∧(a == sysModules)=false∧∃xs:List (List mf×Addr×Value),
   Paired (fun(p:List mf×V) (q:List mf×Addr×Value)=>p.1=q.1∧H q.2.1=some (.tup (p.1.map kV))∧aG p.2 q.2.2) kvs xs∧
   ∃o es ep,h.get? a=some o∧o.ExactDict∧o.data=.dict es ep∧es.toList=xs.map (entryOfKey (tupleKind (kR P w)))∧(xs.map (·.1)).Nodup
 | .set S n=>h.SetOf (intKind P w) a S n
 | .ins C dx fs=>H dx=some (.own a)∧fs.length≤1000∧dx≠a∧h.get? a=some (PySem.W.instObj C dx)∧
   ∃mA,h.Ns1 dx mA∧(∀f,gz (fs.lookup f) (mA f))∧PySem.Within mA (fs.map (·.1))
 | .own _=>∃o,h.get? a=some o
 | .xd fs=>∃mA,h.Ns1 a mA∧∀f,gz (fs.lookup f) (mA f)
 | .rng lo hi=>∃t u v,h.get? a=some { cls:=.type "range",data:=.fields #[.int lo t,.int hi u,.int 1 v] }
 | .frz o u=>h.get? a=some o∧bD H h a u
 | .tbl ps=>h.get? a=some { cls:=.none,data:=.fields ps }
 | .met f x=>h.get? a=some (PySem.W.methodObj (.ref f) (.ref x))
 | .ext φ=>φ h∧(∃o,h.get? a=some o)∧∀h1 h2:Heap,φ h1→(∀o,h1.get? a=some o→h2.get? a=some o)→φ h2
def fR(H:Hp)(h:Heap):Prop:=∀a o,H a=some o→bD P w H h a o
end
section
variable {P:Program} {w:World} {H H':Hp} {h h':Heap} {a:Addr} {o:HO}
theorem bD.lt(x:bD P w H h a o):a < h.objs.size:=by
 cases o with
 | lst xs=>obtain⟨_,_,_,_,e⟩:=x;exact Heap.lt_size e
 | tup xs=>obtain⟨_,_,_,p⟩:=x;exact p.lt
 | dK kvs=>obtain⟨_,_,_,_,o,_,_,e,_⟩:=x;exact Heap.lt_size e
 | dT kvs=>obtain⟨_,_,_,_,o,_,_,e,_⟩:=x;exact Heap.lt_size e
 | set S n=>obtain⟨o,_,_,_,e,_⟩:=x;exact Heap.lt_size e
 | ins C dx fs=>obtain⟨_,_,_,e,_⟩:=x;exact Heap.lt_size e
 | own y=>obtain⟨_,e⟩:=x;exact Heap.lt_size e
 | xd fs=>obtain⟨_,⟨_,_,_,e,_⟩,_⟩:=x;exact Heap.lt_size e
 | rng lo hi=>obtain⟨_,_,_,e⟩:=x;exact Heap.lt_size e
 | frz ob u=>obtain⟨e,_⟩:=x;exact Heap.lt_size e
 | tbl ps=>exact Heap.lt_size (show h.get? a=some _ from x)
 | met f y=>exact Heap.lt_size (show h.get? a=some _ from x)
 | ext φ=>obtain⟨_,⟨_,e⟩,_⟩:=x;exact Heap.lt_size e
theorem Paired.mapP{α β:Type}{F G:α→β→Prop}:∀{l₁:List α} {l₂:List β},Paired F l₁ l₂→(∀a b,F a b→G a b)→Paired G l₁ l₂
 | _,_,.nil,_=>.nil
 | _,_,.cons r t,f=>.cons (f _ _ r) (Paired.mapP t f)
theorem bD.stay(x:bD P w H h a o)(k:∀b u,(b=a∨H b=some (.own a))→h.get? b=some u→h'.get? b=some u)
  (ho:∀b,H b=some (.own a)→H' b=some (.own a)) (ht:∀b xs,H b=some (.tup xs)→H' b=some (.tup xs)):bD P w H' h' a o:=by
 induction o with
 | lst xs=>obtain⟨z,its,n,r,e⟩:=x;exact⟨z,its,n,r,k _ _ (.inl rfl) e⟩
 | tup xs=>obtain⟨z,its,r,ob,e,c⟩:=x;exact⟨z,its,r,ob,k _ _ (.inl rfl) e,c⟩
 | dK kvs=>obtain⟨z,y,vs,r,ob,es,ep,e,c⟩:=x;exact⟨z,y,vs,r,ob,es,ep,k _ _ (.inl rfl) e,c⟩
 | dT kvs=>
  obtain⟨z,y,xs,r,ob,es,ep,e,c⟩:=x
  exact⟨z,y,xs,Paired.mapP r fun p q z=>⟨z.1,ht _ _ z.2.1,z.2.2⟩,ob,es,ep,k _ _ (.inl rfl) e,c⟩
 | set S n=>obtain⟨ob,es,ep,t,e,c⟩:=x;exact⟨ob,es,ep,t,k _ _ (.inl rfl) e,c⟩
 | ins C dx fs=>
  obtain⟨d,z,ne,e,mA,⟨od,es,ep,e2,c⟩,r⟩:=x
  exact⟨ho _ d,z,ne,k _ _ (.inl rfl) e,mA,⟨od,es,ep,k _ _ (.inr d) e2,c⟩,r⟩
 | own y=>obtain⟨ob,e⟩:=x;exact⟨ob,k _ _ (.inl rfl) e⟩
 | xd fs=>obtain⟨mA,⟨od,es,ep,e,c⟩,r⟩:=x;exact⟨mA,⟨od,es,ep,k _ _ (.inl rfl) e,c⟩,r⟩
 | rng lo hi=>obtain⟨t,u,v,e⟩:=x;exact⟨t,u,v,k _ _ (.inl rfl) e⟩
 | frz ob u ih=>obtain⟨e,q⟩:=x;exact⟨k _ _ (.inl rfl) e,ih q⟩
 | tbl ps=>
  have e:h.get? a=some { cls:=.none,data:=.fields ps }:=x
  show h'.get? a=some { cls:=.none,data:=.fields ps }
  exact k a _ (.inl rfl) e
 | met f y=>
  have e:h.get? a=some (PySem.W.methodObj (.ref f) (.ref y)):=x
  show h'.get? a=some (PySem.W.methodObj (.ref f) (.ref y))
  exact k a _ (.inl rfl) e
 | ext φ=>obtain⟨p,⟨o,e⟩,st⟩:=x;exact⟨st _ _ p fun o q=>k _ _ (.inl rfl) q,⟨o,k _ _ (.inl rfl) e⟩,st⟩
theorem fR.lt(x:fR P w H h)(e:H a=some o):a < h.objs.size:=(x a o e).lt
theorem fR.fresh(x:fR P w H h)(e:h.objs.size≤a):H a=none:=by
 cases q:H a with
 | none=>rfl
 | some u=>exact absurd (Nat.lt_of_lt_of_le (x.lt q) e) (Nat.lt_irrefl _)
theorem fR.kept(x:fR P w H h)(k:∀b u,h.get? b=some u→h'.get? b=some u):fR P w H h':=fun a o e=>
 (x a o e).stay (fun b u _ q=>k b u q) (fun _ q=>q) fun _ _ q=>q
theorem fR.laid(x:fR P w H h)(k:∀b u,h.get? b=some u→h'.get? b=some u)(hp:h.objs.size≤a)(new:bD P w (upd H a o) h' a o):fR P w (upd H a o) h':=fun b u e=>by
 have hn:=x.fresh hp
 by_cases hb:b=a
 ·subst hb;rw [ae]at e;cases e;exact new
 ·rw [ai hb]at e
  exact(x b u e).stay (fun c v _ q=>k c v q) (fun c q=>by rw [ai (aq q hn)];exact q) fun c xs q=>by rw [ai (aq q hn)];exact q
end
def Rd(H:Hp)(a:Addr)(u:HO):Prop:=H a=some u∨∃o,H a=some (.frz o u)
theorem Rd.ok{P:Program}{w:World}{H:Hp}{h:Heap}{a:Addr}{u:HO}(r:Rd H a u)(x:fR P w H h):bD P w H h a u:=by
 rcases r with r | ⟨o,r⟩
 ·exact x a u r
 ·obtain⟨_,q⟩:=x a _ r
  exact q
def zq:Option HO→Prop
 | some (.lst _)=>True
 | some (.dK _)=>True
 | some (.dT _)=>True
 | some (.set _ _)=>True
 | some (.ins _ _ _)=>True
 | some (.ext _)=>True
 | _=>False
section
variable {P:Program} {w:World} {H:Hp} {h h':Heap} {x e:Addr} {o':HO}
theorem fR.write(ok:fR P w H h)(mu:zq (H x))(he:e=x∨H e=some (.own x))(k:∀b u,b≠e→h.get? b=some u→h'.get? b=some u)(heo:∃u,h'.get? e=some u)
  (new:bD P w (upd H x o') h' x o'):fR P w (upd H x o') h':=fun b u q=>by
 have nown:∀c y,H c=some (.own y)→c≠x:=fun c y r z=>by subst z;rw [r]at mu;exact mu
 have ntup:∀c xs,H c=some (.tup xs)→c≠x:=fun c xs r z=>by subst z;rw [r]at mu;exact mu
 by_cases hb:b=x
 ·subst hb;rw [ae]at q;cases q;exact new
 ·rw [ai hb]at q
  by_cases hbe:b=e
  ·have q':H b=some (.own x):=by
    rcases he with z | z
    ·exact absurd (hbe.trans z) hb
    ·rw [hbe];exact z
   rw [q]at q';cases q'
   obtain⟨v,hv⟩:=heo
   exact⟨v,by rw [hbe];exact hv⟩
  ·refine(ok b u q).stay (fun c v hc r=>k c v ?_ r) (fun c r=>by rw [ai (nown c b r)];exact r) fun c xs r=>by rw [ai (ntup c xs r)];exact r
   rcases hc with rfl | hc
   ·exact hbe
   ·rintro rfl
    rcases he with z | z
    ·exact nown c b hc z
    ·rw [hc]at z;cases z;exact hb rfl
end
structure Un(fs ex:List Addr)(H H':Hp)(h h':Heap):Prop where
 keep:∀b o,h.get? b=some o→H b=none→b∉fs→b∉ex→h'.get? b=some o
 slot:∀b o,h.get? b=some o→H b=none→b∈fs→b∉ex→∃sl,h'.get? b=some { o with slots:=sl }
 free:∀b o,h.get? b=some o→H b=none→b∉ex→H' b=none
 there:∀b o,h.get? b=some o→b∉ex→∃o',h'.get? b=some o'
 tups:∀b xs,H b=some (.tup xs)→H' b=some (.tup xs)
 frzs:∀b o u,H b=some (.frz o u)→H' b=some (.frz o u)
 tbls:∀b ps,H b=some (.tbl ps)→∃more,H' b=some (.tbl (ps++more))
section
variable {fs fs' ex ex':List Addr} {H H1 H2:Hp} {h h1 h2 h':Heap} {a x e:Addr} {o:HO}
theorem Un.any(u:Un fs ex H H1 h h1){b:Addr}{ob:Obj}(q:h.get? b=some ob)(n:H b=none)(hx:b∉ex):∃sl,h1.get? b=some { ob with slots:=sl }:=by
 by_cases hb:b∈fs
 ·exact u.slot b ob q n hb hx
 ·exact⟨ob.slots,u.keep b ob q n hb hx⟩
theorem Un.kept(k:∀b u,h.get? b=some u→h'.get? b=some u):Un fs ex H H h h':=
 ⟨fun b ob q _ _ _=>k b ob q,fun b ob q _ _ _=>⟨ob.slots,k b ob q⟩,fun _ _ _ n _=>n,fun b ob q _=>⟨ob,k b ob q⟩,fun _ _ q=>q,fun _ _ _ q=>q,fun _ ps q=>⟨#[],by rw [q];simp⟩⟩
theorem Un.refl:Un fs ex H H h h:=Un.kept fun _ _ q=>q
theorem Un.laid(k:∀b u,h.get? b=some u→h'.get? b=some u)(hp:h.objs.size≤a)(hn:H a=none):Un fs ex H (upd H a o) h h' where
 keep:=fun b u q _ _ _=>k b u q
 slot:=fun b u q _ _ _=>⟨u.slots,k b u q⟩
 free:=fun b u q n _=>by rw [ai (Nat.ne_of_lt (Nat.lt_of_lt_of_le (Heap.lt_size q) hp))];exact n
 there:=fun b u q _=>⟨u,k b u q⟩
 tups:=fun b xs q=>by rw [ai (aq q hn)];exact q
 frzs:=fun b u xs q=>by rw [ai (aq q hn)];exact q
 tbls:=fun b ps q=>⟨#[],by rw [ai (aq q hn),q];simp⟩
theorem Un.write(mu:zq (H x))(he:e=x∨H e=some (.own x))(k:∀b u,b≠e→h.get? b=some u→h'.get? b=some u)(heo:∃u,h'.get? e=some u):Un fs ex H (upd H x o) h h':=by
 have hx:∀b,H b=none→b≠x:=fun b n z=>by subst z;rw [n]at mu;exact mu
 have hb:∀b,H b=none→b≠e:=fun b n z=>by
  subst z
  rcases he with r | r
  ·exact hx b n r
  ·rw [n]at r;cases r
 have hm:∀b u,H b=some u→¬zq (some u)→b≠x:=fun b u q nm z=>by subst z;rw [q]at mu;exact nm mu
 refine⟨fun b u q n _ _=>k b u (hb b n) q,fun b u q n _ _=>⟨u.slots,k b u (hb b n) q⟩,fun b u q n _=>by rw [ai (hx b n)];exact n,fun b u q _=>?_,
  fun b xs q=>by rw [ai (hm b _ q fun z=>z)];exact q,fun b u xs q=>by rw [ai (hm b _ q fun z=>z)];exact q,fun b ps q=>⟨#[],by rw [ai (hm b _ q fun z=>z),q];simp⟩⟩
 by_cases hbe:b=e
 ·subst hbe;exact heo
 ·exact⟨u,k b u hbe q⟩
end
def zE(h:Heap)(H:Hp):List Addr:=(List.range h.objs.size).filter fun a=>(H a).isSome
def kL(h:Heap)(H:Hp):Heap:=PySem.W.hideAll h (zE h H)
theorem rf(h:Heap)(H:Hp):(kL h H).objs.size=h.objs.size:=PySem.W.hideAll_size _ _
theorem sZ{h:Heap}{H:Hp}{b:Addr}{o:Obj}(e:h.get? b=some o)(n:H b=none):(kL h H).get? b=some o:=
 PySem.W.hideAll_get _ e fun hm=>by
  have q:(H b).isSome=true:=(List.mem_filter.mp hm).2
  rw [n]at q;simp at q
theorem vD{h:Heap}{H:Hp}{b:Addr}{o:Obj}(e:(kL h H).get? b=some o):h.get? b=some o∧H b=none:=by
 have e':h.get? b=some o:=PySem.W.of_hideAll (zE h H) e
 refine⟨e',?_⟩
 cases q:H b with
 | none=>rfl
 | some x=>
  have hm:b∈zE h H:=List.mem_filter.mpr ⟨List.mem_range.mpr (Heap.lt_size e'),by simp [q]⟩
  have z:(kL h H).get? b=none:=PySem.W.hideAll_none (zE h H) hm
  rw [z]at e;cases e
def u5(g h:Heap)(L:Addr):List (Addr×Obj):=(List.range h.objs.size).filterMap fun a=>if a=L∨(g.get? a).isSome=true then none else(h.get? a).map fun o=>(a,o)
def rest(g h:Heap)(L d:Addr):List (Addr×Obj):=(u5 g h L).filter fun p=>decide (p.1≠d)
end L2
namespace L2
open PySem PySem.Spec PyProof.Rows
structure Mod(K:PySem.W.Frag)(mg:Str→Option Value)(base:Heap):Prop where
 kin:K.In base
 glob:base.Ns mainGlobals mg
 blt:∃mb,base.Ns builtinsNs mb∧∀x:Str,x≠"__name__"→mb x=bootBuiltins x
 nolimit:base.NoLimit
structure Cx where
 prog:Program
 w:World
 K:PySem.W.Frag
 mg:Str→Option Value
 base:Heap
 A:Around
 N:List Str
 s₀:Shared
 H₀:Hp
 env:Env
 outer:List Env
 stack:List Env
 ex:List Addr
 fn:Str→Bool
 calm:Bool
 pn:List (Addr×Obj)
 xe:Value→Shared→Prop
def jq(l:List Env):List Addr:=l.filterMap (·.frame)
abbrev Cx.fs(X:Cx):List Addr:=jq X.outer
def zu(sc:Scope)(x:Str):Prop:=sc.names.lookup x=some .local∨sc.names.lookup x=some .cell∨sc.names.lookup x=some .free
def uT(sc:Scope)(x:Str):Prop:=sc.names.lookup x=some .local∨sc.names.lookup x=some .cell
def zK(env:Env)(h:Heap)(m:Str→Option Value)(x:Str)(u:Value):Prop:=
 (env.kindOf x=some .local∧m x=some u)∨((env.kindOf x=some .cell∨env.kindOf x=some .free)∧∃c,env.cells.lookup x=some c∧h.IsCell c (some u))
structure Cx.Ok(X:Cx):Prop where
 mod:Mod X.K X.mg X.base
 kind:X.env.scope.kind=.function
 glob:X.env.globals=mainGlobals
 blt:X.env.builtins=builtinsNs
 above:X.s₀.heap.objs.size≤X.env.locals
 inj:∀x y c,X.env.cells.lookup x=some c→X.env.cells.lookup y=some c→x=y
 has:∀x,(X.env.kindOf x=some .cell∨X.env.kindOf x=some .free)→∃c,X.env.cells.lookup x=some c
 cab:∀x c,X.fn x=true→X.env.cells.lookup x=some c→X.s₀.heap.objs.size≤c
 hd:X.calm=true→X.A.handled=none
 frames:X.A.frames=some X.stack
 stk:X.stack=X.outer∨(X.stack=X.env::X.outer∧X.env.frame=some X.env.locals)
 exf:∀b∈X.ex,b≠X.env.locals∧∀x c,X.env.cells.lookup x=some c→c≠b
 bs:∀b o,X.base.get? b=some o→X.s₀.heap.get? b=some o∧X.H₀ b=none
 bsz:X.base.objs.size≤X.s₀.heap.objs.size
 noex:∀b o,X.base.get? b=some o→b∉X.ex
 exfs:∀b∈X.ex,b∉X.fs
 funs:X.s₀.heap.FunFrames X.base X.outer
 frf:∀b∈X.fs,X.H₀ b=none
structure az(X:Cx)(pins:List (Addr×Obj))(σ:List (Option V))(H:Hp)(s:Shared):Prop where
 ok:X.Ok
 os:s.os=X.s₀.os
 bare:AllBare s.gens
 base:Un X.fs X.ex X.H₀ H X.s₀.heap s.heap
 loc:∃m,s.heap.Ns X.env.locals m∧∀(i:Nat) (x:Str) (v:V),X.N[i]?=some x→σ[i]?=some (some v)→zu X.env.scope x→∃u,aG v u∧zK X.env s.heap m x u
 cell:∀x c,X.env.cells.lookup x=some c→∃v,s.heap.IsCell c v
 free:H X.env.locals=none
 freeC:∀x c,X.env.cells.lookup x=some c→H c=none
 pin:∀p∈X.pn++pins,s.heap.get? p.1=some p.2∧H p.1=none∧p.1≠X.env.locals∧p.1∉X.fs∧∀v,p.2.data≠.cell v
 hok:fR X.prog X.w H s.heap
 len:σ.length=X.N.length
section
variable {X:Cx} {pins:List (Addr×Obj)} {σ:List (Option V)} {H H':Hp} {s:Shared} {h':Heap}
theorem Cx.Ok.nofr(ok:X.Ok){b:Addr}{o:Obj}(e:X.base.get? b=some o):b∉X.fs:=fun hb=>by
 have:=(ok.funs.mem hb).1
 rw [e]at this;cases this
theorem az.bs(I:az X pins σ H s):∀b o,X.base.get? b=some o→s.heap.get? b=some o∧H b=none:=fun b o e=>
 ⟨I.base.keep b o (I.ok.bs b o e).1 (I.ok.bs b o e).2 (I.ok.nofr e) (I.ok.noex b o e),I.base.free b o (I.ok.bs b o e).1 (I.ok.bs b o e).2 (I.ok.noex b o e)⟩
theorem az.bk(I:az X pins σ H s):∀b o,X.base.get? b=some o→s.heap.get? b=some o:=fun b o e=>(I.bs b o e).1
theorem az.mod(I:az X pins σ H s):Mod X.K X.mg X.base:=I.ok.mod
theorem az.kIn(I:az X pins σ H s):X.K.In s.heap:=I.ok.mod.kin.keeps I.bk
theorem az.nolimit(I:az X pins σ H s):s.heap.NoLimit:=I.ok.mod.nolimit.keeps I.bk
theorem az.lt(I:az X pins σ H s):X.env.locals < s.heap.objs.size:=let ⟨_,hn,_⟩:=I.loc;hn.lt
theorem az.sz(I:az X pins σ H s):X.s₀.heap.objs.size≤s.heap.objs.size:=Nat.le_trans I.ok.above (Nat.le_of_lt I.lt)
theorem az.nofs(I:az X pins σ H s){a:Addr}(h:s.heap.objs.size≤a):a∉X.fs:=fun hb=>by
 obtain⟨_,o,ho,_⟩:=I.ok.funs.mem hb
 exact absurd (Nat.lt_of_lt_of_le (Heap.lt_size ho) (Nat.le_trans I.sz h)) (Nat.lt_irrefl _)
theorem az.cne(I:az X pins σ H s):∀x c,X.env.cells.lookup x=some c→c≠X.env.locals:=fun x c e z=>by
 obtain⟨v,o,ho,hd⟩:=I.cell x c e
 obtain⟨m,⟨o',es,ep,ho',hd',_⟩,_⟩:=I.loc
 rw [z,ho']at ho;cases ho;rw [hd']at hd;cases hd
theorem az.funs(I:az X pins σ H s):s.heap.FunFrames X.base X.outer:=by
 have all:∀(l:List Env),(∀b∈jq l,b∈X.fs)→X.s₀.heap.FunFrames X.base l→s.heap.FunFrames X.base l:=by
  intro l
  induction l with
  | nil=>intro _ _;trivial
  | cons env r ih=>
   intro hs hl
   obtain⟨hk,⟨L,o,hf,hn,ho,hd⟩,hr⟩:=hl
   have hL:L∈X.fs:=hs L (by unfold jq;rw [List.filterMap_cons,hf];exact List.mem_cons_self)
   obtain⟨sl,e⟩:=I.base.slot L o ho (I.ok.frf L hL) hL fun z=>I.ok.exfs L z hL
   exact⟨hk,⟨L,_,hf,hn,e,hd⟩,ih (fun b hb=>hs b (by unfold jq;rw [List.filterMap_cons,hf];exact List.mem_cons_of_mem _ hb)) hr⟩
 exact all X.outer (fun _ hb=>hb) I.ok.funs
theorem az.stack(I:az X pins σ H s):s.heap.FunFrames X.base X.stack:=by
 rcases I.ok.stk with e | ⟨e,hf⟩
 ·rw [e];exact I.funs
 ·rw [e]
  obtain⟨m,hn,_⟩:=I.loc
  refine .cons (by rw [I.ok.kind];decide) hf hn ?_ I.funs
  exact Heap.get?_none_of_le (Nat.le_trans I.ok.bsz I.ok.above)
theorem az.stkSub(I:az X pins σ H s):∀b∈jq X.stack,b∈X.env.locals::X.fs:=fun b hb=>by
 rcases I.ok.stk with e | ⟨e,hf⟩
 ·rw [e]at hb;exact List.mem_cons_of_mem _ hb
 ·rw [e]at hb
  unfold jq at hb
  rw [List.filterMap_cons,hf]at hb
  exact hb
theorem az.stkFree(I:az X pins σ H s):∀b∈jq X.stack,H b=none:=fun b hb=>by
 rcases List.mem_cons.mp (I.stkSub b hb)with e | hb
 ·rw [e];exact I.free
 ·obtain⟨_,o,ho,_⟩:=I.ok.funs.mem hb
  exact I.base.free b o ho (I.ok.frf b hb) fun z=>I.ok.exfs b z hb
theorem az.step{g':Array GenState}{t':Nat}{d':Drawn}{ch:List Addr}(I:az X pins σ H s)
  (hch:∀b∈ch,(b∈X.ex∨X.s₀.heap.objs.size≤b)∧b≠X.env.locals∧(∀x c,X.env.cells.lookup x=some c→c≠b)∧∀p∈X.pn++pins,p.1≠b)
  (keep:∀b o,b≠X.env.locals→b∉X.fs→b∉ch→s.heap.get? b=some o→H b=none→h'.get? b=some o)
  (slot:∀b o,b≠X.env.locals→b∈X.fs→b∉ch→s.heap.get? b=some o→H b=none→∃sl,h'.get? b=some { o with slots:=sl }) (free:∀b o,b∉ch→s.heap.get? b=some o→H b=none→H' b=none)
  (there:∀b o,b∉ch→s.heap.get? b=some o→∃o',h'.get? b=some o')
  (tups:∀b xs,H b=some (.tup xs)→H' b=some (.tup xs)) (frzs:∀b o u,H b=some (.frz o u)→H' b=some (.frz o u)) (tbls:∀b ps,H b=some (.tbl ps)→∃more,H' b=some (.tbl (ps++more)))
  (ns:∀m,s.heap.Ns X.env.locals m→h'.Ns X.env.locals m) (hok:fR X.prog X.w H' h') (hg:AllBare g') :
  az X pins σ H' { s with heap:=h',gens:=g',drawn:=d',toks:=t' }:=by
 have neL:∀b o,X.s₀.heap.get? b=some o→b≠X.env.locals:=fun b o e=>Nat.ne_of_lt (Nat.lt_of_lt_of_le (Heap.lt_size e) I.ok.above)
 have neC:∀b o,X.s₀.heap.get? b=some o→b∉X.ex→b∉ch:=fun b o e hx hb=>by
  rcases(hch b hb).1 with z | z
  ·exact hx z
  ·exact absurd (Nat.lt_of_lt_of_le (Heap.lt_size e) z) (Nat.lt_irrefl _)
 have cellK:∀x c,X.env.cells.lookup x=some c→∀v,s.heap.IsCell c v→h'.IsCell c v:=fun x c e v ⟨o,ho,hd⟩=>by
  have nch:c∉ch:=fun z=>(hch c z).2.2.1 x c e rfl
  by_cases hc:c∈X.fs
  ·obtain⟨sl,q⟩:=slot c o (I.cne x c e) hc nch ho (I.freeC x c e)
   exact⟨_,q,hd⟩
  ·exact⟨o,keep c o (I.cne x c e) hc nch ho (I.freeC x c e),hd⟩
 refine⟨I.ok,I.os,hg,⟨fun b o e n hb hx=>?_,fun b o e n hb hx=>?_,fun b o e n hx=>?_,fun b o e hx=>?_,fun b xs e=>tups b xs (I.base.tups b xs e),fun b o xs e=>frzs b o xs (I.base.frzs b o xs e),fun b ps e=>?_⟩,?_,fun x c e=>?_,?_,fun x c e=>?_,fun p hp=>?_,hok,I.len⟩
 ·exact keep b o (neL b o e) hb (neC b o e hx) (I.base.keep b o e n hb hx) (I.base.free b o e n hx)
 ·obtain⟨sl,e1⟩:=I.base.slot b o e n hb hx
  obtain⟨sl',e2⟩:=slot b _ (neL b o e) hb (neC b o e hx) e1 (I.base.free b o e n hx)
  exact⟨sl',e2⟩
 ·obtain⟨o',e1⟩:=I.base.there b o e hx
  exact free b o' (neC b o e hx) e1 (I.base.free b o e n hx)
 ·obtain⟨o',e1⟩:=I.base.there b o e hx
  exact there b o' (neC b o e hx) e1
 ·obtain⟨m1,e1⟩:=I.base.tbls b ps e
  obtain⟨m2,e2⟩:=tbls b _ e1
  exact⟨m1++m2,by rw [e2,Array.append_assoc]⟩
 ·obtain⟨m,hn,hl⟩:=I.loc
  refine⟨m,ns m hn,fun i x v e1 e2 e3=>?_⟩
  obtain⟨u,r,l⟩:=hl i x v e1 e2 e3
  refine⟨u,r,?_⟩
  rcases l with l | ⟨k,c,e,z⟩
  ·exact .inl l
  ·exact .inr ⟨k,c,e,cellK x c e _ z⟩
 ·obtain⟨v,z⟩:=I.cell x c e
  exact⟨v,cellK x c e v z⟩
 ·obtain⟨m,⟨o,_,_,ho,_⟩,_⟩:=I.loc
  exact free _ o (fun z=>(hch _ z).2.1 rfl) ho I.free
 ·obtain⟨v,o,ho,hd⟩:=I.cell x c e
  exact free c o (fun z=>(hch c z).2.2.1 x c e rfl) ho (I.freeC x c e)
 ·obtain⟨e,n,ne,nf,d⟩:=I.pin p hp
  have nch:p.1∉ch:=fun z=>(hch p.1 z).2.2.2 p hp rfl
  exact⟨keep p.1 p.2 ne nf nch e n,free p.1 p.2 nch e n,ne,nf,d⟩
theorem az.un{t':Nat}(I:az X pins σ H s)(u:Un X.fs [] H H' s.heap h')(hok:fR X.prog X.w H' h'):az X pins σ H' { s with heap:=h',toks:=t' }:=by
 obtain⟨m,⟨o,es,ep,ho,r⟩,_⟩:=id I.loc
 obtain⟨sl,hL⟩:=u.any ho I.free (by simp)
 exact I.step (g':=s.gens) (d':=s.drawn) (ch:=[]) (fun _ z=>nomatch z) (fun b o _ hb _ e n=>u.keep b o e n hb (by simp)) (fun b o _ hb _ e n=>u.slot b o e n hb (by simp)) (fun b o _ e n=>u.free b o e n (by simp)) (fun b o _ e=>u.there b o e (by simp)) u.tups u.frzs u.tbls (fun m' hm=>by
  obtain⟨o',es',ep',ho',r'⟩:=hm
  rw [ho]at ho';cases ho'
  exact⟨_,es',ep',hL,r'⟩) hok I.bare
theorem az.call{g':Array GenState}{t':Nat}{d':Drawn}{ch:List Addr}(I:az X pins σ H s)(u:Un (jq X.stack) ch H H' s.heap h')(hok:fR X.prog X.w H' h')(hg:AllBare g')
  (hch:∀b∈ch,(b∈X.ex∨X.s₀.heap.objs.size≤b)∧b≠X.env.locals∧(∀x c,X.env.cells.lookup x=some c→c≠b)∧∀p∈X.pn++pins,p.1≠b) :
  az X pins σ H' { s with heap:=h',gens:=g',drawn:=d',toks:=t' }:=by
 obtain⟨m,⟨o,es,ep,ho,r⟩,_⟩:=id I.loc
 obtain⟨sl,hL⟩:=u.any ho I.free fun z=>(hch _ z).2.1 rfl
 exact I.step (ch:=ch) hch (fun b o hL hb hc e n=>u.keep b o e n (fun z=>(List.mem_cons.mp (I.stkSub b z)).elim hL hb) hc) (fun b o _ _ hc e n=>u.any e n hc) (fun b o hc e n=>u.free b o e n hc) (fun b o hc e=>u.there b o e hc) u.tups u.frzs u.tbls (fun m' hm=>by
  obtain⟨o',es',ep',ho',r'⟩:=hm
  rw [ho]at ho';cases ho'
  exact⟨_,es',ep',hL,r'⟩) hok hg
theorem az.turned{t':Nat}{it:Addr}(I:az X pins σ H s)(k:∀b o,b≠it→s.heap.get? b=some o→h'.get? b=some o)(hn:H it=none)(hL:it≠X.env.locals)
  (h1:it∈X.ex∨X.s₀.heap.objs.size≤it) (h2:∀x c,X.env.cells.lookup x=some c→c≠it) (h3:∀p∈X.pn++pins,p.1≠it):az X pins σ H { s with heap:=h',toks:=t' }:=by
 have nit:∀b u,H b=some u→b≠it:=fun b u e z=>by rw [z,hn]at e;cases e
 refine I.step (g':=s.gens) (d':=s.drawn) (ch:=[it]) (fun b hb=>?_) (fun b o _ _ hc e _=>k b o (fun z=>hc (by simp [z])) e) (fun b o _ _ hc e _=>⟨o.slots,k b o (fun z=>hc (by simp [z])) e⟩) (fun _ _ _ _ n=>n)
  (fun b o hc e=>⟨o,k b o (fun z=>hc (by simp [z])) e⟩) (fun _ _ e=>e) (fun _ _ _ e=>e) (fun b ps e=>⟨#[],by rw [e];simp⟩) (fun m hm=>?_) (fun b u e=>?_) I.bare
 ·have e:b=it:=by simpa using hb
  subst e
  exact⟨h1,hL,h2,h3⟩
 ·obtain⟨o,es,ep,ho,r⟩:=hm
  exact⟨o,es,ep,k _ o (Ne.symm hL) ho,r⟩
 ·refine(I.hok b u e).stay (fun c v hc q=>k c v ?_ q) (fun _ q=>q) fun _ _ q=>q
  rcases hc with z | z
  ·rw [z];exact nit b u e
  ·exact nit c _ z
theorem az.tok(I:az X pins σ H s)(t:Nat):az X pins σ H { s with toks:=t }:=I.un (h':=s.heap) (t':=t) Un.refl I.hok
theorem az.kept{t':Nat}(I:az X pins σ H s)(k:∀b u,s.heap.get? b=some u→h'.get? b=some u):az X pins σ H { s with heap:=h',toks:=t' }:=I.un (Un.kept k) (I.hok.kept k)
theorem az.laid{a:Addr}{o:HO}{t':Nat}(I:az X pins σ H s)(k:∀b u,s.heap.get? b=some u→h'.get? b=some u)(hp:s.heap.objs.size≤a)(new:bD X.prog X.w (upd H a o) h' a o):
  az X pins σ (upd H a o) { s with heap:=h',toks:=t' }:=I.un (Un.laid k hp (I.hok.fresh hp)) (I.hok.laid k hp new)
theorem az.write{x e:Addr}{o:HO}{t':Nat}(I:az X pins σ H s)(mu:zq (H x))(he:e=x∨H e=some (.own x))(k:∀b u,b≠e→s.heap.get? b=some u→h'.get? b=some u)(heo:∃u,h'.get? e=some u)
  (new:bD X.prog X.w (upd H x o) h' x o):az X pins σ (upd H x o) { s with heap:=h',toks:=t' }:=I.un (Un.write mu he k heo) (I.hok.write mu he k heo new)
theorem az.pins_of{pins':List (Addr×Obj)}(I:az X pins σ H s)(h:∀p∈pins',s.heap.get? p.1=some p.2∧H p.1=none∧p.1≠X.env.locals∧p.1∉X.fs∧∀v,p.2.data≠.cell v):az X pins' σ H s:=
 ⟨I.ok,I.os,I.bare,I.base,I.loc,I.cell,I.free,I.freeC,fun p hp=>(List.mem_append.mp hp).elim (fun z=>I.pin p (List.mem_append_left _ z)) (h p),I.hok,I.len⟩
theorem i5{N:List Str}(hN:N.Nodup){i j:Nat}{x:Str}(a:N[i]?=some x)(b:N[j]?=some x):i=j:=by
 obtain⟨h1,e1⟩:=List.getElem?_eq_some_iff.mp a
 obtain⟨h2,e2⟩:=List.getElem?_eq_some_iff.mp b
 exact(List.getElem_inj hN).mp (e1.trans e2.symm)
theorem km{M:Model}{A:Around}{E:Value→Shared→Prop}{i:Nat}{x:Str}{v:V}{u:Value}{Q:Unit→Shared→Prop}(I:az X pins σ H s)(hN:X.N.Nodup)(hi:X.N[i]?=some x)(hx:uT X.env.scope x)(r:aG v u)
  (h:∀s',az X pins (σ.set i (some v)) H s'→(∃a,Heap.SameBut a s.heap s'.heap∧(a=X.env.locals∨X.env.cells.lookup x=some a))→Q () s') (hf:X.fn x=true∨X.env.scope.names.lookup x=some .local:=by first | exact .inl rfl | exact .inr rfl | assumption):wpAny M A (storeName X.env x u) Q E s:=by
 obtain⟨m,hn,hl⟩:=id I.loc
 have hcls:(X.env.scope.kind == .class || (X.env.scope.kind == .module && X.env.locals != X.env.globals))=false:=by rw [I.ok.kind];rfl
 have hiσ:i < σ.length:=by rw [I.len];exact(List.getElem?_eq_some_iff.mp hi).1
 have cne:=I.cne
 have tracked:∀{a:Addr} {h':Heap},(∃o,s.heap.get? a=some o∧H a=none)→Heap.SameBut a s.heap h'→fR X.prog X.w H h':=fun {a h'} ha hs b ob e=>by
  obtain⟨_,_,hfree⟩:=ha
  refine(I.hok b ob e).stay (fun c w' hc q=>(hs.2 c ?_).trans q) (fun _ q=>q) fun _ _ q=>q
  rintro rfl
  rcases hc with rfl | hc
  ·rw [hfree]at e;cases e
  ·rw [hfree]at hc;cases hc
 rcases hx with hk | hk
 ·refine wpAny_storeName_local hk hn (fun h' hn' hs=>?_) hcls
  obtain⟨oL,_,_,hoL,_⟩:=id hn
  refine h _ ⟨I.ok,I.os,I.bare,⟨fun b o e n hb hx=>?_,fun b o e n hb hx=>?_,I.base.free,fun b o e hx=>?_,I.base.tups,I.base.frzs,I.base.tbls⟩,⟨_,hn',fun j y v' e1 e2 e3=>?_⟩,fun y c e=>?_,I.free,I.freeC,fun p hp=>?_,tracked ⟨oL,hoL,I.free⟩ hs,by simpa using I.len⟩ ⟨_,hs,.inl rfl⟩
  ·exact(hs.2 b (Nat.ne_of_lt (Nat.lt_of_lt_of_le (Heap.lt_size e) I.ok.above))).trans (I.base.keep b o e n hb hx)
  ·obtain⟨sl,e1⟩:=I.base.slot b o e n hb hx
   exact⟨sl,(hs.2 b (Nat.ne_of_lt (Nat.lt_of_lt_of_le (Heap.lt_size e) I.ok.above))).trans e1⟩
  ·obtain⟨o',e1⟩:=I.base.there b o e hx
   exact⟨o',(hs.2 b (Nat.ne_of_lt (Nat.lt_of_lt_of_le (Heap.lt_size e) I.ok.above))).trans e1⟩
  ·by_cases hj:j=i
   ·subst hj
    rw [hi]at e1;cases e1
    rw [List.getElem?_set_self hiσ]at e2
    cases e2
    exact⟨u,r,.inl ⟨hk,by simp⟩⟩
   ·rw [List.getElem?_set_ne (Ne.symm hj)]at e2
    obtain⟨u',r',q⟩:=hl j y v' e1 e2 e3
    refine⟨u',r',?_⟩
    rcases q with⟨k,e⟩ | ⟨k,c,e,z⟩
    ·refine .inl ⟨k,?_⟩
     have:y≠x:=fun e=>hj (i5 hN e1 (e▸hi))
     simp [this,e]
    ·exact .inr ⟨k,c,e,z.sameBut hs (cne y c e)⟩
  ·obtain⟨w',z⟩:=I.cell y c e
   exact⟨w',z.sameBut hs (cne y c e)⟩
  ·obtain⟨e,n,ne,nf,d⟩:=I.pin p hp
   exact⟨(hs.2 p.1 ne).trans e,n,ne,nf,d⟩
 ·have hfn:X.fn x=true:=by
   rcases hf with z | z
   ·exact z
   ·rw [z]at hk;cases hk
  obtain⟨c,hc⟩:=I.ok.has x (.inl hk)
  obtain⟨w',z⟩:=I.cell x c hc
  refine wpAny_storeName_cell I.ok.kind hk hc z (fun h' hc' hs=>?_)
  obtain⟨oc,hoc,hocd⟩:=id z
  refine h { s with heap:=h' } ⟨I.ok,I.os,I.bare,⟨fun b o e n hb hx=>?_,fun b o e n hb hx=>?_,I.base.free,fun b o e hx=>?_,I.base.tups,I.base.frzs,I.base.tbls⟩,⟨m,hn.sameBut hs (Ne.symm (cne x c hc)),fun j y v' e1 e2 e3=>?_⟩,fun y c' e=>?_,I.free,I.freeC,fun p hp=>?_,tracked ⟨oc,hoc,I.freeC x c hc⟩ hs,by simpa using I.len⟩ ⟨c,hs,.inr hc⟩
  ·exact(hs.2 b (Nat.ne_of_lt (Nat.lt_of_lt_of_le (Heap.lt_size e) (I.ok.cab x c hfn hc)))).trans (I.base.keep b o e n hb hx)
  ·obtain⟨sl,e1⟩:=I.base.slot b o e n hb hx
   exact⟨sl,(hs.2 b (Nat.ne_of_lt (Nat.lt_of_lt_of_le (Heap.lt_size e) (I.ok.cab x c hfn hc)))).trans e1⟩
  ·obtain⟨o',e1⟩:=I.base.there b o e hx
   exact⟨o',(hs.2 b (Nat.ne_of_lt (Nat.lt_of_lt_of_le (Heap.lt_size e) (I.ok.cab x c hfn hc)))).trans e1⟩
  ·by_cases hj:j=i
   ·subst hj
    rw [hi]at e1;cases e1
    rw [List.getElem?_set_self hiσ]at e2
    cases e2
    exact⟨u,r,.inr ⟨.inl hk,c,hc,hc'⟩⟩
   ·rw [List.getElem?_set_ne (Ne.symm hj)]at e2
    obtain⟨u',r',q⟩:=hl j y v' e1 e2 e3
    refine⟨u',r',?_⟩
    rcases q with q | ⟨k,c',e,z'⟩
    ·exact .inl q
    ·refine .inr ⟨k,c',e,z'.sameBut hs ?_⟩
     rintro rfl
     exact hj (i5 hN e1 (I.ok.inj _ _ _ e hc▸hi))
  ·by_cases hcc:c'=c
   ·subst hcc;exact⟨_,hc'⟩
   ·obtain⟨w2,z2⟩:=I.cell y c' e
    exact⟨w2,z2.sameBut hs hcc⟩
  ·obtain⟨e,n,ne,nf,d⟩:=I.pin p hp
   refine⟨(hs.2 p.1 ?_).trans e,n,ne,nf,d⟩
   intro q
   rw [q,hoc]at e
   have q':oc=p.2:=Option.some.inj e
   exact d w' (by rw [←q'];exact hocd)
theorem dX{M:Model}{A:Around}{E:Value→Shared→Prop}{i:Nat}{x:Str}{v:V}{u:Value}{Q:Unit→Shared→Prop}(I:az X pins σ H s)(hN:X.N.Nodup)(hi:X.N[i]?=some x)(hx:uT X.env.scope x)(r:aG v u)
  (h:∀s',az X pins (σ.set i (some v)) H s'→Q () s') (hf:X.fn x=true∨X.env.scope.names.lookup x=some .local:=by first | exact .inl rfl | exact .inr rfl | assumption):wpAny M A (storeName X.env x u) Q E s:=
 km I hN hi hx r (fun s' I' _=>h s' I') hf
theorem az.call'{s':Shared}{ch:List Addr}(I:az X pins σ H s)(ho:s'.os=s.os)(u:Un (jq X.stack) ch H H' s.heap s'.heap)(hok:fR X.prog X.w H' s'.heap)(hg:AllBare s'.gens)
  (hch:∀b∈ch,(b∈X.ex∨X.s₀.heap.objs.size≤b)∧b≠X.env.locals∧(∀x c,X.env.cells.lookup x=some c→c≠b)∧∀p∈X.pn++pins,p.1≠b):az X pins σ H' s':=by
 obtain⟨h',g',d',t',o'⟩:=s'
 have e:o'=s.os:=ho
 subst e
 exact I.call (g':=g') (t':=t') (d':=d') u hok hg hch
end
abbrev XK:=Value→Option Addr→Hp→Prop
abbrev St:=List (Option V)
abbrev VK:=V→Hp→Prop
abbrev TE:=St→Hp→VK→Prop
abbrev TT:=St→Hp→(Bool→Hp→Prop)→Prop
abbrev TA:=St→Hp→(List V→Hp→Prop)→Prop
structure fk where
 nx:St→Hp→Prop
 rt:VK
 bk:St→Hp→Prop:=fun _ _=>False
 ct:St→Hp→Prop:=fun _ _=>False
abbrev TS:=fk→St→Hp→Prop
def EP(X:Cx)(pins:List (Addr×Obj))(σ:St)(Q:VK)(u:Value)(s':Shared):Prop:=∃v H',az X pins σ H' s'∧aG v u∧Q v H'
def TP(X:Cx)(pins:List (Addr×Obj))(σ:St)(Q:Bool→Hp→Prop)(b:Bool)(s':Shared):Prop:=∃H',az X pins σ H' s'∧Q b H'
def AP(X:Cx)(pins:List (Addr×Obj))(σ:St)(Q:List V→Hp→Prop)(us:List Value)(s':Shared):Prop:=∃vs H',az X pins σ H' s'∧aC vs us∧Q vs H'
def SP(X:Cx)(pins:List (Addr×Obj))(D:fk)(f:Flow)(s':Shared):Prop:=
 match f with
 | .next=>∃σ' H',az X pins σ' H' s'∧D.nx σ' H'
 | .brk=>∃σ' H',az X pins σ' H' s'∧D.bk σ' H'
 | .cont=>∃σ' H',az X pins σ' H' s'∧D.ct σ' H'
 | .ret u=>∃v σ' H',az X pins σ' H' s'∧aG v u∧D.rt v H'
def PE(X:Cx)(e:Expr)(t:TE):Prop:=
 ∀(pins:List (Addr×Obj)) (s:Shared) (σ:St) (H:Hp) (Q:VK),az X pins σ H s→t σ H Q→wpAny (model X.prog X.w) X.A (eval e X.env) (EP X pins σ Q) X.xe s
def PT(X:Cx)(e:Expr)(t:TT):Prop:=
 ∀(pins:List (Addr×Obj)) (s:Shared) (σ:St) (H:Hp) (Q:Bool→Hp→Prop),az X pins σ H s→t σ H Q→wpAny (model X.prog X.w) X.A (isTrue e X.env (eval e X.env)) (TP X pins σ Q) X.xe s
def PW(X:Cx)(e:Expr)(t:TT):Prop:=
 ∀(whole:Sem Value) (pins:List (Addr×Obj)) (s:Shared) (σ:St) (H:Hp) (Q:Bool→Hp→Prop),az X pins σ H s→t σ H Q→wpAny (model X.prog X.w) X.A (isTrue e X.env whole) (TP X pins σ Q) X.xe s
theorem PW.pt{X:Cx}{e:Expr}{t:TT}(h:PW X e t):PT X e t:=h _
def PA(X:Cx)(es:List Expr)(t:TA):Prop:=
 ∀(pos:Pos) (pins:List (Addr×Obj)) (s:Shared) (σ:St) (H:Hp) (Q:List V→Hp→Prop),az X pins σ H s→t σ H Q→wpAny (model X.prog X.w) X.A (spliced (backTo pos (starEach es X.env))) (AP X pins σ Q) X.xe s
def PS(X:Cx)(st:Stmt)(t:TS):Prop:=
 ∀(pins:List (Addr×Obj)) (s:Shared) (σ:St) (H:Hp) (D:fk),az X pins σ H s→t D σ H→wpAny (model X.prog X.w) X.A (exec st X.env) (SP X pins D) X.xe s
def nL(X:Cx)(st:List Stmt)(t:TS):Prop:=
 ∀(pins:List (Addr×Obj)) (s:Shared) (σ:St) (H:Hp) (D:fk),az X pins σ H s→t D σ H→wpAny (model X.prog X.w) X.A (execs st X.env) (SP X pins D) X.xe s
theorem bz{α:Type}{t:Sem α}{Q Q':α→Shared→Prop}{M:Model}{A:Around}{E:Value→Shared→Prop}{s:Shared}(h:wpAny M A t Q E s)(hQ:∀a s,Q a s→Q' a s):wpAny M A t Q' E s:=wpAny_mono h hQ fun _ _ x=>x
end L2
namespace L2
open PySem PySem.Spec PyProof.Rows
section
variable {X:Cx}
theorem bin{a b:Expr}{ta tb:TE}(ha:PE X a ta)(hb:PE X b tb){pins:List (Addr×Obj)}{s:Shared}{σ:St}{H:Hp}{R:V→V→Hp→Prop}(I:az X pins σ H s)(h:ta σ H fun x H1=>tb σ H1 fun y H2=>R x y H2)
  {α:Type} {Q:α→Shared→Prop} {f:Value→Value→Sem α}
  (hf:∀v u s2 x y H2,az X pins σ H2 s2→aG x v→aG y u→R x y H2→wpAny (model X.prog X.w) X.A (f v u) Q X.xe s2) :
  wpAny (model X.prog X.w) X.A (eval a X.env) (fun v s₁=>wpAny (model X.prog X.w) X.A (eval b X.env) (fun u s₂=>wpAny (model X.prog X.w) X.A (f v u) Q X.xe s₂) X.xe s₁) X.xe s:=by
 refine bz (ha pins s σ H _ I h) fun v s1 ⟨x,H1,I1,r1,q1⟩=>?_
 refine bz (hb pins s1 σ H1 _ I1 q1) fun u s2 ⟨y,H2,I2,r2,q2⟩=>?_
 exact hf v u s2 x y H2 I2 r1 r2 q2
def yg(i:Nat):TE:=fun σ H Q=>∃v,σ[i]?=some (some v)∧Q v H
def tC(v:V):TE:=fun _ H Q=>Q v H
theorem t9{i:Nat}{x:Str}{pos:Pos}(hN:X.N[i]?=some x)(hv:zu X.env.scope x)(hd:(x == ("__debug__":Str))=false:=by decide)(hcd:(x == ("__classdict__":Str))=false:=by decide):PE X (.Name x pos) (yg i):=by
 intro pins s σ H Q I h
 obtain⟨v,e,h⟩:=h
 obtain⟨m,hn,hl⟩:=I.loc
 obtain⟨u,r,l⟩:=hl i x v hN e hv
 have fin:EP X pins σ Q u s:=⟨v,H,I,r,h⟩
 rcases l with⟨hk,hm⟩ | ⟨hk,c,hc,hcell⟩
 ·exact wpAny_Name (wpAny_loadName_local I.ok.kind hk hn hm fin) hd
 ·rcases hk with hk | hk
  ·exact wpAny_Name (wpAny_loadName_cell I.ok.kind hk hc hcell fin) hd
  ·exact wpAny_Name (wpAny_loadName_free I.ok.kind hk hc hcell fin hcd) hd
theorem af{i j pos}:PE X (.Constant (.int i) j pos) (tC (.int i)):=fun _ _ _ H _ I h=>wpAny_Constant_int ⟨.int i,H,I.tok _,⟨_,rfl⟩,h⟩
theorem eL{b j pos}:PE X (.Constant (.bool b) j pos) (tC (.bl b)):=fun _ _ _ H _ I h=>Constant_bool ⟨.bl b,H,I,rfl,h⟩
theorem bh{j pos}:PE X (.Constant .none j pos) (tC .non):=fun _ _ _ H _ I h=>Constant_none ⟨.non,H,I,rfl,h⟩
theorem aT{x j pos}:PE X (.Constant (.str x) j pos) (tC (.str x)):=fun _ _ _ H _ I h=>Calls.Constant_str ⟨.str x,H,I.tok _,⟨_,rfl⟩,h⟩
def Gl(X:Cx)(x:Str):Prop:=X.env.kindOf x=some .globalImplicit
theorem fb{E:Value→Shared→Prop}{pins:List (Addr×Obj)}{s:Shared}{σ:St}{H:Hp}{x:Str}{u:Value}{pos:Pos}{Q:Value→Shared→Prop}(I:az X pins σ H s)(hg:Gl X x)(hm:X.mg x=some u)(h:Q u s)
  (hd:(x == ("__debug__":Str))=false:=by decide):wpAny (model X.prog X.w) X.A (eval (.Name x pos) X.env) Q E s:=
 Calls.Name_function_global I.ok.kind hg (Calls.loadGlobal_global (by rw [I.ok.glob];exact I.mod.glob.keeps I.bk) hm h) hd
theorem eE{E:Value→Shared→Prop}{pins:List (Addr×Obj)}{s:Shared}{σ:St}{H:Hp}{x:Str}{u:Value}{pos:Pos}{Q:Value→Shared→Prop}(I:az X pins σ H s)(hg:Gl X x)(hm:X.mg x=none)(hv:bootBuiltins x=some u)(h:Q u s)
  (hn:x≠"__name__":=by decide) (hd:(x == ("__debug__":Str))=false:=by decide):wpAny (model X.prog X.w) X.A (eval (.Name x pos) X.env) Q E s:=by
 obtain⟨mb,h1,h2⟩:=I.mod.blt
 exact Calls.Name_function_global I.ok.kind hg (Calls.loadGlobal_builtin (by rw [I.ok.glob];exact I.mod.glob.keeps I.bk) hm (by rw [I.ok.blt];exact h1.keeps I.bk) ((h2 x hn).trans hv) h) hd
theorem vP{x:Str}{v:V}{u:Value}{pos:Pos}(hg:Gl X x)(hm:X.mg x=some u)(r:aG v u)(hd:(x == ("__debug__":Str))=false:=by decide):PE X (.Name x pos) (tC v):=
 fun _ _ _ H _ I h=>fb I hg hm ⟨v,H,I,r,h⟩ hd
theorem dy{x:Str}{v:V}{u:Value}{pos:Pos}(hg:Gl X x)(hm:X.mg x=none)(hv:bootBuiltins x=some u)(r:aG v u)(hn:x≠"__name__":=by decide)(hd:(x == ("__debug__":Str))=false:=by decide):PE X (.Name x pos) (tC v):=
 fun _ _ _ H _ I h=>eE I hg hm hv ⟨v,H,I,r,h⟩ hn hd
variable {a b:Expr} {ta tb:TE} {pos:Pos}
variable {tA tB':TT} {rest:List Expr}
def x8(t u:TT):TT:=fun σ H Q=>t σ H fun c H1=>if c=true then u σ H1 Q else Q false H1
def z4(t u:TT):TT:=fun σ H Q=>t σ H fun c H1=>if c=true then Q true H1 else u σ H1 Q
def yb(t:TT):TT:=fun σ H Q=>t σ H fun c H1=>Q (!c) H1
theorem p9(ha:PT X a tA):PW X (.BoolOp .And [a] pos) tA:=by
 intro wh pins s σ H Q I h
 refine isTrue_and (bz (ha pins s σ H Q I h) fun c s1 e=>?_)
 cases c with
 | true=>exact isTrue_and_nil e
 | false=>exact e
theorem bS(ha:PT X a tA):PW X (.BoolOp .Or [a] pos) tA:=by
 intro wh pins s σ H Q I h
 refine isTrue_or (bz (ha pins s σ H Q I h) fun c s1 e=>?_)
 cases c with
 | false=>exact isTrue_or_nil e
 | true=>exact e
theorem oO(ha:PT X a tA)(hb:PW X (.BoolOp .And (b::rest) pos) tB'):PW X (.BoolOp .And (a::b::rest) pos) (x8 tA tB'):=by
 intro wh pins s σ H Q I h
 refine isTrue_and (bz (ha pins s σ H _ I h) fun c s1 ⟨H1,I1,q1⟩=>?_)
 cases c with
 | true=>exact hb wh pins s1 σ H1 Q I1 q1
 | false=>exact⟨H1,I1,q1⟩
theorem bE(ha:PT X a tA)(hb:PW X (.BoolOp .Or (b::rest) pos) tB'):PW X (.BoolOp .Or (a::b::rest) pos) (z4 tA tB'):=by
 intro wh pins s σ H Q I h
 refine isTrue_or (bz (ha pins s σ H _ I h) fun c s1 ⟨H1,I1,q1⟩=>?_)
 cases c with
 | true=>exact⟨H1,I1,q1⟩
 | false=>exact hb wh pins s1 σ H1 Q I1 q1
theorem bC(ha:PT X a tA):PT X (.UnaryOp .Not a pos) (yb tA):=by
 intro pins s σ H Q I h
 exact isTrue_not (ha pins s σ H (fun c H1=>Q (!c) H1) I h)
def nE(ta tb:TE):TE:=fun σ H Q=>ta σ H fun x H1=>∃c,x=.bl c∧if c=true then tb σ H1 Q else Q (.bl false) H1
def uO(ta tb:TE):TE:=fun σ H Q=>ta σ H fun x H1=>∃c,x=.bl c∧if c=true then Q (.bl true) H1 else tb σ H1 Q
def zh(ta:TE):TE:=fun σ H Q=>ta σ H fun x H1=>∃c,x=.bl c∧Q (.bl (!c)) H1
theorem oJ{op}{t:TE}(h:PE X a t):PE X (.BoolOp op [a] pos) t:=fun pins s σ H Q I hw=>BoolOp_one (h pins s σ H Q I hw)
theorem oH(ha:PE X a ta)(hb:PE X (.BoolOp .And (b::rest) pos) tb):PE X (.BoolOp .And (a::b::rest) pos) (nE ta tb):=by
 intro pins s σ H Q I h
 refine BoolOp_and (bz (ha pins s σ H _ I h) fun v s1 ⟨x,H1,I1,r1,q1⟩=>?_)
 obtain⟨c,rfl,q1⟩:=q1
 cases r1
 refine wpAny_truthy_bool ?_
 cases c with
 | true=>exact hb pins s1 σ H1 Q I1 q1
 | false=>exact⟨.bl false,H1,I1,rfl,q1⟩
theorem y0(ha:PE X a ta)(hb:PE X (.BoolOp .Or (b::rest) pos) tb):PE X (.BoolOp .Or (a::b::rest) pos) (uO ta tb):=by
 intro pins s σ H Q I h
 refine BoolOp_or (bz (ha pins s σ H _ I h) fun v s1 ⟨x,H1,I1,r1,q1⟩=>?_)
 obtain⟨c,rfl,q1⟩:=q1
 cases r1
 refine wpAny_truthy_bool ?_
 cases c with
 | false=>exact hb pins s1 σ H1 Q I1 q1
 | true=>exact⟨.bl true,H1,I1,rfl,q1⟩
def z3(t:TT)(ta tb:TE):TE:=fun σ H Q=>t σ H fun c H1=>if c=true then ta σ H1 Q else tb σ H1 Q
theorem eO{c:Expr}(hc:PT X c tA)(ha:PE X a ta)(hb:PE X b tb):PE X (.IfExp c a b pos) (z3 tA ta tb):=by
 intro pins s σ H Q I h
 refine wpAny_IfExp (bz (hc pins s σ H _ I h) fun d s1 ⟨H1,I1,q1⟩=>?_)
 cases d with
 | true=>exact ha pins s1 σ H1 Q I1 q1
 | false=>exact hb pins s1 σ H1 Q I1 q1
end
end L2
namespace L2
open PySem PySem.Spec PyProof.Rows
def aO(K:PySem.W.Frag)(H:Hp)(a:Addr)(xs:List V):Prop:=
 Rd H a (.lst xs)∨
  ∃(o:Obj) (its:Array Value) (n:Nat),K.lookup a=some o∧o.cls=.type "list"∧o.dict=none∧o.data=.seq its n∧its.size≤sizeLine∧aC xs its.toList
def cA(K:PySem.W.Frag)(H:Hp)(a:Addr)(xs:List V):Prop:=
 Rd H a (.tup xs)∨
  ∃(o:Obj) (its:Array Value) (n:Nat),K.lookup a=some o∧o.cls=.type "tuple"∧o.data=.seq its n∧its.size≤sizeLine∧aC xs its.toList
def zN:Value→Option V
 | .none=>some .non
 | .bool b=>some (.bl b)
 | .int i _=>some (.int i)
 | .str x _=>some (.str x)
 | .bytes b _=>some (.byt b)
 | .float b _=>some (.flt b)
 | .ref a=>some (.ref a)
 | .type n=>some (.ty n)
 | _=>none
theorem aG.abs{x:V}{u:Value}(r:aG x u):zN u=some x:=by
 cases x with
 | non=>cases r;rfl
 | bl _=>cases r;rfl
 | int _=>obtain⟨t,rfl⟩:=r;rfl
 | str _=>obtain⟨t,rfl⟩:=r;rfl
 | byt _=>obtain⟨t,rfl⟩:=r;rfl
 | flt _=>obtain⟨t,rfl⟩:=r;rfl
 | ref _=>cases r;rfl
 | ty _=>cases r;rfl
theorem aG.inj{x y:V}{u:Value}(r:aG x u)(q:aG y u):x=y:=Option.some.inj (r.abs.symm.trans q.abs)
theorem aC.inj:∀{xs ys:List V} {us:List Value},aC xs us→aC ys us→xs=ys
 | _,_,_,.nil,.nil=>rfl
 | _,_,_,.cons r t,.cons r' t'=>by rw [r.inj r',aC.inj t t']
section
variable {X:Cx} {pins:List (Addr×Obj)} {σ:St} {H:Hp} {s:Shared} {a:Addr} {xs ys:List V}
theorem aO.of{K:PySem.W.Frag}(h:H a=some (.lst xs)):aO K H a xs:=.inl (.inl h)
theorem cA.of{K:PySem.W.Frag}(h:H a=some (.tup xs)):cA K H a xs:=.inl (.inl h)
theorem az.list(I:az X pins σ H s)(h:aO X.K H a xs):∃its:List Value,aC xs its∧PlainL s.heap a its.toArray∧xs.length≤sizeLine:=by
 rcases h with h | ⟨o,its,n,hk,hc,hd,hs,hz,r⟩
 ·obtain⟨z,its,n,r,e⟩:=h.ok I.hok
  exact⟨its,r,⟨_,n,e,rfl,rfl,rfl⟩,z⟩
 ·refine⟨its.toList,r,⟨o,n,I.kIn a o hk,hc,hd,by simpa using hs⟩,?_⟩
  have e:=r.length
  simp only [Array.length_toList]at e
  omega
theorem az.tuple(I:az X pins σ H s)(h:cA X.K H a xs):∃its:List Value,aC xs its∧IsTup s.heap a its.toArray∧xs.length≤sizeLine:=by
 rcases h with h | ⟨o,its,n,hk,hc,hs,hz,r⟩
 ·obtain⟨z,its,r,p⟩:=h.ok I.hok
  exact⟨its,r,p,z⟩
 ·refine⟨its.toList,r,⟨o,I.kIn a o hk,hc,n,by simpa using hs⟩,?_⟩
  have e:=r.length
  simp only [Array.length_toList]at e
  omega
theorem az.list_inj(I:az X pins σ H s)(h:aO X.K H a xs)(h':aO X.K H a ys):xs=ys:=by
 obtain⟨its,r,⟨o,n,e,_,_,d⟩,_⟩:=I.list h
 obtain⟨its',r',⟨o',n',e',_,_,d'⟩,_⟩:=I.list h'
 rw [e]at e';cases e'
 rw [d]at d'
 injection d' with d1 _
 have:its=its':=by simpa using congrArg Array.toList d1
 subst this
 exact r.inj r'
theorem az.tuple_inj(I:az X pins σ H s)(h:cA X.K H a xs)(h':cA X.K H a ys):xs=ys:=by
 obtain⟨its,r,⟨o,e,_,n,d⟩,_⟩:=I.tuple h
 obtain⟨its',r',⟨o',e',_,n',d'⟩,_⟩:=I.tuple h'
 rw [e]at e';cases e'
 rw [d]at d'
 injection d' with d1 _
 have:its=its':=by simpa using congrArg Array.toList d1
 subst this
 exact r.inj r'
end
abbrev Cx.wish(X:Cx)(E:Value→Shared→Prop):Cx:={ X with xe:=E }
abbrev Cx.nox(X:Cx):Cx:=X.wish fun _ _=>False
theorem Cx.Ok.wish{X:Cx}(ok:X.Ok)(E:Value→Shared→Prop):(X.wish E).Ok:=
 ⟨ok.mod,ok.kind,ok.glob,ok.blt,ok.above,ok.inj,ok.has,ok.cab,ok.hd,ok.frames,ok.stk,ok.exf,ok.bs,ok.bsz,ok.noex,ok.exfs,ok.funs,ok.frf⟩
theorem Cx.Ok.unwish{X:Cx}{E:Value→Shared→Prop}(ok:(X.wish E).Ok):X.Ok:=
 ⟨ok.mod,ok.kind,ok.glob,ok.blt,ok.above,ok.inj,ok.has,ok.cab,ok.hd,ok.frames,ok.stk,ok.exf,ok.bs,ok.bsz,ok.noex,ok.exfs,ok.funs,ok.frf⟩
section
variable {X:Cx} {pins:List (Addr×Obj)} {σ:St} {H:Hp} {s:Shared} {E:Value→Shared→Prop}
theorem az.wish(I:az X pins σ H s)(E:Value→Shared→Prop):az (X.wish E) pins σ H s:=⟨I.ok.wish E,I.os,I.bare,I.base,I.loc,I.cell,I.free,I.freeC,I.pin,I.hok,I.len⟩
theorem az.unwish(I:az (X.wish E) pins σ H s):az X pins σ H s:=⟨I.ok.unwish,I.os,I.bare,I.base,I.loc,I.cell,I.free,I.freeC,I.pin,I.hok,I.len⟩
theorem SP.unwish{D:fk}{f:Flow}{s':Shared}(h:SP (X.wish E) pins D f s'):SP X pins D f s':=by
 cases f with
 | next=>obtain⟨σ',H',I,q⟩:=h;exact⟨σ',H',I.unwish,q⟩
 | brk=>obtain⟨σ',H',I,q⟩:=h;exact⟨σ',H',I.unwish,q⟩
 | cont=>obtain⟨σ',H',I,q⟩:=h;exact⟨σ',H',I.unwish,q⟩
 | ret u=>obtain⟨v,σ',H',I,r,q⟩:=h;exact⟨v,σ',H',I.unwish,r,q⟩
theorem PE.nox{e:Expr}{t:TE}(h:PE X.nox e t):PE X e t:=fun pins s σ H Q I hw=>
 wpAny_mono (h pins s σ H Q (I.wish _) hw) (fun _ _ ⟨v,H',I',r,q⟩=>⟨v,H',I'.unwish,r,q⟩) fun _ _ z=>False.elim z
theorem PT.nox{e:Expr}{t:TT}(h:PT X.nox e t):PT X e t:=fun pins s σ H Q I hw=>
 wpAny_mono (h pins s σ H Q (I.wish _) hw) (fun _ _ ⟨H',I',q⟩=>⟨H',I'.unwish,q⟩) fun _ _ z=>False.elim z
theorem nL.nox{st:List Stmt}{t:TS}(h:nL X.nox st t):nL X st t:=fun pins s σ H D I hw=>
 wpAny_mono (h pins s σ H D (I.wish _) hw) (fun _ _ q=>q.unwish) fun _ _ z=>False.elim z
end
section
variable {X:Cx} {st:Stmt} {rest:List Stmt} {t u:TS} {e:Expr} {te:TE} {pos:Pos}
def qm:TS:=fun D σ H=>D.nx σ H
def iw(t u:TS):TS:=fun D σ H=>t { D with nx:=u D } σ H
theorem aL:nL X [] qm:=fun _ _ σ H _ I h=>wpAny_execs_nil ⟨σ,H,I,h⟩
theorem ag(h1:PS X st t)(h2:nL X rest u):nL X (st::rest) (iw t u):=by
 intro pins s σ H D I h
 refine wpAny_execs_cons (bz (h1 pins s σ H { D with nx:=u D } I h) fun f s1 q=>?_)
 cases f with
 | next=>
  obtain⟨σ',H',I',q⟩:=q
  exact h2 pins s1 σ' H' D I' q
 | ret v=>exact q
 | brk=>exact q
 | cont=>exact q
theorem aj(h1:PS X st t):nL X [st] t:=by
 intro pins s σ H D I h
 refine wpAny_execs_cons (bz (h1 pins s σ H D I h) fun f s1 q=>?_)
 cases f with
 | next=>exact wpAny_execs_nil q
 | ret v=>exact q
 | brk=>exact q
 | cont=>exact q
theorem az.quiet{pins:List (Addr×Obj)}{σ:St}{H:Hp}{s:Shared}(I:az X pins σ H s):interactive X.env=false:=by simp [interactive,I.ok.kind]
def uL(te:TE):TS:=fun D σ H=>te σ H fun _ H1=>D.nx σ H1
theorem bw(he:PE X e te)(hs:swapsWith e none pos.line X.env=pure false:=by rfl):PS X (.Expr e pos) (uL te):=by
 intro pins s σ H D I h
 exact wpAny_Expr_any (bz (he pins s σ H _ I h) fun v s1 ⟨x,H1,I1,r1,q1⟩=>⟨σ,H1,I1,q1⟩) I.quiet hs
def ye(te:TE):TS:=fun D σ H=>te σ H D.rt
theorem aw(he:PE X e te):PS X (.Return (some e) pos) (ye te):=by
 intro pins s σ H D I h
 exact wpAny_Return_some (bz (he pins s σ H _ I h) fun v s1 ⟨x,H1,I1,r1,q1⟩=>⟨x,σ,H1,I1,r1,q1⟩)
def wY:TS:=fun D _ H=>D.rt .non H
def wm(c:TT)(t u:TS):TS:=fun D σ H=>c σ H fun b H1=>if b=true then t D σ H1 else u D σ H1
theorem ba{c:Expr}{a b:List Stmt}{tc:TT}(hc:PT X c tc)(ha:nL X a t)(hb:nL X b u):PS X (.If c a b pos) (wm tc t u):=by
 intro pins s σ H D I h
 refine wpAny_If (bz (hc pins s σ H _ I h) fun d s1 ⟨H1,I1,q1⟩=>?_)
 cases d with
 | true=>exact ha pins s1 σ H1 D I1 q1
 | false=>exact hb pins s1 σ H1 D I1 q1
def ya:TS:=fun _ _ _=>False
theorem jc:PS X st ya:=fun _ _ _ _ _ _ h=>h.elim
end
abbrev TG:=V→St→Hp→(St→Hp→Prop)→Prop
abbrev u3:=List V→St→Hp→(St→Hp→Prop)→Prop
def PG(X:Cx)(target:Expr)(t:TG):Prop:=
 ∀(pins:List (Addr×Obj)) (s:Shared) (σ:St) (H:Hp) (v:V) (u:Value) (Q:St→Hp→Prop),az X pins σ H s→aG v u→t v σ H Q→
  wpAny (model X.prog X.w) X.A (assign target X.env u) (fun _ s'=>∃σ' H',az X pins σ' H' s'∧Q σ' H') X.xe s
def yq(X:Cx)(ts:List Expr)(t:u3):Prop:=
 ∀(pins:List (Addr×Obj)) (s:Shared) (σ:St) (H:Hp) (vs:List V) (us:List Value) (Q:St→Hp→Prop),az X pins σ H s→aC vs us→t vs σ H Q→
  wpAny (model X.prog X.w) X.A (assignInOrder ((assignEach ts X.env).map (·.2)) us) (fun _ s'=>∃σ' H',az X pins σ' H' s'∧Q σ' H') X.xe s
abbrev zL:=V→V→V→Hp→(Hp→Prop)→Prop
abbrev ym:=V→V→Hp→VK→Prop
def PIp(X:Cx)(op:Operator)(t:ym):Prop:=
 ∀(pins:List (Addr×Obj)) (s:Shared) (σ:St) (H:Hp) (x y:V) (v u:Value) (Q:VK),az X pins σ H s→aG x v→aG y u→t x y H Q→
  wpAny (model X.prog X.w) X.A (inplaceOp op v u) (EP X pins σ Q) X.xe s
section
variable {X:Cx} {pos:Pos}
def mH(i:Nat):TG:=fun v σ H Q=>Q (σ.set i (some v)) H
theorem aF{i:Nat}{x:Str}(hN:X.N.Nodup)(hi:X.N[i]?=some x)(hx:uT X.env.scope x)(hf:X.fn x=true∨X.env.scope.names.lookup x=some .local:=by first | exact .inl rfl | exact .inr rfl | assumption):PG X (.Name x pos) (mH i):=by
 intro pins s σ H v u Q I r h
 exact wpAny_assign_Name (dX I hN hi hx r (fun s' I'=>⟨_,H,I',h⟩) hf)
def yC:u3:=fun vs σ H Q=>vs=[]∧Q σ H
def wF(t:TG)(u:u3):u3:=fun vs σ H Q=>∃v r,vs=v::r∧t v σ H fun σ' H'=>u r σ' H' Q
theorem c8:yq X [] yC:=by
 intro pins s σ H vs us Q I r h
 obtain⟨e,h⟩:=h
 subst e
 cases r
 exact assignInOrder_nil ⟨σ,H,I,h⟩
theorem aY{e:Expr}{es:List Expr}{t:TG}{u:u3}(h1:PG X e t)(h2:yq X es u)
  (hs:(assignEach (e::es) X.env).map (·.2)=assign e X.env::(assignEach es X.env).map (·.2):=by rfl):yq X (e::es) (wF t u):=by
 intro pins s σ H vs us Q I r h
 obtain⟨v,vr,e1,h⟩:=h
 subst e1
 cases r with
 | cons r rr=>
  rw [hs]
  refine assignInOrder_cons (bz (h1 pins s σ H _ _ _ I r h) fun _ s1 ⟨σ1,H1,I1,q1⟩=>?_)
  exact h2 pins s1 σ1 H1 _ _ Q I1 rr q1
def xh(K:PySem.W.Frag)(n:Nat)(t:u3):TG:=fun v σ H Q=>∃a xs,v=.ref a∧cA K H a xs∧xs.length=n∧t xs σ H Q
theorem xI{es:List Expr}{k:Nat}{t:u3}{n:Nat}(hc:X.calm=true)(h:yq X es t)
  (hn:(assignEach es X.env).length=n:=by rfl) (hst:(assignEach es X.env).findIdx? (·.1)=none:=by rfl):PG X (.Tuple es k pos) (xh X.K n t):=by
 intro pins s σ H v u Q I r hw
 obtain⟨a,xs,e1,hq,hl,hw⟩:=hw
 subst e1
 cases r
 obtain⟨its,rv,ht,hz⟩:=I.tuple hq
 refine assign_Tuple_tuple (I.ok.hd hc) ht (by simp [hn,←hl,rv.length]) hst fun h' hx=>?_
 have I1:az X pins σ H { s with heap:=h' }:=I.kept (t':=s.toks) fun b o e=>hx b o (Nat.ne_of_lt (Heap.lt_size e)) e
 exact h pins _ σ H xs _ Q I1 (by simpa using rv) hw
def zQ(to ti:TE)(t:zL):TG:=fun v σ H Q=>to σ H fun o H1=>ti σ H1 fun i H2=>t o i v H2 fun H3=>Q σ H3
def uF(te:TE)(g:TG):TS:=fun D σ H=>te σ H fun x H1=>g x σ H1 D.nx
theorem oN{tg e:Expr}{te:TE}{g:TG}(he:PE X e te)(hg:PG X tg g)(hs:swapsWithSole [tg] e pos.line X.env=pure false:=by rfl)(hw:swappedStores [tg] e X.env=pure none:=by rfl)
  (h1:(assignEach [tg] X.env).map (·.2)=[assign tg X.env]:=by rfl):PS X (.Assign [tg] e pos) (uF te g):=by
 intro pins s σ H D I h
 refine wpAny_Assign_stores (bz (he pins s σ H _ I h) fun v s1 ⟨x,H1,I1,r1,q1⟩=>?_) hs hw
 rw [h1]
 exact bz (hg pins s1 σ H1 x v _ I1 r1 q1) fun _ s2 q=>q
theorem ay{i:Nat}{x:Str}{e:Expr}{te:TE}{pos':Pos}(hN:X.N.Nodup)(hi:X.N[i]?=some x)(hx:uT X.env.scope x)(he:PE X e te)(hs:swapsWith e (some (.Name x pos')) pos.line X.env=pure false:=by rfl)(hf:X.fn x=true∨X.env.scope.names.lookup x=some .local:=by first | exact .inl rfl | exact .inr rfl | assumption):
  PS X (.Assign [.Name x pos'] e pos) (uF te (mH i)):=by
 intro pins s σ H D I h
 refine wpAny_Assign_Name (bz (he pins s σ H _ I h) fun v s1 ⟨y,H1,I1,r1,q1⟩=>?_) hs
 exact dX I1 hN hi hx r1 (fun s2 I2=>⟨_,H1,I2,q1⟩) hf
def uG(i:Nat)(te:TE)(ti:ym):TS:=fun D σ H=>∃x,σ[i]?=some (some x)∧te σ H fun y H1=>ti x y H1 fun z H2=>D.nx (σ.set i (some z)) H2
theorem uf{i:Nat}{x:Str}{e:Expr}{te:TE}{op:Operator}{ti:ym}{pos':Pos}(hN:X.N.Nodup)(hi:X.N[i]?=some x)(hx:uT X.env.scope x)(he:PE X e te)(ho:PIp X op ti)(hf:X.fn x=true∨X.env.scope.names.lookup x=some .local:=by first | exact .inl rfl | exact .inr rfl | assumption):
  PS X (.AugAssign (.Name x pos') op e pos) (uG i te ti):=by
 intro pins s σ H D I h
 obtain⟨v,e1,h⟩:=h
 obtain⟨m,hn,hl⟩:=I.loc
 have vis:zu X.env.scope x:=by rcases hx with k | k;exact .inl k;exact .inr (.inl k)
 obtain⟨u,r,l⟩:=hl i x v hi e1 vis
 refine wpAny_AugAssign_Name ?_
 have go:wpAny (model X.prog X.w) X.A (eval e X.env) (fun w s₂=>wpAny (model X.prog X.w) X.A (inplaceOp op u w) (fun r s₃=>wpAny (model X.prog X.w) X.A (storeName X.env x r) (fun _=>SP X pins D .next) X.xe s₃) X.xe s₂) X.xe s:=by
  refine bz (he pins s σ H _ I h) fun w s1 ⟨y,H1,I1,r1,q1⟩=>?_
  refine bz (ho pins s1 σ H1 v y u w _ I1 r r1 q1) fun z s2 ⟨zv,H2,I2,r2,q2⟩=>?_
  exact dX I2 hN hi hx r2 (fun s3 I3=>⟨_,H2,I3,q2⟩) hf
 rcases l with⟨hk,hm⟩ | ⟨hk,c,hc,hcell⟩
 ·exact wpAny_loadName_local I.ok.kind hk hn hm go
 ·rcases hk with hk | hk
  ·exact wpAny_loadName_cell I.ok.kind hk hc hcell go
  ·rcases hx with k | k
   ·have:X.env.scope.names.lookup x=some .free:=hk
    rw [k]at this;cases this
   ·have:X.env.scope.names.lookup x=some .free:=hk
    rw [k]at this;cases this
end
section
variable {X:Cx} {pos:Pos}
def yh(c:TT)(tb:TS):TS:=fun D σ H=>∃W:Nat→St→Hp→Prop,(∃m,W m σ H)∧∀m σ H,W m σ H→
 c σ H fun b H1=>if b=true then ∃N:St→Hp→Prop,(∀σ' H',N σ' H'→∃m',m' < m∧W m' σ' H')∧tb { D with nx:=N,ct:=N,bk:=D.nx } σ H1 else D.nx σ H1
theorem uh{c:Expr}{body:List Stmt}{tc:TT}{tb:TS}(hp:PassesOwn (model X.prog X.w) X.A X.env X.xe)(hc:PT X c tc)(hb:nL X body tb):PS X (.While c body [] pos) (yh tc tb):=by
 intro pins s σ H D I h
 obtain⟨W,⟨m0,w0⟩,turn⟩:=h
 refine wpAny_While (codeAny_whileLoop (fun n s'=>∃σ' H',az X pins σ' H' s'∧W n σ' H') ?_ m0 ⟨σ,H,I,w0⟩)
 rintro n s1 ⟨σ1,H1,I1,w1⟩
 refine wpAny_passesOwn hp (bz (hc pins s1 σ1 H1 _ I1 (turn n σ1 H1 w1)) fun b s2 ⟨H2,I2,q2⟩=>?_)
 cases b with
 | true=>
  obtain⟨N,hN,q2⟩:=q2
  rw [if_pos rfl]
  refine wpAny_passesOwn hp (bz (hb pins s2 σ1 H2 _ I2 q2) fun f s3 q3=>?_)
  cases f with
  | next=>
   obtain⟨σ3,H3,I3,n3⟩:=q3
   obtain⟨m',hm,w3⟩:=hN σ3 H3 n3
   exact⟨m',hm,σ3,H3,I3,w3⟩
  | cont=>
   obtain⟨σ3,H3,I3,n3⟩:=q3
   obtain⟨m',hm,w3⟩:=hN σ3 H3 n3
   exact⟨m',hm,σ3,H3,I3,w3⟩
  | brk=>exact q3
  | ret v=>exact q3
 | false=>
  rw [if_neg Bool.false_ne_true]
  exact wpAny_execs_nil ⟨σ1,H2,I2,q2⟩
end
structure It where
 go:Nat→Hp→Prop
 yld:Nat→Hp→V→Hp→Prop
 stop:Nat→Hp→Prop
def iL(X:Cx)(pins:List (Addr×Obj))(H:Hp)(b:Addr):Prop:=
 H b=none∧b≠X.env.locals∧b∉X.fs∧(b∈X.ex∨X.s₀.heap.objs.size≤b)∧(∀x c,X.env.cells.lookup x=some c→c≠b)∧∀p∈X.pn++pins,p.1≠b
theorem az.fpOk{X:Cx}{pins:List (Addr×Obj)}{σ:St}{H H':Hp}{s:Shared}{b:Addr}(I:az X pins σ H s)(hb:s.heap.objs.size≤b)(hn:H' b=none):iL X pins H' b:=by
 refine⟨hn,Nat.ne_of_gt (Nat.lt_of_lt_of_le I.lt hb),I.nofs hb,.inr (Nat.le_trans I.sz hb),fun x c e z=>?_,fun p hp z=>?_⟩
 ·obtain⟨v,q⟩:=I.cell x c e
  exact absurd (Nat.lt_of_lt_of_le q.lt (by rw [z];exact hb)) (Nat.lt_irrefl _)
 ·exact absurd (Nat.lt_of_lt_of_le (Heap.lt_size (I.pin p hp).1) (by rw [z];exact hb)) (Nat.lt_irrefl _)
structure kE(P:Program)(w:World)(K:PySem.W.Frag)(tg:Expr)(J:It)(fp:List Addr)(it:Addr)(tn:Nat→Heap→Prop):Prop where
 mem:it∈fp
 obj:∀i h,tn i h→∀b∈fp,∃o,h.get? b=some o∧∀v,o.data≠.cell v
 keep:∀i h h',tn i h→(∀b∈fp,∀o,h.get? b=some o→h'.get? b=some o)→tn i h'
 item:∀(X:Cx),X.prog=P→X.w=w→X.K=K→X.calm=true→∀(i:Nat) (pins:List (Addr×Obj)) (s:Shared) (σ:St) (H:Hp) (E:Value→Shared→Prop),az X pins σ H s→(∀b∈fp,iL X pins H b)→tn i s.heap→J.go i H→
  wpAny (model P w) X.A (pyNext (.ref it)) (fun r s1=>∃u,r=some u∧
   wpAny (model P w) X.A (letOwnedTupleGo tg (.ref it) u) (fun _ s2=>∃x H',az X pins σ H' s2∧aG x u∧J.yld i H x H'∧tn (i+1) s2.heap∧∀b∈fp,H' b=none) E s1) E s
 done:∀(X:Cx),X.prog=P→X.w=w→X.K=K→X.calm=true→∀(i:Nat) (pins:List (Addr×Obj)) (s:Shared) (σ:St) (H:Hp) (E:Value→Shared→Prop),az X pins σ H s→(∀b∈fp,iL X pins H b)→tn i s.heap→J.stop i H→
  wpAny (model P w) X.A (pyNext (.ref it)) (fun r s1=>r=none∧az X pins σ H s1) E s
 self:∀(A:Around) (i:Nat) (s:Shared) (Q:Value→Shared→Prop) (E:Value→Shared→Prop),tn i s.heap→Q (.ref it) s→wpAny (model P w) A (pyIter (.ref it)) Q E s
abbrev TI:=St→Hp→(It→Hp→Prop)→Prop
def yl(X:Cx)(pins:List (Addr×Obj))(σ:St)(tg:Expr)(R:It→Hp→Prop)(itv:Value)(s2:Shared):Prop:=
 ∃(it:Addr) (fp:List Addr) (tn:Nat→Heap→Prop) (J:It) (H':Hp),itv=.ref it∧az X pins σ H' s2∧kE X.prog X.w X.K tg J fp it tn∧tn 0 s2.heap∧(∀b∈fp,iL X pins H' b)∧R J H'
def PI(X:Cx)(tg iter:Expr)(wi:TI):Prop:=
 ∀(pins:List (Addr×Obj)) (s:Shared) (σ:St) (H:Hp) (R:It→Hp→Prop),az X pins σ H s→wi σ H R→
  wpAny (model X.prog X.w) X.A (eval iter X.env) (fun v s1=>wpAny (model X.prog X.w) X.A (pyIter v) (yl X pins σ tg R) X.xe s1) X.xe s
theorem j6{M:Model}{A:Around}{E:Value→Shared→Prop}{s:Shared}{tg:Expr}{it:Addr}{u:Value}{o:Obj}{n:String}{vs:Array Value}{Q:Unit→Shared→Prop}(ho:s.heap.get? it=some o)(hc:o.cls=.type n)(hd:o.data=.fields vs)
  (hn:["enumerate","zip","dict_itemiterator","dict_reverseitemiterator","odict_iterator","itertools.zip_longest","itertools.pairwise"].contains n=false) (hQ:Q () s):wpAny M A (letOwnedTupleGo tg (.ref it) u) Q E s:=by
 unfold letOwnedTupleGo
 cases tg<;>first
  | exact wpAny_pure hQ
  | (cases u<;>first | exact wpAny_pure hQ | (refine wpAny_bind (wpAny_load ho ?_);rw [hc,hd];show wpAny M A (if (["enumerate","zip","dict_itemiterator","dict_reverseitemiterator","odict_iterator","itertools.zip_longest","itertools.pairwise"].contains n && vs[0]? == some (rawInt _))=true then _ else _) Q E s;rw [if_neg (by intro h;rw [hn,Bool.false_and]at h;cases h)];exact wpAny_pure hQ))
def so(K:PySem.W.Frag)(a:Addr):It:=
 ⟨fun i H=>∃xs x,aO K H a xs∧xs[i]?=some x,fun i H x H'=>H'=H∧∀xs,aO K H a xs→xs[i]?=some x,fun i H=>∃xs,aO K H a xs∧xs.length≤i⟩
def zJ(K:PySem.W.Frag)(a:Addr):It:=
 ⟨fun i H=>∃xs x,cA K H a xs∧xs[i]?=some x,fun i H x H'=>H'=H∧∀xs,cA K H a xs→xs[i]?=some x,fun i H=>∃xs,cA K H a xs∧xs.length≤i⟩
def qr(lo:Int)(n:Nat):It:=⟨fun i _=>i < n,fun i H x H'=>H'=H∧x=.int (lo+i),fun i _=>n≤i⟩
theorem sf{P:Program}{w:World}{K:PySem.W.Frag}{tg:Expr}(a it:Addr):kE P w K tg (so K a) [it] it (fun i h=>h.IsListIter it a i) where
 mem:=by simp
 obj:=fun i h st b hb=>by
  have e:b=it:=by simpa using hb
  subst e
  obtain⟨o,e,c,d⟩:=st
  exact⟨o,e,fun v z=>by rw [d]at z;cases z⟩
 keep:=fun i h h' st k=>st.at fun o e=>k it (by simp) o e
 item:=by
  intro X hP hw hK hc i pins s σ H E I hf st hg
  subst hP hw hK
  obtain⟨xs,x,hq,hx⟩:=hg
  obtain⟨its,rv,p,hz⟩:=I.list hq
  obtain⟨u,hu,ru⟩:=rv.get hx
  obtain⟨f0,f1,f2,f3,f4,f5⟩:=hf it (by simp)
  refine wpAny_pyNext_list_item st p.isList (x:=u) (by simpa using hu) fun h' st' sb=>?_
  have I1:az X pins σ H { s with heap:=h' }:=I.turned (t':=s.toks) (fun b o hb e=>(sb.2 b hb).trans e) f0 f1 f3 f4 f5
  obtain⟨o,e,c,d⟩:=id st'
  exact⟨u,rfl,j6 (s:={ s with heap:=h' }) e c d (by decide) ⟨x,H,I1,ru,⟨rfl,fun ys hy=>by rw [I.list_inj hy hq];exact hx⟩,st',fun b hb=>(hf b hb).1⟩⟩
 done:=by
  intro X hP hw hK hc i pins s σ H E I hf st hg
  subst hP hw hK
  obtain⟨xs,hq,hx⟩:=hg
  obtain⟨its,rv,p,hz⟩:=I.list hq
  obtain⟨f0,f1,f2,f3,f4,f5⟩:=hf it (by simp)
  have hl:=rv.length
  exact wpAny_pyNext_list_end (I.ok.hd hc) st p.isList (by simp;omega) fun h' eb=>⟨rfl,I.turned (t':=s.toks) (fun b o hb e=>eb b o hb e) f0 f1 f3 f4 f5⟩
 self:=fun _ _ _ _ _ st h=>wpAny_pyIter_listiter st h
theorem pL{P:Program}{w:World}{K:PySem.W.Frag}{tg:Expr}(a it:Addr):kE P w K tg (zJ K a) [it] it (fun i h=>h.IsTupleIter it a i) where
 mem:=by simp
 obj:=fun i h st b hb=>by
  have e:b=it:=by simpa using hb
  subst e
  obtain⟨o,e,c,d⟩:=st
  exact⟨o,e,fun v z=>by rw [d]at z;cases z⟩
 keep:=fun i h h' st k=>st.at fun o e=>k it (by simp) o e
 item:=by
  intro X hP hw hK hc i pins s σ H E I hf st hg
  subst hP hw hK
  obtain⟨xs,x,hq,hx⟩:=hg
  obtain⟨its,rv,p,hz⟩:=I.tuple hq
  obtain⟨u,hu,ru⟩:=rv.get hx
  obtain⟨f0,f1,f2,f3,f4,f5⟩:=hf it (by simp)
  refine wpAny_pyNext_tuple_item st (show s.heap.IsTuple a its.toArray from p) (x:=u) (by simpa using hu) fun h' st' sb=>?_
  have I1:az X pins σ H { s with heap:=h' }:=I.turned (t':=s.toks) (fun b o hb e=>(sb.2 b hb).trans e) f0 f1 f3 f4 f5
  obtain⟨o,e,c,d⟩:=id st'
  exact⟨u,rfl,j6 (s:={ s with heap:=h' }) e c d (by decide) ⟨x,H,I1,ru,⟨rfl,fun ys hy=>by rw [I.tuple_inj hy hq];exact hx⟩,st',fun b hb=>(hf b hb).1⟩⟩
 done:=by
  intro X hP hw hK hc i pins s σ H E I hf st hg
  subst hP hw hK
  obtain⟨xs,hq,hx⟩:=hg
  obtain⟨its,rv,p,hz⟩:=I.tuple hq
  obtain⟨f0,f1,f2,f3,f4,f5⟩:=hf it (by simp)
  have hl:=rv.length
  exact wpAny_pyNext_tuple_end (I.ok.hd hc) st (show s.heap.IsTuple a its.toArray from p) (by simp;omega) fun h' eb=>⟨rfl,I.turned (t':=s.toks) (fun b o hb e=>eb b o hb e) f0 f1 f3 f4 f5⟩
 self:=fun _ _ _ _ _ st h=>wpAny_pyIter_tupleiter st h
theorem jl{P:Program}{w:World}{K:PySem.W.Frag}{tg:Expr}(it:Addr)(lo:Int)(n:Nat):kE P w K tg (qr lo n) [it] it (fun i h=>IsRangeIter h it (lo+(i:Nat) * 1) ((n:Int) - (i:Nat)) 1) where
 mem:=by simp
 obj:=fun i h st b hb=>by
  have e:b=it:=by simpa using hb
  subst e
  exact⟨_,st,fun v z=>by
   have z':Data.fields _=Data.cell v:=z
   cases z'⟩
 keep:=fun i h h' st k=>k it (by simp) _ st
 item:=by
  intro X hP hw hK hc i pins s σ H E I hf st hg
  subst hP hw hK
  obtain⟨f0,f1,f2,f3,f4,f5⟩:=hf it (by simp)
  have W:=Walks.range (prog:=X.prog) (w:=X.w) (I.ok.hd hc) it lo 1 n
  refine W.item i s _ _ hg st fun v h' tk hv st' kk=>?_
  obtain⟨t,rfl⟩:=hv
  have I1:az X pins σ H { s with heap:=h',toks:=tk }:=I.turned (fun b o hb e=>kk b o (by simpa using hb) e) f0 f1 f3 f4 f5
  refine⟨_,rfl,j6 (s:={ s with heap:=h',toks:=tk }) (n:="range_iterator") st' rfl rfl (by decide) ⟨.int (lo+i),H,I1,⟨t,?_⟩,⟨rfl,rfl⟩,st',fun b hb=>(hf b hb).1⟩⟩
  rw [Int.mul_one]
 done:=by
  intro X hP hw hK hc i pins s σ H E I hf st hg
  subst hP hw hK
  obtain⟨f0,f1,f2,f3,f4,f5⟩:=hf it (by simp)
  exact wpAny_pyNext_range_end (I.ok.hd hc) st (by have:n≤i:=hg;omega) fun h' eb=>⟨rfl,I.turned (t':=s.toks) (fun b o hb e=>eb b o hb e) f0 f1 f3 f4 f5⟩
 self:=fun _ _ _ _ _ st h=>wpAny_pyIter_rangeiter st h
end L2
namespace L2
open PySem PySem.Spec PyProof.Rows
section
variable {X:Cx} {tg:Expr}
theorem m7{pins:List (Addr×Obj)}{σ:St}{H:Hp}{s:Shared}{R:It→Hp→Prop}{E:Value→Shared→Prop}{lo hi:Int}{t u v:Tok}{tk:Nat}(I:az X pins σ H s)(h1:-(2 ^ 62)≤lo)(h2:lo < 2 ^ 62)(h3:-(2 ^ 62)≤hi)(h4:hi < 2 ^ 62)
  (q:R (qr lo (hi - lo).toNat) H):wpAny (model X.prog X.w) X.A (pyIter (.ref s.heap.objs.size)) (yl X pins σ tg R) E { s with heap:=s.heap.push { cls:=.type "range",data:=.fields #[.int lo t,.int hi u,.int 1 v] },toks:=tk }:=by
 refine wpAny_pyIter_range (IsRange.new ..) (small_one h1 h2 h3 h4) ?_
 have I1:az X pins σ H { s with heap:=s.heap.push { cls:=.type "range",data:=.fields #[.int lo t,.int hi u,.int 1 v] },toks:=tk }:=I.kept fun b o e=>Heap.get?_push_of_some _ e
 refine⟨(s.heap.push { cls:=.type "range",data:=.fields #[.int lo t,.int hi u,.int 1 v] }).objs.size,[(s.heap.push { cls:=.type "range",data:=.fields #[.int lo t,.int hi u,.int 1 v] }).objs.size],_,_,H,rfl,
  I1.kept (t':=tk) fun b o e=>Heap.get?_push_of_some _ e,jl _ lo (hi - lo).toNat,?_,fun b hb=>?_,q⟩
 ·have e1:lo+((0:Nat):Int) * 1=lo:=by simp
  have e2:(((hi - lo).toNat:Nat):Int) - ((0:Nat):Int)=Builtin.Range.rangeSize lo hi 1:=by rw [rangeSize_one];split<;>omega
  show IsRangeIter _ _ (lo+((0:Nat):Int) * 1) ((((hi - lo).toNat:Nat):Int) - ((0:Nat):Int)) 1
  rw [e1,e2]
  exact Heap.get?_push_size _ rfl
 ·have e:b=(s.heap.push { cls:=.type "range",data:=.fields #[.int lo t,.int hi u,.int 1 v] }).objs.size:=by simpa using hb
  subst e
  exact I1.fpOk (Nat.le_refl _) (I1.hok.fresh (Nat.le_refl _))
def wG(ta:TA):TI:=fun σ H R=>ta σ H fun vs H1=>∃j:Int,vs=[.int j]∧-(2 ^ 62)≤j∧j < 2 ^ 62∧R (qr 0 j.toNat) H1
def wH(ta:TA):TI:=fun σ H R=>ta σ H fun vs H1=>∃i j:Int,vs=[.int i,.int j]∧(-(2 ^ 62)≤i∧i < 2 ^ 62∧-(2 ^ 62)≤j∧j < 2 ^ 62)∧R (qr i (j - i).toNat) H1
theorem ff{a:Expr}{ta:TA}{p pos:Pos}(hg:Gl X "range")(hm:X.mg "range"=none)(ha:PA X [a] ta)(hs:starEach [a] X.env=[(false,eval a X.env)]:=by rfl):PI X tg (.Call (.Name "range" p) [a] [] pos) (wG ta):=by
 intro pins s σ H R I h
 refine Call_ (eE I hg hm boot_range (PyProof.Rows.callWith_type1 (bz (ha pos pins s σ H _ I h) fun us s1 ⟨vs,H1,I1,r1,q1⟩=>?_) hs rfl))
 obtain⟨j,e,q1,q2,q⟩:=q1
 subst e
 cases r1 with
 | cons r rr=>
  cases rr
  obtain⟨t,rfl⟩:=r
  exact call_range_1 (m7 I1 (by omega) (by omega) q1 q2 (by simpa using q))
theorem rK{a b:Expr}{ta:TA}{p pos:Pos}(hg:Gl X "range")(hm:X.mg "range"=none)(ha:PA X [a,b] ta)(hs:starEach [a,b] X.env=[(false,eval a X.env),(false,eval b X.env)]:=by rfl)(hs2:starEach [b] X.env=[(false,eval b X.env)]:=by rfl):
  PI X tg (.Call (.Name "range" p) [a,b] [] pos) (wH ta):=by
 intro pins s σ H R I h
 refine Call_ (eE I hg hm boot_range (PyProof.Rows.callWith_type1 (bz (ha pos pins s σ H _ I h) fun us s1 ⟨vs,H1,I1,r1,q1⟩=>?_) (by rw [hs,hs2]) (by rw [hs2];rfl)))
 obtain⟨i,j,e,⟨q1,q2,q3,q4⟩,q⟩:=q1
 subst e
 cases r1 with
 | cons r rr=>
  cases rr with
  | cons r' rr=>
   cases rr
   obtain⟨t,rfl⟩:=r
   obtain⟨t',rfl⟩:=r'
   exact call_range_2 (m7 I1 q1 q2 q3 q4 q)
def zf(wi:TI)(g:TG)(tb:TS):TS:=fun D σ H=>wi σ H fun J H1=>∃W:Nat→Nat→St→Hp→Prop,(∃m,W 0 m σ H1)∧∀i m σ H,W i m σ H→
 (J.stop i H∧D.nx σ H)∨(J.go i H∧∃N:St→Hp→Prop,(∀σ' H',N σ' H'→∃m',m' < m∧W (i+1) m' σ' H')∧∀x H',J.yld i H x H'→g x σ H' fun σ2 H2=>tb { D with nx:=N,ct:=N,bk:=D.nx } σ2 H2)
def lC(fp:List Addr)(h:Heap):List (Addr×Obj):=fp.filterMap fun b=>(h.get? b).map fun o=>(b,o)
theorem cK{fp:List Addr}{h:Heap}{b:Addr}{o:Obj}(hb:b∈fp)(e:h.get? b=some o):(b,o)∈lC fp h:=List.mem_filterMap.mpr ⟨b,hb,by rw [e];rfl⟩
theorem rD{fp:List Addr}{h:Heap}{p:Addr×Obj}(hp:p∈lC fp h):p.1∈fp∧h.get? p.1=some p.2:=by
 obtain⟨b,hb,e⟩:=List.mem_filterMap.mp hp
 cases q:h.get? b with
 | none=>rw [q]at e;cases e
 | some o=>
  rw [q]at e
  have e':(b,o)=p:=Option.some.inj e
  subst e'
  exact⟨hb,q⟩
theorem az.pinned{pins:List (Addr×Obj)}{σ:St}{H:Hp}{s:Shared}{fp:List Addr}(I:az X pins σ H s)(hf:∀b∈fp,iL X pins H b)(ho:∀b∈fp,∃o,s.heap.get? b=some o∧∀v,o.data≠.cell v):az X (pins++lC fp s.heap) σ H s:=
 I.pins_of fun p hp=>(List.mem_append.mp hp).elim (fun z=>I.pin p (List.mem_append_right _ z)) fun z=>by
  obtain⟨hb,e⟩:=rD z
  obtain⟨f0,f1,f2,_⟩:=hf p.1 hb
  obtain⟨o,e',d⟩:=ho p.1 hb
  rw [e]at e';cases e'
  exact⟨e,f0,f1,f2,d⟩
theorem az.unpinned{pins pl:List (Addr×Obj)}{σ:St}{H:Hp}{s:Shared}(I:az X (pins++pl) σ H s):az X pins σ H s:=I.pins_of fun p hp=>I.pin p (List.mem_append_right _ (List.mem_append_left _ hp))
theorem cW{iter:Expr}{body:List Stmt}{wi:TI}{g:TG}{tb:TS}{pos:Pos}(hp:PassesOwn (model X.prog X.w) X.A X.env X.xe)(hc:X.calm=true)(hi:PI X tg iter wi)(hg:PG X tg g)(hb:nL X body tb)
  (hs:∀x,foldedSetIterable iter X.env x=pure x:=by intro _;rfl):PS X (.For tg iter body [] pos) (zf wi g tb):=by
 intro pins s σ H D I h
 refine wpAny_For (bz (hi pins s σ H _ I h) fun v s1 h1=>bz h1 fun itv s2 h2=>?_) hs
 obtain⟨it,fp,tn,J,H2,e,I2,T,st2,f2,W,⟨m0,w0⟩,turn⟩:=h2
 subst e
 have stat:∀{H':Hp},(∀b∈fp,H' b=none)→∀b∈fp,iL X pins H' b:=fun hn b hb=>⟨hn b hb,(f2 b hb).2⟩
 refine codeAny_forLoop_any (fun n s'=>∃i σ' H',az X pins σ' H' s'∧tn i s'.heap∧(∀b∈fp,H' b=none)∧W i n σ' H') ?_ m0 ⟨0,σ,H2,I2,st2,fun b hb=>(f2 b hb).1,w0⟩
 rintro n s3 ⟨i,σ3,H3,I3,st3,fr3,w3⟩
 rcases turn i n σ3 H3 w3 with⟨stop,qn⟩ | ⟨go,N,hN,step⟩
 ·refine wpAny_passesOwn hp (bz (T.done X rfl rfl rfl hc i pins s3 σ3 H3 X.xe I3 (stat fr3) st3 stop) fun r s4 ⟨hr,I4⟩=>?_)
  subst hr
  exact wpAny_execs_nil ⟨σ3,H3,I4,qn⟩
 ·refine wpAny_passesOwn hp (bz (T.item X rfl rfl rfl hc i pins s3 σ3 H3 X.xe I3 (stat fr3) st3 go) fun r s4 ⟨u,hr,h4⟩=>?_)
  subst hr
  refine wpAny_passesOwn hp (bz h4 fun _ s5 ⟨x,H5,I5,r5,y5,st5,fr5⟩=>?_)
  have I5':=I5.pinned (stat fr5) (T.obj _ _ st5)
  refine wpAny_passesOwn hp (bz (hg _ s5 σ3 H5 x u _ I5' r5 (step x H5 y5)) fun _ s6 ⟨σ6,H6,I6,q6⟩=>?_)
  refine wpAny_passesOwn hp (bz (hb _ s6 σ6 H6 _ I6 q6) fun f s7 q7=>?_)
  have again:∀{σ7:St} {H7:Hp},az X (pins++lC fp s5.heap) σ7 H7 s7→N σ7 H7→∃m,m < n∧∃i σ' H',az X pins σ' H' s7∧tn i s7.heap∧(∀b∈fp,H' b=none)∧W i m σ' H':=fun {σ7 H7} I7 n7=>by
   obtain⟨m',hm,w7⟩:=hN σ7 H7 n7
   refine⟨m',hm,i+1,σ7,H7,I7.unpinned,T.keep _ _ _ st5 fun b hb o e=>(I7.pin (b,o) (List.mem_append_right _ (List.mem_append_right _ (cK hb e)))).1,fun b hb=>?_,w7⟩
   obtain⟨o,e,d⟩:=T.obj _ _ st5 b hb
   exact(I7.pin (b,o) (List.mem_append_right _ (List.mem_append_right _ (cK hb e)))).2.1
  cases f with
  | next=>obtain⟨σ7,H7,I7,n7⟩:=q7;exact again I7 n7
  | cont=>obtain⟨σ7,H7,I7,n7⟩:=q7;exact again I7 n7
  | brk=>obtain⟨σ7,H7,I7,q7⟩:=q7;exact⟨σ7,H7,I7.unpinned,q7⟩
  | ret v=>obtain⟨x7,σ7,H7,I7,r7,q7⟩:=q7;exact⟨x7,σ7,H7,I7.unpinned,r7,q7⟩
end
theorem sX{K:PySem.W.Frag}{a:Addr}{xs:List V}{g:TG}{tb:TS}{D:fk}{σ:St}{H:Hp}(Pv:Nat→St→Hp→Prop)(h0:Pv 0 σ H)(hl:∀i σ H,i≤xs.length→Pv i σ H→aO K H a xs)
  (hs:∀i x σ H,xs[i]?=some x→Pv i σ H→g x σ H fun σ2 H2=>tb { D with nx:=Pv (i+1),ct:=Pv (i+1),bk:=D.nx } σ2 H2) (hd:∀σ H,Pv xs.length σ H→D.nx σ H) :
  ∃W:Nat→Nat→St→Hp→Prop,(∃m,W 0 m σ H)∧∀i m σ H,W i m σ H→
   ((so K a).stop i H∧D.nx σ H)∨((so K a).go i H∧∃N:St→Hp→Prop,(∀σ' H',N σ' H'→∃m',m' < m∧W (i+1) m' σ' H')∧∀x H',(so K a).yld i H x H'→g x σ H' fun σ2 H2=>tb { D with nx:=N,ct:=N,bk:=D.nx } σ2 H2):=by
 refine⟨fun i m σ H=>m=xs.length - i∧i≤xs.length∧Pv i σ H,⟨xs.length,by simp,Nat.zero_le _,h0⟩,?_⟩
 rintro i m σ H ⟨rfl,hi,p⟩
 have q:=hl i σ H hi p
 by_cases hlt:i < xs.length
 ·refine .inr ⟨⟨xs,xs[i],q,by simp [hlt]⟩,Pv (i+1),fun σ' H' p'=>⟨xs.length - (i+1),by omega,rfl,hlt,p'⟩,fun x H' y=>?_⟩
  obtain⟨e,y⟩:=y
  subst e
  exact hs i x σ _ (y xs q) p
 ·have e:i=xs.length:=by omega
  subst e
  exact .inl ⟨⟨xs,q,Nat.le_refl _⟩,hd σ H p⟩
theorem qZ{lo:Int}{n:Nat}{g:TG}{tb:TS}{D:fk}{σ:St}{H:Hp}(Pv:Nat→St→Hp→Prop)(h0:Pv 0 σ H)
  (hs:∀i σ H,i < n→Pv i σ H→g (.int (lo+i)) σ H fun σ2 H2=>tb { D with nx:=Pv (i+1),ct:=Pv (i+1),bk:=D.nx } σ2 H2) (hd:∀σ H,Pv n σ H→D.nx σ H) :
  ∃W:Nat→Nat→St→Hp→Prop,(∃m,W 0 m σ H)∧∀i m σ H,W i m σ H→
   ((qr lo n).stop i H∧D.nx σ H)∨((qr lo n).go i H∧∃N:St→Hp→Prop,(∀σ' H',N σ' H'→∃m',m' < m∧W (i+1) m' σ' H')∧∀x H',(qr lo n).yld i H x H'→g x σ H' fun σ2 H2=>tb { D with nx:=N,ct:=N,bk:=D.nx } σ2 H2):=by
 refine⟨fun i m σ H=>m=n - i∧i≤n∧Pv i σ H,⟨n,by simp,Nat.zero_le _,h0⟩,?_⟩
 rintro i m σ H ⟨rfl,hi,p⟩
 by_cases hlt:i < n
 ·refine .inr ⟨hlt,Pv (i+1),fun σ' H' p'=>⟨n - (i+1),by omega,rfl,hlt,p'⟩,fun x H' y=>?_⟩
  obtain⟨e,y⟩:=y
  subst e y
  exact hs i σ _ hlt p
 ·have e:i=n:=by omega
  subst e
  exact .inl ⟨Nat.le_refl _,hd σ H p⟩
end L2
namespace L2
open PySem PySem.Spec PyProof.Rows
abbrev R2:=V→V→Hp→VK→Prop
def cc(X:Cx)(f:Value→Value→Sem Value)(r:R2):Prop:=
 ∀(pins:List (Addr×Obj)) (s:Shared) (σ:St) (H:Hp) (x y:V) (v u:Value) (Q:VK),az X pins σ H s→aG x v→aG y u→r x y H Q→
  wpAny (model X.prog X.w) X.A (f v u) (EP X pins σ Q) X.xe s
def yu(X:Cx)(f:Value→Sem Value)(r:V→Hp→VK→Prop):Prop:=
 ∀(pins:List (Addr×Obj)) (s:Shared) (σ:St) (H:Hp) (x:V) (v:Value) (Q:VK),az X pins σ H s→aG x v→r x H Q→
  wpAny (model X.prog X.w) X.A (f v) (EP X pins σ Q) X.xe s
def bu(X:Cx)(f:Value)(r:List V→Hp→VK→Prop):Prop:=
 ∀(pins:List (Addr×Obj)) (s:Shared) (σ:St) (H:Hp) (xs:List V) (us:List Value) (Q:VK),az X pins σ H s→aC xs us→r xs H Q→
  wpAny (model X.prog X.w) X.A (call f us) (EP X pins σ Q) X.xe s
def zM(X:Cx)(r:V→Hp→(Bool→Hp→Prop)→Prop):Prop:=
 ∀(pins:List (Addr×Obj)) (s:Shared) (σ:St) (H:Hp) (x:V) (v:Value) (Q:Bool→Hp→Prop),az X pins σ H s→aG x v→r x H Q→
  wpAny (model X.prog X.w) X.A (truthy v) (TP X pins σ Q) X.xe s
def yc(r:R2)(ta tb:TE):TE:=fun σ H Q=>ta σ H fun x H1=>tb σ H1 fun y H2=>r x y H2 Q
def z7(r:V→Hp→VK→Prop)(ta:TE):TE:=fun σ H Q=>ta σ H fun x H1=>r x H1 Q
def rI(C:Int→Int→Prop)(g:Int→Int→V):R2:=fun x y H Q=>∃i j,x=.int i∧y=.int j∧C i j∧Q (g i j) H
def oP(g:Int→Int→V):R2:=fun x y H Q=>∃i j,x=.int i∧y=.int j∧Q (g i j) H
def rU(g:Int→V):V→Hp→VK→Prop:=fun x H Q=>∃i,x=.int i∧Q (g i) H
section
variable {X:Cx} {a b c:Expr} {ta tb tc:TE} {pos:Pos}
theorem u7(ha:PE X a ta)(hb:PE X b tb){pins:List (Addr×Obj)}{s:Shared}{σ:St}{H:Hp}{R:V→V→Hp→Prop}(I:az X pins σ H s)
  (h:ta σ H fun x H1=>tb σ H1 fun y H2=>R x y H2) {Q:Value→Shared→Prop} {f:Value→Value→Sem Value}
  (hf:∀v u s2 x y H2,az X pins σ H2 s2→aG x v→aG y u→R x y H2→wpAny (model X.prog X.w) X.A (f v u) Q X.xe s2) :
  wpAny (model X.prog X.w) X.A (eval a X.env) (fun v s₁=>wpAny (model X.prog X.w) X.A (eval b X.env) (fun u s₂=>wpAny (model X.prog X.w) X.A (f v u) Q X.xe s₂) X.xe s₁) X.xe s:=by
 refine bz (ha pins s σ H _ I h) fun v s1 ⟨x,H1,I1,r1,q1⟩=>?_
 refine bz (hb pins s1 σ H1 _ I1 q1) fun u s2 ⟨y,H2,I2,r2,q2⟩=>?_
 exact hf v u s2 x y H2 I2 r1 r2 q2
theorem ao{op:Operator}{r:R2}(ho:cc X (binaryOp op) r)(ha:PE X a ta)(hb:PE X b tb):PE X (.BinOp a op b pos) (yc r ta tb):=by
 intro pins s σ H Q I h
 exact wpAny_BinOp (u7 ha hb I h fun v u s2 x y H2 I2 rx ry q=>ho pins s2 σ H2 x y v u Q I2 rx ry q)
theorem wW{op:UnaryOp}{r:V→Hp→VK→Prop}(ho:yu X (unaryOp op) r)(ha:PE X a ta):PE X (.UnaryOp op a pos) (z7 r ta):=by
 intro pins s σ H Q I h
 exact UnaryOp_ (bz (ha pins s σ H _ I h) fun v s1 ⟨x,H1,I1,r1,q1⟩=>ho pins s1 σ H1 x v Q I1 r1 q1)
theorem yO{f:Value→Value→Sem Value}{C:Int→Int→Prop}{g:Int→Int→Int}
  (rule:∀(i j:Int) (t u:Tok) (s:Shared) (Q:Value→Shared→Prop) (E:Value→Shared→Prop),C i j→Q (.int (g i j) s.toks) { s with toks:=s.toks+1 }→wpAny (model X.prog X.w) X.A (f (.int i t) (.int j u)) Q E s) :
  cc X f (rI C fun i j=>.int (g i j)):=by
 intro pins s σ H x y v u Q I rx ry h
 obtain⟨i,j,rfl,rfl,hc,q⟩:=h
 obtain⟨t,rfl⟩:=rx
 obtain⟨t',rfl⟩:=ry
 exact rule i j t t' s _ _ hc ⟨.int (g i j),H,I.tok _,⟨_,rfl⟩,q⟩
theorem yP{f:Value→Value→Sem Value}{g:Int→Int→Int}
  (rule:∀(i j:Int) (t u:Tok) (s:Shared) (Q:Value→Shared→Prop) (E:Value→Shared→Prop),Q (.int (g i j) s.toks) { s with toks:=s.toks+1 }→wpAny (model X.prog X.w) X.A (f (.int i t) (.int j u)) Q E s) :
  cc X f (oP fun i j=>.int (g i j)):=by
 intro pins s σ H x y v u Q I rx ry h
 obtain⟨i,j,rfl,rfl,q⟩:=h
 obtain⟨t,rfl⟩:=rx
 obtain⟨t',rfl⟩:=ry
 exact rule i j t t' s _ _ ⟨.int (g i j),H,I.tok _,⟨_,rfl⟩,q⟩
theorem xC{f:Value→Value→Sem Value}{g:Int→Int→Bool}
  (rule:∀(i j:Int) (t u:Tok) (s:Shared) (Q:Value→Shared→Prop) (E:Value→Shared→Prop),Q (.bool (g i j)) s→wpAny (model X.prog X.w) X.A (f (.int i t) (.int j u)) Q E s) :
  cc X f (oP fun i j=>.bl (g i j)):=by
 intro pins s σ H x y v u Q I rx ry h
 obtain⟨i,j,rfl,rfl,q⟩:=h
 obtain⟨t,rfl⟩:=rx
 obtain⟨t',rfl⟩:=ry
 exact rule i j t t' s _ _ ⟨.bl (g i j),H,I,rfl,q⟩
def yp(i j:Int):Prop:=0 < j∧j < 1073741824
def zG(i j:Int):Prop:=0≤j∧j≤1000000∧i.natAbs < 2 ^ 64
theorem op_add:cc X (binaryOp .Add) (oP fun i j=>.int (i+j)):=yP fun _ _ _ _ _ _ _ q=>add_int q
theorem dG:cc X (binaryOp .Sub) (oP fun i j=>.int (i - j)):=yP fun _ _ _ _ _ _ _ q=>sub_int q
theorem cn:cc X (binaryOp .FloorDiv) (rI yp fun i j=>.int (i / j)):=yO fun i j _ _ _ _ _ hc q=>by
 have h1:(0:Int) < j:=hc.1
 have h2:j < 1073741824:=hc.2
 exact floordiv_int (by omega) (by rw [Int.fdiv_eq_ediv_of_nonneg i (by omega)];exact q) (.inl (PyProof.noPylong_small (by omega)))
theorem bg:cc X (binaryOp .Mod) (rI (fun _ j=>0 < j) fun i j=>.int (i % j)):=yO fun i j _ _ _ _ _ hc q=>by
 have h1:(0:Int) < j:=hc
 exact mod_int' (by omega) (by rw [Int.fmod_eq_emod_of_nonneg i (by omega)];exact q)
theorem eI:cc X (binaryOp .Pow) (rI zG fun i j=>.int (i ^ j.toNat)):=yO fun _ _ _ _ _ _ _ hc q=>pow_int_small hc.1 hc.2.1 hc.2.2 q
theorem unI{f:Value→Sem Value}{g:Int→Int}
  (rule:∀(i:Int) (t:Tok) (s:Shared) (Q:Value→Shared→Prop) (E:Value→Shared→Prop),Q (.int (g i) s.toks) { s with toks:=s.toks+1 }→wpAny (model X.prog X.w) X.A (f (.int i t)) Q E s) :
  yu X f (rU fun i=>.int (g i)):=by
 intro pins s σ H x v Q I rx h
 obtain⟨i,rfl,q⟩:=h
 obtain⟨t,rfl⟩:=rx
 exact rule i t s _ _ ⟨.int (g i),H,I.tok _,⟨_,rfl⟩,q⟩
theorem uS:yu X (unaryOp .USub) (rU fun i=>.int (-i)):=unI fun _ _ _ _ _ q=>neg_int q
end
def nr:V→V→Bool
 | .non,.non=>true | .non,.int _=>true | .int _,.non=>true | .non,.bl _=>true | .bl _,.non=>true | .non,.str _=>true | .str _,.non=>true
 | .int _,.int _=>true | .bl _,.bl _=>true | .str _,.str _=>true | .byt _,.byt _=>true
 | .int _,.str _=>true | .str _,.int _=>true | .bl _,.str _=>true | .str _,.bl _=>true
 | _,_=>false
def ke:R2:=fun x y H Q=>nr x y=true∧Q (.bl (decide (x=y))) H
def kg:R2:=fun x y H Q=>nr x y=true∧Q (.bl (!decide (x=y))) H
theorem pW{i j:Int}:decide (V.int i=V.int j)=(i == j):=by
 rw [Bool.eq_iff_iff]
 simp
theorem sD{i j:Bool}:decide (V.bl i=V.bl j)=(i == j):=by
 rw [Bool.eq_iff_iff]
 simp
theorem pX{i j:Str}:decide (V.str i=V.str j)=(i == j):=by
 rw [Bool.eq_iff_iff]
 simp
theorem pV{i j:Array UInt8}:decide (V.byt i=V.byt j)=(i.toList == j.toList):=by
 rw [Bool.eq_iff_iff]
 cases i
 cases j
 simp
section
variable {X:Cx} {a b c:Expr} {ta tb tc:TE} {pos:Pos}
theorem aR{pins:List (Addr×Obj)}{σ:St}{H:Hp}{s:Shared}{Q:VK}{k k':Bool}(I:az X pins σ H s)(q:Q (.bl k) H)(e:k=k'):EP X pins σ Q (.bool k') s:=by
 subst e
 exact⟨.bl k,H,I,rfl,q⟩
theorem yS:cc X (compareOp .Eq) ke:=by
 intro pins s σ H x y v u Q I rx ry h
 obtain⟨hs,q⟩:=h
 cases x with
 | non=>
  cases rx
  cases y with
  | non=>cases ry;exact PySem.EqNone.eq_none_none (aR I q (by simp))
  | bl j=>cases ry;exact PySem.EqNone.eq_none_bool (aR I q (by simp))
  | int j=>obtain⟨t',rfl⟩:=ry;exact PySem.EqNone.eq_none_int (aR I q (by simp))
  | str j=>obtain⟨t',rfl⟩:=ry;exact PySem.EqNone.eq_none_str (aR I q (by simp))
  | _=>exact absurd (show false=true from hs) Bool.false_ne_true
 | bl i=>
  cases rx
  cases y with
  | non=>cases ry;exact PySem.EqNone.eq_bool_none (aR I q (by simp))
  | bl j=>cases ry;exact eq_bool (aR I q sD)
  | str j=>obtain⟨t',rfl⟩:=ry;exact PySem.EqMixed.eq_bool_str (aR I q (by simp))
  | _=>exact absurd (show false=true from hs) Bool.false_ne_true
 | int i=>
  obtain⟨t,rfl⟩:=rx
  cases y with
  | non=>cases ry;exact PySem.EqNone.eq_int_none (aR I q (by simp))
  | int j=>obtain⟨t',rfl⟩:=ry;exact eq_int (aR I q pW)
  | str j=>obtain⟨t',rfl⟩:=ry;exact PySem.EqMixed.eq_int_str (aR I q (by simp))
  | _=>exact absurd (show false=true from hs) Bool.false_ne_true
 | str i=>
  obtain⟨t,rfl⟩:=rx
  cases y with
  | non=>cases ry;exact PySem.EqNone.eq_str_none (aR I q (by simp))
  | bl j=>cases ry;exact PySem.EqMixed.eq_str_bool (aR I q (by simp))
  | int j=>obtain⟨t',rfl⟩:=ry;exact PySem.EqMixed.eq_str_int (aR I q (by simp))
  | str j=>obtain⟨t',rfl⟩:=ry;exact eq_str (aR I q pX)
  | _=>exact absurd (show false=true from hs) Bool.false_ne_true
 | byt i=>
  obtain⟨t,rfl⟩:=rx
  cases y with
  | byt j=>obtain⟨t',rfl⟩:=ry;exact PySem.W.eq_bytes (aR I q pV)
  | _=>exact absurd (show false=true from hs) Bool.false_ne_true
 | _=>cases y<;>exact absurd (show false=true from hs) Bool.false_ne_true
theorem yU:cc X (compareOp .NotEq) kg:=by
 intro pins s σ H x y v u Q I rx ry h
 obtain⟨hs,q⟩:=h
 cases x with
 | non=>
  cases rx
  cases y with
  | non=>cases ry;exact PySem.EqNone.ne_none_none (aR I q (by simp))
  | bl j=>cases ry;exact PySem.EqNone.ne_none_bool (aR I q (by simp))
  | int j=>obtain⟨t',rfl⟩:=ry;exact PySem.EqNone.ne_none_int (aR I q (by simp))
  | str j=>obtain⟨t',rfl⟩:=ry;exact PySem.EqNone.ne_none_str (aR I q (by simp))
  | _=>exact absurd (show false=true from hs) Bool.false_ne_true
 | bl i=>
  cases rx
  cases y with
  | non=>cases ry;exact PySem.EqNone.ne_bool_none (aR I q (by simp))
  | bl j=>cases ry;exact ne_bool (aR I q (congrArg not sD))
  | str j=>obtain⟨t',rfl⟩:=ry;exact PySem.EqMixed.ne_bool_str (aR I q (by simp))
  | _=>exact absurd (show false=true from hs) Bool.false_ne_true
 | int i=>
  obtain⟨t,rfl⟩:=rx
  cases y with
  | non=>cases ry;exact PySem.EqNone.ne_int_none (aR I q (by simp))
  | int j=>obtain⟨t',rfl⟩:=ry;exact ne_int (aR I q (congrArg not pW))
  | str j=>obtain⟨t',rfl⟩:=ry;exact PySem.EqMixed.ne_int_str (aR I q (by simp))
  | _=>exact absurd (show false=true from hs) Bool.false_ne_true
 | str i=>
  obtain⟨t,rfl⟩:=rx
  cases y with
  | non=>cases ry;exact PySem.EqNone.ne_str_none (aR I q (by simp))
  | bl j=>cases ry;exact PySem.EqMixed.ne_str_bool (aR I q (by simp))
  | int j=>obtain⟨t',rfl⟩:=ry;exact PySem.EqMixed.ne_str_int (aR I q (by simp))
  | str j=>obtain⟨t',rfl⟩:=ry;exact ne_str (aR I q (congrArg not pX))
  | _=>exact absurd (show false=true from hs) Bool.false_ne_true
 | byt i=>
  obtain⟨t,rfl⟩:=rx
  cases y with
  | byt j=>obtain⟨t',rfl⟩:=ry;exact PySem.W.ne_bytes (aR I q (congrArg not pV))
  | _=>exact absurd (show false=true from hs) Bool.false_ne_true
 | _=>cases y<;>exact absurd (show false=true from hs) Bool.false_ne_true
theorem yT:cc X (compareOp .Lt) (oP fun i j=>.bl (decide (i < j))):=xC fun _ _ _ _ _ _ _ q=>lt_int q
theorem i9:cc X (compareOp .LtE) (oP fun i j=>.bl (decide (i≤j))):=xC fun _ _ _ _ _ _ _ q=>le_int q
theorem p6:cc X (compareOp .Gt) (oP fun i j=>.bl (decide (j < i))):=xC fun _ _ _ _ _ _ _ q=>gt_int q
theorem op_in_str:cc X (compareOp .In) (fun x y H Q=>∃i j,x=.str i∧y=.str j∧Q (.bl (!(Builtin.Str.occurrences j i 0 j.length 1).isEmpty)) H):=by
 intro pins s σ H x y v u Q I rx ry h
 obtain⟨i,j,rfl,rfl,q⟩:=h
 obtain⟨t,rfl⟩:=rx
 obtain⟨t',rfl⟩:=ry
 exact in_str (aR I q rfl)
theorem lu:cc X (compareOp .Is) (fun x y H Q=>y=.non∧Q (.bl (decide (x=.non))) H):=by
 intro pins s σ H x y v u Q I rx ry h
 obtain⟨rfl,q⟩:=h
 cases ry
 refine is_none_gen (aR I q ?_)
 cases x<;>first
  | (cases rx;rfl)
  | (obtain⟨t,rfl⟩:=rx;rfl)
theorem lA:cc X (compareOp .IsNot) (fun x y H Q=>y=.non∧Q (.bl (!decide (x=.non))) H):=by
 intro pins s σ H x y v u Q I rx ry h
 obtain⟨rfl,q⟩:=h
 cases ry
 refine isnot_none_gen (aR I q ?_)
 cases x<;>first
  | (cases rx;rfl)
  | (obtain⟨t,rfl⟩:=rx;rfl)
theorem op_notin_str:cc X (compareOp .NotIn) (fun x y H Q=>∃i j,x=.str i∧y=.str j∧Q (.bl (!(!(Builtin.Str.occurrences j i 0 j.length 1).isEmpty))) H):=by
 intro pins s σ H x y v u Q I rx ry h
 obtain⟨i,j,rfl,rfl,q⟩:=h
 obtain⟨t,rfl⟩:=rx
 obtain⟨t',rfl⟩:=ry
 exact notIn_str (aR I q rfl)
theorem cc.or{f:Value→Value→Sem Value}{r r':R2}(h:cc X f r)(h':cc X f r'):cc X f (fun x y H Q=>r x y H Q∨r' x y H Q):=by
 intro pins s σ H x y v u Q I rx ry q
 rcases q with q | q
 ·exact h pins s σ H x y v u Q I rx ry q
 ·exact h' pins s σ H x y v u Q I rx ry q
theorem aD(b:Expr){op:CmpOp}(h:op≠.In:=by decide)(h2:op≠.NotIn:=by decide):behindInMarks op b=false:=by
 have e1:(op == CmpOp.In)=false:=by cases op<;>first | rfl | exact absurd rfl h
 have e2:(op == CmpOp.NotIn)=false:=by cases op<;>first | rfl | exact absurd rfl h2
 cases b<;>simp [behindInMarks,e1,e2]
theorem gb{op:CmpOp}{r:R2}(ho:cc X (compareOp op) r)(ha:PE X a ta)(hb:PE X b tb)(hm:behindInMarks op b=false):PE X (.Compare a [op] [b] pos) (yc r ta tb):=by
 intro pins s σ H Q I h
 exact wpAny_Compare1 (u7 ha hb I h fun v u s2 x y H2 I2 rx ry q=>ho pins s2 σ H2 x y v u Q I2 rx ry q) hm
def kr(t:TE):TT:=fun σ H Q=>t σ H fun x H'=>∃k,x=.bl k∧Q k H'
theorem aB{op:CmpOp}{r:R2}(ho:cc X (compareOp op) r)(ha:PE X a ta)(hb:PE X b tb)(hm:behindInMarks op b=false):PT X (.Compare a [op] [b] pos) (kr (yc r ta tb)):=by
 intro pins s σ H Q I h
 refine wpAny_isTrue_Compare1 (bz (ha pins s σ H _ I h) fun v s1 ⟨x,H1,I1,r1,q1⟩=>bz (hb pins s1 σ H1 _ I1 q1) fun u s2 ⟨y,H2,I2,r2,q2⟩=>
  bz (ho pins s2 σ H2 x y v u _ I2 r1 r2 q2) fun c s3 ⟨z,H3,I3,r3,k,e,q3⟩=>?_) hm
 subst e
 cases r3
 exact wpAny_truthy_bool ⟨H3,I3,q3⟩
def pE(r r':R2)(ta tb tc:TE):TE:=fun σ H Q=>ta σ H fun x H1=>tb σ H1 fun y H2=>r x y H2 fun z H3=>∃k,z=.bl k∧
 (if k=true then tc σ H3 fun w' H4=>r' y w' H4 Q else Q (.bl false) H3)
theorem mX{op op':CmpOp}{r r':R2}(ho:cc X (compareOp op) r)(ho':cc X (compareOp op') r')(ha:PE X a ta)(hb:PE X b tb)(hc:PE X c tc)
  (hm:lastMarks [op,op'] [b,c]=false:=by with_unfolding_all rfl):PE X (.Compare a [op,op'] [b,c] pos) (pE r r' ta tb tc):=by
 intro pins s σ H Q I h
 refine Compare_chain (bz (ha pins s σ H _ I h) fun v s1 ⟨x,H1,I1,r1,q1⟩=>chain_link (bz (hb pins s1 σ H1 _ I1 q1) fun u s2 ⟨y,H2,I2,r2,q2⟩=>
  bz (ho pins s2 σ H2 x y v u _ I2 r1 r2 q2) fun d s3 ⟨z,H3,I3,r3,k,e,q3⟩=>?_)) hm
 subst e
 cases r3
 refine wpAny_truthy_bool ?_
 cases k with
 | false=>exact ite_ff ⟨.bl false,H3,I3,rfl,q3⟩
 | true=>exact ite_tt (chain_last (bz (hc pins s3 σ H3 _ I3 q3) fun w' s4 ⟨z',H4,I4,r4,q4⟩=>ho' pins s4 σ H4 y z' u w' Q I4 r2 r4 q4))
theorem ui{op op':CmpOp}{r r':R2}(ho:cc X (compareOp op) r)(ho':cc X (compareOp op') r')(ha:PE X a ta)(hb:PE X b tb)(hc:PE X c tc)
  (hm:lastMarks [op,op'] [b,c]=false:=by with_unfolding_all rfl):PT X (.Compare a [op,op'] [b,c] pos) (kr (pE r r' ta tb tc)):=by
 intro pins s σ H Q I h
 refine isTrue_chain (bz (ha pins s σ H _ I h) fun v s1 ⟨x,H1,I1,r1,q1⟩=>test_link (bz (hb pins s1 σ H1 _ I1 q1) fun u s2 ⟨y,H2,I2,r2,q2⟩=>
  bz (ho pins s2 σ H2 x y v u _ I2 r1 r2 q2) fun d s3 ⟨z,H3,I3,r3,k,e,q3⟩=>?_)) hm
 subst e
 cases r3
 refine wpAny_truthy_bool ?_
 cases k with
 | false=>
  obtain⟨k',e',q'⟩:=q3
  cases e'
  exact ite_ff ⟨H3,I3,q'⟩
 | true=>
  refine ite_tt (test_last (bz (hc pins s3 σ H3 _ I3 q3) fun w' s4 ⟨z',H4,I4,r4,q4⟩=>bz (ho' pins s4 σ H4 y z' u w' _ I4 r2 r4 q4) fun d' s5 ⟨z2,H5,I5,r5,k2,e2,q5⟩=>?_))
  subst e2
  cases r5
  exact wpAny_truthy_bool ⟨H5,I5,q5⟩
def u4(K:PySem.W.Frag)(x:V)(H:Hp)(k:Bool):Prop:=
 match x with
 | .non=>k=false
 | .bl b=>k=b
 | .int i=>k=(i != 0)
 | .str y=>y.length≤sizeLine∧k=((y.length:Int) != 0)
 | .byt y=>y.size≤sizeLine∧k=((y.size:Int) != 0)
 | .ref p=>(∃xs,aO K H p xs∧k=!xs.isEmpty)∨(∃xs,cA K H p xs∧k=!xs.isEmpty)∨∃kvs,H p=some (.dK kvs)∧k=!kvs.isEmpty
 | _=>False
theorem oj{κ:Type}{kvs:List (κ×V)}{vs:List (κ×Value)}(r:KV kvs vs):(!vs.isEmpty)=!kvs.isEmpty:=by
 cases r<;>rfl
theorem iZ{xs:List V}{its:List Value}(r:aC xs its):(!its.toArray.isEmpty)=!xs.isEmpty:=by
 cases r<;>simp
theorem gO:(sizeLine:Nat) < 2 ^ 63:=by rw [sizeLine_eq];decide
theorem yi:zM X (fun x H Q=>∃k,u4 X.K x H k∧Q k H):=by
 intro pins s σ H x v Q I rx h
 obtain⟨k,e,q⟩:=h
 have hl:=gO
 have hs:sizeLine=16777216:=sizeLine_eq
 cases x with
 | non=>
  cases rx
  have e':k=false:=e
  subst e'
  exact truthy_none ⟨H,I,q⟩
 | bl b=>
  cases rx
  have e':k=b:=e
  subst e'
  exact wpAny_truthy_bool ⟨H,I,q⟩
 | int i=>
  obtain⟨t,rfl⟩:=rx
  have e':k=(i != 0):=e
  subst e'
  exact PySem.P.truthy_int ⟨H,I,q⟩
 | str y=>
  obtain⟨t,rfl⟩:=rx
  obtain⟨hy,e'⟩:y.length≤sizeLine∧k=((y.length:Int) != 0):=e
  subst e'
  exact PySem.P.truthy_str (by omega) ⟨H,I.tok _,q⟩
 | byt y=>
  obtain⟨t,rfl⟩:=rx
  obtain⟨hy,e'⟩:y.size≤sizeLine∧k=((y.size:Int) != 0):=e
  subst e'
  exact PySem.W.truthy_bytes (by omega) ⟨H,I.tok _,q⟩
 | ref p=>
  cases rx
  have e':(∃xs,aO X.K H p xs∧k=!xs.isEmpty)∨(∃xs,cA X.K H p xs∧k=!xs.isEmpty)∨∃kvs,H p=some (.dK kvs)∧k=!kvs.isEmpty:=e
  rcases e' with⟨xs,hx,e'⟩ | ⟨xs,hx,e'⟩ | ⟨kvs,hx,e'⟩
  ·subst e'
   obtain⟨its,r,pl,hz⟩:=I.list hx
   have hlen:=r.length
   exact wpAny_truthy_list pl.isList (by simp only [List.size_toArray];omega) ⟨H,I.tok _,by rw [iZ r];exact q⟩
  ·subst e'
   obtain⟨its,r,pl,hz⟩:=I.tuple hx
   have hlen:=r.length
   exact truthy_tuple pl (by simp only [List.size_toArray];omega) ⟨H,I.tok _,by rw [iZ r];exact q⟩
  ·subst e'
   obtain⟨hz,hS,vs,r,m⟩:kvs.length≤sizeLine∧(p == sysModules)=false∧∃vs,KV kvs vs∧s.heap.DictOf (kR X.prog X.w) p vs:=I.hok p _ hx
   have hlen:kvs.length=vs.length:=Paired.length r
   exact wpAny_truthy_dict hS m (by omega) ⟨H,I.tok _,by rw [oj r];exact q⟩
 | _=>exact(show False from e).elim
theorem aQ(ha:PE X a ta)(he:∀whole,isTrue a X.env whole=(do let v ←whole;standAt a.pos;holding [v] (truthy v))):
  PT X a (fun σ H Q=>ta σ H fun x H'=>∃k,u4 X.K x H' k∧Q k H'):=by
 intro pins s σ H Q I h
 exact isTrue_plain (bz (ha pins s σ H _ I h) fun v s1 ⟨x,H1,I1,r1,q1⟩=>yi pins s1 σ H1 x v Q I1 r1 q1) (he _)
theorem op_add_str:cc X (binaryOp .Add) (fun x y H Q=>∃i j,x=.str i∧y=.str j∧i.length+j.length≤sizeLine∧Q (.str (i++j)) H):=by
 intro pins s σ H x y v u Q I rx ry h
 obtain⟨i,j,rfl,rfl,hz,q⟩:=h
 obtain⟨t,rfl⟩:=rx
 obtain⟨t',rfl⟩:=ry
 exact add_str (fun t' tk=>⟨.str (i++j),H,I.tok _,⟨_,rfl⟩,q⟩) hz
theorem du{x:V}{us:List Value}(r:aC [x] us):∃u,us=[u]∧aG x u:=by
 cases r with
 | cons r1 r2=>cases r2;exact⟨_,rfl,r1⟩
theorem nG{x y:V}{us:List Value}(r:aC [x,y] us):∃u w',us=[u,w']∧aG x u∧aG y w':=by
 cases r with
 | cons r1 r2=>
  cases r2 with
  | cons r3 r4=>cases r4;exact⟨_,_,rfl,r1,r3⟩
theorem iO:bu X (.builtin "abs") (fun xs H Q=>∃i,xs=[.int i]∧Q (.int (if i < 0 then -i else i)) H):=by
 intro pins s σ H xs us Q I r h
 obtain⟨i,rfl,q⟩:=h
 obtain⟨u,rfl,t,rfl⟩:=du r
 exact call_abs_int fun u tk=>⟨.int (if i < 0 then -i else i),H,I.tok _,⟨_,rfl⟩,q⟩
theorem qB(hc:X.calm=true):bu X (.builtin "min") (fun xs H Q=>∃i j,xs=[.int i,.int j]∧Q (.int (if j < i then j else i)) H):=by
 intro pins s σ H xs us Q I r h
 obtain⟨i,j,rfl,q⟩:=h
 obtain⟨u,w',rfl,⟨t,rfl⟩,⟨t',rfl⟩⟩:=nG r
 refine min_two_ints (I.ok.hd hc) fun h' tk k=>⟨_,H,I.kept k,?_,q⟩
 by_cases hj:j < i
 ·rw [if_pos hj,if_pos hj];exact⟨_,rfl⟩
 ·rw [if_neg hj,if_neg hj];exact⟨_,rfl⟩
theorem qy:bu X (.type "int") (fun xs H Q=>(∃i,xs=[.int i]∧Q (.int i) H)∨∃k,xs=[.bl k]∧Q (.int (if k then 1 else 0)) H):=by
 intro pins s σ H xs us Q I r h
 rcases h with⟨i,rfl,q⟩ | ⟨k,rfl,q⟩
 ·obtain⟨u,rfl,t,rfl⟩:=du r
  exact call_int_int ⟨.int i,H,I,⟨_,rfl⟩,q⟩
 ·obtain⟨u,rfl,r1⟩:=du r
  cases r1
  exact call_int_bool ⟨.int (if k then 1 else 0),H,I.tok _,⟨_,rfl⟩,q⟩
theorem call_str_int:bu X (.type "str") (fun xs H Q=>∃i,xs=[.int i]∧i.natAbs.log2 < 1920∧Q (.str (toString i)) H):=by
 intro pins s σ H xs us Q I r h
 obtain⟨i,rfl,hz,q⟩:=h
 obtain⟨u,rfl,t,rfl⟩:=du r
 exact PySem.P.str_of_int hz ⟨.str _,H,I.tok _,⟨_,rfl⟩,q⟩
theorem ia:bu X (.builtin "divmod") (fun xs H Q=>∃i j,xs=[.int i,.int j]∧yp i j∧∀p,H p=none→Q (.ref p) (upd H p (.tup [.int (i / j),.int (i % j)]))):=by
 intro pins s σ H xs us Q I r h
 obtain⟨i,j,rfl,⟨h1,h2⟩,q⟩:=h
 obtain⟨u,w',rfl,⟨t,rfl⟩,⟨t',rfl⟩⟩:=nG r
 refine divmod_int (by omega) ?_ (.inl (PyProof.noPylong_small (by omega)))
 rw [Int.fdiv_eq_ediv_of_nonneg i (by omega),Int.fmod_eq_emod_of_nonneg i (by omega)]
 have hn:H s.heap.objs.size=none:=I.hok.fresh (Nat.le_refl _)
 refine⟨.ref s.heap.objs.size,_,?_,rfl,q _ hn⟩
 refine I.laid (fun b o e=>Heap.get?_push_of_some _ e) (Nat.le_refl _) ⟨by simp only [List.length_cons,List.length_nil];rw [sizeLine_eq];decide,[.int (i / j) s.toks,.int (i % j) (s.toks+1)],.cons ⟨_,rfl⟩ (.cons ⟨_,rfl⟩ .nil),?_⟩
 exact⟨_,Heap.get?_push_size s.heap rfl,rfl,0,rfl⟩
end
end L2
namespace L2
open PySem PySem.Spec PyProof.Rows
structure nK(h:Heap)(x dx C:Addr)(mA:Str→Option Value):Prop where
 obj:h.get? x=some (PySem.W.instObj C dx)
 ns:h.Ns1 dx mA
 ne:dx≠x
theorem rk{h:Heap}{dx:Addr}{mA:Str→Option Value}(n:h.Ns1 dx mA):∃od,h.get? dx=some od∧∀name,PySem.W.lookIn name od=some (mA name):=by
 obtain⟨o,es,ep,ho,hd,hk,_,hm⟩:=n
 refine⟨o,ho,fun name=>?_⟩
 have e:=hm name
 unfold nsFind findBy at e
 rw [←Array.find?_toList]at e
 unfold PySem.W.lookIn
 rw [hd]
 dsimp only
 split
 ·rename_i y q
  rw [q]at e
  exact congrArg some e
 ·rename_i q
  rw [q]at e
  have a:es.toList.any (·.refKey)=false:=by
   rw [List.any_eq_false]
   intro y hy
   obtain⟨z,t,hkey⟩:=hk y (Array.mem_toList_iff.mp hy)
   simp [DictEntry.refKey,hkey]
  have a':¬es.toList.any (·.refKey)=true:=by rw [a];exact Bool.false_ne_true
  rw [if_neg a']
  exact congrArg some e
theorem nK.look{h:Heap}{x dx C:Addr}{mA:Str→Option Value}(I:nK h x dx C mA):∃od,PySem.W.InstAt h x (PySem.W.instObj C dx) C (some od)∧∀name,PySem.W.lookIn name od=some (mA name):=
 let ⟨od,ho,hl⟩:=rk I.ns
 ⟨od,⟨I.obj,rfl,rfl,ho⟩,hl⟩
section
variable {prog:Program} {w:World} {A:Around} {E:Value→Shared→Prop} {s:Shared} {K:PySem.W.Frag} {x dx C f:Addr} {mA:Str→Option Value} {name:Str} {v:Value}
theorem vm{expr:Bool}{Q:Value→Shared→Prop}(X:K.In s.heap)(I:nK s.heap x dx C mA)(hg:PySem.W.plainGet K C name=true)(hh:PySem.W.hasDictIn K C=true)
  (ha:PySem.W.findIn K (.ref C) name=some none) (hv:mA name=some v) (hv':PySem.W.handedIn v=true) (h:Q v { s with toks:=s.toks+1 }) :
  wpAny (model prog w) A (getAttr (.ref x) name expr) Q E s:=by
 obtain⟨od,J,hl⟩:=I.look
 exact PySem.W.get_value X J (PySem.W.plainGet_of hg).1 (PySem.W.findObj_own hh ha rfl (by rw [hl,hv])) hv' h
theorem sY{pl:Sem Bool}{Q:Value×List Value→Shared→Prop}(X:K.In s.heap)(I:nK s.heap x dx C mA)(hg:PySem.W.plainGet K C name=true)
  (hf:PySem.W.findIn K (.ref C) name=some (some (.ref f))) (ht:PySem.W.isFn K (.ref f)=true) (hv:mA name=none) (h:Q (.ref f,[.ref x]) s) :
  wpAny (model prog w) A (getMethod (.ref x) name pl) Q E s:=by
 obtain⟨od,J,hl⟩:=I.look
 exact PySem.W.method_fn X J (PySem.W.plainGet_of hg).1 (PySem.W.plainGet_of hg).2 hf (beq_iff_eq.mp ht) (by show(PySem.W.lookIn name od).map (·.isSome)=some false;rw [hl,hv];rfl) h
theorem wd{ns:List Str}{Q:Unit→Shared→Prop}(X:K.In s.heap)(I:nK s.heap x dx C mA)
  (hs:PySem.W.findIn K (.ref C) "__setattr__"=some (some (.builtin "object.__setattr__"))) (hp:PySem.W.plainOver K C=true) (ht:PySem.W.takerIn K C name=some none) (hh:PySem.W.hasDictIn K C=true)
  (hw:PySem.Within mA ns) (hsz:ns.length≤sizeLine)
  (h:∀h',nK h' x dx C (fun y=>if y=name then some v else mA y)→Heap.SameBut dx s.heap h'→Q () { s with heap:=h',toks:=s.toks+2 }) :
  wpAny (model prog w) A (setAttr (.ref x) name v) Q E s:=by
 obtain⟨od,J,hl⟩:=I.look
 refine PySem.W.set_plain X J hs (PySem.W.osa_open (s:={ s with toks:=s.toks+1 }) (r:=none) X J hp ht fun b=>?_)
 obtain⟨cd,hc,hd'⟩:=PySem.W.any_some hh
 have hx:s.heap.get? x=some ⟨.ref C,some dx,.plain,#[]⟩:=I.obj
 refine wpAny_bind (wpAny_pure (wpAny_bind (wpAny_bind (wpAny_loadPart hx (wpAny_bind (PySem.W.Looks.here (s:={ s with toks:=s.toks+1 }) (PySem.W.looks_clsIn X hc) ?_))))))
 rw [hd']
 refine wpAny_pure (a:=some dx) (wpAny_bind (wpAny_pure (wpAny_bind ?_)))
 refine wpAny_nsSet1 (s:={ s with toks:=s.toks+1 }) I.ns fun h' hn2 hs2=>?_
 obtain⟨oD,esD,epD,hoD,hdD,hcD⟩:=hn2.count (PySem.Within.cons name v hw)
 refine wpAny_bind (wpAny_lookBehind hoD (by rw [hdD];exact pastItsLine_dict (Nat.le_trans hcD (by rw [List.length_cons];omega))) ?_)
 exact wpAny_pure (h _ ⟨(hs2.2 _ (Ne.symm I.ne)).trans I.obj,hn2,I.ne⟩ hs2)
theorem tM{R:Result→Shared→Prop}{vs:List Value}{kw:List (Str×Value)}(X:K.In s.heap)(hm:PySem.W.makesIn K C=true)
  (hi:PySem.W.findIn K (.ref C) "__init__"=some (some (.ref f))) (hf:PySem.W.typeIn K (.ref f)=some (.type "function"))
  (h:codeAny (model prog w) (A.under (.builtin "type.__call__" ⟨.ref C::vs,kw⟩)) (.call (.ref f) ⟨.ref (s.heap.objs.size+1)::vs,kw⟩) (PySem.W.InitBack (s.heap.objs.size+1) R)
   { s with heap:=(s.heap.push PySem.W.emptyDict).push (PySem.W.instObj C s.heap.objs.size) }) :
  codeAny (model prog w) A (.call (.ref C) ⟨vs,kw⟩) R s:=by
 obtain⟨hh,g,d,t,os⟩:=s
 exact PySem.W.make_core (PySem.W.makes_of X hm) (PySem.W.looks_findIn X hi) (fun self=>PySem.W.bind_fn X self hf) (.inl rfl) h
end
def bc(f:Str)(v:V):List (Str×V)→List (Str×V)
 | []=>[(f,v)]
 | (g,x)::r=>if g=f then(g,v)::r else(g,x)::bc f v r
theorem eF(f g:Str)(v:V):∀fs:List (Str×V),(bc f v fs).lookup g=if g=f then some v else fs.lookup g
 | []=>by
  show List.lookup g [(f,v)]=_
  by_cases h:g=f
  ·have hb:(g == f)=true:=beq_iff_eq.mpr h
   simp only [List.lookup,hb,if_pos h]
  ·have hb:(g == f)=false:=beq_eq_false_iff_ne.mpr h
   simp only [List.lookup,hb,if_neg h]
 | (k,x)::r=>by
  have ih:=eF f g v r
  rw [show bc f v ((k,x)::r)=(if k=f then(k,v)::r else(k,x)::bc f v r)from rfl]
  by_cases hk:k=f
  ·rw [if_pos hk]
   by_cases h:g=k
   ·have hb:(g == k)=true:=beq_iff_eq.mpr h
    simp only [List.lookup,hb,if_pos (h.trans hk)]
   ·have hb:(g == k)=false:=beq_eq_false_iff_ne.mpr h
    simp only [List.lookup,hb,if_neg (fun e:g=f=>h (e.trans hk.symm))]
  ·rw [if_neg hk]
   by_cases h:g=k
   ·have hb:(g == k)=true:=beq_iff_eq.mpr h
    simp only [List.lookup,hb,if_neg (fun e:g=f=>hk (h.symm.trans e))]
   ·have hb:(g == k)=false:=beq_eq_false_iff_ne.mpr h
    simp only [List.lookup,hb]
    exact ih
theorem gN(f:Str)(v:V):∀fs:List (Str×V),f∈(bc f v fs).map (·.1)∧∀g,g∈fs.map (·.1)→g∈(bc f v fs).map (·.1)
 | []=>⟨by simp [bc],fun g h=>by simp at h⟩
 | (k,x)::r=>by
  obtain⟨i1,i2⟩:=gN f v r
  rw [show bc f v ((k,x)::r)=(if k=f then(k,v)::r else(k,x)::bc f v r)from rfl]
  by_cases hk:k=f
  ·rw [if_pos hk]
   subst hk
   exact⟨by simp,fun g h=>by simpa using h⟩
  ·rw [if_neg hk]
   refine⟨?_,fun g h=>?_⟩
   ·rw [List.map_cons]
    exact List.mem_cons_of_mem _ i1
   ·rw [List.map_cons]at h ⊢
    rcases List.mem_cons.mp h with e | e
    ·exact List.mem_cons.mpr (.inl e)
    ·exact List.mem_cons_of_mem _ (i2 g e)
theorem bt(f:Str)(v:V):∀fs:List (Str×V),(bc f v fs).length≤fs.length+1
 | []=>by simp [bc]
 | (k,x)::r=>by
  have ih:=bt f v r
  rw [show bc f v ((k,x)::r)=(if k=f then(k,v)::r else(k,x)::bc f v r)from rfl]
  by_cases hk:k=f
  ·rw [if_pos hk,List.length_cons,List.length_cons];omega
  ·rw [if_neg hk,List.length_cons,List.length_cons];omega
theorem gz.some_of{v:V}{o:Option Value}(r:gz (some v) o):∃u,o=some u∧aG v u:=by
 cases o with
 | none=>exact(show False from r).elim
 | some u=>exact⟨u,rfl,r⟩
theorem gz.none_of{o:Option Value}(r:gz none o):o=none:=by
 cases o with
 | none=>rfl
 | some u=>exact(show False from r).elim
theorem j7{v:V}{u:Value}(r:aG v u):PySem.W.handedIn u=true:=by
 cases v with
 | non=>cases(show u=Value.none from r);rfl
 | bl b=>cases(show u=Value.bool b from r);rfl
 | int i=>obtain⟨t,e⟩:=(show ∃t,u=Value.int i t from r);cases e;rfl
 | str x=>obtain⟨t,e⟩:=(show ∃t,u=Value.str x t from r);cases e;rfl
 | byt b=>obtain⟨t,e⟩:=(show ∃t,u=Value.bytes b t from r);cases e;rfl
 | flt b=>obtain⟨t,e⟩:=(show ∃t,u=Value.float b t from r);cases e;rfl
 | ref a=>cases(show u=Value.ref a from r);rfl
 | ty n=>cases(show u=Value.type n from r);rfl
section
variable {P:Program} {w:World} {H H':Hp} {h h':Heap} {a C dx:Addr} {fs fs':List (Str×V)}
theorem iE(hok:fR P w H h)(e:H a=some (.ins C dx fs)):∃mA,nK h a dx C mA∧(∀f,gz (fs.lookup f) (mA f))∧PySem.Within mA (fs.map (·.1))∧fs.length≤1000∧H dx=some (.own a):=by
 obtain⟨d,z,ne,ob,mA,n,r,q⟩:=(show bD P w H h a (.ins C dx fs)from hok a _ e)
 exact⟨mA,⟨ob,n,ne⟩,r,q,z,d⟩
end
structure ky(K:PySem.W.Frag)(C:Addr):Prop where
 pg:PySem.W.plainGet K C Str.empty=true
 hd:PySem.W.hasDictIn K C=true
 po:PySem.W.plainOver K C=true
 sa:PySem.W.findIn K (.ref C) "__setattr__"=some (some (.builtin "object.__setattr__"))
theorem ky.get{K:PySem.W.Frag}{C:Addr}(c:ky K C)(f:Str):PySem.W.plainGet K C f=true:=c.pg
def NoAttr(K:PySem.W.Frag)(C:Addr)(f:Str):Prop:=PySem.W.findIn K (.ref C) f=some none
theorem NoAttr.taker{K:PySem.W.Frag}{C:Addr}{f:Str}(n:NoAttr K C f):PySem.W.takerIn K C f=some none:=by
 unfold PySem.W.takerIn
 rw [show PySem.W.findIn K (.ref C) f=some none from n]
 rfl
structure w8(K:PySem.W.Frag)(C:Addr)(m:Str)(f:Addr):Prop where
 at_:PySem.W.findIn K (.ref C) m=some (some (.ref f))
 fn:PySem.W.isFn K (.ref f)=true
 kp:PySem.W.keepIn K (.ref f)=true
section
variable {X:Cx} {pins:List (Addr×Obj)} {σ:St} {H:Hp} {s:Shared} {a C dx:Addr} {fs:List (Str×V)} {f:Str} {v:V} {A:Around} {E:Value→Shared→Prop}
theorem og{b:Bool}{Q:Value→Shared→Prop}(I:az X pins σ H s)(e:H a=some (.ins C dx fs))(c:ky X.K C)(n:NoAttr X.K C f)(l:fs.lookup f=some v)
  (h:∀u s',az X pins σ H s'→aG v u→Q u s'):wpAny (model X.prog X.w) A (getAttr (.ref a) f b) Q E s:=by
 obtain⟨mA,O,r,_,_,_⟩:=iE I.hok e
 obtain⟨u,hu,ru⟩:=gz.some_of (v:=v) (o:=mA f) (by rw [←l];exact r f)
 exact vm I.kIn O (c.get f) c.hd n hu (j7 ru) (h u _ (I.tok _) ru)
theorem iX{m:Str}{g:Addr}{pl:Sem Bool}{Q:Value×List Value→Shared→Prop}(I:az X pins σ H s)(e:H a=some (.ins C dx fs))(c:ky X.K C)(k:w8 X.K C m g)(l:fs.lookup m=none)
  (h:Q (.ref g,[.ref a]) s):wpAny (model X.prog X.w) A (getMethod (.ref a) m pl) Q E s:=by
 obtain⟨mA,O,r,_,_,_⟩:=iE I.hok e
 have hn:mA m=none:=gz.none_of (by rw [←l];exact r m)
 exact sY I.kIn O (c.get m) k.at_ k.fn hn h
theorem oZ{y:V}{u:Value}{Q:Unit→Shared→Prop}(I:az X pins σ H s)(e:H a=some (.ins C dx fs))(c:ky X.K C)(n:NoAttr X.K C f)(hl:fs.length < 1000)(ry:aG y u)
  (h:∀s',az X pins σ (upd H a (.ins C dx (bc f y fs))) s'→Q () s'):wpAny (model X.prog X.w) A (setAttr (.ref a) f u) Q E s:=by
 obtain⟨mA,O,r,wi,_,ho⟩:=iE I.hok e
 have hz:(fs.map (·.1)).length≤sizeLine:=by rw [List.length_map,sizeLine_eq];omega
 refine wd I.kIn O c.sa c.po n.taker c.hd wi hz fun h' O' sb=>h _ ?_
 have hd:∃o,h'.get? dx=some o:=let ⟨o,_,_,e',_⟩:=O'.ns;⟨o,e'⟩
 refine I.write (x:=a) (e:=dx) (by rw [e];exact True.intro) (.inr ho) (fun b q hb z=>(sb.2 b hb).trans z) hd ?_
 refine⟨by rw [ai O.ne];exact ho,?_,O.ne,O'.obj,_,O'.ns,fun g=>?_,fun g hg=>?_⟩
 ·have:=bt f y fs;omega
 ·show gz ((bc f y fs).lookup g) (if g=f then some u else mA g)
  rw [eF]
  by_cases q:g=f
  ·rw [if_pos q,if_pos q];exact ry
  ·rw [if_neg q,if_neg q];exact r g
 ·by_cases q:g=f
  ·rw [q];exact(gN f y fs).1
  ·refine(gN f y fs).2 g (wi g fun z=>hg ?_)
   show(if g=f then some u else mA g)=none
   rw [if_neg q];exact z
theorem az.made(I:az X pins σ H s):az X pins σ (upd (upd H s.heap.objs.size (.own (s.heap.objs.size+1))) (s.heap.objs.size+1) (.ins C s.heap.objs.size []))
  { s with heap:=(s.heap.push PySem.W.emptyDict).push (PySem.W.instObj C s.heap.objs.size) }:=by
 have e1:(s.heap.push PySem.W.emptyDict).get? s.heap.objs.size=some PySem.W.emptyDict:=Heap.get?_push_size s.heap rfl
 have e2:((s.heap.push PySem.W.emptyDict).push (PySem.W.instObj C s.heap.objs.size)).get? (s.heap.objs.size+1)=some (PySem.W.instObj C s.heap.objs.size):=by
  have:=Heap.get?_push_size (s.heap.push PySem.W.emptyDict) (o:=PySem.W.instObj C s.heap.objs.size) rfl
  rwa [Heap.size_push]at this
 have e3:(s.heap.push PySem.W.emptyDict).Ns s.heap.objs.size (fun _=>none):=⟨PySem.W.emptyDict,#[],_,e1,rfl,(fun e he=>absurd he (by simp)),fun _=>rfl⟩
 have I1:=I.laid (a:=s.heap.objs.size) (o:=.own (s.heap.objs.size+1)) (h':=s.heap.push PySem.W.emptyDict) (t':=s.toks) (fun b u q=>Heap.get?_push_of_some _ q) (Nat.le_refl _) ⟨_,e1⟩
 refine I1.laid (a:=s.heap.objs.size+1) (o:=.ins C s.heap.objs.size []) (t':=s.toks) (fun b u q=>Heap.get?_push_of_some _ q) (Nat.le_of_eq (Heap.size_push _ _)) ?_
 have ne:s.heap.objs.size≠s.heap.objs.size+1:=Nat.ne_of_lt (Nat.lt_succ_self _)
 refine⟨by rw [ai ne,ae],Nat.zero_le _,ne,e2,fun _=>none,(Heap.Ns1.of_empty e3).at fun o q=>Heap.get?_push_of_some _ q,fun _=>True.intro,fun y hy=>absurd rfl hy⟩
theorem pR{prog:Program}{w:World}{env:Env}{e:Expr}{f:Str}{pos:Pos}{s:Shared}{Q:Value→Shared→Prop}(hb:attributeBase e f env (eval e env)=eval e env)
  (h:wpAny (model prog w) A (eval e env) (fun o s₁=>wpAny (model prog w) A (getAttr o f true) Q E s₁) E s):wpAny (model prog w) A (eval (.Attribute e f pos) env) Q E s:=
 Attribute_any_ h (by rw [arm_eval_Attribute,hb])
end
def ze(K:PySem.W.Frag)(ta:TE)(f:Str):TE:=fun σ H Q=>ta σ H fun x H1=>∃a C dx fs v,x=.ref a∧H1 a=some (.ins C dx fs)∧ky K C∧NoAttr K C f∧fs.lookup f=some v∧Q v H1
def y9(K:PySem.W.Frag)(ta tv:TE)(f:Str):TS:=fun D σ H=>tv σ H fun y H1=>ta σ H1 fun x H2=>∃a C dx fs,x=.ref a∧H2 a=some (.ins C dx fs)∧ky K C∧NoAttr K C f∧fs.length < 1000∧
 D.nx σ (upd H2 a (.ins C dx (bc f y fs)))
section
variable {X:Cx} {o e value:Expr} {f:Str} {pos pos' tpos:Pos} {ta tv:TE}
theorem dm(he:PE X e ta)(hb:attributeBase e f X.env (eval e X.env)=eval e X.env):PE X (.Attribute e f pos) (ze X.K ta f):=by
 intro pins s σ H Q I h
 refine pR hb (bz (he pins s σ H _ I h) fun u s1 ⟨x,H1,I1,rx,a,C,dx,fs,v,ex,ea,c,n,l,q⟩=>?_)
 subst ex
 obtain rfl:u=Value.ref a:=rx
 exact og I1 ea c n l fun u' s2 I2 ru=>⟨v,H1,I2,ru,q⟩
theorem bJ(ha:PE X o ta)(hv:PE X value tv)(hs:swapsWith value (some (.Attribute o f pos')) pos.line X.env=pure false):PS X (.Assign [.Attribute o f pos'] value pos) (y9 X.K ta tv f):=by
 intro pins s σ H D I h
 refine plainObj_wpAny_Assign_Attribute (bz (hv pins s σ H _ I h) fun u s1 ⟨y,H1,I1,ry,q⟩=>bz (ha pins s1 σ H1 _ I1 q) fun ov s2 ⟨x,H2,I2,rx,a,C,dx,fs,ex,ea,c,n,l,q2⟩=>?_) hs
 subst ex
 obtain rfl:ov=Value.ref a:=rx
 exact oZ I2 ea c n l ry fun s3 I3=>⟨σ,_,I3,q2⟩
end
section
variable {X:Cx} {pins:List (Addr×Obj)} {σ:St} {H:Hp} {s:Shared} {A:Around} {E:Value→Shared→Prop} {Q:Value→Shared→Prop} {c:Value} {b:Bool}
inductive fS(K:PySem.W.Frag)(H:Hp):V→Value→Prop where
 | non:fS K H .non (.type "NoneType")
 | bl (x:Bool):fS K H (.bl x) (.type "bool")
 | int (i:Int):fS K H (.int i) (.type "int")
 | str (x:Str):fS K H (.str x) (.type "str")
 | flt (x:UInt64):fS K H (.flt x) (.type "float")
 | lst {a:Addr} {xs:List V} (e:H a=some (.lst xs)):fS K H (.ref a) (.type "list")
 | frz {a:Addr} {o:Obj} {xs:List V} (e:H a=some (.frz o (.lst xs))):fS K H (.ref a) (.type "list")
 | tup {a:Addr} {xs:List V} (e:H a=some (.tup xs)):fS K H (.ref a) (.type "tuple")
 | dK {a:Addr} {kvs:List (mf×V)} (e:H a=some (.dK kvs)):fS K H (.ref a) (.type "dict")
 | dT {a:Addr} {kvs:List (List mf×V)} (e:H a=some (.dT kvs)):fS K H (.ref a) (.type "dict")
 | ins {a C dx:Addr} {fs:List (Str×V)} (e:H a=some (.ins C dx fs)) (cl:ky K C) (ha:PySem.W.findIn K (.ref C) "__class__"=some (some (.builtin "object.__class__")))
   (hn:PySem.W.specialIn K (.builtin "object.__class__") "__get__"=some (some (.builtin "getset_descriptor.__get__"))) (htk:PySem.W.takesIn K (.builtin "object.__class__")=some true)
   (hm:PySem.W.mroIn K C (.type "object")=some true):fS K H (.ref a) (.ref C)
theorem rh{x:V}{u t:Value}(I:az X pins σ H s)(rx:aG x u)(ty:fS X.K H x t)(e:PySem.W.kitOne X.K t c=some b)(h:∀tk,Q (.bool b) { s with toks:=tk }):
  wpAny (model X.prog X.w) A (call (.builtin "isinstance") [u,c]) Q E s:=by
 cases ty with
 | non=>cases(show u=Value.none from rx);exact PySem.W.kia_one PySem.W.kitx_none I.kIn True.intro e (fun z=>nomatch z) h
 | bl y=>cases(show u=Value.bool y from rx);exact PySem.W.kia_one PySem.W.kitx_bool I.kIn True.intro e (fun z=>nomatch z) h
 | int i=>obtain⟨t,q⟩:=(show ∃t,u=Value.int i t from rx);cases q;exact PySem.W.kia_one PySem.W.kitx_int I.kIn True.intro e (fun z=>nomatch z) h
 | str y=>obtain⟨t,q⟩:=(show ∃t,u=Value.str y t from rx);cases q;exact PySem.W.kia_one PySem.W.kitx_str I.kIn True.intro e (fun z=>nomatch z) h
 | flt y=>obtain⟨t,q⟩:=(show ∃t,u=Value.float y t from rx);cases q;exact PySem.W.kia_one PySem.W.kitx_float I.kIn True.intro e (fun z=>nomatch z) h
 | @lst a xs ea=>
  cases(show u=Value.ref a from rx)
  obtain⟨_,_,n,_,h1⟩:=(show bD X.prog X.w H s.heap a (.lst xs)from I.hok a _ ea)
  exact PySem.W.kia_one PySem.W.kitx_list I.kIn ⟨_,h1,rfl⟩ e (fun z=>nomatch z) h
 | @frz a ob xs ea=>
  cases(show u=Value.ref a from rx)
  obtain⟨_,_,_,n,_,h1⟩:=(show bD X.prog X.w H s.heap a (.frz ob (.lst xs))from I.hok a _ ea)
  exact PySem.W.kia_one PySem.W.kitx_list I.kIn ⟨_,h1,rfl⟩ e (fun z=>nomatch z) h
 | @tup a xs ea=>
  cases(show u=Value.ref a from rx)
  obtain⟨_,_,_,p⟩:=(show bD X.prog X.w H s.heap a (.tup xs)from I.hok a _ ea)
  obtain⟨o,h1,h2,_⟩:=p
  exact PySem.W.kia_one PySem.W.kitx_tuple I.kIn ⟨o,h1,h2⟩ e (fun z=>nomatch z) h
 | @dK a kvs ea=>
  cases(show u=Value.ref a from rx)
  obtain⟨_,_,vs,_,p⟩:=(show bD X.prog X.w H s.heap a (.dK kvs)from I.hok a _ ea)
  obtain⟨o,es,ep,h1,h2,_⟩:=p
  exact PySem.W.kia_one PySem.W.kitx_dict I.kIn ⟨o,h1,h2.1⟩ e (fun z=>nomatch z) h
 | @dT a kvs ea=>
  cases(show u=Value.ref a from rx)
  obtain⟨_,_,xs,_,o,es,ep,h1,h2,_⟩:=(show bD X.prog X.w H s.heap a (.dT kvs)from I.hok a _ ea)
  exact PySem.W.kia_one PySem.W.kitx_dict I.kIn ⟨o,h1,h2.1⟩ e (fun z=>nomatch z) h
 | @ins a C dx fs ea cl ha hn htk hm=>
  cases(show u=Value.ref a from rx)
  obtain⟨mA,O,_⟩:=iE I.hok ea
  obtain⟨od,J,_⟩:=O.look
  exact PySem.W.kia_one (PySem.W.kitx_own (cl.get _) cl.hd ha hn htk hm) I.kIn J e (fun z=>nomatch z) h
end
end L2
namespace L2
open PySem PySem.Spec PyProof.Rows
structure bO(k:Nat)(A:Around):Prop where
 hd:A.handled=none
 dp:A.depth+3 * k+5 < recursionLimit
 un:A.units+16 * k+200 < cLine
theorem bO.mono{j k:Nat}{A:Around}(r:bO k A)(h:j≤k):bO j A:=⟨r.hd,by have:=r.dp;omega,by have:=r.un;omega⟩
theorem bO.deeper{k:Nat}{A:Around}(r:bO (k+1) A)(env:Env):bO k (A.deeper env):=
 ⟨r.hd,by have:=r.dp;show A.depth+1+3 * k+5 < _;omega,by have:=r.un;show A.units+3+16 * k+200 < _;omega⟩
theorem oq{A:Around}{C:Addr}{us:List Value}{kw:List (Str×Value)}:(A.under (.builtin "type.__call__" ⟨.ref C::us,kw⟩)).depth=A.depth+1:=by
 first | rfl | simp [Around.under,Code.weight,Code.isCreation,Code.isGuard,Code.isCaller,Code.frames,Code.isFrame,guardIds]
theorem ou{A:Around}{C:Addr}{us:List Value}{kw:List (Str×Value)}:(A.under (.builtin "type.__call__" ⟨.ref C::us,kw⟩)).units=A.units+1:=by
 first | rfl | simp [Around.under,Code.cUnits,Code.frames,Code.isFrame]
theorem bO.make{k:Nat}{A:Around}(r:bO (k+1) A)(C:Addr)(us:List Value)(kw:List (Str×Value)):bO k (A.under (.builtin "type.__call__" ⟨.ref C::us,kw⟩)):=
 ⟨r.hd,by have:=r.dp;rw [oq];omega,by have:=r.un;rw [ou];omega⟩
theorem bO.depth{k:Nat}{A:Around}(r:bO k A):A.depth < recursionLimit:=by have:=r.dp;omega
theorem bO.units{k:Nat}{A:Around}(r:bO k A):A.units+64 < cLine:=by have:=r.un;omega
def wo:TA:=fun _ H Q=>Q [] H
def uK(ta:TE)(tr:TA):TA:=fun σ H Q=>ta σ H fun x H1=>tr σ H1 fun xs H2=>Q (x::xs) H2
section
variable {X:Cx} {e:Expr} {es:List Expr} {te:TE} {t:TA} {pos:Pos}
theorem ah:PA X [] wo:=fun _ _ _ _ H Q I h=>Calls.spliced_nil ⟨[],H,I,.nil,h⟩
theorem aa(ha:PE X e te)(hr:PA X es t)(hs:starEach (e::es) X.env=(false,eval e X.env)::starEach es X.env:=by rfl):PA X (e::es) (uK te t):=by
 intro pos pins s σ H Q I h
 rw [hs]
 show wpAny _ _ (spliced ((false,eval e X.env)::backTo pos (starEach es X.env))) _ _ s
 refine Calls.spliced_cons (bz (ha pins s σ H _ I h) fun u s1 ⟨x,H1,I1,r1,q1⟩=>?_)
 exact bz (hr pos pins s1 σ H1 _ I1 q1) fun us s2 ⟨xs,H2,I2,r2,q2⟩=>⟨x::xs,H2,I2,.cons r1 r2,q2⟩
def zj(t:TA):TE:=fun σ H Q=>t σ H fun xs H1=>xs.length≤sizeLine∧∀p,H1 p=none→Q (.ref p) (upd H1 p (.tup xs))
def zg(t:TA):TE:=fun σ H Q=>t σ H fun xs H1=>xs.length≤sizeLine∧∀p,H1 p=none→Q (.ref p) (upd H1 p (.lst xs))
theorem cw{x1}(h:PA X es t):PE X (.Tuple es x1 pos) (zj t):=by
 intro pins s σ H Q I hq
 refine wpAny_Tuple_spliced (bz (h pos pins s σ H _ I hq) fun us s1 ⟨xs,H1,I1,r,z,q⟩=>⟨by rw [←r.length];exact z,?_⟩)
 have hf:H1 s1.heap.objs.size=none:=I1.hok.fresh (Nat.le_refl _)
 refine⟨.ref s1.heap.objs.size,upd H1 s1.heap.objs.size (.tup xs),I1.laid (t':=s1.toks) (fun b u e=>Heap.get?_push_of_some _ e) (Nat.le_refl _) ?_,rfl,q _ hf⟩
 exact⟨z,us,r,⟨_,Heap.get?_push_size _ rfl,rfl,_,rfl⟩⟩
theorem dH(h:PA X es t):PE X (.List es pos) (zg t):=by
 intro pins s σ H Q I hq
 refine wpAny_List_spliced (bz (h pos pins s σ H _ I hq) fun us s1 ⟨xs,H1,I1,r,z,q⟩=>⟨by rw [←r.length];exact z,?_⟩)
 have hf:H1 s1.heap.objs.size=none:=I1.hok.fresh (Nat.le_refl _)
 refine⟨.ref s1.heap.objs.size,upd H1 s1.heap.objs.size (.lst xs),I1.laid (t':=s1.toks) (fun b u e=>Heap.get?_push_of_some _ e) (Nat.le_refl _) ?_,rfl,q _ hf⟩
 exact⟨z,us,0,r,Heap.get?_push_size _ rfl⟩
end
abbrev Sp:=List V→Hp→VK→XK→Prop
abbrev mi:=List Env→Hp→Shared→XK→Value→Shared→Prop
structure nI(P:Program)(w:World)(K:PySem.W.Frag)(mg:Str→Option Value)(base:Heap)(A:Around)(outer:List Env)(s:Shared)(H:Hp):Prop where
 frames:A.frames=some outer
 mod:Mod K mg base
 bs:∀b o,base.get? b=some o→s.heap.get? b=some o∧H b=none
 bsz:base.objs.size≤s.heap.objs.size
 funs:s.heap.FunFrames base outer
 frf:∀b∈jq outer,H b=none
 hok:fR P w H s.heap
 bare:AllBare s.gens
def CE(outer:List Env)(P:Program)(w:World)(H:Hp)(s:Shared)(Q:VK)(u:Value)(s':Shared):Prop:=
 ∃v H',s'.os=s.os∧AllBare s'.gens∧Un (jq outer) [] H H' s.heap s'.heap∧fR P w H' s'.heap∧aG v u∧Q v H'
def CR(CX:mi)(outer:List Env)(P:Program)(w:World)(H:Hp)(s:Shared)(Q:VK)(E:XK)(r:Result)(s':Shared):Prop:=
 match r with
 | .ok (.ret u)=>CE outer P w H s Q u s'
 | .ok _=>False
 | .error e=>CX outer H s E e s'
structure aE(P:Program)(w:World)(K:PySem.W.Frag)(mg:Str→Option Value)(base:Heap)(CX:mi)(k:Nat)(f:Addr)(fd:FuncData)(ps:List Str)(sp:Sp):Prop where
 len:∀vs H Q E,sp vs H Q E→vs.length=ps.length
 run:∀(A:Around) (outer:List Env) (s:Shared) (H:Hp) (args:Args) (us:List Value) (vs:List V) (Q:VK) (E:XK),bO k A→nI P w K mg base A outer s H→BindsTo s fd args (ps.zip us)→aC vs us→sp vs H Q E→
  codeAny (model P w) A (.call (.ref f) args) (CR CX outer P w H s Q E) s
theorem aE.mono{P:Program}{w:World}{K:PySem.W.Frag}{mg:Str→Option Value}{base:Heap}{CX:mi}{j k:Nat}{f:Addr}{fd:FuncData}{ps:List Str}{sp:Sp}(F:aE P w K mg base CX j f fd ps sp)(h:j≤k):
  aE P w K mg base CX k f fd ps sp:=⟨F.len,fun A outer s H args us vs Q E hr=>F.run A outer s H args us vs Q E (hr.mono h)⟩
theorem aE.imp{P:Program}{w:World}{K:PySem.W.Frag}{mg:Str→Option Value}{base:Heap}{CX:mi}{k:Nat}{f:Addr}{fd:FuncData}{ps:List Str}{sp sp':Sp}(F:aE P w K mg base CX k f fd ps sp)
  (h:∀vs H Q E,sp' vs H Q E→sp vs H Q E):aE P w K mg base CX k f fd ps sp':=
 ⟨fun vs H Q E q=>F.len vs H Q E (h _ _ _ _ q),fun A outer s H args us vs Q E hr he hb hv hs=>F.run A outer s H args us vs Q E hr he hb hv (h _ _ _ _ hs)⟩
theorem nI.make{P:Program}{w:World}{K:PySem.W.Frag}{mg:Str→Option Value}{base:Heap}{A:Around}{outer:List Env}{s:Shared}{H:Hp}(e:nI P w K mg base A outer s H)(C:Addr)(us:List Value)(kw:List (Str×Value)):
  nI P w K mg base (A.under (.builtin "type.__call__" ⟨.ref C::us,kw⟩)) outer s H:=⟨by first | exact e.frames | (simpa [Around.under,Code.envs,Code.isFrame,pushEnvs]using e.frames),e.mod,e.bs,e.bsz,e.funs,e.frf,e.hok,e.bare⟩
section
variable {X:Cx} {pins:List (Addr×Obj)} {σ:St} {H:Hp} {s s':Shared}
theorem az.env0(I:az X pins σ H s):nI X.prog X.w X.K X.mg X.base X.A X.stack s H:=
 ⟨I.ok.frames,I.ok.mod,I.bs,Nat.le_trans I.ok.bsz I.sz,I.stack,I.stkFree,I.hok,I.bare⟩
theorem az.after{Q:VK}{u:Value}(I:az X pins σ H s)(h:CE X.stack X.prog X.w H s Q u s'):EP X pins σ Q u s':=by
 obtain⟨v,H',os,bare,un,hok,r,q⟩:=h
 obtain⟨hh,g,d,t,os'⟩:=s'
 obtain rfl:os'=s.os:=os
 exact⟨v,H',I.call (h':=hh) (g':=g) (d':=d) (t':=t) (ch:=[]) un hok bare (fun b z=>absurd z (by simp)),r,q⟩
end
def ko(sp:Sp)(dvs:List V)(E:XK)(t:TA):TE:=fun σ H Q=>t σ H fun vs H1=>sp (vs++dvs) H1 Q E
def uN(C:Addr)(sp:Sp)(dvs:List V)(E:XK)(t:TA):TE:=fun σ H Q=>t σ H fun vs H1=>∀x dx,H1 x=none→H1 dx=none→dx≠x→
 sp (.ref x::(vs++dvs)) (upd (upd H1 dx (.own x)) x (.ins C dx [])) (fun v H2=>v=.non∧Q (.ref x) H2) E
def bT(K:PySem.W.Frag)(fd:FuncData)(ps:List Str)(ds:List Value):Prop:=
 ∀(s:Shared) (us:List Value),K.In s.heap→(us++ds).length=ps.length→BindsTo s fd ⟨us,[]⟩ (ps.zip (us++ds))
theorem bT.all{K:PySem.W.Frag}{fd:FuncData}{ps:List Str}(h:∀us:List Value,us.length=ps.length→bindArgs fd ⟨us,[]⟩=pure (ps.zip us)):bT K fd ps []:=fun s us _ hl=>by
 rw [List.append_nil]at hl ⊢
 exact .of_eq (h us hl)
def fA(CX:mi)(X:Cx)(E:XK):Prop:=∀(pins:List (Addr×Obj)) (σ:St) (H:Hp) (s:Shared) (e:Value) (s':Shared),az X pins σ H s→CX X.stack H s E e s'→X.xe e s'
section
variable {X:Cx} {CX:mi} {k:Nat} {f C:Addr} {fd:FuncData} {ps:List Str} {sp:Sp} {dvs:List V} {ds:List Value} {E:XK} {x m:Str} {p pos apos:Pos} {e o:Expr} {es:List Expr} {ta:TE} {t:TA}
theorem je{pins:List (Addr×Obj)}{σ:St}{H:Hp}{s:Shared}{Q:VK}{us:List Value}{vs:List V}(F:aE X.prog X.w X.K X.mg X.base CX k f fd ps sp)(hr:bO k X.A)(hb:bT X.K fd ps ds)(hd:aC dvs ds)(hx:fA CX X E)
  (I:az X pins σ H s) (r:aC vs us) (h:sp (vs++dvs) H Q E):wpAny (model X.prog X.w) X.A (call (.ref f) us) (EP X pins σ Q) X.xe s:=by
 have r2:aC (vs++dvs) (us++ds):=r.append hd
 have hl:(us++ds).length=ps.length:=by rw [←r2.length];exact F.len _ _ _ _ h
 refine wpAny_call (codeAny_mono (F.run X.A X.stack s H ⟨us,[]⟩ (us++ds) (vs++dvs) Q E hr I.env0 (hb s us I.kIn hl) r2 h) fun r s' hq=>?_)
 cases r with
 | error e=>exact hx pins σ H s e s' I hq
 | ok fl=>
  cases fl with
  | ret u=>exact I.after hq
  | next=>exact False.elim hq
  | brk=>exact False.elim hq
  | cont=>exact False.elim hq
theorem p7(F:aE X.prog X.w X.K X.mg X.base CX k f fd ps sp)(hr:bO k X.A)(hg:Gl X x)(hm:X.mg x=some (.ref f))(hk:PySem.W.keepIn X.K (.ref f)=true)(hb:bT X.K fd ps ds)(hd:aC dvs ds)(hx:fA CX X E)
  (ha:PA X (e::es) t) (hdb:(x == ("__debug__":Str))=false:=by decide) (he:starEach (e::es) X.env=(false,eval e X.env)::starEach es X.env:=by rfl) (hpl:(backTo pos (starEach es X.env)).any (·.1)=false:=by rfl) :
  PE X (.Call (.Name x p) (e::es) [] pos) (ko sp dvs E t):=by
 intro pins s σ H Q I h
 refine wpAny_Call_Name_kw (fb I hg hm ?_ hdb)
 refine PySem.W.callWith_K (h₀:=X.base) I.ok.mod.kin hk (bz (ha pos pins s σ H _ I h) fun us s1 ⟨vs,H1,I1,r,q⟩=>⟨I1.kIn,?_⟩) he hpl
 exact je F hr hb hd hx I1 r q
structure Mk(K:PySem.W.Frag)(C f:Addr):Prop where
 makes:PySem.W.makesIn K C=true
 init:PySem.W.findIn K (.ref C) "__init__"=some (some (.ref f))
 fn:PySem.W.isFn K (.ref f)=true
 kp:PySem.W.keepIn K (.ref C)=true
theorem uB{pins:List (Addr×Obj)}{σ:St}{H:Hp}{s:Shared}{Q:VK}{us:List Value}{vs:List V}(M:Mk X.K C f)(F:aE X.prog X.w X.K X.mg X.base CX k f fd ps sp)(hr:bO (k+1) X.A)(hb:bT X.K fd ps ds)(hd:aC dvs ds)
  (hx:fA CX X E) (I:az X pins σ H s) (r:aC vs us)
  (h:∀x dx,H x=none→H dx=none→dx≠x→sp (.ref x::(vs++dvs)) (upd (upd H dx (.own x)) x (.ins C dx [])) (fun v H2=>v=.non∧Q (.ref x) H2) E) :
  wpAny (model X.prog X.w) X.A (call (.ref C) us) (EP X pins σ Q) X.xe s:=by
 have hq:=h (s.heap.objs.size+1) s.heap.objs.size (I.hok.fresh (Nat.le_succ _)) (I.hok.fresh (Nat.le_refl _)) (Nat.ne_of_lt (Nat.lt_succ_self _))
 have I2:=az.made (C:=C) I
 have r2:aC (V.ref (s.heap.objs.size+1)::(vs++dvs)) (Value.ref (s.heap.objs.size+1)::(us++ds)):=.cons rfl (r.append hd)
 have hl:(Value.ref (s.heap.objs.size+1)::us++ds).length=ps.length:=by
  have e:=r2.length
  rw [F.len _ _ _ _ hq]at e
  exact e.symm
 refine wpAny_call (tM (f:=f) I.kIn M.makes M.init (beq_iff_eq.mp M.fn) (codeAny_mono (F.run _ X.stack _ _ ⟨Value.ref (s.heap.objs.size+1)::us,[]⟩ (Value.ref (s.heap.objs.size+1)::(us++ds)) _ _ E (hr.make C us [])
  (I2.env0.make C us []) (hb _ (Value.ref (s.heap.objs.size+1)::us) I2.kIn hl) r2 hq) fun r s' hq'=>?_))
 cases r with
 | error e=>exact hx pins σ _ _ e s' I2 hq'
 | ok fl=>
  cases fl with
  | ret u=>
   obtain⟨v,H',I3,rv,ev,q3⟩:=I2.after hq'
   subst ev
   exact⟨rv,⟨V.ref (s.heap.objs.size+1),H',I3,rfl,q3⟩⟩
  | next=>exact False.elim hq'
  | brk=>exact False.elim hq'
  | cont=>exact False.elim hq'
theorem vQ(M:Mk X.K C f)(F:aE X.prog X.w X.K X.mg X.base CX k f fd ps sp)(hr:bO (k+1) X.A)(hg:Gl X x)(hm:X.mg x=some (.ref C))(hb:bT X.K fd ps ds)(hd:aC dvs ds)(hx:fA CX X E)
  (ha:PA X (e::es) t) (hdb:(x == ("__debug__":Str))=false:=by decide) (he:starEach (e::es) X.env=(false,eval e X.env)::starEach es X.env:=by rfl) (hpl:(backTo pos (starEach es X.env)).any (·.1)=false:=by rfl) :
  PE X (.Call (.Name x p) (e::es) [] pos) (uN C sp dvs E t):=by
 intro pins s σ H Q I h
 refine wpAny_Call_Name_kw (fb I hg hm ?_ hdb)
 refine PySem.W.callWith_K (h₀:=X.base) I.ok.mod.kin M.kp (bz (ha pos pins s σ H _ I h) fun us s1 ⟨vs,H1,I1,r,q⟩=>⟨I1.kIn,?_⟩) he hpl
 exact uB M F hr hb hd hx I1 r q
end
section
variable {X:Cx} {CX:mi} {k:Nat} {f C:Addr} {fd:FuncData} {ps ks:List Str} {sp:Sp} {E:XK} {x m:Str} {p pos apos kpos:Pos} {e o:Expr} {es:List Expr} {kws:List Keyword} {te ta:TE} {t tk:TA} {nm:Option Str}
variable {g:List Value→List Value→List Value} {gV:List V→List V→List V}
end
structure av(N P:List Str)(sc:Scope):Prop where
 kind:sc.kind=.function
 co:sc.isCoroutine=false
 gen:sc.isGenerator=false
 nd:N.Nodup
 pre:N.take P.length=P
 par:∀x∈P,sc.names.lookup x=some .local∨sc.names.lookup x=some .cell
 nofree:∀y∈sc.names,y.2≠.free
theorem jW{kindOf:Str→Option NameKind}{x:Str}:∀{binds:List (Str×Value)} {m:Str→Option Value},(∀v,(x,v)∉binds)→bindL kindOf binds m x=m x
 | [],_,_=>rfl
 | (n,v)::r,m,h=>by
  unfold bindL
  rw [jW fun w hw=>h w (List.mem_cons_of_mem _ hw)]
  split
  ·have:x≠n:=by rintro rfl;exact h v List.mem_cons_self
   simp [this]
  ·rfl
theorem jT{kindOf:Str→Option NameKind}{x:Str}:∀{binds:List (Str×Value)} {m:Str→Option Value},(∀v,(x,v)∉binds)→bindC kindOf binds m x=m x
 | [],_,_=>rfl
 | (n,v)::r,m,h=>by
  unfold bindC
  rw [jT fun w hw=>h w (List.mem_cons_of_mem _ hw)]
  split
  ·rfl
  ·have:x≠n:=by rintro rfl;exact h v List.mem_cons_self
   simp [this]
theorem jV{kindOf:Str→Option NameKind}{x:Str}{v:Value}:∀{P:List Str} {vs:List Value} {i:Nat} {m:Str→Option Value},P.Nodup→P[i]?=some x→vs[i]?=some v→kindOf x=some .local→
  bindL kindOf (P.zip vs) m x=some v
 | [],_,_,_,_,h,_,_=>by simp at h
 | _::_,[],_,_,_,_,h,_=>by simp at h
 | p::P,w::vs,0,m,nd,h1,h2,hk=>by
  simp at h1 h2;subst h1;subst h2
  show bindL kindOf ((p,w)::P.zip vs) m p=_
  unfold bindL
  rw [jW fun v hv=>(List.nodup_cons.mp nd).1 (List.of_mem_zip hv).1,if_pos hk]
  simp
 | p::P,w::vs,i+1,m,nd,h1,h2,hk=>by
  show bindL kindOf ((p,w)::P.zip vs) m x=_
  unfold bindL
  exact jV (i:=i) (List.nodup_cons.mp nd).2 (by simpa using h1) (by simpa using h2) hk
theorem jS{kindOf:Str→Option NameKind}{x:Str}{v:Value}:∀{P:List Str} {vs:List Value} {i:Nat} {m:Str→Option Value},P.Nodup→P[i]?=some x→vs[i]?=some v→kindOf x≠some .local→
  bindC kindOf (P.zip vs) m x=some v
 | [],_,_,_,_,h,_,_=>by simp at h
 | _::_,[],_,_,_,_,h,_=>by simp at h
 | p::P,w::vs,0,m,nd,h1,h2,hk=>by
  simp at h1 h2;subst h1;subst h2
  show bindC kindOf ((p,w)::P.zip vs) m p=_
  unfold bindC
  rw [jT fun v hv=>(List.nodup_cons.mp nd).1 (List.of_mem_zip hv).1,if_neg hk]
  simp
 | p::P,w::vs,i+1,m,nd,h1,h2,hk=>by
  show bindC kindOf ((p,w)::P.zip vs) m x=_
  unfold bindC
  exact jS (i:=i) (List.nodup_cons.mp nd).2 (by simpa using h1) (by simpa using h2) hk
def start(N:List Str)(vs:List V):St:=vs.map some++List.replicate (N.length - vs.length) none
def gH(CX:mi)(P:Program)(w:World)(K:PySem.W.Frag)(mg:Str→Option Value)(base:Heap)(N:List Str)(qual:Str)(scope:Scope)(f:Addr)(cd:Value)(A:Around)(outer:List Env)(s:Shared)(H:Hp)(E:XK):Cx where
 prog:=P
 w:=w
 K:=K
 mg:=mg
 base:=base
 A:=A.deeper (envOfC qual scope s.heap.objs.size f cd)
 N:=N
 s₀:=s
 H₀:=H
 env:=envOfC qual scope s.heap.objs.size f cd
 outer:=outer
 stack:=envOfC qual scope s.heap.objs.size f cd::outer
 ex:=[]
 calm:=true
 fn:=fun _=>true
 pn:=[]
 xe:=fun e s'=>wpAny (model P w) (A.deeper (envOfC qual scope s.heap.objs.size f cd)) (leaving (envOfC qual scope s.heap.objs.size f cd) e) (fun _ s''=>CX outer H s E e s'') (fun e' s''=>CX outer H s E e' s'') s'
theorem mn{sc:Scope}{n:Nat}{x:Str}(h:sc.names.lookup x=some .cell):∃c,(cellsFrom n sc.names []).lookup x=some c:=by
 have q:=PySem.W.cellsFrom_some sc.names n [] (.inl h)
 exact Option.isSome_iff_exists.mp q
theorem rg{CX:mi}{P:Program}{w:World}{K:PySem.W.Frag}{mg:Str→Option Value}{base:Heap}{N ps:List Str}{qual:Str}{scope:Scope}{f:Addr}{cd:Value}{A:Around}{outer:List Env}{s s1:Shared}{H:Hp}{E:XK}{us:List Value}{vs:List V}
  (S:av N ps scope) (hd:A.handled=none) (e0:nI P w K mg base A outer s H) (hl:vs.length=ps.length) (r:aC vs us)
  (x:InCallC s s.heap.objs.size (bindL (envOfC qual scope s.heap.objs.size f cd).kindOf (ps.zip us) fun _=>none) (cellsFrom (s.heap.objs.size+1) scope.names []) (bindC (envOfC qual scope s.heap.objs.size f cd).kindOf (ps.zip us) fun _=>none) s1) :
  az (gH CX P w K mg base N qual scope f cd A outer s H E) [] (start N vs) H s1:=by
 have hpl:ps.length≤N.length:=by have:=congrArg List.length S.pre;rw [List.length_take]at this;omega
 obtain⟨h1,tk,rfl,hk⟩:=x.done
 have noA:∀b:Addr,b∉(gH CX P w K mg base N qual scope f cd A outer s H E).ex:=fun b z=>absurd (show b∈([]:List Addr)from z) (by simp)
 refine⟨⟨e0.mod,S.kind,rfl,rfl,Nat.le_refl _,fun y z c h1 h2=>?_,fun y hy=>?_,fun y c _ h=>?_,fun _=>hd,Around.frames_deeper e0.frames,.inr ⟨rfl,rfl⟩,fun b z=>absurd z (noA b),e0.bs,e0.bsz,fun b _ _=>noA b,fun b z=>absurd z (noA b),e0.funs,e0.frf⟩,
  rfl,e0.bare,Un.kept hk,⟨_,x.toInCall.ns,fun i y v h1 h2 h3=>?_⟩,fun y c h=>⟨_,x.cell y c h⟩,e0.hok.fresh (Nat.le_refl _),fun y c h=>?_,fun p hp=>absurd (show p∈([]:List (Addr×Obj))from hp) (by simp),e0.hok.kept hk,?_⟩
 ·exact name_of_addr x.apart (PySem.mem_of_lookup h1) (PySem.mem_of_lookup h2)
 ·have hy:scope.names.lookup y=some .cell∨scope.names.lookup y=some .free:=hy
  rcases hy with hy | hy
  ·exact mn hy
  ·exact absurd rfl (S.nofree _ (PySem.mem_of_lookup hy))
 ·exact Nat.le_of_lt (x.above y c (PySem.mem_of_lookup h))
 ·have hi:i < vs.length:=by
   unfold start at h2
   by_cases hi:i < vs.length
   ·exact hi
   ·rw [List.getElem?_append_right (by simpa using hi)]at h2
    rw [List.getElem?_replicate]at h2
    split at h2<;>cases h2
  have ha:vs[i]?=some v:=by
   unfold start at h2
   rw [List.getElem?_append_left (by simpa using hi),List.getElem?_map]at h2
   cases e:vs[i]? with
   | none=>rw [e]at h2;cases h2
   | some a=>rw [e]at h2;cases h2;rfl
  obtain⟨u,hu,rv⟩:=r.get ha
  have hp:ps[i]?=some y:=by
   rw [←S.pre,List.getElem?_take_of_lt (by omega)];exact h1
  have ndP:ps.Nodup:=by rw [←S.pre];exact S.nd.sublist (List.take_sublist _ _)
  refine⟨u,rv,?_⟩
  rcases S.par y (List.mem_of_getElem? hp)with k | k
  ·exact .inl ⟨k,jV ndP hp hu k⟩
  ·obtain⟨c,e⟩:=mn (n:=s.heap.objs.size+1) k
   refine .inr ⟨.inl k,c,e,?_⟩
   have q:=x.cell y c e
   rw [jS ndP hp hu (by show scope.names.lookup y≠_;rw [k];decide)]at q
   exact q
 ·exact e0.hok.fresh (Nat.le_of_lt (x.above y c (PySem.mem_of_lookup h)))
 ·unfold start
  show _=N.length
  rw [List.length_append,List.length_map,List.length_replicate]
  omega
theorem sW{CX:mi}{P:Program}{w:World}{K:PySem.W.Frag}{mg:Str→Option Value}{base:Heap}{k:Nat}{f:Addr}{name qual:Str}{params:Arguments}{body:List Stmt}{scope:Scope}{dV kV doc pm cdv ct oc:Value}{an od:Option Addr}
  {osl:Array (Option Value)} {N ps:List Str} {sp:Sp} (lk:K.lookup f=some ⟨oc,od,.func (PySem.W.fnOf name qual params body scope dV kV doc pm an cdv ct),osl⟩) (hcd:PySem.W.codeIn K cdv qual=true) (S:av N ps scope)
  (len:∀vs H Q E,sp vs H Q E→vs.length=ps.length)
  (hbody:∀(A:Around) (outer:List Env) (s:Shared) (H:Hp) (vs:List V) (Q:VK) (E:XK),bO k (A.deeper (envOfC qual scope s.heap.objs.size f cdv))→sp vs H Q E→
   ∃t,nL (gH CX P w K mg base N qual scope f cdv A outer s H E) body t∧t { nx:=fun _ H'=>Q .non H',rt:=Q } (start N vs) H) :
  aE P w K mg base CX (k+1) f (PySem.W.fnOf name qual params body scope dV kV doc pm an cdv ct) ps sp:=by
 refine⟨len,fun A outer s H args us vs Q E hr e0 hb r hsp=>?_⟩
 have hl:=len _ _ _ _ hsp
 have KX:K.In s.heap:=e0.mod.kin.keeps fun b o e=>(e0.bs b o e).1
 have lim:s.heap.NoLimit:=e0.mod.nolimit.keeps fun b o e=>(e0.bs b o e).1
 have hkind:∀y∈ps.zip us,scope.names.lookup y.1=some .local∨(scope.names.lookup y.1=some .cell∧((cellsFrom (s.heap.objs.size+1) scope.names []).lookup y.1).isSome=true):=fun⟨n,v⟩ hy=>by
  rcases S.par n (List.of_mem_zip hy).1 with q | q
  ·exact .inl q
  ·exact .inr ⟨q,PySem.W.cellsFrom_some _ _ _ (.inl q)⟩
 refine codeAny_call_function hr.depth (KX _ _ lk) rfl S.co S.gen rfl (PySem.W.codeRec_of KX hcd) (hb _ _ _ _ ?_)
 refine wpAny_newFunctionEnv_cells S.kind hkind fun env he s1 x=>?_
 subst he
 refine⟨lim.keeps x.toInCall.keep,codeAny_func ?_⟩
 obtain⟨t,ht,hq⟩:=hbody A outer s H vs Q E (hr.deeper _) hsp
 have I:az (gH CX P w K mg base N qual scope f cdv A outer s H E) [] (start N vs) H s1:=rg S hr.hd e0 hl r x
 refine wpAny_mono (ht [] s1 (start N vs) H _ I hq) (fun fl s' hs=>?_) fun e s' hs=>hs
 have fin:∀{σ':St} {H':Hp} {v:V} {u:Value},az (gH CX P w K mg base N qual scope f cdv A outer s H E) [] σ' H' s'→aG v u→Q v H'→CE outer P w H s Q u s':=
  fun {σ' H' v u} J rv q=>⟨v,H',J.os,J.bare,J.base,J.hok,rv,q⟩
 cases fl with
 | ret u=>
  obtain⟨v,σ',H',J,rv,q⟩:=hs
  exact fin J rv q
 | next=>
  obtain⟨σ',H',J,q⟩:=hs
  exact fin (v:=V.non) (u:=Value.none) J rfl q
 | brk=>
  obtain⟨_,_,_,q⟩:=hs
  exact False.elim q
 | cont=>
  obtain⟨_,_,_,q⟩:=hs
  exact False.elim q
end L2
namespace L2
open PySem PySem.Spec PyProof.Rows
section
variable {X:Cx} {x:Str} {p pos:Pos} {e:Expr} {es:List Expr} {t:TA} {id T:String} {r:List V→Hp→VK→Prop}
def zC(r:List V→Hp→VK→Prop)(t:TA):TE:=fun σ H Q=>t σ H fun vs H1=>r vs H1 Q
theorem ax(hc:bu X (.builtin id) r)(hg:Gl X x)(hm:X.mg x=none)(hv:bootBuiltins x=some (.builtin id))(ha:PA X (e::es) t)(hn:x≠"__name__":=by decide)(hdb:(x == ("__debug__":Str))=false:=by decide)
  (he:starEach (e::es) X.env=(false,eval e X.env)::starEach es X.env:=by rfl) (hpl:(backTo pos (starEach es X.env)).any (·.1)=false:=by rfl):PE X (.Call (.Name x p) (e::es) [] pos) (zC r t):=by
 intro pins s σ H Q I h
 refine wpAny_Call_Name_kw (eE I hg hm hv ?_ hn hdb)
 exact PyProof.Rows.callWith_builtin1 (bz (ha pos pins s σ H _ I h) fun us s1 ⟨vs,H1,I1,r1,q1⟩=>hc pins s1 σ H1 vs us Q I1 r1 q1) he hpl
theorem aJ(hc:bu X (.type T) r)(hg:Gl X x)(hm:X.mg x=none)(hv:bootBuiltins x=some (.type T))(ha:PA X (e::es) t)(hn:x≠"__name__":=by decide)(hdb:(x == ("__debug__":Str))=false:=by decide)
  (he:starEach (e::es) X.env=(false,eval e X.env)::starEach es X.env:=by rfl) (hpl:(backTo pos (starEach es X.env)).any (·.1)=false:=by rfl):PE X (.Call (.Name x p) (e::es) [] pos) (zC r t):=by
 intro pins s σ H Q I h
 refine wpAny_Call_Name_kw (eE I hg hm hv ?_ hn hdb)
 exact PyProof.Rows.callWith_type1 (bz (ha pos pins s σ H _ I h) fun us s1 ⟨vs,H1,I1,r1,q1⟩=>hc pins s1 σ H1 vs us Q I1 r1 q1) he hpl
end
end L2
namespace HT
open PySem PyProof.Rows
section
open PySem.SeqAt
open PySem.AutoSeq1 (wpAny_loadPart')
open PySem.MeetsSeq PySem.MeetsSeq2 PySem.MeetsSeq3
end
section
variable {prog:Program} {w:World} {A:Around} {E:Value→Shared→Prop} {s:Shared}
theorem cat_tup{t b:Addr}{vs ws:List Value}{Q:Value→Shared→Prop}(ht:IsTup s.heap t vs.toArray)(hb:IsTup s.heap b ws.toArray)(hv:vs≠[])
  (h1:ws=[]→Q (.ref t) s) (h2:ws≠[]→Q (.ref s.heap.objs.size) { s with heap:=s.heap.push { cls:=.type "tuple",data:=.seq (vs++ws).toArray } })
  (hsz:vs.length+ws.length≤sizeLine):wpAny (model prog w) A (binaryOp .Add (.ref t) (.ref b)) Q E s:=by
 obtain⟨⟨cls,dd,data,sl⟩,ho,hc,n,hd⟩:=id ht
 obtain⟨⟨cls2,dd2,data2,sl2⟩,ho2,hc2,n2,hd2⟩:=id hb
 simp only at hc hd hc2 hd2
 subst hc hd hc2 hd2
 have e:vs.toArray++ws.toArray=(vs++ws).toArray:=by simp
 by_cases hw:ws=[]
 ·exact concat_meets ⟨_,ho,rfl⟩ ⟨_,ho2,rfl⟩ noFill_tuple_add seq_tuple_add PySem.F.slot_tuple_add PySem.F.entry_tuple_add (PySem.F.args_tuple_add_2 _ _)
   (tuple_addW1 t b vs.toArray ws.toArray n n2 dd dd2 sl sl2 (by simpa using hv) (by simp [hw])) ⟨ho,ho2,h1 hw⟩
 ·refine concat_meets ⟨_,ho,rfl⟩ ⟨_,ho2,rfl⟩ noFill_tuple_add seq_tuple_add PySem.F.slot_tuple_add PySem.F.entry_tuple_add (PySem.F.args_tuple_add_2 _ _)
   (tuple_addW2 t b vs.toArray ws.toArray n n2 dd dd2 sl sl2 (by simpa using hv) (by simpa using hw) (by rw [List.size_toArray,List.size_toArray];exact hsz)) ⟨ho,ho2,?_⟩
  rw [e]
  exact h2 hw
def sIx(n d:Nat):Option Int→Nat
 | none=>d
 | some v=>if v < 0 then(v+(n:Int)).toNat else min v.toNat n
theorem sIx_none(n d:Nat):sIx n d none=d:=rfl
theorem sIx_nat(n d k:Nat):sIx n d (some (k:Int))=min k n:=by
 show(if (k:Int) < 0 then((k:Int)+(n:Int)).toNat else min (k:Int).toNat n)=min k n
 rw [if_neg (by omega),Int.toNat_natCast]
theorem xY(n d:Nat)(hd:d≤n)(o:Option Int):sIx n d o≤n:=by
 cases o with
 | none=>exact hd
 | some v=>
  show(if v < 0 then(v+(n:Int)).toNat else min v.toNat n)≤n
  by_cases hv:v < 0
  ·rw [if_pos hv];omega
  ·rw [if_neg hv];exact Nat.min_le_right _ _
theorem pT(v:Int)(n d:Nat):(if v < 0 then max (v+(n:Int)) 0 else min v (n:Int))=((sIx n d (some v):Nat):Int):=by
 show(if v < 0 then max (v+(n:Int)) 0 else min v (n:Int))=(((if v < 0 then(v+(n:Int)).toNat else min v.toNat n):Nat):Int)
 by_cases hv:v < 0
 ·simp only [if_pos hv];omega
 ·simp only [if_neg hv];omega
theorem nO(lo hi:Option Int)(n:Nat):Builtin.Slice.sliceAdjust lo hi 1 (n:Int)=(((sIx n 0 lo:Nat):Int),((sIx n n hi:Nat):Int)):=by
 have h1:¬((1:Int) < 0):=by omega
 unfold Builtin.Slice.sliceAdjust
 simp only [h1,if_false]
 refine Prod.ext ?_ ?_
 ·cases lo with
  | none=>rfl
  | some v=>exact pT v n 0
 ·cases hi with
  | none=>rfl
  | some v=>exact pT v n n
theorem oM(i j:Nat):Builtin.Slice.slicePlaces (i:Int) (j:Int) 1=j - i:=by
 unfold Builtin.Slice.slicePlaces
 have h1:(1:Int) > 0:=by omega
 simp only [h1,if_true,Int.ediv_one]
 split<;>omega
theorem jg{v:Value}{o:Option Int}{Q:Option Int→Shared→Prop}(p:IsPart v o)(h:Q o s):wpAny (model prog w) A (Builtin.Slice.slicePartIndex v) Q E s:=by
 cases p with
 | none=>exact slicePart_none h
 | int i t=>exact slicePart_int h
theorem hG{sl:Addr}{vl vu:Value}{lo hi:Option Int}{n:Nat}{Q:Int×Int×Nat→Shared→Prop}(hs:s.heap.IsSliceOf sl vl vu .none)(pl:IsPart vl lo)(pu:IsPart vu hi)
  (h:Q (((sIx n 0 lo:Nat):Int),1,sIx n n hi - sIx n 0 lo) s):wpAny (model prog w) A (Builtin.Slice.sliceApplied (.ref sl) (pure (n:Int))) Q E s:=by
 obtain⟨os,hos,hcs,hds⟩:=id hs
 unfold Builtin.Slice.sliceApplied Builtin.Slice.sliceFields
 refine wpAny_bind (wpAny_bind (wpAny_field hos hds (x:=vl) rfl (wpAny_bind (wpAny_field hos hds (x:=vu) rfl (wpAny_bind (wpAny_field hos hds (x:=.none) rfl (wpAny_pure ?_)))))))
 refine wpAny_bind (slicePart_none ?_)
 show wpAny _ _ (if ((1:Int) == 0)=true then _ else _) _ _ s
 rw [if_neg (by decide)]
 refine wpAny_bind (jg pl (wpAny_bind (jg pu (wpAny_bind (wpAny_pure ?_)))))
 show wpAny _ _ (match Builtin.Slice.sliceAdjust lo hi 1 (n:Int)with | (lo,hi)=>pure (lo,(1:Int),Builtin.Slice.slicePlaces lo hi 1)) _ _ s
 rw [nO lo hi n]
 show wpAny _ _ (pure (((sIx n 0 lo:Nat):Int),(1:Int),Builtin.Slice.slicePlaces ((sIx n 0 lo:Nat):Int) ((sIx n n hi:Nat):Int) 1)) _ _ s
 rw [oM]
 exact wpAny_pure h
theorem uc(xs:Array Value)(i k:Nat):((List.range k).filterMap fun(m:Nat)=>xs[((i:Int)+(m:Int) * 1).toNat]?).toArray=((xs.toList.drop i).take k).toArray:=by
 have e:(fun(m:Nat)=>xs[((i:Int)+(m:Int) * 1).toNat]?)=fun m=>xs[i+m]?:=by
  funext m
  have:((i:Int)+(m:Int) * 1).toNat=i+m:=by omega
  rw [this]
 rw [e]
 have:=pick_run xs i k
 rw [List.filterMap_map]at this
 have e2:((fun x=>xs[x]?)∘fun x=>i+x)=fun m=>xs[i+m]?:=rfl
 rw [e2]at this
 rw [this]
theorem getItem_tuple_cut{t sl:Addr}{items:Array Value}{vl vu:Value}{lo hi:Option Int}{Q:Value→Shared→Prop}(ht:IsTup s.heap t items)(hs:s.heap.IsSliceOf sl vl vu .none)(pl:IsPart vl lo)(pu:IsPart vu hi)
  (hw:¬(sIx items.size 0 lo=0∧sIx items.size items.size hi=items.size))
  (h:Q (.ref s.heap.objs.size) { s with heap:=s.heap.push { cls:=.type "tuple",data:=.seq ((items.toList.drop (sIx items.size 0 lo)).take (sIx items.size items.size hi - sIx items.size 0 lo)).toArray } })
  (hsz:items.size≤sizeLine):wpAny (model prog w) A (getItem (.ref t) (.ref sl)) Q E s:=by
 have htake:sizeOk (.seq ((items.toList.drop (sIx items.size 0 lo)).take (sIx items.size items.size hi - sIx items.size 0 lo)).toArray):=by
  show((items.toList.drop (sIx items.size 0 lo)).take (sIx items.size items.size hi - sIx items.size 0 lo)).toArray.size≤sizeLine
  rw [List.size_toArray,List.length_take,List.length_drop,Array.length_toList]
  omega
 have hj:sIx items.size items.size hi≤items.size:=xY _ _ (Nat.le_refl _) hi
 obtain⟨os,hos,hcs,hds⟩:=id hs
 have hTs:s.TypeIs (.ref sl) "slice":=⟨os,hos,hcs⟩
 unfold getItem
 try with_reducible refine wpAny_holding ?_
 first | refine wpAny_bind (wpAny_pure ?_) | skip
 refine wpAny_bind (wpAny_sequenceKey ht.typeIs (by decide) ?_)
 refine wpAny_bind (wpAny_callSpecial?_slot (name:=Str.ofString "__getitem__") ht.typeIs PyProof.Rows.slot_tuple_getitem
  (wpAny_call_entry PyProof.Rows.slot_tuple_getitem ht.typeIs entry_tuple_getitem ?_ (args_tuple_getitem _ _)))
 show wpAny _ _ (Builtin.Tuple.tupleItemsOf (.ref t) >>= _) _ _ s
 refine wpAny_bind (tupleItemsOf_ ht ?_)
 refine wpAny_bind (wpAny_typeOf hTs ?_)
 rw [if_pos (by decide)]
 refine wpAny_bind (hG hs pl pu ?_)
 have hno:¬((((sIx items.size 0 lo:Nat):Int) == 0 && (1:Int) == 1 && (sIx items.size items.size hi - sIx items.size 0 lo) == items.size)=true):=by
  intro q
  rw [Bool.and_eq_true,Bool.and_eq_true]at q
  have q1:((sIx items.size 0 lo:Nat):Int)=0:=eq_of_beq q.1.1
  have q2:sIx items.size items.size hi - sIx items.size 0 lo=items.size:=eq_of_beq q.2
  exact hw ⟨by omega,by omega⟩
 show wpAny _ _ (if (((sIx items.size 0 lo:Nat):Int) == 0 && (1:Int) == 1 && (sIx items.size items.size hi - sIx items.size 0 lo) == items.size)=true then _ else _) _ _ s
 rw [if_neg hno,uc]
 first
  | exact wpAny_bind (m:=Builtin.Tuple.tupleExact _) (wpAny_newObj_type (wpAny_pure ⟨_,rfl,wpAny_pure h⟩) htake)
  | exact wpAny_bind (m:=Builtin.Tuple.tupleExact _) (wpAny_newObj_type (wpAny_bind (wpAny_pure (wpAny_pure ⟨_,rfl,wpAny_pure h⟩))) htake)
  | exact wpAny_bind (wpAny_bind (m:=Builtin.Tuple.tupleExact _) (wpAny_newObj_type (wpAny_pure (wpAny_pure ⟨_,rfl,wpAny_pure h⟩)) htake))
  | exact wpAny_bind (wpAny_bind (m:=Builtin.Tuple.tupleExact _) (wpAny_newObj_type (wpAny_pure ⟨_,rfl,wpAny_pure h⟩) htake))
end
end HT
namespace L2
open PySem PySem.Spec PyProof.Rows
abbrev TO:=St→Hp→(Option Int→Hp→Prop)→Prop
def PO(X:Cx)(e:Option Expr)(t:TO):Prop:=
 ∀(pins:List (Addr×Obj)) (s:Shared) (σ:St) (H:Hp) (Q:Option Int→Hp→Prop),az X pins σ H s→t σ H Q→
  wpAny (model X.prog X.w) X.A (evalPart e X.env) (fun u s'=>∃o H',az X pins σ H' s'∧IsPart u o∧Q o H') X.xe s
def lZ:TO:=fun _ H Q=>Q none H
def qq(t:TE):TO:=fun σ H Q=>t σ H fun x H1=>∃i,x=.int i∧Q (some i) H1
section
variable {X:Cx} {e:Expr} {te:TE} {lo hi:Option Expr} {tl th:TO} {pos p2:Pos}
theorem cu:PO X none lZ:=by
 intro pins s σ H Q I h
 rw [evalPart_none]
 exact wpAny_pure ⟨none,H,I,.none,h⟩
theorem vR(h:PE X e te):PO X (some e) (qq te):=by
 intro pins s σ H Q I hw
 rw [evalPart_some]
 refine bz (h pins s σ H _ I hw) fun u s1 ⟨x,H1,I1,r1,q1⟩=>?_
 obtain⟨i,rfl,q⟩:=q1
 obtain⟨t,rfl⟩:=r1
 exact⟨some i,H1,I1,.int i t,q⟩
def uU(X:Cx)(r:V→Option Int→Option Int→Hp→VK→Prop):Prop:=
 ∀(pins:List (Addr×Obj)) (s:Shared) (σ:St) (H:Hp) (x:V) (v vl vu:Value) (lo hi:Option Int) (sl:Addr) (Q:VK),az X pins σ H s→aG x v→s.heap.IsSliceOf sl vl vu .none→IsPart vl lo→IsPart vu hi→r x lo hi H Q→
  ∃T id,typeLookup (.type T) "__getitem__"=pure (some (.builtin id))∧s.TypeIs v T∧wpAny (model X.prog X.w) X.A (getItem v (.ref sl)) (EP X pins σ Q) X.xe s
theorem uU.or{r r':V→Option Int→Option Int→Hp→VK→Prop}(h:uU X r)(h':uU X r'):uU X (fun x lo hi H Q=>r x lo hi H Q∨r' x lo hi H Q):=by
 intro pins s σ H x v vl vu lo hi sl Q I rx hs pl pu q
 rcases q with q | q
 ·exact h pins s σ H x v vl vu lo hi sl Q I rx hs pl pu q
 ·exact h' pins s σ H x v vl vu lo hi sl Q I rx hs pl pu q
def z6(r:V→Option Int→Option Int→Hp→VK→Prop)(te:TE)(tl th:TO):TE:=fun σ H Q=>te σ H fun x H1=>tl σ H1 fun l H2=>th σ H2 fun u H3=>r x l u H3 Q
theorem bB{r:V→Option Int→Option Int→Hp→VK→Prop}(hr:uU X r)(he:PE X e te)(hl:PO X lo tl)(hu:PO X hi th):PE X (.Subscript e (.Slice lo hi none p2) pos) (z6 r te tl th):=by
 intro pins s σ H Q I h
 refine Subscript_ (bz (he pins s σ H _ I h) fun v s1 ⟨x,H1,I1,r1,q1⟩=>?_)
 refine wpAny_Slice (bz (hl pins s1 σ H1 _ I1 q1) fun vl s2 ⟨l,H2,I2,pl,q2⟩=>bz (hu pins s2 σ H2 _ I2 q2) fun vu s3 ⟨u,H3,I3,pu,q3⟩=>?_)
 rw [evalPart_none]
 refine wpAny_pure ?_
 have I4:az X pins σ H3 { s3 with heap:=s3.heap.push { cls:=.type "slice",data:=.fields #[vl,vu,.none] } }:=I3.kept (t':=s3.toks) fun b ob q=>Heap.get?_push_of_some _ q
 obtain⟨T,id,hT,ht,hg⟩:=hr pins { s3 with heap:=s3.heap.push { cls:=.type "slice",data:=.fields #[vl,vu,.none] } } σ H3 x v vl vu l u s3.heap.objs.size Q I4 r1 (Heap.IsSliceOf.new ..) pl pu q3
 show wpAny (model X.prog X.w) X.A (subscriptTail e (.Slice lo hi none p2) v (.ref s3.heap.objs.size)) (EP X pins σ Q) X.xe { s3 with heap:=s3.heap.push { cls:=.type "slice",data:=.fields #[vl,vu,.none] } }
 exact tail_any (ops:=[.ref s3.heap.objs.size,v]) ht hT hg (by with_unfolding_all rfl)
def gG(xs:List V)(lo hi:Option Int):List V:=(xs.drop (HT.sIx xs.length 0 lo)).take (HT.sIx xs.length xs.length hi - HT.sIx xs.length 0 lo)
theorem ib(xs:List V)(lo hi:Option Int):(gG xs lo hi).length≤xs.length:=by
 unfold gG
 rw [List.length_take,List.length_drop]
 omega
def xV(K:PySem.W.Frag):V→Option Int→Option Int→Hp→VK→Prop:=fun x lo hi H Q=>∃a xs,x=.ref a∧cA K H a xs∧
 ¬(HT.sIx xs.length 0 lo=0∧HT.sIx xs.length xs.length hi=xs.length)∧∀p,H p=none→Q (.ref p) (upd H p (.tup (gG xs lo hi)))
theorem sl_tup:uU X (xV X.K):=by
 intro pins s σ H x v vl vu lo hi sl Q I rx hs pl pu h
 obtain⟨a,xs,rfl,hx,hw,q⟩:=h
 cases rx
 obtain⟨its,r,ht,hz⟩:=I.tuple hx
 have hlen:its.toArray.size=xs.length:=by rw [List.size_toArray];exact r.length.symm
 refine⟨"tuple",_,PyProof.Rows.slot_tuple_getitem.lookup,ht.typeIs,?_⟩
 refine HT.getItem_tuple_cut ht hs pl pu (by rw [hlen];exact hw) ?_ (by rw [hlen];exact hz)
 rw [hlen]
 refine⟨.ref s.heap.objs.size,_,I.laid (t':=s.toks) (o:=.tup (gG xs lo hi)) (fun b ob q=>Heap.get?_push_of_some _ q) (Nat.le_refl _) ?_,rfl,q _ (I.hok.fresh (Nat.le_refl _))⟩
 exact⟨Nat.le_trans (ib xs lo hi) hz,_,(r.drop (HT.sIx xs.length 0 lo)).take (HT.sIx xs.length xs.length hi - HT.sIx xs.length 0 lo),IsTup.new _ _⟩
def qa(K:PySem.W.Frag):R2:=fun x y H Q=>∃a b xs ys,x=.ref a∧y=.ref b∧cA K H a xs∧cA K H b ys∧xs≠[]∧xs.length+ys.length≤sizeLine∧
 (ys=[]→Q (.ref a) H)∧(ys≠[]→∀p,H p=none→Q (.ref p) (upd H p (.tup (xs++ys))))
theorem aC.nil_iff{xs:List V}{us:List Value}(r:aC xs us):us=[]↔xs=[]:=by
 cases r with
 | nil=>simp
 | cons _ _=>simp
theorem vK:cc X (binaryOp .Add) (qa X.K):=by
 intro pins s σ H x y v u Q I rx ry h
 obtain⟨a,b,xs,ys,rfl,rfl,ha,hb,hx,hz,q1,q2⟩:=h
 cases rx
 cases ry
 obtain⟨its,r1,p1,_⟩:=I.tuple ha
 obtain⟨its2,r2,p2,_⟩:=I.tuple hb
 refine HT.cat_tup p1 p2 (fun z=>hx (r1.nil_iff.mp z)) (fun z=>⟨.ref a,H,I,rfl,q1 (r2.nil_iff.mp z)⟩) (fun z=>?_) (by rw [←r1.length,←r2.length];exact hz)
 refine⟨.ref s.heap.objs.size,_,I.laid (t':=s.toks) (o:=.tup (xs++ys)) (fun b ob q=>Heap.get?_push_of_some _ q) (Nat.le_refl _) ?_,rfl,q2 (fun w=>z (r2.nil_iff.mpr w)) _ (I.hok.fresh (Nat.le_refl _))⟩
 exact⟨by rw [List.length_append];exact hz,_,r1.append r2,IsTup.new _ _⟩
end
end L2
namespace L2
open PySem PySem.Spec PyProof.Rows
def wJ(n:Nat)(i:Int):Option Nat:=if 0≤i then(if i < n then some i.toNat else none)else if -(n:Int)≤i then some (i+n).toNat else none
def et{α:Type}(xs:List α)(i:Int):Option α:=(wJ xs.length i).bind fun j=>xs[j]?
theorem vo{n:Nat}{i:Int}{j:Nat}(h:wJ n i=some j):seqIndex? i n=some j∧j < n∧-(n:Int)≤i∧i < n:=by
 unfold wJ at h
 by_cases h0:0≤i
 ·rw [if_pos h0]at h
  by_cases h1:i < n
  ·rw [if_pos h1]at h
   have e:i.toNat=j:=Option.some.inj h
   exact⟨by rw [seqIndex_of h0 h1,e],by omega,by omega,h1⟩
  ·rw [if_neg h1]at h;cases h
 ·rw [if_neg h0]at h
  by_cases h1:-(n:Int)≤i
  ·rw [if_pos h1]at h
   have e:(i+n).toNat=j:=Option.some.inj h
   exact⟨by rw [seqIndex_neg (by omega) h1,e],by omega,h1,by omega⟩
  ·rw [if_neg h1]at h;cases h
theorem kH{α:Type}{xs:List α}{i:Int}{v:α}(h:et xs i=some v):∃j,seqIndex? i xs.length=some j∧xs[j]?=some v∧j < xs.length∧-(xs.length:Int)≤i∧i < xs.length:=by
 unfold et at h
 cases e:wJ xs.length i with
 | none=>rw [e]at h;cases h
 | some j=>
  rw [e]at h
  obtain⟨h1,h2,h3,h4⟩:=vo e
  exact⟨j,h1,h,h2,h3,h4⟩
theorem aU{α:Type}{xs:List α}{j:Nat}{v:α}(h:xs[j]?=some v):et xs (j:Int)=some v:=by
 have hj:j < xs.length:=(List.getElem?_eq_some_iff.mp h).1
 have e:wJ xs.length (j:Int)=some j:=by
  unfold wJ
  rw [if_pos (by omega),if_pos (by omega)];simp
 unfold et;rw [e];exact h
def pP(b:Expr):Prop:=∀o i,subscripted b false o i=operate [o,i] (getItem o i)
def sr(X:Cx)(r:R2):Prop:=
 ∀(value slice:Expr) (pins:List (Addr×Obj)) (s:Shared) (σ:St) (H:Hp) (x y:V) (v u:Value) (Q:VK),az X pins σ H s→aG x v→aG y u→r x y H Q→
  subscripted slice false v u=operate [v,u] (getItem v u)→wpAny (model X.prog X.w) X.A (subscriptTail value slice v u) (EP X pins σ Q) X.xe s
def qv(X:Cx)(id:String)(r:V→List V→Hp→VK→Prop):Prop:=
 ∀(pins:List (Addr×Obj)) (s:Shared) (σ:St) (H:Hp) (x:V) (xs:List V) (v:Value) (us:List Value) (Q:VK),az X pins σ H s→aG x v→aC xs us→r x xs H Q→
  wpAny (model X.prog X.w) X.A (call (.builtin id) (v::us)) (EP X pins σ Q) X.xe s
section
variable {X:Cx} {a b:Expr} {ta tb:TE} {pos:Pos}
theorem sr.or{r r':R2}(h:sr X r)(h':sr X r'):sr X (fun x y H Q=>r x y H Q∨r' x y H Q):=by
 intro value slice pins s σ H x y v u Q I rx ry q hs
 rcases q with q | q
 ·exact h value slice pins s σ H x y v u Q I rx ry q hs
 ·exact h' value slice pins s σ H x y v u Q I rx ry q hs
theorem qv.or{id:String}{r r':V→List V→Hp→VK→Prop}(h:qv X id r)(h':qv X id r'):qv X id (fun x xs H Q=>r x xs H Q∨r' x xs H Q):=by
 intro pins s σ H x xs v us Q I rx rs q
 rcases q with q | q
 ·exact h pins s σ H x xs v us Q I rx rs q
 ·exact h' pins s σ H x xs v us Q I rx rs q
theorem aX{r:R2}(hr:sr X r)(ha:PE X a ta)(hb:PE X b tb)(hs:pP b):PE X (.Subscript a b pos) (yc r ta tb):=by
 intro pins s σ H Q I h
 exact Subscript_ (u7 ha hb I h fun v u s2 x y H2 I2 rx ry q=>hr a b pins s2 σ H2 x y v u Q I2 rx ry q (hs _ _))
def xP(K:PySem.W.Frag):R2:=fun x y H Q=>∃p xs i v,x=.ref p∧y=.int i∧aO K H p xs∧et xs i=some v∧Q v H
def xR(K:PySem.W.Frag):R2:=fun x y H Q=>∃p xs i v,x=.ref p∧y=.int i∧cA K H p xs∧et xs i=some v∧Q v H
def xQ:R2:=fun x y H Q=>∃z i c,x=.str z∧y=.int i∧z.length≤sizeLine∧et z.cps.toList i=some c∧Q (.str ⟨#[c]⟩) H
theorem ix_list:sr X (xP X.K):=by
 intro value slice pins s σ H x y v u Q I rx ry h hs
 obtain⟨p,xs,i,z,rfl,rfl,hq,he,q⟩:=h
 cases rx
 obtain⟨t,rfl⟩:=ry
 obtain⟨its,r,pl,hz⟩:=I.list hq
 obtain⟨j,h1,h2,h3,h4,h5⟩:=kH he
 obtain⟨w,ew,rw'⟩:=r.get h2
 have hl:=r.length
 have hn:=gO
 have fin:EP X pins σ Q w s:=⟨z,H,I,rw',q⟩
 by_cases h0:0≤i
 ·have hj:i.toNat=j:=by
   rw [seqIndex_of h0 h5]at h1
   exact Option.some.inj h1
  exact item_listR pl.isList h0 (by omega) (by rw [hj];simpa using ew) fin hs
 ·have hj:(i+(its.toArray.size:Int)).toNat=j:=by
   rw [seqIndex_neg (by omega) h4]at h1
   rw [List.size_toArray,←hl]
   exact Option.some.inj h1
  exact subscriptTail_builtinR (x:=w) pl.isList.typeIs slot_list_getitem.lookup
   (wpAny_getItem_list_neg (Q:=fun r s'=>r=w∧EP X pins σ Q r s') pl.isList (by omega) (by rw [List.size_toArray]<;>omega) (by omega) (by rw [hj];simpa using ew) ⟨rfl,fin⟩) hs
theorem ix_tup:sr X (xR X.K):=by
 intro value slice pins s σ H x y v u Q I rx ry h hs
 obtain⟨p,xs,i,z,rfl,rfl,hq,he,q⟩:=h
 cases rx
 obtain⟨t,rfl⟩:=ry
 obtain⟨its,r,pl,hz⟩:=I.tuple hq
 obtain⟨j,h1,h2,h3,h4,h5⟩:=kH he
 obtain⟨w,ew,rw'⟩:=r.get h2
 have hl:=r.length
 have hn:=gO
 have fin:EP X pins σ Q w s:=⟨z,H,I,rw',q⟩
 exact subscriptTail_builtinR (x:=w) pl.typeIs slot_tuple_getitem.lookup
  (getItem_tuple (j:=j) (Q:=fun r s'=>r=w∧EP X pins σ Q r s') pl (by omega) (by omega) (by rw [List.size_toArray,←hl];exact h1) (by simpa using ew) ⟨rfl,fin⟩) hs
theorem xk:sr X xQ:=by
 intro value slice pins s σ H x y v u Q I rx ry h hs
 obtain⟨z,i,c,rfl,rfl,hz,he,q⟩:=h
 obtain⟨t,rfl⟩:=rx
 obtain⟨t',rfl⟩:=ry
 obtain⟨j,h1,h2,h3,h4,h5⟩:=kH he
 have hl:z.cps.toList.length=z.length:=by simp [Str.length]
 rw [hl]at h1 h4 h5
 have hn:=gO
 exact tail_any (typeIs_str s z t) slot_str_getitem.lookup (getItem_str (c:=c) (by
  have e1:decide (i < -(2 ^ 63:Int))=false:=decide_eq_false (by omega)
  have e2:decide (i≥2 ^ 63)=false:=decide_eq_false (by omega)
  rw [e1,e2,Bool.or_false]) (by rw [h1];simpa using h2) ⟨.str ⟨#[c]⟩,H,I.tok _,⟨_,rfl⟩,q⟩) hs
def v7(K:PySem.W.Frag):R2:=fun x y H Q=>xP K x y H Q∨xR K x y H Q∨xQ x y H Q
theorem xj:sr X (v7 X.K):=ix_list.or (ix_tup.or xk)
def y8:V→V→V→Hp→(Hp→Prop)→Prop:=fun o i v H Q=>∃p xs k j,o=.ref p∧i=.int k∧H p=some (.lst xs)∧wJ xs.length k=some j∧Q (upd H p (.lst (xs.set j v)))
theorem lR(lo hi:Option Int)(n:Nat):(sliceBounds lo hi none n).1=((HT.sIx n 0 lo:Nat):Int)∧(sliceBounds lo hi none n).2.1=((HT.sIx n n hi:Nat):Int)∧(sliceBounds lo hi none n).2.2=1:=by
 refine⟨?_,?_,rfl⟩
 ·cases lo with
  | none=>simp [sliceBounds,HT.sIx]
  | some i=>
   simp only [sliceBounds,HT.sIx,Option.getD_none,show(1:Int) > 0 by decide,if_true]
   by_cases h:i < 0
   ·simp only [h,if_true]<;>omega
   ·simp only [h,if_false]<;>omega
 ·cases hi with
  | none=>simp [sliceBounds,HT.sIx]
  | some i=>
   simp only [sliceBounds,HT.sIx,Option.getD_none,show(1:Int) > 0 by decide,if_true]
   by_cases h:i < 0
   ·simp only [h,if_true]<;>omega
   ·simp only [h,if_false]<;>omega
theorem jP(its:List Value)(lo hi:Option Int):slicePick its.toArray lo hi none=((its.drop (HT.sIx its.length 0 lo)).take (HT.sIx its.length its.length hi - HT.sIx its.length 0 lo)).toArray:=by
 obtain⟨h1,h2,h3⟩:=lR lo hi its.toArray.size
 unfold slicePick
 rw [h1,h2,h3]
 simp only [sliceRange_one,pick_run,List.size_toArray]<;>rfl
def xT(K:PySem.W.Frag):V→Option Int→Option Int→Hp→VK→Prop:=fun x lo hi H Q=>∃a xs,x=.ref a∧aO K H a xs∧∀p,H p=none→Q (.ref p) (upd H p (.lst (gG xs lo hi)))
theorem sl_list:uU X (xT X.K):=by
 intro pins s σ H x v vl vu lo hi sl Q I rx hs pl pu h
 obtain⟨a,xs,rfl,hx,q⟩:=h
 cases rx
 obtain⟨its,r,ht,hz⟩:=I.list hx
 have hlen:=r.length
 refine⟨"list",_,slot_list_getitem.lookup,ht.isList.typeIs,?_⟩
 refine wpAny_getItem_list_slice ht.isList hs pl pu .none (by simp) ?_ (by rw [List.size_toArray]<;>omega)
 rw [jP,←hlen]
 refine⟨.ref s.heap.objs.size,_,I.laid (t':=s.toks) (o:=.lst (gG xs lo hi)) (fun b ob q=>Heap.get?_push_of_some _ q) (Nat.le_refl _) ?_,rfl,q _ (I.hok.fresh (Nat.le_refl _))⟩
 exact⟨Nat.le_trans (ib xs lo hi) hz,_,0,(r.drop (HT.sIx xs.length 0 lo)).take (HT.sIx xs.length xs.length hi - HT.sIx xs.length 0 lo),Heap.get?_push_size _ rfl⟩
def c5:V→Bool
 | .non=>true
 | .bl _=>true
 | .int _=>true
 | .str _=>true
 | _=>false
def n9:V→V→Bool
 | .non,.non=>true
 | .bl a,.bl b=>a == b
 | .bl a,.int b=>(if a then 1 else 0) == b
 | .int a,.bl b=>a == (if b then 1 else 0)
 | .int a,.int b=>a == b
 | .str a,.str b=>a == b
 | _,_=>false
theorem sU{A:Around}{s:Shared}{y x:V}{u v:Value}(ry:aG y u)(rx:aG x v)(fy:c5 y=true)(fx:c5 x=true):SeqAt.EqAt A s u v (n9 y x):=by
 cases y with
 | non=>
  cases ry
  cases x with
  | non=>cases rx;exact SeqAt.EqAt.same _
  | bl b=>cases rx;exact SeqAt.EqAt.none_bool b
  | int b=>obtain⟨t,rfl⟩:=rx;exact SeqAt.EqAt.none_int b t
  | str b=>obtain⟨t,rfl⟩:=rx;exact SeqAt.EqAt.none_str b t
  | _=>exact absurd (show false=true from fx) Bool.false_ne_true
 | bl a=>
  cases ry
  cases x with
  | non=>cases rx;exact SeqAt.EqAt.bool_none a
  | bl b=>cases rx;exact SeqAt.EqAt.bool_bool a b
  | int b=>obtain⟨t,rfl⟩:=rx;exact SeqAt.EqAt.bool_int a b t
  | str b=>obtain⟨t,rfl⟩:=rx;exact SeqAt.EqAt.bool_str a b t
  | _=>exact absurd (show false=true from fx) Bool.false_ne_true
 | int a=>
  obtain⟨t',rfl⟩:=ry
  cases x with
  | non=>cases rx;exact SeqAt.EqAt.int_none a t'
  | bl b=>cases rx;exact SeqAt.EqAt.int_bool a t' b
  | int b=>obtain⟨t,rfl⟩:=rx;exact SeqAt.EqAt.int_int a t' b t
  | str b=>obtain⟨t,rfl⟩:=rx;exact SeqAt.EqAt.int_str a t' b t
  | _=>exact absurd (show false=true from fx) Bool.false_ne_true
 | str a=>
  obtain⟨t',rfl⟩:=ry
  cases x with
  | non=>cases rx;exact SeqAt.EqAt.str_none a t'
  | bl b=>cases rx;exact SeqAt.EqAt.str_bool a t' b
  | int b=>obtain⟨t,rfl⟩:=rx;exact SeqAt.EqAt.str_int a t' b t
  | str b=>obtain⟨t,rfl⟩:=rx;exact SeqAt.EqAt.str_str a t' b t
  | _=>exact absurd (show false=true from fx) Bool.false_ne_true
 | _=>exact absurd (show false=true from fy) Bool.false_ne_true
def n8(x:V)(u:Value):Bool:=match u with
 | .none=>n9 .non x
 | .bool b=>n9 (.bl b) x
 | .int i _=>n9 (.int i) x
 | .str z _=>n9 (.str z) x
 | _=>false
theorem sV{x y:V}{u:Value}(r:aG y u)(f:c5 y=true):n8 x u=n9 y x:=by
 cases y with
 | non=>cases r;rfl
 | bl b=>cases r;rfl
 | int i=>obtain⟨t,rfl⟩:=r;rfl
 | str z=>obtain⟨t,rfl⟩:=r;rfl
 | _=>exact absurd (show false=true from f) Bool.false_ne_true
theorem fT{x:V}:∀{xs:List V} {us:List Value},aC xs us→xs.all c5=true→us.any (n8 x)=xs.any fun y=>n9 y x
 | _,_,.nil,_=>rfl
 | y::xs,u::us,.cons r t,f=>by
  rw [List.all_cons,Bool.and_eq_true]at f
  rw [List.any_cons,List.any_cons,sV r f.1,fT t f.2]
theorem eH{A:Around}{s:Shared}{x:V}{v:Value}(rx:aG x v)(fx:c5 x=true):∀{xs:List V} {us:List Value},aC xs us→xs.all c5=true→∀u∈us,SeqAt.EqAt A s u v (n8 x u)
 | _,_,.nil,_=>fun u hu=>by cases hu
 | y::xs,u::us,.cons r t,f=>fun u' hu=>by
  rw [List.all_cons,Bool.and_eq_true]at f
  rcases List.mem_cons.mp hu with rfl | hu
  ·rw [sV r f.1];exact sU r rx f.1 fx
  ·exact eH rx fx t f.2 u' hu
def yE(x:V)(xs:List V):Bool:=xs.any fun y=>n9 y x
def yo(K:PySem.W.Frag)(neg:Bool):R2:=fun x y H Q=>∃p xs,y=.ref p∧(aO K H p xs∨cA K H p xs)∧c5 x=true∧xs.all c5=true∧Q (.bl (if neg then !yE x xs else yE x xs)) H
theorem rJ:cc X (compareOp .In) (yo X.K false):=by
 intro pins s σ H x y v u Q I rx ry h
 obtain⟨p,xs,rfl,hq,fx,fs,q⟩:=h
 cases ry
 rcases hq with hq | hq
 ·obtain⟨its,r,pl,hz⟩:=I.list hq
  refine SeqAt.in_listAt (n8 x) pl.isList (fun w hw=>eH rx fx r fs w (by simpa using hw)) ⟨.bl _,H,I,rfl,?_⟩
  rw [show its.toArray.any (n8 x)=its.any (n8 x)by simp,fT r fs]
  exact q
 ·obtain⟨its,r,pl,hz⟩:=I.tuple hq
  refine SeqAt.in_tupleAt (n8 x) pl (fun w hw=>eH rx fx r fs w (by simpa using hw)) ⟨.bl _,H,I,rfl,?_⟩
  rw [show its.toArray.any (n8 x)=its.any (n8 x)by simp,fT r fs]
  exact q
theorem ly:cc X (compareOp .NotIn) (yo X.K true):=by
 intro pins s σ H x y v u Q I rx ry h
 obtain⟨p,xs,rfl,hq,fx,fs,q⟩:=h
 cases ry
 rcases hq with hq | hq
 ·obtain⟨its,r,pl,hz⟩:=I.list hq
  refine SeqAt.notIn_listAt (n8 x) pl.isList (fun w hw=>eH rx fx r fs w (by simpa using hw)) ⟨.bl _,H,I,rfl,?_⟩
  rw [show its.toArray.any (n8 x)=its.any (n8 x)by simp,fT r fs]
  exact q
 ·obtain⟨its,r,pl,hz⟩:=I.tuple hq
  refine SeqAt.notIn_tupleAt (n8 x) pl (fun w hw=>eH rx fx r fs w (by simpa using hw)) ⟨.bl _,H,I,rfl,?_⟩
  rw [show its.toArray.any (n8 x)=its.any (n8 x)by simp,fT r fs]
  exact q
theorem kJ:bu X (.builtin "len") (fun xs H Q=>∃p ys,xs=[.ref p]∧(aO X.K H p ys∨cA X.K H p ys)∧Q (.int ys.length) H):=by
 intro pins s σ H xs us Q I r h
 obtain⟨p,ys,rfl,hq,q⟩:=h
 obtain⟨u,rfl,rx⟩:=du r
 cases rx
 have hn:=gO
 rcases hq with hq | hq
 ·obtain⟨its,r',pl,hz⟩:=I.list hq
  have hlen:=r'.length
  exact Calls.call_len_list pl.isList (by simp only [List.size_toArray]<;>omega) ⟨.int ys.length,H,I.tok _,⟨s.toks+1,by rw [List.size_toArray,hlen]⟩,q⟩
 ·obtain⟨its,r',pl,hz⟩:=I.tuple hq
  have hlen:=r'.length
  exact len_tuple pl (by simp only [List.size_toArray]<;>omega) ⟨.int ys.length,H,I.tok _,⟨s.toks+1,by rw [List.size_toArray,hlen]⟩,q⟩
theorem call_len_str:bu X (.builtin "len") (fun xs H Q=>∃z,xs=[.str z]∧z.length≤sizeLine∧Q (.int z.length) H):=by
 intro pins s σ H xs us Q I r h
 obtain⟨z,rfl,hz,q⟩:=h
 obtain⟨u,rfl,t,rfl⟩:=du r
 have hn:=gO
 exact len_str (by omega) ⟨.int z.length,H,I.tok _,⟨_,rfl⟩,q⟩
theorem bu.or{f:Value}{r r':List V→Hp→VK→Prop}(h:bu X f r)(h':bu X f r'):bu X f (fun xs H Q=>r xs H Q∨r' xs H Q):=by
 intro pins s σ H xs us Q I rs q
 rcases q with q | q
 ·exact h pins s σ H xs us Q I rs q
 ·exact h' pins s σ H xs us Q I rs q
theorem kK:bu X (.type "list") (fun xs H Q=>∃p ys,xs=[.ref p]∧(aO X.K H p ys∨cA X.K H p ys)∧∀l,H l=none→Q (.ref l) (upd H l (.lst ys))):=by
 intro pins s σ H xs us Q I r h
 obtain⟨p,ys,rfl,hq,q⟩:=h
 obtain⟨u,rfl,rx⟩:=du r
 cases rx
 have fin:∀(its:List Value),aC ys its→ys.length≤sizeLine→∀(h':Heap) (c':Nat),(∀b o',s.heap.get? b=some o'→h'.get? b=some o')→
   h'.get? s.heap.objs.size=some { cls:=.type "list",dict:=none,data:=.seq its.toArray c',slots:=#[] }→EP X pins σ Q (.ref s.heap.objs.size) { s with heap:=h' }:=fun its r' hz h' c' kp e=>
  ⟨.ref s.heap.objs.size,_,I.laid (t':=s.toks) kp (Nat.le_refl _) (show bD X.prog X.w _ h' _ (.lst ys)from⟨hz,its,c',r',e⟩),rfl,q _ (I.hok.fresh (Nat.le_refl _))⟩
 rcases hq with hq | hq
 ·obtain⟨its,r',pl,hz⟩:=I.list hq
  have hlen:=r'.length
  obtain⟨o,ho,hc,n,hd⟩:=pl.isList
  exact call_list_seq p (.inl rfl) ho hc hd (fun h' c' kp e=>fin its r' hz h' c' kp e) (by simp only [List.size_toArray]<;>omega)
 ·obtain⟨its,r',pl,hz⟩:=I.tuple hq
  have hlen:=r'.length
  obtain⟨o,ho,hc,n,hd⟩:=pl
  exact call_list_seq p (.inr rfl) ho hc hd (fun h' c' kp e=>fin its r' hz h' c' kp e) (by simp only [List.size_toArray]<;>omega)
def zk(K:PySem.W.Frag)(T:String)(x:V)(H:Hp):Prop:=match x with
 | .str _=>T="str"
 | .int _=>T="int"
 | .ref p=>(T="list"∧∃xs,aO K H p xs)∨(T="tuple"∧∃o,K.lookup p=some o∧o.cls=.type "tuple"∧o.dict=none)∨
   (T="dict"∧((∃kvs,H p=some (.dK kvs))∨∃kvs,H p=some (.dT kvs)))∨(T="set"∧∃S n,H p=some (.set S n))
 | _=>False
theorem uR{pins:List (Addr×Obj)}{σ:St}{H:Hp}{s:Shared}{T:String}{x:V}{v:Value}(I:az X pins σ H s)(r:aG x v)(ty:zk X.K T x H):
  s.TypeIs v T∧∀a,v=.ref a→∃ob,s.heap.get? a=some ob∧ob.dict=none:=by
 cases x with
 | str z=>
  obtain⟨t,rfl⟩:=r
  cases(show T="str" from ty)
  exact⟨typeIs_str s z t,fun _ e=>nomatch e⟩
 | int i=>
  obtain⟨t,rfl⟩:=r
  cases(show T="int" from ty)
  exact⟨typeIs_int s i t,fun _ e=>nomatch e⟩
 | ref p=>
  cases r
  rcases ty with⟨rfl,xs,hq⟩ | ⟨rfl,o,hk,hc,hd⟩ | ⟨rfl,hk⟩ | ⟨rfl,S,n,hk⟩
  ·obtain⟨its,_,pl,_⟩:=I.list hq
   refine⟨pl.isList.typeIs,fun a e=>?_⟩
   cases e
   obtain⟨o,n,e,c,hd,_⟩:=pl
   exact⟨o,e,hd⟩
  ·refine⟨⟨o,I.kIn p o hk,hc⟩,fun a e=>?_⟩
   cases e
   exact⟨o,I.kIn _ o hk,hd⟩
  ·have z:∃o,s.heap.get? p=some o∧o.ExactDict:=by
    rcases hk with⟨kvs,hk⟩ | ⟨kvs,hk⟩
    ·obtain⟨_,_,_,_,o,_,_,e,ex,_⟩:=I.hok p _ hk
     exact⟨o,e,ex⟩
    ·obtain⟨_,_,_,_,o,_,_,e,ex,_⟩:=I.hok p _ hk
     exact⟨o,e,ex⟩
   obtain⟨o,e,ex⟩:=z
   refine⟨⟨o,e,ex.1⟩,fun a e2=>?_⟩
   cases e2
   exact⟨o,e,ex.2.1⟩
  ·obtain⟨o,_,_,_,e,ex,_⟩:=I.hok p _ hk
   refine⟨⟨o,e,ex.1⟩,fun a e2=>?_⟩
   cases e2
   exact⟨o,e,ex.2.1⟩
 | _=>exact False.elim ty
def zd(K:PySem.W.Frag)(T:String)(r:V→List V→Hp→VK→Prop)(to:TE):TE:=fun σ H Q=>to σ H fun x H1=>zk K T x H1∧r x [] H1 Q
def zZ(K:PySem.W.Frag)(T:String)(r:V→List V→Hp→VK→Prop)(to:TE)(t:TA):TE:=fun σ H Q=>to σ H fun x H1=>zk K T x H1∧t σ H1 fun xs H2=>r x xs H2 Q
variable {o e:Expr} {es:List Expr} {to:TE} {t:TA} {name:Str} {apos cpos:Pos} {T id:String} {r:V→List V→Hp→VK→Prop}
theorem xH(pa:PlainAttrs T)(slot:Slot T name id)(hty:typeOf (.builtin id)=pure (.type "method_descriptor"))(hm:qv X id r)(ho:PE X o to)
  (hbase:attributeBase o name X.env (eval o X.env)=eval o X.env:=by rfl) (hline:(apos.endLine == cpos.line)=true:=by rfl):PE X (.Call (.Attribute o name apos) [] [] cpos) (zd X.K T r to):=by
 intro pins s σ H Q I h
 refine wpAny_Call_method0_late hbase hline (bz (ho pins s σ H _ I h) fun v s1 ⟨x,H1,I1,r1,ty,q1⟩=>?_)
 obtain⟨h1,h2⟩:=uR I1 r1 ty
 exact⟨T,id,pa,slot,hty,h1,h2,Calls.callWith_builtin rfl (PySem.evalArgs_none (hm pins s1 σ H1 x [] v [] Q I1 r1 .nil q1))⟩
theorem yW(pa:PlainAttrs T)(slot:Slot T name id)(hty:typeOf (.builtin id)=pure (.type "method_descriptor"))(hm:qv X id r)(ho:PE X o to)(ha:PA X (e::es) t)
  (hbase:attributeBase o name X.env (eval o X.env)=eval o X.env:=by rfl)
  (hfew:((backTo cpos (starEach (e::es) X.env)).all (fun x=>!x.1) && (backToKw cpos (keywordEach [] X.env)).all (fun x=>x.1.isSome)
   && decide ((e::es).length+([]:List Keyword).length+(if ([]:List Keyword).isEmpty then 0 else 1) < 30))=true:=by rfl)
  (hline:(apos.endLine == cpos.line)=true:=by rfl) (hs:starEach (e::es) X.env=(false,eval e X.env)::starEach es X.env:=by rfl) (hplain:(backTo cpos (starEach es X.env)).any (·.1)=false:=by rfl) :
  PE X (.Call (.Attribute o name apos) (e::es) [] cpos) (zZ X.K T r to t):=by
 intro pins s σ H Q I h
 refine wpAny_Call_method_late hbase hfew hline rfl (bz (ho pins s σ H _ I h) fun v s1 ⟨x,H1,I1,r1,ty,q1⟩=>?_)
 obtain⟨h1,h2⟩:=uR I1 r1 ty
 refine⟨T,id,pa,slot,hty,h1,h2,?_⟩
 have hA:=ha cpos pins s1 σ H1 _ I1 q1
 rw [hs]at hA ⊢
 refine Calls.callWith_builtin (by show(false || (backTo cpos (starEach es X.env)).any (·.1))=false;rw [hplain]<;>rfl) (Calls.evalArgs_plain ?_)
 exact bz hA fun us s2 ⟨vs,H2,I2,r2,q2⟩=>hm pins s2 σ H2 x vs v us Q I2 r1 r2 q2
/- xs.append(e), list.index on a module's tuple .. are qv facts of 06m -/
end
end L2
namespace L2
open PySem PySem.Spec PyProof.Rows
def zp(X:Cx)(id:String)(r:V→List V→Hp→VK→Prop):Prop:=
 ∀(pins:List (Addr×Obj)) (s:Shared) (σ:St) (H:Hp) (x:V) (xs:List V) (v:Value) (us:List Value) (Q:VK),az X pins σ H s→aG x v→aC xs us→r x xs H Q→
  wpAny (model X.prog X.w) X.A (call (.builtin id) (v::us)) (EP X pins σ Q) X.xe s
theorem aC.one:∀{x:V} {us:List Value},aC [x] us→∃u,us=[u]∧aG x u
 | _,_,.cons r .nil=>⟨_,rfl,r⟩
theorem aC.zero:∀{us:List Value},aC [] us→us=[]
 | _,.nil=>rfl
theorem aC.dropLast{xs:List V}{us:List Value}(h:aC xs us):aC xs.dropLast us.dropLast:=by
 induction h with
 | nil=>exact .nil
 | cons r t ih=>
  cases t with
  | nil=>exact .nil
  | cons q t'=>exact .cons r ih
theorem aC.eraseIdx:∀{xs:List V} {us:List Value} (i:Nat),aC xs us→aC (xs.eraseIdx i) (us.eraseIdx i)
 | _,_,_,.nil=>.nil
 | _,_,0,.cons _ t=>t
 | _,_,i+1,.cons r t=>.cons r (aC.eraseIdx i t)
theorem aC.reverse{xs:List V}{us:List Value}(h:aC xs us):aC xs.reverse us.reverse:=by
 induction h with
 | nil=>exact .nil
 | cons r t ih=>rw [List.reverse_cons,List.reverse_cons];exact aC.append ih (.cons r .nil)
theorem aC.rep{xs:List V}{us:List Value}(h:aC xs us):∀k:Nat,aC (List.replicate k xs).flatten (List.replicate k us).flatten
 | 0=>.nil
 | k+1=>by
  rw [List.replicate_succ,List.replicate_succ,List.flatten_cons,List.flatten_cons]
  exact aC.append h (aC.rep h k)
theorem oa{α:Type}(l:List α):l.eraseIdx (l.length - 1)=l.dropLast:=by
 induction l with
 | nil=>rfl
 | cons a r ih=>
  cases r with
  | nil=>rfl
  | cons b r=>
   have e:(a::b::r).length - 1=((b::r).length - 1)+1:=by
    have h1:(a::b::r).length=r.length+2:=rfl
    have h2:(b::r).length=r.length+1:=rfl
    omega
   rw [e,List.eraseIdx_cons_succ,ih]
   all_goals rfl
theorem gJ(its:List Value):∀(k:Nat) (acc:List Value),
  List.foldl (fun x1 x2=>x1++x2) acc.toArray (List.replicate k its.toArray)=(acc++(List.replicate k its).flatten).toArray
 | 0,acc=>by simp
 | k+1,acc=>by
  have e:acc.toArray++its.toArray=(acc++its).toArray:=by simp
  have e2:(acc++its)++(List.replicate k its).flatten=acc++(List.replicate (k+1) its).flatten:=by
   rw [List.replicate_succ,List.flatten_cons,List.append_assoc]
  rw [←e2,←gJ its k (acc++its),←e,List.replicate_succ,List.foldl_cons]
section
variable {X:Cx} {pins:List (Addr×Obj)} {σ:St} {H:Hp} {s:Shared} {l b:Addr} {xs ys zs:List V}
theorem az.lset{its its':List Value}{n:Nat}{f:Array Value→Array Value}{t':Nat}(I:az X pins σ H s)(hH:H l=some (.lst xs))
  (e:s.heap.get? l=some { cls:=.type "list",data:=.seq its.toArray n }) (hf:f its.toArray=its'.toArray) (hv:aC ys its') (hz:ys.length≤sizeLine) :
  az X pins σ (upd H l (.lst ys)) { s with heap:=s.heap.update l (Obj.mapSeq f),toks:=t' }:=by
 have q:=PySem.IsL.update e f
 rw [hf]at q
 refine I.write (x:=l) (e:=l) (by rw [hH];exact trivial) (.inl rfl) (fun b' u hb hu=>(Heap.get?_update_other s.heap (Obj.mapSeq f) (Ne.symm hb)).trans hu) ⟨_,q⟩ ?_
 exact⟨hz,its',_,hv,q⟩
theorem az.lnew{its:List Value}{t':Nat}(I:az X pins σ H s)(hv:aC ys its)(hz:ys.length≤sizeLine):
  az X pins σ (upd H s.heap.objs.size (.lst ys)) { s with heap:=s.heap.push { cls:=.type "list",data:=.seq its.toArray },toks:=t' }:=
 I.laid (fun _ _ q=>Heap.get?_push_of_some _ q) (Nat.le_refl _) ⟨hz,its,0,hv,Heap.get?_push_size _ rfl⟩
theorem az.fresh(I:az X pins σ H s):H s.heap.objs.size=none:=I.hok.fresh (Nat.le_refl _)
theorem az.lstM(I:az X pins σ H s)(hH:H l=some (.lst xs)):xs.length≤sizeLine∧∃(its:List Value) (n:Nat),aC xs its∧xs.length=its.length∧s.heap.get? l=some { cls:=.type "list",data:=.seq its.toArray n }:=by
 obtain⟨z,its,n,r,e⟩:=I.hok l _ hH
 exact⟨z,its,n,r,r.length,e⟩
theorem mU{n:Nat}(h:n≤sizeLine):Builtin.List.listTooLong n=false:=by
 unfold Builtin.List.listTooLong
 exact decide_eq_false (by omega)
end
section
variable {X:Cx}
def vU:V→List V→Hp→VK→Prop:=fun x vs H Q=>∃l xs y,x=.ref l∧vs=[y]∧H l=some (.lst xs)∧xs.length < sizeLine∧Q .non (upd H l (.lst (xs++[y])))
theorem cL:zp X "list.append" vU:=by
 intro pins s σ H x vs v us Q I rx rv h
 obtain⟨l,xs,y,rfl,rfl,hH,hz,q⟩:=h
 cases rx
 obtain⟨u,rfl,ru⟩:=rv.one
 obtain⟨z,its,n,r,hl,e⟩:=I.lstM hH
 refine call_meets F.slot_list_append ⟨_,e,rfl⟩ F.entry_list_append (F.args_list_append_2 _ _) (PySem.list_append l its.toArray n u (by rw [List.size_toArray];omega)) ⟨e,?_⟩
 refine⟨.non,_,I.lset (its':=its++[u]) hH e (by simp) (r.append (.cons ru .nil)) ?_,rfl,q⟩
 rw [List.length_append,List.length_singleton]
 omega
def vZ:V→List V→Hp→VK→Prop:=fun x vs H Q=>∃l b xs zs,x=.ref l∧vs=[.ref b]∧H l=some (.lst xs)∧H b=some (.lst zs)∧xs.length+zs.length≤sizeLine∧Q .non (upd H l (.lst (xs++zs)))
theorem j8:zp X "list.extend" vZ:=by
 intro pins s σ H x vs v us Q I rx rv h
 obtain⟨l,b,xs,zs,rfl,rfl,hH,hB,hz,q⟩:=h
 cases rx
 obtain⟨u,rfl,ru⟩:=rv.one
 cases ru
 obtain⟨z,its,n,r,hl,e⟩:=I.lstM hH
 obtain⟨z2,its2,n2,r2,hl2,e2⟩:=I.lstM hB
 have hsz:its.toArray.size+its2.toArray.size≤sizeLine:=by rw [List.size_toArray,List.size_toArray];omega
 have hlong:¬(!its.toArray.isEmpty && Builtin.List.listTooLong (its.toArray.size+its2.toArray.size))=true:=by
  rw [mU hsz,Bool.and_false]
  exact Bool.false_ne_true
 refine call_meets F.slot_list_extend ⟨_,e,rfl⟩ F.entry_list_extend (F.args_list_extend_2 _ _)
  (AutoSeq1.list_extend_list_list_0 l its.toArray n b its2.toArray n2 hlong (by rw [List.size_toArray];omega) (by omega)) ⟨e,e2,?_⟩
 refine⟨.non,_,I.lset (its':=its++its2) hH e (by simp) (r.append r2) ?_,rfl,q⟩
 rw [List.length_append]
 omega
def zX:V→List V→Hp→VK→Prop:=fun x vs H Q=>∃l xs y,x=.ref l∧vs=[]∧H l=some (.lst xs)∧xs[xs.length - 1]?=some y∧Q y (upd H l (.lst xs.dropLast))
theorem zT:zp X "list.pop" zX:=by
 intro pins s σ H x vs v us Q I rx rv h
 obtain⟨l,xs,y,rfl,rfl,hH,hy,q⟩:=h
 cases rx
 have hus:=rv.zero
 subst hus
 obtain⟨z,its,n,r,hl,e⟩:=I.lstM hH
 obtain⟨u,hu,ru⟩:=r.get hy
 have hy':its.toArray[its.toArray.size - 1]?=some u:=by
  show its.toArray[its.length - 1]?=some u
  rw [←Array.getElem?_toList,←hl]
  exact hu
 refine call_meets F.slot_list_pop ⟨_,e,rfl⟩ F.entry_list_pop (F.args_list_pop_1 _) (MeetsSeq.list_pop_last l its.toArray n u hy' (by rw [List.size_toArray];omega)) ⟨e,?_⟩
 refine⟨y,_,I.lset (its':=its.dropLast) hH e ?_ r.dropLast ?_,ru,q⟩
 ·show its.toArray.eraseIdxIfInBounds (its.toArray.size - 1)=its.dropLast.toArray
  rw [List.size_toArray,List.eraseIdxIfInBounds_toArray,oa]
 ·rw [List.length_dropLast]
  omega
def xN:V→List V→Hp→VK→Prop:=fun x vs H Q=>∃l xs,x=.ref l∧vs=[]∧H l=some (.lst xs)∧Q .non (upd H l (.lst []))
theorem tN:zp X "list.clear" xN:=by
 intro pins s σ H x vs v us Q I rx rv h
 obtain⟨l,xs,rfl,rfl,hH,q⟩:=h
 cases rx
 have hus:=rv.zero
 subst hus
 obtain⟨z,its,n,r,hl,e⟩:=I.lstM hH
 refine call_meets F.slot_list_clear ⟨_,e,rfl⟩ F.entry_list_clear (F.args_list_clear_1 _) (AutoSeq1.list_clear_list_0 l its.toArray n (by rw [List.size_toArray];omega)) ⟨e,?_⟩
 exact⟨.non,_,I.lset (its':=[]) (ys:=[]) hH e rfl .nil (Nat.zero_le _),rfl,q⟩
def vV:R2:=fun x y H Q=>∃l b xs zs,x=.ref l∧y=.ref b∧H l=some (.lst xs)∧H b=some (.lst zs)∧xs.length+zs.length≤sizeLine∧∀p,H p=none→Q (.ref p) (upd H p (.lst (xs++zs)))
theorem op_cat:cc X (binaryOp .Add) vV:=by
 intro pins s σ H x y v u Q I rx ry h
 obtain⟨l,b,xs,zs,rfl,rfl,hH,hB,hz,q⟩:=h
 cases rx
 cases ry
 obtain⟨z,its,n,r,hl,e⟩:=I.lstM hH
 obtain⟨z2,its2,n2,r2,hl2,e2⟩:=I.lstM hB
 refine PySem.P.add_list e e2 ?_ (by rw [List.size_toArray,List.size_toArray];omega)
 have ea:its.toArray++its2.toArray=(its++its2).toArray:=by simp
 rw [ea]
 exact⟨.ref _,_,I.lnew (t':=s.toks) (r.append r2) (by rw [List.length_append];omega),rfl,q _ I.fresh⟩
def wb:R2:=fun x y H Q=>∃l k xs,x=.ref l∧y=.int k∧H l=some (.lst xs)∧-(2 ^ 63)≤k∧k < 2 ^ 63∧xs.length * k.toNat≤sizeLine∧
 ∀p,H p=none→Q (.ref p) (upd H p (.lst (List.replicate k.toNat xs).flatten))
theorem kQ{α:Type}(xs:List α)(k:Nat):(List.replicate k xs).flatten.length=k * xs.length:=by
 induction k with
 | zero=>simp
 | succ k ih=>rw [List.replicate_succ,List.flatten_cons,List.length_append,ih,Nat.succ_mul,Nat.add_comm]
theorem xG:cc X (binaryOp .Mult) wb:=by
 intro pins s σ H x y v u Q I rx ry h
 obtain⟨l,k,xs,rfl,rfl,hH,h1,h2,hz,q⟩:=h
 cases rx
 obtain⟨t,rfl⟩:=ry
 obtain⟨z,its,n,r,hl,e⟩:=I.lstM hH
 have hlen:its.toArray.size * k.toNat≤sizeLine:=by rw [List.size_toArray,←hl];exact hz
 have hcap:¬its.toArray.size * k.toNat > (2 ^ 63 - 1) / 8:=by
  have:(sizeLine:Nat)≤(2 ^ 63 - 1) / 8:=by decide
  omega
 have hfit:¬(!Builtin.List.listFitsIndex k)=true:=by
  rw [fitsIndex_both h1 h2]
  exact Bool.false_ne_true
 have hlong:¬Builtin.List.listTooLong (its.toArray.size * k.toNat)=true:=by
  rw [mU hlen]
  exact Bool.false_ne_true
 have hnew:List.foldl (fun x1 x2=>x1++x2) #[] (List.replicate (if its.toArray.isEmpty=true then 0 else k.toNat) its.toArray)=(List.replicate k.toNat its).flatten.toArray:=by
  have f0:∀m:Nat,List.foldl (fun x1 x2=>x1++x2) #[] (List.replicate m its.toArray)=(List.replicate m its).flatten.toArray:=fun m=>by
   have:=gJ its m []
   rw [List.nil_append]at this
   exact this
  rw [f0]
  cases its with
  | nil=>simp
  | cons a r'=>rw [if_neg (by simp)]
 refine wpAny_binaryOp_repeat_ref (T:="list") (U:="int") (by decide) ⟨_,e,rfl⟩ (fun s'=>typeIs_int s' k t) noFill_list_mul F.fills_int_mul F.slot_int_rmul repeat_list F.slot_int_index.lookup
  (call_meets F.slot_int_rmul (typeIs_int s k t) F.entry_int_rmul (F.args_int_rmul_2 _ _) (int___rmul___int_list k t l its.toArray n)
   ⟨e,rfl,⟨_,e,rfl⟩,call_meets F.slot_list_mul ⟨_,e,rfl⟩ F.entry_list_mul (F.args_list_mul_2 _ _) (AutoListH.list___mul___list_int_3 l its.toArray n k t hfit hcap hlong) ⟨e,?_⟩⟩)
 rw [hnew]
 exact⟨.ref _,_,I.lnew (t':=s.toks) (r.rep k.toNat) (by rw [kQ,Nat.mul_comm];exact hz),rfl,q _ I.fresh⟩
end
section
variable {prog:Program} {w:World} {A:Around} {E:Value→Shared→Prop} {s:Shared}
set_option maxRecDepth 100000 in
end
section
variable {X:Cx}
end
end L2
namespace Att
open PySem PySem.W PySem.Calls PyProof.Rows
theorem ip{P:Params}{h:Heap}:∀(ns:List Int) (vs:List Value),WellAll P h vs (ns.map WData.int)→IntsAre vs ns:=by
 intro ns
 induction ns with
 | nil=>
  intro vs w
  rw [List.map_nil]at w
  cases w
  exact .nil
 | cons n ns ih=>
  intro vs w
  rw [List.map_cons]at w
  cases w with
  | cons a b=>
   cases a
   exact .cons _ _ (ih _ b)
theorem script_of{l:OpenLaw}{n:Nat}(hn:l.most=some n){P:Params}{h:Heap}{args:List WData}{vals:List Value}
  (hpre:l.row.toRowW.claim.pre args=true) (hwl:WellAll P h vals args) :
  ∃a vs ns,vals=[Value.ref a]∧args=[WData.list (ns.map WData.int)]∧h.get? a=some { cls:=.type "list",data:=.seq vs.toArray }∧IntsAre vs ns∧ns.length≤n:=by
 have hsh:WShape.hasAll [] args [.list .int]=true:=(pre_splitW hpre).1
 have hc:l.pre.holds [] { args:=args }=true:=(pre_splitW hpre).2
 obtain⟨d,r,rfl,h1,h2⟩:=hasAllW_cons hsh
 obtain rfl:=hasAllW_nil h2
 obtain⟨xs,rfl,h3⟩:=hasW_list h1
 obtain⟨ns,rfl⟩:=items_int h3
 have hlen:ns.length≤n:=by
  unfold OpenLaw.pre at hc
  have h4:(WTm.not (.lt (.lit (.int (n:Int))) (.len (.arg 0)))).holds [] { args:=[.list (ns.map .int)] }=true:=by
   have h4:=(holds_andW hc).1
   rw [hn]at h4
   exact h4
  have h5:=condW_of h4 (w_not (w_lt w_lit (w_len_list (w_arg rfl))))
  rw [List.length_map]at h5
  refine Nat.le_of_not_lt fun q=>?_
  have q':(n:Int) < ((ns.length:Nat):Int):=by omega
  first
   | (rw [decide_eq_true q']at h5;exact absurd h5 (by decide))
   | (simp at h5;omega)
 cases hwl with
 | cons w1 w2=>
  cases w2
  cases w1 with
  | list ho hall=>exact⟨_,_,ns,rfl,rfl,ho,ip ns _ hall,hlen⟩
theorem post_true(l:OpenLaw)(args:List WData):l.row.toRowW.claim.post args (.bool true) args=true:=
 postW_of (r:=l.row.toRowW) (X:=(true == true))
  (show WShape.has [] (.bool true) .bool=true by first | rfl | decide | simp [WShape.has,WShape.arms,WShape.armsAll])
  (show(WTm.eq .res (.lit (.bool true))).value [] { args:=args,res:=some (.bool true),after:=args }=some (.bool (true == true))from w_eq_bool (w_res rfl) w_lit) rfl
theorem attach_call{l:OpenLaw}{n:Nat}{q:Program}{loose:List Str}{XP:(Str→Option Value)→Heap→Prop}{YP:World→Heap→Prop}{d:DefRec}
  (hn:l.most=some n) (hdf:d.params.defaults=[])
  (call:∀(w:World) (s₀ s₁:Shared) (mg mb:Str→Option Value) (fa:Addr) (o:Obj) (pm cd doc:Value) (a:Addr) (vs:List Value) (ns:List Int),
   Ground q loose [] XP w s₀ mg mb s₁.heap→YP w s₁.heap→
   s₁.heap.get? fa=some o→o.data=.func (docDef d.name d.params d.body d.scope pm cd doc)→s₁.heap.CodeRec cd d.name→mg d.name=some (.ref fa)→
   s₁.heap.get? a=some { cls:=.type "list",data:=.seq vs.toArray }→IntsAre vs ns→ns.length≤n→s₁.gens=#[]→
   codeAny (model l.prog w) callerA (.call (.ref fa) ⟨[.ref a],[]⟩) (fun r s'=>r=.ok (.ret (.bool true))∧OldK s₁.heap s'.heap∧s'.os=s₁.os∧AllBare s'.gens) s₁) :
  WalkO q loose XP YP l.row.toRowW d [] (fun f vs=>PySem.call f vs):=by
 intro w s₀ s₁ mg mb G Y fa o pm cd doc dV kV ho hd hcd hD hmg hg args vals as hpre hlay hrd hwl hlo
 obtain rfl:dV=.none:=Dflts.none hD hdf
 obtain rfl:kV=.none:=Dflts.noKw hD
 obtain⟨a,vs,ns,rfl,rfl,hobj,hints,hlen⟩:=script_of hn hpre hwl
 refine enter_call (codeAny_mono (call w s₀ s₁ mg mb fa o pm cd doc a vs ns G Y ho (fd_plain hd) hcd hmg hobj hints hlen hg) fun r s' hq=>?_)
 obtain⟨rfl,h2,h3,h4⟩:=hq
 exact⟨.inl ⟨.bool true,.bool true,[],rfl,fun _=>rfl,.bool true,post_true l _,fun _=>⟨List.Pairwise.nil,fun _ hm=>(nomatch hm)⟩⟩,h2,h3,h4⟩
section
variable {prog:Program} {w:World} {A:Around} {E:Value→Shared→Prop} {s:Shared} {K:Frag}
end
end Att
namespace L2
open PySem PySem.Spec PyProof.Rows
theorem ku:∀{vs:List Value} {ns:List Int},IntsAre vs ns→aC (ns.map V.int) vs
 | _,_,.nil=>.nil
 | _,_,.cons n t h=>.cons ⟨t,rfl⟩ (ku h)
def uZ(H:Hp):Prop:=∀b,H b=none∨∃o xs,H b=some (.frz o (.lst xs))
theorem mQ{P:Program}{w:World}{K:PySem.W.Frag}{mg mb:Str→Option Value}{CX:mi}{k:Nat}{fa a:Addr}{fd:FuncData}{x:Str}{sp:Sp}{s₁:Shared}{vs:List Value}{ns:List Int}
  (KX:K.In s₁.heap) (hns:s₁.heap.Ns mainGlobals mg) (hb:s₁.heap.Ns builtinsNs mb) (hbb:∀x:Str,x≠"__name__"→mb x=bootBuiltins x) (hlim:s₁.heap.NoLimit) (hg:s₁.gens=#[])
  (ha:s₁.heap.get? a=some { cls:=.type "list",data:=.seq vs.toArray }) (hi:IntsAre vs ns) (hl:ns.length≤sizeLine) (hr:bO k callerA)
  (F:∀base:Heap,K.In base→base.Ns mainGlobals mg→aE P w K mg base CX k fa fd [x] sp) (hbind:∀(s:Shared) (u:Value),BindsTo s fd ⟨[u],[]⟩ [(x,u)])
  (hsp:∀H:Hp,uZ H→aO K H a (ns.map V.int)→sp [.ref a] H (fun v _=>v=.bl true) fun _ _ _=>False)
  (hCX:∀H e s',CX [] H s₁ (fun _ _ _=>False) e s'→False) :
  codeAny (model P w) callerA (.call (.ref fa) ⟨[.ref a],[]⟩) (fun r s'=>r=.ok (.ret (.bool true))∧OldK s₁.heap s'.heap∧s'.os=s₁.os∧AllBare s'.gens) s₁:=by
 have rv:=ku hi
 have lenV:=hi.length
 have core:∀H:Hp,uZ H→aO K H a (ns.map V.int)→fR P w H s₁.heap→(∀b,H b≠none→b=a)→(H a≠none→K.lookup a=none)→
   codeAny (model P w) callerA (.call (.ref fa) ⟨[.ref a],[]⟩) (fun r s'=>r=.ok (.ret (.bool true))∧OldK s₁.heap s'.heap∧s'.os=s₁.os∧AllBare s'.gens) s₁:=by
  intro H hO hS hok hA hK
  have base_of:∀{b:Addr} {o:Obj},s₁.heap.get? b=some o→H b=none→(kL s₁.heap H).get? b=some o:=fun e n=>sZ e n
  have noA:∀{b:Addr} {o:Obj} {es:Array DictEntry} {ep:Nat},s₁.heap.get? b=some o→o.data=.dict es ep→H b=none:=fun {b o es ep} e d=>by
   cases q:H b with
   | none=>rfl
   | some u=>
    have e':b=a:=hA b (by rw [q];simp)
    subst e'
    rw [ha]at e;cases e
    have d':Data.seq vs.toArray _=Data.dict es ep:=d
    cases d'
  have nsK:∀{b:Addr} {m:Str→Option Value},s₁.heap.Ns b m→(kL s₁.heap H).Ns b m:=fun {b m} ⟨o,es,ep,e,d,r⟩=>⟨o,es,ep,base_of e (noA e d),d,r⟩
  have hKb:K.In (kL s₁.heap H):=fun b o e=>base_of (KX b o e) (by
   cases q:H b with
   | none=>rfl
   | some u=>
    have e':b=a:=hA b (by rw [q];simp)
    subst e'
    rw [hK (by rw [q];simp)]at e;cases e)
  have hM:Mod K mg (kL s₁.heap H):=⟨hKb,nsK hns,⟨mb,nsK hb,hbb⟩,let ⟨mc,h1,h2⟩:=hlim;⟨mc,nsK h1,h2⟩⟩
  have e0:nI P w K mg (kL s₁.heap H) callerA [] s₁ H:=⟨rfl,hM,fun b o e=>vD e,Nat.le_of_eq (rf _ _),trivial,fun b hb=>absurd (show b∈([]:List Addr)from hb) (by simp),hok,.of_eq hg⟩
  refine codeAny_mono ((F _ hKb (nsK hns)).run callerA [] s₁ H ⟨[.ref a],[]⟩ [.ref a] [.ref a] _ _ hr e0 (hbind s₁ (.ref a)) (.cons rfl .nil) (hsp H hO hS)) fun r s' h=>?_
  cases r with
  | error e=>exact(hCX H e s' h).elim
  | ok fl=>
   cases fl with
   | next=>exact False.elim h
   | brk=>exact False.elim h
   | cont=>exact False.elim h
   | ret u=>
    obtain⟨v,H',os,bare,un,hok',r',q⟩:=h
    have q':v=.bl true:=q
    subst q'
    obtain rfl:u=Value.bool true:=r'
    refine⟨rfl,OldK.of_keep fun b o e=>?_,os,bare⟩
    cases q:H b with
    | none=>exact un.keep b o e q (by intro z;exact absurd (show b∈([]:List Addr)from z) (by simp)) (by simp)
    | some u=>
     rcases hO b with z | ⟨ob,xs,z⟩
     ·rw [q]at z;cases z
     ·have z2:=un.frzs b ob _ z
      obtain⟨e1,_⟩:=hok b _ z
      obtain⟨e2,_⟩:=hok' b _ z2
      rw [e]at e1;cases e1
      exact e2
 cases hk:K.lookup a with
 | some o=>
  have e:=KX a o hk
  rw [ha]at e
  cases e
  refine core (fun _=>none) (fun _=>.inl rfl) (.inr ⟨_,vs.toArray,_,hk,rfl,rfl,rfl,by rw [List.size_toArray,lenV];exact hl,by simpa using rv⟩) (fun b u z=>by have z':(none:Option HO)=some u:=z;cases z') (fun b z=>absurd rfl z) fun z=>absurd rfl z
 | none=>
  refine core (fun b=>if b=a then some (.frz { cls:=.type "list",data:=.seq vs.toArray } (.lst (ns.map V.int)))else none) (fun b=>?_) (.inl (.inr ⟨{ cls:=.type "list",data:=.seq vs.toArray },if_pos rfl⟩)) (fun b u z=>?_) (fun b z=>?_) fun _=>hk
  ·by_cases hb:b=a
   ·exact .inr ⟨_,_,if_pos hb⟩
   ·exact .inl (if_neg hb)
  ·by_cases hb:b=a
   ·have z':=(if_pos hb).symm.trans z
    cases z'
    subst hb
    exact⟨ha,by rw [List.length_map];exact hl,vs,_,rv,ha⟩
   ·have z':=(if_neg hb).symm.trans z
    cases z'
  ·by_cases hb:b=a
   ·exact hb
   ·exact absurd (if_neg hb) z
end L2
namespace L2
open PySem PySem.Spec PyProof.Rows
abbrev KOf{K:PySem.W.Frag}{h:Heap}(_:K.In h):PySem.W.Frag:=K
theorem walk_of{l:PySem.W.OpenLaw}{n k:Nat}{q:Program}{loose:List Str}{XP:(Str→Option Value)→Heap→Prop}{YP:World→Heap→Prop}{d:DefRec}{K:Params→PySem.W.Frag}{CX:World→mi}{sp:World→Sp}{x:Str}
  (hn:l.most=some n) (hn2:n≤sizeLine) (hdf:d.params.defaults=[]) (hr:bO k callerA)
  (hY:∀(w:World) (h:Heap),YP w h→(K w.params).In h)
  (F:∀(w:World) (mg:Str→Option Value) (fa:Addr) (h:Heap),(K w.params).In h→h.Ns mainGlobals mg→mg d.name=some (.ref fa)→
   ∃fd:FuncData,(∀(s:Shared) (u:Value),BindsTo s fd ⟨[u],[]⟩ [(x,u)])∧
    ∀base:Heap,(K w.params).In base→base.Ns mainGlobals mg→aE l.prog w (K w.params) mg base (CX w) k fa fd [x] (sp w))
  (hsp:∀(w:World) (H:Hp) (a:Addr) (ns:List Int),ns.length≤n→uZ H→aO (K w.params) H a (ns.map V.int)→sp w [.ref a] H (fun v _=>v=.bl true) fun _ _ _=>False)
  (hCX:∀(w:World) (H:Hp) (s:Shared) (e:Value) (s':Shared),CX w [] H s (fun _ _ _=>False) e s'→False) :
  PySem.W.WalkO q loose XP YP l.row.toRowW d [] (fun f vs=>PySem.call f vs):=by
 refine Att.attach_call hn hdf fun w s₀ s₁ mg mb fa o pm cd doc a vs ns G Y ho hd hcd hmg hobj hints hlen hg=>?_
 have KX:=hY w _ Y
 obtain⟨fd,hb,hF⟩:=F w mg fa _ KX G.T.g hmg
 exact mQ KX G.T.g G.T.b G.T.builtins G.T.nolimit hg hobj hints (Nat.le_trans hlen hn2) hr hF hb (fun H hO hS=>hsp w H a ns hlen hO hS) fun H e s'=>hCX w H s₁ e s'
end L2
/- THE LAST THEOREM (shape; LID, My.* are yours):
  My.Adr:a structure of the addresses that your layer names (classes,functions);My.Txt K t:a structure (Prop) of the equations over K;
  My.txt_mk:{K} {implicit addresses ..} (e1:nsIn K mainGlobals "law"=some (some (.ref f))) (e2:K.lookup f=some ⟨oc,od,.func (fnOf "law" "law" params body scope dV kV doc pm an cdv ct),sl⟩) (e3:codeIn K cdv "law"=true) ..:∃t,My.Txt K t
set_option maxRecDepth 100000 in
set_option maxHeartbeats 0 in
theorem PySem.Challenge.cw_LID_holds : PySem.Challenge.rw_LID.Holds := by
 w_on;o_law;k_head;(case hw=>w_witness2)
 k_fill
 refine L2.walk_of (l:=PySem.Challenge.rw_LID) (n:=63) (k:=40) (x:="script") (CX:=fun w=>..) (sp:=fun _=>My.sp_law) rfl (by decide) rfl ⟨rfl,by decide,by decide⟩ (fun w h Y=>PySem.W.kIn_of Y) ?F ?S ?C
 case F=>
  intro w mg fa h KX G hmg
  have T:∃t,My.Txt (L2.KOf KX) t:=by
   dsimp only [L2.KOf] -- K must stand as «<heap const> w.params» for k_is
   refine' My.txt_mk ?e1 ?e2 ?e3 ..
   (case e1=>PySem.W.k_is) -- in the order:a name -> its address -> its object -> its parts
   (case e2=>PySem.W.k_is)
   ..
  obtain⟨t,T⟩:=T
  have e0:=hmg.symm.trans (PySem.W.mg_of KX G T.law)
  cases e0 -- fa is the law's own address
  exact⟨_,fun s u=>.of_eq rfl,fun base kb nb=>My.law_fn T kb nb⟩ -- if «.of_eq rfl» comes too early:refine'⟨_,?b,fun base kb nb=>My.law_fn T kb nb⟩;exact fun s u=>.of_eq rfl
 case S=>exact fun w H a ns hl hO hS=>..
 case C=>exact ..
(the tactic k_is has no namespace:write k_is) -/
namespace L2
open PySem PySem.Spec PyProof.Rows
def bG(s:Stmt)(j:Nat):Stmt:=match s with
 | .ClassDef _ _ _ body _ _ _ _ _ _ _=>body.getD j (.Pass ⟨0,0,0,0⟩)
 | _=>.Pass ⟨0,0,0,0⟩
def bV(s:Stmt):Arguments:=match s with
 | .FunctionDef _ a _ _ _ _ _ _ _ _=>a
 | _=>{ posonlyargs:=[],args:=[],vararg:=none,kwonlyargs:=[],kw_defaults:=[],kwarg:=none,defaults:=[] }
def bq(s:Stmt):List Stmt:=match s with
 | .FunctionDef _ _ b _ _ _ _ _ _ _=>b
 | _=>[]
def ak(s:Stmt):Scope:=match s with
 | .FunctionDef _ _ _ _ _ _ sc _ _ _=>sc
 | _=>{ kind:=.function,names:=[],isGenerator:=false,isCoroutine:=false }
abbrev b8:mi:=fun _ _ _ _ _ _=>False
abbrev E0:XK:=fun _ _ _=>False
theorem ka{X:Cx}:fA b8 X E0:=fun _ _ _ _ _ _ _ h=>h.elim
structure cR(K:PySem.W.Frag)(x qual:Str)(st:Stmt)(f:Addr)(fd:FuncData):Prop where
 ex:∃(oc:Value) (od:Option Addr) (kV doc pm:Value) (an:Option Addr) (cdv ct:Value) (osl:Array (Option Value)),
  fd=PySem.W.fnOf x qual (bV st) (bq st) (ak st) .none kV doc pm an cdv ct∧K.lookup f=some ⟨oc,od,.func fd,osl⟩∧PySem.W.codeIn K cdv qual=true
 kp:PySem.W.keepIn K (.ref f)=true
section
variable {P:Program} {w:World} {K:PySem.W.Frag} {mg:Str→Option Value} {base:Heap}
theorem cR.ok{x qual:Str}{st:Stmt}{f:Addr}{fd:FuncData}{N ps:List Str}{k:Nat}{sp:Sp}(F:cR K x qual st f fd)(S:av N ps (ak st))(len:∀vs H Q E,sp vs H Q E→vs.length=ps.length)
  (hbody:∀(cdv:Value) (A:Around) (outer:List Env) (s:Shared) (H:Hp) (vs:List V) (Q:VK) (E:XK),bO k (A.deeper (envOfC qual (ak st) s.heap.objs.size f cdv))→sp vs H Q E→
   ∃t,nL (gH b8 P w K mg base N qual (ak st) f cdv A outer s H E).nox (bq st) t∧t { nx:=fun _ H'=>Q .non H',rt:=Q } (start N vs) H):aE P w K mg base b8 (k+1) f fd ps sp:=by
 obtain⟨oc,od,kV,doc,pm,an,cdv,ct,osl,rfl,lk,hcd⟩:=F.ex
 refine sW lk hcd S len fun A outer s H vs Q E hr hsp=>?_
 obtain⟨t,h,q⟩:=hbody cdv A outer s H vs Q E hr hsp
 exact⟨t,h.nox,q⟩
theorem cR.binds{x qual:Str}{st:Stmt}{f:Addr}{fd:FuncData}{ps:List Str}(F:cR K x qual st f fd)
  (h:∀(kV doc pm:Value) (an:Option Addr) (cdv ct:Value) (us:List Value),us.length=ps.length→bindArgs (PySem.W.fnOf x qual (bV st) (bq st) (ak st) .none kV doc pm an cdv ct) ⟨us,[]⟩=pure (ps.zip us)):bT K fd ps []:=by
 obtain⟨oc,od,kV,doc,pm,an,cdv,ct,osl,rfl,lk,hcd⟩:=F.ex
 exact .all (h kV doc pm an cdv ct)
theorem fun_mk{x qual:Str}{st:Stmt}{f:Addr}{oc:Value}{od an:Option Addr}{osl:Array (Option Value)}{kV doc pm cdv ct:Value}(l:K.lookup f=some ⟨oc,od,.func (PySem.W.fnOf x qual (bV st) (bq st) (ak st) .none kV doc pm an cdv ct),osl⟩)
  (c:PySem.W.codeIn K cdv qual=true) (k:PySem.W.keepIn K (.ref f)=true):cR K x qual st f (PySem.W.fnOf x qual (bV st) (bq st) (ak st) .none kV doc pm an cdv ct):=⟨⟨oc,od,kV,doc,pm,an,cdv,ct,osl,rfl,l,c⟩,k⟩
end
section
variable {X:Cx}
end
def ar(H H':Hp):Prop:=∀b o,H b=some o→H' b=some o
theorem ar.refl(H:Hp):ar H H:=fun _ _ h=>h
theorem ar.trans{H H1 H2:Hp}(a:ar H H1)(b:ar H1 H2):ar H H2:=fun c o h=>b c o (a c o h)
theorem ar.free{H H':Hp}(e:ar H H'){l:Addr}(h:H' l=Option.none):H l=Option.none:=by
 cases q:H l with
 | none=>rfl
 | some o=>
  rw [e l o q]at h
  cases h
theorem ar.seq{K:PySem.W.Frag}{H H':Hp}{a:Addr}{xs:List V}(e:ar H H')(h:aO K H a xs):aO K H' a xs:=by
 rcases h with(h | ⟨o,h⟩) | h
 ·exact .inl (.inl (e _ _ h))
 ·exact .inl (.inr ⟨o,e _ _ h⟩)
 ·exact .inr h
end L2
namespace GM
def stirSt(c p:Int):Nat→Int×Int
 | 0=>(0,(c % 998244341+7919 * p) % 998244353+3)
 | i+1=>((stirSt c p i).1 * 998244353+((stirSt c p i).2 % 4099 * 240007+(stirSt c p i).2 / 4099 * 89+1201 * (i:Int)+11) % 998244353,
   ((stirSt c p i).2 % 4099 * 240007+(stirSt c p i).2 / 4099 * 89+1201 * (i:Int)+11) % 998244353)
def stirF(c p:Int):Int:=(stirSt c p 4).1
theorem hX(c p:Int):∀i:Nat,0≤(stirSt c p i).1∧(stirSt c p i).1+1≤998244353 ^ i
 | 0=>⟨Int.le_refl _,Int.le_refl _⟩
 | i+1=>by
  obtain⟨h1,h2⟩:=hX c p i
  have h3:=Int.emod_nonneg ((stirSt c p i).2 % 4099 * 240007+(stirSt c p i).2 / 4099 * 89+1201 * (i:Int)+11) (show(998244353:Int)≠0 by decide)
  have h4:=Int.emod_lt_of_pos ((stirSt c p i).2 % 4099 * 240007+(stirSt c p i).2 / 4099 * 89+1201 * (i:Int)+11) (show(0:Int) < 998244353 by decide)
  have e:(998244353:Int) ^ (i+1)=998244353 ^ i * 998244353:=Int.pow_succ ..
  simp only [stirSt]
  rw [e]
  generalize((stirSt c p i).2 % 4099 * 240007+(stirSt c p i).2 / 4099 * 89+1201 * (i:Int)+11) % 998244353=r at h3 h4
  generalize(stirSt c p i).1=f at h1 h2
  generalize(998244353:Int) ^ i=q at h2
  omega
theorem jk(c p:Int):0≤stirF c p:=(hX c p 4).1
theorem nB(c p:Int):stirF c p < 2 ^ 128:=by
 have h:=(hX c p 4).2
 have e:(998244353:Int) ^ 4≤2 ^ 128:=by decide
 unfold stirF
 omega
def powGo:Nat→Int→Int→Int
 | 0,p,_=>p
 | f+1,p,a=>if p≤a then powGo f (p * 1000000) a else p
theorem fg:∀(f:Nat) (p a:Int),0 < p→0 < powGo f p a
 | 0,_,_,h=>h
 | f+1,p,a,h=>by
  simp only [powGo]
  split
  ·exact fg f _ a (by omega)
  ·exact h
theorem ja:∀(f:Nat) (p a b:Int),p≤b→a * 1000000≤b→powGo f p a≤b
 | 0,_,_,_,h,_=>h
 | f+1,p,a,b,h,h'=>by
  simp only [powGo]
  split
  ·exact ja f _ a b (by omega) h'
  ·exact h
def absI(c:Int):Int:=if c < 0 then -c else c
theorem kF(c:Int):0≤absI c:=by unfold absI;split<;>omega
theorem h8(c:Int):absI c=c.natAbs:=by unfold absI;split<;>omega
def powF(c:Int):Int:=powGo ((absI c).toNat+1) 1 (absI c)
def gotF(ns:List Int)(p:Int):Int:=match ns[p.toNat]? with
 | none=>0
 | some c=>absI c+powF c * stirF (absI c) p
theorem gotF_nn(ns:List Int)(p:Int):0≤gotF ns p:=by
 unfold gotF
 split
 ·exact Int.le_refl _
 ·have h1:=kF ‹Int›
  have h2:=Int.mul_nonneg (Int.le_of_lt (fg ((absI ‹Int›).toNat+1) 1 (absI ‹Int›) (by decide))) (jk (absI ‹Int›) p)
  unfold powF
  omega
theorem vb{n:Nat}{c p:Int}(h:c.natAbs < 2 ^ n):(absI c+powF c * stirF (absI c) p).natAbs < 2 ^ (n+200):=by
 have ha:=kF c
 have hA:absI c < (2:Int) ^ n:=by
  rw [h8]
  exact_mod_cast h
 have hn:(1:Int)≤2 ^ n:=by
  have:1≤2 ^ n:=Nat.one_le_two_pow
  exact_mod_cast this
 have hp:powF c≤2 ^ n * 1000000:=ja _ 1 (absI c) _ (by omega) (by omega)
 have hp0:0 < powF c:=fg _ _ _ (by decide)
 have hs:=nB (absI c) p
 have hs0:=jk (absI c) p
 have hm:powF c * stirF (absI c) p≤(2 ^ n * 1000000) * 2 ^ 128:=Int.mul_le_mul hp (Int.le_of_lt hs) hs0 (by omega)
 have hm0:0≤powF c * stirF (absI c) p:=Int.mul_nonneg (Int.le_of_lt hp0) hs0
 have e:(2:Int) ^ (n+200)=2 ^ n * 2 ^ 200:=Int.pow_add ..
 have e2:(2:Int) ^ 200=1606938044258990275541962092341162602522202993782792835301376:=by decide
 have e3:(2:Int) ^ 128=340282366920938463463374607431768211456:=by decide
 have key:absI c+powF c * stirF (absI c) p < 2 ^ (n+200):=by
  rw [e,e2]
  rw [e3]at hm
  generalize(2:Int) ^ n=q at hA hn hm
  generalize powF c * stirF (absI c) p=m at hm hm0
  omega
 have k0:0≤absI c+powF c * stirF (absI c) p:=by omega
 have:((absI c+powF c * stirF (absI c) p).natAbs:Int) < ((2 ^ (n+200):Nat):Int):=by
  rw [Int.natAbs_of_nonneg k0]
  exact_mod_cast key
 exact_mod_cast this
theorem powF_lt{n:Nat}{c:Int}(h:c.natAbs < 2 ^ n):(powF c).natAbs < 2 ^ (n+21):=by
 have ha:=kF c
 have hA:absI c < (2:Int) ^ n:=by
  rw [h8]
  exact_mod_cast h
 have hn:(1:Int)≤2 ^ n:=by
  have:1≤2 ^ n:=Nat.one_le_two_pow
  exact_mod_cast this
 have hp:powF c≤2 ^ n * 1000000:=ja _ 1 (absI c) _ (by omega) (by omega)
 have hp0:0 < powF c:=fg _ _ _ (by decide)
 have e:(2:Int) ^ (n+21)=2 ^ n * 2 ^ 21:=Int.pow_add ..
 have e2:(2:Int) ^ 21=2097152:=by decide
 have key:powF c < 2 ^ (n+21):=by
  rw [e,e2]
  generalize(2:Int) ^ n=q at hA hn hp
  omega
 have:((powF c).natAbs:Int) < ((2 ^ (n+21):Nat):Int):=by
  rw [Int.natAbs_of_nonneg (Int.le_of_lt hp0)]
  exact_mod_cast key
 exact_mod_cast this
theorem stirF_natAbs(c p:Int):(stirF c p).natAbs < 2 ^ 128:=by
 have h:=nB c p
 have h0:=jk c p
 have:((stirF c p).natAbs:Int) < ((2 ^ 128:Nat):Int):=by
  rw [Int.natAbs_of_nonneg h0]
  exact_mod_cast h
 exact_mod_cast this
theorem powGo_stop{f:Nat}{p a:Int}(h:¬p≤a):powGo f p a=p:=by
 cases f with
 | zero=>rfl
 | succ f=>simp only [powGo];rw [if_neg h]
theorem gotF_lt{n:Nat}{ns:List Int}{p:Int}(h:∀x∈ns,x.natAbs < 2 ^ n):(gotF ns p).natAbs < 2 ^ (n+200):=by
 unfold gotF
 split
 ·exact Nat.two_pow_pos _
 ·rename_i c e
  exact vb (h c (List.mem_of_getElem? e))
def cellsF(ns:List Int)(lo hi:Int):List Int:=(List.range ((if (ns.length:Int) < hi then(ns.length:Int)else hi) - lo).toNat).map fun(i:Nat)=>gotF ns (lo+i)
theorem cellsF_nn{ns:List Int}{lo hi x:Int}(h:x∈cellsF ns lo hi):0≤x:=by
 obtain⟨i,_,rfl⟩:=List.mem_map.mp h
 exact gotF_nn _ _
theorem cellsF_lt{n:Nat}{ns:List Int}{lo hi x:Int}(hb:∀x∈ns,x.natAbs < 2 ^ n)(h:x∈cellsF ns lo hi):x.natAbs < 2 ^ (n+200):=by
 obtain⟨i,_,rfl⟩:=List.mem_map.mp h
 exact gotF_lt hb
end GM
set_option maxHeartbeats 4000000
namespace L2
open PySem PySem.Spec PyProof.Rows
def d9(cells:List (Str×Addr)):List (Str×NameKind)→List (Str×Addr)→List (Str×Addr)
 | [],cs=>cs
 | (n,k)::r,cs=>d9 cells r (if k == .free then(n,(cells.lookup n).getD 0)::cs else cs)
theorem fu{scope:Scope}{env:Env}(h:∀y∈scope.names,y.2=.free→∃c,env.cells.lookup y.1=some c):closureFor scope env=pure (d9 env.cells scope.names []):=by
 simp only [closureFor]
 generalize scope.names=l at h ⊢
 have key:∀(l:List (Str×NameKind)) (cs:List (Str×Addr)),(∀y∈l,y.2=.free→∃c,env.cells.lookup y.1=some c)→
   (forIn l cs (fun(x:Str×NameKind) (r:List (Str×Addr))=>(if (x.snd == NameKind.free)=true then(do let a ←cellOf env x.fst;pure (ForInStep.yield ((x.fst,a)::r)))else pure (ForInStep.yield r):Sem (ForInStep (List (Str×Addr))))):Sem (List (Str×Addr)))=pure (d9 env.cells l cs):=by
  intro l
  induction l with
  | nil=>intro cs _;rfl
  | cons x r ih=>
   intro cs h
   obtain⟨n,k⟩:=x
   have hr:∀y∈r,y.2=.free→∃c,env.cells.lookup y.1=some c:=fun y hy=>h y (List.mem_cons_of_mem _ hy)
   rw [List.forIn_cons]
   by_cases hk:k=.free
   ·subst hk
    obtain⟨c,hc⟩:=h (n,.free) List.mem_cons_self rfl
    have e:cellOf env n=pure c:=by unfold cellOf;rw [show env.cells.lookup n=some c from hc]
    simp only [beq_self_eq_true,if_true,e]
    show(forIn r ((n,c)::cs) _:Sem _)=_
    rw [ih _ hr]
    simp only [d9,beq_self_eq_true,if_true]
    rw [show env.cells.lookup n=some c from hc];rfl
   ·have hb:(k == NameKind.free)=false:=by simpa using hk
    simp only [hb,Bool.false_eq_true,if_false]
    show(forIn r cs _:Sem _)=_
    rw [ih _ hr]
    simp only [d9,hb,Bool.false_eq_true,if_false]
 rw [key l [] h];rfl
theorem jY{cells:List (Str×Addr)}:∀{l:List (Str×NameKind)} {cs:List (Str×Addr)} {x:Str} {c:Addr},(∀y∈l,y.2=.free→∃c,cells.lookup y.1=some c)→
  (∀x c,cs.lookup x=some c→cells.lookup x=some c)→(d9 cells l cs).lookup x=some c→cells.lookup x=some c
 | [],_,_,_,_,hs,e=>hs _ _ e
 | (n,k)::r,cs,x,c,h,hs,e=>by
  refine jY (l:=r) (fun y hy=>h y (List.mem_cons_of_mem _ hy)) ?_ e
  intro z d
  by_cases hk:k=.free
  ·subst hk
   obtain⟨c',hc'⟩:=h (n,.free) List.mem_cons_self rfl
   have hc'':cells.lookup n=some c':=hc'
   simp only [beq_self_eq_true,if_true,List.lookup_cons,hc'',Option.getD_some]
   cases hz:z == n with
   | true=>
    have:z=n:=by simpa using hz
    subst this
    intro q
    cases q
    exact hc''
   | false=>exact hs z d
  ·have hb:(k == NameKind.free)=false:=by simpa using hk
   simp only [hb,Bool.false_eq_true,if_false]
   exact hs z d
theorem gE{cells:List (Str×Addr)}:∀{l:List (Str×NameKind)} {cs:List (Str×Addr)} {x:Str},((x,NameKind.free)∈l∨∃c,cs.lookup x=some c)→∃c,(d9 cells l cs).lookup x=some c
 | [],_,_,h=>by
  rcases h with h | h
  ·cases h
  ·exact h
 | (n,k)::r,cs,x,h=>by
  refine gE (l:=r) ?_
  rcases h with h | ⟨c,h⟩
  ·rcases List.mem_cons.mp h with e | h
   ·cases e
    refine .inr ⟨(cells.lookup n).getD 0,?_⟩
    simp only [beq_self_eq_true,if_true,List.lookup_cons]
   ·exact .inl h
  ·by_cases hk:k=.free
   ·subst hk
    simp only [beq_self_eq_true,if_true,List.lookup_cons]
    cases hz:x == n with
    | true=>exact .inr ⟨_,rfl⟩
    | false=>exact .inr ⟨c,h⟩
   ·have hb:(k == NameKind.free)=false:=by simpa using hk
    simp only [hb,Bool.false_eq_true,if_false]
    exact .inr ⟨c,h⟩
theorem dh{env:Env}:∀{names:List (Str×NameKind)} {x:Str},
  (names.map fun(n,k)=>if (k == NameKind.free && env.scope.kind == .function && env.kindOf n == some .cell)then(n,NameKind.cell)else(n,k)).lookup x =
   (names.lookup x).map fun k=>if (k == NameKind.free && env.scope.kind == .function && env.kindOf x == some .cell)then NameKind.cell else k
 | [],_=>rfl
 | (n,k)::r,x=>by
  have ih:=@dh env r x
  show List.lookup x ((if (k == NameKind.free && env.scope.kind == .function && env.kindOf n == some .cell)=true then(n,NameKind.cell)else(n,k))::_)=_
  cases hx:x == n with
  | true=>
   have e:x=n:=by simpa using hx
   subst e
   by_cases hc:(k == NameKind.free && env.scope.kind == .function && env.kindOf x == some .cell)=true
   ·rw [if_pos hc];simp only [List.lookup_cons,hx,Option.map_some];rw [if_pos hc]
   ·rw [if_neg hc];simp only [List.lookup_cons,hx,Option.map_some];rw [if_neg hc]
  | false=>
   by_cases hc:(k == NameKind.free && env.scope.kind == .function && env.kindOf n == some .cell)=true
   ·rw [if_pos hc];simp only [List.lookup_cons,hx];exact ih
   ·rw [if_neg hc];simp only [List.lookup_cons,hx];exact ih
theorem mem_of_lookup{κ ν:Type}[BEq κ][LawfulBEq κ]:∀{l:List (κ×ν)} {x:κ} {v:ν},l.lookup x=some v→(x,v)∈l
 | [],_,_,h=>by cases h
 | (n,k)::r,x,v,h=>by
  rw [List.lookup_cons]at h
  cases hx:x == n with
  | true=>
   rw [hx]at h
   have e:x=n:=by simpa using hx
   cases h
   rw [e]
   exact List.mem_cons_self
  | false=>
   rw [hx]at h
   exact List.mem_cons_of_mem _ (mem_of_lookup h)
structure aZ(X:Cx)(scope:Scope)(js:List Nat):Prop where
 kind:scope.kind=.function
 cell:∀y∈scope.names,y.2≠.cell
 names:∀y∈scope.names,y.2=.local→scope.names.lookup y.1=some .local
 free:∀y∈scope.names,y.2=.free→X.env.kindOf y.1=some .cell∨X.env.kindOf y.1=some .free
 js:∀j∈js,scope.names.lookup (X.N.getD j "")=some .free
def pU(out:Scope)(N:List Str)(scope:Scope)(js:List Nat):Bool:=
 (scope.kind == .function) && scope.names.all (fun y=>y.2 != .cell) && scope.names.all (fun y=>y.2 != .local || scope.names.lookup y.1 == some .local) &&
  scope.names.all (fun y=>y.2 != .free || (out.names.lookup y.1 == some .cell || out.names.lookup y.1 == some .free)) && js.all fun j=>scope.names.lookup (N.getD j "") == some .free
theorem aZ.of{X:Cx}{scope:Scope}{js:List Nat}(h:pU X.env.scope X.N scope js=true):aZ X scope js:=by
 simp only [pU,Bool.and_eq_true,List.all_eq_true]at h
 obtain⟨⟨⟨⟨h1,h2⟩,h3⟩,h4⟩,h5⟩:=h
 refine⟨by simpa using h1,fun y hy=>by simpa using h2 y hy,fun y hy e=>?_,fun y hy e=>?_,fun j hj=>by simpa using h5 j hj⟩
 ·have:=h3 y hy
  rw [e]at this
  simpa using this
 ·have:=h4 y hy
  rw [e]at this
  simpa [Env.kindOf]using this
def jw(X:Cx)(scope:Scope)(own:List Str)(js:List Nat)(C:Addr)(s:Shared)(H:Hp)(ex:List Addr)(pn:List (Addr×Obj))(E:Value→Shared→Prop):Cx where
 prog:=X.prog
 w:=X.w
 K:=X.K
 mg:=X.mg
 base:=X.base
 A:=X.A
 N:=own++js.map fun j=>X.N.getD j ""
 s₀:=s
 H₀:=H
 env:=compEnvC scope (d9 X.env.cells scope.names []) C X.env
 outer:=X.stack
 stack:=X.stack
 ex:=ex
 fn:=fun _=>false
 calm:=X.calm
 pn:=pn
 xe:=E
def cσ(n:Nat)(js:List Nat)(σ:St):St:=List.replicate n none++js.map fun j=>σ.getD j none
section
variable {X:Cx} {pins:List (Addr×Obj)} {σ:St} {H H':Hp} {s:Shared} {scope:Scope} {own:List Str} {js:List Nat} {C:Addr} {fp:List Addr} {E:Value→Shared→Prop}
theorem aZ.clos(ok:aZ X scope js)(I:az X pins σ H s):∀y∈scope.names,y.2=.free→∃c,X.env.cells.lookup y.1=some c:=fun y hy e=>I.ok.has y.1 (ok.free y hy e)
theorem aZ.sub(ok:aZ X scope js)(I:az X pins σ H s){x:Str}{c:Addr}(e:(d9 X.env.cells scope.names []).lookup x=some c):X.env.cells.lookup x=some c:=
 jY (ok.clos I) (fun _ _ z=>by cases z) e
theorem aZ.kindOf(ok:aZ X scope js){cl:List (Str×Addr)}{x:Str}(h:(compEnvC scope cl C X.env).kindOf x=some .cell∨(compEnvC scope cl C X.env).kindOf x=some .free):(x,NameKind.free)∈scope.names:=by
 have e:(compEnvC scope cl C X.env).kindOf x=(scope.names.lookup x).map fun k=>if (k == NameKind.free && X.env.scope.kind == .function && X.env.kindOf x == some .cell)then NameKind.cell else k:=dh
 rw [e]at h
 cases q:scope.names.lookup x with
 | none=>rw [q]at h;simp at h
 | some k=>
  have hm:=mem_of_lookup q
  by_cases hk:k=.free
  ·subst hk;exact hm
  ·have hb:(k == NameKind.free)=false:=by simpa using hk
   rw [q]at h
   simp only [Option.map_some,hb,Bool.false_and,Bool.false_eq_true,if_false]at h
   rcases h with h | h
   ·exact absurd (Option.some.inj h) (ok.cell _ hm)
   ·exact absurd (Option.some.inj h) hk
theorem aZ.isFree(ok:aZ X scope js){cl:List (Str×Addr)}{x:Str}(h:scope.names.lookup x=some .free):(compEnvC scope cl C X.env).kindOf x=some .cell∨(compEnvC scope cl C X.env).kindOf x=some .free:=by
 have e:(compEnvC scope cl C X.env).kindOf x=(scope.names.lookup x).map fun k=>if (k == NameKind.free && X.env.scope.kind == .function && X.env.kindOf x == some .cell)then NameKind.cell else k:=dh
 rw [e,h]
 simp only [Option.map_some]
 split
 ·exact .inl rfl
 ·exact .inr rfl
theorem vc(ok:aZ X scope js)(I:az X pins σ H s)(hC:s.heap.objs.size≤C)(f:∀b∈fp,iL X pins H b)(fo:∀b∈fp,∃o,s.heap.get? b=some o):(jw X scope own js C s H fp (X.pn++pins) E).Ok where
 mod:=I.ok.mod
 kind:=ok.kind
 glob:=I.ok.glob
 blt:=I.ok.blt
 above:=hC
 inj:=fun x y c e1 e2=>I.ok.inj x y c (ok.sub I e1) (ok.sub I e2)
 has:=fun x h=>gE (.inl (ok.kindOf h))
 cab:=fun x c h=>nomatch (show false=true from h)
 hd:=I.ok.hd
 frames:=I.ok.frames
 stk:=.inl rfl
 exf:=fun b hb=>by
  obtain⟨o,e⟩:=fo b hb
  obtain⟨_,_,_,_,f4,_⟩:=f b hb
  exact⟨Nat.ne_of_lt (Nat.lt_of_lt_of_le (Heap.lt_size e) hC),fun x c q=>f4 x c (ok.sub I q)⟩
 bs:=I.bs
 bsz:=Nat.le_trans I.ok.bsz I.sz
 noex:=fun b o e hb=>by
  obtain⟨_,_,_,f3,_,_⟩:=f b hb
  rcases f3 with z | z
  ·exact I.ok.noex b o e z
  ·exact absurd (Nat.lt_of_lt_of_le (Heap.lt_size e) (Nat.le_trans I.ok.bsz z)) (Nat.lt_irrefl _)
 exfs:=fun b hb hs=>by
  obtain⟨_,f1,f2,_,_,_⟩:=f b hb
  rcases List.mem_cons.mp (I.stkSub b hs)with e | e
  ·exact f1 e
  ·exact f2 e
 funs:=I.stack
 frf:=I.stkFree
theorem tq{s':Shared}{pins':List (Addr×Obj)}{m:Str→Option Value}(ok:aZ X scope js)(I:az X pins σ H s)(hC:s.heap.objs.size≤C)(f:∀b∈fp,iL X pins H b)(fo:∀b∈fp,∃o,s.heap.get? b=some o)
  (hos:s'.os=s.os) (hg:AllBare s'.gens) (u:Un (jq X.stack) fp H H' s.heap s'.heap) (hn:s'.heap.Ns C m) (hok:fR X.prog X.w H' s'.heap) (hCf:H' C=none)
  (hp:∀p∈pins',s'.heap.get? p.1=some p.2∧H' p.1=none∧p.1≠C∧p.1∉jq X.stack∧∀v,p.2.data≠.cell v) :
  az (jw X scope own js C s H fp (X.pn++pins) E) pins' (cσ own.length js σ) H' s':=by
 have Ok:=vc (own:=own) (E:=E) ok I hC f fo
 have cellAt:∀x c,X.env.cells.lookup x=some c→∀v,s.heap.IsCell c v→s'.heap.IsCell c v:=fun x c e v ⟨o,ho,hd⟩=>by
  have nx:c∉fp:=fun z=>by
   obtain⟨_,_,_,_,f4,_⟩:=f c z
   exact f4 x c e rfl
  obtain⟨sl,q⟩:=u.any ho (I.freeC x c e) nx
  exact⟨_,q,hd⟩
 refine⟨Ok,hos,hg,u,⟨m,hn,?_⟩,?_,hCf,?_,?_,hok,?_⟩
 ·intro i x v e1 e2 _
  have e1':(own++js.map fun j=>X.N.getD j "")[i]?=some x:=e1
  have e2':(List.replicate own.length none++js.map fun j=>σ.getD j none)[i]?=some (some v):=e2
  by_cases hi:i < own.length
  ·rw [List.getElem?_append_left (by simpa using hi),List.getElem?_replicate]at e2'
   split at e2'<;>cases e2'
  ·rw [List.getElem?_append_right (by omega),List.getElem?_map]at e1'
   rw [List.getElem?_append_right (by simpa using Nat.not_lt.mp hi),List.getElem?_map,List.length_replicate]at e2'
   cases hj:js[i - own.length]? with
   | none=>rw [hj]at e1';cases e1'
   | some j=>
    rw [hj]at e1' e2'
    have ex:X.N.getD j ""=x:=Option.some.inj e1'
    have ev:σ.getD j none=some v:=Option.some.inj e2'
    have hjm:j∈js:=List.mem_of_getElem? hj
    have hjl:j < σ.length:=by
     apply Classical.byContradiction
     intro h
     rw [List.getD_eq_getElem?_getD,List.getElem?_eq_none (Nat.not_lt.mp h)]at ev
     cases ev
    have hσ:σ[j]?=some (some v):=by
     rw [List.getD_eq_getElem?_getD,List.getElem?_eq_getElem hjl]at ev
     rw [List.getElem?_eq_getElem hjl]
     exact congrArg some ev
    have hNl:j < X.N.length:=by rw [←I.len];exact hjl
    have hN:X.N[j]?=some x:=by
     rw [List.getD_eq_getElem?_getD,List.getElem?_eq_getElem hNl]at ex
     rw [List.getElem?_eq_getElem hNl]
     exact congrArg some ex
    have hfr:scope.names.lookup x=some .free:=by rw [←ex];exact ok.js j hjm
    have hk:=ok.free _ (mem_of_lookup hfr) rfl
    obtain⟨m0,_,hl⟩:=I.loc
    obtain⟨w',r,l⟩:=hl j x v hN hσ (.inr hk)
    refine⟨w',r,?_⟩
    rcases l with⟨hk',_⟩ | ⟨_,c,hc,hz⟩
    ·have hk'':X.env.kindOf x=some .local:=hk'
     rcases hk with q | q
     ·exact absurd (hk''.symm.trans q) (by intro z;cases z)
     ·exact absurd (hk''.symm.trans q) (by intro z;cases z)
    ·obtain⟨c',hc'⟩:∃c',(d9 X.env.cells scope.names []).lookup x=some c':=gE (.inl (mem_of_lookup hfr))
     have e:=ok.sub I hc'
     rw [hc]at e
     cases e
     exact .inr ⟨ok.isFree hfr,c,hc',cellAt x c hc _ hz⟩
 ·intro x c e
  obtain⟨v,z⟩:=I.cell x c (ok.sub I e)
  exact⟨v,cellAt x c (ok.sub I e) v z⟩
 ·intro x c e
  obtain⟨v,o,ho,_⟩:=I.cell x c (ok.sub I e)
  refine u.free c o ho (I.freeC x c (ok.sub I e)) fun z=>?_
  obtain⟨_,_,_,_,f4,_⟩:=f c z
  exact f4 x c (ok.sub I e) rfl
 ·intro p hpm
  rcases List.mem_append.mp hpm with h | h
  ·have h':p∈X.pn++pins:=h
   obtain⟨e,n,ne,nf,d⟩:=I.pin p h'
   have nfr:p.1∉jq X.stack:=fun z=>by
    rcases List.mem_cons.mp (I.stkSub _ z)with q | q
    ·exact ne q
    ·exact nf q
   have nex:p.1∉fp:=fun z=>by
    obtain⟨_,_,_,_,_,f5⟩:=f p.1 z
    exact f5 p h' rfl
   exact⟨u.keep p.1 p.2 e n nfr nex,u.free p.1 p.2 e n nex,Nat.ne_of_lt (Nat.lt_of_lt_of_le (Heap.lt_size e) hC),nfr,d⟩
  ·exact hp p h
 ·show(List.replicate own.length none++js.map fun j=>σ.getD j none).length=(own++js.map fun j=>X.N.getD j "").length
  simp
theorem az.track{D:Addr}{ys:List V}{its:List Value}{n:Nat}(I:az X pins σ H s)(hn:H D=none)(ho:s.heap.get? D=some { cls:=.type "list",data:=.seq its.toArray n })(r:aC ys its)(hz:ys.length≤sizeLine)
  (h1:D∈X.ex∨X.s₀.heap.objs.size≤D) (hL:D≠X.env.locals) (h2:∀x c,X.env.cells.lookup x=some c→c≠D) (h3:∀p∈X.pn++pins,p.1≠D):az X pins σ (upd H D (.lst ys)) s:=by
 have ne:∀b o,H b=some o→b≠D:=fun b o e=>aq e hn
 refine I.step (h':=s.heap) (g':=s.gens) (d':=s.drawn) (t':=s.toks) (ch:=[D]) (fun b hb=>?_) (fun b o _ _ _ e _=>e) (fun b o _ _ _ e _=>⟨o.slots,e⟩) (fun b o hc _ n=>?_)
  (fun b o _ e=>⟨o,e⟩) (fun b xs e=>?_) (fun b o u e=>?_) (fun b ps e=>⟨#[],?_⟩) (fun _ z=>z) (fun b u e=>?_) I.bare
 ·have e:b=D:=by simpa using hb
  subst e
  exact⟨h1,hL,h2,h3⟩
 ·rw [ai (fun z=>hc (by simp [z]))];exact n
 ·rw [ai (ne _ _ e)];exact e
 ·rw [ai (ne _ _ e)];exact e
 ·rw [ai (ne _ _ e),e];simp
 ·by_cases hb:b=D
  ·subst hb
   rw [ae]at e
   cases e
   exact⟨hz,its,n,r,ho⟩
  ·rw [ai hb]at e
   exact(I.hok b u e).stay (fun c v _ q=>q) (fun c q=>by rw [ai (ne _ _ q)];exact q) fun c xs q=>by rw [ai (ne _ _ q)];exact q
end
structure yk(X:Cx)(pins:List (Addr×Obj))(C:Addr):Prop where
 ne:C≠X.env.locals
 old:C∈X.ex∨X.s₀.heap.objs.size≤C
 cells:∀x c,X.env.cells.lookup x=some c→c≠C
 pin:∀p∈X.pn++pins,p.1≠C
theorem yk.go{X:Cx}{pins:List (Addr×Obj)}{C:Addr}{σ:St}{H:Hp}{s:Shared}{h':Heap}(o:yk X pins C)(I:az X pins σ H s)(hn:H C=none)(sb:Heap.SameBut C s.heap h'):az X pins σ H { s with heap:=h' }:=
 I.turned (t':=s.toks) (fun b q hb e=>(sb.2 b hb).trans e) hn o.ne o.old o.cells o.pin
section
variable {prog:Program} {w:World} {A:Around} {R:Result→Shared→Prop} {s:Shared}
theorem mw{elt target iter:Expr}{ifs:List Expr}{scope:Scope}{pos:Pos}{it acc:Value}{env:Env}(I:Nat→Shared→Prop)
  (turn:∀n s,I n s→wpAny (model prog w) A (pyNext it) (fun r s₁=>match r with
   | none=>R (.ok .next) s₁
   | some v=>wpAny (model prog w) A (letOwnedTupleGo target it v) (fun _ s₁'=>wpAny (model prog w) A (assign target env v) (fun _ s₂=>
     wpAny (model prog w) A (forIn ifs true fun c r=>if r=true then do let ok ←isTrue c env (eval c env);pure (ForInStep.yield ok)else pure (ForInStep.yield r)) (fun ok s₃=>
      if ok=true then wpAny (model prog w) A (eval elt env) (fun x s₄=>
       wpAny (model prog w) A (call (.builtin "list.append") [acc,x]) (fun _ s₅=>∃m,m < n∧I m s₅) (notedBy (model prog w) A env fun e s'=>R (.error e) s') s₄) (notedBy (model prog w) A env fun e s'=>R (.error e) s') s₃
      else ∃m,m < n∧I m s₃) (notedBy (model prog w) A env fun e s'=>R (.error e) s') s₂) (notedBy (model prog w) A env fun e s'=>R (.error e) s') s₁') (notedBy (model prog w) A env fun e s'=>R (.error e) s') s₁)
    (notedBy (model prog w) A env fun e s'=>R (.error e) s') s)
  (n:Nat) (h:I n s) :
  codeAny (model prog w) A (.compLoop (.ListComp elt [⟨target,iter,ifs,0⟩] scope pos) 0 it acc env) R s:=by
 refine codeAny_loop rfl I (fun n s hI=>?_) n h
 show wpAny _ A ((compTurn (.ListComp elt [⟨target,iter,ifs,0⟩] scope pos) 0 it acc env).onRaise (fun x=>do noteFrame x env;theTreesLotGoes x)) _ _ s
 refine wpAny_noted ?_
 rw [compTurn_list]
 refine wpAny_bind (wpAny_standAt (wpAny_bind (wpAny_mono (turn n s hI) (fun r s₁ h₁=>?_) fun _ _ h'=>h')))
 cases r with
 | none=>exact wpAny_pure h₁
 | some v=>
  refine wpAny_bind (wpAny_mono h₁ (fun _ s₁' h₁'=>?_) fun _ _ h'=>h')
  refine wpAny_bind (wpAny_mono h₁' (fun _ s₂ h₂=>wpAny_bind (wpAny_mono h₂ (fun ok s₃ h₃=>?_) fun _ _ h'=>h')) fun _ _ h'=>h')
  cases ok with
  | false=>exact wpAny_pure ⟨rfl,h₃⟩
  | true=>
   exact wpAny_bind (wpAny_bind (wpAny_mono h₃ (fun x s₄ h₄=>wpAny_bind (wpAny_mono h₄ (fun _ s₅ h₅=>wpAny_pure (wpAny_pure ⟨rfl,h₅⟩)) fun _ _ h'=>h')) fun _ _ h'=>h'))
end
def zr(X:Cx)(ifs:List Expr)(t:TT):Prop:=
 ∀(pins:List (Addr×Obj)) (s:Shared) (σ:St) (H:Hp) (Q:Bool→Hp→Prop),az X pins σ H s→t σ H Q→
  wpAny (model X.prog X.w) X.A (forIn ifs true fun c r=>if r=true then do let ok ←isTrue c X.env (eval c X.env);pure (ForInStep.yield ok)else pure (ForInStep.yield r)) (TP X pins σ Q) X.xe s
def zc:TT:=fun _ H Q=>Q true H
theorem cD{X:Cx}:zr X [] zc:=fun pins s σ H Q I h=>wpAny_tests_nil ⟨H,I,h⟩
def x9(n:Nat)(js:List Nat)(wi:TI)(g:TG)(tt:TT)(te:TE)(σ:St)(H:Hp)(F:List V→Hp→Prop):Prop:=wi σ H fun J H1=>∃W:Nat→Nat→List V→Hp→Prop,(∃m,W 0 m [] H1)∧∀i m ys H,W i m ys H→
 (J.stop i H∧F ys H)∨
 (J.go i H∧ys.length < sizeLine∧∃N:List V→Hp→Prop,(∀ys' H',N ys' H'→∃m',m' < m∧W (i+1) m' ys' H')∧∀x H',J.yld i H x H'→g x (cσ n js σ) H' fun σ2 H2=>tt σ2 H2 fun b H3=>if b=true then te σ2 H3 fun y H4=>N (ys++[y]) H4 else N ys H3)
def uI(n:Nat)(js:List Nat)(wi:TI)(g:TG)(tt:TT)(te:TE):TE:=fun σ H Q=>x9 n js wi g tt te σ H fun ys H=>∀p,H p=none→Q (.ref p) (upd H p (.lst ys))
section
variable {X:Cx} {scope:Scope} {own:List Str} {js:List Nat} {tg iter elt:Expr} {ifs:List Expr} {wi:TI} {g:TG} {tt:TT} {te:TE} {pos:Pos}
abbrev jR:Value→Shared→Prop:=fun _ _=>False
theorem iR{pins:List (Addr×Obj)}{σ:St}{H2:Hp}{s2:Shared}{it:Addr}{fp:List Addr}{tn:Nat→Heap→Prop}{J:It}{F:List V→Hp→Prop}{RR:Value→Addr→Result→Shared→Prop}{E:Value→Shared→Prop}
  (hc:X.calm=true) (ok:aZ X scope js)
  (hg:∀C s H ex pn,PG (jw X scope own js C s H ex pn jR) tg g) (ht:∀C s H ex pn,zr (jw X scope own js C s H ex pn jR) ifs tt) (he:∀C s H ex pn,PE (jw X scope own js C s H ex pn jR) elt te)
  (I2:az X pins σ H2 s2) (T:kE X.prog X.w X.K tg J fp it tn) (st2:tn 0 s2.heap) (f2:∀b∈fp,iL X pins H2 b) {W:Nat→Nat→List V→Hp→Prop} {m0:Nat} (w0:W 0 m0 [] H2)
  (turn:∀i m ys H,W i m ys H→(J.stop i H∧F ys H)∨
   (J.go i H∧ys.length < sizeLine∧∃N:List V→Hp→Prop,(∀ys' H',N ys' H'→∃m',m' < m∧W (i+1) m' ys' H')∧∀x H',J.yld i H x H'→g x (cσ own.length js σ) H' fun σ2 H2=>tt σ2 H2 fun b H3=>if b=true then te σ2 H3 fun y H4=>N (ys++[y]) H4 else N ys H3))
  (hRR:∀(D C:Addr) (s':Shared) (H':Hp) (ys:List V) (m:Str→Option Value),F ys H'→H' D=none→az X pins σ (upd H' D (.lst ys)) s'→s'.heap.Ns C m→
   yk X pins C→(upd H' D (.lst ys)) C=none→RR (.ref D) C (.ok .next) s') :
  wpAny (model X.prog X.w) X.A (newList []) (fun acc s₃=>wpAny (model X.prog X.w) X.A (newFunctionEnv scope X.env.globals (d9 X.env.cells scope.names []) [] X.env.qual none .none (some X.env)) (fun cenv s₄=>
   codeAny (model X.prog X.w) X.A (.compStart (.ListComp elt [⟨tg,iter,ifs,0⟩] scope pos) 0 (.ref it) acc { cenv with scope:=relabel scope X.env }) (RR acc cenv.locals) s₄) E s₃) E s2:=by
 refine wpAny_newObj_type (wpAny_newFunctionEnv ok.cell (by intro y hy;simp at hy) (fun h₁ hns₁ hsb₁=>?_) ok.kind)
 dsimp only at hns₁ hsb₁ ⊢
 generalize hP:s2.heap.push { cls:=.type "list",dict:=none,data:=.seq ([]:List Value).toArray }=P2 at hns₁ hsb₁ ⊢
 have hC:P2.objs.size=s2.heap.objs.size+1:=by rw [←hP,Heap.size_push]
 have hDC:s2.heap.objs.size≠P2.objs.size:=by rw [hC];exact Nat.ne_of_lt (Nat.lt_succ_self _)
 have hCle:s2.heap.objs.size≤P2.objs.size:=by rw [hC];exact Nat.le_succ _
 have below:∀b,b < s2.heap.objs.size→b≠P2.objs.size∧b≠s2.heap.objs.size:=fun b hb=>⟨by rw [hC];exact Nat.ne_of_lt (Nat.lt_succ_of_lt hb),Nat.ne_of_lt hb⟩
 have old:∀b o,s2.heap.get? b=some o→h₁.get? b=some o:=fun b o e=>hsb₁.extBut b o (below b (Heap.lt_size e)).1 (Heap.get?_push_of_some _ (hP▸Heap.get?_push_of_some _ e))
 have hacc:h₁.get? s2.heap.objs.size=some { cls:=.type "list",data:=.seq ([]:List Value).toArray 0 }:=hsb₁.extBut _ _ hDC (Heap.get?_push_of_some _ (hP▸Heap.get?_push_size _ rfl))
 generalize hDe:s2.heap.objs.size=D at hacc hDC hCle hC below
 generalize hCe:P2.objs.size=C at hns₁ hsb₁ hDC hCle hC below ⊢
 have fo:∀b∈fp,∃o,s2.heap.get? b=some o:=fun b hb=>let ⟨o,e,_⟩:=T.obj _ _ st2 b hb;⟨o,e⟩
 have fD:∀b∈fp,b≠D∧b≠C:=fun b hb=>by
  obtain⟨o,e⟩:=fo b hb
  have:=below b (hDe▸Heap.lt_size e)
  exact⟨this.2,this.1⟩
 have H2C:H2 C=none:=I2.hok.fresh (by rw [hDe];exact hCle)
 have H2D:H2 D=none:=I2.hok.fresh (by rw [hDe];exact Nat.le_refl _)
 have stkD:D∉jq X.stack:=fun z=>by
  have h1:=I2.nofs (a:=D) (by rw [hDe];exact Nat.le_refl _)
  rcases List.mem_cons.mp (I2.stkSub _ z)with q | q
  ·have:=I2.lt
   rw [←q,hDe]at this
   exact Nat.lt_irrefl _ this
  ·exact h1 q
 have neLoc:D≠X.env.locals∧C≠X.env.locals:=by
  have h1:=I2.lt
  rw [hDe]at h1
  exact⟨Nat.ne_of_gt h1,Nat.ne_of_gt (Nat.lt_of_lt_of_le h1 hCle)⟩
 have cellLt:∀x c,X.env.cells.lookup x=some c→c < D:=fun x c e=>by
  obtain⟨v,z⟩:=I2.cell x c e
  rw [←hDe]
  exact z.lt
 have pinLt:∀p∈X.pn++pins,p.1 < D:=fun p hp=>by rw [←hDe];exact Heap.lt_size (I2.pin p hp).1
 have hs0:X.s₀.heap.objs.size≤D:=by rw [←hDe];exact I2.sz
 have start:∀{s':Shared} {H':Hp} {m:Str→Option Value} {o:Obj},s'.os=s2.os→AllBare s'.gens→Un (jq X.stack) fp H2 H' s2.heap s'.heap→s'.heap.Ns C m→fR X.prog X.w H' s'.heap→H' C=none→s'.heap.get? D=some o→H' D=none→(∀v,o.data≠.cell v)→
   az (jw X scope own js C s2 H2 fp (X.pn++pins) jR) [(D,o)] (cσ own.length js σ) H' s':=fun {s' H' m o} a1 a2 a3 a4 a5 a6 a7 a8 a9=>
  tq ok I2 (by rw [hDe];exact hCle) f2 fo a1 a2 a3 a4 a5 a6 fun p hp=>by
   have e:p=(D,o):=by simpa using hp
   subst e
   exact⟨a7,a8,hDC,stkD,a9⟩
 have fpC:∀{H':Hp} {o:Obj},(∀b∈fp,H' b=none)→∀b∈fp,iL (jw X scope own js C s2 H2 fp (X.pn++pins) jR) [(D,o)] H' b:=fun {H' o} hn b hb=>by
  obtain⟨_,q1,q2,q3,q4,q5⟩:=f2 b hb
  refine⟨hn b hb,(fD b hb).2,fun z=>?_,.inl hb,fun x c e=>q4 x c (ok.sub I2 e),fun p hp=>?_⟩
  ·rcases List.mem_cons.mp (I2.stkSub b z)with e | e
   ·exact q1 e
   ·exact q2 e
  ·rcases List.mem_append.mp hp with h | h
   ·exact q5 p h
   ·have e:p=(D,o):=by simpa using h
    subst e
    exact(fD b hb).1.symm
 have nocell:∀(its:Array Value) (n:Nat) (v:Option Value),({ cls:=.type "list",data:=.seq its n }:Obj).data≠.cell v:=fun _ _ _ z=>by cases z
 have loop:∀s₃:Shared,s₃={ s2 with heap:=h₁,toks:=s2.toks+([]:List (Str×Value)).length }→
   codeAny (model X.prog X.w) X.A (.compLoop (.ListComp elt [⟨tg,iter,ifs,0⟩] scope pos) 0 (.ref it) (.ref D) (compEnvC scope (d9 X.env.cells scope.names []) C X.env)) (RR (.ref D) C) s₃:=by
  rintro s₃ rfl
  refine mw (fun n s'=>∃i ys its k H',az (jw X scope own js C s2 H2 fp (X.pn++pins) jR) [(D,{ cls:=.type "list",data:=.seq (its:List Value).toArray k })] (cσ own.length js σ) H' s'∧tn i s'.heap∧(∀b∈fp,H' b=none)∧
   W i n ys H'∧aC ys its∧ys.length≤sizeLine) ?_ m0 ⟨0,[],[],0,H2,start rfl I2.bare (Un.kept old) hns₁ (I2.hok.kept old) H2C hacc H2D (nocell _ _),T.keep _ _ _ st2 (fun b _ o e=>old b o e),fun b hb=>(f2 b hb).1,w0,.nil,Nat.zero_le _⟩
  rintro n s3 ⟨i,ys,its,k,H3,I3,st3,fr3,w3,rv,hz⟩
  rcases turn i n ys H3 w3 with⟨stop,q⟩ | ⟨go,hlt,N,hN,step⟩
  ·refine wpAny_mono (T.done (jw X scope own js C s2 H2 fp (X.pn++pins) jR) rfl rfl rfl hc i _ s3 _ H3 jR I3 (fpC fr3) st3 stop) (fun r s4 ⟨hr,I4⟩=>?_) fun _ _ f=>f.elim
   subst hr
   obtain⟨zD,nD,_⟩:=I4.pin (D,_) (List.mem_append_right _ List.mem_cons_self)
   obtain⟨m,hm,_⟩:=I4.loc
   have I5:az X pins σ H3 s4:=I2.call' I4.os I4.base I4.hok I4.bare fun b hb=>⟨(f2 b hb).2.2.2.1,(f2 b hb).2.1,(f2 b hb).2.2.2.2.1,(f2 b hb).2.2.2.2.2⟩
   have I6:az X pins σ (upd H3 D (.lst ys)) s4:=I5.track nD zD rv hz (.inr hs0) neLoc.1 (fun x c e=>Nat.ne_of_lt (cellLt x c e)) fun p hp=>Nat.ne_of_lt (pinLt p hp)
   have nC:H3 C=none:=I4.free
   exact hRR D C s4 H3 ys m q nD I6 hm ⟨neLoc.2,.inr (Nat.le_trans hs0 hCle),fun x c e=>Nat.ne_of_lt (Nat.lt_of_lt_of_le (cellLt x c e) hCle),fun p hp=>Nat.ne_of_lt (Nat.lt_of_lt_of_le (pinLt p hp) hCle)⟩ (by rw [ai (Ne.symm hDC)];exact nC)
  ·refine wpAny_mono (T.item (jw X scope own js C s2 H2 fp (X.pn++pins) jR) rfl rfl rfl hc i _ s3 _ H3 jR I3 (fpC fr3) st3 go) (fun r s4 ⟨u,hr,h4⟩=>?_) fun _ _ f=>f.elim
   subst hr
   refine wpAny_mono h4 (fun _ s5 ⟨x,H5,I5,r5,y5,st5,fr5⟩=>?_) fun _ _ f=>f.elim
   have I5':=I5.pinned (fpC fr5) (T.obj _ _ st5)
   refine wpAny_mono (hg _ _ _ _ _ _ s5 _ H5 x u _ I5' r5 (step x H5 y5)) (fun _ s6 ⟨σ6,H6,I6,q6⟩=>?_) fun _ _ f=>f.elim
   refine wpAny_mono (ht _ _ _ _ _ _ s6 σ6 H6 _ I6 q6) (fun b s7 ⟨H7,I7,q7⟩=>?_) fun _ _ f=>f.elim
   have back:∀{s8:Shared} {H8:Hp} {m':Nat} {ys':List V} {its':List Value} {k':Nat},az (jw X scope own js C s2 H2 fp (X.pn++pins) jR) [] σ6 H8 s8→s8.heap.get? D=some { cls:=.type "list",data:=.seq its'.toArray k' }→H8 D=none→
     (∀b∈fp,∀o,s5.heap.get? b=some o→s8.heap.get? b=some o)→(∀b∈fp,H8 b=none)→W (i+1) m' ys' H8→aC ys' its'→ys'.length≤sizeLine→
     ∃i ys its k H',az (jw X scope own js C s2 H2 fp (X.pn++pins) jR) [(D,{ cls:=.type "list",data:=.seq (its:List Value).toArray k })] (cσ own.length js σ) H' s8∧tn i s8.heap∧(∀b∈fp,H' b=none)∧W i m' ys H'∧aC ys its∧ys.length≤sizeLine:=
    fun {s8 H8 m' ys' its' k'} J zD nD kf fr w' rv' hz'=>by
     obtain⟨m,hm,_⟩:=J.loc
     exact⟨i+1,ys',its',k',H8,start J.os J.bare J.base hm J.hok J.free zD nD (nocell _ _),T.keep _ _ _ st5 kf,fr,w',rv',hz'⟩
   cases b with
   | false=>
    rw [if_neg Bool.false_ne_true]
    rw [if_neg Bool.false_ne_true]at q7
    obtain⟨m',hm',w'⟩:=hN _ _ q7
    have pD:=I7.pin (D,_) (List.mem_append_right _ (List.mem_append_left _ List.mem_cons_self))
    refine⟨m',hm',back (I7.pins_of (pins':=[]) fun p hp=>nomatch hp) pD.1 pD.2.1 (fun b hb o e=>(I7.pin (b,o) (List.mem_append_right _ (List.mem_append_right _ (cK hb e)))).1) (fun b hb=>?_) w' rv hz⟩
    obtain⟨o,e,_⟩:=T.obj _ _ st5 b hb
    exact(I7.pin (b,o) (List.mem_append_right _ (List.mem_append_right _ (cK hb e)))).2.1
   | true=>
    rw [if_pos rfl]
    rw [if_pos rfl]at q7
    refine wpAny_mono (he _ _ _ _ _ _ s7 σ6 H7 _ I7 q7) (fun yv s8 ⟨y,H8,I8,r8,q8⟩=>?_) fun _ _ f=>f.elim
    obtain⟨m',hm',w'⟩:=hN _ _ q8
    have pD:=I8.pin (D,_) (List.mem_append_right _ (List.mem_append_left _ List.mem_cons_self))
    refine append_at (hsz:=by rw [List.size_toArray,←rv.length];exact hz) pD.1 fun h9 sb9 z9=>?_
    have I8':az (jw X scope own js C s2 H2 fp (X.pn++pins) jR) [] σ6 H8 s8:=I8.pins_of fun p hp=>nomatch hp
    have I9:az (jw X scope own js C s2 H2 fp (X.pn++pins) jR) [] σ6 H8 { s8 with heap:=h9 }:=I8'.turned (t':=s8.toks) (it:=D) (fun b o hb e=>(sb9.2 b hb).trans e) pD.2.1 hDC (.inr (by show s2.heap.objs.size≤D;rw [hDe];exact Nat.le_refl _))
     (fun x c e=>Nat.ne_of_lt (cellLt x c (ok.sub I2 e))) fun p hp=>by
      rcases List.mem_append.mp hp with h | h
      ·exact Nat.ne_of_lt (pinLt p h)
      ·cases h
    refine⟨m',hm',back (its':=its++[yv]) (k':=k+1) I9 (by rw [z9];simp) pD.2.1 (fun b hb o e=>(sb9.2 b (fD b hb).1).trans (I8.pin (b,o) (List.mem_append_right _ (List.mem_append_right _ (cK hb e)))).1) (fun b hb=>?_) w' (rv.append (.cons r8 .nil)) (by simp;omega)⟩
    obtain⟨o,e,_⟩:=T.obj _ _ st5 b hb
    exact(I8.pin (b,o) (List.mem_append_right _ (List.mem_append_right _ (cK hb e)))).2.1
 exact codeAny_compStart_list (loop _ rfl) (T.self X.A 0 _ _ _ (T.keep _ _ _ st2 (fun b _ o e=>old b o e)) (loop _ rfl))
theorem dz(hc:X.calm=true)(hi:PI X tg iter wi)(ok:aZ X scope js)
  (hg:∀C s H ex pn,PG (jw X scope own js C s H ex pn jR) tg g) (ht:∀C s H ex pn,zr (jw X scope own js C s H ex pn jR) ifs tt) (he:∀C s H ex pn,PE (jw X scope own js C s H ex pn jR) elt te)
  (hs:∀x,foldedSetIterable iter X.env x=pure x:=by intro _;rfl):PE X (.ListComp elt [⟨tg,iter,ifs,0⟩] scope pos) (uI own.length js wi g tt te):=by
 intro pins s σ H Q I h
 rw [eval_ListComp]
 refine wpAny_comprehension_free (use:=none) rfl hs (fu (ok.clos I)) ok.kind ok.names (bz (hi pins s σ H _ I h) fun v s1 h1=>bz h1 fun itv s2 h2=>?_)
 obtain⟨it,fp,tn,J,H2,e,I2,T,st2,f2,W,⟨m0,w0⟩,turn⟩:=h2
 subst e
 refine iR (RR:=fun acc C=>compPost (model X.prog X.w) X.A X.xe none (EP X pins σ Q) acc C) hc ok hg ht he I2 T st2 f2 w0 turn ?_
 intro D C s' H' ys m q nD I6 hm o nC
 exact⟨m,hm,fun h' sb=>⟨.ref D,_,o.go I6 nC sb,rfl,q D nD⟩⟩
theorem fF{i:Nat}{x:Str}{py spos:Pos}(hN:X.N.Nodup)(hix:X.N[i]?=some x)(hx:uT X.env.scope x)(hc:X.calm=true)(hi:PI X tg iter wi)(ok:aZ X scope js)
  (hg:∀C s H ex pn,PG (jw X scope own js C s H ex pn jR) tg g) (ht:∀C s H ex pn,zr (jw X scope own js C s H ex pn jR) ifs tt) (he:∀C s H ex pn,PE (jw X scope own js C s H ex pn jR) elt te)
  (hsw:swapsWith (.ListComp elt [⟨tg,iter,ifs,0⟩] scope pos) (some (.Name x py)) spos.line X.env=pure true)
  (hf:X.fn x=true∨X.env.scope.names.lookup x=some .local:=by first | exact .inl rfl | exact .inr rfl | assumption)
  (hs:∀x,foldedSetIterable iter X.env x=pure x:=by intro _;rfl):PS X (.Assign [.Name x py] (.ListComp elt [⟨tg,iter,ifs,0⟩] scope pos) spos) (uF (uI own.length js wi g tt te) (mH i)):=by
 intro pins s σ H Dd I h
 rw [exec_Assign_Name_used _ _ _ _ hsw]
 refine wpAny_bind (wpAny_standAt (wpAny_bind ?_))
 show wpAny _ X.A (do let _ ←comprehension (.ListComp elt [⟨tg,iter,ifs,0⟩] scope pos) scope X.env _ (newList []) false (eval iter X.env) (some (assign (.Name x py) X.env))) _ _ s
 refine wpAny_bind (wpAny_mono (wpAny_comprehension_free (use:=some (assign (.Name x py) X.env)) (Q:=fun _ s'=>SP X pins Dd .next s') rfl hs (fu (ok.clos I)) ok.kind ok.names
  (bz (hi pins s σ H _ I h) fun v s1 h1=>bz h1 fun itv s2 h2=>?_)) (fun _ s' hq=>wpAny_pure (wpAny_pure hq)) fun _ _ e=>e)
 obtain⟨it,fp,tn,J,H2,e,I2,T,st2,f2,W,⟨m0,w0⟩,turn⟩:=h2
 subst e
 refine iR (RR:=fun acc C=>compPost (model X.prog X.w) X.A X.xe (some (assign (.Name x py) X.env)) (fun _ s'=>SP X pins Dd .next s') acc C) hc ok hg ht he I2 T st2 f2 w0 turn ?_
 intro D C s' H' ys m q nD I6 hm o nC
 show wpAny _ X.A (assign (.Name x py) X.env (.ref D)) _ _ _
 refine wpAny_assign_Name (km I6 hN hix hx (v:=.ref D) rfl (fun s2' I7 ⟨a,sa,ha⟩=>?_) hf)
 have hCa:C≠a:=by
  rcases ha with e | e
  ·rw [e];exact o.ne
  ·exact fun z=>o.cells x a e z.symm
 exact⟨m,hm.sameBut sa hCa,fun h' sb=>⟨_,_,o.go I7 nC sb,q D nD⟩⟩
end
end L2
namespace L2
open PySem PySem.Spec PyProof.Rows
def uX(X:Cx)(tg:Expr)(r:V→Hp→(It→Hp→Prop)→Prop):Prop:=
 ∀(pins:List (Addr×Obj)) (s:Shared) (σ:St) (H:Hp) (x:V) (v:Value) (R:It→Hp→Prop),az X pins σ H s→aG x v→r x H R→
  wpAny (model X.prog X.w) X.A (pyIter v) (yl X pins σ tg R) X.xe s
def uY(z:Str):It:=⟨fun i _=>i < z.length,fun i H x H'=>H'=H∧∃c,z.cps[i]?=some c∧x=.str ⟨#[c]⟩,fun i _=>i=z.length⟩
theorem kv{P:Program}{w:World}{A:Around}(hh:A.handled=none)(I:Addr)(z:Str)(t:Tok){ty:String}(hty:ty="str_ascii_iterator"∨ty="str_iterator"):
  Walks P w A I [I] [I] z.cps.size (SignAt z) (fun i h=>h.IsStrIter I ty z t i):=by
 rcases hty with e | e
 ·subst e;exact Walks.strAscii hh I z t
 ·subst e;exact Walks.strWide hh I z t
theorem uQ{P:Program}{w:World}{K:PySem.W.Frag}{tg:Expr}(z:Str)(t:Tok)(it:Addr){ty:String}(hty:ty="str_ascii_iterator"∨ty="str_iterator"):
  kE P w K tg (uY z) [it] it (fun i h=>h.IsStrIter it ty z t i) where
 mem:=by simp
 obj:=fun i h st b hb=>by
  have e:b=it:=by simpa using hb
  subst e
  obtain⟨o,e,c,d⟩:=st
  exact⟨o,e,fun v z=>by rw [d]at z;cases z⟩
 keep:=fun i h h' st k=>by
  obtain⟨o,e,r⟩:=st
  exact⟨o,k it (by simp) o e,r⟩
 item:=by
  intro X hP hw hK hc i pins s σ H E I hf st hg
  subst hP hw hK
  obtain⟨f0,f1,f2,f3,f4,f5⟩:=hf it (by simp)
  refine(kv (I.ok.hd hc) it z t hty).item i s _ _ hg st fun v h' tk hv st' kk=>?_
  obtain⟨c,u,hcz,rfl⟩:=hv
  have I1:az X pins σ H { s with heap:=h',toks:=tk }:=I.turned (fun b o hb e=>kk b o (by simpa using hb) e) f0 f1 f3 f4 f5
  obtain⟨o,e,cl,d⟩:=id st'
  refine⟨_,rfl,j6 (s:={ s with heap:=h',toks:=tk }) (n:=ty) e cl d (by rcases hty with q | q<;>(subst q;decide)) ⟨.str ⟨#[c]⟩,H,I1,⟨u,rfl⟩,⟨rfl,c,hcz,rfl⟩,st',fun b hb=>(hf b hb).1⟩⟩
 done:=by
  intro X hP hw hK hc i pins s σ H E I hf st hg
  subst hP hw hK
  obtain⟨f0,f1,f2,f3,f4,f5⟩:=hf it (by simp)
  have e:i=z.length:=hg
  subst e
  exact(kv (I.ok.hd hc) it z t hty).done s _ _ st fun h' tk kk=>⟨rfl,I.turned (fun b o hb e=>kk b o (by simpa using hb) e) f0 f1 f3 f4 f5⟩
 self:=fun A i s Q E st h=>by
  rcases hty with e | e
  ·subst e;exact wpAny_pyIter_striter_ascii st h
  ·subst e;exact wpAny_pyIter_striter_wide st h
section
variable {X:Cx} {tg:Expr}
theorem uX.or{r r':V→Hp→(It→Hp→Prop)→Prop}(h:uX X tg r)(h':uX X tg r'):uX X tg (fun x H R=>r x H R∨r' x H R):=by
 intro pins s σ H x v R I rx q
 rcases q with q | q
 ·exact h pins s σ H x v R I rx q
 ·exact h' pins s σ H x v R I rx q
theorem it_list:uX X tg (fun x H R=>∃a,x=.ref a∧(∃xs,aO X.K H a xs)∧R (so X.K a) H):=by
 intro pins s1 σ H1 x v R I1 r1 q1
 obtain⟨a,e,⟨xs,hq⟩,q⟩:=q1
 subst e
 cases r1
 obtain⟨its,rv,p,hz⟩:=I1.list hq
 refine wpAny_pyIter_list p.isList ?_
 refine⟨s1.heap.objs.size,[s1.heap.objs.size],_,_,H1,rfl,I1.kept (t':=s1.toks) fun b o e=>Heap.get?_push_of_some _ e,sf a _,⟨_,Heap.get?_push_size _ rfl,rfl,rfl⟩,fun b hb=>?_,q⟩
 have e:b=s1.heap.objs.size:=by simpa using hb
 subst e
 exact I1.fpOk (Nat.le_refl _) (I1.hok.fresh (Nat.le_refl _))
theorem it_tup:uX X tg (fun x H R=>∃a,x=.ref a∧(∃xs,cA X.K H a xs)∧R (zJ X.K a) H):=by
 intro pins s1 σ H1 x v R I1 r1 q1
 obtain⟨a,e,⟨xs,hq⟩,q⟩:=q1
 subst e
 cases r1
 obtain⟨its,rv,p,hz⟩:=I1.tuple hq
 refine wpAny_pyIter_tuple (show s1.heap.IsTuple a its.toArray from p) ?_
 refine⟨s1.heap.objs.size,[s1.heap.objs.size],_,_,H1,rfl,I1.kept (t':=s1.toks) fun b o e=>Heap.get?_push_of_some _ e,pL a _,⟨_,Heap.get?_push_size _ rfl,rfl,rfl⟩,fun b hb=>?_,q⟩
 have e:b=s1.heap.objs.size:=by simpa using hb
 subst e
 exact I1.fpOk (Nat.le_refl _) (I1.hok.fresh (Nat.le_refl _))
theorem xi:uX X tg (fun x H R=>∃z,x=.str z∧R (uY z) H):=by
 intro pins s1 σ H1 x v R I1 r1 q1
 obtain⟨z,e,q⟩:=q1
 subst e
 obtain⟨t,rfl⟩:=r1
 have fin:∀(o:Obj) (ty:String),(ty="str_ascii_iterator"∨ty="str_iterator")→(s1.heap.push o).IsStrIter s1.heap.objs.size ty z t 0→yl X pins σ tg R (.ref s1.heap.objs.size) { s1 with heap:=s1.heap.push o }:=fun o ty hty st=>by
  refine⟨s1.heap.objs.size,[s1.heap.objs.size],_,_,H1,rfl,I1.kept (t':=s1.toks) fun b o e=>Heap.get?_push_of_some _ e,uQ z t _ hty,st,fun b hb=>?_,q⟩
  have e:b=s1.heap.objs.size:=by simpa using hb
  subst e
  exact I1.fpOk (Nat.le_refl _) (I1.hok.fresh (Nat.le_refl _))
 cases ha:z.cps.all (· < 128)
 ·exact wpAny_pyIter_wide ha (fin _ _ (.inr rfl) ⟨_,Heap.get?_push_size _ rfl,rfl,rfl⟩)
 ·exact wpAny_pyIter_ascii ha (fin _ _ (.inl rfl) ⟨_,Heap.get?_push_size _ rfl,rfl,rfl⟩)
def v3(K:PySem.W.Frag):V→Hp→(It→Hp→Prop)→Prop:=fun x H R=>(∃a,x=.ref a∧(∃xs,aO K H a xs)∧R (so K a) H)∨(∃a,x=.ref a∧(∃xs,cA K H a xs)∧R (zJ K a) H)∨∃z,x=.str z∧R (uY z) H
theorem itA:uX X tg (v3 X.K):=it_list.or (it_tup.or xi)
def zx(r:V→Hp→(It→Hp→Prop)→Prop)(tl:TE):TI:=fun σ H R=>tl σ H fun x H1=>r x H1 R
theorem y3{l:Expr}{tl:TE}{r:V→Hp→(It→Hp→Prop)→Prop}(hr:uX X tg r)(hl:PE X l tl):PI X tg l (zx r tl):=by
 intro pins s σ H R I h
 exact bz (hl pins s σ H _ I h) fun v s1 ⟨x,H1,I1,r1,q1⟩=>hr pins s1 σ H1 x v R I1 r1 q1
theorem xJ{l:Expr}{tl:TE}(hl:PE X l tl):PI X tg l (zx (v3 X.K) tl):=y3 itA hl
theorem bK{K:PySem.W.Frag}{H:Hp}{a:Addr}{xs:List V}{R:It→Hp→Prop}(h:aO K H a xs)(q:R (so K a) H):v3 K (.ref a) H R:=.inl ⟨a,rfl,⟨xs,h⟩,q⟩
theorem v5{K:PySem.W.Frag}{H:Hp}{z:Str}{R:It→Hp→Prop}(q:R (uY z) H):v3 K (.str z) H R:=.inr (.inr ⟨z,rfl,q⟩)
end
theorem zw{z:Str}{g:TG}{tb:TS}{D:fk}{σ:St}{H:Hp}(Pv:Nat→St→Hp→Prop)(h0:Pv 0 σ H)
  (hs:∀i c σ H,z.cps.toList[i]?=some c→Pv i σ H→g (.str ⟨#[c]⟩) σ H fun σ2 H2=>tb { D with nx:=Pv (i+1),ct:=Pv (i+1),bk:=D.nx } σ2 H2) (hd:∀σ H,Pv z.length σ H→D.nx σ H) :
  ∃W:Nat→Nat→St→Hp→Prop,(∃m,W 0 m σ H)∧∀i m σ H,W i m σ H→
   ((uY z).stop i H∧D.nx σ H)∨((uY z).go i H∧∃N:St→Hp→Prop,(∀σ' H',N σ' H'→∃m',m' < m∧W (i+1) m' σ' H')∧∀x H',(uY z).yld i H x H'→g x σ H' fun σ2 H2=>tb { D with nx:=N,ct:=N,bk:=D.nx } σ2 H2):=by
 refine⟨fun i m σ H=>m=z.length - i∧i≤z.length∧Pv i σ H,⟨z.length,by simp,Nat.zero_le _,h0⟩,?_⟩
 rintro i m σ H ⟨rfl,hi,p⟩
 by_cases hlt:i < z.length
 ·refine .inr ⟨hlt,Pv (i+1),fun σ' H' p'=>⟨z.length - (i+1),by omega,rfl,hlt,p'⟩,fun x H' y=>?_⟩
  obtain⟨e,c,hc,e2⟩:=y
  subst e e2
  exact hs i c σ _ (by simpa using hc) p
 ·have e:i=z.length:=by omega
  subst e
  exact .inl ⟨rfl,hd σ H p⟩
section
variable {n:Nat} {js:List Nat} {g:TG} {tt:TT} {te:TE} {σ:St} {H:Hp} {F:List V→Hp→Prop}
abbrev pO(J:It)(n:Nat)(js:List Nat)(g:TG)(tt:TT)(te:TE)(σ:St)(H:Hp)(F:List V→Hp→Prop):Prop:=
 ∃W:Nat→Nat→List V→Hp→Prop,(∃m,W 0 m [] H)∧∀i m ys H,W i m ys H→(J.stop i H∧F ys H)∨
  (J.go i H∧ys.length < sizeLine∧∃N:List V→Hp→Prop,(∀ys' H',N ys' H'→∃m',m' < m∧W (i+1) m' ys' H')∧∀x H',J.yld i H x H'→g x (cσ n js σ) H' fun σ2 H2=>tt σ2 H2 fun b H3=>if b=true then te σ2 H3 fun y H4=>N (ys++[y]) H4 else N ys H3)
abbrev eu(n:Nat)(js:List Nat)(g:TG)(tt:TT)(te:TE)(σ:St)(x:V)(ys:List V)(H:Hp)(N:List V→Hp→Prop):Prop:=
 g x (cσ n js σ) H fun σ2 H2=>tt σ2 H2 fun b H3=>if b=true then te σ2 H3 fun y H4=>N (ys++[y]) H4 else N ys H3
theorem nR{lo:Int}{k:Nat}(Pv:Nat→List V→Hp→Prop)(hk:k≤sizeLine)(h0:Pv 0 [] H)(hn:∀i ys H,Pv i ys H→ys.length≤i)
  (hs:∀i ys H,i < k→Pv i ys H→eu n js g tt te σ (.int (lo+i)) ys H (Pv (i+1))) (hd:∀ys H,Pv k ys H→F ys H):pO (qr lo k) n js g tt te σ H F:=by
 refine⟨fun i m ys H=>m=k - i∧i≤k∧Pv i ys H,⟨k,by simp,Nat.zero_le _,h0⟩,?_⟩
 rintro i m ys H ⟨rfl,hi,p⟩
 by_cases hlt:i < k
 ·refine .inr ⟨hlt,Nat.lt_of_le_of_lt (hn i ys H p) (Nat.lt_of_lt_of_le hlt hk),Pv (i+1),fun σ' H' p'=>⟨k - (i+1),by omega,rfl,hlt,p'⟩,fun x H' y=>?_⟩
  obtain⟨e,y⟩:=y
  subst e y
  exact hs i ys _ hlt p
 ·have e:i=k:=by omega
  subst e
  exact .inl ⟨Nat.le_refl _,hd ys H p⟩
theorem qH{K:PySem.W.Frag}{a:Addr}{xs:List V}(Pv:Nat→List V→Hp→Prop)(hk:xs.length≤sizeLine)(h0:Pv 0 [] H)(hn:∀i ys H,Pv i ys H→ys.length≤i)(hl:∀i ys H,Pv i ys H→aO K H a xs)
  (hs:∀i x ys H,xs[i]?=some x→Pv i ys H→eu n js g tt te σ x ys H (Pv (i+1))) (hd:∀ys H,Pv xs.length ys H→F ys H):pO (so K a) n js g tt te σ H F:=by
 refine⟨fun i m ys H=>m=xs.length - i∧i≤xs.length∧Pv i ys H,⟨xs.length,by simp,Nat.zero_le _,h0⟩,?_⟩
 rintro i m ys H ⟨rfl,hi,p⟩
 have q:=hl i ys H p
 by_cases hlt:i < xs.length
 ·refine .inr ⟨⟨xs,xs[i],q,by simp [hlt]⟩,Nat.lt_of_le_of_lt (hn i ys H p) (Nat.lt_of_lt_of_le hlt hk),Pv (i+1),fun σ' H' p'=>⟨xs.length - (i+1),by omega,rfl,hlt,p'⟩,fun x H' y=>?_⟩
  obtain⟨e,y⟩:=y
  subst e
  exact hs i x ys _ (y xs q) p
 ·have e:i=xs.length:=by omega
  subst e
  exact .inl ⟨⟨xs,q,Nat.le_refl _⟩,hd ys H p⟩
theorem sA{z:Str}(Pv:Nat→List V→Hp→Prop)(hk:z.length≤sizeLine)(h0:Pv 0 [] H)(hn:∀i ys H,Pv i ys H→ys.length≤i)
  (hs:∀i c ys H,z.cps.toList[i]?=some c→Pv i ys H→eu n js g tt te σ (.str ⟨#[c]⟩) ys H (Pv (i+1))) (hd:∀ys H,Pv z.length ys H→F ys H):pO (uY z) n js g tt te σ H F:=by
 refine⟨fun i m ys H=>m=z.length - i∧i≤z.length∧Pv i ys H,⟨z.length,by simp,Nat.zero_le _,h0⟩,?_⟩
 rintro i m ys H ⟨rfl,hi,p⟩
 by_cases hlt:i < z.length
 ·refine .inr ⟨hlt,Nat.lt_of_le_of_lt (hn i ys H p) (Nat.lt_of_lt_of_le hlt hk),Pv (i+1),fun σ' H' p'=>⟨z.length - (i+1),by omega,rfl,hlt,p'⟩,fun x H' y=>?_⟩
  obtain⟨e,c,hc,e2⟩:=y
  subst e e2
  exact hs i c ys _ (by simpa using hc) p
 ·have e:i=z.length:=by omega
  subst e
  exact .inl ⟨rfl,hd ys H p⟩
end
theorem rZ(xs:Array Nat):∀(n:Nat) (acc:Array Nat),((List.replicate n xs).foldl (· ++ ·) acc).size=acc.size+n * xs.size
 | 0,acc=>by simp
 | n+1,acc=>by
  rw [List.replicate_succ,List.foldl_cons,rZ xs n,Array.size_append,Nat.succ_mul]
  omega
theorem j5(xs:Array Nat):∀(n:Nat) (acc:Array Nat),((List.replicate n xs).foldl (· ++ ·) acc).toList=acc.toList++(List.replicate n xs.toList).flatten
 | 0,acc=>by simp
 | n+1,acc=>by
  rw [List.replicate_succ,List.foldl_cons,j5 xs n,List.replicate_succ,List.flatten_cons,Array.toList_append,List.append_assoc]
def gf(z:Str)(k:Int):Str:=if k < 1 then Str.empty else if (k == 1 || z.length == 0)=true then z else⟨(List.replicate k.toNat z.cps).foldl (· ++ ·) #[]⟩
theorem oS(z:Str)(k:Int):(gf z k).cps.toList=(List.replicate k.toNat z.cps.toList).flatten:=by
 unfold gf
 split
 ·have e:k.toNat=0:=by omega
  rw [e];rfl
 ·split
  ·rename_i h1 h2
   rw [Bool.or_eq_true]at h2
   rcases h2 with h2 | h2
   ·have e:k=1:=by simpa using h2
    subst e
    simp
   ·have e:z.cps.size=0:=by simpa [Str.length]using h2
    have e2:z.cps.toList=[]:=by
     rw [←List.length_eq_zero_iff]
     simpa using e
    rw [e2]
    simp
  ·simpa using j5 z.cps k.toNat #[]
theorem nc(z:Str)(k:Int):(gf z k).length=k.toNat * z.length:=by
 have e:(gf z k).length=(gf z k).cps.toList.length:=by simp [Str.length]
 rw [e,oS,kQ]
 simp [Str.length]
section
variable {X:Cx} {a b c:Expr} {ta tb tc:TE} {pos:Pos}
theorem op_mulB:cc X (binaryOp .Mult) (rI IntMulOk fun i j=>.int (i * j)):=yO fun _ _ _ _ _ _ _ hc q=>mul_int q hc
theorem op_mul_str:cc X (binaryOp .Mult) (fun x y H Q=>∃z k,x=.str z∧y=.int k∧(-1000000≤k∧k≤1000000∧z.length≤16)∧Q (.str (gf z k)) H):=by
 intro pins s σ H x y v u Q I rx ry h
 obtain⟨z,k,rfl,rfl,⟨h2,h1,h3⟩,q⟩:=h
 obtain⟨t,rfl⟩:=rx
 obtain⟨t',rfl⟩:=ry
 have hs:sizeLine=16777216:=sizeLine_eq
 have hl:=nc z k
 have hb:z.length * k.toNat≤16 * 1000000:=Nat.mul_le_mul h3 (by omega)
 rw [Nat.mul_comm]at hl
 have fin:∀t' tk,EP X pins σ Q (.str (gf z k) t') { s with toks:=tk }:=fun t' tk=>⟨.str _,H,I.tok _,⟨t',rfl⟩,q⟩
 refine P.mul_str ?_ (fun h4 h5=>?_) (fun h4 h5=>?_) ?_
 ·have e1:¬k < -(2 ^ 63:Int):=by omega
  have e2:¬k≥2 ^ 63:=by omega
  rw [decide_eq_false e1,decide_eq_false e2];rfl
 ·have h6:(16:Int)≤(2 ^ 63 - 1) / k:=by
   rw [Int.le_ediv_iff_mul_le (by omega)]
   omega
  omega
 ·unfold Builtin.Str.tooLong
  exact decide_eq_false (by omega)
 ·unfold gf at fin hl
  by_cases h4:k < 1
  ·rw [if_pos h4]at fin ⊢
   exact⟨by decide,fin _ _⟩
  ·rw [if_neg h4]at fin hl ⊢
   by_cases h5:(k == 1 || z.length == 0)=true
   ·rw [if_pos h5]at fin ⊢
    exact fin t s.toks
   ·rw [if_neg h5]at fin hl ⊢
    exact⟨by omega,fin _ _⟩
def ij:R2:=fun x y H Q=>rI IntMulOk (fun i j=>.int (i * j)) x y H Q∨(∃z k,x=.str z∧y=.int k∧(-1000000≤k∧k≤1000000∧z.length≤16)∧Q (.str (gf z k)) H)∨wb x y H Q
theorem opMul:cc X (binaryOp .Mult) ij:=op_mulB.or (op_mul_str.or xG)
theorem m3{i j:Int}{H:Hp}{Q:VK}:ij (.int i) (.int j) H Q↔IntMulOk i j∧Q (.int (i * j)) H:=by
 simp [ij,rI,wb]
theorem m4{z:Str}{j:Int}{H:Hp}{Q:VK}:ij (.str z) (.int j) H Q↔(-1000000≤j∧j≤1000000∧z.length≤16)∧Q (.str (gf z j)) H:=by
 simp [ij,rI,wb]
def cU(K:PySem.W.Frag):R2:=fun x y H Q=>oP (fun i j=>.int (i+j)) x y H Q∨(∃i j,x=.str i∧y=.str j∧i.length+j.length≤sizeLine∧Q (.str (i++j)) H)∨vV x y H Q∨qa K x y H Q
theorem opAdd:cc X (binaryOp .Add) (cU X.K):=op_add.or (op_add_str.or (op_cat.or vK))
theorem rAddA_ii{K:PySem.W.Frag}{i j:Int}{H:Hp}{Q:VK}:cU K (.int i) (.int j) H Q↔Q (.int (i+j)) H:=by
 simp [cU,oP,vV,qa]
theorem uj{K:PySem.W.Frag}{i j:Str}{H:Hp}{Q:VK}:cU K (.str i) (.str j) H Q↔i.length+j.length≤sizeLine∧Q (.str (i++j)) H:=by
 simp [cU,oP,vV,qa]
def xU:V→Option Int→Option Int→Hp→VK→Prop:=fun x lo hi H Q=>∃z,x=.str z∧z.length≤sizeLine∧Q (.str (Txt.slice z lo hi)) H
theorem xZ:uU X xU:=by
 intro pins s σ H x v vl vu lo hi sl Q I rx hs pl pu h
 obtain⟨z,rfl,hz,q⟩:=h
 obtain⟨t,rfl⟩:=rx
 have fin:∀t' tk,EP X pins σ Q (.str (Txt.slice z lo hi) t') { s with toks:=tk }:=fun t' tk=>⟨.str _,H,I.tok _,⟨t',rfl⟩,q⟩
 refine⟨"str",_,F.slot_str_getitem.lookup,typeIs_str _ _ _,?_⟩
 cases pl with
 | none=>cases pu with
  | none=>exact wpAny_getItem_str_slice (l:=none) (u:=none) (st:=none) hs rfl (post_val_or_str ⟨Nat.le_trans (Txt.slice_le z _ _) hz,fun t' k=>fin t' k⟩)
  | int j u=>exact wpAny_getItem_str_slice (l:=none) (u:=some (j,u)) (st:=none) hs rfl (post_val_or_str ⟨Nat.le_trans (Txt.slice_le z _ _) hz,fun t' k=>fin t' k⟩)
 | int i u=>cases pu with
  | none=>exact wpAny_getItem_str_slice (l:=some (i,u)) (u:=none) (st:=none) hs rfl (post_val_or_str ⟨Nat.le_trans (Txt.slice_le z _ _) hz,fun t' k=>fin t' k⟩)
  | int j u'=>exact wpAny_getItem_str_slice (l:=some (i,u)) (u:=some (j,u')) (st:=none) hs rfl (post_val_or_str ⟨Nat.le_trans (Txt.slice_le z _ _) hz,fun t' k=>fin t' k⟩)
def rO(K:PySem.W.Frag):V→Option Int→Option Int→Hp→VK→Prop:=fun x lo hi H Q=>xT K x lo hi H Q∨xV K x lo hi H Q∨xU x lo hi H Q
theorem slA:uU X (rO X.K):=sl_list.or (sl_tup.or xZ)
theorem xS{K:PySem.W.Frag}{z:Str}{lo hi:Option Int}{H:Hp}{Q:VK}:rO K (.str z) lo hi H Q↔z.length≤sizeLine∧Q (.str (Txt.slice z lo hi)) H:=by
 simp [rO,xT,xV,xU]
theorem cX{K:PySem.W.Frag}{a:Addr}{xs:List V}{lo hi:Option Int}{H:Hp}{Q:VK}(h:aO K H a xs)(q:∀p,H p=none→Q (.ref p) (upd H p (.lst (gG xs lo hi)))):rO K (.ref a) lo hi H Q:=.inl ⟨a,xs,rfl,h,q⟩
theorem ixA:sr X (v7 X.K):=xj
theorem y7{K:PySem.W.Frag}{z:Str}{i:Int}{H:Hp}{Q:VK}:v7 K (.str z) (.int i) H Q↔z.length≤sizeLine∧∃c,et z.cps.toList i=some c∧Q (.str ⟨#[c]⟩) H:=by
 simp [v7,xP,xR,xQ]
theorem bf{K:PySem.W.Frag}{p:Addr}{xs:List V}{i:Int}{v:V}{H:Hp}{Q:VK}(h:aO K H p xs)(hv:et xs i=some v)(q:Q v H):v7 K (.ref p) (.int i) H Q:=.inl ⟨p,xs,i,v,rfl,rfl,h,hv,q⟩
theorem qe{K:PySem.W.Frag}{p:Addr}{xs:List V}{i:Int}{v:V}{H:Hp}{Q:VK}(h:cA K H p xs)(hv:et xs i=some v)(q:Q v H):v7 K (.ref p) (.int i) H Q:=.inr (.inl ⟨p,xs,i,v,rfl,rfl,h,hv,q⟩)
theorem opEq:cc X (compareOp .Eq) ke:=yS
theorem opNe:cc X (compareOp .NotEq) kg:=yU
theorem tZ:cc X (compareOp .Lt) (oP fun i j=>.bl (decide (i < j))):=yT
theorem lE{i j:Int}{H:Hp}{Q:VK}:ke (.int i) (.int j) H Q↔Q (.bl (decide (i=j))) H:=by simp [ke,nr]
theorem lH{i j:Int}{H:Hp}{Q:VK}:kg (.int i) (.int j) H Q↔Q (.bl (!decide (i=j))) H:=by simp [kg,nr]
theorem lF{i j:Str}{H:Hp}{Q:VK}:ke (.str i) (.str j) H Q↔Q (.bl (decide (i=j))) H:=by simp [ke,nr]
theorem lI{i j:Str}{H:Hp}{Q:VK}:kg (.str i) (.str j) H Q↔Q (.bl (!decide (i=j))) H:=by simp [kg,nr]
theorem uo{i j:Bool}{H:Hp}{Q:VK}:ke (.bl i) (.bl j) H Q↔Q (.bl (decide (i=j))) H:=by simp [ke,nr]
theorem uu{i j:Bool}{H:Hp}{Q:VK}:kg (.bl i) (.bl j) H Q↔Q (.bl (!decide (i=j))) H:=by simp [kg,nr]
def uq(K:PySem.W.Frag):R2:=fun x y H Q=>(∃i j,x=.str i∧y=.str j∧Q (.bl (!(Builtin.Str.occurrences j i 0 j.length 1).isEmpty)) H)∨yo K false x y H Q
def fh(K:PySem.W.Frag):R2:=fun x y H Q=>(∃i j,x=.str i∧y=.str j∧Q (.bl (!(!(Builtin.Str.occurrences j i 0 j.length 1).isEmpty))) H)∨yo K true x y H Q
theorem zW:cc X (compareOp .In) (uq X.K):=op_in_str.or rJ
theorem vI:cc X (compareOp .NotIn) (fh X.K):=op_notin_str.or ly
theorem xO{K:PySem.W.Frag}{c:Nat}{z:Str}{H:Hp}{Q:VK}:uq K (.str ⟨#[c]⟩) (.str z) H Q↔Q (.bl (decide (c∈z.cps.toList))) H:=by
 simp [uq,yo,StrLaws.found_one]
theorem rN{K:PySem.W.Frag}{c:Nat}{z:Str}{H:Hp}{Q:VK}:fh K (.str ⟨#[c]⟩) (.str z) H Q↔Q (.bl (!decide (c∈z.cps.toList))) H:=by
 have e':(Builtin.Str.occurrences z ⟨#[c]⟩ 0 z.length 1).isEmpty=!decide (c∈z.cps.toList):=by
  rw [←StrLaws.found_one z c,Bool.not_not]
 simp [fh,yo,e']
theorem qA:bu X (.builtin "len") (fun xs H Q=>(∃z,xs=[.str z]∧z.length≤sizeLine∧Q (.int z.length) H)∨∃p ys,xs=[.ref p]∧(aO X.K H p ys∨cA X.K H p ys)∧Q (.int ys.length) H):=call_len_str.or kJ
theorem call_int_text:bu X (.type "int") (fun xs H Q=>∃z n,xs=[.str z]∧intText? z=some n∧z.length≤640∧Q (.int n) H):=by
 intro pins s σ H xs us Q I r h
 obtain⟨z,n,rfl,hn,hl,q⟩:=h
 obtain⟨u,rfl,ru⟩:=du r
 obtain⟨t,rfl⟩:=ru
 exact PySem.W.KIN.call_text hn hl ⟨.int n,H,I.tok _,⟨_,rfl⟩,q⟩
theorem dQ:bu X (.type "int") (fun xs H Q=>(∃z n,xs=[.str z]∧intText? z=some n∧z.length≤640∧Q (.int n) H)∨((∃i,xs=[.int i]∧Q (.int i) H)∨∃k,xs=[.bl k]∧Q (.int (if k then 1 else 0)) H)):=call_int_text.or qy
theorem dD:qv X "str.startswith" (fun x xs H Q=>∃z y,x=.str z∧xs=[.str y]∧Q (.bl (Txt.startswith z y)) H):=by
 intro pins s σ H x xs v us Q I rx r h
 obtain⟨z,y,rfl,rfl,q⟩:=h
 obtain⟨t,rfl⟩:=rx
 obtain⟨u,rfl,t',rfl⟩:=du r
 exact SC.startswith ⟨.bl _,H,I,rfl,q⟩
theorem ml:bu X (.builtin "isinstance") (fun xs H Q=>∃x n t b,xs=[x,.ty n]∧fS X.K H x t∧PySem.W.kitOne X.K t (.type n)=some b∧Q (.bl b) H):=by
 intro pins s σ H xs us Q I r h
 obtain⟨x,n,t,b,rfl,ty,e,q⟩:=h
 obtain⟨u,w',rfl,ru,rw'⟩:=nG r
 cases rw'
 exact rh I ru ty e fun tk=>⟨.bl b,H,I.tok _,rfl,q⟩
theorem jn:∀{bs:List Bool} {us:List Value},aC (bs.map V.bl) us→us=bs.map Value.bool
 | [],_,.nil=>rfl
 | b::bs,_,.cons r t=>by
  have e:_=Value.bool b:=r
  rw [List.map_cons,e,jn t]
theorem rP(bs:List Bool):(List.range bs.length).all (fun i=>bs.getD i true)=bs.all id:=by
 induction bs with
 | nil=>rfl
 | cons b bs ih=>
  rw [List.length_cons,List.range_succ_eq_map,List.all_cons,List.all_map,List.all_cons,←ih]
  rfl
theorem qw(hc:X.calm=true):bu X (.builtin "all") (fun xs H Q=>∃(p:Addr) (bs:List Bool),xs=[.ref p]∧aO X.K H p (bs.map V.bl)∧Q (.bl (bs.all id)) H):=by
 intro pins s σ H xs us Q I r h
 obtain⟨p,bs,rfl,hq,q⟩:=h
 obtain⟨u,rfl,ru⟩:=du r
 cases ru
 obtain⟨its,rv,pl,hz⟩:=I.list hq
 have e:=jn rv
 subst e
 have hh:X.A.in1.handled=none:=I.ok.hd hc
 refine call_all_walk (wpAny_pyIter_list pl.isList ⟨s.heap.objs.size,[s.heap.objs.size,p],[s.heap.objs.size],_,_,_,fun i=>bs.getD i true,rfl,Walks.list hh _ p ?_ _,⟨⟨_,Heap.get?_push_size _ rfl,rfl,rfl⟩,pl.isList.push _⟩,?_,fun h' tk hk=>?_⟩)
 ·obtain⟨o,n,e,_⟩:=pl
  exact Nat.ne_of_lt (Heap.lt_size e)
 ·intro i v s' Q' E' hv hQ'
  have hv':(bs.map Value.bool)[i]?=some v:=by simpa using hv
  rw [List.getElem?_map]at hv'
  cases hb:bs[i]? with
  | none=>rw [hb]at hv';cases hv'
  | some b=>
   rw [hb]at hv'
   cases hv'
   have hQ2:Q' (bs.getD i true) s':=hQ'
   rw [List.getD_eq_getElem?_getD,hb]at hQ2
   exact wpAny_truthy_bool hQ2
 ·refine⟨.bl (bs.all id),H,I.kept (h':=h') (t':=tk) fun b o e=>hk b o ?_ (Heap.get?_push_of_some _ e),?_,q⟩
  ·intro z
   have z':b=s.heap.objs.size:=by simpa using z
   exact absurd (Heap.lt_size e) (by rw [z'];exact Nat.lt_irrefl _)
  ·show Value.bool _=Value.bool _
   rw [←rP]
   simp
theorem jJ{x:Str}{v:V}{pos:Pos}(h:∃u,X.mg x=some u∧aG v u)(hg:Gl X x:=by rfl)(hd:(x == ("__debug__":Str))=false:=by decide):PE X (.Name x pos) (tC v):=
 let ⟨_,hm,r⟩:=h;vP hg hm r hd
end
structure cE(P:Program)(w:World)(K:PySem.W.Frag)(mg:Str→Option Value)(base:Heap)(x:Str)(k:Nat)(ps:List Str)(sp:Sp):Prop where
 ex:∃(f:Addr) (fd:FuncData),aE P w K mg base b8 k f fd ps sp∧mg x=some (.ref f)∧PySem.W.keepIn K (.ref f)=true∧bT K fd ps []
section
variable {X:Cx} {k:Nat} {ps:List Str} {sp:Sp} {x:Str} {p pos:Pos} {e:Expr} {es:List Expr} {t:TA}
theorem aK(d:cE X.prog X.w X.K X.mg X.base x k ps sp)(hr:bO k X.A)(hg:Gl X x)(ha:PA X (e::es) t)(hdb:(x == ("__debug__":Str))=false:=by decide)
  (he:starEach (e::es) X.env=(false,eval e X.env)::starEach es X.env:=by rfl) (hpl:(backTo pos (starEach es X.env)).any (·.1)=false:=by rfl):PE X (.Call (.Name x p) (e::es) [] pos) (ko sp [] E0 t):=
 let ⟨_,_,F,hm,hk,hb⟩:=d.ex;p7 F hr hg hm hk hb .nil ka ha hdb he hpl
end
end L2
namespace L3
open PySem PySem.Spec PyProof.Rows
section
variable {prog:Program} {w:World} {A:Around} {E:Value→Shared→Prop} {s:Shared}
theorem kU{it t:Addr}{i:Nat}{its:Array Value}{x:Value}{Q:Value→Shared→Prop}(qi:s.heap.IsTupleIter it t i)(qt:s.heap.IsTuple t its)(qx:its[i]?=some x)
  (hQ:∀h',h'.IsTupleIter it t (i+1)→Heap.SameBut it s.heap h'→Q x { s with heap:=h' }):wpAny (model prog w) A (Builtin.SmallTypes.nextOf (.ref it)) Q E s:=by
 obtain⟨oi,qo,qc,qd⟩:=id qi
 obtain⟨ot,qot,_,nt,qdt⟩:=qt
 unfold Builtin.SmallTypes.nextOf
 refine wpAny_bind (wpAny_callSpecial?_slot (name:=Str.ofString "__next__") qi.typeIs F.slot_tuple_iterator_next (wpAny_call_entry F.slot_tuple_iterator_next qi.typeIs F.entry_tuple_iterator_next ?_ (F.args_tuple_iterator_next_1 _)))
 show wpAny _ _ (field (.ref it) 0 >>= _) _ _ s
 refine wpAny_bind (wpAny_field qo qd (x:=.ref t) rfl ?_)
 show wpAny _ _ (if (Value.ref t == Value.none)=true then _ else _) _ _ s;rw [if_neg (show ¬((Value.ref t == Value.none)=true)from Bool.false_ne_true)]
 show wpAny _ _ (field (.ref it) 1 >>= _) _ _ s
 refine wpAny_bind (wpAny_field qo qd (x:=.int i 0) rfl ?_)
 show wpAny _ _ (seqItems? (.ref t) >>= _) _ _ s;refine wpAny_bind (wpAny_seqItems qot qdt ?_)
 simp only [Int.toNat_natCast,qx]
 refine wpAny_bind (wpAny_setField qo qd (by simp) (wpAny_pure ⟨x,rfl,wpAny_pure (hQ _ ?_ (Heap.SameBut.update ..))⟩))
 exact⟨_,Heap.get?_update_self _ qo (Obj.isFreed_of_fields (Obj.data_mapFields qd _)),(Obj.cls_mapFields ..).trans qc,by rw [Obj.data_mapFields qd];simp [rawInt]⟩
theorem mT{it t:Addr}{i:Nat}{its:Array Value}{Q:Value→Shared→Prop}(hh:A.handled=none)(qi:s.heap.IsTupleIter it t i)(qt:s.heap.IsTuple t its)(qx:its[i]?=none)
  (hE:∀h' e,Heap.ExtBut it s.heap h'→(∃o,h'.get? e=some o∧o.cls=.type "StopIteration")→E (.ref e) { s with heap:=h' }):wpAny (model prog w) A (Builtin.SmallTypes.nextOf (.ref it)) Q E s:=by
 obtain⟨oi,qo,qc,qd⟩:=id qi
 obtain⟨ot,qot,_,nt,qdt⟩:=qt
 unfold Builtin.SmallTypes.nextOf
 refine wpAny_bind (wpAny_callSpecial?_slot (name:=Str.ofString "__next__") qi.typeIs F.slot_tuple_iterator_next (wpAny_call_entry F.slot_tuple_iterator_next qi.typeIs F.entry_tuple_iterator_next ?_ (F.args_tuple_iterator_next_1 _)))
 show wpAny _ _ (field (.ref it) 0 >>= _) _ _ s
 refine wpAny_bind (wpAny_field qo qd (x:=.ref t) rfl ?_)
 show wpAny _ _ (if (Value.ref t == Value.none)=true then _ else _) _ _ s;rw [if_neg (show ¬((Value.ref t == Value.none)=true)from Bool.false_ne_true)]
 show wpAny _ _ (field (.ref it) 1 >>= _) _ _ s
 refine wpAny_bind (wpAny_field qo qd (x:=.int i 0) rfl ?_)
 show wpAny _ _ (seqItems? (.ref t) >>= _) _ _ s;refine wpAny_bind (wpAny_seqItems qot qdt ?_)
 simp only [Int.toNat_natCast,qx]
 refine wpAny_bind (wpAny_rule (wpAny_bind (wpAny_setField qo qd (by simp) ?_)))
 show wpAny _ _ (newExc (.type "StopIteration") [] >>= _) _ _ _;refine wpAny_bind ?_;simp only [newExc,newTuple]
 refine wpAny_bind (wpAny_newObj_type ?_ (by size_fits));refine wpAny_bind (m:=firstArgMember _ _) (wpAny_of_eq (a:=Value.none) (by first | rfl | (simp only [firstArgMember];rfl)) ?_)
 refine wpAny_newObj_type ?_ (by size_fits);simp only [raiseNew];refine wpAny_bind (wpAny_handled ?_)
 first | rw [show A.in1.handled=none from hh] | rw [hh]
 exact wpAny_bind (wpAny_pure (wpAny_throw (hE _ _ (((Heap.SameBut.update ..).extBut.push _).push _) ⟨_,Heap.get?_push_size _ rfl,rfl⟩)))
end
theorem draws_tuple{prog:Program}{w:World}{A:Around}(hh:A.handled=none)(it t:Addr)(hne:t≠it)(its:Array Value):
  Draws prog w A it [it,t] its.size (fun i v=>its[i]?=some v) (fun i h=>h.IsTupleIter it t i∧h.IsTuple t its) where
 live:=fun _ _ st=>let ⟨o,ho,_⟩:=st.1;⟨o,ho⟩
 frame:=fun _ _ _ st hk=>⟨st.1.at fun o e=>hk it (by simp) o e,let ⟨o,ho,r⟩:=st.2;⟨o,hk t (by simp) o ho,r⟩⟩
 item:=fun i s Q E hi st hQ=>kU st.1 st.2 (x:=its[i]) (by simp [hi]) fun h' qi qs=>hQ _ h' s.toks (by simp [hi]) ⟨qi,st.2.extBut qs.extBut hne⟩ qs
 done:=fun s Q E st hE=>mT hh st.1 st.2 (by simp) hE
section
variable {prog:Program} {w:World} {A:Around} {E:Value→Shared→Prop} {s:Shared} {z TI TO i1 i2:Addr} {f1 f2:List Addr} {n1 n2 k:Nat} {P1 P2:Nat→Value→Prop} {S1 S2:Nat→Heap→Prop} {a b:Value}
theorem far{it c:Addr}{fp:List Addr}{n i:Nat}{P:Nat→Value→Prop}{St:Nat→Heap→Prop}{h h':Heap}(D:Draws prog w A it fp n P St)(st:St i h)(sb:Heap.SameBut c h h')(hc:c∉fp):St i h':=
 D.frame i h h' st fun d hd o e=>(sb.2 d fun q=>hc (q▸hd)).trans e
end
def itRec(l:Bool)(a:Addr):Obj:={ cls:=.type (if l then "list_iterator" else "tuple_iterator"),data:=.fields #[.ref a,.int 0 0] }
def IsSeq(l:Bool)(h:Heap)(a:Addr)(xs:Array Value):Prop:=if l=true then h.IsList a xs else h.IsTuple a xs
theorem IsSeq.push{l:Bool}{h:Heap}{a:Addr}{xs:Array Value}(q:IsSeq l h a xs)(o:Obj):IsSeq l (h.push o) a xs:=by
 cases l
 ·exact Heap.IsTuple.push (show h.IsTuple a xs from q) o
 ·exact Heap.IsList.push (show h.IsList a xs from q) o
theorem i0{prog:Program}{w:World}{A:Around}{E:Value→Shared→Prop}{s:Shared}{l:Bool}{a:Addr}{xs:Array Value}{Q:Value→Shared→Prop}(q:IsSeq l s.heap a xs)(h:Q (.ref s.heap.objs.size) { s with heap:=s.heap.push (itRec l a) }):wpAny (model prog w) A (pyIter (.ref a)) Q E s:=by
 cases l
 ·exact wpAny_pyIter_tuple (show s.heap.IsTuple a xs from q) h
 ·exact wpAny_pyIter_list (show s.heap.IsList a xs from q) h
section
variable {prog:Program} {w:World} {A:Around} {E:Value→Shared→Prop} {s:Shared}
end
end L3
namespace L2
open PySem PySem.Spec PyProof.Rows
def jo(K:PySem.W.Frag)(l:Bool)(H:Hp)(a:Addr)(xs:List V):Prop:=if l=true then aO K H a xs else cA K H a xs
def jt(l:Bool)(h:Heap)(it a:Addr)(i:Nat):Prop:=if l=true then h.IsListIter it a i else h.IsTupleIter it a i
theorem jt.at{l:Bool}{h h':Heap}{it a:Addr}{i:Nat}(x:jt l h it a i)(e:∀o,h.get? it=some o→h'.get? it=some o):jt l h' it a i:=by
 cases l
 ·exact Heap.IsTupleIter.at (show h.IsTupleIter it a i from x) e
 ·exact Heap.IsListIter.at (show h.IsListIter it a i from x) e
theorem jt.rec{l:Bool}{h:Heap}{it a:Addr}(e:h.get? it=some (L3.itRec l a)):jt l h it a 0:=by
 cases l
 ·exact⟨_,e,rfl,rfl⟩
 ·exact⟨_,e,rfl,rfl⟩
theorem jt.obj{l:Bool}{h:Heap}{it a:Addr}{i:Nat}(x:jt l h it a i):∃o,h.get? it=some o∧∀v,o.data≠.cell v:=by
 cases l
 ·obtain⟨o,e,_,d⟩:=(show h.IsTupleIter it a i from x)
  exact⟨o,e,fun v z=>by rw [d]at z;cases z⟩
 ·obtain⟨o,e,_,d⟩:=(show h.IsListIter it a i from x)
  exact⟨o,e,fun v z=>by rw [d]at z;cases z⟩
theorem jZ{P:Program}{w:World}{A:Around}(hh:A.handled=none)(l:Bool)(it a:Addr)(hne:a≠it)(its:Array Value):
  Draws P w A it [it,a] its.size (fun i v=>its[i]?=some v) (fun i h=>jt l h it a i∧L3.IsSeq l h a its):=by
 cases l
 ·exact L3.draws_tuple hh it a hne its
 ·exact Draws.list hh it a hne its
theorem az.seqB{X:Cx}{pins:List (Addr×Obj)}{σ:St}{H:Hp}{s:Shared}{l:Bool}{a:Addr}{xs:List V}(I:az X pins σ H s)(h:jo X.K l H a xs):∃its:List Value,aC xs its∧L3.IsSeq l s.heap a its.toArray∧xs.length≤sizeLine:=by
 cases l
 ·obtain⟨its,r,p,z⟩:=I.tuple (show cA X.K H a xs from h)
  exact⟨its,r,p,z⟩
 ·obtain⟨its,r,p,z⟩:=I.list (show aO X.K H a xs from h)
  exact⟨its,r,p.isList,z⟩
theorem az.seqB_inj{X:Cx}{pins:List (Addr×Obj)}{σ:St}{H:Hp}{s:Shared}{l:Bool}{a:Addr}{xs ys:List V}(I:az X pins σ H s)(h:jo X.K l H a xs)(h':jo X.K l H a ys):xs=ys:=by
 cases l
 ·exact I.tuple_inj (show cA X.K H a xs from h) h'
 ·exact I.list_inj (show aO X.K H a xs from h) h'
theorem az.seqB_ne{X:Cx}{pins:List (Addr×Obj)}{σ:St}{H:Hp}{s:Shared}{l:Bool}{a b:Addr}{xs:List V}(I:az X pins σ H s)(h:jo X.K l H a xs)(f:iL X pins H b):a≠b:=by
 obtain⟨f0,_,_,f3,_,_⟩:=f
 have tr:∀{o:HO},Rd H a o→a≠b:=fun {o} r=>by
  rcases r with r | ⟨_,r⟩
  ·exact aq r f0
  ·exact aq r f0
 have kb:∀{o:Obj},X.K.lookup a=some o→a≠b:=fun {o} hk=>by
  have hb:=I.ok.mod.kin a o hk
  rcases f3 with z | z
  ·exact fun q=>I.ok.noex a o hb (q▸z)
  ·exact Nat.ne_of_lt (Nat.lt_of_lt_of_le (Heap.lt_size hb) (Nat.le_trans I.ok.bsz z))
 cases l
 ·rcases(show cA X.K H a xs from h)with h | ⟨o,_,_,hk,_⟩
  ·exact tr h
  ·exact kb hk
 ·rcases(show aO X.K H a xs from h)with h | ⟨o,_,_,hk,_⟩
  ·exact tr h
  ·exact kb hk
def Itz(K:PySem.W.Frag)(l1 l2:Bool)(a1 a2:Addr):It:=
 ⟨fun i H=>∃xs ys x y,jo K l1 H a1 xs∧jo K l2 H a2 ys∧xs[i]?=some x∧ys[i]?=some y,
  fun i H v H'=>∃p x y,v=.ref p∧H p=none∧H'=upd H p (.tup [x,y])∧(∀xs,jo K l1 H a1 xs→xs[i]?=some x)∧∀ys,jo K l2 H a2 ys→ys[i]?=some y,
  fun i H=>∃xs ys,jo K l1 H a1 xs∧jo K l2 H a2 ys∧(i=xs.length∨(i < xs.length∧i=ys.length))⟩
def zR(K:PySem.W.Frag)(ta:TA):TI:=fun σ H R=>ta σ H fun vs H1=>∃l1 l2 a1 a2,vs=[.ref a1,.ref a2]∧(∃xs,jo K l1 H1 a1 xs)∧(∃ys,jo K l2 H1 a2 ys)∧R (Itz K l1 l2 a1 a2) H1
end L2
namespace L2
open PySem PySem.Spec PyProof.Rows
def Ite(K:PySem.W.Frag)(a:Addr):It:=
 ⟨fun i H=>∃xs x,aO K H a xs∧xs[i]?=some x,
  fun i H v H'=>∃p x,v=.ref p∧H p=none∧H'=upd H p (.tup [.int i,x])∧∀xs,aO K H a xs→xs[i]?=some x,
  fun i H=>∃xs,aO K H a xs∧i=xs.length⟩
def yD(K:PySem.W.Frag)(ta:TA):TI:=fun σ H R=>ta σ H fun vs H1=>∃a,vs=[.ref a]∧(∃xs,aO K H1 a xs)∧R (Ite K a) H1
end L2
namespace L2
open PySem PySem.W PySem.Spec PySem.Calls PyProof.Rows
def GB:Nat:=1048576
theorem fW:∀{ns:List Int},WData.weightAll (ns.map WData.int)≤2 ^ 20→∀x∈ns,x.natAbs < 2 ^ GB
 | [],_,_,h=>nomatch h
 | n::ns,hw,x,h=>by
  have e:WData.weightAll ((n::ns).map WData.int)=(if n == 0 then 0 else n.natAbs.log2+1)+1+WData.weightAll (ns.map WData.int):=by
   simp only [List.map_cons,WData.weightAll,WData.weight]
  rw [e]at hw
  rcases List.mem_cons.mp h with rfl | h
  ·by_cases h0:x=0
   ·subst h0;exact Nat.two_pow_pos _
   ·have hb:(x == 0)=false:=by simpa using h0
    rw [hb]at hw
    have hl:x.natAbs.log2 < GB:=by
     have:(2:Nat) ^ 20=GB:=by decide
     rw [←this]
     simp only [Bool.false_eq_true,if_false]at hw
     omega
    exact(Nat.log2_lt (by omega)).mp hl
  ·exact fW (ns:=ns) (by omega) x h
theorem rY{ns:List Int}(h:WData.layableAll [WData.list (ns.map WData.int)]=true):∀x∈ns,x.natAbs < 2 ^ GB:=by
 have h1:=(layableW_iff.mp (layableW_arg h _ List.mem_cons_self)).2.2
 exact fW (by simpa only [WData.weight]using h1)
theorem walk_ofB{l:PySem.W.OpenLaw}{n k:Nat}{q:Program}{loose:List Str}{XP:(Str→Option Value)→Heap→Prop}{YP:World→Heap→Prop}{d:DefRec}{K:Params→PySem.W.Frag}{CX:World→mi}{sp:World→Sp}{x:Str}
  (hn:l.most=some n) (hn2:n≤sizeLine) (hdf:d.params.defaults=[]) (hr:bO k callerA)
  (hY:∀(w:World) (h:Heap),YP w h→(K w.params).In h)
  (F:∀(w:World) (mg:Str→Option Value) (fa:Addr) (h:Heap),(K w.params).In h→h.Ns mainGlobals mg→mg d.name=some (.ref fa)→
   ∃fd:FuncData,(∀(s:Shared) (u:Value),BindsTo s fd ⟨[u],[]⟩ [(x,u)])∧∀base:Heap,(K w.params).In base→base.Ns mainGlobals mg→aE l.prog w (K w.params) mg base (CX w) k fa fd [x] (sp w))
  (hsp:∀(w:World) (H:Hp) (a:Addr) (ns:List Int),ns.length≤n→(∀x∈ns,x.natAbs < 2 ^ GB)→uZ H→aO (K w.params) H a (ns.map V.int)→sp w [.ref a] H (fun v _=>v=.bl true) fun _ _ _=>False)
  (hCX:∀(w:World) (H:Hp) (s:Shared) (e:Value) (s':Shared),CX w [] H s (fun _ _ _=>False) e s'→False) :
  PySem.W.WalkO q loose XP YP l.row.toRowW d [] (fun f vs=>PySem.call f vs):=by
 intro w s₀ s₁ mg mb G Y fa o pm cd doc dV kV ho hd hcd hD hmg hg args vals as hpre hlay hrd hwl hlo
 obtain rfl:dV=.none:=Dflts.none hD hdf
 obtain rfl:kV=.none:=Dflts.noKw hD
 obtain⟨a,vs,ns,rfl,rfl,hobj,hints,hlen⟩:=Att.script_of hn hpre hwl
 have KX:=hY w _ Y
 obtain⟨fd,hb,hF⟩:=F w mg fa _ KX G.T.g hmg
 refine enter_call (codeAny_mono (mQ KX G.T.g G.T.b G.T.builtins G.T.nolimit hg hobj hints (Nat.le_trans hlen hn2) hr hF hb (fun H hO hS=>hsp w H a ns hlen (rY hlay) hO hS) fun H e s'=>hCX w H s₁ e s') fun r s' hq=>?_)
 obtain⟨rfl,h2,h3,h4⟩:=hq
 exact⟨.inl ⟨.bool true,.bool true,[],rfl,fun _=>rfl,.bool true,Att.post_true l _,fun _=>⟨List.Pairwise.nil,fun _ hm=>(nomatch hm)⟩⟩,h2,h3,h4⟩
structure bp(K:PySem.W.Frag)(x:Str)(st:Stmt)(f:Addr)(fd:FuncData):Prop where
 ns:PySem.W.nsIn K mainGlobals x=some (some (.ref f))
 fn:cR K x x st f fd
theorem defAt_mk{K:PySem.W.Frag}{x:Str}{st:Stmt}{f:Addr}{oc:Value}{od an:Option Addr}{osl:Array (Option Value)}{kV doc pm cdv ct:Value}(a:PySem.W.nsIn K mainGlobals x=some (some (.ref f)))
  (l:K.lookup f=some ⟨oc,od,.func (PySem.W.fnOf x x (bV st) (bq st) (ak st) .none kV doc pm an cdv ct),osl⟩) (c:PySem.W.codeIn K cdv x=true) (k:PySem.W.keepIn K (.ref f)=true):∃f fd,bp K x st f fd:=
 ⟨f,_,a,fun_mk l c k⟩
theorem bp.df{P:Program}{w:World}{K:PySem.W.Frag}{mg:Str→Option Value}{base h:Heap}{x:Str}{st:Stmt}{f:Addr}{fd:FuncData}{k:Nat}{ps:List Str}{sp:Sp}(A:bp K x st f fd)(X:K.In h)(G:h.Ns mainGlobals mg)
  (ok:aE P w K mg base b8 k f fd ps sp) (b:bT K fd ps []):cE P w K mg base x k ps sp:=⟨f,fd,ok,PySem.W.mg_of X G A.ns,A.fn.kp,b⟩
end L2
namespace L2
open PySem PySem.Spec PyProof.Rows
def qu(g:TG)(tb:TS)(D:fk)(σ:St)(J:It)(H:Hp):Prop:=∃W:Nat→Nat→St→Hp→Prop,(∃m,W 0 m σ H)∧∀i m σ H,W i m σ H→
 (J.stop i H∧D.nx σ H)∨(J.go i H∧∃N:St→Hp→Prop,(∀σ' H',N σ' H'→∃m',m' < m∧W (i+1) m' σ' H')∧∀x H',J.yld i H x H'→g x σ H' fun σ2 H2=>tb { D with nx:=N,ct:=N,bk:=D.nx } σ2 H2)
theorem wk(wi:TI)(g:TG)(tb:TS)(D:fk)(σ:St)(H:Hp):zf wi g tb D σ H=wi σ H (fun J H1=>qu g tb D σ J H1):=rfl
def pM(n:Nat)(js:List Nat)(g:TG)(tt:TT)(te:TE)(σ:St)(F:List V→Hp→Prop)(J:It)(H:Hp):Prop:=pO J n js g tt te σ H F
theorem uJ(n:Nat)(js:List Nat)(wi:TI)(g:TG)(tt:TT)(te:TE)(σ:St)(H:Hp)(Q:VK):
  uI n js wi g tt te σ H Q=wi σ H (fun J H1=>pM n js g tt te σ (fun ys H2=>∀p,H2 p=none→Q (.ref p) (upd H2 p (.lst ys))) J H1):=rfl
section
variable {g:TG} {tb:TS} {D:fk} {σ:St} {H:Hp} {K:PySem.W.Frag} {a:Addr} {xs:List V}
theorem cJ(Pv:Nat→St→Hp→Prop)(h0:Pv 0 σ H)(hl:∀i σ H,i≤xs.length→Pv i σ H→aO K H a xs)
  (hs:∀i x σ H,xs[i]?=some x→Pv i σ H→g x σ H fun σ2 H2=>tb { D with nx:=Pv (i+1),ct:=Pv (i+1),bk:=D.nx } σ2 H2) (hd:∀σ H,Pv xs.length σ H→D.nx σ H):qu g tb D σ (so K a) H:=sX Pv h0 hl hs hd
theorem fC{lo:Int}{n:Nat}(Pv:Nat→St→Hp→Prop)(h0:Pv 0 σ H)
  (hs:∀i σ H,i < n→Pv i σ H→g (.int (lo+i)) σ H fun σ2 H2=>tb { D with nx:=Pv (i+1),ct:=Pv (i+1),bk:=D.nx } σ2 H2) (hd:∀σ H,Pv n σ H→D.nx σ H):qu g tb D σ (qr lo n) H:=qZ Pv h0 hs hd
theorem ro(h:aO K H a [])(hd:D.nx σ H):qu g tb D σ (so K a) H:=⟨fun i m σ' H'=>i=0∧σ'=σ∧H'=H,⟨0,rfl,rfl,rfl⟩,by
 rintro i m σ' H' ⟨rfl,rfl,rfl⟩
 exact .inl ⟨⟨[],h,Nat.le_refl _⟩,hd⟩⟩
end
section
variable {n:Nat} {js:List Nat} {g:TG} {tt:TT} {te:TE} {σ:St} {H:Hp} {F:List V→Hp→Prop} {K:PySem.W.Frag} {a:Addr} {xs:List V}
theorem ez{lo:Int}{k:Nat}(Pv:Nat→List V→Hp→Prop)(hk:k≤sizeLine)(h0:Pv 0 [] H)(hn:∀i ys H,Pv i ys H→ys.length≤i)
  (hs:∀i ys H,i < k→Pv i ys H→eu n js g tt te σ (.int (lo+i)) ys H (Pv (i+1))) (hd:∀ys H,Pv k ys H→F ys H):pM n js g tt te σ F (qr lo k) H:=nR Pv hk h0 hn hs hd
theorem cv(Pv:Nat→List V→Hp→Prop)(hk:xs.length≤sizeLine)(h0:Pv 0 [] H)(hn:∀i ys H,Pv i ys H→ys.length≤i)(hl:∀i ys H,Pv i ys H→aO K H a xs)
  (hs:∀i x ys H,xs[i]?=some x→Pv i ys H→eu n js g tt te σ x ys H (Pv (i+1))) (hd:∀ys H,Pv xs.length ys H→F ys H):pM n js g tt te σ F (so K a) H:=qH Pv hk h0 hn hl hs hd
theorem qF{z:Str}(Pv:Nat→List V→Hp→Prop)(hk:z.length≤sizeLine)(h0:Pv 0 [] H)(hn:∀i ys H,Pv i ys H→ys.length≤i)
  (hs:∀i c ys H,z.cps.toList[i]?=some c→Pv i ys H→eu n js g tt te σ (.str ⟨#[c]⟩) ys H (Pv (i+1))) (hd:∀ys H,Pv z.length ys H→F ys H):pM n js g tt te σ F (uY z) H:=sA Pv hk h0 hn hs hd
end
theorem xa{CX:mi}{P:Program}{w:World}{K:PySem.W.Frag}{mg:Str→Option Value}{base:Heap}{N:List Str}{qual:Str}{scope:Scope}{f:Addr}{cd:Value}{A:Around}{outer:List Env}{s:Shared}{H:Hp}{E:XK}:(gH CX P w K mg base N qual scope f cd A outer s H E).K=K:=rfl
theorem yx{X:Cx}{scope:Scope}{own:List Str}{js:List Nat}{C:Addr}{s:Shared}{H:Hp}{ex:List Addr}{pn:List (Addr×Obj)}{E:Value→Shared→Prop}:(jw X scope own js C s H ex pn E).K=X.K:=rfl
theorem sC(xs:List V){p:Int}(hp:0≤p):gG xs (some p) (some (p+1))=match xs[p.toNat]? with | none=>[] | some x=>[x]:=by
 unfold gG
 obtain⟨k,rfl⟩:=Int.eq_ofNat_of_zero_le hp
 have e1:((k:Int)+1)=((k+1:Nat):Int):=by omega
 rw [e1,HT.sIx_nat,HT.sIx_nat,Int.toNat_natCast]
 by_cases h:k < xs.length
 ·rw [List.getElem?_eq_getElem h,Nat.min_eq_left (by omega),Nat.min_eq_left (by omega),List.drop_eq_getElem_cons h,show k+1 - k=1 by omega]
  rfl
 ·rw [List.getElem?_eq_none (by omega),Nat.min_eq_right (by omega),Nat.min_eq_right (by omega),Nat.sub_self]
  rfl
theorem w9{α:Type}{xs:List α}{i:Int}(h0:0≤i)(h1:i < xs.length):∃v,et xs i=some v∧xs[i.toNat]?=some v:=by
 obtain⟨k,rfl⟩:=Int.eq_ofNat_of_zero_le h0
 have hk:k < xs.length:=by omega
 exact⟨xs[k],aU (List.getElem?_eq_getElem hk),by simp [hk]⟩
theorem pQ{α:Type}{xs:List α}{c m:Int}(hm:0 < m)(h:m≤xs.length):∃v,et xs (c % m)=some v:=by
 have h1:=Int.emod_nonneg c (show m≠0 by omega)
 have h2:=Int.emod_lt_of_pos c hm
 obtain⟨v,e,_⟩:=w9 (xs:=xs) h1 (by omega)
 exact⟨v,e⟩
theorem au{H:Hp}{q:Addr}{o:HO}(h:H q=none):ar H (upd H q o):=fun b o' e=>by rw [ai (aq e h)];exact e
theorem ar.upd{H H1:Hp}{q:Addr}{o:HO}(s:ar H H1)(h:H1 q=none):ar H (upd H1 q o):=s.trans (au h)
theorem ar.tup{K:PySem.W.Frag}{H H':Hp}{a:Addr}{xs:List V}(e:ar H H')(h:cA K H a xs):cA K H' a xs:=by
 rcases h with h | h
 ·rcases h with h | ⟨o,h⟩
  ·exact .inl (.inl (e _ _ h))
  ·exact .inl (.inr ⟨o,e _ _ h⟩)
 ·exact .inr h
end L2
namespace L2
open PySem PySem.Spec PyProof.Rows
theorem aN(z:Str):z.length=z.cps.toList.length:=by simp [Str.length]
theorem pb{z:Str}{i:Int}(h:0≤i):(Txt.slice z (some i) none).cps.toList=z.cps.toList.drop i.toNat:=by
 by_cases hi:i≤z.cps.toList.length
 ·rw [show Txt.slice z (some i) none=StrLaws.sliceText z (some i) none from rfl,StrLaws.sliceText_from ⟨h,hi⟩]
  show((z.cps.toList.drop i.toNat).take _)=_
  skip
  exact List.take_of_length_le (by rw [List.length_drop];omega)
 ·have e:Builtin.Str.strSliceIndices (some i) none 1 z.length=Builtin.Str.strSliceIndices (some (z.length:Int)) none 1 z.length:=sliceIdx_lo_beyond z.length (by rw [aN];omega)
  have e2:Txt.slice z (some i) none=Txt.slice z (some (z.length:Int)) none:=by unfold Txt.slice;rw [e]
  rw [e2,show Txt.slice z (some (z.length:Int)) none=StrLaws.sliceText z (some (z.length:Int)) none from rfl,StrLaws.sliceText_from ⟨by omega,by rw [aN];omega⟩]
  show((z.cps.toList.drop _).take _)=_
  rw [aN,Int.toNat_natCast,List.drop_length,List.take_nil,List.drop_eq_nil_of_le (by omega)]
theorem pB(z:Str)(c:Nat):Txt.startswith z ⟨#[c]⟩=decide (z.cps.toList.head?=some c):=by
 obtain⟨⟨l⟩⟩:=z
 unfold Txt.startswith
 rw [StrLaws.subAt_eq]
 cases l with
 | nil=>simp [Str.length]
 | cons a l=>
  simp [Str.length]
  rw [Bool.eq_iff_iff]
  simp
theorem gu(x y:Str):decide (x=y)=decide (x.cps.toList=y.cps.toList):=by
 by_cases h:x=y
 ·subst h;simp
 ·rw [decide_eq_false h]
  symm
  apply decide_eq_false
  intro e
  apply h
  obtain⟨⟨a⟩⟩:=x
  obtain⟨⟨b⟩⟩:=y
  simp at e
  subst e
  rfl
theorem dR(x y:Str):(x++y).cps.toList=x.cps.toList++y.cps.toList:=by
 show(x.cps++y.cps).toList=_
 rw [Array.toList_append]
theorem u6{α:Type}{xs:List α}{i:Int}{v:α}{P:α→Prop}(h:∀x∈xs,P x)(e:et xs i=some v):P v:=by
 unfold et at e
 cases hj:wJ xs.length i with
 | none=>rw [hj]at e;cases e
 | some j=>rw [hj]at e;exact h v (List.mem_of_getElem? e)
theorem bA{α:Type}{xs:List α}{v:α}(h:xs.head?=some v):et xs 0=some v:=by
 cases xs with
 | nil=>cases h
 | cons a l=>cases h;exact aU (j:=0) rfl
section
variable {X:Cx}
end
end L2
namespace L2
open PySem PySem.Spec PyProof.Rows
section
variable {X:Cx}
theorem xA(K:PySem.W.Frag)(h:X.K=K:=by rfl):cc X (binaryOp .Add) (cU K):=h▸opAdd
theorem yQ(K:PySem.W.Frag)(h:X.K=K:=by rfl):cc X (compareOp .In) (uq K):=h▸zW
theorem t4(K:PySem.W.Frag)(h:X.K=K:=by rfl):cc X (compareOp .NotIn) (fh K):=h▸vI
theorem g9(K:PySem.W.Frag)(h:X.K=K:=by rfl):uU X (rO K):=h▸slA
theorem bR(K:PySem.W.Frag)(h:X.K=K:=by rfl):sr X (v7 K):=h▸ixA
theorem bI(K:PySem.W.Frag){tg l:Expr}{tl:TE}(hl:PE X l tl)(h:X.K=K:=by rfl):PI X tg l (zx (v3 K) tl):=h▸xJ hl
theorem aS(K:PySem.W.Frag)(h:X.K=K:=by rfl):bu X (.builtin "len") (fun xs H Q=>(∃z,xs=[.str z]∧z.length≤sizeLine∧Q (.int z.length) H)∨∃p ys,xs=[.ref p]∧(aO K H p ys∨cA K H p ys)∧Q (.int ys.length) H):=h▸qA
theorem bF(K:PySem.W.Frag)(h:X.K=K:=by rfl):bu X (.builtin "isinstance") (fun xs H Q=>∃x n t b,xs=[x,.ty n]∧fS K H x t∧PySem.W.kitOne K t (.type n)=some b∧Q (.bl b) H):=h▸ml
theorem e7(K:PySem.W.Frag)(hc:X.calm=true)(h:X.K=K:=by rfl):bu X (.builtin "all") (fun xs H Q=>∃(p:Addr) (bs:List Bool),xs=[.ref p]∧aO K H p (bs.map V.bl)∧Q (.bl (bs.all id)) H):=h▸qw hc
theorem cH(K:PySem.W.Frag)(h:X.K=K:=by rfl):bu X (.type "list") (fun xs H Q=>∃p ys,xs=[.ref p]∧(aO K H p ys∨cA K H p ys)∧∀l,H l=none→Q (.ref l) (upd H l (.lst ys))):=h▸kK
theorem c7(K:PySem.W.Frag){es:List Expr}{k:Nat}{t:u3}{n:Nat}{pos:Pos}(hc:X.calm=true)(h:yq X es t)(hK:X.K=K:=by rfl)
  (hn:(assignEach es X.env).length=n:=by rfl) (hst:(assignEach es X.env).findIdx? (·.1)=none:=by rfl):PG X (.Tuple es k pos) (xh K n t):=hK▸xI hc h hn hst
theorem bH(K:PySem.W.Frag){o e:Expr}{es:List Expr}{to:TE}{t:TA}{name:Str}{apos cpos:Pos}{T id:String}{r:V→List V→Hp→VK→Prop}(pa:PlainAttrs T)(slot:Slot T name id)(hty:typeOf (.builtin id)=pure (.type "method_descriptor"))(hm:qv X id r)(ho:PE X o to)(ha:PA X (e::es) t)(hK:X.K=K:=by rfl)
  (hbase:attributeBase o name X.env (eval o X.env)=eval o X.env:=by rfl)
  (hfew:((backTo cpos (starEach (e::es) X.env)).all (fun x=>!x.1) && (backToKw cpos (keywordEach [] X.env)).all (fun x=>x.1.isSome)
   && decide ((e::es).length+([]:List Keyword).length+(if ([]:List Keyword).isEmpty then 0 else 1) < 30))=true:=by rfl)
  (hline:(apos.endLine == cpos.line)=true:=by rfl) (hs:starEach (e::es) X.env=(false,eval e X.env)::starEach es X.env:=by rfl) (hplain:(backTo cpos (starEach es X.env)).any (·.1)=false:=by rfl) :
  PE X (.Call (.Attribute o name apos) (e::es) [] cpos) (zZ K T r to t):=hK▸yW pa slot hty hm ho ha hbase hfew hline hs hplain
def cV:Expr→Option V
 | .Constant (.int i) _ _=>some (.int i)
 | .Constant (.str x) _ _=>some (.str x)
 | .Constant (.bool b) _ _=>some (.bl b)
 | .Constant .none _ _=>some .non
 | _=>none
def Ae(vs:List V):TA:=fun _ H Q=>Q vs H
theorem yX{e:Expr}{v:V}(h:cV e=some v):PE X e (tC v):=by
 unfold cV at h
 split at h
 ·cases h;exact af
 ·cases h;exact aT
 ·cases h;exact eL
 ·cases h;exact bh
 ·cases h
theorem wg{e:Expr}{es:List Expr}{v:V}(h:cV e=some v):starEach (e::es) X.env=(false,eval e X.env)::starEach es X.env:=by
 unfold cV at h
 split at h<;>first | rfl | cases h
theorem j9:∀{es:List Expr} {vs:List V},es.map cV=vs.map some→PA X es (Ae vs)
 | [],[],_=>ah
 | [],_::_,h=>by cases h
 | _::_,[],h=>by cases h
 | e::es,v::vs,h=>by
  have h1:cV e=some v:=(List.cons.inj h).1
  have h2:es.map cV=vs.map some:=(List.cons.inj h).2
  exact aa (yX h1) (j9 h2) (wg h1)
end
def zY:Option V→(V→Prop)→Prop
 | some v,k=>k v
 | none,_=>False
def ux:St→Nat→(V→Prop)→Prop
 | [],_,_=>False
 | o::_,0,k=>zY o k
 | _::σ,i+1,k=>ux σ i k
theorem qh{v:V}{σ:St}{k:V→Prop}:ux (some v::σ) 0 k=k v:=rfl
theorem m8{o:Option V}{σ:St}{i:Nat}{k:V→Prop}:ux (o::σ) (i+1) k=ux σ i k:=rfl
theorem iJ{k:V→Prop}:∀{σ:St} {i:Nat},ux σ i k↔∃v,σ[i]?=some (some v)∧k v
 | [],i=>by simp [ux]
 | some v::σ,0=>by simp [ux,zY]
 | none::σ,0=>by simp [ux,zY]
 | o::σ,i+1=>by rw [m8,iJ];simp
def zi(i:Nat):TE:=fun σ H Q=>ux σ i fun v=>Q v H
theorem yd(i:Nat):zi i=yg i:=by
 funext σ H Q
 exact propext iJ
def uV:V→(Int→Prop)→Prop
 | .int i,k=>k i
 | _,_=>False
theorem iD{i:Int}{k:Int→Prop}:uV (.int i) k=k i:=rfl
theorem fU{v:V}{k:Int→Prop}:uV v k↔∃i,v=.int i∧k i:=by cases v<;>simp [uV]
def wz:V→(Bool→Prop)→Prop
 | .bl i,k=>k i
 | _,_=>False
theorem kG{i:Bool}{k:Bool→Prop}:wz (.bl i) k=k i:=rfl
theorem iC{v:V}{k:Bool→Prop}:wz v k↔∃i,v=.bl i∧k i:=by cases v<;>simp [wz]
def yH(g:Int→Int→V):R2:=fun x y H Q=>uV x fun i=>uV y fun j=>Q (g i j) H
def jI(C:Int→Int→Prop)(g:Int→Int→V):R2:=fun x y H Q=>uV x fun i=>uV y fun j=>C i j∧Q (g i j) H
def jU(g:Int→V):V→Hp→VK→Prop:=fun x H Q=>uV x fun i=>Q (g i) H
def mO(t:TE):TT:=fun σ H Q=>t σ H fun x H1=>wz x fun k=>Q k H1
def mM(t:TE):TO:=fun σ H Q=>t σ H fun x H1=>uV x fun i=>Q (some i) H1
def tE(i:Nat)(te:TE)(ti:ym):TS:=fun D σ H=>ux σ i fun x=>te σ H fun y H1=>ti x y H1 fun z H2=>D.nx (σ.set i (some z)) H2
def mK(ta tb:TE):TE:=fun σ H Q=>ta σ H fun x H1=>wz x fun c=>if c=true then tb σ H1 Q else Q (.bl false) H1
def tI(ta tb:TE):TE:=fun σ H Q=>ta σ H fun x H1=>wz x fun c=>if c=true then Q (.bl true) H1 else tb σ H1 Q
def wQ(ta:TE):TE:=fun σ H Q=>ta σ H fun x H1=>wz x fun c=>Q (.bl (!c)) H1
theorem vv(i:Nat)(te:TE)(ti:ym):tE i te ti=uG i te ti:=by
 funext D σ H
 unfold tE uG
 simp only [iJ]
theorem tD(ta tb:TE):mK ta tb=nE ta tb:=by
 funext σ H Q
 unfold mK nE
 simp only [iC]
theorem vy(ta tb:TE):tI ta tb=uO ta tb:=by
 funext σ H Q
 unfold tI uO
 simp only [iC]
theorem xm(g:Int→Int→V):yH g=oP g:=by
 funext x y H Q
 unfold yH oP
 simp only [fU,exists_and_left]
theorem yI(C:Int→Int→Prop)(g:Int→Int→V):jI C g=rI C g:=by
 funext x y H Q
 unfold jI rI
 simp only [fU,exists_and_left]
theorem yM(g:Int→V):jU g=rU g:=by
 funext x H Q
 unfold jU rU
 simp only [fU]
theorem tK(t:TE):mO t=kr t:=by
 funext σ H Q
 unfold mO kr
 simp only [iC]
theorem tJ(t:TE):mM t=qq t:=by
 funext σ H Q
 unfold mM qq
 simp only [fU]
def sh(r:R2):R2
 | .int i,.int j,H,Q=>Q (.bl (decide (i=j))) H
 | .str i,.str j,H,Q=>Q (.bl (decide (i=j))) H
 | x,y,H,Q=>r x y H Q
def si(r:R2):R2
 | .int i,.int j,H,Q=>Q (.bl (!decide (i=j))) H
 | .str i,.str j,H,Q=>Q (.bl (!decide (i=j))) H
 | x,y,H,Q=>r x y H Q
def iq(r:R2):R2
 | .int i,.int j,H,Q=>Q (.int (i+j)) H
 | x,y,H,Q=>r x y H Q
def mL(r:R2):R2
 | .int i,.int j,H,Q=>IntMulOk i j∧Q (.int (i * j)) H
 | x,y,H,Q=>r x y H Q
theorem kM{r:R2}{i j:Int}{H:Hp}{Q:VK}:sh r (.int i) (.int j) H Q=Q (.bl (decide (i=j))) H:=rfl
theorem kN{r:R2}{i j:Str}{H:Hp}{Q:VK}:sh r (.str i) (.str j) H Q=Q (.bl (decide (i=j))) H:=rfl
theorem kO{r:R2}{i j:Int}{H:Hp}{Q:VK}:si r (.int i) (.int j) H Q=Q (.bl (!decide (i=j))) H:=rfl
theorem kP{r:R2}{i j:Str}{H:Hp}{Q:VK}:si r (.str i) (.str j) H Q=Q (.bl (!decide (i=j))) H:=rfl
theorem iG{r:R2}{i j:Int}{H:Hp}{Q:VK}:iq r (.int i) (.int j) H Q=Q (.int (i+j)) H:=rfl
theorem iH{r:R2}{i j:Int}{H:Hp}{Q:VK}:mL r (.int i) (.int j) H Q=(IntMulOk i j∧Q (.int (i * j)) H):=rfl
theorem tF{r:R2}(h1:∀i j H Q,r (.int i) (.int j) H Q↔Q (.bl (decide (i=j))) H)(h2:∀i j H Q,r (.str i) (.str j) H Q↔Q (.bl (decide (i=j))) H):sh r=r:=by
 funext x y H Q
 unfold sh
 split
 ·exact propext (h1 _ _ _ _).symm
 ·exact propext (h2 _ _ _ _).symm
 ·rfl
theorem tH{r:R2}(h1:∀i j H Q,r (.int i) (.int j) H Q↔Q (.bl (!decide (i=j))) H)(h2:∀i j H Q,r (.str i) (.str j) H Q↔Q (.bl (!decide (i=j))) H):si r=r:=by
 funext x y H Q
 unfold si
 split
 ·exact propext (h1 _ _ _ _).symm
 ·exact propext (h2 _ _ _ _).symm
 ·rfl
theorem p4{r:R2}(h1:∀i j H Q,r (.int i) (.int j) H Q↔Q (.int (i+j)) H):iq r=r:=by
 funext x y H Q
 unfold iq
 split
 ·exact propext (h1 _ _ _ _).symm
 ·rfl
theorem vx{r:R2}(h1:∀i j H Q,r (.int i) (.int j) H Q↔IntMulOk i j∧Q (.int (i * j)) H):mL r=r:=by
 funext x y H Q
 unfold mL
 split
 ·exact propext (h1 _ _ _ _).symm
 ·rfl
theorem wL:sh ke=ke:=tF (fun _ _ _ _=>lE) (fun _ _ _ _=>lF)
theorem wO:si kg=kg:=tH (fun _ _ _ _=>lH) (fun _ _ _ _=>lI)
theorem tw(K:PySem.W.Frag):iq (cU K)=cU K:=p4 fun _ _ _ _=>rAddA_ii
theorem yF{x y:V}{H:Hp}{Q:VK}:sh ke x y H Q↔ke x y H Q:=by rw [wL]
theorem yJ{x y:V}{H:Hp}{Q:VK}:si kg x y H Q↔kg x y H Q:=by rw [wO]
theorem vq{K:PySem.W.Frag}{x y:V}{H:Hp}{Q:VK}:iq (cU K) x y H Q↔cU K x y H Q:=by rw [tw]
section
variable {X:Cx}
theorem pr(i:Nat){x:Str}{pos:Pos}(hN:X.N[i]?=some x:=by rfl)(hv:zu X.env.scope x:=by first | exact Or.inl rfl | exact Or.inr (Or.inl rfl) | exact Or.inr (Or.inr rfl))(hd:(x == ("__debug__":Str))=false:=by decide)
  (hcd:(x == ("__classdict__":Str))=false:=by decide):PE X (.Name x pos) (zi i):=by
 rw [yd]
 exact t9 hN hv hd hcd
theorem o0{f:Value→Value→Sem Value}{g:Int→Int→V}(h:cc X f (oP g)):cc X f (yH g):=by rw [xm];exact h
theorem o1{f:Value→Value→Sem Value}{C:Int→Int→Prop}{g:Int→Int→V}(h:cc X f (rI C g)):cc X f (jI C g):=by rw [yI];exact h
theorem u1{f:Value→Sem Value}{g:Int→V}(h:yu X f (rU g)):yu X f (jU g):=by rw [yM];exact h
theorem sj:cc X (compareOp .Eq) (sh ke):=by rw [wL];exact opEq
theorem tP:cc X (compareOp .NotEq) (si kg):=by rw [wO];exact opNe
theorem aW(K:PySem.W.Frag)(h:X.K=K:=by rfl):cc X (binaryOp .Add) (iq (cU K)):=by rw [tw];exact xA K h
theorem bj{e:Expr}{t:TE}(h:PT X e (kr t)):PT X e (mO t):=by rw [tK];exact h
theorem y4{st:Stmt}{i:Nat}{te:TE}{ti:ym}(h:PS X st (uG i te ti)):PS X st (tE i te ti):=by rw [vv];exact h
theorem t7{e:Expr}{ta tb:TE}(h:PE X e (nE ta tb)):PE X e (mK ta tb):=by rw [tD];exact h
theorem yY{e:Expr}{ta tb:TE}(h:PE X e (uO ta tb)):PE X e (tI ta tb):=by rw [vy];exact h
theorem gc{e:Expr}{t:TE}(h:PE X e t):PO X (some e) (mM t):=by rw [tJ];exact vR h
end
theorem itN{p:Prop}[d:Decidable p]{A B:Prop}:(if (!decide p)=true then A else B)=(if p then B else A):=by
 by_cases h:p<;>simp [h]
theorem itD{p:Prop}[d:Decidable p]{A B:Prop}:(if decide p=true then A else B)=(if p then A else B):=by
 by_cases h:p<;>simp [h]
theorem aV{t u:TS}{D:fk}{σ:St}{H:Hp}(C:St→Hp→Prop)(h2:∀σ H,C σ H→u D σ H)(h1:∀u':TS,(∀σ H,C σ H→u' D σ H)→iw t u' D σ H):iw t u D σ H:=h1 u h2
theorem cE.up{P:Program}{w:World}{K:PySem.W.Frag}{mg:Str→Option Value}{base:Heap}{x:Str}{j k:Nat}{ps:List Str}{sp:Sp}(d:cE P w K mg base x j ps sp)(h:j≤k):cE P w K mg base x k ps sp:=
 let ⟨f,fd,F,r⟩:=d.ex;⟨f,fd,F.mono h,r⟩
theorem const_mk{K:PySem.W.Frag}{x:Str}{v:V}{u:Value}(e:PySem.W.nsIn K mainGlobals x=some (some u))(r:aG v u):∃u,PySem.W.nsIn K mainGlobals x=some (some u)∧aG v u:=⟨u,e,r⟩
theorem TruV_b{K:PySem.W.Frag}{b k:Bool}{H:Hp}:u4 K (.bl b) H k↔k=b:=Iff.rfl
theorem zm{K:PySem.W.Frag}{z:Str}{H:Hp}:zk K "str" (.str z) H↔True:=⟨fun _=>trivial,fun _=>rfl⟩
theorem str_iff{x y:Str}:x=y↔x.cps.toList=y.cps.toList:=by
 constructor
 ·intro e;rw [e]
 ·intro e
  obtain⟨⟨a⟩⟩:=x
  obtain⟨⟨b⟩⟩:=y
  simp at e
  subst e
  rfl
end L2
namespace L2
open PySem PySem.Spec PyProof.Rows
open AutoSeq1 (wpAny_loadPart')
theorem gP:fillsNumberSlot (.type "tuple") "mul"=pure false:=
 PySem.fillsNumberSlot_seq (id:="tuple.__mul__") (r:=some (.builtin "tuple.__rmul__")) F.slot_tuple_mul.lookup (by decide +kernel) F.slot_tuple_rmul.lookup (by decide +kernel)
theorem lJ:seqRepeat? (.type "tuple")=pure (some (.builtin "tuple.__mul__")):=by
 unfold seqRepeat?
 rw [PySem.seqSlot_of (T:="tuple") (name:="__mul__") (id:="tuple.__mul__") F.slot_tuple_mul.lookup (by decide +kernel),PySem.seqSlot_of (T:="tuple") (name:="__rmul__") (id:="tuple.__rmul__") F.slot_tuple_rmul.lookup (by decide +kernel)]
 rfl
theorem iY(a:Int)(t:Tok)(l:Addr)(items:Array Value)(n:Nat)(dd:Option Addr)(sl:Array (Option Value)):
  Meets (Builtin.«int.__rmul__» ⟨[.int a t,.ref l],[]⟩) (fun _ R s=>s.heap.get? l=some { cls:=.type "tuple",dict:=dd,data:=.seq items n,slots:=sl }∧R (.ok (.ret Value.notImplemented)) s):=
 .of_wp fun prog w A R s h=>by obtain⟨hp,g,d,tk,os⟩:=s;obtain⟨hl,h⟩:=h;wp_walk;exact⟨_,rfl,h⟩
theorem pI(l:Addr)(items:Array Value)(n:Nat)(dd:Option Addr)(sl:Array (Option Value))(u:Tok):
  Meets (Builtin.«tuple.__mul__» ⟨[.ref l,.int 1 u],[]⟩) (fun _ R s=>s.heap.get? l=some { cls:=.type "tuple",dict:=dd,data:=.seq items n,slots:=sl }∧R (.ok (.ret (Value.ref l))) s):=
 .of_wp fun prog w A R s h=>by
  obtain⟨hp,g,d,tk,os⟩:=s;obtain⟨hl,h⟩:=h
  have hT:Shared.TypeIs ⟨hp,g,d,tk,os⟩ (.ref l) "tuple":=⟨_,hl,rfl⟩
  wp_walk using wpAny_loadPart' hl,wpAny_typeOf hT
  exact⟨_,rfl,h⟩
theorem iW{α:Type}(xs:Array α):∀(n:Nat) (acc:Array α),((List.replicate n xs).foldl (· ++ ·) acc).size=acc.size+n * xs.size
 | 0,acc=>by simp
 | n+1,acc=>by
  rw [List.replicate_succ,List.foldl_cons,iW xs n,Array.size_append,Nat.succ_mul]
  omega
theorem pJ(l:Addr)(items:Array Value)(n:Nat)(dd:Option Addr)(sl:Array (Option Value))(x:Int)(u:Tok)(h1:1 < x)(h2:x < 1000000)(h0:items.isEmpty=false)(hz:items.size * x.toNat≤sizeLine):
  Meets (Builtin.«tuple.__mul__» ⟨[.ref l,.int x u],[]⟩) (fun _ R s=>s.heap.get? l=some { cls:=.type "tuple",dict:=dd,data:=.seq items n,slots:=sl }∧R (.ok (.ret (Value.ref s.heap.objs.size))) { s with heap:=s.heap.push { cls:=Value.type "tuple",data:=Data.seq ((List.replicate x.toNat items).foldl (· ++ ·) #[]) } }):=
 .of_wp fun prog w A R s h=>by
  obtain⟨hp,g,d,tk,os⟩:=s;obtain⟨hl,h⟩:=h
  have hT:Shared.TypeIs ⟨hp,g,d,tk,os⟩ (.ref l) "tuple":=⟨_,hl,rfl⟩
  wp_walk using wpAny_loadPart' hl,wpAny_typeOf hT
  refine wpAny_ite_false (by rw [decide_eq_false (show ¬x < -2 ^ 63 by omega),decide_eq_false (show ¬x≥2 ^ 63 by omega)];rfl) ?_
  wp_walk using wpAny_loadPart' hl,wpAny_typeOf hT
  refine wpAny_ite_false (by rw [h0];simp;omega) ?_
  refine wpAny_ite_false (by rw [h0];simp;omega) ?_
  have e:(items.size:Int) * x=((items.size * x.toNat:Nat):Int):=by rw [Int.natCast_mul,Int.toNat_of_nonneg (by omega)]
  have hs:sizeLine=16777216:=sizeLine_eq
  refine wpAny_ite_false (decide_eq_false (by rw [e];omega)) ?_
  have hm:¬((items.size:Int) * x > (sizeLine:Int)):=by rw [e];exact_mod_cast Nat.not_lt.mpr hz
  refine wpAny_ite_false (by unfold Builtin.Tuple.tupleTooMany;exact decide_eq_false (fun z=>hm (of_decide_eq_true z))) ?_
  have hf:(List.foldl (fun x1 x2=>x1++x2) #[] (List.replicate x.toNat items)).size≤sizeLine:=by
   rw [iW,Array.size_empty,Nat.zero_add,Nat.mul_comm];exact hz
  wp_walk using wpAny_loadPart' hl,wpAny_typeOf hT
  refine wpAny_ite_false (decide_eq_false (Nat.not_lt.mpr hf)) ?_
  wp_walk
  exact⟨_,rfl,h⟩
def qg(K:PySem.W.Frag):R2:=fun x y H Q=>∃l k xs,x=.ref l∧y=.int k∧cA K H l xs∧1≤k∧k < 1000000∧xs≠[]∧xs.length * k.toNat≤sizeLine∧
 (k=1→Q (.ref l) H)∧∀p,H p=none→Q (.ref p) (upd H p (.tup (List.replicate k.toNat xs).flatten))
section
variable {X:Cx}
theorem vL:cc X (binaryOp .Mult) (qg X.K):=by
 intro pins s σ H x y v u Q I rx ry h
 obtain⟨l,k,xs,rfl,rfl,hH,h1,h2,hx,hz,q1,q⟩:=h
 cases rx
 obtain⟨t,rfl⟩:=ry
 obtain⟨its,r,p,hl⟩:=I.tuple hH
 obtain⟨⟨cls,dd,data,sl⟩,ho,hc,n,hd⟩:=id p
 simp only at hc hd
 subst hc hd
 have hlen:its.toArray.size * k.toNat≤sizeLine:=by rw [List.size_toArray,←r.length];exact hz
 refine wpAny_binaryOp_repeat_ref (T:="tuple") (U:="int") (by decide) ⟨_,ho,rfl⟩ (fun s'=>typeIs_int s' k t) gP F.fills_int_mul F.slot_int_rmul lJ F.slot_int_index.lookup
  (call_meets F.slot_int_rmul (typeIs_int s k t) F.entry_int_rmul (F.args_int_rmul_2 _ _) (iY k t l its.toArray n dd sl) ⟨ho,rfl,⟨_,ho,rfl⟩,?_⟩)
 by_cases hk:k=1
 ·subst hk
  exact call_meets F.slot_tuple_mul ⟨_,ho,rfl⟩ F.entry_tuple_mul (F.args_tuple_mul_2 _ _) (pI l its.toArray n dd sl t) ⟨ho,.ref l,H,I,rfl,q1 rfl⟩
 ·have hne:its.toArray.isEmpty=false:=by
   cases its with
   | nil=>exact absurd (r.nil_iff.mp rfl) hx
   | cons a b=>rfl
  refine call_meets F.slot_tuple_mul ⟨_,ho,rfl⟩ F.entry_tuple_mul (F.args_tuple_mul_2 _ _) (pJ l its.toArray n dd sl k t (by omega) h2 hne hlen) ⟨ho,?_⟩
  have hnew:List.foldl (fun x1 x2=>x1++x2) #[] (List.replicate k.toNat its.toArray)=(List.replicate k.toNat its).flatten.toArray:=by
   have:=gJ its k.toNat []
   rw [List.nil_append]at this
   exact this
  refine⟨.ref s.heap.objs.size,_,I.laid (t':=s.toks) (o:=.tup (List.replicate k.toNat xs).flatten) (fun b ob q=>Heap.get?_push_of_some _ q) (Nat.le_refl _) ?_,rfl,q _ (I.hok.fresh (Nat.le_refl _))⟩
  rw [hnew]
  exact⟨by rw [kQ,Nat.mul_comm];exact hz,_,r.rep k.toNat,IsTup.new _ _⟩
def dn(K:PySem.W.Frag):R2:=fun x y H Q=>ij x y H Q∨qg K x y H Q
theorem xD(K:PySem.W.Frag)(h:X.K=K:=by rfl):cc X (binaryOp .Mult) (dn K):=h▸opMul.or vL
theorem m5{K:PySem.W.Frag}{i j:Int}{H:Hp}{Q:VK}:dn K (.int i) (.int j) H Q↔IntMulOk i j∧Q (.int (i * j)) H:=by
 simp [dn,m3,qg]
theorem ur{K:PySem.W.Frag}{z:Str}{j:Int}{H:Hp}{Q:VK}:dn K (.str z) (.int j) H Q↔(-1000000≤j∧j≤1000000∧z.length≤16)∧Q (.str (gf z j)) H:=by
 simp [dn,m4,qg]
theorem tG(K:PySem.W.Frag):mL (dn K)=dn K:=vx fun _ _ _ _=>m5
theorem vw{K:PySem.W.Frag}{x y:V}{H:Hp}{Q:VK}:mL (dn K) x y H Q↔dn K x y H Q:=by rw [tG]
theorem dU(K:PySem.W.Frag)(h:X.K=K:=by rfl):cc X (binaryOp .Mult) (mL (dn K)):=by rw [tG];exact xD K h
end
end L2
namespace L2
open PySem PySem.Spec PyProof.Rows
def gv(c:Nat):List Nat→List (List Nat)
 | []=>[[]]
 | a::l=>if a=c then []::gv c l else match gv c l with
  | []=>[[a]]
  | p::r=>(a::p)::r
theorem pj(c:Nat):∀l,gv c l≠[]
 | []=>by simp [gv]
 | a::l=>by
  simp only [gv]
  split
  ·simp
  ·split<;>simp
theorem ql(c:Nat):∀l,(gv c l).length≤l.length+1
 | []=>by simp [gv]
 | a::l=>by
  have h:=ql c l
  simp only [gv]
  split
  ·simp;omega
  ·split
   ·simp
   ·rename_i p r e
    rw [e]at h
    simp at h ⊢
    omega
def cf(c:Nat):List Nat→Nat→List Nat
 | [],_=>[]
 | b::l,i=>if b=c then i::cf c l (i+1)else cf c l (i+1)
theorem i7(x:Str)(c:Nat)(lim:Nat):∀(l:List Nat) (i:Nat) (acc:Array Nat) (fr:Nat),x.cps.toList.drop i=l→acc.size≤i→fr≤i→x.length < lim→
  (forIn (List.range' i (l.length+1)) (acc,fr) (StrLaws.occBody x ⟨#[c]⟩ x.length lim)).run.fst.toList=acc.toList++cf c l i
 | [],i,acc,fr,hl,ha,hf,hm=>by
  have hi:x.length≤i:=by
   rw [aN]
   exact List.drop_eq_nil_iff.mp hl
  show(forIn [i] (acc,fr) _:Id _).run.fst.toList=_
  rw [List.forIn_cons]
  unfold StrLaws.occBody
  rw [if_neg (by intro h;have:=h.1.2;have e1:(⟨#[c]⟩:Str).length=1:=rfl;rw [e1]at this;omega)]
  show acc.toList=_
  simp [cf]
 | b::l,i,acc,fr,hl,ha,hf,hm=>by
  have hb:x.cps.toList[i]?=some b:=by
   have:(x.cps.toList.drop i)[0]?=some b:=by rw [hl];rfl
   rwa [List.getElem?_drop,Nat.add_zero]at this
  have hi:i < x.length:=by
   rw [aN]
   obtain⟨h,_⟩:=List.getElem?_eq_some_iff.mp hb
   exact h
  have hd:x.cps.toList.drop (i+1)=l:=by
   rw [←List.drop_drop,hl];rfl
  have e1:(⟨#[c]⟩:Str).length=1:=rfl
  show(forIn (i::List.range' (i+1) (l.length+1)) (acc,fr) _:Id _).run.fst.toList=_
  rw [List.forIn_cons]
  unfold StrLaws.occBody
  by_cases hc:b=c
  ·rw [if_pos ⟨⟨⟨by show acc.size < lim;omega,hf⟩,by rw [e1];omega⟩,((StrLaws.subAt_one x c i).mpr (by rw [hb,hc])).2⟩]
   show(forIn (List.range' (i+1) (l.length+1)) (acc.push i,i+1) (StrLaws.occBody x ⟨#[c]⟩ x.length lim):Id _).run.fst.toList=_
   rw [i7 x c lim l (i+1) _ _ hd (by rw [Array.size_push];omega) (Nat.le_refl _) hm]
   simp [cf,hc]
  ·rw [if_neg (fun h=>hc (by have:=(StrLaws.subAt_one x c i).mp ⟨h.1.2,h.2⟩;rw [hb]at this;exact Option.some.inj this))]
   show(forIn (List.range' (i+1) (l.length+1)) (acc,fr) (StrLaws.occBody x ⟨#[c]⟩ x.length lim):Id _).run.fst.toList=_
   rw [i7 x c lim l (i+1) _ _ hd (by omega) (by omega) hm]
   simp [cf,hc]
theorem vC(x:Str)(c:Nat):Builtin.Str.occurrences x ⟨#[c]⟩ 0 x.length (x.length+1)=cf c x.cps.toList 0:=by
 rw [StrLaws.occ_eq]
 have e:x.length+1 - 0=x.cps.toList.length+1:=by rw [aN];rfl
 rw [e]
 have h:=i7 x c (x.length+1) x.cps.toList 0 #[] 0 rfl (Nat.le_refl _) (Nat.le_refl _) (Nat.lt_succ_self _)
 rw [h]
 rfl
theorem fE(x:Str)(c:Nat):∀(l:List Nat) (a j:Nat),a≤j→x.cps.toList.drop j=l→j≤x.length→
  (StrLaws.partsFrom x 1 a (cf c l j)).map (fun z=>z.cps.toList)=match gv c l with
   | []=>[]
   | p::r=>((x.cps.toList.drop a).take (j - a)++p)::r
 | [],a,j,haj,hl,hj=>by
  have hj':x.length≤j:=by rw [aN];exact List.drop_eq_nil_iff.mp hl
  have e:j=x.length:=by omega
  subst e
  simp [cf,gv,StrLaws.partsFrom,StrLaws.strSub_toList]
 | b::l,a,j,haj,hl,hj=>by
  have hb:x.cps.toList[j]?=some b:=by
   have:(x.cps.toList.drop j)[0]?=some b:=by rw [hl];rfl
   rwa [List.getElem?_drop,Nat.add_zero]at this
  have hi:j < x.length:=by
   rw [aN]
   obtain⟨h,_⟩:=List.getElem?_eq_some_iff.mp hb
   exact h
  have hd:x.cps.toList.drop (j+1)=l:=by
   rw [←List.drop_drop,hl];rfl
  by_cases hc:b=c
  ·have ih:=fE x c l (j+1) (j+1) (Nat.le_refl _) hd hi
   simp only [cf,hc,if_true,StrLaws.partsFrom,List.map_cons,gv,List.append_nil]
   rw [ih]
   cases hs:gv c l with
   | nil=>exact absurd hs (pj c l)
   | cons p r=>simp [StrLaws.strSub_toList]
  ·have ih:=fE x c l a (j+1) (by omega) hd hi
   simp only [cf,hc,if_false,gv]
   rw [ih]
   cases hs:gv c l with
   | nil=>exact absurd hs (pj c l)
   | cons p r=>
    have ht:(x.cps.toList.drop a).take (j+1 - a)=(x.cps.toList.drop a).take (j - a)++[b]:=by
     have e1:j+1 - a=(j - a)+1:=by omega
     rw [e1,List.take_add_one,List.getElem?_drop]
     have e2:a+(j - a)=j:=by omega
     rw [e2,hb];rfl
    simp [ht]
theorem uE(c:Nat):∀{l:List Nat},cf c l 0=[]→gv c l=[l]:=by
 have key:∀(l:List Nat) (i:Nat),cf c l i=[]→gv c l=[l]:=by
  intro l
  induction l with
  | nil=>intro i _;rfl
  | cons a l ih=>
   intro i h
   simp only [cf]at h
   split at h
   ·cases h
   ·rename_i hc
    simp only [gv,hc,if_false]
    rw [ih _ h]
 intro l h
 exact key l 0 h
theorem dC(x:Str){c:Nat}(hc:c < 256):(Txt.split x ⟨#[c]⟩).map (fun z=>z.cps.toList)=gv c x.cps.toList:=by
 unfold Txt.split
 have e1:(⟨#[c]⟩:Str).length=1:=rfl
 have ek:Builtin.Str.strKind ⟨#[c]⟩=1:=by simp [Builtin.Str.strKind,hc]
 have ek2:1≤Builtin.Str.strKind x:=by unfold Builtin.Str.strKind;split<;>(try split)<;>omega
 rw [e1,ek,decide_eq_false (show ¬Builtin.Str.strKind x < 1 by omega),Bool.or_false,vC]
 split
 ·rename_i h
  have h:x.length < 1:=by simpa using h
  have:x.cps.toList=[]:=by
   rw [aN]at h
   exact List.length_eq_zero_iff.mp (by omega)
  rw [List.map_cons,List.map_nil,this];rfl
 ·split
  ·rename_i h
   have h:cf c x.cps.toList 0=[]:=by simpa using h
   rw [uE c h];rfl
  ·rw [StrLaws.partsBetween_eq,fE x c x.cps.toList 0 0 (Nat.le_refl _) rfl (Nat.zero_le _)]
   cases hs:gv c x.cps.toList with
   | nil=>exact absurd hs (pj c _)
   | cons p r=>simp
end L2
namespace L2
open PySem PySem.Spec PyProof.Rows
theorem hZ:∀(tk:Nat) (xs:List Str),aC (xs.map V.str) (strsFrom tk xs)
 | _,[]=>.nil
 | tk,x::r=>.cons ⟨tk,rfl⟩ (hZ (tk+1) r)
theorem kn:∀{xs:List Str} {us:List Value},aC (xs.map V.str) us→StrsAre us xs
 | [],_,.nil=>.nil
 | x::r,_,.cons ⟨t,e⟩ q=>by subst e;exact .cons x t (kn q)
section
variable {X:Cx}
theorem fX:qv X "str.split" (fun x xs H Q=>∃z c,x=.str z∧xs=[.str ⟨#[c]⟩]∧c < 256∧z.length < sizeLine∧∀p,H p=none→Q (.ref p) (upd H p (.lst ((Txt.split z ⟨#[c]⟩).map V.str)))):=by
 intro pins s σ H x xs v us Q I rx r h
 obtain⟨z,c,rfl,rfl,hc,hz,q⟩:=h
 obtain⟨t,rfl⟩:=rx
 obtain⟨u,rfl,t',rfl⟩:=du r
 have hs:sizeLine=16777216:=sizeLine_eq
 have hlen:(Txt.split z ⟨#[c]⟩).length≤sizeLine:=by
  have h1:(Txt.split z ⟨#[c]⟩).length=(gv c z.cps.toList).length:=by rw [←dC z hc,List.length_map]
  have h2:=ql c z.cps.toList
  rw [←aN]at h2
  omega
 have fin:∀(its:List Value) (tk:Nat),aC ((Txt.split z ⟨#[c]⟩).map V.str) its→EP X pins σ Q (.ref s.heap.objs.size) { s with toks:=tk,heap:=s.heap.push { cls:=.type "list",data:=.seq its.toArray } }:=fun its tk rv=>
  ⟨.ref s.heap.objs.size,_,I.laid (t':=tk) (o:=.lst ((Txt.split z ⟨#[c]⟩).map V.str)) (fun b ob q=>Heap.get?_push_of_some _ q) (Nat.le_refl _) ⟨by rw [List.length_map];exact hlen,its,0,rv,Heap.get?_push_size _ rfl⟩,rfl,q _ (I.hok.fresh (Nat.le_refl _))⟩
 cases h1:(decide (z.length < (⟨#[c]⟩:Str).length) || decide (Builtin.Str.strKind z < Builtin.Str.strKind ⟨#[c]⟩))with
 | true=>
  have e:Txt.split z ⟨#[c]⟩=[z]:=by unfold Txt.split;rw [if_pos h1]
  rw [e]at fin
  exact call_meets F.slot_str_split (typeIs_str _ _ _) F.entry_str_split (F.args_str_split_2 _ _) (meets_str_split_cannot_occur z ⟨#[c]⟩ t t' h1) (fin _ s.toks (.cons ⟨t,rfl⟩ .nil))
 | false=>
  cases hf:(Builtin.Str.occurrences z ⟨#[c]⟩ 0 z.length (z.length+1)).isEmpty with
  | true=>
   have e:Txt.split z ⟨#[c]⟩=[z]:=by unfold Txt.split;rw [if_neg (by rw [h1];exact Bool.false_ne_true),if_pos hf]
   rw [e]at fin
   exact call_meets F.slot_str_split (typeIs_str _ _ _) F.entry_str_split (F.args_str_split_2 _ _) (meets_str_split_not_found z ⟨#[c]⟩ t t' h1 rfl hf) (fin _ s.toks (.cons ⟨t,rfl⟩ .nil))
  | false=>
   have e:Txt.split z ⟨#[c]⟩=Builtin.Str.partsBetween z (Builtin.Str.occurrences z ⟨#[c]⟩ 0 z.length (z.length+1)) (⟨#[c]⟩:Str).length:=by
    unfold Txt.split;rw [if_neg (by rw [h1];exact Bool.false_ne_true),if_neg (by rw [hf];exact Bool.false_ne_true)]
   rw [e]at fin hlen
   exact call_meets F.slot_str_split (typeIs_str _ _ _) F.entry_str_split (F.args_str_split_2 _ _) (meets_str_split_sep z ⟨#[c]⟩ t t' h1 rfl hf (Nat.le_of_lt hz) hlen) (fin _ _ (hZ _ _))
theorem vz:qv X "str.join" (fun x xs H Q=>∃z p ys,x=.str z∧xs=[.ref p]∧aO X.K H p (ys.map V.str)∧(ys.map (·.length)).sum+ys.length * z.length≤16777216∧Q (.str (Txt.join z ys)) H):=by
 intro pins s σ H x xs v us Q I rx r h
 obtain⟨z,p,ys,rfl,rfl,hq,hok,q⟩:=h
 obtain⟨t,rfl⟩:=rx
 obtain⟨u,rfl,ru⟩:=du r
 cases ru
 obtain⟨its,rv,pl,hz⟩:=I.list hq
 exact join_list pl.isList (kn rv) hok fun t' k=>⟨.str _,H,I.tok _,⟨t',rfl⟩,q⟩
theorem mS(K:PySem.W.Frag)(h:X.K=K:=by rfl):qv X "str.join" (fun x xs H Q=>∃z p ys,x=.str z∧xs=[.ref p]∧aO K H p (ys.map V.str)∧(ys.map (·.length)).sum+ys.length * z.length≤16777216∧Q (.str (Txt.join z ys)) H):=h▸vz
def xf:List V→List V→Bool
 | [],[]=>true
 | x::xs,y::ys=>n9 x y && xf xs ys
 | _,_=>false
def lD(K:PySem.W.Frag):R2:=fun x y H Q=>ke x y H Q∨∃a b xs ys,x=.ref a∧y=.ref b∧cA K H a xs∧cA K H b ys∧xs.all c5=true∧ys.all c5=true∧Q (.bl (xf xs ys)) H
def lG(K:PySem.W.Frag):R2:=fun x y H Q=>kg x y H Q∨∃a b xs ys,x=.ref a∧y=.ref b∧cA K H a xs∧cA K H b ys∧xs.all c5=true∧ys.all c5=true∧Q (.bl (!xf xs ys)) H
end
theorem vX{K:PySem.W.Frag}{i j:Int}{H:Hp}{Q:VK}:lD K (.int i) (.int j) H Q↔Q (.bl (decide (i=j))) H:=by simp [lD,lE]
theorem v9{K:PySem.W.Frag}{i j:Int}{H:Hp}{Q:VK}:lG K (.int i) (.int j) H Q↔Q (.bl (!decide (i=j))) H:=by simp [lG,lH]
theorem vY{K:PySem.W.Frag}{i j:Str}{H:Hp}{Q:VK}:lD K (.str i) (.str j) H Q↔Q (.bl (decide (i=j))) H:=by simp [lD,lF]
theorem wa{K:PySem.W.Frag}{i j:Str}{H:Hp}{Q:VK}:lG K (.str i) (.str j) H Q↔Q (.bl (!decide (i=j))) H:=by simp [lG,lI]
theorem vW{K:PySem.W.Frag}{i j:Bool}{H:Hp}{Q:VK}:lD K (.bl i) (.bl j) H Q↔Q (.bl (decide (i=j))) H:=by simp [lD,uo]
theorem v8{K:PySem.W.Frag}{i j:Bool}{H:Hp}{Q:VK}:lG K (.bl i) (.bl j) H Q↔Q (.bl (!decide (i=j))) H:=by simp [lG,uu]
end L2
namespace L2
open PySem PySem.Spec PyProof.Rows
def mz(l:List Nat):Bool:=l.all fun c=>decide (c∈[48,49,50,51,52,53,54,55,56,57])
def dS(w:List Nat):List Nat:=if w.head?=some 45 then w.tail else w
def mJ(w:List Nat):Bool:=decide (1≤(dS w).length) && (decide ((dS w).length≤40) && (mz (dS w) && (decide ((dS w).head?≠some 48) || decide (w=[48]))))
theorem om(w:List Nat):mJ w=(if dS w=[]∨40 < (dS w).length then false else if mz (dS w)=false then false else(decide ((dS w).head?≠some 48) || decide (w=[48]))):=by
 unfold mJ
 split
 ·rename_i h
  rcases h with h | h
  ·rw [h];rfl
  ·have:¬(dS w).length≤40:=by omega
   simp [this]
 ·rename_i h
  have h1:1≤(dS w).length:=by
   cases e:dS w with
   | nil=>exact absurd (Or.inl e) h
   | cons a b=>simp
  have h2:(dS w).length≤40:=by
   have:¬40 < (dS w).length:=fun z=>h (Or.inr z)
   omega
  simp only [h1,h2,decide_true,Bool.true_and]
  split
  ·rename_i h3;rw [h3];rfl
  ·rename_i h3
   have h3:mz (dS w)=true:=by simpa using h3
   rw [h3];rfl
def cM(n:Int):List Nat:=(Str.ofString (toString n)).cps.toList
def dg(m:Nat):List Nat:=(Nat.toDigits 10 m).map Char.toNat
theorem fY(m:Nat):cM (m:Int)=dg m:=PySem.W.KIN.signs_num m
theorem fZ(k:Nat):cM (-((k+1:Nat):Int))=45::dg (k+1):=by
 have e:toString (-((k+1:Nat):Int))="-" ++ toString (k+1):=rfl
 have h:=PySem.W.KIN.signs_num (k+1)
 unfold cM dg
 rw [←h,e]
 have e2:toString (((k+1:Nat):Nat):Int)=toString (k+1):=rfl
 rw [e2]
 simp only [PyProof.Rows.signs_ofString,String.toList_append]
 rfl
theorem gI(m:Nat):∀c∈dg m,48≤c∧c≤57:=by
 intro c hc
 obtain⟨ch,hch,e⟩:=List.mem_map.mp hc
 have r:=PyProof.Rows.digit_range (Nat.isDigit_of_mem_toDigits (by decide) (by decide) hch)
 rw [←e]
 exact r
theorem mx(m:Nat):dg m≠[]:=by
 intro e
 have h:=toDigits_len_ge 10 m
 rw [List.map_eq_nil_iff.mp e]at h
 exact absurd h (by decide)
theorem my{m:Nat}(h:m < 10):dg m=[m+48]:=by
 unfold dg
 rw [Nat.toDigits_of_lt_base h]
 have:∀m,m < 10→(Nat.digitChar m).toNat=m+48:=by decide
 show [(Nat.digitChar m).toNat]=_
 rw [this m h]
theorem xb{m:Nat}(h:¬m < 10):dg m=dg (m / 10)++[m % 10+48]:=by
 have hm:m % 10 < 10:=Nat.mod_lt m (by decide)
 have t:Nat.toDigits 10 (m / 10)++Nat.toDigits 10 (m % 10)=Nat.toDigits 10 (10 * (m / 10)+m % 10):=Nat.toDigits_append_toDigits (by decide) (by omega) hm
 rw [Nat.div_add_mod]at t
 rw [←my hm]
 unfold dg
 rw [←t,List.map_append]
theorem vd(m:Nat)(h0:0 < m):(dg m).head?≠some 48:=by
 induction m using Nat.strongRecOn with
 | _ m ih=>
  by_cases h:m < 10
  ·rw [my h]
   simp
   omega
  ·rw [xb h]
   have:=ih (m / 10) (by omega) (by omega)
   cases hd:dg (m / 10)with
   | nil=>exact absurd hd (mx _)
   | cons a l=>rw [hd]at this;exact this
theorem nT{k m:Nat}(hk:1≤k)(hm:m < 10 ^ k):(dg m).length≤k:=by
 unfold dg
 rw [List.length_map]
 exact digits10_le hk hm
theorem i6(n:Int):∀c∈cM n,c=45∨(48≤c∧c≤57):=by
 intro c hc
 rcases Int.lt_or_le n 0 with h | h
 ·obtain⟨k,rfl⟩:∃k:Nat,n = -((k+1:Nat):Int):=⟨n.natAbs - 1,by omega⟩
  rw [fZ]at hc
  rcases List.mem_cons.mp hc with e | e
  ·exact .inl e
  ·exact .inr (gI _ c e)
 ·obtain⟨m,rfl⟩:=Int.eq_ofNat_of_zero_le h
  rw [fY]at hc
  exact .inr (gI _ c hc)
theorem ve(m:Nat):mz (dg m)=true:=by
 unfold mz
 rw [List.all_eq_true]
 intro c hc
 obtain⟨h1,h2⟩:=gI m c hc
 have:c=48∨c=49∨c=50∨c=51∨c=52∨c=53∨c=54∨c=55∨c=56∨c=57:=by omega
 simpa using this
theorem qY(n:Int):dS (cM n)=dg n.natAbs:=by
 rcases Int.lt_or_le n 0 with h | h
 ·obtain⟨k,rfl⟩:∃k:Nat,n = -((k+1:Nat):Int):=⟨n.natAbs - 1,by omega⟩
  rw [fZ]
  have e:(-((k+1:Nat):Int)).natAbs=k+1:=by omega
  rw [e]
  rfl
 ·obtain⟨m,rfl⟩:=Int.eq_ofNat_of_zero_le h
  rw [fY]
  unfold dS
  rw [if_neg]
  ·rfl
  ·intro e
   cases hd:dg m with
   | nil=>exact absurd hd (mx _)
   | cons a l=>
    rw [hd]at e
    have:a=45:=by simpa using e
    have:=gI m a (by rw [hd];exact List.mem_cons_self)
    omega
theorem gK{n:Int}(h:n.natAbs < 10 ^ 40):mJ (cM n)=true:=by
 have hl:(dg n.natAbs).length≤40:=nT (by decide) h
 have hl0:1≤(dg n.natAbs).length:=by
  cases hd:dg n.natAbs with
  | nil=>exact absurd hd (mx _)
  | cons a l=>simp
 unfold mJ
 rw [qY,ve,decide_eq_true hl,decide_eq_true hl0]
 by_cases h0:n=0
 ·subst h0
  decide +kernel
 ·rw [decide_eq_true (vd n.natAbs (by omega))]
  rfl
theorem dj{n:Int}{k:Nat}(hk:1≤k)(h:n.natAbs < 10 ^ k):(cM n).length≤k+1:=by
 rcases Int.lt_or_le n 0 with h1 | h1
 ·obtain⟨j,rfl⟩:∃k:Nat,n = -((k+1:Nat):Int):=⟨n.natAbs - 1,by omega⟩
  have e:(-((j+1:Nat):Int)).natAbs=j+1:=by omega
  rw [e]at h
  rw [fZ,List.length_cons]
  have:=nT hk h
  omega
 ·obtain⟨m,rfl⟩:=Int.eq_ofNat_of_zero_le h1
  rw [fY]
  have:=nT hk (show m < 10 ^ k from h)
  omega
theorem iF{n:Int}(h:n.natAbs < 10 ^ 600):intText? (Str.ofString (toString n))=some n:=by
 have hl:=dj (by decide) h
 have hl2:(Str.ofString (toString n)).length≤4300:=by rw [aN];exact Nat.le_trans hl (by decide)
 rcases Int.lt_or_le n 0 with h1 | h1
 ·obtain⟨k,rfl⟩:∃k:Nat,n = -((k+1:Nat):Int):=⟨n.natAbs - 1,by omega⟩
  rw [PySem.intText_neg (cs:=dg (k+1)) (fZ k) (gI _) (mx _) hl2]
  have:=PySem.W.KIN.val_back (k+1)
  unfold dg
  rw [this]
 ·obtain⟨m,rfl⟩:=Int.eq_ofNat_of_zero_le h1
  have e:(Str.ofString (toString ((m:Nat):Int))).cps.toList=dg m:=fY m
  rw [PySem.intText_digits (by rw [e];exact gI _) (by rw [e];exact mx _) hl2,e]
  have:=PySem.W.KIN.val_back m
  unfold dg
  rw [this]
def bQ(c:Nat):List (List Nat)→List Nat
 | []=>[]
 | p::r=>p++(r.map (c::·)).flatten
theorem j4(c:Nat):∀(l:List Str) (a:Array Nat),(l.foldl (fun acc p=>acc++(⟨#[c]⟩:Str).cps++p.cps) a).toList=a.toList++(l.map (fun p=>c::p.cps.toList)).flatten
 | [],a=>by simp
 | p::l,a=>by
  rw [List.foldl_cons,j4 c l]
  simp
theorem i3(c:Nat)(ys:List Str):(Txt.join ⟨#[c]⟩ ys).cps.toList=bQ c (ys.map fun z=>z.cps.toList):=by
 unfold Txt.join Builtin.Str.glued
 cases ys with
 | nil=>rfl
 | cons p r=>
  show(r.foldl (fun acc p=>acc++(⟨#[c]⟩:Str).cps++p.cps) p.cps).toList=_
  rw [j4]
  simp [bQ,Function.comp_def]
theorem lY(c:Nat):∀(p:List Nat) (l:List Nat),c∉p→gv c (p++c::l)=p::gv c l
 | [],l,_=>by simp [gv]
 | a::p,l,h=>by
  have h1:a≠c:=fun e=>h (by rw [e];exact List.mem_cons_self)
  have h2:c∉p:=fun e=>h (List.mem_cons_of_mem _ e)
  rw [List.cons_append]
  simp only [gv,h1,if_false]
  rw [lY c p l h2]
theorem ny(c:Nat):∀(p:List Nat),c∉p→gv c p=[p]
 | [],_=>rfl
 | a::p,h=>by
  have h1:a≠c:=fun e=>h (by rw [e];exact List.mem_cons_self)
  have h2:c∉p:=fun e=>h (List.mem_cons_of_mem _ e)
  simp only [gv,h1,if_false]
  rw [ny c p h2]
theorem jj(c:Nat):∀(ps:List (List Nat)),ps≠[]→(∀p∈ps,c∉p)→gv c (bQ c ps)=ps
 | [],h,_=>absurd rfl h
 | [p],_,h=>by
  simp [bQ]
  exact ny c p (h p List.mem_cons_self)
 | p::q::r,_,h=>by
  have ih:=jj c (q::r) (by simp) (fun x hx=>h x (List.mem_cons_of_mem _ hx))
  have e:bQ c (p::q::r)=p++c::bQ c (q::r):=by simp [bQ]
  rw [e,lY c p _ (h p List.mem_cons_self),ih]
end L2
namespace L3
open PySem PySem.Spec PyProof.Rows
theorem eG(l:Bool)(a:Addr)(xs:Array Value):
  Meets (Builtin.«enumerate.__new__» ⟨[.type "enumerate",.ref a],[]⟩) (fun _ R s=>IsSeq l s.heap a xs∧
   R (.ok (.ret (.ref (s.heap.push (itRec l a)).objs.size))) { s with heap:=(s.heap.push (itRec l a)).push { cls:=.type "enumerate",data:=.fields #[.none,.bool false,.ref s.heap.objs.size,rawInt 0,.none,.none] } }):=
 .of_wp fun prog w A R s h=>by
  obtain⟨hp,g,d,tk,os⟩:=s;obtain⟨q1,h⟩:=h
  have hsub:=sub_enumerate
  have u1:IsSeq l (Shared.heap ⟨hp,g,d,tk,os⟩) a xs:=q1
  have tl:∃o,hp.get? a=some o:=by
   cases l
   ·obtain⟨o,e,_⟩:=(show hp.IsTuple a xs from q1);exact⟨o,e⟩
   ·obtain⟨o,e,_⟩:=(show hp.IsList a xs from q1);exact⟨o,e⟩
  obtain⟨ob,hl⟩:=tl
  obtain⟨c,dct,dt,sl⟩:=ob
  wp_walk using AutoSeq1.wpAny_loadPart' hl
  refine wpAny_stack_any fun st=>wpAny_pure ?_
  split
  ·rename_i c _ _ _ _ _
   cases(c == Value.type "enumerate")
   ·wp_walk using AutoSeq1.wpAny_loadPart' hl,i0 u1
    exact⟨_,rfl,h⟩
   ·wp_walk using AutoSeq1.wpAny_loadPart' hl,i0 u1
    exact⟨_,rfl,h⟩
  ·wp_walk using AutoSeq1.wpAny_loadPart' hl,i0 u1
   exact⟨_,rfl,h⟩
section
variable {prog:Program} {w:World} {A:Around} {E:Value→Shared→Prop} {s:Shared}
theorem call_enumerateB{l:Bool}{a:Addr}{xs:Array Value}{Q:Value→Shared→Prop}(hL:IsSeq l s.heap a xs)
  (h:∀h',IsEnum h' (s.heap.objs.size+1) s.heap.objs.size 0 .none→h'.get? s.heap.objs.size=some (itRec l a)→h'.objs.size=s.heap.objs.size+2→
   (∀b o,s.heap.get? b=some o→h'.get? b=some o)→Q (.ref (s.heap.objs.size+1)) { s with heap:=h' }) :
  wpAny (model prog w) A (call (.type "enumerate") [.ref a]) Q E s:=by
 refine callType_new F.called_enumerate (by decide) (F.typeCall_enumerate_1 _) (F.newCall_enumerate_1 _) (fun obj=>F.args_object_init_2 obj _) F.entry_enumerate_new
  (eG l a xs) ⟨hL,?_⟩
 have hz:(s.heap.push (itRec l a)).objs.size=s.heap.objs.size+1:=Heap.size_push ..
 show _∧_
 rw [hz]
 have he:IsEnum ((s.heap.push (itRec l a)).push
   { cls:=.type "enumerate",data:=.fields #[.none,.bool false,.ref s.heap.objs.size,rawInt 0,.none,.none] }) (s.heap.objs.size+1) s.heap.objs.size 0 .none:=by
  have:=Heap.get?_push_size (s.heap.push (itRec l a))
   (o:={ cls:=.type "enumerate",data:=.fields #[.none,.bool false,.ref s.heap.objs.size,rawInt 0,.none,.none] }) rfl
  rw [hz]at this;exact this
 refine⟨⟨_,he,rfl⟩,h _ he (Heap.get?_push_of_some _ (Heap.get?_push_size _ rfl)) (by rw [Heap.size_push,hz]) fun b o x=>Heap.get?_push_of_some _ (Heap.get?_push_of_some _ x)⟩
end
end L3
namespace L2
open PySem PySem.Spec PyProof.Rows
def zI(K:PySem.W.Frag)(l:Bool)(a:Addr):It:=
 ⟨fun i H=>∃xs x,jo K l H a xs∧xs[i]?=some x,
  fun i H v H'=>∃p x,v=.ref p∧H p=none∧H'=upd H p (.tup [.int i,x])∧∀xs,jo K l H a xs→xs[i]?=some x,
  fun i H=>∃xs,jo K l H a xs∧i=xs.length⟩
theorem pK{P:Program}{w:World}{K:PySem.W.Frag}{elts:List Expr}{kt:Nat}{pt:Pos}(l:Bool)(a z it:Addr)(nd:z≠it):
  kE P w K (.Tuple elts kt pt) (zI K l a) [z,it] z (fun i h=>(∃old,IsEnum h z it ((i:Nat):Int) old)∧jt l h it a i):=by
 refine⟨by simp,?_,?_,?_,?_,?_⟩
 ·rintro i h ⟨⟨old,qz⟩,u⟩ c hc
  have hc':c=z∨c=it:=by simpa using hc
  rcases hc' with e | e
  ·subst e;exact⟨_,qz,fun v q=>by cases q⟩
  ·subst e
   exact u.obj
 ·rintro i h h' ⟨⟨old,qz⟩,u⟩ k
  exact⟨⟨old,k z (by simp) _ qz⟩,u.at fun o e=>k it (by simp) o e⟩
 ·rintro X hP hw hK hc i pins s σ H E I hf ⟨⟨old,qz⟩,u⟩ ⟨xs,x,q1,hx⟩
  subst hP hw hK
  have hh:X.A.in1.handled=none:=I.ok.hd hc
  obtain⟨its,r1,p1,z1⟩:=I.seqB q1
  have na:a≠it:=I.seqB_ne q1 (hf it (by simp))
  have nz:a≠z:=I.seqB_ne q1 (hf z (by simp))
  have lx:i < its.toArray.size:=by
   have:=(List.getElem?_eq_some_iff.mp hx).1
   rw [List.size_toArray,←r1.length];exact this
  have hef:z∉[it,a]:=by
   simp only [List.mem_cons,List.not_mem_nil,or_false,not_or]
   exact⟨nd,nz.symm⟩
  refine wpAny_pyNext_enum_itemD (jZ (P:=X.prog) (w:=X.w) hh l it a na its.toArray) qz ⟨u,p1⟩ lx nd hef fun v h' tk ev z' s' pr sz kk=>?_
  obtain⟨w1,g1,rx⟩:=r1.get hx
  have ev1:v=w1:=by
   have:its[i]?=some v:=by simpa using ev
   rw [g1]at this;exact(Option.some.inj this).symm
  subst ev1
  refine⟨_,rfl,wpAny_letOwnedTupleGo_enum (s:={ s with heap:=h',toks:=tk+1 }) z' fun h2 z2 sb=>?_⟩
  have fz:s.heap.objs.size≠z:=Nat.ne_of_gt (Heap.lt_size qz)
  have Hn:H s.heap.objs.size=none:=I.hok.fresh (Nat.le_refl _)
  have kp:∀c o,c∉[z,it]→s.heap.get? c=some o→h2.get? c=some o:=fun c o hc e=>by
   have hc':c≠z∧c≠it:=by simpa [not_or]using hc
   exact(sb.2 c hc'.1).trans (kk c o hc'.1 hc'.2 e)
  have nf:∀{c:Addr} {u:HO},H c=some u→c∉[z,it]:=fun {c u} e hc=>by
   have:=(hf c hc).1
   rw [e]at this;cases this
  have pr2:h2.get? s.heap.objs.size=some { cls:=.type "tuple",data:=.seq #[.int i tk,v] }:=(sb.2 _ fz).trans pr
  have I2:az X pins σ (upd H s.heap.objs.size (.tup [.int i,x])) { s with heap:=h2,toks:=tk+1 }:=by
   refine I.step (g':=s.gens) (d':=s.drawn) (ch:=[z,it]) (fun c hc=>⟨(hf c hc).2.2.2.1,(hf c hc).2.1,(hf c hc).2.2.2.2.1,(hf c hc).2.2.2.2.2⟩) (fun c o _ _ hc e _=>kp c o hc e) (fun c o _ _ hc e _=>⟨o.slots,kp c o hc e⟩)
    (fun c o _ e n=>by rw [ai (Nat.ne_of_lt (Heap.lt_size e))];exact n) (fun c o hc e=>⟨o,kp c o hc e⟩) (fun c us e=>by rw [ai (aq e Hn)];exact e) (fun c o u e=>by rw [ai (aq e Hn)];exact e)
    (fun c ps e=>⟨#[],by rw [ai (aq e Hn),e];simp⟩) (fun m hm=>?_) (fun c u e=>?_) I.bare
   ·obtain⟨o,es,ep,ho,r⟩:=hm
    exact⟨o,es,ep,kp _ o (fun q=>(hf _ q).2.1 rfl) ho,r⟩
   ·by_cases hcs:c=s.heap.objs.size
    ·subst hcs
     rw [ae]at e
     cases e
     exact⟨by rw [sizeLine_eq];show 2≤16777216;omega,[.int i tk,v],.cons ⟨_,rfl⟩ (.cons rx .nil),_,pr2,rfl,_,rfl⟩
    ·rw [ai hcs]at e
     refine(I.hok c u e).stay (fun d o hd q=>kp d o ?_ q) (fun d q=>by rw [ai (aq q Hn)];exact q) fun d us q=>by rw [ai (aq q Hn)];exact q
     rcases hd with hd | hd
     ·rw [hd];exact nf e
     ·exact nf hd
  refine⟨.ref s.heap.objs.size,_,I2,rfl,⟨_,x,rfl,Hn,rfl,fun us hu=>by rw [I.seqB_inj hu q1];exact hx⟩,⟨⟨v,?_⟩,?_⟩,fun c hc=>?_⟩
  ·have e:(((i+1:Nat)):Int)=(i:Int)+1:=by omega
   rw [e];exact z2
  ·exact s'.1.at fun o e=>(sb.2 _ nd.symm).trans e
  ·show upd H s.heap.objs.size (.tup [.int i,x]) c=none
   have lt:c < s.heap.objs.size:=by
    have hc':c=z∨c=it:=by simpa using hc
    rcases hc' with e | e
    ·subst e;exact Heap.lt_size qz
    ·subst e;obtain⟨o,e,_⟩:=u.obj;exact Heap.lt_size e
   rw [ai (Nat.ne_of_lt lt)]
   exact(hf c hc).1
 ·rintro X hP hw hK hc i pins s σ H E I hf ⟨⟨old,qz⟩,u⟩ ⟨xs,q1,hend⟩
  subst hP hw hK
  have hh:X.A.in1.handled=none:=I.ok.hd hc
  obtain⟨its,r1,p1,z1⟩:=I.seqB q1
  have na:a≠it:=I.seqB_ne q1 (hf it (by simp))
  have ei:i=its.toArray.size:=by rw [List.size_toArray,←r1.length];exact hend
  subst ei
  obtain⟨f0,f1,f2,f3,f4,f5⟩:=hf it (by simp)
  exact wpAny_pyNext_enum_endD (jZ (P:=X.prog) (w:=X.w) hh l it a na its.toArray) qz ⟨u,p1⟩ fun h' k=>⟨rfl,I.turned (t':=s.toks) (fun b o hb e=>k b o hb e) f0 f1 f3 f4 f5⟩
 ·rintro A i s Q E ⟨⟨old,qz⟩,_⟩ h
  exact wpAny_pyIter_enum qz h
def td(K:PySem.W.Frag)(ta:TA):TI:=fun σ H R=>ta σ H fun vs H1=>∃a,vs=[.ref a]∧∃l,(∃xs,jo K l H1 a xs)∧R (zI K l a) H1
theorem ua{X:Cx}{elts:List Expr}{kt:Nat}{pt:Pos}{a:Expr}{ta:TA}{p pos:Pos}(hg:Gl X "enumerate")(hm:X.mg "enumerate"=none)(ha:PA X [a] ta)(hs:starEach [a] X.env=[(false,eval a X.env)]:=by rfl):
  PI X (.Tuple elts kt pt) (.Call (.Name "enumerate" p) [a] [] pos) (td X.K ta):=by
 intro pins s σ H R I h
 refine Call_ (eE I hg hm boot_enumerate (PyProof.Rows.callWith_type1 (bz (ha pos pins s σ H _ I h) fun us s1 ⟨vs,H1,I1,r1,q1⟩=>?_) hs rfl))
 obtain⟨a1,e,l,⟨xs,q1⟩,q⟩:=q1
 subst e
 obtain⟨u,rfl,e1⟩:=du r1
 cases e1
 obtain⟨its1,r1,p1,z1⟩:=I1.seqB q1
 refine L3.call_enumerateB p1 fun h' qz qI sz kp=>wpAny_pyIter_enum qz ?_
 refine⟨s1.heap.objs.size+1,[s1.heap.objs.size+1,s1.heap.objs.size],_,_,H1,rfl,I1.kept (h':=h') (t':=s1.toks) kp,pK l a1 _ _ (Nat.succ_ne_self _),⟨⟨_,qz⟩,jt.rec qI⟩,fun c hc=>?_,q⟩
 have hc':s1.heap.objs.size≤c:=by
  have:c=s1.heap.objs.size+1∨c=s1.heap.objs.size:=by simpa using hc
  rcases this with e | e<;>(rw [e];first | exact Nat.le_refl _ | exact Nat.le_add_right _ _)
 exact I1.fpOk hc' (I1.hok.fresh hc')
theorem oo{g:TG}{tb:TS}{D:fk}{σ:St}{H:Hp}{K:PySem.W.Frag}{l:Bool}{a:Addr}{us:List V}(Pv:Nat→St→Hp→Prop)(h0:Pv 0 σ H)(hl:∀i σ H,i≤us.length→Pv i σ H→jo K l H a us)
  (hs:∀i x σ H p,us[i]?=some x→Pv i σ H→H p=none→g (.ref p) σ (upd H p (.tup [.int i,x])) fun σ2 H2=>tb { D with nx:=Pv (i+1),ct:=Pv (i+1),bk:=D.nx } σ2 H2) (hd:∀σ H,Pv us.length σ H→D.nx σ H):qu g tb D σ (zI K l a) H:=by
 refine⟨fun i m σ H=>m=us.length - i∧i≤us.length∧Pv i σ H,⟨us.length,by simp,Nat.zero_le _,h0⟩,?_⟩
 rintro i m σ H ⟨rfl,hi,p⟩
 have q1:=hl i σ H hi p
 by_cases hlt:i < us.length
 ·refine .inr ⟨⟨us,us[i],q1,by simp [hlt]⟩,Pv (i+1),fun σ' H' p'=>⟨us.length - (i+1),by omega,rfl,hlt,p'⟩,fun x H' y=>?_⟩
  obtain⟨pp,u,e,hp,e2,y1⟩:=y
  subst e e2
  exact hs i u σ H pp (y1 us q1) p hp
 ·have e:i=us.length:=by omega
  subst e
  exact .inl ⟨⟨us,q1,rfl⟩,hd σ H p⟩
structure kB(K:PySem.W.Frag)(x qual:Str)(st:Stmt)(f:Addr)(fd:FuncData)(T:Addr):Prop where
 ex:∃(oc:Value) (od:Option Addr) (kV doc pm:Value) (an:Option Addr) (cdv ct:Value) (osl:Array (Option Value)),
  fd=PySem.W.fnOf x qual (bV st) (bq st) (ak st) (.ref T) kV doc pm an cdv ct∧K.lookup f=some ⟨oc,od,.func fd,osl⟩∧PySem.W.codeIn K cdv qual=true
 kp:PySem.W.keepIn K (.ref f)=true
section
variable {P:Program} {w:World} {K:PySem.W.Frag} {mg:Str→Option Value} {base:Heap}
theorem kB.ok{x qual:Str}{st:Stmt}{f:Addr}{fd:FuncData}{T:Addr}{N ps:List Str}{k:Nat}{sp:Sp}(F:kB K x qual st f fd T)(S:av N ps (ak st))(len:∀vs H Q E,sp vs H Q E→vs.length=ps.length)
  (hbody:∀(cdv:Value) (A:Around) (outer:List Env) (s:Shared) (H:Hp) (vs:List V) (Q:VK) (E:XK),bO k (A.deeper (envOfC qual (ak st) s.heap.objs.size f cdv))→sp vs H Q E→
   ∃t,nL (gH b8 P w K mg base N qual (ak st) f cdv A outer s H E).nox (bq st) t∧t { nx:=fun _ H'=>Q .non H',rt:=Q } (start N vs) H):aE P w K mg base b8 (k+1) f fd ps sp:=by
 obtain⟨oc,od,kV,doc,pm,an,cdv,ct,osl,rfl,lk,hcd⟩:=F.ex
 refine sW lk hcd S len fun A outer s H vs Q E hr hsp=>?_
 obtain⟨t,h,q⟩:=hbody cdv A outer s H vs Q E hr hsp
 exact⟨t,h.nox,q⟩
end
structure zH(P:Program)(w:World)(K:PySem.W.Frag)(mg:Str→Option Value)(base:Heap)(x:Str)(k:Nat)(ps:List Str)(sp:Sp)(dvs:List V):Prop where
 ex:∃(f:Addr) (fd:FuncData) (ds:List Value),aE P w K mg base b8 k f fd ps sp∧mg x=some (.ref f)∧PySem.W.keepIn K (.ref f)=true∧bT K fd ps ds∧aC dvs ds
section
variable {X:Cx} {k:Nat} {ps:List Str} {sp:Sp} {x:Str} {p pos:Pos} {e:Expr} {es:List Expr} {t:TA} {dvs:List V}
end
structure sk(K:PySem.W.Frag)(x:Str)(st:Stmt)(f:Addr)(fd:FuncData)(u:Value):Prop where
 ns:PySem.W.nsIn K mainGlobals x=some (some (.ref f))
 fn:∃(T:Addr) (o:Obj) (n:Nat),kB K x x st f fd T∧K.lookup T=some o∧o.data=.seq #[u] n
theorem kB.binds{K:PySem.W.Frag}{x qual:Str}{st:Stmt}{f T:Addr}{fd:FuncData}{ps:List Str}(F:kB K x qual st f fd T){o:Obj}{u:Value}{n:Nat}(t:K.lookup T=some o)(d:o.data=.seq #[u] n)
  (h:∀(kV doc pm:Value) (an:Option Addr) (cdv ct:Value) (us:List Value),us.length=ps.length→
   ∃k:Option (Array Value)→Sem (List (Str×Value)),bindArgs (PySem.W.fnOf x qual (bV st) (bq st) (ak st) (.ref T) kV doc pm an cdv ct) ⟨us,[]⟩=seqItems? (.ref T) >>= k∧k (some #[u])=pure (ps.zip us)):bT K fd ps []:=by
 obtain⟨oc,od,kV,doc,pm,an,cdv,ct,osl,rfl,lk,hcd⟩:=F.ex
 intro s us X hl
 rw [List.append_nil]at hl ⊢
 obtain⟨k,h1,h2⟩:=h kV doc pm an cdv ct us hl
 exact BindsTo.of_defaults (T:=T) rfl (X _ _ t) d h1 h2
theorem kB.bindsD{K:PySem.W.Frag}{x qual:Str}{st:Stmt}{f T:Addr}{fd:FuncData}{ps:List Str}(F:kB K x qual st f fd T){o:Obj}{u:Value}{n:Nat}(t:K.lookup T=some o)(d:o.data=.seq #[u] n)
  (h:∀(kV doc pm:Value) (an:Option Addr) (cdv ct:Value) (us:List Value),us.length+1=ps.length→
   ∃k:Option (Array Value)→Sem (List (Str×Value)),bindArgs (PySem.W.fnOf x qual (bV st) (bq st) (ak st) (.ref T) kV doc pm an cdv ct) ⟨us,[]⟩=seqItems? (.ref T) >>= k∧k (some #[u])=pure (ps.zip (us++[u]))):bT K fd ps [u]:=by
 obtain⟨oc,od,kV,doc,pm,an,cdv,ct,osl,rfl,lk,hcd⟩:=F.ex
 intro s us X hl
 obtain⟨k,h1,h2⟩:=h kV doc pm an cdv ct us (by rw [←hl,List.length_append];rfl)
 exact BindsTo.of_defaults (T:=T) rfl (X _ _ t) d h1 h2
end L2
namespace L2
open PySem PySem.Spec PyProof.Rows
def iA(K:PySem.W.Frag)(H:Hp):Nat→V→V→Bool→Prop
 | 0,x,y,b=>(c5 x=true∧c5 y=true∧b=n9 x y)∨∃a,x=.ref a∧y=.ref a∧b=true
 | n+1,x,y,b=>iA K H 0 x y b∨∃(a c:Addr) (l:Bool) (xs ys:List V) (e:Nat→Bool),x=.ref a∧y=.ref c∧a≠c∧jo K l H a xs∧jo K l H c ys∧
   (∀j x y,xs[j]?=some x→ys[j]?=some y→iA K H n x y (e j))∧b=((List.range (min xs.length ys.length)).all e && xs.length == ys.length)
theorem iA.flat{K:PySem.W.Frag}{H:Hp}{n:Nat}{x y:V}(fx:c5 x=true)(fy:c5 y=true):iA K H n x y (n9 x y):=by
 cases n
 ·unfold iA;exact .inl ⟨fx,fy,rfl⟩
 ·unfold iA;refine .inl ?_;unfold iA;exact .inl ⟨fx,fy,rfl⟩
theorem iA.same{K:PySem.W.Frag}{H:Hp}{n:Nat}{a:Addr}:iA K H n (.ref a) (.ref a) true:=by
 cases n
 ·unfold iA;exact .inr ⟨a,rfl,rfl,rfl⟩
 ·unfold iA;refine .inl ?_;unfold iA;exact .inr ⟨a,rfl,rfl,rfl⟩
section
variable {X:Cx} {pins:List (Addr×Obj)} {σ:St} {H:Hp} {s:Shared}
theorem dY{xs:List V}{us:List Value}(r:aC xs us){j:Nat}(h:j < us.toArray.size):∃x,xs[j]?=some x∧aG x us.toArray[j]:=by
 have l1:=r.length
 simp only [List.size_toArray]at h
 have hx:j < xs.length:=by omega
 obtain⟨u,e1,r1⟩:=aC.get r (i:=j) (x:=xs[j]) (by simp [hx])
 have g1:us.toArray[j]=u:=by simpa [h]using e1
 exact⟨xs[j],by simp [hx],by rw [g1];exact r1⟩
theorem uv{A:Around}{l:Bool}{a c:Addr}{xs ys:List V}{us vs:List Value}{e:Nat→Bool}(rx:aC xs us)(ry:aC ys vs)(p1:L3.IsSeq l s.heap a us.toArray)(p2:L3.IsSeq l s.heap c vs.toArray)(hu:A.units < cLine)
  (he:∀j (h1:j < us.toArray.size) (h2:j < vs.toArray.size),SeqAt.EqAt A.in1 s us.toArray[j] vs.toArray[j] (e j)):SeqAt.RcAt A s (.ref a) (.ref c) ((List.range (min xs.length ys.length)).all e && xs.length == ys.length):=by
 have s1:us.toArray.size=xs.length:=by rw [List.size_toArray,rx.length]
 have s2:vs.toArray.size=ys.length:=by rw [List.size_toArray,ry.length]
 cases l
 ·have:=SeqAt.RcAt.tuples (show s.heap.IsTuple a us.toArray from p1) (show s.heap.IsTuple c vs.toArray from p2) hu he
  rw [s1,s2]at this
  exact this
 ·by_cases hl:xs.length=ys.length
  ·have:=SeqAt.RcAt.lists (show s.heap.IsList a us.toArray from p1) (show s.heap.IsList c vs.toArray from p2) (by rw [s1,s2,hl]) hu he
   rw [s1]at this
   rw [hl,Nat.min_self,beq_self_eq_true,Bool.and_true,←hl]
   exact this
  ·have:=SeqAt.RcAt.lists_lengths (show s.heap.IsList a us.toArray from p1) (show s.heap.IsList c vs.toArray from p2) (by rw [s1,s2];simpa using hl) hu
   rw [show(xs.length == ys.length)=false by simpa using hl,Bool.and_false]
   exact this
theorem uw{A:Around}{l:Bool}{a c:Addr}{xs ys:List V}{us vs:List Value}{e:Nat→Bool}(rx:aC xs us)(ry:aC ys vs)(p1:L3.IsSeq l s.heap a us.toArray)(p2:L3.IsSeq l s.heap c vs.toArray)(hu:A.units < cLine)
  (he:∀j (h1:j < us.toArray.size) (h2:j < vs.toArray.size),SeqAt.EqAt A.in1 s us.toArray[j] vs.toArray[j] (e j)):SeqAt.RcNeAt A s (.ref a) (.ref c) (!((List.range (min xs.length ys.length)).all e && xs.length == ys.length)):=by
 have s1:us.toArray.size=xs.length:=by rw [List.size_toArray,rx.length]
 have s2:vs.toArray.size=ys.length:=by rw [List.size_toArray,ry.length]
 cases l
 ·have:=SeqAt.RcNeAt.tuples (show s.heap.IsTuple a us.toArray from p1) (show s.heap.IsTuple c vs.toArray from p2) hu he
  rw [s1,s2]at this
  exact this
 ·by_cases hl:xs.length=ys.length
  ·have:=SeqAt.RcNeAt.lists (show s.heap.IsList a us.toArray from p1) (show s.heap.IsList c vs.toArray from p2) (by rw [s1,s2,hl]) hu he
   rw [s1]at this
   rw [hl,Nat.min_self,beq_self_eq_true,Bool.and_true,←hl]
   exact this
  ·have:=SeqAt.RcNeAt.lists_lengths (show s.heap.IsList a us.toArray from p1) (show s.heap.IsList c vs.toArray from p2) (by rw [s1,s2];simpa using hl) hu
   rw [show(xs.length == ys.length)=false by simpa using hl,Bool.and_false]
   exact this
theorem iA.at(I:az X pins σ H s):∀{n:Nat} {A:Around} {x y:V} {u v:Value} {b:Bool},A.units+n < cLine→aG x u→aG y v→iA X.K H n x y b→SeqAt.EqAt A s u v b:=by
 have z0:∀{A:Around} {x y:V} {u v:Value} {b:Bool},aG x u→aG y v→iA X.K H 0 x y b→SeqAt.EqAt A s u v b:=by
  intro A x y u v b rx ry h
  unfold iA at h
  rcases h with⟨fx,fy,rfl⟩ | ⟨a,rfl,rfl,rfl⟩
  ·exact sU rx ry fx fy
  ·cases rx;cases ry;exact SeqAt.EqAt.same _
 intro n
 induction n with
 | zero=>intro A x y u v b _ rx ry h;exact z0 rx ry h
 | succ n ih=>
  intro A x y u v b hu rx ry h
  unfold iA at h
  rcases h with h | ⟨a,c,l,xs,ys,e,rfl,rfl,ne,h1,h2,he,rfl⟩
  ·exact z0 rx ry h
  ·cases rx;cases ry
   obtain⟨us,r1,p1,_⟩:=I.seqB h1
   obtain⟨vs,r2,p2,_⟩:=I.seqB h2
   refine SeqAt.EqAt.of_refs ne (uv r1 r2 p1 p2 (by omega) fun j j1 j2=>?_)
   obtain⟨x,ex,rx⟩:=dY r1 j1
   obtain⟨y,ey,ry⟩:=dY r2 j2
   exact ih (A:=A.in1) (by show A.units+1+n < cLine;omega) rx ry (he j x y ex ey)
def wx(K:PySem.W.Frag)(H:Hp)(n:Nat)(x y:V)(b:Bool):Prop:=∃(a c:Addr) (l:Bool) (xs ys:List V) (e:Nat→Bool),x=.ref a∧y=.ref c∧jo K l H a xs∧jo K l H c ys∧
 (∀j x y,xs[j]?=some x→ys[j]?=some y→iA K H n x y (e j))∧b=((List.range (min xs.length ys.length)).all e && xs.length == ys.length)
theorem xE(n:Nat)(hu:X.A.units+n+1 < cLine):cc X (compareOp .Eq) (fun x y H Q=>∃b,wx X.K H n x y b∧Q (.bl b) H):=by
 intro pins s σ H x y v u Q I rx ry h
 obtain⟨b,⟨a,c,l,xs,ys,e,rfl,rfl,h1,h2,he,rfl⟩,q⟩:=h
 cases rx;cases ry
 obtain⟨us,r1,p1,_⟩:=I.seqB h1
 obtain⟨vs,r2,p2,_⟩:=I.seqB h2
 refine uv (A:=X.A) r1 r2 p1 p2 (by omega) (fun j j1 j2=>?_) X.prog X.w X.xe _ (aR I q rfl)
 obtain⟨x,ex,rx⟩:=dY r1 j1
 obtain⟨y,ey,ry⟩:=dY r2 j2
 exact iA.at I (A:=X.A.in1) (by show X.A.units+1+n < cLine;omega) rx ry (he j x y ex ey)
theorem xF(n:Nat)(hu:X.A.units+n+1 < cLine):cc X (compareOp .NotEq) (fun x y H Q=>∃b,wx X.K H n x y b∧Q (.bl (!b)) H):=by
 intro pins s σ H x y v u Q I rx ry h
 obtain⟨b,⟨a,c,l,xs,ys,e,rfl,rfl,h1,h2,he,rfl⟩,q⟩:=h
 cases rx;cases ry
 obtain⟨us,r1,p1,_⟩:=I.seqB h1
 obtain⟨vs,r2,p2,_⟩:=I.seqB h2
 refine uw (A:=X.A) r1 r2 p1 p2 (by omega) (fun j j1 j2=>?_) X.prog X.w X.xe _ (aR I q rfl)
 obtain⟨x,ex,rx⟩:=dY r1 j1
 obtain⟨y,ey,ry⟩:=dY r2 j2
 exact iA.at I (A:=X.A.in1) (by show X.A.units+1+n < cLine;omega) rx ry (he j x y ex ey)
def gd(K:PySem.W.Frag):R2:=fun x y H Q=>ke x y H Q∨∃b,wx K H 4 x y b∧Q (.bl b) H
def fG(K:PySem.W.Frag):R2:=fun x y H Q=>kg x y H Q∨∃b,wx K H 4 x y b∧Q (.bl (!b)) H
theorem yn{A:Around}{k:Nat}(hr:bO k A):A.units+4+1 < cLine:=Nat.lt_of_le_of_lt (Nat.add_le_add_left (by decide:5≤64) _) hr.units
theorem yN(K:PySem.W.Frag)(hu:X.A.units+4+1 < cLine)(h:X.K=K:=by rfl):cc X (compareOp .Eq) (gd K):=h▸opEq.or (xE 4 hu)
theorem yR(K:PySem.W.Frag)(hu:X.A.units+4+1 < cLine)(h:X.K=K:=by rfl):cc X (compareOp .NotEq) (fG K):=h▸opNe.or (xF 4 hu)
end
theorem rEqC_ii{K:PySem.W.Frag}{i j:Int}{H:Hp}{Q:VK}:gd K (.int i) (.int j) H Q↔Q (.bl (decide (i=j))) H:=by simp [gd,lE,wx]
theorem qf{K:PySem.W.Frag}{i j:Int}{H:Hp}{Q:VK}:fG K (.int i) (.int j) H Q↔Q (.bl (!decide (i=j))) H:=by simp [fG,lH,wx]
theorem qb{K:PySem.W.Frag}{i j:Str}{H:Hp}{Q:VK}:gd K (.str i) (.str j) H Q↔Q (.bl (decide (i=j))) H:=by simp [gd,lF,wx]
theorem rNeC_ss{K:PySem.W.Frag}{i j:Str}{H:Hp}{Q:VK}:fG K (.str i) (.str j) H Q↔Q (.bl (!decide (i=j))) H:=by simp [fG,lI,wx]
theorem wK(K:PySem.W.Frag):sh (gd K)=gd K:=tF (fun _ _ _ _=>rEqC_ii) (fun _ _ _ _=>qb)
theorem wM(K:PySem.W.Frag):si (fG K)=fG K:=tH (fun _ _ _ _=>qf) (fun _ _ _ _=>rNeC_ss)
theorem xl{K:PySem.W.Frag}{x y:V}{H:Hp}{Q:VK}:sh (gd K) x y H Q↔gd K x y H Q:=by rw [wK]
theorem xn{K:PySem.W.Frag}{x y:V}{H:Hp}{Q:VK}:si (fG K) x y H Q↔fG K x y H Q:=by rw [wM]
theorem xv{X:Cx}(K:PySem.W.Frag)(hu:X.A.units+4+1 < cLine)(h:X.K=K:=by rfl):cc X (compareOp .Eq) (sh (gd K)):=by rw [wK];exact yN K hu h
theorem xw{X:Cx}(K:PySem.W.Frag)(hu:X.A.units+4+1 < cLine)(h:X.K=K:=by rfl):cc X (compareOp .NotEq) (si (fG K)):=by rw [wM];exact yR K hu h
end L2
namespace L2
open PySem PySem.Spec PyProof.Rows
structure er(P:Program)(w:World)(K:PySem.W.Frag)(mg:Str→Option Value)(base:Heap)(k:Nat)(f:Addr)(ps:List Str)(sp:Sp):Prop where
 ex:∃fd:FuncData,aE P w K mg base b8 k f fd ps sp∧PySem.W.keepIn K (.ref f)=true∧bT K fd ps []
structure aH(P:Program)(w:World)(K:PySem.W.Frag)(mg:Str→Option Value)(base:Heap)(C:Addr)(m:Str)(k:Nat)(ps:List Str)(sp:Sp):Prop where
 cl:ky K C
 ex:∃(f:Addr) (fd:FuncData),w8 K C m f∧aE P w K mg base b8 k f fd ps sp∧bT K fd ps []
structure wu(K:PySem.W.Frag)(C:Addr)(m:Str)(f:Addr):Prop where
 rd:PySem.W.readsIn K C (.type "type")=true
 at_:PySem.W.findCls K (.ref C) (.type "type") m=some (.val (.ref f))
 ga:PySem.W.specialIn K (.ref C) "__getattribute__"=some (some (.builtin "type.__getattribute__"))
 kp:PySem.W.keepIn K (.ref f)=true
structure kz(P:Program)(w:World)(K:PySem.W.Frag)(mg:Str→Option Value)(base:Heap)(x m:Str)(k:Nat)(ps:List Str)(sp:Sp):Prop where
 ex:∃(C f:Addr) (fd:FuncData),mg x=some (.ref C)∧wu K C m f∧aE P w K mg base b8 k f fd ps sp∧bT K fd ps []
structure dP(P:Program)(w:World)(K:PySem.W.Frag)(mg:Str→Option Value)(base:Heap)(x:Str)(C:Addr)(k:Nat)(ps:List Str)(sp:Sp):Prop where
 ex:∃(f:Addr) (fd:FuncData),Mk K C f∧aE P w K mg base b8 k f fd ps sp∧mg x=some (.ref C)∧bT K fd ps []
section
variable {P:Program} {w:World} {K:PySem.W.Frag} {mg:Str→Option Value} {base:Heap} {j k:Nat} {ps:List Str} {sp:Sp} {x m:Str} {C f:Addr}
theorem er.up(d:er P w K mg base j f ps sp)(h:j≤k):er P w K mg base k f ps sp:=let ⟨fd,F,b,c⟩:=d.ex;⟨fd,F.mono h,b,c⟩
theorem aH.up(d:aH P w K mg base C m j ps sp)(h:j≤k):aH P w K mg base C m k ps sp:=let ⟨f,fd,a,F,c⟩:=d.ex;⟨d.cl,f,fd,a,F.mono h,c⟩
theorem dP.up(d:dP P w K mg base x C j ps sp)(h:j≤k):dP P w K mg base x C k ps sp:=let ⟨f,fd,a,F,b,c⟩:=d.ex;⟨f,fd,a,F.mono h,b,c⟩
theorem aH.imp{sp':Sp}(d:aH P w K mg base C m k ps sp)(h:∀vs H Q E,sp' vs H Q E→sp vs H Q E):aH P w K mg base C m k ps sp':=let ⟨f,fd,a,F,c⟩:=d.ex;⟨d.cl,f,fd,a,F.imp h,c⟩
end
def pF(P:Program)(w:World)(K:PySem.W.Frag)(mg:Str→Option Value)(base:Heap)(k:Nat)(m:Str)(ta:TE)(t:TA):TE:=fun σ H Q=>ta σ H fun x H1=>∃(a C dx:Addr) (fs:List (Str×V)) (ps:List Str) (sp:Sp),
 x=.ref a∧H1 a=some (.ins C dx fs)∧fs.lookup m=none∧aH P w K mg base C m k ps sp∧t σ H1 fun vs H2=>sp (x::vs) H2 Q E0
def uH(P:Program)(w:World)(K:PySem.W.Frag)(mg:Str→Option Value)(base:Heap)(k:Nat)(tf:TE)(t:TA):TE:=fun σ H Q=>tf σ H fun x H1=>∃(f:Addr) (ps:List Str) (sp:Sp),
 x=.ref f∧er P w K mg base k f ps sp∧t σ H1 fun vs H2=>sp vs H2 Q E0
section
variable {X:Cx} {k:Nat} {f C:Addr} {fd:FuncData} {ps:List Str} {sp:Sp} {x m:Str} {p pos apos:Pos} {e o:Expr} {es:List Expr} {ta:TE} {t:TA}
theorem yZ(P:Program)(w:World)(K:PySem.W.Frag)(mg:Str→Option Value)(base:Heap){pl:Sem Bool}(hr:bO k X.A)(he:PE X o ta)(ha:PA X (e::es) t)(e1:X.prog=P:=by rfl)(e2:X.w=w:=by rfl)(e3:X.K=K:=by rfl)(e4:X.mg=mg:=by rfl)(e5:X.base=base:=by rfl)
  (hst:starEach (e::es) X.env=(false,eval e X.env)::starEach es X.env:=by rfl) (hpl:(backTo pos (starEach es X.env)).any (·.1)=false:=by rfl)
  (ht:eval (.Call (.Attribute o m apos) (e::es) [] pos) X.env=(do
   let ov ←eval o X.env
   standAt apos.atName
   let (f,first) ←holding [ov] (getMethod ov m pl)
   callWith pos f first (backTo pos (starEach (e::es) X.env)) (backToKw pos (keywordEach [] X.env))):=by rfl) :
  PE X (.Call (.Attribute o m apos) (e::es) [] pos) (pF P w K mg base k m ta t):=by
 subst e1 e2 e3 e4 e5
 intro pins s σ H Q I h
 refine PySem.W.methodCall_KW (pl:=pl) (bz (he pins s σ H _ I h) fun u s1 ⟨x,H1,I1,rx,a,C,dx,fs,ps,sp,ex,ea,l,M,q⟩=>?_) ht
 subst ex
 obtain rfl:u=Value.ref a:=rx
 obtain⟨f,fd,hm,F,hb⟩:=M.ex
 refine iX I1 ea M.cl hm l ?_
 refine PySem.W.callWith_K (first:=[.ref a]) (h₀:=X.base) I.ok.mod.kin hm.kp (bz (ha pos pins s1 σ H1 _ I1 q) fun us s2 ⟨vs,H2,I2,r,q2⟩=>⟨I2.kIn,?_⟩) hst hpl
 exact je (us:=.ref a::us) (vs:=.ref a::vs) (dvs:=[]) (E:=E0) F hr hb .nil ka I2 (.cons rfl r) (by rw [List.append_nil];exact q2)
theorem kd(P:Program)(w:World)(K:PySem.W.Frag)(mg:Str→Option Value)(base:Heap){pl:Sem Bool}(hr:bO k X.A)(he:PE X o ta)(e1:X.prog=P:=by rfl)(e2:X.w=w:=by rfl)(e3:X.K=K:=by rfl)(e4:X.mg=mg:=by rfl)(e5:X.base=base:=by rfl)
  (ht:eval (.Call (.Attribute o m apos) [] [] pos) X.env=(do
   let ov ←eval o X.env
   standAt apos.atName
   let (f,first) ←holding [ov] (getMethod ov m pl)
   callWith pos f first (backTo pos (starEach [] X.env)) (backToKw pos (keywordEach [] X.env))):=by rfl) :
  PE X (.Call (.Attribute o m apos) [] [] pos) (pF P w K mg base k m ta wo):=by
 subst e1 e2 e3 e4 e5
 intro pins s σ H Q I h
 refine PySem.W.methodCall_KW (pl:=pl) (bz (he pins s σ H _ I h) fun u s1 ⟨x,H1,I1,rx,a,C,dx,fs,ps,sp,ex,ea,l,M,q⟩=>?_) ht
 subst ex
 obtain rfl:u=Value.ref a:=rx
 obtain⟨f,fd,hm,F,hb⟩:=M.ex
 refine iX I1 ea M.cl hm l ?_
 exact PySem.W.callWith_K0 (first:=[.ref a]) I1.kIn hm.kp (je (us:=[.ref a]) (vs:=[.ref a]) (dvs:=[]) (E:=E0) F hr hb .nil ka I1 (.cons rfl .nil) q)
theorem t5(P:Program)(w:World)(K:PySem.W.Frag)(mg:Str→Option Value)(base:Heap)(hr:bO k X.A)(he:PE X o ta)(ha:PA X (e::es) t)(e1:X.prog=P:=by rfl)(e2:X.w=w:=by rfl)(e3:X.K=K:=by rfl)(e4:X.mg=mg:=by rfl)(e5:X.base=base:=by rfl)
  (hst:starEach (e::es) X.env=(false,eval e X.env)::starEach es X.env:=by rfl) (hpl:(backTo pos (starEach es X.env)).any (·.1)=false:=by rfl)
  (hev:eval (.Call o (e::es) [] pos) X.env=(do callWith pos (←eval o X.env) [] (backTo pos (starEach (e::es) X.env)) (backToKw pos (keywordEach [] X.env))):=by rfl) :
  PE X (.Call o (e::es) [] pos) (uH P w K mg base k ta t):=by
 subst e1 e2 e3 e4 e5
 intro pins s σ H Q I h
 refine Call_ (bz (he pins s σ H _ I h) fun u s1 ⟨x,H1,I1,rx,f,ps,sp,ex,M,q⟩=>?_) hev
 subst ex
 obtain rfl:u=Value.ref f:=rx
 obtain⟨fd,F,hk,hb⟩:=M.ex
 refine PySem.W.callWith_K (h₀:=X.base) I.ok.mod.kin hk (bz (ha pos pins s1 σ H1 _ I1 q) fun us s2 ⟨vs,H2,I2,r,q2⟩=>⟨I2.kIn,?_⟩) hst hpl
 exact je (us:=us) (vs:=vs) (dvs:=[]) (E:=E0) F hr hb .nil ka I2 r (by rw [List.append_nil];exact q2)
theorem dW{pl:Sem Bool}(d:kz X.prog X.w X.K X.mg X.base x m k ps sp)(hr:bO k X.A)(hg:Gl X x)(ha:PA X (e::es) t)(hdb:(x == ("__debug__":Str))=false:=by decide)
  (hst:starEach (e::es) X.env=(false,eval e X.env)::starEach es X.env:=by rfl) (hpl:(backTo pos (starEach es X.env)).any (·.1)=false:=by rfl)
  (ht:eval (.Call (.Attribute (.Name x p) m apos) (e::es) [] pos) X.env=(do
   let ov ←eval (.Name x p) X.env
   standAt apos.atName
   let (f,first) ←holding [ov] (getMethod ov m pl)
   callWith pos f first (backTo pos (starEach (e::es) X.env)) (backToKw pos (keywordEach [] X.env))):=by rfl) :
  PE X (.Call (.Attribute (.Name x p) m apos) (e::es) [] pos) (ko sp [] E0 t):=by
 obtain⟨C,f,fd,hm,c,F,hb⟩:=d.ex
 intro pins s σ H Q I h
 refine PySem.W.methodCall_KW (pl:=pl) (fb I hg hm ?_ hdb) ht
 refine PySem.W.method_cls I.kIn c.ga (PySem.W.cls_value I.kIn c.rd c.at_ rfl ?_)
 have I1:=I.tok (s.toks+1)
 refine PySem.W.callWith_K (first:=[]) (h₀:=X.base) I.ok.mod.kin c.kp (bz (ha pos pins _ σ H _ I1 h) fun us s2 ⟨vs,H2,I2,r,q2⟩=>⟨I2.kIn,?_⟩) hst hpl
 exact je (us:=us) (vs:=vs) F hr hb .nil ka I2 r q2
theorem ig(d:dP X.prog X.w X.K X.mg X.base x C k ps sp)(hr:bO (k+1) X.A)(hg:Gl X x)(ha:PA X (e::es) t)(hdb:(x == ("__debug__":Str))=false:=by decide)
  (he:starEach (e::es) X.env=(false,eval e X.env)::starEach es X.env:=by rfl) (hpl:(backTo pos (starEach es X.env)).any (·.1)=false:=by rfl) :
  PE X (.Call (.Name x p) (e::es) [] pos) (uN C sp [] E0 t):=
 let ⟨_,_,M,F,hm,hb⟩:=d.ex;vQ M F hr hg hm hb .nil ka ha hdb he hpl
end
def gB(K:PySem.W.Frag)(a:Addr)(D:List (Str×V)):Prop:=(a == sysModules)=false∧∃o es ep,K.lookup a=some o∧o.ExactDict∧o.data=.dict es ep∧KTD.Rows aG es.toList D
section
variable {prog:Program} {w:World} {A:Around} {E:Value→Shared→Prop} {s:Shared} {K:PySem.W.Frag} {a:Addr} {D:List (Str×V)} {k:Str} {tk:Tok}
theorem gB.typeIs(X:K.In s.heap)(T:gB K a D):s.TypeIs (.ref a) "dict":=let ⟨_,o,_,_,ho,hc,_⟩:=T;⟨o,X _ _ ho,hc.1⟩
theorem ic{Q:Option Value→Shared→Prop}(X:K.In s.heap)(T:gB K a D)(h1:∀d v,KTD.datumAt k D=some d→aG d v→Q (some v) { s with toks:=s.toks+1 })(h2:KTD.datumAt k D=none→Q none { s with toks:=s.toks+1 }):
  wpAny (model prog w) A (dictGet a (.str k tk)) Q E s:=by
 obtain⟨_,o,es,ep,ho,hc,hd,hr⟩:=T
 have ho:=X _ _ ho
 unfold dictGet
 try with_reducible refine wpAny_holding ?_
 refine wpAny_bind (wpAny_pyHash_str (wpAny_bind (KTD.kt_dictFind_strs (s:={ s with toks:=s.toks+1 }) ho hd (by obtain⟨l⟩:=es;simpa using hr.exact) ?_)))
 have hq:Q (findBy (fun k v=>v.isStr k) es k) { s with toks:=s.toks+1 }:=by
  have hf:findBy (fun k v=>v.isStr k) es k=(es.toList.find? fun e=>e.key.isStr k).map (·.val):=by
   obtain⟨l⟩:=es
   simp [findBy]
  rw [hf]
  cases hat:KTD.datumAt k D with
  | some d=>obtain⟨v,hv,hfl⟩:=hr.find_some hat;rw [hv];exact h1 d v hat hfl
  | none=>rw [hr.find_none hat];exact h2 hat
 rw [findBy_of_findIdx?]at hq
 cases hi:es.findIdx? fun e=>e.key.isStr k with
 | none=>rw [hi]at hq;exact wpAny_pure hq
 | some i=>rw [hi]at hq;exact wpAny_bind (wpAny_dictEntries (s:={ s with toks:=s.toks+1 }) ho hd (wpAny_pure hq))
theorem rA{Q:Value→Shared→Prop}(X:K.In s.heap)(T:gB K a D)(h:Q (.bool (!(KTD.datumAt k D).isSome)) { s with toks:=s.toks+1 }):wpAny (model prog w) A (compareOp .NotIn (.str k tk) (.ref a)) Q E s:=by
 have ty:=T.typeIs X
 show wpAny _ _ (do return .bool (!(←contains (.ref a) (.str k tk)))) Q E s
 refine wpAny_bind ?_
 unfold contains
 try with_reducible refine wpAny_holding ?_
 refine wpAny_bind (wpAny_specialOf ty F.slot_dict_contains.lookup ?_)
 show wpAny _ _ (if (some (Value.builtin "dict.__contains__") == some Value.none)=true then _ else _) _ E s
 rw [if_neg (by rw [beq_builtin_none];exact Bool.false_ne_true)]
 refine wpAny_bind (wpAny_callSpecialUnlessNone?_slot (name:=Str.ofString "__contains__") ty F.slot_dict_contains
  (wpAny_call_entry F.slot_dict_contains ty F.entry_dict_contains ?_ (F.args_dict_contains_2 _ _)))
 show wpAny _ _ (dictGet a (.str k tk) >>= _) _ _ s
 refine wpAny_bind (ic X T (fun d v ha _=>?_) fun hn=>?_)
 ·rw [ha]at h
  show wpAny _ _ (ret (.bool true)) _ _ _
  exact wpAny_pure ⟨_,rfl,wpAny_truthy_bool (wpAny_pure h)⟩
 ·rw [hn]at h
  show wpAny _ _ (Builtin.Dict.pendingKey? a (.str k tk) >>= _) _ _ _
  exact wpAny_bind (wpAny_pendingKey_other T.1 (wpAny_pure ⟨_,rfl,wpAny_truthy_bool (wpAny_pure h)⟩))
theorem tu{value slice:Expr}{v:V}{Q:Value→Shared→Prop}(X:K.In s.heap)(T:gB K a D)(hv:KTD.datumAt k D=some v)(h:∀u,aG v u→Q u { s with toks:=s.toks+1 })
  (hs:subscripted slice false (.ref a) (.str k tk)=operate [.ref a,.str k tk] (getItem (.ref a) (.str k tk))) (hg:∀r,letTemporaryGo value (.ref a) r=pure ()) :
  wpAny (model prog w) A (subscriptTail value slice (.ref a) (.str k tk)) Q E s:=by
 have ty:=T.typeIs X
 refine subscriptTail_builtin ty F.slot_dict_getitem.lookup ?_ hs hg
 unfold getItem
 try with_reducible refine wpAny_holding ?_
 refine wpAny_bind (wpAny_sequenceKey ty (by decide) ?_)
 refine wpAny_bind (wpAny_callSpecial?_slot (name:=Str.ofString "__getitem__") ty F.slot_dict_getitem
  (wpAny_call_entry F.slot_dict_getitem ty F.entry_dict_getitem ?_ (F.args_dict_getitem_2 _ _)))
 show wpAny _ _ (dictGet a (.str k tk) >>= _) _ _ s
 refine wpAny_bind (ic X T (fun d v' ha hr=>?_) fun hn=>?_)
 ·rw [hv]at ha
  cases ha
  exact wpAny_pure ⟨v',rfl,wpAny_pure (h v' hr)⟩
 ·rw [hv]at hn;cases hn
end
section
variable {X:Cx}
theorem oG(K:PySem.W.Frag)(h:X.K=K:=by rfl):cc X (compareOp .NotIn) (fun x y H Q=>∃k a D,x=.str k∧y=.ref a∧gB K a D∧Q (.bl (!(KTD.datumAt k D).isSome)) H):=by
 subst h
 intro pins s σ H x y v u Q I rx ry h
 obtain⟨k,a,D,rfl,rfl,T,q⟩:=h
 obtain⟨t,rfl⟩:=rx
 cases ry
 exact rA I.kIn T ⟨.bl _,H,I.tok _,rfl,q⟩
theorem t6(K:PySem.W.Frag){x:Str}{p pos:Pos}{b:Expr}{ta tb:TE}(ha:PE X (.Name x p) ta)(hb:PE X b tb)(hs:pP b)(hg:∀v r,letTemporaryGo (.Name x p) v r=pure ():=by intro _ _;with_unfolding_all rfl)(h:X.K=K:=by rfl):
  PE X (.Subscript (.Name x p) b pos) (yc (fun x y H Q=>∃k a D v,x=.str k∧False∨x=.ref a∧y=.str k∧gB K a D∧KTD.datumAt k D=some v∧Q v H) ta tb):=by
 subst h
 intro pins s σ H Q I h
 refine Subscript_ (u7 ha hb I h fun v u s2 x y H2 I2 rx ry q=>?_)
 obtain⟨k,a,D,z,q⟩:=q
 rcases q with q | ⟨rfl,rfl,T,hv,q⟩
 ·exact q.2.elim
 cases rx
 obtain⟨t,rfl⟩:=ry
 exact tu I2.kIn T hv (fun u ru=>⟨z,H2,I2.tok _,ru,q⟩) (hs _ _) (hg _)
end
end L2
namespace L2
open PySem PySem.Spec PyProof.Rows
theorem kY{a b:String}:(Str.ofString a=Str.ofString b)↔a=b:=by
 constructor
 ·intro h
  rw [Str.ofString_eq_toList,Str.ofString_eq_toList]at h
  have h1:(a.toList.map Char.toNat)=(b.toList.map Char.toNat):=by
   have:=congrArg (fun s:Str=>s.cps.toList) h
   simpa using this
  have h2:a.toList=b.toList:=by
   refine List.map_inj_right (f:=Char.toNat) (fun x y e=>?_) |>.mp h1
   exact Char.toNat_inj.mp e
  exact String.toList_inj.mp h2
 ·intro h;rw [h]
def ofI:Option Int→V
 | none=>.non
 | some i=>.int i
def di(us:List Int)(v:Int):Int:=us.getD (v - 1).toNat 0
structure ik where
 size:Int
 start:Int
 after:Int→Option (List Int)→List Int→Option Int
 closes:Int→Option (List Int)→Bool
abbrev kC:=Addr→Hp→Prop
def eX(RI:kC)(v:V):Sp:=fun vs H Q _=>∃r,vs=[.ref r]∧RI r H∧Q v H
def pS(S:ik)(m:Int)(b:Option (List Int))(i:Nat):List (List Int)→Option Nat
 | []=>if S.closes m b=true then none else some i
 | c::cs=>match S.after m b c with
  | none=>some i
  | some m'=>pS S m' (some c) (i+1) cs
def brk(S:ik)(cols:List (List Int)):Option Int:=(pS S S.start none 0 cols).map fun(n:Nat)=>(n:Int)
def w6(K:PySem.W.Frag)(H:Hp)(l:Addr)(nv:Nat)(cols:List (List Int)):Prop:=∃ps:List Addr,aO K H l (ps.map V.ref)∧ps.length=cols.length∧∀(i:Nat) (p:Addr) (us:List Int),ps[i]?=some p→cols[i]?=some us→cA K H p (us.map V.int)∧us.length=nv
structure bP(z kind:Str)(ns:List Int):Prop where
 cs:z.cps.toList=bQ 32 (kind.cps.toList::ns.map cM)
 nb:∀n∈ns,n.natAbs < 10 ^ 40
 nl:ns.length≤20
 ks:32∉kind.cps.toList
 kl:kind.length≤20
 k0:kind.cps.toList≠[]
theorem kX(n:Int):32∉cM n:=fun h=>by
 have:=i6 n 32 h
 omega
theorem wj{x y:Str}(h:x.cps.toList=y.cps.toList):x=y:=by
 have:=gu x y
 rw [decide_eq_true h]at this
 exact of_decide_eq_true this
theorem cT:∀{xs ys:List Str},xs.map (fun z=>z.cps.toList)=ys.map (fun z=>z.cps.toList)→xs=ys
 | [],[],_=>rfl
 | [],_::_,h=>by simp at h
 | _::_,[],h=>by simp at h
 | x::xs,y::ys,h=>by
  rw [List.map_cons,List.map_cons]at h
  injection h with h1 h2
  rw [wj h1,cT h2]
def aP(n:Int):Str:=Str.ofString (toString n)
theorem bP.split{z kind:Str}{ns:List Int}(R:bP z kind ns):Txt.split z ⟨#[32]⟩=kind::ns.map aP:=by
 refine cT ?_
 rw [dC z (by decide),R.cs,jj 32 _ (by simp) (fun p hp=>?_),List.map_cons,List.map_map]
 ·rfl
 ·rcases List.mem_cons.mp hp with rfl | hp
  ·exact R.ks
  ·obtain⟨n,_,rfl⟩:=List.mem_map.mp hp
   exact kX n
theorem gL(c:Nat):∀(ps:List (List Nat)) (m:Nat),(∀p∈ps,p.length≤m)→(bQ c ps).length≤ps.length * (m+1)
 | [],_,_=>by simp [bQ]
 | p::ps,m,h=>by
  have h1:=h p (by simp)
  have h2:=gL c ps m (fun q hq=>h q (by simp [hq]))
  have h3:(bQ c (p::ps)).length≤p.length+1+(bQ c ps).length:=by
   cases ps with
   | nil=>simp [bQ]
   | cons q ps=>
    simp [bQ,List.length_append]
    omega
  rw [List.length_cons,Nat.succ_mul]
  omega
theorem bP.len{z kind:Str}{ns:List Int}(R:bP z kind ns):z.length≤10000:=by
 rw [aN,R.cs]
 have h:=gL 32 (kind.cps.toList::ns.map cM) 60 (fun p hp=>by
  rcases List.mem_cons.mp hp with rfl | hp
  ·have:=R.kl;rw [aN]at this;omega
  ·obtain⟨n,hn,rfl⟩:=List.mem_map.mp hp
   have:=dj (n:=n) (k:=40) (by decide) (R.nb n hn)
   omega)
 have:=R.nl
 simp only [List.length_cons,List.length_map]at h
 omega
theorem pA(z y:Str){c:Nat}(hy:y.cps.toList.head?=some c)(hz:z.cps.toList.head?≠some c):Txt.startswith z y=false:=by
 obtain⟨⟨l⟩⟩:=z
 obtain⟨⟨m⟩⟩:=y
 unfold Txt.startswith
 rw [StrLaws.subAt_eq]
 cases m with
 | nil=>simp at hy
 | cons b m=>
  cases l with
  | nil=>simp [Str.length]
  | cons a l=>
   simp at hy hz
   subst hy
   simp [Str.length]
   intro _ h
   exact absurd h hz
theorem bP.head{z kind:Str}{ns:List Int}(R:bP z kind ns):z.cps.toList.head?=kind.cps.toList.head?:=by
 rw [R.cs]
 cases e:kind.cps.toList with
 | nil=>exact absurd e R.k0
 | cons a l=>
  cases ns with
  | nil=>simp [bQ]
  | cons n ns=>simp [bQ]
end L2
namespace L2
open PySem PySem.Spec PyProof.Rows
theorem t8{X:Cx}{e:Expr}:PE X e (fun _ _ _=>False):=fun _ _ _ _ _ _ h=>h.elim
theorem c9(xs:List V)(k:Nat):gG xs (some (k:Int)) none=xs.drop k:=by
 unfold gG
 rw [HT.sIx_nat,HT.sIx_none]
 by_cases h:k≤xs.length
 ·rw [Nat.min_eq_left h,List.take_of_length_le (by rw [List.length_drop];omega)]
 ·rw [Nat.min_eq_right (by omega),List.drop_of_length_le (Nat.le_refl _),List.drop_of_length_le (by omega),List.take_nil]
theorem fV(xs:List V)(k:Nat):gG xs none (some (k:Int))=xs.take k:=by
 unfold gG HT.sIx
 have e:¬((k:Int) < 0):=by omega
 simp [e]
theorem aO.at_ins{K:PySem.W.Frag}{H:Hp}{q x C dx:Addr}{fs:List (Str×V)}{xs:List V}{o:HO}(h:aO K H q xs)(hx:H x=some (.ins C dx fs)):aO K (upd H x o) q xs:=by
 rcases h with(h | ⟨u,h⟩) | h
 ·exact .inl (.inl (by rw [ai (dw h hx (by intro z;cases z))];exact h))
 ·exact .inl (.inr ⟨u,by rw [ai (dw h hx (by intro z;cases z))];exact h⟩)
 ·exact .inr h
theorem jm{H:Hp}{x l:Addr}{A L B:HO}:upd (upd (upd H x A) l L) x B=upd (upd H l L) x B:=by
 funext b
 unfold upd
 by_cases h:b=x
 ·rw [if_pos h,if_pos h]
 ·rw [if_neg h,if_neg h,if_neg h]
end L2
namespace L2
open PySem PySem.Spec PyProof.Rows
structure cG(K:PySem.W.Frag)(C:Addr)(m qual:Str)(st:Stmt)(f:Addr)(fd:FuncData):Prop where
 me:w8 K C m f
 fn:cR K m qual st f fd
theorem methAt_mk{K:PySem.W.Frag}{C:Addr}{m qual:Str}{st:Stmt}{f:Addr}{oc:Value}{od an:Option Addr}{osl:Array (Option Value)}{kV doc pm cdv ct:Value}(a:PySem.W.findIn K (.ref C) m=some (some (.ref f)))(i:PySem.W.isFn K (.ref f)=true)
  (l:K.lookup f=some ⟨oc,od,.func (PySem.W.fnOf m qual (bV st) (bq st) (ak st) .none kV doc pm an cdv ct),osl⟩) (c:PySem.W.codeIn K cdv qual=true) (k:PySem.W.keepIn K (.ref f)=true):∃f fd,cG K C m qual st f fd:=
 ⟨f,_,⟨a,i,k⟩,fun_mk l c k⟩
theorem cG.ok{P:Program}{w:World}{K:PySem.W.Frag}{mg:Str→Option Value}{base:Heap}{C:Addr}{m qual:Str}{st:Stmt}{f:Addr}{fd:FuncData}{k:Nat}{ps:List Str}{sp:Sp}(A:cG K C m qual st f fd)(cl:ky K C)(ok:aE P w K mg base b8 k f fd ps sp)(b:bT K fd ps []):aH P w K mg base C m k ps sp:=⟨cl,f,fd,A.me,ok,b⟩
structure ix(K:PySem.W.Frag)(x m qual:Str)(st:Stmt)(C f:Addr)(fd:FuncData):Prop where
 ns:PySem.W.nsIn K mainGlobals x=some (some (.ref C))
 cm:wu K C m f
 fn:cR K m qual st f fd
theorem cmethAt_mk{K:PySem.W.Frag}{C:Addr}{x m qual:Str}{st:Stmt}{f:Addr}{oc:Value}{od an:Option Addr}{osl:Array (Option Value)}{kV doc pm cdv ct:Value}(n:PySem.W.nsIn K mainGlobals x=some (some (.ref C)))(r:PySem.W.readsIn K C (.type "type")=true)(a:PySem.W.findCls K (.ref C) (.type "type") m=some (.val (.ref f)))
  (g:PySem.W.specialIn K (.ref C) "__getattribute__"=some (some (.builtin "type.__getattribute__")))
  (l:K.lookup f=some ⟨oc,od,.func (PySem.W.fnOf m qual (bV st) (bq st) (ak st) .none kV doc pm an cdv ct),osl⟩) (c:PySem.W.codeIn K cdv qual=true) (k:PySem.W.keepIn K (.ref f)=true):∃C f fd,ix K x m qual st C f fd:=
 ⟨C,f,_,n,⟨r,a,g,k⟩,fun_mk l c k⟩
theorem ix.df{P:Program}{w:World}{K:PySem.W.Frag}{mg:Str→Option Value}{base h:Heap}{x m qual:Str}{st:Stmt}{C f:Addr}{fd:FuncData}{k:Nat}{ps:List Str}{sp:Sp}(A:ix K x m qual st C f fd)(X:K.In h)(G:h.Ns mainGlobals mg)(ok:aE P w K mg base b8 k f fd ps sp)(b:bT K fd ps []):kz P w K mg base x m k ps sp:=
 ⟨C,f,fd,PySem.W.mg_of X G A.ns,A.cm,ok,b⟩
structure ju(K:PySem.W.Frag)(x qual:Str)(st:Stmt)(C f:Addr)(fd:FuncData):Prop where
 ns:PySem.W.nsIn K mainGlobals x=some (some (.ref C))
 mm:Mk K C f
 fn:cR K "__init__" qual st f fd
theorem mkAt_mk{K:PySem.W.Frag}{C:Addr}{x qual:Str}{st:Stmt}{f:Addr}{oc:Value}{od an:Option Addr}{osl:Array (Option Value)}{kV doc pm cdv ct:Value}(n:PySem.W.nsIn K mainGlobals x=some (some (.ref C)))(mk:PySem.W.makesIn K C=true)(a:PySem.W.findIn K (.ref C) "__init__"=some (some (.ref f)))(i:PySem.W.isFn K (.ref f)=true)(kc:PySem.W.keepIn K (.ref C)=true)
  (l:K.lookup f=some ⟨oc,od,.func (PySem.W.fnOf "__init__" qual (bV st) (bq st) (ak st) .none kV doc pm an cdv ct),osl⟩) (c:PySem.W.codeIn K cdv qual=true) (k:PySem.W.keepIn K (.ref f)=true):∃f fd,ju K x qual st C f fd:=
 ⟨f,_,n,⟨mk,a,i,kc⟩,fun_mk l c k⟩
theorem ju.df{P:Program}{w:World}{K:PySem.W.Frag}{mg:Str→Option Value}{base h:Heap}{x qual:Str}{st:Stmt}{C f:Addr}{fd:FuncData}{k:Nat}{ps:List Str}{sp:Sp}(A:ju K x qual st C f fd)(X:K.In h)(G:h.Ns mainGlobals mg)(ok:aE P w K mg base b8 k f fd ps sp)(b:bT K fd ps []):dP P w K mg base x C k ps sp:=
 ⟨f,fd,A.mm,ok,PySem.W.mg_of X G A.ns,b⟩
theorem e9(c:Nat)(a b:List Nat)(ps:List (List Nat)):bQ c (a::b::ps)=a++c::bQ c (b::ps):=by simp [bQ]
theorem f9{n:Int}(h:n.natAbs < 10 ^ 40):(aP n).length≤41:=by
 rw [aN]
 exact dj (n:=n) (k:=40) (by decide) h
theorem rowsR{e:DictEntry}{x:Str}{t:Tok}{f:Addr}{es:List DictEntry}{D:List (Str×V)}(h1:e.key=.str x t)(h2:e.val=.ref f)(r:KTD.Rows aG es D):KTD.Rows aG (e::es) ((x,V.ref f)::D):=.cons h1 h2 r
theorem tab_mk{K:PySem.W.Frag}{a:Addr}{o:Obj}{es:Array DictEntry}{ep:Nat}{D:List (Str×V)}(l:K.lookup a=some o)(s:(a == sysModules)=false)(x:o.cls=.type "dict")(y:o.dict=none)(z:o.slots=#[])(d:o.data=.dict es ep)(r:KTD.Rows aG es.toList D):gB K a D:=⟨s,o,es,ep,l,⟨x,y,z⟩,d,r⟩
theorem defAtD_mk2{K:PySem.W.Frag}{x:Str}{st:Stmt}{f T:Addr}{oc:Value}{od an:Option Addr}{osl:Array (Option Value)}{kV doc pm cdv ct u:Value}{o:Obj}{n:Nat}{v:V}(a:PySem.W.nsIn K mainGlobals x=some (some (.ref f)))
  (l:K.lookup f=some ⟨oc,od,.func (PySem.W.fnOf x x (bV st) (bq st) (ak st) (.ref T) kV doc pm an cdv ct),osl⟩) (c:PySem.W.codeIn K cdv x=true) (k:PySem.W.keepIn K (.ref f)=true)
  (t:K.lookup T=some o) (d:o.data=.seq #[u] n) (r:aG v u):∃f fd u,sk K x st f fd u∧aG v u:=
 ⟨f,_,u,⟨a,T,o,n,⟨⟨oc,od,kV,doc,pm,an,cdv,ct,osl,rfl,l,c⟩,k⟩,t,d⟩,r⟩
end L2
namespace L2
open PySem PySem.Spec PyProof.Rows
section
variable {X:Cx}
theorem jv:bu X (.type "str") (fun xs H Q=>∃z,xs=[.str z]∧Q (.str z) H):=by
 intro pins s σ H xs us Q I r h
 obtain⟨z,rfl,q⟩:=h
 obtain⟨u,rfl,ru⟩:=du r
 obtain⟨t,rfl⟩:=ru
 exact P.str_of_str ⟨.str z,H,I,⟨t,rfl⟩,q⟩
def oQ:List V→Hp→VK→Prop:=fun xs H Q=>(∃i,xs=[.int i]∧i.natAbs.log2 < 1920∧Q (.str (aP i)) H)∨∃z,xs=[.str z]∧Q (.str z) H
theorem bo:bu X (.type "str") oQ:=call_str_int.or jv
end
theorem xW{i:Int}{H:Hp}{Q:VK}:oQ [.int i] H Q↔i.natAbs.log2 < 1920∧Q (.str (aP i)) H:=by simp [oQ]
theorem xX{z:Str}{H:Hp}{Q:VK}:oQ [.str z] H Q↔Q (.str z) H:=by simp [oQ]
end L2
namespace L3
open PySem PySem.Spec PyProof.Rows
section
variable {prog:Program} {w:World} {A:Around} {E:Value→Shared→Prop} {s:Shared}
end
end L3
namespace L2
open PySem PySem.Spec PyProof.Rows
def zP(K:PySem.W.Frag)(n:Nat)(t:u3):TG:=fun v σ H Q=>∃a l xs,v=.ref a∧jo K l H a xs∧xs.length=n∧t xs σ H Q
end L2
namespace L2
open PySem PySem.Spec PyProof.Rows
section
variable {X:Cx} {e st:Expr} {te:TE} {p2 pos:Pos}
def z5(K:PySem.W.Frag)(te ts:TE):TE:=fun σ H Q=>te σ H fun x H1=>ts σ H1 fun y H2=>y=.int (-1)∧∃a xs,x=.ref a∧aO K H2 a xs∧∀p,H2 p=none→Q (.ref p) (upd H2 p (.lst xs.reverse))
end
end L2
namespace L2
open PySem PySem.Spec PyProof.Rows
def da(B:Nat→Bool)(i:Nat):Nat→Option Nat
 | 0=>none
 | k+1=>if B i=true then some i else da B (i+1) k
theorem mF(B:Nat→Bool):∀(k i:Nat),da B i (k+1)=match da B i k with | some j=>some j | none=>if B (i+k)=true then some (i+k)else none
 | 0,i=>by simp [da]
 | k+1,i=>by
  have ih:=mF B k (i+1)
  rw [da,ih]
  by_cases hb:B i=true
  ·simp [da,hb]
  ·rw [if_neg hb]
   simp only [da]
   rw [if_neg hb,show i+1+k=i+(k+1)by omega]
def jb(cols:List (List Int)):Nat→Option (List Int)
 | 0=>none
 | i+1=>cols[i]?
structure Walks(S:ik)(cols:List (List Int))(mem:Nat→Int)(B:Nat→Bool):Prop where
 m0:S.start=mem 0
 st:∀(i:Nat) (us:List Int),cols[i]?=some us→S.after (mem i) (jb cols i) us=if B i=true then none else some (mem (i+1))
theorem Walks.go{S:ik}{cols:List (List Int)}{mem:Nat→Int}{B:Nat→Bool}(h:Walks S cols mem B):∀(k i:Nat),i+k=cols.length→pS S (mem i) (jb cols i) i (cols.drop i)=match da B i k with | some j=>some j | none=>if S.closes (mem cols.length) (jb cols cols.length)=true then none else some cols.length
 | 0,i,e=>by
  have e':i=cols.length:=by omega
  subst e'
  rw [List.drop_length]
  rfl
 | k+1,i,e=>by
  have hi:i < cols.length:=by omega
  rw [List.drop_eq_getElem_cons hi]
  simp only [pS,da]
  rw [h.st i cols[i] (List.getElem?_eq_getElem hi)]
  by_cases hb:B i=true
  ·rw [if_pos hb,if_pos hb]
  ·rw [if_neg hb,if_neg hb]
   have:=h.go k (i+1) (by omega)
   rw [show jb cols (i+1)=some cols[i]from List.getElem?_eq_getElem hi]at this
   exact this
def yy(B:Nat→Bool)(n:Nat)(cl:Bool):Option Int:=match da B 0 n with | some j=>some (j:Int) | none=>if cl=true then none else some (n:Int)
theorem Walks.brk{S:ik}{cols:List (List Int)}{mem:Nat→Int}{B:Nat→Bool}(h:Walks S cols mem B):brk S cols=yy B cols.length (S.closes (mem cols.length) (jb cols cols.length)):=by
 have:=h.go cols.length 0 (by omega)
 unfold L2.brk yy
 rw [h.m0]
 rw [show jb cols 0=none from rfl,List.drop_zero]at this
 rw [this]
 cases da B 0 cols.length with
 | some j=>rfl
 | none=>
  simp only
  by_cases hc:S.closes (mem cols.length) (jb cols cols.length)=true
  ·rw [if_pos hc,if_pos hc];rfl
  ·rw [if_neg hc,if_neg hc];rfl
theorem jd{x kind:Str}{a b:Int}(hx:x.cps.toList=kind.cps.toList++[32])(na:a.natAbs < 10 ^ 40)(nb:b.natAbs < 10 ^ 40)(ks:32∉kind.cps.toList)(kl:kind.length≤20)(k0:kind.cps.toList≠[]):bP (x++aP a++Str.ofString " " ++ aP b) kind [a,b]:=by
 refine⟨?_,fun n hn=>?_,by simp,ks,kl,k0⟩
 ·have e32:(Str.ofString " ").cps.toList=[32]:=by decide +kernel
  have ea:∀u v:Str,(u++v).cps.toList=u.cps.toList++v.cps.toList:=fun u v=>by
   show(u.cps++v.cps).toList=_
   rw [Array.toList_append]
  rw [ea,ea,ea,hx,e32]
  simp only [List.map_cons,List.map_nil,bQ]
  simp
  rfl
 ·rcases List.mem_cons.mp hn with rfl | hn
  ·exact na
  ·rw [List.mem_singleton.mp hn];exact nb
def fw(H:Hp)(nv:Nat)(ps:List Addr)(cols:List (List Int)):Prop:=ps.length=cols.length∧∀(i:Nat) (p:Addr) (us:List Int),ps[i]?=some p→cols[i]?=some us→H p=some (.tup (us.map V.int))∧us.length=nv
theorem fw.snoc{H:Hp}{nv:Nat}{ps:List Addr}{cols:List (List Int)}{t:Addr}{us:List Int}(h:fw H nv ps cols)(ht:H t=some (.tup (us.map V.int)))(hu:us.length=nv):fw H nv (ps++[t]) (cols++[us]):=by
 refine⟨by simp [h.1],fun j p us' e1 e2=>?_⟩
 have hl:=h.1
 by_cases hj:j < ps.length
 ·rw [List.getElem?_append_left hj]at e1
  rw [List.getElem?_append_left (by omega)]at e2
  exact h.2 j p us' e1 e2
 ·rw [List.getElem?_append_right (by omega)]at e1 e2
  have ej:j=ps.length:=by
   have:=(List.getElem?_eq_some_iff.mp e1).1
   simp at this
   omega
  rw [ej,Nat.sub_self]at e1
  rw [ej,hl,Nat.sub_self]at e2
  cases e1
  cases e2
  exact⟨ht,hu⟩
theorem fw.at{K:PySem.W.Frag}{H:Hp}{nv:Nat}{ps:List Addr}{cols:List (List Int)}(h:fw H nv ps cols):∀(i:Nat) (p:Addr) (us:List Int),ps[i]?=some p→cols[i]?=some us→cA K H p (us.map V.int)∧us.length=nv:=fun i p us e1 e2=>⟨cA.of (h.2 i p us e1 e2).1,(h.2 i p us e1 e2).2⟩
theorem fw.line{K:PySem.W.Frag}{H:Hp}{nv:Nat}{ps:List Addr}{cols:List (List Int)}{l:Addr}(h:fw H nv ps cols)(hl:H l=some (.lst (ps.map V.ref))):w6 K H l nv cols:=⟨ps,aO.of hl,h.1,h.at⟩
end L2
namespace L3
open PySem PySem.Spec PyProof.Rows L2 HT
section
variable {prog:Program} {w:World} {A:Around} {E:Value→Shared→Prop} {s:Shared}
theorem cat_tup0{t b:Addr}{ws:List Value}{Q:Value→Shared→Prop}(ht:IsTup s.heap t (List.toArray []))(hb:IsTup s.heap b ws.toArray)
  (h1:Q (.ref b) s):wpAny (model prog w) A (binaryOp .Add (.ref t) (.ref b)) Q E s:=by
 obtain⟨⟨cls,dd,data,sl⟩,ho,hc,n,hd⟩:=id ht
 obtain⟨⟨cls2,dd2,data2,sl2⟩,ho2,hc2,n2,hd2⟩:=id hb
 simp only at hc hd hc2 hd2
 subst hc hd hc2 hd2
 exact concat_meets ⟨_,ho,rfl⟩ ⟨_,ho2,rfl⟩ noFill_tuple_add seq_tuple_add PySem.F.slot_tuple_add PySem.F.entry_tuple_add (PySem.F.args_tuple_add_2 _ _)
   (tuple_addW0 t b #[] ws.toArray n n2 dd dd2 sl sl2 (by simp)) ⟨ho,ho2,h1⟩
end
end L3
namespace L2
open PySem PySem.Spec PyProof.Rows
section
variable {X:Cx}
def um(K:PySem.W.Frag):R2:=fun x y H Q=>∃a b ys,x=.ref a∧y=.ref b∧cA K H a []∧cA K H b ys∧Q (.ref b) H
theorem vJ:cc X (binaryOp .Add) (um X.K):=by
 intro pins s σ H x y v u Q I rx ry h
 obtain⟨a,b,ys,rfl,rfl,ha,hb,q⟩:=h
 cases rx
 cases ry
 obtain⟨its,r1,p1,_⟩:=I.tuple ha
 obtain⟨its2,r2,p2,_⟩:=I.tuple hb
 cases r1
 exact L3.cat_tup0 p1 p2 ⟨.ref b,H,I,rfl,q⟩
def ee(K:PySem.W.Frag):R2:=fun x y H Q=>cU K x y H Q∨um K x y H Q
theorem xB(K:PySem.W.Frag)(h:X.K=K:=by rfl):cc X (binaryOp .Add) (ee K):=by
 subst h
 exact opAdd.or vJ
end
theorem mZ{K:PySem.W.Frag}{i j:Int}{H:Hp}{Q:VK}:ee K (.int i) (.int j) H Q↔Q (.int (i+j)) H:=by
 simp [ee,rAddA_ii,um]
theorem tx(K:PySem.W.Frag):iq (ee K)=ee K:=p4 fun _ _ _ _=>mZ
theorem vt{K:PySem.W.Frag}{x y:V}{H:Hp}{Q:VK}:iq (ee K) x y H Q↔ee K x y H Q:=by rw [tx]
theorem wV{X:Cx}(K:PySem.W.Frag)(h:X.K=K:=by rfl):cc X (binaryOp .Add) (iq (ee K)):=by rw [tx];exact xB K h
theorem uk{K:PySem.W.Frag}{a b:Addr}{xs ys:List V}{H:Hp}{Q:VK}(ha:H a=some (.tup xs))(hb:H b=some (.tup ys))(hz:xs.length+ys.length≤sizeLine)(q:∀p H',ar H H'→H' p=some (.tup (xs++ys))→Q (.ref p) H'):ee K (.ref a) (.ref b) H Q:=by
 by_cases hx:xs=[]
 ·subst hx
  exact .inr ⟨a,b,ys,rfl,rfl,cA.of ha,cA.of hb,q b H (ar.refl H) hb⟩
 ·refine .inl (.inr (.inr (.inr ⟨a,b,xs,ys,rfl,rfl,cA.of ha,cA.of hb,hx,hz,fun e=>?_,fun _ p hp=>q p _ (au hp) ae⟩)))
  subst e
  exact q a H (ar.refl H) (by rw [List.append_nil];exact ha)
end L2
namespace L2
open PySem PySem.Spec PyProof.Rows
theorem eP(a b:Int):Builtin.Range.rangeSize a b (-1)=if a > b then a - b else 0:=by
 unfold Builtin.Range.rangeSize
 rw [if_neg (by decide)]
 by_cases h:a > b
 ·rw [if_pos h,if_pos h,show(- -1:Int)=1 by decide,Int.ediv_one]
  omega
 ·rw [if_neg h,if_neg h]
theorem pd{a b:Int}(h1:-(2 ^ 62)≤a)(h2:a < 2 ^ 62)(h3:-(2 ^ 62)≤b)(h4:b < 2 ^ 62):Builtin.Range.small a b (-1)=true:=by
 unfold Builtin.Range.small
 rw [eP]
 simp only [Builtin.Range.rangeFitsLong,Bool.and_eq_true,Bool.or_eq_true,decide_eq_true_eq,beq_iff_eq,show ¬((-1:Int) > 0)by decide,if_false]
 split<;>omega
def zo(lo:Int)(n:Nat):It:=⟨fun i _=>i < n,fun i H x H'=>H'=H∧x=.int (lo - i),fun i _=>n≤i⟩
theorem se{P:Program}{w:World}{K:PySem.W.Frag}{tg:Expr}(it:Addr)(lo:Int)(n:Nat):kE P w K tg (zo lo n) [it] it (fun i h=>IsRangeIter h it (lo+(i:Nat) * (-1)) ((n:Int) - (i:Nat)) (-1)) where
 mem:=by simp
 obj:=fun i h st b hb=>by
  have e:b=it:=by simpa using hb
  subst e
  exact⟨_,st,fun v z=>by
   have z':Data.fields _=Data.cell v:=z
   cases z'⟩
 keep:=fun i h h' st k=>k it (by simp) _ st
 item:=by
  intro X hP hw hK hc i pins s σ H E I hf st hg
  subst hP hw hK
  obtain⟨f0,f1,f2,f3,f4,f5⟩:=hf it (by simp)
  have W:=PySem.Walks.range (prog:=X.prog) (w:=X.w) (I.ok.hd hc) it lo (-1) n
  refine W.item i s _ _ hg st fun v h' tk hv st' kk=>?_
  obtain⟨t,rfl⟩:=hv
  have I1:az X pins σ H { s with heap:=h',toks:=tk }:=I.turned (fun b o hb e=>kk b o (by simpa using hb) e) f0 f1 f3 f4 f5
  refine⟨_,rfl,j6 (s:={ s with heap:=h',toks:=tk }) (n:="range_iterator") st' rfl rfl (by decide) ⟨.int (lo - i),H,I1,⟨t,?_⟩,⟨rfl,rfl⟩,st',fun b hb=>(hf b hb).1⟩⟩
  rw [Int.mul_neg_one]
  rfl
 done:=by
  intro X hP hw hK hc i pins s σ H E I hf st hg
  subst hP hw hK
  obtain⟨f0,f1,f2,f3,f4,f5⟩:=hf it (by simp)
  exact wpAny_pyNext_range_end (I.ok.hd hc) st (by have:n≤i:=hg;omega) fun h' eb=>⟨rfl,I.turned (t':=s.toks) (fun b o hb e=>eb b o hb e) f0 f1 f3 f4 f5⟩
 self:=fun _ _ _ _ _ st h=>wpAny_pyIter_rangeiter st h
section
variable {X:Cx} {tg:Expr}
theorem rR{pins:List (Addr×Obj)}{σ:St}{H:Hp}{s:Shared}{R:It→Hp→Prop}{E:Value→Shared→Prop}{lo hi:Int}{t u v:Tok}{tk:Nat}(I:az X pins σ H s)(h1:-(2 ^ 62)≤lo)(h2:lo < 2 ^ 62)(h3:-(2 ^ 62)≤hi)(h4:hi < 2 ^ 62)
  (q:R (zo lo (lo - hi).toNat) H):wpAny (model X.prog X.w) X.A (pyIter (.ref s.heap.objs.size)) (yl X pins σ tg R) E { s with heap:=s.heap.push { cls:=.type "range",data:=.fields #[.int lo t,.int hi u,.int (-1) v] },toks:=tk }:=by
 refine wpAny_pyIter_range (IsRange.new ..) (pd h1 h2 h3 h4) ?_
 have I1:az X pins σ H { s with heap:=s.heap.push { cls:=.type "range",data:=.fields #[.int lo t,.int hi u,.int (-1) v] },toks:=tk }:=I.kept fun b o e=>Heap.get?_push_of_some _ e
 refine⟨(s.heap.push { cls:=.type "range",data:=.fields #[.int lo t,.int hi u,.int (-1) v] }).objs.size,[(s.heap.push { cls:=.type "range",data:=.fields #[.int lo t,.int hi u,.int (-1) v] }).objs.size],_,_,H,rfl,
  I1.kept (t':=tk) fun b o e=>Heap.get?_push_of_some _ e,se _ lo (lo - hi).toNat,?_,fun b hb=>?_,q⟩
 ·have e1:lo+((0:Nat):Int) * (-1)=lo:=by simp
  have e2:(((lo - hi).toNat:Nat):Int) - ((0:Nat):Int)=Builtin.Range.rangeSize lo hi (-1):=by rw [eP];split<;>omega
  show IsRangeIter _ _ (lo+((0:Nat):Int) * (-1)) ((((lo - hi).toNat:Nat):Int) - ((0:Nat):Int)) (-1)
  rw [e1,e2]
  exact Heap.get?_push_size _ rfl
 ·have e:b=(s.heap.push { cls:=.type "range",data:=.fields #[.int lo t,.int hi u,.int (-1) v] }).objs.size:=by simpa using hb
  subst e
  exact I1.fpOk (Nat.le_refl _) (I1.hok.fresh (Nat.le_refl _))
def wI(ta:TA):TI:=fun σ H R=>ta σ H fun vs H1=>∃i j:Int,vs=[.int i,.int j,.int (-1)]∧(-(2 ^ 62)≤i∧i < 2 ^ 62∧-(2 ^ 62)≤j∧j < 2 ^ 62)∧R (zo i (i - j).toNat) H1
theorem rL{a b c:Expr}{ta:TA}{p pos:Pos}(hg:Gl X "range")(hm:X.mg "range"=none)(ha:PA X [a,b,c] ta)(hs:starEach [a,b,c] X.env=[(false,eval a X.env),(false,eval b X.env),(false,eval c X.env)]:=by rfl)(hs2:starEach [b,c] X.env=[(false,eval b X.env),(false,eval c X.env)]:=by rfl):
  PI X tg (.Call (.Name "range" p) [a,b,c] [] pos) (wI ta):=by
 intro pins s σ H R I h
 refine Call_ (eE I hg hm boot_range (PyProof.Rows.callWith_type1 (bz (ha pos pins s σ H _ I h) fun us s1 ⟨vs,H1,I1,r1,q1⟩=>?_) (by rw [hs,hs2]) (by rw [hs2];rfl)))
 obtain⟨i,j,e,⟨q1,q2,q3,q4⟩,q⟩:=q1
 subst e
 cases r1 with
 | cons r rr=>
  cases rr with
  | cons r' rr=>
   cases rr with
   | cons r'' rr=>
    cases rr
    obtain⟨t,rfl⟩:=r
    obtain⟨t',rfl⟩:=r'
    obtain⟨t'',rfl⟩:=r''
    exact call_range_3 (by decide) (rR I1 q1 q2 q3 q4 q) (Or.inl (PyProof.noPylong_small (by omega)))
end
theorem rm{g:TG}{tb:TS}{D:fk}{σ:St}{H:Hp}{lo:Int}{n:Nat}(Pv:Nat→St→Hp→Prop)(h0:Pv 0 σ H)
  (hs:∀i σ H,i < n→Pv i σ H→g (.int (lo - i)) σ H fun σ2 H2=>tb { D with nx:=Pv (i+1),ct:=Pv (i+1),bk:=D.nx } σ2 H2) (hd:∀σ H,Pv n σ H→D.nx σ H):qu g tb D σ (zo lo n) H:=by
 refine⟨fun i m σ H=>m=n - i∧i≤n∧Pv i σ H,⟨n,by simp,Nat.zero_le _,h0⟩,?_⟩
 rintro i m σ H ⟨rfl,hi,p⟩
 by_cases hlt:i < n
 ·refine .inr ⟨hlt,Pv (i+1),fun σ' H' p'=>⟨n - (i+1),by omega,rfl,hlt,p'⟩,fun x H' y=>?_⟩
  obtain⟨e,y⟩:=y
  subst e y
  exact hs i σ _ hlt p
 ·have e:i=n:=by omega
  subst e
  exact .inl ⟨Nat.le_refl _,hd σ H p⟩
theorem fv:∀{ns:List Int} {us:List Value},aC (ns.map V.int) us→∃ps:List (Int×Tok),us=ps.map (fun p=>Value.int p.1 p.2)∧ps.map (·.1)=ns
 | [],_,.nil=>⟨[],rfl,rfl⟩
 | n::ns,_,.cons r t=>by
  obtain⟨ps,e1,e2⟩:=fv t
  obtain⟨tk,rfl⟩:=r
  exact⟨(n,tk)::ps,by rw [e1];rfl,by rw [←e2];rfl⟩
theorem qC{X:Cx}(hc:X.calm=true)(K:PySem.W.Frag)(hK:X.K=K:=by rfl):bu X (.builtin "min") (fun xs H Q=>∃p ns,xs=[.ref p]∧aO K H p (List.map V.int ns)∧ns≠[]∧∀i∈ns,Q (.int i) H):=by
 subst hK
 intro pins s σ H xs us Q I r h
 obtain⟨p,ns,rfl,hp,hne,q⟩:=h
 obtain⟨u,rfl,ru⟩:=du r
 cases ru
 obtain⟨its,rv,ht,_⟩:=I.list hp
 obtain⟨ps,e1,e2⟩:=fv rv
 have hl:s.heap.IsList p (intItems ps.toArray):=by
  have:=ht.isList
  rw [e1]at this
  simpa [intItems]using this
 refine min_intList (I.ok.hd hc) hl (by
  rw [List.size_toArray]
  have:ps.length=ns.length:=by rw [←e2,List.length_map]
  have:ns.length≠0:=fun z=>hne (List.length_eq_zero_iff.mp z)
  omega) fun v h' tk hv hk=>?_
 simp only [intItems,List.map_toArray,List.getElem?_toArray,List.getElem?_map,Option.map_eq_some_iff]at hv
 obtain⟨⟨a,t⟩,ha,rfl⟩:=hv
 refine⟨.int a,H,I.kept (t':=tk) fun b o e=>hk b o e,⟨t,rfl⟩,q a ?_⟩
 rw [←e2]
 exact List.mem_map_of_mem (f:=fun p:Int×Tok=>p.1) (List.mem_of_getElem? ha)
end L2
namespace L2
open PySem PySem.Spec PyProof.Rows
def dN(c:Nat):Nat→List Nat→List (List Nat)
 | 0,l=>[l]
 | _+1,[]=>[[]]
 | n+1,a::l=>if a=c then []::dN c n l else match dN c (n+1) l with
  | []=>[[a]]
  | p::r=>(a::p)::r
theorem lX(c:Nat):∀n l,dN c n l≠[]
 | 0,l=>by simp [dN]
 | n+1,[]=>by simp [dN]
 | n+1,a::l=>by
  simp only [dN]
  split
  ·simp
  ·split<;>simp
theorem fe(x:Str)(c:Nat)(lim:Nat):∀(l:List Nat) (i:Nat) (acc:Array Nat) (fr:Nat),x.cps.toList.drop i=l→fr≤i→
  (forIn (List.range' i (l.length+1)) (acc,fr) (StrLaws.occBody x ⟨#[c]⟩ x.length lim)).run.fst.toList=acc.toList++(cf c l i).take (lim - acc.size)
 | [],i,acc,fr,hl,hf=>by
  have hi:x.length≤i:=by
   rw [aN]
   exact List.drop_eq_nil_iff.mp hl
  show(forIn [i] (acc,fr) _:Id _).run.fst.toList=_
  rw [List.forIn_cons]
  unfold StrLaws.occBody
  rw [if_neg (by intro h;have:=h.1.2;have e1:(⟨#[c]⟩:Str).length=1:=rfl;rw [e1]at this;omega)]
  show acc.toList=_
  simp [cf]
 | b::l,i,acc,fr,hl,hf=>by
  have hb:x.cps.toList[i]?=some b:=by
   have:(x.cps.toList.drop i)[0]?=some b:=by rw [hl];rfl
   rwa [List.getElem?_drop,Nat.add_zero]at this
  have hi:i < x.length:=by
   rw [aN]
   obtain⟨h,_⟩:=List.getElem?_eq_some_iff.mp hb
   exact h
  have hd:x.cps.toList.drop (i+1)=l:=by
   rw [←List.drop_drop,hl];rfl
  have e1:(⟨#[c]⟩:Str).length=1:=rfl
  show(forIn (i::List.range' (i+1) (l.length+1)) (acc,fr) _:Id _).run.fst.toList=_
  rw [List.forIn_cons]
  unfold StrLaws.occBody
  by_cases hc:b=c
  ·by_cases hs:acc.size < lim
   ·rw [if_pos ⟨⟨⟨hs,hf⟩,by rw [e1];omega⟩,((StrLaws.subAt_one x c i).mpr (by rw [hb,hc])).2⟩]
    show(forIn (List.range' (i+1) (l.length+1)) (acc.push i,i+1) (StrLaws.occBody x ⟨#[c]⟩ x.length lim):Id _).run.fst.toList=_
    rw [fe x c lim l (i+1) _ _ hd (Nat.le_refl _),Array.size_push]
    simp only [cf,hc,if_true]
    rw [show lim - acc.size=(lim - (acc.size+1))+1 by omega,List.take_succ_cons]
    simp
   ·rw [if_neg (fun h=>hs h.1.1.1)]
    show(forIn (List.range' (i+1) (l.length+1)) (acc,fr) (StrLaws.occBody x ⟨#[c]⟩ x.length lim):Id _).run.fst.toList=_
    rw [fe x c lim l (i+1) _ _ hd (by omega)]
    rw [show lim - acc.size=0 by omega]
    simp
  ·rw [if_neg (fun h=>hc (by have:=(StrLaws.subAt_one x c i).mp ⟨h.1.2,h.2⟩;rw [hb]at this;exact Option.some.inj this))]
   show(forIn (List.range' (i+1) (l.length+1)) (acc,fr) (StrLaws.occBody x ⟨#[c]⟩ x.length lim):Id _).run.fst.toList=_
   rw [fe x c lim l (i+1) _ _ hd (by omega)]
   simp [cf,hc]
theorem tU(x:Str)(c n:Nat):Builtin.Str.occurrences x ⟨#[c]⟩ 0 x.length n=(cf c x.cps.toList 0).take n:=by
 rw [StrLaws.occ_eq]
 have e:x.length+1 - 0=x.cps.toList.length+1:=by rw [aN];rfl
 rw [e]
 have h:=fe x c n x.cps.toList 0 #[] 0 rfl (Nat.le_refl _)
 rw [h]
 rfl
theorem eK(x:Str)(c:Nat):∀(l:List Nat) (n a j:Nat),a≤j→x.cps.toList.drop j=l→j≤x.length→
  (StrLaws.partsFrom x 1 a ((cf c l j).take n)).map (fun z=>z.cps.toList)=match dN c n l with
   | []=>[]
   | p::r=>((x.cps.toList.drop a).take (j - a)++p)::r
 | l,0,a,j,haj,hl,hj=>by
  simp only [List.take_zero,dN,StrLaws.partsFrom,List.map_cons,List.map_nil,StrLaws.strSub_toList]
  congr 1
  rw [List.take_of_length_le (by rw [List.length_drop,aN];omega)]
  have:=List.take_append_drop (j - a) (x.cps.toList.drop a)
  rw [List.drop_drop,show a+(j - a)=j by omega,hl]at this
  exact this.symm
 | [],n+1,a,j,haj,hl,hj=>by
  have hj':x.length≤j:=by rw [aN];exact List.drop_eq_nil_iff.mp hl
  have e:j=x.length:=by omega
  subst e
  simp [cf,dN,StrLaws.partsFrom,StrLaws.strSub_toList]
 | b::l,n+1,a,j,haj,hl,hj=>by
  have hb:x.cps.toList[j]?=some b:=by
   have:(x.cps.toList.drop j)[0]?=some b:=by rw [hl];rfl
   rwa [List.getElem?_drop,Nat.add_zero]at this
  have hi:j < x.length:=by
   rw [aN]
   obtain⟨h,_⟩:=List.getElem?_eq_some_iff.mp hb
   exact h
  have hd:x.cps.toList.drop (j+1)=l:=by
   rw [←List.drop_drop,hl];rfl
  by_cases hc:b=c
  ·have ih:=eK x c l n (j+1) (j+1) (Nat.le_refl _) hd hi
   simp only [cf,hc,if_true,List.take_succ_cons,StrLaws.partsFrom,List.map_cons,dN,List.append_nil]
   rw [ih]
   cases hs:dN c n l with
   | nil=>exact absurd hs (lX c n l)
   | cons p r=>simp [StrLaws.strSub_toList]
  ·have ih:=eK x c l (n+1) a (j+1) (by omega) hd hi
   simp only [cf,hc,if_false,dN]
   rw [ih]
   cases hs:dN c (n+1) l with
   | nil=>exact absurd hs (lX c (n+1) l)
   | cons p r=>
    have ht:(x.cps.toList.drop a).take (j+1 - a)=(x.cps.toList.drop a).take (j - a)++[b]:=by
     have e1:j+1 - a=(j - a)+1:=by omega
     rw [e1,List.take_add_one,List.getElem?_drop]
     have e2:a+(j - a)=j:=by omega
     rw [e2,hb];rfl
    simp [ht]
theorem gs(c n:Nat)(rest:List Nat):∀(p:List Nat),c∉p→dN c (n+1) (p++c::rest)=p::dN c n rest
 | [],_=>by simp [dN]
 | a::p,h=>by
  have h1:¬a=c:=fun e=>h (by simp [e])
  have ih:=gs c n rest p (fun e=>h (by simp [e]))
  show dN c (n+1) (a::(p++c::rest))=_
  simp only [dN,h1,if_false]
  rw [ih]
theorem mY(c:Nat)(rest:List Nat):∀(p:List Nat) (i:Nat),cf c (p++c::rest) i≠[]
 | [],i=>by simp [cf]
 | a::p,i=>by
  show cf c (a::(p++c::rest)) i≠[]
  simp only [cf]
  split
  ·simp
  ·exact mY c rest p (i+1)
def eJ(z:Str)(c k:Nat):List Str:=Builtin.Str.partsBetween z ((cf c z.cps.toList 0).take k) 1
theorem lB(z:Str)(c k:Nat):(eJ z c k).map (fun y=>y.cps.toList)=dN c k z.cps.toList:=by
 unfold eJ
 rw [StrLaws.partsBetween_eq,eK z c z.cps.toList k 0 0 (Nat.le_refl _) rfl (Nat.zero_le _)]
 cases hs:dN c k z.cps.toList with
 | nil=>exact absurd hs (lX c k _)
 | cons p r=>simp
theorem rq{X:Cx}:qv X "str.split" (fun x xs H Q=>∃z c k,x=.str z∧xs=[.str ⟨#[c]⟩,.int k]∧c < 256∧0 < k∧k < 2 ^ 30∧cf c z.cps.toList 0≠[]∧z.length < sizeLine∧(eJ z c k.toNat).length≤sizeLine∧∀p,H p=none→Q (.ref p) (upd H p (.lst ((eJ z c k.toNat).map V.str)))):=by
 intro pins s σ H x xs v us Q I rx r h
 obtain⟨z,c,k,rfl,rfl,hc,k0,k1,hne,hz,hlen,q⟩:=h
 obtain⟨t,rfl⟩:=rx
 obtain⟨u,u2,rfl,⟨t',rfl⟩,⟨t2,rfl⟩⟩:=nG r
 have ek:Builtin.Str.strKind ⟨#[c]⟩=1:=by simp [Builtin.Str.strKind,hc]
 have ek2:1≤Builtin.Str.strKind z:=by unfold Builtin.Str.strKind;split<;>(try split)<;>omega
 have hzl:1≤z.length:=by
  rw [aN]
  cases hz':z.cps.toList with
  | nil=>rw [hz']at hne;exact absurd rfl hne
  | cons a l=>simp
 have h1:(decide (z.length < (⟨#[c]⟩:Str).length) || decide (Builtin.Str.strKind z < Builtin.Str.strKind ⟨#[c]⟩))=false:=by
  rw [ek]
  have e1:(⟨#[c]⟩:Str).length=1:=rfl
  rw [e1,decide_eq_false (by omega),decide_eq_false (by omega)]
  rfl
 have hk:(decide (k < -(2 ^ 63:Int)) || decide (k≥2 ^ 63))=false:=by
  rw [decide_eq_false (by omega),decide_eq_false (by omega)]
  rfl
 have el:Builtin.Str.occurrences z ⟨#[c]⟩ 0 z.length (PySem.limitOf z k)=(cf c z.cps.toList 0).take k.toNat:=by
  rw [tU]
  unfold PySem.limitOf
  rw [if_neg (by omega)]
 have hf:(Builtin.Str.occurrences z ⟨#[c]⟩ 0 z.length (PySem.limitOf z k)).isEmpty=false:=by
  rw [el]
  cases hp:cf c z.cps.toList 0 with
  | nil=>exact absurd hp hne
  | cons a l=>rw [show k.toNat=(k.toNat - 1)+1 by omega];rfl
 have ep:Builtin.Str.partsBetween z (Builtin.Str.occurrences z ⟨#[c]⟩ 0 z.length (PySem.limitOf z k)) (⟨#[c]⟩:Str).length=eJ z c k.toNat:=by rw [el];rfl
 have fin:∀(its:List Value) (tk:Nat),aC ((eJ z c k.toNat).map V.str) its→EP X pins σ Q (.ref s.heap.objs.size) { s with toks:=tk,heap:=s.heap.push { cls:=.type "list",data:=.seq its.toArray } }:=fun its tk rv=>
  ⟨.ref s.heap.objs.size,_,I.laid (t':=tk) (o:=.lst ((eJ z c k.toNat).map V.str)) (fun b ob q=>Heap.get?_push_of_some _ q) (Nat.le_refl _) ⟨by rw [List.length_map];exact hlen,its,0,rv,Heap.get?_push_size _ rfl⟩,rfl,q _ (I.hok.fresh (Nat.le_refl _))⟩
 rw [←ep]at fin hlen
 exact call_meets F.slot_str_split (typeIs_str _ _ _) F.entry_str_split (F.args_str_split_3 _ _ _) (meets_str_split_sep_max z ⟨#[c]⟩ k t t' t2 hk h1 rfl hf (Nat.le_of_lt hz) hlen) (fin _ _ (hZ _ _))
end L2
namespace L2
open PySem PySem.Spec PyProof.Rows
def su(K:PySem.W.Frag)(a:Addr)(xs:List V):Prop:=∃(o:Obj) (its:Array Value) (n:Nat),K.lookup a=some o∧o.cls=.type "tuple"∧o.data=.seq its n∧its.size≤sizeLine∧aC xs its.toList
theorem su.at{K:PySem.W.Frag}{a:Addr}{xs:List V}(h:su K a xs)(H:Hp):cA K H a xs:=.inr h
theorem ktup_mk{K:PySem.W.Frag}{a:Addr}{o:Obj}{its:Array Value}{n:Nat}{xs:List V}(l:K.lookup a=some o)(x:o.cls=.type "tuple")(d:o.data=.seq its n)(z:its.size≤sizeLine)(r:aC xs its.toList):su K a xs:=⟨o,its,n,l,x,d,z,r⟩
theorem pC(z y:Str){rest:List Nat}(h:z.cps.toList=y.cps.toList++rest):Txt.startswith z y=true:=by
 obtain⟨⟨l⟩⟩:=z
 obtain⟨⟨m⟩⟩:=y
 simp at h
 subst h
 unfold Txt.startswith
 rw [StrLaws.subAt_eq]
 simp [Str.length]
structure gA(z rest:Str)(t u:Int):Prop where
 cs:z.cps.toList=(Str.ofString "every").cps.toList++32::(cM t++32::(cM u++32::rest.cps.toList))
 tb:t.natAbs < 10 ^ 40
 ub:u.natAbs < 10 ^ 40
 rl:rest.length≤10000
theorem gA.split{z rest:Str}{t u:Int}(R:gA z rest t u):eJ z 32 3=[Str.ofString "every",aP t,aP u,rest]:=by
 refine cT ?_
 rw [lB,R.cs,gs 32 2 _ _ (by decide +kernel),gs 32 1 _ _ (kX t),gs 32 0 _ _ (kX u)]
 simp only [dN,List.map_cons,List.map_nil]
 rfl
theorem gA.pos{z rest:Str}{t u:Int}(R:gA z rest t u):cf 32 z.cps.toList 0≠[]:=by
 rw [R.cs]
 exact mY 32 _ _ 0
theorem gA.len{z rest:Str}{t u:Int}(R:gA z rest t u):z.length≤20000:=by
 rw [aN,R.cs]
 have h1:=dj (n:=t) (k:=40) (by decide) R.tb
 have h2:=dj (n:=u) (k:=40) (by decide) R.ub
 have h3:=R.rl
 rw [aN]at h3
 have h4:(Str.ofString "every").cps.toList.length=5:=by decide +kernel
 simp only [List.length_append,List.length_cons]
 omega
theorem gA.starts{z rest:Str}{t u:Int}(R:gA z rest t u):Txt.startswith z (Str.ofString "every ")=true:=by
 refine pC z _ (rest:=cM t++32::(cM u++32::rest.cps.toList)) ?_
 rw [R.cs,show(Str.ofString "every ").cps.toList=(Str.ofString "every").cps.toList++[32]by decide +kernel,List.append_assoc]
 rfl
theorem m6{K:PySem.W.Frag}{H:Hp}{a:Addr}{z:Str}{ws:List Str}{Q:VK}(h:cA K H a (ws.map V.str))(q:Q (.bl (!decide (z∈ws))) H):fh K (.str z) (.ref a) H Q:=by
 have e:∀ws:List Str,yE (.str z) (ws.map V.str)=decide (z∈ws):=by
  intro ws
  induction ws with
  | nil=>rfl
  | cons d D ih=>
   have e:yE (.str z) ((d::D).map V.str)=((d == z) || yE (.str z) (D.map V.str)):=rfl
   rw [e,ih,Bool.eq_iff_iff,Bool.or_eq_true,beq_iff_eq,decide_eq_true_eq,decide_eq_true_eq,List.mem_cons]
   exact⟨fun h=>h.imp Eq.symm id,fun h=>h.imp Eq.symm id⟩
 refine .inr ⟨a,_,rfl,.inr h,rfl,?_,?_⟩
 ·rw [List.all_map];exact List.all_eq_true.mpr fun _ _=>rfl
 ·rw [e];exact q
end L2
namespace L2
open PySem PySem.Spec PyProof.Rows
section
variable {X:Cx} {tg:Expr}
end
end L2
namespace L2
open PySem PySem.Spec PyProof.Rows
theorem qW{k:V→Prop}{σ:L2.St}{i:Nat}:(ux σ i k)=(∃v,σ[i]?=some (some v)∧k v):=propext iJ
theorem qK{v:V}{k:Int→Prop}:(uV v k)=(∃i,v=V.int i∧k i):=propext fU
theorem qJ{v:V}{k:Bool→Prop}:(wz v k)=(∃i,v=V.bl i∧k i):=propext iC
theorem vf{x y:V}{H:Hp}{Q:VK}:(sh ke x y H Q)=(ke x y H Q):=propext yF
theorem vg{x y:V}{H:Hp}{Q:VK}:(si kg x y H Q)=(kg x y H Q):=propext yJ
theorem j0{K:W.Frag}{x y:V}{H:Hp}{Q:VK}:(iq (cU K) x y H Q)=(cU K x y H Q):=propext vq
theorem j3{K:W.Frag}{x y:V}{H:Hp}{Q:VK}:(mL (dn K) x y H Q)=(dn K x y H Q):=propext vw
theorem sH{K:W.Frag}{x y:V}{H:Hp}{Q:VK}:(sh (gd K) x y H Q)=(gd K x y H Q):=propext xl
theorem sI{K:W.Frag}{x y:V}{H:Hp}{Q:VK}:(si (fG K) x y H Q)=(fG K x y H Q):=propext xn
theorem qL{K:W.Frag}{x y:V}{H:Hp}{Q:VK}:(iq (ee K) x y H Q)=(ee K x y H Q):=propext vt
theorem nW{K:W.Frag}{i j:Int}{H:Hp}{Q:VK}:(cU K (V.int i) (V.int j) H Q)=(Q (V.int (i+j)) H):=propext rAddA_ii
theorem nX{K:W.Frag}{i j:Int}{H:Hp}{Q:VK}:(ee K (V.int i) (V.int j) H Q)=(Q (V.int (i+j)) H):=propext mZ
theorem iT{K:W.Frag}{i j:Str}{H:Hp}{Q:VK}:(cU K (V.str i) (V.str j) H Q)=(i.length+j.length≤sizeLine∧Q (V.str (i++j)) H):=propext uj
theorem nY{i j:Int}{H:Hp}{Q:VK}:(ij (V.int i) (V.int j) H Q)=(IntMulOk i j∧Q (V.int (i * j)) H):=propext m3
theorem nZ{z:Str}{j:Int}{H:Hp}{Q:VK}:(ij (V.str z) (V.int j) H Q)=((-1000000≤j∧j≤1000000∧z.length≤16)∧Q (V.str (gf z j)) H):=propext m4
theorem n6{K:W.Frag}{i j:Int}{H:Hp}{Q:VK}:(dn K (V.int i) (V.int j) H Q)=(IntMulOk i j∧Q (V.int (i * j)) H):=propext m5
theorem iU{K:W.Frag}{z:Str}{j:Int}{H:Hp}{Q:VK}:(dn K (V.str z) (V.int j) H Q)=((-1000000≤j∧j≤1000000∧z.length≤16)∧Q (V.str (gf z j)) H):=propext ur
theorem sR{K:W.Frag}{z:Str}{lo hi:Option Int}{H:Hp}{Q:VK}:(rO K (V.str z) lo hi H Q)=(z.length≤sizeLine∧Q (V.str (Txt.slice z lo hi)) H):=propext xS
theorem vh{K:W.Frag}{z:Str}{i:Int}{H:Hp}{Q:VK}:(v7 K (V.str z) (V.int i) H Q)=(z.length≤sizeLine∧∃c,et z.cps.toList i=some c∧Q (V.str { cps:=#[c] }) H):=propext y7
theorem sL{i j:Int}{H:Hp}{Q:VK}:(ke (V.int i) (V.int j) H Q)=(Q (V.bl (decide (i=j))) H):=propext lE
theorem sP{i j:Int}{H:Hp}{Q:VK}:(kg (V.int i) (V.int j) H Q)=(Q (V.bl !decide (i=j)) H):=propext lH
theorem sM{i j:Str}{H:Hp}{Q:VK}:(ke (V.str i) (V.str j) H Q)=(Q (V.bl (decide (i=j))) H):=propext lF
theorem qN{K:W.Frag}{i j:Int}{H:Hp}{Q:VK}:(lD K (V.int i) (V.int j) H Q)=(Q (V.bl (decide (i=j))) H):=propext vX
theorem qS{K:W.Frag}{i j:Int}{H:Hp}{Q:VK}:(lG K (V.int i) (V.int j) H Q)=(Q (V.bl !decide (i=j)) H):=propext v9
theorem qO{K:W.Frag}{i j:Str}{H:Hp}{Q:VK}:(lD K (V.str i) (V.str j) H Q)=(Q (V.bl (decide (i=j))) H):=propext vY
theorem qT{K:W.Frag}{i j:Str}{H:Hp}{Q:VK}:(lG K (V.str i) (V.str j) H Q)=(Q (V.bl !decide (i=j)) H):=propext wa
theorem qM{K:W.Frag}{i j:Bool}{H:Hp}{Q:VK}:(lD K (V.bl i) (V.bl j) H Q)=(Q (V.bl (decide (i=j))) H):=propext vW
theorem qR{K:W.Frag}{i j:Bool}{H:Hp}{Q:VK}:(lG K (V.bl i) (V.bl j) H Q)=(Q (V.bl !decide (i=j)) H):=propext v8
theorem sQ{i j:Str}{H:Hp}{Q:VK}:(kg (V.str i) (V.str j) H Q)=(Q (V.bl !decide (i=j)) H):=propext lI
theorem sJ{i j:Bool}{H:Hp}{Q:VK}:(ke (V.bl i) (V.bl j) H Q)=(Q (V.bl (decide (i=j))) H):=propext uo
theorem sO{i j:Bool}{H:Hp}{Q:VK}:(kg (V.bl i) (V.bl j) H Q)=(Q (V.bl !decide (i=j)) H):=propext uu
theorem sN{K:W.Frag}{c:Nat}{z:Str}{H:Hp}{Q:VK}:(uq K (V.str { cps:=#[c] }) (V.str z) H Q)=(Q (V.bl (decide (c∈z.cps.toList))) H):=propext xO
theorem mC{K:W.Frag}{c:Nat}{z:Str}{H:Hp}{Q:VK}:(fh K (V.str { cps:=#[c] }) (V.str z) H Q)=(Q (V.bl !decide (c∈z.cps.toList)) H):=propext rN
theorem sS{i:Int}{H:Hp}{Q:VK}:(oQ [V.int i] H Q)=(i.natAbs.log2 < 1920∧Q (V.str (aP i)) H):=propext xW
theorem sT{z:Str}{H:Hp}{Q:VK}:(oQ [V.str z] H Q)=(Q (V.str z) H):=propext xX
theorem qP{K:W.Frag}{i j:Int}{H:Hp}{Q:VK}:(gd K (V.int i) (V.int j) H Q)=(Q (V.bl (decide (i=j))) H):=propext rEqC_ii
theorem qU{K:W.Frag}{i j:Int}{H:Hp}{Q:VK}:(fG K (V.int i) (V.int j) H Q)=(Q (V.bl !decide (i=j)) H):=propext qf
theorem qQ{K:W.Frag}{i j:Str}{H:Hp}{Q:VK}:(gd K (V.str i) (V.str j) H Q)=(Q (V.bl (decide (i=j))) H):=propext qb
theorem qV{K:W.Frag}{i j:Str}{H:Hp}{Q:VK}:(fG K (V.str i) (V.str j) H Q)=(Q (V.bl !decide (i=j)) H):=propext rNeC_ss
theorem sF{K:W.Frag}{b k:Bool}{H:Hp}:(u4 K (V.bl b) H k)=(k=b):=propext TruV_b
theorem vi{K:W.Frag}{z:Str}{H:Hp}:(zk K "str" (V.str z) H)=(True):=propext zm
theorem nU{K:PySem.W.Frag}{i j:Str}{H:Hp}{Q:VK}:iq (cU K) (.str i) (.str j) H Q=(i.length+j.length≤sizeLine∧Q (.str (i++j)) H):=by rw [j0,iT]
theorem nV{K:PySem.W.Frag}{z:Str}{j:Int}{H:Hp}{Q:VK}:mL (dn K) (.str z) (.int j) H Q=((-1000000≤j∧j≤1000000∧z.length≤16)∧Q (.str (gf z j)) H):=by rw [j3,iU]
theorem sG{α:Sort u}{p:α→Prop}{a':α}:(∃a,a'=a∧p a)=p a':=propext exists_eq_left'
theorem xc{α:Sort u}{a':α}:(∃a,a'=a)=True:=eq_true ⟨_,rfl⟩
theorem yA{α:Sort u}{a':α}:(∃a,a=a')=True:=eq_true ⟨_,rfl⟩
theorem wD{α:Sort u}{p:α→Prop}{a':α}:(∃a,a=a'∧p a)=p a':=propext exists_eq_left
theorem wB{α:Sort u}{p:α→Prop}{b:Prop}:(∃x,b∧p x)=(b∧∃x,p x):=propext exists_and_left
theorem wA{a b c:Prop}:((a∧b)∧c)=(a∧b∧c):=propext and_assoc
theorem wC{α:Sort u}:(∃_:α,False)=False:=eq_false exists_false
theorem yz{b:Prop}(α:Sort u)[Nonempty α]:(∃_:α,b)=b:=propext (exists_const α)
theorem zO{p:Prop}{x:Decidable p}:(decide p=false)=¬p:=propext decide_eq_false_iff_not
theorem tm{c:TT}{t w:TS}{D:fk}{σ:L2.St}{H:Hp}(h:∀A B:Hp→Prop,(∀H,iw t w D σ H→A H)→(∀H,w D σ H→B H)→c σ H fun b H1=>if b=true then A H1 else B H1):iw (wm c t qm) w D σ H:=h _ _ (fun _ x=>x) fun _ x=>x
theorem lz{t r w:TS}{D:fk}{σ:L2.St}{H:Hp}(h:∀k:L2.St→Hp→Prop,(∀σ H,iw r w D σ H→k σ H)→t { D with nx:=k } σ H):iw (iw t r) w D σ H:=h _ fun _ _ x=>x
end L2
namespace L2
open PySem PySem.Spec PyProof.Rows
section
variable {prog:Program} {w:World} {A:Around} {R:Result→Shared→Prop} {it al bb:Addr} {items:Array Value} {G:Heap→Prop} {kf:Nat→List Int} {d:Value}
end
section
variable {prog:Program} {w:World} {A:Around} {E:Value→Shared→Prop} {s:Shared}
end
end L2
namespace L2
open PySem PySem.Spec PyProof.Rows
section
variable {prog:Program} {w:World} {A:Around} {E:Value→Shared→Prop} {s:Shared}
end
end L2
namespace XE
open PySem
open Sem (wp)
section
variable {M:Model} {A:Around} {E:Value→Shared→Prop} {s:Shared}
def Tr(h:Heap)(e T:Addr)(cls:Value)(dc:Option Addr)(fl:Value):Prop:=
 ∃oe vs oT ts,h.get? e=some oe∧(oe.cls=cls∧oe.dict=dc)∧oe.data=.fields vs∧vs[1]?=some (.ref T)∧T≠e∧h.get? T=some oT∧oT.data=.fields ts∧ts[3]?=some fl
def z8(h:Heap)(e:Addr)(cls:Value)(dc:Option Addr):Prop:=∃oe vs,h.get? e=some oe∧(oe.cls=cls∧oe.dict=dc)∧oe.data=.fields vs∧vs[1]?=some .none
def On(base:Heap)(l:List Env)(e:Addr)(h:Heap):Prop:=base.StaysIn h∧base.get? e=none∧h.FunFrames base l
theorem Tr.there{h:Heap}{e T:Addr}{cls:Value}{dc:Option Addr}{fl:Value}(x:Tr h e T cls dc fl):∃o vs,h.get? e=some o∧o.cls=cls∧o.dict=dc∧o.data=.fields vs:=
 let ⟨o,vs,_,_,a,b,c,_⟩:=x;⟨o,vs,a,b.1,b.2,c⟩
theorem Tr.tb{h:Heap}{e T:Addr}{cls:Value}{dc:Option Addr}{fl:Value}(x:Tr h e T cls dc fl):∃o vs,h.get? T=some o∧o.data=.fields vs:=
 let ⟨_,_,o,vs,_,_,_,_,_,a,b,_⟩:=x;⟨o,vs,a,b⟩
theorem entry{base:Heap}{env:Env}{outer:List Env}{L e:Addr}{oe:Obj}{vs:Array Value}{head:Value}{hadNext:Bool}{Q:Unit→Shared→Prop}
  (hfr:A.frames=some (env::outer)) (o:On base (env::outer) e s.heap) (hf:env.frame=some L) (he:s.heap.get? e=some oe) (hd:oe.data=.fields vs) (hsz:1 < vs.size)
  (h:∀h' T,s.heap.objs.size≤T→On base (env::outer) e h'→Tr h' e T oe.cls oe.dict (rawInt L)→s.heap.UpToSlots h'→Q () { s with heap:=h' }) :
  wpAny M A (do let a ←frameOf env;let pl ←entryPlaceOf L hadNext;let b ←EntryCells.newEntry head a .none (rawInt L) .none pl;setField (.ref e) 1 b) Q E s:=by
 obtain⟨hkb,hen,hl⟩:=o
 have hene:e∉(env::outer).filterMap (·.frame):=fun hm=>by
  obtain⟨_,o,ho,hnf⟩:=hl.mem hm
  rw [he]at ho;injection ho with ho;subst ho;exact hnf vs hd
 refine wpAny_bind (wpAny_frameOf_fun hfr hl hf fun h₁ hs₁=>?_)
 refine wpAny_bind (wpAny_entryPlaceOf fun pl hpl=>?_)
 unfold EntryCells.newEntry newFields
 refine wpAny_bind (wpAny_newObj_type ?_ (hpl.sizeOk5 _ _ _ _ _))
 have he₁:h₁.get? e=some oe:=(hs₁.2.1 e hene).trans he
 have kb₁:base.StaysIn h₁:=fun b o hbo=>(hs₁.2.1 b fun hm=>by rw [(hl.mem hm).1]at hbo;cases hbo).trans (hkb b o hbo)
 generalize hT:({ cls:=.type "traceback",dict:=none,data:=.fields ([head,.ref L,.none,rawInt L,.none]++(if pl.isEmpty then List.replicate 6 Value.none else pl)).toArray }:Obj)=oT
 have he₂:=Heap.get?_push_of_some (h:=h₁) oT he₁
 refine wpAny_setField he₂ hd hsz (h _ h₁.objs.size (Nat.le_of_eq hs₁.1.symm) ?_ ?_ ?_)
 all_goals
  have hTe:h₁.objs.size≠e:=Nat.ne_of_gt (Heap.lt_size he₁)
  have hd₃:=Obj.data_mapFields hd (·.setIfInBounds 1 (Value.ref h₁.objs.size))
  have he₃:=Heap.get?_update_self (Obj.mapFields (·.setIfInBounds 1 (Value.ref h₁.objs.size))) he₂ (Obj.isFreed_of_fields hd₃)
  have keep:∀b o,b≠e→h₁.get? b=some o→((h₁.push oT).update e (Obj.mapFields (·.setIfInBounds 1 (Value.ref h₁.objs.size)))).get? b=some o:=
   fun b o hbe hb=>by
    rw [Heap.get?_update_other _ _ (Ne.symm hbe)]
    exact Heap.get?_push_of_some _ hb
  have noRecord:∀b o,s.heap.get? b=some o→(∀vs,o.data≠.fields vs)→b≠e:=fun b o hb hnf q=>by
   rw [q,he]at hb;injection hb with hb;subst hb;exact hnf vs hd
 ·refine⟨fun b o hbo=>keep b o (fun q=>by rw [q,hen]at hbo;cases hbo) (kb₁ b o hbo),hen,hl.of_keeps fun b o hb hnf=>?_⟩
  obtain⟨sl,hs⟩:=hs₁.2.2 b o hb
  exact⟨_,keep b _ (noRecord b o hb hnf) hs,rfl⟩
 ·have hT₃:=(Heap.get?_update_other (h₁.push oT) (Obj.mapFields (·.setIfInBounds 1 (Value.ref h₁.objs.size))) (Ne.symm hTe)).trans (Heap.get?_push_size h₁ (by rw [←hT];rfl))
  refine⟨_,_,_,_,he₃,⟨Obj.cls_mapFields _ _,?_⟩,hd₃,by simp [hsz],hTe,hT₃,by rw [←hT],by first | (simp;done) | (rcases hpl with rfl | ⟨_,_,_,_,_,_,_,rfl⟩<;>simp)⟩
  unfold Obj.mapFields
  split<;>rfl
 ·intro b o hb hnf
  obtain⟨sl,hs⟩:=hs₁.2.2 b o hb
  exact⟨sl,keep b _ (noRecord b o hb hnf) hs⟩
theorem tO{base:Heap}{env:Env}{outer:List Env}{L e:Addr}{cls:Value}{dc:Option Addr}{Q:Unit→Shared→Prop}
  (hfr:A.frames=some (env::outer)) (hf:env.frame=some L) (o:On base (env::outer) e s.heap) (x:z8 s.heap e cls dc)
  (h:∀h' T,s.heap.objs.size≤T→On base (env::outer) e h'→Tr h' e T cls dc (rawInt L)→s.heap.UpToSlots h'→Q () { s with heap:=h' }):wpAny M A (noteFrame (.ref e) env) Q E s:=by
 obtain⟨oe,vs,he,⟨rfl,rfl⟩,hd,h1⟩:=x
 unfold noteFrame
 simp only [hf]
 refine wpAny_bind (wpAny_field he hd h1 ?_)
 rw [if_neg (by decide)]
 exact entry hfr o hf he hd (Array.getElem?_eq_some_iff.mp h1).1 h
theorem vA{base:Heap}{env:Env}{outer:List Env}{L e T:Addr}{cls:Value}{dc:Option Addr}{Q:Unit→Shared→Prop}
  (hfr:A.frames=some (env::outer)) (hf:env.frame=some L) (o:On base (env::outer) e s.heap) (hnT:base.get? T=none) {fl:Value} (hfl:¬((fl == rawInt L)=true)) (x:Tr s.heap e T cls dc fl)
  (h:∀h' T,s.heap.objs.size≤T→On base (env::outer) e h'→Tr h' e T cls dc (rawInt L)→s.heap.UpToSlots h'→Q () { s with heap:=h' }):wpAny M A (noteFrame (.ref e) env) Q E s:=by
 obtain⟨oe,vs,oT,ts,he,⟨rfl,rfl⟩,hd,h1,hTe,hT,hdT,h3⟩:=x
 obtain⟨hkb,hen,hl⟩:=o
 unfold noteFrame
 simp only [hf]
 refine wpAny_bind (wpAny_field he hd h1 ?_)
 rw [if_pos (show(Value.ref T != Value.none)=true from by simp)]
 refine wpAny_bind (wpAny_field hT hdT h3 ?_)
 rw [if_neg hfl]
 refine wpAny_bind (wpAny_setField hT hdT (Array.getElem?_eq_some_iff.mp h3).1 ?_)
 have other:∀b,b≠T→(s.heap.update T (Obj.mapFields (·.setIfInBounds 3 Value.none))).get? b=s.heap.get? b:=fun b hb=>Heap.get?_update_other _ _ (Ne.symm hb)
 have noRecord:∀b o,s.heap.get? b=some o→(∀vs,o.data≠.fields vs)→b≠T:=fun b o hb hnf q=>by
  rw [q,hT]at hb;injection hb with hb;subst hb;exact hnf ts hdT
 have hsz:(s.heap.update T (Obj.mapFields (·.setIfInBounds 3 Value.none))).objs.size=s.heap.objs.size:=Heap.size_after_update _ _ _
 exact entry (s:={ s with heap:=s.heap.update T (Obj.mapFields (·.setIfInBounds 3 Value.none)) }) hfr
  ⟨fun b o hbo=>(other b fun q=>by rw [q,hnT]at hbo;cases hbo).trans (hkb b o hbo),hen,hl.of_keeps fun b o hb hnf=>⟨o,(other b (noRecord b o hb hnf)).trans hb,rfl⟩⟩ hf ((other e (Ne.symm hTe)).trans he) hd (Array.getElem?_eq_some_iff.mp h1).1
  fun h' T' x0 x1 x2 x3=>h h' T' (hsz▸x0) x1 x2 fun b o hb hnf=>x3 b o ((other b (noRecord b o hb hnf)).trans hb) hnf
theorem rz{env:Env}{L e T:Addr}{cls:Value}{dc:Option Addr}{Q:Unit→Shared→Prop}
  (hf:env.frame=some L) (x:Tr s.heap e T cls dc (rawInt L)) (h:Q () s):wpAny M A (noteFrame (.ref e) env) Q E s:=by
 obtain⟨oe,vs,oT,ts,he,_,hd,h1,hTe,hT,hdT,h3⟩:=x
 unfold noteFrame
 simp only [hf]
 refine wpAny_bind (wpAny_field he hd h1 ?_)
 rw [if_pos (show(Value.ref T != Value.none)=true from by simp)]
 refine wpAny_bind (wpAny_field hT hdT h3 ?_)
 rw [if_pos (show(rawInt L == rawInt L)=true from by simp)]
 exact wpAny_pure h
theorem land{base:Heap}{l:List Env}{e T:Addr}{cls fl:Value}{dc:Option Addr}{Q:Unit→Shared→Prop}(o:On base l e s.heap)(hnT:base.get? T=none)(x:Tr s.heap e T cls dc fl)
  (h:∀h',On base l e h'→Tr h' e T cls dc .none→s.heap.UpToSlots h'→Q () { s with heap:=h' }):wpAny M A (setFlight (.ref e) none) Q E s:=by
 obtain⟨oe,vs,oT,ts,he,hcls,hd,h1,hTe,hT,hdT,h3⟩:=x
 obtain⟨hkb,hen,hl⟩:=o
 have hsz3:3 < ts.size:=(Array.getElem?_eq_some_iff.mp h3).1
 have other:∀b,b≠T→(s.heap.update T (Obj.mapFields (·.setIfInBounds 3 ((none:Option Addr).elim Value.none fun f=>rawInt f)))).get? b=s.heap.get? b:=
  fun b hb=>Heap.get?_update_other _ _ (Ne.symm hb)
 have noRecord:∀b o,s.heap.get? b=some o→(∀vs,o.data≠.fields vs)→b≠T:=fun b o hb hnf q=>by
  rw [q,hT]at hb;injection hb with hb;subst hb;exact hnf ts hdT
 unfold setFlight
 refine wpAny_bind (wpAny_field he hd h1 ?_)
 rw [if_pos (show(Value.ref T != Value.none)=true from by simp)]
 refine wpAny_setField hT hdT hsz3 (h _ ⟨fun b o hbo=>(other b fun q=>by rw [q,hnT]at hbo;cases hbo).trans (hkb b o hbo),hen,
  hl.of_keeps fun b o hb hnf=>⟨o,(other b (noRecord b o hb hnf)).trans hb,rfl⟩⟩ ?_ fun b o hb hnf=>⟨o.slots,(other b (noRecord b o hb hnf)).trans hb⟩)
 exact⟨oe,vs,_,_,(other e (Ne.symm hTe)).trans he,hcls,hd,h1,hTe,Heap.get?_update_self _ hT (Obj.isFreed_of_fields (Obj.data_mapFields hdT _)),Obj.data_mapFields hdT _,by simp [hsz3]⟩
def Out(h:Heap)(e:Addr)(cls:Value)(dc:Option Addr)(ts:List Addr):Prop:=(ts=[]∧z8 h e cls dc)∨∃T fl,ts=[T]∧Tr h e T cls dc fl
theorem note_out{base:Heap}{env:Env}{outer:List Env}{L e:Addr}{cls:Value}{dc:Option Addr}{ts:List Addr}{Q:Unit→Shared→Prop}
  (hfr:A.frames=some (env::outer)) (hf:env.frame=some L) (o:On base (env::outer) e s.heap) (hts:∀T∈ts,base.get? T=none) (x:Out s.heap e cls dc ts)
  (h:∀h' T,(T∈ts∨s.heap.objs.size≤T)→On base (env::outer) e h'→Tr h' e T cls dc (rawInt L)→s.heap.UpToSlots h'→Q () { s with heap:=h' }):wpAny M A (noteFrame (.ref e) env) Q E s:=by
 rcases x with⟨rfl,x⟩ | ⟨T,fl,rfl,x⟩
 ·exact tO hfr hf o x fun h' T a=>h h' T (.inr a)
 ·by_cases hfl:(fl == rawInt L)=true
  ·have e:fl=rawInt L:=by simpa using hfl
   subst e
   exact rz hf x (h s.heap T (.inl (.head _)) o x (.refl _))
  ·exact vA hfr hf o (hts T (.head _)) hfl x fun h' T a=>h h' T (.inr a)
theorem kW{base h:Heap}{T:Addr}{ts:List Addr}(k:base.StaysIn h)(hts:∀T∈ts,base.get? T=none)(hT:T∈ts∨h.objs.size≤T):base.get? T=none:=by
 rcases hT with hT | hT
 ·exact hts T hT
 ·cases q:base.get? T with
  | none=>rfl
  | some o=>exact absurd (Heap.lt_size (k _ _ q)) (Nat.not_lt.mpr hT)
theorem leave_out{base:Heap}{env:Env}{outer:List Env}{L e:Addr}{cls:Value}{dc:Option Addr}{ts:List Addr}{Q:Unit→Shared→Prop}
  (hfr:A.frames=some (env::outer)) (hf:env.frame=some L) (o:On base (env::outer) e s.heap) (hts:∀T∈ts,base.get? T=none) (x:Out s.heap e cls dc ts)
  (h:∀h' T,(T∈ts∨s.heap.objs.size≤T)→On base outer e h'→Tr h' e T cls dc .none→s.heap.UpToSlots h'→Q () { s with heap:=h' }):wpAny M A (leaving env (.ref e)) Q E s:=by
 unfold leaving
 refine wpAny_bind (note_out hfr hf o hts x fun h₁ T hT o1 x1 u1=>?_)
 refine land (s:={ s with heap:=h₁ }) o1 (kW o.1 hts hT) x1 fun h₂ o2 x2 u2=>?_
 obtain⟨a,b,_,_,c⟩:=o2
 exact h h₂ T hT ⟨a,b,c⟩ x2 (u1.trans u2)
end
inductive Tail(h:Heap)(no:Str→Prop)(bmB:List Value):List Value→Prop
 | base:Tail h no bmB bmB
 | own {A:Addr} {c0:Value} {dd:Option Addr} {cd:ClassData} {sl:Array (Option Value)} {mA:Str→Option Value} {tl:List Value} :
   h.get? A=some { cls:=c0,dict:=dd,data:=.cls cd,slots:=sl }→h.Ns cd.ns mA→(∀n,no n→mA n=none)→Tail h no bmB tl→Tail h no bmB (.ref A::tl)
theorem Tail.hasType{h:Heap}{no:Str→Prop}{bmB tl:List Value}(T:Tail h no bmB tl){X:String}{b:Bool}(hb:bmB.contains (.type X)=b):tl.contains (.type X)=b:=by
 induction T with
 | base=>exact hb
 | own _ _ _ _ ih=>rw [List.contains_cons,ih];rfl
theorem Tail.keeps{h h':Heap}{no:Str→Prop}{bmB tl:List Value}(T:Tail h no bmB tl)(hk:∀b o,h.get? b=some o→h'.get? b=some o):Tail h' no bmB tl:=by
 induction T with
 | base=>exact .base
 | own hA hN hq _ ih=>exact .own (hk _ _ hA) (hN.keeps hk) hq ih
theorem Tail.ot{h:Heap}{no:Str→Prop}{bmB tl:List Value}(T:Tail h no bmB tl)(hi:no "__init__"):OwnTail h bmB tl:=by
 induction T with
 | base=>exact .base
 | own hA hN hq _ ih=>exact .own hA hN (hq _ hi) ih
section
variable {M:Model} {A:Around} {E:Value→Shared→Prop} {h:Heap} {g:Array GenState} {d:Drawn} {t:Nat} {os:OsState}
variable {nm q:Str} {C N:Addr} {bs bm bmB:List Value} {hdct:Bool} {sn:List Str} {sub:List Value} {ab:Bool} {col:Option Bool} {dd:Option Addr} {k0 k1 k2 k3 k5:Option Value} {B newId initId:String} {no:Str→Prop}
theorem yw{tl:List Value}{n:Str}{y:Option Value}{Q:Option Value→Shared→Prop}(hn:no n)(T:Tail h no bmB tl)(hrest:lookupAlong bmB n=pure y)(hq:Q y ⟨h,g,d,t,os⟩):
  wpAny M A (lookupAlong tl n) Q E ⟨h,g,d,t,os⟩:=by
 induction T with
 | base=>rw [hrest];exact wpAny_pure hq
 | own hA hN hni _ ih=>
  rw [lookupAlong_cons]
  refine wpAny_bind (wpAny_classOwn_cls hA hN ?_)
  rw [hni n hn]
  exact ih
theorem lookup{mN:Str→Option Value}{n:Str}{y:Option Value}{Q:Option Value→Shared→Prop}(hno:no n)
  (hC:h.get? C=some (excClassObj nm q C N bs bm hdct sn sub ab col dd k0 k1 k2 k3 k5 newId)) (hn:h.Ns N mN) (T:Tail h no bmB bm) (hbm:mroOf (.type B)=pure bmB) (hB:typeLookup (.type B) n=pure y)
  (hq:Q (match mN n with | some v=>some v | none=>y) ⟨h,g,d,t,os⟩):wpAny M A (typeLookup (.ref C) n) Q E ⟨h,g,d,t,os⟩:=by
 have hrest:lookupAlong bmB n=pure y:=by rw [typeLookup_eq,hbm]at hB;exact hB
 rw [typeLookup_eq]
 refine wpAny_bind (wpAny_mroOf_exc hC ?_)
 rw [lookupAlong_cons]
 refine wpAny_bind (wpAny_classOwn_exc hC hn ?_)
 cases hv:mN n with
 | some v=>rw [hv]at hq;exact wpAny_pure hq
 | none=>rw [hv]at hq;exact yw hno T hrest hq
end
section
variable {prog:Program} {w:World} {A:Around} {E:Value→Shared→Prop} {h:Heap} {g:Array GenState} {d:Drawn} {t:Nat} {os:OsState}
variable {nm q:Str} {C N:Addr} {bs bm bmB:List Value} {hdct:Bool} {sn:List Str} {sub:List Value} {ab:Bool} {col:Option Bool} {dd:Option Addr} {k0 k1 k2 k3 k5:Option Value} {B newId initId:String}
theorem made{mN:Str→Option Value}{rest:List Value}{fI:Addr}{oI:Obj}{Q:Fin→Shared→Prop}(F:ExcBaseFacts B newId initId bmB)(T:OwnTail h bmB bm)
  (hC:h.get? C=some (excClassObj nm q C N bs bm hdct sn sub ab col dd k0 k1 k2 k3 k5 newId)) (hn:h.Ns N mN) (hi:mN "__init__"=some (.ref fI)) (hfI:h.get? fI=some oI) (hfc:oI.cls=.type "function")
  (hq:∀h',Heap.MadeExcOf h h' (h.objs.size+1) (.ref C) rest→wpAny (model prog w) A (call (.ref fI) (.ref (h.objs.size+1)::rest)) (fun r s'=>r=.none∧Q (.done (.ret (.ref (h.objs.size+1)))) s') E ⟨h',g,d,t,os⟩)
  (hrest:rest.length≤sizeLine:=by size_fits):wpAny (model prog w) A (Builtin.«type.__call__» ⟨.ref C::rest,[]⟩) Q E ⟨h,g,d,t,os⟩:=by
 repeat (first | with_reducible refine wpAny_loadPart_at hC ?_ | with_reducible refine wpAny_madeBy_exc hC ?_ | wp_step)
 refine codeAny_call_builtin_code (Code.quiet_builtin _ F.quiet) (wpAny_check_new_subU F F.hasB T hC ?_)
 refine codeAny_exc_new_subU F F.hasB F T hC ?_ hrest
 show wpAny _ _ _ _ _ _
 generalize ho:({ cls:=.ref C,data:=.fields #[.ref h.objs.size,.none,.none,.none,.bool false,.none] }:Obj)=oe
 have hk:∀b o,h.get? b=some o→((h.push { cls:=.type "tuple",data:=.seq rest.toArray }).push oe).get? b=some o:=fun b o e=>Heap.get?_push_of_some _ (Heap.get?_push_of_some _ e)
 have hC₁:=hk _ _ hC
 have hn₁:=hn.keeps hk
 have T₁:=T.keeps hk
 have hget:((h.push { cls:=.type "tuple",data:=.seq rest.toArray }).push oe).get? (h.objs.size+1)=some oe:=by subst ho;heap_get
 have hoc:oe.cls=.ref C:=by subst ho;rfl
 have hcC:(Value.ref C::bm).contains (.ref C)=true:=by simp
 unfold isInstance
 repeat (first | (with_reducible refine wpAny_loadPart_at hget ?_;rw [hoc]) | (with_reducible refine wpAny_isSubtype_exc hC₁ ?_;rw [hcC]) | wp_step)
 show wpAny _ _ (typeLookup (.ref C) _) _ _ _
 refine wpAny_typeLookup_tail hC₁ hn₁ T₁ F.mroIs F.init.lookup ?_
 rw [hi]
 refine wpAny_holding (wpAny_bind ?_)
 unfold bindSpecial
 refine wpAny_bind (wpAny_typeOf (T:="function") ⟨_,hk _ _ hfI,hfc⟩ ?_)
 rw [if_pos (by decide)]
 refine wpAny_pure (wpAny_bind (wpAny_mono (hq _ ⟨hk,Heap.get?_none_of_le (Nat.le_succ _),h.objs.size,by rw [hget,←ho],Heap.get?_none_of_le (Nat.le_refl _),?_⟩) (fun r s' hr=>?_) fun _ _ x=>x))
 ·exact Heap.get?_push_of_some _ (Heap.get?_push_at rfl rfl)
 ·obtain⟨rfl,hQ⟩:=hr
  wp_walk
  exact hQ
theorem call_own{mN:Str→Option Value}{rest:List Value}{fI:Addr}{oI:Obj}{Q:Value→Shared→Prop}(F:ExcBaseFacts B newId initId bmB)(T:OwnTail h bmB bm)
  (hC:h.get? C=some (excClassObj nm q C N bs bm hdct sn sub ab col dd k0 k1 k2 k3 k5 newId)) (hn:h.Ns N mN) (hi:mN "__init__"=some (.ref fI)) (hfI:h.get? fI=some oI) (hfc:oI.cls=.type "function")
  (hq:∀h',Heap.MadeExcOf h h' (h.objs.size+1) (.ref C) rest→wpAny (model prog w) (A.under (.builtin "type.__call__" ⟨.ref C::rest,[]⟩)) (call (.ref fI) (.ref (h.objs.size+1)::rest)) (fun r s'=>r=.none∧Q (.ref (h.objs.size+1)) s') E ⟨h',g,d,t,os⟩)
  (hrest:rest.length≤sizeLine:=by size_fits):wpAny (model prog w) A (call (.ref C) rest) Q E ⟨h,g,d,t,os⟩:=by
 have f1:=tc_lookup
 have f2:=tc_bind (.ref C)
 have hT:(⟨h,g,d,t,os⟩:Shared).TypeIs (.ref C) "type":=⟨_,hC,rfl⟩
 refine wpAny_call (codeAny_of_tree ?_)
 show wpAny _ _ (callAny (.ref C) _) _ _ _
 repeat (any_goals (first | assumption | with_reducible refine wpAny_loadPart_at hC ?_ | wp_step))
 refine⟨rfl,?_⟩
 refine codeAny_call_builtin_at (Code.quiet_builtin _ (by decide +kernel)) entry_typeCall (wpAny_check_type_call_sub hC (made (hrest:=hrest) F T hC hn hi hfI hfc fun h' hm=>?_))
 exact hq h' hm
end
section
variable {M:Model} {A:Around} {E:Value→Shared→Prop} {env:Env}
variable {nm q:Str} {C N:Addr} {bs bm:List Value} {hdct:Bool} {sn:List Str} {sub:List Value} {ab:Bool} {col:Option Bool} {dd:Option Addr} {k0 k1 k2 k3 k5:Option Value} {newId:String}
theorem oR{s:Shared}{x:Sem Value}{Q:Flow→Shared→Prop}(hbase:bm.contains (.type "BaseException")=true)(hh:A.handled=none)
  (h:wpAny M A x (fun v s₁=>∃e oe,v=.ref e∧s₁.heap.get? C=some (excClassObj nm q C N bs bm hdct sn sub ab col dd k0 k1 k2 k3 k5 newId)∧
   s₁.heap.get? e=some oe∧oe.cls=.ref C∧(∃vs,oe.data=.fields vs∧vs[1]?=some .none)∧E (.ref e) s₁) E s) :
  wpAny M A (raiseStmt env (some x) none) Q E s:=by
 have hcB:(Value.ref C::bm).contains (.type "BaseException")=true:=by rw [List.contains_cons,hbase,Bool.or_true]
 unfold raiseStmt
 refine wpAny_bind (wpAny_mono h (fun v s₁ h₁=>?_) fun _ _ x=>x)
 obtain⟨e,⟨oc,od,odt,osl⟩,rfl,hC,he,hcls,⟨vs,hd,h1⟩,hE⟩:=h₁
 cases hcls
 cases hd
 obtain⟨hp,g,d,tk,os⟩:=s₁
 repeat (first | with_reducible refine wpAny_loadPart_at he ?_ | with_reducible refine wpAny_loadPart_at hC ?_ | (with_reducible refine wpAny_isSubtype_exc hC ?_;rw [hcB]) | wp_step)
 rw [h1]
 repeat wp_step
 exact wpAny_raiseNew_none hh hE
end
section
variable {prog:Program} {w:World} {A:Around} {E:Value→Shared→Prop} {s:Shared} {env:Env}
variable {nm q:Str} {C N:Addr} {bs bm:List Value} {hdct:Bool} {sn:List Str} {sub:List Value} {ab:Bool} {col:Option Bool} {dd:Option Addr} {k0 k1 k2 k3 k5:Option Value} {newId:String}
theorem raise_of{ex:Expr}{pos:Pos}{Q:Flow→Shared→Prop}(hbm:bm.contains (.type "BaseException")=true)(hh:A.handled=none)
  (h:wpAny (model prog w) A (eval ex env) (fun v s₁=>∃e oe,v=.ref e∧s₁.heap.get? C=some (excClassObj nm q C N bs bm hdct sn sub ab col dd k0 k1 k2 k3 k5 newId)∧
   s₁.heap.get? e=some oe∧oe.cls=.ref C∧(∃vs,oe.data=.fields vs∧vs[1]?=some .none)∧E (.ref e) s₁) E s) :
  wpAny (model prog w) A (exec (.Raise (some ex) none pos) env) Q E s:=by
 rw [arm_exec_Raise]
 simp only [evalOpt,Option.map]
 exact wpAny_bind (wpAny_standAt (oR hbm hh (wpAny_bind (wpAny_mono h (fun v s₃ h₃=>wpAny_bind (wpAny_standAt (wpAny_pure h₃))) fun _ _ x=>x))))
end
section
open Builtin Builtin.ObjectAttr
variable {prog:Program} {w:World} {A:Around} {E:Value→Shared→Prop} {h:Heap} {g:Array GenState} {d:Drawn} {t:Nat} {os:OsState}
variable {nm q:Str} {C N x:Addr} {bs bm bmB:List Value} {sn:List Str} {sub:List Value} {ab:Bool} {col:Option Bool} {dd:Option Addr} {k0 k1 k2 k3 k5:Option Value} {B newId sa owner:String}
 {mN mA:Str→Option Value} {name:Str} {v:Value} {no:Str→Prop}
theorem m9{self:Value}{what:Str}{tl:List Value}(T:Tail h no bmB tl)(hb:refuseLoop self what bmB=pure ()):refuseLoop self what tl=pure ():=by
 induction T with
 | base=>exact hb
 | own _ _ _ _ ih=>rw [refuseLoop_ref];exact ih
theorem sx{M:Model}{o:Obj}{nameV:Value}{Q:Unit→Shared→Prop}(SF:StoreFacts B bmB sa owner)(T:Tail h no bmB bm)
  (hC:h.get? C=some (excClassObj nm q C N bs bm true sn sub ab col dd k0 k1 k2 k3 k5 newId)) (hx:h.get? x=some o) (hc:o.cls=.ref C) (hq:Q () ⟨h,g,d,t,os⟩) :
  wpAny M A (checkBuiltinCall sa ⟨[.ref x,nameV,v],[]⟩) Q E ⟨h,g,d,t,os⟩:=by
 have hcB:(Value.ref C::bm).contains (.type owner)=true:=by rw [List.contains_cons,T.hasType SF.hasOwner,Bool.or_true]
 have ha:=SF.args (.ref x) nameV v
 simp only [checkBuiltinCall,SF.kind,SF.split]
 refine wpAny_bind ?_
 ·unfold isInstance
  repeat (first | (with_reducible refine wpAny_loadPart_at hx ?_;rw [hc]) | (with_reducible refine wpAny_isSubtype_exc hC ?_;rw [hcB]) | wp_step)
  cases hsig:Manifest.signature? sa with
  | none=>exact wpAny_pure hq
  | some sig=>
   simp only [argsOk,hsig]at ha
   have h2:Bind.checkArgs sa sig ⟨[.ref x,nameV,v],[]⟩=pure ():=ha
   show wpAny M A (Bind.checkArgs sa sig ⟨[.ref x,nameV,v],[]⟩) Q E _
   rw [h2];exact wpAny_pure hq
theorem store_first{o:Obj}{Q:Unit→Shared→Prop}(SF:StoreFacts B bmB sa owner)(T:Tail h no bmB bm)(h1:no "__setattr__")(h2:no name)
  (hC:h.get? C=some (excClassObj nm q C N bs bm true sn sub ab col dd k0 k1 k2 k3 k5 newId)) (hn:h.Ns N mN) (hns:mN "__setattr__"=none) (hna:mN name=none)
  (hB:typeLookup (.type B) name=pure none) (hx:h.get? x=some o) (hc:o.cls=.ref C) (hnc:∀c,o.data≠.cls c) (hdn:o.dict=none)
  (hq:∀h' tk',h'.get? x=some { o with dict:=some h.objs.size }→h'.Ns1 h.objs.size (fun y=>if y=name then some v else none)→(∀b ob,b≠x→h.get? b=some ob→h'.get? b=some ob)→h.objs.size < h'.objs.size→Q () ⟨h',g,d,tk',os⟩) :
  wpAny (model prog w) A (setAttr (.ref x) name v) Q E ⟨h,g,d,t,os⟩:=by
 have f3:=SF.slot.bind (.ref x)
 have hpass:=m9 T (SF.passes (.ref x))
 unfold setAttr callSpecial? specialOf
 repeat (any_goals (first | assumption | (with_reducible refine wpAny_loadPart_at hx ?_;rw [hc]) | (with_reducible refine lookup h1 hC hn T SF.mro SF.slot.lookup ?_;rw [hns]) | wp_step))
 refine codeAny_call_builtin SF.slot.plain SF.entry (sx SF T hC hx hc ?_)
 unfold Builtin.«object.__setattr__»
 repeat (first | rw [refuse_eq] | (rw [refuseLoop_ref,hpass]) | (with_reducible refine wpAny_loadPart_at hx ?_;rw [hc]) | with_reducible refine wpAny_mroOf_exc hC ?_ | (with_reducible refine lookup h2 hC hn T SF.mro hB ?_;rw [hna]) | wp_step)
 rw [hdn,if_neg (by simp [typeHasDict])]
 split
 ·rename_i hcd
  cases hcd
 split
 ·rename_i c hcd
  exact absurd hcd (hnc c)
 ·have hx₁:(h.push { cls:=.type "dict",data:=.dict #[] }).get? x=some o:=Heap.get?_push_of_some _ hx
  have hxs:x≠h.objs.size:=Nat.ne_of_lt (Heap.lt_size hx)
  refine wpAny_bind (wpAny_alloc' ?_)
  refine wpAny_bind (wpAny_update' hx₁ ?_)
  refine wpAny_pure ?_
  have hgd:((h.push { cls:=.type "dict",data:=.dict #[] }).update x fun o=>{ cls:=o.cls,dict:=some h.objs.size,data:=o.data,slots:=o.slots }).get? h.objs.size
    = some { cls:=.type "dict",data:=.dict #[] }:=
   (Heap.get?_update_ne _ _ _ _ hxs.symm).trans (Heap.get?_push_at rfl rfl)
  have hnd:((h.push { cls:=.type "dict",data:=.dict #[] }).update x fun o=>{ cls:=o.cls,dict:=some h.objs.size,data:=o.data,slots:=o.slots }).Ns h.objs.size (fun _=>none):=
   ⟨_,#[],_,hgd,rfl,fun e he=>absurd he (by simp),fun _=>rfl⟩
  show wpAny _ _ (storeInDict h.objs.size (.str name _) name v) _ _ _
  unfold storeInDict newKeyGuard
  refine wpAny_bind (wpAny_pure (wpAny_bind (wpAny_nsSet1 (Heap.Ns1.of_empty hnd) fun h' hn' hs=>?_)))
  obtain⟨oD,esD,epD,hoD,hdD,hcD⟩:=hn'.count (Within.cons name v Within.nil)
  refine wpAny_bind (wpAny_lookBehind hoD (by rw [hdD];exact pastItsLine_dict (Nat.le_trans hcD (by rw [List.length_cons,List.length_nil,sizeLine_eq];omega))) ?_)
  wp_walk
  have hx':h'.get? x=some { o with dict:=some h.objs.size }:=?_
  refine hq h' _ hx' hn' (fun b ob hbx hb=>?_) (Heap.lt_size hoD)
  ·exact(hs.2 b (Nat.ne_of_lt (Heap.lt_size hb))).trans ((Heap.get?_update_ne _ _ _ _ hbx).trans (Heap.get?_push_of_some _ hb))
  ·refine(hs.2 x hxs).trans (Heap.get?_update_self _ hx₁ ?_)
   have hfr:=(Heap.get?_some_iff.mp hx).2
   obtain⟨oc,od,odt,osl⟩:=o
   cases odt<;>first | rfl | exact hfr
end
section
open Builtin Builtin.ObjectAttr
variable {prog:Program} {w:World} {A:Around} {E:Value→Shared→Prop} {h:Heap} {g:Array GenState} {d:Drawn} {t:Nat} {os:OsState}
variable {nm q:Str} {C N a dx:Addr} {bs bm bmB:List Value} {sn:List Str} {sub:List Value} {ab:Bool} {col:Option Bool} {dd:Option Addr} {k0 k1 k2 k3 k5:Option Value} {B newId:String}
 {mN mA:Str→Option Value} {name:Str} {v:Value} {no:Str→Prop} {o:Obj} {vs:Array Value}
theorem mE{tk:Tok}{Q:Fin→Shared→Prop}(FB:ExcAttrBase B bmB)(hC:h.get? C=some (excClassObj nm q C N bs bm true sn sub ab col dd k0 k1 k2 k3 k5 newId))(hN:h.Ns N mN)(T:Tail h no bmB bm)(hno:no name)(hna:mN name=none)
  (hB:typeLookup (.type B) name=pure none) (hx:h.get? a=some o) (hc:o.cls=.ref C) (hd:o.data=.fields vs) (hdx:o.dict=some dx) (hns:h.Ns dx mA) (hv:mA name=some v) (hq:Q (.done (.ret v)) ⟨h,g,d,t,os⟩) :
  wpAny (model prog w) A (Builtin.«object.__getattribute__» ⟨[.ref a,.str name tk],[]⟩) Q E ⟨h,g,d,t,os⟩:=by
 unfold Builtin.«object.__getattribute__»
 repeat (first | (with_reducible refine wpAny_loadPart_at hx ?_;rw [hc]) | (with_reducible refine lookup hno hC hN T FB.mro hB ?_;rw [hna]) | wp_step)
 split
 ·rename_i c hcd
  rw [hd]at hcd
  cases hcd
 unfold instanceDict
 repeat (first | (with_reducible refine wpAny_loadPart_at hx ?_;rw [hc]) | with_reducible refine wpAny_loadPart_at hC ?_ | wp_step)
 rw [hdx]
 repeat (first | (with_reducible refine wpAny_nsGet hns ?_;rw [hv]) | wp_step)
 exact hq
theorem mq{M:Model}{nameV:Value}{Q:Unit→Shared→Prop}(FB:ExcAttrBase B bmB)(hC:h.get? C=some (excClassObj nm q C N bs bm true sn sub ab col dd k0 k1 k2 k3 k5 newId))(T:Tail h no bmB bm)
  (hx:h.get? a=some o) (hc:o.cls=.ref C) (hq:Q () ⟨h,g,d,t,os⟩):wpAny M A (checkBuiltinCall "BaseException.__getattribute__" ⟨[.ref a,nameV],[]⟩) Q E ⟨h,g,d,t,os⟩:=by
 have hk:builtinKind "BaseException.__getattribute__"=some .slot:=by decide +kernel
 have hsplit:splitId "BaseException.__getattribute__"=some ("BaseException","__getattribute__"):=by decide +kernel
 have hcB:(Value.ref C::bm).contains (.type "BaseException")=true:=by rw [List.contains_cons,T.hasType FB.hasBase];rfl
 have ha:=F.args_bexc_ga (.ref a) nameV
 simp only [checkBuiltinCall,hk,hsplit]
 refine wpAny_bind ?_
 ·unfold isInstance
  repeat (first | (with_reducible refine wpAny_loadPart_at hx ?_;rw [hc]) | (with_reducible refine wpAny_isSubtype_exc hC ?_;rw [hcB]) | wp_step)
  exact hq
theorem field_attr{expr:Bool}{Q:Value→Shared→Prop}(FB:ExcAttrBase B bmB)(hC:h.get? C=some (excClassObj nm q C N bs bm true sn sub ab col dd k0 k1 k2 k3 k5 newId))(hN:h.Ns N mN)(T:Tail h no bmB bm)
  (n1:no "__getattribute__") (n2:no "__getattr__") (m1:mN "__getattribute__"=none) (m2:mN "__getattr__"=none) (hno:no name) (hna:mN name=none)
  (hB:typeLookup (.type B) name=pure none) (hx:h.get? a=some o) (hc:o.cls=.ref C) (hd:o.data=.fields vs) (hdx:o.dict=some dx) (hns:h.Ns dx mA) (hv:mA name=some v) (hh:handedOut v=pure v) (hq:Q v ⟨h,g,d,t+1,os⟩) :
  wpAny (model prog w) A (getAttr (.ref a) name expr) Q E ⟨h,g,d,t,os⟩:=by
 have f3:=FB.ga.bind (.ref a)
 have hx0:(expr && onTheHeap (Value.builtin "BaseException.__getattribute__"))=false:=by cases expr<;>rfl
 have hx2:(Value.builtin "BaseException.__getattribute__" == Value.builtin "object.__getattribute__")=false:=by decide +kernel
 have hx1:(onTheHeap (Value.ref C) && Value.builtin "BaseException.__getattribute__" == Value.builtin "object.__getattribute__")=false:=by rw [hx2];rfl
 unfold getAttr getAttrBy
 repeat (any_goals (first | assumption | (with_reducible refine wpAny_loadPart_at hx ?_;rw [hc]) | (with_reducible refine lookup n1 hC hN T FB.mro FB.ga.lookup ?_;rw [m1]) | (with_reducible refine lookup n2 hC hN T FB.mro FB.noGetattr ?_;rw [m2]) | wp_step))
 refine codeAny_call_builtin FB.ga.plain F.entry_bexc_ga (mq FB hC T hx hc (mE FB hC hN T hno hna hB hx hc hd hdx hns hv ?_))
 repeat (any_goals (first | assumption | wp_step))
end
end XE
namespace L2
open PySem PySem.Spec PyProof.Rows
def XO(C d a:Addr):HO:=.ext fun h=>∃o vs,h.get? a=some o∧o.cls=.ref C∧o.dict=some d∧o.data=.fields vs
def XN(C a:Addr):HO:=.ext fun h=>∃o vs,h.get? a=some o∧o.cls=.ref C∧o.dict=none∧o.data=.fields vs∧vs[1]?=some .none
section
variable {P:Program} {w:World} {H:Hp} {h:Heap} {a C d:Addr}
theorem XO.ok(x:∃o vs,h.get? a=some o∧o.cls=.ref C∧o.dict=some d∧o.data=.fields vs):bD P w H h a (XO C d a):=
 ⟨x,let ⟨o,_,e,_⟩:=x;⟨o,e⟩,fun _ _ ⟨o,vs,e,r⟩ k=>⟨o,vs,k o e,r⟩⟩
theorem XN.ok(x:∃o vs,h.get? a=some o∧o.cls=.ref C∧o.dict=none∧o.data=.fields vs∧vs[1]?=some .none):bD P w H h a (XN C a):=
 ⟨x,let ⟨o,_,e,_⟩:=x;⟨o,e⟩,fun _ _ ⟨o,vs,e,r⟩ k=>⟨o,vs,k o e,r⟩⟩
theorem XO.of(x:bD P w H h a (XO C d a)):∃o vs,h.get? a=some o∧o.cls=.ref C∧o.dict=some d∧o.data=.fields vs:=x.1
theorem XN.of(x:bD P w H h a (XN C a)):∃o vs,h.get? a=some o∧o.cls=.ref C∧o.dict=none∧o.data=.fields vs∧vs[1]?=some .none:=x.1
end
structure eg(X:Cx)(pins:List (Addr×Obj))(σ:St)(H:Hp)(s:Shared)(a C d:Addr)(fs:List (Str×V))(ts:List Addr):Prop where
 inv:az X pins σ H s
 xo:H a=some (XO C d a)
 xd:H d=some (.xd fs)
 own:∀T∈ts,yk X pins T∧H T=none∧X.s₀.heap.objs.size≤T
 out:XE.Out s.heap a (.ref C) (some d) ts
def zt(X:Cx)(E:XK)(e:Value)(s:Shared):Prop:=∃pins σ H a C d fs ts,e=.ref a∧eg X pins σ H s a C d fs ts∧E e (some d) H
section
variable {X:Cx} {pins:List (Addr×Obj)} {σ:St} {H:Hp} {s:Shared} {a C d T:Addr} {fs:List (Str×V)} {ts:List Addr} {fl:Value} {h':Heap}
abbrev s9(X:Cx)(s:Shared)(a:Addr)(ts:List Addr):Heap:=PySem.W.hideAll s.heap (a::ts++jq X.stack)
theorem eg.on(t:eg X pins σ H s a C d fs ts):XE.On (s9 X s a ts) X.stack a s.heap:=
 ⟨fun b o q=>PySem.W.of_hideAll _ q,PySem.W.hideAll_none _ (by simp),PySem.W.funFrames_hide t.inv.stack fun env he b hb=>by
  refine List.mem_append_right _ ?_
  exact List.mem_filterMap.mpr ⟨env,he,hb⟩⟩
theorem eg.hid(t:eg X pins σ H s a C d fs ts):∀T∈ts,(s9 X s a ts).get? T=none:=fun T hT=>PySem.W.hideAll_none _ (by simp [hT])
theorem eg.pass(t:eg X pins σ H s a C d fs ts)(st:(s9 X s a ts).StaysIn h')(tr:XE.Tr h' a T (.ref C) (some d) fl)(u:s.heap.UpToSlots h'):
  Un (jq X.stack) ts H H s.heap h'∧fR X.prog X.w H h':=by
 have keepB:∀b o,s.heap.get? b=some o→b≠a→b∉ts→b∉jq X.stack→h'.get? b=some o:=fun b o q h1 h2 h3=>
  st b o (PySem.W.hideAll_get _ q (by simp only [List.cons_append,List.mem_cons,List.mem_append];exact fun z=>z.elim h1 fun z=>z.elim h2 h3))
 have fr:∀b o,s.heap.get? b=some o→b∈jq X.stack→∃sl,h'.get? b=some { o with slots:=sl }:=fun b o q hb=>by
  obtain⟨_,o',ho',hd⟩:=t.inv.stack.mem hb
  rw [q]at ho'
  cases ho'
  exact u b o q hd
 have na:∀b,H b=none→b≠a:=fun b n z=>by rw [z,t.xo]at n;cases n
 refine⟨⟨fun b o q n hb hx=>keepB b o q (na b n) hx hb,fun b o q n hb hx=>fr b o q hb,fun b o q n _=>n,fun b o q hx=>?_,fun _ _ q=>q,fun _ _ _ q=>q,fun b ps q=>⟨#[],by rw [q];simp⟩⟩,fun b o' q=>?_⟩
 ·by_cases h1:b=a
  ·subst h1
   obtain⟨o1,_,e1,_⟩:=tr.there
   exact⟨o1,e1⟩
  ·by_cases h2:b∈jq X.stack
   ·obtain⟨sl,e⟩:=fr b o q h2
    exact⟨_,e⟩
   ·exact⟨o,keepB b o q h1 hx h2⟩
 ·by_cases h1:b=a
  ·subst h1
   rw [t.xo]at q
   cases q
   exact XO.ok tr.there
  ·refine(t.inv.hok b o' q).stay (fun c v hc r=>keepB c v r ?_ ?_ ?_) (fun _ z=>z) fun _ _ z=>z
   ·rcases hc with rfl | hc
    ·exact h1
    ·intro z
     rw [z,t.xo]at hc
     cases hc
   ·intro z
    have n:=(t.own c z).2.1
    rcases hc with rfl | hc
    ·rw [n]at q;cases q
    ·rw [n]at hc;cases hc
   ·intro z
    have n:=t.inv.stkFree c z
    rcases hc with rfl | hc
    ·rw [n]at q;cases q
    ·rw [n]at hc;cases hc
theorem eg.go(t:eg X pins σ H s a C d fs ts)(st:(s9 X s a ts).StaysIn h')(tr:XE.Tr h' a T (.ref C) (some d) fl)(u:s.heap.UpToSlots h'):az X pins σ H { s with heap:=h' }:=
 t.inv.call' (s':={ s with heap:=h' }) rfl (t.pass st tr u).1 (t.pass st tr u).2 t.inv.bare fun b hb=>⟨(t.own b hb).1.old,(t.own b hb).1.ne,(t.own b hb).1.cells,(t.own b hb).1.pin⟩
theorem az.ownN(I:az X pins σ H s)(hT:s.heap.objs.size≤T):yk X pins T where
 ne:=Nat.ne_of_gt (Nat.lt_of_lt_of_le I.lt hT)
 old:=.inr (Nat.le_trans I.sz hT)
 cells:=fun x c e=>by
  obtain⟨v,o,ho,_⟩:=I.cell x c e
  exact Nat.ne_of_lt (Nat.lt_of_lt_of_le (Heap.lt_size ho) hT)
 pin:=fun p hp=>Nat.ne_of_lt (Nat.lt_of_lt_of_le (Heap.lt_size (I.pin p hp).1) hT)
end
def kx(P:Program)(w:World):mi:=fun outer H s E e s'=>∃a C d fs T H',e=.ref a∧s'.os=s.os∧AllBare s'.gens∧Un (jq outer) [] H H' s.heap s'.heap∧fR P w H' s'.heap∧
 H' a=some (XO C d a)∧H' d=some (.xd fs)∧H' T=none∧s.heap.objs.size≤T∧XE.Tr s'.heap a T (.ref C) (some d) .none∧E e (some d) H'
theorem kx.thr{X:Cx}{pins:List (Addr×Obj)}{σ:St}{H:Hp}{s s':Shared}{E:XK}{e:Value}(I:az X pins σ H s)(x:kx X.prog X.w X.stack H s E e s'):zt X E e s':=by
 obtain⟨a,C,d,fs,T,H',rfl,os,bare,un,hok,ha,hd,hT,sz,tr,q⟩:=x
 refine⟨pins,σ,H',a,C,d,fs,[T],rfl,⟨I.call' os un hok bare (fun b z=>nomatch z),ha,hd,fun T' hT'=>?_,(.inr ⟨T,_,rfl,tr⟩)⟩,q⟩
 obtain rfl:T'=T:=by simpa using hT'
 exact⟨I.ownN sz,hT,Nat.le_trans I.sz sz⟩
section
variable {P:Program} {w:World} {K:PySem.W.Frag} {mg:Str→Option Value} {base:Heap} {N:List Str} {qual:Str} {scope:Scope} {f:Addr} {cd:Value} {A:Around} {outer:List Env} {s₀:Shared} {H₀:Hp} {E:XK}
theorem mR{e:Value}{s:Shared}(t:zt (gH (kx P w) P w K mg base N qual scope f cd A outer s₀ H₀ E) E e s):(gH (kx P w) P w K mg base N qual scope f cd A outer s₀ H₀ E).xe e s:=by
 obtain⟨pins,σ,H,a,C,d,fs,ts,rfl,t,q⟩:=t
 show wpAny (model P w) (A.deeper (envOfC qual scope s₀.heap.objs.size f cd)) (leaving (envOfC qual scope s₀.heap.objs.size f cd) (.ref a)) _ _ s
 refine XE.leave_out (base:=s9 (gH (kx P w) P w K mg base N qual scope f cd A outer s₀ H₀ E) s a ts) t.inv.ok.frames rfl t.on t.hid t.out fun h' T hT o tr u=>?_
 have I':=t.go o.1 tr u
 have hok:=(t.pass o.1 tr u).2
 have sz:s₀.heap.objs.size≤T∧H T=none:=by
  rcases hT with hT | hT
  ·exact⟨(t.own T hT).2.2,(t.own T hT).2.1⟩
  ·exact⟨Nat.le_trans t.inv.sz hT,t.inv.hok.fresh hT⟩
 exact⟨a,C,d,fs,T,H,rfl,I'.os,I'.bare,I'.base,hok,t.xo,t.xd,sz.2,sz.1,tr,q⟩
theorem yV:fA (kx P w) (gH (kx P w) P w K mg base N qual scope f cd A outer s₀ H₀ E) E:=fun _ _ _ _ _ _ I c=>mR (kx.thr I c)
theorem cR.okX{x qual:Str}{st:Stmt}{f:Addr}{fd:FuncData}{N ps:List Str}{k:Nat}{sp:Sp}(F:cR K x qual st f fd)(S:av N ps (ak st))(len:∀vs H Q E,sp vs H Q E→vs.length=ps.length)
  (hbody:∀(cdv:Value) (A:Around) (outer:List Env) (s:Shared) (H:Hp) (vs:List V) (Q:VK) (E:XK),bO k (A.deeper (envOfC qual (ak st) s.heap.objs.size f cdv))→sp vs H Q E→
   ∃t,nL (gH (kx P w) P w K mg base N qual (ak st) f cdv A outer s H E) (bq st) t∧t { nx:=fun _ H'=>Q .non H',rt:=Q } (start N vs) H):aE P w K mg base (kx P w) (k+1) f fd ps sp:=by
 obtain⟨oc,od,kV,doc,pm,an,cdv,ct,osl,rfl,lk,hcd⟩:=F.ex
 exact sW lk hcd S len fun A outer s H vs Q E hr hsp=>hbody cdv A outer s H vs Q E hr hsp
end
theorem vB{K:PySem.W.Frag}{h:Heap}{N:Addr}{mg:Str→Option Value}{n:Str}{v:Value}(X:K.In h)(G:h.Ns N mg)(e:PySem.W.nsIn K N n=some (some v)):mg n=some v:=by
 obtain⟨o,es,ep,ho,hd,_,hf⟩:=G
 unfold PySem.W.nsIn at e
 split at e
 ·rename_i c d es' n' sl q
  have:=X _ _ q
  rw [ho]at this
  cases this
  cases hd
  split at e
  ·rename_i en he
   cases e
   rw [←hf]
   unfold nsFind findBy
   rw [←Array.find?_toList,he]
   rfl
  ·split at e<;>cases e
 ·cases e
abbrev u9:List Value:=[.type "ValueError",.type "Exception",.type "BaseException",.type "object"]
structure nJ(K:PySem.W.Frag)(C fI:Addr)(no:List Str):Prop where
 cls:∃nm q N bs S sn sub ab col dd k0 k1 k2 k3 k5,K.lookup C=some (excClassObj nm q C N bs (.ref S::u9) true sn sub ab col dd k0 k1 k2 k3 k5 "ValueError.__new__")∧PySem.W.nsOkIn K N=true∧
  PySem.W.nsIn K N "__init__"=some (some (.ref fI))∧(∀n∈no,PySem.W.nsIn K N n=some none)∧
  ∃c0 ds cd sl,K.lookup S=some ⟨c0,ds,.cls cd,sl⟩∧PySem.W.nsOkIn K cd.ns=true∧PySem.W.nsIn K cd.ns "__init__"=some none∧∀n∈no,PySem.W.nsIn K cd.ns n=some none
 kp:PySem.W.keepIn K (.ref C)=true
 fn:PySem.W.isFn K (.ref fI)=true
structure ExH(h:Heap)(C fI:Addr)(no:List Str)(nm q:Str)(N:Addr)(bs:List Value)(S:Addr)(sn:List Str)(sub:List Value)(ab:Bool)(col:Option Bool)(dd:Option Addr)(k0 k1 k2 k3 k5:Option Value)(mN:Str→Option Value):Prop where
 c:h.get? C=some (excClassObj nm q C N bs (.ref S::u9) true sn sub ab col dd k0 k1 k2 k3 k5 "ValueError.__new__")
 n:h.Ns N mN
 i:mN "__init__"=some (.ref fI)
 o:∀n∈no,mN n=none
 t:XE.Tail h (fun n=>n="__init__"∨n∈no) u9 (.ref S::u9)
theorem nJ.at{K:PySem.W.Frag}{C fI:Addr}{no:List Str}(x:nJ K C fI no){h:Heap}(X:K.In h):∃nm q N bs S sn sub ab col dd k0 k1 k2 k3 k5 mN,ExH h C fI no nm q N bs S sn sub ab col dd k0 k1 k2 k3 k5 mN:=by
 obtain⟨nm,q,N,bs,S,sn,sub,ab,col,dd,k0,k1,k2,k3,k5,lk,ok,ii,nn,c0,ds,cd,sl,lS,okS,iS,nS⟩:=x.cls
 have hN:h.Ns N (h.nsMap N):=.of_isNs (PySem.W.isNs_of_in X ok)
 have hS:h.Ns cd.ns (h.nsMap cd.ns):=.of_isNs (PySem.W.isNs_of_in X okS)
 exact⟨nm,q,N,bs,S,sn,sub,ab,col,dd,k0,k1,k2,k3,k5,_,X _ _ lk,hN,vB X hN ii,fun n hn=>PySem.W.ns_none_of X hN (nn n hn),.own (X _ _ lS) hS (fun n hn=>by
  rcases hn with rfl | hn
  ·exact PySem.W.ns_none_of X hS iS
  ·exact PySem.W.ns_none_of X hS (nS n hn)) .base⟩
def XF(C d a:Addr):HO:=.ext fun h=>∃o vs,h.get? a=some o∧o.cls=.ref C∧o.dict=some d∧o.data=.fields vs∧vs[1]?=some .none
section
variable {P:Program} {w:World} {H:Hp} {h:Heap} {a C d:Addr}
theorem XF.ok(x:∃o vs,h.get? a=some o∧o.cls=.ref C∧o.dict=some d∧o.data=.fields vs∧vs[1]?=some .none):bD P w H h a (XF C d a):=
 ⟨x,let ⟨o,_,e,_⟩:=x;⟨o,e⟩,fun _ _ ⟨o,vs,e,r⟩ k=>⟨o,vs,k o e,r⟩⟩
theorem XF.of(x:bD P w H h a (XF C d a)):∃o vs,h.get? a=some o∧o.cls=.ref C∧o.dict=some d∧o.data=.fields vs∧vs[1]?=some .none:=x.1
end
section
variable {X:Cx} {pins:List (Addr×Obj)} {σ:St} {H:Hp} {s:Shared}
theorem az.trackO{D:Addr}{o:HO}(I:az X pins σ H s)(hn:H D=none)(new:bD X.prog X.w (upd H D o) s.heap D o)(w:yk X pins D):az X pins σ (upd H D o) s:=by
 have ne:∀b o,H b=some o→b≠D:=fun b o e=>aq e hn
 refine I.step (h':=s.heap) (g':=s.gens) (d':=s.drawn) (t':=s.toks) (ch:=[D]) (fun b hb=>?_) (fun b o _ _ _ e _=>e) (fun b o _ _ _ e _=>⟨o.slots,e⟩) (fun b o hc _ n=>?_)
  (fun b o _ e=>⟨o,e⟩) (fun b xs e=>?_) (fun b o u e=>?_) (fun b ps e=>⟨#[],?_⟩) (fun _ z=>z) (fun b u e=>?_) I.bare
 ·have e:b=D:=by simpa using hb
  subst e
  exact⟨w.old,w.ne,w.cells,w.pin⟩
 ·rw [ai (fun z=>hc (by simp [z]))];exact n
 ·rw [ai (ne _ _ e)];exact e
 ·rw [ai (ne _ _ e)];exact e
 ·rw [ai (ne _ _ e),e];simp
 ·by_cases hb:b=D
  ·subst hb
   rw [ae]at e
   cases e
   exact new
  ·rw [ai hb]at e
   exact(I.hok b u e).stay (fun c v _ q=>q) (fun c q=>by rw [ai (ne _ _ q)];exact q) fun c xs q=>by rw [ai (ne _ _ q)];exact q
variable {a C d fI:Addr} {no:List Str} {f:Str} {A:Around} {E:Value→Shared→Prop}
theorem wc{y:V}{u:Value}{Q:Unit→Shared→Prop}(I:az X pins σ H s)(e:H a=some (XN C a))(c:nJ X.K C fI no)(h1:("__setattr__":Str)∈no)(h2:f∈no)(hB:typeLookup (.type "ValueError") f=pure none)(ry:aG y u)
  (h:∀s' d,H d=none→d≠a→az X pins σ (upd (upd H a (XF C d a)) d (.xd [(f,y)])) s'→Q () s'):wpAny (model X.prog X.w) A (setAttr (.ref a) f u) Q E s:=by
 obtain⟨o,vs,ea,ec,ed,ef,e1⟩:=XN.of (I.hok a _ e)
 obtain⟨nm,q,N,bs,S,sn,sub,ab,col,dd,k0,k1,k2,k3,k5,mN,x⟩:=c.at I.kIn
 obtain⟨hp,g,dr,tk,os⟩:=s
 refine XE.store_first PySem.F.store_ValueError x.t (.inr h1) (.inr h2) x.c x.n (x.o _ h1) (x.o _ h2) hB ea ec (fun c z=>by rw [ef]at z;cases z) ed fun h' tk' ha hn hk hz=>?_
 have fr:hp.objs.size≤hp.objs.size:=Nat.le_refl _
 have hdn:H hp.objs.size=none:=I.hok.fresh fr
 have hda:hp.objs.size≠a:=Nat.ne_of_gt (Heap.lt_size ea)
 have I2:az X pins σ (upd H a (XF C hp.objs.size a)) ⟨h',g,dr,tk',os⟩:=
  I.write (t':=tk') (x:=a) (e:=a) (by rw [e];trivial) (.inl rfl) (fun b ob hb q=>hk b ob hb q) ⟨_,ha⟩ (XF.ok ⟨_,vs,ha,ec,rfl,ef,e1⟩)
 refine h _ hp.objs.size hdn hda (I2.trackO (by rw [ai hda];exact hdn) ⟨_,hn,fun z=>?_⟩ ?_)
 ·by_cases hz:z=f
  ·subst hz
   simpa [List.lookup,gz]using ry
  ·have:(z == f)=false:=by simpa using hz
   simp [List.lookup,this,hz,gz]
 ·have w:=I.ownN (T:=hp.objs.size) fr
  exact⟨w.ne,w.old,w.cells,w.pin⟩
theorem vk{b:Bool}{fs:List (Str×V)}{v:V}{Q:Value→Shared→Prop}(I:az X pins σ H s)(e:H a=some (XO C d a))(ed:H d=some (.xd fs))(c:nJ X.K C fI no)(h1:("__getattribute__":Str)∈no)(h2:("__getattr__":Str)∈no)(h3:f∈no)
  (hB:typeLookup (.type "ValueError") f=pure none) (l:fs.lookup f=some v) (h:∀u s',az X pins σ H s'→aG v u→Q u s'):wpAny (model X.prog X.w) A (getAttr (.ref a) f b) Q E s:=by
 obtain⟨o,vs,ea,ec,edi,ef⟩:=XO.of (I.hok a _ e)
 obtain⟨mA,hm,r⟩:=I.hok d _ ed
 obtain⟨u,hu,ru⟩:=gz.some_of (v:=v) (o:=mA f) (by rw [←l];exact r f)
 obtain⟨nm,q,N,bs,S,sn,sub,ab,col,dd,k0,k1,k2,k3,k5,mN,x⟩:=c.at I.kIn
 have I':=I.tok (s.toks+1)
 obtain⟨hp,g,dr,tk,os⟩:=s
 exact XE.field_attr PySem.F.attrBase_ValueError x.c x.n x.t (.inr h1) (.inr h2) (x.o _ h1) (x.o _ h2) (.inr h3) (x.o _ h3) hB ea ec ef edi hm.ns hu (PySem.W.handedOut_of (j7 ru)) (h u _ I' ru)
end
theorem yB{K:PySem.W.Frag}{f:Addr}{h:Heap}(e:PySem.W.isFn K (.ref f)=true)(X:K.In h):∃o,h.get? f=some o∧o.cls=.type "function":=by
 have e:(K.lookup f).map (·.cls)=some (.type "function"):=beq_iff_eq.mp e
 cases q:K.lookup f with
 | none=>rw [q]at e;cases e
 | some o=>rw [q]at e;exact⟨o,X _ _ q,Option.some.inj e⟩
def wX(C:Addr)(ta tv:TE)(f:Str):TS:=fun D σ H=>tv σ H fun y H1=>ta σ H1 fun x H2=>∃a,x=.ref a∧H2 a=some (XN C a)∧∀d,H2 d=none→d≠a→D.nx σ (upd (upd H2 a (XF C d a)) d (.xd [(f,y)]))
def uM(C:Addr)(ta:TE)(f:Str):TE:=fun σ H Q=>ta σ H fun x H1=>∃a d fs v,x=.ref a∧H1 a=some (XO C d a)∧H1 d=some (.xd fs)∧fs.lookup f=some v∧Q v H1
def pG(C:Addr)(sp:Sp)(E:XK)(t:TA):TS:=fun _ σ H=>t σ H fun vs H1=>vs.length≤sizeLine∧∀a,H1 a=none→sp (.ref a::vs) (upd H1 a (XN C a)) (fun v H2=>v=.non∧∃d fs,H2 a=some (XF C d a)∧H2 d=some (.xd fs)∧E (.ref a) (some d) (upd H2 a (XO C d a))) E0
section
variable {X:Cx} {C fI:Addr} {no:List Str} {f x:Str} {o e value:Expr} {es:List Expr} {ta tv:TE} {t:TA} {pos pos' np cpos:Pos} {k:Nat} {fd:FuncData} {ps:List Str} {sp:Sp} {E:XK}
theorem vS(c:nJ X.K C fI no)(h1:("__setattr__":Str)∈no)(h2:f∈no)(hB:typeLookup (.type "ValueError") f=pure none)(ha:PE X o ta)(hv:PE X value tv)(hs:swapsWith value (some (.Attribute o f pos')) pos.line X.env=pure false):
  PS X (.Assign [.Attribute o f pos'] value pos) (wX C ta tv f):=by
 intro pins s σ H D I h
 refine plainObj_wpAny_Assign_Attribute (bz (hv pins s σ H _ I h) fun u s1 ⟨y,H1,I1,ry,q⟩=>bz (ha pins s1 σ H1 _ I1 q) fun ov s2 ⟨x,H2,I2,rx,a,ex,ea,q2⟩=>?_) hs
 subst ex
 obtain rfl:ov=Value.ref a:=rx
 exact wc I2 ea c h1 h2 hB ry fun s3 d hd hda I3=>⟨σ,_,I3,q2 d hd hda⟩
theorem vN(c:nJ X.K C fI no)(h1:("__getattribute__":Str)∈no)(h2:("__getattr__":Str)∈no)(h3:f∈no)(hB:typeLookup (.type "ValueError") f=pure none)(he:PE X e ta)(hb:attributeBase e f X.env (eval e X.env)=eval e X.env):PE X (.Attribute e f pos) (uM C ta f):=by
 intro pins s σ H Q I h
 refine pR hb (bz (he pins s σ H _ I h) fun u s1 ⟨x,H1,I1,rx,a,d,fs,v,ex,ea,ed,l,q⟩=>?_)
 subst ex
 obtain rfl:u=Value.ref a:=rx
 exact vk I1 ea ed c h1 h2 h3 hB l fun u' s2 I2 ru=>⟨v,H1,I2,ru,q⟩
theorem ug(hc:X.calm=true)(c:nJ X.K C fI no)(F:aE X.prog X.w X.K X.mg X.base b8 k fI fd ps sp)(hr:bO (k+1) X.A)(hg:Gl X x)(hm:X.mg x=some (.ref C))(hb:bT X.K fd ps [])(hx:∀e s',zt X E e s'→X.xe e s')
  (ha:PA X (e::es) t) (hdb:(x == ("__debug__":Str))=false:=by decide) (he:starEach (e::es) X.env=(false,eval e X.env)::starEach es X.env:=by rfl) (hpl:(backTo cpos (starEach es X.env)).any (·.1)=false:=by rfl) :
  PS X (.Raise (some (.Call (.Name x np) (e::es) [] cpos)) none pos) (pG C sp E t):=by
 intro pins s σ H D I h
 obtain⟨nm,q,N,bs,S,sn,sub,ab,col,dd,k0,k1,k2,k3,k5,lk,_⟩:=c.cls
 refine XE.raise_of (C:=C) (nm:=nm) (q:=q) (N:=N) (bs:=bs) (bm:=.ref S::u9) (hdct:=true) (sn:=sn) (sub:=sub) (ab:=ab) (col:=col) (dd:=dd) (k0:=k0) (k1:=k1) (k2:=k2) (k3:=k3) (k5:=k5) (newId:="ValueError.__new__") (by rfl) (I.ok.hd hc) ?_
 refine wpAny_Call_Name_kw (fb I hg hm ?_ hdb)
 refine PySem.W.callWith_K (h₀:=X.base) I.ok.mod.kin c.kp (bz (ha cpos pins s σ H _ I h) fun us s1 ⟨vs,H1,I1,r,hz,q⟩=>⟨I1.kIn,?_⟩) he hpl
 obtain⟨nm',q',N',bs',S',sn',sub',ab',col',dd',k0',k1',k2',k3',k5',mN,x1⟩:=c.at I1.kIn
 have T1:OwnTail s1.heap u9 (.ref S'::u9):=x1.t.ot (.inl rfl)
 have fnI:∃oI,s1.heap.get? fI=some oI∧oI.cls=.type "function":=by
  exact yB c.fn I1.kIn
 obtain⟨oI,hfI,hfc⟩:=fnI
 obtain⟨hp,g,dr,tk,os⟩:=s1
 show wpAny _ _ (call (.ref C) us) _ _ _
 refine XE.call_own PySem.F.excBase_ValueError T1 x1.c x1.n x1.i hfI hfc (fun h' hm=>?_) (by rw [←r.length];exact hz)
 have hsz:hp.objs.size≤hp.objs.size+1:=Nat.le_succ _
 have hq:=q (hp.objs.size+1) (I1.hok.fresh hsz)
 have I2:az X pins σ (upd H1 (hp.objs.size+1) (XN C (hp.objs.size+1))) ⟨h',g,dr,tk,os⟩:=by
  refine I1.laid (t':=tk) (fun b o q=>hm.keeps b o q) hsz (XN.ok ?_)
  obtain⟨t,ht,_⟩:=hm.there
  exact⟨_,_,ht,rfl,rfl,rfl,rfl⟩
 have r2:aC (V.ref (hp.objs.size+1)::vs) (Value.ref (hp.objs.size+1)::us):=.cons rfl r
 have hl:(Value.ref (hp.objs.size+1)::us++[]).length=ps.length:=by
  rw [List.append_nil,←r2.length];exact F.len _ _ _ _ hq
 refine wpAny_call (codeAny_mono (F.run _ X.stack _ _ ⟨Value.ref (hp.objs.size+1)::us,[]⟩ (Value.ref (hp.objs.size+1)::us) _ _ E0 (hr.make C us []) (I2.env0.make C us []) (by
  have:=hb _ (Value.ref (hp.objs.size+1)::us) I2.kIn hl
  simpa using this) r2 hq) fun r' s' hq'=>?_)
 cases r' with
 | error e=>exact hq'.elim
 | ok fl=>
  cases fl with
  | ret u=>
   obtain⟨v,H',I3,rv,ev,d,fs,ha',hd',hE⟩:=I2.after hq'
   subst ev
   obtain⟨oe,vs',he1,he2,he3,he4,he5⟩:=XF.of (I3.hok _ _ ha')
   refine⟨rv,_,oe,rfl,I3.kIn _ _ lk,he1,he2,⟨vs',he4,he5⟩,hx _ _ ?_⟩
   have hda:d≠hp.objs.size+1:=fun z=>by rw [z,ha']at hd';cases hd'
   refine⟨pins,σ,upd H' (hp.objs.size+1) (XO C d (hp.objs.size+1)),_,C,d,fs,[],rfl,⟨?_,ae,by rw [ai hda];exact hd',fun _ z=>(nomatch z),(.inl ⟨rfl,oe,vs',he1,⟨he2,he3⟩,he4,he5⟩)⟩,hE⟩
   exact I3.write (t':=s'.toks) (h':=s'.heap) (x:=hp.objs.size+1) (e:=hp.objs.size+1) (by rw [ha'];trivial) (.inl rfl) (fun b u _ q=>q) ⟨_,he1⟩ (XO.ok ⟨oe,vs',he1,he2,he3,he4⟩)
  | next=>exact False.elim hq'
  | brk=>exact False.elim hq'
  | cont=>exact False.elim hq'
end
end L2
namespace L2
open PySem PySem.Spec PyProof.Rows
section
variable {X:Cx} {scope:Scope} {own:List Str} {js:List Nat} {tg iter elt:Expr} {ifs:List Expr} {wi:TI} {g:TG} {tt:TT} {te:TE} {pos:Pos}
end
end L2
namespace L2
open PySem PySem.Spec PyProof.Rows
abbrev Cx.held(X:Cx)(e:Value)(E:Value→Shared→Prop):Cx:={ X with A:=X.A.mark (some e),calm:=false,xe:=E }
section
variable {X:Cx} {pins:List (Addr×Obj)} {σ:St} {H:Hp} {s:Shared} {e:Value} {E:Value→Shared→Prop}
theorem Cx.Ok.held(ok:X.Ok)(e:Value)(E:Value→Shared→Prop):(X.held e E).Ok:=
 ⟨ok.mod,ok.kind,ok.glob,ok.blt,ok.above,ok.inj,ok.has,ok.cab,fun z=>(nomatch z),ok.frames,ok.stk,ok.exf,ok.bs,ok.bsz,ok.noex,ok.exfs,ok.funs,ok.frf⟩
theorem az.held(I:az X pins σ H s)(e:Value)(E:Value→Shared→Prop):az (X.held e E) pins σ H s:=⟨I.ok.held e E,I.os,I.bare,I.base,I.loc,I.cell,I.free,I.freeC,I.pin,I.hok,I.len⟩
theorem az.unheld(ok:X.Ok)(I:az (X.held e E) pins σ H s):az X pins σ H s:=⟨ok,I.os,I.bare,I.base,I.loc,I.cell,I.free,I.freeC,I.pin,I.hok,I.len⟩
theorem q9{M:Model}{A:Around}{i:Nat}{x:Str}{pos:Pos}{Q:Unit→Shared→Prop}(I:az X pins σ H s)(hN:X.N.Nodup)(hi:X.N[i]?=some x)(hk:X.env.scope.names.lookup x=some .local)
  (h:∀s',az X pins (σ.set i none) H s'→Q () s'):wpAny M A (do bindName X.env x .none;unbindBehindTheSuite X.env x pos) Q E s:=by
 obtain⟨m,hn,hl⟩:=id I.loc
 have hcls:(X.env.scope.kind == .class || (X.env.scope.kind == .module && X.env.locals != X.env.globals))=false:=by rw [I.ok.kind];rfl
 have hiσ:i < σ.length:=by rw [I.len];exact(List.getElem?_eq_some_iff.mp hi).1
 obtain⟨oL,_,_,hoL,_⟩:=id hn
 refine wpAny_nameGoes_keeps hk hn hcls fun h' v hn' hs=>?_
 have tracked:fR X.prog X.w H h':=fun b ob e=>by
  refine(I.hok b ob e).stay (fun c w' hc q=>(hs.2 c ?_).trans q) (fun _ q=>q) fun _ _ q=>q
  rintro rfl
  rcases hc with rfl | hc
  ·rw [I.free]at e;cases e
  ·rw [I.free]at hc;cases hc
 have low:∀b o,X.s₀.heap.get? b=some o→h'.get? b=s.heap.get? b:=fun b o e=>hs.2 b (Nat.ne_of_lt (Nat.lt_of_lt_of_le (Heap.lt_size e) I.ok.above))
 refine h _ ⟨I.ok,I.os,I.bare,⟨fun b o e n hb hx=>(low b o e).trans (I.base.keep b o e n hb hx),fun b o e n hb hx=>?_,I.base.free,fun b o e hx=>?_,I.base.tups,I.base.frzs,I.base.tbls⟩,⟨_,hn',fun j y v' e1 e2 e3=>?_⟩,fun y c e=>?_,I.free,I.freeC,fun p hp=>?_,tracked,by simpa using I.len⟩
 ·obtain⟨sl,e1⟩:=I.base.slot b o e n hb hx
  exact⟨sl,(low b o e).trans e1⟩
 ·obtain⟨o',e1⟩:=I.base.there b o e hx
  exact⟨o',(low b o e).trans e1⟩
 ·by_cases hj:j=i
  ·subst hj
   rw [List.getElem?_set_self hiσ]at e2
   cases e2
  ·rw [List.getElem?_set_ne (Ne.symm hj)]at e2
   obtain⟨u',r',q⟩:=hl j y v' e1 e2 e3
   refine⟨u',r',?_⟩
   rcases q with⟨k,e⟩ | ⟨k,c,e,z⟩
   ·refine .inl ⟨k,?_⟩
    have:y≠x:=fun e=>hj (i5 hN e1 (e▸hi))
    simp [this,e]
   ·exact .inr ⟨k,c,e,z.sameBut hs (I.cne y c e)⟩
 ·obtain⟨w',z⟩:=I.cell y c e
  exact⟨w',z.sameBut hs (I.cne y c e)⟩
 ·obtain⟨e,n,ne,nf,d⟩:=I.pin p hp
  exact⟨(hs.2 p.1 ne).trans e,n,ne,nf,d⟩
end
def wy(X:Cx)(pins:List (Addr×Obj))(σ:St)(E:XK)(e:Value)(s:Shared):Prop:=∃H a C d fs ts,e=.ref a∧eg X pins σ H s a C d fs ts∧E e (some d) H
theorem kx.at_{X:Cx}{pins:List (Addr×Obj)}{σ:St}{H:Hp}{s s':Shared}{E:XK}{e:Value}(I:az X pins σ H s)(x:kx X.prog X.w X.stack H s E e s'):wy X pins σ E e s':=by
 obtain⟨a,C,d,fs,T,H',rfl,os,bare,un,hok,ha,hd,hT,sz,tr,q⟩:=x
 refine⟨H',a,C,d,fs,[T],rfl,⟨I.call' os un hok bare (fun b z=>nomatch z),ha,hd,fun T' hT'=>?_,.inr ⟨T,_,rfl,tr⟩⟩,q⟩
 obtain rfl:T'=T:=by simpa using hT'
 exact⟨I.ownN sz,hT,Nat.le_trans I.sz sz⟩
section
variable {X:Cx} {pins:List (Addr×Obj)} {σ:St} {H:Hp} {s:Shared} {a C d T L:Addr} {fs:List (Str×V)} {ts:List Addr} {M:Model} {A:Around} {E:Value→Shared→Prop} {Q:Unit→Shared→Prop}
theorem eg.note(t:eg X pins σ H s a C d fs ts)(hst:X.stack=X.env::X.outer)(hfr:X.env.frame=some L)(hA:A.frames=some X.stack)
  (h:∀h' T,eg X pins σ H { s with heap:=h' } a C d fs [T]→Q () { s with heap:=h' }):wpAny M A (noteFrame (.ref a) X.env) Q E s:=by
 have hon:=t.on
 rw [hst]at hon hA
 refine XE.note_out hA hfr hon t.hid t.out fun h' T hT o tr u=>h h' T ⟨t.go o.1 tr u,t.xo,t.xd,fun T' hT'=>?_,.inr ⟨T,_,rfl,tr⟩⟩
 obtain rfl:T'=T:=by simpa using hT'
 rcases hT with hT | hT
 ·exact t.own _ hT
 ·exact⟨t.inv.ownN hT,t.inv.hok.fresh hT,Nat.le_trans t.inv.sz hT⟩
theorem eg.tr(t:eg X pins σ H s a C d fs [T]):∃fl,XE.Tr s.heap a T (.ref C) (some d) fl:=by
 rcases t.out with⟨z,_⟩ | ⟨T',fl',z,tr⟩
 ·cases z
 ·cases z;exact⟨fl',tr⟩
theorem eg.land(t:eg X pins σ H s a C d fs [T])(h:∀h',eg X pins σ H { s with heap:=h' } a C d fs [T]→Q () { s with heap:=h' }):wpAny M A (setFlight (.ref a) none) Q E s:=by
 obtain⟨fl,tr⟩:=t.tr
 exact XE.land t.on (t.hid T (.head _)) tr fun h' o tr' u=>h h' ⟨t.go o.1 tr' u,t.xo,t.xd,t.own,.inr ⟨T,_,rfl,tr'⟩⟩
end
section
variable {X:Cx} {k:Nat} {f C fI L:Addr} {fd:FuncData} {ps:List Str} {sp:Sp} {no:List Str} {x y v n r:Str} {p pos cpos np vp hpos rp rn apos spos:Pos} {e:Expr} {es:List Expr} {t:TA} {iv ie ir:Nat}
theorem va{pins:List (Addr×Obj)}{σ:St}{H:Hp}{s:Shared}{Q:VK}{E:XK}(F:aE X.prog X.w X.K X.mg X.base (kx X.prog X.w) k f fd ps sp)(hr:bO k X.A)(hg:Gl X x)(hm:X.mg x=some (.ref f))(hk:PySem.W.keepIn X.K (.ref f)=true)(hb:bT X.K fd ps [])
  (ha:PA X.nox (e::es) t) (I:az X pins σ H s) (h:t σ H fun vs H1=>sp vs H1 Q E) (hdb:(x == ("__debug__":Str))=false) (he:starEach (e::es) X.env=(false,eval e X.env)::starEach es X.env) (hpl:(backTo pos (starEach es X.env)).any (·.1)=false) :
  wpAny (model X.prog X.w) X.A (eval (.Call (.Name x p) (e::es) [] pos) X.env) (EP X pins σ Q) (wy X pins σ E) s:=by
 refine wpAny_Call_Name_kw (fb I hg hm ?_ hdb)
 refine PySem.W.callWith_K (h₀:=X.base) I.ok.mod.kin hk (wpAny_mono (ha pos pins s σ H _ (I.wish _) h) (fun us s1 ⟨vs,H1,I1,r,q⟩=>⟨I1.kIn,?_⟩) fun _ _ z=>z.elim) he hpl
 have I1:az X pins σ H1 s1:=I1.unwish
 have hl:(us++[]).length=ps.length:=by rw [List.append_nil,←r.length];exact F.len _ _ _ _ q
 refine wpAny_call (codeAny_mono (F.run X.A X.stack s1 H1 ⟨us,[]⟩ us vs Q E hr I1.env0 (by have:=hb s1 us I1.kIn hl;simpa using this) r q) fun r s' hq=>?_)
 cases r with
 | error e=>exact kx.at_ I1 hq
 | ok fl=>
  cases fl with
  | ret u=>exact I1.after hq
  | next=>exact False.elim hq
  | brk=>exact False.elim hq
  | cont=>exact False.elim hq
def yf(iv ie ir:Nat)(C:Addr)(sp:Sp)(t:TA):TS:=fun D σ H=>t σ H fun vs H1=>sp vs H1 (fun u H2=>D.nx (σ.set iv (some u)) H2)
 (fun x _ H2=>∃a d,x=.ref a∧H2 a=some (XO C d a)∧D.nx (((σ.set ie (some (.ref a))).set ir (some (.ref a))).set ie none) H2)
theorem xM(hc:X.calm=true)(hst:X.stack=X.env::X.outer)(hfr:X.env.frame=some L)(c:nJ X.K C fI no)(hgC:Gl X y)(hmC:X.mg y=some (.ref C))
  (hN:X.N.Nodup) (hv:X.N[iv]?=some v) (hvl:uT X.env.scope v) (hn:X.N[ie]?=some n) (hnl:X.env.scope.names.lookup n=some .local) (hrr:X.N[ir]?=some r) (hrl:uT X.env.scope r) (hfnv:X.fn v=true∨X.env.scope.names.lookup v=some .local) (hfnr:X.fn r=true∨X.env.scope.names.lookup r=some .local)
  (F:aE X.prog X.w X.K X.mg X.base (kx X.prog X.w) k f fd ps sp) (hr:bO k X.A) (hg:Gl X x) (hm:X.mg x=some (.ref f)) (hk:PySem.W.keepIn X.K (.ref f)=true) (hb:bT X.K fd ps [])
  (ha:PA X.nox (e::es) t) (hdb:(x == ("__debug__":Str))=false:=by decide) (hdy:(y == ("__debug__":Str))=false:=by decide) (hdn:(n == ("__debug__":Str))=false:=by decide) (hdc:(n == ("__classdict__":Str))=false:=by decide)
  (he:starEach (e::es) X.env=(false,eval e X.env)::starEach es X.env:=by rfl) (hpl:(backTo cpos (starEach es X.env)).any (·.1)=false:=by rfl)
  (hs1:swapsWith (.Call (.Name x p) (e::es) [] cpos) (some (.Name v vp)) apos.line X.env=pure false:=by rfl) (hs2:swapsWith (.Name n rn) (some (.Name r rp)) spos.line X.env=pure false:=by rfl) (hie:ie≠ir:=by decide) :
  PS X (.Try [.Assign [.Name v vp] (.Call (.Name x p) (e::es) [] cpos) apos] [.ExceptHandler (some (.Name y np)) (some n) [.Assign [.Name r rp] (.Name n rn) spos] hpos] [] [] pos) (yf iv ie ir C sp t):=by
 intro pins s σ H D I h
 refine wpAny_Try_except ?_
 have hcall:=va (pos:=cpos) (p:=p) F hr hg hm hk hb ha I h hdb he hpl
 refine wpAny_execs_cons (wpAny_Assign_Name (wpAny_mono hcall (fun u s1 ⟨w,H1,I1,r1,q1⟩=>?_) fun e1 s1 t1=>?_) hs1)
 ·exact dX I1 hN hv hvl r1 (fun s2 I2=>wpAny_execs_nil (wpAny_execs_nil ⟨_,H1,I2,q1⟩)) hfnv
 ·obtain⟨H2,a,C',d,fs,ts,rfl,tS,a',d',e',hx',qD⟩:=t1
  cases e'
  refine tS.note hst hfr I.ok.frames fun h1 T1 t1=>?_
  refine t1.land fun h2 t2=>?_
  obtain⟨nm,q,N,bs,S,sn,sub,ab,col,dd,k0,k1,k2,k3,k5,mN,x2⟩:=c.at t2.inv.kIn
  obtain⟨oe,vs,oe1,oe2,_,_⟩:=XO.of (t2.inv.hok a _ hx')
  refine wpAny_handleBy_cons (codeAny_handlers_test (Calls.Name_function_global t2.inv.ok.kind hgC (Calls.loadGlobal_global (by rw [t2.inv.ok.glob];exact t2.inv.mod.glob.keeps t2.inv.bk) hmC ?_) hdy)) (by intro q;cases q)
  refine wpAny_excMatches_sub_self x2.c oe1 oe2 rfl ?_
  refine codeAny_handlers_suite_as ?_
  refine t2.land fun h3 t3=>?_
  have hie':ie < σ.length:=by rw [I.len];exact(List.getElem?_eq_some_iff.mp hn).1
  refine dX t3.inv hN hn (.inl hnl) (v:=.ref a) rfl (fun s4 I4=>?_) (.inr hnl)
  refine wpAny_execs_cons (wpAny_Assign_Name (wpAny_mono (t9 (X:=X.held (.ref a) fun _ _=>False) (i:=ie) (x:=n) (pos:=rn) hn (.inl hnl) hdn hdc pins s4 _ H2 (fun v H=>v=.ref a∧H=H2) (I4.held _ _) ⟨_,List.getElem?_set_self hie',rfl,rfl⟩) (fun u s5 ⟨w,H5,I5,r5,e5,e6⟩=>?_) fun _ _ z=>z.elim) hs2)
  subst e5 e6
  refine dX (I5.unheld I.ok) hN hrr hrl r5 (fun s6 I6=>wpAny_execs_nil ?_) hfnr
  exact q9 I6 hN hn hnl fun s7 I7=>⟨_,_,I7,qD⟩
end
end L2
namespace XE
open PySem
open Sem (wp)
section
variable {prog:Program} {w:World} {A:Around} {E:Value→Shared→Prop} {h:Heap} {g:Array GenState} {d:Drawn} {t:Nat} {os:OsState}
variable {nm q:Str} {C N a:Addr} {bs bm bmB:List Value} {sn:List Str} {sub:List Value} {ab:Bool} {col:Option Bool} {dd:Option Addr} {k0 k1 k2 k3 k5:Option Value} {B newId:String}
 {mN:Str→Option Value} {no:Str→Prop} {o:Obj} {vs:Array Value}
theorem qE{R:Result→Shared→Prop}(T:Tail h no bmB bm)(hob:bmB.contains (.type "object")=true)(hC:h.get? C=some (excClassObj nm q C N bs bm true sn sub ab col dd k0 k1 k2 k3 k5 newId))
  (hx:h.get? a=some o) (hc:o.cls=.ref C) (hq:R (.ok (.ret (.ref C))) ⟨h,g,d,t,os⟩) :
  codeAny (model prog w) A (.call (.builtin "getset_descriptor.__get__") ⟨[.builtin "object.__class__",.ref a,.ref C],[]⟩) R ⟨h,g,d,t,os⟩:=by
 have hT5:(⟨h,g,d,t,os⟩:Shared).TypeIs (.builtin "object.__class__") "getset_descriptor":=F.typeOf_object_class
 have hcB:(Value.ref C::bm).contains (.type (".".intercalate ("object.__class__".cutAt '.').dropLast))=true:=by
  rw [F.owner_object_class,List.contains_cons,T.hasType hob];rfl
 refine codeAny_call_builtin F.slot_gs_get.plain F.entry_gs_get (F.slot_gs_get.check _ _ _ _ _ _ _ _ hT5 (F.args_gs_get _ _ _) ?_)
 repeat (any_goals (first | assumption | (with_reducible refine wpAny_loadPart_at hx ?_;rw [hc]) | (with_reducible refine wpAny_isSubtype_exc hC ?_;rw [hcB]) | wp_step))
 refine⟨Code.quiet_builtin _ (by decide +kernel),codeAny_builtin F.entry_object_class ?_⟩
 repeat (any_goals (first | assumption | (with_reducible refine wpAny_loadPart_at hx ?_;rw [hc]) | wp_step))
theorem mr{tk:Tok}{Q:Fin→Shared→Prop}(FB:ExcAttrBase B bmB)(T:Tail h no bmB bm)(hob:bmB.contains (.type "object")=true)(hcl:no "__class__")(hna:mN "__class__"=none)(hlk:typeLookup (.type B) "__class__"=pure (some (.builtin "object.__class__")))
  (hC:h.get? C=some (excClassObj nm q C N bs bm true sn sub ab col dd k0 k1 k2 k3 k5 newId)) (hN:h.Ns N mN) (hx:h.get? a=some o) (hc:o.cls=.ref C) (hq:Q (.done (.ret (.ref C))) ⟨h,g,d,t,os⟩) :
  wpAny (model prog w) A (Builtin.«object.__getattribute__» ⟨[.ref a,.str "__class__" tk],[]⟩) Q E ⟨h,g,d,t,os⟩:=by
 have hT5:(⟨h,g,d,t,os⟩:Shared).TypeIs (.builtin "object.__class__") "getset_descriptor":=F.typeOf_object_class
 have f5:=F.typeOf_object_class
 have f6:=F.slot_gs_get.lookup
 have f7:=F.slot_gs_set.lookup
 repeat (any_goals (first | assumption | (with_reducible refine wpAny_loadPart_at hx ?_;rw [hc]) | (with_reducible refine lookup hcl hC hN T FB.mro hlk ?_;rw [hna]) | wp_step))
 refine qE T hob hC hx hc ?_
 repeat (any_goals (first | assumption | wp_step))
theorem class_attr{Q:Option Value→Shared→Prop}(FB:ExcAttrBase B bmB)(T:Tail h no bmB bm)(hob:bmB.contains (.type "object")=true)(hcl:no "__class__")(hna:mN "__class__"=none)(hlk:typeLookup (.type B) "__class__"=pure (some (.builtin "object.__class__")))
  (n1:no "__getattribute__") (n2:no "__getattr__") (m1:mN "__getattribute__"=none) (m2:mN "__getattr__"=none)
  (hC:h.get? C=some (excClassObj nm q C N bs bm true sn sub ab col dd k0 k1 k2 k3 k5 newId)) (hN:h.Ns N mN) (hx:h.get? a=some o) (hc:o.cls=.ref C) (hq:Q (some (.ref C)) ⟨h,g,d,t+1,os⟩) :
  wpAny (model prog w) A (getAttr? (.ref a) "__class__") Q E ⟨h,g,d,t,os⟩:=by
 have f3:=FB.ga.bind (.ref a)
 have hx2:(Value.builtin "BaseException.__getattribute__" == Value.builtin "object.__getattribute__")=false:=by decide +kernel
 have hx0:(false && onTheHeap (Value.builtin "BaseException.__getattribute__"))=false:=rfl
 have hx1:(onTheHeap (Value.ref C) && Value.builtin "BaseException.__getattribute__" == Value.builtin "object.__getattribute__")=false:=by rw [hx2];rfl
 unfold getAttr? getAttrBy?
 repeat (any_goals (first | assumption | (with_reducible refine wpAny_loadPart_at hx ?_;rw [hc]) | (with_reducible refine lookup n1 hC hN T FB.mro FB.ga.lookup ?_;rw [m1]) | (with_reducible refine lookup n2 hC hN T FB.mro FB.noGetattr ?_;rw [m2]) | wp_step))
 refine codeAny_call_builtin FB.ga.plain F.entry_bexc_ga (mq FB hC T hx hc (mr FB T hob hcl hna hlk hC hN hx hc ?_))
 repeat (any_goals (first | assumption | wp_step))
end
end XE
namespace L2
open PySem PySem.Spec PyProof.Rows
theorem rj:typeLookup (.type "ValueError") "__class__"=pure (some (.builtin "object.__class__")):=by rw [typeLookup_type,builtinLookup_eq_fast];kernel_rfl
theorem tL{K:PySem.W.Frag}{C fI a:Addr}{no:List Str}(c:nJ K C fI no)(h1:("__class__":Str)∈no)(h2:("__getattribute__":Str)∈no)(h3:("__getattr__":Str)∈no):
  PySem.W.KitX K (.ref a) (.ref C) (fun h=>∃o,h.get? a=some o∧o.cls=.ref C) where
 ty:=fun M h _ p=>by
  obtain⟨o,e1,e2⟩:=p
  exact e2▸(PySem.W.Looks.ld e1).andThen .now
 it:=fun M h X _=>by
  obtain⟨nm,q,N,bs,S,sn,sub,ab,col,dd,k0,k1,k2,k3,k5,mN,x⟩:=c.at X
  intro A' Q' E' s' k q
  unfold isType loadHead
  exact wpAny_bind (wpAny_loadPart (k _ _ x.c) (wpAny_pure q))
 ne:=fun h tp dd' its n sl X ht=>by
  obtain⟨nm,q,N,bs,S,sn,sub,ab,col,dd,k0,k1,k2,k3,k5,mN,x⟩:=c.at X
  refine Bool.eq_false_iff.mpr fun q=>?_
  cases beq_iff_eq.mp q
  have z:=congrArg (Option.map (·.cls)) (x.c.symm.trans ht)
  exact absurd z (by simp [excClassObj])
 ca:=fun {prog w A E Q s} X p k=>by
  obtain⟨o,e1,e2⟩:=p
  obtain⟨nm,q,N,bs,S,sn,sub,ab,col,dd,k0,k1,k2,k3,k5,mN,x⟩:=c.at X
  obtain⟨h,g,d,t,os⟩:=s
  exact XE.class_attr PySem.F.attrBase_ValueError x.t rfl (.inr h1) (x.o _ h1) rj (.inr h2) (.inr h3) (x.o _ h2) (x.o _ h3) x.c x.n e1 e2 k
def y6(K:PySem.W.Frag)(C:Addr):List V→Hp→VK→Prop:=fun xs H Q=>∃a d y u b,xs=[.ref a,y]∧H a=some (XO C d a)∧aG y u∧(∀u',aG y u'→u'=u)∧PySem.W.kitOne K (.ref C) u=some b∧Q (.bl b) H
theorem kI{X:Cx}{C fI:Addr}{no:List Str}(K:PySem.W.Frag)(c:nJ X.K C fI no)(h1:("__class__":Str)∈no)(h2:("__getattribute__":Str)∈no)(h3:("__getattr__":Str)∈no)(hK:X.K=K:=by rfl):bu X (.builtin "isinstance") (y6 K C):=by
 subst hK
 intro pins s σ H xs us Q I r h
 obtain⟨a,d,y,u,b,rfl,ha,ry,uy,e,q⟩:=h
 obtain⟨u1,u2,rfl,r1,r2⟩:=nG r
 cases(show u1=Value.ref a from r1)
 cases uy u2 r2
 obtain⟨o,vs,e1,e2,_⟩:=XO.of (I.hok a _ ha)
 exact PySem.W.kia_one (tL c h1 h2 h3) I.kIn ⟨o,e1,e2⟩ e (fun z=>nomatch z) fun tk=>⟨.bl b,H,I.tok _,rfl,q⟩
end L2
namespace L2
open PySem PySem.Spec PyProof.Rows
end L2
namespace L2
open PySem PySem.Spec PyProof.Rows
structure kA(P:Program)(w:World)(K:PySem.W.Frag)(mg:Str→Option Value)(base:Heap)(x:Str)(k:Nat)(ps:List Str)(sp:Sp):Prop where
 ex:∃(f:Addr) (fd:FuncData),aE P w K mg base (kx P w) k f fd ps sp∧mg x=some (.ref f)∧PySem.W.keepIn K (.ref f)=true∧bT K fd ps []
structure jr(P:Program)(w:World)(K:PySem.W.Frag)(mg:Str→Option Value)(base:Heap)(x:Str)(C:Addr)(k:Nat)(ps:List Str)(sp:Sp)(no:List Str):Prop where
 ex:∃(fI:Addr) (fd:FuncData),nJ K C fI no∧aE P w K mg base b8 k fI fd ps sp∧mg x=some (.ref C)∧bT K fd ps []
section
variable {X:Cx} {k j:Nat} {ps qs:List Str} {sp sq:Sp} {x y v n r f:Str} {p pos cpos np vp hpos rp rn apos spos:Pos} {e o value:Expr} {es:List Expr} {ta:TE} {t:TA} {E:XK} {C L:Addr} {no:List Str} {iv ie ir:Nat}
theorem vM(d:kA X.prog X.w X.K X.mg X.base x k ps sp)(hr:bO k X.A)(hg:Gl X x)(hx:fA (kx X.prog X.w) X E)(ha:PA X (e::es) t)(hdb:(x == ("__debug__":Str))=false:=by decide)
  (he:starEach (e::es) X.env=(false,eval e X.env)::starEach es X.env:=by rfl) (hpl:(backTo pos (starEach es X.env)).any (·.1)=false:=by rfl):PE X (.Call (.Name x p) (e::es) [] pos) (ko sp [] E t):=
 let ⟨_,_,F,hm,hk,hb⟩:=d.ex;p7 F hr hg hm hk hb .nil hx ha hdb he hpl
theorem rM(d:jr X.prog X.w X.K X.mg X.base x C k ps sp no)(hc:X.calm=true)(hr:bO (k+1) X.A)(hg:Gl X x)(hx:∀e s',zt X E e s'→X.xe e s')(ha:PA X (e::es) t)(hdb:(x == ("__debug__":Str))=false:=by decide)
  (he:starEach (e::es) X.env=(false,eval e X.env)::starEach es X.env:=by rfl) (hpl:(backTo cpos (starEach es X.env)).any (·.1)=false:=by rfl):PS X (.Raise (some (.Call (.Name x np) (e::es) [] cpos)) none pos) (pG C sp E t):=
 let ⟨_,_,c,F,hm,hb⟩:=d.ex;ug hc c F hr hg hm hb hx ha hdb he hpl
theorem p8(d:jr X.prog X.w X.K X.mg X.base x C k ps sp no)(h1:("__getattribute__":Str)∈no)(h2:("__getattr__":Str)∈no)(h3:f∈no)(hB:typeLookup (.type "ValueError") f=pure none)(he:PE X e ta)(hb:attributeBase e f X.env (eval e X.env)=eval e X.env):PE X (.Attribute e f pos) (uM C ta f):=
 let ⟨_,_,c,_⟩:=d.ex;vN c h1 h2 h3 hB he hb
theorem jX(K:PySem.W.Frag)(d:jr X.prog X.w X.K X.mg X.base x C k ps sp no)(h1:("__class__":Str)∈no)(h2:("__getattribute__":Str)∈no)(h3:("__getattr__":Str)∈no)(hK:X.K=K:=by rfl):bu X (.builtin "isinstance") (y6 K C):=
 let ⟨_,_,c,_⟩:=d.ex;kI K c h1 h2 h3 hK
theorem vT(dE:jr X.prog X.w X.K X.mg X.base y C j qs sq no)(dF:kA X.prog X.w X.K X.mg X.base x k ps sp)(hc:X.calm=true)(hst:X.stack=X.env::X.outer)(hfr:X.env.frame=some L)(hgC:Gl X y)
  (hN:X.N.Nodup) (hv:X.N[iv]?=some v) (hvl:uT X.env.scope v) (hn:X.N[ie]?=some n) (hnl:X.env.scope.names.lookup n=some .local) (hrr:X.N[ir]?=some r) (hrl:uT X.env.scope r) (hfnv:X.fn v=true∨X.env.scope.names.lookup v=some .local) (hfnr:X.fn r=true∨X.env.scope.names.lookup r=some .local)
  (hr:bO k X.A) (hg:Gl X x) (ha:PA X.nox (e::es) t) (hdb:(x == ("__debug__":Str))=false:=by decide) (hdy:(y == ("__debug__":Str))=false:=by decide) (hdn:(n == ("__debug__":Str))=false:=by decide) (hdc:(n == ("__classdict__":Str))=false:=by decide)
  (he:starEach (e::es) X.env=(false,eval e X.env)::starEach es X.env:=by rfl) (hpl:(backTo cpos (starEach es X.env)).any (·.1)=false:=by rfl)
  (hs1:swapsWith (.Call (.Name x p) (e::es) [] cpos) (some (.Name v vp)) apos.line X.env=pure false:=by rfl) (hs2:swapsWith (.Name n rn) (some (.Name r rp)) spos.line X.env=pure false:=by rfl) (hie:ie≠ir:=by decide) :
  PS X (.Try [.Assign [.Name v vp] (.Call (.Name x p) (e::es) [] cpos) apos] [.ExceptHandler (some (.Name y np)) (some n) [.Assign [.Name r rp] (.Name n rn) spos] hpos] [] [] pos) (yf iv ie ir C sp t):=
 let ⟨_,_,c,_,hmC,_⟩:=dE.ex;let ⟨_,_,F,hm,hk,hb⟩:=dF.ex
 xM hc hst hfr c hgC hmC hN hv hvl hn hnl hrr hrl hfnv hfnr F hr hg hm hk hb ha hdb hdy hdn hdc he hpl hs1 hs2 hie
end
def we(C:Addr)(f:Str):Sp:=fun vs H Q _=>∃a v,vs=[.ref a,v]∧H a=some (XN C a)∧∀d,H d=none→d≠a→Q .non (upd (upd H a (XF C d a)) d (.xd [(f,v)]))
section
variable {X:Cx}
end
end L2
namespace L2
open PySem PySem.Spec PyProof.Rows
section
variable {K:PySem.W.Frag} {C fI S N c:Addr} {nm q f:Str} {bs sub:List Value} {sn:List Str} {ab b:Bool} {col:Option Bool} {dd:Option Addr} {k0 k1 k2 k3 k5:Option Value} {c0:Value} {ds:Option Addr} {cd:ClassData} {sl:Array (Option Value)} {T:String}
theorem p5{cl:Value}{d:Option Addr}{es:Array DictEntry}{n:Nat}{sl:Array (Option Value)}(l:K.lookup N=some ⟨cl,d,.dict es n,sl⟩)(e:(es.toList.all fun e=>match e.key with | .str _ _=>true | _=>false)=true):PySem.W.nsOkIn K N=true:=by
 unfold PySem.W.nsOkIn
 rw [l]
 show es.all _=true
 rw [←Array.all_toList]
 exact e
theorem xg(lk:K.lookup C=some (excClassObj nm q C N bs (.ref S::u9) true sn sub ab col dd k0 k1 k2 k3 k5 "ValueError.__new__"))(ok:PySem.W.nsOkIn K N=true)(ii:PySem.W.nsIn K N "__init__"=some (some (.ref fI)))
  (a1:PySem.W.nsIn K N "__setattr__"=some none) (a2:PySem.W.nsIn K N "__getattribute__"=some none) (a3:PySem.W.nsIn K N "__getattr__"=some none) (a4:PySem.W.nsIn K N "__class__"=some none) (a5:PySem.W.nsIn K N f=some none)
  (lS:K.lookup S=some ⟨c0,ds,.cls cd,sl⟩) (okS:PySem.W.nsOkIn K cd.ns=true) (iS:PySem.W.nsIn K cd.ns "__init__"=some none)
  (b1:PySem.W.nsIn K cd.ns "__setattr__"=some none) (b2:PySem.W.nsIn K cd.ns "__getattribute__"=some none) (b3:PySem.W.nsIn K cd.ns "__getattr__"=some none) (b4:PySem.W.nsIn K cd.ns "__class__"=some none) (b5:PySem.W.nsIn K cd.ns f=some none)
  (kp:PySem.W.keepIn K (.ref C)=true) (fn:PySem.W.isFn K (.ref fI)=true):nJ K C fI ["__setattr__","__getattribute__","__getattr__","__class__",f]:=
 ⟨⟨nm,q,N,bs,S,sn,sub,ab,col,dd,k0,k1,k2,k3,k5,lk,ok,ii,fun n hn=>by
   simp only [List.mem_cons,List.not_mem_nil,or_false]at hn
   rcases hn with rfl | rfl | rfl | rfl | rfl<;>assumption,c0,ds,cd,sl,lS,okS,iS,fun n hn=>by
   simp only [List.mem_cons,List.not_mem_nil,or_false]at hn
   rcases hn with rfl | rfl | rfl | rfl | rfl<;>assumption⟩,kp,fn⟩
theorem exAt_mk{cl cl':Value}{d d':Option Addr}{es es':Array DictEntry}{n n':Nat}{zl zl':Array (Option Value)}{qual:Str}{st:Stmt}{oc:Value}{od an:Option Addr}{osl:Array (Option Value)}{kV doc pm cdv ct:Value}
  (lk:K.lookup C=some (excClassObj nm q C N bs (.ref S::u9) true sn sub ab col dd k0 k1 k2 k3 k5 "ValueError.__new__")) (lN:K.lookup N=some ⟨cl,d,.dict es n,zl⟩) (eN:(es.toList.all fun e=>match e.key with | .str _ _=>true | _=>false)=true) (ii:PySem.W.nsIn K N "__init__"=some (some (.ref fI)))
  (a1:PySem.W.nsIn K N "__setattr__"=some none) (a2:PySem.W.nsIn K N "__getattribute__"=some none) (a3:PySem.W.nsIn K N "__getattr__"=some none) (a4:PySem.W.nsIn K N "__class__"=some none) (a5:PySem.W.nsIn K N f=some none)
  (lS:K.lookup S=some ⟨c0,ds,.cls cd,sl⟩) (lM:K.lookup cd.ns=some ⟨cl',d',.dict es' n',zl'⟩) (eM:(es'.toList.all fun e=>match e.key with | .str _ _=>true | _=>false)=true) (iS:PySem.W.nsIn K cd.ns "__init__"=some none)
  (b1:PySem.W.nsIn K cd.ns "__setattr__"=some none) (b2:PySem.W.nsIn K cd.ns "__getattribute__"=some none) (b3:PySem.W.nsIn K cd.ns "__getattr__"=some none) (b4:PySem.W.nsIn K cd.ns "__class__"=some none) (b5:PySem.W.nsIn K cd.ns f=some none)
  (kp:PySem.W.keepIn K (.ref C)=true) (fn:PySem.W.isFn K (.ref fI)=true)
  (l:K.lookup fI=some ⟨oc,od,.func (PySem.W.fnOf "__init__" qual (bV st) (bq st) (ak st) .none kV doc pm an cdv ct),osl⟩) (c:PySem.W.codeIn K cdv qual=true) (k:PySem.W.keepIn K (.ref fI)=true) :
  ∃fI fd,nJ K C fI ["__setattr__","__getattribute__","__getattr__","__class__",f]∧cR K "__init__" qual st fI fd:=
 ⟨fI,_,xg lk (p5 lN eN) ii a1 a2 a3 a4 a5 lS (p5 lM eM) iS b1 b2 b3 b4 b5 kp fn,fun_mk l c k⟩
theorem kit_own{t:Value}(n:(t == .ref c)=false)(h1:PySem.W.isClsIn K c=true)(h2:PySem.W.typeIn K (.ref c)=some (.type "type"))(h3:PySem.W.subIn K t (.ref c)=some b):PySem.W.kitOne K t (.ref c)=some b:=by
 unfold PySem.W.kitOne PySem.W.kitCls
 have h1:(PySem.W.clsIn K c).isSome=true:=h1
 rw [n,if_neg Bool.false_ne_true]
 simp only [h1,h2,beq_self_eq_true,Bool.and_self,if_true]
 exact h3
theorem kit_ty{t:Value}(n:(t == .type T)=false)(h1:PySem.W.kitMeta T=true)(h3:PySem.W.subIn K t (.type T)=some b):PySem.W.kitOne K t (.type T)=some b:=by
 unfold PySem.W.kitOne PySem.W.kitCls
 rw [n,if_neg Bool.false_ne_true]
 simp only [h1,if_true]
 exact h3
end
end L2
namespace L2
open PySem PySem.Spec PyProof.Rows
def TJ:=Str→L2.St→Hp→VK→Prop
def PJ(X:Cx)(es:List Expr)(t:TJ):Prop:=∀(pins:List (Addr×Obj)) (s:Shared) (σ:St) (H:Hp) (acc:Str) (Q:VK),az X pins σ H s→t acc σ H Q→wpAny (model X.prog X.w) X.A (joinParts acc (evalEach es X.env)) (EP X pins σ Q) X.xe s
def yK:TJ:=fun acc σ H Q=>acc.length≤sizeLine∧Q (.str acc) H
def yL(x:Str)(t:TJ):TJ:=fun acc σ H Q=>(acc++x).length≤sizeLine∧t (acc++x) σ H Q
def yG(te:TE)(t:TJ):TJ:=fun acc σ H Q=>te σ H fun v H1=>∃i,v=.int i∧i.natAbs.log2 < 1920∧(acc++aP i).length≤sizeLine∧t (acc++aP i) σ H1 Q
def Ad(t:TJ):TE:=fun σ H Q=>t Str.empty σ H Q
section
variable {X:Cx} {es:List Expr} {e e1 e2:Expr} {t:TJ} {te:TE} {pos:Pos} {x:Str}
theorem xK:PJ X [] yK:=fun pins s σ H acc Q I h=>PyProof.Rows.joinParts_nil ⟨.str acc,H,I.tok _,⟨_,rfl⟩,h.2⟩ h.1
theorem ue{j}(ht:PJ X es t):PJ X (.Constant (.str x) j pos::es) (yL x t):=fun pins s σ H acc Q I h=>by
 show wpAny _ _ (joinParts acc (eval (.Constant (.str x) j pos) X.env::evalEach es X.env)) _ _ s
 exact PyProof.Rows.joinParts_cons (Calls.Constant_str ⟨h.1,ht pins _ σ H _ Q (I.tok _) h.2⟩)
theorem ud(he:PE X e te)(ht:PJ X es t):PJ X (.FormattedValue e (-1) none pos::es) (yG te t):=fun pins s σ H acc Q I h=>by
 show wpAny _ _ (joinParts acc (eval (.FormattedValue e (-1) none pos) X.env::evalEach es X.env)) _ _ s
 refine PyProof.Rows.joinParts_cons (PyProof.Rows.FormattedValue_plain (bz (he pins s σ H _ I h) fun u s1 ⟨v,H1,I1,r1,i,ei,hb,hz,q⟩=>?_))
 subst ei
 obtain⟨tk,rfl⟩:=r1
 exact PyProof.Rows.formatField_int_small hb ⟨hz,ht pins _ σ H1 _ Q (I1.tok _) q⟩
theorem vO(h:PJ X (e1::e2::es) t):PE X (.JoinedStr (e1::e2::es) pos) (Ad t):=fun pins s σ H Q I q=>PyProof.Rows.JoinedStr_many (h pins s σ H Str.empty Q I q)
theorem PS.nox{st:Stmt}{t:TS}(h:PS X.nox st t):PS X st t:=fun pins s σ H D I hw=>
 wpAny_mono (h pins s σ H D (I.wish _) hw) (fun f s1 q=>SP.unwish q) fun _ _ z=>z.elim
theorem mI:cc X (inplaceOp .Mult) (rI IntMulOk fun i j=>.int (i * j)):=yO fun _ _ _ _ _ _ _ hc q=>imul_int q hc
end
end L2
namespace L2
open PySem PySem.Spec PyProof.Rows
theorem sg{P:Program}{w:World}{K:PySem.W.Frag}{tg:Expr}(it:Addr)(lo:Int)(n:Nat):kE P w K tg (qr lo n) [it] it (fun i h=>IsLongIter h it (lo+(i:Nat) * 1) ((n:Int) - (i:Nat)) 1) where
 mem:=by simp
 obj:=fun i h st b hb=>by
  have e:b=it:=by simpa using hb
  subst e
  exact⟨_,st,fun v z=>by
   have z':Data.fields _=Data.cell v:=z
   cases z'⟩
 keep:=fun i h h' st k=>k it (by simp) _ st
 item:=by
  intro X hP hw hK hc i pins s σ H E I hf st hg
  subst hP hw hK
  obtain⟨f0,f1,f2,f3,f4,f5⟩:=hf it (by simp)
  have W:=Walks.longrange (prog:=X.prog) (w:=X.w) (I.ok.hd hc) it lo 1 n
  refine W.item i s _ _ hg st fun v h' tk hv st' kk=>?_
  obtain⟨t,rfl⟩:=hv
  have I1:az X pins σ H { s with heap:=h',toks:=tk }:=I.turned (fun b o hb e=>kk b o (by simpa using hb) e) f0 f1 f3 f4 f5
  refine⟨_,rfl,j6 (s:={ s with heap:=h',toks:=tk }) (n:="longrange_iterator") st' rfl rfl (by decide) ⟨.int (lo+i),H,I1,⟨t,?_⟩,⟨rfl,rfl⟩,st',fun b hb=>(hf b hb).1⟩⟩
  rw [Int.mul_one]
 done:=by
  intro X hP hw hK hc i pins s σ H E I hf st hg
  subst hP hw hK
  obtain⟨f0,f1,f2,f3,f4,f5⟩:=hf it (by simp)
  exact wpAny_pyNext_long_end (I.ok.hd hc) st (by have:n≤i:=hg;omega) fun h' eb=>⟨rfl,I.turned (t':=s.toks) (fun b o hb e=>eb b o hb e) f0 f1 f3 f4 f5⟩
 self:=fun _ _ _ _ _ st h=>wpAny_pyIter_longiter st h
section
variable {X:Cx} {tg:Expr}
theorem rQ{pins:List (Addr×Obj)}{σ:St}{H:Hp}{s:Shared}{R:It→Hp→Prop}{E:Value→Shared→Prop}{lo hi:Int}{t u v:Tok}{tk:Nat}(I:az X pins σ H s)
  (q:R (qr lo (hi - lo).toNat) H):wpAny (model X.prog X.w) X.A (pyIter (.ref s.heap.objs.size)) (yl X pins σ tg R) E { s with heap:=s.heap.push { cls:=.type "range",data:=.fields #[.int lo t,.int hi u,.int 1 v] },toks:=tk }:=by
 have I1:az X pins σ H { s with heap:=s.heap.push { cls:=.type "range",data:=.fields #[.int lo t,.int hi u,.int 1 v] },toks:=tk }:=I.kept fun b o e=>Heap.get?_push_of_some _ e
 have e1:lo+((0:Nat):Int) * 1=lo:=by simp
 have e2:(((hi - lo).toNat:Nat):Int) - ((0:Nat):Int)=Builtin.Range.rangeSize lo hi 1:=by rw [rangeSize_one];split<;>omega
 cases hs:Builtin.Range.small lo hi 1 with
 | true=>
  refine wpAny_pyIter_range (IsRange.new ..) hs ?_
  refine⟨(s.heap.push { cls:=.type "range",data:=.fields #[.int lo t,.int hi u,.int 1 v] }).objs.size,[(s.heap.push { cls:=.type "range",data:=.fields #[.int lo t,.int hi u,.int 1 v] }).objs.size],_,_,H,rfl,
   I1.kept (t':=tk) fun b o e=>Heap.get?_push_of_some _ e,jl _ lo (hi - lo).toNat,?_,fun b hb=>?_,q⟩
  ·show IsRangeIter _ _ (lo+((0:Nat):Int) * 1) ((((hi - lo).toNat:Nat):Int) - ((0:Nat):Int)) 1
   rw [e1,e2]
   exact Heap.get?_push_size _ rfl
  ·have e:b=(s.heap.push { cls:=.type "range",data:=.fields #[.int lo t,.int hi u,.int 1 v] }).objs.size:=by simpa using hb
   subst e
   exact I1.fpOk (Nat.le_refl _) (I1.hok.fresh (Nat.le_refl _))
 | false=>
  refine wpAny_pyIter_longrange (IsRange.new ..) hs ?_
  refine⟨(s.heap.push { cls:=.type "range",data:=.fields #[.int lo t,.int hi u,.int 1 v] }).objs.size,[(s.heap.push { cls:=.type "range",data:=.fields #[.int lo t,.int hi u,.int 1 v] }).objs.size],_,_,H,rfl,
   I1.kept (t':=tk) fun b o e=>Heap.get?_push_of_some _ e,sg _ lo (hi - lo).toNat,?_,fun b hb=>?_,q⟩
  ·show IsLongIter _ _ (lo+((0:Nat):Int) * 1) ((((hi - lo).toNat:Nat):Int) - ((0:Nat):Int)) 1
   rw [e1,e2]
   exact Heap.get?_push_size _ rfl
  ·have e:b=(s.heap.push { cls:=.type "range",data:=.fields #[.int lo t,.int hi u,.int 1 v] }).objs.size:=by simpa using hb
   subst e
   exact I1.fpOk (Nat.le_refl _) (I1.hok.fresh (Nat.le_refl _))
def tj(ta:TA):TI:=fun σ H R=>ta σ H fun vs H1=>∃i j:Int,vs=[.int i,.int j]∧R (qr i (j - i).toNat) H1
theorem oK{a b:Expr}{ta:TA}{p pos:Pos}(hg:Gl X "range")(hm:X.mg "range"=none)(ha:PA X [a,b] ta)(hs:starEach [a,b] X.env=[(false,eval a X.env),(false,eval b X.env)]:=by rfl)(hs2:starEach [b] X.env=[(false,eval b X.env)]:=by rfl):
  PI X tg (.Call (.Name "range" p) [a,b] [] pos) (tj ta):=by
 intro pins s σ H R I h
 refine Call_ (eE I hg hm boot_range (PyProof.Rows.callWith_type1 (bz (ha pos pins s σ H _ I h) fun us s1 ⟨vs,H1,I1,r1,q1⟩=>?_) (by rw [hs,hs2]) (by rw [hs2];rfl)))
 obtain⟨i,j,e,q⟩:=q1
 subst e
 cases r1 with
 | cons r rr=>
  cases rr with
  | cons r' rr=>
   cases rr
   obtain⟨t,rfl⟩:=r
   obtain⟨t',rfl⟩:=r'
   exact call_range_2 (rQ I1 q)
end
theorem kA.up{P:Program}{w:World}{K:PySem.W.Frag}{mg:Str→Option Value}{base:Heap}{x:Str}{j k:Nat}{ps:List Str}{sp:Sp}(d:kA P w K mg base x j ps sp)(h:j≤k):kA P w K mg base x k ps sp:=
 let ⟨f,fd,F,r⟩:=d.ex;⟨f,fd,F.mono h,r⟩
theorem jr.up{P:Program}{w:World}{K:PySem.W.Frag}{mg:Str→Option Value}{base:Heap}{x:Str}{C:Addr}{j k:Nat}{ps:List Str}{sp:Sp}{no:List Str}(d:jr P w K mg base x C j ps sp no)(h:j≤k):jr P w K mg base x C k ps sp no:=
 let ⟨f,fd,e,F,r⟩:=d.ex;⟨f,fd,e,F.mono h,r⟩
end L2
seal PySem.wpAny
namespace K21
open PySem PyProof.Rows L2
def dO(i:Nat):Stmt:=PySem.Challenge.pw_fourvoices_k21_ranges_and_weight.main.body.getD i (.Pass ⟨0,0,0,0⟩)
abbrev cy:Stmt:=bG (dO 4) 0
theorem fq:av ["self","weight"] ["self","weight"] (ak cy):=⟨rfl,rfl,rfl,by decide +kernel,rfl,by decide +kernel,by decide +kernel⟩
abbrev c2:Stmt:=bG (dO 6) 0
theorem g7:av ["self","row"] ["self","row"] (ak c2):=⟨rfl,rfl,rfl,by decide +kernel,rfl,by decide +kernel,by decide +kernel⟩
abbrev eT:Stmt:=bG (dO 6) 1
theorem lP:av ["self"] ["self"] (ak eT):=⟨rfl,rfl,rfl,by decide +kernel,rfl,by decide +kernel,by decide +kernel⟩
abbrev bL:Stmt:=bG (dO 6) 5
theorem jL:av ["self"] ["self"] (ak bL):=⟨rfl,rfl,rfl,by decide +kernel,rfl,by decide +kernel,by decide +kernel⟩
abbrev c3:Stmt:=bG (dO 7) 0
theorem g8:av ["self","row","first","second","numbers"] ["self","row","first","second","numbers"] (ak c3):=⟨rfl,rfl,rfl,by decide +kernel,rfl,by decide +kernel,by decide +kernel⟩
abbrev c1:Stmt:=bG (dO 23) 0
theorem g6:av ["self","row","voice","numbers"] ["self","row","voice","numbers"] (ak c1):=⟨rfl,rfl,rfl,by decide +kernel,rfl,by decide +kernel,by decide +kernel⟩
abbrev cY:Stmt:=bG (dO 25) 0
theorem gZ:av ["self","row","voice","widest"] ["self","row","voice","widest"] (ak cY):=⟨rfl,rfl,rfl,by decide +kernel,rfl,by decide +kernel,by decide +kernel⟩
abbrev eQ:Stmt:=bG (dO 25) 1
theorem lL:av ["self"] ["self"] (ak eQ):=⟨rfl,rfl,rfl,by decide +kernel,rfl,by decide +kernel,by decide +kernel⟩
abbrev cZ:Stmt:=bG (dO 19) 0
theorem g5:av ["self","row","voice","most"] ["self","row","voice","most"] (ak cZ):=⟨rfl,rfl,rfl,by decide +kernel,rfl,by decide +kernel,by decide +kernel⟩
abbrev eS:Stmt:=bG (dO 19) 1
theorem lO:av ["self"] ["self"] (ak eS):=⟨rfl,rfl,rfl,by decide +kernel,rfl,by decide +kernel,by decide +kernel⟩
abbrev cQ:Stmt:=bG (dO 20) 0
theorem gi:av ["self","row","voice","note","fewest","most"] ["self","row","voice","note","fewest","most"] (ak cQ):=⟨rfl,rfl,rfl,by decide +kernel,rfl,by decide +kernel,by decide +kernel⟩
abbrev d3:Stmt:=bG (dO 20) 1
theorem jM:av ["self"] ["self"] (ak d3):=⟨rfl,rfl,rfl,by decide +kernel,rfl,by decide +kernel,by decide +kernel⟩
abbrev cO:Stmt:=bG (dO 21) 0
theorem gg:av ["self","row","turns","turn","inner"] ["self","row","turns","turn","inner"] (ak cO):=⟨rfl,rfl,rfl,by decide +kernel,rfl,by decide +kernel,by decide +kernel⟩
abbrev d2:Stmt:=bG (dO 21) 1
theorem jK:av ["self"] ["self"] (ak d2):=⟨rfl,rfl,rfl,by decide +kernel,rfl,by decide +kernel,by decide +kernel⟩
abbrev eU:Stmt:=dO 29
theorem sc_is_number:av ["word","figures"] ["word"] (ak eU):=⟨rfl,rfl,rfl,by decide +kernel,rfl,by decide +kernel,by decide +kernel⟩
abbrev d4:Stmt:=dO 33
theorem jN:av ["numbers","voices"] ["numbers","voices"] (ak d4):=⟨rfl,rfl,rfl,by decide +kernel,rfl,by decide +kernel,by decide +kernel⟩
abbrev fH:Stmt:=dO 34
theorem nk:av ["numbers","ahead"] ["numbers","ahead"] (ak fH):=⟨rfl,rfl,rfl,by decide +kernel,rfl,by decide +kernel,by decide +kernel⟩
abbrev gY:Stmt:=dO 35
theorem oY:av ["row","numbers","voices"] ["row","numbers","voices"] (ak gY):=⟨rfl,rfl,rfl,by decide +kernel,rfl,by decide +kernel,by decide +kernel⟩
abbrev gX:Stmt:=dO 37
theorem oX:av ["row","numbers","voices"] ["row","numbers","voices"] (ak gX):=⟨rfl,rfl,rfl,by decide +kernel,rfl,by decide +kernel,by decide +kernel⟩
abbrev gR:Stmt:=dO 39
theorem oV:av ["row","numbers","voices"] ["row","numbers","voices"] (ak gR):=⟨rfl,rfl,rfl,by decide +kernel,rfl,by decide +kernel,by decide +kernel⟩
abbrev gU:Stmt:=dO 40
theorem oW:av ["row","numbers","voices"] ["row","numbers","voices"] (ak gU):=⟨rfl,rfl,rfl,by decide +kernel,rfl,by decide +kernel,by decide +kernel⟩
abbrev fL:Stmt:=dO 41
theorem nq:av ["row","numbers","voices"] ["row","numbers","voices"] (ak fL):=⟨rfl,rfl,rfl,by decide +kernel,rfl,by decide +kernel,by decide +kernel⟩
abbrev d8:Stmt:=dO 45
theorem sc_plain_rule:av ["row","voices","words"] ["row","voices"] (ak d8):=⟨rfl,rfl,rfl,by decide +kernel,rfl,by decide +kernel,by decide +kernel⟩
abbrev d5:Stmt:=dO 46
theorem sc_every_rule:av ["row","voices","words","turns","turn","inner"] ["row","voices"] (ak d5):=⟨rfl,rfl,rfl,by decide +kernel,rfl,by decide +kernel,by decide +kernel⟩
abbrev dA:Stmt:=dO 47
theorem sc_read_rule:av ["text","voices","row","rule"] ["text","voices","row"] (ak dA):=⟨rfl,rfl,rfl,by decide +kernel,rfl,by decide +kernel,by decide +kernel⟩
abbrev cP:Stmt:=bG (dO 13) 0
theorem gh:av ["self","ranges","rules"] ["self","ranges","rules"] (ak cP):=⟨rfl,rfl,rfl,by decide +kernel,rfl,by decide +kernel,by decide +kernel⟩
abbrev d7:Stmt:=dO 14
theorem jO:av ["column","low","high"] ["column","low","high"] (ak d7):=⟨rfl,rfl,rfl,by decide +kernel,rfl,by decide +kernel,by decide +kernel⟩
abbrev gT:Stmt:=dO 15
theorem sc_columns:av ["score","told","low","high","longer","column"] ["score"] (ak gT):=⟨rfl,rfl,rfl,by decide +kernel,rfl,by decide +kernel,by decide +kernel⟩
abbrev jf:Stmt:=dO 16
theorem sc_weight:av ["score","told","low","high","rule"] ["score"] (ak jf):=⟨rfl,rfl,rfl,by decide +kernel,rfl,by decide +kernel,by decide +kernel⟩
abbrev dq:Stmt:=dO 17
theorem sc_not_too_wide:av ["score","told"] ["score"] (ak dq):=⟨rfl,rfl,rfl,by decide +kernel,rfl,by decide +kernel,by decide +kernel⟩
abbrev dM:Stmt:=dO 51
theorem sc_voice_range:av ["row","words","bounds"] ["row"] (ak dM):=⟨rfl,rfl,rfl,by decide +kernel,rfl,by decide +kernel,by decide +kernel⟩
abbrev oU:Stmt:=dO 52
theorem sc_read:av ["text","ranges","rules","number","row","bounds"] ["text"] (ak oU):=⟨rfl,rfl,rfl,by decide +kernel,rfl,by decide +kernel,by decide +kernel⟩
abbrev lK:Stmt:=dO 53
theorem sc_shown:av ["score","rows"] ["score"] (ak lK):=⟨rfl,rfl,rfl,by decide +kernel,rfl,by decide +kernel,by decide +kernel⟩
abbrev dJ:Stmt:=dO 55
theorem sc_law_stirred:av ["_law_cell","_law_place","_law_found","_law_rest","_law_turn","_law_upper","_law_lower"] ["_law_cell","_law_place"] (ak dJ):=⟨rfl,rfl,rfl,by decide +kernel,rfl,by decide +kernel,by decide +kernel⟩
abbrev gW:Stmt:=dO 56
theorem sc_law_got:av ["_law_script","_law_place","_law_cell","_law_power"] ["_law_script","_law_place"] (ak gW):=⟨rfl,rfl,rfl,by decide +kernel,rfl,by decide +kernel,by decide +kernel⟩
abbrev eV:Stmt:=dO 57
theorem lQ:av ["_law_script","_law_first","_law_last"] ["_law_script","_law_first","_law_last"] (ak eV):=⟨rfl,rfl,rfl,by decide +kernel,rfl,by decide +kernel,by decide +kernel⟩
abbrev d6:Stmt:=dO 58
theorem sc_law_ranges:av ["_law_script","_law_found","_law_k","_law_low","_law_cell","_law_size"] ["_law_script"] (ak d6):=⟨rfl,rfl,rfl,by decide +kernel,rfl,by decide +kernel,by decide +kernel⟩
abbrev fJ:Stmt:=dO 59
theorem sc_law_rule:av ["_law_cell","_law_voices","_law_voice","_law_many","_law_kind","_law_low","_law_inner"] ["_law_cell","_law_voices"] (ak fJ):=⟨rfl,rfl,rfl,by decide +kernel,rfl,by decide +kernel,by decide +kernel⟩
abbrev dI:Stmt:=dO 60
theorem sc_law_columns:av ["_law_found","_law_ranges_here","_law_many","_law_k","_law_left","_law_voice","_law_low","_law_high","_law_note","_law_told"] ["_law_found","_law_ranges_here","_law_many"] (ak dI):=⟨rfl,rfl,rfl,by decide +kernel,rfl,by decide +kernel,by decide +kernel⟩
abbrev fK:Stmt:=dO 61
theorem sc_law_same:av ["_law_score","_law_ranges_here","_law_many","_law_heavy","_law_found","_law_made"] ["_law_score","_law_ranges_here","_law_many","_law_heavy"] (ak fK):=⟨rfl,rfl,rfl,by decide +kernel,rfl,by decide +kernel,by decide +kernel⟩
abbrev c4:Stmt:=dO 62
theorem sc_law_made_anew:av ["_law_score","_law_ranges_here","_law_text","_law_first","_law_second","_law_other"] ["_law_score","_law_ranges_here","_law_text"] (ak c4):=⟨rfl,rfl,rfl,by decide +kernel,rfl,by decide +kernel,by decide +kernel⟩
abbrev ki:Stmt:=dO 63
theorem sc_law:av ["_law_script","_law_ranges_here","_law_rules","_law_edge","_law_low","_law_many","_law_rows","_law_high","_law_heavy","_law_row","_law_size","_law_text","_law_score","_law_refused","e","_law_other"] ["_law_script"] (ak ki):=⟨rfl,rfl,rfl,by decide +kernel,rfl,by decide +kernel,by decide +kernel⟩
structure Txt(mg:Str→Option Value)(aM:Addr):Prop where
 n_len:mg "len"=none
 n_range:mg "range"=none
 n_all:mg "all"=none
 n_min:mg "min"=none
 n_max:mg "max"=none
 n_abs:mg "abs"=none
 n_tuple:mg "tuple"=none
 n_list:mg "list"=none
 n_isinstance:mg "isinstance"=none
 n_bool:mg "bool"=none
 n_int:mg "int"=none
 n_str:mg "str"=none
 n_divmod:mg "divmod"=none
 n_enumerate:mg "enumerate"=none
 n_ValueError:mg "ValueError"=none
 g_FIGURES:∃u,mg "FIGURES"=some u∧aG (.str "0123456789") u
 g_MOST_FIGURES:∃u,mg "MOST_FIGURES"=some u∧aG (.int 40) u
 g_MOST_VOICES:∃u,mg "MOST_VOICES"=some u∧aG (.int 4) u
 g_MOST_RULES:∃u,mg "MOST_RULES"=some u∧aG (.int 12) u
 g_MOST_WEIGHT:∃u,mg "MOST_WEIGHT"=some u∧aG (.int 400) u
 g_MOST_NUMBERS:∃u,mg "MOST_NUMBERS"=some u∧aG (.int 12) u
 g_MAKERS:∃u,mg "MAKERS"=some u∧aG (.ref aM) u
structure yr(mg:Str→Option Value)(aM aI:Addr):Prop extends Txt mg aM where
 g_INNER_KINDS:∃u,mg "INNER_KINDS"=some u∧aG (.ref aI) u
structure yt(mg:Str→Option Value)(aM:Addr)(K:PySem.W.Frag)(C cS:Addr):Prop extends Txt mg aM where
 c_ScoreError:∃u,mg "ScoreError"=some u∧aG (.ref cS) u
 kS:PySem.W.kitOne K (.ref C) (.ref cS)=some true
 kV:PySem.W.kitOne K (.ref C) (.type "ValueError")=some true
local macro_rules | `(tactic| walk_at "rd") => `(tactic| (try dsimp only [↓qh, ↓m8, ↓iD, ↓kG, ↓kM, ↓kN, ↓kO, ↓kP, ↓iG, ↓iH, zi, yH, jI, jU, mO, mM, tE, mK, tI, wQ, iw, qm, uF, mH, tC, yc, z7, wm, ye, wY, uL, zC, ko, uK, wo, x8, z4, yb, z3, z6, lZ, L2.start, List.map_cons, List.map_nil, List.length_cons, List.length_nil, List.replicate, List.cons_append, List.nil_append, List.set_cons_zero, List.set_cons_succ, qh, m8, iD, kG, kM, kN, kO, kP, iG, iH]) <;> (try simp only [↓qh, ↓m8, ↓iD, ↓kG, ↓kM, ↓kN, ↓kO, ↓kP, ↓iG, ↓iH, ↓itD, ↓itN, zi, yH, jI, jU, mO, mM, tE, mK, tI, wQ, iw, qm, uF, mH, yg, tC, yc, z7, wm, kr, ye, wY, uL, zC, ko, uK, wo, x8, z4, yb, nE, uO, zh, z3, z6, qq, lZ, zZ, zd, xh, wF, yC, oP, rI, rU, L2.start, nW, nX, iT, nU, nV, nY, nZ, n6, iU, sR, vh, sL, sP, sM, qN, qS, qO, qT, qM, qR, sQ, sJ, sO, sN, mC, List.map_cons, List.map_nil, List.length_cons, List.length_nil, List.replicate, List.cons_append, List.nil_append, List.append_nil, List.getElem?_cons_zero, List.getElem?_cons_succ, List.set_cons_zero, List.set_cons_succ, Option.some.injEq, xc, yA, sG, wD, wB, V.int.injEq, V.str.injEq, V.bl.injEq, V.ref.injEq, V.ty.injEq, List.cons.injEq, and_true, true_and, zx, wG, wH, tj, Ad, yL, yG, yK, wI, zR, yD, td, pF, zP, sS, sT, zQ, y8, pE, uH, ze, y9, uN, uG, qP, qU, qQ, qV, wk, uJ, zc, Int.zero_add, if_true, Bool.false_eq_true, if_false, cσ, List.getD_cons_zero, List.getD_cons_succ, wA, xa, yx, decide_eq_true_eq, reduceCtorEq, false_and, wC, false_or, or_false, yz, List.length_map, zg, zj, Ae, z5, sF, vi, Bool.not_eq_true', zO, ite_not, qh, m8, iD, kG, kM, kN, kO, kP, iG, iH]) <;> try simp only [qW, qK, qJ, vf, vg, j0, j3, sH, sI, qL, sG, wD, wB, wA, and_true, true_and, V.int.injEq, V.str.injEq, V.bl.injEq, V.ref.injEq, reduceCtorEq, false_and, wC, false_or, or_false])
local macro_rules | `(tactic| walk_at "flds") => `(tactic| simp only [eF, kY, String.reduceEq, if_false, if_true, List.lookup])
def kj:Sp:=fun vs H Q _=>∃z,vs=[.str z]∧z.length≤10000∧∀H',ar H H'→Q (.bl (mJ z.cps.toList)) H'
def b7(K:PySem.W.Frag):Sp:=fun vs H Q _=>∃(x C dx:Addr) (fs:List (Str×V)) (row:Str),vs=[.ref x,.str row]∧H x=some (.ins C dx fs)∧ky K C∧NoAttr K C "row"∧fs.length < 100∧Q .non (upd H x (.ins C dx (bc "row" (.str row) fs)))
def ji(n:Nat)(v:List V→V):Sp:=fun vs H Q _=>vs.length=n∧Q (v vs) H
def bx(K:PySem.W.Frag):Sp:=fun vs H Q _=>∃(r C dx:Addr) (fs:List (Str×V)) (row:Str),vs=[.ref r]∧H r=some (.ins C dx fs)∧ky K C∧NoAttr K C "row"∧fs.lookup (Str.ofString "row")=some (.str row)∧Q (.str row) H
def fi(K:PySem.W.Frag):Sp:=fun vs H Q _=>∃(q:Addr) (xs:List V) (j:Int),vs=[.ref q,.int j]∧aO K H q xs∧Q (.bl (decide (1≤(xs.length:Int) - j) && decide ((xs.length:Int) - j≤12))) H
def b6(K:PySem.W.Frag):Sp:=fun vs H Q _=>∃(q:Addr) (ns:List Int) (nv:Int),vs=[.ref q,.int nv]∧aO K H q (ns.map V.int)∧ns.length≤1000∧∀H',ar H H'→Q (.bl (ns.all fun n=>decide (1≤n) && decide (n≤nv))) H'
def gn(P:Program)(w:World)(K:PySem.W.Frag)(mg:Str→Option Value)(base:Heap)(aM:Addr)(k:Nat):Sp:=fun vs H Q _=>∃(row kind:Str) (ns:List Int) (nv:Int) (D:List (Str×V)) (f:Addr) (sp:Sp) (Res:V→Hp→Prop),vs=[.str row,.int nv]∧bP row kind ns∧gB K aM D∧KTD.datumAt kind D=some (.ref f)∧
 er P w K mg base k f ["row","numbers","voices"] sp∧(∀q H' Q',ar H H'→H' q=some (.lst (ns.map V.int))→(∀v H'',Res v H''→Q' v H'')→sp [.str row,.ref q,.int nv] H' Q' E0)∧∀v H',Res v H'→Q v H'
def uD(P:Program)(w:World)(K:PySem.W.Frag)(mg:Str→Option Value)(base:Heap)(aM:Addr)(k:Nat):Sp:=fun vs H Q _=>∃(row kind:Str) (ns:List Int) (nv z:Int) (D:List (Str×V)) (f:Addr) (sp:Sp) (Res:V→Hp→Prop),vs=[.str row,.int nv,.int z]∧bP row kind ns∧kind.cps.toList.head?≠some 101∧gB K aM D∧KTD.datumAt kind D=some (.ref f)∧
 er P w K mg base k f ["row","numbers","voices"] sp∧(∀q H' Q',ar H H'→H' q=some (.lst (ns.map V.int))→(∀v H'',Res v H''→Q' v H'')→sp [.str row,.ref q,.int nv] H' Q' E0)∧∀v H',Res v H'→v≠.non∧Q v H'
def mG(row:Str)(x1 x2:Int)(n:Addr):List (Str×V):=bc "numbers" (.ref n) (bc "second" (.int x2) (bc "first" (.int x1) (bc "row" (.str row) [])))
def iN(C:Addr)(row:Str)(x1 x2:Int)(D:List Int):kC:=fun r H=>∃(dx n:Addr),H r=some (.ins C dx (mG row x1 x2 n))∧H n=some (.lst (D.map V.int))
structure pN(K:PySem.W.Frag)(C:Addr):Prop where
 cl:ky K C
 n1:NoAttr K C "row"
 n2:NoAttr K C "first"
 n3:NoAttr K C "second"
 n4:NoAttr K C "numbers"
def fP(K:PySem.W.Frag)(C:Addr):Sp:=fun vs H Q _=>∃(x dx q:Addr) (row:Str) (x1 x2:Int) (D:List Int),vs=[.ref x,.str row,.int x1,.int x2,.ref q]∧H x=some (.ins C dx [])∧aO K H q (D.map V.int)∧D.length≤20∧
 ∀n H',H n=none→H'=upd (upd H n (.lst (D.map V.int))) x (.ins C dx (mG row x1 x2 n))→Q .non H'
def gq(K:PySem.W.Frag)(C:Addr):Sp:=fun vs H Q _=>∃(q:Addr) (row:Str) (x1 x2:Int) (D:List Int) (nv:Int),vs=[.str row,.ref q,.int nv]∧aO K H q ((x1::x2::D).map V.int)∧1≤x1∧x1≤nv∧1≤x2∧x2≤nv∧1≤D.length∧D.length≤12∧
 ∀r H',ar H H'→iN C row x1 x2 D r H'→Q (.ref r) H'
def zB(a b:Int)(D:List Int):ik:=⟨1,0,fun m _ us=>if di us b - di us a∈D then some m else none,fun _ _=>true⟩
def eD(row:Str)(x1:Int)(n:Addr):List (Str×V):=bc "numbers" (.ref n) (bc "voice" (.int x1) (bc "row" (.str row) []))
def gy(C:Addr)(row:Str)(x1:Int)(D:List Int):kC:=fun r H=>∃(dx n:Addr),H r=some (.ins C dx (eD row x1 n))∧H n=some (.lst (D.map V.int))
structure iz(K:PySem.W.Frag)(C:Addr):Prop where
 cl:ky K C
 n1:NoAttr K C "row"
 n2:NoAttr K C "voice"
 n3:NoAttr K C "numbers"
def fO(K:PySem.W.Frag)(C:Addr):Sp:=fun vs H Q _=>∃(x dx q:Addr) (row:Str) (x1:Int) (D:List Int),vs=[.ref x,.str row,.int x1,.ref q]∧H x=some (.ins C dx [])∧aO K H q (D.map V.int)∧D.length≤20∧
 ∀n H',H n=none→H'=upd (upd H n (.lst (D.map V.int))) x (.ins C dx (eD row x1 n))→Q .non H'
def gm(K:PySem.W.Frag)(C:Addr):Sp:=fun vs H Q _=>∃(q:Addr) (row:Str) (x1:Int) (D:List Int) (nv:Int),vs=[.str row,.ref q,.int nv]∧aO K H q ((x1::D).map V.int)∧1≤x1∧x1≤nv∧1≤D.length∧D.length≤12∧
 ∀r H',ar H H'→gy C row x1 D r H'→Q (.ref r) H'
def zA(x1:Int)(D:List Int):ik:=⟨1,0,fun m b us=>match b with | none=>some m | some bs=>if di us x1 - di bs x1∈D then some m else none,fun _ _=>true⟩
def eC(row:Str)(x1 x2:Int):List (Str×V):=(bc "widest" (.int x2) (bc "voice" (.int x1) (bc "row" (.str row) [])))
def gx(C:Addr)(row:Str)(x1 x2:Int):kC:=fun r H=>∃(dx:Addr),H r=some (.ins C dx (eC row x1 x2))
structure iy(K:PySem.W.Frag)(C:Addr):Prop where
 cl:ky K C
 n1:NoAttr K C "row"
 n2:NoAttr K C "voice"
 n3:NoAttr K C "widest"
def fM(K:PySem.W.Frag)(C:Addr):Sp:=fun vs H Q _=>∃(x dx:Addr) (row:Str) (x1 x2:Int),vs=[.ref x,.str row,.int x1,.int x2]∧H x=some (.ins C dx [])∧Q .non (upd H x (.ins C dx (eC row x1 x2)))
def gj(K:PySem.W.Frag)(C:Addr):Sp:=fun vs H Q _=>∃(q:Addr) (row:Str) (x1 x2:Int) (nv:Int),vs=[.str row,.ref q,.int nv]∧aO K H q ([x1,x2].map V.int)∧1≤x1∧x1≤nv∧0≤x2∧
 ∀r H',ar H H'→gx C row x1 x2 r H'→Q (.ref r) H'
def zy(x1 x2:Int):ik:=⟨3,0,fun m b us=>match b with | none=>some 0 | some bs=>if (m=1∧0≤di us x1 - di bs x1)∨(m=2∧di us x1 - di bs x1≤0)then none else if di us x1 - di bs x1 > x2 then some 1 else if di us x1 - di bs x1 < 0 - x2 then some 2 else some 0,fun m _=>decide (m=0)⟩
def de(row:Str)(x1 x2:Int):List (Str×V):=(bc "most" (.int x2) (bc "voice" (.int x1) (bc "row" (.str row) [])))
def d0(C:Addr)(row:Str)(x1 x2:Int):kC:=fun r H=>∃(dx:Addr),H r=some (.ins C dx (de row x1 x2))
structure fQ(K:PySem.W.Frag)(C:Addr):Prop where
 cl:ky K C
 n1:NoAttr K C "row"
 n2:NoAttr K C "voice"
 n3:NoAttr K C "most"
def fN(K:PySem.W.Frag)(C:Addr):Sp:=fun vs H Q _=>∃(x dx:Addr) (row:Str) (x1 x2:Int),vs=[.ref x,.str row,.int x1,.int x2]∧H x=some (.ins C dx [])∧Q .non (upd H x (.ins C dx (de row x1 x2)))
def gk(K:PySem.W.Frag)(C:Addr):Sp:=fun vs H Q _=>∃(q:Addr) (row:Str) (x1 x2:Int) (nv:Int),vs=[.str row,.ref q,.int nv]∧aO K H q ([x1,x2].map V.int)∧1≤x1∧x1≤nv∧1≤x2∧
 ∀r H',ar H H'→d0 C row x1 x2 r H'→Q (.ref r) H'
def zz(x1 x2:Int):ik:=⟨x2,0,fun m b us=>match b with | none=>some 0 | some bs=>if di bs x1=di us x1 then(if m+1 < x2 then some (m+1)else none)else some 0,fun _ _=>true⟩
def Ab(x2 m:Int):Prop:=0≤m∧m < x2
def cI(row:Str)(x1 x2 x3 x4:Int):List (Str×V):=(bc "most" (.int x4) (bc "fewest" (.int x3) (bc "note" (.int x2) (bc "voice" (.int x1) (bc "row" (.str row) [])))))
def c6(C:Addr)(row:Str)(x1 x2 x3 x4:Int):kC:=fun r H=>∃(dx:Addr),H r=some (.ins C dx (cI row x1 x2 x3 x4))
structure eo(K:PySem.W.Frag)(C:Addr):Prop where
 cl:ky K C
 n1:NoAttr K C "row"
 n2:NoAttr K C "voice"
 n3:NoAttr K C "note"
 n4:NoAttr K C "fewest"
 n5:NoAttr K C "most"
def eZ(K:PySem.W.Frag)(C:Addr):Sp:=fun vs H Q _=>∃(x dx:Addr) (row:Str) (x1 x2 x3 x4:Int),vs=[.ref x,.str row,.int x1,.int x2,.int x3,.int x4]∧H x=some (.ins C dx [])∧Q .non (upd H x (.ins C dx (cI row x1 x2 x3 x4)))
def fj(K:PySem.W.Frag)(C:Addr):Sp:=fun vs H Q _=>∃(q:Addr) (row:Str) (x1 x2 x3 x4:Int) (nv:Int),vs=[.str row,.ref q,.int nv]∧aO K H q ([x1,x2,x3,x4].map V.int)∧1≤x1∧x1≤nv∧0≤x3∧0≤x4∧
 ∀r H',ar H H'→c6 C row x1 x2 x3 x4 r H'→Q (.ref r) H'
def zb(x1 x2 x3 x4:Int):ik:=⟨x4+1,0,fun m _ us=>if di us x1=x2 then(if m < x4 then some (m+1)else none)else some m,fun m _=>decide (m≥x3)⟩
def Ac(x4 m:Int):Prop:=0≤m∧m≤x4
def cz(row:Str)(t u:Int)(ri:Addr):List (Str×V):=bc "inner" (.ref ri) (bc "turn" (.int u) (bc "turns" (.int t) (bc "row" (.str row) [])))
def dv(C:Addr)(row:Str)(t u:Int)(RIn:kC):kC:=fun r H=>∃(dx ri:Addr),H r=some (.ins C dx (cz row t u ri))∧RIn ri H
structure eh(K:PySem.W.Frag)(C:Addr):Prop where
 cl:ky K C
 n1:NoAttr K C "row"
 n2:NoAttr K C "turns"
 n3:NoAttr K C "turn"
 n4:NoAttr K C "inner"
def eW(K:PySem.W.Frag)(C:Addr):Sp:=fun vs H Q _=>∃(x dx ri:Addr) (row:Str) (t u:Int),vs=[.ref x,.str row,.int t,.int u,.ref ri]∧H x=some (.ins C dx [])∧Q .non (upd H x (.ins C dx (cz row t u ri)))
def za(t u:Int)(S:ik):ik:=⟨t,0,fun m b us=>if m=u then(if S.after S.start b us=none then none else some ((m+1) % t))else some ((m+1) % t),fun _ _=>true⟩
def Aa(t m:Int):Prop:=0≤m∧m < t
def iK(P:Program)(w:World)(K:PySem.W.Frag)(mg:Str→Option Value)(base:Heap)(aM C:Addr)(k:Nat):Sp:=fun vs H Q _=>∃(row rest kind:Str) (t u:Int) (ns:List Int) (nv:Int) (D:List (Str×V)) (f:Addr) (sp:Sp) (RIn:kC),vs=[.str row,.int nv]∧gA row rest t u∧bP rest kind ns∧(kind=Str.ofString "span"∨kind=Str.ofString "clock")∧0≤u∧u < t∧gB K aM D∧KTD.datumAt kind D=some (.ref f)∧
 er P w K mg base k f ["row","numbers","voices"] sp∧(∀q H' Q',ar H H'→H' q=some (.lst (ns.map V.int))→(∀ri H'',ar H H''→RIn ri H''→Q' (.ref ri) H'')→sp [.str rest,.ref q,.int nv] H' Q' E0)∧(∀r H H',ar H H'→RIn r H→RIn r H')∧∀r H',ar H H'→dv C row t u RIn r H'→Q (.ref r) H'
def qk(P:Program)(w:World)(K:PySem.W.Frag)(mg:Str→Option Value)(base:Heap)(aM C:Addr)(k:Nat):Sp:=fun vs H Q E=>∃(row:Str) (nv z:Int),vs=[.str row,.int nv,.int z]∧(∃rest t u,gA row rest t u)∧iK P w K mg base aM C k [.str row,.int nv] H (fun v H'=>v≠.non∧Q v H') E
def hW:Sp:=fun vs H Q _=>∃c p,vs=[.int c,.int p]∧∀H',ar H H'→Q (.int (GM.stirF c p)) H'
def nu(K:PySem.W.Frag):Sp:=fun vs H Q _=>∃a ns p,vs=[.ref a,.int p]∧aO K H a (ns.map V.int)∧(∀x∈ns,x.natAbs < 2 ^ GB)∧0≤p∧p≤1000∧∀H',ar H H'→Q (.int (GM.gotF ns p)) H'
def lT(K:PySem.W.Frag):Sp:=fun vs H Q _=>∃a ns lo hi,vs=[.ref a,.int lo,.int hi]∧aO K H a (ns.map V.int)∧(∀x∈ns,x.natAbs < 2 ^ GB)∧ns.length≤63∧0≤lo∧lo≤100∧0≤hi∧hi≤100∧
 ∀q H',H' q=some (.lst ((GM.cellsF ns lo hi).map V.int))→ar H H'→Q (.ref q) H'
theorem il:bootBuiltins "ValueError"=some (.type "ValueError"):=PyProof.Rows.Boot.«ValueError»
theorem fB:typeLookup (.type "ValueError") "weight"=pure none:=by rw [typeLookup_type,builtinLookup_eq_fast];kernel_rfl
abbrev zU:List Str:=["__setattr__","__getattribute__","__getattr__","__class__","weight"]
section
variable {P:Program} {w:World} {K:PySem.W.Frag} {mg:Str→Option Value} {base:Heap} {aM:Addr}
theorem rE{f:Addr}{fd:FuncData}(F:cR K "is_number" "is_number" eU f fd)(T:Txt mg aM):aE P w K mg base b8 1 f fd ["word"] kj:=by
 refine F.ok sc_is_number (fun vs H Q E h=>?_) (fun cdv A outer s H vs Q E hr h=>?_)
 ·obtain⟨z,rfl,_⟩:=h
  rfl
 obtain⟨z,rfl,hz,k⟩:=h
 refine⟨_,(ag (ay (i:=1) sc_is_number.nd rfl (Or.inl rfl) (eO (aQ (bH K PySem.F.plainAttrs_str PySem.F.slot_str_startswith PySem.F.type_str_startswith dD (pr 0) (aa aT ah)) (fun _=>rfl)) (bB (g9 K) (pr 0) (gc af) cu) (pr 0)))
 (ag (ba (PW.pt (bE (bj (aB sj (pr 1) aT (aD _))) (bS (bj (aB (o0 p6) (ax (aS K) (by rfl) T.n_len boot_len (aa (pr 1) ah)) (jJ T.g_MOST_FIGURES) (aD _)))))) (aj (aw eL)) aL)
 (ag (ba (bC (aQ (ax (e7 K rfl) (by rfl) T.n_all boot_all (aa (dz (own:=["sign"]) (js:=[]) rfl (bI K (pr 1)) (aZ.of (by rfl)) (fun _ _ _ _ _=>(aF (i:=0) (show List.Nodup (["sign"]:List Str)from by decide +kernel) rfl (Or.inl rfl))) (fun _ _ _ _ _=>cD) (fun _ _ _ _ _=>(gb (yQ K) (pr 0) (jJ T.g_FIGURES) (by with_unfolding_all rfl)))) ah)) (fun _=>rfl))) (aj (aw eL)) aL)
 (aj (aw (yY (y0 (gb tP (aX (bR K) (pr 1) af (fun _ _=>rfl)) aT (aD _)) (oJ (gb sj (pr 0) aT (aD _)))))))))),?_⟩
 have hs:sizeLine=16777216:=sizeLine_eq
 have c0:(Str.ofString "").cps.toList=[]:=by decide +kernel
 have c45:(Str.ofString "-")=⟨#[45]⟩:=by decide +kernel
 have c48:(Str.ofString "0").cps.toList=[48]:=by decide +kernel
 have cF:(Str.ofString "0123456789").cps.toList=[48,49,50,51,52,53,54,55,56,57]:=by decide +kernel
 refine aV (fun σ H'=>∃y,σ=[some (.str z),some (.str y)]∧H=H'∧y.cps.toList=dS z.cps.toList) ?_ ?_
 ·rintro _ _ ⟨y,rfl,rfl,hy⟩
  have hyl:y.length≤10000:=by
   rw [aN,hy]
   rw [aN]at hz
   refine Nat.le_trans ?_ hz
   unfold dS
   split
   ·rw [List.length_tail];omega
   ·exact Nat.le_refl _
  walk_at "rd"
  have hk:=k
  rw [om,←hy,←aN]at hk
  have q0:=hk H (ar.refl H)
  by_cases h1:y=Str.ofString ""
  ·rw [if_pos h1]
   rw [if_pos (Or.inl (by rw [h1,c0]))]at q0
   exact q0
  rw [if_neg h1]
  refine⟨by omega,?_⟩
  by_cases h2:(40:Int) < y.length
  ·rw [if_pos h2]
   rw [if_pos (Or.inr (by omega))]at q0
   exact q0
  rw [if_neg h2]
  have h3:¬(y.cps.toList=[]∨40 < y.length):=by
   rintro(e | e)
   ·exact h1 (str_iff.mpr (by rw [e,c0]))
   ·omega
  rw [if_neg h3]at hk
  have e0:y.cps.toList≠[]:=fun e=>h3 (Or.inl e)
  refine v5 (qF (fun i ys H'=>ys=(y.cps.toList.take i).map (fun c=>V.bl (decide (c∈[48,49,50,51,52,53,54,55,56,57])))∧H=H') (by omega) ⟨rfl,rfl⟩ ?_ ?_ ?_)
  ·rintro i ys H' ⟨rfl,rfl⟩
   rw [List.length_map,List.length_take]
   omega
  ·rintro i c ys H' hc ⟨rfl,rfl⟩
   walk_at "rd"
   rw [cF,List.take_add_one,hc]
   simp
  ·rintro ys H' ⟨rfl,rfl⟩ p hp
   rw [aN,List.take_length]
   refine⟨y.cps.toList.map (fun c=>decide (c∈[48,49,50,51,52,53,54,55,56,57])),aO.of (by rw [ae,List.map_map];rfl),?_⟩
   have ed:(List.map (fun c=>decide (c∈[48,49,50,51,52,53,54,55,56,57])) y.cps.toList).all id=mz y.cps.toList:=by
    unfold mz
    rw [List.all_map]
    rfl
   have q1:=hk _ (au (o:=.lst ((y.cps.toList.take y.cps.toList.length).map (fun c=>V.bl (decide (c∈[48,49,50,51,52,53,54,55,56,57]))))) hp)
   rw [List.take_length]at q1
   rw [ed]
   by_cases h4:mz y.cps.toList=false
   ·rw [if_pos h4]
    rw [if_pos h4]at q1
    exact q1
   rw [if_neg h4]
   rw [if_neg h4]at q1
   refine⟨by rw [←aN];omega,?_⟩
   cases hh:y.cps.toList with
   | nil=>exact absurd hh e0
   | cons a l=>
    rw [hh]at q1
    refine⟨a,bA rfl,?_⟩
    by_cases ha:a=48
    ·subst ha
     rw [if_pos (str_iff.mpr (by rw [c48])),gu,c48]
     simpa using q1
    ·rw [if_neg (fun e=>ha (by have:=str_iff.mp e;rw [c48]at this;simpa using this))]
     simpa [ha]using q1
 ·intro u' hu
  walk_at "rd"
  rw [c45,pB]
  by_cases h1:z.cps.toList.head?=some 45
  ·rw [if_pos (by simpa using h1)]
   exact⟨by omega,hu _ _ ⟨_,rfl,rfl,by rw [pb (by decide)];unfold dS;rw [if_pos h1];simp⟩⟩
  ·rw [if_neg (by simpa using h1)]
   exact hu _ _ ⟨_,rfl,rfl,by unfold dS;rw [if_neg h1]⟩
theorem ll{f:Addr}{fd:FuncData}(F:cR K "__init__" "Rule.__init__" c2 f fd):aE P w K mg base b8 1 f fd ["self","row"] (b7 K):=by
 refine F.ok g7 (fun vs H Q E h=>?_) (fun cdv A outer s H vs Q E hr h=>?_)
 ·obtain⟨x,C,dx,fs,row,rfl,_⟩:=h
  rfl
 obtain⟨x,C,dx,fs,row,rfl,hx,cl,na,hl,k⟩:=h
 refine⟨_,(aj (bJ (pr 0) (pr 1) rfl)),?_⟩
 walk_at "rd"
 exact⟨C,dx,fs,hx,cl,na,by omega,k⟩
theorem lp{f:Addr}{fd:FuncData}(F:cR K "size" "Rule.size" eT f fd):aE P w K mg base b8 1 f fd ["self"] (ji 1 fun _=>.int 1):=by
 refine F.ok lP (fun vs H Q E h=>h.1) (fun cdv A outer s H vs Q E hr h=>?_)
 obtain⟨hl,k⟩:=h
 match vs,hl with
 | [a],_=>
 refine⟨_,(aj (aw af)),?_⟩
 walk_at "rd"
 exact k
theorem ck{f:Addr}{fd:FuncData}(F:cR K "shown" "Rule.shown" bL f fd):aE P w K mg base b8 1 f fd ["self"] (bx K):=by
 refine F.ok jL (fun vs H Q E h=>?_) (fun cdv A outer s H vs Q E hr h=>?_)
 ·obtain⟨r,C,dx,fs,row,rfl,_⟩:=h
  rfl
 obtain⟨r,C,dx,fs,row,rfl,h1,h2,h3,h4,q⟩:=h
 refine⟨_,(aj (aw (dm (pr 0) rfl))),?_⟩
 walk_at "rd"
 exact⟨C,dx,fs,h1,h2,h3,_,h4,q⟩
theorem mV{f:Addr}{fd:FuncData}(F:cR K "has_list" "has_list" fH f fd)(T:Txt mg aM):aE P w K mg base b8 1 f fd ["numbers","ahead"] (fi K):=by
 refine F.ok nk (fun vs H Q E h=>?_) (fun cdv A outer s H vs Q E hr h=>?_)
 ·obtain⟨q,xs,j,rfl,_⟩:=h
  rfl
 obtain⟨q,xs,j,rfl,hq,k⟩:=h
 refine⟨_,(aj (aw (mX (o0 i9) (o0 i9) af (ao (o0 dG) (ax (aS K) (by rfl) T.n_len boot_len (aa (pr 0) ah)) (pr 1)) (jJ T.g_MOST_NUMBERS)))),?_⟩
 walk_at "rd"
 refine⟨xs,.inl hq,?_⟩
 walk_at "rd"
 by_cases h1:(1:Int)≤(xs.length:Int) - j
 ·rw [if_pos h1]
  rw [decide_eq_true h1,Bool.true_and]at k
  exact k
 ·rw [if_neg h1]
  rw [decide_eq_false h1,Bool.false_and]at k
  exact k
theorem jC{f:Addr}{fd:FuncData}(F:cR K "are_voices" "are_voices" d4 f fd)(T:Txt mg aM):aE P w K mg base b8 1 f fd ["numbers","voices"] (b6 K):=by
 refine F.ok jN (fun vs H Q E h=>?_) (fun cdv A outer s H vs Q E hr h=>?_)
 ·obtain⟨q,ns,nv,rfl,_⟩:=h
  rfl
 obtain⟨q,ns,nv,rfl,hq,hl,k⟩:=h
 refine⟨_,(aj (aw (ax (e7 K rfl) (by rfl) T.n_all boot_all (aa (dz (own:=["number"]) (js:=[1]) rfl (bI K (pr 0)) (aZ.of (by rfl)) (fun _ _ _ _ _=>(aF (i:=0) (show List.Nodup (["number","voices"]:List Str)from by decide +kernel) rfl (Or.inl rfl))) (fun _ _ _ _ _=>cD) (fun _ _ _ _ _=>(mX (o0 i9) (o0 i9) af (pr 0) (pr 1)))) ah)))),?_⟩
 walk_at "rd"
 have hs:sizeLine=16777216:=sizeLine_eq
 refine bK hq (cv (xs:=ns.map V.int) (fun i ys H'=>ys=((ns.take i).map fun n=>decide (1≤n) && decide (n≤nv)).map V.bl∧H=H') (by rw [List.length_map];omega) ⟨rfl,rfl⟩ ?_ ?_ ?_ ?_)
 ·rintro i ys H' ⟨rfl,rfl⟩
  rw [List.length_map,List.length_map,List.length_take]
  omega
 ·rintro i ys H' ⟨rfl,rfl⟩
  exact hq
 ·rintro i x ys H' hx ⟨rfl,rfl⟩
  rw [List.getElem?_map]at hx
  cases hn:ns[i]? with
  | none=>rw [hn]at hx;cases hx
  | some n=>
   rw [hn]at hx
   cases hx
   walk_at "rd"
   rw [List.take_add_one,hn]
   by_cases h1:(1:Int)≤n
   ·rw [if_pos h1]
    simp [h1]
   ·rw [if_neg h1]
    simp [h1]
 ·rintro ys H' ⟨rfl,rfl⟩ p hp
  refine⟨_,aO.of ae,?_⟩
  rw [List.all_map,List.length_map,List.take_length]
  exact k _ (au hp)
theorem jF{f:Addr}{fd:FuncData}(F:cR K "plain_rule" "plain_rule" d8 f fd)(T:Txt mg aM)(D_is_number:cE P w K mg base "is_number" 7 ["word"] kj):aE P w K mg base b8 8 f fd ["row","voices"] (gn P w K mg base aM 7):=by
 refine F.ok sc_plain_rule (fun vs H Q E h=>?_) (fun cdv A outer s H vs Q E hr h=>?_)
 ·obtain⟨row,kind,ns,nv,D,f,sp,Res,rfl,_⟩:=h
  rfl
 obtain⟨row,kind,ns,nv,D,g,sp,Res,rfl,R,tab,hg,fn,k,kq⟩:=h
 refine⟨_,(ag (ay (i:=2) sc_plain_rule.nd rfl (Or.inl rfl) (bH K PySem.F.plainAttrs_str PySem.F.slot_str_split PySem.F.type_str_split fX (pr 0) (aa aT ah)))
 (ag (ba (PW.pt (bE (bj (aB (oG K) (aX (bR K) (pr 2) af (fun _ _=>rfl)) (jJ T.g_MAKERS) (by with_unfolding_all rfl))) (bS (bC (aQ (ax (e7 K rfl) (by rfl) T.n_all boot_all (aa (dz (own:=["word"]) (js:=[]) rfl (bI K (bB (g9 K) (pr 2) (gc af) cu)) (aZ.of (by rfl)) (fun _ _ _ _ _=>(aF (i:=0) (show List.Nodup (["word"]:List Str)from by decide +kernel) rfl (Or.inl rfl))) (fun _ _ _ _ _=>cD) (fun _ _ _ _ _=>(aK D_is_number hr (by rfl) (aa (pr 0) ah)))) ah)) (fun _=>rfl)))))) (aj (aw bh)) aL)
 (aj (aw (t5 P w K mg base hr (t6 K (jJ T.g_MAKERS) (aX (bR K) (pr 2) af (fun _ _=>rfl)) (fun _ _=>rfl)) (aa (pr 0) (aa (dz (own:=["word"]) (js:=[]) rfl (bI K (bB (g9 K) (pr 2) (gc af) cu)) (aZ.of (by rfl)) (fun _ _ _ _ _=>(aF (i:=0) (show List.Nodup (["word"]:List Str)from by decide +kernel) rfl (Or.inl rfl))) (fun _ _ _ _ _=>cD) (fun _ _ _ _ _=>(aJ (dQ) (by rfl) T.n_int boot_int (aa (pr 0) ah)))) (aa (pr 1) ah)))))))),?_⟩
 walk_at "rd"
 have hs:sizeLine=16777216:=sizeLine_eq
 have hl:=R.len
 have hnl:=R.nl
 refine⟨32,by decide +kernel,by decide,by omega,fun p hp=>?_⟩
 rw [R.split]
 have sp0:ar H (upd H p (.lst ((kind::ns.map aP).map V.str))):=au hp
 generalize hH0:upd H p (.lst ((kind::ns.map aP).map V.str))=H0 at sp0
 have hp0:H0 p=some (.lst ((kind::ns.map aP).map V.str)):=by rw [←hH0,ae]
 refine bf (aO.of hp0) (bA rfl) ⟨kind,rfl,D,tab,?_⟩
 rw [hg]
 walk_at "rd"
 refine cX (aO.of hp0) fun q hq=>?_
 rw [show(some (1:Int))=some ((1:Nat):Int)from rfl,c9]
 show v3 _ _ _ _
 have s1:ar H0 (upd H0 q (.lst ((ns.map aP).map V.str))):=au hq
 refine bK (xs:=(ns.map aP).map V.str) (aO.of ae) (cv (xs:=(ns.map aP).map V.str) (fun i ys H'=>ys=(List.replicate i true).map V.bl∧ar (upd H0 q (.lst ((ns.map aP).map V.str))) H') (by simp;omega) ⟨rfl,ar.refl _⟩ ?_ ?_ ?_ ?_)
 ·rintro i ys H' ⟨rfl,sm⟩
  simp
 ·rintro i ys H' ⟨rfl,sm⟩
  exact sm.seq (aO.of ae)
 ·rintro i x ys H' hx ⟨rfl,sm⟩
  obtain⟨n,hn,rfl⟩:∃n∈ns,x=.str (aP n):=by
   have:=List.mem_of_getElem? hx
   simp only [List.map_map,List.mem_map,Function.comp_apply]at this
   obtain⟨n,hn,e⟩:=this
   exact⟨n,hn,e.symm⟩
  walk_at "rd"
  refine⟨aP n,rfl,?_,fun H1 s1=>⟨?_,sm.trans s1⟩⟩
  ·rw [aN]
   have:=dj (n:=n) (k:=40) (by decide) (R.nb n hn)
   show(cM n).length≤_
   omega
  ·show _=(List.replicate (i+1) true).map V.bl
   rw [show(aP n).cps.toList=cM n from rfl,gK (R.nb n hn),List.replicate_succ',List.map_append]
   rfl
 rintro ys H1 ⟨rfl,sm⟩ p1 hp1
 simp only [List.length_map]
 refine⟨_,aO.of ae,?_⟩
 rw [show(List.replicate ns.length true).all id=true by simp]
 walk_at "rd"
 have s2:ar H0 (upd H1 p1 (.lst ((List.replicate ns.length true).map V.bl))):=(s1.trans sm).upd hp1
 generalize upd H1 p1 (.lst ((List.replicate ns.length true).map V.bl))=H2 at s2
 have hp2:=s2 _ _ hp0
 refine bf (aO.of hp2) (bA rfl) ⟨kind,rfl,D,tab,_,hg,g,rfl,_,_,fn,?_⟩
 refine cX (aO.of hp2) fun q2 hq2=>?_
 rw [c9]
 show v3 _ _ _ _
 have s3:ar H0 (upd H2 q2 (.lst ((ns.map aP).map V.str))):=s2.upd hq2
 refine bK (xs:=(ns.map aP).map V.str) (aO.of ae) (cv (xs:=(ns.map aP).map V.str) (fun i ys H'=>ys=(ns.take i).map V.int∧upd H2 q2 (.lst ((ns.map aP).map V.str))=H') (by simp;omega) ⟨rfl,rfl⟩ ?_ ?_ ?_ ?_)
 ·rintro i ys H' ⟨rfl,rfl⟩
  rw [List.length_map,List.length_take]
  omega
 ·rintro i ys H' ⟨rfl,rfl⟩
  exact aO.of ae
 ·rintro i x ys H' hx ⟨rfl,rfl⟩
  cases hn:ns[i]? with
  | none=>rw [List.getElem?_map,List.getElem?_map,hn]at hx;cases hx
  | some n=>
   rw [List.getElem?_map,List.getElem?_map,hn]at hx
   cases hx
   have hb:=R.nb n (List.mem_of_getElem? hn)
   walk_at "rd"
   refine⟨n,iF (Nat.lt_of_lt_of_le hb (Nat.pow_le_pow_right (by decide) (by decide))),?_,?_⟩
   ·rw [aN]
    have:=dj (n:=n) (k:=40) (by decide) hb
    show(cM n).length≤_
    omega
   ·rw [List.take_add_one,hn,List.map_append]
    rfl
 rintro ys H3 ⟨rfl,rfl⟩ p3 hp3
 refine k p3 _ _ (sp0.trans (s3.upd hp3)) ?_ kq
 rw [ae,List.length_map,List.length_map,List.take_length]
theorem lq{f C:Addr}{fd:FuncData}(F:cR K "__init__" "Span.__init__" c3 f fd)(T:Txt mg aM)(TC:pN K C)(DC_Rule___init__:kz P w K mg base "Rule" "__init__" 1 ["self","row"] (b7 K)):aE P w K mg base b8 2 f fd ["self","row","first","second","numbers"] (fP K C):=by
 refine F.ok g8 (fun vs H Q E h=>?_) (fun cdv A outer s H vs Q E hr h=>?_)
 ·obtain⟨x,dx,q,row,x1,x2,D,rfl,_⟩:=h
  rfl
 obtain⟨x,dx,q,row,x1,x2,D,rfl,hx,hq,hl,k⟩:=h
 refine⟨_,(ag (bw (dW DC_Rule___init__ hr (by rfl) (aa (pr 0) (aa (pr 1) ah))))
 (ag (bJ (pr 0) (pr 2) rfl)
 (ag (bJ (pr 0) (pr 3) rfl)
 (aj (bJ (pr 0) (aJ (cH K) (by rfl) T.n_list boot_list (aa (pr 4) ah)) rfl))))),?_⟩
 walk_at "rd"
 have ln:∀(f:Str) (v:V) (l:List (Str×V)) (n:Nat),l.length≤n→(bc f v l).length≤n+1:=fun f v l n h=>Nat.le_trans (bt f v l) (Nat.succ_le_succ h)
 refine⟨x,C,dx,[],row,rfl,hx,TC.cl,TC.n1,by decide,?_⟩
 refine⟨C,dx,_,ae,TC.cl,TC.n2,Nat.lt_of_le_of_lt (ln _ _ _ _ (Nat.zero_le 0)) (by decide),C,dx,_,ae,TC.cl,TC.n3,Nat.lt_of_le_of_lt (ln _ _ _ _ (ln _ _ _ _ (Nat.zero_le 0))) (by decide),D.map V.int,.inl (((hq.at_ins hx).at_ins ae).at_ins ae),fun n hn=>?_⟩
 have nx:n≠x:=fun e=>by subst e;rw [ae]at hn;cases hn
 rw [ai nx,ai nx,ai nx]at hn
 refine⟨C,dx,_,by rw [ai (Ne.symm nx),ae],TC.cl,TC.n4,Nat.lt_of_le_of_lt (ln _ _ _ _ (ln _ _ _ _ (ln _ _ _ _ (Nat.zero_le 0)))) (by decide),?_⟩
 refine k n _ hn ?_
 rw [bX,bX,jm]
 rfl
theorem oE{f C:Addr}{fd:FuncData}(F:cR K "span_of" "span_of" gY f fd)(T:Txt mg aM)(D_has_list:cE P w K mg base "has_list" 3 ["numbers","ahead"] (fi K))(D_are_voices:cE P w K mg base "are_voices" 3 ["numbers","voices"] (b6 K))(DM_Span:dP P w K mg base "Span" C 2 ["self","row","first","second","numbers"] (fP K C)):aE P w K mg base b8 4 f fd ["row","numbers","voices"] (gq K C):=by
 refine F.ok oY (fun vs H Q E h=>?_) (fun cdv A outer s H vs Q E hr h=>?_)
 ·obtain⟨q,row,x1,x2,D,nv,rfl,_⟩:=h
  rfl
 obtain⟨q,row,x1,x2,D,nv,rfl,hq,x1_1,x1_2,x2_1,x2_2,l1,l2,k⟩:=h
 refine⟨_,(ag (ba (PW.pt (bE (bC (aQ (aK D_has_list hr (by rfl) (aa (pr 1) (aa af ah))) (fun _=>rfl))) (bS (bC (aQ (aK D_are_voices hr (by rfl) (aa (bB (g9 K) (pr 1) cu (gc af)) (aa (pr 2) ah))) (fun _=>rfl)))))) (aj (aw bh)) aL)
 (aj (aw (ig DM_Span hr (by rfl) (aa (pr 0) (aa (aX (bR K) (pr 1) af (fun _ _=>rfl)) (aa (aX (bR K) (pr 1) af (fun _ _=>rfl)) (aa (bB (g9 K) (pr 1) (gc af) cu) ah)))))))),?_⟩
 walk_at "rd"
 have hs:sizeLine=16777216:=sizeLine_eq
 refine⟨q,_,2,rfl,hq,?_⟩
 rw [show(decide (1≤(((x1::x2::D).map V.int).length:Int) - 2) && decide ((((x1::x2::D).map V.int).length:Int) - 2≤12))=true by simp;omega]
 walk_at "rd"
 refine cX hq fun q1 hq1=>?_
 rw [show(some (2:Int))=some ((2:Nat):Int)from rfl,fV]
 have s1:ar H (upd H q1 (.lst ((((x1::x2::D).map V.int)).take 2))):=au hq1
 refine⟨q1,[x1,x2],nv,rfl,aO.of ae,by simp,fun H1 s2=>?_⟩
 rw [show([x1,x2].all fun n=>decide (1≤n) && decide (n≤nv))=true by simp;omega]
 walk_at "rd"
 have s3:=s1.trans s2
 have hq3:=s3.seq hq
 refine bf hq3 (bA rfl) (bf hq3 (show et _ ((1:Nat):Int)=_ from aU rfl) (cX hq3 fun q2 hq2=>?_))
 rw [c9]
 show ∀x dx:Addr,_
 intro x dx hx hdx hne
 have s4:ar H (upd H1 q2 (.lst (((x1::x2::D).map V.int).drop 2))):=s3.upd hq2
 have hq2':(upd H1 q2 (.lst (((x1::x2::D).map V.int).drop 2))) q2=some (.lst (D.map V.int)):=ae
 generalize upd H1 q2 (.lst (((x1::x2::D).map V.int).drop 2))=H2 at s4 hx hdx hq2'
 have s5:ar H (upd (upd H2 dx (.own x)) x (.ins C dx [])):=(s4.upd hdx).upd (by rw [ai (Ne.symm hne)];exact hx)
 have hq5:(upd (upd H2 dx (.own x)) x (.ins C dx [])) q2=some (.lst (D.map V.int)):=by
  rw [ai (aq hq2' hx),ai (aq hq2' hdx)]
  exact hq2'
 refine⟨x,dx,q2,row,x1,x2,D,rfl,ae,aO.of hq5,by omega,fun n H3 hn e=>⟨rfl,?_⟩⟩
 subst e
 have nx:n≠x:=fun z=>by subst z;rw [ae]at hn;cases hn
 refine k x _ ?_ ⟨dx,n,ae,by rw [ai nx,ae]⟩
 intro c o hc
 have n1:c≠x:=aq (s4 _ _ hc) hx
 rw [ai n1,ai (aq (s5 _ _ hc) hn)]
 exact s5 _ _ hc
theorem lj{f C:Addr}{fd:FuncData}(F:cR K "__init__" "Move.__init__" c1 f fd)(T:Txt mg aM)(TC:iz K C)(DC_Rule___init__:kz P w K mg base "Rule" "__init__" 1 ["self","row"] (b7 K)):aE P w K mg base b8 2 f fd ["self","row","voice","numbers"] (fO K C):=by
 refine F.ok g6 (fun vs H Q E h=>?_) (fun cdv A outer s H vs Q E hr h=>?_)
 ·obtain⟨x,dx,q,row,x1,D,rfl,_⟩:=h
  rfl
 obtain⟨x,dx,q,row,x1,D,rfl,hx,hq,hl,k⟩:=h
 refine⟨_,(ag (bw (dW DC_Rule___init__ hr (by rfl) (aa (pr 0) (aa (pr 1) ah))))
 (ag (bJ (pr 0) (pr 2) rfl)
 (aj (bJ (pr 0) (aJ (cH K) (by rfl) T.n_list boot_list (aa (pr 3) ah)) rfl)))),?_⟩
 walk_at "rd"
 have ln:∀(f:Str) (v:V) (l:List (Str×V)) (n:Nat),l.length≤n→(bc f v l).length≤n+1:=fun f v l n h=>Nat.le_trans (bt f v l) (Nat.succ_le_succ h)
 refine⟨x,C,dx,[],row,rfl,hx,TC.cl,TC.n1,by decide,?_⟩
 refine⟨C,dx,_,ae,TC.cl,TC.n2,Nat.lt_of_le_of_lt (ln _ _ _ _ (Nat.zero_le 0)) (by decide),D.map V.int,.inl ((hq.at_ins hx).at_ins ae),fun n hn=>?_⟩
 have nx:n≠x:=fun e=>by subst e;rw [ae]at hn;cases hn
 rw [ai nx,ai nx]at hn
 refine⟨C,dx,_,by rw [ai (Ne.symm nx),ae],TC.cl,TC.n3,Nat.lt_of_le_of_lt (ln _ _ _ _ (ln _ _ _ _ (Nat.zero_le 0))) (by decide),?_⟩
 refine k n _ hn ?_
 rw [bX,jm]
 rfl
theorem oC{f C:Addr}{fd:FuncData}(F:cR K "move_of" "move_of" gX f fd)(T:Txt mg aM)(D_has_list:cE P w K mg base "has_list" 3 ["numbers","ahead"] (fi K))(D_are_voices:cE P w K mg base "are_voices" 3 ["numbers","voices"] (b6 K))(DM_Move:dP P w K mg base "Move" C 2 ["self","row","voice","numbers"] (fO K C)):aE P w K mg base b8 4 f fd ["row","numbers","voices"] (gm K C):=by
 refine F.ok oX (fun vs H Q E h=>?_) (fun cdv A outer s H vs Q E hr h=>?_)
 ·obtain⟨q,row,x1,D,nv,rfl,_⟩:=h
  rfl
 obtain⟨q,row,x1,D,nv,rfl,hq,x1_1,x1_2,l1,l2,k⟩:=h
 refine⟨_,(ag (ba (PW.pt (bE (bC (aQ (aK D_has_list hr (by rfl) (aa (pr 1) (aa af ah))) (fun _=>rfl))) (bS (bC (aQ (aK D_are_voices hr (by rfl) (aa (bB (g9 K) (pr 1) cu (gc af)) (aa (pr 2) ah))) (fun _=>rfl)))))) (aj (aw bh)) aL)
 (aj (aw (ig DM_Move hr (by rfl) (aa (pr 0) (aa (aX (bR K) (pr 1) af (fun _ _=>rfl)) (aa (bB (g9 K) (pr 1) (gc af) cu) ah))))))),?_⟩
 walk_at "rd"
 have hs:sizeLine=16777216:=sizeLine_eq
 refine⟨q,_,1,rfl,hq,?_⟩
 rw [show(decide (1≤(((x1::D).map V.int).length:Int) - 1) && decide ((((x1::D).map V.int).length:Int) - 1≤12))=true by simp;omega]
 walk_at "rd"
 refine cX hq fun q1 hq1=>?_
 rw [show(some (1:Int))=some ((1:Nat):Int)from rfl,fV]
 have s1:ar H (upd H q1 (.lst ((((x1::D).map V.int)).take 1))):=au hq1
 refine⟨q1,[x1],nv,rfl,aO.of ae,by simp,fun H1 s2=>?_⟩
 rw [show([x1].all fun n=>decide (1≤n) && decide (n≤nv))=true by simp;omega]
 walk_at "rd"
 have s3:=s1.trans s2
 have hq3:=s3.seq hq
 refine bf hq3 (bA rfl) (cX hq3 fun q2 hq2=>?_)
 rw [c9]
 show ∀x dx:Addr,_
 intro x dx hx hdx hne
 have s4:ar H (upd H1 q2 (.lst (((x1::D).map V.int).drop 1))):=s3.upd hq2
 have hq2':(upd H1 q2 (.lst (((x1::D).map V.int).drop 1))) q2=some (.lst (D.map V.int)):=ae
 generalize upd H1 q2 (.lst (((x1::D).map V.int).drop 1))=H2 at s4 hx hdx hq2'
 have s5:ar H (upd (upd H2 dx (.own x)) x (.ins C dx [])):=(s4.upd hdx).upd (by rw [ai (Ne.symm hne)];exact hx)
 have hq5:(upd (upd H2 dx (.own x)) x (.ins C dx [])) q2=some (.lst (D.map V.int)):=by
  rw [ai (aq hq2' hx),ai (aq hq2' hdx)]
  exact hq2'
 refine⟨x,dx,q2,row,x1,D,rfl,ae,aO.of hq5,by omega,fun n H3 hn e=>⟨rfl,?_⟩⟩
 subst e
 have nx:n≠x:=fun z=>by subst z;rw [ae]at hn;cases hn
 refine k x _ ?_ ⟨dx,n,ae,by rw [ai nx,ae]⟩
 intro c o hc
 have n1:c≠x:=aq (s4 _ _ hc) hx
 rw [ai n1,ai (aq (s5 _ _ hc) hn)]
 exact s5 _ _ hc
theorem ow{C:Addr}{row:Str}{x1:Int}{D:List Int}(TC:iz K C)(h:aH P w K mg base C "shown" 7 ["self"] (bx K)):aH P w K mg base C "shown" 7 ["self"] (eX (gy C row x1 D) (.str row)):=h.imp <| by
 rintro vs H Q E ⟨r,rfl,⟨dx,n,e1,e2⟩,q⟩
 exact⟨r,C,dx,_,row,rfl,e1,TC.cl,TC.n1,by unfold eD;walk_at "flds",q⟩
theorem kZ{f C:Addr}{fd:FuncData}(F:cR K "__init__" "Back.__init__" cY f fd)(T:Txt mg aM)(TC:iy K C)(DC_Rule___init__:kz P w K mg base "Rule" "__init__" 1 ["self","row"] (b7 K)):aE P w K mg base b8 2 f fd ["self","row","voice","widest"] (fM K C):=by
 refine F.ok gZ (fun vs H Q E h=>?_) (fun cdv A outer s H vs Q E hr h=>?_)
 ·obtain⟨x,dx,row,x1,x2,rfl,_⟩:=h
  rfl
 obtain⟨x,dx,row,x1,x2,rfl,hx,k⟩:=h
 refine⟨_,(ag (bw (dW DC_Rule___init__ hr (by rfl) (aa (pr 0) (aa (pr 1) ah))))
 (ag (bJ (pr 0) (pr 2) rfl)
 (aj (bJ (pr 0) (pr 3) rfl)))),?_⟩
 walk_at "rd"
 have ln:∀(f:Str) (v:V) (l:List (Str×V)) (n:Nat),l.length≤n→(bc f v l).length≤n+1:=fun f v l n h=>Nat.le_trans (bt f v l) (Nat.succ_le_succ h)
 refine⟨x,C,dx,[],row,rfl,hx,TC.cl,TC.n1,by decide,?_⟩
 refine⟨C,dx,_,ae,TC.cl,TC.n2,Nat.lt_of_le_of_lt (ln _ _ _ _ (Nat.zero_le 0)) (by decide),C,dx,_,ae,TC.cl,TC.n3,Nat.lt_of_le_of_lt (ln _ _ _ _ (ln _ _ _ _ (Nat.zero_le 0))) (by decide),?_⟩
 rw [bX,bX]
 exact k
theorem oz{f C:Addr}{fd:FuncData}(F:cR K "back_of" "back_of" gR f fd)(T:Txt mg aM)(D_are_voices:cE P w K mg base "are_voices" 3 ["numbers","voices"] (b6 K))(DM_Back:dP P w K mg base "Back" C 2 ["self","row","voice","widest"] (fM K C)):aE P w K mg base b8 4 f fd ["row","numbers","voices"] (gj K C):=by
 refine F.ok oV (fun vs H Q E h=>?_) (fun cdv A outer s H vs Q E hr h=>?_)
 ·obtain⟨q,row,x1,x2,nv,rfl,_⟩:=h
  rfl
 obtain⟨q,row,x1,x2,nv,rfl,hq,b1,b2,b3,k⟩:=h
 refine⟨_,(ag (ba (PW.pt (bE (bj (aB tP (ax (aS K) (by rfl) T.n_len boot_len (aa (pr 1) ah)) af (aD _))) (bE (bC (aQ (aK D_are_voices hr (by rfl) (aa (bB (g9 K) (pr 1) cu (gc af)) (aa (pr 2) ah))) (fun _=>rfl))) (bS (bj (aB (o0 tZ) (aX (bR K) (pr 1) af (fun _ _=>rfl)) af (aD _))))))) (aj (aw bh)) aL)
 (aj (aw (ig DM_Back hr (by rfl) (aa (pr 0) (aa (aX (bR K) (pr 1) af (fun _ _=>rfl)) (aa (aX (bR K) (pr 1) af (fun _ _=>rfl)) ah))))))),?_⟩
 walk_at "rd"
 have hs:sizeLine=16777216:=sizeLine_eq
 refine⟨_,.inl hq,?_⟩
 walk_at "rd"
 rw [if_pos (show(((0:Nat)+1+1:Nat):Int)=2 from rfl)]
 refine cX hq fun q1 hq1=>?_
 rw [show(some (1:Int))=some ((1:Nat):Int)from rfl,fV]
 have s1:ar H (upd H q1 (.lst (([x1,x2].map V.int).take 1))):=au hq1
 refine⟨q1,[x1],nv,rfl,aO.of ae,by simp,fun H1 s2=>?_⟩
 rw [show([x1].all fun n=>decide (1≤n) && decide (n≤nv))=true by simp;omega]
 walk_at "rd"
 have s3:=s1.trans s2
 have hq3:=s3.seq hq
 refine bf hq3 (show et _ ((1:Nat):Int)=_ from aU rfl) ?_
 walk_at "rd"
 rw [if_neg (show ¬(x2 < 0)by omega)]
 refine bf hq3 (bA rfl) (bf hq3 (show et _ ((1:Nat):Int)=_ from aU rfl) ?_)
 show ∀x dx:Addr,_
 intro x dx hx hdx hne
 have s5:ar H (upd (upd H1 dx (.own x)) x (.ins C dx [])):=(s3.upd hdx).upd (by rw [ai (Ne.symm hne)];exact hx)
 refine⟨x,dx,row,x1,x2,rfl,ae,rfl,?_⟩
 refine k x _ ?_ ⟨dx,ae⟩
 intro c o hc
 rw [ai (aq (s3 _ _ hc) hx)]
 exact s5 _ _ hc
theorem nP{C:Addr}{row:Str}{x1 x2:Int}(TC:iy K C)(h:aH P w K mg base C "shown" 7 ["self"] (bx K)):aH P w K mg base C "shown" 7 ["self"] (eX (gx C row x1 x2) (.str row)):=h.imp <| by
 rintro vs H Q E ⟨r,rfl,⟨dx,e1⟩,q⟩
 exact⟨r,C,dx,_,row,rfl,e1,TC.cl,TC.n1,by unfold eC;walk_at "flds",q⟩
theorem la{f:Addr}{fd:FuncData}(F:cR K "size" "Back.size" eQ f fd):aE P w K mg base b8 1 f fd ["self"] (ji 1 fun _=>.int 3):=by
 refine F.ok lL (fun vs H Q E h=>h.1) (fun cdv A outer s H vs Q E hr h=>?_)
 obtain⟨hl,k⟩:=h
 match vs,hl with
 | [a],_=>
 refine⟨_,(aj (aw af)),?_⟩
 walk_at "rd"
 exact k
theorem lg{f C:Addr}{fd:FuncData}(F:cR K "__init__" "Held.__init__" cZ f fd)(T:Txt mg aM)(TC:fQ K C)(DC_Rule___init__:kz P w K mg base "Rule" "__init__" 1 ["self","row"] (b7 K)):aE P w K mg base b8 2 f fd ["self","row","voice","most"] (fN K C):=by
 refine F.ok g5 (fun vs H Q E h=>?_) (fun cdv A outer s H vs Q E hr h=>?_)
 ·obtain⟨x,dx,row,x1,x2,rfl,_⟩:=h
  rfl
 obtain⟨x,dx,row,x1,x2,rfl,hx,k⟩:=h
 refine⟨_,(ag (bw (dW DC_Rule___init__ hr (by rfl) (aa (pr 0) (aa (pr 1) ah))))
 (ag (bJ (pr 0) (pr 2) rfl)
 (aj (bJ (pr 0) (pr 3) rfl)))),?_⟩
 walk_at "rd"
 have ln:∀(f:Str) (v:V) (l:List (Str×V)) (n:Nat),l.length≤n→(bc f v l).length≤n+1:=fun f v l n h=>Nat.le_trans (bt f v l) (Nat.succ_le_succ h)
 refine⟨x,C,dx,[],row,rfl,hx,TC.cl,TC.n1,by decide,?_⟩
 refine⟨C,dx,_,ae,TC.cl,TC.n2,Nat.lt_of_le_of_lt (ln _ _ _ _ (Nat.zero_le 0)) (by decide),C,dx,_,ae,TC.cl,TC.n3,Nat.lt_of_le_of_lt (ln _ _ _ _ (ln _ _ _ _ (Nat.zero_le 0))) (by decide),?_⟩
 rw [bX,bX]
 exact k
theorem oB{f C:Addr}{fd:FuncData}(F:cR K "held_of" "held_of" gU f fd)(T:Txt mg aM)(D_are_voices:cE P w K mg base "are_voices" 3 ["numbers","voices"] (b6 K))(DM_Held:dP P w K mg base "Held" C 2 ["self","row","voice","most"] (fN K C)):aE P w K mg base b8 4 f fd ["row","numbers","voices"] (gk K C):=by
 refine F.ok oW (fun vs H Q E h=>?_) (fun cdv A outer s H vs Q E hr h=>?_)
 ·obtain⟨q,row,x1,x2,nv,rfl,_⟩:=h
  rfl
 obtain⟨q,row,x1,x2,nv,rfl,hq,b1,b2,b3,k⟩:=h
 refine⟨_,(ag (ba (PW.pt (bE (bj (aB tP (ax (aS K) (by rfl) T.n_len boot_len (aa (pr 1) ah)) af (aD _))) (bE (bC (aQ (aK D_are_voices hr (by rfl) (aa (bB (g9 K) (pr 1) cu (gc af)) (aa (pr 2) ah))) (fun _=>rfl))) (bS (bj (aB (o0 tZ) (aX (bR K) (pr 1) af (fun _ _=>rfl)) af (aD _))))))) (aj (aw bh)) aL)
 (aj (aw (ig DM_Held hr (by rfl) (aa (pr 0) (aa (aX (bR K) (pr 1) af (fun _ _=>rfl)) (aa (aX (bR K) (pr 1) af (fun _ _=>rfl)) ah))))))),?_⟩
 walk_at "rd"
 have hs:sizeLine=16777216:=sizeLine_eq
 refine⟨_,.inl hq,?_⟩
 walk_at "rd"
 rw [if_pos (show(((0:Nat)+1+1:Nat):Int)=2 from rfl)]
 refine cX hq fun q1 hq1=>?_
 rw [show(some (1:Int))=some ((1:Nat):Int)from rfl,fV]
 have s1:ar H (upd H q1 (.lst (([x1,x2].map V.int).take 1))):=au hq1
 refine⟨q1,[x1],nv,rfl,aO.of ae,by simp,fun H1 s2=>?_⟩
 rw [show([x1].all fun n=>decide (1≤n) && decide (n≤nv))=true by simp;omega]
 walk_at "rd"
 have s3:=s1.trans s2
 have hq3:=s3.seq hq
 refine bf hq3 (show et _ ((1:Nat):Int)=_ from aU rfl) ?_
 walk_at "rd"
 rw [if_neg (show ¬(x2 < 1)by omega)]
 refine bf hq3 (bA rfl) (bf hq3 (show et _ ((1:Nat):Int)=_ from aU rfl) ?_)
 show ∀x dx:Addr,_
 intro x dx hx hdx hne
 have s5:ar H (upd (upd H1 dx (.own x)) x (.ins C dx [])):=(s3.upd hdx).upd (by rw [ai (Ne.symm hne)];exact hx)
 refine⟨x,dx,row,x1,x2,rfl,ae,rfl,?_⟩
 refine k x _ ?_ ⟨dx,ae⟩
 intro c o hc
 rw [ai (aq (s3 _ _ hc) hx)]
 exact s5 _ _ hc
theorem oh{C:Addr}{row:Str}{x1 x2:Int}(TC:fQ K C)(h:aH P w K mg base C "shown" 7 ["self"] (bx K)):aH P w K mg base C "shown" 7 ["self"] (eX (d0 C row x1 x2) (.str row)):=h.imp <| by
 rintro vs H Q E ⟨r,rfl,⟨dx,e1⟩,q⟩
 exact⟨r,C,dx,_,row,rfl,e1,TC.cl,TC.n1,by unfold de;walk_at "flds",q⟩
theorem lh{f C:Addr}{fd:FuncData}{row:Str}{x1 x2:Int}(F:cR K "size" "Held.size" eS f fd)(TC:fQ K C):aE P w K mg base b8 1 f fd ["self"] (eX (d0 C row x1 x2) (.int x2)):=by
 refine F.ok lO (fun vs H Q E h=>?_) (fun cdv A outer s H vs Q E hr h=>?_)
 ·obtain⟨r,rfl,_⟩:=h
  rfl
 obtain⟨r,rfl,⟨dx,hr1⟩,k⟩:=h
 refine⟨_,(aj (aw (dm (pr 0) rfl))),?_⟩
 walk_at "rd"
 have l2:(de row x1 x2).lookup (Str.ofString "most")=some (.int x2):=by unfold de;walk_at "flds"
 exact⟨C,dx,_,hr1,TC.cl,TC.n3,_,l2,k⟩
theorem jA{f C:Addr}{fd:FuncData}(F:cR K "__init__" "Times.__init__" cQ f fd)(T:Txt mg aM)(TC:eo K C)(DC_Rule___init__:kz P w K mg base "Rule" "__init__" 1 ["self","row"] (b7 K)):aE P w K mg base b8 2 f fd ["self","row","voice","note","fewest","most"] (eZ K C):=by
 refine F.ok gi (fun vs H Q E h=>?_) (fun cdv A outer s H vs Q E hr h=>?_)
 ·obtain⟨x,dx,row,x1,x2,x3,x4,rfl,_⟩:=h
  rfl
 obtain⟨x,dx,row,x1,x2,x3,x4,rfl,hx,k⟩:=h
 refine⟨_,(ag (bw (dW DC_Rule___init__ hr (by rfl) (aa (pr 0) (aa (pr 1) ah))))
 (ag (bJ (pr 0) (pr 2) rfl)
 (ag (bJ (pr 0) (pr 3) rfl)
 (ag (bJ (pr 0) (pr 4) rfl)
 (aj (bJ (pr 0) (pr 5) rfl)))))),?_⟩
 walk_at "rd"
 have ln:∀(f:Str) (v:V) (l:List (Str×V)) (n:Nat),l.length≤n→(bc f v l).length≤n+1:=fun f v l n h=>Nat.le_trans (bt f v l) (Nat.succ_le_succ h)
 refine⟨x,C,dx,[],row,rfl,hx,TC.cl,TC.n1,by decide,?_⟩
 refine⟨C,dx,_,ae,TC.cl,TC.n2,Nat.lt_of_le_of_lt (ln _ _ _ _ (Nat.zero_le 0)) (by decide),C,dx,_,ae,TC.cl,TC.n3,Nat.lt_of_le_of_lt (ln _ _ _ _ (ln _ _ _ _ (Nat.zero_le 0))) (by decide),C,dx,_,ae,TC.cl,TC.n4,Nat.lt_of_le_of_lt (ln _ _ _ _ (ln _ _ _ _ (ln _ _ _ _ (Nat.zero_le 0)))) (by decide),C,dx,_,ae,TC.cl,TC.n5,Nat.lt_of_le_of_lt (ln _ _ _ _ (ln _ _ _ _ (ln _ _ _ _ (ln _ _ _ _ (Nat.zero_le 0))))) (by decide),?_⟩
 rw [bX,bX,bX,bX]
 exact k
theorem nF{C:Addr}{row:Str}{x1 x2 x3 x4:Int}(TC:eo K C)(h:aH P w K mg base C "shown" 7 ["self"] (bx K)):aH P w K mg base C "shown" 7 ["self"] (eX (c6 C row x1 x2 x3 x4) (.str row)):=h.imp <| by
 rintro vs H Q E ⟨r,rfl,⟨dx,e1⟩,q⟩
 exact⟨r,C,dx,_,row,rfl,e1,TC.cl,TC.n1,by unfold cI;walk_at "flds",q⟩
theorem mW{f C:Addr}{fd:FuncData}(F:cR K "times_of" "times_of" fL f fd)(T:Txt mg aM)(D_are_voices:cE P w K mg base "are_voices" 3 ["numbers","voices"] (b6 K))(DM_Times:dP P w K mg base "Times" C 2 ["self","row","voice","note","fewest","most"] (eZ K C)):aE P w K mg base b8 4 f fd ["row","numbers","voices"] (fj K C):=by
 refine F.ok nq (fun vs H Q E h=>?_) (fun cdv A outer s H vs Q E hr h=>?_)
 ·obtain⟨q,row,x1,x2,x3,x4,nv,rfl,_⟩:=h
  rfl
 obtain⟨q,row,x1,x2,x3,x4,nv,rfl,hq,b1,b2,b3,b4,k⟩:=h
 refine⟨_,(ag (ba (PW.pt (bE (bj (aB tP (ax (aS K) (by rfl) T.n_len boot_len (aa (pr 1) ah)) af (aD _))) (bE (bC (aQ (aK D_are_voices hr (by rfl) (aa (bB (g9 K) (pr 1) cu (gc af)) (aa (pr 2) ah))) (fun _=>rfl))) (bS (bj (aB (o0 tZ) (ax (qC rfl K) (by rfl) T.n_min boot_min (aa (bB (g9 K) (pr 1) (gc af) cu) ah)) af (aD _))))))) (aj (aw bh)) aL)
 (aj (aw (ig DM_Times hr (by rfl) (aa (pr 0) (aa (aX (bR K) (pr 1) af (fun _ _=>rfl)) (aa (aX (bR K) (pr 1) af (fun _ _=>rfl)) (aa (aX (bR K) (pr 1) af (fun _ _=>rfl)) (aa (aX (bR K) (pr 1) af (fun _ _=>rfl)) ah))))))))),?_⟩
 walk_at "rd"
 have hs:sizeLine=16777216:=sizeLine_eq
 refine⟨_,.inl hq,?_⟩
 walk_at "rd"
 rw [if_pos (show(((0:Nat)+1+1+1+1:Nat):Int)=4 from rfl)]
 refine cX hq fun q1 hq1=>?_
 rw [show(some (1:Int))=some ((1:Nat):Int)from rfl,fV]
 have s1:ar H (upd H q1 (.lst (([x1,x2,x3,x4].map V.int).take 1))):=au hq1
 refine⟨q1,[x1],nv,rfl,aO.of ae,by simp,fun H1 s2=>?_⟩
 rw [show([x1].all fun n=>decide (1≤n) && decide (n≤nv))=true by simp;omega]
 walk_at "rd"
 have s3:=s1.trans s2
 have hq3:=s3.seq hq
 refine cX hq3 fun q4 hq4=>?_
 rw [show(some (2:Int))=some ((2:Nat):Int)from rfl,c9]
 have s4:ar H (upd H1 q4 (.lst (([x1,x2,x3,x4].map V.int).drop 2))):=s3.upd hq4
 have hm:(upd H1 q4 (.lst (([x1,x2,x3,x4].map V.int).drop 2))) q4=some (.lst ([x3,x4].map V.int)):=ae
 generalize upd H1 q4 (.lst (([x1,x2,x3,x4].map V.int).drop 2))=H2 at s4 hm
 refine⟨q4,rfl,[x3,x4],aO.of hm,by simp,fun i hi=>?_⟩
 have hi0:0≤i:=by
  rcases List.mem_cons.mp hi with rfl | hi
  ·exact b3
  ·rw [List.mem_singleton.mp hi];exact b4
 walk_at "rd"
 rw [if_neg (show ¬(i < 0)by omega)]
 have hq5:=s4.seq hq
 refine bf hq5 (bA rfl) (bf hq5 (show et _ ((1:Nat):Int)=_ from aU rfl) (bf hq5 (show et _ ((2:Nat):Int)=_ from aU rfl) (bf hq5 (show et _ ((3:Nat):Int)=_ from aU rfl) ?_)))
 show ∀x dx:Addr,_
 intro x dx hx hdx hne
 have s5:ar H (upd (upd H2 dx (.own x)) x (.ins C dx [])):=(s4.upd hdx).upd (by rw [ai (Ne.symm hne)];exact hx)
 refine⟨x,dx,row,x1,x2,x3,x4,rfl,ae,rfl,?_⟩
 refine k x _ ?_ ⟨dx,ae⟩
 intro c o hc
 rw [ai (aq (s4 _ _ hc) hx)]
 exact s5 _ _ hc
theorem jB{f C:Addr}{fd:FuncData}{row:Str}{x1 x2 x3 x4:Int}(F:cR K "size" "Times.size" d3 f fd)(TC:eo K C):aE P w K mg base b8 1 f fd ["self"] (eX (c6 C row x1 x2 x3 x4) (.int (x4+1))):=by
 refine F.ok jM (fun vs H Q E h=>?_) (fun cdv A outer s H vs Q E hr h=>?_)
 ·obtain⟨r,rfl,_⟩:=h
  rfl
 obtain⟨r,rfl,⟨dx,hr1⟩,k⟩:=h
 refine⟨_,(aj (aw (ao (aW K) (dm (pr 0) rfl) af))),?_⟩
 walk_at "rd"
 have l5:(cI row x1 x2 x3 x4).lookup (Str.ofString "most")=some (.int x4):=by unfold cI;walk_at "flds"
 refine⟨C,dx,_,hr1,TC.cl,TC.n5,_,l5,?_⟩
 walk_at "rd"
 exact k
theorem jx{f C:Addr}{fd:FuncData}(F:cR K "__init__" "Every.__init__" cO f fd)(T:Txt mg aM)(TC:eh K C)(DC_Rule___init__:kz P w K mg base "Rule" "__init__" 1 ["self","row"] (b7 K)):aE P w K mg base b8 2 f fd ["self","row","turns","turn","inner"] (eW K C):=by
 refine F.ok gg (fun vs H Q E h=>?_) (fun cdv A outer s H vs Q E hr h=>?_)
 ·obtain⟨x,dx,ri,row,t,u,rfl,_⟩:=h
  rfl
 obtain⟨x,dx,ri,row,t,u,rfl,hx,k⟩:=h
 refine⟨_,(ag (bw (dW DC_Rule___init__ hr (by rfl) (aa (pr 0) (aa (pr 1) ah))))
 (ag (bJ (pr 0) (pr 2) rfl)
 (ag (bJ (pr 0) (pr 3) rfl)
 (aj (bJ (pr 0) (pr 4) rfl))))),?_⟩
 walk_at "rd"
 have ln:∀(f:Str) (v:V) (l:List (Str×V)) (n:Nat),l.length≤n→(bc f v l).length≤n+1:=fun f v l n h=>Nat.le_trans (bt f v l) (Nat.succ_le_succ h)
 refine⟨x,C,dx,[],row,rfl,hx,TC.cl,TC.n1,by decide,?_⟩
 refine⟨C,dx,_,ae,TC.cl,TC.n2,Nat.lt_of_le_of_lt (ln _ _ _ _ (Nat.zero_le 0)) (by decide),C,dx,_,ae,TC.cl,TC.n3,Nat.lt_of_le_of_lt (ln _ _ _ _ (ln _ _ _ _ (Nat.zero_le 0))) (by decide),C,dx,_,ae,TC.cl,TC.n4,Nat.lt_of_le_of_lt (ln _ _ _ _ (ln _ _ _ _ (ln _ _ _ _ (Nat.zero_le 0)))) (by decide),?_⟩
 rw [bX,bX,bX]
 exact k
theorem jy{f C:Addr}{fd:FuncData}{row:Str}{t u:Int}{RIn:kC}(F:cR K "size" "Every.size" d2 f fd)(TC:eh K C):aE P w K mg base b8 1 f fd ["self"] (eX (dv C row t u RIn) (.int t)):=by
 refine F.ok jK (fun vs H Q E h=>?_) (fun cdv A outer s H vs Q E hr h=>?_)
 ·obtain⟨r,rfl,_⟩:=h
  rfl
 obtain⟨r,rfl,⟨dx,ri,hr1,_⟩,k⟩:=h
 refine⟨_,(aj (aw (dm (pr 0) rfl))),?_⟩
 walk_at "rd"
 have l2:(cz row t u ri).lookup (Str.ofString "turns")=some (.int t):=by unfold cz;walk_at "flds"
 exact⟨C,dx,_,hr1,TC.cl,TC.n2,_,l2,k⟩
theorem mD{C:Addr}{row:Str}{t u:Int}{RIn:kC}(TC:eh K C)(h:aH P w K mg base C "shown" 7 ["self"] (bx K)):aH P w K mg base C "shown" 7 ["self"] (eX (dv C row t u RIn) (.str row)):=h.imp <| by
 rintro vs H Q E ⟨r,rfl,⟨dx,ri,e1,e2⟩,q⟩
 exact⟨r,C,dx,_,row,rfl,e1,TC.cl,TC.n1,by unfold cz;walk_at "flds",q⟩
theorem jD{f C aI:Addr}{fd:FuncData}(F:cR K "every_rule" "every_rule" d5 f fd)(T:yr mg aM aI)(hI:su K aI [.str "span",.str "clock"])(D_is_number:cE P w K mg base "is_number" 8 ["word"] kj)(D_plain_rule:cE P w K mg base "plain_rule" 8 ["row","voices"] (gn P w K mg base aM 7))(DM_Every:dP P w K mg base "Every" C 7 ["self","row","turns","turn","inner"] (eW K C)):aE P w K mg base b8 9 f fd ["row","voices"] (iK P w K mg base aM C 7):=by
 refine F.ok sc_every_rule (fun vs H Q E h=>?_) (fun cdv A outer s H vs Q E hr h=>?_)
 ·obtain⟨row,rest,kind,t,u,ns,nv,D,g,sp,RIn,rfl,_⟩:=h
  rfl
 obtain⟨row,rest,kind,t,u,ns,nv,D,g,sp,RIn,rfl,RE,R,hkd,u0,u1,tab,hg,fn,k,mono,kq⟩:=h
 refine⟨_,(ag (ay (i:=2) sc_every_rule.nd rfl (Or.inl rfl) (bH K PySem.F.plainAttrs_str PySem.F.slot_str_split PySem.F.type_str_split rq (pr 0) (aa aT (aa af ah))))
 (ag (ba (PW.pt (bE (bj (aB tP (ax (aS K) (by rfl) T.n_len boot_len (aa (pr 2) ah)) af (aD _))) (bE (bC (aQ (aK D_is_number hr (by rfl) (aa (aX (bR K) (pr 2) af (fun _ _=>rfl)) ah)) (fun _=>rfl))) (bS (bC (aQ (aK D_is_number hr (by rfl) (aa (aX (bR K) (pr 2) af (fun _ _=>rfl)) ah)) (fun _=>rfl))))))) (aj (aw bh)) aL)
 (ag (ay (i:=3) sc_every_rule.nd rfl (Or.inl rfl) (aJ (dQ) (by rfl) T.n_int boot_int (aa (aX (bR K) (pr 2) af (fun _ _=>rfl)) ah)))
 (ag (ay (i:=4) sc_every_rule.nd rfl (Or.inl rfl) (aJ (dQ) (by rfl) T.n_int boot_int (aa (aX (bR K) (pr 2) af (fun _ _=>rfl)) ah)))
 (ag (ba (PW.pt (bE (bC (bj (ui (o0 i9) (o0 tZ) af (pr 4) (pr 3)))) (bS (bj (aB (t4 K) (aX (bR K) (bH K PySem.F.plainAttrs_str PySem.F.slot_str_split PySem.F.type_str_split fX (aX (bR K) (pr 2) af (fun _ _=>rfl)) (aa aT ah)) af (fun _ _=>rfl)) (jJ T.g_INNER_KINDS) (by with_unfolding_all rfl)))))) (aj (aw bh)) aL)
 (ag (ay (i:=5) sc_every_rule.nd rfl (Or.inl rfl) (aK D_plain_rule hr (by rfl) (aa (aX (bR K) (pr 2) af (fun _ _=>rfl)) (aa (pr 1) ah))))
 (aj (aw (eO (bj (aB lu (pr 5) bh (aD _))) bh (ig DM_Every hr (by rfl) (aa (pr 0) (aa (pr 3) (aa (pr 4) (aa (pr 5) ah)))))))))))))),?_⟩
 have hs:sizeLine=16777216:=sizeLine_eq
 have hl:=RE.len
 refine aV (fun σ H'=>∃p:Addr,H' p=some (.lst ([Str.ofString "every",aP t,aP u,rest].map V.str))∧σ=[some (.str row),some (.int nv),some (.ref p),none,none,none]∧ar H H') ?_ ?_
 rotate_left
 ·intro u' hu
  walk_at "rd"
  refine⟨32,by decide +kernel,by decide,by decide,by decide,RE.pos,by omega,?_,fun p hp=>?_⟩
  ·rw [show Int.toNat 3=3 from rfl,RE.split];show 4≤_;omega
  ·rw [show Int.toNat 3=3 from rfl,RE.split]
   exact hu _ _ ⟨p,ae,rfl,au hp⟩
 rintro _ H0 ⟨p,hp0,rfl,s0⟩
 have a0:aO K H0 p ([Str.ofString "every",aP t,aP u,rest].map V.str):=aO.of hp0
 have num:∀{n:Int} {H1:Hp} {Q':VK},n.natAbs < 10 ^ 40→(∀H',ar H1 H'→Q' (.bl true) H')→kj [.str (aP n)] H1 Q' E0:=fun {n H1 Q'} hn hq=>by
  refine⟨aP n,rfl,?_,fun H' s'=>?_⟩
  ·have:=f9 hn;omega
  ·rw [show(aP n).cps.toList=cM n from rfl,gK hn]
   exact hq H' s'
 refine aV (fun σ H'=>σ=[some (.str row),some (.int nv),some (.ref p),none,none,none]∧ar H0 H') ?_ ?_
 rotate_left
 ·intro u' hu
  walk_at "rd"
  refine⟨_,.inl a0,?_⟩
  walk_at "rd"
  rw [if_pos (show(((0:Nat)+1+1+1+1:Nat):Int)=4 from rfl)]
  refine bf a0 (show et _ ((1:Nat):Int)=_ from aU rfl) (num RE.tb fun H1 s1=>?_)
  walk_at "rd"
  refine bf (s1.seq a0) (show et _ ((2:Nat):Int)=_ from aU rfl) (num RE.ub fun H2 s2=>?_)
  walk_at "rd"
  exact hu _ _ ⟨rfl,s1.trans s2⟩
 clear a0
 rintro _ H1 ⟨rfl,s01⟩
 have s1:=s0.trans s01
 have a1:aO K H1 p ([Str.ofString "every",aP t,aP u,rest].map V.str):=aO.of (s01 _ _ hp0)
 have int':∀{n:Int},n.natAbs < 10 ^ 40→intText? (aP n)=some n∧(aP n).length≤640:=fun {n} hn=>⟨iF (Nat.lt_of_lt_of_le hn (Nat.pow_le_pow_right (by decide) (by decide))),by have:=f9 hn;omega⟩
 refine aV (fun σ H'=>σ=[some (.str row),some (.int nv),some (.ref p),some (.int t),none,none]∧H1=H') ?_ ?_
 rotate_left
 ·intro u' hu
  walk_at "rd"
  refine bf a1 (show et _ ((1:Nat):Int)=_ from aU rfl) ?_
  walk_at "rd"
  exact⟨t,(int' RE.tb).1,(int' RE.tb).2,hu _ _ ⟨rfl,rfl⟩⟩
 rintro _ _ ⟨rfl,rfl⟩
 refine aV (fun σ H'=>σ=[some (.str row),some (.int nv),some (.ref p),some (.int t),some (.int u),none]∧H1=H') ?_ ?_
 rotate_left
 ·intro u' hu
  walk_at "rd"
  refine bf a1 (show et _ ((2:Nat):Int)=_ from aU rfl) ?_
  walk_at "rd"
  exact⟨u,(int' RE.ub).1,(int' RE.ub).2,hu _ _ ⟨rfl,rfl⟩⟩
 rintro _ _ ⟨rfl,rfl⟩
 have hrl:=RE.rl
 refine aV (fun σ H'=>σ=[some (.str row),some (.int nv),some (.ref p),some (.int t),some (.int u),none]∧ar H1 H') ?_ ?_
 rotate_left
 ·intro u' hu
  walk_at "rd"
  rw [if_pos u0,if_pos u1]
  refine bf a1 (show et _ ((3:Nat):Int)=_ from aU rfl) ?_
  walk_at "rd"
  refine⟨32,by decide +kernel,by decide,by omega,fun p1 hp1=>?_⟩
  rw [R.split]
  have s':ar H1 (upd H1 p1 (.lst ((kind::ns.map aP).map V.str))):=au hp1
  refine bf (aO.of ae) (bA rfl) (m6 (ws:=[Str.ofString "span",Str.ofString "clock"]) (hI.at _) ⟨_,rfl,?_⟩)
  rw [decide_eq_true (show kind∈[Str.ofString "span",Str.ofString "clock"]by rcases hkd with rfl | rfl<;>simp),if_neg (by exact Bool.false_ne_true)]
  exact hu _ _ ⟨rfl,s'⟩
 rintro _ H2 ⟨rfl,s12⟩
 have s2:=s1.trans s12
 have a2:aO K H2 p ([Str.ofString "every",aP t,aP u,rest].map V.str):=s12.seq a1
 refine aV (fun σ H'=>∃ri:Addr,RIn ri H'∧σ=[some (.str row),some (.int nv),some (.ref p),some (.int t),some (.int u),some (.ref ri)]∧ar H H') ?_ ?_
 rotate_left
 ·intro u' hu
  walk_at "rd"
  refine bf a2 (show et _ ((3:Nat):Int)=_ from aU rfl) ?_
  refine⟨rest,kind,ns,nv,D,g,sp,fun v H''=>∃ri,v=.ref ri∧ar H H''∧RIn ri H'',rfl,R,tab,hg,fn,fun q H' Q' sm hq hres=>k q H' Q' (s2.trans sm) hq fun ri H'' s'' hri=>hres _ _ ⟨ri,rfl,s'',hri⟩,?_⟩
  rintro v H' ⟨ri,rfl,s',hri⟩
  exact hu _ _ ⟨ri,hri,rfl,s'⟩
 rintro _ H3 ⟨ri,hri,rfl,s3⟩
 walk_at "rd"
 show ∀x dx:Addr,_
 intro x dx hx hdx hne
 have s5:ar H (upd (upd H3 dx (.own x)) x (.ins C dx [])):=(s3.upd hdx).upd (by rw [ai (Ne.symm hne)];exact hx)
 have s35:ar H3 (upd (upd (upd H3 dx (.own x)) x (.ins C dx [])) x (.ins C dx (cz row t u ri))):=fun c o hc=>by
  have n1:c≠x:=aq hc hx
  rw [ai n1,ai n1,ai (aq hc hdx)]
  exact hc
 refine⟨x,dx,ri,row,t,u,rfl,ae,rfl,?_⟩
 exact kq x _ (s3.trans s35) ⟨dx,ri,ae,mono _ _ _ s35 hri⟩
theorem jG{f C T0:Addr}{fd:FuncData}(F:kB K "read_rule" "read_rule" dA f fd T0)(T:Txt mg aM)(D_plain_rule:cE P w K mg base "plain_rule" 9 ["row","voices"] (gn P w K mg base aM 7))(D_every_rule:cE P w K mg base "every_rule" 9 ["row","voices"] (iK P w K mg base aM C 7)):aE P w K mg base b8 10 f fd ["text","voices","row"] (qk P w K mg base aM C 7):=by
 refine F.ok sc_read_rule (fun vs H Q E h=>?_) (fun cdv A outer s H vs Q E hr h=>?_)
 ·obtain⟨row,nv,z,rfl,_⟩:=h
  rfl
 obtain⟨row,nv,z,rfl,⟨rest,t,u,RE⟩,k⟩:=h
 refine⟨_,(ag (ay (i:=3) sc_read_rule.nd rfl (Or.inl rfl) (eO (aQ (bH K PySem.F.plainAttrs_str PySem.F.slot_str_startswith PySem.F.type_str_startswith dD (pr 0) (aa aT ah)) (fun _=>rfl)) (aK D_every_rule hr (by rfl) (aa (pr 0) (aa (pr 1) ah))) (aK D_plain_rule hr (by rfl) (aa (pr 0) (aa (pr 1) ah)))))
 (ag (ba (bj (aB lu (pr 3) bh (aD _))) (aj jc) aL)
 (aj (aw (pr 3))))),?_⟩
 walk_at "rd"
 rw [RE.starts,if_pos rfl]
 obtain⟨row',rest',kind,t',u',ns,nv',D,g,sp,RIn,e,k⟩:=k
 refine⟨row',rest',kind,t',u',ns,nv',D,g,sp,RIn,e,?_⟩
 obtain⟨k1,k2,k3,k4,k5,k6,k7,k8,k9,k10,k11⟩:=k
 refine⟨k1,k2,k3,k4,k5,k6,k7,k8,k9,k10,fun r H' s' hr=>?_⟩
 obtain⟨hn,q⟩:=k11 r H' s' hr
 rw [if_neg hn]
 exact q
theorem oF{f:Addr}{fd:FuncData}(F:cR K "_law_stirred" "_law_stirred" dJ f fd)(T:Txt mg aM):aE P w K mg base b8 1 f fd ["_law_cell","_law_place"] hW:=by
 refine F.ok sc_law_stirred (fun vs H Q E h=>?_) (fun cdv A outer s H vs Q E hr h=>?_)
 ·obtain⟨c,p,rfl,_⟩:=h
  rfl
 obtain⟨c,p,rfl,k⟩:=h
 refine⟨_,(ag (ay (i:=2) sc_law_stirred.nd rfl (Or.inl rfl) af)
 (ag (ay (i:=3) sc_law_stirred.nd rfl (Or.inl rfl) (ao (aW K) (ao (o1 bg) (ao (aW K) (ao (o1 bg) (pr 0) af) (ao (dU K) af (pr 1))) af) af))
 (ag (cW PassesOwn.never rfl (ff rfl T.n_range (aa af ah)) (aF (i:=4) sc_law_stirred.nd rfl (Or.inl rfl))
 (ag (oN (ax (ia) (by rfl) T.n_divmod boot_divmod (aa (pr 3) (aa af ah))) (c7 K (n:=2) rfl (aY (aF (i:=5) sc_law_stirred.nd rfl (Or.inl rfl)) (aY (aF (i:=6) sc_law_stirred.nd rfl (Or.inl rfl)) c8))))
 (ag (ay (i:=3) sc_law_stirred.nd rfl (Or.inl rfl) (ao (o1 bg) (ao (aW K) (ao (aW K) (ao (aW K) (ao (dU K) (pr 6) af) (ao (dU K) (pr 5) af)) (ao (dU K) af (pr 4))) af) af))
 (aj (ay (i:=2) sc_law_stirred.nd rfl (Or.inl rfl) (ao (aW K) (ao (dU K) (pr 2) af) (pr 3)))))))
 (aj (aw (pr 2)))))),?_⟩
 walk_at "rd"
 refine⟨by decide,.of_left (by decide),by decide,by decide,by decide,?_⟩
 refine fC (n:=4) (fun i σ H'=>∃o4 o5 o6,σ=[some (.int c),some (.int p),some (.int (GM.stirSt c p i).1),some (.int (GM.stirSt c p i).2),o4,o5,o6]∧ar H H') ⟨none,none,none,rfl,ar.refl H⟩ ?_ ?_
 ·rintro i σ H1 hi ⟨o4,o5,o6,rfl,sm⟩
  walk_at "rd"
  refine⟨⟨by decide,by decide⟩,fun q hq=>⟨_,cA.of ae,rfl,?_⟩⟩
  walk_at "rd"
  refine⟨.of_right (by decide),.of_right (by decide),.of_left (by decide),by decide,.of_right (by decide),?_⟩
  exact⟨rfl,rfl,sm.upd hq⟩
 ·rintro σ H1 ⟨o4,o5,o6,rfl,sm⟩
  walk_at "rd"
  exact k _ sm
theorem xx{f:Addr}{fd:FuncData}(F:cR K "_law_got" "_law_got" gW f fd)(T:Txt mg aM)(D_law_stirred:cE P w K mg base "_law_stirred" 1 ["_law_cell","_law_place"] hW):aE P w K mg base b8 2 f fd ["_law_script","_law_place"] (nu K):=by
 refine F.ok sc_law_got (fun vs H Q E h=>?_) (fun cdv A outer s H vs Q E hr h=>?_)
 ·obtain⟨a,ns,p,rfl,_⟩:=h
  rfl
 obtain⟨a,ns,p,rfl,hS,hB,hp0,hp1,k⟩:=h
 refine⟨_,(ag (cW PassesOwn.never rfl (bI K (bB (g9 K) (pr 0) (gc (pr 1)) (gc (ao (aW K) (pr 1) af)))) (aF (i:=2) sc_law_got.nd rfl (Or.inl rfl))
 (ag (ay (i:=3) sc_law_got.nd rfl (Or.inl rfl) af)
 (ag (uh PassesOwn.never (bj (aB (o0 i9) (pr 3) (ax (iO) (by rfl) T.n_abs boot_abs (aa (pr 2) ah)) (aD _))) (aj (ay (i:=3) sc_law_got.nd rfl (Or.inl rfl) (ao (dU K) (pr 3) (ao (o1 eI) af af)))))
 (aj (aw (ao (aW K) (ax (iO) (by rfl) T.n_abs boot_abs (aa (pr 2) ah)) (ao (dU K) (pr 3) (aK D_law_stirred hr (by rfl) (aa (ax (iO) (by rfl) T.n_abs boot_abs (aa (pr 2) ah)) (aa (pr 1) ah))))))))))
 (aj (aw af))),?_⟩
 walk_at "rd"
 refine cX hS fun q hq=>?_
 show v3 _ _ _ _
 rw [sC _ hp0,List.getElem?_map]
 cases hc:ns[p.toNat]? with
 | none=>
  refine bK (aO.of ae) (ro (aO.of ae) ?_)
  walk_at "rd"
  have e:GM.gotF ns p=0:=by unfold GM.gotF;rw [hc]
  rw [←e]
  exact k _ (au hq)
 | some c=>
  have e:GM.gotF ns p=GM.absI c+GM.powF c * GM.stirF (GM.absI c) p:=by unfold GM.gotF;rw [hc]
  have hcB:=hB c (List.mem_of_getElem? hc)
  refine bK (aO.of ae) (cJ (xs:=[.int c]) (fun i σ H'=>i=0∧σ=[some (.ref a),some (.int p),none,none]∧H'=upd H q (.lst [.int c])) ⟨rfl,rfl,rfl⟩ (fun i σ H' _ h=>by rw [h.2.2];exact aO.of ae) ?_ (fun σ H' h=>by cases h.1))
  rintro i x σ H' hx ⟨rfl,rfl,rfl⟩
  cases hx
  walk_at "rd"
  refine⟨fun m σ H'=>∃pw,σ=[some (.ref a),some (.int p),some (.int c),some (.int pw)]∧ar H H'∧0 < pw∧GM.absI c < pw+m∧GM.powGo m pw (GM.absI c)=GM.powF c,⟨(GM.absI c).toNat+1,1,rfl,au hq,by decide,by omega,rfl⟩,?_⟩
  rintro m σ H' ⟨pw,rfl,sm,h0,h1,h2⟩
  walk_at "rd"
  have ea:(if c < 0 then -c else c)=GM.absI c:=rfl
  rw [ea]
  by_cases hle:pw≤GM.absI c
  ·rw [if_pos hle]
   obtain⟨m',rfl⟩:∃m',m=m' + 1:=⟨m - 1,by omega⟩
   refine⟨fun σ' H'=>σ'=[some (.ref a),some (.int p),some (.int c),some (.int (pw * 1000000))]∧ar H H',?_,?_⟩
   ·rintro σ' H'' ⟨rfl,sm'⟩
    refine⟨m',Nat.lt_succ_self _,pw * 1000000,rfl,sm',by omega,by omega,?_⟩
    rw [←h2]
    simp only [GM.powGo]
    rw [if_pos hle]
   ·walk_at "rd"
    exact⟨⟨by decide,by decide,by decide⟩,.of_right (by decide),rfl,sm⟩
  ·rw [if_neg hle]
   rw [GM.powGo_stop hle]at h2
   subst h2
   walk_at "rd"
   refine⟨_,_,rfl,fun H2 s2=>?_⟩
   walk_at "rd"
   refine⟨.of_le (intBits_le_iff.mpr (GM.powF_lt hcB)) (intBits_le_iff.mpr (GM.stirF_natAbs _ _)) (by decide),?_⟩
   rw [←e]
   exact k _ (sm.trans s2)
theorem tW{f:Addr}{fd:FuncData}(F:cR K "_law_cells" "_law_cells" eV f fd)(T:Txt mg aM)(D_law_got:cE P w K mg base "_law_got" 2 ["_law_script","_law_place"] (nu K)):aE P w K mg base b8 3 f fd ["_law_script","_law_first","_law_last"] (lT K):=by
 refine F.ok lQ (fun vs H Q E h=>?_) (fun cdv A outer s H vs Q E hr h=>?_)
 ·obtain⟨a,ns,lo,hi,rfl,_⟩:=h
  rfl
 obtain⟨a,ns,lo,hi,rfl,hS,hB,hn,h1,h2,h3,h4,k⟩:=h
 refine⟨_,(aj (aw (dz (own:=["_law_k"]) (js:=[0]) rfl (rK rfl T.n_range (aa (pr 1) (aa (ax (qB rfl) (by rfl) T.n_min boot_min (aa (pr 2) (aa (ax (aS K) (by rfl) T.n_len boot_len (aa (pr 0) ah)) ah))) ah))) (aZ.of (by rfl)) (fun _ _ _ _ _=>(aF (i:=0) (show List.Nodup (["_law_k","_law_script"]:List Str)from by decide +kernel) rfl (Or.inl rfl))) (fun _ _ _ _ _=>cD) (fun _ _ _ _ _=>(aK D_law_got hr (by rfl) (aa (pr 1) (aa (pr 0) ah))))))),?_⟩
 walk_at "rd"
 refine⟨_,.inl hS,?_⟩
 walk_at "rd"
 have hb:0≤(if (ns.length:Int) < hi then(ns.length:Int)else hi)∧(if (ns.length:Int) < hi then(ns.length:Int)else hi)≤100:=by split<;>omega
 have hs:sizeLine=16777216:=sizeLine_eq
 refine⟨by omega,by omega,by omega,by omega,ez (fun i ys H'=>ys=((List.range i).map fun(j:Nat)=>V.int (GM.gotF ns (lo+j)))∧ar H H') (by omega) ⟨rfl,ar.refl _⟩ (fun i ys H' h=>by rw [h.1];simp) ?_ ?_⟩
 ·rintro i ys H1 hi ⟨rfl,sm⟩
  walk_at "rd"
  refine⟨a,ns,lo+i,rfl,sm.seq hS,hB,by omega,by omega,fun H2 s2=>?_⟩
  exact⟨by rw [List.range_succ,List.map_append];rfl,sm.trans s2⟩
 ·rintro ys H1 ⟨rfl,sm⟩ q hq
  exact k q _ (by rw [ae];unfold GM.cellsF;rw [List.map_map];rfl) (sm.upd hq)
theorem oy{f C:Addr}{fd:FuncData}(F:cR K "__init__" "TooWide.__init__" cy f fd)(TX:nJ K C f zU):aE P w K mg base b8 1 f fd ["self","weight"] (we C "weight"):=by
 refine F.ok fq (fun vs H Q E h=>?_) (fun cdv A outer s H vs Q E hr h=>?_)
 ·obtain⟨a,v,rfl,_⟩:=h
  rfl
 obtain⟨a,v,rfl,ha,k⟩:=h
 refine⟨_,(aj (vS TX (by decide +kernel) (by decide +kernel) fB (pr 0) (pr 1) rfl)),?_⟩
 walk_at "rd"
 simp only [wX]
 walk_at "rd"
 exact⟨ha,fun d hd hda=>k d hd hda⟩
end
theorem vj{P:Program}{w:World}{K:PySem.W.Frag}{mg:Str→Option Value}{base:Heap}{CX:mi}{k:Nat}{f:Addr}{fd:FuncData}{ps:List Str}{sp sp':Sp}(F:aE P w K mg base CX k f fd ps sp)(G:aE P w K mg base CX k f fd ps sp'):aE P w K mg base CX k f fd ps (fun vs H Q E=>sp vs H Q E∨sp' vs H Q E):=
 ⟨fun vs H Q E q=>q.elim (F.len vs H Q E) (G.len vs H Q E),fun A outer s H args us vs Q E hr he hb hv hs=>hs.elim (F.run A outer s H args us vs Q E hr he hb hv) (G.run A outer s H args us vs Q E hr he hb hv)⟩
section
variable {P:Program} {w:World} {K:PySem.W.Frag} {mg:Str→Option Value} {base:Heap} {aM:Addr}
theorem jH{f T0:Addr}{fd:FuncData}(F:kB K "read_rule" "read_rule" dA f fd T0)(T:Txt mg aM)(D_plain_rule:cE P w K mg base "plain_rule" 9 ["row","voices"] (gn P w K mg base aM 7)):aE P w K mg base b8 10 f fd ["text","voices","row"] (uD P w K mg base aM 7):=by
 refine F.ok sc_read_rule (fun vs H Q E h=>?_) (fun cdv A outer s H vs Q E hr h=>?_)
 ·obtain⟨row,kind,ns,nv,z,D,g,sp,Res,rfl,_⟩:=h
  rfl
 obtain⟨row,kind,ns,nv,z,D,g,sp,Res,rfl,R,hk,tab,hg,fn,k,kq⟩:=h
 refine⟨_,(ag (ay (i:=3) sc_read_rule.nd rfl (Or.inl rfl) (eO (aQ (bH K PySem.F.plainAttrs_str PySem.F.slot_str_startswith PySem.F.type_str_startswith dD (pr 0) (aa aT ah)) (fun _=>rfl)) t8 (aK D_plain_rule hr (by rfl) (aa (pr 0) (aa (pr 1) ah)))))
 (ag (ba (bj (aB lu (pr 3) bh (aD _))) (aj jc) aL)
 (aj (aw (pr 3))))),?_⟩
 walk_at "rd"
 rw [pA row _ (c:=101) (by decide +kernel) (by rw [R.head];exact hk),if_neg Bool.false_ne_true]
 refine⟨row,kind,ns,nv,D,g,sp,Res,rfl,R,tab,hg,fn,k,fun v H' hv=>?_⟩
 obtain⟨hn,q⟩:=kq v H' hv
 rw [if_neg hn]
 exact q
structure iM(P:Program)(w:World)(K:PySem.W.Frag)(mg:Str→Option Value)(base:Heap)(k:Nat)(C:Addr)(RI:kC)(row:Str)(sz:Int):Prop where
 mono:∀r H H',ar H H'→RI r H→RI r H'
 ins:∀r H,RI r H→∃dx fs,H r=some (.ins C dx fs)∧fs.lookup (Str.ofString "size")=none∧fs.lookup (Str.ofString "shown")=none
 size:aH P w K mg base C "size" k ["self"] (eX RI (.int sz))
 shown:aH P w K mg base C "shown" k ["self"] (eX RI (.str row))
def mj(RI:kC):Prop:=∀(r:Addr) (H:Hp) (z:Addr) (xs:List Addr) (ys:List V),RI r H→H z=some (.lst (xs.map V.ref))→RI r (upd H z (.lst ys))
def ft(P:Program)(w:World)(K:PySem.W.Frag)(mg:Str→Option Value)(base:Heap)(R:Str×Int)(r:Addr)(H:Hp):Prop:=∃(C:Addr) (RI:kC),iM P w K mg base 7 C RI R.1 R.2∧mj RI∧RI r H
theorem ft.same{R:Str×Int}{r:Addr}{H H':Hp}(s:ar H H')(h:ft P w K mg base R r H):ft P w K mg base R r H':=by
 obtain⟨C,RI,h1,h0,h2⟩:=h
 exact⟨C,RI,h1,h0,h1.mono _ _ _ s h2⟩
theorem ft.stab{R:Str×Int}{r z:Addr}{H:Hp}{xs:List Addr}{ys:List V}(h:ft P w K mg base R r H)(hz:H z=some (.lst (xs.map V.ref))):ft P w K mg base R r (upd H z (.lst ys)):=by
 obtain⟨C,RI,h1,h0,h2⟩:=h
 exact⟨C,RI,h1,h0,h0 _ _ _ _ _ h2 hz⟩
theorem pZ{H:Hp}{n z:Addr}{D:List Int}{xs:List Addr}(hD:1≤D.length)(hn:H n=some (.lst (D.map V.int)))(hz:H z=some (.lst (xs.map V.ref))):n≠z:=fun e=>by
 subst e
 rw [hn]at hz
 cases D with
 | nil=>simp at hD
 | cons d D=>
  cases xs with
  | nil=>cases hz
  | cons x xs=>cases hz
theorem sd{C:Addr}{row:Str}{x1 x2:Int}{D:List Int}(hD:1≤D.length):mj (iN C row x1 x2 D):=fun r H z zs ys h hz=>by
 obtain⟨dx,n,h1,h2⟩:=h
 exact⟨dx,n,by rw [ai (dw h1 hz (fun e=>by cases e))];exact h1,by rw [ai (pZ hD h2 hz)];exact h2⟩
theorem r9{C:Addr}{row:Str}{x1:Int}{D:List Int}(hD:1≤D.length):mj (gy C row x1 D):=fun r H z zs ys h hz=>by
 obtain⟨dx,n,h1,h2⟩:=h
 exact⟨dx,n,by rw [ai (dw h1 hz (fun e=>by cases e))];exact h1,by rw [ai (pZ hD h2 hz)];exact h2⟩
theorem r0{C:Addr}{row:Str}{x1 x2:Int}:mj (gx C row x1 x2):=fun r H z zs ys h hz=>by
 obtain⟨dx,h1⟩:=h
 exact⟨dx,by rw [ai (dw h1 hz (fun e=>by cases e))];exact h1⟩
theorem r6{C:Addr}{row:Str}{x1 x2:Int}:mj (d0 C row x1 x2):=fun r H z zs ys h hz=>by
 obtain⟨dx,h1⟩:=h
 exact⟨dx,by rw [ai (dw h1 hz (fun e=>by cases e))];exact h1⟩
theorem pz{C:Addr}{row:Str}{x1 x2 x3 x4:Int}:mj (c6 C row x1 x2 x3 x4):=fun r H z zs ys h hz=>by
 obtain⟨dx,h1⟩:=h
 exact⟨dx,by rw [ai (dw h1 hz (fun e=>by cases e))];exact h1⟩
theorem pk{C:Addr}{row:Str}{t u:Int}{RIn:kC}(h:mj RIn):mj (dv C row t u RIn):=fun r H z zs ys hr hz=>by
 obtain⟨dx,ri,h1,h2⟩:=hr
 exact⟨dx,ri,by rw [ai (dw h1 hz (fun e=>by cases e))];exact h1,h _ _ _ _ _ h2 hz⟩
theorem nj{C:Addr}{RI:kC}{n:Int}(h:aH P w K mg base C "size" 7 ["self"] (ji 1 fun _=>.int n)):aH P w K mg base C "size" 7 ["self"] (eX RI (.int n)):=h.imp <| by
 rintro vs H Q E ⟨r,rfl,_,q⟩
 exact⟨rfl,q⟩
theorem tQ{C:Addr}{row:Str}{x1 x2:Int}(TC:iy K C)(h1:aH P w K mg base C "size" 7 ["self"] (ji 1 fun _=>.int 3))(h2:aH P w K mg base C "shown" 7 ["self"] (bx K)):iM P w K mg base 7 C (gx C row x1 x2) row 3:=
 ⟨fun r H H' s ⟨dx,e⟩=>⟨dx,s _ _ e⟩,fun r H ⟨dx,e⟩=>⟨dx,_,e,by unfold eC;walk_at "flds",by unfold eC;walk_at "flds"⟩,nj h1,nP TC h2⟩
theorem tR{C:Addr}{row:Str}{x1 x2:Int}(TC:fQ K C)(h1:aH P w K mg base C "size" 7 ["self"] (eX (d0 C row x1 x2) (.int x2)))(h2:aH P w K mg base C "shown" 7 ["self"] (bx K)):iM P w K mg base 7 C (d0 C row x1 x2) row x2:=
 ⟨fun r H H' s ⟨dx,e⟩=>⟨dx,s _ _ e⟩,fun r H ⟨dx,e⟩=>⟨dx,_,e,by unfold de;walk_at "flds",by unfold de;walk_at "flds"⟩,h1,oh TC h2⟩
theorem rC{C:Addr}{row:Str}{x1 x2 x3 x4:Int}(TC:eo K C)(h1:aH P w K mg base C "size" 7 ["self"] (eX (c6 C row x1 x2 x3 x4) (.int (x4+1))))(h2:aH P w K mg base C "shown" 7 ["self"] (bx K)):iM P w K mg base 7 C (c6 C row x1 x2 x3 x4) row (x4+1):=
 ⟨fun r H H' s ⟨dx,e⟩=>⟨dx,s _ _ e⟩,fun r H ⟨dx,e⟩=>⟨dx,_,e,by unfold cI;walk_at "flds",by unfold cI;walk_at "flds"⟩,h1,nF TC h2⟩
theorem tT{C:Addr}{row:Str}{x1:Int}{D:List Int}(TC:iz K C)(h1:aH P w K mg base C "size" 7 ["self"] (ji 1 fun _=>.int 1))(h2:aH P w K mg base C "shown" 7 ["self"] (bx K)):iM P w K mg base 7 C (gy C row x1 D) row 1:=
 ⟨fun r H H' s ⟨dx,n,e,e2⟩=>⟨dx,n,s _ _ e,s _ _ e2⟩,fun r H ⟨dx,n,e,_⟩=>⟨dx,_,e,by unfold eD;walk_at "flds",by unfold eD;walk_at "flds"⟩,nj h1,ow TC h2⟩
theorem rB{C:Addr}{row:Str}{t u:Int}{RIn:kC}(TC:eh K C)(mono:∀r H H',ar H H'→RIn r H→RIn r H')(h1:aH P w K mg base C "size" 7 ["self"] (eX (dv C row t u RIn) (.int t)))(h2:aH P w K mg base C "shown" 7 ["self"] (bx K)):iM P w K mg base 7 C (dv C row t u RIn) row t:=
 ⟨fun r H H' s ⟨dx,n,e,e2⟩=>⟨dx,n,s _ _ e,mono _ _ _ s e2⟩,fun r H ⟨dx,n,e,_⟩=>⟨dx,_,e,by unfold cz;walk_at "flds",by unfold cz;walk_at "flds"⟩,h1,mD TC h2⟩
end
inductive nM(nv:Nat):Str→Int→Prop
 | back {row:Str} {x1 x2:Int}:bP row (Str.ofString "back") [x1,x2]→1≤x1→x1≤nv→0≤x2→nM nv row 3
 | held {row:Str} {x1 x2:Int}:bP row (Str.ofString "held") [x1,x2]→1≤x1→x1≤nv→1≤x2→nM nv row x2
 | times {row:Str} {x1 x2 x3 x4:Int}:bP row (Str.ofString "times") [x1,x2,x3,x4]→1≤x1→x1≤nv→0≤x3→0≤x4→nM nv row (x4+1)
 | move {row:Str} {x1:Int} {D:List Int}:bP row (Str.ofString "move") (x1::D)→1≤x1→x1≤nv→1≤D.length→D.length≤12→nM nv row 1
 | every {row rest:Str} {x1 x2 t u:Int} {D:List Int}:gA row rest t u→bP rest (Str.ofString "span") (x1::x2::D)→1≤x1→x1≤nv→1≤x2→x2≤nv→1≤D.length→D.length≤12→0≤u→u < t→nM nv row t
theorem nM.words{nv:Nat}{row:Str}{sz:Int}(h:nM nv row sz):row.length≤20000∧∃w0 ws,Txt.split row ⟨#[32]⟩=w0::ws∧w0≠Str.ofString "voice":=by
 cases h with
 | back R _ _ _=>exact⟨by have:=R.len;omega,_,_,R.split,by decide +kernel⟩
 | held R _ _ _=>exact⟨by have:=R.len;omega,_,_,R.split,by decide +kernel⟩
 | times R _ _ _ _=>exact⟨by have:=R.len;omega,_,_,R.split,by decide +kernel⟩
 | move R _ _ _ _=>exact⟨by have:=R.len;omega,_,_,R.split,by decide +kernel⟩
 | every R _ _ _ _ _ _ _ _ _=>
  refine⟨R.len,?_⟩
  have h1:(Txt.split row ⟨#[32]⟩).map (fun z=>z.cps.toList)=gv 32 row.cps.toList:=dC row (by decide)
  rw [R.cs,lY 32 _ _ (by decide +kernel)]at h1
  cases e:Txt.split row ⟨#[32]⟩with
  | nil=>rw [e]at h1;cases h1
  | cons w0 ws=>
   rw [e]at h1
   refine⟨w0,ws,rfl,fun z=>?_⟩
   rw [z]at h1
   have:=(List.cons.inj h1).1
   exact absurd this (by decide +kernel)
def eY(P:Program)(w:World)(K:PySem.W.Frag)(mg:Str→Option Value)(base:Heap):Sp:=fun vs H Q _=>∃(z:Int) (row:Str) (sz:Int) (nv:Nat),vs=[.str row,.int nv,.int z]∧nM nv row sz∧∀(r:Addr) H',ft P w K mg base (row,sz) r H'→ar H H'→Q (.ref r) H'
section
variable {P:Program} {w:World} {K:PySem.W.Frag} {mg:Str→Option Value} {base:Heap} {aM:Addr}
theorem rG{f CE:Addr}{fd:FuncData}{Dt:List (Str×V)}{f_span C_Span f_move C_Move f_back C_Back f_held C_Held f_times C_Times:Addr}(F:aE P w K mg base b8 10 f fd ["text","voices","row"] (uD P w K mg base aM 7))(G:aE P w K mg base b8 10 f fd ["text","voices","row"] (qk P w K mg base aM CE 7))(tab:gB K aM Dt)
  (hd_span:KTD.datumAt ("span":Str) Dt=some (.ref f_span)) (fn_span:er P w K mg base 7 f_span ["row","numbers","voices"] (gq K C_Span))
  (hd_move:KTD.datumAt ("move":Str) Dt=some (.ref f_move)) (fn_move:er P w K mg base 7 f_move ["row","numbers","voices"] (gm K C_Move)) (O_move:∀(row:Str) (x1:Int) (D:List Int),iM P w K mg base 7 C_Move (gy C_Move row x1 D) row 1)
  (hd_back:KTD.datumAt ("back":Str) Dt=some (.ref f_back)) (fn_back:er P w K mg base 7 f_back ["row","numbers","voices"] (gj K C_Back)) (O_back:∀(row:Str) (x1 x2:Int),iM P w K mg base 7 C_Back (gx C_Back row x1 x2) row 3)
  (hd_held:KTD.datumAt ("held":Str) Dt=some (.ref f_held)) (fn_held:er P w K mg base 7 f_held ["row","numbers","voices"] (gk K C_Held)) (O_held:∀(row:Str) (x1 x2:Int),iM P w K mg base 7 C_Held (d0 C_Held row x1 x2) row x2)
  (hd_times:KTD.datumAt ("times":Str) Dt=some (.ref f_times)) (fn_times:er P w K mg base 7 f_times ["row","numbers","voices"] (fj K C_Times)) (O_times:∀(row:Str) (x1 x2 x3 x4:Int),iM P w K mg base 7 C_Times (c6 C_Times row x1 x2 x3 x4) row (x4+1))
  (O_every:∀(row:Str) (t u:Int) (RIn:kC),(∀r H H',ar H H'→RIn r H→RIn r H')→iM P w K mg base 7 CE (dv CE row t u RIn) row t) :
  aE P w K mg base b8 10 f fd ["text","voices","row"] (eY P w K mg base):=by
 refine(vj F G).imp fun vs H Q E h=>?_
 obtain⟨z,row,sz,nv,rfl,h,q⟩:=h
 cases h with
 | @back x1 x2 R a1 a2 a3=>
  refine .inl ⟨row,_,_,nv,z,Dt,f_back,_,fun v H'=>∃r,v=.ref r∧ar H H'∧gx C_Back row x1 x2 r H',rfl,R,by decide +kernel,tab,hd_back,fn_back,fun q H' Q' s hq k=>⟨q,row,x1,x2,nv,rfl,aO.of hq,a1,a2,a3,fun r H'' s' hr=>k _ _ ⟨r,rfl,s.trans s',hr⟩⟩,?_⟩
  rintro v H' ⟨r,rfl,s,hr⟩
  exact⟨fun z=>(by cases z),q r H' ⟨_,_,O_back row x1 x2,r0,hr⟩ s⟩
 | @held x1 x2 R a1 a2 a3=>
  refine .inl ⟨row,_,_,nv,z,Dt,f_held,_,fun v H'=>∃r,v=.ref r∧ar H H'∧d0 C_Held row x1 sz r H',rfl,R,by decide +kernel,tab,hd_held,fn_held,fun q H' Q' s hq k=>⟨q,row,x1,sz,nv,rfl,aO.of hq,a1,a2,a3,fun r H'' s' hr=>k _ _ ⟨r,rfl,s.trans s',hr⟩⟩,?_⟩
  rintro v H' ⟨r,rfl,s,hr⟩
  exact⟨fun z=>(by cases z),q r H' ⟨_,_,O_held row x1 sz,r6,hr⟩ s⟩
 | @times x1 x2 x3 x4 R a1 a2 a3 a4=>
  refine .inl ⟨row,_,_,nv,z,Dt,f_times,_,fun v H'=>∃r,v=.ref r∧ar H H'∧c6 C_Times row x1 x2 x3 x4 r H',rfl,R,by decide +kernel,tab,hd_times,fn_times,fun q H' Q' s hq k=>⟨q,row,x1,x2,x3,x4,nv,rfl,aO.of hq,a1,a2,a3,a4,fun r H'' s' hr=>k _ _ ⟨r,rfl,s.trans s',hr⟩⟩,?_⟩
  rintro v H' ⟨r,rfl,s,hr⟩
  exact⟨fun z=>(by cases z),q r H' ⟨_,_,O_times row x1 x2 x3 x4,pz,hr⟩ s⟩
 | @move x1 D R a1 a2 a3 a4=>
  refine .inl ⟨row,_,_,nv,z,Dt,f_move,_,fun v H'=>∃r,v=.ref r∧ar H H'∧gy C_Move row x1 D r H',rfl,R,by decide +kernel,tab,hd_move,fn_move,fun q H' Q' s hq k=>⟨q,row,x1,D,nv,rfl,aO.of hq,a1,a2,a3,a4,fun r H'' s' hr=>k _ _ ⟨r,rfl,s.trans s',hr⟩⟩,?_⟩
  rintro v H' ⟨r,rfl,s,hr⟩
  exact⟨fun z=>(by cases z),q r H' ⟨_,_,O_move row x1 D,r9 a3,hr⟩ s⟩
 | @every rest x1 x2 t u D RE R a1 a2 a3 a4 a5 a6 a7 a8=>
  have mono:∀r H H',ar H H'→iN C_Span rest x1 x2 D r H→iN C_Span rest x1 x2 D r H':=fun r H H' s ⟨dx,n,e,e2⟩=>⟨dx,n,s _ _ e,s _ _ e2⟩
  exact .inr ⟨row,nv,z,rfl,⟨_,_,_,RE⟩,row,rest,_,sz,u,_,nv,Dt,f_span,_,iN C_Span rest x1 x2 D,rfl,RE,R,.inl rfl,a7,a8,tab,hd_span,fn_span,fun q H' Q' s hq k=>⟨q,rest,x1,x2,D,nv,rfl,aO.of hq,a1,a2,a3,a4,a5,a6,fun r H'' s' hr=>k _ _ (s.trans s') hr⟩,mono,fun r H' s hr=>⟨fun z=>(by cases z),q r H' ⟨CE,_,O_every row sz u _ mono,pk (sd a5),hr⟩ s⟩⟩
end
def b9(a b:Addr):List (Str×V):=bc "rules" (.ref b) (bc "ranges" (.ref a) [])
structure cj(K:PySem.W.Frag)(C:Addr):Prop where
 cl:ky K C
 n1:NoAttr K C "ranges"
 n2:NoAttr K C "rules"
def dB(K:PySem.W.Frag)(C:Addr):Sp:=fun vs H Q _=>∃(x dx a b:Addr) (xs ys:List V),vs=[.ref x,.ref a,.ref b]∧H x=some (.ins C dx [])∧aO K H a xs∧aO K H b ys∧
 ∀p q H',H p=none→H q=none→q≠p→H'=upd (upd (upd H p (.lst xs)) q (.lst ys)) x (.ins C dx (b9 p q))→Q .non H'
def bY(K:PySem.W.Frag)(H:Hp)(a:Addr)(bs:List (Int×Int)):Prop:=∃ts:List Addr,aO K H a (ts.map V.ref)∧ts.length=bs.length∧∀(i:Nat) (t:Addr) (b:Int×Int),ts[i]?=some t→bs[i]?=some b→cA K H t [.int b.1,.int b.2]
theorem bY.same{K:PySem.W.Frag}{H H':Hp}{a:Addr}{bs:List (Int×Int)}(s:ar H H')(h:bY K H a bs):bY K H' a bs:=by
 obtain⟨ts,h1,h2,h3⟩:=h
 exact⟨ts,s.seq h1,h2,fun i t b e1 e2=>s.tup (h3 i t b e1 e2)⟩
section
variable {P:Program} {w:World} {K:PySem.W.Frag} {mg:Str→Option Value} {base:Heap} {aM:Addr}
def iB(P:Program)(w:World)(K:PySem.W.Frag)(mg:Str→Option Value)(base:Heap)(H:Hp)(b:Addr)(Rs:List (Str×Int)):Prop:=∃rs:List Addr,aO K H b (rs.map V.ref)∧rs.length=Rs.length∧∀(j:Nat) (r:Addr) (R:Str×Int),rs[j]?=some r→Rs[j]?=some R→ft P w K mg base R r H
theorem iB.same{H H':Hp}{b:Addr}{Rs:List (Str×Int)}(s:ar H H')(h:iB P w K mg base H b Rs):iB P w K mg base H' b Rs:=by
 obtain⟨rs,h1,h2,h3⟩:=h
 exact⟨rs,s.seq h1,h2,fun j r R e1 e2=>(h3 j r R e1 e2).same s⟩
def bU(P:Program)(w:World)(K:PySem.W.Frag)(mg:Str→Option Value)(base:Heap)(C:Addr)(bs:List (Int×Int))(Rs:List (Str×Int))(x:Addr)(H:Hp):Prop:=∃(dx a b:Addr),H x=some (.ins C dx (b9 a b))∧bY K H a bs∧iB P w K mg base H b Rs
theorem bU.same{C:Addr}{bs:List (Int×Int)}{Rs:List (Str×Int)}{x:Addr}{H H':Hp}(s:ar H H')(h:bU P w K mg base C bs Rs x H):bU P w K mg base C bs Rs x H':=by
 obtain⟨dx,a,b,h1,h2,h3⟩:=h
 exact⟨dx,a,b,s _ _ h1,h2.same s,h3.same s⟩
def dZ(b:Int×Int):Int:=b.2 - b.1+1
def gw(bs:List (Int×Int)):Int:=bs.foldl (fun t b=>t * dZ b) 1
def cb(bs:List (Int×Int))(Rs:List (Str×Int)):Int:=Rs.foldl (fun t R=>t * R.2) (gw bs)
theorem iI{α:Type}(f:α→Int):∀(l:List α) (t:Int) (m:Nat),t.natAbs < 2 ^ m→(∀b∈l,(f b).natAbs < 2 ^ 200)→(l.foldl (fun t b=>t * f b) t).natAbs < 2 ^ (m+200 * l.length)
 | [],t,m,h,_=>by simpa using h
 | b::l,t,m,h,hb=>by
  have h1:(t * f b).natAbs < 2 ^ (m+200):=by
   rw [Int.natAbs_mul,Nat.pow_add]
   exact Nat.mul_lt_mul_of_lt_of_le h (Nat.le_of_lt (hb b (by simp))) (Nat.pow_pos (by decide))
  have:=iI f l (t * f b) (m+200) h1 fun x hx=>hb x (by simp [hx])
  rw [List.length_cons,show m+200 * (l.length+1)=m+200+200 * l.length by omega]
  exact this
theorem md{bs:List (Int×Int)}(h:∀b∈bs,(dZ b).natAbs < 2 ^ 200):(gw bs).natAbs < 2 ^ (1+200 * bs.length):=iI dZ bs 1 1 (by decide) h
theorem kT{a b:Int}{m:Nat}(ha:a.natAbs < 2 ^ m)(hb:b.natAbs < 2 ^ 200)(h:m≤100000):IntMulOk a b:=IntMulOk.of_le (m:=m) (n:=200) (intBits_le_iff.mpr ha) (intBits_le_iff.mpr hb) (by omega)
def gr(P:Program)(w:World)(K:PySem.W.Frag)(mg:Str→Option Value)(base:Heap):Sp:=fun vs H Q _=>∃(x C:Addr) (bs:List (Int×Int)) (Rs:List (Str×Int)),vs=[.ref x]∧cj K C∧bU P w K mg base C bs Rs x H∧bs.length≤100∧Rs.length≤100∧(∀b∈bs,(dZ b).natAbs < 2 ^ 200)∧(∀R∈Rs,(R.2).natAbs < 2 ^ 200)∧Q (.int (cb bs Rs)) H
def nN(C:Addr)(wt:Int)(H:Hp)(a d:Addr):Prop:=H a=some (XO C d a)∧H d=some (.xd [("weight",.int wt)])
def hU(P:Program)(w:World)(K:PySem.W.Frag)(mg:Str→Option Value)(base:Heap)(C':Addr):Sp:=fun vs H Q E=>∃(x C:Addr) (bs:List (Int×Int)) (Rs:List (Str×Int)),vs=[.ref x]∧cj K C∧bU P w K mg base C bs Rs x H∧bs.length≤100∧Rs.length≤100∧(∀b∈bs,(dZ b).natAbs < 2 ^ 200)∧(∀R∈Rs,(R.2).natAbs < 2 ^ 200)∧(cb bs Rs≤400→Q (.ref x) H)∧(400 < cb bs Rs→∀a d H',nN C' (cb bs Rs) H' a d→ar H H'→E (.ref a) (some d) H')
theorem fc(a b:Addr):(b9 a b).lookup (Str.ofString "ranges")=some (.ref a):=by unfold b9;walk_at "flds"
theorem i4(a b:Addr):(b9 a b).lookup (Str.ofString "rules")=some (.ref b):=by unfold b9;walk_at "flds"
theorem jz{f C:Addr}{fd:FuncData}(F:cR K "__init__" "Score.__init__" cP f fd)(T:Txt mg aM)(TC:cj K C):aE P w K mg base b8 1 f fd ["self","ranges","rules"] (dB K C):=by
 refine F.ok gh (fun vs H Q E h=>?_) (fun cdv A outer s H vs Q E hr h=>?_)
 ·obtain⟨x,dx,a,b,xs,ys,rfl,_⟩:=h
  rfl
 obtain⟨x,dx,a,b,xs,ys,rfl,hx,ha,hb,k⟩:=h
 refine⟨_,(ag (bJ (pr 0) (aJ (cH K) (by rfl) T.n_list boot_list (aa (pr 1) ah)) rfl)
 (aj (bJ (pr 0) (aJ (cH K) (by rfl) T.n_list boot_list (aa (pr 2) ah)) rfl))),?_⟩
 walk_at "rd"
 have ln:∀(f:Str) (v:V) (l:List (Str×V)) (n:Nat),l.length≤n→(bc f v l).length≤n+1:=fun f v l n h=>Nat.le_trans (bt f v l) (Nat.succ_le_succ h)
 refine⟨xs,.inl ha,fun p hp=>?_⟩
 have px:p≠x:=fun e=>by subst e;rw [hx]at hp;cases hp
 refine⟨C,dx,[],by rw [ai (Ne.symm px)];exact hx,TC.cl,TC.n1,by decide,ys,.inl (((au hp).seq hb).at_ins (by rw [ai (Ne.symm px)];exact hx)),fun q hq=>?_⟩
 have qx:q≠x:=fun e=>by subst e;rw [ae]at hq;cases hq
 rw [ai qx]at hq
 have qp:q≠p:=fun e=>by subst e;rw [ae]at hq;cases hq
 rw [ai qp]at hq
 refine⟨C,dx,_,by rw [ai (Ne.symm qx),ae],TC.cl,TC.n2,Nat.lt_of_le_of_lt (ln _ _ _ _ (Nat.zero_le 0)) (by decide),?_⟩
 refine k p q _ hp hq qp ?_
 rw [jm]
 rfl
theorem rH{f:Addr}{fd:FuncData}(F:cR K "weight" "weight" jf f fd)(T:Txt mg aM):aE P w K mg base b8 8 f fd ["score"] (gr P w K mg base):=by
 refine F.ok sc_weight (fun vs H Q E h=>?_) (fun cdv A outer s H vs Q E hr h=>?_)
 ·obtain⟨x,C,bs,Rs,rfl,_⟩:=h
  rfl
 obtain⟨x,C,bs,Rs,rfl,TC,⟨dx,a,b,hx,⟨ts,hts,htl,htc⟩,⟨rs,hrs,hrl,hrc⟩⟩,lb,lr,hwb,hwr,q⟩:=h
 refine⟨_,(ag (ay (i:=1) sc_weight.nd rfl (Or.inl rfl) af)
 (ag (cW PassesOwn.never rfl (bI K (dm (pr 0) rfl)) (c7 K (n:=2) rfl (aY (aF (i:=2) sc_weight.nd rfl (Or.inl rfl)) (aY (aF (i:=3) sc_weight.nd rfl (Or.inl rfl)) c8)))
 (aj (y4 (uf (i:=1) sc_weight.nd rfl (Or.inl rfl) (ao (aW K) (ao (o0 dG) (pr 3) (pr 2)) af) (o1 mI)))))
 (ag (cW PassesOwn.never rfl (bI K (dm (pr 0) rfl)) (aF (i:=4) sc_weight.nd rfl (Or.inl rfl))
 (aj (y4 (uf (i:=1) sc_weight.nd rfl (Or.inl rfl) (kd P w K mg base hr (pr 4)) (o1 mI)))))
 (aj (aw (pr 1)))))),?_⟩
 refine aV (fun σ H'=>σ=[some (.ref x),some (.int 1),none,none,none]∧H=H') ?_ ?_
 rotate_left
 ·intro u' hu
  walk_at "rd"
  exact hu _ _ ⟨rfl,rfl⟩
 rintro _ _ ⟨rfl,rfl⟩
 refine aV (fun σ H'=>∃o1 o2:Option V,σ=[some (.ref x),some (.int (gw bs)),o1,o2,none]∧H=H') ?_ ?_
 rotate_left
 ·intro u' hu
  walk_at "rd"
  refine⟨C,dx,_,hx,TC.cl,TC.n1,_,fc a b,bK hts (cJ (xs:=ts.map V.ref) (fun i σ H'=>∃o1 o2:Option V,σ=[some (.ref x),some (.int (gw (bs.take i))),o1,o2,none]∧H=H') ⟨none,none,rfl,rfl⟩ (fun i σ H' _ z=>by obtain⟨_,_,_,z⟩:=z;exact z▸hts) ?_ ?_)⟩
  ·rintro i y σ H1 hy ⟨o1,o2,rfl,rfl⟩
   rw [List.getElem?_map]at hy
   cases ht:ts[i]? with
   | none=>rw [ht]at hy;cases hy
   | some t=>
    rw [ht]at hy
    cases hy
    have hi:i < bs.length:=by rw [←htl];exact(List.getElem?_eq_some_iff.mp ht).1
    have hb:bs[i]?=some bs[i]:=List.getElem?_eq_getElem hi
    have e:gw (bs.take (i+1))=gw (bs.take i) * dZ bs[i]:=by
     unfold gw
     rw [List.take_add_one,hb,List.foldl_append]
     rfl
    walk_at "rd"
    refine⟨_,htc i t _ ht hb,rfl,?_⟩
    walk_at "rd"
    rw [e]
    have hw:=hwb _ (List.getElem_mem hi)
    have ht:=md (bs:=bs.take i) fun b hb=>hwb b (List.mem_of_mem_take hb)
    exact⟨kT ht hw (by rw [List.length_take];omega),rfl⟩
  ·rintro σ H1 ⟨o1,o2,rfl,rfl⟩
   rw [List.length_map,htl,List.take_length]
   exact hu _ _ ⟨o1,o2,rfl,rfl⟩
 rintro _ _ ⟨o1,o2,rfl,rfl⟩
 walk_at "rd"
 refine⟨C,dx,_,hx,TC.cl,TC.n2,_,i4 a b,bK hrs (cJ (xs:=rs.map V.ref) (fun i σ H'=>∃o3:Option V,σ=[some (.ref x),some (.int ((Rs.take i).foldl (fun t R=>t * R.2) (gw bs))),o1,o2,o3]∧H=H') ⟨none,rfl,rfl⟩ (fun i σ H' _ z=>by obtain⟨_,_,z⟩:=z;exact z▸hrs) ?_ ?_)⟩
 ·rintro i y σ H1 hy ⟨o3,rfl,rfl⟩
  rw [List.getElem?_map]at hy
  cases ht:rs[i]? with
  | none=>rw [ht]at hy;cases hy
  | some r=>
   rw [ht]at hy
   cases hy
   have hi:i < Rs.length:=by rw [←hrl];exact(List.getElem?_eq_some_iff.mp ht).1
   have hb:Rs[i]?=some Rs[i]:=List.getElem?_eq_getElem hi
   obtain⟨Cr,RI,RB,_,hri⟩:=hrc i r _ ht hb
   obtain⟨dr,fr,hir,q1,_⟩:=RB.ins r _ hri
   walk_at "rd"
   refine⟨Cr,dr,fr,hir,q1,_,_,RB.size,r,rfl,hri,?_⟩
   walk_at "rd"
   rw [List.take_add_one,hb,List.foldl_append]
   have hw:=hwr _ (List.getElem_mem hi)
   have ht:=iI (fun R:Str×Int=>R.2) (Rs.take i) (gw bs) _ (md hwb) fun R hR=>hwr R (List.mem_of_mem_take hR)
   exact⟨kT ht hw (by rw [List.length_take];omega),rfl⟩
 ·rintro σ H1 ⟨o3,rfl,rfl⟩
  rw [List.length_map,hrl,List.take_length]
  walk_at "rd"
  exact q
theorem iu{f C':Addr}{fd:FuncData}(F:cR K "not_too_wide" "not_too_wide" dq f fd)(T:Txt mg aM)(D_weight:cE P w K mg base "weight" 8 ["score"] (gr P w K mg base))(DE_TooWide:jr P w K mg base "TooWide" C' 7 ["self","weight"] (we C' "weight") zU):aE P w K mg base (kx P w) 9 f fd ["score"] (hU P w K mg base C'):=by
 refine F.okX sc_not_too_wide (fun vs H Q E h=>?_) (fun cdv A outer s H vs Q E hr h=>?_)
 ·obtain⟨x,C,bs,Rs,rfl,_⟩:=h
  rfl
 obtain⟨x,C,bs,Rs,rfl,TC,S,lb,lr,hwb,hwr,q1,q2⟩:=h
 refine⟨_,(ag (ay (i:=1) sc_not_too_wide.nd rfl (Or.inl rfl) (aK D_weight hr (by rfl) (aa (pr 0) ah)))
 (ag (ba (bj (aB (o0 p6) (pr 1) (jJ T.g_MOST_WEIGHT) (aD _))) (aj (rM DE_TooWide rfl hr (by rfl) (fun _ _=>mR) (aa (pr 1) ah))) aL)
 (aj (aw (pr 0))))),?_⟩
 have hs:sizeLine=16777216:=sizeLine_eq
 refine aV (fun σ H'=>H=H'∧σ=[some (.ref x),some (.int (cb bs Rs))]) ?_ ?_
 rotate_left
 ·intro u' hu
  walk_at "rd"
  exact⟨x,C,bs,Rs,rfl,TC,S,lb,lr,hwb,hwr,hu _ _ ⟨rfl,rfl⟩⟩
 rintro _ _ ⟨rfl,rfl⟩
 refine tm fun A0 B0 hA hB=>?_
 walk_at "rd"
 by_cases h:400 < cb bs Rs
 ·rw [if_pos h]
  refine hA _ ?_
  simp only [iw,pG]
  walk_at "rd"
  refine⟨by omega,fun a ha=>⟨a,.int _,rfl,ae,fun d hd hda=>⟨rfl,d,by rw [ai (Ne.symm hda)];exact ae,_,ae,?_⟩⟩⟩
  have had:H d=none:=by
   rw [ai hda]at hd
   exact hd
  refine q2 h a d _ ⟨ae,by rw [ai hda,ae]⟩ fun c o hc=>?_
  have ca:c≠a:=aq hc ha
  have cd:c≠d:=aq hc had
  rw [ai ca,ai cd,ai ca,ai ca]
  exact hc
 ·rw [if_neg h]
  refine hB _ ?_
  walk_at "rd"
  exact q1 (by omega)
end
theorem nA{c:Nat}(hc:c < 256){ws:List Str}(h:ws≠[])(hn:∀z∈ws,c∉z.cps.toList):Txt.split (Txt.join ⟨#[c]⟩ ws) ⟨#[c]⟩=ws:=by
 refine cT ?_
 rw [dC _ hc,i3,jj c _ (by simpa using h) (fun p hp=>?_)]
 obtain⟨z,hz,rfl⟩:=List.mem_map.mp hp
 exact hn z hz
def lW(K:PySem.W.Frag):Sp:=fun vs H Q _=>∃row:Str,vs=[.str row]∧row.length≤20000∧((∃lo hi:Int,bP row (Str.ofString "voice") [lo,hi]∧lo≤hi∧∀p H',H' p=some (.tup [.int lo,.int hi])→ar H H'→Q (.ref p) H')∨∃w0 ws,Txt.split row ⟨#[32]⟩=w0::ws∧w0≠Str.ofString "voice"∧∀H',ar H H'→Q .non H')
def lV(P:Program)(w:World)(K:PySem.W.Frag)(mg:Str→Option Value)(base:Heap)(C C':Addr):Sp:=fun vs H Q E=>∃(text:Str) (bs:List (Int×Int)) (vr:Int×Int→Str) (Rs:List (Str×Int)),vs=[.str text]∧text.length≤1000000∧Txt.split text ⟨#[10]⟩=bs.map vr++Rs.map Prod.fst∧1≤bs.length∧bs.length≤4∧Rs.length≤12∧
 (∀b∈bs,bP (vr b) (Str.ofString "voice") [b.1,b.2]∧b.1≤b.2∧(dZ b).natAbs < 2 ^ 200)∧(∀R∈Rs,nM bs.length R.1 R.2∧(R.2).natAbs < 2 ^ 200)∧(cb bs Rs≤400→∀x H',bU P w K mg base C bs Rs x H'→ar H H'→Q (.ref x) H')∧(400 < cb bs Rs→∀a d H',nN C' (cb bs Rs) H' a d→ar H H'→E (.ref a) (some d) H')
section
variable {P:Program} {w:World} {K:PySem.W.Frag} {mg:Str→Option Value} {base:Heap} {aM:Addr}
theorem i8{f:Addr}{fd:FuncData}(F:cR K "voice_range" "voice_range" dM f fd)(T:Txt mg aM)(D_is_number:cE P w K mg base "is_number" 1 ["word"] kj):aE P w K mg base b8 2 f fd ["row"] (lW K):=by
 refine F.ok sc_voice_range (fun vs H Q E h=>?_) (fun cdv A outer s H vs Q E hr h=>?_)
 ·obtain⟨row,rfl,_⟩:=h
  rfl
 obtain⟨row,rfl,hl,h⟩:=h
 refine⟨_,(ag (ay (i:=1) sc_voice_range.nd rfl (Or.inl rfl) (bH K PySem.F.plainAttrs_str PySem.F.slot_str_split PySem.F.type_str_split fX (pr 0) (aa aT ah)))
 (ag (ba (PW.pt (bE (bj (aB tP (ax (aS K) (by rfl) T.n_len boot_len (aa (pr 1) ah)) af (aD _))) (bE (bj (aB tP (aX (bR K) (pr 1) af (fun _ _=>rfl)) aT (aD _))) (bS (bC (aQ (ax (e7 K rfl) (by rfl) T.n_all boot_all (aa (dz (own:=["word"]) (js:=[]) rfl (bI K (bB (g9 K) (pr 1) (gc af) cu)) (aZ.of (by rfl)) (fun _ _ _ _ _=>(aF (i:=0) (show List.Nodup (["word"]:List Str)from by decide +kernel) rfl (Or.inl rfl))) (fun _ _ _ _ _=>cD) (fun _ _ _ _ _=>(aK D_is_number hr (by rfl) (aa (pr 0) ah)))) ah)) (fun _=>rfl))))))) (aj (aw bh)) aL)
 (ag (ay (i:=2) sc_voice_range.nd rfl (Or.inl rfl) (cw (aa (aJ (dQ) (by rfl) T.n_int boot_int (aa (aX (bR K) (pr 1) af (fun _ _=>rfl)) ah)) (aa (aJ (dQ) (by rfl) T.n_int boot_int (aa (aX (bR K) (pr 1) af (fun _ _=>rfl)) ah)) ah))))
 (aj (aw (eO (bj (aB (o0 i9) (aX (bR K) (pr 2) af (fun _ _=>rfl)) (aX (bR K) (pr 2) af (fun _ _=>rfl)) (aD _))) (pr 2) bh)))))),?_⟩
 have hs:sizeLine=16777216:=sizeLine_eq
 refine aV (fun σ H'=>∃p:Addr,H' p=some (.lst ((Txt.split row ⟨#[32]⟩).map V.str))∧σ=[some (.str row),some (.ref p),none]∧ar H H') ?_ ?_
 rotate_left
 ·intro u' hu
  walk_at "rd"
  exact⟨32,by decide +kernel,by decide,by omega,fun p hp=>hu _ _ ⟨p,ae,rfl,au hp⟩⟩
 rintro _ H1 ⟨p,hp1,rfl,s1⟩
 rcases h with⟨lo,hi,RI,hle,q⟩ | ⟨w0,ws,hsp,hw0,q⟩
 ·rw [RI.split]at hp1
  have b1:=RI.nb lo (by simp)
  have b2:=RI.nb hi (by simp)
  have nlen:∀n:Int,n.natAbs < 10 ^ 40→(aP n).length≤41:=fun n h=>f9 h
  refine aV (fun σ H'=>σ=[some (.str row),some (.ref p),none]∧ar H1 H') ?_ ?_
  rotate_left
  ·intro u' hu
   walk_at "rd"
   refine⟨_,.inl (aO.of hp1),?_⟩
   rw [if_pos (by simp)]
   refine bf (aO.of hp1) (bA rfl) ?_
   walk_at "rd"
   refine cX (aO.of hp1) fun q2 hq2=>?_
   rw [show(some (1:Int))=some ((1:Nat):Int)from rfl,c9]
   show v3 _ _ _ _
   have s2:ar H1 (upd H1 q2 (.lst (([lo,hi].map aP).map V.str))):=au hq2
   refine bK (xs:=([lo,hi].map aP).map V.str) (aO.of ae) (cv (xs:=([lo,hi].map aP).map V.str) (fun i ys H'=>ys=(List.replicate i true).map V.bl∧ar (upd H1 q2 (.lst (([lo,hi].map aP).map V.str))) H') (by simp;omega) ⟨rfl,ar.refl _⟩ ?_ ?_ ?_ ?_)
   ·rintro i ys H' ⟨rfl,sm⟩
    simp
   ·rintro i ys H' ⟨rfl,sm⟩
    exact sm.seq (aO.of ae)
   ·rintro i x ys H' hx ⟨rfl,sm⟩
    obtain⟨n,hn,rfl⟩:∃n∈[lo,hi],x=.str (aP n):=by
     have:=List.mem_of_getElem? hx
     simp only [List.map_map,List.mem_map,Function.comp_apply]at this
     obtain⟨n,hn,e⟩:=this
     exact⟨n,hn,e.symm⟩
    walk_at "rd"
    refine⟨aP n,rfl,?_,fun H1 s1=>⟨?_,sm.trans s1⟩⟩
    ·have:=nlen n (RI.nb n hn)
     omega
    ·show _=(List.replicate (i+1) true).map V.bl
     rw [show(aP n).cps.toList=cM n from rfl,gK (RI.nb n hn),List.replicate_succ',List.map_append]
     rfl
   rintro ys H2 ⟨rfl,sm⟩ p1 hp1'
   refine⟨_,aO.of ae,?_⟩
   rw [show(List.replicate (([lo,hi].map aP).map V.str).length true).all id=true by simp]
   walk_at "rd"
   exact hu _ _ ⟨rfl,(s2.trans sm).upd hp1'⟩
  rintro _ H2 ⟨rfl,s12⟩
  have hp2:=s12 _ _ hp1
  refine aV (fun σ H'=>∃t:Addr,H' t=some (.tup [.int lo,.int hi])∧σ=[some (.str row),some (.ref p),some (.ref t)]∧ar H2 H') ?_ ?_
  rotate_left
  ·intro u' hu
   walk_at "rd"
   refine bf (aO.of hp2) (show et _ ((1:Nat):Int)=_ from aU rfl) ?_
   walk_at "rd"
   refine⟨lo,iF (Nat.lt_of_lt_of_le b1 (Nat.pow_le_pow_right (by decide) (by decide))),by have:=nlen lo b1;omega,bf (aO.of hp2) (show et _ ((2:Nat):Int)=_ from aU rfl) ?_⟩
   walk_at "rd"
   exact⟨hi,iF (Nat.lt_of_lt_of_le b2 (Nat.pow_le_pow_right (by decide) (by decide))),by have:=nlen hi b2;omega,by omega,fun t ht=>hu _ _ ⟨t,ae,rfl,au ht⟩⟩
  rintro _ H3 ⟨t,ht,rfl,s23⟩
  walk_at "rd"
  refine qe (cA.of ht) (bA rfl) (qe (cA.of ht) (show et _ ((1:Nat):Int)=_ from aU rfl) ?_)
  walk_at "rd"
  rw [if_pos hle]
  exact q t _ ht ((s1.trans s12).trans s23)
 ·rw [hsp]at hp1
  walk_at "rd"
  refine⟨_,.inl (aO.of hp1),?_⟩
  by_cases h3:(((w0::ws).map V.str).length:Int)=3
  ·rw [if_pos h3]
   refine bf (aO.of hp1) (bA rfl) ?_
   walk_at "rd"
   rw [if_neg hw0]
   exact q _ s1
  ·rw [if_neg h3]
   exact q _ s1
end
section
variable {P:Program} {w:World} {K:PySem.W.Frag} {mg:Str→Option Value} {base:Heap} {aM:Addr}
theorem vF{f C C':Addr}{fd:FuncData}(F:cR K "read" "read" oU f fd)(T:Txt mg aM)(TC:cj K C)(D_voice_range:cE P w K mg base "voice_range" 10 ["row"] (lW K))(D_read_rule:cE P w K mg base "read_rule" 10 ["text","voices","row"] (eY P w K mg base))(DM_Score:dP P w K mg base "Score" C 9 ["self","ranges","rules"] (dB K C))(DX_not_too_wide:kA P w K mg base "not_too_wide" 10 ["score"] (hU P w K mg base C')):aE P w K mg base (kx P w) 11 f fd ["text"] (lV P w K mg base C C'):=by
 refine F.okX sc_read (fun vs H Q E h=>?_) (fun cdv A outer s H vs Q E hr h=>?_)
 ·obtain⟨text,bs,vr,Rs,rfl,_⟩:=h
  rfl
 obtain⟨text,bs,vr,Rs,rfl,htl,hsp,nv1,nv4,rl,hb,hR,q1,q2⟩:=h
 refine⟨_,(ag (ay (i:=1) sc_read.nd rfl (Or.inl rfl) (dH ah))
 (ag (ay (i:=2) sc_read.nd rfl (Or.inl rfl) (dH ah))
 (ag (PS.nox (cW PassesOwn.never rfl (ua rfl T.n_enumerate (aa (bH K PySem.F.plainAttrs_str PySem.F.slot_str_split PySem.F.type_str_split fX (pr 0) (aa aT ah)) ah)) (c7 K (n:=2) rfl (aY (aF (i:=3) sc_read.nd rfl (Or.inl rfl)) (aY (aF (i:=4) sc_read.nd rfl (Or.inl rfl)) c8)))
 (ag (ay (i:=5) sc_read.nd rfl (Or.inl rfl) (aK D_voice_range hr (by rfl) (aa (pr 4) ah)))
 (aj (ba (PW.pt (oO (bj (aB lA (pr 5) bh (aD _))) (oO (bj (aB (o0 tZ) (ax (aS K) (by rfl) T.n_len boot_len (aa (pr 1) ah)) (jJ T.g_MOST_VOICES) (aD _))) (p9 (bj (aB sj (ax (aS K) (by rfl) T.n_len boot_len (aa (pr 2) ah)) af (aD _))))))) (aj (bw (bH K PySem.F.plainAttrs_list PySem.F.slot_list_append PySem.F.type_list_append cL (pr 1) (aa (pr 5) ah)))) (aj (ba (PW.pt (bE (bj (aB sj (ax (aS K) (by rfl) T.n_len boot_len (aa (pr 1) ah)) af (aD _))) (bS (bj (aB sj (ax (aS K) (by rfl) T.n_len boot_len (aa (pr 2) ah)) (jJ T.g_MOST_RULES) (aD _)))))) (aj jc) (aj (bw (bH K PySem.F.plainAttrs_list PySem.F.slot_list_append PySem.F.type_list_append cL (pr 2) (aa (aK D_read_rule hr (by rfl) (aa (pr 4) (aa (ax (aS K) (by rfl) T.n_len boot_len (aa (pr 1) ah)) (aa (pr 3) ah)))) ah)))))))))))
 (aj (aw (vM DX_not_too_wide hr (by rfl) yV (aa (ig DM_Score hr (by rfl) (aa (pr 1) (aa (pr 2) ah))) ah))))))),?_⟩
 have hs:sizeLine=16777216:=sizeLine_eq
 refine aV (fun σ H'=>∃ra:Addr,H ra=none∧H' ra=some (.lst (([]:List Addr).map V.ref))∧σ=[some (.str text),some (.ref ra),none,none,none,none]∧ar H H') ?_ ?_
 rotate_left
 ·intro u' hu
  walk_at "rd"
  exact⟨by omega,fun p hp=>hu _ _ ⟨p,hp,ae,rfl,au hp⟩⟩
 rintro _ H1 ⟨ra,hra,hra1,rfl,s1⟩
 refine aV (fun σ H'=>∃ru:Addr,H ru=none∧ru≠ra∧H' ru=some (.lst (([]:List Addr).map V.ref))∧H' ra=some (.lst (([]:List Addr).map V.ref))∧σ=[some (.str text),some (.ref ra),some (.ref ru),none,none,none]∧ar H H') ?_ ?_
 rotate_left
 ·intro u' hu
  walk_at "rd"
  exact⟨by omega,fun p hp=>hu _ _ ⟨p,s1.free hp,(aq hra1 hp).symm,ae,(au hp) _ _ hra1,rfl,s1.upd hp⟩⟩
 clear hra1 s1
 rintro _ H2 ⟨ru,hru,rra,hru2,hra2,rfl,s2⟩
 refine aV (fun σ H'=>∃(ts rs:List Addr) (o3 o4 o5:Option V),σ=[some (.str text),some (.ref ra),some (.ref ru),o3,o4,o5]∧ts.length=bs.length∧rs.length=Rs.length∧H' ra=some (.lst (ts.map V.ref))∧H' ru=some (.lst (rs.map V.ref))∧(∀(j:Nat) (t:Addr) (b:Int×Int),ts[j]?=some t→bs[j]?=some b→H' t=some (.tup [.int b.1,.int b.2]))∧(∀(j:Nat) (r:Addr) (R:Str×Int),rs[j]?=some r→Rs[j]?=some R→ft P w K mg base R r H')∧ar H H') ?_ ?_
 rotate_left
 ·intro u' hu
  walk_at "rd"
  refine⟨10,by decide +kernel,by decide,by omega,fun sp hsp0=>?_⟩
  rw [hsp]
  have s3:ar H2 (upd H2 sp (.lst ((bs.map vr++Rs.map Prod.fst).map V.str))):=au hsp0
  have nsa:sp≠ra:=(aq hra2 hsp0).symm
  have nsu:sp≠ru:=(aq hru2 hsp0).symm
  obtain⟨Pv,hPv⟩:∃Pv:Nat→L2.St→Hp→Prop,Pv=fun i σ H'=>∃(ts rs:List Addr) (o3 o4 o5:Option V),σ=[some (.str text),some (.ref ra),some (.ref ru),o3,o4,o5]∧ts.length=min i bs.length∧rs.length=i - bs.length∧H' ra=some (.lst (ts.map V.ref))∧H' ru=some (.lst (rs.map V.ref))∧H' sp=some (.lst ((bs.map vr++Rs.map Prod.fst).map V.str))∧(∀(j:Nat) (t:Addr) (b:Int×Int),ts[j]?=some t→bs[j]?=some b→H' t=some (.tup [.int b.1,.int b.2]))∧(∀(j:Nat) (r:Addr) (R:Str×Int),rs[j]?=some r→Rs[j]?=some R→ft P w K mg base R r H')∧ar H H':=⟨_,rfl⟩
  refine⟨true,⟨_,aO.of ae⟩,oo (l:=true) (us:=(bs.map vr++Rs.map Prod.fst).map V.str) Pv
   (by rw [hPv];exact⟨[],[],none,none,none,rfl,by simp,by simp,s3 _ _ hra2,s3 _ _ hru2,ae,fun j t b e=>(by cases e),fun j r R e=>(by cases e),s2.trans s3⟩) (fun i σ H' _ h=>by rw [hPv]at h;obtain⟨_,_,_,_,_,_,_,_,_,_,h,_⟩:=h;exact aO.of h) ?_ ?_⟩
  ·rintro i y σ H4 p hx hI hp0
   have hI':=hI
   rw [hPv]at hI'
   clear hI
   obtain⟨ts,rs,o3,o4,o5,rfl,tl,rsl,ha4,hu4,hs4,ht4,hr4,s4⟩:=hI'
   have hi:i < bs.length+Rs.length:=by have:=(List.getElem?_eq_some_iff.mp hx).1;simpa using this
   rw [List.getElem?_map]at hx
   have sp5:ar H4 (upd H4 p (.tup [.int i,y])):=au hp0
   have hp5:(upd H4 p (.tup [.int i,y])) p=some (.tup [.int i,y]):=ae
   by_cases hv:i < bs.length
   ·-- a voice's row
    have eb:bs[i]?=some bs[i]:=List.getElem?_eq_getElem hv
    obtain⟨hrow,hle,_⟩:=hb _ (List.getElem_mem hv)
    rw [List.getElem?_append_left (by simpa using hv),List.getElem?_map,eb]at hx
    cases hx
    walk_at "rd"
    refine⟨_,cA.of hp5,rfl,?_⟩
    walk_at "rd"
    generalize upd H4 p (.tup [.int i,.str (vr bs[i])])=H5 at sp5 hp5
    refine⟨vr bs[i],rfl,by have:=hrow.len;omega,.inl ⟨_,_,hrow,hle,fun t H6 ht6 s56=>?_⟩⟩
    have s46:=sp5.trans s56
    walk_at "rd"
    refine⟨_,.inl (aO.of (s46 _ _ ha4)),?_⟩
    rw [if_pos (by rw [List.length_map];omega)]
    refine⟨_,.inl (aO.of (s46 _ _ hu4)),?_⟩
    rw [if_pos (by rw [List.length_map];omega)]
    have ha6:=s46 _ _ ha4
    refine⟨.inl ⟨rfl,_,aO.of ha6⟩,ra,_,_,rfl,rfl,ha6,by rw [List.length_map];omega,?_⟩
    have rs0:rs=[]:=List.length_eq_zero_iff.mp (by omega)
    subst rs0
    rw [hPv]
    refine⟨ts++[t],[],_,_,_,rfl,by simp;omega,by simp;omega,by rw [ae,List.map_append];rfl,by rw [ai rra];exact s46 _ _ hu4,by rw [ai nsa];exact s46 _ _ hs4,fun j t' b' e1 e2=>?_,fun j r R e=>(by cases e),fun c u hc=>?_⟩
    ·by_cases hj:j < ts.length
     ·rw [List.getElem?_append_left hj]at e1
      have:=s46 _ _ (ht4 j t' b' e1 e2)
      rw [ai (dw this ha6 (fun e=>by cases e))]
      exact this
     ·rw [List.getElem?_append_right (by omega)]at e1
      have ej:j=ts.length:=by
       have:=(List.getElem?_eq_some_iff.mp e1).1
       simp at this
       omega
      rw [ej,Nat.sub_self]at e1
      cases e1
      rw [show j=i by omega,eb]at e2
      cases e2
      rw [ai (dw ht6 ha6 (fun e=>by cases e))]
      exact ht6
    ·rw [ai (aq hc hra)]
     exact(s4.trans s46) _ _ hc
   ·-- a rule's row
    have hk:i - bs.length < Rs.length:=by omega
    have eR:Rs[i - bs.length]?=some (Rs[i - bs.length]'hk):=List.getElem?_eq_getElem hk
    obtain⟨hgd,_⟩:=hR _ (List.getElem_mem hk)
    obtain⟨hlen,w0,ws,hsw,hw0⟩:=hgd.words
    rw [List.getElem?_append_right (by simpa using hv),List.length_map,List.getElem?_map,eR]at hx
    cases hx
    walk_at "rd"
    refine⟨_,cA.of hp5,rfl,?_⟩
    walk_at "rd"
    generalize upd H4 p (.tup [.int i,.str (Rs[i - bs.length]'hk).1])=H5 at sp5 hp5
    refine⟨_,rfl,hlen,.inr ⟨w0,ws,hsw,hw0,fun H6 s56=>?_⟩⟩
    have s46:=sp5.trans s56
    walk_at "rd"
    refine⟨_,.inl (aO.of (s46 _ _ ha4)),?_⟩
    rw [if_neg (by rw [List.length_map];omega)]
    refine⟨_,.inl (aO.of (s46 _ _ hu4)),?_⟩
    rw [if_neg (by rw [List.length_map];omega)]
    refine⟨.inl ⟨rfl,_,aO.of (s46 _ _ hu4)⟩,_,.inl (aO.of (s46 _ _ ha4)),?_⟩
    rw [List.length_map,show ts.length=bs.length by omega]
    refine⟨i,_,_,bs.length,rfl,hgd,fun r H7 hr7 s67=>?_⟩
    have s47:=s46.trans s67
    have hu7:=s47 _ _ hu4
    refine⟨ru,_,_,rfl,rfl,hu7,by rw [List.length_map];omega,?_⟩
    rw [hPv]
    refine⟨ts,rs++[r],_,_,_,rfl,by omega,by simp;omega,by rw [ai rra.symm];exact s47 _ _ ha4,by rw [ae,List.map_append];rfl,by rw [ai nsu];exact s47 _ _ hs4,fun j t' b' e1 e2=>?_,fun j r' R' e1 e2=>?_,fun c u hc=>?_⟩
    ·have:=s47 _ _ (ht4 j t' b' e1 e2)
     rw [ai (dw this hu7 (fun e=>by cases e))]
     exact this
    ·by_cases hj:j < rs.length
     ·rw [List.getElem?_append_left hj]at e1
      exact((hr4 j r' R' e1 e2).same s47).stab hu7
     ·rw [List.getElem?_append_right (by omega)]at e1
      have ej:j=rs.length:=by
       have:=(List.getElem?_eq_some_iff.mp e1).1
       simp at this
       omega
      rw [ej,Nat.sub_self]at e1
      cases e1
      rw [show j=i - bs.length by omega,eR]at e2
      cases e2
      exact hr7.stab hu7
    ·rw [ai (aq hc hru)]
     exact(s4.trans s47) _ _ hc
  ·intro σ H4 hI
   rw [hPv]at hI
   obtain⟨ts,rs,o3,o4,o5,rfl,tl,rsl,ha4,hu4,hs4,ht4,hr4,s4⟩:=hI
   rw [List.length_map,List.length_append,List.length_map,List.length_map]at tl rsl
   exact hu _ _ ⟨ts,rs,o3,o4,o5,rfl,by omega,by omega,ha4,hu4,ht4,hr4,s4⟩
 clear hra2 hru2 s2
 clear H2
 rintro _ H2 ⟨ts,rs,o3,o4,o5,rfl,tl,rsl,ha2,hu2,ht2,hr2,s2⟩
 walk_at "rd"
 intro x dx hx hdx dxx
 have s3:ar H2 (upd (upd H2 dx (.own x)) x (.ins C dx [])):=(au hdx).upd (by rw [ai dxx.symm];exact hx)
 refine⟨x,dx,ra,ru,ts.map V.ref,rs.map V.ref,rfl,ae,s3.seq (aO.of ha2),s3.seq (aO.of hu2),fun p q' H' hp hq hqp e=>⟨rfl,?_⟩⟩
 have px:p≠x:=fun e=>by subst e;rw [ae]at hp;cases hp
 have qx:q'≠x:=fun e=>by subst e;rw [ae]at hq;cases hq
 have s4:ar H2 H':=fun c u hc=>by
  have h3:=s3 _ _ hc
  have cx:c≠x:=aq hc hx
  rw [e,ai cx,ai (aq h3 hq),ai (aq h3 hp)]
  exact h3
 have SA:bU P w K mg base C bs Rs x H':=⟨dx,p,q',by rw [e,ae],⟨ts,aO.of (by rw [e,ai px,ai hqp.symm,ae]),tl,fun i t b e1 e2=>cA.of (s4 _ _ (ht2 i t b e1 e2))⟩,⟨rs,aO.of (by rw [e,ai qx,ae]),rsl,fun j r R e1 e2=>(hr2 j r R e1 e2).same s4⟩⟩
 exact⟨x,C,bs,Rs,rfl,TC,SA,by omega,by omega,fun b hb'=>(hb b hb').2.2,fun R hR'=>(hR R hR').2,fun h=>q1 h x H' SA (s2.trans s4),fun h a d H5 hw s5=>q2 h a d H5 hw ((s2.trans s4).trans s5)⟩
end
def wN(b:Int×Int):Nat:=(b.2 - b.1+1).toNat
def fm(b:Int×Int)(c:List Int):List (List Int):=(List.range (wN b)).map fun(j:Nat)=>c++[b.1+(j:Int)]
def bZ(bs:List (Int×Int)):List (List Int):=bs.foldl (fun told b=>told.flatMap (fm b)) [[]]
def e8(bs:List (Int×Int)):Nat:=bs.foldl (fun t b=>t * wN b) 1
theorem iQ(bs:List (Int×Int))(b:Int×Int):bZ (bs++[b])=(bZ bs).flatMap (fm b):=by
 unfold bZ
 rw [List.foldl_append]
 rfl
theorem mv(bs:List (Int×Int))(b:Int×Int):e8 (bs++[b])=e8 bs * wN b:=by
 unfold e8
 rw [List.foldl_append]
 rfl
theorem iV{α β:Type}{w:Nat}{f:α→List β}(h:∀x,(f x).length=w):∀l:List α,(l.flatMap f).length=l.length * w
 | []=>by simp
 | x::l=>by rw [List.flatMap_cons,List.length_append,h,iV h l,List.length_cons,Nat.add_mul,Nat.one_mul,Nat.add_comm]
theorem pY{α β:Type}{w:Nat}{f:α→List β}(hw:0 < w)(h:∀x,(f x).length=w):∀(l:List α) (k:Nat),(l.flatMap f)[k]?=(l[k / w]?).bind fun x=>(f x)[k % w]?
 | [],k=>by simp
 | x::l,k=>by
  rw [List.flatMap_cons]
  by_cases hk:k < w
  ·rw [List.getElem?_append_left (by rw [h];exact hk),Nat.div_eq_of_lt hk,Nat.mod_eq_of_lt hk]
   rfl
  ·rw [List.getElem?_append_right (by rw [h];omega),h,pY hw h l (k - w)]
   have e1:k / w=(k - w) / w+1:=by
    rw [Nat.div_eq_sub_div hw (by omega)]
   have e2:k % w=(k - w) % w:=by rw [Nat.mod_eq_sub_mod (by omega)]
   rw [e1,e2]
   rfl
theorem eB(b:Int×Int)(c:List Int):(fm b c).length=wN b:=by
 unfold fm
 rw [List.length_map,List.length_range]
theorem sy{bs:List (Int×Int)}{b:Int×Int}{k:Nat}{c:List Int}(hw:0 < wN b)(h:(bZ (bs++[b]))[k]?=some c):∃p,(bZ bs)[k / wN b]?=some p∧c=p++[b.1+((k % wN b:Nat):Int)]:=by
 rw [iQ,pY hw (eB b)]at h
 cases e:(bZ bs)[k / wN b]? with
 | none=>rw [e]at h;cases h
 | some p=>
  rw [e]at h
  have h:(fm b p)[k % wN b]?=some c:=h
  unfold fm at h
  rw [List.getElem?_map,List.getElem?_range (Nat.mod_lt _ hw)]at h
  exact⟨p,rfl,(Option.some.inj h).symm⟩
theorem gF(bs:List (Int×Int)):(bZ bs).length=e8 bs:=by
 have go:∀(bs:List (Int×Int)) (told:List (List Int)),(bs.foldl (fun told b=>told.flatMap (fm b)) told).length=bs.foldl (fun t b=>t * wN b) told.length:=by
  intro bs
  induction bs with
  | nil=>intro told;rfl
  | cons b bs ih=>intro told;rw [List.foldl_cons,List.foldl_cons,ih,iV (eB b)]
 exact go bs [[]]
theorem ma{bs:List (Int×Int)}(h:∀b∈bs,b.1≤b.2):gw bs=(e8 bs:Int):=by
 have go:∀(bs:List (Int×Int)) (t:Nat),(∀b∈bs,b.1≤b.2)→bs.foldl (fun t b=>t * dZ b) (t:Int)=((bs.foldl (fun t b=>t * wN b) t:Nat):Int):=by
  intro bs
  induction bs with
  | nil=>intro t _;rfl
  | cons b bs ih=>
   intro t hb
   have:=hb b (by simp)
   rw [List.foldl_cons,List.foldl_cons,←ih _ fun x hx=>hb x (by simp [hx]),Int.natCast_mul]
   congr 2
   unfold dZ wN
   omega
 exact go bs 1 h
theorem nQ:∀(bs:List (Int×Int)) (t:Nat),(∀b∈bs,1≤wN b)→t≤bs.foldl (fun t b=>t * wN b) t
 | [],t,_=>Nat.le_refl _
 | b::bs,t,h=>Nat.le_trans (Nat.le_mul_of_pos_right t (h b (by simp))) (nQ bs _ fun x hx=>h x (by simp [hx]))
theorem iP{bs:List (Int×Int)}(h:∀b∈bs,1≤wN b)(i:Nat):1≤e8 (bs.take i)∧e8 (bs.take i)≤e8 bs:=by
 refine⟨nQ _ 1 fun b hb=>h b (List.mem_of_mem_take hb),?_⟩
 conv=>rhs;unfold e8;rw [←List.take_append_drop i bs,List.foldl_append]
 exact nQ _ _ fun b hb=>h b (List.mem_of_mem_drop hb)
theorem w4{bs:List (Int×Int)}(h:∀b∈bs,1≤wN b){i:Nat}{b:Int×Int}(hb:bs[i]?=some b):wN b≤e8 bs:=by
 have h1:=(iP h (i+1)).2
 rw [List.take_add_one,hb]at h1
 have h2:e8 (bs.take i++[b])=e8 (bs.take i) * wN b:=mv _ _
 have h3:=(iP h i).1
 refine Nat.le_trans ?_ h1
 show wN b≤e8 (bs.take i++[b])
 rw [h2]
 exact Nat.le_mul_of_pos_left _ h3
theorem wZ{H H':Hp}{q:Addr}{x:HO}(h0:H q=none)(s:ar H H'):ar H (upd H' q x):=fun b o hb=>by
 rw [ai (aq hb h0)]
 exact s _ _ hb
def gD(H:Hp)(ps:List Addr)(cols:List (List Int)):Prop:=ps.length=cols.length∧∀(i:Nat) (p:Addr) (us:List Int),ps[i]?=some p→cols[i]?=some us→H p=some (.tup (us.map V.int))
def bN(H:Hp)(q:Addr)(cols:List (List Int)):Prop:=∃ps:List Addr,H q=some (.lst (ps.map V.ref))∧gD H ps cols
theorem gD.same{H H':Hp}{ps:List Addr}{cols:List (List Int)}(h:gD H ps cols)(s:ar H H'):gD H' ps cols:=⟨h.1,fun i p us e1 e2=>s _ _ (h.2 i p us e1 e2)⟩
theorem gD.upd{H:Hp}{ps:List Addr}{cols:List (List Int)}{z:Addr}{xs ys:List V}(h:gD H ps cols)(hz:H z=some (.lst xs)):gD (upd H z (.lst ys)) ps cols:=⟨h.1,fun i p us e1 e2=>by
 have:=h.2 i p us e1 e2
 rw [ai (dw this hz (fun e=>by cases e))]
 exact this⟩
theorem gD.append{H:Hp}{ps qs:List Addr}{cols dols:List (List Int)}(h:gD H ps cols)(g:gD H qs dols):gD H (ps++qs) (cols++dols):=by
 refine⟨by rw [List.length_append,List.length_append,h.1,g.1],fun i p us e1 e2=>?_⟩
 by_cases hi:i < ps.length
 ·rw [List.getElem?_append_left hi]at e1
  rw [List.getElem?_append_left (by rw [←h.1];exact hi)]at e2
  exact h.2 i p us e1 e2
 ·rw [List.getElem?_append_right (by omega)]at e1
  rw [List.getElem?_append_right (by rw [←h.1];omega),←h.1]at e2
  exact g.2 _ p us e1 e2
theorem eA(bs:List (Int×Int)):∀c∈bZ bs,c.length=bs.length:=by
 have go:∀(bs:List (Int×Int)) (told:List (List Int)) (n:Nat),(∀c∈told,c.length=n)→∀c∈bs.foldl (fun told b=>told.flatMap (fm b)) told,c.length=n+bs.length:=by
  intro bs
  induction bs with
  | nil=>intro told n h c hc;exact h c hc
  | cons b bs ih=>
   intro told n h c hc
   rw [List.foldl_cons]at hc
   have:=ih _ (n+1) (fun c hc=>by
    obtain⟨d,hd,hc⟩:=List.mem_flatMap.mp hc
    unfold fm at hc
    obtain⟨j,_,rfl⟩:=List.mem_map.mp hc
    rw [List.length_append,h d hd]
    rfl) c hc
   rw [this,List.length_cons]
   omega
 intro c hc
 have:=go bs [[]] 0 (fun c hc=>by rw [List.mem_singleton.mp hc];rfl) c hc
 omega
theorem bN.same{H H':Hp}{q:Addr}{cols:List (List Int)}(s:ar H H')(h:bN H q cols):bN H' q cols:=by
 obtain⟨ps,h1,h2⟩:=h
 exact⟨ps,s _ _ h1,h2.same s⟩
def uC(K:PySem.W.Frag):Sp:=fun vs H Q _=>∃(c:Addr) (us:List Int) (b:Int×Int),vs=[.ref c,.int b.1,.int b.2]∧H c=some (.tup (us.map V.int))∧us.length≤10∧wN b≤400∧∀q H',H q=none→bN H' q (fm b us)→ar H H'→Q (.ref q) H'
def hJ(P:Program)(w:World)(K:PySem.W.Frag)(mg:Str→Option Value)(base:Heap):Sp:=fun vs H Q _=>∃(x C:Addr) (bs:List (Int×Int)) (Rs:List (Str×Int)),vs=[.ref x]∧cj K C∧bU P w K mg base C bs Rs x H∧bs.length≤4∧(∀b∈bs,1≤wN b)∧e8 bs≤400∧∀q H',H q=none→bN H' q (bZ bs)→ar H H'→Q (.ref q) H'
section
variable {P:Program} {w:World} {K:PySem.W.Frag} {mg:Str→Option Value} {base:Heap} {aM:Addr}
theorem jE{f:Addr}{fd:FuncData}(F:cR K "lengthened" "lengthened" d7 f fd)(T:Txt mg aM):aE P w K mg base b8 1 f fd ["column","low","high"] (uC K):=by
 refine F.ok jO (fun vs H Q E h=>?_) (fun cdv A outer s H vs Q E hr h=>?_)
 ·obtain⟨c,us,b,rfl,_⟩:=h
  rfl
 obtain⟨c,us,b,rfl,hc,hu,hw,k⟩:=h
 refine⟨_,(aj (aw (dz (own:=["note"]) (js:=[0]) rfl (oK rfl T.n_range (aa (pr 1) (aa (ao (wV K) (pr 2) af) ah))) (aZ.of (by rfl)) (fun _ _ _ _ _=>(aF (i:=0) (show List.Nodup (["note","column"]:List Str)from by decide +kernel) rfl (Or.inl rfl))) (fun _ _ _ _ _=>cD) (fun _ _ _ _ _=>(ao (wV K) (pr 1) (cw (aa (pr 0) ah))))))),?_⟩
 have hs:sizeLine=16777216:=sizeLine_eq
 walk_at "rd"
 have ek:(b.2+1 - b.1).toNat=wN b:=by unfold wN;omega
 rw [ek]
 refine ez (fun i ys H'=>∃ps:List Addr,ys=ps.map V.ref∧ps.length=i∧(∀(j:Nat) (p:Addr),ps[j]?=some p→H' p=some (.tup ((us++[b.1+(j:Int)]).map V.int)))∧ar H H') (by omega) ⟨[],rfl,rfl,(fun j p e=>nomatch e),ar.refl _⟩ ?_ ?_ ?_
 ·rintro i ys H' ⟨ps,rfl,hl,_⟩
  rw [List.length_map];omega
 ·rintro i ys H1 hi ⟨ps,rfl,hl,hp,s1⟩
  simp only [eu]
  walk_at "rd"
  refine⟨by omega,fun t ht=>?_⟩
  have s2:=s1.upd (o:=HO.tup [V.int (b.1+i)]) ht
  have ht2:(upd H1 t (HO.tup [V.int (b.1+i)])) t=some (.tup [V.int (b.1+i)]):=ae
  have s12:ar H1 (upd H1 t (HO.tup [V.int (b.1+i)])):=au ht
  generalize upd H1 t (HO.tup [V.int (b.1+i)])=H2 at s2 ht2 s12
  refine uk (s2 _ _ hc) ht2 (by rw [List.length_map];simp;omega) fun p H3 s3 hp3=>?_
  refine⟨ps++[p],by rw [List.map_append];rfl,by rw [List.length_append,hl];rfl,fun j p' e=>?_,s2.trans s3⟩
  by_cases hj:j < ps.length
  ·rw [List.getElem?_append_left hj]at e
   exact(s12.trans s3) _ _ (hp j p' e)
  ·rw [List.getElem?_append_right (by omega)]at e
   have ej:j=ps.length:=by
    have:=(List.getElem?_eq_some_iff.mp e).1
    simp at this
    omega
   rw [ej,Nat.sub_self]at e
   cases e
   rw [hp3,ej,hl,List.map_append]
   rfl
 ·rintro ys H1 ⟨ps,rfl,hl,hp,s1⟩ q hq
  refine k q _ (s1.free hq) ⟨ps,ae,by rw [eB];exact hl,fun i p us' e1 e2=>?_⟩ (s1.upd hq)
  have hi:i < wN b:=by rw [←hl];exact(List.getElem?_eq_some_iff.mp e1).1
  unfold fm at e2
  rw [List.getElem?_map,List.getElem?_range hi]at e2
  cases e2
  exact(au hq) _ _ (hp i p e1)
theorem oA{f:Addr}{fd:FuncData}(F:cR K "columns" "columns" gT f fd)(T:Txt mg aM)(D_lengthened:cE P w K mg base "lengthened" 1 ["column","low","high"] (uC K)):aE P w K mg base b8 2 f fd ["score"] (hJ P w K mg base):=by
 refine F.ok sc_columns (fun vs H Q E h=>?_) (fun cdv A outer s H vs Q E hr h=>?_)
 ·obtain⟨x,C,bs,Rs,rfl,_⟩:=h
  rfl
 obtain⟨x,C,bs,Rs,rfl,TC,⟨dx,a,b,hx,⟨ts,hts,htl,htc⟩,_⟩,lb,hw,hc,k⟩:=h
 refine⟨_,(ag (ay (i:=1) sc_columns.nd rfl (Or.inl rfl) (dH (aa (cw ah) ah)))
 (ag (cW PassesOwn.never rfl (bI K (dm (pr 0) rfl)) (c7 K (n:=2) rfl (aY (aF (i:=2) sc_columns.nd rfl (Or.inl rfl)) (aY (aF (i:=3) sc_columns.nd rfl (Or.inl rfl)) c8)))
 (ag (ay (i:=4) sc_columns.nd rfl (Or.inl rfl) (dH ah))
 (ag (cW PassesOwn.never rfl (bI K (pr 1)) (aF (i:=5) sc_columns.nd rfl (Or.inl rfl))
 (aj (bw (bH K PySem.F.plainAttrs_list PySem.F.slot_list_extend PySem.F.type_list_extend j8 (pr 4) (aa (aK D_lengthened hr (by rfl) (aa (pr 5) (aa (pr 2) (aa (pr 3) ah)))) ah)))))
 (aj (ay (i:=1) sc_columns.nd rfl (Or.inl rfl) (pr 4))))))
 (aj (aw (pr 1))))),?_⟩
 have hs:sizeLine=16777216:=sizeLine_eq
 refine aV (fun σ H'=>∃q:Addr,H q=none∧bN H' q (bZ [])∧σ=[some (.ref x),some (.ref q),none,none,none,none]∧ar H H') ?_ ?_
 rotate_left
 ·intro u' hu
  walk_at "rd"
  refine⟨by omega,fun t ht=>⟨by omega,fun q hq=>?_⟩⟩
  have s1:=au (o:=HO.tup []) ht
  refine hu _ _ ⟨q,s1.free hq,⟨[t],ae,rfl,fun i p us e1 e2=>?_⟩,rfl,s1.upd hq⟩
  have hi:i=0:=by
   have:=(List.getElem?_eq_some_iff.mp e1).1
   simp at this
   exact this
  subst hi
  cases e1
  cases e2
  exact(au hq) _ _ ae
 rintro _ H1 ⟨q,hq0,hq1,rfl,s1⟩
 refine aV (fun σ H'=>∃(q:Addr) (o2 o3 o4 o5:Option V),H q=none∧bN H' q (bZ bs)∧σ=[some (.ref x),some (.ref q),o2,o3,o4,o5]∧ar H H') ?_ ?_
 rotate_left
 ·intro u' hu
  walk_at "rd"
  refine⟨C,dx,_,s1 _ _ hx,TC.cl,TC.n1,_,fc a b,bK (s1.seq hts) (cJ (xs:=ts.map V.ref) (fun i σ H'=>∃(q:Addr) (o2 o3 o4 o5:Option V),H q=none∧bN H' q (bZ (bs.take i))∧σ=[some (.ref x),some (.ref q),o2,o3,o4,o5]∧ar H H') ⟨q,none,none,none,none,hq0,hq1,rfl,s1⟩ (fun i σ H' _ h=>?_) ?_ ?_)⟩
  ·obtain⟨_,_,_,_,_,_,_,_,s'⟩:=h
   exact s'.seq hts
  ·rintro i y σ H2 hy ⟨q,o2,o3,o4,o5,hq0,⟨ps,hq2,hpc⟩,rfl,s2⟩
   rw [List.getElem?_map]at hy
   cases ht:ts[i]? with
   | none=>rw [ht]at hy;cases hy
   | some t=>
    rw [ht]at hy
    cases hy
    have hi:i < bs.length:=by rw [←htl];exact(List.getElem?_eq_some_iff.mp ht).1
    have hb:bs[i]?=some bs[i]:=List.getElem?_eq_getElem hi
    walk_at "rd"
    refine⟨_,s2.tup (htc i t _ ht hb),rfl,?_⟩
    walk_at "rd"
    refine⟨by omega,fun p hp=>?_⟩
    have s23:=au (o:=HO.lst []) hp
    have hp3:(upd H2 p (HO.lst [])) p=some (.lst (([]:List Addr).map V.ref)):=ae
    have hH3:=hp3
    generalize upd H2 p (HO.lst [])=H3 at s23 hp3
    have ew:wN bs[i]≤400:=Nat.le_trans (w4 hw hb) hc
    have en:e8 (bs.take (i+1))=e8 (bs.take i) * wN bs[i]:=by
     rw [List.take_add_one,hb]
     exact mv _ _
    have en':=(iP hw (i+1)).2
    have ec:bZ (bs.take (i+1))=(bZ (bs.take i)).flatMap (fm bs[i]):=by
     rw [List.take_add_one,hb]
     exact iQ _ _
    have ewd:=eA (bs.take i)
    have ecl:=gF (bs.take i)
    have hpl:=hpc.1
    rw [ec]
    generalize bs[i]=b at *
    generalize bZ (bs.take i)=cols at *
    refine bK (aO.of (s23 _ _ hq2)) (cJ (xs:=ps.map V.ref) (fun j σ H'=>∃(o5:Option V) (ps':List Addr),H' p=some (.lst (ps'.map V.ref))∧gD H' ps' ((cols.take j).flatMap (fm b))∧ar H2 H'∧σ=[some (V.ref x),some (V.ref q),some (V.int b.1),some (V.int b.2),some (V.ref p),o5]) ⟨o5,[],hp3,⟨rfl,fun i p us e=>nomatch e⟩,s23,rfl⟩ (fun j σ H' _ h=>?_) ?_ ?_)
    ·obtain⟨_,_,_,_,s',_⟩:=h
     exact aO.of (s' _ _ hq2)
    ·rintro j y σ H4 hy ⟨o5,ps',hp4,hT,s24,rfl⟩
     rw [List.getElem?_map]at hy
     cases hcj:ps[j]? with
     | none=>rw [hcj]at hy;cases hy
     | some c=>
      rw [hcj]at hy
      cases hy
      have hj:j < cols.length:=by rw [←hpl];exact(List.getElem?_eq_some_iff.mp hcj).1
      have hcc:cols[j]?=some cols[j]:=List.getElem?_eq_getElem hj
      have hus:=hpc.2 j c _ hcj hcc
      have hul:=ewd _ (List.getElem_mem hj)
      have estep:(cols.take (j+1)).flatMap (fm b)=(cols.take j).flatMap (fm b)++fm b cols[j]:=by
       rw [List.take_add_one,hcc,List.flatMap_append]
       simp
      rw [estep]
      generalize cols[j]=us at *
      walk_at "rd"
      refine⟨.inl ⟨rfl,_,aO.of hp4⟩,c,us,b,rfl,s24 _ _ hus,by rw [hul,List.length_take];omega,ew,fun r H5 hr0 hr5 s45=>?_⟩
      obtain⟨rs,hr5,hrT⟩:=hr5
      have hp5:=s45 _ _ hp4
      have l1:ps'.length≤400:=by
       rw [hT.1,iV (eB b),List.length_take]
       refine Nat.le_trans (Nat.mul_le_mul_right _ (Nat.min_le_right _ _)) ?_
       rw [ecl,←en]
       omega
      have l2:rs.length≤400:=by rw [hrT.1,eB];exact ew
      refine⟨p,r,_,_,rfl,rfl,hp5,hr5,by rw [List.length_map,List.length_map];omega,some (.ref c),ps' ++ rs,by rw [ae,List.map_append],((hT.same s45).append hrT).upd hp5,wZ hp (s24.trans s45),rfl⟩
    ·rintro σ H4 ⟨o5,ps',hp4,hT,s24,rfl⟩
     rw [List.length_map,hpl,List.take_length]at hT
     walk_at "rd"
     exact⟨p,s2.free hp,⟨ps',hp4,hT⟩,rfl,s2.trans s24⟩
  ·rintro σ H2 ⟨q,o2,o3,o4,o5,hq0,hq2,rfl,s2⟩
   rw [List.length_map,htl,List.take_length]at hq2
   exact hu _ _ ⟨q,o2,o3,o4,o5,hq0,hq2,rfl,s2⟩
 rintro _ H2 ⟨q,o2,o3,o4,o5,hq0,hq2,rfl,s2⟩
 walk_at "rd"
 exact k q H2 hq0 hq2 s2
end
def jQ(b:Int×Int):Str:=Str.ofString "voice " ++ aP b.1++Str.ofString " " ++ aP b.2
def cg(bs:List (Int×Int))(Rs:List (Str×Int)):List Str:=bs.map jQ++Rs.map Prod.fst
def bM(bs:List (Int×Int))(Rs:List (Str×Int)):Str:=Txt.join (Str.ofString "\n") (cg bs Rs)
theorem aA(a b:Str):(a++b).length=a.length+b.length:=by
 show(a.cps++b.cps).size=a.cps.size+b.cps.size
 exact Array.size_append
theorem cC{n:Int}(h:n.natAbs < 10 ^ 40):(aP n).length≤41:=f9 h
theorem bW{n:Int}(h:n.natAbs < 10 ^ 40):n.natAbs.log2 < 1920:=by
 by_cases h0:n.natAbs=0
 ·rw [h0];decide
 ·exact(Nat.log2_lt h0).mpr (Nat.lt_of_lt_of_le h (by decide +kernel))
theorem qX(z:Str):Str.empty++z=z:=str_iff.mpr (by rw [dR];rfl)
theorem nH{b:Int×Int}(h1:b.1.natAbs < 10 ^ 40)(h2:b.2.natAbs < 10 ^ 40):(jQ b).length≤89:=by
 have e1:(Str.ofString "voice ").length=6:=by decide +kernel
 have e2:(Str.ofString " ").length=1:=by decide +kernel
 have:=cC h1
 have:=cC h2
 unfold jQ
 rw [aA,aA,aA]
 omega
def gp(P:Program)(w:World)(K:PySem.W.Frag)(mg:Str→Option Value)(base:Heap):Sp:=fun vs H Q _=>∃(x C:Addr) (bs:List (Int×Int)) (Rs:List (Str×Int)),vs=[.ref x]∧cj K C∧bU P w K mg base C bs Rs x H∧bs.length≤4∧Rs.length≤12∧(∀b∈bs,b.1.natAbs < 10 ^ 40∧b.2.natAbs < 10 ^ 40)∧(∀R∈Rs,R.1.length≤20000)∧∀H',ar H H'→Q (.str (bM bs Rs)) H'
section
variable {P:Program} {w:World} {K:PySem.W.Frag} {mg:Str→Option Value} {base:Heap} {aM:Addr}
theorem tY{f:Addr}{fd:FuncData}(F:cR K "shown" "shown" lK f fd)(T:Txt mg aM):aE P w K mg base b8 8 f fd ["score"] (gp P w K mg base):=by
 refine F.ok sc_shown (fun vs H Q E h=>?_) (fun cdv A outer s H vs Q E hr h=>?_)
 ·obtain⟨x,C,bs,Rs,rfl,_⟩:=h
  rfl
 obtain⟨x,C,bs,Rs,rfl,TC,⟨dx,a,b,hx,⟨ts,hts,htl,htc⟩,⟨rs,hrs,hrl,hrc⟩⟩,lb,lr,hb,hR,k⟩:=h
 refine⟨_,(ag (fF (i:=1) sc_shown.nd rfl (Or.inl rfl) (own:=["low","high"]) (js:=[]) rfl (bI K (dm (pr 0) rfl)) (aZ.of (by rfl)) (fun _ _ _ _ _=>(c7 K (n:=2) rfl (aY (aF (i:=0) (show List.Nodup (["low","high"]:List Str)from by decide +kernel) rfl (Or.inl rfl)) (aY (aF (i:=1) (show List.Nodup (["low","high"]:List Str)from by decide +kernel) rfl (Or.inl rfl)) c8)))) (fun _ _ _ _ _=>cD) (fun _ _ _ _ _=>(vO (ue (ud (pr 0) (ue (ud (pr 1) xK)))))) rfl)
 (ag (bw (bH K PySem.F.plainAttrs_list PySem.F.slot_list_extend PySem.F.type_list_extend j8 (pr 1) (aa (dz (own:=["rule"]) (js:=[]) rfl (bI K (dm (pr 0) rfl)) (aZ.of (by rfl)) (fun _ _ _ _ _=>(aF (i:=0) (show List.Nodup (["rule"]:List Str)from by decide +kernel) rfl (Or.inl rfl))) (fun _ _ _ _ _=>cD) (fun _ _ _ _ _=>(kd P w K mg base hr (pr 0)))) ah)))
 (aj (aw (bH K PySem.F.plainAttrs_str PySem.F.slot_str_join PySem.F.type_str_join (mS K) aT (aa (pr 1) ah)))))),?_⟩
 have hs:sizeLine=16777216:=sizeLine_eq
 refine aV (fun σ H'=>∃q:Addr,H q=none∧H' q=some (.lst ((bs.map jQ).map V.str))∧σ=[some (.ref x),some (.ref q)]∧ar H H') ?_ ?_
 rotate_left
 ·intro u' hu
  walk_at "rd"
  refine⟨C,dx,_,hx,TC.cl,TC.n1,_,fc a b,bK hts (cv (xs:=ts.map V.ref) (fun i ys H'=>ys=((bs.take i).map jQ).map V.str∧H=H') (by rw [List.length_map];omega) ⟨rfl,rfl⟩ ?_ ?_ ?_ ?_)⟩
  ·rintro i ys H' ⟨rfl,rfl⟩
   rw [List.length_map,List.length_map,List.length_take]
   omega
  ·rintro i ys H' ⟨rfl,rfl⟩
   exact hts
  ·rintro i y ys H' hy ⟨rfl,rfl⟩
   rw [List.getElem?_map]at hy
   cases ht:ts[i]? with
   | none=>rw [ht]at hy;cases hy
   | some t=>
    rw [ht]at hy
    cases hy
    have hi:i < bs.length:=by rw [←htl];exact(List.getElem?_eq_some_iff.mp ht).1
    have hbi:bs[i]?=some bs[i]:=List.getElem?_eq_getElem hi
    simp only [eu]
    walk_at "rd"
    refine⟨_,htc i t _ ht hbi,rfl,?_⟩
    walk_at "rd"
    obtain⟨n1,n2⟩:=hb _ (List.getElem_mem hi)
    rw [qX]
    have e1:(Str.ofString "voice ").length=6:=by decide +kernel
    have e2:(Str.ofString " ").length=1:=by decide +kernel
    have:=cC n1
    have:=cC n2
    refine⟨by omega,bW n1,by rw [aA];omega,by rw [aA,aA];omega,bW n2,by rw [aA,aA,aA];omega,by rw [aA,aA,aA];omega,?_⟩
    rw [List.take_add_one,hbi,List.map_append,List.map_append]
    rfl
  ·rintro ys H' ⟨rfl,rfl⟩ q hq
   rw [List.length_map,htl,List.take_length]
   exact hu _ _ ⟨q,hq,ae,rfl,au hq⟩
 rintro _ H1 ⟨q,hq0,hq1,rfl,s1⟩
 refine aV (fun σ H'=>H' q=some (.lst ((cg bs Rs).map V.str))∧σ=[some (.ref x),some (.ref q)]∧ar H H') ?_ ?_
 rotate_left
 ·intro u' hu
  walk_at "rd"
  refine⟨.inl ⟨rfl,_,aO.of hq1⟩,C,dx,_,s1 _ _ hx,TC.cl,TC.n2,_,i4 a b,bK (s1.seq hrs) (cv (xs:=rs.map V.ref) (fun i ys H'=>ys=((Rs.take i).map Prod.fst).map V.str∧H1=H') (by rw [List.length_map];omega) ⟨rfl,rfl⟩ ?_ ?_ ?_ ?_)⟩
  ·rintro i ys H' ⟨rfl,rfl⟩
   rw [List.length_map,List.length_map,List.length_take]
   omega
  ·rintro i ys H' ⟨rfl,rfl⟩
   exact s1.seq hrs
  ·rintro i y ys H' hy ⟨rfl,rfl⟩
   rw [List.getElem?_map]at hy
   cases ht:rs[i]? with
   | none=>rw [ht]at hy;cases hy
   | some r=>
    rw [ht]at hy
    cases hy
    have hi:i < Rs.length:=by rw [←hrl];exact(List.getElem?_eq_some_iff.mp ht).1
    have hRi:Rs[i]?=some Rs[i]:=List.getElem?_eq_getElem hi
    obtain⟨Cr,RI,RB,_,hri⟩:=(hrc i r _ ht hRi).same s1
    obtain⟨dr,fr,hir,_,q2⟩:=RB.ins r _ hri
    simp only [eu]
    walk_at "rd"
    refine⟨Cr,dr,fr,hir,q2,_,_,RB.shown,r,rfl,hri,?_⟩
    rw [List.take_add_one,hRi,List.map_append,List.map_append]
    exact⟨rfl,rfl⟩
  ·rintro ys H' ⟨rfl,rfl⟩ p hp
   rw [List.length_map,hrl,List.take_length]
   have pq:q≠p:=aq hq1 hp
   refine⟨q,p,_,_,rfl,rfl,by rw [ai pq];exact hq1,ae,by simp;omega,hu _ _ ⟨?_,rfl,wZ hq0 (s1.upd hp)⟩⟩
   rw [ae]
   unfold cg
   rw [List.map_append]
 rintro _ H2 ⟨hq2,rfl,s2⟩
 walk_at "rd"
 refine⟨cg bs Rs,aO.of hq2,?_,k _ s2⟩
 have hl:∀z∈cg bs Rs,z.length≤20000:=fun z hz=>by
  rcases List.mem_append.mp hz with hz | hz
  ·obtain⟨b,hb',rfl⟩:=List.mem_map.mp hz
   have:=nH (hb b hb').1 (hb b hb').2
   omega
  ·obtain⟨R,hR',rfl⟩:=List.mem_map.mp hz
   exact hR R hR'
 have h1:=StrLaws.sumLen_le (B:=20000) (cg bs Rs) hl
 have e1:(Str.ofString "\n").length=1:=by decide +kernel
 have l16:(cg bs Rs).length≤16:=by
  unfold cg
  rw [List.length_append,List.length_map,List.length_map]
  omega
 rw [e1]
 have:=Nat.mul_le_mul_right 20000 l16
 omega
end
def dk(b:Int×Int):List Int:=[b.1,b.2]
def tV(b:Int×Int):Prop:=b.1≤b.2∧b.1.natAbs≤10 ^ 30∧b.2.natAbs≤3 * 10 ^ 30
theorem bN.ranges{K:PySem.W.Frag}{H:Hp}{q:Addr}{bs:List (Int×Int)}(h:bN H q (bs.map dk)):bY K H q bs:=by
 obtain⟨ps,h1,h2,h3⟩:=h
 refine⟨ps,aO.of h1,by rw [h2,List.length_map],fun i t b e1 e2=>cA.of (h3 i t (dk b) e1 (by rw [List.getElem?_map,e2];rfl))⟩
theorem bN.at_{H:Hp}{q:Addr}{cols:List (List Int)}(h:bN H q cols):H q=some (.lst (h.choose.map V.ref)):=h.choose_spec.1
theorem bN.put{H:Hp}{q t:Addr}{cols:List (List Int)}{us:List Int}(h:bN H q cols)(ht:H t=none):∃xs:List V,(upd H t (.tup (us.map V.int))) q=some (.lst xs)∧xs.length=cols.length∧bN (upd (upd H t (.tup (us.map V.int))) q (.lst (xs++[.ref t]))) q (cols++[us]):=by
 obtain⟨ps,h1,h2⟩:=h
 have hq:=(au ht (o:=HO.tup (us.map V.int))) _ _ h1
 refine⟨ps.map V.ref,hq,by rw [List.length_map,h2.1],ps++[t],by rw [ae,List.map_append];rfl,?_⟩
 refine((h2.same (au ht)).append ⟨rfl,fun i p us' e1 e2=>?_⟩).upd hq
 have hi:i=0:=by
  have:=(List.getElem?_eq_some_iff.mp e1).1
  simp at this
  exact this
 subst hi
 cases e1
 cases e2
 exact ae
theorem tV.big{b:Int×Int}(h:tV b):b.1≤b.2∧b.1.natAbs < 10 ^ 40∧b.2.natAbs < 10 ^ 40∧(dZ b).natAbs < 2 ^ 200∧1≤wN b:=by
 obtain⟨h1,h2,h3⟩:=h
 have e30:(10:Nat) ^ 30=1000000000000000000000000000000:=by decide +kernel
 have e40:(10:Nat) ^ 40=10000000000000000000000000000000000000000:=by decide +kernel
 have e2:(2:Nat) ^ 200=1606938044258990275541962092341162602522202993782792835301376:=by decide +kernel
 rw [e30]at h2 h3
 rw [e40,e2]
 unfold dZ wN
 omega
theorem sE:(10:Nat) ^ 30=1000000000000000000000000000000:=by decide +kernel
theorem xu{a b:Int}(ha:a.natAbs < 2 ^ (GB+200))(hb:b.natAbs < 2 ^ 200):IntMulOk a b:=IntMulOk.of_le (m:=GB+200) (n:=200) (intBits_le_iff.mpr ha) (intBits_le_iff.mpr hb) (by decide)
def jh(K:PySem.W.Frag):Sp:=fun vs H Q _=>∃(a:Addr) (ns:List Int),vs=[.ref a]∧aO K H a (ns.map V.int)∧(∀x∈ns,x.natAbs < 2 ^ GB)∧ns.length≤63∧∀(q:Addr) (bs:List (Int×Int)) H',1≤bs.length→bs.length≤4→(∀b∈bs,tV b)→H q=none→bN H' q (bs.map dk)→ar H H'→Q (.ref q) H'
section
variable {P:Program} {w:World} {K:PySem.W.Frag} {mg:Str→Option Value} {base:Heap} {aM:Addr}
theorem rF{f:Addr}{fd:FuncData}(F:cR K "_law_ranges" "_law_ranges" d6 f fd)(T:Txt mg aM)(D_law_got:cE P w K mg base "_law_got" 3 ["_law_script","_law_place"] (nu K)):aE P w K mg base b8 4 f fd ["_law_script"] (jh K):=by
 refine F.ok sc_law_ranges (fun vs H Q E h=>?_) (fun cdv A outer s H vs Q E hr h=>?_)
 ·obtain⟨a,ns,rfl,_⟩:=h
  rfl
 obtain⟨a,ns,rfl,hS,hB,hn,k⟩:=h
 refine⟨_,(ag (ay (i:=1) sc_law_ranges.nd rfl (Or.inl rfl) (dH ah))
 (ag (cW PassesOwn.never rfl (ff rfl T.n_range (aa (ao (aW K) af (ao (o1 bg) (aK D_law_got hr (by rfl) (aa (pr 0) (aa af ah))) af)) ah)) (aF (i:=2) sc_law_ranges.nd rfl (Or.inl rfl))
 (ag (ay (i:=3) sc_law_ranges.nd rfl (Or.inl rfl) (ao (o0 dG) (ao (o1 bg) (ao (dU K) (aK D_law_got hr (by rfl) (aa (pr 0) (aa (ao (aW K) af (ao (dU K) af (pr 2))) ah))) (ao (aW K) (ao (dU K) af (ao (o1 eI) af af)) af)) (ao (aW K) (ao (dU K) af (ao (o1 eI) af af)) af)) (ao (o1 eI) af af)))
 (ag (ba (bj (aB (o0 p6) (ao (o1 bg) (aK D_law_got hr (by rfl) (aa (pr 0) (aa (ao (aW K) af (ao (dU K) af (pr 2))) ah))) af) af (aD _))) (aj (ay (i:=3) sc_law_ranges.nd rfl (Or.inl rfl) (ao (o0 dG) (ao (o1 bg) (ao (o1 cn) (aK D_law_got hr (by rfl) (aa (pr 0) (aa (ao (aW K) af (ao (dU K) af (pr 2))) ah))) af) af) af))) aL)
 (ag (ay (i:=4) sc_law_ranges.nd rfl (Or.inl rfl) (aK D_law_got hr (by rfl) (aa (pr 0) (aa (ao (aW K) af (ao (dU K) af (pr 2))) ah))))
 (ag (ay (i:=5) sc_law_ranges.nd rfl (Or.inl rfl) (ao (aW K) af (ao (o1 bg) (pr 4) af)))
 (ag (ba (PW.pt (oO (bj (aB sj (ao (o1 bg) (ao (o1 cn) (aK D_law_got hr (by rfl) (aa (pr 0) (aa af ah))) af) af) af (aD _))) (p9 (bj (aB sj (ao (o1 bg) (pr 4) af) af (aD _)))))) (aj (ay (i:=5) sc_law_ranges.nd rfl (Or.inl rfl) (ao (aW K) af (ao (o1 bg) (ao (dU K) (ao (o1 cn) (pr 4) af) (ao (aW K) (ao (dU K) af (ao (o1 eI) af af)) af)) (ao (o1 eI) af af))))) aL)
 (aj (bw (bH K PySem.F.plainAttrs_list PySem.F.slot_list_append PySem.F.type_list_append cL (pr 1) (aa (cw (aa (pr 3) (aa (ao (o0 dG) (ao (aW K) (pr 3) (pr 5)) af) ah))) ah))))))))))
 (aj (aw (pr 1))))),?_⟩
 have hs:sizeLine=16777216:=sizeLine_eq
 have g0:∀p,0≤GM.gotF ns p:=GM.gotF_nn ns
 refine aV (fun σ H'=>∃q:Addr,H q=none∧H' q=some (.lst (([]:List Addr).map V.ref))∧σ=[some (.ref a),some (.ref q),none,none,none,none]∧ar H H') ?_ ?_
 rotate_left
 ·intro u' hu
  walk_at "rd"
  exact⟨by omega,fun q hq=>hu _ _ ⟨q,hq,ae,rfl,au hq⟩⟩
 rintro _ H1 ⟨q,hq0,hq1,rfl,s1⟩
 refine aV (fun σ H'=>∃(bs:List (Int×Int)) (o2 o3 o4 o5:Option V),1≤bs.length∧bs.length≤4∧(∀b∈bs,tV b)∧bN H' q (bs.map dk)∧σ=[some (.ref a),some (.ref q),o2,o3,o4,o5]∧ar H H') ?_ ?_
 rotate_left
 ·intro u' hu
  walk_at "rd"
  refine⟨a,ns,0,rfl,s1.seq hS,hB,by decide,by decide,fun H2 s2=>?_⟩
  walk_at "rd"
  have hg:=g0 0
  obtain⟨Pv,hPv⟩:∃Pv:Nat→L2.St→Hp→Prop,Pv=fun i σ H'=>∃(bs:List (Int×Int)) (o2 o3 o4 o5:Option V),bs.length=i∧(∀b∈bs,tV b)∧bN H' q (bs.map dk)∧σ=[some (.ref a),some (.ref q),o2,o3,o4,o5]∧ar H H':=⟨_,rfl⟩
  refine⟨by decide,by omega,by omega,fC Pv (by rw [hPv];exact⟨[],none,none,none,none,rfl,(fun _ h=>nomatch h),⟨[],s2 _ _ hq1,rfl,fun i p us e=>nomatch e⟩,rfl,s1.trans s2⟩) ?_ ?_⟩
  ·rintro i σ H3 hi hI
   rw [hPv]at hI
   obtain⟨bs,o2,o3,o4,o5,hl,hb,hC,rfl,s3⟩:=hI
   have hi4:(i:Int)≤3:=by omega
   refine aV (fun σ H'=>∃(lo:Int),lo.natAbs≤10 ^ 30∧σ=[some (.ref a),some (.ref q),some (.int i),some (.int lo),o4,o5]∧ar H3 H') ?_ ?_
   rotate_left
   ·intro u2 hu2
    walk_at "rd"
    refine⟨.of_left (by decide),a,ns,_,rfl,s3.seq hS,hB,by omega,by omega,fun H4 s4=>?_⟩
    walk_at "rd"
    have e27:(10:Int) ^ Int.toNat 27=1000000000000000000000000000:=by decide +kernel
    have e30:(10:Int) ^ Int.toNat 30=1000000000000000000000000000000:=by decide +kernel
    rw [e27,e30]
    refine⟨⟨by decide,by decide,by decide⟩,.of_left (by decide),xu (GM.gotF_lt hB) (by decide +kernel),⟨by decide,by decide,by decide⟩,.of_left (by decide),by decide,⟨by decide,by decide,by decide⟩,?_⟩
    refine hu2 _ _ ⟨_,?_,rfl,s4⟩
    have m0:=Int.emod_nonneg (GM.gotF ns (1+2 * i) * (8191 * 1000000000000000000000000000+48271)) (show(2 * 1000000000000000000000000000000+1:Int)≠0 by decide)
    have m1:=Int.emod_lt_of_pos (GM.gotF ns (1+2 * i) * (8191 * 1000000000000000000000000000+48271)) (show(0:Int) < 2 * 1000000000000000000000000000000+1 by decide)
    rw [sE]
    omega
   rintro _ H4 ⟨lo,hlo,rfl,s4⟩
   refine aV (fun σ H'=>∃(lo:Int),lo.natAbs≤10 ^ 30∧σ=[some (.ref a),some (.ref q),some (.int i),some (.int lo),o4,o5]∧ar H3 H') ?_ ?_
   rotate_left
   ·intro u2 hu2
    walk_at "rd"
    refine⟨.of_left (by decide),a,ns,_,rfl,(s3.trans s4).seq hS,hB,by omega,by omega,fun H5 s5=>?_⟩
    walk_at "rd"
    refine⟨by decide,?_⟩
    by_cases h3:0 < GM.gotF ns (1+2 * i) % 3
    ·rw [if_pos h3]
     refine⟨.of_left (by decide),a,ns,_,rfl,((s3.trans s4).trans s5).seq hS,hB,by omega,by omega,fun H6 s6=>⟨_,rfl,⟨by decide,by decide⟩,by decide,hu2 _ _ ⟨_,?_,rfl,(s4.trans s5).trans s6⟩⟩⟩
     rw [sE]
     omega
    ·rw [if_neg h3]
     exact hu2 _ _ ⟨lo,hlo,rfl,s4.trans s5⟩
   clear hlo s4
   clear H4
   rintro _ H4 ⟨lo,hlo,rfl,s4⟩
   refine aV (fun σ H'=>∃(c:Int),0≤c∧c.natAbs < 2 ^ (GB+200)∧σ=[some (.ref a),some (.ref q),some (.int i),some (.int lo),some (.int c),o5]∧ar H3 H') ?_ ?_
   rotate_left
   ·intro u2 hu2
    walk_at "rd"
    refine⟨.of_left (by decide),a,ns,_,rfl,(s3.trans s4).seq hS,hB,by omega,by omega,fun H5 s5=>?_⟩
    exact hu2 _ _ ⟨_,g0 _,GM.gotF_lt hB,rfl,s4.trans s5⟩
   rintro _ H5 ⟨c,c0,cB,rfl,s5⟩
   refine aV (fun σ H'=>σ=[some (.ref a),some (.ref q),some (.int i),some (.int lo),some (.int c),some (.int (1+c % 6))]∧H5=H') ?_ ?_
   rotate_left
   ·intro u2 hu2
    walk_at "rd"
    exact⟨by decide,hu2 _ _ ⟨rfl,rfl⟩⟩
   rintro _ _ ⟨rfl,rfl⟩
   refine aV (fun σ H'=>∃(sz:Int),1≤sz∧sz≤1000000000000000000000000000000∧σ=[some (.ref a),some (.ref q),some (.int i),some (.int lo),some (.int c),some (.int sz)]∧ar H3 H') ?_ ?_
   rotate_left
   ·intro u2 hu2
    walk_at "rd"
    refine⟨a,ns,0,rfl,(s3.trans s5).seq hS,hB,by decide,by decide,fun H6 s6=>?_⟩
    walk_at "rd"
    refine⟨⟨by decide,by decide⟩,by decide,?_⟩
    have keep:u2 { nx:=Pv (i+1),rt:=Q,bk:=u' { nx:=fun x H'=>Q V.non H',rt:=Q },ct:=Pv (i+1) } [some (V.ref a),some (V.ref q),some (V.int i),some (V.int lo),some (V.int c),some (V.int (1+c % 6))] H6:=hu2 _ _ ⟨_,by omega,by omega,rfl,s5.trans s6⟩
    by_cases h3:GM.gotF ns 0 / 4 % 4=3
    ·rw [if_pos h3]
     refine⟨by decide,?_⟩
     by_cases h2:c % 2=1
     ·rw [if_pos h2]
      have e27:(10:Int) ^ Int.toNat 27=1000000000000000000000000000:=by decide +kernel
      have e30:(10:Int) ^ Int.toNat 30=1000000000000000000000000000000:=by decide +kernel
      rw [e27,e30]
      have hc2:(c / 2).natAbs < 2 ^ (GB+200):=Nat.lt_of_le_of_lt (by omega) cB
      have m0:=Int.emod_nonneg (c / 2 * (8191 * 1000000000000000000000000000+48271)) (show(1000000000000000000000000000000:Int)≠0 by decide)
      have m1:=Int.emod_lt_of_pos (c / 2 * (8191 * 1000000000000000000000000000+48271)) (show(0:Int) < 1000000000000000000000000000000 by decide)
      exact⟨⟨by decide,by decide⟩,⟨by decide,by decide,by decide⟩,.of_left (by decide),xu hc2 (by decide +kernel),⟨by decide,by decide,by decide⟩,by decide,hu2 _ _ ⟨_,by omega,by omega,rfl,s5.trans s6⟩⟩
     ·rw [if_neg h2]
      exact keep
    ·rw [if_neg h3]
     exact keep
   rintro _ H6 ⟨sz,z1,z2,rfl,s6⟩
   walk_at "rd"
   have hC6:=hC.same s6
   refine⟨.inl ⟨rfl,_,aO.of hC6.at_⟩,by omega,fun p hp=>?_⟩
   obtain⟨x,hx1,hx2,hx3⟩:=hC6.put (us:=dk (lo,lo+sz - 1)) hp
   refine⟨q,_,_,rfl,rfl,hx1,by rw [hx2,List.length_map];omega,?_⟩
   rw [hPv]
   refine⟨bs++[(lo,lo+sz - 1)],_,_,_,_,by rw [List.length_append,hl];rfl,fun b hb'=>?_,?_,rfl,?_⟩
   ·rcases List.mem_append.mp hb' with hb' | hb'
    ·exact hb b hb'
    ·rw [List.mem_singleton.mp hb']
     unfold tV
     rw [sE]at hlo ⊢
     show lo≤lo+sz - 1∧lo.natAbs≤_∧(lo+sz - 1).natAbs≤_
     omega
   ·rw [List.map_append]
    exact hx3
   ·exact wZ hq0 ((s3.trans s6).upd hp)
  ·rintro σ H3 hI
   rw [hPv]at hI
   obtain⟨bs,o2,o3,o4,o5,hl,hb,hC,rfl,s3⟩:=hI
   exact hu _ _ ⟨bs,o2,o3,o4,o5,by omega,by omega,hb,hC,rfl,s3⟩
 rintro _ H2 ⟨bs,o2,o3,o4,o5,l1,l4,hb,hC,rfl,s2⟩
 walk_at "rd"
 exact k q bs H2 l1 l4 hb hq0 hC s2
end
theorem mP{c d:Nat}(hne:d≠c):∀ps:List (List Nat),(∀p∈ps,d∉p)→d∉bQ c ps
 | [],_=>by simp [bQ]
 | [p],h=>by simpa [bQ]using h p (by simp)
 | p::q::ps,h=>by
  rw [e9]
  intro hd
  rcases List.mem_append.mp hd with hd | hd
  ·exact h p (by simp) hd
  ·rcases List.mem_cons.mp hd with hd | hd
   ·exact hne hd
   ·exact mP hne (q::ps) (fun x hx=>h x (by simp [hx])) hd
theorem gQ(n:Int):10∉cM n:=fun h=>by
 have:=i6 n 10 h
 omega
theorem cN{z kind:Str}{ns:List Int}(R:bP z kind ns)(hk:10∉kind.cps.toList):10∉z.cps.toList:=by
 rw [R.cs]
 refine mP (by decide) _ fun p hp=>?_
 rcases List.mem_cons.mp hp with rfl | hp
 ·exact hk
 ·obtain⟨n,_,rfl⟩:=List.mem_map.mp hp
  exact gQ n
theorem rT{z rest:Str}{t u:Int}(R:gA z rest t u)(h:10∉rest.cps.toList):10∉z.cps.toList:=by
 rw [R.cs]
 intro hd
 rcases List.mem_append.mp hd with hd | hd
 ·exact absurd hd (by decide +kernel)
 rcases List.mem_cons.mp hd with hd | hd
 ·exact absurd hd (by decide)
 rcases List.mem_append.mp hd with hd | hd
 ·exact gQ _ hd
 rcases List.mem_cons.mp hd with hd | hd
 ·exact absurd hd (by decide)
 rcases List.mem_append.mp hd with hd | hd
 ·exact gQ _ hd
 rcases List.mem_cons.mp hd with hd | hd
 ·exact absurd hd (by decide)
 exact h hd
theorem nM.no10{nv:Nat}{row:Str}{sz:Int}(h:nM nv row sz):10∉row.cps.toList:=by
 cases h with
 | back R _ _ _=>exact cN R (by decide +kernel)
 | held R _ _ _=>exact cN R (by decide +kernel)
 | times R _ _ _ _=>exact cN R (by decide +kernel)
 | move R _ _ _ _=>exact cN R (by decide +kernel)
 | every R R' _ _ _ _ _ _ _ _=>exact rT R (cN R' (by decide +kernel))
theorem ox{ns:List Int}(h:∀n∈ns,n.natAbs≤10 ^ 30):∀n∈ns,n.natAbs < 10 ^ 40:=fun n hn=>Nat.lt_of_le_of_lt (h n hn) (by decide +kernel)
theorem uz{v m:Int}(hv:v.natAbs≤10 ^ 30)(hm:m.natAbs≤10 ^ 30):bP (Str.ofString "back " ++ aP v++Str.ofString " " ++ aP m) (Str.ofString "back") [v,m]:=
 jd (by decide +kernel) (Nat.lt_of_le_of_lt hv (by decide +kernel)) (Nat.lt_of_le_of_lt hm (by decide +kernel)) (by decide +kernel) (by decide +kernel) (by decide +kernel)
theorem uA{v m:Int}(hv:v.natAbs≤10 ^ 30)(hm:m.natAbs≤10 ^ 30):bP (Str.ofString "held " ++ aP v++Str.ofString " " ++ aP m) (Str.ofString "held") [v,m]:=
 jd (by decide +kernel) (Nat.lt_of_le_of_lt hv (by decide +kernel)) (Nat.lt_of_le_of_lt hm (by decide +kernel)) (by decide +kernel) (by decide +kernel) (by decide +kernel)
theorem kh{v m:Int}(hv:v.natAbs < 10 ^ 40)(hm:m.natAbs < 10 ^ 40):bP (Str.ofString "voice " ++ aP v++Str.ofString " " ++ aP m) (Str.ofString "voice") [v,m]:=
 jd (by decide +kernel) hv hm (by decide +kernel) (by decide +kernel) (by decide +kernel)
theorem nC(n:Int):(aP n).cps.toList=cM n:=rfl
theorem gM(c:Nat)(p:List Nat):bQ c [p]=p:=by simp [bQ]
theorem rX{v k m:Int}(hv:v.natAbs≤10 ^ 30)(hk:k.natAbs≤10 ^ 30)(hm:m.natAbs≤10 ^ 30):bP (Str.ofString "times " ++ aP v++(Str.ofString " 7 " ++ aP k++Str.ofString " ")++aP m) (Str.ofString "times") [v,7,k,m]:=by
 have e1:(Str.ofString "times ").cps.toList=(Str.ofString "times").cps.toList++[32]:=by decide +kernel
 have e2:(Str.ofString " 7 ").cps.toList=32::(cM 7++[32]):=by decide +kernel
 have e3:(Str.ofString " ").cps.toList=[32]:=by decide +kernel
 refine⟨?_,ox fun n hn=>?_,by simp,by decide +kernel,by decide +kernel,by decide +kernel⟩
 ·simp only [dR,e1,e2,e3,nC,List.map_cons,List.map_nil,e9,gM]
  simp only [List.append_assoc,List.cons_append,List.nil_append]
 ·simp only [List.mem_cons,List.not_mem_nil,or_false]at hn
  rcases hn with rfl | rfl | rfl | rfl
  ·exact hv
  ·decide +kernel
  ·exact hk
  ·exact hm
theorem ng{v m:Int}(hv:v.natAbs≤10 ^ 30)(hm:m.natAbs≤10 ^ 30):bP (Str.ofString "move " ++ aP v++Str.ofString " 0 1 -1 " ++ aP m) (Str.ofString "move") [v,0,1,-1,m]:=by
 have e1:(Str.ofString "move ").cps.toList=(Str.ofString "move").cps.toList++[32]:=by decide +kernel
 have e2:(Str.ofString " 0 1 -1 ").cps.toList=32::(cM 0++32::(cM 1++32::(cM (-1)++[32]))):=by decide +kernel
 refine⟨?_,ox fun n hn=>?_,by simp,by decide +kernel,by decide +kernel,by decide +kernel⟩
 ·simp only [dR,e1,e2,nC,List.map_cons,List.map_nil,e9,gM]
  simp only [List.append_assoc,List.cons_append,List.nil_append]
 ·simp only [List.mem_cons,List.not_mem_nil,or_false]at hn
  rcases hn with rfl | rfl | rfl | rfl | rfl
  ·exact hv
  ·decide +kernel
  ·decide +kernel
  ·decide +kernel
  ·exact hm
theorem rW{m:Int}(hm:m.natAbs≤10 ^ 30):bP (Str.ofString "move 1 0 1 -1 " ++ aP m) (Str.ofString "move") [1,0,1,-1,m]:=by
 have e1:(Str.ofString "move 1 0 1 -1 ")=Str.ofString "move " ++ aP 1++Str.ofString " 0 1 -1 ":=by decide +kernel
 rw [e1]
 exact ng (by decide +kernel) hm
theorem nh{v m:Int}(hv:v.natAbs≤10 ^ 30)(hm:m.natAbs≤10 ^ 30):bP (Str.ofString "span " ++ aP v++Str.ofString " 1 0 " ++ aP m) (Str.ofString "span") [v,1,0,m]:=by
 have e1:(Str.ofString "span ").cps.toList=(Str.ofString "span").cps.toList++[32]:=by decide +kernel
 have e2:(Str.ofString " 1 0 ").cps.toList=32::(cM 1++32::(cM 0++[32])):=by decide +kernel
 refine⟨?_,ox fun n hn=>?_,by simp,by decide +kernel,by decide +kernel,by decide +kernel⟩
 ·simp only [dR,e1,e2,nC,List.map_cons,List.map_nil,e9,gM]
  simp only [List.append_assoc,List.cons_append,List.nil_append]
 ·simp only [List.mem_cons,List.not_mem_nil,or_false]at hn
  rcases hn with rfl | rfl | rfl | rfl
  ·exact hv
  ·decide +kernel
  ·decide +kernel
  ·exact hm
theorem rV{t u v m:Int}(ht:t.natAbs≤10 ^ 30)(hu:u.natAbs≤10 ^ 30)(hv:v.natAbs≤10 ^ 30)(hm:m.natAbs≤10 ^ 30):gA (Str.ofString "every " ++ aP t++Str.ofString " " ++ aP u++(Str.ofString " span " ++ aP v++Str.ofString " 1 0 " ++ aP m)) (Str.ofString "span " ++ aP v++Str.ofString " 1 0 " ++ aP m) t u:=by
 have e1:(Str.ofString "every ").cps.toList=(Str.ofString "every").cps.toList++[32]:=by decide +kernel
 have e2:(Str.ofString " span ").cps.toList=32::(Str.ofString "span ").cps.toList:=by decide +kernel
 have e3:(Str.ofString " ").cps.toList=[32]:=by decide +kernel
 refine⟨?_,Nat.lt_of_le_of_lt ht (by decide +kernel),Nat.lt_of_le_of_lt hu (by decide +kernel),(nh hv hm).len⟩
 simp only [dR,e1,e2,e3,nC]
 simp only [List.append_assoc,List.cons_append,List.nil_append]
def pf(K:PySem.W.Frag):Sp:=fun vs H Q _=>∃(c:Int) (nv:Nat),vs=[.int c,.int nv]∧0≤c∧c.natAbs < 2 ^ (GB+200)∧1≤nv∧nv≤4∧∀(p:Addr) (row:Str) (sz:Int) H',nM nv row sz→1≤sz→sz.natAbs≤10 ^ 30→H' p=some (.tup [.str row,.int sz])→ar H H'→Q (.ref p) H'
section
variable {P:Program} {w:World} {K:PySem.W.Frag} {mg:Str→Option Value} {base:Heap} {aM:Addr}
theorem vG{f:Addr}{fd:FuncData}(F:cR K "_law_rule" "_law_rule" fJ f fd)(T:Txt mg aM):aE P w K mg base b8 1 f fd ["_law_cell","_law_voices"] (pf K):=by
 refine F.ok sc_law_rule (fun vs H Q E h=>?_) (fun cdv A outer s H vs Q E hr h=>?_)
 ·obtain⟨c,nv,rfl,_⟩:=h
  rfl
 obtain⟨c,nv,rfl,c0,cB,v1,v4,k⟩:=h
 refine⟨_,(ag (ay (i:=2) sc_law_rule.nd rfl (Or.inl rfl) (aJ (bo) (by rfl) T.n_str boot_str (aa (ao (aW K) af (ao (o1 bg) (ao (o1 cn) (pr 0) af) (pr 1))) ah)))
 (ag (ay (i:=3) sc_law_rule.nd rfl (Or.inl rfl) (ao (aW K) af (ao (o1 bg) (ao (o1 cn) (pr 0) af) af)))
 (ag (ba (bj (aB sj (ao (o1 bg) (ao (o1 cn) (pr 0) af) af) af (aD _))) (aj (ay (i:=3) sc_law_rule.nd rfl (Or.inl rfl) (ao (aW K) af (ao (o1 bg) (ao (dU K) (ao (o1 cn) (pr 0) af) (ao (aW K) (ao (dU K) af (ao (o1 eI) af af)) af)) (ao (o1 eI) af af))))) aL)
 (ag (ay (i:=4) sc_law_rule.nd rfl (Or.inl rfl) (ao (o1 bg) (pr 0) af))
 (ag (ba (bj (aB sj (pr 4) af (aD _))) (aj (aw (cw (aa (ao (aW K) (ao (aW K) (ao (aW K) aT (pr 2)) aT) (aJ (bo) (by rfl) T.n_str boot_str (aa (pr 3) ah))) (aa af ah))))) aL)
 (ag (ba (bj (aB sj (pr 4) af (aD _))) (aj (aw (cw (aa (ao (aW K) (ao (aW K) (ao (aW K) aT (pr 2)) aT) (aJ (bo) (by rfl) T.n_str boot_str (aa (pr 3) ah))) (aa (pr 3) ah))))) aL)
 (ag (ba (bj (aB sj (pr 4) af (aD _))) (ag (ay (i:=5) sc_law_rule.nd rfl (Or.inl rfl) (ao (aW K) (ao (aW K) aT (aJ (bo) (by rfl) T.n_str boot_str (aa (ao (o1 bg) (ao (o1 cn) (pr 0) af) af) ah))) aT))
 (aj (aw (cw (aa (ao (aW K) (ao (aW K) (ao (aW K) aT (pr 2)) (pr 5)) (aJ (bo) (by rfl) T.n_str boot_str (aa (ao (o0 dG) (pr 3) af) ah))) (aa (pr 3) ah)))))) aL)
 (ag (ba (bj (aB sj (pr 4) af (aD _))) (ag (ay (i:=6) sc_law_rule.nd rfl (Or.inl rfl) (ao (aW K) (ao (aW K) (ao (aW K) aT (pr 2)) aT) (aJ (bo) (by rfl) T.n_str boot_str (aa (pr 3) ah))))
 (aj (aw (cw (aa (ao (aW K) (ao (aW K) (ao (aW K) (ao (aW K) aT (aJ (bo) (by rfl) T.n_str boot_str (aa (pr 3) ah))) aT) (aJ (bo) (by rfl) T.n_str boot_str (aa (ao (o0 dG) (pr 3) af) ah))) (pr 6)) (aa (pr 3) ah)))))) aL)
 (aj (aw (cw (aa (ao (aW K) (ao (aW K) (ao (aW K) aT (pr 2)) aT) (aJ (bo) (by rfl) T.n_str boot_str (aa (pr 3) ah))) (aa af ah))))))))))))),?_⟩
 have hs:sizeLine=16777216:=sizeLine_eq
 have b30:∀{n:Int},n.natAbs≤10 ^ 30→n.natAbs < 10 ^ 40:=fun h=>Nat.lt_of_le_of_lt h (by decide +kernel)
 refine aV (fun σ H'=>∃v:Int,1≤v∧v≤nv∧σ=[some (.int c),some (.int nv),some (.str (aP v)),none,none,none,none]∧H=H') ?_ ?_
 rotate_left
 ·intro u' hu
  walk_at "rd"
  have m0:=Int.emod_nonneg (c / 5) (show(nv:Int)≠0 by omega)
  have m1:=Int.emod_lt_of_pos (c / 5) (show(0:Int) < nv by omega)
  have hb:(1+c / 5 % (nv:Int)).natAbs≤10 ^ 30:=Nat.le_trans (show _≤4 by omega) (by decide +kernel)
  exact⟨⟨by decide,by decide⟩,by omega,bW (b30 hb),hu _ _ ⟨_,by omega,by omega,rfl,rfl⟩⟩
 rintro _ _ ⟨v,v0,vn,rfl,rfl⟩
 have hv:v.natAbs≤10 ^ 30:=Nat.le_trans (show _≤4 by omega) (by decide +kernel)
 refine aV (fun σ H'=>σ=[some (.int c),some (.int nv),some (.str (aP v)),some (.int (1+c / 20 % 5)),none,none,none]∧H=H') ?_ ?_
 rotate_left
 ·intro u' hu
  walk_at "rd"
  exact⟨⟨by decide,by decide⟩,by decide,hu _ _ ⟨rfl,rfl⟩⟩
 rintro _ _ ⟨rfl,rfl⟩
 refine aV (fun σ H'=>∃m:Int,1≤m∧m.natAbs≤10 ^ 30∧σ=[some (.int c),some (.int nv),some (.str (aP v)),some (.int m),none,none,none]∧H=H') ?_ ?_
 rotate_left
 ·intro u' hu
  walk_at "rd"
  refine⟨⟨by decide,by decide⟩,by decide,?_⟩
  by_cases h7:c / 100 % 8=7
  ·rw [if_pos h7]
   have e27:(10:Int) ^ Int.toNat 27=1000000000000000000000000000:=by decide +kernel
   have e30:(10:Int) ^ Int.toNat 30=1000000000000000000000000000000:=by decide +kernel
   rw [e27,e30]
   have hc8:(c / 800).natAbs < 2 ^ (GB+200):=Nat.lt_of_le_of_lt (by omega) cB
   have m0:=Int.emod_nonneg (c / 800 * (8191 * 1000000000000000000000000000+48271)) (show(1000000000000000000000000000000:Int)≠0 by decide)
   have m1:=Int.emod_lt_of_pos (c / 800 * (8191 * 1000000000000000000000000000+48271)) (show(0:Int) < 1000000000000000000000000000000 by decide)
   exact⟨⟨by decide,by decide⟩,⟨by decide,by decide,by decide⟩,.of_left (by decide),xu hc8 (by decide +kernel),⟨by decide,by decide,by decide⟩,by decide,hu _ _ ⟨_,by omega,by rw [sE];omega,rfl,rfl⟩⟩
  ·rw [if_neg h7]
   exact hu _ _ ⟨_,by omega,Nat.le_trans (show _≤5 by omega) (by decide +kernel),rfl,rfl⟩
 rintro _ _ ⟨m,m1,mB,rfl,rfl⟩
 have lm:=cC (b30 mB)
 have lv:=cC (b30 hv)
 have hm1:(m - 1).natAbs≤10 ^ 30:=Nat.le_trans (show _≤m.natAbs by omega) mB
 have lm1:=cC (b30 hm1)
 have n1:1≤v∧v≤nv:=⟨v0,vn⟩
 have l0:(Str.ofString "back ").length=5:=by decide +kernel
 have l1:(Str.ofString "held ").length=5:=by decide +kernel
 have l2:(Str.ofString "times ").length=6:=by decide +kernel
 have l3:(Str.ofString " 7 ").length=3:=by decide +kernel
 have l4:(Str.ofString " ").length=1:=by decide +kernel
 have l5:(Str.ofString " span ").length=6:=by decide +kernel
 have l6:(Str.ofString " 1 0 ").length=5:=by decide +kernel
 have l7:(Str.ofString "every ").length=6:=by decide +kernel
 have l8:(Str.ofString "move ").length=5:=by decide +kernel
 have l9:(Str.ofString " 0 1 -1 ").length=8:=by decide +kernel
 walk_at "rd"
 refine⟨by decide,?_⟩
 have hp2:∀{x:HO} {p:Addr},H p=none→ar H (upd H p x):=fun hp=>au hp
 by_cases k0:c % 5=0
 ·rw [if_pos k0]
  exact⟨by omega,by rw [aA];omega,bW (b30 mB),by rw [aA,aA];omega,by omega,fun p hp=>k p _ _ _ (.back (uz hv mB) v0 vn (by omega)) (by decide) (by decide +kernel) ae (hp2 hp)⟩
 rw [if_neg k0]
 by_cases k1:c % 5=1
 ·rw [if_pos k1]
  exact⟨by omega,by rw [aA];omega,bW (b30 mB),by rw [aA,aA];omega,by omega,fun p hp=>k p _ _ _ (.held (uA hv mB) v0 vn m1) m1 mB ae (hp2 hp)⟩
 rw [if_neg k1]
 by_cases k2:c % 5=2
 ·rw [if_pos k2]
  have hk:(c / 20 % 3).natAbs≤10 ^ 30:=Nat.le_trans (show _≤3 by omega) (by decide +kernel)
  have lk:=cC (b30 hk)
  refine⟨⟨by decide,by decide⟩,by decide,bW (b30 hk),by omega,by rw [aA];omega,by omega,by rw [aA,aA,aA];omega,bW (b30 hm1),by rw [aA,aA,aA,aA];omega,by omega,fun p hp=>k p _ _ _ ?_ m1 mB ae (hp2 hp)⟩
  have:=nM.times (nv:=nv) (rX hv hk hm1) v0 vn (by omega) (by omega)
  rwa [show m - 1+1=m by omega]at this
 rw [if_neg k2]
 by_cases k3:c % 5=3
 ·rw [if_pos k3]
  exact⟨by omega,by rw [aA];omega,bW (b30 mB),by rw [aA,aA];omega,bW (b30 mB),by omega,by rw [aA];omega,bW (b30 hm1),by rw [aA,aA];omega,by rw [aA,aA,aA,aA,aA,aA];omega,by omega,
   fun p hp=>k p _ _ _ (.every (rV mB hm1 hv mB) (nh hv mB) v0 vn (by omega) (by omega) (by simp) (by simp) (by omega) (by omega)) m1 mB ae (hp2 hp)⟩
 ·rw [if_neg k3]
  exact⟨by omega,by rw [aA];omega,bW (b30 mB),by rw [aA,aA];omega,by omega,fun p hp=>k p _ _ _ (.move (ng hv mB) v0 vn (by simp) (by simp)) (by decide) (by decide +kernel) ae (hp2 hp)⟩
end
def lU(K:PySem.W.Frag):Sp:=fun vs H Q _=>∃(q a:Addr) (bs:List (Int×Int)),vs=[.ref q,.ref a,.int (e8 bs)]∧bN H q (bZ bs)∧bY K H a bs∧bs.length≤4∧(∀b∈bs,1≤wN b)∧e8 bs≤400∧∀H',ar H H'→Q (.bl true) H'
section
variable {P:Program} {w:World} {K:PySem.W.Frag} {mg:Str→Option Value} {base:Heap} {aM:Addr}
theorem tX{f:Addr}{fd:FuncData}(F:cR K "_law_columns" "_law_columns" dI f fd)(T:Txt mg aM):aE P w K mg base b8 1 f fd ["_law_found","_law_ranges_here","_law_many"] (lU K):=by
 refine F.ok sc_law_columns (fun vs H Q E h=>?_) (fun cdv A outer s H vs Q E hr h=>?_)
 ·obtain⟨q,a,bs,rfl,_⟩:=h
  rfl
 obtain⟨q,a,bs,rfl,⟨ps,hq,hpl,hpc⟩,⟨ts,hts,htl,htc⟩,lb,hw,hc,k⟩:=h
 refine⟨_,(ag (ba (PW.pt (bE (bC (aQ (ax (bF K) (by rfl) T.n_isinstance boot_isinstance (aa (pr 0) (aa (dy (v:=.ty "list") (by rfl) T.n_list boot_list rfl) ah))) (fun _=>rfl))) (bS (bj (aB tP (ax (aS K) (by rfl) T.n_len boot_len (aa (pr 0) ah)) (pr 2) (aD _)))))) (aj (aw eL)) aL)
 (ag (cW PassesOwn.never rfl (ff rfl T.n_range (aa (pr 2) ah)) (aF (i:=3) sc_law_columns.nd rfl (Or.inl rfl))
 (ag (ay (i:=4) sc_law_columns.nd rfl (Or.inl rfl) (pr 3))
 (ag (ba (PW.pt (bE (bC (aQ (ax (bF K) (by rfl) T.n_isinstance boot_isinstance (aa (aX (bR K) (pr 0) (pr 3) (fun _ _=>rfl)) (aa (dy (v:=.ty "tuple") (by rfl) T.n_tuple boot_tuple rfl) ah))) (fun _=>rfl))) (bS (bj (aB tP (ax (aS K) (by rfl) T.n_len boot_len (aa (aX (bR K) (pr 0) (pr 3) (fun _ _=>rfl)) ah)) (ax (aS K) (by rfl) T.n_len boot_len (aa (pr 1) ah)) (aD _)))))) (aj (aw eL)) aL)
 (aj (cW PassesOwn.never rfl (rL rfl T.n_range (aa (ao (o0 dG) (ax (aS K) (by rfl) T.n_len boot_len (aa (pr 1) ah)) af) (aa (wW (u1 uS) af) (aa (wW (u1 uS) af) ah)))) (aF (i:=5) sc_law_columns.nd rfl (Or.inl rfl))
 (ag (oN (aX (bR K) (pr 1) (pr 5) (fun _ _=>rfl)) (c7 K (n:=2) rfl (aY (aF (i:=6) sc_law_columns.nd rfl (Or.inl rfl)) (aY (aF (i:=7) sc_law_columns.nd rfl (Or.inl rfl)) c8))))
 (ag (oN (ax (ia) (by rfl) T.n_divmod boot_divmod (aa (pr 4) (aa (ao (aW K) (ao (o0 dG) (pr 7) (pr 6)) af) ah))) (c7 K (n:=2) rfl (aY (aF (i:=4) sc_law_columns.nd rfl (Or.inl rfl)) (aY (aF (i:=8) sc_law_columns.nd rfl (Or.inl rfl)) c8))))
 (ag (ay (i:=9) sc_law_columns.nd rfl (Or.inl rfl) (aX (bR K) (aX (bR K) (pr 0) (pr 3) (fun _ _=>rfl)) (pr 5) (fun _ _=>rfl)))
 (aj (ba (PW.pt (bE (bC (aQ (ax (bF K) (by rfl) T.n_isinstance boot_isinstance (aa (pr 9) (aa (dy (v:=.ty "int") (by rfl) T.n_int boot_int rfl) ah))) (fun _=>rfl))) (bE (aQ (ax (bF K) (by rfl) T.n_isinstance boot_isinstance (aa (pr 9) (aa (dy (v:=.ty "bool") (by rfl) T.n_bool boot_bool rfl) ah))) (fun _=>rfl)) (bS (bj (aB tP (pr 9) (ao (aW K) (pr 6) (pr 8)) (aD _))))))) (aj (aw eL)) aL))))))))))
 (aj (aw eL)))),?_⟩
 have hs:sizeLine=16777216:=sizeLine_eq
 have cl:=gF bs
 refine aV (fun σ H'=>H=H'∧σ=[some (.ref q),some (.ref a),some (.int (e8 bs)),none,none,none,none,none,none,none]) ?_ ?_
 rotate_left
 ·intro u' hu
  walk_at "rd"
  refine⟨_,.lst hq,true,rfl,?_⟩
  rw [if_neg (by decide)]
  refine⟨_,.inl (aO.of hq),?_⟩
  rw [if_pos (by rw [List.length_map,hpl,cl])]
  exact hu _ _ ⟨rfl,rfl⟩
 rintro _ _ ⟨rfl,rfl⟩
 obtain⟨Pv,hPv⟩:∃Pv:Nat→L2.St→Hp→Prop,Pv=fun i σ H'=>∃(o3 o4 o5 o6 o7 o8 o9:Option V),ar H H'∧σ=[some (.ref q),some (.ref a),some (.int (e8 bs)),o3,o4,o5,o6,o7,o8,o9]:=⟨_,rfl⟩
 refine aV (fun σ H'=>Pv (e8 bs) σ H') ?_ ?_
 rotate_left
 ·intro u' hu
  walk_at "rd"
  refine⟨by omega,by omega,fC Pv (by rw [hPv];exact⟨none,none,none,none,none,none,none,ar.refl _,rfl⟩) ?_ ?_⟩
  ·intro i σ H1 hi hI
   rw [hPv]at hI
   obtain⟨o3,o4,o5,o6,o7,o8,o9,s1,rfl⟩:=hI
   have hi':i < (bZ bs).length:=by rw [cl];omega
   have hcc:(bZ bs)[i]?=some (bZ bs)[i]:=List.getElem?_eq_getElem hi'
   have hip:i < ps.length:=by rw [hpl];exact hi'
   have hpp:ps[i]?=some ps[i]:=List.getElem?_eq_getElem hip
   have hcol:=hpc i _ _ hpp hcc
   have hlen:=eA bs _ (List.getElem_mem hi')
   have hix:∀H',ar H H'→∀Q',Q' (V.ref ps[i]) H'→v7 K (V.ref q) (V.int i) H' Q':=fun H' s' Q' h'=>
    bf (aO.of (s' _ _ hq)) (aU (by rw [List.getElem?_map,hpp];rfl)) h'
   generalize ps[i]=p at *
   generalize(bZ bs)[i]=c at *
   refine aV (fun σ H'=>H1=H'∧σ=[some (.ref q),some (.ref a),some (.int (e8 bs)),some (.int i),some (.int i),o5,o6,o7,o8,o9]) ?_ ?_
   rotate_left
   ·intro u2 hu2
    walk_at "rd"
    exact hu2 _ _ ⟨rfl,rfl⟩
   rintro _ _ ⟨rfl,rfl⟩
   refine aV (fun σ H'=>H1=H'∧σ=[some (.ref q),some (.ref a),some (.int (e8 bs)),some (.int i),some (.int i),o5,o6,o7,o8,o9]) ?_ ?_
   rotate_left
   ·intro u2 hu2
    walk_at "rd"
    refine hix _ s1 _ ⟨_,.tup (s1 _ _ hcol),true,rfl,?_⟩
    rw [if_neg (by decide)]
    refine hix _ s1 _ (.inr ⟨_,rfl,_,.inr (cA.of (s1 _ _ hcol)),_,.inl (s1.seq hts),?_⟩)
    rw [if_pos (by rw [List.length_map,List.length_map,hlen,htl])]
    exact hu2 _ _ ⟨rfl,rfl⟩
   rintro _ _ ⟨rfl,rfl⟩
   walk_at "rd"
   obtain⟨Pw,hPw⟩:∃Pw:Nat→L2.St→Hp→Prop,Pw=fun t σ H'=>∃(left:Nat) (o5 o6 o7 o8 o9:Option V),ar H H'∧(bZ (bs.take (bs.length - t)))[left]?=some (c.take (bs.length - t))∧σ=[some (.ref q),some (.ref a),some (.int (e8 bs)),some (.int i),some (.int left),o5,o6,o7,o8,o9]:=⟨_,rfl⟩
   refine⟨_,.inl (s1.seq hts),by rw [List.length_map];omega,by rw [List.length_map];omega,by decide,by decide,rm Pw ?_ ?_ ?_⟩
   ·rw [hPw]
    refine⟨i,o5,o6,o7,o8,o9,s1,?_,rfl⟩
    rw [Nat.sub_zero,List.take_length,hcc,←hlen,List.take_length]
   ·intro t σ H2 ht hI
    rw [List.length_map]at ht
    rw [hPw]at hI
    obtain⟨left,o5,o6,o7,o8,o9,s2,hat,rfl⟩:=hI
    obtain⟨v,hV⟩:∃v,v=bs.length - 1 - t:=⟨_,rfl⟩
    have hv:v < bs.length:=by omega
    have e0:((ts.map V.ref).length:Int) - 1 - (t:Int)=(v:Int):=by rw [List.length_map];omega
    rw [e0]
    have en:bs.length - t=v+1:=by omega
    have en2:bs.length - (t+1)=v:=by omega
    obtain⟨tv,htv⟩:∃tv,ts[v]?=some tv:=⟨_,List.getElem?_eq_getElem (by omega)⟩
    obtain⟨b,hbv⟩:∃b,bs[v]?=some b:=⟨_,List.getElem?_eq_getElem hv⟩
    have htt:=htc _ _ _ htv hbv
    have hwb:=hw _ (List.mem_of_getElem? hbv)
    have hwl:=Nat.le_trans (w4 hw hbv) hc
    rw [en,List.take_add_one,hbv]at hat
    obtain⟨p',hp1,hp2⟩:=sy (b:=b) hwb hat
    have hpw:=eA _ _ (List.mem_of_getElem? hp1)
    rw [List.length_take]at hpw
    have hpv:p'=c.take v:=by
     have:=congrArg (List.take v) hp2
     rw [List.take_take,Nat.min_eq_left (by omega),List.take_left' (by omega)]at this
     exact this.symm
    have hcv:c[v]?=some (b.1+((left % wN b:Nat):Int)):=by
     have:=congrArg (fun l=>l[v]?) hp2
     rw [List.getElem?_take,if_pos (by omega),List.getElem?_append_right (by omega)]at this
     rw [this,show v - p'.length=0 by omega]
     rfl
    have ewi:b.2 - b.1+1=((wN b:Nat):Int):=by
     unfold wN at hwb ⊢
     omega
    walk_at "rd"
    refine bf (s2.seq hts) (aU (by rw [List.getElem?_map,htv];rfl)) ?_
    walk_at "rd"
    refine⟨_,s2.tup htt,rfl,?_⟩
    walk_at "rd"
    rw [ewi]
    refine⟨⟨by omega,by omega⟩,fun d hd=>?_⟩
    have s3:=s2.upd (o:=HO.tup [V.int ((left:Int) / ((wN b:Nat):Int)),V.int ((left:Int) % ((wN b:Nat):Int))]) hd
    refine⟨_,cA.of ae,rfl,?_⟩
    generalize upd H2 d (HO.tup [V.int ((left:Int) / ((wN b:Nat):Int)),V.int ((left:Int) % ((wN b:Nat):Int))])=H3 at s3
    walk_at "rd"
    refine hix _ s3 _ (qe (cA.of (s3 _ _ hcol)) (aU (by rw [List.getElem?_map,hcv];rfl)) ?_)
    walk_at "rd"
    refine⟨_,.int _,true,rfl,?_⟩
    rw [if_neg (by decide)]
    refine⟨_,.int _,false,by with_unfolding_all rfl,?_⟩
    rw [if_neg (by decide)]
    rw [if_pos (by rw [Int.natCast_emod])]
    rw [hPw,←Int.natCast_ediv]
    refine⟨left / wN b,_,_,_,_,_,s3,?_,rfl⟩
    rw [en2,hp1,hpv]
   ·intro σ H2 hI
    rw [hPw]at hI
    obtain⟨left,o5,o6,o7,o8,o9,s2,_,rfl⟩:=hI
    show Pv (i+1) _ _
    rw [hPv]
    exact⟨_,_,_,_,_,_,_,s2,rfl⟩
  ·intro σ H1 hI
   exact hu _ _ (by simpa using hI)
 rw [hPv]
 rintro _ H1 ⟨o3,o4,o5,o6,o7,o8,o9,s1,rfl⟩
 walk_at "rd"
 exact k _ s1
end
structure Sc(bs:List (Int×Int))(Rs:List (Str×Int)):Prop where
 lb:bs.length≤4
 lr:Rs.length≤12
 ok:∀b∈bs,tV b
 rw:∀R∈Rs,nM bs.length R.1 R.2∧1≤R.2∧R.2.natAbs≤10 ^ 30
theorem Sc.wide{bs:List (Int×Int)}{Rs:List (Str×Int)}(h:Sc bs Rs):(∀b∈bs,(dZ b).natAbs < 2 ^ 200)∧(∀R∈Rs,(R.2).natAbs < 2 ^ 200)∧(∀b∈bs,1≤wN b):=
 ⟨fun b hb=>(h.ok b hb).big.2.2.2.1,fun R hR=>Nat.lt_of_le_of_lt (h.rw R hR).2.2 (by decide +kernel),fun b hb=>(h.ok b hb).big.2.2.2.2⟩
def ph(P:Program)(w:World)(K:PySem.W.Frag)(mg:Str→Option Value)(base:Heap):Sp:=fun vs H Q _=>∃(x a C:Addr) (bs:List (Int×Int)) (Rs:List (Str×Int)),vs=[.ref x,.ref a,.int (e8 bs),.int (cb bs Rs)]∧cj K C∧bU P w K mg base C bs Rs x H∧bY K H a bs∧Sc bs Rs∧e8 bs≤400∧∀H',ar H H'→Q (.bl true) H'
def pe(P:Program)(w:World)(K:PySem.W.Frag)(mg:Str→Option Value)(base:Heap)(C:Addr):Sp:=fun vs H Q _=>∃(x a:Addr) (bs:List (Int×Int)) (Rs:List (Str×Int)),vs=[.ref x,.ref a,.str (bM bs Rs)]∧bU P w K mg base C bs Rs x H∧bY K H a bs∧Sc bs Rs∧∀x' H',bU P w K mg base C bs Rs x' H'→ar H H'→Q (.ref x') H'
theorem rS{K:PySem.W.Frag}{H:Hp}{a c:Addr}{bs:List (Int×Int)}{Q:VK}(h:bY K H a bs)(g:bY K H c bs)(q:Q (.bl false) H):fG K (.ref a) (.ref c) H Q:=by
 obtain⟨ts,h1,h2,h3⟩:=h
 obtain⟨us,g1,g2,g3⟩:=g
 refine .inr ⟨true,⟨a,c,true,ts.map V.ref,us.map V.ref,fun _=>true,rfl,rfl,h1,g1,fun j x y hx hy=>?_,by simp [h2,g2]⟩,q⟩
 rw [List.getElem?_map]at hx hy
 cases ht:ts[j]? with
 | none=>rw [ht]at hx;cases hx
 | some t=>
  cases hu:us[j]? with
  | none=>rw [hu]at hy;cases hy
  | some u=>
   rw [ht]at hx
   rw [hu]at hy
   cases hx
   cases hy
   have hj:j < bs.length:=by rw [←h2];exact(List.getElem?_eq_some_iff.mp ht).1
   have hb:bs[j]?=some bs[j]:=List.getElem?_eq_getElem hj
   have e1:=h3 j t _ ht hb
   have e2:=g3 j u _ hu hb
   by_cases e:t=u
   ·subst e
    exact iA.same
   ·unfold iA
    refine .inr ⟨t,u,false,_,_,fun _=>true,rfl,rfl,e,e1,e2,fun i x y hx hy=>?_,by simp⟩
    rw [hx]at hy
    cases hy
    have hm:=List.mem_of_getElem? hx
    simp only [List.mem_cons,List.not_mem_nil,or_false]at hm
    rcases hm with rfl | rfl
    ·have:=iA.flat (K:=K) (H:=H) (n:=3) (x:=.int bs[j].1) (y:=.int bs[j].1) rfl rfl
     rwa [show n9 (.int bs[j].1) (.int bs[j].1)=true by simp [n9]]at this
    ·have:=iA.flat (K:=K) (H:=H) (n:=3) (x:=.int bs[j].2) (y:=.int bs[j].2) rfl rfl
     rwa [show n9 (.int bs[j].2) (.int bs[j].2)=true by simp [n9]]at this
section
variable {P:Program} {w:World} {K:PySem.W.Frag} {mg:Str→Option Value} {base:Heap} {aM:Addr}
theorem vH{f:Addr}{fd:FuncData}(F:cR K "_law_same" "_law_same" fK f fd)(T:Txt mg aM)(D_columns:cE P w K mg base "columns" 8 ["score"] (hJ P w K mg base))(D_weight:cE P w K mg base "weight" 8 ["score"] (gr P w K mg base))(D_law_columns:cE P w K mg base "_law_columns" 8 ["_law_found","_law_ranges_here","_law_many"] (lU K)):
  aE P w K mg base b8 9 f fd ["_law_score","_law_ranges_here","_law_many","_law_heavy"] (ph P w K mg base):=by
 refine F.ok sc_law_same (fun vs H Q E h=>?_) (fun cdv A outer s H vs Q E hr h=>?_)
 ·obtain⟨x,a,C,bs,Rs,rfl,_⟩:=h
  rfl
 obtain⟨x,a,C,bs,Rs,rfl,TC,S,RA,sc,hc,k⟩:=h
 refine⟨_,(ag (ay (i:=4) sc_law_same.nd rfl (Or.inl rfl) (aK D_columns hr (by rfl) (aa (pr 0) ah)))
 (ag (ba (bC (aQ (aK D_law_columns hr (by rfl) (aa (pr 4) (aa (pr 1) (aa (pr 2) ah)))) (fun _=>rfl))) (aj (aw eL)) aL)
 (ag (bw (bH K PySem.F.plainAttrs_list PySem.F.slot_list_append PySem.F.type_list_append cL (pr 4) (aa (cw (aa af ah)) ah)))
 (ag (ay (i:=5) sc_law_same.nd rfl (Or.inl rfl) (aK D_weight hr (by rfl) (aa (pr 0) ah)))
 (ag (ba (PW.pt (bE (bC (aQ (ax (bF K) (by rfl) T.n_isinstance boot_isinstance (aa (pr 5) (aa (dy (v:=.ty "int") (by rfl) T.n_int boot_int rfl) ah))) (fun _=>rfl))) (bE (aQ (ax (bF K) (by rfl) T.n_isinstance boot_isinstance (aa (pr 5) (aa (dy (v:=.ty "bool") (by rfl) T.n_bool boot_bool rfl) ah))) (fun _=>rfl)) (bS (bj (aB tP (pr 5) (pr 3) (aD _))))))) (aj (aw eL)) aL)
 (aj (aw (aK D_law_columns hr (by rfl) (aa (aK D_columns hr (by rfl) (aa (pr 0) ah)) (aa (pr 1) (aa (pr 2) ah))))))))))),?_⟩
 have hs:sizeLine=16777216:=sizeLine_eq
 obtain⟨w1,w2,w3⟩:=sc.wide
 have lb:=sc.lb
 have lr:=sc.lr
 have cl:=gF bs
 refine aV (fun σ H'=>∃q,H q=none∧bN H' q (bZ bs)∧ar H H'∧σ=[some (.ref x),some (.ref a),some (.int (e8 bs)),some (.int (cb bs Rs)),some (.ref q),none]) ?_ ?_
 rotate_left
 ·intro u' hu
  walk_at "rd"
  exact⟨x,C,bs,Rs,rfl,TC,S,lb,w3,hc,fun q H1 hq h1 s1=>hu _ _ ⟨q,hq,h1,s1,rfl⟩⟩
 rintro _ H1 ⟨q,hq,h1,s1,rfl⟩
 refine aV (fun σ H'=>bN H' q (bZ bs)∧ar H H'∧σ=[some (.ref x),some (.ref a),some (.int (e8 bs)),some (.int (cb bs Rs)),some (.ref q),none]) ?_ ?_
 rotate_left
 ·intro u' hu
  walk_at "rd"
  refine⟨q,a,bs,rfl,h1,RA.same s1,lb,w3,hc,fun H2 s2=>?_⟩
  walk_at "rd"
  exact hu _ _ ⟨h1.same s2,s1.trans s2,rfl⟩
 clear h1 s1
 clear H1
 rintro _ H1 ⟨h1,s1,rfl⟩
 refine aV (fun σ H'=>ar H H'∧σ=[some (.ref x),some (.ref a),some (.int (e8 bs)),some (.int (cb bs Rs)),some (.ref q),none]) ?_ ?_
 rotate_left
 ·intro u' hu
  walk_at "rd"
  refine⟨.inl ⟨rfl,_,aO.of h1.at_⟩,by omega,fun p hp=>?_⟩
  obtain⟨xs,hx1,hx2,_⟩:=h1.put (us:=[0]) hp
  exact⟨q,xs,_,rfl,rfl,hx1,by omega,hu _ _ ⟨wZ hq (s1.upd hp),rfl⟩⟩
 clear h1 s1
 clear H1
 rintro _ H1 ⟨s1,rfl⟩
 refine aV (fun σ H'=>ar H H'∧σ=[some (.ref x),some (.ref a),some (.int (e8 bs)),some (.int (cb bs Rs)),some (.ref q),some (.int (cb bs Rs))]) ?_ ?_
 rotate_left
 ·intro u' hu
  walk_at "rd"
  exact⟨x,C,bs,Rs,rfl,TC,S.same s1,by omega,by omega,w1,w2,hu _ _ ⟨s1,rfl⟩⟩
 clear s1
 clear H1
 rintro _ H1 ⟨s1,rfl⟩
 refine aV (fun σ H'=>ar H H'∧σ=[some (.ref x),some (.ref a),some (.int (e8 bs)),some (.int (cb bs Rs)),some (.ref q),some (.int (cb bs Rs))]) ?_ ?_
 rotate_left
 ·intro u' hu
  walk_at "rd"
  refine⟨_,.int _,true,rfl,?_⟩
  rw [if_neg (by decide)]
  refine⟨_,.int _,false,by with_unfolding_all rfl,?_⟩
  rw [if_neg (by decide)]
  exact hu _ _ ⟨s1,rfl⟩
 clear s1
 clear H1
 rintro _ H1 ⟨s1,rfl⟩
 walk_at "rd"
 exact⟨x,C,bs,Rs,rfl,TC,S.same s1,lb,w3,hc,fun q H2 _ h2 s2=>⟨q,a,bs,rfl,h2,RA.same (s1.trans s2),lb,w3,hc,fun H3 s3=>k _ ((s1.trans s2).trans s3)⟩⟩
theorem vE{f C:Addr}{fd:FuncData}(F:cR K "_law_made_anew" "_law_made_anew" c4 f fd)(T:Txt mg aM)(TC:cj K C)(DM_Score:dP P w K mg base "Score" C 7 ["self","ranges","rules"] (dB K C))(D_shown:cE P w K mg base "shown" 8 ["score"] (gp P w K mg base)):
  aE P w K mg base b8 9 f fd ["_law_score","_law_ranges_here","_law_text"] (pe P w K mg base C):=by
 refine F.ok sc_law_made_anew (fun vs H Q E h=>?_) (fun cdv A outer s H vs Q E hr h=>?_)
 ·obtain⟨x,a,bs,Rs,rfl,_⟩:=h
  rfl
 obtain⟨x,a,bs,Rs,rfl,⟨dx,ra,rb,hx,RA,RB⟩,LA,sc,k⟩:=h
 refine⟨_,(ag (ay (i:=3) sc_law_made_anew.nd rfl (Or.inl rfl) (aJ (cH K) (by rfl) T.n_list boot_list (aa (pr 1) ah)))
 (ag (ay (i:=4) sc_law_made_anew.nd rfl (Or.inl rfl) (aJ (cH K) (by rfl) T.n_list boot_list (aa (dm (pr 0) rfl) ah)))
 (ag (ay (i:=5) sc_law_made_anew.nd rfl (Or.inl rfl) (ig DM_Score hr (by rfl) (aa (pr 3) (aa (pr 4) ah))))
 (ag (bw (bH K PySem.F.plainAttrs_list PySem.F.slot_list_append PySem.F.type_list_append cL (pr 3) (aa (cw (aa af (aa af ah))) ah)))
 (ag (bw (xH PySem.F.plainAttrs_list PySem.F.slot_list_clear PySem.F.type_list_clear tN (pr 4)))
 (ag (ba (PW.pt (bE (bj (aB (xw K (yn hr)) (aK D_shown hr (by rfl) (aa (pr 5) ah)) (pr 2) (aD _))) (bS (bj (aB (xw K (yn hr)) (dm (pr 0) rfl) (pr 1) (aD _)))))) (aj (aw bh)) aL)
 (aj (aw (pr 5))))))))),?_⟩
 have hs:sizeLine=16777216:=sizeLine_eq
 obtain⟨ts,hts,htl,htc⟩:=LA
 obtain⟨rs,hrs,hrl,hrc⟩:=RB
 have lb:=sc.lb
 have lr:=sc.lr
 refine aV (fun σ H'=>∃p1:Addr,H p1=none∧H' p1=some (.lst (ts.map V.ref))∧ar H H'∧σ=[some (.ref x),some (.ref a),some (.str (bM bs Rs)),some (.ref p1),none,none]) ?_ ?_
 rotate_left
 ·intro u' hu
  walk_at "rd"
  exact⟨_,.inl hts,fun p hp=>hu _ _ ⟨p,hp,ae,au hp,rfl⟩⟩
 rintro _ H1 ⟨p1,f1,h1,s1,rfl⟩
 refine aV (fun σ H'=>∃p2:Addr,H p2=none∧p2≠p1∧H' p1=some (.lst (ts.map V.ref))∧H' p2=some (.lst (rs.map V.ref))∧ar H H'∧σ=[some (.ref x),some (.ref a),some (.str (bM bs Rs)),some (.ref p1),some (.ref p2),none]) ?_ ?_
 rotate_left
 ·intro u' hu
  walk_at "rd"
  exact⟨C,dx,_,s1 _ _ hx,TC.cl,TC.n2,_,i4 ra rb,_,rfl,_,.inl (s1.seq hrs),fun p hp=>hu _ _ ⟨p,s1.free hp,(aq h1 hp).symm,(au hp) _ _ h1,ae,s1.upd hp,rfl⟩⟩
 clear h1 s1
 clear H1
 rintro _ H1 ⟨p2,f2,n12,h1,h2,s1,rfl⟩
 refine aV (fun σ H'=>∃x' dx' y1 y2:Addr,H' x'=some (.ins C dx' (b9 y1 y2))∧H' y1=some (.lst (ts.map V.ref))∧H' y2=some (.lst (rs.map V.ref))∧y1≠p1∧y1≠p2∧y2≠p1∧y2≠p2∧H' p1=some (.lst (ts.map V.ref))∧H' p2=some (.lst (rs.map V.ref))∧ar H H'∧σ=[some (.ref x),some (.ref a),some (.str (bM bs Rs)),some (.ref p1),some (.ref p2),some (.ref x')]) ?_ ?_
 rotate_left
 ·intro u' hu
  walk_at "rd"
  intro x' dx' hx' hdx dxx
  have s3:ar H1 (upd (upd H1 dx' (.own x')) x' (.ins C dx' [])):=(au hdx).upd (by rw [ai dxx.symm];exact hx')
  refine⟨x',dx',p1,p2,ts.map V.ref,rs.map V.ref,rfl,ae,s3.seq (aO.of h1),s3.seq (aO.of h2),fun y1 y2 H' hp hq hqp e=>⟨rfl,?_⟩⟩
  have px:y1≠x':=fun e=>by subst e;rw [ae]at hp;cases hp
  have qx:y2≠x':=fun e=>by subst e;rw [ae]at hq;cases hq
  have s4:ar H1 H':=fun c u hc=>by
   have h3:=s3 _ _ hc
   have cx:c≠x':=aq hc hx'
   rw [e,ai cx,ai (aq h3 hq),ai (aq h3 hp)]
   exact h3
  have g1:=s3 _ _ h1
  have g2:=s3 _ _ h2
  exact hu _ _ ⟨x',dx',y1,y2,by rw [e,ae],by rw [e,ai px,ai hqp.symm,ae],by rw [e,ai qx,ae],(aq g1 hp).symm,(aq g2 hp).symm,(aq g1 hq).symm,(aq g2 hq).symm,s4 _ _ h1,s4 _ _ h2,s1.trans s4,rfl⟩
 clear h1 h2 s1
 clear H1
 rintro _ H1 ⟨x',dx',y1,y2,hx',hy1,hy2,n1,n2,n3,n4,h1,h2,s1,rfl⟩
 refine aV (fun σ H'=>H' x'=some (.ins C dx' (b9 y1 y2))∧H' y1=some (.lst (ts.map V.ref))∧H' y2=some (.lst (rs.map V.ref))∧H' p2=some (.lst (rs.map V.ref))∧ar H H'∧σ=[some (.ref x),some (.ref a),some (.str (bM bs Rs)),some (.ref p1),some (.ref p2),some (.ref x')]) ?_ ?_
 rotate_left
 ·intro u' hu
  walk_at "rd"
  refine⟨.inl ⟨rfl,_,aO.of h1⟩,by omega,fun p hp=>?_⟩
  have s2:=au (o:=HO.tup [V.int 0,V.int 1]) hp
  refine⟨p1,_,_,rfl,rfl,s2 _ _ h1,by rw [List.length_map];omega,hu _ _ ⟨?_,?_,?_,?_,wZ f1 (s1.trans s2),rfl⟩⟩
  ·rw [ai (dw hx' h1 (fun e=>by cases e))]
   exact s2 _ _ hx'
  ·rw [ai n1]
   exact s2 _ _ hy1
  ·rw [ai n3]
   exact s2 _ _ hy2
  ·rw [ai n12]
   exact s2 _ _ h2
 clear hx' hy1 hy2 h1 h2 s1
 clear H1
 rintro _ H1 ⟨hx',hy1,hy2,h2,s1,rfl⟩
 refine aV (fun σ H'=>H' x'=some (.ins C dx' (b9 y1 y2))∧H' y1=some (.lst (ts.map V.ref))∧H' y2=some (.lst (rs.map V.ref))∧ar H H'∧σ=[some (.ref x),some (.ref a),some (.str (bM bs Rs)),some (.ref p1),some (.ref p2),some (.ref x')]) ?_ ?_
 rotate_left
 ·intro u' hu
  walk_at "rd"
  refine⟨.inl ⟨rfl,_,aO.of h2⟩,p2,_,rfl,rfl,h2,hu _ _ ⟨?_,?_,?_,wZ f2 s1,rfl⟩⟩
  ·rw [ai (dw hx' h2 (fun e=>by cases e))]
   exact hx'
  ·rw [ai n2]
   exact hy1
  ·rw [ai n4]
   exact hy2
 clear hx' hy1 hy2 h2 s1
 clear H1
 rintro _ H1 ⟨hx',hy1,hy2,s1,rfl⟩
 have SA:bU P w K mg base C bs Rs x' H1:=⟨dx',y1,y2,hx',⟨ts,aO.of hy1,htl,fun i t b e1 e2=>s1.tup (htc i t b e1 e2)⟩,rs,aO.of hy2,hrl,fun j r R e1 e2=>(hrc j r R e1 e2).same s1⟩
 refine aV (fun σ H'=>ar H1 H'∧σ=[some (.ref x),some (.ref a),some (.str (bM bs Rs)),some (.ref p1),some (.ref p2),some (.ref x')]) ?_ ?_
 rotate_left
 ·intro u' hu
  walk_at "rd"
  refine⟨x',C,bs,Rs,rfl,TC,SA,lb,lr,fun b hb=>⟨(sc.ok b hb).big.2.1,(sc.ok b hb).big.2.2.1⟩,fun R hR=>(sc.rw R hR).1.words.1,fun H2 s2=>rNeC_ss.mpr ⟨_,rfl,?_⟩⟩
  rw [decide_eq_true rfl,if_neg (by decide)]
  refine⟨C,dx,_,(s1.trans s2) _ _ hx,TC.cl,TC.n1,_,fc ra rb,rS (RA.same (s1.trans s2)) ⟨ts,(s1.trans s2).seq hts,htl,fun i t b e1 e2=>(s1.trans s2).tup (htc i t b e1 e2)⟩ ⟨_,rfl,?_⟩⟩
  rw [if_neg (by decide)]
  exact hu _ _ ⟨s2,rfl⟩
 rintro _ H2 ⟨s2,rfl⟩
 walk_at "rd"
 exact k x' H2 (SA.same s2) (s1.trans s2)
end
def kD(H:Hp)(ps:List Addr)(Rs:List (Str×Int)):Prop:=ps.length=Rs.length∧∀(i:Nat) (p:Addr) (R:Str×Int),ps[i]?=some p→Rs[i]?=some R→H p=some (.tup [.str R.1,.int R.2])
def sv(H:Hp)(r:Addr)(Rs:List (Str×Int)):Prop:=∃ps:List Addr,H r=some (.lst (ps.map V.ref))∧kD H ps Rs
theorem kD.same{H H':Hp}{ps:List Addr}{Rs:List (Str×Int)}(h:kD H ps Rs)(s:ar H H'):kD H' ps Rs:=⟨h.1,fun i p R e1 e2=>s _ _ (h.2 i p R e1 e2)⟩
theorem sv.same{H H':Hp}{r:Addr}{Rs:List (Str×Int)}(h:sv H r Rs)(s:ar H H'):sv H' r Rs:=by
 obtain⟨ps,h1,h2⟩:=h
 exact⟨ps,s _ _ h1,h2.same s⟩
theorem kD.snoc{H:Hp}{ps:List Addr}{Rs:List (Str×Int)}{p:Addr}{R:Str×Int}(h:kD H ps Rs)(hp:H p=some (.tup [.str R.1,.int R.2])):kD H (ps++[p]) (Rs++[R]):=by
 refine⟨by rw [List.length_append,List.length_append,h.1];rfl,fun i p' R' e1 e2=>?_⟩
 by_cases hi:i < ps.length
 ·rw [List.getElem?_append_left hi]at e1
  rw [List.getElem?_append_left (by rw [←h.1];exact hi)]at e2
  exact h.2 i p' R' e1 e2
 ·rw [List.getElem?_append_right (by omega)]at e1
  rw [List.getElem?_append_right (by rw [←h.1];omega),←h.1]at e2
  have h0:i - ps.length=0:=by
   have:=(List.getElem?_eq_some_iff.mp e1).1
   simp at this
   omega
  rw [h0]at e1 e2
  cases e1
  cases e2
  exact hp
def zV(nv:Nat)(R:Str×Int):Prop:=nM nv R.1 R.2∧1≤R.2∧R.2.natAbs≤10 ^ 30
theorem w5:∀(Rs:List (Str×Int)) (t:Int),0≤t→(∀R∈Rs,1≤R.2)→t≤Rs.foldl (fun t R=>t * R.2) t
 | [],t,_,_=>Int.le_refl _
 | R::Rs,t,h0,h=>by
  have h1:=h R (by simp)
  have h2:t * 1≤t * R.2:=Int.mul_le_mul_of_nonneg_left h1 h0
  rw [Int.mul_one]at h2
  exact Int.le_trans h2 (w5 Rs (t * R.2) (Int.le_trans h0 h2) fun R' hR=>h R' (by simp [hR]))
theorem qG{bs:List (Int×Int)}{Rs:List (Str×Int)}(sc:Sc bs Rs):(e8 bs:Int)≤cb bs Rs:=by
 rw [←ma fun b hb=>(sc.ok b hb).1]
 refine w5 Rs (gw bs) ?_ fun R hR=>(sc.rw R hR).2.1
 rw [ma fun b hb=>(sc.ok b hb).1]
 omega
theorem wU:Str.ofString "\n"=⟨#[10]⟩:=by decide +kernel
theorem pH{bs:List (Int×Int)}{Rs:List (Str×Int)}(sc:Sc bs Rs)(h1:1≤bs.length):Txt.split (bM bs Rs) ⟨#[10]⟩=bs.map jQ++Rs.map Prod.fst:=by
 unfold bM
 rw [wU]
 refine nA (by decide) (fun e=>?_) fun z hz=>?_
 ·have:=congrArg List.length e
  unfold cg at this
  rw [List.length_append,List.length_map,List.length_nil]at this
  omega
 ·rcases List.mem_append.mp hz with hz | hz
  ·obtain⟨b,hb,rfl⟩:=List.mem_map.mp hz
   exact cN (kh (sc.ok b hb).big.2.1 (sc.ok b hb).big.2.2.1) (by decide +kernel)
  ·obtain⟨R,hR,rfl⟩:=List.mem_map.mp hz
   exact(sc.rw R hR).1.no10
theorem ni{bs:List (Int×Int)}{Rs:List (Str×Int)}(sc:Sc bs Rs):(∀z∈cg bs Rs,z.length≤20000)∧(cg bs Rs).length≤16:=by
 refine⟨fun z hz=>?_,?_⟩
 ·rcases List.mem_append.mp hz with hz | hz
  ·obtain⟨b,hb,rfl⟩:=List.mem_map.mp hz
   have:=nH (sc.ok b hb).big.2.1 (sc.ok b hb).big.2.2.1
   omega
  ·obtain⟨R,hR,rfl⟩:=List.mem_map.mp hz
   exact(sc.rw R hR).1.words.1
 ·unfold cg
  rw [List.length_append,List.length_map,List.length_map]
  have:=sc.lb
  have:=sc.lr
  omega
theorem uP{bs:List (Int×Int)}{Rs:List (Str×Int)}(sc:Sc bs Rs):(bM bs Rs).length≤1000000:=by
 obtain⟨h1,h2⟩:=ni sc
 unfold bM
 rw [wU,aN,i3]
 have:=gL 10 ((cg bs Rs).map fun z=>z.cps.toList) 20000 (fun p hp=>by
  obtain⟨y,hy,rfl⟩:=List.mem_map.mp hp
  rw [←aN]
  exact h1 y hy)
 rw [List.length_map]at this
 have:=Nat.mul_le_mul_right (20000+1) h2
 omega
def qj(K:PySem.W.Frag):Sp:=fun vs H Q _=>∃(a:Addr) (ns:List Int),vs=[.ref a]∧aO K H a (ns.map V.int)∧(∀x∈ns,x.natAbs < 2 ^ GB)∧ns.length≤63∧∀H',Q (.bl true) H'
theorem yj{H:Hp}{t:Addr}{us:List Int}(h:H t=some (.tup (us.map V.int))):gD H [t] [us]:=by
 refine⟨rfl,fun i p us' e1 e2=>?_⟩
 have hi:i=0:=by
  have:=(List.getElem?_eq_some_iff.mp e1).1
  simp at this
  exact this
 subst hi
 cases e1
 cases e2
 exact h
section
variable {P:Program} {w:World} {K:PySem.W.Frag} {mg:Str→Option Value} {base:Heap} {aM:Addr}
theorem xy{f C C' cS:Addr}{fd:FuncData}(F:cR K "law" "law" ki f fd)(T:yt mg aM K C' cS)(TC:cj K C)(DE_TooWide:jr P w K mg base "TooWide" C' 7 ["self","weight"] (we C' "weight") zU)(D_law_got:cE P w K mg base "_law_got" 11 ["_law_script","_law_place"] (nu K))(D_law_cells:cE P w K mg base "_law_cells" 11 ["_law_script","_law_first","_law_last"] (lT K))
  (D_law_ranges:cE P w K mg base "_law_ranges" 11 ["_law_script"] (jh K)) (D_law_rule:cE P w K mg base "_law_rule" 11 ["_law_cell","_law_voices"] (pf K)) (D_shown:cE P w K mg base "shown" 11 ["score"] (gp P w K mg base)) (D_law_made_anew:cE P w K mg base "_law_made_anew" 11 ["_law_score","_law_ranges_here","_law_text"] (pe P w K mg base C))
  (D_law_same:cE P w K mg base "_law_same" 11 ["_law_score","_law_ranges_here","_law_many","_law_heavy"] (ph P w K mg base)) (DX_read:kA P w K mg base "read" 11 ["text"] (lV P w K mg base C C')) :
  aE P w K mg base b8 12 f fd ["_law_script"] (qj K):=by
 refine F.ok sc_law (fun vs H Q E h=>?_) (fun cdv A outer s H vs Q E hr h=>?_)
 ·obtain⟨a,ns,rfl,_⟩:=h
  rfl
 obtain⟨a,ns,rfl,hS,hB,hn,k⟩:=h
 refine⟨_,(ag (ay (i:=1) sc_law.nd rfl (Or.inr rfl) (aK D_law_ranges hr (by rfl) (aa (pr 0) ah)))
 (ag (fF (i:=2) sc_law.nd rfl (Or.inl rfl) (own:=["_law_cell"]) (js:=[1]) rfl (bI K (aK D_law_cells hr (by rfl) (aa (pr 0) (aa af (aa af ah))))) (aZ.of (by rfl)) (fun _ _ _ _ _=>(aF (i:=0) (show List.Nodup (["_law_cell","_law_ranges_here"]:List Str)from by decide +kernel) rfl (Or.inl rfl))) (fun _ _ _ _ _=>cD) (fun _ _ _ _ _=>(aK D_law_rule hr (by rfl) (aa (pr 0) (aa (ax (aS K) (by rfl) T.n_len boot_len (aa (pr 1) ah)) ah)))) rfl)
 (ag (ay (i:=3) sc_law.nd rfl (Or.inl rfl) (aK D_law_got hr (by rfl) (aa (pr 0) (aa af ah))))
 (ag (ba (bj (aB (xv K (yn hr)) (ao (o1 bg) (pr 3) af) af (aD _))) (ag (ay (i:=4) sc_law.nd rfl (Or.inl rfl) (aX (bR K) (aX (bR K) (pr 1) af (fun _ _=>rfl)) af (fun _ _=>rfl)))
 (ag (ay (i:=1) sc_law.nd rfl (Or.inr rfl) (dH (aa (cw (aa (pr 4) (aa (ao (aW K) (pr 4) (aX (bR K) (dH (j9 (vs:=[.int (398),.int (399),.int (400),.int (401),.int (399)]) rfl)) (ao (o1 bg) (ao (o1 cn) (pr 3) af) af) (fun _ _=>rfl))) ah))) ah)))
 (ag (ba (bj (aB (xv K (yn hr)) (ao (o1 bg) (ao (o1 cn) (pr 3) af) af) af (aD _))) (aj (ay (i:=1) sc_law.nd rfl (Or.inr rfl) (dH (aa (cw (aa (pr 4) (aa (ao (aW K) (pr 4) af) ah))) (aa (cw (aa (pr 4) (aa (ao (aW K) (pr 4) (aX (bR K) (dH (aa af (aa af (aa af ah)))) (ao (o1 bg) (ao (o1 cn) (pr 3) af) af) (fun _ _=>rfl))) ah))) ah))))) aL)
 (aj (fF (i:=2) sc_law.nd rfl (Or.inl rfl) (own:=["_law_k"]) (js:=[]) rfl (ff rfl T.n_range (aa (ao (o1 bg) (ao (o1 cn) (pr 3) af) af) ah)) (aZ.of (by rfl)) (fun _ _ _ _ _=>(aF (i:=0) (show List.Nodup (["_law_k"]:List Str)from by decide +kernel) rfl (Or.inl rfl))) (fun _ _ _ _ _=>cD) (fun _ _ _ _ _=>(cw (aa (ao (aW K) aT (aJ (bo) (by rfl) T.n_str boot_str (aa (pr 0) ah))) (aa af ah)))) rfl))))) aL)
 (ag (ay (i:=5) sc_law.nd rfl (Or.inl rfl) af)
 (ag (ay (i:=6) sc_law.nd rfl (Or.inl rfl) (dH ah))
 (ag (cW PassesOwn.never rfl (bI K (pr 1)) (c7 K (n:=2) rfl (aY (aF (i:=4) sc_law.nd rfl (Or.inl rfl)) (aY (aF (i:=7) sc_law.nd rfl (Or.inl rfl)) c8)))
 (ag (ay (i:=5) sc_law.nd rfl (Or.inl rfl) (ao (dU K) (pr 5) (ao (aW K) (ao (o0 dG) (pr 7) (pr 4)) af)))
 (aj (bw (bH K PySem.F.plainAttrs_list PySem.F.slot_list_append PySem.F.type_list_append cL (pr 6) (aa (ao (aW K) (ao (aW K) (ao (aW K) aT (aJ (bo) (by rfl) T.n_str boot_str (aa (pr 4) ah))) aT) (aJ (bo) (by rfl) T.n_str boot_str (aa (pr 7) ah))) ah))))))
 (ag (ay (i:=8) sc_law.nd rfl (Or.inl rfl) (pr 5))
 (ag (cW PassesOwn.never rfl (bI K (pr 2)) (c7 K (n:=2) rfl (aY (aF (i:=9) sc_law.nd rfl (Or.inl rfl)) (aY (aF (i:=10) sc_law.nd rfl (Or.inl rfl)) c8)))
 (ag (ay (i:=8) sc_law.nd rfl (Or.inl rfl) (ao (dU K) (pr 8) (pr 10)))
 (aj (bw (bH K PySem.F.plainAttrs_list PySem.F.slot_list_append PySem.F.type_list_append cL (pr 6) (aa (pr 9) ah))))))
 (ag (ay (i:=11) sc_law.nd rfl (Or.inl rfl) (bH K PySem.F.plainAttrs_str PySem.F.slot_str_join PySem.F.type_str_join (mS K) aT (aa (pr 6) ah)))
 (ag (ay (i:=12) sc_law.nd rfl (Or.inl rfl) bh)
 (ag (ay (i:=13) sc_law.nd rfl (Or.inl rfl) bh)
 (ag (vT (iv:=12) (ie:=14) (ir:=13) DE_TooWide DX_read rfl rfl rfl (by rfl) sc_law.nd rfl (Or.inl rfl) rfl rfl rfl (Or.inl rfl) (Or.inl rfl) (Or.inl rfl) hr (by rfl) (aa (pr 11) ah))
 (ag (ba (bj (aB (o0 p6) (pr 8) af (aD _))) (ag (ba (PW.pt (bE (bj (aB lu (pr 13) bh (aD _))) (bE (bC (aQ (ax (jX K DE_TooWide (by decide +kernel) (by decide +kernel) (by decide +kernel)) (by rfl) T.n_isinstance boot_isinstance (aa (pr 13) (aa (jJ T.c_ScoreError) ah))) (fun _=>rfl))) (bS (bC (aQ (ax (jX K DE_TooWide (by decide +kernel) (by decide +kernel) (by decide +kernel)) (by rfl) T.n_isinstance boot_isinstance (aa (pr 13) (aa (dy (v:=.ty "ValueError") (by rfl) T.n_ValueError il rfl) ah))) (fun _=>rfl))))))) (aj (aw eL)) aL)
 (aj (aw (t7 (oH (ax (bF K) (by rfl) T.n_isinstance boot_isinstance (aa (p8 DE_TooWide (by decide +kernel) (by decide +kernel) (by decide +kernel) fB (pr 13) rfl) (aa (dy (v:=.ty "int") (by rfl) T.n_int boot_int rfl) ah))) (oJ (gb (xv K (yn hr)) (p8 DE_TooWide (by decide +kernel) (by decide +kernel) (by decide +kernel) fB (pr 13) rfl) (pr 8) (aD _)))))))) aL)
 (ag (ba (PW.pt (bE (bj (aB lA (pr 13) bh (aD _))) (bS (bj (aB (xw K (yn hr)) (aK D_shown hr (by rfl) (aa (pr 12) ah)) (pr 11) (aD _)))))) (aj (aw eL)) aL)
 (ag (ay (i:=15) sc_law.nd rfl (Or.inl rfl) (aK D_law_made_anew hr (by rfl) (aa (pr 12) (aa (pr 1) (aa (pr 11) ah)))))
 (aj (aw (t7 (oH (gb lA (pr 15) bh (aD _)) (t7 (oH (aK D_law_same hr (by rfl) (aa (pr 15) (aa (pr 1) (aa (pr 5) (aa (pr 8) ah))))) (oJ (aK D_law_same hr (by rfl) (aa (pr 12) (aa (pr 1) (aa (pr 5) (aa (pr 8) ah)))))))))))))))))))))))))))),?_⟩
 have hs:sizeLine=16777216:=sizeLine_eq
 refine aV (fun σ H'=>∃(q:Addr) (bs:List (Int×Int)),1≤bs.length∧bs.length≤4∧(∀b∈bs,tV b)∧bN H' q (bs.map dk)∧ar H H'∧σ=[some (.ref a),some (.ref q),none,none,none,none,none,none,none,none,none,none,none,none,none,none]) ?_ ?_
 rotate_left
 ·intro u' hu
  walk_at "rd"
  exact⟨a,ns,rfl,hS,hB,hn,fun q bs H1 l1 l4 ok _ hC s1=>hu _ _ ⟨q,bs,l1,l4,ok,hC,s1,rfl⟩⟩
 rintro _ H1 ⟨q,bs,l1,l4,ok,hC,s1,rfl⟩
 refine aV (fun σ H'=>∃(r:Addr) (Rs:List (Str×Int)),Rs.length≤12∧(∀R∈Rs,zV bs.length R)∧sv H' r Rs∧ar H1 H'∧σ=[some (.ref a),some (.ref q),some (.ref r),none,none,none,none,none,none,none,none,none,none,none,none,none]) ?_ ?_
 rotate_left
 ·intro u' hu
  walk_at "rd"
  have cl:(GM.cellsF ns 9 21).length≤12:=by
   unfold GM.cellsF
   rw [List.length_map,List.length_range]
   split<;>omega
  have hql:∀H',ar H1 H'→∃xs,aO K H' q xs∧xs.length=bs.length:=fun H' s'=>by
   obtain⟨ps,h1,h2⟩:=hC
   exact⟨_,aO.of (s' _ _ h1),by rw [List.length_map,h2.1,List.length_map]⟩
  refine⟨a,ns,9,21,rfl,s1.seq hS,hB,hn,by decide,by decide,by decide,by decide,fun cq H2 hcq s2=>bK (aO.of hcq) (cv (xs:=(GM.cellsF ns 9 21).map V.int) (fun i ys H'=>∃(ps:List Addr) (Rs:List (Str×Int)),ys=ps.map V.ref∧kD H' ps Rs∧Rs.length=i∧(∀R∈Rs,zV bs.length R)∧ar H2 H') (by rw [List.length_map];omega) ⟨[],[],rfl,⟨rfl,fun i p R e=>nomatch e⟩,rfl,(fun _ h=>nomatch h),ar.refl _⟩ ?_ ?_ ?_ ?_)⟩
  ·rintro i ys H' ⟨ps,Rs,rfl,h1,h2,_⟩
   rw [List.length_map,h1.1,h2]
   exact Nat.le_refl _
  ·rintro i ys H' ⟨ps,Rs,rfl,_,_,_,sm⟩
   exact aO.of (sm _ _ hcq)
  ·rintro i y ys H' hy ⟨ps,Rs,rfl,h1,h2,h3,sm⟩
   obtain⟨c,hc,rfl⟩:=List.mem_map.mp (List.mem_of_getElem? hy)
   obtain⟨xs,hx1,hx2⟩:=hql H' (s2.trans sm)
   simp only [eu]
   walk_at "rd"
   refine⟨xs,.inl hx1,c,bs.length,by rw [hx2],GM.cellsF_nn hc,GM.cellsF_lt hB hc,l1,l4,fun p row sz H4 hrow h1' hb' hp4 s4=>?_⟩
   refine⟨ps++[p],by rw [List.map_append];rfl,Rs++[(row,sz)],(h1.same s4).snoc hp4,by rw [List.length_append,h2];rfl,fun R hR=>?_,sm.trans s4⟩
   rcases List.mem_append.mp hR with hR | hR
   ·exact h3 R hR
   ·rw [List.mem_singleton.mp hR]
    exact⟨hrow,h1',hb'⟩
  ·rintro ys H' ⟨ps,Rs,rfl,h1,h2,h3,sm⟩ p hp
   rw [List.length_map]at h2
   exact hu _ _ ⟨p,Rs,by omega,h3,⟨ps,ae,h1.same (au hp)⟩,(s2.trans sm).upd hp,rfl⟩
 rintro _ H2 ⟨r,Rs,lr,okr,hR,s2,rfl⟩
 refine aV (fun σ H'=>∃(e:Int),0≤e∧ar H2 H'∧σ=[some (.ref a),some (.ref q),some (.ref r),some (.int e),none,none,none,none,none,none,none,none,none,none,none,none]) ?_ ?_
 rotate_left
 ·intro u' hu
  walk_at "rd"
  exact⟨a,ns,21,rfl,(s1.trans s2).seq hS,hB,by decide,by decide,fun H3 s3=>hu _ _ ⟨_,GM.gotF_nn ns _,s3,rfl⟩⟩
 rintro _ H3 ⟨e,e0,s3,rfl⟩
 refine aV (fun σ H'=>∃(q r:Addr) (bs:List (Int×Int)) (Rs:List (Str×Int)) (o4:Option V),1≤bs.length∧Sc bs Rs∧bN H' q (bs.map dk)∧sv H' r Rs∧σ=[some (.ref a),some (.ref q),some (.ref r),some (.int e),o4,none,none,none,none,none,none,none,none,none,none,none]) ?_ ?_
 rotate_left
 ·intro u' hu
  have hC3:=hC.same (s2.trans s3)
  have hR3:=hR.same s3
  refine tm fun A0 B0 hA hB=>?_
  walk_at "rd"
  refine⟨by decide,?_⟩
  by_cases h3:e % 3=1
  ·rw [if_pos h3]
   refine hA _ ?_
   obtain⟨b0,hb0⟩:∃b0,bs[0]?=some b0:=⟨_,List.getElem?_eq_getElem (by omega)⟩
   have ok0:=ok b0 (List.mem_of_getElem? hb0)
   obtain⟨ps,hq3,hpl,hpc⟩:=hC3
   rw [List.length_map]at hpl
   obtain⟨p0,hp0⟩:∃p0,ps[0]?=some p0:=⟨_,List.getElem?_eq_getElem (by omega)⟩
   have hp03:=hpc 0 p0 (dk b0) hp0 (by rw [List.getElem?_map,hb0];rfl)
   refine lz fun k1 hk1=>?_
   walk_at "rd"
   refine bf (aO.of hq3) (show et _ ((0:Nat):Int)=_ from aU (by rw [List.getElem?_map,hp0];rfl)) (qe (cA.of hp03) (bA rfl) ?_)
   refine hk1 _ _ (lz fun k2 hk2=>?_)
   walk_at "rd"
   have pick:∀(L:List Int) (x:V) (i:Int),(∀n∈L,0≤n∧n≤401)→et (L.map V.int) i=some x→∃n:Int,0≤n∧n≤401∧x=.int n:=fun L x i hL hx=>by
    refine u6 (P:=fun x=>∃n:Int,0≤n∧n≤401∧x=.int n) (fun x hx=>?_) hx
    obtain⟨n,hn,rfl⟩:=List.mem_map.mp hx
    exact⟨n,(hL n hn).1,(hL n hn).2,rfl⟩
   refine⟨by omega,fun p hp=>⟨⟨by decide,by decide⟩,by decide,?_⟩⟩
   obtain⟨x,hx⟩:=pQ (xs:=([398,399,400,401,399]:List Int).map V.int) (c:=e / 3) (m:=5) (by decide) (by decide)
   obtain⟨n,n0,n1,rfl⟩:=pick [398,399,400,401,399] x _ (by decide) hx
   refine bf (aO.of ae) hx (rAddA_ii.mpr ⟨by omega,fun t ht=>⟨by omega,fun q2 hq2=>?_⟩⟩)
   have okN:∀n:Int,0≤n→n≤401→tV (b0.1,b0.1+n):=fun n n0 n1=>by
    obtain⟨_,o2,_⟩:=ok0
    unfold tV
    rw [sE]at o2 ⊢
    show b0.1≤b0.1+n∧b0.1.natAbs≤_∧(b0.1+n).natAbs≤_
    omega
   have hC5:bN (upd (upd (upd H3 p (HO.lst [V.int 398,V.int 399,V.int 400,V.int 401,V.int 399])) t (HO.tup [V.int b0.1,V.int (b0.1+n)])) q2 (HO.lst [V.ref t])) q2 ([(b0.1,b0.1+n)].map dk):=by
    exact⟨[t],ae,yj (us:=dk (b0.1,b0.1+n)) ((au hq2) _ _ ae)⟩
   generalize upd (upd (upd H3 p (HO.lst [V.int 398,V.int 399,V.int 400,V.int 401,V.int 399])) t (HO.tup [V.int b0.1,V.int (b0.1+n)])) q2 (HO.lst [V.ref t])=H5 at hC5
   refine hk2 _ _ (lz fun k3 hk3=>?_)
   have fin:∀(q':Addr) (bs':List (Int×Int)) (H':Hp),1≤bs'.length→bs'.length≤4→(∀b∈bs',tV b)→bN H' q' (bs'.map dk)→k3 [some (V.ref a),some (V.ref q'),some (V.ref r),some (V.int e),some (V.int b0.1),none,none,none,none,none,none,none,none,none,none,none] H':=fun q' bs' H' g1 g4 gok gC=>hk3 _ _ (by
    walk_at "rd"
    have m0:=Int.emod_nonneg (e / 90) (show(4:Int)≠0 by decide)
    have m1:=Int.emod_lt_of_pos (e / 90) (show(0:Int) < 4 by decide)
    have l14:(Str.ofString "move 1 0 1 -1 ").length=14:=by decide +kernel
    refine⟨⟨by decide,by decide⟩,by decide,by omega,by omega,ez (fun i ys H2=>∃(ps:List Addr) (Rs:List (Str×Int)),ys=ps.map V.ref∧kD H2 ps Rs∧Rs.length=i∧(∀R∈Rs,zV bs'.length R)∧ar H' H2) (by omega) ⟨[],[],rfl,⟨rfl,fun i p R e=>nomatch e⟩,rfl,(fun _ h=>nomatch h),ar.refl _⟩ ?_ ?_ ?_⟩
    ·rintro i ys H2 ⟨ps,Rs,rfl,h1,h2,_⟩
     rw [List.length_map,h1.1,h2]
     exact Nat.le_refl _
    ·rintro i ys H2 hi ⟨ps,Rs,rfl,h1,h2,h3,sm⟩
     have hiB:((0:Int)+(i:Int)).natAbs≤10 ^ 30:=Nat.le_trans (show _≤4 by omega) (by decide +kernel)
     have hl:=cC (Nat.lt_of_le_of_lt hiB (by decide +kernel))
     simp only [eu]
     walk_at "rd"
     rw [Int.zero_add]at hiB hl
     refine⟨bW (Nat.lt_of_le_of_lt hiB (by decide +kernel)),by omega,by omega,fun p hp=>?_⟩
     refine⟨ps++[p],by rw [List.map_append];rfl,Rs++[(Str.ofString "move 1 0 1 -1 " ++ aP i,1)],(h1.same (au hp)).snoc ae,by rw [List.length_append,h2];rfl,fun R hR=>?_,sm.upd hp⟩
     rcases List.mem_append.mp hR with hR | hR
     ·exact h3 R hR
     ·rw [List.mem_singleton.mp hR]
      exact⟨.move (rW hiB) (by omega) (by omega) (by simp) (by simp),show(1:Int)≤1 by decide,show(1:Int).natAbs≤10 ^ 30 by decide +kernel⟩
    ·rintro ys H2 ⟨ps,Rs,rfl,h1,h2,h3,sm⟩ p hp
     exact hu _ _ ⟨q',p,bs',Rs,_,g1,⟨g4,by omega,gok,h3⟩,gC.same (sm.upd hp),⟨ps,ae,h1.same (au hp)⟩,rfl⟩)
   walk_at "rd"
   refine⟨⟨by decide,by decide⟩,by decide,?_⟩
   by_cases h15:e / 15 % 2=1
   ·rw [if_pos h15]
    refine⟨by omega,fun t1 ht1=>⟨by omega,fun p1 hp1=>⟨⟨by decide,by decide⟩,by decide,?_⟩⟩⟩
    obtain⟨x,hx⟩:=pQ (xs:=([18,19,20]:List Int).map V.int) (c:=e / 30) (m:=3) (by decide) (by decide)
    obtain⟨n',n0',n1',rfl⟩:=pick [18,19,20] x _ (by decide) hx
    refine bf (aO.of ae) hx (rAddA_ii.mpr ⟨by omega,fun t2 ht2=>⟨by omega,fun q3 hq3=>?_⟩⟩)
    refine fin q3 [(b0.1,b0.1+19),(b0.1,b0.1+n')] _ (by simp) (by simp) (fun b hb=>?_) ?_
    ·simp only [List.mem_cons,List.not_mem_nil,or_false]at hb
     rcases hb with rfl | rfl
     ·exact okN 19 (by decide) (by decide)
     ·exact okN n' n0' n1'
    ·exact⟨[t1,t2],ae,(yj (us:=dk (b0.1,b0.1+19)) ((au hq3) _ _ ((au ht2) _ _ ((au hp1) _ _ ae)))).append (yj (us:=dk (b0.1,b0.1+n')) ((au hq3) _ _ ae))⟩
   ·rw [if_neg h15]
    exact fin q2 _ H5 (by simp) (by simp) (fun b hb=>by rw [List.mem_singleton.mp hb];exact okN n n0 n1) hC5
  ·rw [if_neg h3]
   refine hB _ ?_
   exact hu _ _ ⟨q,r,bs,Rs,none,l1,⟨l4,lr,ok,okr⟩,hC3,hR3,rfl⟩
 clear hR hC ok okr l1 l4 lr
 clear q r bs Rs s1 s2 s3
 clear H1 H2 H3
 rintro _ H1 ⟨q,r,bs,Rs,o4,l1,sc,⟨ts,hq,htl,htc⟩,⟨ps,hr1,hpl,hpc⟩,rfl⟩
 rw [List.length_map]at htl
 have htc:∀(i:Nat) (t:Addr) (b:Int×Int),ts[i]?=some t→bs[i]?=some b→H1 t=some (.tup [.int b.1,.int b.2]):=fun i t b e1 e2=>htc i t (dk b) e1 (by rw [List.getElem?_map,e2];rfl)
 obtain⟨w1,w2,w3⟩:=sc.wide
 have lb:=sc.lb
 have lr:=sc.lr
 refine aV (fun σ H'=>H1=H'∧σ=[some (.ref a),some (.ref q),some (.ref r),some (.int e),o4,some (.int 1),none,none,none,none,none,none,none,none,none,none]) ?_ ?_
 rotate_left
 ·intro u' hu
  walk_at "rd"
  exact hu _ _ ⟨rfl,rfl⟩
 rintro _ _ ⟨rfl,rfl⟩
 refine aV (fun σ H'=>∃z:Addr,H1 z=none∧H' z=some (.lst [])∧ar H1 H'∧σ=[some (.ref a),some (.ref q),some (.ref r),some (.int e),o4,some (.int 1),some (.ref z),none,none,none,none,none,none,none,none,none]) ?_ ?_
 rotate_left
 ·intro u' hu
  walk_at "rd"
  exact⟨by omega,fun z hz=>hu _ _ ⟨z,hz,ae,au hz,rfl⟩⟩
 rintro _ H2 ⟨z,hz0,hz2,s2,rfl⟩
 refine aV (fun σ H'=>∃o4 o7:Option V,H' z=some (.lst ((bs.map jQ).map V.str))∧ar H1 H'∧σ=[some (.ref a),some (.ref q),some (.ref r),some (.int e),o4,some (.int (gw bs)),some (.ref z),o7,none,none,none,none,none,none,none,none]) ?_ ?_
 rotate_left
 ·intro u' hu
  walk_at "rd"
  obtain⟨Pv,hPv⟩:∃Pv:Nat→L2.St→Hp→Prop,Pv=fun i σ H'=>∃o4 o7:Option V,H' z=some (.lst (((bs.take i).map jQ).map V.str))∧ar H1 H'∧σ=[some (.ref a),some (.ref q),some (.ref r),some (.int e),o4,some (.int (gw (bs.take i))),some (.ref z),o7,none,none,none,none,none,none,none,none]:=⟨_,rfl⟩
  refine bK (aO.of (s2 _ _ hq)) (cJ (xs:=ts.map V.ref) Pv (by rw [hPv];exact⟨o4,none,hz2,s2,rfl⟩) (fun i σ H' _ h=>?_) ?_ ?_)
  ·rw [hPv]at h
   obtain⟨_,_,_,s',_⟩:=h
   exact aO.of (s' _ _ hq)
  ·intro i y σ H3 hy hI
   rw [hPv]at hI
   obtain⟨o4,o7,hz3,s3,rfl⟩:=hI
   rw [List.getElem?_map]at hy
   cases ht:ts[i]? with
   | none=>rw [ht]at hy;cases hy
   | some t=>
    rw [ht]at hy
    cases hy
    obtain⟨b,hb⟩:∃b,bs[i]?=some b:=⟨_,List.getElem?_eq_getElem (by rw [←htl];exact(List.getElem?_eq_some_iff.mp ht).1)⟩
    have hbm:=List.mem_of_getElem? hb
    obtain⟨_,n1,n2,_,_⟩:=(sc.ok b hbm).big
    have ew:gw (bs.take (i+1))=gw (bs.take i) * dZ b:=by
     unfold gw
     rw [List.take_add_one,hb,List.foldl_append]
     rfl
    have hw:=w1 b hbm
    have hwl:=md (bs:=bs.take i) fun b hb=>w1 b (List.mem_of_mem_take hb)
    walk_at "rd"
    refine⟨_,cA.of (s3 _ _ (htc i t b ht hb)),rfl,?_⟩
    walk_at "rd"
    have e1:(Str.ofString "voice ").length=6:=by decide +kernel
    have e2:(Str.ofString " ").length=1:=by decide +kernel
    have:=cC n1
    have:=cC n2
    refine⟨kT hwl hw (by rw [List.length_take];omega),.inl ⟨rfl,_,aO.of hz3⟩,bW n1,by omega,by rw [aA];omega,bW n2,by rw [aA,aA];omega,?_⟩
    refine⟨z,_,_,rfl,rfl,hz3,by simp;omega,?_⟩
    rw [hPv]
    refine⟨_,_,?_,wZ hz0 s3,by rw [ew];rfl⟩
    rw [ae,List.take_add_one,hb,List.map_append,List.map_append]
    rfl
  ·intro σ H3 hI
   rw [hPv]at hI
   obtain⟨o4,o7,hz3,s3,rfl⟩:=hI
   rw [List.length_map,htl,List.take_length]at hz3
   rw [List.length_map,htl,List.take_length]
   exact hu _ _ ⟨o4,o7,hz3,s3,rfl⟩
 clear hz2 s2
 clear H2
 rintro _ H2 ⟨o4,o7,hz2,s2,rfl⟩
 refine aV (fun σ H'=>H2=H'∧σ=[some (.ref a),some (.ref q),some (.ref r),some (.int e),o4,some (.int (gw bs)),some (.ref z),o7,some (.int (gw bs)),none,none,none,none,none,none,none]) ?_ ?_
 rotate_left
 ·intro u' hu
  walk_at "rd"
  exact hu _ _ ⟨rfl,rfl⟩
 rintro _ _ ⟨rfl,rfl⟩
 refine aV (fun σ H'=>∃o9 o10:Option V,H' z=some (.lst ((cg bs Rs).map V.str))∧ar H1 H'∧σ=[some (.ref a),some (.ref q),some (.ref r),some (.int e),o4,some (.int (gw bs)),some (.ref z),o7,some (.int (cb bs Rs)),o9,o10,none,none,none,none,none]) ?_ ?_
 rotate_left
 ·intro u' hu
  walk_at "rd"
  obtain⟨Pv,hPv⟩:∃Pv:Nat→L2.St→Hp→Prop,Pv=fun i σ H'=>∃o9 o10:Option V,H' z=some (.lst ((bs.map jQ++(Rs.take i).map Prod.fst).map V.str))∧ar H1 H'∧σ=[some (.ref a),some (.ref q),some (.ref r),some (.int e),o4,some (.int (gw bs)),some (.ref z),o7,some (.int (cb bs (Rs.take i))),o9,o10,none,none,none,none,none]:=⟨_,rfl⟩
  refine bK (aO.of (s2 _ _ hr1)) (cJ (xs:=ps.map V.ref) Pv (by rw [hPv];exact⟨none,none,by rw [hz2];simp,s2,rfl⟩) (fun i σ H' _ h=>?_) ?_ ?_)
  ·rw [hPv]at h
   obtain⟨_,_,_,s',_⟩:=h
   exact aO.of (s' _ _ hr1)
  ·intro i y σ H3 hy hI
   rw [hPv]at hI
   obtain⟨o9,o10,hz3,s3,rfl⟩:=hI
   rw [List.getElem?_map]at hy
   cases ht:ps[i]? with
   | none=>rw [ht]at hy;cases hy
   | some t=>
    rw [ht]at hy
    cases hy
    obtain⟨R,hR⟩:∃R,Rs[i]?=some R:=⟨_,List.getElem?_eq_getElem (by rw [←hpl];exact(List.getElem?_eq_some_iff.mp ht).1)⟩
    have hRm:=List.mem_of_getElem? hR
    have ew:cb bs (Rs.take (i+1))=cb bs (Rs.take i) * R.2:=by
     unfold cb
     rw [List.take_add_one,hR,List.foldl_append]
     rfl
    have hw:=w2 R hRm
    have hwl:(cb bs (Rs.take i)).natAbs < _:=iI (fun R:Str×Int=>R.2) (Rs.take i) (gw bs) _ (md w1) fun R hR=>w2 R (List.mem_of_mem_take hR)
    walk_at "rd"
    refine⟨_,cA.of (s3 _ _ (hpc i t R ht hR)),rfl,?_⟩
    walk_at "rd"
    refine⟨kT hwl hw (by rw [List.length_take];omega),.inl ⟨rfl,_,aO.of hz3⟩,z,_,_,rfl,rfl,hz3,by simp;omega,?_⟩
    rw [hPv]
    refine⟨_,_,?_,wZ hz0 s3,by rw [ew]⟩
    rw [ae,List.take_add_one,hR,List.map_append,List.map_append,List.map_append,List.map_append]
    simp
  ·intro σ H3 hI
   rw [hPv]at hI
   obtain⟨o9,o10,hz3,s3,rfl⟩:=hI
   rw [List.length_map,hpl,List.take_length]at hz3
   rw [List.length_map,hpl,List.take_length]
   exact hu _ _ ⟨o9,o10,hz3,s3,rfl⟩
 clear hz2 s2
 clear H2
 rintro _ H2 ⟨o9,o10,hz2,s2,rfl⟩
 refine aV (fun σ H'=>H2=H'∧σ=[some (.ref a),some (.ref q),some (.ref r),some (.int e),o4,some (.int (gw bs)),some (.ref z),o7,some (.int (cb bs Rs)),o9,o10,some (.str (bM bs Rs)),none,none,none,none]) ?_ ?_
 rotate_left
 ·intro u' hu
  walk_at "rd"
  obtain⟨g1,g2⟩:=ni sc
  have h1:=StrLaws.sumLen_le (B:=20000) (cg bs Rs) g1
  have e1:(Str.ofString "\n").length=1:=by decide +kernel
  have:=Nat.mul_le_mul_right 20000 g2
  exact⟨cg bs Rs,aO.of hz2,by rw [e1];omega,hu _ _ ⟨rfl,rfl⟩⟩
 rintro _ _ ⟨rfl,rfl⟩
 refine aV (fun σ H'=>H2=H'∧σ=[some (.ref a),some (.ref q),some (.ref r),some (.int e),o4,some (.int (gw bs)),some (.ref z),o7,some (.int (cb bs Rs)),o9,o10,some (.str (bM bs Rs)),some .non,none,none,none]) ?_ ?_
 rotate_left
 ·intro u' hu
  walk_at "rd"
  exact hu _ _ ⟨rfl,rfl⟩
 rintro _ _ ⟨rfl,rfl⟩
 refine aV (fun σ H'=>H2=H'∧σ=[some (.ref a),some (.ref q),some (.ref r),some (.int e),o4,some (.int (gw bs)),some (.ref z),o7,some (.int (cb bs Rs)),o9,o10,some (.str (bM bs Rs)),some .non,some .non,none,none]) ?_ ?_
 rotate_left
 ·intro u' hu
  walk_at "rd"
  exact hu _ _ ⟨rfl,rfl⟩
 rintro _ _ ⟨rfl,rfl⟩
 refine aV (fun σ H'=>ar H2 H'∧((cb bs Rs≤400∧∃x,bU P w K mg base C bs Rs x H'∧σ=[some (.ref a),some (.ref q),some (.ref r),some (.int e),o4,some (.int (gw bs)),some (.ref z),o7,some (.int (cb bs Rs)),o9,o10,some (.str (bM bs Rs)),some (.ref x),some .non,none,none])∨
  (400 < cb bs Rs∧∃x xd,nN C' (cb bs Rs) H' x xd∧σ=[some (.ref a),some (.ref q),some (.ref r),some (.int e),o4,some (.int (gw bs)),some (.ref z),o7,some (.int (cb bs Rs)),o9,o10,some (.str (bM bs Rs)),some .non,some (.ref x),none,none]))) ?_ ?_
 rotate_left
 ·intro u' hu
  simp only [iw,yf]
  walk_at "rd"
  refine⟨bM bs Rs,bs,jQ,Rs,rfl,uP sc,pH sc l1,l1,lb,lr,fun b hb=>⟨kh (sc.ok b hb).big.2.1 (sc.ok b hb).big.2.2.1,(sc.ok b hb).1,w1 b hb⟩,fun R hR=>⟨(sc.rw R hR).1,w2 R hR⟩,fun h x H3 SA s3=>?_,fun h x xd H3 hw s3=>?_⟩
  ·exact hu _ _ ⟨s3,.inl ⟨h,x,SA,rfl⟩⟩
  ·exact⟨x,rfl,xd,hw.1,hu _ _ ⟨s3,.inr ⟨h,x,xd,hw,rfl⟩⟩⟩
 have RA:∀H',ar H2 H'→bY K H' q bs:=fun H' s'=>⟨ts,aO.of ((s2.trans s') _ _ hq),htl,fun i t b e1 e2=>cA.of ((s2.trans s') _ _ (htc i t b e1 e2))⟩
 rintro _ H3 ⟨s3,⟨hwt,x,SA,rfl⟩ | ⟨hwt,x,xd,⟨hx1,hx2⟩,rfl⟩⟩
 ·walk_at "rd"
  rw [if_neg (by omega)]
  have hcw:=qG sc
  have ec:gw bs=(e8 bs:Int):=ma fun b hb=>(sc.ok b hb).1
  have hc4:e8 bs≤400:=by omega
  refine⟨x,C,bs,Rs,rfl,TC,SA,lb,lr,fun b hb=>⟨(sc.ok b hb).big.2.1,(sc.ok b hb).big.2.2.1⟩,fun R hR=>(sc.rw R hR).1.words.1,fun H4 s4=>rNeC_ss.mpr ⟨_,rfl,?_⟩⟩
  rw [decide_eq_true rfl,if_neg (by decide)]
  refine⟨x,q,bs,Rs,rfl,SA.same s4,RA _ (s3.trans s4),sc,fun x' H5 SA' s5=>?_⟩
  show if V.ref x'=V.non then _ else _
  rw [if_neg (show ¬(V.ref x'=V.non)from fun e=>by cases e),ec]
  refine⟨x',q,C,bs,Rs,rfl,TC,SA',RA _ ((s3.trans s4).trans s5),sc,hc4,fun H6 s6=>⟨_,rfl,?_⟩⟩
  rw [if_pos rfl]
  exact⟨x,q,C,bs,Rs,rfl,TC,SA.same ((s4.trans s5).trans s6),RA _ (((s3.trans s4).trans s5).trans s6),sc,hc4,fun H7 _=>k _⟩
 ·walk_at "rd"
  rw [if_pos hwt]
  have fld:∀{Q':VK},Q' (.int (cb bs Rs)) H3→uM C' (zi 13) (Str.ofString "weight") [some (.ref a),some (.ref q),some (.ref r),some (.int e),o4,some (.int (gw bs)),some (.ref z),o7,some (.int (cb bs Rs)),o9,o10,some (.str (bM bs Rs)),some .non,some (.ref x),none,none] H3 Q':=fun {Q'} q'=>⟨x,xd,_,_,rfl,hx1,hx2,by simp [List.lookup],q'⟩
  refine⟨x,xd,_,_,_,rfl,hx1,rfl,fun u' h=>h,T.kS,true,TruV_b.mpr rfl,?_⟩
  rw [if_neg (show ¬(true=false)from fun z=>by cases z)]
  refine⟨x,xd,_,_,_,rfl,hx1,rfl,fun u' h=>h,T.kV,true,TruV_b.mpr rfl,?_⟩
  rw [if_neg (show ¬(true=false)from fun z=>by cases z)]
  refine fld ⟨_,.int _,true,rfl,?_⟩
  rw [if_pos rfl]
  refine fld (rEqC_ii.mpr ?_)
  rw [decide_eq_true rfl]
  exact k _
end
theorem mh{us:List Value}(hl:us.length=1):∃x0,us=[x0]:=match us,hl with | [x0],_=>⟨x0,rfl⟩
theorem wq{us:List Value}(hl:us.length=2):∃x0 x1,us=[x0,x1]:=match us,hl with | [x0,x1],_=>⟨x0,x1,rfl⟩
theorem uW{us:List Value}(hl:us.length=3):∃x0 x1 x2,us=[x0,x1,x2]:=match us,hl with | [x0,x1,x2],_=>⟨x0,x1,x2,rfl⟩
theorem zF{us:List Value}(hl:us.length=4):∃x0 x1 x2 x3,us=[x0,x1,x2,x3]:=match us,hl with | [x0,x1,x2,x3],_=>⟨x0,x1,x2,x3,rfl⟩
theorem Af{us:List Value}(hl:us.length=5):∃x0 x1 x2 x3 x4,us=[x0,x1,x2,x3,x4]:=match us,hl with | [x0,x1,x2,x3,x4],_=>⟨x0,x1,x2,x3,x4,rfl⟩
theorem us6{us:List Value}(hl:us.length=6):∃x0 x1 x2 x3 x4 x5,us=[x0,x1,x2,x3,x4,x5]:=match us,hl with | [x0,x1,x2,x3,x4,x5],_=>⟨x0,x1,x2,x3,x4,x5,rfl⟩
theorem us7{us:List Value}(hl:us.length=7):∃x0 x1 x2 x3 x4 x5 x6,us=[x0,x1,x2,x3,x4,x5,x6]:=match us,hl with | [x0,x1,x2,x3,x4,x5,x6],_=>⟨x0,x1,x2,x3,x4,x5,x6,rfl⟩
theorem all_mk{l:PySem.W.OpenLaw}{w:World}{K:PySem.W.Frag}{h:Heap}{mg:Str→Option Value}{fa:Addr}{C_Span:Addr}{C_Move:Addr}{C_Back:Addr}{C_Held:Addr}{C_Times:Addr}{C_Every:Addr}{C_Score:Addr}{C_TooWide:Addr}{C_ScoreError:Addr}{f_span_of:Addr}{fd_span_of:FuncData}{f_move_of:Addr}{fd_move_of:FuncData}{f_back_of:Addr}{fd_back_of:FuncData}{f_held_of:Addr}{fd_held_of:FuncData}{f_times_of:Addr}{fd_times_of:FuncData}{a_MAKERS:Addr}{D_MAKERS:List (Str×V)}{a_INNER_KINDS:Addr}(X:K.In h)(G:h.Ns mainGlobals mg)(hfa:mg "law"=some (.ref fa))
  (n_Span:PySem.W.nsIn K mainGlobals "Span"=some (some (.ref C_Span)))
  (TC_Span:pN K C_Span)
  (n_Move:PySem.W.nsIn K mainGlobals "Move"=some (some (.ref C_Move)))
  (TC_Move:iz K C_Move)
  (n_Back:PySem.W.nsIn K mainGlobals "Back"=some (some (.ref C_Back)))
  (TC_Back:iy K C_Back)
  (n_Held:PySem.W.nsIn K mainGlobals "Held"=some (some (.ref C_Held)))
  (TC_Held:fQ K C_Held)
  (n_Times:PySem.W.nsIn K mainGlobals "Times"=some (some (.ref C_Times)))
  (TC_Times:eo K C_Times)
  (n_Every:PySem.W.nsIn K mainGlobals "Every"=some (some (.ref C_Every)))
  (TC_Every:eh K C_Every)
  (n_Score:PySem.W.nsIn K mainGlobals "Score"=some (some (.ref C_Score)))
  (TC_Score:cj K C_Score)
  (n_TooWide:PySem.W.nsIn K mainGlobals "TooWide"=some (some (.ref C_TooWide)))
  (n_ScoreError:PySem.W.nsIn K mainGlobals "ScoreError"=some (some (.ref C_ScoreError)))
  (A_TooWide___init__:∃f fd,nJ K C_TooWide f ["__setattr__","__getattribute__","__getattr__","__class__","weight"]∧cR K "__init__" "TooWide.__init__" cy f fd)
  (k_TooWide_ScoreError:PySem.W.kitOne K (.ref C_TooWide) (.ref C_ScoreError)=some true)
  (k_TooWide_ValueError:PySem.W.kitOne K (.ref C_TooWide) (.type "ValueError")=some true)
  (A_Rule___init__:∃C f fd,ix K "Rule" "__init__" "Rule.__init__" c2 C f fd)
  (A_Move_size:∃f fd,cG K C_Move "size" "Rule.size" eT f fd)
  (A_Back_size:∃f fd,cG K C_Back "size" "Back.size" eQ f fd)
  (A_Held_size:∃f fd,cG K C_Held "size" "Held.size" eS f fd)
  (A_Times_size:∃f fd,cG K C_Times "size" "Times.size" d3 f fd)
  (A_Every_size:∃f fd,cG K C_Every "size" "Every.size" d2 f fd)
  (A_Move_shown:∃f fd,cG K C_Move "shown" "Rule.shown" bL f fd)
  (A_Back_shown:∃f fd,cG K C_Back "shown" "Rule.shown" bL f fd)
  (A_Held_shown:∃f fd,cG K C_Held "shown" "Rule.shown" bL f fd)
  (A_Times_shown:∃f fd,cG K C_Times "shown" "Rule.shown" bL f fd)
  (A_Every_shown:∃f fd,cG K C_Every "shown" "Rule.shown" bL f fd)
  (A_Span___init__:∃f fd,ju K "Span" "Span.__init__" c3 C_Span f fd)
  (A_Move___init__:∃f fd,ju K "Move" "Move.__init__" c1 C_Move f fd)
  (A_Back___init__:∃f fd,ju K "Back" "Back.__init__" cY C_Back f fd)
  (A_Held___init__:∃f fd,ju K "Held" "Held.__init__" cZ C_Held f fd)
  (A_Times___init__:∃f fd,ju K "Times" "Times.__init__" cQ C_Times f fd)
  (A_Every___init__:∃f fd,ju K "Every" "Every.__init__" cO C_Every f fd)
  (A_is_number:∃f fd,bp K "is_number" eU f fd)
  (A_has_list:∃f fd,bp K "has_list" fH f fd)
  (A_are_voices:∃f fd,bp K "are_voices" d4 f fd)
  (B_span_of:bp K "span_of" gY f_span_of fd_span_of)
  (B_move_of:bp K "move_of" gX f_move_of fd_move_of)
  (B_back_of:bp K "back_of" gR f_back_of fd_back_of)
  (B_held_of:bp K "held_of" gU f_held_of fd_held_of)
  (B_times_of:bp K "times_of" fL f_times_of fd_times_of)
  (A_plain_rule:∃f fd,bp K "plain_rule" d8 f fd)
  (A_every_rule:∃f fd,bp K "every_rule" d5 f fd)
  (A_read_rule:∃f fd u,sk K "read_rule" dA f fd u∧aG (.int 0) u)
  (A_Score___init__:∃f fd,ju K "Score" "Score.__init__" cP C_Score f fd)
  (A_lengthened:∃f fd,bp K "lengthened" d7 f fd)
  (A_columns:∃f fd,bp K "columns" gT f fd)
  (A_weight:∃f fd,bp K "weight" jf f fd)
  (A_not_too_wide:∃f fd,bp K "not_too_wide" dq f fd)
  (A_voice_range:∃f fd,bp K "voice_range" dM f fd)
  (A_read:∃f fd,bp K "read" oU f fd)
  (A_shown:∃f fd,bp K "shown" lK f fd)
  (A_law_stirred:∃f fd,bp K "_law_stirred" dJ f fd)
  (A_law_got:∃f fd,bp K "_law_got" gW f fd)
  (A_law_cells:∃f fd,bp K "_law_cells" eV f fd)
  (A_law_ranges:∃f fd,bp K "_law_ranges" d6 f fd)
  (A_law_rule:∃f fd,bp K "_law_rule" fJ f fd)
  (A_law_columns:∃f fd,bp K "_law_columns" dI f fd)
  (A_law_same:∃f fd,bp K "_law_same" fK f fd)
  (A_law_made_anew:∃f fd,bp K "_law_made_anew" c4 f fd)
  (n_MAKERS:PySem.W.nsIn K mainGlobals "MAKERS"=some (some (.ref a_MAKERS)))
  (t_MAKERS:gB K a_MAKERS D_MAKERS)
  (d_MAKERS_span:KTD.datumAt ("span":Str) D_MAKERS=some (.ref f_span_of))
  (d_MAKERS_move:KTD.datumAt ("move":Str) D_MAKERS=some (.ref f_move_of))
  (d_MAKERS_back:KTD.datumAt ("back":Str) D_MAKERS=some (.ref f_back_of))
  (d_MAKERS_held:KTD.datumAt ("held":Str) D_MAKERS=some (.ref f_held_of))
  (d_MAKERS_times:KTD.datumAt ("times":Str) D_MAKERS=some (.ref f_times_of))
  (n_INNER_KINDS:PySem.W.nsIn K mainGlobals "INNER_KINDS"=some (some (.ref a_INNER_KINDS)))
  (q_INNER_KINDS:su K a_INNER_KINDS [.str "span",.str "clock"])
  (z_len:PySem.W.nsIn K mainGlobals "len"=some none)
  (z_range:PySem.W.nsIn K mainGlobals "range"=some none)
  (z_all:PySem.W.nsIn K mainGlobals "all"=some none)
  (z_min:PySem.W.nsIn K mainGlobals "min"=some none)
  (z_max:PySem.W.nsIn K mainGlobals "max"=some none)
  (z_abs:PySem.W.nsIn K mainGlobals "abs"=some none)
  (z_tuple:PySem.W.nsIn K mainGlobals "tuple"=some none)
  (z_list:PySem.W.nsIn K mainGlobals "list"=some none)
  (z_isinstance:PySem.W.nsIn K mainGlobals "isinstance"=some none)
  (z_bool:PySem.W.nsIn K mainGlobals "bool"=some none)
  (z_int:PySem.W.nsIn K mainGlobals "int"=some none)
  (z_str:PySem.W.nsIn K mainGlobals "str"=some none)
  (z_divmod:PySem.W.nsIn K mainGlobals "divmod"=some none)
  (z_enumerate:PySem.W.nsIn K mainGlobals "enumerate"=some none)
  (z_ValueError:PySem.W.nsIn K mainGlobals "ValueError"=some none)
  (g_FIGURES:∃u,PySem.W.nsIn K mainGlobals "FIGURES"=some (some u)∧aG (.str "0123456789") u)
  (g_MOST_FIGURES:∃u,PySem.W.nsIn K mainGlobals "MOST_FIGURES"=some (some u)∧aG (.int 40) u)
  (g_MOST_VOICES:∃u,PySem.W.nsIn K mainGlobals "MOST_VOICES"=some (some u)∧aG (.int 4) u)
  (g_MOST_RULES:∃u,PySem.W.nsIn K mainGlobals "MOST_RULES"=some (some u)∧aG (.int 12) u)
  (g_MOST_WEIGHT:∃u,PySem.W.nsIn K mainGlobals "MOST_WEIGHT"=some (some u)∧aG (.int 400) u)
  (g_MOST_NUMBERS:∃u,PySem.W.nsIn K mainGlobals "MOST_NUMBERS"=some (some u)∧aG (.int 12) u)
  (A_law:∃f fd,bp K "law" ki f fd)
  :∃fd:FuncData,(∀(s:Shared) (v:Value),BindsTo s fd ⟨[v],[]⟩ [("_law_script",v)])∧∀base:Heap,K.In base→base.Ns mainGlobals mg→aE l.prog w K mg base b8 12 fa fd ["_law_script"] (qj K):=by
 obtain⟨f_law,fd_law,B_law⟩:=A_law
 obtain⟨f_TooWide___init__,fd_TooWide___init__,X_TooWide___init__,F_TooWide___init__⟩:=A_TooWide___init__
 obtain⟨CC_Rule___init__,f_Rule___init__,fd_Rule___init__,B_Rule___init__⟩:=A_Rule___init__
 have F_Rule___init__:=B_Rule___init__.fn
 obtain⟨f_Move_size,fd_Move_size,B_Move_size⟩:=A_Move_size
 have F_Move_size:=B_Move_size.fn
 obtain⟨f_Back_size,fd_Back_size,B_Back_size⟩:=A_Back_size
 have F_Back_size:=B_Back_size.fn
 obtain⟨f_Held_size,fd_Held_size,B_Held_size⟩:=A_Held_size
 have F_Held_size:=B_Held_size.fn
 obtain⟨f_Times_size,fd_Times_size,B_Times_size⟩:=A_Times_size
 have F_Times_size:=B_Times_size.fn
 obtain⟨f_Every_size,fd_Every_size,B_Every_size⟩:=A_Every_size
 have F_Every_size:=B_Every_size.fn
 obtain⟨f_Move_shown,fd_Move_shown,B_Move_shown⟩:=A_Move_shown
 have F_Move_shown:=B_Move_shown.fn
 obtain⟨f_Back_shown,fd_Back_shown,B_Back_shown⟩:=A_Back_shown
 have F_Back_shown:=B_Back_shown.fn
 obtain⟨f_Held_shown,fd_Held_shown,B_Held_shown⟩:=A_Held_shown
 have F_Held_shown:=B_Held_shown.fn
 obtain⟨f_Times_shown,fd_Times_shown,B_Times_shown⟩:=A_Times_shown
 have F_Times_shown:=B_Times_shown.fn
 obtain⟨f_Every_shown,fd_Every_shown,B_Every_shown⟩:=A_Every_shown
 have F_Every_shown:=B_Every_shown.fn
 obtain⟨f_Span___init__,fd_Span___init__,B_Span___init__⟩:=A_Span___init__
 have F_Span___init__:=B_Span___init__.fn
 obtain⟨f_Move___init__,fd_Move___init__,B_Move___init__⟩:=A_Move___init__
 have F_Move___init__:=B_Move___init__.fn
 obtain⟨f_Back___init__,fd_Back___init__,B_Back___init__⟩:=A_Back___init__
 have F_Back___init__:=B_Back___init__.fn
 obtain⟨f_Held___init__,fd_Held___init__,B_Held___init__⟩:=A_Held___init__
 have F_Held___init__:=B_Held___init__.fn
 obtain⟨f_Times___init__,fd_Times___init__,B_Times___init__⟩:=A_Times___init__
 have F_Times___init__:=B_Times___init__.fn
 obtain⟨f_Every___init__,fd_Every___init__,B_Every___init__⟩:=A_Every___init__
 have F_Every___init__:=B_Every___init__.fn
 obtain⟨f_is_number,fd_is_number,B_is_number⟩:=A_is_number
 have F_is_number:=B_is_number.fn
 obtain⟨f_has_list,fd_has_list,B_has_list⟩:=A_has_list
 have F_has_list:=B_has_list.fn
 obtain⟨f_are_voices,fd_are_voices,B_are_voices⟩:=A_are_voices
 have F_are_voices:=B_are_voices.fn
 have F_span_of:=B_span_of.fn
 have F_move_of:=B_move_of.fn
 have F_back_of:=B_back_of.fn
 have F_held_of:=B_held_of.fn
 have F_times_of:=B_times_of.fn
 obtain⟨f_plain_rule,fd_plain_rule,B_plain_rule⟩:=A_plain_rule
 have F_plain_rule:=B_plain_rule.fn
 obtain⟨f_every_rule,fd_every_rule,B_every_rule⟩:=A_every_rule
 have F_every_rule:=B_every_rule.fn
 obtain⟨f_read_rule,fd_read_rule,u_read_rule,B_read_rule,r_read_rule⟩:=A_read_rule
 obtain⟨T_read_rule,o_read_rule,n_read_rule,F_read_rule,t_read_rule,d_read_rule⟩:=B_read_rule.fn
 obtain⟨f_Score___init__,fd_Score___init__,B_Score___init__⟩:=A_Score___init__
 have F_Score___init__:=B_Score___init__.fn
 obtain⟨f_lengthened,fd_lengthened,B_lengthened⟩:=A_lengthened
 have F_lengthened:=B_lengthened.fn
 obtain⟨f_columns,fd_columns,B_columns⟩:=A_columns
 have F_columns:=B_columns.fn
 obtain⟨f_weight,fd_weight,B_weight⟩:=A_weight
 have F_weight:=B_weight.fn
 obtain⟨f_not_too_wide,fd_not_too_wide,B_not_too_wide⟩:=A_not_too_wide
 have F_not_too_wide:=B_not_too_wide.fn
 obtain⟨f_voice_range,fd_voice_range,B_voice_range⟩:=A_voice_range
 have F_voice_range:=B_voice_range.fn
 obtain⟨f_read,fd_read,B_read⟩:=A_read
 have F_read:=B_read.fn
 obtain⟨f_shown,fd_shown,B_shown⟩:=A_shown
 have F_shown:=B_shown.fn
 obtain⟨f_law_stirred,fd_law_stirred,B_law_stirred⟩:=A_law_stirred
 have F_law_stirred:=B_law_stirred.fn
 obtain⟨f_law_got,fd_law_got,B_law_got⟩:=A_law_got
 have F_law_got:=B_law_got.fn
 obtain⟨f_law_cells,fd_law_cells,B_law_cells⟩:=A_law_cells
 have F_law_cells:=B_law_cells.fn
 obtain⟨f_law_ranges,fd_law_ranges,B_law_ranges⟩:=A_law_ranges
 have F_law_ranges:=B_law_ranges.fn
 obtain⟨f_law_rule,fd_law_rule,B_law_rule⟩:=A_law_rule
 have F_law_rule:=B_law_rule.fn
 obtain⟨f_law_columns,fd_law_columns,B_law_columns⟩:=A_law_columns
 have F_law_columns:=B_law_columns.fn
 obtain⟨f_law_same,fd_law_same,B_law_same⟩:=A_law_same
 have F_law_same:=B_law_same.fn
 obtain⟨f_law_made_anew,fd_law_made_anew,B_law_made_anew⟩:=A_law_made_anew
 have F_law_made_anew:=B_law_made_anew.fn
 obtain⟨u_FIGURES,g_FIGURES,r_FIGURES⟩:=g_FIGURES
 obtain⟨u_MOST_FIGURES,g_MOST_FIGURES,r_MOST_FIGURES⟩:=g_MOST_FIGURES
 obtain⟨u_MOST_VOICES,g_MOST_VOICES,r_MOST_VOICES⟩:=g_MOST_VOICES
 obtain⟨u_MOST_RULES,g_MOST_RULES,r_MOST_RULES⟩:=g_MOST_RULES
 obtain⟨u_MOST_WEIGHT,g_MOST_WEIGHT,r_MOST_WEIGHT⟩:=g_MOST_WEIGHT
 obtain⟨u_MOST_NUMBERS,g_MOST_NUMBERS,r_MOST_NUMBERS⟩:=g_MOST_NUMBERS
 have e:=hfa.symm.trans (PySem.W.mg_of X G B_law.ns)
 cases e
 have T:Txt mg a_MAKERS:={ n_len:=PySem.W.mg_none_of X G z_len,n_range:=PySem.W.mg_none_of X G z_range,n_all:=PySem.W.mg_none_of X G z_all,n_min:=PySem.W.mg_none_of X G z_min,n_max:=PySem.W.mg_none_of X G z_max,n_abs:=PySem.W.mg_none_of X G z_abs,n_tuple:=PySem.W.mg_none_of X G z_tuple,n_list:=PySem.W.mg_none_of X G z_list,n_isinstance:=PySem.W.mg_none_of X G z_isinstance,n_bool:=PySem.W.mg_none_of X G z_bool,n_int:=PySem.W.mg_none_of X G z_int,n_str:=PySem.W.mg_none_of X G z_str,n_divmod:=PySem.W.mg_none_of X G z_divmod,n_enumerate:=PySem.W.mg_none_of X G z_enumerate,n_ValueError:=PySem.W.mg_none_of X G z_ValueError,g_FIGURES:=⟨_,PySem.W.mg_of X G g_FIGURES,r_FIGURES⟩,g_MOST_FIGURES:=⟨_,PySem.W.mg_of X G g_MOST_FIGURES,r_MOST_FIGURES⟩,g_MOST_VOICES:=⟨_,PySem.W.mg_of X G g_MOST_VOICES,r_MOST_VOICES⟩,g_MOST_RULES:=⟨_,PySem.W.mg_of X G g_MOST_RULES,r_MOST_RULES⟩,g_MOST_WEIGHT:=⟨_,PySem.W.mg_of X G g_MOST_WEIGHT,r_MOST_WEIGHT⟩,g_MOST_NUMBERS:=⟨_,PySem.W.mg_of X G g_MOST_NUMBERS,r_MOST_NUMBERS⟩,g_MAKERS:=⟨_,PySem.W.mg_of X G n_MAKERS,rfl⟩ }
 have TE_INNER_KINDS:yr mg a_MAKERS a_INNER_KINDS:={ T with g_INNER_KINDS:=⟨_,PySem.W.mg_of X G n_INNER_KINDS,rfl⟩ }
 obtain⟨oc,od,kV,doc,pm,an,cdv,ct,osl,rfl,lk,hcd⟩:=B_law.fn.ex
 refine⟨PySem.W.fnOf "law" "law" (bV ki) (bq ki) (ak ki) .none kV doc pm an cdv ct,fun s v=>.of_eq rfl,fun base _ _=>?_⟩
 have DE_TooWide:jr l.prog w K mg base "TooWide" C_TooWide 1 ["self","weight"] (we C_TooWide "weight") ["__setattr__","__getattribute__","__getattr__","__class__","weight"]:=⟨f_TooWide___init__,fd_TooWide___init__,X_TooWide___init__,oy F_TooWide___init__ X_TooWide___init__,PySem.W.mg_of X G n_TooWide,F_TooWide___init__.binds (fun _ _ _ _ _ _ us hl=>by obtain⟨_,_,rfl⟩:=wq hl;rfl)⟩
 have TX:yt mg a_MAKERS K C_TooWide C_ScoreError:={ T with c_ScoreError:=⟨_,PySem.W.mg_of X G n_ScoreError,rfl⟩,kS:=k_TooWide_ScoreError,kV:=k_TooWide_ValueError }
 have DC_Rule___init__:kz l.prog w K mg base "Rule" "__init__" 1 ["self","row"] (b7 K):=B_Rule___init__.df X G (ll F_Rule___init__) (F_Rule___init__.binds (fun _ _ _ _ _ _ us hl=>by obtain⟨_,_,rfl⟩:=wq hl;rfl))
 have M_Move_size:aH l.prog w K mg base C_Move "size" 1 ["self"] (ji 1 fun _=>.int 1):=B_Move_size.ok TC_Move.cl (lp F_Move_size) (F_Move_size.binds (fun _ _ _ _ _ _ us hl=>by obtain⟨_,rfl⟩:=mh hl;rfl))
 have M_Back_size:aH l.prog w K mg base C_Back "size" 1 ["self"] (ji 1 fun _=>.int 3):=B_Back_size.ok TC_Back.cl (la F_Back_size) (F_Back_size.binds (fun _ _ _ _ _ _ us hl=>by obtain⟨_,rfl⟩:=mh hl;rfl))
 have M_Held_size:∀(row:Str) (a c:Int),aH l.prog w K mg base C_Held "size" 1 ["self"] (eX (d0 C_Held row a c) (.int c)):=fun row a c=>B_Held_size.ok TC_Held.cl (lh F_Held_size TC_Held) (F_Held_size.binds (fun _ _ _ _ _ _ us hl=>by obtain⟨_,rfl⟩:=mh hl;rfl))
 have M_Times_size:∀(row:Str) (a c d e:Int),aH l.prog w K mg base C_Times "size" 1 ["self"] (eX (c6 C_Times row a c d e) (.int (e+1))):=fun row a c d e=>B_Times_size.ok TC_Times.cl (jB F_Times_size TC_Times) (F_Times_size.binds (fun _ _ _ _ _ _ us hl=>by obtain⟨_,rfl⟩:=mh hl;rfl))
 have M_Every_size:∀(row:Str) (t u:Int) (RIn:kC),aH l.prog w K mg base C_Every "size" 1 ["self"] (eX (dv C_Every row t u RIn) (.int t)):=fun row t u RIn=>B_Every_size.ok TC_Every.cl (jy F_Every_size TC_Every) (F_Every_size.binds (fun _ _ _ _ _ _ us hl=>by obtain⟨_,rfl⟩:=mh hl;rfl))
 have M_Move_shown:aH l.prog w K mg base C_Move "shown" 1 ["self"] (bx K):=B_Move_shown.ok TC_Move.cl (ck F_Move_shown) (F_Move_shown.binds (fun _ _ _ _ _ _ us hl=>by obtain⟨_,rfl⟩:=mh hl;rfl))
 have M_Back_shown:aH l.prog w K mg base C_Back "shown" 1 ["self"] (bx K):=B_Back_shown.ok TC_Back.cl (ck F_Back_shown) (F_Back_shown.binds (fun _ _ _ _ _ _ us hl=>by obtain⟨_,rfl⟩:=mh hl;rfl))
 have M_Held_shown:aH l.prog w K mg base C_Held "shown" 1 ["self"] (bx K):=B_Held_shown.ok TC_Held.cl (ck F_Held_shown) (F_Held_shown.binds (fun _ _ _ _ _ _ us hl=>by obtain⟨_,rfl⟩:=mh hl;rfl))
 have M_Times_shown:aH l.prog w K mg base C_Times "shown" 1 ["self"] (bx K):=B_Times_shown.ok TC_Times.cl (ck F_Times_shown) (F_Times_shown.binds (fun _ _ _ _ _ _ us hl=>by obtain⟨_,rfl⟩:=mh hl;rfl))
 have M_Every_shown:aH l.prog w K mg base C_Every "shown" 1 ["self"] (bx K):=B_Every_shown.ok TC_Every.cl (ck F_Every_shown) (F_Every_shown.binds (fun _ _ _ _ _ _ us hl=>by obtain⟨_,rfl⟩:=mh hl;rfl))
 have DM_Span:dP l.prog w K mg base "Span" C_Span 2 ["self","row","first","second","numbers"] (fP K C_Span):=B_Span___init__.df X G (lq F_Span___init__ T TC_Span DC_Rule___init__) (F_Span___init__.binds (fun _ _ _ _ _ _ us hl=>by obtain⟨_,_,_,_,_,rfl⟩:=Af hl;rfl))
 have DM_Move:dP l.prog w K mg base "Move" C_Move 2 ["self","row","voice","numbers"] (fO K C_Move):=B_Move___init__.df X G (lj F_Move___init__ T TC_Move DC_Rule___init__) (F_Move___init__.binds (fun _ _ _ _ _ _ us hl=>by obtain⟨_,_,_,_,rfl⟩:=zF hl;rfl))
 have DM_Back:dP l.prog w K mg base "Back" C_Back 2 ["self","row","voice","widest"] (fM K C_Back):=B_Back___init__.df X G (kZ F_Back___init__ T TC_Back DC_Rule___init__) (F_Back___init__.binds (fun _ _ _ _ _ _ us hl=>by obtain⟨_,_,_,_,rfl⟩:=zF hl;rfl))
 have DM_Held:dP l.prog w K mg base "Held" C_Held 2 ["self","row","voice","most"] (fN K C_Held):=B_Held___init__.df X G (lg F_Held___init__ T TC_Held DC_Rule___init__) (F_Held___init__.binds (fun _ _ _ _ _ _ us hl=>by obtain⟨_,_,_,_,rfl⟩:=zF hl;rfl))
 have DM_Times:dP l.prog w K mg base "Times" C_Times 2 ["self","row","voice","note","fewest","most"] (eZ K C_Times):=B_Times___init__.df X G (jA F_Times___init__ T TC_Times DC_Rule___init__) (F_Times___init__.binds (fun _ _ _ _ _ _ us hl=>by obtain⟨_,_,_,_,_,_,rfl⟩:=us6 hl;rfl))
 have DM_Every:dP l.prog w K mg base "Every" C_Every 2 ["self","row","turns","turn","inner"] (eW K C_Every):=B_Every___init__.df X G (jx F_Every___init__ T TC_Every DC_Rule___init__) (F_Every___init__.binds (fun _ _ _ _ _ _ us hl=>by obtain⟨_,_,_,_,_,rfl⟩:=Af hl;rfl))
 have D_is_number:cE l.prog w K mg base "is_number" 1 ["word"] kj:=B_is_number.df X G (rE F_is_number T) (F_is_number.binds (fun _ _ _ _ _ _ us hl=>by obtain⟨_,rfl⟩:=mh hl;rfl))
 have D_has_list:cE l.prog w K mg base "has_list" 1 ["numbers","ahead"] (fi K):=B_has_list.df X G (mV F_has_list T) (F_has_list.binds (fun _ _ _ _ _ _ us hl=>by obtain⟨_,_,rfl⟩:=wq hl;rfl))
 have D_are_voices:cE l.prog w K mg base "are_voices" 1 ["numbers","voices"] (b6 K):=B_are_voices.df X G (jC F_are_voices T) (F_are_voices.binds (fun _ _ _ _ _ _ us hl=>by obtain⟨_,_,rfl⟩:=wq hl;rfl))
 have O_span_of:aE l.prog w K mg base b8 4 f_span_of fd_span_of ["row","numbers","voices"] (gq K C_Span):=oE F_span_of T (D_has_list.up (by decide)) (D_are_voices.up (by decide)) DM_Span
 have FA_span_of:er l.prog w K mg base 4 f_span_of ["row","numbers","voices"] (gq K C_Span):=⟨fd_span_of,O_span_of,F_span_of.kp,F_span_of.binds (fun _ _ _ _ _ _ us hl=>by obtain⟨_,_,_,rfl⟩:=uW hl;rfl)⟩
 have O_move_of:aE l.prog w K mg base b8 4 f_move_of fd_move_of ["row","numbers","voices"] (gm K C_Move):=oC F_move_of T (D_has_list.up (by decide)) (D_are_voices.up (by decide)) DM_Move
 have FA_move_of:er l.prog w K mg base 4 f_move_of ["row","numbers","voices"] (gm K C_Move):=⟨fd_move_of,O_move_of,F_move_of.kp,F_move_of.binds (fun _ _ _ _ _ _ us hl=>by obtain⟨_,_,_,rfl⟩:=uW hl;rfl)⟩
 have O_back_of:aE l.prog w K mg base b8 4 f_back_of fd_back_of ["row","numbers","voices"] (gj K C_Back):=oz F_back_of T (D_are_voices.up (by decide)) DM_Back
 have FA_back_of:er l.prog w K mg base 4 f_back_of ["row","numbers","voices"] (gj K C_Back):=⟨fd_back_of,O_back_of,F_back_of.kp,F_back_of.binds (fun _ _ _ _ _ _ us hl=>by obtain⟨_,_,_,rfl⟩:=uW hl;rfl)⟩
 have O_held_of:aE l.prog w K mg base b8 4 f_held_of fd_held_of ["row","numbers","voices"] (gk K C_Held):=oB F_held_of T (D_are_voices.up (by decide)) DM_Held
 have FA_held_of:er l.prog w K mg base 4 f_held_of ["row","numbers","voices"] (gk K C_Held):=⟨fd_held_of,O_held_of,F_held_of.kp,F_held_of.binds (fun _ _ _ _ _ _ us hl=>by obtain⟨_,_,_,rfl⟩:=uW hl;rfl)⟩
 have O_times_of:aE l.prog w K mg base b8 4 f_times_of fd_times_of ["row","numbers","voices"] (fj K C_Times):=mW F_times_of T (D_are_voices.up (by decide)) DM_Times
 have FA_times_of:er l.prog w K mg base 4 f_times_of ["row","numbers","voices"] (fj K C_Times):=⟨fd_times_of,O_times_of,F_times_of.kp,F_times_of.binds (fun _ _ _ _ _ _ us hl=>by obtain⟨_,_,_,rfl⟩:=uW hl;rfl)⟩
 have D_plain_rule:cE l.prog w K mg base "plain_rule" 8 ["row","voices"] (gn l.prog w K mg base a_MAKERS 7):=B_plain_rule.df X G (jF F_plain_rule T (D_is_number.up (by decide))) (F_plain_rule.binds (fun _ _ _ _ _ _ us hl=>by obtain⟨_,_,rfl⟩:=wq hl;rfl))
 have D_every_rule:cE l.prog w K mg base "every_rule" 9 ["row","voices"] (iK l.prog w K mg base a_MAKERS C_Every 7):=B_every_rule.df X G (jD F_every_rule TE_INNER_KINDS q_INNER_KINDS (D_is_number.up (by decide)) D_plain_rule (DM_Every.up (by decide))) (F_every_rule.binds (fun _ _ _ _ _ _ us hl=>by obtain⟨_,_,rfl⟩:=wq hl;rfl))
 have O_read_rule:aE l.prog w K mg base b8 10 f_read_rule fd_read_rule ["text","voices","row"] (eY l.prog w K mg base):=rG (jH F_read_rule T (D_plain_rule.up (by decide))) (jG F_read_rule T (D_plain_rule.up (by decide)) D_every_rule) t_MAKERS d_MAKERS_span (FA_span_of.up (by decide)) d_MAKERS_move (FA_move_of.up (by decide)) (fun row a D=>tT TC_Move (M_Move_size.up (by decide)) (M_Move_shown.up (by decide))) d_MAKERS_back (FA_back_of.up (by decide)) (fun row a c=>tQ TC_Back (M_Back_size.up (by decide)) (M_Back_shown.up (by decide))) d_MAKERS_held (FA_held_of.up (by decide)) (fun row a c=>tR TC_Held ((M_Held_size row a c).up (by decide)) (M_Held_shown.up (by decide))) d_MAKERS_times (FA_times_of.up (by decide)) (fun row a c d e=>rC TC_Times ((M_Times_size row a c d e).up (by decide)) (M_Times_shown.up (by decide))) (fun row t u RIn mono=>rB TC_Every mono ((M_Every_size row t u RIn).up (by decide)) (M_Every_shown.up (by decide)))
 have D_read_rule:cE l.prog w K mg base "read_rule" 10 ["text","voices","row"] (eY l.prog w K mg base):=⟨f_read_rule,fd_read_rule,O_read_rule,PySem.W.mg_of X G B_read_rule.ns,F_read_rule.kp,F_read_rule.binds t_read_rule d_read_rule fun _ _ _ _ _ _ us hl=>match us,hl with | [_,_,_],_=>⟨_,rfl,rfl⟩⟩
 have DD_read_rule:zH l.prog w K mg base "read_rule" 10 ["text","voices","row"] (eY l.prog w K mg base) [(.int 0)]:=⟨f_read_rule,fd_read_rule,[u_read_rule],O_read_rule,PySem.W.mg_of X G B_read_rule.ns,F_read_rule.kp,F_read_rule.bindsD t_read_rule d_read_rule fun _ _ _ _ _ _ us hl=>match us,hl with | [_,_],_=>⟨_,rfl,rfl⟩,.cons r_read_rule .nil⟩
 have DM_Score:dP l.prog w K mg base "Score" C_Score 1 ["self","ranges","rules"] (dB K C_Score):=B_Score___init__.df X G (jz F_Score___init__ T TC_Score) (F_Score___init__.binds (fun _ _ _ _ _ _ us hl=>by obtain⟨_,_,_,rfl⟩:=uW hl;rfl))
 have D_lengthened:cE l.prog w K mg base "lengthened" 1 ["column","low","high"] (uC K):=B_lengthened.df X G (jE F_lengthened T) (F_lengthened.binds (fun _ _ _ _ _ _ us hl=>by obtain⟨_,_,_,rfl⟩:=uW hl;rfl))
 have D_columns:cE l.prog w K mg base "columns" 2 ["score"] (hJ l.prog w K mg base):=B_columns.df X G (oA F_columns T D_lengthened) (F_columns.binds (fun _ _ _ _ _ _ us hl=>by obtain⟨_,rfl⟩:=mh hl;rfl))
 have D_weight:cE l.prog w K mg base "weight" 8 ["score"] (gr l.prog w K mg base):=B_weight.df X G (rH F_weight T) (F_weight.binds (fun _ _ _ _ _ _ us hl=>by obtain⟨_,rfl⟩:=mh hl;rfl))
 have DX_not_too_wide:kA l.prog w K mg base "not_too_wide" 9 ["score"] (hU l.prog w K mg base C_TooWide):=⟨f_not_too_wide,fd_not_too_wide,iu F_not_too_wide T D_weight (DE_TooWide.up (by decide)),PySem.W.mg_of X G B_not_too_wide.ns,F_not_too_wide.kp,F_not_too_wide.binds (fun _ _ _ _ _ _ us hl=>by obtain⟨_,rfl⟩:=mh hl;rfl)⟩
 have D_voice_range:cE l.prog w K mg base "voice_range" 2 ["row"] (lW K):=B_voice_range.df X G (i8 F_voice_range T D_is_number) (F_voice_range.binds (fun _ _ _ _ _ _ us hl=>by obtain⟨_,rfl⟩:=mh hl;rfl))
 have DX_read:kA l.prog w K mg base "read" 11 ["text"] (lV l.prog w K mg base C_Score C_TooWide):=⟨f_read,fd_read,vF F_read T TC_Score (D_voice_range.up (by decide)) D_read_rule (DM_Score.up (by decide)) (DX_not_too_wide.up (by decide)),PySem.W.mg_of X G B_read.ns,F_read.kp,F_read.binds (fun _ _ _ _ _ _ us hl=>by obtain⟨_,rfl⟩:=mh hl;rfl)⟩
 have D_shown:cE l.prog w K mg base "shown" 8 ["score"] (gp l.prog w K mg base):=B_shown.df X G (tY F_shown T) (F_shown.binds (fun _ _ _ _ _ _ us hl=>by obtain⟨_,rfl⟩:=mh hl;rfl))
 have D_law_stirred:cE l.prog w K mg base "_law_stirred" 1 ["_law_cell","_law_place"] hW:=B_law_stirred.df X G (oF F_law_stirred T) (F_law_stirred.binds (fun _ _ _ _ _ _ us hl=>by obtain⟨_,_,rfl⟩:=wq hl;rfl))
 have D_law_got:cE l.prog w K mg base "_law_got" 2 ["_law_script","_law_place"] (nu K):=B_law_got.df X G (xx F_law_got T D_law_stirred) (F_law_got.binds (fun _ _ _ _ _ _ us hl=>by obtain⟨_,_,rfl⟩:=wq hl;rfl))
 have D_law_cells:cE l.prog w K mg base "_law_cells" 3 ["_law_script","_law_first","_law_last"] (lT K):=B_law_cells.df X G (tW F_law_cells T D_law_got) (F_law_cells.binds (fun _ _ _ _ _ _ us hl=>by obtain⟨_,_,_,rfl⟩:=uW hl;rfl))
 have D_law_ranges:cE l.prog w K mg base "_law_ranges" 4 ["_law_script"] (jh K):=B_law_ranges.df X G (rF F_law_ranges T (D_law_got.up (by decide))) (F_law_ranges.binds (fun _ _ _ _ _ _ us hl=>by obtain⟨_,rfl⟩:=mh hl;rfl))
 have D_law_rule:cE l.prog w K mg base "_law_rule" 1 ["_law_cell","_law_voices"] (pf K):=B_law_rule.df X G (vG F_law_rule T) (F_law_rule.binds (fun _ _ _ _ _ _ us hl=>by obtain⟨_,_,rfl⟩:=wq hl;rfl))
 have D_law_columns:cE l.prog w K mg base "_law_columns" 1 ["_law_found","_law_ranges_here","_law_many"] (lU K):=B_law_columns.df X G (tX F_law_columns T) (F_law_columns.binds (fun _ _ _ _ _ _ us hl=>by obtain⟨_,_,_,rfl⟩:=uW hl;rfl))
 have D_law_same:cE l.prog w K mg base "_law_same" 9 ["_law_score","_law_ranges_here","_law_many","_law_heavy"] (ph l.prog w K mg base):=B_law_same.df X G (vH F_law_same T (D_columns.up (by decide)) D_weight (D_law_columns.up (by decide))) (F_law_same.binds (fun _ _ _ _ _ _ us hl=>by obtain⟨_,_,_,_,rfl⟩:=zF hl;rfl))
 have D_law_made_anew:cE l.prog w K mg base "_law_made_anew" 9 ["_law_score","_law_ranges_here","_law_text"] (pe l.prog w K mg base C_Score):=B_law_made_anew.df X G (vE F_law_made_anew T TC_Score (DM_Score.up (by decide)) D_shown) (F_law_made_anew.binds (fun _ _ _ _ _ _ us hl=>by obtain⟨_,_,_,rfl⟩:=uW hl;rfl))
 exact xy B_law.fn TX TC_Score (DE_TooWide.up (by decide)) (D_law_got.up (by decide)) (D_law_cells.up (by decide)) (D_law_ranges.up (by decide)) (D_law_rule.up (by decide)) (D_shown.up (by decide)) (D_law_made_anew.up (by decide)) (D_law_same.up (by decide)) DX_read
theorem walk{l:PySem.W.OpenLaw}{q:Program}{loose:List Str}{XP:(Str→Option Value)→Heap→Prop}{YP:World→Heap→Prop}{d:DefRec}{K:Params→PySem.W.Frag}(hn:l.most=some 63)(hdf:d.params.defaults=[])
  (hY:∀(w:World) (h:Heap),YP w h→(K w.params).In h)
  (F:∀(w:World) (mg:Str→Option Value) (fa:Addr) (h:Heap),(K w.params).In h→h.Ns mainGlobals mg→mg d.name=some (.ref fa)→
   ∃fd:FuncData,(∀(s:Shared) (u:Value),BindsTo s fd ⟨[u],[]⟩ [("_law_script",u)])∧∀base:Heap,(K w.params).In base→base.Ns mainGlobals mg→aE l.prog w (K w.params) mg base b8 12 fa fd ["_law_script"] (qj (K w.params))) :
  PySem.W.WalkO q loose XP YP l.row.toRowW d [] (fun f vs=>PySem.call f vs):=
 L2.walk_ofB (n:=63) (k:=12) (x:="_law_script") (CX:=fun _=>b8) (sp:=fun w=>qj (K w.params)) hn (by decide) hdf ⟨rfl,by decide,by decide⟩ hY F (fun _ _ a ns hl hb _ hS=>⟨a,ns,rfl,hS,hb,hl,fun _=>rfl⟩) fun _ _ _ _ _ z=>z
end K21
namespace PySem.W.Fast
def tw14378743592299274259:=0
def tw1753346215667396640:=0
def tw1769158347492250656:=0
def tw1893952658507616255:=0
def tw8063018745890461760:=0
def tw4988038981568912448:=0
def tw3857808051100372597:=0
def tw16347278193453768800:=0
def tw3567299577535870367:=0
def tw77789867346335936:=0
def tw8731693452100848832:=0
def tw920471285050164326:=0
def tw7049059644930222304:=0
def tw3646635280721181920:=0
def tw13265520481214037534:=0
def tw13855153879549087485:=0
def tw532778461094005894:=0
def tw18336049771261560160:=0
def tw8301395131923230080:=0
def tw2937962552956514720:=0
def tw3126294500980804855:=0
def tw16589119087724275803:=0
def tw13344966837284197824:=0
def tw6072615562211560522:=0
def tw8091853164166852096:=0
def tw4693047956601461335:=0
def tw2229227558227507712:=0
def tw5400395560752661874:=0
def tw9215749850712315456:=0
def tw13251606771880585437:=0
def tw6521717239210459737:=0
def tw1263762913792735541:=0
def tw3852692050895138674:=0
def tw687362288121581248:=0
def tw15853325266064587488:=0
def tw14999834242205727344:=0
def tw2793380136203440896:=0
def tw4347841970604221294:=0
def tw5532640932114003744:=0
def tw8309547831767950144:=0
def tw11963023033856275489:=0
def tw17191575496478100320:=0
def tw13372563473184963424:=0
def tw1108882253598691753:=0
def tw18428965228264938368:=0
def tw12514228770346799040:=0
def tw17054871954925069486:=0
def tw14723827918298957825:=0
def tw1362291602729389891:=0
def tw12662496689684263772:=0
def tw7523762452461596301:=0
def tw14659249110754519137:=0
def tw10085610786678572949:=0
def tw16142409272518445185:=0
def tw48816960273612929:=0
def tw965043569344680129:=0
def tw18268895262166280751:=0
def tw12720955309107534704:=0
def tw16216906954221491489:=0
def tw16478444952344943020:=0
def tw1127918941417282913:=0
def tw5399205579224623489:=0
def tw8160088420530997917:=0
def tw6459243984857826721:=0
def tw7451534309031382433:=0
def tw1217911056172268001:=0
def tw853729871661964801:=0
def tw5296022335897408065:=0
def tw16591586444816919105:=0
def tw2812988443588096299:=0
def tw11730235841638027098:=0
def tw11496774003584721505:=0
def tw2922732367479200263:=0
def tw16286911636413411009:=0
def tw16885097428079397633:=0
def tw12914668092388769537:=0
def tw8331076942171518354:=0
def tw12272237129366557461:=0
def tw1178950678276575041:=0
def tw2765286787355297039:=0
def tw2452934999248970245:=0
def tw5531036023290876473:=0
def tw16081265741543333793:=0
def tw10851407971977530305:=0
def tw11165679112640207970:=0
def tw14455181069237785188:=0
def tw6029016580695588994:=0
def tw1262605795081612482:=0
def tw10819969013599305845:=0
def tw5177447325330478934:=0
def tw9334903189179129371:=0
def tw6302713503832131874:=0
def tw15884426105155456600:=0
def tw8790780408907813218:=0
def tw1030110313333849162:=0
def tw13324383168138423714:=0
def tw1021861931830091170:=0
def tw6505506224198982836:=0
def tw12744587458229182033:=0
def tw15153726296951203298:=0
def tw4317284034682782382:=0
def tw1853592685964985103:=0
def tw3962170931275144315:=0
def tw2813821900762588680:=0
def tw3552566212920863234:=0
def tw6680849217943158780:=0
def tw1246416962295222857:=0
def tw3125299546894352177:=0
def tw13276197315013774978:=0
def tw7117804996156137090:=0
def tw10634012771661299496:=0
def tw161398201453750946:=0
def tw13628380331729753520:=0
def tw11143472740960426690:=0
def tw15788415243409232893:=0
def tw1105659822388007395:=0
def tw18371297934859981538:=0
def tw11117302839197767017:=0
def tw10593678883830168715:=0
def tw8151297250526297890:=0
def tw15150678296137897794:=0
def tw11598056839188573559:=0
def tw12962485857704234019:=0
def tw13212818733538702403:=0
def tw16306129328575549539:=0
def tw10748503492651238499:=0
def tw795390612532648092:=0
def tw12302448617420931:=0
def tw12399371832907620303:=0
def tw8623971685374978030:=0
def tw3335840994061809701:=0
def tw14456644393514892509:=0
def tw9004139540759963907:=0
def tw9560126052581684483:=0
def tw4448601525418368291:=0
def tw9922782462880065827:=0
def tw8468091646842487107:=0
def tw5918647082953873994:=0
def tw2298367395393561987:=0
def tw4006305332065663722:=0
def tw6017725009870618939:=0
def tw1273867754602110792:=0
def tw1169199725666220382:=0
def tw11815896831006311939:=0
def tw16343187612927621987:=0
def tw752778007466073399:=0
def tw17301341999131724387:=0
def tw5080017203349547651:=0
def tw9409469151573949091:=0
def tw11456550783526337219:=0
def tw1174436063213955811:=0
def tw11889121460572039907:=0
def tw16006335781977815273:=0
def tw11105267375756645279:=0
def tw16167781713235494723:=0
def tw710547359007530819:=0
def tw8606330187486109384:=0
def tw9211847460235054194:=0
def tw10353007433199865860:=0
def tw11107597061449807876:=0
def tw1929611515091280964:=0
def tw11718023311713452100:=0
def tw9812098802002489412:=0
def tw8413824464285512836:=0
def tw15561655609745794687:=0
def tw10738826269232912808:=0
def tw7717840632675761745:=0
def tw17377490712837306621:=0
def tw10383670652792518828:=0
def tw2219442783817404708:=0
def tw8567263580837168814:=0
def tw14311574956458385945:=0
def tw13231439767029482980:=0
def tw11794082088140926643:=0
def tw5223673530095680365:=0
def tw5653289696666240357:=0
def tw3259286598722485329:=0
def tw1634897762052412004:=0
def tw3935719753977450116:=0
def tw8677521763752662692:=0
def tw15512918344260342671:=0
def tw17970771958655392452:=0
def tw6463599068552310468:=0
def tw2610425237227565764:=0
def tw3880709598859295428:=0
def tw16639830951815440100:=0
def tw5800241597044424508:=0
def tw7470271249244078093:=0
def tw9067674842549573412:=0
def tw14622366716449506629:=0
def tw7518443668857706308:=0
def tw14304028482440468013:=0
def tw12425137288503157604:=0
def tw4440162893516979076:=0
def tw16020300178884248452:=0
def tw1680775620012872168:=0
def tw2090355922758264774:=0
def tw1202521509566600132:=0
def tw10629424422196446544:=0
def tw10373227935183801349:=0
def tw5957250588635358162:=0
def tw2830078880725220421:=0
def tw1604090392316361758:=0
def tw12692322814407840869:=0
def tw9086578354912971877:=0
def tw551608219881662225:=0
def tw4046944444709249835:=0
def tw16030671373084788175:=0
def tw12738317974449678294:=0
def tw11025491184075895045:=0
def tw4551021382552987973:=0
def tw6891987302599657829:=0
def tw15516668871247455717:=0
def tw15824808958425324340:=0
def tw9535499020158826021:=0
def tw13702372267465020997:=0
def tw9738141219290910405:=0
def tw5771724757642455242:=0
def tw489673207053413247:=0
def tw5387506755812887354:=0
def tw11180815337906783559:=0
def tw16448890510088822918:=0
def tw10084492442089617157:=0
def tw3415593867126623013:=0
def tw7770176185947990853:=0
def tw16072668906324692313:=0
def tw3167632672916597776:=0
def tw7831019918387289239:=0
def tw18315346680935381104:=0
def tw7833589577211997303:=0
def tw3498662426881939526:=0
def tw906468080318512198:=0
def tw9203811748313949006:=0
def tw3467226995128799494:=0
def tw17304118075017543942:=0
def tw9592132910763277905:=0
def tw6035120606041170246:=0
def tw10527345384284152134:=0
def tw10145986172629672294:=0
def tw9146621926052484918:=0
def tw17809269867556552166:=0
def tw18437125457899547174:=0
def tw10535984270812825158:=0
def tw13219757719581368902:=0
def tw16822746230162796718:=0
def tw5108303041292295846:=0
def tw11535418374629019334:=0
def tw8800606691476896807:=0
def tw4021084822388930362:=0
def tw9773030921151303430:=0
def tw2865352542464944934:=0
def tw15140059374063488806:=0
def tw5727307869596094760:=0
def tw11746032745628260198:=0
def tw7891553403118484072:=0
def tw4974708199657457574:=0
def tw5464055761744385990:=0
def tw14435913537549512678:=0
def tw8338470640971968583:=0
def tw15351200699485300201:=0
def tw15666900253921802874:=0
def tw6675115570808491021:=0
def tw2332300226513091956:=0
def tw15956592142003273927:=0
def tw12059058167841430344:=0
def tw9448551352926638791:=0
def tw7919119211542566427:=0
def tw10691939546532372636:=0
def tw14521173144626812056:=0
def tw3038587967293731303:=0
def tw8274333154953012711:=0
def tw56213524472771079:=0
def tw18028118900832077129:=0
def tw3857496584863994291:=0
def tw11953824715021070869:=0
def tw15288332330003329767:=0
def tw6364745528314643357:=0
def tw12526341810194362151:=0
def tw15535273135129289965:=0
def tw11259819050613525689:=0
def tw1816703288215142183:=0
def tw624757425594694993:=0
def tw18138051771613236208:=0
def tw15714081599668936647:=0
def tw12991413371785976807:=0
def tw11102008170258741223:=0
def tw17681745362562263629:=0
def tw12074880127663087723:=0
def tw13545282900908290120:=0
def tw9057688974658805007:=0
def tw9563086545206635656:=0
def tw9961835188885820584:=0
def tw12393724903140799656:=0
def tw8718323564670806216:=0
def tw9672587713323799752:=0
def tw4707506813133924584:=0
def tw12133568063868322088:=0
def tw1109596229644255528:=0
def tw15149547802658378120:=0
def tw1886950072781975933:=0
def tw2796181773627081128:=0
def tw16783788607740518920:=0
def tw9228748390072711624:=0
def tw5786344233548916200:=0
def tw12949118689431502312:=0
def tw11461111425707392488:=0
def tw4043998459709095454:=0
def tw14319571963933991194:=0
def tw11593273940918090248:=0
def tw13334377324960564744:=0
def tw7107241684939481672:=0
def tw112511496767514184:=0
def tw15144239785423821384:=0
def tw12952589285145017307:=0
def tw6315909438090898672:=0
def tw11366963592894583624:=0
def tw2412298144626512126:=0
def tw4173324122689631976:=0
def tw19809636809946872:=0
def tw3870775054005830746:=0
def tw15750416868520434472:=0
def tw18351327281427436185:=0
def tw10923697576680808343:=0
def tw15929641302512563519:=0
def tw2192309684157891528:=0
def tw3787923577798902728:=0
def tw7088472891032721352:=0
def tw14046873198341893096:=0
def tw3462755317024457878:=0
def tw13707571506872090928:=0
def tw8928758255230335017:=0
def tw12768521412228438089:=0
def tw10536369455744961641:=0
def tw5074435370605102185:=0
def tw902055672786957434:=0
def tw17070002102467504393:=0
def tw16589149165433866505:=0
def tw9599175821770563927:=0
def tw9360252257973215689:=0
def tw11523721669885116764:=0
def tw3126868909049839113:=0
def tw6279362070783205142:=0
def tw17610285181413567545:=0
def tw9652407851736369853:=0
def tw16404187451958645866:=0
def tw16797309274432780937:=0
def tw15476179063907767945:=0
def tw9323406710787998377:=0
def tw4981097810177067359:=0
def tw9508642536629798601:=0
def tw763351412563772410:=0
def tw8348174270677633737:=0
def tw6725913037400012439:=0
def tw9120041220471257471:=0
def tw10974800680411411209:=0
def tw12526398775183578889:=0
def tw11379488504377495369:=0
def tw9358774366262665065:=0
def tw6809323360122568585:=0
def tw5389477373517031244:=0
def tw16852782080578657941:=0
def tw1542174804722836457:=0
def tw12306765323757098699:=0
def tw9004095134600555562:=0
def tw8107755311462537785:=0
def tw10219549680880040081:=0
def tw17120965551327811786:=0
def tw1551639845733745489:=0
def tw7744874830577099978:=0
def tw13522514339482688874:=0
def tw138418269303396562:=0
def tw603941472552268536:=0
def tw10493964009035568696:=0
def tw15597443642082938808:=0
def tw4189537858207614442:=0
def tw14401172058067808918:=0
def tw18410106126490846256:=0
def tw5644719530565380340:=0
def tw8244147087740791466:=0
def tw15312018298198593258:=0
def tw11544469575439848170:=0
def tw3309968249396627503:=0
def tw14197732550626643199:=0
def tw1123595607115837774:=0
def tw12769955841190570762:=0
def tw10545849047351162698:=0
def tw2531369445955933034:=0
def tw2366665652304527210:=0
def tw11719827148652704945:=0
def tw3941184783876303098:=0
def tw199618751162649529:=0
def tw15175396754567462858:=0
def tw17908563442986729547:=0
def tw8711006349143145579:=0
def tw15091791830551329931:=0
def tw8760579755521210576:=0
def tw17522059084624702813:=0
def tw3261500659558163025:=0
def tw15612892197302685899:=0
def tw8702470290574992619:=0
def tw15164142117437021451:=0
def tw2887295868561625843:=0
def tw1197322906300015856:=0
def tw6710562893741833211:=0
def tw11492574804896228893:=0
def tw5542987707306649035:=0
def tw37979345144725963:=0
def tw14278409672415458763:=0
def tw17021876912869656850:=0
def tw2076789302036682219:=0
def tw11362188960764159467:=0
def tw11509052565466621483:=0
def tw15620715415823398395:=0
def tw10694548110396001276:=0
def tw4041048501658389099:=0
def tw7227761997114252939:=0
def tw7582895478443566763:=0
def tw1042887364288835863:=0
def tw7370524400591059710:=0
def tw6829456334632790763:=0
def tw3890338548903632619:=0
def tw5105613579296257791:=0
def tw12692569337204346731:=0
def tw16615162888437109087:=0
def tw17310860413318958987:=0
def tw5721222420989621195:=0
def tw6106273381607407595:=0
def tw16639139386829201484:=0
def tw440403679894123926:=0
def tw6202590278198113487:=0
def tw16172645878300754156:=0
def tw12105677721729277164:=0
def tw333475467955190060:=0
def tw1618117513727529324:=0
def tw7892982571015647647:=0
def tw5841803135006724620:=0
def tw451254078279021292:=0
def tw11942506768404597484:=0
def tw1849223143392449050:=0
def tw14676423003463669612:=0
def tw1464223343985914732:=0
def tw8595114745286578124:=0
def tw7222858251864956908:=0
def tw719974880174280717:=0
def tw5649238091184051213:=0
def tw32338400060724305:=0
def tw7709545352159420892:=0
def tw8547596119993161997:=0
def tw8659218812166706445:=0
def tw6407536861811785005:=0
def tw15053476209045180689:=0
def tw7339199130426320205:=0
def tw4038813248842802573:=0
def tw11863072352688465325:=0
def tw5805245682540247565:=0
def tw16144641364135631103:=0
def tw8373875459569471085:=0
def tw14731027954205017741:=0
def tw17518851601702990509:=0
def tw5720500839342610035:=0
def tw10212429628805199830:=0
def tw2401192307278622396:=0
def tw3478967401212823341:=0
def tw6739042574125750734:=0
def tw4871579142835990742:=0
def tw14513093388993253197:=0
def tw6087720703238494061:=0
def tw2739169383050411917:=0
def tw589646770914891693:=0
def tw15197147807402044333:=0
def tw9803089402182485933:=0
def tw14699052638653572013:=0
def tw1398309567968900045:=0
def tw2508443305337517005:=0
def tw15997714290186590872:=0
def tw1564723785372990478:=0
def tw17037523005581795700:=0
def tw14383498938819510714:=0
def tw2657611045886886990:=0
def tw3902023296702574:=0
def tw15531069124734731135:=0
def tw14343500374507856125:=0
def tw14542231154580341212:=0
def tw5439951064456322414:=0
def tw699709113070391679:=0
def tw9778859010829871765:=0
def tw17234362856784692981:=0
def tw9201862795632767470:=0
def tw13932088833931737582:=0
def tw1716215958526748174:=0
def tw38685028296243758:=0
def tw12199500931270766126:=0
def tw17442153148875286841:=0
def tw15986091154692933462:=0
def tw17944736133642745486:=0
def tw12090895554704397166:=0
def tw7998230399261937646:=0
def tw11691334733367756316:=0
def tw7153058452431296623:=0
def tw11038545718632818927:=0
def tw12886669789469922543:=0
def tw13903018799426656495:=0
def tw14240415626596112655:=0
def tw7543766030381151959:=0
def tw8896316673641698554:=0
def tw662494397912270223:=0
def tw17096681328633399759:=0
def tw18359740715820681711:=0
def tw6331607208520968719:=0
def tw2104551186402777615:=0
def tw7640785874498949809:=0
def tw18147835757650832990:=0
def tw16155213077073155580:=0
def tw11795136672783815311:=0
def tw18330848992110234319:=0
def tw3498421008659973903:=0
def tw8701075233341156157:=0
def tw15956364552020843279:=0
def tw8974720003230057461:=0
def tw2092284214483677007:=0
def tw16730347138780700527:=0
def tw6185231846840461759:=0
def tw12792447504944141263:=0
def tw4662321138596910096:=0
def tw13879035129986296848:=0
def tw3963882689150951512:=0
def tw12308463120859055152:=0
def tw3125367891821170013:=0
def tw17494606053373589616:=0
def tw8168793817851563734:=0
def tw8914875288047298864:=0
def tw11926693119180997593:=0
def tw7897256760140299664:=0
def tw10847214861271125392:=0
def tw6004522338515107421:=0
def tw18032981295432628720:=0
def tw11152970970122183184:=0
def tw3009804033147381939:=0
def tw9271481104351390416:=0
def tw6906440710652867164:=0
def tw17590406625166542367:=0
def tw13688920519533871952:=0
def tw11216644847254297456:=0
def tw9730138157744102288:=0
def tw1599001766215784660:=0
def tw8621859670400617236:=0
def tw3830688256982195184:=0
def tw15251575186007881745:=0
def tw3451702964675435474:=0
def tw218823890674954131:=0
def tw3117341346295454940:=0
def tw17870474787725355899:=0
def tw9562558387455647985:=0
def tw12318969201175272721:=0
def tw9655992992407930129:=0
def tw5817234336542991665:=0
def tw6099062580876866132:=0
def tw16747849498725726748:=0
def tw569521813210980721:=0
def tw9642464735025881553:=0
def tw12187498215935329809:=0
def tw4537543025051711445:=0
def tw13316514847874663121:=0
def tw8089399716862011922:=0
def tw9972813532723163889:=0
def tw1444467276136563505:=0
def tw5017394027829121873:=0
def tw5845491721328074641:=0
def tw3391290483955069873:=0
def tw10210308447819845553:=0
def tw3386348364737644562:=0
def tw10864297109927930898:=0
def tw10345527057740488121:=0
def tw6570051933829041330:=0
def tw12952108478185228157:=0
def tw9162870246594687422:=0
def tw7575712899540932018:=0
def tw7417710466425157074:=0
def tw15296188223764057052:=0
def tw12757872552973881906:=0
def tw17002820886464733778:=0
def tw7773413580952656573:=0
def tw4139368763889620562:=0
def tw12149475770273996382:=0
def tw15325526313610323730:=0
def tw18051672294194484050:=0
def tw5322814563277379992:=0
def tw16150936009896940220:=0
def tw15812957182938546075:=0
def tw7651408895554846642:=0
def tw326940089130560498:=0
def tw5281589638516849683:=0
def tw10395617007565196349:=0
def tw15933114817728391127:=0
def tw1045987710652859390:=0
def tw3836745776662452563:=0
def tw11834472668119069139:=0
def tw1910673692177197555:=0
def tw17210439987771644403:=0
def tw4481017436207809309:=0
def tw9553465339627736627:=0
def tw1196906570913191100:=0
def tw1368240079043963349:=0
def tw811832682497059731:=0
def tw15537650244908618675:=0
def tw4983037591530559411:=0
def tw8143235673144601748:=0
def tw4971808074900233471:=0
def tw10134124098031322324:=0
def tw4557912068417349876:=0
def tw4268101591819378299:=0
def tw9067307803691473204:=0
def tw8380133212011328501:=0
def tw13713153629777662783:=0
def tw11271128471621422647:=0
def tw13196890078476303860:=0
def tw1510447483626583613:=0
def tw17292508139068417652:=0
def tw13082983812593633908:=0
def tw13000624875290256726:=0
def tw4553656663168217812:=0
def tw11795884142634000987:=0
def tw9698465521619339252:=0
def tw751198263460929557:=0
def tw1916665982549578139:=0
def tw14552394034488847703:=0
def tw11409963858525845589:=0
def tw4153407367432253466:=0
def tw12815045498081500223:=0
def tw4921484817021864693:=0
def tw11818190787363387036:=0
def tw6262134220633563541:=0
def tw7683232903910563093:=0
def tw1775796530332960318:=0
def tw2432994576841720213:=0
def tw16336302483925185238:=0
def tw7432951462425585429:=0
def tw13861765891337902684:=0
def tw12107853022760085397:=0
def tw10349504803763945365:=0
def tw11373609065876362300:=0
def tw3187900395929523222:=0
def tw17340540423416379414:=0
def tw5383379664598487902:=0
def tw17616734999593133110:=0
def tw5380268754531671657:=0
def tw16922957771108818102:=0
def tw16042482094994354454:=0
def tw15821947395510494486:=0
def tw10976869992192282038:=0
def tw107102770677267926:=0
def tw6472526700100152027:=0
def tw15103646959254711897:=0
def tw17206186262954140246:=0
def tw12429404388792520407:=0
def tw450881395513489110:=0
def tw5282637488619078454:=0
def tw17949217505141818071:=0
def tw15337982939358245624:=0
def tw10115595994211165207:=0
def tw10617437394853867575:=0
def tw4158437926573380727:=0
def tw12921614395601890331:=0
def tw5982627940746746943:=0
def tw1880249613007844793:=0
def tw16389674633928468151:=0
def tw7971368111622570551:=0
def tw9284817778477981239:=0
def tw12628467868387637911:=0
def tw720687683867770207:=0
def tw17837286270105453399:=0
def tw5177942746929510584:=0
def tw4989283752418371832:=0
def tw16013860450938860824:=0
def tw6797580314331006296:=0
def tw18191601074632504664:=0
def tw15189556123321137528:=0
def tw1388665004685434232:=0
def tw6708996335528745693:=0
def tw15350756881728522744:=0
def tw10903707724377627128:=0
def tw9364243452577939032:=0
def tw1016088682641248920:=0
def tw17214460854180098270:=0
def tw15661795879741646680:=0
def tw3131047855765683578:=0
def tw10695155630625963353:=0
def tw1919214435453542841:=0
def tw13413076773405769209:=0
def tw17270340667117848089:=0
def tw12950585190383609465:=0
def tw7115051927002408857:=0
def tw7211574733910836153:=0
def tw15045948583725204570:=0
def tw13974084102814498490:=0
def tw8640346293572019418:=0
def tw18261025709634929978:=0
def tw4862036418629494170:=0
def tw4108080103651941946:=0
def tw1108699938926751231:=0
def tw9349931922397897434:=0
def tw17162019988092723034:=0
def tw3770467499441337308:=0
def tw16572103611493327802:=0
def tw1976309707497113562:=0
def tw3620657819515518139:=0
def tw13797080568827194619:=0
def tw10967698837154866555:=0
def tw10790767911817813371:=0
def tw10997591343765394843:=0
def tw7931114329906831771:=0
def tw2739596878650630748:=0
def tw6640006837562542651:=0
def tw16462611325788749917:=0
def tw15378048026129181339:=0
def tw5197426880342867931:=0
def tw493874930204598300:=0
def tw13124650223420504222:=0
def tw14160516376806932444:=0
def tw10494395366744878655:=0
def tw10326495299876715868:=0
def tw13529807519324666268:=0
def tw2689359770111963580:=0
def tw12807524455852856638:=0
def tw367410664937324447:=0
def tw5349063631639285308:=0
def tw9089848069551021660:=0
def tw8084769788476881629:=0
def tw8619007347253126076:=0
def tw3756695832403442013:=0
def tw5070603677456508285:=0
def tw12563172847401585213:=0
def tw15834675646115854207:=0
def tw2889265847601785533:=0
def tw1453322038179690237:=0
def tw2488707076958817117:=0
def tw17837897768594110333:=0
def tw15284107627831868575:=0
def tw1322522108100234590:=0
def tw15287462548851818974:=0
def tw15558922706993193790:=0
def tw9639947428913370015:=0
def tw1640388715236070399:=0
def tw9493120520520356863:=0
end PySem.W.Fast
local macro_rules | `(tactic| walk_at "h0") => `(tactic| (refine' L2.defAt_mk ?a ?l ?c ?k; (case a=>k_is); (case l=>k_is); (case c=>k_is); (case k=>k_is)))
local macro_rules | `(tactic| walk_at "h1") => `(tactic| (refine' L2.methAt_mk ?a ?i ?l ?c ?k; (case a=>k_is); (case i=>k_is); (case l=>k_is); (case c=>k_is); (case k=>k_is)))
local macro_rules | `(tactic| walk_at "h2") => `(tactic| (refine' L2.mkAt_mk ?n ?m ?a ?i ?kc ?l ?c ?k; (case n=>k_is); (case m=>k_is); (case a=>k_is); (case i=>k_is); (case kc=>k_is); (case l=>k_is); (case c=>k_is); (case k=>k_is)))
local macro_rules | `(tactic| walk_at "h3") => `(tactic| (refine' L2.const_mk ?e ?r; (case e=>k_is); (case r=>exact⟨_,by with_unfolding_all rfl⟩)))
local macro_rules | `(tactic| walk_at "h4") => `(tactic| (refine'⟨?a,L2.fun_mk ?l ?c ?k⟩; (case a=>k_is); (case l=>k_is); (case c=>k_is); (case k=>k_is)))
local macro_rules | `(tactic| walk_at "h5") => `(tactic| (refine'⟨⟨?a,?b,?c,?d⟩,?f0,?f1,?f2⟩; (case a=>k_is); (case b=>k_is); (case c=>k_is); (case d=>k_is); (case f0=>delta L2.NoAttr;k_is); (case f1=>delta L2.NoAttr;k_is); (case f2=>delta L2.NoAttr;k_is)))
open PySem PySem.W PyProof.Rows
set_option maxRecDepth 100000 in
set_option maxHeartbeats 0 in
theorem PySem.Challenge.cw_fourvoices_k21_ranges_and_weight_holds : PySem.Challenge.rw_fourvoices_k21_ranges_and_weight.Holds := by
 w_on;o_law;k_head;(case hw=>w_witness2)
 k_fill
 refine K21.walk (l:=PySem.Challenge.rw_fourvoices_k21_ranges_and_weight) rfl rfl (fun w h Y=>PySem.W.kIn_of Y) ?F
 case F=>
  intro w mg fa h KX G hmg
  refine' K21.all_mk KX G hmg ?n_Span ?TC_Span ?n_Move ?TC_Move ?n_Back ?TC_Back ?n_Held ?TC_Held ?n_Times ?TC_Times ?n_Every ?TC_Every ?n_Score ?TC_Score ?n_TooWide ?n_ScoreError ?A_TooWide___init__ ?k_TooWide_ScoreError ?k_TooWide_ValueError ?A_Rule___init__ ?A_Move_size ?A_Back_size ?A_Held_size ?A_Times_size ?A_Every_size ?A_Move_shown ?A_Back_shown ?A_Held_shown ?A_Times_shown ?A_Every_shown ?A_Span___init__ ?A_Move___init__ ?A_Back___init__ ?A_Held___init__ ?A_Times___init__ ?A_Every___init__ ?A_is_number ?A_has_list ?A_are_voices ?B_span_of ?B_move_of ?B_back_of ?B_held_of ?B_times_of ?A_plain_rule ?A_every_rule ?A_read_rule ?A_Score___init__ ?A_lengthened ?A_columns ?A_weight ?A_not_too_wide ?A_voice_range ?A_read ?A_shown ?A_law_stirred ?A_law_got ?A_law_cells ?A_law_ranges ?A_law_rule ?A_law_columns ?A_law_same ?A_law_made_anew ?n_MAKERS ?t_MAKERS ?d_MAKERS_span ?d_MAKERS_move ?d_MAKERS_back ?d_MAKERS_held ?d_MAKERS_times ?n_INNER_KINDS ?q_INNER_KINDS ?z_len ?z_range ?z_all ?z_min ?z_max ?z_abs ?z_tuple ?z_list ?z_isinstance ?z_bool ?z_int ?z_str ?z_divmod ?z_enumerate ?z_ValueError ?g_FIGURES ?g_MOST_FIGURES ?g_MOST_VOICES ?g_MOST_RULES ?g_MOST_WEIGHT ?g_MOST_NUMBERS ?A_law
  (case n_Span=>k_is)
  (case TC_Span=>(refine'⟨⟨?a_1,?b_1,?c_1,?d_1⟩,?f0_1,?f1_1,?f2_1,?f3_1⟩;(case a_1=>k_is);(case b_1=>k_is);(case c_1=>k_is);(case d_1=>k_is);(case f0_1=>delta L2.NoAttr;k_is);(case f1_1=>delta L2.NoAttr;k_is);(case f2_1=>delta L2.NoAttr;k_is);(case f3_1=>delta L2.NoAttr;k_is)))
  (case n_Move=>k_is)
  (case TC_Move=>walk_at "h5")
  (case n_Back=>k_is)
  (case TC_Back=>walk_at "h5")
  (case n_Held=>k_is)
  (case TC_Held=>walk_at "h5")
  (case n_Times=>k_is)
  (case TC_Times=>(refine'⟨⟨?a_9,?b_9,?c_9,?d_9⟩,?f0_9,?f1_9,?f2_9,?f3_9,?f4_9⟩;(case a_9=>k_is);(case b_9=>k_is);(case c_9=>k_is);(case d_9=>k_is);(case f0_9=>delta L2.NoAttr;k_is);(case f1_9=>delta L2.NoAttr;k_is);(case f2_9=>delta L2.NoAttr;k_is);(case f3_9=>delta L2.NoAttr;k_is);(case f4_9=>delta L2.NoAttr;k_is)))
  (case n_Every=>k_is)
  (case TC_Every=>(refine'⟨⟨?a_11,?b_11,?c_11,?d_11⟩,?f0_11,?f1_11,?f2_11,?f3_11⟩;(case a_11=>k_is);(case b_11=>k_is);(case c_11=>k_is);(case d_11=>k_is);(case f0_11=>delta L2.NoAttr;k_is);(case f1_11=>delta L2.NoAttr;k_is);(case f2_11=>delta L2.NoAttr;k_is);(case f3_11=>delta L2.NoAttr;k_is)))
  (case n_Score=>k_is)
  (case TC_Score=>(refine'⟨⟨?a_13,?b_13,?c_13,?d_13⟩,?f0_13,?f1_13⟩;(case a_13=>k_is);(case b_13=>k_is);(case c_13=>k_is);(case d_13=>k_is);(case f0_13=>delta L2.NoAttr;k_is);(case f1_13=>delta L2.NoAttr;k_is)))
  (case n_TooWide=>k_is)
  (case n_ScoreError=>k_is)
  (case A_TooWide___init__=>(refine' L2.exAt_mk ?lk_16 ?ln_16 ?en_16 ?ii_16 ?aa_16 ?ab_16 ?ac_16 ?ad_16 ?ae_16 ?ls_16 ?lm_16 ?em_16 ?is_16 ?ba_16 ?bb_16 ?bc_16 ?bd_16 ?be_16 ?kp_16 ?fn_16 ?l_16 ?c_16 ?k_16;(case lk_16=>k_is);(case ln_16=>k_is);(case en_16=>rfl);(case ii_16=>k_is);(case aa_16=>k_is);(case ab_16=>k_is);(case ac_16=>k_is);(case ad_16=>k_is);(case ae_16=>k_is);(case ls_16=>k_is);(case lm_16=>k_is);(case em_16=>rfl);(case is_16=>k_is);(case ba_16=>k_is);(case bb_16=>k_is);(case bc_16=>k_is);(case bd_16=>k_is);(case be_16=>k_is);(case kp_16=>k_is);(case fn_16=>k_is);(case l_16=>k_is);(case c_16=>k_is);(case k_16=>k_is)))
  (case k_TooWide_ScoreError=>(refine' L2.kit_own ?a_17 ?b_17 ?c_17 ?d_17;(case a_17=>rfl);(case b_17=>k_is);(case c_17=>k_is);(case d_17=>k_is)))
  (case k_TooWide_ValueError=>(refine' L2.kit_ty ?a_18 ?b_18 ?d_18;(case a_18=>rfl);(case b_18=>rfl);(case d_18=>k_is)))
  (case A_Rule___init__=>(refine' L2.cmethAt_mk ?n_19 ?r_19 ?a_19 ?g_19 ?l_19 ?c_19 ?k_19;(case n_19=>k_is);(case r_19=>k_is);(case a_19=>k_is);(case g_19=>k_is);(case l_19=>k_is);(case c_19=>k_is);(case k_19=>k_is)))
  (case A_Move_size=>walk_at "h1")
  (case A_Back_size=>walk_at "h1")
  (case A_Held_size=>walk_at "h1")
  (case A_Times_size=>walk_at "h1")
  (case A_Every_size=>walk_at "h1")
  (case A_Move_shown=>walk_at "h1")
  (case A_Back_shown=>walk_at "h1")
  (case A_Held_shown=>walk_at "h1")
  (case A_Times_shown=>walk_at "h1")
  (case A_Every_shown=>walk_at "h1")
  (case A_Span___init__=>walk_at "h2")
  (case A_Move___init__=>walk_at "h2")
  (case A_Back___init__=>walk_at "h2")
  (case A_Held___init__=>walk_at "h2")
  (case A_Times___init__=>walk_at "h2")
  (case A_Every___init__=>walk_at "h2")
  (case A_is_number=>walk_at "h0")
  (case A_has_list=>walk_at "h0")
  (case A_are_voices=>walk_at "h0")
  (case B_span_of=>walk_at "h4")
  (case B_move_of=>walk_at "h4")
  (case B_back_of=>walk_at "h4")
  (case B_held_of=>walk_at "h4")
  (case B_times_of=>walk_at "h4")
  (case A_plain_rule=>walk_at "h0")
  (case A_every_rule=>walk_at "h0")
  (case A_read_rule=>(refine' L2.defAtD_mk2 ?a_46 ?l_46 ?c_46 ?k_46 ?t_46 ?d_46 ?r_46;(case a_46=>k_is);(case l_46=>k_is);(case c_46=>k_is);(case k_46=>k_is);(case t_46=>k_is);(case d_46=>rfl);(case r_46=>exact⟨_,rfl⟩)))
  (case A_Score___init__=>walk_at "h2")
  (case A_lengthened=>walk_at "h0")
  (case A_columns=>walk_at "h0")
  (case A_weight=>walk_at "h0")
  (case A_not_too_wide=>walk_at "h0")
  (case A_voice_range=>walk_at "h0")
  (case A_read=>walk_at "h0")
  (case A_shown=>walk_at "h0")
  (case A_law_stirred=>walk_at "h0")
  (case A_law_got=>walk_at "h0")
  (case A_law_cells=>walk_at "h0")
  (case A_law_ranges=>walk_at "h0")
  (case A_law_rule=>walk_at "h0")
  (case A_law_columns=>walk_at "h0")
  (case A_law_same=>walk_at "h0")
  (case A_law_made_anew=>walk_at "h0")
  (case n_MAKERS=>k_is)
  (case t_MAKERS=>(refine' L2.tab_mk ?l_64 ?s_64 ?x_64 ?y_64 ?z_64 ?d_64 ?r_64;(case l_64=>k_is);(case s_64=>rfl);(case x_64=>rfl);(case y_64=>rfl);(case z_64=>rfl);(case d_64=>rfl);(case r_64=>exact(L2.rowsR rfl rfl (L2.rowsR rfl rfl (L2.rowsR rfl rfl (L2.rowsR rfl rfl (L2.rowsR rfl rfl (L2.rowsR rfl rfl (L2.rowsR rfl rfl (L2.rowsR rfl rfl (L2.rowsR rfl rfl .nil))))))))))))
  (case d_MAKERS_span=>with_unfolding_all rfl)
  (case d_MAKERS_move=>with_unfolding_all rfl)
  (case d_MAKERS_back=>with_unfolding_all rfl)
  (case d_MAKERS_held=>with_unfolding_all rfl)
  (case d_MAKERS_times=>with_unfolding_all rfl)
  (case n_INNER_KINDS=>k_is)
  (case q_INNER_KINDS=>(refine' L2.ktup_mk ?l_71 ?x_71 ?d_71 ?z_71 ?r_71;(case l_71=>k_is);(case x_71=>rfl);(case d_71=>rfl);(case z_71=>decide);(case r_71=>exact(.cons ⟨_,rfl⟩ (.cons ⟨_,rfl⟩ .nil)))))
  (case z_len=>k_is)
  (case z_range=>k_is)
  (case z_all=>k_is)
  (case z_min=>k_is)
  (case z_max=>k_is)
  (case z_abs=>k_is)
  (case z_tuple=>k_is)
  (case z_list=>k_is)
  (case z_isinstance=>k_is)
  (case z_bool=>k_is)
  (case z_int=>k_is)
  (case z_str=>k_is)
  (case z_divmod=>k_is)
  (case z_enumerate=>k_is)
  (case z_ValueError=>k_is)
  (case g_FIGURES=>walk_at "h3")
  (case g_MOST_FIGURES=>walk_at "h3")
  (case g_MOST_VOICES=>walk_at "h3")
  (case g_MOST_RULES=>walk_at "h3")
  (case g_MOST_WEIGHT=>walk_at "h3")
  (case g_MOST_NUMBERS=>walk_at "h3")
  (case A_law=>walk_at "h0")
