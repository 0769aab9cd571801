import PyProof.Rows.All
import Wide.All
import OpenK.AllK
import Wide.FinOn
import Lean
import PyProof.EqAt
import PyProof.EqKinds
import PyProof.TupleCall
import KE.KTab
import KE.KRevSl
import PyProof.Rows.Range3
import PyProof.WalkInts
import PyProof.Rows.StrSplitMax
import KE.KMinKey
import PyProof.LongRange
import PyProof.ListRange
import PySem.Challenge.RW_fourvoices_k23_the_fault_of_a_line
set_option Elab.async false
set_option linter.all false
set_option maxRecDepth 100000
namespace L2
open PySem PySem.Spec PyProof.Rows
abbrev qX:=Sum Int Str
def Aw:qX→Value→Bool
 | .inl k,v=>Value.isInt k v
 | .inr x,v=>Value.isStrOf x v
def CO(w:World):qX→Int
 | .inl k=>hashInt k
 | .inr x=>hashStr w x
theorem cD:∀{k:qX} {v:Value},Aw k v=true→(∃i t,k=Sum.inl i∧v=Value.int i t)∨(∃x t,k=Sum.inr x∧v=Value.str x t)
 | .inl i,v,h=>by
  obtain⟨t,e⟩:=Value.isInt_shape (k:=i) (v:=v) h
  exact .inl ⟨i,t,rfl,e⟩
 | .inr x,v,h=>by
  obtain⟨t,e⟩:=Value.isStrOf_shape (x:=x) (v:=v) h
  exact .inr ⟨x,t,rfl,e⟩
theorem AV(a b:Int):decide ((Sum.inl a:qX)=Sum.inl b)=(a == b):=by
 by_cases e:a=b
 ·subst e;simp
 ·have h:¬(Sum.inl a:qX)=Sum.inl b:=fun q=>e (Sum.inl.inj q)
  rw [decide_eq_false h]
  exact(beq_eq_false_iff_ne.mpr e).symm
theorem AY(a b:Str):decide ((Sum.inr a:qX)=Sum.inr b)=decide (a=b):=by
 by_cases e:a=b
 ·subst e;simp
 ·have h:¬(Sum.inr a:qX)=Sum.inr b:=fun q=>e (Sum.inr.inj q)
  rw [decide_eq_false h,decide_eq_false e]
theorem AW(a:Int)(b:Str):decide ((Sum.inl a:qX)=Sum.inr b)=false:=decide_eq_false (fun q=>nomatch q)
theorem AX(a:Str)(b:Int):decide ((Sum.inr a:qX)=Sum.inl b)=false:=decide_eq_false (fun q=>nomatch q)
def qa(prog:Program)(w:World):PySem.KeyKind prog w qX where
 is:=Aw
 hash:=CO w
 inj:=fun v a b ha hb=>by
  rcases cD ha with⟨i,t,rfl,rfl⟩ | ⟨x,t,rfl,rfl⟩
  ·rcases cD hb with⟨j,u,rfl,e⟩ | ⟨y,u,rfl,e⟩
   ·injection e with e1 _;rw [e1]
   ·exact nomatch e
  ·rcases cD hb with⟨j,u,rfl,e⟩ | ⟨y,u,rfl,e⟩
   ·exact nomatch e
   ·injection e with e1 _;rw [e1]
 byValue:=fun k v h=>by
  rcases cD h with⟨i,t,rfl,rfl⟩ | ⟨x,t,rfl,rfl⟩<;>rfl
 pyHash:=fun hv h=>by
  rcases cD hv with⟨i,t,rfl,rfl⟩ | ⟨x,t,rfl,rfl⟩
  ·exact wpAny_pyHash_int h
  ·exact wpAny_pyHash_str h
 eqBool:=fun hu hv h=>by
  rcases cD hu with⟨i,t,rfl,rfl⟩ | ⟨x,t,rfl,rfl⟩
  ·rcases cD hv with⟨j,u,rfl,rfl⟩ | ⟨y,u,rfl,rfl⟩
   ·rw [AV]at h;exact wpAny_eqBool_int h
   ·rw [AW]at h;exact SeqAt.EqAt.int_str i t y u _ _ _ _ h
  ·rcases cD hv with⟨j,u,rfl,rfl⟩ | ⟨y,u,rfl,rfl⟩
   ·rw [AX]at h;exact SeqAt.EqAt.str_int x t j u _ _ _ _ h
   ·rw [AY]at h;exact wpAny_eqBool_str h
 «strs»:=fun k x t v h=>by
  rcases cD h with⟨i,u,rfl,e⟩ | ⟨y,u,rfl,e⟩
  ·exact nomatch e
  ·injection e with e1 _
   subst e1
   cases v<;>rfl
end L2
namespace L2
open PySem PySem.Spec PyProof.Rows
inductive V where
 | non | bl (b:Bool) | int (i:Int) | str (x:Str) | byt (b:Array UInt8) | flt (b:UInt64) | ref (a:Addr) | ty (n:String)
 deriving DecidableEq
def bh:V→Value→Prop
 | .non,u=>u=Value.none
 | .bl b,u=>u=Value.bool b
 | .int i,u=>∃t,u=Value.int i t
 | .str x,u=>∃t,u=Value.str x t
 | .byt b,u=>∃t,u=Value.bytes b t
 | .flt b,u=>∃t,u=Value.float b t
 | .ref a,u=>u=Value.ref a
 | .ty n,u=>u=Value.type n
abbrev aW:List V→List Value→Prop:=Paired bh
theorem aW.length{xs:List V}{us:List Value}(r:aW xs us):xs.length=us.length:=Paired.length r
theorem aW.get:∀{xs:List V} {us:List Value} {i:Nat} {x:V},aW xs us→xs[i]?=some x→∃u,us[i]?=some u∧bh x u
 | _,_,_,_,.nil,e=>by simp at e
 | _,_,0,_,.cons r _,e=>by simp at e;subst e;exact⟨_,rfl,r⟩
 | _,_,i+1,x,.cons _ t,e=>by
  obtain⟨u,h1,h2⟩:=aW.get (i:=i) (x:=x) t (by simpa using e)
  exact⟨u,by simpa using h1,h2⟩
theorem aW.set{x:V}{u:Value}(r:bh x u):∀{xs:List V} {us:List Value} (i:Nat),aW xs us→aW (xs.set i x) (us.set i u)
 | _,_,_,.nil=>.nil
 | _,_,0,.cons _ t=>.cons r t
 | _,_,i+1,.cons q t=>.cons q (aW.set r i t)
theorem aW.append:∀{xs ys:List V} {us ws:List Value},aW xs us→aW ys ws→aW (xs++ys) (us++ws)
 | _,_,_,_,.nil,s=>s
 | _,_,_,_,.cons r t,s=>.cons r (aW.append t s)
theorem aW.take:∀{xs:List V} {us:List Value} (n:Nat),aW xs us→aW (xs.take n) (us.take n)
 | _,_,0,_=>.nil
 | _,_,_+1,.nil=>.nil
 | _,_,n+1,.cons r t=>.cons r (aW.take n t)
theorem aW.drop:∀{xs:List V} {us:List Value} (n:Nat),aW xs us→aW (xs.drop n) (us.drop n)
 | _,_,0,r=>r
 | _,_,_+1,.nil=>.nil
 | _,_,n+1,.cons _ t=>aW.drop n t
theorem aW.none_of:∀{xs:List V} {us:List Value} {i:Nat},aW xs us→xs[i]?=none→us[i]?=none:=fun {xs us i} r e=>by
 have h1:=r.length
 have h2:xs.length≤i:=List.getElem?_eq_none_iff.mp e
 exact List.getElem?_eq_none_iff.mpr (by omega)
def nX:Option V→Option Value→Prop
 | some v,some u=>bh v u
 | none,none=>True
 | _,_=>False
def KV{κ:Type}:List (κ×V)→List (κ×Value)→Prop:=Paired fun(p:κ×V) (q:κ×Value)=>p.1=q.1∧bh p.2 q.2
def kV:qX→V
 | .inl i=>.int i
 | .inr x=>.str x
inductive HO where
 | lst (xs:List V)
 | tup (xs:List V)
 | dK (kvs:List (qX×V)) | dT (kvs:List (List qX×V))
 | set (S:Int→Bool) (n:Nat)
 | ins (C dx:Addr) (fs:List (Str×V))
 | own (x:Addr)
 | xd (fs:List (Str×V))
 | met (f x:Addr)
 | rng (lo hi:Int)
 | frz (o:Obj) (u:HO)
 | tbl (ps:Array Value)
 | ext (φ:Heap→Prop)
abbrev Hp:=Addr→Option HO
def upd(H:Hp)(a:Addr)(o:HO):Hp:=fun b=>if b=a then some o else H b
theorem ab{H:Hp}{a:Addr}{o:HO}:upd H a o a=some o:=by unfold upd;rw [if_pos rfl]
theorem aj{H:Hp}{a b:Addr}{o:HO}(h:b≠a):upd H a o b=H b:=by unfold upd;rw [if_neg h]
theorem b8{H:Hp}{a:Addr}{o u:HO}:upd (upd H a o) a u=upd H a u:=by
 funext b;unfold upd;split<;>rfl
theorem dM{H:Hp}{a b:Addr}{o u:HO}(h:H a=some o)(h':H b=some u)(d:o≠u):a≠b:=by
 intro e;subst e;rw [h]at h';exact d (Option.some.inj h')
theorem ay{H:Hp}{a b:Addr}{o:HO}(h:H a=some o)(h':H b=none):a≠b:=by
 intro e;subst e;rw [h]at h';cases h'
section
variable (P:Program) (w:World)
def dv(H:Hp)(h:Heap)(a:Addr):HO→Prop
 | .lst xs=>xs.length≤sizeLine∧∃(its:List Value) (n:Nat),aW xs its∧h.get? a=some { cls:=.type "list",data:=.seq its.toArray n }
 | .tup xs=>xs.length≤sizeLine∧∃its:List Value,aW xs its∧IsTup h a its.toArray
 | .dK kvs=>kvs.length≤sizeLine∧(a == sysModules)=false∧∃vs,KV kvs vs∧h.DictOf (qa P w) a vs
 | .dT kvs=>kvs.length≤sizeLine∧(a == sysModules)=false∧∃xs:List (List qX×Addr×Value),
   Paired (fun(p:List qX×V) (q:List qX×Addr×Value)=>p.1=q.1∧H q.2.1=some (.tup (p.1.map kV))∧bh p.2 q.2.2) kvs xs∧
   ∃o es ep,h.get? a=some o∧o.ExactDict∧o.data=.dict es ep∧es.toList=xs.map (entryOfKey (tupleKind (qa P w)))∧(xs.map (·.1)).Nodup
 | .set S n=>h.SetOf (intKind P w) a S n
 | .ins C dx fs=>H dx=some (.own a)∧fs.length≤1000∧dx≠a∧h.get? a=some (PySem.W.instObj C dx)∧
   ∃mA,h.Ns1 dx mA∧(∀f,nX (fs.lookup f) (mA f))∧PySem.Within mA (fs.map (·.1))
 | .own _=>∃o,h.get? a=some o
 | .xd fs=>∃mA,h.Ns1 a mA∧∀f,nX (fs.lookup f) (mA f)
 | .rng lo hi=>∃t u v,h.get? a=some { cls:=.type "range",data:=.fields #[.int lo t,.int hi u,.int 1 v] }
 | .frz o u=>h.get? a=some o∧dv H h a u
 | .tbl ps=>h.get? a=some { cls:=.none,data:=.fields ps }
 | .met f x=>h.get? a=some (PySem.W.methodObj (.ref f) (.ref x))
 | .ext φ=>φ h∧(∃o,h.get? a=some o)∧∀h1 h2:Heap,φ h1→(∀o,h1.get? a=some o→h2.get? a=some o)→φ h2
def lB(H:Hp)(h:Heap):Prop:=∀a o,H a=some o→dv P w H h a o
end
section
variable {P:Program} {w:World} {H H':Hp} {h h':Heap} {a:Addr} {o:HO}
theorem dv.lt(x:dv P w H h a o):a < h.objs.size:=by
 cases o with
 | lst xs=>obtain⟨_,_,_,_,e⟩:=x;exact Heap.lt_size e
 | tup xs=>obtain⟨_,_,_,p⟩:=x;exact p.lt
 | dK kvs=>obtain⟨_,_,_,_,o,_,_,e,_⟩:=x;exact Heap.lt_size e
 | dT kvs=>obtain⟨_,_,_,_,o,_,_,e,_⟩:=x;exact Heap.lt_size e
 | set S n=>obtain⟨o,_,_,_,e,_⟩:=x;exact Heap.lt_size e
 | ins C dx fs=>obtain⟨_,_,_,e,_⟩:=x;exact Heap.lt_size e
 | own y=>obtain⟨_,e⟩:=x;exact Heap.lt_size e
 | xd fs=>obtain⟨_,⟨_,_,_,e,_⟩,_⟩:=x;exact Heap.lt_size e
 | rng lo hi=>obtain⟨_,_,_,e⟩:=x;exact Heap.lt_size e
 | frz ob u=>obtain⟨e,_⟩:=x;exact Heap.lt_size e
 | tbl ps=>exact Heap.lt_size (show h.get? a=some _ from x)
 | met f y=>exact Heap.lt_size (show h.get? a=some _ from x)
 | ext φ=>obtain⟨_,⟨_,e⟩,_⟩:=x;exact Heap.lt_size e
theorem Paired.mapP{α β:Type}{F G:α→β→Prop}:∀{l₁:List α} {l₂:List β},Paired F l₁ l₂→(∀a b,F a b→G a b)→Paired G l₁ l₂
 | _,_,.nil,_=>.nil
 | _,_,.cons r t,f=>.cons (f _ _ r) (Paired.mapP t f)
theorem dv.stay(x:dv P w H h a o)(k:∀b u,(b=a∨H b=some (.own a))→h.get? b=some u→h'.get? b=some u)
  (ho:∀b,H b=some (.own a)→H' b=some (.own a)) (ht:∀b xs,H b=some (.tup xs)→H' b=some (.tup xs)):dv P w H' h' a o:=by
 induction o with
 | lst xs=>obtain⟨z,its,n,r,e⟩:=x;exact⟨z,its,n,r,k _ _ (.inl rfl) e⟩
 | tup xs=>obtain⟨z,its,r,ob,e,c⟩:=x;exact⟨z,its,r,ob,k _ _ (.inl rfl) e,c⟩
 | dK kvs=>obtain⟨z,y,vs,r,ob,es,ep,e,c⟩:=x;exact⟨z,y,vs,r,ob,es,ep,k _ _ (.inl rfl) e,c⟩
 | dT kvs=>
  obtain⟨z,y,xs,r,ob,es,ep,e,c⟩:=x
  exact⟨z,y,xs,Paired.mapP r fun p q z=>⟨z.1,ht _ _ z.2.1,z.2.2⟩,ob,es,ep,k _ _ (.inl rfl) e,c⟩
 | set S n=>obtain⟨ob,es,ep,t,e,c⟩:=x;exact⟨ob,es,ep,t,k _ _ (.inl rfl) e,c⟩
 | ins C dx fs=>
  obtain⟨d,z,ne,e,mA,⟨od,es,ep,e2,c⟩,r⟩:=x
  exact⟨ho _ d,z,ne,k _ _ (.inl rfl) e,mA,⟨od,es,ep,k _ _ (.inr d) e2,c⟩,r⟩
 | own y=>obtain⟨ob,e⟩:=x;exact⟨ob,k _ _ (.inl rfl) e⟩
 | xd fs=>obtain⟨mA,⟨od,es,ep,e,c⟩,r⟩:=x;exact⟨mA,⟨od,es,ep,k _ _ (.inl rfl) e,c⟩,r⟩
 | rng lo hi=>obtain⟨t,u,v,e⟩:=x;exact⟨t,u,v,k _ _ (.inl rfl) e⟩
 | frz ob u ih=>obtain⟨e,q⟩:=x;exact⟨k _ _ (.inl rfl) e,ih q⟩
 | tbl ps=>
  have e:h.get? a=some { cls:=.none,data:=.fields ps }:=x
  show h'.get? a=some { cls:=.none,data:=.fields ps }
  exact k a _ (.inl rfl) e
 | met f y=>
  have e:h.get? a=some (PySem.W.methodObj (.ref f) (.ref y)):=x
  show h'.get? a=some (PySem.W.methodObj (.ref f) (.ref y))
  exact k a _ (.inl rfl) e
 | ext φ=>obtain⟨p,⟨o,e⟩,st⟩:=x;exact⟨st _ _ p fun o q=>k _ _ (.inl rfl) q,⟨o,k _ _ (.inl rfl) e⟩,st⟩
theorem lB.lt(x:lB P w H h)(e:H a=some o):a < h.objs.size:=(x a o e).lt
theorem lB.fresh(x:lB P w H h)(e:h.objs.size≤a):H a=none:=by
 cases q:H a with
 | none=>rfl
 | some u=>exact absurd (Nat.lt_of_lt_of_le (x.lt q) e) (Nat.lt_irrefl _)
theorem lB.kept(x:lB P w H h)(k:∀b u,h.get? b=some u→h'.get? b=some u):lB P w H h':=fun a o e=>
 (x a o e).stay (fun b u _ q=>k b u q) (fun _ q=>q) fun _ _ q=>q
theorem lB.laid(x:lB P w H h)(k:∀b u,h.get? b=some u→h'.get? b=some u)(hp:h.objs.size≤a)(new:dv P w (upd H a o) h' a o):lB P w (upd H a o) h':=fun b u e=>by
 have hn:=x.fresh hp
 by_cases hb:b=a
 ·subst hb;rw [ab]at e;cases e;exact new
 ·rw [aj hb]at e
  exact(x b u e).stay (fun c v _ q=>k c v q) (fun c q=>by rw [aj (ay q hn)];exact q) fun c xs q=>by rw [aj (ay q hn)];exact q
end
def Rd(H:Hp)(a:Addr)(u:HO):Prop:=H a=some u∨∃o,H a=some (.frz o u)
theorem Rd.ok{P:Program}{w:World}{H:Hp}{h:Heap}{a:Addr}{u:HO}(r:Rd H a u)(x:lB P w H h):dv P w H h a u:=by
 rcases r with r | ⟨o,r⟩
 ·exact x a u r
 ·obtain⟨_,q⟩:=x a _ r
  exact q
def Cz:Option HO→Prop
 | some (.lst _)=>True
 | some (.dK _)=>True
 | some (.dT _)=>True
 | some (.set _ _)=>True
 | some (.ins _ _ _)=>True
 | some (.ext _)=>True
 | _=>False
section
variable {P:Program} {w:World} {H:Hp} {h h':Heap} {x e:Addr} {o':HO}
theorem lB.write(ok:lB P w H h)(mu:Cz (H x))(he:e=x∨H e=some (.own x))(k:∀b u,b≠e→h.get? b=some u→h'.get? b=some u)(heo:∃u,h'.get? e=some u)
  (new:dv P w (upd H x o') h' x o'):lB P w (upd H x o') h':=fun b u q=>by
 have nown:∀c y,H c=some (.own y)→c≠x:=fun c y r z=>by subst z;rw [r]at mu;exact mu
 have ntup:∀c xs,H c=some (.tup xs)→c≠x:=fun c xs r z=>by subst z;rw [r]at mu;exact mu
 by_cases hb:b=x
 ·subst hb;rw [ab]at q;cases q;exact new
 ·rw [aj hb]at q
  by_cases hbe:b=e
  ·have q':H b=some (.own x):=by
    rcases he with z | z
    ·exact absurd (hbe.trans z) hb
    ·rw [hbe];exact z
   rw [q]at q';cases q'
   obtain⟨v,hv⟩:=heo
   exact⟨v,by rw [hbe];exact hv⟩
  ·refine(ok b u q).stay (fun c v hc r=>k c v ?_ r) (fun c r=>by rw [aj (nown c b r)];exact r) fun c xs r=>by rw [aj (ntup c xs r)];exact r
   rcases hc with rfl | hc
   ·exact hbe
   ·rintro rfl
    rcases he with z | z
    ·exact nown c b hc z
    ·rw [hc]at z;cases z;exact hb rfl
end
structure Un(fs ex:List Addr)(H H':Hp)(h h':Heap):Prop where
 keep:∀b o,h.get? b=some o→H b=none→b∉fs→b∉ex→h'.get? b=some o
 slot:∀b o,h.get? b=some o→H b=none→b∈fs→b∉ex→∃sl,h'.get? b=some { o with slots:=sl }
 free:∀b o,h.get? b=some o→H b=none→b∉ex→H' b=none
 there:∀b o,h.get? b=some o→b∉ex→∃o',h'.get? b=some o'
 tups:∀b xs,H b=some (.tup xs)→H' b=some (.tup xs)
 frzs:∀b o u,H b=some (.frz o u)→H' b=some (.frz o u)
 tbls:∀b ps,H b=some (.tbl ps)→∃more,H' b=some (.tbl (ps++more))
section
variable {fs fs' ex ex':List Addr} {H H1 H2:Hp} {h h1 h2 h':Heap} {a x e:Addr} {o:HO}
theorem Un.any(u:Un fs ex H H1 h h1){b:Addr}{ob:Obj}(q:h.get? b=some ob)(n:H b=none)(hx:b∉ex):∃sl,h1.get? b=some { ob with slots:=sl }:=by
 by_cases hb:b∈fs
 ·exact u.slot b ob q n hb hx
 ·exact⟨ob.slots,u.keep b ob q n hb hx⟩
theorem Un.kept(k:∀b u,h.get? b=some u→h'.get? b=some u):Un fs ex H H h h':=
 ⟨fun b ob q _ _ _=>k b ob q,fun b ob q _ _ _=>⟨ob.slots,k b ob q⟩,fun _ _ _ n _=>n,fun b ob q _=>⟨ob,k b ob q⟩,fun _ _ q=>q,fun _ _ _ q=>q,fun _ ps q=>⟨#[],by rw [q];simp⟩⟩
theorem Un.refl:Un fs ex H H h h:=Un.kept fun _ _ q=>q
theorem Un.laid(k:∀b u,h.get? b=some u→h'.get? b=some u)(hp:h.objs.size≤a)(hn:H a=none):Un fs ex H (upd H a o) h h' where
 keep:=fun b u q _ _ _=>k b u q
 slot:=fun b u q _ _ _=>⟨u.slots,k b u q⟩
 free:=fun b u q n _=>by rw [aj (Nat.ne_of_lt (Nat.lt_of_lt_of_le (Heap.lt_size q) hp))];exact n
 there:=fun b u q _=>⟨u,k b u q⟩
 tups:=fun b xs q=>by rw [aj (ay q hn)];exact q
 frzs:=fun b u xs q=>by rw [aj (ay q hn)];exact q
 tbls:=fun b ps q=>⟨#[],by rw [aj (ay q hn),q];simp⟩
theorem Un.write(mu:Cz (H x))(he:e=x∨H e=some (.own x))(k:∀b u,b≠e→h.get? b=some u→h'.get? b=some u)(heo:∃u,h'.get? e=some u):Un fs ex H (upd H x o) h h':=by
 have hx:∀b,H b=none→b≠x:=fun b n z=>by subst z;rw [n]at mu;exact mu
 have hb:∀b,H b=none→b≠e:=fun b n z=>by
  subst z
  rcases he with r | r
  ·exact hx b n r
  ·rw [n]at r;cases r
 have hm:∀b u,H b=some u→¬Cz (some u)→b≠x:=fun b u q nm z=>by subst z;rw [q]at mu;exact nm mu
 refine⟨fun b u q n _ _=>k b u (hb b n) q,fun b u q n _ _=>⟨u.slots,k b u (hb b n) q⟩,fun b u q n _=>by rw [aj (hx b n)];exact n,fun b u q _=>?_,
  fun b xs q=>by rw [aj (hm b _ q fun z=>z)];exact q,fun b u xs q=>by rw [aj (hm b _ q fun z=>z)];exact q,fun b ps q=>⟨#[],by rw [aj (hm b _ q fun z=>z),q];simp⟩⟩
 by_cases hbe:b=e
 ·subst hbe;exact heo
 ·exact⟨u,k b u hbe q⟩
end
def CF(h:Heap)(H:Hp):List Addr:=(List.range h.objs.size).filter fun a=>(H a).isSome
def pY(h:Heap)(H:Hp):Heap:=PySem.W.hideAll h (CF h H)
theorem vH(h:Heap)(H:Hp):(pY h H).objs.size=h.objs.size:=PySem.W.hideAll_size _ _
theorem xk{h:Heap}{H:Hp}{b:Addr}{o:Obj}(e:h.get? b=some o)(n:H b=none):(pY h H).get? b=some o:=
 PySem.W.hideAll_get _ e fun hm=>by
  have q:(H b).isSome=true:=(List.mem_filter.mp hm).2
  rw [n]at q;simp at q
theorem zp{h:Heap}{H:Hp}{b:Addr}{o:Obj}(e:(pY h H).get? b=some o):h.get? b=some o∧H b=none:=by
 have e':h.get? b=some o:=PySem.W.of_hideAll (CF h H) e
 refine⟨e',?_⟩
 cases q:H b with
 | none=>rfl
 | some x=>
  have hm:b∈CF h H:=List.mem_filter.mpr ⟨List.mem_range.mpr (Heap.lt_size e'),by simp [q]⟩
  have z:(pY h H).get? b=none:=PySem.W.hideAll_none (CF h H) hm
  rw [z]at e;cases e
def yV(g h:Heap)(L:Addr):List (Addr×Obj):=(List.range h.objs.size).filterMap fun a=>if a=L∨(g.get? a).isSome=true then none else(h.get? a).map fun o=>(a,o)
def rest(g h:Heap)(L d:Addr):List (Addr×Obj):=(yV g h L).filter fun p=>decide (p.1≠d)
end L2
namespace L2
open PySem PySem.Spec PyProof.Rows
structure Mod(K:PySem.W.Frag)(mg:Str→Option Value)(base:Heap):Prop where
 kin:K.In base
 glob:base.Ns mainGlobals mg
 blt:∃mb,base.Ns builtinsNs mb∧∀x:Str,x≠"__name__"→mb x=bootBuiltins x
 nolimit:base.NoLimit
structure Cx where
 prog:Program
 w:World
 K:PySem.W.Frag
 mg:Str→Option Value
 base:Heap
 A:Around
 N:List Str
 s₀:Shared
 H₀:Hp
 env:Env
 outer:List Env
 stack:List Env
 ex:List Addr
 fn:Str→Bool
 calm:Bool
 pn:List (Addr×Obj)
 xe:Value→Shared→Prop
def sI(l:List Env):List Addr:=l.filterMap (·.frame)
abbrev Cx.fs(X:Cx):List Addr:=sI X.outer
def BO(sc:Scope)(x:Str):Prop:=sc.names.lookup x=some .local∨sc.names.lookup x=some .cell∨sc.names.lookup x=some .free
def BF(sc:Scope)(x:Str):Prop:=sc.names.lookup x=some .local∨sc.names.lookup x=some .cell
def CH(env:Env)(h:Heap)(m:Str→Option Value)(x:Str)(u:Value):Prop:=
 (env.kindOf x=some .local∧m x=some u)∨((env.kindOf x=some .cell∨env.kindOf x=some .free)∧∃c,env.cells.lookup x=some c∧h.IsCell c (some u))
structure Cx.Ok(X:Cx):Prop where
 mod:Mod X.K X.mg X.base
 kind:X.env.scope.kind=.function
 glob:X.env.globals=mainGlobals
 blt:X.env.builtins=builtinsNs
 above:X.s₀.heap.objs.size≤X.env.locals
 inj:∀x y c,X.env.cells.lookup x=some c→X.env.cells.lookup y=some c→x=y
 has:∀x,(X.env.kindOf x=some .cell∨X.env.kindOf x=some .free)→∃c,X.env.cells.lookup x=some c
 cab:∀x c,X.fn x=true→X.env.cells.lookup x=some c→X.s₀.heap.objs.size≤c
 hd:X.calm=true→X.A.handled=none
 frames:X.A.frames=some X.stack
 stk:X.stack=X.outer∨(X.stack=X.env::X.outer∧X.env.frame=some X.env.locals)
 exf:∀b∈X.ex,b≠X.env.locals∧∀x c,X.env.cells.lookup x=some c→c≠b
 bs:∀b o,X.base.get? b=some o→X.s₀.heap.get? b=some o∧X.H₀ b=none
 bsz:X.base.objs.size≤X.s₀.heap.objs.size
 noex:∀b o,X.base.get? b=some o→b∉X.ex
 exfs:∀b∈X.ex,b∉X.fs
 funs:X.s₀.heap.FunFrames X.base X.outer
 frf:∀b∈X.fs,X.H₀ b=none
structure aU(X:Cx)(pins:List (Addr×Obj))(σ:List (Option V))(H:Hp)(s:Shared):Prop where
 ok:X.Ok
 os:s.os=X.s₀.os
 bare:AllBare s.gens
 base:Un X.fs X.ex X.H₀ H X.s₀.heap s.heap
 loc:∃m,s.heap.Ns X.env.locals m∧∀(i:Nat) (x:Str) (v:V),X.N[i]?=some x→σ[i]?=some (some v)→BO X.env.scope x→∃u,bh v u∧CH X.env s.heap m x u
 cell:∀x c,X.env.cells.lookup x=some c→∃v,s.heap.IsCell c v
 free:H X.env.locals=none
 freeC:∀x c,X.env.cells.lookup x=some c→H c=none
 pin:∀p∈X.pn++pins,s.heap.get? p.1=some p.2∧H p.1=none∧p.1≠X.env.locals∧p.1∉X.fs∧∀v,p.2.data≠.cell v
 hok:lB X.prog X.w H s.heap
 len:σ.length=X.N.length
section
variable {X:Cx} {pins:List (Addr×Obj)} {σ:List (Option V)} {H H':Hp} {s:Shared} {h':Heap}
theorem Cx.Ok.nofr(ok:X.Ok){b:Addr}{o:Obj}(e:X.base.get? b=some o):b∉X.fs:=fun hb=>by
 have:=(ok.funs.mem hb).1
 rw [e]at this;cases this
theorem aU.bs(I:aU X pins σ H s):∀b o,X.base.get? b=some o→s.heap.get? b=some o∧H b=none:=fun b o e=>
 ⟨I.base.keep b o (I.ok.bs b o e).1 (I.ok.bs b o e).2 (I.ok.nofr e) (I.ok.noex b o e),I.base.free b o (I.ok.bs b o e).1 (I.ok.bs b o e).2 (I.ok.noex b o e)⟩
theorem aU.bk(I:aU X pins σ H s):∀b o,X.base.get? b=some o→s.heap.get? b=some o:=fun b o e=>(I.bs b o e).1
theorem aU.mod(I:aU X pins σ H s):Mod X.K X.mg X.base:=I.ok.mod
theorem aU.kIn(I:aU X pins σ H s):X.K.In s.heap:=I.ok.mod.kin.keeps I.bk
theorem aU.nolimit(I:aU X pins σ H s):s.heap.NoLimit:=I.ok.mod.nolimit.keeps I.bk
theorem aU.lt(I:aU X pins σ H s):X.env.locals < s.heap.objs.size:=let ⟨_,hn,_⟩:=I.loc;hn.lt
theorem aU.sz(I:aU X pins σ H s):X.s₀.heap.objs.size≤s.heap.objs.size:=Nat.le_trans I.ok.above (Nat.le_of_lt I.lt)
theorem aU.nofs(I:aU X pins σ H s){a:Addr}(h:s.heap.objs.size≤a):a∉X.fs:=fun hb=>by
 obtain⟨_,o,ho,_⟩:=I.ok.funs.mem hb
 exact absurd (Nat.lt_of_lt_of_le (Heap.lt_size ho) (Nat.le_trans I.sz h)) (Nat.lt_irrefl _)
theorem aU.cne(I:aU X pins σ H s):∀x c,X.env.cells.lookup x=some c→c≠X.env.locals:=fun x c e z=>by
 obtain⟨v,o,ho,hd⟩:=I.cell x c e
 obtain⟨m,⟨o',es,ep,ho',hd',_⟩,_⟩:=I.loc
 rw [z,ho']at ho;cases ho;rw [hd']at hd;cases hd
theorem aU.funs(I:aU X pins σ H s):s.heap.FunFrames X.base X.outer:=by
 have all:∀(l:List Env),(∀b∈sI l,b∈X.fs)→X.s₀.heap.FunFrames X.base l→s.heap.FunFrames X.base l:=by
  intro l
  induction l with
  | nil=>intro _ _;trivial
  | cons env r ih=>
   intro hs hl
   obtain⟨hk,⟨L,o,hf,hn,ho,hd⟩,hr⟩:=hl
   have hL:L∈X.fs:=hs L (by unfold sI;rw [List.filterMap_cons,hf];exact List.mem_cons_self)
   obtain⟨sl,e⟩:=I.base.slot L o ho (I.ok.frf L hL) hL fun z=>I.ok.exfs L z hL
   exact⟨hk,⟨L,_,hf,hn,e,hd⟩,ih (fun b hb=>hs b (by unfold sI;rw [List.filterMap_cons,hf];exact List.mem_cons_of_mem _ hb)) hr⟩
 exact all X.outer (fun _ hb=>hb) I.ok.funs
theorem aU.stack(I:aU X pins σ H s):s.heap.FunFrames X.base X.stack:=by
 rcases I.ok.stk with e | ⟨e,hf⟩
 ·rw [e];exact I.funs
 ·rw [e]
  obtain⟨m,hn,_⟩:=I.loc
  refine .cons (by rw [I.ok.kind];decide) hf hn ?_ I.funs
  exact Heap.get?_none_of_le (Nat.le_trans I.ok.bsz I.ok.above)
theorem aU.stkSub(I:aU X pins σ H s):∀b∈sI X.stack,b∈X.env.locals::X.fs:=fun b hb=>by
 rcases I.ok.stk with e | ⟨e,hf⟩
 ·rw [e]at hb;exact List.mem_cons_of_mem _ hb
 ·rw [e]at hb
  unfold sI at hb
  rw [List.filterMap_cons,hf]at hb
  exact hb
theorem aU.stkFree(I:aU X pins σ H s):∀b∈sI X.stack,H b=none:=fun b hb=>by
 rcases List.mem_cons.mp (I.stkSub b hb)with e | hb
 ·rw [e];exact I.free
 ·obtain⟨_,o,ho,_⟩:=I.ok.funs.mem hb
  exact I.base.free b o ho (I.ok.frf b hb) fun z=>I.ok.exfs b z hb
theorem aU.step{g':Array GenState}{t':Nat}{d':Drawn}{ch:List Addr}(I:aU X pins σ H s)
  (hch:∀b∈ch,(b∈X.ex∨X.s₀.heap.objs.size≤b)∧b≠X.env.locals∧(∀x c,X.env.cells.lookup x=some c→c≠b)∧∀p∈X.pn++pins,p.1≠b)
  (keep:∀b o,b≠X.env.locals→b∉X.fs→b∉ch→s.heap.get? b=some o→H b=none→h'.get? b=some o)
  (slot:∀b o,b≠X.env.locals→b∈X.fs→b∉ch→s.heap.get? b=some o→H b=none→∃sl,h'.get? b=some { o with slots:=sl }) (free:∀b o,b∉ch→s.heap.get? b=some o→H b=none→H' b=none)
  (there:∀b o,b∉ch→s.heap.get? b=some o→∃o',h'.get? b=some o')
  (tups:∀b xs,H b=some (.tup xs)→H' b=some (.tup xs)) (frzs:∀b o u,H b=some (.frz o u)→H' b=some (.frz o u)) (tbls:∀b ps,H b=some (.tbl ps)→∃more,H' b=some (.tbl (ps++more)))
  (ns:∀m,s.heap.Ns X.env.locals m→h'.Ns X.env.locals m) (hok:lB X.prog X.w H' h') (hg:AllBare g') :
  aU X pins σ H' { s with heap:=h',gens:=g',drawn:=d',toks:=t' }:=by
 have neL:∀b o,X.s₀.heap.get? b=some o→b≠X.env.locals:=fun b o e=>Nat.ne_of_lt (Nat.lt_of_lt_of_le (Heap.lt_size e) I.ok.above)
 have neC:∀b o,X.s₀.heap.get? b=some o→b∉X.ex→b∉ch:=fun b o e hx hb=>by
  rcases(hch b hb).1 with z | z
  ·exact hx z
  ·exact absurd (Nat.lt_of_lt_of_le (Heap.lt_size e) z) (Nat.lt_irrefl _)
 have cellK:∀x c,X.env.cells.lookup x=some c→∀v,s.heap.IsCell c v→h'.IsCell c v:=fun x c e v ⟨o,ho,hd⟩=>by
  have nch:c∉ch:=fun z=>(hch c z).2.2.1 x c e rfl
  by_cases hc:c∈X.fs
  ·obtain⟨sl,q⟩:=slot c o (I.cne x c e) hc nch ho (I.freeC x c e)
   exact⟨_,q,hd⟩
  ·exact⟨o,keep c o (I.cne x c e) hc nch ho (I.freeC x c e),hd⟩
 refine⟨I.ok,I.os,hg,⟨fun b o e n hb hx=>?_,fun b o e n hb hx=>?_,fun b o e n hx=>?_,fun b o e hx=>?_,fun b xs e=>tups b xs (I.base.tups b xs e),fun b o xs e=>frzs b o xs (I.base.frzs b o xs e),fun b ps e=>?_⟩,?_,fun x c e=>?_,?_,fun x c e=>?_,fun p hp=>?_,hok,I.len⟩
 ·exact keep b o (neL b o e) hb (neC b o e hx) (I.base.keep b o e n hb hx) (I.base.free b o e n hx)
 ·obtain⟨sl,e1⟩:=I.base.slot b o e n hb hx
  obtain⟨sl',e2⟩:=slot b _ (neL b o e) hb (neC b o e hx) e1 (I.base.free b o e n hx)
  exact⟨sl',e2⟩
 ·obtain⟨o',e1⟩:=I.base.there b o e hx
  exact free b o' (neC b o e hx) e1 (I.base.free b o e n hx)
 ·obtain⟨o',e1⟩:=I.base.there b o e hx
  exact there b o' (neC b o e hx) e1
 ·obtain⟨m1,e1⟩:=I.base.tbls b ps e
  obtain⟨m2,e2⟩:=tbls b _ e1
  exact⟨m1++m2,by rw [e2,Array.append_assoc]⟩
 ·obtain⟨m,hn,hl⟩:=I.loc
  refine⟨m,ns m hn,fun i x v e1 e2 e3=>?_⟩
  obtain⟨u,r,l⟩:=hl i x v e1 e2 e3
  refine⟨u,r,?_⟩
  rcases l with l | ⟨k,c,e,z⟩
  ·exact .inl l
  ·exact .inr ⟨k,c,e,cellK x c e _ z⟩
 ·obtain⟨v,z⟩:=I.cell x c e
  exact⟨v,cellK x c e v z⟩
 ·obtain⟨m,⟨o,_,_,ho,_⟩,_⟩:=I.loc
  exact free _ o (fun z=>(hch _ z).2.1 rfl) ho I.free
 ·obtain⟨v,o,ho,hd⟩:=I.cell x c e
  exact free c o (fun z=>(hch c z).2.2.1 x c e rfl) ho (I.freeC x c e)
 ·obtain⟨e,n,ne,nf,d⟩:=I.pin p hp
  have nch:p.1∉ch:=fun z=>(hch p.1 z).2.2.2 p hp rfl
  exact⟨keep p.1 p.2 ne nf nch e n,free p.1 p.2 nch e n,ne,nf,d⟩
theorem aU.un{t':Nat}(I:aU X pins σ H s)(u:Un X.fs [] H H' s.heap h')(hok:lB X.prog X.w H' h'):aU X pins σ H' { s with heap:=h',toks:=t' }:=by
 obtain⟨m,⟨o,es,ep,ho,r⟩,_⟩:=id I.loc
 obtain⟨sl,hL⟩:=u.any ho I.free (by simp)
 exact I.step (g':=s.gens) (d':=s.drawn) (ch:=[]) (fun _ z=>nomatch z) (fun b o _ hb _ e n=>u.keep b o e n hb (by simp)) (fun b o _ hb _ e n=>u.slot b o e n hb (by simp)) (fun b o _ e n=>u.free b o e n (by simp)) (fun b o _ e=>u.there b o e (by simp)) u.tups u.frzs u.tbls (fun m' hm=>by
  obtain⟨o',es',ep',ho',r'⟩:=hm
  rw [ho]at ho';cases ho'
  exact⟨_,es',ep',hL,r'⟩) hok I.bare
theorem aU.call{g':Array GenState}{t':Nat}{d':Drawn}{ch:List Addr}(I:aU X pins σ H s)(u:Un (sI X.stack) ch H H' s.heap h')(hok:lB X.prog X.w H' h')(hg:AllBare g')
  (hch:∀b∈ch,(b∈X.ex∨X.s₀.heap.objs.size≤b)∧b≠X.env.locals∧(∀x c,X.env.cells.lookup x=some c→c≠b)∧∀p∈X.pn++pins,p.1≠b) :
  aU X pins σ H' { s with heap:=h',gens:=g',drawn:=d',toks:=t' }:=by
 obtain⟨m,⟨o,es,ep,ho,r⟩,_⟩:=id I.loc
 obtain⟨sl,hL⟩:=u.any ho I.free fun z=>(hch _ z).2.1 rfl
 exact I.step (ch:=ch) hch (fun b o hL hb hc e n=>u.keep b o e n (fun z=>(List.mem_cons.mp (I.stkSub b z)).elim hL hb) hc) (fun b o _ _ hc e n=>u.any e n hc) (fun b o hc e n=>u.free b o e n hc) (fun b o hc e=>u.there b o e hc) u.tups u.frzs u.tbls (fun m' hm=>by
  obtain⟨o',es',ep',ho',r'⟩:=hm
  rw [ho]at ho';cases ho'
  exact⟨_,es',ep',hL,r'⟩) hok hg
theorem aU.turned{t':Nat}{it:Addr}(I:aU X pins σ H s)(k:∀b o,b≠it→s.heap.get? b=some o→h'.get? b=some o)(hn:H it=none)(hL:it≠X.env.locals)
  (h1:it∈X.ex∨X.s₀.heap.objs.size≤it) (h2:∀x c,X.env.cells.lookup x=some c→c≠it) (h3:∀p∈X.pn++pins,p.1≠it):aU X pins σ H { s with heap:=h',toks:=t' }:=by
 have nit:∀b u,H b=some u→b≠it:=fun b u e z=>by rw [z,hn]at e;cases e
 refine I.step (g':=s.gens) (d':=s.drawn) (ch:=[it]) (fun b hb=>?_) (fun b o _ _ hc e _=>k b o (fun z=>hc (by simp [z])) e) (fun b o _ _ hc e _=>⟨o.slots,k b o (fun z=>hc (by simp [z])) e⟩) (fun _ _ _ _ n=>n)
  (fun b o hc e=>⟨o,k b o (fun z=>hc (by simp [z])) e⟩) (fun _ _ e=>e) (fun _ _ _ e=>e) (fun b ps e=>⟨#[],by rw [e];simp⟩) (fun m hm=>?_) (fun b u e=>?_) I.bare
 ·have e:b=it:=by simpa using hb
  subst e
  exact⟨h1,hL,h2,h3⟩
 ·obtain⟨o,es,ep,ho,r⟩:=hm
  exact⟨o,es,ep,k _ o (Ne.symm hL) ho,r⟩
 ·refine(I.hok b u e).stay (fun c v hc q=>k c v ?_ q) (fun _ q=>q) fun _ _ q=>q
  rcases hc with z | z
  ·rw [z];exact nit b u e
  ·exact nit c _ z
theorem aU.tok(I:aU X pins σ H s)(t:Nat):aU X pins σ H { s with toks:=t }:=I.un (h':=s.heap) (t':=t) Un.refl I.hok
theorem aU.kept{t':Nat}(I:aU X pins σ H s)(k:∀b u,s.heap.get? b=some u→h'.get? b=some u):aU X pins σ H { s with heap:=h',toks:=t' }:=I.un (Un.kept k) (I.hok.kept k)
theorem aU.laid{a:Addr}{o:HO}{t':Nat}(I:aU X pins σ H s)(k:∀b u,s.heap.get? b=some u→h'.get? b=some u)(hp:s.heap.objs.size≤a)(new:dv X.prog X.w (upd H a o) h' a o):
  aU X pins σ (upd H a o) { s with heap:=h',toks:=t' }:=I.un (Un.laid k hp (I.hok.fresh hp)) (I.hok.laid k hp new)
theorem aU.write{x e:Addr}{o:HO}{t':Nat}(I:aU X pins σ H s)(mu:Cz (H x))(he:e=x∨H e=some (.own x))(k:∀b u,b≠e→s.heap.get? b=some u→h'.get? b=some u)(heo:∃u,h'.get? e=some u)
  (new:dv X.prog X.w (upd H x o) h' x o):aU X pins σ (upd H x o) { s with heap:=h',toks:=t' }:=I.un (Un.write mu he k heo) (I.hok.write mu he k heo new)
theorem aU.pins_of{pins':List (Addr×Obj)}(I:aU X pins σ H s)(h:∀p∈pins',s.heap.get? p.1=some p.2∧H p.1=none∧p.1≠X.env.locals∧p.1∉X.fs∧∀v,p.2.data≠.cell v):aU X pins' σ H s:=
 ⟨I.ok,I.os,I.bare,I.base,I.loc,I.cell,I.free,I.freeC,fun p hp=>(List.mem_append.mp hp).elim (fun z=>I.pin p (List.mem_append_left _ z)) (h p),I.hok,I.len⟩
theorem rN{N:List Str}(hN:N.Nodup){i j:Nat}{x:Str}(a:N[i]?=some x)(b:N[j]?=some x):i=j:=by
 obtain⟨h1,e1⟩:=List.getElem?_eq_some_iff.mp a
 obtain⟨h2,e2⟩:=List.getElem?_eq_some_iff.mp b
 exact(List.getElem_inj hN).mp (e1.trans e2.symm)
theorem pL{M:Model}{A:Around}{E:Value→Shared→Prop}{i:Nat}{x:Str}{v:V}{u:Value}{Q:Unit→Shared→Prop}(I:aU X pins σ H s)(hN:X.N.Nodup)(hi:X.N[i]?=some x)(hx:BF X.env.scope x)(r:bh v u)
  (h:∀s',aU X pins (σ.set i (some v)) H s'→(∃a,Heap.SameBut a s.heap s'.heap∧(a=X.env.locals∨X.env.cells.lookup x=some a))→Q () s') (hf:X.fn x=true∨X.env.scope.names.lookup x=some .local:=by first | exact .inl rfl | exact .inr rfl | assumption):wpAny M A (storeName X.env x u) Q E s:=by
 obtain⟨m,hn,hl⟩:=id I.loc
 have hcls:(X.env.scope.kind == .class || (X.env.scope.kind == .module && X.env.locals != X.env.globals))=false:=by rw [I.ok.kind];rfl
 have hiσ:i < σ.length:=by rw [I.len];exact(List.getElem?_eq_some_iff.mp hi).1
 have cne:=I.cne
 have tracked:∀{a:Addr} {h':Heap},(∃o,s.heap.get? a=some o∧H a=none)→Heap.SameBut a s.heap h'→lB X.prog X.w H h':=fun {a h'} ha hs b ob e=>by
  obtain⟨_,_,hfree⟩:=ha
  refine(I.hok b ob e).stay (fun c w' hc q=>(hs.2 c ?_).trans q) (fun _ q=>q) fun _ _ q=>q
  rintro rfl
  rcases hc with rfl | hc
  ·rw [hfree]at e;cases e
  ·rw [hfree]at hc;cases hc
 rcases hx with hk | hk
 ·refine wpAny_storeName_local hk hn (fun h' hn' hs=>?_) hcls
  obtain⟨oL,_,_,hoL,_⟩:=id hn
  refine h _ ⟨I.ok,I.os,I.bare,⟨fun b o e n hb hx=>?_,fun b o e n hb hx=>?_,I.base.free,fun b o e hx=>?_,I.base.tups,I.base.frzs,I.base.tbls⟩,⟨_,hn',fun j y v' e1 e2 e3=>?_⟩,fun y c e=>?_,I.free,I.freeC,fun p hp=>?_,tracked ⟨oL,hoL,I.free⟩ hs,by simpa using I.len⟩ ⟨_,hs,.inl rfl⟩
  ·exact(hs.2 b (Nat.ne_of_lt (Nat.lt_of_lt_of_le (Heap.lt_size e) I.ok.above))).trans (I.base.keep b o e n hb hx)
  ·obtain⟨sl,e1⟩:=I.base.slot b o e n hb hx
   exact⟨sl,(hs.2 b (Nat.ne_of_lt (Nat.lt_of_lt_of_le (Heap.lt_size e) I.ok.above))).trans e1⟩
  ·obtain⟨o',e1⟩:=I.base.there b o e hx
   exact⟨o',(hs.2 b (Nat.ne_of_lt (Nat.lt_of_lt_of_le (Heap.lt_size e) I.ok.above))).trans e1⟩
  ·by_cases hj:j=i
   ·subst hj
    rw [hi]at e1;cases e1
    rw [List.getElem?_set_self hiσ]at e2
    cases e2
    exact⟨u,r,.inl ⟨hk,by simp⟩⟩
   ·rw [List.getElem?_set_ne (Ne.symm hj)]at e2
    obtain⟨u',r',q⟩:=hl j y v' e1 e2 e3
    refine⟨u',r',?_⟩
    rcases q with⟨k,e⟩ | ⟨k,c,e,z⟩
    ·refine .inl ⟨k,?_⟩
     have:y≠x:=fun e=>hj (rN hN e1 (e▸hi))
     simp [this,e]
    ·exact .inr ⟨k,c,e,z.sameBut hs (cne y c e)⟩
  ·obtain⟨w',z⟩:=I.cell y c e
   exact⟨w',z.sameBut hs (cne y c e)⟩
  ·obtain⟨e,n,ne,nf,d⟩:=I.pin p hp
   exact⟨(hs.2 p.1 ne).trans e,n,ne,nf,d⟩
 ·have hfn:X.fn x=true:=by
   rcases hf with z | z
   ·exact z
   ·rw [z]at hk;cases hk
  obtain⟨c,hc⟩:=I.ok.has x (.inl hk)
  obtain⟨w',z⟩:=I.cell x c hc
  refine wpAny_storeName_cell I.ok.kind hk hc z (fun h' hc' hs=>?_)
  obtain⟨oc,hoc,hocd⟩:=id z
  refine h { s with heap:=h' } ⟨I.ok,I.os,I.bare,⟨fun b o e n hb hx=>?_,fun b o e n hb hx=>?_,I.base.free,fun b o e hx=>?_,I.base.tups,I.base.frzs,I.base.tbls⟩,⟨m,hn.sameBut hs (Ne.symm (cne x c hc)),fun j y v' e1 e2 e3=>?_⟩,fun y c' e=>?_,I.free,I.freeC,fun p hp=>?_,tracked ⟨oc,hoc,I.freeC x c hc⟩ hs,by simpa using I.len⟩ ⟨c,hs,.inr hc⟩
  ·exact(hs.2 b (Nat.ne_of_lt (Nat.lt_of_lt_of_le (Heap.lt_size e) (I.ok.cab x c hfn hc)))).trans (I.base.keep b o e n hb hx)
  ·obtain⟨sl,e1⟩:=I.base.slot b o e n hb hx
   exact⟨sl,(hs.2 b (Nat.ne_of_lt (Nat.lt_of_lt_of_le (Heap.lt_size e) (I.ok.cab x c hfn hc)))).trans e1⟩
  ·obtain⟨o',e1⟩:=I.base.there b o e hx
   exact⟨o',(hs.2 b (Nat.ne_of_lt (Nat.lt_of_lt_of_le (Heap.lt_size e) (I.ok.cab x c hfn hc)))).trans e1⟩
  ·by_cases hj:j=i
   ·subst hj
    rw [hi]at e1;cases e1
    rw [List.getElem?_set_self hiσ]at e2
    cases e2
    exact⟨u,r,.inr ⟨.inl hk,c,hc,hc'⟩⟩
   ·rw [List.getElem?_set_ne (Ne.symm hj)]at e2
    obtain⟨u',r',q⟩:=hl j y v' e1 e2 e3
    refine⟨u',r',?_⟩
    rcases q with q | ⟨k,c',e,z'⟩
    ·exact .inl q
    ·refine .inr ⟨k,c',e,z'.sameBut hs ?_⟩
     rintro rfl
     exact hj (rN hN e1 (I.ok.inj _ _ _ e hc▸hi))
  ·by_cases hcc:c'=c
   ·subst hcc;exact⟨_,hc'⟩
   ·obtain⟨w2,z2⟩:=I.cell y c' e
    exact⟨w2,z2.sameBut hs hcc⟩
  ·obtain⟨e,n,ne,nf,d⟩:=I.pin p hp
   refine⟨(hs.2 p.1 ?_).trans e,n,ne,nf,d⟩
   intro q
   rw [q,hoc]at e
   have q':oc=p.2:=Option.some.inj e
   exact d w' (by rw [←q'];exact hocd)
theorem nP{M:Model}{A:Around}{E:Value→Shared→Prop}{i:Nat}{x:Str}{v:V}{u:Value}{Q:Unit→Shared→Prop}(I:aU X pins σ H s)(hN:X.N.Nodup)(hi:X.N[i]?=some x)(hx:BF X.env.scope x)(r:bh v u)
  (h:∀s',aU X pins (σ.set i (some v)) H s'→Q () s') (hf:X.fn x=true∨X.env.scope.names.lookup x=some .local:=by first | exact .inl rfl | exact .inr rfl | assumption):wpAny M A (storeName X.env x u) Q E s:=
 pL I hN hi hx r (fun s' I' _=>h s' I') hf
theorem aU.call'{s':Shared}{ch:List Addr}(I:aU X pins σ H s)(ho:s'.os=s.os)(u:Un (sI X.stack) ch H H' s.heap s'.heap)(hok:lB X.prog X.w H' s'.heap)(hg:AllBare s'.gens)
  (hch:∀b∈ch,(b∈X.ex∨X.s₀.heap.objs.size≤b)∧b≠X.env.locals∧(∀x c,X.env.cells.lookup x=some c→c≠b)∧∀p∈X.pn++pins,p.1≠b):aU X pins σ H' s':=by
 obtain⟨h',g',d',t',o'⟩:=s'
 have e:o'=s.os:=ho
 subst e
 exact I.call (g':=g') (t':=t') (d':=d') u hok hg hch
end
abbrev XK:=Value→Option Addr→Hp→Prop
abbrev St:=List (Option V)
abbrev VK:=V→Hp→Prop
abbrev TE:=St→Hp→VK→Prop
abbrev TT:=St→Hp→(Bool→Hp→Prop)→Prop
abbrev TA:=St→Hp→(List V→Hp→Prop)→Prop
structure gU where
 nx:St→Hp→Prop
 rt:VK
 bk:St→Hp→Prop:=fun _ _=>False
 ct:St→Hp→Prop:=fun _ _=>False
abbrev TS:=gU→St→Hp→Prop
def EP(X:Cx)(pins:List (Addr×Obj))(σ:St)(Q:VK)(u:Value)(s':Shared):Prop:=∃v H',aU X pins σ H' s'∧bh v u∧Q v H'
def TP(X:Cx)(pins:List (Addr×Obj))(σ:St)(Q:Bool→Hp→Prop)(b:Bool)(s':Shared):Prop:=∃H',aU X pins σ H' s'∧Q b H'
def AP(X:Cx)(pins:List (Addr×Obj))(σ:St)(Q:List V→Hp→Prop)(us:List Value)(s':Shared):Prop:=∃vs H',aU X pins σ H' s'∧aW vs us∧Q vs H'
def SP(X:Cx)(pins:List (Addr×Obj))(D:gU)(f:Flow)(s':Shared):Prop:=
 match f with
 | .next=>∃σ' H',aU X pins σ' H' s'∧D.nx σ' H'
 | .brk=>∃σ' H',aU X pins σ' H' s'∧D.bk σ' H'
 | .cont=>∃σ' H',aU X pins σ' H' s'∧D.ct σ' H'
 | .ret u=>∃v σ' H',aU X pins σ' H' s'∧bh v u∧D.rt v H'
def PE(X:Cx)(e:Expr)(t:TE):Prop:=
 ∀(pins:List (Addr×Obj)) (s:Shared) (σ:St) (H:Hp) (Q:VK),aU X pins σ H s→t σ H Q→wpAny (model X.prog X.w) X.A (eval e X.env) (EP X pins σ Q) X.xe s
def PT(X:Cx)(e:Expr)(t:TT):Prop:=
 ∀(pins:List (Addr×Obj)) (s:Shared) (σ:St) (H:Hp) (Q:Bool→Hp→Prop),aU X pins σ H s→t σ H Q→wpAny (model X.prog X.w) X.A (isTrue e X.env (eval e X.env)) (TP X pins σ Q) X.xe s
def PW(X:Cx)(e:Expr)(t:TT):Prop:=
 ∀(whole:Sem Value) (pins:List (Addr×Obj)) (s:Shared) (σ:St) (H:Hp) (Q:Bool→Hp→Prop),aU X pins σ H s→t σ H Q→wpAny (model X.prog X.w) X.A (isTrue e X.env whole) (TP X pins σ Q) X.xe s
theorem PW.pt{X:Cx}{e:Expr}{t:TT}(h:PW X e t):PT X e t:=h _
def PA(X:Cx)(es:List Expr)(t:TA):Prop:=
 ∀(pos:Pos) (pins:List (Addr×Obj)) (s:Shared) (σ:St) (H:Hp) (Q:List V→Hp→Prop),aU X pins σ H s→t σ H Q→wpAny (model X.prog X.w) X.A (spliced (backTo pos (starEach es X.env))) (AP X pins σ Q) X.xe s
def PS(X:Cx)(st:Stmt)(t:TS):Prop:=
 ∀(pins:List (Addr×Obj)) (s:Shared) (σ:St) (H:Hp) (D:gU),aU X pins σ H s→t D σ H→wpAny (model X.prog X.w) X.A (exec st X.env) (SP X pins D) X.xe s
def uI(X:Cx)(st:List Stmt)(t:TS):Prop:=
 ∀(pins:List (Addr×Obj)) (s:Shared) (σ:St) (H:Hp) (D:gU),aU X pins σ H s→t D σ H→wpAny (model X.prog X.w) X.A (execs st X.env) (SP X pins D) X.xe s
theorem cL{α:Type}{t:Sem α}{Q Q':α→Shared→Prop}{M:Model}{A:Around}{E:Value→Shared→Prop}{s:Shared}(h:wpAny M A t Q E s)(hQ:∀a s,Q a s→Q' a s):wpAny M A t Q' E s:=wpAny_mono h hQ fun _ _ x=>x
end L2
namespace L2
open PySem PySem.Spec PyProof.Rows
section
variable {X:Cx}
theorem bin{a b:Expr}{ta tb:TE}(ha:PE X a ta)(hb:PE X b tb){pins:List (Addr×Obj)}{s:Shared}{σ:St}{H:Hp}{R:V→V→Hp→Prop}(I:aU X pins σ H s)(h:ta σ H fun x H1=>tb σ H1 fun y H2=>R x y H2)
  {α:Type} {Q:α→Shared→Prop} {f:Value→Value→Sem α}
  (hf:∀v u s2 x y H2,aU X pins σ H2 s2→bh x v→bh y u→R x y H2→wpAny (model X.prog X.w) X.A (f v u) Q X.xe s2) :
  wpAny (model X.prog X.w) X.A (eval a X.env) (fun v s₁=>wpAny (model X.prog X.w) X.A (eval b X.env) (fun u s₂=>wpAny (model X.prog X.w) X.A (f v u) Q X.xe s₂) X.xe s₁) X.xe s:=by
 refine cL (ha pins s σ H _ I h) fun v s1 ⟨x,H1,I1,r1,q1⟩=>?_
 refine cL (hb pins s1 σ H1 _ I1 q1) fun u s2 ⟨y,H2,I2,r2,q2⟩=>?_
 exact hf v u s2 x y H2 I2 r1 r2 q2
def z8(i:Nat):TE:=fun σ H Q=>∃v,σ[i]?=some (some v)∧Q v H
def tC(v:V):TE:=fun _ H Q=>Q v H
theorem xY{i:Nat}{x:Str}{pos:Pos}(hN:X.N[i]?=some x)(hv:BO X.env.scope x)(hd:(x == ("__debug__":Str))=false:=by decide)(hcd:(x == ("__classdict__":Str))=false:=by decide):PE X (.Name x pos) (z8 i):=by
 intro pins s σ H Q I h
 obtain⟨v,e,h⟩:=h
 obtain⟨m,hn,hl⟩:=I.loc
 obtain⟨u,r,l⟩:=hl i x v hN e hv
 have fin:EP X pins σ Q u s:=⟨v,H,I,r,h⟩
 rcases l with⟨hk,hm⟩ | ⟨hk,c,hc,hcell⟩
 ·exact wpAny_Name (wpAny_loadName_local I.ok.kind hk hn hm fin) hd
 ·rcases hk with hk | hk
  ·exact wpAny_Name (wpAny_loadName_cell I.ok.kind hk hc hcell fin) hd
  ·exact wpAny_Name (wpAny_loadName_free I.ok.kind hk hc hcell fin hcd) hd
theorem ae{i j pos}:PE X (.Constant (.int i) j pos) (tC (.int i)):=fun _ _ _ H _ I h=>wpAny_Constant_int ⟨.int i,H,I.tok _,⟨_,rfl⟩,h⟩
theorem iR{b j pos}:PE X (.Constant (.bool b) j pos) (tC (.bl b)):=fun _ _ _ H _ I h=>Constant_bool ⟨.bl b,H,I,rfl,h⟩
theorem bc{j pos}:PE X (.Constant .none j pos) (tC .non):=fun _ _ _ H _ I h=>Constant_none ⟨.non,H,I,rfl,h⟩
theorem aZ{x j pos}:PE X (.Constant (.str x) j pos) (tC (.str x)):=fun _ _ _ H _ I h=>Calls.Constant_str ⟨.str x,H,I.tok _,⟨_,rfl⟩,h⟩
def Gl(X:Cx)(x:Str):Prop:=X.env.kindOf x=some .globalImplicit
theorem ma{E:Value→Shared→Prop}{pins:List (Addr×Obj)}{s:Shared}{σ:St}{H:Hp}{x:Str}{u:Value}{pos:Pos}{Q:Value→Shared→Prop}(I:aU X pins σ H s)(hg:Gl X x)(hm:X.mg x=some u)(h:Q u s)
  (hd:(x == ("__debug__":Str))=false:=by decide):wpAny (model X.prog X.w) X.A (eval (.Name x pos) X.env) Q E s:=
 Calls.Name_function_global I.ok.kind hg (Calls.loadGlobal_global (by rw [I.ok.glob];exact I.mod.glob.keeps I.bk) hm h) hd
theorem fq{E:Value→Shared→Prop}{pins:List (Addr×Obj)}{s:Shared}{σ:St}{H:Hp}{x:Str}{u:Value}{pos:Pos}{Q:Value→Shared→Prop}(I:aU X pins σ H s)(hg:Gl X x)(hm:X.mg x=none)(hv:bootBuiltins x=some u)(h:Q u s)
  (hn:x≠"__name__":=by decide) (hd:(x == ("__debug__":Str))=false:=by decide):wpAny (model X.prog X.w) X.A (eval (.Name x pos) X.env) Q E s:=by
 obtain⟨mb,h1,h2⟩:=I.mod.blt
 exact Calls.Name_function_global I.ok.kind hg (Calls.loadGlobal_builtin (by rw [I.ok.glob];exact I.mod.glob.keeps I.bk) hm (by rw [I.ok.blt];exact h1.keeps I.bk) ((h2 x hn).trans hv) h) hd
theorem zI{x:Str}{v:V}{u:Value}{pos:Pos}(hg:Gl X x)(hm:X.mg x=some u)(r:bh v u)(hd:(x == ("__debug__":Str))=false:=by decide):PE X (.Name x pos) (tC v):=
 fun _ _ _ H _ I h=>ma I hg hm ⟨v,H,I,r,h⟩ hd
theorem qA{x:Str}{v:V}{u:Value}{pos:Pos}(hg:Gl X x)(hm:X.mg x=none)(hv:bootBuiltins x=some u)(r:bh v u)(hn:x≠"__name__":=by decide)(hd:(x == ("__debug__":Str))=false:=by decide):PE X (.Name x pos) (tC v):=
 fun _ _ _ H _ I h=>fq I hg hm hv ⟨v,H,I,r,h⟩ hn hd
variable {a b:Expr} {ta tb:TE} {pos:Pos}
variable {tA tB':TT} {rest:List Expr}
def Br(t u:TT):TT:=fun σ H Q=>t σ H fun c H1=>if c=true then u σ H1 Q else Q false H1
def CV(t u:TT):TT:=fun σ H Q=>t σ H fun c H1=>if c=true then Q true H1 else u σ H1 Q
def Bv(t:TT):TT:=fun σ H Q=>t σ H fun c H1=>Q (!c) H1
theorem eD(ha:PT X a tA):PW X (.BoolOp .And [a] pos) tA:=by
 intro wh pins s σ H Q I h
 refine isTrue_and (cL (ha pins s σ H Q I h) fun c s1 e=>?_)
 cases c with
 | true=>exact isTrue_and_nil e
 | false=>exact e
theorem bW(ha:PT X a tA):PW X (.BoolOp .Or [a] pos) tA:=by
 intro wh pins s σ H Q I h
 refine isTrue_or (cL (ha pins s σ H Q I h) fun c s1 e=>?_)
 cases c with
 | false=>exact isTrue_or_nil e
 | true=>exact e
theorem fA(ha:PT X a tA)(hb:PW X (.BoolOp .And (b::rest) pos) tB'):PW X (.BoolOp .And (a::b::rest) pos) (Br tA tB'):=by
 intro wh pins s σ H Q I h
 refine isTrue_and (cL (ha pins s σ H _ I h) fun c s1 ⟨H1,I1,q1⟩=>?_)
 cases c with
 | true=>exact hb wh pins s1 σ H1 Q I1 q1
 | false=>exact⟨H1,I1,q1⟩
theorem cf(ha:PT X a tA)(hb:PW X (.BoolOp .Or (b::rest) pos) tB'):PW X (.BoolOp .Or (a::b::rest) pos) (CV tA tB'):=by
 intro wh pins s σ H Q I h
 refine isTrue_or (cL (ha pins s σ H _ I h) fun c s1 ⟨H1,I1,q1⟩=>?_)
 cases c with
 | true=>exact⟨H1,I1,q1⟩
 | false=>exact hb wh pins s1 σ H1 Q I1 q1
theorem b0(ha:PT X a tA):PT X (.UnaryOp .Not a pos) (Bv tA):=by
 intro pins s σ H Q I h
 exact isTrue_not (ha pins s σ H (fun c H1=>Q (!c) H1) I h)
def sC(ta tb:TE):TE:=fun σ H Q=>ta σ H fun x H1=>∃c,x=.bl c∧if c=true then tb σ H1 Q else Q (.bl false) H1
def yF(ta tb:TE):TE:=fun σ H Q=>ta σ H fun x H1=>∃c,x=.bl c∧if c=true then Q (.bl true) H1 else tb σ H1 Q
def Cs(ta:TE):TE:=fun σ H Q=>ta σ H fun x H1=>∃c,x=.bl c∧Q (.bl (!c)) H1
theorem fw{op}{t:TE}(h:PE X a t):PE X (.BoolOp op [a] pos) t:=fun pins s σ H Q I hw=>BoolOp_one (h pins s σ H Q I hw)
theorem gs(ha:PE X a ta)(hb:PE X (.BoolOp .And (b::rest) pos) tb):PE X (.BoolOp .And (a::b::rest) pos) (sC ta tb):=by
 intro pins s σ H Q I h
 refine BoolOp_and (cL (ha pins s σ H _ I h) fun v s1 ⟨x,H1,I1,r1,q1⟩=>?_)
 obtain⟨c,rfl,q1⟩:=q1
 cases r1
 refine wpAny_truthy_bool ?_
 cases c with
 | true=>exact hb pins s1 σ H1 Q I1 q1
 | false=>exact⟨.bl false,H1,I1,rfl,q1⟩
theorem xX(ha:PE X a ta)(hb:PE X (.BoolOp .Or (b::rest) pos) tb):PE X (.BoolOp .Or (a::b::rest) pos) (yF ta tb):=by
 intro pins s σ H Q I h
 refine BoolOp_or (cL (ha pins s σ H _ I h) fun v s1 ⟨x,H1,I1,r1,q1⟩=>?_)
 obtain⟨c,rfl,q1⟩:=q1
 cases r1
 refine wpAny_truthy_bool ?_
 cases c with
 | false=>exact hb pins s1 σ H1 Q I1 q1
 | true=>exact⟨.bl true,H1,I1,rfl,q1⟩
def CU(t:TT)(ta tb:TE):TE:=fun σ H Q=>t σ H fun c H1=>if c=true then ta σ H1 Q else tb σ H1 Q
theorem cG{c:Expr}(hc:PT X c tA)(ha:PE X a ta)(hb:PE X b tb):PE X (.IfExp c a b pos) (CU tA ta tb):=by
 intro pins s σ H Q I h
 refine wpAny_IfExp (cL (hc pins s σ H _ I h) fun d s1 ⟨H1,I1,q1⟩=>?_)
 cases d with
 | true=>exact ha pins s1 σ H1 Q I1 q1
 | false=>exact hb pins s1 σ H1 Q I1 q1
end
end L2
namespace L2
open PySem PySem.Spec PyProof.Rows
def aO(K:PySem.W.Frag)(H:Hp)(a:Addr)(xs:List V):Prop:=
 Rd H a (.lst xs)∨
  ∃(o:Obj) (its:Array Value) (n:Nat),K.lookup a=some o∧o.cls=.type "list"∧o.dict=none∧o.data=.seq its n∧its.size≤sizeLine∧aW xs its.toList
def cR(K:PySem.W.Frag)(H:Hp)(a:Addr)(xs:List V):Prop:=
 Rd H a (.tup xs)∨
  ∃(o:Obj) (its:Array Value) (n:Nat),K.lookup a=some o∧o.cls=.type "tuple"∧o.data=.seq its n∧its.size≤sizeLine∧aW xs its.toList
def CL:Value→Option V
 | .none=>some .non
 | .bool b=>some (.bl b)
 | .int i _=>some (.int i)
 | .str x _=>some (.str x)
 | .bytes b _=>some (.byt b)
 | .float b _=>some (.flt b)
 | .ref a=>some (.ref a)
 | .type n=>some (.ty n)
 | _=>none
theorem bh.abs{x:V}{u:Value}(r:bh x u):CL u=some x:=by
 cases x with
 | non=>cases r;rfl
 | bl _=>cases r;rfl
 | int _=>obtain⟨t,rfl⟩:=r;rfl
 | str _=>obtain⟨t,rfl⟩:=r;rfl
 | byt _=>obtain⟨t,rfl⟩:=r;rfl
 | flt _=>obtain⟨t,rfl⟩:=r;rfl
 | ref _=>cases r;rfl
 | ty _=>cases r;rfl
theorem bh.inj{x y:V}{u:Value}(r:bh x u)(q:bh y u):x=y:=Option.some.inj (r.abs.symm.trans q.abs)
theorem aW.inj:∀{xs ys:List V} {us:List Value},aW xs us→aW ys us→xs=ys
 | _,_,_,.nil,.nil=>rfl
 | _,_,_,.cons r t,.cons r' t'=>by rw [r.inj r',aW.inj t t']
section
variable {X:Cx} {pins:List (Addr×Obj)} {σ:St} {H:Hp} {s:Shared} {a:Addr} {xs ys:List V}
theorem aO.of{K:PySem.W.Frag}(h:H a=some (.lst xs)):aO K H a xs:=.inl (.inl h)
theorem cR.of{K:PySem.W.Frag}(h:H a=some (.tup xs)):cR K H a xs:=.inl (.inl h)
theorem aU.list(I:aU X pins σ H s)(h:aO X.K H a xs):∃its:List Value,aW xs its∧PlainL s.heap a its.toArray∧xs.length≤sizeLine:=by
 rcases h with h | ⟨o,its,n,hk,hc,hd,hs,hz,r⟩
 ·obtain⟨z,its,n,r,e⟩:=h.ok I.hok
  exact⟨its,r,⟨_,n,e,rfl,rfl,rfl⟩,z⟩
 ·refine⟨its.toList,r,⟨o,n,I.kIn a o hk,hc,hd,by simpa using hs⟩,?_⟩
  have e:=r.length
  simp only [Array.length_toList]at e
  omega
theorem aU.tuple(I:aU X pins σ H s)(h:cR X.K H a xs):∃its:List Value,aW xs its∧IsTup s.heap a its.toArray∧xs.length≤sizeLine:=by
 rcases h with h | ⟨o,its,n,hk,hc,hs,hz,r⟩
 ·obtain⟨z,its,r,p⟩:=h.ok I.hok
  exact⟨its,r,p,z⟩
 ·refine⟨its.toList,r,⟨o,I.kIn a o hk,hc,n,by simpa using hs⟩,?_⟩
  have e:=r.length
  simp only [Array.length_toList]at e
  omega
theorem aU.list_inj(I:aU X pins σ H s)(h:aO X.K H a xs)(h':aO X.K H a ys):xs=ys:=by
 obtain⟨its,r,⟨o,n,e,_,_,d⟩,_⟩:=I.list h
 obtain⟨its',r',⟨o',n',e',_,_,d'⟩,_⟩:=I.list h'
 rw [e]at e';cases e'
 rw [d]at d'
 injection d' with d1 _
 have:its=its':=by simpa using congrArg Array.toList d1
 subst this
 exact r.inj r'
theorem aU.tuple_inj(I:aU X pins σ H s)(h:cR X.K H a xs)(h':cR X.K H a ys):xs=ys:=by
 obtain⟨its,r,⟨o,e,_,n,d⟩,_⟩:=I.tuple h
 obtain⟨its',r',⟨o',e',_,n',d'⟩,_⟩:=I.tuple h'
 rw [e]at e';cases e'
 rw [d]at d'
 injection d' with d1 _
 have:its=its':=by simpa using congrArg Array.toList d1
 subst this
 exact r.inj r'
end
abbrev Cx.wish(X:Cx)(E:Value→Shared→Prop):Cx:={ X with xe:=E }
abbrev Cx.nox(X:Cx):Cx:=X.wish fun _ _=>False
theorem Cx.Ok.wish{X:Cx}(ok:X.Ok)(E:Value→Shared→Prop):(X.wish E).Ok:=
 ⟨ok.mod,ok.kind,ok.glob,ok.blt,ok.above,ok.inj,ok.has,ok.cab,ok.hd,ok.frames,ok.stk,ok.exf,ok.bs,ok.bsz,ok.noex,ok.exfs,ok.funs,ok.frf⟩
theorem Cx.Ok.unwish{X:Cx}{E:Value→Shared→Prop}(ok:(X.wish E).Ok):X.Ok:=
 ⟨ok.mod,ok.kind,ok.glob,ok.blt,ok.above,ok.inj,ok.has,ok.cab,ok.hd,ok.frames,ok.stk,ok.exf,ok.bs,ok.bsz,ok.noex,ok.exfs,ok.funs,ok.frf⟩
section
variable {X:Cx} {pins:List (Addr×Obj)} {σ:St} {H:Hp} {s:Shared} {E:Value→Shared→Prop}
theorem aU.wish(I:aU X pins σ H s)(E:Value→Shared→Prop):aU (X.wish E) pins σ H s:=⟨I.ok.wish E,I.os,I.bare,I.base,I.loc,I.cell,I.free,I.freeC,I.pin,I.hok,I.len⟩
theorem aU.unwish(I:aU (X.wish E) pins σ H s):aU X pins σ H s:=⟨I.ok.unwish,I.os,I.bare,I.base,I.loc,I.cell,I.free,I.freeC,I.pin,I.hok,I.len⟩
theorem SP.unwish{D:gU}{f:Flow}{s':Shared}(h:SP (X.wish E) pins D f s'):SP X pins D f s':=by
 cases f with
 | next=>obtain⟨σ',H',I,q⟩:=h;exact⟨σ',H',I.unwish,q⟩
 | brk=>obtain⟨σ',H',I,q⟩:=h;exact⟨σ',H',I.unwish,q⟩
 | cont=>obtain⟨σ',H',I,q⟩:=h;exact⟨σ',H',I.unwish,q⟩
 | ret u=>obtain⟨v,σ',H',I,r,q⟩:=h;exact⟨v,σ',H',I.unwish,r,q⟩
theorem PE.nox{e:Expr}{t:TE}(h:PE X.nox e t):PE X e t:=fun pins s σ H Q I hw=>
 wpAny_mono (h pins s σ H Q (I.wish _) hw) (fun _ _ ⟨v,H',I',r,q⟩=>⟨v,H',I'.unwish,r,q⟩) fun _ _ z=>False.elim z
theorem PT.nox{e:Expr}{t:TT}(h:PT X.nox e t):PT X e t:=fun pins s σ H Q I hw=>
 wpAny_mono (h pins s σ H Q (I.wish _) hw) (fun _ _ ⟨H',I',q⟩=>⟨H',I'.unwish,q⟩) fun _ _ z=>False.elim z
theorem uI.nox{st:List Stmt}{t:TS}(h:uI X.nox st t):uI X st t:=fun pins s σ H D I hw=>
 wpAny_mono (h pins s σ H D (I.wish _) hw) (fun _ _ q=>q.unwish) fun _ _ z=>False.elim z
end
section
variable {X:Cx} {st:Stmt} {rest:List Stmt} {t u:TS} {e:Expr} {te:TE} {pos:Pos}
def vb:TS:=fun D σ H=>D.nx σ H
def ki(t u:TS):TS:=fun D σ H=>t { D with nx:=u D } σ H
theorem aG:uI X [] vb:=fun _ _ σ H _ I h=>wpAny_execs_nil ⟨σ,H,I,h⟩
theorem af(h1:PS X st t)(h2:uI X rest u):uI X (st::rest) (ki t u):=by
 intro pins s σ H D I h
 refine wpAny_execs_cons (cL (h1 pins s σ H { D with nx:=u D } I h) fun f s1 q=>?_)
 cases f with
 | next=>
  obtain⟨σ',H',I',q⟩:=q
  exact h2 pins s1 σ' H' D I' q
 | ret v=>exact q
 | brk=>exact q
 | cont=>exact q
theorem ah(h1:PS X st t):uI X [st] t:=by
 intro pins s σ H D I h
 refine wpAny_execs_cons (cL (h1 pins s σ H D I h) fun f s1 q=>?_)
 cases f with
 | next=>exact wpAny_execs_nil q
 | ret v=>exact q
 | brk=>exact q
 | cont=>exact q
def ux:TS:=fun D σ H=>D.bk σ H
theorem ya:PS X (.Break pos) ux:=fun _ _ σ H _ I h=>wpAny_Break ⟨σ,H,I,h⟩
theorem aU.quiet{pins:List (Addr×Obj)}{σ:St}{H:Hp}{s:Shared}(I:aU X pins σ H s):interactive X.env=false:=by simp [interactive,I.ok.kind]
def yC(te:TE):TS:=fun D σ H=>te σ H fun _ H1=>D.nx σ H1
theorem cw(he:PE X e te)(hs:swapsWith e none pos.line X.env=pure false:=by rfl):PS X (.Expr e pos) (yC te):=by
 intro pins s σ H D I h
 exact wpAny_Expr_any (cL (he pins s σ H _ I h) fun v s1 ⟨x,H1,I1,r1,q1⟩=>⟨σ,H1,I1,q1⟩) I.quiet hs
def Bz(te:TE):TS:=fun D σ H=>te σ H D.rt
theorem ar(he:PE X e te):PS X (.Return (some e) pos) (Bz te):=by
 intro pins s σ H D I h
 exact wpAny_Return_some (cL (he pins s σ H _ I h) fun v s1 ⟨x,H1,I1,r1,q1⟩=>⟨x,σ,H1,I1,r1,q1⟩)
def AB:TS:=fun D _ H=>D.rt .non H
def yD(c:TT)(t u:TS):TS:=fun D σ H=>c σ H fun b H1=>if b=true then t D σ H1 else u D σ H1
theorem aV{c:Expr}{a b:List Stmt}{tc:TT}(hc:PT X c tc)(ha:uI X a t)(hb:uI X b u):PS X (.If c a b pos) (yD tc t u):=by
 intro pins s σ H D I h
 refine wpAny_If (cL (hc pins s σ H _ I h) fun d s1 ⟨H1,I1,q1⟩=>?_)
 cases d with
 | true=>exact ha pins s1 σ H1 D I1 q1
 | false=>exact hb pins s1 σ H1 D I1 q1
def Bu:TS:=fun _ _ _=>False
theorem jO:PS X st Bu:=fun _ _ _ _ _ _ h=>h.elim
end
abbrev TG:=V→St→Hp→(St→Hp→Prop)→Prop
abbrev yT:=List V→St→Hp→(St→Hp→Prop)→Prop
def PG(X:Cx)(target:Expr)(t:TG):Prop:=
 ∀(pins:List (Addr×Obj)) (s:Shared) (σ:St) (H:Hp) (v:V) (u:Value) (Q:St→Hp→Prop),aU X pins σ H s→bh v u→t v σ H Q→
  wpAny (model X.prog X.w) X.A (assign target X.env u) (fun _ s'=>∃σ' H',aU X pins σ' H' s'∧Q σ' H') X.xe s
def BJ(X:Cx)(ts:List Expr)(t:yT):Prop:=
 ∀(pins:List (Addr×Obj)) (s:Shared) (σ:St) (H:Hp) (vs:List V) (us:List Value) (Q:St→Hp→Prop),aU X pins σ H s→aW vs us→t vs σ H Q→
  wpAny (model X.prog X.w) X.A (assignInOrder ((assignEach ts X.env).map (·.2)) us) (fun _ s'=>∃σ' H',aU X pins σ' H' s'∧Q σ' H') X.xe s
abbrev AF:=V→V→V→Hp→(Hp→Prop)→Prop
def BK(X:Cx)(t:AF):Prop:=
 ∀(pins:List (Addr×Obj)) (s:Shared) (σ:St) (H:Hp) (o i v:V) (ov iv u:Value) (Q:Hp→Prop),aU X pins σ H s→bh o ov→bh i iv→bh v u→t o i v H Q→
  wpAny (model X.prog X.w) X.A (setItem ov iv u) (fun _ s'=>∃H',aU X pins σ H' s'∧Q H') X.xe s
abbrev BG:=V→V→Hp→VK→Prop
def PIp(X:Cx)(op:Operator)(t:BG):Prop:=
 ∀(pins:List (Addr×Obj)) (s:Shared) (σ:St) (H:Hp) (x y:V) (v u:Value) (Q:VK),aU X pins σ H s→bh x v→bh y u→t x y H Q→
  wpAny (model X.prog X.w) X.A (inplaceOp op v u) (EP X pins σ Q) X.xe s
section
variable {X:Cx} {pos:Pos}
def lG(i:Nat):TG:=fun v σ H Q=>Q (σ.set i (some v)) H
theorem aN{i:Nat}{x:Str}(hN:X.N.Nodup)(hi:X.N[i]?=some x)(hx:BF X.env.scope x)(hf:X.fn x=true∨X.env.scope.names.lookup x=some .local:=by first | exact .inl rfl | exact .inr rfl | assumption):PG X (.Name x pos) (lG i):=by
 intro pins s σ H v u Q I r h
 exact wpAny_assign_Name (nP I hN hi hx r (fun s' I'=>⟨_,H,I',h⟩) hf)
def BQ:yT:=fun vs σ H Q=>vs=[]∧Q σ H
def Al(t:TG)(u:yT):yT:=fun vs σ H Q=>∃v r,vs=v::r∧t v σ H fun σ' H'=>u r σ' H' Q
theorem c8:BJ X [] BQ:=by
 intro pins s σ H vs us Q I r h
 obtain⟨e,h⟩:=h
 subst e
 cases r
 exact assignInOrder_nil ⟨σ,H,I,h⟩
theorem br{e:Expr}{es:List Expr}{t:TG}{u:yT}(h1:PG X e t)(h2:BJ X es u)
  (hs:(assignEach (e::es) X.env).map (·.2)=assign e X.env::(assignEach es X.env).map (·.2):=by rfl):BJ X (e::es) (Al t u):=by
 intro pins s σ H vs us Q I r h
 obtain⟨v,vr,e1,h⟩:=h
 subst e1
 cases r with
 | cons r rr=>
  rw [hs]
  refine assignInOrder_cons (cL (h1 pins s σ H _ _ _ I r h) fun _ s1 ⟨σ1,H1,I1,q1⟩=>?_)
  exact h2 pins s1 σ1 H1 _ _ Q I1 rr q1
def AM(K:PySem.W.Frag)(n:Nat)(t:yT):TG:=fun v σ H Q=>∃a xs,v=.ref a∧cR K H a xs∧xs.length=n∧t xs σ H Q
theorem Ba{es:List Expr}{k:Nat}{t:yT}{n:Nat}(hc:X.calm=true)(h:BJ X es t)
  (hn:(assignEach es X.env).length=n:=by rfl) (hst:(assignEach es X.env).findIdx? (·.1)=none:=by rfl):PG X (.Tuple es k pos) (AM X.K n t):=by
 intro pins s σ H v u Q I r hw
 obtain⟨a,xs,e1,hq,hl,hw⟩:=hw
 subst e1
 cases r
 obtain⟨its,rv,ht,hz⟩:=I.tuple hq
 refine assign_Tuple_tuple (I.ok.hd hc) ht (by simp [hn,←hl,rv.length]) hst fun h' hx=>?_
 have I1:aU X pins σ H { s with heap:=h' }:=I.kept (t':=s.toks) fun b o e=>hx b o (Nat.ne_of_lt (Heap.lt_size e)) e
 exact h pins _ σ H xs _ Q I1 (by simpa using rv) hw
def BR(to ti:TE)(t:AF):TG:=fun v σ H Q=>to σ H fun o H1=>ti σ H1 fun i H2=>t o i v H2 fun H3=>Q σ H3
theorem xZ{o i:Expr}{to ti:TE}{t:AF}(ho:PE X o to)(hi:PE X i ti)(hs:BK X t)
  (ha:∀v,assign (.Subscript o i pos) X.env v=(do
   let ov ←holding [v] (eval o X.env)
   let iv ←holding [v,ov] (eval i X.env)
   standAt pos
   holding [v,ov,iv] (setItem ov iv v)
   release [v,ov,iv] []):=by intro _;rfl):PG X (.Subscript o i pos) (BR to ti t):=by
 intro pins s σ H v u Q I r h
 rw [ha]
 refine wpAny_bind (wpAny_holding (cL (ho pins s σ H _ I h) fun ov s1 ⟨x,H1,I1,r1,q1⟩=>?_))
 refine wpAny_bind (wpAny_holding (cL (hi pins s1 σ H1 _ I1 q1) fun iv s2 ⟨y,H2,I2,r2,q2⟩=>?_))
 refine wpAny_bind (wpAny_standAt (wpAny_bind (wpAny_holding (cL (hs pins s2 σ H2 x y v ov iv u _ I2 r1 r2 r q2) fun _ s3 ⟨H3,I3,q3⟩=>?_))))
 exact wpAny_release ⟨σ,H3,I3,q3⟩
def yx(te:TE)(g:TG):TS:=fun D σ H=>te σ H fun x H1=>g x σ H1 D.nx
theorem kM{tg e:Expr}{te:TE}{g:TG}(he:PE X e te)(hg:PG X tg g)(hs:swapsWithSole [tg] e pos.line X.env=pure false:=by rfl)(hw:swappedStores [tg] e X.env=pure none:=by rfl)
  (h1:(assignEach [tg] X.env).map (·.2)=[assign tg X.env]:=by rfl):PS X (.Assign [tg] e pos) (yx te g):=by
 intro pins s σ H D I h
 refine wpAny_Assign_stores (cL (he pins s σ H _ I h) fun v s1 ⟨x,H1,I1,r1,q1⟩=>?_) hs hw
 rw [h1]
 exact cL (hg pins s1 σ H1 x v _ I1 r1 q1) fun _ s2 q=>q
theorem aJ{i:Nat}{x:Str}{e:Expr}{te:TE}{pos':Pos}(hN:X.N.Nodup)(hi:X.N[i]?=some x)(hx:BF X.env.scope x)(he:PE X e te)(hs:swapsWith e (some (.Name x pos')) pos.line X.env=pure false:=by rfl)(hf:X.fn x=true∨X.env.scope.names.lookup x=some .local:=by first | exact .inl rfl | exact .inr rfl | assumption):
  PS X (.Assign [.Name x pos'] e pos) (yx te (lG i)):=by
 intro pins s σ H D I h
 refine wpAny_Assign_Name (cL (he pins s σ H _ I h) fun v s1 ⟨y,H1,I1,r1,q1⟩=>?_) hs
 exact nP I1 hN hi hx r1 (fun s2 I2=>⟨_,H1,I2,q1⟩) hf
def yy(i:Nat)(te:TE)(ti:BG):TS:=fun D σ H=>∃x,σ[i]?=some (some x)∧te σ H fun y H1=>ti x y H1 fun z H2=>D.nx (σ.set i (some z)) H2
theorem x9{i:Nat}{x:Str}{e:Expr}{te:TE}{op:Operator}{ti:BG}{pos':Pos}(hN:X.N.Nodup)(hi:X.N[i]?=some x)(hx:BF X.env.scope x)(he:PE X e te)(ho:PIp X op ti)(hf:X.fn x=true∨X.env.scope.names.lookup x=some .local:=by first | exact .inl rfl | exact .inr rfl | assumption):
  PS X (.AugAssign (.Name x pos') op e pos) (yy i te ti):=by
 intro pins s σ H D I h
 obtain⟨v,e1,h⟩:=h
 obtain⟨m,hn,hl⟩:=I.loc
 have vis:BO X.env.scope x:=by rcases hx with k | k;exact .inl k;exact .inr (.inl k)
 obtain⟨u,r,l⟩:=hl i x v hi e1 vis
 refine wpAny_AugAssign_Name ?_
 have go:wpAny (model X.prog X.w) X.A (eval e X.env) (fun w s₂=>wpAny (model X.prog X.w) X.A (inplaceOp op u w) (fun r s₃=>wpAny (model X.prog X.w) X.A (storeName X.env x r) (fun _=>SP X pins D .next) X.xe s₃) X.xe s₂) X.xe s:=by
  refine cL (he pins s σ H _ I h) fun w s1 ⟨y,H1,I1,r1,q1⟩=>?_
  refine cL (ho pins s1 σ H1 v y u w _ I1 r r1 q1) fun z s2 ⟨zv,H2,I2,r2,q2⟩=>?_
  exact nP I2 hN hi hx r2 (fun s3 I3=>⟨_,H2,I3,q2⟩) hf
 rcases l with⟨hk,hm⟩ | ⟨hk,c,hc,hcell⟩
 ·exact wpAny_loadName_local I.ok.kind hk hn hm go
 ·rcases hk with hk | hk
  ·exact wpAny_loadName_cell I.ok.kind hk hc hcell go
  ·rcases hx with k | k
   ·have:X.env.scope.names.lookup x=some .free:=hk
    rw [k]at this;cases this
   ·have:X.env.scope.names.lookup x=some .free:=hk
    rw [k]at this;cases this
end
section
variable {X:Cx} {pos:Pos}
def BA(c:TT)(tb:TS):TS:=fun D σ H=>∃W:Nat→St→Hp→Prop,(∃m,W m σ H)∧∀m σ H,W m σ H→
 c σ H fun b H1=>if b=true then ∃N:St→Hp→Prop,(∀σ' H',N σ' H'→∃m',m' < m∧W m' σ' H')∧tb { D with nx:=N,ct:=N,bk:=D.nx } σ H1 else D.nx σ H1
theorem yb{c:Expr}{body:List Stmt}{tc:TT}{tb:TS}(hp:PassesOwn (model X.prog X.w) X.A X.env X.xe)(hc:PT X c tc)(hb:uI X body tb):PS X (.While c body [] pos) (BA tc tb):=by
 intro pins s σ H D I h
 obtain⟨W,⟨m0,w0⟩,turn⟩:=h
 refine wpAny_While (codeAny_whileLoop (fun n s'=>∃σ' H',aU X pins σ' H' s'∧W n σ' H') ?_ m0 ⟨σ,H,I,w0⟩)
 rintro n s1 ⟨σ1,H1,I1,w1⟩
 refine wpAny_passesOwn hp (cL (hc pins s1 σ1 H1 _ I1 (turn n σ1 H1 w1)) fun b s2 ⟨H2,I2,q2⟩=>?_)
 cases b with
 | true=>
  obtain⟨N,hN,q2⟩:=q2
  rw [if_pos rfl]
  refine wpAny_passesOwn hp (cL (hb pins s2 σ1 H2 _ I2 q2) fun f s3 q3=>?_)
  cases f with
  | next=>
   obtain⟨σ3,H3,I3,n3⟩:=q3
   obtain⟨m',hm,w3⟩:=hN σ3 H3 n3
   exact⟨m',hm,σ3,H3,I3,w3⟩
  | cont=>
   obtain⟨σ3,H3,I3,n3⟩:=q3
   obtain⟨m',hm,w3⟩:=hN σ3 H3 n3
   exact⟨m',hm,σ3,H3,I3,w3⟩
  | brk=>exact q3
  | ret v=>exact q3
 | false=>
  rw [if_neg Bool.false_ne_true]
  exact wpAny_execs_nil ⟨σ1,H2,I2,q2⟩
end
structure It where
 go:Nat→Hp→Prop
 yld:Nat→Hp→V→Hp→Prop
 stop:Nat→Hp→Prop
def mB(X:Cx)(pins:List (Addr×Obj))(H:Hp)(b:Addr):Prop:=
 H b=none∧b≠X.env.locals∧b∉X.fs∧(b∈X.ex∨X.s₀.heap.objs.size≤b)∧(∀x c,X.env.cells.lookup x=some c→c≠b)∧∀p∈X.pn++pins,p.1≠b
theorem aU.fpOk{X:Cx}{pins:List (Addr×Obj)}{σ:St}{H H':Hp}{s:Shared}{b:Addr}(I:aU X pins σ H s)(hb:s.heap.objs.size≤b)(hn:H' b=none):mB X pins H' b:=by
 refine⟨hn,Nat.ne_of_gt (Nat.lt_of_lt_of_le I.lt hb),I.nofs hb,.inr (Nat.le_trans I.sz hb),fun x c e z=>?_,fun p hp z=>?_⟩
 ·obtain⟨v,q⟩:=I.cell x c e
  exact absurd (Nat.lt_of_lt_of_le q.lt (by rw [z];exact hb)) (Nat.lt_irrefl _)
 ·exact absurd (Nat.lt_of_lt_of_le (Heap.lt_size (I.pin p hp).1) (by rw [z];exact hb)) (Nat.lt_irrefl _)
structure sO(P:Program)(w:World)(K:PySem.W.Frag)(tg:Expr)(J:It)(fp:List Addr)(it:Addr)(tn:Nat→Heap→Prop):Prop where
 mem:it∈fp
 obj:∀i h,tn i h→∀b∈fp,∃o,h.get? b=some o∧∀v,o.data≠.cell v
 keep:∀i h h',tn i h→(∀b∈fp,∀o,h.get? b=some o→h'.get? b=some o)→tn i h'
 item:∀(X:Cx),X.prog=P→X.w=w→X.K=K→X.calm=true→∀(i:Nat) (pins:List (Addr×Obj)) (s:Shared) (σ:St) (H:Hp) (E:Value→Shared→Prop),aU X pins σ H s→(∀b∈fp,mB X pins H b)→tn i s.heap→J.go i H→
  wpAny (model P w) X.A (pyNext (.ref it)) (fun r s1=>∃u,r=some u∧
   wpAny (model P w) X.A (letOwnedTupleGo tg (.ref it) u) (fun _ s2=>∃x H',aU X pins σ H' s2∧bh x u∧J.yld i H x H'∧tn (i+1) s2.heap∧∀b∈fp,H' b=none) E s1) E s
 done:∀(X:Cx),X.prog=P→X.w=w→X.K=K→X.calm=true→∀(i:Nat) (pins:List (Addr×Obj)) (s:Shared) (σ:St) (H:Hp) (E:Value→Shared→Prop),aU X pins σ H s→(∀b∈fp,mB X pins H b)→tn i s.heap→J.stop i H→
  wpAny (model P w) X.A (pyNext (.ref it)) (fun r s1=>r=none∧aU X pins σ H s1) E s
 self:∀(A:Around) (i:Nat) (s:Shared) (Q:Value→Shared→Prop) (E:Value→Shared→Prop),tn i s.heap→Q (.ref it) s→wpAny (model P w) A (pyIter (.ref it)) Q E s
abbrev TI:=St→Hp→(It→Hp→Prop)→Prop
def CA(X:Cx)(pins:List (Addr×Obj))(σ:St)(tg:Expr)(R:It→Hp→Prop)(itv:Value)(s2:Shared):Prop:=
 ∃(it:Addr) (fp:List Addr) (tn:Nat→Heap→Prop) (J:It) (H':Hp),itv=.ref it∧aU X pins σ H' s2∧sO X.prog X.w X.K tg J fp it tn∧tn 0 s2.heap∧(∀b∈fp,mB X pins H' b)∧R J H'
def PI(X:Cx)(tg iter:Expr)(wi:TI):Prop:=
 ∀(pins:List (Addr×Obj)) (s:Shared) (σ:St) (H:Hp) (R:It→Hp→Prop),aU X pins σ H s→wi σ H R→
  wpAny (model X.prog X.w) X.A (eval iter X.env) (fun v s1=>wpAny (model X.prog X.w) X.A (pyIter v) (CA X pins σ tg R) X.xe s1) X.xe s
theorem uS{M:Model}{A:Around}{E:Value→Shared→Prop}{s:Shared}{tg:Expr}{it:Addr}{u:Value}{o:Obj}{n:String}{vs:Array Value}{Q:Unit→Shared→Prop}(ho:s.heap.get? it=some o)(hc:o.cls=.type n)(hd:o.data=.fields vs)
  (hn:["enumerate","zip","dict_itemiterator","dict_reverseitemiterator","odict_iterator","itertools.zip_longest","itertools.pairwise"].contains n=false) (hQ:Q () s):wpAny M A (letOwnedTupleGo tg (.ref it) u) Q E s:=by
 unfold letOwnedTupleGo
 cases tg<;>first
  | exact wpAny_pure hQ
  | (cases u<;>first | exact wpAny_pure hQ | (refine wpAny_bind (wpAny_load ho ?_);rw [hc,hd];show wpAny M A (if (["enumerate","zip","dict_itemiterator","dict_reverseitemiterator","odict_iterator","itertools.zip_longest","itertools.pairwise"].contains n && vs[0]? == some (rawInt _))=true then _ else _) Q E s;rw [if_neg (by intro h;rw [hn,Bool.false_and]at h;cases h)];exact wpAny_pure hQ))
def wA(K:PySem.W.Frag)(a:Addr):It:=
 ⟨fun i H=>∃xs x,aO K H a xs∧xs[i]?=some x,fun i H x H'=>H'=H∧∀xs,aO K H a xs→xs[i]?=some x,fun i H=>∃xs,aO K H a xs∧xs.length≤i⟩
def Ae(K:PySem.W.Frag)(a:Addr):It:=
 ⟨fun i H=>∃xs x,cR K H a xs∧xs[i]?=some x,fun i H x H'=>H'=H∧∀xs,cR K H a xs→xs[i]?=some x,fun i H=>∃xs,cR K H a xs∧xs.length≤i⟩
def yM(lo:Int)(n:Nat):It:=⟨fun i _=>i < n,fun i H x H'=>H'=H∧x=.int (lo+i),fun i _=>n≤i⟩
theorem wz{P:Program}{w:World}{K:PySem.W.Frag}{tg:Expr}(a it:Addr):sO P w K tg (wA K a) [it] it (fun i h=>h.IsListIter it a i) where
 mem:=by simp
 obj:=fun i h st b hb=>by
  have e:b=it:=by simpa using hb
  subst e
  obtain⟨o,e,c,d⟩:=st
  exact⟨o,e,fun v z=>by rw [d]at z;cases z⟩
 keep:=fun i h h' st k=>st.at fun o e=>k it (by simp) o e
 item:=by
  intro X hP hw hK hc i pins s σ H E I hf st hg
  subst hP hw hK
  obtain⟨xs,x,hq,hx⟩:=hg
  obtain⟨its,rv,p,hz⟩:=I.list hq
  obtain⟨u,hu,ru⟩:=rv.get hx
  obtain⟨f0,f1,f2,f3,f4,f5⟩:=hf it (by simp)
  refine wpAny_pyNext_list_item st p.isList (x:=u) (by simpa using hu) fun h' st' sb=>?_
  have I1:aU X pins σ H { s with heap:=h' }:=I.turned (t':=s.toks) (fun b o hb e=>(sb.2 b hb).trans e) f0 f1 f3 f4 f5
  obtain⟨o,e,c,d⟩:=id st'
  exact⟨u,rfl,uS (s:={ s with heap:=h' }) e c d (by decide) ⟨x,H,I1,ru,⟨rfl,fun ys hy=>by rw [I.list_inj hy hq];exact hx⟩,st',fun b hb=>(hf b hb).1⟩⟩
 done:=by
  intro X hP hw hK hc i pins s σ H E I hf st hg
  subst hP hw hK
  obtain⟨xs,hq,hx⟩:=hg
  obtain⟨its,rv,p,hz⟩:=I.list hq
  obtain⟨f0,f1,f2,f3,f4,f5⟩:=hf it (by simp)
  have hl:=rv.length
  exact wpAny_pyNext_list_end (I.ok.hd hc) st p.isList (by simp;omega) fun h' eb=>⟨rfl,I.turned (t':=s.toks) (fun b o hb e=>eb b o hb e) f0 f1 f3 f4 f5⟩
 self:=fun _ _ _ _ _ st h=>wpAny_pyIter_listiter st h
theorem uF{P:Program}{w:World}{K:PySem.W.Frag}{tg:Expr}(a it:Addr):sO P w K tg (Ae K a) [it] it (fun i h=>h.IsTupleIter it a i) where
 mem:=by simp
 obj:=fun i h st b hb=>by
  have e:b=it:=by simpa using hb
  subst e
  obtain⟨o,e,c,d⟩:=st
  exact⟨o,e,fun v z=>by rw [d]at z;cases z⟩
 keep:=fun i h h' st k=>st.at fun o e=>k it (by simp) o e
 item:=by
  intro X hP hw hK hc i pins s σ H E I hf st hg
  subst hP hw hK
  obtain⟨xs,x,hq,hx⟩:=hg
  obtain⟨its,rv,p,hz⟩:=I.tuple hq
  obtain⟨u,hu,ru⟩:=rv.get hx
  obtain⟨f0,f1,f2,f3,f4,f5⟩:=hf it (by simp)
  refine wpAny_pyNext_tuple_item st (show s.heap.IsTuple a its.toArray from p) (x:=u) (by simpa using hu) fun h' st' sb=>?_
  have I1:aU X pins σ H { s with heap:=h' }:=I.turned (t':=s.toks) (fun b o hb e=>(sb.2 b hb).trans e) f0 f1 f3 f4 f5
  obtain⟨o,e,c,d⟩:=id st'
  exact⟨u,rfl,uS (s:={ s with heap:=h' }) e c d (by decide) ⟨x,H,I1,ru,⟨rfl,fun ys hy=>by rw [I.tuple_inj hy hq];exact hx⟩,st',fun b hb=>(hf b hb).1⟩⟩
 done:=by
  intro X hP hw hK hc i pins s σ H E I hf st hg
  subst hP hw hK
  obtain⟨xs,hq,hx⟩:=hg
  obtain⟨its,rv,p,hz⟩:=I.tuple hq
  obtain⟨f0,f1,f2,f3,f4,f5⟩:=hf it (by simp)
  have hl:=rv.length
  exact wpAny_pyNext_tuple_end (I.ok.hd hc) st (show s.heap.IsTuple a its.toArray from p) (by simp;omega) fun h' eb=>⟨rfl,I.turned (t':=s.toks) (fun b o hb e=>eb b o hb e) f0 f1 f3 f4 f5⟩
 self:=fun _ _ _ _ _ st h=>wpAny_pyIter_tupleiter st h
theorem uE{P:Program}{w:World}{K:PySem.W.Frag}{tg:Expr}(it:Addr)(lo:Int)(n:Nat):sO P w K tg (yM lo n) [it] it (fun i h=>IsRangeIter h it (lo+(i:Nat) * 1) ((n:Int) - (i:Nat)) 1) where
 mem:=by simp
 obj:=fun i h st b hb=>by
  have e:b=it:=by simpa using hb
  subst e
  exact⟨_,st,fun v z=>by
   have z':Data.fields _=Data.cell v:=z
   cases z'⟩
 keep:=fun i h h' st k=>k it (by simp) _ st
 item:=by
  intro X hP hw hK hc i pins s σ H E I hf st hg
  subst hP hw hK
  obtain⟨f0,f1,f2,f3,f4,f5⟩:=hf it (by simp)
  have W:=Walks.range (prog:=X.prog) (w:=X.w) (I.ok.hd hc) it lo 1 n
  refine W.item i s _ _ hg st fun v h' tk hv st' kk=>?_
  obtain⟨t,rfl⟩:=hv
  have I1:aU X pins σ H { s with heap:=h',toks:=tk }:=I.turned (fun b o hb e=>kk b o (by simpa using hb) e) f0 f1 f3 f4 f5
  refine⟨_,rfl,uS (s:={ s with heap:=h',toks:=tk }) (n:="range_iterator") st' rfl rfl (by decide) ⟨.int (lo+i),H,I1,⟨t,?_⟩,⟨rfl,rfl⟩,st',fun b hb=>(hf b hb).1⟩⟩
  rw [Int.mul_one]
 done:=by
  intro X hP hw hK hc i pins s σ H E I hf st hg
  subst hP hw hK
  obtain⟨f0,f1,f2,f3,f4,f5⟩:=hf it (by simp)
  exact wpAny_pyNext_range_end (I.ok.hd hc) st (by have:n≤i:=hg;omega) fun h' eb=>⟨rfl,I.turned (t':=s.toks) (fun b o hb e=>eb b o hb e) f0 f1 f3 f4 f5⟩
 self:=fun _ _ _ _ _ st h=>wpAny_pyIter_rangeiter st h
end L2
namespace L2
open PySem PySem.Spec PyProof.Rows
section
variable {X:Cx} {tg:Expr}
theorem sg{pins:List (Addr×Obj)}{σ:St}{H:Hp}{s:Shared}{R:It→Hp→Prop}{E:Value→Shared→Prop}{lo hi:Int}{t u v:Tok}{tk:Nat}(I:aU X pins σ H s)(h1:-(2 ^ 62)≤lo)(h2:lo < 2 ^ 62)(h3:-(2 ^ 62)≤hi)(h4:hi < 2 ^ 62)
  (q:R (yM lo (hi - lo).toNat) H):wpAny (model X.prog X.w) X.A (pyIter (.ref s.heap.objs.size)) (CA X pins σ tg R) E { s with heap:=s.heap.push { cls:=.type "range",data:=.fields #[.int lo t,.int hi u,.int 1 v] },toks:=tk }:=by
 refine wpAny_pyIter_range (IsRange.new ..) (small_one h1 h2 h3 h4) ?_
 have I1:aU X pins σ H { s with heap:=s.heap.push { cls:=.type "range",data:=.fields #[.int lo t,.int hi u,.int 1 v] },toks:=tk }:=I.kept fun b o e=>Heap.get?_push_of_some _ e
 refine⟨(s.heap.push { cls:=.type "range",data:=.fields #[.int lo t,.int hi u,.int 1 v] }).objs.size,[(s.heap.push { cls:=.type "range",data:=.fields #[.int lo t,.int hi u,.int 1 v] }).objs.size],_,_,H,rfl,
  I1.kept (t':=tk) fun b o e=>Heap.get?_push_of_some _ e,uE _ lo (hi - lo).toNat,?_,fun b hb=>?_,q⟩
 ·have e1:lo+((0:Nat):Int) * 1=lo:=by simp
  have e2:(((hi - lo).toNat:Nat):Int) - ((0:Nat):Int)=Builtin.Range.rangeSize lo hi 1:=by rw [rangeSize_one];split<;>omega
  show IsRangeIter _ _ (lo+((0:Nat):Int) * 1) ((((hi - lo).toNat:Nat):Int) - ((0:Nat):Int)) 1
  rw [e1,e2]
  exact Heap.get?_push_size _ rfl
 ·have e:b=(s.heap.push { cls:=.type "range",data:=.fields #[.int lo t,.int hi u,.int 1 v] }).objs.size:=by simpa using hb
  subst e
  exact I1.fpOk (Nat.le_refl _) (I1.hok.fresh (Nat.le_refl _))
def Am(ta:TA):TI:=fun σ H R=>ta σ H fun vs H1=>∃j:Int,vs=[.int j]∧-(2 ^ 62)≤j∧j < 2 ^ 62∧R (yM 0 j.toNat) H1
def An(ta:TA):TI:=fun σ H R=>ta σ H fun vs H1=>∃i j:Int,vs=[.int i,.int j]∧(-(2 ^ 62)≤i∧i < 2 ^ 62∧-(2 ^ 62)≤j∧j < 2 ^ 62)∧R (yM i (j - i).toNat) H1
theorem dk{a:Expr}{ta:TA}{p pos:Pos}(hg:Gl X "range")(hm:X.mg "range"=none)(ha:PA X [a] ta)(hs:starEach [a] X.env=[(false,eval a X.env)]:=by rfl):PI X tg (.Call (.Name "range" p) [a] [] pos) (Am ta):=by
 intro pins s σ H R I h
 refine Call_ (fq I hg hm boot_range (PyProof.Rows.callWith_type1 (cL (ha pos pins s σ H _ I h) fun us s1 ⟨vs,H1,I1,r1,q1⟩=>?_) hs rfl))
 obtain⟨j,e,q1,q2,q⟩:=q1
 subst e
 cases r1 with
 | cons r rr=>
  cases rr
  obtain⟨t,rfl⟩:=r
  exact call_range_1 (sg I1 (by omega) (by omega) q1 q2 (by simpa using q))
theorem v9{a b:Expr}{ta:TA}{p pos:Pos}(hg:Gl X "range")(hm:X.mg "range"=none)(ha:PA X [a,b] ta)(hs:starEach [a,b] X.env=[(false,eval a X.env),(false,eval b X.env)]:=by rfl)(hs2:starEach [b] X.env=[(false,eval b X.env)]:=by rfl):
  PI X tg (.Call (.Name "range" p) [a,b] [] pos) (An ta):=by
 intro pins s σ H R I h
 refine Call_ (fq I hg hm boot_range (PyProof.Rows.callWith_type1 (cL (ha pos pins s σ H _ I h) fun us s1 ⟨vs,H1,I1,r1,q1⟩=>?_) (by rw [hs,hs2]) (by rw [hs2];rfl)))
 obtain⟨i,j,e,⟨q1,q2,q3,q4⟩,q⟩:=q1
 subst e
 cases r1 with
 | cons r rr=>
  cases rr with
  | cons r' rr=>
   cases rr
   obtain⟨t,rfl⟩:=r
   obtain⟨t',rfl⟩:=r'
   exact call_range_2 (sg I1 q1 q2 q3 q4 q)
def Cp(wi:TI)(g:TG)(tb:TS):TS:=fun D σ H=>wi σ H fun J H1=>∃W:Nat→Nat→St→Hp→Prop,(∃m,W 0 m σ H1)∧∀i m σ H,W i m σ H→
 (J.stop i H∧D.nx σ H)∨(J.go i H∧∃N:St→Hp→Prop,(∀σ' H',N σ' H'→∃m',m' < m∧W (i+1) m' σ' H')∧∀x H',J.yld i H x H'→g x σ H' fun σ2 H2=>tb { D with nx:=N,ct:=N,bk:=D.nx } σ2 H2)
def qB(fp:List Addr)(h:Heap):List (Addr×Obj):=fp.filterMap fun b=>(h.get? b).map fun o=>(b,o)
theorem d7{fp:List Addr}{h:Heap}{b:Addr}{o:Obj}(hb:b∈fp)(e:h.get? b=some o):(b,o)∈qB fp h:=List.mem_filterMap.mpr ⟨b,hb,by rw [e];rfl⟩
theorem vS{fp:List Addr}{h:Heap}{p:Addr×Obj}(hp:p∈qB fp h):p.1∈fp∧h.get? p.1=some p.2:=by
 obtain⟨b,hb,e⟩:=List.mem_filterMap.mp hp
 cases q:h.get? b with
 | none=>rw [q]at e;cases e
 | some o=>
  rw [q]at e
  have e':(b,o)=p:=Option.some.inj e
  subst e'
  exact⟨hb,q⟩
theorem aU.pinned{pins:List (Addr×Obj)}{σ:St}{H:Hp}{s:Shared}{fp:List Addr}(I:aU X pins σ H s)(hf:∀b∈fp,mB X pins H b)(ho:∀b∈fp,∃o,s.heap.get? b=some o∧∀v,o.data≠.cell v):aU X (pins++qB fp s.heap) σ H s:=
 I.pins_of fun p hp=>(List.mem_append.mp hp).elim (fun z=>I.pin p (List.mem_append_right _ z)) fun z=>by
  obtain⟨hb,e⟩:=vS z
  obtain⟨f0,f1,f2,_⟩:=hf p.1 hb
  obtain⟨o,e',d⟩:=ho p.1 hb
  rw [e]at e';cases e'
  exact⟨e,f0,f1,f2,d⟩
theorem aU.unpinned{pins pl:List (Addr×Obj)}{σ:St}{H:Hp}{s:Shared}(I:aU X (pins++pl) σ H s):aU X pins σ H s:=I.pins_of fun p hp=>I.pin p (List.mem_append_right _ (List.mem_append_left _ hp))
theorem cI{iter:Expr}{body:List Stmt}{wi:TI}{g:TG}{tb:TS}{pos:Pos}(hp:PassesOwn (model X.prog X.w) X.A X.env X.xe)(hc:X.calm=true)(hi:PI X tg iter wi)(hg:PG X tg g)(hb:uI X body tb)
  (hs:∀x,foldedSetIterable iter X.env x=pure x:=by intro _;rfl):PS X (.For tg iter body [] pos) (Cp wi g tb):=by
 intro pins s σ H D I h
 refine wpAny_For (cL (hi pins s σ H _ I h) fun v s1 h1=>cL h1 fun itv s2 h2=>?_) hs
 obtain⟨it,fp,tn,J,H2,e,I2,T,st2,f2,W,⟨m0,w0⟩,turn⟩:=h2
 subst e
 have stat:∀{H':Hp},(∀b∈fp,H' b=none)→∀b∈fp,mB X pins H' b:=fun hn b hb=>⟨hn b hb,(f2 b hb).2⟩
 refine codeAny_forLoop_any (fun n s'=>∃i σ' H',aU X pins σ' H' s'∧tn i s'.heap∧(∀b∈fp,H' b=none)∧W i n σ' H') ?_ m0 ⟨0,σ,H2,I2,st2,fun b hb=>(f2 b hb).1,w0⟩
 rintro n s3 ⟨i,σ3,H3,I3,st3,fr3,w3⟩
 rcases turn i n σ3 H3 w3 with⟨stop,qn⟩ | ⟨go,N,hN,step⟩
 ·refine wpAny_passesOwn hp (cL (T.done X rfl rfl rfl hc i pins s3 σ3 H3 X.xe I3 (stat fr3) st3 stop) fun r s4 ⟨hr,I4⟩=>?_)
  subst hr
  exact wpAny_execs_nil ⟨σ3,H3,I4,qn⟩
 ·refine wpAny_passesOwn hp (cL (T.item X rfl rfl rfl hc i pins s3 σ3 H3 X.xe I3 (stat fr3) st3 go) fun r s4 ⟨u,hr,h4⟩=>?_)
  subst hr
  refine wpAny_passesOwn hp (cL h4 fun _ s5 ⟨x,H5,I5,r5,y5,st5,fr5⟩=>?_)
  have I5':=I5.pinned (stat fr5) (T.obj _ _ st5)
  refine wpAny_passesOwn hp (cL (hg _ s5 σ3 H5 x u _ I5' r5 (step x H5 y5)) fun _ s6 ⟨σ6,H6,I6,q6⟩=>?_)
  refine wpAny_passesOwn hp (cL (hb _ s6 σ6 H6 _ I6 q6) fun f s7 q7=>?_)
  have again:∀{σ7:St} {H7:Hp},aU X (pins++qB fp s5.heap) σ7 H7 s7→N σ7 H7→∃m,m < n∧∃i σ' H',aU X pins σ' H' s7∧tn i s7.heap∧(∀b∈fp,H' b=none)∧W i m σ' H':=fun {σ7 H7} I7 n7=>by
   obtain⟨m',hm,w7⟩:=hN σ7 H7 n7
   refine⟨m',hm,i+1,σ7,H7,I7.unpinned,T.keep _ _ _ st5 fun b hb o e=>(I7.pin (b,o) (List.mem_append_right _ (List.mem_append_right _ (d7 hb e)))).1,fun b hb=>?_,w7⟩
   obtain⟨o,e,d⟩:=T.obj _ _ st5 b hb
   exact(I7.pin (b,o) (List.mem_append_right _ (List.mem_append_right _ (d7 hb e)))).2.1
  cases f with
  | next=>obtain⟨σ7,H7,I7,n7⟩:=q7;exact again I7 n7
  | cont=>obtain⟨σ7,H7,I7,n7⟩:=q7;exact again I7 n7
  | brk=>obtain⟨σ7,H7,I7,q7⟩:=q7;exact⟨σ7,H7,I7.unpinned,q7⟩
  | ret v=>obtain⟨x7,σ7,H7,I7,r7,q7⟩:=q7;exact⟨x7,σ7,H7,I7.unpinned,r7,q7⟩
end
theorem xh{K:PySem.W.Frag}{a:Addr}{xs:List V}{g:TG}{tb:TS}{D:gU}{σ:St}{H:Hp}(Pv:Nat→St→Hp→Prop)(h0:Pv 0 σ H)(hl:∀i σ H,i≤xs.length→Pv i σ H→aO K H a xs)
  (hs:∀i x σ H,xs[i]?=some x→Pv i σ H→g x σ H fun σ2 H2=>tb { D with nx:=Pv (i+1),ct:=Pv (i+1),bk:=D.nx } σ2 H2) (hd:∀σ H,Pv xs.length σ H→D.nx σ H) :
  ∃W:Nat→Nat→St→Hp→Prop,(∃m,W 0 m σ H)∧∀i m σ H,W i m σ H→
   ((wA K a).stop i H∧D.nx σ H)∨((wA K a).go i H∧∃N:St→Hp→Prop,(∀σ' H',N σ' H'→∃m',m' < m∧W (i+1) m' σ' H')∧∀x H',(wA K a).yld i H x H'→g x σ H' fun σ2 H2=>tb { D with nx:=N,ct:=N,bk:=D.nx } σ2 H2):=by
 refine⟨fun i m σ H=>m=xs.length - i∧i≤xs.length∧Pv i σ H,⟨xs.length,by simp,Nat.zero_le _,h0⟩,?_⟩
 rintro i m σ H ⟨rfl,hi,p⟩
 have q:=hl i σ H hi p
 by_cases hlt:i < xs.length
 ·refine .inr ⟨⟨xs,xs[i],q,by simp [hlt]⟩,Pv (i+1),fun σ' H' p'=>⟨xs.length - (i+1),by omega,rfl,hlt,p'⟩,fun x H' y=>?_⟩
  obtain⟨e,y⟩:=y
  subst e
  exact hs i x σ _ (y xs q) p
 ·have e:i=xs.length:=by omega
  subst e
  exact .inl ⟨⟨xs,q,Nat.le_refl _⟩,hd σ H p⟩
theorem y9{K:PySem.W.Frag}{a:Addr}{xs:List V}{g:TG}{tb:TS}{D:gU}{σ:St}{H:Hp}(Pv:Nat→St→Hp→Prop)(h0:Pv 0 σ H)(hl:∀i σ H,i≤xs.length→Pv i σ H→cR K H a xs)
  (hs:∀i x σ H,xs[i]?=some x→Pv i σ H→g x σ H fun σ2 H2=>tb { D with nx:=Pv (i+1),ct:=Pv (i+1),bk:=D.nx } σ2 H2) (hd:∀σ H,Pv xs.length σ H→D.nx σ H) :
  ∃W:Nat→Nat→St→Hp→Prop,(∃m,W 0 m σ H)∧∀i m σ H,W i m σ H→
   ((Ae K a).stop i H∧D.nx σ H)∨((Ae K a).go i H∧∃N:St→Hp→Prop,(∀σ' H',N σ' H'→∃m',m' < m∧W (i+1) m' σ' H')∧∀x H',(Ae K a).yld i H x H'→g x σ H' fun σ2 H2=>tb { D with nx:=N,ct:=N,bk:=D.nx } σ2 H2):=by
 refine⟨fun i m σ H=>m=xs.length - i∧i≤xs.length∧Pv i σ H,⟨xs.length,by simp,Nat.zero_le _,h0⟩,?_⟩
 rintro i m σ H ⟨rfl,hi,p⟩
 have q:=hl i σ H hi p
 by_cases hlt:i < xs.length
 ·refine .inr ⟨⟨xs,xs[i],q,by simp [hlt]⟩,Pv (i+1),fun σ' H' p'=>⟨xs.length - (i+1),by omega,rfl,hlt,p'⟩,fun x H' y=>?_⟩
  obtain⟨e,y⟩:=y
  subst e
  exact hs i x σ _ (y xs q) p
 ·have e:i=xs.length:=by omega
  subst e
  exact .inl ⟨⟨xs,q,Nat.le_refl _⟩,hd σ H p⟩
theorem vF{lo:Int}{n:Nat}{g:TG}{tb:TS}{D:gU}{σ:St}{H:Hp}(Pv:Nat→St→Hp→Prop)(h0:Pv 0 σ H)
  (hs:∀i σ H,i < n→Pv i σ H→g (.int (lo+i)) σ H fun σ2 H2=>tb { D with nx:=Pv (i+1),ct:=Pv (i+1),bk:=D.nx } σ2 H2) (hd:∀σ H,Pv n σ H→D.nx σ H) :
  ∃W:Nat→Nat→St→Hp→Prop,(∃m,W 0 m σ H)∧∀i m σ H,W i m σ H→
   ((yM lo n).stop i H∧D.nx σ H)∨((yM lo n).go i H∧∃N:St→Hp→Prop,(∀σ' H',N σ' H'→∃m',m' < m∧W (i+1) m' σ' H')∧∀x H',(yM lo n).yld i H x H'→g x σ H' fun σ2 H2=>tb { D with nx:=N,ct:=N,bk:=D.nx } σ2 H2):=by
 refine⟨fun i m σ H=>m=n - i∧i≤n∧Pv i σ H,⟨n,by simp,Nat.zero_le _,h0⟩,?_⟩
 rintro i m σ H ⟨rfl,hi,p⟩
 by_cases hlt:i < n
 ·refine .inr ⟨hlt,Pv (i+1),fun σ' H' p'=>⟨n - (i+1),by omega,rfl,hlt,p'⟩,fun x H' y=>?_⟩
  obtain⟨e,y⟩:=y
  subst e y
  exact hs i σ _ hlt p
 ·have e:i=n:=by omega
  subst e
  exact .inl ⟨Nat.le_refl _,hd σ H p⟩
end L2
namespace L2
open PySem PySem.Spec PyProof.Rows
abbrev R2:=V→V→Hp→VK→Prop
def dw(X:Cx)(f:Value→Value→Sem Value)(r:R2):Prop:=
 ∀(pins:List (Addr×Obj)) (s:Shared) (σ:St) (H:Hp) (x y:V) (v u:Value) (Q:VK),aU X pins σ H s→bh x v→bh y u→r x y H Q→
  wpAny (model X.prog X.w) X.A (f v u) (EP X pins σ Q) X.xe s
def BN(X:Cx)(f:Value→Sem Value)(r:V→Hp→VK→Prop):Prop:=
 ∀(pins:List (Addr×Obj)) (s:Shared) (σ:St) (H:Hp) (x:V) (v:Value) (Q:VK),aU X pins σ H s→bh x v→r x H Q→
  wpAny (model X.prog X.w) X.A (f v) (EP X pins σ Q) X.xe s
def cJ(X:Cx)(f:Value)(r:List V→Hp→VK→Prop):Prop:=
 ∀(pins:List (Addr×Obj)) (s:Shared) (σ:St) (H:Hp) (xs:List V) (us:List Value) (Q:VK),aU X pins σ H s→aW xs us→r xs H Q→
  wpAny (model X.prog X.w) X.A (call f us) (EP X pins σ Q) X.xe s
def CK(X:Cx)(r:V→Hp→(Bool→Hp→Prop)→Prop):Prop:=
 ∀(pins:List (Addr×Obj)) (s:Shared) (σ:St) (H:Hp) (x:V) (v:Value) (Q:Bool→Hp→Prop),aU X pins σ H s→bh x v→r x H Q→
  wpAny (model X.prog X.w) X.A (truthy v) (TP X pins σ Q) X.xe s
def Bw(r:R2)(ta tb:TE):TE:=fun σ H Q=>ta σ H fun x H1=>tb σ H1 fun y H2=>r x y H2 Q
def CZ(r:V→Hp→VK→Prop)(ta:TE):TE:=fun σ H Q=>ta σ H fun x H1=>r x H1 Q
def rI(C:Int→Int→Prop)(g:Int→Int→V):R2:=fun x y H Q=>∃i j,x=.int i∧y=.int j∧C i j∧Q (g i j) H
def tS(g:Int→Int→V):R2:=fun x y H Q=>∃i j,x=.int i∧y=.int j∧Q (g i j) H
def rU(g:Int→V):V→Hp→VK→Prop:=fun x H Q=>∃i,x=.int i∧Q (g i) H
section
variable {X:Cx} {a b c:Expr} {ta tb tc:TE} {pos:Pos}
theorem yX(ha:PE X a ta)(hb:PE X b tb){pins:List (Addr×Obj)}{s:Shared}{σ:St}{H:Hp}{R:V→V→Hp→Prop}(I:aU X pins σ H s)
  (h:ta σ H fun x H1=>tb σ H1 fun y H2=>R x y H2) {Q:Value→Shared→Prop} {f:Value→Value→Sem Value}
  (hf:∀v u s2 x y H2,aU X pins σ H2 s2→bh x v→bh y u→R x y H2→wpAny (model X.prog X.w) X.A (f v u) Q X.xe s2) :
  wpAny (model X.prog X.w) X.A (eval a X.env) (fun v s₁=>wpAny (model X.prog X.w) X.A (eval b X.env) (fun u s₂=>wpAny (model X.prog X.w) X.A (f v u) Q X.xe s₂) X.xe s₁) X.xe s:=by
 refine cL (ha pins s σ H _ I h) fun v s1 ⟨x,H1,I1,r1,q1⟩=>?_
 refine cL (hb pins s1 σ H1 _ I1 q1) fun u s2 ⟨y,H2,I2,r2,q2⟩=>?_
 exact hf v u s2 x y H2 I2 r1 r2 q2
theorem aq{op:Operator}{r:R2}(ho:dw X (binaryOp op) r)(ha:PE X a ta)(hb:PE X b tb):PE X (.BinOp a op b pos) (Bw r ta tb):=by
 intro pins s σ H Q I h
 exact wpAny_BinOp (yX ha hb I h fun v u s2 x y H2 I2 rx ry q=>ho pins s2 σ H2 x y v u Q I2 rx ry q)
theorem pF{op:UnaryOp}{r:V→Hp→VK→Prop}(ho:BN X (unaryOp op) r)(ha:PE X a ta):PE X (.UnaryOp op a pos) (CZ r ta):=by
 intro pins s σ H Q I h
 exact UnaryOp_ (cL (ha pins s σ H _ I h) fun v s1 ⟨x,H1,I1,r1,q1⟩=>ho pins s1 σ H1 x v Q I1 r1 q1)
theorem B8{f:Value→Value→Sem Value}{C:Int→Int→Prop}{g:Int→Int→Int}
  (rule:∀(i j:Int) (t u:Tok) (s:Shared) (Q:Value→Shared→Prop) (E:Value→Shared→Prop),C i j→Q (.int (g i j) s.toks) { s with toks:=s.toks+1 }→wpAny (model X.prog X.w) X.A (f (.int i t) (.int j u)) Q E s) :
  dw X f (rI C fun i j=>.int (g i j)):=by
 intro pins s σ H x y v u Q I rx ry h
 obtain⟨i,j,rfl,rfl,hc,q⟩:=h
 obtain⟨t,rfl⟩:=rx
 obtain⟨t',rfl⟩:=ry
 exact rule i j t t' s _ _ hc ⟨.int (g i j),H,I.tok _,⟨_,rfl⟩,q⟩
theorem B9{f:Value→Value→Sem Value}{g:Int→Int→Int}
  (rule:∀(i j:Int) (t u:Tok) (s:Shared) (Q:Value→Shared→Prop) (E:Value→Shared→Prop),Q (.int (g i j) s.toks) { s with toks:=s.toks+1 }→wpAny (model X.prog X.w) X.A (f (.int i t) (.int j u)) Q E s) :
  dw X f (tS fun i j=>.int (g i j)):=by
 intro pins s σ H x y v u Q I rx ry h
 obtain⟨i,j,rfl,rfl,q⟩:=h
 obtain⟨t,rfl⟩:=rx
 obtain⟨t',rfl⟩:=ry
 exact rule i j t t' s _ _ ⟨.int (g i j),H,I.tok _,⟨_,rfl⟩,q⟩
theorem zB{f:Value→Value→Sem Value}{g:Int→Int→Bool}
  (rule:∀(i j:Int) (t u:Tok) (s:Shared) (Q:Value→Shared→Prop) (E:Value→Shared→Prop),Q (.bool (g i j)) s→wpAny (model X.prog X.w) X.A (f (.int i t) (.int j u)) Q E s) :
  dw X f (tS fun i j=>.bl (g i j)):=by
 intro pins s σ H x y v u Q I rx ry h
 obtain⟨i,j,rfl,rfl,q⟩:=h
 obtain⟨t,rfl⟩:=rx
 obtain⟨t',rfl⟩:=ry
 exact rule i j t t' s _ _ ⟨.bl (g i j),H,I,rfl,q⟩
def BH(i j:Int):Prop:=0 < j∧j < 1073741824
def CG(i j:Int):Prop:=0≤j∧j≤1000000∧i.natAbs < 2 ^ 64
def AD(i j:Int):Prop:=(-(2 ^ 64) < i∧i < 2 ^ 64)∨(-(2 ^ 64) < j∧j < 2 ^ 64)
theorem AD.ok{i j:Int}(h:AD i j):IntMulOk i j:=by
 rcases h with⟨h1,h2⟩ | ⟨h1,h2⟩
 ·exact .of_left (intBits_le_64 h1 h2)
 ·exact .of_right (intBits_le_64 h1 h2)
theorem op_add:dw X (binaryOp .Add) (tS fun i j=>.int (i+j)):=B9 fun _ _ _ _ _ _ _ q=>add_int q
theorem bI:dw X (binaryOp .Sub) (tS fun i j=>.int (i - j)):=B9 fun _ _ _ _ _ _ _ q=>sub_int q
theorem bK:dw X (binaryOp .FloorDiv) (rI BH fun i j=>.int (i / j)):=B8 fun i j _ _ _ _ _ hc q=>by
 have h1:(0:Int) < j:=hc.1
 have h2:j < 1073741824:=hc.2
 exact floordiv_int (by omega) (by rw [Int.fdiv_eq_ediv_of_nonneg i (by omega)];exact q) (.inl (PyProof.noPylong_small (by omega)))
theorem bC:dw X (binaryOp .Mod) (rI (fun _ j=>0 < j) fun i j=>.int (i % j)):=B8 fun i j _ _ _ _ _ hc q=>by
 have h1:(0:Int) < j:=hc
 exact mod_int' (by omega) (by rw [Int.fmod_eq_emod_of_nonneg i (by omega)];exact q)
theorem tO:dw X (binaryOp .Pow) (rI CG fun i j=>.int (i ^ j.toNat)):=B8 fun _ _ _ _ _ _ _ hc q=>pow_int_small hc.1 hc.2.1 hc.2.2 q
theorem uT:dw X (inplaceOp .Mult) (rI AD fun i j=>.int (i * j)):=B8 fun _ _ _ _ _ _ _ hc q=>imul_int q hc.ok
theorem unI{f:Value→Sem Value}{g:Int→Int}
  (rule:∀(i:Int) (t:Tok) (s:Shared) (Q:Value→Shared→Prop) (E:Value→Shared→Prop),Q (.int (g i) s.toks) { s with toks:=s.toks+1 }→wpAny (model X.prog X.w) X.A (f (.int i t)) Q E s) :
  BN X f (rU fun i=>.int (g i)):=by
 intro pins s σ H x v Q I rx h
 obtain⟨i,rfl,q⟩:=h
 obtain⟨t,rfl⟩:=rx
 exact rule i t s _ _ ⟨.int (g i),H,I.tok _,⟨_,rfl⟩,q⟩
theorem lu:BN X (unaryOp .USub) (rU fun i=>.int (-i)):=unI fun _ _ _ _ _ q=>neg_int q
end
def wg:V→V→Bool
 | .non,.non=>true | .non,.int _=>true | .int _,.non=>true | .non,.bl _=>true | .bl _,.non=>true | .non,.str _=>true | .str _,.non=>true
 | .int _,.int _=>true | .bl _,.bl _=>true | .str _,.str _=>true | .byt _,.byt _=>true
 | .int _,.str _=>true | .str _,.int _=>true | .bl _,.str _=>true | .str _,.bl _=>true
 | _,_=>false
def sJ:R2:=fun x y H Q=>wg x y=true∧Q (.bl (decide (x=y))) H
def sL:R2:=fun x y H Q=>wg x y=true∧Q (.bl (!decide (x=y))) H
theorem uQ{i j:Int}:decide (V.int i=V.int j)=(i == j):=by
 rw [Bool.eq_iff_iff]
 simp
theorem wU{i j:Bool}:decide (V.bl i=V.bl j)=(i == j):=by
 rw [Bool.eq_iff_iff]
 simp
theorem uR{i j:Str}:decide (V.str i=V.str j)=(i == j):=by
 rw [Bool.eq_iff_iff]
 simp
theorem uP{i j:Array UInt8}:decide (V.byt i=V.byt j)=(i.toList == j.toList):=by
 rw [Bool.eq_iff_iff]
 cases i
 cases j
 simp
section
variable {X:Cx} {a b c:Expr} {ta tb tc:TE} {pos:Pos}
theorem bH{pins:List (Addr×Obj)}{σ:St}{H:Hp}{s:Shared}{Q:VK}{k k':Bool}(I:aU X pins σ H s)(q:Q (.bl k) H)(e:k=k'):EP X pins σ Q (.bool k') s:=by
 subst e
 exact⟨.bl k,H,I,rfl,q⟩
theorem Cc:dw X (compareOp .Eq) sJ:=by
 intro pins s σ H x y v u Q I rx ry h
 obtain⟨hs,q⟩:=h
 cases x with
 | non=>
  cases rx
  cases y with
  | non=>cases ry;exact PySem.EqNone.eq_none_none (bH I q (by simp))
  | bl j=>cases ry;exact PySem.EqNone.eq_none_bool (bH I q (by simp))
  | int j=>obtain⟨t',rfl⟩:=ry;exact PySem.EqNone.eq_none_int (bH I q (by simp))
  | str j=>obtain⟨t',rfl⟩:=ry;exact PySem.EqNone.eq_none_str (bH I q (by simp))
  | _=>exact absurd (show false=true from hs) Bool.false_ne_true
 | bl i=>
  cases rx
  cases y with
  | non=>cases ry;exact PySem.EqNone.eq_bool_none (bH I q (by simp))
  | bl j=>cases ry;exact eq_bool (bH I q wU)
  | str j=>obtain⟨t',rfl⟩:=ry;exact PySem.EqMixed.eq_bool_str (bH I q (by simp))
  | _=>exact absurd (show false=true from hs) Bool.false_ne_true
 | int i=>
  obtain⟨t,rfl⟩:=rx
  cases y with
  | non=>cases ry;exact PySem.EqNone.eq_int_none (bH I q (by simp))
  | int j=>obtain⟨t',rfl⟩:=ry;exact eq_int (bH I q uQ)
  | str j=>obtain⟨t',rfl⟩:=ry;exact PySem.EqMixed.eq_int_str (bH I q (by simp))
  | _=>exact absurd (show false=true from hs) Bool.false_ne_true
 | str i=>
  obtain⟨t,rfl⟩:=rx
  cases y with
  | non=>cases ry;exact PySem.EqNone.eq_str_none (bH I q (by simp))
  | bl j=>cases ry;exact PySem.EqMixed.eq_str_bool (bH I q (by simp))
  | int j=>obtain⟨t',rfl⟩:=ry;exact PySem.EqMixed.eq_str_int (bH I q (by simp))
  | str j=>obtain⟨t',rfl⟩:=ry;exact eq_str (bH I q uR)
  | _=>exact absurd (show false=true from hs) Bool.false_ne_true
 | byt i=>
  obtain⟨t,rfl⟩:=rx
  cases y with
  | byt j=>obtain⟨t',rfl⟩:=ry;exact PySem.W.eq_bytes (bH I q uP)
  | _=>exact absurd (show false=true from hs) Bool.false_ne_true
 | _=>cases y<;>exact absurd (show false=true from hs) Bool.false_ne_true
theorem Ce:dw X (compareOp .NotEq) sL:=by
 intro pins s σ H x y v u Q I rx ry h
 obtain⟨hs,q⟩:=h
 cases x with
 | non=>
  cases rx
  cases y with
  | non=>cases ry;exact PySem.EqNone.ne_none_none (bH I q (by simp))
  | bl j=>cases ry;exact PySem.EqNone.ne_none_bool (bH I q (by simp))
  | int j=>obtain⟨t',rfl⟩:=ry;exact PySem.EqNone.ne_none_int (bH I q (by simp))
  | str j=>obtain⟨t',rfl⟩:=ry;exact PySem.EqNone.ne_none_str (bH I q (by simp))
  | _=>exact absurd (show false=true from hs) Bool.false_ne_true
 | bl i=>
  cases rx
  cases y with
  | non=>cases ry;exact PySem.EqNone.ne_bool_none (bH I q (by simp))
  | bl j=>cases ry;exact ne_bool (bH I q (congrArg not wU))
  | str j=>obtain⟨t',rfl⟩:=ry;exact PySem.EqMixed.ne_bool_str (bH I q (by simp))
  | _=>exact absurd (show false=true from hs) Bool.false_ne_true
 | int i=>
  obtain⟨t,rfl⟩:=rx
  cases y with
  | non=>cases ry;exact PySem.EqNone.ne_int_none (bH I q (by simp))
  | int j=>obtain⟨t',rfl⟩:=ry;exact ne_int (bH I q (congrArg not uQ))
  | str j=>obtain⟨t',rfl⟩:=ry;exact PySem.EqMixed.ne_int_str (bH I q (by simp))
  | _=>exact absurd (show false=true from hs) Bool.false_ne_true
 | str i=>
  obtain⟨t,rfl⟩:=rx
  cases y with
  | non=>cases ry;exact PySem.EqNone.ne_str_none (bH I q (by simp))
  | bl j=>cases ry;exact PySem.EqMixed.ne_str_bool (bH I q (by simp))
  | int j=>obtain⟨t',rfl⟩:=ry;exact PySem.EqMixed.ne_str_int (bH I q (by simp))
  | str j=>obtain⟨t',rfl⟩:=ry;exact ne_str (bH I q (congrArg not uR))
  | _=>exact absurd (show false=true from hs) Bool.false_ne_true
 | byt i=>
  obtain⟨t,rfl⟩:=rx
  cases y with
  | byt j=>obtain⟨t',rfl⟩:=ry;exact PySem.W.ne_bytes (bH I q (congrArg not uP))
  | _=>exact absurd (show false=true from hs) Bool.false_ne_true
 | _=>cases y<;>exact absurd (show false=true from hs) Bool.false_ne_true
theorem Cd:dw X (compareOp .Lt) (tS fun i j=>.bl (decide (i < j))):=zB fun _ _ _ _ _ _ _ q=>lt_int q
theorem gR:dw X (compareOp .LtE) (tS fun i j=>.bl (decide (i≤j))):=zB fun _ _ _ _ _ _ _ q=>le_int q
theorem gQ:dw X (compareOp .Gt) (tS fun i j=>.bl (decide (j < i))):=zB fun _ _ _ _ _ _ _ q=>gt_int q
theorem uW:dw X (compareOp .GtE) (tS fun i j=>.bl (decide (j≤i))):=zB fun _ _ _ _ _ _ _ q=>ge_int q
theorem op_in_str:dw X (compareOp .In) (fun x y H Q=>∃i j,x=.str i∧y=.str j∧Q (.bl (!(Builtin.Str.occurrences j i 0 j.length 1).isEmpty)) H):=by
 intro pins s σ H x y v u Q I rx ry h
 obtain⟨i,j,rfl,rfl,q⟩:=h
 obtain⟨t,rfl⟩:=rx
 obtain⟨t',rfl⟩:=ry
 exact in_str (bH I q rfl)
theorem d8:dw X (compareOp .Is) (fun x y H Q=>y=.non∧Q (.bl (decide (x=.non))) H):=by
 intro pins s σ H x y v u Q I rx ry h
 obtain⟨rfl,q⟩:=h
 cases ry
 refine is_none_gen (bH I q ?_)
 cases x<;>first
  | (cases rx;rfl)
  | (obtain⟨t,rfl⟩:=rx;rfl)
theorem mh:dw X (compareOp .IsNot) (fun x y H Q=>y=.non∧Q (.bl (!decide (x=.non))) H):=by
 intro pins s σ H x y v u Q I rx ry h
 obtain⟨rfl,q⟩:=h
 cases ry
 refine isnot_none_gen (bH I q ?_)
 cases x<;>first
  | (cases rx;rfl)
  | (obtain⟨t,rfl⟩:=rx;rfl)
theorem op_notin_str:dw X (compareOp .NotIn) (fun x y H Q=>∃i j,x=.str i∧y=.str j∧Q (.bl (!(!(Builtin.Str.occurrences j i 0 j.length 1).isEmpty))) H):=by
 intro pins s σ H x y v u Q I rx ry h
 obtain⟨i,j,rfl,rfl,q⟩:=h
 obtain⟨t,rfl⟩:=rx
 obtain⟨t',rfl⟩:=ry
 exact notIn_str (bH I q rfl)
theorem dw.or{f:Value→Value→Sem Value}{r r':R2}(h:dw X f r)(h':dw X f r'):dw X f (fun x y H Q=>r x y H Q∨r' x y H Q):=by
 intro pins s σ H x y v u Q I rx ry q
 rcases q with q | q
 ·exact h pins s σ H x y v u Q I rx ry q
 ·exact h' pins s σ H x y v u Q I rx ry q
theorem aA(b:Expr){op:CmpOp}(h:op≠.In:=by decide)(h2:op≠.NotIn:=by decide):behindInMarks op b=false:=by
 have e1:(op == CmpOp.In)=false:=by cases op<;>first | rfl | exact absurd rfl h
 have e2:(op == CmpOp.NotIn)=false:=by cases op<;>first | rfl | exact absurd rfl h2
 cases b<;>simp [behindInMarks,e1,e2]
theorem bE{op:CmpOp}{r:R2}(ho:dw X (compareOp op) r)(ha:PE X a ta)(hb:PE X b tb)(hm:behindInMarks op b=false):PE X (.Compare a [op] [b] pos) (Bw r ta tb):=by
 intro pins s σ H Q I h
 exact wpAny_Compare1 (yX ha hb I h fun v u s2 x y H2 I2 rx ry q=>ho pins s2 σ H2 x y v u Q I2 rx ry q) hm
def pO(t:TE):TT:=fun σ H Q=>t σ H fun x H'=>∃k,x=.bl k∧Q k H'
theorem az{op:CmpOp}{r:R2}(ho:dw X (compareOp op) r)(ha:PE X a ta)(hb:PE X b tb)(hm:behindInMarks op b=false):PT X (.Compare a [op] [b] pos) (pO (Bw r ta tb)):=by
 intro pins s σ H Q I h
 refine wpAny_isTrue_Compare1 (cL (ha pins s σ H _ I h) fun v s1 ⟨x,H1,I1,r1,q1⟩=>cL (hb pins s1 σ H1 _ I1 q1) fun u s2 ⟨y,H2,I2,r2,q2⟩=>
  cL (ho pins s2 σ H2 x y v u _ I2 r1 r2 q2) fun c s3 ⟨z,H3,I3,r3,k,e,q3⟩=>?_) hm
 subst e
 cases r3
 exact wpAny_truthy_bool ⟨H3,I3,q3⟩
def uy(r r':R2)(ta tb tc:TE):TE:=fun σ H Q=>ta σ H fun x H1=>tb σ H1 fun y H2=>r x y H2 fun z H3=>∃k,z=.bl k∧
 (if k=true then tc σ H3 fun w' H4=>r' y w' H4 Q else Q (.bl false) H3)
theorem rY{op op':CmpOp}{r r':R2}(ho:dw X (compareOp op) r)(ho':dw X (compareOp op') r')(ha:PE X a ta)(hb:PE X b tb)(hc:PE X c tc)
  (hm:lastMarks [op,op'] [b,c]=false:=by with_unfolding_all rfl):PE X (.Compare a [op,op'] [b,c] pos) (uy r r' ta tb tc):=by
 intro pins s σ H Q I h
 refine Compare_chain (cL (ha pins s σ H _ I h) fun v s1 ⟨x,H1,I1,r1,q1⟩=>chain_link (cL (hb pins s1 σ H1 _ I1 q1) fun u s2 ⟨y,H2,I2,r2,q2⟩=>
  cL (ho pins s2 σ H2 x y v u _ I2 r1 r2 q2) fun d s3 ⟨z,H3,I3,r3,k,e,q3⟩=>?_)) hm
 subst e
 cases r3
 refine wpAny_truthy_bool ?_
 cases k with
 | false=>exact ite_ff ⟨.bl false,H3,I3,rfl,q3⟩
 | true=>exact ite_tt (chain_last (cL (hc pins s3 σ H3 _ I3 q3) fun w' s4 ⟨z',H4,I4,r4,q4⟩=>ho' pins s4 σ H4 y z' u w' Q I4 r2 r4 q4))
theorem r9{op op':CmpOp}{r r':R2}(ho:dw X (compareOp op) r)(ho':dw X (compareOp op') r')(ha:PE X a ta)(hb:PE X b tb)(hc:PE X c tc)
  (hm:lastMarks [op,op'] [b,c]=false:=by with_unfolding_all rfl):PT X (.Compare a [op,op'] [b,c] pos) (pO (uy r r' ta tb tc)):=by
 intro pins s σ H Q I h
 refine isTrue_chain (cL (ha pins s σ H _ I h) fun v s1 ⟨x,H1,I1,r1,q1⟩=>test_link (cL (hb pins s1 σ H1 _ I1 q1) fun u s2 ⟨y,H2,I2,r2,q2⟩=>
  cL (ho pins s2 σ H2 x y v u _ I2 r1 r2 q2) fun d s3 ⟨z,H3,I3,r3,k,e,q3⟩=>?_)) hm
 subst e
 cases r3
 refine wpAny_truthy_bool ?_
 cases k with
 | false=>
  obtain⟨k',e',q'⟩:=q3
  cases e'
  exact ite_ff ⟨H3,I3,q'⟩
 | true=>
  refine ite_tt (test_last (cL (hc pins s3 σ H3 _ I3 q3) fun w' s4 ⟨z',H4,I4,r4,q4⟩=>cL (ho' pins s4 σ H4 y z' u w' _ I4 r2 r4 q4) fun d' s5 ⟨z2,H5,I5,r5,k2,e2,q5⟩=>?_))
  subst e2
  cases r5
  exact wpAny_truthy_bool ⟨H5,I5,q5⟩
def yU(K:PySem.W.Frag)(x:V)(H:Hp)(k:Bool):Prop:=
 match x with
 | .non=>k=false
 | .bl b=>k=b
 | .int i=>k=(i != 0)
 | .str y=>y.length≤sizeLine∧k=((y.length:Int) != 0)
 | .byt y=>y.size≤sizeLine∧k=((y.size:Int) != 0)
 | .ref p=>(∃xs,aO K H p xs∧k=!xs.isEmpty)∨(∃xs,cR K H p xs∧k=!xs.isEmpty)∨∃kvs,H p=some (.dK kvs)∧k=!kvs.isEmpty
 | _=>False
theorem tm{κ:Type}{kvs:List (κ×V)}{vs:List (κ×Value)}(r:KV kvs vs):(!vs.isEmpty)=!kvs.isEmpty:=by
 cases r<;>rfl
theorem mQ{xs:List V}{its:List Value}(r:aW xs its):(!its.toArray.isEmpty)=!xs.isEmpty:=by
 cases r<;>simp
theorem iU:(sizeLine:Nat) < 2 ^ 63:=by rw [sizeLine_eq];decide
theorem BB:CK X (fun x H Q=>∃k,yU X.K x H k∧Q k H):=by
 intro pins s σ H x v Q I rx h
 obtain⟨k,e,q⟩:=h
 have hl:=iU
 have hs:sizeLine=16777216:=sizeLine_eq
 cases x with
 | non=>
  cases rx
  have e':k=false:=e
  subst e'
  exact truthy_none ⟨H,I,q⟩
 | bl b=>
  cases rx
  have e':k=b:=e
  subst e'
  exact wpAny_truthy_bool ⟨H,I,q⟩
 | int i=>
  obtain⟨t,rfl⟩:=rx
  have e':k=(i != 0):=e
  subst e'
  exact PySem.P.truthy_int ⟨H,I,q⟩
 | str y=>
  obtain⟨t,rfl⟩:=rx
  obtain⟨hy,e'⟩:y.length≤sizeLine∧k=((y.length:Int) != 0):=e
  subst e'
  exact PySem.P.truthy_str (by omega) ⟨H,I.tok _,q⟩
 | byt y=>
  obtain⟨t,rfl⟩:=rx
  obtain⟨hy,e'⟩:y.size≤sizeLine∧k=((y.size:Int) != 0):=e
  subst e'
  exact PySem.W.truthy_bytes (by omega) ⟨H,I.tok _,q⟩
 | ref p=>
  cases rx
  have e':(∃xs,aO X.K H p xs∧k=!xs.isEmpty)∨(∃xs,cR X.K H p xs∧k=!xs.isEmpty)∨∃kvs,H p=some (.dK kvs)∧k=!kvs.isEmpty:=e
  rcases e' with⟨xs,hx,e'⟩ | ⟨xs,hx,e'⟩ | ⟨kvs,hx,e'⟩
  ·subst e'
   obtain⟨its,r,pl,hz⟩:=I.list hx
   have hlen:=r.length
   exact wpAny_truthy_list pl.isList (by simp only [List.size_toArray];omega) ⟨H,I.tok _,by rw [mQ r];exact q⟩
  ·subst e'
   obtain⟨its,r,pl,hz⟩:=I.tuple hx
   have hlen:=r.length
   exact truthy_tuple pl (by simp only [List.size_toArray];omega) ⟨H,I.tok _,by rw [mQ r];exact q⟩
  ·subst e'
   obtain⟨hz,hS,vs,r,m⟩:kvs.length≤sizeLine∧(p == sysModules)=false∧∃vs,KV kvs vs∧s.heap.DictOf (qa X.prog X.w) p vs:=I.hok p _ hx
   have hlen:kvs.length=vs.length:=Paired.length r
   exact wpAny_truthy_dict hS m (by omega) ⟨H,I.tok _,by rw [tm r];exact q⟩
 | _=>exact(show False from e).elim
theorem aY(ha:PE X a ta)(he:∀whole,isTrue a X.env whole=(do let v ←whole;standAt a.pos;holding [v] (truthy v))):
  PT X a (fun σ H Q=>ta σ H fun x H'=>∃k,yU X.K x H' k∧Q k H'):=by
 intro pins s σ H Q I h
 exact isTrue_plain (cL (ha pins s σ H _ I h) fun v s1 ⟨x,H1,I1,r1,q1⟩=>BB pins s1 σ H1 x v Q I1 r1 q1) (he _)
theorem op_add_str:dw X (binaryOp .Add) (fun x y H Q=>∃i j,x=.str i∧y=.str j∧i.length+j.length≤sizeLine∧Q (.str (i++j)) H):=by
 intro pins s σ H x y v u Q I rx ry h
 obtain⟨i,j,rfl,rfl,hz,q⟩:=h
 obtain⟨t,rfl⟩:=rx
 obtain⟨t',rfl⟩:=ry
 exact add_str (fun t' tk=>⟨.str (i++j),H,I.tok _,⟨_,rfl⟩,q⟩) hz
theorem d0{x:V}{us:List Value}(r:aW [x] us):∃u,us=[u]∧bh x u:=by
 cases r with
 | cons r1 r2=>cases r2;exact⟨_,rfl,r1⟩
theorem vd{x y:V}{us:List Value}(r:aW [x,y] us):∃u w',us=[u,w']∧bh x u∧bh y w':=by
 cases r with
 | cons r1 r2=>
  cases r2 with
  | cons r3 r4=>cases r4;exact⟨_,_,rfl,r1,r3⟩
theorem jD:cJ X (.builtin "abs") (fun xs H Q=>∃i,xs=[.int i]∧Q (.int (if i < 0 then -i else i)) H):=by
 intro pins s σ H xs us Q I r h
 obtain⟨i,rfl,q⟩:=h
 obtain⟨u,rfl,t,rfl⟩:=d0 r
 exact call_abs_int fun u tk=>⟨.int (if i < 0 then -i else i),H,I.tok _,⟨_,rfl⟩,q⟩
theorem pe(hc:X.calm=true):cJ X (.builtin "min") (fun xs H Q=>∃i j,xs=[.int i,.int j]∧Q (.int (if j < i then j else i)) H):=by
 intro pins s σ H xs us Q I r h
 obtain⟨i,j,rfl,q⟩:=h
 obtain⟨u,w',rfl,⟨t,rfl⟩,⟨t',rfl⟩⟩:=vd r
 refine min_two_ints (I.ok.hd hc) fun h' tk k=>⟨_,H,I.kept k,?_,q⟩
 by_cases hj:j < i
 ·rw [if_pos hj,if_pos hj];exact⟨_,rfl⟩
 ·rw [if_neg hj,if_neg hj];exact⟨_,rfl⟩
theorem vm:cJ X (.type "int") (fun xs H Q=>(∃i,xs=[.int i]∧Q (.int i) H)∨∃k,xs=[.bl k]∧Q (.int (if k then 1 else 0)) H):=by
 intro pins s σ H xs us Q I r h
 rcases h with⟨i,rfl,q⟩ | ⟨k,rfl,q⟩
 ·obtain⟨u,rfl,t,rfl⟩:=d0 r
  exact call_int_int ⟨.int i,H,I,⟨_,rfl⟩,q⟩
 ·obtain⟨u,rfl,r1⟩:=d0 r
  cases r1
  exact call_int_bool ⟨.int (if k then 1 else 0),H,I.tok _,⟨_,rfl⟩,q⟩
theorem call_str_int:cJ X (.type "str") (fun xs H Q=>∃i,xs=[.int i]∧i.natAbs.log2 < 1920∧Q (.str (toString i)) H):=by
 intro pins s σ H xs us Q I r h
 obtain⟨i,rfl,hz,q⟩:=h
 obtain⟨u,rfl,t,rfl⟩:=d0 r
 exact PySem.P.str_of_int hz ⟨.str _,H,I.tok _,⟨_,rfl⟩,q⟩
theorem g5:cJ X (.builtin "divmod") (fun xs H Q=>∃i j,xs=[.int i,.int j]∧BH i j∧∀p,H p=none→Q (.ref p) (upd H p (.tup [.int (i / j),.int (i % j)]))):=by
 intro pins s σ H xs us Q I r h
 obtain⟨i,j,rfl,⟨h1,h2⟩,q⟩:=h
 obtain⟨u,w',rfl,⟨t,rfl⟩,⟨t',rfl⟩⟩:=vd r
 refine divmod_int (by omega) ?_ (.inl (PyProof.noPylong_small (by omega)))
 rw [Int.fdiv_eq_ediv_of_nonneg i (by omega),Int.fmod_eq_emod_of_nonneg i (by omega)]
 have hn:H s.heap.objs.size=none:=I.hok.fresh (Nat.le_refl _)
 refine⟨.ref s.heap.objs.size,_,?_,rfl,q _ hn⟩
 refine I.laid (fun b o e=>Heap.get?_push_of_some _ e) (Nat.le_refl _) ⟨by simp only [List.length_cons,List.length_nil];rw [sizeLine_eq];decide,[.int (i / j) s.toks,.int (i % j) (s.toks+1)],.cons ⟨_,rfl⟩ (.cons ⟨_,rfl⟩ .nil),?_⟩
 exact⟨_,Heap.get?_push_size s.heap rfl,rfl,0,rfl⟩
end
end L2
namespace L2
open PySem PySem.Spec PyProof.Rows
structure sN(h:Heap)(x dx C:Addr)(mA:Str→Option Value):Prop where
 obj:h.get? x=some (PySem.W.instObj C dx)
 ns:h.Ns1 dx mA
 ne:dx≠x
theorem vM{h:Heap}{dx:Addr}{mA:Str→Option Value}(n:h.Ns1 dx mA):∃od,h.get? dx=some od∧∀name,PySem.W.lookIn name od=some (mA name):=by
 obtain⟨o,es,ep,ho,hd,hk,_,hm⟩:=n
 refine⟨o,ho,fun name=>?_⟩
 have e:=hm name
 unfold nsFind findBy at e
 rw [←Array.find?_toList]at e
 unfold PySem.W.lookIn
 rw [hd]
 dsimp only
 split
 ·rename_i y q
  rw [q]at e
  exact congrArg some e
 ·rename_i q
  rw [q]at e
  have a:es.toList.any (·.refKey)=false:=by
   rw [List.any_eq_false]
   intro y hy
   obtain⟨z,t,hkey⟩:=hk y (Array.mem_toList_iff.mp hy)
   simp [DictEntry.refKey,hkey]
  have a':¬es.toList.any (·.refKey)=true:=by rw [a];exact Bool.false_ne_true
  rw [if_neg a']
  exact congrArg some e
theorem sN.look{h:Heap}{x dx C:Addr}{mA:Str→Option Value}(I:sN h x dx C mA):∃od,PySem.W.InstAt h x (PySem.W.instObj C dx) C (some od)∧∀name,PySem.W.lookIn name od=some (mA name):=
 let ⟨od,ho,hl⟩:=vM I.ns
 ⟨od,⟨I.obj,rfl,rfl,ho⟩,hl⟩
section
variable {prog:Program} {w:World} {A:Around} {E:Value→Shared→Prop} {s:Shared} {K:PySem.W.Frag} {x dx C f:Addr} {mA:Str→Option Value} {name:Str} {v:Value}
theorem za{expr:Bool}{Q:Value→Shared→Prop}(X:K.In s.heap)(I:sN s.heap x dx C mA)(hg:PySem.W.plainGet K C name=true)(hh:PySem.W.hasDictIn K C=true)
  (ha:PySem.W.findIn K (.ref C) name=some none) (hv:mA name=some v) (hv':PySem.W.handedIn v=true) (h:Q v { s with toks:=s.toks+1 }) :
  wpAny (model prog w) A (getAttr (.ref x) name expr) Q E s:=by
 obtain⟨od,J,hl⟩:=I.look
 exact PySem.W.get_value X J (PySem.W.plainGet_of hg).1 (PySem.W.findObj_own hh ha rfl (by rw [hl,hv])) hv' h
theorem xi{pl:Sem Bool}{Q:Value×List Value→Shared→Prop}(X:K.In s.heap)(I:sN s.heap x dx C mA)(hg:PySem.W.plainGet K C name=true)
  (hf:PySem.W.findIn K (.ref C) name=some (some (.ref f))) (ht:PySem.W.isFn K (.ref f)=true) (hv:mA name=none) (h:Q (.ref f,[.ref x]) s) :
  wpAny (model prog w) A (getMethod (.ref x) name pl) Q E s:=by
 obtain⟨od,J,hl⟩:=I.look
 exact PySem.W.method_fn X J (PySem.W.plainGet_of hg).1 (PySem.W.plainGet_of hg).2 hf (beq_iff_eq.mp ht) (by show(PySem.W.lookIn name od).map (·.isSome)=some false;rw [hl,hv];rfl) h
theorem zY{ns:List Str}{Q:Unit→Shared→Prop}(X:K.In s.heap)(I:sN s.heap x dx C mA)
  (hs:PySem.W.findIn K (.ref C) "__setattr__"=some (some (.builtin "object.__setattr__"))) (hp:PySem.W.plainOver K C=true) (ht:PySem.W.takerIn K C name=some none) (hh:PySem.W.hasDictIn K C=true)
  (hw:PySem.Within mA ns) (hsz:ns.length≤sizeLine)
  (h:∀h',sN h' x dx C (fun y=>if y=name then some v else mA y)→Heap.SameBut dx s.heap h'→Q () { s with heap:=h',toks:=s.toks+2 }) :
  wpAny (model prog w) A (setAttr (.ref x) name v) Q E s:=by
 obtain⟨od,J,hl⟩:=I.look
 refine PySem.W.set_plain X J hs (PySem.W.osa_open (s:={ s with toks:=s.toks+1 }) (r:=none) X J hp ht fun b=>?_)
 obtain⟨cd,hc,hd'⟩:=PySem.W.any_some hh
 have hx:s.heap.get? x=some ⟨.ref C,some dx,.plain,#[]⟩:=I.obj
 refine wpAny_bind (wpAny_pure (wpAny_bind (wpAny_bind (wpAny_loadPart hx (wpAny_bind (PySem.W.Looks.here (s:={ s with toks:=s.toks+1 }) (PySem.W.looks_clsIn X hc) ?_))))))
 rw [hd']
 refine wpAny_pure (a:=some dx) (wpAny_bind (wpAny_pure (wpAny_bind ?_)))
 refine wpAny_nsSet1 (s:={ s with toks:=s.toks+1 }) I.ns fun h' hn2 hs2=>?_
 obtain⟨oD,esD,epD,hoD,hdD,hcD⟩:=hn2.count (PySem.Within.cons name v hw)
 refine wpAny_bind (wpAny_lookBehind hoD (by rw [hdD];exact pastItsLine_dict (Nat.le_trans hcD (by rw [List.length_cons];omega))) ?_)
 exact wpAny_pure (h _ ⟨(hs2.2 _ (Ne.symm I.ne)).trans I.obj,hn2,I.ne⟩ hs2)
theorem xH{R:Result→Shared→Prop}{vs:List Value}{kw:List (Str×Value)}(X:K.In s.heap)(hm:PySem.W.makesIn K C=true)
  (hi:PySem.W.findIn K (.ref C) "__init__"=some (some (.ref f))) (hf:PySem.W.typeIn K (.ref f)=some (.type "function"))
  (h:codeAny (model prog w) (A.under (.builtin "type.__call__" ⟨.ref C::vs,kw⟩)) (.call (.ref f) ⟨.ref (s.heap.objs.size+1)::vs,kw⟩) (PySem.W.InitBack (s.heap.objs.size+1) R)
   { s with heap:=(s.heap.push PySem.W.emptyDict).push (PySem.W.instObj C s.heap.objs.size) }) :
  codeAny (model prog w) A (.call (.ref C) ⟨vs,kw⟩) R s:=by
 obtain⟨hh,g,d,t,os⟩:=s
 exact PySem.W.make_core (PySem.W.makes_of X hm) (PySem.W.looks_findIn X hi) (fun self=>PySem.W.bind_fn X self hf) (.inl rfl) h
end
def bN(f:Str)(v:V):List (Str×V)→List (Str×V)
 | []=>[(f,v)]
 | (g,x)::r=>if g=f then(g,v)::r else(g,x)::bN f v r
theorem g6(f g:Str)(v:V):∀fs:List (Str×V),(bN f v fs).lookup g=if g=f then some v else fs.lookup g
 | []=>by
  show List.lookup g [(f,v)]=_
  by_cases h:g=f
  ·have hb:(g == f)=true:=beq_iff_eq.mpr h
   simp only [List.lookup,hb,if_pos h]
  ·have hb:(g == f)=false:=beq_eq_false_iff_ne.mpr h
   simp only [List.lookup,hb,if_neg h]
 | (k,x)::r=>by
  have ih:=g6 f g v r
  rw [show bN f v ((k,x)::r)=(if k=f then(k,v)::r else(k,x)::bN f v r)from rfl]
  by_cases hk:k=f
  ·rw [if_pos hk]
   by_cases h:g=k
   ·have hb:(g == k)=true:=beq_iff_eq.mpr h
    simp only [List.lookup,hb,if_pos (h.trans hk)]
   ·have hb:(g == k)=false:=beq_eq_false_iff_ne.mpr h
    simp only [List.lookup,hb,if_neg (fun e:g=f=>h (e.trans hk.symm))]
  ·rw [if_neg hk]
   by_cases h:g=k
   ·have hb:(g == k)=true:=beq_iff_eq.mpr h
    simp only [List.lookup,hb,if_neg (fun e:g=f=>hk (h.symm.trans e))]
   ·have hb:(g == k)=false:=beq_eq_false_iff_ne.mpr h
    simp only [List.lookup,hb]
    exact ih
theorem kD(f:Str)(v:V):∀fs:List (Str×V),f∈(bN f v fs).map (·.1)∧∀g,g∈fs.map (·.1)→g∈(bN f v fs).map (·.1)
 | []=>⟨by simp [bN],fun g h=>by simp at h⟩
 | (k,x)::r=>by
  obtain⟨i1,i2⟩:=kD f v r
  rw [show bN f v ((k,x)::r)=(if k=f then(k,v)::r else(k,x)::bN f v r)from rfl]
  by_cases hk:k=f
  ·rw [if_pos hk]
   subst hk
   exact⟨by simp,fun g h=>by simpa using h⟩
  ·rw [if_neg hk]
   refine⟨?_,fun g h=>?_⟩
   ·rw [List.map_cons]
    exact List.mem_cons_of_mem _ i1
   ·rw [List.map_cons]at h ⊢
    rcases List.mem_cons.mp h with e | e
    ·exact List.mem_cons.mpr (.inl e)
    ·exact List.mem_cons_of_mem _ (i2 g e)
theorem bR(f:Str)(v:V):∀fs:List (Str×V),(bN f v fs).length≤fs.length+1
 | []=>by simp [bN]
 | (k,x)::r=>by
  have ih:=bR f v r
  rw [show bN f v ((k,x)::r)=(if k=f then(k,v)::r else(k,x)::bN f v r)from rfl]
  by_cases hk:k=f
  ·rw [if_pos hk,List.length_cons,List.length_cons];omega
  ·rw [if_neg hk,List.length_cons,List.length_cons];omega
theorem nX.some_of{v:V}{o:Option Value}(r:nX (some v) o):∃u,o=some u∧bh v u:=by
 cases o with
 | none=>exact(show False from r).elim
 | some u=>exact⟨u,rfl,r⟩
theorem nX.none_of{o:Option Value}(r:nX none o):o=none:=by
 cases o with
 | none=>rfl
 | some u=>exact(show False from r).elim
theorem vG{v:V}{u:Value}(r:bh v u):PySem.W.handedIn u=true:=by
 cases v with
 | non=>cases(show u=Value.none from r);rfl
 | bl b=>cases(show u=Value.bool b from r);rfl
 | int i=>obtain⟨t,e⟩:=(show ∃t,u=Value.int i t from r);cases e;rfl
 | str x=>obtain⟨t,e⟩:=(show ∃t,u=Value.str x t from r);cases e;rfl
 | byt b=>obtain⟨t,e⟩:=(show ∃t,u=Value.bytes b t from r);cases e;rfl
 | flt b=>obtain⟨t,e⟩:=(show ∃t,u=Value.float b t from r);cases e;rfl
 | ref a=>cases(show u=Value.ref a from r);rfl
 | ty n=>cases(show u=Value.type n from r);rfl
section
variable {P:Program} {w:World} {H H':Hp} {h h':Heap} {a C dx:Addr} {fs fs':List (Str×V)}
theorem l6(hok:lB P w H h)(e:H a=some (.ins C dx fs)):∃mA,sN h a dx C mA∧(∀f,nX (fs.lookup f) (mA f))∧PySem.Within mA (fs.map (·.1))∧fs.length≤1000∧H dx=some (.own a):=by
 obtain⟨d,z,ne,ob,mA,n,r,q⟩:=(show dv P w H h a (.ins C dx fs)from hok a _ e)
 exact⟨mA,⟨ob,n,ne⟩,r,q,z,d⟩
end
structure mz(K:PySem.W.Frag)(C:Addr):Prop where
 pg:PySem.W.plainGet K C Str.empty=true
 hd:PySem.W.hasDictIn K C=true
 po:PySem.W.plainOver K C=true
 sa:PySem.W.findIn K (.ref C) "__setattr__"=some (some (.builtin "object.__setattr__"))
theorem mz.get{K:PySem.W.Frag}{C:Addr}(c:mz K C)(f:Str):PySem.W.plainGet K C f=true:=c.pg
def NoAttr(K:PySem.W.Frag)(C:Addr)(f:Str):Prop:=PySem.W.findIn K (.ref C) f=some none
theorem NoAttr.taker{K:PySem.W.Frag}{C:Addr}{f:Str}(n:NoAttr K C f):PySem.W.takerIn K C f=some none:=by
 unfold PySem.W.takerIn
 rw [show PySem.W.findIn K (.ref C) f=some none from n]
 rfl
structure AE(K:PySem.W.Frag)(C:Addr)(m:Str)(f:Addr):Prop where
 at_:PySem.W.findIn K (.ref C) m=some (some (.ref f))
 fn:PySem.W.isFn K (.ref f)=true
 kp:PySem.W.keepIn K (.ref f)=true
section
variable {X:Cx} {pins:List (Addr×Obj)} {σ:St} {H:Hp} {s:Shared} {a C dx:Addr} {fs:List (Str×V)} {f:Str} {v:V} {A:Around} {E:Value→Shared→Prop}
theorem sY{b:Bool}{Q:Value→Shared→Prop}(I:aU X pins σ H s)(e:H a=some (.ins C dx fs))(c:mz X.K C)(n:NoAttr X.K C f)(l:fs.lookup f=some v)
  (h:∀u s',aU X pins σ H s'→bh v u→Q u s'):wpAny (model X.prog X.w) A (getAttr (.ref a) f b) Q E s:=by
 obtain⟨mA,O,r,_,_,_⟩:=l6 I.hok e
 obtain⟨u,hu,ru⟩:=nX.some_of (v:=v) (o:=mA f) (by rw [←l];exact r f)
 exact za I.kIn O (c.get f) c.hd n hu (vG ru) (h u _ (I.tok _) ru)
theorem mN{m:Str}{g:Addr}{pl:Sem Bool}{Q:Value×List Value→Shared→Prop}(I:aU X pins σ H s)(e:H a=some (.ins C dx fs))(c:mz X.K C)(k:AE X.K C m g)(l:fs.lookup m=none)
  (h:Q (.ref g,[.ref a]) s):wpAny (model X.prog X.w) A (getMethod (.ref a) m pl) Q E s:=by
 obtain⟨mA,O,r,_,_,_⟩:=l6 I.hok e
 have hn:mA m=none:=nX.none_of (by rw [←l];exact r m)
 exact xi I.kIn O (c.get m) k.at_ k.fn hn h
theorem ud{y:V}{u:Value}{Q:Unit→Shared→Prop}(I:aU X pins σ H s)(e:H a=some (.ins C dx fs))(c:mz X.K C)(n:NoAttr X.K C f)(hl:fs.length < 1000)(ry:bh y u)
  (h:∀s',aU X pins σ (upd H a (.ins C dx (bN f y fs))) s'→Q () s'):wpAny (model X.prog X.w) A (setAttr (.ref a) f u) Q E s:=by
 obtain⟨mA,O,r,wi,_,ho⟩:=l6 I.hok e
 have hz:(fs.map (·.1)).length≤sizeLine:=by rw [List.length_map,sizeLine_eq];omega
 refine zY I.kIn O c.sa c.po n.taker c.hd wi hz fun h' O' sb=>h _ ?_
 have hd:∃o,h'.get? dx=some o:=let ⟨o,_,_,e',_⟩:=O'.ns;⟨o,e'⟩
 refine I.write (x:=a) (e:=dx) (by rw [e];exact True.intro) (.inr ho) (fun b q hb z=>(sb.2 b hb).trans z) hd ?_
 refine⟨by rw [aj O.ne];exact ho,?_,O.ne,O'.obj,_,O'.ns,fun g=>?_,fun g hg=>?_⟩
 ·have:=bR f y fs;omega
 ·show nX ((bN f y fs).lookup g) (if g=f then some u else mA g)
  rw [g6]
  by_cases q:g=f
  ·rw [if_pos q,if_pos q];exact ry
  ·rw [if_neg q,if_neg q];exact r g
 ·by_cases q:g=f
  ·rw [q];exact(kD f y fs).1
  ·refine(kD f y fs).2 g (wi g fun z=>hg ?_)
   show(if g=f then some u else mA g)=none
   rw [if_neg q];exact z
theorem aU.made(I:aU X pins σ H s):aU X pins σ (upd (upd H s.heap.objs.size (.own (s.heap.objs.size+1))) (s.heap.objs.size+1) (.ins C s.heap.objs.size []))
  { s with heap:=(s.heap.push PySem.W.emptyDict).push (PySem.W.instObj C s.heap.objs.size) }:=by
 have e1:(s.heap.push PySem.W.emptyDict).get? s.heap.objs.size=some PySem.W.emptyDict:=Heap.get?_push_size s.heap rfl
 have e2:((s.heap.push PySem.W.emptyDict).push (PySem.W.instObj C s.heap.objs.size)).get? (s.heap.objs.size+1)=some (PySem.W.instObj C s.heap.objs.size):=by
  have:=Heap.get?_push_size (s.heap.push PySem.W.emptyDict) (o:=PySem.W.instObj C s.heap.objs.size) rfl
  rwa [Heap.size_push]at this
 have e3:(s.heap.push PySem.W.emptyDict).Ns s.heap.objs.size (fun _=>none):=⟨PySem.W.emptyDict,#[],_,e1,rfl,(fun e he=>absurd he (by simp)),fun _=>rfl⟩
 have I1:=I.laid (a:=s.heap.objs.size) (o:=.own (s.heap.objs.size+1)) (h':=s.heap.push PySem.W.emptyDict) (t':=s.toks) (fun b u q=>Heap.get?_push_of_some _ q) (Nat.le_refl _) ⟨_,e1⟩
 refine I1.laid (a:=s.heap.objs.size+1) (o:=.ins C s.heap.objs.size []) (t':=s.toks) (fun b u q=>Heap.get?_push_of_some _ q) (Nat.le_of_eq (Heap.size_push _ _)) ?_
 have ne:s.heap.objs.size≠s.heap.objs.size+1:=Nat.ne_of_lt (Nat.lt_succ_self _)
 refine⟨by rw [aj ne,ab],Nat.zero_le _,ne,e2,fun _=>none,(Heap.Ns1.of_empty e3).at fun o q=>Heap.get?_push_of_some _ q,fun _=>True.intro,fun y hy=>absurd rfl hy⟩
theorem yW{prog:Program}{w:World}{env:Env}{e:Expr}{f:Str}{pos:Pos}{s:Shared}{Q:Value→Shared→Prop}(hb:attributeBase e f env (eval e env)=eval e env)
  (h:wpAny (model prog w) A (eval e env) (fun o s₁=>wpAny (model prog w) A (getAttr o f true) Q E s₁) E s):wpAny (model prog w) A (eval (.Attribute e f pos) env) Q E s:=
 Attribute_any_ h (by rw [arm_eval_Attribute,hb])
end
def Co(K:PySem.W.Frag)(ta:TE)(f:Str):TE:=fun σ H Q=>ta σ H fun x H1=>∃a C dx fs v,x=.ref a∧H1 a=some (.ins C dx fs)∧mz K C∧NoAttr K C f∧fs.lookup f=some v∧Q v H1
def Cm(K:PySem.W.Frag)(ta tv:TE)(f:Str):TS:=fun D σ H=>tv σ H fun y H1=>ta σ H1 fun x H2=>∃a C dx fs,x=.ref a∧H2 a=some (.ins C dx fs)∧mz K C∧NoAttr K C f∧fs.length < 1000∧
 D.nx σ (upd H2 a (.ins C dx (bN f y fs)))
section
variable {X:Cx} {o e value:Expr} {f:Str} {pos pos' tpos:Pos} {ta tv:TE}
theorem bA(he:PE X e ta)(hb:attributeBase e f X.env (eval e X.env)=eval e X.env):PE X (.Attribute e f pos) (Co X.K ta f):=by
 intro pins s σ H Q I h
 refine yW hb (cL (he pins s σ H _ I h) fun u s1 ⟨x,H1,I1,rx,a,C,dx,fs,v,ex,ea,c,n,l,q⟩=>?_)
 subst ex
 obtain rfl:u=Value.ref a:=rx
 exact sY I1 ea c n l fun u' s2 I2 ru=>⟨v,H1,I2,ru,q⟩
theorem bU(ha:PE X o ta)(hv:PE X value tv)(hs:swapsWith value (some (.Attribute o f pos')) pos.line X.env=pure false):PS X (.Assign [.Attribute o f pos'] value pos) (Cm X.K ta tv f):=by
 intro pins s σ H D I h
 refine plainObj_wpAny_Assign_Attribute (cL (hv pins s σ H _ I h) fun u s1 ⟨y,H1,I1,ry,q⟩=>cL (ha pins s1 σ H1 _ I1 q) fun ov s2 ⟨x,H2,I2,rx,a,C,dx,fs,ex,ea,c,n,l,q2⟩=>?_) hs
 subst ex
 obtain rfl:ov=Value.ref a:=rx
 exact ud I2 ea c n l ry fun s3 I3=>⟨σ,_,I3,q2⟩
end
section
variable {X:Cx} {pins:List (Addr×Obj)} {σ:St} {H:Hp} {s:Shared} {A:Around} {E:Value→Shared→Prop} {Q:Value→Shared→Prop} {c:Value} {b:Bool}
inductive jz(K:PySem.W.Frag)(H:Hp):V→Value→Prop where
 | non:jz K H .non (.type "NoneType")
 | bl (x:Bool):jz K H (.bl x) (.type "bool")
 | int (i:Int):jz K H (.int i) (.type "int")
 | str (x:Str):jz K H (.str x) (.type "str")
 | flt (x:UInt64):jz K H (.flt x) (.type "float")
 | lst {a:Addr} {xs:List V} (e:H a=some (.lst xs)):jz K H (.ref a) (.type "list")
 | frz {a:Addr} {o:Obj} {xs:List V} (e:H a=some (.frz o (.lst xs))):jz K H (.ref a) (.type "list")
 | tup {a:Addr} {xs:List V} (e:H a=some (.tup xs)):jz K H (.ref a) (.type "tuple")
 | dK {a:Addr} {kvs:List (qX×V)} (e:H a=some (.dK kvs)):jz K H (.ref a) (.type "dict")
 | dT {a:Addr} {kvs:List (List qX×V)} (e:H a=some (.dT kvs)):jz K H (.ref a) (.type "dict")
 | ins {a C dx:Addr} {fs:List (Str×V)} (e:H a=some (.ins C dx fs)) (cl:mz K C) (ha:PySem.W.findIn K (.ref C) "__class__"=some (some (.builtin "object.__class__")))
   (hn:PySem.W.specialIn K (.builtin "object.__class__") "__get__"=some (some (.builtin "getset_descriptor.__get__"))) (htk:PySem.W.takesIn K (.builtin "object.__class__")=some true)
   (hm:PySem.W.mroIn K C (.type "object")=some true):jz K H (.ref a) (.ref C)
theorem vK{x:V}{u t:Value}(I:aU X pins σ H s)(rx:bh x u)(ty:jz X.K H x t)(e:PySem.W.kitOne X.K t c=some b)(h:∀tk,Q (.bool b) { s with toks:=tk }):
  wpAny (model X.prog X.w) A (call (.builtin "isinstance") [u,c]) Q E s:=by
 cases ty with
 | non=>cases(show u=Value.none from rx);exact PySem.W.kia_one PySem.W.kitx_none I.kIn True.intro e (fun z=>nomatch z) h
 | bl y=>cases(show u=Value.bool y from rx);exact PySem.W.kia_one PySem.W.kitx_bool I.kIn True.intro e (fun z=>nomatch z) h
 | int i=>obtain⟨t,q⟩:=(show ∃t,u=Value.int i t from rx);cases q;exact PySem.W.kia_one PySem.W.kitx_int I.kIn True.intro e (fun z=>nomatch z) h
 | str y=>obtain⟨t,q⟩:=(show ∃t,u=Value.str y t from rx);cases q;exact PySem.W.kia_one PySem.W.kitx_str I.kIn True.intro e (fun z=>nomatch z) h
 | flt y=>obtain⟨t,q⟩:=(show ∃t,u=Value.float y t from rx);cases q;exact PySem.W.kia_one PySem.W.kitx_float I.kIn True.intro e (fun z=>nomatch z) h
 | @lst a xs ea=>
  cases(show u=Value.ref a from rx)
  obtain⟨_,_,n,_,h1⟩:=(show dv X.prog X.w H s.heap a (.lst xs)from I.hok a _ ea)
  exact PySem.W.kia_one PySem.W.kitx_list I.kIn ⟨_,h1,rfl⟩ e (fun z=>nomatch z) h
 | @frz a ob xs ea=>
  cases(show u=Value.ref a from rx)
  obtain⟨_,_,_,n,_,h1⟩:=(show dv X.prog X.w H s.heap a (.frz ob (.lst xs))from I.hok a _ ea)
  exact PySem.W.kia_one PySem.W.kitx_list I.kIn ⟨_,h1,rfl⟩ e (fun z=>nomatch z) h
 | @tup a xs ea=>
  cases(show u=Value.ref a from rx)
  obtain⟨_,_,_,p⟩:=(show dv X.prog X.w H s.heap a (.tup xs)from I.hok a _ ea)
  obtain⟨o,h1,h2,_⟩:=p
  exact PySem.W.kia_one PySem.W.kitx_tuple I.kIn ⟨o,h1,h2⟩ e (fun z=>nomatch z) h
 | @dK a kvs ea=>
  cases(show u=Value.ref a from rx)
  obtain⟨_,_,vs,_,p⟩:=(show dv X.prog X.w H s.heap a (.dK kvs)from I.hok a _ ea)
  obtain⟨o,es,ep,h1,h2,_⟩:=p
  exact PySem.W.kia_one PySem.W.kitx_dict I.kIn ⟨o,h1,h2.1⟩ e (fun z=>nomatch z) h
 | @dT a kvs ea=>
  cases(show u=Value.ref a from rx)
  obtain⟨_,_,xs,_,o,es,ep,h1,h2,_⟩:=(show dv X.prog X.w H s.heap a (.dT kvs)from I.hok a _ ea)
  exact PySem.W.kia_one PySem.W.kitx_dict I.kIn ⟨o,h1,h2.1⟩ e (fun z=>nomatch z) h
 | @ins a C dx fs ea cl ha hn htk hm=>
  cases(show u=Value.ref a from rx)
  obtain⟨mA,O,_⟩:=l6 I.hok ea
  obtain⟨od,J,_⟩:=O.look
  exact PySem.W.kia_one (PySem.W.kitx_own (cl.get _) cl.hd ha hn htk hm) I.kIn J e (fun z=>nomatch z) h
end
end L2
namespace L2
open PySem PySem.Spec PyProof.Rows
structure dy(k:Nat)(A:Around):Prop where
 hd:A.handled=none
 dp:A.depth+3 * k+5 < recursionLimit
 un:A.units+16 * k+200 < cLine
theorem dy.mono{j k:Nat}{A:Around}(r:dy k A)(h:j≤k):dy j A:=⟨r.hd,by have:=r.dp;omega,by have:=r.un;omega⟩
theorem dy.deeper{k:Nat}{A:Around}(r:dy (k+1) A)(env:Env):dy k (A.deeper env):=
 ⟨r.hd,by have:=r.dp;show A.depth+1+3 * k+5 < _;omega,by have:=r.un;show A.units+3+16 * k+200 < _;omega⟩
theorem tD{A:Around}{C:Addr}{us:List Value}{kw:List (Str×Value)}:(A.under (.builtin "type.__call__" ⟨.ref C::us,kw⟩)).depth=A.depth+1:=by
 first | rfl | simp [Around.under,Code.weight,Code.isCreation,Code.isGuard,Code.isCaller,Code.frames,Code.isFrame,guardIds]
theorem tE{A:Around}{C:Addr}{us:List Value}{kw:List (Str×Value)}:(A.under (.builtin "type.__call__" ⟨.ref C::us,kw⟩)).units=A.units+1:=by
 first | rfl | simp [Around.under,Code.cUnits,Code.frames,Code.isFrame]
theorem dy.make{k:Nat}{A:Around}(r:dy (k+1) A)(C:Addr)(us:List Value)(kw:List (Str×Value)):dy k (A.under (.builtin "type.__call__" ⟨.ref C::us,kw⟩)):=
 ⟨r.hd,by have:=r.dp;rw [tD];omega,by have:=r.un;rw [tE];omega⟩
theorem dy.depth{k:Nat}{A:Around}(r:dy k A):A.depth < recursionLimit:=by have:=r.dp;omega
theorem dy.units{k:Nat}{A:Around}(r:dy k A):A.units+64 < cLine:=by have:=r.un;omega
def sD:TA:=fun _ H Q=>Q [] H
def nQ(ta:TE)(tr:TA):TA:=fun σ H Q=>ta σ H fun x H1=>tr σ H1 fun xs H2=>Q (x::xs) H2
section
variable {X:Cx} {e:Expr} {es:List Expr} {te:TE} {t:TA} {pos:Pos}
theorem ag:PA X [] sD:=fun _ _ _ _ H Q I h=>Calls.spliced_nil ⟨[],H,I,.nil,h⟩
theorem aa(ha:PE X e te)(hr:PA X es t)(hs:starEach (e::es) X.env=(false,eval e X.env)::starEach es X.env:=by rfl):PA X (e::es) (nQ te t):=by
 intro pos pins s σ H Q I h
 rw [hs]
 show wpAny _ _ (spliced ((false,eval e X.env)::backTo pos (starEach es X.env))) _ _ s
 refine Calls.spliced_cons (cL (ha pins s σ H _ I h) fun u s1 ⟨x,H1,I1,r1,q1⟩=>?_)
 exact cL (hr pos pins s1 σ H1 _ I1 q1) fun us s2 ⟨xs,H2,I2,r2,q2⟩=>⟨x::xs,H2,I2,.cons r1 r2,q2⟩
def Ct(t:TA):TE:=fun σ H Q=>t σ H fun xs H1=>xs.length≤sizeLine∧∀p,H1 p=none→Q (.ref p) (upd H1 p (.tup xs))
def Cq(t:TA):TE:=fun σ H Q=>t σ H fun xs H1=>xs.length≤sizeLine∧∀p,H1 p=none→Q (.ref p) (upd H1 p (.lst xs))
theorem kK{x1}(h:PA X es t):PE X (.Tuple es x1 pos) (Ct t):=by
 intro pins s σ H Q I hq
 refine wpAny_Tuple_spliced (cL (h pos pins s σ H _ I hq) fun us s1 ⟨xs,H1,I1,r,z,q⟩=>⟨by rw [←r.length];exact z,?_⟩)
 have hf:H1 s1.heap.objs.size=none:=I1.hok.fresh (Nat.le_refl _)
 refine⟨.ref s1.heap.objs.size,upd H1 s1.heap.objs.size (.tup xs),I1.laid (t':=s1.toks) (fun b u e=>Heap.get?_push_of_some _ e) (Nat.le_refl _) ?_,rfl,q _ hf⟩
 exact⟨z,us,r,⟨_,Heap.get?_push_size _ rfl,rfl,_,rfl⟩⟩
theorem b9(h:PA X es t):PE X (.List es pos) (Cq t):=by
 intro pins s σ H Q I hq
 refine wpAny_List_spliced (cL (h pos pins s σ H _ I hq) fun us s1 ⟨xs,H1,I1,r,z,q⟩=>⟨by rw [←r.length];exact z,?_⟩)
 have hf:H1 s1.heap.objs.size=none:=I1.hok.fresh (Nat.le_refl _)
 refine⟨.ref s1.heap.objs.size,upd H1 s1.heap.objs.size (.lst xs),I1.laid (t':=s1.toks) (fun b u e=>Heap.get?_push_of_some _ e) (Nat.le_refl _) ?_,rfl,q _ hf⟩
 exact⟨z,us,0,r,Heap.get?_push_size _ rfl⟩
end
abbrev Sp:=List V→Hp→VK→XK→Prop
abbrev sH:=List Env→Hp→Shared→XK→Value→Shared→Prop
structure sM(P:Program)(w:World)(K:PySem.W.Frag)(mg:Str→Option Value)(base:Heap)(A:Around)(outer:List Env)(s:Shared)(H:Hp):Prop where
 frames:A.frames=some outer
 mod:Mod K mg base
 bs:∀b o,base.get? b=some o→s.heap.get? b=some o∧H b=none
 bsz:base.objs.size≤s.heap.objs.size
 funs:s.heap.FunFrames base outer
 frf:∀b∈sI outer,H b=none
 hok:lB P w H s.heap
 bare:AllBare s.gens
def CE(outer:List Env)(P:Program)(w:World)(H:Hp)(s:Shared)(Q:VK)(u:Value)(s':Shared):Prop:=
 ∃v H',s'.os=s.os∧AllBare s'.gens∧Un (sI outer) [] H H' s.heap s'.heap∧lB P w H' s'.heap∧bh v u∧Q v H'
def CR(CX:sH)(outer:List Env)(P:Program)(w:World)(H:Hp)(s:Shared)(Q:VK)(E:XK)(r:Result)(s':Shared):Prop:=
 match r with
 | .ok (.ret u)=>CE outer P w H s Q u s'
 | .ok _=>False
 | .error e=>CX outer H s E e s'
structure aP(P:Program)(w:World)(K:PySem.W.Frag)(mg:Str→Option Value)(base:Heap)(CX:sH)(k:Nat)(f:Addr)(fd:FuncData)(ps:List Str)(sp:Sp):Prop where
 len:∀vs H Q E,sp vs H Q E→vs.length=ps.length
 run:∀(A:Around) (outer:List Env) (s:Shared) (H:Hp) (args:Args) (us:List Value) (vs:List V) (Q:VK) (E:XK),dy k A→sM P w K mg base A outer s H→BindsTo s fd args (ps.zip us)→aW vs us→sp vs H Q E→
  codeAny (model P w) A (.call (.ref f) args) (CR CX outer P w H s Q E) s
theorem aP.mono{P:Program}{w:World}{K:PySem.W.Frag}{mg:Str→Option Value}{base:Heap}{CX:sH}{j k:Nat}{f:Addr}{fd:FuncData}{ps:List Str}{sp:Sp}(F:aP P w K mg base CX j f fd ps sp)(h:j≤k):
  aP P w K mg base CX k f fd ps sp:=⟨F.len,fun A outer s H args us vs Q E hr=>F.run A outer s H args us vs Q E (hr.mono h)⟩
theorem aP.imp{P:Program}{w:World}{K:PySem.W.Frag}{mg:Str→Option Value}{base:Heap}{CX:sH}{k:Nat}{f:Addr}{fd:FuncData}{ps:List Str}{sp sp':Sp}(F:aP P w K mg base CX k f fd ps sp)
  (h:∀vs H Q E,sp' vs H Q E→sp vs H Q E):aP P w K mg base CX k f fd ps sp':=
 ⟨fun vs H Q E q=>F.len vs H Q E (h _ _ _ _ q),fun A outer s H args us vs Q E hr he hb hv hs=>F.run A outer s H args us vs Q E hr he hb hv (h _ _ _ _ hs)⟩
theorem sM.make{P:Program}{w:World}{K:PySem.W.Frag}{mg:Str→Option Value}{base:Heap}{A:Around}{outer:List Env}{s:Shared}{H:Hp}(e:sM P w K mg base A outer s H)(C:Addr)(us:List Value)(kw:List (Str×Value)):
  sM P w K mg base (A.under (.builtin "type.__call__" ⟨.ref C::us,kw⟩)) outer s H:=⟨by first | exact e.frames | (simpa [Around.under,Code.envs,Code.isFrame,pushEnvs]using e.frames),e.mod,e.bs,e.bsz,e.funs,e.frf,e.hok,e.bare⟩
section
variable {X:Cx} {pins:List (Addr×Obj)} {σ:St} {H:Hp} {s s':Shared}
theorem aU.env0(I:aU X pins σ H s):sM X.prog X.w X.K X.mg X.base X.A X.stack s H:=
 ⟨I.ok.frames,I.ok.mod,I.bs,Nat.le_trans I.ok.bsz I.sz,I.stack,I.stkFree,I.hok,I.bare⟩
theorem aU.after{Q:VK}{u:Value}(I:aU X pins σ H s)(h:CE X.stack X.prog X.w H s Q u s'):EP X pins σ Q u s':=by
 obtain⟨v,H',os,bare,un,hok,r,q⟩:=h
 obtain⟨hh,g,d,t,os'⟩:=s'
 obtain rfl:os'=s.os:=os
 exact⟨v,H',I.call (h':=hh) (g':=g) (d':=d) (t':=t) (ch:=[]) un hok bare (fun b z=>absurd z (by simp)),r,q⟩
end
def pN(sp:Sp)(dvs:List V)(E:XK)(t:TA):TE:=fun σ H Q=>t σ H fun vs H1=>sp (vs++dvs) H1 Q E
def yE(C:Addr)(sp:Sp)(dvs:List V)(E:XK)(t:TA):TE:=fun σ H Q=>t σ H fun vs H1=>∀x dx,H1 x=none→H1 dx=none→dx≠x→
 sp (.ref x::(vs++dvs)) (upd (upd H1 dx (.own x)) x (.ins C dx [])) (fun v H2=>v=.non∧Q (.ref x) H2) E
def dO(K:PySem.W.Frag)(fd:FuncData)(ps:List Str)(ds:List Value):Prop:=
 ∀(s:Shared) (us:List Value),K.In s.heap→(us++ds).length=ps.length→BindsTo s fd ⟨us,[]⟩ (ps.zip (us++ds))
theorem dO.all{K:PySem.W.Frag}{fd:FuncData}{ps:List Str}(h:∀us:List Value,us.length=ps.length→bindArgs fd ⟨us,[]⟩=pure (ps.zip us)):dO K fd ps []:=fun s us _ hl=>by
 rw [List.append_nil]at hl ⊢
 exact .of_eq (h us hl)
def mD(CX:sH)(X:Cx)(E:XK):Prop:=∀(pins:List (Addr×Obj)) (σ:St) (H:Hp) (s:Shared) (e:Value) (s':Shared),aU X pins σ H s→CX X.stack H s E e s'→X.xe e s'
section
variable {X:Cx} {CX:sH} {k:Nat} {f C:Addr} {fd:FuncData} {ps:List Str} {sp:Sp} {dvs:List V} {ds:List Value} {E:XK} {x m:Str} {p pos apos:Pos} {e o:Expr} {es:List Expr} {ta:TE} {t:TA}
theorem nk{pins:List (Addr×Obj)}{σ:St}{H:Hp}{s:Shared}{Q:VK}{us:List Value}{vs:List V}(F:aP X.prog X.w X.K X.mg X.base CX k f fd ps sp)(hr:dy k X.A)(hb:dO X.K fd ps ds)(hd:aW dvs ds)(hx:mD CX X E)
  (I:aU X pins σ H s) (r:aW vs us) (h:sp (vs++dvs) H Q E):wpAny (model X.prog X.w) X.A (call (.ref f) us) (EP X pins σ Q) X.xe s:=by
 have r2:aW (vs++dvs) (us++ds):=r.append hd
 have hl:(us++ds).length=ps.length:=by rw [←r2.length];exact F.len _ _ _ _ h
 refine wpAny_call (codeAny_mono (F.run X.A X.stack s H ⟨us,[]⟩ (us++ds) (vs++dvs) Q E hr I.env0 (hb s us I.kIn hl) r2 h) fun r s' hq=>?_)
 cases r with
 | error e=>exact hx pins σ H s e s' I hq
 | ok fl=>
  cases fl with
  | ret u=>exact I.after hq
  | next=>exact False.elim hq
  | brk=>exact False.elim hq
  | cont=>exact False.elim hq
theorem uX(F:aP X.prog X.w X.K X.mg X.base CX k f fd ps sp)(hr:dy k X.A)(hg:Gl X x)(hm:X.mg x=some (.ref f))(hk:PySem.W.keepIn X.K (.ref f)=true)(hb:dO X.K fd ps ds)(hd:aW dvs ds)(hx:mD CX X E)
  (ha:PA X (e::es) t) (hdb:(x == ("__debug__":Str))=false:=by decide) (he:starEach (e::es) X.env=(false,eval e X.env)::starEach es X.env:=by rfl) (hpl:(backTo pos (starEach es X.env)).any (·.1)=false:=by rfl) :
  PE X (.Call (.Name x p) (e::es) [] pos) (pN sp dvs E t):=by
 intro pins s σ H Q I h
 refine wpAny_Call_Name_kw (ma I hg hm ?_ hdb)
 refine PySem.W.callWith_K (h₀:=X.base) I.ok.mod.kin hk (cL (ha pos pins s σ H _ I h) fun us s1 ⟨vs,H1,I1,r,q⟩=>⟨I1.kIn,?_⟩) he hpl
 exact nk F hr hb hd hx I1 r q
structure Mk(K:PySem.W.Frag)(C f:Addr):Prop where
 makes:PySem.W.makesIn K C=true
 init:PySem.W.findIn K (.ref C) "__init__"=some (some (.ref f))
 fn:PySem.W.isFn K (.ref f)=true
 kp:PySem.W.keepIn K (.ref C)=true
theorem yp{pins:List (Addr×Obj)}{σ:St}{H:Hp}{s:Shared}{Q:VK}{us:List Value}{vs:List V}(M:Mk X.K C f)(F:aP X.prog X.w X.K X.mg X.base CX k f fd ps sp)(hr:dy (k+1) X.A)(hb:dO X.K fd ps ds)(hd:aW dvs ds)
  (hx:mD CX X E) (I:aU X pins σ H s) (r:aW vs us)
  (h:∀x dx,H x=none→H dx=none→dx≠x→sp (.ref x::(vs++dvs)) (upd (upd H dx (.own x)) x (.ins C dx [])) (fun v H2=>v=.non∧Q (.ref x) H2) E) :
  wpAny (model X.prog X.w) X.A (call (.ref C) us) (EP X pins σ Q) X.xe s:=by
 have hq:=h (s.heap.objs.size+1) s.heap.objs.size (I.hok.fresh (Nat.le_succ _)) (I.hok.fresh (Nat.le_refl _)) (Nat.ne_of_lt (Nat.lt_succ_self _))
 have I2:=aU.made (C:=C) I
 have r2:aW (V.ref (s.heap.objs.size+1)::(vs++dvs)) (Value.ref (s.heap.objs.size+1)::(us++ds)):=.cons rfl (r.append hd)
 have hl:(Value.ref (s.heap.objs.size+1)::us++ds).length=ps.length:=by
  have e:=r2.length
  rw [F.len _ _ _ _ hq]at e
  exact e.symm
 refine wpAny_call (xH (f:=f) I.kIn M.makes M.init (beq_iff_eq.mp M.fn) (codeAny_mono (F.run _ X.stack _ _ ⟨Value.ref (s.heap.objs.size+1)::us,[]⟩ (Value.ref (s.heap.objs.size+1)::(us++ds)) _ _ E (hr.make C us [])
  (I2.env0.make C us []) (hb _ (Value.ref (s.heap.objs.size+1)::us) I2.kIn hl) r2 hq) fun r s' hq'=>?_))
 cases r with
 | error e=>exact hx pins σ _ _ e s' I2 hq'
 | ok fl=>
  cases fl with
  | ret u=>
   obtain⟨v,H',I3,rv,ev,q3⟩:=I2.after hq'
   subst ev
   exact⟨rv,⟨V.ref (s.heap.objs.size+1),H',I3,rfl,q3⟩⟩
  | next=>exact False.elim hq'
  | brk=>exact False.elim hq'
  | cont=>exact False.elim hq'
theorem zJ(M:Mk X.K C f)(F:aP X.prog X.w X.K X.mg X.base CX k f fd ps sp)(hr:dy (k+1) X.A)(hg:Gl X x)(hm:X.mg x=some (.ref C))(hb:dO X.K fd ps ds)(hd:aW dvs ds)(hx:mD CX X E)
  (ha:PA X (e::es) t) (hdb:(x == ("__debug__":Str))=false:=by decide) (he:starEach (e::es) X.env=(false,eval e X.env)::starEach es X.env:=by rfl) (hpl:(backTo pos (starEach es X.env)).any (·.1)=false:=by rfl) :
  PE X (.Call (.Name x p) (e::es) [] pos) (yE C sp dvs E t):=by
 intro pins s σ H Q I h
 refine wpAny_Call_Name_kw (ma I hg hm ?_ hdb)
 refine PySem.W.callWith_K (h₀:=X.base) I.ok.mod.kin M.kp (cL (ha pos pins s σ H _ I h) fun us s1 ⟨vs,H1,I1,r,q⟩=>⟨I1.kIn,?_⟩) he hpl
 exact yp M F hr hb hd hx I1 r q
end
def PK(X:Cx)(kws:List Keyword)(t:TA):Prop:=
 ∀(pos:Pos) (pins:List (Addr×Obj)) (s:Shared) (σ:St) (H:Hp) (Q:List V→Hp→Prop),aU X pins σ H s→t σ H Q→wpAny (model X.prog X.w) X.A (evalAll ((backToKw pos (keywordEach kws X.env)).map (·.2))) (AP X pins σ Q) X.xe s
section
variable {X:Cx} {CX:sH} {k:Nat} {f C:Addr} {fd:FuncData} {ps ks:List Str} {sp:Sp} {E:XK} {x m:Str} {p pos apos kpos:Pos} {e o:Expr} {es:List Expr} {kws:List Keyword} {te ta:TE} {t tk:TA} {nm:Option Str}
theorem Bc:PK X [] sD:=fun _ _ _ _ H Q I h=>wpAny_evalAll_nil ⟨[],H,I,.nil,h⟩
theorem zL(ha:PE X e te)(hr:PK X kws t):PK X (⟨nm,e,kpos⟩::kws) (nQ te t):=by
 intro pos pins s σ H Q I h
 show wpAny _ _ (evalAll ((do let v ←eval e X.env;standAt pos;pure v)::(backToKw pos (keywordEach kws X.env)).map (·.2))) _ _ s
 refine wpAny_evalAll_cons (wpAny_bind (cL (ha pins s σ H _ I h) fun u s1 ⟨x,H1,I1,r1,q1⟩=>wpAny_bind (wpAny_standAt (wpAny_pure ?_))))
 exact cL (hr pos pins s1 σ H1 _ I1 q1) fun us s2 ⟨xs,H2,I2,r2,q2⟩=>⟨x::xs,H2,I2,.cons r1 r2,q2⟩
variable {g:List Value→List Value→List Value} {gV:List V→List V→List V}
end
structure aB(N P:List Str)(sc:Scope):Prop where
 kind:sc.kind=.function
 co:sc.isCoroutine=false
 gen:sc.isGenerator=false
 nd:N.Nodup
 pre:N.take P.length=P
 par:∀x∈P,sc.names.lookup x=some .local∨sc.names.lookup x=some .cell
 nofree:∀y∈sc.names,y.2≠.free
theorem pd{kindOf:Str→Option NameKind}{x:Str}:∀{binds:List (Str×Value)} {m:Str→Option Value},(∀v,(x,v)∉binds)→bindL kindOf binds m x=m x
 | [],_,_=>rfl
 | (n,v)::r,m,h=>by
  unfold bindL
  rw [pd fun w hw=>h w (List.mem_cons_of_mem _ hw)]
  split
  ·have:x≠n:=by rintro rfl;exact h v List.mem_cons_self
   simp [this]
  ·rfl
theorem oZ{kindOf:Str→Option NameKind}{x:Str}:∀{binds:List (Str×Value)} {m:Str→Option Value},(∀v,(x,v)∉binds)→bindC kindOf binds m x=m x
 | [],_,_=>rfl
 | (n,v)::r,m,h=>by
  unfold bindC
  rw [oZ fun w hw=>h w (List.mem_cons_of_mem _ hw)]
  split
  ·rfl
  ·have:x≠n:=by rintro rfl;exact h v List.mem_cons_self
   simp [this]
theorem pb{kindOf:Str→Option NameKind}{x:Str}{v:Value}:∀{P:List Str} {vs:List Value} {i:Nat} {m:Str→Option Value},P.Nodup→P[i]?=some x→vs[i]?=some v→kindOf x=some .local→
  bindL kindOf (P.zip vs) m x=some v
 | [],_,_,_,_,h,_,_=>by simp at h
 | _::_,[],_,_,_,_,h,_=>by simp at h
 | p::P,w::vs,0,m,nd,h1,h2,hk=>by
  simp at h1 h2;subst h1;subst h2
  show bindL kindOf ((p,w)::P.zip vs) m p=_
  unfold bindL
  rw [pd fun v hv=>(List.nodup_cons.mp nd).1 (List.of_mem_zip hv).1,if_pos hk]
  simp
 | p::P,w::vs,i+1,m,nd,h1,h2,hk=>by
  show bindL kindOf ((p,w)::P.zip vs) m x=_
  unfold bindL
  exact pb (i:=i) (List.nodup_cons.mp nd).2 (by simpa using h1) (by simpa using h2) hk
theorem oY{kindOf:Str→Option NameKind}{x:Str}{v:Value}:∀{P:List Str} {vs:List Value} {i:Nat} {m:Str→Option Value},P.Nodup→P[i]?=some x→vs[i]?=some v→kindOf x≠some .local→
  bindC kindOf (P.zip vs) m x=some v
 | [],_,_,_,_,h,_,_=>by simp at h
 | _::_,[],_,_,_,_,h,_=>by simp at h
 | p::P,w::vs,0,m,nd,h1,h2,hk=>by
  simp at h1 h2;subst h1;subst h2
  show bindC kindOf ((p,w)::P.zip vs) m p=_
  unfold bindC
  rw [oZ fun v hv=>(List.nodup_cons.mp nd).1 (List.of_mem_zip hv).1,if_neg hk]
  simp
 | p::P,w::vs,i+1,m,nd,h1,h2,hk=>by
  show bindC kindOf ((p,w)::P.zip vs) m x=_
  unfold bindC
  exact oY (i:=i) (List.nodup_cons.mp nd).2 (by simpa using h1) (by simpa using h2) hk
def start(N:List Str)(vs:List V):St:=vs.map some++List.replicate (N.length - vs.length) none
def rm(CX:sH)(P:Program)(w:World)(K:PySem.W.Frag)(mg:Str→Option Value)(base:Heap)(N:List Str)(qual:Str)(scope:Scope)(f:Addr)(cd:Value)(A:Around)(outer:List Env)(s:Shared)(H:Hp)(E:XK):Cx where
 prog:=P
 w:=w
 K:=K
 mg:=mg
 base:=base
 A:=A.deeper (envOfC qual scope s.heap.objs.size f cd)
 N:=N
 s₀:=s
 H₀:=H
 env:=envOfC qual scope s.heap.objs.size f cd
 outer:=outer
 stack:=envOfC qual scope s.heap.objs.size f cd::outer
 ex:=[]
 calm:=true
 fn:=fun _=>true
 pn:=[]
 xe:=fun e s'=>wpAny (model P w) (A.deeper (envOfC qual scope s.heap.objs.size f cd)) (leaving (envOfC qual scope s.heap.objs.size f cd) e) (fun _ s''=>CX outer H s E e s'') (fun e' s''=>CX outer H s E e' s'') s'
theorem rg{sc:Scope}{n:Nat}{x:Str}(h:sc.names.lookup x=some .cell):∃c,(cellsFrom n sc.names []).lookup x=some c:=by
 have q:=PySem.W.cellsFrom_some sc.names n [] (.inl h)
 exact Option.isSome_iff_exists.mp q
theorem vJ{CX:sH}{P:Program}{w:World}{K:PySem.W.Frag}{mg:Str→Option Value}{base:Heap}{N ps:List Str}{qual:Str}{scope:Scope}{f:Addr}{cd:Value}{A:Around}{outer:List Env}{s s1:Shared}{H:Hp}{E:XK}{us:List Value}{vs:List V}
  (S:aB N ps scope) (hd:A.handled=none) (e0:sM P w K mg base A outer s H) (hl:vs.length=ps.length) (r:aW vs us)
  (x:InCallC s s.heap.objs.size (bindL (envOfC qual scope s.heap.objs.size f cd).kindOf (ps.zip us) fun _=>none) (cellsFrom (s.heap.objs.size+1) scope.names []) (bindC (envOfC qual scope s.heap.objs.size f cd).kindOf (ps.zip us) fun _=>none) s1) :
  aU (rm CX P w K mg base N qual scope f cd A outer s H E) [] (start N vs) H s1:=by
 have hpl:ps.length≤N.length:=by have:=congrArg List.length S.pre;rw [List.length_take]at this;omega
 obtain⟨h1,tk,rfl,hk⟩:=x.done
 have noA:∀b:Addr,b∉(rm CX P w K mg base N qual scope f cd A outer s H E).ex:=fun b z=>absurd (show b∈([]:List Addr)from z) (by simp)
 refine⟨⟨e0.mod,S.kind,rfl,rfl,Nat.le_refl _,fun y z c h1 h2=>?_,fun y hy=>?_,fun y c _ h=>?_,fun _=>hd,Around.frames_deeper e0.frames,.inr ⟨rfl,rfl⟩,fun b z=>absurd z (noA b),e0.bs,e0.bsz,fun b _ _=>noA b,fun b z=>absurd z (noA b),e0.funs,e0.frf⟩,
  rfl,e0.bare,Un.kept hk,⟨_,x.toInCall.ns,fun i y v h1 h2 h3=>?_⟩,fun y c h=>⟨_,x.cell y c h⟩,e0.hok.fresh (Nat.le_refl _),fun y c h=>?_,fun p hp=>absurd (show p∈([]:List (Addr×Obj))from hp) (by simp),e0.hok.kept hk,?_⟩
 ·exact name_of_addr x.apart (PySem.mem_of_lookup h1) (PySem.mem_of_lookup h2)
 ·have hy:scope.names.lookup y=some .cell∨scope.names.lookup y=some .free:=hy
  rcases hy with hy | hy
  ·exact rg hy
  ·exact absurd rfl (S.nofree _ (PySem.mem_of_lookup hy))
 ·exact Nat.le_of_lt (x.above y c (PySem.mem_of_lookup h))
 ·have hi:i < vs.length:=by
   unfold start at h2
   by_cases hi:i < vs.length
   ·exact hi
   ·rw [List.getElem?_append_right (by simpa using hi)]at h2
    rw [List.getElem?_replicate]at h2
    split at h2<;>cases h2
  have ha:vs[i]?=some v:=by
   unfold start at h2
   rw [List.getElem?_append_left (by simpa using hi),List.getElem?_map]at h2
   cases e:vs[i]? with
   | none=>rw [e]at h2;cases h2
   | some a=>rw [e]at h2;cases h2;rfl
  obtain⟨u,hu,rv⟩:=r.get ha
  have hp:ps[i]?=some y:=by
   rw [←S.pre,List.getElem?_take_of_lt (by omega)];exact h1
  have ndP:ps.Nodup:=by rw [←S.pre];exact S.nd.sublist (List.take_sublist _ _)
  refine⟨u,rv,?_⟩
  rcases S.par y (List.mem_of_getElem? hp)with k | k
  ·exact .inl ⟨k,pb ndP hp hu k⟩
  ·obtain⟨c,e⟩:=rg (n:=s.heap.objs.size+1) k
   refine .inr ⟨.inl k,c,e,?_⟩
   have q:=x.cell y c e
   rw [oY ndP hp hu (by show scope.names.lookup y≠_;rw [k];decide)]at q
   exact q
 ·exact e0.hok.fresh (Nat.le_of_lt (x.above y c (PySem.mem_of_lookup h)))
 ·unfold start
  show _=N.length
  rw [List.length_append,List.length_map,List.length_replicate]
  omega
theorem Ak{CX:sH}{P:Program}{w:World}{K:PySem.W.Frag}{mg:Str→Option Value}{base:Heap}{k:Nat}{f:Addr}{name qual:Str}{params:Arguments}{body:List Stmt}{scope:Scope}{dV kV doc pm cdv ct oc:Value}{an od:Option Addr}
  {osl:Array (Option Value)} {N ps:List Str} {sp:Sp} (lk:K.lookup f=some ⟨oc,od,.func (PySem.W.fnOf name qual params body scope dV kV doc pm an cdv ct),osl⟩) (hcd:PySem.W.codeIn K cdv qual=true) (S:aB N ps scope)
  (len:∀vs H Q E,sp vs H Q E→vs.length=ps.length)
  (hbody:∀(A:Around) (outer:List Env) (s:Shared) (H:Hp) (vs:List V) (Q:VK) (E:XK),dy k (A.deeper (envOfC qual scope s.heap.objs.size f cdv))→sp vs H Q E→
   ∃t,uI (rm CX P w K mg base N qual scope f cdv A outer s H E) body t∧t { nx:=fun _ H'=>Q .non H',rt:=Q } (start N vs) H) :
  aP P w K mg base CX (k+1) f (PySem.W.fnOf name qual params body scope dV kV doc pm an cdv ct) ps sp:=by
 refine⟨len,fun A outer s H args us vs Q E hr e0 hb r hsp=>?_⟩
 have hl:=len _ _ _ _ hsp
 have KX:K.In s.heap:=e0.mod.kin.keeps fun b o e=>(e0.bs b o e).1
 have lim:s.heap.NoLimit:=e0.mod.nolimit.keeps fun b o e=>(e0.bs b o e).1
 have hkind:∀y∈ps.zip us,scope.names.lookup y.1=some .local∨(scope.names.lookup y.1=some .cell∧((cellsFrom (s.heap.objs.size+1) scope.names []).lookup y.1).isSome=true):=fun⟨n,v⟩ hy=>by
  rcases S.par n (List.of_mem_zip hy).1 with q | q
  ·exact .inl q
  ·exact .inr ⟨q,PySem.W.cellsFrom_some _ _ _ (.inl q)⟩
 refine codeAny_call_function hr.depth (KX _ _ lk) rfl S.co S.gen rfl (PySem.W.codeRec_of KX hcd) (hb _ _ _ _ ?_)
 refine wpAny_newFunctionEnv_cells S.kind hkind fun env he s1 x=>?_
 subst he
 refine⟨lim.keeps x.toInCall.keep,codeAny_func ?_⟩
 obtain⟨t,ht,hq⟩:=hbody A outer s H vs Q E (hr.deeper _) hsp
 have I:aU (rm CX P w K mg base N qual scope f cdv A outer s H E) [] (start N vs) H s1:=vJ S hr.hd e0 hl r x
 refine wpAny_mono (ht [] s1 (start N vs) H _ I hq) (fun fl s' hs=>?_) fun e s' hs=>hs
 have fin:∀{σ':St} {H':Hp} {v:V} {u:Value},aU (rm CX P w K mg base N qual scope f cdv A outer s H E) [] σ' H' s'→bh v u→Q v H'→CE outer P w H s Q u s':=
  fun {σ' H' v u} J rv q=>⟨v,H',J.os,J.bare,J.base,J.hok,rv,q⟩
 cases fl with
 | ret u=>
  obtain⟨v,σ',H',J,rv,q⟩:=hs
  exact fin J rv q
 | next=>
  obtain⟨σ',H',J,q⟩:=hs
  exact fin (v:=V.non) (u:=Value.none) J rfl q
 | brk=>
  obtain⟨_,_,_,q⟩:=hs
  exact False.elim q
 | cont=>
  obtain⟨_,_,_,q⟩:=hs
  exact False.elim q
end L2
namespace L2
open PySem PySem.Spec PyProof.Rows
section
variable {X:Cx} {x:Str} {p pos:Pos} {e:Expr} {es:List Expr} {t:TA} {id T:String} {r:List V→Hp→VK→Prop}
def Bs(r:List V→Hp→VK→Prop)(t:TA):TE:=fun σ H Q=>t σ H fun vs H1=>r vs H1 Q
theorem aH(hc:cJ X (.builtin id) r)(hg:Gl X x)(hm:X.mg x=none)(hv:bootBuiltins x=some (.builtin id))(ha:PA X (e::es) t)(hn:x≠"__name__":=by decide)(hdb:(x == ("__debug__":Str))=false:=by decide)
  (he:starEach (e::es) X.env=(false,eval e X.env)::starEach es X.env:=by rfl) (hpl:(backTo pos (starEach es X.env)).any (·.1)=false:=by rfl):PE X (.Call (.Name x p) (e::es) [] pos) (Bs r t):=by
 intro pins s σ H Q I h
 refine wpAny_Call_Name_kw (fq I hg hm hv ?_ hn hdb)
 exact PyProof.Rows.callWith_builtin1 (cL (ha pos pins s σ H _ I h) fun us s1 ⟨vs,H1,I1,r1,q1⟩=>hc pins s1 σ H1 vs us Q I1 r1 q1) he hpl
theorem bF(hc:cJ X (.type T) r)(hg:Gl X x)(hm:X.mg x=none)(hv:bootBuiltins x=some (.type T))(ha:PA X (e::es) t)(hn:x≠"__name__":=by decide)(hdb:(x == ("__debug__":Str))=false:=by decide)
  (he:starEach (e::es) X.env=(false,eval e X.env)::starEach es X.env:=by rfl) (hpl:(backTo pos (starEach es X.env)).any (·.1)=false:=by rfl):PE X (.Call (.Name x p) (e::es) [] pos) (Bs r t):=by
 intro pins s σ H Q I h
 refine wpAny_Call_Name_kw (fq I hg hm hv ?_ hn hdb)
 exact PyProof.Rows.callWith_type1 (cL (ha pos pins s σ H _ I h) fun us s1 ⟨vs,H1,I1,r1,q1⟩=>hc pins s1 σ H1 vs us Q I1 r1 q1) he hpl
end
end L2
namespace HT
open PySem PyProof.Rows
def lexLt:List Int→List Int→Bool
 | [],[]=>false
 | [],_::_=>true
 | _::_,[]=>false
 | x::xs,y::ys=>if x=y then lexLt xs ys else decide (x < y)
theorem tw(x y:Int)(xs ys:List Int):lexLt (x::xs) (y::ys)=if x=y then lexLt xs ys else decide (x < y):=rfl
theorem n8:lexLt [] []=false:=rfl
theorem mT(y:Int)(ys:List Int):lexLt [] (y::ys)=true:=rfl
theorem mS(x:Int)(xs:List Int):lexLt (x::xs) []=false:=rfl
theorem xf(A:Around)(s:Shared)(a:Int)(t:Tok)(c:Int)(u:Tok):∃e,SeqAt.EqAt A s (.int a t) (.int c u) e∧(e=true↔a=c):=
 ⟨(a == c),SeqAt.EqAt.int_int a t c u,by simp⟩
theorem yi(A:Around)(s:Shared)(a:Int)(t:Tok)(c:Int)(u:Tok)(prog:Program)(w:World)(E:Value→Shared→Prop)(Q:Value→Shared→Prop)(h:Q (.bool (decide (a < c))) s):
  wpAny (model prog w) A (richCompare .Lt (.int a t) (.int c u)) Q E s:=
 (PyProof.Rows.lt_int h:wpAny (model prog w) A (compareOp .Lt (.int a t) (.int c u)) Q E s)
section
open PySem.SeqAt
open PySem.AutoSeq1 (wpAny_loadPart')
open PySem.MeetsSeq PySem.MeetsSeq2 PySem.MeetsSeq3
theorem oU(l b:Addr)(items items2:Array Value)(n n2:Nat)(dd dd2:Option Addr)(sl sl2:Array (Option Value))(ns ms:List Int)(hi:IntsAre items.toList ns)(hj:IntsAre items2.toList ms):
  Meets (Builtin.«tuple.__lt__» ⟨[.ref l,.ref b],[]⟩)
   (fun _ R s=>s.heap.get? l=some { cls:=.type "tuple",dict:=dd,data:=.seq items n,slots:=sl }∧s.heap.get? b=some { cls:=.type "tuple",dict:=dd2,data:=.seq items2 n2,slots:=sl2 }∧
    R (.ok (.ret (.bool (lexLt ns ms)))) s):=
 .of_wp fun prog w A R s h=>by
  obtain⟨hp,g,d,tk,os⟩:=s;obtain⟨hl,hb,h⟩:=h
  have f2:=AutoSeq1.sub_tuple_tuple
  have z1:items.size=ns.length:=by rw [←hi.length];simp
  have z2:items2.size=ms.length:=by rw [←hj.length];simp
  wp_walk using wpAny_loadPart' hl,wpAny_loadPart' hb,wpAny_forIn_list _ (fun rest b s'=>b.1=none∧s'=⟨hp,g,d,tk,os⟩∧∃(vs ws:List Value) (ns' ms':List Int),rest=vs.zip ws∧
   IntsAre vs ns'∧IntsAre ws ms'∧ns'.length+items2.size=ms'.length+items.size∧R (.ok (.ret (.bool (lexLt ns' ms')))) ⟨hp,g,d,tk,os⟩) _
  case turn=>
   rintro⟨y,x⟩ rest b s' ⟨hb',rfl,vs,ws,ns',ms',hz,hvi,hwi,hlen,hR⟩
   cases hvi with
   | nil=>rw [List.zip_nil_left]at hz;cases hz
   | cons a t hvi'=>
    cases hwi with
    | nil=>rw [List.zip_nil_right]at hz;cases hz
    | cons c u hwi'=>
     rw [List.zip_cons_cons]at hz
     injection hz with hyx hrest
     injection hyx with hy hx
     subst hy hx
     rw [tw]at hR
     simp only [List.length_cons]at hlen
     obtain⟨e,he,hiff⟩:=xf A.in1 ⟨hp,g,d,tk,os⟩ a t c u
     refine wpAny_bind (he prog w _ _ ?_)
     cases e with
     | true=>
      rw [if_pos (hiff.mp rfl)]at hR
      wp_walk
      exact⟨rfl,rfl,_,_,_,_,hrest,hvi',hwi',by omega,hR⟩
     | false=>
      rw [if_neg (fun q=>absurd (hiff.mpr q) Bool.false_ne_true)]at hR
      have hri:=yi A.in1 ⟨hp,g,d,tk,os⟩ a t c u prog w
      wp_walk using hri
      exact⟨_,rfl,by simpa using hR⟩
  case fin=>
   rintro⟨b1,b2⟩ s' ⟨hb',rfl,vs,ws,ns',ms',hz,hvi,hwi,hlen,hR⟩
   simp only at hb'
   subst hb'
   have hv:lexLt ns' ms'=decide (items.size < items2.size):=by
    cases hvi with
    | nil=>
     cases hwi with
     | nil=>
      simp only [List.length_nil]at hlen
      rw [n8]
      exact(decide_eq_false (by omega)).symm
     | cons c u hw=>
      simp only [List.length_nil,List.length_cons]at hlen
      rw [mT]
      exact(decide_eq_true (by omega)).symm
    | cons a t hv=>
     cases hwi with
     | nil=>
      simp only [List.length_nil,List.length_cons]at hlen
      rw [mS]
      exact(decide_eq_false (by omega)).symm
     | cons c u hw=>
      rw [List.zip_cons_cons]at hz
      cases hz
   rw [hv]at hR
   wp_walk
   exact⟨_,rfl,by simpa [Builtin.Tuple.tupleCompareSizes]using hR⟩
  case h=>
   exact⟨rfl,rfl,items.toList,items2.toList,ns,ms,rfl,hi,hj,by omega,h⟩
end
section
variable {prog:Program} {w:World} {A:Around} {E:Value→Shared→Prop} {s:Shared}
theorem lt_tupInts{l b:Addr}{items items2:Array Value}{ns ms:List Int}{Q:Value→Shared→Prop}(hl:IsTup s.heap l items)(hb:IsTup s.heap b items2)(hi:IntsAre items.toList ns)(hj:IntsAre items2.toList ms)
  (hu:A.units < cLine) (h:Q (.bool (lexLt ns ms)) s):wpAny (model prog w) A (compareOp .Lt (.ref l) (.ref b)) Q E s:=by
 obtain⟨⟨cls,dd,data,sl⟩,ho,hc,n,hd⟩:=id hl
 obtain⟨⟨cls2,dd2,data2,sl2⟩,ho2,hc2,n2,hd2⟩:=id hb
 simp only at hc hd hc2 hd2
 subst hc hd hc2 hd2
 exact richCompare_meets_room (op:=.Lt) ⟨_,ho,rfl⟩ ⟨_,ho2,rfl⟩ PySem.F.slot_tuple_lt PySem.F.entry_tuple_lt (PySem.F.args_tuple_lt_2 _ _) (oU l b items items2 n n2 dd dd2 sl sl2 ns ms hi hj)
  ⟨ho,ho2,show Value.bool (lexLt ns ms)≠Value.notImplemented∧Q (.bool (lexLt ns ms)) s from⟨(fun x=>nomatch x),h⟩⟩ hu
theorem cat_tup{t b:Addr}{vs ws:List Value}{Q:Value→Shared→Prop}(ht:IsTup s.heap t vs.toArray)(hb:IsTup s.heap b ws.toArray)(hv:vs≠[])
  (h1:ws=[]→Q (.ref t) s) (h2:ws≠[]→Q (.ref s.heap.objs.size) { s with heap:=s.heap.push { cls:=.type "tuple",data:=.seq (vs++ws).toArray } })
  (hsz:vs.length+ws.length≤sizeLine):wpAny (model prog w) A (binaryOp .Add (.ref t) (.ref b)) Q E s:=by
 obtain⟨⟨cls,dd,data,sl⟩,ho,hc,n,hd⟩:=id ht
 obtain⟨⟨cls2,dd2,data2,sl2⟩,ho2,hc2,n2,hd2⟩:=id hb
 simp only at hc hd hc2 hd2
 subst hc hd hc2 hd2
 have e:vs.toArray++ws.toArray=(vs++ws).toArray:=by simp
 by_cases hw:ws=[]
 ·exact concat_meets ⟨_,ho,rfl⟩ ⟨_,ho2,rfl⟩ noFill_tuple_add seq_tuple_add PySem.F.slot_tuple_add PySem.F.entry_tuple_add (PySem.F.args_tuple_add_2 _ _)
   (tuple_addW1 t b vs.toArray ws.toArray n n2 dd dd2 sl sl2 (by simpa using hv) (by simp [hw])) ⟨ho,ho2,h1 hw⟩
 ·refine concat_meets ⟨_,ho,rfl⟩ ⟨_,ho2,rfl⟩ noFill_tuple_add seq_tuple_add PySem.F.slot_tuple_add PySem.F.entry_tuple_add (PySem.F.args_tuple_add_2 _ _)
   (tuple_addW2 t b vs.toArray ws.toArray n n2 dd dd2 sl sl2 (by simpa using hv) (by simpa using hw) (by rw [List.size_toArray,List.size_toArray];exact hsz)) ⟨ho,ho2,?_⟩
  rw [e]
  exact h2 hw
def sIx(n d:Nat):Option Int→Nat
 | none=>d
 | some v=>if v < 0 then(v+(n:Int)).toNat else min v.toNat n
theorem sIx_none(n d:Nat):sIx n d none=d:=rfl
theorem sIx_nat(n d k:Nat):sIx n d (some (k:Int))=min k n:=by
 show(if (k:Int) < 0 then((k:Int)+(n:Int)).toNat else min (k:Int).toNat n)=min k n
 rw [if_neg (by omega),Int.toNat_natCast]
theorem Bo(n d:Nat)(hd:d≤n)(o:Option Int):sIx n d o≤n:=by
 cases o with
 | none=>exact hd
 | some v=>
  show(if v < 0 then(v+(n:Int)).toNat else min v.toNat n)≤n
  by_cases hv:v < 0
  ·rw [if_pos hv];omega
  ·rw [if_neg hv];exact Nat.min_le_right _ _
theorem uN(v:Int)(n d:Nat):(if v < 0 then max (v+(n:Int)) 0 else min v (n:Int))=((sIx n d (some v):Nat):Int):=by
 show(if v < 0 then max (v+(n:Int)) 0 else min v (n:Int))=(((if v < 0 then(v+(n:Int)).toNat else min v.toNat n):Nat):Int)
 by_cases hv:v < 0
 ·simp only [if_pos hv];omega
 ·simp only [if_neg hv];omega
theorem sP(lo hi:Option Int)(n:Nat):Builtin.Slice.sliceAdjust lo hi 1 (n:Int)=(((sIx n 0 lo:Nat):Int),((sIx n n hi:Nat):Int)):=by
 have h1:¬((1:Int) < 0):=by omega
 unfold Builtin.Slice.sliceAdjust
 simp only [h1,if_false]
 refine Prod.ext ?_ ?_
 ·cases lo with
  | none=>rfl
  | some v=>exact uN v n 0
 ·cases hi with
  | none=>rfl
  | some v=>exact uN v n n
theorem tP(i j:Nat):Builtin.Slice.slicePlaces (i:Int) (j:Int) 1=j - i:=by
 unfold Builtin.Slice.slicePlaces
 have h1:(1:Int) > 0:=by omega
 simp only [h1,if_true,Int.ediv_one]
 split<;>omega
theorem nF{v:Value}{o:Option Int}{Q:Option Int→Shared→Prop}(p:IsPart v o)(h:Q o s):wpAny (model prog w) A (Builtin.Slice.slicePartIndex v) Q E s:=by
 cases p with
 | none=>exact slicePart_none h
 | int i t=>exact slicePart_int h
theorem kZ{sl:Addr}{vl vu:Value}{lo hi:Option Int}{n:Nat}{Q:Int×Int×Nat→Shared→Prop}(hs:s.heap.IsSliceOf sl vl vu .none)(pl:IsPart vl lo)(pu:IsPart vu hi)
  (h:Q (((sIx n 0 lo:Nat):Int),1,sIx n n hi - sIx n 0 lo) s):wpAny (model prog w) A (Builtin.Slice.sliceApplied (.ref sl) (pure (n:Int))) Q E s:=by
 obtain⟨os,hos,hcs,hds⟩:=id hs
 unfold Builtin.Slice.sliceApplied Builtin.Slice.sliceFields
 refine wpAny_bind (wpAny_bind (wpAny_field hos hds (x:=vl) rfl (wpAny_bind (wpAny_field hos hds (x:=vu) rfl (wpAny_bind (wpAny_field hos hds (x:=.none) rfl (wpAny_pure ?_)))))))
 refine wpAny_bind (slicePart_none ?_)
 show wpAny _ _ (if ((1:Int) == 0)=true then _ else _) _ _ s
 rw [if_neg (by decide)]
 refine wpAny_bind (nF pl (wpAny_bind (nF pu (wpAny_bind (wpAny_pure ?_)))))
 show wpAny _ _ (match Builtin.Slice.sliceAdjust lo hi 1 (n:Int)with | (lo,hi)=>pure (lo,(1:Int),Builtin.Slice.slicePlaces lo hi 1)) _ _ s
 rw [sP lo hi n]
 show wpAny _ _ (pure (((sIx n 0 lo:Nat):Int),(1:Int),Builtin.Slice.slicePlaces ((sIx n 0 lo:Nat):Int) ((sIx n n hi:Nat):Int) 1)) _ _ s
 rw [tP]
 exact wpAny_pure h
theorem x8(xs:Array Value)(i k:Nat):((List.range k).filterMap fun(m:Nat)=>xs[((i:Int)+(m:Int) * 1).toNat]?).toArray=((xs.toList.drop i).take k).toArray:=by
 have e:(fun(m:Nat)=>xs[((i:Int)+(m:Int) * 1).toNat]?)=fun m=>xs[i+m]?:=by
  funext m
  have:((i:Int)+(m:Int) * 1).toNat=i+m:=by omega
  rw [this]
 rw [e]
 have:=pick_run xs i k
 rw [List.filterMap_map]at this
 have e2:((fun x=>xs[x]?)∘fun x=>i+x)=fun m=>xs[i+m]?:=rfl
 rw [e2]at this
 rw [this]
theorem getItem_tuple_cut{t sl:Addr}{items:Array Value}{vl vu:Value}{lo hi:Option Int}{Q:Value→Shared→Prop}(ht:IsTup s.heap t items)(hs:s.heap.IsSliceOf sl vl vu .none)(pl:IsPart vl lo)(pu:IsPart vu hi)
  (hw:¬(sIx items.size 0 lo=0∧sIx items.size items.size hi=items.size))
  (h:Q (.ref s.heap.objs.size) { s with heap:=s.heap.push { cls:=.type "tuple",data:=.seq ((items.toList.drop (sIx items.size 0 lo)).take (sIx items.size items.size hi - sIx items.size 0 lo)).toArray } })
  (hsz:items.size≤sizeLine):wpAny (model prog w) A (getItem (.ref t) (.ref sl)) Q E s:=by
 have htake:sizeOk (.seq ((items.toList.drop (sIx items.size 0 lo)).take (sIx items.size items.size hi - sIx items.size 0 lo)).toArray):=by
  show((items.toList.drop (sIx items.size 0 lo)).take (sIx items.size items.size hi - sIx items.size 0 lo)).toArray.size≤sizeLine
  rw [List.size_toArray,List.length_take,List.length_drop,Array.length_toList]
  omega
 have hj:sIx items.size items.size hi≤items.size:=Bo _ _ (Nat.le_refl _) hi
 obtain⟨os,hos,hcs,hds⟩:=id hs
 have hTs:s.TypeIs (.ref sl) "slice":=⟨os,hos,hcs⟩
 unfold getItem
 try with_reducible refine wpAny_holding ?_
 first | refine wpAny_bind (wpAny_pure ?_) | skip
 refine wpAny_bind (wpAny_sequenceKey ht.typeIs (by decide) ?_)
 refine wpAny_bind (wpAny_callSpecial?_slot (name:=Str.ofString "__getitem__") ht.typeIs PyProof.Rows.slot_tuple_getitem
  (wpAny_call_entry PyProof.Rows.slot_tuple_getitem ht.typeIs entry_tuple_getitem ?_ (args_tuple_getitem _ _)))
 show wpAny _ _ (Builtin.Tuple.tupleItemsOf (.ref t) >>= _) _ _ s
 refine wpAny_bind (tupleItemsOf_ ht ?_)
 refine wpAny_bind (wpAny_typeOf hTs ?_)
 rw [if_pos (by decide)]
 refine wpAny_bind (kZ hs pl pu ?_)
 have hno:¬((((sIx items.size 0 lo:Nat):Int) == 0 && (1:Int) == 1 && (sIx items.size items.size hi - sIx items.size 0 lo) == items.size)=true):=by
  intro q
  rw [Bool.and_eq_true,Bool.and_eq_true]at q
  have q1:((sIx items.size 0 lo:Nat):Int)=0:=eq_of_beq q.1.1
  have q2:sIx items.size items.size hi - sIx items.size 0 lo=items.size:=eq_of_beq q.2
  exact hw ⟨by omega,by omega⟩
 show wpAny _ _ (if (((sIx items.size 0 lo:Nat):Int) == 0 && (1:Int) == 1 && (sIx items.size items.size hi - sIx items.size 0 lo) == items.size)=true then _ else _) _ _ s
 rw [if_neg hno,x8]
 first
  | exact wpAny_bind (m:=Builtin.Tuple.tupleExact _) (wpAny_newObj_type (wpAny_pure ⟨_,rfl,wpAny_pure h⟩) htake)
  | exact wpAny_bind (m:=Builtin.Tuple.tupleExact _) (wpAny_newObj_type (wpAny_bind (wpAny_pure (wpAny_pure ⟨_,rfl,wpAny_pure h⟩))) htake)
  | exact wpAny_bind (wpAny_bind (m:=Builtin.Tuple.tupleExact _) (wpAny_newObj_type (wpAny_pure (wpAny_pure ⟨_,rfl,wpAny_pure h⟩)) htake))
  | exact wpAny_bind (wpAny_bind (m:=Builtin.Tuple.tupleExact _) (wpAny_newObj_type (wpAny_pure ⟨_,rfl,wpAny_pure h⟩) htake))
end
end HT
namespace L2
open PySem PySem.Spec PyProof.Rows
abbrev TO:=St→Hp→(Option Int→Hp→Prop)→Prop
def PO(X:Cx)(e:Option Expr)(t:TO):Prop:=
 ∀(pins:List (Addr×Obj)) (s:Shared) (σ:St) (H:Hp) (Q:Option Int→Hp→Prop),aU X pins σ H s→t σ H Q→
  wpAny (model X.prog X.w) X.A (evalPart e X.env) (fun u s'=>∃o H',aU X pins σ H' s'∧IsPart u o∧Q o H') X.xe s
def qV:TO:=fun _ H Q=>Q none H
def vc(t:TE):TO:=fun σ H Q=>t σ H fun x H1=>∃i,x=.int i∧Q (some i) H1
theorem tj{ns:List Int}:∀{us:List Value},aW (ns.map V.int) us→IntsAre us ns:=by
 induction ns with
 | nil=>intro us r;rw [List.map_nil]at r;cases r;exact .nil
 | cons n ns ih=>
  intro us r
  rw [List.map_cons]at r
  cases r with
  | cons r1 r2=>
   obtain⟨t,e⟩:=r1
   subst e
   exact .cons n t (ih r2)
section
variable {X:Cx} {e:Expr} {te:TE} {lo hi:Option Expr} {tl th:TO} {pos p2:Pos}
theorem bz:PO X none qV:=by
 intro pins s σ H Q I h
 rw [evalPart_none]
 exact wpAny_pure ⟨none,H,I,.none,h⟩
theorem zM(h:PE X e te):PO X (some e) (vc te):=by
 intro pins s σ H Q I hw
 rw [evalPart_some]
 refine cL (h pins s σ H _ I hw) fun u s1 ⟨x,H1,I1,r1,q1⟩=>?_
 obtain⟨i,rfl,q⟩:=q1
 obtain⟨t,rfl⟩:=r1
 exact⟨some i,H1,I1,.int i t,q⟩
def yN(X:Cx)(r:V→Option Int→Option Int→Hp→VK→Prop):Prop:=
 ∀(pins:List (Addr×Obj)) (s:Shared) (σ:St) (H:Hp) (x:V) (v vl vu:Value) (lo hi:Option Int) (sl:Addr) (Q:VK),aU X pins σ H s→bh x v→s.heap.IsSliceOf sl vl vu .none→IsPart vl lo→IsPart vu hi→r x lo hi H Q→
  ∃T id,typeLookup (.type T) "__getitem__"=pure (some (.builtin id))∧s.TypeIs v T∧wpAny (model X.prog X.w) X.A (getItem v (.ref sl)) (EP X pins σ Q) X.xe s
theorem yN.or{r r':V→Option Int→Option Int→Hp→VK→Prop}(h:yN X r)(h':yN X r'):yN X (fun x lo hi H Q=>r x lo hi H Q∨r' x lo hi H Q):=by
 intro pins s σ H x v vl vu lo hi sl Q I rx hs pl pu q
 rcases q with q | q
 ·exact h pins s σ H x v vl vu lo hi sl Q I rx hs pl pu q
 ·exact h' pins s σ H x v vl vu lo hi sl Q I rx hs pl pu q
def CY(r:V→Option Int→Option Int→Hp→VK→Prop)(te:TE)(tl th:TO):TE:=fun σ H Q=>te σ H fun x H1=>tl σ H1 fun l H2=>th σ H2 fun u H3=>r x l u H3 Q
theorem aS{r:V→Option Int→Option Int→Hp→VK→Prop}(hr:yN X r)(he:PE X e te)(hl:PO X lo tl)(hu:PO X hi th):PE X (.Subscript e (.Slice lo hi none p2) pos) (CY r te tl th):=by
 intro pins s σ H Q I h
 refine Subscript_ (cL (he pins s σ H _ I h) fun v s1 ⟨x,H1,I1,r1,q1⟩=>?_)
 refine wpAny_Slice (cL (hl pins s1 σ H1 _ I1 q1) fun vl s2 ⟨l,H2,I2,pl,q2⟩=>cL (hu pins s2 σ H2 _ I2 q2) fun vu s3 ⟨u,H3,I3,pu,q3⟩=>?_)
 rw [evalPart_none]
 refine wpAny_pure ?_
 have I4:aU X pins σ H3 { s3 with heap:=s3.heap.push { cls:=.type "slice",data:=.fields #[vl,vu,.none] } }:=I3.kept (t':=s3.toks) fun b ob q=>Heap.get?_push_of_some _ q
 obtain⟨T,id,hT,ht,hg⟩:=hr pins { s3 with heap:=s3.heap.push { cls:=.type "slice",data:=.fields #[vl,vu,.none] } } σ H3 x v vl vu l u s3.heap.objs.size Q I4 r1 (Heap.IsSliceOf.new ..) pl pu q3
 show wpAny (model X.prog X.w) X.A (subscriptTail e (.Slice lo hi none p2) v (.ref s3.heap.objs.size)) (EP X pins σ Q) X.xe { s3 with heap:=s3.heap.push { cls:=.type "slice",data:=.fields #[vl,vu,.none] } }
 exact tail_any (ops:=[.ref s3.heap.objs.size,v]) ht hT hg (by with_unfolding_all rfl)
def fR(xs:List V)(lo hi:Option Int):List V:=(xs.drop (HT.sIx xs.length 0 lo)).take (HT.sIx xs.length xs.length hi - HT.sIx xs.length 0 lo)
theorem lE(xs:List V)(lo hi:Option Int):(fR xs lo hi).length≤xs.length:=by
 unfold fR
 rw [List.length_take,List.length_drop]
 omega
def Bm(K:PySem.W.Frag):V→Option Int→Option Int→Hp→VK→Prop:=fun x lo hi H Q=>∃a xs,x=.ref a∧cR K H a xs∧
 ¬(HT.sIx xs.length 0 lo=0∧HT.sIx xs.length xs.length hi=xs.length)∧∀p,H p=none→Q (.ref p) (upd H p (.tup (fR xs lo hi)))
theorem sl_tup:yN X (Bm X.K):=by
 intro pins s σ H x v vl vu lo hi sl Q I rx hs pl pu h
 obtain⟨a,xs,rfl,hx,hw,q⟩:=h
 cases rx
 obtain⟨its,r,ht,hz⟩:=I.tuple hx
 have hlen:its.toArray.size=xs.length:=by rw [List.size_toArray];exact r.length.symm
 refine⟨"tuple",_,PyProof.Rows.slot_tuple_getitem.lookup,ht.typeIs,?_⟩
 refine HT.getItem_tuple_cut ht hs pl pu (by rw [hlen];exact hw) ?_ (by rw [hlen];exact hz)
 rw [hlen]
 refine⟨.ref s.heap.objs.size,_,I.laid (t':=s.toks) (o:=.tup (fR xs lo hi)) (fun b ob q=>Heap.get?_push_of_some _ q) (Nat.le_refl _) ?_,rfl,q _ (I.hok.fresh (Nat.le_refl _))⟩
 exact⟨Nat.le_trans (lE xs lo hi) hz,_,(r.drop (HT.sIx xs.length 0 lo)).take (HT.sIx xs.length xs.length hi - HT.sIx xs.length 0 lo),IsTup.new _ _⟩
def uZ(K:PySem.W.Frag):R2:=fun x y H Q=>∃a b xs ys,x=.ref a∧y=.ref b∧cR K H a xs∧cR K H b ys∧xs≠[]∧xs.length+ys.length≤sizeLine∧
 (ys=[]→Q (.ref a) H)∧(ys≠[]→∀p,H p=none→Q (.ref p) (upd H p (.tup (xs++ys))))
theorem aW.nil_iff{xs:List V}{us:List Value}(r:aW xs us):us=[]↔xs=[]:=by
 cases r with
 | nil=>simp
 | cons _ _=>simp
theorem zE:dw X (binaryOp .Add) (uZ X.K):=by
 intro pins s σ H x y v u Q I rx ry h
 obtain⟨a,b,xs,ys,rfl,rfl,ha,hb,hx,hz,q1,q2⟩:=h
 cases rx
 cases ry
 obtain⟨its,r1,p1,_⟩:=I.tuple ha
 obtain⟨its2,r2,p2,_⟩:=I.tuple hb
 refine HT.cat_tup p1 p2 (fun z=>hx (r1.nil_iff.mp z)) (fun z=>⟨.ref a,H,I,rfl,q1 (r2.nil_iff.mp z)⟩) (fun z=>?_) (by rw [←r1.length,←r2.length];exact hz)
 refine⟨.ref s.heap.objs.size,_,I.laid (t':=s.toks) (o:=.tup (xs++ys)) (fun b ob q=>Heap.get?_push_of_some _ q) (Nat.le_refl _) ?_,rfl,q2 (fun w=>z (r2.nil_iff.mpr w)) _ (I.hok.fresh (Nat.le_refl _))⟩
 exact⟨by rw [List.length_append];exact hz,_,r1.append r2,IsTup.new _ _⟩
end
end L2
namespace L2
open PySem PySem.Spec PyProof.Rows
def wD(n:Nat)(i:Int):Option Nat:=if 0≤i then(if i < n then some i.toNat else none)else if -(n:Int)≤i then some (i+n).toNat else none
def dz{α:Type}(xs:List α)(i:Int):Option α:=(wD xs.length i).bind fun j=>xs[j]?
theorem uU{n:Nat}{i:Int}{j:Nat}(h:wD n i=some j):seqIndex? i n=some j∧j < n∧-(n:Int)≤i∧i < n:=by
 unfold wD at h
 by_cases h0:0≤i
 ·rw [if_pos h0]at h
  by_cases h1:i < n
  ·rw [if_pos h1]at h
   have e:i.toNat=j:=Option.some.inj h
   exact⟨by rw [seqIndex_of h0 h1,e],by omega,by omega,h1⟩
  ·rw [if_neg h1]at h;cases h
 ·rw [if_neg h0]at h
  by_cases h1:-(n:Int)≤i
  ·rw [if_pos h1]at h
   have e:(i+n).toNat=j:=Option.some.inj h
   exact⟨by rw [seqIndex_neg (by omega) h1,e],by omega,h1,by omega⟩
  ·rw [if_neg h1]at h;cases h
theorem pT{α:Type}{xs:List α}{i:Int}{v:α}(h:dz xs i=some v):∃j,seqIndex? i xs.length=some j∧xs[j]?=some v∧j < xs.length∧-(xs.length:Int)≤i∧i < xs.length:=by
 unfold dz at h
 cases e:wD xs.length i with
 | none=>rw [e]at h;cases h
 | some j=>
  rw [e]at h
  obtain⟨h1,h2,h3,h4⟩:=uU e
  exact⟨j,h1,h,h2,h3,h4⟩
theorem aK{α:Type}{xs:List α}{j:Nat}{v:α}(h:xs[j]?=some v):dz xs (j:Int)=some v:=by
 have hj:j < xs.length:=(List.getElem?_eq_some_iff.mp h).1
 have e:wD xs.length (j:Int)=some j:=by
  unfold wD
  rw [if_pos (by omega),if_pos (by omega)];simp
 unfold dz;rw [e];exact h
def uJ(b:Expr):Prop:=∀o i,subscripted b false o i=operate [o,i] (getItem o i)
def wL(X:Cx)(r:R2):Prop:=
 ∀(value slice:Expr) (pins:List (Addr×Obj)) (s:Shared) (σ:St) (H:Hp) (x y:V) (v u:Value) (Q:VK),aU X pins σ H s→bh x v→bh y u→r x y H Q→
  subscripted slice false v u=operate [v,u] (getItem v u)→wpAny (model X.prog X.w) X.A (subscriptTail value slice v u) (EP X pins σ Q) X.xe s
def wB(X:Cx)(id:String)(r:V→List V→Hp→VK→Prop):Prop:=
 ∀(pins:List (Addr×Obj)) (s:Shared) (σ:St) (H:Hp) (x:V) (xs:List V) (v:Value) (us:List Value) (Q:VK),aU X pins σ H s→bh x v→aW xs us→r x xs H Q→
  wpAny (model X.prog X.w) X.A (call (.builtin id) (v::us)) (EP X pins σ Q) X.xe s
section
variable {X:Cx} {a b:Expr} {ta tb:TE} {pos:Pos}
theorem wL.or{r r':R2}(h:wL X r)(h':wL X r'):wL X (fun x y H Q=>r x y H Q∨r' x y H Q):=by
 intro value slice pins s σ H x y v u Q I rx ry q hs
 rcases q with q | q
 ·exact h value slice pins s σ H x y v u Q I rx ry q hs
 ·exact h' value slice pins s σ H x y v u Q I rx ry q hs
theorem wB.or{id:String}{r r':V→List V→Hp→VK→Prop}(h:wB X id r)(h':wB X id r'):wB X id (fun x xs H Q=>r x xs H Q∨r' x xs H Q):=by
 intro pins s σ H x xs v us Q I rx rs q
 rcases q with q | q
 ·exact h pins s σ H x xs v us Q I rx rs q
 ·exact h' pins s σ H x xs v us Q I rx rs q
theorem aC{r:R2}(hr:wL X r)(ha:PE X a ta)(hb:PE X b tb)(hs:uJ b):PE X (.Subscript a b pos) (Bw r ta tb):=by
 intro pins s σ H Q I h
 exact Subscript_ (yX ha hb I h fun v u s2 x y H2 I2 rx ry q=>hr a b pins s2 σ H2 x y v u Q I2 rx ry q (hs _ _))
def Bf(K:PySem.W.Frag):R2:=fun x y H Q=>∃p xs i v,x=.ref p∧y=.int i∧aO K H p xs∧dz xs i=some v∧Q v H
def Bh(K:PySem.W.Frag):R2:=fun x y H Q=>∃p xs i v,x=.ref p∧y=.int i∧cR K H p xs∧dz xs i=some v∧Q v H
def Bg:R2:=fun x y H Q=>∃z i c,x=.str z∧y=.int i∧z.length≤sizeLine∧dz z.cps.toList i=some c∧Q (.str ⟨#[c]⟩) H
theorem ix_list:wL X (Bf X.K):=by
 intro value slice pins s σ H x y v u Q I rx ry h hs
 obtain⟨p,xs,i,z,rfl,rfl,hq,he,q⟩:=h
 cases rx
 obtain⟨t,rfl⟩:=ry
 obtain⟨its,r,pl,hz⟩:=I.list hq
 obtain⟨j,h1,h2,h3,h4,h5⟩:=pT he
 obtain⟨w,ew,rw'⟩:=r.get h2
 have hl:=r.length
 have hn:=iU
 have fin:EP X pins σ Q w s:=⟨z,H,I,rw',q⟩
 by_cases h0:0≤i
 ·have hj:i.toNat=j:=by
   rw [seqIndex_of h0 h5]at h1
   exact Option.some.inj h1
  exact item_listR pl.isList h0 (by omega) (by rw [hj];simpa using ew) fin hs
 ·have hj:(i+(its.toArray.size:Int)).toNat=j:=by
   rw [seqIndex_neg (by omega) h4]at h1
   rw [List.size_toArray,←hl]
   exact Option.some.inj h1
  exact subscriptTail_builtinR (x:=w) pl.isList.typeIs slot_list_getitem.lookup
   (wpAny_getItem_list_neg (Q:=fun r s'=>r=w∧EP X pins σ Q r s') pl.isList (by omega) (by rw [List.size_toArray]<;>omega) (by omega) (by rw [hj];simpa using ew) ⟨rfl,fin⟩) hs
theorem ix_tup:wL X (Bh X.K):=by
 intro value slice pins s σ H x y v u Q I rx ry h hs
 obtain⟨p,xs,i,z,rfl,rfl,hq,he,q⟩:=h
 cases rx
 obtain⟨t,rfl⟩:=ry
 obtain⟨its,r,pl,hz⟩:=I.tuple hq
 obtain⟨j,h1,h2,h3,h4,h5⟩:=pT he
 obtain⟨w,ew,rw'⟩:=r.get h2
 have hl:=r.length
 have hn:=iU
 have fin:EP X pins σ Q w s:=⟨z,H,I,rw',q⟩
 exact subscriptTail_builtinR (x:=w) pl.typeIs slot_tuple_getitem.lookup
  (getItem_tuple (j:=j) (Q:=fun r s'=>r=w∧EP X pins σ Q r s') pl (by omega) (by omega) (by rw [List.size_toArray,←hl];exact h1) (by simpa using ew) ⟨rfl,fin⟩) hs
theorem AQ:wL X Bg:=by
 intro value slice pins s σ H x y v u Q I rx ry h hs
 obtain⟨z,i,c,rfl,rfl,hz,he,q⟩:=h
 obtain⟨t,rfl⟩:=rx
 obtain⟨t',rfl⟩:=ry
 obtain⟨j,h1,h2,h3,h4,h5⟩:=pT he
 have hl:z.cps.toList.length=z.length:=by simp [Str.length]
 rw [hl]at h1 h4 h5
 have hn:=iU
 exact tail_any (typeIs_str s z t) slot_str_getitem.lookup (getItem_str (c:=c) (by
  have e1:decide (i < -(2 ^ 63:Int))=false:=decide_eq_false (by omega)
  have e2:decide (i≥2 ^ 63)=false:=decide_eq_false (by omega)
  rw [e1,e2,Bool.or_false]) (by rw [h1];simpa using h2) ⟨.str ⟨#[c]⟩,H,I.tok _,⟨_,rfl⟩,q⟩) hs
def lR(K:PySem.W.Frag):R2:=fun x y H Q=>Bf K x y H Q∨Bh K x y H Q∨Bg x y H Q
theorem AO:wL X (lR X.K):=ix_list.or (ix_tup.or AQ)
theorem tF(its:List Value)(n j:Nat)(u:Value):Obj.mapSeq (·.setIfInBounds j u) { cls:=.type "list",data:=.seq its.toArray n }={ cls:=.type "list",data:=.seq (its.set j u).toArray n }:=by
 simp [Obj.mapSeq]
theorem aU.lst{pins:List (Addr×Obj)}{σ:St}{H:Hp}{s:Shared}{p:Addr}{xs:List V}(I:aU X pins σ H s)(h:H p=some (.lst xs)):
  ∃(its:List Value) (n:Nat),aW xs its∧s.heap.get? p=some { cls:=.type "list",data:=.seq its.toArray n }∧xs.length≤sizeLine:=by
 obtain⟨z,its,n,r,e⟩:=I.hok p _ h
 exact⟨its,n,r,e,z⟩
theorem aU.lstUpd{pins:List (Addr×Obj)}{σ:St}{H:Hp}{s:Shared}{p:Addr}{xs ys:List V}{its its':List Value}{n n':Nat}{f:Obj→Obj}(I:aU X pins σ H s)(h:H p=some (.lst xs))
  (ho:s.heap.get? p=some { cls:=.type "list",data:=.seq its.toArray n }) (hf:f { cls:=.type "list",data:=.seq its.toArray n }={ cls:=.type "list",data:=.seq its'.toArray n' }) (r:aW ys its') (hz:ys.length≤sizeLine) (t:Nat) :
  aU X pins σ (upd H p (.lst ys)) { s with heap:=s.heap.update p f,toks:=t }:=by
 have e:(s.heap.update p f).get? p=some { cls:=.type "list",data:=.seq its'.toArray n' }:=by
  rw [Heap.get?_update_self f ho (by rw [hf]<;>rfl),hf]
 refine I.write (x:=p) (e:=p) (by rw [h];trivial) (.inl rfl) (fun b u hb q=>(Heap.get?_update_other _ _ (Ne.symm hb)).trans q) ⟨_,e⟩ ?_
 exact⟨hz,its',n',r,e⟩
def Az:V→V→V→Hp→(Hp→Prop)→Prop:=fun o i v H Q=>∃p xs k j,o=.ref p∧i=.int k∧H p=some (.lst xs)∧wD xs.length k=some j∧Q (upd H p (.lst (xs.set j v)))
theorem sx:BK X Az:=by
 intro pins s σ H o i v ov iv u Q I ro ri rv h
 obtain⟨p,xs,k,j,rfl,rfl,hp,hj,q⟩:=h
 cases ro
 obtain⟨t,rfl⟩:=ri
 obtain⟨its,n,r,ho,hz⟩:=I.lst hp
 obtain⟨h1,h2,h3,h4⟩:=uU hj
 have hl:=r.length
 have hn:=iU
 have I':aU X pins σ (upd H p (.lst (xs.set j v))) { s with heap:=s.heap.update p (Obj.mapSeq (·.setIfInBounds j u)) }:=
  I.lstUpd hp ho (tF its n j u) (r.set rv j) (by rw [List.length_set];exact hz) s.toks
 by_cases h0:0≤k
 ·have hk:k.toNat=j:=by
   rw [seqIndex_of h0 h4]at h1
   exact Option.some.inj h1
  exact PySem.W.ki_setAt ho h0 (by omega) (by rw [List.size_toArray,←hl];exact h4) (by rw [hk];exact⟨_,I',q⟩)
 ·have hk:(k+(its.toArray.size:Int)).toNat=j:=by
   rw [seqIndex_neg (by omega) h3]at h1
   rw [List.size_toArray,←hl]
   exact Option.some.inj h1
  exact PySem.W.ki_setBack ho (by omega) (by rw [List.size_toArray,←hl];exact h3) (by omega) (by rw [hk];exact⟨_,I',q⟩)
theorem qM(lo hi:Option Int)(n:Nat):(sliceBounds lo hi none n).1=((HT.sIx n 0 lo:Nat):Int)∧(sliceBounds lo hi none n).2.1=((HT.sIx n n hi:Nat):Int)∧(sliceBounds lo hi none n).2.2=1:=by
 refine⟨?_,?_,rfl⟩
 ·cases lo with
  | none=>simp [sliceBounds,HT.sIx]
  | some i=>
   simp only [sliceBounds,HT.sIx,Option.getD_none,show(1:Int) > 0 by decide,if_true]
   by_cases h:i < 0
   ·simp only [h,if_true]<;>omega
   ·simp only [h,if_false]<;>omega
 ·cases hi with
  | none=>simp [sliceBounds,HT.sIx]
  | some i=>
   simp only [sliceBounds,HT.sIx,Option.getD_none,show(1:Int) > 0 by decide,if_true]
   by_cases h:i < 0
   ·simp only [h,if_true]<;>omega
   ·simp only [h,if_false]<;>omega
theorem oT(its:List Value)(lo hi:Option Int):slicePick its.toArray lo hi none=((its.drop (HT.sIx its.length 0 lo)).take (HT.sIx its.length its.length hi - HT.sIx its.length 0 lo)).toArray:=by
 obtain⟨h1,h2,h3⟩:=qM lo hi its.toArray.size
 unfold slicePick
 rw [h1,h2,h3]
 simp only [sliceRange_one,pick_run,List.size_toArray]<;>rfl
def Bk(K:PySem.W.Frag):V→Option Int→Option Int→Hp→VK→Prop:=fun x lo hi H Q=>∃a xs,x=.ref a∧aO K H a xs∧∀p,H p=none→Q (.ref p) (upd H p (.lst (fR xs lo hi)))
theorem sl_list:yN X (Bk X.K):=by
 intro pins s σ H x v vl vu lo hi sl Q I rx hs pl pu h
 obtain⟨a,xs,rfl,hx,q⟩:=h
 cases rx
 obtain⟨its,r,ht,hz⟩:=I.list hx
 have hlen:=r.length
 refine⟨"list",_,slot_list_getitem.lookup,ht.isList.typeIs,?_⟩
 refine wpAny_getItem_list_slice ht.isList hs pl pu .none (by simp) ?_ (by rw [List.size_toArray]<;>omega)
 rw [oT,←hlen]
 refine⟨.ref s.heap.objs.size,_,I.laid (t':=s.toks) (o:=.lst (fR xs lo hi)) (fun b ob q=>Heap.get?_push_of_some _ q) (Nat.le_refl _) ?_,rfl,q _ (I.hok.fresh (Nat.le_refl _))⟩
 exact⟨Nat.le_trans (lE xs lo hi) hz,_,0,(r.drop (HT.sIx xs.length 0 lo)).take (HT.sIx xs.length xs.length hi - HT.sIx xs.length 0 lo),Heap.get?_push_size _ rfl⟩
def fj:V→Bool
 | .non=>true
 | .bl _=>true
 | .int _=>true
 | .str _=>true
 | _=>false
def wC:V→V→Bool
 | .non,.non=>true
 | .bl a,.bl b=>a == b
 | .bl a,.int b=>(if a then 1 else 0) == b
 | .int a,.bl b=>a == (if b then 1 else 0)
 | .int a,.int b=>a == b
 | .str a,.str b=>a == b
 | _,_=>false
theorem xc{A:Around}{s:Shared}{y x:V}{u v:Value}(ry:bh y u)(rx:bh x v)(fy:fj y=true)(fx:fj x=true):SeqAt.EqAt A s u v (wC y x):=by
 cases y with
 | non=>
  cases ry
  cases x with
  | non=>cases rx;exact SeqAt.EqAt.same _
  | bl b=>cases rx;exact SeqAt.EqAt.none_bool b
  | int b=>obtain⟨t,rfl⟩:=rx;exact SeqAt.EqAt.none_int b t
  | str b=>obtain⟨t,rfl⟩:=rx;exact SeqAt.EqAt.none_str b t
  | _=>exact absurd (show false=true from fx) Bool.false_ne_true
 | bl a=>
  cases ry
  cases x with
  | non=>cases rx;exact SeqAt.EqAt.bool_none a
  | bl b=>cases rx;exact SeqAt.EqAt.bool_bool a b
  | int b=>obtain⟨t,rfl⟩:=rx;exact SeqAt.EqAt.bool_int a b t
  | str b=>obtain⟨t,rfl⟩:=rx;exact SeqAt.EqAt.bool_str a b t
  | _=>exact absurd (show false=true from fx) Bool.false_ne_true
 | int a=>
  obtain⟨t',rfl⟩:=ry
  cases x with
  | non=>cases rx;exact SeqAt.EqAt.int_none a t'
  | bl b=>cases rx;exact SeqAt.EqAt.int_bool a t' b
  | int b=>obtain⟨t,rfl⟩:=rx;exact SeqAt.EqAt.int_int a t' b t
  | str b=>obtain⟨t,rfl⟩:=rx;exact SeqAt.EqAt.int_str a t' b t
  | _=>exact absurd (show false=true from fx) Bool.false_ne_true
 | str a=>
  obtain⟨t',rfl⟩:=ry
  cases x with
  | non=>cases rx;exact SeqAt.EqAt.str_none a t'
  | bl b=>cases rx;exact SeqAt.EqAt.str_bool a t' b
  | int b=>obtain⟨t,rfl⟩:=rx;exact SeqAt.EqAt.str_int a t' b t
  | str b=>obtain⟨t,rfl⟩:=rx;exact SeqAt.EqAt.str_str a t' b t
  | _=>exact absurd (show false=true from fx) Bool.false_ne_true
 | _=>exact absurd (show false=true from fy) Bool.false_ne_true
def sW(x:V)(u:Value):Bool:=match u with
 | .none=>wC .non x
 | .bool b=>wC (.bl b) x
 | .int i _=>wC (.int i) x
 | .str z _=>wC (.str z) x
 | _=>false
theorem xg{x y:V}{u:Value}(r:bh y u)(f:fj y=true):sW x u=wC y x:=by
 cases y with
 | non=>cases r;rfl
 | bl b=>cases r;rfl
 | int i=>obtain⟨t,rfl⟩:=r;rfl
 | str z=>obtain⟨t,rfl⟩:=r;rfl
 | _=>exact absurd (show false=true from f) Bool.false_ne_true
theorem jA{x:V}:∀{xs:List V} {us:List Value},aW xs us→xs.all fj=true→us.any (sW x)=xs.any fun y=>wC y x
 | _,_,.nil,_=>rfl
 | y::xs,u::us,.cons r t,f=>by
  rw [List.all_cons,Bool.and_eq_true]at f
  rw [List.any_cons,List.any_cons,xg r f.1,jA t f.2]
theorem g8{A:Around}{s:Shared}{x:V}{v:Value}(rx:bh x v)(fx:fj x=true):∀{xs:List V} {us:List Value},aW xs us→xs.all fj=true→∀u∈us,SeqAt.EqAt A s u v (sW x u)
 | _,_,.nil,_=>fun u hu=>by cases hu
 | y::xs,u::us,.cons r t,f=>fun u' hu=>by
  rw [List.all_cons,Bool.and_eq_true]at f
  rcases List.mem_cons.mp hu with rfl | hu
  ·rw [xg r f.1];exact xc r rx f.1 fx
  ·exact g8 rx fx t f.2 u' hu
def Ap(x:V)(xs:List V):Bool:=xs.any fun y=>wC y x
def Cj(K:PySem.W.Frag)(neg:Bool):R2:=fun x y H Q=>∃p xs,y=.ref p∧(aO K H p xs∨cR K H p xs)∧fj x=true∧xs.all fj=true∧Q (.bl (if neg then !Ap x xs else Ap x xs)) H
theorem v7:dw X (compareOp .In) (Cj X.K false):=by
 intro pins s σ H x y v u Q I rx ry h
 obtain⟨p,xs,rfl,hq,fx,fs,q⟩:=h
 cases ry
 rcases hq with hq | hq
 ·obtain⟨its,r,pl,hz⟩:=I.list hq
  refine SeqAt.in_listAt (sW x) pl.isList (fun w hw=>g8 rx fx r fs w (by simpa using hw)) ⟨.bl _,H,I,rfl,?_⟩
  rw [show its.toArray.any (sW x)=its.any (sW x)by simp,jA r fs]
  exact q
 ·obtain⟨its,r,pl,hz⟩:=I.tuple hq
  refine SeqAt.in_tupleAt (sW x) pl (fun w hw=>g8 rx fx r fs w (by simpa using hw)) ⟨.bl _,H,I,rfl,?_⟩
  rw [show its.toArray.any (sW x)=its.any (sW x)by simp,jA r fs]
  exact q
theorem qw:dw X (compareOp .NotIn) (Cj X.K true):=by
 intro pins s σ H x y v u Q I rx ry h
 obtain⟨p,xs,rfl,hq,fx,fs,q⟩:=h
 cases ry
 rcases hq with hq | hq
 ·obtain⟨its,r,pl,hz⟩:=I.list hq
  refine SeqAt.notIn_listAt (sW x) pl.isList (fun w hw=>g8 rx fx r fs w (by simpa using hw)) ⟨.bl _,H,I,rfl,?_⟩
  rw [show its.toArray.any (sW x)=its.any (sW x)by simp,jA r fs]
  exact q
 ·obtain⟨its,r,pl,hz⟩:=I.tuple hq
  refine SeqAt.notIn_tupleAt (sW x) pl (fun w hw=>g8 rx fx r fs w (by simpa using hw)) ⟨.bl _,H,I,rfl,?_⟩
  rw [show its.toArray.any (sW x)=its.any (sW x)by simp,jA r fs]
  exact q
theorem pV:cJ X (.builtin "len") (fun xs H Q=>∃p ys,xs=[.ref p]∧(aO X.K H p ys∨cR X.K H p ys)∧Q (.int ys.length) H):=by
 intro pins s σ H xs us Q I r h
 obtain⟨p,ys,rfl,hq,q⟩:=h
 obtain⟨u,rfl,rx⟩:=d0 r
 cases rx
 have hn:=iU
 rcases hq with hq | hq
 ·obtain⟨its,r',pl,hz⟩:=I.list hq
  have hlen:=r'.length
  exact Calls.call_len_list pl.isList (by simp only [List.size_toArray]<;>omega) ⟨.int ys.length,H,I.tok _,⟨s.toks+1,by rw [List.size_toArray,hlen]⟩,q⟩
 ·obtain⟨its,r',pl,hz⟩:=I.tuple hq
  have hlen:=r'.length
  exact len_tuple pl (by simp only [List.size_toArray]<;>omega) ⟨.int ys.length,H,I.tok _,⟨s.toks+1,by rw [List.size_toArray,hlen]⟩,q⟩
theorem call_len_str:cJ X (.builtin "len") (fun xs H Q=>∃z,xs=[.str z]∧z.length≤sizeLine∧Q (.int z.length) H):=by
 intro pins s σ H xs us Q I r h
 obtain⟨z,rfl,hz,q⟩:=h
 obtain⟨u,rfl,t,rfl⟩:=d0 r
 have hn:=iU
 exact len_str (by omega) ⟨.int z.length,H,I.tok _,⟨_,rfl⟩,q⟩
theorem cJ.or{f:Value}{r r':List V→Hp→VK→Prop}(h:cJ X f r)(h':cJ X f r'):cJ X f (fun xs H Q=>r xs H Q∨r' xs H Q):=by
 intro pins s σ H xs us Q I rs q
 rcases q with q | q
 ·exact h pins s σ H xs us Q I rs q
 ·exact h' pins s σ H xs us Q I rs q
theorem pW:cJ X (.type "list") (fun xs H Q=>∃p ys,xs=[.ref p]∧(aO X.K H p ys∨cR X.K H p ys)∧∀l,H l=none→Q (.ref l) (upd H l (.lst ys))):=by
 intro pins s σ H xs us Q I r h
 obtain⟨p,ys,rfl,hq,q⟩:=h
 obtain⟨u,rfl,rx⟩:=d0 r
 cases rx
 have fin:∀(its:List Value),aW ys its→ys.length≤sizeLine→∀(h':Heap) (c':Nat),(∀b o',s.heap.get? b=some o'→h'.get? b=some o')→
   h'.get? s.heap.objs.size=some { cls:=.type "list",dict:=none,data:=.seq its.toArray c',slots:=#[] }→EP X pins σ Q (.ref s.heap.objs.size) { s with heap:=h' }:=fun its r' hz h' c' kp e=>
  ⟨.ref s.heap.objs.size,_,I.laid (t':=s.toks) kp (Nat.le_refl _) (show dv X.prog X.w _ h' _ (.lst ys)from⟨hz,its,c',r',e⟩),rfl,q _ (I.hok.fresh (Nat.le_refl _))⟩
 rcases hq with hq | hq
 ·obtain⟨its,r',pl,hz⟩:=I.list hq
  have hlen:=r'.length
  obtain⟨o,ho,hc,n,hd⟩:=pl.isList
  exact call_list_seq p (.inl rfl) ho hc hd (fun h' c' kp e=>fin its r' hz h' c' kp e) (by simp only [List.size_toArray]<;>omega)
 ·obtain⟨its,r',pl,hz⟩:=I.tuple hq
  have hlen:=r'.length
  obtain⟨o,ho,hc,n,hd⟩:=pl
  exact call_list_seq p (.inr rfl) ho hc hd (fun h' c' kp e=>fin its r' hz h' c' kp e) (by simp only [List.size_toArray]<;>omega)
theorem nZ:cJ X (.type "tuple") (fun xs H Q=>∃p ys,xs=[.ref p]∧((aO X.K H p ys∧∀l,H l=none→Q (.ref l) (upd H l (.tup ys)))∨(cR X.K H p ys∧Q (.ref p) H))):=by
 intro pins s σ H xs us Q I r h
 obtain⟨p,ys,rfl,h⟩:=h
 obtain⟨u,rfl,rx⟩:=d0 r
 cases rx
 rcases h with⟨hq,q⟩ | ⟨hq,q⟩
 ·obtain⟨its,r',pl,hz⟩:=I.list hq
  have hlen:=r'.length
  refine call_tuple_list pl.isList (fun h' kp=>?_) (by simp only [List.size_toArray]<;>omega)
  have I1:aU X pins σ H { s with heap:=h' }:=I.kept (t':=s.toks) kp
  have I2:aU X pins σ (upd H h'.objs.size (.tup ys)) { s with heap:=h'.push { cls:=.type "tuple",data:=.seq its.toArray } }:=
   I1.laid (t':=s.toks) (fun b o e=>Heap.get?_push_of_some _ e) (Nat.le_refl _) (show dv X.prog X.w _ _ _ (.tup ys)from⟨hz,its,r',IsTup.new _ _⟩)
  exact⟨.ref h'.objs.size,_,I2,rfl,q _ (I1.hok.fresh (Nat.le_refl _))⟩
 ·obtain⟨its,r',pl,hz⟩:=I.tuple hq
  exact call_tuple_same pl ⟨.ref p,H,I,rfl,q⟩
def Cu(K:PySem.W.Frag)(T:String)(x:V)(H:Hp):Prop:=match x with
 | .str _=>T="str"
 | .int _=>T="int"
 | .ref p=>(T="list"∧∃xs,aO K H p xs)∨(T="tuple"∧∃o,K.lookup p=some o∧o.cls=.type "tuple"∧o.dict=none)∨
   (T="dict"∧((∃kvs,H p=some (.dK kvs))∨∃kvs,H p=some (.dT kvs)))∨(T="set"∧∃S n,H p=some (.set S n))
 | _=>False
theorem BC{pins:List (Addr×Obj)}{σ:St}{H:Hp}{s:Shared}{T:String}{x:V}{v:Value}(I:aU X pins σ H s)(r:bh x v)(ty:Cu X.K T x H):
  s.TypeIs v T∧∀a,v=.ref a→∃ob,s.heap.get? a=some ob∧ob.dict=none:=by
 cases x with
 | str z=>
  obtain⟨t,rfl⟩:=r
  cases(show T="str" from ty)
  exact⟨typeIs_str s z t,fun _ e=>nomatch e⟩
 | int i=>
  obtain⟨t,rfl⟩:=r
  cases(show T="int" from ty)
  exact⟨typeIs_int s i t,fun _ e=>nomatch e⟩
 | ref p=>
  cases r
  rcases ty with⟨rfl,xs,hq⟩ | ⟨rfl,o,hk,hc,hd⟩ | ⟨rfl,hk⟩ | ⟨rfl,S,n,hk⟩
  ·obtain⟨its,_,pl,_⟩:=I.list hq
   refine⟨pl.isList.typeIs,fun a e=>?_⟩
   cases e
   obtain⟨o,n,e,c,hd,_⟩:=pl
   exact⟨o,e,hd⟩
  ·refine⟨⟨o,I.kIn p o hk,hc⟩,fun a e=>?_⟩
   cases e
   exact⟨o,I.kIn _ o hk,hd⟩
  ·have z:∃o,s.heap.get? p=some o∧o.ExactDict:=by
    rcases hk with⟨kvs,hk⟩ | ⟨kvs,hk⟩
    ·obtain⟨_,_,_,_,o,_,_,e,ex,_⟩:=I.hok p _ hk
     exact⟨o,e,ex⟩
    ·obtain⟨_,_,_,_,o,_,_,e,ex,_⟩:=I.hok p _ hk
     exact⟨o,e,ex⟩
   obtain⟨o,e,ex⟩:=z
   refine⟨⟨o,e,ex.1⟩,fun a e2=>?_⟩
   cases e2
   exact⟨o,e,ex.2.1⟩
  ·obtain⟨o,_,_,_,e,ex,_⟩:=I.hok p _ hk
   refine⟨⟨o,e,ex.1⟩,fun a e2=>?_⟩
   cases e2
   exact⟨o,e,ex.2.1⟩
 | _=>exact False.elim ty
def CT(K:PySem.W.Frag)(T:String)(r:V→List V→Hp→VK→Prop)(to:TE):TE:=fun σ H Q=>to σ H fun x H1=>Cu K T x H1∧r x [] H1 Q
def CS(K:PySem.W.Frag)(T:String)(r:V→List V→Hp→VK→Prop)(to:TE)(t:TA):TE:=fun σ H Q=>to σ H fun x H1=>Cu K T x H1∧t σ H1 fun xs H2=>r x xs H2 Q
variable {o e:Expr} {es:List Expr} {to:TE} {t:TA} {name:Str} {apos cpos:Pos} {T id:String} {r:V→List V→Hp→VK→Prop}
theorem Cf(pa:PlainAttrs T)(slot:Slot T name id)(hty:typeOf (.builtin id)=pure (.type "method_descriptor"))(hm:wB X id r)(ho:PE X o to)(ha:PA X (e::es) t)
  (hbase:attributeBase o name X.env (eval o X.env)=eval o X.env:=by rfl)
  (hfew:((backTo cpos (starEach (e::es) X.env)).all (fun x=>!x.1) && (backToKw cpos (keywordEach [] X.env)).all (fun x=>x.1.isSome)
   && decide ((e::es).length+([]:List Keyword).length+(if ([]:List Keyword).isEmpty then 0 else 1) < 30))=true:=by rfl)
  (hline:(apos.endLine == cpos.line)=true:=by rfl) (hs:starEach (e::es) X.env=(false,eval e X.env)::starEach es X.env:=by rfl) (hplain:(backTo cpos (starEach es X.env)).any (·.1)=false:=by rfl) :
  PE X (.Call (.Attribute o name apos) (e::es) [] cpos) (CS X.K T r to t):=by
 intro pins s σ H Q I h
 refine wpAny_Call_method_late hbase hfew hline rfl (cL (ho pins s σ H _ I h) fun v s1 ⟨x,H1,I1,r1,ty,q1⟩=>?_)
 obtain⟨h1,h2⟩:=BC I1 r1 ty
 refine⟨T,id,pa,slot,hty,h1,h2,?_⟩
 have hA:=ha cpos pins s1 σ H1 _ I1 q1
 rw [hs]at hA ⊢
 refine Calls.callWith_builtin (by show(false || (backTo cpos (starEach es X.env)).any (·.1))=false;rw [hplain]<;>rfl) (Calls.evalArgs_plain ?_)
 exact cL hA fun us s2 ⟨vs,H2,I2,r2,q2⟩=>hm pins s2 σ H2 x vs v us Q I2 r1 r2 q2
/- xs.append(e), list.index on a module's tuple .. are wB facts of 06m -/
end
end L2
namespace L2
open PySem PySem.Spec PyProof.Rows
def CI(X:Cx)(id:String)(r:V→List V→Hp→VK→Prop):Prop:=
 ∀(pins:List (Addr×Obj)) (s:Shared) (σ:St) (H:Hp) (x:V) (xs:List V) (v:Value) (us:List Value) (Q:VK),aU X pins σ H s→bh x v→aW xs us→r x xs H Q→
  wpAny (model X.prog X.w) X.A (call (.builtin id) (v::us)) (EP X pins σ Q) X.xe s
theorem aW.one:∀{x:V} {us:List Value},aW [x] us→∃u,us=[u]∧bh x u
 | _,_,.cons r .nil=>⟨_,rfl,r⟩
theorem aW.zero:∀{us:List Value},aW [] us→us=[]
 | _,.nil=>rfl
theorem aW.reverse{xs:List V}{us:List Value}(h:aW xs us):aW xs.reverse us.reverse:=by
 induction h with
 | nil=>exact .nil
 | cons r t ih=>rw [List.reverse_cons,List.reverse_cons];exact aW.append ih (.cons r .nil)
theorem aW.rep{xs:List V}{us:List Value}(h:aW xs us):∀k:Nat,aW (List.replicate k xs).flatten (List.replicate k us).flatten
 | 0=>.nil
 | k+1=>by
  rw [List.replicate_succ,List.replicate_succ,List.flatten_cons,List.flatten_cons]
  exact aW.append h (aW.rep h k)
theorem kz(its:List Value):∀(k:Nat) (acc:List Value),
  List.foldl (fun x1 x2=>x1++x2) acc.toArray (List.replicate k its.toArray)=(acc++(List.replicate k its).flatten).toArray
 | 0,acc=>by simp
 | k+1,acc=>by
  have e:acc.toArray++its.toArray=(acc++its).toArray:=by simp
  have e2:(acc++its)++(List.replicate k its).flatten=acc++(List.replicate (k+1) its).flatten:=by
   rw [List.replicate_succ,List.flatten_cons,List.append_assoc]
  rw [←e2,←kz its k (acc++its),←e,List.replicate_succ,List.foldl_cons]
section
variable {X:Cx} {pins:List (Addr×Obj)} {σ:St} {H:Hp} {s:Shared} {l b:Addr} {xs ys zs:List V}
theorem aU.lset{its its':List Value}{n:Nat}{f:Array Value→Array Value}{t':Nat}(I:aU X pins σ H s)(hH:H l=some (.lst xs))
  (e:s.heap.get? l=some { cls:=.type "list",data:=.seq its.toArray n }) (hf:f its.toArray=its'.toArray) (hv:aW ys its') (hz:ys.length≤sizeLine) :
  aU X pins σ (upd H l (.lst ys)) { s with heap:=s.heap.update l (Obj.mapSeq f),toks:=t' }:=by
 have q:=PySem.IsL.update e f
 rw [hf]at q
 refine I.write (x:=l) (e:=l) (by rw [hH];exact trivial) (.inl rfl) (fun b' u hb hu=>(Heap.get?_update_other s.heap (Obj.mapSeq f) (Ne.symm hb)).trans hu) ⟨_,q⟩ ?_
 exact⟨hz,its',_,hv,q⟩
theorem aU.lnew{its:List Value}{t':Nat}(I:aU X pins σ H s)(hv:aW ys its)(hz:ys.length≤sizeLine):
  aU X pins σ (upd H s.heap.objs.size (.lst ys)) { s with heap:=s.heap.push { cls:=.type "list",data:=.seq its.toArray },toks:=t' }:=
 I.laid (fun _ _ q=>Heap.get?_push_of_some _ q) (Nat.le_refl _) ⟨hz,its,0,hv,Heap.get?_push_size _ rfl⟩
theorem aU.fresh(I:aU X pins σ H s):H s.heap.objs.size=none:=I.hok.fresh (Nat.le_refl _)
theorem aU.lstM(I:aU X pins σ H s)(hH:H l=some (.lst xs)):xs.length≤sizeLine∧∃(its:List Value) (n:Nat),aW xs its∧xs.length=its.length∧s.heap.get? l=some { cls:=.type "list",data:=.seq its.toArray n }:=by
 obtain⟨z,its,n,r,e⟩:=I.hok l _ hH
 exact⟨z,its,n,r,r.length,e⟩
theorem rO{n:Nat}(h:n≤sizeLine):Builtin.List.listTooLong n=false:=by
 unfold Builtin.List.listTooLong
 exact decide_eq_false (by omega)
end
section
variable {X:Cx}
def zN:V→List V→Hp→VK→Prop:=fun x vs H Q=>∃l xs y,x=.ref l∧vs=[y]∧H l=some (.lst xs)∧xs.length < sizeLine∧Q .non (upd H l (.lst (xs++[y])))
theorem fb:CI X "list.append" zN:=by
 intro pins s σ H x vs v us Q I rx rv h
 obtain⟨l,xs,y,rfl,rfl,hH,hz,q⟩:=h
 cases rx
 obtain⟨u,rfl,ru⟩:=rv.one
 obtain⟨z,its,n,r,hl,e⟩:=I.lstM hH
 refine call_meets F.slot_list_append ⟨_,e,rfl⟩ F.entry_list_append (F.args_list_append_2 _ _) (PySem.list_append l its.toArray n u (by rw [List.size_toArray];omega)) ⟨e,?_⟩
 refine⟨.non,_,I.lset (its':=its++[u]) hH e (by simp) (r.append (.cons ru .nil)) ?_,rfl,q⟩
 rw [List.length_append,List.length_singleton]
 omega
def zQ:V→List V→Hp→VK→Prop:=fun x vs H Q=>∃l b xs zs,x=.ref l∧vs=[.ref b]∧H l=some (.lst xs)∧H b=some (.lst zs)∧xs.length+zs.length≤sizeLine∧Q .non (upd H l (.lst (xs++zs)))
theorem pB:CI X "list.extend" zQ:=by
 intro pins s σ H x vs v us Q I rx rv h
 obtain⟨l,b,xs,zs,rfl,rfl,hH,hB,hz,q⟩:=h
 cases rx
 obtain⟨u,rfl,ru⟩:=rv.one
 cases ru
 obtain⟨z,its,n,r,hl,e⟩:=I.lstM hH
 obtain⟨z2,its2,n2,r2,hl2,e2⟩:=I.lstM hB
 have hsz:its.toArray.size+its2.toArray.size≤sizeLine:=by rw [List.size_toArray,List.size_toArray];omega
 have hlong:¬(!its.toArray.isEmpty && Builtin.List.listTooLong (its.toArray.size+its2.toArray.size))=true:=by
  rw [rO hsz,Bool.and_false]
  exact Bool.false_ne_true
 refine call_meets F.slot_list_extend ⟨_,e,rfl⟩ F.entry_list_extend (F.args_list_extend_2 _ _)
  (AutoSeq1.list_extend_list_list_0 l its.toArray n b its2.toArray n2 hlong (by rw [List.size_toArray];omega) (by omega)) ⟨e,e2,?_⟩
 refine⟨.non,_,I.lset (its':=its++its2) hH e (by simp) (r.append r2) ?_,rfl,q⟩
 rw [List.length_append]
 omega
def zO:R2:=fun x y H Q=>∃l b xs zs,x=.ref l∧y=.ref b∧H l=some (.lst xs)∧H b=some (.lst zs)∧xs.length+zs.length≤sizeLine∧∀p,H p=none→Q (.ref p) (upd H p (.lst (xs++zs)))
theorem op_cat:dw X (binaryOp .Add) zO:=by
 intro pins s σ H x y v u Q I rx ry h
 obtain⟨l,b,xs,zs,rfl,rfl,hH,hB,hz,q⟩:=h
 cases rx
 cases ry
 obtain⟨z,its,n,r,hl,e⟩:=I.lstM hH
 obtain⟨z2,its2,n2,r2,hl2,e2⟩:=I.lstM hB
 refine PySem.P.add_list e e2 ?_ (by rw [List.size_toArray,List.size_toArray];omega)
 have ea:its.toArray++its2.toArray=(its++its2).toArray:=by simp
 rw [ea]
 exact⟨.ref _,_,I.lnew (t':=s.toks) (r.append r2) (by rw [List.length_append];omega),rfl,q _ I.fresh⟩
def Bi:R2:=fun x y H Q=>∃l k xs,x=.ref l∧y=.int k∧H l=some (.lst xs)∧-(2 ^ 63)≤k∧k < 2 ^ 63∧xs.length * k.toNat≤sizeLine∧
 ∀p,H p=none→Q (.ref p) (upd H p (.lst (List.replicate k.toNat xs).flatten))
theorem p9{α:Type}(xs:List α)(k:Nat):(List.replicate k xs).flatten.length=k * xs.length:=by
 induction k with
 | zero=>simp
 | succ k ih=>rw [List.replicate_succ,List.flatten_cons,List.length_append,ih,Nat.succ_mul,Nat.add_comm]
theorem A9:dw X (binaryOp .Mult) Bi:=by
 intro pins s σ H x y v u Q I rx ry h
 obtain⟨l,k,xs,rfl,rfl,hH,h1,h2,hz,q⟩:=h
 cases rx
 obtain⟨t,rfl⟩:=ry
 obtain⟨z,its,n,r,hl,e⟩:=I.lstM hH
 have hlen:its.toArray.size * k.toNat≤sizeLine:=by rw [List.size_toArray,←hl];exact hz
 have hcap:¬its.toArray.size * k.toNat > (2 ^ 63 - 1) / 8:=by
  have:(sizeLine:Nat)≤(2 ^ 63 - 1) / 8:=by decide
  omega
 have hfit:¬(!Builtin.List.listFitsIndex k)=true:=by
  rw [fitsIndex_both h1 h2]
  exact Bool.false_ne_true
 have hlong:¬Builtin.List.listTooLong (its.toArray.size * k.toNat)=true:=by
  rw [rO hlen]
  exact Bool.false_ne_true
 have hnew:List.foldl (fun x1 x2=>x1++x2) #[] (List.replicate (if its.toArray.isEmpty=true then 0 else k.toNat) its.toArray)=(List.replicate k.toNat its).flatten.toArray:=by
  have f0:∀m:Nat,List.foldl (fun x1 x2=>x1++x2) #[] (List.replicate m its.toArray)=(List.replicate m its).flatten.toArray:=fun m=>by
   have:=kz its m []
   rw [List.nil_append]at this
   exact this
  rw [f0]
  cases its with
  | nil=>simp
  | cons a r'=>rw [if_neg (by simp)]
 refine wpAny_binaryOp_repeat_ref (T:="list") (U:="int") (by decide) ⟨_,e,rfl⟩ (fun s'=>typeIs_int s' k t) noFill_list_mul F.fills_int_mul F.slot_int_rmul repeat_list F.slot_int_index.lookup
  (call_meets F.slot_int_rmul (typeIs_int s k t) F.entry_int_rmul (F.args_int_rmul_2 _ _) (int___rmul___int_list k t l its.toArray n)
   ⟨e,rfl,⟨_,e,rfl⟩,call_meets F.slot_list_mul ⟨_,e,rfl⟩ F.entry_list_mul (F.args_list_mul_2 _ _) (AutoListH.list___mul___list_int_3 l its.toArray n k t hfit hcap hlong) ⟨e,?_⟩⟩)
 rw [hnew]
 exact⟨.ref _,_,I.lnew (t':=s.toks) (r.rep k.toNat) (by rw [p9,Nat.mul_comm];exact hz),rfl,q _ I.fresh⟩
end
section
variable {prog:Program} {w:World} {A:Around} {E:Value→Shared→Prop} {s:Shared}
set_option maxRecDepth 100000 in
end
section
variable {X:Cx}
end
end L2
namespace Att
open PySem PySem.W PySem.Calls PyProof.Rows
theorem lL{P:Params}{h:Heap}:∀(ns:List Int) (vs:List Value),WellAll P h vs (ns.map WData.int)→IntsAre vs ns:=by
 intro ns
 induction ns with
 | nil=>
  intro vs w
  rw [List.map_nil]at w
  cases w
  exact .nil
 | cons n ns ih=>
  intro vs w
  rw [List.map_cons]at w
  cases w with
  | cons a b=>
   cases a
   exact .cons _ _ (ih _ b)
theorem script_of{l:OpenLaw}{n:Nat}(hn:l.most=some n){P:Params}{h:Heap}{args:List WData}{vals:List Value}
  (hpre:l.row.toRowW.claim.pre args=true) (hwl:WellAll P h vals args) :
  ∃a vs ns,vals=[Value.ref a]∧args=[WData.list (ns.map WData.int)]∧h.get? a=some { cls:=.type "list",data:=.seq vs.toArray }∧IntsAre vs ns∧ns.length≤n:=by
 have hsh:WShape.hasAll [] args [.list .int]=true:=(pre_splitW hpre).1
 have hc:l.pre.holds [] { args:=args }=true:=(pre_splitW hpre).2
 obtain⟨d,r,rfl,h1,h2⟩:=hasAllW_cons hsh
 obtain rfl:=hasAllW_nil h2
 obtain⟨xs,rfl,h3⟩:=hasW_list h1
 obtain⟨ns,rfl⟩:=items_int h3
 have hlen:ns.length≤n:=by
  unfold OpenLaw.pre at hc
  have h4:(WTm.not (.lt (.lit (.int (n:Int))) (.len (.arg 0)))).holds [] { args:=[.list (ns.map .int)] }=true:=by
   have h4:=(holds_andW hc).1
   rw [hn]at h4
   exact h4
  have h5:=condW_of h4 (w_not (w_lt w_lit (w_len_list (w_arg rfl))))
  rw [List.length_map]at h5
  refine Nat.le_of_not_lt fun q=>?_
  have q':(n:Int) < ((ns.length:Nat):Int):=by omega
  first
   | (rw [decide_eq_true q']at h5;exact absurd h5 (by decide))
   | (simp at h5;omega)
 cases hwl with
 | cons w1 w2=>
  cases w2
  cases w1 with
  | list ho hall=>exact⟨_,_,ns,rfl,rfl,ho,lL ns _ hall,hlen⟩
theorem post_true(l:OpenLaw)(args:List WData):l.row.toRowW.claim.post args (.bool true) args=true:=
 postW_of (r:=l.row.toRowW) (X:=(true == true))
  (show WShape.has [] (.bool true) .bool=true by first | rfl | decide | simp [WShape.has,WShape.arms,WShape.armsAll])
  (show(WTm.eq .res (.lit (.bool true))).value [] { args:=args,res:=some (.bool true),after:=args }=some (.bool (true == true))from w_eq_bool (w_res rfl) w_lit) rfl
theorem attach_call{l:OpenLaw}{n:Nat}{q:Program}{loose:List Str}{XP:(Str→Option Value)→Heap→Prop}{YP:World→Heap→Prop}{d:DefRec}
  (hn:l.most=some n) (hdf:d.params.defaults=[])
  (call:∀(w:World) (s₀ s₁:Shared) (mg mb:Str→Option Value) (fa:Addr) (o:Obj) (pm cd doc:Value) (a:Addr) (vs:List Value) (ns:List Int),
   Ground q loose [] XP w s₀ mg mb s₁.heap→YP w s₁.heap→
   s₁.heap.get? fa=some o→o.data=.func (docDef d.name d.params d.body d.scope pm cd doc)→s₁.heap.CodeRec cd d.name→mg d.name=some (.ref fa)→
   s₁.heap.get? a=some { cls:=.type "list",data:=.seq vs.toArray }→IntsAre vs ns→ns.length≤n→s₁.gens=#[]→
   codeAny (model l.prog w) callerA (.call (.ref fa) ⟨[.ref a],[]⟩) (fun r s'=>r=.ok (.ret (.bool true))∧OldK s₁.heap s'.heap∧s'.os=s₁.os∧AllBare s'.gens) s₁) :
  WalkO q loose XP YP l.row.toRowW d [] (fun f vs=>PySem.call f vs):=by
 intro w s₀ s₁ mg mb G Y fa o pm cd doc dV kV ho hd hcd hD hmg hg args vals as hpre hlay hrd hwl hlo
 obtain rfl:dV=.none:=Dflts.none hD hdf
 obtain rfl:kV=.none:=Dflts.noKw hD
 obtain⟨a,vs,ns,rfl,rfl,hobj,hints,hlen⟩:=script_of hn hpre hwl
 refine enter_call (codeAny_mono (call w s₀ s₁ mg mb fa o pm cd doc a vs ns G Y ho (fd_plain hd) hcd hmg hobj hints hlen hg) fun r s' hq=>?_)
 obtain⟨rfl,h2,h3,h4⟩:=hq
 exact⟨.inl ⟨.bool true,.bool true,[],rfl,fun _=>rfl,.bool true,post_true l _,fun _=>⟨List.Pairwise.nil,fun _ hm=>(nomatch hm)⟩⟩,h2,h3,h4⟩
section
variable {prog:Program} {w:World} {A:Around} {E:Value→Shared→Prop} {s:Shared} {K:Frag}
end
end Att
namespace L2
open PySem PySem.Spec PyProof.Rows
theorem pP:∀{vs:List Value} {ns:List Int},IntsAre vs ns→aW (ns.map V.int) vs
 | _,_,.nil=>.nil
 | _,_,.cons n t h=>.cons ⟨t,rfl⟩ (pP h)
def yS(H:Hp):Prop:=∀b,H b=none∨∃o xs,H b=some (.frz o (.lst xs))
theorem rJ{P:Program}{w:World}{K:PySem.W.Frag}{mg mb:Str→Option Value}{CX:sH}{k:Nat}{fa a:Addr}{fd:FuncData}{x:Str}{sp:Sp}{s₁:Shared}{vs:List Value}{ns:List Int}
  (KX:K.In s₁.heap) (hns:s₁.heap.Ns mainGlobals mg) (hb:s₁.heap.Ns builtinsNs mb) (hbb:∀x:Str,x≠"__name__"→mb x=bootBuiltins x) (hlim:s₁.heap.NoLimit) (hg:s₁.gens=#[])
  (ha:s₁.heap.get? a=some { cls:=.type "list",data:=.seq vs.toArray }) (hi:IntsAre vs ns) (hl:ns.length≤sizeLine) (hr:dy k callerA)
  (F:∀base:Heap,K.In base→base.Ns mainGlobals mg→aP P w K mg base CX k fa fd [x] sp) (hbind:∀(s:Shared) (u:Value),BindsTo s fd ⟨[u],[]⟩ [(x,u)])
  (hsp:∀H:Hp,yS H→aO K H a (ns.map V.int)→sp [.ref a] H (fun v _=>v=.bl true) fun _ _ _=>False)
  (hCX:∀H e s',CX [] H s₁ (fun _ _ _=>False) e s'→False) :
  codeAny (model P w) callerA (.call (.ref fa) ⟨[.ref a],[]⟩) (fun r s'=>r=.ok (.ret (.bool true))∧OldK s₁.heap s'.heap∧s'.os=s₁.os∧AllBare s'.gens) s₁:=by
 have rv:=pP hi
 have lenV:=hi.length
 have core:∀H:Hp,yS H→aO K H a (ns.map V.int)→lB P w H s₁.heap→(∀b,H b≠none→b=a)→(H a≠none→K.lookup a=none)→
   codeAny (model P w) callerA (.call (.ref fa) ⟨[.ref a],[]⟩) (fun r s'=>r=.ok (.ret (.bool true))∧OldK s₁.heap s'.heap∧s'.os=s₁.os∧AllBare s'.gens) s₁:=by
  intro H hO hS hok hA hK
  have base_of:∀{b:Addr} {o:Obj},s₁.heap.get? b=some o→H b=none→(pY s₁.heap H).get? b=some o:=fun e n=>xk e n
  have noA:∀{b:Addr} {o:Obj} {es:Array DictEntry} {ep:Nat},s₁.heap.get? b=some o→o.data=.dict es ep→H b=none:=fun {b o es ep} e d=>by
   cases q:H b with
   | none=>rfl
   | some u=>
    have e':b=a:=hA b (by rw [q];simp)
    subst e'
    rw [ha]at e;cases e
    have d':Data.seq vs.toArray _=Data.dict es ep:=d
    cases d'
  have nsK:∀{b:Addr} {m:Str→Option Value},s₁.heap.Ns b m→(pY s₁.heap H).Ns b m:=fun {b m} ⟨o,es,ep,e,d,r⟩=>⟨o,es,ep,base_of e (noA e d),d,r⟩
  have hKb:K.In (pY s₁.heap H):=fun b o e=>base_of (KX b o e) (by
   cases q:H b with
   | none=>rfl
   | some u=>
    have e':b=a:=hA b (by rw [q];simp)
    subst e'
    rw [hK (by rw [q];simp)]at e;cases e)
  have hM:Mod K mg (pY s₁.heap H):=⟨hKb,nsK hns,⟨mb,nsK hb,hbb⟩,let ⟨mc,h1,h2⟩:=hlim;⟨mc,nsK h1,h2⟩⟩
  have e0:sM P w K mg (pY s₁.heap H) callerA [] s₁ H:=⟨rfl,hM,fun b o e=>zp e,Nat.le_of_eq (vH _ _),trivial,fun b hb=>absurd (show b∈([]:List Addr)from hb) (by simp),hok,.of_eq hg⟩
  refine codeAny_mono ((F _ hKb (nsK hns)).run callerA [] s₁ H ⟨[.ref a],[]⟩ [.ref a] [.ref a] _ _ hr e0 (hbind s₁ (.ref a)) (.cons rfl .nil) (hsp H hO hS)) fun r s' h=>?_
  cases r with
  | error e=>exact(hCX H e s' h).elim
  | ok fl=>
   cases fl with
   | next=>exact False.elim h
   | brk=>exact False.elim h
   | cont=>exact False.elim h
   | ret u=>
    obtain⟨v,H',os,bare,un,hok',r',q⟩:=h
    have q':v=.bl true:=q
    subst q'
    obtain rfl:u=Value.bool true:=r'
    refine⟨rfl,OldK.of_keep fun b o e=>?_,os,bare⟩
    cases q:H b with
    | none=>exact un.keep b o e q (by intro z;exact absurd (show b∈([]:List Addr)from z) (by simp)) (by simp)
    | some u=>
     rcases hO b with z | ⟨ob,xs,z⟩
     ·rw [q]at z;cases z
     ·have z2:=un.frzs b ob _ z
      obtain⟨e1,_⟩:=hok b _ z
      obtain⟨e2,_⟩:=hok' b _ z2
      rw [e]at e1;cases e1
      exact e2
 cases hk:K.lookup a with
 | some o=>
  have e:=KX a o hk
  rw [ha]at e
  cases e
  refine core (fun _=>none) (fun _=>.inl rfl) (.inr ⟨_,vs.toArray,_,hk,rfl,rfl,rfl,by rw [List.size_toArray,lenV];exact hl,by simpa using rv⟩) (fun b u z=>by have z':(none:Option HO)=some u:=z;cases z') (fun b z=>absurd rfl z) fun z=>absurd rfl z
 | none=>
  refine core (fun b=>if b=a then some (.frz { cls:=.type "list",data:=.seq vs.toArray } (.lst (ns.map V.int)))else none) (fun b=>?_) (.inl (.inr ⟨{ cls:=.type "list",data:=.seq vs.toArray },if_pos rfl⟩)) (fun b u z=>?_) (fun b z=>?_) fun _=>hk
  ·by_cases hb:b=a
   ·exact .inr ⟨_,_,if_pos hb⟩
   ·exact .inl (if_neg hb)
  ·by_cases hb:b=a
   ·have z':=(if_pos hb).symm.trans z
    cases z'
    subst hb
    exact⟨ha,by rw [List.length_map];exact hl,vs,_,rv,ha⟩
   ·have z':=(if_neg hb).symm.trans z
    cases z'
  ·by_cases hb:b=a
   ·exact hb
   ·exact absurd (if_neg hb) z
end L2
namespace L2
open PySem PySem.Spec PyProof.Rows
abbrev KOf{K:PySem.W.Frag}{h:Heap}(_:K.In h):PySem.W.Frag:=K
theorem walk_of{l:PySem.W.OpenLaw}{n k:Nat}{q:Program}{loose:List Str}{XP:(Str→Option Value)→Heap→Prop}{YP:World→Heap→Prop}{d:DefRec}{K:Params→PySem.W.Frag}{CX:World→sH}{sp:World→Sp}{x:Str}
  (hn:l.most=some n) (hn2:n≤sizeLine) (hdf:d.params.defaults=[]) (hr:dy k callerA)
  (hY:∀(w:World) (h:Heap),YP w h→(K w.params).In h)
  (F:∀(w:World) (mg:Str→Option Value) (fa:Addr) (h:Heap),(K w.params).In h→h.Ns mainGlobals mg→mg d.name=some (.ref fa)→
   ∃fd:FuncData,(∀(s:Shared) (u:Value),BindsTo s fd ⟨[u],[]⟩ [(x,u)])∧
    ∀base:Heap,(K w.params).In base→base.Ns mainGlobals mg→aP l.prog w (K w.params) mg base (CX w) k fa fd [x] (sp w))
  (hsp:∀(w:World) (H:Hp) (a:Addr) (ns:List Int),ns.length≤n→yS H→aO (K w.params) H a (ns.map V.int)→sp w [.ref a] H (fun v _=>v=.bl true) fun _ _ _=>False)
  (hCX:∀(w:World) (H:Hp) (s:Shared) (e:Value) (s':Shared),CX w [] H s (fun _ _ _=>False) e s'→False) :
  PySem.W.WalkO q loose XP YP l.row.toRowW d [] (fun f vs=>PySem.call f vs):=by
 refine Att.attach_call hn hdf fun w s₀ s₁ mg mb fa o pm cd doc a vs ns G Y ho hd hcd hmg hobj hints hlen hg=>?_
 have KX:=hY w _ Y
 obtain⟨fd,hb,hF⟩:=F w mg fa _ KX G.T.g hmg
 exact rJ KX G.T.g G.T.b G.T.builtins G.T.nolimit hg hobj hints (Nat.le_trans hlen hn2) hr hF hb (fun H hO hS=>hsp w H a ns hlen hO hS) fun H e s'=>hCX w H s₁ e s'
end L2
/- THE LAST THEOREM (shape; LID, My.* are yours):
  My.Adr:a structure of the addresses that your layer names (classes,functions);My.Txt K t:a structure (Prop) of the equations over K;
  My.txt_mk:{K} {implicit addresses ..} (e1:nsIn K mainGlobals "law"=some (some (.ref f))) (e2:K.lookup f=some ⟨oc,od,.func (fnOf "law" "law" params body scope dV kV doc pm an cdv ct),sl⟩) (e3:codeIn K cdv "law"=true) ..:∃t,My.Txt K t
set_option maxRecDepth 100000 in
set_option maxHeartbeats 0 in
theorem PySem.Challenge.cw_LID_holds : PySem.Challenge.rw_LID.Holds := by
 w_on;o_law;k_head;(case hw=>w_witness2)
 k_fill
 refine L2.walk_of (l:=PySem.Challenge.rw_LID) (n:=63) (k:=40) (x:="script") (CX:=fun w=>..) (sp:=fun _=>My.sp_law) rfl (by decide) rfl ⟨rfl,by decide,by decide⟩ (fun w h Y=>PySem.W.kIn_of Y) ?F ?S ?C
 case F=>
  intro w mg fa h KX G hmg
  have T:∃t,My.Txt (L2.KOf KX) t:=by
   dsimp only [L2.KOf] -- K must stand as «<heap const> w.params» for k_is
   refine' My.txt_mk ?e1 ?e2 ?e3 ..
   (case e1=>PySem.W.k_is) -- in the order:a name -> its address -> its object -> its parts
   (case e2=>PySem.W.k_is)
   ..
  obtain⟨t,T⟩:=T
  have e0:=hmg.symm.trans (PySem.W.mg_of KX G T.law)
  cases e0 -- fa is the law's own address
  exact⟨_,fun s u=>.of_eq rfl,fun base kb nb=>My.law_fn T kb nb⟩ -- if «.of_eq rfl» comes too early:refine'⟨_,?b,fun base kb nb=>My.law_fn T kb nb⟩;exact fun s u=>.of_eq rfl
 case S=>exact fun w H a ns hl hO hS=>..
 case C=>exact ..
(the tactic k_is has no namespace:write k_is) -/
namespace L2
open PySem PySem.Spec PyProof.Rows
def bw(s:Stmt)(j:Nat):Stmt:=match s with
 | .ClassDef _ _ _ body _ _ _ _ _ _ _=>body.getD j (.Pass ⟨0,0,0,0⟩)
 | _=>.Pass ⟨0,0,0,0⟩
def dh(s:Stmt):Arguments:=match s with
 | .FunctionDef _ a _ _ _ _ _ _ _ _=>a
 | _=>{ posonlyargs:=[],args:=[],vararg:=none,kwonlyargs:=[],kw_defaults:=[],kwarg:=none,defaults:=[] }
def cS(s:Stmt):List Stmt:=match s with
 | .FunctionDef _ _ b _ _ _ _ _ _ _=>b
 | _=>[]
def ao(s:Stmt):Scope:=match s with
 | .FunctionDef _ _ _ _ _ _ sc _ _ _=>sc
 | _=>{ kind:=.function,names:=[],isGenerator:=false,isCoroutine:=false }
abbrev bY:sH:=fun _ _ _ _ _ _=>False
abbrev E0:XK:=fun _ _ _=>False
theorem nc{X:Cx}:mD bY X E0:=fun _ _ _ _ _ _ _ h=>h.elim
structure cH(K:PySem.W.Frag)(x qual:Str)(st:Stmt)(f:Addr)(fd:FuncData):Prop where
 ex:∃(oc:Value) (od:Option Addr) (kV doc pm:Value) (an:Option Addr) (cdv ct:Value) (osl:Array (Option Value)),
  fd=PySem.W.fnOf x qual (dh st) (cS st) (ao st) .none kV doc pm an cdv ct∧K.lookup f=some ⟨oc,od,.func fd,osl⟩∧PySem.W.codeIn K cdv qual=true
 kp:PySem.W.keepIn K (.ref f)=true
section
variable {P:Program} {w:World} {K:PySem.W.Frag} {mg:Str→Option Value} {base:Heap}
theorem cH.ok{x qual:Str}{st:Stmt}{f:Addr}{fd:FuncData}{N ps:List Str}{k:Nat}{sp:Sp}(F:cH K x qual st f fd)(S:aB N ps (ao st))(len:∀vs H Q E,sp vs H Q E→vs.length=ps.length)
  (hbody:∀(cdv:Value) (A:Around) (outer:List Env) (s:Shared) (H:Hp) (vs:List V) (Q:VK) (E:XK),dy k (A.deeper (envOfC qual (ao st) s.heap.objs.size f cdv))→sp vs H Q E→
   ∃t,uI (rm bY P w K mg base N qual (ao st) f cdv A outer s H E).nox (cS st) t∧t { nx:=fun _ H'=>Q .non H',rt:=Q } (start N vs) H):aP P w K mg base bY (k+1) f fd ps sp:=by
 obtain⟨oc,od,kV,doc,pm,an,cdv,ct,osl,rfl,lk,hcd⟩:=F.ex
 refine Ak lk hcd S len fun A outer s H vs Q E hr hsp=>?_
 obtain⟨t,h,q⟩:=hbody cdv A outer s H vs Q E hr hsp
 exact⟨t,h.nox,q⟩
theorem cH.binds{x qual:Str}{st:Stmt}{f:Addr}{fd:FuncData}{ps:List Str}(F:cH K x qual st f fd)
  (h:∀(kV doc pm:Value) (an:Option Addr) (cdv ct:Value) (us:List Value),us.length=ps.length→bindArgs (PySem.W.fnOf x qual (dh st) (cS st) (ao st) .none kV doc pm an cdv ct) ⟨us,[]⟩=pure (ps.zip us)):dO K fd ps []:=by
 obtain⟨oc,od,kV,doc,pm,an,cdv,ct,osl,rfl,lk,hcd⟩:=F.ex
 exact .all (h kV doc pm an cdv ct)
theorem fun_mk{x qual:Str}{st:Stmt}{f:Addr}{oc:Value}{od an:Option Addr}{osl:Array (Option Value)}{kV doc pm cdv ct:Value}(l:K.lookup f=some ⟨oc,od,.func (PySem.W.fnOf x qual (dh st) (cS st) (ao st) .none kV doc pm an cdv ct),osl⟩)
  (c:PySem.W.codeIn K cdv qual=true) (k:PySem.W.keepIn K (.ref f)=true):cH K x qual st f (PySem.W.fnOf x qual (dh st) (cS st) (ao st) .none kV doc pm an cdv ct):=⟨⟨oc,od,kV,doc,pm,an,cdv,ct,osl,rfl,l,c⟩,k⟩
end
section
variable {X:Cx}
theorem pv(i:Nat){x:Str}{pos:Pos}(hN:X.N[i]?=some x:=by rfl)(hv:BO X.env.scope x:=by first | exact Or.inl rfl | exact Or.inr (Or.inl rfl) | exact Or.inr (Or.inr rfl))(hd:(x == ("__debug__":Str))=false:=by decide)
  (hcd:(x == ("__classdict__":Str))=false:=by decide):PE X (.Name x pos) (z8 i):=xY hN hv hd hcd
end
def ax(H H':Hp):Prop:=∀b o,H b=some o→H' b=some o
theorem ax.refl(H:Hp):ax H H:=fun _ _ h=>h
theorem ax.trans{H H1 H2:Hp}(a:ax H H1)(b:ax H1 H2):ax H H2:=fun c o h=>b c o (a c o h)
theorem ax.free{H H':Hp}(e:ax H H'){l:Addr}(h:H' l=Option.none):H l=Option.none:=by
 cases q:H l with
 | none=>rfl
 | some o=>
  rw [e l o q]at h
  cases h
theorem ax.seq{K:PySem.W.Frag}{H H':Hp}{a:Addr}{xs:List V}(e:ax H H')(h:aO K H a xs):aO K H' a xs:=by
 rcases h with(h | ⟨o,h⟩) | h
 ·exact .inl (.inl (e _ _ h))
 ·exact .inl (.inr ⟨o,e _ _ h⟩)
 ·exact .inr h
end L2
namespace GM
def stirSt(c p:Int):Nat→Int×Int
 | 0=>(0,(c % 998244341+7919 * p) % 998244353+3)
 | i+1=>((stirSt c p i).1 * 998244353+((stirSt c p i).2 % 4099 * 240007+(stirSt c p i).2 / 4099 * 89+1201 * (i:Int)+11) % 998244353,
   ((stirSt c p i).2 % 4099 * 240007+(stirSt c p i).2 / 4099 * 89+1201 * (i:Int)+11) % 998244353)
def stirF(c p:Int):Int:=(stirSt c p 4).1
theorem lq(c p:Int):∀i:Nat,0≤(stirSt c p i).1∧(stirSt c p i).1+1≤998244353 ^ i
 | 0=>⟨Int.le_refl _,Int.le_refl _⟩
 | i+1=>by
  obtain⟨h1,h2⟩:=lq c p i
  have h3:=Int.emod_nonneg ((stirSt c p i).2 % 4099 * 240007+(stirSt c p i).2 / 4099 * 89+1201 * (i:Int)+11) (show(998244353:Int)≠0 by decide)
  have h4:=Int.emod_lt_of_pos ((stirSt c p i).2 % 4099 * 240007+(stirSt c p i).2 / 4099 * 89+1201 * (i:Int)+11) (show(0:Int) < 998244353 by decide)
  have e:(998244353:Int) ^ (i+1)=998244353 ^ i * 998244353:=Int.pow_succ ..
  simp only [stirSt]
  rw [e]
  generalize((stirSt c p i).2 % 4099 * 240007+(stirSt c p i).2 / 4099 * 89+1201 * (i:Int)+11) % 998244353=r at h3 h4
  generalize(stirSt c p i).1=f at h1 h2
  generalize(998244353:Int) ^ i=q at h2
  omega
theorem sA(c p:Int):0≤stirF c p:=(lq c p 4).1
theorem yu(c p:Int):stirF c p < 2 ^ 128:=by
 have h:=(lq c p 4).2
 have e:(998244353:Int) ^ 4≤2 ^ 128:=by decide
 unfold stirF
 omega
def powGo:Nat→Int→Int→Int
 | 0,p,_=>p
 | f+1,p,a=>if p≤a then powGo f (p * 1000000) a else p
theorem kL:∀(f:Nat) (p a:Int),0 < p→0 < powGo f p a
 | 0,_,_,h=>h
 | f+1,p,a,h=>by
  simp only [powGo]
  split
  ·exact kL f _ a (by omega)
  ·exact h
theorem r6:∀(f:Nat) (p a b:Int),p≤b→a * 1000000≤b→powGo f p a≤b
 | 0,_,_,_,h,_=>h
 | f+1,p,a,b,h,h'=>by
  simp only [powGo]
  split
  ·exact r6 f _ a b (by omega) h'
  ·exact h
def absI(c:Int):Int:=if c < 0 then -c else c
theorem uK(c:Int):0≤absI c:=by unfold absI;split<;>omega
theorem q9(c:Int):absI c=c.natAbs:=by unfold absI;split<;>omega
def powF(c:Int):Int:=powGo ((absI c).toNat+1) 1 (absI c)
def gotF(ns:List Int)(p:Int):Int:=match ns[p.toNat]? with
 | none=>0
 | some c=>absI c+powF c * stirF (absI c) p
theorem zb(ns:List Int)(p:Int):0≤gotF ns p:=by
 unfold gotF
 split
 ·exact Int.le_refl _
 ·have h1:=uK ‹Int›
  have h2:=Int.mul_nonneg (Int.le_of_lt (kL ((absI ‹Int›).toNat+1) 1 (absI ‹Int›) (by decide))) (sA (absI ‹Int›) p)
  unfold powF
  omega
theorem powF_lt{n:Nat}{c:Int}(h:c.natAbs < 2 ^ n):(powF c).natAbs < 2 ^ (n+21):=by
 have ha:=uK c
 have hA:absI c < (2:Int) ^ n:=by
  rw [q9]
  exact_mod_cast h
 have hn:(1:Int)≤2 ^ n:=by
  have:1≤2 ^ n:=Nat.one_le_two_pow
  exact_mod_cast this
 have hp:powF c≤2 ^ n * 1000000:=r6 _ 1 (absI c) _ (by omega) (by omega)
 have hp0:0 < powF c:=kL _ _ _ (by decide)
 have e:(2:Int) ^ (n+21)=2 ^ n * 2 ^ 21:=Int.pow_add ..
 have e2:(2:Int) ^ 21=2097152:=by decide
 have key:powF c < 2 ^ (n+21):=by
  rw [e,e2]
  generalize(2:Int) ^ n=q at hA hn hp
  omega
 have:((powF c).natAbs:Int) < ((2 ^ (n+21):Nat):Int):=by
  rw [Int.natAbs_of_nonneg (Int.le_of_lt hp0)]
  exact_mod_cast key
 exact_mod_cast this
theorem stirF_natAbs(c p:Int):(stirF c p).natAbs < 2 ^ 128:=by
 have h:=yu c p
 have h0:=sA c p
 have:((stirF c p).natAbs:Int) < ((2 ^ 128:Nat):Int):=by
  rw [Int.natAbs_of_nonneg h0]
  exact_mod_cast h
 exact_mod_cast this
theorem powGo_stop{f:Nat}{p a:Int}(h:¬p≤a):powGo f p a=p:=by
 cases f with
 | zero=>rfl
 | succ f=>simp only [powGo];rw [if_neg h]
def cellsF(ns:List Int)(lo hi:Int):List Int:=(List.range ((if (ns.length:Int) < hi then(ns.length:Int)else hi) - lo).toNat).map fun(i:Nat)=>gotF ns (lo+i)
theorem cellsF_nn{ns:List Int}{lo hi x:Int}(h:x∈cellsF ns lo hi):0≤x:=by
 obtain⟨i,_,rfl⟩:=List.mem_map.mp h
 exact zb _ _
end GM
set_option maxHeartbeats 4000000
namespace L2
open PySem PySem.Spec PyProof.Rows
def gP(cells:List (Str×Addr)):List (Str×NameKind)→List (Str×Addr)→List (Str×Addr)
 | [],cs=>cs
 | (n,k)::r,cs=>gP cells r (if k == .free then(n,(cells.lookup n).getD 0)::cs else cs)
theorem iQ{scope:Scope}{env:Env}(h:∀y∈scope.names,y.2=.free→∃c,env.cells.lookup y.1=some c):closureFor scope env=pure (gP env.cells scope.names []):=by
 simp only [closureFor]
 generalize scope.names=l at h ⊢
 have key:∀(l:List (Str×NameKind)) (cs:List (Str×Addr)),(∀y∈l,y.2=.free→∃c,env.cells.lookup y.1=some c)→
   (forIn l cs (fun(x:Str×NameKind) (r:List (Str×Addr))=>(if (x.snd == NameKind.free)=true then(do let a ←cellOf env x.fst;pure (ForInStep.yield ((x.fst,a)::r)))else pure (ForInStep.yield r):Sem (ForInStep (List (Str×Addr))))):Sem (List (Str×Addr)))=pure (gP env.cells l cs):=by
  intro l
  induction l with
  | nil=>intro cs _;rfl
  | cons x r ih=>
   intro cs h
   obtain⟨n,k⟩:=x
   have hr:∀y∈r,y.2=.free→∃c,env.cells.lookup y.1=some c:=fun y hy=>h y (List.mem_cons_of_mem _ hy)
   rw [List.forIn_cons]
   by_cases hk:k=.free
   ·subst hk
    obtain⟨c,hc⟩:=h (n,.free) List.mem_cons_self rfl
    have e:cellOf env n=pure c:=by unfold cellOf;rw [show env.cells.lookup n=some c from hc]
    simp only [beq_self_eq_true,if_true,e]
    show(forIn r ((n,c)::cs) _:Sem _)=_
    rw [ih _ hr]
    simp only [gP,beq_self_eq_true,if_true]
    rw [show env.cells.lookup n=some c from hc];rfl
   ·have hb:(k == NameKind.free)=false:=by simpa using hk
    simp only [hb,Bool.false_eq_true,if_false]
    show(forIn r cs _:Sem _)=_
    rw [ih _ hr]
    simp only [gP,hb,Bool.false_eq_true,if_false]
 rw [key l [] h];rfl
theorem pf{cells:List (Str×Addr)}:∀{l:List (Str×NameKind)} {cs:List (Str×Addr)} {x:Str} {c:Addr},(∀y∈l,y.2=.free→∃c,cells.lookup y.1=some c)→
  (∀x c,cs.lookup x=some c→cells.lookup x=some c)→(gP cells l cs).lookup x=some c→cells.lookup x=some c
 | [],_,_,_,_,hs,e=>hs _ _ e
 | (n,k)::r,cs,x,c,h,hs,e=>by
  refine pf (l:=r) (fun y hy=>h y (List.mem_cons_of_mem _ hy)) ?_ e
  intro z d
  by_cases hk:k=.free
  ·subst hk
   obtain⟨c',hc'⟩:=h (n,.free) List.mem_cons_self rfl
   have hc'':cells.lookup n=some c':=hc'
   simp only [beq_self_eq_true,if_true,List.lookup_cons,hc'',Option.getD_some]
   cases hz:z == n with
   | true=>
    have:z=n:=by simpa using hz
    subst this
    intro q
    cases q
    exact hc''
   | false=>exact hs z d
  ·have hb:(k == NameKind.free)=false:=by simpa using hk
   simp only [hb,Bool.false_eq_true,if_false]
   exact hs z d
theorem kx{cells:List (Str×Addr)}:∀{l:List (Str×NameKind)} {cs:List (Str×Addr)} {x:Str},((x,NameKind.free)∈l∨∃c,cs.lookup x=some c)→∃c,(gP cells l cs).lookup x=some c
 | [],_,_,h=>by
  rcases h with h | h
  ·cases h
  ·exact h
 | (n,k)::r,cs,x,h=>by
  refine kx (l:=r) ?_
  rcases h with h | ⟨c,h⟩
  ·rcases List.mem_cons.mp h with e | h
   ·cases e
    refine .inr ⟨(cells.lookup n).getD 0,?_⟩
    simp only [beq_self_eq_true,if_true,List.lookup_cons]
   ·exact .inl h
  ·by_cases hk:k=.free
   ·subst hk
    simp only [beq_self_eq_true,if_true,List.lookup_cons]
    cases hz:x == n with
    | true=>exact .inr ⟨_,rfl⟩
    | false=>exact .inr ⟨c,h⟩
   ·have hb:(k == NameKind.free)=false:=by simpa using hk
    simp only [hb,Bool.false_eq_true,if_false]
    exact .inr ⟨c,h⟩
theorem ft{env:Env}:∀{names:List (Str×NameKind)} {x:Str},
  (names.map fun(n,k)=>if (k == NameKind.free && env.scope.kind == .function && env.kindOf n == some .cell)then(n,NameKind.cell)else(n,k)).lookup x =
   (names.lookup x).map fun k=>if (k == NameKind.free && env.scope.kind == .function && env.kindOf x == some .cell)then NameKind.cell else k
 | [],_=>rfl
 | (n,k)::r,x=>by
  have ih:=@ft env r x
  show List.lookup x ((if (k == NameKind.free && env.scope.kind == .function && env.kindOf n == some .cell)=true then(n,NameKind.cell)else(n,k))::_)=_
  cases hx:x == n with
  | true=>
   have e:x=n:=by simpa using hx
   subst e
   by_cases hc:(k == NameKind.free && env.scope.kind == .function && env.kindOf x == some .cell)=true
   ·rw [if_pos hc];simp only [List.lookup_cons,hx,Option.map_some];rw [if_pos hc]
   ·rw [if_neg hc];simp only [List.lookup_cons,hx,Option.map_some];rw [if_neg hc]
  | false=>
   by_cases hc:(k == NameKind.free && env.scope.kind == .function && env.kindOf n == some .cell)=true
   ·rw [if_pos hc];simp only [List.lookup_cons,hx];exact ih
   ·rw [if_neg hc];simp only [List.lookup_cons,hx];exact ih
theorem mem_of_lookup{κ ν:Type}[BEq κ][LawfulBEq κ]:∀{l:List (κ×ν)} {x:κ} {v:ν},l.lookup x=some v→(x,v)∈l
 | [],_,_,h=>by cases h
 | (n,k)::r,x,v,h=>by
  rw [List.lookup_cons]at h
  cases hx:x == n with
  | true=>
   rw [hx]at h
   have e:x=n:=by simpa using hx
   cases h
   rw [e]
   exact List.mem_cons_self
  | false=>
   rw [hx]at h
   exact List.mem_cons_of_mem _ (mem_of_lookup h)
structure bS(X:Cx)(scope:Scope)(js:List Nat):Prop where
 kind:scope.kind=.function
 cell:∀y∈scope.names,y.2≠.cell
 names:∀y∈scope.names,y.2=.local→scope.names.lookup y.1=some .local
 free:∀y∈scope.names,y.2=.free→X.env.kindOf y.1=some .cell∨X.env.kindOf y.1=some .free
 js:∀j∈js,scope.names.lookup (X.N.getD j "")=some .free
def uO(out:Scope)(N:List Str)(scope:Scope)(js:List Nat):Bool:=
 (scope.kind == .function) && scope.names.all (fun y=>y.2 != .cell) && scope.names.all (fun y=>y.2 != .local || scope.names.lookup y.1 == some .local) &&
  scope.names.all (fun y=>y.2 != .free || (out.names.lookup y.1 == some .cell || out.names.lookup y.1 == some .free)) && js.all fun j=>scope.names.lookup (N.getD j "") == some .free
theorem bS.of{X:Cx}{scope:Scope}{js:List Nat}(h:uO X.env.scope X.N scope js=true):bS X scope js:=by
 simp only [uO,Bool.and_eq_true,List.all_eq_true]at h
 obtain⟨⟨⟨⟨h1,h2⟩,h3⟩,h4⟩,h5⟩:=h
 refine⟨by simpa using h1,fun y hy=>by simpa using h2 y hy,fun y hy e=>?_,fun y hy e=>?_,fun j hj=>by simpa using h5 j hj⟩
 ·have:=h3 y hy
  rw [e]at this
  simpa using this
 ·have:=h4 y hy
  rw [e]at this
  simpa [Env.kindOf]using this
def n6(X:Cx)(scope:Scope)(own:List Str)(js:List Nat)(C:Addr)(s:Shared)(H:Hp)(ex:List Addr)(pn:List (Addr×Obj))(E:Value→Shared→Prop):Cx where
 prog:=X.prog
 w:=X.w
 K:=X.K
 mg:=X.mg
 base:=X.base
 A:=X.A
 N:=own++js.map fun j=>X.N.getD j ""
 s₀:=s
 H₀:=H
 env:=compEnvC scope (gP X.env.cells scope.names []) C X.env
 outer:=X.stack
 stack:=X.stack
 ex:=ex
 fn:=fun _=>false
 calm:=X.calm
 pn:=pn
 xe:=E
def cσ(n:Nat)(js:List Nat)(σ:St):St:=List.replicate n none++js.map fun j=>σ.getD j none
section
variable {X:Cx} {pins:List (Addr×Obj)} {σ:St} {H H':Hp} {s:Shared} {scope:Scope} {own:List Str} {js:List Nat} {C:Addr} {fp:List Addr} {E:Value→Shared→Prop}
theorem bS.clos(ok:bS X scope js)(I:aU X pins σ H s):∀y∈scope.names,y.2=.free→∃c,X.env.cells.lookup y.1=some c:=fun y hy e=>I.ok.has y.1 (ok.free y hy e)
theorem bS.sub(ok:bS X scope js)(I:aU X pins σ H s){x:Str}{c:Addr}(e:(gP X.env.cells scope.names []).lookup x=some c):X.env.cells.lookup x=some c:=
 pf (ok.clos I) (fun _ _ z=>by cases z) e
theorem bS.kindOf(ok:bS X scope js){cl:List (Str×Addr)}{x:Str}(h:(compEnvC scope cl C X.env).kindOf x=some .cell∨(compEnvC scope cl C X.env).kindOf x=some .free):(x,NameKind.free)∈scope.names:=by
 have e:(compEnvC scope cl C X.env).kindOf x=(scope.names.lookup x).map fun k=>if (k == NameKind.free && X.env.scope.kind == .function && X.env.kindOf x == some .cell)then NameKind.cell else k:=ft
 rw [e]at h
 cases q:scope.names.lookup x with
 | none=>rw [q]at h;simp at h
 | some k=>
  have hm:=mem_of_lookup q
  by_cases hk:k=.free
  ·subst hk;exact hm
  ·have hb:(k == NameKind.free)=false:=by simpa using hk
   rw [q]at h
   simp only [Option.map_some,hb,Bool.false_and,Bool.false_eq_true,if_false]at h
   rcases h with h | h
   ·exact absurd (Option.some.inj h) (ok.cell _ hm)
   ·exact absurd (Option.some.inj h) hk
theorem bS.isFree(ok:bS X scope js){cl:List (Str×Addr)}{x:Str}(h:scope.names.lookup x=some .free):(compEnvC scope cl C X.env).kindOf x=some .cell∨(compEnvC scope cl C X.env).kindOf x=some .free:=by
 have e:(compEnvC scope cl C X.env).kindOf x=(scope.names.lookup x).map fun k=>if (k == NameKind.free && X.env.scope.kind == .function && X.env.kindOf x == some .cell)then NameKind.cell else k:=ft
 rw [e,h]
 simp only [Option.map_some]
 split
 ·exact .inl rfl
 ·exact .inr rfl
theorem yZ(ok:bS X scope js)(I:aU X pins σ H s)(hC:s.heap.objs.size≤C)(f:∀b∈fp,mB X pins H b)(fo:∀b∈fp,∃o,s.heap.get? b=some o):(n6 X scope own js C s H fp (X.pn++pins) E).Ok where
 mod:=I.ok.mod
 kind:=ok.kind
 glob:=I.ok.glob
 blt:=I.ok.blt
 above:=hC
 inj:=fun x y c e1 e2=>I.ok.inj x y c (ok.sub I e1) (ok.sub I e2)
 has:=fun x h=>kx (.inl (ok.kindOf h))
 cab:=fun x c h=>nomatch (show false=true from h)
 hd:=I.ok.hd
 frames:=I.ok.frames
 stk:=.inl rfl
 exf:=fun b hb=>by
  obtain⟨o,e⟩:=fo b hb
  obtain⟨_,_,_,_,f4,_⟩:=f b hb
  exact⟨Nat.ne_of_lt (Nat.lt_of_lt_of_le (Heap.lt_size e) hC),fun x c q=>f4 x c (ok.sub I q)⟩
 bs:=I.bs
 bsz:=Nat.le_trans I.ok.bsz I.sz
 noex:=fun b o e hb=>by
  obtain⟨_,_,_,f3,_,_⟩:=f b hb
  rcases f3 with z | z
  ·exact I.ok.noex b o e z
  ·exact absurd (Nat.lt_of_lt_of_le (Heap.lt_size e) (Nat.le_trans I.ok.bsz z)) (Nat.lt_irrefl _)
 exfs:=fun b hb hs=>by
  obtain⟨_,f1,f2,_,_,_⟩:=f b hb
  rcases List.mem_cons.mp (I.stkSub b hs)with e | e
  ·exact f1 e
  ·exact f2 e
 funs:=I.stack
 frf:=I.stkFree
theorem xp{s':Shared}{pins':List (Addr×Obj)}{m:Str→Option Value}(ok:bS X scope js)(I:aU X pins σ H s)(hC:s.heap.objs.size≤C)(f:∀b∈fp,mB X pins H b)(fo:∀b∈fp,∃o,s.heap.get? b=some o)
  (hos:s'.os=s.os) (hg:AllBare s'.gens) (u:Un (sI X.stack) fp H H' s.heap s'.heap) (hn:s'.heap.Ns C m) (hok:lB X.prog X.w H' s'.heap) (hCf:H' C=none)
  (hp:∀p∈pins',s'.heap.get? p.1=some p.2∧H' p.1=none∧p.1≠C∧p.1∉sI X.stack∧∀v,p.2.data≠.cell v) :
  aU (n6 X scope own js C s H fp (X.pn++pins) E) pins' (cσ own.length js σ) H' s':=by
 have Ok:=yZ (own:=own) (E:=E) ok I hC f fo
 have cellAt:∀x c,X.env.cells.lookup x=some c→∀v,s.heap.IsCell c v→s'.heap.IsCell c v:=fun x c e v ⟨o,ho,hd⟩=>by
  have nx:c∉fp:=fun z=>by
   obtain⟨_,_,_,_,f4,_⟩:=f c z
   exact f4 x c e rfl
  obtain⟨sl,q⟩:=u.any ho (I.freeC x c e) nx
  exact⟨_,q,hd⟩
 refine⟨Ok,hos,hg,u,⟨m,hn,?_⟩,?_,hCf,?_,?_,hok,?_⟩
 ·intro i x v e1 e2 _
  have e1':(own++js.map fun j=>X.N.getD j "")[i]?=some x:=e1
  have e2':(List.replicate own.length none++js.map fun j=>σ.getD j none)[i]?=some (some v):=e2
  by_cases hi:i < own.length
  ·rw [List.getElem?_append_left (by simpa using hi),List.getElem?_replicate]at e2'
   split at e2'<;>cases e2'
  ·rw [List.getElem?_append_right (by omega),List.getElem?_map]at e1'
   rw [List.getElem?_append_right (by simpa using Nat.not_lt.mp hi),List.getElem?_map,List.length_replicate]at e2'
   cases hj:js[i - own.length]? with
   | none=>rw [hj]at e1';cases e1'
   | some j=>
    rw [hj]at e1' e2'
    have ex:X.N.getD j ""=x:=Option.some.inj e1'
    have ev:σ.getD j none=some v:=Option.some.inj e2'
    have hjm:j∈js:=List.mem_of_getElem? hj
    have hjl:j < σ.length:=by
     apply Classical.byContradiction
     intro h
     rw [List.getD_eq_getElem?_getD,List.getElem?_eq_none (Nat.not_lt.mp h)]at ev
     cases ev
    have hσ:σ[j]?=some (some v):=by
     rw [List.getD_eq_getElem?_getD,List.getElem?_eq_getElem hjl]at ev
     rw [List.getElem?_eq_getElem hjl]
     exact congrArg some ev
    have hNl:j < X.N.length:=by rw [←I.len];exact hjl
    have hN:X.N[j]?=some x:=by
     rw [List.getD_eq_getElem?_getD,List.getElem?_eq_getElem hNl]at ex
     rw [List.getElem?_eq_getElem hNl]
     exact congrArg some ex
    have hfr:scope.names.lookup x=some .free:=by rw [←ex];exact ok.js j hjm
    have hk:=ok.free _ (mem_of_lookup hfr) rfl
    obtain⟨m0,_,hl⟩:=I.loc
    obtain⟨w',r,l⟩:=hl j x v hN hσ (.inr hk)
    refine⟨w',r,?_⟩
    rcases l with⟨hk',_⟩ | ⟨_,c,hc,hz⟩
    ·have hk'':X.env.kindOf x=some .local:=hk'
     rcases hk with q | q
     ·exact absurd (hk''.symm.trans q) (by intro z;cases z)
     ·exact absurd (hk''.symm.trans q) (by intro z;cases z)
    ·obtain⟨c',hc'⟩:∃c',(gP X.env.cells scope.names []).lookup x=some c':=kx (.inl (mem_of_lookup hfr))
     have e:=ok.sub I hc'
     rw [hc]at e
     cases e
     exact .inr ⟨ok.isFree hfr,c,hc',cellAt x c hc _ hz⟩
 ·intro x c e
  obtain⟨v,z⟩:=I.cell x c (ok.sub I e)
  exact⟨v,cellAt x c (ok.sub I e) v z⟩
 ·intro x c e
  obtain⟨v,o,ho,_⟩:=I.cell x c (ok.sub I e)
  refine u.free c o ho (I.freeC x c (ok.sub I e)) fun z=>?_
  obtain⟨_,_,_,_,f4,_⟩:=f c z
  exact f4 x c (ok.sub I e) rfl
 ·intro p hpm
  rcases List.mem_append.mp hpm with h | h
  ·have h':p∈X.pn++pins:=h
   obtain⟨e,n,ne,nf,d⟩:=I.pin p h'
   have nfr:p.1∉sI X.stack:=fun z=>by
    rcases List.mem_cons.mp (I.stkSub _ z)with q | q
    ·exact ne q
    ·exact nf q
   have nex:p.1∉fp:=fun z=>by
    obtain⟨_,_,_,_,_,f5⟩:=f p.1 z
    exact f5 p h' rfl
   exact⟨u.keep p.1 p.2 e n nfr nex,u.free p.1 p.2 e n nex,Nat.ne_of_lt (Nat.lt_of_lt_of_le (Heap.lt_size e) hC),nfr,d⟩
  ·exact hp p h
 ·show(List.replicate own.length none++js.map fun j=>σ.getD j none).length=(own++js.map fun j=>X.N.getD j "").length
  simp
theorem aU.track{D:Addr}{ys:List V}{its:List Value}{n:Nat}(I:aU X pins σ H s)(hn:H D=none)(ho:s.heap.get? D=some { cls:=.type "list",data:=.seq its.toArray n })(r:aW ys its)(hz:ys.length≤sizeLine)
  (h1:D∈X.ex∨X.s₀.heap.objs.size≤D) (hL:D≠X.env.locals) (h2:∀x c,X.env.cells.lookup x=some c→c≠D) (h3:∀p∈X.pn++pins,p.1≠D):aU X pins σ (upd H D (.lst ys)) s:=by
 have ne:∀b o,H b=some o→b≠D:=fun b o e=>ay e hn
 refine I.step (h':=s.heap) (g':=s.gens) (d':=s.drawn) (t':=s.toks) (ch:=[D]) (fun b hb=>?_) (fun b o _ _ _ e _=>e) (fun b o _ _ _ e _=>⟨o.slots,e⟩) (fun b o hc _ n=>?_)
  (fun b o _ e=>⟨o,e⟩) (fun b xs e=>?_) (fun b o u e=>?_) (fun b ps e=>⟨#[],?_⟩) (fun _ z=>z) (fun b u e=>?_) I.bare
 ·have e:b=D:=by simpa using hb
  subst e
  exact⟨h1,hL,h2,h3⟩
 ·rw [aj (fun z=>hc (by simp [z]))];exact n
 ·rw [aj (ne _ _ e)];exact e
 ·rw [aj (ne _ _ e)];exact e
 ·rw [aj (ne _ _ e),e];simp
 ·by_cases hb:b=D
  ·subst hb
   rw [ab]at e
   cases e
   exact⟨hz,its,n,r,ho⟩
  ·rw [aj hb]at e
   exact(I.hok b u e).stay (fun c v _ q=>q) (fun c q=>by rw [aj (ne _ _ q)];exact q) fun c xs q=>by rw [aj (ne _ _ q)];exact q
end
structure CJ(X:Cx)(pins:List (Addr×Obj))(C:Addr):Prop where
 ne:C≠X.env.locals
 old:C∈X.ex∨X.s₀.heap.objs.size≤C
 cells:∀x c,X.env.cells.lookup x=some c→c≠C
 pin:∀p∈X.pn++pins,p.1≠C
theorem CJ.go{X:Cx}{pins:List (Addr×Obj)}{C:Addr}{σ:St}{H:Hp}{s:Shared}{h':Heap}(o:CJ X pins C)(I:aU X pins σ H s)(hn:H C=none)(sb:Heap.SameBut C s.heap h'):aU X pins σ H { s with heap:=h' }:=
 I.turned (t':=s.toks) (fun b q hb e=>(sb.2 b hb).trans e) hn o.ne o.old o.cells o.pin
section
variable {prog:Program} {w:World} {A:Around} {R:Result→Shared→Prop} {s:Shared}
theorem rk{elt target iter:Expr}{ifs:List Expr}{scope:Scope}{pos:Pos}{it acc:Value}{env:Env}(I:Nat→Shared→Prop)
  (turn:∀n s,I n s→wpAny (model prog w) A (pyNext it) (fun r s₁=>match r with
   | none=>R (.ok .next) s₁
   | some v=>wpAny (model prog w) A (letOwnedTupleGo target it v) (fun _ s₁'=>wpAny (model prog w) A (assign target env v) (fun _ s₂=>
     wpAny (model prog w) A (forIn ifs true fun c r=>if r=true then do let ok ←isTrue c env (eval c env);pure (ForInStep.yield ok)else pure (ForInStep.yield r)) (fun ok s₃=>
      if ok=true then wpAny (model prog w) A (eval elt env) (fun x s₄=>
       wpAny (model prog w) A (call (.builtin "list.append") [acc,x]) (fun _ s₅=>∃m,m < n∧I m s₅) (notedBy (model prog w) A env fun e s'=>R (.error e) s') s₄) (notedBy (model prog w) A env fun e s'=>R (.error e) s') s₃
      else ∃m,m < n∧I m s₃) (notedBy (model prog w) A env fun e s'=>R (.error e) s') s₂) (notedBy (model prog w) A env fun e s'=>R (.error e) s') s₁') (notedBy (model prog w) A env fun e s'=>R (.error e) s') s₁)
    (notedBy (model prog w) A env fun e s'=>R (.error e) s') s)
  (n:Nat) (h:I n s) :
  codeAny (model prog w) A (.compLoop (.ListComp elt [⟨target,iter,ifs,0⟩] scope pos) 0 it acc env) R s:=by
 refine codeAny_loop rfl I (fun n s hI=>?_) n h
 show wpAny _ A ((compTurn (.ListComp elt [⟨target,iter,ifs,0⟩] scope pos) 0 it acc env).onRaise (fun x=>do noteFrame x env;theTreesLotGoes x)) _ _ s
 refine wpAny_noted ?_
 rw [compTurn_list]
 refine wpAny_bind (wpAny_standAt (wpAny_bind (wpAny_mono (turn n s hI) (fun r s₁ h₁=>?_) fun _ _ h'=>h')))
 cases r with
 | none=>exact wpAny_pure h₁
 | some v=>
  refine wpAny_bind (wpAny_mono h₁ (fun _ s₁' h₁'=>?_) fun _ _ h'=>h')
  refine wpAny_bind (wpAny_mono h₁' (fun _ s₂ h₂=>wpAny_bind (wpAny_mono h₂ (fun ok s₃ h₃=>?_) fun _ _ h'=>h')) fun _ _ h'=>h')
  cases ok with
  | false=>exact wpAny_pure ⟨rfl,h₃⟩
  | true=>
   exact wpAny_bind (wpAny_bind (wpAny_mono h₃ (fun x s₄ h₄=>wpAny_bind (wpAny_mono h₄ (fun _ s₅ h₅=>wpAny_pure (wpAny_pure ⟨rfl,h₅⟩)) fun _ _ h'=>h')) fun _ _ h'=>h'))
end
def BL(X:Cx)(ifs:List Expr)(t:TT):Prop:=
 ∀(pins:List (Addr×Obj)) (s:Shared) (σ:St) (H:Hp) (Q:Bool→Hp→Prop),aU X pins σ H s→t σ H Q→
  wpAny (model X.prog X.w) X.A (forIn ifs true fun c r=>if r=true then do let ok ←isTrue c X.env (eval c X.env);pure (ForInStep.yield ok)else pure (ForInStep.yield r)) (TP X pins σ Q) X.xe s
def yw:TT:=fun _ H Q=>Q true H
theorem dm{X:Cx}:BL X [] yw:=fun pins s σ H Q I h=>wpAny_tests_nil ⟨H,I,h⟩
theorem uY{X:Cx}{c:Expr}{t:TT}(h:PT X c t):BL X [c] t:=fun pins s σ H Q I q=>wpAny_tests_one (h pins s σ H Q I q)
def Bt(n:Nat)(js:List Nat)(wi:TI)(g:TG)(tt:TT)(te:TE)(σ:St)(H:Hp)(F:List V→Hp→Prop):Prop:=wi σ H fun J H1=>∃W:Nat→Nat→List V→Hp→Prop,(∃m,W 0 m [] H1)∧∀i m ys H,W i m ys H→
 (J.stop i H∧F ys H)∨
 (J.go i H∧ys.length < sizeLine∧∃N:List V→Hp→Prop,(∀ys' H',N ys' H'→∃m',m' < m∧W (i+1) m' ys' H')∧∀x H',J.yld i H x H'→g x (cσ n js σ) H' fun σ2 H2=>tt σ2 H2 fun b H3=>if b=true then te σ2 H3 fun y H4=>N (ys++[y]) H4 else N ys H3)
def yA(n:Nat)(js:List Nat)(wi:TI)(g:TG)(tt:TT)(te:TE):TE:=fun σ H Q=>Bt n js wi g tt te σ H fun ys H=>∀p,H p=none→Q (.ref p) (upd H p (.lst ys))
section
variable {X:Cx} {scope:Scope} {own:List Str} {js:List Nat} {tg iter elt:Expr} {ifs:List Expr} {wi:TI} {g:TG} {tt:TT} {te:TE} {pos:Pos}
abbrev oW:Value→Shared→Prop:=fun _ _=>False
theorem mJ{pins:List (Addr×Obj)}{σ:St}{H2:Hp}{s2:Shared}{it:Addr}{fp:List Addr}{tn:Nat→Heap→Prop}{J:It}{F:List V→Hp→Prop}{RR:Value→Addr→Result→Shared→Prop}{E:Value→Shared→Prop}
  (hc:X.calm=true) (ok:bS X scope js)
  (hg:∀C s H ex pn,PG (n6 X scope own js C s H ex pn oW) tg g) (ht:∀C s H ex pn,BL (n6 X scope own js C s H ex pn oW) ifs tt) (he:∀C s H ex pn,PE (n6 X scope own js C s H ex pn oW) elt te)
  (I2:aU X pins σ H2 s2) (T:sO X.prog X.w X.K tg J fp it tn) (st2:tn 0 s2.heap) (f2:∀b∈fp,mB X pins H2 b) {W:Nat→Nat→List V→Hp→Prop} {m0:Nat} (w0:W 0 m0 [] H2)
  (turn:∀i m ys H,W i m ys H→(J.stop i H∧F ys H)∨
   (J.go i H∧ys.length < sizeLine∧∃N:List V→Hp→Prop,(∀ys' H',N ys' H'→∃m',m' < m∧W (i+1) m' ys' H')∧∀x H',J.yld i H x H'→g x (cσ own.length js σ) H' fun σ2 H2=>tt σ2 H2 fun b H3=>if b=true then te σ2 H3 fun y H4=>N (ys++[y]) H4 else N ys H3))
  (hRR:∀(D C:Addr) (s':Shared) (H':Hp) (ys:List V) (m:Str→Option Value),F ys H'→H' D=none→aU X pins σ (upd H' D (.lst ys)) s'→s'.heap.Ns C m→
   CJ X pins C→(upd H' D (.lst ys)) C=none→RR (.ref D) C (.ok .next) s') :
  wpAny (model X.prog X.w) X.A (newList []) (fun acc s₃=>wpAny (model X.prog X.w) X.A (newFunctionEnv scope X.env.globals (gP X.env.cells scope.names []) [] X.env.qual none .none (some X.env)) (fun cenv s₄=>
   codeAny (model X.prog X.w) X.A (.compStart (.ListComp elt [⟨tg,iter,ifs,0⟩] scope pos) 0 (.ref it) acc { cenv with scope:=relabel scope X.env }) (RR acc cenv.locals) s₄) E s₃) E s2:=by
 refine wpAny_newObj_type (wpAny_newFunctionEnv ok.cell (by intro y hy;simp at hy) (fun h₁ hns₁ hsb₁=>?_) ok.kind)
 dsimp only at hns₁ hsb₁ ⊢
 generalize hP:s2.heap.push { cls:=.type "list",dict:=none,data:=.seq ([]:List Value).toArray }=P2 at hns₁ hsb₁ ⊢
 have hC:P2.objs.size=s2.heap.objs.size+1:=by rw [←hP,Heap.size_push]
 have hDC:s2.heap.objs.size≠P2.objs.size:=by rw [hC];exact Nat.ne_of_lt (Nat.lt_succ_self _)
 have hCle:s2.heap.objs.size≤P2.objs.size:=by rw [hC];exact Nat.le_succ _
 have below:∀b,b < s2.heap.objs.size→b≠P2.objs.size∧b≠s2.heap.objs.size:=fun b hb=>⟨by rw [hC];exact Nat.ne_of_lt (Nat.lt_succ_of_lt hb),Nat.ne_of_lt hb⟩
 have old:∀b o,s2.heap.get? b=some o→h₁.get? b=some o:=fun b o e=>hsb₁.extBut b o (below b (Heap.lt_size e)).1 (Heap.get?_push_of_some _ (hP▸Heap.get?_push_of_some _ e))
 have hacc:h₁.get? s2.heap.objs.size=some { cls:=.type "list",data:=.seq ([]:List Value).toArray 0 }:=hsb₁.extBut _ _ hDC (Heap.get?_push_of_some _ (hP▸Heap.get?_push_size _ rfl))
 generalize hDe:s2.heap.objs.size=D at hacc hDC hCle hC below
 generalize hCe:P2.objs.size=C at hns₁ hsb₁ hDC hCle hC below ⊢
 have fo:∀b∈fp,∃o,s2.heap.get? b=some o:=fun b hb=>let ⟨o,e,_⟩:=T.obj _ _ st2 b hb;⟨o,e⟩
 have fD:∀b∈fp,b≠D∧b≠C:=fun b hb=>by
  obtain⟨o,e⟩:=fo b hb
  have:=below b (hDe▸Heap.lt_size e)
  exact⟨this.2,this.1⟩
 have H2C:H2 C=none:=I2.hok.fresh (by rw [hDe];exact hCle)
 have H2D:H2 D=none:=I2.hok.fresh (by rw [hDe];exact Nat.le_refl _)
 have stkD:D∉sI X.stack:=fun z=>by
  have h1:=I2.nofs (a:=D) (by rw [hDe];exact Nat.le_refl _)
  rcases List.mem_cons.mp (I2.stkSub _ z)with q | q
  ·have:=I2.lt
   rw [←q,hDe]at this
   exact Nat.lt_irrefl _ this
  ·exact h1 q
 have neLoc:D≠X.env.locals∧C≠X.env.locals:=by
  have h1:=I2.lt
  rw [hDe]at h1
  exact⟨Nat.ne_of_gt h1,Nat.ne_of_gt (Nat.lt_of_lt_of_le h1 hCle)⟩
 have cellLt:∀x c,X.env.cells.lookup x=some c→c < D:=fun x c e=>by
  obtain⟨v,z⟩:=I2.cell x c e
  rw [←hDe]
  exact z.lt
 have pinLt:∀p∈X.pn++pins,p.1 < D:=fun p hp=>by rw [←hDe];exact Heap.lt_size (I2.pin p hp).1
 have hs0:X.s₀.heap.objs.size≤D:=by rw [←hDe];exact I2.sz
 have start:∀{s':Shared} {H':Hp} {m:Str→Option Value} {o:Obj},s'.os=s2.os→AllBare s'.gens→Un (sI X.stack) fp H2 H' s2.heap s'.heap→s'.heap.Ns C m→lB X.prog X.w H' s'.heap→H' C=none→s'.heap.get? D=some o→H' D=none→(∀v,o.data≠.cell v)→
   aU (n6 X scope own js C s2 H2 fp (X.pn++pins) oW) [(D,o)] (cσ own.length js σ) H' s':=fun {s' H' m o} a1 a2 a3 a4 a5 a6 a7 a8 a9=>
  xp ok I2 (by rw [hDe];exact hCle) f2 fo a1 a2 a3 a4 a5 a6 fun p hp=>by
   have e:p=(D,o):=by simpa using hp
   subst e
   exact⟨a7,a8,hDC,stkD,a9⟩
 have fpC:∀{H':Hp} {o:Obj},(∀b∈fp,H' b=none)→∀b∈fp,mB (n6 X scope own js C s2 H2 fp (X.pn++pins) oW) [(D,o)] H' b:=fun {H' o} hn b hb=>by
  obtain⟨_,q1,q2,q3,q4,q5⟩:=f2 b hb
  refine⟨hn b hb,(fD b hb).2,fun z=>?_,.inl hb,fun x c e=>q4 x c (ok.sub I2 e),fun p hp=>?_⟩
  ·rcases List.mem_cons.mp (I2.stkSub b z)with e | e
   ·exact q1 e
   ·exact q2 e
  ·rcases List.mem_append.mp hp with h | h
   ·exact q5 p h
   ·have e:p=(D,o):=by simpa using h
    subst e
    exact(fD b hb).1.symm
 have nocell:∀(its:Array Value) (n:Nat) (v:Option Value),({ cls:=.type "list",data:=.seq its n }:Obj).data≠.cell v:=fun _ _ _ z=>by cases z
 have loop:∀s₃:Shared,s₃={ s2 with heap:=h₁,toks:=s2.toks+([]:List (Str×Value)).length }→
   codeAny (model X.prog X.w) X.A (.compLoop (.ListComp elt [⟨tg,iter,ifs,0⟩] scope pos) 0 (.ref it) (.ref D) (compEnvC scope (gP X.env.cells scope.names []) C X.env)) (RR (.ref D) C) s₃:=by
  rintro s₃ rfl
  refine rk (fun n s'=>∃i ys its k H',aU (n6 X scope own js C s2 H2 fp (X.pn++pins) oW) [(D,{ cls:=.type "list",data:=.seq (its:List Value).toArray k })] (cσ own.length js σ) H' s'∧tn i s'.heap∧(∀b∈fp,H' b=none)∧
   W i n ys H'∧aW ys its∧ys.length≤sizeLine) ?_ m0 ⟨0,[],[],0,H2,start rfl I2.bare (Un.kept old) hns₁ (I2.hok.kept old) H2C hacc H2D (nocell _ _),T.keep _ _ _ st2 (fun b _ o e=>old b o e),fun b hb=>(f2 b hb).1,w0,.nil,Nat.zero_le _⟩
  rintro n s3 ⟨i,ys,its,k,H3,I3,st3,fr3,w3,rv,hz⟩
  rcases turn i n ys H3 w3 with⟨stop,q⟩ | ⟨go,hlt,N,hN,step⟩
  ·refine wpAny_mono (T.done (n6 X scope own js C s2 H2 fp (X.pn++pins) oW) rfl rfl rfl hc i _ s3 _ H3 oW I3 (fpC fr3) st3 stop) (fun r s4 ⟨hr,I4⟩=>?_) fun _ _ f=>f.elim
   subst hr
   obtain⟨zD,nD,_⟩:=I4.pin (D,_) (List.mem_append_right _ List.mem_cons_self)
   obtain⟨m,hm,_⟩:=I4.loc
   have I5:aU X pins σ H3 s4:=I2.call' I4.os I4.base I4.hok I4.bare fun b hb=>⟨(f2 b hb).2.2.2.1,(f2 b hb).2.1,(f2 b hb).2.2.2.2.1,(f2 b hb).2.2.2.2.2⟩
   have I6:aU X pins σ (upd H3 D (.lst ys)) s4:=I5.track nD zD rv hz (.inr hs0) neLoc.1 (fun x c e=>Nat.ne_of_lt (cellLt x c e)) fun p hp=>Nat.ne_of_lt (pinLt p hp)
   have nC:H3 C=none:=I4.free
   exact hRR D C s4 H3 ys m q nD I6 hm ⟨neLoc.2,.inr (Nat.le_trans hs0 hCle),fun x c e=>Nat.ne_of_lt (Nat.lt_of_lt_of_le (cellLt x c e) hCle),fun p hp=>Nat.ne_of_lt (Nat.lt_of_lt_of_le (pinLt p hp) hCle)⟩ (by rw [aj (Ne.symm hDC)];exact nC)
  ·refine wpAny_mono (T.item (n6 X scope own js C s2 H2 fp (X.pn++pins) oW) rfl rfl rfl hc i _ s3 _ H3 oW I3 (fpC fr3) st3 go) (fun r s4 ⟨u,hr,h4⟩=>?_) fun _ _ f=>f.elim
   subst hr
   refine wpAny_mono h4 (fun _ s5 ⟨x,H5,I5,r5,y5,st5,fr5⟩=>?_) fun _ _ f=>f.elim
   have I5':=I5.pinned (fpC fr5) (T.obj _ _ st5)
   refine wpAny_mono (hg _ _ _ _ _ _ s5 _ H5 x u _ I5' r5 (step x H5 y5)) (fun _ s6 ⟨σ6,H6,I6,q6⟩=>?_) fun _ _ f=>f.elim
   refine wpAny_mono (ht _ _ _ _ _ _ s6 σ6 H6 _ I6 q6) (fun b s7 ⟨H7,I7,q7⟩=>?_) fun _ _ f=>f.elim
   have back:∀{s8:Shared} {H8:Hp} {m':Nat} {ys':List V} {its':List Value} {k':Nat},aU (n6 X scope own js C s2 H2 fp (X.pn++pins) oW) [] σ6 H8 s8→s8.heap.get? D=some { cls:=.type "list",data:=.seq its'.toArray k' }→H8 D=none→
     (∀b∈fp,∀o,s5.heap.get? b=some o→s8.heap.get? b=some o)→(∀b∈fp,H8 b=none)→W (i+1) m' ys' H8→aW ys' its'→ys'.length≤sizeLine→
     ∃i ys its k H',aU (n6 X scope own js C s2 H2 fp (X.pn++pins) oW) [(D,{ cls:=.type "list",data:=.seq (its:List Value).toArray k })] (cσ own.length js σ) H' s8∧tn i s8.heap∧(∀b∈fp,H' b=none)∧W i m' ys H'∧aW ys its∧ys.length≤sizeLine:=
    fun {s8 H8 m' ys' its' k'} J zD nD kf fr w' rv' hz'=>by
     obtain⟨m,hm,_⟩:=J.loc
     exact⟨i+1,ys',its',k',H8,start J.os J.bare J.base hm J.hok J.free zD nD (nocell _ _),T.keep _ _ _ st5 kf,fr,w',rv',hz'⟩
   cases b with
   | false=>
    rw [if_neg Bool.false_ne_true]
    rw [if_neg Bool.false_ne_true]at q7
    obtain⟨m',hm',w'⟩:=hN _ _ q7
    have pD:=I7.pin (D,_) (List.mem_append_right _ (List.mem_append_left _ List.mem_cons_self))
    refine⟨m',hm',back (I7.pins_of (pins':=[]) fun p hp=>nomatch hp) pD.1 pD.2.1 (fun b hb o e=>(I7.pin (b,o) (List.mem_append_right _ (List.mem_append_right _ (d7 hb e)))).1) (fun b hb=>?_) w' rv hz⟩
    obtain⟨o,e,_⟩:=T.obj _ _ st5 b hb
    exact(I7.pin (b,o) (List.mem_append_right _ (List.mem_append_right _ (d7 hb e)))).2.1
   | true=>
    rw [if_pos rfl]
    rw [if_pos rfl]at q7
    refine wpAny_mono (he _ _ _ _ _ _ s7 σ6 H7 _ I7 q7) (fun yv s8 ⟨y,H8,I8,r8,q8⟩=>?_) fun _ _ f=>f.elim
    obtain⟨m',hm',w'⟩:=hN _ _ q8
    have pD:=I8.pin (D,_) (List.mem_append_right _ (List.mem_append_left _ List.mem_cons_self))
    refine append_at (hsz:=by rw [List.size_toArray,←rv.length];exact hz) pD.1 fun h9 sb9 z9=>?_
    have I8':aU (n6 X scope own js C s2 H2 fp (X.pn++pins) oW) [] σ6 H8 s8:=I8.pins_of fun p hp=>nomatch hp
    have I9:aU (n6 X scope own js C s2 H2 fp (X.pn++pins) oW) [] σ6 H8 { s8 with heap:=h9 }:=I8'.turned (t':=s8.toks) (it:=D) (fun b o hb e=>(sb9.2 b hb).trans e) pD.2.1 hDC (.inr (by show s2.heap.objs.size≤D;rw [hDe];exact Nat.le_refl _))
     (fun x c e=>Nat.ne_of_lt (cellLt x c (ok.sub I2 e))) fun p hp=>by
      rcases List.mem_append.mp hp with h | h
      ·exact Nat.ne_of_lt (pinLt p h)
      ·cases h
    refine⟨m',hm',back (its':=its++[yv]) (k':=k+1) I9 (by rw [z9];simp) pD.2.1 (fun b hb o e=>(sb9.2 b (fD b hb).1).trans (I8.pin (b,o) (List.mem_append_right _ (List.mem_append_right _ (d7 hb e)))).1) (fun b hb=>?_) w' (rv.append (.cons r8 .nil)) (by simp;omega)⟩
    obtain⟨o,e,_⟩:=T.obj _ _ st5 b hb
    exact(I8.pin (b,o) (List.mem_append_right _ (List.mem_append_right _ (d7 hb e)))).2.1
 exact codeAny_compStart_list (loop _ rfl) (T.self X.A 0 _ _ _ (T.keep _ _ _ st2 (fun b _ o e=>old b o e)) (loop _ rfl))
theorem dE(hc:X.calm=true)(hi:PI X tg iter wi)(ok:bS X scope js)
  (hg:∀C s H ex pn,PG (n6 X scope own js C s H ex pn oW) tg g) (ht:∀C s H ex pn,BL (n6 X scope own js C s H ex pn oW) ifs tt) (he:∀C s H ex pn,PE (n6 X scope own js C s H ex pn oW) elt te)
  (hs:∀x,foldedSetIterable iter X.env x=pure x:=by intro _;rfl):PE X (.ListComp elt [⟨tg,iter,ifs,0⟩] scope pos) (yA own.length js wi g tt te):=by
 intro pins s σ H Q I h
 rw [eval_ListComp]
 refine wpAny_comprehension_free (use:=none) rfl hs (iQ (ok.clos I)) ok.kind ok.names (cL (hi pins s σ H _ I h) fun v s1 h1=>cL h1 fun itv s2 h2=>?_)
 obtain⟨it,fp,tn,J,H2,e,I2,T,st2,f2,W,⟨m0,w0⟩,turn⟩:=h2
 subst e
 refine mJ (RR:=fun acc C=>compPost (model X.prog X.w) X.A X.xe none (EP X pins σ Q) acc C) hc ok hg ht he I2 T st2 f2 w0 turn ?_
 intro D C s' H' ys m q nD I6 hm o nC
 exact⟨m,hm,fun h' sb=>⟨.ref D,_,o.go I6 nC sb,rfl,q D nD⟩⟩
theorem i0{i:Nat}{x:Str}{py spos:Pos}(hN:X.N.Nodup)(hix:X.N[i]?=some x)(hx:BF X.env.scope x)(hc:X.calm=true)(hi:PI X tg iter wi)(ok:bS X scope js)
  (hg:∀C s H ex pn,PG (n6 X scope own js C s H ex pn oW) tg g) (ht:∀C s H ex pn,BL (n6 X scope own js C s H ex pn oW) ifs tt) (he:∀C s H ex pn,PE (n6 X scope own js C s H ex pn oW) elt te)
  (hsw:swapsWith (.ListComp elt [⟨tg,iter,ifs,0⟩] scope pos) (some (.Name x py)) spos.line X.env=pure true)
  (hf:X.fn x=true∨X.env.scope.names.lookup x=some .local:=by first | exact .inl rfl | exact .inr rfl | assumption)
  (hs:∀x,foldedSetIterable iter X.env x=pure x:=by intro _;rfl):PS X (.Assign [.Name x py] (.ListComp elt [⟨tg,iter,ifs,0⟩] scope pos) spos) (yx (yA own.length js wi g tt te) (lG i)):=by
 intro pins s σ H Dd I h
 rw [exec_Assign_Name_used _ _ _ _ hsw]
 refine wpAny_bind (wpAny_standAt (wpAny_bind ?_))
 show wpAny _ X.A (do let _ ←comprehension (.ListComp elt [⟨tg,iter,ifs,0⟩] scope pos) scope X.env _ (newList []) false (eval iter X.env) (some (assign (.Name x py) X.env))) _ _ s
 refine wpAny_bind (wpAny_mono (wpAny_comprehension_free (use:=some (assign (.Name x py) X.env)) (Q:=fun _ s'=>SP X pins Dd .next s') rfl hs (iQ (ok.clos I)) ok.kind ok.names
  (cL (hi pins s σ H _ I h) fun v s1 h1=>cL h1 fun itv s2 h2=>?_)) (fun _ s' hq=>wpAny_pure (wpAny_pure hq)) fun _ _ e=>e)
 obtain⟨it,fp,tn,J,H2,e,I2,T,st2,f2,W,⟨m0,w0⟩,turn⟩:=h2
 subst e
 refine mJ (RR:=fun acc C=>compPost (model X.prog X.w) X.A X.xe (some (assign (.Name x py) X.env)) (fun _ s'=>SP X pins Dd .next s') acc C) hc ok hg ht he I2 T st2 f2 w0 turn ?_
 intro D C s' H' ys m q nD I6 hm o nC
 show wpAny _ X.A (assign (.Name x py) X.env (.ref D)) _ _ _
 refine wpAny_assign_Name (pL I6 hN hix hx (v:=.ref D) rfl (fun s2' I7 ⟨a,sa,ha⟩=>?_) hf)
 have hCa:C≠a:=by
  rcases ha with e | e
  ·rw [e];exact o.ne
  ·exact fun z=>o.cells x a e z.symm
 exact⟨m,hm.sameBut sa hCa,fun h' sb=>⟨_,_,o.go I7 nC sb,q D nD⟩⟩
end
end L2
namespace L2
open PySem PySem.Spec PyProof.Rows
def yQ(X:Cx)(tg:Expr)(r:V→Hp→(It→Hp→Prop)→Prop):Prop:=
 ∀(pins:List (Addr×Obj)) (s:Shared) (σ:St) (H:Hp) (x:V) (v:Value) (R:It→Hp→Prop),aU X pins σ H s→bh x v→r x H R→
  wpAny (model X.prog X.w) X.A (pyIter v) (CA X pins σ tg R) X.xe s
def yR(z:Str):It:=⟨fun i _=>i < z.length,fun i H x H'=>H'=H∧∃c,z.cps[i]?=some c∧x=.str ⟨#[c]⟩,fun i _=>i=z.length⟩
theorem pQ{P:Program}{w:World}{A:Around}(hh:A.handled=none)(I:Addr)(z:Str)(t:Tok){ty:String}(hty:ty="str_ascii_iterator"∨ty="str_iterator"):
  Walks P w A I [I] [I] z.cps.size (SignAt z) (fun i h=>h.IsStrIter I ty z t i):=by
 rcases hty with e | e
 ·subst e;exact Walks.strAscii hh I z t
 ·subst e;exact Walks.strWide hh I z t
theorem yG{P:Program}{w:World}{K:PySem.W.Frag}{tg:Expr}(z:Str)(t:Tok)(it:Addr){ty:String}(hty:ty="str_ascii_iterator"∨ty="str_iterator"):
  sO P w K tg (yR z) [it] it (fun i h=>h.IsStrIter it ty z t i) where
 mem:=by simp
 obj:=fun i h st b hb=>by
  have e:b=it:=by simpa using hb
  subst e
  obtain⟨o,e,c,d⟩:=st
  exact⟨o,e,fun v z=>by rw [d]at z;cases z⟩
 keep:=fun i h h' st k=>by
  obtain⟨o,e,r⟩:=st
  exact⟨o,k it (by simp) o e,r⟩
 item:=by
  intro X hP hw hK hc i pins s σ H E I hf st hg
  subst hP hw hK
  obtain⟨f0,f1,f2,f3,f4,f5⟩:=hf it (by simp)
  refine(pQ (I.ok.hd hc) it z t hty).item i s _ _ hg st fun v h' tk hv st' kk=>?_
  obtain⟨c,u,hcz,rfl⟩:=hv
  have I1:aU X pins σ H { s with heap:=h',toks:=tk }:=I.turned (fun b o hb e=>kk b o (by simpa using hb) e) f0 f1 f3 f4 f5
  obtain⟨o,e,cl,d⟩:=id st'
  refine⟨_,rfl,uS (s:={ s with heap:=h',toks:=tk }) (n:=ty) e cl d (by rcases hty with q | q<;>(subst q;decide)) ⟨.str ⟨#[c]⟩,H,I1,⟨u,rfl⟩,⟨rfl,c,hcz,rfl⟩,st',fun b hb=>(hf b hb).1⟩⟩
 done:=by
  intro X hP hw hK hc i pins s σ H E I hf st hg
  subst hP hw hK
  obtain⟨f0,f1,f2,f3,f4,f5⟩:=hf it (by simp)
  have e:i=z.length:=hg
  subst e
  exact(pQ (I.ok.hd hc) it z t hty).done s _ _ st fun h' tk kk=>⟨rfl,I.turned (fun b o hb e=>kk b o (by simpa using hb) e) f0 f1 f3 f4 f5⟩
 self:=fun A i s Q E st h=>by
  rcases hty with e | e
  ·subst e;exact wpAny_pyIter_striter_ascii st h
  ·subst e;exact wpAny_pyIter_striter_wide st h
section
variable {X:Cx} {tg:Expr}
theorem yQ.or{r r':V→Hp→(It→Hp→Prop)→Prop}(h:yQ X tg r)(h':yQ X tg r'):yQ X tg (fun x H R=>r x H R∨r' x H R):=by
 intro pins s σ H x v R I rx q
 rcases q with q | q
 ·exact h pins s σ H x v R I rx q
 ·exact h' pins s σ H x v R I rx q
theorem it_list:yQ X tg (fun x H R=>∃a,x=.ref a∧(∃xs,aO X.K H a xs)∧R (wA X.K a) H):=by
 intro pins s1 σ H1 x v R I1 r1 q1
 obtain⟨a,e,⟨xs,hq⟩,q⟩:=q1
 subst e
 cases r1
 obtain⟨its,rv,p,hz⟩:=I1.list hq
 refine wpAny_pyIter_list p.isList ?_
 refine⟨s1.heap.objs.size,[s1.heap.objs.size],_,_,H1,rfl,I1.kept (t':=s1.toks) fun b o e=>Heap.get?_push_of_some _ e,wz a _,⟨_,Heap.get?_push_size _ rfl,rfl,rfl⟩,fun b hb=>?_,q⟩
 have e:b=s1.heap.objs.size:=by simpa using hb
 subst e
 exact I1.fpOk (Nat.le_refl _) (I1.hok.fresh (Nat.le_refl _))
theorem it_tup:yQ X tg (fun x H R=>∃a,x=.ref a∧(∃xs,cR X.K H a xs)∧R (Ae X.K a) H):=by
 intro pins s1 σ H1 x v R I1 r1 q1
 obtain⟨a,e,⟨xs,hq⟩,q⟩:=q1
 subst e
 cases r1
 obtain⟨its,rv,p,hz⟩:=I1.tuple hq
 refine wpAny_pyIter_tuple (show s1.heap.IsTuple a its.toArray from p) ?_
 refine⟨s1.heap.objs.size,[s1.heap.objs.size],_,_,H1,rfl,I1.kept (t':=s1.toks) fun b o e=>Heap.get?_push_of_some _ e,uF a _,⟨_,Heap.get?_push_size _ rfl,rfl,rfl⟩,fun b hb=>?_,q⟩
 have e:b=s1.heap.objs.size:=by simpa using hb
 subst e
 exact I1.fpOk (Nat.le_refl _) (I1.hok.fresh (Nat.le_refl _))
theorem AN:yQ X tg (fun x H R=>∃z,x=.str z∧R (yR z) H):=by
 intro pins s1 σ H1 x v R I1 r1 q1
 obtain⟨z,e,q⟩:=q1
 subst e
 obtain⟨t,rfl⟩:=r1
 have fin:∀(o:Obj) (ty:String),(ty="str_ascii_iterator"∨ty="str_iterator")→(s1.heap.push o).IsStrIter s1.heap.objs.size ty z t 0→CA X pins σ tg R (.ref s1.heap.objs.size) { s1 with heap:=s1.heap.push o }:=fun o ty hty st=>by
  refine⟨s1.heap.objs.size,[s1.heap.objs.size],_,_,H1,rfl,I1.kept (t':=s1.toks) fun b o e=>Heap.get?_push_of_some _ e,yG z t _ hty,st,fun b hb=>?_,q⟩
  have e:b=s1.heap.objs.size:=by simpa using hb
  subst e
  exact I1.fpOk (Nat.le_refl _) (I1.hok.fresh (Nat.le_refl _))
 cases ha:z.cps.all (· < 128)
 ·exact wpAny_pyIter_wide ha (fin _ _ (.inr rfl) ⟨_,Heap.get?_push_size _ rfl,rfl,rfl⟩)
 ·exact wpAny_pyIter_ascii ha (fin _ _ (.inl rfl) ⟨_,Heap.get?_push_size _ rfl,rfl,rfl⟩)
def ye(K:PySem.W.Frag):V→Hp→(It→Hp→Prop)→Prop:=fun x H R=>(∃a,x=.ref a∧(∃xs,aO K H a xs)∧R (wA K a) H)∨(∃a,x=.ref a∧(∃xs,cR K H a xs)∧R (Ae K a) H)∨∃z,x=.str z∧R (yR z) H
theorem itA:yQ X tg (ye X.K):=it_list.or (it_tup.or AN)
def CC(r:V→Hp→(It→Hp→Prop)→Prop)(tl:TE):TI:=fun σ H R=>tl σ H fun x H1=>r x H1 R
theorem Cg{l:Expr}{tl:TE}{r:V→Hp→(It→Hp→Prop)→Prop}(hr:yQ X tg r)(hl:PE X l tl):PI X tg l (CC r tl):=by
 intro pins s σ H R I h
 exact cL (hl pins s σ H _ I h) fun v s1 ⟨x,H1,I1,r1,q1⟩=>hr pins s1 σ H1 x v R I1 r1 q1
theorem Bb{l:Expr}{tl:TE}(hl:PE X l tl):PI X tg l (CC (ye X.K) tl):=Cg itA hl
theorem cg{K:PySem.W.Frag}{H:Hp}{a:Addr}{xs:List V}{R:It→Hp→Prop}(h:aO K H a xs)(q:R (wA K a) H):ye K (.ref a) H R:=.inl ⟨a,rfl,⟨xs,h⟩,q⟩
theorem zS{K:PySem.W.Frag}{H:Hp}{a:Addr}{xs:List V}{R:It→Hp→Prop}(h:cR K H a xs)(q:R (Ae K a) H):ye K (.ref a) H R:=.inr (.inl ⟨a,rfl,⟨xs,h⟩,q⟩)
theorem zR{K:PySem.W.Frag}{H:Hp}{z:Str}{R:It→Hp→Prop}(q:R (yR z) H):ye K (.str z) H R:=.inr (.inr ⟨z,rfl,q⟩)
end
theorem CB{z:Str}{g:TG}{tb:TS}{D:gU}{σ:St}{H:Hp}(Pv:Nat→St→Hp→Prop)(h0:Pv 0 σ H)
  (hs:∀i c σ H,z.cps.toList[i]?=some c→Pv i σ H→g (.str ⟨#[c]⟩) σ H fun σ2 H2=>tb { D with nx:=Pv (i+1),ct:=Pv (i+1),bk:=D.nx } σ2 H2) (hd:∀σ H,Pv z.length σ H→D.nx σ H) :
  ∃W:Nat→Nat→St→Hp→Prop,(∃m,W 0 m σ H)∧∀i m σ H,W i m σ H→
   ((yR z).stop i H∧D.nx σ H)∨((yR z).go i H∧∃N:St→Hp→Prop,(∀σ' H',N σ' H'→∃m',m' < m∧W (i+1) m' σ' H')∧∀x H',(yR z).yld i H x H'→g x σ H' fun σ2 H2=>tb { D with nx:=N,ct:=N,bk:=D.nx } σ2 H2):=by
 refine⟨fun i m σ H=>m=z.length - i∧i≤z.length∧Pv i σ H,⟨z.length,by simp,Nat.zero_le _,h0⟩,?_⟩
 rintro i m σ H ⟨rfl,hi,p⟩
 by_cases hlt:i < z.length
 ·refine .inr ⟨hlt,Pv (i+1),fun σ' H' p'=>⟨z.length - (i+1),by omega,rfl,hlt,p'⟩,fun x H' y=>?_⟩
  obtain⟨e,c,hc,e2⟩:=y
  subst e e2
  exact hs i c σ _ (by simpa using hc) p
 ·have e:i=z.length:=by omega
  subst e
  exact .inl ⟨rfl,hd σ H p⟩
section
variable {n:Nat} {js:List Nat} {g:TG} {tt:TT} {te:TE} {σ:St} {H:Hp} {F:List V→Hp→Prop}
abbrev uG(J:It)(n:Nat)(js:List Nat)(g:TG)(tt:TT)(te:TE)(σ:St)(H:Hp)(F:List V→Hp→Prop):Prop:=
 ∃W:Nat→Nat→List V→Hp→Prop,(∃m,W 0 m [] H)∧∀i m ys H,W i m ys H→(J.stop i H∧F ys H)∨
  (J.go i H∧ys.length < sizeLine∧∃N:List V→Hp→Prop,(∀ys' H',N ys' H'→∃m',m' < m∧W (i+1) m' ys' H')∧∀x H',J.yld i H x H'→g x (cσ n js σ) H' fun σ2 H2=>tt σ2 H2 fun b H3=>if b=true then te σ2 H3 fun y H4=>N (ys++[y]) H4 else N ys H3)
abbrev jC(n:Nat)(js:List Nat)(g:TG)(tt:TT)(te:TE)(σ:St)(x:V)(ys:List V)(H:Hp)(N:List V→Hp→Prop):Prop:=
 g x (cσ n js σ) H fun σ2 H2=>tt σ2 H2 fun b H3=>if b=true then te σ2 H3 fun y H4=>N (ys++[y]) H4 else N ys H3
theorem sR{lo:Int}{k:Nat}(Pv:Nat→List V→Hp→Prop)(hk:k≤sizeLine)(h0:Pv 0 [] H)(hn:∀i ys H,Pv i ys H→ys.length≤i)
  (hs:∀i ys H,i < k→Pv i ys H→jC n js g tt te σ (.int (lo+i)) ys H (Pv (i+1))) (hd:∀ys H,Pv k ys H→F ys H):uG (yM lo k) n js g tt te σ H F:=by
 refine⟨fun i m ys H=>m=k - i∧i≤k∧Pv i ys H,⟨k,by simp,Nat.zero_le _,h0⟩,?_⟩
 rintro i m ys H ⟨rfl,hi,p⟩
 by_cases hlt:i < k
 ·refine .inr ⟨hlt,Nat.lt_of_le_of_lt (hn i ys H p) (Nat.lt_of_lt_of_le hlt hk),Pv (i+1),fun σ' H' p'=>⟨k - (i+1),by omega,rfl,hlt,p'⟩,fun x H' y=>?_⟩
  obtain⟨e,y⟩:=y
  subst e y
  exact hs i ys _ hlt p
 ·have e:i=k:=by omega
  subst e
  exact .inl ⟨Nat.le_refl _,hd ys H p⟩
theorem vw{K:PySem.W.Frag}{a:Addr}{xs:List V}(Pv:Nat→List V→Hp→Prop)(hk:xs.length≤sizeLine)(h0:Pv 0 [] H)(hn:∀i ys H,Pv i ys H→ys.length≤i)(hl:∀i ys H,Pv i ys H→aO K H a xs)
  (hs:∀i x ys H,xs[i]?=some x→Pv i ys H→jC n js g tt te σ x ys H (Pv (i+1))) (hd:∀ys H,Pv xs.length ys H→F ys H):uG (wA K a) n js g tt te σ H F:=by
 refine⟨fun i m ys H=>m=xs.length - i∧i≤xs.length∧Pv i ys H,⟨xs.length,by simp,Nat.zero_le _,h0⟩,?_⟩
 rintro i m ys H ⟨rfl,hi,p⟩
 have q:=hl i ys H p
 by_cases hlt:i < xs.length
 ·refine .inr ⟨⟨xs,xs[i],q,by simp [hlt]⟩,Nat.lt_of_le_of_lt (hn i ys H p) (Nat.lt_of_lt_of_le hlt hk),Pv (i+1),fun σ' H' p'=>⟨xs.length - (i+1),by omega,rfl,hlt,p'⟩,fun x H' y=>?_⟩
  obtain⟨e,y⟩:=y
  subst e
  exact hs i x ys _ (y xs q) p
 ·have e:i=xs.length:=by omega
  subst e
  exact .inl ⟨⟨xs,q,Nat.le_refl _⟩,hd ys H p⟩
theorem wQ{z:Str}(Pv:Nat→List V→Hp→Prop)(hk:z.length≤sizeLine)(h0:Pv 0 [] H)(hn:∀i ys H,Pv i ys H→ys.length≤i)
  (hs:∀i c ys H,z.cps.toList[i]?=some c→Pv i ys H→jC n js g tt te σ (.str ⟨#[c]⟩) ys H (Pv (i+1))) (hd:∀ys H,Pv z.length ys H→F ys H):uG (yR z) n js g tt te σ H F:=by
 refine⟨fun i m ys H=>m=z.length - i∧i≤z.length∧Pv i ys H,⟨z.length,by simp,Nat.zero_le _,h0⟩,?_⟩
 rintro i m ys H ⟨rfl,hi,p⟩
 by_cases hlt:i < z.length
 ·refine .inr ⟨hlt,Nat.lt_of_le_of_lt (hn i ys H p) (Nat.lt_of_lt_of_le hlt hk),Pv (i+1),fun σ' H' p'=>⟨z.length - (i+1),by omega,rfl,hlt,p'⟩,fun x H' y=>?_⟩
  obtain⟨e,c,hc,e2⟩:=y
  subst e e2
  exact hs i c ys _ (by simpa using hc) p
 ·have e:i=z.length:=by omega
  subst e
  exact .inl ⟨rfl,hd ys H p⟩
end
theorem wm(xs:Array Nat):∀(n:Nat) (acc:Array Nat),((List.replicate n xs).foldl (· ++ ·) acc).size=acc.size+n * xs.size
 | 0,acc=>by simp
 | n+1,acc=>by
  rw [List.replicate_succ,List.foldl_cons,wm xs n,Array.size_append,Nat.succ_mul]
  omega
theorem pq(xs:Array Nat):∀(n:Nat) (acc:Array Nat),((List.replicate n xs).foldl (· ++ ·) acc).toList=acc.toList++(List.replicate n xs.toList).flatten
 | 0,acc=>by simp
 | n+1,acc=>by
  rw [List.replicate_succ,List.foldl_cons,pq xs n,List.replicate_succ,List.flatten_cons,Array.toList_append,List.append_assoc]
def qC(z:Str)(k:Int):Str:=if k < 1 then Str.empty else if (k == 1 || z.length == 0)=true then z else⟨(List.replicate k.toNat z.cps).foldl (· ++ ·) #[]⟩
theorem tW(z:Str)(k:Int):(qC z k).cps.toList=(List.replicate k.toNat z.cps.toList).flatten:=by
 unfold qC
 split
 ·have e:k.toNat=0:=by omega
  rw [e];rfl
 ·split
  ·rename_i h1 h2
   rw [Bool.or_eq_true]at h2
   rcases h2 with h2 | h2
   ·have e:k=1:=by simpa using h2
    subst e
    simp
   ·have e:z.cps.size=0:=by simpa [Str.length]using h2
    have e2:z.cps.toList=[]:=by
     rw [←List.length_eq_zero_iff]
     simpa using e
    rw [e2]
    simp
  ·simpa using pq z.cps k.toNat #[]
theorem si(z:Str)(k:Int):(qC z k).length=k.toNat * z.length:=by
 have e:(qC z k).length=(qC z k).cps.toList.length:=by simp [Str.length]
 rw [e,tW,p9]
 simp [Str.length]
section
variable {X:Cx} {a b c:Expr} {ta tb tc:TE} {pos:Pos}
theorem op_mulB:dw X (binaryOp .Mult) (rI IntMulOk fun i j=>.int (i * j)):=B8 fun _ _ _ _ _ _ _ hc q=>mul_int q hc
theorem op_mul_str:dw X (binaryOp .Mult) (fun x y H Q=>∃z k,x=.str z∧y=.int k∧(-1000000≤k∧k≤1000000∧z.length≤16)∧Q (.str (qC z k)) H):=by
 intro pins s σ H x y v u Q I rx ry h
 obtain⟨z,k,rfl,rfl,⟨h2,h1,h3⟩,q⟩:=h
 obtain⟨t,rfl⟩:=rx
 obtain⟨t',rfl⟩:=ry
 have hs:sizeLine=16777216:=sizeLine_eq
 have hl:=si z k
 have hb:z.length * k.toNat≤16 * 1000000:=Nat.mul_le_mul h3 (by omega)
 rw [Nat.mul_comm]at hl
 have fin:∀t' tk,EP X pins σ Q (.str (qC z k) t') { s with toks:=tk }:=fun t' tk=>⟨.str _,H,I.tok _,⟨t',rfl⟩,q⟩
 refine P.mul_str ?_ (fun h4 h5=>?_) (fun h4 h5=>?_) ?_
 ·have e1:¬k < -(2 ^ 63:Int):=by omega
  have e2:¬k≥2 ^ 63:=by omega
  rw [decide_eq_false e1,decide_eq_false e2];rfl
 ·have h6:(16:Int)≤(2 ^ 63 - 1) / k:=by
   rw [Int.le_ediv_iff_mul_le (by omega)]
   omega
  omega
 ·unfold Builtin.Str.tooLong
  exact decide_eq_false (by omega)
 ·unfold qC at fin hl
  by_cases h4:k < 1
  ·rw [if_pos h4]at fin ⊢
   exact⟨by decide,fin _ _⟩
  ·rw [if_neg h4]at fin hl ⊢
   by_cases h5:(k == 1 || z.length == 0)=true
   ·rw [if_pos h5]at fin ⊢
    exact fin t s.toks
   ·rw [if_neg h5]at fin hl ⊢
    exact⟨by omega,fin _ _⟩
def u4:R2:=fun x y H Q=>rI IntMulOk (fun i j=>.int (i * j)) x y H Q∨(∃z k,x=.str z∧y=.int k∧(-1000000≤k∧k≤1000000∧z.length≤16)∧Q (.str (qC z k)) H)∨Bi x y H Q
theorem opMul:dw X (binaryOp .Mult) u4:=op_mulB.or (op_mul_str.or A9)
theorem yf{i j:Int}{H:Hp}{Q:VK}:u4 (.int i) (.int j) H Q↔IntMulOk i j∧Q (.int (i * j)) H:=by
 simp [u4,rI,Bi]
def eI(K:PySem.W.Frag):R2:=fun x y H Q=>tS (fun i j=>.int (i+j)) x y H Q∨(∃i j,x=.str i∧y=.str j∧i.length+j.length≤sizeLine∧Q (.str (i++j)) H)∨zO x y H Q∨uZ K x y H Q
theorem B6:dw X (binaryOp .Add) (eI X.K):=op_add.or (op_add_str.or (op_cat.or zE))
theorem sd{K:PySem.W.Frag}{i j:Int}{H:Hp}{Q:VK}:eI K (.int i) (.int j) H Q↔Q (.int (i+j)) H:=by
 simp [eI,tS,zO,uZ]
theorem yc{K:PySem.W.Frag}{i j:Str}{H:Hp}{Q:VK}:eI K (.str i) (.str j) H Q↔i.length+j.length≤sizeLine∧Q (.str (i++j)) H:=by
 simp [eI,tS,zO,uZ]
theorem fB{K:PySem.W.Frag}{l b:Addr}{xs zs:List V}{H:Hp}{Q:VK}(h1:H l=some (.lst xs))(h2:H b=some (.lst zs))(hz:xs.length+zs.length≤sizeLine)(q:∀p,H p=none→Q (.ref p) (upd H p (.lst (xs++zs)))):eI K (.ref l) (.ref b) H Q:=
 .inr (.inr (.inl ⟨l,b,xs,zs,rfl,rfl,h1,h2,hz,q⟩))
def Bl:V→Option Int→Option Int→Hp→VK→Prop:=fun x lo hi H Q=>∃z,x=.str z∧z.length≤sizeLine∧Q (.str (Txt.slice z lo hi)) H
theorem Bq:yN X Bl:=by
 intro pins s σ H x v vl vu lo hi sl Q I rx hs pl pu h
 obtain⟨z,rfl,hz,q⟩:=h
 obtain⟨t,rfl⟩:=rx
 have fin:∀t' tk,EP X pins σ Q (.str (Txt.slice z lo hi) t') { s with toks:=tk }:=fun t' tk=>⟨.str _,H,I.tok _,⟨t',rfl⟩,q⟩
 refine⟨"str",_,F.slot_str_getitem.lookup,typeIs_str _ _ _,?_⟩
 cases pl with
 | none=>cases pu with
  | none=>exact wpAny_getItem_str_slice (l:=none) (u:=none) (st:=none) hs rfl (post_val_or_str ⟨Nat.le_trans (Txt.slice_le z _ _) hz,fun t' k=>fin t' k⟩)
  | int j u=>exact wpAny_getItem_str_slice (l:=none) (u:=some (j,u)) (st:=none) hs rfl (post_val_or_str ⟨Nat.le_trans (Txt.slice_le z _ _) hz,fun t' k=>fin t' k⟩)
 | int i u=>cases pu with
  | none=>exact wpAny_getItem_str_slice (l:=some (i,u)) (u:=none) (st:=none) hs rfl (post_val_or_str ⟨Nat.le_trans (Txt.slice_le z _ _) hz,fun t' k=>fin t' k⟩)
  | int j u'=>exact wpAny_getItem_str_slice (l:=some (i,u)) (u:=some (j,u')) (st:=none) hs rfl (post_val_or_str ⟨Nat.le_trans (Txt.slice_le z _ _) hz,fun t' k=>fin t' k⟩)
def wd(K:PySem.W.Frag):V→Option Int→Option Int→Hp→VK→Prop:=fun x lo hi H Q=>Bk K x lo hi H Q∨Bm K x lo hi H Q∨Bl x lo hi H Q
theorem slA:yN X (wd X.K):=sl_list.or (sl_tup.or Bq)
theorem Bj{K:PySem.W.Frag}{z:Str}{lo hi:Option Int}{H:Hp}{Q:VK}:wd K (.str z) lo hi H Q↔z.length≤sizeLine∧Q (.str (Txt.slice z lo hi)) H:=by
 simp [wd,Bk,Bm,Bl]
theorem bM{K:PySem.W.Frag}{a:Addr}{xs:List V}{lo hi:Option Int}{H:Hp}{Q:VK}(h:aO K H a xs)(q:∀p,H p=none→Q (.ref p) (upd H p (.lst (fR xs lo hi)))):wd K (.ref a) lo hi H Q:=.inl ⟨a,xs,rfl,h,q⟩
theorem ixA:wL X (lR X.K):=AO
theorem Ck{K:PySem.W.Frag}{z:Str}{i:Int}{H:Hp}{Q:VK}:lR K (.str z) (.int i) H Q↔z.length≤sizeLine∧∃c,dz z.cps.toList i=some c∧Q (.str ⟨#[c]⟩) H:=by
 simp [lR,Bf,Bh,Bg]
theorem aT{K:PySem.W.Frag}{p:Addr}{xs:List V}{i:Int}{v:V}{H:Hp}{Q:VK}(h:aO K H p xs)(hv:dz xs i=some v)(q:Q v H):lR K (.ref p) (.int i) H Q:=.inl ⟨p,xs,i,v,rfl,rfl,h,hv,q⟩
theorem dB{K:PySem.W.Frag}{p:Addr}{xs:List V}{i:Int}{v:V}{H:Hp}{Q:VK}(h:cR K H p xs)(hv:dz xs i=some v)(q:Q v H):lR K (.ref p) (.int i) H Q:=.inr (.inl ⟨p,xs,i,v,rfl,rfl,h,hv,q⟩)
theorem opEq:dw X (compareOp .Eq) sJ:=Cc
theorem opNe:dw X (compareOp .NotEq) sL:=Ce
theorem kH:dw X (compareOp .Lt) (tS fun i j=>.bl (decide (i < j))):=Cd
theorem tQ{i j:Int}{H:Hp}{Q:VK}:sJ (.int i) (.int j) H Q↔Q (.bl (decide (i=j))) H:=by simp [sJ,wg]
theorem tT{i j:Int}{H:Hp}{Q:VK}:sL (.int i) (.int j) H Q↔Q (.bl (!decide (i=j))) H:=by simp [sL,wg]
theorem tR{i j:Str}{H:Hp}{Q:VK}:sJ (.str i) (.str j) H Q↔Q (.bl (decide (i=j))) H:=by simp [sJ,wg]
theorem tU{i j:Str}{H:Hp}{Q:VK}:sL (.str i) (.str j) H Q↔Q (.bl (!decide (i=j))) H:=by simp [sL,wg]
def wb(K:PySem.W.Frag):R2:=fun x y H Q=>(∃i j,x=.str i∧y=.str j∧Q (.bl (!(Builtin.Str.occurrences j i 0 j.length 1).isEmpty)) H)∨Cj K false x y H Q
def mi(K:PySem.W.Frag):R2:=fun x y H Q=>(∃i j,x=.str i∧y=.str j∧Q (.bl (!(!(Builtin.Str.occurrences j i 0 j.length 1).isEmpty))) H)∨Cj K true x y H Q
theorem CP:dw X (compareOp .In) (wb X.K):=op_in_str.or v7
theorem zC:dw X (compareOp .NotIn) (mi X.K):=op_notin_str.or qw
theorem Be{K:PySem.W.Frag}{c:Nat}{z:Str}{H:Hp}{Q:VK}:wb K (.str ⟨#[c]⟩) (.str z) H Q↔Q (.bl (decide (c∈z.cps.toList))) H:=by
 simp [wb,Cj,StrLaws.found_one]
theorem vn:cJ X (.builtin "len") (fun xs H Q=>(∃z,xs=[.str z]∧z.length≤sizeLine∧Q (.int z.length) H)∨∃p ys,xs=[.ref p]∧(aO X.K H p ys∨cR X.K H p ys)∧Q (.int ys.length) H):=call_len_str.or pV
theorem call_int_text:cJ X (.type "int") (fun xs H Q=>∃z n,xs=[.str z]∧intText? z=some n∧z.length≤640∧Q (.int n) H):=by
 intro pins s σ H xs us Q I r h
 obtain⟨z,n,rfl,hn,hl,q⟩:=h
 obtain⟨u,rfl,ru⟩:=d0 r
 obtain⟨t,rfl⟩:=ru
 exact PySem.W.KIN.call_text hn hl ⟨.int n,H,I.tok _,⟨_,rfl⟩,q⟩
theorem gb:cJ X (.type "int") (fun xs H Q=>(∃z n,xs=[.str z]∧intText? z=some n∧z.length≤640∧Q (.int n) H)∨((∃i,xs=[.int i]∧Q (.int i) H)∨∃k,xs=[.bl k]∧Q (.int (if k then 1 else 0)) H)):=call_int_text.or vm
theorem fS:wB X "str.startswith" (fun x xs H Q=>∃z y,x=.str z∧xs=[.str y]∧Q (.bl (Txt.startswith z y)) H):=by
 intro pins s σ H x xs v us Q I rx r h
 obtain⟨z,y,rfl,rfl,q⟩:=h
 obtain⟨t,rfl⟩:=rx
 obtain⟨u,rfl,t',rfl⟩:=d0 r
 exact SC.startswith ⟨.bl _,H,I,rfl,q⟩
theorem rf:cJ X (.builtin "isinstance") (fun xs H Q=>∃x n t b,xs=[x,.ty n]∧jz X.K H x t∧PySem.W.kitOne X.K t (.type n)=some b∧Q (.bl b) H):=by
 intro pins s σ H xs us Q I r h
 obtain⟨x,n,t,b,rfl,ty,e,q⟩:=h
 obtain⟨u,w',rfl,ru,rw'⟩:=vd r
 cases rw'
 exact vK I ru ty e fun tk=>⟨.bl b,H,I.tok _,rfl,q⟩
theorem nR:∀{bs:List Bool} {us:List Value},aW (bs.map V.bl) us→us=bs.map Value.bool
 | [],_,.nil=>rfl
 | b::bs,_,.cons r t=>by
  have e:_=Value.bool b:=r
  rw [List.map_cons,e,nR t]
theorem we(bs:List Bool):(List.range bs.length).all (fun i=>bs.getD i true)=bs.all id:=by
 induction bs with
 | nil=>rfl
 | cons b bs ih=>
  rw [List.length_cons,List.range_succ_eq_map,List.all_cons,List.all_map,List.all_cons,←ih]
  rfl
theorem vk(hc:X.calm=true):cJ X (.builtin "all") (fun xs H Q=>∃(p:Addr) (bs:List Bool),xs=[.ref p]∧aO X.K H p (bs.map V.bl)∧Q (.bl (bs.all id)) H):=by
 intro pins s σ H xs us Q I r h
 obtain⟨p,bs,rfl,hq,q⟩:=h
 obtain⟨u,rfl,ru⟩:=d0 r
 cases ru
 obtain⟨its,rv,pl,hz⟩:=I.list hq
 have e:=nR rv
 subst e
 have hh:X.A.in1.handled=none:=I.ok.hd hc
 refine call_all_walk (wpAny_pyIter_list pl.isList ⟨s.heap.objs.size,[s.heap.objs.size,p],[s.heap.objs.size],_,_,_,fun i=>bs.getD i true,rfl,Walks.list hh _ p ?_ _,⟨⟨_,Heap.get?_push_size _ rfl,rfl,rfl⟩,pl.isList.push _⟩,?_,fun h' tk hk=>?_⟩)
 ·obtain⟨o,n,e,_⟩:=pl
  exact Nat.ne_of_lt (Heap.lt_size e)
 ·intro i v s' Q' E' hv hQ'
  have hv':(bs.map Value.bool)[i]?=some v:=by simpa using hv
  rw [List.getElem?_map]at hv'
  cases hb:bs[i]? with
  | none=>rw [hb]at hv';cases hv'
  | some b=>
   rw [hb]at hv'
   cases hv'
   have hQ2:Q' (bs.getD i true) s':=hQ'
   rw [List.getD_eq_getElem?_getD,hb]at hQ2
   exact wpAny_truthy_bool hQ2
 ·refine⟨.bl (bs.all id),H,I.kept (h':=h') (t':=tk) fun b o e=>hk b o ?_ (Heap.get?_push_of_some _ e),?_,q⟩
  ·intro z
   have z':b=s.heap.objs.size:=by simpa using z
   exact absurd (Heap.lt_size e) (by rw [z'];exact Nat.lt_irrefl _)
  ·show Value.bool _=Value.bool _
   rw [←we]
   simp
theorem hZ{x:Str}{v:V}{pos:Pos}(h:∃u,X.mg x=some u∧bh v u)(hg:Gl X x:=by rfl)(hd:(x == ("__debug__":Str))=false:=by decide):PE X (.Name x pos) (tC v):=
 let ⟨_,hm,r⟩:=h;zI hg hm r hd
end
structure bZ(P:Program)(w:World)(K:PySem.W.Frag)(mg:Str→Option Value)(base:Heap)(x:Str)(k:Nat)(ps:List Str)(sp:Sp):Prop where
 ex:∃(f:Addr) (fd:FuncData),aP P w K mg base bY k f fd ps sp∧mg x=some (.ref f)∧PySem.W.keepIn K (.ref f)=true∧dO K fd ps []
section
variable {X:Cx} {k:Nat} {ps:List Str} {sp:Sp} {x:Str} {p pos:Pos} {e:Expr} {es:List Expr} {t:TA}
theorem aE(d:bZ X.prog X.w X.K X.mg X.base x k ps sp)(hr:dy k X.A)(hg:Gl X x)(ha:PA X (e::es) t)(hdb:(x == ("__debug__":Str))=false:=by decide)
  (he:starEach (e::es) X.env=(false,eval e X.env)::starEach es X.env:=by rfl) (hpl:(backTo pos (starEach es X.env)).any (·.1)=false:=by rfl):PE X (.Call (.Name x p) (e::es) [] pos) (pN sp [] E0 t):=
 let ⟨_,_,F,hm,hk,hb⟩:=d.ex;uX F hr hg hm hk hb .nil nc ha hdb he hpl
end
end L2
namespace L3
open PySem PySem.Spec PyProof.Rows
section
variable {prog:Program} {w:World} {A:Around} {E:Value→Shared→Prop} {s:Shared}
theorem qb{it t:Addr}{i:Nat}{its:Array Value}{x:Value}{Q:Value→Shared→Prop}(qi:s.heap.IsTupleIter it t i)(qt:s.heap.IsTuple t its)(qx:its[i]?=some x)
  (hQ:∀h',h'.IsTupleIter it t (i+1)→Heap.SameBut it s.heap h'→Q x { s with heap:=h' }):wpAny (model prog w) A (Builtin.SmallTypes.nextOf (.ref it)) Q E s:=by
 obtain⟨oi,qo,qc,qd⟩:=id qi
 obtain⟨ot,qot,_,nt,qdt⟩:=qt
 unfold Builtin.SmallTypes.nextOf
 refine wpAny_bind (wpAny_callSpecial?_slot (name:=Str.ofString "__next__") qi.typeIs F.slot_tuple_iterator_next (wpAny_call_entry F.slot_tuple_iterator_next qi.typeIs F.entry_tuple_iterator_next ?_ (F.args_tuple_iterator_next_1 _)))
 show wpAny _ _ (field (.ref it) 0 >>= _) _ _ s
 refine wpAny_bind (wpAny_field qo qd (x:=.ref t) rfl ?_)
 show wpAny _ _ (if (Value.ref t == Value.none)=true then _ else _) _ _ s;rw [if_neg (show ¬((Value.ref t == Value.none)=true)from Bool.false_ne_true)]
 show wpAny _ _ (field (.ref it) 1 >>= _) _ _ s
 refine wpAny_bind (wpAny_field qo qd (x:=.int i 0) rfl ?_)
 show wpAny _ _ (seqItems? (.ref t) >>= _) _ _ s;refine wpAny_bind (wpAny_seqItems qot qdt ?_)
 simp only [Int.toNat_natCast,qx]
 refine wpAny_bind (wpAny_setField qo qd (by simp) (wpAny_pure ⟨x,rfl,wpAny_pure (hQ _ ?_ (Heap.SameBut.update ..))⟩))
 exact⟨_,Heap.get?_update_self _ qo (Obj.isFreed_of_fields (Obj.data_mapFields qd _)),(Obj.cls_mapFields ..).trans qc,by rw [Obj.data_mapFields qd];simp [rawInt]⟩
theorem rM{it t:Addr}{i:Nat}{its:Array Value}{Q:Value→Shared→Prop}(hh:A.handled=none)(qi:s.heap.IsTupleIter it t i)(qt:s.heap.IsTuple t its)(qx:its[i]?=none)
  (hE:∀h' e,Heap.ExtBut it s.heap h'→(∃o,h'.get? e=some o∧o.cls=.type "StopIteration")→E (.ref e) { s with heap:=h' }):wpAny (model prog w) A (Builtin.SmallTypes.nextOf (.ref it)) Q E s:=by
 obtain⟨oi,qo,qc,qd⟩:=id qi
 obtain⟨ot,qot,_,nt,qdt⟩:=qt
 unfold Builtin.SmallTypes.nextOf
 refine wpAny_bind (wpAny_callSpecial?_slot (name:=Str.ofString "__next__") qi.typeIs F.slot_tuple_iterator_next (wpAny_call_entry F.slot_tuple_iterator_next qi.typeIs F.entry_tuple_iterator_next ?_ (F.args_tuple_iterator_next_1 _)))
 show wpAny _ _ (field (.ref it) 0 >>= _) _ _ s
 refine wpAny_bind (wpAny_field qo qd (x:=.ref t) rfl ?_)
 show wpAny _ _ (if (Value.ref t == Value.none)=true then _ else _) _ _ s;rw [if_neg (show ¬((Value.ref t == Value.none)=true)from Bool.false_ne_true)]
 show wpAny _ _ (field (.ref it) 1 >>= _) _ _ s
 refine wpAny_bind (wpAny_field qo qd (x:=.int i 0) rfl ?_)
 show wpAny _ _ (seqItems? (.ref t) >>= _) _ _ s;refine wpAny_bind (wpAny_seqItems qot qdt ?_)
 simp only [Int.toNat_natCast,qx]
 refine wpAny_bind (wpAny_rule (wpAny_bind (wpAny_setField qo qd (by simp) ?_)))
 show wpAny _ _ (newExc (.type "StopIteration") [] >>= _) _ _ _;refine wpAny_bind ?_;simp only [newExc,newTuple]
 refine wpAny_bind (wpAny_newObj_type ?_ (by size_fits));refine wpAny_bind (m:=firstArgMember _ _) (wpAny_of_eq (a:=Value.none) (by first | rfl | (simp only [firstArgMember];rfl)) ?_)
 refine wpAny_newObj_type ?_ (by size_fits);simp only [raiseNew];refine wpAny_bind (wpAny_handled ?_)
 first | rw [show A.in1.handled=none from hh] | rw [hh]
 exact wpAny_bind (wpAny_pure (wpAny_throw (hE _ _ (((Heap.SameBut.update ..).extBut.push _).push _) ⟨_,Heap.get?_push_size _ rfl,rfl⟩)))
end
theorem draws_tuple{prog:Program}{w:World}{A:Around}(hh:A.handled=none)(it t:Addr)(hne:t≠it)(its:Array Value):
  Draws prog w A it [it,t] its.size (fun i v=>its[i]?=some v) (fun i h=>h.IsTupleIter it t i∧h.IsTuple t its) where
 live:=fun _ _ st=>let ⟨o,ho,_⟩:=st.1;⟨o,ho⟩
 frame:=fun _ _ _ st hk=>⟨st.1.at fun o e=>hk it (by simp) o e,let ⟨o,ho,r⟩:=st.2;⟨o,hk t (by simp) o ho,r⟩⟩
 item:=fun i s Q E hi st hQ=>qb st.1 st.2 (x:=its[i]) (by simp [hi]) fun h' qi qs=>hQ _ h' s.toks (by simp [hi]) ⟨qi,st.2.extBut qs.extBut hne⟩ qs
 done:=fun s Q E st hE=>rM hh st.1 st.2 (by simp) hE
section
variable {prog:Program} {w:World} {A:Around} {E:Value→Shared→Prop} {s:Shared} {z TI TO i1 i2:Addr} {f1 f2:List Addr} {n1 n2 k:Nat} {P1 P2:Nat→Value→Prop} {S1 S2:Nat→Heap→Prop} {a b:Value}
theorem bP{it c:Addr}{fp:List Addr}{n i:Nat}{P:Nat→Value→Prop}{St:Nat→Heap→Prop}{h h':Heap}(D:Draws prog w A it fp n P St)(st:St i h)(sb:Heap.SameBut c h h')(hc:c∉fp):St i h':=
 D.frame i h h' st fun d hd o e=>(sb.2 d fun q=>hc (q▸hd)).trans e
end
def itRec(l:Bool)(a:Addr):Obj:={ cls:=.type (if l then "list_iterator" else "tuple_iterator"),data:=.fields #[.ref a,.int 0 0] }
def IsSeq(l:Bool)(h:Heap)(a:Addr)(xs:Array Value):Prop:=if l=true then h.IsList a xs else h.IsTuple a xs
theorem IsSeq.push{l:Bool}{h:Heap}{a:Addr}{xs:Array Value}(q:IsSeq l h a xs)(o:Obj):IsSeq l (h.push o) a xs:=by
 cases l
 ·exact Heap.IsTuple.push (show h.IsTuple a xs from q) o
 ·exact Heap.IsList.push (show h.IsList a xs from q) o
theorem mR{prog:Program}{w:World}{A:Around}{E:Value→Shared→Prop}{s:Shared}{l:Bool}{a:Addr}{xs:Array Value}{Q:Value→Shared→Prop}(q:IsSeq l s.heap a xs)(h:Q (.ref s.heap.objs.size) { s with heap:=s.heap.push (itRec l a) }):wpAny (model prog w) A (pyIter (.ref a)) Q E s:=by
 cases l
 ·exact wpAny_pyIter_tuple (show s.heap.IsTuple a xs from q) h
 ·exact wpAny_pyIter_list (show s.heap.IsList a xs from q) h
section
variable {prog:Program} {w:World} {A:Around} {E:Value→Shared→Prop} {s:Shared}
end
end L3
namespace L2
open PySem PySem.Spec PyProof.Rows
def g4(K:PySem.W.Frag)(l:Bool)(H:Hp)(a:Addr)(xs:List V):Prop:=if l=true then aO K H a xs else cR K H a xs
def nW(l:Bool)(h:Heap)(it a:Addr)(i:Nat):Prop:=if l=true then h.IsListIter it a i else h.IsTupleIter it a i
theorem nW.at{l:Bool}{h h':Heap}{it a:Addr}{i:Nat}(x:nW l h it a i)(e:∀o,h.get? it=some o→h'.get? it=some o):nW l h' it a i:=by
 cases l
 ·exact Heap.IsTupleIter.at (show h.IsTupleIter it a i from x) e
 ·exact Heap.IsListIter.at (show h.IsListIter it a i from x) e
theorem nW.rec{l:Bool}{h:Heap}{it a:Addr}(e:h.get? it=some (L3.itRec l a)):nW l h it a 0:=by
 cases l
 ·exact⟨_,e,rfl,rfl⟩
 ·exact⟨_,e,rfl,rfl⟩
theorem nW.obj{l:Bool}{h:Heap}{it a:Addr}{i:Nat}(x:nW l h it a i):∃o,h.get? it=some o∧∀v,o.data≠.cell v:=by
 cases l
 ·obtain⟨o,e,_,d⟩:=(show h.IsTupleIter it a i from x)
  exact⟨o,e,fun v z=>by rw [d]at z;cases z⟩
 ·obtain⟨o,e,_,d⟩:=(show h.IsListIter it a i from x)
  exact⟨o,e,fun v z=>by rw [d]at z;cases z⟩
theorem ph{P:Program}{w:World}{A:Around}(hh:A.handled=none)(l:Bool)(it a:Addr)(hne:a≠it)(its:Array Value):
  Draws P w A it [it,a] its.size (fun i v=>its[i]?=some v) (fun i h=>nW l h it a i∧L3.IsSeq l h a its):=by
 cases l
 ·exact L3.draws_tuple hh it a hne its
 ·exact Draws.list hh it a hne its
theorem aU.seqB{X:Cx}{pins:List (Addr×Obj)}{σ:St}{H:Hp}{s:Shared}{l:Bool}{a:Addr}{xs:List V}(I:aU X pins σ H s)(h:g4 X.K l H a xs):∃its:List Value,aW xs its∧L3.IsSeq l s.heap a its.toArray∧xs.length≤sizeLine:=by
 cases l
 ·obtain⟨its,r,p,z⟩:=I.tuple (show cR X.K H a xs from h)
  exact⟨its,r,p,z⟩
 ·obtain⟨its,r,p,z⟩:=I.list (show aO X.K H a xs from h)
  exact⟨its,r,p.isList,z⟩
theorem aU.seqB_inj{X:Cx}{pins:List (Addr×Obj)}{σ:St}{H:Hp}{s:Shared}{l:Bool}{a:Addr}{xs ys:List V}(I:aU X pins σ H s)(h:g4 X.K l H a xs)(h':g4 X.K l H a ys):xs=ys:=by
 cases l
 ·exact I.tuple_inj (show cR X.K H a xs from h) h'
 ·exact I.list_inj (show aO X.K H a xs from h) h'
theorem aU.seqB_ne{X:Cx}{pins:List (Addr×Obj)}{σ:St}{H:Hp}{s:Shared}{l:Bool}{a b:Addr}{xs:List V}(I:aU X pins σ H s)(h:g4 X.K l H a xs)(f:mB X pins H b):a≠b:=by
 obtain⟨f0,_,_,f3,_,_⟩:=f
 have tr:∀{o:HO},Rd H a o→a≠b:=fun {o} r=>by
  rcases r with r | ⟨_,r⟩
  ·exact ay r f0
  ·exact ay r f0
 have kb:∀{o:Obj},X.K.lookup a=some o→a≠b:=fun {o} hk=>by
  have hb:=I.ok.mod.kin a o hk
  rcases f3 with z | z
  ·exact fun q=>I.ok.noex a o hb (q▸z)
  ·exact Nat.ne_of_lt (Nat.lt_of_lt_of_le (Heap.lt_size hb) (Nat.le_trans I.ok.bsz z))
 cases l
 ·rcases(show cR X.K H a xs from h)with h | ⟨o,_,_,hk,_⟩
  ·exact tr h
  ·exact kb hk
 ·rcases(show aO X.K H a xs from h)with h | ⟨o,_,_,hk,_⟩
  ·exact tr h
  ·exact kb hk
def Itz(K:PySem.W.Frag)(l1 l2:Bool)(a1 a2:Addr):It:=
 ⟨fun i H=>∃xs ys x y,g4 K l1 H a1 xs∧g4 K l2 H a2 ys∧xs[i]?=some x∧ys[i]?=some y,
  fun i H v H'=>∃p x y,v=.ref p∧H p=none∧H'=upd H p (.tup [x,y])∧(∀xs,g4 K l1 H a1 xs→xs[i]?=some x)∧∀ys,g4 K l2 H a2 ys→ys[i]?=some y,
  fun i H=>∃xs ys,g4 K l1 H a1 xs∧g4 K l2 H a2 ys∧(i=xs.length∨(i < xs.length∧i=ys.length))⟩
def CN(K:PySem.W.Frag)(ta:TA):TI:=fun σ H R=>ta σ H fun vs H1=>∃l1 l2 a1 a2,vs=[.ref a1,.ref a2]∧(∃xs,g4 K l1 H1 a1 xs)∧(∃ys,g4 K l2 H1 a2 ys)∧R (Itz K l1 l2 a1 a2) H1
end L2
namespace L2
open PySem PySem.Spec PyProof.Rows
def Ite(K:PySem.W.Frag)(a:Addr):It:=
 ⟨fun i H=>∃xs x,aO K H a xs∧xs[i]?=some x,
  fun i H v H'=>∃p x,v=.ref p∧H p=none∧H'=upd H p (.tup [.int i,x])∧∀xs,aO K H a xs→xs[i]?=some x,
  fun i H=>∃xs,aO K H a xs∧i=xs.length⟩
def BS(K:PySem.W.Frag)(ta:TA):TI:=fun σ H R=>ta σ H fun vs H1=>∃a,vs=[.ref a]∧(∃xs,aO K H1 a xs)∧R (Ite K a) H1
end L2
namespace L2
open PySem PySem.W PySem.Spec PySem.Calls PyProof.Rows
def GB:Nat:=1048576
theorem jF:∀{ns:List Int},WData.weightAll (ns.map WData.int)≤2 ^ 20→∀x∈ns,x.natAbs < 2 ^ GB
 | [],_,_,h=>nomatch h
 | n::ns,hw,x,h=>by
  have e:WData.weightAll ((n::ns).map WData.int)=(if n == 0 then 0 else n.natAbs.log2+1)+1+WData.weightAll (ns.map WData.int):=by
   simp only [List.map_cons,WData.weightAll,WData.weight]
  rw [e]at hw
  rcases List.mem_cons.mp h with rfl | h
  ·by_cases h0:x=0
   ·subst h0;exact Nat.two_pow_pos _
   ·have hb:(x == 0)=false:=by simpa using h0
    rw [hb]at hw
    have hl:x.natAbs.log2 < GB:=by
     have:(2:Nat) ^ 20=GB:=by decide
     rw [←this]
     simp only [Bool.false_eq_true,if_false]at hw
     omega
    exact(Nat.log2_lt (by omega)).mp hl
  ·exact jF (ns:=ns) (by omega) x h
theorem wj{ns:List Int}(h:WData.layableAll [WData.list (ns.map WData.int)]=true):∀x∈ns,x.natAbs < 2 ^ GB:=by
 have h1:=(layableW_iff.mp (layableW_arg h _ List.mem_cons_self)).2.2
 exact jF (by simpa only [WData.weight]using h1)
theorem walk_ofB{l:PySem.W.OpenLaw}{n k:Nat}{q:Program}{loose:List Str}{XP:(Str→Option Value)→Heap→Prop}{YP:World→Heap→Prop}{d:DefRec}{K:Params→PySem.W.Frag}{CX:World→sH}{sp:World→Sp}{x:Str}
  (hn:l.most=some n) (hn2:n≤sizeLine) (hdf:d.params.defaults=[]) (hr:dy k callerA)
  (hY:∀(w:World) (h:Heap),YP w h→(K w.params).In h)
  (F:∀(w:World) (mg:Str→Option Value) (fa:Addr) (h:Heap),(K w.params).In h→h.Ns mainGlobals mg→mg d.name=some (.ref fa)→
   ∃fd:FuncData,(∀(s:Shared) (u:Value),BindsTo s fd ⟨[u],[]⟩ [(x,u)])∧∀base:Heap,(K w.params).In base→base.Ns mainGlobals mg→aP l.prog w (K w.params) mg base (CX w) k fa fd [x] (sp w))
  (hsp:∀(w:World) (H:Hp) (a:Addr) (ns:List Int),ns.length≤n→(∀x∈ns,x.natAbs < 2 ^ GB)→yS H→aO (K w.params) H a (ns.map V.int)→sp w [.ref a] H (fun v _=>v=.bl true) fun _ _ _=>False)
  (hCX:∀(w:World) (H:Hp) (s:Shared) (e:Value) (s':Shared),CX w [] H s (fun _ _ _=>False) e s'→False) :
  PySem.W.WalkO q loose XP YP l.row.toRowW d [] (fun f vs=>PySem.call f vs):=by
 intro w s₀ s₁ mg mb G Y fa o pm cd doc dV kV ho hd hcd hD hmg hg args vals as hpre hlay hrd hwl hlo
 obtain rfl:dV=.none:=Dflts.none hD hdf
 obtain rfl:kV=.none:=Dflts.noKw hD
 obtain⟨a,vs,ns,rfl,rfl,hobj,hints,hlen⟩:=Att.script_of hn hpre hwl
 have KX:=hY w _ Y
 obtain⟨fd,hb,hF⟩:=F w mg fa _ KX G.T.g hmg
 refine enter_call (codeAny_mono (rJ KX G.T.g G.T.b G.T.builtins G.T.nolimit hg hobj hints (Nat.le_trans hlen hn2) hr hF hb (fun H hO hS=>hsp w H a ns hlen (wj hlay) hO hS) fun H e s'=>hCX w H s₁ e s') fun r s' hq=>?_)
 obtain⟨rfl,h2,h3,h4⟩:=hq
 exact⟨.inl ⟨.bool true,.bool true,[],rfl,fun _=>rfl,.bool true,Att.post_true l _,fun _=>⟨List.Pairwise.nil,fun _ hm=>(nomatch hm)⟩⟩,h2,h3,h4⟩
structure bG(K:PySem.W.Frag)(x:Str)(st:Stmt)(f:Addr)(fd:FuncData):Prop where
 ns:PySem.W.nsIn K mainGlobals x=some (some (.ref f))
 fn:cH K x x st f fd
theorem defAt_mk{K:PySem.W.Frag}{x:Str}{st:Stmt}{f:Addr}{oc:Value}{od an:Option Addr}{osl:Array (Option Value)}{kV doc pm cdv ct:Value}(a:PySem.W.nsIn K mainGlobals x=some (some (.ref f)))
  (l:K.lookup f=some ⟨oc,od,.func (PySem.W.fnOf x x (dh st) (cS st) (ao st) .none kV doc pm an cdv ct),osl⟩) (c:PySem.W.codeIn K cdv x=true) (k:PySem.W.keepIn K (.ref f)=true):∃f fd,bG K x st f fd:=
 ⟨f,_,a,fun_mk l c k⟩
theorem bG.df{P:Program}{w:World}{K:PySem.W.Frag}{mg:Str→Option Value}{base h:Heap}{x:Str}{st:Stmt}{f:Addr}{fd:FuncData}{k:Nat}{ps:List Str}{sp:Sp}(A:bG K x st f fd)(X:K.In h)(G:h.Ns mainGlobals mg)
  (ok:aP P w K mg base bY k f fd ps sp) (b:dO K fd ps []):bZ P w K mg base x k ps sp:=⟨f,fd,ok,PySem.W.mg_of X G A.ns,A.fn.kp,b⟩
end L2
namespace L2
open PySem PySem.Spec PyProof.Rows
def vf(g:TG)(tb:TS)(D:gU)(σ:St)(J:It)(H:Hp):Prop:=∃W:Nat→Nat→St→Hp→Prop,(∃m,W 0 m σ H)∧∀i m σ H,W i m σ H→
 (J.stop i H∧D.nx σ H)∨(J.go i H∧∃N:St→Hp→Prop,(∀σ' H',N σ' H'→∃m',m' < m∧W (i+1) m' σ' H')∧∀x H',J.yld i H x H'→g x σ H' fun σ2 H2=>tb { D with nx:=N,ct:=N,bk:=D.nx } σ2 H2)
theorem z7(wi:TI)(g:TG)(tb:TS)(D:gU)(σ:St)(H:Hp):Cp wi g tb D σ H=wi σ H (fun J H1=>vf g tb D σ J H1):=rfl
def oV(n:Nat)(js:List Nat)(g:TG)(tt:TT)(te:TE)(σ:St)(F:List V→Hp→Prop)(J:It)(H:Hp):Prop:=uG J n js g tt te σ H F
theorem yB(n:Nat)(js:List Nat)(wi:TI)(g:TG)(tt:TT)(te:TE)(σ:St)(H:Hp)(Q:VK):
  yA n js wi g tt te σ H Q=wi σ H (fun J H1=>oV n js g tt te σ (fun ys H2=>∀p,H2 p=none→Q (.ref p) (upd H2 p (.lst ys))) J H1):=rfl
section
variable {g:TG} {tb:TS} {D:gU} {σ:St} {H:Hp} {K:PySem.W.Frag} {a:Addr} {xs:List V}
theorem dJ(Pv:Nat→St→Hp→Prop)(h0:Pv 0 σ H)(hl:∀i σ H,i≤xs.length→Pv i σ H→aO K H a xs)
  (hs:∀i x σ H,xs[i]?=some x→Pv i σ H→g x σ H fun σ2 H2=>tb { D with nx:=Pv (i+1),ct:=Pv (i+1),bk:=D.nx } σ2 H2) (hd:∀σ H,Pv xs.length σ H→D.nx σ H):vf g tb D σ (wA K a) H:=xh Pv h0 hl hs hd
theorem xG(Pv:Nat→St→Hp→Prop)(h0:Pv 0 σ H)(hl:∀i σ H,i≤xs.length→Pv i σ H→cR K H a xs)
  (hs:∀i x σ H,xs[i]?=some x→Pv i σ H→g x σ H fun σ2 H2=>tb { D with nx:=Pv (i+1),ct:=Pv (i+1),bk:=D.nx } σ2 H2) (hd:∀σ H,Pv xs.length σ H→D.nx σ H):vf g tb D σ (Ae K a) H:=y9 Pv h0 hl hs hd
theorem cU{lo:Int}{n:Nat}(Pv:Nat→St→Hp→Prop)(h0:Pv 0 σ H)
  (hs:∀i σ H,i < n→Pv i σ H→g (.int (lo+i)) σ H fun σ2 H2=>tb { D with nx:=Pv (i+1),ct:=Pv (i+1),bk:=D.nx } σ2 H2) (hd:∀σ H,Pv n σ H→D.nx σ H):vf g tb D σ (yM lo n) H:=vF Pv h0 hs hd
theorem vN(h:aO K H a [])(hd:D.nx σ H):vf g tb D σ (wA K a) H:=⟨fun i m σ' H'=>i=0∧σ'=σ∧H'=H,⟨0,rfl,rfl,rfl⟩,by
 rintro i m σ' H' ⟨rfl,rfl,rfl⟩
 exact .inl ⟨⟨[],h,Nat.le_refl _⟩,hd⟩⟩
end
section
variable {n:Nat} {js:List Nat} {g:TG} {tt:TT} {te:TE} {σ:St} {H:Hp} {F:List V→Hp→Prop} {K:PySem.W.Frag} {a:Addr} {xs:List V}
theorem rh{lo:Int}{k:Nat}(Pv:Nat→List V→Hp→Prop)(hk:k≤sizeLine)(h0:Pv 0 [] H)(hn:∀i ys H,Pv i ys H→ys.length≤i)
  (hs:∀i ys H,i < k→Pv i ys H→jC n js g tt te σ (.int (lo+i)) ys H (Pv (i+1))) (hd:∀ys H,Pv k ys H→F ys H):oV n js g tt te σ F (yM lo k) H:=sR Pv hk h0 hn hs hd
theorem cu(Pv:Nat→List V→Hp→Prop)(hk:xs.length≤sizeLine)(h0:Pv 0 [] H)(hn:∀i ys H,Pv i ys H→ys.length≤i)(hl:∀i ys H,Pv i ys H→aO K H a xs)
  (hs:∀i x ys H,xs[i]?=some x→Pv i ys H→jC n js g tt te σ x ys H (Pv (i+1))) (hd:∀ys H,Pv xs.length ys H→F ys H):oV n js g tt te σ F (wA K a) H:=vw Pv hk h0 hn hl hs hd
theorem vt{z:Str}(Pv:Nat→List V→Hp→Prop)(hk:z.length≤sizeLine)(h0:Pv 0 [] H)(hn:∀i ys H,Pv i ys H→ys.length≤i)
  (hs:∀i c ys H,z.cps.toList[i]?=some c→Pv i ys H→jC n js g tt te σ (.str ⟨#[c]⟩) ys H (Pv (i+1))) (hd:∀ys H,Pv z.length ys H→F ys H):oV n js g tt te σ F (yR z) H:=wQ Pv hk h0 hn hs hd
end
theorem AI{CX:sH}{P:Program}{w:World}{K:PySem.W.Frag}{mg:Str→Option Value}{base:Heap}{N:List Str}{qual:Str}{scope:Scope}{f:Addr}{cd:Value}{A:Around}{outer:List Env}{s:Shared}{H:Hp}{E:XK}:(rm CX P w K mg base N qual scope f cd A outer s H E).K=K:=rfl
theorem BP{X:Cx}{scope:Scope}{own:List Str}{js:List Nat}{C:Addr}{s:Shared}{H:Hp}{ex:List Addr}{pn:List (Addr×Obj)}{E:Value→Shared→Prop}:(n6 X scope own js C s H ex pn E).K=X.K:=rfl
theorem wR(xs:List V){p:Int}(hp:0≤p):fR xs (some p) (some (p+1))=match xs[p.toNat]? with | none=>[] | some x=>[x]:=by
 unfold fR
 obtain⟨k,rfl⟩:=Int.eq_ofNat_of_zero_le hp
 have e1:((k:Int)+1)=((k+1:Nat):Int):=by omega
 rw [e1,HT.sIx_nat,HT.sIx_nat,Int.toNat_natCast]
 by_cases h:k < xs.length
 ·rw [List.getElem?_eq_getElem h,Nat.min_eq_left (by omega),Nat.min_eq_left (by omega),List.drop_eq_getElem_cons h,show k+1 - k=1 by omega]
  rfl
 ·rw [List.getElem?_eq_none (by omega),Nat.min_eq_right (by omega),Nat.min_eq_right (by omega),Nat.sub_self]
  rfl
theorem AG{α:Type}{xs:List α}{i:Int}(h0:0≤i)(h1:i < xs.length):∃v,dz xs i=some v∧xs[i.toNat]?=some v:=by
 obtain⟨k,rfl⟩:=Int.eq_ofNat_of_zero_le h0
 have hk:k < xs.length:=by omega
 exact⟨xs[k],aK (List.getElem?_eq_getElem hk),by simp [hk]⟩
theorem uM{α:Type}{xs:List α}{c m:Int}(hm:0 < m)(h:m≤xs.length):∃v,dz xs (c % m)=some v:=by
 have h1:=Int.emod_nonneg c (show m≠0 by omega)
 have h2:=Int.emod_lt_of_pos c hm
 obtain⟨v,e,_⟩:=AG (xs:=xs) h1 (by omega)
 exact⟨v,e⟩
theorem au{H:Hp}{q:Addr}{o:HO}(h:H q=none):ax H (upd H q o):=fun b o' e=>by rw [aj (ay e h)];exact e
theorem ax.upd{H H1:Hp}{q:Addr}{o:HO}(s:ax H H1)(h:H1 q=none):ax H (upd H1 q o):=s.trans (au h)
theorem ax.tup{K:PySem.W.Frag}{H H':Hp}{a:Addr}{xs:List V}(e:ax H H')(h:cR K H a xs):cR K H' a xs:=by
 rcases h with h | h
 ·rcases h with h | ⟨o,h⟩
  ·exact .inl (.inl (e _ _ h))
  ·exact .inl (.inr ⟨o,e _ _ h⟩)
 ·exact .inr h
end L2
namespace L2
open PySem PySem.Spec PyProof.Rows
theorem bg(z:Str):z.length=z.cps.toList.length:=by simp [Str.length]
theorem ue{z:Str}{i:Int}(h:0≤i):(Txt.slice z (some i) none).cps.toList=z.cps.toList.drop i.toNat:=by
 by_cases hi:i≤z.cps.toList.length
 ·rw [show Txt.slice z (some i) none=StrLaws.sliceText z (some i) none from rfl,StrLaws.sliceText_from ⟨h,hi⟩]
  show((z.cps.toList.drop i.toNat).take _)=_
  skip
  exact List.take_of_length_le (by rw [List.length_drop];omega)
 ·have e:Builtin.Str.strSliceIndices (some i) none 1 z.length=Builtin.Str.strSliceIndices (some (z.length:Int)) none 1 z.length:=sliceIdx_lo_beyond z.length (by rw [bg];omega)
  have e2:Txt.slice z (some i) none=Txt.slice z (some (z.length:Int)) none:=by unfold Txt.slice;rw [e]
  rw [e2,show Txt.slice z (some (z.length:Int)) none=StrLaws.sliceText z (some (z.length:Int)) none from rfl,StrLaws.sliceText_from ⟨by omega,by rw [bg];omega⟩]
  show((z.cps.toList.drop _).take _)=_
  rw [bg,Int.toNat_natCast,List.drop_length,List.take_nil,List.drop_eq_nil_of_le (by omega)]
theorem uv(z:Str)(c:Nat):Txt.startswith z ⟨#[c]⟩=decide (z.cps.toList.head?=some c):=by
 obtain⟨⟨l⟩⟩:=z
 unfold Txt.startswith
 rw [StrLaws.subAt_eq]
 cases l with
 | nil=>simp [Str.length]
 | cons a l=>
  simp [Str.length]
  rw [Bool.eq_iff_iff]
  simp
theorem ka(x y:Str):decide (x=y)=decide (x.cps.toList=y.cps.toList):=by
 by_cases h:x=y
 ·subst h;simp
 ·rw [decide_eq_false h]
  symm
  apply decide_eq_false
  intro e
  apply h
  obtain⟨⟨a⟩⟩:=x
  obtain⟨⟨b⟩⟩:=y
  simp at e
  subst e
  rfl
theorem uL{α:Type}{xs:List α}{i:Int}{v:α}{P:α→Prop}(h:∀x∈xs,P x)(e:dz xs i=some v):P v:=by
 unfold dz at e
 cases hj:wD xs.length i with
 | none=>rw [hj]at e;cases e
 | some j=>rw [hj]at e;exact h v (List.mem_of_getElem? e)
theorem bD{α:Type}{xs:List α}{v:α}(h:xs.head?=some v):dz xs 0=some v:=by
 cases xs with
 | nil=>cases h
 | cons a l=>cases h;exact aK (j:=0) rfl
section
variable {X:Cx}
end
end L2
namespace L2
open PySem PySem.Spec PyProof.Rows
section
variable {X:Cx}
theorem A5(K:PySem.W.Frag)(h:X.K=K:=by rfl):dw X (binaryOp .Add) (eI K):=h▸B6
theorem lH(K:PySem.W.Frag)(h:X.K=K:=by rfl):dw X (compareOp .In) (wb K):=h▸CP
theorem fv(K:PySem.W.Frag)(h:X.K=K:=by rfl):dw X (compareOp .NotIn) (mi K):=h▸zC
theorem dc(K:PySem.W.Frag)(h:X.K=K:=by rfl):yN X (wd K):=h▸slA
theorem aL(K:PySem.W.Frag)(h:X.K=K:=by rfl):wL X (lR K):=h▸ixA
theorem b6(K:PySem.W.Frag){tg l:Expr}{tl:TE}(hl:PE X l tl)(h:X.K=K:=by rfl):PI X tg l (CC (ye K) tl):=h▸Bb hl
theorem aQ(K:PySem.W.Frag)(h:X.K=K:=by rfl):cJ X (.builtin "len") (fun xs H Q=>(∃z,xs=[.str z]∧z.length≤sizeLine∧Q (.int z.length) H)∨∃p ys,xs=[.ref p]∧(aO K H p ys∨cR K H p ys)∧Q (.int ys.length) H):=h▸vn
theorem gn(K:PySem.W.Frag)(h:X.K=K:=by rfl):cJ X (.builtin "isinstance") (fun xs H Q=>∃x n t b,xs=[x,.ty n]∧jz K H x t∧PySem.W.kitOne K t (.type n)=some b∧Q (.bl b) H):=h▸rf
theorem iB(K:PySem.W.Frag)(hc:X.calm=true)(h:X.K=K:=by rfl):cJ X (.builtin "all") (fun xs H Q=>∃(p:Addr) (bs:List Bool),xs=[.ref p]∧aO K H p (bs.map V.bl)∧Q (.bl (bs.all id)) H):=h▸vk hc
theorem lC(K:PySem.W.Frag)(h:X.K=K:=by rfl):cJ X (.type "tuple") (fun xs H Q=>∃p ys,xs=[.ref p]∧((aO K H p ys∧∀l,H l=none→Q (.ref l) (upd H l (.tup ys)))∨(cR K H p ys∧Q (.ref p) H))):=h▸nZ
theorem cq(K:PySem.W.Frag)(h:X.K=K:=by rfl):cJ X (.type "list") (fun xs H Q=>∃p ys,xs=[.ref p]∧(aO K H p ys∨cR K H p ys)∧∀l,H l=none→Q (.ref l) (upd H l (.lst ys))):=h▸pW
theorem c7(K:PySem.W.Frag){es:List Expr}{k:Nat}{t:yT}{n:Nat}{pos:Pos}(hc:X.calm=true)(h:BJ X es t)(hK:X.K=K:=by rfl)
  (hn:(assignEach es X.env).length=n:=by rfl) (hst:(assignEach es X.env).findIdx? (·.1)=none:=by rfl):PG X (.Tuple es k pos) (AM K n t):=hK▸Ba hc h hn hst
theorem cz(K:PySem.W.Frag){o e:Expr}{es:List Expr}{to:TE}{t:TA}{name:Str}{apos cpos:Pos}{T id:String}{r:V→List V→Hp→VK→Prop}(pa:PlainAttrs T)(slot:Slot T name id)(hty:typeOf (.builtin id)=pure (.type "method_descriptor"))(hm:wB X id r)(ho:PE X o to)(ha:PA X (e::es) t)(hK:X.K=K:=by rfl)
  (hbase:attributeBase o name X.env (eval o X.env)=eval o X.env:=by rfl)
  (hfew:((backTo cpos (starEach (e::es) X.env)).all (fun x=>!x.1) && (backToKw cpos (keywordEach [] X.env)).all (fun x=>x.1.isSome)
   && decide ((e::es).length+([]:List Keyword).length+(if ([]:List Keyword).isEmpty then 0 else 1) < 30))=true:=by rfl)
  (hline:(apos.endLine == cpos.line)=true:=by rfl) (hs:starEach (e::es) X.env=(false,eval e X.env)::starEach es X.env:=by rfl) (hplain:(backTo cpos (starEach es X.env)).any (·.1)=false:=by rfl) :
  PE X (.Call (.Attribute o name apos) (e::es) [] cpos) (CS K T r to t):=hK▸Cf pa slot hty hm ho ha hbase hfew hline hs hplain
def tVs(vs:List V):TA:=fun _ H Q=>Q vs H
end
def CQ:Option V→(V→Prop)→Prop
 | some v,k=>k v
 | none,_=>False
def yl:St→Nat→(V→Prop)→Prop
 | [],_,_=>False
 | o::_,0,k=>CQ o k
 | _::σ,i+1,k=>yl σ i k
theorem pI{v:V}{σ:St}{k:V→Prop}:yl (some v::σ) 0 k=k v:=rfl
theorem sh{o:Option V}{σ:St}{i:Nat}{k:V→Prop}:yl (o::σ) (i+1) k=yl σ i k:=rfl
theorem mj{k:V→Prop}:∀{σ:St} {i:Nat},yl σ i k↔∃v,σ[i]?=some (some v)∧k v
 | [],i=>by simp [yl]
 | some v::σ,0=>by simp [yl,CQ]
 | none::σ,0=>by simp [yl,CQ]
 | o::σ,i+1=>by rw [sh,mj];simp
def Bx(i:Nat):TE:=fun σ H Q=>yl σ i fun v=>Q v H
theorem By(i:Nat):Bx i=z8 i:=by
 funext σ H Q
 exact propext mj
def yO:V→(Int→Prop)→Prop
 | .int i,k=>k i
 | _,_=>False
theorem l0{i:Int}{k:Int→Prop}:yO (.int i) k=k i:=rfl
theorem jB{v:V}{k:Int→Prop}:yO v k↔∃i,v=.int i∧k i:=by cases v<;>simp [yO]
def Af:V→(Bool→Prop)→Prop
 | .bl i,k=>k i
 | _,_=>False
theorem pS{i:Bool}{k:Bool→Prop}:Af (.bl i) k=k i:=rfl
theorem lZ{v:V}{k:Bool→Prop}:Af v k↔∃i,v=.bl i∧k i:=by cases v<;>simp [Af]
def BX(g:Int→Int→V):R2:=fun x y H Q=>yO x fun i=>yO y fun j=>Q (g i j) H
def jI(C:Int→Int→Prop)(g:Int→Int→V):R2:=fun x y H Q=>yO x fun i=>yO y fun j=>C i j∧Q (g i j) H
def jU(g:Int→V):V→Hp→VK→Prop:=fun x H Q=>yO x fun i=>Q (g i) H
def rG(t:TE):TT:=fun σ H Q=>t σ H fun x H1=>Af x fun k=>Q k H1
def rF(t:TE):TO:=fun σ H Q=>t σ H fun x H1=>yO x fun i=>Q (some i) H1
def xv(i:Nat)(te:TE)(ti:BG):TS:=fun D σ H=>yl σ i fun x=>te σ H fun y H1=>ti x y H1 fun z H2=>D.nx (σ.set i (some z)) H2
def rE(ta tb:TE):TE:=fun σ H Q=>ta σ H fun x H1=>Af x fun c=>if c=true then tb σ H1 Q else Q (.bl false) H1
def xA(ta tb:TE):TE:=fun σ H Q=>ta σ H fun x H1=>Af x fun c=>if c=true then Q (.bl true) H1 else tb σ H1 Q
def Av(ta:TE):TE:=fun σ H Q=>ta σ H fun x H1=>Af x fun c=>Q (.bl (!c)) H1
theorem ze(i:Nat)(te:TE)(ti:BG):xv i te ti=yy i te ti:=by
 funext D σ H
 unfold xv yy
 simp only [mj]
theorem xu(ta tb:TE):rE ta tb=sC ta tb:=by
 funext σ H Q
 unfold rE sC
 simp only [lZ]
theorem zh(ta tb:TE):xA ta tb=yF ta tb:=by
 funext σ H Q
 unfold xA yF
 simp only [lZ]
theorem AS(g:Int→Int→V):BX g=tS g:=by
 funext x y H Q
 unfold BX tS
 simp only [jB,exists_and_left]
theorem BY(C:Int→Int→Prop)(g:Int→Int→V):jI C g=rI C g:=by
 funext x y H Q
 unfold jI rI
 simp only [jB,exists_and_left]
theorem B3(g:Int→V):jU g=rU g:=by
 funext x H Q
 unfold jU rU
 simp only [jB]
theorem xC(t:TE):rG t=pO t:=by
 funext σ H Q
 unfold rG pO
 simp only [lZ]
theorem xB(t:TE):rF t=vc t:=by
 funext σ H Q
 unfold rF vc
 simp only [jB]
def wF(r:R2):R2
 | .int i,.int j,H,Q=>Q (.bl (decide (i=j))) H
 | .str i,.str j,H,Q=>Q (.bl (decide (i=j))) H
 | x,y,H,Q=>r x y H Q
def wG(r:R2):R2
 | .int i,.int j,H,Q=>Q (.bl (!decide (i=j))) H
 | .str i,.str j,H,Q=>Q (.bl (!decide (i=j))) H
 | x,y,H,Q=>r x y H Q
def tq(r:R2):R2
 | .int i,.int j,H,Q=>Q (.int (i+j)) H
 | x,y,H,Q=>r x y H Q
def tu(r:R2):R2
 | .int i,.int j,H,Q=>IntMulOk i j∧Q (.int (i * j)) H
 | x,y,H,Q=>r x y H Q
theorem p5{r:R2}{i j:Int}{H:Hp}{Q:VK}:wF r (.int i) (.int j) H Q=Q (.bl (decide (i=j))) H:=rfl
theorem p6{r:R2}{i j:Str}{H:Hp}{Q:VK}:wF r (.str i) (.str j) H Q=Q (.bl (decide (i=j))) H:=rfl
theorem p7{r:R2}{i j:Int}{H:Hp}{Q:VK}:wG r (.int i) (.int j) H Q=Q (.bl (!decide (i=j))) H:=rfl
theorem p8{r:R2}{i j:Str}{H:Hp}{Q:VK}:wG r (.str i) (.str j) H Q=Q (.bl (!decide (i=j))) H:=rfl
theorem l8{r:R2}{i j:Int}{H:Hp}{Q:VK}:tq r (.int i) (.int j) H Q=Q (.int (i+j)) H:=rfl
theorem l9{r:R2}{i j:Int}{H:Hp}{Q:VK}:tu r (.int i) (.int j) H Q=(IntMulOk i j∧Q (.int (i * j)) H):=rfl
theorem xw{r:R2}(h1:∀i j H Q,r (.int i) (.int j) H Q↔Q (.bl (decide (i=j))) H)(h2:∀i j H Q,r (.str i) (.str j) H Q↔Q (.bl (decide (i=j))) H):wF r=r:=by
 funext x y H Q
 unfold wF
 split
 ·exact propext (h1 _ _ _ _).symm
 ·exact propext (h2 _ _ _ _).symm
 ·rfl
theorem xy{r:R2}(h1:∀i j H Q,r (.int i) (.int j) H Q↔Q (.bl (!decide (i=j))) H)(h2:∀i j H Q,r (.str i) (.str j) H Q↔Q (.bl (!decide (i=j))) H):wG r=r:=by
 funext x y H Q
 unfold wG
 split
 ·exact propext (h1 _ _ _ _).symm
 ·exact propext (h2 _ _ _ _).symm
 ·rfl
theorem zd{r:R2}(h1:∀i j H Q,r (.int i) (.int j) H Q↔Q (.int (i+j)) H):tq r=r:=by
 funext x y H Q
 unfold tq
 split
 ·exact propext (h1 _ _ _ _).symm
 ·rfl
theorem zg{r:R2}(h1:∀i j H Q,r (.int i) (.int j) H Q↔IntMulOk i j∧Q (.int (i * j)) H):tu r=r:=by
 funext x y H Q
 unfold tu
 split
 ·exact propext (h1 _ _ _ _).symm
 ·rfl
theorem Ar:wF sJ=sJ:=xw (fun _ _ _ _=>tQ) (fun _ _ _ _=>tR)
theorem Au:wG sL=sL:=xy (fun _ _ _ _=>tT) (fun _ _ _ _=>tU)
theorem xt(K:PySem.W.Frag):tq (eI K)=eI K:=zd fun _ _ _ _=>sd
theorem BW{x y:V}{H:Hp}{Q:VK}:wF sJ x y H Q↔sJ x y H Q:=by rw [Ar]
theorem BZ{x y:V}{H:Hp}{Q:VK}:wG sL x y H Q↔sL x y H Q:=by rw [Au]
theorem zc{K:PySem.W.Frag}{x y:V}{H:Hp}{Q:VK}:tq (eI K) x y H Q↔eI K x y H Q:=by rw [xt]
section
variable {X:Cx}
theorem pr(i:Nat){x:Str}{pos:Pos}(hN:X.N[i]?=some x:=by rfl)(hv:BO X.env.scope x:=by first | exact Or.inl rfl | exact Or.inr (Or.inl rfl) | exact Or.inr (Or.inr rfl))(hd:(x == ("__debug__":Str))=false:=by decide)
  (hcd:(x == ("__classdict__":Str))=false:=by decide):PE X (.Name x pos) (Bx i):=by
 rw [By]
 exact xY hN hv hd hcd
theorem o0{f:Value→Value→Sem Value}{g:Int→Int→V}(h:dw X f (tS g)):dw X f (BX g):=by rw [AS];exact h
theorem o1{f:Value→Value→Sem Value}{C:Int→Int→Prop}{g:Int→Int→V}(h:dw X f (rI C g)):dw X f (jI C g):=by rw [BY];exact h
theorem u1{f:Value→Sem Value}{g:Int→V}(h:BN X f (rU g)):BN X f (jU g):=by rw [B3];exact h
theorem gr:dw X (compareOp .Eq) (wF sJ):=by rw [Ar];exact opEq
theorem yP:dw X (compareOp .NotEq) (wG sL):=by rw [Au];exact opNe
theorem bO(K:PySem.W.Frag)(h:X.K=K:=by rfl):dw X (binaryOp .Add) (tq (eI K)):=by rw [xt];exact A5 K h
theorem aX{e:Expr}{t:TE}(h:PT X e (pO t)):PT X e (rG t):=by rw [xC];exact h
theorem Ci{st:Stmt}{i:Nat}{te:TE}{ti:BG}(h:PS X st (yy i te ti)):PS X st (xv i te ti):=by rw [ze];exact h
theorem jN{e:Expr}{ta tb:TE}(h:PE X e (sC ta tb)):PE X e (rE ta tb):=by rw [xu];exact h
theorem xV{e:Expr}{ta tb:TE}(h:PE X e (yF ta tb)):PE X e (xA ta tb):=by rw [zh];exact h
theorem c4{e:Expr}{t:TE}(h:PE X e t):PO X (some e) (rF t):=by rw [xB];exact zM h
end
theorem itN{p:Prop}[d:Decidable p]{A B:Prop}:(if (!decide p)=true then A else B)=(if p then B else A):=by
 by_cases h:p<;>simp [h]
theorem itD{p:Prop}[d:Decidable p]{A B:Prop}:(if decide p=true then A else B)=(if p then A else B):=by
 by_cases h:p<;>simp [h]
theorem bo{t u:TS}{D:gU}{σ:St}{H:Hp}(C:St→Hp→Prop)(h2:∀σ H,C σ H→u D σ H)(h1:∀u':TS,(∀σ H,C σ H→u' D σ H)→ki t u' D σ H):ki t u D σ H:=h1 u h2
theorem bZ.up{P:Program}{w:World}{K:PySem.W.Frag}{mg:Str→Option Value}{base:Heap}{x:Str}{j k:Nat}{ps:List Str}{sp:Sp}(d:bZ P w K mg base x j ps sp)(h:j≤k):bZ P w K mg base x k ps sp:=
 let ⟨f,fd,F,r⟩:=d.ex;⟨f,fd,F.mono h,r⟩
theorem const_mk{K:PySem.W.Frag}{x:Str}{v:V}{u:Value}(e:PySem.W.nsIn K mainGlobals x=some (some u))(r:bh v u):∃u,PySem.W.nsIn K mainGlobals x=some (some u)∧bh v u:=⟨u,e,r⟩
theorem TruV_b{K:PySem.W.Frag}{b k:Bool}{H:Hp}:yU K (.bl b) H k↔k=b:=Iff.rfl
theorem Cv{K:PySem.W.Frag}{z:Str}{H:Hp}:Cu K "str" (.str z) H↔True:=⟨fun _=>trivial,fun _=>rfl⟩
theorem str_iff{x y:Str}:x=y↔x.cps.toList=y.cps.toList:=by
 constructor
 ·intro e;rw [e]
 ·intro e
  obtain⟨⟨a⟩⟩:=x
  obtain⟨⟨b⟩⟩:=y
  simp at e
  subst e
  rfl
end L2
namespace L2
open PySem PySem.Spec PyProof.Rows
open AutoSeq1 (wpAny_loadPart')
theorem kE:fillsNumberSlot (.type "tuple") "mul"=pure false:=
 PySem.fillsNumberSlot_seq (id:="tuple.__mul__") (r:=some (.builtin "tuple.__rmul__")) F.slot_tuple_mul.lookup (by decide +kernel) F.slot_tuple_rmul.lookup (by decide +kernel)
theorem qD:seqRepeat? (.type "tuple")=pure (some (.builtin "tuple.__mul__")):=by
 unfold seqRepeat?
 rw [PySem.seqSlot_of (T:="tuple") (name:="__mul__") (id:="tuple.__mul__") F.slot_tuple_mul.lookup (by decide +kernel),PySem.seqSlot_of (T:="tuple") (name:="__rmul__") (id:="tuple.__rmul__") F.slot_tuple_rmul.lookup (by decide +kernel)]
 rfl
theorem mP(a:Int)(t:Tok)(l:Addr)(items:Array Value)(n:Nat)(dd:Option Addr)(sl:Array (Option Value)):
  Meets (Builtin.«int.__rmul__» ⟨[.int a t,.ref l],[]⟩) (fun _ R s=>s.heap.get? l=some { cls:=.type "tuple",dict:=dd,data:=.seq items n,slots:=sl }∧R (.ok (.ret Value.notImplemented)) s):=
 .of_wp fun prog w A R s h=>by obtain⟨hp,g,d,tk,os⟩:=s;obtain⟨hl,h⟩:=h;wp_walk;exact⟨_,rfl,h⟩
theorem uB(l:Addr)(items:Array Value)(n:Nat)(dd:Option Addr)(sl:Array (Option Value))(u:Tok):
  Meets (Builtin.«tuple.__mul__» ⟨[.ref l,.int 1 u],[]⟩) (fun _ R s=>s.heap.get? l=some { cls:=.type "tuple",dict:=dd,data:=.seq items n,slots:=sl }∧R (.ok (.ret (Value.ref l))) s):=
 .of_wp fun prog w A R s h=>by
  obtain⟨hp,g,d,tk,os⟩:=s;obtain⟨hl,h⟩:=h
  have hT:Shared.TypeIs ⟨hp,g,d,tk,os⟩ (.ref l) "tuple":=⟨_,hl,rfl⟩
  wp_walk using wpAny_loadPart' hl,wpAny_typeOf hT
  exact⟨_,rfl,h⟩
theorem mM{α:Type}(xs:Array α):∀(n:Nat) (acc:Array α),((List.replicate n xs).foldl (· ++ ·) acc).size=acc.size+n * xs.size
 | 0,acc=>by simp
 | n+1,acc=>by
  rw [List.replicate_succ,List.foldl_cons,mM xs n,Array.size_append,Nat.succ_mul]
  omega
theorem uC(l:Addr)(items:Array Value)(n:Nat)(dd:Option Addr)(sl:Array (Option Value))(x:Int)(u:Tok)(h1:1 < x)(h2:x < 1000000)(h0:items.isEmpty=false)(hz:items.size * x.toNat≤sizeLine):
  Meets (Builtin.«tuple.__mul__» ⟨[.ref l,.int x u],[]⟩) (fun _ R s=>s.heap.get? l=some { cls:=.type "tuple",dict:=dd,data:=.seq items n,slots:=sl }∧R (.ok (.ret (Value.ref s.heap.objs.size))) { s with heap:=s.heap.push { cls:=Value.type "tuple",data:=Data.seq ((List.replicate x.toNat items).foldl (· ++ ·) #[]) } }):=
 .of_wp fun prog w A R s h=>by
  obtain⟨hp,g,d,tk,os⟩:=s;obtain⟨hl,h⟩:=h
  have hT:Shared.TypeIs ⟨hp,g,d,tk,os⟩ (.ref l) "tuple":=⟨_,hl,rfl⟩
  wp_walk using wpAny_loadPart' hl,wpAny_typeOf hT
  refine wpAny_ite_false (by rw [decide_eq_false (show ¬x < -2 ^ 63 by omega),decide_eq_false (show ¬x≥2 ^ 63 by omega)];rfl) ?_
  wp_walk using wpAny_loadPart' hl,wpAny_typeOf hT
  refine wpAny_ite_false (by rw [h0];simp;omega) ?_
  refine wpAny_ite_false (by rw [h0];simp;omega) ?_
  have e:(items.size:Int) * x=((items.size * x.toNat:Nat):Int):=by rw [Int.natCast_mul,Int.toNat_of_nonneg (by omega)]
  have hs:sizeLine=16777216:=sizeLine_eq
  refine wpAny_ite_false (decide_eq_false (by rw [e];omega)) ?_
  have hm:¬((items.size:Int) * x > (sizeLine:Int)):=by rw [e];exact_mod_cast Nat.not_lt.mpr hz
  refine wpAny_ite_false (by unfold Builtin.Tuple.tupleTooMany;exact decide_eq_false (fun z=>hm (of_decide_eq_true z))) ?_
  have hf:(List.foldl (fun x1 x2=>x1++x2) #[] (List.replicate x.toNat items)).size≤sizeLine:=by
   rw [mM,Array.size_empty,Nat.zero_add,Nat.mul_comm];exact hz
  wp_walk using wpAny_loadPart' hl,wpAny_typeOf hT
  refine wpAny_ite_false (decide_eq_false (Nat.not_lt.mpr hf)) ?_
  wp_walk
  exact⟨_,rfl,h⟩
def yg(K:PySem.W.Frag):R2:=fun x y H Q=>∃l k xs,x=.ref l∧y=.int k∧cR K H l xs∧1≤k∧k < 1000000∧xs≠[]∧xs.length * k.toNat≤sizeLine∧
 (k=1→Q (.ref l) H)∧∀p,H p=none→Q (.ref p) (upd H p (.tup (List.replicate k.toNat xs).flatten))
section
variable {X:Cx}
theorem zF:dw X (binaryOp .Mult) (yg X.K):=by
 intro pins s σ H x y v u Q I rx ry h
 obtain⟨l,k,xs,rfl,rfl,hH,h1,h2,hx,hz,q1,q⟩:=h
 cases rx
 obtain⟨t,rfl⟩:=ry
 obtain⟨its,r,p,hl⟩:=I.tuple hH
 obtain⟨⟨cls,dd,data,sl⟩,ho,hc,n,hd⟩:=id p
 simp only at hc hd
 subst hc hd
 have hlen:its.toArray.size * k.toNat≤sizeLine:=by rw [List.size_toArray,←r.length];exact hz
 refine wpAny_binaryOp_repeat_ref (T:="tuple") (U:="int") (by decide) ⟨_,ho,rfl⟩ (fun s'=>typeIs_int s' k t) kE F.fills_int_mul F.slot_int_rmul qD F.slot_int_index.lookup
  (call_meets F.slot_int_rmul (typeIs_int s k t) F.entry_int_rmul (F.args_int_rmul_2 _ _) (mP k t l its.toArray n dd sl) ⟨ho,rfl,⟨_,ho,rfl⟩,?_⟩)
 by_cases hk:k=1
 ·subst hk
  exact call_meets F.slot_tuple_mul ⟨_,ho,rfl⟩ F.entry_tuple_mul (F.args_tuple_mul_2 _ _) (uB l its.toArray n dd sl t) ⟨ho,.ref l,H,I,rfl,q1 rfl⟩
 ·have hne:its.toArray.isEmpty=false:=by
   cases its with
   | nil=>exact absurd (r.nil_iff.mp rfl) hx
   | cons a b=>rfl
  refine call_meets F.slot_tuple_mul ⟨_,ho,rfl⟩ F.entry_tuple_mul (F.args_tuple_mul_2 _ _) (uC l its.toArray n dd sl k t (by omega) h2 hne hlen) ⟨ho,?_⟩
  have hnew:List.foldl (fun x1 x2=>x1++x2) #[] (List.replicate k.toNat its.toArray)=(List.replicate k.toNat its).flatten.toArray:=by
   have:=kz its k.toNat []
   rw [List.nil_append]at this
   exact this
  refine⟨.ref s.heap.objs.size,_,I.laid (t':=s.toks) (o:=.tup (List.replicate k.toNat xs).flatten) (fun b ob q=>Heap.get?_push_of_some _ q) (Nat.le_refl _) ?_,rfl,q _ (I.hok.fresh (Nat.le_refl _))⟩
  rw [hnew]
  exact⟨by rw [p9,Nat.mul_comm];exact hz,_,r.rep k.toNat,IsTup.new _ _⟩
def h8(K:PySem.W.Frag):R2:=fun x y H Q=>u4 x y H Q∨yg K x y H Q
theorem A6(K:PySem.W.Frag)(h:X.K=K:=by rfl):dw X (binaryOp .Mult) (h8 K):=h▸opMul.or zF
theorem se{K:PySem.W.Frag}{i j:Int}{H:Hp}{Q:VK}:h8 K (.int i) (.int j) H Q↔IntMulOk i j∧Q (.int (i * j)) H:=by
 simp [h8,yf,yg]
theorem xx(K:PySem.W.Frag):tu (h8 K)=h8 K:=zg fun _ _ _ _=>se
theorem zf{K:PySem.W.Frag}{x y:V}{H:Hp}{Q:VK}:tu (h8 K) x y H Q↔h8 K x y H Q:=by rw [xx]
theorem hG(K:PySem.W.Frag)(h:X.K=K:=by rfl):dw X (binaryOp .Mult) (tu (h8 K)):=by rw [xx];exact A6 K h
end
end L2
namespace L2
open PySem PySem.Spec PyProof.Rows
def lp(c:Nat):List Nat→List (List Nat)
 | []=>[[]]
 | a::l=>if a=c then []::lp c l else match lp c l with
  | []=>[[a]]
  | p::r=>(a::p)::r
theorem ui(c:Nat):∀l,lp c l≠[]
 | []=>by simp [lp]
 | a::l=>by
  simp only [lp]
  split
  ·simp
  ·split<;>simp
theorem u9(c:Nat):∀l,(lp c l).length≤l.length+1
 | []=>by simp [lp]
 | a::l=>by
  have h:=u9 c l
  simp only [lp]
  split
  ·simp;omega
  ·split
   ·simp
   ·rename_i p r e
    rw [e]at h
    simp at h ⊢
    omega
def du(c:Nat):List Nat→Nat→List Nat
 | [],_=>[]
 | b::l,i=>if b=c then i::du c l (i+1)else du c l (i+1)
theorem mY(x:Str)(c:Nat)(lim:Nat):∀(l:List Nat) (i:Nat) (acc:Array Nat) (fr:Nat),x.cps.toList.drop i=l→acc.size≤i→fr≤i→x.length < lim→
  (forIn (List.range' i (l.length+1)) (acc,fr) (StrLaws.occBody x ⟨#[c]⟩ x.length lim)).run.fst.toList=acc.toList++du c l i
 | [],i,acc,fr,hl,ha,hf,hm=>by
  have hi:x.length≤i:=by
   rw [bg]
   exact List.drop_eq_nil_iff.mp hl
  show(forIn [i] (acc,fr) _:Id _).run.fst.toList=_
  rw [List.forIn_cons]
  unfold StrLaws.occBody
  rw [if_neg (by intro h;have:=h.1.2;have e1:(⟨#[c]⟩:Str).length=1:=rfl;rw [e1]at this;omega)]
  show acc.toList=_
  simp [du]
 | b::l,i,acc,fr,hl,ha,hf,hm=>by
  have hb:x.cps.toList[i]?=some b:=by
   have:(x.cps.toList.drop i)[0]?=some b:=by rw [hl];rfl
   rwa [List.getElem?_drop,Nat.add_zero]at this
  have hi:i < x.length:=by
   rw [bg]
   obtain⟨h,_⟩:=List.getElem?_eq_some_iff.mp hb
   exact h
  have hd:x.cps.toList.drop (i+1)=l:=by
   rw [←List.drop_drop,hl];rfl
  have e1:(⟨#[c]⟩:Str).length=1:=rfl
  show(forIn (i::List.range' (i+1) (l.length+1)) (acc,fr) _:Id _).run.fst.toList=_
  rw [List.forIn_cons]
  unfold StrLaws.occBody
  by_cases hc:b=c
  ·rw [if_pos ⟨⟨⟨by show acc.size < lim;omega,hf⟩,by rw [e1];omega⟩,((StrLaws.subAt_one x c i).mpr (by rw [hb,hc])).2⟩]
   show(forIn (List.range' (i+1) (l.length+1)) (acc.push i,i+1) (StrLaws.occBody x ⟨#[c]⟩ x.length lim):Id _).run.fst.toList=_
   rw [mY x c lim l (i+1) _ _ hd (by rw [Array.size_push];omega) (Nat.le_refl _) hm]
   simp [du,hc]
  ·rw [if_neg (fun h=>hc (by have:=(StrLaws.subAt_one x c i).mp ⟨h.1.2,h.2⟩;rw [hb]at this;exact Option.some.inj this))]
   show(forIn (List.range' (i+1) (l.length+1)) (acc,fr) (StrLaws.occBody x ⟨#[c]⟩ x.length lim):Id _).run.fst.toList=_
   rw [mY x c lim l (i+1) _ _ hd (by omega) (by omega) hm]
   simp [du,hc]
theorem zl(x:Str)(c:Nat):Builtin.Str.occurrences x ⟨#[c]⟩ 0 x.length (x.length+1)=du c x.cps.toList 0:=by
 rw [StrLaws.occ_eq]
 have e:x.length+1 - 0=x.cps.toList.length+1:=by rw [bg];rfl
 rw [e]
 have h:=mY x c (x.length+1) x.cps.toList 0 #[] 0 rfl (Nat.le_refl _) (Nat.le_refl _) (Nat.lt_succ_self _)
 rw [h]
 rfl
theorem iY(x:Str)(c:Nat):∀(l:List Nat) (a j:Nat),a≤j→x.cps.toList.drop j=l→j≤x.length→
  (StrLaws.partsFrom x 1 a (du c l j)).map (fun z=>z.cps.toList)=match lp c l with
   | []=>[]
   | p::r=>((x.cps.toList.drop a).take (j - a)++p)::r
 | [],a,j,haj,hl,hj=>by
  have hj':x.length≤j:=by rw [bg];exact List.drop_eq_nil_iff.mp hl
  have e:j=x.length:=by omega
  subst e
  simp [du,lp,StrLaws.partsFrom,StrLaws.strSub_toList]
 | b::l,a,j,haj,hl,hj=>by
  have hb:x.cps.toList[j]?=some b:=by
   have:(x.cps.toList.drop j)[0]?=some b:=by rw [hl];rfl
   rwa [List.getElem?_drop,Nat.add_zero]at this
  have hi:j < x.length:=by
   rw [bg]
   obtain⟨h,_⟩:=List.getElem?_eq_some_iff.mp hb
   exact h
  have hd:x.cps.toList.drop (j+1)=l:=by
   rw [←List.drop_drop,hl];rfl
  by_cases hc:b=c
  ·have ih:=iY x c l (j+1) (j+1) (Nat.le_refl _) hd hi
   simp only [du,hc,if_true,StrLaws.partsFrom,List.map_cons,lp,List.append_nil]
   rw [ih]
   cases hs:lp c l with
   | nil=>exact absurd hs (ui c l)
   | cons p r=>simp [StrLaws.strSub_toList]
  ·have ih:=iY x c l a (j+1) (by omega) hd hi
   simp only [du,hc,if_false,lp]
   rw [ih]
   cases hs:lp c l with
   | nil=>exact absurd hs (ui c l)
   | cons p r=>
    have ht:(x.cps.toList.drop a).take (j+1 - a)=(x.cps.toList.drop a).take (j - a)++[b]:=by
     have e1:j+1 - a=(j - a)+1:=by omega
     rw [e1,List.take_add_one,List.getElem?_drop]
     have e2:a+(j - a)=j:=by omega
     rw [e2,hb];rfl
    simp [ht]
theorem yt(c:Nat):∀{l:List Nat},du c l 0=[]→lp c l=[l]:=by
 have key:∀(l:List Nat) (i:Nat),du c l i=[]→lp c l=[l]:=by
  intro l
  induction l with
  | nil=>intro i _;rfl
  | cons a l ih=>
   intro i h
   simp only [du]at h
   split at h
   ·cases h
   ·rename_i hc
    simp only [lp,hc,if_false]
    rw [ih _ h]
 intro l h
 exact key l 0 h
theorem iA(x:Str){c:Nat}(hc:c < 256):(Txt.split x ⟨#[c]⟩).map (fun z=>z.cps.toList)=lp c x.cps.toList:=by
 unfold Txt.split
 have e1:(⟨#[c]⟩:Str).length=1:=rfl
 have ek:Builtin.Str.strKind ⟨#[c]⟩=1:=by simp [Builtin.Str.strKind,hc]
 have ek2:1≤Builtin.Str.strKind x:=by unfold Builtin.Str.strKind;split<;>(try split)<;>omega
 rw [e1,ek,decide_eq_false (show ¬Builtin.Str.strKind x < 1 by omega),Bool.or_false,zl]
 split
 ·rename_i h
  have h:x.length < 1:=by simpa using h
  have:x.cps.toList=[]:=by
   rw [bg]at h
   exact List.length_eq_zero_iff.mp (by omega)
  rw [List.map_cons,List.map_nil,this];rfl
 ·split
  ·rename_i h
   have h:du c x.cps.toList 0=[]:=by simpa using h
   rw [yt c h];rfl
  ·rw [StrLaws.partsBetween_eq,iY x c x.cps.toList 0 0 (Nat.le_refl _) rfl (Nat.zero_le _)]
   cases hs:lp c x.cps.toList with
   | nil=>exact absurd hs (ui c _)
   | cons p r=>simp
end L2
namespace L2
open PySem PySem.Spec PyProof.Rows
theorem lA:∀(tk:Nat) (xs:List Str),aW (xs.map V.str) (strsFrom tk xs)
 | _,[]=>.nil
 | tk,x::r=>.cons ⟨tk,rfl⟩ (lA (tk+1) r)
theorem pM:∀{xs:List Str} {us:List Value},aW (xs.map V.str) us→StrsAre us xs
 | [],_,.nil=>.nil
 | x::r,_,.cons ⟨t,e⟩ q=>by subst e;exact .cons x t (pM q)
section
variable {X:Cx}
theorem g9:wB X "str.split" (fun x xs H Q=>∃z c,x=.str z∧xs=[.str ⟨#[c]⟩]∧c < 256∧z.length < sizeLine∧∀p,H p=none→Q (.ref p) (upd H p (.lst ((Txt.split z ⟨#[c]⟩).map V.str)))):=by
 intro pins s σ H x xs v us Q I rx r h
 obtain⟨z,c,rfl,rfl,hc,hz,q⟩:=h
 obtain⟨t,rfl⟩:=rx
 obtain⟨u,rfl,t',rfl⟩:=d0 r
 have hs:sizeLine=16777216:=sizeLine_eq
 have hlen:(Txt.split z ⟨#[c]⟩).length≤sizeLine:=by
  have h1:(Txt.split z ⟨#[c]⟩).length=(lp c z.cps.toList).length:=by rw [←iA z hc,List.length_map]
  have h2:=u9 c z.cps.toList
  rw [←bg]at h2
  omega
 have fin:∀(its:List Value) (tk:Nat),aW ((Txt.split z ⟨#[c]⟩).map V.str) its→EP X pins σ Q (.ref s.heap.objs.size) { s with toks:=tk,heap:=s.heap.push { cls:=.type "list",data:=.seq its.toArray } }:=fun its tk rv=>
  ⟨.ref s.heap.objs.size,_,I.laid (t':=tk) (o:=.lst ((Txt.split z ⟨#[c]⟩).map V.str)) (fun b ob q=>Heap.get?_push_of_some _ q) (Nat.le_refl _) ⟨by rw [List.length_map];exact hlen,its,0,rv,Heap.get?_push_size _ rfl⟩,rfl,q _ (I.hok.fresh (Nat.le_refl _))⟩
 cases h1:(decide (z.length < (⟨#[c]⟩:Str).length) || decide (Builtin.Str.strKind z < Builtin.Str.strKind ⟨#[c]⟩))with
 | true=>
  have e:Txt.split z ⟨#[c]⟩=[z]:=by unfold Txt.split;rw [if_pos h1]
  rw [e]at fin
  exact call_meets F.slot_str_split (typeIs_str _ _ _) F.entry_str_split (F.args_str_split_2 _ _) (meets_str_split_cannot_occur z ⟨#[c]⟩ t t' h1) (fin _ s.toks (.cons ⟨t,rfl⟩ .nil))
 | false=>
  cases hf:(Builtin.Str.occurrences z ⟨#[c]⟩ 0 z.length (z.length+1)).isEmpty with
  | true=>
   have e:Txt.split z ⟨#[c]⟩=[z]:=by unfold Txt.split;rw [if_neg (by rw [h1];exact Bool.false_ne_true),if_pos hf]
   rw [e]at fin
   exact call_meets F.slot_str_split (typeIs_str _ _ _) F.entry_str_split (F.args_str_split_2 _ _) (meets_str_split_not_found z ⟨#[c]⟩ t t' h1 rfl hf) (fin _ s.toks (.cons ⟨t,rfl⟩ .nil))
  | false=>
   have e:Txt.split z ⟨#[c]⟩=Builtin.Str.partsBetween z (Builtin.Str.occurrences z ⟨#[c]⟩ 0 z.length (z.length+1)) (⟨#[c]⟩:Str).length:=by
    unfold Txt.split;rw [if_neg (by rw [h1];exact Bool.false_ne_true),if_neg (by rw [hf];exact Bool.false_ne_true)]
   rw [e]at fin hlen
   exact call_meets F.slot_str_split (typeIs_str _ _ _) F.entry_str_split (F.args_str_split_2 _ _) (meets_str_split_sep z ⟨#[c]⟩ t t' h1 rfl hf (Nat.le_of_lt hz) hlen) (fin _ _ (lA _ _))
theorem zj:wB X "str.join" (fun x xs H Q=>∃z p ys,x=.str z∧xs=[.ref p]∧aO X.K H p (ys.map V.str)∧(ys.map (·.length)).sum+ys.length * z.length≤16777216∧Q (.str (Txt.join z ys)) H):=by
 intro pins s σ H x xs v us Q I rx r h
 obtain⟨z,p,ys,rfl,rfl,hq,hok,q⟩:=h
 obtain⟨t,rfl⟩:=rx
 obtain⟨u,rfl,ru⟩:=d0 r
 cases ru
 obtain⟨its,rv,pl,hz⟩:=I.list hq
 exact join_list pl.isList (pM rv) hok fun t' k=>⟨.str _,H,I.tok _,⟨t',rfl⟩,q⟩
theorem rL(K:PySem.W.Frag)(h:X.K=K:=by rfl):wB X "str.join" (fun x xs H Q=>∃z p ys,x=.str z∧xs=[.ref p]∧aO K H p (ys.map V.str)∧(ys.map (·.length)).sum+ys.length * z.length≤16777216∧Q (.str (Txt.join z ys)) H):=h▸zj
end
end L2
namespace L2
open PySem PySem.Spec PyProof.Rows
def rq(l:List Nat):Bool:=l.all fun c=>decide (c∈[48,49,50,51,52,53,54,55,56,57])
def gc(w:List Nat):List Nat:=if w.head?=some 45 then w.tail else w
def rD(w:List Nat):Bool:=decide (1≤(gc w).length) && (decide ((gc w).length≤40) && (rq (gc w) && (decide ((gc w).head?≠some 48) || decide (w=[48]))))
theorem tp(w:List Nat):rD w=(if gc w=[]∨40 < (gc w).length then false else if rq (gc w)=false then false else(decide ((gc w).head?≠some 48) || decide (w=[48]))):=by
 unfold rD
 split
 ·rename_i h
  rcases h with h | h
  ·rw [h];rfl
  ·have:¬(gc w).length≤40:=by omega
   simp [this]
 ·rename_i h
  have h1:1≤(gc w).length:=by
   cases e:gc w with
   | nil=>exact absurd (Or.inl e) h
   | cons a b=>simp
  have h2:(gc w).length≤40:=by
   have:¬40 < (gc w).length:=fun z=>h (Or.inr z)
   omega
  simp only [h1,h2,decide_true,Bool.true_and]
  split
  ·rename_i h3;rw [h3];rfl
  ·rename_i h3
   have h3:rq (gc w)=true:=by simpa using h3
   rw [h3];rfl
def gq(n:Int):List Nat:=(Str.ofString (toString n)).cps.toList
def dg(m:Nat):List Nat:=(Nat.toDigits 10 m).map Char.toNat
theorem jJ(m:Nat):gq (m:Int)=dg m:=PySem.W.KIN.signs_num m
theorem jK(k:Nat):gq (-((k+1:Nat):Int))=45::dg (k+1):=by
 have e:toString (-((k+1:Nat):Int))="-" ++ toString (k+1):=rfl
 have h:=PySem.W.KIN.signs_num (k+1)
 unfold gq dg
 rw [←h,e]
 have e2:toString (((k+1:Nat):Nat):Int)=toString (k+1):=rfl
 rw [e2]
 simp only [PyProof.Rows.signs_ofString,String.toList_append]
 rfl
theorem ky(m:Nat):∀c∈dg m,48≤c∧c≤57:=by
 intro c hc
 obtain⟨ch,hch,e⟩:=List.mem_map.mp hc
 have r:=PyProof.Rows.digit_range (Nat.isDigit_of_mem_toDigits (by decide) (by decide) hch)
 rw [←e]
 exact r
theorem rn(m:Nat):dg m≠[]:=by
 intro e
 have h:=toDigits_len_ge 10 m
 rw [List.map_eq_nil_iff.mp e]at h
 exact absurd h (by decide)
theorem rp{m:Nat}(h:m < 10):dg m=[m+48]:=by
 unfold dg
 rw [Nat.toDigits_of_lt_base h]
 have:∀m,m < 10→(Nat.digitChar m).toNat=m+48:=by decide
 show [(Nat.digitChar m).toNat]=_
 rw [this m h]
theorem AJ{m:Nat}(h:¬m < 10):dg m=dg (m / 10)++[m % 10+48]:=by
 have hm:m % 10 < 10:=Nat.mod_lt m (by decide)
 have t:Nat.toDigits 10 (m / 10)++Nat.toDigits 10 (m % 10)=Nat.toDigits 10 (10 * (m / 10)+m % 10):=Nat.toDigits_append_toDigits (by decide) (by omega) hm
 rw [Nat.div_add_mod]at t
 rw [←rp hm]
 unfold dg
 rw [←t,List.map_append]
theorem y0(m:Nat)(h0:0 < m):(dg m).head?≠some 48:=by
 induction m using Nat.strongRecOn with
 | _ m ih=>
  by_cases h:m < 10
  ·rw [rp h]
   simp
   omega
  ·rw [AJ h]
   have:=ih (m / 10) (by omega) (by omega)
   cases hd:dg (m / 10)with
   | nil=>exact absurd hd (rn _)
   | cons a l=>rw [hd]at this;exact this
theorem sS{k m:Nat}(hk:1≤k)(hm:m < 10 ^ k):(dg m).length≤k:=by
 unfold dg
 rw [List.length_map]
 exact digits10_le hk hm
theorem mX(n:Int):∀c∈gq n,c=45∨(48≤c∧c≤57):=by
 intro c hc
 rcases Int.lt_or_le n 0 with h | h
 ·obtain⟨k,rfl⟩:∃k:Nat,n = -((k+1:Nat):Int):=⟨n.natAbs - 1,by omega⟩
  rw [jK]at hc
  rcases List.mem_cons.mp hc with e | e
  ·exact .inl e
  ·exact .inr (ky _ c e)
 ·obtain⟨m,rfl⟩:=Int.eq_ofNat_of_zero_le h
  rw [jJ]at hc
  exact .inr (ky _ c hc)
theorem y2(m:Nat):rq (dg m)=true:=by
 unfold rq
 rw [List.all_eq_true]
 intro c hc
 obtain⟨h1,h2⟩:=ky m c hc
 have:c=48∨c=49∨c=50∨c=51∨c=52∨c=53∨c=54∨c=55∨c=56∨c=57:=by omega
 simpa using this
theorem vE(n:Int):gc (gq n)=dg n.natAbs:=by
 rcases Int.lt_or_le n 0 with h | h
 ·obtain⟨k,rfl⟩:∃k:Nat,n = -((k+1:Nat):Int):=⟨n.natAbs - 1,by omega⟩
  rw [jK]
  have e:(-((k+1:Nat):Int)).natAbs=k+1:=by omega
  rw [e]
  rfl
 ·obtain⟨m,rfl⟩:=Int.eq_ofNat_of_zero_le h
  rw [jJ]
  unfold gc
  rw [if_neg]
  ·rfl
  ·intro e
   cases hd:dg m with
   | nil=>exact absurd hd (rn _)
   | cons a l=>
    rw [hd]at e
    have:a=45:=by simpa using e
    have:=ky m a (by rw [hd];exact List.mem_cons_self)
    omega
theorem kA{n:Int}(h:n.natAbs < 10 ^ 40):rD (gq n)=true:=by
 have hl:(dg n.natAbs).length≤40:=sS (by decide) h
 have hl0:1≤(dg n.natAbs).length:=by
  cases hd:dg n.natAbs with
  | nil=>exact absurd hd (rn _)
  | cons a l=>simp
 unfold rD
 rw [vE,y2,decide_eq_true hl,decide_eq_true hl0]
 by_cases h0:n=0
 ·subst h0
  decide +kernel
 ·rw [decide_eq_true (y0 n.natAbs (by omega))]
  rfl
theorem fu{n:Int}{k:Nat}(hk:1≤k)(h:n.natAbs < 10 ^ k):(gq n).length≤k+1:=by
 rcases Int.lt_or_le n 0 with h1 | h1
 ·obtain⟨j,rfl⟩:∃k:Nat,n = -((k+1:Nat):Int):=⟨n.natAbs - 1,by omega⟩
  have e:(-((j+1:Nat):Int)).natAbs=j+1:=by omega
  rw [e]at h
  rw [jK,List.length_cons]
  have:=sS hk h
  omega
 ·obtain⟨m,rfl⟩:=Int.eq_ofNat_of_zero_le h1
  rw [jJ]
  have:=sS hk (show m < 10 ^ k from h)
  omega
theorem l7{n:Int}(h:n.natAbs < 10 ^ 600):intText? (Str.ofString (toString n))=some n:=by
 have hl:=fu (by decide) h
 have hl2:(Str.ofString (toString n)).length≤4300:=by rw [bg];exact Nat.le_trans hl (by decide)
 rcases Int.lt_or_le n 0 with h1 | h1
 ·obtain⟨k,rfl⟩:∃k:Nat,n = -((k+1:Nat):Int):=⟨n.natAbs - 1,by omega⟩
  rw [PySem.intText_neg (cs:=dg (k+1)) (jK k) (ky _) (rn _) hl2]
  have:=PySem.W.KIN.val_back (k+1)
  unfold dg
  rw [this]
 ·obtain⟨m,rfl⟩:=Int.eq_ofNat_of_zero_le h1
  have e:(Str.ofString (toString ((m:Nat):Int))).cps.toList=dg m:=jJ m
  rw [PySem.intText_digits (by rw [e];exact ky _) (by rw [e];exact rn _) hl2,e]
  have:=PySem.W.KIN.val_back m
  unfold dg
  rw [this]
def cX(c:Nat):List (List Nat)→List Nat
 | []=>[]
 | p::r=>p++(r.map (c::·)).flatten
theorem pk(c:Nat):∀(l:List Str) (a:Array Nat),(l.foldl (fun acc p=>acc++(⟨#[c]⟩:Str).cps++p.cps) a).toList=a.toList++(l.map (fun p=>c::p.cps.toList)).flatten
 | [],a=>by simp
 | p::l,a=>by
  rw [List.foldl_cons,pk c l]
  simp
theorem cT(c:Nat)(ys:List Str):(Txt.join ⟨#[c]⟩ ys).cps.toList=cX c (ys.map fun z=>z.cps.toList):=by
 unfold Txt.join Builtin.Str.glued
 cases ys with
 | nil=>rfl
 | cons p r=>
  show(r.foldl (fun acc p=>acc++(⟨#[c]⟩:Str).cps++p.cps) p.cps).toList=_
  rw [pk]
  simp [cX,Function.comp_def]
theorem u7(c:Nat):∀(p:List Nat) (l:List Nat),c∉p→lp c (p++c::l)=p::lp c l
 | [],l,_=>by simp [lp]
 | a::p,l,h=>by
  have h1:a≠c:=fun e=>h (by rw [e];exact List.mem_cons_self)
  have h2:c∉p:=fun e=>h (List.mem_cons_of_mem _ e)
  rw [List.cons_append]
  simp only [lp,h1,if_false]
  rw [u7 c p l h2]
theorem sy(c:Nat):∀(p:List Nat),c∉p→lp c p=[p]
 | [],_=>rfl
 | a::p,h=>by
  have h1:a≠c:=fun e=>h (by rw [e];exact List.mem_cons_self)
  have h2:c∉p:=fun e=>h (List.mem_cons_of_mem _ e)
  simp only [lp,h1,if_false]
  rw [sy c p h2]
theorem nN(c:Nat):∀(ps:List (List Nat)),ps≠[]→(∀p∈ps,c∉p)→lp c (cX c ps)=ps
 | [],h,_=>absurd rfl h
 | [p],_,h=>by
  simp [cX]
  exact sy c p (h p List.mem_cons_self)
 | p::q::r,_,h=>by
  have ih:=nN c (q::r) (by simp) (fun x hx=>h x (List.mem_cons_of_mem _ hx))
  have e:cX c (p::q::r)=p++c::cX c (q::r):=by simp [cX]
  rw [e,u7 c p _ (h p List.mem_cons_self),ih]
end L2
namespace L3
open PySem PySem.Spec PyProof.Rows
theorem g7(l:Bool)(a:Addr)(xs:Array Value):
  Meets (Builtin.«enumerate.__new__» ⟨[.type "enumerate",.ref a],[]⟩) (fun _ R s=>IsSeq l s.heap a xs∧
   R (.ok (.ret (.ref (s.heap.push (itRec l a)).objs.size))) { s with heap:=(s.heap.push (itRec l a)).push { cls:=.type "enumerate",data:=.fields #[.none,.bool false,.ref s.heap.objs.size,rawInt 0,.none,.none] } }):=
 .of_wp fun prog w A R s h=>by
  obtain⟨hp,g,d,tk,os⟩:=s;obtain⟨q1,h⟩:=h
  have hsub:=sub_enumerate
  have u1:IsSeq l (Shared.heap ⟨hp,g,d,tk,os⟩) a xs:=q1
  have tl:∃o,hp.get? a=some o:=by
   cases l
   ·obtain⟨o,e,_⟩:=(show hp.IsTuple a xs from q1);exact⟨o,e⟩
   ·obtain⟨o,e,_⟩:=(show hp.IsList a xs from q1);exact⟨o,e⟩
  obtain⟨ob,hl⟩:=tl
  obtain⟨c,dct,dt,sl⟩:=ob
  wp_walk using AutoSeq1.wpAny_loadPart' hl
  refine wpAny_stack_any fun st=>wpAny_pure ?_
  split
  ·rename_i c _ _ _ _ _
   cases(c == Value.type "enumerate")
   ·wp_walk using AutoSeq1.wpAny_loadPart' hl,mR u1
    exact⟨_,rfl,h⟩
   ·wp_walk using AutoSeq1.wpAny_loadPart' hl,mR u1
    exact⟨_,rfl,h⟩
  ·wp_walk using AutoSeq1.wpAny_loadPart' hl,mR u1
   exact⟨_,rfl,h⟩
section
variable {prog:Program} {w:World} {A:Around} {E:Value→Shared→Prop} {s:Shared}
theorem call_enumerateB{l:Bool}{a:Addr}{xs:Array Value}{Q:Value→Shared→Prop}(hL:IsSeq l s.heap a xs)
  (h:∀h',IsEnum h' (s.heap.objs.size+1) s.heap.objs.size 0 .none→h'.get? s.heap.objs.size=some (itRec l a)→h'.objs.size=s.heap.objs.size+2→
   (∀b o,s.heap.get? b=some o→h'.get? b=some o)→Q (.ref (s.heap.objs.size+1)) { s with heap:=h' }) :
  wpAny (model prog w) A (call (.type "enumerate") [.ref a]) Q E s:=by
 refine callType_new F.called_enumerate (by decide) (F.typeCall_enumerate_1 _) (F.newCall_enumerate_1 _) (fun obj=>F.args_object_init_2 obj _) F.entry_enumerate_new
  (g7 l a xs) ⟨hL,?_⟩
 have hz:(s.heap.push (itRec l a)).objs.size=s.heap.objs.size+1:=Heap.size_push ..
 show _∧_
 rw [hz]
 have he:IsEnum ((s.heap.push (itRec l a)).push
   { cls:=.type "enumerate",data:=.fields #[.none,.bool false,.ref s.heap.objs.size,rawInt 0,.none,.none] }) (s.heap.objs.size+1) s.heap.objs.size 0 .none:=by
  have:=Heap.get?_push_size (s.heap.push (itRec l a))
   (o:={ cls:=.type "enumerate",data:=.fields #[.none,.bool false,.ref s.heap.objs.size,rawInt 0,.none,.none] }) rfl
  rw [hz]at this;exact this
 refine⟨⟨_,he,rfl⟩,h _ he (Heap.get?_push_of_some _ (Heap.get?_push_size _ rfl)) (by rw [Heap.size_push,hz]) fun b o x=>Heap.get?_push_of_some _ (Heap.get?_push_of_some _ x)⟩
end
end L3
namespace L2
open PySem PySem.Spec PyProof.Rows
def Cy(K:PySem.W.Frag)(l:Bool)(a:Addr):It:=
 ⟨fun i H=>∃xs x,g4 K l H a xs∧xs[i]?=some x,
  fun i H v H'=>∃p x,v=.ref p∧H p=none∧H'=upd H p (.tup [.int i,x])∧∀xs,g4 K l H a xs→xs[i]?=some x,
  fun i H=>∃xs,g4 K l H a xs∧i=xs.length⟩
theorem uD{P:Program}{w:World}{K:PySem.W.Frag}{elts:List Expr}{kt:Nat}{pt:Pos}(l:Bool)(a z it:Addr)(nd:z≠it):
  sO P w K (.Tuple elts kt pt) (Cy K l a) [z,it] z (fun i h=>(∃old,IsEnum h z it ((i:Nat):Int) old)∧nW l h it a i):=by
 refine⟨by simp,?_,?_,?_,?_,?_⟩
 ·rintro i h ⟨⟨old,qz⟩,u⟩ c hc
  have hc':c=z∨c=it:=by simpa using hc
  rcases hc' with e | e
  ·subst e;exact⟨_,qz,fun v q=>by cases q⟩
  ·subst e
   exact u.obj
 ·rintro i h h' ⟨⟨old,qz⟩,u⟩ k
  exact⟨⟨old,k z (by simp) _ qz⟩,u.at fun o e=>k it (by simp) o e⟩
 ·rintro X hP hw hK hc i pins s σ H E I hf ⟨⟨old,qz⟩,u⟩ ⟨xs,x,q1,hx⟩
  subst hP hw hK
  have hh:X.A.in1.handled=none:=I.ok.hd hc
  obtain⟨its,r1,p1,z1⟩:=I.seqB q1
  have na:a≠it:=I.seqB_ne q1 (hf it (by simp))
  have nz:a≠z:=I.seqB_ne q1 (hf z (by simp))
  have lx:i < its.toArray.size:=by
   have:=(List.getElem?_eq_some_iff.mp hx).1
   rw [List.size_toArray,←r1.length];exact this
  have hef:z∉[it,a]:=by
   simp only [List.mem_cons,List.not_mem_nil,or_false,not_or]
   exact⟨nd,nz.symm⟩
  refine wpAny_pyNext_enum_itemD (ph (P:=X.prog) (w:=X.w) hh l it a na its.toArray) qz ⟨u,p1⟩ lx nd hef fun v h' tk ev z' s' pr sz kk=>?_
  obtain⟨w1,g1,rx⟩:=r1.get hx
  have ev1:v=w1:=by
   have:its[i]?=some v:=by simpa using ev
   rw [g1]at this;exact(Option.some.inj this).symm
  subst ev1
  refine⟨_,rfl,wpAny_letOwnedTupleGo_enum (s:={ s with heap:=h',toks:=tk+1 }) z' fun h2 z2 sb=>?_⟩
  have fz:s.heap.objs.size≠z:=Nat.ne_of_gt (Heap.lt_size qz)
  have Hn:H s.heap.objs.size=none:=I.hok.fresh (Nat.le_refl _)
  have kp:∀c o,c∉[z,it]→s.heap.get? c=some o→h2.get? c=some o:=fun c o hc e=>by
   have hc':c≠z∧c≠it:=by simpa [not_or]using hc
   exact(sb.2 c hc'.1).trans (kk c o hc'.1 hc'.2 e)
  have nf:∀{c:Addr} {u:HO},H c=some u→c∉[z,it]:=fun {c u} e hc=>by
   have:=(hf c hc).1
   rw [e]at this;cases this
  have pr2:h2.get? s.heap.objs.size=some { cls:=.type "tuple",data:=.seq #[.int i tk,v] }:=(sb.2 _ fz).trans pr
  have I2:aU X pins σ (upd H s.heap.objs.size (.tup [.int i,x])) { s with heap:=h2,toks:=tk+1 }:=by
   refine I.step (g':=s.gens) (d':=s.drawn) (ch:=[z,it]) (fun c hc=>⟨(hf c hc).2.2.2.1,(hf c hc).2.1,(hf c hc).2.2.2.2.1,(hf c hc).2.2.2.2.2⟩) (fun c o _ _ hc e _=>kp c o hc e) (fun c o _ _ hc e _=>⟨o.slots,kp c o hc e⟩)
    (fun c o _ e n=>by rw [aj (Nat.ne_of_lt (Heap.lt_size e))];exact n) (fun c o hc e=>⟨o,kp c o hc e⟩) (fun c us e=>by rw [aj (ay e Hn)];exact e) (fun c o u e=>by rw [aj (ay e Hn)];exact e)
    (fun c ps e=>⟨#[],by rw [aj (ay e Hn),e];simp⟩) (fun m hm=>?_) (fun c u e=>?_) I.bare
   ·obtain⟨o,es,ep,ho,r⟩:=hm
    exact⟨o,es,ep,kp _ o (fun q=>(hf _ q).2.1 rfl) ho,r⟩
   ·by_cases hcs:c=s.heap.objs.size
    ·subst hcs
     rw [ab]at e
     cases e
     exact⟨by rw [sizeLine_eq];show 2≤16777216;omega,[.int i tk,v],.cons ⟨_,rfl⟩ (.cons rx .nil),_,pr2,rfl,_,rfl⟩
    ·rw [aj hcs]at e
     refine(I.hok c u e).stay (fun d o hd q=>kp d o ?_ q) (fun d q=>by rw [aj (ay q Hn)];exact q) fun d us q=>by rw [aj (ay q Hn)];exact q
     rcases hd with hd | hd
     ·rw [hd];exact nf e
     ·exact nf hd
  refine⟨.ref s.heap.objs.size,_,I2,rfl,⟨_,x,rfl,Hn,rfl,fun us hu=>by rw [I.seqB_inj hu q1];exact hx⟩,⟨⟨v,?_⟩,?_⟩,fun c hc=>?_⟩
  ·have e:(((i+1:Nat)):Int)=(i:Int)+1:=by omega
   rw [e];exact z2
  ·exact s'.1.at fun o e=>(sb.2 _ nd.symm).trans e
  ·show upd H s.heap.objs.size (.tup [.int i,x]) c=none
   have lt:c < s.heap.objs.size:=by
    have hc':c=z∨c=it:=by simpa using hc
    rcases hc' with e | e
    ·subst e;exact Heap.lt_size qz
    ·subst e;obtain⟨o,e,_⟩:=u.obj;exact Heap.lt_size e
   rw [aj (Nat.ne_of_lt lt)]
   exact(hf c hc).1
 ·rintro X hP hw hK hc i pins s σ H E I hf ⟨⟨old,qz⟩,u⟩ ⟨xs,q1,hend⟩
  subst hP hw hK
  have hh:X.A.in1.handled=none:=I.ok.hd hc
  obtain⟨its,r1,p1,z1⟩:=I.seqB q1
  have na:a≠it:=I.seqB_ne q1 (hf it (by simp))
  have ei:i=its.toArray.size:=by rw [List.size_toArray,←r1.length];exact hend
  subst ei
  obtain⟨f0,f1,f2,f3,f4,f5⟩:=hf it (by simp)
  exact wpAny_pyNext_enum_endD (ph (P:=X.prog) (w:=X.w) hh l it a na its.toArray) qz ⟨u,p1⟩ fun h' k=>⟨rfl,I.turned (t':=s.toks) (fun b o hb e=>k b o hb e) f0 f1 f3 f4 f5⟩
 ·rintro A i s Q E ⟨⟨old,qz⟩,_⟩ h
  exact wpAny_pyIter_enum qz h
def xl(K:PySem.W.Frag)(ta:TA):TI:=fun σ H R=>ta σ H fun vs H1=>∃a,vs=[.ref a]∧∃l,(∃xs,g4 K l H1 a xs)∧R (Cy K l a) H1
theorem h7{X:Cx}{elts:List Expr}{kt:Nat}{pt:Pos}{a:Expr}{ta:TA}{p pos:Pos}(hg:Gl X "enumerate")(hm:X.mg "enumerate"=none)(ha:PA X [a] ta)(hs:starEach [a] X.env=[(false,eval a X.env)]:=by rfl):
  PI X (.Tuple elts kt pt) (.Call (.Name "enumerate" p) [a] [] pos) (xl X.K ta):=by
 intro pins s σ H R I h
 refine Call_ (fq I hg hm boot_enumerate (PyProof.Rows.callWith_type1 (cL (ha pos pins s σ H _ I h) fun us s1 ⟨vs,H1,I1,r1,q1⟩=>?_) hs rfl))
 obtain⟨a1,e,l,⟨xs,q1⟩,q⟩:=q1
 subst e
 obtain⟨u,rfl,e1⟩:=d0 r1
 cases e1
 obtain⟨its1,r1,p1,z1⟩:=I1.seqB q1
 refine L3.call_enumerateB p1 fun h' qz qI sz kp=>wpAny_pyIter_enum qz ?_
 refine⟨s1.heap.objs.size+1,[s1.heap.objs.size+1,s1.heap.objs.size],_,_,H1,rfl,I1.kept (h':=h') (t':=s1.toks) kp,uD l a1 _ _ (Nat.succ_ne_self _),⟨⟨_,qz⟩,nW.rec qI⟩,fun c hc=>?_,q⟩
 have hc':s1.heap.objs.size≤c:=by
  have:c=s1.heap.objs.size+1∨c=s1.heap.objs.size:=by simpa using hc
  rcases this with e | e<;>(rw [e];first | exact Nat.le_refl _ | exact Nat.le_add_right _ _)
 exact I1.fpOk hc' (I1.hok.fresh hc')
theorem iV{g:TG}{tb:TS}{D:gU}{σ:St}{H:Hp}{K:PySem.W.Frag}{l:Bool}{a:Addr}{us:List V}(Pv:Nat→St→Hp→Prop)(h0:Pv 0 σ H)(hl:∀i σ H,i≤us.length→Pv i σ H→g4 K l H a us)
  (hs:∀i x σ H p,us[i]?=some x→Pv i σ H→H p=none→g (.ref p) σ (upd H p (.tup [.int i,x])) fun σ2 H2=>tb { D with nx:=Pv (i+1),ct:=Pv (i+1),bk:=D.nx } σ2 H2) (hd:∀σ H,Pv us.length σ H→D.nx σ H):vf g tb D σ (Cy K l a) H:=by
 refine⟨fun i m σ H=>m=us.length - i∧i≤us.length∧Pv i σ H,⟨us.length,by simp,Nat.zero_le _,h0⟩,?_⟩
 rintro i m σ H ⟨rfl,hi,p⟩
 have q1:=hl i σ H hi p
 by_cases hlt:i < us.length
 ·refine .inr ⟨⟨us,us[i],q1,by simp [hlt]⟩,Pv (i+1),fun σ' H' p'=>⟨us.length - (i+1),by omega,rfl,hlt,p'⟩,fun x H' y=>?_⟩
  obtain⟨pp,u,e,hp,e2,y1⟩:=y
  subst e e2
  exact hs i u σ H pp (y1 us q1) p hp
 ·have e:i=us.length:=by omega
  subst e
  exact .inl ⟨⟨us,q1,rfl⟩,hd σ H p⟩
theorem lD{n:Nat}{js:List Nat}{g:TG}{tt:TT}{te:TE}{σ:St}{H:Hp}{F:List V→Hp→Prop}{K:PySem.W.Frag}{l:Bool}{a:Addr}{us:List V}(Pv:Nat→List V→Hp→Prop)(hk:us.length≤sizeLine)(h0:Pv 0 [] H)(hn:∀i ys H,Pv i ys H→ys.length≤i)(hl:∀i ys H,Pv i ys H→g4 K l H a us)
  (hs:∀i x ys H p,us[i]?=some x→Pv i ys H→H p=none→jC n js g tt te σ (.ref p) ys (upd H p (.tup [.int i,x])) (Pv (i+1))) (hd:∀ys H,Pv us.length ys H→F ys H):oV n js g tt te σ F (Cy K l a) H:=by
 refine⟨fun i m ys H=>m=us.length - i∧i≤us.length∧Pv i ys H,⟨us.length,by simp,Nat.zero_le _,h0⟩,?_⟩
 rintro i m ys H ⟨rfl,hi,p⟩
 have q1:=hl i ys H p
 by_cases hlt:i < us.length
 ·refine .inr ⟨⟨us,us[i],q1,by simp [hlt]⟩,Nat.lt_of_le_of_lt (hn i ys H p) (Nat.lt_of_lt_of_le hlt hk),Pv (i+1),fun σ' H' p'=>⟨us.length - (i+1),by omega,rfl,hlt,p'⟩,fun x H' y=>?_⟩
  obtain⟨pp,u,e,hp,e2,y1⟩:=y
  subst e e2
  exact hs i u ys H pp (y1 us q1) p hp
 ·have e:i=us.length:=by omega
  subst e
  exact .inl ⟨⟨us,q1,rfl⟩,hd ys H p⟩
structure pR(K:PySem.W.Frag)(x qual:Str)(st:Stmt)(f:Addr)(fd:FuncData)(T:Addr):Prop where
 ex:∃(oc:Value) (od:Option Addr) (kV doc pm:Value) (an:Option Addr) (cdv ct:Value) (osl:Array (Option Value)),
  fd=PySem.W.fnOf x qual (dh st) (cS st) (ao st) (.ref T) kV doc pm an cdv ct∧K.lookup f=some ⟨oc,od,.func fd,osl⟩∧PySem.W.codeIn K cdv qual=true
 kp:PySem.W.keepIn K (.ref f)=true
section
variable {P:Program} {w:World} {K:PySem.W.Frag} {mg:Str→Option Value} {base:Heap}
theorem pR.ok{x qual:Str}{st:Stmt}{f:Addr}{fd:FuncData}{T:Addr}{N ps:List Str}{k:Nat}{sp:Sp}(F:pR K x qual st f fd T)(S:aB N ps (ao st))(len:∀vs H Q E,sp vs H Q E→vs.length=ps.length)
  (hbody:∀(cdv:Value) (A:Around) (outer:List Env) (s:Shared) (H:Hp) (vs:List V) (Q:VK) (E:XK),dy k (A.deeper (envOfC qual (ao st) s.heap.objs.size f cdv))→sp vs H Q E→
   ∃t,uI (rm bY P w K mg base N qual (ao st) f cdv A outer s H E).nox (cS st) t∧t { nx:=fun _ H'=>Q .non H',rt:=Q } (start N vs) H):aP P w K mg base bY (k+1) f fd ps sp:=by
 obtain⟨oc,od,kV,doc,pm,an,cdv,ct,osl,rfl,lk,hcd⟩:=F.ex
 refine Ak lk hcd S len fun A outer s H vs Q E hr hsp=>?_
 obtain⟨t,h,q⟩:=hbody cdv A outer s H vs Q E hr hsp
 exact⟨t,h.nox,q⟩
end
structure ve(P:Program)(w:World)(K:PySem.W.Frag)(mg:Str→Option Value)(base:Heap)(x:Str)(k:Nat)(ps:List Str)(sp:Sp)(dvs:List V):Prop where
 ex:∃(f:Addr) (fd:FuncData) (ds:List Value),aP P w K mg base bY k f fd ps sp∧mg x=some (.ref f)∧PySem.W.keepIn K (.ref f)=true∧dO K fd ps ds∧aW dvs ds
theorem ve.up{P:Program}{w:World}{K:PySem.W.Frag}{mg:Str→Option Value}{base:Heap}{x:Str}{j k:Nat}{ps:List Str}{sp:Sp}{dvs:List V}(d:ve P w K mg base x j ps sp dvs)(h:j≤k):ve P w K mg base x k ps sp dvs:=
 let ⟨f,fd,ds,F,a,b,c,e⟩:=d.ex;⟨f,fd,ds,F.mono h,a,b,c,e⟩
section
variable {X:Cx} {k:Nat} {ps:List Str} {sp:Sp} {x:Str} {p pos:Pos} {e:Expr} {es:List Expr} {t:TA} {dvs:List V}
theorem zH(d:ve X.prog X.w X.K X.mg X.base x k ps sp dvs)(hr:dy k X.A)(hg:Gl X x)(ha:PA X (e::es) t)(hdb:(x == ("__debug__":Str))=false:=by decide)
  (he:starEach (e::es) X.env=(false,eval e X.env)::starEach es X.env:=by rfl) (hpl:(backTo pos (starEach es X.env)).any (·.1)=false:=by rfl):PE X (.Call (.Name x p) (e::es) [] pos) (pN sp dvs E0 t):=
 let ⟨_,_,_,F,hm,hk,hb,hd⟩:=d.ex;uX F hr hg hm hk hb hd nc ha hdb he hpl
end
structure wJ(K:PySem.W.Frag)(x:Str)(st:Stmt)(f:Addr)(fd:FuncData)(u:Value):Prop where
 ns:PySem.W.nsIn K mainGlobals x=some (some (.ref f))
 fn:∃(T:Addr) (o:Obj) (n:Nat),pR K x x st f fd T∧K.lookup T=some o∧o.data=.seq #[u] n
theorem pR.binds{K:PySem.W.Frag}{x qual:Str}{st:Stmt}{f T:Addr}{fd:FuncData}{ps:List Str}(F:pR K x qual st f fd T){o:Obj}{u:Value}{n:Nat}(t:K.lookup T=some o)(d:o.data=.seq #[u] n)
  (h:∀(kV doc pm:Value) (an:Option Addr) (cdv ct:Value) (us:List Value),us.length=ps.length→
   ∃k:Option (Array Value)→Sem (List (Str×Value)),bindArgs (PySem.W.fnOf x qual (dh st) (cS st) (ao st) (.ref T) kV doc pm an cdv ct) ⟨us,[]⟩=seqItems? (.ref T) >>= k∧k (some #[u])=pure (ps.zip us)):dO K fd ps []:=by
 obtain⟨oc,od,kV,doc,pm,an,cdv,ct,osl,rfl,lk,hcd⟩:=F.ex
 intro s us X hl
 rw [List.append_nil]at hl ⊢
 obtain⟨k,h1,h2⟩:=h kV doc pm an cdv ct us hl
 exact BindsTo.of_defaults (T:=T) rfl (X _ _ t) d h1 h2
theorem pR.bindsD{K:PySem.W.Frag}{x qual:Str}{st:Stmt}{f T:Addr}{fd:FuncData}{ps:List Str}(F:pR K x qual st f fd T){o:Obj}{u:Value}{n:Nat}(t:K.lookup T=some o)(d:o.data=.seq #[u] n)
  (h:∀(kV doc pm:Value) (an:Option Addr) (cdv ct:Value) (us:List Value),us.length+1=ps.length→
   ∃k:Option (Array Value)→Sem (List (Str×Value)),bindArgs (PySem.W.fnOf x qual (dh st) (cS st) (ao st) (.ref T) kV doc pm an cdv ct) ⟨us,[]⟩=seqItems? (.ref T) >>= k∧k (some #[u])=pure (ps.zip (us++[u]))):dO K fd ps [u]:=by
 obtain⟨oc,od,kV,doc,pm,an,cdv,ct,osl,rfl,lk,hcd⟩:=F.ex
 intro s us X hl
 obtain⟨k,h1,h2⟩:=h kV doc pm an cdv ct us (by rw [←hl,List.length_append];rfl)
 exact BindsTo.of_defaults (T:=T) rfl (X _ _ t) d h1 h2
end L2
namespace L2
open PySem PySem.Spec PyProof.Rows
def nU(K:PySem.W.Frag)(H:Hp):Nat→V→V→Bool→Prop
 | 0,x,y,b=>(fj x=true∧fj y=true∧b=wC x y)∨∃a,x=.ref a∧y=.ref a∧b=true
 | n+1,x,y,b=>nU K H 0 x y b∨∃(a c:Addr) (l:Bool) (xs ys:List V) (e:Nat→Bool),x=.ref a∧y=.ref c∧a≠c∧g4 K l H a xs∧g4 K l H c ys∧
   (∀j x y,xs[j]?=some x→ys[j]?=some y→nU K H n x y (e j))∧b=((List.range (min xs.length ys.length)).all e && xs.length == ys.length)
theorem nU.flat{K:PySem.W.Frag}{H:Hp}{n:Nat}{x y:V}(fx:fj x=true)(fy:fj y=true):nU K H n x y (wC x y):=by
 cases n
 ·unfold nU;exact .inl ⟨fx,fy,rfl⟩
 ·unfold nU;refine .inl ?_;unfold nU;exact .inl ⟨fx,fy,rfl⟩
theorem nU.same{K:PySem.W.Frag}{H:Hp}{n:Nat}{a:Addr}:nU K H n (.ref a) (.ref a) true:=by
 cases n
 ·unfold nU;exact .inr ⟨a,rfl,rfl,rfl⟩
 ·unfold nU;refine .inl ?_;unfold nU;exact .inr ⟨a,rfl,rfl,rfl⟩
section
variable {X:Cx} {pins:List (Addr×Obj)} {σ:St} {H:Hp} {s:Shared}
theorem gi{xs:List V}{us:List Value}(r:aW xs us){j:Nat}(h:j < us.toArray.size):∃x,xs[j]?=some x∧bh x us.toArray[j]:=by
 have l1:=r.length
 simp only [List.size_toArray]at h
 have hx:j < xs.length:=by omega
 obtain⟨u,e1,r1⟩:=aW.get r (i:=j) (x:=xs[j]) (by simp [hx])
 have g1:us.toArray[j]=u:=by simpa [h]using e1
 exact⟨xs[j],by simp [hx],by rw [g1];exact r1⟩
theorem yj{A:Around}{l:Bool}{a c:Addr}{xs ys:List V}{us vs:List Value}{e:Nat→Bool}(rx:aW xs us)(ry:aW ys vs)(p1:L3.IsSeq l s.heap a us.toArray)(p2:L3.IsSeq l s.heap c vs.toArray)(hu:A.units < cLine)
  (he:∀j (h1:j < us.toArray.size) (h2:j < vs.toArray.size),SeqAt.EqAt A.in1 s us.toArray[j] vs.toArray[j] (e j)):SeqAt.RcAt A s (.ref a) (.ref c) ((List.range (min xs.length ys.length)).all e && xs.length == ys.length):=by
 have s1:us.toArray.size=xs.length:=by rw [List.size_toArray,rx.length]
 have s2:vs.toArray.size=ys.length:=by rw [List.size_toArray,ry.length]
 cases l
 ·have:=SeqAt.RcAt.tuples (show s.heap.IsTuple a us.toArray from p1) (show s.heap.IsTuple c vs.toArray from p2) hu he
  rw [s1,s2]at this
  exact this
 ·by_cases hl:xs.length=ys.length
  ·have:=SeqAt.RcAt.lists (show s.heap.IsList a us.toArray from p1) (show s.heap.IsList c vs.toArray from p2) (by rw [s1,s2,hl]) hu he
   rw [s1]at this
   rw [hl,Nat.min_self,beq_self_eq_true,Bool.and_true,←hl]
   exact this
  ·have:=SeqAt.RcAt.lists_lengths (show s.heap.IsList a us.toArray from p1) (show s.heap.IsList c vs.toArray from p2) (by rw [s1,s2];simpa using hl) hu
   rw [show(xs.length == ys.length)=false by simpa using hl,Bool.and_false]
   exact this
theorem yk{A:Around}{l:Bool}{a c:Addr}{xs ys:List V}{us vs:List Value}{e:Nat→Bool}(rx:aW xs us)(ry:aW ys vs)(p1:L3.IsSeq l s.heap a us.toArray)(p2:L3.IsSeq l s.heap c vs.toArray)(hu:A.units < cLine)
  (he:∀j (h1:j < us.toArray.size) (h2:j < vs.toArray.size),SeqAt.EqAt A.in1 s us.toArray[j] vs.toArray[j] (e j)):SeqAt.RcNeAt A s (.ref a) (.ref c) (!((List.range (min xs.length ys.length)).all e && xs.length == ys.length)):=by
 have s1:us.toArray.size=xs.length:=by rw [List.size_toArray,rx.length]
 have s2:vs.toArray.size=ys.length:=by rw [List.size_toArray,ry.length]
 cases l
 ·have:=SeqAt.RcNeAt.tuples (show s.heap.IsTuple a us.toArray from p1) (show s.heap.IsTuple c vs.toArray from p2) hu he
  rw [s1,s2]at this
  exact this
 ·by_cases hl:xs.length=ys.length
  ·have:=SeqAt.RcNeAt.lists (show s.heap.IsList a us.toArray from p1) (show s.heap.IsList c vs.toArray from p2) (by rw [s1,s2,hl]) hu he
   rw [s1]at this
   rw [hl,Nat.min_self,beq_self_eq_true,Bool.and_true,←hl]
   exact this
  ·have:=SeqAt.RcNeAt.lists_lengths (show s.heap.IsList a us.toArray from p1) (show s.heap.IsList c vs.toArray from p2) (by rw [s1,s2];simpa using hl) hu
   rw [show(xs.length == ys.length)=false by simpa using hl,Bool.and_false]
   exact this
theorem nU.at(I:aU X pins σ H s):∀{n:Nat} {A:Around} {x y:V} {u v:Value} {b:Bool},A.units+n < cLine→bh x u→bh y v→nU X.K H n x y b→SeqAt.EqAt A s u v b:=by
 have z0:∀{A:Around} {x y:V} {u v:Value} {b:Bool},bh x u→bh y v→nU X.K H 0 x y b→SeqAt.EqAt A s u v b:=by
  intro A x y u v b rx ry h
  unfold nU at h
  rcases h with⟨fx,fy,rfl⟩ | ⟨a,rfl,rfl,rfl⟩
  ·exact xc rx ry fx fy
  ·cases rx;cases ry;exact SeqAt.EqAt.same _
 intro n
 induction n with
 | zero=>intro A x y u v b _ rx ry h;exact z0 rx ry h
 | succ n ih=>
  intro A x y u v b hu rx ry h
  unfold nU at h
  rcases h with h | ⟨a,c,l,xs,ys,e,rfl,rfl,ne,h1,h2,he,rfl⟩
  ·exact z0 rx ry h
  ·cases rx;cases ry
   obtain⟨us,r1,p1,_⟩:=I.seqB h1
   obtain⟨vs,r2,p2,_⟩:=I.seqB h2
   refine SeqAt.EqAt.of_refs ne (yj r1 r2 p1 p2 (by omega) fun j j1 j2=>?_)
   obtain⟨x,ex,rx⟩:=gi r1 j1
   obtain⟨y,ey,ry⟩:=gi r2 j2
   exact ih (A:=A.in1) (by show A.units+1+n < cLine;omega) rx ry (he j x y ex ey)
def wK(K:PySem.W.Frag)(H:Hp)(n:Nat)(x y:V)(b:Bool):Prop:=∃(a c:Addr) (l:Bool) (xs ys:List V) (e:Nat→Bool),x=.ref a∧y=.ref c∧g4 K l H a xs∧g4 K l H c ys∧
 (∀j x y,xs[j]?=some x→ys[j]?=some y→nU K H n x y (e j))∧b=((List.range (min xs.length ys.length)).all e && xs.length == ys.length)
theorem A7(n:Nat)(hu:X.A.units+n+1 < cLine):dw X (compareOp .Eq) (fun x y H Q=>∃b,wK X.K H n x y b∧Q (.bl b) H):=by
 intro pins s σ H x y v u Q I rx ry h
 obtain⟨b,⟨a,c,l,xs,ys,e,rfl,rfl,h1,h2,he,rfl⟩,q⟩:=h
 cases rx;cases ry
 obtain⟨us,r1,p1,_⟩:=I.seqB h1
 obtain⟨vs,r2,p2,_⟩:=I.seqB h2
 refine yj (A:=X.A) r1 r2 p1 p2 (by omega) (fun j j1 j2=>?_) X.prog X.w X.xe _ (bH I q rfl)
 obtain⟨x,ex,rx⟩:=gi r1 j1
 obtain⟨y,ey,ry⟩:=gi r2 j2
 exact nU.at I (A:=X.A.in1) (by show X.A.units+1+n < cLine;omega) rx ry (he j x y ex ey)
theorem A8(n:Nat)(hu:X.A.units+n+1 < cLine):dw X (compareOp .NotEq) (fun x y H Q=>∃b,wK X.K H n x y b∧Q (.bl (!b)) H):=by
 intro pins s σ H x y v u Q I rx ry h
 obtain⟨b,⟨a,c,l,xs,ys,e,rfl,rfl,h1,h2,he,rfl⟩,q⟩:=h
 cases rx;cases ry
 obtain⟨us,r1,p1,_⟩:=I.seqB h1
 obtain⟨vs,r2,p2,_⟩:=I.seqB h2
 refine yk (A:=X.A) r1 r2 p1 p2 (by omega) (fun j j1 j2=>?_) X.prog X.w X.xe _ (bH I q rfl)
 obtain⟨x,ex,rx⟩:=gi r1 j1
 obtain⟨y,ey,ry⟩:=gi r2 j2
 exact nU.at I (A:=X.A.in1) (by show X.A.units+1+n < cLine;omega) rx ry (he j x y ex ey)
def i4(K:PySem.W.Frag):R2:=fun x y H Q=>sJ x y H Q∨∃b,wK K H 4 x y b∧Q (.bl b) H
def jP(K:PySem.W.Frag):R2:=fun x y H Q=>sL x y H Q∨∃b,wK K H 4 x y b∧Q (.bl (!b)) H
theorem vI{A:Around}{k:Nat}(hr:dy k A):A.units+4+1 < cLine:=Nat.lt_of_le_of_lt (Nat.add_le_add_left (by decide:5≤64) _) hr.units
theorem B7(K:PySem.W.Frag)(hu:X.A.units+4+1 < cLine)(h:X.K=K:=by rfl):dw X (compareOp .Eq) (i4 K):=h▸opEq.or (A7 4 hu)
theorem Cb(K:PySem.W.Frag)(hu:X.A.units+4+1 < cLine)(h:X.K=K:=by rfl):dw X (compareOp .NotEq) (jP K):=h▸opNe.or (A8 4 hu)
end
theorem zP{K:PySem.W.Frag}{i j:Int}{H:Hp}{Q:VK}:i4 K (.int i) (.int j) H Q↔Q (.bl (decide (i=j))) H:=by simp [i4,tQ,wK]
theorem zT{K:PySem.W.Frag}{i j:Int}{H:Hp}{Q:VK}:jP K (.int i) (.int j) H Q↔Q (.bl (!decide (i=j))) H:=by simp [jP,tT,wK]
theorem u3{K:PySem.W.Frag}{i j:Str}{H:Hp}{Q:VK}:i4 K (.str i) (.str j) H Q↔Q (.bl (decide (i=j))) H:=by simp [i4,tR,wK]
theorem zU{K:PySem.W.Frag}{i j:Str}{H:Hp}{Q:VK}:jP K (.str i) (.str j) H Q↔Q (.bl (!decide (i=j))) H:=by simp [jP,tU,wK]
theorem Aq(K:PySem.W.Frag):wF (i4 K)=i4 K:=xw (fun _ _ _ _=>zP) (fun _ _ _ _=>u3)
theorem As(K:PySem.W.Frag):wG (jP K)=jP K:=xy (fun _ _ _ _=>zT) (fun _ _ _ _=>zU)
theorem AR{K:PySem.W.Frag}{x y:V}{H:Hp}{Q:VK}:wF (i4 K) x y H Q↔i4 K x y H Q:=by rw [Aq]
theorem AU{K:PySem.W.Frag}{x y:V}{H:Hp}{Q:VK}:wG (jP K) x y H Q↔jP K x y H Q:=by rw [As]
theorem tG{X:Cx}(K:PySem.W.Frag)(hu:X.A.units+4+1 < cLine)(h:X.K=K:=by rfl):dw X (compareOp .Eq) (wF (i4 K)):=by rw [Aq];exact B7 K hu h
theorem xK{X:Cx}(K:PySem.W.Frag)(hu:X.A.units+4+1 < cLine)(h:X.K=K:=by rfl):dw X (compareOp .NotEq) (wG (jP K)):=by rw [As];exact Cb K hu h
theorem wK.of_same{K:PySem.W.Frag}{H:Hp}{n:Nat}{a c:Addr}{l:Bool}{xs:List V}(h1:g4 K l H a xs)(h2:g4 K l H c xs)(hf:∀x∈xs,fj x=true∨∃p,x=.ref p):wK K H n (.ref a) (.ref c) true:=by
 refine⟨a,c,l,xs,xs,fun _=>true,rfl,rfl,h1,h2,fun j x y hx hy=>?_,?_⟩
 ·rw [hx]at hy
  cases hy
  rcases hf x (List.mem_of_getElem? hx)with f | ⟨p,rfl⟩
  ·have:=nU.flat (K:=K) (H:=H) (n:=n) f f
   have e:wC x x=true:=by cases x<;>first | rfl | (simp [wC];done) | exact absurd (show false=true from f) Bool.false_ne_true
   rw [e]at this
   exact this
  ·exact nU.same
 ·simp
theorem wa{K:PySem.W.Frag}{H:Hp}{a c:Addr}{l:Bool}{xs:List V}{Q:VK}(h1:g4 K l H a xs)(h2:g4 K l H c xs)(hf:∀x∈xs,fj x=true∨∃p,x=.ref p)(q:Q (.bl true) H):i4 K (.ref a) (.ref c) H Q:=.inr ⟨true,.of_same h1 h2 hf,q⟩
theorem wc{K:PySem.W.Frag}{H:Hp}{a c:Addr}{l:Bool}{xs:List V}{Q:VK}(h1:g4 K l H a xs)(h2:g4 K l H c xs)(hf:∀x∈xs,fj x=true∨∃p,x=.ref p)(q:Q (.bl false) H):jP K (.ref a) (.ref c) H Q:=.inr ⟨true,.of_same h1 h2 hf,q⟩
end L2
namespace L2
open PySem PySem.Spec PyProof.Rows
structure eH(P:Program)(w:World)(K:PySem.W.Frag)(mg:Str→Option Value)(base:Heap)(k:Nat)(f:Addr)(ps:List Str)(sp:Sp):Prop where
 ex:∃fd:FuncData,aP P w K mg base bY k f fd ps sp∧PySem.W.keepIn K (.ref f)=true∧dO K fd ps []
structure aD(P:Program)(w:World)(K:PySem.W.Frag)(mg:Str→Option Value)(base:Heap)(C:Addr)(m:Str)(k:Nat)(ps:List Str)(sp:Sp):Prop where
 cl:mz K C
 ex:∃(f:Addr) (fd:FuncData),AE K C m f∧aP P w K mg base bY k f fd ps sp∧dO K fd ps []
structure Ad(K:PySem.W.Frag)(C:Addr)(m:Str)(f:Addr):Prop where
 rd:PySem.W.readsIn K C (.type "type")=true
 at_:PySem.W.findCls K (.ref C) (.type "type") m=some (.val (.ref f))
 ga:PySem.W.specialIn K (.ref C) "__getattribute__"=some (some (.builtin "type.__getattribute__"))
 kp:PySem.W.keepIn K (.ref f)=true
structure kn(P:Program)(w:World)(K:PySem.W.Frag)(mg:Str→Option Value)(base:Heap)(x m:Str)(k:Nat)(ps:List Str)(sp:Sp):Prop where
 ex:∃(C f:Addr) (fd:FuncData),mg x=some (.ref C)∧Ad K C m f∧aP P w K mg base bY k f fd ps sp∧dO K fd ps []
structure dZ(P:Program)(w:World)(K:PySem.W.Frag)(mg:Str→Option Value)(base:Heap)(x:Str)(C:Addr)(k:Nat)(ps:List Str)(sp:Sp):Prop where
 ex:∃(f:Addr) (fd:FuncData),Mk K C f∧aP P w K mg base bY k f fd ps sp∧mg x=some (.ref C)∧dO K fd ps []
section
variable {P:Program} {w:World} {K:PySem.W.Frag} {mg:Str→Option Value} {base:Heap} {j k:Nat} {ps:List Str} {sp:Sp} {x m:Str} {C f:Addr}
theorem eH.up(d:eH P w K mg base j f ps sp)(h:j≤k):eH P w K mg base k f ps sp:=let ⟨fd,F,b,c⟩:=d.ex;⟨fd,F.mono h,b,c⟩
theorem aD.up(d:aD P w K mg base C m j ps sp)(h:j≤k):aD P w K mg base C m k ps sp:=let ⟨f,fd,a,F,c⟩:=d.ex;⟨d.cl,f,fd,a,F.mono h,c⟩
theorem dZ.up(d:dZ P w K mg base x C j ps sp)(h:j≤k):dZ P w K mg base x C k ps sp:=let ⟨f,fd,a,F,b,c⟩:=d.ex;⟨f,fd,a,F.mono h,b,c⟩
theorem aD.imp{sp':Sp}(d:aD P w K mg base C m k ps sp)(h:∀vs H Q E,sp' vs H Q E→sp vs H Q E):aD P w K mg base C m k ps sp':=let ⟨f,fd,a,F,c⟩:=d.ex;⟨d.cl,f,fd,a,F.imp h,c⟩
end
def uz(P:Program)(w:World)(K:PySem.W.Frag)(mg:Str→Option Value)(base:Heap)(k:Nat)(m:Str)(ta:TE)(t:TA):TE:=fun σ H Q=>ta σ H fun x H1=>∃(a C dx:Addr) (fs:List (Str×V)) (ps:List Str) (sp:Sp),
 x=.ref a∧H1 a=some (.ins C dx fs)∧fs.lookup m=none∧aD P w K mg base C m k ps sp∧t σ H1 fun vs H2=>sp (x::vs) H2 Q E0
def yz(P:Program)(w:World)(K:PySem.W.Frag)(mg:Str→Option Value)(base:Heap)(k:Nat)(tf:TE)(t:TA):TE:=fun σ H Q=>tf σ H fun x H1=>∃(f:Addr) (ps:List Str) (sp:Sp),
 x=.ref f∧eH P w K mg base k f ps sp∧t σ H1 fun vs H2=>sp vs H2 Q E0
section
variable {X:Cx} {k:Nat} {f C:Addr} {fd:FuncData} {ps:List Str} {sp:Sp} {x m:Str} {p pos apos:Pos} {e o:Expr} {es:List Expr} {ta:TE} {t:TA}
theorem ng(P:Program)(w:World)(K:PySem.W.Frag)(mg:Str→Option Value)(base:Heap){pl:Sem Bool}(hr:dy k X.A)(he:PE X o ta)(ha:PA X (e::es) t)(e1:X.prog=P:=by rfl)(e2:X.w=w:=by rfl)(e3:X.K=K:=by rfl)(e4:X.mg=mg:=by rfl)(e5:X.base=base:=by rfl)
  (hst:starEach (e::es) X.env=(false,eval e X.env)::starEach es X.env:=by rfl) (hpl:(backTo pos (starEach es X.env)).any (·.1)=false:=by rfl)
  (ht:eval (.Call (.Attribute o m apos) (e::es) [] pos) X.env=(do
   let ov ←eval o X.env
   standAt apos.atName
   let (f,first) ←holding [ov] (getMethod ov m pl)
   callWith pos f first (backTo pos (starEach (e::es) X.env)) (backToKw pos (keywordEach [] X.env))):=by rfl) :
  PE X (.Call (.Attribute o m apos) (e::es) [] pos) (uz P w K mg base k m ta t):=by
 subst e1 e2 e3 e4 e5
 intro pins s σ H Q I h
 refine PySem.W.methodCall_KW (pl:=pl) (cL (he pins s σ H _ I h) fun u s1 ⟨x,H1,I1,rx,a,C,dx,fs,ps,sp,ex,ea,l,M,q⟩=>?_) ht
 subst ex
 obtain rfl:u=Value.ref a:=rx
 obtain⟨f,fd,hm,F,hb⟩:=M.ex
 refine mN I1 ea M.cl hm l ?_
 refine PySem.W.callWith_K (first:=[.ref a]) (h₀:=X.base) I.ok.mod.kin hm.kp (cL (ha pos pins s1 σ H1 _ I1 q) fun us s2 ⟨vs,H2,I2,r,q2⟩=>⟨I2.kIn,?_⟩) hst hpl
 exact nk (us:=.ref a::us) (vs:=.ref a::vs) (dvs:=[]) (E:=E0) F hr hb .nil nc I2 (.cons rfl r) (by rw [List.append_nil];exact q2)
theorem kJ(P:Program)(w:World)(K:PySem.W.Frag)(mg:Str→Option Value)(base:Heap){pl:Sem Bool}(hr:dy k X.A)(he:PE X o ta)(e1:X.prog=P:=by rfl)(e2:X.w=w:=by rfl)(e3:X.K=K:=by rfl)(e4:X.mg=mg:=by rfl)(e5:X.base=base:=by rfl)
  (ht:eval (.Call (.Attribute o m apos) [] [] pos) X.env=(do
   let ov ←eval o X.env
   standAt apos.atName
   let (f,first) ←holding [ov] (getMethod ov m pl)
   callWith pos f first (backTo pos (starEach [] X.env)) (backToKw pos (keywordEach [] X.env))):=by rfl) :
  PE X (.Call (.Attribute o m apos) [] [] pos) (uz P w K mg base k m ta sD):=by
 subst e1 e2 e3 e4 e5
 intro pins s σ H Q I h
 refine PySem.W.methodCall_KW (pl:=pl) (cL (he pins s σ H _ I h) fun u s1 ⟨x,H1,I1,rx,a,C,dx,fs,ps,sp,ex,ea,l,M,q⟩=>?_) ht
 subst ex
 obtain rfl:u=Value.ref a:=rx
 obtain⟨f,fd,hm,F,hb⟩:=M.ex
 refine mN I1 ea M.cl hm l ?_
 exact PySem.W.callWith_K0 (first:=[.ref a]) I1.kIn hm.kp (nk (us:=[.ref a]) (vs:=[.ref a]) (dvs:=[]) (E:=E0) F hr hb .nil nc I1 (.cons rfl .nil) q)
theorem xT(P:Program)(w:World)(K:PySem.W.Frag)(mg:Str→Option Value)(base:Heap)(hr:dy k X.A)(he:PE X o ta)(ha:PA X (e::es) t)(e1:X.prog=P:=by rfl)(e2:X.w=w:=by rfl)(e3:X.K=K:=by rfl)(e4:X.mg=mg:=by rfl)(e5:X.base=base:=by rfl)
  (hst:starEach (e::es) X.env=(false,eval e X.env)::starEach es X.env:=by rfl) (hpl:(backTo pos (starEach es X.env)).any (·.1)=false:=by rfl)
  (hev:eval (.Call o (e::es) [] pos) X.env=(do callWith pos (←eval o X.env) [] (backTo pos (starEach (e::es) X.env)) (backToKw pos (keywordEach [] X.env))):=by rfl) :
  PE X (.Call o (e::es) [] pos) (yz P w K mg base k ta t):=by
 subst e1 e2 e3 e4 e5
 intro pins s σ H Q I h
 refine Call_ (cL (he pins s σ H _ I h) fun u s1 ⟨x,H1,I1,rx,f,ps,sp,ex,M,q⟩=>?_) hev
 subst ex
 obtain rfl:u=Value.ref f:=rx
 obtain⟨fd,F,hk,hb⟩:=M.ex
 refine PySem.W.callWith_K (h₀:=X.base) I.ok.mod.kin hk (cL (ha pos pins s1 σ H1 _ I1 q) fun us s2 ⟨vs,H2,I2,r,q2⟩=>⟨I2.kIn,?_⟩) hst hpl
 exact nk (us:=us) (vs:=vs) (dvs:=[]) (E:=E0) F hr hb .nil nc I2 r (by rw [List.append_nil];exact q2)
theorem dA{pl:Sem Bool}(d:kn X.prog X.w X.K X.mg X.base x m k ps sp)(hr:dy k X.A)(hg:Gl X x)(ha:PA X (e::es) t)(hdb:(x == ("__debug__":Str))=false:=by decide)
  (hst:starEach (e::es) X.env=(false,eval e X.env)::starEach es X.env:=by rfl) (hpl:(backTo pos (starEach es X.env)).any (·.1)=false:=by rfl)
  (ht:eval (.Call (.Attribute (.Name x p) m apos) (e::es) [] pos) X.env=(do
   let ov ←eval (.Name x p) X.env
   standAt apos.atName
   let (f,first) ←holding [ov] (getMethod ov m pl)
   callWith pos f first (backTo pos (starEach (e::es) X.env)) (backToKw pos (keywordEach [] X.env))):=by rfl) :
  PE X (.Call (.Attribute (.Name x p) m apos) (e::es) [] pos) (pN sp [] E0 t):=by
 obtain⟨C,f,fd,hm,c,F,hb⟩:=d.ex
 intro pins s σ H Q I h
 refine PySem.W.methodCall_KW (pl:=pl) (ma I hg hm ?_ hdb) ht
 refine PySem.W.method_cls I.kIn c.ga (PySem.W.cls_value I.kIn c.rd c.at_ rfl ?_)
 have I1:=I.tok (s.toks+1)
 refine PySem.W.callWith_K (first:=[]) (h₀:=X.base) I.ok.mod.kin c.kp (cL (ha pos pins _ σ H _ I1 h) fun us s2 ⟨vs,H2,I2,r,q2⟩=>⟨I2.kIn,?_⟩) hst hpl
 exact nk (us:=us) (vs:=vs) F hr hb .nil nc I2 r q2
theorem gT(d:dZ X.prog X.w X.K X.mg X.base x C k ps sp)(hr:dy (k+1) X.A)(hg:Gl X x)(ha:PA X (e::es) t)(hdb:(x == ("__debug__":Str))=false:=by decide)
  (he:starEach (e::es) X.env=(false,eval e X.env)::starEach es X.env:=by rfl) (hpl:(backTo pos (starEach es X.env)).any (·.1)=false:=by rfl) :
  PE X (.Call (.Name x p) (e::es) [] pos) (yE C sp [] E0 t):=
 let ⟨_,_,M,F,hm,hb⟩:=d.ex;zJ M F hr hg hm hb .nil nc ha hdb he hpl
end
def kr(K:PySem.W.Frag)(a:Addr)(D:List (Str×V)):Prop:=(a == sysModules)=false∧∃o es ep,K.lookup a=some o∧o.ExactDict∧o.data=.dict es ep∧KTD.Rows bh es.toList D
section
variable {prog:Program} {w:World} {A:Around} {E:Value→Shared→Prop} {s:Shared} {K:PySem.W.Frag} {a:Addr} {D:List (Str×V)} {k:Str} {tk:Tok}
theorem kr.typeIs(X:K.In s.heap)(T:kr K a D):s.TypeIs (.ref a) "dict":=let ⟨_,o,_,_,ho,hc,_⟩:=T;⟨o,X _ _ ho,hc.1⟩
theorem lF{Q:Option Value→Shared→Prop}(X:K.In s.heap)(T:kr K a D)(h1:∀d v,KTD.datumAt k D=some d→bh d v→Q (some v) { s with toks:=s.toks+1 })(h2:KTD.datumAt k D=none→Q none { s with toks:=s.toks+1 }):
  wpAny (model prog w) A (dictGet a (.str k tk)) Q E s:=by
 obtain⟨_,o,es,ep,ho,hc,hd,hr⟩:=T
 have ho:=X _ _ ho
 unfold dictGet
 try with_reducible refine wpAny_holding ?_
 refine wpAny_bind (wpAny_pyHash_str (wpAny_bind (KTD.kt_dictFind_strs (s:={ s with toks:=s.toks+1 }) ho hd (by obtain⟨l⟩:=es;simpa using hr.exact) ?_)))
 have hq:Q (findBy (fun k v=>v.isStr k) es k) { s with toks:=s.toks+1 }:=by
  have hf:findBy (fun k v=>v.isStr k) es k=(es.toList.find? fun e=>e.key.isStr k).map (·.val):=by
   obtain⟨l⟩:=es
   simp [findBy]
  rw [hf]
  cases hat:KTD.datumAt k D with
  | some d=>obtain⟨v,hv,hfl⟩:=hr.find_some hat;rw [hv];exact h1 d v hat hfl
  | none=>rw [hr.find_none hat];exact h2 hat
 rw [findBy_of_findIdx?]at hq
 cases hi:es.findIdx? fun e=>e.key.isStr k with
 | none=>rw [hi]at hq;exact wpAny_pure hq
 | some i=>rw [hi]at hq;exact wpAny_bind (wpAny_dictEntries (s:={ s with toks:=s.toks+1 }) ho hd (wpAny_pure hq))
theorem vR{Q:Value→Shared→Prop}(X:K.In s.heap)(T:kr K a D)(h:Q (.bool (!(KTD.datumAt k D).isSome)) { s with toks:=s.toks+1 }):wpAny (model prog w) A (compareOp .NotIn (.str k tk) (.ref a)) Q E s:=by
 have ty:=T.typeIs X
 show wpAny _ _ (do return .bool (!(←contains (.ref a) (.str k tk)))) Q E s
 refine wpAny_bind ?_
 unfold contains
 try with_reducible refine wpAny_holding ?_
 refine wpAny_bind (wpAny_specialOf ty F.slot_dict_contains.lookup ?_)
 show wpAny _ _ (if (some (Value.builtin "dict.__contains__") == some Value.none)=true then _ else _) _ E s
 rw [if_neg (by rw [beq_builtin_none];exact Bool.false_ne_true)]
 refine wpAny_bind (wpAny_callSpecialUnlessNone?_slot (name:=Str.ofString "__contains__") ty F.slot_dict_contains
  (wpAny_call_entry F.slot_dict_contains ty F.entry_dict_contains ?_ (F.args_dict_contains_2 _ _)))
 show wpAny _ _ (dictGet a (.str k tk) >>= _) _ _ s
 refine wpAny_bind (lF X T (fun d v ha _=>?_) fun hn=>?_)
 ·rw [ha]at h
  show wpAny _ _ (ret (.bool true)) _ _ _
  exact wpAny_pure ⟨_,rfl,wpAny_truthy_bool (wpAny_pure h)⟩
 ·rw [hn]at h
  show wpAny _ _ (Builtin.Dict.pendingKey? a (.str k tk) >>= _) _ _ _
  exact wpAny_bind (wpAny_pendingKey_other T.1 (wpAny_pure ⟨_,rfl,wpAny_truthy_bool (wpAny_pure h)⟩))
theorem xq{value slice:Expr}{v:V}{Q:Value→Shared→Prop}(X:K.In s.heap)(T:kr K a D)(hv:KTD.datumAt k D=some v)(h:∀u,bh v u→Q u { s with toks:=s.toks+1 })
  (hs:subscripted slice false (.ref a) (.str k tk)=operate [.ref a,.str k tk] (getItem (.ref a) (.str k tk))) (hg:∀r,letTemporaryGo value (.ref a) r=pure ()) :
  wpAny (model prog w) A (subscriptTail value slice (.ref a) (.str k tk)) Q E s:=by
 have ty:=T.typeIs X
 refine subscriptTail_builtin ty F.slot_dict_getitem.lookup ?_ hs hg
 unfold getItem
 try with_reducible refine wpAny_holding ?_
 refine wpAny_bind (wpAny_sequenceKey ty (by decide) ?_)
 refine wpAny_bind (wpAny_callSpecial?_slot (name:=Str.ofString "__getitem__") ty F.slot_dict_getitem
  (wpAny_call_entry F.slot_dict_getitem ty F.entry_dict_getitem ?_ (F.args_dict_getitem_2 _ _)))
 show wpAny _ _ (dictGet a (.str k tk) >>= _) _ _ s
 refine wpAny_bind (lF X T (fun d v' ha hr=>?_) fun hn=>?_)
 ·rw [hv]at ha
  cases ha
  exact wpAny_pure ⟨v',rfl,wpAny_pure (h v' hr)⟩
 ·rw [hv]at hn;cases hn
end
section
variable {X:Cx}
theorem tN(K:PySem.W.Frag)(h:X.K=K:=by rfl):dw X (compareOp .NotIn) (fun x y H Q=>∃k a D,x=.str k∧y=.ref a∧kr K a D∧Q (.bl (!(KTD.datumAt k D).isSome)) H):=by
 subst h
 intro pins s σ H x y v u Q I rx ry h
 obtain⟨k,a,D,rfl,rfl,T,q⟩:=h
 obtain⟨t,rfl⟩:=rx
 cases ry
 exact vR I.kIn T ⟨.bl _,H,I.tok _,rfl,q⟩
theorem xU(K:PySem.W.Frag){x:Str}{p pos:Pos}{b:Expr}{ta tb:TE}(ha:PE X (.Name x p) ta)(hb:PE X b tb)(hs:uJ b)(hg:∀v r,letTemporaryGo (.Name x p) v r=pure ():=by intro _ _;with_unfolding_all rfl)(h:X.K=K:=by rfl):
  PE X (.Subscript (.Name x p) b pos) (Bw (fun x y H Q=>∃k a D v,x=.str k∧False∨x=.ref a∧y=.str k∧kr K a D∧KTD.datumAt k D=some v∧Q v H) ta tb):=by
 subst h
 intro pins s σ H Q I h
 refine Subscript_ (yX ha hb I h fun v u s2 x y H2 I2 rx ry q=>?_)
 obtain⟨k,a,D,z,q⟩:=q
 rcases q with q | ⟨rfl,rfl,T,hv,q⟩
 ·exact q.2.elim
 cases rx
 obtain⟨t,rfl⟩:=ry
 exact xq I2.kIn T hv (fun u ru=>⟨z,H2,I2.tok _,ru,q⟩) (hs _ _) (hg _)
end
end L2
namespace L2
open PySem PySem.Spec PyProof.Rows
theorem qf{a b:String}:(Str.ofString a=Str.ofString b)↔a=b:=by
 constructor
 ·intro h
  rw [Str.ofString_eq_toList,Str.ofString_eq_toList]at h
  have h1:(a.toList.map Char.toNat)=(b.toList.map Char.toNat):=by
   have:=congrArg (fun s:Str=>s.cps.toList) h
   simpa using this
  have h2:a.toList=b.toList:=by
   refine List.map_inj_right (f:=Char.toNat) (fun x y e=>?_) |>.mp h1
   exact Char.toNat_inj.mp e
  exact String.toList_inj.mp h2
 ·intro h;rw [h]
def zm:Option Int→V
 | none=>.non
 | some i=>.int i
def aF(us:List Int)(v:Int):Int:=us.getD (v - 1).toNat 0
theorem rP{us:List Int}{v:Int}(h1:1≤v)(h2:v≤us.length):dz (us.map V.int) (v - 1)=some (.int (aF us v)):=by
 obtain⟨k,hk⟩:=Int.eq_ofNat_of_zero_le (show 0≤v - 1 by omega)
 rw [hk]
 have hl:k < us.length:=by omega
 refine aK ?_
 rw [List.getElem?_map,List.getElem?_eq_getElem hl]
 simp [aF,hk,List.getD,List.getElem?_eq_getElem hl]
structure d4 where
 size:Int
 start:Int
 after:Int→Option (List Int)→List Int→Option Int
 closes:Int→Option (List Int)→Bool
def BV(K:PySem.W.Frag)(H:Hp)(nv:Nat)(b:Option (List Int))(x:V):Prop:=(b=none∧x=.non)∨∃a us,b=some us∧x=.ref a∧cR K H a (us.map V.int)∧us.length=nv
theorem BV.same{K:PySem.W.Frag}{H H':Hp}{nv:Nat}{b:Option (List Int)}{x:V}(s:ax H H')(h:BV K H nv b x):BV K H' nv b x:=by
 rcases h with h | ⟨a,us,h1,h2,h3,h4⟩
 ·exact .inl h
 ·exact .inr ⟨a,us,h1,h2,s.tup h3,h4⟩
abbrev km:=Addr→Hp→Prop
def nI(RI:km)(v:V):Sp:=fun vs H Q _=>∃r,vs=[.ref r]∧RI r H∧Q v H
def bJ(K:PySem.W.Frag)(nv:Nat)(RI:km)(S:d4)(G:Int→Prop):Sp:=fun vs H Q _=>∃r m x c b us,vs=[.ref r,.int m,x,.ref c]∧RI r H∧G m∧BV K H nv b x∧cR K H c (us.map V.int)∧us.length=nv∧Q (zm (S.after m b us)) H
def dC(K:PySem.W.Frag)(nv:Nat)(RI:km)(S:d4)(G:Int→Prop):Sp:=fun vs H Q _=>∃r m x b,vs=[.ref r,.int m,x]∧RI r H∧G m∧BV K H nv b x∧Q (.bl (S.closes m b)) H
structure bB(P:Program)(w:World)(K:PySem.W.Frag)(mg:Str→Option Value)(base:Heap)(k:Nat)(nv:Nat)(C:Addr)(S:d4)(RI:km)(G:Int→Prop):Prop where
 mono:∀r H H',ax H H'→RI r H→RI r H'
 ins:∀r H,RI r H→∃dx fs,H r=some (.ins C dx fs)∧fs.lookup (Str.ofString "size")=none∧fs.lookup (Str.ofString "start")=none∧fs.lookup (Str.ofString "after")=none∧fs.lookup (Str.ofString "closes")=none∧fs.lookup (Str.ofString "shown")=none
 g0:G S.start
 gS:∀m b us m',G m→S.after m b us=some m'→G m'
 size:aD P w K mg base C "size" k ["self"] (nI RI (.int S.size))
 start:aD P w K mg base C "start" k ["self"] (nI RI (.int S.start))
 after:aD P w K mg base C "after" k ["self","memory","before","column"] (bJ K nv RI S G)
 closes:aD P w K mg base C "closes" k ["self","memory","last"] (dC K nv RI S G)
theorem bB.up{P:Program}{w:World}{K:PySem.W.Frag}{mg:Str→Option Value}{base:Heap}{j k nv:Nat}{C:Addr}{S:d4}{RI:km}{G:Int→Prop}(R:bB P w K mg base j nv C S RI G)(h:j≤k):bB P w K mg base k nv C S RI G:=
 ⟨R.mono,R.ins,R.g0,R.gS,R.size.up h,R.start.up h,R.after.up h,R.closes.up h⟩
def gO(S:d4)(m:Int)(b:Option (List Int))(i:Nat):List (List Int)→Option Nat
 | []=>if S.closes m b=true then none else some i
 | c::cs=>match S.after m b c with
  | none=>some i
  | some m'=>gO S m' (some c) (i+1) cs
def brk(S:d4)(cols:List (List Int)):Option Int:=(gO S S.start none 0 cols).map fun(n:Nat)=>(n:Int)
def cZ(K:PySem.W.Frag)(H:Hp)(l:Addr)(nv:Nat)(cols:List (List Int)):Prop:=∃ps:List Addr,aO K H l (ps.map V.ref)∧ps.length=cols.length∧∀(i:Nat) (p:Addr) (us:List Int),ps[i]?=some p→cols[i]?=some us→cR K H p (us.map V.int)∧us.length=nv
theorem cZ.same{K:PySem.W.Frag}{H H':Hp}{l:Addr}{nv:Nat}{cols:List (List Int)}(s:ax H H')(h:cZ K H l nv cols):cZ K H' l nv cols:=by
 obtain⟨ps,h1,h2,h3⟩:=h
 exact⟨ps,s.seq h1,h2,fun i p us a b=>⟨s.tup (h3 i p us a b).1,(h3 i p us a b).2⟩⟩
def nG(P:Program)(w:World)(K:PySem.W.Frag)(mg:Str→Option Value)(base:Heap)(k:Nat):Sp:=fun vs H Q _=>∃(r l:Addr) (nv:Nat) (C:Addr) (S:d4) (RI:km) (G:Int→Prop) (cols:List (List Int)),
 vs=[.ref r,.ref l]∧bB P w K mg base k nv C S RI G∧RI r H∧cZ K H l nv cols∧cols.length≤1000∧∀H',ax H H'→Q (zm (brk S cols)) H'
structure fg(z kind:Str)(ns:List Int):Prop where
 cs:z.cps.toList=cX 32 (kind.cps.toList::ns.map gq)
 nb:∀n∈ns,n.natAbs < 10 ^ 40
 nl:ns.length≤20
 ks:32∉kind.cps.toList
 kl:kind.length≤20
 k0:kind.cps.toList≠[]
theorem mf(n:Int):32∉gq n:=fun h=>by
 have:=mX n 32 h
 omega
theorem zZ{x y:Str}(h:x.cps.toList=y.cps.toList):x=y:=by
 have:=ka x y
 rw [decide_eq_true h]at this
 exact of_decide_eq_true this
theorem eC:∀{xs ys:List Str},xs.map (fun z=>z.cps.toList)=ys.map (fun z=>z.cps.toList)→xs=ys
 | [],[],_=>rfl
 | [],_::_,h=>by simp at h
 | _::_,[],h=>by simp at h
 | x::xs,y::ys,h=>by
  rw [List.map_cons,List.map_cons]at h
  injection h with h1 h2
  rw [zZ h1,eC h2]
def bq(n:Int):Str:=Str.ofString (toString n)
theorem fg.split{z kind:Str}{ns:List Int}(R:fg z kind ns):Txt.split z ⟨#[32]⟩=kind::ns.map bq:=by
 refine eC ?_
 rw [iA z (by decide),R.cs,nN 32 _ (by simp) (fun p hp=>?_),List.map_cons,List.map_map]
 ·rfl
 ·rcases List.mem_cons.mp hp with rfl | hp
  ·exact R.ks
  ·obtain⟨n,_,rfl⟩:=List.mem_map.mp hp
   exact mf n
theorem iD(c:Nat):∀(ps:List (List Nat)) (m:Nat),(∀p∈ps,p.length≤m)→(cX c ps).length≤ps.length * (m+1)
 | [],_,_=>by simp [cX]
 | p::ps,m,h=>by
  have h1:=h p (by simp)
  have h2:=iD c ps m (fun q hq=>h q (by simp [hq]))
  have h3:(cX c (p::ps)).length≤p.length+1+(cX c ps).length:=by
   cases ps with
   | nil=>simp [cX]
   | cons q ps=>
    simp [cX,List.length_append]
    omega
  rw [List.length_cons,Nat.succ_mul]
  omega
theorem fg.len{z kind:Str}{ns:List Int}(R:fg z kind ns):z.length≤10000:=by
 rw [bg,R.cs]
 have h:=iD 32 (kind.cps.toList::ns.map gq) 60 (fun p hp=>by
  rcases List.mem_cons.mp hp with rfl | hp
  ·have:=R.kl;rw [bg]at this;omega
  ·obtain⟨n,hn,rfl⟩:=List.mem_map.mp hp
   have:=fu (n:=n) (k:=40) (by decide) (R.nb n hn)
   omega)
 have:=R.nl
 simp only [List.length_cons,List.length_map]at h
 omega
theorem uu(z y:Str){c:Nat}(hy:y.cps.toList.head?=some c)(hz:z.cps.toList.head?≠some c):Txt.startswith z y=false:=by
 obtain⟨⟨l⟩⟩:=z
 obtain⟨⟨m⟩⟩:=y
 unfold Txt.startswith
 rw [StrLaws.subAt_eq]
 cases m with
 | nil=>simp at hy
 | cons b m=>
  cases l with
  | nil=>simp [Str.length]
  | cons a l=>
   simp at hy hz
   subst hy
   simp [Str.length]
   intro _ h
   exact absurd h hz
theorem fg.head{z kind:Str}{ns:List Int}(R:fg z kind ns):z.cps.toList.head?=kind.cps.toList.head?:=by
 rw [R.cs]
 cases e:kind.cps.toList with
 | nil=>exact absurd e R.k0
 | cons a l=>
  cases ns with
  | nil=>simp [cX]
  | cons n ns=>simp [cX]
end L2
namespace L2
open PySem PySem.Spec PyProof.Rows
theorem xW{X:Cx}{e:Expr}:PE X e (fun _ _ _=>False):=fun _ _ _ _ _ _ h=>h.elim
theorem bQ(xs:List V)(k:Nat):fR xs (some (k:Int)) none=xs.drop k:=by
 unfold fR
 rw [HT.sIx_nat,HT.sIx_none]
 by_cases h:k≤xs.length
 ·rw [Nat.min_eq_left h,List.take_of_length_le (by rw [List.length_drop];omega)]
 ·rw [Nat.min_eq_right (by omega),List.drop_of_length_le (Nat.le_refl _),List.drop_of_length_le (by omega),List.take_nil]
theorem de(xs:List V)(k:Nat):fR xs none (some (k:Int))=xs.take k:=by
 unfold fR HT.sIx
 have e:¬((k:Int) < 0):=by omega
 simp [e]
theorem mO(i:Int):∀D:List Int,Ap (.int i) (D.map V.int)=decide (i∈D)
 | []=>rfl
 | d::D=>by
  have ih:=mO i D
  have e:Ap (.int i) ((d::D).map V.int)=((d == i) || Ap (.int i) (D.map V.int)):=rfl
  rw [e,ih,Bool.eq_iff_iff,Bool.or_eq_true,beq_iff_eq,decide_eq_true_eq,decide_eq_true_eq,List.mem_cons]
  exact⟨fun h=>h.imp Eq.symm id,fun h=>h.imp Eq.symm id⟩
theorem fC{K:PySem.W.Frag}{H:Hp}{a:Addr}{i:Int}{D:List Int}{Q:VK}(h:aO K H a (D.map V.int))(q:Q (.bl (decide (i∈D))) H):wb K (.int i) (.ref a) H Q:=by
 refine .inr ⟨a,_,rfl,.inl h,rfl,?_,?_⟩
 ·rw [List.all_map];exact List.all_eq_true.mpr fun _ _=>rfl
 ·rw [mO];exact q
theorem aO.at_ins{K:PySem.W.Frag}{H:Hp}{q x C dx:Addr}{fs:List (Str×V)}{xs:List V}{o:HO}(h:aO K H q xs)(hx:H x=some (.ins C dx fs)):aO K (upd H x o) q xs:=by
 rcases h with(h | ⟨u,h⟩) | h
 ·exact .inl (.inl (by rw [aj (dM h hx (by intro z;cases z))];exact h))
 ·exact .inl (.inr ⟨u,by rw [aj (dM h hx (by intro z;cases z))];exact h⟩)
 ·exact .inr h
theorem fH{H:Hp}{x l:Addr}{A L B:HO}:upd (upd (upd H x A) l L) x B=upd (upd H l L) x B:=by
 funext b
 unfold upd
 by_cases h:b=x
 ·rw [if_pos h,if_pos h]
 ·rw [if_neg h,if_neg h,if_neg h]
end L2
namespace L2
open PySem PySem.Spec PyProof.Rows
structure bp(K:PySem.W.Frag)(C:Addr)(m qual:Str)(st:Stmt)(f:Addr)(fd:FuncData):Prop where
 me:AE K C m f
 fn:cH K m qual st f fd
theorem methAt_mk{K:PySem.W.Frag}{C:Addr}{m qual:Str}{st:Stmt}{f:Addr}{oc:Value}{od an:Option Addr}{osl:Array (Option Value)}{kV doc pm cdv ct:Value}(a:PySem.W.findIn K (.ref C) m=some (some (.ref f)))(i:PySem.W.isFn K (.ref f)=true)
  (l:K.lookup f=some ⟨oc,od,.func (PySem.W.fnOf m qual (dh st) (cS st) (ao st) .none kV doc pm an cdv ct),osl⟩) (c:PySem.W.codeIn K cdv qual=true) (k:PySem.W.keepIn K (.ref f)=true):∃f fd,bp K C m qual st f fd:=
 ⟨f,_,⟨a,i,k⟩,fun_mk l c k⟩
theorem bp.ok{P:Program}{w:World}{K:PySem.W.Frag}{mg:Str→Option Value}{base:Heap}{C:Addr}{m qual:Str}{st:Stmt}{f:Addr}{fd:FuncData}{k:Nat}{ps:List Str}{sp:Sp}(A:bp K C m qual st f fd)(cl:mz K C)(ok:aP P w K mg base bY k f fd ps sp)(b:dO K fd ps []):aD P w K mg base C m k ps sp:=⟨cl,f,fd,A.me,ok,b⟩
structure lU(K:PySem.W.Frag)(x m qual:Str)(st:Stmt)(C f:Addr)(fd:FuncData):Prop where
 ns:PySem.W.nsIn K mainGlobals x=some (some (.ref C))
 cm:Ad K C m f
 fn:cH K m qual st f fd
theorem cmethAt_mk{K:PySem.W.Frag}{C:Addr}{x m qual:Str}{st:Stmt}{f:Addr}{oc:Value}{od an:Option Addr}{osl:Array (Option Value)}{kV doc pm cdv ct:Value}(n:PySem.W.nsIn K mainGlobals x=some (some (.ref C)))(r:PySem.W.readsIn K C (.type "type")=true)(a:PySem.W.findCls K (.ref C) (.type "type") m=some (.val (.ref f)))
  (g:PySem.W.specialIn K (.ref C) "__getattribute__"=some (some (.builtin "type.__getattribute__")))
  (l:K.lookup f=some ⟨oc,od,.func (PySem.W.fnOf m qual (dh st) (cS st) (ao st) .none kV doc pm an cdv ct),osl⟩) (c:PySem.W.codeIn K cdv qual=true) (k:PySem.W.keepIn K (.ref f)=true):∃C f fd,lU K x m qual st C f fd:=
 ⟨C,f,_,n,⟨r,a,g,k⟩,fun_mk l c k⟩
theorem lU.df{P:Program}{w:World}{K:PySem.W.Frag}{mg:Str→Option Value}{base h:Heap}{x m qual:Str}{st:Stmt}{C f:Addr}{fd:FuncData}{k:Nat}{ps:List Str}{sp:Sp}(A:lU K x m qual st C f fd)(X:K.In h)(G:h.Ns mainGlobals mg)(ok:aP P w K mg base bY k f fd ps sp)(b:dO K fd ps []):kn P w K mg base x m k ps sp:=
 ⟨C,f,fd,PySem.W.mg_of X G A.ns,A.cm,ok,b⟩
structure jy(K:PySem.W.Frag)(x qual:Str)(st:Stmt)(C f:Addr)(fd:FuncData):Prop where
 ns:PySem.W.nsIn K mainGlobals x=some (some (.ref C))
 mm:Mk K C f
 fn:cH K "__init__" qual st f fd
theorem mkAt_mk{K:PySem.W.Frag}{C:Addr}{x qual:Str}{st:Stmt}{f:Addr}{oc:Value}{od an:Option Addr}{osl:Array (Option Value)}{kV doc pm cdv ct:Value}(n:PySem.W.nsIn K mainGlobals x=some (some (.ref C)))(mk:PySem.W.makesIn K C=true)(a:PySem.W.findIn K (.ref C) "__init__"=some (some (.ref f)))(i:PySem.W.isFn K (.ref f)=true)(kc:PySem.W.keepIn K (.ref C)=true)
  (l:K.lookup f=some ⟨oc,od,.func (PySem.W.fnOf "__init__" qual (dh st) (cS st) (ao st) .none kV doc pm an cdv ct),osl⟩) (c:PySem.W.codeIn K cdv qual=true) (k:PySem.W.keepIn K (.ref f)=true):∃f fd,jy K x qual st C f fd:=
 ⟨f,_,n,⟨mk,a,i,kc⟩,fun_mk l c k⟩
theorem jy.df{P:Program}{w:World}{K:PySem.W.Frag}{mg:Str→Option Value}{base h:Heap}{x qual:Str}{st:Stmt}{C f:Addr}{fd:FuncData}{k:Nat}{ps:List Str}{sp:Sp}(A:jy K x qual st C f fd)(X:K.In h)(G:h.Ns mainGlobals mg)(ok:aP P w K mg base bY k f fd ps sp)(b:dO K fd ps []):dZ P w K mg base x C k ps sp:=
 ⟨f,fd,A.mm,ok,PySem.W.mg_of X G A.ns,b⟩
theorem kB(c:Nat)(a b:List Nat)(ps:List (List Nat)):cX c (a::b::ps)=a++c::cX c (b::ps):=by simp [cX]
theorem xr{n:Nat}{k:Int}(h0:0≤k)(h1:k < n):wD n k=some k.toNat:=by
 unfold wD
 obtain⟨j,rfl⟩:=Int.eq_ofNat_of_zero_le h0
 simp
 omega
theorem z6{n:Int}(h:n.natAbs < 10 ^ 40):n.natAbs.log2 < 1920:=by
 by_cases h0:n.natAbs=0
 ·rw [h0];decide
 ·exact(Nat.log2_lt h0).mpr (Nat.lt_of_lt_of_le h (by decide +kernel))
theorem da{n:Int}(h:n.natAbs < 10 ^ 40):(bq n).length≤41:=by
 rw [bg]
 exact fu (n:=n) (k:=40) (by decide) h
theorem lr:∀(ys:List Str) (m:Nat),(∀y∈ys,y.length≤m)→(ys.map (·.length)).sum≤ys.length * m
 | [],_,_=>by simp
 | y::ys,m,h=>by
  have h1:=h y (by simp)
  have h2:=lr ys m (fun z hz=>h z (by simp [hz]))
  rw [List.map_cons,List.sum_cons,List.length_cons,Nat.succ_mul]
  omega
theorem dU{us:List Int}{v:Int}(h1:0≤v)(h2:v < us.length):dz (us.map V.int) v=some (.int (aF us (v+1))):=by
 have:=rP (us:=us) (v:=v+1) (by omega) (by omega)
 rwa [show v+1 - 1=v by omega]at this
theorem rowsR{e:DictEntry}{x:Str}{t:Tok}{f:Addr}{es:List DictEntry}{D:List (Str×V)}(h1:e.key=.str x t)(h2:e.val=.ref f)(r:KTD.Rows bh es D):KTD.Rows bh (e::es) ((x,V.ref f)::D):=.cons h1 h2 r
theorem tab_mk{K:PySem.W.Frag}{a:Addr}{o:Obj}{es:Array DictEntry}{ep:Nat}{D:List (Str×V)}(l:K.lookup a=some o)(s:(a == sysModules)=false)(x:o.cls=.type "dict")(y:o.dict=none)(z:o.slots=#[])(d:o.data=.dict es ep)(r:KTD.Rows bh es.toList D):kr K a D:=⟨s,o,es,ep,l,⟨x,y,z⟩,d,r⟩
theorem defAtD_mk2{K:PySem.W.Frag}{x:Str}{st:Stmt}{f T:Addr}{oc:Value}{od an:Option Addr}{osl:Array (Option Value)}{kV doc pm cdv ct u:Value}{o:Obj}{n:Nat}{v:V}(a:PySem.W.nsIn K mainGlobals x=some (some (.ref f)))
  (l:K.lookup f=some ⟨oc,od,.func (PySem.W.fnOf x x (dh st) (cS st) (ao st) (.ref T) kV doc pm an cdv ct),osl⟩) (c:PySem.W.codeIn K cdv x=true) (k:PySem.W.keepIn K (.ref f)=true)
  (t:K.lookup T=some o) (d:o.data=.seq #[u] n) (r:bh v u):∃f fd u,wJ K x st f fd u∧bh v u:=
 ⟨f,_,u,⟨a,T,o,n,⟨⟨oc,od,kV,doc,pm,an,cdv,ct,osl,rfl,l,c⟩,k⟩,t,d⟩,r⟩
end L2
namespace L2
open PySem PySem.Spec PyProof.Rows
section
variable {X:Cx}
theorem nY:cJ X (.type "str") (fun xs H Q=>∃z,xs=[.str z]∧Q (.str z) H):=by
 intro pins s σ H xs us Q I r h
 obtain⟨z,rfl,q⟩:=h
 obtain⟨u,rfl,ru⟩:=d0 r
 obtain⟨t,rfl⟩:=ru
 exact P.str_of_str ⟨.str z,H,I,⟨t,rfl⟩,q⟩
def tV:List V→Hp→VK→Prop:=fun xs H Q=>(∃i,xs=[.int i]∧i.natAbs.log2 < 1920∧Q (.str (bq i)) H)∨∃z,xs=[.str z]∧Q (.str z) H
theorem kv:cJ X (.type "str") tV:=call_str_int.or nY
end
theorem yh{i:Int}{H:Hp}{Q:VK}:tV [.int i] H Q↔i.natAbs.log2 < 1920∧Q (.str (bq i)) H:=by simp [tV]
theorem Bn{z:Str}{H:Hp}{Q:VK}:tV [.str z] H Q↔Q (.str z) H:=by simp [tV]
theorem yn{kind:Str}{ns:List Int}(nb:∀n∈ns,n.natAbs < 10 ^ 40)(nl:ns.length≤20)(ks:32∉kind.cps.toList)(kl:kind.length≤20)(k0:kind.cps.toList≠[]):fg (Txt.join (Str.ofString " ") (kind::ns.map bq)) kind ns:=by
 have e32:(Str.ofString " ")=⟨#[32]⟩:=by decide +kernel
 refine⟨?_,nb,nl,ks,kl,k0⟩
 rw [e32,cT,List.map_cons,List.map_map]
 rfl
theorem cZ.sub{K:PySem.W.Frag}{H:Hp}{l q:Addr}{nv:Nat}{cols:List (List Int)}{ps:List Addr}(hpl:ps.length=cols.length)(hpc:∀(i:Nat) (p:Addr) (us:List Int),ps[i]?=some p→cols[i]?=some us→cR K H p (us.map V.int)∧us.length=nv)(a b:Nat)(hq:aO K H q (((ps.drop a).take b).map V.ref)):cZ K H q nv ((cols.drop a).take b):=by
 refine⟨_,hq,by rw [List.length_take,List.length_take,List.length_drop,List.length_drop,hpl],fun i p us e1 e2=>?_⟩
 rw [List.getElem?_take]at e1 e2
 split at e1
 ·rename_i hib
  rw [if_pos hib]at e2
  rw [List.getElem?_drop]at e1 e2
  exact hpc _ p us e1 e2
 ·cases e1
end L2
namespace L3
open PySem PySem.Spec PyProof.Rows
section
variable {prog:Program} {w:World} {A:Around} {E:Value→Shared→Prop} {s:Shared}
end
end L3
namespace L2
open PySem PySem.Spec PyProof.Rows
def CM(K:PySem.W.Frag)(n:Nat)(t:yT):TG:=fun v σ H Q=>∃a l xs,v=.ref a∧g4 K l H a xs∧xs.length=n∧t xs σ H Q
theorem eJ{K:PySem.W.Frag}{H:Hp}{a:Addr}{i:Int}{D:List Int}{Q:VK}(h:aO K H a (D.map V.int))(q:Q (.bl (!decide (i∈D))) H):mi K (.int i) (.ref a) H Q:=by
 refine .inr ⟨a,_,rfl,.inl h,rfl,?_,?_⟩
 ·rw [List.all_map];exact List.all_eq_true.mpr fun _ _=>rfl
 ·rw [mO];exact q
theorem uH{K:PySem.W.Frag}{H:Hp}{n:Nat}{a c:Addr}{l:Bool}{xs:List V}(h1:g4 K l H a xs)(h2:g4 K l H c []):wK K H n (.ref a) (.ref c) (xs.length == 0):=by
 refine⟨a,c,l,xs,[],fun _=>true,rfl,rfl,h1,h2,fun j x y _ hy=>(by simp at hy),?_⟩
 simp
theorem sf{K:PySem.W.Frag}{H:Hp}{a c:Addr}{l:Bool}{xs:List V}{Q:VK}(h1:g4 K l H a xs)(h2:g4 K l H c [])(q:Q (.bl (!(xs.length == 0))) H):jP K (.ref a) (.ref c) H Q:=.inr ⟨_,uH h1 h2,q⟩
theorem yd{K:PySem.W.Frag}{H:Hp}{a c:Addr}{l:Bool}{xs:List V}{Q:VK}(h1:g4 K l H a xs)(h2:g4 K l H c [])(q:Q (.bl (xs.length == 0)) H):i4 K (.ref a) (.ref c) H Q:=.inr ⟨_,uH h1 h2,q⟩
theorem oX{α:Type}{xs:List α}{v:α}{n:Nat}(hl:xs.length=n+1)(h:xs[n]?=some v):dz xs (-1)=some v:=by
 unfold dz wD
 rw [if_neg (by decide),if_pos (by omega),hl]
 show xs[((-1:Int)+((n+1:Nat):Int)).toNat]?=some v
 rw [show((-1:Int)+((n+1:Nat):Int)).toNat=n by omega]
 exact h
end L2
namespace L2
open PySem PySem.Spec PyProof.Rows
section
variable {X:Cx} {e st:Expr} {te:TE} {p2 pos:Pos}
def CW(K:PySem.W.Frag)(te ts:TE):TE:=fun σ H Q=>te σ H fun x H1=>ts σ H1 fun y H2=>y=.int (-1)∧∃a xs,x=.ref a∧aO K H2 a xs∧∀p,H2 p=none→Q (.ref p) (upd H2 p (.lst xs.reverse))
end
end L2
namespace L2
open PySem PySem.Spec PyProof.Rows
def ba(B:Nat→Bool)(i:Nat):Nat→Option Nat
 | 0=>none
 | k+1=>if B i=true then some i else ba B (i+1) k
theorem rB(B:Nat→Bool):∀(k i:Nat),ba B i (k+1)=match ba B i k with | some j=>some j | none=>if B (i+k)=true then some (i+k)else none
 | 0,i=>by simp [ba]
 | k+1,i=>by
  have ih:=rB B k (i+1)
  rw [ba,ih]
  by_cases hb:B i=true
  ·simp [ba,hb]
  ·rw [if_neg hb]
   simp only [ba]
   rw [if_neg hb,show i+1+k=i+(k+1)by omega]
def e7(cols:List (List Int)):Nat→Option (List Int)
 | 0=>none
 | i+1=>cols[i]?
structure Walks(S:d4)(cols:List (List Int))(mem:Nat→Int)(B:Nat→Bool):Prop where
 m0:S.start=mem 0
 st:∀(i:Nat) (us:List Int),cols[i]?=some us→S.after (mem i) (e7 cols i) us=if B i=true then none else some (mem (i+1))
theorem Walks.go{S:d4}{cols:List (List Int)}{mem:Nat→Int}{B:Nat→Bool}(h:Walks S cols mem B):∀(k i:Nat),i+k=cols.length→gO S (mem i) (e7 cols i) i (cols.drop i)=match ba B i k with | some j=>some j | none=>if S.closes (mem cols.length) (e7 cols cols.length)=true then none else some cols.length
 | 0,i,e=>by
  have e':i=cols.length:=by omega
  subst e'
  rw [List.drop_length]
  rfl
 | k+1,i,e=>by
  have hi:i < cols.length:=by omega
  rw [List.drop_eq_getElem_cons hi]
  simp only [gO,ba]
  rw [h.st i cols[i] (List.getElem?_eq_getElem hi)]
  by_cases hb:B i=true
  ·rw [if_pos hb,if_pos hb]
  ·rw [if_neg hb,if_neg hb]
   have:=h.go k (i+1) (by omega)
   rw [show e7 cols (i+1)=some cols[i]from List.getElem?_eq_getElem hi]at this
   exact this
def AK(B:Nat→Bool)(n:Nat)(cl:Bool):Option Int:=match ba B 0 n with | some j=>some (j:Int) | none=>if cl=true then none else some (n:Int)
theorem Walks.brk{S:d4}{cols:List (List Int)}{mem:Nat→Int}{B:Nat→Bool}(h:Walks S cols mem B):brk S cols=AK B cols.length (S.closes (mem cols.length) (e7 cols cols.length)):=by
 have:=h.go cols.length 0 (by omega)
 unfold L2.brk AK
 rw [h.m0]
 rw [show e7 cols 0=none from rfl,List.drop_zero]at this
 rw [this]
 cases ba B 0 cols.length with
 | some j=>rfl
 | none=>
  simp only
  by_cases hc:S.closes (mem cols.length) (e7 cols cols.length)=true
  ·rw [if_pos hc,if_pos hc];rfl
  ·rw [if_neg hc,if_neg hc];rfl
theorem BV.prev{K:PySem.W.Frag}{H:Hp}{nv:Nat}{cols:List (List Int)}{ps:List Addr}(hpl:ps.length=cols.length)(hpc:∀(i:Nat) (p:Addr) (us:List Int),ps[i]?=some p→cols[i]?=some us→cR K H p (us.map V.int)∧us.length=nv){i:Nat}(hi:i < ps.length):BV K H nv (e7 cols (i+1)) (.ref ps[i]):=by
 have e2:cols[i]?=some (cols[i]'(by omega)):=List.getElem?_eq_getElem (by omega)
 obtain⟨h1,h2⟩:=hpc i _ _ (List.getElem?_eq_getElem hi) e2
 exact .inr ⟨_,_,e2,rfl,h1,h2⟩
theorem ym{x kind:Str}{a b:Int}(hx:x.cps.toList=kind.cps.toList++[32])(na:a.natAbs < 10 ^ 40)(nb:b.natAbs < 10 ^ 40)(ks:32∉kind.cps.toList)(kl:kind.length≤20)(k0:kind.cps.toList≠[]):fg (x++bq a++Str.ofString " " ++ bq b) kind [a,b]:=by
 refine⟨?_,fun n hn=>?_,by simp,ks,kl,k0⟩
 ·have e32:(Str.ofString " ").cps.toList=[32]:=by decide +kernel
  have ea:∀u v:Str,(u++v).cps.toList=u.cps.toList++v.cps.toList:=fun u v=>by
   show(u.cps++v.cps).toList=_
   rw [Array.toList_append]
  rw [ea,ea,ea,hx,e32]
  simp only [List.map_cons,List.map_nil,cX]
  simp
  rfl
 ·rcases List.mem_cons.mp hn with rfl | hn
  ·exact na
  ·rw [List.mem_singleton.mp hn];exact nb
def cy(H:Hp)(nv:Nat)(ps:List Addr)(cols:List (List Int)):Prop:=ps.length=cols.length∧∀(i:Nat) (p:Addr) (us:List Int),ps[i]?=some p→cols[i]?=some us→H p=some (.tup (us.map V.int))∧us.length=nv
theorem cy.nil{H:Hp}{nv:Nat}:cy H nv [] []:=⟨rfl,fun _ _ _ e=>by cases e⟩
theorem cy.same{H H':Hp}{nv:Nat}{ps:List Addr}{cols:List (List Int)}(s:ax H H')(h:cy H nv ps cols):cy H' nv ps cols:=⟨h.1,fun i p us e1 e2=>⟨s _ _ (h.2 i p us e1 e2).1,(h.2 i p us e1 e2).2⟩⟩
theorem cy.updl{H:Hp}{nv:Nat}{ps:List Addr}{cols:List (List Int)}{l:Addr}{xs:List V}{o:HO}(hl:H l=some (.lst xs))(h:cy H nv ps cols):cy (upd H l o) nv ps cols:=⟨h.1,fun i p us e1 e2=>⟨by
 rw [aj (dM (h.2 i p us e1 e2).1 hl (by intro z;cases z))]
 exact(h.2 i p us e1 e2).1,(h.2 i p us e1 e2).2⟩⟩
theorem cy.snoc{H:Hp}{nv:Nat}{ps:List Addr}{cols:List (List Int)}{t:Addr}{us:List Int}(h:cy H nv ps cols)(ht:H t=some (.tup (us.map V.int)))(hu:us.length=nv):cy H nv (ps++[t]) (cols++[us]):=by
 refine⟨by simp [h.1],fun j p us' e1 e2=>?_⟩
 have hl:=h.1
 by_cases hj:j < ps.length
 ·rw [List.getElem?_append_left hj]at e1
  rw [List.getElem?_append_left (by omega)]at e2
  exact h.2 j p us' e1 e2
 ·rw [List.getElem?_append_right (by omega)]at e1 e2
  have ej:j=ps.length:=by
   have:=(List.getElem?_eq_some_iff.mp e1).1
   simp at this
   omega
  rw [ej,Nat.sub_self]at e1
  rw [ej,hl,Nat.sub_self]at e2
  cases e1
  cases e2
  exact⟨ht,hu⟩
theorem cy.set{H:Hp}{nv:Nat}{ps:List Addr}{cols:List (List Int)}{t:Addr}{us:List Int}(k:Nat)(h:cy H nv ps cols)(ht:H t=some (.tup (us.map V.int)))(hu:us.length=nv):cy H nv (ps.set k t) (cols.set k us):=by
 refine⟨by simp [h.1],fun j p us' e1 e2=>?_⟩
 rw [List.getElem?_set]at e1 e2
 by_cases hj:k=j
 ·rw [if_pos hj]at e1 e2
  split at e1
  ·split at e2
   ·cases e1;cases e2;exact⟨ht,hu⟩
   ·cases e2
  ·cases e1
 ·rw [if_neg hj]at e1 e2
  exact h.2 j p us' e1 e2
theorem cy.at{K:PySem.W.Frag}{H:Hp}{nv:Nat}{ps:List Addr}{cols:List (List Int)}(h:cy H nv ps cols):∀(i:Nat) (p:Addr) (us:List Int),ps[i]?=some p→cols[i]?=some us→cR K H p (us.map V.int)∧us.length=nv:=fun i p us e1 e2=>⟨cR.of (h.2 i p us e1 e2).1,(h.2 i p us e1 e2).2⟩
theorem cy.line{K:PySem.W.Frag}{H:Hp}{nv:Nat}{ps:List Addr}{cols:List (List Int)}{l:Addr}(h:cy H nv ps cols)(hl:H l=some (.lst (ps.map V.ref))):cZ K H l nv cols:=⟨ps,aO.of hl,h.1,h.at⟩
theorem zi{K:PySem.W.Frag}{H:Hp}{nv:Nat}{cols:List (List Int)}{ps:List Addr}{l:Addr}{o:Int}(hps:aO K H l (ps.map V.ref))(hpl:ps.length=cols.length)(hpc:∀(i:Nat) (p:Addr) (us:List Int),ps[i]?=some p→cols[i]?=some us→cR K H p (us.map V.int)∧us.length=nv)(o0:0≤o)(o1:o < nv){p:Int}(p0:0≤p)(p1:p < cols.length){Q:VK}(q:Q (.int (aF (cols.getD p.toNat []) (o+1))) H):lR K (.ref l) (.int p) H fun x H1=>lR K x (.int o) H1 Q:=by
 obtain⟨i,rfl⟩:=Int.eq_ofNat_of_zero_le p0
 have hi:i < cols.length:=by omega
 have e2:cols[i]?=some cols[i]:=List.getElem?_eq_getElem hi
 obtain⟨h1,h2⟩:=hpc i _ _ (List.getElem?_eq_getElem (show i < ps.length by omega)) e2
 refine aT hps (show dz _ ((i:Nat):Int)=some (.ref ps[i])from aK (by rw [List.getElem?_map,List.getElem?_eq_getElem (show i < ps.length by omega)];rfl)) ?_
 refine dB h1 (dU o0 (by omega)) ?_
 rw [List.getD_eq_getElem?_getD,Int.toNat_natCast,e2]at q
 exact q
end L2
namespace L3
open PySem PySem.Spec PyProof.Rows L2 HT
section
variable {prog:Program} {w:World} {A:Around} {E:Value→Shared→Prop} {s:Shared}
end
end L3
namespace L2
open PySem PySem.Spec PyProof.Rows
section
variable {X:Cx}
end
end L2
namespace L2
open PySem PySem.Spec PyProof.Rows
def Itd(lo:Int)(n:Nat):It:=⟨fun i _=>i < n,fun i H x H'=>H'=H∧x=.int (lo - i),fun i _=>n≤i⟩
section
variable {X:Cx} {tg:Expr}
def BU(ta:TA):TI:=fun σ H R=>ta σ H fun vs H1=>∃i j:Int,vs=[.int i,.int j,.int (-1)]∧(-(2 ^ 62)≤i∧i < 2 ^ 62∧-(2 ^ 62)≤j∧j < 2 ^ 62)∧R (Itd i (i - j).toNat) H1
end
theorem iS:∀{ns:List Int} {us:List Value},aW (ns.map V.int) us→∃ps:List (Int×Tok),us=ps.map (fun p=>Value.int p.1 p.2)∧ps.map (·.1)=ns
 | [],_,.nil=>⟨[],rfl,rfl⟩
 | n::ns,_,.cons r t=>by
  obtain⟨ps,e1,e2⟩:=iS t
  obtain⟨tk,rfl⟩:=r
  exact⟨(n,tk)::ps,by rw [e1];rfl,by rw [←e2];rfl⟩
theorem vp{X:Cx}(hc:X.calm=true)(K:PySem.W.Frag)(hK:X.K=K:=by rfl):cJ X (.builtin "min") (fun xs H Q=>∃p ns,xs=[.ref p]∧aO K H p (List.map V.int ns)∧ns≠[]∧∀i∈ns,Q (.int i) H):=by
 subst hK
 intro pins s σ H xs us Q I r h
 obtain⟨p,ns,rfl,hp,hne,q⟩:=h
 obtain⟨u,rfl,ru⟩:=d0 r
 cases ru
 obtain⟨its,rv,ht,_⟩:=I.list hp
 obtain⟨ps,e1,e2⟩:=iS rv
 have hl:s.heap.IsList p (intItems ps.toArray):=by
  have:=ht.isList
  rw [e1]at this
  simpa [intItems]using this
 refine min_intList (I.ok.hd hc) hl (by
  rw [List.size_toArray]
  have:ps.length=ns.length:=by rw [←e2,List.length_map]
  have:ns.length≠0:=fun z=>hne (List.length_eq_zero_iff.mp z)
  omega) fun v h' tk hv hk=>?_
 simp only [intItems,List.map_toArray,List.getElem?_toArray,List.getElem?_map,Option.map_eq_some_iff]at hv
 obtain⟨⟨a,t⟩,ha,rfl⟩:=hv
 refine⟨.int a,H,I.kept (t':=tk) fun b o e=>hk b o e,⟨t,rfl⟩,q a ?_⟩
 rw [←e2]
 exact List.mem_map_of_mem (f:=fun p:Int×Tok=>p.1) (List.mem_of_getElem? ha)
end L2
namespace L2
open PySem PySem.Spec PyProof.Rows
def f7(c:Nat):Nat→List Nat→List (List Nat)
 | 0,l=>[l]
 | _+1,[]=>[[]]
 | n+1,a::l=>if a=c then []::f7 c n l else match f7 c (n+1) l with
  | []=>[[a]]
  | p::r=>(a::p)::r
theorem qU(c:Nat):∀n l,f7 c n l≠[]
 | 0,l=>by simp [f7]
 | n+1,[]=>by simp [f7]
 | n+1,a::l=>by
  simp only [f7]
  split
  ·simp
  ·split<;>simp
theorem iE(x:Str)(c:Nat)(lim:Nat):∀(l:List Nat) (i:Nat) (acc:Array Nat) (fr:Nat),x.cps.toList.drop i=l→fr≤i→
  (forIn (List.range' i (l.length+1)) (acc,fr) (StrLaws.occBody x ⟨#[c]⟩ x.length lim)).run.fst.toList=acc.toList++(du c l i).take (lim - acc.size)
 | [],i,acc,fr,hl,hf=>by
  have hi:x.length≤i:=by
   rw [bg]
   exact List.drop_eq_nil_iff.mp hl
  show(forIn [i] (acc,fr) _:Id _).run.fst.toList=_
  rw [List.forIn_cons]
  unfold StrLaws.occBody
  rw [if_neg (by intro h;have:=h.1.2;have e1:(⟨#[c]⟩:Str).length=1:=rfl;rw [e1]at this;omega)]
  show acc.toList=_
  simp [du]
 | b::l,i,acc,fr,hl,hf=>by
  have hb:x.cps.toList[i]?=some b:=by
   have:(x.cps.toList.drop i)[0]?=some b:=by rw [hl];rfl
   rwa [List.getElem?_drop,Nat.add_zero]at this
  have hi:i < x.length:=by
   rw [bg]
   obtain⟨h,_⟩:=List.getElem?_eq_some_iff.mp hb
   exact h
  have hd:x.cps.toList.drop (i+1)=l:=by
   rw [←List.drop_drop,hl];rfl
  have e1:(⟨#[c]⟩:Str).length=1:=rfl
  show(forIn (i::List.range' (i+1) (l.length+1)) (acc,fr) _:Id _).run.fst.toList=_
  rw [List.forIn_cons]
  unfold StrLaws.occBody
  by_cases hc:b=c
  ·by_cases hs:acc.size < lim
   ·rw [if_pos ⟨⟨⟨hs,hf⟩,by rw [e1];omega⟩,((StrLaws.subAt_one x c i).mpr (by rw [hb,hc])).2⟩]
    show(forIn (List.range' (i+1) (l.length+1)) (acc.push i,i+1) (StrLaws.occBody x ⟨#[c]⟩ x.length lim):Id _).run.fst.toList=_
    rw [iE x c lim l (i+1) _ _ hd (Nat.le_refl _),Array.size_push]
    simp only [du,hc,if_true]
    rw [show lim - acc.size=(lim - (acc.size+1))+1 by omega,List.take_succ_cons]
    simp
   ·rw [if_neg (fun h=>hs h.1.1.1)]
    show(forIn (List.range' (i+1) (l.length+1)) (acc,fr) (StrLaws.occBody x ⟨#[c]⟩ x.length lim):Id _).run.fst.toList=_
    rw [iE x c lim l (i+1) _ _ hd (by omega)]
    rw [show lim - acc.size=0 by omega]
    simp
  ·rw [if_neg (fun h=>hc (by have:=(StrLaws.subAt_one x c i).mp ⟨h.1.2,h.2⟩;rw [hb]at this;exact Option.some.inj this))]
   show(forIn (List.range' (i+1) (l.length+1)) (acc,fr) (StrLaws.occBody x ⟨#[c]⟩ x.length lim):Id _).run.fst.toList=_
   rw [iE x c lim l (i+1) _ _ hd (by omega)]
   simp [du,hc]
theorem xM(x:Str)(c n:Nat):Builtin.Str.occurrences x ⟨#[c]⟩ 0 x.length n=(du c x.cps.toList 0).take n:=by
 rw [StrLaws.occ_eq]
 have e:x.length+1 - 0=x.cps.toList.length+1:=by rw [bg];rfl
 rw [e]
 have h:=iE x c n x.cps.toList 0 #[] 0 rfl (Nat.le_refl _)
 rw [h]
 rfl
theorem hV(x:Str)(c:Nat):∀(l:List Nat) (n a j:Nat),a≤j→x.cps.toList.drop j=l→j≤x.length→
  (StrLaws.partsFrom x 1 a ((du c l j).take n)).map (fun z=>z.cps.toList)=match f7 c n l with
   | []=>[]
   | p::r=>((x.cps.toList.drop a).take (j - a)++p)::r
 | l,0,a,j,haj,hl,hj=>by
  simp only [List.take_zero,f7,StrLaws.partsFrom,List.map_cons,List.map_nil,StrLaws.strSub_toList]
  congr 1
  rw [List.take_of_length_le (by rw [List.length_drop,bg];omega)]
  have:=List.take_append_drop (j - a) (x.cps.toList.drop a)
  rw [List.drop_drop,show a+(j - a)=j by omega,hl]at this
  exact this.symm
 | [],n+1,a,j,haj,hl,hj=>by
  have hj':x.length≤j:=by rw [bg];exact List.drop_eq_nil_iff.mp hl
  have e:j=x.length:=by omega
  subst e
  simp [du,f7,StrLaws.partsFrom,StrLaws.strSub_toList]
 | b::l,n+1,a,j,haj,hl,hj=>by
  have hb:x.cps.toList[j]?=some b:=by
   have:(x.cps.toList.drop j)[0]?=some b:=by rw [hl];rfl
   rwa [List.getElem?_drop,Nat.add_zero]at this
  have hi:j < x.length:=by
   rw [bg]
   obtain⟨h,_⟩:=List.getElem?_eq_some_iff.mp hb
   exact h
  have hd:x.cps.toList.drop (j+1)=l:=by
   rw [←List.drop_drop,hl];rfl
  by_cases hc:b=c
  ·have ih:=hV x c l n (j+1) (j+1) (Nat.le_refl _) hd hi
   simp only [du,hc,if_true,List.take_succ_cons,StrLaws.partsFrom,List.map_cons,f7,List.append_nil]
   rw [ih]
   cases hs:f7 c n l with
   | nil=>exact absurd hs (qU c n l)
   | cons p r=>simp [StrLaws.strSub_toList]
  ·have ih:=hV x c l (n+1) a (j+1) (by omega) hd hi
   simp only [du,hc,if_false,f7]
   rw [ih]
   cases hs:f7 c (n+1) l with
   | nil=>exact absurd hs (qU c (n+1) l)
   | cons p r=>
    have ht:(x.cps.toList.drop a).take (j+1 - a)=(x.cps.toList.drop a).take (j - a)++[b]:=by
     have e1:j+1 - a=(j - a)+1:=by omega
     rw [e1,List.take_add_one,List.getElem?_drop]
     have e2:a+(j - a)=j:=by omega
     rw [e2,hb];rfl
    simp [ht]
theorem j9(c n:Nat)(rest:List Nat):∀(p:List Nat),c∉p→f7 c (n+1) (p++c::rest)=p::f7 c n rest
 | [],_=>by simp [f7]
 | a::p,h=>by
  have h1:¬a=c:=fun e=>h (by simp [e])
  have ih:=j9 c n rest p (fun e=>h (by simp [e]))
  show f7 c (n+1) (a::(p++c::rest))=_
  simp only [f7,h1,if_false]
  rw [ih]
theorem rZ(c:Nat)(rest:List Nat):∀(p:List Nat) (i:Nat),du c (p++c::rest) i≠[]
 | [],i=>by simp [du]
 | a::p,i=>by
  show du c (a::(p++c::rest)) i≠[]
  simp only [du]
  split
  ·simp
  ·exact rZ c rest p (i+1)
def hU(z:Str)(c k:Nat):List Str:=Builtin.Str.partsBetween z ((du c z.cps.toList 0).take k) 1
theorem qy(z:Str)(c k:Nat):(hU z c k).map (fun y=>y.cps.toList)=f7 c k z.cps.toList:=by
 unfold hU
 rw [StrLaws.partsBetween_eq,hV z c z.cps.toList k 0 0 (Nat.le_refl _) rfl (Nat.zero_le _)]
 cases hs:f7 c k z.cps.toList with
 | nil=>exact absurd hs (qU c k _)
 | cons p r=>simp
theorem vQ{X:Cx}:wB X "str.split" (fun x xs H Q=>∃z c k,x=.str z∧xs=[.str ⟨#[c]⟩,.int k]∧c < 256∧0 < k∧k < 2 ^ 30∧du c z.cps.toList 0≠[]∧z.length < sizeLine∧(hU z c k.toNat).length≤sizeLine∧∀p,H p=none→Q (.ref p) (upd H p (.lst ((hU z c k.toNat).map V.str)))):=by
 intro pins s σ H x xs v us Q I rx r h
 obtain⟨z,c,k,rfl,rfl,hc,k0,k1,hne,hz,hlen,q⟩:=h
 obtain⟨t,rfl⟩:=rx
 obtain⟨u,u2,rfl,⟨t',rfl⟩,⟨t2,rfl⟩⟩:=vd r
 have ek:Builtin.Str.strKind ⟨#[c]⟩=1:=by simp [Builtin.Str.strKind,hc]
 have ek2:1≤Builtin.Str.strKind z:=by unfold Builtin.Str.strKind;split<;>(try split)<;>omega
 have hzl:1≤z.length:=by
  rw [bg]
  cases hz':z.cps.toList with
  | nil=>rw [hz']at hne;exact absurd rfl hne
  | cons a l=>simp
 have h1:(decide (z.length < (⟨#[c]⟩:Str).length) || decide (Builtin.Str.strKind z < Builtin.Str.strKind ⟨#[c]⟩))=false:=by
  rw [ek]
  have e1:(⟨#[c]⟩:Str).length=1:=rfl
  rw [e1,decide_eq_false (by omega),decide_eq_false (by omega)]
  rfl
 have hk:(decide (k < -(2 ^ 63:Int)) || decide (k≥2 ^ 63))=false:=by
  rw [decide_eq_false (by omega),decide_eq_false (by omega)]
  rfl
 have el:Builtin.Str.occurrences z ⟨#[c]⟩ 0 z.length (PySem.limitOf z k)=(du c z.cps.toList 0).take k.toNat:=by
  rw [xM]
  unfold PySem.limitOf
  rw [if_neg (by omega)]
 have hf:(Builtin.Str.occurrences z ⟨#[c]⟩ 0 z.length (PySem.limitOf z k)).isEmpty=false:=by
  rw [el]
  cases hp:du c z.cps.toList 0 with
  | nil=>exact absurd hp hne
  | cons a l=>rw [show k.toNat=(k.toNat - 1)+1 by omega];rfl
 have ep:Builtin.Str.partsBetween z (Builtin.Str.occurrences z ⟨#[c]⟩ 0 z.length (PySem.limitOf z k)) (⟨#[c]⟩:Str).length=hU z c k.toNat:=by rw [el];rfl
 have fin:∀(its:List Value) (tk:Nat),aW ((hU z c k.toNat).map V.str) its→EP X pins σ Q (.ref s.heap.objs.size) { s with toks:=tk,heap:=s.heap.push { cls:=.type "list",data:=.seq its.toArray } }:=fun its tk rv=>
  ⟨.ref s.heap.objs.size,_,I.laid (t':=tk) (o:=.lst ((hU z c k.toNat).map V.str)) (fun b ob q=>Heap.get?_push_of_some _ q) (Nat.le_refl _) ⟨by rw [List.length_map];exact hlen,its,0,rv,Heap.get?_push_size _ rfl⟩,rfl,q _ (I.hok.fresh (Nat.le_refl _))⟩
 rw [←ep]at fin hlen
 exact call_meets F.slot_str_split (typeIs_str _ _ _) F.entry_str_split (F.args_str_split_3 _ _ _) (meets_str_split_sep_max z ⟨#[c]⟩ k t t' t2 hk h1 rfl hf (Nat.le_of_lt hz) hlen) (fin _ _ (lA _ _))
end L2
namespace L2
open PySem PySem.Spec PyProof.Rows
def wM(K:PySem.W.Frag)(a:Addr)(xs:List V):Prop:=∃(o:Obj) (its:Array Value) (n:Nat),K.lookup a=some o∧o.cls=.type "tuple"∧o.data=.seq its n∧its.size≤sizeLine∧aW xs its.toList
theorem wM.at{K:PySem.W.Frag}{a:Addr}{xs:List V}(h:wM K a xs)(H:Hp):cR K H a xs:=.inr h
theorem ktup_mk{K:PySem.W.Frag}{a:Addr}{o:Obj}{its:Array Value}{n:Nat}{xs:List V}(l:K.lookup a=some o)(x:o.cls=.type "tuple")(d:o.data=.seq its n)(z:its.size≤sizeLine)(r:aW xs its.toList):wM K a xs:=⟨o,its,n,l,x,d,z,r⟩
theorem uw(z y:Str){rest:List Nat}(h:z.cps.toList=y.cps.toList++rest):Txt.startswith z y=true:=by
 obtain⟨⟨l⟩⟩:=z
 obtain⟨⟨m⟩⟩:=y
 simp at h
 subst h
 unfold Txt.startswith
 rw [StrLaws.subAt_eq]
 simp [Str.length]
structure mE(z rest:Str)(t u:Int):Prop where
 cs:z.cps.toList=(Str.ofString "every").cps.toList++32::(gq t++32::(gq u++32::rest.cps.toList))
 tb:t.natAbs < 10 ^ 40
 ub:u.natAbs < 10 ^ 40
 rl:rest.length≤10000
theorem mE.split{z rest:Str}{t u:Int}(R:mE z rest t u):hU z 32 3=[Str.ofString "every",bq t,bq u,rest]:=by
 refine eC ?_
 rw [qy,R.cs,j9 32 2 _ _ (by decide +kernel),j9 32 1 _ _ (mf t),j9 32 0 _ _ (mf u)]
 simp only [f7,List.map_cons,List.map_nil]
 rfl
theorem mE.pos{z rest:Str}{t u:Int}(R:mE z rest t u):du 32 z.cps.toList 0≠[]:=by
 rw [R.cs]
 exact rZ 32 _ _ 0
theorem mE.len{z rest:Str}{t u:Int}(R:mE z rest t u):z.length≤20000:=by
 rw [bg,R.cs]
 have h1:=fu (n:=t) (k:=40) (by decide) R.tb
 have h2:=fu (n:=u) (k:=40) (by decide) R.ub
 have h3:=R.rl
 rw [bg]at h3
 have h4:(Str.ofString "every").cps.toList.length=5:=by decide +kernel
 simp only [List.length_append,List.length_cons]
 omega
theorem mE.starts{z rest:Str}{t u:Int}(R:mE z rest t u):Txt.startswith z (Str.ofString "every ")=true:=by
 refine uw z _ (rest:=gq t++32::(gq u++32::rest.cps.toList)) ?_
 rw [R.cs,show(Str.ofString "every ").cps.toList=(Str.ofString "every").cps.toList++[32]by decide +kernel,List.append_assoc]
 rfl
def gj:V→Str
 | .str z=>z
 | .int n=>bq n
 | _=>Str.ofString ""
def qZ(x:V):Prop:=(∃z,x=.str z)∨∃n:Int,x=.int n∧n.natAbs < 10 ^ 40
theorem rj{K:PySem.W.Frag}{σ:St}{H:Hp}{F:List V→Hp→Prop}{q:Addr}{xs:List V}(h:aO K H q xs)(hw:∀x∈xs,qZ x)(nl:xs.length≤100)(hd:F ((xs.map gj).map V.str) H):
  oV (0+1) [] (lG 0) yw (Bs tV (nQ (Bx 0) sD)) σ F (wA K q) H:=by
 have hs:sizeLine=16777216:=sizeLine_eq
 refine cu (xs:=xs) (fun i ys H'=>ys=((xs.map gj).take i).map V.str∧H=H') (by omega) ⟨rfl,rfl⟩ ?_ ?_ ?_ ?_
 ·rintro i ys H' ⟨rfl,rfl⟩
  rw [List.length_map,List.length_take]
  omega
 ·rintro i ys H' ⟨rfl,rfl⟩
  exact h
 ·rintro i x ys H' hx ⟨rfl,rfl⟩
  have fin:∀v:Str,gj x=v→((xs.map gj).take i).map V.str++[V.str v]=((xs.map gj).take (i+1)).map V.str:=fun v e=>by
   rw [List.take_add_one,List.getElem?_map,hx,List.map_append,←e]
   rfl
  rcases hw x (List.mem_of_getElem? hx)with⟨z,rfl⟩ | ⟨n,rfl,hn⟩
  ·simp only [jC,Bs,nQ,Bx,pI,sD,lG,yw,cσ,List.getElem?_cons_zero,List.set_cons_zero,Option.some.injEq,exists_eq_left',Bn,List.replicate,List.cons_append,List.map_nil,if_true]
   exact⟨fin _ rfl,trivial⟩
  ·simp only [jC,Bs,nQ,Bx,pI,sD,lG,yw,cσ,List.getElem?_cons_zero,List.set_cons_zero,Option.some.injEq,exists_eq_left',yh,List.replicate,List.cons_append,List.map_nil,if_true]
   exact⟨z6 hn,fin _ rfl,trivial⟩
 ·rintro ys H' ⟨rfl,rfl⟩
  rw [List.take_of_length_le (by simp)]
  exact hd
theorem lI{K:PySem.W.Frag}{H:Hp}{a:Addr}{z:Str}{ws:List Str}{Q:VK}(h:cR K H a (ws.map V.str))(q:Q (.bl (!decide (z∈ws))) H):mi K (.str z) (.ref a) H Q:=by
 have e:∀ws:List Str,Ap (.str z) (ws.map V.str)=decide (z∈ws):=by
  intro ws
  induction ws with
  | nil=>rfl
  | cons d D ih=>
   have e:Ap (.str z) ((d::D).map V.str)=((d == z) || Ap (.str z) (D.map V.str)):=rfl
   rw [e,ih,Bool.eq_iff_iff,Bool.or_eq_true,beq_iff_eq,decide_eq_true_eq,decide_eq_true_eq,List.mem_cons]
   exact⟨fun h=>h.imp Eq.symm id,fun h=>h.imp Eq.symm id⟩
 refine .inr ⟨a,_,rfl,.inr h,rfl,?_,?_⟩
 ·rw [List.all_map];exact List.all_eq_true.mpr fun _ _=>rfl
 ·rw [e];exact q
end L2
namespace L2
open PySem PySem.Spec PyProof.Rows
section
variable {X:Cx} {tg:Expr}
end
end L2
namespace L2
open PySem PySem.Spec PyProof.Rows
theorem vC{k:V→Prop}{σ:L2.St}{i:Nat}:(yl σ i k)=(∃v,σ[i]?=some (some v)∧k v):=propext mj
theorem vy{v:V}{k:Int→Prop}:(yO v k)=(∃i,v=V.int i∧k i):=propext jB
theorem vx{v:V}{k:Bool→Prop}:(Af v k)=(∃i,v=V.bl i∧k i):=propext lZ
theorem y3{x y:V}{H:Hp}{Q:VK}:(wF sJ x y H Q)=(sJ x y H Q):=propext BW
theorem y4{x y:V}{H:Hp}{Q:VK}:(wG sL x y H Q)=(sL x y H Q):=propext BZ
theorem vz{K:W.Frag}{x y:V}{H:Hp}{Q:VK}:(tq (eI K) x y H Q)=(eI K x y H Q):=propext zc
theorem vA{K:W.Frag}{x y:V}{H:Hp}{Q:VK}:(tu (h8 K) x y H Q)=(h8 K x y H Q):=propext zf
theorem wX{K:W.Frag}{x y:V}{H:Hp}{Q:VK}:(wF (i4 K) x y H Q)=(i4 K x y H Q):=propext AR
theorem wY{K:W.Frag}{x y:V}{H:Hp}{Q:VK}:(wG (jP K) x y H Q)=(jP K x y H Q):=propext AU
theorem sT{K:W.Frag}{i j:Int}{H:Hp}{Q:VK}:(eI K (V.int i) (V.int j) H Q)=(Q (V.int (i+j)) H):=propext sd
theorem sU{K:W.Frag}{i j:Str}{H:Hp}{Q:VK}:(eI K (V.str i) (V.str j) H Q)=(i.length+j.length≤sizeLine∧Q (V.str (i++j)) H):=propext yc
theorem sV{K:W.Frag}{i j:Int}{H:Hp}{Q:VK}:(h8 K (V.int i) (V.int j) H Q)=(IntMulOk i j∧Q (V.int (i * j)) H):=propext se
theorem xa{K:W.Frag}{z:Str}{lo hi:Option Int}{H:Hp}{Q:VK}:(wd K (V.str z) lo hi H Q)=(z.length≤sizeLine∧Q (V.str (Txt.slice z lo hi)) H):=propext Bj
theorem y6{K:W.Frag}{z:Str}{i:Int}{H:Hp}{Q:VK}:(lR K (V.str z) (V.int i) H Q)=(z.length≤sizeLine∧∃c,dz z.cps.toList i=some c∧Q (V.str { cps:=#[c] }) H):=propext Ck
theorem wZ{i j:Int}{H:Hp}{Q:VK}:(sJ (V.int i) (V.int j) H Q)=(Q (V.bl (decide (i=j))) H):=propext tQ
theorem w8{i j:Int}{H:Hp}{Q:VK}:(sL (V.int i) (V.int j) H Q)=(Q (V.bl !decide (i=j)) H):=propext tT
theorem w5{i j:Str}{H:Hp}{Q:VK}:(sJ (V.str i) (V.str j) H Q)=(Q (V.bl (decide (i=j))) H):=propext tR
theorem w9{i j:Str}{H:Hp}{Q:VK}:(sL (V.str i) (V.str j) H Q)=(Q (V.bl !decide (i=j)) H):=propext tU
theorem w6{K:W.Frag}{c:Nat}{z:Str}{H:Hp}{Q:VK}:(wb K (V.str { cps:=#[c] }) (V.str z) H Q)=(Q (V.bl (decide (c∈z.cps.toList))) H):=propext Be
theorem xb{i:Int}{H:Hp}{Q:VK}:(tV [V.int i] H Q)=(i.natAbs.log2 < 1920∧Q (V.str (bq i)) H):=propext yh
theorem vB{K:W.Frag}{i j:Str}{H:Hp}{Q:VK}:(i4 K (V.str i) (V.str j) H Q)=(Q (V.bl (decide (i=j))) H):=propext u3
theorem wV{K:W.Frag}{b k:Bool}{H:Hp}:(yU K (V.bl b) H k)=(k=b):=propext TruV_b
theorem y7{K:W.Frag}{z:Str}{H:Hp}:(Cu K "str" (V.str z) H)=(True):=propext Cv
theorem wW{α:Sort u}{p:α→Prop}{a':α}:(∃a,a'=a∧p a)=p a':=propext exists_eq_left'
theorem AL{α:Sort u}{a':α}:(∃a,a'=a)=True:=eq_true ⟨_,rfl⟩
theorem Aj{α:Sort u}{p:α→Prop}{a':α}:(∃a,a=a'∧p a)=p a':=propext exists_eq_left
theorem Ah{α:Sort u}{p:α→Prop}{b:Prop}:(∃x,b∧p x)=(b∧∃x,p x):=propext exists_and_left
theorem Ag{a b c:Prop}:((a∧b)∧c)=(a∧b∧c):=propext and_assoc
theorem Ai{α:Sort u}:(∃_:α,False)=False:=eq_false exists_false
theorem Ao{c:TT}{t u w:TS}{D:gU}{σ:L2.St}{H:Hp}(h:∀A B:Hp→Prop,(∀H,ki t w D σ H→A H)→(∀H,ki u w D σ H→B H)→c σ H fun b H1=>if b=true then A H1 else B H1):ki (yD c t u) w D σ H:=h _ _ (fun _ x=>x) fun _ x=>x
theorem td{c:TT}{t w:TS}{D:gU}{σ:L2.St}{H:Hp}(h:∀A B:Hp→Prop,(∀H,ki t w D σ H→A H)→(∀H,w D σ H→B H)→c σ H fun b H1=>if b=true then A H1 else B H1):ki (yD c t vb) w D σ H:=h _ _ (fun _ x=>x) fun _ x=>x
theorem lz{t r w:TS}{D:gU}{σ:L2.St}{H:Hp}(h:∀k:L2.St→Hp→Prop,(∀σ H,ki r w D σ H→k σ H)→t { D with nx:=k } σ H):ki (ki t r) w D σ H:=h _ fun _ _ x=>x
theorem lz0{t r:TS}{D:gU}{σ:L2.St}{H:Hp}(h:∀k:L2.St→Hp→Prop,(∀σ H,r D σ H→k σ H)→t { D with nx:=k } σ H):ki t r D σ H:=h _ fun _ _ x=>x
end L2
namespace L2
open PySem PySem.Spec PyProof.Rows
theorem ku(a v:Value):argsOk "min" ⟨[a],[(Str.ofString "default",v)]⟩:=by unfold argsOk;kernel_rfl
def sQ(kf:Nat→List Int)(i j:Nat):Bool:=HT.lexLt (kf i) (kf j)
section
variable {prog:Program} {w:World} {A:Around} {R:Result→Shared→Prop} {it al bb:Addr} {items:Array Value} {G:Heap→Prop} {kf:Nat→List Int} {d:Value}
theorem vP(hd:A.handled=none)(hal:al≠it)(hbi:bb≠it)(hba:bb≠al)(gk:∀h h',G h→(∀b o,b≠it→b≠bb→h.get? b=some o→h'.get? b=some o)→G h')
  (cm:∀(i j:Nat) (vi vj:Value) (s:Shared) (Q:Value→Shared→Prop) (E:Value→Shared→Prop),items[i]?=some vi→items[j]?=some vj→G s.heap→Q (.bool (sQ kf i j)) s→wpAny (model prog w) A.in1 (richCompare .Lt vi vj) Q E s) :
  ∀(k j:Nat) (s:Shared) (v0:Value) (c0:Nat),items.size - (j+1)=k→j+1≤items.size→(s.heap.IsListIter it al (j+1)∧s.heap.IsList al items)→items[argBest (sQ kf) j]?=some v0→G s.heap→
   s.heap.get? bb=some { cls:=.type "list",dict:=none,data:=.seq #[v0,v0] c0,slots:=#[] }→
   (∀v h' tt,items[argBest (sQ kf) (items.size - 1)]?=some v→(∀b o,b≠it→b≠bb→s.heap.get? b=some o→h'.get? b=some o)→R (.ok (.ret v)) { s with heap:=h',toks:=tt })→
   codeAny (model prog w) A (.builtin "min.loop" ⟨[.ref it,.none,.ref bb],[(Str.ofString "default",d)]⟩) R s:=by
 have nm:(toString "min" ++ toString ".loop":String)="min.loop":=by decide
 have wk:=Walks.list (prog:=prog) (w:=w) (A:=A.in1) hd it al hal items
 have hbw:bb∉[it]:=by simpa using hbi
 have ns:∀{b:Addr},b≠it→b∉[it]:=fun h=>by simpa using h
 intro k
 induction k with
 | zero=>
  intro j s v0 c0 ek ej at0 pv0 g hbb fin
  have jn:j+1=items.size:=by omega
  refine codeAny_builtin F.entry_min_loop (?_)
  rw [Around.under_plainId (F.plain_min_loop) _]
  show wpAny _ A.in1 (seqItems? (.ref bb) >>= _) _ _ s
  refine wpAny_bind (wpAny_seqItems hbb rfl ?_)
  show wpAny _ A.in1 (tryCatch (pyNext (.ref it)) _ >>= _) _ _ s
  refine wpAny_bind (wpAny_tryCatch (wk.done s _ _ (jn▸at0) fun h' tt kk'=>?_))
  have hbb':=kk' bb _ hbw hbb
  show wpAny _ A.in1 (updateSeq bb (fun _=>#[]) >>= _) _ _ _
  refine wpAny_bind ?_
  refine wpAny_updateSeq hbb' rfl (wpAny_bind (wpAny_letGo (wpAny_pure (?_))))
  refine fin v0 _ tt (by rw [←jn];exact pv0) fun b o ni nb e=>(Heap.get?_update_other _ _ (Ne.symm nb)).trans (kk' b o (ns ni) e)
 | succ k rec0=>
  intro j s v0 c0 ek ej at0 pv0 g hbb fin
  have jlt:j+1 < items.size:=by omega
  refine codeAny_builtin F.entry_min_loop (?_)
  rw [Around.under_plainId (F.plain_min_loop) _]
  show wpAny _ A.in1 (seqItems? (.ref bb) >>= _) _ _ s
  refine wpAny_bind (wpAny_seqItems hbb rfl ?_)
  show wpAny _ A.in1 (tryCatch (pyNext (.ref it)) _ >>= _) _ _ s
  refine wpAny_bind (wpAny_tryCatch (wk.item (j+1) s _ _ jlt at0 fun v h' tt pv at1 kk'=>?_))
  have hbb':=kk' bb _ hbw hbb
  have g':G h':=gk _ _ g fun b o ni _ e=>kk' b o (ns ni) e
  show wpAny _ A.in1 (tryCatch (holding [v,v] (richCompare .Lt v v0 >>= _)) _ >>= _) _ _ _
  refine wpAny_bind (wpAny_tryCatch (wpAny_holding (wpAny_bind (cm (j+1) (argBest (sQ kf) j) v v0 _ _ _ pv pv0 g' ?_))))
  refine wpAny_bind (wpAny_holding (wpAny_truthy_bool (?_)))
  refine wpAny_bind (wpAny_letGo (wpAny_pure (?_)))
  cases eb:sQ kf (j+1) (argBest (sQ kf) j)with
  | true=>
   simp only [if_true]
   refine wpAny_bind ?_
   refine wpAny_updateSeq hbb' rfl (wpAny_bind (wpAny_letGo (?_)))
   rw [nm]
   refine wpAny_pure ⟨plainId_quiet F.plain_min_loop _,rec0 (j+1) _ v _ (by omega) jlt (wk.frame _ _ _ at1 fun b bf o e=>?_) (by simp only [argBest,eb,if_true];exact pv) (gk _ _ g' fun b o _ nb e=>(Heap.get?_update_other _ _ (Ne.symm nb)).trans e) (Heap.get?_update_self _ hbb' rfl)
    fun v' h2 tt2 pv' kk2=>?_⟩
   ·exact(Heap.get?_update_other _ _ (fun h:bb=b=>by subst h;simp at bf;exact bf.elim hbi hba)).trans e
   ·exact fin v' h2 tt2 pv' fun b o ni nb e=>kk2 b o ni nb ((Heap.get?_update_other _ _ (Ne.symm nb)).trans (kk' b o (ns ni) e))
  | false=>
   simp only [if_false,Bool.false_eq_true]
   refine wpAny_bind (wpAny_letGo (?_))
   rw [nm]
   refine wpAny_pure ⟨plainId_quiet F.plain_min_loop _,rec0 (j+1) _ v0 c0 (by omega) jlt at1 (by simp only [argBest,eb,Bool.false_eq_true,if_false];exact pv0) g' hbb' fun v' h2 tt2 pv' kk2=>?_⟩
   exact fin v' h2 tt2 pv' fun b o ni nb e=>kk2 b o ni nb (kk' b o (ns ni) e)
theorem lM(hd:A.handled=none)(hal:al≠it)(hbi:bb≠it)(hba:bb≠al)(gk:∀h h',G h→(∀b o,b≠it→b≠bb→h.get? b=some o→h'.get? b=some o)→G h')
  (cm:∀(i j:Nat) (vi vj:Value) (s:Shared) (Q:Value→Shared→Prop) (E:Value→Shared→Prop),items[i]?=some vi→items[j]?=some vj→G s.heap→Q (.bool (sQ kf i j)) s→wpAny (model prog w) A.in1 (richCompare .Lt vi vj) Q E s)
  {s:Shared} {c0:Nat} (at0:s.heap.IsListIter it al 0∧s.heap.IsList al items) (g:G s.heap) (hbb:s.heap.get? bb=some { cls:=.type "list",dict:=none,data:=.seq #[] c0,slots:=#[] })
  (h0:items.size=0→∀h' tt,(∀b o,b≠it→b≠bb→s.heap.get? b=some o→h'.get? b=some o)→R (.ok (.ret d)) { s with heap:=h',toks:=tt })
  (fin:0 < items.size→∀v h' tt,items[argBest (sQ kf) (items.size - 1)]?=some v→(∀b o,b≠it→b≠bb→s.heap.get? b=some o→h'.get? b=some o)→R (.ok (.ret v)) { s with heap:=h',toks:=tt }) :
  codeAny (model prog w) A (.builtin "min.loop" ⟨[.ref it,.none,.ref bb],[(Str.ofString "default",d)]⟩) R s:=by
 have nm:(toString "min" ++ toString ".loop":String)="min.loop":=by decide
 have wk:=Walks.list (prog:=prog) (w:=w) (A:=A.in1) hd it al hal items
 have hbw:bb∉[it]:=by simpa using hbi
 have ns:∀{b:Addr},b≠it→b∉[it]:=fun h=>by simpa using h
 refine codeAny_builtin F.entry_min_loop (?_)
 rw [Around.under_plainId (F.plain_min_loop) _]
 show wpAny _ A.in1 (seqItems? (.ref bb) >>= _) _ _ s
 refine wpAny_bind (wpAny_seqItems hbb rfl ?_)
 show wpAny _ A.in1 (tryCatch (pyNext (.ref it)) _ >>= _) _ _ s
 by_cases n0:0 < items.size
 ·refine wpAny_bind (wpAny_tryCatch (wk.item 0 s _ _ n0 at0 fun v h' tt pv at1 kk'=>?_))
  have hbb':=kk' bb _ hbw hbb
  show wpAny _ A.in1 (updateSeq bb (fun _=>#[v,v]) >>= _) _ _ _
  refine wpAny_bind ?_
  refine wpAny_updateSeq hbb' rfl ?_
  rw [nm]
  refine wpAny_pure ⟨plainId_quiet F.plain_min_loop _,vP hd hal hbi hba gk cm _ 0 _ v _ rfl n0 (wk.frame _ _ _ at1 fun b bf o e=>?_) pv (gk _ _ (gk _ _ g fun b o ni _ e=>kk' b o (ns ni) e) fun b o _ nb e=>(Heap.get?_update_other _ _ (Ne.symm nb)).trans e) (Heap.get?_update_self _ hbb' rfl) fun v' h2 tt2 pv' kk2=>?_⟩
  ·exact(Heap.get?_update_other _ _ (fun h:bb=b=>by subst h;simp at bf;exact bf.elim hbi hba)).trans e
  ·exact fin n0 v' h2 tt2 pv' fun b o ni nb e=>kk2 b o ni nb ((Heap.get?_update_other _ _ (Ne.symm nb)).trans (kk' b o (ns ni) e))
 ·have e0:items.size=0:=by omega
  refine wpAny_bind (wpAny_tryCatch (wk.done s _ _ (by rw [e0];exact at0) fun h' tt kk'=>?_))
  refine wpAny_bind (wpAny_rule (wpAny_pure (?_)))
  exact h0 e0 h' tt fun b o ni _ e=>kk' b o (ns ni) e
end
section
variable {prog:Program} {w:World} {A:Around} {E:Value→Shared→Prop} {s:Shared}
theorem vo{l:Addr}{items:Array Value}{kf:Nat→List Int}{G:Heap→Prop}{d:Value}{Q:Value→Shared→Prop}(hd:A.handled=none)(hil:s.heap.IsList l items)
  (gk:∀it bb h h',s.heap.objs.size≤it→s.heap.objs.size≤bb→G h→(∀b o,b≠it→b≠bb→h.get? b=some o→h'.get? b=some o)→G h') (g:G s.heap)
  (cm:∀(i j:Nat) (vi vj:Value) (s:Shared) (Q:Value→Shared→Prop) (E:Value→Shared→Prop),items[i]?=some vi→items[j]?=some vj→G s.heap→Q (.bool (sQ kf i j)) s→wpAny (model prog w) A.in1 (richCompare .Lt vi vj) Q E s)
  (h0:items.size=0→∀h' tt,(∀b o,s.heap.get? b=some o→h'.get? b=some o)→Q d { s with heap:=h',toks:=tt })
  (fin:0 < items.size→∀v h' tt,items[argBest (sQ kf) (items.size - 1)]?=some v→(∀b o,s.heap.get? b=some o→h'.get? b=some o)→Q v { s with heap:=h',toks:=tt }) :
  wpAny (model prog w) A (call (.builtin "min") [.ref l] [(Str.ofString "default",d)]) Q E s:=by
 have nm:(toString "min" ++ toString ".loop":String)="min.loop":=by decide
 refine kmk_tree F.kind_min F.plain_min F.entry_min (ku _ _) ?_
 show wpAny _ A.in1 (Builtin.Builtins.bindParams "min" ["key","default"] 0 ⟨[],[(Str.ofString "default",d)]⟩ >>= _) _ _ s
 refine wpAny_bind (wpAny_of_eq (show Builtin.Builtins.bindParams "min" ["key","default"] 0 ⟨[],[(Str.ofString "default",d)]⟩=pure [none,some d]from rfl) ?_)
 refine wpAny_bind (wpAny_pure ?_)
 refine wpAny_bind (wpAny_pyIter_list hil ?_)
 refine wpAny_bind (wpAny_newObj_type (?_))
 have llt:l < s.heap.objs.size:=by
  obtain⟨o,ho,_⟩:=hil
  exact Heap.lt_size ho
 rw [nm]
 refine wpAny_pure ⟨plainId_quiet F.plain_min_loop _,?_⟩
 have esz:(s.heap.push { cls:=.type "list_iterator",data:=.fields #[.ref l,.int 0 0] }).objs.size=s.heap.objs.size+1:=by simp [Heap.push]
 have kp:∀b o,s.heap.get? b=some o→((s.heap.push { cls:=.type "list_iterator",data:=.fields #[.ref l,.int 0 0] }).push { cls:=.type "list",data:=.seq #[] }).get? b=some o:=fun b o e=>Heap.get?_push_of_some _ (Heap.get?_push_of_some _ e)
 refine lM (it:=s.heap.objs.size) (al:=l) (bb:=(s.heap.push { cls:=.type "list_iterator",data:=.fields #[.ref l,.int 0 0] }).objs.size) (items:=items) (G:=G) (kf:=kf) hd (Nat.ne_of_lt llt) (by rw [esz];exact Nat.succ_ne_self _) (by rw [esz];exact(Nat.ne_of_lt (Nat.lt_succ_of_lt llt)).symm) (fun h h' g k=>gk _ _ h h' (Nat.le_refl _) (by rw [esz];exact Nat.le_succ _) g k) cm
  ⟨⟨_,Heap.get?_push_of_some _ (Heap.get?_push_size _ rfl),rfl,rfl⟩,hil.at fun o e=>kp _ _ e⟩ (gk _ _ _ _ (Nat.le_refl _) (Nat.le_refl _) g fun b o _ _ e=>kp b o e) (Heap.get?_push_size _ rfl) (fun e h' tt k=>h0 e h' tt fun b o eb=>?_) (fun n0 v h' tt hv k=>fin n0 v h' tt hv fun b o eb=>?_)
 ·have:=Heap.lt_size eb
  exact k b o (Nat.ne_of_lt this) (by rw [esz];exact Nat.ne_of_lt (Nat.lt_succ_of_lt this)) (kp b o eb)
 ·have:=Heap.lt_size eb
  exact k b o (Nat.ne_of_lt this) (by rw [esz];exact Nat.ne_of_lt (Nat.lt_succ_of_lt this)) (kp b o eb)
end
def wH(a b:Int×Int):Bool:=decide (a.1 < b.1) || (decide (a.1=b.1) && decide (a.2 < b.2))
theorem vL(a b c d:Int):HT.lexLt [a,b] [c,d]=wH (a,b) (c,d):=by
 simp only [HT.lexLt,wH]
 by_cases h:a=c
 ·subst h
  by_cases h2:b=d
  ·subst h2;simp
  ·simp [h2]
 ·simp [h]
theorem rb(ks:List (Int×Int))(kf:Nat→List Int)(hk:∀i k,ks[i]?=some k→kf i=[k.1,k.2]):∀n,n < ks.length→∃k,ks[argBest (sQ kf) n]?=some k∧∀j k',j≤n→ks[j]?=some k'→wH k' k=false
 | 0,h=>by
  refine⟨ks[0],List.getElem?_eq_getElem h,fun j k' hj e=>?_⟩
  obtain rfl:j=0:=by omega
  rw [List.getElem?_eq_getElem h]at e
  cases e
  simp [wH]
 | n+1,h=>by
  obtain⟨k,h1,h2⟩:=rb ks kf hk n (by omega)
  have e1:ks[n+1]?=some ks[n+1]:=List.getElem?_eq_getElem h
  have hb:sQ kf (n+1) (argBest (sQ kf) n)=wH ks[n+1] k:=by
   show HT.lexLt (kf (n+1)) (kf (argBest (sQ kf) n))=_
   rw [hk _ _ e1,hk _ _ h1,vL]
  cases hl:wH ks[n+1] k with
  | true=>
   refine⟨ks[n+1],by simp only [argBest,hb,hl,if_true];exact e1,fun j k' hj e=>?_⟩
   by_cases hjn:j=n+1
   ·subst hjn
    rw [e1]at e
    cases e
    simp [wH]
   ·have:=h2 j k' (by omega) e
    unfold wH at this hl ⊢
    simp only [Bool.or_eq_true,Bool.and_eq_true,decide_eq_true_eq,Bool.or_eq_false_iff,Bool.and_eq_false_iff,decide_eq_false_iff_not]at this hl ⊢
    omega
  | false=>
   refine⟨k,by simp only [argBest,hb,hl,Bool.false_eq_true,if_false];exact h1,fun j k' hj e=>?_⟩
   by_cases hjn:j=n+1
   ·subst hjn
    rw [e1]at e
    cases e
    exact hl
   ·exact h2 j k' (by omega) e
def AA(K:PySem.W.Frag)(t tk:TA):TE:=fun σ H Q=>t σ H fun vs H1=>tk σ H1 fun zs H2=>∃(p:Addr) (ts:List Addr) (ks:List (Int×Int)),vs=[.ref p]∧zs=[.non]∧aO K H2 p (ts.map V.ref)∧ts.length=ks.length∧(∀(i:Nat) (t:Addr) (k:Int×Int),ts[i]?=some t→ks[i]?=some k→cR K H2 t [.int k.1,.int k.2])∧
 (ks=[]→Q .non H2)∧∀(i:Nat) (t:Addr) (k:Int×Int),ts[i]?=some t→ks[i]?=some k→(∀k'∈ks,wH k' k=false)→Q (.ref t) H2
theorem zK{X:Cx}{e v:Expr}{t tk:TA}{p kp pos:Pos}(K:PySem.W.Frag)(hu:X.A.units+4+1 < cLine)(hc:X.calm=true)(hg:Gl X "min")(hm:X.mg "min"=none)(ha:PA X [e] t)(hkw:PK X [⟨some (Str.ofString "default"),v,kp⟩] tk)(hK:X.K=K:=by rfl)(hs:starEach [e] X.env=[(false,eval e X.env)]:=by rfl):
  PE X (.Call (.Name "min" p) [e] [⟨some (Str.ofString "default"),v,kp⟩] pos) (AA K t tk):=by
 subst hK
 intro pins s σ H Q I h
 refine wpAny_Call_Name_kw (fq I hg hm boot_min ?_ (by decide) (by decide))
 refine callWith_kw (cL (ha pos pins s σ H _ I h) fun us s1 ⟨vs,H1,I1,r1,q1⟩=>cL (hkw pos pins s1 σ H1 _ I1 q1) fun ws s2 ⟨zs,H2,I2,r2,q2⟩=>?_) (by rw [hs];rfl) (by rw [hs];rfl)
 obtain⟨l,ts,ks,rfl,rfl,hl,htl,htc,q0,qn⟩:=q2
 obtain⟨u,rfl,ru⟩:=d0 r1
 cases ru
 obtain⟨u,rfl,ru⟩:=d0 r2
 cases ru
 show wpAny _ _ (call (.builtin "min") [.ref l] [(Str.ofString "default",.none)]) _ _ s2
 obtain⟨its,rv,pl,_⟩:=I2.list hl
 have hil:=pl.isList
 have hlen:=rv.length
 rw [List.length_map]at hlen
 have tup:∀(i:Nat) (t:Addr) (k:Int×Int),ts[i]?=some t→ks[i]?=some k→∃vs:List Value,IsTup s2.heap t vs.toArray∧IntsAre vs [k.1,k.2]:=fun i t k e1 e2=>by
  obtain⟨vs,r,p,_⟩:=I2.tuple (htc i t k e1 e2)
  exact⟨vs,p,tj (ns:=[k.1,k.2]) r⟩
 have tlt:∀(i:Nat) (t:Addr) (k:Int×Int),ts[i]?=some t→ks[i]?=some k→t < s2.heap.objs.size:=fun i t k e1 e2=>by
  obtain⟨vs,⟨o,ho,_⟩,_⟩:=tup i t k e1 e2
  exact Heap.lt_size ho
 have at':∀(i:Nat) (v:Value),its.toArray[i]?=some v→∃t k,ts[i]?=some t∧ks[i]?=some k∧v=.ref t:=fun i v hv=>by
  have hi:i < its.length:=by
   have:=(Array.getElem?_eq_some_iff.mp hv).1
   simpa using this
  have e1:ts[i]?=some (ts[i]'(by omega)):=List.getElem?_eq_getElem (by omega)
  have e2:ks[i]?=some (ks[i]'(by omega)):=List.getElem?_eq_getElem (by omega)
  obtain⟨u,h1,h2⟩:=rv.get (i:=i) (x:=.ref (ts[i]'(by omega))) (by rw [List.getElem?_map,e1];rfl)
  rw [List.getElem?_toArray,h1]at hv
  cases hv
  cases h2
  exact⟨_,_,e1,e2,rfl⟩
 have hkf:∀(i:Nat) (k:Int×Int),ks[i]?=some k→(fun i=>match ks[i]? with | some k=>[k.1,k.2] | none=>[]) i=[k.1,k.2]:=fun i k e=>by
  simp only [e]
 refine vo (kf:=fun i=>match ks[i]? with | some k=>[k.1,k.2] | none=>[]) (G:=fun h=>∀(i:Nat) (t:Addr) (k:Int×Int),ts[i]?=some t→ks[i]?=some k→∃vs:List Value,IsTup h t vs.toArray∧IntsAre vs [k.1,k.2]) (I2.ok.hd hc) hil ?_ tup ?_ ?_ ?_
 ·intro J S h h' hJ hS g k i t kk e1 e2
  obtain⟨vs,⟨o,ho,hr⟩,hv⟩:=g i t kk e1 e2
  have:=tlt i t kk e1 e2
  exact⟨vs,⟨o,k t o (Nat.ne_of_lt (Nat.lt_of_lt_of_le this hJ)) (Nat.ne_of_lt (Nat.lt_of_lt_of_le this hS)) ho,hr⟩,hv⟩
 ·intro i j vi vj s Q E hi hj g q
  obtain⟨t,k,e1,e2,rfl⟩:=at' i vi hi
  obtain⟨t',k',e1',e2',rfl⟩:=at' j vj hj
  obtain⟨vs,p,hv⟩:=g i t k e1 e2
  obtain⟨vs',p',hv'⟩:=g j t' k' e1' e2'
  unfold sQ at q
  rw [hkf i k e2,hkf j k' e2']at q
  exact HT.lt_tupInts (A:=X.A.in1) p p' hv hv' (by show X.A.units+1 < cLine;omega) q
 ·intro h0 h' tk kp
  rw [List.size_toArray]at h0
  exact⟨.non,H2,I2.kept (t':=tk) kp,rfl,q0 (List.length_eq_zero_iff.mp (by omega))⟩
 ·intro hn v h' tk hv kp
  rw [List.size_toArray]at hn hv
  obtain⟨k0,h1,h2⟩:=rb ks _ hkf (its.length - 1) (by omega)
  obtain⟨t,k,e1,e2,rfl⟩:=at' _ v hv
  rw [h1]at e2
  cases e2
  refine⟨.ref t,H2,I2.kept (t':=tk) kp,rfl,qn _ t k0 e1 h1 fun k' hk'=>?_⟩
  obtain⟨j,hj,rfl⟩:=List.getElem_of_mem hk'
  exact h2 j _ (by omega) (List.getElem?_eq_getElem hj)
end L2
namespace L2
open PySem PySem.Spec PyProof.Rows
def Bd:V→List V→Hp→VK→Prop:=fun x vs H Q=>∃l ns c,x=.ref l∧vs=[.int c]∧H l=some (.lst (List.map V.int ns))∧Q (.int ((ns.countP fun n=>n == c:Nat):Int)) H
def C3(c:Int):Value→Bool
 | .int k _=>k == c
 | _=>false
theorem mK(c:Int):∀{ns:List Int} {us:List Value},aW (ns.map V.int) us→us.countP (C3 c)=ns.countP fun n=>n == c
 | [],_,.nil=>rfl
 | n::ns,_,.cons r t=>by
  obtain⟨tk,rfl⟩:=r
  rw [List.countP_cons,List.countP_cons,mK c t]
  rfl
theorem xI{ns:List Int}:∀{us:List Value},aW (ns.map V.int) us→∀u∈us,∃k t,u=.int k t:=by
 induction ns with
 | nil=>intro us r u hu;cases r;cases hu
 | cons n ns ih=>
  intro us r u hu
  cases r with
  | cons r t=>
   obtain⟨tk,rfl⟩:=r
   rcases List.mem_cons.mp hu with rfl | hu
   ·exact⟨_,_,rfl⟩
   ·exact ih t u hu
theorem mW{X:Cx}:CI X "list.count" Bd:=by
 intro pins s σ H x vs v us Q I rx rv h
 obtain⟨l,ns,c,rfl,rfl,hH,q⟩:=h
 cases rx
 obtain⟨u,rfl,ru⟩:=rv.one
 obtain⟨t,rfl⟩:=ru
 obtain⟨z,its,n,r,hl,e⟩:=I.lstM hH
 refine call_meets F.slot_list_count ⟨_,e,rfl⟩ F.entry_list_count (F.args_list_count_2 _ _) (SeqAt.list_countAt l its.toArray n none #[] (.int c t) (C3 c)) ⟨e,fun y hy=>?_,?_⟩
 ·obtain⟨k,tk,rfl⟩:=xI r y (by simpa using hy)
  exact SeqAt.EqAt.int_int k tk c t
 ·refine⟨.int _,H,I.tok _,⟨_,rfl⟩,?_⟩
  rw [show its.toArray.toList=its from rfl,mK c r]
  exact q
section
variable {prog:Program} {w:World} {A:Around} {E:Value→Shared→Prop} {s:Shared}
theorem rz{R:Result→Shared→Prop}{r:Addr}{a b c:Int}{t u v:Tok}{n:Nat}(hd:A.handled=none)(hr:IsRange s.heap r a b c t u v)(big:Builtin.Range.small a b c=false)(en:Builtin.Range.rangeSize a b c=n)(nl:n≤2 ^ 24)(B:Addr)(res:Value)(e0:Nat)
  (hB:s.heap.get? B=some { cls:=.type "list",data:=.seq #[] e0 })
  (fin:∀h' tk acc e',(∀b o,b≠B→s.heap.get? b=some o→h'.get? b=some o)→h'.get? B=some { cls:=.type "list",dict:=none,data:=.seq acc e',slots:=#[] }→ItemsOf (fun i v=>∃t,v=.int (a+i * c) t) acc n→R (.ok (.ret res)) { s with heap:=h',toks:=tk }) :
  wpAny (model prog w) A.in1 (Builtin.List.listExtendWith (.ref B) (.ref r) res) (fun f s'=>match f with | .done f=>R (.ok f) s' | .again c'=>c'.quiet=true∧codeAny (model prog w) A c' R s') (fun e s'=>R (.error e) s') s:=by
 have nBr:B≠r:=fun e=>by rw [e,hr]at hB;simp at hB
 have Blt:B < s.heap.objs.size:=Heap.lt_size hB
 have nBJ:B≠s.heap.objs.size:=Nat.ne_of_lt Blt
 have wk:=(Walks.longrange (prog:=prog) (w:=w) (A:=A.in1) hd s.heap.objs.size a c n).toS
 have run:∀(h:Heap) (e1 tk:Nat),IsLongIter h s.heap.objs.size (a+((0:Nat):Int) * c) ((n:Int) - ((0:Nat):Int)) c→(∀b o,b≠B→s.heap.get? b=some o→h.get? b=some o)→h.get? B=some { cls:=.type "list",data:=.seq #[] e1 }→
   codeAny (model prog w) A (.builtin "list.extend.loop" ⟨[.ref B,.ref s.heap.objs.size,res],[]⟩) R { s with heap:=h,toks:=tk }:=by
  intro h e1 tk ih hk hB1
  refine codeAny_extend_loopS wk (by rw [sizeLine_eq];omega) B (fun hm=>nBJ (List.mem_singleton.mp hm)) res n 0 _ #[] e1 rfl (Nat.zero_le _) ih hB1 (ItemsOf.nil _) fun s' acc e' mv hB' hacc=>?_
  rw [Moved.eq_with mv]
  refine fin s'.heap s'.toks acc e' (fun b o hb e=>mv.heap b o (fun hm=>?_) (hk b o hb e)) hB' hacc
  rcases List.mem_cons.mp hm with z | hm
  ·exact hb z
  ·exact absurd (Heap.lt_size e) (by rw [List.mem_singleton.mp hm];exact Nat.lt_irrefl _)
 unfold Builtin.List.listExtendWith
 refine wpAny_bind (wpAny_typeOf (T:="range") ⟨_,hr,rfl⟩ ?_)
 simp only [show Builtin.List.listSameRef (.ref B) (.ref r)=false by simp [Builtin.List.listSameRef,nBr],show(Value.type "range" == Value.type "list")=false by decide,show(Value.type "range" == Value.type "tuple")=false by decide,Bool.or_false,Bool.false_eq_true,if_false]
 refine wpAny_bind (wpAny_pyIter_longrange hr big ?_)
 refine wpAny_bind (wpAny_holding (wpAny_hint_range (n:=n) (Heap.get?_push_of_some _ hr) en nl ?_))
 have it1:IsLongIter (s.heap.push { cls:=.type "longrange_iterator",data:=.fields #[rawInt a,rawInt (Builtin.Range.rangeSize a b c),rawInt c] }) s.heap.objs.size (a+((0:Nat):Int) * c) ((n:Int) - ((0:Nat):Int)) c:=by
  rw [en]
  simpa using Heap.get?_push_size _ rfl
 have hB1:=Heap.get?_push_of_some { cls:=.type "longrange_iterator",data:=.fields #[rawInt a,rawInt (Builtin.Range.rangeSize a b c),rawInt c] } hB
 refine wpAny_ite_split (fun _=>?_) (fun _=>wpAny_pure ⟨plainId_quiet F.plain_extend_loop _,run _ e0 _ it1 (fun b o _ e=>Heap.get?_push_of_some _ e) hB1⟩)
 refine wpAny_bind (wpAny_rule (wpAny_bind ?_))
 show wpAny _ _ (updateSeq B (·.push .none) >>= fun _=>updateSeq B (·.pop)) _ _ _
 refine wpAny_bind (wpAny_updateSeq hB1 rfl ?_)
 have hB2:=Heap.get?_update_self (Obj.mapSeq (·.push Value.none)) hB1 rfl
 refine wpAny_updateSeq (hz:=by seq_fits) hB2 rfl ?_
 have hB3:=Heap.get?_update_self (Obj.mapSeq (·.pop)) hB2 rfl
 refine wpAny_pure ⟨plainId_quiet F.plain_extend_loop _,run _ _ _ ?_ (fun b o hb e=>?_) hB3⟩
 ·exact(Heap.get?_update_other _ _ nBJ).trans ((Heap.get?_update_other _ _ nBJ).trans it1)
 ·exact(Heap.get?_update_other _ _ (Ne.symm hb)).trans ((Heap.get?_update_other _ _ (Ne.symm hb)).trans (Heap.get?_push_of_some _ e))
theorem mH{Q:Value→Shared→Prop}{r:Addr}{a b c:Int}{t u v:Tok}{n:Nat}(hd:A.handled=none)(hr:IsRange s.heap r a b c t u v)(big:Builtin.Range.small a b c=false)(en:Builtin.Range.rangeSize a b c=n)(nl:n≤2 ^ 24)
  (fin:∀h' tk acc e',(∀b o,s.heap.get? b=some o→h'.get? b=some o)→h'.get? s.heap.objs.size=some { cls:=.type "list",dict:=none,data:=.seq acc e',slots:=#[] }→ItemsOf (fun i v=>∃t,v=.int (a+i * c) t) acc n→Q (.ref s.heap.objs.size) { s with heap:=h',toks:=tk }) :
  wpAny (model prog w) A (call (.type "list") [.ref r]) Q E s:=by
 refine callType_codes (Q₁:=fun ob s1=>ob=.ref s.heap.objs.size∧s1={ s with heap:=s.heap.push { cls:=.type "list",data:=.seq #[] } }) F.called_list (F.typeCall_list_1 _) F.entry_list_init (code_list_new _ ⟨rfl,rfl⟩) fun ob s1 h1=>?_
 obtain⟨rfl,rfl⟩:=h1
 have hB:(s.heap.push { cls:=.type "list",data:=.seq #[] }).get? s.heap.objs.size=some { cls:=.type "list",data:=.seq #[] }:=Heap.get?_push_size _ rfl
 have hr1:IsRange (s.heap.push { cls:=.type "list",data:=.seq #[] }) r a b c t u v:=Heap.get?_push_of_some _ hr
 have nBr:s.heap.objs.size≠r:=(Nat.ne_of_lt (Heap.lt_size hr)).symm
 refine⟨⟨_,hB,rfl⟩,F.args_list_init_2 _ _,?_⟩
 show wpAny _ A.in1.in1 (do let old ←Builtin.List.listItems (.ref s.heap.objs.size);Builtin.List.listUpdate (.ref s.heap.objs.size) (fun _=>#[]);letGo old.toList.reverse;Builtin.List.listExtendWith (.ref s.heap.objs.size) (.ref r) .none) _ _ _
 refine wpAny_bind ?_
 unfold Builtin.List.listItems
 refine wpAny_bind (wpAny_seqItems hB rfl (wpAny_pure ?_))
 show wpAny _ _ (updateSeq s.heap.objs.size (fun _=>#[]) >>= fun _=>letGo (#[]:Array Value).toList.reverse >>= fun _=>Builtin.List.listExtendWith (.ref s.heap.objs.size) (.ref r) .none) _ _ _
 refine wpAny_bind (wpAny_updateSeq hB rfl ?_)
 have hB2:=Heap.get?_update_self (Obj.mapSeq (fun _=>(#[]:Array Value))) hB rfl
 refine wpAny_bind (wpAny_letGo ?_)
 refine rz (A:=A.in1) hd (show IsRange _ r a b c t u v from(Heap.get?_update_other _ _ nBr).trans hr1) big en nl _ .none _ hB2 fun h' tk acc e' hk hB' hacc=>?_
 exact⟨rfl,fin h' tk acc e' (fun b o e=>hk b o (Nat.ne_of_lt (Heap.lt_size e)) ((Heap.get?_update_other _ _ (Nat.ne_of_lt (Heap.lt_size e)).symm).trans (Heap.get?_push_of_some _ e))) hB' hacc⟩
end
def intsFrom(a:Int)(n:Nat):List Int:=(List.range n).map fun(i:Nat)=>a+i
theorem nS:∀(ns:List Int) (us:List Value),us.length=ns.length→(∀(j:Nat) v n,us[j]?=some v→ns[j]?=some n→∃t,v=.int n t)→aW (ns.map V.int) us
 | [],[],_,_=>.nil
 | [],_::_,h,_=>by simp at h
 | _::_,[],h,_=>by simp at h
 | n::ns,u::us,h,hv=>by
  obtain⟨t,e⟩:=hv 0 u n rfl rfl
  exact .cons ⟨t,e⟩ (nS ns us (by simpa using h) fun j v n e1 e2=>hv (j+1) v n e1 e2)
theorem mG{X:Cx}{pins:List (Addr×Obj)}{σ:St}{H:Hp}{s:Shared}{Q:VK}{r:Addr}{i j:Int}{t u v:Tok}(hc:X.calm=true)(I:aU X pins σ H s)(hr:IsRange s.heap r i j 1 t u v)(hl:j - i≤1000)
  (q:∀l,H l=none→Q (.ref l) (upd H l (.lst ((intsFrom i (j - i).toNat).map V.int)))):wpAny (model X.prog X.w) X.A (call (.type "list") [.ref r]) (EP X pins σ Q) X.xe s:=by
 have hs:sizeLine=16777216:=sizeLine_eq
 have en:Builtin.Range.rangeSize i j 1=(((j - i).toNat:Nat):Int):=by rw [rangeSize_one];split<;>omega
 have nl:(j - i).toNat≤2 ^ 24:=by omega
 have fin:∀h' tk acc e',(∀b o,s.heap.get? b=some o→h'.get? b=some o)→h'.get? s.heap.objs.size=some { cls:=.type "list",dict:=none,data:=.seq acc e',slots:=#[] }→ItemsOf (fun k v=>∃t,v=.int (i+k * 1) t) acc (j - i).toNat→EP X pins σ Q (.ref s.heap.objs.size) { s with heap:=h',toks:=tk }:=fun h' tk acc e' hk hB hacc=>by
  have rv:aW ((intsFrom i (j - i).toNat).map V.int) acc.toList:=by
   refine nS _ _ (by simp [intsFrom,hacc.1]) fun k v n e1 e2=>?_
   obtain⟨t,rfl⟩:=hacc.2 k v (by simpa using e1)
   have hk:k < (j - i).toNat:=by
    have:=(List.getElem?_eq_some_iff.mp e2).1
    simpa [intsFrom]using this
   simp only [intsFrom,List.getElem?_map,List.getElem?_range hk]at e2
   cases e2
   exact⟨t,by rw [Int.mul_one]⟩
  refine⟨.ref s.heap.objs.size,_,I.laid (t':=tk) hk (Nat.le_refl _) (show dv X.prog X.w _ h' _ (.lst ((intsFrom i (j - i).toNat).map V.int))from⟨by simp [intsFrom];omega,acc.toList,e',rv,hB⟩),rfl,q _ (I.hok.fresh (Nat.le_refl _))⟩
 cases hb:Builtin.Range.small i j 1 with
 | true=>exact call_list_range (I.ok.hd hc) hr hb en nl fin
 | false=>exact mH (I.ok.hd hc) hr hb en nl fin
def my(ta:TA):TE:=fun σ H Q=>ta σ H fun vs H1=>∃i j:Int,vs=[.int i,.int j]∧j - i≤1000∧∀l,H1 l=none→Q (.ref l) (upd H1 l (.lst ((intsFrom i (j - i).toNat).map V.int)))
def va(ta:TA):TE:=fun σ H Q=>ta σ H fun vs H1=>∃j:Int,vs=[.int j]∧j≤1000∧∀l,H1 l=none→Q (.ref l) (upd H1 l (.lst ((intsFrom 0 j.toNat).map V.int)))
theorem kI{X:Cx}{a b:Expr}{ta:TA}{p p2 pos pos2:Pos}(hc:X.calm=true)(hgl:Gl X "list")(hml:X.mg "list"=none)(hg:Gl X "range")(hm:X.mg "range"=none)(ha:PA X [a,b] ta)(hs:starEach [a,b] X.env=[(false,eval a X.env),(false,eval b X.env)]:=by rfl)(hs2:starEach [b] X.env=[(false,eval b X.env)]:=by rfl):
  PE X (.Call (.Name "list" p) [.Call (.Name "range" p2) [a,b] [] pos2] [] pos) (my ta):=by
 intro pins s σ H Q I h
 refine wpAny_Call_Name_kw (fq I hgl hml boot_list (PyProof.Rows.callWith_type1 ?_ rfl rfl))
 show wpAny _ _ (spliced ((false,eval (.Call (.Name "range" p2) [a,b] [] pos2) X.env)::backTo pos (starEach [] X.env))) _ _ s
 refine Calls.spliced_cons ?_
 refine wpAny_Call_Name_kw (fq I hg hm boot_range (PyProof.Rows.callWith_type1 (cL (ha pos2 pins s σ H _ I h) fun us s1 ⟨vs,H1,I1,r1,q1⟩=>?_) (by rw [hs,hs2]) (by rw [hs2];rfl)))
 obtain⟨i,j,e,hl,q⟩:=q1
 subst e
 cases r1 with
 | cons r rr=>
  cases rr with
  | cons r' rr=>
   cases rr
   obtain⟨t,rfl⟩:=r
   obtain⟨t',rfl⟩:=r'
   refine call_range_2 (Calls.spliced_nil ?_)
   exact mG hc (I1.kept fun b o e=>Heap.get?_push_of_some _ e) (IsRange.new ..) hl q
theorem v8{X:Cx}{a:Expr}{ta:TA}{p p2 pos pos2:Pos}(hc:X.calm=true)(hgl:Gl X "list")(hml:X.mg "list"=none)(hg:Gl X "range")(hm:X.mg "range"=none)(ha:PA X [a] ta)(hs:starEach [a] X.env=[(false,eval a X.env)]:=by rfl):
  PE X (.Call (.Name "list" p) [.Call (.Name "range" p2) [a] [] pos2] [] pos) (va ta):=by
 intro pins s σ H Q I h
 refine wpAny_Call_Name_kw (fq I hgl hml boot_list (PyProof.Rows.callWith_type1 ?_ rfl rfl))
 show wpAny _ _ (spliced ((false,eval (.Call (.Name "range" p2) [a] [] pos2) X.env)::backTo pos (starEach [] X.env))) _ _ s
 refine Calls.spliced_cons ?_
 refine wpAny_Call_Name_kw (fq I hg hm boot_range (PyProof.Rows.callWith_type1 (cL (ha pos2 pins s σ H _ I h) fun us s1 ⟨vs,H1,I1,r1,q1⟩=>?_) hs rfl))
 obtain⟨j,e,hl,q⟩:=q1
 subst e
 cases r1 with
 | cons r rr=>
  cases rr
  obtain⟨t,rfl⟩:=r
  refine call_range_1 (Calls.spliced_nil ?_)
  exact mG hc (I1.kept fun b o e=>Heap.get?_push_of_some _ e) (IsRange.new ..) (by omega) (by simpa using q)
end L2
seal PySem.wpAny
namespace K23
open PySem PyProof.Rows L2
def cQ(i:Nat):Stmt:=PySem.Challenge.pw_fourvoices_k23_the_fault_of_a_line.main.body.getD i (.Pass ⟨0,0,0,0⟩)
abbrev kR:Stmt:=cQ 6
theorem ua:aB ["column","voice"] ["column","voice"] (ao kR):=⟨rfl,rfl,rfl,by decide +kernel,rfl,by decide +kernel,by decide +kernel⟩
abbrev t6:Stmt:=cQ 7
theorem zX:aB ["column","first","second"] ["column","first","second"] (ao t6):=⟨rfl,rfl,rfl,by decide +kernel,rfl,by decide +kernel,by decide +kernel⟩
abbrev tY:Stmt:=cQ 29
theorem zW:aB ["before","column","voice"] ["before","column","voice"] (ao tY):=⟨rfl,rfl,rfl,by decide +kernel,rfl,by decide +kernel,by decide +kernel⟩
abbrev eX:Stmt:=bw (cQ 8) 0
theorem kX:aB ["self","row"] ["self","row"] (ao eX):=⟨rfl,rfl,rfl,by decide +kernel,rfl,by decide +kernel,by decide +kernel⟩
abbrev cP:Stmt:=bw (cQ 8) 1
theorem qJ:aB ["self"] ["self"] (ao cP):=⟨rfl,rfl,rfl,by decide +kernel,rfl,by decide +kernel,by decide +kernel⟩
abbrev bV:Stmt:=bw (cQ 8) 2
theorem oO:aB ["self"] ["self"] (ao bV):=⟨rfl,rfl,rfl,by decide +kernel,rfl,by decide +kernel,by decide +kernel⟩
abbrev gA:Stmt:=bw (cQ 8) 3
theorem oN:aB ["self","memory","before","column"] ["self","memory","before","column"] (ao gA):=⟨rfl,rfl,rfl,by decide +kernel,rfl,by decide +kernel,by decide +kernel⟩
abbrev b7:Stmt:=bw (cQ 8) 4
theorem nB:aB ["self","memory","last"] ["self","memory","last"] (ao b7):=⟨rfl,rfl,rfl,by decide +kernel,rfl,by decide +kernel,by decide +kernel⟩
abbrev eY:Stmt:=bw (cQ 9) 0
theorem kY:aB ["self","row","first","second","numbers"] ["self","row","first","second","numbers"] (ao eY):=⟨rfl,rfl,rfl,by decide +kernel,rfl,by decide +kernel,by decide +kernel⟩
abbrev gB:Stmt:=bw (cQ 9) 1
theorem oP:aB ["self","memory","before","column"] ["self","memory","before","column"] (ao gB):=⟨rfl,rfl,rfl,by decide +kernel,rfl,by decide +kernel,by decide +kernel⟩
abbrev ef:Stmt:=bw (cQ 10) 0
theorem jT:aB ["self","row","first","second","hours","numbers"] ["self","row","first","second","hours","numbers"] (ao ef):=⟨rfl,rfl,rfl,by decide +kernel,rfl,by decide +kernel,by decide +kernel⟩
abbrev fW:Stmt:=bw (cQ 10) 1
theorem ny:aB ["self","memory","before","column"] ["self","memory","before","column"] (ao fW):=⟨rfl,rfl,rfl,by decide +kernel,rfl,by decide +kernel,by decide +kernel⟩
abbrev ee:Stmt:=bw (cQ 11) 0
theorem jS:aB ["self","row","voice","notes"] ["self","row","voice","notes"] (ao ee):=⟨rfl,rfl,rfl,by decide +kernel,rfl,by decide +kernel,by decide +kernel⟩
abbrev fV:Stmt:=bw (cQ 11) 1
theorem nu:aB ["self","memory","before","column"] ["self","memory","before","column"] (ao fV):=⟨rfl,rfl,rfl,by decide +kernel,rfl,by decide +kernel,by decide +kernel⟩
abbrev eg:Stmt:=bw (cQ 12) 0
theorem jV:aB ["self","row","voice","notes"] ["self","row","voice","notes"] (ao eg):=⟨rfl,rfl,rfl,by decide +kernel,rfl,by decide +kernel,by decide +kernel⟩
abbrev fE:Stmt:=bw (cQ 12) 1
theorem lS:aB ["self","memory","last"] ["self","memory","last"] (ao fE):=⟨rfl,rfl,rfl,by decide +kernel,rfl,by decide +kernel,by decide +kernel⟩
abbrev eV:Stmt:=bw (cQ 30) 0
theorem kW:aB ["self","row","voice","numbers"] ["self","row","voice","numbers"] (ao eV):=⟨rfl,rfl,rfl,by decide +kernel,rfl,by decide +kernel,by decide +kernel⟩
abbrev gz:Stmt:=bw (cQ 30) 1
theorem oM:aB ["self","memory","before","column"] ["self","memory","before","column"] (ao gz):=⟨rfl,rfl,rfl,by decide +kernel,rfl,by decide +kernel,by decide +kernel⟩
abbrev d9:Stmt:=bw (cQ 31) 0
theorem jR:aB ["self","row","first","second","numbers"] ["self","row","first","second","numbers"] (ao d9):=⟨rfl,rfl,rfl,by decide +kernel,rfl,by decide +kernel,by decide +kernel⟩
abbrev fT:Stmt:=bw (cQ 31) 1
theorem sc_Alike_after:aB ["self","memory","before","column","now"] ["self","memory","before","column"] (ao fT):=⟨rfl,rfl,rfl,by decide +kernel,rfl,by decide +kernel,by decide +kernel⟩
abbrev eT:Stmt:=bw (cQ 32) 0
theorem kT:aB ["self","row","voice","widest"] ["self","row","voice","widest"] (ao eT):=⟨rfl,rfl,rfl,by decide +kernel,rfl,by decide +kernel,by decide +kernel⟩
abbrev ia:Stmt:=bw (cQ 32) 1
theorem qG:aB ["self"] ["self"] (ao ia):=⟨rfl,rfl,rfl,by decide +kernel,rfl,by decide +kernel,by decide +kernel⟩
abbrev gw:Stmt:=bw (cQ 32) 2
theorem oI:aB ["self"] ["self"] (ao gw):=⟨rfl,rfl,rfl,by decide +kernel,rfl,by decide +kernel,by decide +kernel⟩
abbrev gv:Stmt:=bw (cQ 32) 3
theorem sc_Back_after:aB ["self","memory","before","column","step"] ["self","memory","before","column"] (ao gv):=⟨rfl,rfl,rfl,by decide +kernel,rfl,by decide +kernel,by decide +kernel⟩
abbrev fU:Stmt:=bw (cQ 32) 4
theorem nr:aB ["self","memory","last"] ["self","memory","last"] (ao fU):=⟨rfl,rfl,rfl,by decide +kernel,rfl,by decide +kernel,by decide +kernel⟩
abbrev eU:Stmt:=bw (cQ 22) 0
theorem kU:aB ["self","row","voice","most"] ["self","row","voice","most"] (ao eU):=⟨rfl,rfl,rfl,by decide +kernel,rfl,by decide +kernel,by decide +kernel⟩
abbrev ib:Stmt:=bw (cQ 22) 1
theorem qH:aB ["self"] ["self"] (ao ib):=⟨rfl,rfl,rfl,by decide +kernel,rfl,by decide +kernel,by decide +kernel⟩
abbrev gy:Stmt:=bw (cQ 22) 2
theorem oK:aB ["self","memory","before","column"] ["self","memory","before","column"] (ao gy):=⟨rfl,rfl,rfl,by decide +kernel,rfl,by decide +kernel,by decide +kernel⟩
abbrev et:Stmt:=bw (cQ 23) 0
theorem jY:aB ["self","row","voice","note","fewest","most"] ["self","row","voice","note","fewest","most"] (ao et):=⟨rfl,rfl,rfl,by decide +kernel,rfl,by decide +kernel,by decide +kernel⟩
abbrev gC:Stmt:=bw (cQ 23) 1
theorem oQ:aB ["self"] ["self"] (ao gC):=⟨rfl,rfl,rfl,by decide +kernel,rfl,by decide +kernel,by decide +kernel⟩
abbrev fY:Stmt:=bw (cQ 23) 2
theorem nE:aB ["self","memory","before","column"] ["self","memory","before","column"] (ao fY):=⟨rfl,rfl,rfl,by decide +kernel,rfl,by decide +kernel,by decide +kernel⟩
abbrev fF:Stmt:=bw (cQ 23) 3
theorem lT:aB ["self","memory","last"] ["self","memory","last"] (ao fF):=⟨rfl,rfl,rfl,by decide +kernel,rfl,by decide +kernel,by decide +kernel⟩
abbrev eh:Stmt:=bw (cQ 24) 0
theorem jW:aB ["self","row","turns","turn","inner"] ["self","row","turns","turn","inner"] (ao eh):=⟨rfl,rfl,rfl,by decide +kernel,rfl,by decide +kernel,by decide +kernel⟩
abbrev gx:Stmt:=bw (cQ 24) 1
theorem oJ:aB ["self"] ["self"] (ao gx):=⟨rfl,rfl,rfl,by decide +kernel,rfl,by decide +kernel,by decide +kernel⟩
abbrev fX:Stmt:=bw (cQ 24) 2
theorem nA:aB ["self","memory","before","column"] ["self","memory","before","column"] (ao fX):=⟨rfl,rfl,rfl,by decide +kernel,rfl,by decide +kernel,by decide +kernel⟩
abbrev ic:Stmt:=cQ 13
theorem sc_broken_at:aB ["rule","line","memory","before","place","column"] ["rule","line"] (ao ic):=⟨rfl,rfl,rfl,by decide +kernel,rfl,by decide +kernel,by decide +kernel⟩
abbrev ie:Stmt:=cQ 36
theorem sc_is_number:aB ["word","figures"] ["word"] (ao ie):=⟨rfl,rfl,rfl,by decide +kernel,rfl,by decide +kernel,by decide +kernel⟩
abbrev gD:Stmt:=cQ 40
theorem oR:aB ["numbers","voices"] ["numbers","voices"] (ao gD):=⟨rfl,rfl,rfl,by decide +kernel,rfl,by decide +kernel,by decide +kernel⟩
abbrev jb:Stmt:=cQ 41
theorem sr:aB ["numbers","ahead"] ["numbers","ahead"] (ao jb):=⟨rfl,rfl,rfl,by decide +kernel,rfl,by decide +kernel,by decide +kernel⟩
abbrev kS:Stmt:=cQ 42
theorem uc:aB ["row","numbers","voices"] ["row","numbers","voices"] (ao kS):=⟨rfl,rfl,rfl,by decide +kernel,rfl,by decide +kernel,by decide +kernel⟩
abbrev i9:Stmt:=cQ 43
theorem so:aB ["row","numbers","voices"] ["row","numbers","voices"] (ao i9):=⟨rfl,rfl,rfl,by decide +kernel,rfl,by decide +kernel,by decide +kernel⟩
abbrev kQ:Stmt:=cQ 44
theorem t9:aB ["row","numbers","voices"] ["row","numbers","voices"] (ao kQ):=⟨rfl,rfl,rfl,by decide +kernel,rfl,by decide +kernel,by decide +kernel⟩
abbrev i7:Stmt:=cQ 45
theorem sj:aB ["row","numbers","voices"] ["row","numbers","voices"] (ao i7):=⟨rfl,rfl,rfl,by decide +kernel,rfl,by decide +kernel,by decide +kernel⟩
abbrev kN:Stmt:=cQ 46
theorem t7:aB ["row","numbers","voices"] ["row","numbers","voices"] (ao kN):=⟨rfl,rfl,rfl,by decide +kernel,rfl,by decide +kernel,by decide +kernel⟩
abbrev kO:Stmt:=cQ 47
theorem t8:aB ["row","numbers","voices"] ["row","numbers","voices"] (ao kO):=⟨rfl,rfl,rfl,by decide +kernel,rfl,by decide +kernel,by decide +kernel⟩
abbrev jh:Stmt:=cQ 48
theorem sv:aB ["row","numbers","voices"] ["row","numbers","voices"] (ao jh):=⟨rfl,rfl,rfl,by decide +kernel,rfl,by decide +kernel,by decide +kernel⟩
abbrev i8:Stmt:=cQ 49
theorem sk:aB ["row","numbers","voices"] ["row","numbers","voices"] (ao i8):=⟨rfl,rfl,rfl,by decide +kernel,rfl,by decide +kernel,by decide +kernel⟩
abbrev ja:Stmt:=cQ 50
theorem sq:aB ["row","numbers","voices"] ["row","numbers","voices"] (ao ja):=⟨rfl,rfl,rfl,by decide +kernel,rfl,by decide +kernel,by decide +kernel⟩
abbrev gK:Stmt:=cQ 52
theorem sc_plain_rule:aB ["row","voices","words"] ["row","voices"] (ao gK):=⟨rfl,rfl,rfl,by decide +kernel,rfl,by decide +kernel,by decide +kernel⟩
abbrev gE:Stmt:=cQ 53
theorem sc_every_rule:aB ["row","voices","words","turns","turn","inner"] ["row","voices"] (ao gE):=⟨rfl,rfl,rfl,by decide +kernel,rfl,by decide +kernel,by decide +kernel⟩
abbrev fN:Stmt:=cQ 54
theorem sc_read_rule:aB ["text","voices","row","rule"] ["text","voices","row"] (ao fN):=⟨rfl,rfl,rfl,by decide +kernel,rfl,by decide +kernel,by decide +kernel⟩
abbrev eo:Stmt:=bw (cQ 16) 0
theorem jX:aB ["self","ranges","rules"] ["self","ranges","rules"] (ao eo):=⟨rfl,rfl,rfl,by decide +kernel,rfl,by decide +kernel,by decide +kernel⟩
abbrev nq:Stmt:=cQ 17
theorem sc_weight:aB ["score","told","low","high","rule"] ["score"] (ao nq):=⟨rfl,rfl,rfl,by decide +kernel,rfl,by decide +kernel,by decide +kernel⟩
abbrev fG:Stmt:=cQ 18
theorem sc_not_too_wide:aB ["score","told"] ["score"] (ao fG):=⟨rfl,rfl,rfl,by decide +kernel,rfl,by decide +kernel,by decide +kernel⟩
abbrev eZ:Stmt:=cQ 19
theorem sc_first_outside:aB ["low","high","voice","line","place","column"] ["low","high","voice","line"] (ao eZ):=⟨rfl,rfl,rfl,by decide +kernel,rfl,by decide +kernel,by decide +kernel⟩
abbrev qF:Stmt:=cQ 20
theorem sc_fault:aB ["score","line","places"] ["score","line"] (ao qF):=⟨rfl,rfl,rfl,by decide +kernel,rfl,by decide +kernel,by decide +kernel⟩
abbrev f6:Stmt:=cQ 58
theorem sc_voice_range:aB ["row","words","bounds"] ["row"] (ao f6):=⟨rfl,rfl,rfl,by decide +kernel,rfl,by decide +kernel,by decide +kernel⟩
abbrev tZ:Stmt:=cQ 59
theorem sc_read:aB ["text","ranges","rules","number","row","bounds"] ["text"] (ao tZ):=⟨rfl,rfl,rfl,by decide +kernel,rfl,by decide +kernel,by decide +kernel⟩
abbrev fZ:Stmt:=cQ 61
theorem sc_law_stirred:aB ["_law_cell","_law_place","_law_found","_law_rest","_law_turn","_law_upper","_law_lower"] ["_law_cell","_law_place"] (ao fZ):=⟨rfl,rfl,rfl,by decide +kernel,rfl,by decide +kernel,by decide +kernel⟩
abbrev kP:Stmt:=cQ 62
theorem sc_law_got:aB ["_law_script","_law_place","_law_cell","_law_power"] ["_law_script","_law_place"] (ao kP):=⟨rfl,rfl,rfl,by decide +kernel,rfl,by decide +kernel,by decide +kernel⟩
abbrev ij:Stmt:=cQ 63
theorem qK:aB ["_law_script","_law_first","_law_last"] ["_law_script","_law_first","_law_last"] (ao ij):=⟨rfl,rfl,rfl,by decide +kernel,rfl,by decide +kernel,by decide +kernel⟩
abbrev gH:Stmt:=cQ 64
theorem sc_law_ranges:aB ["_law_script","_law_first","_law_far","_law_found","_law_k","_law_cell","_law_low"] ["_law_script"] (ao gH):=⟨rfl,rfl,rfl,by decide +kernel,rfl,by decide +kernel,by decide +kernel⟩
abbrev je:Stmt:=cQ 65
theorem su:aB ["_law_rule_here"] ["_law_rule_here"] (ao je):=⟨rfl,rfl,rfl,by decide +kernel,rfl,by decide +kernel,by decide +kernel⟩
abbrev jf:Stmt:=cQ 66
theorem sc_law_some:aB ["_law_values","_law_bits","_law_found","_law_rest","_law_k","_law_taken"] ["_law_values","_law_bits"] (ao jf):=⟨rfl,rfl,rfl,by decide +kernel,rfl,by decide +kernel,by decide +kernel⟩
abbrev ip:Stmt:=cQ 67
theorem qL:aB ["_law_ranges_here","_law_a","_law_b"] ["_law_ranges_here","_law_a","_law_b"] (ao ip):=⟨rfl,rfl,rfl,by decide +kernel,rfl,by decide +kernel,by decide +kernel⟩
abbrev gJ:Stmt:=cQ 68
theorem sc_law_single:aB ["_law_cell","_law_bits","_law_ranges_here","_law_a","_law_b","_law_beat"] ["_law_cell","_law_bits","_law_ranges_here"] (ao gJ):=⟨rfl,rfl,rfl,by decide +kernel,rfl,by decide +kernel,by decide +kernel⟩
abbrev jd:Stmt:=cQ 69
theorem sc_law_rule:aB ["_law_cell","_law_bits","_law_ranges_here","_law_kind","_law_rest","_law_a","_law_low","_law_high","_law_notes","_law_b","_law_beat"] ["_law_cell","_law_bits","_law_ranges_here"] (ao jd):=⟨rfl,rfl,rfl,by decide +kernel,rfl,by decide +kernel,by decide +kernel⟩
abbrev il:Stmt:=cQ 70
theorem sc_law_rules:aB ["_law_script","_law_ranges_here","_law_heavy","_law_low","_law_high","_law_rules_here","_law_k","_law_rule_here"] ["_law_script","_law_ranges_here"] (ao il):=⟨rfl,rfl,rfl,by decide +kernel,rfl,by decide +kernel,by decide +kernel⟩
abbrev jg:Stmt:=cQ 71
theorem sc_law_text:aB ["_law_ranges_here","_law_rules_here","_law_rows"] ["_law_ranges_here","_law_rules_here"] (ao jg):=⟨rfl,rfl,rfl,by decide +kernel,rfl,by decide +kernel,by decide +kernel⟩
abbrev eu:Stmt:=cQ 72
theorem sc_law_one_column:aB ["_law_rule_here","_law_column_here","_law_span"] ["_law_rule_here","_law_column_here"] (ao eu):=⟨rfl,rfl,rfl,by decide +kernel,rfl,by decide +kernel,by decide +kernel⟩
abbrev dW:Stmt:=cQ 73
theorem sc_law_two_columns:aB ["_law_rule_here","_law_line_here","_law_at","_law_a","_law_move","_law_b","_law_here"] ["_law_rule_here","_law_line_here","_law_at"] (ao dW):=⟨rfl,rfl,rfl,by decide +kernel,rfl,by decide +kernel,by decide +kernel⟩
abbrev e6:Stmt:=cQ 74
theorem sc_law_one_voice:aB ["_law_rule_here","_law_notes","_law_at","_law_leap","_law_move"] ["_law_rule_here","_law_notes","_law_at"] (ao e6):=⟨rfl,rfl,rfl,by decide +kernel,rfl,by decide +kernel,by decide +kernel⟩
abbrev gF:Stmt:=cQ 75
theorem oS:aB ["_law_rule_here","_law_line_here","_law_at"] ["_law_rule_here","_law_line_here","_law_at"] (ao gF):=⟨rfl,rfl,rfl,by decide +kernel,rfl,by decide +kernel,by decide +kernel⟩
abbrev dI:Stmt:=cQ 76
theorem sc_law_badly_closed:aB ["_law_rule_here","_law_line_here","_law_notes"] ["_law_rule_here","_law_line_here"] (ao dI):=⟨rfl,rfl,rfl,by decide +kernel,rfl,by decide +kernel,by decide +kernel⟩
abbrev gI:Stmt:=cQ 77
theorem sc_law_row_at:aB ["_law_ranges_here","_law_rules_here","_law_line_here","_law_at","_law_voice","_law_k"] ["_law_ranges_here","_law_rules_here","_law_line_here","_law_at"] (ao gI):=⟨rfl,rfl,rfl,by decide +kernel,rfl,by decide +kernel,by decide +kernel⟩
abbrev ik:Stmt:=cQ 78
theorem sc_law_fault:aB ["_law_ranges_here","_law_rules_here","_law_line_here","_law_at","_law_row","_law_k"] ["_law_ranges_here","_law_rules_here","_law_line_here"] (ao ik):=⟨rfl,rfl,rfl,by decide +kernel,rfl,by decide +kernel,by decide +kernel⟩
abbrev gG:Stmt:=cQ 79
theorem sc_law_column:aB ["_law_ranges_here","_law_number","_law_column_here","_law_low","_law_high","_law_note"] ["_law_ranges_here","_law_number"] (ao gG):=⟨rfl,rfl,rfl,by decide +kernel,rfl,by decide +kernel,by decide +kernel⟩
abbrev jc:Stmt:=cQ 80
theorem sc_law_line:aB ["_law_script","_law_ranges_here","_law_rules_here","_law_many","_law_low","_law_high","_law_line_here","_law_cell","_law_turn","_law_longer","_law_at","_law_column_here","_law_voice"] ["_law_script","_law_ranges_here","_law_rules_here"] (ao jc):=⟨rfl,rfl,rfl,by decide +kernel,rfl,by decide +kernel,by decide +kernel⟩
abbrev ig:Stmt:=cQ 81
theorem sc_law_alike:aB ["_law_found","_law_due","_law_number"] ["_law_found","_law_due"] (ao ig):=⟨rfl,rfl,rfl,by decide +kernel,rfl,by decide +kernel,by decide +kernel⟩
abbrev pJ:Stmt:=cQ 82
theorem sc_law:aB ["_law_script","_law_ranges_here","_law_rules_here","_law_line_here","_law_score","_law_handed","_law_made","_law_many","_law_due"] ["_law_script"] (ao pJ):=⟨rfl,rfl,rfl,by decide +kernel,rfl,by decide +kernel,by decide +kernel⟩
structure Txt(mg:Str→Option Value)(aM:Addr):Prop where
 n_len:mg "len"=none
 n_range:mg "range"=none
 n_all:mg "all"=none
 n_min:mg "min"=none
 n_max:mg "max"=none
 n_abs:mg "abs"=none
 n_tuple:mg "tuple"=none
 n_list:mg "list"=none
 n_isinstance:mg "isinstance"=none
 n_bool:mg "bool"=none
 n_int:mg "int"=none
 n_str:mg "str"=none
 n_divmod:mg "divmod"=none
 n_enumerate:mg "enumerate"=none
 g_FIGURES:∃u,mg "FIGURES"=some u∧bh (.str "0123456789") u
 g_MOST_FIGURES:∃u,mg "MOST_FIGURES"=some u∧bh (.int 40) u
 g_MOST_VOICES:∃u,mg "MOST_VOICES"=some u∧bh (.int 4) u
 g_MOST_RULES:∃u,mg "MOST_RULES"=some u∧bh (.int 12) u
 g_MOST_WEIGHT:∃u,mg "MOST_WEIGHT"=some u∧bh (.int 400) u
 g_MOST_NUMBERS:∃u,mg "MOST_NUMBERS"=some u∧bh (.int 12) u
 g_NO_LEAP:∃u,mg "NO_LEAP"=some u∧bh (.int 0) u
 g_LEAP_UP:∃u,mg "LEAP_UP"=some u∧bh (.int 1) u
 g_LEAP_DOWN:∃u,mg "LEAP_DOWN"=some u∧bh (.int 2) u
 g_MAKERS:∃u,mg "MAKERS"=some u∧bh (.ref aM) u
structure BM(mg:Str→Option Value)(aM aI:Addr):Prop extends Txt mg aM where
 g_INNER_KINDS:∃u,mg "INNER_KINDS"=some u∧bh (.ref aI) u
local macro_rules | `(tactic| walk_at "rd") => `(tactic| (try dsimp only [↓pI, ↓sh, ↓l0, ↓pS, ↓p5, ↓p6, ↓p7, ↓p8, ↓l8, ↓l9, Bx, BX, jI, jU, rG, rF, xv, rE, xA, Av, ki, vb, yx, lG, tC, Bw, CZ, yD, Bz, AB, yC, Bs, pN, nQ, sD, Br, CV, Bv, CU, CY, qV, L2.start, List.map_cons, List.map_nil, List.length_cons, List.length_nil, List.replicate, List.cons_append, List.nil_append, List.set_cons_zero, List.set_cons_succ, pI, sh, l0, pS, p5, p6, p7, p8, l8, l9]) <;> (try simp only [↓pI, ↓sh, ↓l0, ↓pS, ↓p5, ↓p6, ↓p7, ↓p8, ↓l8, ↓l9, ↓itD, ↓itN, Bx, BX, jI, jU, rG, rF, xv, rE, xA, Av, ki, vb, yx, lG, z8, tC, Bw, CZ, yD, pO, Bz, AB, yC, Bs, pN, nQ, sD, Br, CV, Bv, sC, yF, Cs, CU, CY, vc, qV, CS, CT, AM, Al, BQ, rU, L2.start, sT, sU, sV, xa, y6, wZ, w8, w5, w9, w6, List.map_cons, List.map_nil, List.length_cons, List.length_nil, List.replicate, List.cons_append, List.nil_append, List.append_nil, List.getElem?_cons_zero, List.getElem?_cons_succ, List.set_cons_zero, List.set_cons_succ, Option.some.injEq, AL, wW, Aj, Ah, V.int.injEq, V.str.injEq, V.bl.injEq, V.ref.injEq, V.ty.injEq, List.cons.injEq, and_true, true_and, CC, Am, An, BU, CN, BS, xl, uz, CM, xb, BR, Az, uy, yz, Co, Cm, yE, yy, vB, z7, yB, yw, Int.zero_add, if_true, Bool.false_eq_true, if_false, cσ, List.getD_cons_zero, List.getD_cons_succ, Ag, AI, BP, decide_eq_true_eq, reduceCtorEq, false_and, Ai, false_or, or_false, List.length_map, Cq, Ct, tVs, CW, wV, y7, Bool.not_eq_true', pI, sh, l0, pS, p5, p6, p7, p8, l8, l9]) <;> try simp only [vC, vy, vx, y3, y4, vz, vA, wX, wY, wW, Aj, Ah, Ag, and_true, true_and, V.int.injEq, V.str.injEq, V.bl.injEq, V.ref.injEq, reduceCtorEq, false_and, Ai, false_or, or_false])
local macro_rules | `(tactic| walk_at "flds") => `(tactic| simp only [g6, qf, String.reduceEq, if_false, if_true, List.lookup])
def pK:Sp:=fun vs H Q _=>∃z,vs=[.str z]∧z.length≤10000∧∀H',ax H H'→Q (.bl (rD z.cps.toList)) H'
def eQ(K:PySem.W.Frag):Sp:=fun vs H Q _=>∃(c:Addr) (v:Int) (us:List Int),vs=[.ref c,.int v]∧cR K H c (us.map V.int)∧1≤v∧v≤us.length∧Q (.int (aF us v)) H
def nL(K:PySem.W.Frag):Sp:=fun vs H Q _=>∃(c:Addr) (a b:Int) (us:List Int),vs=[.ref c,.int a,.int b]∧cR K H c (us.map V.int)∧1≤a∧a≤us.length∧1≤b∧b≤us.length∧Q (.int (aF us b - aF us a)) H
def cj(K:PySem.W.Frag):Sp:=fun vs H Q _=>∃(x C dx:Addr) (fs:List (Str×V)) (row:Str),vs=[.ref x,.str row]∧H x=some (.ins C dx fs)∧mz K C∧NoAttr K C "row"∧fs.length < 100∧Q .non (upd H x (.ins C dx (bN "row" (.str row) fs)))
def bu(n:Nat)(v:List V→V):Sp:=fun vs H Q _=>vs.length=n∧Q (v vs) H
def CD(K:PySem.W.Frag):Sp:=fun vs H Q _=>∃(r C dx:Addr) (fs:List (Str×V)) (row:Str),vs=[.ref r]∧H r=some (.ins C dx fs)∧mz K C∧NoAttr K C "row"∧fs.lookup (Str.ofString "row")=some (.str row)∧Q (.str row) H
def xE(vs:List V):V:=vs.getD 1 .non
def dN(K:PySem.W.Frag):Sp:=fun vs H Q _=>∃(q:Addr) (xs:List V) (j:Int),vs=[.ref q,.int j]∧aO K H q xs∧Q (.bl (decide (1≤(xs.length:Int) - j) && decide ((xs.length:Int) - j≤12))) H
def cb(K:PySem.W.Frag):Sp:=fun vs H Q _=>∃(q:Addr) (ns:List Int) (nv:Int),vs=[.ref q,.int nv]∧aO K H q (ns.map V.int)∧ns.length≤1000∧∀H',ax H H'→Q (.bl (ns.all fun n=>decide (1≤n) && decide (n≤nv))) H'
def j7(P:Program)(w:World)(K:PySem.W.Frag)(mg:Str→Option Value)(base:Heap)(aM:Addr)(k:Nat):Sp:=fun vs H Q _=>∃(row kind:Str) (ns:List Int) (nv:Int) (D:List (Str×V)) (f:Addr) (sp:Sp) (Res:V→Hp→Prop),vs=[.str row,.int nv]∧fg row kind ns∧kr K aM D∧KTD.datumAt kind D=some (.ref f)∧
 eH P w K mg base k f ["row","numbers","voices"] sp∧(∀q H' Q',ax H H'→H' q=some (.lst (ns.map V.int))→(∀v H'',Res v H''→Q' v H'')→sp [.str row,.ref q,.int nv] H' Q' E0)∧∀v H',Res v H'→Q v H'
def yq(P:Program)(w:World)(K:PySem.W.Frag)(mg:Str→Option Value)(base:Heap)(aM:Addr)(k:Nat):Sp:=fun vs H Q _=>∃(row kind:Str) (ns:List Int) (nv z:Int) (D:List (Str×V)) (f:Addr) (sp:Sp) (Res:V→Hp→Prop),vs=[.str row,.int nv,.int z]∧fg row kind ns∧kind.cps.toList.head?≠some 101∧kr K aM D∧KTD.datumAt kind D=some (.ref f)∧
 eH P w K mg base k f ["row","numbers","voices"] sp∧(∀q H' Q',ax H H'→H' q=some (.lst (ns.map V.int))→(∀v H'',Res v H''→Q' v H'')→sp [.str row,.ref q,.int nv] H' Q' E0)∧∀v H',Res v H'→v≠.non∧Q v H'
def dS(row:Str)(x1 x2:Int)(n:Addr):List (Str×V):=bN "numbers" (.ref n) (bN "second" (.int x2) (bN "first" (.int x1) (bN "row" (.str row) [])))
def gZ(C:Addr)(row:Str)(x1 x2:Int)(D:List Int):km:=fun r H=>∃(dx n:Addr),H r=some (.ins C dx (dS row x1 x2 n))∧H n=some (.lst (D.map V.int))
structure lX(K:PySem.W.Frag)(C:Addr):Prop where
 cl:mz K C
 n1:NoAttr K C "row"
 n2:NoAttr K C "first"
 n3:NoAttr K C "second"
 n4:NoAttr K C "numbers"
def jo(K:PySem.W.Frag)(C:Addr):Sp:=fun vs H Q _=>∃(x dx q:Addr) (row:Str) (x1 x2:Int) (D:List Int),vs=[.ref x,.str row,.int x1,.int x2,.ref q]∧H x=some (.ins C dx [])∧aO K H q (D.map V.int)∧D.length≤20∧
 ∀n H',H n=none→H'=upd (upd H n (.lst (D.map V.int))) x (.ins C dx (dS row x1 x2 n))→Q .non H'
def j8(K:PySem.W.Frag)(C:Addr):Sp:=fun vs H Q _=>∃(q:Addr) (row:Str) (x1 x2:Int) (D:List Int) (nv:Int),vs=[.str row,.ref q,.int nv]∧aO K H q ((x1::x2::D).map V.int)∧1≤x1∧x1≤nv∧1≤x2∧x2≤nv∧1≤D.length∧D.length≤12∧
 ∀r H',ax H H'→gZ C row x1 x2 D r H'→Q (.ref r) H'
def e8(a b:Int)(D:List Int):d4:=⟨1,0,fun m _ us=>if aF us b - aF us a∈D then some m else none,fun _ _=>true⟩
def cM(row:Str)(x1 x2 x3:Int)(n:Addr):List (Str×V):=bN "numbers" (.ref n) (bN "hours" (.int x3) (bN "second" (.int x2) (bN "first" (.int x1) (bN "row" (.str row) []))))
def fK(C:Addr)(row:Str)(x1 x2 x3:Int)(D:List Int):km:=fun r H=>∃(dx n:Addr),H r=some (.ins C dx (cM row x1 x2 x3 n))∧H n=some (.lst (D.map V.int))
structure jv(K:PySem.W.Frag)(C:Addr):Prop where
 cl:mz K C
 n1:NoAttr K C "row"
 n2:NoAttr K C "first"
 n3:NoAttr K C "second"
 n4:NoAttr K C "hours"
 n5:NoAttr K C "numbers"
def iu(K:PySem.W.Frag)(C:Addr):Sp:=fun vs H Q _=>∃(x dx q:Addr) (row:Str) (x1 x2 x3:Int) (D:List Int),vs=[.ref x,.str row,.int x1,.int x2,.int x3,.ref q]∧H x=some (.ins C dx [])∧aO K H q (D.map V.int)∧D.length≤20∧
 ∀n H',H n=none→H'=upd (upd H n (.lst (D.map V.int))) x (.ins C dx (cM row x1 x2 x3 n))→Q .non H'
def iK(K:PySem.W.Frag)(C:Addr):Sp:=fun vs H Q _=>∃(q:Addr) (row:Str) (x1 x2 x3:Int) (D:List Int) (nv:Int),vs=[.str row,.ref q,.int nv]∧aO K H q ((x1::x2::x3::D).map V.int)∧1≤x1∧x1≤nv∧1≤x2∧x2≤nv∧1≤x3∧1≤D.length∧D.length≤12∧
 ∀r H',ax H H'→fK C row x1 x2 x3 D r H'→Q (.ref r) H'
def dY(x1 x2 x3:Int)(D:List Int):d4:=⟨1,0,fun m _ us=>if (aF us x2 - aF us x1) % x3∈D then some m else none,fun _ _=>true⟩
def fm(row:Str)(x1:Int)(n:Addr):List (Str×V):=bN "numbers" (.ref n) (bN "voice" (.int x1) (bN "row" (.str row) []))
def gY(C:Addr)(row:Str)(x1:Int)(D:List Int):km:=fun r H=>∃(dx n:Addr),H r=some (.ins C dx (fm row x1 n))∧H n=some (.lst (D.map V.int))
structure lW(K:PySem.W.Frag)(C:Addr):Prop where
 cl:mz K C
 n1:NoAttr K C "row"
 n2:NoAttr K C "voice"
 n3:NoAttr K C "numbers"
def jl(K:PySem.W.Frag)(C:Addr):Sp:=fun vs H Q _=>∃(x dx q:Addr) (row:Str) (x1:Int) (D:List Int),vs=[.ref x,.str row,.int x1,.ref q]∧H x=some (.ins C dx [])∧aO K H q (D.map V.int)∧D.length≤20∧
 ∀n H',H n=none→H'=upd (upd H n (.lst (D.map V.int))) x (.ins C dx (fm row x1 n))→Q .non H'
def j5(K:PySem.W.Frag)(C:Addr):Sp:=fun vs H Q _=>∃(q:Addr) (row:Str) (x1:Int) (D:List Int) (nv:Int),vs=[.str row,.ref q,.int nv]∧aO K H q ((x1::D).map V.int)∧1≤x1∧x1≤nv∧1≤D.length∧D.length≤12∧
 ∀r H',ax H H'→gY C row x1 D r H'→Q (.ref r) H'
def fO(x1:Int)(D:List Int):d4:=⟨1,0,fun m b us=>match b with | none=>some m | some bs=>if aF us x1 - aF bs x1∈D then some m else none,fun _ _=>true⟩
def j4(K:PySem.W.Frag):Sp:=fun vs H Q _=>∃(b c:Addr) (v:Int) (bs us:List Int),vs=[.ref b,.ref c,.int v]∧cR K H b (bs.map V.int)∧cR K H c (us.map V.int)∧1≤v∧v≤bs.length∧v≤us.length∧Q (.int (aF us v - aF bs v)) H
def di(row:Str)(x1 x2:Int)(n:Addr):List (Str×V):=bN "numbers" (.ref n) (bN "second" (.int x2) (bN "first" (.int x1) (bN "row" (.str row) [])))
def fI(C:Addr)(row:Str)(x1 x2:Int)(D:List Int):km:=fun r H=>∃(dx n:Addr),H r=some (.ins C dx (di row x1 x2 n))∧H n=some (.lst (D.map V.int))
structure jt(K:PySem.W.Frag)(C:Addr):Prop where
 cl:mz K C
 n1:NoAttr K C "row"
 n2:NoAttr K C "first"
 n3:NoAttr K C "second"
 n4:NoAttr K C "numbers"
def iq(K:PySem.W.Frag)(C:Addr):Sp:=fun vs H Q _=>∃(x dx q:Addr) (row:Str) (x1 x2:Int) (D:List Int),vs=[.ref x,.str row,.int x1,.int x2,.ref q]∧H x=some (.ins C dx [])∧aO K H q (D.map V.int)∧D.length≤20∧
 ∀n H',H n=none→H'=upd (upd H n (.lst (D.map V.int))) x (.ins C dx (di row x1 x2 n))→Q .non H'
def iI(K:PySem.W.Frag)(C:Addr):Sp:=fun vs H Q _=>∃(q:Addr) (row:Str) (x1 x2:Int) (D:List Int) (nv:Int),vs=[.str row,.ref q,.int nv]∧aO K H q ((x1::x2::D).map V.int)∧1≤x1∧x1≤nv∧1≤x2∧x2≤nv∧1≤D.length∧D.length≤12∧
 ∀r H',ax H H'→fI C row x1 x2 D r H'→Q (.ref r) H'
def eK(x1 x2:Int)(D:List Int):d4:=⟨1,0,fun m b us=>match b with | none=>some m | some bs=>if aF us x1 - aF bs x1=0 then some m else if aF us x2 - aF us x1=aF bs x2 - aF bs x1∧aF us x2 - aF us x1∈D then none else some m,fun _ _=>true⟩
def d5(row:Str)(x1:Int)(n:Addr):List (Str×V):=bN "notes" (.ref n) (bN "voice" (.int x1) (bN "row" (.str row) []))
def fJ(C:Addr)(row:Str)(x1:Int)(D:List Int):km:=fun r H=>∃(dx n:Addr),H r=some (.ins C dx (d5 row x1 n))∧H n=some (.lst (D.map V.int))
structure ju(K:PySem.W.Frag)(C:Addr):Prop where
 cl:mz K C
 n1:NoAttr K C "row"
 n2:NoAttr K C "voice"
 n3:NoAttr K C "notes"
def ir(K:PySem.W.Frag)(C:Addr):Sp:=fun vs H Q _=>∃(x dx q:Addr) (row:Str) (x1:Int) (D:List Int),vs=[.ref x,.str row,.int x1,.ref q]∧H x=some (.ins C dx [])∧aO K H q (D.map V.int)∧D.length≤20∧
 ∀n H',H n=none→H'=upd (upd H n (.lst (D.map V.int))) x (.ins C dx (d5 row x1 n))→Q .non H'
def iJ(K:PySem.W.Frag)(C:Addr):Sp:=fun vs H Q _=>∃(q:Addr) (row:Str) (x1:Int) (D:List Int) (nv:Int),vs=[.str row,.ref q,.int nv]∧aO K H q ((x1::D).map V.int)∧1≤x1∧x1≤nv∧1≤D.length∧D.length≤12∧
 ∀r H',ax H H'→fJ C row x1 D r H'→Q (.ref r) H'
def dX(x1:Int)(D:List Int):d4:=⟨1,0,fun m b us=>match b with | some _=>some m | none=>if aF us x1∈D then some m else none,fun _ _=>true⟩
def d6(row:Str)(x1:Int)(n:Addr):List (Str×V):=bN "notes" (.ref n) (bN "voice" (.int x1) (bN "row" (.str row) []))
def fL(C:Addr)(row:Str)(x1:Int)(D:List Int):km:=fun r H=>∃(dx n:Addr),H r=some (.ins C dx (d6 row x1 n))∧H n=some (.lst (D.map V.int))
structure jw(K:PySem.W.Frag)(C:Addr):Prop where
 cl:mz K C
 n1:NoAttr K C "row"
 n2:NoAttr K C "voice"
 n3:NoAttr K C "notes"
def iw(K:PySem.W.Frag)(C:Addr):Sp:=fun vs H Q _=>∃(x dx q:Addr) (row:Str) (x1:Int) (D:List Int),vs=[.ref x,.str row,.int x1,.ref q]∧H x=some (.ins C dx [])∧aO K H q (D.map V.int)∧D.length≤20∧
 ∀n H',H n=none→H'=upd (upd H n (.lst (D.map V.int))) x (.ins C dx (d6 row x1 n))→Q .non H'
def iL(K:PySem.W.Frag)(C:Addr):Sp:=fun vs H Q _=>∃(q:Addr) (row:Str) (x1:Int) (D:List Int) (nv:Int),vs=[.str row,.ref q,.int nv]∧aO K H q ((x1::D).map V.int)∧1≤x1∧x1≤nv∧1≤D.length∧D.length≤12∧
 ∀r H',ax H H'→fL C row x1 D r H'→Q (.ref r) H'
def eM(x1:Int)(D:List Int):d4:=⟨1,0,fun m _ _=>some m,fun _ b=>match b with | none=>true | some us=>decide (aF us x1∈D)⟩
def fk(row:Str)(x1 x2:Int):List (Str×V):=(bN "widest" (.int x2) (bN "voice" (.int x1) (bN "row" (.str row) [])))
def fe(C:Addr)(row:Str)(x1 x2:Int):km:=fun r H=>∃(dx:Addr),H r=some (.ins C dx (fk row x1 x2))
structure lV(K:PySem.W.Frag)(C:Addr):Prop where
 cl:mz K C
 n1:NoAttr K C "row"
 n2:NoAttr K C "voice"
 n3:NoAttr K C "widest"
def ji(K:PySem.W.Frag)(C:Addr):Sp:=fun vs H Q _=>∃(x dx:Addr) (row:Str) (x1 x2:Int),vs=[.ref x,.str row,.int x1,.int x2]∧H x=some (.ins C dx [])∧Q .non (upd H x (.ins C dx (fk row x1 x2)))
def jZ(K:PySem.W.Frag)(C:Addr):Sp:=fun vs H Q _=>∃(q:Addr) (row:Str) (x1 x2:Int) (nv:Int),vs=[.str row,.ref q,.int nv]∧aO K H q ([x1,x2].map V.int)∧1≤x1∧x1≤nv∧0≤x2∧
 ∀r H',ax H H'→fe C row x1 x2 r H'→Q (.ref r) H'
def dq(x1 x2:Int):d4:=⟨3,0,fun m b us=>match b with | none=>some 0 | some bs=>if (m=1∧0≤aF us x1 - aF bs x1)∨(m=2∧aF us x1 - aF bs x1≤0)then none else if aF us x1 - aF bs x1 > x2 then some 1 else if aF us x1 - aF bs x1 < 0 - x2 then some 2 else some 0,fun m _=>decide (m=0)⟩
def dR(row:Str)(x1 x2:Int):List (Str×V):=(bN "most" (.int x2) (bN "voice" (.int x1) (bN "row" (.str row) [])))
def ff(C:Addr)(row:Str)(x1 x2:Int):km:=fun r H=>∃(dx:Addr),H r=some (.ins C dx (dR row x1 x2))
structure jx(K:PySem.W.Frag)(C:Addr):Prop where
 cl:mz K C
 n1:NoAttr K C "row"
 n2:NoAttr K C "voice"
 n3:NoAttr K C "most"
def jk(K:PySem.W.Frag)(C:Addr):Sp:=fun vs H Q _=>∃(x dx:Addr) (row:Str) (x1 x2:Int),vs=[.ref x,.str row,.int x1,.int x2]∧H x=some (.ins C dx [])∧Q .non (upd H x (.ins C dx (dR row x1 x2)))
def j3(K:PySem.W.Frag)(C:Addr):Sp:=fun vs H Q _=>∃(q:Addr) (row:Str) (x1 x2:Int) (nv:Int),vs=[.str row,.ref q,.int nv]∧aO K H q ([x1,x2].map V.int)∧1≤x1∧x1≤nv∧1≤x2∧
 ∀r H',ax H H'→ff C row x1 x2 r H'→Q (.ref r) H'
def eE(x1 x2:Int):d4:=⟨x2,0,fun m b us=>match b with | none=>some 0 | some bs=>if aF bs x1=aF us x1 then(if m+1 < x2 then some (m+1)else none)else some 0,fun _ _=>true⟩
def pA(x2 m:Int):Prop:=0≤m∧m < x2
def cn(row:Str)(x1 x2 x3 x4:Int):List (Str×V):=(bN "most" (.int x4) (bN "fewest" (.int x3) (bN "note" (.int x2) (bN "voice" (.int x1) (bN "row" (.str row) [])))))
def c5(C:Addr)(row:Str)(x1 x2 x3 x4:Int):km:=fun r H=>∃(dx:Addr),H r=some (.ins C dx (cn row x1 x2 x3 x4))
structure f9(K:PySem.W.Frag)(C:Addr):Prop where
 cl:mz K C
 n1:NoAttr K C "row"
 n2:NoAttr K C "voice"
 n3:NoAttr K C "note"
 n4:NoAttr K C "fewest"
 n5:NoAttr K C "most"
def iz(K:PySem.W.Frag)(C:Addr):Sp:=fun vs H Q _=>∃(x dx:Addr) (row:Str) (x1 x2 x3 x4:Int),vs=[.ref x,.str row,.int x1,.int x2,.int x3,.int x4]∧H x=some (.ins C dx [])∧Q .non (upd H x (.ins C dx (cn row x1 x2 x3 x4)))
def iM(K:PySem.W.Frag)(C:Addr):Sp:=fun vs H Q _=>∃(q:Addr) (row:Str) (x1 x2 x3 x4:Int) (nv:Int),vs=[.str row,.ref q,.int nv]∧aO K H q ([x1,x2,x3,x4].map V.int)∧1≤x1∧x1≤nv∧0≤x3∧0≤x4∧
 ∀r H',ax H H'→c5 C row x1 x2 x3 x4 r H'→Q (.ref r) H'
def cY(x1 x2 x3 x4:Int):d4:=⟨x4+1,0,fun m _ us=>if aF us x1=x2 then(if m < x4 then some (m+1)else none)else some m,fun m _=>decide (m≥x3)⟩
def jH(x4 m:Int):Prop:=0≤m∧m≤x4
def cA(row:Str)(t u:Int)(ri:Addr):List (Str×V):=bN "inner" (.ref ri) (bN "turn" (.int u) (bN "turns" (.int t) (bN "row" (.str row) [])))
def eA(C:Addr)(row:Str)(t u:Int)(RIn:km):km:=fun r H=>∃(dx ri:Addr),H r=some (.ins C dx (cA row t u ri))∧RIn ri H
structure gW(K:PySem.W.Frag)(C:Addr):Prop where
 cl:mz K C
 n1:NoAttr K C "row"
 n2:NoAttr K C "turns"
 n3:NoAttr K C "turn"
 n4:NoAttr K C "inner"
def iy(K:PySem.W.Frag)(C:Addr):Sp:=fun vs H Q _=>∃(x dx ri:Addr) (row:Str) (t u:Int),vs=[.ref x,.str row,.int t,.int u,.ref ri]∧H x=some (.ins C dx [])∧Q .non (upd H x (.ins C dx (cA row t u ri)))
def eP(t u:Int)(S:d4):d4:=⟨t,0,fun m b us=>if m=u then(if S.after S.start b us=none then none else some ((m+1) % t))else some ((m+1) % t),fun _ _=>true⟩
def mU(t m:Int):Prop:=0≤m∧m < t
def mq(P:Program)(w:World)(K:PySem.W.Frag)(mg:Str→Option Value)(base:Heap)(aM C:Addr)(k:Nat):Sp:=fun vs H Q _=>∃(row rest kind:Str) (t u:Int) (ns:List Int) (nv:Int) (D:List (Str×V)) (f:Addr) (sp:Sp) (RIn:km),vs=[.str row,.int nv]∧mE row rest t u∧fg rest kind ns∧(kind=Str.ofString "span"∨kind=Str.ofString "clock")∧0≤u∧u < t∧kr K aM D∧KTD.datumAt kind D=some (.ref f)∧
 eH P w K mg base k f ["row","numbers","voices"] sp∧(∀q H' Q',ax H H'→H' q=some (.lst (ns.map V.int))→(∀ri H'',ax H H''→RIn ri H''→Q' (.ref ri) H'')→sp [.str rest,.ref q,.int nv] H' Q' E0)∧(∀r H H',ax H H'→RIn r H→RIn r H')∧∀r H',ax H H'→eA C row t u RIn r H'→Q (.ref r) H'
def u6(P:Program)(w:World)(K:PySem.W.Frag)(mg:Str→Option Value)(base:Heap)(aM C:Addr)(k:Nat):Sp:=fun vs H Q E=>∃(row:Str) (nv z:Int),vs=[.str row,.int nv,.int z]∧(∃rest t u,mE row rest t u)∧mq P w K mg base aM C k [.str row,.int nv] H (fun v H'=>v≠.non∧Q v H') E
def ll:Sp:=fun vs H Q _=>∃c p,vs=[.int c,.int p]∧∀H',ax H H'→Q (.int (GM.stirF c p)) H'
def lJ(K:PySem.W.Frag):Sp:=fun vs H Q _=>∃a ns p,vs=[.ref a,.int p]∧aO K H a (ns.map V.int)∧(∀x∈ns,x.natAbs < 2 ^ GB)∧0≤p∧p≤1000∧∀H',ax H H'→Q (.int (GM.gotF ns p)) H'
def qO(K:PySem.W.Frag):Sp:=fun vs H Q _=>∃a ns lo hi,vs=[.ref a,.int lo,.int hi]∧aO K H a (ns.map V.int)∧(∀x∈ns,x.natAbs < 2 ^ GB)∧ns.length≤63∧0≤lo∧lo≤100∧0≤hi∧hi≤100∧
 ∀q H',H' q=some (.lst ((GM.cellsF ns lo hi).map V.int))→ax H H'→Q (.ref q) H'
section
variable {P:Program} {w:World} {K:PySem.W.Frag} {mg:Str→Option Value} {base:Heap} {aM:Addr}
theorem vW{f:Addr}{fd:FuncData}(F:cH K "is_number" "is_number" ie f fd)(T:Txt mg aM):aP P w K mg base bY 1 f fd ["word"] pK:=by
 refine F.ok sc_is_number (fun vs H Q E h=>?_) (fun cdv A outer s H vs Q E hr h=>?_)
 ·obtain⟨z,rfl,_⟩:=h
  rfl
 obtain⟨z,rfl,hz,k⟩:=h
 refine⟨_,(af (aJ (i:=1) sc_is_number.nd rfl (Or.inl rfl) (cG (aY (cz K PySem.F.plainAttrs_str PySem.F.slot_str_startswith PySem.F.type_str_startswith fS (pr 0) (aa aZ ag)) (fun _=>rfl)) (aS (dc K) (pr 0) (c4 ae) bz) (pr 0)))
 (af (aV (PW.pt (cf (aX (az gr (pr 1) aZ (aA _))) (bW (aX (az (o0 gQ) (aH (aQ K) (by rfl) T.n_len boot_len (aa (pr 1) ag)) (hZ T.g_MOST_FIGURES) (aA _)))))) (ah (ar iR)) aG)
 (af (aV (b0 (aY (aH (iB K rfl) (by rfl) T.n_all boot_all (aa (dE (own:=["sign"]) (js:=[]) rfl (b6 K (pr 1)) (bS.of (by rfl)) (fun _ _ _ _ _=>(aN (i:=0) (show List.Nodup (["sign"]:List Str)from by decide +kernel) rfl (Or.inl rfl))) (fun _ _ _ _ _=>dm) (fun _ _ _ _ _=>(bE (lH K) (pr 0) (hZ T.g_FIGURES) (by with_unfolding_all rfl)))) ag)) (fun _=>rfl))) (ah (ar iR)) aG)
 (ah (ar (xV (xX (bE yP (aC (aL K) (pr 1) ae (fun _ _=>rfl)) aZ (aA _)) (fw (bE gr (pr 0) aZ (aA _)))))))))),?_⟩
 have hs:sizeLine=16777216:=sizeLine_eq
 have c0:(Str.ofString "").cps.toList=[]:=by decide +kernel
 have c45:(Str.ofString "-")=⟨#[45]⟩:=by decide +kernel
 have c48:(Str.ofString "0").cps.toList=[48]:=by decide +kernel
 have cF:(Str.ofString "0123456789").cps.toList=[48,49,50,51,52,53,54,55,56,57]:=by decide +kernel
 refine bo (fun σ H'=>∃y,σ=[some (.str z),some (.str y)]∧H=H'∧y.cps.toList=gc z.cps.toList) ?_ ?_
 ·rintro _ _ ⟨y,rfl,rfl,hy⟩
  have hyl:y.length≤10000:=by
   rw [bg,hy]
   rw [bg]at hz
   refine Nat.le_trans ?_ hz
   unfold gc
   split
   ·rw [List.length_tail];omega
   ·exact Nat.le_refl _
  walk_at "rd"
  have hk:=k
  rw [tp,←hy,←bg]at hk
  have q0:=hk H (ax.refl H)
  by_cases h1:y=Str.ofString ""
  ·rw [if_pos h1]
   rw [if_pos (Or.inl (by rw [h1,c0]))]at q0
   exact q0
  rw [if_neg h1]
  refine⟨by omega,?_⟩
  by_cases h2:(40:Int) < y.length
  ·rw [if_pos h2]
   rw [if_pos (Or.inr (by omega))]at q0
   exact q0
  rw [if_neg h2]
  have h3:¬(y.cps.toList=[]∨40 < y.length):=by
   rintro(e | e)
   ·exact h1 (str_iff.mpr (by rw [e,c0]))
   ·omega
  rw [if_neg h3]at hk
  have e0:y.cps.toList≠[]:=fun e=>h3 (Or.inl e)
  refine zR (vt (fun i ys H'=>ys=(y.cps.toList.take i).map (fun c=>V.bl (decide (c∈[48,49,50,51,52,53,54,55,56,57])))∧H=H') (by omega) ⟨rfl,rfl⟩ ?_ ?_ ?_)
  ·rintro i ys H' ⟨rfl,rfl⟩
   rw [List.length_map,List.length_take]
   omega
  ·rintro i c ys H' hc ⟨rfl,rfl⟩
   walk_at "rd"
   rw [cF,List.take_add_one,hc]
   simp
  ·rintro ys H' ⟨rfl,rfl⟩ p hp
   rw [bg,List.take_length]
   refine⟨y.cps.toList.map (fun c=>decide (c∈[48,49,50,51,52,53,54,55,56,57])),aO.of (by rw [ab,List.map_map];rfl),?_⟩
   have ed:(List.map (fun c=>decide (c∈[48,49,50,51,52,53,54,55,56,57])) y.cps.toList).all id=rq y.cps.toList:=by
    unfold rq
    rw [List.all_map]
    rfl
   have q1:=hk _ (au (o:=.lst ((y.cps.toList.take y.cps.toList.length).map (fun c=>V.bl (decide (c∈[48,49,50,51,52,53,54,55,56,57]))))) hp)
   rw [List.take_length]at q1
   rw [ed]
   by_cases h4:rq y.cps.toList=false
   ·rw [if_pos h4]
    rw [if_pos h4]at q1
    exact q1
   rw [if_neg h4]
   rw [if_neg h4]at q1
   refine⟨by rw [←bg];omega,?_⟩
   cases hh:y.cps.toList with
   | nil=>exact absurd hh e0
   | cons a l=>
    rw [hh]at q1
    refine⟨a,bD rfl,?_⟩
    by_cases ha:a=48
    ·subst ha
     rw [if_pos (str_iff.mpr (by rw [c48])),ka,c48]
     simpa using q1
    ·rw [if_neg (fun e=>ha (by have:=str_iff.mp e;rw [c48]at this;simpa using this))]
     simpa [ha]using q1
 ·intro u' hu
  walk_at "rd"
  rw [c45,uv]
  by_cases h1:z.cps.toList.head?=some 45
  ·rw [if_pos (by simpa using h1)]
   exact⟨by omega,hu _ _ ⟨_,rfl,rfl,by rw [ue (by decide)];unfold gc;rw [if_pos h1];simp⟩⟩
  ·rw [if_neg (by simpa using h1)]
   exact hu _ _ ⟨_,rfl,rfl,by unfold gc;rw [if_neg h1]⟩
theorem tK{f:Addr}{fd:FuncData}(F:cH K "note_in" "note_in" kR f fd):aP P w K mg base bY 1 f fd ["column","voice"] (eQ K):=by
 refine F.ok ua (fun vs H Q E h=>?_) (fun cdv A outer s H vs Q E hr h=>?_)
 ·obtain⟨c,v,us,rfl,_⟩:=h
  rfl
 obtain⟨c,v,us,rfl,hc,h1,h2,k⟩:=h
 refine⟨_,(ah (ar (aC (aL K) (pr 0) (aq (o0 bI) (pr 1) ae) (fun _ _=>rfl)))),?_⟩
 walk_at "rd"
 exact dB hc (rP h1 h2) k
theorem zz{f:Addr}{fd:FuncData}(F:cH K "span" "span" t6 f fd)(D_note_in:bZ P w K mg base "note_in" 1 ["column","voice"] (eQ K)):aP P w K mg base bY 2 f fd ["column","first","second"] (nL K):=by
 refine F.ok zX (fun vs H Q E h=>?_) (fun cdv A outer s H vs Q E hr h=>?_)
 ·obtain⟨c,a,b,us,rfl,_⟩:=h
  rfl
 obtain⟨c,a,b,us,rfl,hc,h1,h2,h3,h4,k⟩:=h
 refine⟨_,(ah (ar (aq (o0 bI) (aE D_note_in hr (by rfl) (aa (pr 0) (aa (pr 2) ag))) (aE D_note_in hr (by rfl) (aa (pr 0) (aa (pr 1) ag)))))),?_⟩
 walk_at "rd"
 refine⟨c,b,us,rfl,hc,h3,h4,c,a,us,rfl,hc,h1,h2,?_⟩
 walk_at "rd"
 exact k
theorem qm{f:Addr}{fd:FuncData}(F:cH K "__init__" "Rule.__init__" eX f fd):aP P w K mg base bY 1 f fd ["self","row"] (cj K):=by
 refine F.ok kX (fun vs H Q E h=>?_) (fun cdv A outer s H vs Q E hr h=>?_)
 ·obtain⟨x,C,dx,fs,row,rfl,_⟩:=h
  rfl
 obtain⟨x,C,dx,fs,row,rfl,hx,cl,na,hl,k⟩:=h
 refine⟨_,(ah (bU (pr 0) (pr 1) rfl)),?_⟩
 walk_at "rd"
 exact⟨C,dx,fs,hx,cl,na,by omega,k⟩
theorem dj{f:Addr}{fd:FuncData}(F:cH K "size" "Rule.size" cP f fd):aP P w K mg base bY 1 f fd ["self"] (bu 1 fun _=>.int 1):=by
 refine F.ok qJ (fun vs H Q E h=>h.1) (fun cdv A outer s H vs Q E hr h=>?_)
 obtain⟨hl,k⟩:=h
 match vs,hl with
 | [a],_=>
 refine⟨_,(ah (ar ae)),?_⟩
 walk_at "rd"
 exact k
theorem b5{f:Addr}{fd:FuncData}(F:cH K "start" "Rule.start" bV f fd):aP P w K mg base bY 1 f fd ["self"] (bu 1 fun _=>.int 0):=by
 refine F.ok oO (fun vs H Q E h=>h.1) (fun cdv A outer s H vs Q E hr h=>?_)
 obtain⟨hl,k⟩:=h
 match vs,hl with
 | [a],_=>
 refine⟨_,(ah (ar ae)),?_⟩
 walk_at "rd"
 exact k
theorem cv{f:Addr}{fd:FuncData}(F:cH K "closes" "Rule.closes" b7 f fd):aP P w K mg base bY 1 f fd ["self","memory","last"] (bu 3 fun _=>.bl true):=by
 refine F.ok nB (fun vs H Q E h=>h.1) (fun cdv A outer s H vs Q E hr h=>?_)
 obtain⟨hl,k⟩:=h
 match vs,hl with
 | [a,b,c],_=>
 refine⟨_,(ah (ar iR)),?_⟩
 walk_at "rd"
 exact k
theorem ow{f:Addr}{fd:FuncData}(F:cH K "after" "Rule.after" gA f fd):aP P w K mg base bY 1 f fd ["self","memory","before","column"] (bu 4 xE):=by
 refine F.ok oN (fun vs H Q E h=>h.1) (fun cdv A outer s H vs Q E hr h=>?_)
 obtain⟨hl,k⟩:=h
 match vs,hl with
 | [a,b,c,d],_=>
 refine⟨_,(ah (ar (pr 1))),?_⟩
 walk_at "rd"
 exact k
theorem rW{f:Addr}{fd:FuncData}(F:cH K "has_list" "has_list" jb f fd)(T:Txt mg aM):aP P w K mg base bY 1 f fd ["numbers","ahead"] (dN K):=by
 refine F.ok sr (fun vs H Q E h=>?_) (fun cdv A outer s H vs Q E hr h=>?_)
 ·obtain⟨q,xs,j,rfl,_⟩:=h
  rfl
 obtain⟨q,xs,j,rfl,hq,k⟩:=h
 refine⟨_,(ah (ar (rY (o0 gR) (o0 gR) ae (aq (o0 bI) (aH (aQ K) (by rfl) T.n_len boot_len (aa (pr 0) ag)) (pr 1)) (hZ T.g_MOST_NUMBERS)))),?_⟩
 walk_at "rd"
 refine⟨xs,.inl hq,?_⟩
 walk_at "rd"
 by_cases h1:(1:Int)≤(xs.length:Int) - j
 ·rw [if_pos h1]
  rw [decide_eq_true h1,Bool.true_and]at k
  exact k
 ·rw [if_neg h1]
  rw [decide_eq_false h1,Bool.false_and]at k
  exact k
theorem oB{f:Addr}{fd:FuncData}(F:cH K "are_voices" "are_voices" gD f fd)(T:Txt mg aM):aP P w K mg base bY 1 f fd ["numbers","voices"] (cb K):=by
 refine F.ok oR (fun vs H Q E h=>?_) (fun cdv A outer s H vs Q E hr h=>?_)
 ·obtain⟨q,ns,nv,rfl,_⟩:=h
  rfl
 obtain⟨q,ns,nv,rfl,hq,hl,k⟩:=h
 refine⟨_,(ah (ar (aH (iB K rfl) (by rfl) T.n_all boot_all (aa (dE (own:=["number"]) (js:=[1]) rfl (b6 K (pr 0)) (bS.of (by rfl)) (fun _ _ _ _ _=>(aN (i:=0) (show List.Nodup (["number","voices"]:List Str)from by decide +kernel) rfl (Or.inl rfl))) (fun _ _ _ _ _=>dm) (fun _ _ _ _ _=>(rY (o0 gR) (o0 gR) ae (pr 0) (pr 1)))) ag)))),?_⟩
 walk_at "rd"
 have hs:sizeLine=16777216:=sizeLine_eq
 refine cg hq (cu (xs:=ns.map V.int) (fun i ys H'=>ys=((ns.take i).map fun n=>decide (1≤n) && decide (n≤nv)).map V.bl∧H=H') (by rw [List.length_map];omega) ⟨rfl,rfl⟩ ?_ ?_ ?_ ?_)
 ·rintro i ys H' ⟨rfl,rfl⟩
  rw [List.length_map,List.length_map,List.length_take]
  omega
 ·rintro i ys H' ⟨rfl,rfl⟩
  exact hq
 ·rintro i x ys H' hx ⟨rfl,rfl⟩
  rw [List.getElem?_map]at hx
  cases hn:ns[i]? with
  | none=>rw [hn]at hx;cases hx
  | some n=>
   rw [hn]at hx
   cases hx
   walk_at "rd"
   rw [List.take_add_one,hn]
   by_cases h1:(1:Int)≤n
   ·rw [if_pos h1]
    simp [h1]
   ·rw [if_neg h1]
    simp [h1]
 ·rintro ys H' ⟨rfl,rfl⟩ p hp
  refine⟨_,aO.of ab,?_⟩
  rw [List.all_map,List.length_map,List.take_length]
  exact k _ (au hp)
theorem oF{f:Addr}{fd:FuncData}(F:cH K "plain_rule" "plain_rule" gK f fd)(T:Txt mg aM)(D_is_number:bZ P w K mg base "is_number" 7 ["word"] pK):aP P w K mg base bY 8 f fd ["row","voices"] (j7 P w K mg base aM 7):=by
 refine F.ok sc_plain_rule (fun vs H Q E h=>?_) (fun cdv A outer s H vs Q E hr h=>?_)
 ·obtain⟨row,kind,ns,nv,D,f,sp,Res,rfl,_⟩:=h
  rfl
 obtain⟨row,kind,ns,nv,D,g,sp,Res,rfl,R,tab,hg,fn,k,kq⟩:=h
 refine⟨_,(af (aJ (i:=2) sc_plain_rule.nd rfl (Or.inl rfl) (cz K PySem.F.plainAttrs_str PySem.F.slot_str_split PySem.F.type_str_split g9 (pr 0) (aa aZ ag)))
 (af (aV (PW.pt (cf (aX (az (tN K) (aC (aL K) (pr 2) ae (fun _ _=>rfl)) (hZ T.g_MAKERS) (by with_unfolding_all rfl))) (bW (b0 (aY (aH (iB K rfl) (by rfl) T.n_all boot_all (aa (dE (own:=["word"]) (js:=[]) rfl (b6 K (aS (dc K) (pr 2) (c4 ae) bz)) (bS.of (by rfl)) (fun _ _ _ _ _=>(aN (i:=0) (show List.Nodup (["word"]:List Str)from by decide +kernel) rfl (Or.inl rfl))) (fun _ _ _ _ _=>dm) (fun _ _ _ _ _=>(aE D_is_number hr (by rfl) (aa (pr 0) ag)))) ag)) (fun _=>rfl)))))) (ah (ar bc)) aG)
 (ah (ar (xT P w K mg base hr (xU K (hZ T.g_MAKERS) (aC (aL K) (pr 2) ae (fun _ _=>rfl)) (fun _ _=>rfl)) (aa (pr 0) (aa (dE (own:=["word"]) (js:=[]) rfl (b6 K (aS (dc K) (pr 2) (c4 ae) bz)) (bS.of (by rfl)) (fun _ _ _ _ _=>(aN (i:=0) (show List.Nodup (["word"]:List Str)from by decide +kernel) rfl (Or.inl rfl))) (fun _ _ _ _ _=>dm) (fun _ _ _ _ _=>(bF (gb) (by rfl) T.n_int boot_int (aa (pr 0) ag)))) (aa (pr 1) ag)))))))),?_⟩
 walk_at "rd"
 have hs:sizeLine=16777216:=sizeLine_eq
 have hl:=R.len
 have hnl:=R.nl
 refine⟨32,by decide +kernel,by decide,by omega,fun p hp=>?_⟩
 rw [R.split]
 have sp0:ax H (upd H p (.lst ((kind::ns.map bq).map V.str))):=au hp
 generalize hH0:upd H p (.lst ((kind::ns.map bq).map V.str))=H0 at sp0
 have hp0:H0 p=some (.lst ((kind::ns.map bq).map V.str)):=by rw [←hH0,ab]
 refine aT (aO.of hp0) (bD rfl) ⟨kind,rfl,D,tab,?_⟩
 rw [hg]
 walk_at "rd"
 refine bM (aO.of hp0) fun q hq=>?_
 rw [show(some (1:Int))=some ((1:Nat):Int)from rfl,bQ]
 show ye _ _ _ _
 have s1:ax H0 (upd H0 q (.lst ((ns.map bq).map V.str))):=au hq
 refine cg (xs:=(ns.map bq).map V.str) (aO.of ab) (cu (xs:=(ns.map bq).map V.str) (fun i ys H'=>ys=(List.replicate i true).map V.bl∧ax (upd H0 q (.lst ((ns.map bq).map V.str))) H') (by simp;omega) ⟨rfl,ax.refl _⟩ ?_ ?_ ?_ ?_)
 ·rintro i ys H' ⟨rfl,sm⟩
  simp
 ·rintro i ys H' ⟨rfl,sm⟩
  exact sm.seq (aO.of ab)
 ·rintro i x ys H' hx ⟨rfl,sm⟩
  obtain⟨n,hn,rfl⟩:∃n∈ns,x=.str (bq n):=by
   have:=List.mem_of_getElem? hx
   simp only [List.map_map,List.mem_map,Function.comp_apply]at this
   obtain⟨n,hn,e⟩:=this
   exact⟨n,hn,e.symm⟩
  walk_at "rd"
  refine⟨bq n,rfl,?_,fun H1 s1=>⟨?_,sm.trans s1⟩⟩
  ·rw [bg]
   have:=fu (n:=n) (k:=40) (by decide) (R.nb n hn)
   show(gq n).length≤_
   omega
  ·show _=(List.replicate (i+1) true).map V.bl
   rw [show(bq n).cps.toList=gq n from rfl,kA (R.nb n hn),List.replicate_succ',List.map_append]
   rfl
 rintro ys H1 ⟨rfl,sm⟩ p1 hp1
 simp only [List.length_map]
 refine⟨_,aO.of ab,?_⟩
 rw [show(List.replicate ns.length true).all id=true by simp]
 walk_at "rd"
 have s2:ax H0 (upd H1 p1 (.lst ((List.replicate ns.length true).map V.bl))):=(s1.trans sm).upd hp1
 generalize upd H1 p1 (.lst ((List.replicate ns.length true).map V.bl))=H2 at s2
 have hp2:=s2 _ _ hp0
 refine aT (aO.of hp2) (bD rfl) ⟨kind,rfl,D,tab,_,hg,g,rfl,_,_,fn,?_⟩
 refine bM (aO.of hp2) fun q2 hq2=>?_
 rw [bQ]
 show ye _ _ _ _
 have s3:ax H0 (upd H2 q2 (.lst ((ns.map bq).map V.str))):=s2.upd hq2
 refine cg (xs:=(ns.map bq).map V.str) (aO.of ab) (cu (xs:=(ns.map bq).map V.str) (fun i ys H'=>ys=(ns.take i).map V.int∧upd H2 q2 (.lst ((ns.map bq).map V.str))=H') (by simp;omega) ⟨rfl,rfl⟩ ?_ ?_ ?_ ?_)
 ·rintro i ys H' ⟨rfl,rfl⟩
  rw [List.length_map,List.length_take]
  omega
 ·rintro i ys H' ⟨rfl,rfl⟩
  exact aO.of ab
 ·rintro i x ys H' hx ⟨rfl,rfl⟩
  cases hn:ns[i]? with
  | none=>rw [List.getElem?_map,List.getElem?_map,hn]at hx;cases hx
  | some n=>
   rw [List.getElem?_map,List.getElem?_map,hn]at hx
   cases hx
   have hb:=R.nb n (List.mem_of_getElem? hn)
   walk_at "rd"
   refine⟨n,l7 (Nat.lt_of_lt_of_le hb (Nat.pow_le_pow_right (by decide) (by decide))),?_,?_⟩
   ·rw [bg]
    have:=fu (n:=n) (k:=40) (by decide) hb
    show(gq n).length≤_
    omega
   ·rw [List.take_add_one,hn,List.map_append]
    rfl
 rintro ys H3 ⟨rfl,rfl⟩ p3 hp3
 refine k p3 _ _ (sp0.trans (s3.upd hp3)) ?_ kq
 rw [ab,List.length_map,List.length_map,List.take_length]
theorem qq{f C:Addr}{fd:FuncData}(F:cH K "__init__" "Span.__init__" eY f fd)(T:Txt mg aM)(TC:lX K C)(DC_Rule___init__:kn P w K mg base "Rule" "__init__" 1 ["self","row"] (cj K)):aP P w K mg base bY 2 f fd ["self","row","first","second","numbers"] (jo K C):=by
 refine F.ok kY (fun vs H Q E h=>?_) (fun cdv A outer s H vs Q E hr h=>?_)
 ·obtain⟨x,dx,q,row,x1,x2,D,rfl,_⟩:=h
  rfl
 obtain⟨x,dx,q,row,x1,x2,D,rfl,hx,hq,hl,k⟩:=h
 refine⟨_,(af (cw (dA DC_Rule___init__ hr (by rfl) (aa (pr 0) (aa (pr 1) ag))))
 (af (bU (pr 0) (pr 2) rfl)
 (af (bU (pr 0) (pr 3) rfl)
 (ah (bU (pr 0) (bF (cq K) (by rfl) T.n_list boot_list (aa (pr 4) ag)) rfl))))),?_⟩
 walk_at "rd"
 have ln:∀(f:Str) (v:V) (l:List (Str×V)) (n:Nat),l.length≤n→(bN f v l).length≤n+1:=fun f v l n h=>Nat.le_trans (bR f v l) (Nat.succ_le_succ h)
 refine⟨x,C,dx,[],row,rfl,hx,TC.cl,TC.n1,by decide,?_⟩
 refine⟨C,dx,_,ab,TC.cl,TC.n2,Nat.lt_of_le_of_lt (ln _ _ _ _ (Nat.zero_le 0)) (by decide),C,dx,_,ab,TC.cl,TC.n3,Nat.lt_of_le_of_lt (ln _ _ _ _ (ln _ _ _ _ (Nat.zero_le 0))) (by decide),D.map V.int,.inl (((hq.at_ins hx).at_ins ab).at_ins ab),fun n hn=>?_⟩
 have nx:n≠x:=fun e=>by subst e;rw [ab]at hn;cases hn
 rw [aj nx,aj nx,aj nx]at hn
 refine⟨C,dx,_,by rw [aj (Ne.symm nx),ab],TC.cl,TC.n4,Nat.lt_of_le_of_lt (ln _ _ _ _ (ln _ _ _ _ (ln _ _ _ _ (Nat.zero_le 0)))) (by decide),?_⟩
 refine k n _ hn ?_
 rw [b8,b8,fH]
 rfl
theorem tL{f C:Addr}{fd:FuncData}(F:cH K "span_of" "span_of" kS f fd)(T:Txt mg aM)(D_has_list:bZ P w K mg base "has_list" 3 ["numbers","ahead"] (dN K))(D_are_voices:bZ P w K mg base "are_voices" 3 ["numbers","voices"] (cb K))(DM_Span:dZ P w K mg base "Span" C 2 ["self","row","first","second","numbers"] (jo K C)):aP P w K mg base bY 4 f fd ["row","numbers","voices"] (j8 K C):=by
 refine F.ok uc (fun vs H Q E h=>?_) (fun cdv A outer s H vs Q E hr h=>?_)
 ·obtain⟨q,row,x1,x2,D,nv,rfl,_⟩:=h
  rfl
 obtain⟨q,row,x1,x2,D,nv,rfl,hq,x1_1,x1_2,x2_1,x2_2,l1,l2,k⟩:=h
 refine⟨_,(af (aV (PW.pt (cf (b0 (aY (aE D_has_list hr (by rfl) (aa (pr 1) (aa ae ag))) (fun _=>rfl))) (bW (b0 (aY (aE D_are_voices hr (by rfl) (aa (aS (dc K) (pr 1) bz (c4 ae)) (aa (pr 2) ag))) (fun _=>rfl)))))) (ah (ar bc)) aG)
 (ah (ar (gT DM_Span hr (by rfl) (aa (pr 0) (aa (aC (aL K) (pr 1) ae (fun _ _=>rfl)) (aa (aC (aL K) (pr 1) ae (fun _ _=>rfl)) (aa (aS (dc K) (pr 1) (c4 ae) bz) ag)))))))),?_⟩
 walk_at "rd"
 have hs:sizeLine=16777216:=sizeLine_eq
 refine⟨q,_,2,rfl,hq,?_⟩
 rw [show(decide (1≤(((x1::x2::D).map V.int).length:Int) - 2) && decide ((((x1::x2::D).map V.int).length:Int) - 2≤12))=true by simp;omega]
 walk_at "rd"
 refine bM hq fun q1 hq1=>?_
 rw [show(some (2:Int))=some ((2:Nat):Int)from rfl,de]
 have s1:ax H (upd H q1 (.lst ((((x1::x2::D).map V.int)).take 2))):=au hq1
 refine⟨q1,[x1,x2],nv,rfl,aO.of ab,by simp,fun H1 s2=>?_⟩
 rw [show([x1,x2].all fun n=>decide (1≤n) && decide (n≤nv))=true by simp;omega]
 walk_at "rd"
 have s3:=s1.trans s2
 have hq3:=s3.seq hq
 refine aT hq3 (bD rfl) (aT hq3 (show dz _ ((1:Nat):Int)=_ from aK rfl) (bM hq3 fun q2 hq2=>?_))
 rw [bQ]
 show ∀x dx:Addr,_
 intro x dx hx hdx hne
 have s4:ax H (upd H1 q2 (.lst (((x1::x2::D).map V.int).drop 2))):=s3.upd hq2
 have hq2':(upd H1 q2 (.lst (((x1::x2::D).map V.int).drop 2))) q2=some (.lst (D.map V.int)):=ab
 generalize upd H1 q2 (.lst (((x1::x2::D).map V.int).drop 2))=H2 at s4 hx hdx hq2'
 have s5:ax H (upd (upd H2 dx (.own x)) x (.ins C dx [])):=(s4.upd hdx).upd (by rw [aj (Ne.symm hne)];exact hx)
 have hq5:(upd (upd H2 dx (.own x)) x (.ins C dx [])) q2=some (.lst (D.map V.int)):=by
  rw [aj (ay hq2' hx),aj (ay hq2' hdx)]
  exact hq2'
 refine⟨x,dx,q2,row,x1,x2,D,rfl,ab,aO.of hq5,by omega,fun n H3 hn e=>⟨rfl,?_⟩⟩
 subst e
 have nx:n≠x:=fun z=>by subst z;rw [ab]at hn;cases hn
 refine k x _ ?_ ⟨dx,n,ab,by rw [aj nx,ab]⟩
 intro c o hc
 have n1:c≠x:=ay (s4 _ _ hc) hx
 rw [aj n1,aj (ay (s5 _ _ hc) hn)]
 exact s5 _ _ hc
theorem oy{f C:Addr}{fd:FuncData}{row:Str}{a b:Int}{D:List Int}{nv:Nat}(F:cH K "after" "Span.after" gB f fd)(T:Txt mg aM)(TC:lX K C)(ha:1≤a∧a≤nv)(hb:1≤b∧b≤nv)(D_span:bZ P w K mg base "span" 2 ["column","first","second"] (nL K)):aP P w K mg base bY 3 f fd ["self","memory","before","column"] (bJ K nv (gZ C row a b D) (e8 a b D) fun _=>True):=by
 refine F.ok oP (fun vs H Q E h=>?_) (fun cdv A outer s H vs Q E hr h=>?_)
 ·obtain⟨r,m,x,c,bb,us,rfl,_⟩:=h
  rfl
 obtain⟨r,m,x,c,bb,us,rfl,⟨dx,n,hr1,hn⟩,_,hbv,hc,hu,k⟩:=h
 refine⟨_,(ah (ar (cG (aX (az (lH K) (aE D_span hr (by rfl) (aa (pr 3) (aa (bA (pr 0) rfl) (aa (bA (pr 0) rfl) ag)))) (bA (pr 0) rfl) (by with_unfolding_all rfl))) (pr 1) bc))),?_⟩
 walk_at "rd"
 have l1:(dS row a b n).lookup (Str.ofString "first")=some (.int a):=by unfold dS;walk_at "flds"
 have l2:(dS row a b n).lookup (Str.ofString "second")=some (.int b):=by unfold dS;walk_at "flds"
 have l3:(dS row a b n).lookup (Str.ofString "numbers")=some (.ref n):=by unfold dS;walk_at "flds"
 refine⟨C,dx,_,hr1,TC.cl,TC.n2,_,l1,C,dx,_,hr1,TC.cl,TC.n3,_,l2,c,a,b,us,rfl,hc,ha.1,by rw [hu];exact ha.2,hb.1,by rw [hu];exact hb.2,C,dx,_,hr1,TC.cl,TC.n4,_,l3,fC (aO.of hn) ⟨_,rfl,?_⟩⟩
 by_cases h:aF us b - aF us a∈D
 ·rw [if_pos (decide_eq_true h)]
  simp only [e8]at k
  rw [if_pos h]at k
  exact k
 ·rw [if_neg (by rw [decide_eq_false h];exact Bool.false_ne_true)]
  simp only [e8]at k
  rw [if_neg h]at k
  exact k
theorem yr{lv:Nat}{C:Addr}{row:Str}{a b:Int}{D:List Int}{nv:Nat}(TC:lX K C)(h1:aD P w K mg base C "size" lv ["self"] (bu 1 fun _=>.int 1))(h2:aD P w K mg base C "start" lv ["self"] (bu 1 fun _=>.int 0))(h3:aD P w K mg base C "closes" lv ["self","memory","last"] (bu 3 fun _=>.bl true))
  (h4:aD P w K mg base C "after" lv ["self","memory","before","column"] (bJ K nv (gZ C row a b D) (e8 a b D) fun _=>True)):bB P w K mg base lv nv C (e8 a b D) (gZ C row a b D) (fun _=>True):=by
 refine⟨fun r H H' s h=>?_,fun r H h=>?_,trivial,fun _ _ _ _ _ _=>trivial,h1.imp ?_,h2.imp ?_,h4,h3.imp ?_⟩
 ·obtain⟨dx,n,e1,e2⟩:=h
  exact⟨dx,n,s _ _ e1,s _ _ e2⟩
 ·obtain⟨dx,n,e1,e2⟩:=h
  refine⟨dx,_,e1,?_,?_,?_,?_,?_⟩<;>(unfold dS;walk_at "flds")
 ·rintro vs H Q E ⟨r,rfl,_,q⟩
  exact⟨rfl,q⟩
 ·rintro vs H Q E ⟨r,rfl,_,q⟩
  exact⟨rfl,q⟩
 ·rintro vs H Q E ⟨r,m,x,b,rfl,_,_,_,q⟩
  exact⟨rfl,q⟩
theorem oh{f C:Addr}{fd:FuncData}(F:cH K "__init__" "Clock.__init__" ef f fd)(T:Txt mg aM)(TC:jv K C)(DC_Rule___init__:kn P w K mg base "Rule" "__init__" 1 ["self","row"] (cj K)):aP P w K mg base bY 2 f fd ["self","row","first","second","hours","numbers"] (iu K C):=by
 refine F.ok jT (fun vs H Q E h=>?_) (fun cdv A outer s H vs Q E hr h=>?_)
 ·obtain⟨x,dx,q,row,x1,x2,x3,D,rfl,_⟩:=h
  rfl
 obtain⟨x,dx,q,row,x1,x2,x3,D,rfl,hx,hq,hl,k⟩:=h
 refine⟨_,(af (cw (dA DC_Rule___init__ hr (by rfl) (aa (pr 0) (aa (pr 1) ag))))
 (af (bU (pr 0) (pr 2) rfl)
 (af (bU (pr 0) (pr 3) rfl)
 (af (bU (pr 0) (pr 4) rfl)
 (ah (bU (pr 0) (bF (cq K) (by rfl) T.n_list boot_list (aa (pr 5) ag)) rfl)))))),?_⟩
 walk_at "rd"
 have ln:∀(f:Str) (v:V) (l:List (Str×V)) (n:Nat),l.length≤n→(bN f v l).length≤n+1:=fun f v l n h=>Nat.le_trans (bR f v l) (Nat.succ_le_succ h)
 refine⟨x,C,dx,[],row,rfl,hx,TC.cl,TC.n1,by decide,?_⟩
 refine⟨C,dx,_,ab,TC.cl,TC.n2,Nat.lt_of_le_of_lt (ln _ _ _ _ (Nat.zero_le 0)) (by decide),C,dx,_,ab,TC.cl,TC.n3,Nat.lt_of_le_of_lt (ln _ _ _ _ (ln _ _ _ _ (Nat.zero_le 0))) (by decide),C,dx,_,ab,TC.cl,TC.n4,Nat.lt_of_le_of_lt (ln _ _ _ _ (ln _ _ _ _ (ln _ _ _ _ (Nat.zero_le 0)))) (by decide),D.map V.int,.inl ((((hq.at_ins hx).at_ins ab).at_ins ab).at_ins ab),fun n hn=>?_⟩
 have nx:n≠x:=fun e=>by subst e;rw [ab]at hn;cases hn
 rw [aj nx,aj nx,aj nx,aj nx]at hn
 refine⟨C,dx,_,by rw [aj (Ne.symm nx),ab],TC.cl,TC.n5,Nat.lt_of_le_of_lt (ln _ _ _ _ (ln _ _ _ _ (ln _ _ _ _ (ln _ _ _ _ (Nat.zero_le 0))))) (by decide),?_⟩
 refine k n _ hn ?_
 rw [b8,b8,b8,fH]
 rfl
theorem rT{f C:Addr}{fd:FuncData}(F:cH K "clock_of" "clock_of" i9 f fd)(T:Txt mg aM)(D_has_list:bZ P w K mg base "has_list" 3 ["numbers","ahead"] (dN K))(D_are_voices:bZ P w K mg base "are_voices" 3 ["numbers","voices"] (cb K))(DM_Clock:dZ P w K mg base "Clock" C 2 ["self","row","first","second","hours","numbers"] (iu K C)):aP P w K mg base bY 4 f fd ["row","numbers","voices"] (iK K C):=by
 refine F.ok so (fun vs H Q E h=>?_) (fun cdv A outer s H vs Q E hr h=>?_)
 ·obtain⟨q,row,x1,x2,x3,D,nv,rfl,_⟩:=h
  rfl
 obtain⟨q,row,x1,x2,x3,D,nv,rfl,hq,x1_1,x1_2,x2_1,x2_2,p3,l1,l2,k⟩:=h
 refine⟨_,(af (aV (PW.pt (cf (b0 (aY (aE D_has_list hr (by rfl) (aa (pr 1) (aa ae ag))) (fun _=>rfl))) (cf (b0 (aY (aE D_are_voices hr (by rfl) (aa (aS (dc K) (pr 1) bz (c4 ae)) (aa (pr 2) ag))) (fun _=>rfl))) (bW (aX (az (o0 kH) (aC (aL K) (pr 1) ae (fun _ _=>rfl)) ae (aA _))))))) (ah (ar bc)) aG)
 (ah (ar (gT DM_Clock hr (by rfl) (aa (pr 0) (aa (aC (aL K) (pr 1) ae (fun _ _=>rfl)) (aa (aC (aL K) (pr 1) ae (fun _ _=>rfl)) (aa (aC (aL K) (pr 1) ae (fun _ _=>rfl)) (aa (aS (dc K) (pr 1) (c4 ae) bz) ag))))))))),?_⟩
 walk_at "rd"
 have hs:sizeLine=16777216:=sizeLine_eq
 refine⟨q,_,3,rfl,hq,?_⟩
 rw [show(decide (1≤(((x1::x2::x3::D).map V.int).length:Int) - 3) && decide ((((x1::x2::x3::D).map V.int).length:Int) - 3≤12))=true by simp;omega]
 walk_at "rd"
 refine bM hq fun q1 hq1=>?_
 rw [show(some (2:Int))=some ((2:Nat):Int)from rfl,de]
 have s1:ax H (upd H q1 (.lst ((((x1::x2::x3::D).map V.int)).take 2))):=au hq1
 refine⟨q1,[x1,x2],nv,rfl,aO.of ab,by simp,fun H1 s2=>?_⟩
 rw [show([x1,x2].all fun n=>decide (1≤n) && decide (n≤nv))=true by simp;omega]
 walk_at "rd"
 have s3:=s1.trans s2
 have hq3:=s3.seq hq
 refine aT hq3 (show dz _ ((2:Nat):Int)=_ from aK rfl) ?_
 walk_at "rd"
 rw [if_neg (show ¬(x3 < 1)by omega)]
 refine aT hq3 (bD rfl) (aT hq3 (show dz _ ((1:Nat):Int)=_ from aK rfl) (aT hq3 (show dz _ ((2:Nat):Int)=_ from aK rfl) (bM hq3 fun q2 hq2=>?_)))
 rw [show(some (3:Int))=some ((3:Nat):Int)from rfl,bQ]
 show ∀x dx:Addr,_
 intro x dx hx hdx hne
 have s4:ax H (upd H1 q2 (.lst (((x1::x2::x3::D).map V.int).drop 3))):=s3.upd hq2
 have hq2':(upd H1 q2 (.lst (((x1::x2::x3::D).map V.int).drop 3))) q2=some (.lst (D.map V.int)):=ab
 generalize upd H1 q2 (.lst (((x1::x2::x3::D).map V.int).drop 3))=H2 at s4 hx hdx hq2'
 have s5:ax H (upd (upd H2 dx (.own x)) x (.ins C dx [])):=(s4.upd hdx).upd (by rw [aj (Ne.symm hne)];exact hx)
 have hq5:(upd (upd H2 dx (.own x)) x (.ins C dx [])) q2=some (.lst (D.map V.int)):=by
  rw [aj (ay hq2' hx),aj (ay hq2' hdx)]
  exact hq2'
 refine⟨x,dx,q2,row,x1,x2,x3,D,rfl,ab,aO.of hq5,by omega,fun n H3 hn e=>⟨rfl,?_⟩⟩
 subst e
 have nx:n≠x:=fun z=>by subst z;rw [ab]at hn;cases hn
 refine k x _ ?_ ⟨dx,n,ab,by rw [aj nx,ab]⟩
 intro c o hc
 have n1:c≠x:=ay (s4 _ _ hc) hx
 rw [aj n1,aj (ay (s5 _ _ hc) hn)]
 exact s5 _ _ hc
theorem m5{f C:Addr}{fd:FuncData}{row:Str}{x1 x2 x3:Int}{D:List Int}{nv:Nat}(F:cH K "after" "Clock.after" fW f fd)(T:Txt mg aM)(TC:jv K C)(ha:1≤x1∧x1≤nv)(hb:1≤x2∧x2≤nv)(h3:1≤x3)(D_span:bZ P w K mg base "span" 2 ["column","first","second"] (nL K)):aP P w K mg base bY 3 f fd ["self","memory","before","column"] (bJ K nv (fK C row x1 x2 x3 D) (dY x1 x2 x3 D) fun _=>True):=by
 refine F.ok ny (fun vs H Q E h=>?_) (fun cdv A outer s H vs Q E hr h=>?_)
 ·obtain⟨r,m,x,c,bb,us,rfl,_⟩:=h
  rfl
 obtain⟨r,m,x,c,bb,us,rfl,⟨dx,n,hr1,hn⟩,_,hbv,hc,hu,k⟩:=h
 refine⟨_,(ah (ar (cG (aX (az (lH K) (aq (o1 bC) (aE D_span hr (by rfl) (aa (pr 3) (aa (bA (pr 0) rfl) (aa (bA (pr 0) rfl) ag)))) (bA (pr 0) rfl)) (bA (pr 0) rfl) (by with_unfolding_all rfl))) (pr 1) bc))),?_⟩
 walk_at "rd"
 have l1:(cM row x1 x2 x3 n).lookup (Str.ofString "first")=some (.int x1):=by unfold cM;walk_at "flds"
 have l2:(cM row x1 x2 x3 n).lookup (Str.ofString "second")=some (.int x2):=by unfold cM;walk_at "flds"
 have l3:(cM row x1 x2 x3 n).lookup (Str.ofString "hours")=some (.int x3):=by unfold cM;walk_at "flds"
 have l4:(cM row x1 x2 x3 n).lookup (Str.ofString "numbers")=some (.ref n):=by unfold cM;walk_at "flds"
 refine⟨C,dx,_,hr1,TC.cl,TC.n2,_,l1,C,dx,_,hr1,TC.cl,TC.n3,_,l2,c,x1,x2,us,rfl,hc,ha.1,by rw [hu];exact ha.2,hb.1,by rw [hu];exact hb.2,C,dx,_,hr1,TC.cl,TC.n4,_,l3,?_⟩
 walk_at "rd"
 refine⟨by omega,C,dx,_,hr1,TC.cl,TC.n5,_,l4,fC (aO.of hn) ⟨_,rfl,?_⟩⟩
 by_cases h:(aF us x2 - aF us x1) % x3∈D
 ·rw [if_pos (decide_eq_true h)]
  simp only [dY]at k
  rw [if_pos h]at k
  exact k
 ·rw [if_neg (by rw [decide_eq_false h];exact Bool.false_ne_true)]
  simp only [dY]at k
  rw [if_neg h]at k
  exact k
theorem vq{lv:Nat}{C:Addr}{row:Str}{x1 x2 x3:Int}{D:List Int}{nv:Nat}(TC:jv K C)(h1:aD P w K mg base C "size" lv ["self"] (bu 1 fun _=>.int 1))(h2:aD P w K mg base C "start" lv ["self"] (bu 1 fun _=>.int 0))(h3:aD P w K mg base C "closes" lv ["self","memory","last"] (bu 3 fun _=>.bl true))
  (h4:aD P w K mg base C "after" lv ["self","memory","before","column"] (bJ K nv (fK C row x1 x2 x3 D) (dY x1 x2 x3 D) fun _=>True)):bB P w K mg base lv nv C (dY x1 x2 x3 D) (fK C row x1 x2 x3 D) (fun _=>True):=by
 refine⟨fun r H H' s h=>?_,fun r H h=>?_,trivial,fun _ _ _ _ _ _=>trivial,h1.imp ?_,h2.imp ?_,h4,h3.imp ?_⟩
 ·obtain⟨dx,n,e1,e2⟩:=h
  exact⟨dx,n,s _ _ e1,s _ _ e2⟩
 ·obtain⟨dx,n,e1,e2⟩:=h
  refine⟨dx,_,e1,?_,?_,?_,?_,?_⟩<;>(unfold cM;walk_at "flds")
 ·rintro vs H Q E ⟨r,rfl,_,q⟩
  exact⟨rfl,q⟩
 ·rintro vs H Q E ⟨r,rfl,_,q⟩
  exact⟨rfl,q⟩
 ·rintro vs H Q E ⟨r,m,x,b,rfl,_,_,_,q⟩
  exact⟨rfl,q⟩
theorem ql{f C:Addr}{fd:FuncData}(F:cH K "__init__" "Move.__init__" eV f fd)(T:Txt mg aM)(TC:lW K C)(DC_Rule___init__:kn P w K mg base "Rule" "__init__" 1 ["self","row"] (cj K)):aP P w K mg base bY 2 f fd ["self","row","voice","numbers"] (jl K C):=by
 refine F.ok kW (fun vs H Q E h=>?_) (fun cdv A outer s H vs Q E hr h=>?_)
 ·obtain⟨x,dx,q,row,x1,D,rfl,_⟩:=h
  rfl
 obtain⟨x,dx,q,row,x1,D,rfl,hx,hq,hl,k⟩:=h
 refine⟨_,(af (cw (dA DC_Rule___init__ hr (by rfl) (aa (pr 0) (aa (pr 1) ag))))
 (af (bU (pr 0) (pr 2) rfl)
 (ah (bU (pr 0) (bF (cq K) (by rfl) T.n_list boot_list (aa (pr 3) ag)) rfl)))),?_⟩
 walk_at "rd"
 have ln:∀(f:Str) (v:V) (l:List (Str×V)) (n:Nat),l.length≤n→(bN f v l).length≤n+1:=fun f v l n h=>Nat.le_trans (bR f v l) (Nat.succ_le_succ h)
 refine⟨x,C,dx,[],row,rfl,hx,TC.cl,TC.n1,by decide,?_⟩
 refine⟨C,dx,_,ab,TC.cl,TC.n2,Nat.lt_of_le_of_lt (ln _ _ _ _ (Nat.zero_le 0)) (by decide),D.map V.int,.inl ((hq.at_ins hx).at_ins ab),fun n hn=>?_⟩
 have nx:n≠x:=fun e=>by subst e;rw [ab]at hn;cases hn
 rw [aj nx,aj nx]at hn
 refine⟨C,dx,_,by rw [aj (Ne.symm nx),ab],TC.cl,TC.n3,Nat.lt_of_le_of_lt (ln _ _ _ _ (ln _ _ _ _ (Nat.zero_le 0))) (by decide),?_⟩
 refine k n _ hn ?_
 rw [b8,fH]
 rfl
theorem tJ{f C:Addr}{fd:FuncData}(F:cH K "move_of" "move_of" kQ f fd)(T:Txt mg aM)(D_has_list:bZ P w K mg base "has_list" 3 ["numbers","ahead"] (dN K))(D_are_voices:bZ P w K mg base "are_voices" 3 ["numbers","voices"] (cb K))(DM_Move:dZ P w K mg base "Move" C 2 ["self","row","voice","numbers"] (jl K C)):aP P w K mg base bY 4 f fd ["row","numbers","voices"] (j5 K C):=by
 refine F.ok t9 (fun vs H Q E h=>?_) (fun cdv A outer s H vs Q E hr h=>?_)
 ·obtain⟨q,row,x1,D,nv,rfl,_⟩:=h
  rfl
 obtain⟨q,row,x1,D,nv,rfl,hq,x1_1,x1_2,l1,l2,k⟩:=h
 refine⟨_,(af (aV (PW.pt (cf (b0 (aY (aE D_has_list hr (by rfl) (aa (pr 1) (aa ae ag))) (fun _=>rfl))) (bW (b0 (aY (aE D_are_voices hr (by rfl) (aa (aS (dc K) (pr 1) bz (c4 ae)) (aa (pr 2) ag))) (fun _=>rfl)))))) (ah (ar bc)) aG)
 (ah (ar (gT DM_Move hr (by rfl) (aa (pr 0) (aa (aC (aL K) (pr 1) ae (fun _ _=>rfl)) (aa (aS (dc K) (pr 1) (c4 ae) bz) ag))))))),?_⟩
 walk_at "rd"
 have hs:sizeLine=16777216:=sizeLine_eq
 refine⟨q,_,1,rfl,hq,?_⟩
 rw [show(decide (1≤(((x1::D).map V.int).length:Int) - 1) && decide ((((x1::D).map V.int).length:Int) - 1≤12))=true by simp;omega]
 walk_at "rd"
 refine bM hq fun q1 hq1=>?_
 rw [show(some (1:Int))=some ((1:Nat):Int)from rfl,de]
 have s1:ax H (upd H q1 (.lst ((((x1::D).map V.int)).take 1))):=au hq1
 refine⟨q1,[x1],nv,rfl,aO.of ab,by simp,fun H1 s2=>?_⟩
 rw [show([x1].all fun n=>decide (1≤n) && decide (n≤nv))=true by simp;omega]
 walk_at "rd"
 have s3:=s1.trans s2
 have hq3:=s3.seq hq
 refine aT hq3 (bD rfl) (bM hq3 fun q2 hq2=>?_)
 rw [bQ]
 show ∀x dx:Addr,_
 intro x dx hx hdx hne
 have s4:ax H (upd H1 q2 (.lst (((x1::D).map V.int).drop 1))):=s3.upd hq2
 have hq2':(upd H1 q2 (.lst (((x1::D).map V.int).drop 1))) q2=some (.lst (D.map V.int)):=ab
 generalize upd H1 q2 (.lst (((x1::D).map V.int).drop 1))=H2 at s4 hx hdx hq2'
 have s5:ax H (upd (upd H2 dx (.own x)) x (.ins C dx [])):=(s4.upd hdx).upd (by rw [aj (Ne.symm hne)];exact hx)
 have hq5:(upd (upd H2 dx (.own x)) x (.ins C dx [])) q2=some (.lst (D.map V.int)):=by
  rw [aj (ay hq2' hx),aj (ay hq2' hdx)]
  exact hq2'
 refine⟨x,dx,q2,row,x1,D,rfl,ab,aO.of hq5,by omega,fun n H3 hn e=>⟨rfl,?_⟩⟩
 subst e
 have nx:n≠x:=fun z=>by subst z;rw [ab]at hn;cases hn
 refine k x _ ?_ ⟨dx,n,ab,by rw [aj nx,ab]⟩
 intro c o hc
 have n1:c≠x:=ay (s4 _ _ hc) hx
 rw [aj n1,aj (ay (s5 _ _ hc) hn)]
 exact s5 _ _ hc
theorem zt{f:Addr}{fd:FuncData}(F:cH K "move" "move" tY f fd)(D_note_in:bZ P w K mg base "note_in" 1 ["column","voice"] (eQ K)):aP P w K mg base bY 2 f fd ["before","column","voice"] (j4 K):=by
 refine F.ok zW (fun vs H Q E h=>?_) (fun cdv A outer s H vs Q E hr h=>?_)
 ·obtain⟨b,c,v,bs,us,rfl,_⟩:=h
  rfl
 obtain⟨b,c,v,bs,us,rfl,hb,hc,h1,h2,h3,k⟩:=h
 refine⟨_,(ah (ar (aq (o0 bI) (aE D_note_in hr (by rfl) (aa (pr 1) (aa (pr 2) ag))) (aE D_note_in hr (by rfl) (aa (pr 0) (aa (pr 2) ag)))))),?_⟩
 walk_at "rd"
 refine⟨c,v,us,rfl,hc,h1,h3,b,v,bs,rfl,hb,h1,h2,?_⟩
 walk_at "rd"
 exact k
theorem ou{f C:Addr}{fd:FuncData}{row:Str}{x1:Int}{D:List Int}{nv:Nat}(F:cH K "after" "Move.after" gz f fd)(T:Txt mg aM)(TC:lW K C)(ha:1≤x1∧x1≤nv)(D_move:bZ P w K mg base "move" 2 ["before","column","voice"] (j4 K)):aP P w K mg base bY 3 f fd ["self","memory","before","column"] (bJ K nv (gY C row x1 D) (fO x1 D) fun _=>True):=by
 refine F.ok oM (fun vs H Q E h=>?_) (fun cdv A outer s H vs Q E hr h=>?_)
 ·obtain⟨r,m,x,c,bb,us,rfl,_⟩:=h
  rfl
 obtain⟨r,m,x,c,bb,us,rfl,⟨dx,n,hr1,hn⟩,_,hbv,hc,hu,k⟩:=h
 refine⟨_,(ah (ar (cG (PW.pt (cf (aX (az d8 (pr 2) bc (aA _))) (bW (aX (az (lH K) (aE D_move hr (by rfl) (aa (pr 2) (aa (pr 3) (aa (bA (pr 0) rfl) ag)))) (bA (pr 0) rfl) (by with_unfolding_all rfl)))))) (pr 1) bc))),?_⟩
 walk_at "rd"
 have l1:(fm row x1 n).lookup (Str.ofString "voice")=some (.int x1):=by unfold fm;walk_at "flds"
 have l2:(fm row x1 n).lookup (Str.ofString "numbers")=some (.ref n):=by unfold fm;walk_at "flds"
 rcases hbv with⟨rfl,rfl⟩ | ⟨a,bs,rfl,rfl,hba,hbl⟩
 ·rw [if_pos rfl]
  exact k
 rw [if_neg (fun z=>by cases z)]
 refine⟨C,dx,_,hr1,TC.cl,TC.n2,_,l1,a,c,x1,bs,us,rfl,hba,hc,ha.1,by rw [hbl];exact ha.2,by rw [hu];exact ha.2,C,dx,_,hr1,TC.cl,TC.n3,_,l2,fC (aO.of hn) ⟨_,rfl,?_⟩⟩
 simp only [fO]at k
 by_cases h:aF us x1 - aF bs x1∈D
 ·rw [if_pos (decide_eq_true h)]
  rw [if_pos h]at k
  exact k
 ·rw [if_neg (by rw [decide_eq_false h];exact Bool.false_ne_true)]
  rw [if_neg h]at k
  exact k
theorem xJ{C:Addr}{row:Str}{x1:Int}{D:List Int}{nv:Nat}(TC:lW K C)(h1:aD P w K mg base C "size" 7 ["self"] (bu 1 fun _=>.int 1))(h2:aD P w K mg base C "start" 7 ["self"] (bu 1 fun _=>.int 0))(h3:aD P w K mg base C "closes" 7 ["self","memory","last"] (bu 3 fun _=>.bl true))
  (h4:aD P w K mg base C "after" 7 ["self","memory","before","column"] (bJ K nv (gY C row x1 D) (fO x1 D) fun _=>True)):bB P w K mg base 7 nv C (fO x1 D) (gY C row x1 D) (fun _=>True):=by
 refine⟨fun r H H' s h=>?_,fun r H h=>?_,trivial,fun _ _ _ _ _ _=>trivial,h1.imp ?_,h2.imp ?_,h4,h3.imp ?_⟩
 ·obtain⟨dx,n,e1,e2⟩:=h
  exact⟨dx,n,s _ _ e1,s _ _ e2⟩
 ·obtain⟨dx,n,e1,e2⟩:=h
  refine⟨dx,_,e1,?_,?_,?_,?_,?_⟩<;>(unfold fm;walk_at "flds")
 ·rintro vs H Q E ⟨r,rfl,_,q⟩
  exact⟨rfl,q⟩
 ·rintro vs H Q E ⟨r,rfl,_,q⟩
  exact⟨rfl,q⟩
 ·rintro vs H Q E ⟨r,m,x,b,rfl,_,_,_,q⟩
  exact⟨rfl,q⟩
theorem n9{f C:Addr}{fd:FuncData}(F:cH K "__init__" "Alike.__init__" d9 f fd)(T:Txt mg aM)(TC:jt K C)(DC_Rule___init__:kn P w K mg base "Rule" "__init__" 1 ["self","row"] (cj K)):aP P w K mg base bY 2 f fd ["self","row","first","second","numbers"] (iq K C):=by
 refine F.ok jR (fun vs H Q E h=>?_) (fun cdv A outer s H vs Q E hr h=>?_)
 ·obtain⟨x,dx,q,row,x1,x2,D,rfl,_⟩:=h
  rfl
 obtain⟨x,dx,q,row,x1,x2,D,rfl,hx,hq,hl,k⟩:=h
 refine⟨_,(af (cw (dA DC_Rule___init__ hr (by rfl) (aa (pr 0) (aa (pr 1) ag))))
 (af (bU (pr 0) (pr 2) rfl)
 (af (bU (pr 0) (pr 3) rfl)
 (ah (bU (pr 0) (bF (cq K) (by rfl) T.n_list boot_list (aa (pr 4) ag)) rfl))))),?_⟩
 walk_at "rd"
 have ln:∀(f:Str) (v:V) (l:List (Str×V)) (n:Nat),l.length≤n→(bN f v l).length≤n+1:=fun f v l n h=>Nat.le_trans (bR f v l) (Nat.succ_le_succ h)
 refine⟨x,C,dx,[],row,rfl,hx,TC.cl,TC.n1,by decide,?_⟩
 refine⟨C,dx,_,ab,TC.cl,TC.n2,Nat.lt_of_le_of_lt (ln _ _ _ _ (Nat.zero_le 0)) (by decide),C,dx,_,ab,TC.cl,TC.n3,Nat.lt_of_le_of_lt (ln _ _ _ _ (ln _ _ _ _ (Nat.zero_le 0))) (by decide),D.map V.int,.inl (((hq.at_ins hx).at_ins ab).at_ins ab),fun n hn=>?_⟩
 have nx:n≠x:=fun e=>by subst e;rw [ab]at hn;cases hn
 rw [aj nx,aj nx,aj nx]at hn
 refine⟨C,dx,_,by rw [aj (Ne.symm nx),ab],TC.cl,TC.n4,Nat.lt_of_le_of_lt (ln _ _ _ _ (ln _ _ _ _ (ln _ _ _ _ (Nat.zero_le 0)))) (by decide),?_⟩
 refine k n _ hn ?_
 rw [b8,b8,fH]
 rfl
theorem rR{f C:Addr}{fd:FuncData}(F:cH K "alike_of" "alike_of" i7 f fd)(T:Txt mg aM)(D_has_list:bZ P w K mg base "has_list" 3 ["numbers","ahead"] (dN K))(D_are_voices:bZ P w K mg base "are_voices" 3 ["numbers","voices"] (cb K))(DM_Alike:dZ P w K mg base "Alike" C 2 ["self","row","first","second","numbers"] (iq K C)):aP P w K mg base bY 4 f fd ["row","numbers","voices"] (iI K C):=by
 refine F.ok sj (fun vs H Q E h=>?_) (fun cdv A outer s H vs Q E hr h=>?_)
 ·obtain⟨q,row,x1,x2,D,nv,rfl,_⟩:=h
  rfl
 obtain⟨q,row,x1,x2,D,nv,rfl,hq,x1_1,x1_2,x2_1,x2_2,l1,l2,k⟩:=h
 refine⟨_,(af (aV (PW.pt (cf (b0 (aY (aE D_has_list hr (by rfl) (aa (pr 1) (aa ae ag))) (fun _=>rfl))) (bW (b0 (aY (aE D_are_voices hr (by rfl) (aa (aS (dc K) (pr 1) bz (c4 ae)) (aa (pr 2) ag))) (fun _=>rfl)))))) (ah (ar bc)) aG)
 (ah (ar (gT DM_Alike hr (by rfl) (aa (pr 0) (aa (aC (aL K) (pr 1) ae (fun _ _=>rfl)) (aa (aC (aL K) (pr 1) ae (fun _ _=>rfl)) (aa (aS (dc K) (pr 1) (c4 ae) bz) ag)))))))),?_⟩
 walk_at "rd"
 have hs:sizeLine=16777216:=sizeLine_eq
 refine⟨q,_,2,rfl,hq,?_⟩
 rw [show(decide (1≤(((x1::x2::D).map V.int).length:Int) - 2) && decide ((((x1::x2::D).map V.int).length:Int) - 2≤12))=true by simp;omega]
 walk_at "rd"
 refine bM hq fun q1 hq1=>?_
 rw [show(some (2:Int))=some ((2:Nat):Int)from rfl,de]
 have s1:ax H (upd H q1 (.lst ((((x1::x2::D).map V.int)).take 2))):=au hq1
 refine⟨q1,[x1,x2],nv,rfl,aO.of ab,by simp,fun H1 s2=>?_⟩
 rw [show([x1,x2].all fun n=>decide (1≤n) && decide (n≤nv))=true by simp;omega]
 walk_at "rd"
 have s3:=s1.trans s2
 have hq3:=s3.seq hq
 refine aT hq3 (bD rfl) (aT hq3 (show dz _ ((1:Nat):Int)=_ from aK rfl) (bM hq3 fun q2 hq2=>?_))
 rw [bQ]
 show ∀x dx:Addr,_
 intro x dx hx hdx hne
 have s4:ax H (upd H1 q2 (.lst (((x1::x2::D).map V.int).drop 2))):=s3.upd hq2
 have hq2':(upd H1 q2 (.lst (((x1::x2::D).map V.int).drop 2))) q2=some (.lst (D.map V.int)):=ab
 generalize upd H1 q2 (.lst (((x1::x2::D).map V.int).drop 2))=H2 at s4 hx hdx hq2'
 have s5:ax H (upd (upd H2 dx (.own x)) x (.ins C dx [])):=(s4.upd hdx).upd (by rw [aj (Ne.symm hne)];exact hx)
 have hq5:(upd (upd H2 dx (.own x)) x (.ins C dx [])) q2=some (.lst (D.map V.int)):=by
  rw [aj (ay hq2' hx),aj (ay hq2' hdx)]
  exact hq2'
 refine⟨x,dx,q2,row,x1,x2,D,rfl,ab,aO.of hq5,by omega,fun n H3 hn e=>⟨rfl,?_⟩⟩
 subst e
 have nx:n≠x:=fun z=>by subst z;rw [ab]at hn;cases hn
 refine k x _ ?_ ⟨dx,n,ab,by rw [aj nx,ab]⟩
 intro c o hc
 have n1:c≠x:=ay (s4 _ _ hc) hx
 rw [aj n1,aj (ay (s5 _ _ hc) hn)]
 exact s5 _ _ hc
theorem mZ{f C:Addr}{fd:FuncData}{row:Str}{x1 x2:Int}{D:List Int}{nv:Nat}(F:cH K "after" "Alike.after" fT f fd)(T:Txt mg aM)(TC:jt K C)(ha:1≤x1∧x1≤nv)(hb:1≤x2∧x2≤nv)(D_move:bZ P w K mg base "move" 2 ["before","column","voice"] (j4 K))(D_span:bZ P w K mg base "span" 2 ["column","first","second"] (nL K)):aP P w K mg base bY 3 f fd ["self","memory","before","column"] (bJ K nv (fI C row x1 x2 D) (eK x1 x2 D) fun _=>True):=by
 refine F.ok sc_Alike_after (fun vs H Q E h=>?_) (fun cdv A outer s H vs Q E hr h=>?_)
 ·obtain⟨r,m,x,c,bb,us,rfl,_⟩:=h
  rfl
 obtain⟨r,m,x,c,bb,us,rfl,⟨dx,n,hr1,hn⟩,_,hbv,hc,hu,k⟩:=h
 refine⟨_,(af (aV (PW.pt (cf (aX (az d8 (pr 2) bc (aA _))) (bW (aX (az gr (aE D_move hr (by rfl) (aa (pr 2) (aa (pr 3) (aa (bA (pr 0) rfl) ag)))) ae (aA _)))))) (ah (ar (pr 1))) aG)
 (af (aJ (i:=4) sc_Alike_after.nd rfl (Or.inl rfl) (aE D_span hr (by rfl) (aa (pr 3) (aa (bA (pr 0) rfl) (aa (bA (pr 0) rfl) ag)))))
 (ah (ar (cG (PW.pt (fA (aX (az gr (pr 4) (aE D_span hr (by rfl) (aa (pr 2) (aa (bA (pr 0) rfl) (aa (bA (pr 0) rfl) ag)))) (aA _))) (eD (aX (az (lH K) (pr 4) (bA (pr 0) rfl) (by with_unfolding_all rfl)))))) bc (pr 1)))))),?_⟩
 refine Ao fun A0 B0 hA hB=>?_
 walk_at "rd"
 have l1:(di row x1 x2 n).lookup (Str.ofString "first")=some (.int x1):=by unfold di;walk_at "flds"
 have l2:(di row x1 x2 n).lookup (Str.ofString "second")=some (.int x2):=by unfold di;walk_at "flds"
 have l3:(di row x1 x2 n).lookup (Str.ofString "numbers")=some (.ref n):=by unfold di;walk_at "flds"
 rcases hbv with⟨rfl,rfl⟩ | ⟨a,bs,rfl,rfl,hba,hbl⟩
 ·rw [if_pos rfl]
  exact hA _ k
 rw [if_neg (fun z=>by cases z)]
 have a1:=ha.1
 have a2:=ha.2
 have b1:=hb.1
 have b2:=hb.2
 refine⟨C,dx,_,hr1,TC.cl,TC.n2,_,l1,a,c,x1,bs,us,rfl,hba,hc,a1,by omega,by omega,?_⟩
 walk_at "rd"
 simp only [eK]at k
 by_cases h0:aF us x1 - aF bs x1=0
 ·rw [if_pos h0]
  rw [if_pos h0]at k
  exact hA _ k
 rw [if_neg h0]
 rw [if_neg h0]at k
 refine hB _ ?_
 walk_at "rd"
 refine⟨C,dx,_,hr1,TC.cl,TC.n2,_,l1,C,dx,_,hr1,TC.cl,TC.n3,_,l2,c,x1,x2,us,rfl,hc,a1,by omega,b1,by omega,?_⟩
 refine⟨C,dx,_,hr1,TC.cl,TC.n2,_,l1,C,dx,_,hr1,TC.cl,TC.n3,_,l2,a,x1,x2,bs,rfl,hba,a1,by omega,b1,by omega,?_⟩
 walk_at "rd"
 by_cases h1:aF us x2 - aF us x1=aF bs x2 - aF bs x1
 ·rw [if_pos h1]
  refine⟨C,dx,_,hr1,TC.cl,TC.n4,_,l3,fC (aO.of hn) ⟨_,rfl,?_⟩⟩
  by_cases h:aF us x2 - aF us x1∈D
  ·rw [if_pos (decide_eq_true h)]
   rw [if_pos ⟨h1,h⟩]at k
   exact k
  ·rw [if_neg (by rw [decide_eq_false h];exact Bool.false_ne_true)]
   rw [if_neg (fun z=>h z.2)]at k
   exact k
 ·rw [if_neg h1]
  rw [if_neg (fun z=>h1 z.1)]at k
  exact k
theorem vg{C:Addr}{row:Str}{x1 x2:Int}{D:List Int}{nv:Nat}(TC:jt K C)(h1:aD P w K mg base C "size" 7 ["self"] (bu 1 fun _=>.int 1))(h2:aD P w K mg base C "start" 7 ["self"] (bu 1 fun _=>.int 0))(h3:aD P w K mg base C "closes" 7 ["self","memory","last"] (bu 3 fun _=>.bl true))
  (h4:aD P w K mg base C "after" 7 ["self","memory","before","column"] (bJ K nv (fI C row x1 x2 D) (eK x1 x2 D) fun _=>True)):bB P w K mg base 7 nv C (eK x1 x2 D) (fI C row x1 x2 D) (fun _=>True):=by
 refine⟨fun r H H' s h=>?_,fun r H h=>?_,trivial,fun _ _ _ _ _ _=>trivial,h1.imp ?_,h2.imp ?_,h4,h3.imp ?_⟩
 ·obtain⟨dx,n,e1,e2⟩:=h
  exact⟨dx,n,s _ _ e1,s _ _ e2⟩
 ·obtain⟨dx,n,e1,e2⟩:=h
  refine⟨dx,_,e1,?_,?_,?_,?_,?_⟩<;>(unfold di;walk_at "flds")
 ·rintro vs H Q E ⟨r,rfl,_,q⟩
  exact⟨rfl,q⟩
 ·rintro vs H Q E ⟨r,rfl,_,q⟩
  exact⟨rfl,q⟩
 ·rintro vs H Q E ⟨r,m,x,b,rfl,_,_,_,q⟩
  exact⟨rfl,q⟩
theorem og{f C:Addr}{fd:FuncData}(F:cH K "__init__" "Begin.__init__" ee f fd)(T:Txt mg aM)(TC:ju K C)(DC_Rule___init__:kn P w K mg base "Rule" "__init__" 1 ["self","row"] (cj K)):aP P w K mg base bY 2 f fd ["self","row","voice","notes"] (ir K C):=by
 refine F.ok jS (fun vs H Q E h=>?_) (fun cdv A outer s H vs Q E hr h=>?_)
 ·obtain⟨x,dx,q,row,x1,D,rfl,_⟩:=h
  rfl
 obtain⟨x,dx,q,row,x1,D,rfl,hx,hq,hl,k⟩:=h
 refine⟨_,(af (cw (dA DC_Rule___init__ hr (by rfl) (aa (pr 0) (aa (pr 1) ag))))
 (af (bU (pr 0) (pr 2) rfl)
 (ah (bU (pr 0) (bF (cq K) (by rfl) T.n_list boot_list (aa (pr 3) ag)) rfl)))),?_⟩
 walk_at "rd"
 have ln:∀(f:Str) (v:V) (l:List (Str×V)) (n:Nat),l.length≤n→(bN f v l).length≤n+1:=fun f v l n h=>Nat.le_trans (bR f v l) (Nat.succ_le_succ h)
 refine⟨x,C,dx,[],row,rfl,hx,TC.cl,TC.n1,by decide,?_⟩
 refine⟨C,dx,_,ab,TC.cl,TC.n2,Nat.lt_of_le_of_lt (ln _ _ _ _ (Nat.zero_le 0)) (by decide),D.map V.int,.inl ((hq.at_ins hx).at_ins ab),fun n hn=>?_⟩
 have nx:n≠x:=fun e=>by subst e;rw [ab]at hn;cases hn
 rw [aj nx,aj nx]at hn
 refine⟨C,dx,_,by rw [aj (Ne.symm nx),ab],TC.cl,TC.n3,Nat.lt_of_le_of_lt (ln _ _ _ _ (ln _ _ _ _ (Nat.zero_le 0))) (by decide),?_⟩
 refine k n _ hn ?_
 rw [b8,fH]
 rfl
theorem rS{f C:Addr}{fd:FuncData}(F:cH K "begin_of" "begin_of" i8 f fd)(T:Txt mg aM)(D_has_list:bZ P w K mg base "has_list" 3 ["numbers","ahead"] (dN K))(D_are_voices:bZ P w K mg base "are_voices" 3 ["numbers","voices"] (cb K))(DM_Begin:dZ P w K mg base "Begin" C 2 ["self","row","voice","notes"] (ir K C)):aP P w K mg base bY 4 f fd ["row","numbers","voices"] (iJ K C):=by
 refine F.ok sk (fun vs H Q E h=>?_) (fun cdv A outer s H vs Q E hr h=>?_)
 ·obtain⟨q,row,x1,D,nv,rfl,_⟩:=h
  rfl
 obtain⟨q,row,x1,D,nv,rfl,hq,x1_1,x1_2,l1,l2,k⟩:=h
 refine⟨_,(af (aV (PW.pt (cf (b0 (aY (aE D_has_list hr (by rfl) (aa (pr 1) (aa ae ag))) (fun _=>rfl))) (bW (b0 (aY (aE D_are_voices hr (by rfl) (aa (aS (dc K) (pr 1) bz (c4 ae)) (aa (pr 2) ag))) (fun _=>rfl)))))) (ah (ar bc)) aG)
 (ah (ar (gT DM_Begin hr (by rfl) (aa (pr 0) (aa (aC (aL K) (pr 1) ae (fun _ _=>rfl)) (aa (aS (dc K) (pr 1) (c4 ae) bz) ag))))))),?_⟩
 walk_at "rd"
 have hs:sizeLine=16777216:=sizeLine_eq
 refine⟨q,_,1,rfl,hq,?_⟩
 rw [show(decide (1≤(((x1::D).map V.int).length:Int) - 1) && decide ((((x1::D).map V.int).length:Int) - 1≤12))=true by simp;omega]
 walk_at "rd"
 refine bM hq fun q1 hq1=>?_
 rw [show(some (1:Int))=some ((1:Nat):Int)from rfl,de]
 have s1:ax H (upd H q1 (.lst ((((x1::D).map V.int)).take 1))):=au hq1
 refine⟨q1,[x1],nv,rfl,aO.of ab,by simp,fun H1 s2=>?_⟩
 rw [show([x1].all fun n=>decide (1≤n) && decide (n≤nv))=true by simp;omega]
 walk_at "rd"
 have s3:=s1.trans s2
 have hq3:=s3.seq hq
 refine aT hq3 (bD rfl) (bM hq3 fun q2 hq2=>?_)
 rw [bQ]
 show ∀x dx:Addr,_
 intro x dx hx hdx hne
 have s4:ax H (upd H1 q2 (.lst (((x1::D).map V.int).drop 1))):=s3.upd hq2
 have hq2':(upd H1 q2 (.lst (((x1::D).map V.int).drop 1))) q2=some (.lst (D.map V.int)):=ab
 generalize upd H1 q2 (.lst (((x1::D).map V.int).drop 1))=H2 at s4 hx hdx hq2'
 have s5:ax H (upd (upd H2 dx (.own x)) x (.ins C dx [])):=(s4.upd hdx).upd (by rw [aj (Ne.symm hne)];exact hx)
 have hq5:(upd (upd H2 dx (.own x)) x (.ins C dx [])) q2=some (.lst (D.map V.int)):=by
  rw [aj (ay hq2' hx),aj (ay hq2' hdx)]
  exact hq2'
 refine⟨x,dx,q2,row,x1,D,rfl,ab,aO.of hq5,by omega,fun n H3 hn e=>⟨rfl,?_⟩⟩
 subst e
 have nx:n≠x:=fun z=>by subst z;rw [ab]at hn;cases hn
 refine k x _ ?_ ⟨dx,n,ab,by rw [aj nx,ab]⟩
 intro c o hc
 have n1:c≠x:=ay (s4 _ _ hc) hx
 rw [aj n1,aj (ay (s5 _ _ hc) hn)]
 exact s5 _ _ hc
theorem m4{f C:Addr}{fd:FuncData}{row:Str}{x1:Int}{D:List Int}{nv:Nat}(F:cH K "after" "Begin.after" fV f fd)(T:Txt mg aM)(TC:ju K C)(ha:1≤x1∧x1≤nv)(D_note_in:bZ P w K mg base "note_in" 2 ["column","voice"] (eQ K)):aP P w K mg base bY 3 f fd ["self","memory","before","column"] (bJ K nv (fJ C row x1 D) (dX x1 D) fun _=>True):=by
 refine F.ok nu (fun vs H Q E h=>?_) (fun cdv A outer s H vs Q E hr h=>?_)
 ·obtain⟨r,m,x,c,bb,us,rfl,_⟩:=h
  rfl
 obtain⟨r,m,x,c,bb,us,rfl,⟨dx,n,hr1,hn⟩,_,hbv,hc,hu,k⟩:=h
 refine⟨_,(ah (ar (cG (PW.pt (cf (aX (az mh (pr 2) bc (aA _))) (bW (aX (az (lH K) (aE D_note_in hr (by rfl) (aa (pr 3) (aa (bA (pr 0) rfl) ag))) (bA (pr 0) rfl) (by with_unfolding_all rfl)))))) (pr 1) bc))),?_⟩
 walk_at "rd"
 have l1:(d5 row x1 n).lookup (Str.ofString "voice")=some (.int x1):=by unfold d5;walk_at "flds"
 have l2:(d5 row x1 n).lookup (Str.ofString "notes")=some (.ref n):=by unfold d5;walk_at "flds"
 rcases hbv with⟨rfl,rfl⟩ | ⟨a,bs,rfl,rfl,hba,hbl⟩
 ·rw [if_pos rfl]
  refine⟨C,dx,_,hr1,TC.cl,TC.n2,_,l1,c,x1,us,rfl,hc,ha.1,by rw [hu];exact ha.2,C,dx,_,hr1,TC.cl,TC.n3,_,l2,fC (aO.of hn) ⟨_,rfl,?_⟩⟩
  simp only [dX]at k
  by_cases h:aF us x1∈D
  ·rw [if_pos (decide_eq_true h)]
   rw [if_pos h]at k
   exact k
  ·rw [if_neg (by rw [decide_eq_false h];exact Bool.false_ne_true)]
   rw [if_neg h]at k
   exact k
 ·rw [if_neg (by simp)]
  exact k
theorem vh{C:Addr}{row:Str}{x1:Int}{D:List Int}{nv:Nat}(TC:ju K C)(h1:aD P w K mg base C "size" 7 ["self"] (bu 1 fun _=>.int 1))(h2:aD P w K mg base C "start" 7 ["self"] (bu 1 fun _=>.int 0))(h3:aD P w K mg base C "closes" 7 ["self","memory","last"] (bu 3 fun _=>.bl true))
  (h4:aD P w K mg base C "after" 7 ["self","memory","before","column"] (bJ K nv (fJ C row x1 D) (dX x1 D) fun _=>True)):bB P w K mg base 7 nv C (dX x1 D) (fJ C row x1 D) (fun _=>True):=by
 refine⟨fun r H H' s h=>?_,fun r H h=>?_,trivial,fun _ _ _ _ _ _=>trivial,h1.imp ?_,h2.imp ?_,h4,h3.imp ?_⟩
 ·obtain⟨dx,n,e1,e2⟩:=h
  exact⟨dx,n,s _ _ e1,s _ _ e2⟩
 ·obtain⟨dx,n,e1,e2⟩:=h
  refine⟨dx,_,e1,?_,?_,?_,?_,?_⟩<;>(unfold d5;walk_at "flds")
 ·rintro vs H Q E ⟨r,rfl,_,q⟩
  exact⟨rfl,q⟩
 ·rintro vs H Q E ⟨r,rfl,_,q⟩
  exact⟨rfl,q⟩
 ·rintro vs H Q E ⟨r,m,x,b,rfl,_,_,_,q⟩
  exact⟨rfl,q⟩
theorem oj{f C:Addr}{fd:FuncData}(F:cH K "__init__" "Close.__init__" eg f fd)(T:Txt mg aM)(TC:jw K C)(DC_Rule___init__:kn P w K mg base "Rule" "__init__" 1 ["self","row"] (cj K)):aP P w K mg base bY 2 f fd ["self","row","voice","notes"] (iw K C):=by
 refine F.ok jV (fun vs H Q E h=>?_) (fun cdv A outer s H vs Q E hr h=>?_)
 ·obtain⟨x,dx,q,row,x1,D,rfl,_⟩:=h
  rfl
 obtain⟨x,dx,q,row,x1,D,rfl,hx,hq,hl,k⟩:=h
 refine⟨_,(af (cw (dA DC_Rule___init__ hr (by rfl) (aa (pr 0) (aa (pr 1) ag))))
 (af (bU (pr 0) (pr 2) rfl)
 (ah (bU (pr 0) (bF (cq K) (by rfl) T.n_list boot_list (aa (pr 3) ag)) rfl)))),?_⟩
 walk_at "rd"
 have ln:∀(f:Str) (v:V) (l:List (Str×V)) (n:Nat),l.length≤n→(bN f v l).length≤n+1:=fun f v l n h=>Nat.le_trans (bR f v l) (Nat.succ_le_succ h)
 refine⟨x,C,dx,[],row,rfl,hx,TC.cl,TC.n1,by decide,?_⟩
 refine⟨C,dx,_,ab,TC.cl,TC.n2,Nat.lt_of_le_of_lt (ln _ _ _ _ (Nat.zero_le 0)) (by decide),D.map V.int,.inl ((hq.at_ins hx).at_ins ab),fun n hn=>?_⟩
 have nx:n≠x:=fun e=>by subst e;rw [ab]at hn;cases hn
 rw [aj nx,aj nx]at hn
 refine⟨C,dx,_,by rw [aj (Ne.symm nx),ab],TC.cl,TC.n3,Nat.lt_of_le_of_lt (ln _ _ _ _ (ln _ _ _ _ (Nat.zero_le 0))) (by decide),?_⟩
 refine k n _ hn ?_
 rw [b8,fH]
 rfl
theorem rV{f C:Addr}{fd:FuncData}(F:cH K "close_of" "close_of" ja f fd)(T:Txt mg aM)(D_has_list:bZ P w K mg base "has_list" 3 ["numbers","ahead"] (dN K))(D_are_voices:bZ P w K mg base "are_voices" 3 ["numbers","voices"] (cb K))(DM_Close:dZ P w K mg base "Close" C 2 ["self","row","voice","notes"] (iw K C)):aP P w K mg base bY 4 f fd ["row","numbers","voices"] (iL K C):=by
 refine F.ok sq (fun vs H Q E h=>?_) (fun cdv A outer s H vs Q E hr h=>?_)
 ·obtain⟨q,row,x1,D,nv,rfl,_⟩:=h
  rfl
 obtain⟨q,row,x1,D,nv,rfl,hq,x1_1,x1_2,l1,l2,k⟩:=h
 refine⟨_,(af (aV (PW.pt (cf (b0 (aY (aE D_has_list hr (by rfl) (aa (pr 1) (aa ae ag))) (fun _=>rfl))) (bW (b0 (aY (aE D_are_voices hr (by rfl) (aa (aS (dc K) (pr 1) bz (c4 ae)) (aa (pr 2) ag))) (fun _=>rfl)))))) (ah (ar bc)) aG)
 (ah (ar (gT DM_Close hr (by rfl) (aa (pr 0) (aa (aC (aL K) (pr 1) ae (fun _ _=>rfl)) (aa (aS (dc K) (pr 1) (c4 ae) bz) ag))))))),?_⟩
 walk_at "rd"
 have hs:sizeLine=16777216:=sizeLine_eq
 refine⟨q,_,1,rfl,hq,?_⟩
 rw [show(decide (1≤(((x1::D).map V.int).length:Int) - 1) && decide ((((x1::D).map V.int).length:Int) - 1≤12))=true by simp;omega]
 walk_at "rd"
 refine bM hq fun q1 hq1=>?_
 rw [show(some (1:Int))=some ((1:Nat):Int)from rfl,de]
 have s1:ax H (upd H q1 (.lst ((((x1::D).map V.int)).take 1))):=au hq1
 refine⟨q1,[x1],nv,rfl,aO.of ab,by simp,fun H1 s2=>?_⟩
 rw [show([x1].all fun n=>decide (1≤n) && decide (n≤nv))=true by simp;omega]
 walk_at "rd"
 have s3:=s1.trans s2
 have hq3:=s3.seq hq
 refine aT hq3 (bD rfl) (bM hq3 fun q2 hq2=>?_)
 rw [bQ]
 show ∀x dx:Addr,_
 intro x dx hx hdx hne
 have s4:ax H (upd H1 q2 (.lst (((x1::D).map V.int).drop 1))):=s3.upd hq2
 have hq2':(upd H1 q2 (.lst (((x1::D).map V.int).drop 1))) q2=some (.lst (D.map V.int)):=ab
 generalize upd H1 q2 (.lst (((x1::D).map V.int).drop 1))=H2 at s4 hx hdx hq2'
 have s5:ax H (upd (upd H2 dx (.own x)) x (.ins C dx [])):=(s4.upd hdx).upd (by rw [aj (Ne.symm hne)];exact hx)
 have hq5:(upd (upd H2 dx (.own x)) x (.ins C dx [])) q2=some (.lst (D.map V.int)):=by
  rw [aj (ay hq2' hx),aj (ay hq2' hdx)]
  exact hq2'
 refine⟨x,dx,q2,row,x1,D,rfl,ab,aO.of hq5,by omega,fun n H3 hn e=>⟨rfl,?_⟩⟩
 subst e
 have nx:n≠x:=fun z=>by subst z;rw [ab]at hn;cases hn
 refine k x _ ?_ ⟨dx,n,ab,by rw [aj nx,ab]⟩
 intro c o hc
 have n1:c≠x:=ay (s4 _ _ hc) hx
 rw [aj n1,aj (ay (s5 _ _ hc) hn)]
 exact s5 _ _ hc
theorem lN{f C:Addr}{fd:FuncData}{row:Str}{x1:Int}{D:List Int}{nv:Nat}(F:cH K "closes" "Close.closes" fE f fd)(T:Txt mg aM)(TC:jw K C)(ha:1≤x1∧x1≤nv)(D_note_in:bZ P w K mg base "note_in" 2 ["column","voice"] (eQ K)):aP P w K mg base bY 3 f fd ["self","memory","last"] (dC K nv (fL C row x1 D) (eM x1 D) fun _=>True):=by
 refine F.ok lS (fun vs H Q E h=>?_) (fun cdv A outer s H vs Q E hr h=>?_)
 ·obtain⟨r,m,x,bb,rfl,_⟩:=h
  rfl
 obtain⟨r,m,x,bb,rfl,⟨dx,n,hr1,hn⟩,_,hbv,k⟩:=h
 refine⟨_,(ah (ar (xV (xX (bE d8 (pr 2) bc (aA _)) (fw (bE (lH K) (aE D_note_in hr (by rfl) (aa (pr 2) (aa (bA (pr 0) rfl) ag))) (bA (pr 0) rfl) (by with_unfolding_all rfl))))))),?_⟩
 walk_at "rd"
 have l1:(d6 row x1 n).lookup (Str.ofString "voice")=some (.int x1):=by unfold d6;walk_at "flds"
 have l2:(d6 row x1 n).lookup (Str.ofString "notes")=some (.ref n):=by unfold d6;walk_at "flds"
 rcases hbv with⟨rfl,rfl⟩ | ⟨a,bs,rfl,rfl,hba,hbl⟩
 ·rw [if_pos rfl]
  exact k
 ·rw [if_neg (by simp)]
  refine⟨C,dx,_,hr1,TC.cl,TC.n2,_,l1,a,x1,bs,rfl,hba,ha.1,by rw [hbl];exact ha.2,C,dx,_,hr1,TC.cl,TC.n3,_,l2,fC (aO.of hn) ?_⟩
  exact k
theorem vv{C:Addr}{row:Str}{x1:Int}{D:List Int}{nv:Nat}(TC:jw K C)(h1:aD P w K mg base C "size" 7 ["self"] (bu 1 fun _=>.int 1))(h2:aD P w K mg base C "start" 7 ["self"] (bu 1 fun _=>.int 0))(h3:aD P w K mg base C "after" 7 ["self","memory","before","column"] (bu 4 xE))
  (h4:aD P w K mg base C "closes" 7 ["self","memory","last"] (dC K nv (fL C row x1 D) (eM x1 D) fun _=>True)):bB P w K mg base 7 nv C (eM x1 D) (fL C row x1 D) (fun _=>True):=by
 refine⟨fun r H H' s h=>?_,fun r H h=>?_,trivial,fun _ _ _ _ _ _=>trivial,h1.imp ?_,h2.imp ?_,h3.imp ?_,h4⟩
 ·obtain⟨dx,n,e1,e2⟩:=h
  exact⟨dx,n,s _ _ e1,s _ _ e2⟩
 ·obtain⟨dx,n,e1,e2⟩:=h
  refine⟨dx,_,e1,?_,?_,?_,?_,?_⟩<;>(unfold d6;walk_at "flds")
 ·rintro vs H Q E ⟨r,rfl,_,q⟩
  exact⟨rfl,q⟩
 ·rintro vs H Q E ⟨r,rfl,_,q⟩
  exact⟨rfl,q⟩
 ·rintro vs H Q E ⟨r,m,x,c,b,us,rfl,_,_,_,_,_,q⟩
  exact⟨rfl,q⟩
theorem qg{f C:Addr}{fd:FuncData}(F:cH K "__init__" "Back.__init__" eT f fd)(T:Txt mg aM)(TC:lV K C)(DC_Rule___init__:kn P w K mg base "Rule" "__init__" 1 ["self","row"] (cj K)):aP P w K mg base bY 2 f fd ["self","row","voice","widest"] (ji K C):=by
 refine F.ok kT (fun vs H Q E h=>?_) (fun cdv A outer s H vs Q E hr h=>?_)
 ·obtain⟨x,dx,row,x1,x2,rfl,_⟩:=h
  rfl
 obtain⟨x,dx,row,x1,x2,rfl,hx,k⟩:=h
 refine⟨_,(af (cw (dA DC_Rule___init__ hr (by rfl) (aa (pr 0) (aa (pr 1) ag))))
 (af (bU (pr 0) (pr 2) rfl)
 (ah (bU (pr 0) (pr 3) rfl)))),?_⟩
 walk_at "rd"
 have ln:∀(f:Str) (v:V) (l:List (Str×V)) (n:Nat),l.length≤n→(bN f v l).length≤n+1:=fun f v l n h=>Nat.le_trans (bR f v l) (Nat.succ_le_succ h)
 refine⟨x,C,dx,[],row,rfl,hx,TC.cl,TC.n1,by decide,?_⟩
 refine⟨C,dx,_,ab,TC.cl,TC.n2,Nat.lt_of_le_of_lt (ln _ _ _ _ (Nat.zero_le 0)) (by decide),C,dx,_,ab,TC.cl,TC.n3,Nat.lt_of_le_of_lt (ln _ _ _ _ (ln _ _ _ _ (Nat.zero_le 0))) (by decide),?_⟩
 rw [b8,b8]
 exact k
theorem tH{f C:Addr}{fd:FuncData}(F:cH K "back_of" "back_of" kN f fd)(T:Txt mg aM)(D_are_voices:bZ P w K mg base "are_voices" 3 ["numbers","voices"] (cb K))(DM_Back:dZ P w K mg base "Back" C 2 ["self","row","voice","widest"] (ji K C)):aP P w K mg base bY 4 f fd ["row","numbers","voices"] (jZ K C):=by
 refine F.ok t7 (fun vs H Q E h=>?_) (fun cdv A outer s H vs Q E hr h=>?_)
 ·obtain⟨q,row,x1,x2,nv,rfl,_⟩:=h
  rfl
 obtain⟨q,row,x1,x2,nv,rfl,hq,b1,b2,b3,k⟩:=h
 refine⟨_,(af (aV (PW.pt (cf (aX (az yP (aH (aQ K) (by rfl) T.n_len boot_len (aa (pr 1) ag)) ae (aA _))) (cf (b0 (aY (aE D_are_voices hr (by rfl) (aa (aS (dc K) (pr 1) bz (c4 ae)) (aa (pr 2) ag))) (fun _=>rfl))) (bW (aX (az (o0 kH) (aC (aL K) (pr 1) ae (fun _ _=>rfl)) ae (aA _))))))) (ah (ar bc)) aG)
 (ah (ar (gT DM_Back hr (by rfl) (aa (pr 0) (aa (aC (aL K) (pr 1) ae (fun _ _=>rfl)) (aa (aC (aL K) (pr 1) ae (fun _ _=>rfl)) ag))))))),?_⟩
 walk_at "rd"
 have hs:sizeLine=16777216:=sizeLine_eq
 refine⟨_,.inl hq,?_⟩
 walk_at "rd"
 rw [if_pos (show(((0:Nat)+1+1:Nat):Int)=2 from rfl)]
 refine bM hq fun q1 hq1=>?_
 rw [show(some (1:Int))=some ((1:Nat):Int)from rfl,de]
 have s1:ax H (upd H q1 (.lst (([x1,x2].map V.int).take 1))):=au hq1
 refine⟨q1,[x1],nv,rfl,aO.of ab,by simp,fun H1 s2=>?_⟩
 rw [show([x1].all fun n=>decide (1≤n) && decide (n≤nv))=true by simp;omega]
 walk_at "rd"
 have s3:=s1.trans s2
 have hq3:=s3.seq hq
 refine aT hq3 (show dz _ ((1:Nat):Int)=_ from aK rfl) ?_
 walk_at "rd"
 rw [if_neg (show ¬(x2 < 0)by omega)]
 refine aT hq3 (bD rfl) (aT hq3 (show dz _ ((1:Nat):Int)=_ from aK rfl) ?_)
 show ∀x dx:Addr,_
 intro x dx hx hdx hne
 have s5:ax H (upd (upd H1 dx (.own x)) x (.ins C dx [])):=(s3.upd hdx).upd (by rw [aj (Ne.symm hne)];exact hx)
 refine⟨x,dx,row,x1,x2,rfl,ab,rfl,?_⟩
 refine k x _ ?_ ⟨dx,ab⟩
 intro c o hc
 rw [aj (ay (s3 _ _ hc) hx)]
 exact s5 _ _ hc
theorem qh{f:Addr}{fd:FuncData}(F:cH K "size" "Back.size" ia f fd):aP P w K mg base bY 1 f fd ["self"] (bu 1 fun _=>.int 3):=by
 refine F.ok qG (fun vs H Q E h=>h.1) (fun cdv A outer s H vs Q E hr h=>?_)
 obtain⟨hl,k⟩:=h
 match vs,hl with
 | [a],_=>
 refine⟨_,(ah (ar ae)),?_⟩
 walk_at "rd"
 exact k
theorem oe{f:Addr}{fd:FuncData}(F:cH K "start" "Back.start" gw f fd)(T:Txt mg aM):aP P w K mg base bY 1 f fd ["self"] (bu 1 fun _=>.int 0):=by
 refine F.ok oI (fun vs H Q E h=>h.1) (fun cdv A outer s H vs Q E hr h=>?_)
 obtain⟨hl,k⟩:=h
 match vs,hl with
 | [a],_=>
 refine⟨_,(ah (ar (hZ T.g_NO_LEAP))),?_⟩
 walk_at "rd"
 exact k
def jG(m:Int):Prop:=0≤m∧m≤2
theorem m3{f C:Addr}{fd:FuncData}{row:Str}{x1 x2:Int}{nv:Nat}(F:cH K "closes" "Back.closes" fU f fd)(T:Txt mg aM):aP P w K mg base bY 1 f fd ["self","memory","last"] (dC K nv (fe C row x1 x2) (dq x1 x2) jG):=by
 refine F.ok nr (fun vs H Q E h=>?_) (fun cdv A outer s H vs Q E hr h=>?_)
 ·obtain⟨r,m,x,bb,rfl,_⟩:=h
  rfl
 obtain⟨r,m,x,bb,rfl,_,_,_,k⟩:=h
 refine⟨_,(ah (ar (bE gr (pr 1) (hZ T.g_NO_LEAP) (aA _)))),?_⟩
 walk_at "rd"
 exact k
theorem oa{f C:Addr}{fd:FuncData}{row:Str}{x1 x2:Int}{nv:Nat}(F:cH K "after" "Back.after" gv f fd)(T:Txt mg aM)(TC:lV K C)(ha:1≤x1∧x1≤nv)(D_move:bZ P w K mg base "move" 2 ["before","column","voice"] (j4 K)):aP P w K mg base bY 3 f fd ["self","memory","before","column"] (bJ K nv (fe C row x1 x2) (dq x1 x2) jG):=by
 refine F.ok sc_Back_after (fun vs H Q E h=>?_) (fun cdv A outer s H vs Q E hr h=>?_)
 ·obtain⟨r,m,x,c,bb,us,rfl,_⟩:=h
  rfl
 obtain⟨r,m,x,c,bb,us,rfl,⟨dx,hr1⟩,_,hbv,hc,hu,k⟩:=h
 refine⟨_,(af (aV (aX (az d8 (pr 2) bc (aA _))) (ah (ar (hZ T.g_NO_LEAP))) aG)
 (af (aJ (i:=4) sc_Back_after.nd rfl (Or.inl rfl) (aE D_move hr (by rfl) (aa (pr 2) (aa (pr 3) (aa (bA (pr 0) rfl) ag)))))
 (af (aV (PW.pt (cf (PW.pt (fA (aX (az gr (pr 1) (hZ T.g_LEAP_UP) (aA _))) (eD (aX (az (o0 uW) (pr 4) ae (aA _)))))) (bW (PW.pt (fA (aX (az gr (pr 1) (hZ T.g_LEAP_DOWN) (aA _))) (eD (aX (az (o0 gR) (pr 4) ae (aA _))))))))) (ah (ar bc)) aG)
 (af (aV (aX (az (o0 gQ) (pr 4) (bA (pr 0) rfl) (aA _))) (ah (ar (hZ T.g_LEAP_UP))) aG)
 (ah (ar (cG (aX (az (o0 kH) (pr 4) (aq (o0 bI) ae (bA (pr 0) rfl)) (aA _))) (hZ T.g_LEAP_DOWN) (hZ T.g_NO_LEAP)))))))),?_⟩
 have l1:(fk row x1 x2).lookup (Str.ofString "voice")=some (.int x1):=by unfold fk;walk_at "flds"
 have l2:(fk row x1 x2).lookup (Str.ofString "widest")=some (.int x2):=by unfold fk;walk_at "flds"
 refine td fun A0 B0 hA0 hB0=>?_
 walk_at "rd"
 rcases hbv with⟨rfl,rfl⟩ | ⟨a,bs,rfl,rfl,hba,hbl⟩
 ·rw [if_pos rfl]
  exact hA0 _ k
 rw [if_neg (fun z=>by cases z)]
 refine hB0 _ (lz0 fun k1 hk1=>?_)
 walk_at "rd"
 refine⟨C,dx,_,hr1,TC.cl,TC.n2,_,l1,a,c,x1,bs,us,rfl,hba,hc,ha.1,by rw [hbl];exact ha.2,by rw [hu];exact ha.2,?_⟩
 simp only [dq]at k
 generalize aF us x1 - aF bs x1=stp at k ⊢
 refine hk1 _ _ (td fun A1 B1 hA1 hB1=>?_)
 walk_at "rd"
 by_cases hB:(m=1∧0≤stp)∨(m=2∧stp≤0)
 ·rw [if_pos hB]at k
  rcases hB with⟨h1,h2⟩ | ⟨h1,h2⟩
  ·rw [if_pos h1,if_pos h2]
   exact hA1 _ k
  ·rw [if_neg (show ¬(m=1)by omega),if_pos h1,if_pos h2]
   exact hA1 _ k
 rw [if_neg hB]at k
 have hb1:B1 H:=by
  refine hB1 _ (td fun A2 B2 hA2 hB2=>?_)
  walk_at "rd"
  refine⟨C,dx,_,hr1,TC.cl,TC.n3,_,l2,_,rfl,?_⟩
  by_cases h3:x2 < stp
  ·rw [if_pos h3]
   rw [if_pos (show stp > x2 from h3)]at k
   exact hA2 _ k
  rw [if_neg h3]
  rw [if_neg (show ¬(stp > x2)from h3)]at k
  refine hB2 _ ?_
  walk_at "rd"
  refine⟨C,dx,_,hr1,TC.cl,TC.n3,_,l2,_,rfl,?_⟩
  by_cases h4:stp < 0 - x2
  ·rw [if_pos h4]
   rw [if_pos h4]at k
   exact k
  ·rw [if_neg h4]
   rw [if_neg h4]at k
   exact k
 by_cases h1:m=1
 ·rw [if_pos h1,if_neg (fun z=>hB (.inl ⟨h1,z⟩)),if_neg (show ¬(m=2)by omega)]
  exact hb1
 rw [if_neg h1]
 by_cases h2:m=2
 ·rw [if_pos h2,if_neg (fun z=>hB (.inr ⟨h2,z⟩))]
  exact hb1
 rw [if_neg h2]
 exact hb1
theorem wN{C:Addr}{row:Str}{x1 x2:Int}{nv:Nat}(TC:lV K C)(h1:aD P w K mg base C "size" 7 ["self"] (bu 1 fun _=>.int 3))(h2:aD P w K mg base C "start" 7 ["self"] (bu 1 fun _=>.int 0))(h3:aD P w K mg base C "closes" 7 ["self","memory","last"] (dC K nv (fe C row x1 x2) (dq x1 x2) jG))
  (h4:aD P w K mg base C "after" 7 ["self","memory","before","column"] (bJ K nv (fe C row x1 x2) (dq x1 x2) jG)):bB P w K mg base 7 nv C (dq x1 x2) (fe C row x1 x2) jG:=by
 refine⟨fun r H H' s h=>?_,fun r H h=>?_,⟨show(0:Int)≤0 by decide,show(0:Int)≤2 by decide⟩,fun m b us m' _ e=>?_,h1.imp ?_,h2.imp ?_,h4,h3⟩
 ·obtain⟨dx,e1⟩:=h
  exact⟨dx,s _ _ e1⟩
 ·obtain⟨dx,e1⟩:=h
  refine⟨dx,_,e1,?_,?_,?_,?_,?_⟩<;>(unfold fk;walk_at "flds")
 ·simp only [dq]at e
  cases b with
  | none=>cases e;exact⟨by decide,by decide⟩
  | some bs=>
   simp only at e
   split at e
   ·cases e
   split at e
   ·cases e;exact⟨by decide,by decide⟩
   split at e
   ·cases e;exact⟨by decide,by decide⟩
   ·cases e;exact⟨by decide,by decide⟩
 ·rintro vs H Q E ⟨r,rfl,_,q⟩
  exact⟨rfl,q⟩
 ·rintro vs H Q E ⟨r,rfl,_,q⟩
  exact⟨rfl,q⟩
theorem qj{f C:Addr}{fd:FuncData}(F:cH K "__init__" "Held.__init__" eU f fd)(T:Txt mg aM)(TC:jx K C)(DC_Rule___init__:kn P w K mg base "Rule" "__init__" 1 ["self","row"] (cj K)):aP P w K mg base bY 2 f fd ["self","row","voice","most"] (jk K C):=by
 refine F.ok kU (fun vs H Q E h=>?_) (fun cdv A outer s H vs Q E hr h=>?_)
 ·obtain⟨x,dx,row,x1,x2,rfl,_⟩:=h
  rfl
 obtain⟨x,dx,row,x1,x2,rfl,hx,k⟩:=h
 refine⟨_,(af (cw (dA DC_Rule___init__ hr (by rfl) (aa (pr 0) (aa (pr 1) ag))))
 (af (bU (pr 0) (pr 2) rfl)
 (ah (bU (pr 0) (pr 3) rfl)))),?_⟩
 walk_at "rd"
 have ln:∀(f:Str) (v:V) (l:List (Str×V)) (n:Nat),l.length≤n→(bN f v l).length≤n+1:=fun f v l n h=>Nat.le_trans (bR f v l) (Nat.succ_le_succ h)
 refine⟨x,C,dx,[],row,rfl,hx,TC.cl,TC.n1,by decide,?_⟩
 refine⟨C,dx,_,ab,TC.cl,TC.n2,Nat.lt_of_le_of_lt (ln _ _ _ _ (Nat.zero_le 0)) (by decide),C,dx,_,ab,TC.cl,TC.n3,Nat.lt_of_le_of_lt (ln _ _ _ _ (ln _ _ _ _ (Nat.zero_le 0))) (by decide),?_⟩
 rw [b8,b8]
 exact k
theorem tI{f C:Addr}{fd:FuncData}(F:cH K "held_of" "held_of" kO f fd)(T:Txt mg aM)(D_are_voices:bZ P w K mg base "are_voices" 3 ["numbers","voices"] (cb K))(DM_Held:dZ P w K mg base "Held" C 2 ["self","row","voice","most"] (jk K C)):aP P w K mg base bY 4 f fd ["row","numbers","voices"] (j3 K C):=by
 refine F.ok t8 (fun vs H Q E h=>?_) (fun cdv A outer s H vs Q E hr h=>?_)
 ·obtain⟨q,row,x1,x2,nv,rfl,_⟩:=h
  rfl
 obtain⟨q,row,x1,x2,nv,rfl,hq,b1,b2,b3,k⟩:=h
 refine⟨_,(af (aV (PW.pt (cf (aX (az yP (aH (aQ K) (by rfl) T.n_len boot_len (aa (pr 1) ag)) ae (aA _))) (cf (b0 (aY (aE D_are_voices hr (by rfl) (aa (aS (dc K) (pr 1) bz (c4 ae)) (aa (pr 2) ag))) (fun _=>rfl))) (bW (aX (az (o0 kH) (aC (aL K) (pr 1) ae (fun _ _=>rfl)) ae (aA _))))))) (ah (ar bc)) aG)
 (ah (ar (gT DM_Held hr (by rfl) (aa (pr 0) (aa (aC (aL K) (pr 1) ae (fun _ _=>rfl)) (aa (aC (aL K) (pr 1) ae (fun _ _=>rfl)) ag))))))),?_⟩
 walk_at "rd"
 have hs:sizeLine=16777216:=sizeLine_eq
 refine⟨_,.inl hq,?_⟩
 walk_at "rd"
 rw [if_pos (show(((0:Nat)+1+1:Nat):Int)=2 from rfl)]
 refine bM hq fun q1 hq1=>?_
 rw [show(some (1:Int))=some ((1:Nat):Int)from rfl,de]
 have s1:ax H (upd H q1 (.lst (([x1,x2].map V.int).take 1))):=au hq1
 refine⟨q1,[x1],nv,rfl,aO.of ab,by simp,fun H1 s2=>?_⟩
 rw [show([x1].all fun n=>decide (1≤n) && decide (n≤nv))=true by simp;omega]
 walk_at "rd"
 have s3:=s1.trans s2
 have hq3:=s3.seq hq
 refine aT hq3 (show dz _ ((1:Nat):Int)=_ from aK rfl) ?_
 walk_at "rd"
 rw [if_neg (show ¬(x2 < 1)by omega)]
 refine aT hq3 (bD rfl) (aT hq3 (show dz _ ((1:Nat):Int)=_ from aK rfl) ?_)
 show ∀x dx:Addr,_
 intro x dx hx hdx hne
 have s5:ax H (upd (upd H1 dx (.own x)) x (.ins C dx [])):=(s3.upd hdx).upd (by rw [aj (Ne.symm hne)];exact hx)
 refine⟨x,dx,row,x1,x2,rfl,ab,rfl,?_⟩
 refine k x _ ?_ ⟨dx,ab⟩
 intro c o hc
 rw [aj (ay (s3 _ _ hc) hx)]
 exact s5 _ _ hc
theorem qk{f C:Addr}{fd:FuncData}{row:Str}{x1 x2:Int}(F:cH K "size" "Held.size" ib f fd)(TC:jx K C):aP P w K mg base bY 1 f fd ["self"] (nI (ff C row x1 x2) (.int x2)):=by
 refine F.ok qH (fun vs H Q E h=>?_) (fun cdv A outer s H vs Q E hr h=>?_)
 ·obtain⟨r,rfl,_⟩:=h
  rfl
 obtain⟨r,rfl,⟨dx,hr1⟩,k⟩:=h
 refine⟨_,(ah (ar (bA (pr 0) rfl))),?_⟩
 walk_at "rd"
 have l2:(dR row x1 x2).lookup (Str.ofString "most")=some (.int x2):=by unfold dR;walk_at "flds"
 exact⟨C,dx,_,hr1,TC.cl,TC.n3,_,l2,k⟩
theorem oq{f C:Addr}{fd:FuncData}{row:Str}{x1 x2:Int}{nv:Nat}(F:cH K "after" "Held.after" gy f fd)(T:Txt mg aM)(TC:jx K C)(ha:1≤x1∧x1≤nv)(D_note_in:bZ P w K mg base "note_in" 2 ["column","voice"] (eQ K)):aP P w K mg base bY 3 f fd ["self","memory","before","column"] (bJ K nv (ff C row x1 x2) (eE x1 x2) (pA x2)):=by
 refine F.ok oK (fun vs H Q E h=>?_) (fun cdv A outer s H vs Q E hr h=>?_)
 ·obtain⟨r,m,x,c,bb,us,rfl,_⟩:=h
  rfl
 obtain⟨r,m,x,c,bb,us,rfl,⟨dx,hr1⟩,_,hbv,hc,hu,k⟩:=h
 refine⟨_,(af (aV (PW.pt (cf (aX (az d8 (pr 2) bc (aA _))) (bW (aX (az yP (aE D_note_in hr (by rfl) (aa (pr 2) (aa (bA (pr 0) rfl) ag))) (aE D_note_in hr (by rfl) (aa (pr 3) (aa (bA (pr 0) rfl) ag))) (aA _)))))) (ah (ar ae)) aG)
 (ah (ar (cG (aX (az (o0 kH) (aq (bO K) (pr 1) ae) (bA (pr 0) rfl) (aA _))) (aq (bO K) (pr 1) ae) bc)))),?_⟩
 walk_at "rd"
 have l1:(dR row x1 x2).lookup (Str.ofString "voice")=some (.int x1):=by unfold dR;walk_at "flds"
 have l2:(dR row x1 x2).lookup (Str.ofString "most")=some (.int x2):=by unfold dR;walk_at "flds"
 rcases hbv with⟨rfl,rfl⟩ | ⟨a,bs,rfl,rfl,hba,hbl⟩
 ·rw [if_pos rfl]
  exact k
 rw [if_neg (fun z=>by cases z)]
 refine⟨C,dx,_,hr1,TC.cl,TC.n2,_,l1,a,x1,bs,rfl,hba,ha.1,by rw [hbl];exact ha.2,C,dx,_,hr1,TC.cl,TC.n2,_,l1,c,x1,us,rfl,hc,ha.1,by rw [hu];exact ha.2,?_⟩
 walk_at "rd"
 simp only [eE]at k
 by_cases h:aF bs x1=aF us x1
 ·rw [if_pos h]
  rw [if_pos h]at k
  refine⟨C,dx,_,hr1,TC.cl,TC.n3,_,l2,_,rfl,?_⟩
  by_cases h2:m+1 < x2
  ·rw [if_pos h2]
   rw [if_pos h2]at k
   exact k
  ·rw [if_neg h2]
   rw [if_neg h2]at k
   exact k
 ·rw [if_neg h]
  rw [if_neg h]at k
  exact k
theorem xj{C:Addr}{row:Str}{x1 x2:Int}{nv:Nat}(h0:1≤x2)(TC:jx K C)(h1:aD P w K mg base C "size" 7 ["self"] (nI (ff C row x1 x2) (.int x2)))(h2:aD P w K mg base C "start" 7 ["self"] (bu 1 fun _=>.int 0))(h3:aD P w K mg base C "closes" 7 ["self","memory","last"] (bu 3 fun _=>.bl true))
  (h4:aD P w K mg base C "after" 7 ["self","memory","before","column"] (bJ K nv (ff C row x1 x2) (eE x1 x2) (pA x2))):bB P w K mg base 7 nv C (eE x1 x2) (ff C row x1 x2) (pA x2):=by
 refine⟨fun r H H' s h=>?_,fun r H h=>?_,⟨show(0:Int)≤0 by decide,show(0:Int) < x2 by omega⟩,fun m b us m' hm e=>?_,h1,h2.imp ?_,h4,h3.imp ?_⟩
 ·obtain⟨dx,e1⟩:=h
  exact⟨dx,s _ _ e1⟩
 ·obtain⟨dx,e1⟩:=h
  refine⟨dx,_,e1,?_,?_,?_,?_,?_⟩<;>(unfold dR;walk_at "flds")
 ·simp only [eE]at e
  obtain⟨m0,m1⟩:=hm
  cases b with
  | none=>cases e;exact⟨by decide,by omega⟩
  | some bs=>
   simp only at e
   split at e
   ·split at e
    ·cases e;exact⟨by omega,by omega⟩
    ·cases e
   ·cases e;exact⟨by decide,by omega⟩
 ·rintro vs H Q E ⟨r,rfl,_,q⟩
  exact⟨rfl,q⟩
 ·rintro vs H Q E ⟨r,m,x,b,rfl,_,_,_,q⟩
  exact⟨rfl,q⟩
theorem oz{f C:Addr}{fd:FuncData}(F:cH K "__init__" "Times.__init__" et f fd)(T:Txt mg aM)(TC:f9 K C)(DC_Rule___init__:kn P w K mg base "Rule" "__init__" 1 ["self","row"] (cj K)):aP P w K mg base bY 2 f fd ["self","row","voice","note","fewest","most"] (iz K C):=by
 refine F.ok jY (fun vs H Q E h=>?_) (fun cdv A outer s H vs Q E hr h=>?_)
 ·obtain⟨x,dx,row,x1,x2,x3,x4,rfl,_⟩:=h
  rfl
 obtain⟨x,dx,row,x1,x2,x3,x4,rfl,hx,k⟩:=h
 refine⟨_,(af (cw (dA DC_Rule___init__ hr (by rfl) (aa (pr 0) (aa (pr 1) ag))))
 (af (bU (pr 0) (pr 2) rfl)
 (af (bU (pr 0) (pr 3) rfl)
 (af (bU (pr 0) (pr 4) rfl)
 (ah (bU (pr 0) (pr 5) rfl)))))),?_⟩
 walk_at "rd"
 have ln:∀(f:Str) (v:V) (l:List (Str×V)) (n:Nat),l.length≤n→(bN f v l).length≤n+1:=fun f v l n h=>Nat.le_trans (bR f v l) (Nat.succ_le_succ h)
 refine⟨x,C,dx,[],row,rfl,hx,TC.cl,TC.n1,by decide,?_⟩
 refine⟨C,dx,_,ab,TC.cl,TC.n2,Nat.lt_of_le_of_lt (ln _ _ _ _ (Nat.zero_le 0)) (by decide),C,dx,_,ab,TC.cl,TC.n3,Nat.lt_of_le_of_lt (ln _ _ _ _ (ln _ _ _ _ (Nat.zero_le 0))) (by decide),C,dx,_,ab,TC.cl,TC.n4,Nat.lt_of_le_of_lt (ln _ _ _ _ (ln _ _ _ _ (ln _ _ _ _ (Nat.zero_le 0)))) (by decide),C,dx,_,ab,TC.cl,TC.n5,Nat.lt_of_le_of_lt (ln _ _ _ _ (ln _ _ _ _ (ln _ _ _ _ (ln _ _ _ _ (Nat.zero_le 0))))) (by decide),?_⟩
 rw [b8,b8,b8,b8]
 exact k
theorem rX{f C:Addr}{fd:FuncData}(F:cH K "times_of" "times_of" jh f fd)(T:Txt mg aM)(D_are_voices:bZ P w K mg base "are_voices" 3 ["numbers","voices"] (cb K))(DM_Times:dZ P w K mg base "Times" C 2 ["self","row","voice","note","fewest","most"] (iz K C)):aP P w K mg base bY 4 f fd ["row","numbers","voices"] (iM K C):=by
 refine F.ok sv (fun vs H Q E h=>?_) (fun cdv A outer s H vs Q E hr h=>?_)
 ·obtain⟨q,row,x1,x2,x3,x4,nv,rfl,_⟩:=h
  rfl
 obtain⟨q,row,x1,x2,x3,x4,nv,rfl,hq,b1,b2,b3,b4,k⟩:=h
 refine⟨_,(af (aV (PW.pt (cf (aX (az yP (aH (aQ K) (by rfl) T.n_len boot_len (aa (pr 1) ag)) ae (aA _))) (cf (b0 (aY (aE D_are_voices hr (by rfl) (aa (aS (dc K) (pr 1) bz (c4 ae)) (aa (pr 2) ag))) (fun _=>rfl))) (bW (aX (az (o0 kH) (aH (vp rfl K) (by rfl) T.n_min boot_min (aa (aS (dc K) (pr 1) (c4 ae) bz) ag)) ae (aA _))))))) (ah (ar bc)) aG)
 (ah (ar (gT DM_Times hr (by rfl) (aa (pr 0) (aa (aC (aL K) (pr 1) ae (fun _ _=>rfl)) (aa (aC (aL K) (pr 1) ae (fun _ _=>rfl)) (aa (aC (aL K) (pr 1) ae (fun _ _=>rfl)) (aa (aC (aL K) (pr 1) ae (fun _ _=>rfl)) ag))))))))),?_⟩
 walk_at "rd"
 have hs:sizeLine=16777216:=sizeLine_eq
 refine⟨_,.inl hq,?_⟩
 walk_at "rd"
 rw [if_pos (show(((0:Nat)+1+1+1+1:Nat):Int)=4 from rfl)]
 refine bM hq fun q1 hq1=>?_
 rw [show(some (1:Int))=some ((1:Nat):Int)from rfl,de]
 have s1:ax H (upd H q1 (.lst (([x1,x2,x3,x4].map V.int).take 1))):=au hq1
 refine⟨q1,[x1],nv,rfl,aO.of ab,by simp,fun H1 s2=>?_⟩
 rw [show([x1].all fun n=>decide (1≤n) && decide (n≤nv))=true by simp;omega]
 walk_at "rd"
 have s3:=s1.trans s2
 have hq3:=s3.seq hq
 refine bM hq3 fun q4 hq4=>?_
 rw [show(some (2:Int))=some ((2:Nat):Int)from rfl,bQ]
 have s4:ax H (upd H1 q4 (.lst (([x1,x2,x3,x4].map V.int).drop 2))):=s3.upd hq4
 have hm:(upd H1 q4 (.lst (([x1,x2,x3,x4].map V.int).drop 2))) q4=some (.lst ([x3,x4].map V.int)):=ab
 generalize upd H1 q4 (.lst (([x1,x2,x3,x4].map V.int).drop 2))=H2 at s4 hm
 refine⟨q4,rfl,[x3,x4],aO.of hm,by simp,fun i hi=>?_⟩
 have hi0:0≤i:=by
  rcases List.mem_cons.mp hi with rfl | hi
  ·exact b3
  ·rw [List.mem_singleton.mp hi];exact b4
 walk_at "rd"
 rw [if_neg (show ¬(i < 0)by omega)]
 have hq5:=s4.seq hq
 refine aT hq5 (bD rfl) (aT hq5 (show dz _ ((1:Nat):Int)=_ from aK rfl) (aT hq5 (show dz _ ((2:Nat):Int)=_ from aK rfl) (aT hq5 (show dz _ ((3:Nat):Int)=_ from aK rfl) ?_)))
 show ∀x dx:Addr,_
 intro x dx hx hdx hne
 have s5:ax H (upd (upd H2 dx (.own x)) x (.ins C dx [])):=(s4.upd hdx).upd (by rw [aj (Ne.symm hne)];exact hx)
 refine⟨x,dx,row,x1,x2,x3,x4,rfl,ab,rfl,?_⟩
 refine k x _ ?_ ⟨dx,ab⟩
 intro c o hc
 rw [aj (ay (s4 _ _ hc) hx)]
 exact s5 _ _ hc
theorem oA{f C:Addr}{fd:FuncData}{row:Str}{x1 x2 x3 x4:Int}(F:cH K "size" "Times.size" gC f fd)(TC:f9 K C):aP P w K mg base bY 1 f fd ["self"] (nI (c5 C row x1 x2 x3 x4) (.int (x4+1))):=by
 refine F.ok oQ (fun vs H Q E h=>?_) (fun cdv A outer s H vs Q E hr h=>?_)
 ·obtain⟨r,rfl,_⟩:=h
  rfl
 obtain⟨r,rfl,⟨dx,hr1⟩,k⟩:=h
 refine⟨_,(ah (ar (aq (bO K) (bA (pr 0) rfl) ae))),?_⟩
 walk_at "rd"
 have l5:(cn row x1 x2 x3 x4).lookup (Str.ofString "most")=some (.int x4):=by unfold cn;walk_at "flds"
 refine⟨C,dx,_,hr1,TC.cl,TC.n5,_,l5,?_⟩
 walk_at "rd"
 exact k
theorem lO{f C:Addr}{fd:FuncData}{row:Str}{x1 x2 x3 x4:Int}{nv:Nat}(F:cH K "closes" "Times.closes" fF f fd)(TC:f9 K C):aP P w K mg base bY 1 f fd ["self","memory","last"] (dC K nv (c5 C row x1 x2 x3 x4) (cY x1 x2 x3 x4) (jH x4)):=by
 refine F.ok lT (fun vs H Q E h=>?_) (fun cdv A outer s H vs Q E hr h=>?_)
 ·obtain⟨r,m,x,bb,rfl,_⟩:=h
  rfl
 obtain⟨r,m,x,bb,rfl,⟨dx,hr1⟩,_,_,k⟩:=h
 refine⟨_,(ah (ar (bE (o0 uW) (pr 1) (bA (pr 0) rfl) (aA _)))),?_⟩
 walk_at "rd"
 have l4:(cn row x1 x2 x3 x4).lookup (Str.ofString "fewest")=some (.int x3):=by unfold cn;walk_at "flds"
 refine⟨C,dx,_,hr1,TC.cl,TC.n4,_,l4,?_⟩
 walk_at "rd"
 exact k
theorem m7{f C:Addr}{fd:FuncData}{row:Str}{x1 x2 x3 x4:Int}{nv:Nat}(F:cH K "after" "Times.after" fY f fd)(T:Txt mg aM)(TC:f9 K C)(ha:1≤x1∧x1≤nv)(D_note_in:bZ P w K mg base "note_in" 2 ["column","voice"] (eQ K)):aP P w K mg base bY 3 f fd ["self","memory","before","column"] (bJ K nv (c5 C row x1 x2 x3 x4) (cY x1 x2 x3 x4) (jH x4)):=by
 refine F.ok nE (fun vs H Q E h=>?_) (fun cdv A outer s H vs Q E hr h=>?_)
 ·obtain⟨r,m,x,c,bb,us,rfl,_⟩:=h
  rfl
 obtain⟨r,m,x,c,bb,us,rfl,⟨dx,hr1⟩,_,hbv,hc,hu,k⟩:=h
 refine⟨_,(af (aV (aX (az yP (aE D_note_in hr (by rfl) (aa (pr 3) (aa (bA (pr 0) rfl) ag))) (bA (pr 0) rfl) (aA _))) (ah (ar (pr 1))) aG)
 (ah (ar (cG (aX (az (o0 kH) (pr 1) (bA (pr 0) rfl) (aA _))) (aq (bO K) (pr 1) ae) bc)))),?_⟩
 walk_at "rd"
 have l1:(cn row x1 x2 x3 x4).lookup (Str.ofString "voice")=some (.int x1):=by unfold cn;walk_at "flds"
 have l2:(cn row x1 x2 x3 x4).lookup (Str.ofString "note")=some (.int x2):=by unfold cn;walk_at "flds"
 have l5:(cn row x1 x2 x3 x4).lookup (Str.ofString "most")=some (.int x4):=by unfold cn;walk_at "flds"
 refine⟨C,dx,_,hr1,TC.cl,TC.n2,_,l1,c,x1,us,rfl,hc,ha.1,by rw [hu];exact ha.2,C,dx,_,hr1,TC.cl,TC.n3,_,l2,?_⟩
 walk_at "rd"
 simp only [cY]at k
 by_cases h:aF us x1=x2
 ·rw [if_pos h]
  rw [if_pos h]at k
  refine⟨C,dx,_,hr1,TC.cl,TC.n5,_,l5,_,rfl,?_⟩
  by_cases h2:m < x4
  ·rw [if_pos h2]
   rw [if_pos h2]at k
   exact k
  ·rw [if_neg h2]
   rw [if_neg h2]at k
   exact k
 ·rw [if_neg h]
  rw [if_neg h]at k
  exact k
theorem wy{C:Addr}{row:Str}{x1 x2 x3 x4:Int}{nv:Nat}(h0:0≤x4)(TC:f9 K C)(h1:aD P w K mg base C "size" 7 ["self"] (nI (c5 C row x1 x2 x3 x4) (.int (x4+1))))(h2:aD P w K mg base C "start" 7 ["self"] (bu 1 fun _=>.int 0))(h3:aD P w K mg base C "closes" 7 ["self","memory","last"] (dC K nv (c5 C row x1 x2 x3 x4) (cY x1 x2 x3 x4) (jH x4)))
  (h4:aD P w K mg base C "after" 7 ["self","memory","before","column"] (bJ K nv (c5 C row x1 x2 x3 x4) (cY x1 x2 x3 x4) (jH x4))):bB P w K mg base 7 nv C (cY x1 x2 x3 x4) (c5 C row x1 x2 x3 x4) (jH x4):=by
 refine⟨fun r H H' s h=>?_,fun r H h=>?_,⟨show(0:Int)≤0 by decide,show(0:Int)≤x4 by omega⟩,fun m b us m' hm e=>?_,h1,h2.imp ?_,h4,h3⟩
 ·obtain⟨dx,e1⟩:=h
  exact⟨dx,s _ _ e1⟩
 ·obtain⟨dx,e1⟩:=h
  refine⟨dx,_,e1,?_,?_,?_,?_,?_⟩<;>(unfold cn;walk_at "flds")
 ·simp only [cY]at e
  obtain⟨m0,m1⟩:=hm
  split at e
  ·split at e
   ·cases e;exact⟨by omega,by omega⟩
   ·cases e
  ·cases e;exact⟨m0,m1⟩
 ·rintro vs H Q E ⟨r,rfl,_,q⟩
  exact⟨rfl,q⟩
theorem om{f C:Addr}{fd:FuncData}(F:cH K "__init__" "Every.__init__" eh f fd)(T:Txt mg aM)(TC:gW K C)(DC_Rule___init__:kn P w K mg base "Rule" "__init__" 1 ["self","row"] (cj K)):aP P w K mg base bY 2 f fd ["self","row","turns","turn","inner"] (iy K C):=by
 refine F.ok jW (fun vs H Q E h=>?_) (fun cdv A outer s H vs Q E hr h=>?_)
 ·obtain⟨x,dx,ri,row,t,u,rfl,_⟩:=h
  rfl
 obtain⟨x,dx,ri,row,t,u,rfl,hx,k⟩:=h
 refine⟨_,(af (cw (dA DC_Rule___init__ hr (by rfl) (aa (pr 0) (aa (pr 1) ag))))
 (af (bU (pr 0) (pr 2) rfl)
 (af (bU (pr 0) (pr 3) rfl)
 (ah (bU (pr 0) (pr 4) rfl))))),?_⟩
 walk_at "rd"
 have ln:∀(f:Str) (v:V) (l:List (Str×V)) (n:Nat),l.length≤n→(bN f v l).length≤n+1:=fun f v l n h=>Nat.le_trans (bR f v l) (Nat.succ_le_succ h)
 refine⟨x,C,dx,[],row,rfl,hx,TC.cl,TC.n1,by decide,?_⟩
 refine⟨C,dx,_,ab,TC.cl,TC.n2,Nat.lt_of_le_of_lt (ln _ _ _ _ (Nat.zero_le 0)) (by decide),C,dx,_,ab,TC.cl,TC.n3,Nat.lt_of_le_of_lt (ln _ _ _ _ (ln _ _ _ _ (Nat.zero_le 0))) (by decide),C,dx,_,ab,TC.cl,TC.n4,Nat.lt_of_le_of_lt (ln _ _ _ _ (ln _ _ _ _ (ln _ _ _ _ (Nat.zero_le 0)))) (by decide),?_⟩
 rw [b8,b8,b8]
 exact k
theorem oo{f C:Addr}{fd:FuncData}{row:Str}{t u:Int}{RIn:km}(F:cH K "size" "Every.size" gx f fd)(TC:gW K C):aP P w K mg base bY 1 f fd ["self"] (nI (eA C row t u RIn) (.int t)):=by
 refine F.ok oJ (fun vs H Q E h=>?_) (fun cdv A outer s H vs Q E hr h=>?_)
 ·obtain⟨r,rfl,_⟩:=h
  rfl
 obtain⟨r,rfl,⟨dx,ri,hr1,_⟩,k⟩:=h
 refine⟨_,(ah (ar (bA (pr 0) rfl))),?_⟩
 walk_at "rd"
 have l2:(cA row t u ri).lookup (Str.ofString "turns")=some (.int t):=by unfold cA;walk_at "flds"
 exact⟨C,dx,_,hr1,TC.cl,TC.n2,_,l2,k⟩
theorem m6{f C Cn:Addr}{fd:FuncData}{row:Str}{t u:Int}{nv:Nat}{S:d4}{RIn:km}{G:Int→Prop}(F:cH K "after" "Every.after" fX f fd)(T:Txt mg aM)(TC:gW K C)(ht:0 < t)(R:bB P w K mg base 4 nv Cn S RIn G):aP P w K mg base bY 5 f fd ["self","memory","before","column"] (bJ K nv (eA C row t u RIn) (eP t u S) (mU t)):=by
 refine F.ok nA (fun vs H Q E h=>?_) (fun cdv A outer s H vs Q E hr h=>?_)
 ·obtain⟨r,m,x,c,bb,us,rfl,_⟩:=h
  rfl
 obtain⟨r,m,x,c,bb,us,rfl,⟨dx,ri,hr1,hin⟩,_,hbv,hc,hu,k⟩:=h
 refine⟨_,(af (aV (PW.pt (fA (aX (az gr (pr 1) (bA (pr 0) rfl) (aA _))) (eD (aX (az d8 (ng P w K mg base hr (bA (pr 0) rfl) (aa (kJ P w K mg base hr (bA (pr 0) rfl)) (aa (pr 2) (aa (pr 3) ag)))) bc (aA _)))))) (ah (ar bc)) aG)
 (ah (ar (aq (o1 bC) (aq (bO K) (pr 1) ae) (bA (pr 0) rfl))))),?_⟩
 walk_at "rd"
 have l2:(cA row t u ri).lookup (Str.ofString "turns")=some (.int t):=by unfold cA;walk_at "flds"
 have l3:(cA row t u ri).lookup (Str.ofString "turn")=some (.int u):=by unfold cA;walk_at "flds"
 have l4:(cA row t u ri).lookup (Str.ofString "inner")=some (.ref ri):=by unfold cA;walk_at "flds"
 refine⟨C,dx,_,hr1,TC.cl,TC.n3,_,l3,?_⟩
 walk_at "rd"
 obtain⟨dx2,fs,hir,q1,q2,q3,q4,q5⟩:=R.ins ri H hin
 simp only [eP]at k
 by_cases hm:m=u
 ·rw [if_pos hm]
  rw [if_pos hm]at k
  refine⟨C,dx,_,hr1,TC.cl,TC.n4,_,l4,ri,rfl,Cn,dx2,fs,hir,q3,_,_,R.after,C,dx,_,hr1,TC.cl,TC.n4,_,l4,ri,rfl,Cn,dx2,fs,hir,q2,_,_,R.start,ri,rfl,hin,ri,_,x,c,bb,us,rfl,hin,R.g0,hbv,hc,hu,?_⟩
  cases ha:S.after S.start bb us with
  | none=>
   rw [if_pos (show zm none=V.non from rfl)]
   rw [ha,if_pos rfl]at k
   exact k
  | some m'=>
   rw [if_neg (show ¬(zm (some m')=V.non)from fun z=>by cases z)]
   rw [ha,if_neg (fun z=>by cases z)]at k
   exact⟨C,dx,_,hr1,TC.cl,TC.n2,_,l2,_,rfl,ht,k⟩
 ·rw [if_neg hm]
  rw [if_neg hm]at k
  exact⟨C,dx,_,hr1,TC.cl,TC.n2,_,l2,_,rfl,ht,k⟩
theorem vD{C Cn:Addr}{row:Str}{t u:Int}{nv:Nat}{S:d4}{RIn:km}{G:Int→Prop}(ht:0 < t)(TC:gW K C)(R:bB P w K mg base 4 nv Cn S RIn G)(h1:aD P w K mg base C "size" 7 ["self"] (nI (eA C row t u RIn) (.int t)))(h2:aD P w K mg base C "start" 7 ["self"] (bu 1 fun _=>.int 0))(h3:aD P w K mg base C "closes" 7 ["self","memory","last"] (bu 3 fun _=>.bl true))
  (h4:aD P w K mg base C "after" 7 ["self","memory","before","column"] (bJ K nv (eA C row t u RIn) (eP t u S) (mU t))):bB P w K mg base 7 nv C (eP t u S) (eA C row t u RIn) (mU t):=by
 refine⟨fun r H H' s h=>?_,fun r H h=>?_,⟨show(0:Int)≤0 by decide,show(0:Int) < t by omega⟩,fun m b us m' hm e=>?_,h1,h2.imp ?_,h4,h3.imp ?_⟩
 ·obtain⟨dx,ri,e1,e2⟩:=h
  exact⟨dx,ri,s _ _ e1,R.mono _ _ _ s e2⟩
 ·obtain⟨dx,ri,e1,e2⟩:=h
  refine⟨dx,_,e1,?_,?_,?_,?_,?_⟩<;>(unfold cA;walk_at "flds")
 ·simp only [eP]at e
  have hb:mU t ((m+1) % t):=⟨Int.emod_nonneg _ (by omega),Int.emod_lt_of_pos _ ht⟩
  split at e
  ·split at e
   ·cases e
   ·cases e;exact hb
  ·cases e;exact hb
 ·rintro vs H Q E ⟨r,rfl,_,q⟩
  exact⟨rfl,q⟩
 ·rintro vs H Q E ⟨r,m,x,b,rfl,_,_,_,q⟩
  exact⟨rfl,q⟩
theorem oC{f C aI:Addr}{fd:FuncData}(F:cH K "every_rule" "every_rule" gE f fd)(T:BM mg aM aI)(hI:wM K aI [.str "span",.str "clock"])(D_is_number:bZ P w K mg base "is_number" 8 ["word"] pK)(D_plain_rule:bZ P w K mg base "plain_rule" 8 ["row","voices"] (j7 P w K mg base aM 7))(DM_Every:dZ P w K mg base "Every" C 7 ["self","row","turns","turn","inner"] (iy K C)):aP P w K mg base bY 9 f fd ["row","voices"] (mq P w K mg base aM C 7):=by
 refine F.ok sc_every_rule (fun vs H Q E h=>?_) (fun cdv A outer s H vs Q E hr h=>?_)
 ·obtain⟨row,rest,kind,t,u,ns,nv,D,g,sp,RIn,rfl,_⟩:=h
  rfl
 obtain⟨row,rest,kind,t,u,ns,nv,D,g,sp,RIn,rfl,RE,R,hkd,u0,u1,tab,hg,fn,k,mono,kq⟩:=h
 refine⟨_,(af (aJ (i:=2) sc_every_rule.nd rfl (Or.inl rfl) (cz K PySem.F.plainAttrs_str PySem.F.slot_str_split PySem.F.type_str_split vQ (pr 0) (aa aZ (aa ae ag))))
 (af (aV (PW.pt (cf (aX (az yP (aH (aQ K) (by rfl) T.n_len boot_len (aa (pr 2) ag)) ae (aA _))) (cf (b0 (aY (aE D_is_number hr (by rfl) (aa (aC (aL K) (pr 2) ae (fun _ _=>rfl)) ag)) (fun _=>rfl))) (bW (b0 (aY (aE D_is_number hr (by rfl) (aa (aC (aL K) (pr 2) ae (fun _ _=>rfl)) ag)) (fun _=>rfl))))))) (ah (ar bc)) aG)
 (af (aJ (i:=3) sc_every_rule.nd rfl (Or.inl rfl) (bF (gb) (by rfl) T.n_int boot_int (aa (aC (aL K) (pr 2) ae (fun _ _=>rfl)) ag)))
 (af (aJ (i:=4) sc_every_rule.nd rfl (Or.inl rfl) (bF (gb) (by rfl) T.n_int boot_int (aa (aC (aL K) (pr 2) ae (fun _ _=>rfl)) ag)))
 (af (aV (PW.pt (cf (b0 (aX (r9 (o0 gR) (o0 kH) ae (pr 4) (pr 3)))) (bW (aX (az (fv K) (aC (aL K) (cz K PySem.F.plainAttrs_str PySem.F.slot_str_split PySem.F.type_str_split g9 (aC (aL K) (pr 2) ae (fun _ _=>rfl)) (aa aZ ag)) ae (fun _ _=>rfl)) (hZ T.g_INNER_KINDS) (by with_unfolding_all rfl)))))) (ah (ar bc)) aG)
 (af (aJ (i:=5) sc_every_rule.nd rfl (Or.inl rfl) (aE D_plain_rule hr (by rfl) (aa (aC (aL K) (pr 2) ae (fun _ _=>rfl)) (aa (pr 1) ag))))
 (ah (ar (cG (aX (az d8 (pr 5) bc (aA _))) bc (gT DM_Every hr (by rfl) (aa (pr 0) (aa (pr 3) (aa (pr 4) (aa (pr 5) ag)))))))))))))),?_⟩
 have hs:sizeLine=16777216:=sizeLine_eq
 have hl:=RE.len
 refine bo (fun σ H'=>∃p:Addr,H' p=some (.lst ([Str.ofString "every",bq t,bq u,rest].map V.str))∧σ=[some (.str row),some (.int nv),some (.ref p),none,none,none]∧ax H H') ?_ ?_
 rotate_left
 ·intro u' hu
  walk_at "rd"
  refine⟨32,by decide +kernel,by decide,by decide,by decide,RE.pos,by omega,?_,fun p hp=>?_⟩
  ·rw [show Int.toNat 3=3 from rfl,RE.split];show 4≤_;omega
  ·rw [show Int.toNat 3=3 from rfl,RE.split]
   exact hu _ _ ⟨p,ab,rfl,au hp⟩
 rintro _ H0 ⟨p,hp0,rfl,s0⟩
 have a0:aO K H0 p ([Str.ofString "every",bq t,bq u,rest].map V.str):=aO.of hp0
 have num:∀{n:Int} {H1:Hp} {Q':VK},n.natAbs < 10 ^ 40→(∀H',ax H1 H'→Q' (.bl true) H')→pK [.str (bq n)] H1 Q' E0:=fun {n H1 Q'} hn hq=>by
  refine⟨bq n,rfl,?_,fun H' s'=>?_⟩
  ·have:=da hn;omega
  ·rw [show(bq n).cps.toList=gq n from rfl,kA hn]
   exact hq H' s'
 refine bo (fun σ H'=>σ=[some (.str row),some (.int nv),some (.ref p),none,none,none]∧ax H0 H') ?_ ?_
 rotate_left
 ·intro u' hu
  walk_at "rd"
  refine⟨_,.inl a0,?_⟩
  walk_at "rd"
  rw [if_pos (show(((0:Nat)+1+1+1+1:Nat):Int)=4 from rfl)]
  refine aT a0 (show dz _ ((1:Nat):Int)=_ from aK rfl) (num RE.tb fun H1 s1=>?_)
  walk_at "rd"
  refine aT (s1.seq a0) (show dz _ ((2:Nat):Int)=_ from aK rfl) (num RE.ub fun H2 s2=>?_)
  walk_at "rd"
  exact hu _ _ ⟨rfl,s1.trans s2⟩
 clear a0
 rintro _ H1 ⟨rfl,s01⟩
 have s1:=s0.trans s01
 have a1:aO K H1 p ([Str.ofString "every",bq t,bq u,rest].map V.str):=aO.of (s01 _ _ hp0)
 have int':∀{n:Int},n.natAbs < 10 ^ 40→intText? (bq n)=some n∧(bq n).length≤640:=fun {n} hn=>⟨l7 (Nat.lt_of_lt_of_le hn (Nat.pow_le_pow_right (by decide) (by decide))),by have:=da hn;omega⟩
 refine bo (fun σ H'=>σ=[some (.str row),some (.int nv),some (.ref p),some (.int t),none,none]∧H1=H') ?_ ?_
 rotate_left
 ·intro u' hu
  walk_at "rd"
  refine aT a1 (show dz _ ((1:Nat):Int)=_ from aK rfl) ?_
  walk_at "rd"
  exact⟨t,(int' RE.tb).1,(int' RE.tb).2,hu _ _ ⟨rfl,rfl⟩⟩
 rintro _ _ ⟨rfl,rfl⟩
 refine bo (fun σ H'=>σ=[some (.str row),some (.int nv),some (.ref p),some (.int t),some (.int u),none]∧H1=H') ?_ ?_
 rotate_left
 ·intro u' hu
  walk_at "rd"
  refine aT a1 (show dz _ ((2:Nat):Int)=_ from aK rfl) ?_
  walk_at "rd"
  exact⟨u,(int' RE.ub).1,(int' RE.ub).2,hu _ _ ⟨rfl,rfl⟩⟩
 rintro _ _ ⟨rfl,rfl⟩
 have hrl:=RE.rl
 refine bo (fun σ H'=>σ=[some (.str row),some (.int nv),some (.ref p),some (.int t),some (.int u),none]∧ax H1 H') ?_ ?_
 rotate_left
 ·intro u' hu
  walk_at "rd"
  rw [if_pos u0,if_pos u1]
  refine aT a1 (show dz _ ((3:Nat):Int)=_ from aK rfl) ?_
  walk_at "rd"
  refine⟨32,by decide +kernel,by decide,by omega,fun p1 hp1=>?_⟩
  rw [R.split]
  have s':ax H1 (upd H1 p1 (.lst ((kind::ns.map bq).map V.str))):=au hp1
  refine aT (aO.of ab) (bD rfl) (lI (ws:=[Str.ofString "span",Str.ofString "clock"]) (hI.at _) ⟨_,rfl,?_⟩)
  rw [decide_eq_true (show kind∈[Str.ofString "span",Str.ofString "clock"]by rcases hkd with rfl | rfl<;>simp),if_neg (by exact Bool.false_ne_true)]
  exact hu _ _ ⟨rfl,s'⟩
 rintro _ H2 ⟨rfl,s12⟩
 have s2:=s1.trans s12
 have a2:aO K H2 p ([Str.ofString "every",bq t,bq u,rest].map V.str):=s12.seq a1
 refine bo (fun σ H'=>∃ri:Addr,RIn ri H'∧σ=[some (.str row),some (.int nv),some (.ref p),some (.int t),some (.int u),some (.ref ri)]∧ax H H') ?_ ?_
 rotate_left
 ·intro u' hu
  walk_at "rd"
  refine aT a2 (show dz _ ((3:Nat):Int)=_ from aK rfl) ?_
  refine⟨rest,kind,ns,nv,D,g,sp,fun v H''=>∃ri,v=.ref ri∧ax H H''∧RIn ri H'',rfl,R,tab,hg,fn,fun q H' Q' sm hq hres=>k q H' Q' (s2.trans sm) hq fun ri H'' s'' hri=>hres _ _ ⟨ri,rfl,s'',hri⟩,?_⟩
  rintro v H' ⟨ri,rfl,s',hri⟩
  exact hu _ _ ⟨ri,hri,rfl,s'⟩
 rintro _ H3 ⟨ri,hri,rfl,s3⟩
 walk_at "rd"
 show ∀x dx:Addr,_
 intro x dx hx hdx hne
 have s5:ax H (upd (upd H3 dx (.own x)) x (.ins C dx [])):=(s3.upd hdx).upd (by rw [aj (Ne.symm hne)];exact hx)
 have s35:ax H3 (upd (upd (upd H3 dx (.own x)) x (.ins C dx [])) x (.ins C dx (cA row t u ri))):=fun c o hc=>by
  have n1:c≠x:=ay hc hx
  rw [aj n1,aj n1,aj (ay hc hdx)]
  exact hc
 refine⟨x,dx,ri,row,t,u,rfl,ab,rfl,?_⟩
 exact kq x _ (s3.trans s35) ⟨dx,ri,ab,mono _ _ _ s35 hri⟩
theorem oG{f C T0:Addr}{fd:FuncData}(F:pR K "read_rule" "read_rule" fN f fd T0)(T:Txt mg aM)(D_plain_rule:bZ P w K mg base "plain_rule" 9 ["row","voices"] (j7 P w K mg base aM 7))(D_every_rule:bZ P w K mg base "every_rule" 9 ["row","voices"] (mq P w K mg base aM C 7)):aP P w K mg base bY 10 f fd ["text","voices","row"] (u6 P w K mg base aM C 7):=by
 refine F.ok sc_read_rule (fun vs H Q E h=>?_) (fun cdv A outer s H vs Q E hr h=>?_)
 ·obtain⟨row,nv,z,rfl,_⟩:=h
  rfl
 obtain⟨row,nv,z,rfl,⟨rest,t,u,RE⟩,k⟩:=h
 refine⟨_,(af (aJ (i:=3) sc_read_rule.nd rfl (Or.inl rfl) (cG (aY (cz K PySem.F.plainAttrs_str PySem.F.slot_str_startswith PySem.F.type_str_startswith fS (pr 0) (aa aZ ag)) (fun _=>rfl)) (aE D_every_rule hr (by rfl) (aa (pr 0) (aa (pr 1) ag))) (aE D_plain_rule hr (by rfl) (aa (pr 0) (aa (pr 1) ag)))))
 (af (aV (aX (az d8 (pr 3) bc (aA _))) (ah jO) aG)
 (ah (ar (pr 3))))),?_⟩
 walk_at "rd"
 rw [RE.starts,if_pos rfl]
 obtain⟨row',rest',kind,t',u',ns,nv',D,g,sp,RIn,e,k⟩:=k
 refine⟨row',rest',kind,t',u',ns,nv',D,g,sp,RIn,e,?_⟩
 obtain⟨k1,k2,k3,k4,k5,k6,k7,k8,k9,k10,k11⟩:=k
 refine⟨k1,k2,k3,k4,k5,k6,k7,k8,k9,k10,fun r H' s' hr=>?_⟩
 obtain⟨hn,q⟩:=k11 r H' s' hr
 rw [if_neg hn]
 exact q
theorem qr{f:Addr}{fd:FuncData}(F:cH K "broken_at" "broken_at" ic f fd)(T:Txt mg aM):aP P w K mg base bY 8 f fd ["rule","line"] (nG P w K mg base 7):=by
 refine F.ok sc_broken_at (fun vs H Q E h=>?_) (fun cdv A outer s H vs Q E hr h=>?_)
 ·obtain⟨r,l,nv,C,S,RI,G,cols,rfl,_⟩:=h
  rfl
 obtain⟨r,l,nv,C,S,RI,G,cols,rfl,R,hri,hL,hcl,k⟩:=h
 refine⟨_,(af (aJ (i:=2) sc_broken_at.nd rfl (Or.inl rfl) (kJ P w K mg base hr (pr 0)))
 (af (aJ (i:=3) sc_broken_at.nd rfl (Or.inl rfl) bc)
 (af (cI PassesOwn.never rfl (h7 rfl T.n_enumerate (aa (pr 1) ag)) (c7 K (n:=2) rfl (br (aN (i:=4) sc_broken_at.nd rfl (Or.inl rfl)) (br (aN (i:=5) sc_broken_at.nd rfl (Or.inl rfl)) c8)))
 (af (aJ (i:=2) sc_broken_at.nd rfl (Or.inl rfl) (ng P w K mg base hr (pr 0) (aa (pr 2) (aa (pr 3) (aa (pr 5) ag)))))
 (af (aV (aX (az d8 (pr 2) bc (aA _))) (ah (ar (pr 4))) aG)
 (ah (aJ (i:=3) sc_broken_at.nd rfl (Or.inl rfl) (pr 5))))))
 (ah (ar (cG (aY (ng P w K mg base hr (pr 0) (aa (pr 2) (aa (pr 3) ag))) (fun _=>rfl)) bc (aH (aQ K) (by rfl) T.n_len boot_len (aa (pr 1) ag)))))))),?_⟩
 have hs:sizeLine=16777216:=sizeLine_eq
 walk_at "rd"
 obtain⟨dx,fs,hir,q1,q2,q3,q4,q5⟩:=R.ins r H hri
 refine⟨C,dx,fs,hir,q2,_,_,R.start,r,rfl,hri,?_⟩
 obtain⟨ps,hps,hpl,hpc⟩:=hL
 obtain⟨Pv,hPv⟩:∃Pv:Nat→L2.St→Hp→Prop,Pv=fun i σ H'=>∃(m:Int) (bx:V) (b:Option (List Int)) (o o':Option V),σ=[some (.ref r),some (.ref l),some (.int m),some bx,o,o']∧ax H H'∧G m∧BV K H' nv b bx∧gO S S.start none 0 cols=gO S m b i (cols.drop i):=⟨_,rfl⟩
 refine⟨true,⟨_,hps⟩,iV (l:=true) (us:=ps.map V.ref) Pv (by rw [hPv];exact⟨S.start,.non,none,none,none,rfl,ax.refl H,R.g0,.inl ⟨rfl,rfl⟩,rfl⟩) (fun i σ H' _ h=>by rw [hPv]at h;obtain⟨m,bx,b,o,o',_,sm,_⟩:=h;exact sm.seq hps) ?_ ?_⟩
 ·intro i y σ H1 p hx hI hp0
  have hI':=hI
  rw [hPv]at hI'
  clear hI
  obtain⟨m,bx,b,o,o',rfl,sm,gm,hb,e⟩:=hI'
  obtain⟨c,hc0,rfl⟩:∃c,ps[i]?=some c∧y=.ref c:=by
   rw [List.getElem?_map]at hx
   cases hc:ps[i]? with
   | none=>rw [hc]at hx;cases hx
   | some c=>rw [hc]at hx;exact⟨c,rfl,(Option.some.inj hx).symm⟩
  have hi:i < cols.length:=by have:=(List.getElem?_eq_some_iff.mp hc0).1;omega
  have hu:cols[i]?=some cols[i]:=List.getElem?_eq_getElem hi
  obtain⟨hct,hcl'⟩:=hpc i c _ hc0 hu
  have s2:ax H (upd H1 p (.tup [.int i,.ref c])):=sm.upd hp0
  have hb2:BV K (upd H1 p (.tup [.int i,.ref c])) nv b bx:=hb.same (au hp0)
  walk_at "rd"
  refine⟨_,cR.of ab,rfl,?_⟩
  walk_at "rd"
  generalize upd H1 p (.tup [.int i,.ref c])=H2 at s2 hb2
  have hri2:=R.mono r _ _ s2 hri
  obtain⟨dx2,fs2,hir2,z1,z2,z3,z4,z5⟩:=R.ins r H2 hri2
  refine⟨C,dx2,fs2,hir2,z3,_,_,R.after,r,m,bx,c,b,_,rfl,hri2,gm,hb2,s2.tup hct,hcl',?_⟩
  have ed:cols.drop i=cols[i]::cols.drop (i+1):=(List.drop_eq_getElem_cons hi)
  rw [ed]at e
  simp only [gO]at e
  cases ha:S.after m b cols[i]with
  | none=>
   rw [ha]at e
   simp only at e
   show if zm none=V.non then _ else _
   rw [if_pos (show zm none=V.non from rfl)]
   have hk:=k H2 s2
   unfold brk at hk
   rw [e]at hk
   exact hk
  | some m'=>
   rw [ha]at e
   simp only at e
   have hne:¬(zm (some m')=V.non):=fun z=>by cases z
   show if zm (some m')=V.non then _ else _
   rw [if_neg hne]
   rw [hPv]
   exact⟨m',_,some cols[i],_,_,rfl,s2,R.gS _ _ _ _ gm ha,.inr ⟨c,_,rfl,rfl,s2.tup hct,hcl'⟩,e⟩
 ·intro σ H1 hI
  rw [hPv]at hI
  obtain⟨m,bx,b,o,o',rfl,sm,gm,hb,e⟩:=hI
  walk_at "rd"
  have hri2:=R.mono r _ _ sm hri
  obtain⟨dx2,fs2,hir2,z1,z2,z3,z4,z5⟩:=R.ins r H1 hri2
  refine⟨C,dx2,fs2,hir2,z4,_,_,R.closes,r,m,bx,b,rfl,hri2,gm,hb,?_⟩
  walk_at "rd"
  have hk:=k H1 sm
  unfold brk at hk
  rw [e,List.length_map,hpl,List.drop_of_length_le (Nat.le_refl _)]at hk
  simp only [gO]at hk
  by_cases hc:S.closes m b=true
  ·rw [if_pos hc]
   rw [if_pos hc]at hk
   exact hk
  ·rw [if_neg hc]
   rw [if_neg hc]at hk
   refine⟨_,.inl (sm.seq hps),?_⟩
   rw [List.length_map,hpl]
   exact hk
theorem tM{f:Addr}{fd:FuncData}(F:cH K "_law_stirred" "_law_stirred" fZ f fd)(T:Txt mg aM):aP P w K mg base bY 1 f fd ["_law_cell","_law_place"] ll:=by
 refine F.ok sc_law_stirred (fun vs H Q E h=>?_) (fun cdv A outer s H vs Q E hr h=>?_)
 ·obtain⟨c,p,rfl,_⟩:=h
  rfl
 obtain⟨c,p,rfl,k⟩:=h
 refine⟨_,(af (aJ (i:=2) sc_law_stirred.nd rfl (Or.inl rfl) ae)
 (af (aJ (i:=3) sc_law_stirred.nd rfl (Or.inl rfl) (aq (bO K) (aq (o1 bC) (aq (bO K) (aq (o1 bC) (pr 0) ae) (aq (hG K) ae (pr 1))) ae) ae))
 (af (cI PassesOwn.never rfl (dk rfl T.n_range (aa ae ag)) (aN (i:=4) sc_law_stirred.nd rfl (Or.inl rfl))
 (af (kM (aH (g5) (by rfl) T.n_divmod boot_divmod (aa (pr 3) (aa ae ag))) (c7 K (n:=2) rfl (br (aN (i:=5) sc_law_stirred.nd rfl (Or.inl rfl)) (br (aN (i:=6) sc_law_stirred.nd rfl (Or.inl rfl)) c8))))
 (af (aJ (i:=3) sc_law_stirred.nd rfl (Or.inl rfl) (aq (o1 bC) (aq (bO K) (aq (bO K) (aq (bO K) (aq (hG K) (pr 6) ae) (aq (hG K) (pr 5) ae)) (aq (hG K) ae (pr 4))) ae) ae))
 (ah (aJ (i:=2) sc_law_stirred.nd rfl (Or.inl rfl) (aq (bO K) (aq (hG K) (pr 2) ae) (pr 3)))))))
 (ah (ar (pr 2)))))),?_⟩
 walk_at "rd"
 refine⟨by decide,.of_left (by decide),by decide,by decide,by decide,?_⟩
 refine cU (n:=4) (fun i σ H'=>∃o4 o5 o6,σ=[some (.int c),some (.int p),some (.int (GM.stirSt c p i).1),some (.int (GM.stirSt c p i).2),o4,o5,o6]∧ax H H') ⟨none,none,none,rfl,ax.refl H⟩ ?_ ?_
 ·rintro i σ H1 hi ⟨o4,o5,o6,rfl,sm⟩
  walk_at "rd"
  refine⟨⟨by decide,by decide⟩,fun q hq=>⟨_,cR.of ab,rfl,?_⟩⟩
  walk_at "rd"
  refine⟨.of_right (by decide),.of_right (by decide),.of_left (by decide),by decide,.of_right (by decide),?_⟩
  exact⟨rfl,rfl,sm.upd hq⟩
 ·rintro σ H1 ⟨o4,o5,o6,rfl,sm⟩
  walk_at "rd"
  exact k _ sm
theorem A3{f:Addr}{fd:FuncData}(F:cH K "_law_got" "_law_got" kP f fd)(T:Txt mg aM)(D_law_stirred:bZ P w K mg base "_law_stirred" 1 ["_law_cell","_law_place"] ll):aP P w K mg base bY 2 f fd ["_law_script","_law_place"] (lJ K):=by
 refine F.ok sc_law_got (fun vs H Q E h=>?_) (fun cdv A outer s H vs Q E hr h=>?_)
 ·obtain⟨a,ns,p,rfl,_⟩:=h
  rfl
 obtain⟨a,ns,p,rfl,hS,hB,hp0,hp1,k⟩:=h
 refine⟨_,(af (cI PassesOwn.never rfl (b6 K (aS (dc K) (pr 0) (c4 (pr 1)) (c4 (aq (bO K) (pr 1) ae)))) (aN (i:=2) sc_law_got.nd rfl (Or.inl rfl))
 (af (aJ (i:=3) sc_law_got.nd rfl (Or.inl rfl) ae)
 (af (yb PassesOwn.never (aX (az (o0 gR) (pr 3) (aH (jD) (by rfl) T.n_abs boot_abs (aa (pr 2) ag)) (aA _))) (ah (aJ (i:=3) sc_law_got.nd rfl (Or.inl rfl) (aq (hG K) (pr 3) (aq (o1 tO) ae ae)))))
 (ah (ar (aq (bO K) (aH (jD) (by rfl) T.n_abs boot_abs (aa (pr 2) ag)) (aq (hG K) (pr 3) (aE D_law_stirred hr (by rfl) (aa (aH (jD) (by rfl) T.n_abs boot_abs (aa (pr 2) ag)) (aa (pr 1) ag))))))))))
 (ah (ar ae))),?_⟩
 walk_at "rd"
 refine bM hS fun q hq=>?_
 show ye _ _ _ _
 rw [wR _ hp0,List.getElem?_map]
 cases hc:ns[p.toNat]? with
 | none=>
  refine cg (aO.of ab) (vN (aO.of ab) ?_)
  walk_at "rd"
  have e:GM.gotF ns p=0:=by unfold GM.gotF;rw [hc]
  rw [←e]
  exact k _ (au hq)
 | some c=>
  have e:GM.gotF ns p=GM.absI c+GM.powF c * GM.stirF (GM.absI c) p:=by unfold GM.gotF;rw [hc]
  have hcB:=hB c (List.mem_of_getElem? hc)
  refine cg (aO.of ab) (dJ (xs:=[.int c]) (fun i σ H'=>i=0∧σ=[some (.ref a),some (.int p),none,none]∧H'=upd H q (.lst [.int c])) ⟨rfl,rfl,rfl⟩ (fun i σ H' _ h=>by rw [h.2.2];exact aO.of ab) ?_ (fun σ H' h=>by cases h.1))
  rintro i x σ H' hx ⟨rfl,rfl,rfl⟩
  cases hx
  walk_at "rd"
  refine⟨fun m σ H'=>∃pw,σ=[some (.ref a),some (.int p),some (.int c),some (.int pw)]∧ax H H'∧0 < pw∧GM.absI c < pw+m∧GM.powGo m pw (GM.absI c)=GM.powF c,⟨(GM.absI c).toNat+1,1,rfl,au hq,by decide,by omega,rfl⟩,?_⟩
  rintro m σ H' ⟨pw,rfl,sm,h0,h1,h2⟩
  walk_at "rd"
  have ea:(if c < 0 then -c else c)=GM.absI c:=rfl
  rw [ea]
  by_cases hle:pw≤GM.absI c
  ·rw [if_pos hle]
   obtain⟨m',rfl⟩:∃m',m=m' + 1:=⟨m - 1,by omega⟩
   refine⟨fun σ' H'=>σ'=[some (.ref a),some (.int p),some (.int c),some (.int (pw * 1000000))]∧ax H H',?_,?_⟩
   ·rintro σ' H'' ⟨rfl,sm'⟩
    refine⟨m',Nat.lt_succ_self _,pw * 1000000,rfl,sm',by omega,by omega,?_⟩
    rw [←h2]
    simp only [GM.powGo]
    rw [if_pos hle]
   ·walk_at "rd"
    exact⟨⟨by decide,by decide,by decide⟩,.of_right (by decide),rfl,sm⟩
  ·rw [if_neg hle]
   rw [GM.powGo_stop hle]at h2
   subst h2
   walk_at "rd"
   refine⟨_,_,rfl,fun H2 s2=>?_⟩
   walk_at "rd"
   refine⟨.of_le (intBits_le_iff.mpr (GM.powF_lt hcB)) (intBits_le_iff.mpr (GM.stirF_natAbs _ _)) (by decide),?_⟩
   rw [←e]
   exact k _ (sm.trans s2)
theorem xP{f:Addr}{fd:FuncData}(F:cH K "_law_cells" "_law_cells" ij f fd)(T:Txt mg aM)(D_law_got:bZ P w K mg base "_law_got" 2 ["_law_script","_law_place"] (lJ K)):aP P w K mg base bY 3 f fd ["_law_script","_law_first","_law_last"] (qO K):=by
 refine F.ok qK (fun vs H Q E h=>?_) (fun cdv A outer s H vs Q E hr h=>?_)
 ·obtain⟨a,ns,lo,hi,rfl,_⟩:=h
  rfl
 obtain⟨a,ns,lo,hi,rfl,hS,hB,hn,h1,h2,h3,h4,k⟩:=h
 refine⟨_,(ah (ar (dE (own:=["_law_k"]) (js:=[0]) rfl (v9 rfl T.n_range (aa (pr 1) (aa (aH (pe rfl) (by rfl) T.n_min boot_min (aa (pr 2) (aa (aH (aQ K) (by rfl) T.n_len boot_len (aa (pr 0) ag)) ag))) ag))) (bS.of (by rfl)) (fun _ _ _ _ _=>(aN (i:=0) (show List.Nodup (["_law_k","_law_script"]:List Str)from by decide +kernel) rfl (Or.inl rfl))) (fun _ _ _ _ _=>dm) (fun _ _ _ _ _=>(aE D_law_got hr (by rfl) (aa (pr 1) (aa (pr 0) ag))))))),?_⟩
 walk_at "rd"
 refine⟨_,.inl hS,?_⟩
 walk_at "rd"
 have hb:0≤(if (ns.length:Int) < hi then(ns.length:Int)else hi)∧(if (ns.length:Int) < hi then(ns.length:Int)else hi)≤100:=by split<;>omega
 have hs:sizeLine=16777216:=sizeLine_eq
 refine⟨by omega,by omega,by omega,by omega,rh (fun i ys H'=>ys=((List.range i).map fun(j:Nat)=>V.int (GM.gotF ns (lo+j)))∧ax H H') (by omega) ⟨rfl,ax.refl _⟩ (fun i ys H' h=>by rw [h.1];simp) ?_ ?_⟩
 ·rintro i ys H1 hi ⟨rfl,sm⟩
  walk_at "rd"
  refine⟨a,ns,lo+i,rfl,sm.seq hS,hB,by omega,by omega,fun H2 s2=>?_⟩
  exact⟨by rw [List.range_succ,List.map_append];rfl,sm.trans s2⟩
 ·rintro ys H1 ⟨rfl,sm⟩ q hq
  exact k q _ (by rw [ab];unfold GM.cellsF;rw [List.map_map];rfl) (sm.upd hq)
end
inductive ck where
 | span (o t:Int) (D:List Int)
 | clock (o t h:Int) (D:List Int)
 | move (o:Int) (D:List Int)
 | alike (o t:Int) (D:List Int)
 | back (o bP:Int)
 | held (o most:Int)
 | times (o nt lw hg:Int)
 | begin (o:Int) (D:List Int)
 | close (o:Int) (D:List Int)
def cW(o:Int)(cols:List (List Int))(i:Nat):Int:=aF (cols.getD i []) (o+1)
def dG(o:Int)(cols:List (List Int))(i:Nat):Int:=cW o cols i - cW o cols (i - 1)
def sZ(o nt:Int)(us:List Int):Bool:=decide (aF us (o+1)=nt)
def gp(o nt:Int)(cols:List (List Int))(i:Nat):Nat:=((cols.take i).filter (sZ o nt)).length
def i6(o:Int)(cols:List (List Int)):Nat→Nat
 | 0=>0
 | i+1=>if cW o cols i=cW o cols (i+1)then i6 o cols i+1 else 0
def iP(cols:List (List Int))(i:Nat):ck→Bool
 | .span o t D=>!decide (cW t cols i - cW o cols i∈D)
 | .clock o t h D=>!decide ((cW t cols i - cW o cols i) % h∈D)
 | .move o D=>decide (i≠0) && !decide (dG o cols i∈D)
 | .alike o t D=>decide (i≠0) && (decide (dG o cols i≠0) && (decide (cW t cols i - cW o cols i=cW t cols (i - 1) - cW o cols (i - 1)) && decide (cW t cols i - cW o cols i∈D)))
 | .back o bP=>decide (2≤i) && (decide (dG o cols (i - 1) > bP∧dG o cols i≥0) || decide (dG o cols (i - 1) < 0 - bP∧dG o cols i≤0))
 | .held o most=>decide (most≤(i6 o cols i:Int))
 | .times o nt _ hg=>decide (cW o cols i=nt) && decide ((gp o nt cols i:Int)≥hg)
 | .begin o D=>decide (i=0) && !decide (cW o cols i∈D)
 | .close _ _=>false
def Ca(cols:List (List Int))(i:Nat):ck→Bool
 | .times o nt lw _=>decide ((gp o nt cols i:Int) < lw)
 | .close o D=>decide (i≠0) && !decide (cW o cols (i - 1)∈D)
 | .back o bP=>decide (2≤i) && (decide (dG o cols (i - 1) > bP) || decide (dG o cols (i - 1) < 0 - bP))
 | _=>false
def gL:ck→d4
 | .span o t D=>e8 (o+1) (t+1) D
 | .clock o t h D=>dY (o+1) (t+1) h D
 | .move o D=>fO (o+1) D
 | .alike o t D=>eK (o+1) (t+1) D
 | .back o bP=>dq (o+1) bP
 | .held o most=>eE (o+1) most
 | .times o nt lw hg=>cY (o+1) nt lw hg
 | .begin o D=>dX (o+1) D
 | .close o D=>eM (o+1) D
def AZ:ck→Int→Prop
 | .back _ _=>jG
 | .held _ most=>pA most
 | .times _ _ _ hg=>jH hg
 | _=>fun _=>True
def vO(o bP:Int)(cols:List (List Int))(i:Nat):Int:=if i=0 then 0 else if dG o cols i > bP then 1 else if dG o cols i < 0 - bP then 2 else 0
def mV(cols:List (List Int))(i:Nat):ck→Int
 | .back o bP=>(match i with | 0=>0 | i+1=>vO o bP cols i)
 | .held o _=>(match i with | 0=>0 | i+1=>(i6 o cols i:Int))
 | .times o nt _ _=>(gp o nt cols i:Int)
 | _=>0
def gd(nv:Nat):ck→Prop
 | .span o t _=>0≤o∧o < nv∧0≤t∧t < nv
 | .clock o t h _=>0≤o∧o < nv∧0≤t∧t < nv∧1≤h
 | .move o _=>0≤o∧o < nv
 | .alike o t _=>0≤o∧o < nv∧0≤t∧t < nv
 | .back o bP=>0≤o∧o < nv∧0≤bP
 | .held o most=>0≤o∧o < nv∧1≤most
 | .times o _ _ hg=>0≤o∧o < nv∧0≤hg
 | .begin o _=>0≤o∧o < nv
 | .close o _=>0≤o∧o < nv
theorem cO{o:Int}{cols:List (List Int)}{i:Nat}{us:List Int}(h:cols[i]?=some us):cW o cols i=aF us (o+1):=by
 unfold cW
 rw [List.getD_eq_getElem?_getD,h]
 rfl
theorem mI(o nt:Int)(cols:List (List Int))(i:Nat)(us:List Int)(h:cols[i]?=some us):gp o nt cols (i+1)=gp o nt cols i+if sZ o nt us=true then 1 else 0:=by
 unfold gp
 rw [List.take_add_one,h,List.filter_append,List.length_append]
 congr 1
 by_cases hh:sZ o nt us=true
 ·simp [hh]
 ·simp [hh]
theorem BE(nv:Nat)(cols:List (List Int))(R:ck)(hg:gd nv R):Walks (gL R) cols (fun i=>mV cols i R) (fun i=>iP cols i R):=by
 have prev:∀{i:Nat} {us:List Int},cols[i+1]?=some us→∃bs,cols[i]?=some bs∧e7 cols (i+1)=some bs:=fun {i us} hu=>by
  have hi:i+1 < cols.length:=(List.getElem?_eq_some_iff.mp hu).1
  exact⟨cols[i],List.getElem?_eq_getElem (by omega),List.getElem?_eq_getElem (by omega)⟩
 cases R with
 | span o t D=>
  refine⟨rfl,fun i us hu=>?_⟩
  simp only [gL,e8,mV,iP,cO hu]
  by_cases h:aF us (t+1) - aF us (o+1)∈D
  ·rw [if_pos h,decide_eq_true h];rfl
  ·rw [if_neg h,decide_eq_false h];rfl
 | clock o t h D=>
  refine⟨rfl,fun i us hu=>?_⟩
  simp only [gL,dY,mV,iP,cO hu]
  by_cases h:(aF us (t+1) - aF us (o+1)) % h∈D
  ·rw [if_pos h,decide_eq_true h];rfl
  ·rw [if_neg h,decide_eq_false h];rfl
 | move o D=>
  refine⟨rfl,fun i us hu=>?_⟩
  cases i with
  | zero=>rfl
  | succ i=>
   obtain⟨bs,hb,hp⟩:=prev hu
   simp only [gL,fO,mV,iP,dG,cO hu,Nat.add_sub_cancel,cO hb,hp]
   by_cases h:aF us (o+1) - aF bs (o+1)∈D
   ·rw [if_pos h,decide_eq_true h];simp
   ·rw [if_neg h,decide_eq_false h];simp
 | alike o t D=>
  refine⟨rfl,fun i us hu=>?_⟩
  cases i with
  | zero=>rfl
  | succ i=>
   obtain⟨bs,hb,hp⟩:=prev hu
   simp only [gL,eK,mV,iP,dG,cO hu,Nat.add_sub_cancel,cO hb,hp]
   by_cases h0:aF us (o+1) - aF bs (o+1)=0
   ·simp [h0]
   by_cases h1:aF us (t+1) - aF us (o+1)=aF bs (t+1) - aF bs (o+1)
   ·by_cases h2:aF us (t+1) - aF us (o+1)∈D
    ·simp [h0,h1,h2]
    ·simp [h0,h1,h2]
   ·simp [h0,h1]
 | back o bP=>
  obtain⟨_,_,hf⟩:=hg
  refine⟨rfl,fun i us hu=>?_⟩
  cases i with
  | zero=>rfl
  | succ i=>
   obtain⟨bs,hb,hp⟩:=prev hu
   show(dq (o+1) bP).after (vO o bP cols i) (e7 cols (i+1)) us=if iP cols (i+1) (.back o bP)=true then none else some (vO o bP cols (i+1))
   rw [hp]
   have em:aF us (o+1) - aF bs (o+1)=dG o cols (i+1):=by unfold dG;rw [cO hu,Nat.add_sub_cancel,cO hb]
   have eb:iP cols (i+1) (.back o bP)=(decide (2≤i+1) && (decide (dG o cols i > bP∧dG o cols (i+1)≥0) || decide (dG o cols i < 0 - bP∧dG o cols (i+1)≤0))):=rfl
   have el:(if dG o cols (i+1) > bP then some (1:Int)else if dG o cols (i+1) < 0 - bP then some 2 else some 0)=some (vO o bP cols (i+1)):=by
    have ez:vO o bP cols (i+1)=if dG o cols (i+1) > bP then 1 else if dG o cols (i+1) < 0 - bP then 2 else 0:=by
     unfold vO
     rw [if_neg (show ¬(i+1=0)by omega)]
    rw [ez]
    by_cases h1:dG o cols (i+1) > bP
    ·rw [if_pos h1,if_pos h1]
    ·rw [if_neg h1,if_neg h1]
     by_cases h2:dG o cols (i+1) < 0 - bP
     ·rw [if_pos h2,if_pos h2]
     ·rw [if_neg h2,if_neg h2]
   simp only [dq]
   rw [em,el,eb]
   clear el eb em
   generalize vO o bP cols (i+1)=y
   by_cases hi:i=0
   ·subst hi
    have e0:vO o bP cols 0=0:=rfl
    rw [e0]
    simp
   have e1:vO o bP cols i=if dG o cols i > bP then 1 else if dG o cols i < 0 - bP then 2 else 0:=by
    unfold vO
    rw [if_neg hi]
   rw [e1,decide_eq_true (show 2≤i+1 by omega),Bool.true_and]
   simp only [Int.zero_sub]
   generalize dG o cols i=a
   generalize dG o cols (i+1)=c
   by_cases h1:a > bP
   ·have h2:¬(a < -bP):=by omega
    by_cases h3:0≤c
    ·simp [h1,h3]
    ·simp [h1,h2,h3]
   ·by_cases h2:a < -bP
    ·by_cases h3:c≤0
     ·simp [h1,h2,h3]
     ·simp [h1,h2,h3]
    ·simp [h1,h2]
 | held o most=>
  obtain⟨_,_,h1⟩:=hg
  refine⟨rfl,fun i us hu=>?_⟩
  cases i with
  | zero=>
   have:iP cols 0 (.held o most)=false:=decide_eq_false (by show ¬(most≤(0:Int));omega)
   rw [this]
   rfl
  | succ i=>
   obtain⟨bs,hb,hp⟩:=prev hu
   show(eE (o+1) most).after (i6 o cols i:Int) (e7 cols (i+1)) us=if iP cols (i+1) (.held o most)=true then none else some (i6 o cols (i+1):Int)
   rw [hp]
   have er:i6 o cols (i+1)=if aF bs (o+1)=aF us (o+1)then i6 o cols i+1 else 0:=by rw [←cO hb,←cO hu];rfl
   simp only [eE]
   by_cases h:aF bs (o+1)=aF us (o+1)
   ·rw [if_pos h]at er
    rw [if_pos h,er]
    by_cases h2:(i6 o cols i:Int)+1 < most
    ·have eb:iP cols (i+1) (.held o most)=false:=by show decide (most≤((i6 o cols (i+1):Nat):Int))=_;rw [er];exact decide_eq_false (by omega)
     rw [if_pos h2,eb]
     rfl
    ·have eb:iP cols (i+1) (.held o most)=true:=by show decide (most≤((i6 o cols (i+1):Nat):Int))=_;rw [er];exact decide_eq_true (by omega)
     rw [if_neg h2,eb]
     rfl
   ·rw [if_neg h]at er
    have eb:iP cols (i+1) (.held o most)=false:=by show decide (most≤((i6 o cols (i+1):Nat):Int))=_;rw [er];exact decide_eq_false (by omega)
    rw [if_neg h,er,eb]
    rfl
 | times o nt lw hgh=>
  refine⟨rfl,fun i us hu=>?_⟩
  have hc:=mI o nt cols i us hu
  simp only [gL,cY,mV,iP,cO hu]
  by_cases h:aF us (o+1)=nt
  ·have hh:sZ o nt us=true:=decide_eq_true h
   rw [if_pos hh]at hc
   rw [if_pos h,hc,decide_eq_true h]
   by_cases h2:(gp o nt cols i:Int) < hgh
   ·rw [if_pos h2,decide_eq_false (by omega)]
    rfl
   ·rw [if_neg h2,decide_eq_true (by omega)]
    rfl
  ·have hh:sZ o nt us=false:=decide_eq_false h
   rw [if_neg (by rw [hh];exact Bool.false_ne_true)]at hc
   rw [if_neg h,hc,decide_eq_false h]
   rfl
 | begin o D=>
  refine⟨rfl,fun i us hu=>?_⟩
  cases i with
  | zero=>
   simp only [gL,dX,mV,iP,cO hu,e7]
   by_cases h:aF us (o+1)∈D
   ·rw [if_pos h,decide_eq_true h];rfl
   ·rw [if_neg h,decide_eq_false h];rfl
  | succ i=>
   obtain⟨bs,hb,hp⟩:=prev hu
   simp only [gL,dX,mV,iP,hp]
   simp
 | close o D=>
  exact⟨rfl,fun i us hu=>rfl⟩
theorem yY(nv:Nat)(cols:List (List Int))(R:ck)(hg:gd nv R)(i:Nat)(hi:i≤cols.length):(gL R).closes (mV cols i R) (e7 cols i)=!Ca cols i R:=by
 cases R with
 | span o t D=>rfl
 | clock o t h D=>rfl
 | move o D=>rfl
 | alike o t D=>rfl
 | held o most=>rfl
 | begin o D=>rfl
 | times o nt lw hgh=>
  show decide ((gp o nt cols i:Int)≥lw)=!decide ((gp o nt cols i:Int) < lw)
  by_cases h:(gp o nt cols i:Int) < lw
  ·rw [decide_eq_true h,decide_eq_false (by omega)];rfl
  ·rw [decide_eq_false h,decide_eq_true (by omega)];rfl
 | close o D=>
  cases i with
  | zero=>rfl
  | succ i=>
   have hb:cols[i]?=some cols[i]:=List.getElem?_eq_getElem (by omega)
   show(eM (o+1) D).closes 0 cols[i]?=!(decide (i+1≠0) && !decide (cW o cols i∈D))
   rw [hb,cO hb]
   simp [eM]
 | back o bP=>
  obtain⟨_,_,hf⟩:=hg
  cases i with
  | zero=>rfl
  | succ i=>
   show decide (vO o bP cols i=0)=!(decide (2≤i+1) && (decide (dG o cols i > bP) || decide (dG o cols i < 0 - bP)))
   by_cases h0:i=0
   ·subst h0;rfl
   have e1:vO o bP cols i=if dG o cols i > bP then 1 else if dG o cols i < 0 - bP then 2 else 0:=by
    unfold vO
    rw [if_neg h0]
   rw [e1,decide_eq_true (show 2≤i+1 by omega),Bool.true_and]
   simp only [Int.zero_sub]
   generalize dG o cols i=a
   by_cases h1:a > bP
   ·simp [h1]
   ·by_cases h2:a < -bP
    ·simp [h1,h2]
    ·simp [h1,h2]
def eS:ck→List V
 | .span o t D=>.str "span"::((o+1)::(t+1)::D).map V.int
 | .clock o t h D=>.str "clock"::((o+1)::(t+1)::h::D).map V.int
 | .move o D=>.str "move"::((o+1)::D).map V.int
 | .alike o t D=>.str "alike"::((o+1)::(t+1)::D).map V.int
 | .back o bP=>.str "back"::[o+1,bP].map V.int
 | .held o most=>.str "held"::[o+1,most].map V.int
 | .times o nt lw hg=>.str "times"::[o+1,nt,lw,hg].map V.int
 | .begin o D=>.str "begin"::((o+1)::D).map V.int
 | .close o D=>.str "close"::((o+1)::D).map V.int
def qY:ck→Str
 | .span _ _ _=>"span"
 | .clock _ _ _ _=>"clock"
 | .move _ _=>"move"
 | .alike _ _ _=>"alike"
 | .back _ _=>"back"
 | .held _ _=>"held"
 | .times _ _ _ _=>"times"
 | .begin _ _=>"begin"
 | .close _ _=>"close"
def jr:ck→Int
 | .span o _ _=>o
 | .clock o _ _ _=>o
 | .move o _=>o
 | .alike o _ _=>o
 | .back o _=>o
 | .held o _=>o
 | .times o _ _ _=>o
 | .begin o _=>o
 | .close o _=>o
theorem nj(R:ck):(eS R)[0]?=some (.str (qY R)):=by cases R<;>rfl
theorem tX(R:ck):(eS R)[1]?=some (.int (jr R+1)):=by cases R<;>rfl
theorem pX{nv:Nat}{R:ck}(h:gd nv R):0≤jr R∧jr R < nv:=by
 cases R with
 | span _ _ _=>exact⟨h.1,h.2.1⟩
 | clock _ _ _ _=>exact⟨h.1,h.2.1⟩
 | move _ _=>exact⟨h.1,h.2⟩
 | alike _ _ _=>exact⟨h.1,h.2.1⟩
 | back _ _=>exact⟨h.1,h.2.1⟩
 | held _ _=>exact⟨h.1,h.2.1⟩
 | times _ _ _ _=>exact⟨h.1,h.2.1⟩
 | begin _ _=>exact⟨h.1,h.2⟩
 | close _ _=>exact⟨h.1,h.2⟩
theorem B4(R:ck):¬(qY R=Str.ofString "every"):=by
 cases R with
 | span _ _ _=>exact show ¬(Str.ofString "span"=Str.ofString "every")by decide +kernel
 | clock _ _ _ _=>exact show ¬(Str.ofString "clock"=Str.ofString "every")by decide +kernel
 | move _ _=>exact show ¬(Str.ofString "move"=Str.ofString "every")by decide +kernel
 | alike _ _ _=>exact show ¬(Str.ofString "alike"=Str.ofString "every")by decide +kernel
 | back _ _=>exact show ¬(Str.ofString "back"=Str.ofString "every")by decide +kernel
 | held _ _=>exact show ¬(Str.ofString "held"=Str.ofString "every")by decide +kernel
 | times _ _ _ _=>exact show ¬(Str.ofString "times"=Str.ofString "every")by decide +kernel
 | begin _ _=>exact show ¬(Str.ofString "begin"=Str.ofString "every")by decide +kernel
 | close _ _=>exact show ¬(Str.ofString "close"=Str.ofString "every")by decide +kernel
inductive aR where
 | plain (R:ck)
 | every (m a:Int) (R:ck)
def pZ:ck→Prop
 | .span _ _ _=>True
 | .clock _ _ _ _=>True
 | _=>False
def cN:aR→List V
 | .plain R=>eS R
 | .every m a R=>.str "every" :: .int m :: .int a::eS R
def iO(cols:List (List Int))(i:Nat):aR→Bool
 | .plain R=>iP cols i R
 | .every m a R=>decide ((i:Int) % m=a) && iP cols i R
def c9(nv:Nat):aR→Prop
 | .plain R=>gd nv R
 | .every m a R=>gd nv R∧pZ R∧1≤m∧0≤a∧a < m
theorem y8{P:Program}{w:World}{K:PySem.W.Frag}{mg:Str→Option Value}{base:Heap}{CX:sH}{k:Nat}{f:Addr}{fd:FuncData}{ps:List Str}{sp sp':Sp}(F:aP P w K mg base CX k f fd ps sp)(G:aP P w K mg base CX k f fd ps sp'):aP P w K mg base CX k f fd ps (fun vs H Q E=>sp vs H Q E∨sp' vs H Q E):=
 ⟨fun vs H Q E q=>q.elim (F.len vs H Q E) (G.len vs H Q E),fun A outer s H args us vs Q E hr he hb hv hs=>hs.elim (F.run A outer s H args us vs Q E hr he hb hv) (G.run A outer s H args us vs Q E hr he hb hv)⟩
def ke:aR→Int
 | .plain R=>(gL R).size
 | .every m _ _=>m
def iW(cols:List (List Int)):aR→Bool
 | .plain R=>Ca cols cols.length R
 | .every _ _ _=>false
def gg:aR→d4
 | .plain R=>gL R
 | .every m a R=>eP m a (gL R)
def Ax(cols:List (List Int))(i:Nat):aR→Int
 | .plain R=>mV cols i R
 | .every m _ _=>(i:Int) % m
def C1:aR→Int→Prop
 | .plain R=>AZ R
 | .every m _ _=>mU m
theorem Bp(R:aR):(gg R).size=ke R:=by
 cases R<;>rfl
theorem xm{cols:List (List Int)}{i:Nat}{us:List Int}{b:Option (List Int)}{R:ck}(hu:cols[i]?=some us)(hi:pZ R):(gL R).after (gL R).start b us=if iP cols i R=true then none else some 0:=by
 cases R with
 | span o t D=>
  show(if aF us (t+1) - aF us (o+1)∈D then some 0 else none)=if (!decide (cW t cols i - cW o cols i∈D))=true then none else some 0
  rw [cO hu,cO hu]
  by_cases h:aF us (t+1) - aF us (o+1)∈D
  ·rw [if_pos h,decide_eq_true h];rfl
  ·rw [if_neg h,decide_eq_false h];rfl
 | clock o t h D=>
  show(if (aF us (t+1) - aF us (o+1)) % h∈D then some 0 else none)=if (!decide ((cW t cols i - cW o cols i) % h∈D))=true then none else some 0
  rw [cO hu,cO hu]
  by_cases h:(aF us (t+1) - aF us (o+1)) % h∈D
  ·rw [if_pos h,decide_eq_true h];rfl
  ·rw [if_neg h,decide_eq_false h];rfl
 | _=>exact hi.elim
theorem Ab(nv:Nat)(cols:List (List Int))(R:aR)(hg:c9 nv R):Walks (gg R) cols (fun i=>Ax cols i R) (fun i=>iO cols i R):=by
 cases R with
 | plain R=>exact BE nv cols R hg
 | every m a R=>
  obtain⟨hg,hin,m1,a0,a1⟩:=hg
  refine⟨by show(0:Int)=((0:Nat):Int) % m;simp,fun i us hu=>?_⟩
  have em:((i:Int) % m+1) % m=((i+1:Nat):Int) % m:=by
   rw [Int.emod_add_emod]
   rfl
  show(if (i:Int) % m=a then(if (gL R).after (gL R).start (e7 cols i) us=none then none else some (((i:Int) % m+1) % m))else some (((i:Int) % m+1) % m))=if (decide ((i:Int) % m=a) && iP cols i R)=true then none else some (((i+1:Nat):Int) % m)
  rw [em,xm hu hin]
  by_cases h:(i:Int) % m=a
  ·rw [if_pos h,decide_eq_true h,Bool.true_and]
   by_cases hb:iP cols i R=true
   ·rw [if_pos hb,if_pos rfl,if_pos hb]
   ·rw [if_neg hb,if_neg hb,if_neg (fun z=>by cases z)]
  ·rw [if_neg h,decide_eq_false h,Bool.false_and]
   rfl
theorem qe{o:Int}{cols:List (List Int)}{i j:Nat}(h:j < i):cW o (cols.take i) j=cW o cols j:=by
 unfold cW
 rw [List.getD_eq_getElem?_getD,List.getD_eq_getElem?_getD,List.getElem?_take,if_pos h]
theorem zG(cols:List (List Int))(i:Nat)(hi:i≤cols.length)(R:ck):Ca (cols.take i) (cols.take i).length R=Ca cols i R:=by
 have hl:(cols.take i).length=i:=by rw [List.length_take];omega
 rw [hl]
 cases R with
 | times o nt lw hgh=>
  show decide ((gp o nt (cols.take i) i:Int) < lw)=decide ((gp o nt cols i:Int) < lw)
  have:gp o nt (cols.take i) i=gp o nt cols i:=by
   unfold gp
   rw [List.take_take,Nat.min_self]
  rw [this]
 | close o D=>
  cases i with
  | zero=>rfl
  | succ i=>
   show(decide (i+1≠0) && !decide (cW o (cols.take (i+1)) (i+1 - 1)∈D))=(decide (i+1≠0) && !decide (cW o cols (i+1 - 1)∈D))
   rw [qe (by omega)]
 | back o bP=>
  show(decide (2≤i) && (decide (dG o (cols.take i) (i - 1) > bP) || decide (dG o (cols.take i) (i - 1) < 0 - bP)))=(decide (2≤i) && (decide (dG o cols (i - 1) > bP) || decide (dG o cols (i - 1) < 0 - bP)))
  by_cases h2:2≤i
  ·have:dG o (cols.take i) (i - 1)=dG o cols (i - 1):=by
    unfold dG
    rw [qe (by omega),qe (by omega)]
   rw [this]
  ·rw [decide_eq_false h2,Bool.false_and,Bool.false_and]
 | _=>rfl
theorem wO(nv:Nat)(cols:List (List Int))(R:aR)(hg:c9 nv R)(i:Nat)(hi:i≤cols.length):(gg R).closes (Ax cols i R) (e7 cols i)=!iW (cols.take i) R:=by
 cases R with
 | plain R=>
  show(gL R).closes (mV cols i R) (e7 cols i)=!Ca (cols.take i) (cols.take i).length R
  rw [zG cols i hi]
  exact yY nv cols R hg i hi
 | every m a R=>rfl
def cE:ck→Str
 | .span _ _ _=>"span"
 | .clock _ _ _ _=>"clock"
 | .move _ _=>"move"
 | .alike _ _ _=>"alike"
 | .back _ _=>"back"
 | .held _ _=>"held"
 | .times _ _ _ _=>"times"
 | .begin _ _=>"begin"
 | .close _ _=>"close"
def c6:ck→List Int
 | .span o t D=>(o+1)::(t+1)::D
 | .clock o t h D=>(o+1)::(t+1)::h::D
 | .move o D=>(o+1)::D
 | .alike o t D=>(o+1)::(t+1)::D
 | .back o bP=>[o+1,bP]
 | .held o most=>[o+1,most]
 | .times o nt lw hg=>[o+1,nt,lw,hg]
 | .begin o D=>(o+1)::D
 | .close o D=>(o+1)::D
theorem jQ(R:ck):eS R=.str (cE R)::(c6 R).map V.int:=by
 cases R<;>rfl
def uV:ck→Prop
 | .span _ _ D=>1≤D.length∧D.length≤12
 | .clock _ _ _ D=>1≤D.length∧D.length≤12
 | .move _ D=>1≤D.length∧D.length≤12
 | .alike _ _ D=>1≤D.length∧D.length≤12
 | .times _ _ lw _=>0≤lw
 | .begin _ D=>1≤D.length∧D.length≤12
 | .close _ D=>1≤D.length∧D.length≤12
 | _=>True
def Ay(R:ck):Prop:=(∀n∈c6 R,n.natAbs < 10 ^ 40)∧uV R
def rQ:aR→Prop
 | .plain R=>Ay R
 | .every m a R=>Ay R∧m.natAbs < 10 ^ 40∧a.natAbs < 10 ^ 40
theorem jM{R:ck}(h:Ay R):(c6 R).length≤20:=by
 have hl:=h.2
 cases R<;>simp only [c6,uV,List.length_cons,List.length_nil]at hl ⊢<;>omega
def e9(a b:Addr):List (Str×V):=bN "rules" (.ref b) (bN "ranges" (.ref a) [])
structure eG(K:PySem.W.Frag)(C:Addr):Prop where
 cl:mz K C
 n1:NoAttr K C "ranges"
 n2:NoAttr K C "rules"
def fP(K:PySem.W.Frag)(C:Addr):Sp:=fun vs H Q _=>∃(x dx a b:Addr) (xs ys:List V),vs=[.ref x,.ref a,.ref b]∧H x=some (.ins C dx [])∧aO K H a xs∧aO K H b ys∧
 ∀p q H',H p=none→H q=none→q≠p→H'=upd (upd (upd H p (.lst xs)) q (.lst ys)) x (.ins C dx (e9 p q))→Q .non H'
def bX(K:PySem.W.Frag)(H:Hp)(a:Addr)(bs:List (Int×Int)):Prop:=∃ts:List Addr,aO K H a (ts.map V.ref)∧ts.length=bs.length∧∀(i:Nat) (t:Addr) (b:Int×Int),ts[i]?=some t→bs[i]?=some b→cR K H t [.int b.1,.int b.2]
theorem bX.same{K:PySem.W.Frag}{H H':Hp}{a:Addr}{bs:List (Int×Int)}(s:ax H H')(h:bX K H a bs):bX K H' a bs:=by
 obtain⟨ts,h1,h2,h3⟩:=h
 exact⟨ts,s.seq h1,h2,fun i t b e1 e2=>s.tup (h3 i t b e1 e2)⟩
section
variable {P:Program} {w:World} {K:PySem.W.Frag} {mg:Str→Option Value} {base:Heap} {aM:Addr}
def ko(RI:km):Prop:=∀(r:Addr) (H:Hp) (z:Addr) (xs:List Addr) (ys:List V),RI r H→H z=some (.lst (xs.map V.ref))→RI r (upd H z (.lst ys))
def fh(P:Program)(w:World)(K:PySem.W.Frag)(mg:Str→Option Value)(base:Heap)(nv:Nat)(R:aR)(r:Addr)(H:Hp):Prop:=∃(C:Addr) (RI:km),bB P w K mg base 7 nv C (gg R) RI (C1 R)∧ko RI∧RI r H
theorem fh.same{nv:Nat}{R:aR}{r:Addr}{H H':Hp}(s:ax H H')(h:fh P w K mg base nv R r H):fh P w K mg base nv R r H':=by
 obtain⟨C,RI,h1,h0,h2⟩:=h
 exact⟨C,RI,h1,h0,h1.mono _ _ _ s h2⟩
theorem fh.stab{nv:Nat}{R:aR}{r z:Addr}{H:Hp}{xs:List Addr}{ys:List V}(h:fh P w K mg base nv R r H)(hz:H z=some (.lst (xs.map V.ref))):fh P w K mg base nv R r (upd H z (.lst ys)):=by
 obtain⟨C,RI,h1,h0,h2⟩:=h
 exact⟨C,RI,h1,h0,h0 _ _ _ _ _ h2 hz⟩
def lY(P:Program)(w:World)(K:PySem.W.Frag)(mg:Str→Option Value)(base:Heap)(nv:Nat)(H:Hp)(b:Addr)(Rs:List aR):Prop:=∃rs:List Addr,aO K H b (rs.map V.ref)∧rs.length=Rs.length∧∀(j:Nat) (r:Addr) (R:aR),rs[j]?=some r→Rs[j]?=some R→fh P w K mg base nv R r H
theorem lY.same{nv:Nat}{H H':Hp}{b:Addr}{Rs:List aR}(s:ax H H')(h:lY P w K mg base nv H b Rs):lY P w K mg base nv H' b Rs:=by
 obtain⟨rs,h1,h2,h3⟩:=h
 exact⟨rs,s.seq h1,h2,fun j r R e1 e2=>(h3 j r R e1 e2).same s⟩
def dP(P:Program)(w:World)(K:PySem.W.Frag)(mg:Str→Option Value)(base:Heap)(C:Addr)(nv:Nat)(bs:List (Int×Int))(Rs:List aR)(x:Addr)(H:Hp):Prop:=∃(dx a b:Addr),H x=some (.ins C dx (e9 a b))∧bX K H a bs∧lY P w K mg base nv H b Rs
theorem dP.same{C:Addr}{nv:Nat}{bs:List (Int×Int)}{Rs:List aR}{x:Addr}{H H':Hp}(s:ax H H')(h:dP P w K mg base C nv bs Rs x H):dP P w K mg base C nv bs Rs x H':=by
 obtain⟨dx,a,b,h1,h2,h3⟩:=h
 exact⟨dx,a,b,s _ _ h1,h2.same s,h3.same s⟩
def dD(b:Int×Int):Int:=b.2 - b.1+1
def nV(bs:List (Int×Int)):Int:=bs.foldl (fun t b=>t * dD b) 1
def kj(bs:List (Int×Int))(Rs:List aR):Int:=Rs.foldl (fun t R=>t * ke R) (nV bs)
def nM(P:Program)(w:World)(K:PySem.W.Frag)(mg:Str→Option Value)(base:Heap):Sp:=fun vs H Q _=>∃(x C:Addr) (nv:Nat) (bs:List (Int×Int)) (Rs:List aR),vs=[.ref x]∧eG K C∧dP P w K mg base C nv bs Rs x H∧(∀b∈bs,(dD b).natAbs < 2 ^ 60)∧(∀R∈Rs,(ke R).natAbs < 2 ^ 60)∧Q (.int (kj bs Rs)) H
def lh(P:Program)(w:World)(K:PySem.W.Frag)(mg:Str→Option Value)(base:Heap):Sp:=fun vs H Q _=>∃(x C:Addr) (nv:Nat) (bs:List (Int×Int)) (Rs:List aR),vs=[.ref x]∧eG K C∧dP P w K mg base C nv bs Rs x H∧(∀b∈bs,(dD b).natAbs < 2 ^ 60)∧(∀R∈Rs,(ke R).natAbs < 2 ^ 60)∧kj bs Rs≤400∧Q (.ref x) H
theorem pz(a b:Addr):(e9 a b).lookup (Str.ofString "ranges")=some (.ref a):=by unfold e9;walk_at "flds"
theorem rK(a b:Addr):(e9 a b).lookup (Str.ofString "rules")=some (.ref b):=by unfold e9;walk_at "flds"
theorem ox{f C:Addr}{fd:FuncData}(F:cH K "__init__" "Score.__init__" eo f fd)(T:Txt mg aM)(TC:eG K C):aP P w K mg base bY 1 f fd ["self","ranges","rules"] (fP K C):=by
 refine F.ok jX (fun vs H Q E h=>?_) (fun cdv A outer s H vs Q E hr h=>?_)
 ·obtain⟨x,dx,a,b,xs,ys,rfl,_⟩:=h
  rfl
 obtain⟨x,dx,a,b,xs,ys,rfl,hx,ha,hb,k⟩:=h
 refine⟨_,(af (bU (pr 0) (bF (cq K) (by rfl) T.n_list boot_list (aa (pr 1) ag)) rfl)
 (ah (bU (pr 0) (bF (cq K) (by rfl) T.n_list boot_list (aa (pr 2) ag)) rfl))),?_⟩
 walk_at "rd"
 have ln:∀(f:Str) (v:V) (l:List (Str×V)) (n:Nat),l.length≤n→(bN f v l).length≤n+1:=fun f v l n h=>Nat.le_trans (bR f v l) (Nat.succ_le_succ h)
 refine⟨xs,.inl ha,fun p hp=>?_⟩
 have px:p≠x:=fun e=>by subst e;rw [hx]at hp;cases hp
 refine⟨C,dx,[],by rw [aj (Ne.symm px)];exact hx,TC.cl,TC.n1,by decide,ys,.inl (((au hp).seq hb).at_ins (by rw [aj (Ne.symm px)];exact hx)),fun q hq=>?_⟩
 have qx:q≠x:=fun e=>by subst e;rw [ab]at hq;cases hq
 rw [aj qx]at hq
 have qp:q≠p:=fun e=>by subst e;rw [ab]at hq;cases hq
 rw [aj qp]at hq
 refine⟨C,dx,_,by rw [aj (Ne.symm qx),ab],TC.cl,TC.n2,Nat.lt_of_le_of_lt (ln _ _ _ _ (Nat.zero_le 0)) (by decide),?_⟩
 refine k p q _ hp hq qp ?_
 rw [fH]
 rfl
theorem v5{f:Addr}{fd:FuncData}(F:cH K "weight" "weight" nq f fd)(T:Txt mg aM):aP P w K mg base bY 8 f fd ["score"] (nM P w K mg base):=by
 refine F.ok sc_weight (fun vs H Q E h=>?_) (fun cdv A outer s H vs Q E hr h=>?_)
 ·obtain⟨x,C,nv,bs,Rs,rfl,_⟩:=h
  rfl
 obtain⟨x,C,nv,bs,Rs,rfl,TC,⟨dx,a,b,hx,⟨ts,hts,htl,htc⟩,⟨rs,hrs,hrl,hrc⟩⟩,hwb,hwr,q⟩:=h
 refine⟨_,(af (aJ (i:=1) sc_weight.nd rfl (Or.inl rfl) ae)
 (af (cI PassesOwn.never rfl (b6 K (bA (pr 0) rfl)) (c7 K (n:=2) rfl (br (aN (i:=2) sc_weight.nd rfl (Or.inl rfl)) (br (aN (i:=3) sc_weight.nd rfl (Or.inl rfl)) c8)))
 (ah (Ci (x9 (i:=1) sc_weight.nd rfl (Or.inl rfl) (aq (bO K) (aq (o0 bI) (pr 3) (pr 2)) ae) (o1 uT)))))
 (af (cI PassesOwn.never rfl (b6 K (bA (pr 0) rfl)) (aN (i:=4) sc_weight.nd rfl (Or.inl rfl))
 (ah (Ci (x9 (i:=1) sc_weight.nd rfl (Or.inl rfl) (kJ P w K mg base hr (pr 4)) (o1 uT)))))
 (ah (ar (pr 1)))))),?_⟩
 refine bo (fun σ H'=>σ=[some (.ref x),some (.int 1),none,none,none]∧H=H') ?_ ?_
 rotate_left
 ·intro u' hu
  walk_at "rd"
  exact hu _ _ ⟨rfl,rfl⟩
 rintro _ _ ⟨rfl,rfl⟩
 refine bo (fun σ H'=>∃o1 o2:Option V,σ=[some (.ref x),some (.int (nV bs)),o1,o2,none]∧H=H') ?_ ?_
 rotate_left
 ·intro u' hu
  walk_at "rd"
  refine⟨C,dx,_,hx,TC.cl,TC.n1,_,pz a b,cg hts (dJ (xs:=ts.map V.ref) (fun i σ H'=>∃o1 o2:Option V,σ=[some (.ref x),some (.int (nV (bs.take i))),o1,o2,none]∧H=H') ⟨none,none,rfl,rfl⟩ (fun i σ H' _ z=>by obtain⟨_,_,_,z⟩:=z;exact z▸hts) ?_ ?_)⟩
  ·rintro i y σ H1 hy ⟨o1,o2,rfl,rfl⟩
   rw [List.getElem?_map]at hy
   cases ht:ts[i]? with
   | none=>rw [ht]at hy;cases hy
   | some t=>
    rw [ht]at hy
    cases hy
    have hi:i < bs.length:=by rw [←htl];exact(List.getElem?_eq_some_iff.mp ht).1
    have hb:bs[i]?=some bs[i]:=List.getElem?_eq_getElem hi
    have e:nV (bs.take (i+1))=nV (bs.take i) * dD bs[i]:=by
     unfold nV
     rw [List.take_add_one,hb,List.foldl_append]
     rfl
    walk_at "rd"
    refine⟨_,htc i t _ ht hb,rfl,?_⟩
    walk_at "rd"
    rw [e]
    have hw:=hwb _ (List.getElem_mem hi)
    unfold dD at hw ⊢
    exact⟨.inr ⟨by omega,by omega⟩,rfl⟩
  ·rintro σ H1 ⟨o1,o2,rfl,rfl⟩
   rw [List.length_map,htl,List.take_length]
   exact hu _ _ ⟨o1,o2,rfl,rfl⟩
 rintro _ _ ⟨o1,o2,rfl,rfl⟩
 walk_at "rd"
 refine⟨C,dx,_,hx,TC.cl,TC.n2,_,rK a b,cg hrs (dJ (xs:=rs.map V.ref) (fun i σ H'=>∃o3:Option V,σ=[some (.ref x),some (.int ((Rs.take i).foldl (fun t R=>t * ke R) (nV bs))),o1,o2,o3]∧H=H') ⟨none,rfl,rfl⟩ (fun i σ H' _ z=>by obtain⟨_,_,z⟩:=z;exact z▸hrs) ?_ ?_)⟩
 ·rintro i y σ H1 hy ⟨o3,rfl,rfl⟩
  rw [List.getElem?_map]at hy
  cases ht:rs[i]? with
  | none=>rw [ht]at hy;cases hy
  | some r=>
   rw [ht]at hy
   cases hy
   have hi:i < Rs.length:=by rw [←hrl];exact(List.getElem?_eq_some_iff.mp ht).1
   have hb:Rs[i]?=some Rs[i]:=List.getElem?_eq_getElem hi
   obtain⟨Cr,RI,RB,_,hri⟩:=hrc i r _ ht hb
   obtain⟨dr,fr,hir,q1,_⟩:=RB.ins r _ hri
   walk_at "rd"
   refine⟨Cr,dr,fr,hir,q1,_,_,RB.size,r,rfl,hri,?_⟩
   walk_at "rd"
   rw [List.take_add_one,hb,List.foldl_append,Bp]
   have hw:=hwr _ (List.getElem_mem hi)
   exact⟨.inr ⟨by omega,by omega⟩,rfl⟩
 ·rintro σ H1 ⟨o3,rfl,rfl⟩
  rw [List.length_map,hrl,List.take_length]
  walk_at "rd"
  exact q
theorem lP{f:Addr}{fd:FuncData}(F:cH K "not_too_wide" "not_too_wide" fG f fd)(T:Txt mg aM)(D_weight:bZ P w K mg base "weight" 8 ["score"] (nM P w K mg base)):aP P w K mg base bY 9 f fd ["score"] (lh P w K mg base):=by
 refine F.ok sc_not_too_wide (fun vs H Q E h=>?_) (fun cdv A outer s H vs Q E hr h=>?_)
 ·obtain⟨x,C,nv,bs,Rs,rfl,_⟩:=h
  rfl
 obtain⟨x,C,nv,bs,Rs,rfl,TC,S,hwb,hwr,hle,q⟩:=h
 refine⟨_,(af (aJ (i:=1) sc_not_too_wide.nd rfl (Or.inl rfl) (aE D_weight hr (by rfl) (aa (pr 0) ag)))
 (af (aV (aX (az (o0 gQ) (pr 1) (hZ T.g_MOST_WEIGHT) (aA _))) (ah jO) aG)
 (ah (ar (pr 0))))),?_⟩
 walk_at "rd"
 refine⟨x,C,nv,bs,Rs,rfl,TC,S,hwb,hwr,?_⟩
 walk_at "rd"
 rw [if_neg (by omega)]
 exact q
end
def BI(P:Program)(w:World)(K:PySem.W.Frag)(mg:Str→Option Value)(base:Heap)(Dt:List (Str×V))(nv:Nat)(R:ck):Prop:=∃(f C:Addr) (sp:Sp) (RI:Str→km),KTD.datumAt (cE R) Dt=some (.ref f)∧eH P w K mg base 7 f ["row","numbers","voices"] sp∧
 (∀(row:Str) (q:Addr) (H':Hp) (Q':VK),H' q=some (.lst ((c6 R).map V.int))→(∀r H'',ax H' H''→RI row r H''→Q' (.ref r) H'')→sp [.str row,.ref q,.int nv] H' Q' E0)∧
 (∀row,bB P w K mg base 7 nv C (gL R) (RI row) (AZ R))∧(pZ R→∀row,bB P w K mg base 4 nv C (gL R) (RI row) (AZ R))∧∀row,ko (RI row)
section
variable {P:Program} {w:World} {K:PySem.W.Frag} {mg:Str→Option Value} {base:Heap} {aM:Addr}
theorem oH{f T0:Addr}{fd:FuncData}(F:pR K "read_rule" "read_rule" fN f fd T0)(T:Txt mg aM)(D_plain_rule:bZ P w K mg base "plain_rule" 9 ["row","voices"] (j7 P w K mg base aM 7)):aP P w K mg base bY 10 f fd ["text","voices","row"] (yq P w K mg base aM 7):=by
 refine F.ok sc_read_rule (fun vs H Q E h=>?_) (fun cdv A outer s H vs Q E hr h=>?_)
 ·obtain⟨row,kind,ns,nv,z,D,g,sp,Res,rfl,_⟩:=h
  rfl
 obtain⟨row,kind,ns,nv,z,D,g,sp,Res,rfl,R,hk,tab,hg,fn,k,kq⟩:=h
 refine⟨_,(af (aJ (i:=3) sc_read_rule.nd rfl (Or.inl rfl) (cG (aY (cz K PySem.F.plainAttrs_str PySem.F.slot_str_startswith PySem.F.type_str_startswith fS (pr 0) (aa aZ ag)) (fun _=>rfl)) xW (aE D_plain_rule hr (by rfl) (aa (pr 0) (aa (pr 1) ag)))))
 (af (aV (aX (az d8 (pr 3) bc (aA _))) (ah jO) aG)
 (ah (ar (pr 3))))),?_⟩
 walk_at "rd"
 rw [uu row _ (c:=101) (by decide +kernel) (by rw [R.head];exact hk),if_neg Bool.false_ne_true]
 refine⟨row,kind,ns,nv,D,g,sp,Res,rfl,R,tab,hg,fn,k,fun v H' hv=>?_⟩
 obtain⟨hn,q⟩:=kq v H' hv
 rw [if_neg hn]
 exact q
theorem iC{H:Hp}{n z:Addr}{D:List Int}{xs:List Addr}(hD:1≤D.length)(hn:H n=some (.lst (D.map V.int)))(hz:H z=some (.lst (xs.map V.ref))):n≠z:=fun e=>by
 subst e
 rw [hn]at hz
 cases D with
 | nil=>simp at hD
 | cons d D=>
  cases xs with
  | nil=>cases hz
  | cons x xs=>cases hz
theorem wu{C:Addr}{row:Str}{x1 x2:Int}{D:List Int}(hD:1≤D.length):ko (gZ C row x1 x2 D):=fun r H z zs ys h hz=>by
 obtain⟨dx,n,h1,h2⟩:=h
 exact⟨dx,n,by rw [aj (dM h1 hz (fun e=>by cases e))];exact h1,by rw [aj (iC hD h2 hz)];exact h2⟩
theorem um{C:Addr}{row:Str}{x1 x2 x3:Int}{D:List Int}(hD:1≤D.length):ko (fK C row x1 x2 x3 D):=fun r H z zs ys h hz=>by
 obtain⟨dx,n,h1,h2⟩:=h
 exact⟨dx,n,by rw [aj (dM h1 hz (fun e=>by cases e))];exact h1,by rw [aj (iC hD h2 hz)];exact h2⟩
theorem wt{C:Addr}{row:Str}{x1:Int}{D:List Int}(hD:1≤D.length):ko (gY C row x1 D):=fun r H z zs ys h hz=>by
 obtain⟨dx,n,h1,h2⟩:=h
 exact⟨dx,n,by rw [aj (dM h1 hz (fun e=>by cases e))];exact h1,by rw [aj (iC hD h2 hz)];exact h2⟩
theorem uj{C:Addr}{row:Str}{x1 x2:Int}{D:List Int}(hD:1≤D.length):ko (fI C row x1 x2 D):=fun r H z zs ys h hz=>by
 obtain⟨dx,n,h1,h2⟩:=h
 exact⟨dx,n,by rw [aj (dM h1 hz (fun e=>by cases e))];exact h1,by rw [aj (iC hD h2 hz)];exact h2⟩
theorem wo{C:Addr}{row:Str}{x1 x2:Int}:ko (fe C row x1 x2):=fun r H z zs ys h hz=>by
 obtain⟨dx,h1⟩:=h
 exact⟨dx,by rw [aj (dM h1 hz (fun e=>by cases e))];exact h1⟩
theorem wq{C:Addr}{row:Str}{x1 x2:Int}:ko (ff C row x1 x2):=fun r H z zs ys h hz=>by
 obtain⟨dx,h1⟩:=h
 exact⟨dx,by rw [aj (dM h1 hz (fun e=>by cases e))];exact h1⟩
theorem ur{C:Addr}{row:Str}{x1 x2 x3 x4:Int}:ko (c5 C row x1 x2 x3 x4):=fun r H z zs ys h hz=>by
 obtain⟨dx,h1⟩:=h
 exact⟨dx,by rw [aj (dM h1 hz (fun e=>by cases e))];exact h1⟩
theorem uk{C:Addr}{row:Str}{x1:Int}{D:List Int}(hD:1≤D.length):ko (fJ C row x1 D):=fun r H z zs ys h hz=>by
 obtain⟨dx,n,h1,h2⟩:=h
 exact⟨dx,n,by rw [aj (dM h1 hz (fun e=>by cases e))];exact h1,by rw [aj (iC hD h2 hz)];exact h2⟩
theorem uo{C:Addr}{row:Str}{x1:Int}{D:List Int}(hD:1≤D.length):ko (fL C row x1 D):=fun r H z zs ys h hz=>by
 obtain⟨dx,n,h1,h2⟩:=h
 exact⟨dx,n,by rw [aj (dM h1 hz (fun e=>by cases e))];exact h1,by rw [aj (iC hD h2 hz)];exact h2⟩
theorem uq{C:Addr}{row:Str}{t u:Int}{RIn:km}(h:ko RIn):ko (eA C row t u RIn):=fun r H z zs ys hr hz=>by
 obtain⟨dx,ri,h1,h2⟩:=hr
 exact⟨dx,ri,by rw [aj (dM h1 hz (fun e=>by cases e))];exact h1,h _ _ _ _ _ h2 hz⟩
theorem B5{Dt:List (Str×V)}{f_span C_Span:Addr}{f_clock C_Clock:Addr}{f_move C_Move:Addr}{f_alike C_Alike:Addr}{f_back C_Back:Addr}{f_held C_Held:Addr}{f_times C_Times:Addr}{f_begin C_Begin:Addr}{f_close C_Close:Addr}
  (hd_span:KTD.datumAt ("span":Str) Dt=some (.ref f_span)) (fn_span:eH P w K mg base 7 f_span ["row","numbers","voices"] (j8 K C_Span)) (RO_span:∀(row:Str) (x1 x2:Int) (D:List Int) (nv:Nat),(1≤x1∧x1≤nv)→(1≤x2∧x2≤nv)→bB P w K mg base 4 nv C_Span (e8 x1 x2 D) (gZ C_Span row x1 x2 D) fun _=>True)
  (hd_clock:KTD.datumAt ("clock":Str) Dt=some (.ref f_clock)) (fn_clock:eH P w K mg base 7 f_clock ["row","numbers","voices"] (iK K C_Clock)) (RO_clock:∀(row:Str) (x1 x2 x3:Int) (D:List Int) (nv:Nat),(1≤x1∧x1≤nv)→(1≤x2∧x2≤nv)→1≤x3→bB P w K mg base 4 nv C_Clock (dY x1 x2 x3 D) (fK C_Clock row x1 x2 x3 D) fun _=>True)
  (hd_move:KTD.datumAt ("move":Str) Dt=some (.ref f_move)) (fn_move:eH P w K mg base 7 f_move ["row","numbers","voices"] (j5 K C_Move)) (RO_move:∀(row:Str) (x1:Int) (D:List Int) (nv:Nat),(1≤x1∧x1≤nv)→bB P w K mg base 7 nv C_Move (fO x1 D) (gY C_Move row x1 D) fun _=>True)
  (hd_alike:KTD.datumAt ("alike":Str) Dt=some (.ref f_alike)) (fn_alike:eH P w K mg base 7 f_alike ["row","numbers","voices"] (iI K C_Alike)) (RO_alike:∀(row:Str) (x1 x2:Int) (D:List Int) (nv:Nat),(1≤x1∧x1≤nv)→(1≤x2∧x2≤nv)→bB P w K mg base 7 nv C_Alike (eK x1 x2 D) (fI C_Alike row x1 x2 D) fun _=>True)
  (hd_back:KTD.datumAt ("back":Str) Dt=some (.ref f_back)) (fn_back:eH P w K mg base 7 f_back ["row","numbers","voices"] (jZ K C_Back)) (RO_back:∀(row:Str) (x1 x2:Int) (nv:Nat),(1≤x1∧x1≤nv)→0≤x2→bB P w K mg base 7 nv C_Back (dq x1 x2) (fe C_Back row x1 x2) jG)
  (hd_held:KTD.datumAt ("held":Str) Dt=some (.ref f_held)) (fn_held:eH P w K mg base 7 f_held ["row","numbers","voices"] (j3 K C_Held)) (RO_held:∀(row:Str) (x1 x2:Int) (nv:Nat),(1≤x1∧x1≤nv)→1≤x2→bB P w K mg base 7 nv C_Held (eE x1 x2) (ff C_Held row x1 x2) (pA x2))
  (hd_times:KTD.datumAt ("times":Str) Dt=some (.ref f_times)) (fn_times:eH P w K mg base 7 f_times ["row","numbers","voices"] (iM K C_Times)) (RO_times:∀(row:Str) (x1 x2 x3 x4:Int) (nv:Nat),(1≤x1∧x1≤nv)→0≤x4→bB P w K mg base 7 nv C_Times (cY x1 x2 x3 x4) (c5 C_Times row x1 x2 x3 x4) (jH x4))
  (hd_begin:KTD.datumAt ("begin":Str) Dt=some (.ref f_begin)) (fn_begin:eH P w K mg base 7 f_begin ["row","numbers","voices"] (iJ K C_Begin)) (RO_begin:∀(row:Str) (x1:Int) (D:List Int) (nv:Nat),(1≤x1∧x1≤nv)→bB P w K mg base 7 nv C_Begin (dX x1 D) (fJ C_Begin row x1 D) fun _=>True)
  (hd_close:KTD.datumAt ("close":Str) Dt=some (.ref f_close)) (fn_close:eH P w K mg base 7 f_close ["row","numbers","voices"] (iL K C_Close)) (RO_close:∀(row:Str) (x1:Int) (D:List Int) (nv:Nat),(1≤x1∧x1≤nv)→bB P w K mg base 7 nv C_Close (eM x1 D) (fL C_Close row x1 D) fun _=>True)
  (nv:Nat) (R:ck) (hg:gd nv R) (hl:uV R):BI P w K mg base Dt nv R:=by
 cases R with
 | span o t D=>
  obtain⟨o0,o1,t0,t1⟩:=hg
  exact⟨f_span,C_Span,_,fun row=>gZ C_Span row (o+1) (t+1) D,hd_span,fn_span,fun row q H' Q' hq k=>⟨q,row,(o+1),(t+1),D,nv,rfl,aO.of hq,by omega,by omega,by omega,by omega,hl.1,hl.2,k⟩,fun row=>(RO_span row (o+1) (t+1) D nv ⟨by omega,by omega⟩ ⟨by omega,by omega⟩).up (by decide),fun _ row=>RO_span row (o+1) (t+1) D nv ⟨by omega,by omega⟩ ⟨by omega,by omega⟩,fun row=>wu (D:=D) hl.1⟩
 | clock o t h D=>
  obtain⟨o0,o1,t0,t1,h1⟩:=hg
  exact⟨f_clock,C_Clock,_,fun row=>fK C_Clock row (o+1) (t+1) h D,hd_clock,fn_clock,fun row q H' Q' hq k=>⟨q,row,(o+1),(t+1),h,D,nv,rfl,aO.of hq,by omega,by omega,by omega,by omega,h1,hl.1,hl.2,k⟩,fun row=>(RO_clock row (o+1) (t+1) h D nv ⟨by omega,by omega⟩ ⟨by omega,by omega⟩ h1).up (by decide),fun _ row=>RO_clock row (o+1) (t+1) h D nv ⟨by omega,by omega⟩ ⟨by omega,by omega⟩ h1,fun row=>um (D:=D) hl.1⟩
 | move o D=>
  obtain⟨o0,o1⟩:=hg
  exact⟨f_move,C_Move,_,fun row=>gY C_Move row (o+1) D,hd_move,fn_move,fun row q H' Q' hq k=>⟨q,row,(o+1),D,nv,rfl,aO.of hq,by omega,by omega,hl.1,hl.2,k⟩,fun row=>RO_move row (o+1) D nv ⟨by omega,by omega⟩,fun z=>z.elim,fun row=>wt (D:=D) hl.1⟩
 | alike o t D=>
  obtain⟨o0,o1,t0,t1⟩:=hg
  exact⟨f_alike,C_Alike,_,fun row=>fI C_Alike row (o+1) (t+1) D,hd_alike,fn_alike,fun row q H' Q' hq k=>⟨q,row,(o+1),(t+1),D,nv,rfl,aO.of hq,by omega,by omega,by omega,by omega,hl.1,hl.2,k⟩,fun row=>RO_alike row (o+1) (t+1) D nv ⟨by omega,by omega⟩ ⟨by omega,by omega⟩,fun z=>z.elim,fun row=>uj (D:=D) hl.1⟩
 | back o bP=>
  obtain⟨o0,o1,f0⟩:=hg
  exact⟨f_back,C_Back,_,fun row=>fe C_Back row (o+1) bP,hd_back,fn_back,fun row q H' Q' hq k=>⟨q,row,(o+1),bP,nv,rfl,aO.of hq,by omega,by omega,f0,k⟩,fun row=>RO_back row (o+1) bP nv ⟨by omega,by omega⟩ f0,fun z=>z.elim,fun row=>wo⟩
 | held o most=>
  obtain⟨o0,o1,f0⟩:=hg
  exact⟨f_held,C_Held,_,fun row=>ff C_Held row (o+1) most,hd_held,fn_held,fun row q H' Q' hq k=>⟨q,row,(o+1),most,nv,rfl,aO.of hq,by omega,by omega,f0,k⟩,fun row=>RO_held row (o+1) most nv ⟨by omega,by omega⟩ f0,fun z=>z.elim,fun row=>wq⟩
 | times o nt lw hgh=>
  obtain⟨o0,o1,f0⟩:=hg
  exact⟨f_times,C_Times,_,fun row=>c5 C_Times row (o+1) nt lw hgh,hd_times,fn_times,fun row q H' Q' hq k=>⟨q,row,(o+1),nt,lw,hgh,nv,rfl,aO.of hq,by omega,by omega,hl,f0,k⟩,fun row=>RO_times row (o+1) nt lw hgh nv ⟨by omega,by omega⟩ f0,fun z=>z.elim,fun row=>ur⟩
 | begin o D=>
  obtain⟨o0,o1⟩:=hg
  exact⟨f_begin,C_Begin,_,fun row=>fJ C_Begin row (o+1) D,hd_begin,fn_begin,fun row q H' Q' hq k=>⟨q,row,(o+1),D,nv,rfl,aO.of hq,by omega,by omega,hl.1,hl.2,k⟩,fun row=>RO_begin row (o+1) D nv ⟨by omega,by omega⟩,fun z=>z.elim,fun row=>uk (D:=D) hl.1⟩
 | close o D=>
  obtain⟨o0,o1⟩:=hg
  exact⟨f_close,C_Close,_,fun row=>fL C_Close row (o+1) D,hd_close,fn_close,fun row q H' Q' hq k=>⟨q,row,(o+1),D,nv,rfl,aO.of hq,by omega,by omega,hl.1,hl.2,k⟩,fun row=>RO_close row (o+1) D nv ⟨by omega,by omega⟩,fun z=>z.elim,fun row=>uo (D:=D) hl.1⟩
def cc:aR→Str
 | .plain R=>Txt.join (Str.ofString " ") (cE R::(c6 R).map bq)
 | .every m a R=>Txt.join (Str.ofString " ") (Str.ofString "every"::bq m::bq a::cE R::(c6 R).map bq)
theorem fM(R:ck):(cE R).length≤20∧32∉(cE R).cps.toList∧(cE R).cps.toList≠[]∧(cE R).cps.toList.head?≠some 101:=by
 cases R with
 | span _ _ _=>exact show(Str.ofString "span").length≤20∧32∉(Str.ofString "span").cps.toList∧(Str.ofString "span").cps.toList≠[]∧(Str.ofString "span").cps.toList.head?≠some 101 from⟨by decide +kernel,by decide +kernel,by decide +kernel,by decide +kernel⟩
 | clock _ _ _ _=>exact show(Str.ofString "clock").length≤20∧32∉(Str.ofString "clock").cps.toList∧(Str.ofString "clock").cps.toList≠[]∧(Str.ofString "clock").cps.toList.head?≠some 101 from⟨by decide +kernel,by decide +kernel,by decide +kernel,by decide +kernel⟩
 | move _ _=>exact show(Str.ofString "move").length≤20∧32∉(Str.ofString "move").cps.toList∧(Str.ofString "move").cps.toList≠[]∧(Str.ofString "move").cps.toList.head?≠some 101 from⟨by decide +kernel,by decide +kernel,by decide +kernel,by decide +kernel⟩
 | alike _ _ _=>exact show(Str.ofString "alike").length≤20∧32∉(Str.ofString "alike").cps.toList∧(Str.ofString "alike").cps.toList≠[]∧(Str.ofString "alike").cps.toList.head?≠some 101 from⟨by decide +kernel,by decide +kernel,by decide +kernel,by decide +kernel⟩
 | back _ _=>exact show(Str.ofString "back").length≤20∧32∉(Str.ofString "back").cps.toList∧(Str.ofString "back").cps.toList≠[]∧(Str.ofString "back").cps.toList.head?≠some 101 from⟨by decide +kernel,by decide +kernel,by decide +kernel,by decide +kernel⟩
 | held _ _=>exact show(Str.ofString "held").length≤20∧32∉(Str.ofString "held").cps.toList∧(Str.ofString "held").cps.toList≠[]∧(Str.ofString "held").cps.toList.head?≠some 101 from⟨by decide +kernel,by decide +kernel,by decide +kernel,by decide +kernel⟩
 | times _ _ _ _=>exact show(Str.ofString "times").length≤20∧32∉(Str.ofString "times").cps.toList∧(Str.ofString "times").cps.toList≠[]∧(Str.ofString "times").cps.toList.head?≠some 101 from⟨by decide +kernel,by decide +kernel,by decide +kernel,by decide +kernel⟩
 | begin _ _=>exact show(Str.ofString "begin").length≤20∧32∉(Str.ofString "begin").cps.toList∧(Str.ofString "begin").cps.toList≠[]∧(Str.ofString "begin").cps.toList.head?≠some 101 from⟨by decide +kernel,by decide +kernel,by decide +kernel,by decide +kernel⟩
 | close _ _=>exact show(Str.ofString "close").length≤20∧32∉(Str.ofString "close").cps.toList∧(Str.ofString "close").cps.toList≠[]∧(Str.ofString "close").cps.toList.head?≠some 101 from⟨by decide +kernel,by decide +kernel,by decide +kernel,by decide +kernel⟩
theorem ml{R:ck}(h:Ay R):fg (Txt.join (Str.ofString " ") (cE R::(c6 R).map bq)) (cE R) (c6 R):=yn h.1 (jM h) (fM R).2.1 (fM R).1 (fM R).2.2.1
theorem zV{R:ck}{m a:Int}(h:Ay R)(hm:m.natAbs < 10 ^ 40)(ha:a.natAbs < 10 ^ 40):mE (cc (.every m a R)) (Txt.join (Str.ofString " ") (cE R::(c6 R).map bq)) m a:=by
 have e32:(Str.ofString " ")=⟨#[32]⟩:=by decide +kernel
 refine⟨?_,hm,ha,(ml h).len⟩
 show(Txt.join (Str.ofString " ") (Str.ofString "every"::bq m::bq a::cE R::(c6 R).map bq)).cps.toList=_
 rw [e32,cT,cT]
 simp only [List.map_cons]
 rw [kB,kB,kB]
 rfl
def gh(P:Program)(w:World)(K:PySem.W.Frag)(mg:Str→Option Value)(base:Heap):Sp:=fun vs H Q _=>∃(z:Int) (R:aR) (nv:Nat),vs=[.str (cc R),.int nv,.int z]∧c9 nv R∧rQ R∧∀(r:Addr) H',fh P w K mg base nv R r H'→ax H H'→Q (.ref r) H'
theorem vY{f CE:Addr}{fd:FuncData}{Dt:List (Str×V)}(F:aP P w K mg base bY 10 f fd ["text","voices","row"] (yq P w K mg base aM 7))(G:aP P w K mg base bY 10 f fd ["text","voices","row"] (u6 P w K mg base aM CE 7))(tab:kr K aM Dt)(MD:∀(nv:Nat) (R:ck),gd nv R→uV R→BI P w K mg base Dt nv R)
  (RO:∀(row:Str) (t u:Int) (nv:Nat) (Cn:Addr) (S:d4) (RIn:km) (G:Int→Prop),0 < t→bB P w K mg base 4 nv Cn S RIn G→bB P w K mg base 7 nv CE (eP t u S) (eA CE row t u RIn) (mU t)) :
  aP P w K mg base bY 10 f fd ["text","voices","row"] (gh P w K mg base):=by
 refine(y8 F G).imp fun vs H Q E h=>?_
 obtain⟨z,R,nv,rfl,hg,ho,q⟩:=h
 cases R with
 | plain R=>
  obtain⟨f,C,sp,RI,hd,fn,mk,ro,_,sb⟩:=MD nv R hg ho.2
  refine .inl ⟨_,cE R,c6 R,nv,z,Dt,f,sp,fun v H'=>∃r,v=.ref r∧ax H H'∧RI (cc (.plain R)) r H',rfl,ml ho,(fM R).2.2.2,tab,hd,fn,fun q H' Q' s hq k=>mk _ q H' Q' hq fun r H'' s' hr=>k _ _ ⟨r,rfl,s.trans s',hr⟩,?_⟩
  rintro v H' ⟨r,rfl,s,hr⟩
  exact⟨fun z=>(by cases z),q r H' ⟨C,RI (cc (.plain R)),ro _,sb _,hr⟩ s⟩
 | every m a R=>
  obtain⟨hg,hin,m1,a0,a1⟩:=hg
  obtain⟨ho,hm,ha⟩:=ho
  obtain⟨f,C,sp,RI,hd,fn,mk,_,ro,sb⟩:=MD nv R hg ho.2
  have hk:cE R=Str.ofString "span"∨cE R=Str.ofString "clock":=by
   cases R with
   | span o t D=>exact .inl rfl
   | clock o t h D=>exact .inr rfl
   | _=>exact hin.elim
  have re:=zV ho hm ha
  have r4:=ro hin (Txt.join (Str.ofString " ") (cE R::(c6 R).map bq))
  refine .inr ⟨_,nv,z,rfl,⟨_,_,_,re⟩,_,_,cE R,m,a,c6 R,nv,Dt,f,sp,RI (Txt.join (Str.ofString " ") (cE R::(c6 R).map bq)),rfl,re,ml ho,hk,a0,a1,tab,hd,fn,fun q H' Q' s hq k=>mk _ q H' Q' hq fun r H'' s' hr=>k _ _ (s.trans s') hr,r4.mono,fun r H' s hr=>⟨fun z=>(by cases z),q r H' ⟨CE,_,RO _ m a nv C _ _ _ (by omega) r4,uq (sb _),hr⟩ s⟩⟩
end
theorem lK{c:Nat}(hc:c < 256){ws:List Str}(h:ws≠[])(hn:∀z∈ws,c∉z.cps.toList):Txt.split (Txt.join ⟨#[c]⟩ ws) ⟨#[c]⟩=ws:=by
 refine eC ?_
 rw [iA _ hc,cT,nN c _ (by simpa using h) (fun p hp=>?_)]
 obtain⟨z,hz,rfl⟩:=List.mem_map.mp hp
 exact hn z hz
def qT(K:PySem.W.Frag):Sp:=fun vs H Q _=>∃row:Str,vs=[.str row]∧row.length≤10000∧((∃lo hi:Int,fg row (Str.ofString "voice") [lo,hi]∧lo≤hi∧∀p H',H' p=some (.tup [.int lo,.int hi])→ax H H'→Q (.ref p) H')∨∃w0 ws,Txt.split row ⟨#[32]⟩=w0::ws∧w0≠Str.ofString "voice"∧∀H',ax H H'→Q .non H')
def qQ(P:Program)(w:World)(K:PySem.W.Frag)(mg:Str→Option Value)(base:Heap)(C:Addr):Sp:=fun vs H Q _=>∃(text:Str) (bs:List (Int×Int)) (vr:Int×Int→Str) (Rs:List aR),vs=[.str text]∧text.length≤1000000∧Txt.split text ⟨#[10]⟩=bs.map vr++Rs.map cc∧1≤bs.length∧bs.length≤4∧Rs.length≤12∧
 (∀b∈bs,fg (vr b) (Str.ofString "voice") [b.1,b.2]∧b.1≤b.2∧(dD b).natAbs < 2 ^ 60)∧(∀R∈Rs,c9 bs.length R∧rQ R∧(ke R).natAbs < 2 ^ 60)∧kj bs Rs≤400∧∀x H',dP P w K mg base C bs.length bs Rs x H'→ax H H'→Q (.ref x) H'
theorem gM(R:aR)(h:rQ R):(cc R).length≤10000∧∃w0 ws,Txt.split (cc R) ⟨#[32]⟩=w0::ws∧w0≠Str.ofString "voice":=by
 cases R with
 | plain R=>
  have hr:=ml h
  refine⟨hr.len,cE R,(c6 R).map bq,hr.split,?_⟩
  cases R with
  | span _ _ _=>exact show Str.ofString "span"≠Str.ofString "voice" by decide +kernel
  | clock _ _ _ _=>exact show Str.ofString "clock"≠Str.ofString "voice" by decide +kernel
  | move _ _=>exact show Str.ofString "move"≠Str.ofString "voice" by decide +kernel
  | alike _ _ _=>exact show Str.ofString "alike"≠Str.ofString "voice" by decide +kernel
  | back _ _=>exact show Str.ofString "back"≠Str.ofString "voice" by decide +kernel
  | held _ _=>exact show Str.ofString "held"≠Str.ofString "voice" by decide +kernel
  | times _ _ _ _=>exact show Str.ofString "times"≠Str.ofString "voice" by decide +kernel
  | begin _ _=>exact show Str.ofString "begin"≠Str.ofString "voice" by decide +kernel
  | close _ _=>exact show Str.ofString "close"≠Str.ofString "voice" by decide +kernel
 | every m a R=>
  obtain⟨h,hm,ha⟩:=h
  have e32:(Str.ofString " ")=⟨#[32]⟩:=by decide +kernel
  have nn:∀n:Int,32∉(bq n).cps.toList:=fun n=>mf n
  have hw:∀z∈(Str.ofString "every"::bq m::bq a::cE R::(c6 R).map bq),32∉z.cps.toList:=fun z hz=>by
   rcases List.mem_cons.mp hz with rfl | hz
   ·decide +kernel
   rcases List.mem_cons.mp hz with rfl | hz
   ·exact nn m
   rcases List.mem_cons.mp hz with rfl | hz
   ·exact nn a
   rcases List.mem_cons.mp hz with rfl | hz
   ·exact(fM R).2.1
   ·obtain⟨n,_,rfl⟩:=List.mem_map.mp hz
    exact nn n
  refine⟨?_,Str.ofString "every",bq m::bq a::cE R::(c6 R).map bq,?_,by decide +kernel⟩
  ·show(Txt.join (Str.ofString " ") (Str.ofString "every"::bq m::bq a::cE R::(c6 R).map bq)).length≤10000
   rw [bg,e32,cT]
   have hl:=iD 32 ((Str.ofString "every"::bq m::bq a::cE R::(c6 R).map bq).map fun z=>z.cps.toList) 60 (fun p hp=>by
    obtain⟨z,hz,rfl⟩:=List.mem_map.mp hp
    rw [←bg]
    rcases List.mem_cons.mp hz with rfl | hz
    ·decide +kernel
    rcases List.mem_cons.mp hz with rfl | hz
    ·have:=da hm;omega
    rcases List.mem_cons.mp hz with rfl | hz
    ·have:=da ha;omega
    rcases List.mem_cons.mp hz with rfl | hz
    ·have:=(fM R).1;omega
    ·obtain⟨n,hn,rfl⟩:=List.mem_map.mp hz
     have:=da (h.1 n hn);omega)
   have:=jM h
   simp only [List.length_map,List.length_cons]at hl
   omega
  ·show Txt.split (Txt.join (Str.ofString " ") (Str.ofString "every"::bq m::bq a::cE R::(c6 R).map bq)) ⟨#[32]⟩=_
   rw [e32]
   exact lK (by decide) (by simp) hw
section
variable {P:Program} {w:World} {K:PySem.W.Frag} {mg:Str→Option Value} {base:Heap} {aM:Addr}
theorem m9{f:Addr}{fd:FuncData}(F:cH K "voice_range" "voice_range" f6 f fd)(T:Txt mg aM)(D_is_number:bZ P w K mg base "is_number" 1 ["word"] pK):aP P w K mg base bY 2 f fd ["row"] (qT K):=by
 refine F.ok sc_voice_range (fun vs H Q E h=>?_) (fun cdv A outer s H vs Q E hr h=>?_)
 ·obtain⟨row,rfl,_⟩:=h
  rfl
 obtain⟨row,rfl,hl,h⟩:=h
 refine⟨_,(af (aJ (i:=1) sc_voice_range.nd rfl (Or.inl rfl) (cz K PySem.F.plainAttrs_str PySem.F.slot_str_split PySem.F.type_str_split g9 (pr 0) (aa aZ ag)))
 (af (aV (PW.pt (cf (aX (az yP (aH (aQ K) (by rfl) T.n_len boot_len (aa (pr 1) ag)) ae (aA _))) (cf (aX (az yP (aC (aL K) (pr 1) ae (fun _ _=>rfl)) aZ (aA _))) (bW (b0 (aY (aH (iB K rfl) (by rfl) T.n_all boot_all (aa (dE (own:=["word"]) (js:=[]) rfl (b6 K (aS (dc K) (pr 1) (c4 ae) bz)) (bS.of (by rfl)) (fun _ _ _ _ _=>(aN (i:=0) (show List.Nodup (["word"]:List Str)from by decide +kernel) rfl (Or.inl rfl))) (fun _ _ _ _ _=>dm) (fun _ _ _ _ _=>(aE D_is_number hr (by rfl) (aa (pr 0) ag)))) ag)) (fun _=>rfl))))))) (ah (ar bc)) aG)
 (af (aJ (i:=2) sc_voice_range.nd rfl (Or.inl rfl) (kK (aa (bF (gb) (by rfl) T.n_int boot_int (aa (aC (aL K) (pr 1) ae (fun _ _=>rfl)) ag)) (aa (bF (gb) (by rfl) T.n_int boot_int (aa (aC (aL K) (pr 1) ae (fun _ _=>rfl)) ag)) ag))))
 (ah (ar (cG (aX (az (o0 gR) (aC (aL K) (pr 2) ae (fun _ _=>rfl)) (aC (aL K) (pr 2) ae (fun _ _=>rfl)) (aA _))) (pr 2) bc)))))),?_⟩
 have hs:sizeLine=16777216:=sizeLine_eq
 refine bo (fun σ H'=>∃p:Addr,H' p=some (.lst ((Txt.split row ⟨#[32]⟩).map V.str))∧σ=[some (.str row),some (.ref p),none]∧ax H H') ?_ ?_
 rotate_left
 ·intro u' hu
  walk_at "rd"
  exact⟨32,by decide +kernel,by decide,by omega,fun p hp=>hu _ _ ⟨p,ab,rfl,au hp⟩⟩
 rintro _ H1 ⟨p,hp1,rfl,s1⟩
 rcases h with⟨lo,hi,RI,hle,q⟩ | ⟨w0,ws,hsp,hw0,q⟩
 ·rw [RI.split]at hp1
  have b1:=RI.nb lo (by simp)
  have b2:=RI.nb hi (by simp)
  have nlen:∀n:Int,n.natAbs < 10 ^ 40→(bq n).length≤41:=fun n h=>da h
  refine bo (fun σ H'=>σ=[some (.str row),some (.ref p),none]∧ax H1 H') ?_ ?_
  rotate_left
  ·intro u' hu
   walk_at "rd"
   refine⟨_,.inl (aO.of hp1),?_⟩
   rw [if_pos (by simp)]
   refine aT (aO.of hp1) (bD rfl) ?_
   walk_at "rd"
   refine bM (aO.of hp1) fun q2 hq2=>?_
   rw [show(some (1:Int))=some ((1:Nat):Int)from rfl,bQ]
   show ye _ _ _ _
   have s2:ax H1 (upd H1 q2 (.lst (([lo,hi].map bq).map V.str))):=au hq2
   refine cg (xs:=([lo,hi].map bq).map V.str) (aO.of ab) (cu (xs:=([lo,hi].map bq).map V.str) (fun i ys H'=>ys=(List.replicate i true).map V.bl∧ax (upd H1 q2 (.lst (([lo,hi].map bq).map V.str))) H') (by simp;omega) ⟨rfl,ax.refl _⟩ ?_ ?_ ?_ ?_)
   ·rintro i ys H' ⟨rfl,sm⟩
    simp
   ·rintro i ys H' ⟨rfl,sm⟩
    exact sm.seq (aO.of ab)
   ·rintro i x ys H' hx ⟨rfl,sm⟩
    obtain⟨n,hn,rfl⟩:∃n∈[lo,hi],x=.str (bq n):=by
     have:=List.mem_of_getElem? hx
     simp only [List.map_map,List.mem_map,Function.comp_apply]at this
     obtain⟨n,hn,e⟩:=this
     exact⟨n,hn,e.symm⟩
    walk_at "rd"
    refine⟨bq n,rfl,?_,fun H1 s1=>⟨?_,sm.trans s1⟩⟩
    ·have:=nlen n (RI.nb n hn)
     omega
    ·show _=(List.replicate (i+1) true).map V.bl
     rw [show(bq n).cps.toList=gq n from rfl,kA (RI.nb n hn),List.replicate_succ',List.map_append]
     rfl
   rintro ys H2 ⟨rfl,sm⟩ p1 hp1'
   refine⟨_,aO.of ab,?_⟩
   rw [show(List.replicate (([lo,hi].map bq).map V.str).length true).all id=true by simp]
   walk_at "rd"
   exact hu _ _ ⟨rfl,(s2.trans sm).upd hp1'⟩
  rintro _ H2 ⟨rfl,s12⟩
  have hp2:=s12 _ _ hp1
  refine bo (fun σ H'=>∃t:Addr,H' t=some (.tup [.int lo,.int hi])∧σ=[some (.str row),some (.ref p),some (.ref t)]∧ax H2 H') ?_ ?_
  rotate_left
  ·intro u' hu
   walk_at "rd"
   refine aT (aO.of hp2) (show dz _ ((1:Nat):Int)=_ from aK rfl) ?_
   walk_at "rd"
   refine⟨lo,l7 (Nat.lt_of_lt_of_le b1 (Nat.pow_le_pow_right (by decide) (by decide))),by have:=nlen lo b1;omega,aT (aO.of hp2) (show dz _ ((2:Nat):Int)=_ from aK rfl) ?_⟩
   walk_at "rd"
   exact⟨hi,l7 (Nat.lt_of_lt_of_le b2 (Nat.pow_le_pow_right (by decide) (by decide))),by have:=nlen hi b2;omega,by omega,fun t ht=>hu _ _ ⟨t,ab,rfl,au ht⟩⟩
  rintro _ H3 ⟨t,ht,rfl,s23⟩
  walk_at "rd"
  refine dB (cR.of ht) (bD rfl) (dB (cR.of ht) (show dz _ ((1:Nat):Int)=_ from aK rfl) ?_)
  walk_at "rd"
  rw [if_pos hle]
  exact q t _ ht ((s1.trans s12).trans s23)
 ·rw [hsp]at hp1
  walk_at "rd"
  refine⟨_,.inl (aO.of hp1),?_⟩
  by_cases h3:(((w0::ws).map V.str).length:Int)=3
  ·rw [if_pos h3]
   refine aT (aO.of hp1) (bD rfl) ?_
   walk_at "rd"
   rw [if_neg hw0]
   exact q _ s1
  ·rw [if_neg h3]
   exact q _ s1
end
section
variable {P:Program} {w:World} {K:PySem.W.Frag} {mg:Str→Option Value} {base:Heap} {aM:Addr}
theorem zu{f C:Addr}{fd:FuncData}(F:cH K "read" "read" tZ f fd)(T:Txt mg aM)(TC:eG K C)(D_voice_range:bZ P w K mg base "voice_range" 10 ["row"] (qT K))(D_read_rule:bZ P w K mg base "read_rule" 10 ["text","voices","row"] (gh P w K mg base))(DM_Score:dZ P w K mg base "Score" C 9 ["self","ranges","rules"] (fP K C))(D_not_too_wide:bZ P w K mg base "not_too_wide" 10 ["score"] (lh P w K mg base)):aP P w K mg base bY 11 f fd ["text"] (qQ P w K mg base C):=by
 refine F.ok sc_read (fun vs H Q E h=>?_) (fun cdv A outer s H vs Q E hr h=>?_)
 ·obtain⟨text,bs,vr,Rs,rfl,_⟩:=h
  rfl
 obtain⟨text,bs,vr,Rs,rfl,htl,hsp,nv1,nv4,rl,hb,hR,hwt,q⟩:=h
 refine⟨_,(af (aJ (i:=1) sc_read.nd rfl (Or.inl rfl) (b9 ag))
 (af (aJ (i:=2) sc_read.nd rfl (Or.inl rfl) (b9 ag))
 (af (cI PassesOwn.never rfl (h7 rfl T.n_enumerate (aa (cz K PySem.F.plainAttrs_str PySem.F.slot_str_split PySem.F.type_str_split g9 (pr 0) (aa aZ ag)) ag)) (c7 K (n:=2) rfl (br (aN (i:=3) sc_read.nd rfl (Or.inl rfl)) (br (aN (i:=4) sc_read.nd rfl (Or.inl rfl)) c8)))
 (af (aJ (i:=5) sc_read.nd rfl (Or.inl rfl) (aE D_voice_range hr (by rfl) (aa (pr 4) ag)))
 (ah (aV (PW.pt (fA (aX (az mh (pr 5) bc (aA _))) (fA (aX (az (o0 kH) (aH (aQ K) (by rfl) T.n_len boot_len (aa (pr 1) ag)) (hZ T.g_MOST_VOICES) (aA _))) (eD (aX (az gr (aH (aQ K) (by rfl) T.n_len boot_len (aa (pr 2) ag)) ae (aA _))))))) (ah (cw (cz K PySem.F.plainAttrs_list PySem.F.slot_list_append PySem.F.type_list_append fb (pr 1) (aa (pr 5) ag)))) (ah (aV (PW.pt (cf (aX (az gr (aH (aQ K) (by rfl) T.n_len boot_len (aa (pr 1) ag)) ae (aA _))) (bW (aX (az gr (aH (aQ K) (by rfl) T.n_len boot_len (aa (pr 2) ag)) (hZ T.g_MOST_RULES) (aA _)))))) (ah jO) (ah (cw (cz K PySem.F.plainAttrs_list PySem.F.slot_list_append PySem.F.type_list_append fb (pr 2) (aa (aE D_read_rule hr (by rfl) (aa (pr 4) (aa (aH (aQ K) (by rfl) T.n_len boot_len (aa (pr 1) ag)) (aa (pr 3) ag)))) ag))))))))))
 (ah (ar (aE D_not_too_wide hr (by rfl) (aa (gT DM_Score hr (by rfl) (aa (pr 1) (aa (pr 2) ag))) ag))))))),?_⟩
 have hs:sizeLine=16777216:=sizeLine_eq
 refine bo (fun σ H'=>∃ra:Addr,H ra=none∧H' ra=some (.lst (([]:List Addr).map V.ref))∧σ=[some (.str text),some (.ref ra),none,none,none,none]∧ax H H') ?_ ?_
 rotate_left
 ·intro u' hu
  walk_at "rd"
  exact⟨by omega,fun p hp=>hu _ _ ⟨p,hp,ab,rfl,au hp⟩⟩
 rintro _ H1 ⟨ra,hra,hra1,rfl,s1⟩
 refine bo (fun σ H'=>∃ru:Addr,H ru=none∧ru≠ra∧H' ru=some (.lst (([]:List Addr).map V.ref))∧H' ra=some (.lst (([]:List Addr).map V.ref))∧σ=[some (.str text),some (.ref ra),some (.ref ru),none,none,none]∧ax H H') ?_ ?_
 rotate_left
 ·intro u' hu
  walk_at "rd"
  exact⟨by omega,fun p hp=>hu _ _ ⟨p,s1.free hp,(ay hra1 hp).symm,ab,(au hp) _ _ hra1,rfl,s1.upd hp⟩⟩
 clear hra1 s1
 rintro _ H2 ⟨ru,hru,rra,hru2,hra2,rfl,s2⟩
 refine bo (fun σ H'=>∃(ts rs:List Addr) (o3 o4 o5:Option V),σ=[some (.str text),some (.ref ra),some (.ref ru),o3,o4,o5]∧ts.length=bs.length∧rs.length=Rs.length∧H' ra=some (.lst (ts.map V.ref))∧H' ru=some (.lst (rs.map V.ref))∧(∀(j:Nat) (t:Addr) (b:Int×Int),ts[j]?=some t→bs[j]?=some b→H' t=some (.tup [.int b.1,.int b.2]))∧(∀(j:Nat) (r:Addr) (R:aR),rs[j]?=some r→Rs[j]?=some R→fh P w K mg base bs.length R r H')∧ax H H') ?_ ?_
 rotate_left
 ·intro u' hu
  walk_at "rd"
  refine⟨10,by decide +kernel,by decide,by omega,fun sp hsp0=>?_⟩
  rw [hsp]
  have s3:ax H2 (upd H2 sp (.lst ((bs.map vr++Rs.map cc).map V.str))):=au hsp0
  have nsa:sp≠ra:=(ay hra2 hsp0).symm
  have nsu:sp≠ru:=(ay hru2 hsp0).symm
  obtain⟨Pv,hPv⟩:∃Pv:Nat→L2.St→Hp→Prop,Pv=fun i σ H'=>∃(ts rs:List Addr) (o3 o4 o5:Option V),σ=[some (.str text),some (.ref ra),some (.ref ru),o3,o4,o5]∧ts.length=min i bs.length∧rs.length=i - bs.length∧H' ra=some (.lst (ts.map V.ref))∧H' ru=some (.lst (rs.map V.ref))∧H' sp=some (.lst ((bs.map vr++Rs.map cc).map V.str))∧(∀(j:Nat) (t:Addr) (b:Int×Int),ts[j]?=some t→bs[j]?=some b→H' t=some (.tup [.int b.1,.int b.2]))∧(∀(j:Nat) (r:Addr) (R:aR),rs[j]?=some r→Rs[j]?=some R→fh P w K mg base bs.length R r H')∧ax H H':=⟨_,rfl⟩
  refine⟨true,⟨_,aO.of ab⟩,iV (l:=true) (us:=(bs.map vr++Rs.map cc).map V.str) Pv
   (by rw [hPv];exact⟨[],[],none,none,none,rfl,by simp,by simp,s3 _ _ hra2,s3 _ _ hru2,ab,fun j t b e=>(by cases e),fun j r R e=>(by cases e),s2.trans s3⟩) (fun i σ H' _ h=>by rw [hPv]at h;obtain⟨_,_,_,_,_,_,_,_,_,_,h,_⟩:=h;exact aO.of h) ?_ ?_⟩
  ·rintro i y σ H4 p hx hI hp0
   have hI':=hI
   rw [hPv]at hI'
   clear hI
   obtain⟨ts,rs,o3,o4,o5,rfl,tl,rsl,ha4,hu4,hs4,ht4,hr4,s4⟩:=hI'
   have hi:i < bs.length+Rs.length:=by have:=(List.getElem?_eq_some_iff.mp hx).1;simpa using this
   rw [List.getElem?_map]at hx
   have sp5:ax H4 (upd H4 p (.tup [.int i,y])):=au hp0
   have hp5:(upd H4 p (.tup [.int i,y])) p=some (.tup [.int i,y]):=ab
   by_cases hv:i < bs.length
   ·-- a voice's row
    have eb:bs[i]?=some bs[i]:=List.getElem?_eq_getElem hv
    obtain⟨hrow,hle,_⟩:=hb _ (List.getElem_mem hv)
    rw [List.getElem?_append_left (by simpa using hv),List.getElem?_map,eb]at hx
    cases hx
    walk_at "rd"
    refine⟨_,cR.of hp5,rfl,?_⟩
    walk_at "rd"
    generalize upd H4 p (.tup [.int i,.str (vr bs[i])])=H5 at sp5 hp5
    refine⟨vr bs[i],rfl,hrow.len,.inl ⟨_,_,hrow,hle,fun t H6 ht6 s56=>?_⟩⟩
    have s46:=sp5.trans s56
    walk_at "rd"
    refine⟨_,.inl (aO.of (s46 _ _ ha4)),?_⟩
    rw [if_pos (by rw [List.length_map];omega)]
    refine⟨_,.inl (aO.of (s46 _ _ hu4)),?_⟩
    rw [if_pos (by rw [List.length_map];omega)]
    have ha6:=s46 _ _ ha4
    refine⟨.inl ⟨rfl,_,aO.of ha6⟩,ra,_,_,rfl,rfl,ha6,by rw [List.length_map];omega,?_⟩
    have rs0:rs=[]:=List.length_eq_zero_iff.mp (by omega)
    subst rs0
    rw [hPv]
    refine⟨ts++[t],[],_,_,_,rfl,by simp;omega,by simp;omega,by rw [ab,List.map_append];rfl,by rw [aj rra];exact s46 _ _ hu4,by rw [aj nsa];exact s46 _ _ hs4,fun j t' b' e1 e2=>?_,fun j r R e=>(by cases e),fun c u hc=>?_⟩
    ·by_cases hj:j < ts.length
     ·rw [List.getElem?_append_left hj]at e1
      have:=s46 _ _ (ht4 j t' b' e1 e2)
      rw [aj (dM this ha6 (fun e=>by cases e))]
      exact this
     ·rw [List.getElem?_append_right (by omega)]at e1
      have ej:j=ts.length:=by
       have:=(List.getElem?_eq_some_iff.mp e1).1
       simp at this
       omega
      rw [ej,Nat.sub_self]at e1
      cases e1
      rw [show j=i by omega,eb]at e2
      cases e2
      rw [aj (dM ht6 ha6 (fun e=>by cases e))]
      exact ht6
    ·rw [aj (ay hc hra)]
     exact(s4.trans s46) _ _ hc
   ·-- a rule's row
    have hk:i - bs.length < Rs.length:=by omega
    have eR:Rs[i - bs.length]?=some (Rs[i - bs.length]'hk):=List.getElem?_eq_getElem hk
    obtain⟨hgd,hok,_⟩:=hR _ (List.getElem_mem hk)
    obtain⟨hlen,w0,ws,hsw,hw0⟩:=gM _ hok
    rw [List.getElem?_append_right (by simpa using hv),List.length_map,List.getElem?_map,eR]at hx
    cases hx
    walk_at "rd"
    refine⟨_,cR.of hp5,rfl,?_⟩
    walk_at "rd"
    generalize upd H4 p (.tup [.int i,.str (cc (Rs[i - bs.length]'hk))])=H5 at sp5 hp5
    refine⟨_,rfl,hlen,.inr ⟨w0,ws,hsw,hw0,fun H6 s56=>?_⟩⟩
    have s46:=sp5.trans s56
    walk_at "rd"
    refine⟨_,.inl (aO.of (s46 _ _ ha4)),?_⟩
    rw [if_neg (by rw [List.length_map];omega)]
    refine⟨_,.inl (aO.of (s46 _ _ hu4)),?_⟩
    rw [if_neg (by rw [List.length_map];omega)]
    refine⟨.inl ⟨rfl,_,aO.of (s46 _ _ hu4)⟩,_,.inl (aO.of (s46 _ _ ha4)),?_⟩
    rw [List.length_map,show ts.length=bs.length by omega]
    refine⟨i,_,bs.length,rfl,hgd,hok,fun r H7 hr7 s67=>?_⟩
    have s47:=s46.trans s67
    have hu7:=s47 _ _ hu4
    refine⟨ru,_,_,rfl,rfl,hu7,by rw [List.length_map];omega,?_⟩
    rw [hPv]
    refine⟨ts,rs++[r],_,_,_,rfl,by omega,by simp;omega,by rw [aj rra.symm];exact s47 _ _ ha4,by rw [ab,List.map_append];rfl,by rw [aj nsu];exact s47 _ _ hs4,fun j t' b' e1 e2=>?_,fun j r' R' e1 e2=>?_,fun c u hc=>?_⟩
    ·have:=s47 _ _ (ht4 j t' b' e1 e2)
     rw [aj (dM this hu7 (fun e=>by cases e))]
     exact this
    ·by_cases hj:j < rs.length
     ·rw [List.getElem?_append_left hj]at e1
      exact((hr4 j r' R' e1 e2).same s47).stab hu7
     ·rw [List.getElem?_append_right (by omega)]at e1
      have ej:j=rs.length:=by
       have:=(List.getElem?_eq_some_iff.mp e1).1
       simp at this
       omega
      rw [ej,Nat.sub_self]at e1
      cases e1
      rw [show j=i - bs.length by omega,eR]at e2
      cases e2
      exact hr7.stab hu7
    ·rw [aj (ay hc hru)]
     exact(s4.trans s47) _ _ hc
  ·intro σ H4 hI
   rw [hPv]at hI
   obtain⟨ts,rs,o3,o4,o5,rfl,tl,rsl,ha4,hu4,hs4,ht4,hr4,s4⟩:=hI
   rw [List.length_map,List.length_append,List.length_map,List.length_map]at tl rsl
   exact hu _ _ ⟨ts,rs,o3,o4,o5,rfl,by omega,by omega,ha4,hu4,ht4,hr4,s4⟩
 clear hra2 hru2 s2
 clear H2
 rintro _ H2 ⟨ts,rs,o3,o4,o5,rfl,tl,rsl,ha2,hu2,ht2,hr2,s2⟩
 walk_at "rd"
 intro x dx hx hdx dxx
 have s3:ax H2 (upd (upd H2 dx (.own x)) x (.ins C dx [])):=(au hdx).upd (by rw [aj dxx.symm];exact hx)
 refine⟨x,dx,ra,ru,ts.map V.ref,rs.map V.ref,rfl,ab,s3.seq (aO.of ha2),s3.seq (aO.of hu2),fun p q' H' hp hq hqp e=>⟨rfl,?_⟩⟩
 have px:p≠x:=fun e=>by subst e;rw [ab]at hp;cases hp
 have qx:q'≠x:=fun e=>by subst e;rw [ab]at hq;cases hq
 have s4:ax H2 H':=fun c u hc=>by
  have h3:=s3 _ _ hc
  have cx:c≠x:=ay hc hx
  rw [e,aj cx,aj (ay h3 hq),aj (ay h3 hp)]
  exact h3
 have SA:dP P w K mg base C bs.length bs Rs x H':=⟨dx,p,q',by rw [e,ab],⟨ts,aO.of (by rw [e,aj px,aj hqp.symm,ab]),tl,fun i t b e1 e2=>cR.of (s4 _ _ (ht2 i t b e1 e2))⟩,⟨rs,aO.of (by rw [e,aj qx,ab]),rsl,fun j r R e1 e2=>(hr2 j r R e1 e2).same s4⟩⟩
 exact⟨x,C,bs.length,bs,Rs,rfl,TC,SA,fun b hb'=>(hb b hb').2.2,fun R hR'=>(hR R hR').2.2,hwt,q x H' SA (s2.trans s4)⟩
end
def lQ(bs:List (Int×Int))(cols:List (List Int))(v i:Nat):Bool:=let n:=aF (cols.getD i []) ((v:Int)+1);let b:=bs.getD v (0,0);!(decide (b.1≤n) && decide (n≤b.2))
def iZ(bs:List (Int×Int))(cols:List (List Int))(v:Nat):Option Nat:=ba (lQ bs cols v) 0 cols.length
def gu(cols:List (List Int))(R:aR):Option Nat:=gO (gg R) (gg R).start none 0 cols
def pC:Option Nat→V
 | none=>.non
 | some n=>.int n
theorem zo(o:Option Nat):pC o=zm (o.map fun(n:Nat)=>(n:Int)):=by cases o<;>rfl
def places(bs:List (Int×Int))(Rs:List aR)(cols:List (List Int)):List (Option Nat):=(List.range bs.length).map (iZ bs cols)++Rs.map (gu cols)
def bL:Nat→List (Option Nat)→List (Int×Int)
 | _,[]=>[]
 | i,none::l=>bL (i+1) l
 | i,some p::l=>((p:Int),(i:Int))::bL (i+1) l
def lj(K:PySem.W.Frag):Sp:=fun vs H Q _=>∃(l:Addr) (lo hi:Int) (v nv:Nat) (cols:List (List Int)),vs=[.int lo,.int hi,.int v,.ref l]∧cZ K H l nv cols∧v < nv∧∀H',ax H H'→Q (pC (ba (fun i=>!(decide (lo≤aF (cols.getD i []) ((v:Int)+1)) && decide (aF (cols.getD i []) ((v:Int)+1)≤hi))) 0 cols.length)) H'
def mr(P:Program)(w:World)(K:PySem.W.Frag)(mg:Str→Option Value)(base:Heap):Sp:=fun vs H Q _=>∃(x C l:Addr) (bs:List (Int×Int)) (Rs:List aR) (cols:List (List Int)),vs=[.ref x,.ref l]∧eG K C∧dP P w K mg base C bs.length bs Rs x H∧cZ K H l bs.length cols∧cols.length≤63∧bs.length≤4∧Rs.length≤12∧
 (bL 0 (places bs Rs cols)=[]→∀H',ax H H'→Q .non H')∧∀(t:Addr) (k:Int×Int) H',k∈bL 0 (places bs Rs cols)→(∀k'∈bL 0 (places bs Rs cols),wH k' k=false)→H' t=some (.tup [.int k.1,.int k.2])→ax H H'→Q (.ref t) H'
section
variable {P:Program} {w:World} {K:PySem.W.Frag} {mg:Str→Option Value} {base:Heap} {aM:Addr}
theorem kG{f:Addr}{fd:FuncData}(F:cH K "first_outside" "first_outside" eZ f fd)(T:Txt mg aM):aP P w K mg base bY 1 f fd ["low","high","voice","line"] (lj K):=by
 refine F.ok sc_first_outside (fun vs H Q E h=>?_) (fun cdv A outer s H vs Q E hr h=>?_)
 ·obtain⟨l,lo,hi,v,nv,cols,rfl,_⟩:=h
  rfl
 obtain⟨l,lo,hi,v,nv,cols,rfl,⟨ps,hps,hpl,hpc⟩,hv,q⟩:=h
 refine⟨_,(af (cI PassesOwn.never rfl (h7 rfl T.n_enumerate (aa (pr 3) ag)) (c7 K (n:=2) rfl (br (aN (i:=4) sc_first_outside.nd rfl (Or.inl rfl)) (br (aN (i:=5) sc_first_outside.nd rfl (Or.inl rfl)) c8)))
 (ah (aV (b0 (aX (r9 (o0 gR) (o0 gR) (pr 0) (aC (aL K) (pr 5) (pr 2) (fun _ _=>rfl)) (pr 1)))) (ah (ar (pr 4))) aG)))
 (ah (ar bc))),?_⟩
 have hs:sizeLine=16777216:=sizeLine_eq
 walk_at "rd"
 generalize hB:(fun i=>!(decide (lo≤aF (cols.getD i []) ((v:Int)+1)) && decide (aF (cols.getD i []) ((v:Int)+1)≤hi)))=B at q
 refine⟨true,⟨_,hps⟩,iV (l:=true) (us:=ps.map V.ref) (fun i σ H'=>∃(o o':Option V),σ=[some (.int lo),some (.int hi),some (.int v),some (.ref l),o,o']∧ax H H'∧ba B 0 cols.length=ba B i (cols.length - i)) ⟨none,none,rfl,ax.refl _,rfl⟩ (fun i σ H' _ h=>by obtain⟨_,_,_,sm,_⟩:=h;exact sm.seq hps) ?_ ?_⟩
 ·rintro i y σ H1 p hx ⟨o,o',rfl,sm,e⟩ hp0
  obtain⟨c,hc0,rfl⟩:∃c,ps[i]?=some c∧y=.ref c:=by
   rw [List.getElem?_map]at hx
   cases hc:ps[i]? with
   | none=>rw [hc]at hx;cases hx
   | some c=>rw [hc]at hx;exact⟨c,rfl,(Option.some.inj hx).symm⟩
  have hi':i < cols.length:=by have:=(List.getElem?_eq_some_iff.mp hc0).1;omega
  have hu:cols[i]?=some cols[i]:=List.getElem?_eq_getElem hi'
  obtain⟨hct,hcl'⟩:=hpc i c _ hc0 hu
  have s2:ax H (upd H1 p (.tup [.int i,.ref c])):=sm.upd hp0
  have hgd:cols.getD i []=cols[i]:=by rw [List.getD_eq_getElem?_getD,hu];rfl
  have eB:B i=!(decide (lo≤aF cols[i] ((v:Int)+1)) && decide (aF cols[i] ((v:Int)+1)≤hi)):=by rw [←hB];show(!(decide (lo≤aF (cols.getD i []) ((v:Int)+1)) && decide (aF (cols.getD i []) ((v:Int)+1)≤hi)))=_;rw [hgd]
  rw [show cols.length - i=cols.length - (i+1)+1 by omega,ba]at e
  walk_at "rd"
  refine⟨_,cR.of ab,rfl,?_⟩
  walk_at "rd"
  generalize upd H1 p (.tup [.int i,.ref c])=H2 at s2
  refine dB (s2.tup hct) (dU (by omega) (by omega)) ?_
  walk_at "rd"
  by_cases h1:lo≤aF cols[i] ((v:Int)+1)
  ·rw [if_pos h1]
   by_cases h2:aF cols[i] ((v:Int)+1)≤hi
   ·rw [if_pos h2]
    rw [decide_eq_true h1,decide_eq_true h2]at eB
    rw [if_neg (by rw [eB];exact Bool.false_ne_true)]at e
    exact⟨s2,e⟩
   ·rw [if_neg h2]
    rw [decide_eq_true h1,decide_eq_false h2]at eB
    rw [if_pos (by rw [eB];rfl)]at e
    have q':=q _ s2
    rw [e]at q'
    exact q'
  ·rw [if_neg h1]
   rw [decide_eq_false h1]at eB
   rw [if_pos (by rw [eB];rfl)]at e
   have q':=q _ s2
   rw [e]at q'
   exact q'
 ·rintro σ H1 ⟨o,o',rfl,sm,e⟩
  walk_at "rd"
  rw [List.length_map,hpl,Nat.sub_self,ba]at e
  have q':=q _ sm
  rw [e]at q'
  exact q'
theorem iX:∀(l:List (Option Nat)) (n:Nat) (x:Option Nat),bL n (l++[x])=bL n l++(match x with | none=>[] | some p=>[((p:Int),((n+l.length:Nat):Int))])
 | [],n,none=>rfl
 | [],n,some p=>by simp [bL]
 | none::l,n,x=>by
  rw [List.cons_append,bL,bL,iX l (n+1) x,List.length_cons,show n+1+l.length=n+(l.length+1)by omega]
 | some q::l,n,x=>by
  rw [List.cons_append,bL,bL,iX l (n+1) x,List.length_cons,show n+1+l.length=n+(l.length+1)by omega,List.cons_append]
theorem xQ{f:Addr}{fd:FuncData}(F:cH K "fault" "fault" qF f fd)(T:Txt mg aM)(D_first_outside:bZ P w K mg base "first_outside" 8 ["low","high","voice","line"] (lj K))(D_broken_at:bZ P w K mg base "broken_at" 8 ["rule","line"] (nG P w K mg base 7)):aP P w K mg base bY 9 f fd ["score","line"] (mr P w K mg base):=by
 refine F.ok sc_fault (fun vs H Q E h=>?_) (fun cdv A outer s H vs Q E hr h=>?_)
 ·obtain⟨x,C,l,bs,Rs,cols,rfl,_⟩:=h
  rfl
 obtain⟨x,C,l,bs,Rs,cols,rfl,TC,⟨dx,a,b,hx,⟨ts,hts,htl,htc⟩,⟨rs,hrs,hrl,hrc⟩⟩,LL,hcl,nv4,rl,q0,qn⟩:=h
 refine⟨_,(af (i0 (i:=2) sc_fault.nd rfl (Or.inl rfl) (own:=["voice","bounds"]) (js:=[1]) rfl (h7 rfl T.n_enumerate (aa (bA (pr 0) rfl) ag)) (bS.of (by rfl)) (fun _ _ _ _ _=>(c7 K (n:=2) rfl (br (aN (i:=0) (show List.Nodup (["voice","bounds","line"]:List Str)from by decide +kernel) rfl (Or.inl rfl)) (br (aN (i:=1) (show List.Nodup (["voice","bounds","line"]:List Str)from by decide +kernel) rfl (Or.inl rfl)) c8)))) (fun _ _ _ _ _=>dm) (fun _ _ _ _ _=>(aE D_first_outside hr (by rfl) (aa (aC (aL K) (pr 1) ae (fun _ _=>rfl)) (aa (aC (aL K) (pr 1) ae (fun _ _=>rfl)) (aa (pr 0) (aa (pr 2) ag)))))) rfl)
 (af (cw (cz K PySem.F.plainAttrs_list PySem.F.slot_list_extend PySem.F.type_list_extend pB (pr 2) (aa (dE (own:=["rule"]) (js:=[1]) rfl (b6 K (bA (pr 0) rfl)) (bS.of (by rfl)) (fun _ _ _ _ _=>(aN (i:=0) (show List.Nodup (["rule","line"]:List Str)from by decide +kernel) rfl (Or.inl rfl))) (fun _ _ _ _ _=>dm) (fun _ _ _ _ _=>(aE D_broken_at hr (by rfl) (aa (pr 0) (aa (pr 1) ag))))) ag)))
 (ah (ar (zK K (vI hr) rfl (by rfl) T.n_min (aa (dE (own:=["row","place"]) (js:=[]) rfl (h7 rfl T.n_enumerate (aa (pr 2) ag)) (bS.of (by rfl)) (fun _ _ _ _ _=>(c7 K (n:=2) rfl (br (aN (i:=0) (show List.Nodup (["row","place"]:List Str)from by decide +kernel) rfl (Or.inl rfl)) (br (aN (i:=1) (show List.Nodup (["row","place"]:List Str)from by decide +kernel) rfl (Or.inl rfl)) c8)))) (fun _ _ _ _ _=>uY (aX (az mh (pr 1) bc (aA _)))) (fun _ _ _ _ _=>(kK (aa (pr 1) (aa (pr 0) ag))))) ag) (zL bc Bc)))))),?_⟩
 have hs:sizeLine=16777216:=sizeLine_eq
 refine bo (fun σ H'=>∃pl:Addr,H pl=none∧H' pl=some (.lst (((List.range bs.length).map (iZ bs cols)).map pC))∧σ=[some (.ref x),some (.ref l),some (.ref pl)]∧ax H H') ?_ ?_
 rotate_left
 ·intro u' hu
  walk_at "rd"
  refine⟨C,dx,_,hx,TC.cl,TC.n1,_,pz a b,?_⟩
  walk_at "rd"
  refine⟨true,⟨_,hts⟩,lD (l:=true) (us:=ts.map V.ref) (fun i ys H'=>ys=((List.range i).map (iZ bs cols)).map pC∧ax H H') (by rw [List.length_map];omega) ⟨rfl,ax.refl _⟩ (fun i ys H' h=>by obtain⟨rfl,_⟩:=h;simp) (fun i ys H' h=>h.2.seq hts) ?_ ?_⟩
  ·rintro i y ys H1 p hy ⟨rfl,sm⟩ hp0
   obtain⟨t,ht0,rfl⟩:∃t,ts[i]?=some t∧y=.ref t:=by
    rw [List.getElem?_map]at hy
    cases hc:ts[i]? with
    | none=>rw [hc]at hy;cases hy
    | some c=>rw [hc]at hy;exact⟨c,rfl,(Option.some.inj hy).symm⟩
   have hi:i < bs.length:=by have:=(List.getElem?_eq_some_iff.mp ht0).1;omega
   have eb:bs[i]?=some bs[i]:=List.getElem?_eq_getElem hi
   have htt:=htc i t _ ht0 eb
   have s2:ax H (upd H1 p (.tup [.int i,.ref t])):=sm.upd hp0
   walk_at "rd"
   refine⟨_,cR.of ab,rfl,?_⟩
   walk_at "rd"
   generalize upd H1 p (.tup [.int i,.ref t])=H2 at s2
   refine dB (s2.tup htt) (bD rfl) (dB (s2.tup htt) (show dz _ ((1:Nat):Int)=_ from aK rfl) ⟨l,_,_,i,bs.length,cols,rfl,LL.same s2,hi,fun H3 s3=>⟨?_,s2.trans s3⟩⟩)
   rw [List.range_succ,List.map_append,List.map_append]
   have ep:iZ bs cols i=ba (fun j=>!(decide (bs[i].1≤aF (cols.getD j []) ((i:Int)+1)) && decide (aF (cols.getD j []) ((i:Int)+1)≤bs[i].2))) 0 cols.length:=by
    have hg:bs.getD i (0,0)=bs[i]:=by rw [List.getD_eq_getElem?_getD,eb];rfl
    unfold iZ lQ
    rw [hg]
   rw [←ep]
   rfl
  ·rintro ys H1 ⟨rfl,sm⟩ p hp
   rw [List.length_map,htl]
   exact hu _ _ ⟨p,sm.free hp,ab,rfl,sm.upd hp⟩
 rintro _ H1 ⟨pl,hpl,hpl1,rfl,s1⟩
 refine bo (fun σ H'=>H' pl=some (.lst ((places bs Rs cols).map pC))∧σ=[some (.ref x),some (.ref l),some (.ref pl)]∧ax H H') ?_ ?_
 rotate_left
 ·intro u' hu
  walk_at "rd"
  refine⟨.inl ⟨rfl,_,aO.of hpl1⟩,C,dx,_,s1 _ _ hx,TC.cl,TC.n2,_,rK a b,?_⟩
  refine cg (s1.seq hrs) (cu (xs:=rs.map V.ref) (fun i ys H'=>ys=((Rs.take i).map (gu cols)).map pC∧ax H1 H') (by rw [List.length_map];omega) ⟨rfl,ax.refl _⟩ (fun i ys H' h=>by obtain⟨rfl,_⟩:=h;simp;omega) (fun i ys H' h=>(s1.trans h.2).seq hrs) ?_ ?_)
  ·rintro i y ys H2 hy ⟨rfl,sm⟩
   obtain⟨r,hr0,rfl⟩:∃r,rs[i]?=some r∧y=.ref r:=by
    rw [List.getElem?_map]at hy
    cases hc:rs[i]? with
    | none=>rw [hc]at hy;cases hy
    | some c=>rw [hc]at hy;exact⟨c,rfl,(Option.some.inj hy).symm⟩
   have hi:i < Rs.length:=by have:=(List.getElem?_eq_some_iff.mp hr0).1;omega
   have eR:Rs[i]?=some Rs[i]:=List.getElem?_eq_getElem hi
   obtain⟨Cr,RI,RB,_,hri⟩:=hrc i r _ hr0 eR
   walk_at "rd"
   refine⟨r,l,bs.length,Cr,gg Rs[i],RI,C1 Rs[i],cols,rfl,RB,RB.mono _ _ _ (s1.trans sm) hri,LL.same (s1.trans sm),by omega,fun H3 s3=>⟨?_,sm.trans s3⟩⟩
   rw [List.take_add_one,eR,List.map_append,List.map_append]
   show _=_++[pC (gu cols Rs[i])]
   rw [zo]
   rfl
  ·rintro ys H2 ⟨rfl,sm⟩ p hp
   rw [List.length_map,hrl,List.take_length]
   have s2:=(s1.trans sm).upd (o:=.lst ((Rs.map (gu cols)).map pC)) hp
   have hpl2:=(au (o:=.lst ((Rs.map (gu cols)).map pC)) hp) _ _ (sm _ _ hpl1)
   refine⟨pl,p,_,_,rfl,rfl,hpl2,ab,by simp;omega,hu _ _ ⟨?_,rfl,fun c u hc=>?_⟩⟩
   ·rw [ab,←List.map_append]
    rfl
   ·rw [aj (ay hc hpl)]
    exact s2 _ _ hc
 clear hpl1 s1
 clear H1
 rintro _ H1 ⟨hpl1,rfl,s1⟩
 have hlen:(places bs Rs cols).length=bs.length+Rs.length:=by simp [places]
 generalize places bs Rs cols=L at hpl1 q0 qn hlen
 walk_at "rd"
 simp only [AA]
 walk_at "rd"
 refine⟨true,⟨_,aO.of hpl1⟩,lD (l:=true) (us:=L.map pC) (fun i ys H'=>∃ts':List Addr,ys=ts'.map V.ref∧ts'.length=(bL 0 (L.take i)).length∧ts'.length≤i∧(∀(j:Nat) (t:Addr) (k:Int×Int),ts'[j]?=some t→(bL 0 (L.take i))[j]?=some k→H' t=some (.tup [.int k.1,.int k.2]))∧ax H1 H') (by rw [List.length_map];omega) ⟨[],rfl,rfl,Nat.le_refl _,fun j t k e=>(by cases e),ax.refl _⟩ (fun i ys H' h=>by obtain⟨ts',rfl,_,h,_⟩:=h;rw [List.length_map];exact h) (fun i ys H' h=>by obtain⟨_,_,_,_,_,h⟩:=h;exact h.seq (aO.of hpl1)) ?_ ?_⟩
 ·rintro i y ys H2 p hy ⟨ts',rfl,h1,h2,h3,sm⟩ hp0
  obtain⟨z,hz0,rfl⟩:∃z,L[i]?=some z∧y=pC z:=by
   rw [List.getElem?_map]at hy
   cases hc:L[i]? with
   | none=>rw [hc]at hy;cases hy
   | some c=>rw [hc]at hy;exact⟨c,rfl,(Option.some.inj hy).symm⟩
  have hi:i < L.length:=(List.getElem?_eq_some_iff.mp hz0).1
  have ht:L.take (i+1)=L.take i++[z]:=by rw [List.take_add_one,hz0];rfl
  have hll:(L.take i).length=i:=by rw [List.length_take];omega
  have hsn:=iX (L.take i) 0 z
  rw [←ht,hll,Nat.zero_add]at hsn
  have s2:ax H1 (upd H2 p (.tup [.int i,pC z])):=sm.upd hp0
  have s12:ax H2 (upd H2 p (.tup [.int i,pC z])):=au hp0
  walk_at "rd"
  refine⟨_,cR.of ab,rfl,?_⟩
  walk_at "rd"
  generalize upd H2 p (.tup [.int i,pC z])=H3 at s2 s12
  cases z with
  | none=>
   rw [if_pos (show pC none=V.non from rfl)]
   have hsn':bL 0 (L.take (i+1))=bL 0 (L.take i):=by rw [hsn];simp
   rw [hsn']
   exact⟨ts',rfl,h1,by omega,fun j t k e1 e2=>s12 _ _ (h3 j t k e1 e2),s2⟩
  | some n=>
   rw [if_neg (show ¬(pC (some n)=V.non)from fun z=>by cases z)]
   have hsn':bL 0 (L.take (i+1))=bL 0 (L.take i)++[((n:Int),(i:Int))]:=hsn
   rw [hsn']
   refine⟨by omega,fun p2 hp2=>⟨ts' ++ [p2],by rw [List.map_append];rfl,by simp [h1],by simp;omega,fun j t k e1 e2=>?_,s2.upd hp2⟩⟩
   by_cases hj:j < ts'.length
   ·rw [List.getElem?_append_left hj]at e1
    rw [List.getElem?_append_left (by omega)]at e2
    exact(au hp2) _ _ (s12 _ _ (h3 j t k e1 e2))
   ·rw [List.getElem?_append_right (by omega)]at e1 e2
    have ej:j=ts'.length:=by
     have:=(List.getElem?_eq_some_iff.mp e1).1
     simp at this
     omega
    rw [ej,Nat.sub_self]at e1
    rw [ej,h1,Nat.sub_self]at e2
    cases e1
    cases e2
    exact ab
 ·rintro ys H2 ⟨ts',rfl,h1,h2,h3,sm⟩ p hp
  rw [List.length_map,List.take_length]at h1 h3
  have sp:=sm.upd (o:=.lst (ts'.map V.ref)) hp
  refine⟨ts',aO.of ab,bL 0 L,h1,fun j t k e1 e2=>cR.of ((au hp) _ _ (h3 j t k e1 e2)),fun e0=>q0 e0 _ (s1.trans sp),fun j t k e1 e2 hm=>qn t k _ (List.mem_of_getElem? e2) hm ((au hp) _ _ (h3 j t k e1 e2)) (s1.trans sp)⟩
end
def zq(bs:List (Int×Int)):Prop:=∃bP:Int,0≤bP∧bP≤10 ^ 20∧∀b∈bs,bP - 50≤b.1∧b.1≤bP+50∧b.1≤b.2∧b.2≤b.1+3
def nJ(K:PySem.W.Frag):Sp:=fun vs H Q _=>∃(l:Addr) (ns:List Int),vs=[.ref l]∧aO K H l (ns.map V.int)∧(∀x∈ns,x.natAbs < 2 ^ GB)∧∀(a:Addr) (bs:List (Int×Int)) H',bX K H' a bs→zq bs→1≤bs.length→bs.length≤4→ax H H'→Q (.ref a) H'
def ug(K:PySem.W.Frag):Sp:=fun vs H Q _=>∃(w:Addr) (R:aR),vs=[.ref w]∧aO K H w (cN R)∧Q (.int (ke R)) H
def qS(K:PySem.W.Frag):Sp:=fun vs H Q _=>∃(l:Addr) (ns:List Int) (bits:Int),vs=[.ref l,.int bits]∧aO K H l (ns.map V.int)∧1≤ns.length∧ns.length≤1000∧∀(p:Addr) (D:List Int) H',1≤D.length→D.length≤12→(∀d∈D,d∈ns)→H' p=some (.lst (D.map V.int))→ax H H'→Q (.ref p) H'
def mx(K:PySem.W.Frag):Sp:=fun vs H Q _=>∃(a:Addr) (bs:List (Int×Int)) (i j:Nat),vs=[.ref a,.int i,.int j]∧bX K H a bs∧zq bs∧i < bs.length∧j < bs.length∧∀(p:Addr) (ns:List Int) H',1≤ns.length→ns.length≤1000→(∀n∈ns,n.natAbs≤1000)→H' p=some (.lst (ns.map V.int))→ax H H'→Q (.ref p) H'
theorem bX.ix{K:PySem.W.Frag}{H:Hp}{a:Addr}{bs:List (Int×Int)}{i:Nat}{Q:VK}(h:bX K H a bs)(hi:i < bs.length)(q:∀t,cR K H t [.int (bs[i]).1,.int (bs[i]).2]→Q (.ref t) H):lR K (.ref a) (.int (i:Int)) H Q:=by
 obtain⟨ts,h1,h2,h3⟩:=h
 have e1:ts[i]?=some (ts[i]'(by omega)):=List.getElem?_eq_getElem (by omega)
 exact aT h1 (aK (by rw [List.getElem?_map,e1];rfl)) (q _ (h3 i _ _ e1 (List.getElem?_eq_getElem hi)))
section
variable {P:Program} {w:World} {K:PySem.W.Frag} {mg:Str→Option Value} {base:Heap} {aM:Addr}
theorem vX{f:Addr}{fd:FuncData}(F:cH K "_law_ranges" "_law_ranges" gH f fd)(T:Txt mg aM)(D_law_got:bZ P w K mg base "_law_got" 2 ["_law_script","_law_place"] (lJ K)):aP P w K mg base bY 3 f fd ["_law_script"] (nJ K):=by
 refine F.ok sc_law_ranges (fun vs H Q E h=>?_) (fun cdv A outer s H vs Q E hr h=>?_)
 ·obtain⟨l,ns,rfl,_⟩:=h
  rfl
 obtain⟨l,ns,rfl,hS,hB,q⟩:=h
 refine⟨_,(af (aJ (i:=1) sc_law_ranges.nd rfl (Or.inl rfl) (aE D_law_got hr (by rfl) (aa (pr 0) (aa ae ag))))
 (af (aJ (i:=2) sc_law_ranges.nd rfl (Or.inl rfl) (aC (aL K) (b9 (aa ae (aa (aq (o1 tO) ae ae) (aa ae (aa ae ag))))) (aq (o1 bC) (aq (o1 bK) (pr 1) ae) ae) (fun _ _=>rfl)))
 (af (aJ (i:=3) sc_law_ranges.nd rfl (Or.inl rfl) (b9 ag))
 (af (cI PassesOwn.never rfl (dk rfl T.n_range (aa (aq (bO K) ae (aq (o1 bC) (pr 1) ae)) ag)) (aN (i:=4) sc_law_ranges.nd rfl (Or.inl rfl))
 (af (aJ (i:=5) sc_law_ranges.nd rfl (Or.inl rfl) (aE D_law_got hr (by rfl) (aa (pr 0) (aa (aq (bO K) ae (pr 4)) ag))))
 (af (aJ (i:=6) sc_law_ranges.nd rfl (Or.inl rfl) (aq (o0 bI) (aq (bO K) (pr 2) (aq (o1 bC) (aq (o1 bK) (pr 5) ae) ae)) ae))
 (af (aV (PW.pt (fA (aX (az gr (aq (o1 bC) (aq (o1 bK) (pr 5) ae) ae) ae (aA _))) (eD (aX (az (o0 gQ) (pr 4) ae (aA _)))))) (ah (aJ (i:=6) sc_law_ranges.nd rfl (Or.inl rfl) (aq (o0 bI) (aq (bO K) (aC (aL K) (aC (aL K) (pr 3) ae (fun _ _=>rfl)) ae (fun _ _=>rfl)) (aq (o1 bC) (aq (o1 bK) (pr 5) ae) ae)) ae))) aG)
 (ah (cw (cz K PySem.F.plainAttrs_list PySem.F.slot_list_append PySem.F.type_list_append fb (pr 3) (aa (kK (aa (pr 6) (aa (aq (bO K) (pr 6) (aq (o1 bC) (pr 5) ae)) ag))) ag))))))))
 (ah (ar (pr 3))))))),?_⟩
 have hs:sizeLine=16777216:=sizeLine_eq
 have gt:∀{p:Int} {H':Hp} {Q':VK},ax H H'→0≤p→p≤1000→(∀i H'',ax H H''→ax H' H''→Q' (.int i) H'')→lJ K [.ref l,.int p] H' Q' E0:=fun {p H' Q'} s1 h0 h1 q=>⟨l,ns,p,rfl,s1.seq hS,hB,h0,h1,fun H'' s2=>q _ H'' (s1.trans s2) s2⟩
 refine bo (fun σ H'=>∃fi:Int,σ=[some (.ref l),some (.int fi),none,none,none,none,none]∧ax H H') ?_ ?_
 rotate_left
 ·intro u' hu
  walk_at "rd"
  exact gt (ax.refl _) (by decide) (by decide) fun i H1 s1 _=>hu _ _ ⟨i,rfl,s1⟩
 rintro _ H1 ⟨fi,rfl,s1⟩
 refine bo (fun σ H'=>∃bP:Int,0≤bP∧bP≤10 ^ 20∧σ=[some (.ref l),some (.int fi),some (.int bP),none,none,none,none]∧ax H H') ?_ ?_
 rotate_left
 ·intro u' hu
  walk_at "rd"
  refine⟨⟨by decide,by decide,by decide⟩,by omega,fun p hp=>?_⟩
  have sp:=s1.upd (o:=.lst [.int 0,.int (10 ^ Int.toNat 20),.int 0,.int 0]) hp
  refine⟨⟨by decide,by decide⟩,by decide,?_⟩
  have h4:fi / 4 % 4=0∨fi / 4 % 4=1∨fi / 4 % 4=2∨fi / 4 % 4=3:=by omega
  rcases h4 with e | e | e | e<;>rw [e]
  ·exact aT (aO.of ab) (bD rfl) (hu _ _ ⟨_,by decide,by decide,rfl,sp⟩)
  ·exact aT (aO.of ab) (show dz _ ((1:Nat):Int)=_ from aK rfl) (hu _ _ ⟨_,by decide,by decide,rfl,sp⟩)
  ·exact aT (aO.of ab) (show dz _ ((2:Nat):Int)=_ from aK rfl) (hu _ _ ⟨_,by decide,by decide,rfl,sp⟩)
  ·exact aT (aO.of ab) (show dz _ ((3:Nat):Int)=_ from aK rfl) (hu _ _ ⟨_,by decide,by decide,rfl,sp⟩)
 clear s1
 clear H1
 rintro _ H1 ⟨bP,f0,f1,rfl,s1⟩
 refine bo (fun σ H'=>∃fo:Addr,H fo=none∧H' fo=some (.lst (([]:List Addr).map V.ref))∧σ=[some (.ref l),some (.int fi),some (.int bP),some (.ref fo),none,none,none]∧ax H H') ?_ ?_
 rotate_left
 ·intro u' hu
  walk_at "rd"
  exact⟨by omega,fun p hp=>hu _ _ ⟨p,s1.free hp,ab,rfl,s1.upd hp⟩⟩
 clear s1
 clear H1
 rintro _ H1 ⟨fo,hfo,hfo1,rfl,s1⟩
 walk_at "rd"
 refine⟨by decide,by omega,by omega,cU (fun i σ H'=>∃(ts:List Addr) (bs:List (Int×Int)) (o1 o2 o3:Option V),σ=[some (.ref l),some (.int fi),some (.int bP),some (.ref fo),o1,o2,o3]∧ts.length=i∧bs.length=i∧H' fo=some (.lst (ts.map V.ref))∧(∀(j:Nat) (t:Addr) (b:Int×Int),ts[j]?=some t→bs[j]?=some b→H' t=some (.tup [.int b.1,.int b.2]))∧(∀b,bs[0]?=some b→bP - 40≤b.1∧b.1≤bP+40)∧(∀b∈bs,bP - 50≤b.1∧b.1≤bP+50∧b.1≤b.2∧b.2≤b.1+3)∧ax H H') ⟨[],[],none,none,none,rfl,rfl,rfl,hfo1,fun j t b e=>(by cases e),fun b e=>(by cases e),fun b e=>(by cases e),s1⟩ ?_ ?_⟩
 ·clear hfo1 s1
  rintro i σ H2 hi ⟨ts,bs,o1,o2,o3,rfl,tl,bl,hf2,ht2,hb0,hbb,s2⟩
  refine bo (fun σ H'=>∃c:Int,σ=[some (.ref l),some (.int fi),some (.int bP),some (.ref fo),some (.int i),some (.int c),o3]∧ax H2 H') ?_ ?_
  rotate_left
  ·intro u' hu
   walk_at "rd"
   exact gt s2 (by omega) (by omega) fun c H3 s3 s23=>hu _ _ ⟨c,rfl,s23⟩
  rintro _ H3 ⟨c,rfl,s23⟩
  have s3:=s2.trans s23
  have hf3:=s23 _ _ hf2
  refine bo (fun σ H'=>∃lo:Int,bP - 40≤lo∧lo≤bP+40∧σ=[some (.ref l),some (.int fi),some (.int bP),some (.ref fo),some (.int i),some (.int c),some (.int lo)]∧H3=H') ?_ ?_
  rotate_left
  ·intro u' hu
   walk_at "rd"
   exact⟨⟨by decide,by decide⟩,by decide,hu _ _ ⟨_,by omega,by omega,rfl,rfl⟩⟩
  rintro _ _ ⟨lo,lo0,lo1,rfl,rfl⟩
  refine bo (fun σ H'=>∃lo:Int,bP - 50≤lo∧lo≤bP+50∧(i=0→bP - 40≤lo∧lo≤bP+40)∧σ=[some (.ref l),some (.int fi),some (.int bP),some (.ref fo),some (.int i),some (.int c),some (.int lo)]∧H3=H') ?_ ?_
  rotate_left
  ·intro u' hu
   have no:=hu _ _ ⟨lo,by omega,by omega,fun _=>⟨lo0,lo1⟩,rfl,rfl⟩
   walk_at "rd"
   refine⟨⟨by decide,by decide⟩,by decide,?_⟩
   by_cases h1:c / 324 % 2=0
   ·rw [if_pos h1]
    by_cases h2:(0:Int) < i
    ·rw [if_pos h2]
     have e1:ts[0]?=some (ts[0]'(by omega)):=List.getElem?_eq_getElem (by omega)
     have e2:bs[0]?=some (bs[0]'(by omega)):=List.getElem?_eq_getElem (by omega)
     have hb:=hb0 _ e2
     refine aT (aO.of hf3) (bD (by rw [List.head?_map,List.head?_eq_getElem?,e1];rfl)) (dB (cR.of (s23 _ _ (ht2 0 _ _ e1 e2))) (bD rfl) ?_)
     walk_at "rd"
     exact⟨⟨by decide,by decide⟩,by decide,hu _ _ ⟨_,by omega,by omega,fun z=>by omega,rfl,rfl⟩⟩
    ·rw [if_neg h2]
     exact hu _ _ ⟨lo,by omega,by omega,fun _=>⟨lo0,lo1⟩,rfl,rfl⟩
   ·rw [if_neg h1]
    exact hu _ _ ⟨lo,by omega,by omega,fun _=>⟨lo0,lo1⟩,rfl,rfl⟩
  clear lo0 lo1
  clear lo
  rintro _ _ ⟨lo,lo0,lo1,lo2,rfl,rfl⟩
  walk_at "rd"
  refine⟨.inl ⟨rfl,_,aO.of hf3⟩,by decide,by omega,fun t ht=>?_⟩
  have hf4:=(au (o:=.tup [.int lo,.int (lo+c % 4)]) ht) _ _ hf3
  refine⟨fo,_,_,rfl,rfl,hf4,by rw [List.length_map];omega,ts++[t],by simp [tl],bs++[(lo,lo+c % 4)],by simp [bl],by rw [ab,List.map_append];rfl,fun j t' b' e1 e2=>?_,fun b' e=>?_,fun b' hb'=>?_,fun c' u hc=>?_⟩
  ·by_cases hj:j < ts.length
   ·rw [List.getElem?_append_left hj]at e1
    rw [List.getElem?_append_left (by omega)]at e2
    have:=(au (o:=.tup [.int lo,.int (lo+c % 4)]) ht) _ _ (s23 _ _ (ht2 j t' b' e1 e2))
    rw [aj (dM this hf4 (fun e=>by cases e))]
    exact this
   ·rw [List.getElem?_append_right (by omega)]at e1 e2
    have ej:j=ts.length:=by
     have:=(List.getElem?_eq_some_iff.mp e1).1
     simp at this
     omega
    rw [ej,Nat.sub_self]at e1
    rw [ej,tl,bl,Nat.sub_self]at e2
    cases e1
    cases e2
    rw [aj (dM (ab (H:=H3) (a:=t)) hf4 (fun e=>by cases e))]
    exact ab
  ·by_cases h0:i=0
   ·have hb0':bs=[]:=List.length_eq_zero_iff.mp (by omega)
    rw [hb0']at e
    cases e
    exact lo2 h0
   ·rw [List.getElem?_append_left (by omega)]at e
    exact hb0 b' e
  ·rcases List.mem_append.mp hb' with h | h
   ·exact hbb b' h
   ·rw [List.mem_singleton.mp h]
    exact⟨lo0,lo1,by show lo≤lo+c % 4;omega,by show lo+c % 4≤lo+3;omega⟩
  ·rw [aj (ay hc hfo)]
   exact(au ht) _ _ (s3 _ _ hc)
 ·rintro σ H2 ⟨ts,bs,o1,o2,o3,rfl,tl,bl,hf2,ht2,hb0,hbb,s2⟩
  walk_at "rd"
  exact q fo bs _ ⟨ts,aO.of hf2,by omega,fun i t b e1 e2=>cR.of (ht2 i t b e1 e2)⟩ ⟨bP,f0,f1,hbb⟩ (by omega) (by omega) s2
theorem zx{f:Addr}{fd:FuncData}(F:cH K "_law_size" "_law_size" je f fd)(T:Txt mg aM):aP P w K mg base bY 1 f fd ["_law_rule_here"] (ug K):=by
 refine F.ok su (fun vs H Q E h=>?_) (fun cdv A outer s H vs Q E hr h=>?_)
 ·obtain⟨w,R,rfl,_⟩:=h
  rfl
 obtain⟨w,R,rfl,hw,q⟩:=h
 refine⟨_,(af (aV (aX (az gr (aC (aL K) (pr 0) ae (fun _ _=>rfl)) aZ (aA _))) (ah (ar ae)) aG)
 (af (aV (aX (az gr (aC (aL K) (pr 0) ae (fun _ _=>rfl)) aZ (aA _))) (ah (ar (aC (aL K) (pr 0) ae (fun _ _=>rfl)))) aG)
 (af (aV (aX (az gr (aC (aL K) (pr 0) ae (fun _ _=>rfl)) aZ (aA _))) (ah (ar (aq (bO K) (aC (aL K) (pr 0) ae (fun _ _=>rfl)) ae))) aG)
 (af (aV (aX (az gr (aC (aL K) (pr 0) ae (fun _ _=>rfl)) aZ (aA _))) (ah (ar (aC (aL K) (pr 0) ae (fun _ _=>rfl)))) aG)
 (ah (ar ae)))))),?_⟩
 have ixw:∀{k:Nat} {x:V} {Q':VK},(cN R)[k]?=some x→Q' x H→lR K (.ref w) (.int (k:Int)) H Q':=fun hx hq=>aT hw (aK hx) hq
 cases R with
 | every m a R=>
  walk_at "rd"
  refine ixw (k:=0) rfl ?_
  walk_at "rd"
  rw [if_neg (by decide +kernel)]
  refine ixw (k:=0) rfl ?_
  walk_at "rd"
  rw [if_neg (by decide +kernel)]
  refine ixw (k:=0) rfl ?_
  walk_at "rd"
  rw [if_neg (by decide +kernel)]
  refine ixw (k:=0) rfl ?_
  walk_at "rd"
  exact ixw (k:=1) rfl q
 | plain R=>
  cases R with
  | back o bP=>
   walk_at "rd"
   refine ixw (k:=0) rfl ?_
   walk_at "rd"
   exact q
  | held o most=>
   walk_at "rd"
   refine ixw (k:=0) rfl ?_
   walk_at "rd"
   rw [if_neg (by decide +kernel)]
   refine ixw (k:=0) rfl ?_
   walk_at "rd"
   exact ixw (k:=2) rfl q
  | times o nt lw hgh=>
   walk_at "rd"
   refine ixw (k:=0) rfl ?_
   walk_at "rd"
   rw [if_neg (by decide +kernel)]
   refine ixw (k:=0) rfl ?_
   walk_at "rd"
   rw [if_neg (by decide +kernel)]
   refine ixw (k:=0) rfl ?_
   walk_at "rd"
   refine ixw (k:=4) rfl ?_
   walk_at "rd"
   exact q
  | _=>
   walk_at "rd"
   refine ixw (k:=0) rfl ?_
   walk_at "rd"
   rw [if_neg (by decide +kernel)]
   refine ixw (k:=0) rfl ?_
   walk_at "rd"
   rw [if_neg (by decide +kernel)]
   refine ixw (k:=0) rfl ?_
   walk_at "rd"
   rw [if_neg (by decide +kernel)]
   refine ixw (k:=0) rfl ?_
   walk_at "rd"
   rw [if_neg (by decide +kernel)]
   exact q
theorem xS{f:Addr}{fd:FuncData}(F:cH K "_law_spans" "_law_spans" ip f fd)(T:Txt mg aM):aP P w K mg base bY 1 f fd ["_law_ranges_here","_law_a","_law_b"] (mx K):=by
 refine F.ok qL (fun vs H Q E h=>?_) (fun cdv A outer s H vs Q E hr h=>?_)
 ·obtain⟨a,bs,i,j,rfl,_⟩:=h
  rfl
 obtain⟨a,bs,i,j,rfl,hR,⟨bP,f0,f1,hb⟩,hi,hj,q⟩:=h
 refine⟨_,(ah (ar (kI rfl (by rfl) T.n_list (by rfl) T.n_range (aa (aq (o0 bI) (aC (aL K) (aC (aL K) (pr 0) (pr 2) (fun _ _=>rfl)) ae (fun _ _=>rfl)) (aC (aL K) (aC (aL K) (pr 0) (pr 1) (fun _ _=>rfl)) ae (fun _ _=>rfl))) (aa (aq (bO K) (aq (o0 bI) (aC (aL K) (aC (aL K) (pr 0) (pr 2) (fun _ _=>rfl)) ae (fun _ _=>rfl)) (aC (aL K) (aC (aL K) (pr 0) (pr 1) (fun _ _=>rfl)) ae (fun _ _=>rfl))) ae) ag))))),?_⟩
 have bi:=hb _ (List.getElem_mem hi)
 have bj:=hb _ (List.getElem_mem hj)
 walk_at "rd"
 simp only [my]
 walk_at "rd"
 have at1:∀(xs:List V) (x:V),xs[1]?=some x→dz xs 1=some x:=fun xs x e=>show dz xs ((1:Nat):Int)=_ from aK e
 refine hR.ix hj fun t ht=>dB ht (bD rfl) (hR.ix hi fun t2 ht2=>dB ht2 (at1 _ _ rfl) ?_)
 walk_at "rd"
 refine hR.ix hj fun t ht=>dB ht (at1 _ _ rfl) (hR.ix hi fun t2 ht2=>dB ht2 (bD rfl) ?_)
 walk_at "rd"
 refine⟨by omega,fun p hp=>q p _ _ ?_ ?_ ?_ ab (au hp)⟩
 ·simp [L2.intsFrom];omega
 ·simp [L2.intsFrom];omega
 ·intro n hn
  simp only [L2.intsFrom,List.mem_map,List.mem_range]at hn
  obtain⟨k,hk,rfl⟩:=hn
  omega
end
def nK(K:PySem.W.Frag):Sp:=fun vs H Q _=>∃(a:Addr) (bs:List (Int×Int)) (c bits:Int),vs=[.int c,.int bits,.ref a]∧bX K H a bs∧zq bs∧1≤bs.length∧bs.length≤4∧∀(p:Addr) (R:ck) H',pZ R→gd bs.length R→Ay R→H' p=some (.lst (eS R))→ax H H'→Q (.ref p) H'
section
variable {P:Program} {w:World} {K:PySem.W.Frag} {mg:Str→Option Value} {base:Heap} {aM:Addr}
theorem zy{f:Addr}{fd:FuncData}(F:cH K "_law_some" "_law_some" jf f fd)(T:Txt mg aM):aP P w K mg base bY 1 f fd ["_law_values","_law_bits"] (qS K):=by
 refine F.ok sc_law_some (fun vs H Q E h=>?_) (fun cdv A outer s H vs Q E hr h=>?_)
 ·obtain⟨l,ns,bits,rfl,_⟩:=h
  rfl
 obtain⟨l,ns,bits,rfl,hS,n1,n2,q⟩:=h
 refine⟨_,(af (aJ (i:=2) sc_law_some.nd rfl (Or.inl rfl) (b9 ag))
 (af (aJ (i:=3) sc_law_some.nd rfl (Or.inl rfl) (aq (o1 bK) (pr 1) ae))
 (af (cI PassesOwn.never rfl (dk rfl T.n_range (aa (aH (aQ K) (by rfl) T.n_len boot_len (aa (pr 0) ag)) ag)) (aN (i:=4) sc_law_some.nd rfl (Or.inl rfl))
 (af (kM (aH (g5) (by rfl) T.n_divmod boot_divmod (aa (pr 3) (aa ae ag))) (c7 K (n:=2) rfl (br (aN (i:=3) sc_law_some.nd rfl (Or.inl rfl)) (br (aN (i:=5) sc_law_some.nd rfl (Or.inl rfl)) c8))))
 (af (aV (aX (az (tG K (vI hr)) (aq (o1 bC) (pr 1) ae) ae (aA _))) (ah (aJ (i:=5) sc_law_some.nd rfl (Or.inl rfl) (aq (o1 bC) (aq (o1 bK) (aq (hG K) (aq (o1 bC) (aq (o1 bK) (pr 1) ae) ae) (aq (bO K) (aq (bO K) (aq (hG K) (pr 4) (pr 4)) (aq (hG K) ae (pr 4))) ae)) ae) ae))) aG)
 (ah (aV (aX (az (o0 gQ) (pr 5) ae (aA _))) (ah (cw (cz K PySem.F.plainAttrs_list PySem.F.slot_list_append PySem.F.type_list_append fb (pr 2) (aa (aC (aL K) (pr 0) (pr 4) (fun _ _=>rfl)) ag)))) aG)))))
 (af (aV (aX (az (tG K (vI hr)) (pr 2) (b9 ag) (aA _))) (ah (ar (b9 (aa (aC (aL K) (pr 0) ae (fun _ _=>rfl)) ag)))) aG)
 (ah (ar (aS (dc K) (pr 2) bz (c4 ae)))))))),?_⟩
 have hs:sizeLine=16777216:=sizeLine_eq
 refine bo (fun σ H'=>∃fo:Addr,H fo=none∧H' fo=some (.lst (([]:List Int).map V.int))∧σ=[some (.ref l),some (.int bits),some (.ref fo),none,none,none]∧ax H H') ?_ ?_
 rotate_left
 ·intro u' hu
  walk_at "rd"
  exact⟨by omega,fun p hp=>hu _ _ ⟨p,hp,ab,rfl,au hp⟩⟩
 rintro _ H1 ⟨fo,hfo,hfo1,rfl,s1⟩
 refine bo (fun σ H'=>σ=[some (.ref l),some (.int bits),some (.ref fo),some (.int (bits / 2)),none,none]∧H1=H') ?_ ?_
 rotate_left
 ·intro u' hu
  walk_at "rd"
  exact⟨⟨by decide,by decide⟩,hu _ _ ⟨rfl,rfl⟩⟩
 rintro _ _ ⟨rfl,rfl⟩
 refine bo (fun σ H'=>∃(D:List Int) (r:Int) (o4 o5:Option V),σ=[some (.ref l),some (.int bits),some (.ref fo),some (.int r),o4,o5]∧H' fo=some (.lst (D.map V.int))∧D.length≤ns.length∧(∀d∈D,d∈ns)∧ax H H') ?_ ?_
 rotate_left
 ·intro u' hu
  walk_at "rd"
  refine⟨_,.inl (s1.seq hS),by omega,by rw [List.length_map];omega,?_⟩
  rw [List.length_map]
  refine cU (fun i σ H'=>∃(D:List Int) (r:Int) (o4 o5:Option V),σ=[some (.ref l),some (.int bits),some (.ref fo),some (.int r),o4,o5]∧H' fo=some (.lst (D.map V.int))∧D.length≤i∧(∀d∈D,d∈ns)∧ax H H') ⟨[],_,none,none,rfl,hfo1,Nat.le_refl _,fun _ z=>(by cases z),s1⟩ ?_ ?_
  ·rintro i σ H2 hi ⟨D,r,o4,o5,rfl,hf2,dl,dn,s2⟩
   have hi':i < ns.length:=by omega
   refine bo (fun σ H'=>∃r' tk:Int,σ=[some (.ref l),some (.int bits),some (.ref fo),some (.int r'),some (.int i),some (.int tk)]∧ax H2 H') ?_ ?_
   rotate_left
   ·intro u' hu
    walk_at "rd"
    refine⟨⟨by decide,by decide⟩,fun p hp=>⟨_,cR.of ab,rfl,?_⟩⟩
    walk_at "rd"
    exact hu _ _ ⟨_,_,rfl,au hp⟩
   rintro _ H3 ⟨r',tk,rfl,s23⟩
   have s3:=s2.trans s23
   have hf3:=s23 _ _ hf2
   refine bo (fun σ H'=>∃tk:Int,σ=[some (.ref l),some (.int bits),some (.ref fo),some (.int r'),some (.int i),some (.int tk)]∧H3=H') ?_ ?_
   rotate_left
   ·intro u' hu
    walk_at "rd"
    refine⟨by decide,?_⟩
    by_cases hb:bits % 2=1
    ·rw [if_pos hb]
     have i3:(i:Int) < 1001:=by omega
     exact⟨⟨by decide,by decide⟩,by decide,.of_left (intBits_le_iff.mpr (by omega)),.of_left (by decide),.of_left (intBits_le_iff.mpr (by omega)),⟨by decide,by decide⟩,by decide,hu _ _ ⟨_,rfl,rfl⟩⟩
    ·rw [if_neg hb]
     exact hu _ _ ⟨_,rfl,rfl⟩
   clear tk
   rintro _ _ ⟨tk,rfl,rfl⟩
   walk_at "rd"
   by_cases ht:(0:Int) < tk
   ·rw [if_pos ht]
    have e1:ns[i]?=some ns[i]:=List.getElem?_eq_getElem hi'
    refine⟨.inl ⟨rfl,_,aO.of hf3⟩,aT (s3.seq hS) (aK (by rw [List.getElem?_map,e1];rfl)) ⟨fo,_,_,rfl,rfl,hf3,by rw [List.length_map];omega,D++[ns[i]],?_⟩⟩
    refine⟨by rw [ab,List.map_append];rfl,by simp;omega,fun d hd=>?_,fun c u hc=>?_⟩
    ·rcases List.mem_append.mp hd with h | h
     ·exact dn d h
     ·rw [List.mem_singleton.mp h];exact List.getElem_mem hi'
    ·rw [aj (ay hc hfo)]
     exact s3 _ _ hc
   ·rw [if_neg ht]
    exact⟨D,hf3,by omega,dn,s3⟩
  ·rintro σ H2 ⟨D,r,o4,o5,rfl,hf2,dl,dn,s2⟩
   exact hu _ _ ⟨D,r,o4,o5,rfl,hf2,by omega,dn,s2⟩
 clear hfo1 s1
 clear H1
 rintro _ H1 ⟨D,r,o4,o5,rfl,hf1,dl,dn,s1⟩
 refine bo (fun σ H'=>1≤D.length∧σ=[some (.ref l),some (.int bits),some (.ref fo),some (.int r),o4,o5]∧ax H1 H') ?_ ?_
 rotate_left
 ·intro u' hu
  walk_at "rd"
  refine⟨by omega,fun p hp=>?_⟩
  have s2:ax H1 (upd H1 p (.lst [])):=au hp
  refine yd (l:=true) (aO.of (s2 _ _ hf1)) (aO.of ab) ⟨_,rfl,?_⟩
  by_cases h0:D.length=0
  ·rw [if_pos (by simp [h0])]
   have e1:ns[0]?=some (ns[0]'(by omega)):=List.getElem?_eq_getElem (by omega)
   refine aT ((s1.trans s2).seq hS) (bD (by rw [List.head?_map,List.head?_eq_getElem?,e1];rfl)) ?_
   walk_at "rd"
   exact⟨by omega,fun p2 hp2=>q p2 [ns[0]'(by omega)] _ (by simp) (by simp) (fun d hd=>by rw [List.mem_singleton.mp hd];exact List.getElem_mem _) ab ((s1.trans s2).upd hp2)⟩
  ·rw [if_neg (by simp [h0])]
   exact hu _ _ ⟨by omega,rfl,s2⟩
 rintro _ H2 ⟨d1,rfl,s12⟩
 walk_at "rd"
 refine bM (aO.of (s12 _ _ hf1)) fun p hp=>?_
 rw [show(some (12:Int))=some ((12:Nat):Int)from rfl,de,←List.map_take]
 exact q p (D.take 12) _ (by rw [List.length_take];omega) (by rw [List.length_take];omega) (fun d hd=>dn d (List.mem_of_mem_take hd)) ab ((s1.trans s12).upd hp)
theorem v3{f:Addr}{fd:FuncData}(F:cH K "_law_single" "_law_single" gJ f fd)(T:Txt mg aM)(D_law_some:bZ P w K mg base "_law_some" 1 ["_law_values","_law_bits"] (qS K))(D_law_spans:bZ P w K mg base "_law_spans" 1 ["_law_ranges_here","_law_a","_law_b"] (mx K)):aP P w K mg base bY 2 f fd ["_law_cell","_law_bits","_law_ranges_here"] (nK K):=by
 refine F.ok sc_law_single (fun vs H Q E h=>?_) (fun cdv A outer s H vs Q E hr h=>?_)
 ·obtain⟨a,bs,c,bits,rfl,_⟩:=h
  rfl
 obtain⟨a,bs,c,bits,rfl,hR,hok,b1,b4,q⟩:=h
 refine⟨_,(af (aJ (i:=3) sc_law_single.nd rfl (Or.inl rfl) (aq (o1 bC) (pr 0) (aH (aQ K) (by rfl) T.n_len boot_len (aa (pr 2) ag))))
 (af (aJ (i:=4) sc_law_single.nd rfl (Or.inl rfl) (aq (o1 bC) (aq (o1 bK) (pr 0) ae) (aH (aQ K) (by rfl) T.n_len boot_len (aa (pr 2) ag))))
 (af (aV (aX (az gr (aq (o1 bC) (aq (o1 bK) (pr 0) ae) ae) ae (aA _))) (ah (ar (aq (bO K) (b9 (aa aZ (aa (aq (bO K) (pr 3) ae) (aa (aq (bO K) (pr 4) ae) ag)))) (aE D_law_some hr (by rfl) (aa (aE D_law_spans hr (by rfl) (aa (pr 2) (aa (pr 3) (aa (pr 4) ag)))) (aa (pr 1) ag)))))) aG)
 (af (aJ (i:=5) sc_law_single.nd rfl (Or.inl rfl) (aq (bO K) ae (aq (o1 bC) (aq (o1 bK) (pr 0) ae) ae)))
 (ah (ar (aq (bO K) (b9 (aa aZ (aa (aq (bO K) (pr 3) ae) (aa (aq (bO K) (pr 4) ae) (aa (pr 5) ag))))) (aE D_law_some hr (by rfl) (aa (v8 rfl (by rfl) T.n_list (by rfl) T.n_range (aa (pr 5) ag)) (aa (pr 1) ag)))))))))),?_⟩
 have hs:sizeLine=16777216:=sizeLine_eq
 have ln:∀{Q':Nat→Prop} {H':Hp},ax H H'→Q' bs.length→∃xs:List V,(aO K H' a xs∨cR K H' a xs)∧Q' xs.length:=fun {Q' H'} sm hq=>by
  obtain⟨ts,h1,h2,_⟩:=hR
  exact⟨_,.inl (sm.seq h1),by rw [List.length_map,h2];exact hq⟩
 refine bo (fun σ H'=>∃i:Nat,i < bs.length∧σ=[some (.int c),some (.int bits),some (.ref a),some (.int i),none,none]∧H=H') ?_ ?_
 rotate_left
 ·intro u' hu
  walk_at "rd"
  obtain⟨ts,h1,h2,_⟩:=hR
  refine⟨_,.inl h1,?_⟩
  rw [List.length_map,h2]
  have m0:=Int.emod_nonneg c (show((bs.length:Nat):Int)≠0 by omega)
  have m1:=Int.emod_lt_of_pos c (show(0:Int) < (bs.length:Nat)by omega)
  obtain⟨i,hi⟩:=Int.eq_ofNat_of_zero_le m0
  rw [hi]at m1 ⊢
  exact⟨by omega,hu _ _ ⟨i,by omega,rfl,rfl⟩⟩
 rintro _ _ ⟨i,hi,rfl,rfl⟩
 refine bo (fun σ H'=>∃j:Nat,j < bs.length∧σ=[some (.int c),some (.int bits),some (.ref a),some (.int i),some (.int j),none]∧H=H') ?_ ?_
 rotate_left
 ·intro u' hu
  walk_at "rd"
  obtain⟨ts,h1,h2,_⟩:=hR
  refine⟨⟨by decide,by decide⟩,_,.inl h1,?_⟩
  rw [List.length_map,h2]
  have m0:=Int.emod_nonneg (c / 3) (show((bs.length:Nat):Int)≠0 by omega)
  have m1:=Int.emod_lt_of_pos (c / 3) (show(0:Int) < (bs.length:Nat)by omega)
  obtain⟨j,hj⟩:=Int.eq_ofNat_of_zero_le m0
  rw [hj]at m1 ⊢
  exact⟨by omega,hu _ _ ⟨j,by omega,rfl,rfl⟩⟩
 rintro _ _ ⟨j,hj,rfl,rfl⟩
 refine bo (fun σ H'=>σ=[some (.int c),some (.int bits),some (.ref a),some (.int i),some (.int j),none]∧H=H') ?_ ?_
 rotate_left
 ·intro u' hu
  walk_at "rd"
  refine⟨⟨by decide,by decide⟩,by decide,?_⟩
  by_cases h0:c / 9 % 2=0
  ·rw [if_pos h0]
   refine⟨by omega,fun p hp=>?_⟩
   have sp:ax H (upd H p (.lst [.str (Str.ofString "span"),.int (i+1),.int (j+1)])):=au hp
   have hp1:(upd H p (.lst [.str (Str.ofString "span"),.int (i+1),.int (j+1)])) p=some (.lst [.str (Str.ofString "span"),.int (i+1),.int (j+1)]):=ab
   generalize upd H p (.lst [.str (Str.ofString "span"),.int (i+1),.int (j+1)])=H1 at sp hp1
   refine⟨a,bs,i,j,rfl,hR.same sp,hok,hi,hj,fun p2 ns H2 n1 n2 nb h2 s2=>?_⟩
   refine⟨p2,ns,bits,rfl,aO.of h2,n1,n2,fun p3 D H3 d1 d2 dn h3 s3=>?_⟩
   refine fB ((s2.trans s3) _ _ hp1) h3 (by simp;omega) fun p4 hp4=>?_
   exact q p4 (.span i j D) _ trivial ⟨by omega,by omega,by omega,by omega⟩ ⟨List.forall_mem_cons.mpr ⟨by omega,List.forall_mem_cons.mpr ⟨by omega,fun d hd=>by have:=nb d (dn d hd);omega⟩⟩,d1,d2⟩ ab ((sp.trans (s2.trans s3)).upd hp4)
  ·rw [if_neg h0]
   exact hu _ _ ⟨rfl,rfl⟩
 rintro _ _ ⟨rfl,rfl⟩
 refine bo (fun σ H'=>∃bt:Int,1≤bt∧bt≤5∧σ=[some (.int c),some (.int bits),some (.ref a),some (.int i),some (.int j),some (.int bt)]∧H=H') ?_ ?_
 rotate_left
 ·intro u' hu
  walk_at "rd"
  exact⟨⟨by decide,by decide⟩,by decide,hu _ _ ⟨_,by omega,by omega,rfl,rfl⟩⟩
 rintro _ _ ⟨bt,t1,t5,rfl,rfl⟩
 walk_at "rd"
 refine⟨by omega,fun p hp=>?_⟩
 have sp:ax H (upd H p (.lst [.str (Str.ofString "clock"),.int (i+1),.int (j+1),.int bt])):=au hp
 have hp1:(upd H p (.lst [.str (Str.ofString "clock"),.int (i+1),.int (j+1),.int bt])) p=some (.lst [.str (Str.ofString "clock"),.int (i+1),.int (j+1),.int bt]):=ab
 generalize upd H p (.lst [.str (Str.ofString "clock"),.int (i+1),.int (j+1),.int bt])=H1 at sp hp1
 simp only [va]
 walk_at "rd"
 refine⟨by omega,fun p2 hp2=>?_⟩
 have s2:ax H1 (upd H1 p2 (.lst ((L2.intsFrom 0 bt.toNat).map V.int))):=au hp2
 refine⟨p2,L2.intsFrom 0 bt.toNat,bits,rfl,aO.of ab,by simp [L2.intsFrom];omega,by simp [L2.intsFrom];omega,fun p3 D H3 d1 d2 dn h3 s3=>?_⟩
 refine fB ((s2.trans s3) _ _ hp1) h3 (by simp;omega) fun p4 hp4=>?_
 refine q p4 (.clock i j bt D) _ trivial ⟨by omega,by omega,by omega,by omega,t1⟩ ⟨List.forall_mem_cons.mpr ⟨by omega,List.forall_mem_cons.mpr ⟨by omega,List.forall_mem_cons.mpr ⟨by omega,fun d hd=>?_⟩⟩⟩,d1,d2⟩ ab ((sp.trans (s2.trans s3)).upd hp4)
 have hd':=dn d hd
 simp only [L2.intsFrom,List.mem_map,List.mem_range]at hd'
 obtain⟨k,hk,rfl⟩:=hd'
 omega
end
def pE(nv:Nat)(R:aR):Prop:=c9 nv R∧rQ R∧1≤ke R∧ke R≤4
def uf(K:PySem.W.Frag):Sp:=fun vs H Q _=>∃(a:Addr) (bs:List (Int×Int)) (c bits:Int),vs=[.int c,.int bits,.ref a]∧bX K H a bs∧zq bs∧1≤bs.length∧bs.length≤4∧∀(p:Addr) (R:aR) H',pE bs.length R→H' p=some (.lst (cN R))→ax H H'→Q (.ref p) H'
theorem rC{R:ck}(h:pZ R):ke (.plain R)=1:=by
 cases R with
 | span _ _ _=>rfl
 | clock _ _ _ _=>rfl
 | _=>exact h.elim
section
variable {P:Program} {w:World} {K:PySem.W.Frag} {mg:Str→Option Value} {base:Heap} {aM:Addr}
theorem zw{f:Addr}{fd:FuncData}(F:cH K "_law_rule" "_law_rule" jd f fd)(T:Txt mg aM)(D_law_single:bZ P w K mg base "_law_single" 2 ["_law_cell","_law_bits","_law_ranges_here"] (nK K))(D_law_some:bZ P w K mg base "_law_some" 2 ["_law_values","_law_bits"] (qS K))(D_law_spans:bZ P w K mg base "_law_spans" 2 ["_law_ranges_here","_law_a","_law_b"] (mx K)):aP P w K mg base bY 3 f fd ["_law_cell","_law_bits","_law_ranges_here"] (uf K):=by
 refine F.ok sc_law_rule (fun vs H Q E h=>?_) (fun cdv A outer s H vs Q E hr h=>?_)
 ·obtain⟨a,bs,c,bits,rfl,_⟩:=h
  rfl
 obtain⟨a,bs,c,bits,rfl,hR,hok,b1,b4,q⟩:=h
 refine⟨_,(af (aJ (i:=3) sc_law_rule.nd rfl (Or.inl rfl) (aq (o1 bC) (pr 0) ae))
 (af (aJ (i:=4) sc_law_rule.nd rfl (Or.inl rfl) (aq (o1 bC) (aq (o1 bK) (pr 0) ae) (aq (o1 tO) ae ae)))
 (af (aJ (i:=5) sc_law_rule.nd rfl (Or.inl rfl) (aq (o1 bC) (pr 4) (aH (aQ K) (by rfl) T.n_len boot_len (aa (pr 2) ag))))
 (af (kM (aC (aL K) (pr 2) (pr 5) (fun _ _=>rfl)) (c7 K (n:=2) rfl (br (aN (i:=6) sc_law_rule.nd rfl (Or.inl rfl)) (br (aN (i:=7) sc_law_rule.nd rfl (Or.inl rfl)) c8))))
 (af (aJ (i:=8) sc_law_rule.nd rfl (Or.inl rfl) (kI rfl (by rfl) T.n_list (by rfl) T.n_range (aa (pr 6) (aa (aq (bO K) (pr 7) ae) ag))))
 (af (aV (aX (az (o0 kH) (pr 3) ae (aA _))) (ah (ar (aE D_law_single hr (by rfl) (aa (aq (bO K) (aq (hG K) ae (pr 4)) (pr 3)) (aa (pr 1) (aa (pr 2) ag)))))) aG)
 (af (aV (aX (az gr (pr 3) ae (aA _))) (ah (ar (aq (bO K) (b9 (aa aZ (aa (aq (bO K) (pr 5) ae) ag))) (aE D_law_some hr (by rfl) (aa (kI rfl (by rfl) T.n_list (by rfl) T.n_range (aa (aq (o0 bI) (pr 6) (pr 7)) (aa (aq (bO K) (aq (o0 bI) (pr 7) (pr 6)) ae) ag))) (aa (pr 1) ag)))))) aG)
 (af (aV (aX (az gr (pr 3) ae (aA _))) (af (aJ (i:=9) sc_law_rule.nd rfl (Or.inl rfl) (aq (o1 bC) (aq (o1 bK) (pr 4) ae) (aH (aQ K) (by rfl) T.n_len boot_len (aa (pr 2) ag))))
 (ah (ar (aq (bO K) (b9 (aa aZ (aa (aq (bO K) (pr 5) ae) (aa (aq (bO K) (pr 9) ae) ag)))) (aE D_law_some hr (by rfl) (aa (aE D_law_spans hr (by rfl) (aa (pr 2) (aa (pr 5) (aa (pr 9) ag)))) (aa (pr 1) ag))))))) aG)
 (af (aV (aX (az gr (pr 3) ae (aA _))) (ah (ar (b9 (aa aZ (aa (aq (bO K) (pr 5) ae) (aa (aq (o1 bC) (aq (o1 bK) (pr 4) ae) ae) ag)))))) aG)
 (af (aV (aX (az gr (pr 3) ae (aA _))) (ah (ar (b9 (aa aZ (aa (aq (bO K) (pr 5) ae) (aa (aq (bO K) ae (aq (o1 bC) (aq (o1 bK) (pr 4) ae) ae)) ag)))))) aG)
 (af (aV (aX (az gr (pr 3) ae (aA _))) (ah (ar (b9 (aa aZ (aa (aq (bO K) (pr 5) ae) (aa (aC (aL K) (pr 8) (aq (o1 bC) (aq (o1 bK) (pr 4) ae) (aH (aQ K) (by rfl) T.n_len boot_len (aa (pr 8) ag))) (fun _ _=>rfl)) (aa (aq (o1 bC) (aq (o1 bK) (pr 4) ae) ae) (aa (aq (o1 bC) (aq (o1 bK) (pr 4) ae) ae) ag)))))))) aG)
 (af (aV (aX (az gr (pr 3) ae (aA _))) (ah (ar (aq (bO K) (b9 (aa (aC (aL K) (b9 (aa aZ (aa aZ ag))) (aq (o1 bC) (aq (o1 bK) (pr 4) ae) ae) (fun _ _=>rfl)) (aa (aq (bO K) (pr 5) ae) ag))) (aE D_law_some hr (by rfl) (aa (pr 8) (aa (pr 1) ag)))))) aG)
 (af (aJ (i:=10) sc_law_rule.nd rfl (Or.inl rfl) (aq (bO K) ae (aq (o1 bC) (aq (o1 bK) (pr 4) ae) ae)))
 (ah (ar (aq (bO K) (b9 (aa aZ (aa (pr 10) (aa (aq (o1 bC) (aq (o1 bK) (pr 4) ae) (pr 10)) ag)))) (aE D_law_single hr (by rfl) (aa (aq (o1 bK) (pr 4) ae) (aa (pr 1) (aa (pr 2) ag)))))))))))))))))))),?_⟩
 have hs:sizeLine=16777216:=sizeLine_eq
 refine bo (fun σ H'=>∃kd:Int,0≤kd∧kd < 9∧σ=[some (.int c),some (.int bits),some (.ref a),some (.int kd),none,none,none,none,none,none,none]∧H=H') ?_ ?_
 rotate_left
 ·intro u' hu
  walk_at "rd"
  exact⟨by decide,hu _ _ ⟨_,Int.emod_nonneg _ (by decide),Int.emod_lt_of_pos _ (by decide),rfl,rfl⟩⟩
 rintro _ _ ⟨kd,qY,kd9,rfl,rfl⟩
 refine bo (fun σ H'=>∃rs:Int,0≤rs∧rs < 10 ^ 9∧σ=[some (.int c),some (.int bits),some (.ref a),some (.int kd),some (.int rs),none,none,none,none,none,none]∧H=H') ?_ ?_
 rotate_left
 ·intro u' hu
  walk_at "rd"
  exact⟨⟨by decide,by decide⟩,⟨by decide,by decide,by decide⟩,by decide,hu _ _ ⟨_,Int.emod_nonneg _ (by decide),Int.emod_lt_of_pos _ (by decide),rfl,rfl⟩⟩
 rintro _ _ ⟨rs,rs0,rs1,rfl,rfl⟩
 refine bo (fun σ H'=>∃i:Nat,i < bs.length∧σ=[some (.int c),some (.int bits),some (.ref a),some (.int kd),some (.int rs),some (.int i),none,none,none,none,none]∧H=H') ?_ ?_
 rotate_left
 ·intro u' hu
  walk_at "rd"
  obtain⟨ts,h1,h2,_⟩:=hR
  refine⟨_,.inl h1,?_⟩
  rw [List.length_map,h2]
  have m0:=Int.emod_nonneg rs (show((bs.length:Nat):Int)≠0 by omega)
  have m1:=Int.emod_lt_of_pos rs (show(0:Int) < (bs.length:Nat)by omega)
  obtain⟨i,hi⟩:=Int.eq_ofNat_of_zero_le m0
  rw [hi]at m1 ⊢
  exact⟨by omega,hu _ _ ⟨i,by omega,rfl,rfl⟩⟩
 rintro _ _ ⟨i,hi,rfl,rfl⟩
 obtain⟨bP,f0,f1,hbb⟩:=id hok
 have bi:=hbb _ (List.getElem_mem hi)
 obtain⟨lo,hlo⟩:∃lo,(bs[i]).1=lo:=⟨_,rfl⟩
 obtain⟨hg,hhi⟩:∃hg,(bs[i]).2=hg:=⟨_,rfl⟩
 rw [hlo,hhi]at bi
 obtain⟨b50,b51,b52,b53⟩:=bi
 refine bo (fun σ H'=>σ=[some (.int c),some (.int bits),some (.ref a),some (.int kd),some (.int rs),some (.int i),some (.int lo),some (.int hg),none,none,none]∧H=H') ?_ ?_
 rotate_left
 ·intro u' hu
  walk_at "rd"
  refine hR.ix hi fun t ht=>⟨t,rfl,_,ht,rfl,?_⟩
  rw [hlo,hhi]
  walk_at "rd"
  exact hu _ _ ⟨rfl,rfl⟩
 rintro _ _ ⟨rfl,rfl⟩
 refine bo (fun σ H'=>∃(no:Addr) (ns:List Int),1≤ns.length∧ns.length≤4∧(∀n∈ns,n.natAbs≤10 ^ 21)∧H' no=some (.lst (ns.map V.int))∧σ=[some (.int c),some (.int bits),some (.ref a),some (.int kd),some (.int rs),some (.int i),some (.int lo),some (.int hg),some (.ref no),none,none]∧ax H H') ?_ ?_
 rotate_left
 ·intro u' hu
  walk_at "rd"
  simp only [my]
  walk_at "rd"
  refine⟨by omega,fun p hp=>hu _ _ ⟨p,_,?_,?_,fun n hn=>?_,ab,rfl,au hp⟩⟩
  ·simp [L2.intsFrom];omega
  ·simp [L2.intsFrom];omega
  ·simp only [L2.intsFrom,List.mem_map,List.mem_range]at hn
   obtain⟨k,hk,rfl⟩:=hn
   omega
 rintro _ H1 ⟨no,ns,n1,n4,nb,hno,rfl,s1⟩
 have hR1:=hR.same s1
 refine bo (fun σ H'=>2≤kd∧σ=[some (.int c),some (.int bits),some (.ref a),some (.int kd),some (.int rs),some (.int i),some (.int lo),some (.int hg),some (.ref no),none,none]∧H1=H') ?_ ?_
 rotate_left
 ·intro u' hu
  walk_at "rd"
  by_cases hk:kd < 2
  ·rw [if_pos hk]
   refine⟨.of_left (by decide),?_⟩
   exact⟨a,bs,_,bits,rfl,hR1,hok,b1,b4,fun p R H2 hin hgd hnb hp s2=>q p (.plain R) _ ⟨hgd,hnb,by rw [rC hin];decide,by rw [rC hin];decide⟩ hp (s1.trans s2)⟩
  ·rw [if_neg hk]
   exact hu _ _ ⟨by omega,rfl,rfl⟩
 rintro _ _ ⟨k2,rfl,rfl⟩
 refine bo (fun σ H'=>3≤kd∧σ=[some (.int c),some (.int bits),some (.ref a),some (.int kd),some (.int rs),some (.int i),some (.int lo),some (.int hg),some (.ref no),none,none]∧H1=H') ?_ ?_
 rotate_left
 ·intro u' hu
  walk_at "rd"
  by_cases hk:kd=2
  ·rw [if_pos hk]
   refine⟨by omega,fun p hp=>?_⟩
   have sp:ax H1 (upd H1 p (.lst [.str (Str.ofString "move"),.int (i+1)])):=au hp
   have hp1:(upd H1 p (.lst [.str (Str.ofString "move"),.int (i+1)])) p=some (.lst [.str (Str.ofString "move"),.int (i+1)]):=ab
   generalize upd H1 p (.lst [.str (Str.ofString "move"),.int (i+1)])=H2 at sp hp1
   simp only [my]
   walk_at "rd"
   refine⟨by omega,fun p2 hp2=>?_⟩
   have s2:ax H2 (upd H2 p2 (.lst ((L2.intsFrom (lo - hg) (hg - lo+1 - (lo - hg)).toNat).map V.int))):=au hp2
   refine⟨p2,L2.intsFrom (lo - hg) (hg - lo+1 - (lo - hg)).toNat,bits,rfl,aO.of ab,by simp [L2.intsFrom];omega,by simp [L2.intsFrom];omega,fun p3 D H3 d1 d2 dn h3 s3=>?_⟩
   refine fB ((s2.trans s3) _ _ hp1) h3 (by simp;omega) fun p4 hp4=>?_
   refine q p4 (.plain (.move i D)) _ ⟨⟨by omega,by omega⟩,⟨List.forall_mem_cons.mpr ⟨by omega,fun d hd=>?_⟩,d1,d2⟩,show(1:Int)≤1 by decide,show(1:Int)≤4 by decide⟩ ab ((s1.trans (sp.trans (s2.trans s3))).upd hp4)
   have hd':=dn d hd
   simp only [L2.intsFrom,List.mem_map,List.mem_range]at hd'
   obtain⟨k,hk,rfl⟩:=hd'
   omega
  ·rw [if_neg hk]
   exact hu _ _ ⟨by omega,rfl,rfl⟩
 rintro _ _ ⟨k3,rfl,rfl⟩
 refine bo (fun σ H'=>4≤kd∧σ=[some (.int c),some (.int bits),some (.ref a),some (.int kd),some (.int rs),some (.int i),some (.int lo),some (.int hg),some (.ref no),none,none]∧H1=H') ?_ ?_
 rotate_left
 ·intro u' hu
  walk_at "rd"
  by_cases hk:kd=3
  ·rw [if_pos hk]
   refine⟨⟨by decide,by decide⟩,?_⟩
   obtain⟨ts,h1,h2,_⟩:=id hR1
   refine⟨_,.inl h1,?_⟩
   rw [List.length_map,h2]
   have m0:=Int.emod_nonneg (rs / 3) (show((bs.length:Nat):Int)≠0 by omega)
   have m1:=Int.emod_lt_of_pos (rs / 3) (show(0:Int) < (bs.length:Nat)by omega)
   obtain⟨j,hj⟩:=Int.eq_ofNat_of_zero_le m0
   rw [hj]at m1 ⊢
   refine⟨by omega,by omega,fun p hp=>?_⟩
   have sp:ax H1 (upd H1 p (.lst [.str (Str.ofString "alike"),.int (i+1),.int (j+1)])):=au hp
   have hp1:(upd H1 p (.lst [.str (Str.ofString "alike"),.int (i+1),.int (j+1)])) p=some (.lst [.str (Str.ofString "alike"),.int (i+1),.int (j+1)]):=ab
   generalize upd H1 p (.lst [.str (Str.ofString "alike"),.int (i+1),.int (j+1)])=H2 at sp hp1
   refine⟨a,bs,i,j,rfl,hR1.same sp,hok,hi,by omega,fun p2 ms H3 n1 n2 nb h2 s2=>?_⟩
   refine⟨p2,ms,bits,rfl,aO.of h2,n1,n2,fun p3 D H4 d1 d2 dn h3 s3=>?_⟩
   refine fB ((s2.trans s3) _ _ hp1) h3 (by simp;omega) fun p4 hp4=>?_
   exact q p4 (.plain (.alike i j D)) _ ⟨⟨by omega,by omega,by omega,by omega⟩,⟨List.forall_mem_cons.mpr ⟨by omega,List.forall_mem_cons.mpr ⟨by omega,fun d hd=>by have:=nb d (dn d hd);omega⟩⟩,d1,d2⟩,show(1:Int)≤1 by decide,show(1:Int)≤4 by decide⟩ ab ((s1.trans (sp.trans (s2.trans s3))).upd hp4)
  ·rw [if_neg hk]
   exact hu _ _ ⟨by omega,rfl,rfl⟩
 rintro _ _ ⟨k4,rfl,rfl⟩
 refine bo (fun σ H'=>5≤kd∧σ=[some (.int c),some (.int bits),some (.ref a),some (.int kd),some (.int rs),some (.int i),some (.int lo),some (.int hg),some (.ref no),none,none]∧H1=H') ?_ ?_
 rotate_left
 ·intro u' hu
  walk_at "rd"
  by_cases hk:kd=4
  ·rw [if_pos hk]
   exact⟨⟨by decide,by decide⟩,by decide,by omega,fun p hp=>q p (.plain (.back i (rs / 9 % 3))) _ ⟨⟨by omega,by omega,by omega⟩,⟨List.forall_mem_cons.mpr ⟨by omega,List.forall_mem_cons.mpr ⟨by omega,fun _ z=>by cases z⟩⟩,trivial⟩,show(1:Int)≤3 by decide,show(3:Int)≤4 by decide⟩ ab (s1.upd hp)⟩
  ·rw [if_neg hk]
   exact hu _ _ ⟨by omega,rfl,rfl⟩
 rintro _ _ ⟨k5,rfl,rfl⟩
 refine bo (fun σ H'=>6≤kd∧σ=[some (.int c),some (.int bits),some (.ref a),some (.int kd),some (.int rs),some (.int i),some (.int lo),some (.int hg),some (.ref no),none,none]∧H1=H') ?_ ?_
 rotate_left
 ·intro u' hu
  walk_at "rd"
  by_cases hk:kd=5
  ·rw [if_pos hk]
   exact⟨⟨by decide,by decide⟩,by decide,by omega,fun p hp=>q p (.plain (.held i (1+rs / 9 % 3))) _ ⟨⟨by omega,by omega,by omega⟩,⟨List.forall_mem_cons.mpr ⟨by omega,List.forall_mem_cons.mpr ⟨by omega,fun _ z=>by cases z⟩⟩,trivial⟩,show 1≤1+rs / 9 % 3 by omega,show 1+rs / 9 % 3≤4 by omega⟩ ab (s1.upd hp)⟩
  ·rw [if_neg hk]
   exact hu _ _ ⟨by omega,rfl,rfl⟩
 rintro _ _ ⟨k6,rfl,rfl⟩
 refine bo (fun σ H'=>7≤kd∧σ=[some (.int c),some (.int bits),some (.ref a),some (.int kd),some (.int rs),some (.int i),some (.int lo),some (.int hg),some (.ref no),none,none]∧H1=H') ?_ ?_
 rotate_left
 ·intro u' hu
  walk_at "rd"
  by_cases hk:kd=6
  ·rw [if_pos hk]
   refine⟨⟨by decide,by decide⟩,_,.inl (aO.of hno),?_⟩
   rw [List.length_map]
   obtain⟨x,hx⟩:=uM (xs:=ns.map V.int) (c:=rs / 9) (m:=(ns.length:Int)) (by omega) (by simp)
   obtain⟨n,hn,rfl⟩:=uL (P:=fun x=>∃n∈ns,x=.int n) (fun x hx=>by obtain⟨y,hy,rfl⟩:=List.mem_map.mp hx;exact⟨y,hy,rfl⟩) hx
   have nbn:=nb n hn
   refine⟨by omega,aT (aO.of hno) hx ?_⟩
   exact⟨⟨by decide,by decide⟩,by decide,⟨by decide,by decide⟩,by decide,by omega,fun p hp=>q p (.plain (.times i n (rs / 36 % 3) (rs / 108 % 4))) _ ⟨⟨by omega,by omega,by omega⟩,⟨List.forall_mem_cons.mpr ⟨by omega,List.forall_mem_cons.mpr ⟨by omega,List.forall_mem_cons.mpr ⟨by omega,List.forall_mem_cons.mpr ⟨by omega,fun _ z=>by cases z⟩⟩⟩⟩,show 0≤rs / 36 % 3 by omega⟩,show 1≤rs / 108 % 4+1 by omega,show rs / 108 % 4+1≤4 by omega⟩ ab (s1.upd hp)⟩
  ·rw [if_neg hk]
   exact hu _ _ ⟨by omega,rfl,rfl⟩
 rintro _ _ ⟨k7,rfl,rfl⟩
 refine bo (fun σ H'=>σ=[some (.int c),some (.int bits),some (.ref a),some (.int kd),some (.int rs),some (.int i),some (.int lo),some (.int hg),some (.ref no),none,none]∧H1=H') ?_ ?_
 rotate_left
 ·intro u' hu
  walk_at "rd"
  by_cases hk:kd=7
  ·rw [if_pos hk]
   have two:∀(z:Str) (f:ck) (D:List Int) (p2:Addr) (p3:Addr) (H3:Hp),eS f=.str z::((i+1:Int)::D).map V.int→gd bs.length f→Ay f→ke (.plain f)=1→ax H1 H3→H3 p2=some (.lst [.str z,.int (i+1)])→H3 p3=some (.lst (D.map V.int))→D.length≤12→eI K (.ref p2) (.ref p3) H3 Q:=fun z f D p2 p3 H3 e1 e2 e3 e4 s3 h2 h3 d2=>by
    refine fB h2 h3 (by simp;omega) fun p4 hp4=>?_
    exact q p4 (.plain f) _ ⟨e2,e3,by rw [e4];decide,by rw [e4];decide⟩ (by rw [ab];show _=some (HO.lst (eS f));rw [e1];rfl) ((s1.trans s3).upd hp4)
   refine⟨by omega,fun p hp=>?_⟩
   have sp:ax H1 (upd H1 p (.lst [.str (Str.ofString "begin"),.str (Str.ofString "close")])):=au hp
   have hp1:(upd H1 p (.lst [.str (Str.ofString "begin"),.str (Str.ofString "close")])) p=some (.lst [.str (Str.ofString "begin"),.str (Str.ofString "close")]):=ab
   generalize upd H1 p (.lst [.str (Str.ofString "begin"),.str (Str.ofString "close")])=H2 at sp hp1
   refine⟨⟨by decide,by decide⟩,by decide,?_⟩
   have hno2:=sp _ _ hno
   have h2:rs / 9 % 2=0∨rs / 9 % 2=1:=by omega
   rcases h2 with e | e<;>rw [e]
   ·refine aT (aO.of hp1) (bD rfl) ⟨by omega,fun p2 hp2=>?_⟩
    refine⟨no,ns,bits,rfl,aO.of ((au hp2) _ _ hno2),n1,by omega,fun p3 D H3 d1 d2 dn h3 s3=>?_⟩
    exact two (Str.ofString "begin") (.begin i D) D p2 p3 H3 rfl ⟨by omega,by omega⟩ ⟨List.forall_mem_cons.mpr ⟨by omega,fun d hd=>by have:=nb d (dn d hd);omega⟩,d1,d2⟩ rfl ((sp.upd hp2).trans s3) (s3 _ _ ab) h3 d2
   ·refine aT (aO.of hp1) (show dz _ ((1:Nat):Int)=_ from aK rfl) ⟨by omega,fun p2 hp2=>?_⟩
    refine⟨no,ns,bits,rfl,aO.of ((au hp2) _ _ hno2),n1,by omega,fun p3 D H3 d1 d2 dn h3 s3=>?_⟩
    exact two (Str.ofString "close") (.close i D) D p2 p3 H3 rfl ⟨by omega,by omega⟩ ⟨List.forall_mem_cons.mpr ⟨by omega,fun d hd=>by have:=nb d (dn d hd);omega⟩,d1,d2⟩ rfl ((sp.upd hp2).trans s3) (s3 _ _ ab) h3 d2
  ·rw [if_neg hk]
   exact hu _ _ ⟨rfl,rfl⟩
 rintro _ _ ⟨rfl,rfl⟩
 refine bo (fun σ H'=>∃bt:Int,1≤bt∧bt≤3∧σ=[some (.int c),some (.int bits),some (.ref a),some (.int kd),some (.int rs),some (.int i),some (.int lo),some (.int hg),some (.ref no),none,some (.int bt)]∧H1=H') ?_ ?_
 rotate_left
 ·intro u' hu
  walk_at "rd"
  exact⟨⟨by decide,by decide⟩,by decide,hu _ _ ⟨_,by omega,by omega,rfl,rfl⟩⟩
 rintro _ _ ⟨bt,t1,t3,rfl,rfl⟩
 walk_at "rd"
 refine⟨⟨by decide,by decide⟩,by omega,by omega,fun p hp=>?_⟩
 have m0:=Int.emod_nonneg (rs / 27) (show bt≠0 by omega)
 have m1:=Int.emod_lt_of_pos (rs / 27) (show 0 < bt by omega)
 generalize rs / 27 % bt=u at m0 m1 ⊢
 have sp:ax H1 (upd H1 p (.lst [.str (Str.ofString "every"),.int bt,.int u])):=au hp
 have hp1:(upd H1 p (.lst [.str (Str.ofString "every"),.int bt,.int u])) p=some (.lst [.str (Str.ofString "every"),.int bt,.int u]):=ab
 generalize upd H1 p (.lst [.str (Str.ofString "every"),.int bt,.int u])=H2 at sp hp1 ⊢
 refine⟨⟨by decide,by decide⟩,a,bs,_,bits,rfl,hR1.same sp,hok,b1,b4,fun p2 R H3 hin hgd hnb hp2 s3=>?_⟩
 have hl:=jM hnb
 refine fB (s3 _ _ hp1) hp2 (by rw [jQ];simp;omega) fun p4 hp4=>?_
 exact q p4 (.every bt u R) _ ⟨⟨hgd,hin,t1,m0,m1⟩,⟨hnb,by omega,by omega⟩,t1,show bt≤4 by omega⟩ ab ((s1.trans (sp.trans s3)).upd hp4)
end
def fQ(H:Hp)(ru:Addr)(Rs:List aR):Prop:=∃ws:List Addr,H ru=some (.lst (ws.map V.ref))∧ws.length=Rs.length∧∀(j:Nat) (x:Addr) (R:aR),ws[j]?=some x→Rs[j]?=some R→H x=some (.lst (cN R))
theorem fQ.same{H H':Hp}{ru:Addr}{Rs:List aR}(s:ax H H')(h:fQ H ru Rs):fQ H' ru Rs:=by
 obtain⟨ws,h1,h2,h3⟩:=h
 exact⟨ws,s _ _ h1,h2,fun j x R e1 e2=>s _ _ (h3 j x R e1 e2)⟩
theorem yo(R:aR)(ws:List Addr):(HO.lst (cN R))≠HO.lst (ws.map V.ref):=fun e=>by
 have e':cN R=ws.map V.ref:=by injection e
 cases R with
 | plain R=>
  rw [show cN (.plain R)=eS R from rfl,jQ]at e'
  cases ws with
  | nil=>cases e'
  | cons x ws=>injection e' with e1 _;cases e1
 | every m a R=>
  cases ws with
  | nil=>cases e'
  | cons x ws=>injection e' with e1 _;cases e1
theorem yK:∀(bs:List (Int×Int)) (t:Int),(∀b∈bs,1≤dD b∧dD b≤4)→1≤t→1≤bs.foldl (fun t b=>t * dD b) t∧bs.foldl (fun t b=>t * dD b) t≤t * 4 ^ bs.length
 | [],t,_,h=>⟨h,by simp⟩
 | b::bs,t,hb,h=>by
  obtain⟨b1,b2⟩:=hb b (.head _)
  have h1:1≤t * dD b:=by
   have:=Int.mul_le_mul h b1 (by decide) (by omega)
   omega
  obtain⟨i1,i2⟩:=yK bs (t * dD b) (fun b h=>hb b (.tail _ h)) h1
  refine⟨i1,Int.le_trans i2 ?_⟩
  have h2:t * dD b≤t * 4:=Int.mul_le_mul_of_nonneg_left b2 (by omega)
  have h3:t * dD b * 4 ^ bs.length≤t * 4 * 4 ^ bs.length:=Int.mul_le_mul_of_nonneg_right h2 (Int.le_of_lt (Int.pow_pos (by decide)))
  rw [List.length_cons,Int.pow_succ,Int.mul_comm (4 ^ bs.length) 4,←Int.mul_assoc]
  exact h3
theorem yL{bs:List (Int×Int)}(h:zq bs)(h4:bs.length≤4):1≤nV bs∧nV bs≤256:=by
 obtain⟨bP,_,_,hb⟩:=h
 obtain⟨h1,h2⟩:=yK bs 1 (fun b hb'=>by have:=hb b hb';unfold dD;omega) (by decide)
 refine⟨h1,Int.le_trans h2 ?_⟩
 have:bs.length=0∨bs.length=1∨bs.length=2∨bs.length=3∨bs.length=4:=by omega
 rcases this with e | e | e | e | e<;>rw [e]<;>decide
def qR(K:PySem.W.Frag):Sp:=fun vs H Q _=>∃(l a:Addr) (ns:List Int) (bs:List (Int×Int)),vs=[.ref l,.ref a]∧aO K H l (ns.map V.int)∧(∀x∈ns,x.natAbs < 2 ^ GB)∧bX K H a bs∧zq bs∧1≤bs.length∧bs.length≤4∧∀(ru:Addr) (Rs:List aR) H',fQ H' ru Rs→(∀R∈Rs,pE bs.length R)→Rs.length≤4→kj bs Rs≤400→ax H H'→Q (.ref ru) H'
section
variable {P:Program} {w:World} {K:PySem.W.Frag} {mg:Str→Option Value} {base:Heap} {aM:Addr}
theorem xR{f:Addr}{fd:FuncData}(F:cH K "_law_rules" "_law_rules" il f fd)(T:Txt mg aM)(D_law_got:bZ P w K mg base "_law_got" 3 ["_law_script","_law_place"] (lJ K))(D_law_rule:bZ P w K mg base "_law_rule" 3 ["_law_cell","_law_bits","_law_ranges_here"] (uf K))(D_law_size:bZ P w K mg base "_law_size" 3 ["_law_rule_here"] (ug K)):aP P w K mg base bY 4 f fd ["_law_script","_law_ranges_here"] (qR K):=by
 refine F.ok sc_law_rules (fun vs H Q E h=>?_) (fun cdv A outer s H vs Q E hr h=>?_)
 ·obtain⟨l,a,ns,bs,rfl,_⟩:=h
  rfl
 obtain⟨l,a,ns,bs,rfl,hS,hB,hR,hok,b1,b4,q⟩:=h
 refine⟨_,(af (aJ (i:=2) sc_law_rules.nd rfl (Or.inl rfl) ae)
 (af (cI PassesOwn.never rfl (b6 K (pr 1)) (c7 K (n:=2) rfl (br (aN (i:=3) sc_law_rules.nd rfl (Or.inl rfl)) (br (aN (i:=4) sc_law_rules.nd rfl (Or.inl rfl)) c8)))
 (ah (aJ (i:=2) sc_law_rules.nd rfl (Or.inl rfl) (aq (hG K) (pr 2) (aq (bO K) (aq (o0 bI) (pr 4) (pr 3)) ae)))))
 (af (aJ (i:=5) sc_law_rules.nd rfl (Or.inl rfl) (b9 ag))
 (af (cI PassesOwn.never rfl (dk rfl T.n_range (aa (aq (o1 bC) (aq (o1 bK) (aE D_law_got hr (by rfl) (aa (pr 0) (aa ae ag))) ae) ae) ag)) (aN (i:=6) sc_law_rules.nd rfl (Or.inl rfl))
 (af (aJ (i:=7) sc_law_rules.nd rfl (Or.inl rfl) (aE D_law_rule hr (by rfl) (aa (aE D_law_got hr (by rfl) (aa (pr 0) (aa (aq (bO K) ae (aq (hG K) ae (pr 6))) ag))) (aa (aE D_law_got hr (by rfl) (aa (pr 0) (aa (aq (bO K) ae (aq (hG K) ae (pr 6))) ag))) (aa (pr 1) ag)))))
 (ah (aV (aX (az (o0 gR) (aq (hG K) (pr 2) (aE D_law_size hr (by rfl) (aa (pr 7) ag))) ae (aA _))) (af (aJ (i:=2) sc_law_rules.nd rfl (Or.inl rfl) (aq (hG K) (pr 2) (aE D_law_size hr (by rfl) (aa (pr 7) ag))))
 (ah (cw (cz K PySem.F.plainAttrs_list PySem.F.slot_list_append PySem.F.type_list_append fb (pr 5) (aa (pr 7) ag))))) aG))))
 (ah (ar (pr 5))))))),?_⟩
 have hs:sizeLine=16777216:=sizeLine_eq
 have gt:∀{p:Int} {H':Hp} {Q':VK},ax H H'→0≤p→p≤1000→(∀i H'',ax H H''→ax H' H''→Q' (.int i) H'')→lJ K [.ref l,.int p] H' Q' E0:=fun {p H' Q'} s1 h0 h1 q=>⟨l,ns,p,rfl,s1.seq hS,hB,h0,h1,fun H'' s2=>q _ H'' (s1.trans s2) s2⟩
 obtain⟨w1,w2⟩:=yL hok b4
 refine bo (fun σ H'=>σ=[some (.ref l),some (.ref a),some (.int 1),none,none,none,none,none]∧H=H') ?_ ?_
 rotate_left
 ·intro u' hu
  walk_at "rd"
  exact hu _ _ ⟨rfl,rfl⟩
 rintro _ _ ⟨rfl,rfl⟩
 refine bo (fun σ H'=>∃o3 o4:Option V,σ=[some (.ref l),some (.ref a),some (.int (nV bs)),o3,o4,none,none,none]∧H=H') ?_ ?_
 rotate_left
 ·intro u' hu
  obtain⟨ts,hts,htl,htc⟩:=hR
  obtain⟨bP,_,_,hbb⟩:=hok
  walk_at "rd"
  refine cg hts (dJ (xs:=ts.map V.ref) (fun i σ H'=>∃o3 o4:Option V,σ=[some (.ref l),some (.ref a),some (.int (nV (bs.take i))),o3,o4,none,none,none]∧H=H') ⟨none,none,rfl,rfl⟩ (fun i σ H' _ z=>by obtain⟨_,_,_,z⟩:=z;exact z▸hts) ?_ ?_)
  ·rintro i y σ H1 hy ⟨o3,o4,rfl,rfl⟩
   rw [List.getElem?_map]at hy
   cases ht:ts[i]? with
   | none=>rw [ht]at hy;cases hy
   | some t=>
    rw [ht]at hy
    cases hy
    have hi:i < bs.length:=by rw [←htl];exact(List.getElem?_eq_some_iff.mp ht).1
    have hb:bs[i]?=some bs[i]:=List.getElem?_eq_getElem hi
    have hbi:=hbb _ (List.getElem_mem hi)
    have e:nV (bs.take (i+1))=nV (bs.take i) * dD bs[i]:=by
     unfold nV
     rw [List.take_add_one,hb,List.foldl_append]
     rfl
    walk_at "rd"
    refine⟨_,htc i t _ ht hb,rfl,?_⟩
    walk_at "rd"
    rw [e]
    unfold dD
    exact⟨.of_right (intBits_le_iff.mpr (by omega)),rfl⟩
  ·rintro σ H1 ⟨o3,o4,rfl,rfl⟩
   rw [List.length_map,htl,List.take_length]
   exact hu _ _ ⟨o3,o4,rfl,rfl⟩
 rintro _ _ ⟨o3,o4,rfl,rfl⟩
 refine bo (fun σ H'=>∃ru:Addr,H ru=none∧H' ru=some (.lst (([]:List Addr).map V.ref))∧σ=[some (.ref l),some (.ref a),some (.int (nV bs)),o3,o4,some (.ref ru),none,none]∧ax H H') ?_ ?_
 rotate_left
 ·intro u' hu
  walk_at "rd"
  exact⟨by omega,fun p hp=>hu _ _ ⟨p,hp,ab,rfl,au hp⟩⟩
 rintro _ H1 ⟨ru,hru,hru1,rfl,s1⟩
 walk_at "rd"
 refine gt s1 (by decide) (by decide) fun c H2 s2 s12=>?_
 walk_at "rd"
 obtain⟨Pv,hPv⟩:∃Pv:Nat→L2.St→Hp→Prop,Pv=fun i σ H'=>∃(ws:List Addr) (Rs:List aR) (o6 o7:Option V),σ=[some (.ref l),some (.ref a),some (.int (kj bs Rs)),o3,o4,some (.ref ru),o6,o7]∧ws.length=Rs.length∧Rs.length≤i∧1≤kj bs Rs∧kj bs Rs≤400∧(∀R∈Rs,pE bs.length R)∧H' ru=some (.lst (ws.map V.ref))∧(∀(j:Nat) (x:Addr) (R:aR),ws[j]?=some x→Rs[j]?=some R→H' x=some (.lst (cN R)))∧ax H H':=⟨_,rfl⟩
 refine⟨⟨by decide,by decide⟩,by decide,by omega,by omega,cU Pv (by rw [hPv];exact⟨[],[],none,none,rfl,rfl,Nat.le_refl _,w1,show nV bs≤400 by omega,fun _ z=>(by cases z),s12 _ _ hru1,fun j x R e=>(by cases e),s2⟩) ?_ ?_⟩
 ·clear hru1 s1 s2 s12
  intro i σ H3 hi hI
  have hI':=hI
  rw [hPv]at hI'
  clear hI
  obtain⟨ws,Rs,o6,o7,rfl,wl,rl,t1,t4,hRs,hu3,hw3,s3⟩:=hI'
  refine bo (fun σ H'=>∃(x:Addr) (R:aR),pE bs.length R∧H' x=some (.lst (cN R))∧σ=[some (.ref l),some (.ref a),some (.int (kj bs Rs)),o3,o4,some (.ref ru),some (.int i),some (.ref x)]∧ax H3 H') ?_ ?_
  rotate_left
  ·intro u' hu
   walk_at "rd"
   refine⟨.of_left (by decide),?_⟩
   refine gt s3 (by omega) (by omega) fun c1 H4 s4 s34=>?_
   walk_at "rd"
   refine⟨.of_left (by decide),?_⟩
   refine gt s4 (by omega) (by omega) fun c2 H5 s5 s45=>?_
   exact⟨a,bs,c1,c2,rfl,hR.same s5,hok,b1,b4,fun x R H6 hr hx s6=>hu _ _ ⟨x,R,hr,hx,rfl,(s34.trans s45).trans s6⟩⟩
  rintro _ H4 ⟨x,R,hrow,hx4,rfl,s34⟩
  obtain⟨_,_,z1,z4⟩:=id hrow
  have s4:=s3.trans s34
  have hu4:=s34 _ _ hu3
  have eW:kj bs (Rs++[R])=kj bs Rs * ke R:=by
   unfold kj
   rw [List.foldl_append]
   rfl
  walk_at "rd"
  refine⟨x,R,rfl,aO.of hx4,?_⟩
  walk_at "rd"
  refine⟨.of_right (intBits_le_iff.mpr (by omega)),?_⟩
  by_cases hw:kj bs Rs * ke R≤400
  ·rw [if_pos hw]
   refine⟨x,R,rfl,aO.of hx4,?_⟩
   walk_at "rd"
   refine⟨.of_right (intBits_le_iff.mpr (by omega)),.inl ⟨rfl,_,aO.of hu4⟩,ru,_,_,rfl,rfl,hu4,by rw [List.length_map];omega,?_⟩
   rw [←eW]
   have hp:1≤kj bs Rs * ke R:=by
    have:=Int.mul_le_mul t1 z1 (by decide) (by omega)
    omega
   rw [hPv]
   refine⟨ws++[x],Rs++[R],_,_,rfl,by simp [wl],by simp;omega,by rw [eW];exact hp,by rw [eW];exact hw,fun R' hR'=>?_,by rw [ab,List.map_append];rfl,fun j y R' e1 e2=>?_,fun c' u hc=>?_⟩
   ·rcases List.mem_append.mp hR' with h | h
    ·exact hRs R' h
    ·rw [List.mem_singleton.mp h];exact hrow
   ·by_cases hj:j < ws.length
    ·rw [List.getElem?_append_left hj]at e1
     rw [List.getElem?_append_left (by omega)]at e2
     have h:=s34 _ _ (hw3 j y R' e1 e2)
     rw [aj (dM h hu4 (yo R' ws))]
     exact h
    ·rw [List.getElem?_append_right (by omega)]at e1 e2
     have ej:j=ws.length:=by
      have:=(List.getElem?_eq_some_iff.mp e1).1
      simp at this
      omega
     rw [ej,Nat.sub_self]at e1
     rw [ej,wl,Nat.sub_self]at e2
     cases e1
     cases e2
     rw [aj (dM hx4 hu4 (yo R ws))]
     exact hx4
   ·rw [aj (ay hc hru)]
    exact s4 _ _ hc
  ·rw [if_neg hw]
   rw [hPv]
   exact⟨ws,Rs,_,_,rfl,wl,by omega,t1,t4,hRs,hu4,fun j y R' e1 e2=>s34 _ _ (hw3 j y R' e1 e2),s4⟩
 ·intro σ H3 hI
  rw [hPv]at hI
  obtain⟨ws,Rs,o6,o7,rfl,wl,rl,t1,t4,hRs,hu3,hw3,s3⟩:=hI
  walk_at "rd"
  exact q ru Rs _ ⟨ws,hu3,wl,hw3⟩ hRs (by omega) t4 s3
end
def nT(b:Int×Int):Str:=Str.ofString "voice " ++ bq b.1++Str.ofString " " ++ bq b.2
def gN(bs:List (Int×Int))(Rs:List aR):Str:=Txt.join (Str.ofString "\n") (bs.map nT++Rs.map cc)
def uh(K:PySem.W.Frag):Sp:=fun vs H Q _=>∃(a ru:Addr) (bs:List (Int×Int)) (Rs:List aR),vs=[.ref a,.ref ru]∧bX K H a bs∧bs.length≤4∧(∀b∈bs,b.1.natAbs < 10 ^ 40∧b.2.natAbs < 10 ^ 40)∧fQ H ru Rs∧Rs.length≤4∧(∀R∈Rs,rQ R)∧∀H',ax H H'→Q (.str (gN bs Rs)) H'
theorem qW{b:Int×Int}(h1:b.1.natAbs < 10 ^ 40)(h2:b.2.natAbs < 10 ^ 40):fg (nT b) (Str.ofString "voice") [b.1,b.2]:=ym (by decide +kernel) h1 h2 (by decide +kernel) (by decide +kernel) (by decide +kernel)
theorem Ac(R:aR)(ho:rQ R):(∀x∈cN R,qZ x)∧(cN R).length≤25∧Txt.join (Str.ofString " ") ((cN R).map gj)=cc R∧∀y∈(cN R).map gj,y.length≤41:=by
 have wI:∀n:Int,n.natAbs < 10 ^ 40→qZ (.int n):=fun n hn=>.inr ⟨n,rfl,hn⟩
 have wT:∀z:Str,qZ (.str z):=fun z=>.inl ⟨z,rfl⟩
 have one:∀R:ck,Ay R→(∀x∈eS R,qZ x)∧(eS R).length≤21∧(eS R).map gj=cE R::(c6 R).map bq∧∀y∈cE R::(c6 R).map bq,y.length≤41:=fun R h=>by
  have hl:=jM h
  refine⟨fun x hx=>?_,?_,?_,fun y hy=>?_⟩
  ·rw [jQ]at hx
   rcases List.mem_cons.mp hx with rfl | hx
   ·exact wT _
   ·obtain⟨n,hn,rfl⟩:=List.mem_map.mp hx
    exact wI n (h.1 n hn)
  ·rw [jQ,List.length_cons,List.length_map]
   omega
  ·rw [jQ,List.map_cons,List.map_map]
   rfl
  ·rcases List.mem_cons.mp hy with rfl | hy
   ·have:=(fM R).1;omega
   ·obtain⟨n,hn,rfl⟩:=List.mem_map.mp hy
    exact da (h.1 n hn)
 cases R with
 | plain R=>
  obtain⟨h1,h2,h3,h4⟩:=one R ho
  refine⟨h1,?_,?_,?_⟩
  ·show(eS R).length≤25;omega
  ·show Txt.join _ ((eS R).map gj)=_
   rw [h3]
   rfl
  ·show ∀y∈(eS R).map gj,_
   rw [h3]
   exact h4
 | every m a R=>
  obtain⟨ho,hm,ha⟩:=ho
  obtain⟨h1,h2,h3,h4⟩:=one R ho
  have e:(cN (.every m a R)).map gj=Str.ofString "every"::bq m::bq a::(eS R).map gj:=rfl
  refine⟨fun x hx=>?_,?_,?_,fun y hy=>?_⟩
  ·rcases List.mem_cons.mp hx with rfl | hx
   ·exact wT _
   rcases List.mem_cons.mp hx with rfl | hx
   ·exact wI _ hm
   rcases List.mem_cons.mp hx with rfl | hx
   ·exact wI _ ha
   exact h1 x hx
  ·show(eS R).length+1+1+1≤25;omega
  ·rw [e,h3]
   rfl
  ·rw [e,h3]at hy
   rcases List.mem_cons.mp hy with rfl | hy
   ·decide +kernel
   rcases List.mem_cons.mp hy with rfl | hy
   ·exact da hm
   rcases List.mem_cons.mp hy with rfl | hy
   ·exact da ha
   exact h4 y hy
theorem lg{n:Int}(h:n.natAbs < 10 ^ 40):n.natAbs.log2 < 1920:=by
 by_cases h0:n.natAbs=0
 ·rw [h0];decide
 ·exact(Nat.log2_lt h0).mpr (Nat.lt_of_lt_of_le h (by decide))
section
variable {P:Program} {w:World} {K:PySem.W.Frag} {mg:Str→Option Value} {base:Heap} {aM:Addr}
theorem zA{f:Addr}{fd:FuncData}(F:cH K "_law_text" "_law_text" jg f fd)(T:Txt mg aM):aP P w K mg base bY 1 f fd ["_law_ranges_here","_law_rules_here"] (uh K):=by
 refine F.ok sc_law_text (fun vs H Q E h=>?_) (fun cdv A outer s H vs Q E hr h=>?_)
 ·obtain⟨a,ru,bs,Rs,rfl,_⟩:=h
  rfl
 obtain⟨a,ru,bs,Rs,rfl,⟨ts,hts,htl,htc⟩,b4,hb,hRw,r4,hRk,q⟩:=h
 refine⟨_,(af (i0 (i:=2) sc_law_text.nd rfl (Or.inl rfl) (own:=["_law_low","_law_high"]) (js:=[]) rfl (b6 K (pr 0)) (bS.of (by rfl)) (fun _ _ _ _ _=>(c7 K (n:=2) rfl (br (aN (i:=0) (show List.Nodup (["_law_low","_law_high"]:List Str)from by decide +kernel) rfl (Or.inl rfl)) (br (aN (i:=1) (show List.Nodup (["_law_low","_law_high"]:List Str)from by decide +kernel) rfl (Or.inl rfl)) c8)))) (fun _ _ _ _ _=>dm) (fun _ _ _ _ _=>(aq (bO K) (aq (bO K) (aq (bO K) aZ (bF (kv) (by rfl) T.n_str boot_str (aa (pr 0) ag))) aZ) (bF (kv) (by rfl) T.n_str boot_str (aa (pr 1) ag)))) rfl)
 (af (cw (cz K PySem.F.plainAttrs_list PySem.F.slot_list_extend PySem.F.type_list_extend pB (pr 2) (aa (dE (own:=["_law_rule_here"]) (js:=[]) rfl (b6 K (pr 1)) (bS.of (by rfl)) (fun _ _ _ _ _=>(aN (i:=0) (show List.Nodup (["_law_rule_here"]:List Str)from by decide +kernel) rfl (Or.inl rfl))) (fun _ _ _ _ _=>dm) (fun _ _ _ _ _=>(cz K PySem.F.plainAttrs_str PySem.F.slot_str_join PySem.F.type_str_join (rL K) aZ (aa (dE (own:=["_law_word"]) (js:=[]) rfl (b6 K (pr 0)) (bS.of (by rfl)) (fun _ _ _ _ _=>(aN (i:=0) (show List.Nodup (["_law_word"]:List Str)from by decide +kernel) rfl (Or.inl rfl))) (fun _ _ _ _ _=>dm) (fun _ _ _ _ _=>(bF (kv) (by rfl) T.n_str boot_str (aa (pr 0) ag)))) ag)))) ag)))
 (ah (ar (cz K PySem.F.plainAttrs_str PySem.F.slot_str_join PySem.F.type_str_join (rL K) aZ (aa (pr 2) ag)))))),?_⟩
 have hs:sizeLine=16777216:=sizeLine_eq
 refine bo (fun σ H'=>∃ro:Addr,H ro=none∧H' ro=some (.lst ((bs.map nT).map V.str))∧σ=[some (.ref a),some (.ref ru),some (.ref ro)]∧ax H H') ?_ ?_
 rotate_left
 ·intro u' hu
  walk_at "rd"
  refine cg hts (cu (xs:=ts.map V.ref) (fun i ys H'=>ys=((bs.take i).map nT).map V.str∧H=H') (by rw [List.length_map];omega) ⟨rfl,rfl⟩ (fun i ys H' h=>by obtain⟨rfl,_⟩:=h;simp;omega) (fun i ys H' h=>h.2▸hts) ?_ ?_)
  ·rintro i y ys H1 hy ⟨rfl,rfl⟩
   rw [List.getElem?_map]at hy
   cases ht:ts[i]? with
   | none=>rw [ht]at hy;cases hy
   | some t=>
    rw [ht]at hy
    cases hy
    have hi:i < bs.length:=by rw [←htl];exact(List.getElem?_eq_some_iff.mp ht).1
    have eb:bs[i]?=some bs[i]:=List.getElem?_eq_getElem hi
    obtain⟨n1,n2⟩:=hb _ (List.getElem_mem hi)
    walk_at "rd"
    refine⟨_,htc i t _ ht eb,rfl,?_⟩
    walk_at "rd"
    have l1:=da n1
    have l2:=da n2
    have lv:(Str.ofString "voice ").length=6:=by decide +kernel
    have lb:(Str.ofString " ").length=1:=by decide +kernel
    have la:∀x y:Str,(x++y).length=x.length+y.length:=fun x y=>by
     rw [bg,bg,bg]
     show(x.cps++y.cps).toList.length=_
     rw [Array.toList_append,List.length_append]
    refine⟨lg n1,by omega,by rw [la];omega,lg n2,by rw [la,la];omega,?_⟩
    rw [List.take_add_one,eb,List.map_append,List.map_append]
    rfl
  ·rintro ys H1 ⟨rfl,rfl⟩ p hp
   rw [List.length_map,htl,List.take_length]
   exact hu _ _ ⟨p,hp,ab,rfl,au hp⟩
 rintro _ H1 ⟨ro,hro,hro1,rfl,s1⟩
 refine bo (fun σ H'=>H' ro=some (.lst ((bs.map nT++Rs.map cc).map V.str))∧σ=[some (.ref a),some (.ref ru),some (.ref ro)]∧ax H H') ?_ ?_
 rotate_left
 ·intro u' hu
  obtain⟨ws,hws,hwl,hwc⟩:=hRw.same s1
  walk_at "rd"
  refine⟨.inl ⟨rfl,_,aO.of hro1⟩,cg (aO.of hws) (cu (xs:=ws.map V.ref) (fun i ys H'=>ys=((Rs.take i).map cc).map V.str∧ax H1 H') (by rw [List.length_map];omega) ⟨rfl,ax.refl _⟩ (fun i ys H' h=>by obtain⟨rfl,_⟩:=h;simp;omega) (fun i ys H' h=>h.2.seq (aO.of hws)) ?_ ?_)⟩
  ·rintro i y ys H2 hy ⟨rfl,sm⟩
   rw [List.getElem?_map]at hy
   cases ht:ws[i]? with
   | none=>rw [ht]at hy;cases hy
   | some x=>
    rw [ht]at hy
    cases hy
    have hi:i < Rs.length:=by rw [←hwl];exact(List.getElem?_eq_some_iff.mp ht).1
    have eR:Rs[i]?=some Rs[i]:=List.getElem?_eq_getElem hi
    have hx:=sm _ _ (hwc i x _ ht eR)
    obtain⟨t1,t2,t3,t4⟩:=Ac _ (hRk _ (List.getElem_mem hi))
    walk_at "rd"
    refine cg (aO.of hx) (rj (xs:=cN Rs[i]) (aO.of hx) t1 (by omega) fun p3 hp3=>⟨_,aO.of ab,?_,?_,sm.upd hp3⟩)
    ·have lb:(Str.ofString " ").length=1:=by decide +kernel
     have:=lr ((cN Rs[i]).map gj) 41 t4
     rw [lb]
     simp only [List.length_map]at this ⊢
     omega
    ·rw [t3,List.take_add_one,eR,List.map_append,List.map_append]
     rfl
  ·rintro ys H2 ⟨rfl,sm⟩ p hp
   rw [List.length_map,hwl,List.take_length]
   have hro2:=(au (o:=.lst ((Rs.map cc).map V.str)) hp) _ _ (sm _ _ hro1)
   refine⟨ro,p,_,_,rfl,rfl,hro2,ab,by simp;omega,hu _ _ ⟨by rw [ab,←List.map_append],rfl,fun c u hc=>?_⟩⟩
   rw [aj (ay hc hro)]
   exact((s1.trans sm).upd hp) _ _ hc
 rintro _ H2 ⟨hro2,rfl,s2⟩
 walk_at "rd"
 refine⟨_,aO.of hro2,?_,q _ s2⟩
 have ln:(Str.ofString "\n").length=1:=by decide +kernel
 have:=lr (bs.map nT++Rs.map cc) 10000 (fun y hy=>by
  rcases List.mem_append.mp hy with h | h
  ·obtain⟨b,hb',rfl⟩:=List.mem_map.mp h
   exact(qW (hb b hb').1 (hb b hb').2).len
  ·obtain⟨R,hR',rfl⟩:=List.mem_map.mp h
   exact(gM R (hRk R hR')).1)
 rw [ln]
 simp only [List.length_append,List.length_map]at this ⊢
 omega
end
def C2(us:List Int):ck→Bool
 | .span o t D=>!decide (aF us (t+1) - aF us (o+1)∈D)
 | .clock o t h D=>!decide ((aF us (t+1) - aF us (o+1)) % h∈D)
 | _=>false
theorem AH{cols:List (List Int)}{i:Nat}{us:List Int}{R:ck}(hin:pZ R)(hu:cols[i]?=some us):iP cols i R=C2 us R:=by
 cases R with
 | span o t D=>show(!decide (cW t cols i - cW o cols i∈D))=_;rw [cO hu,cO hu];rfl
 | clock o t h D=>show(!decide ((cW t cols i - cW o cols i) % h∈D))=_;rw [cO hu,cO hu];rfl
 | _=>exact hin.elim
def j6(K:PySem.W.Frag):Sp:=fun vs H Q _=>∃(w c:Addr) (R:ck) (us:List Int),vs=[.ref w,.ref c]∧aO K H w (eS R)∧pZ R∧gd us.length R∧cR K H c (us.map V.int)∧∀H',ax H H'→Q (.bl (C2 us R)) H'
def Aa:ck→Prop
 | .move _ _=>True
 | .alike _ _ _=>True
 | _=>False
def iN(K:PySem.W.Frag):Sp:=fun vs H Q _=>∃(w l:Addr) (i nv:Nat) (cols:List (List Int)) (R:ck),vs=[.ref w,.ref l,.int i]∧aO K H w (eS R)∧Aa R∧gd nv R∧cZ K H l nv cols∧1≤i∧i < cols.length∧∀H',ax H H'→Q (.bl (iP cols i R)) H'
section
variable {P:Program} {w:World} {K:PySem.W.Frag} {mg:Str→Option Value} {base:Heap} {aM:Addr}
theorem oE{f:Addr}{fd:FuncData}(F:cH K "_law_one_column" "_law_one_column" eu f fd)(T:Txt mg aM):aP P w K mg base bY 1 f fd ["_law_rule_here","_law_column_here"] (j6 K):=by
 refine F.ok sc_law_one_column (fun vs H Q E h=>?_) (fun cdv A outer s H vs Q E hr h=>?_)
 ·obtain⟨w,c,R,us,rfl,_⟩:=h
  rfl
 obtain⟨w,c,R,us,rfl,hw,hin,hg,hc,q⟩:=h
 refine⟨_,(af (aJ (i:=2) sc_law_one_column.nd rfl (Or.inl rfl) (aq (o0 bI) (aC (aL K) (pr 1) (aq (o0 bI) (aC (aL K) (pr 0) ae (fun _ _=>rfl)) ae) (fun _ _=>rfl)) (aC (aL K) (pr 1) (aq (o0 bI) (aC (aL K) (pr 0) ae (fun _ _=>rfl)) ae) (fun _ _=>rfl))))
 (af (aV (aX (az gr (aC (aL K) (pr 0) ae (fun _ _=>rfl)) aZ (aA _))) (ah (ar (bE (fv K) (pr 2) (aS (dc K) (pr 0) (c4 ae) bz) (by with_unfolding_all rfl)))) aG)
 (ah (ar (bE (fv K) (aq (o1 bC) (pr 2) (aC (aL K) (pr 0) ae (fun _ _=>rfl))) (aS (dc K) (pr 0) (c4 ae) bz) (by with_unfolding_all rfl)))))),?_⟩
 have ixw:∀{k:Nat} {x:V} {Q':VK},(eS R)[k]?=some x→Q' x H→lR K (.ref w) (.int (k:Int)) H Q':=fun hx hq=>aT hw (aK hx) hq
 cases R with
 | span o t D=>
  obtain⟨o0,o1,t0,t1⟩:=hg
  walk_at "rd"
  refine ixw (k:=2) rfl ?_
  walk_at "rd"
  rw [show(t+1 - 1)=t by omega]
  refine dB hc (dU t0 (by omega)) (ixw (k:=1) rfl ?_)
  walk_at "rd"
  rw [show(o+1 - 1)=o by omega]
  refine dB hc (dU o0 (by omega)) ?_
  walk_at "rd"
  refine ixw (k:=0) rfl ?_
  walk_at "rd"
  refine bM hw fun p hp=>?_
  rw [show(some (3:Int))=some ((3:Nat):Int)from rfl,bQ]
  exact eJ (D:=D) (aO.of ab) (q _ (au (o:=.lst (D.map V.int)) hp))
 | clock o t h D=>
  obtain⟨o0,o1,t0,t1,h1⟩:=hg
  walk_at "rd"
  refine ixw (k:=2) rfl ?_
  walk_at "rd"
  rw [show(t+1 - 1)=t by omega]
  refine dB hc (dU t0 (by omega)) (ixw (k:=1) rfl ?_)
  walk_at "rd"
  rw [show(o+1 - 1)=o by omega]
  refine dB hc (dU o0 (by omega)) ?_
  walk_at "rd"
  refine ixw (k:=0) rfl ?_
  walk_at "rd"
  rw [if_neg (by decide +kernel)]
  refine ixw (k:=3) rfl ⟨_,rfl,by omega,?_⟩
  refine bM hw fun p hp=>?_
  rw [show(some (4:Int))=some ((4:Nat):Int)from rfl,bQ]
  exact eJ (D:=D) (aO.of ab) (q _ (au (o:=.lst (D.map V.int)) hp))
 | _=>exact hin.elim
theorem m8{f:Addr}{fd:FuncData}(F:cH K "_law_two_columns" "_law_two_columns" dW f fd)(T:Txt mg aM):aP P w K mg base bY 1 f fd ["_law_rule_here","_law_line_here","_law_at"] (iN K):=by
 refine F.ok sc_law_two_columns (fun vs H Q E h=>?_) (fun cdv A outer s H vs Q E hr h=>?_)
 ·obtain⟨w,l,i,nv,cols,R,rfl,_⟩:=h
  rfl
 obtain⟨w,l,i,nv,cols,R,rfl,hw,hk,hg,⟨ps,hps,hpl,hpc⟩,i1,i2,q⟩:=h
 refine⟨_,(af (aJ (i:=3) sc_law_two_columns.nd rfl (Or.inl rfl) (aq (o0 bI) (aC (aL K) (pr 0) ae (fun _ _=>rfl)) ae))
 (af (aJ (i:=4) sc_law_two_columns.nd rfl (Or.inl rfl) (aq (o0 bI) (aC (aL K) (aC (aL K) (pr 1) (pr 2) (fun _ _=>rfl)) (pr 3) (fun _ _=>rfl)) (aC (aL K) (aC (aL K) (pr 1) (aq (o0 bI) (pr 2) ae) (fun _ _=>rfl)) (pr 3) (fun _ _=>rfl))))
 (af (aV (aX (az gr (aC (aL K) (pr 0) ae (fun _ _=>rfl)) aZ (aA _))) (ah (ar (bE (fv K) (pr 4) (aS (dc K) (pr 0) (c4 ae) bz) (by with_unfolding_all rfl)))) aG)
 (af (aJ (i:=5) sc_law_two_columns.nd rfl (Or.inl rfl) (aq (o0 bI) (aC (aL K) (pr 0) ae (fun _ _=>rfl)) ae))
 (af (aJ (i:=6) sc_law_two_columns.nd rfl (Or.inl rfl) (aq (o0 bI) (aC (aL K) (aC (aL K) (pr 1) (pr 2) (fun _ _=>rfl)) (pr 5) (fun _ _=>rfl)) (aC (aL K) (aC (aL K) (pr 1) (pr 2) (fun _ _=>rfl)) (pr 3) (fun _ _=>rfl))))
 (ah (ar (jN (gs (bE yP (pr 4) ae (aA _)) (jN (gs (bE gr (pr 6) (aq (o0 bI) (aC (aL K) (aC (aL K) (pr 1) (aq (o0 bI) (pr 2) ae) (fun _ _=>rfl)) (pr 5) (fun _ _=>rfl)) (aC (aL K) (aC (aL K) (pr 1) (aq (o0 bI) (pr 2) ae) (fun _ _=>rfl)) (pr 3) (fun _ _=>rfl))) (aA _)) (fw (bE (lH K) (pr 6) (aS (dc K) (pr 0) (c4 ae) bz) (by with_unfolding_all rfl)))))))))))))),?_⟩
 have la:∀{o p:Int} {Q':VK},0≤o→o < nv→0≤p→p < cols.length→Q' (.int (cW o cols p.toNat)) H→lR K (.ref l) (.int p) H fun x H1=>lR K x (.int o) H1 Q':=fun {o p Q'} o0 o1 p0 p1 hq=>zi hps hpl hpc o0 o1 p0 p1 hq
 have la1:∀{p:Int} {Q':VK},0≤p→p < cols.length→(∀(pp:Addr) (us:List Int),us.length=nv→cR K H pp (us.map V.int)→(∀o:Int,aF us (o+1)=cW o cols p.toNat)→Q' (.ref pp) H)→lR K (.ref l) (.int p) H Q':=fun {p Q'} p0 p1 hq=>by
  obtain⟨j,rfl⟩:=Int.eq_ofNat_of_zero_le p0
  have hj:j < cols.length:=by omega
  have e2:cols[j]?=some cols[j]:=List.getElem?_eq_getElem hj
  obtain⟨h1,h2⟩:=hpc j _ _ (List.getElem?_eq_getElem (show j < ps.length by omega)) e2
  refine aT hps (show dz _ ((j:Nat):Int)=some (.ref ps[j])from aK (by rw [List.getElem?_map,List.getElem?_eq_getElem (show j < ps.length by omega)];rfl)) (hq _ _ h2 h1 fun o=>?_)
  rw [Int.toNat_natCast,cO e2]
 have em:∀o:Int,cW o cols (i:Int).toNat - cW o cols ((i:Int) - 1).toNat=dG o cols i:=fun o=>by
  unfold dG
  rw [Int.toNat_natCast,show((i:Int) - 1).toNat=i - 1 by omega]
 have hv:=pX hg
 have ixw:∀{k:Nat} {x:V} {Q':VK},(eS R)[k]?=some x→Q' x H→lR K (.ref w) (.int (k:Int)) H Q':=fun hx hq=>aT hw (aK hx) hq
 refine bo (fun σ H'=>σ=[some (.ref w),some (.ref l),some (.int i),some (.int (jr R)),none,none,none]∧H=H') ?_ ?_
 rotate_left
 ·intro u' hu
  walk_at "rd"
  refine ixw (k:=1) (tX R) ?_
  walk_at "rd"
  rw [show(jr R+1 - 1)=jr R by omega]
  exact hu _ _ ⟨rfl,rfl⟩
 rintro _ _ ⟨rfl,rfl⟩
 refine bo (fun σ H'=>σ=[some (.ref w),some (.ref l),some (.int i),some (.int (jr R)),some (.int (dG (jr R) cols i)),none,none]∧H=H') ?_ ?_
 rotate_left
 ·intro u' hu
  walk_at "rd"
  refine la hv.1 hv.2 (by omega) (by omega) (la hv.1 hv.2 (show 0≤(i:Int) - 1 by omega) (by omega) ?_)
  walk_at "rd"
  rw [em]
  exact hu _ _ ⟨rfl,rfl⟩
 rintro _ _ ⟨rfl,rfl⟩
 cases R with
 | move o D=>
  walk_at "rd"
  refine ixw (k:=0) rfl ?_
  walk_at "rd"
  refine bM hw fun p hp=>?_
  rw [show(some (2:Int))=some ((2:Nat):Int)from rfl,bQ]
  refine eJ (D:=D) (aO.of ab) ?_
  have q':=q _ (au (o:=.lst (D.map V.int)) hp)
  rw [show iP cols i (.move o D)=(decide (i≠0) && !decide (dG o cols i∈D))from rfl,decide_eq_true (show i≠0 by omega),Bool.true_and]at q'
  exact q'
 | alike o t D=>
  obtain⟨o0,o1,t0,t1⟩:=hg
  rw [show jr (.alike o t D)=o from rfl]
  refine bo (fun σ H'=>σ=[some (.ref w),some (.ref l),some (.int i),some (.int o),some (.int (dG o cols i)),none,none]∧H=H') ?_ ?_
  rotate_left
  ·intro u' hu
   walk_at "rd"
   refine ixw (k:=0) rfl ?_
   walk_at "rd"
   rw [if_neg (by decide +kernel)]
   exact hu _ _ ⟨rfl,rfl⟩
  rintro _ _ ⟨rfl,rfl⟩
  refine bo (fun σ H'=>σ=[some (.ref w),some (.ref l),some (.int i),some (.int o),some (.int (dG o cols i)),some (.int t),none]∧H=H') ?_ ?_
  rotate_left
  ·intro u' hu
   walk_at "rd"
   refine ixw (k:=2) rfl ?_
   walk_at "rd"
   rw [show(t+1 - 1)=t by omega]
   exact hu _ _ ⟨rfl,rfl⟩
  rintro _ _ ⟨rfl,rfl⟩
  refine bo (fun σ H'=>σ=[some (.ref w),some (.ref l),some (.int i),some (.int o),some (.int (dG o cols i)),some (.int t),some (.int (cW t cols i - cW o cols i))]∧H=H') ?_ ?_
  rotate_left
  ·intro u' hu
   walk_at "rd"
   refine la t0 t1 (show 0≤(i:Int)by omega) (by omega) (la o0 o1 (show 0≤(i:Int)by omega) (by omega) ?_)
   walk_at "rd"
   exact hu _ _ ⟨rfl,rfl⟩
  rintro _ _ ⟨rfl,rfl⟩
  walk_at "rd"
  have eB:iP cols i (.alike o t D)=(decide (dG o cols i≠0) && (decide (cW t cols i - cW o cols i=cW t cols (i - 1) - cW o cols (i - 1)) && decide (cW t cols i - cW o cols i∈D))):=by
   show(decide (i≠0) && _)=_
   rw [decide_eq_true (show i≠0 by omega),Bool.true_and]
  rw [eB]at q
  by_cases h0:dG o cols i=0
  ·rw [if_pos h0]
   rw [decide_eq_false (fun z=>z h0),Bool.false_and]at q
   exact q _ (ax.refl _)
  rw [if_neg h0]
  rw [decide_eq_true h0,Bool.true_and]at q
  refine la t0 t1 (show 0≤(i:Int) - 1 by omega) (by omega) (la o0 o1 (show 0≤(i:Int) - 1 by omega) (by omega) ?_)
  walk_at "rd"
  rw [show((i:Int) - 1).toNat=i - 1 by omega]
  by_cases h1:cW t cols i - cW o cols i=cW t cols (i - 1) - cW o cols (i - 1)
  ·rw [if_pos h1]
   rw [decide_eq_true h1,Bool.true_and]at q
   refine bM hw fun p hp=>?_
   rw [show(some (3:Int))=some ((3:Nat):Int)from rfl,bQ]
   exact fC (D:=D) (aO.of ab) (q _ (au (o:=.lst (D.map V.int)) hp))
  ·rw [if_neg h1]
   rw [decide_eq_false h1,Bool.false_and]at q
   exact q _ (ax.refl _)
 | _=>exact hk.elim
end
theorem qE(o:Int)(cols:List (List Int)):∀(i m:Nat),m≤i6 o cols i↔m≤i∧∀k,1≤k→k≤m→cW o cols (i - k)=cW o cols i
 | 0,m=>by
  show m≤0↔_
  constructor
  ·intro h;exact⟨h,fun k h1 h2=>by omega⟩
  ·exact fun h=>h.1
 | i+1,m=>by
  have ih:=qE o cols i (m - 1)
  show m≤(if cW o cols i=cW o cols (i+1)then i6 o cols i+1 else 0)↔_
  by_cases h0:m=0
  ·subst h0
   exact⟨fun _=>⟨by omega,fun k h1 h2=>by omega⟩,fun _=>by omega⟩
  by_cases he:cW o cols i=cW o cols (i+1)
  ·rw [if_pos he]
   constructor
   ·intro h
    obtain⟨h1,h2⟩:=ih.mp (by omega)
    refine⟨by omega,fun k k1 k2=>?_⟩
    by_cases hk:k=1
    ·subst hk;exact he
    ·have:=h2 (k - 1) (by omega) (by omega)
     rw [show i - (k - 1)=i+1 - k by omega]at this
     rw [this,he]
   ·rintro⟨h1,h2⟩
    have:=ih.mpr ⟨by omega,fun k k1 k2=>by
     have:=h2 (k+1) (by omega) (by omega)
     rw [show i+1 - (k+1)=i - k by omega]at this
     rw [this,he]⟩
    omega
  ·rw [if_neg he]
   constructor
   ·intro h;omega
   ·rintro⟨h1,h2⟩
    exact absurd (h2 1 (by omega) (by omega)) he
def Cw:ck→Prop
 | .back _ _=>True
 | .held _ _=>True
 | .times _ _ _ _=>True
 | .begin _ _=>True
 | .close _ _=>True
 | _=>False
def bT(o:Int)(cols:List (List Int))(k:Nat):List Int:=(List.range k).map (cW o cols)
theorem gf(o:Int)(cols:List (List Int)){k j:Nat}(h:j < k):(bT o cols k)[j]?=some (cW o cols j):=by
 unfold bT
 rw [List.getElem?_map,List.getElem?_range h]
 rfl
theorem kF(o nt:Int)(cols:List (List Int)):∀k,k≤cols.length→(bT o cols k).countP (fun n=>n == nt)=gp o nt cols k
 | 0,_=>rfl
 | k+1,h=>by
  have e2:cols[k]?=some (cols[k]'(by omega)):=List.getElem?_eq_getElem (by omega)
  have ih:=kF o nt cols k (by omega)
  rw [mI o nt cols k _ e2,←ih]
  unfold bT
  rw [List.range_succ,List.map_append,List.countP_append]
  congr 1
  rw [List.map_cons,List.map_nil,List.countP_cons,List.countP_nil,cO e2]
  unfold sZ
  by_cases hh:aF (cols[k]'(by omega)) (o+1)=nt
  ·rw [hh];simp
  ·simp [hh]
def jm(K:PySem.W.Frag):Sp:=fun vs H Q _=>∃(w n:Addr) (i nv:Nat) (cols:List (List Int)) (R:ck),vs=[.ref w,.ref n,.int i]∧aO K H w (eS R)∧Cw R∧gd nv R∧aO K H n ((bT (jr R) cols (i+1)).map V.int)∧i < cols.length∧cols.length≤100∧∀H',ax H H'→Q (.bl (iP cols i R)) H'
section
variable {P:Program} {w:World} {K:PySem.W.Frag} {mg:Str→Option Value} {base:Heap} {aM:Addr}
theorem qu{f:Addr}{fd:FuncData}(F:cH K "_law_one_voice" "_law_one_voice" e6 f fd)(T:Txt mg aM):aP P w K mg base bY 1 f fd ["_law_rule_here","_law_notes","_law_at"] (jm K):=by
 refine F.ok sc_law_one_voice (fun vs H Q E h=>?_) (fun cdv A outer s H vs Q E hr h=>?_)
 ·obtain⟨w,n,i,nv,cols,R,rfl,_⟩:=h
  rfl
 obtain⟨w,n,i,nv,cols,R,rfl,hw,hk,hg,hn,i2,hcl,q⟩:=h
 refine⟨_,(af (aV (PW.pt (fA (aX (az gr (aC (aL K) (pr 0) ae (fun _ _=>rfl)) aZ (aA _))) (eD (aX (az (o0 gQ) (pr 2) ae (aA _)))))) (af (aJ (i:=3) sc_law_one_voice.nd rfl (Or.inl rfl) (aq (o0 bI) (aC (aL K) (pr 1) (aq (o0 bI) (pr 2) ae) (fun _ _=>rfl)) (aC (aL K) (pr 1) (aq (o0 bI) (pr 2) ae) (fun _ _=>rfl))))
 (af (aJ (i:=4) sc_law_one_voice.nd rfl (Or.inl rfl) (aq (o0 bI) (aC (aL K) (pr 1) (pr 2) (fun _ _=>rfl)) (aC (aL K) (pr 1) (aq (o0 bI) (pr 2) ae) (fun _ _=>rfl))))
 (ah (ar (xV (xX (jN (gs (bE (o0 gQ) (pr 3) (aC (aL K) (pr 0) ae (fun _ _=>rfl)) (aA _)) (fw (bE (o0 uW) (pr 4) ae (aA _))))) (fw (jN (gs (bE (o0 kH) (pr 3) (aq (o0 bI) ae (aC (aL K) (pr 0) ae (fun _ _=>rfl))) (aA _)) (fw (bE (o0 gR) (pr 4) ae (aA _)))))))))))) aG)
 (af (aV (PW.pt (fA (aX (az gr (aC (aL K) (pr 0) ae (fun _ _=>rfl)) aZ (aA _))) (eD (aX (az (o0 uW) (pr 2) (aC (aL K) (pr 0) ae (fun _ _=>rfl)) (aA _)))))) (ah (ar (bE gr (cz K PySem.F.plainAttrs_list PySem.F.slot_list_count PySem.F.type_list_count mW (aS (dc K) (pr 1) (c4 (aq (o0 bI) (pr 2) (aC (aL K) (pr 0) ae (fun _ _=>rfl)))) (c4 (aq (bO K) (pr 2) ae))) (aa (aC (aL K) (pr 1) (pr 2) (fun _ _=>rfl)) ag)) (aq (bO K) (aC (aL K) (pr 0) ae (fun _ _=>rfl)) ae) (aA _)))) aG)
 (af (aV (aX (az gr (aC (aL K) (pr 0) ae (fun _ _=>rfl)) aZ (aA _))) (ah (ar (jN (gs (bE gr (aC (aL K) (pr 1) (pr 2) (fun _ _=>rfl)) (aC (aL K) (pr 0) ae (fun _ _=>rfl)) (aA _)) (fw (bE (o0 gQ) (cz K PySem.F.plainAttrs_list PySem.F.slot_list_count PySem.F.type_list_count mW (aS (dc K) (pr 1) bz (c4 (aq (bO K) (pr 2) ae))) (aa (aC (aL K) (pr 0) ae (fun _ _=>rfl)) ag)) (aC (aL K) (pr 0) ae (fun _ _=>rfl)) (aA _))))))) aG)
 (af (aV (PW.pt (fA (aX (az gr (aC (aL K) (pr 0) ae (fun _ _=>rfl)) aZ (aA _))) (eD (aX (az gr (pr 2) ae (aA _)))))) (ah (ar (bE (fv K) (aC (aL K) (pr 1) ae (fun _ _=>rfl)) (aS (dc K) (pr 0) (c4 ae) bz) (by with_unfolding_all rfl)))) aG)
 (ah (ar iR)))))),?_⟩
 have hs:sizeLine=16777216:=sizeLine_eq
 have ixw:∀{k:Nat} {x:V} {Q':VK},(eS R)[k]?=some x→Q' x H→lR K (.ref w) (.int (k:Int)) H Q':=fun hx hq=>aT hw (aK hx) hq
 have ixn:∀{p:Int} {Q':VK},0≤p→p≤i→Q' (.int (cW (jr R) cols p.toNat)) H→lR K (.ref n) (.int p) H Q':=fun {p Q'} h0 h1 hq=>by
  obtain⟨j,rfl⟩:=Int.eq_ofNat_of_zero_le h0
  exact aT hn (aK (by rw [List.getElem?_map,gf _ _ (show j < i+1 by omega)];rfl)) hq
 refine bo (fun σ H'=>(∀o bP,R=.back o bP→i≤1)∧σ=[some (.ref w),some (.ref n),some (.int i),none,none]∧H=H') ?_ ?_
 rotate_left
 ·intro u' hu
  walk_at "rd"
  refine ixw (k:=0) (nj R) ?_
  walk_at "rd"
  by_cases hb:qY R=Str.ofString "back"
  ·rw [if_pos hb]
   by_cases hi:(1:Int) < i
   ·rw [if_pos hi]
    clear hu
    cases R with
    | back o bP=>
     refine ixn (p:=(i:Int) - 1) (by omega) (by omega) (ixn (p:=(i:Int) - 2) (by omega) (by omega) ?_)
     walk_at "rd"
     refine ixn (p:=(i:Int)) (by omega) (by omega) (ixn (p:=(i:Int) - 1) (by omega) (by omega) ?_)
     walk_at "rd"
     rw [show jr (.back o bP)=o from rfl]
     have q':=q _ (ax.refl _)
     have eB:iP cols i (.back o bP)=(decide (2≤i) && (decide (dG o cols (i - 1) > bP∧dG o cols i≥0) || decide (dG o cols (i - 1) < 0 - bP∧dG o cols i≤0))):=rfl
     rw [eB,decide_eq_true (show 2≤i by omega),Bool.true_and]at q'
     have em1:cW o cols ((i:Int) - 1).toNat - cW o cols ((i:Int) - 2).toNat=dG o cols (i - 1):=by
      unfold dG
      rw [show((i:Int) - 1).toNat=i - 1 by omega,show((i:Int) - 2).toNat=i - 1 - 1 by omega]
     have em:cW o cols (i:Int).toNat - cW o cols ((i:Int) - 1).toNat=dG o cols i:=by
      unfold dG
      rw [show((i:Int) - 1).toNat=i - 1 by omega]
      rfl
     rw [em1,em]
     refine ixw (k:=2) rfl ⟨_,rfl,?_⟩
     generalize dG o cols i=c at q'
     generalize dG o cols (i - 1)=a at q'
     by_cases h1:bP < a
     ·rw [if_pos h1]
      by_cases h3:0≤c
      ·rw [if_pos h3]
       rw [decide_eq_true (show a > bP∧c≥0 from⟨h1,h3⟩),Bool.true_or]at q'
       exact q'
      ·rw [if_neg h3]
       refine ixw (k:=2) rfl ⟨_,rfl,?_⟩
       rw [decide_eq_false (show ¬(a > bP∧c≥0)from fun z=>h3 z.2),Bool.false_or]at q'
       by_cases h2:a < 0 - bP
       ·rw [if_pos h2]
        rw [show decide (a < 0 - bP∧c≤0)=decide (c≤0)by rw [decide_eq_decide];exact⟨fun z=>z.2,fun z=>⟨h2,z⟩⟩]at q'
        exact q'
       ·rw [if_neg h2]
        rw [decide_eq_false (show ¬(a < 0 - bP∧c≤0)from fun z=>h2 z.1)]at q'
        exact q'
     ·rw [if_neg h1]
      refine ixw (k:=2) rfl ⟨_,rfl,?_⟩
      rw [decide_eq_false (show ¬(a > bP∧c≥0)from fun z=>h1 z.1),Bool.false_or]at q'
      by_cases h2:a < 0 - bP
      ·rw [if_pos h2]
       rw [show decide (a < 0 - bP∧c≤0)=decide (c≤0)by rw [decide_eq_decide];exact⟨fun z=>z.2,fun z=>⟨h2,z⟩⟩]at q'
       exact q'
      ·rw [if_neg h2]
       rw [decide_eq_false (show ¬(a < 0 - bP∧c≤0)from fun z=>h2 z.1)]at q'
       exact q'
    | held _ _=>exact absurd (show Str.ofString "held"=Str.ofString "back" from hb) (by decide +kernel)
    | times _ _ _ _=>exact absurd (show Str.ofString "times"=Str.ofString "back" from hb) (by decide +kernel)
    | begin _ _=>exact absurd (show Str.ofString "begin"=Str.ofString "back" from hb) (by decide +kernel)
    | close _ _=>exact absurd (show Str.ofString "close"=Str.ofString "back" from hb) (by decide +kernel)
    | _=>exact hk.elim
   ·rw [if_neg hi]
    exact hu _ _ ⟨fun _ _ _=>by omega,rfl,rfl⟩
  ·rw [if_neg hb]
   exact hu _ _ ⟨fun o bP e=>absurd (by rw [e];rfl) hb,rfl,rfl⟩
 rintro _ _ ⟨kb,rfl,rfl⟩
 refine bo (fun σ H'=>(∀o m,R=.held o m→(i:Int) < m)∧σ=[some (.ref w),some (.ref n),some (.int i),none,none]∧H=H') ?_ ?_
 rotate_left
 ·intro u' hu
  walk_at "rd"
  refine ixw (k:=0) (nj R) ?_
  walk_at "rd"
  by_cases hb:qY R=Str.ofString "held"
  ·rw [if_pos hb]
   cases R with
   | held o most=>
    obtain⟨o0,o1,m1⟩:=hg
    refine ixw (k:=2) rfl ⟨_,rfl,?_⟩
    by_cases hm:most≤(i:Int)
    ·rw [if_pos hm]
     clear hu
     refine ixw (k:=2) rfl ⟨_,rfl,?_⟩
     obtain⟨a,ha⟩:∃a:Nat,(a:Int)=(i:Int) - most:=⟨i - most.toNat,by omega⟩
     rw [←ha]
     refine bM hn fun p hp=>?_
     have hnl:(bT o cols (i+1)).length=i+1:=by simp [bT]
     have ec:fR ((bT (jr (.held o most)) cols (i+1)).map V.int) (some (a:Int)) (some ((i:Int)+1))=(((bT o cols (i+1)).drop a).take (i+1 - a)).map V.int:=by
      rw [show((i:Int)+1)=((i+1:Nat):Int)from rfl,show jr (.held o most)=o from rfl]
      unfold fR
      rw [HT.sIx_nat,HT.sIx_nat,List.length_map,hnl,Nat.min_eq_left (by omega),Nat.min_eq_left (by omega),List.map_take,List.map_drop]
     rw [ec]
     have hL:(((bT o cols (i+1)).drop a).take (i+1 - a)).length=i+1 - a:=by rw [List.length_take,List.length_drop,hnl];omega
     have eL:∀j,j < i+1 - a→(((bT o cols (i+1)).drop a).take (i+1 - a))[j]?=some (cW o cols (a+j)):=fun j hj=>by
      rw [List.getElem?_take,if_pos hj,List.getElem?_drop,gf _ _ (by omega)]
     have s1:ax H (upd H p (.lst ((((bT o cols (i+1)).drop a).take (i+1 - a)).map V.int))):=au hp
     generalize((bT o cols (i+1)).drop a).take (i+1 - a)=L at hL eL s1 ⊢
     refine⟨.inl ⟨rfl,_,aO.of ab⟩,aT (s1.seq hn) (aK (by rw [List.getElem?_map,gf _ _ (show i < i+1 by omega)];rfl)) ⟨p,L,cW o cols i,rfl,rfl,ab,aT (s1.seq hw) (show dz _ ((2:Nat):Int)=_ from aK rfl) ?_⟩⟩
     walk_at "rd"
     have q':=q _ s1
     have ri:=fun(_:Unit)=>qE o cols i most.toNat
     have key:decide (((L.countP fun n=>n == cW o cols i:Nat):Int)=most+1)=iP cols i (.held o most):=by
      show _=decide (most≤(i6 o cols i:Int))
      rw [decide_eq_decide]
      have hc:Unit→((L.countP fun n=>n == cW o cols i)=L.length↔∀x∈L,(x == cW o cols i)=true):=fun _=>List.countP_eq_length
      rw [show(((L.countP fun n=>n == cW o cols i:Nat):Int)=most+1)↔((L.countP fun n=>n == cW o cols i)=L.length)by omega,hc ()]
      constructor
      ·intro h
       have:=(ri ()).mpr ⟨by omega,fun k k1 k2=>by
        have:=h _ (List.mem_of_getElem? (eL (i - a - k) (by omega)))
        rw [show a+(i - a - k)=i - k by omega]at this
        exact beq_iff_eq.mp this⟩
       omega
      ·intro h x hx
       obtain⟨j,hj,rfl⟩:=List.getElem_of_mem hx
       have e:=eL j (by omega)
       rw [List.getElem?_eq_getElem hj]at e
       rw [Option.some.inj e,beq_iff_eq]
       by_cases hji:a+j=i
       ·rw [hji]
       ·have:=((ri ()).mp (by omega)).2 (i - (a+j)) (by omega) (by omega)
        rw [show i - (i - (a+j))=a+j by omega]at this
        exact this
     rw [key]
     exact q'
    ·rw [if_neg hm]
     exact hu _ _ ⟨fun o' m' e=>by cases e;omega,rfl,rfl⟩
   | back _ _=>exact absurd (show Str.ofString "back"=Str.ofString "held" from hb) (by decide +kernel)
   | times _ _ _ _=>exact absurd (show Str.ofString "times"=Str.ofString "held" from hb) (by decide +kernel)
   | begin _ _=>exact absurd (show Str.ofString "begin"=Str.ofString "held" from hb) (by decide +kernel)
   | close _ _=>exact absurd (show Str.ofString "close"=Str.ofString "held" from hb) (by decide +kernel)
   | _=>exact hk.elim
  ·rw [if_neg hb]
   exact hu _ _ ⟨fun o bP e=>absurd (by rw [e];rfl) hb,rfl,rfl⟩
 rintro _ _ ⟨kh,rfl,rfl⟩
 refine bo (fun σ H'=>(∀o nt lw hgh,R≠.times o nt lw hgh)∧σ=[some (.ref w),some (.ref n),some (.int i),none,none]∧H=H') ?_ ?_
 rotate_left
 ·intro u' hu
  walk_at "rd"
  refine ixw (k:=0) (nj R) ?_
  walk_at "rd"
  by_cases hb:qY R=Str.ofString "times"
  ·rw [if_pos hb]
   clear hu
   cases R with
   | times o nt lw hgh=>
    refine ixn (p:=(i:Int)) (by omega) (by omega) (ixw (k:=2) rfl ?_)
    walk_at "rd"
    rw [show jr (.times o nt lw hgh)=o from rfl,Int.toNat_natCast]
    have eB:iP cols i (.times o nt lw hgh)=(decide (cW o cols i=nt) && decide ((gp o nt cols i:Int)≥hgh)):=rfl
    rw [eB]at q
    by_cases h:cW o cols i=nt
    ·rw [if_pos h]
     rw [decide_eq_true h,Bool.true_and]at q
     refine bM hn fun p hp=>?_
     rw [show(some ((i:Int)+1))=some ((i+1:Nat):Int)from rfl,de,List.take_of_length_le (by simp [bT])]
     have s1:ax H (upd H p (.lst ((bT (jr (.times o nt lw hgh)) cols (i+1)).map V.int))):=au hp
     refine⟨.inl ⟨rfl,_,aO.of ab⟩,aT (s1.seq hw) (show dz _ ((2:Nat):Int)=_ from aK rfl) ⟨p,bT o cols (i+1),nt,rfl,rfl,ab,aT (s1.seq hw) (show dz _ ((4:Nat):Int)=_ from aK rfl) ⟨_,rfl,_,rfl,?_⟩⟩⟩
     have e2:cols[i]?=some cols[i]:=List.getElem?_eq_getElem i2
     have hh:sZ o nt cols[i]=true:=decide_eq_true (by rw [←cO e2];exact h)
     rw [kF _ _ _ _ (show i+1≤cols.length by omega),mI o nt cols i _ e2,if_pos hh]
     have q':=q _ s1
     rw [show decide (hgh < ((gp o nt cols i+1:Nat):Int))=decide ((gp o nt cols i:Int)≥hgh)by rw [decide_eq_decide];omega]
     exact q'
    ·rw [if_neg h]
     rw [decide_eq_false h,Bool.false_and]at q
     exact q _ (ax.refl _)
   | back _ _=>exact absurd (show Str.ofString "back"=Str.ofString "times" from hb) (by decide +kernel)
   | held _ _=>exact absurd (show Str.ofString "held"=Str.ofString "times" from hb) (by decide +kernel)
   | begin _ _=>exact absurd (show Str.ofString "begin"=Str.ofString "times" from hb) (by decide +kernel)
   | close _ _=>exact absurd (show Str.ofString "close"=Str.ofString "times" from hb) (by decide +kernel)
   | _=>exact hk.elim
  ·rw [if_neg hb]
   exact hu _ _ ⟨fun o nt lw hgh e=>absurd (by rw [e];rfl) hb,rfl,rfl⟩
 rintro _ _ ⟨kt,rfl,rfl⟩
 refine bo (fun σ H'=>(∀o D,R=.begin o D→i≠0)∧σ=[some (.ref w),some (.ref n),some (.int i),none,none]∧H=H') ?_ ?_
 rotate_left
 ·intro u' hu
  walk_at "rd"
  refine ixw (k:=0) (nj R) ?_
  walk_at "rd"
  by_cases hb:qY R=Str.ofString "begin"
  ·rw [if_pos hb]
   by_cases hi:(i:Int)=0
   ·rw [if_pos hi]
    clear hu
    cases R with
    | begin o D=>
     refine ixn (p:=0) (by omega) (by omega) (bM hw fun p hp=>?_)
     rw [show(some (2:Int))=some ((2:Nat):Int)from rfl,bQ]
     refine eJ (D:=D) (aO.of ab) ?_
     have q':=q _ (au (o:=.lst (D.map V.int)) hp)
     have ei:i=0:=by omega
     subst ei
     exact q'
    | back _ _=>exact absurd (show Str.ofString "back"=Str.ofString "begin" from hb) (by decide +kernel)
    | held _ _=>exact absurd (show Str.ofString "held"=Str.ofString "begin" from hb) (by decide +kernel)
    | times _ _ _ _=>exact absurd (show Str.ofString "times"=Str.ofString "begin" from hb) (by decide +kernel)
    | close _ _=>exact absurd (show Str.ofString "close"=Str.ofString "begin" from hb) (by decide +kernel)
    | _=>exact hk.elim
   ·rw [if_neg hi]
    exact hu _ _ ⟨fun _ _ _=>by omega,rfl,rfl⟩
  ·rw [if_neg hb]
   exact hu _ _ ⟨fun o D e=>absurd (by rw [e];rfl) hb,rfl,rfl⟩
 rintro _ _ ⟨kg,rfl,rfl⟩
 walk_at "rd"
 have e0:iP cols i R=false:=by
  cases R with
  | back o bP=>
   have:=kb o bP rfl
   show(decide (2≤i) && _)=false
   rw [decide_eq_false (by omega),Bool.false_and]
  | held o most=>
   have h1:=kh o most rfl
   have h2:=((qE o cols i (i6 o cols i)).mp (Nat.le_refl _)).1
   exact decide_eq_false (by omega)
  | times o nt lw hgh=>exact absurd rfl (kt o nt lw hgh)
  | begin o D=>
   have:=kg o D rfl
   show(decide (i=0) && _)=false
   rw [decide_eq_false this,Bool.false_and]
  | close o D=>rfl
  | _=>exact hk.elim
 rw [e0]at q
 exact q _ (ax.refl _)
end
def kC:aR→Str
 | .plain R=>qY R
 | .every _ _ _=>"every"
theorem iG(R:aR):(cN R)[0]?=some (.str (kC R)):=by
 cases R with
 | plain R=>exact nj R
 | every m a R=>rfl
theorem nh{R:aR}(h:kC R≠Str.ofString "every"):∃R',R=.plain R':=by
 cases R with
 | plain R=>exact⟨R,rfl⟩
 | every m a R=>exact absurd rfl h
theorem xn{R:ck}(h:qY R=Str.ofString "span"∨qY R=Str.ofString "clock"):pZ R:=by
 cases R with
 | span _ _ _=>trivial
 | clock _ _ _ _=>trivial
 | move _ _=>exact h.elim (fun h=>absurd (show Str.ofString "move"=Str.ofString "span" from h) (by decide +kernel)) (fun h=>absurd (show Str.ofString "move"=Str.ofString "clock" from h) (by decide +kernel))
 | alike _ _ _=>exact h.elim (fun h=>absurd (show Str.ofString "alike"=Str.ofString "span" from h) (by decide +kernel)) (fun h=>absurd (show Str.ofString "alike"=Str.ofString "clock" from h) (by decide +kernel))
 | back _ _=>exact h.elim (fun h=>absurd (show Str.ofString "back"=Str.ofString "span" from h) (by decide +kernel)) (fun h=>absurd (show Str.ofString "back"=Str.ofString "clock" from h) (by decide +kernel))
 | held _ _=>exact h.elim (fun h=>absurd (show Str.ofString "held"=Str.ofString "span" from h) (by decide +kernel)) (fun h=>absurd (show Str.ofString "held"=Str.ofString "clock" from h) (by decide +kernel))
 | times _ _ _ _=>exact h.elim (fun h=>absurd (show Str.ofString "times"=Str.ofString "span" from h) (by decide +kernel)) (fun h=>absurd (show Str.ofString "times"=Str.ofString "clock" from h) (by decide +kernel))
 | begin _ _=>exact h.elim (fun h=>absurd (show Str.ofString "begin"=Str.ofString "span" from h) (by decide +kernel)) (fun h=>absurd (show Str.ofString "begin"=Str.ofString "clock" from h) (by decide +kernel))
 | close _ _=>exact h.elim (fun h=>absurd (show Str.ofString "close"=Str.ofString "span" from h) (by decide +kernel)) (fun h=>absurd (show Str.ofString "close"=Str.ofString "clock" from h) (by decide +kernel))
theorem yH{R:ck}(h:qY R=Str.ofString "move"∨qY R=Str.ofString "alike"):Aa R:=by
 cases R with
 | span _ _ _=>exact h.elim (fun h=>absurd (show Str.ofString "span"=Str.ofString "move" from h) (by decide +kernel)) (fun h=>absurd (show Str.ofString "span"=Str.ofString "alike" from h) (by decide +kernel))
 | clock _ _ _ _=>exact h.elim (fun h=>absurd (show Str.ofString "clock"=Str.ofString "move" from h) (by decide +kernel)) (fun h=>absurd (show Str.ofString "clock"=Str.ofString "alike" from h) (by decide +kernel))
 | move _ _=>trivial
 | alike _ _ _=>trivial
 | back _ _=>exact h.elim (fun h=>absurd (show Str.ofString "back"=Str.ofString "move" from h) (by decide +kernel)) (fun h=>absurd (show Str.ofString "back"=Str.ofString "alike" from h) (by decide +kernel))
 | held _ _=>exact h.elim (fun h=>absurd (show Str.ofString "held"=Str.ofString "move" from h) (by decide +kernel)) (fun h=>absurd (show Str.ofString "held"=Str.ofString "alike" from h) (by decide +kernel))
 | times _ _ _ _=>exact h.elim (fun h=>absurd (show Str.ofString "times"=Str.ofString "move" from h) (by decide +kernel)) (fun h=>absurd (show Str.ofString "times"=Str.ofString "alike" from h) (by decide +kernel))
 | begin _ _=>exact h.elim (fun h=>absurd (show Str.ofString "begin"=Str.ofString "move" from h) (by decide +kernel)) (fun h=>absurd (show Str.ofString "begin"=Str.ofString "alike" from h) (by decide +kernel))
 | close _ _=>exact h.elim (fun h=>absurd (show Str.ofString "close"=Str.ofString "move" from h) (by decide +kernel)) (fun h=>absurd (show Str.ofString "close"=Str.ofString "alike" from h) (by decide +kernel))
theorem BD{R:ck}(h1:qY R≠Str.ofString "span")(h2:qY R≠Str.ofString "clock")(h3:qY R≠Str.ofString "move")(h4:qY R≠Str.ofString "alike"):Cw R:=by
 cases R with
 | span _ _ _=>exact absurd rfl h1
 | clock _ _ _ _=>exact absurd rfl h2
 | move _ _=>exact absurd rfl h3
 | alike _ _ _=>exact absurd rfl h4
 | back _ _=>trivial
 | held _ _=>trivial
 | times _ _ _ _=>trivial
 | begin _ _=>trivial
 | close _ _=>trivial
theorem yI{R:ck}(h:Aa R)(cols:List (List Int)):iP cols 0 R=false:=by
 cases R with
 | move _ _=>rfl
 | alike _ _ _=>rfl
 | _=>exact h.elim
def jj(K:PySem.W.Frag):Sp:=fun vs H Q _=>∃(w l:Addr) (i nv:Nat) (cols:List (List Int)) (R:aR),vs=[.ref w,.ref l,.int i]∧aO K H w (cN R)∧c9 nv R∧cZ K H l nv cols∧i < cols.length∧cols.length≤100∧∀H',ax H H'→Q (.bl (iO cols i R)) H'
section
variable {P:Program} {w:World} {K:PySem.W.Frag} {mg:Str→Option Value} {base:Heap} {aM:Addr}
theorem vT{f:Addr}{fd:FuncData}(F:cH K "_law_broken" "_law_broken" gF f fd)(T:Txt mg aM)(D_law_one_column:bZ P w K mg base "_law_one_column" 1 ["_law_rule_here","_law_column_here"] (j6 K))(D_law_two_columns:bZ P w K mg base "_law_two_columns" 1 ["_law_rule_here","_law_line_here","_law_at"] (iN K))(D_law_one_voice:bZ P w K mg base "_law_one_voice" 1 ["_law_rule_here","_law_notes","_law_at"] (jm K)):aP P w K mg base bY 2 f fd ["_law_rule_here","_law_line_here","_law_at"] (jj K):=by
 refine F.ok oS (fun vs H Q E h=>?_) (fun cdv A outer s H vs Q E hr h=>?_)
 ·obtain⟨w,l,i,nv,cols,R,rfl,_⟩:=h
  rfl
 obtain⟨w,l,i,nv,cols,R,rfl,hw,hg,LL,i2,hcl,q⟩:=h
 refine⟨_,(af (aV (PW.pt (cf (aX (az gr (aC (aL K) (pr 0) ae (fun _ _=>rfl)) aZ (aA _))) (bW (aX (az gr (aC (aL K) (pr 0) ae (fun _ _=>rfl)) aZ (aA _)))))) (ah (ar (aE D_law_one_column hr (by rfl) (aa (pr 0) (aa (aC (aL K) (pr 1) (pr 2) (fun _ _=>rfl)) ag))))) aG)
 (af (aV (aX (az gr (aC (aL K) (pr 0) ae (fun _ _=>rfl)) aZ (aA _))) (ah (ar (jN (gs (bE gr (aq (o1 bC) (pr 2) (aC (aL K) (pr 0) ae (fun _ _=>rfl))) (aC (aL K) (pr 0) ae (fun _ _=>rfl)) (aA _)) (fw (aE D_law_one_column hr (by rfl) (aa (aS (dc K) (pr 0) (c4 ae) bz) (aa (aC (aL K) (pr 1) (pr 2) (fun _ _=>rfl)) ag)))))))) aG)
 (af (aV (PW.pt (cf (aX (az gr (aC (aL K) (pr 0) ae (fun _ _=>rfl)) aZ (aA _))) (bW (aX (az gr (aC (aL K) (pr 0) ae (fun _ _=>rfl)) aZ (aA _)))))) (ah (ar (jN (gs (bE (o0 gQ) (pr 2) ae (aA _)) (fw (aE D_law_two_columns hr (by rfl) (aa (pr 0) (aa (pr 1) (aa (pr 2) ag))))))))) aG)
 (ah (ar (aE D_law_one_voice hr (by rfl) (aa (pr 0) (aa (dE (own:=["_law_column_here"]) (js:=[0]) rfl (b6 K (aS (dc K) (pr 1) bz (c4 (aq (bO K) (pr 2) ae)))) (bS.of (by rfl)) (fun _ _ _ _ _=>(aN (i:=0) (show List.Nodup (["_law_column_here","_law_rule_here"]:List Str)from by decide +kernel) rfl (Or.inl rfl))) (fun _ _ _ _ _=>dm) (fun _ _ _ _ _=>(aC (aL K) (pr 0) (aq (o0 bI) (aC (aL K) (pr 1) ae (fun _ _=>rfl)) ae) (fun _ _=>rfl)))) (aa (pr 2) ag))))))))),?_⟩
 have hs:sizeLine=16777216:=sizeLine_eq
 have LL0:=LL
 obtain⟨ps,hps,hpl,hpc⟩:=LL
 have e1:ps[i]?=some (ps[i]'(by omega)):=List.getElem?_eq_getElem (by omega)
 have e2:cols[i]?=some cols[i]:=List.getElem?_eq_getElem i2
 obtain⟨g1,g2⟩:=hpc i _ _ e1 e2
 have ai:∀{H':Hp} {Q':VK},ax H H'→Q' (.ref (ps[i]'(by omega))) H'→lR K (.ref l) (.int (i:Int)) H' Q':=fun sm hq=>aT (sm.seq hps) (aK (by rw [List.getElem?_map,e1];rfl)) hq
 have ixw:∀{k:Nat} {x:V} {Q':VK},(cN R)[k]?=some x→Q' x H→lR K (.ref w) (.int (k:Int)) H Q':=fun hx hq=>aT hw (aK hx) hq
 have one:∀(R':ck) (w':Addr) (H':Hp) (Q':VK),ax H H'→pZ R'→gd nv R'→aO K H' w' (eS R')→(∀H'',ax H' H''→Q' (.bl (iP cols i R')) H'')→lR K (.ref l) (.int (i:Int)) H' fun x H1=>j6 K [.ref w',x] H1 Q' E0:=fun R' w' H' Q' sm hin hgd hw' hq=>
  ai sm ⟨w',_,R',cols[i],rfl,hw',hin,by rw [g2];exact hgd,sm.tup g1,fun H'' s''=>by rw [←AH hin e2];exact hq _ s''⟩
 refine bo (fun σ H'=>kC R≠Str.ofString "span"∧kC R≠Str.ofString "clock"∧σ=[some (.ref w),some (.ref l),some (.int i)]∧H=H') ?_ ?_
 rotate_left
 ·intro u' hu
  walk_at "rd"
  refine ixw (k:=0) (iG R) ?_
  walk_at "rd"
  by_cases h1:kC R=Str.ofString "span"
  ·rw [if_pos h1]
   obtain⟨R',rfl⟩:=nh (R:=R) (by rw [h1];decide +kernel)
   exact one R' w H Q (ax.refl _) (xn (.inl h1)) hg hw q
  rw [if_neg h1]
  refine ixw (k:=0) (iG R) ?_
  walk_at "rd"
  by_cases h2:kC R=Str.ofString "clock"
  ·rw [if_pos h2]
   obtain⟨R',rfl⟩:=nh (R:=R) (by rw [h2];decide +kernel)
   exact one R' w H Q (ax.refl _) (xn (.inr h2)) hg hw q
  rw [if_neg h2]
  exact hu _ _ ⟨h1,h2,rfl,rfl⟩
 rintro _ _ ⟨k1,k2,rfl,rfl⟩
 refine bo (fun σ H'=>kC R≠Str.ofString "every"∧σ=[some (.ref w),some (.ref l),some (.int i)]∧H=H') ?_ ?_
 rotate_left
 ·intro u' hu
  walk_at "rd"
  refine ixw (k:=0) (iG R) ?_
  walk_at "rd"
  by_cases h1:kC R=Str.ofString "every"
  ·rw [if_pos h1]
   clear hu
   cases R with
   | plain R=>exact absurd h1 (by
     cases R with
     | span _ _ _=>exact show ¬(Str.ofString "span"=Str.ofString "every")by decide +kernel
     | clock _ _ _ _=>exact show ¬(Str.ofString "clock"=Str.ofString "every")by decide +kernel
     | move _ _=>exact show ¬(Str.ofString "move"=Str.ofString "every")by decide +kernel
     | alike _ _ _=>exact show ¬(Str.ofString "alike"=Str.ofString "every")by decide +kernel
     | back _ _=>exact show ¬(Str.ofString "back"=Str.ofString "every")by decide +kernel
     | held _ _=>exact show ¬(Str.ofString "held"=Str.ofString "every")by decide +kernel
     | times _ _ _ _=>exact show ¬(Str.ofString "times"=Str.ofString "every")by decide +kernel
     | begin _ _=>exact show ¬(Str.ofString "begin"=Str.ofString "every")by decide +kernel
     | close _ _=>exact show ¬(Str.ofString "close"=Str.ofString "every")by decide +kernel)
   | every m a R=>
    obtain⟨hg,hin,m1,a0,a1⟩:=hg
    refine ixw (k:=1) rfl ?_
    walk_at "rd"
    refine⟨by omega,ixw (k:=2) rfl ?_⟩
    walk_at "rd"
    have eB:iO cols i (.every m a R)=(decide ((i:Int) % m=a) && iP cols i R):=rfl
    rw [eB]at q
    by_cases h:(i:Int) % m=a
    ·rw [if_pos h]
     rw [decide_eq_true h,Bool.true_and]at q
     refine bM hw fun p hp=>?_
     rw [show(some (3:Int))=some ((3:Nat):Int)from rfl,bQ]
     exact one R p _ Q (au hp) hin hg (aO.of ab) fun H'' s''=>q _ ((au hp).trans s'')
    ·rw [if_neg h]
     rw [decide_eq_false h,Bool.false_and]at q
     exact q _ (ax.refl _)
  ·rw [if_neg h1]
   exact hu _ _ ⟨h1,rfl,rfl⟩
 rintro _ _ ⟨k3,rfl,rfl⟩
 obtain⟨R',rfl⟩:=nh k3
 refine bo (fun σ H'=>qY R'≠Str.ofString "move"∧qY R'≠Str.ofString "alike"∧σ=[some (.ref w),some (.ref l),some (.int i)]∧H=H') ?_ ?_
 rotate_left
 ·intro u' hu
  have two:Aa R'→if (0:Int) < i then iN K [.ref w,.ref l,.int i] H Q E0 else Q (.bl false) H:=fun h2=>by
   by_cases hi:(0:Int) < i
   ·rw [if_pos hi]
    exact⟨w,l,i,nv,cols,R',rfl,hw,h2,hg,LL0,by omega,i2,q⟩
   ·rw [if_neg hi]
    have q':=q _ (ax.refl _)
    have e0:i=0:=by omega
    subst e0
    rw [show iO cols 0 (.plain R')=iP cols 0 R' from rfl,yI h2]at q'
    exact q'
  walk_at "rd"
  refine ixw (k:=0) (iG _) ?_
  walk_at "rd"
  by_cases h1:kC (.plain R')=Str.ofString "move"
  ·rw [if_pos h1]
   exact two (yH (.inl h1))
  rw [if_neg h1]
  refine ixw (k:=0) (iG _) ?_
  walk_at "rd"
  by_cases h2:kC (.plain R')=Str.ofString "alike"
  ·rw [if_pos h2]
   exact two (yH (.inr h2))
  rw [if_neg h2]
  exact hu _ _ ⟨h1,h2,rfl,rfl⟩
 rintro _ _ ⟨k4,k5,rfl,rfl⟩
 have hv:=pX (nv:=nv) (R:=R') hg
 walk_at "rd"
 refine bM hps fun p hp=>?_
 rw [show(some ((i:Int)+1))=some ((i+1:Nat):Int)from rfl,de,←List.map_take]
 have s1:ax H (upd H p (.lst ((ps.take (i+1)).map V.ref))):=au hp
 have hp1:(upd H p (.lst ((ps.take (i+1)).map V.ref))) p=some (.lst ((ps.take (i+1)).map V.ref)):=ab
 generalize upd H p (.lst ((ps.take (i+1)).map V.ref))=H1 at s1 hp1
 refine cg (aO.of hp1) (cu (xs:=(ps.take (i+1)).map V.ref) (fun j ys H'=>ys=(bT (jr R') cols j).map V.int∧H1=H') (by rw [List.length_map,List.length_take];omega) ⟨rfl,rfl⟩ (fun j ys H' h=>by obtain⟨rfl,_⟩:=h;simp [bT]) (fun j ys H' h=>h.2▸aO.of hp1) ?_ ?_)
 ·rintro j x ys H' hx ⟨rfl,rfl⟩
  have hj:j < i+1:=by have:=(List.getElem?_eq_some_iff.mp hx).1;rw [List.length_map,List.length_take]at this;omega
  have d1:ps[j]?=some (ps[j]'(by omega)):=List.getElem?_eq_getElem (by omega)
  have d2:cols[j]?=some (cols[j]'(by omega)):=List.getElem?_eq_getElem (by omega)
  rw [List.getElem?_map,List.getElem?_take,if_pos hj,d1]at hx
  cases hx
  obtain⟨f1,f2⟩:=hpc _ _ _ d1 d2
  walk_at "rd"
  refine aT (s1.seq hw) (show dz _ ((1:Nat):Int)=_ from aK (tX R')) ?_
  walk_at "rd"
  rw [show(jr R' + 1 - 1)=jr R' by omega]
  refine dB (s1.tup f1) (dU hv.1 (by omega)) ?_
  unfold bT
  rw [List.range_succ,List.map_append,List.map_append,←cO (o:=jr R') d2]
  exact⟨rfl,rfl⟩
 ·rintro ys H' ⟨rfl,rfl⟩ p2 hp2
  rw [List.length_map,List.length_take,Nat.min_eq_left (by omega)]
  have s2:=s1.upd (o:=.lst ((bT (jr R') cols (i+1)).map V.int)) hp2
  exact⟨w,p2,i,nv,cols,R',rfl,s2.seq hw,BD k1 k2 k4 k5,hg,aO.of ab,i2,hcl,fun H'' s''=>q _ (s2.trans s'')⟩
end
def qN(K:PySem.W.Frag):Sp:=fun vs H Q _=>∃(w l:Addr) (nv:Nat) (cols:List (List Int)) (R:aR),vs=[.ref w,.ref l]∧aO K H w (cN R)∧c9 nv R∧cZ K H l nv cols∧cols.length≤100∧∀H',ax H H'→Q (.bl (iW cols R)) H'
def cB:List Str:=["back","times","close"]
theorem zk{R:aR}(h:kC R∉cB)(cols:List (List Int)):iW cols R=false:=by
 cases R with
 | every m a R=>rfl
 | plain R=>
  cases R with
  | back _ _=>exact absurd (show Str.ofString "back"∈cB by decide +kernel) h
  | times _ _ _ _=>exact absurd (show Str.ofString "times"∈cB by decide +kernel) h
  | close _ _=>exact absurd (show Str.ofString "close"∈cB by decide +kernel) h
  | _=>rfl
section
variable {P:Program} {w:World} {K:PySem.W.Frag} {mg:Str→Option Value} {base:Heap} {aM:Addr}
theorem xO{f:Addr}{fd:FuncData}(F:cH K "_law_badly_closed" "_law_badly_closed" dI f fd)(T:Txt mg aM):aP P w K mg base bY 1 f fd ["_law_rule_here","_law_line_here"] (qN K):=by
 refine F.ok sc_law_badly_closed (fun vs H Q E h=>?_) (fun cdv A outer s H vs Q E hr h=>?_)
 ·obtain⟨w,l,nv,cols,R,rfl,_⟩:=h
  rfl
 obtain⟨w,l,nv,cols,R,rfl,hw,hg,⟨ps,hps,hpl,hpc⟩,hcl,q⟩:=h
 refine⟨_,(af (aV (aX (az (fv K) (aC (aL K) (pr 0) ae (fun _ _=>rfl)) (kK (aa aZ (aa aZ (aa aZ ag)))) (by with_unfolding_all rfl))) (ah (ar iR)) aG)
 (af (i0 (i:=2) sc_law_badly_closed.nd rfl (Or.inl rfl) (own:=["_law_column_here"]) (js:=[0]) rfl (b6 K (pr 1)) (bS.of (by rfl)) (fun _ _ _ _ _=>(aN (i:=0) (show List.Nodup (["_law_column_here","_law_rule_here"]:List Str)from by decide +kernel) rfl (Or.inl rfl))) (fun _ _ _ _ _=>dm) (fun _ _ _ _ _=>(aC (aL K) (pr 0) (aq (o0 bI) (aC (aL K) (pr 1) ae (fun _ _=>rfl)) ae) (fun _ _=>rfl))) rfl)
 (af (aV (aX (az (tG K (vI hr)) (aC (aL K) (pr 0) ae (fun _ _=>rfl)) aZ (aA _))) (ah (ar (bE (o0 kH) (cz K PySem.F.plainAttrs_list PySem.F.slot_list_count PySem.F.type_list_count mW (pr 2) (aa (aC (aL K) (pr 0) ae (fun _ _=>rfl)) ag)) (aC (aL K) (pr 0) ae (fun _ _=>rfl)) (aA _)))) aG)
 (af (aV (aX (az (tG K (vI hr)) (aC (aL K) (pr 0) ae (fun _ _=>rfl)) aZ (aA _))) (ah (ar (jN (gs (bE (xK K (vI hr)) (pr 2) (b9 ag) (aA _)) (fw (bE (fv K) (aC (aL K) (pr 2) (pF (u1 lu) ae) (fun _ _=>rfl)) (aS (dc K) (pr 0) (c4 ae) bz) (by with_unfolding_all rfl))))))) aG)
 (ah (ar (jN (gs (bE (o0 gQ) (aH (aQ K) (by rfl) T.n_len boot_len (aa (pr 2) ag)) ae (aA _)) (fw (bE (o0 gQ) (aH (jD) (by rfl) T.n_abs boot_abs (aa (aq (o0 bI) (aC (aL K) (pr 2) (pF (u1 lu) ae) (fun _ _=>rfl)) (aC (aL K) (pr 2) (pF (u1 lu) ae) (fun _ _=>rfl))) ag)) (aC (aL K) (pr 0) ae (fun _ _=>rfl)) (aA _))))))))))),?_⟩
 have hs:sizeLine=16777216:=sizeLine_eq
 refine bo (fun σ H'=>kC R∈cB∧σ=[some (.ref w),some (.ref l),none]∧ax H H') ?_ ?_
 rotate_left
 ·intro u' hu
  walk_at "rd"
  refine aT hw (show dz _ ((0:Nat):Int)=_ from aK (iG R)) ?_
  walk_at "rd"
  refine⟨by omega,fun p hp=>lI (ws:=cB) (cR.of ab) ⟨_,rfl,?_⟩⟩
  by_cases h:kC R∈cB
  ·rw [if_neg (by rw [decide_eq_true h];exact Bool.false_ne_true)]
   exact hu _ _ ⟨h,rfl,au hp⟩
  ·rw [if_pos (by rw [decide_eq_false h];rfl)]
   rw [zk h]at q
   exact q _ (au hp)
 rintro _ H1 ⟨hk,rfl,s1⟩
 have hpl':∃R',R=.plain R':=by
  cases R with
  | plain R=>exact⟨R,rfl⟩
  | every m a R=>exact absurd hk (show Str.ofString "every"∉cB by decide +kernel)
 obtain⟨R',rfl⟩:=hpl'
 have hv:=pX (nv:=nv) (R:=R') hg
 refine bo (fun σ H'=>∃n:Addr,H' n=some (.lst ((bT (jr R') cols cols.length).map V.int))∧σ=[some (.ref w),some (.ref l),some (.ref n)]∧ax H H') ?_ ?_
 rotate_left
 ·intro u' hu
  walk_at "rd"
  refine cg (s1.seq hps) (cu (xs:=ps.map V.ref) (fun j ys H'=>ys=(bT (jr R') cols j).map V.int∧H1=H') (by rw [List.length_map];omega) ⟨rfl,rfl⟩ (fun j ys H' h=>by obtain⟨rfl,_⟩:=h;simp [bT]) (fun j ys H' h=>h.2▸s1.seq hps) ?_ ?_)
  ·rintro j x ys H' hx ⟨rfl,rfl⟩
   have hj:j < cols.length:=by have:=(List.getElem?_eq_some_iff.mp hx).1;rw [List.length_map]at this;omega
   have d1:ps[j]?=some (ps[j]'(by omega)):=List.getElem?_eq_getElem (by omega)
   have d2:cols[j]?=some (cols[j]'(by omega)):=List.getElem?_eq_getElem (by omega)
   rw [List.getElem?_map,d1]at hx
   cases hx
   obtain⟨f1,f2⟩:=hpc _ _ _ d1 d2
   walk_at "rd"
   refine aT (s1.seq hw) (show dz _ ((1:Nat):Int)=_ from aK (tX R')) ?_
   walk_at "rd"
   rw [show(jr R' + 1 - 1)=jr R' by omega]
   refine dB (s1.tup f1) (dU hv.1 (by omega)) ?_
   unfold bT
   rw [List.range_succ,List.map_append,List.map_append,←cO (o:=jr R') d2]
   exact⟨rfl,rfl⟩
  ·rintro ys H' ⟨rfl,rfl⟩ p2 hp2
   rw [List.length_map,hpl]
   exact hu _ _ ⟨p2,ab,rfl,s1.upd hp2⟩
 clear s1
 clear H1
 rintro _ H1 ⟨n,hn,rfl,s1⟩
 have hnl:(bT (jr R') cols cols.length).length=cols.length:=by simp [bT]
 have ixw:∀{k:Nat} {x:V} {Q':VK},(eS R')[k]?=some x→Q' x H1→lR K (.ref w) (.int (k:Int)) H1 Q':=fun hx hq=>aT (s1.seq hw) (aK hx) hq
 cases R' with
 | times o nt lw hgh=>
  walk_at "rd"
  refine ixw (k:=0) rfl ?_
  walk_at "rd"
  refine⟨.inl ⟨rfl,_,aO.of hn⟩,ixw (k:=2) rfl ⟨n,_,nt,rfl,rfl,hn,ixw (k:=3) rfl ?_⟩⟩
  walk_at "rd"
  rw [kF _ _ _ _ (Nat.le_refl _)]
  exact q _ s1
 | close o D=>
  walk_at "rd"
  refine ixw (k:=0) rfl ?_
  walk_at "rd"
  rw [if_neg (by decide +kernel)]
  refine ixw (k:=0) rfl ?_
  walk_at "rd"
  refine⟨by omega,fun p hp=>?_⟩
  have s2:ax H1 (upd H1 p (.lst [])):=au hp
  refine sf (l:=true) (aO.of (s2 _ _ hn)) (aO.of ab) ⟨_,rfl,?_⟩
  have eO:iW cols (.plain (.close o D))=(decide (cols.length≠0) && !decide (cW o cols (cols.length - 1)∈D)):=rfl
  rw [eO]at q
  by_cases h0:cols.length=0
  ·rw [if_neg (by rw [List.length_map,hnl,h0];decide)]
   rw [decide_eq_false (fun z=>z h0),Bool.false_and]at q
   exact q _ (s1.trans s2)
  ·rw [if_pos (by rw [List.length_map,hnl];simp [h0])]
   rw [decide_eq_true h0,Bool.true_and]at q
   obtain⟨k,hk'⟩:∃k,cols.length=k+1:=⟨cols.length - 1,by omega⟩
   have an:dz ((bT (jr (.close o D)) cols cols.length).map V.int) (-1)=some (.int (cW o cols k)):=oX (n:=k) (by rw [List.length_map,hnl,hk']) (by rw [List.getElem?_map,gf _ _ (by omega)];rfl)
   refine aT (aO.of (s2 _ _ hn)) an (bM ((s1.trans s2).seq hw) fun p2 hp2=>?_)
   rw [show(some (2:Int))=some ((2:Nat):Int)from rfl,bQ]
   refine eJ (D:=D) (aO.of ab) ?_
   have q':=q _ ((s1.trans s2).upd (o:=.lst (D.map V.int)) hp2)
   rw [show cols.length - 1=k by omega]at q'
   exact q'
 | back o bP=>
  walk_at "rd"
  refine ixw (k:=0) rfl ?_
  walk_at "rd"
  rw [if_neg (by decide +kernel)]
  refine ixw (k:=0) rfl ?_
  walk_at "rd"
  rw [if_neg (by decide +kernel)]
  refine⟨_,.inl (aO.of hn),?_⟩
  rw [List.length_map,hnl]
  have eO:iW cols (.plain (.back o bP))=(decide (2≤cols.length) && (decide (dG o cols (cols.length - 1) > bP) || decide (dG o cols (cols.length - 1) < 0 - bP))):=rfl
  rw [eO]at q
  by_cases h1:(1:Int) < cols.length
  ·rw [if_pos h1]
   rw [decide_eq_true (show 2≤cols.length by omega),Bool.true_and]at q
   obtain⟨k,hk'⟩:∃k,cols.length=k+2:=⟨cols.length - 2,by omega⟩
   have a1:dz ((bT (jr (.back o bP)) cols cols.length).map V.int) (-1)=some (.int (cW o cols (k+1))):=oX (n:=k+1) (by rw [List.length_map,hnl,hk']) (by rw [List.getElem?_map,gf _ _ (by omega)];rfl)
   have a2:dz ((bT (jr (.back o bP)) cols cols.length).map V.int) (-2)=some (.int (cW o cols k)):=by
    unfold dz wD
    rw [if_neg (by decide),if_pos (by rw [List.length_map,hnl];omega),List.length_map,hnl]
    show((bT (jr (.back o bP)) cols cols.length).map V.int)[((-2:Int)+(cols.length:Int)).toNat]?=_
    rw [show((-2:Int)+(cols.length:Int)).toNat=k by omega,List.getElem?_map,gf _ _ (by omega)]
    rfl
   refine aT (aO.of hn) a1 (aT (aO.of hn) a2 ?_)
   walk_at "rd"
   refine ixw (k:=2) rfl ?_
   have q':=q _ s1
   have em:dG o cols (cols.length - 1)=cW o cols (k+1) - cW o cols k:=by
    unfold dG
    rw [show cols.length - 1=k+1 by omega,Nat.add_sub_cancel]
   rw [em]at q'
   generalize cW o cols (k+1) - cW o cols k=a at q' ⊢
   have eq:(decide (a > bP) || decide (a < 0 - bP))=decide (bP < if a < 0 then -a else a):=by
    rw [Bool.eq_iff_iff,Bool.or_eq_true,decide_eq_true_eq,decide_eq_true_eq,decide_eq_true_eq]
    split<;>omega
   rw [eq]at q'
   exact⟨_,rfl,q'⟩
  ·rw [if_neg h1]
   rw [decide_eq_false (show ¬(2≤cols.length)by omega),Bool.false_and]at q
   exact q _ s1
 | span _ _ _=>exact absurd hk (show Str.ofString "span"∉cB by decide +kernel)
 | clock _ _ _ _=>exact absurd hk (show Str.ofString "clock"∉cB by decide +kernel)
 | move _ _=>exact absurd hk (show Str.ofString "move"∉cB by decide +kernel)
 | alike _ _ _=>exact absurd hk (show Str.ofString "alike"∉cB by decide +kernel)
 | held _ _=>exact absurd hk (show Str.ofString "held"∉cB by decide +kernel)
 | begin _ _=>exact absurd hk (show Str.ofString "begin"∉cB by decide +kernel)
end
def pU(Rs:List aR)(cols:List (List Int))(i k:Nat):Bool:=iO cols i (Rs.getD k (.every 1 0 (.close 0 [])))
def qv(Rs:List aR)(cols:List (List Int))(k:Nat):Bool:=iW cols (Rs.getD k (.every 1 0 (.close 0 [])))
def dH(bs:List (Int×Int))(Rs:List aR)(cols:List (List Int))(i:Nat):Option Nat:=match ba (fun v=>lQ bs cols v i) 0 bs.length with
 | some v=>some v
 | none=>(ba (pU Rs cols i) 0 Rs.length).map fun k=>bs.length+k
def dQ(bs:List (Int×Int))(Rs:List aR)(cols:List (List Int))(i:Nat):Nat→Option (Nat×Nat)
 | 0=>none
 | k+1=>match dH bs Rs cols i with
  | some r=>some (i,r)
  | none=>dQ bs Rs cols (i+1) k
def dF(bs:List (Int×Int))(Rs:List aR)(cols:List (List Int)):Option (Nat×Nat):=match dQ bs Rs cols 0 cols.length with
 | some p=>some p
 | none=>(ba (qv Rs cols) 0 Rs.length).map fun k=>(cols.length,bs.length+k)
def mw(K:PySem.W.Frag):Sp:=fun vs H Q _=>∃(a ru l:Addr) (i:Nat) (bs:List (Int×Int)) (Rs:List aR) (cols:List (List Int)),vs=[.ref a,.ref ru,.ref l,.int i]∧bX K H a bs∧bs.length≤4∧fQ H ru Rs∧Rs.length≤4∧(∀R∈Rs,c9 bs.length R)∧cZ K H l bs.length cols∧i < cols.length∧cols.length≤100∧∀H',ax H H'→Q (pC (dH bs Rs cols i)) H'
def j0(K:PySem.W.Frag):Sp:=fun vs H Q _=>∃(a ru l:Addr) (bs:List (Int×Int)) (Rs:List aR) (cols:List (List Int)),vs=[.ref a,.ref ru,.ref l]∧bX K H a bs∧bs.length≤4∧fQ H ru Rs∧Rs.length≤4∧(∀R∈Rs,c9 bs.length R)∧cZ K H l bs.length cols∧cols.length≤100∧(dF bs Rs cols=none→∀H',ax H H'→Q .non H')∧∀(p r:Nat),dF bs Rs cols=some (p,r)→∀(t:Addr) H',H' t=some (.tup [.int p,.int r])→ax H H'→Q (.ref t) H'
section
variable {P:Program} {w:World} {K:PySem.W.Frag} {mg:Str→Option Value} {base:Heap} {aM:Addr}
theorem vZ{f:Addr}{fd:FuncData}(F:cH K "_law_row_at" "_law_row_at" gI f fd)(T:Txt mg aM)(D_law_broken:bZ P w K mg base "_law_broken" 2 ["_law_rule_here","_law_line_here","_law_at"] (jj K)):aP P w K mg base bY 3 f fd ["_law_ranges_here","_law_rules_here","_law_line_here","_law_at"] (mw K):=by
 refine F.ok sc_law_row_at (fun vs H Q E h=>?_) (fun cdv A outer s H vs Q E hr h=>?_)
 ·obtain⟨a,ru,l,i,bs,Rs,cols,rfl,_⟩:=h
  rfl
 obtain⟨a,ru,l,i,bs,Rs,cols,rfl,hR,b4,hRw,r4,hgd,LL,i2,hcl,q⟩:=h
 refine⟨_,(af (cI PassesOwn.never rfl (dk rfl T.n_range (aa (aH (aQ K) (by rfl) T.n_len boot_len (aa (pr 0) ag)) ag)) (aN (i:=4) sc_law_row_at.nd rfl (Or.inl rfl))
 (ah (aV (PW.pt (cf (aX (az (o0 kH) (aC (aL K) (aC (aL K) (pr 2) (pr 3) (fun _ _=>rfl)) (pr 4) (fun _ _=>rfl)) (aC (aL K) (aC (aL K) (pr 0) (pr 4) (fun _ _=>rfl)) ae (fun _ _=>rfl)) (aA _))) (bW (aX (az (o0 gQ) (aC (aL K) (aC (aL K) (pr 2) (pr 3) (fun _ _=>rfl)) (pr 4) (fun _ _=>rfl)) (aC (aL K) (aC (aL K) (pr 0) (pr 4) (fun _ _=>rfl)) ae (fun _ _=>rfl)) (aA _)))))) (ah (ar (pr 4))) aG)))
 (af (cI PassesOwn.never rfl (dk rfl T.n_range (aa (aH (aQ K) (by rfl) T.n_len boot_len (aa (pr 1) ag)) ag)) (aN (i:=5) sc_law_row_at.nd rfl (Or.inl rfl))
 (ah (aV (aY (aE D_law_broken hr (by rfl) (aa (aC (aL K) (pr 1) (pr 5) (fun _ _=>rfl)) (aa (pr 2) (aa (pr 3) ag)))) (fun _=>rfl)) (ah (ar (aq (bO K) (aH (aQ K) (by rfl) T.n_len boot_len (aa (pr 0) ag)) (pr 5)))) aG)))
 (ah (ar bc)))),?_⟩
 have hs:sizeLine=16777216:=sizeLine_eq
 have LL0:=LL
 obtain⟨ps,hps,hpl,hpc⟩:=LL
 have e1:ps[i]?=some (ps[i]'(by omega)):=List.getElem?_eq_getElem (by omega)
 have e2:cols[i]?=some cols[i]:=List.getElem?_eq_getElem i2
 obtain⟨g1,g2⟩:=hpc i _ _ e1 e2
 have hgd':cols.getD i []=cols[i]:=by rw [List.getD_eq_getElem?_getD,e2];rfl
 obtain⟨B,hB⟩:∃B:Nat→Bool,(fun v=>lQ bs cols v i)=B:=⟨_,rfl⟩
 refine bo (fun σ H'=>∃o4:Option V,ba B 0 bs.length=none∧σ=[some (.ref a),some (.ref ru),some (.ref l),some (.int i),o4,none]∧H=H') ?_ ?_
 rotate_left
 ·intro u' hu
  walk_at "rd"
  obtain⟨ts,hts,htl,_⟩:=id hR
  refine⟨_,.inl hts,by omega,by rw [List.length_map];omega,?_⟩
  rw [List.length_map,htl]
  refine cU (fun v σ H'=>∃o4:Option V,σ=[some (.ref a),some (.ref ru),some (.ref l),some (.int i),o4,none]∧H=H'∧ba B 0 bs.length=ba B v (bs.length - v)) ⟨none,rfl,rfl,rfl⟩ ?_ ?_
  ·rintro v σ _ hv ⟨o4,rfl,rfl,e⟩
   have hv':v < bs.length:=by omega
   have eb:bs.getD v (0,0)=bs[v]:=by rw [List.getD_eq_getElem?_getD,List.getElem?_eq_getElem hv'];rfl
   have eB:B v=!(decide (bs[v].1≤aF cols[i] ((v:Int)+1)) && decide (aF cols[i] ((v:Int)+1)≤bs[v].2)):=by
    rw [←hB]
    show lQ bs cols v i=_
    unfold lQ
    rw [eb,hgd']
   rw [show bs.length - v=bs.length - (v+1)+1 by omega,ba]at e
   have li:∀{Q':VK},Q' (.int (aF cols[i] ((v:Int)+1))) H→lR K (.ref l) (.int (i:Int)) H fun x H1=>lR K x (.int (v:Int)) H1 Q':=fun hq=>aT hps (aK (by rw [List.getElem?_map,e1];rfl)) (dB g1 (dU (by omega) (by omega)) hq)
   have hit:B v=true→Q (.int (v:Int)) H:=fun hb=>by
    rw [if_pos hb]at e
    have q':=q _ (ax.refl _)
    have er:dH bs Rs cols i=some v:=by
     unfold dH
     rw [hB,e]
    rw [er]at q'
    exact q'
   walk_at "rd"
   refine li (hR.ix hv' fun t ht=>dB ht (bD rfl) ?_)
   walk_at "rd"
   by_cases h1:aF cols[i] ((v:Int)+1) < bs[v].1
   ·rw [if_pos h1]
    exact hit (by rw [eB,decide_eq_false (show ¬(bs[v].1≤aF cols[i] ((v:Int)+1))by omega)];rfl)
   rw [if_neg h1]
   refine li (hR.ix hv' fun t ht=>dB ht (show dz _ ((1:Nat):Int)=_ from aK rfl) ?_)
   walk_at "rd"
   by_cases h2:bs[v].2 < aF cols[i] ((v:Int)+1)
   ·rw [if_pos h2]
    exact hit (by rw [eB,decide_eq_true (show bs[v].1≤aF cols[i] ((v:Int)+1)by omega),decide_eq_false (show ¬(aF cols[i] ((v:Int)+1)≤bs[v].2)by omega)];rfl)
   rw [if_neg h2]
   have eF:B v=false:=by rw [eB,decide_eq_true (show bs[v].1≤aF cols[i] ((v:Int)+1)by omega),decide_eq_true (show aF cols[i] ((v:Int)+1)≤bs[v].2 by omega)];rfl
   rw [if_neg (by rw [eF];exact Bool.false_ne_true)]at e
   exact e
  ·rintro σ _ ⟨o4,rfl,rfl,e⟩
   rw [Int.toNat_natCast,Nat.sub_self,ba]at e
   exact hu _ _ ⟨o4,e,rfl,rfl⟩
 rintro _ _ ⟨o4,eN,rfl,rfl⟩
 have eR:dH bs Rs cols i=(ba (pU Rs cols i) 0 Rs.length).map fun k=>bs.length+k:=by
  unfold dH
  rw [hB,eN]
 rw [eR]at q
 obtain⟨B2,hB2⟩:∃B2:Nat→Bool,pU Rs cols i=B2:=⟨_,rfl⟩
 rw [hB2]at q
 obtain⟨ws,hws,hwl,hwc⟩:=id hRw
 walk_at "rd"
 refine⟨_,.inl (aO.of hws),by omega,by rw [List.length_map];omega,?_⟩
 rw [List.length_map,hwl]
 refine cU (fun k σ H'=>∃o5:Option V,σ=[some (.ref a),some (.ref ru),some (.ref l),some (.int i),o4,o5]∧ax H H'∧ba B2 0 Rs.length=ba B2 k (Rs.length - k)) ⟨none,rfl,ax.refl _,rfl⟩ ?_ ?_
 ·rintro k σ H1 hk ⟨o5,rfl,s1,e⟩
  have hk':k < Rs.length:=by omega
  have d1:ws[k]?=some (ws[k]'(by omega)):=List.getElem?_eq_getElem (by omega)
  have d2:Rs[k]?=some Rs[k]:=List.getElem?_eq_getElem hk'
  have eB:B2 k=iO cols i Rs[k]:=by
   rw [←hB2]
   show iO cols i (Rs.getD k _)=_
   rw [List.getD_eq_getElem?_getD,d2]
   rfl
  rw [show Rs.length - k=Rs.length - (k+1)+1 by omega,ba]at e
  walk_at "rd"
  have aw:dz (ws.map V.ref) (k:Int)=some (.ref (ws[k]'(by omega))):=aK (by rw [List.getElem?_map,d1];rfl)
  refine aT (s1.seq (aO.of hws)) aw ⟨ws[k]'(by omega),l,i,bs.length,cols,Rs[k],rfl,aO.of (s1 _ _ (hwc k _ _ d1 d2)),hgd _ (List.getElem_mem hk'),LL0.same s1,i2,hcl,fun H2 s2=>?_⟩
  rw [←eB]
  walk_at "rd"
  by_cases hb:B2 k=true
  ·rw [if_pos hb]
   rw [if_pos hb]at e
   obtain⟨ts,hts,htl,_⟩:=id hR
   refine⟨_,.inl ((s1.trans s2).seq hts),?_⟩
   rw [List.length_map,htl]
   have q':=q _ (s1.trans s2)
   rw [e]at q'
   exact q'
  ·rw [if_neg hb]
   rw [if_neg hb]at e
   exact⟨s1.trans s2,e⟩
 ·rintro σ H1 ⟨o5,rfl,s1,e⟩
  walk_at "rd"
  rw [Int.toNat_natCast,Nat.sub_self,ba]at e
  have q':=q _ s1
  rw [e]at q'
  exact q'
theorem vV{f:Addr}{fd:FuncData}(F:cH K "_law_fault" "_law_fault" ik f fd)(T:Txt mg aM)(D_law_row_at:bZ P w K mg base "_law_row_at" 3 ["_law_ranges_here","_law_rules_here","_law_line_here","_law_at"] (mw K))(D_law_badly_closed:bZ P w K mg base "_law_badly_closed" 3 ["_law_rule_here","_law_line_here"] (qN K)):aP P w K mg base bY 4 f fd ["_law_ranges_here","_law_rules_here","_law_line_here"] (j0 K):=by
 refine F.ok sc_law_fault (fun vs H Q E h=>?_) (fun cdv A outer s H vs Q E hr h=>?_)
 ·obtain⟨a,ru,l,bs,Rs,cols,rfl,_⟩:=h
  rfl
 obtain⟨a,ru,l,bs,Rs,cols,rfl,hR,b4,hRw,r4,hgd,LL,hcl,q0,qn⟩:=h
 refine⟨_,(af (cI PassesOwn.never rfl (dk rfl T.n_range (aa (aH (aQ K) (by rfl) T.n_len boot_len (aa (pr 2) ag)) ag)) (aN (i:=3) sc_law_fault.nd rfl (Or.inl rfl))
 (af (aJ (i:=4) sc_law_fault.nd rfl (Or.inl rfl) (aE D_law_row_at hr (by rfl) (aa (pr 0) (aa (pr 1) (aa (pr 2) (aa (pr 3) ag))))))
 (ah (aV (aX (az mh (pr 4) bc (aA _))) (ah (ar (kK (aa (pr 3) (aa (pr 4) ag))))) aG))))
 (af (cI PassesOwn.never rfl (dk rfl T.n_range (aa (aH (aQ K) (by rfl) T.n_len boot_len (aa (pr 1) ag)) ag)) (aN (i:=5) sc_law_fault.nd rfl (Or.inl rfl))
 (ah (aV (aY (aE D_law_badly_closed hr (by rfl) (aa (aC (aL K) (pr 1) (pr 5) (fun _ _=>rfl)) (aa (pr 2) ag))) (fun _=>rfl)) (ah (ar (kK (aa (aH (aQ K) (by rfl) T.n_len boot_len (aa (pr 2) ag)) (aa (aq (bO K) (aH (aQ K) (by rfl) T.n_len boot_len (aa (pr 0) ag)) (pr 5)) ag))))) aG)))
 (ah (ar bc)))),?_⟩
 have hs:sizeLine=16777216:=sizeLine_eq
 have LL0:=LL
 obtain⟨ps,hps,hpl,hpc⟩:=LL
 refine bo (fun σ H'=>∃o3 o4:Option V,dQ bs Rs cols 0 cols.length=none∧σ=[some (.ref a),some (.ref ru),some (.ref l),o3,o4,none]∧ax H H') ?_ ?_
 rotate_left
 ·intro u' hu
  walk_at "rd"
  refine⟨_,.inl hps,by omega,by rw [List.length_map];omega,?_⟩
  rw [List.length_map,hpl]
  refine cU (fun i σ H'=>∃o3 o4:Option V,σ=[some (.ref a),some (.ref ru),some (.ref l),o3,o4,none]∧ax H H'∧dQ bs Rs cols 0 cols.length=dQ bs Rs cols i (cols.length - i)) ⟨none,none,rfl,ax.refl _,rfl⟩ ?_ ?_
  ·rintro i σ H1 hi ⟨o3,o4,rfl,s1,e⟩
   have hi':i < cols.length:=by omega
   rw [show cols.length - i=cols.length - (i+1)+1 by omega,dQ]at e
   walk_at "rd"
   refine⟨a,ru,l,i,bs,Rs,cols,rfl,hR.same s1,b4,hRw.same s1,r4,hgd,LL0.same s1,hi',hcl,fun H2 s2=>?_⟩
   walk_at "rd"
   cases hr:dH bs Rs cols i with
   | none=>
    rw [hr]at e
    rw [if_pos (show pC none=V.non from rfl)]
    exact⟨s1.trans s2,e⟩
   | some r=>
    rw [hr]at e
    rw [if_neg (show ¬(pC (some r)=V.non)from fun z=>by cases z)]
    refine⟨by omega,fun t ht=>qn i r ?_ t _ ab ((s1.trans s2).upd ht)⟩
    unfold dF
    rw [e]
  ·rintro σ H1 ⟨o3,o4,rfl,s1,e⟩
   rw [Int.toNat_natCast,Nat.sub_self,dQ]at e
   exact hu _ _ ⟨o3,o4,e,rfl,s1⟩
 rintro _ H1 ⟨o3,o4,eN,rfl,s1⟩
 have eF:dF bs Rs cols=(ba (qv Rs cols) 0 Rs.length).map fun k=>(cols.length,bs.length+k):=by
  unfold dF
  rw [eN]
 rw [eF]at q0 qn
 obtain⟨B2,hB2⟩:∃B2:Nat→Bool,qv Rs cols=B2:=⟨_,rfl⟩
 rw [hB2]at q0 qn
 obtain⟨ws,hws,hwl,hwc⟩:=id hRw
 walk_at "rd"
 refine⟨_,.inl (s1.seq (aO.of hws)),by omega,by rw [List.length_map];omega,?_⟩
 rw [List.length_map,hwl]
 refine cU (fun k σ H'=>∃o5:Option V,σ=[some (.ref a),some (.ref ru),some (.ref l),o3,o4,o5]∧ax H H'∧ba B2 0 Rs.length=ba B2 k (Rs.length - k)) ⟨none,rfl,s1,rfl⟩ ?_ ?_
 ·rintro k σ H2 hk ⟨o5,rfl,s2,e⟩
  have hk':k < Rs.length:=by omega
  have d1:ws[k]?=some (ws[k]'(by omega)):=List.getElem?_eq_getElem (by omega)
  have d2:Rs[k]?=some Rs[k]:=List.getElem?_eq_getElem hk'
  have eB:B2 k=iW cols Rs[k]:=by
   rw [←hB2]
   show iW cols (Rs.getD k _)=_
   rw [List.getD_eq_getElem?_getD,d2]
   rfl
  rw [show Rs.length - k=Rs.length - (k+1)+1 by omega,ba]at e
  have aw:dz (ws.map V.ref) (k:Int)=some (.ref (ws[k]'(by omega))):=aK (by rw [List.getElem?_map,d1];rfl)
  walk_at "rd"
  refine aT (s2.seq (aO.of hws)) aw ⟨ws[k]'(by omega),l,bs.length,cols,Rs[k],rfl,aO.of (s2 _ _ (hwc k _ _ d1 d2)),hgd _ (List.getElem_mem hk'),LL0.same s2,hcl,fun H3 s3=>?_⟩
  rw [←eB]
  walk_at "rd"
  by_cases hb:B2 k=true
  ·rw [if_pos hb]
   rw [if_pos hb]at e
   obtain⟨ts,hts,htl,_⟩:=id hR
   refine⟨_,.inl ((s2.trans s3).seq hps),_,.inl ((s2.trans s3).seq hts),by omega,fun t ht=>?_⟩
   rw [List.length_map,List.length_map,htl,hpl]
   exact qn cols.length (bs.length+k) (by rw [e];rfl) t _ ab ((s2.trans s3).upd ht)
  ·rw [if_neg hb]
   rw [if_neg hb]at e
   exact⟨s2.trans s3,e⟩
 ·rintro σ H2 ⟨o5,rfl,s2,e⟩
  walk_at "rd"
  rw [Int.toNat_natCast,Nat.sub_self,ba]at e
  exact q0 (by rw [e];rfl) _ s2
end
theorem pG{nv:Nat}{cols:List (List Int)}{R:aR}(hg:c9 nv R):gu cols R=match ba (fun i=>iO cols i R) 0 cols.length with | some j=>some j | none=>if iW cols R=true then some cols.length else none:=by
 have W:=Ab nv cols R hg
 have c:=wO nv cols R hg cols.length (Nat.le_refl _)
 rw [List.take_length]at c
 have h:=W.brk
 rw [c]at h
 unfold brk AK at h
 unfold gu
 cases hf:ba (fun i=>iO cols i R) 0 cols.length with
 | some j=>
  rw [hf]at h
  cases hb:gO (gg R) (gg R).start none 0 cols with
  | none=>rw [hb]at h;cases h
  | some k=>
   rw [hb]at h
   have:((k:Nat):Int)=((j:Nat):Int):=Option.some.inj h
   show some k=some j
   congr 1
   omega
 | none=>
  rw [hf]at h
  simp only at h ⊢
  cases ho:iW cols R with
  | false=>
   rw [ho]at h
   cases hb:gO (gg R) (gg R).start none 0 cols with
   | none=>rfl
   | some k=>rw [hb]at h;cases h
  | true=>
   rw [ho]at h
   cases hb:gO (gg R) (gg R).start none 0 cols with
   | none=>rw [hb]at h;cases h
   | some k=>
    rw [hb]at h
    have:((k:Nat):Int)=((cols.length:Nat):Int):=Option.some.inj h
    show some k=some cols.length
    congr 1
    omega
theorem cC(B:Nat→Bool):∀(k i:Nat),(∀j,ba B i k=some j→i≤j∧j < i+k∧B j=true∧∀m,i≤m→m < j→B m=false)∧(ba B i k=none→∀m,i≤m→m < i+k→B m=false)
 | 0,i=>⟨fun j h=>by simp [ba]at h,fun _ m h1 h2=>by omega⟩
 | k+1,i=>by
  obtain⟨h1,h2⟩:=cC B k (i+1)
  rw [ba]
  by_cases hb:B i=true
  ·rw [if_pos hb]
   exact⟨fun j h=>by cases h;exact⟨Nat.le_refl _,by omega,hb,fun m a b=>by omega⟩,fun h=>by cases h⟩
  ·rw [if_neg hb]
   have hb':B i=false:=by revert hb;cases B i<;>simp
   refine⟨fun j h=>?_,fun h m a b=>?_⟩
   ·obtain⟨a,b,c,d⟩:=h1 j h
    refine⟨by omega,by omega,c,fun m e f=>?_⟩
    by_cases hm:m=i
    ·rw [hm];exact hb'
    ·exact d m (by omega) f
   ·by_cases hm:m=i
    ·rw [hm];exact hb'
    ·exact h2 h m (by omega) (by omega)
theorem fc:∀(l:List (Option Nat)) (n:Nat) (k:Int×Int),k∈bL n l↔∃r p:Nat,l[r]?=some (some p)∧k=((p:Int),((n+r:Nat):Int))
 | [],n,k=>by simp [bL]
 | none::l,n,k=>by
  rw [bL,fc l (n+1) k]
  constructor
  ·rintro⟨r,p,h,rfl⟩
   exact⟨r+1,p,h,by rw [show n+1+r=n+(r+1)by omega]⟩
  ·rintro⟨r,p,h,rfl⟩
   cases r with
   | zero=>cases h
   | succ r=>exact⟨r,p,h,by rw [show n+1+r=n+(r+1)by omega]⟩
 | some q::l,n,k=>by
  rw [bL,List.mem_cons,fc l (n+1) k]
  constructor
  ·rintro(rfl | ⟨r,p,h,rfl⟩)
   ·exact⟨0,q,rfl,rfl⟩
   ·exact⟨r+1,p,h,by rw [show n+1+r=n+(r+1)by omega]⟩
  ·rintro⟨r,p,h,rfl⟩
   cases r with
   | zero=>cases h;exact .inl rfl
   | succ r=>exact .inr ⟨r,p,h,by rw [show n+1+r=n+(r+1)by omega]⟩
def cK(bs:List (Int×Int))(Rs:List aR)(cols:List (List Int))(p r:Nat):Bool:=
 if r < bs.length then decide (p < cols.length) && lQ bs cols r p else if p < cols.length then pU Rs cols p (r - bs.length)else decide (p=cols.length) && qv Rs cols (r - bs.length)
theorem iF{bs:List (Int×Int)}{Rs:List aR}{cols:List (List Int)}(hg:∀R∈Rs,c9 bs.length R){r p:Nat}(h:(places bs Rs cols)[r]?=some (some p)):r < bs.length+Rs.length∧p≤cols.length∧cK bs Rs cols p r=true∧∀m,m < p→cK bs Rs cols m r=false:=by
 have hl:(places bs Rs cols).length=bs.length+Rs.length:=by simp [places]
 have hr:r < bs.length+Rs.length:=by rw [←hl];exact(List.getElem?_eq_some_iff.mp h).1
 refine⟨hr,?_⟩
 unfold places at h
 by_cases hb:r < bs.length
 ·rw [List.getElem?_append_left (by simpa using hb),List.getElem?_map,List.getElem?_range hb]at h
  have h':iZ bs cols r=some p:=Option.some.inj h
  obtain⟨_,a,b,c⟩:=(cC (lQ bs cols r) cols.length 0).1 p h'
  refine⟨by omega,?_,fun m hm=>?_⟩
  ·unfold cK
   rw [if_pos hb,b,decide_eq_true (by omega)]
   rfl
  ·unfold cK
   rw [if_pos hb,c m (by omega) hm,Bool.and_false]
 ·rw [List.getElem?_append_right (by simpa using hb),List.length_map,List.length_range,List.getElem?_map]at h
  have hk:r - bs.length < Rs.length:=by omega
  have eR:Rs[r - bs.length]?=some (Rs[r - bs.length]'hk):=List.getElem?_eq_getElem hk
  rw [eR]at h
  have h':gu cols (Rs[r - bs.length]'hk)=some p:=Option.some.inj h
  rw [pG (hg _ (List.getElem_mem hk))]at h'
  have eB:∀m,pU Rs cols m (r - bs.length)=iO cols m (Rs[r - bs.length]'hk):=fun m=>by
   show iO cols m (Rs.getD _ _)=_
   rw [List.getD_eq_getElem?_getD,eR]
   rfl
  have eO:qv Rs cols (r - bs.length)=iW cols (Rs[r - bs.length]'hk):=by
   show iW cols (Rs.getD _ _)=_
   rw [List.getD_eq_getElem?_getD,eR]
   rfl
  cases hf:ba (fun i=>iO cols i (Rs[r - bs.length]'hk)) 0 cols.length with
  | some j=>
   rw [hf]at h'
   cases h'
   obtain⟨_,a,b,c⟩:=(cC _ cols.length 0).1 _ hf
   refine⟨by omega,?_,fun m hm=>?_⟩
   ·unfold cK
    rw [if_neg hb,if_pos (by omega),eB]
    exact b
   ·unfold cK
    rw [if_neg hb,if_pos (by omega),eB]
    exact c m (by omega) hm
  | none=>
   rw [hf]at h'
   simp only at h'
   have hn:=(cC _ cols.length 0).2 hf
   by_cases ho:iW cols (Rs[r - bs.length]'hk)=true
   ·rw [if_pos ho]at h'
    cases h'
    refine⟨Nat.le_refl _,?_,fun m hm=>?_⟩
    ·unfold cK
     rw [if_neg hb,if_neg (by omega),eO,ho,decide_eq_true rfl]
     rfl
    ·unfold cK
     rw [if_neg hb,if_pos hm,eB]
     exact hn m (by omega) (by omega)
   ·rw [if_neg ho]at h'
    cases h'
theorem pH{bs:List (Int×Int)}{Rs:List aR}{cols:List (List Int)}(hg:∀R∈Rs,c9 bs.length R){r p:Nat}(hr:r < bs.length+Rs.length)(h:cK bs Rs cols p r=true):∃p',p'≤p∧(places bs Rs cols)[r]?=some (some p'):=by
 have hl:(places bs Rs cols).length=bs.length+Rs.length:=by simp [places]
 have e:(places bs Rs cols)[r]?=some ((places bs Rs cols)[r]'(by omega)):=List.getElem?_eq_getElem (by omega)
 cases hz:(places bs Rs cols)[r]'(by omega)with
 | some p'=>
  rw [hz]at e
  refine⟨p',?_,e⟩
  obtain⟨_,_,_,d⟩:=iF hg e
  by_cases hp:p'≤p
  ·exact hp
  ·have:=d p (by omega)
   rw [h]at this
   cases this
 | none=>
  exfalso
  rw [hz]at e
  unfold places at e
  by_cases hb:r < bs.length
  ·rw [List.getElem?_append_left (by simpa using hb),List.getElem?_map,List.getElem?_range hb]at e
   have h':iZ bs cols r=none:=Option.some.inj e
   have:=(cC (lQ bs cols r) cols.length 0).2 h'
   unfold cK at h
   rw [if_pos hb]at h
   simp only [Bool.and_eq_true,decide_eq_true_eq]at h
   rw [this p (by omega) (by omega)]at h
   cases h.2
  ·rw [List.getElem?_append_right (by simpa using hb),List.length_map,List.length_range,List.getElem?_map]at e
   have hk:r - bs.length < Rs.length:=by omega
   have eR:Rs[r - bs.length]?=some (Rs[r - bs.length]'hk):=List.getElem?_eq_getElem hk
   rw [eR]at e
   have h':gu cols (Rs[r - bs.length]'hk)=none:=Option.some.inj e
   rw [pG (hg _ (List.getElem_mem hk))]at h'
   have eB:∀m,pU Rs cols m (r - bs.length)=iO cols m (Rs[r - bs.length]'hk):=fun m=>by
    show iO cols m (Rs.getD _ _)=_
    rw [List.getD_eq_getElem?_getD,eR]
    rfl
   have eO:qv Rs cols (r - bs.length)=iW cols (Rs[r - bs.length]'hk):=by
    show iW cols (Rs.getD _ _)=_
    rw [List.getD_eq_getElem?_getD,eR]
    rfl
   unfold cK at h
   rw [if_neg hb]at h
   cases hf:ba (fun i=>iO cols i (Rs[r - bs.length]'hk)) 0 cols.length with
   | some j=>rw [hf]at h';cases h'
   | none=>
    rw [hf]at h'
    simp only at h'
    have hn:=(cC _ cols.length 0).2 hf
    by_cases hp:p < cols.length
    ·rw [if_pos hp,eB]at h
     have hnp:iO cols p (Rs[r - bs.length]'hk)=false:=hn p (by omega) (by omega)
     rw [hnp]at h
     cases h
    ·rw [if_neg hp,eO]at h
     simp only [Bool.and_eq_true,decide_eq_true_eq]at h
     rw [if_pos h.2]at h'
     cases h'
theorem i5(bs:List (Int×Int))(Rs:List aR)(cols:List (List Int)){i:Nat}(hi:i < cols.length):(∀r,dH bs Rs cols i=some r→r < bs.length+Rs.length∧cK bs Rs cols i r=true∧∀m,m < r→cK bs Rs cols i m=false)∧(dH bs Rs cols i=none→∀m,m < bs.length+Rs.length→cK bs Rs cols i m=false):=by
 obtain⟨a1,a2⟩:=cC (fun v=>lQ bs cols v i) bs.length 0
 obtain⟨b1,b2⟩:=cC (pU Rs cols i) Rs.length 0
 have lo:∀m,m < bs.length→cK bs Rs cols i m=lQ bs cols m i:=fun m hm=>by
  unfold cK
  rw [if_pos hm,decide_eq_true hi,Bool.true_and]
 have hi':∀m,¬m < bs.length→cK bs Rs cols i m=pU Rs cols i (m - bs.length):=fun m hm=>by
  unfold cK
  rw [if_neg hm,if_pos hi]
 unfold dH
 cases hf:ba (fun v=>lQ bs cols v i) 0 bs.length with
 | some v=>
  obtain⟨_,c1,c2,c3⟩:=a1 v hf
  refine⟨fun r h=>?_,fun h=>by cases h⟩
  cases h
  exact⟨by omega,by rw [lo v (by omega)];exact c2,fun m hm=>by rw [lo m (by omega)];exact c3 m (by omega) hm⟩
 | none=>
  have n1:=a2 hf
  have nlo:∀m,m < bs.length→cK bs Rs cols i m=false:=fun m hm=>by rw [lo m hm];exact n1 m (by omega) (by omega)
  simp only
  cases hf2:ba (pU Rs cols i) 0 Rs.length with
  | some k=>
   obtain⟨_,c1,c2,c3⟩:=b1 k hf2
   refine⟨fun r h=>?_,fun h=>(by cases h)⟩
   obtain rfl:bs.length+k=r:=Option.some.inj h
   refine⟨by omega,?_,fun m hm=>?_⟩
   ·rw [hi' _ (by omega),Nat.add_sub_cancel_left]
    exact c2
   ·by_cases hb:m < bs.length
    ·exact nlo m hb
    ·rw [hi' m hb]
     exact c3 _ (by omega) (by omega)
  | none=>
   have n2:=b2 hf2
   refine⟨fun r h=>(by cases h),fun _ m hm=>?_⟩
   by_cases hb:m < bs.length
   ·exact nlo m hb
   ·rw [hi' m hb]
    exact n2 _ (by omega) (by omega)
theorem jE(bs:List (Int×Int))(Rs:List aR)(cols:List (List Int)):∀(k i:Nat),(∀p r,dQ bs Rs cols i k=some (p,r)→i≤p∧p < i+k∧dH bs Rs cols p=some r∧∀m,i≤m→m < p→dH bs Rs cols m=none)∧(dQ bs Rs cols i k=none→∀m,i≤m→m < i+k→dH bs Rs cols m=none)
 | 0,i=>⟨fun p r h=>(by cases h),fun _ m h1 h2=>by omega⟩
 | k+1,i=>by
  obtain⟨h1,h2⟩:=jE bs Rs cols k (i+1)
  rw [dQ]
  cases hr:dH bs Rs cols i with
  | some r0=>
   refine⟨fun p r h=>?_,fun h=>by cases h⟩
   cases h
   exact⟨Nat.le_refl _,by omega,hr,fun m a b=>by omega⟩
  | none=>
   simp only
   refine⟨fun p r h=>?_,fun h m a b=>?_⟩
   ·obtain⟨a,b,c,d⟩:=h1 p r h
    refine⟨by omega,by omega,c,fun m e f=>?_⟩
    by_cases hm:m=i
    ·rw [hm];exact hr
    ·exact d m (by omega) f
   ·by_cases hm:m=i
    ·rw [hm];exact hr
    ·exact h2 h m (by omega) (by omega)
theorem iT(bs:List (Int×Int))(Rs:List aR)(cols:List (List Int)):(∀p r,dF bs Rs cols=some (p,r)→r < bs.length+Rs.length∧p≤cols.length∧cK bs Rs cols p r=true∧(∀m,m < r→cK bs Rs cols p m=false)∧∀m,m < p→∀r',r' < bs.length+Rs.length→cK bs Rs cols m r'=false)∧(dF bs Rs cols=none→∀m,m≤cols.length→∀r',r' < bs.length+Rs.length→cK bs Rs cols m r'=false):=by
 obtain⟨h1,h2⟩:=jE bs Rs cols cols.length 0
 obtain⟨o1,o2⟩:=cC (qv Rs cols) Rs.length 0
 unfold dF
 have hlo:∀m,m < bs.length→cK bs Rs cols cols.length m=false:=fun m hm=>by
  unfold cK
  rw [if_pos hm,decide_eq_false (by omega),Bool.false_and]
 have hhi:∀m,¬m < bs.length→cK bs Rs cols cols.length m=qv Rs cols (m - bs.length):=fun m hm=>by
  unfold cK
  rw [if_neg hm,if_neg (by omega),decide_eq_true rfl,Bool.true_and]
 cases hf:dQ bs Rs cols 0 cols.length with
 | some pr=>
  obtain⟨p0,r0⟩:=pr
  obtain⟨_,a,b,c⟩:=h1 p0 r0 hf
  refine⟨fun p r h=>?_,fun h=>by cases h⟩
  cases h
  obtain⟨x,y,z⟩:=(i5 bs Rs cols (show p0 < cols.length by omega)).1 r0 b
  exact⟨x,by omega,y,z,fun m hm r' hr'=>(i5 bs Rs cols (show m < cols.length by omega)).2 (c m (by omega) hm) r' hr'⟩
 | none=>
  have n1:=h2 hf
  have before:∀m,m < cols.length→∀r',r' < bs.length+Rs.length→cK bs Rs cols m r'=false:=fun m hm r' hr'=>(i5 bs Rs cols hm).2 (n1 m (by omega) (by omega)) r' hr'
  simp only
  cases hf2:ba (qv Rs cols) 0 Rs.length with
  | some k=>
   obtain⟨_,c1,c2,c3⟩:=o1 k hf2
   refine⟨fun p r h=>?_,fun h=>(by cases h)⟩
   have h':(cols.length,bs.length+k)=(p,r):=Option.some.inj h
   cases h'
   refine⟨by omega,Nat.le_refl _,by rw [hhi _ (by omega),Nat.add_sub_cancel_left];exact c2,fun m hm=>?_,before⟩
   by_cases hb:m < bs.length
   ·exact hlo m hb
   ·rw [hhi m hb]
    exact c3 _ (by omega) (by omega)
  | none=>
   have n2:=o2 hf2
   refine⟨fun p r h=>(by cases h),fun _ m hm r' hr'=>?_⟩
   by_cases hmn:m < cols.length
   ·exact before m hmn r' hr'
   ·have e:m=cols.length:=by omega
    subst e
    by_cases hb:r' < bs.length
    ·exact hlo r' hb
    ·rw [hhi r' hb]
     exact n2 _ (by omega) (by omega)
theorem sX{bs:List (Int×Int)}{Rs:List aR}{cols:List (List Int)}(hg:∀R∈Rs,c9 bs.length R)(h:dF bs Rs cols=none):bL 0 (places bs Rs cols)=[]:=by
 cases hp:bL 0 (places bs Rs cols)with
 | nil=>rfl
 | cons k l=>
  exfalso
  obtain⟨r,p,h1,_⟩:=(fc (places bs Rs cols) 0 k).mp (by rw [hp];exact .head _)
  obtain⟨a,b,c,_⟩:=iF hg h1
  have:=(iT bs Rs cols).2 h p b r a
  rw [this]at c
  cases c
theorem rA{bs:List (Int×Int)}{Rs:List aR}{cols:List (List Int)}(hg:∀R∈Rs,c9 bs.length R){p r:Nat}(h:dF bs Rs cols=some (p,r)){k:Int×Int}(hk:k∈bL 0 (places bs Rs cols))(hm:∀k'∈bL 0 (places bs Rs cols),wH k' k=false):k=((p:Int),(r:Int)):=by
 obtain⟨a1,a2,a3,a4,a5⟩:=(iT bs Rs cols).1 p r h
 obtain⟨r',p',h1,rfl⟩:=(fc _ _ _).mp hk
 rw [Nat.zero_add]at hm ⊢
 obtain⟨b1,b2,b3,b4⟩:=iF hg h1
 obtain⟨p'',c1,c2⟩:=pH hg a1 a3
 have hp'':p''=p:=by
  obtain⟨_,_,d3,_⟩:=iF hg c2
  by_cases he:p''=p
  ·exact he
  ·have:=a5 p'' (by omega) r a1
   rw [this]at d3
   cases d3
 subst hp''
 have hin:=hm ((p'':Int),(r:Int)) ((fc _ _ _).mpr ⟨r,p'',c2,by rw [Nat.zero_add]⟩)
 have hpp:¬p' < p'':=fun hlt=>by
  have:=a5 p' hlt r' b1
  rw [this]at b3
  cases b3
 have hrr:p'=p''→¬r' < r:=fun e hlt=>by
  have:=a4 r' hlt
  rw [e]at b3
  rw [this]at b3
  cases b3
 unfold wH at hin
 simp only [Bool.or_eq_false_iff,Bool.and_eq_false_iff,decide_eq_false_iff_not]at hin
 obtain⟨i1,i2⟩:=hin
 have e1:p'=p'':=by omega
 have e2:r'=r:=by
  have:=hrr e1
  rcases i2 with i2 | i2
  ·omega
  ·omega
 rw [e1,e2]
def iH(K:PySem.W.Frag):Sp:=fun vs H Q _=>∃x y:V,vs=[x,y]∧((x=.non∧y=.non)∨∃(t u:Addr) (p r:Int),x=.ref t∧y=.ref u∧H t=some (.tup [.int p,.int r])∧H u=some (.tup [.int p,.int r]))∧Q (.bl true) H
def qP(K:PySem.W.Frag):Sp:=fun vs H Q _=>∃(a:Addr) (n:Int) (bs:List (Int×Int)),vs=[.ref a,.int n]∧bX K H a bs∧zq bs∧bs.length≤4∧0≤n∧∀(t:Addr) (us:List Int) H',us.length=bs.length→H' t=some (.tup (us.map V.int))→H t=none→ax H H'→Q (.ref t) H'
section
variable {P:Program} {w:World} {K:PySem.W.Frag} {mg:Str→Option Value} {base:Heap} {aM:Addr}
theorem xN{f:Addr}{fd:FuncData}(F:cH K "_law_alike" "_law_alike" ig f fd)(T:Txt mg aM):aP P w K mg base bY 1 f fd ["_law_found","_law_due"] (iH K):=by
 refine F.ok sc_law_alike (fun vs H Q E h=>?_) (fun cdv A outer s H vs Q E hr h=>?_)
 ·obtain⟨x,y,rfl,_⟩:=h
  rfl
 obtain⟨x,y,rfl,h,q⟩:=h
 refine⟨_,(af (aV (aX (az d8 (pr 1) bc (aA _))) (ah (ar (bE d8 (pr 0) bc (aA _)))) aG)
 (af (aV (PW.pt (cf (b0 (aY (aH (gn K) (by rfl) T.n_isinstance boot_isinstance (aa (pr 0) (aa (qA (v:=.ty "tuple") (by rfl) T.n_tuple boot_tuple rfl) ag))) (fun _=>rfl))) (bW (aX (az (xK K (vI hr)) (aH (aQ K) (by rfl) T.n_len boot_len (aa (pr 0) ag)) ae (aA _)))))) (ah (ar iR)) aG)
 (af (cI PassesOwn.never rfl (b6 K (pr 0)) (aN (i:=2) sc_law_alike.nd rfl (Or.inl rfl))
 (ah (aV (PW.pt (cf (b0 (aY (aH (gn K) (by rfl) T.n_isinstance boot_isinstance (aa (pr 2) (aa (qA (v:=.ty "int") (by rfl) T.n_int boot_int rfl) ag))) (fun _=>rfl))) (bW (aY (aH (gn K) (by rfl) T.n_isinstance boot_isinstance (aa (pr 2) (aa (qA (v:=.ty "bool") (by rfl) T.n_bool boot_bool rfl) ag))) (fun _=>rfl))))) (ah (ar iR)) aG)))
 (ah (ar (bE (tG K (vI hr)) (pr 0) (pr 1) (aA _))))))),?_⟩
 rcases h with⟨rfl,rfl⟩ | ⟨t,u,p,r,rfl,rfl,ht,hu0⟩
 ·walk_at "rd"
  exact q
 refine bo (fun σ H'=>σ=[some (.ref t),some (.ref u),none]∧H=H') ?_ ?_
 rotate_left
 ·intro u' hu
  walk_at "rd"
  exact hu _ _ ⟨rfl,rfl⟩
 rintro _ _ ⟨rfl,rfl⟩
 refine bo (fun σ H'=>σ=[some (.ref t),some (.ref u),none]∧H=H') ?_ ?_
 rotate_left
 ·intro u' hu
  walk_at "rd"
  refine⟨_,.tup ht,true,rfl,?_⟩
  rw [if_neg (show ¬(true=false)from fun z=>by cases z)]
  refine⟨[.int p,.int r],.inr (cR.of ht),?_⟩
  walk_at "rd"
  exact hu _ _ ⟨rfl,rfl⟩
 rintro _ _ ⟨rfl,rfl⟩
 refine bo (fun σ H'=>∃o:Option V,σ=[some (.ref t),some (.ref u),o]∧H=H') ?_ ?_
 rotate_left
 ·intro u' hu
  walk_at "rd"
  refine zS (cR.of ht) (xG (xs:=[.int p,.int r]) (fun i σ H'=>∃o:Option V,σ=[some (.ref t),some (.ref u),o]∧H=H') ⟨none,rfl,rfl⟩ (fun i σ H' _ z=>by obtain⟨_,_,z⟩:=z;exact z▸cR.of ht) ?_ ?_)
  ·rintro i y σ H1 hy ⟨o,rfl,rfl⟩
   obtain⟨n,rfl⟩:∃n,y=.int n:=by
    have:=List.mem_of_getElem? hy
    rcases List.mem_cons.mp this with h | h
    ·exact⟨_,h⟩
    ·exact⟨_,List.mem_singleton.mp h⟩
   walk_at "rd"
   refine⟨_,.int _,true,rfl,?_⟩
   rw [if_neg (show ¬(true=false)from fun z=>by cases z)]
   refine⟨_,.int _,false,rfl,?_⟩
   walk_at "rd"
  ·rintro σ H1 ⟨o,rfl,rfl⟩
   exact hu _ _ ⟨o,rfl,rfl⟩
 rintro _ _ ⟨o,rfl,rfl⟩
 walk_at "rd"
 exact wa (l:=false) (cR.of ht) (cR.of hu0) (fun x hx=>.inl (by
  rcases List.mem_cons.mp hx with h | h
  ·rw [h];rfl
  ·rw [List.mem_singleton.mp h];rfl)) q
theorem vU{f:Addr}{fd:FuncData}(F:cH K "_law_column" "_law_column" gG f fd)(T:Txt mg aM):aP P w K mg base bY 1 f fd ["_law_ranges_here","_law_number"] (qP K):=by
 refine F.ok sc_law_column (fun vs H Q E h=>?_) (fun cdv A outer s H vs Q E hr h=>?_)
 ·obtain⟨a,n,bs,rfl,_⟩:=h
  rfl
 obtain⟨a,n,bs,rfl,⟨ts,hts,htl,htc⟩,⟨bP,f0,f1,hbb⟩,b4,n0,q⟩:=h
 refine⟨_,(af (aJ (i:=2) sc_law_column.nd rfl (Or.inl rfl) (b9 ag))
 (af (cI PassesOwn.never rfl (b6 K (pr 0)) (c7 K (n:=2) rfl (br (aN (i:=3) sc_law_column.nd rfl (Or.inl rfl)) (br (aN (i:=4) sc_law_column.nd rfl (Or.inl rfl)) c8)))
 (af (kM (aH (g5) (by rfl) T.n_divmod boot_divmod (aa (pr 1) (aa (aq (bO K) (aq (o0 bI) (pr 4) (pr 3)) ae) ag))) (c7 K (n:=2) rfl (br (aN (i:=1) sc_law_column.nd rfl (Or.inl rfl)) (br (aN (i:=5) sc_law_column.nd rfl (Or.inl rfl)) c8))))
 (ah (cw (cz K PySem.F.plainAttrs_list PySem.F.slot_list_append PySem.F.type_list_append fb (pr 2) (aa (aq (bO K) (pr 3) (pr 5)) ag))))))
 (ah (ar (bF (lC K) (by rfl) T.n_tuple boot_tuple (aa (pr 2) ag)))))),?_⟩
 have hs:sizeLine=16777216:=sizeLine_eq
 refine bo (fun σ H'=>∃co:Addr,H co=none∧H' co=some (.lst (([]:List Int).map V.int))∧σ=[some (.ref a),some (.int n),some (.ref co),none,none,none]∧ax H H') ?_ ?_
 rotate_left
 ·intro u' hu
  walk_at "rd"
  exact⟨by omega,fun p hp=>hu _ _ ⟨p,hp,ab,rfl,au hp⟩⟩
 rintro _ H1 ⟨co,hco,hco1,rfl,s1⟩
 walk_at "rd"
 refine cg (s1.seq hts) (dJ (xs:=ts.map V.ref) (fun i σ H'=>∃(us:List Int) (m:Int) (o3 o4 o5:Option V),σ=[some (.ref a),some (.int m),some (.ref co),o3,o4,o5]∧us.length=i∧H' co=some (.lst (us.map V.int))∧ax H H') ⟨[],n,none,none,none,rfl,rfl,hco1,s1⟩ (fun i σ H' _ z=>by obtain⟨_,_,_,_,_,_,_,_,z⟩:=z;exact z.seq hts) ?_ ?_)
 ·clear hco1 s1
  rintro i y σ H2 hy ⟨us,m,o3,o4,o5,rfl,ul,hc2,s2⟩
  rw [List.getElem?_map]at hy
  cases ht:ts[i]? with
  | none=>rw [ht]at hy;cases hy
  | some t=>
   rw [ht]at hy
   cases hy
   have hi:i < bs.length:=by rw [←htl];exact(List.getElem?_eq_some_iff.mp ht).1
   have eb:bs[i]?=some bs[i]:=List.getElem?_eq_getElem hi
   have hbi:=hbb _ (List.getElem_mem hi)
   walk_at "rd"
   refine⟨_,s2.tup (htc i t _ ht eb),rfl,?_⟩
   walk_at "rd"
   refine⟨⟨by omega,by omega⟩,fun p hp=>⟨_,cR.of ab,rfl,?_⟩⟩
   walk_at "rd"
   have hc3:=(au (o:=.tup [.int (m / (bs[i].2 - bs[i].1+1)),.int (m % (bs[i].2 - bs[i].1+1))]) hp) _ _ hc2
   refine⟨.inl ⟨rfl,_,aO.of hc3⟩,co,_,_,rfl,rfl,hc3,by rw [List.length_map];omega,us++[bs[i].1+m % (bs[i].2 - bs[i].1+1)],by simp [ul],by rw [ab,List.map_append];rfl,fun c u hc=>?_⟩
   rw [aj (ay hc hco)]
   exact(au hp) _ _ (s2 _ _ hc)
 ·rintro σ H2 ⟨us,m,o3,o4,o5,rfl,ul,hc2,s2⟩
  rw [List.length_map,htl]at ul
  walk_at "rd"
  exact⟨_,.inl ⟨aO.of hc2,fun t ht=>q t us _ ul ab (s2.free ht) (s2.upd ht)⟩⟩
end
def nH(K:PySem.W.Frag):Sp:=fun vs H Q _=>∃(l a ru:Addr) (ns:List Int) (bs:List (Int×Int)) (Rs:List aR),vs=[.ref l,.ref a,.ref ru]∧aO K H l (ns.map V.int)∧(∀x∈ns,x.natAbs < 2 ^ GB)∧ns.length≤63∧bX K H a bs∧zq bs∧1≤bs.length∧bs.length≤4∧fQ H ru Rs∧Rs.length≤4∧(∀R∈Rs,pE bs.length R)∧∀(li:Addr) (ps:List Addr) (cols:List (List Int)) H',H' li=some (.lst (ps.map V.ref))→cy H' bs.length ps cols→cols.length≤63→ax H H'→Q (.ref li) H'
def mC(H:Hp)(nv n:Nat)(li:Addr)(H':Hp):Prop:=∃(ps:List Addr) (cols:List (List Int)),H' li=some (.lst (ps.map V.ref))∧H li=none∧cy H' nv ps cols∧cols.length=n
theorem mC.same{H:Hp}{nv n:Nat}{li:Addr}{H1 H2:Hp}(s:ax H1 H2)(h:mC H nv n li H1):mC H nv n li H2:=by
 obtain⟨ps,cols,h1,h2,h3,h4⟩:=h
 exact⟨ps,cols,s _ _ h1,h2,h3.same s,h4⟩
def LgO(H:Hp)(nv n j:Nat)(o:Option V)(H':Hp):Prop:=1≤j→∃lg,o=some (.ref lg)∧mC H nv n lg H'
section
variable {P:Program} {w:World} {K:PySem.W.Frag} {mg:Str→Option Value} {base:Heap} {aM:Addr}
theorem zr{f:Addr}{fd:FuncData}(F:cH K "_law_line" "_law_line" jc f fd)(T:Txt mg aM)(D_law_got:bZ P w K mg base "_law_got" 3 ["_law_script","_law_place"] (lJ K))(D_law_cells:bZ P w K mg base "_law_cells" 3 ["_law_script","_law_first","_law_last"] (qO K))(D_law_column:bZ P w K mg base "_law_column" 3 ["_law_ranges_here","_law_number"] (qP K))(D_law_row_at:bZ P w K mg base "_law_row_at" 3 ["_law_ranges_here","_law_rules_here","_law_line_here","_law_at"] (mw K)):aP P w K mg base bY 4 f fd ["_law_script","_law_ranges_here","_law_rules_here"] (nH K):=by
 refine F.ok sc_law_line (fun vs H Q E h=>?_) (fun cdv A outer s H vs Q E hr h=>?_)
 ·obtain⟨l,a,ru,ns,bs,Rs,rfl,_⟩:=h
  rfl
 obtain⟨l,a,ru,ns,bs,Rs,rfl,hS,hB,hnl,hR,hok,b1,b4,hRw,r4,hrow,q⟩:=h
 refine⟨_,(af (aJ (i:=3) sc_law_line.nd rfl (Or.inl rfl) ae)
 (af (cI PassesOwn.never rfl (b6 K (pr 1)) (c7 K (n:=2) rfl (br (aN (i:=4) sc_law_line.nd rfl (Or.inl rfl)) (br (aN (i:=5) sc_law_line.nd rfl (Or.inl rfl)) c8)))
 (ah (aJ (i:=3) sc_law_line.nd rfl (Or.inl rfl) (aq (hG K) (pr 3) (aq (bO K) (aq (o0 bI) (pr 5) (pr 4)) ae)))))
 (af (aJ (i:=6) sc_law_line.nd rfl (Or.inl rfl) (b9 ag))
 (af (cI PassesOwn.never rfl (b6 K (aE D_law_cells hr (by rfl) (aa (pr 0) (aa ae (aa ae ag))))) (aN (i:=7) sc_law_line.nd rfl (Or.inl rfl))
 (af (cI PassesOwn.never rfl (dk rfl T.n_range (aa (aH (pe rfl) (by rfl) T.n_min boot_min (aa (pr 3) (aa ae ag))) ag)) (aN (i:=8) sc_law_line.nd rfl (Or.inl rfl))
 (af (aJ (i:=9) sc_law_line.nd rfl (Or.inl rfl) (aq (bO K) (pr 6) (b9 (aa (aE D_law_column hr (by rfl) (aa (pr 1) (aa (aq (o1 bC) (aq (bO K) (pr 7) (pr 8)) (pr 3)) ag))) ag))))
 (ah (aV (PW.pt (cf (aX (az (tG K (vI hr)) (aq (o1 bC) (aq (o1 bK) (pr 7) (pr 3)) ae) ae (aA _))) (bW (aX (az d8 (aE D_law_row_at hr (by rfl) (aa (pr 1) (aa (pr 2) (aa (pr 9) (aa (aH (aQ K) (by rfl) T.n_len boot_len (aa (pr 6) ag)) ag))))) bc (aA _)))))) (ah ya) aG))))
 (ah (aJ (i:=6) sc_law_line.nd rfl (Or.inl rfl) (pr 9)))))
 (af (aJ (i:=7) sc_law_line.nd rfl (Or.inl rfl) (aE D_law_got hr (by rfl) (aa (pr 0) (aa ae ag))))
 (af (aV (PW.pt (fA (aX (az (tG K (vI hr)) (aq (o1 bC) (pr 7) ae) ae (aA _))) (eD (aX (az (xK K (vI hr)) (pr 6) (b9 ag) (aA _)))))) (af (aJ (i:=10) sc_law_line.nd rfl (Or.inl rfl) (aq (o1 bC) (aq (o1 bK) (pr 7) ae) (aH (aQ K) (by rfl) T.n_len boot_len (aa (pr 6) ag))))
 (af (aJ (i:=11) sc_law_line.nd rfl (Or.inl rfl) (bF (cq K) (by rfl) T.n_list boot_list (aa (aC (aL K) (pr 6) (pr 10) (fun _ _=>rfl)) ag)))
 (af (aJ (i:=12) sc_law_line.nd rfl (Or.inl rfl) (aq (o1 bC) (aq (o1 bK) (pr 7) ae) (aH (aQ K) (by rfl) T.n_len boot_len (aa (pr 11) ag))))
 (af (kM (aq (bO K) (aC (aL K) (pr 11) (pr 12) (fun _ _=>rfl)) (aC (aL K) (b9 (aa ae (aa (pF (u1 lu) ae) (aa ae (aa (pF (u1 lu) ae) (aa ae (aa (pF (u1 lu) ae) ag))))))) (aq (o1 bC) (aq (o1 bK) (pr 7) ae) ae) (fun _ _=>rfl))) (xZ (pr 11) (pr 12) sx))
 (ah (kM (bF (lC K) (by rfl) T.n_tuple boot_tuple (aa (pr 11) ag)) (xZ (pr 6) (pr 10) sx))))))) aG)
 (ah (ar (pr 6))))))))),?_⟩
 have hs:sizeLine=16777216:=sizeLine_eq
 obtain⟨w1,w2⟩:=yL hok b4
 refine bo (fun σ H'=>σ=[some (.ref l),some (.ref a),some (.ref ru),some (.int 1),none,none,none,none,none,none,none,none,none]∧H=H') ?_ ?_
 rotate_left
 ·intro u' hu
  walk_at "rd"
  exact hu _ _ ⟨rfl,rfl⟩
 rintro _ _ ⟨rfl,rfl⟩
 refine bo (fun σ H'=>∃o4 o5:Option V,σ=[some (.ref l),some (.ref a),some (.ref ru),some (.int (nV bs)),o4,o5,none,none,none,none,none,none,none]∧H=H') ?_ ?_
 rotate_left
 ·intro u' hu
  obtain⟨ts,hts,htl,htc⟩:=hR
  obtain⟨bP,_,_,hbb⟩:=hok
  walk_at "rd"
  refine cg hts (dJ (xs:=ts.map V.ref) (fun i σ H'=>∃o4 o5:Option V,σ=[some (.ref l),some (.ref a),some (.ref ru),some (.int (nV (bs.take i))),o4,o5,none,none,none,none,none,none,none]∧H=H') ⟨none,none,rfl,rfl⟩ (fun i σ H' _ z=>by obtain⟨_,_,_,z⟩:=z;exact z▸hts) ?_ ?_)
  ·rintro i y σ H1 hy ⟨o4,o5,rfl,rfl⟩
   rw [List.getElem?_map]at hy
   cases ht:ts[i]? with
   | none=>rw [ht]at hy;cases hy
   | some t=>
    rw [ht]at hy
    cases hy
    have hi:i < bs.length:=by rw [←htl];exact(List.getElem?_eq_some_iff.mp ht).1
    have hb:bs[i]?=some bs[i]:=List.getElem?_eq_getElem hi
    have hbi:=hbb _ (List.getElem_mem hi)
    have e:nV (bs.take (i+1))=nV (bs.take i) * dD bs[i]:=by
     unfold nV
     rw [List.take_add_one,hb,List.foldl_append]
     rfl
    walk_at "rd"
    refine⟨_,htc i t _ ht hb,rfl,?_⟩
    walk_at "rd"
    rw [e]
    unfold dD
    exact⟨.of_right (intBits_le_iff.mpr (by omega)),rfl⟩
  ·rintro σ H1 ⟨o4,o5,rfl,rfl⟩
   rw [List.length_map,htl,List.take_length]
   exact hu _ _ ⟨o4,o5,rfl,rfl⟩
 rintro _ _ ⟨o4,o5,rfl,rfl⟩
 generalize nV bs=mn at w1 w2 ⊢
 refine bo (fun σ H'=>∃li:Addr,H li=none∧H' li=some (.lst (([]:List Addr).map V.ref))∧σ=[some (.ref l),some (.ref a),some (.ref ru),some (.int mn),o4,o5,some (.ref li),none,none,none,none,none,none]∧ax H H') ?_ ?_
 rotate_left
 ·intro u' hu
  walk_at "rd"
  exact⟨by omega,fun p hp=>hu _ _ ⟨p,hp,ab,rfl,au hp⟩⟩
 rintro _ H1 ⟨li0,hlin0,hli0,rfl,s1⟩
 have cells63:(GM.cellsF ns 14 44).length≤63:=by
  unfold GM.cellsF
  rw [List.length_map,List.length_range]
  split<;>omega
 refine bo (fun σ H'=>∃(li:Addr) (n:Nat) (o7 o8 o9:Option V),σ=[some (.ref l),some (.ref a),some (.ref ru),some (.int mn),o4,o5,some (.ref li),o7,o8,o9,none,none,none]∧n≤63∧mC H bs.length n li H'∧ax H H') ?_ ?_
 rotate_left
 ·intro u' hu
  walk_at "rd"
  refine⟨l,ns,14,44,rfl,s1.seq hS,hB,hnl,by decide,by decide,by decide,by decide,fun q1 H2 hq2 s12=>?_⟩
  show ye _ _ _ _
  refine cg (aO.of hq2) (dJ (xs:=(GM.cellsF ns 14 44).map V.int) (fun i σ H'=>∃(li:Addr) (o7 o8 o9:Option V),σ=[some (.ref l),some (.ref a),some (.ref ru),some (.int mn),o4,o5,some (.ref li),o7,o8,o9,none,none,none]∧mC H bs.length i li H'∧H' q1=some (.lst ((GM.cellsF ns 14 44).map V.int))∧ax H H') ⟨li0,none,none,none,rfl,⟨[],[],s12 _ _ hli0,hlin0,cy.nil,rfl⟩,hq2,s1.trans s12⟩ (fun i σ H' _ z=>by obtain⟨_,_,_,_,_,_,z,_⟩:=z;exact aO.of z) ?_ ?_)
  ·rintro i y σ H3 hy ⟨li,o7,o8,o9,rfl,⟨ps,cols,hli3,hlin,hc3,hcl3⟩,hq3,s3⟩
   have hi:i < (GM.cellsF ns 14 44).length:=by have:=(List.getElem?_eq_some_iff.mp hy).1;rw [List.length_map]at this;exact this
   have hi63:i < 63:=by have:=cells63;omega
   obtain⟨c,hcm,rfl⟩:∃c,c∈GM.cellsF ns 14 44∧y=.int c:=by
    obtain⟨z,hz,e⟩:=List.mem_map.mp (List.mem_of_getElem? hy)
    exact⟨z,hz,e.symm⟩
   have c0:0≤c:=GM.cellsF_nn hcm
   refine bo (fun σ H'=>∃(lg:Addr) (o8:Option V),σ=[some (.ref l),some (.ref a),some (.ref ru),some (.int mn),o4,o5,some (.ref li),some (.int c),o8,some (.ref lg),none,none,none]∧mC H bs.length (i+1) lg H'∧ax H3 H') ?_ ?_
   rotate_left
   ·intro u' hu
    walk_at "rd"
    have hN:1≤(if (8:Int) < mn then(8:Int)else mn)∧(if (8:Int) < mn then(8:Int)else mn)≤8:=by split<;>omega
    generalize(if (8:Int) < mn then(8:Int)else mn)=N at hN ⊢
    refine⟨by omega,by omega,cU (fun j σ H'=>∃o8 o9:Option V,σ=[some (.ref l),some (.ref a),some (.ref ru),some (.int mn),o4,o5,some (.ref li),some (.int c),o8,o9,none,none,none]∧LgO H bs.length (i+1) j o9 H'∧ax H3 H') ⟨o8,o9,rfl,fun z=>absurd z (by decide),ax.refl _⟩ ?_ ?_⟩
    ·rintro j σ H4 hj ⟨o8',o9',rfl,_,s34⟩
     have s4:=s3.trans s34
     refine bo (fun σ H'=>∃(lg:Addr),σ=[some (.ref l),some (.ref a),some (.ref ru),some (.int mn),o4,o5,some (.ref li),some (.int c),some (.int j),some (.ref lg),none,none,none]∧mC H bs.length (i+1) lg H'∧ax H3 H') ?_ ?_
     rotate_left
     ·intro u'' hu2
      walk_at "rd"
      refine⟨by omega,a,_,bs,rfl,hR.same s4,hok,b4,Int.emod_nonneg _ (by omega),fun t us H5 ul ht _ s45=>?_⟩
      refine⟨by omega,fun p hp=>?_⟩
      have s5p:ax H5 (upd H5 p (.lst [.ref t])):=au hp
      have s35:=s34.trans s45
      have hpl:=hc3.1
      refine fB ((s35.trans s5p) _ _ hli3) ab (by simp;omega) fun p2 hp2=>?_
      have s3e:=(s35.trans s5p).upd (o:=.lst (ps.map V.ref++[.ref t])) hp2
      exact hu2 _ _ ⟨p2,rfl,⟨ps++[t],cols++[us],by rw [ab,List.map_append];rfl,(s3.trans (s35.trans s5p)).free hp2,(hc3.same s3e).snoc (((s5p.upd hp2)) _ _ ht) ul,by simp [hcl3]⟩,s3e⟩
     rintro _ H5 ⟨lg,rfl,hLg,s35⟩
     obtain⟨ps',cols',hlg,hlgn,hc5,hcl5⟩:=id hLg
     have s5:=s3.trans s35
     walk_at "rd"
     refine⟨⟨by omega,by omega⟩,by decide,?_⟩
     by_cases h4:c / mn % 5=4
     ·rw [if_pos h4]
      simp only [ux]
      exact hu _ _ ⟨lg,_,rfl,hLg,s35⟩
     rw [if_neg h4]
     refine⟨_,.inl (aO.of (s35 _ _ hli3)),?_⟩
     rw [List.length_map,hc3.1,hcl3]
     refine⟨a,ru,lg,i,bs,Rs,cols',rfl,hR.same s5,b4,hRw.same s5,r4,fun R hR'=>(hrow R hR').1,hc5.line hlg,by omega,by omega,fun H6 s6=>?_⟩
     walk_at "rd"
     by_cases hz:pC (dH bs Rs cols' i)=V.non
     ·rw [if_pos hz]
      simp only [ux]
      exact hu _ _ ⟨lg,_,rfl,hLg.same s6,s35.trans s6⟩
     ·rw [if_neg hz]
      exact⟨fun _=>⟨lg,rfl,hLg.same s6⟩,s35.trans s6⟩
    ·rintro σ H4 ⟨o8',o9',rfl,hz,s34⟩
     obtain⟨lg,rfl,h1⟩:=hz (by omega)
     exact hu _ _ ⟨lg,_,rfl,h1,s34⟩
   rintro _ H4 ⟨lg,o8',rfl,hLg,s34⟩
   walk_at "rd"
   exact⟨hLg,s34 _ _ hq3,s3.trans s34⟩
  ·rintro σ H3 ⟨li,o7,o8,o9,rfl,hLi,hq3,s3⟩
   rw [List.length_map]at hLi
   exact hu _ _ ⟨li,_,o7,o8,o9,rfl,cells63,hLi,s3⟩
 clear s1
 rintro _ H2 ⟨li,n,o7,o8,o9,rfl,n63,⟨ps,cols,hli2,hlin,hc2,hcl⟩,s2⟩
 refine bo (fun σ H'=>∃c:Int,σ=[some (.ref l),some (.ref a),some (.ref ru),some (.int mn),o4,o5,some (.ref li),some (.int c),o8,o9,none,none,none]∧mC H bs.length n li H'∧ax H H') ?_ ?_
 rotate_left
 ·intro u' hu
  walk_at "rd"
  exact⟨l,ns,13,rfl,s2.seq hS,hB,by decide,by decide,fun H3 s23=>hu _ _ ⟨_,rfl,mC.same s23 ⟨ps,cols,hli2,hlin,hc2,hcl⟩,s2.trans s23⟩⟩
 clear hli2 hc2 hcl s2
 clear ps cols H2
 rintro _ H2 ⟨c,rfl,hLi,s2⟩
 refine bo (fun σ H'=>∃o10 o11 o12:Option V,σ=[some (.ref l),some (.ref a),some (.ref ru),some (.int mn),o4,o5,some (.ref li),some (.int c),o8,o9,o10,o11,o12]∧mC H bs.length n li H'∧ax H H') ?_ ?_
 rotate_left
 ·intro u' hu
  obtain⟨ps,cols,hli2,hlin,hc2,hcl⟩:=id hLi
  refine Ao fun A B hA hB=>?_
  walk_at "rd"
  refine⟨by decide,?_⟩
  by_cases h1:c % 2=1
  ·rw [if_pos h1]
   refine⟨by omega,fun p0 hp0=>?_⟩
   have s3:ax H2 (upd H2 p0 (.lst [])):=au hp0
   refine sf (l:=true) (aO.of (s3 _ _ hli2)) (aO.of ab) ⟨_,rfl,?_⟩
   generalize upd H2 p0 (.lst [])=H3 at s3
   have hli3:=s3 _ _ hli2
   have hc3:=hc2.same s3
   have hpl:=hc2.1
   by_cases h0:n=0
   ·rw [if_neg (by rw [List.length_map,hpl,hcl,h0];decide)]
    exact hB _ (hu _ _ ⟨none,none,none,rfl,hLi.same s3,s2.trans s3⟩)
   ·rw [if_pos (by rw [List.length_map,hpl,hcl];simp [h0])]
    refine hA _ (lz fun w1 hw1=>?_)
    walk_at "rd"
    refine⟨⟨by decide,by decide⟩,_,.inl (aO.of hli3),?_⟩
    rw [List.length_map,hpl,hcl]
    have m0:=Int.emod_nonneg (c / 2) (show((n:Nat):Int)≠0 by omega)
    have m1:=Int.emod_lt_of_pos (c / 2) (show(0:Int) < (n:Nat)by omega)
    obtain⟨k,hk⟩:=Int.eq_ofNat_of_zero_le m0
    rw [hk]at m1 ⊢
    have d1:ps[k]?=some (ps[k]'(by omega)):=List.getElem?_eq_getElem (by omega)
    have d2:cols[k]?=some (cols[k]'(by omega)):=List.getElem?_eq_getElem (by omega)
    obtain⟨g1,g2⟩:=hc3.2 k _ _ d1 d2
    generalize cols[k]'(by omega)=us at d2 g1 g2
    have ak:dz (ps.map V.ref) (k:Int)=some (.ref (ps[k]'(by omega))):=aK (by rw [List.getElem?_map,d1];rfl)
    refine⟨by omega,hw1 _ _ (lz fun w2 hw2=>?_)⟩
    walk_at "rd"
    refine aT (aO.of hli3) ak ?_
    walk_at "rd"
    refine⟨_,.inr (cR.of g1),fun co hco=>?_⟩
    have s4:ax H3 (upd H3 co (.lst (us.map V.int))):=au hco
    have hco4:(upd H3 co (.lst (us.map V.int))) co=some (.lst (us.map V.int)):=ab
    generalize upd H3 co (.lst (us.map V.int))=H4 at s4 hco4 ⊢
    have s04:=(s2.trans s3).trans s4
    have hcoN:H co=none:=(s2.trans s3).free hco
    have ncl:co≠li:=fun e=>by subst e;rw [hli3]at hco;cases hco
    refine hw2 _ _ (lz fun w3 hw3=>?_)
    walk_at "rd"
    refine⟨⟨by decide,by decide⟩,_,.inl (aO.of hco4),?_⟩
    rw [List.length_map,g2]
    have v0:=Int.emod_nonneg (c / 82) (show((bs.length:Nat):Int)≠0 by omega)
    have v1:=Int.emod_lt_of_pos (c / 82) (show(0:Int) < (bs.length:Nat)by omega)
    obtain⟨v,hv⟩:=Int.eq_ofNat_of_zero_le v0
    rw [hv]at v1 ⊢
    have e1:us[v]?=some (us[v]'(by omega)):=List.getElem?_eq_getElem (by omega)
    have av:dz (us.map V.int) (v:Int)=some (.int (us[v]'(by omega))):=aK (by rw [List.getElem?_map,e1];rfl)
    refine⟨by omega,hw3 _ _ (lz fun w4 hw4=>?_)⟩
    walk_at "rd"
    refine aT (aO.of hco4) av ⟨by omega,fun p hp=>⟨⟨by decide,by decide⟩,by decide,?_⟩⟩
    have s5:ax H4 (upd H4 p (.lst [.int 1,.int (-1),.int 2,.int (-2),.int 3,.int (-3)])):=au hp
    have hp5:(upd H4 p (.lst [.int 1,.int (-1),.int 2,.int (-2),.int 3,.int (-3)])) p=some (.lst ([1,-1,2,-2,3,-3].map V.int)):=ab
    generalize upd H4 p (.lst [.int 1,.int (-1),.int 2,.int (-2),.int 3,.int (-3)])=H5 at s5 hp5 ⊢
    obtain⟨x,hx⟩:=uM (xs:=[1,-1,2,-2,3,-3].map V.int) (c:=c / 4) (m:=6) (by decide) (by decide)
    obtain⟨d,_,rfl⟩:=uL (P:=fun x=>∃d∈([1,-1,2,-2,3,-3]:List Int),x=.int d) (fun x hx=>by obtain⟨y,hy,rfl⟩:=List.mem_map.mp hx;exact⟨y,hy,rfl⟩) hx
    refine aT (aO.of hp5) hx ?_
    walk_at "rd"
    have s05:=s04.trans s5
    have hco5:=s5 _ _ hco4
    have hli5:=s5 _ _ (s4 _ _ hli3)
    have hc5:=(hc3.same s4).same s5
    refine⟨_,hco5,v,(by rw [xr (by omega) (by rw [List.length_map];omega)];rfl),?_⟩
    rw [←List.map_set]
    have hc6:=hc5.updl (o:=.lst ((us.set v (us[v]'(by omega)+d)).map V.int)) hco5
    have hco6:(upd H5 co (.lst ((us.set v (us[v]'(by omega)+d)).map V.int))) co=some (.lst ((us.set v (us[v]'(by omega)+d)).map V.int)):=ab
    have hli6:(upd H5 co (.lst ((us.set v (us[v]'(by omega)+d)).map V.int))) li=some (.lst (ps.map V.ref)):=by rw [aj ncl.symm];exact hli5
    have s06:ax H (upd H5 co (.lst ((us.set v (us[v]'(by omega)+d)).map V.int))):=fun c' u hc'=>by
     rw [aj (ay hc' hcoN)]
     exact s05 _ _ hc'
    generalize upd H5 co (.lst ((us.set v (us[v]'(by omega)+d)).map V.int))=H6 at hc6 hco6 hli6 s06 ⊢
    refine hw4 _ _ ?_
    walk_at "rd"
    refine⟨_,.inl ⟨aO.of hco6,fun t ht=>?_⟩⟩
    have s7:ax H6 (upd H6 t (.tup ((us.set v (us[v]'(by omega)+d)).map V.int))):=au ht
    have ht7:(upd H6 t (.tup ((us.set v (us[v]'(by omega)+d)).map V.int))) t=some (.tup ((us.set v (us[v]'(by omega)+d)).map V.int)):=ab
    generalize upd H6 t (.tup ((us.set v (us[v]'(by omega)+d)).map V.int))=H7 at s7 ht7 ⊢
    refine⟨_,s7 _ _ hli6,k,(by rw [xr (by omega) (by rw [List.length_map];omega)];rfl),hu _ _ ⟨_,_,_,rfl,⟨ps.set k t,cols.set k (us.set v (us[v]'(by omega)+d)),by rw [ab,List.map_set],hlin,((hc6.same s7).set k ht7 (by rw [List.length_set];exact g2)).updl (s7 _ _ hli6),by rw [List.length_set];exact hcl⟩,fun c' u hc'=>?_⟩⟩
    rw [aj (ay hc' hlin)]
    exact(s06.trans s7) _ _ hc'
  ·rw [if_neg h1]
   exact hB _ (hu _ _ ⟨none,none,none,rfl,hLi,s2⟩)
 rintro _ H3 ⟨o10,o11,o12,rfl,⟨ps,cols,hli3,_,hc3,hcl⟩,s3⟩
 walk_at "rd"
 exact q li ps cols _ hli3 hc3 (by omega) s3
end
theorem xD{c d:Nat}(hne:d≠c):∀ps:List (List Nat),(∀p∈ps,d∉p)→d∉cX c ps
 | [],_=>by simp [cX]
 | p::r,h=>by
  intro hd
  rw [cX,List.mem_append,List.mem_flatten]at hd
  rcases hd with hd | ⟨l,hl,hd⟩
  ·exact h p (.head _) hd
  ·obtain⟨q,hq,rfl⟩:=List.mem_map.mp hl
   rcases List.mem_cons.mp hd with e | e
   ·exact hne e
   ·exact h q (.tail _ hq) e
theorem jL(n:Int):10∉(bq n).cps.toList:=fun h=>by
 have:=mX n 10 h
 omega
theorem xF(R:ck):10∉(cE R).cps.toList:=by
 cases R<;>(simp only [cE];decide +kernel)
theorem rH{ws:List Str}(h:∀z∈ws,10∉z.cps.toList):10∉(Txt.join (Str.ofString " ") ws).cps.toList:=by
 rw [show(Str.ofString " ")=⟨#[32]⟩by decide +kernel,cT]
 refine xD (by decide) _ fun p hp=>?_
 obtain⟨z,hz,rfl⟩:=List.mem_map.mp hp
 exact h z hz
theorem uA(R:aR):10∉(cc R).cps.toList:=by
 have one:∀R:ck,∀z∈cE R::(c6 R).map bq,10∉z.cps.toList:=fun R z hz=>by
  rcases List.mem_cons.mp hz with rfl | hz
  ·exact xF R
  ·obtain⟨n,_,rfl⟩:=List.mem_map.mp hz
   exact jL n
 cases R with
 | plain R=>exact rH (one R)
 | every m a R=>
  refine rH fun z hz=>?_
  rcases List.mem_cons.mp hz with rfl | hz
  ·decide +kernel
  rcases List.mem_cons.mp hz with rfl | hz
  ·exact jL m
  rcases List.mem_cons.mp hz with rfl | hz
  ·exact jL a
  exact one R z hz
theorem wx(R:aR):cc R≠Str.ofString "":=fun e=>by
 have e':(cc R).cps.toList=[]:=by rw [e];decide +kernel
 cases R with
 | plain R=>
  rw [cc,show(Str.ofString " ")=⟨#[32]⟩by decide +kernel,cT,List.map_cons,cX]at e'
  exact(fM R).2.2.1 (List.append_eq_nil_iff.mp e').1
 | every m a R=>
  rw [cc,show(Str.ofString " ")=⟨#[32]⟩by decide +kernel,cT,List.map_cons,cX]at e'
  exact absurd (List.append_eq_nil_iff.mp e').1 (by decide +kernel)
theorem yJ(b:Int×Int):10∉(nT b).cps.toList:=by
 show 10∉((Str.ofString "voice ").cps++(bq b.1).cps++(Str.ofString " ").cps++(bq b.2).cps).toList
 rw [Array.toList_append,Array.toList_append,Array.toList_append]
 intro h
 rcases List.mem_append.mp h with h | h
 ·rcases List.mem_append.mp h with h | h
  ·rcases List.mem_append.mp h with h | h
   ·exact absurd h (by decide +kernel)
   ·exact jL _ h
  ·exact absurd h (by decide +kernel)
 ·exact jL _ h
theorem nO{bs:List (Int×Int)}{Rs:List aR}(h:bs.map nT++Rs.map cc≠[]):Txt.split (gN bs Rs) ⟨#[10]⟩=bs.map nT++Rs.map cc:=by
 unfold gN
 rw [show(Str.ofString "\n")=⟨#[10]⟩by decide +kernel]
 refine lK (by decide) h fun z hz=>?_
 rcases List.mem_append.mp hz with hz | hz
 ·obtain⟨b,_,rfl⟩:=List.mem_map.mp hz
  exact yJ b
 ·obtain⟨R,_,rfl⟩:=List.mem_map.mp hz
  exact uA R
theorem sE{bs:List (Int×Int)}{Rs:List aR}(b4:bs.length≤4)(r4:Rs.length≤4)(hb:∀b∈bs,b.1.natAbs < 10 ^ 40∧b.2.natAbs < 10 ^ 40)(hR:∀R∈Rs,rQ R):(gN bs Rs).length≤100000:=by
 unfold gN
 rw [bg,show(Str.ofString "\n")=⟨#[10]⟩by decide +kernel,cT]
 have hl:=iD 10 ((bs.map nT++Rs.map cc).map fun z=>z.cps.toList) 10000 (fun p hp=>by
  obtain⟨z,hz,rfl⟩:=List.mem_map.mp hp
  rw [←bg]
  rcases List.mem_append.mp hz with hz | hz
  ·obtain⟨b,hb',rfl⟩:=List.mem_map.mp hz
   exact(qW (hb b hb').1 (hb b hb').2).len
  ·obtain⟨R,hR',rfl⟩:=List.mem_map.mp hz
   exact(gM R (hR R hR')).1)
 simp only [List.length_map,List.length_append]at hl
 omega
def gX(H:Hp)(v:V):Option (Nat×Nat)→Prop
 | none=>v=.non
 | some (p,r)=>∃t:Addr,v=.ref t∧H t=some (.tup [.int p,.int r])
theorem gX.same{H H':Hp}{v:V}:∀{o:Option (Nat×Nat)},ax H H'→gX H v o→gX H' v o
 | none,_,h=>h
 | some (_,_),s,⟨t,h1,h2⟩=>⟨t,h1,s _ _ h2⟩
def u5(K:PySem.W.Frag):Sp:=fun vs H Q _=>∃(a:Addr) (ns:List Int),vs=[.ref a]∧aO K H a (ns.map V.int)∧(∀x∈ns,x.natAbs < 2 ^ GB)∧ns.length≤63∧∀H',Q (.bl true) H'
section
variable {P:Program} {w:World} {K:PySem.W.Frag} {mg:Str→Option Value} {base:Heap} {aM:Addr}
theorem mF{H:Hp}{v v':V}{Q:VK}{E}:∀{o:Option (Nat×Nat)},gX H v o→gX H v' o→Q (.bl true) H→iH K [v,v'] H Q E
 | none,h1,h2,q=>⟨v,v',rfl,.inl ⟨h1,h2⟩,q⟩
 | some (p,r),⟨t,h1,h2⟩,⟨t',h3,h4⟩,q=>⟨v,v',rfl,.inr ⟨t,t',p,r,h1,h3,h2,h4⟩,q⟩
theorem mL{H:Hp}{x C l:Addr}{bs:List (Int×Int)}{Rs:List aR}{cols:List (List Int)}{Q:VK}{E}(TC:eG K C)(SA:dP P w K mg base C bs.length bs Rs x H)(LL:cZ K H l bs.length cols)(hc:cols.length≤63)(b4:bs.length≤4)(r4:Rs.length≤4)(hg:∀R∈Rs,c9 bs.length R)(q:∀v H',gX H' v (dF bs Rs cols)→ax H H'→Q v H'):mr P w K mg base [.ref x,.ref l] H Q E:=by
 refine⟨x,C,l,bs,Rs,cols,rfl,TC,SA,LL,hc,b4,by omega,fun e H' s=>?_,fun t k H' hk hm ht s=>?_⟩
 ·cases hF:dF bs Rs cols with
  | none=>exact q _ _ (by rw [hF];exact rfl) s
  | some pr=>
   obtain⟨p,r⟩:=pr
   obtain⟨a1,a2,a3,_⟩:=(iT bs Rs cols).1 p r hF
   obtain⟨p',_,hp'⟩:=pH hg a1 a3
   have:=(fc (places bs Rs cols) 0 ((p':Int),((0+r:Nat):Int))).mpr ⟨r,p',hp',rfl⟩
   rw [e]at this
   cases this
 ·cases hF:dF bs Rs cols with
  | none=>
   rw [sX hg hF]at hk
   cases hk
  | some pr=>
   obtain⟨p,r⟩:=pr
   have:=rA hg hF hk hm
   subst this
   exact q _ _ (by rw [hF];exact⟨t,rfl,ht⟩) s
theorem pj{H:Hp}{a ru l:Addr}{bs:List (Int×Int)}{Rs:List aR}{cols:List (List Int)}{Q:VK}{E}(hR:bX K H a bs)(hW:fQ H ru Rs)(LL:cZ K H l bs.length cols)(hc:cols.length≤63)(b4:bs.length≤4)(r4:Rs.length≤4)(hg:∀R∈Rs,c9 bs.length R)(q:∀v H',gX H' v (dF bs Rs cols)→ax H H'→Q v H'):j0 K [.ref a,.ref ru,.ref l] H Q E:=by
 refine⟨a,ru,l,bs,Rs,cols,rfl,hR,b4,hW,r4,hg,LL,by omega,fun e H' s=>q _ _ (by rw [e];exact rfl) s,fun p r e t H' ht s=>q _ _ (by rw [e];exact⟨t,rfl,ht⟩) s⟩
theorem A4{f C:Addr}{fd:FuncData}(F:cH K "law" "law" pJ f fd)(T:Txt mg aM)(TC:eG K C)
  (D_law_ranges:bZ P w K mg base "_law_ranges" 11 ["_law_script"] (nJ K)) (D_law_rules:bZ P w K mg base "_law_rules" 11 ["_law_script","_law_ranges_here"] (qR K)) (D_law_line:bZ P w K mg base "_law_line" 11 ["_law_script","_law_ranges_here","_law_rules_here"] (nH K)) (D_read:bZ P w K mg base "read" 11 ["text"] (qQ P w K mg base C)) (D_law_text:bZ P w K mg base "_law_text" 11 ["_law_ranges_here","_law_rules_here"] (uh K)) (D_law_alike:bZ P w K mg base "_law_alike" 11 ["_law_found","_law_due"] (iH K)) (D_fault:bZ P w K mg base "fault" 11 ["score","line"] (mr P w K mg base)) (D_law_fault:bZ P w K mg base "_law_fault" 11 ["_law_ranges_here","_law_rules_here","_law_line_here"] (j0 K))
  (DM_Score:dZ P w K mg base "Score" C 10 ["self","ranges","rules"] (fP K C)) (DD_read_rule:ve P w K mg base "read_rule" 11 ["text","voices","row"] (gh P w K mg base) [.int 0]) :
  aP P w K mg base bY 12 f fd ["_law_script"] (u5 K):=by
 refine F.ok sc_law (fun vs H Q E h=>?_) (fun cdv A outer s H vs Q E hr h=>?_)
 ·obtain⟨a,ns,rfl,_⟩:=h
  rfl
 obtain⟨l,ns,rfl,hS,hB,hn,k⟩:=h
 refine⟨_,(af (aJ (i:=1) sc_law.nd rfl (Or.inr rfl) (aE D_law_ranges hr (by rfl) (aa (pr 0) ag)))
 (af (aJ (i:=2) sc_law.nd rfl (Or.inl rfl) (aE D_law_rules hr (by rfl) (aa (pr 0) (aa (pr 1) ag))))
 (af (aJ (i:=3) sc_law.nd rfl (Or.inl rfl) (aE D_law_line hr (by rfl) (aa (pr 0) (aa (pr 1) (aa (pr 2) ag)))))
 (af (aJ (i:=4) sc_law.nd rfl (Or.inl rfl) (aE D_read hr (by rfl) (aa (aE D_law_text hr (by rfl) (aa (pr 1) (aa (pr 2) ag))) ag)))
 (af (aJ (i:=5) sc_law.nd rfl (Or.inl rfl) (bF (cq K) (by rfl) T.n_list boot_list (aa (pr 3) ag)))
 (af (aV (PW.pt (cf (b0 (aY (aE D_law_alike hr (by rfl) (aa (aE D_fault hr (by rfl) (aa (pr 4) (aa (pr 5) ag))) (aa (aE D_law_fault hr (by rfl) (aa (pr 1) (aa (pr 2) (aa (pr 3) ag)))) ag))) (fun _=>rfl))) (bW (aX (az (xK K (vI hr)) (pr 5) (pr 3) (aA _)))))) (ah (ar iR)) aG)
 (af (aJ (i:=6) sc_law.nd rfl (Or.inl rfl) (gT DM_Score hr (by rfl) (aa (bF (cq K) (by rfl) T.n_list boot_list (aa (pr 1) ag)) (aa (dE (own:=["_law_row"]) (js:=[1]) rfl (b6 K (cz K PySem.F.plainAttrs_str PySem.F.slot_str_split PySem.F.type_str_split g9 (aE D_law_text hr (by rfl) (aa (b9 ag) (aa (pr 2) ag))) (aa aZ ag))) (bS.of (by rfl)) (fun _ _ _ _ _=>(aN (i:=0) (show List.Nodup (["_law_row","_law_ranges_here"]:List Str)from by decide +kernel) rfl (Or.inl rfl))) (fun _ _ _ _ _=>uY (aX (az (xK K (vI hr)) (pr 0) aZ (aA _)))) (fun _ _ _ _ _=>(zH DD_read_rule hr (by rfl) (aa (pr 0) (aa (aH (aQ K) (by rfl) T.n_len boot_len (aa (pr 1) ag)) ag))))) ag))))
 (af (cI PassesOwn.never rfl (b6 K (b9 (aa ae (aa ae (aa (aq (o1 bK) (aH (aQ K) (by rfl) T.n_len boot_len (aa (pr 3) ag)) ae) (aa (aH (aQ K) (by rfl) T.n_len boot_len (aa (pr 3) ag)) ag)))))) (aN (i:=7) sc_law.nd rfl (Or.inl rfl))
 (af (aJ (i:=8) sc_law.nd rfl (Or.inl rfl) (aE D_law_fault hr (by rfl) (aa (pr 1) (aa (pr 2) (aa (aS (dc K) (pr 3) bz (c4 (pr 7))) ag)))))
 (ah (aV (PW.pt (cf (b0 (aY (aE D_law_alike hr (by rfl) (aa (aE D_fault hr (by rfl) (aa (pr 4) (aa (aS (dc K) (pr 3) bz (c4 (pr 7))) ag))) (aa (pr 8) ag))) (fun _=>rfl))) (bW (b0 (aY (aE D_law_alike hr (by rfl) (aa (aE D_fault hr (by rfl) (aa (pr 6) (aa (aS (dc K) (pr 3) bz (c4 (pr 7))) ag))) (aa (pr 8) ag))) (fun _=>rfl)))))) (ah (ar iR)) aG))))
 (ah (ar iR)))))))))),?_⟩
 have hs:sizeLine=16777216:=sizeLine_eq
 refine bo (fun σ H'=>∃(a:Addr) (bs:List (Int×Int)),bX K H' a bs∧zq bs∧1≤bs.length∧bs.length≤4∧σ=[some (.ref l),some (.ref a),none,none,none,none,none,none,none]∧ax H H') ?_ ?_
 rotate_left
 ·intro u' hu
  walk_at "rd"
  exact⟨l,ns,rfl,hS,hB,fun a bs H1 h1 h2 h3 h4 s1=>hu _ _ ⟨a,bs,h1,h2,h3,h4,rfl,s1⟩⟩
 rintro _ H1 ⟨a,bs,hR1,hok,b1,b4,rfl,s1⟩
 have hb40:∀b∈bs,b.1.natAbs < 10 ^ 40∧b.2.natAbs < 10 ^ 40:=by
  obtain⟨bP,f0,f1,hbb⟩:=hok
  intro b hb
  have:=hbb b hb
  have e:(10:Nat) ^ 40=10 ^ 20 * 10 ^ 20:=by decide
  have e2:(10:Int) ^ 20=100000000000000000000:=by decide
  have e3:(10:Nat) ^ 20=100000000000000000000:=by decide
  omega
 have hbw:∀b∈bs,b.1≤b.2∧(dD b).natAbs < 2 ^ 60:=by
  obtain⟨bP,f0,f1,hbb⟩:=hok
  intro b hb
  have:=hbb b hb
  unfold dD
  omega
 refine bo (fun σ H'=>∃(ru:Addr) (Rs:List aR),fQ H' ru Rs∧(∀R∈Rs,pE bs.length R)∧Rs.length≤4∧kj bs Rs≤400∧σ=[some (.ref l),some (.ref a),some (.ref ru),none,none,none,none,none,none]∧ax H1 H') ?_ ?_
 rotate_left
 ·intro u' hu
  walk_at "rd"
  exact⟨l,a,ns,bs,rfl,s1.seq hS,hB,hR1,hok,b1,b4,fun ru Rs H2 h1 h2 h3 h4 s2=>hu _ _ ⟨ru,Rs,h1,h2,h3,h4,rfl,s2⟩⟩
 rintro _ H2 ⟨ru,Rs,hW2,hrow,r4,hwt,rfl,s12⟩
 have hg:∀R∈Rs,c9 bs.length R:=fun R h=>(hrow R h).1
 have ho:∀R∈Rs,rQ R:=fun R h=>(hrow R h).2.1
 have hR2:=hR1.same s12
 refine bo (fun σ H'=>∃(li:Addr) (ps:List Addr) (cols:List (List Int)),H' li=some (.lst (ps.map V.ref))∧cy H' bs.length ps cols∧cols.length≤63∧σ=[some (.ref l),some (.ref a),some (.ref ru),some (.ref li),none,none,none,none,none]∧ax H2 H') ?_ ?_
 rotate_left
 ·intro u' hu
  walk_at "rd"
  exact⟨l,a,ru,ns,bs,Rs,rfl,(s1.trans s12).seq hS,hB,hn,hR2,hok,b1,b4,hW2,r4,hrow,fun li ps cols H3 h1 h2 h3 s3=>hu _ _ ⟨li,ps,cols,h1,h2,h3,rfl,s3⟩⟩
 rintro _ H3 ⟨li,ps,cols,hli,hC,hcl,rfl,s23⟩
 have hR3:=hR2.same s23
 have hW3:=hW2.same s23
 clear hR1 hR2 hW2 s1 s12 s23 hS
 refine bo (fun σ H'=>∃x:Addr,dP P w K mg base C bs.length bs Rs x H'∧σ=[some (.ref l),some (.ref a),some (.ref ru),some (.ref li),some (.ref x),none,none,none,none]∧ax H3 H') ?_ ?_
 rotate_left
 ·intro u' hu
  walk_at "rd"
  refine⟨a,ru,bs,Rs,rfl,hR3,b4,hb40,hW3,r4,ho,fun H4 s4=>⟨gN bs Rs,bs,nT,Rs,rfl,Nat.le_trans (sE b4 r4 hb40 ho) (by decide),nO (fun e=>by rw [List.map_eq_nil_iff.mp (List.append_eq_nil_iff.mp e).1]at b1;exact absurd b1 (by decide)),b1,b4,by omega,fun b hb=>⟨qW (hb40 b hb).1 (hb40 b hb).2,(hbw b hb).1,(hbw b hb).2⟩,fun R hR=>⟨hg R hR,ho R hR,by have:=(hrow R hR).2.2;omega⟩,hwt,fun x H5 hx s5=>hu _ _ ⟨x,hx,rfl,s4.trans s5⟩⟩⟩
 rintro _ H4 ⟨x,hX,rfl,s34⟩
 have hli4:=s34 _ _ hli
 have hC4:=hC.same s34
 have hR4:=hR3.same s34
 have hW4:=hW3.same s34
 clear hli hC hR3 hW3 s34
 clear H3
 refine bo (fun σ H'=>∃hd:Addr,H' hd=some (.lst (ps.map V.ref))∧σ=[some (.ref l),some (.ref a),some (.ref ru),some (.ref li),some (.ref x),some (.ref hd),none,none,none]∧ax H4 H') ?_ ?_
 rotate_left
 ·intro u' hu
  walk_at "rd"
  exact⟨_,.inl (aO.of hli4),fun p hp=>hu _ _ ⟨p,ab,rfl,au hp⟩⟩
 rintro _ H5 ⟨hd,hhd,rfl,s45⟩
 refine bo (fun σ H'=>σ=[some (.ref l),some (.ref a),some (.ref ru),some (.ref li),some (.ref x),some (.ref hd),none,none,none]∧ax H4 H') ?_ ?_
 rotate_left
 ·intro u' hu
  walk_at "rd"
  have hC5:=hC4.same s45
  refine mL TC (hX.same s45) (hC5.line hhd) hcl b4 r4 hg fun v H6 hv s56=>?_
  walk_at "rd"
  have s46:=s45.trans s56
  refine pj (hR4.same s46) (hW4.same s46) ((hC4.same s46).line (s46 _ _ hli4)) hcl b4 r4 hg fun v' H7 hv' s67=>?_
  walk_at "rd"
  refine mF (hv.same s67) hv' ⟨true,TruV_b.mpr rfl,?_⟩
  rw [if_neg (show ¬(true=false)from fun z=>by cases z)]
  have s57:=s56.trans s67
  refine wc (l:=true) (aO.of (s57 _ _ hhd)) (aO.of ((s45.trans s57) _ _ hli4)) (fun y hy=>.inr (by obtain⟨p,_,rfl⟩:=List.mem_map.mp hy;exact⟨p,rfl⟩)) ⟨false,rfl,?_⟩
  rw [if_neg Bool.false_ne_true]
  exact hu _ _ ⟨rfl,s45.trans s57⟩
 clear hhd s45
 clear H5
 rintro _ H5 ⟨rfl,s45⟩
 have hli5:=s45 _ _ hli4
 have hC5:=hC4.same s45
 have hR5:=hR4.same s45
 have hW5:=hW4.same s45
 have hX5:=hX.same s45
 clear hli4 hC4 hR4 hW4 hX s45
 clear H4
 refine bo (fun σ H'=>∃md:Addr,dP P w K mg base C bs.length bs Rs md H'∧σ=[some (.ref l),some (.ref a),some (.ref ru),some (.ref li),some (.ref x),some (.ref hd),some (.ref md),none,none]∧ax H5 H') ?_ ?_
 rotate_left
 ·intro u' hu
  obtain⟨ts,hts,htl,htc⟩:=id hR5
  walk_at "rd"
  refine⟨_,.inl hts,fun p1 hp1=>?_⟩
  walk_at "rd"
  refine⟨Nat.zero_le _,fun p0 hp0=>⟨p0,ru,[],Rs,rfl,⟨[],aO.of ab,rfl,fun i t b e=>(by cases e)⟩,by decide,fun b hb=>(by cases hb),hW5.same ((au hp1).upd hp0),r4,ho,fun H6 s6=>?_⟩⟩
  have sp1:ax H5 (upd H5 p1 (.lst (ts.map V.ref))):=au hp1
  have s16:ax (upd H5 p1 (.lst (ts.map V.ref))) H6:=(au hp0).trans s6
  have hp16:H6 p1=some (.lst (ts.map V.ref)):=s16 _ _ ab
  have s56:=sp1.trans s16
  clear s6 hp0
  clear sp1 s16 hp1
  have hlen:=sE (bs:=[]) (by decide) r4 (fun b hb=>(by cases hb)) ho
  have hL:Txt.split (gN [] Rs) ⟨#[10]⟩=Rs.map cc∨(Rs=[]∧Txt.split (gN [] Rs) ⟨#[10]⟩=[Str.ofString ""]):=by
   cases Rs with
   | nil=>exact .inr ⟨rfl,by decide +kernel⟩
   | cons R Rs=>exact .inl (nO (fun e=>by cases e))
  walk_at "rd"
  refine⟨10,by decide +kernel,by decide,by omega,fun sp hsp=>?_⟩
  generalize gN [] Rs=tx at hL hlen hsp ⊢
  generalize Txt.split tx ⟨#[10]⟩=L at hL ⊢
  have s67:ax H6 (upd H6 sp (.lst (L.map V.str))):=au hsp
  have hsp7:(upd H6 sp (.lst (L.map V.str))) sp=some (.lst (L.map V.str)):=ab
  generalize upd H6 sp (.lst (L.map V.str))=H7 at s67 hsp7 ⊢
  have hLl:L.length≤5:=by
   rcases hL with e | ⟨_,e⟩
   ·rw [e,List.length_map];omega
   ·rw [e];decide
  refine cg (aO.of hsp7) (cu (xs:=L.map V.str) (fun i ys H'=>∃rs:List Addr,ys=rs.map V.ref∧rs.length≤i∧rs.length=min i Rs.length∧(∀(j:Nat) (r:Addr) (R:aR),rs[j]?=some r→Rs[j]?=some R→fh P w K mg base bs.length R r H')∧ax H7 H') (by rw [List.length_map];omega) ⟨[],rfl,Nat.le_refl _,by simp,fun j r R e=>(by cases e),ax.refl _⟩ (fun i ys H' h=>by obtain⟨rs,rfl,h,_⟩:=h;rw [List.length_map];exact h) (fun i ys H' h=>by obtain⟨_,_,_,_,_,h⟩:=h;exact h.seq (aO.of hsp7)) ?_ ?_)
  ·rintro i y ys H8 hy ⟨rs,rfl,hi,hrl,hrr,s78⟩
   rw [List.getElem?_map]at hy
   rcases hL with e | ⟨e0,e⟩
   ·rw [e,List.getElem?_map]at hy
    cases hR0:Rs[i]? with
    | none=>rw [hR0]at hy;cases hy
    | some R=>
     rw [hR0]at hy
     cases hy
     have hi':i < Rs.length:=(List.getElem?_eq_some_iff.mp hR0).1
     have hm:R∈Rs:=List.mem_of_getElem? hR0
     walk_at "rd"
     rw [if_neg (wx R)]
     refine⟨_,.inl ((s56.trans (s67.trans s78)).seq hts),?_⟩
     rw [List.length_map,htl]
     refine⟨0,R,bs.length,rfl,hg R hm,ho R hm,fun r H9 hr9 s89=>⟨rs++[r],by rw [List.map_append];rfl,by simp;omega,by simp;omega,fun j r' R' e1 e2=>?_,s78.trans s89⟩⟩
     by_cases hj:j < rs.length
     ·rw [List.getElem?_append_left hj]at e1
      exact(hrr j r' R' e1 e2).same s89
     ·rw [List.getElem?_append_right (by omega)]at e1
      have ej:j=rs.length:=by
       have:=(List.getElem?_eq_some_iff.mp e1).1
       simp at this
       omega
      rw [ej,Nat.sub_self]at e1
      cases e1
      rw [show j=i by omega,hR0]at e2
      cases e2
      exact hr9
   ·rw [e]at hy
    obtain rfl:y=.str (Str.ofString ""):=by
     have hi0:i=0:=by
      cases hz:([Str.ofString ""]:List Str)[i]? with
      | none=>rw [hz]at hy;cases hy
      | some z=>have:=(List.getElem?_eq_some_iff.mp hz).1;simp at this;exact this
     subst hi0
     exact(Option.some.inj hy).symm
    subst e0
    walk_at "rd"
    exact⟨rs,rfl,by omega,by simpa using hrl,fun j r R _ e2=>(by cases e2),s78⟩
  ·rintro ys H8 ⟨rs,rfl,hi,hrl,hrr,s78⟩ p hp
   intro md dx hx hdx dxx
   have rl:rs.length=Rs.length:=by
    rw [List.length_map]at hrl
    rcases hL with e | ⟨e0,e⟩
    ·rw [e,List.length_map]at hrl;omega
    ·rw [e0]at hrl ⊢;simpa using hrl
   have s8p:ax H8 (upd H8 p (.lst (rs.map V.ref))):=au hp
   have hp9:(upd H8 p (.lst (rs.map V.ref))) p=some (.lst (rs.map V.ref)):=ab
   generalize upd H8 p (.lst (rs.map V.ref))=H9 at s8p hp9 hx hdx ⊢
   have s9:ax H9 (upd (upd H9 dx (.own md)) md (.ins C dx [])):=(au hdx).upd (by rw [aj dxx.symm];exact hx)
   have s79:=s78.trans s8p
   have s59:=s56.trans (s67.trans s79)
   refine⟨md,dx,p1,p,ts.map V.ref,rs.map V.ref,rfl,ab,s9.seq (aO.of (s79 _ _ (s67 _ _ hp16))),s9.seq (aO.of hp9),fun q1 q2 H' hq1 hq2 hq e=>⟨rfl,?_⟩⟩
   have px:q1≠md:=fun e=>by subst e;rw [ab]at hq1;cases hq1
   have qx:q2≠md:=fun e=>by subst e;rw [ab]at hq2;cases hq2
   have s4:ax H9 H':=fun c u hc=>by
    have h3:=s9 _ _ hc
    have cx:c≠md:=ay hc hx
    rw [e,aj cx,aj (ay h3 hq2),aj (ay h3 hq1)]
    exact h3
   exact hu _ _ ⟨md,⟨dx,q1,q2,by rw [e,ab],⟨ts,aO.of (by rw [e,aj px,aj hq.symm,ab]),htl,fun i t b e1 e2=>(s59.trans s4).tup (htc i t b e1 e2)⟩,⟨rs,aO.of (by rw [e,aj qx,ab]),rl,fun j r R e1 e2=>(hrr j r R e1 e2).same (s8p.trans s4)⟩⟩,rfl,s59.trans s4⟩
 rintro _ H6 ⟨md,hMd,rfl,s56⟩
 have hli6:=s56 _ _ hli5
 have hC6:=hC5.same s56
 have hR6:=hR5.same s56
 have hW6:=hW5.same s56
 have hX6:=hX5.same s56
 clear hli5 hC5 hR5 hW5 hX5 s56
 clear H5
 have hpl:=hC6.1
 refine bo (fun σ H'=>True) ?_ ?_
 rotate_left
 ·intro u' hu
  walk_at "rd"
  refine⟨_,.inl (aO.of hli6),?_⟩
  walk_at "rd"
  refine⟨⟨by decide,by decide⟩,_,.inl (aO.of hli6),by omega,fun pn hpn=>?_⟩
  rw [List.length_map]
  have s67:ax H6 (upd H6 pn (.lst [.int 0,.int 1,.int ((ps.length:Int) / 2),.int (ps.length:Int)])):=au hpn
  have hpn7:(upd H6 pn (.lst [.int 0,.int 1,.int ((ps.length:Int) / 2),.int (ps.length:Int)])) pn=some (.lst [.int 0,.int 1,.int ((ps.length:Int) / 2),.int (ps.length:Int)]):=ab
  generalize upd H6 pn (.lst [.int 0,.int 1,.int ((ps.length:Int) / 2),.int (ps.length:Int)])=H7 at s67 hpn7 ⊢
  refine cg (aO.of hpn7) (dJ (xs:=[.int 0,.int 1,.int ((ps.length:Int) / 2),.int (ps.length:Int)]) (fun i σ H'=>∃o7 o8:Option V,σ=[some (.ref l),some (.ref a),some (.ref ru),some (.ref li),some (.ref x),some (.ref hd),some (.ref md),o7,o8]∧ax H7 H') ⟨none,none,rfl,ax.refl _⟩ (fun i σ H' _ z=>by obtain⟨_,_,_,z⟩:=z;exact z.seq (aO.of hpn7)) ?_ ?_)
  ·rintro i y σ H8 hy ⟨o7,o8,rfl,s78⟩
   obtain⟨m,rfl⟩:∃m:Nat,y=.int (m:Int):=by
    have hm:=List.mem_of_getElem? hy
    rcases List.mem_cons.mp hm with h | hm
    ·exact⟨0,h⟩
    rcases List.mem_cons.mp hm with h | hm
    ·exact⟨1,h⟩
    rcases List.mem_cons.mp hm with h | hm
    ·exact⟨ps.length / 2,h⟩
    ·exact⟨ps.length,List.mem_singleton.mp hm⟩
   have s68:=s67.trans s78
   have hcm:(cols.take m).length≤63:=by rw [List.length_take];omega
   have sub:∀{H9:Hp} {p:Addr},ax H6 H9→H9 p=some (.lst (fR (ps.map V.ref) none (some (m:Int))))→cZ K H9 p bs.length (cols.take m):=fun {H9 p} s9 h9=>by
    rw [de,←List.map_take]at h9
    exact cZ.sub (l:=p) (ps:=ps) (cols:=cols) hpl (fun i p us e1 e2=>⟨cR.of (s9 _ _ (hC6.2 i p us e1 e2).1),(hC6.2 i p us e1 e2).2⟩) 0 m (aO.of h9)
   refine bo (fun σ H'=>∃v:V,gX H' v (dF bs Rs (cols.take m))∧σ=[some (.ref l),some (.ref a),some (.ref ru),some (.ref li),some (.ref x),some (.ref hd),some (.ref md),some (.int m),some v]∧ax H7 H') ?_ ?_
   rotate_left
   ·intro u'' hu2
    walk_at "rd"
    refine bM (aO.of (s68 _ _ hli6)) fun p hp=>?_
    have s9:=s68.upd (o:=.lst (fR (ps.map V.ref) none (some (m:Int)))) hp
    refine pj (hR6.same s9) (hW6.same s9) (sub s9 ab) hcm b4 r4 hg fun v H9 hv s89=>hu2 _ _ ⟨v,hv,rfl,(s78.upd hp).trans s89⟩
   rintro _ H9 ⟨v,hv,rfl,s79⟩
   have s69:=s67.trans s79
   walk_at "rd"
   refine bM (aO.of (s69 _ _ hli6)) fun p hp=>?_
   have s10:=s69.upd (o:=.lst (fR (ps.map V.ref) none (some (m:Int)))) hp
   refine mL TC (hX6.same s10) (sub s10 ab) hcm b4 r4 hg fun v1 H11 hv1 s11=>?_
   have s9b:=(au (o:=.lst (fR (ps.map V.ref) none (some (m:Int)))) hp).trans s11
   refine mF hv1 (hv.same s9b) ⟨true,TruV_b.mpr rfl,?_⟩
   rw [if_neg (show ¬(true=false)from fun z=>by cases z)]
   refine bM (aO.of ((s69.trans s9b) _ _ hli6)) fun p2 hp2=>?_
   have s12:=(s69.trans s9b).upd (o:=.lst (fR (ps.map V.ref) none (some (m:Int)))) hp2
   refine mL TC (hMd.same s12) (sub s12 ab) hcm b4 r4 hg fun v2 H13 hv2 s13=>?_
   have s9c:=(s9b.upd (o:=.lst (fR (ps.map V.ref) none (some (m:Int)))) hp2).trans s13
   refine mF hv2 (hv.same s9c) ⟨true,TruV_b.mpr rfl,?_⟩
   rw [if_neg (show ¬(true=false)from fun z=>by cases z)]
   exact s79.trans s9c
  ·rintro σ H8 _
   exact hu _ _ trivial
 rintro σ H7 _
 walk_at "rd"
 exact k _
end
theorem ly{us:List Value}(hl:us.length=1):∃x0,us=[x0]:=match us,hl with | [x0],_=>⟨x0,rfl⟩
theorem sF{us:List Value}(hl:us.length=2):∃x0 x1,us=[x0,x1]:=match us,hl with | [x0,x1],_=>⟨x0,x1,rfl⟩
theorem jq{us:List Value}(hl:us.length=3):∃x0 x1 x2,us=[x0,x1,x2]:=match us,hl with | [x0,x1,x2],_=>⟨x0,x1,x2,rfl⟩
theorem sG{us:List Value}(hl:us.length=4):∃x0 x1 x2 x3,us=[x0,x1,x2,x3]:=match us,hl with | [x0,x1,x2,x3],_=>⟨x0,x1,x2,x3,rfl⟩
theorem C0{us:List Value}(hl:us.length=5):∃x0 x1 x2 x3 x4,us=[x0,x1,x2,x3,x4]:=match us,hl with | [x0,x1,x2,x3,x4],_=>⟨x0,x1,x2,x3,x4,rfl⟩
theorem C4{us:List Value}(hl:us.length=6):∃x0 x1 x2 x3 x4 x5,us=[x0,x1,x2,x3,x4,x5]:=match us,hl with | [x0,x1,x2,x3,x4,x5],_=>⟨x0,x1,x2,x3,x4,x5,rfl⟩
theorem us7{us:List Value}(hl:us.length=7):∃x0 x1 x2 x3 x4 x5 x6,us=[x0,x1,x2,x3,x4,x5,x6]:=match us,hl with | [x0,x1,x2,x3,x4,x5,x6],_=>⟨x0,x1,x2,x3,x4,x5,x6,rfl⟩
theorem all_mk{l:PySem.W.OpenLaw}{w:World}{K:PySem.W.Frag}{h:Heap}{mg:Str→Option Value}{fa:Addr}{C_Span:Addr}{C_Clock:Addr}{C_Move:Addr}{C_Alike:Addr}{C_Back:Addr}{C_Held:Addr}{C_Times:Addr}{C_Begin:Addr}{C_Close:Addr}{C_Every:Addr}{C_Score:Addr}{f_span_of:Addr}{fd_span_of:FuncData}{f_clock_of:Addr}{fd_clock_of:FuncData}{f_move_of:Addr}{fd_move_of:FuncData}{f_alike_of:Addr}{fd_alike_of:FuncData}{f_back_of:Addr}{fd_back_of:FuncData}{f_held_of:Addr}{fd_held_of:FuncData}{f_times_of:Addr}{fd_times_of:FuncData}{f_begin_of:Addr}{fd_begin_of:FuncData}{f_close_of:Addr}{fd_close_of:FuncData}{a_MAKERS:Addr}{D_MAKERS:List (Str×V)}{a_INNER_KINDS:Addr}(X:K.In h)(G:h.Ns mainGlobals mg)(hfa:mg "law"=some (.ref fa))
  (n_Span:PySem.W.nsIn K mainGlobals "Span"=some (some (.ref C_Span)))
  (TC_Span:lX K C_Span)
  (n_Clock:PySem.W.nsIn K mainGlobals "Clock"=some (some (.ref C_Clock)))
  (TC_Clock:jv K C_Clock)
  (n_Move:PySem.W.nsIn K mainGlobals "Move"=some (some (.ref C_Move)))
  (TC_Move:lW K C_Move)
  (n_Alike:PySem.W.nsIn K mainGlobals "Alike"=some (some (.ref C_Alike)))
  (TC_Alike:jt K C_Alike)
  (n_Back:PySem.W.nsIn K mainGlobals "Back"=some (some (.ref C_Back)))
  (TC_Back:lV K C_Back)
  (n_Held:PySem.W.nsIn K mainGlobals "Held"=some (some (.ref C_Held)))
  (TC_Held:jx K C_Held)
  (n_Times:PySem.W.nsIn K mainGlobals "Times"=some (some (.ref C_Times)))
  (TC_Times:f9 K C_Times)
  (n_Begin:PySem.W.nsIn K mainGlobals "Begin"=some (some (.ref C_Begin)))
  (TC_Begin:ju K C_Begin)
  (n_Close:PySem.W.nsIn K mainGlobals "Close"=some (some (.ref C_Close)))
  (TC_Close:jw K C_Close)
  (n_Every:PySem.W.nsIn K mainGlobals "Every"=some (some (.ref C_Every)))
  (TC_Every:gW K C_Every)
  (n_Score:PySem.W.nsIn K mainGlobals "Score"=some (some (.ref C_Score)))
  (TC_Score:eG K C_Score)
  (A_note_in:∃f fd,bG K "note_in" kR f fd)
  (A_span:∃f fd,bG K "span" t6 f fd)
  (A_move:∃f fd,bG K "move" tY f fd)
  (A_Rule___init__:∃C f fd,lU K "Rule" "__init__" "Rule.__init__" eX C f fd)
  (A_Span_size:∃f fd,bp K C_Span "size" "Rule.size" cP f fd)
  (A_Span_start:∃f fd,bp K C_Span "start" "Rule.start" bV f fd)
  (A_Span_closes:∃f fd,bp K C_Span "closes" "Rule.closes" b7 f fd)
  (A_Clock_size:∃f fd,bp K C_Clock "size" "Rule.size" cP f fd)
  (A_Clock_start:∃f fd,bp K C_Clock "start" "Rule.start" bV f fd)
  (A_Clock_closes:∃f fd,bp K C_Clock "closes" "Rule.closes" b7 f fd)
  (A_Move_size:∃f fd,bp K C_Move "size" "Rule.size" cP f fd)
  (A_Move_start:∃f fd,bp K C_Move "start" "Rule.start" bV f fd)
  (A_Move_closes:∃f fd,bp K C_Move "closes" "Rule.closes" b7 f fd)
  (A_Alike_size:∃f fd,bp K C_Alike "size" "Rule.size" cP f fd)
  (A_Alike_start:∃f fd,bp K C_Alike "start" "Rule.start" bV f fd)
  (A_Alike_closes:∃f fd,bp K C_Alike "closes" "Rule.closes" b7 f fd)
  (A_Begin_size:∃f fd,bp K C_Begin "size" "Rule.size" cP f fd)
  (A_Begin_start:∃f fd,bp K C_Begin "start" "Rule.start" bV f fd)
  (A_Begin_closes:∃f fd,bp K C_Begin "closes" "Rule.closes" b7 f fd)
  (A_Close_size:∃f fd,bp K C_Close "size" "Rule.size" cP f fd)
  (A_Close_start:∃f fd,bp K C_Close "start" "Rule.start" bV f fd)
  (A_Held_start:∃f fd,bp K C_Held "start" "Rule.start" bV f fd)
  (A_Held_closes:∃f fd,bp K C_Held "closes" "Rule.closes" b7 f fd)
  (A_Times_start:∃f fd,bp K C_Times "start" "Rule.start" bV f fd)
  (A_Every_start:∃f fd,bp K C_Every "start" "Rule.start" bV f fd)
  (A_Every_closes:∃f fd,bp K C_Every "closes" "Rule.closes" b7 f fd)
  (A_Close_after:∃f fd,bp K C_Close "after" "Rule.after" gA f fd)
  (A_Back_size:∃f fd,bp K C_Back "size" "Back.size" ia f fd)
  (A_Back_start:∃f fd,bp K C_Back "start" "Back.start" gw f fd)
  (A_Held_size:∃f fd,bp K C_Held "size" "Held.size" ib f fd)
  (A_Times_size:∃f fd,bp K C_Times "size" "Times.size" gC f fd)
  (A_Every_size:∃f fd,bp K C_Every "size" "Every.size" gx f fd)
  (A_Span_after:∃f fd,bp K C_Span "after" "Span.after" gB f fd)
  (A_Clock_after:∃f fd,bp K C_Clock "after" "Clock.after" fW f fd)
  (A_Move_after:∃f fd,bp K C_Move "after" "Move.after" gz f fd)
  (A_Alike_after:∃f fd,bp K C_Alike "after" "Alike.after" fT f fd)
  (A_Back_closes:∃f fd,bp K C_Back "closes" "Back.closes" fU f fd)
  (A_Back_after:∃f fd,bp K C_Back "after" "Back.after" gv f fd)
  (A_Held_after:∃f fd,bp K C_Held "after" "Held.after" gy f fd)
  (A_Times_closes:∃f fd,bp K C_Times "closes" "Times.closes" fF f fd)
  (A_Times_after:∃f fd,bp K C_Times "after" "Times.after" fY f fd)
  (A_Begin_after:∃f fd,bp K C_Begin "after" "Begin.after" fV f fd)
  (A_Close_closes:∃f fd,bp K C_Close "closes" "Close.closes" fE f fd)
  (A_Every_after:∃f fd,bp K C_Every "after" "Every.after" fX f fd)
  (A_Span___init__:∃f fd,jy K "Span" "Span.__init__" eY C_Span f fd)
  (A_Clock___init__:∃f fd,jy K "Clock" "Clock.__init__" ef C_Clock f fd)
  (A_Move___init__:∃f fd,jy K "Move" "Move.__init__" eV C_Move f fd)
  (A_Alike___init__:∃f fd,jy K "Alike" "Alike.__init__" d9 C_Alike f fd)
  (A_Back___init__:∃f fd,jy K "Back" "Back.__init__" eT C_Back f fd)
  (A_Held___init__:∃f fd,jy K "Held" "Held.__init__" eU C_Held f fd)
  (A_Times___init__:∃f fd,jy K "Times" "Times.__init__" et C_Times f fd)
  (A_Begin___init__:∃f fd,jy K "Begin" "Begin.__init__" ee C_Begin f fd)
  (A_Close___init__:∃f fd,jy K "Close" "Close.__init__" eg C_Close f fd)
  (A_Every___init__:∃f fd,jy K "Every" "Every.__init__" eh C_Every f fd)
  (A_is_number:∃f fd,bG K "is_number" ie f fd)
  (A_has_list:∃f fd,bG K "has_list" jb f fd)
  (A_are_voices:∃f fd,bG K "are_voices" gD f fd)
  (B_span_of:bG K "span_of" kS f_span_of fd_span_of)
  (B_clock_of:bG K "clock_of" i9 f_clock_of fd_clock_of)
  (B_move_of:bG K "move_of" kQ f_move_of fd_move_of)
  (B_alike_of:bG K "alike_of" i7 f_alike_of fd_alike_of)
  (B_back_of:bG K "back_of" kN f_back_of fd_back_of)
  (B_held_of:bG K "held_of" kO f_held_of fd_held_of)
  (B_times_of:bG K "times_of" jh f_times_of fd_times_of)
  (B_begin_of:bG K "begin_of" i8 f_begin_of fd_begin_of)
  (B_close_of:bG K "close_of" ja f_close_of fd_close_of)
  (A_plain_rule:∃f fd,bG K "plain_rule" gK f fd)
  (A_every_rule:∃f fd,bG K "every_rule" gE f fd)
  (A_read_rule:∃f fd u,wJ K "read_rule" fN f fd u∧bh (.int 0) u)
  (A_broken_at:∃f fd,bG K "broken_at" ic f fd)
  (A_Score___init__:∃f fd,jy K "Score" "Score.__init__" eo C_Score f fd)
  (A_weight:∃f fd,bG K "weight" nq f fd)
  (A_not_too_wide:∃f fd,bG K "not_too_wide" fG f fd)
  (A_first_outside:∃f fd,bG K "first_outside" eZ f fd)
  (A_fault:∃f fd,bG K "fault" qF f fd)
  (A_voice_range:∃f fd,bG K "voice_range" f6 f fd)
  (A_read:∃f fd,bG K "read" tZ f fd)
  (A_law_stirred:∃f fd,bG K "_law_stirred" fZ f fd)
  (A_law_got:∃f fd,bG K "_law_got" kP f fd)
  (A_law_cells:∃f fd,bG K "_law_cells" ij f fd)
  (A_law_ranges:∃f fd,bG K "_law_ranges" gH f fd)
  (A_law_size:∃f fd,bG K "_law_size" je f fd)
  (A_law_some:∃f fd,bG K "_law_some" jf f fd)
  (A_law_spans:∃f fd,bG K "_law_spans" ip f fd)
  (A_law_single:∃f fd,bG K "_law_single" gJ f fd)
  (A_law_rule:∃f fd,bG K "_law_rule" jd f fd)
  (A_law_rules:∃f fd,bG K "_law_rules" il f fd)
  (A_law_text:∃f fd,bG K "_law_text" jg f fd)
  (A_law_one_column:∃f fd,bG K "_law_one_column" eu f fd)
  (A_law_two_columns:∃f fd,bG K "_law_two_columns" dW f fd)
  (A_law_one_voice:∃f fd,bG K "_law_one_voice" e6 f fd)
  (A_law_broken:∃f fd,bG K "_law_broken" gF f fd)
  (A_law_badly_closed:∃f fd,bG K "_law_badly_closed" dI f fd)
  (A_law_row_at:∃f fd,bG K "_law_row_at" gI f fd)
  (A_law_fault:∃f fd,bG K "_law_fault" ik f fd)
  (A_law_column:∃f fd,bG K "_law_column" gG f fd)
  (A_law_line:∃f fd,bG K "_law_line" jc f fd)
  (A_law_alike:∃f fd,bG K "_law_alike" ig f fd)
  (n_MAKERS:PySem.W.nsIn K mainGlobals "MAKERS"=some (some (.ref a_MAKERS)))
  (t_MAKERS:kr K a_MAKERS D_MAKERS)
  (d_MAKERS_span:KTD.datumAt ("span":Str) D_MAKERS=some (.ref f_span_of))
  (d_MAKERS_clock:KTD.datumAt ("clock":Str) D_MAKERS=some (.ref f_clock_of))
  (d_MAKERS_move:KTD.datumAt ("move":Str) D_MAKERS=some (.ref f_move_of))
  (d_MAKERS_alike:KTD.datumAt ("alike":Str) D_MAKERS=some (.ref f_alike_of))
  (d_MAKERS_back:KTD.datumAt ("back":Str) D_MAKERS=some (.ref f_back_of))
  (d_MAKERS_held:KTD.datumAt ("held":Str) D_MAKERS=some (.ref f_held_of))
  (d_MAKERS_times:KTD.datumAt ("times":Str) D_MAKERS=some (.ref f_times_of))
  (d_MAKERS_begin:KTD.datumAt ("begin":Str) D_MAKERS=some (.ref f_begin_of))
  (d_MAKERS_close:KTD.datumAt ("close":Str) D_MAKERS=some (.ref f_close_of))
  (n_INNER_KINDS:PySem.W.nsIn K mainGlobals "INNER_KINDS"=some (some (.ref a_INNER_KINDS)))
  (q_INNER_KINDS:wM K a_INNER_KINDS [.str "span",.str "clock"])
  (z_len:PySem.W.nsIn K mainGlobals "len"=some none)
  (z_range:PySem.W.nsIn K mainGlobals "range"=some none)
  (z_all:PySem.W.nsIn K mainGlobals "all"=some none)
  (z_min:PySem.W.nsIn K mainGlobals "min"=some none)
  (z_max:PySem.W.nsIn K mainGlobals "max"=some none)
  (z_abs:PySem.W.nsIn K mainGlobals "abs"=some none)
  (z_tuple:PySem.W.nsIn K mainGlobals "tuple"=some none)
  (z_list:PySem.W.nsIn K mainGlobals "list"=some none)
  (z_isinstance:PySem.W.nsIn K mainGlobals "isinstance"=some none)
  (z_bool:PySem.W.nsIn K mainGlobals "bool"=some none)
  (z_int:PySem.W.nsIn K mainGlobals "int"=some none)
  (z_str:PySem.W.nsIn K mainGlobals "str"=some none)
  (z_divmod:PySem.W.nsIn K mainGlobals "divmod"=some none)
  (z_enumerate:PySem.W.nsIn K mainGlobals "enumerate"=some none)
  (g_FIGURES:∃u,PySem.W.nsIn K mainGlobals "FIGURES"=some (some u)∧bh (.str "0123456789") u)
  (g_MOST_FIGURES:∃u,PySem.W.nsIn K mainGlobals "MOST_FIGURES"=some (some u)∧bh (.int 40) u)
  (g_MOST_VOICES:∃u,PySem.W.nsIn K mainGlobals "MOST_VOICES"=some (some u)∧bh (.int 4) u)
  (g_MOST_RULES:∃u,PySem.W.nsIn K mainGlobals "MOST_RULES"=some (some u)∧bh (.int 12) u)
  (g_MOST_WEIGHT:∃u,PySem.W.nsIn K mainGlobals "MOST_WEIGHT"=some (some u)∧bh (.int 400) u)
  (g_MOST_NUMBERS:∃u,PySem.W.nsIn K mainGlobals "MOST_NUMBERS"=some (some u)∧bh (.int 12) u)
  (g_NO_LEAP:∃u,PySem.W.nsIn K mainGlobals "NO_LEAP"=some (some u)∧bh (.int 0) u)
  (g_LEAP_UP:∃u,PySem.W.nsIn K mainGlobals "LEAP_UP"=some (some u)∧bh (.int 1) u)
  (g_LEAP_DOWN:∃u,PySem.W.nsIn K mainGlobals "LEAP_DOWN"=some (some u)∧bh (.int 2) u)
  (A_law:∃f fd,bG K "law" pJ f fd)
  :∃fd:FuncData,(∀(s:Shared) (v:Value),BindsTo s fd ⟨[v],[]⟩ [("_law_script",v)])∧∀base:Heap,K.In base→base.Ns mainGlobals mg→aP l.prog w K mg base bY 12 fa fd ["_law_script"] (u5 K):=by
 obtain⟨f_law,fd_law,B_law⟩:=A_law
 obtain⟨f_note_in,fd_note_in,B_note_in⟩:=A_note_in
 have F_note_in:=B_note_in.fn
 obtain⟨f_span,fd_span,B_span⟩:=A_span
 have F_span:=B_span.fn
 obtain⟨f_move,fd_move,B_move⟩:=A_move
 have F_move:=B_move.fn
 obtain⟨CC_Rule___init__,f_Rule___init__,fd_Rule___init__,B_Rule___init__⟩:=A_Rule___init__
 have F_Rule___init__:=B_Rule___init__.fn
 obtain⟨f_Span_size,fd_Span_size,B_Span_size⟩:=A_Span_size
 have F_Span_size:=B_Span_size.fn
 obtain⟨f_Span_start,fd_Span_start,B_Span_start⟩:=A_Span_start
 have F_Span_start:=B_Span_start.fn
 obtain⟨f_Span_closes,fd_Span_closes,B_Span_closes⟩:=A_Span_closes
 have F_Span_closes:=B_Span_closes.fn
 obtain⟨f_Clock_size,fd_Clock_size,B_Clock_size⟩:=A_Clock_size
 have F_Clock_size:=B_Clock_size.fn
 obtain⟨f_Clock_start,fd_Clock_start,B_Clock_start⟩:=A_Clock_start
 have F_Clock_start:=B_Clock_start.fn
 obtain⟨f_Clock_closes,fd_Clock_closes,B_Clock_closes⟩:=A_Clock_closes
 have F_Clock_closes:=B_Clock_closes.fn
 obtain⟨f_Move_size,fd_Move_size,B_Move_size⟩:=A_Move_size
 have F_Move_size:=B_Move_size.fn
 obtain⟨f_Move_start,fd_Move_start,B_Move_start⟩:=A_Move_start
 have F_Move_start:=B_Move_start.fn
 obtain⟨f_Move_closes,fd_Move_closes,B_Move_closes⟩:=A_Move_closes
 have F_Move_closes:=B_Move_closes.fn
 obtain⟨f_Alike_size,fd_Alike_size,B_Alike_size⟩:=A_Alike_size
 have F_Alike_size:=B_Alike_size.fn
 obtain⟨f_Alike_start,fd_Alike_start,B_Alike_start⟩:=A_Alike_start
 have F_Alike_start:=B_Alike_start.fn
 obtain⟨f_Alike_closes,fd_Alike_closes,B_Alike_closes⟩:=A_Alike_closes
 have F_Alike_closes:=B_Alike_closes.fn
 obtain⟨f_Begin_size,fd_Begin_size,B_Begin_size⟩:=A_Begin_size
 have F_Begin_size:=B_Begin_size.fn
 obtain⟨f_Begin_start,fd_Begin_start,B_Begin_start⟩:=A_Begin_start
 have F_Begin_start:=B_Begin_start.fn
 obtain⟨f_Begin_closes,fd_Begin_closes,B_Begin_closes⟩:=A_Begin_closes
 have F_Begin_closes:=B_Begin_closes.fn
 obtain⟨f_Close_size,fd_Close_size,B_Close_size⟩:=A_Close_size
 have F_Close_size:=B_Close_size.fn
 obtain⟨f_Close_start,fd_Close_start,B_Close_start⟩:=A_Close_start
 have F_Close_start:=B_Close_start.fn
 obtain⟨f_Held_start,fd_Held_start,B_Held_start⟩:=A_Held_start
 have F_Held_start:=B_Held_start.fn
 obtain⟨f_Held_closes,fd_Held_closes,B_Held_closes⟩:=A_Held_closes
 have F_Held_closes:=B_Held_closes.fn
 obtain⟨f_Times_start,fd_Times_start,B_Times_start⟩:=A_Times_start
 have F_Times_start:=B_Times_start.fn
 obtain⟨f_Every_start,fd_Every_start,B_Every_start⟩:=A_Every_start
 have F_Every_start:=B_Every_start.fn
 obtain⟨f_Every_closes,fd_Every_closes,B_Every_closes⟩:=A_Every_closes
 have F_Every_closes:=B_Every_closes.fn
 obtain⟨f_Close_after,fd_Close_after,B_Close_after⟩:=A_Close_after
 have F_Close_after:=B_Close_after.fn
 obtain⟨f_Back_size,fd_Back_size,B_Back_size⟩:=A_Back_size
 have F_Back_size:=B_Back_size.fn
 obtain⟨f_Back_start,fd_Back_start,B_Back_start⟩:=A_Back_start
 have F_Back_start:=B_Back_start.fn
 obtain⟨f_Held_size,fd_Held_size,B_Held_size⟩:=A_Held_size
 have F_Held_size:=B_Held_size.fn
 obtain⟨f_Times_size,fd_Times_size,B_Times_size⟩:=A_Times_size
 have F_Times_size:=B_Times_size.fn
 obtain⟨f_Every_size,fd_Every_size,B_Every_size⟩:=A_Every_size
 have F_Every_size:=B_Every_size.fn
 obtain⟨f_Span_after,fd_Span_after,B_Span_after⟩:=A_Span_after
 have F_Span_after:=B_Span_after.fn
 obtain⟨f_Clock_after,fd_Clock_after,B_Clock_after⟩:=A_Clock_after
 have F_Clock_after:=B_Clock_after.fn
 obtain⟨f_Move_after,fd_Move_after,B_Move_after⟩:=A_Move_after
 have F_Move_after:=B_Move_after.fn
 obtain⟨f_Alike_after,fd_Alike_after,B_Alike_after⟩:=A_Alike_after
 have F_Alike_after:=B_Alike_after.fn
 obtain⟨f_Back_closes,fd_Back_closes,B_Back_closes⟩:=A_Back_closes
 have F_Back_closes:=B_Back_closes.fn
 obtain⟨f_Back_after,fd_Back_after,B_Back_after⟩:=A_Back_after
 have F_Back_after:=B_Back_after.fn
 obtain⟨f_Held_after,fd_Held_after,B_Held_after⟩:=A_Held_after
 have F_Held_after:=B_Held_after.fn
 obtain⟨f_Times_closes,fd_Times_closes,B_Times_closes⟩:=A_Times_closes
 have F_Times_closes:=B_Times_closes.fn
 obtain⟨f_Times_after,fd_Times_after,B_Times_after⟩:=A_Times_after
 have F_Times_after:=B_Times_after.fn
 obtain⟨f_Begin_after,fd_Begin_after,B_Begin_after⟩:=A_Begin_after
 have F_Begin_after:=B_Begin_after.fn
 obtain⟨f_Close_closes,fd_Close_closes,B_Close_closes⟩:=A_Close_closes
 have F_Close_closes:=B_Close_closes.fn
 obtain⟨f_Every_after,fd_Every_after,B_Every_after⟩:=A_Every_after
 have F_Every_after:=B_Every_after.fn
 obtain⟨f_Span___init__,fd_Span___init__,B_Span___init__⟩:=A_Span___init__
 have F_Span___init__:=B_Span___init__.fn
 obtain⟨f_Clock___init__,fd_Clock___init__,B_Clock___init__⟩:=A_Clock___init__
 have F_Clock___init__:=B_Clock___init__.fn
 obtain⟨f_Move___init__,fd_Move___init__,B_Move___init__⟩:=A_Move___init__
 have F_Move___init__:=B_Move___init__.fn
 obtain⟨f_Alike___init__,fd_Alike___init__,B_Alike___init__⟩:=A_Alike___init__
 have F_Alike___init__:=B_Alike___init__.fn
 obtain⟨f_Back___init__,fd_Back___init__,B_Back___init__⟩:=A_Back___init__
 have F_Back___init__:=B_Back___init__.fn
 obtain⟨f_Held___init__,fd_Held___init__,B_Held___init__⟩:=A_Held___init__
 have F_Held___init__:=B_Held___init__.fn
 obtain⟨f_Times___init__,fd_Times___init__,B_Times___init__⟩:=A_Times___init__
 have F_Times___init__:=B_Times___init__.fn
 obtain⟨f_Begin___init__,fd_Begin___init__,B_Begin___init__⟩:=A_Begin___init__
 have F_Begin___init__:=B_Begin___init__.fn
 obtain⟨f_Close___init__,fd_Close___init__,B_Close___init__⟩:=A_Close___init__
 have F_Close___init__:=B_Close___init__.fn
 obtain⟨f_Every___init__,fd_Every___init__,B_Every___init__⟩:=A_Every___init__
 have F_Every___init__:=B_Every___init__.fn
 obtain⟨f_is_number,fd_is_number,B_is_number⟩:=A_is_number
 have F_is_number:=B_is_number.fn
 obtain⟨f_has_list,fd_has_list,B_has_list⟩:=A_has_list
 have F_has_list:=B_has_list.fn
 obtain⟨f_are_voices,fd_are_voices,B_are_voices⟩:=A_are_voices
 have F_are_voices:=B_are_voices.fn
 have F_span_of:=B_span_of.fn
 have F_clock_of:=B_clock_of.fn
 have F_move_of:=B_move_of.fn
 have F_alike_of:=B_alike_of.fn
 have F_back_of:=B_back_of.fn
 have F_held_of:=B_held_of.fn
 have F_times_of:=B_times_of.fn
 have F_begin_of:=B_begin_of.fn
 have F_close_of:=B_close_of.fn
 obtain⟨f_plain_rule,fd_plain_rule,B_plain_rule⟩:=A_plain_rule
 have F_plain_rule:=B_plain_rule.fn
 obtain⟨f_every_rule,fd_every_rule,B_every_rule⟩:=A_every_rule
 have F_every_rule:=B_every_rule.fn
 obtain⟨f_read_rule,fd_read_rule,u_read_rule,B_read_rule,r_read_rule⟩:=A_read_rule
 obtain⟨T_read_rule,o_read_rule,n_read_rule,F_read_rule,t_read_rule,d_read_rule⟩:=B_read_rule.fn
 obtain⟨f_broken_at,fd_broken_at,B_broken_at⟩:=A_broken_at
 have F_broken_at:=B_broken_at.fn
 obtain⟨f_Score___init__,fd_Score___init__,B_Score___init__⟩:=A_Score___init__
 have F_Score___init__:=B_Score___init__.fn
 obtain⟨f_weight,fd_weight,B_weight⟩:=A_weight
 have F_weight:=B_weight.fn
 obtain⟨f_not_too_wide,fd_not_too_wide,B_not_too_wide⟩:=A_not_too_wide
 have F_not_too_wide:=B_not_too_wide.fn
 obtain⟨f_first_outside,fd_first_outside,B_first_outside⟩:=A_first_outside
 have F_first_outside:=B_first_outside.fn
 obtain⟨f_fault,fd_fault,B_fault⟩:=A_fault
 have F_fault:=B_fault.fn
 obtain⟨f_voice_range,fd_voice_range,B_voice_range⟩:=A_voice_range
 have F_voice_range:=B_voice_range.fn
 obtain⟨f_read,fd_read,B_read⟩:=A_read
 have F_read:=B_read.fn
 obtain⟨f_law_stirred,fd_law_stirred,B_law_stirred⟩:=A_law_stirred
 have F_law_stirred:=B_law_stirred.fn
 obtain⟨f_law_got,fd_law_got,B_law_got⟩:=A_law_got
 have F_law_got:=B_law_got.fn
 obtain⟨f_law_cells,fd_law_cells,B_law_cells⟩:=A_law_cells
 have F_law_cells:=B_law_cells.fn
 obtain⟨f_law_ranges,fd_law_ranges,B_law_ranges⟩:=A_law_ranges
 have F_law_ranges:=B_law_ranges.fn
 obtain⟨f_law_size,fd_law_size,B_law_size⟩:=A_law_size
 have F_law_size:=B_law_size.fn
 obtain⟨f_law_some,fd_law_some,B_law_some⟩:=A_law_some
 have F_law_some:=B_law_some.fn
 obtain⟨f_law_spans,fd_law_spans,B_law_spans⟩:=A_law_spans
 have F_law_spans:=B_law_spans.fn
 obtain⟨f_law_single,fd_law_single,B_law_single⟩:=A_law_single
 have F_law_single:=B_law_single.fn
 obtain⟨f_law_rule,fd_law_rule,B_law_rule⟩:=A_law_rule
 have F_law_rule:=B_law_rule.fn
 obtain⟨f_law_rules,fd_law_rules,B_law_rules⟩:=A_law_rules
 have F_law_rules:=B_law_rules.fn
 obtain⟨f_law_text,fd_law_text,B_law_text⟩:=A_law_text
 have F_law_text:=B_law_text.fn
 obtain⟨f_law_one_column,fd_law_one_column,B_law_one_column⟩:=A_law_one_column
 have F_law_one_column:=B_law_one_column.fn
 obtain⟨f_law_two_columns,fd_law_two_columns,B_law_two_columns⟩:=A_law_two_columns
 have F_law_two_columns:=B_law_two_columns.fn
 obtain⟨f_law_one_voice,fd_law_one_voice,B_law_one_voice⟩:=A_law_one_voice
 have F_law_one_voice:=B_law_one_voice.fn
 obtain⟨f_law_broken,fd_law_broken,B_law_broken⟩:=A_law_broken
 have F_law_broken:=B_law_broken.fn
 obtain⟨f_law_badly_closed,fd_law_badly_closed,B_law_badly_closed⟩:=A_law_badly_closed
 have F_law_badly_closed:=B_law_badly_closed.fn
 obtain⟨f_law_row_at,fd_law_row_at,B_law_row_at⟩:=A_law_row_at
 have F_law_row_at:=B_law_row_at.fn
 obtain⟨f_law_fault,fd_law_fault,B_law_fault⟩:=A_law_fault
 have F_law_fault:=B_law_fault.fn
 obtain⟨f_law_column,fd_law_column,B_law_column⟩:=A_law_column
 have F_law_column:=B_law_column.fn
 obtain⟨f_law_line,fd_law_line,B_law_line⟩:=A_law_line
 have F_law_line:=B_law_line.fn
 obtain⟨f_law_alike,fd_law_alike,B_law_alike⟩:=A_law_alike
 have F_law_alike:=B_law_alike.fn
 obtain⟨u_FIGURES,g_FIGURES,r_FIGURES⟩:=g_FIGURES
 obtain⟨u_MOST_FIGURES,g_MOST_FIGURES,r_MOST_FIGURES⟩:=g_MOST_FIGURES
 obtain⟨u_MOST_VOICES,g_MOST_VOICES,r_MOST_VOICES⟩:=g_MOST_VOICES
 obtain⟨u_MOST_RULES,g_MOST_RULES,r_MOST_RULES⟩:=g_MOST_RULES
 obtain⟨u_MOST_WEIGHT,g_MOST_WEIGHT,r_MOST_WEIGHT⟩:=g_MOST_WEIGHT
 obtain⟨u_MOST_NUMBERS,g_MOST_NUMBERS,r_MOST_NUMBERS⟩:=g_MOST_NUMBERS
 obtain⟨u_NO_LEAP,g_NO_LEAP,r_NO_LEAP⟩:=g_NO_LEAP
 obtain⟨u_LEAP_UP,g_LEAP_UP,r_LEAP_UP⟩:=g_LEAP_UP
 obtain⟨u_LEAP_DOWN,g_LEAP_DOWN,r_LEAP_DOWN⟩:=g_LEAP_DOWN
 have e:=hfa.symm.trans (PySem.W.mg_of X G B_law.ns)
 cases e
 have T:Txt mg a_MAKERS:={ n_len:=PySem.W.mg_none_of X G z_len,n_range:=PySem.W.mg_none_of X G z_range,n_all:=PySem.W.mg_none_of X G z_all,n_min:=PySem.W.mg_none_of X G z_min,n_max:=PySem.W.mg_none_of X G z_max,n_abs:=PySem.W.mg_none_of X G z_abs,n_tuple:=PySem.W.mg_none_of X G z_tuple,n_list:=PySem.W.mg_none_of X G z_list,n_isinstance:=PySem.W.mg_none_of X G z_isinstance,n_bool:=PySem.W.mg_none_of X G z_bool,n_int:=PySem.W.mg_none_of X G z_int,n_str:=PySem.W.mg_none_of X G z_str,n_divmod:=PySem.W.mg_none_of X G z_divmod,n_enumerate:=PySem.W.mg_none_of X G z_enumerate,g_FIGURES:=⟨_,PySem.W.mg_of X G g_FIGURES,r_FIGURES⟩,g_MOST_FIGURES:=⟨_,PySem.W.mg_of X G g_MOST_FIGURES,r_MOST_FIGURES⟩,g_MOST_VOICES:=⟨_,PySem.W.mg_of X G g_MOST_VOICES,r_MOST_VOICES⟩,g_MOST_RULES:=⟨_,PySem.W.mg_of X G g_MOST_RULES,r_MOST_RULES⟩,g_MOST_WEIGHT:=⟨_,PySem.W.mg_of X G g_MOST_WEIGHT,r_MOST_WEIGHT⟩,g_MOST_NUMBERS:=⟨_,PySem.W.mg_of X G g_MOST_NUMBERS,r_MOST_NUMBERS⟩,g_NO_LEAP:=⟨_,PySem.W.mg_of X G g_NO_LEAP,r_NO_LEAP⟩,g_LEAP_UP:=⟨_,PySem.W.mg_of X G g_LEAP_UP,r_LEAP_UP⟩,g_LEAP_DOWN:=⟨_,PySem.W.mg_of X G g_LEAP_DOWN,r_LEAP_DOWN⟩,g_MAKERS:=⟨_,PySem.W.mg_of X G n_MAKERS,rfl⟩ }
 have TE_INNER_KINDS:BM mg a_MAKERS a_INNER_KINDS:={ T with g_INNER_KINDS:=⟨_,PySem.W.mg_of X G n_INNER_KINDS,rfl⟩ }
 obtain⟨oc,od,kV,doc,pm,an,cdv,ct,osl,rfl,lk,hcd⟩:=B_law.fn.ex
 refine⟨PySem.W.fnOf "law" "law" (dh pJ) (cS pJ) (ao pJ) .none kV doc pm an cdv ct,fun s v=>.of_eq rfl,fun base _ _=>?_⟩
 have D_note_in:bZ l.prog w K mg base "note_in" 1 ["column","voice"] (eQ K):=B_note_in.df X G (tK F_note_in) (F_note_in.binds (fun _ _ _ _ _ _ us hl=>by obtain⟨_,_,rfl⟩:=sF hl;rfl))
 have D_span:bZ l.prog w K mg base "span" 2 ["column","first","second"] (nL K):=B_span.df X G (zz F_span D_note_in) (F_span.binds (fun _ _ _ _ _ _ us hl=>by obtain⟨_,_,_,rfl⟩:=jq hl;rfl))
 have D_move:bZ l.prog w K mg base "move" 2 ["before","column","voice"] (j4 K):=B_move.df X G (zt F_move D_note_in) (F_move.binds (fun _ _ _ _ _ _ us hl=>by obtain⟨_,_,_,rfl⟩:=jq hl;rfl))
 have DC_Rule___init__:kn l.prog w K mg base "Rule" "__init__" 1 ["self","row"] (cj K):=B_Rule___init__.df X G (qm F_Rule___init__) (F_Rule___init__.binds (fun _ _ _ _ _ _ us hl=>by obtain⟨_,_,rfl⟩:=sF hl;rfl))
 have M_Span_size:aD l.prog w K mg base C_Span "size" 1 ["self"] (bu 1 fun _=>.int 1):=B_Span_size.ok TC_Span.cl (dj F_Span_size) (F_Span_size.binds (fun _ _ _ _ _ _ us hl=>by obtain⟨_,rfl⟩:=ly hl;rfl))
 have M_Span_start:aD l.prog w K mg base C_Span "start" 1 ["self"] (bu 1 fun _=>.int 0):=B_Span_start.ok TC_Span.cl (b5 F_Span_start) (F_Span_start.binds (fun _ _ _ _ _ _ us hl=>by obtain⟨_,rfl⟩:=ly hl;rfl))
 have M_Span_closes:aD l.prog w K mg base C_Span "closes" 1 ["self","memory","last"] (bu 3 fun _=>.bl true):=B_Span_closes.ok TC_Span.cl (cv F_Span_closes) (F_Span_closes.binds (fun _ _ _ _ _ _ us hl=>by obtain⟨_,_,_,rfl⟩:=jq hl;rfl))
 have M_Clock_size:aD l.prog w K mg base C_Clock "size" 1 ["self"] (bu 1 fun _=>.int 1):=B_Clock_size.ok TC_Clock.cl (dj F_Clock_size) (F_Clock_size.binds (fun _ _ _ _ _ _ us hl=>by obtain⟨_,rfl⟩:=ly hl;rfl))
 have M_Clock_start:aD l.prog w K mg base C_Clock "start" 1 ["self"] (bu 1 fun _=>.int 0):=B_Clock_start.ok TC_Clock.cl (b5 F_Clock_start) (F_Clock_start.binds (fun _ _ _ _ _ _ us hl=>by obtain⟨_,rfl⟩:=ly hl;rfl))
 have M_Clock_closes:aD l.prog w K mg base C_Clock "closes" 1 ["self","memory","last"] (bu 3 fun _=>.bl true):=B_Clock_closes.ok TC_Clock.cl (cv F_Clock_closes) (F_Clock_closes.binds (fun _ _ _ _ _ _ us hl=>by obtain⟨_,_,_,rfl⟩:=jq hl;rfl))
 have M_Move_size:aD l.prog w K mg base C_Move "size" 1 ["self"] (bu 1 fun _=>.int 1):=B_Move_size.ok TC_Move.cl (dj F_Move_size) (F_Move_size.binds (fun _ _ _ _ _ _ us hl=>by obtain⟨_,rfl⟩:=ly hl;rfl))
 have M_Move_start:aD l.prog w K mg base C_Move "start" 1 ["self"] (bu 1 fun _=>.int 0):=B_Move_start.ok TC_Move.cl (b5 F_Move_start) (F_Move_start.binds (fun _ _ _ _ _ _ us hl=>by obtain⟨_,rfl⟩:=ly hl;rfl))
 have M_Move_closes:aD l.prog w K mg base C_Move "closes" 1 ["self","memory","last"] (bu 3 fun _=>.bl true):=B_Move_closes.ok TC_Move.cl (cv F_Move_closes) (F_Move_closes.binds (fun _ _ _ _ _ _ us hl=>by obtain⟨_,_,_,rfl⟩:=jq hl;rfl))
 have M_Alike_size:aD l.prog w K mg base C_Alike "size" 1 ["self"] (bu 1 fun _=>.int 1):=B_Alike_size.ok TC_Alike.cl (dj F_Alike_size) (F_Alike_size.binds (fun _ _ _ _ _ _ us hl=>by obtain⟨_,rfl⟩:=ly hl;rfl))
 have M_Alike_start:aD l.prog w K mg base C_Alike "start" 1 ["self"] (bu 1 fun _=>.int 0):=B_Alike_start.ok TC_Alike.cl (b5 F_Alike_start) (F_Alike_start.binds (fun _ _ _ _ _ _ us hl=>by obtain⟨_,rfl⟩:=ly hl;rfl))
 have M_Alike_closes:aD l.prog w K mg base C_Alike "closes" 1 ["self","memory","last"] (bu 3 fun _=>.bl true):=B_Alike_closes.ok TC_Alike.cl (cv F_Alike_closes) (F_Alike_closes.binds (fun _ _ _ _ _ _ us hl=>by obtain⟨_,_,_,rfl⟩:=jq hl;rfl))
 have M_Begin_size:aD l.prog w K mg base C_Begin "size" 1 ["self"] (bu 1 fun _=>.int 1):=B_Begin_size.ok TC_Begin.cl (dj F_Begin_size) (F_Begin_size.binds (fun _ _ _ _ _ _ us hl=>by obtain⟨_,rfl⟩:=ly hl;rfl))
 have M_Begin_start:aD l.prog w K mg base C_Begin "start" 1 ["self"] (bu 1 fun _=>.int 0):=B_Begin_start.ok TC_Begin.cl (b5 F_Begin_start) (F_Begin_start.binds (fun _ _ _ _ _ _ us hl=>by obtain⟨_,rfl⟩:=ly hl;rfl))
 have M_Begin_closes:aD l.prog w K mg base C_Begin "closes" 1 ["self","memory","last"] (bu 3 fun _=>.bl true):=B_Begin_closes.ok TC_Begin.cl (cv F_Begin_closes) (F_Begin_closes.binds (fun _ _ _ _ _ _ us hl=>by obtain⟨_,_,_,rfl⟩:=jq hl;rfl))
 have M_Close_size:aD l.prog w K mg base C_Close "size" 1 ["self"] (bu 1 fun _=>.int 1):=B_Close_size.ok TC_Close.cl (dj F_Close_size) (F_Close_size.binds (fun _ _ _ _ _ _ us hl=>by obtain⟨_,rfl⟩:=ly hl;rfl))
 have M_Close_start:aD l.prog w K mg base C_Close "start" 1 ["self"] (bu 1 fun _=>.int 0):=B_Close_start.ok TC_Close.cl (b5 F_Close_start) (F_Close_start.binds (fun _ _ _ _ _ _ us hl=>by obtain⟨_,rfl⟩:=ly hl;rfl))
 have M_Held_start:aD l.prog w K mg base C_Held "start" 1 ["self"] (bu 1 fun _=>.int 0):=B_Held_start.ok TC_Held.cl (b5 F_Held_start) (F_Held_start.binds (fun _ _ _ _ _ _ us hl=>by obtain⟨_,rfl⟩:=ly hl;rfl))
 have M_Held_closes:aD l.prog w K mg base C_Held "closes" 1 ["self","memory","last"] (bu 3 fun _=>.bl true):=B_Held_closes.ok TC_Held.cl (cv F_Held_closes) (F_Held_closes.binds (fun _ _ _ _ _ _ us hl=>by obtain⟨_,_,_,rfl⟩:=jq hl;rfl))
 have M_Times_start:aD l.prog w K mg base C_Times "start" 1 ["self"] (bu 1 fun _=>.int 0):=B_Times_start.ok TC_Times.cl (b5 F_Times_start) (F_Times_start.binds (fun _ _ _ _ _ _ us hl=>by obtain⟨_,rfl⟩:=ly hl;rfl))
 have M_Every_start:aD l.prog w K mg base C_Every "start" 1 ["self"] (bu 1 fun _=>.int 0):=B_Every_start.ok TC_Every.cl (b5 F_Every_start) (F_Every_start.binds (fun _ _ _ _ _ _ us hl=>by obtain⟨_,rfl⟩:=ly hl;rfl))
 have M_Every_closes:aD l.prog w K mg base C_Every "closes" 1 ["self","memory","last"] (bu 3 fun _=>.bl true):=B_Every_closes.ok TC_Every.cl (cv F_Every_closes) (F_Every_closes.binds (fun _ _ _ _ _ _ us hl=>by obtain⟨_,_,_,rfl⟩:=jq hl;rfl))
 have M_Close_after:aD l.prog w K mg base C_Close "after" 1 ["self","memory","before","column"] (bu 4 xE):=B_Close_after.ok TC_Close.cl (ow F_Close_after) (F_Close_after.binds (fun _ _ _ _ _ _ us hl=>by obtain⟨_,_,_,_,rfl⟩:=sG hl;rfl))
 have M_Back_size:aD l.prog w K mg base C_Back "size" 1 ["self"] (bu 1 fun _=>.int 3):=B_Back_size.ok TC_Back.cl (qh F_Back_size) (F_Back_size.binds (fun _ _ _ _ _ _ us hl=>by obtain⟨_,rfl⟩:=ly hl;rfl))
 have M_Back_start:aD l.prog w K mg base C_Back "start" 1 ["self"] (bu 1 fun _=>.int 0):=B_Back_start.ok TC_Back.cl (oe F_Back_start T) (F_Back_start.binds (fun _ _ _ _ _ _ us hl=>by obtain⟨_,rfl⟩:=ly hl;rfl))
 have M_Held_size:∀(row:Str) (a c:Int),aD l.prog w K mg base C_Held "size" 1 ["self"] (nI (ff C_Held row a c) (.int c)):=fun row a c=>B_Held_size.ok TC_Held.cl (qk F_Held_size TC_Held) (F_Held_size.binds (fun _ _ _ _ _ _ us hl=>by obtain⟨_,rfl⟩:=ly hl;rfl))
 have M_Times_size:∀(row:Str) (a c d e:Int),aD l.prog w K mg base C_Times "size" 1 ["self"] (nI (c5 C_Times row a c d e) (.int (e+1))):=fun row a c d e=>B_Times_size.ok TC_Times.cl (oA F_Times_size TC_Times) (F_Times_size.binds (fun _ _ _ _ _ _ us hl=>by obtain⟨_,rfl⟩:=ly hl;rfl))
 have M_Every_size:∀(row:Str) (t u:Int) (RIn:km),aD l.prog w K mg base C_Every "size" 1 ["self"] (nI (eA C_Every row t u RIn) (.int t)):=fun row t u RIn=>B_Every_size.ok TC_Every.cl (oo F_Every_size TC_Every) (F_Every_size.binds (fun _ _ _ _ _ _ us hl=>by obtain⟨_,rfl⟩:=ly hl;rfl))
 have M_Span_after:∀(row:Str) (a b:Int) (D:List Int) (nv:Nat) (_:1≤a∧a≤nv) (_:1≤b∧b≤nv),aD l.prog w K mg base C_Span "after" 3 ["self","memory","before","column"] (bJ K nv (gZ C_Span row a b D) (e8 a b D) fun _=>True):=fun row a b D nv ha hb=>B_Span_after.ok TC_Span.cl (oy F_Span_after T TC_Span ha hb D_span) (F_Span_after.binds (fun _ _ _ _ _ _ us hl=>by obtain⟨_,_,_,_,rfl⟩:=sG hl;rfl))
 have M_Clock_after:∀(row:Str) (a b c:Int) (D:List Int) (nv:Nat) (_:1≤a∧a≤nv) (_:1≤b∧b≤nv) (_:1≤c),aD l.prog w K mg base C_Clock "after" 3 ["self","memory","before","column"] (bJ K nv (fK C_Clock row a b c D) (dY a b c D) fun _=>True):=fun row a b c D nv ha hb hc=>B_Clock_after.ok TC_Clock.cl (m5 F_Clock_after T TC_Clock ha hb hc D_span) (F_Clock_after.binds (fun _ _ _ _ _ _ us hl=>by obtain⟨_,_,_,_,rfl⟩:=sG hl;rfl))
 have M_Move_after:∀(row:Str) (a:Int) (D:List Int) (nv:Nat) (_:1≤a∧a≤nv),aD l.prog w K mg base C_Move "after" 3 ["self","memory","before","column"] (bJ K nv (gY C_Move row a D) (fO a D) fun _=>True):=fun row a D nv ha=>B_Move_after.ok TC_Move.cl (ou F_Move_after T TC_Move ha D_move) (F_Move_after.binds (fun _ _ _ _ _ _ us hl=>by obtain⟨_,_,_,_,rfl⟩:=sG hl;rfl))
 have M_Alike_after:∀(row:Str) (a b:Int) (D:List Int) (nv:Nat) (_:1≤a∧a≤nv) (_:1≤b∧b≤nv),aD l.prog w K mg base C_Alike "after" 3 ["self","memory","before","column"] (bJ K nv (fI C_Alike row a b D) (eK a b D) fun _=>True):=fun row a b D nv ha hb=>B_Alike_after.ok TC_Alike.cl (mZ F_Alike_after T TC_Alike ha hb D_move D_span) (F_Alike_after.binds (fun _ _ _ _ _ _ us hl=>by obtain⟨_,_,_,_,rfl⟩:=sG hl;rfl))
 have M_Back_closes:∀(row:Str) (a c:Int) (nv:Nat),aD l.prog w K mg base C_Back "closes" 1 ["self","memory","last"] (dC K nv (fe C_Back row a c) (dq a c) jG):=fun row a c nv=>B_Back_closes.ok TC_Back.cl (m3 F_Back_closes T) (F_Back_closes.binds (fun _ _ _ _ _ _ us hl=>by obtain⟨_,_,_,rfl⟩:=jq hl;rfl))
 have M_Back_after:∀(row:Str) (a c:Int) (nv:Nat) (_:1≤a∧a≤nv),aD l.prog w K mg base C_Back "after" 3 ["self","memory","before","column"] (bJ K nv (fe C_Back row a c) (dq a c) jG):=fun row a c nv ha=>B_Back_after.ok TC_Back.cl (oa F_Back_after T TC_Back ha D_move) (F_Back_after.binds (fun _ _ _ _ _ _ us hl=>by obtain⟨_,_,_,_,rfl⟩:=sG hl;rfl))
 have M_Held_after:∀(row:Str) (a c:Int) (nv:Nat) (_:1≤a∧a≤nv),aD l.prog w K mg base C_Held "after" 3 ["self","memory","before","column"] (bJ K nv (ff C_Held row a c) (eE a c) (pA c)):=fun row a c nv ha=>B_Held_after.ok TC_Held.cl (oq F_Held_after T TC_Held ha (D_note_in.up (by decide))) (F_Held_after.binds (fun _ _ _ _ _ _ us hl=>by obtain⟨_,_,_,_,rfl⟩:=sG hl;rfl))
 have M_Times_closes:∀(row:Str) (a c d e:Int) (nv:Nat),aD l.prog w K mg base C_Times "closes" 1 ["self","memory","last"] (dC K nv (c5 C_Times row a c d e) (cY a c d e) (jH e)):=fun row a c d e nv=>B_Times_closes.ok TC_Times.cl (lO F_Times_closes TC_Times) (F_Times_closes.binds (fun _ _ _ _ _ _ us hl=>by obtain⟨_,_,_,rfl⟩:=jq hl;rfl))
 have M_Times_after:∀(row:Str) (a c d e:Int) (nv:Nat) (_:1≤a∧a≤nv),aD l.prog w K mg base C_Times "after" 3 ["self","memory","before","column"] (bJ K nv (c5 C_Times row a c d e) (cY a c d e) (jH e)):=fun row a c d e nv ha=>B_Times_after.ok TC_Times.cl (m7 F_Times_after T TC_Times ha (D_note_in.up (by decide))) (F_Times_after.binds (fun _ _ _ _ _ _ us hl=>by obtain⟨_,_,_,_,rfl⟩:=sG hl;rfl))
 have M_Begin_after:∀(row:Str) (a:Int) (D:List Int) (nv:Nat) (_:1≤a∧a≤nv),aD l.prog w K mg base C_Begin "after" 3 ["self","memory","before","column"] (bJ K nv (fJ C_Begin row a D) (dX a D) fun _=>True):=fun row a D nv ha=>B_Begin_after.ok TC_Begin.cl (m4 F_Begin_after T TC_Begin ha (D_note_in.up (by decide))) (F_Begin_after.binds (fun _ _ _ _ _ _ us hl=>by obtain⟨_,_,_,_,rfl⟩:=sG hl;rfl))
 have M_Close_closes:∀(row:Str) (a:Int) (D:List Int) (nv:Nat) (_:1≤a∧a≤nv),aD l.prog w K mg base C_Close "closes" 3 ["self","memory","last"] (dC K nv (fL C_Close row a D) (eM a D) fun _=>True):=fun row a D nv ha=>B_Close_closes.ok TC_Close.cl (lN F_Close_closes T TC_Close ha (D_note_in.up (by decide))) (F_Close_closes.binds (fun _ _ _ _ _ _ us hl=>by obtain⟨_,_,_,rfl⟩:=jq hl;rfl))
 have M_Every_after:∀(row:Str) (t u:Int) (nv:Nat) (Cn:Addr) (S:d4) (RIn:km) (G:Int→Prop) (_:0 < t) (_:bB l.prog w K mg base 4 nv Cn S RIn G),aD l.prog w K mg base C_Every "after" 5 ["self","memory","before","column"] (bJ K nv (eA C_Every row t u RIn) (eP t u S) (mU t)):=fun row t u nv Cn S RIn G ht R=>B_Every_after.ok TC_Every.cl (m6 F_Every_after T TC_Every ht R) (F_Every_after.binds (fun _ _ _ _ _ _ us hl=>by obtain⟨_,_,_,_,rfl⟩:=sG hl;rfl))
 have DM_Span:dZ l.prog w K mg base "Span" C_Span 2 ["self","row","first","second","numbers"] (jo K C_Span):=B_Span___init__.df X G (qq F_Span___init__ T TC_Span DC_Rule___init__) (F_Span___init__.binds (fun _ _ _ _ _ _ us hl=>by obtain⟨_,_,_,_,_,rfl⟩:=C0 hl;rfl))
 have DM_Clock:dZ l.prog w K mg base "Clock" C_Clock 2 ["self","row","first","second","hours","numbers"] (iu K C_Clock):=B_Clock___init__.df X G (oh F_Clock___init__ T TC_Clock DC_Rule___init__) (F_Clock___init__.binds (fun _ _ _ _ _ _ us hl=>by obtain⟨_,_,_,_,_,_,rfl⟩:=C4 hl;rfl))
 have DM_Move:dZ l.prog w K mg base "Move" C_Move 2 ["self","row","voice","numbers"] (jl K C_Move):=B_Move___init__.df X G (ql F_Move___init__ T TC_Move DC_Rule___init__) (F_Move___init__.binds (fun _ _ _ _ _ _ us hl=>by obtain⟨_,_,_,_,rfl⟩:=sG hl;rfl))
 have DM_Alike:dZ l.prog w K mg base "Alike" C_Alike 2 ["self","row","first","second","numbers"] (iq K C_Alike):=B_Alike___init__.df X G (n9 F_Alike___init__ T TC_Alike DC_Rule___init__) (F_Alike___init__.binds (fun _ _ _ _ _ _ us hl=>by obtain⟨_,_,_,_,_,rfl⟩:=C0 hl;rfl))
 have DM_Back:dZ l.prog w K mg base "Back" C_Back 2 ["self","row","voice","widest"] (ji K C_Back):=B_Back___init__.df X G (qg F_Back___init__ T TC_Back DC_Rule___init__) (F_Back___init__.binds (fun _ _ _ _ _ _ us hl=>by obtain⟨_,_,_,_,rfl⟩:=sG hl;rfl))
 have DM_Held:dZ l.prog w K mg base "Held" C_Held 2 ["self","row","voice","most"] (jk K C_Held):=B_Held___init__.df X G (qj F_Held___init__ T TC_Held DC_Rule___init__) (F_Held___init__.binds (fun _ _ _ _ _ _ us hl=>by obtain⟨_,_,_,_,rfl⟩:=sG hl;rfl))
 have DM_Times:dZ l.prog w K mg base "Times" C_Times 2 ["self","row","voice","note","fewest","most"] (iz K C_Times):=B_Times___init__.df X G (oz F_Times___init__ T TC_Times DC_Rule___init__) (F_Times___init__.binds (fun _ _ _ _ _ _ us hl=>by obtain⟨_,_,_,_,_,_,rfl⟩:=C4 hl;rfl))
 have DM_Begin:dZ l.prog w K mg base "Begin" C_Begin 2 ["self","row","voice","notes"] (ir K C_Begin):=B_Begin___init__.df X G (og F_Begin___init__ T TC_Begin DC_Rule___init__) (F_Begin___init__.binds (fun _ _ _ _ _ _ us hl=>by obtain⟨_,_,_,_,rfl⟩:=sG hl;rfl))
 have DM_Close:dZ l.prog w K mg base "Close" C_Close 2 ["self","row","voice","notes"] (iw K C_Close):=B_Close___init__.df X G (oj F_Close___init__ T TC_Close DC_Rule___init__) (F_Close___init__.binds (fun _ _ _ _ _ _ us hl=>by obtain⟨_,_,_,_,rfl⟩:=sG hl;rfl))
 have DM_Every:dZ l.prog w K mg base "Every" C_Every 2 ["self","row","turns","turn","inner"] (iy K C_Every):=B_Every___init__.df X G (om F_Every___init__ T TC_Every DC_Rule___init__) (F_Every___init__.binds (fun _ _ _ _ _ _ us hl=>by obtain⟨_,_,_,_,_,rfl⟩:=C0 hl;rfl))
 have D_is_number:bZ l.prog w K mg base "is_number" 1 ["word"] pK:=B_is_number.df X G (vW F_is_number T) (F_is_number.binds (fun _ _ _ _ _ _ us hl=>by obtain⟨_,rfl⟩:=ly hl;rfl))
 have D_has_list:bZ l.prog w K mg base "has_list" 1 ["numbers","ahead"] (dN K):=B_has_list.df X G (rW F_has_list T) (F_has_list.binds (fun _ _ _ _ _ _ us hl=>by obtain⟨_,_,rfl⟩:=sF hl;rfl))
 have D_are_voices:bZ l.prog w K mg base "are_voices" 1 ["numbers","voices"] (cb K):=B_are_voices.df X G (oB F_are_voices T) (F_are_voices.binds (fun _ _ _ _ _ _ us hl=>by obtain⟨_,_,rfl⟩:=sF hl;rfl))
 have O_span_of:aP l.prog w K mg base bY 4 f_span_of fd_span_of ["row","numbers","voices"] (j8 K C_Span):=tL F_span_of T (D_has_list.up (by decide)) (D_are_voices.up (by decide)) DM_Span
 have FA_span_of:eH l.prog w K mg base 4 f_span_of ["row","numbers","voices"] (j8 K C_Span):=⟨fd_span_of,O_span_of,F_span_of.kp,F_span_of.binds (fun _ _ _ _ _ _ us hl=>by obtain⟨_,_,_,rfl⟩:=jq hl;rfl)⟩
 have O_clock_of:aP l.prog w K mg base bY 4 f_clock_of fd_clock_of ["row","numbers","voices"] (iK K C_Clock):=rT F_clock_of T (D_has_list.up (by decide)) (D_are_voices.up (by decide)) DM_Clock
 have FA_clock_of:eH l.prog w K mg base 4 f_clock_of ["row","numbers","voices"] (iK K C_Clock):=⟨fd_clock_of,O_clock_of,F_clock_of.kp,F_clock_of.binds (fun _ _ _ _ _ _ us hl=>by obtain⟨_,_,_,rfl⟩:=jq hl;rfl)⟩
 have O_move_of:aP l.prog w K mg base bY 4 f_move_of fd_move_of ["row","numbers","voices"] (j5 K C_Move):=tJ F_move_of T (D_has_list.up (by decide)) (D_are_voices.up (by decide)) DM_Move
 have FA_move_of:eH l.prog w K mg base 4 f_move_of ["row","numbers","voices"] (j5 K C_Move):=⟨fd_move_of,O_move_of,F_move_of.kp,F_move_of.binds (fun _ _ _ _ _ _ us hl=>by obtain⟨_,_,_,rfl⟩:=jq hl;rfl)⟩
 have O_alike_of:aP l.prog w K mg base bY 4 f_alike_of fd_alike_of ["row","numbers","voices"] (iI K C_Alike):=rR F_alike_of T (D_has_list.up (by decide)) (D_are_voices.up (by decide)) DM_Alike
 have FA_alike_of:eH l.prog w K mg base 4 f_alike_of ["row","numbers","voices"] (iI K C_Alike):=⟨fd_alike_of,O_alike_of,F_alike_of.kp,F_alike_of.binds (fun _ _ _ _ _ _ us hl=>by obtain⟨_,_,_,rfl⟩:=jq hl;rfl)⟩
 have O_back_of:aP l.prog w K mg base bY 4 f_back_of fd_back_of ["row","numbers","voices"] (jZ K C_Back):=tH F_back_of T (D_are_voices.up (by decide)) DM_Back
 have FA_back_of:eH l.prog w K mg base 4 f_back_of ["row","numbers","voices"] (jZ K C_Back):=⟨fd_back_of,O_back_of,F_back_of.kp,F_back_of.binds (fun _ _ _ _ _ _ us hl=>by obtain⟨_,_,_,rfl⟩:=jq hl;rfl)⟩
 have O_held_of:aP l.prog w K mg base bY 4 f_held_of fd_held_of ["row","numbers","voices"] (j3 K C_Held):=tI F_held_of T (D_are_voices.up (by decide)) DM_Held
 have FA_held_of:eH l.prog w K mg base 4 f_held_of ["row","numbers","voices"] (j3 K C_Held):=⟨fd_held_of,O_held_of,F_held_of.kp,F_held_of.binds (fun _ _ _ _ _ _ us hl=>by obtain⟨_,_,_,rfl⟩:=jq hl;rfl)⟩
 have O_times_of:aP l.prog w K mg base bY 4 f_times_of fd_times_of ["row","numbers","voices"] (iM K C_Times):=rX F_times_of T (D_are_voices.up (by decide)) DM_Times
 have FA_times_of:eH l.prog w K mg base 4 f_times_of ["row","numbers","voices"] (iM K C_Times):=⟨fd_times_of,O_times_of,F_times_of.kp,F_times_of.binds (fun _ _ _ _ _ _ us hl=>by obtain⟨_,_,_,rfl⟩:=jq hl;rfl)⟩
 have O_begin_of:aP l.prog w K mg base bY 4 f_begin_of fd_begin_of ["row","numbers","voices"] (iJ K C_Begin):=rS F_begin_of T (D_has_list.up (by decide)) (D_are_voices.up (by decide)) DM_Begin
 have FA_begin_of:eH l.prog w K mg base 4 f_begin_of ["row","numbers","voices"] (iJ K C_Begin):=⟨fd_begin_of,O_begin_of,F_begin_of.kp,F_begin_of.binds (fun _ _ _ _ _ _ us hl=>by obtain⟨_,_,_,rfl⟩:=jq hl;rfl)⟩
 have O_close_of:aP l.prog w K mg base bY 4 f_close_of fd_close_of ["row","numbers","voices"] (iL K C_Close):=rV F_close_of T (D_has_list.up (by decide)) (D_are_voices.up (by decide)) DM_Close
 have FA_close_of:eH l.prog w K mg base 4 f_close_of ["row","numbers","voices"] (iL K C_Close):=⟨fd_close_of,O_close_of,F_close_of.kp,F_close_of.binds (fun _ _ _ _ _ _ us hl=>by obtain⟨_,_,_,rfl⟩:=jq hl;rfl)⟩
 have D_plain_rule:bZ l.prog w K mg base "plain_rule" 8 ["row","voices"] (j7 l.prog w K mg base a_MAKERS 7):=B_plain_rule.df X G (oF F_plain_rule T (D_is_number.up (by decide))) (F_plain_rule.binds (fun _ _ _ _ _ _ us hl=>by obtain⟨_,_,rfl⟩:=sF hl;rfl))
 have D_every_rule:bZ l.prog w K mg base "every_rule" 9 ["row","voices"] (mq l.prog w K mg base a_MAKERS C_Every 7):=B_every_rule.df X G (oC F_every_rule TE_INNER_KINDS q_INNER_KINDS (D_is_number.up (by decide)) D_plain_rule (DM_Every.up (by decide))) (F_every_rule.binds (fun _ _ _ _ _ _ us hl=>by obtain⟨_,_,rfl⟩:=sF hl;rfl))
 have O_read_rule:aP l.prog w K mg base bY 10 f_read_rule fd_read_rule ["text","voices","row"] (gh l.prog w K mg base):=vY (oH F_read_rule T (D_plain_rule.up (by decide))) (oG F_read_rule T (D_plain_rule.up (by decide)) D_every_rule) t_MAKERS (B5 d_MAKERS_span (FA_span_of.up (by decide)) (fun row a b D nv ha hb=>yr TC_Span (M_Span_size.up (by decide)) (M_Span_start.up (by decide)) (M_Span_closes.up (by decide)) ((M_Span_after row a b D nv ha hb).up (by decide))) d_MAKERS_clock (FA_clock_of.up (by decide)) (fun row a b c D nv ha hb hc=>vq TC_Clock (M_Clock_size.up (by decide)) (M_Clock_start.up (by decide)) (M_Clock_closes.up (by decide)) ((M_Clock_after row a b c D nv ha hb hc).up (by decide))) d_MAKERS_move (FA_move_of.up (by decide)) (fun row a D nv ha=>xJ TC_Move (M_Move_size.up (by decide)) (M_Move_start.up (by decide)) (M_Move_closes.up (by decide)) ((M_Move_after row a D nv ha).up (by decide))) d_MAKERS_alike (FA_alike_of.up (by decide)) (fun row a b D nv ha hb=>vg TC_Alike (M_Alike_size.up (by decide)) (M_Alike_start.up (by decide)) (M_Alike_closes.up (by decide)) ((M_Alike_after row a b D nv ha hb).up (by decide))) d_MAKERS_back (FA_back_of.up (by decide)) (fun row a c nv ha _=>wN TC_Back (M_Back_size.up (by decide)) (M_Back_start.up (by decide)) ((M_Back_closes row a c nv).up (by decide)) ((M_Back_after row a c nv ha).up (by decide))) d_MAKERS_held (FA_held_of.up (by decide)) (fun row a c nv ha c1=>xj c1 TC_Held ((M_Held_size row a c).up (by decide)) (M_Held_start.up (by decide)) (M_Held_closes.up (by decide)) ((M_Held_after row a c nv ha).up (by decide))) d_MAKERS_times (FA_times_of.up (by decide)) (fun row a c d e nv ha e1=>wy e1 TC_Times ((M_Times_size row a c d e).up (by decide)) (M_Times_start.up (by decide)) ((M_Times_closes row a c d e nv).up (by decide)) ((M_Times_after row a c d e nv ha).up (by decide))) d_MAKERS_begin (FA_begin_of.up (by decide)) (fun row a D nv ha=>vh TC_Begin (M_Begin_size.up (by decide)) (M_Begin_start.up (by decide)) (M_Begin_closes.up (by decide)) ((M_Begin_after row a D nv ha).up (by decide))) d_MAKERS_close (FA_close_of.up (by decide)) (fun row a D nv ha=>vv TC_Close (M_Close_size.up (by decide)) (M_Close_start.up (by decide)) (M_Close_after.up (by decide)) ((M_Close_closes row a D nv ha).up (by decide)))) (fun row t u nv Cn S RIn G ht R=>vD ht TC_Every R ((M_Every_size row t u RIn).up (by decide)) (M_Every_start.up (by decide)) (M_Every_closes.up (by decide)) ((M_Every_after row t u nv Cn S RIn G ht R).up (by decide)))
 have D_read_rule:bZ l.prog w K mg base "read_rule" 10 ["text","voices","row"] (gh l.prog w K mg base):=⟨f_read_rule,fd_read_rule,O_read_rule,PySem.W.mg_of X G B_read_rule.ns,F_read_rule.kp,F_read_rule.binds t_read_rule d_read_rule fun _ _ _ _ _ _ us hl=>match us,hl with | [_,_,_],_=>⟨_,rfl,rfl⟩⟩
 have DD_read_rule:ve l.prog w K mg base "read_rule" 10 ["text","voices","row"] (gh l.prog w K mg base) [(.int 0)]:=⟨f_read_rule,fd_read_rule,[u_read_rule],O_read_rule,PySem.W.mg_of X G B_read_rule.ns,F_read_rule.kp,F_read_rule.bindsD t_read_rule d_read_rule fun _ _ _ _ _ _ us hl=>match us,hl with | [_,_],_=>⟨_,rfl,rfl⟩,.cons r_read_rule .nil⟩
 have D_broken_at:bZ l.prog w K mg base "broken_at" 8 ["rule","line"] (nG l.prog w K mg base 7):=B_broken_at.df X G (qr F_broken_at T) (F_broken_at.binds (fun _ _ _ _ _ _ us hl=>by obtain⟨_,_,rfl⟩:=sF hl;rfl))
 have DM_Score:dZ l.prog w K mg base "Score" C_Score 1 ["self","ranges","rules"] (fP K C_Score):=B_Score___init__.df X G (ox F_Score___init__ T TC_Score) (F_Score___init__.binds (fun _ _ _ _ _ _ us hl=>by obtain⟨_,_,_,rfl⟩:=jq hl;rfl))
 have D_weight:bZ l.prog w K mg base "weight" 8 ["score"] (nM l.prog w K mg base):=B_weight.df X G (v5 F_weight T) (F_weight.binds (fun _ _ _ _ _ _ us hl=>by obtain⟨_,rfl⟩:=ly hl;rfl))
 have D_not_too_wide:bZ l.prog w K mg base "not_too_wide" 9 ["score"] (lh l.prog w K mg base):=B_not_too_wide.df X G (lP F_not_too_wide T D_weight) (F_not_too_wide.binds (fun _ _ _ _ _ _ us hl=>by obtain⟨_,rfl⟩:=ly hl;rfl))
 have D_first_outside:bZ l.prog w K mg base "first_outside" 1 ["low","high","voice","line"] (lj K):=B_first_outside.df X G (kG F_first_outside T) (F_first_outside.binds (fun _ _ _ _ _ _ us hl=>by obtain⟨_,_,_,_,rfl⟩:=sG hl;rfl))
 have D_fault:bZ l.prog w K mg base "fault" 9 ["score","line"] (mr l.prog w K mg base):=B_fault.df X G (xQ F_fault T (D_first_outside.up (by decide)) D_broken_at) (F_fault.binds (fun _ _ _ _ _ _ us hl=>by obtain⟨_,_,rfl⟩:=sF hl;rfl))
 have D_voice_range:bZ l.prog w K mg base "voice_range" 2 ["row"] (qT K):=B_voice_range.df X G (m9 F_voice_range T D_is_number) (F_voice_range.binds (fun _ _ _ _ _ _ us hl=>by obtain⟨_,rfl⟩:=ly hl;rfl))
 have D_read:bZ l.prog w K mg base "read" 11 ["text"] (qQ l.prog w K mg base C_Score):=B_read.df X G (zu F_read T TC_Score (D_voice_range.up (by decide)) D_read_rule (DM_Score.up (by decide)) (D_not_too_wide.up (by decide))) (F_read.binds (fun _ _ _ _ _ _ us hl=>by obtain⟨_,rfl⟩:=ly hl;rfl))
 have D_law_stirred:bZ l.prog w K mg base "_law_stirred" 1 ["_law_cell","_law_place"] ll:=B_law_stirred.df X G (tM F_law_stirred T) (F_law_stirred.binds (fun _ _ _ _ _ _ us hl=>by obtain⟨_,_,rfl⟩:=sF hl;rfl))
 have D_law_got:bZ l.prog w K mg base "_law_got" 2 ["_law_script","_law_place"] (lJ K):=B_law_got.df X G (A3 F_law_got T D_law_stirred) (F_law_got.binds (fun _ _ _ _ _ _ us hl=>by obtain⟨_,_,rfl⟩:=sF hl;rfl))
 have D_law_cells:bZ l.prog w K mg base "_law_cells" 3 ["_law_script","_law_first","_law_last"] (qO K):=B_law_cells.df X G (xP F_law_cells T D_law_got) (F_law_cells.binds (fun _ _ _ _ _ _ us hl=>by obtain⟨_,_,_,rfl⟩:=jq hl;rfl))
 have D_law_ranges:bZ l.prog w K mg base "_law_ranges" 3 ["_law_script"] (nJ K):=B_law_ranges.df X G (vX F_law_ranges T D_law_got) (F_law_ranges.binds (fun _ _ _ _ _ _ us hl=>by obtain⟨_,rfl⟩:=ly hl;rfl))
 have D_law_size:bZ l.prog w K mg base "_law_size" 1 ["_law_rule_here"] (ug K):=B_law_size.df X G (zx F_law_size T) (F_law_size.binds (fun _ _ _ _ _ _ us hl=>by obtain⟨_,rfl⟩:=ly hl;rfl))
 have D_law_some:bZ l.prog w K mg base "_law_some" 1 ["_law_values","_law_bits"] (qS K):=B_law_some.df X G (zy F_law_some T) (F_law_some.binds (fun _ _ _ _ _ _ us hl=>by obtain⟨_,_,rfl⟩:=sF hl;rfl))
 have D_law_spans:bZ l.prog w K mg base "_law_spans" 1 ["_law_ranges_here","_law_a","_law_b"] (mx K):=B_law_spans.df X G (xS F_law_spans T) (F_law_spans.binds (fun _ _ _ _ _ _ us hl=>by obtain⟨_,_,_,rfl⟩:=jq hl;rfl))
 have D_law_single:bZ l.prog w K mg base "_law_single" 2 ["_law_cell","_law_bits","_law_ranges_here"] (nK K):=B_law_single.df X G (v3 F_law_single T D_law_some D_law_spans) (F_law_single.binds (fun _ _ _ _ _ _ us hl=>by obtain⟨_,_,_,rfl⟩:=jq hl;rfl))
 have D_law_rule:bZ l.prog w K mg base "_law_rule" 3 ["_law_cell","_law_bits","_law_ranges_here"] (uf K):=B_law_rule.df X G (zw F_law_rule T D_law_single (D_law_some.up (by decide)) (D_law_spans.up (by decide))) (F_law_rule.binds (fun _ _ _ _ _ _ us hl=>by obtain⟨_,_,_,rfl⟩:=jq hl;rfl))
 have D_law_rules:bZ l.prog w K mg base "_law_rules" 4 ["_law_script","_law_ranges_here"] (qR K):=B_law_rules.df X G (xR F_law_rules T (D_law_got.up (by decide)) D_law_rule (D_law_size.up (by decide))) (F_law_rules.binds (fun _ _ _ _ _ _ us hl=>by obtain⟨_,_,rfl⟩:=sF hl;rfl))
 have D_law_text:bZ l.prog w K mg base "_law_text" 1 ["_law_ranges_here","_law_rules_here"] (uh K):=B_law_text.df X G (zA F_law_text T) (F_law_text.binds (fun _ _ _ _ _ _ us hl=>by obtain⟨_,_,rfl⟩:=sF hl;rfl))
 have D_law_one_column:bZ l.prog w K mg base "_law_one_column" 1 ["_law_rule_here","_law_column_here"] (j6 K):=B_law_one_column.df X G (oE F_law_one_column T) (F_law_one_column.binds (fun _ _ _ _ _ _ us hl=>by obtain⟨_,_,rfl⟩:=sF hl;rfl))
 have D_law_two_columns:bZ l.prog w K mg base "_law_two_columns" 1 ["_law_rule_here","_law_line_here","_law_at"] (iN K):=B_law_two_columns.df X G (m8 F_law_two_columns T) (F_law_two_columns.binds (fun _ _ _ _ _ _ us hl=>by obtain⟨_,_,_,rfl⟩:=jq hl;rfl))
 have D_law_one_voice:bZ l.prog w K mg base "_law_one_voice" 1 ["_law_rule_here","_law_notes","_law_at"] (jm K):=B_law_one_voice.df X G (qu F_law_one_voice T) (F_law_one_voice.binds (fun _ _ _ _ _ _ us hl=>by obtain⟨_,_,_,rfl⟩:=jq hl;rfl))
 have D_law_broken:bZ l.prog w K mg base "_law_broken" 2 ["_law_rule_here","_law_line_here","_law_at"] (jj K):=B_law_broken.df X G (vT F_law_broken T D_law_one_column D_law_two_columns D_law_one_voice) (F_law_broken.binds (fun _ _ _ _ _ _ us hl=>by obtain⟨_,_,_,rfl⟩:=jq hl;rfl))
 have D_law_badly_closed:bZ l.prog w K mg base "_law_badly_closed" 1 ["_law_rule_here","_law_line_here"] (qN K):=B_law_badly_closed.df X G (xO F_law_badly_closed T) (F_law_badly_closed.binds (fun _ _ _ _ _ _ us hl=>by obtain⟨_,_,rfl⟩:=sF hl;rfl))
 have D_law_row_at:bZ l.prog w K mg base "_law_row_at" 3 ["_law_ranges_here","_law_rules_here","_law_line_here","_law_at"] (mw K):=B_law_row_at.df X G (vZ F_law_row_at T D_law_broken) (F_law_row_at.binds (fun _ _ _ _ _ _ us hl=>by obtain⟨_,_,_,_,rfl⟩:=sG hl;rfl))
 have D_law_fault:bZ l.prog w K mg base "_law_fault" 4 ["_law_ranges_here","_law_rules_here","_law_line_here"] (j0 K):=B_law_fault.df X G (vV F_law_fault T D_law_row_at (D_law_badly_closed.up (by decide))) (F_law_fault.binds (fun _ _ _ _ _ _ us hl=>by obtain⟨_,_,_,rfl⟩:=jq hl;rfl))
 have D_law_column:bZ l.prog w K mg base "_law_column" 1 ["_law_ranges_here","_law_number"] (qP K):=B_law_column.df X G (vU F_law_column T) (F_law_column.binds (fun _ _ _ _ _ _ us hl=>by obtain⟨_,_,rfl⟩:=sF hl;rfl))
 have D_law_line:bZ l.prog w K mg base "_law_line" 4 ["_law_script","_law_ranges_here","_law_rules_here"] (nH K):=B_law_line.df X G (zr F_law_line T (D_law_got.up (by decide)) D_law_cells (D_law_column.up (by decide)) D_law_row_at) (F_law_line.binds (fun _ _ _ _ _ _ us hl=>by obtain⟨_,_,_,rfl⟩:=jq hl;rfl))
 have D_law_alike:bZ l.prog w K mg base "_law_alike" 1 ["_law_found","_law_due"] (iH K):=B_law_alike.df X G (xN F_law_alike T) (F_law_alike.binds (fun _ _ _ _ _ _ us hl=>by obtain⟨_,_,rfl⟩:=sF hl;rfl))
 exact A4 B_law.fn T TC_Score (D_law_ranges.up (by decide)) (D_law_rules.up (by decide)) (D_law_line.up (by decide)) D_read (D_law_text.up (by decide)) (D_law_alike.up (by decide)) (D_fault.up (by decide)) (D_law_fault.up (by decide)) (DM_Score.up (by decide)) (DD_read_rule.up (by decide))
theorem walk{l:PySem.W.OpenLaw}{q:Program}{loose:List Str}{XP:(Str→Option Value)→Heap→Prop}{YP:World→Heap→Prop}{d:DefRec}{K:Params→PySem.W.Frag}(hn:l.most=some 63)(hdf:d.params.defaults=[])
  (hY:∀(w:World) (h:Heap),YP w h→(K w.params).In h)
  (F:∀(w:World) (mg:Str→Option Value) (fa:Addr) (h:Heap),(K w.params).In h→h.Ns mainGlobals mg→mg d.name=some (.ref fa)→
   ∃fd:FuncData,(∀(s:Shared) (u:Value),BindsTo s fd ⟨[u],[]⟩ [("_law_script",u)])∧∀base:Heap,(K w.params).In base→base.Ns mainGlobals mg→aP l.prog w (K w.params) mg base bY 12 fa fd ["_law_script"] (u5 (K w.params))) :
  PySem.W.WalkO q loose XP YP l.row.toRowW d [] (fun f vs=>PySem.call f vs):=
 L2.walk_ofB (n:=63) (k:=12) (x:="_law_script") (CX:=fun _=>bY) (sp:=fun w=>u5 (K w.params)) hn (by decide) hdf ⟨rfl,by decide,by decide⟩ hY F (fun _ _ a ns hl hb _ hS=>⟨a,ns,rfl,hS,hb,hl,fun _=>rfl⟩) fun _ _ _ _ _ z=>z
end K23
namespace PySem.W.Fast
def tw15553773623652670562:=0
def tw4754049602594791311:=0
def tw10127767880099879868:=0
def tw15308005182642430539:=0
def tw6413771436121810430:=0
def tw17272504376543675627:=0
def tw4644416755067210327:=0
def tw9594912934825307369:=0
def tw13921531764028076609:=0
def tw15381193888942285403:=0
def tw795509148703374002:=0
def tw11490633939601409639:=0
def tw13663125371926198098:=0
def tw16458925621711422091:=0
def tw16269266026543190586:=0
def tw12567153100960114324:=0
def tw3655262255123374548:=0
def tw5365581522203197600:=0
def tw11764571492851909309:=0
def tw17584399662440183928:=0
def tw3343931010460907510:=0
def tw9505238910385579642:=0
def tw8033067956114413163:=0
def tw14520751265293197699:=0
def tw10098698568198767667:=0
def tw9346995542153247439:=0
def tw11622204334106308770:=0
def tw13728524598356416962:=0
def tw11162406727812527528:=0
def tw1646906443214804789:=0
def tw14508526282500210510:=0
def tw9561315006157237634:=0
def tw13965229300966695886:=0
def tw6839769700590642774:=0
def tw12280726447778682075:=0
def tw16272425306579427079:=0
def tw1027979352180219538:=0
def tw3838335701270228730:=0
def tw15568334015563647135:=0
def tw2334092702816773846:=0
def tw7090740135350600213:=0
def tw3176417366560602737:=0
def tw14049408344599333310:=0
def tw13035879450699050945:=0
def tw653806127628862525:=0
def tw14817613866580523202:=0
def tw5140382824033875194:=0
def tw3178467584634936177:=0
def tw9944988215004041809:=0
def tw1277278509719153621:=0
def tw9999255955479950342:=0
def tw9616987770123051857:=0
def tw15630322306405578639:=0
def tw8613777091801137217:=0
def tw2435314426749392555:=0
def tw10455735177245209157:=0
def tw14708700990325637477:=0
def tw3475152601814435203:=0
def tw3994996151146266491:=0
def tw3142747352974245527:=0
def tw8490837745211088515:=0
def tw6069467629253232986:=0
def tw2316486752625141585:=0
def tw11401509694163264416:=0
def tw18078598380090197036:=0
def tw10564972879770032632:=0
def tw16498316870368756794:=0
def tw13746385640682074048:=0
def tw11321540753519160931:=0
def tw2063139306230860958:=0
def tw7172221572820197005:=0
def tw6331594533505774646:=0
def tw17574778333358366677:=0
def tw6613113502082166305:=0
def tw15583931232416815486:=0
def tw15882061380499508286:=0
def tw11389794180036574074:=0
def tw10480842019291951723:=0
def tw15133627234273557893:=0
def tw6461238405617514333:=0
def tw3855491121541488070:=0
def tw13437184314354860297:=0
def tw9509424637240650714:=0
def tw4896488403506206849:=0
def tw2590316235443226964:=0
def tw11306708801532278221:=0
def tw14537080845921363233:=0
def tw6616124405638901885:=0
def tw6296867659552166855:=0
def tw1511774366009795003:=0
def tw1874569766204847228:=0
def tw5489221143928777590:=0
def tw16450454106378253397:=0
def tw1864386610096127938:=0
def tw5554381059644201300:=0
def tw5531588152724113872:=0
def tw5014260393923102289:=0
def tw8273035549447568678:=0
def tw846520845809224752:=0
def tw575881453017823676:=0
def tw5661899033215092462:=0
def tw6860790442543986365:=0
def tw12445625855773949954:=0
def tw14360380271142302560:=0
def tw14723181508451397842:=0
def tw8212803293055371963:=0
def tw11359190867095728942:=0
def tw13035080094685946168:=0
def tw2529796793712596941:=0
def tw2455725830924546111:=0
def tw16595329191569046354:=0
def tw3732352122674531606:=0
def tw6249028611895301320:=0
def tw9563113786345949363:=0
def tw6386125638703373586:=0
def tw1844291375899980364:=0
def tw11263541588298418865:=0
def tw6914760123187677066:=0
def tw15892572154950869678:=0
def tw1348067504445011308:=0
def tw3232906748197909010:=0
def tw3304057300153079084:=0
def tw3181142964102632492:=0
def tw8839888029567760581:=0
def tw17394195060141348086:=0
def tw15901953204325995266:=0
def tw6968142449375352027:=0
def tw17700293994292541961:=0
def tw5932282481690631757:=0
def tw6284478907465132910:=0
def tw7531987803842521014:=0
def tw15065662019779641527:=0
def tw10162386614118188415:=0
def tw12516927480659689755:=0
def tw9621864651829296540:=0
def tw3253576192093561323:=0
def tw14695839921967212912:=0
def tw17255654037798715843:=0
def tw337325515320819004:=0
def tw14262151291106502494:=0
def tw9350166083920373017:=0
def tw12244457902672357097:=0
def tw283043810023681865:=0
def tw9316288871569770812:=0
def tw4752006547361905809:=0
def tw6326802074178385778:=0
def tw268051150044339281:=0
def tw14131507475147080254:=0
def tw17074678671361615136:=0
def tw3461110070450470831:=0
def tw9292527942406536543:=0
def tw4459083723018638841:=0
def tw13140525744197396906:=0
def tw8495112410566179712:=0
def tw5014415147558501765:=0
def tw16579824454994179441:=0
def tw517070490613394524:=0
def tw6308497172017632002:=0
def tw10538879838233430580:=0
def tw16672223082195880478:=0
def tw1571143441064351927:=0
def tw2943065627005367:=0
def tw2012036610684128056:=0
def tw10583444360276490565:=0
def tw17366398837177569790:=0
def tw14795421684646655848:=0
def tw17494369013109124060:=0
def tw219161342364725358:=0
def tw10822248107726182826:=0
def tw10092984090108513871:=0
def tw1511295625030143426:=0
def tw4227999513392097947:=0
def tw9629404962163116986:=0
def tw2482773510261754934:=0
def tw1470412376564651784:=0
def tw10937269376115742661:=0
def tw16663974750426325934:=0
def tw16410484716382374942:=0
def tw5355853499897991528:=0
def tw17581995582775707200:=0
def tw7868647740214161311:=0
def tw12442938961321956586:=0
def tw8947300256672554360:=0
def tw18257189272254279931:=0
def tw3151394660358213679:=0
def tw4530578719207000475:=0
def tw8773075232434749754:=0
def tw3329991650637571834:=0
def tw2307594169431950601:=0
def tw383402441199417045:=0
def tw11848110754458281630:=0
def tw3668521807535673909:=0
def tw11557319943650208501:=0
def tw12443153083616645244:=0
def tw4011646515213327991:=0
def tw9277550216036115718:=0
def tw1794897374031967273:=0
def tw3591692782597357598:=0
def tw17688274622819657942:=0
def tw1344656149574436568:=0
def tw2054028304045098750:=0
def tw4901872507153327578:=0
def tw1552747676260328692:=0
def tw9079980474789016043:=0
def tw13919009625695171202:=0
def tw11337244109681519159:=0
def tw10674110875606778313:=0
def tw1183216271099779886:=0
def tw12999939252259885836:=0
def tw9158286553111315332:=0
def tw13407012328622246463:=0
def tw8726390310537935578:=0
def tw7462975801792196950:=0
def tw5167515568332916434:=0
def tw14014180602632515167:=0
def tw16381016363059003863:=0
def tw8196406473630316092:=0
def tw7625106293142286314:=0
def tw2124826738509208298:=0
def tw1956650554199715618:=0
def tw15886870286021461539:=0
def tw203355557937354521:=0
def tw867566941129018812:=0
def tw7003387051278911821:=0
def tw11874290669248658557:=0
def tw667826957524644808:=0
def tw8241305215912292912:=0
def tw1915510115732190501:=0
def tw12618573022899605384:=0
def tw3842383134086250712:=0
def tw4504878137985877400:=0
def tw5428758626841683121:=0
def tw960016104134554755:=0
def tw1976541786961793308:=0
def tw13632244166933209585:=0
def tw12895418792360583325:=0
def tw16165617530031644157:=0
def tw1720501971963139173:=0
def tw499256307732327333:=0
def tw11487677332385528847:=0
def tw9775268571842252449:=0
def tw12703594352695215503:=0
def tw6067812628504137191:=0
def tw13230256160167203506:=0
def tw12788609105414823159:=0
def tw7009304296664589988:=0
def tw14388222474112491985:=0
def tw10914779273716616238:=0
def tw3710098390263658468:=0
def tw1089239155265689358:=0
def tw2584571393993447427:=0
def tw980882703373277402:=0
def tw10785485547283973168:=0
def tw12573078273018276962:=0
def tw11911146414459310161:=0
def tw186335907410540097:=0
def tw11693978222956262989:=0
def tw9301832007151548219:=0
def tw847345543298223592:=0
def tw11170418787323290644:=0
def tw13526736767187431569:=0
def tw11478900362960534391:=0
def tw14331347497870487550:=0
def tw9611148224799429311:=0
def tw4394839896799810624:=0
def tw2080646052867748680:=0
def tw8846279689319244896:=0
def tw12292570380384593635:=0
def tw6947709094937773083:=0
def tw14470850540135198508:=0
def tw5655180820303870636:=0
def tw7452811745353957061:=0
def tw17184323066818479394:=0
def tw1715180242186245880:=0
def tw2650036376646781513:=0
def tw5351732290070379070:=0
def tw3442885337874711836:=0
def tw17684324303947214487:=0
def tw14764935347102743097:=0
def tw919475767701668102:=0
def tw14763844381158385012:=0
def tw7439208622400211802:=0
def tw9473499108495964017:=0
def tw3919597710276838312:=0
def tw9999459529626279214:=0
def tw4165425670360621724:=0
def tw11871581665229042262:=0
def tw17921147865860534746:=0
def tw5964145745228104943:=0
def tw3118950064893762898:=0
def tw16410792938446965942:=0
def tw14760432552333205746:=0
def tw4612177093915354856:=0
def tw3440648503770980049:=0
def tw17509213987720172163:=0
def tw7004048077978585847:=0
def tw5970346362889202293:=0
def tw10463906459277063643:=0
def tw15342829458210370749:=0
def tw6014253268718206879:=0
def tw16274384816603527255:=0
def tw12414306208066763708:=0
def tw11203738141923683041:=0
def tw16278341559424253688:=0
def tw7675289431209664607:=0
def tw2969140349392139559:=0
def tw14629167467297701035:=0
def tw6439340982927482424:=0
def tw16471828070426698721:=0
def tw8039990935598553270:=0
def tw4645602346406987741:=0
def tw14952163094800484155:=0
def tw9501384758400988281:=0
def tw2740369025039226233:=0
def tw10042559775925641838:=0
def tw5661761558827876501:=0
def tw7748892451093042517:=0
def tw11597490948493993124:=0
def tw10205582887889514991:=0
def tw3731289566817925297:=0
def tw2080788391906753447:=0
def tw2365320288416471264:=0
def tw673270342329422858:=0
def tw8824480404078149300:=0
def tw740416121109610731:=0
def tw4375960774762054768:=0
def tw751978268531934284:=0
def tw13740993923938639296:=0
def tw5009364521171804265:=0
def tw15982584606115480566:=0
def tw12684492325347322431:=0
def tw1766931371820198072:=0
def tw13879970649787897535:=0
def tw5763792944376892569:=0
def tw13024275261796580247:=0
def tw8419749217733335981:=0
def tw8316514341858647333:=0
def tw12461960823366589726:=0
def tw12434883311555994607:=0
def tw11061649159128004499:=0
def tw2920088110554904222:=0
def tw1655692653421214631:=0
def tw8206080696150485356:=0
def tw10965021827611184604:=0
def tw1810353395191572408:=0
def tw9383719050775942052:=0
def tw8462470636297619985:=0
def tw16791144841190513702:=0
def tw8567647538162556366:=0
def tw9146627625144644158:=0
def tw17065131673395496192:=0
def tw13505730775560099109:=0
def tw7830698905268811848:=0
def tw5692592678614826539:=0
def tw2208584536713698604:=0
def tw12676541584513617550:=0
def tw16880866125791753084:=0
def tw15793395394639121509:=0
def tw14242120586033557806:=0
def tw5304938044710862983:=0
def tw4571316339449052393:=0
def tw4321817918201182840:=0
def tw15021509497694947869:=0
def tw12941334334749581028:=0
def tw10599067712833987619:=0
def tw9837998323065424948:=0
def tw2926895442316040435:=0
def tw17344732255157833613:=0
def tw10180700599805574940:=0
def tw14131042617042020780:=0
def tw8730360958329454450:=0
def tw3665838294905962193:=0
def tw2471115337569392886:=0
def tw17876776484321852625:=0
def tw14624420863491746219:=0
def tw14320756175908362240:=0
def tw13456075521056009514:=0
def tw11210715373876141889:=0
def tw10805666447509456777:=0
def tw7554146307408057416:=0
def tw11478141880483814715:=0
def tw3724312690195968181:=0
def tw6274272676450513288:=0
def tw17976090109051482370:=0
def tw8766200983633168004:=0
def tw17370213418535335581:=0
def tw1372107279331711699:=0
def tw15962883474916150595:=0
def tw3584185812460720624:=0
def tw312685039317641847:=0
def tw2170818074370417257:=0
def tw8517641035625487990:=0
def tw16779558831077131262:=0
def tw13148031161605448003:=0
def tw8663414921631355341:=0
def tw8424243459342201002:=0
def tw7719136129445663360:=0
def tw10751987835857713207:=0
def tw4893117728302330567:=0
def tw9949238730729156659:=0
def tw13745125070061721240:=0
def tw6894385180482246717:=0
def tw13739954623197817852:=0
def tw12366414215011253970:=0
def tw420540289590107032:=0
def tw11280930873014085161:=0
def tw8610622932211682233:=0
def tw5482813108445641288:=0
def tw15509395193557302211:=0
def tw7638352609122866798:=0
def tw6451285393396961324:=0
def tw18403777882891641366:=0
def tw16796900852748291036:=0
def tw11378846692392851319:=0
def tw11098946687859003747:=0
def tw11009680270247459801:=0
def tw12145879530109733089:=0
def tw1966267288861638577:=0
def tw18404351706284991723:=0
def tw17204501931682303053:=0
def tw402666710126090105:=0
def tw3010921374134294645:=0
def tw15237805957972367219:=0
def tw117794761604955571:=0
def tw4405518127966679169:=0
def tw10321047320399147917:=0
def tw9557266099891453511:=0
def tw2942416424265943705:=0
def tw14353026364028601595:=0
def tw16786846533844347982:=0
def tw6041072955951557124:=0
def tw14751766406280161884:=0
def tw3878191725473737465:=0
def tw6569324434184527060:=0
def tw16955563879788566395:=0
def tw4973736837623525434:=0
def tw1653398775322807638:=0
def tw14921546064443651136:=0
def tw14168318820666182990:=0
def tw14048949817002027234:=0
def tw13862643733068936277:=0
def tw12851570532263368734:=0
def tw11690636234552702262:=0
def tw10733918935575575431:=0
def tw8788238468903551028:=0
def tw7771050176645025701:=0
def tw10737473310297851584:=0
def tw10177836827917793155:=0
def tw5663014395242513128:=0
def tw5237607631203583372:=0
def tw223524196360093988:=0
def tw8622027751106166202:=0
def tw11239939360735381741:=0
def tw10715567784732358209:=0
def tw7312368176265716553:=0
def tw2538389477560729202:=0
def tw16244291092627036025:=0
def tw15545692592545702072:=0
def tw3965720589159783860:=0
def tw17937415744540666195:=0
def tw15143286425633277705:=0
def tw8392674297011245514:=0
def tw8014467958974018228:=0
def tw8411979445006723846:=0
def tw6515371689923083188:=0
def tw596132817694623570:=0
def tw2029503248278231543:=0
def tw15705636087921324743:=0
def tw11013187060996845687:=0
def tw7565923367468535296:=0
def tw5971218909635449056:=0
def tw4764415389041532978:=0
def tw2314319347706846903:=0
def tw3067606743004233040:=0
def tw13537893631096248230:=0
def tw7634128142672852248:=0
def tw6762189504867467711:=0
def tw1854129496033705731:=0
def tw13558399455285307319:=0
def tw5402698883810056908:=0
def tw17167816704338818410:=0
def tw10764989900729587325:=0
def tw2125607303596911042:=0
def tw14684161117634186633:=0
def tw7414788622702836156:=0
def tw5400084422292450683:=0
def tw10076162684048567750:=0
def tw9221538821026868688:=0
def tw8569452206810453910:=0
def tw9564215889220674297:=0
def tw8831164283601623600:=0
def tw5533161815030386174:=0
def tw17538102824040221316:=0
def tw15662233975969284438:=0
def tw15232606086375428752:=0
def tw1128462123047285278:=0
def tw10900488051676523351:=0
def tw16961662802778187025:=0
def tw14951250886236859502:=0
def tw11849743096896250856:=0
def tw904750604975449679:=0
def tw8749371910604087820:=0
def tw8053075668275404017:=0
def tw2056079536638292187:=0
def tw18206405906930285334:=0
def tw17260072482928061751:=0
def tw16947570032934757192:=0
def tw16028195249349918620:=0
def tw15906565182686697187:=0
def tw13769463870382875208:=0
def tw12129041409749316178:=0
def tw1195148360046542077:=0
def tw11066601958037284537:=0
def tw10300720397373133289:=0
def tw10258759303944872856:=0
def tw10450698690547573642:=0
def tw9168915382319596740:=0
def tw8498365757949947406:=0
def tw821097270707191532:=0
def tw5171176195239253283:=0
def tw374416447567226248:=0
def tw2374145740999120968:=0
def tw2329315117002574752:=0
def tw17761398094821859027:=0
def tw17206745767812560968:=0
def tw15508651696874848744:=0
def tw15398072402841661272:=0
def tw14960124006658566221:=0
def tw14212469537280426640:=0
def tw1209075681062455846:=0
def tw10352368489167880306:=0
def tw8377615016658024508:=0
def tw4743521023558677473:=0
def tw8700990333559716821:=0
def tw6809651593690943887:=0
def tw6593993497639587963:=0
def tw3785723768840272067:=0
def tw3616734126485437083:=0
def tw3572276341705282137:=0
def tw2142439831103269180:=0
def tw16916515083528914087:=0
def tw14579438771161453649:=0
def tw13484413825698815829:=0
def tw12687341874139215089:=0
def tw12448876322618704534:=0
def tw6180341010390180630:=0
def tw5640138183254586216:=0
def tw2835334917958446246:=0
def tw2774736381026026887:=0
def tw2226876634719999649:=0
def tw2158835221130070692:=0
def tw17699994707297315517:=0
def tw15967959278877618987:=0
def tw15428817497106975827:=0
def tw12516276130805125987:=0
def tw11678691030197230417:=0
def tw11539857665519490072:=0
def tw1137661906482030256:=0
def tw10571857204185991936:=0
def tw10047624030131279610:=0
def tw9884394596647060473:=0
def tw9801548599209686790:=0
def tw9669229286343514340:=0
def tw9565141146593722323:=0
def tw9247943758126747457:=0
def tw8974983109223921947:=0
def tw8869411388103695406:=0
def tw8854148107550333210:=0
def tw8827045503828453914:=0
def tw8786259330807989238:=0
def tw8745932488505532690:=0
def tw8600599160994335237:=0
def tw8575546841364476788:=0
def tw8521083721617069735:=0
def tw8445658346969211865:=0
def tw8435939338640683187:=0
def tw8401212540242587638:=0
def tw8325149007380145113:=0
def tw8268682299830589647:=0
def tw8223120123058903187:=0
def tw8176535772402144534:=0
def tw8126045640083427514:=0
def tw8017002523439990615:=0
def tw7999316905193071068:=0
def tw792211051411768939:=0
def tw79197066323878603:=0
def tw7899737353320481249:=0
def tw7810139712973396353:=0
def tw7767144832534717602:=0
def tw7432453260711782235:=0
def tw7230878402516364643:=0
def tw7064845267813374898:=0
def tw6980332106776767948:=0
def tw6740858781253693327:=0
def tw6583893846597122123:=0
def tw6454922262187300252:=0
def tw6392492856450340167:=0
def tw6329854827094759249:=0
def tw6245146910040030914:=0
def tw624222619347619422:=0
def tw6175313972815103827:=0
def tw6152065225460728305:=0
def tw6074046246974745299:=0
def tw5993737345729386473:=0
def tw5967154812340502799:=0
def tw5911073182858380129:=0
def tw5775176985312112773:=0
def tw5748289878747997218:=0
def tw5718084311663381464:=0
def tw5530159149640818855:=0
def tw5450536674691199740:=0
def tw5247582145695139741:=0
def tw5167873188964281477:=0
def tw5094019605307887675:=0
def tw5049399419692085422:=0
def tw5040598441853705635:=0
def tw4953072733601233796:=0
def tw4819181137888297776:=0
def tw4601744825812236465:=0
def tw4350205302875966393:=0
def tw4346158466725384097:=0
def tw4331497638038249302:=0
def tw4274189488585476393:=0
def tw402037964338473962:=0
def tw4015279777745673180:=0
def tw3835546843736402956:=0
def tw3787788805676368851:=0
def tw3626854700091414828:=0
def tw3600986380415132044:=0
def tw3542899589031368575:=0
def tw3523859549810364210:=0
def tw3474961113047144421:=0
def tw3422352026998812939:=0
def tw3326251831548700972:=0
def tw3317763763349142910:=0
def tw3236954129492552248:=0
def tw3209161043929894585:=0
def tw309765788974247175:=0
def tw2866788402339384336:=0
def tw2842155111479017838:=0
def tw2815046461049245127:=0
def tw2808265880603350475:=0
def tw2562077354343892189:=0
def tw2549875318723967898:=0
def tw2461595516771905276:=0
def tw2443569905910887999:=0
def tw2398500570921145768:=0
def tw2099925236510945421:=0
def tw18434494851311565220:=0
def tw18371658758852225285:=0
def tw18216096975120595272:=0
def tw18198179074647809634:=0
def tw18025255311635571802:=0
def tw1802209285688275665:=0
def tw17847379385641859751:=0
def tw1775415511058793521:=0
def tw17747467591252491367:=0
def tw1742411567374161041:=0
def tw17421998251502372223:=0
def tw17226393928953765008:=0
def tw16892107595004596401:=0
def tw16821442046081275069:=0
def tw16761480693799327864:=0
def tw16547000295294368859:=0
def tw1635964102551465997:=0
def tw16257529813217820645:=0
def tw16242825407769674724:=0
def tw16181502576637153417:=0
def tw16064827493482894845:=0
def tw16033378918816632457:=0
def tw15807025860305269219:=0
def tw15682093061783647435:=0
def tw15657870341366479207:=0
def tw15612033556432671399:=0
def tw15364844019389403855:=0
def tw15363603319945956327:=0
def tw15327836758129965474:=0
def tw15316063583899204143:=0
def tw15291812626765081318:=0
def tw15282102061288698782:=0
def tw15265364227939654501:=0
def tw15261354219139947495:=0
def tw15238350589342725007:=0
def tw15093139721627315996:=0
def tw15017542487870951587:=0
def tw1486196187828505426:=0
def tw14833102216942985125:=0
def tw14561237770936634768:=0
def tw14550984446362946842:=0
def tw1444783232100175473:=0
def tw14339291601922453040:=0
def tw14252154212131685053:=0
def tw14206270128487666749:=0
def tw1411717268686170781:=0
def tw14089702158583257041:=0
def tw14084251154183816859:=0
def tw14055286175878930240:=0
def tw14035498870664115564:=0
def tw1393904609895483356:=0
def tw13905641967854412302:=0
def tw13849871414037369428:=0
def tw13607361761761799641:=0
def tw13583328896588798397:=0
def tw13409390399466072738:=0
def tw1329839624550066752:=0
def tw13176739210575223991:=0
def tw13115720858545205514:=0
def tw12856492571175371893:=0
def tw12853026726675579062:=0
def tw12599149301030475348:=0
def tw12554807262519579809:=0
def tw1254336169121143919:=0
def tw1245080488126289860:=0
def tw12433456554492814256:=0
def tw12363487831928285217:=0
def tw12278545652592131552:=0
def tw12254822687709304526:=0
def tw12033645372584733342:=0
def tw11860071168250441188:=0
def tw11823919684576133613:=0
def tw11806534629407854292:=0
def tw11649036995900251060:=0
def tw11632835703558322834:=0
def tw11586306979495759281:=0
def tw11391972199596082471:=0
def tw11350515950577558493:=0
def tw11337964840315946143:=0
def tw11078399803604731087:=0
def tw10959233138756208695:=0
def tw10943031024087043537:=0
def tw10737784704339990317:=0
def tw1071163804514785582:=0
def tw10520665817353856563:=0
def tw1046433336625328073:=0
def tw10461914571188998540:=0
def tw1029261036403503899:=0
def tw10271837055071760382:=0
end PySem.W.Fast
local macro_rules | `(tactic| walk_at "h0") => `(tactic| (refine' L2.methAt_mk ?a ?i ?l ?c ?k; (case a=>k_is); (case i=>k_is); (case l=>k_is); (case c=>k_is); (case k=>k_is)))
local macro_rules | `(tactic| walk_at "h1") => `(tactic| (refine' L2.defAt_mk ?a ?l ?c ?k; (case a=>k_is); (case l=>k_is); (case c=>k_is); (case k=>k_is)))
local macro_rules | `(tactic| walk_at "h2") => `(tactic| (refine' L2.mkAt_mk ?n ?m ?a ?i ?kc ?l ?c ?k; (case n=>k_is); (case m=>k_is); (case a=>k_is); (case i=>k_is); (case kc=>k_is); (case l=>k_is); (case c=>k_is); (case k=>k_is)))
local macro_rules | `(tactic| walk_at "h3") => `(tactic| (refine'⟨?a,L2.fun_mk ?l ?c ?k⟩; (case a=>k_is); (case l=>k_is); (case c=>k_is); (case k=>k_is)))
local macro_rules | `(tactic| walk_at "h4") => `(tactic| (refine' L2.const_mk ?e ?r; (case e=>k_is); (case r=>exact⟨_,by with_unfolding_all rfl⟩)))
local macro_rules | `(tactic| walk_at "h5") => `(tactic| (refine'⟨⟨?a,?b,?c,?d⟩,?f0,?f1,?f2⟩; (case a=>k_is); (case b=>k_is); (case c=>k_is); (case d=>k_is); (case f0=>delta L2.NoAttr;k_is); (case f1=>delta L2.NoAttr;k_is); (case f2=>delta L2.NoAttr;k_is)))
local macro_rules | `(tactic| walk_at "h6") => `(tactic| (refine'⟨⟨?a,?b,?c,?d⟩,?f0,?f1,?f2,?f3⟩; (case a=>k_is); (case b=>k_is); (case c=>k_is); (case d=>k_is); (case f0=>delta L2.NoAttr;k_is); (case f1=>delta L2.NoAttr;k_is); (case f2=>delta L2.NoAttr;k_is); (case f3=>delta L2.NoAttr;k_is)))
open PySem PySem.W PyProof.Rows
set_option maxRecDepth 100000 in
set_option maxHeartbeats 0 in
theorem PySem.Challenge.cw_fourvoices_k23_the_fault_of_a_line_holds : PySem.Challenge.rw_fourvoices_k23_the_fault_of_a_line.Holds := by
 w_on;o_law;k_head;(case hw=>w_witness2)
 k_fill
 refine K23.walk (l:=PySem.Challenge.rw_fourvoices_k23_the_fault_of_a_line) rfl rfl (fun w h Y=>PySem.W.kIn_of Y) ?F
 case F=>
  intro w mg fa h KX G hmg
  refine' K23.all_mk KX G hmg ?n_Span ?TC_Span ?n_Clock ?TC_Clock ?n_Move ?TC_Move ?n_Alike ?TC_Alike ?n_Back ?TC_Back ?n_Held ?TC_Held ?n_Times ?TC_Times ?n_Begin ?TC_Begin ?n_Close ?TC_Close ?n_Every ?TC_Every ?n_Score ?TC_Score ?A_note_in ?A_span ?A_move ?A_Rule___init__ ?A_Span_size ?A_Span_start ?A_Span_closes ?A_Clock_size ?A_Clock_start ?A_Clock_closes ?A_Move_size ?A_Move_start ?A_Move_closes ?A_Alike_size ?A_Alike_start ?A_Alike_closes ?A_Begin_size ?A_Begin_start ?A_Begin_closes ?A_Close_size ?A_Close_start ?A_Held_start ?A_Held_closes ?A_Times_start ?A_Every_start ?A_Every_closes ?A_Close_after ?A_Back_size ?A_Back_start ?A_Held_size ?A_Times_size ?A_Every_size ?A_Span_after ?A_Clock_after ?A_Move_after ?A_Alike_after ?A_Back_closes ?A_Back_after ?A_Held_after ?A_Times_closes ?A_Times_after ?A_Begin_after ?A_Close_closes ?A_Every_after ?A_Span___init__ ?A_Clock___init__ ?A_Move___init__ ?A_Alike___init__ ?A_Back___init__ ?A_Held___init__ ?A_Times___init__ ?A_Begin___init__ ?A_Close___init__ ?A_Every___init__ ?A_is_number ?A_has_list ?A_are_voices ?B_span_of ?B_clock_of ?B_move_of ?B_alike_of ?B_back_of ?B_held_of ?B_times_of ?B_begin_of ?B_close_of ?A_plain_rule ?A_every_rule ?A_read_rule ?A_broken_at ?A_Score___init__ ?A_weight ?A_not_too_wide ?A_first_outside ?A_fault ?A_voice_range ?A_read ?A_law_stirred ?A_law_got ?A_law_cells ?A_law_ranges ?A_law_size ?A_law_some ?A_law_spans ?A_law_single ?A_law_rule ?A_law_rules ?A_law_text ?A_law_one_column ?A_law_two_columns ?A_law_one_voice ?A_law_broken ?A_law_badly_closed ?A_law_row_at ?A_law_fault ?A_law_column ?A_law_line ?A_law_alike ?n_MAKERS ?t_MAKERS ?d_MAKERS_span ?d_MAKERS_clock ?d_MAKERS_move ?d_MAKERS_alike ?d_MAKERS_back ?d_MAKERS_held ?d_MAKERS_times ?d_MAKERS_begin ?d_MAKERS_close ?n_INNER_KINDS ?q_INNER_KINDS ?z_len ?z_range ?z_all ?z_min ?z_max ?z_abs ?z_tuple ?z_list ?z_isinstance ?z_bool ?z_int ?z_str ?z_divmod ?z_enumerate ?g_FIGURES ?g_MOST_FIGURES ?g_MOST_VOICES ?g_MOST_RULES ?g_MOST_WEIGHT ?g_MOST_NUMBERS ?g_NO_LEAP ?g_LEAP_UP ?g_LEAP_DOWN ?A_law
  (case n_Span=>k_is)
  (case TC_Span=>walk_at "h6")
  (case n_Clock=>k_is)
  (case TC_Clock=>(refine'⟨⟨?a_3,?b_3,?c_3,?d_3⟩,?f0_3,?f1_3,?f2_3,?f3_3,?f4_3⟩;(case a_3=>k_is);(case b_3=>k_is);(case c_3=>k_is);(case d_3=>k_is);(case f0_3=>delta L2.NoAttr;k_is);(case f1_3=>delta L2.NoAttr;k_is);(case f2_3=>delta L2.NoAttr;k_is);(case f3_3=>delta L2.NoAttr;k_is);(case f4_3=>delta L2.NoAttr;k_is)))
  (case n_Move=>k_is)
  (case TC_Move=>walk_at "h5")
  (case n_Alike=>k_is)
  (case TC_Alike=>walk_at "h6")
  (case n_Back=>k_is)
  (case TC_Back=>walk_at "h5")
  (case n_Held=>k_is)
  (case TC_Held=>walk_at "h5")
  (case n_Times=>k_is)
  (case TC_Times=>(refine'⟨⟨?a_13,?b_13,?c_13,?d_13⟩,?f0_13,?f1_13,?f2_13,?f3_13,?f4_13⟩;(case a_13=>k_is);(case b_13=>k_is);(case c_13=>k_is);(case d_13=>k_is);(case f0_13=>delta L2.NoAttr;k_is);(case f1_13=>delta L2.NoAttr;k_is);(case f2_13=>delta L2.NoAttr;k_is);(case f3_13=>delta L2.NoAttr;k_is);(case f4_13=>delta L2.NoAttr;k_is)))
  (case n_Begin=>k_is)
  (case TC_Begin=>walk_at "h5")
  (case n_Close=>k_is)
  (case TC_Close=>walk_at "h5")
  (case n_Every=>k_is)
  (case TC_Every=>walk_at "h6")
  (case n_Score=>k_is)
  (case TC_Score=>(refine'⟨⟨?a_21,?b_21,?c_21,?d_21⟩,?f0_21,?f1_21⟩;(case a_21=>k_is);(case b_21=>k_is);(case c_21=>k_is);(case d_21=>k_is);(case f0_21=>delta L2.NoAttr;k_is);(case f1_21=>delta L2.NoAttr;k_is)))
  (case A_note_in=>walk_at "h1")
  (case A_span=>walk_at "h1")
  (case A_move=>walk_at "h1")
  (case A_Rule___init__=>(refine' L2.cmethAt_mk ?n_25 ?r_25 ?a_25 ?g_25 ?l_25 ?c_25 ?k_25;(case n_25=>k_is);(case r_25=>k_is);(case a_25=>k_is);(case g_25=>k_is);(case l_25=>k_is);(case c_25=>k_is);(case k_25=>k_is)))
  (case A_Span_size=>walk_at "h0")
  (case A_Span_start=>walk_at "h0")
  (case A_Span_closes=>walk_at "h0")
  (case A_Clock_size=>walk_at "h0")
  (case A_Clock_start=>walk_at "h0")
  (case A_Clock_closes=>walk_at "h0")
  (case A_Move_size=>walk_at "h0")
  (case A_Move_start=>walk_at "h0")
  (case A_Move_closes=>walk_at "h0")
  (case A_Alike_size=>walk_at "h0")
  (case A_Alike_start=>walk_at "h0")
  (case A_Alike_closes=>walk_at "h0")
  (case A_Begin_size=>walk_at "h0")
  (case A_Begin_start=>walk_at "h0")
  (case A_Begin_closes=>walk_at "h0")
  (case A_Close_size=>walk_at "h0")
  (case A_Close_start=>walk_at "h0")
  (case A_Held_start=>walk_at "h0")
  (case A_Held_closes=>walk_at "h0")
  (case A_Times_start=>walk_at "h0")
  (case A_Every_start=>walk_at "h0")
  (case A_Every_closes=>walk_at "h0")
  (case A_Close_after=>walk_at "h0")
  (case A_Back_size=>walk_at "h0")
  (case A_Back_start=>walk_at "h0")
  (case A_Held_size=>walk_at "h0")
  (case A_Times_size=>walk_at "h0")
  (case A_Every_size=>walk_at "h0")
  (case A_Span_after=>walk_at "h0")
  (case A_Clock_after=>walk_at "h0")
  (case A_Move_after=>walk_at "h0")
  (case A_Alike_after=>walk_at "h0")
  (case A_Back_closes=>walk_at "h0")
  (case A_Back_after=>walk_at "h0")
  (case A_Held_after=>walk_at "h0")
  (case A_Times_closes=>walk_at "h0")
  (case A_Times_after=>walk_at "h0")
  (case A_Begin_after=>walk_at "h0")
  (case A_Close_closes=>walk_at "h0")
  (case A_Every_after=>walk_at "h0")
  (case A_Span___init__=>walk_at "h2")
  (case A_Clock___init__=>walk_at "h2")
  (case A_Move___init__=>walk_at "h2")
  (case A_Alike___init__=>walk_at "h2")
  (case A_Back___init__=>walk_at "h2")
  (case A_Held___init__=>walk_at "h2")
  (case A_Times___init__=>walk_at "h2")
  (case A_Begin___init__=>walk_at "h2")
  (case A_Close___init__=>walk_at "h2")
  (case A_Every___init__=>walk_at "h2")
  (case A_is_number=>walk_at "h1")
  (case A_has_list=>walk_at "h1")
  (case A_are_voices=>walk_at "h1")
  (case B_span_of=>walk_at "h3")
  (case B_clock_of=>walk_at "h3")
  (case B_move_of=>walk_at "h3")
  (case B_alike_of=>walk_at "h3")
  (case B_back_of=>walk_at "h3")
  (case B_held_of=>walk_at "h3")
  (case B_times_of=>walk_at "h3")
  (case B_begin_of=>walk_at "h3")
  (case B_close_of=>walk_at "h3")
  (case A_plain_rule=>walk_at "h1")
  (case A_every_rule=>walk_at "h1")
  (case A_read_rule=>(refine' L2.defAtD_mk2 ?a_90 ?l_90 ?c_90 ?k_90 ?t_90 ?d_90 ?r_90;(case a_90=>k_is);(case l_90=>k_is);(case c_90=>k_is);(case k_90=>k_is);(case t_90=>k_is);(case d_90=>rfl);(case r_90=>exact⟨_,rfl⟩)))
  (case A_broken_at=>walk_at "h1")
  (case A_Score___init__=>walk_at "h2")
  (case A_weight=>walk_at "h1")
  (case A_not_too_wide=>walk_at "h1")
  (case A_first_outside=>walk_at "h1")
  (case A_fault=>walk_at "h1")
  (case A_voice_range=>walk_at "h1")
  (case A_read=>walk_at "h1")
  (case A_law_stirred=>walk_at "h1")
  (case A_law_got=>walk_at "h1")
  (case A_law_cells=>walk_at "h1")
  (case A_law_ranges=>walk_at "h1")
  (case A_law_size=>walk_at "h1")
  (case A_law_some=>walk_at "h1")
  (case A_law_spans=>walk_at "h1")
  (case A_law_single=>walk_at "h1")
  (case A_law_rule=>walk_at "h1")
  (case A_law_rules=>walk_at "h1")
  (case A_law_text=>walk_at "h1")
  (case A_law_one_column=>walk_at "h1")
  (case A_law_two_columns=>walk_at "h1")
  (case A_law_one_voice=>walk_at "h1")
  (case A_law_broken=>walk_at "h1")
  (case A_law_badly_closed=>walk_at "h1")
  (case A_law_row_at=>walk_at "h1")
  (case A_law_fault=>walk_at "h1")
  (case A_law_column=>walk_at "h1")
  (case A_law_line=>walk_at "h1")
  (case A_law_alike=>walk_at "h1")
  (case n_MAKERS=>k_is)
  (case t_MAKERS=>(refine' L2.tab_mk ?l_121 ?s_121 ?x_121 ?y_121 ?z_121 ?d_121 ?r_121;(case l_121=>k_is);(case s_121=>rfl);(case x_121=>rfl);(case y_121=>rfl);(case z_121=>rfl);(case d_121=>rfl);(case r_121=>exact(L2.rowsR rfl rfl (L2.rowsR rfl rfl (L2.rowsR rfl rfl (L2.rowsR rfl rfl (L2.rowsR rfl rfl (L2.rowsR rfl rfl (L2.rowsR rfl rfl (L2.rowsR rfl rfl (L2.rowsR rfl rfl .nil))))))))))))
  (case d_MAKERS_span=>with_unfolding_all rfl)
  (case d_MAKERS_clock=>with_unfolding_all rfl)
  (case d_MAKERS_move=>with_unfolding_all rfl)
  (case d_MAKERS_alike=>with_unfolding_all rfl)
  (case d_MAKERS_back=>with_unfolding_all rfl)
  (case d_MAKERS_held=>with_unfolding_all rfl)
  (case d_MAKERS_times=>with_unfolding_all rfl)
  (case d_MAKERS_begin=>with_unfolding_all rfl)
  (case d_MAKERS_close=>with_unfolding_all rfl)
  (case n_INNER_KINDS=>k_is)
  (case q_INNER_KINDS=>(refine' L2.ktup_mk ?l_132 ?x_132 ?d_132 ?z_132 ?r_132;(case l_132=>k_is);(case x_132=>rfl);(case d_132=>rfl);(case z_132=>decide);(case r_132=>exact(.cons ⟨_,rfl⟩ (.cons ⟨_,rfl⟩ .nil)))))
  (case z_len=>k_is)
  (case z_range=>k_is)
  (case z_all=>k_is)
  (case z_min=>k_is)
  (case z_max=>k_is)
  (case z_abs=>k_is)
  (case z_tuple=>k_is)
  (case z_list=>k_is)
  (case z_isinstance=>k_is)
  (case z_bool=>k_is)
  (case z_int=>k_is)
  (case z_str=>k_is)
  (case z_divmod=>k_is)
  (case z_enumerate=>k_is)
  (case g_FIGURES=>walk_at "h4")
  (case g_MOST_FIGURES=>walk_at "h4")
  (case g_MOST_VOICES=>walk_at "h4")
  (case g_MOST_RULES=>walk_at "h4")
  (case g_MOST_WEIGHT=>walk_at "h4")
  (case g_MOST_NUMBERS=>walk_at "h4")
  (case g_NO_LEAP=>walk_at "h4")
  (case g_LEAP_UP=>walk_at "h4")
  (case g_LEAP_DOWN=>walk_at "h4")
  (case A_law=>walk_at "h1")
