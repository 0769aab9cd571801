import PyProof.Rows.All
import Wide.All
import OpenK.AllK
import Wide.FinOn
import Lean
import PyProof.EqAt
import PyProof.EqKinds
import PyProof.TupleCall
import KE.KTab
import KE.KRevSl
import PyProof.Rows.Range3
import PyProof.WalkInts
import PyProof.Rows.StrSplitMax
import KE.KMinKey
import PyProof.LongRange
import PyProof.ListRange
import PyProof.ExcClass3
import PyProof.InstStore
import PyProof.StationsW
import PyProof.ExcQuiet
import PyProof.RulesTry
import PyProof.ExcArgsOwn
import PyProof.DictRoadsH
import Wide.Seal
import KE.KRevIter
import PyProof.SumAny
import KE.KTryMore
import PyProof.SeqI3
import PyProof.DictTable
import PySem.Challenge.RW_fourvoices_k19_rows_read
set_option Elab.async false
set_option linter.all false
set_option maxRecDepth 100000
abbrev aa0:=@Bool.false_ne_true
abbrev aa1:=@List.length_map
abbrev aa2:=@PySem.Heap.get?_push_of_some
abbrev aa3:=@Nat.le_refl
abbrev aa4:=@List.size_toArray
abbrev aa5:=@Nat.lt_of_le_of_lt
abbrev aa6:=@Nat.lt_of_lt_of_le
abbrev aa7:=@Nat.le_trans
abbrev aa8:=@List.length_cons
abbrev aa9:=@PySem.Heap.lt_size
abbrev ab0:=@List.mem_append_right
abbrev ab1:=@Nat.zero_le
abbrev ab2:=@List.mem_cons_of_mem
abbrev ab3:=@List.mem_cons_self
abbrev ab4:=@Nat.ne_of_lt
abbrev ab5:=@List.getElem?_eq_some_iff
abbrev ab6:=@PySem.Heap.get?_push_size
abbrev ab7:=@List.mem_cons
abbrev ab8:=@List.getElem?_eq_getElem
abbrev ab9:=@List.length_append
abbrev ac0:=@Bool.and_eq_true
abbrev ac1:=@List.map_cons
abbrev ac2:=@List.mem_append
abbrev ac3:=@List.take_succ_cons
abbrev ac4:=@List.getD_eq_getElem?_getD
abbrev ac5:=@List.getElem?_map
abbrev ac6:=@List.all_cons
abbrev ac7:=@List.mem_of_getElem?
abbrev ac8:=@Int.emod_nonneg
abbrev ac9:=@List.map_append
abbrev ad0:=@List.length_take
abbrev ad1:=@List.replicate_succ
abbrev ad2:=@Nat.succ_le_succ
abbrev ad3:=@Int.emod_lt_of_pos
abbrev ad4:=@Int.eq_ofNat_of_zero_le
abbrev ad5:=@List.map_take
abbrev ad6:=@PySem.Heap.get?_update_other
abbrev ad7:=@List.take_add_one
abbrev ad8:=@List.take_zero
abbrev ad9:=@Nat.le_succ_of_le
abbrev ae0:=@List.length_drop
abbrev ae1:=@List.lookup_cons
abbrev ae2:=@Nat.lt_irrefl
abbrev ae3:=@List.length_eq_zero_iff
abbrev ae4:=@List.length_nil
abbrev ae5:=@List.take_of_length_le
abbrev ae6:=@Bool.and_true
abbrev ae7:=@List.all_eq_true
abbrev ae8:=@List.take_length
abbrev ae9:=@Bool.false_eq_true
abbrev af0:=@List.getElem?_drop
abbrev af1:=@Array.getElem?_eq_some_iff
abbrev af2:=@List.append_nil
abbrev af3:=@List.append_assoc
abbrev af4:=@List.all_nil
abbrev af5:=@List.getElem?_set_self
abbrev af6:=@List.contains_cons
abbrev af7:=@Bool.eq_iff_iff
abbrev af8:=@PySem.Heap.get?_update_self
abbrev af9:=@List.flatten_cons
abbrev ag0:=@List.mem_append_left
abbrev ag1:=@List.getElem?_append_right
abbrev ag2:=@List.drop_eq_nil_iff
abbrev ag3:=@List.mem_map
abbrev ag4:=@List.getElem?_append_left
abbrev ag5:=@List.foldl_cons
abbrev ag6:=@List.forIn_cons
abbrev ag7:=@Bool.or_eq_true
abbrev ag8:=@Nat.ne_of_gt
abbrev ag9:=@Bool.false_and
abbrev ah0:=@List.all_map
abbrev ah1:=@List.drop_drop
abbrev ah2:=@Bool.or_true
abbrev ah3:=@Nat.lt_succ_self
abbrev ah4:=@PySem.Heap.get?_none_of_le
abbrev ah5:=@List.getElem?_set_ne
abbrev ah6:=@List.nodup_cons
abbrev ah7:=@List.nil_append
abbrev ah8:=@Option.map_some
abbrev ah9:=@List.filterMap_cons
abbrev ai0:=@Array.length_toList
abbrev ai1:=@Int.toNat_of_nonneg
abbrev ai2:=@Nat.le_of_lt
abbrev ai3:=@List.mem_filterMap
abbrev ai4:=@List.mem_singleton
abbrev ai5:=@Int.toNat_natCast
abbrev ai6:=@Array.size_append
abbrev ai7:=@Nat.min_eq_right
abbrev ai8:=@Nat.succ_mul
abbrev ai9:=@Nat.mul_comm
abbrev aj0:=@List.map_nil
abbrev aj1:=@Nat.not_lt
abbrev aj2:=@Nat.add_zero
abbrev aj3:=@List.of_mem_zip
abbrev aj4:=@List.length_set
abbrev aj5:=@Nat.min_eq_left
abbrev aj6:=@List.all_append
abbrev aj7:=@Nat.le_succ
open PySem.W (instObj Frag findIn isFn emptyDict keepIn mroIn kitOne kia_one callWith_K fnOf codeIn nsIn mg_of nsOkIn mg_none_of)
namespace L2
open PySem PySem.Spec PyProof.Rows
abbrev nK:=Sum Int Str
def xH:nK→Value→Bool
 | .inl k,v=>Value.isInt k v
 | .inr x,v=>Value.isStrOf x v
def Az(w:World):nK→Int
 | .inl k=>hashInt k
 | .inr x=>hashStr w x
theorem bO:∀{k:nK} {v:Value},xH k v=true→(∃i t,k=Sum.inl i∧v=Value.int i t)∨(∃x t,k=Sum.inr x∧v=Value.str x t)
 | .inl i,v,h=>by
  obtain⟨t,e⟩:=Value.isInt_shape (k:=i) (v:=v) h;exact .inl ⟨i,t,rfl,e⟩
 | .inr x,v,h=>by
  obtain⟨t,e⟩:=Value.isStrOf_shape (x:=x) (v:=v) h;exact .inr ⟨x,t,rfl,e⟩
theorem yh(a b:Int):decide ((Sum.inl a:nK)=Sum.inl b)=(a == b):=by
 by_cases e:a=b
 ·subst e;simp
 ·have h:¬(Sum.inl a:nK)=Sum.inl b:=fun q=>e (Sum.inl.inj q)
  rw [decide_eq_false h];exact(beq_eq_false_iff_ne.mpr e).symm
theorem yk(a b:Str):decide ((Sum.inr a:nK)=Sum.inr b)=decide (a=b):=by
 by_cases e:a=b
 ·subst e;simp
 ·have h:¬(Sum.inr a:nK)=Sum.inr b:=fun q=>e (Sum.inr.inj q)
  rw [decide_eq_false h,decide_eq_false e]
theorem yi(a:Int)(b:Str):decide ((Sum.inl a:nK)=Sum.inr b)=false:=decide_eq_false (fun q=>nomatch q)
theorem yj(a:Str)(b:Int):decide ((Sum.inr a:nK)=Sum.inl b)=false:=decide_eq_false (fun q=>nomatch q)
def mH(prog:Program)(w:World):PySem.KeyKind prog w nK where
 is:=xH
 hash:=Az w
 inj:=fun v a b ha hb=>by
  rcases bO ha with⟨i,t,rfl,rfl⟩ | ⟨x,t,rfl,rfl⟩
  ·rcases bO hb with⟨j,u,rfl,e⟩ | ⟨y,u,rfl,e⟩
   ·injection e with e1 _;rw [e1]
   ·exact nomatch e
  ·rcases bO hb with⟨j,u,rfl,e⟩ | ⟨y,u,rfl,e⟩
   ·exact nomatch e
   ·injection e with e1 _;rw [e1]
 byValue:=fun k v h=>by
  rcases bO h with⟨i,t,rfl,rfl⟩ | ⟨x,t,rfl,rfl⟩<;>rfl
 pyHash:=fun hv h=>by
  rcases bO hv with⟨i,t,rfl,rfl⟩ | ⟨x,t,rfl,rfl⟩
  ·exact wpAny_pyHash_int h
  ·exact wpAny_pyHash_str h
 eqBool:=fun hu hv h=>by
  rcases bO hu with⟨i,t,rfl,rfl⟩ | ⟨x,t,rfl,rfl⟩
  ·rcases bO hv with⟨j,u,rfl,rfl⟩ | ⟨y,u,rfl,rfl⟩
   ·rw [yh]at h;exact wpAny_eqBool_int h
   ·rw [yi]at h;exact SeqAt.EqAt.int_str i t y u _ _ _ _ h
  ·rcases bO hv with⟨j,u,rfl,rfl⟩ | ⟨y,u,rfl,rfl⟩
   ·rw [yj]at h;exact SeqAt.EqAt.str_int x t j u _ _ _ _ h
   ·rw [yk]at h;exact wpAny_eqBool_str h
 «strs»:=fun k x t v h=>by
  rcases bO h with⟨i,u,rfl,e⟩ | ⟨y,u,rfl,e⟩
  ·exact nomatch e
  ·injection e with e1 _
   subst e1
   cases v<;>rfl
end L2
namespace L2
open PySem PySem.Spec PyProof.Rows
inductive V where
 | non | bl (b:Bool) | int (i:Int) | str (x:Str) | byt (b:Array UInt8) | flt (b:UInt64) | ref (a:Addr) | ty (n:String)
 deriving DecidableEq
def aQ:V→Value→Prop
 | .non,u=>u=Value.none
 | .bl b,u=>u=Value.bool b
 | .int i,u=>∃t,u=Value.int i t
 | .str x,u=>∃t,u=Value.str x t
 | .byt b,u=>∃t,u=Value.bytes b t
 | .flt b,u=>∃t,u=Value.float b t
 | .ref a,u=>u=Value.ref a
 | .ty n,u=>u=Value.type n
abbrev aS:List V→List Value→Prop:=Paired aQ
theorem aS.length{xs:List V}{us:List Value}(r:aS xs us):xs.length=us.length:=Paired.length r
theorem aS.get:∀{xs:List V} {us:List Value} {i:Nat} {x:V},aS xs us→xs[i]?=some x→∃u,us[i]?=some u∧aQ x u
 | _,_,_,_,.nil,e=>by simp at e
 | _,_,0,_,.cons r _,e=>by simp at e;subst e;exact⟨_,rfl,r⟩
 | _,_,i+1,x,.cons _ t,e=>by
  obtain⟨u,h1,h2⟩:=aS.get (i:=i) (x:=x) t (by simpa using e);exact⟨u,by simpa using h1,h2⟩
theorem aS.set{x:V}{u:Value}(r:aQ x u):∀{xs:List V} {us:List Value} (i:Nat),aS xs us→aS (xs.set i x) (us.set i u)
 | _,_,_,.nil=>.nil
 | _,_,0,.cons _ t=>.cons r t
 | _,_,i+1,.cons q t=>.cons q (aS.set r i t)
theorem aS.append:∀{xs ys:List V} {us ws:List Value},aS xs us→aS ys ws→aS (xs++ys) (us++ws)
 | _,_,_,_,.nil,s=>s
 | _,_,_,_,.cons r t,s=>.cons r (aS.append t s)
theorem aS.take:∀{xs:List V} {us:List Value} (n:Nat),aS xs us→aS (xs.take n) (us.take n)
 | _,_,0,_=>.nil
 | _,_,_+1,.nil=>.nil
 | _,_,n+1,.cons r t=>.cons r (aS.take n t)
theorem aS.drop:∀{xs:List V} {us:List Value} (n:Nat),aS xs us→aS (xs.drop n) (us.drop n)
 | _,_,0,r=>r
 | _,_,_+1,.nil=>.nil
 | _,_,n+1,.cons _ t=>aS.drop n t
def gQ:Option V→Option Value→Prop
 | some v,some u=>aQ v u
 | none,none=>True
 | _,_=>False
def KV{κ:Type}:List (κ×V)→List (κ×Value)→Prop:=Paired fun(p:κ×V) (q:κ×Value)=>p.1=q.1∧aQ p.2 q.2
def kV:nK→V
 | .inl i=>.int i
 | .inr x=>.str x
inductive HO where
 | lst (xs:List V)
 | tup (xs:List V)
 | dK (kvs:List (nK×V)) | dT (kvs:List (List nK×V))
 | set (S:Int→Bool) (n:Nat)
 | ins (C dx:Addr) (fs:List (Str×V))
 | own (x:Addr)
 | xd (fs:List (Str×V))
 | met (f x:Addr)
 | rng (lo hi:Int)
 | frz (o:Obj) (u:HO)
 | tbl (ps:Array Value)
 | ext (φ:Heap→Prop)
abbrev Hp:=Addr→Option HO
def upd(H:Hp)(a:Addr)(o:HO):Hp:=fun b=>if b=a then some o else H b
theorem af{H:Hp}{a:Addr}{o:HO}:upd H a o a=some o:=by unfold upd;rw [if_pos rfl]
theorem aj{H:Hp}{a b:Addr}{o:HO}(h:b≠a):upd H a o b=H b:=by unfold upd;rw [if_neg h]
theorem bB{H:Hp}{a:Addr}{o u:HO}:upd (upd H a o) a u=upd H a u:=by
 funext b;unfold upd;split<;>rfl
theorem xI{H:Hp}{a b:Addr}{o u:HO}(h:H a=some o)(h':H b=some u)(d:o≠u):a≠b:=by
 intro e;subst e;rw [h]at h';exact d (Option.some.inj h')
theorem ar{H:Hp}{a b:Addr}{o:HO}(h:H a=some o)(h':H b=none):a≠b:=by
 intro e;subst e;rw [h]at h';cases h'
section
variable (P:Program) (w:World)
def bT(H:Hp)(h:Heap)(a:Addr):HO→Prop
 | .lst xs=>xs.length≤sizeLine∧∃(its:List Value) (n:Nat),aS xs its∧h.get? a=some { cls:=.type "list",data:=.seq its.toArray n }
 | .tup xs=>xs.length≤sizeLine∧∃its:List Value,aS xs its∧IsTup h a its.toArray
 | .dK kvs=>kvs.length≤sizeLine∧(a == sysModules)=false∧∃vs,KV kvs vs∧h.DictOf (mH P w) a vs
 | .dT kvs=>kvs.length≤sizeLine∧(a == sysModules)=false∧∃xs:List (List nK×Addr×Value),
   Paired (fun(p:List nK×V) (q:List nK×Addr×Value)=>p.1=q.1∧H q.2.1=some (.tup (p.1.map kV))∧aQ p.2 q.2.2) kvs xs∧
   ∃o es ep,h.get? a=some o∧o.ExactDict∧o.data=.dict es ep∧es.toList=xs.map (entryOfKey (tupleKind (mH P w)))∧(xs.map (·.1)).Nodup
 | .set S n=>h.SetOf (intKind P w) a S n
 | .ins C dx fs=>H dx=some (.own a)∧fs.length≤1000∧dx≠a∧h.get? a=some (instObj C dx)∧
   ∃mA,h.Ns1 dx mA∧(∀f,gQ (fs.lookup f) (mA f))∧PySem.Within mA (fs.map (·.1))
 | .own _=>∃o,h.get? a=some o
 | .xd fs=>∃mA,h.Ns1 a mA∧∀f,gQ (fs.lookup f) (mA f)
 | .rng lo hi=>∃t u v,h.get? a=some { cls:=.type "range",data:=.fields #[.int lo t,.int hi u,.int 1 v] }
 | .frz o u=>h.get? a=some o∧bT H h a u
 | .tbl ps=>h.get? a=some { cls:=.none,data:=.fields ps }
 | .met f x=>h.get? a=some (PySem.W.methodObj (.ref f) (.ref x))
 | .ext φ=>φ h∧(∃o,h.get? a=some o)∧∀h1 h2:Heap,φ h1→(∀o,h1.get? a=some o→h2.get? a=some o)→φ h2
def gk(H:Hp)(h:Heap):Prop:=∀a o,H a=some o→bT P w H h a o
end
section
variable {P:Program} {w:World} {H H':Hp} {h h':Heap} {a:Addr} {o:HO}
theorem bT.lt(x:bT P w H h a o):a < h.objs.size:=by
 cases o with
 | lst xs=>obtain⟨_,_,_,_,e⟩:=x;exact aa9 e
 | tup xs=>obtain⟨_,_,_,p⟩:=x;exact p.lt
 | dK kvs=>obtain⟨_,_,_,_,o,_,_,e,_⟩:=x;exact aa9 e
 | dT kvs=>obtain⟨_,_,_,_,o,_,_,e,_⟩:=x;exact aa9 e
 | set S n=>obtain⟨o,_,_,_,e,_⟩:=x;exact aa9 e
 | ins C dx fs=>obtain⟨_,_,_,e,_⟩:=x;exact aa9 e
 | own y=>obtain⟨_,e⟩:=x;exact aa9 e
 | xd fs=>obtain⟨_,⟨_,_,_,e,_⟩,_⟩:=x;exact aa9 e
 | rng lo hi=>obtain⟨_,_,_,e⟩:=x;exact aa9 e
 | frz ob u=>obtain⟨e,_⟩:=x;exact aa9 e
 | tbl ps=>exact aa9 (show h.get? a=some _ from x)
 | met f y=>exact aa9 (show h.get? a=some _ from x)
 | ext φ=>obtain⟨_,⟨_,e⟩,_⟩:=x;exact aa9 e
theorem Paired.mapP{α β:Type}{F G:α→β→Prop}:∀{l₁:List α} {l₂:List β},Paired F l₁ l₂→(∀a b,F a b→G a b)→Paired G l₁ l₂
 | _,_,.nil,_=>.nil
 | _,_,.cons r t,f=>.cons (f _ _ r) (Paired.mapP t f)
theorem bT.stay(x:bT P w H h a o)(k:∀b u,(b=a∨H b=some (.own a))→h.get? b=some u→h'.get? b=some u)
  (ho:∀b,H b=some (.own a)→H' b=some (.own a)) (ht:∀b xs,H b=some (.tup xs)→H' b=some (.tup xs)):bT P w H' h' a o:=by
 induction o with
 | lst xs=>obtain⟨z,its,n,r,e⟩:=x;exact⟨z,its,n,r,k _ _ (.inl rfl) e⟩
 | tup xs=>obtain⟨z,its,r,ob,e,c⟩:=x;exact⟨z,its,r,ob,k _ _ (.inl rfl) e,c⟩
 | dK kvs=>obtain⟨z,y,vs,r,ob,es,ep,e,c⟩:=x;exact⟨z,y,vs,r,ob,es,ep,k _ _ (.inl rfl) e,c⟩
 | dT kvs=>
  obtain⟨z,y,xs,r,ob,es,ep,e,c⟩:=x;exact⟨z,y,xs,Paired.mapP r fun p q z=>⟨z.1,ht _ _ z.2.1,z.2.2⟩,ob,es,ep,k _ _ (.inl rfl) e,c⟩
 | set S n=>obtain⟨ob,es,ep,t,e,c⟩:=x;exact⟨ob,es,ep,t,k _ _ (.inl rfl) e,c⟩
 | ins C dx fs=>
  obtain⟨d,z,ne,e,mA,⟨od,es,ep,e2,c⟩,r⟩:=x;exact⟨ho _ d,z,ne,k _ _ (.inl rfl) e,mA,⟨od,es,ep,k _ _ (.inr d) e2,c⟩,r⟩
 | own y=>obtain⟨ob,e⟩:=x;exact⟨ob,k _ _ (.inl rfl) e⟩
 | xd fs=>obtain⟨mA,⟨od,es,ep,e,c⟩,r⟩:=x;exact⟨mA,⟨od,es,ep,k _ _ (.inl rfl) e,c⟩,r⟩
 | rng lo hi=>obtain⟨t,u,v,e⟩:=x;exact⟨t,u,v,k _ _ (.inl rfl) e⟩
 | frz ob u ih=>obtain⟨e,q⟩:=x;exact⟨k _ _ (.inl rfl) e,ih q⟩
 | tbl ps=>
  have e:h.get? a=some { cls:=.none,data:=.fields ps }:=x;show h'.get? a=some { cls:=.none,data:=.fields ps };exact k a _ (.inl rfl) e
 | met f y=>
  have e:h.get? a=some (PySem.W.methodObj (.ref f) (.ref y)):=x;show h'.get? a=some (PySem.W.methodObj (.ref f) (.ref y));exact k a _ (.inl rfl) e
 | ext φ=>obtain⟨p,⟨o,e⟩,st⟩:=x;exact⟨st _ _ p fun o q=>k _ _ (.inl rfl) q,⟨o,k _ _ (.inl rfl) e⟩,st⟩
theorem gk.lt(x:gk P w H h)(e:H a=some o):a < h.objs.size:=(x a o e).lt
theorem gk.fresh(x:gk P w H h)(e:h.objs.size≤a):H a=none:=by
 cases q:H a with
 | none=>rfl
 | some u=>exact absurd (aa6 (x.lt q) e) (ae2 _)
theorem gk.kept(x:gk P w H h)(k:∀b u,h.get? b=some u→h'.get? b=some u):gk P w H h':=fun a o e=>
 (x a o e).stay (fun b u _ q=>k b u q) (fun _ q=>q) fun _ _ q=>q
theorem gk.laid(x:gk P w H h)(k:∀b u,h.get? b=some u→h'.get? b=some u)(hp:h.objs.size≤a)(new:bT P w (upd H a o) h' a o):gk P w (upd H a o) h':=fun b u e=>by
 have hn:=x.fresh hp
 by_cases hb:b=a
 ·subst hb;rw [af]at e;cases e;exact new
 ·rw [aj hb]at e
  exact(x b u e).stay (fun c v _ q=>k c v q) (fun c q=>by rw [aj (ar q hn)];exact q) fun c xs q=>by rw [aj (ar q hn)];exact q
end
def Rd(H:Hp)(a:Addr)(u:HO):Prop:=H a=some u∨∃o,H a=some (.frz o u)
theorem Rd.ok{P:Program}{w:World}{H:Hp}{h:Heap}{a:Addr}{u:HO}(r:Rd H a u)(x:gk P w H h):bT P w H h a u:=by
 rcases r with r | ⟨o,r⟩
 ·exact x a u r
 ·obtain⟨_,q⟩:=x a _ r
  exact q
def z7:Option HO→Prop
 | some (.lst _)=>True
 | some (.dK _)=>True
 | some (.dT _)=>True
 | some (.set _ _)=>True
 | some (.ins _ _ _)=>True
 | some (.ext _)=>True
 | _=>False
section
variable {P:Program} {w:World} {H:Hp} {h h':Heap} {x e:Addr} {o':HO}
theorem gk.write(ok:gk P w H h)(mu:z7 (H x))(he:e=x∨H e=some (.own x))(k:∀b u,b≠e→h.get? b=some u→h'.get? b=some u)(heo:∃u,h'.get? e=some u)
  (new:bT P w (upd H x o') h' x o'):gk P w (upd H x o') h':=fun b u q=>by
 have nown:∀c y,H c=some (.own y)→c≠x:=fun c y r z=>by subst z;rw [r]at mu;exact mu
 have ntup:∀c xs,H c=some (.tup xs)→c≠x:=fun c xs r z=>by subst z;rw [r]at mu;exact mu
 by_cases hb:b=x
 ·subst hb;rw [af]at q;cases q;exact new
 ·rw [aj hb]at q
  by_cases hbe:b=e
  ·have q':H b=some (.own x):=by
    rcases he with z | z
    ·exact absurd (hbe.trans z) hb
    ·rw [hbe];exact z
   rw [q]at q';cases q';obtain⟨v,hv⟩:=heo;exact⟨v,by rw [hbe];exact hv⟩
  ·refine(ok b u q).stay (fun c v hc r=>k c v ?_ r) (fun c r=>by rw [aj (nown c b r)];exact r) fun c xs r=>by rw [aj (ntup c xs r)];exact r
   rcases hc with rfl | hc
   ·exact hbe
   ·rintro rfl
    rcases he with z | z
    ·exact nown c b hc z
    ·rw [hc]at z;cases z;exact hb rfl
end
structure Un(fs ex:List Addr)(H H':Hp)(h h':Heap):Prop where
 keep:∀b o,h.get? b=some o→H b=none→b∉fs→b∉ex→h'.get? b=some o
 slot:∀b o,h.get? b=some o→H b=none→b∈fs→b∉ex→∃sl,h'.get? b=some { o with slots:=sl }
 free:∀b o,h.get? b=some o→H b=none→b∉ex→H' b=none
 there:∀b o,h.get? b=some o→b∉ex→∃o',h'.get? b=some o'
 tups:∀b xs,H b=some (.tup xs)→H' b=some (.tup xs)
 frzs:∀b o u,H b=some (.frz o u)→H' b=some (.frz o u)
 tbls:∀b ps,H b=some (.tbl ps)→∃more,H' b=some (.tbl (ps++more))
section
variable {fs fs' ex ex':List Addr} {H H1 H2:Hp} {h h1 h2 h':Heap} {a x e:Addr} {o:HO}
theorem Un.any(u:Un fs ex H H1 h h1){b:Addr}{ob:Obj}(q:h.get? b=some ob)(n:H b=none)(hx:b∉ex):∃sl,h1.get? b=some { ob with slots:=sl }:=by
 by_cases hb:b∈fs
 ·exact u.slot b ob q n hb hx
 ·exact⟨ob.slots,u.keep b ob q n hb hx⟩
theorem Un.kept(k:∀b u,h.get? b=some u→h'.get? b=some u):Un fs ex H H h h':=
 ⟨fun b ob q _ _ _=>k b ob q,fun b ob q _ _ _=>⟨ob.slots,k b ob q⟩,fun _ _ _ n _=>n,fun b ob q _=>⟨ob,k b ob q⟩,fun _ _ q=>q,fun _ _ _ q=>q,fun _ ps q=>⟨#[],by rw [q];simp⟩⟩
theorem Un.refl:Un fs ex H H h h:=Un.kept fun _ _ q=>q
theorem Un.laid(k:∀b u,h.get? b=some u→h'.get? b=some u)(hp:h.objs.size≤a)(hn:H a=none):Un fs ex H (upd H a o) h h' where
 keep:=fun b u q _ _ _=>k b u q
 slot:=fun b u q _ _ _=>⟨u.slots,k b u q⟩
 free:=fun b u q n _=>by rw [aj (ab4 (aa6 (aa9 q) hp))];exact n
 there:=fun b u q _=>⟨u,k b u q⟩
 tups:=fun b xs q=>by rw [aj (ar q hn)];exact q
 frzs:=fun b u xs q=>by rw [aj (ar q hn)];exact q
 tbls:=fun b ps q=>⟨#[],by rw [aj (ar q hn),q];simp⟩
theorem Un.write(mu:z7 (H x))(he:e=x∨H e=some (.own x))(k:∀b u,b≠e→h.get? b=some u→h'.get? b=some u)(heo:∃u,h'.get? e=some u):Un fs ex H (upd H x o) h h':=by
 have hx:∀b,H b=none→b≠x:=fun b n z=>by subst z;rw [n]at mu;exact mu
 have hb:∀b,H b=none→b≠e:=fun b n z=>by
  subst z;rcases he with r | r
  ·exact hx b n r
  ·rw [n]at r;cases r
 have hm:∀b u,H b=some u→¬z7 (some u)→b≠x:=fun b u q nm z=>by subst z;rw [q]at mu;exact nm mu
 refine⟨fun b u q n _ _=>k b u (hb b n) q,fun b u q n _ _=>⟨u.slots,k b u (hb b n) q⟩,fun b u q n _=>by rw [aj (hx b n)];exact n,fun b u q _=>?_,
  fun b xs q=>by rw [aj (hm b _ q fun z=>z)];exact q,fun b u xs q=>by rw [aj (hm b _ q fun z=>z)];exact q,fun b ps q=>⟨#[],by rw [aj (hm b _ q fun z=>z),q];simp⟩⟩
 by_cases hbe:b=e
 ·subst hbe;exact heo
 ·exact⟨u,k b u hbe q⟩
end
def Al(h:Heap)(H:Hp):List Addr:=(List.range h.objs.size).filter fun a=>(H a).isSome
def mz(h:Heap)(H:Hp):Heap:=PySem.W.hideAll h (Al h H)
theorem rY(h:Heap)(H:Hp):(mz h H).objs.size=h.objs.size:=PySem.W.hideAll_size _ _
theorem t7{h:Heap}{H:Hp}{b:Addr}{o:Obj}(e:h.get? b=some o)(n:H b=none):(mz h H).get? b=some o:=
 PySem.W.hideAll_get _ e fun hm=>by
  have q:(H b).isSome=true:=(List.mem_filter.mp hm).2;rw [n]at q;simp at q
theorem wo{h:Heap}{H:Hp}{b:Addr}{o:Obj}(e:(mz h H).get? b=some o):h.get? b=some o∧H b=none:=by
 have e':h.get? b=some o:=PySem.W.of_hideAll (Al h H) e;refine⟨e',?_⟩
 cases q:H b with
 | none=>rfl
 | some x=>
  have hm:b∈Al h H:=List.mem_filter.mpr ⟨List.mem_range.mpr (aa9 e'),by simp [q]⟩;have z:(mz h H).get? b=none:=PySem.W.hideAll_none (Al h H) hm;rw [z]at e;cases e
def vM(g h:Heap)(L:Addr):List (Addr×Obj):=(List.range h.objs.size).filterMap fun a=>if a=L∨(g.get? a).isSome=true then none else(h.get? a).map fun o=>(a,o)
def rest(g h:Heap)(L d:Addr):List (Addr×Obj):=(vM g h L).filter fun p=>decide (p.1≠d)
end L2
namespace L2
open PySem PySem.Spec PyProof.Rows
structure Mod(K:Frag)(mg:Str→Option Value)(base:Heap):Prop where
 kin:K.In base
 glob:base.Ns mainGlobals mg
 blt:∃mb,base.Ns builtinsNs mb∧∀x:Str,x≠"__name__"→mb x=bootBuiltins x
 nolimit:base.NoLimit
structure Cx where
 prog:Program
 w:World
 K:Frag
 mg:Str→Option Value
 base:Heap
 A:Around
 N:List Str
 s₀:Shared
 H₀:Hp
 env:Env
 outer:List Env
 stack:List Env
 ex:List Addr
 fn:Str→Bool
 calm:Bool
 pn:List (Addr×Obj)
 xe:Value→Shared→Prop
def j1(l:List Env):List Addr:=l.filterMap (·.frame)
abbrev Cx.fs(X:Cx):List Addr:=j1 X.outer
def Au(sc:Scope)(x:Str):Prop:=sc.names.lookup x=some .local∨sc.names.lookup x=some .cell∨sc.names.lookup x=some .free
def xQ(sc:Scope)(x:Str):Prop:=sc.names.lookup x=some .local∨sc.names.lookup x=some .cell
def Ap(env:Env)(h:Heap)(m:Str→Option Value)(x:Str)(u:Value):Prop:=
 (env.kindOf x=some .local∧m x=some u)∨((env.kindOf x=some .cell∨env.kindOf x=some .free)∧∃c,env.cells.lookup x=some c∧h.IsCell c (some u))
structure Cx.Ok(X:Cx):Prop where
 mod:Mod X.K X.mg X.base
 kind:X.env.scope.kind=.function
 glob:X.env.globals=mainGlobals
 blt:X.env.builtins=builtinsNs
 above:X.s₀.heap.objs.size≤X.env.locals
 inj:∀x y c,X.env.cells.lookup x=some c→X.env.cells.lookup y=some c→x=y
 has:∀x,(X.env.kindOf x=some .cell∨X.env.kindOf x=some .free)→∃c,X.env.cells.lookup x=some c
 cab:∀x c,X.fn x=true→X.env.cells.lookup x=some c→X.s₀.heap.objs.size≤c
 hd:X.calm=true→X.A.handled=none
 frames:X.A.frames=some X.stack
 stk:X.stack=X.outer∨(X.stack=X.env::X.outer∧X.env.frame=some X.env.locals)
 exf:∀b∈X.ex,b≠X.env.locals∧∀x c,X.env.cells.lookup x=some c→c≠b
 bs:∀b o,X.base.get? b=some o→X.s₀.heap.get? b=some o∧X.H₀ b=none
 bsz:X.base.objs.size≤X.s₀.heap.objs.size
 noex:∀b o,X.base.get? b=some o→b∉X.ex
 exfs:∀b∈X.ex,b∉X.fs
 funs:X.s₀.heap.FunFrames X.base X.outer
 frf:∀b∈X.fs,X.H₀ b=none
structure aJ(X:Cx)(pins:List (Addr×Obj))(σ:List (Option V))(H:Hp)(s:Shared):Prop where
 ok:X.Ok
 os:s.os=X.s₀.os
 bare:AllBare s.gens
 base:Un X.fs X.ex X.H₀ H X.s₀.heap s.heap
 loc:∃m,s.heap.Ns X.env.locals m∧∀(i:Nat) (x:Str) (v:V),X.N[i]?=some x→σ[i]?=some (some v)→Au X.env.scope x→∃u,aQ v u∧Ap X.env s.heap m x u
 cell:∀x c,X.env.cells.lookup x=some c→∃v,s.heap.IsCell c v
 free:H X.env.locals=none
 freeC:∀x c,X.env.cells.lookup x=some c→H c=none
 pin:∀p∈X.pn++pins,s.heap.get? p.1=some p.2∧H p.1=none∧p.1≠X.env.locals∧p.1∉X.fs∧∀v,p.2.data≠.cell v
 hok:gk X.prog X.w H s.heap
 len:σ.length=X.N.length
section
variable {X:Cx} {pins:List (Addr×Obj)} {σ:List (Option V)} {H H':Hp} {s:Shared} {h':Heap}
theorem Cx.Ok.nofr(ok:X.Ok){b:Addr}{o:Obj}(e:X.base.get? b=some o):b∉X.fs:=fun hb=>by
 have:=(ok.funs.mem hb).1
 rw [e]at this;cases this
theorem aJ.bs(I:aJ X pins σ H s):∀b o,X.base.get? b=some o→s.heap.get? b=some o∧H b=none:=fun b o e=>
 ⟨I.base.keep b o (I.ok.bs b o e).1 (I.ok.bs b o e).2 (I.ok.nofr e) (I.ok.noex b o e),I.base.free b o (I.ok.bs b o e).1 (I.ok.bs b o e).2 (I.ok.noex b o e)⟩
theorem aJ.bk(I:aJ X pins σ H s):∀b o,X.base.get? b=some o→s.heap.get? b=some o:=fun b o e=>(I.bs b o e).1
theorem aJ.mod(I:aJ X pins σ H s):Mod X.K X.mg X.base:=I.ok.mod
theorem aJ.kIn(I:aJ X pins σ H s):X.K.In s.heap:=I.ok.mod.kin.keeps I.bk
theorem aJ.lt(I:aJ X pins σ H s):X.env.locals < s.heap.objs.size:=let ⟨_,hn,_⟩:=I.loc;hn.lt
theorem aJ.sz(I:aJ X pins σ H s):X.s₀.heap.objs.size≤s.heap.objs.size:=aa7 I.ok.above (ai2 I.lt)
theorem aJ.nofs(I:aJ X pins σ H s){a:Addr}(h:s.heap.objs.size≤a):a∉X.fs:=fun hb=>by
 obtain⟨_,o,ho,_⟩:=I.ok.funs.mem hb;exact absurd (aa6 (aa9 ho) (aa7 I.sz h)) (ae2 _)
theorem aJ.cne(I:aJ X pins σ H s):∀x c,X.env.cells.lookup x=some c→c≠X.env.locals:=fun x c e z=>by
 obtain⟨v,o,ho,hd⟩:=I.cell x c e;obtain⟨m,⟨o',es,ep,ho',hd',_⟩,_⟩:=I.loc;rw [z,ho']at ho;cases ho;rw [hd']at hd;cases hd
theorem aJ.funs(I:aJ X pins σ H s):s.heap.FunFrames X.base X.outer:=by
 have all:∀(l:List Env),(∀b∈j1 l,b∈X.fs)→X.s₀.heap.FunFrames X.base l→s.heap.FunFrames X.base l:=by
  intro l
  induction l with
  | nil=>intro _ _;trivial
  | cons env r ih=>
   intro hs hl;obtain⟨hk,⟨L,o,hf,hn,ho,hd⟩,hr⟩:=hl;have hL:L∈X.fs:=hs L (by unfold j1;rw [ah9,hf];exact ab3);obtain⟨sl,e⟩:=I.base.slot L o ho (I.ok.frf L hL) hL fun z=>I.ok.exfs L z hL;exact⟨hk,⟨L,_,hf,hn,e,hd⟩,ih (fun b hb=>hs b (by unfold j1;rw [ah9,hf];exact ab2 _ hb)) hr⟩
 exact all X.outer (fun _ hb=>hb) I.ok.funs
theorem aJ.stack(I:aJ X pins σ H s):s.heap.FunFrames X.base X.stack:=by
 rcases I.ok.stk with e | ⟨e,hf⟩
 ·rw [e];exact I.funs
 ·rw [e]
  obtain⟨m,hn,_⟩:=I.loc;refine .cons (by rw [I.ok.kind];decide) hf hn ?_ I.funs;exact ah4 (aa7 I.ok.bsz I.ok.above)
theorem aJ.stkSub(I:aJ X pins σ H s):∀b∈j1 X.stack,b∈X.env.locals::X.fs:=fun b hb=>by
 rcases I.ok.stk with e | ⟨e,hf⟩
 ·rw [e]at hb;exact ab2 _ hb
 ·rw [e]at hb
  unfold j1 at hb;rw [ah9,hf]at hb;exact hb
theorem aJ.stkFree(I:aJ X pins σ H s):∀b∈j1 X.stack,H b=none:=fun b hb=>by
 rcases ab7.mp (I.stkSub b hb)with e | hb
 ·rw [e];exact I.free
 ·obtain⟨_,o,ho,_⟩:=I.ok.funs.mem hb
  exact I.base.free b o ho (I.ok.frf b hb) fun z=>I.ok.exfs b z hb
theorem aJ.step{g':Array GenState}{t':Nat}{d':Drawn}{ch:List Addr}(I:aJ X pins σ H s)
  (hch:∀b∈ch,(b∈X.ex∨X.s₀.heap.objs.size≤b)∧b≠X.env.locals∧(∀x c,X.env.cells.lookup x=some c→c≠b)∧∀p∈X.pn++pins,p.1≠b)
  (keep:∀b o,b≠X.env.locals→b∉X.fs→b∉ch→s.heap.get? b=some o→H b=none→h'.get? b=some o)
  (slot:∀b o,b≠X.env.locals→b∈X.fs→b∉ch→s.heap.get? b=some o→H b=none→∃sl,h'.get? b=some { o with slots:=sl }) (free:∀b o,b∉ch→s.heap.get? b=some o→H b=none→H' b=none)
  (there:∀b o,b∉ch→s.heap.get? b=some o→∃o',h'.get? b=some o')
  (tups:∀b xs,H b=some (.tup xs)→H' b=some (.tup xs)) (frzs:∀b o u,H b=some (.frz o u)→H' b=some (.frz o u)) (tbls:∀b ps,H b=some (.tbl ps)→∃more,H' b=some (.tbl (ps++more)))
  (ns:∀m,s.heap.Ns X.env.locals m→h'.Ns X.env.locals m) (hok:gk X.prog X.w H' h') (hg:AllBare g') :
  aJ X pins σ H' { s with heap:=h',gens:=g',drawn:=d',toks:=t' }:=by
 have neL:∀b o,X.s₀.heap.get? b=some o→b≠X.env.locals:=fun b o e=>ab4 (aa6 (aa9 e) I.ok.above)
 have neC:∀b o,X.s₀.heap.get? b=some o→b∉X.ex→b∉ch:=fun b o e hx hb=>by
  rcases(hch b hb).1 with z | z
  ·exact hx z
  ·exact absurd (aa6 (aa9 e) z) (ae2 _)
 have cellK:∀x c,X.env.cells.lookup x=some c→∀v,s.heap.IsCell c v→h'.IsCell c v:=fun x c e v ⟨o,ho,hd⟩=>by
  have nch:c∉ch:=fun z=>(hch c z).2.2.1 x c e rfl
  by_cases hc:c∈X.fs
  ·obtain⟨sl,q⟩:=slot c o (I.cne x c e) hc nch ho (I.freeC x c e)
   exact⟨_,q,hd⟩
  ·exact⟨o,keep c o (I.cne x c e) hc nch ho (I.freeC x c e),hd⟩
 refine⟨I.ok,I.os,hg,⟨fun b o e n hb hx=>?_,fun b o e n hb hx=>?_,fun b o e n hx=>?_,fun b o e hx=>?_,fun b xs e=>tups b xs (I.base.tups b xs e),fun b o xs e=>frzs b o xs (I.base.frzs b o xs e),fun b ps e=>?_⟩,?_,fun x c e=>?_,?_,fun x c e=>?_,fun p hp=>?_,hok,I.len⟩
 ·exact keep b o (neL b o e) hb (neC b o e hx) (I.base.keep b o e n hb hx) (I.base.free b o e n hx)
 ·obtain⟨sl,e1⟩:=I.base.slot b o e n hb hx
  obtain⟨sl',e2⟩:=slot b _ (neL b o e) hb (neC b o e hx) e1 (I.base.free b o e n hx);exact⟨sl',e2⟩
 ·obtain⟨o',e1⟩:=I.base.there b o e hx
  exact free b o' (neC b o e hx) e1 (I.base.free b o e n hx)
 ·obtain⟨o',e1⟩:=I.base.there b o e hx
  exact there b o' (neC b o e hx) e1
 ·obtain⟨m1,e1⟩:=I.base.tbls b ps e
  obtain⟨m2,e2⟩:=tbls b _ e1;exact⟨m1++m2,by rw [e2,Array.append_assoc]⟩
 ·obtain⟨m,hn,hl⟩:=I.loc
  refine⟨m,ns m hn,fun i x v e1 e2 e3=>?_⟩;obtain⟨u,r,l⟩:=hl i x v e1 e2 e3;refine⟨u,r,?_⟩;rcases l with l | ⟨k,c,e,z⟩
  ·exact .inl l
  ·exact .inr ⟨k,c,e,cellK x c e _ z⟩
 ·obtain⟨v,z⟩:=I.cell x c e
  exact⟨v,cellK x c e v z⟩
 ·obtain⟨m,⟨o,_,_,ho,_⟩,_⟩:=I.loc
  exact free _ o (fun z=>(hch _ z).2.1 rfl) ho I.free
 ·obtain⟨v,o,ho,hd⟩:=I.cell x c e
  exact free c o (fun z=>(hch c z).2.2.1 x c e rfl) ho (I.freeC x c e)
 ·obtain⟨e,n,ne,nf,d⟩:=I.pin p hp
  have nch:p.1∉ch:=fun z=>(hch p.1 z).2.2.2 p hp rfl;exact⟨keep p.1 p.2 ne nf nch e n,free p.1 p.2 nch e n,ne,nf,d⟩
theorem aJ.un{t':Nat}(I:aJ X pins σ H s)(u:Un X.fs [] H H' s.heap h')(hok:gk X.prog X.w H' h'):aJ X pins σ H' { s with heap:=h',toks:=t' }:=by
 obtain⟨m,⟨o,es,ep,ho,r⟩,_⟩:=id I.loc;obtain⟨sl,hL⟩:=u.any ho I.free (by simp)
 exact I.step (g':=s.gens) (d':=s.drawn) (ch:=[]) (fun _ z=>nomatch z) (fun b o _ hb _ e n=>u.keep b o e n hb (by simp)) (fun b o _ hb _ e n=>u.slot b o e n hb (by simp)) (fun b o _ e n=>u.free b o e n (by simp)) (fun b o _ e=>u.there b o e (by simp)) u.tups u.frzs u.tbls (fun m' hm=>by
  obtain⟨o',es',ep',ho',r'⟩:=hm;rw [ho]at ho';cases ho'
  exact⟨_,es',ep',hL,r'⟩) hok I.bare
theorem aJ.call{g':Array GenState}{t':Nat}{d':Drawn}{ch:List Addr}(I:aJ X pins σ H s)(u:Un (j1 X.stack) ch H H' s.heap h')(hok:gk X.prog X.w H' h')(hg:AllBare g')
  (hch:∀b∈ch,(b∈X.ex∨X.s₀.heap.objs.size≤b)∧b≠X.env.locals∧(∀x c,X.env.cells.lookup x=some c→c≠b)∧∀p∈X.pn++pins,p.1≠b) :
  aJ X pins σ H' { s with heap:=h',gens:=g',drawn:=d',toks:=t' }:=by
 obtain⟨m,⟨o,es,ep,ho,r⟩,_⟩:=id I.loc;obtain⟨sl,hL⟩:=u.any ho I.free fun z=>(hch _ z).2.1 rfl
 exact I.step (ch:=ch) hch (fun b o hL hb hc e n=>u.keep b o e n (fun z=>(ab7.mp (I.stkSub b z)).elim hL hb) hc) (fun b o _ _ hc e n=>u.any e n hc) (fun b o hc e n=>u.free b o e n hc) (fun b o hc e=>u.there b o e hc) u.tups u.frzs u.tbls (fun m' hm=>by
  obtain⟨o',es',ep',ho',r'⟩:=hm;rw [ho]at ho';cases ho'
  exact⟨_,es',ep',hL,r'⟩) hok hg
theorem aJ.turned{t':Nat}{it:Addr}(I:aJ X pins σ H s)(k:∀b o,b≠it→s.heap.get? b=some o→h'.get? b=some o)(hn:H it=none)(hL:it≠X.env.locals)
  (h1:it∈X.ex∨X.s₀.heap.objs.size≤it) (h2:∀x c,X.env.cells.lookup x=some c→c≠it) (h3:∀p∈X.pn++pins,p.1≠it):aJ X pins σ H { s with heap:=h',toks:=t' }:=by
 have nit:∀b u,H b=some u→b≠it:=fun b u e z=>by rw [z,hn]at e;cases e
 refine I.step (g':=s.gens) (d':=s.drawn) (ch:=[it]) (fun b hb=>?_) (fun b o _ _ hc e _=>k b o (fun z=>hc (by simp [z])) e) (fun b o _ _ hc e _=>⟨o.slots,k b o (fun z=>hc (by simp [z])) e⟩) (fun _ _ _ _ n=>n)
  (fun b o hc e=>⟨o,k b o (fun z=>hc (by simp [z])) e⟩) (fun _ _ e=>e) (fun _ _ _ e=>e) (fun b ps e=>⟨#[],by rw [e];simp⟩) (fun m hm=>?_) (fun b u e=>?_) I.bare
 ·have e:b=it:=by simpa using hb
  subst e;exact⟨h1,hL,h2,h3⟩
 ·obtain⟨o,es,ep,ho,r⟩:=hm
  exact⟨o,es,ep,k _ o (Ne.symm hL) ho,r⟩
 ·refine(I.hok b u e).stay (fun c v hc q=>k c v ?_ q) (fun _ q=>q) fun _ _ q=>q
  rcases hc with z | z
  ·rw [z];exact nit b u e
  ·exact nit c _ z
theorem aJ.tok(I:aJ X pins σ H s)(t:Nat):aJ X pins σ H { s with toks:=t }:=I.un (h':=s.heap) (t':=t) Un.refl I.hok
theorem aJ.kept{t':Nat}(I:aJ X pins σ H s)(k:∀b u,s.heap.get? b=some u→h'.get? b=some u):aJ X pins σ H { s with heap:=h',toks:=t' }:=I.un (Un.kept k) (I.hok.kept k)
theorem aJ.laid{a:Addr}{o:HO}{t':Nat}(I:aJ X pins σ H s)(k:∀b u,s.heap.get? b=some u→h'.get? b=some u)(hp:s.heap.objs.size≤a)(new:bT X.prog X.w (upd H a o) h' a o):
  aJ X pins σ (upd H a o) { s with heap:=h',toks:=t' }:=I.un (Un.laid k hp (I.hok.fresh hp)) (I.hok.laid k hp new)
theorem aJ.write{x e:Addr}{o:HO}{t':Nat}(I:aJ X pins σ H s)(mu:z7 (H x))(he:e=x∨H e=some (.own x))(k:∀b u,b≠e→s.heap.get? b=some u→h'.get? b=some u)(heo:∃u,h'.get? e=some u)
  (new:bT X.prog X.w (upd H x o) h' x o):aJ X pins σ (upd H x o) { s with heap:=h',toks:=t' }:=I.un (Un.write mu he k heo) (I.hok.write mu he k heo new)
theorem aJ.pins_of{pins':List (Addr×Obj)}(I:aJ X pins σ H s)(h:∀p∈pins',s.heap.get? p.1=some p.2∧H p.1=none∧p.1≠X.env.locals∧p.1∉X.fs∧∀v,p.2.data≠.cell v):aJ X pins' σ H s:=
 ⟨I.ok,I.os,I.bare,I.base,I.loc,I.cell,I.free,I.freeC,fun p hp=>(ac2.mp hp).elim (fun z=>I.pin p (ag0 _ z)) (h p),I.hok,I.len⟩
theorem jA{N:List Str}(hN:N.Nodup){i j:Nat}{x:Str}(a:N[i]?=some x)(b:N[j]?=some x):i=j:=by
 obtain⟨h1,e1⟩:=ab5.mp a;obtain⟨h2,e2⟩:=ab5.mp b;exact(List.getElem_inj hN).mp (e1.trans e2.symm)
theorem lT{M:Model}{A:Around}{E:Value→Shared→Prop}{i:Nat}{x:Str}{v:V}{u:Value}{Q:Unit→Shared→Prop}(I:aJ X pins σ H s)(hN:X.N.Nodup)(hi:X.N[i]?=some x)(hx:xQ X.env.scope x)(r:aQ v u)
  (h:∀s',aJ X pins (σ.set i (some v)) H s'→(∃a,Heap.SameBut a s.heap s'.heap∧(a=X.env.locals∨X.env.cells.lookup x=some a))→Q () s') (hf:X.fn x=true∨X.env.scope.names.lookup x=some .local:=by first | exact .inl rfl | exact .inr rfl | assumption):wpAny M A (storeName X.env x u) Q E s:=by
 obtain⟨m,hn,hl⟩:=id I.loc
 have hcls:(X.env.scope.kind == .class || (X.env.scope.kind == .module && X.env.locals != X.env.globals))=false:=by rw [I.ok.kind];rfl
 have hiσ:i < σ.length:=by rw [I.len];exact(ab5.mp hi).1
 have cne:=I.cne
 have tracked:∀{a:Addr} {h':Heap},(∃o,s.heap.get? a=some o∧H a=none)→Heap.SameBut a s.heap h'→gk X.prog X.w H h':=fun {a h'} ha hs b ob e=>by
  obtain⟨_,_,hfree⟩:=ha;refine(I.hok b ob e).stay (fun c w' hc q=>(hs.2 c ?_).trans q) (fun _ q=>q) fun _ _ q=>q;rintro rfl;rcases hc with rfl | hc
  ·rw [hfree]at e;cases e
  ·rw [hfree]at hc;cases hc
 rcases hx with hk | hk
 ·refine wpAny_storeName_local hk hn (fun h' hn' hs=>?_) hcls
  obtain⟨oL,_,_,hoL,_⟩:=id hn;refine h _ ⟨I.ok,I.os,I.bare,⟨fun b o e n hb hx=>?_,fun b o e n hb hx=>?_,I.base.free,fun b o e hx=>?_,I.base.tups,I.base.frzs,I.base.tbls⟩,⟨_,hn',fun j y v' e1 e2 e3=>?_⟩,fun y c e=>?_,I.free,I.freeC,fun p hp=>?_,tracked ⟨oL,hoL,I.free⟩ hs,by simpa using I.len⟩ ⟨_,hs,.inl rfl⟩
  ·exact(hs.2 b (ab4 (aa6 (aa9 e) I.ok.above))).trans (I.base.keep b o e n hb hx)
  ·obtain⟨sl,e1⟩:=I.base.slot b o e n hb hx
   exact⟨sl,(hs.2 b (ab4 (aa6 (aa9 e) I.ok.above))).trans e1⟩
  ·obtain⟨o',e1⟩:=I.base.there b o e hx
   exact⟨o',(hs.2 b (ab4 (aa6 (aa9 e) I.ok.above))).trans e1⟩
  ·by_cases hj:j=i
   ·subst hj
    rw [hi]at e1;cases e1;rw [af5 hiσ]at e2;cases e2;exact⟨u,r,.inl ⟨hk,by simp⟩⟩
   ·rw [ah5 (Ne.symm hj)]at e2
    obtain⟨u',r',q⟩:=hl j y v' e1 e2 e3;refine⟨u',r',?_⟩;rcases q with⟨k,e⟩ | ⟨k,c,e,z⟩
    ·refine .inl ⟨k,?_⟩
     have:y≠x:=fun e=>hj (jA hN e1 (e▸hi))
     simp [this,e]
    ·exact .inr ⟨k,c,e,z.sameBut hs (cne y c e)⟩
  ·obtain⟨w',z⟩:=I.cell y c e
   exact⟨w',z.sameBut hs (cne y c e)⟩
  ·obtain⟨e,n,ne,nf,d⟩:=I.pin p hp
   exact⟨(hs.2 p.1 ne).trans e,n,ne,nf,d⟩
 ·have hfn:X.fn x=true:=by
   rcases hf with z | z
   ·exact z
   ·rw [z]at hk;cases hk
  obtain⟨c,hc⟩:=I.ok.has x (.inl hk);obtain⟨w',z⟩:=I.cell x c hc;refine wpAny_storeName_cell I.ok.kind hk hc z (fun h' hc' hs=>?_);obtain⟨oc,hoc,hocd⟩:=id z;refine h { s with heap:=h' } ⟨I.ok,I.os,I.bare,⟨fun b o e n hb hx=>?_,fun b o e n hb hx=>?_,I.base.free,fun b o e hx=>?_,I.base.tups,I.base.frzs,I.base.tbls⟩,⟨m,hn.sameBut hs (Ne.symm (cne x c hc)),fun j y v' e1 e2 e3=>?_⟩,fun y c' e=>?_,I.free,I.freeC,fun p hp=>?_,tracked ⟨oc,hoc,I.freeC x c hc⟩ hs,by simpa using I.len⟩ ⟨c,hs,.inr hc⟩
  ·exact(hs.2 b (ab4 (aa6 (aa9 e) (I.ok.cab x c hfn hc)))).trans (I.base.keep b o e n hb hx)
  ·obtain⟨sl,e1⟩:=I.base.slot b o e n hb hx
   exact⟨sl,(hs.2 b (ab4 (aa6 (aa9 e) (I.ok.cab x c hfn hc)))).trans e1⟩
  ·obtain⟨o',e1⟩:=I.base.there b o e hx
   exact⟨o',(hs.2 b (ab4 (aa6 (aa9 e) (I.ok.cab x c hfn hc)))).trans e1⟩
  ·by_cases hj:j=i
   ·subst hj
    rw [hi]at e1;cases e1;rw [af5 hiσ]at e2;cases e2;exact⟨u,r,.inr ⟨.inl hk,c,hc,hc'⟩⟩
   ·rw [ah5 (Ne.symm hj)]at e2
    obtain⟨u',r',q⟩:=hl j y v' e1 e2 e3;refine⟨u',r',?_⟩;rcases q with q | ⟨k,c',e,z'⟩
    ·exact .inl q
    ·refine .inr ⟨k,c',e,z'.sameBut hs ?_⟩
     rintro rfl;exact hj (jA hN e1 (I.ok.inj _ _ _ e hc▸hi))
  ·by_cases hcc:c'=c
   ·subst hcc;exact⟨_,hc'⟩
   ·obtain⟨w2,z2⟩:=I.cell y c' e
    exact⟨w2,z2.sameBut hs hcc⟩
  ·obtain⟨e,n,ne,nf,d⟩:=I.pin p hp
   refine⟨(hs.2 p.1 ?_).trans e,n,ne,nf,d⟩;intro q;rw [q,hoc]at e;have q':oc=p.2:=Option.some.inj e;exact d w' (by rw [←q'];exact hocd)
theorem fm{M:Model}{A:Around}{E:Value→Shared→Prop}{i:Nat}{x:Str}{v:V}{u:Value}{Q:Unit→Shared→Prop}(I:aJ X pins σ H s)(hN:X.N.Nodup)(hi:X.N[i]?=some x)(hx:xQ X.env.scope x)(r:aQ v u)
  (h:∀s',aJ X pins (σ.set i (some v)) H s'→Q () s') (hf:X.fn x=true∨X.env.scope.names.lookup x=some .local:=by first | exact .inl rfl | exact .inr rfl | assumption):wpAny M A (storeName X.env x u) Q E s:=
 lT I hN hi hx r (fun s' I' _=>h s' I') hf
theorem aJ.call'{s':Shared}{ch:List Addr}(I:aJ X pins σ H s)(ho:s'.os=s.os)(u:Un (j1 X.stack) ch H H' s.heap s'.heap)(hok:gk X.prog X.w H' s'.heap)(hg:AllBare s'.gens)
  (hch:∀b∈ch,(b∈X.ex∨X.s₀.heap.objs.size≤b)∧b≠X.env.locals∧(∀x c,X.env.cells.lookup x=some c→c≠b)∧∀p∈X.pn++pins,p.1≠b):aJ X pins σ H' s':=by
 obtain⟨h',g',d',t',o'⟩:=s';have e:o'=s.os:=ho;subst e;exact I.call (g':=g') (t':=t') (d':=d') u hok hg hch
end
abbrev XK:=Value→Option Addr→Hp→Prop
abbrev St:=List (Option V)
abbrev VK:=V→Hp→Prop
abbrev TE:=St→Hp→VK→Prop
abbrev TT:=St→Hp→(Bool→Hp→Prop)→Prop
abbrev TA:=St→Hp→(List V→Hp→Prop)→Prop
structure eU where
 nx:St→Hp→Prop
 rt:VK
 bk:St→Hp→Prop:=fun _ _=>False
 ct:St→Hp→Prop:=fun _ _=>False
abbrev TS:=eU→St→Hp→Prop
def EP(X:Cx)(pins:List (Addr×Obj))(σ:St)(Q:VK)(u:Value)(s':Shared):Prop:=∃v H',aJ X pins σ H' s'∧aQ v u∧Q v H'
def TP(X:Cx)(pins:List (Addr×Obj))(σ:St)(Q:Bool→Hp→Prop)(b:Bool)(s':Shared):Prop:=∃H',aJ X pins σ H' s'∧Q b H'
def AP(X:Cx)(pins:List (Addr×Obj))(σ:St)(Q:List V→Hp→Prop)(us:List Value)(s':Shared):Prop:=∃vs H',aJ X pins σ H' s'∧aS vs us∧Q vs H'
def SP(X:Cx)(pins:List (Addr×Obj))(D:eU)(f:Flow)(s':Shared):Prop:=
 match f with
 | .next=>∃σ' H',aJ X pins σ' H' s'∧D.nx σ' H'
 | .brk=>∃σ' H',aJ X pins σ' H' s'∧D.bk σ' H'
 | .cont=>∃σ' H',aJ X pins σ' H' s'∧D.ct σ' H'
 | .ret u=>∃v σ' H',aJ X pins σ' H' s'∧aQ v u∧D.rt v H'
def PE(X:Cx)(e:Expr)(t:TE):Prop:=
 ∀(pins:List (Addr×Obj)) (s:Shared) (σ:St) (H:Hp) (Q:VK),aJ X pins σ H s→t σ H Q→wpAny (model X.prog X.w) X.A (eval e X.env) (EP X pins σ Q) X.xe s
def PT(X:Cx)(e:Expr)(t:TT):Prop:=
 ∀(pins:List (Addr×Obj)) (s:Shared) (σ:St) (H:Hp) (Q:Bool→Hp→Prop),aJ X pins σ H s→t σ H Q→wpAny (model X.prog X.w) X.A (isTrue e X.env (eval e X.env)) (TP X pins σ Q) X.xe s
def PW(X:Cx)(e:Expr)(t:TT):Prop:=
 ∀(whole:Sem Value) (pins:List (Addr×Obj)) (s:Shared) (σ:St) (H:Hp) (Q:Bool→Hp→Prop),aJ X pins σ H s→t σ H Q→wpAny (model X.prog X.w) X.A (isTrue e X.env whole) (TP X pins σ Q) X.xe s
theorem PW.pt{X:Cx}{e:Expr}{t:TT}(h:PW X e t):PT X e t:=h _
def PA(X:Cx)(es:List Expr)(t:TA):Prop:=
 ∀(pos:Pos) (pins:List (Addr×Obj)) (s:Shared) (σ:St) (H:Hp) (Q:List V→Hp→Prop),aJ X pins σ H s→t σ H Q→wpAny (model X.prog X.w) X.A (spliced (backTo pos (starEach es X.env))) (AP X pins σ Q) X.xe s
def PS(X:Cx)(st:Stmt)(t:TS):Prop:=
 ∀(pins:List (Addr×Obj)) (s:Shared) (σ:St) (H:Hp) (D:eU),aJ X pins σ H s→t D σ H→wpAny (model X.prog X.w) X.A (exec st X.env) (SP X pins D) X.xe s
def rF(X:Cx)(st:List Stmt)(t:TS):Prop:=
 ∀(pins:List (Addr×Obj)) (s:Shared) (σ:St) (H:Hp) (D:eU),aJ X pins σ H s→t D σ H→wpAny (model X.prog X.w) X.A (execs st X.env) (SP X pins D) X.xe s
theorem bQ{α:Type}{t:Sem α}{Q Q':α→Shared→Prop}{M:Model}{A:Around}{E:Value→Shared→Prop}{s:Shared}(h:wpAny M A t Q E s)(hQ:∀a s,Q a s→Q' a s):wpAny M A t Q' E s:=wpAny_mono h hQ fun _ _ x=>x
end L2
namespace L2
open PySem PySem.Spec PyProof.Rows
section
variable {X:Cx}
theorem bin{a b:Expr}{ta tb:TE}(ha:PE X a ta)(hb:PE X b tb){pins:List (Addr×Obj)}{s:Shared}{σ:St}{H:Hp}{R:V→V→Hp→Prop}(I:aJ X pins σ H s)(h:ta σ H fun x H1=>tb σ H1 fun y H2=>R x y H2)
  {α:Type} {Q:α→Shared→Prop} {f:Value→Value→Sem α}
  (hf:∀v u s2 x y H2,aJ X pins σ H2 s2→aQ x v→aQ y u→R x y H2→wpAny (model X.prog X.w) X.A (f v u) Q X.xe s2) :
  wpAny (model X.prog X.w) X.A (eval a X.env) (fun v s₁=>wpAny (model X.prog X.w) X.A (eval b X.env) (fun u s₂=>wpAny (model X.prog X.w) X.A (f v u) Q X.xe s₂) X.xe s₁) X.xe s:=by
 refine bQ (ha pins s σ H _ I h) fun v s1 ⟨x,H1,I1,r1,q1⟩=>?_;refine bQ (hb pins s1 σ H1 _ I1 q1) fun u s2 ⟨y,H2,I2,r2,q2⟩=>?_;exact hf v u s2 x y H2 I2 r1 r2 q2
def xm(i:Nat):TE:=fun σ H Q=>∃v,σ[i]?=some (some v)∧Q v H
def tC(v:V):TE:=fun _ H Q=>Q v H
theorem uT{i:Nat}{x:Str}{pos:Pos}(hN:X.N[i]?=some x)(hv:Au X.env.scope x)(hd:(x == ("__debug__":Str))=false:=by decide)(hcd:(x == ("__classdict__":Str))=false:=by decide):PE X (.Name x pos) (xm i):=by
 intro pins s σ H Q I h;obtain⟨v,e,h⟩:=h;obtain⟨m,hn,hl⟩:=I.loc;obtain⟨u,r,l⟩:=hl i x v hN e hv;have fin:EP X pins σ Q u s:=⟨v,H,I,r,h⟩;rcases l with⟨hk,hm⟩ | ⟨hk,c,hc,hcell⟩
 ·exact wpAny_Name (wpAny_loadName_local I.ok.kind hk hn hm fin) hd
 ·rcases hk with hk | hk
  ·exact wpAny_Name (wpAny_loadName_cell I.ok.kind hk hc hcell fin) hd
  ·exact wpAny_Name (wpAny_loadName_free I.ok.kind hk hc hcell fin hcd) hd
theorem ae{i j pos}:PE X (.Constant (.int i) j pos) (tC (.int i)):=fun _ _ _ H _ I h=>wpAny_Constant_int ⟨.int i,H,I.tok _,⟨_,rfl⟩,h⟩
theorem fQ{b j pos}:PE X (.Constant (.bool b) j pos) (tC (.bl b)):=fun _ _ _ H _ I h=>Constant_bool ⟨.bl b,H,I,rfl,h⟩
theorem aP{j pos}:PE X (.Constant .none j pos) (tC .non):=fun _ _ _ H _ I h=>Constant_none ⟨.non,H,I,rfl,h⟩
theorem aD{x j pos}:PE X (.Constant (.str x) j pos) (tC (.str x)):=fun _ _ _ H _ I h=>Calls.Constant_str ⟨.str x,H,I.tok _,⟨_,rfl⟩,h⟩
def Gl(X:Cx)(x:Str):Prop:=X.env.kindOf x=some .globalImplicit
theorem d5{E:Value→Shared→Prop}{pins:List (Addr×Obj)}{s:Shared}{σ:St}{H:Hp}{x:Str}{u:Value}{pos:Pos}{Q:Value→Shared→Prop}(I:aJ X pins σ H s)(hg:Gl X x)(hm:X.mg x=some u)(h:Q u s)
  (hd:(x == ("__debug__":Str))=false:=by decide):wpAny (model X.prog X.w) X.A (eval (.Name x pos) X.env) Q E s:=
 Calls.Name_function_global I.ok.kind hg (Calls.loadGlobal_global (by rw [I.ok.glob];exact I.mod.glob.keeps I.bk) hm h) hd
theorem mD{E:Value→Shared→Prop}{pins:List (Addr×Obj)}{s:Shared}{σ:St}{H:Hp}{x:Str}{u:Value}{pos:Pos}{Q:Value→Shared→Prop}(I:aJ X pins σ H s)(hg:Gl X x)(hm:X.mg x=none)(hv:bootBuiltins x=some u)(h:Q u s)
  (hn:x≠"__name__":=by decide) (hd:(x == ("__debug__":Str))=false:=by decide):wpAny (model X.prog X.w) X.A (eval (.Name x pos) X.env) Q E s:=by
 obtain⟨mb,h1,h2⟩:=I.mod.blt;exact Calls.Name_function_global I.ok.kind hg (Calls.loadGlobal_builtin (by rw [I.ok.glob];exact I.mod.glob.keeps I.bk) hm (by rw [I.ok.blt];exact h1.keeps I.bk) ((h2 x hn).trans hv) h) hd
theorem wF{x:Str}{v:V}{u:Value}{pos:Pos}(hg:Gl X x)(hm:X.mg x=some u)(r:aQ v u)(hd:(x == ("__debug__":Str))=false:=by decide):PE X (.Name x pos) (tC v):=
 fun _ _ _ H _ I h=>d5 I hg hm ⟨v,H,I,r,h⟩ hd
theorem gz{x:Str}{v:V}{u:Value}{pos:Pos}(hg:Gl X x)(hm:X.mg x=none)(hv:bootBuiltins x=some u)(r:aQ v u)(hn:x≠"__name__":=by decide)(hd:(x == ("__debug__":Str))=false:=by decide):PE X (.Name x pos) (tC v):=
 fun _ _ _ H _ I h=>mD I hg hm hv ⟨v,H,I,r,h⟩ hn hd
variable {a b:Expr} {ta tb:TE} {pos:Pos}
variable {tA tB':TT} {rest:List Expr}
def xj(t u:TT):TT:=fun σ H Q=>t σ H fun c H1=>if c=true then u σ H1 Q else Q false H1
def Ai(t u:TT):TT:=fun σ H Q=>t σ H fun c H1=>if c=true then Q true H1 else u σ H1 Q
def xk(t:TT):TT:=fun σ H Q=>t σ H fun c H1=>Q (!c) H1
theorem i0(ha:PT X a tA):PW X (.BoolOp .And [a] pos) tA:=by
 intro wh pins s σ H Q I h;refine isTrue_and (bQ (ha pins s σ H Q I h) fun c s1 e=>?_)
 cases c with
 | true=>exact isTrue_and_nil e
 | false=>exact e
theorem bc(ha:PT X a tA):PW X (.BoolOp .Or [a] pos) tA:=by
 intro wh pins s σ H Q I h;refine isTrue_or (bQ (ha pins s σ H Q I h) fun c s1 e=>?_)
 cases c with
 | false=>exact isTrue_or_nil e
 | true=>exact e
theorem mZ(ha:PT X a tA)(hb:PW X (.BoolOp .And (b::rest) pos) tB'):PW X (.BoolOp .And (a::b::rest) pos) (xj tA tB'):=by
 intro wh pins s σ H Q I h;refine isTrue_and (bQ (ha pins s σ H _ I h) fun c s1 ⟨H1,I1,q1⟩=>?_)
 cases c with
 | true=>exact hb wh pins s1 σ H1 Q I1 q1
 | false=>exact⟨H1,I1,q1⟩
theorem aW(ha:PT X a tA)(hb:PW X (.BoolOp .Or (b::rest) pos) tB'):PW X (.BoolOp .Or (a::b::rest) pos) (Ai tA tB'):=by
 intro wh pins s σ H Q I h;refine isTrue_or (bQ (ha pins s σ H _ I h) fun c s1 ⟨H1,I1,q1⟩=>?_)
 cases c with
 | true=>exact⟨H1,I1,q1⟩
 | false=>exact hb wh pins s1 σ H1 Q I1 q1
theorem aV(ha:PT X a tA):PT X (.UnaryOp .Not a pos) (xk tA):=by
 intro pins s σ H Q I h;exact isTrue_not (ha pins s σ H (fun c H1=>Q (!c) H1) I h)
def lV(ta tb:TE):TE:=fun σ H Q=>ta σ H fun x H1=>∃c,x=.bl c∧if c=true then tb σ H1 Q else Q (.bl false) H1
def sN(ta tb:TE):TE:=fun σ H Q=>ta σ H fun x H1=>∃c,x=.bl c∧if c=true then Q (.bl true) H1 else tb σ H1 Q
def lY(ta:TE):TE:=fun σ H Q=>ta σ H fun x H1=>∃c,x=.bl c∧Q (.bl (!c)) H1
theorem uS{op}{t:TE}(h:PE X a t):PE X (.BoolOp op [a] pos) t:=fun pins s σ H Q I hw=>BoolOp_one (h pins s σ H Q I hw)
theorem uO(ha:PE X a ta)(hb:PE X (.BoolOp .And (b::rest) pos) tb):PE X (.BoolOp .And (a::b::rest) pos) (lV ta tb):=by
 intro pins s σ H Q I h;refine BoolOp_and (bQ (ha pins s σ H _ I h) fun v s1 ⟨x,H1,I1,r1,q1⟩=>?_);obtain⟨c,rfl,q1⟩:=q1;cases r1;refine wpAny_truthy_bool ?_
 cases c with
 | true=>exact hb pins s1 σ H1 Q I1 q1
 | false=>exact⟨.bl false,H1,I1,rfl,q1⟩
theorem zR(ha:PE X a ta)(hb:PE X (.BoolOp .Or (b::rest) pos) tb):PE X (.BoolOp .Or (a::b::rest) pos) (sN ta tb):=by
 intro pins s σ H Q I h;refine BoolOp_or (bQ (ha pins s σ H _ I h) fun v s1 ⟨x,H1,I1,r1,q1⟩=>?_);obtain⟨c,rfl,q1⟩:=q1;cases r1;refine wpAny_truthy_bool ?_
 cases c with
 | false=>exact hb pins s1 σ H1 Q I1 q1
 | true=>exact⟨.bl true,H1,I1,rfl,q1⟩
theorem yt(ha:PE X a ta):PE X (.UnaryOp .Not a pos) (lY ta):=by
 intro pins s σ H Q I h;refine UnaryOp_ (bQ (ha pins s σ H _ I h) fun v s1 ⟨x,H1,I1,r1,q1⟩=>?_);obtain⟨c,rfl,q1⟩:=q1;cases r1;exact not_of (wpAny_truthy_bool ⟨.bl (!c),H1,I1,rfl,q1⟩)
def Ah(t:TT)(ta tb:TE):TE:=fun σ H Q=>t σ H fun c H1=>if c=true then ta σ H1 Q else tb σ H1 Q
theorem jF{c:Expr}(hc:PT X c tA)(ha:PE X a ta)(hb:PE X b tb):PE X (.IfExp c a b pos) (Ah tA ta tb):=by
 intro pins s σ H Q I h;refine wpAny_IfExp (bQ (hc pins s σ H _ I h) fun d s1 ⟨H1,I1,q1⟩=>?_)
 cases d with
 | true=>exact ha pins s1 σ H1 Q I1 q1
 | false=>exact hb pins s1 σ H1 Q I1 q1
end
end L2
namespace L2
open PySem PySem.Spec PyProof.Rows
def bf(K:Frag)(H:Hp)(a:Addr)(xs:List V):Prop:=
 Rd H a (.lst xs)∨
  ∃(o:Obj) (its:Array Value) (n:Nat),K.lookup a=some o∧o.cls=.type "list"∧o.dict=none∧o.data=.seq its n∧its.size≤sizeLine∧aS xs its.toList
def eT(K:Frag)(H:Hp)(a:Addr)(xs:List V):Prop:=
 Rd H a (.tup xs)∨
  ∃(o:Obj) (its:Array Value) (n:Nat),K.lookup a=some o∧o.cls=.type "tuple"∧o.data=.seq its n∧its.size≤sizeLine∧aS xs its.toList
def Av:Value→Option V
 | .none=>some .non
 | .bool b=>some (.bl b)
 | .int i _=>some (.int i)
 | .str x _=>some (.str x)
 | .bytes b _=>some (.byt b)
 | .float b _=>some (.flt b)
 | .ref a=>some (.ref a)
 | .type n=>some (.ty n)
 | _=>none
theorem aQ.abs{x:V}{u:Value}(r:aQ x u):Av u=some x:=by
 cases x with
 | non=>cases r;rfl
 | bl _=>cases r;rfl
 | int _=>obtain⟨t,rfl⟩:=r;rfl
 | str _=>obtain⟨t,rfl⟩:=r;rfl
 | byt _=>obtain⟨t,rfl⟩:=r;rfl
 | flt _=>obtain⟨t,rfl⟩:=r;rfl
 | ref _=>cases r;rfl
 | ty _=>cases r;rfl
theorem aQ.inj{x y:V}{u:Value}(r:aQ x u)(q:aQ y u):x=y:=Option.some.inj (r.abs.symm.trans q.abs)
theorem aS.inj:∀{xs ys:List V} {us:List Value},aS xs us→aS ys us→xs=ys
 | _,_,_,.nil,.nil=>rfl
 | _,_,_,.cons r t,.cons r' t'=>by rw [r.inj r',aS.inj t t']
section
variable {X:Cx} {pins:List (Addr×Obj)} {σ:St} {H:Hp} {s:Shared} {a:Addr} {xs ys:List V}
theorem bf.of{K:Frag}(h:H a=some (.lst xs)):bf K H a xs:=.inl (.inl h)
theorem eT.of{K:Frag}(h:H a=some (.tup xs)):eT K H a xs:=.inl (.inl h)
theorem aJ.list(I:aJ X pins σ H s)(h:bf X.K H a xs):∃its:List Value,aS xs its∧PlainL s.heap a its.toArray∧xs.length≤sizeLine:=by
 rcases h with h | ⟨o,its,n,hk,hc,hd,hs,hz,r⟩
 ·obtain⟨z,its,n,r,e⟩:=h.ok I.hok
  exact⟨its,r,⟨_,n,e,rfl,rfl,rfl⟩,z⟩
 ·refine⟨its.toList,r,⟨o,n,I.kIn a o hk,hc,hd,by simpa using hs⟩,?_⟩
  have e:=r.length;simp only [ai0]at e;omega
theorem aJ.tuple(I:aJ X pins σ H s)(h:eT X.K H a xs):∃its:List Value,aS xs its∧IsTup s.heap a its.toArray∧xs.length≤sizeLine:=by
 rcases h with h | ⟨o,its,n,hk,hc,hs,hz,r⟩
 ·obtain⟨z,its,r,p⟩:=h.ok I.hok
  exact⟨its,r,p,z⟩
 ·refine⟨its.toList,r,⟨o,I.kIn a o hk,hc,n,by simpa using hs⟩,?_⟩
  have e:=r.length;simp only [ai0]at e;omega
theorem aJ.list_inj(I:aJ X pins σ H s)(h:bf X.K H a xs)(h':bf X.K H a ys):xs=ys:=by
 obtain⟨its,r,⟨o,n,e,_,_,d⟩,_⟩:=I.list h;obtain⟨its',r',⟨o',n',e',_,_,d'⟩,_⟩:=I.list h';rw [e]at e';cases e';rw [d]at d'
 injection d' with d1 _
 have:its=its':=by simpa using congrArg Array.toList d1
 subst this;exact r.inj r'
theorem aJ.tuple_inj(I:aJ X pins σ H s)(h:eT X.K H a xs)(h':eT X.K H a ys):xs=ys:=by
 obtain⟨its,r,⟨o,e,_,n,d⟩,_⟩:=I.tuple h;obtain⟨its',r',⟨o',e',_,n',d'⟩,_⟩:=I.tuple h';rw [e]at e';cases e';rw [d]at d'
 injection d' with d1 _
 have:its=its':=by simpa using congrArg Array.toList d1
 subst this;exact r.inj r'
end
abbrev Cx.wish(X:Cx)(E:Value→Shared→Prop):Cx:={ X with xe:=E }
abbrev Cx.nox(X:Cx):Cx:=X.wish fun _ _=>False
theorem Cx.Ok.wish{X:Cx}(ok:X.Ok)(E:Value→Shared→Prop):(X.wish E).Ok:=
 ⟨ok.mod,ok.kind,ok.glob,ok.blt,ok.above,ok.inj,ok.has,ok.cab,ok.hd,ok.frames,ok.stk,ok.exf,ok.bs,ok.bsz,ok.noex,ok.exfs,ok.funs,ok.frf⟩
theorem Cx.Ok.unwish{X:Cx}{E:Value→Shared→Prop}(ok:(X.wish E).Ok):X.Ok:=
 ⟨ok.mod,ok.kind,ok.glob,ok.blt,ok.above,ok.inj,ok.has,ok.cab,ok.hd,ok.frames,ok.stk,ok.exf,ok.bs,ok.bsz,ok.noex,ok.exfs,ok.funs,ok.frf⟩
section
variable {X:Cx} {pins:List (Addr×Obj)} {σ:St} {H:Hp} {s:Shared} {E:Value→Shared→Prop}
theorem aJ.wish(I:aJ X pins σ H s)(E:Value→Shared→Prop):aJ (X.wish E) pins σ H s:=⟨I.ok.wish E,I.os,I.bare,I.base,I.loc,I.cell,I.free,I.freeC,I.pin,I.hok,I.len⟩
theorem aJ.unwish(I:aJ (X.wish E) pins σ H s):aJ X pins σ H s:=⟨I.ok.unwish,I.os,I.bare,I.base,I.loc,I.cell,I.free,I.freeC,I.pin,I.hok,I.len⟩
theorem SP.unwish{D:eU}{f:Flow}{s':Shared}(h:SP (X.wish E) pins D f s'):SP X pins D f s':=by
 cases f with
 | next=>obtain⟨σ',H',I,q⟩:=h;exact⟨σ',H',I.unwish,q⟩
 | brk=>obtain⟨σ',H',I,q⟩:=h;exact⟨σ',H',I.unwish,q⟩
 | cont=>obtain⟨σ',H',I,q⟩:=h;exact⟨σ',H',I.unwish,q⟩
 | ret u=>obtain⟨v,σ',H',I,r,q⟩:=h;exact⟨v,σ',H',I.unwish,r,q⟩
theorem PE.nox{e:Expr}{t:TE}(h:PE X.nox e t):PE X e t:=fun pins s σ H Q I hw=>
 wpAny_mono (h pins s σ H Q (I.wish _) hw) (fun _ _ ⟨v,H',I',r,q⟩=>⟨v,H',I'.unwish,r,q⟩) fun _ _ z=>False.elim z
theorem PT.nox{e:Expr}{t:TT}(h:PT X.nox e t):PT X e t:=fun pins s σ H Q I hw=>
 wpAny_mono (h pins s σ H Q (I.wish _) hw) (fun _ _ ⟨H',I',q⟩=>⟨H',I'.unwish,q⟩) fun _ _ z=>False.elim z
theorem rF.nox{st:List Stmt}{t:TS}(h:rF X.nox st t):rF X st t:=fun pins s σ H D I hw=>
 wpAny_mono (h pins s σ H D (I.wish _) hw) (fun _ _ q=>q.unwish) fun _ _ z=>False.elim z
end
section
variable {X:Cx} {st:Stmt} {rest:List Stmt} {t u:TS} {e:Expr} {te:TE} {pos:Pos}
def pz:TS:=fun D σ H=>D.nx σ H
def jY(t u:TS):TS:=fun D σ H=>t { D with nx:=u D } σ H
theorem av:rF X [] pz:=fun _ _ σ H _ I h=>wpAny_execs_nil ⟨σ,H,I,h⟩
theorem ag(h1:PS X st t)(h2:rF X rest u):rF X (st::rest) (jY t u):=by
 intro pins s σ H D I h;refine wpAny_execs_cons (bQ (h1 pins s σ H { D with nx:=u D } I h) fun f s1 q=>?_)
 cases f with
 | next=>
  obtain⟨σ',H',I',q⟩:=q;exact h2 pins s1 σ' H' D I' q
 | ret v=>exact q
 | brk=>exact q
 | cont=>exact q
theorem ai(h1:PS X st t):rF X [st] t:=by
 intro pins s σ H D I h;refine wpAny_execs_cons (bQ (h1 pins s σ H D I h) fun f s1 q=>?_)
 cases f with
 | next=>exact wpAny_execs_nil q
 | ret v=>exact q
 | brk=>exact q
 | cont=>exact q
theorem aJ.quiet{pins:List (Addr×Obj)}{σ:St}{H:Hp}{s:Shared}(I:aJ X pins σ H s):interactive X.env=false:=by simp [interactive,I.ok.kind]
def rm(te:TE):TS:=fun D σ H=>te σ H fun _ H1=>D.nx σ H1
theorem cD(he:PE X e te)(hs:swapsWith e none pos.line X.env=pure false:=by rfl):PS X (.Expr e pos) (rm te):=by
 intro pins s σ H D I h;exact wpAny_Expr_any (bQ (he pins s σ H _ I h) fun v s1 ⟨x,H1,I1,r1,q1⟩=>⟨σ,H1,I1,q1⟩) I.quiet hs
def xl(te:TE):TS:=fun D σ H=>te σ H D.rt
theorem ak(he:PE X e te):PS X (.Return (some e) pos) (xl te):=by
 intro pins s σ H D I h;exact wpAny_Return_some (bQ (he pins s σ H _ I h) fun v s1 ⟨x,H1,I1,r1,q1⟩=>⟨x,σ,H1,I1,r1,q1⟩)
def vk:TS:=fun D _ H=>D.rt .non H
def vj(c:TT)(t u:TS):TS:=fun D σ H=>c σ H fun b H1=>if b=true then t D σ H1 else u D σ H1
theorem aO{c:Expr}{a b:List Stmt}{tc:TT}(hc:PT X c tc)(ha:rF X a t)(hb:rF X b u):PS X (.If c a b pos) (vj tc t u):=by
 intro pins s σ H D I h;refine wpAny_If (bQ (hc pins s σ H _ I h) fun d s1 ⟨H1,I1,q1⟩=>?_)
 cases d with
 | true=>exact ha pins s1 σ H1 D I1 q1
 | false=>exact hb pins s1 σ H1 D I1 q1
end
abbrev TG:=V→St→Hp→(St→Hp→Prop)→Prop
abbrev ze:=List V→St→Hp→(St→Hp→Prop)→Prop
def PG(X:Cx)(target:Expr)(t:TG):Prop:=
 ∀(pins:List (Addr×Obj)) (s:Shared) (σ:St) (H:Hp) (v:V) (u:Value) (Q:St→Hp→Prop),aJ X pins σ H s→aQ v u→t v σ H Q→
  wpAny (model X.prog X.w) X.A (assign target X.env u) (fun _ s'=>∃σ' H',aJ X pins σ' H' s'∧Q σ' H') X.xe s
abbrev xS:=V→V→V→Hp→(Hp→Prop)→Prop
def zd(X:Cx)(t:xS):Prop:=
 ∀(pins:List (Addr×Obj)) (s:Shared) (σ:St) (H:Hp) (o i v:V) (ov iv u:Value) (Q:Hp→Prop),aJ X pins σ H s→aQ o ov→aQ i iv→aQ v u→t o i v H Q→
  wpAny (model X.prog X.w) X.A (setItem ov iv u) (fun _ s'=>∃H',aJ X pins σ H' s'∧Q H') X.xe s
abbrev AK:=V→V→Hp→VK→Prop
section
variable {X:Cx} {pos:Pos}
def kZ(i:Nat):TG:=fun v σ H Q=>Q (σ.set i (some v)) H
theorem cC{i:Nat}{x:Str}(hN:X.N.Nodup)(hi:X.N[i]?=some x)(hx:xQ X.env.scope x)(hf:X.fn x=true∨X.env.scope.names.lookup x=some .local:=by first | exact .inl rfl | exact .inr rfl | assumption):PG X (.Name x pos) (kZ i):=by
 intro pins s σ H v u Q I r h;exact wpAny_assign_Name (fm I hN hi hx r (fun s' I'=>⟨_,H,I',h⟩) hf)
def zr:ze:=fun vs σ H Q=>vs=[]∧Q σ H
def xB(t:TG)(u:ze):ze:=fun vs σ H Q=>∃v r,vs=v::r∧t v σ H fun σ' H'=>u r σ' H' Q
def zu(K:Frag)(n:Nat)(t:ze):TG:=fun v σ H Q=>∃a xs,v=.ref a∧eT K H a xs∧xs.length=n∧t xs σ H Q
def xZ(to ti:TE)(t:xS):TG:=fun v σ H Q=>to σ H fun o H1=>ti σ H1 fun i H2=>t o i v H2 fun H3=>Q σ H3
theorem yu{o i:Expr}{to ti:TE}{t:xS}(ho:PE X o to)(hi:PE X i ti)(hs:zd X t)
  (ha:∀v,assign (.Subscript o i pos) X.env v=(do
   let ov ←holding [v] (eval o X.env)
   let iv ←holding [v,ov] (eval i X.env)
   standAt pos
   holding [v,ov,iv] (setItem ov iv v)
   release [v,ov,iv] []):=by intro _;rfl):PG X (.Subscript o i pos) (xZ to ti t):=by
 intro pins s σ H v u Q I r h;rw [ha];refine wpAny_bind (wpAny_holding (bQ (ho pins s σ H _ I h) fun ov s1 ⟨x,H1,I1,r1,q1⟩=>?_));refine wpAny_bind (wpAny_holding (bQ (hi pins s1 σ H1 _ I1 q1) fun iv s2 ⟨y,H2,I2,r2,q2⟩=>?_));refine wpAny_bind (wpAny_standAt (wpAny_bind (wpAny_holding (bQ (hs pins s2 σ H2 x y v ov iv u _ I2 r1 r2 r q2) fun _ s3 ⟨H3,I3,q3⟩=>?_))));exact wpAny_release ⟨σ,H3,I3,q3⟩
def sM(te:TE)(g:TG):TS:=fun D σ H=>te σ H fun x H1=>g x σ H1 D.nx
theorem yy{tg e:Expr}{te:TE}{g:TG}(he:PE X e te)(hg:PG X tg g)(hs:swapsWithSole [tg] e pos.line X.env=pure false:=by rfl)(hw:swappedStores [tg] e X.env=pure none:=by rfl)
  (h1:(assignEach [tg] X.env).map (·.2)=[assign tg X.env]:=by rfl):PS X (.Assign [tg] e pos) (sM te g):=by
 intro pins s σ H D I h;refine wpAny_Assign_stores (bQ (he pins s σ H _ I h) fun v s1 ⟨x,H1,I1,r1,q1⟩=>?_) hs hw;rw [h1];exact bQ (hg pins s1 σ H1 x v _ I1 r1 q1) fun _ s2 q=>q
theorem aL{i:Nat}{x:Str}{e:Expr}{te:TE}{pos':Pos}(hN:X.N.Nodup)(hi:X.N[i]?=some x)(hx:xQ X.env.scope x)(he:PE X e te)(hs:swapsWith e (some (.Name x pos')) pos.line X.env=pure false:=by rfl)(hf:X.fn x=true∨X.env.scope.names.lookup x=some .local:=by first | exact .inl rfl | exact .inr rfl | assumption):
  PS X (.Assign [.Name x pos'] e pos) (sM te (kZ i)):=by
 intro pins s σ H D I h;refine wpAny_Assign_Name (bQ (he pins s σ H _ I h) fun v s1 ⟨y,H1,I1,r1,q1⟩=>?_) hs;exact fm I1 hN hi hx r1 (fun s2 I2=>⟨_,H1,I2,q1⟩) hf
def zW(i:Nat)(te:TE)(ti:AK):TS:=fun D σ H=>∃x,σ[i]?=some (some x)∧te σ H fun y H1=>ti x y H1 fun z H2=>D.nx (σ.set i (some z)) H2
end
section
variable {X:Cx} {pos:Pos}
end
structure It where
 go:Nat→Hp→Prop
 yld:Nat→Hp→V→Hp→Prop
 stop:Nat→Hp→Prop
def j2(X:Cx)(pins:List (Addr×Obj))(H:Hp)(b:Addr):Prop:=
 H b=none∧b≠X.env.locals∧b∉X.fs∧(b∈X.ex∨X.s₀.heap.objs.size≤b)∧(∀x c,X.env.cells.lookup x=some c→c≠b)∧∀p∈X.pn++pins,p.1≠b
theorem aJ.fpOk{X:Cx}{pins:List (Addr×Obj)}{σ:St}{H H':Hp}{s:Shared}{b:Addr}(I:aJ X pins σ H s)(hb:s.heap.objs.size≤b)(hn:H' b=none):j2 X pins H' b:=by
 refine⟨hn,ag8 (aa6 I.lt hb),I.nofs hb,.inr (aa7 I.sz hb),fun x c e z=>?_,fun p hp z=>?_⟩
 ·obtain⟨v,q⟩:=I.cell x c e
  exact absurd (aa6 q.lt (by rw [z];exact hb)) (ae2 _)
 ·exact absurd (aa6 (aa9 (I.pin p hp).1) (by rw [z];exact hb)) (ae2 _)
structure rG(P:Program)(w:World)(K:Frag)(tg:Expr)(J:It)(fp:List Addr)(it:Addr)(tn:Nat→Heap→Prop):Prop where
 mem:it∈fp
 obj:∀i h,tn i h→∀b∈fp,∃o,h.get? b=some o∧∀v,o.data≠.cell v
 keep:∀i h h',tn i h→(∀b∈fp,∀o,h.get? b=some o→h'.get? b=some o)→tn i h'
 item:∀(X:Cx),X.prog=P→X.w=w→X.K=K→X.calm=true→∀(i:Nat) (pins:List (Addr×Obj)) (s:Shared) (σ:St) (H:Hp) (E:Value→Shared→Prop),aJ X pins σ H s→(∀b∈fp,j2 X pins H b)→tn i s.heap→J.go i H→
  wpAny (model P w) X.A (pyNext (.ref it)) (fun r s1=>∃u,r=some u∧
   wpAny (model P w) X.A (letOwnedTupleGo tg (.ref it) u) (fun _ s2=>∃x H',aJ X pins σ H' s2∧aQ x u∧J.yld i H x H'∧tn (i+1) s2.heap∧∀b∈fp,H' b=none) E s1) E s
 done:∀(X:Cx),X.prog=P→X.w=w→X.K=K→X.calm=true→∀(i:Nat) (pins:List (Addr×Obj)) (s:Shared) (σ:St) (H:Hp) (E:Value→Shared→Prop),aJ X pins σ H s→(∀b∈fp,j2 X pins H b)→tn i s.heap→J.stop i H→
  wpAny (model P w) X.A (pyNext (.ref it)) (fun r s1=>r=none∧aJ X pins σ H s1) E s
 self:∀(A:Around) (i:Nat) (s:Shared) (Q:Value→Shared→Prop) (E:Value→Shared→Prop),tn i s.heap→Q (.ref it) s→wpAny (model P w) A (pyIter (.ref it)) Q E s
abbrev TI:=St→Hp→(It→Hp→Prop)→Prop
def z8(X:Cx)(pins:List (Addr×Obj))(σ:St)(tg:Expr)(R:It→Hp→Prop)(itv:Value)(s2:Shared):Prop:=
 ∃(it:Addr) (fp:List Addr) (tn:Nat→Heap→Prop) (J:It) (H':Hp),itv=.ref it∧aJ X pins σ H' s2∧rG X.prog X.w X.K tg J fp it tn∧tn 0 s2.heap∧(∀b∈fp,j2 X pins H' b)∧R J H'
def PI(X:Cx)(tg iter:Expr)(wi:TI):Prop:=
 ∀(pins:List (Addr×Obj)) (s:Shared) (σ:St) (H:Hp) (R:It→Hp→Prop),aJ X pins σ H s→wi σ H R→
  wpAny (model X.prog X.w) X.A (eval iter X.env) (fun v s1=>wpAny (model X.prog X.w) X.A (pyIter v) (z8 X pins σ tg R) X.xe s1) X.xe s
theorem qS{M:Model}{A:Around}{E:Value→Shared→Prop}{s:Shared}{tg:Expr}{it:Addr}{u:Value}{o:Obj}{n:String}{vs:Array Value}{Q:Unit→Shared→Prop}(ho:s.heap.get? it=some o)(hc:o.cls=.type n)(hd:o.data=.fields vs)
  (hn:["enumerate","zip","dict_itemiterator","dict_reverseitemiterator","odict_iterator","itertools.zip_longest","itertools.pairwise"].contains n=false) (hQ:Q () s):wpAny M A (letOwnedTupleGo tg (.ref it) u) Q E s:=by
 unfold letOwnedTupleGo
 cases tg<;>first
  | exact wpAny_pure hQ
  | (cases u<;>first | exact wpAny_pure hQ | (refine wpAny_bind (wpAny_load ho ?_);rw [hc,hd];show wpAny M A (if (["enumerate","zip","dict_itemiterator","dict_reverseitemiterator","odict_iterator","itertools.zip_longest","itertools.pairwise"].contains n && vs[0]? == some (rawInt _))=true then _ else _) Q E s;rw [if_neg (by intro h;rw [hn,ag9]at h;cases h)];exact wpAny_pure hQ))
def sX(K:Frag)(a:Addr):It:=
 ⟨fun i H=>∃xs x,bf K H a xs∧xs[i]?=some x,fun i H x H'=>H'=H∧∀xs,bf K H a xs→xs[i]?=some x,fun i H=>∃xs,bf K H a xs∧xs.length≤i⟩
def Ao(K:Frag)(a:Addr):It:=
 ⟨fun i H=>∃xs x,eT K H a xs∧xs[i]?=some x,fun i H x H'=>H'=H∧∀xs,eT K H a xs→xs[i]?=some x,fun i H=>∃xs,eT K H a xs∧xs.length≤i⟩
def vC(lo:Int)(n:Nat):It:=⟨fun i _=>i < n,fun i H x H'=>H'=H∧x=.int (lo+i),fun i _=>n≤i⟩
theorem sO{P:Program}{w:World}{K:Frag}{tg:Expr}(a it:Addr):rG P w K tg (sX K a) [it] it (fun i h=>h.IsListIter it a i) where
 mem:=by simp
 obj:=fun i h st b hb=>by
  have e:b=it:=by simpa using hb
  subst e;obtain⟨o,e,c,d⟩:=st;exact⟨o,e,fun v z=>by rw [d]at z;cases z⟩
 keep:=fun i h h' st k=>st.at fun o e=>k it (by simp) o e
 item:=by
  intro X hP hw hK hc i pins s σ H E I hf st hg;subst hP hw hK;obtain⟨xs,x,hq,hx⟩:=hg;obtain⟨its,rv,p,hz⟩:=I.list hq;obtain⟨u,hu,ru⟩:=rv.get hx;obtain⟨f0,f1,f2,f3,f4,f5⟩:=hf it (by simp);refine wpAny_pyNext_list_item st p.isList (x:=u) (by simpa using hu) fun h' st' sb=>?_;have I1:aJ X pins σ H { s with heap:=h' }:=I.turned (t':=s.toks) (fun b o hb e=>(sb.2 b hb).trans e) f0 f1 f3 f4 f5;obtain⟨o,e,c,d⟩:=id st';exact⟨u,rfl,qS (s:={ s with heap:=h' }) e c d (by decide) ⟨x,H,I1,ru,⟨rfl,fun ys hy=>by rw [I.list_inj hy hq];exact hx⟩,st',fun b hb=>(hf b hb).1⟩⟩
 done:=by
  intro X hP hw hK hc i pins s σ H E I hf st hg;subst hP hw hK;obtain⟨xs,hq,hx⟩:=hg;obtain⟨its,rv,p,hz⟩:=I.list hq;obtain⟨f0,f1,f2,f3,f4,f5⟩:=hf it (by simp);have hl:=rv.length;exact wpAny_pyNext_list_end (I.ok.hd hc) st p.isList (by simp;omega) fun h' eb=>⟨rfl,I.turned (t':=s.toks) (fun b o hb e=>eb b o hb e) f0 f1 f3 f4 f5⟩
 self:=fun _ _ _ _ _ st h=>wpAny_pyIter_listiter st h
theorem qz{P:Program}{w:World}{K:Frag}{tg:Expr}(a it:Addr):rG P w K tg (Ao K a) [it] it (fun i h=>h.IsTupleIter it a i) where
 mem:=by simp
 obj:=fun i h st b hb=>by
  have e:b=it:=by simpa using hb
  subst e;obtain⟨o,e,c,d⟩:=st;exact⟨o,e,fun v z=>by rw [d]at z;cases z⟩
 keep:=fun i h h' st k=>st.at fun o e=>k it (by simp) o e
 item:=by
  intro X hP hw hK hc i pins s σ H E I hf st hg;subst hP hw hK;obtain⟨xs,x,hq,hx⟩:=hg;obtain⟨its,rv,p,hz⟩:=I.tuple hq;obtain⟨u,hu,ru⟩:=rv.get hx;obtain⟨f0,f1,f2,f3,f4,f5⟩:=hf it (by simp);refine wpAny_pyNext_tuple_item st (show s.heap.IsTuple a its.toArray from p) (x:=u) (by simpa using hu) fun h' st' sb=>?_;have I1:aJ X pins σ H { s with heap:=h' }:=I.turned (t':=s.toks) (fun b o hb e=>(sb.2 b hb).trans e) f0 f1 f3 f4 f5;obtain⟨o,e,c,d⟩:=id st';exact⟨u,rfl,qS (s:={ s with heap:=h' }) e c d (by decide) ⟨x,H,I1,ru,⟨rfl,fun ys hy=>by rw [I.tuple_inj hy hq];exact hx⟩,st',fun b hb=>(hf b hb).1⟩⟩
 done:=by
  intro X hP hw hK hc i pins s σ H E I hf st hg;subst hP hw hK;obtain⟨xs,hq,hx⟩:=hg;obtain⟨its,rv,p,hz⟩:=I.tuple hq;obtain⟨f0,f1,f2,f3,f4,f5⟩:=hf it (by simp);have hl:=rv.length;exact wpAny_pyNext_tuple_end (I.ok.hd hc) st (show s.heap.IsTuple a its.toArray from p) (by simp;omega) fun h' eb=>⟨rfl,I.turned (t':=s.toks) (fun b o hb e=>eb b o hb e) f0 f1 f3 f4 f5⟩
 self:=fun _ _ _ _ _ st h=>wpAny_pyIter_tupleiter st h
theorem qy{P:Program}{w:World}{K:Frag}{tg:Expr}(it:Addr)(lo:Int)(n:Nat):rG P w K tg (vC lo n) [it] it (fun i h=>IsRangeIter h it (lo+(i:Nat) * 1) ((n:Int) - (i:Nat)) 1) where
 mem:=by simp
 obj:=fun i h st b hb=>by
  have e:b=it:=by simpa using hb
  subst e
  exact⟨_,st,fun v z=>by
   have z':Data.fields _=Data.cell v:=z
   cases z'⟩
 keep:=fun i h h' st k=>k it (by simp) _ st
 item:=by
  intro X hP hw hK hc i pins s σ H E I hf st hg;subst hP hw hK;obtain⟨f0,f1,f2,f3,f4,f5⟩:=hf it (by simp);have W:=Walks.range (prog:=X.prog) (w:=X.w) (I.ok.hd hc) it lo 1 n;refine W.item i s _ _ hg st fun v h' tk hv st' kk=>?_;obtain⟨t,rfl⟩:=hv;have I1:aJ X pins σ H { s with heap:=h',toks:=tk }:=I.turned (fun b o hb e=>kk b o (by simpa using hb) e) f0 f1 f3 f4 f5;refine⟨_,rfl,qS (s:={ s with heap:=h',toks:=tk }) (n:="range_iterator") st' rfl rfl (by decide) ⟨.int (lo+i),H,I1,⟨t,?_⟩,⟨rfl,rfl⟩,st',fun b hb=>(hf b hb).1⟩⟩;rw [Int.mul_one]
 done:=by
  intro X hP hw hK hc i pins s σ H E I hf st hg;subst hP hw hK;obtain⟨f0,f1,f2,f3,f4,f5⟩:=hf it (by simp);exact wpAny_pyNext_range_end (I.ok.hd hc) st (by have:n≤i:=hg;omega) fun h' eb=>⟨rfl,I.turned (t':=s.toks) (fun b o hb e=>eb b o hb e) f0 f1 f3 f4 f5⟩
 self:=fun _ _ _ _ _ st h=>wpAny_pyIter_rangeiter st h
end L2
namespace L2
open PySem PySem.Spec PyProof.Rows
section
variable {X:Cx} {tg:Expr}
theorem u9{pins:List (Addr×Obj)}{σ:St}{H:Hp}{s:Shared}{R:It→Hp→Prop}{E:Value→Shared→Prop}{lo hi:Int}{t u v:Tok}{tk:Nat}(I:aJ X pins σ H s)(h1:-(2 ^ 62)≤lo)(h2:lo < 2 ^ 62)(h3:-(2 ^ 62)≤hi)(h4:hi < 2 ^ 62)
  (q:R (vC lo (hi - lo).toNat) H):wpAny (model X.prog X.w) X.A (pyIter (.ref s.heap.objs.size)) (z8 X pins σ tg R) E { s with heap:=s.heap.push { cls:=.type "range",data:=.fields #[.int lo t,.int hi u,.int 1 v] },toks:=tk }:=by
 refine wpAny_pyIter_range (IsRange.new ..) (small_one h1 h2 h3 h4) ?_;have I1:aJ X pins σ H { s with heap:=s.heap.push { cls:=.type "range",data:=.fields #[.int lo t,.int hi u,.int 1 v] },toks:=tk }:=I.kept fun b o e=>aa2 _ e
 refine⟨(s.heap.push { cls:=.type "range",data:=.fields #[.int lo t,.int hi u,.int 1 v] }).objs.size,[(s.heap.push { cls:=.type "range",data:=.fields #[.int lo t,.int hi u,.int 1 v] }).objs.size],_,_,H,rfl,
  I1.kept (t':=tk) fun b o e=>aa2 _ e,qy _ lo (hi - lo).toNat,?_,fun b hb=>?_,q⟩
 ·have e1:lo+((0:Nat):Int) * 1=lo:=by simp
  have e2:(((hi - lo).toNat:Nat):Int) - ((0:Nat):Int)=Builtin.Range.rangeSize lo hi 1:=by rw [rangeSize_one];split<;>omega
  show IsRangeIter _ _ (lo+((0:Nat):Int) * 1) ((((hi - lo).toNat:Nat):Int) - ((0:Nat):Int)) 1;rw [e1,e2];exact ab6 _ rfl
 ·have e:b=(s.heap.push { cls:=.type "range",data:=.fields #[.int lo t,.int hi u,.int 1 v] }).objs.size:=by simpa using hb
  subst e;exact I1.fpOk (aa3 _) (I1.hok.fresh (aa3 _))
def uc(ta:TA):TI:=fun σ H R=>ta σ H fun vs H1=>∃j:Int,vs=[.int j]∧-(2 ^ 62)≤j∧j < 2 ^ 62∧R (vC 0 j.toNat) H1
def xD(ta:TA):TI:=fun σ H R=>ta σ H fun vs H1=>∃i j:Int,vs=[.int i,.int j]∧(-(2 ^ 62)≤i∧i < 2 ^ 62∧-(2 ^ 62)≤j∧j < 2 ^ 62)∧R (vC i (j - i).toNat) H1
theorem fE{a:Expr}{ta:TA}{p pos:Pos}(hg:Gl X "range")(hm:X.mg "range"=none)(ha:PA X [a] ta)(hs:starEach [a] X.env=[(false,eval a X.env)]:=by rfl):PI X tg (.Call (.Name "range" p) [a] [] pos) (uc ta):=by
 intro pins s σ H R I h;refine Call_ (mD I hg hm boot_range (PyProof.Rows.callWith_type1 (bQ (ha pos pins s σ H _ I h) fun us s1 ⟨vs,H1,I1,r1,q1⟩=>?_) hs rfl));obtain⟨j,e,q1,q2,q⟩:=q1;subst e
 cases r1 with
 | cons r rr=>
  cases rr;obtain⟨t,rfl⟩:=r;exact call_range_1 (u9 I1 (by omega) (by omega) q1 q2 (by simpa using q))
def zZ(wi:TI)(g:TG)(tb:TS):TS:=fun D σ H=>wi σ H fun J H1=>∃W:Nat→Nat→St→Hp→Prop,(∃m,W 0 m σ H1)∧∀i m σ H,W i m σ H→
 (J.stop i H∧D.nx σ H)∨(J.go i H∧∃N:St→Hp→Prop,(∀σ' H',N σ' H'→∃m',m' < m∧W (i+1) m' σ' H')∧∀x H',J.yld i H x H'→g x σ H' fun σ2 H2=>tb { D with nx:=N,ct:=N,bk:=D.nx } σ2 H2)
def mY(fp:List Addr)(h:Heap):List (Addr×Obj):=fp.filterMap fun b=>(h.get? b).map fun o=>(b,o)
theorem cL{fp:List Addr}{h:Heap}{b:Addr}{o:Obj}(hb:b∈fp)(e:h.get? b=some o):(b,o)∈mY fp h:=ai3.mpr ⟨b,hb,by rw [e];rfl⟩
theorem sv{fp:List Addr}{h:Heap}{p:Addr×Obj}(hp:p∈mY fp h):p.1∈fp∧h.get? p.1=some p.2:=by
 obtain⟨b,hb,e⟩:=ai3.mp hp
 cases q:h.get? b with
 | none=>rw [q]at e;cases e
 | some o=>
  rw [q]at e;have e':(b,o)=p:=Option.some.inj e;subst e';exact⟨hb,q⟩
theorem aJ.pinned{pins:List (Addr×Obj)}{σ:St}{H:Hp}{s:Shared}{fp:List Addr}(I:aJ X pins σ H s)(hf:∀b∈fp,j2 X pins H b)(ho:∀b∈fp,∃o,s.heap.get? b=some o∧∀v,o.data≠.cell v):aJ X (pins++mY fp s.heap) σ H s:=
 I.pins_of fun p hp=>(ac2.mp hp).elim (fun z=>I.pin p (ab0 _ z)) fun z=>by
  obtain⟨hb,e⟩:=sv z;obtain⟨f0,f1,f2,_⟩:=hf p.1 hb;obtain⟨o,e',d⟩:=ho p.1 hb;rw [e]at e';cases e';exact⟨e,f0,f1,f2,d⟩
theorem aJ.unpinned{pins pl:List (Addr×Obj)}{σ:St}{H:Hp}{s:Shared}(I:aJ X (pins++pl) σ H s):aJ X pins σ H s:=I.pins_of fun p hp=>I.pin p (ab0 _ (ag0 _ hp))
theorem jH{iter:Expr}{body:List Stmt}{wi:TI}{g:TG}{tb:TS}{pos:Pos}(hp:PassesOwn (model X.prog X.w) X.A X.env X.xe)(hc:X.calm=true)(hi:PI X tg iter wi)(hg:PG X tg g)(hb:rF X body tb)
  (hs:∀x,foldedSetIterable iter X.env x=pure x:=by intro _;rfl):PS X (.For tg iter body [] pos) (zZ wi g tb):=by
 intro pins s σ H D I h;refine wpAny_For (bQ (hi pins s σ H _ I h) fun v s1 h1=>bQ h1 fun itv s2 h2=>?_) hs;obtain⟨it,fp,tn,J,H2,e,I2,T,st2,f2,W,⟨m0,w0⟩,turn⟩:=h2;subst e;have stat:∀{H':Hp},(∀b∈fp,H' b=none)→∀b∈fp,j2 X pins H' b:=fun hn b hb=>⟨hn b hb,(f2 b hb).2⟩;refine codeAny_forLoop_any (fun n s'=>∃i σ' H',aJ X pins σ' H' s'∧tn i s'.heap∧(∀b∈fp,H' b=none)∧W i n σ' H') ?_ m0 ⟨0,σ,H2,I2,st2,fun b hb=>(f2 b hb).1,w0⟩;rintro n s3 ⟨i,σ3,H3,I3,st3,fr3,w3⟩;rcases turn i n σ3 H3 w3 with⟨stop,qn⟩ | ⟨go,N,hN,step⟩
 ·refine wpAny_passesOwn hp (bQ (T.done X rfl rfl rfl hc i pins s3 σ3 H3 X.xe I3 (stat fr3) st3 stop) fun r s4 ⟨hr,I4⟩=>?_)
  subst hr;exact wpAny_execs_nil ⟨σ3,H3,I4,qn⟩
 ·refine wpAny_passesOwn hp (bQ (T.item X rfl rfl rfl hc i pins s3 σ3 H3 X.xe I3 (stat fr3) st3 go) fun r s4 ⟨u,hr,h4⟩=>?_)
  subst hr;refine wpAny_passesOwn hp (bQ h4 fun _ s5 ⟨x,H5,I5,r5,y5,st5,fr5⟩=>?_);have I5':=I5.pinned (stat fr5) (T.obj _ _ st5);refine wpAny_passesOwn hp (bQ (hg _ s5 σ3 H5 x u _ I5' r5 (step x H5 y5)) fun _ s6 ⟨σ6,H6,I6,q6⟩=>?_);refine wpAny_passesOwn hp (bQ (hb _ s6 σ6 H6 _ I6 q6) fun f s7 q7=>?_)
  have again:∀{σ7:St} {H7:Hp},aJ X (pins++mY fp s5.heap) σ7 H7 s7→N σ7 H7→∃m,m < n∧∃i σ' H',aJ X pins σ' H' s7∧tn i s7.heap∧(∀b∈fp,H' b=none)∧W i m σ' H':=fun {σ7 H7} I7 n7=>by
   obtain⟨m',hm,w7⟩:=hN σ7 H7 n7;refine⟨m',hm,i+1,σ7,H7,I7.unpinned,T.keep _ _ _ st5 fun b hb o e=>(I7.pin (b,o) (ab0 _ (ab0 _ (cL hb e)))).1,fun b hb=>?_,w7⟩;obtain⟨o,e,d⟩:=T.obj _ _ st5 b hb;exact(I7.pin (b,o) (ab0 _ (ab0 _ (cL hb e)))).2.1
  cases f with
  | next=>obtain⟨σ7,H7,I7,n7⟩:=q7;exact again I7 n7
  | cont=>obtain⟨σ7,H7,I7,n7⟩:=q7;exact again I7 n7
  | brk=>obtain⟨σ7,H7,I7,q7⟩:=q7;exact⟨σ7,H7,I7.unpinned,q7⟩
  | ret v=>obtain⟨x7,σ7,H7,I7,r7,q7⟩:=q7;exact⟨x7,σ7,H7,I7.unpinned,r7,q7⟩
end
theorem tZ{K:Frag}{a:Addr}{xs:List V}{g:TG}{tb:TS}{D:eU}{σ:St}{H:Hp}(Pv:Nat→St→Hp→Prop)(h0:Pv 0 σ H)(hl:∀i σ H,i≤xs.length→Pv i σ H→bf K H a xs)
  (hs:∀i x σ H,xs[i]?=some x→Pv i σ H→g x σ H fun σ2 H2=>tb { D with nx:=Pv (i+1),ct:=Pv (i+1),bk:=D.nx } σ2 H2) (hd:∀σ H,Pv xs.length σ H→D.nx σ H) :
  ∃W:Nat→Nat→St→Hp→Prop,(∃m,W 0 m σ H)∧∀i m σ H,W i m σ H→
   ((sX K a).stop i H∧D.nx σ H)∨((sX K a).go i H∧∃N:St→Hp→Prop,(∀σ' H',N σ' H'→∃m',m' < m∧W (i+1) m' σ' H')∧∀x H',(sX K a).yld i H x H'→g x σ H' fun σ2 H2=>tb { D with nx:=N,ct:=N,bk:=D.nx } σ2 H2):=by
 refine⟨fun i m σ H=>m=xs.length - i∧i≤xs.length∧Pv i σ H,⟨xs.length,by simp,ab1 _,h0⟩,?_⟩;rintro i m σ H ⟨rfl,hi,p⟩;have q:=hl i σ H hi p
 by_cases hlt:i < xs.length
 ·refine .inr ⟨⟨xs,xs[i],q,by simp [hlt]⟩,Pv (i+1),fun σ' H' p'=>⟨xs.length - (i+1),by omega,rfl,hlt,p'⟩,fun x H' y=>?_⟩
  obtain⟨e,y⟩:=y;subst e;exact hs i x σ _ (y xs q) p
 ·have e:i=xs.length:=by omega
  subst e;exact .inl ⟨⟨xs,q,aa3 _⟩,hd σ H p⟩
theorem rW{lo:Int}{n:Nat}{g:TG}{tb:TS}{D:eU}{σ:St}{H:Hp}(Pv:Nat→St→Hp→Prop)(h0:Pv 0 σ H)
  (hs:∀i σ H,i < n→Pv i σ H→g (.int (lo+i)) σ H fun σ2 H2=>tb { D with nx:=Pv (i+1),ct:=Pv (i+1),bk:=D.nx } σ2 H2) (hd:∀σ H,Pv n σ H→D.nx σ H) :
  ∃W:Nat→Nat→St→Hp→Prop,(∃m,W 0 m σ H)∧∀i m σ H,W i m σ H→
   ((vC lo n).stop i H∧D.nx σ H)∨((vC lo n).go i H∧∃N:St→Hp→Prop,(∀σ' H',N σ' H'→∃m',m' < m∧W (i+1) m' σ' H')∧∀x H',(vC lo n).yld i H x H'→g x σ H' fun σ2 H2=>tb { D with nx:=N,ct:=N,bk:=D.nx } σ2 H2):=by
 refine⟨fun i m σ H=>m=n - i∧i≤n∧Pv i σ H,⟨n,by simp,ab1 _,h0⟩,?_⟩;rintro i m σ H ⟨rfl,hi,p⟩
 by_cases hlt:i < n
 ·refine .inr ⟨hlt,Pv (i+1),fun σ' H' p'=>⟨n - (i+1),by omega,rfl,hlt,p'⟩,fun x H' y=>?_⟩
  obtain⟨e,y⟩:=y;subst e y;exact hs i σ _ hlt p
 ·have e:i=n:=by omega
  subst e;exact .inl ⟨aa3 _,hd σ H p⟩
end L2
namespace L2
open PySem PySem.Spec PyProof.Rows
abbrev R2:=V→V→Hp→VK→Prop
def cI(X:Cx)(f:Value→Value→Sem Value)(r:R2):Prop:=
 ∀(pins:List (Addr×Obj)) (s:Shared) (σ:St) (H:Hp) (x y:V) (v u:Value) (Q:VK),aJ X pins σ H s→aQ x v→aQ y u→r x y H Q→
  wpAny (model X.prog X.w) X.A (f v u) (EP X pins σ Q) X.xe s
def zh(X:Cx)(f:Value→Sem Value)(r:V→Hp→VK→Prop):Prop:=
 ∀(pins:List (Addr×Obj)) (s:Shared) (σ:St) (H:Hp) (x:V) (v:Value) (Q:VK),aJ X pins σ H s→aQ x v→r x H Q→
  wpAny (model X.prog X.w) X.A (f v) (EP X pins σ Q) X.xe s
def bR(X:Cx)(f:Value)(r:List V→Hp→VK→Prop):Prop:=
 ∀(pins:List (Addr×Obj)) (s:Shared) (σ:St) (H:Hp) (xs:List V) (us:List Value) (Q:VK),aJ X pins σ H s→aS xs us→r xs H Q→
  wpAny (model X.prog X.w) X.A (call f us) (EP X pins σ Q) X.xe s
def As(X:Cx)(r:V→Hp→(Bool→Hp→Prop)→Prop):Prop:=
 ∀(pins:List (Addr×Obj)) (s:Shared) (σ:St) (H:Hp) (x:V) (v:Value) (Q:Bool→Hp→Prop),aJ X pins σ H s→aQ x v→r x H Q→
  wpAny (model X.prog X.w) X.A (truthy v) (TP X pins σ Q) X.xe s
def xO(r:R2)(ta tb:TE):TE:=fun σ H Q=>ta σ H fun x H1=>tb σ H1 fun y H2=>r x y H2 Q
def Ak(r:V→Hp→VK→Prop)(ta:TE):TE:=fun σ H Q=>ta σ H fun x H1=>r x H1 Q
def rI(C:Int→Int→Prop)(g:Int→Int→V):R2:=fun x y H Q=>∃i j,x=.int i∧y=.int j∧C i j∧Q (g i j) H
def oR(g:Int→Int→V):R2:=fun x y H Q=>∃i j,x=.int i∧y=.int j∧Q (g i j) H
def rU(g:Int→V):V→Hp→VK→Prop:=fun x H Q=>∃i,x=.int i∧Q (g i) H
section
variable {X:Cx} {a b c:Expr} {ta tb tc:TE} {pos:Pos}
theorem vP(ha:PE X a ta)(hb:PE X b tb){pins:List (Addr×Obj)}{s:Shared}{σ:St}{H:Hp}{R:V→V→Hp→Prop}(I:aJ X pins σ H s)
  (h:ta σ H fun x H1=>tb σ H1 fun y H2=>R x y H2) {Q:Value→Shared→Prop} {f:Value→Value→Sem Value}
  (hf:∀v u s2 x y H2,aJ X pins σ H2 s2→aQ x v→aQ y u→R x y H2→wpAny (model X.prog X.w) X.A (f v u) Q X.xe s2) :
  wpAny (model X.prog X.w) X.A (eval a X.env) (fun v s₁=>wpAny (model X.prog X.w) X.A (eval b X.env) (fun u s₂=>wpAny (model X.prog X.w) X.A (f v u) Q X.xe s₂) X.xe s₁) X.xe s:=by
 refine bQ (ha pins s σ H _ I h) fun v s1 ⟨x,H1,I1,r1,q1⟩=>?_;refine bQ (hb pins s1 σ H1 _ I1 q1) fun u s2 ⟨y,H2,I2,r2,q2⟩=>?_;exact hf v u s2 x y H2 I2 r1 r2 q2
theorem ay{op:Operator}{r:R2}(ho:cI X (binaryOp op) r)(ha:PE X a ta)(hb:PE X b tb):PE X (.BinOp a op b pos) (xO r ta tb):=by
 intro pins s σ H Q I h;exact wpAny_BinOp (vP ha hb I h fun v u s2 x y H2 I2 rx ry q=>ho pins s2 σ H2 x y v u Q I2 rx ry q)
theorem xK{op:UnaryOp}{r:V→Hp→VK→Prop}(ho:zh X (unaryOp op) r)(ha:PE X a ta):PE X (.UnaryOp op a pos) (Ak r ta):=by
 intro pins s σ H Q I h;exact UnaryOp_ (bQ (ha pins s σ H _ I h) fun v s1 ⟨x,H1,I1,r1,q1⟩=>ho pins s1 σ H1 x v Q I1 r1 q1)
theorem Af{f:Value→Value→Sem Value}{C:Int→Int→Prop}{g:Int→Int→Int}
  (rule:∀(i j:Int) (t u:Tok) (s:Shared) (Q:Value→Shared→Prop) (E:Value→Shared→Prop),C i j→Q (.int (g i j) s.toks) { s with toks:=s.toks+1 }→wpAny (model X.prog X.w) X.A (f (.int i t) (.int j u)) Q E s) :
  cI X f (rI C fun i j=>.int (g i j)):=by
 intro pins s σ H x y v u Q I rx ry h;obtain⟨i,j,rfl,rfl,hc,q⟩:=h;obtain⟨t,rfl⟩:=rx;obtain⟨t',rfl⟩:=ry;exact rule i j t t' s _ _ hc ⟨.int (g i j),H,I.tok _,⟨_,rfl⟩,q⟩
theorem zH{f:Value→Value→Sem Value}{g:Int→Int→Int}
  (rule:∀(i j:Int) (t u:Tok) (s:Shared) (Q:Value→Shared→Prop) (E:Value→Shared→Prop),Q (.int (g i j) s.toks) { s with toks:=s.toks+1 }→wpAny (model X.prog X.w) X.A (f (.int i t) (.int j u)) Q E s) :
  cI X f (oR fun i j=>.int (g i j)):=by
 intro pins s σ H x y v u Q I rx ry h;obtain⟨i,j,rfl,rfl,q⟩:=h;obtain⟨t,rfl⟩:=rx;obtain⟨t',rfl⟩:=ry;exact rule i j t t' s _ _ ⟨.int (g i j),H,I.tok _,⟨_,rfl⟩,q⟩
theorem wx{f:Value→Value→Sem Value}{g:Int→Int→Bool}
  (rule:∀(i j:Int) (t u:Tok) (s:Shared) (Q:Value→Shared→Prop) (E:Value→Shared→Prop),Q (.bool (g i j)) s→wpAny (model X.prog X.w) X.A (f (.int i t) (.int j u)) Q E s) :
  cI X f (oR fun i j=>.bl (g i j)):=by
 intro pins s σ H x y v u Q I rx ry h;obtain⟨i,j,rfl,rfl,q⟩:=h;obtain⟨t,rfl⟩:=rx;obtain⟨t',rfl⟩:=ry;exact rule i j t t' s _ _ ⟨.bl (g i j),H,I,rfl,q⟩
def y9(i j:Int):Prop:=0 < j∧j < 1073741824
def Am(i j:Int):Prop:=0≤j∧j≤1000000∧i.natAbs < 2 ^ 64
theorem op_add:cI X (binaryOp .Add) (oR fun i j=>.int (i+j)):=zH fun _ _ _ _ _ _ _ q=>add_int q
theorem e9:cI X (binaryOp .Sub) (oR fun i j=>.int (i - j)):=zH fun _ _ _ _ _ _ _ q=>sub_int q
theorem bZ:cI X (binaryOp .FloorDiv) (rI y9 fun i j=>.int (i / j)):=Af fun i j _ _ _ _ _ hc q=>by
 have h1:(0:Int) < j:=hc.1;have h2:j < 1073741824:=hc.2;exact floordiv_int (by omega) (by rw [Int.fdiv_eq_ediv_of_nonneg i (by omega)];exact q) (.inl (PyProof.noPylong_small (by omega)))
theorem bA:cI X (binaryOp .Mod) (rI (fun _ j=>0 < j) fun i j=>.int (i % j)):=Af fun i j _ _ _ _ _ hc q=>by
 have h1:(0:Int) < j:=hc;exact mod_int' (by omega) (by rw [Int.fmod_eq_emod_of_nonneg i (by omega)];exact q)
theorem e8:cI X (binaryOp .Pow) (rI Am fun i j=>.int (i ^ j.toNat)):=Af fun _ _ _ _ _ _ _ hc q=>pow_int_small hc.1 hc.2.1 hc.2.2 q
theorem unI{f:Value→Sem Value}{g:Int→Int}
  (rule:∀(i:Int) (t:Tok) (s:Shared) (Q:Value→Shared→Prop) (E:Value→Shared→Prop),Q (.int (g i) s.toks) { s with toks:=s.toks+1 }→wpAny (model X.prog X.w) X.A (f (.int i t)) Q E s) :
  zh X f (rU fun i=>.int (g i)):=by
 intro pins s σ H x v Q I rx h;obtain⟨i,rfl,q⟩:=h;obtain⟨t,rfl⟩:=rx;exact rule i t s _ _ ⟨.int (g i),H,I.tok _,⟨_,rfl⟩,q⟩
theorem vt:zh X (unaryOp .USub) (rU fun i=>.int (-i)):=unI fun _ _ _ _ _ q=>neg_int q
end
def pb:V→V→Bool
 | .non,.non=>true | .non,.int _=>true | .int _,.non=>true | .non,.bl _=>true | .bl _,.non=>true | .non,.str _=>true | .str _,.non=>true
 | .int _,.int _=>true | .bl _,.bl _=>true | .str _,.str _=>true | .byt _,.byt _=>true
 | .int _,.str _=>true | .str _,.int _=>true | .bl _,.str _=>true | .str _,.bl _=>true
 | _,_=>false
def lE:R2:=fun x y H Q=>pb x y=true∧Q (.bl (decide (x=y))) H
def lF:R2:=fun x y H Q=>pb x y=true∧Q (.bl (!decide (x=y))) H
theorem qL{i j:Int}:decide (V.int i=V.int j)=(i == j):=by
 rw [af7];simp
theorem tK{i j:Bool}:decide (V.bl i=V.bl j)=(i == j):=by
 rw [af7];simp
theorem qM{i j:Str}:decide (V.str i=V.str j)=(i == j):=by
 rw [af7];simp
theorem qK{i j:Array UInt8}:decide (V.byt i=V.byt j)=(i.toList == j.toList):=by
 rw [af7];cases i;cases j;simp
section
variable {X:Cx} {a b c:Expr} {ta tb tc:TE} {pos:Pos}
theorem bg{pins:List (Addr×Obj)}{σ:St}{H:Hp}{s:Shared}{Q:VK}{k k':Bool}(I:aJ X pins σ H s)(q:Q (.bl k) H)(e:k=k'):EP X pins σ Q (.bool k') s:=by
 subst e;exact⟨.bl k,H,I,rfl,q⟩
theorem zI:cI X (compareOp .Eq) lE:=by
 intro pins s σ H x y v u Q I rx ry h;obtain⟨hs,q⟩:=h
 cases x with
 | non=>
  cases rx
  cases y with
  | non=>cases ry;exact PySem.EqNone.eq_none_none (bg I q (by simp))
  | bl j=>cases ry;exact PySem.EqNone.eq_none_bool (bg I q (by simp))
  | int j=>obtain⟨t',rfl⟩:=ry;exact PySem.EqNone.eq_none_int (bg I q (by simp))
  | str j=>obtain⟨t',rfl⟩:=ry;exact PySem.EqNone.eq_none_str (bg I q (by simp))
  | _=>exact absurd (show false=true from hs) aa0
 | bl i=>
  cases rx
  cases y with
  | non=>cases ry;exact PySem.EqNone.eq_bool_none (bg I q (by simp))
  | bl j=>cases ry;exact eq_bool (bg I q tK)
  | str j=>obtain⟨t',rfl⟩:=ry;exact PySem.EqMixed.eq_bool_str (bg I q (by simp))
  | _=>exact absurd (show false=true from hs) aa0
 | int i=>
  obtain⟨t,rfl⟩:=rx
  cases y with
  | non=>cases ry;exact PySem.EqNone.eq_int_none (bg I q (by simp))
  | int j=>obtain⟨t',rfl⟩:=ry;exact eq_int (bg I q qL)
  | str j=>obtain⟨t',rfl⟩:=ry;exact PySem.EqMixed.eq_int_str (bg I q (by simp))
  | _=>exact absurd (show false=true from hs) aa0
 | str i=>
  obtain⟨t,rfl⟩:=rx
  cases y with
  | non=>cases ry;exact PySem.EqNone.eq_str_none (bg I q (by simp))
  | bl j=>cases ry;exact PySem.EqMixed.eq_str_bool (bg I q (by simp))
  | int j=>obtain⟨t',rfl⟩:=ry;exact PySem.EqMixed.eq_str_int (bg I q (by simp))
  | str j=>obtain⟨t',rfl⟩:=ry;exact eq_str (bg I q qM)
  | _=>exact absurd (show false=true from hs) aa0
 | byt i=>
  obtain⟨t,rfl⟩:=rx
  cases y with
  | byt j=>obtain⟨t',rfl⟩:=ry;exact PySem.W.eq_bytes (bg I q qK)
  | _=>exact absurd (show false=true from hs) aa0
 | _=>cases y<;>exact absurd (show false=true from hs) aa0
theorem zL:cI X (compareOp .NotEq) lF:=by
 intro pins s σ H x y v u Q I rx ry h;obtain⟨hs,q⟩:=h
 cases x with
 | non=>
  cases rx
  cases y with
  | non=>cases ry;exact PySem.EqNone.ne_none_none (bg I q (by simp))
  | bl j=>cases ry;exact PySem.EqNone.ne_none_bool (bg I q (by simp))
  | int j=>obtain⟨t',rfl⟩:=ry;exact PySem.EqNone.ne_none_int (bg I q (by simp))
  | str j=>obtain⟨t',rfl⟩:=ry;exact PySem.EqNone.ne_none_str (bg I q (by simp))
  | _=>exact absurd (show false=true from hs) aa0
 | bl i=>
  cases rx
  cases y with
  | non=>cases ry;exact PySem.EqNone.ne_bool_none (bg I q (by simp))
  | bl j=>cases ry;exact ne_bool (bg I q (congrArg not tK))
  | str j=>obtain⟨t',rfl⟩:=ry;exact PySem.EqMixed.ne_bool_str (bg I q (by simp))
  | _=>exact absurd (show false=true from hs) aa0
 | int i=>
  obtain⟨t,rfl⟩:=rx
  cases y with
  | non=>cases ry;exact PySem.EqNone.ne_int_none (bg I q (by simp))
  | int j=>obtain⟨t',rfl⟩:=ry;exact ne_int (bg I q (congrArg not qL))
  | str j=>obtain⟨t',rfl⟩:=ry;exact PySem.EqMixed.ne_int_str (bg I q (by simp))
  | _=>exact absurd (show false=true from hs) aa0
 | str i=>
  obtain⟨t,rfl⟩:=rx
  cases y with
  | non=>cases ry;exact PySem.EqNone.ne_str_none (bg I q (by simp))
  | bl j=>cases ry;exact PySem.EqMixed.ne_str_bool (bg I q (by simp))
  | int j=>obtain⟨t',rfl⟩:=ry;exact PySem.EqMixed.ne_str_int (bg I q (by simp))
  | str j=>obtain⟨t',rfl⟩:=ry;exact ne_str (bg I q (congrArg not qM))
  | _=>exact absurd (show false=true from hs) aa0
 | byt i=>
  obtain⟨t,rfl⟩:=rx
  cases y with
  | byt j=>obtain⟨t',rfl⟩:=ry;exact PySem.W.ne_bytes (bg I q (congrArg not qK))
  | _=>exact absurd (show false=true from hs) aa0
 | _=>cases y<;>exact absurd (show false=true from hs) aa0
theorem zK:cI X (compareOp .Lt) (oR fun i j=>.bl (decide (i < j))):=wx fun _ _ _ _ _ _ _ q=>lt_int q
theorem oO:cI X (compareOp .LtE) (oR fun i j=>.bl (decide (i≤j))):=wx fun _ _ _ _ _ _ _ q=>le_int q
theorem oN:cI X (compareOp .Gt) (oR fun i j=>.bl (decide (j < i))):=wx fun _ _ _ _ _ _ _ q=>gt_int q
theorem zJ:cI X (compareOp .GtE) (oR fun i j=>.bl (decide (j≤i))):=wx fun _ _ _ _ _ _ _ q=>ge_int q
theorem op_in_str:cI X (compareOp .In) (fun x y H Q=>∃i j,x=.str i∧y=.str j∧Q (.bl (!(Builtin.Str.occurrences j i 0 j.length 1).isEmpty)) H):=by
 intro pins s σ H x y v u Q I rx ry h;obtain⟨i,j,rfl,rfl,q⟩:=h;obtain⟨t,rfl⟩:=rx;obtain⟨t',rfl⟩:=ry;exact in_str (bg I q rfl)
theorem e7:cI X (compareOp .Is) (fun x y H Q=>y=.non∧Q (.bl (decide (x=.non))) H):=by
 intro pins s σ H x y v u Q I rx ry h;obtain⟨rfl,q⟩:=h;cases ry;refine is_none_gen (bg I q ?_)
 cases x<;>first
  | (cases rx;rfl)
  | (obtain⟨t,rfl⟩:=rx;rfl)
theorem wA:cI X (compareOp .IsNot) (fun x y H Q=>y=.non∧Q (.bl (!decide (x=.non))) H):=by
 intro pins s σ H x y v u Q I rx ry h;obtain⟨rfl,q⟩:=h;cases ry;refine isnot_none_gen (bg I q ?_)
 cases x<;>first
  | (cases rx;rfl)
  | (obtain⟨t,rfl⟩:=rx;rfl)
theorem op_notin_str:cI X (compareOp .NotIn) (fun x y H Q=>∃i j,x=.str i∧y=.str j∧Q (.bl (!(!(Builtin.Str.occurrences j i 0 j.length 1).isEmpty))) H):=by
 intro pins s σ H x y v u Q I rx ry h;obtain⟨i,j,rfl,rfl,q⟩:=h;obtain⟨t,rfl⟩:=rx;obtain⟨t',rfl⟩:=ry;exact notIn_str (bg I q rfl)
theorem cI.or{f:Value→Value→Sem Value}{r r':R2}(h:cI X f r)(h':cI X f r'):cI X f (fun x y H Q=>r x y H Q∨r' x y H Q):=by
 intro pins s σ H x y v u Q I rx ry q;rcases q with q | q
 ·exact h pins s σ H x y v u Q I rx ry q
 ·exact h' pins s σ H x y v u Q I rx ry q
theorem au(b:Expr){op:CmpOp}(h:op≠.In:=by decide)(h2:op≠.NotIn:=by decide):behindInMarks op b=false:=by
 have e1:(op == CmpOp.In)=false:=by cases op<;>first | rfl | exact absurd rfl h
 have e2:(op == CmpOp.NotIn)=false:=by cases op<;>first | rfl | exact absurd rfl h2
 cases b<;>simp [behindInMarks,e1,e2]
theorem fC{op:CmpOp}{r:R2}(ho:cI X (compareOp op) r)(ha:PE X a ta)(hb:PE X b tb)(hm:behindInMarks op b=false):PE X (.Compare a [op] [b] pos) (xO r ta tb):=by
 intro pins s σ H Q I h;exact wpAny_Compare1 (vP ha hb I h fun v u s2 x y H2 I2 rx ry q=>ho pins s2 σ H2 x y v u Q I2 rx ry q) hm
def jZ(t:TE):TT:=fun σ H Q=>t σ H fun x H'=>∃k,x=.bl k∧Q k H'
theorem ao{op:CmpOp}{r:R2}(ho:cI X (compareOp op) r)(ha:PE X a ta)(hb:PE X b tb)(hm:behindInMarks op b=false):PT X (.Compare a [op] [b] pos) (jZ (xO r ta tb)):=by
 intro pins s σ H Q I h
 refine wpAny_isTrue_Compare1 (bQ (ha pins s σ H _ I h) fun v s1 ⟨x,H1,I1,r1,q1⟩=>bQ (hb pins s1 σ H1 _ I1 q1) fun u s2 ⟨y,H2,I2,r2,q2⟩=>
  bQ (ho pins s2 σ H2 x y v u _ I2 r1 r2 q2) fun c s3 ⟨z,H3,I3,r3,k,e,q3⟩=>?_) hm
 subst e;cases r3;exact wpAny_truthy_bool ⟨H3,I3,q3⟩
def nG(r r':R2)(ta tb tc:TE):TE:=fun σ H Q=>ta σ H fun x H1=>tb σ H1 fun y H2=>r x y H2 fun z H3=>∃k,z=.bl k∧
 (if k=true then tc σ H3 fun w' H4=>r' y w' H4 Q else Q (.bl false) H3)
theorem oP{op op':CmpOp}{r r':R2}(ho:cI X (compareOp op) r)(ho':cI X (compareOp op') r')(ha:PE X a ta)(hb:PE X b tb)(hc:PE X c tc)
  (hm:lastMarks [op,op'] [b,c]=false:=by with_unfolding_all rfl):PE X (.Compare a [op,op'] [b,c] pos) (nG r r' ta tb tc):=by
 intro pins s σ H Q I h
 refine Compare_chain (bQ (ha pins s σ H _ I h) fun v s1 ⟨x,H1,I1,r1,q1⟩=>chain_link (bQ (hb pins s1 σ H1 _ I1 q1) fun u s2 ⟨y,H2,I2,r2,q2⟩=>
  bQ (ho pins s2 σ H2 x y v u _ I2 r1 r2 q2) fun d s3 ⟨z,H3,I3,r3,k,e,q3⟩=>?_)) hm
 subst e;cases r3;refine wpAny_truthy_bool ?_
 cases k with
 | false=>exact ite_ff ⟨.bl false,H3,I3,rfl,q3⟩
 | true=>exact ite_tt (chain_last (bQ (hc pins s3 σ H3 _ I3 q3) fun w' s4 ⟨z',H4,I4,r4,q4⟩=>ho' pins s4 σ H4 y z' u w' Q I4 r2 r4 q4))
theorem uW{op op':CmpOp}{r r':R2}(ho:cI X (compareOp op) r)(ho':cI X (compareOp op') r')(ha:PE X a ta)(hb:PE X b tb)(hc:PE X c tc)
  (hm:lastMarks [op,op'] [b,c]=false:=by with_unfolding_all rfl):PT X (.Compare a [op,op'] [b,c] pos) (jZ (nG r r' ta tb tc)):=by
 intro pins s σ H Q I h
 refine isTrue_chain (bQ (ha pins s σ H _ I h) fun v s1 ⟨x,H1,I1,r1,q1⟩=>test_link (bQ (hb pins s1 σ H1 _ I1 q1) fun u s2 ⟨y,H2,I2,r2,q2⟩=>
  bQ (ho pins s2 σ H2 x y v u _ I2 r1 r2 q2) fun d s3 ⟨z,H3,I3,r3,k,e,q3⟩=>?_)) hm
 subst e;cases r3;refine wpAny_truthy_bool ?_
 cases k with
 | false=>
  obtain⟨k',e',q'⟩:=q3;cases e';exact ite_ff ⟨H3,I3,q'⟩
 | true=>
  refine ite_tt (test_last (bQ (hc pins s3 σ H3 _ I3 q3) fun w' s4 ⟨z',H4,I4,r4,q4⟩=>bQ (ho' pins s4 σ H4 y z' u w' _ I4 r2 r4 q4) fun d' s5 ⟨z2,H5,I5,r5,k2,e2,q5⟩=>?_));subst e2;cases r5;exact wpAny_truthy_bool ⟨H5,I5,q5⟩
def vL(K:Frag)(x:V)(H:Hp)(k:Bool):Prop:=
 match x with
 | .non=>k=false
 | .bl b=>k=b
 | .int i=>k=(i != 0)
 | .str y=>y.length≤sizeLine∧k=((y.length:Int) != 0)
 | .byt y=>y.size≤sizeLine∧k=((y.size:Int) != 0)
 | .ref p=>(∃xs,bf K H p xs∧k=!xs.isEmpty)∨(∃xs,eT K H p xs∧k=!xs.isEmpty)∨∃kvs,H p=some (.dK kvs)∧k=!kvs.isEmpty
 | _=>False
theorem pS{κ:Type}{kvs:List (κ×V)}{vs:List (κ×Value)}(r:KV kvs vs):(!vs.isEmpty)=!kvs.isEmpty:=by
 cases r<;>rfl
theorem jw{xs:List V}{its:List Value}(r:aS xs its):(!its.toArray.isEmpty)=!xs.isEmpty:=by
 cases r<;>simp
theorem fY:(sizeLine:Nat) < 2 ^ 63:=by rw [sizeLine_eq];decide
theorem yV:As X (fun x H Q=>∃k,vL X.K x H k∧Q k H):=by
 intro pins s σ H x v Q I rx h;obtain⟨k,e,q⟩:=h;have hl:=fY;have hs:sizeLine=16777216:=sizeLine_eq
 cases x with
 | non=>
  cases rx;have e':k=false:=e;subst e';exact truthy_none ⟨H,I,q⟩
 | bl b=>
  cases rx;have e':k=b:=e;subst e';exact wpAny_truthy_bool ⟨H,I,q⟩
 | int i=>
  obtain⟨t,rfl⟩:=rx;have e':k=(i != 0):=e;subst e';exact PySem.P.truthy_int ⟨H,I,q⟩
 | str y=>
  obtain⟨t,rfl⟩:=rx;obtain⟨hy,e'⟩:y.length≤sizeLine∧k=((y.length:Int) != 0):=e;subst e';exact PySem.P.truthy_str (by omega) ⟨H,I.tok _,q⟩
 | byt y=>
  obtain⟨t,rfl⟩:=rx;obtain⟨hy,e'⟩:y.size≤sizeLine∧k=((y.size:Int) != 0):=e;subst e';exact PySem.W.truthy_bytes (by omega) ⟨H,I.tok _,q⟩
 | ref p=>
  cases rx;have e':(∃xs,bf X.K H p xs∧k=!xs.isEmpty)∨(∃xs,eT X.K H p xs∧k=!xs.isEmpty)∨∃kvs,H p=some (.dK kvs)∧k=!kvs.isEmpty:=e;rcases e' with⟨xs,hx,e'⟩ | ⟨xs,hx,e'⟩ | ⟨kvs,hx,e'⟩
  ·subst e'
   obtain⟨its,r,pl,hz⟩:=I.list hx;have hlen:=r.length;exact wpAny_truthy_list pl.isList (by simp only [aa4];omega) ⟨H,I.tok _,by rw [jw r];exact q⟩
  ·subst e'
   obtain⟨its,r,pl,hz⟩:=I.tuple hx;have hlen:=r.length;exact truthy_tuple pl (by simp only [aa4];omega) ⟨H,I.tok _,by rw [jw r];exact q⟩
  ·subst e'
   obtain⟨hz,hS,vs,r,m⟩:kvs.length≤sizeLine∧(p == sysModules)=false∧∃vs,KV kvs vs∧s.heap.DictOf (mH X.prog X.w) p vs:=I.hok p _ hx;have hlen:kvs.length=vs.length:=Paired.length r;exact wpAny_truthy_dict hS m (by omega) ⟨H,I.tok _,by rw [pS r];exact q⟩
 | _=>exact(show False from e).elim
theorem aE(ha:PE X a ta)(he:∀whole,isTrue a X.env whole=(do let v ←whole;standAt a.pos;holding [v] (truthy v))):
  PT X a (fun σ H Q=>ta σ H fun x H'=>∃k,vL X.K x H' k∧Q k H'):=by
 intro pins s σ H Q I h;exact isTrue_plain (bQ (ha pins s σ H _ I h) fun v s1 ⟨x,H1,I1,r1,q1⟩=>yV pins s1 σ H1 x v Q I1 r1 q1) (he _)
theorem op_add_str:cI X (binaryOp .Add) (fun x y H Q=>∃i j,x=.str i∧y=.str j∧i.length+j.length≤sizeLine∧Q (.str (i++j)) H):=by
 intro pins s σ H x y v u Q I rx ry h;obtain⟨i,j,rfl,rfl,hz,q⟩:=h;obtain⟨t,rfl⟩:=rx;obtain⟨t',rfl⟩:=ry;exact add_str (fun t' tk=>⟨.str (i++j),H,I.tok _,⟨_,rfl⟩,q⟩) hz
theorem dP{x:V}{us:List Value}(r:aS [x] us):∃u,us=[u]∧aQ x u:=by
 cases r with
 | cons r1 r2=>cases r2;exact⟨_,rfl,r1⟩
theorem rD{x y:V}{us:List Value}(r:aS [x,y] us):∃u w',us=[u,w']∧aQ x u∧aQ y w':=by
 cases r with
 | cons r1 r2=>
  cases r2 with
  | cons r3 r4=>cases r4;exact⟨_,_,rfl,r1,r3⟩
theorem nQ:bR X (.builtin "abs") (fun xs H Q=>∃i,xs=[.int i]∧Q (.int (if i < 0 then -i else i)) H):=by
 intro pins s σ H xs us Q I r h;obtain⟨i,rfl,q⟩:=h;obtain⟨u,rfl,t,rfl⟩:=dP r;exact call_abs_int fun u tk=>⟨.int (if i < 0 then -i else i),H,I.tok _,⟨_,rfl⟩,q⟩
theorem rL:bR X (.type "int") (fun xs H Q=>(∃i,xs=[.int i]∧Q (.int i) H)∨∃k,xs=[.bl k]∧Q (.int (if k then 1 else 0)) H):=by
 intro pins s σ H xs us Q I r h;rcases h with⟨i,rfl,q⟩ | ⟨k,rfl,q⟩
 ·obtain⟨u,rfl,t,rfl⟩:=dP r
  exact call_int_int ⟨.int i,H,I,⟨_,rfl⟩,q⟩
 ·obtain⟨u,rfl,r1⟩:=dP r
  cases r1;exact call_int_bool ⟨.int (if k then 1 else 0),H,I.tok _,⟨_,rfl⟩,q⟩
theorem call_str_int:bR X (.type "str") (fun xs H Q=>∃i,xs=[.int i]∧i.natAbs.log2 < 1920∧Q (.str (toString i)) H):=by
 intro pins s σ H xs us Q I r h;obtain⟨i,rfl,hz,q⟩:=h;obtain⟨u,rfl,t,rfl⟩:=dP r;exact PySem.P.str_of_int hz ⟨.str _,H,I.tok _,⟨_,rfl⟩,q⟩
end
end L2
namespace L2
open PySem PySem.Spec PyProof.Rows
structure pI(h:Heap)(x dx C:Addr)(mA:Str→Option Value):Prop where
 obj:h.get? x=some (instObj C dx)
 ns:h.Ns1 dx mA
 ne:dx≠x
theorem r9{h:Heap}{dx:Addr}{mA:Str→Option Value}(n:h.Ns1 dx mA):∃od,h.get? dx=some od∧∀name,PySem.W.lookIn name od=some (mA name):=by
 obtain⟨o,es,ep,ho,hd,hk,_,hm⟩:=n;refine⟨o,ho,fun name=>?_⟩;have e:=hm name;unfold nsFind findBy at e;rw [←Array.find?_toList]at e;unfold PySem.W.lookIn;rw [hd];dsimp only
 split
 ·rename_i y q
  rw [q]at e;exact congrArg some e
 ·rename_i q
  rw [q]at e
  have a:es.toList.any (·.refKey)=false:=by
   rw [List.any_eq_false];intro y hy;obtain⟨z,t,hkey⟩:=hk y (Array.mem_toList_iff.mp hy);simp [DictEntry.refKey,hkey]
  have a':¬es.toList.any (·.refKey)=true:=by rw [a];exact aa0
  rw [if_neg a'];exact congrArg some e
theorem pI.look{h:Heap}{x dx C:Addr}{mA:Str→Option Value}(I:pI h x dx C mA):∃od,PySem.W.InstAt h x (instObj C dx) C (some od)∧∀name,PySem.W.lookIn name od=some (mA name):=
 let ⟨od,ho,hl⟩:=r9 I.ns
 ⟨od,⟨I.obj,rfl,rfl,ho⟩,hl⟩
section
variable {prog:Program} {w:World} {A:Around} {E:Value→Shared→Prop} {s:Shared} {K:Frag} {x dx C f:Addr} {mA:Str→Option Value} {name:Str} {v:Value}
theorem vX{expr:Bool}{Q:Value→Shared→Prop}(X:K.In s.heap)(I:pI s.heap x dx C mA)(hg:PySem.W.plainGet K C name=true)(hh:PySem.W.hasDictIn K C=true)
  (ha:findIn K (.ref C) name=some none) (hv:mA name=some v) (hv':PySem.W.handedIn v=true) (h:Q v { s with toks:=s.toks+1 }) :
  wpAny (model prog w) A (getAttr (.ref x) name expr) Q E s:=by
 obtain⟨od,J,hl⟩:=I.look;exact PySem.W.get_value X J (PySem.W.plainGet_of hg).1 (PySem.W.findObj_own hh ha rfl (by rw [hl,hv])) hv' h
theorem t6{pl:Sem Bool}{Q:Value×List Value→Shared→Prop}(X:K.In s.heap)(I:pI s.heap x dx C mA)(hg:PySem.W.plainGet K C name=true)
  (hf:findIn K (.ref C) name=some (some (.ref f))) (ht:isFn K (.ref f)=true) (hv:mA name=none) (h:Q (.ref f,[.ref x]) s) :
  wpAny (model prog w) A (getMethod (.ref x) name pl) Q E s:=by
 obtain⟨od,J,hl⟩:=I.look
 exact PySem.W.method_fn X J (PySem.W.plainGet_of hg).1 (PySem.W.plainGet_of hg).2 hf (beq_iff_eq.mp ht) (by show(PySem.W.lookIn name od).map (·.isSome)=some false;rw [hl,hv];rfl) h
theorem w9{ns:List Str}{Q:Unit→Shared→Prop}(X:K.In s.heap)(I:pI s.heap x dx C mA)
  (hs:findIn K (.ref C) "__setattr__"=some (some (.builtin "object.__setattr__"))) (hp:PySem.W.plainOver K C=true) (ht:PySem.W.takerIn K C name=some none) (hh:PySem.W.hasDictIn K C=true)
  (hw:PySem.Within mA ns) (hsz:ns.length≤sizeLine)
  (h:∀h',pI h' x dx C (fun y=>if y=name then some v else mA y)→Heap.SameBut dx s.heap h'→Q () { s with heap:=h',toks:=s.toks+2 }) :
  wpAny (model prog w) A (setAttr (.ref x) name v) Q E s:=by
 obtain⟨od,J,hl⟩:=I.look;refine PySem.W.set_plain X J hs (PySem.W.osa_open (s:={ s with toks:=s.toks+1 }) (r:=none) X J hp ht fun b=>?_);obtain⟨cd,hc,hd'⟩:=PySem.W.any_some hh;have hx:s.heap.get? x=some ⟨.ref C,some dx,.plain,#[]⟩:=I.obj;refine wpAny_bind (wpAny_pure (wpAny_bind (wpAny_bind (wpAny_loadPart hx (wpAny_bind (PySem.W.Looks.here (s:={ s with toks:=s.toks+1 }) (PySem.W.looks_clsIn X hc) ?_))))));rw [hd'];refine wpAny_pure (a:=some dx) (wpAny_bind (wpAny_pure (wpAny_bind ?_)));refine wpAny_nsSet1 (s:={ s with toks:=s.toks+1 }) I.ns fun h' hn2 hs2=>?_;obtain⟨oD,esD,epD,hoD,hdD,hcD⟩:=hn2.count (PySem.Within.cons name v hw);refine wpAny_bind (wpAny_lookBehind hoD (by rw [hdD];exact pastItsLine_dict (aa7 hcD (by rw [aa8];omega))) ?_);exact wpAny_pure (h _ ⟨(hs2.2 _ (Ne.symm I.ne)).trans I.obj,hn2,I.ne⟩ hs2)
theorem uD{R:Result→Shared→Prop}{vs:List Value}{kw:List (Str×Value)}(X:K.In s.heap)(hm:PySem.W.makesIn K C=true)
  (hi:findIn K (.ref C) "__init__"=some (some (.ref f))) (hf:PySem.W.typeIn K (.ref f)=some (.type "function"))
  (h:codeAny (model prog w) (A.under (.builtin "type.__call__" ⟨.ref C::vs,kw⟩)) (.call (.ref f) ⟨.ref (s.heap.objs.size+1)::vs,kw⟩) (PySem.W.InitBack (s.heap.objs.size+1) R)
   { s with heap:=(s.heap.push emptyDict).push (instObj C s.heap.objs.size) }) :
  codeAny (model prog w) A (.call (.ref C) ⟨vs,kw⟩) R s:=by
 obtain⟨hh,g,d,t,os⟩:=s;exact PySem.W.make_core (PySem.W.makes_of X hm) (PySem.W.looks_findIn X hi) (fun self=>PySem.W.bind_fn X self hf) (.inl rfl) h
end
def bo(f:Str)(v:V):List (Str×V)→List (Str×V)
 | []=>[(f,v)]
 | (g,x)::r=>if g=f then(g,v)::r else(g,x)::bo f v r
theorem eW(f g:Str)(v:V):∀fs:List (Str×V),(bo f v fs).lookup g=if g=f then some v else fs.lookup g
 | []=>by
  show List.lookup g [(f,v)]=_
  by_cases h:g=f
  ·have hb:(g == f)=true:=beq_iff_eq.mpr h
   simp only [List.lookup,hb,if_pos h]
  ·have hb:(g == f)=false:=beq_eq_false_iff_ne.mpr h
   simp only [List.lookup,hb,if_neg h]
 | (k,x)::r=>by
  have ih:=eW f g v r;rw [show bo f v ((k,x)::r)=(if k=f then(k,v)::r else(k,x)::bo f v r)from rfl]
  by_cases hk:k=f
  ·rw [if_pos hk]
   by_cases h:g=k
   ·have hb:(g == k)=true:=beq_iff_eq.mpr h
    simp only [List.lookup,hb,if_pos (h.trans hk)]
   ·have hb:(g == k)=false:=beq_eq_false_iff_ne.mpr h
    simp only [List.lookup,hb,if_neg (fun e:g=f=>h (e.trans hk.symm))]
  ·rw [if_neg hk]
   by_cases h:g=k
   ·have hb:(g == k)=true:=beq_iff_eq.mpr h
    simp only [List.lookup,hb,if_neg (fun e:g=f=>hk (h.symm.trans e))]
   ·have hb:(g == k)=false:=beq_eq_false_iff_ne.mpr h
    simp only [List.lookup,hb];exact ih
theorem hZ(f:Str)(v:V):∀fs:List (Str×V),f∈(bo f v fs).map (·.1)∧∀g,g∈fs.map (·.1)→g∈(bo f v fs).map (·.1)
 | []=>⟨by simp [bo],fun g h=>by simp at h⟩
 | (k,x)::r=>by
  obtain⟨i1,i2⟩:=hZ f v r;rw [show bo f v ((k,x)::r)=(if k=f then(k,v)::r else(k,x)::bo f v r)from rfl]
  by_cases hk:k=f
  ·rw [if_pos hk]
   subst hk;exact⟨by simp,fun g h=>by simpa using h⟩
  ·rw [if_neg hk]
   refine⟨?_,fun g h=>?_⟩
   ·rw [ac1]
    exact ab2 _ i1
   ·rw [ac1]at h ⊢
    rcases ab7.mp h with e | e
    ·exact ab7.mpr (.inl e)
    ·exact ab2 _ (i2 g e)
theorem bw(f:Str)(v:V):∀fs:List (Str×V),(bo f v fs).length≤fs.length+1
 | []=>by simp [bo]
 | (k,x)::r=>by
  have ih:=bw f v r;rw [show bo f v ((k,x)::r)=(if k=f then(k,v)::r else(k,x)::bo f v r)from rfl]
  by_cases hk:k=f
  ·rw [if_pos hk,aa8,aa8];omega
  ·rw [if_neg hk,aa8,aa8];omega
theorem gQ.some_of{v:V}{o:Option Value}(r:gQ (some v) o):∃u,o=some u∧aQ v u:=by
 cases o with
 | none=>exact(show False from r).elim
 | some u=>exact⟨u,rfl,r⟩
theorem gQ.none_of{o:Option Value}(r:gQ none o):o=none:=by
 cases o with
 | none=>rfl
 | some u=>exact(show False from r).elim
theorem lj{v:V}{u:Value}(r:aQ v u):PySem.W.handedIn u=true:=by
 cases v with
 | non=>cases(show u=Value.none from r);rfl
 | bl b=>cases(show u=Value.bool b from r);rfl
 | int i=>obtain⟨t,e⟩:=(show ∃t,u=Value.int i t from r);cases e;rfl
 | str x=>obtain⟨t,e⟩:=(show ∃t,u=Value.str x t from r);cases e;rfl
 | byt b=>obtain⟨t,e⟩:=(show ∃t,u=Value.bytes b t from r);cases e;rfl
 | flt b=>obtain⟨t,e⟩:=(show ∃t,u=Value.float b t from r);cases e;rfl
 | ref a=>cases(show u=Value.ref a from r);rfl
 | ty n=>cases(show u=Value.type n from r);rfl
section
variable {P:Program} {w:World} {H H':Hp} {h h':Heap} {a C dx:Addr} {fs fs':List (Str×V)}
theorem iX(hok:gk P w H h)(e:H a=some (.ins C dx fs)):∃mA,pI h a dx C mA∧(∀f,gQ (fs.lookup f) (mA f))∧PySem.Within mA (fs.map (·.1))∧fs.length≤1000∧H dx=some (.own a):=by
 obtain⟨d,z,ne,ob,mA,n,r,q⟩:=(show bT P w H h a (.ins C dx fs)from hok a _ e);exact⟨mA,⟨ob,n,ne⟩,r,q,z,d⟩
end
structure iR(K:Frag)(C:Addr):Prop where
 pg:PySem.W.plainGet K C Str.empty=true
 hd:PySem.W.hasDictIn K C=true
 po:PySem.W.plainOver K C=true
 sa:findIn K (.ref C) "__setattr__"=some (some (.builtin "object.__setattr__"))
theorem iR.get{K:Frag}{C:Addr}(c:iR K C)(f:Str):PySem.W.plainGet K C f=true:=c.pg
def NoAttr(K:Frag)(C:Addr)(f:Str):Prop:=findIn K (.ref C) f=some none
theorem NoAttr.taker{K:Frag}{C:Addr}{f:Str}(n:NoAttr K C f):PySem.W.takerIn K C f=some none:=by
 unfold PySem.W.takerIn;rw [show findIn K (.ref C) f=some none from n];rfl
structure xR(K:Frag)(C:Addr)(m:Str)(f:Addr):Prop where
 at_:findIn K (.ref C) m=some (some (.ref f))
 fn:isFn K (.ref f)=true
 kp:keepIn K (.ref f)=true
section
variable {X:Cx} {pins:List (Addr×Obj)} {σ:St} {H:Hp} {s:Shared} {a C dx:Addr} {fs:List (Str×V)} {f:Str} {v:V} {A:Around} {E:Value→Shared→Prop}
theorem pR{b:Bool}{Q:Value→Shared→Prop}(I:aJ X pins σ H s)(e:H a=some (.ins C dx fs))(c:iR X.K C)(n:NoAttr X.K C f)(l:fs.lookup f=some v)
  (h:∀u s',aJ X pins σ H s'→aQ v u→Q u s'):wpAny (model X.prog X.w) A (getAttr (.ref a) f b) Q E s:=by
 obtain⟨mA,O,r,_,_,_⟩:=iX I.hok e;obtain⟨u,hu,ru⟩:=gQ.some_of (v:=v) (o:=mA f) (by rw [←l];exact r f);exact vX I.kIn O (c.get f) c.hd n hu (lj ru) (h u _ (I.tok _) ru)
theorem ju{m:Str}{g:Addr}{pl:Sem Bool}{Q:Value×List Value→Shared→Prop}(I:aJ X pins σ H s)(e:H a=some (.ins C dx fs))(c:iR X.K C)(k:xR X.K C m g)(l:fs.lookup m=none)
  (h:Q (.ref g,[.ref a]) s):wpAny (model X.prog X.w) A (getMethod (.ref a) m pl) Q E s:=by
 obtain⟨mA,O,r,_,_,_⟩:=iX I.hok e;have hn:mA m=none:=gQ.none_of (by rw [←l];exact r m);exact t6 I.kIn O (c.get m) k.at_ k.fn hn h
theorem ql{y:V}{u:Value}{Q:Unit→Shared→Prop}(I:aJ X pins σ H s)(e:H a=some (.ins C dx fs))(c:iR X.K C)(n:NoAttr X.K C f)(hl:fs.length < 1000)(ry:aQ y u)
  (h:∀s',aJ X pins σ (upd H a (.ins C dx (bo f y fs))) s'→Q () s'):wpAny (model X.prog X.w) A (setAttr (.ref a) f u) Q E s:=by
 obtain⟨mA,O,r,wi,_,ho⟩:=iX I.hok e
 have hz:(fs.map (·.1)).length≤sizeLine:=by rw [aa1,sizeLine_eq];omega
 refine w9 I.kIn O c.sa c.po n.taker c.hd wi hz fun h' O' sb=>h _ ?_
 have hd:∃o,h'.get? dx=some o:=let ⟨o,_,_,e',_⟩:=O'.ns;⟨o,e'⟩
 refine I.write (x:=a) (e:=dx) (by rw [e];exact True.intro) (.inr ho) (fun b q hb z=>(sb.2 b hb).trans z) hd ?_;refine⟨by rw [aj O.ne];exact ho,?_,O.ne,O'.obj,_,O'.ns,fun g=>?_,fun g hg=>?_⟩
 ·have:=bw f y fs;omega
 ·show gQ ((bo f y fs).lookup g) (if g=f then some u else mA g)
  rw [eW]
  by_cases q:g=f
  ·rw [if_pos q,if_pos q];exact ry
  ·rw [if_neg q,if_neg q];exact r g
 ·by_cases q:g=f
  ·rw [q];exact(hZ f y fs).1
  ·refine(hZ f y fs).2 g (wi g fun z=>hg ?_)
   show(if g=f then some u else mA g)=none;rw [if_neg q];exact z
theorem aJ.made(I:aJ X pins σ H s):aJ X pins σ (upd (upd H s.heap.objs.size (.own (s.heap.objs.size+1))) (s.heap.objs.size+1) (.ins C s.heap.objs.size []))
  { s with heap:=(s.heap.push emptyDict).push (instObj C s.heap.objs.size) }:=by
 have e1:(s.heap.push emptyDict).get? s.heap.objs.size=some emptyDict:=ab6 s.heap rfl
 have e2:((s.heap.push emptyDict).push (instObj C s.heap.objs.size)).get? (s.heap.objs.size+1)=some (instObj C s.heap.objs.size):=by
  have:=ab6 (s.heap.push emptyDict) (o:=instObj C s.heap.objs.size) rfl
  rwa [Heap.size_push]at this
 have e3:(s.heap.push emptyDict).Ns s.heap.objs.size (fun _=>none):=⟨emptyDict,#[],_,e1,rfl,(fun e he=>absurd he (by simp)),fun _=>rfl⟩;have I1:=I.laid (a:=s.heap.objs.size) (o:=.own (s.heap.objs.size+1)) (h':=s.heap.push emptyDict) (t':=s.toks) (fun b u q=>aa2 _ q) (aa3 _) ⟨_,e1⟩;refine I1.laid (a:=s.heap.objs.size+1) (o:=.ins C s.heap.objs.size []) (t':=s.toks) (fun b u q=>aa2 _ q) (Nat.le_of_eq (Heap.size_push _ _)) ?_;have ne:s.heap.objs.size≠s.heap.objs.size+1:=ab4 (ah3 _);refine⟨by rw [aj ne,af],ab1 _,ne,e2,fun _=>none,(Heap.Ns1.of_empty e3).at fun o q=>aa2 _ q,fun _=>True.intro,fun y hy=>absurd rfl hy⟩
theorem qH{prog:Program}{w:World}{env:Env}{e:Expr}{f:Str}{pos:Pos}{s:Shared}{Q:Value→Shared→Prop}(hb:attributeBase e f env (eval e env)=eval e env)
  (h:wpAny (model prog w) A (eval e env) (fun o s₁=>wpAny (model prog w) A (getAttr o f true) Q E s₁) E s):wpAny (model prog w) A (eval (.Attribute e f pos) env) Q E s:=
 Attribute_any_ h (by rw [arm_eval_Attribute,hb])
end
def yS(K:Frag)(ta:TE)(f:Str):TE:=fun σ H Q=>ta σ H fun x H1=>∃a C dx fs v,x=.ref a∧H1 a=some (.ins C dx fs)∧iR K C∧NoAttr K C f∧fs.lookup f=some v∧Q v H1
def yK(K:Frag)(ta tv:TE)(f:Str):TS:=fun D σ H=>tv σ H fun y H1=>ta σ H1 fun x H2=>∃a C dx fs,x=.ref a∧H2 a=some (.ins C dx fs)∧iR K C∧NoAttr K C f∧fs.length < 1000∧
 D.nx σ (upd H2 a (.ins C dx (bo f y fs)))
section
variable {X:Cx} {o e value:Expr} {f:Str} {pos pos' tpos:Pos} {ta tv:TE}
theorem mW(he:PE X e ta)(hb:attributeBase e f X.env (eval e X.env)=eval e X.env):PE X (.Attribute e f pos) (yS X.K ta f):=by
 intro pins s σ H Q I h;refine qH hb (bQ (he pins s σ H _ I h) fun u s1 ⟨x,H1,I1,rx,a,C,dx,fs,v,ex,ea,c,n,l,q⟩=>?_);subst ex;obtain rfl:u=Value.ref a:=rx;exact pR I1 ea c n l fun u' s2 I2 ru=>⟨v,H1,I2,ru,q⟩
theorem bx(ha:PE X o ta)(hv:PE X value tv)(hs:swapsWith value (some (.Attribute o f pos')) pos.line X.env=pure false):PS X (.Assign [.Attribute o f pos'] value pos) (yK X.K ta tv f):=by
 intro pins s σ H D I h;refine plainObj_wpAny_Assign_Attribute (bQ (hv pins s σ H _ I h) fun u s1 ⟨y,H1,I1,ry,q⟩=>bQ (ha pins s1 σ H1 _ I1 q) fun ov s2 ⟨x,H2,I2,rx,a,C,dx,fs,ex,ea,c,n,l,q2⟩=>?_) hs;subst ex;obtain rfl:ov=Value.ref a:=rx;exact ql I2 ea c n l ry fun s3 I3=>⟨σ,_,I3,q2⟩
end
section
variable {X:Cx} {pins:List (Addr×Obj)} {σ:St} {H:Hp} {s:Shared} {A:Around} {E:Value→Shared→Prop} {Q:Value→Shared→Prop} {c:Value} {b:Bool}
inductive fU(K:Frag)(H:Hp):V→Value→Prop where
 | non:fU K H .non (.type "NoneType")
 | bl (x:Bool):fU K H (.bl x) (.type "bool")
 | int (i:Int):fU K H (.int i) (.type "int")
 | str (x:Str):fU K H (.str x) (.type "str")
 | flt (x:UInt64):fU K H (.flt x) (.type "float")
 | lst {a:Addr} {xs:List V} (e:H a=some (.lst xs)):fU K H (.ref a) (.type "list")
 | frz {a:Addr} {o:Obj} {xs:List V} (e:H a=some (.frz o (.lst xs))):fU K H (.ref a) (.type "list")
 | tup {a:Addr} {xs:List V} (e:H a=some (.tup xs)):fU K H (.ref a) (.type "tuple")
 | dK {a:Addr} {kvs:List (nK×V)} (e:H a=some (.dK kvs)):fU K H (.ref a) (.type "dict")
 | dT {a:Addr} {kvs:List (List nK×V)} (e:H a=some (.dT kvs)):fU K H (.ref a) (.type "dict")
 | ins {a C dx:Addr} {fs:List (Str×V)} (e:H a=some (.ins C dx fs)) (cl:iR K C) (ha:findIn K (.ref C) "__class__"=some (some (.builtin "object.__class__")))
   (hn:PySem.W.specialIn K (.builtin "object.__class__") "__get__"=some (some (.builtin "getset_descriptor.__get__"))) (htk:PySem.W.takesIn K (.builtin "object.__class__")=some true)
   (hm:mroIn K C (.type "object")=some true):fU K H (.ref a) (.ref C)
theorem lp{x:V}{u t:Value}(I:aJ X pins σ H s)(rx:aQ x u)(ty:fU X.K H x t)(e:kitOne X.K t c=some b)(h:∀tk,Q (.bool b) { s with toks:=tk }):
  wpAny (model X.prog X.w) A (call (.builtin "isinstance") [u,c]) Q E s:=by
 cases ty with
 | non=>cases(show u=Value.none from rx);exact kia_one PySem.W.kitx_none I.kIn True.intro e (fun z=>nomatch z) h
 | bl y=>cases(show u=Value.bool y from rx);exact kia_one PySem.W.kitx_bool I.kIn True.intro e (fun z=>nomatch z) h
 | int i=>obtain⟨t,q⟩:=(show ∃t,u=Value.int i t from rx);cases q;exact kia_one PySem.W.kitx_int I.kIn True.intro e (fun z=>nomatch z) h
 | str y=>obtain⟨t,q⟩:=(show ∃t,u=Value.str y t from rx);cases q;exact kia_one PySem.W.kitx_str I.kIn True.intro e (fun z=>nomatch z) h
 | flt y=>obtain⟨t,q⟩:=(show ∃t,u=Value.float y t from rx);cases q;exact kia_one PySem.W.kitx_float I.kIn True.intro e (fun z=>nomatch z) h
 | @lst a xs ea=>
  cases(show u=Value.ref a from rx);obtain⟨_,_,n,_,h1⟩:=(show bT X.prog X.w H s.heap a (.lst xs)from I.hok a _ ea);exact kia_one PySem.W.kitx_list I.kIn ⟨_,h1,rfl⟩ e (fun z=>nomatch z) h
 | @frz a ob xs ea=>
  cases(show u=Value.ref a from rx);obtain⟨_,_,_,n,_,h1⟩:=(show bT X.prog X.w H s.heap a (.frz ob (.lst xs))from I.hok a _ ea);exact kia_one PySem.W.kitx_list I.kIn ⟨_,h1,rfl⟩ e (fun z=>nomatch z) h
 | @tup a xs ea=>
  cases(show u=Value.ref a from rx);obtain⟨_,_,_,p⟩:=(show bT X.prog X.w H s.heap a (.tup xs)from I.hok a _ ea);obtain⟨o,h1,h2,_⟩:=p;exact kia_one PySem.W.kitx_tuple I.kIn ⟨o,h1,h2⟩ e (fun z=>nomatch z) h
 | @dK a kvs ea=>
  cases(show u=Value.ref a from rx);obtain⟨_,_,vs,_,p⟩:=(show bT X.prog X.w H s.heap a (.dK kvs)from I.hok a _ ea);obtain⟨o,es,ep,h1,h2,_⟩:=p;exact kia_one PySem.W.kitx_dict I.kIn ⟨o,h1,h2.1⟩ e (fun z=>nomatch z) h
 | @dT a kvs ea=>
  cases(show u=Value.ref a from rx);obtain⟨_,_,xs,_,o,es,ep,h1,h2,_⟩:=(show bT X.prog X.w H s.heap a (.dT kvs)from I.hok a _ ea);exact kia_one PySem.W.kitx_dict I.kIn ⟨o,h1,h2.1⟩ e (fun z=>nomatch z) h
 | @ins a C dx fs ea cl ha hn htk hm=>
  cases(show u=Value.ref a from rx);obtain⟨mA,O,_⟩:=iX I.hok ea;obtain⟨od,J,_⟩:=O.look;exact kia_one (PySem.W.kitx_own (cl.get _) cl.hd ha hn htk hm) I.kIn J e (fun z=>nomatch z) h
end
end L2
namespace L2
open PySem PySem.Spec PyProof.Rows
structure b8(k:Nat)(A:Around):Prop where
 hd:A.handled=none
 dp:A.depth+3 * k+5 < recursionLimit
 un:A.units+16 * k+200 < cLine
theorem b8.mono{j k:Nat}{A:Around}(r:b8 k A)(h:j≤k):b8 j A:=⟨r.hd,by have:=r.dp;omega,by have:=r.un;omega⟩
theorem b8.deeper{k:Nat}{A:Around}(r:b8 (k+1) A)(env:Env):b8 k (A.deeper env):=
 ⟨r.hd,by have:=r.dp;show A.depth+1+3 * k+5 < _;omega,by have:=r.un;show A.units+3+16 * k+200 < _;omega⟩
theorem pW{A:Around}{C:Addr}{us:List Value}{kw:List (Str×Value)}:(A.under (.builtin "type.__call__" ⟨.ref C::us,kw⟩)).depth=A.depth+1:=by
 first | rfl | simp [Around.under,Code.weight,Code.isCreation,Code.isGuard,Code.isCaller,Code.frames,Code.isFrame,guardIds]
theorem pX{A:Around}{C:Addr}{us:List Value}{kw:List (Str×Value)}:(A.under (.builtin "type.__call__" ⟨.ref C::us,kw⟩)).units=A.units+1:=by
 first | rfl | simp [Around.under,Code.cUnits,Code.frames,Code.isFrame]
theorem b8.make{k:Nat}{A:Around}(r:b8 (k+1) A)(C:Addr)(us:List Value)(kw:List (Str×Value)):b8 k (A.under (.builtin "type.__call__" ⟨.ref C::us,kw⟩)):=
 ⟨r.hd,by have:=r.dp;rw [pW];omega,by have:=r.un;rw [pX];omega⟩
theorem b8.depth{k:Nat}{A:Around}(r:b8 k A):A.depth < recursionLimit:=by have:=r.dp;omega
theorem b8.units{k:Nat}{A:Around}(r:b8 k A):A.units+64 < cLine:=by have:=r.un;omega
def qu:TA:=fun _ H Q=>Q [] H
def lX(ta:TE)(tr:TA):TA:=fun σ H Q=>ta σ H fun x H1=>tr σ H1 fun xs H2=>Q (x::xs) H2
section
variable {X:Cx} {e:Expr} {es:List Expr} {te:TE} {t:TA} {pos:Pos}
theorem ah:PA X [] qu:=fun _ _ _ _ H Q I h=>Calls.spliced_nil ⟨[],H,I,.nil,h⟩
theorem aa(ha:PE X e te)(hr:PA X es t)(hs:starEach (e::es) X.env=(false,eval e X.env)::starEach es X.env:=by rfl):PA X (e::es) (lX te t):=by
 intro pos pins s σ H Q I h;rw [hs];show wpAny _ _ (spliced ((false,eval e X.env)::backTo pos (starEach es X.env))) _ _ s;refine Calls.spliced_cons (bQ (ha pins s σ H _ I h) fun u s1 ⟨x,H1,I1,r1,q1⟩=>?_);exact bQ (hr pos pins s1 σ H1 _ I1 q1) fun us s2 ⟨xs,H2,I2,r2,q2⟩=>⟨x::xs,H2,I2,.cons r1 r2,q2⟩
def z3(t:TA):TE:=fun σ H Q=>t σ H fun xs H1=>xs.length≤sizeLine∧∀p,H1 p=none→Q (.ref p) (upd H1 p (.tup xs))
def yT(t:TA):TE:=fun σ H Q=>t σ H fun xs H1=>xs.length≤sizeLine∧∀p,H1 p=none→Q (.ref p) (upd H1 p (.lst xs))
theorem cN(h:PA X es t):PE X (.List es pos) (yT t):=by
 intro pins s σ H Q I hq;refine wpAny_List_spliced (bQ (h pos pins s σ H _ I hq) fun us s1 ⟨xs,H1,I1,r,z,q⟩=>⟨by rw [←r.length];exact z,?_⟩);have hf:H1 s1.heap.objs.size=none:=I1.hok.fresh (aa3 _);refine⟨.ref s1.heap.objs.size,upd H1 s1.heap.objs.size (.lst xs),I1.laid (t':=s1.toks) (fun b u e=>aa2 _ e) (aa3 _) ?_,rfl,q _ hf⟩;exact⟨z,us,0,r,ab6 _ rfl⟩
end
abbrev Sp:=List V→Hp→VK→XK→Prop
abbrev nM:=List Env→Hp→Shared→XK→Value→Shared→Prop
structure pG(P:Program)(w:World)(K:Frag)(mg:Str→Option Value)(base:Heap)(A:Around)(outer:List Env)(s:Shared)(H:Hp):Prop where
 frames:A.frames=some outer
 mod:Mod K mg base
 bs:∀b o,base.get? b=some o→s.heap.get? b=some o∧H b=none
 bsz:base.objs.size≤s.heap.objs.size
 funs:s.heap.FunFrames base outer
 frf:∀b∈j1 outer,H b=none
 hok:gk P w H s.heap
 bare:AllBare s.gens
def CE(outer:List Env)(P:Program)(w:World)(H:Hp)(s:Shared)(Q:VK)(u:Value)(s':Shared):Prop:=
 ∃v H',s'.os=s.os∧AllBare s'.gens∧Un (j1 outer) [] H H' s.heap s'.heap∧gk P w H' s'.heap∧aQ v u∧Q v H'
def CR(CX:nM)(outer:List Env)(P:Program)(w:World)(H:Hp)(s:Shared)(Q:VK)(E:XK)(r:Result)(s':Shared):Prop:=
 match r with
 | .ok (.ret u)=>CE outer P w H s Q u s'
 | .ok _=>False
 | .error e=>CX outer H s E e s'
structure aC(P:Program)(w:World)(K:Frag)(mg:Str→Option Value)(base:Heap)(CX:nM)(k:Nat)(f:Addr)(fd:FuncData)(ps:List Str)(sp:Sp):Prop where
 len:∀vs H Q E,sp vs H Q E→vs.length=ps.length
 run:∀(A:Around) (outer:List Env) (s:Shared) (H:Hp) (args:Args) (us:List Value) (vs:List V) (Q:VK) (E:XK),b8 k A→pG P w K mg base A outer s H→BindsTo s fd args (ps.zip us)→aS vs us→sp vs H Q E→
  codeAny (model P w) A (.call (.ref f) args) (CR CX outer P w H s Q E) s
theorem aC.mono{P:Program}{w:World}{K:Frag}{mg:Str→Option Value}{base:Heap}{CX:nM}{j k:Nat}{f:Addr}{fd:FuncData}{ps:List Str}{sp:Sp}(F:aC P w K mg base CX j f fd ps sp)(h:j≤k):
  aC P w K mg base CX k f fd ps sp:=⟨F.len,fun A outer s H args us vs Q E hr=>F.run A outer s H args us vs Q E (hr.mono h)⟩
theorem aC.imp{P:Program}{w:World}{K:Frag}{mg:Str→Option Value}{base:Heap}{CX:nM}{k:Nat}{f:Addr}{fd:FuncData}{ps:List Str}{sp sp':Sp}(F:aC P w K mg base CX k f fd ps sp)
  (h:∀vs H Q E,sp' vs H Q E→sp vs H Q E):aC P w K mg base CX k f fd ps sp':=
 ⟨fun vs H Q E q=>F.len vs H Q E (h _ _ _ _ q),fun A outer s H args us vs Q E hr he hb hv hs=>F.run A outer s H args us vs Q E hr he hb hv (h _ _ _ _ hs)⟩
theorem pG.make{P:Program}{w:World}{K:Frag}{mg:Str→Option Value}{base:Heap}{A:Around}{outer:List Env}{s:Shared}{H:Hp}(e:pG P w K mg base A outer s H)(C:Addr)(us:List Value)(kw:List (Str×Value)):
  pG P w K mg base (A.under (.builtin "type.__call__" ⟨.ref C::us,kw⟩)) outer s H:=⟨by first | exact e.frames | (simpa [Around.under,Code.envs,Code.isFrame,pushEnvs]using e.frames),e.mod,e.bs,e.bsz,e.funs,e.frf,e.hok,e.bare⟩
section
variable {X:Cx} {pins:List (Addr×Obj)} {σ:St} {H:Hp} {s s':Shared}
theorem aJ.env0(I:aJ X pins σ H s):pG X.prog X.w X.K X.mg X.base X.A X.stack s H:=
 ⟨I.ok.frames,I.ok.mod,I.bs,aa7 I.ok.bsz I.sz,I.stack,I.stkFree,I.hok,I.bare⟩
theorem aJ.after{Q:VK}{u:Value}(I:aJ X pins σ H s)(h:CE X.stack X.prog X.w H s Q u s'):EP X pins σ Q u s':=by
 obtain⟨v,H',os,bare,un,hok,r,q⟩:=h;obtain⟨hh,g,d,t,os'⟩:=s';obtain rfl:os'=s.os:=os;exact⟨v,H',I.call (h':=hh) (g':=g) (d':=d) (t':=t) (ch:=[]) un hok bare (fun b z=>absurd z (by simp)),r,q⟩
end
def lW(sp:Sp)(dvs:List V)(E:XK)(t:TA):TE:=fun σ H Q=>t σ H fun vs H1=>sp (vs++dvs) H1 Q E
def rA(C:Addr)(sp:Sp)(dvs:List V)(E:XK)(t:TA):TE:=fun σ H Q=>t σ H fun vs H1=>∀x dx,H1 x=none→H1 dx=none→dx≠x→
 sp (.ref x::(vs++dvs)) (upd (upd H1 dx (.own x)) x (.ins C dx [])) (fun v H2=>v=.non∧Q (.ref x) H2) E
def cf(K:Frag)(fd:FuncData)(ps:List Str)(ds:List Value):Prop:=
 ∀(s:Shared) (us:List Value),K.In s.heap→(us++ds).length=ps.length→BindsTo s fd ⟨us,[]⟩ (ps.zip (us++ds))
theorem cf.all{K:Frag}{fd:FuncData}{ps:List Str}(h:∀us:List Value,us.length=ps.length→bindArgs fd ⟨us,[]⟩=pure (ps.zip us)):cf K fd ps []:=fun s us _ hl=>by
 rw [af2]at hl ⊢;exact .of_eq (h us hl)
def jc(CX:nM)(X:Cx)(E:XK):Prop:=∀(pins:List (Addr×Obj)) (σ:St) (H:Hp) (s:Shared) (e:Value) (s':Shared),aJ X pins σ H s→CX X.stack H s E e s'→X.xe e s'
section
variable {X:Cx} {CX:nM} {k:Nat} {f C:Addr} {fd:FuncData} {ps:List Str} {sp:Sp} {dvs:List V} {ds:List Value} {E:XK} {x m:Str} {p pos apos:Pos} {e o:Expr} {es:List Expr} {ta:TE} {t:TA}
theorem jM{pins:List (Addr×Obj)}{σ:St}{H:Hp}{s:Shared}{Q:VK}{us:List Value}{vs:List V}(F:aC X.prog X.w X.K X.mg X.base CX k f fd ps sp)(hr:b8 k X.A)(hb:cf X.K fd ps ds)(hd:aS dvs ds)(hx:jc CX X E)
  (I:aJ X pins σ H s) (r:aS vs us) (h:sp (vs++dvs) H Q E):wpAny (model X.prog X.w) X.A (call (.ref f) us) (EP X pins σ Q) X.xe s:=by
 have r2:aS (vs++dvs) (us++ds):=r.append hd
 have hl:(us++ds).length=ps.length:=by rw [←r2.length];exact F.len _ _ _ _ h
 refine wpAny_call (codeAny_mono (F.run X.A X.stack s H ⟨us,[]⟩ (us++ds) (vs++dvs) Q E hr I.env0 (hb s us I.kIn hl) r2 h) fun r s' hq=>?_)
 cases r with
 | error e=>exact hx pins σ H s e s' I hq
 | ok fl=>
  cases fl with
  | ret u=>exact I.after hq
  | next=>exact False.elim hq
  | brk=>exact False.elim hq
  | cont=>exact False.elim hq
theorem wC(F:aC X.prog X.w X.K X.mg X.base CX k f fd ps sp)(hr:b8 k X.A)(hg:Gl X x)(hm:X.mg x=some (.ref f))(hk:keepIn X.K (.ref f)=true)(hb:cf X.K fd ps ds)(hd:aS dvs ds)(hx:jc CX X E)
  (ha:PA X (e::es) t) (hdb:(x == ("__debug__":Str))=false:=by decide) (he:starEach (e::es) X.env=(false,eval e X.env)::starEach es X.env:=by rfl) (hpl:(backTo pos (starEach es X.env)).any (·.1)=false:=by rfl) :
  PE X (.Call (.Name x p) (e::es) [] pos) (lW sp dvs E t):=by
 intro pins s σ H Q I h;refine wpAny_Call_Name_kw (d5 I hg hm ?_ hdb);refine callWith_K (h₀:=X.base) I.ok.mod.kin hk (bQ (ha pos pins s σ H _ I h) fun us s1 ⟨vs,H1,I1,r,q⟩=>⟨I1.kIn,?_⟩) he hpl;exact jM F hr hb hd hx I1 r q
structure Mk(K:Frag)(C f:Addr):Prop where
 makes:PySem.W.makesIn K C=true
 init:findIn K (.ref C) "__init__"=some (some (.ref f))
 fn:isFn K (.ref f)=true
 kp:keepIn K (.ref C)=true
theorem vc{pins:List (Addr×Obj)}{σ:St}{H:Hp}{s:Shared}{Q:VK}{us:List Value}{vs:List V}(M:Mk X.K C f)(F:aC X.prog X.w X.K X.mg X.base CX k f fd ps sp)(hr:b8 (k+1) X.A)(hb:cf X.K fd ps ds)(hd:aS dvs ds)
  (hx:jc CX X E) (I:aJ X pins σ H s) (r:aS vs us)
  (h:∀x dx,H x=none→H dx=none→dx≠x→sp (.ref x::(vs++dvs)) (upd (upd H dx (.own x)) x (.ins C dx [])) (fun v H2=>v=.non∧Q (.ref x) H2) E) :
  wpAny (model X.prog X.w) X.A (call (.ref C) us) (EP X pins σ Q) X.xe s:=by
 have hq:=h (s.heap.objs.size+1) s.heap.objs.size (I.hok.fresh (aj7 _)) (I.hok.fresh (aa3 _)) (ab4 (ah3 _));have I2:=aJ.made (C:=C) I;have r2:aS (V.ref (s.heap.objs.size+1)::(vs++dvs)) (Value.ref (s.heap.objs.size+1)::(us++ds)):=.cons rfl (r.append hd)
 have hl:(Value.ref (s.heap.objs.size+1)::us++ds).length=ps.length:=by
  have e:=r2.length;rw [F.len _ _ _ _ hq]at e;exact e.symm
 refine wpAny_call (uD (f:=f) I.kIn M.makes M.init (beq_iff_eq.mp M.fn) (codeAny_mono (F.run _ X.stack _ _ ⟨Value.ref (s.heap.objs.size+1)::us,[]⟩ (Value.ref (s.heap.objs.size+1)::(us++ds)) _ _ E (hr.make C us [])
  (I2.env0.make C us []) (hb _ (Value.ref (s.heap.objs.size+1)::us) I2.kIn hl) r2 hq) fun r s' hq'=>?_))
 cases r with
 | error e=>exact hx pins σ _ _ e s' I2 hq'
 | ok fl=>
  cases fl with
  | ret u=>
   obtain⟨v,H',I3,rv,ev,q3⟩:=I2.after hq';subst ev;exact⟨rv,⟨V.ref (s.heap.objs.size+1),H',I3,rfl,q3⟩⟩
  | next=>exact False.elim hq'
  | brk=>exact False.elim hq'
  | cont=>exact False.elim hq'
theorem wG(M:Mk X.K C f)(F:aC X.prog X.w X.K X.mg X.base CX k f fd ps sp)(hr:b8 (k+1) X.A)(hg:Gl X x)(hm:X.mg x=some (.ref C))(hb:cf X.K fd ps ds)(hd:aS dvs ds)(hx:jc CX X E)
  (ha:PA X (e::es) t) (hdb:(x == ("__debug__":Str))=false:=by decide) (he:starEach (e::es) X.env=(false,eval e X.env)::starEach es X.env:=by rfl) (hpl:(backTo pos (starEach es X.env)).any (·.1)=false:=by rfl) :
  PE X (.Call (.Name x p) (e::es) [] pos) (rA C sp dvs E t):=by
 intro pins s σ H Q I h;refine wpAny_Call_Name_kw (d5 I hg hm ?_ hdb);refine callWith_K (h₀:=X.base) I.ok.mod.kin M.kp (bQ (ha pos pins s σ H _ I h) fun us s1 ⟨vs,H1,I1,r,q⟩=>⟨I1.kIn,?_⟩) he hpl;exact vc M F hr hb hd hx I1 r q
end
def PK(X:Cx)(kws:List Keyword)(t:TA):Prop:=
 ∀(pos:Pos) (pins:List (Addr×Obj)) (s:Shared) (σ:St) (H:Hp) (Q:List V→Hp→Prop),aJ X pins σ H s→t σ H Q→wpAny (model X.prog X.w) X.A (evalAll ((backToKw pos (keywordEach kws X.env)).map (·.2))) (AP X pins σ Q) X.xe s
section
variable {X:Cx} {CX:nM} {k:Nat} {f C:Addr} {fd:FuncData} {ps ks:List Str} {sp:Sp} {E:XK} {x m:Str} {p pos apos kpos:Pos} {e o:Expr} {es:List Expr} {kws:List Keyword} {te ta:TE} {t tk:TA} {nm:Option Str}
theorem yx:PK X [] qu:=fun _ _ _ _ H Q I h=>wpAny_evalAll_nil ⟨[],H,I,.nil,h⟩
theorem wH(ha:PE X e te)(hr:PK X kws t):PK X (⟨nm,e,kpos⟩::kws) (lX te t):=by
 intro pos pins s σ H Q I h
 show wpAny _ _ (evalAll ((do let v ←eval e X.env;standAt pos;pure v)::(backToKw pos (keywordEach kws X.env)).map (·.2))) _ _ s
 refine wpAny_evalAll_cons (wpAny_bind (bQ (ha pins s σ H _ I h) fun u s1 ⟨x,H1,I1,r1,q1⟩=>wpAny_bind (wpAny_standAt (wpAny_pure ?_))));exact bQ (hr pos pins s1 σ H1 _ I1 q1) fun us s2 ⟨xs,H2,I2,r2,q2⟩=>⟨x::xs,H2,I2,.cons r1 r2,q2⟩
structure sZ(K:Frag)(fd:FuncData)(ps ks:List Str)(g:List Value→List Value→List Value)(gV:List V→List V→List V):Prop where
 to:∀(s:Shared) (us ws:List Value),K.In s.heap→(g us ws).length=ps.length→BindsTo s fd ⟨us,ks.zip ws⟩ (ps.zip (g us ws))
 rel:∀{vs:List V} {us:List Value} {zs:List V} {ws:List Value},aS vs us→aS zs ws→aS (gV vs zs) (g us ws)
variable {g:List Value→List Value→List Value} {gV:List V→List V→List V}
end
structure aF(N P:List Str)(sc:Scope):Prop where
 kind:sc.kind=.function
 co:sc.isCoroutine=false
 gen:sc.isGenerator=false
 nd:N.Nodup
 pre:N.take P.length=P
 par:∀x∈P,sc.names.lookup x=some .local∨sc.names.lookup x=some .cell
 nofree:∀y∈sc.names,y.2≠.free
theorem kH{kindOf:Str→Option NameKind}{x:Str}:∀{binds:List (Str×Value)} {m:Str→Option Value},(∀v,(x,v)∉binds)→bindL kindOf binds m x=m x
 | [],_,_=>rfl
 | (n,v)::r,m,h=>by
  unfold bindL;rw [kH fun w hw=>h w (ab2 _ hw)]
  split
  ·have:x≠n:=by rintro rfl;exact h v ab3
   simp [this]
  ·rfl
theorem kE{kindOf:Str→Option NameKind}{x:Str}:∀{binds:List (Str×Value)} {m:Str→Option Value},(∀v,(x,v)∉binds)→bindC kindOf binds m x=m x
 | [],_,_=>rfl
 | (n,v)::r,m,h=>by
  unfold bindC;rw [kE fun w hw=>h w (ab2 _ hw)]
  split
  ·rfl
  ·have:x≠n:=by rintro rfl;exact h v ab3
   simp [this]
theorem kG{kindOf:Str→Option NameKind}{x:Str}{v:Value}:∀{P:List Str} {vs:List Value} {i:Nat} {m:Str→Option Value},P.Nodup→P[i]?=some x→vs[i]?=some v→kindOf x=some .local→
  bindL kindOf (P.zip vs) m x=some v
 | [],_,_,_,_,h,_,_=>by simp at h
 | _::_,[],_,_,_,_,h,_=>by simp at h
 | p::P,w::vs,0,m,nd,h1,h2,hk=>by
  simp at h1 h2;subst h1;subst h2;show bindL kindOf ((p,w)::P.zip vs) m p=_;unfold bindL;rw [kH fun v hv=>(ah6.mp nd).1 (aj3 hv).1,if_pos hk];simp
 | p::P,w::vs,i+1,m,nd,h1,h2,hk=>by
  show bindL kindOf ((p,w)::P.zip vs) m x=_;unfold bindL;exact kG (i:=i) (ah6.mp nd).2 (by simpa using h1) (by simpa using h2) hk
theorem kD{kindOf:Str→Option NameKind}{x:Str}{v:Value}:∀{P:List Str} {vs:List Value} {i:Nat} {m:Str→Option Value},P.Nodup→P[i]?=some x→vs[i]?=some v→kindOf x≠some .local→
  bindC kindOf (P.zip vs) m x=some v
 | [],_,_,_,_,h,_,_=>by simp at h
 | _::_,[],_,_,_,_,h,_=>by simp at h
 | p::P,w::vs,0,m,nd,h1,h2,hk=>by
  simp at h1 h2;subst h1;subst h2;show bindC kindOf ((p,w)::P.zip vs) m p=_;unfold bindC;rw [kE fun v hv=>(ah6.mp nd).1 (aj3 hv).1,if_neg hk];simp
 | p::P,w::vs,i+1,m,nd,h1,h2,hk=>by
  show bindC kindOf ((p,w)::P.zip vs) m x=_;unfold bindC;exact kD (i:=i) (ah6.mp nd).2 (by simpa using h1) (by simpa using h2) hk
def start(N:List Str)(vs:List V):St:=vs.map some++List.replicate (N.length - vs.length) none
def jf(CX:nM)(P:Program)(w:World)(K:Frag)(mg:Str→Option Value)(base:Heap)(N:List Str)(qual:Str)(scope:Scope)(f:Addr)(cd:Value)(A:Around)(outer:List Env)(s:Shared)(H:Hp)(E:XK):Cx where
 prog:=P
 w:=w
 K:=K
 mg:=mg
 base:=base
 A:=A.deeper (envOfC qual scope s.heap.objs.size f cd)
 N:=N
 s₀:=s
 H₀:=H
 env:=envOfC qual scope s.heap.objs.size f cd
 outer:=outer
 stack:=envOfC qual scope s.heap.objs.size f cd::outer
 ex:=[]
 calm:=true
 fn:=fun _=>true
 pn:=[]
 xe:=fun e s'=>wpAny (model P w) (A.deeper (envOfC qual scope s.heap.objs.size f cd)) (leaving (envOfC qual scope s.heap.objs.size f cd) e) (fun _ s''=>CX outer H s E e s'') (fun e' s''=>CX outer H s E e' s'') s'
theorem nT{sc:Scope}{n:Nat}{x:Str}(h:sc.names.lookup x=some .cell):∃c,(cellsFrom n sc.names []).lookup x=some c:=by
 have q:=PySem.W.cellsFrom_some sc.names n [] (.inl h);exact Option.isSome_iff_exists.mp q
theorem rZ{CX:nM}{P:Program}{w:World}{K:Frag}{mg:Str→Option Value}{base:Heap}{N ps:List Str}{qual:Str}{scope:Scope}{f:Addr}{cd:Value}{A:Around}{outer:List Env}{s s1:Shared}{H:Hp}{E:XK}{us:List Value}{vs:List V}
  (S:aF N ps scope) (hd:A.handled=none) (e0:pG P w K mg base A outer s H) (hl:vs.length=ps.length) (r:aS vs us)
  (x:InCallC s s.heap.objs.size (bindL (envOfC qual scope s.heap.objs.size f cd).kindOf (ps.zip us) fun _=>none) (cellsFrom (s.heap.objs.size+1) scope.names []) (bindC (envOfC qual scope s.heap.objs.size f cd).kindOf (ps.zip us) fun _=>none) s1) :
  aJ (jf CX P w K mg base N qual scope f cd A outer s H E) [] (start N vs) H s1:=by
 have hpl:ps.length≤N.length:=by have:=congrArg List.length S.pre;rw [ad0]at this;omega
 obtain⟨h1,tk,rfl,hk⟩:=x.done;have noA:∀b:Addr,b∉(jf CX P w K mg base N qual scope f cd A outer s H E).ex:=fun b z=>absurd (show b∈([]:List Addr)from z) (by simp)
 refine⟨⟨e0.mod,S.kind,rfl,rfl,aa3 _,fun y z c h1 h2=>?_,fun y hy=>?_,fun y c _ h=>?_,fun _=>hd,Around.frames_deeper e0.frames,.inr ⟨rfl,rfl⟩,fun b z=>absurd z (noA b),e0.bs,e0.bsz,fun b _ _=>noA b,fun b z=>absurd z (noA b),e0.funs,e0.frf⟩,
  rfl,e0.bare,Un.kept hk,⟨_,x.toInCall.ns,fun i y v h1 h2 h3=>?_⟩,fun y c h=>⟨_,x.cell y c h⟩,e0.hok.fresh (aa3 _),fun y c h=>?_,fun p hp=>absurd (show p∈([]:List (Addr×Obj))from hp) (by simp),e0.hok.kept hk,?_⟩
 ·exact name_of_addr x.apart (PySem.mem_of_lookup h1) (PySem.mem_of_lookup h2)
 ·have hy:scope.names.lookup y=some .cell∨scope.names.lookup y=some .free:=hy
  rcases hy with hy | hy
  ·exact nT hy
  ·exact absurd rfl (S.nofree _ (PySem.mem_of_lookup hy))
 ·exact ai2 (x.above y c (PySem.mem_of_lookup h))
 ·have hi:i < vs.length:=by
   unfold start at h2
   by_cases hi:i < vs.length
   ·exact hi
   ·rw [ag1 (by simpa using hi)]at h2
    rw [List.getElem?_replicate]at h2
    split at h2<;>cases h2
  have ha:vs[i]?=some v:=by
   unfold start at h2;rw [ag4 (by simpa using hi),ac5]at h2
   cases e:vs[i]? with
   | none=>rw [e]at h2;cases h2
   | some a=>rw [e]at h2;cases h2;rfl
  obtain⟨u,hu,rv⟩:=r.get ha
  have hp:ps[i]?=some y:=by
   rw [←S.pre,List.getElem?_take_of_lt (by omega)];exact h1
  have ndP:ps.Nodup:=by rw [←S.pre];exact S.nd.sublist (List.take_sublist _ _)
  refine⟨u,rv,?_⟩;rcases S.par y (ac7 hp)with k | k
  ·exact .inl ⟨k,kG ndP hp hu k⟩
  ·obtain⟨c,e⟩:=nT (n:=s.heap.objs.size+1) k
   refine .inr ⟨.inl k,c,e,?_⟩;have q:=x.cell y c e;rw [kD ndP hp hu (by show scope.names.lookup y≠_;rw [k];decide)]at q;exact q
 ·exact e0.hok.fresh (ai2 (x.above y c (PySem.mem_of_lookup h)))
 ·unfold start
  show _=N.length;rw [ab9,aa1,List.length_replicate];omega
theorem xA{CX:nM}{P:Program}{w:World}{K:Frag}{mg:Str→Option Value}{base:Heap}{k:Nat}{f:Addr}{name qual:Str}{params:Arguments}{body:List Stmt}{scope:Scope}{dV kV doc pm cdv ct oc:Value}{an od:Option Addr}
  {osl:Array (Option Value)} {N ps:List Str} {sp:Sp} (lk:K.lookup f=some ⟨oc,od,.func (fnOf name qual params body scope dV kV doc pm an cdv ct),osl⟩) (hcd:codeIn K cdv qual=true) (S:aF N ps scope)
  (len:∀vs H Q E,sp vs H Q E→vs.length=ps.length)
  (hbody:∀(A:Around) (outer:List Env) (s:Shared) (H:Hp) (vs:List V) (Q:VK) (E:XK),b8 k (A.deeper (envOfC qual scope s.heap.objs.size f cdv))→sp vs H Q E→
   ∃t,rF (jf CX P w K mg base N qual scope f cdv A outer s H E) body t∧t { nx:=fun _ H'=>Q .non H',rt:=Q } (start N vs) H) :
  aC P w K mg base CX (k+1) f (fnOf name qual params body scope dV kV doc pm an cdv ct) ps sp:=by
 refine⟨len,fun A outer s H args us vs Q E hr e0 hb r hsp=>?_⟩;have hl:=len _ _ _ _ hsp;have KX:K.In s.heap:=e0.mod.kin.keeps fun b o e=>(e0.bs b o e).1;have lim:s.heap.NoLimit:=e0.mod.nolimit.keeps fun b o e=>(e0.bs b o e).1
 have hkind:∀y∈ps.zip us,scope.names.lookup y.1=some .local∨(scope.names.lookup y.1=some .cell∧((cellsFrom (s.heap.objs.size+1) scope.names []).lookup y.1).isSome=true):=fun⟨n,v⟩ hy=>by
  rcases S.par n (aj3 hy).1 with q | q
  ·exact .inl q
  ·exact .inr ⟨q,PySem.W.cellsFrom_some _ _ _ (.inl q)⟩
 refine codeAny_call_function hr.depth (KX _ _ lk) rfl S.co S.gen rfl (PySem.W.codeRec_of KX hcd) (hb _ _ _ _ ?_);refine wpAny_newFunctionEnv_cells S.kind hkind fun env he s1 x=>?_;subst he;refine⟨lim.keeps x.toInCall.keep,codeAny_func ?_⟩;obtain⟨t,ht,hq⟩:=hbody A outer s H vs Q E (hr.deeper _) hsp;have I:aJ (jf CX P w K mg base N qual scope f cdv A outer s H E) [] (start N vs) H s1:=rZ S hr.hd e0 hl r x;refine wpAny_mono (ht [] s1 (start N vs) H _ I hq) (fun fl s' hs=>?_) fun e s' hs=>hs
 have fin:∀{σ':St} {H':Hp} {v:V} {u:Value},aJ (jf CX P w K mg base N qual scope f cdv A outer s H E) [] σ' H' s'→aQ v u→Q v H'→CE outer P w H s Q u s':=
  fun {σ' H' v u} J rv q=>⟨v,H',J.os,J.bare,J.base,J.hok,rv,q⟩
 cases fl with
 | ret u=>
  obtain⟨v,σ',H',J,rv,q⟩:=hs;exact fin J rv q
 | next=>
  obtain⟨σ',H',J,q⟩:=hs;exact fin (v:=V.non) (u:=Value.none) J rfl q
 | brk=>
  obtain⟨_,_,_,q⟩:=hs;exact False.elim q
 | cont=>
  obtain⟨_,_,_,q⟩:=hs;exact False.elim q
end L2
namespace L2
open PySem PySem.Spec PyProof.Rows
section
variable {X:Cx} {x:Str} {p pos:Pos} {e:Expr} {es:List Expr} {t:TA} {id T:String} {r:List V→Hp→VK→Prop}
def zY(r:List V→Hp→VK→Prop)(t:TA):TE:=fun σ H Q=>t σ H fun vs H1=>r vs H1 Q
theorem aA(hc:bR X (.builtin id) r)(hg:Gl X x)(hm:X.mg x=none)(hv:bootBuiltins x=some (.builtin id))(ha:PA X (e::es) t)(hn:x≠"__name__":=by decide)(hdb:(x == ("__debug__":Str))=false:=by decide)
  (he:starEach (e::es) X.env=(false,eval e X.env)::starEach es X.env:=by rfl) (hpl:(backTo pos (starEach es X.env)).any (·.1)=false:=by rfl):PE X (.Call (.Name x p) (e::es) [] pos) (zY r t):=by
 intro pins s σ H Q I h;refine wpAny_Call_Name_kw (mD I hg hm hv ?_ hn hdb);exact PyProof.Rows.callWith_builtin1 (bQ (ha pos pins s σ H _ I h) fun us s1 ⟨vs,H1,I1,r1,q1⟩=>hc pins s1 σ H1 vs us Q I1 r1 q1) he hpl
theorem ba(hc:bR X (.type T) r)(hg:Gl X x)(hm:X.mg x=none)(hv:bootBuiltins x=some (.type T))(ha:PA X (e::es) t)(hn:x≠"__name__":=by decide)(hdb:(x == ("__debug__":Str))=false:=by decide)
  (he:starEach (e::es) X.env=(false,eval e X.env)::starEach es X.env:=by rfl) (hpl:(backTo pos (starEach es X.env)).any (·.1)=false:=by rfl):PE X (.Call (.Name x p) (e::es) [] pos) (zY r t):=by
 intro pins s σ H Q I h;refine wpAny_Call_Name_kw (mD I hg hm hv ?_ hn hdb);exact PyProof.Rows.callWith_type1 (bQ (ha pos pins s σ H _ I h) fun us s1 ⟨vs,H1,I1,r1,q1⟩=>hc pins s1 σ H1 vs us Q I1 r1 q1) he hpl
end
end L2
namespace HT
open PySem PyProof.Rows
section
open PySem.SeqAt
open PySem.AutoSeq1 (wpAny_loadPart')
open PySem.MeetsSeq PySem.MeetsSeq2 PySem.MeetsSeq3
end
section
variable {prog:Program} {w:World} {A:Around} {E:Value→Shared→Prop} {s:Shared}
theorem cat_tup{t b:Addr}{vs ws:List Value}{Q:Value→Shared→Prop}(ht:IsTup s.heap t vs.toArray)(hb:IsTup s.heap b ws.toArray)(hv:vs≠[])
  (h1:ws=[]→Q (.ref t) s) (h2:ws≠[]→Q (.ref s.heap.objs.size) { s with heap:=s.heap.push { cls:=.type "tuple",data:=.seq (vs++ws).toArray } })
  (hsz:vs.length+ws.length≤sizeLine):wpAny (model prog w) A (binaryOp .Add (.ref t) (.ref b)) Q E s:=by
 obtain⟨⟨cls,dd,data,sl⟩,ho,hc,n,hd⟩:=id ht;obtain⟨⟨cls2,dd2,data2,sl2⟩,ho2,hc2,n2,hd2⟩:=id hb;simp only at hc hd hc2 hd2;subst hc hd hc2 hd2
 have e:vs.toArray++ws.toArray=(vs++ws).toArray:=by simp
 by_cases hw:ws=[]
 ·exact concat_meets ⟨_,ho,rfl⟩ ⟨_,ho2,rfl⟩ noFill_tuple_add seq_tuple_add PySem.F.slot_tuple_add PySem.F.entry_tuple_add (PySem.F.args_tuple_add_2 _ _)
   (tuple_addW1 t b vs.toArray ws.toArray n n2 dd dd2 sl sl2 (by simpa using hv) (by simp [hw])) ⟨ho,ho2,h1 hw⟩
 ·refine concat_meets ⟨_,ho,rfl⟩ ⟨_,ho2,rfl⟩ noFill_tuple_add seq_tuple_add PySem.F.slot_tuple_add PySem.F.entry_tuple_add (PySem.F.args_tuple_add_2 _ _)
   (tuple_addW2 t b vs.toArray ws.toArray n n2 dd dd2 sl sl2 (by simpa using hv) (by simpa using hw) (by rw [aa4,aa4];exact hsz)) ⟨ho,ho2,?_⟩
  rw [e];exact h2 hw
def sIx(n d:Nat):Option Int→Nat
 | none=>d
 | some v=>if v < 0 then(v+(n:Int)).toNat else min v.toNat n
theorem sIx_none(n d:Nat):sIx n d none=d:=rfl
theorem sIx_nat(n d k:Nat):sIx n d (some (k:Int))=min k n:=by
 show(if (k:Int) < 0 then((k:Int)+(n:Int)).toNat else min (k:Int).toNat n)=min k n;rw [if_neg (by omega),ai5]
theorem yL(n d:Nat)(hd:d≤n)(o:Option Int):sIx n d o≤n:=by
 cases o with
 | none=>exact hd
 | some v=>
  show(if v < 0 then(v+(n:Int)).toNat else min v.toNat n)≤n
  by_cases hv:v < 0
  ·rw [if_pos hv];omega
  ·rw [if_neg hv];exact Nat.min_le_right _ _
theorem qI(v:Int)(n d:Nat):(if v < 0 then max (v+(n:Int)) 0 else min v (n:Int))=((sIx n d (some v):Nat):Int):=by
 show(if v < 0 then max (v+(n:Int)) 0 else min v (n:Int))=(((if v < 0 then(v+(n:Int)).toNat else min v.toNat n):Nat):Int)
 by_cases hv:v < 0
 ·simp only [if_pos hv];omega
 ·simp only [if_neg hv];omega
theorem pM(lo hi:Option Int)(n:Nat):Builtin.Slice.sliceAdjust lo hi 1 (n:Int)=(((sIx n 0 lo:Nat):Int),((sIx n n hi:Nat):Int)):=by
 have h1:¬((1:Int) < 0):=by omega
 unfold Builtin.Slice.sliceAdjust;simp only [h1,if_false];refine Prod.ext ?_ ?_
 ·cases lo with
  | none=>rfl
  | some v=>exact qI v n 0
 ·cases hi with
  | none=>rfl
  | some v=>exact qI v n n
theorem qg(i j:Nat):Builtin.Slice.slicePlaces (i:Int) (j:Int) 1=j - i:=by
 unfold Builtin.Slice.slicePlaces
 have h1:(1:Int) > 0:=by omega
 simp only [h1,if_true,Int.ediv_one]
 split<;>omega
theorem jR{v:Value}{o:Option Int}{Q:Option Int→Shared→Prop}(p:IsPart v o)(h:Q o s):wpAny (model prog w) A (Builtin.Slice.slicePartIndex v) Q E s:=by
 cases p with
 | none=>exact slicePart_none h
 | int i t=>exact slicePart_int h
theorem iu{sl:Addr}{vl vu:Value}{lo hi:Option Int}{n:Nat}{Q:Int×Int×Nat→Shared→Prop}(hs:s.heap.IsSliceOf sl vl vu .none)(pl:IsPart vl lo)(pu:IsPart vu hi)
  (h:Q (((sIx n 0 lo:Nat):Int),1,sIx n n hi - sIx n 0 lo) s):wpAny (model prog w) A (Builtin.Slice.sliceApplied (.ref sl) (pure (n:Int))) Q E s:=by
 obtain⟨os,hos,hcs,hds⟩:=id hs;unfold Builtin.Slice.sliceApplied Builtin.Slice.sliceFields;refine wpAny_bind (wpAny_bind (wpAny_field hos hds (x:=vl) rfl (wpAny_bind (wpAny_field hos hds (x:=vu) rfl (wpAny_bind (wpAny_field hos hds (x:=.none) rfl (wpAny_pure ?_)))))));refine wpAny_bind (slicePart_none ?_);show wpAny _ _ (if ((1:Int) == 0)=true then _ else _) _ _ s;rw [if_neg (by decide)];refine wpAny_bind (jR pl (wpAny_bind (jR pu (wpAny_bind (wpAny_pure ?_)))))
 show wpAny _ _ (match Builtin.Slice.sliceAdjust lo hi 1 (n:Int)with | (lo,hi)=>pure (lo,(1:Int),Builtin.Slice.slicePlaces lo hi 1)) _ _ s
 rw [pM lo hi n];show wpAny _ _ (pure (((sIx n 0 lo:Nat):Int),(1:Int),Builtin.Slice.slicePlaces ((sIx n 0 lo:Nat):Int) ((sIx n n hi:Nat):Int) 1)) _ _ s;rw [qg];exact wpAny_pure h
theorem uU(xs:Array Value)(i k:Nat):((List.range k).filterMap fun(m:Nat)=>xs[((i:Int)+(m:Int) * 1).toNat]?).toArray=((xs.toList.drop i).take k).toArray:=by
 have e:(fun(m:Nat)=>xs[((i:Int)+(m:Int) * 1).toNat]?)=fun m=>xs[i+m]?:=by
  funext m
  have:((i:Int)+(m:Int) * 1).toNat=i+m:=by omega
  rw [this]
 rw [e]
 have:=pick_run xs i k
 rw [List.filterMap_map]at this;have e2:((fun x=>xs[x]?)∘fun x=>i+x)=fun m=>xs[i+m]?:=rfl;rw [e2]at this;rw [this]
theorem getItem_tuple_cut{t sl:Addr}{items:Array Value}{vl vu:Value}{lo hi:Option Int}{Q:Value→Shared→Prop}(ht:IsTup s.heap t items)(hs:s.heap.IsSliceOf sl vl vu .none)(pl:IsPart vl lo)(pu:IsPart vu hi)
  (hw:¬(sIx items.size 0 lo=0∧sIx items.size items.size hi=items.size))
  (h:Q (.ref s.heap.objs.size) { s with heap:=s.heap.push { cls:=.type "tuple",data:=.seq ((items.toList.drop (sIx items.size 0 lo)).take (sIx items.size items.size hi - sIx items.size 0 lo)).toArray } })
  (hsz:items.size≤sizeLine):wpAny (model prog w) A (getItem (.ref t) (.ref sl)) Q E s:=by
 have htake:sizeOk (.seq ((items.toList.drop (sIx items.size 0 lo)).take (sIx items.size items.size hi - sIx items.size 0 lo)).toArray):=by
  show((items.toList.drop (sIx items.size 0 lo)).take (sIx items.size items.size hi - sIx items.size 0 lo)).toArray.size≤sizeLine;rw [aa4,ad0,ae0,ai0];omega
 have hj:sIx items.size items.size hi≤items.size:=yL _ _ (aa3 _) hi;obtain⟨os,hos,hcs,hds⟩:=id hs;have hTs:s.TypeIs (.ref sl) "slice":=⟨os,hos,hcs⟩;unfold getItem
 try with_reducible refine wpAny_holding ?_
 first | refine wpAny_bind (wpAny_pure ?_) | skip
 refine wpAny_bind (wpAny_sequenceKey ht.typeIs (by decide) ?_)
 refine wpAny_bind (wpAny_callSpecial?_slot (name:=Str.ofString "__getitem__") ht.typeIs PyProof.Rows.slot_tuple_getitem
  (wpAny_call_entry PyProof.Rows.slot_tuple_getitem ht.typeIs entry_tuple_getitem ?_ (args_tuple_getitem _ _)))
 show wpAny _ _ (Builtin.Tuple.tupleItemsOf (.ref t) >>= _) _ _ s;refine wpAny_bind (tupleItemsOf_ ht ?_);refine wpAny_bind (wpAny_typeOf hTs ?_);rw [if_pos (by decide)];refine wpAny_bind (iu hs pl pu ?_)
 have t9:¬((((sIx items.size 0 lo:Nat):Int) == 0 && (1:Int) == 1 && (sIx items.size items.size hi - sIx items.size 0 lo) == items.size)=true):=by
  intro q;rw [ac0,ac0]at q;have q1:((sIx items.size 0 lo:Nat):Int)=0:=eq_of_beq q.1.1;have q2:sIx items.size items.size hi - sIx items.size 0 lo=items.size:=eq_of_beq q.2;exact hw ⟨by omega,by omega⟩
 show wpAny _ _ (if (((sIx items.size 0 lo:Nat):Int) == 0 && (1:Int) == 1 && (sIx items.size items.size hi - sIx items.size 0 lo) == items.size)=true then _ else _) _ _ s;rw [if_neg t9,uU]
 first
  | exact wpAny_bind (m:=Builtin.Tuple.tupleExact _) (wpAny_newObj_type (wpAny_pure ⟨_,rfl,wpAny_pure h⟩) htake)
  | exact wpAny_bind (m:=Builtin.Tuple.tupleExact _) (wpAny_newObj_type (wpAny_bind (wpAny_pure (wpAny_pure ⟨_,rfl,wpAny_pure h⟩))) htake)
  | exact wpAny_bind (wpAny_bind (m:=Builtin.Tuple.tupleExact _) (wpAny_newObj_type (wpAny_pure (wpAny_pure ⟨_,rfl,wpAny_pure h⟩)) htake))
  | exact wpAny_bind (wpAny_bind (m:=Builtin.Tuple.tupleExact _) (wpAny_newObj_type (wpAny_pure ⟨_,rfl,wpAny_pure h⟩) htake))
end
end HT
namespace L2
open PySem PySem.Spec PyProof.Rows
abbrev TO:=St→Hp→(Option Int→Hp→Prop)→Prop
def PO(X:Cx)(e:Option Expr)(t:TO):Prop:=
 ∀(pins:List (Addr×Obj)) (s:Shared) (σ:St) (H:Hp) (Q:Option Int→Hp→Prop),aJ X pins σ H s→t σ H Q→
  wpAny (model X.prog X.w) X.A (evalPart e X.env) (fun u s'=>∃o H',aJ X pins σ H' s'∧IsPart u o∧Q o H') X.xe s
def i6:TO:=fun _ H Q=>Q none H
def pA(t:TE):TO:=fun σ H Q=>t σ H fun x H1=>∃i,x=.int i∧Q (some i) H1
section
variable {X:Cx} {e:Expr} {te:TE} {lo hi:Option Expr} {tl th:TO} {pos p2:Pos}
theorem aG:PO X none i6:=by
 intro pins s σ H Q I h;rw [evalPart_none];exact wpAny_pure ⟨none,H,I,.none,h⟩
theorem wI(h:PE X e te):PO X (some e) (pA te):=by
 intro pins s σ H Q I hw;rw [evalPart_some];refine bQ (h pins s σ H _ I hw) fun u s1 ⟨x,H1,I1,r1,q1⟩=>?_;obtain⟨i,rfl,q⟩:=q1;obtain⟨t,rfl⟩:=r1;exact⟨some i,H1,I1,.int i t,q⟩
def vE(X:Cx)(r:V→Option Int→Option Int→Hp→VK→Prop):Prop:=
 ∀(pins:List (Addr×Obj)) (s:Shared) (σ:St) (H:Hp) (x:V) (v vl vu:Value) (lo hi:Option Int) (sl:Addr) (Q:VK),aJ X pins σ H s→aQ x v→s.heap.IsSliceOf sl vl vu .none→IsPart vl lo→IsPart vu hi→r x lo hi H Q→
  ∃T id,typeLookup (.type T) "__getitem__"=pure (some (.builtin id))∧s.TypeIs v T∧wpAny (model X.prog X.w) X.A (getItem v (.ref sl)) (EP X pins σ Q) X.xe s
theorem vE.or{r r':V→Option Int→Option Int→Hp→VK→Prop}(h:vE X r)(h':vE X r'):vE X (fun x lo hi H Q=>r x lo hi H Q∨r' x lo hi H Q):=by
 intro pins s σ H x v vl vu lo hi sl Q I rx hs pl pu q;rcases q with q | q
 ·exact h pins s σ H x v vl vu lo hi sl Q I rx hs pl pu q
 ·exact h' pins s σ H x v vl vu lo hi sl Q I rx hs pl pu q
def Aj(r:V→Option Int→Option Int→Hp→VK→Prop)(te:TE)(tl th:TO):TE:=fun σ H Q=>te σ H fun x H1=>tl σ H1 fun l H2=>th σ H2 fun u H3=>r x l u H3 Q
theorem ax{r:V→Option Int→Option Int→Hp→VK→Prop}(hr:vE X r)(he:PE X e te)(hl:PO X lo tl)(hu:PO X hi th):PE X (.Subscript e (.Slice lo hi none p2) pos) (Aj r te tl th):=by
 intro pins s σ H Q I h;refine Subscript_ (bQ (he pins s σ H _ I h) fun v s1 ⟨x,H1,I1,r1,q1⟩=>?_);refine wpAny_Slice (bQ (hl pins s1 σ H1 _ I1 q1) fun vl s2 ⟨l,H2,I2,pl,q2⟩=>bQ (hu pins s2 σ H2 _ I2 q2) fun vu s3 ⟨u,H3,I3,pu,q3⟩=>?_);rw [evalPart_none];refine wpAny_pure ?_;have I4:aJ X pins σ H3 { s3 with heap:=s3.heap.push { cls:=.type "slice",data:=.fields #[vl,vu,.none] } }:=I3.kept (t':=s3.toks) fun b ob q=>aa2 _ q;obtain⟨T,id,hT,ht,hg⟩:=hr pins { s3 with heap:=s3.heap.push { cls:=.type "slice",data:=.fields #[vl,vu,.none] } } σ H3 x v vl vu l u s3.heap.objs.size Q I4 r1 (Heap.IsSliceOf.new ..) pl pu q3;show wpAny (model X.prog X.w) X.A (subscriptTail e (.Slice lo hi none p2) v (.ref s3.heap.objs.size)) (EP X pins σ Q) X.xe { s3 with heap:=s3.heap.push { cls:=.type "slice",data:=.fields #[vl,vu,.none] } };exact tail_any (ops:=[.ref s3.heap.objs.size,v]) ht hT hg (by with_unfolding_all rfl)
def gs(xs:List V)(lo hi:Option Int):List V:=(xs.drop (HT.sIx xs.length 0 lo)).take (HT.sIx xs.length xs.length hi - HT.sIx xs.length 0 lo)
theorem iB(xs:List V)(lo hi:Option Int):(gs xs lo hi).length≤xs.length:=by
 unfold gs;rw [ad0,ae0];omega
def yI(K:Frag):V→Option Int→Option Int→Hp→VK→Prop:=fun x lo hi H Q=>∃a xs,x=.ref a∧eT K H a xs∧
 ¬(HT.sIx xs.length 0 lo=0∧HT.sIx xs.length xs.length hi=xs.length)∧∀p,H p=none→Q (.ref p) (upd H p (.tup (gs xs lo hi)))
theorem sl_tup:vE X (yI X.K):=by
 intro pins s σ H x v vl vu lo hi sl Q I rx hs pl pu h;obtain⟨a,xs,rfl,hx,hw,q⟩:=h;cases rx;obtain⟨its,r,ht,hz⟩:=I.tuple hx
 have hlen:its.toArray.size=xs.length:=by rw [aa4];exact r.length.symm
 refine⟨"tuple",_,PyProof.Rows.slot_tuple_getitem.lookup,ht.typeIs,?_⟩;refine HT.getItem_tuple_cut ht hs pl pu (by rw [hlen];exact hw) ?_ (by rw [hlen];exact hz);rw [hlen];refine⟨.ref s.heap.objs.size,_,I.laid (t':=s.toks) (o:=.tup (gs xs lo hi)) (fun b ob q=>aa2 _ q) (aa3 _) ?_,rfl,q _ (I.hok.fresh (aa3 _))⟩;exact⟨aa7 (iB xs lo hi) hz,_,(r.drop (HT.sIx xs.length 0 lo)).take (HT.sIx xs.length xs.length hi - HT.sIx xs.length 0 lo),IsTup.new _ _⟩
def qX(K:Frag):R2:=fun x y H Q=>∃a b xs ys,x=.ref a∧y=.ref b∧eT K H a xs∧eT K H b ys∧xs≠[]∧xs.length+ys.length≤sizeLine∧
 (ys=[]→Q (.ref a) H)∧(ys≠[]→∀p,H p=none→Q (.ref p) (upd H p (.tup (xs++ys))))
theorem aS.nil_iff{xs:List V}{us:List Value}(r:aS xs us):us=[]↔xs=[]:=by
 cases r with
 | nil=>simp
 | cons _ _=>simp
theorem wz:cI X (binaryOp .Add) (qX X.K):=by
 intro pins s σ H x y v u Q I rx ry h;obtain⟨a,b,xs,ys,rfl,rfl,ha,hb,hx,hz,q1,q2⟩:=h;cases rx;cases ry;obtain⟨its,r1,p1,_⟩:=I.tuple ha;obtain⟨its2,r2,p2,_⟩:=I.tuple hb;refine HT.cat_tup p1 p2 (fun z=>hx (r1.nil_iff.mp z)) (fun z=>⟨.ref a,H,I,rfl,q1 (r2.nil_iff.mp z)⟩) (fun z=>?_) (by rw [←r1.length,←r2.length];exact hz);refine⟨.ref s.heap.objs.size,_,I.laid (t':=s.toks) (o:=.tup (xs++ys)) (fun b ob q=>aa2 _ q) (aa3 _) ?_,rfl,q2 (fun w=>z (r2.nil_iff.mpr w)) _ (I.hok.fresh (aa3 _))⟩;exact⟨by rw [ab9];exact hz,_,r1.append r2,IsTup.new _ _⟩
end
end L2
namespace L2
open PySem PySem.Spec PyProof.Rows
def ug(n:Nat)(i:Int):Option Nat:=if 0≤i then(if i < n then some i.toNat else none)else if -(n:Int)≤i then some (i+n).toNat else none
def dG{α:Type}(xs:List α)(i:Int):Option α:=(ug xs.length i).bind fun j=>xs[j]?
theorem qT{n:Nat}{i:Int}{j:Nat}(h:ug n i=some j):seqIndex? i n=some j∧j < n∧-(n:Int)≤i∧i < n:=by
 unfold ug at h
 by_cases h0:0≤i
 ·rw [if_pos h0]at h
  by_cases h1:i < n
  ·rw [if_pos h1]at h
   have e:i.toNat=j:=Option.some.inj h;exact⟨by rw [seqIndex_of h0 h1,e],by omega,by omega,h1⟩
  ·rw [if_neg h1]at h;cases h
 ·rw [if_neg h0]at h
  by_cases h1:-(n:Int)≤i
  ·rw [if_pos h1]at h
   have e:(i+n).toNat=j:=Option.some.inj h;exact⟨by rw [seqIndex_neg (by omega) h1,e],by omega,h1,by omega⟩
  ·rw [if_neg h1]at h;cases h
theorem mn{α:Type}{xs:List α}{i:Int}{v:α}(h:dG xs i=some v):∃j,seqIndex? i xs.length=some j∧xs[j]?=some v∧j < xs.length∧-(xs.length:Int)≤i∧i < xs.length:=by
 unfold dG at h
 cases e:ug xs.length i with
 | none=>rw [e]at h;cases h
 | some j=>
  rw [e]at h;obtain⟨h1,h2,h3,h4⟩:=qT e;exact⟨j,h1,h,h2,h3,h4⟩
theorem aU{α:Type}{xs:List α}{j:Nat}{v:α}(h:xs[j]?=some v):dG xs (j:Int)=some v:=by
 have hj:j < xs.length:=(ab5.mp h).1
 have e:ug xs.length (j:Int)=some j:=by
  unfold ug;rw [if_pos (by omega),if_pos (by omega)];simp
 unfold dG;rw [e];exact h
def md(b:Expr):Prop:=∀o i,subscripted b false o i=operate [o,i] (getItem o i)
def sY(X:Cx)(r:R2):Prop:=
 ∀(value slice:Expr) (pins:List (Addr×Obj)) (s:Shared) (σ:St) (H:Hp) (x y:V) (v u:Value) (Q:VK),aJ X pins σ H s→aQ x v→aQ y u→r x y H Q→
  subscripted slice false v u=operate [v,u] (getItem v u)→wpAny (model X.prog X.w) X.A (subscriptTail value slice v u) (EP X pins σ Q) X.xe s
def sQ(X:Cx)(id:String)(r:V→List V→Hp→VK→Prop):Prop:=
 ∀(pins:List (Addr×Obj)) (s:Shared) (σ:St) (H:Hp) (x:V) (xs:List V) (v:Value) (us:List Value) (Q:VK),aJ X pins σ H s→aQ x v→aS xs us→r x xs H Q→
  wpAny (model X.prog X.w) X.A (call (.builtin id) (v::us)) (EP X pins σ Q) X.xe s
section
variable {X:Cx} {a b:Expr} {ta tb:TE} {pos:Pos}
theorem sY.or{r r':R2}(h:sY X r)(h':sY X r'):sY X (fun x y H Q=>r x y H Q∨r' x y H Q):=by
 intro value slice pins s σ H x y v u Q I rx ry q hs;rcases q with q | q
 ·exact h value slice pins s σ H x y v u Q I rx ry q hs
 ·exact h' value slice pins s σ H x y v u Q I rx ry q hs
theorem sQ.or{id:String}{r r':V→List V→Hp→VK→Prop}(h:sQ X id r)(h':sQ X id r'):sQ X id (fun x xs H Q=>r x xs H Q∨r' x xs H Q):=by
 intro pins s σ H x xs v us Q I rx rs q;rcases q with q | q
 ·exact h pins s σ H x xs v us Q I rx rs q
 ·exact h' pins s σ H x xs v us Q I rx rs q
theorem aK{r:R2}(hr:sY X r)(ha:PE X a ta)(hb:PE X b tb)(hs:md b):PE X (.Subscript a b pos) (xO r ta tb):=by
 intro pins s σ H Q I h;exact Subscript_ (vP ha hb I h fun v u s2 x y H2 I2 rx ry q=>hr a b pins s2 σ H2 x y v u Q I2 rx ry q (hs _ _))
def yC(K:Frag):R2:=fun x y H Q=>∃p xs i v,x=.ref p∧y=.int i∧bf K H p xs∧dG xs i=some v∧Q v H
def yE(K:Frag):R2:=fun x y H Q=>∃p xs i v,x=.ref p∧y=.int i∧eT K H p xs∧dG xs i=some v∧Q v H
def yD:R2:=fun x y H Q=>∃z i c,x=.str z∧y=.int i∧z.length≤sizeLine∧dG z.cps.toList i=some c∧Q (.str ⟨#[c]⟩) H
theorem ix_list:sY X (yC X.K):=by
 intro value slice pins s σ H x y v u Q I rx ry h hs;obtain⟨p,xs,i,z,rfl,rfl,hq,he,q⟩:=h;cases rx;obtain⟨t,rfl⟩:=ry;obtain⟨its,r,pl,hz⟩:=I.list hq;obtain⟨j,h1,h2,h3,h4,h5⟩:=mn he;obtain⟨w,ew,rw'⟩:=r.get h2;have hl:=r.length;have hn:=fY;have fin:EP X pins σ Q w s:=⟨z,H,I,rw',q⟩
 by_cases h0:0≤i
 ·have hj:i.toNat=j:=by
   rw [seqIndex_of h0 h5]at h1;exact Option.some.inj h1
  exact item_listR pl.isList h0 (by omega) (by rw [hj];simpa using ew) fin hs
 ·have hj:(i+(its.toArray.size:Int)).toNat=j:=by
   rw [seqIndex_neg (by omega) h4]at h1;rw [aa4,←hl];exact Option.some.inj h1
  exact subscriptTail_builtinR (x:=w) pl.isList.typeIs slot_list_getitem.lookup
   (wpAny_getItem_list_neg (Q:=fun r s'=>r=w∧EP X pins σ Q r s') pl.isList (by omega) (by rw [aa4]<;>omega) (by omega) (by rw [hj];simpa using ew) ⟨rfl,fin⟩) hs
theorem ix_tup:sY X (yE X.K):=by
 intro value slice pins s σ H x y v u Q I rx ry h hs;obtain⟨p,xs,i,z,rfl,rfl,hq,he,q⟩:=h;cases rx;obtain⟨t,rfl⟩:=ry;obtain⟨its,r,pl,hz⟩:=I.tuple hq;obtain⟨j,h1,h2,h3,h4,h5⟩:=mn he;obtain⟨w,ew,rw'⟩:=r.get h2;have hl:=r.length;have hn:=fY;have fin:EP X pins σ Q w s:=⟨z,H,I,rw',q⟩
 exact subscriptTail_builtinR (x:=w) pl.typeIs slot_tuple_getitem.lookup
  (getItem_tuple (j:=j) (Q:=fun r s'=>r=w∧EP X pins σ Q r s') pl (by omega) (by omega) (by rw [aa4,←hl];exact h1) (by simpa using ew) ⟨rfl,fin⟩) hs
theorem yb:sY X yD:=by
 intro value slice pins s σ H x y v u Q I rx ry h hs;obtain⟨z,i,c,rfl,rfl,hz,he,q⟩:=h;obtain⟨t,rfl⟩:=rx;obtain⟨t',rfl⟩:=ry;obtain⟨j,h1,h2,h3,h4,h5⟩:=mn he
 have hl:z.cps.toList.length=z.length:=by simp [Str.length]
 rw [hl]at h1 h4 h5;have hn:=fY
 exact tail_any (typeIs_str s z t) slot_str_getitem.lookup (getItem_str (c:=c) (by
  have e1:decide (i < -(2 ^ 63:Int))=false:=decide_eq_false (by omega);have e2:decide (i≥2 ^ 63)=false:=decide_eq_false (by omega)
  rw [e1,e2,Bool.or_false]) (by rw [h1];simpa using h2) ⟨.str ⟨#[c]⟩,H,I.tok _,⟨_,rfl⟩,q⟩) hs
def yB(K:Frag):R2:=fun x y H Q=>yC K x y H Q∨yE K x y H Q∨yD x y H Q
theorem ya:sY X (yB X.K):=ix_list.or (ix_tup.or yb)
theorem pY(its:List Value)(n j:Nat)(u:Value):Obj.mapSeq (·.setIfInBounds j u) { cls:=.type "list",data:=.seq its.toArray n }={ cls:=.type "list",data:=.seq (its.set j u).toArray n }:=by
 simp [Obj.mapSeq]
theorem aJ.lst{pins:List (Addr×Obj)}{σ:St}{H:Hp}{s:Shared}{p:Addr}{xs:List V}(I:aJ X pins σ H s)(h:H p=some (.lst xs)):
  ∃(its:List Value) (n:Nat),aS xs its∧s.heap.get? p=some { cls:=.type "list",data:=.seq its.toArray n }∧xs.length≤sizeLine:=by
 obtain⟨z,its,n,r,e⟩:=I.hok p _ h;exact⟨its,n,r,e,z⟩
theorem aJ.lstUpd{pins:List (Addr×Obj)}{σ:St}{H:Hp}{s:Shared}{p:Addr}{xs ys:List V}{its its':List Value}{n n':Nat}{f:Obj→Obj}(I:aJ X pins σ H s)(h:H p=some (.lst xs))
  (ho:s.heap.get? p=some { cls:=.type "list",data:=.seq its.toArray n }) (hf:f { cls:=.type "list",data:=.seq its.toArray n }={ cls:=.type "list",data:=.seq its'.toArray n' }) (r:aS ys its') (hz:ys.length≤sizeLine) (t:Nat) :
  aJ X pins σ (upd H p (.lst ys)) { s with heap:=s.heap.update p f,toks:=t }:=by
 have e:(s.heap.update p f).get? p=some { cls:=.type "list",data:=.seq its'.toArray n' }:=by
  rw [af8 f ho (by rw [hf]<;>rfl),hf]
 refine I.write (x:=p) (e:=p) (by rw [h];trivial) (.inl rfl) (fun b u hb q=>(ad6 _ _ (Ne.symm hb)).trans q) ⟨_,e⟩ ?_;exact⟨hz,its',n',r,e⟩
def u7:V→V→V→Hp→(Hp→Prop)→Prop:=fun o i v H Q=>∃p xs k j,o=.ref p∧i=.int k∧H p=some (.lst xs)∧ug xs.length k=some j∧Q (upd H p (.lst (xs.set j v)))
theorem vd:zd X u7:=by
 intro pins s σ H o i v ov iv u Q I ro ri rv h;obtain⟨p,xs,k,j,rfl,rfl,hp,hj,q⟩:=h;cases ro;obtain⟨t,rfl⟩:=ri;obtain⟨its,n,r,ho,hz⟩:=I.lst hp;obtain⟨h1,h2,h3,h4⟩:=qT hj;have hl:=r.length;have hn:=fY
 have I':aJ X pins σ (upd H p (.lst (xs.set j v))) { s with heap:=s.heap.update p (Obj.mapSeq (·.setIfInBounds j u)) }:=
  I.lstUpd hp ho (pY its n j u) (r.set rv j) (by rw [aj4];exact hz) s.toks
 by_cases h0:0≤k
 ·have hk:k.toNat=j:=by
   rw [seqIndex_of h0 h4]at h1;exact Option.some.inj h1
  exact PySem.W.ki_setAt ho h0 (by omega) (by rw [aa4,←hl];exact h4) (by rw [hk];exact⟨_,I',q⟩)
 ·have hk:(k+(its.toArray.size:Int)).toNat=j:=by
   rw [seqIndex_neg (by omega) h3]at h1;rw [aa4,←hl];exact Option.some.inj h1
  exact PySem.W.ki_setBack ho (by omega) (by rw [aa4,←hl];exact h3) (by omega) (by rw [hk];exact⟨_,I',q⟩)
theorem nq(lo hi:Option Int)(n:Nat):(sliceBounds lo hi none n).1=((HT.sIx n 0 lo:Nat):Int)∧(sliceBounds lo hi none n).2.1=((HT.sIx n n hi:Nat):Int)∧(sliceBounds lo hi none n).2.2=1:=by
 refine⟨?_,?_,rfl⟩
 ·cases lo with
  | none=>simp [sliceBounds,HT.sIx]
  | some i=>
   simp only [sliceBounds,HT.sIx,Option.getD_none,show(1:Int) > 0 by decide,if_true]
   by_cases h:i < 0
   ·simp only [h,if_true]<;>omega
   ·simp only [h,if_false]<;>omega
 ·cases hi with
  | none=>simp [sliceBounds,HT.sIx]
  | some i=>
   simp only [sliceBounds,HT.sIx,Option.getD_none,show(1:Int) > 0 by decide,if_true]
   by_cases h:i < 0
   ·simp only [h,if_true]<;>omega
   ·simp only [h,if_false]<;>omega
theorem kz(its:List Value)(lo hi:Option Int):slicePick its.toArray lo hi none=((its.drop (HT.sIx its.length 0 lo)).take (HT.sIx its.length its.length hi - HT.sIx its.length 0 lo)).toArray:=by
 obtain⟨h1,h2,h3⟩:=nq lo hi its.toArray.size;unfold slicePick;rw [h1,h2,h3]
 simp only [sliceRange_one,pick_run,aa4]<;>rfl
def yG(K:Frag):V→Option Int→Option Int→Hp→VK→Prop:=fun x lo hi H Q=>∃a xs,x=.ref a∧bf K H a xs∧∀p,H p=none→Q (.ref p) (upd H p (.lst (gs xs lo hi)))
theorem sl_list:vE X (yG X.K):=by
 intro pins s σ H x v vl vu lo hi sl Q I rx hs pl pu h;obtain⟨a,xs,rfl,hx,q⟩:=h;cases rx;obtain⟨its,r,ht,hz⟩:=I.list hx;have hlen:=r.length;refine⟨"list",_,slot_list_getitem.lookup,ht.isList.typeIs,?_⟩
 refine wpAny_getItem_list_slice ht.isList hs pl pu .none (by simp) ?_ (by rw [aa4]<;>omega)
 rw [kz,←hlen];refine⟨.ref s.heap.objs.size,_,I.laid (t':=s.toks) (o:=.lst (gs xs lo hi)) (fun b ob q=>aa2 _ q) (aa3 _) ?_,rfl,q _ (I.hok.fresh (aa3 _))⟩;exact⟨aa7 (iB xs lo hi) hz,_,0,(r.drop (HT.sIx xs.length 0 lo)).take (HT.sIx xs.length xs.length hi - HT.sIx xs.length 0 lo),ab6 _ rfl⟩
def dt:V→Bool
 | .non=>true
 | .bl _=>true
 | .int _=>true
 | .str _=>true
 | _=>false
def vG:V→V→Bool
 | .non,.non=>true
 | .bl a,.bl b=>a == b
 | .bl a,.int b=>(if a then 1 else 0) == b
 | .int a,.bl b=>a == (if b then 1 else 0)
 | .int a,.int b=>a == b
 | .str a,.str b=>a == b
 | _,_=>false
theorem xW{A:Around}{s:Shared}{y x:V}{u v:Value}(ry:aQ y u)(rx:aQ x v)(fy:dt y=true)(fx:dt x=true):SeqAt.EqAt A s u v (vG y x):=by
 cases y with
 | non=>
  cases ry
  cases x with
  | non=>cases rx;exact SeqAt.EqAt.same _
  | bl b=>cases rx;exact SeqAt.EqAt.none_bool b
  | int b=>obtain⟨t,rfl⟩:=rx;exact SeqAt.EqAt.none_int b t
  | str b=>obtain⟨t,rfl⟩:=rx;exact SeqAt.EqAt.none_str b t
  | _=>exact absurd (show false=true from fx) aa0
 | bl a=>
  cases ry
  cases x with
  | non=>cases rx;exact SeqAt.EqAt.bool_none a
  | bl b=>cases rx;exact SeqAt.EqAt.bool_bool a b
  | int b=>obtain⟨t,rfl⟩:=rx;exact SeqAt.EqAt.bool_int a b t
  | str b=>obtain⟨t,rfl⟩:=rx;exact SeqAt.EqAt.bool_str a b t
  | _=>exact absurd (show false=true from fx) aa0
 | int a=>
  obtain⟨t',rfl⟩:=ry
  cases x with
  | non=>cases rx;exact SeqAt.EqAt.int_none a t'
  | bl b=>cases rx;exact SeqAt.EqAt.int_bool a t' b
  | int b=>obtain⟨t,rfl⟩:=rx;exact SeqAt.EqAt.int_int a t' b t
  | str b=>obtain⟨t,rfl⟩:=rx;exact SeqAt.EqAt.int_str a t' b t
  | _=>exact absurd (show false=true from fx) aa0
 | str a=>
  obtain⟨t',rfl⟩:=ry
  cases x with
  | non=>cases rx;exact SeqAt.EqAt.str_none a t'
  | bl b=>cases rx;exact SeqAt.EqAt.str_bool a t' b
  | int b=>obtain⟨t,rfl⟩:=rx;exact SeqAt.EqAt.str_int a t' b t
  | str b=>obtain⟨t,rfl⟩:=rx;exact SeqAt.EqAt.str_str a t' b t
  | _=>exact absurd (show false=true from fx) aa0
 | _=>exact absurd (show false=true from fy) aa0
def pQ(x:V)(u:Value):Bool:=match u with
 | .none=>vG .non x
 | .bool b=>vG (.bl b) x
 | .int i _=>vG (.int i) x
 | .str z _=>vG (.str z) x
 | _=>false
theorem tX{x y:V}{u:Value}(r:aQ y u)(f:dt y=true):pQ x u=vG y x:=by
 cases y with
 | non=>cases r;rfl
 | bl b=>cases r;rfl
 | int i=>obtain⟨t,rfl⟩:=r;rfl
 | str z=>obtain⟨t,rfl⟩:=r;rfl
 | _=>exact absurd (show false=true from f) aa0
theorem gp{x:V}:∀{xs:List V} {us:List Value},aS xs us→xs.all dt=true→us.any (pQ x)=xs.any fun y=>vG y x
 | _,_,.nil,_=>rfl
 | y::xs,u::us,.cons r t,f=>by
  rw [ac6,ac0]at f;rw [List.any_cons,List.any_cons,tX r f.1,gp t f.2]
theorem eX{A:Around}{s:Shared}{x:V}{v:Value}(rx:aQ x v)(fx:dt x=true):∀{xs:List V} {us:List Value},aS xs us→xs.all dt=true→∀u∈us,SeqAt.EqAt A s u v (pQ x u)
 | _,_,.nil,_=>fun u hu=>by cases hu
 | y::xs,u::us,.cons r t,f=>fun u' hu=>by
  rw [ac6,ac0]at f;rcases ab7.mp hu with rfl | hu
  ·rw [tX r f.1];exact xW r rx f.1 fx
  ·exact eX rx fx t f.2 u' hu
def yZ(x:V)(xs:List V):Bool:=xs.any fun y=>vG y x
def y6(K:Frag)(neg:Bool):R2:=fun x y H Q=>∃p xs,y=.ref p∧(bf K H p xs∨eT K H p xs)∧dt x=true∧xs.all dt=true∧Q (.bl (if neg then !yZ x xs else yZ x xs)) H
theorem sD:cI X (compareOp .In) (y6 X.K false):=by
 intro pins s σ H x y v u Q I rx ry h;obtain⟨p,xs,rfl,hq,fx,fs,q⟩:=h;cases ry;rcases hq with hq | hq
 ·obtain⟨its,r,pl,hz⟩:=I.list hq
  refine SeqAt.in_listAt (pQ x) pl.isList (fun w hw=>eX rx fx r fs w (by simpa using hw)) ⟨.bl _,H,I,rfl,?_⟩;rw [show its.toArray.any (pQ x)=its.any (pQ x)by simp,gp r fs];exact q
 ·obtain⟨its,r,pl,hz⟩:=I.tuple hq
  refine SeqAt.in_tupleAt (pQ x) pl (fun w hw=>eX rx fx r fs w (by simpa using hw)) ⟨.bl _,H,I,rfl,?_⟩;rw [show its.toArray.any (pQ x)=its.any (pQ x)by simp,gp r fs];exact q
theorem mV:cI X (compareOp .NotIn) (y6 X.K true):=by
 intro pins s σ H x y v u Q I rx ry h;obtain⟨p,xs,rfl,hq,fx,fs,q⟩:=h;cases ry;rcases hq with hq | hq
 ·obtain⟨its,r,pl,hz⟩:=I.list hq
  refine SeqAt.notIn_listAt (pQ x) pl.isList (fun w hw=>eX rx fx r fs w (by simpa using hw)) ⟨.bl _,H,I,rfl,?_⟩;rw [show its.toArray.any (pQ x)=its.any (pQ x)by simp,gp r fs];exact q
 ·obtain⟨its,r,pl,hz⟩:=I.tuple hq
  refine SeqAt.notIn_tupleAt (pQ x) pl (fun w hw=>eX rx fx r fs w (by simpa using hw)) ⟨.bl _,H,I,rfl,?_⟩;rw [show its.toArray.any (pQ x)=its.any (pQ x)by simp,gp r fs];exact q
theorem mv:bR X (.builtin "len") (fun xs H Q=>∃p ys,xs=[.ref p]∧(bf X.K H p ys∨eT X.K H p ys)∧Q (.int ys.length) H):=by
 intro pins s σ H xs us Q I r h;obtain⟨p,ys,rfl,hq,q⟩:=h;obtain⟨u,rfl,rx⟩:=dP r;cases rx;have hn:=fY;rcases hq with hq | hq
 ·obtain⟨its,r',pl,hz⟩:=I.list hq
  have hlen:=r'.length
  exact Calls.call_len_list pl.isList (by simp only [aa4]<;>omega) ⟨.int ys.length,H,I.tok _,⟨s.toks+1,by rw [aa4,hlen]⟩,q⟩
 ·obtain⟨its,r',pl,hz⟩:=I.tuple hq
  have hlen:=r'.length
  exact len_tuple pl (by simp only [aa4]<;>omega) ⟨.int ys.length,H,I.tok _,⟨s.toks+1,by rw [aa4,hlen]⟩,q⟩
theorem call_len_str:bR X (.builtin "len") (fun xs H Q=>∃z,xs=[.str z]∧z.length≤sizeLine∧Q (.int z.length) H):=by
 intro pins s σ H xs us Q I r h;obtain⟨z,rfl,hz,q⟩:=h;obtain⟨u,rfl,t,rfl⟩:=dP r;have hn:=fY;exact len_str (by omega) ⟨.int z.length,H,I.tok _,⟨_,rfl⟩,q⟩
theorem bR.or{f:Value}{r r':List V→Hp→VK→Prop}(h:bR X f r)(h':bR X f r'):bR X f (fun xs H Q=>r xs H Q∨r' xs H Q):=by
 intro pins s σ H xs us Q I rs q;rcases q with q | q
 ·exact h pins s σ H xs us Q I rs q
 ·exact h' pins s σ H xs us Q I rs q
theorem mw:bR X (.type "list") (fun xs H Q=>∃p ys,xs=[.ref p]∧(bf X.K H p ys∨eT X.K H p ys)∧∀l,H l=none→Q (.ref l) (upd H l (.lst ys))):=by
 intro pins s σ H xs us Q I r h;obtain⟨p,ys,rfl,hq,q⟩:=h;obtain⟨u,rfl,rx⟩:=dP r;cases rx
 have fin:∀(its:List Value),aS ys its→ys.length≤sizeLine→∀(h':Heap) (c':Nat),(∀b o',s.heap.get? b=some o'→h'.get? b=some o')→
   h'.get? s.heap.objs.size=some { cls:=.type "list",dict:=none,data:=.seq its.toArray c',slots:=#[] }→EP X pins σ Q (.ref s.heap.objs.size) { s with heap:=h' }:=fun its r' hz h' c' kp e=>
  ⟨.ref s.heap.objs.size,_,I.laid (t':=s.toks) kp (aa3 _) (show bT X.prog X.w _ h' _ (.lst ys)from⟨hz,its,c',r',e⟩),rfl,q _ (I.hok.fresh (aa3 _))⟩
 rcases hq with hq | hq
 ·obtain⟨its,r',pl,hz⟩:=I.list hq
  have hlen:=r'.length;obtain⟨o,ho,hc,n,hd⟩:=pl.isList
  exact call_list_seq p (.inl rfl) ho hc hd (fun h' c' kp e=>fin its r' hz h' c' kp e) (by simp only [aa4]<;>omega)
 ·obtain⟨its,r',pl,hz⟩:=I.tuple hq
  have hlen:=r'.length;obtain⟨o,ho,hc,n,hd⟩:=pl
  exact call_list_seq p (.inr rfl) ho hc hd (fun h' c' kp e=>fin its r' hz h' c' kp e) (by simp only [aa4]<;>omega)
def z4(K:Frag)(T:String)(x:V)(H:Hp):Prop:=match x with
 | .str _=>T="str"
 | .int _=>T="int"
 | .ref p=>(T="list"∧∃xs,bf K H p xs)∨(T="tuple"∧∃o,K.lookup p=some o∧o.cls=.type "tuple"∧o.dict=none)∨
   (T="dict"∧((∃kvs,H p=some (.dK kvs))∨∃kvs,H p=some (.dT kvs)))∨(T="set"∧∃S n,H p=some (.set S n))
 | _=>False
theorem yW{pins:List (Addr×Obj)}{σ:St}{H:Hp}{s:Shared}{T:String}{x:V}{v:Value}(I:aJ X pins σ H s)(r:aQ x v)(ty:z4 X.K T x H):
  s.TypeIs v T∧∀a,v=.ref a→∃ob,s.heap.get? a=some ob∧ob.dict=none:=by
 cases x with
 | str z=>
  obtain⟨t,rfl⟩:=r;cases(show T="str" from ty);exact⟨typeIs_str s z t,fun _ e=>nomatch e⟩
 | int i=>
  obtain⟨t,rfl⟩:=r;cases(show T="int" from ty);exact⟨typeIs_int s i t,fun _ e=>nomatch e⟩
 | ref p=>
  cases r;rcases ty with⟨rfl,xs,hq⟩ | ⟨rfl,o,hk,hc,hd⟩ | ⟨rfl,hk⟩ | ⟨rfl,S,n,hk⟩
  ·obtain⟨its,_,pl,_⟩:=I.list hq
   refine⟨pl.isList.typeIs,fun a e=>?_⟩;cases e;obtain⟨o,n,e,c,hd,_⟩:=pl;exact⟨o,e,hd⟩
  ·refine⟨⟨o,I.kIn p o hk,hc⟩,fun a e=>?_⟩
   cases e;exact⟨o,I.kIn _ o hk,hd⟩
  ·have z:∃o,s.heap.get? p=some o∧o.ExactDict:=by
    rcases hk with⟨kvs,hk⟩ | ⟨kvs,hk⟩
    ·obtain⟨_,_,_,_,o,_,_,e,ex,_⟩:=I.hok p _ hk
     exact⟨o,e,ex⟩
    ·obtain⟨_,_,_,_,o,_,_,e,ex,_⟩:=I.hok p _ hk
     exact⟨o,e,ex⟩
   obtain⟨o,e,ex⟩:=z;refine⟨⟨o,e,ex.1⟩,fun a e2=>?_⟩;cases e2;exact⟨o,e,ex.2.1⟩
  ·obtain⟨o,_,_,_,e,ex,_⟩:=I.hok p _ hk
   refine⟨⟨o,e,ex.1⟩,fun a e2=>?_⟩;cases e2;exact⟨o,e,ex.2.1⟩
 | _=>exact False.elim ty
def zX(K:Frag)(T:String)(r:V→List V→Hp→VK→Prop)(to:TE):TE:=fun σ H Q=>to σ H fun x H1=>z4 K T x H1∧r x [] H1 Q
def Ag(K:Frag)(T:String)(r:V→List V→Hp→VK→Prop)(to:TE)(t:TA):TE:=fun σ H Q=>to σ H fun x H1=>z4 K T x H1∧t σ H1 fun xs H2=>r x xs H2 Q
variable {o e:Expr} {es:List Expr} {to:TE} {t:TA} {name:Str} {apos cpos:Pos} {T id:String} {r:V→List V→Hp→VK→Prop}
theorem zM(pa:PlainAttrs T)(slot:Slot T name id)(hty:typeOf (.builtin id)=pure (.type "method_descriptor"))(hm:sQ X id r)(ho:PE X o to)(ha:PA X (e::es) t)
  (hbase:attributeBase o name X.env (eval o X.env)=eval o X.env:=by rfl)
  (hfew:((backTo cpos (starEach (e::es) X.env)).all (fun x=>!x.1) && (backToKw cpos (keywordEach [] X.env)).all (fun x=>x.1.isSome)
   && decide ((e::es).length+([]:List Keyword).length+(if ([]:List Keyword).isEmpty then 0 else 1) < 30))=true:=by rfl)
  (hline:(apos.endLine == cpos.line)=true:=by rfl) (hs:starEach (e::es) X.env=(false,eval e X.env)::starEach es X.env:=by rfl) (hplain:(backTo cpos (starEach es X.env)).any (·.1)=false:=by rfl) :
  PE X (.Call (.Attribute o name apos) (e::es) [] cpos) (Ag X.K T r to t):=by
 intro pins s σ H Q I h;refine wpAny_Call_method_late hbase hfew hline rfl (bQ (ho pins s σ H _ I h) fun v s1 ⟨x,H1,I1,r1,ty,q1⟩=>?_);obtain⟨h1,h2⟩:=yW I1 r1 ty;refine⟨T,id,pa,slot,hty,h1,h2,?_⟩;have hA:=ha cpos pins s1 σ H1 _ I1 q1;rw [hs]at hA ⊢
 refine Calls.callWith_builtin (by show(false || (backTo cpos (starEach es X.env)).any (·.1))=false;rw [hplain]<;>rfl) (Calls.evalArgs_plain ?_)
 exact bQ hA fun us s2 ⟨vs,H2,I2,r2,q2⟩=>hm pins s2 σ H2 x vs v us Q I2 r1 r2 q2
end
end L2
namespace L2
open PySem PySem.Spec PyProof.Rows
def AI(X:Cx)(id:String)(r:V→List V→Hp→VK→Prop):Prop:=
 ∀(pins:List (Addr×Obj)) (s:Shared) (σ:St) (H:Hp) (x:V) (xs:List V) (v:Value) (us:List Value) (Q:VK),aJ X pins σ H s→aQ x v→aS xs us→r x xs H Q→
  wpAny (model X.prog X.w) X.A (call (.builtin id) (v::us)) (EP X pins σ Q) X.xe s
theorem aS.one:∀{x:V} {us:List Value},aS [x] us→∃u,us=[u]∧aQ x u
 | _,_,.cons r .nil=>⟨_,rfl,r⟩
theorem aS.zero:∀{us:List Value},aS [] us→us=[]
 | _,.nil=>rfl
theorem aS.rep{xs:List V}{us:List Value}(h:aS xs us):∀k:Nat,aS (List.replicate k xs).flatten (List.replicate k us).flatten
 | 0=>.nil
 | k+1=>by
  rw [ad1,ad1,af9,af9];exact aS.append h (aS.rep h k)
theorem hG(its:List Value):∀(k:Nat) (acc:List Value),
  List.foldl (fun x1 x2=>x1++x2) acc.toArray (List.replicate k its.toArray)=(acc++(List.replicate k its).flatten).toArray
 | 0,acc=>by simp
 | k+1,acc=>by
  have e:acc.toArray++its.toArray=(acc++its).toArray:=by simp
  have e2:(acc++its)++(List.replicate k its).flatten=acc++(List.replicate (k+1) its).flatten:=by
   rw [ad1,af9,af3]
  rw [←e2,←hG its k (acc++its),←e,ad1,ag5]
section
variable {X:Cx} {pins:List (Addr×Obj)} {σ:St} {H:Hp} {s:Shared} {l b:Addr} {xs ys zs:List V}
theorem aJ.lset{its its':List Value}{n:Nat}{f:Array Value→Array Value}{t':Nat}(I:aJ X pins σ H s)(hH:H l=some (.lst xs))
  (e:s.heap.get? l=some { cls:=.type "list",data:=.seq its.toArray n }) (hf:f its.toArray=its'.toArray) (hv:aS ys its') (hz:ys.length≤sizeLine) :
  aJ X pins σ (upd H l (.lst ys)) { s with heap:=s.heap.update l (Obj.mapSeq f),toks:=t' }:=by
 have q:=PySem.IsL.update e f;rw [hf]at q;refine I.write (x:=l) (e:=l) (by rw [hH];exact trivial) (.inl rfl) (fun b' u hb hu=>(ad6 s.heap (Obj.mapSeq f) (Ne.symm hb)).trans hu) ⟨_,q⟩ ?_;exact⟨hz,its',_,hv,q⟩
theorem aJ.lnew{its:List Value}{t':Nat}(I:aJ X pins σ H s)(hv:aS ys its)(hz:ys.length≤sizeLine):
  aJ X pins σ (upd H s.heap.objs.size (.lst ys)) { s with heap:=s.heap.push { cls:=.type "list",data:=.seq its.toArray },toks:=t' }:=
 I.laid (fun _ _ q=>aa2 _ q) (aa3 _) ⟨hz,its,0,hv,ab6 _ rfl⟩
theorem aJ.fresh(I:aJ X pins σ H s):H s.heap.objs.size=none:=I.hok.fresh (aa3 _)
theorem aJ.lstM(I:aJ X pins σ H s)(hH:H l=some (.lst xs)):xs.length≤sizeLine∧∃(its:List Value) (n:Nat),aS xs its∧xs.length=its.length∧s.heap.get? l=some { cls:=.type "list",data:=.seq its.toArray n }:=by
 obtain⟨z,its,n,r,e⟩:=I.hok l _ hH;exact⟨z,its,n,r,r.length,e⟩
theorem ox{n:Nat}(h:n≤sizeLine):Builtin.List.listTooLong n=false:=by
 unfold Builtin.List.listTooLong;exact decide_eq_false (by omega)
end
section
variable {X:Cx}
def wL:V→List V→Hp→VK→Prop:=fun x vs H Q=>∃l xs y,x=.ref l∧vs=[y]∧H l=some (.lst xs)∧xs.length < sizeLine∧Q .non (upd H l (.lst (xs++[y])))
theorem si:AI X "list.append" wL:=by
 intro pins s σ H x vs v us Q I rx rv h;obtain⟨l,xs,y,rfl,rfl,hH,hz,q⟩:=h;cases rx;obtain⟨u,rfl,ru⟩:=rv.one;obtain⟨z,its,n,r,hl,e⟩:=I.lstM hH;refine call_meets F.slot_list_append ⟨_,e,rfl⟩ F.entry_list_append (F.args_list_append_2 _ _) (PySem.list_append l its.toArray n u (by rw [aa4];omega)) ⟨e,?_⟩;refine⟨.non,_,I.lset (its':=its++[u]) hH e (by simp) (r.append (.cons ru .nil)) ?_,rfl,q⟩;rw [ab9,List.length_singleton];omega
def wR:V→List V→Hp→VK→Prop:=fun x vs H Q=>∃l b xs zs,x=.ref l∧vs=[.ref b]∧H l=some (.lst xs)∧H b=some (.lst zs)∧xs.length+zs.length≤sizeLine∧Q .non (upd H l (.lst (xs++zs)))
theorem y4:AI X "list.extend" wR:=by
 intro pins s σ H x vs v us Q I rx rv h;obtain⟨l,b,xs,zs,rfl,rfl,hH,hB,hz,q⟩:=h;cases rx;obtain⟨u,rfl,ru⟩:=rv.one;cases ru;obtain⟨z,its,n,r,hl,e⟩:=I.lstM hH;obtain⟨z2,its2,n2,r2,hl2,e2⟩:=I.lstM hB
 have hsz:its.toArray.size+its2.toArray.size≤sizeLine:=by rw [aa4,aa4];omega
 have hlong:¬(!its.toArray.isEmpty && Builtin.List.listTooLong (its.toArray.size+its2.toArray.size))=true:=by
  rw [ox hsz,Bool.and_false];exact aa0
 refine call_meets F.slot_list_extend ⟨_,e,rfl⟩ F.entry_list_extend (F.args_list_extend_2 _ _)
  (AutoSeq1.list_extend_list_list_0 l its.toArray n b its2.toArray n2 hlong (by rw [aa4];omega) (by omega)) ⟨e,e2,?_⟩
 refine⟨.non,_,I.lset (its':=its++its2) hH e (by simp) (r.append r2) ?_,rfl,q⟩;rw [ab9];omega
def wM:R2:=fun x y H Q=>∃l b xs zs,x=.ref l∧y=.ref b∧H l=some (.lst xs)∧H b=some (.lst zs)∧xs.length+zs.length≤sizeLine∧∀p,H p=none→Q (.ref p) (upd H p (.lst (xs++zs)))
theorem op_cat:cI X (binaryOp .Add) wM:=by
 intro pins s σ H x y v u Q I rx ry h;obtain⟨l,b,xs,zs,rfl,rfl,hH,hB,hz,q⟩:=h;cases rx;cases ry;obtain⟨z,its,n,r,hl,e⟩:=I.lstM hH;obtain⟨z2,its2,n2,r2,hl2,e2⟩:=I.lstM hB;refine PySem.P.add_list e e2 ?_ (by rw [aa4,aa4];omega)
 have ea:its.toArray++its2.toArray=(its++its2).toArray:=by simp
 rw [ea];exact⟨.ref _,_,I.lnew (t':=s.toks) (r.append r2) (by rw [ab9];omega),rfl,q _ I.fresh⟩
def wY:R2:=fun x y H Q=>∃l k xs,x=.ref l∧y=.int k∧H l=some (.lst xs)∧-(2 ^ 63)≤k∧k < 2 ^ 63∧xs.length * k.toNat≤sizeLine∧
 ∀p,H p=none→Q (.ref p) (upd H p (.lst (List.replicate k.toNat xs).flatten))
theorem mF{α:Type}(xs:List α)(k:Nat):(List.replicate k xs).flatten.length=k * xs.length:=by
 induction k with
 | zero=>simp
 | succ k ih=>rw [ad1,af9,ab9,ih,ai8,Nat.add_comm]
theorem yr:cI X (binaryOp .Mult) wY:=by
 intro pins s σ H x y v u Q I rx ry h;obtain⟨l,k,xs,rfl,rfl,hH,h1,h2,hz,q⟩:=h;cases rx;obtain⟨t,rfl⟩:=ry;obtain⟨z,its,n,r,hl,e⟩:=I.lstM hH
 have hlen:its.toArray.size * k.toNat≤sizeLine:=by rw [aa4,←hl];exact hz
 have hcap:¬its.toArray.size * k.toNat > (2 ^ 63 - 1) / 8:=by
  have:(sizeLine:Nat)≤(2 ^ 63 - 1) / 8:=by decide
  omega
 have hfit:¬(!Builtin.List.listFitsIndex k)=true:=by
  rw [fitsIndex_both h1 h2];exact aa0
 have hlong:¬Builtin.List.listTooLong (its.toArray.size * k.toNat)=true:=by
  rw [ox hlen];exact aa0
 have hnew:List.foldl (fun x1 x2=>x1++x2) #[] (List.replicate (if its.toArray.isEmpty=true then 0 else k.toNat) its.toArray)=(List.replicate k.toNat its).flatten.toArray:=by
  have f0:∀m:Nat,List.foldl (fun x1 x2=>x1++x2) #[] (List.replicate m its.toArray)=(List.replicate m its).flatten.toArray:=fun m=>by
   have:=hG its m []
   rw [ah7]at this;exact this
  rw [f0]
  cases its with
  | nil=>simp
  | cons a r'=>rw [if_neg (by simp)]
 refine wpAny_binaryOp_repeat_ref (T:="list") (U:="int") (by decide) ⟨_,e,rfl⟩ (fun s'=>typeIs_int s' k t) noFill_list_mul F.fills_int_mul F.slot_int_rmul repeat_list F.slot_int_index.lookup
  (call_meets F.slot_int_rmul (typeIs_int s k t) F.entry_int_rmul (F.args_int_rmul_2 _ _) (int___rmul___int_list k t l its.toArray n)
   ⟨e,rfl,⟨_,e,rfl⟩,call_meets F.slot_list_mul ⟨_,e,rfl⟩ F.entry_list_mul (F.args_list_mul_2 _ _) (AutoListH.list___mul___list_int_3 l its.toArray n k t hfit hcap hlong) ⟨e,?_⟩⟩)
 rw [hnew];exact⟨.ref _,_,I.lnew (t':=s.toks) (r.rep k.toNat) (by rw [mF,ai9];exact hz),rfl,q _ I.fresh⟩
end
section
variable {prog:Program} {w:World} {A:Around} {E:Value→Shared→Prop} {s:Shared}
set_option maxRecDepth 100000 in
end
section
variable {X:Cx}
end
end L2
namespace Att
open PySem PySem.W PySem.Calls PyProof.Rows
theorem iM{P:Params}{h:Heap}:∀(ns:List Int) (vs:List Value),WellAll P h vs (ns.map WData.int)→IntsAre vs ns:=by
 intro ns
 induction ns with
 | nil=>
  intro vs w;rw [aj0]at w;cases w;exact .nil
 | cons n ns ih=>
  intro vs w;rw [ac1]at w
  cases w with
  | cons a b=>
   cases a;exact .cons _ _ (ih _ b)
theorem script_of{l:OpenLaw}{n:Nat}(hn:l.most=some n){P:Params}{h:Heap}{args:List WData}{vals:List Value}
  (hpre:l.row.toRowW.claim.pre args=true) (hwl:WellAll P h vals args) :
  ∃a vs ns,vals=[Value.ref a]∧args=[WData.list (ns.map WData.int)]∧h.get? a=some { cls:=.type "list",data:=.seq vs.toArray }∧IntsAre vs ns∧ns.length≤n:=by
 have hsh:WShape.hasAll [] args [.list .int]=true:=(pre_splitW hpre).1;have hc:l.pre.holds [] { args:=args }=true:=(pre_splitW hpre).2;obtain⟨d,r,rfl,h1,h2⟩:=hasAllW_cons hsh;obtain rfl:=hasAllW_nil h2;obtain⟨xs,rfl,h3⟩:=hasW_list h1;obtain⟨ns,rfl⟩:=items_int h3
 have hlen:ns.length≤n:=by
  unfold OpenLaw.pre at hc
  have h4:(WTm.not (.lt (.lit (.int (n:Int))) (.len (.arg 0)))).holds [] { args:=[.list (ns.map .int)] }=true:=by
   have h4:=(holds_andW hc).1;rw [hn]at h4;exact h4
  have h5:=condW_of h4 (w_not (w_lt w_lit (w_len_list (w_arg rfl))));rw [aa1]at h5;refine Nat.le_of_not_lt fun q=>?_
  have q':(n:Int) < ((ns.length:Nat):Int):=by omega
  first
   | (rw [decide_eq_true q']at h5;exact absurd h5 (by decide))
   | (simp at h5;omega)
 cases hwl with
 | cons w1 w2=>
  cases w2
  cases w1 with
  | list ho hall=>exact⟨_,_,ns,rfl,rfl,ho,iM ns _ hall,hlen⟩
theorem post_true(l:OpenLaw)(args:List WData):l.row.toRowW.claim.post args (.bool true) args=true:=
 postW_of (r:=l.row.toRowW) (X:=(true == true))
  (show WShape.has [] (.bool true) .bool=true by first | rfl | decide | simp [WShape.has,WShape.arms,WShape.armsAll])
  (show(WTm.eq .res (.lit (.bool true))).value [] { args:=args,res:=some (.bool true),after:=args }=some (.bool (true == true))from w_eq_bool (w_res rfl) w_lit) rfl
theorem attach_call{l:OpenLaw}{n:Nat}{q:Program}{loose:List Str}{XP:(Str→Option Value)→Heap→Prop}{YP:World→Heap→Prop}{d:DefRec}
  (hn:l.most=some n) (hdf:d.params.defaults=[])
  (call:∀(w:World) (s₀ s₁:Shared) (mg mb:Str→Option Value) (fa:Addr) (o:Obj) (pm cd doc:Value) (a:Addr) (vs:List Value) (ns:List Int),
   Ground q loose [] XP w s₀ mg mb s₁.heap→YP w s₁.heap→
   s₁.heap.get? fa=some o→o.data=.func (docDef d.name d.params d.body d.scope pm cd doc)→s₁.heap.CodeRec cd d.name→mg d.name=some (.ref fa)→
   s₁.heap.get? a=some { cls:=.type "list",data:=.seq vs.toArray }→IntsAre vs ns→ns.length≤n→s₁.gens=#[]→
   codeAny (model l.prog w) callerA (.call (.ref fa) ⟨[.ref a],[]⟩) (fun r s'=>r=.ok (.ret (.bool true))∧OldK s₁.heap s'.heap∧s'.os=s₁.os∧AllBare s'.gens) s₁) :
  WalkO q loose XP YP l.row.toRowW d [] (fun f vs=>PySem.call f vs):=by
 intro w s₀ s₁ mg mb G Y fa o pm cd doc dV kV ho hd hcd hD hmg hg args vals as hpre hlay hrd hwl hlo;obtain rfl:dV=.none:=Dflts.none hD hdf;obtain rfl:kV=.none:=Dflts.noKw hD;obtain⟨a,vs,ns,rfl,rfl,hobj,hints,hlen⟩:=script_of hn hpre hwl;refine enter_call (codeAny_mono (call w s₀ s₁ mg mb fa o pm cd doc a vs ns G Y ho (fd_plain hd) hcd hmg hobj hints hlen hg) fun r s' hq=>?_);obtain⟨rfl,h2,h3,h4⟩:=hq;exact⟨.inl ⟨.bool true,.bool true,[],rfl,fun _=>rfl,.bool true,post_true l _,fun _=>⟨List.Pairwise.nil,fun _ hm=>(nomatch hm)⟩⟩,h2,h3,h4⟩
section
variable {prog:Program} {w:World} {A:Around} {E:Value→Shared→Prop} {s:Shared} {K:Frag}
end
end Att
namespace L2
open PySem PySem.Spec PyProof.Rows
theorem lZ:∀{vs:List Value} {ns:List Int},IntsAre vs ns→aS (ns.map V.int) vs
 | _,_,.nil=>.nil
 | _,_,.cons n t h=>.cons ⟨t,rfl⟩ (lZ h)
def vJ(H:Hp):Prop:=∀b,H b=none∨∃o xs,H b=some (.frz o (.lst xs))
theorem ow{P:Program}{w:World}{K:Frag}{mg mb:Str→Option Value}{CX:nM}{k:Nat}{fa a:Addr}{fd:FuncData}{x:Str}{sp:Sp}{s₁:Shared}{vs:List Value}{ns:List Int}
  (KX:K.In s₁.heap) (hns:s₁.heap.Ns mainGlobals mg) (hb:s₁.heap.Ns builtinsNs mb) (hbb:∀x:Str,x≠"__name__"→mb x=bootBuiltins x) (hlim:s₁.heap.NoLimit) (hg:s₁.gens=#[])
  (ha:s₁.heap.get? a=some { cls:=.type "list",data:=.seq vs.toArray }) (hi:IntsAre vs ns) (hl:ns.length≤sizeLine) (hr:b8 k callerA)
  (F:∀base:Heap,K.In base→base.Ns mainGlobals mg→aC P w K mg base CX k fa fd [x] sp) (hbind:∀(s:Shared) (u:Value),BindsTo s fd ⟨[u],[]⟩ [(x,u)])
  (hsp:∀H:Hp,vJ H→bf K H a (ns.map V.int)→sp [.ref a] H (fun v _=>v=.bl true) fun _ _ _=>False)
  (hCX:∀H e s',CX [] H s₁ (fun _ _ _=>False) e s'→False) :
  codeAny (model P w) callerA (.call (.ref fa) ⟨[.ref a],[]⟩) (fun r s'=>r=.ok (.ret (.bool true))∧OldK s₁.heap s'.heap∧s'.os=s₁.os∧AllBare s'.gens) s₁:=by
 have rv:=lZ hi;have lenV:=hi.length
 have core:∀H:Hp,vJ H→bf K H a (ns.map V.int)→gk P w H s₁.heap→(∀b,H b≠none→b=a)→(H a≠none→K.lookup a=none)→
   codeAny (model P w) callerA (.call (.ref fa) ⟨[.ref a],[]⟩) (fun r s'=>r=.ok (.ret (.bool true))∧OldK s₁.heap s'.heap∧s'.os=s₁.os∧AllBare s'.gens) s₁:=by
  intro H hO hS hok hA hK;have base_of:∀{b:Addr} {o:Obj},s₁.heap.get? b=some o→H b=none→(mz s₁.heap H).get? b=some o:=fun e n=>t7 e n
  have noA:∀{b:Addr} {o:Obj} {es:Array DictEntry} {ep:Nat},s₁.heap.get? b=some o→o.data=.dict es ep→H b=none:=fun {b o es ep} e d=>by
   cases q:H b with
   | none=>rfl
   | some u=>
    have e':b=a:=hA b (by rw [q];simp);subst e';rw [ha]at e;cases e;have d':Data.seq vs.toArray _=Data.dict es ep:=d;cases d'
  have nsK:∀{b:Addr} {m:Str→Option Value},s₁.heap.Ns b m→(mz s₁.heap H).Ns b m:=fun {b m} ⟨o,es,ep,e,d,r⟩=>⟨o,es,ep,base_of e (noA e d),d,r⟩
  have hKb:K.In (mz s₁.heap H):=fun b o e=>base_of (KX b o e) (by
   cases q:H b with
   | none=>rfl
   | some u=>
    have e':b=a:=hA b (by rw [q];simp);subst e'
    rw [hK (by rw [q];simp)]at e;cases e)
  have hM:Mod K mg (mz s₁.heap H):=⟨hKb,nsK hns,⟨mb,nsK hb,hbb⟩,let ⟨mc,h1,h2⟩:=hlim;⟨mc,nsK h1,h2⟩⟩;have e0:pG P w K mg (mz s₁.heap H) callerA [] s₁ H:=⟨rfl,hM,fun b o e=>wo e,Nat.le_of_eq (rY _ _),trivial,fun b hb=>absurd (show b∈([]:List Addr)from hb) (by simp),hok,.of_eq hg⟩;refine codeAny_mono ((F _ hKb (nsK hns)).run callerA [] s₁ H ⟨[.ref a],[]⟩ [.ref a] [.ref a] _ _ hr e0 (hbind s₁ (.ref a)) (.cons rfl .nil) (hsp H hO hS)) fun r s' h=>?_
  cases r with
  | error e=>exact(hCX H e s' h).elim
  | ok fl=>
   cases fl with
   | next=>exact False.elim h
   | brk=>exact False.elim h
   | cont=>exact False.elim h
   | ret u=>
    obtain⟨v,H',os,bare,un,hok',r',q⟩:=h;have q':v=.bl true:=q;subst q';obtain rfl:u=Value.bool true:=r';refine⟨rfl,OldK.of_keep fun b o e=>?_,os,bare⟩
    cases q:H b with
    | none=>exact un.keep b o e q (by intro z;exact absurd (show b∈([]:List Addr)from z) (by simp)) (by simp)
    | some u=>
     rcases hO b with z | ⟨ob,xs,z⟩
     ·rw [q]at z;cases z
     ·have z2:=un.frzs b ob _ z
      obtain⟨e1,_⟩:=hok b _ z;obtain⟨e2,_⟩:=hok' b _ z2;rw [e]at e1;cases e1;exact e2
 cases hk:K.lookup a with
 | some o=>
  have e:=KX a o hk;rw [ha]at e;cases e;refine core (fun _=>none) (fun _=>.inl rfl) (.inr ⟨_,vs.toArray,_,hk,rfl,rfl,rfl,by rw [aa4,lenV];exact hl,by simpa using rv⟩) (fun b u z=>by have z':(none:Option HO)=some u:=z;cases z') (fun b z=>absurd rfl z) fun z=>absurd rfl z
 | none=>
  refine core (fun b=>if b=a then some (.frz { cls:=.type "list",data:=.seq vs.toArray } (.lst (ns.map V.int)))else none) (fun b=>?_) (.inl (.inr ⟨{ cls:=.type "list",data:=.seq vs.toArray },if_pos rfl⟩)) (fun b u z=>?_) (fun b z=>?_) fun _=>hk
  ·by_cases hb:b=a
   ·exact .inr ⟨_,_,if_pos hb⟩
   ·exact .inl (if_neg hb)
  ·by_cases hb:b=a
   ·have z':=(if_pos hb).symm.trans z
    cases z';subst hb;exact⟨ha,by rw [aa1];exact hl,vs,_,rv,ha⟩
   ·have z':=(if_neg hb).symm.trans z
    cases z'
  ·by_cases hb:b=a
   ·exact hb
   ·exact absurd (if_neg hb) z
end L2
namespace L2
open PySem PySem.Spec PyProof.Rows
abbrev KOf{K:Frag}{h:Heap}(_:K.In h):Frag:=K
theorem walk_of{l:PySem.W.OpenLaw}{n k:Nat}{q:Program}{loose:List Str}{XP:(Str→Option Value)→Heap→Prop}{YP:World→Heap→Prop}{d:DefRec}{K:Params→Frag}{CX:World→nM}{sp:World→Sp}{x:Str}
  (hn:l.most=some n) (hn2:n≤sizeLine) (hdf:d.params.defaults=[]) (hr:b8 k callerA)
  (hY:∀(w:World) (h:Heap),YP w h→(K w.params).In h)
  (F:∀(w:World) (mg:Str→Option Value) (fa:Addr) (h:Heap),(K w.params).In h→h.Ns mainGlobals mg→mg d.name=some (.ref fa)→
   ∃fd:FuncData,(∀(s:Shared) (u:Value),BindsTo s fd ⟨[u],[]⟩ [(x,u)])∧
    ∀base:Heap,(K w.params).In base→base.Ns mainGlobals mg→aC l.prog w (K w.params) mg base (CX w) k fa fd [x] (sp w))
  (hsp:∀(w:World) (H:Hp) (a:Addr) (ns:List Int),ns.length≤n→vJ H→bf (K w.params) H a (ns.map V.int)→sp w [.ref a] H (fun v _=>v=.bl true) fun _ _ _=>False)
  (hCX:∀(w:World) (H:Hp) (s:Shared) (e:Value) (s':Shared),CX w [] H s (fun _ _ _=>False) e s'→False) :
  PySem.W.WalkO q loose XP YP l.row.toRowW d [] (fun f vs=>PySem.call f vs):=by
 refine Att.attach_call hn hdf fun w s₀ s₁ mg mb fa o pm cd doc a vs ns G Y ho hd hcd hmg hobj hints hlen hg=>?_;have KX:=hY w _ Y;obtain⟨fd,hb,hF⟩:=F w mg fa _ KX G.T.g hmg;exact ow KX G.T.g G.T.b G.T.builtins G.T.nolimit hg hobj hints (aa7 hlen hn2) hr hF hb (fun H hO hS=>hsp w H a ns hlen hO hS) fun H e s'=>hCX w H s₁ e s'
end L2
namespace L2
open PySem PySem.Spec PyProof.Rows
def bK(s:Stmt)(j:Nat):Stmt:=match s with
 | .ClassDef _ _ _ body _ _ _ _ _ _ _=>body.getD j (.Pass ⟨0,0,0,0⟩)
 | _=>.Pass ⟨0,0,0,0⟩
def bV(s:Stmt):Arguments:=match s with
 | .FunctionDef _ a _ _ _ _ _ _ _ _=>a
 | _=>{ posonlyargs:=[],args:=[],vararg:=none,kwonlyargs:=[],kw_defaults:=[],kwarg:=none,defaults:=[] }
def bN(s:Stmt):List Stmt:=match s with
 | .FunctionDef _ _ b _ _ _ _ _ _ _=>b
 | _=>[]
def aq(s:Stmt):Scope:=match s with
 | .FunctionDef _ _ _ _ _ _ sc _ _ _=>sc
 | _=>{ kind:=.function,names:=[],isGenerator:=false,isCoroutine:=false }
abbrev bC:nM:=fun _ _ _ _ _ _=>False
abbrev E0:XK:=fun _ _ _=>False
theorem lC{X:Cx}:jc bC X E0:=fun _ _ _ _ _ _ _ h=>h.elim
structure cj(K:Frag)(x qual:Str)(st:Stmt)(f:Addr)(fd:FuncData):Prop where
 ex:∃(oc:Value) (od:Option Addr) (kV doc pm:Value) (an:Option Addr) (cdv ct:Value) (osl:Array (Option Value)),
  fd=fnOf x qual (bV st) (bN st) (aq st) .none kV doc pm an cdv ct∧K.lookup f=some ⟨oc,od,.func fd,osl⟩∧codeIn K cdv qual=true
 kp:keepIn K (.ref f)=true
section
variable {P:Program} {w:World} {K:Frag} {mg:Str→Option Value} {base:Heap}
theorem cj.ok{x qual:Str}{st:Stmt}{f:Addr}{fd:FuncData}{N ps:List Str}{k:Nat}{sp:Sp}(F:cj K x qual st f fd)(S:aF N ps (aq st))(len:∀vs H Q E,sp vs H Q E→vs.length=ps.length)
  (hbody:∀(cdv:Value) (A:Around) (outer:List Env) (s:Shared) (H:Hp) (vs:List V) (Q:VK) (E:XK),b8 k (A.deeper (envOfC qual (aq st) s.heap.objs.size f cdv))→sp vs H Q E→
   ∃t,rF (jf bC P w K mg base N qual (aq st) f cdv A outer s H E).nox (bN st) t∧t { nx:=fun _ H'=>Q .non H',rt:=Q } (start N vs) H):aC P w K mg base bC (k+1) f fd ps sp:=by
 obtain⟨oc,od,kV,doc,pm,an,cdv,ct,osl,rfl,lk,hcd⟩:=F.ex;refine xA lk hcd S len fun A outer s H vs Q E hr hsp=>?_;obtain⟨t,h,q⟩:=hbody cdv A outer s H vs Q E hr hsp;exact⟨t,h.nox,q⟩
theorem cj.binds{x qual:Str}{st:Stmt}{f:Addr}{fd:FuncData}{ps:List Str}(F:cj K x qual st f fd)
  (h:∀(kV doc pm:Value) (an:Option Addr) (cdv ct:Value) (us:List Value),us.length=ps.length→bindArgs (fnOf x qual (bV st) (bN st) (aq st) .none kV doc pm an cdv ct) ⟨us,[]⟩=pure (ps.zip us)):cf K fd ps []:=by
 obtain⟨oc,od,kV,doc,pm,an,cdv,ct,osl,rfl,lk,hcd⟩:=F.ex;exact .all (h kV doc pm an cdv ct)
theorem fun_mk{x qual:Str}{st:Stmt}{f:Addr}{oc:Value}{od an:Option Addr}{osl:Array (Option Value)}{kV doc pm cdv ct:Value}(l:K.lookup f=some ⟨oc,od,.func (fnOf x qual (bV st) (bN st) (aq st) .none kV doc pm an cdv ct),osl⟩)
  (c:codeIn K cdv qual=true) (k:keepIn K (.ref f)=true):cj K x qual st f (fnOf x qual (bV st) (bN st) (aq st) .none kV doc pm an cdv ct):=⟨⟨oc,od,kV,doc,pm,an,cdv,ct,osl,rfl,l,c⟩,k⟩
end
section
variable {X:Cx}
end
def aw(H H':Hp):Prop:=∀b o,H b=some o→H' b=some o
theorem aw.refl(H:Hp):aw H H:=fun _ _ h=>h
theorem aw.trans{H H1 H2:Hp}(a:aw H H1)(b:aw H1 H2):aw H H2:=fun c o h=>b c o (a c o h)
theorem aw.free{H H':Hp}(e:aw H H'){l:Addr}(h:H' l=Option.none):H l=Option.none:=by
 cases q:H l with
 | none=>rfl
 | some o=>
  rw [e l o q]at h;cases h
theorem aw.seq{K:Frag}{H H':Hp}{a:Addr}{xs:List V}(e:aw H H')(h:bf K H a xs):bf K H' a xs:=by
 rcases h with(h | ⟨o,h⟩) | h
 ·exact .inl (.inl (e _ _ h))
 ·exact .inl (.inr ⟨o,e _ _ h⟩)
 ·exact .inr h
end L2
namespace GM
end GM
set_option maxHeartbeats 4000000
namespace L2
open PySem PySem.Spec PyProof.Rows
def eK(cells:List (Str×Addr)):List (Str×NameKind)→List (Str×Addr)→List (Str×Addr)
 | [],cs=>cs
 | (n,k)::r,cs=>eK cells r (if k == .free then(n,(cells.lookup n).getD 0)::cs else cs)
theorem fN{scope:Scope}{env:Env}(h:∀y∈scope.names,y.2=.free→∃c,env.cells.lookup y.1=some c):closureFor scope env=pure (eK env.cells scope.names []):=by
 simp only [closureFor];generalize scope.names=l at h ⊢
 have key:∀(l:List (Str×NameKind)) (cs:List (Str×Addr)),(∀y∈l,y.2=.free→∃c,env.cells.lookup y.1=some c)→
   (forIn l cs (fun(x:Str×NameKind) (r:List (Str×Addr))=>(if (x.snd == NameKind.free)=true then(do let a ←cellOf env x.fst;pure (ForInStep.yield ((x.fst,a)::r)))else pure (ForInStep.yield r):Sem (ForInStep (List (Str×Addr))))):Sem (List (Str×Addr)))=pure (eK env.cells l cs):=by
  intro l
  induction l with
  | nil=>intro cs _;rfl
  | cons x r ih=>
   intro cs h;obtain⟨n,k⟩:=x;have hr:∀y∈r,y.2=.free→∃c,env.cells.lookup y.1=some c:=fun y hy=>h y (ab2 _ hy);rw [ag6]
   by_cases hk:k=.free
   ·subst hk
    obtain⟨c,hc⟩:=h (n,.free) ab3 rfl
    have e:cellOf env n=pure c:=by unfold cellOf;rw [show env.cells.lookup n=some c from hc]
    simp only [beq_self_eq_true,if_true,e];show(forIn r ((n,c)::cs) _:Sem _)=_;rw [ih _ hr];simp only [eK,beq_self_eq_true,if_true];rw [show env.cells.lookup n=some c from hc];rfl
   ·have hb:(k == NameKind.free)=false:=by simpa using hk
    simp only [hb,ae9,if_false];show(forIn r cs _:Sem _)=_;rw [ih _ hr];simp only [eK,hb,ae9,if_false]
 rw [key l [] h];rfl
theorem kK{cells:List (Str×Addr)}:∀{l:List (Str×NameKind)} {cs:List (Str×Addr)} {x:Str} {c:Addr},(∀y∈l,y.2=.free→∃c,cells.lookup y.1=some c)→
  (∀x c,cs.lookup x=some c→cells.lookup x=some c)→(eK cells l cs).lookup x=some c→cells.lookup x=some c
 | [],_,_,_,_,hs,e=>hs _ _ e
 | (n,k)::r,cs,x,c,h,hs,e=>by
  refine kK (l:=r) (fun y hy=>h y (ab2 _ hy)) ?_ e;intro z d
  by_cases hk:k=.free
  ·subst hk
   obtain⟨c',hc'⟩:=h (n,.free) ab3 rfl;have hc'':cells.lookup n=some c':=hc';simp only [beq_self_eq_true,if_true,ae1,hc'',Option.getD_some]
   cases hz:z == n with
   | true=>
    have:z=n:=by simpa using hz
    subst this;intro q;cases q;exact hc''
   | false=>exact hs z d
  ·have hb:(k == NameKind.free)=false:=by simpa using hk
   simp only [hb,ae9,if_false];exact hs z d
theorem gX{cells:List (Str×Addr)}:∀{l:List (Str×NameKind)} {cs:List (Str×Addr)} {x:Str},((x,NameKind.free)∈l∨∃c,cs.lookup x=some c)→∃c,(eK cells l cs).lookup x=some c
 | [],_,_,h=>by
  rcases h with h | h
  ·cases h
  ·exact h
 | (n,k)::r,cs,x,h=>by
  refine gX (l:=r) ?_;rcases h with h | ⟨c,h⟩
  ·rcases ab7.mp h with e | h
   ·cases e
    refine .inr ⟨(cells.lookup n).getD 0,?_⟩;simp only [beq_self_eq_true,if_true,ae1]
   ·exact .inl h
  ·by_cases hk:k=.free
   ·subst hk
    simp only [beq_self_eq_true,if_true,ae1]
    cases hz:x == n with
    | true=>exact .inr ⟨_,rfl⟩
    | false=>exact .inr ⟨c,h⟩
   ·have hb:(k == NameKind.free)=false:=by simpa using hk
    simp only [hb,ae9,if_false];exact .inr ⟨c,h⟩
theorem dB{env:Env}:∀{names:List (Str×NameKind)} {x:Str},
  (names.map fun(n,k)=>if (k == NameKind.free && env.scope.kind == .function && env.kindOf n == some .cell)then(n,NameKind.cell)else(n,k)).lookup x =
   (names.lookup x).map fun k=>if (k == NameKind.free && env.scope.kind == .function && env.kindOf x == some .cell)then NameKind.cell else k
 | [],_=>rfl
 | (n,k)::r,x=>by
  have ih:=@dB env r x;show List.lookup x ((if (k == NameKind.free && env.scope.kind == .function && env.kindOf n == some .cell)=true then(n,NameKind.cell)else(n,k))::_)=_
  cases hx:x == n with
  | true=>
   have e:x=n:=by simpa using hx
   subst e
   by_cases hc:(k == NameKind.free && env.scope.kind == .function && env.kindOf x == some .cell)=true
   ·rw [if_pos hc];simp only [ae1,hx,ah8];rw [if_pos hc]
   ·rw [if_neg hc];simp only [ae1,hx,ah8];rw [if_neg hc]
  | false=>
   by_cases hc:(k == NameKind.free && env.scope.kind == .function && env.kindOf n == some .cell)=true
   ·rw [if_pos hc];simp only [ae1,hx];exact ih
   ·rw [if_neg hc];simp only [ae1,hx];exact ih
theorem mem_of_lookup{κ ν:Type}[BEq κ][LawfulBEq κ]:∀{l:List (κ×ν)} {x:κ} {v:ν},l.lookup x=some v→(x,v)∈l
 | [],_,_,h=>by cases h
 | (n,k)::r,x,v,h=>by
  rw [ae1]at h
  cases hx:x == n with
  | true=>
   rw [hx]at h
   have e:x=n:=by simpa using hx
   cases h;rw [e];exact ab3
  | false=>
   rw [hx]at h;exact ab2 _ (mem_of_lookup h)
structure bP(X:Cx)(scope:Scope)(js:List Nat):Prop where
 kind:scope.kind=.function
 cell:∀y∈scope.names,y.2≠.cell
 names:∀y∈scope.names,y.2=.local→scope.names.lookup y.1=some .local
 free:∀y∈scope.names,y.2=.free→X.env.kindOf y.1=some .cell∨X.env.kindOf y.1=some .free
 js:∀j∈js,scope.names.lookup (X.N.getD j "")=some .free
def qJ(out:Scope)(N:List Str)(scope:Scope)(js:List Nat):Bool:=
 (scope.kind == .function) && scope.names.all (fun y=>y.2 != .cell) && scope.names.all (fun y=>y.2 != .local || scope.names.lookup y.1 == some .local) &&
  scope.names.all (fun y=>y.2 != .free || (out.names.lookup y.1 == some .cell || out.names.lookup y.1 == some .free)) && js.all fun j=>scope.names.lookup (N.getD j "") == some .free
theorem bP.of{X:Cx}{scope:Scope}{js:List Nat}(h:qJ X.env.scope X.N scope js=true):bP X scope js:=by
 simp only [qJ,ac0,ae7]at h;obtain⟨⟨⟨⟨h1,h2⟩,h3⟩,h4⟩,h5⟩:=h;refine⟨by simpa using h1,fun y hy=>by simpa using h2 y hy,fun y hy e=>?_,fun y hy e=>?_,fun j hj=>by simpa using h5 j hj⟩
 ·have:=h3 y hy
  rw [e]at this;simpa using this
 ·have:=h4 y hy
  rw [e]at this;simpa [Env.kindOf]using this
def j4(X:Cx)(scope:Scope)(own:List Str)(js:List Nat)(C:Addr)(s:Shared)(H:Hp)(ex:List Addr)(pn:List (Addr×Obj))(E:Value→Shared→Prop):Cx where
 prog:=X.prog
 w:=X.w
 K:=X.K
 mg:=X.mg
 base:=X.base
 A:=X.A
 N:=own++js.map fun j=>X.N.getD j ""
 s₀:=s
 H₀:=H
 env:=compEnvC scope (eK X.env.cells scope.names []) C X.env
 outer:=X.stack
 stack:=X.stack
 ex:=ex
 fn:=fun _=>false
 calm:=X.calm
 pn:=pn
 xe:=E
def cσ(n:Nat)(js:List Nat)(σ:St):St:=List.replicate n none++js.map fun j=>σ.getD j none
section
variable {X:Cx} {pins:List (Addr×Obj)} {σ:St} {H H':Hp} {s:Shared} {scope:Scope} {own:List Str} {js:List Nat} {C:Addr} {fp:List Addr} {E:Value→Shared→Prop}
theorem bP.clos(ok:bP X scope js)(I:aJ X pins σ H s):∀y∈scope.names,y.2=.free→∃c,X.env.cells.lookup y.1=some c:=fun y hy e=>I.ok.has y.1 (ok.free y hy e)
theorem bP.sub(ok:bP X scope js)(I:aJ X pins σ H s){x:Str}{c:Addr}(e:(eK X.env.cells scope.names []).lookup x=some c):X.env.cells.lookup x=some c:=
 kK (ok.clos I) (fun _ _ z=>by cases z) e
theorem bP.kindOf(ok:bP X scope js){cl:List (Str×Addr)}{x:Str}(h:(compEnvC scope cl C X.env).kindOf x=some .cell∨(compEnvC scope cl C X.env).kindOf x=some .free):(x,NameKind.free)∈scope.names:=by
 have e:(compEnvC scope cl C X.env).kindOf x=(scope.names.lookup x).map fun k=>if (k == NameKind.free && X.env.scope.kind == .function && X.env.kindOf x == some .cell)then NameKind.cell else k:=dB;rw [e]at h
 cases q:scope.names.lookup x with
 | none=>rw [q]at h;simp at h
 | some k=>
  have hm:=mem_of_lookup q
  by_cases hk:k=.free
  ·subst hk;exact hm
  ·have hb:(k == NameKind.free)=false:=by simpa using hk
   rw [q]at h;simp only [ah8,hb,ag9,ae9,if_false]at h;rcases h with h | h
   ·exact absurd (Option.some.inj h) (ok.cell _ hm)
   ·exact absurd (Option.some.inj h) hk
theorem bP.isFree(ok:bP X scope js){cl:List (Str×Addr)}{x:Str}(h:scope.names.lookup x=some .free):(compEnvC scope cl C X.env).kindOf x=some .cell∨(compEnvC scope cl C X.env).kindOf x=some .free:=by
 have e:(compEnvC scope cl C X.env).kindOf x=(scope.names.lookup x).map fun k=>if (k == NameKind.free && X.env.scope.kind == .function && X.env.kindOf x == some .cell)then NameKind.cell else k:=dB;rw [e,h];simp only [ah8]
 split
 ·exact .inl rfl
 ·exact .inr rfl
theorem vR(ok:bP X scope js)(I:aJ X pins σ H s)(hC:s.heap.objs.size≤C)(f:∀b∈fp,j2 X pins H b)(fo:∀b∈fp,∃o,s.heap.get? b=some o):(j4 X scope own js C s H fp (X.pn++pins) E).Ok where
 mod:=I.ok.mod
 kind:=ok.kind
 glob:=I.ok.glob
 blt:=I.ok.blt
 above:=hC
 inj:=fun x y c e1 e2=>I.ok.inj x y c (ok.sub I e1) (ok.sub I e2)
 has:=fun x h=>gX (.inl (ok.kindOf h))
 cab:=fun x c h=>nomatch (show false=true from h)
 hd:=I.ok.hd
 frames:=I.ok.frames
 stk:=.inl rfl
 exf:=fun b hb=>by
  obtain⟨o,e⟩:=fo b hb;obtain⟨_,_,_,_,f4,_⟩:=f b hb;exact⟨ab4 (aa6 (aa9 e) hC),fun x c q=>f4 x c (ok.sub I q)⟩
 bs:=I.bs
 bsz:=aa7 I.ok.bsz I.sz
 noex:=fun b o e hb=>by
  obtain⟨_,_,_,f3,_,_⟩:=f b hb;rcases f3 with z | z
  ·exact I.ok.noex b o e z
  ·exact absurd (aa6 (aa9 e) (aa7 I.ok.bsz z)) (ae2 _)
 exfs:=fun b hb hs=>by
  obtain⟨_,f1,f2,_,_,_⟩:=f b hb;rcases ab7.mp (I.stkSub b hs)with e | e
  ·exact f1 e
  ·exact f2 e
 funs:=I.stack
 frf:=I.stkFree
theorem ud{s':Shared}{pins':List (Addr×Obj)}{m:Str→Option Value}(ok:bP X scope js)(I:aJ X pins σ H s)(hC:s.heap.objs.size≤C)(f:∀b∈fp,j2 X pins H b)(fo:∀b∈fp,∃o,s.heap.get? b=some o)
  (hos:s'.os=s.os) (hg:AllBare s'.gens) (u:Un (j1 X.stack) fp H H' s.heap s'.heap) (hn:s'.heap.Ns C m) (hok:gk X.prog X.w H' s'.heap) (hCf:H' C=none)
  (hp:∀p∈pins',s'.heap.get? p.1=some p.2∧H' p.1=none∧p.1≠C∧p.1∉j1 X.stack∧∀v,p.2.data≠.cell v) :
  aJ (j4 X scope own js C s H fp (X.pn++pins) E) pins' (cσ own.length js σ) H' s':=by
 have Ok:=vR (own:=own) (E:=E) ok I hC f fo
 have cellAt:∀x c,X.env.cells.lookup x=some c→∀v,s.heap.IsCell c v→s'.heap.IsCell c v:=fun x c e v ⟨o,ho,hd⟩=>by
  have nx:c∉fp:=fun z=>by
   obtain⟨_,_,_,_,f4,_⟩:=f c z;exact f4 x c e rfl
  obtain⟨sl,q⟩:=u.any ho (I.freeC x c e) nx;exact⟨_,q,hd⟩
 refine⟨Ok,hos,hg,u,⟨m,hn,?_⟩,?_,hCf,?_,?_,hok,?_⟩
 ·intro i x v e1 e2 _
  have e1':(own++js.map fun j=>X.N.getD j "")[i]?=some x:=e1;have e2':(List.replicate own.length none++js.map fun j=>σ.getD j none)[i]?=some (some v):=e2
  by_cases hi:i < own.length
  ·rw [ag4 (by simpa using hi),List.getElem?_replicate]at e2'
   split at e2'<;>cases e2'
  ·rw [ag1 (by omega),ac5]at e1'
   rw [ag1 (by simpa using aj1.mp hi),ac5,List.length_replicate]at e2'
   cases hj:js[i - own.length]? with
   | none=>rw [hj]at e1';cases e1'
   | some j=>
    rw [hj]at e1' e2';have ex:X.N.getD j ""=x:=Option.some.inj e1';have ev:σ.getD j none=some v:=Option.some.inj e2';have hjm:j∈js:=ac7 hj
    have hjl:j < σ.length:=by
     apply Classical.byContradiction;intro h;rw [ac4,List.getElem?_eq_none (aj1.mp h)]at ev;cases ev
    have hσ:σ[j]?=some (some v):=by
     rw [ac4,ab8 hjl]at ev;rw [ab8 hjl];exact congrArg some ev
    have hNl:j < X.N.length:=by rw [←I.len];exact hjl
    have hN:X.N[j]?=some x:=by
     rw [ac4,ab8 hNl]at ex;rw [ab8 hNl];exact congrArg some ex
    have hfr:scope.names.lookup x=some .free:=by rw [←ex];exact ok.js j hjm
    have hk:=ok.free _ (mem_of_lookup hfr) rfl;obtain⟨m0,_,hl⟩:=I.loc;obtain⟨w',r,l⟩:=hl j x v hN hσ (.inr hk);refine⟨w',r,?_⟩;rcases l with⟨hk',_⟩ | ⟨_,c,hc,hz⟩
    ·have hk'':X.env.kindOf x=some .local:=hk'
     rcases hk with q | q
     ·exact absurd (hk''.symm.trans q) (by intro z;cases z)
     ·exact absurd (hk''.symm.trans q) (by intro z;cases z)
    ·obtain⟨c',hc'⟩:∃c',(eK X.env.cells scope.names []).lookup x=some c':=gX (.inl (mem_of_lookup hfr))
     have e:=ok.sub I hc';rw [hc]at e;cases e;exact .inr ⟨ok.isFree hfr,c,hc',cellAt x c hc _ hz⟩
 ·intro x c e
  obtain⟨v,z⟩:=I.cell x c (ok.sub I e);exact⟨v,cellAt x c (ok.sub I e) v z⟩
 ·intro x c e
  obtain⟨v,o,ho,_⟩:=I.cell x c (ok.sub I e);refine u.free c o ho (I.freeC x c (ok.sub I e)) fun z=>?_;obtain⟨_,_,_,_,f4,_⟩:=f c z;exact f4 x c (ok.sub I e) rfl
 ·intro p hpm
  rcases ac2.mp hpm with h | h
  ·have h':p∈X.pn++pins:=h
   obtain⟨e,n,ne,nf,d⟩:=I.pin p h'
   have nfr:p.1∉j1 X.stack:=fun z=>by
    rcases ab7.mp (I.stkSub _ z)with q | q
    ·exact ne q
    ·exact nf q
   have nex:p.1∉fp:=fun z=>by
    obtain⟨_,_,_,_,_,f5⟩:=f p.1 z;exact f5 p h' rfl
   exact⟨u.keep p.1 p.2 e n nfr nex,u.free p.1 p.2 e n nex,ab4 (aa6 (aa9 e) hC),nfr,d⟩
  ·exact hp p h
 ·show(List.replicate own.length none++js.map fun j=>σ.getD j none).length=(own++js.map fun j=>X.N.getD j "").length
  simp
theorem aJ.track{D:Addr}{ys:List V}{its:List Value}{n:Nat}(I:aJ X pins σ H s)(hn:H D=none)(ho:s.heap.get? D=some { cls:=.type "list",data:=.seq its.toArray n })(r:aS ys its)(hz:ys.length≤sizeLine)
  (h1:D∈X.ex∨X.s₀.heap.objs.size≤D) (hL:D≠X.env.locals) (h2:∀x c,X.env.cells.lookup x=some c→c≠D) (h3:∀p∈X.pn++pins,p.1≠D):aJ X pins σ (upd H D (.lst ys)) s:=by
 have ne:∀b o,H b=some o→b≠D:=fun b o e=>ar e hn
 refine I.step (h':=s.heap) (g':=s.gens) (d':=s.drawn) (t':=s.toks) (ch:=[D]) (fun b hb=>?_) (fun b o _ _ _ e _=>e) (fun b o _ _ _ e _=>⟨o.slots,e⟩) (fun b o hc _ n=>?_)
  (fun b o _ e=>⟨o,e⟩) (fun b xs e=>?_) (fun b o u e=>?_) (fun b ps e=>⟨#[],?_⟩) (fun _ z=>z) (fun b u e=>?_) I.bare
 ·have e:b=D:=by simpa using hb
  subst e;exact⟨h1,hL,h2,h3⟩
 ·rw [aj (fun z=>hc (by simp [z]))];exact n
 ·rw [aj (ne _ _ e)];exact e
 ·rw [aj (ne _ _ e)];exact e
 ·rw [aj (ne _ _ e),e];simp
 ·by_cases hb:b=D
  ·subst hb
   rw [af]at e;cases e;exact⟨hz,its,n,r,ho⟩
  ·rw [aj hb]at e
   exact(I.hok b u e).stay (fun c v _ q=>q) (fun c q=>by rw [aj (ne _ _ q)];exact q) fun c xs q=>by rw [aj (ne _ _ q)];exact q
end
structure yY(X:Cx)(pins:List (Addr×Obj))(C:Addr):Prop where
 ne:C≠X.env.locals
 old:C∈X.ex∨X.s₀.heap.objs.size≤C
 cells:∀x c,X.env.cells.lookup x=some c→c≠C
 pin:∀p∈X.pn++pins,p.1≠C
theorem yY.go{X:Cx}{pins:List (Addr×Obj)}{C:Addr}{σ:St}{H:Hp}{s:Shared}{h':Heap}(o:yY X pins C)(I:aJ X pins σ H s)(hn:H C=none)(sb:Heap.SameBut C s.heap h'):aJ X pins σ H { s with heap:=h' }:=
 I.turned (t':=s.toks) (fun b q hb e=>(sb.2 b hb).trans e) hn o.ne o.old o.cells o.pin
section
variable {prog:Program} {w:World} {A:Around} {R:Result→Shared→Prop} {s:Shared}
theorem nX{elt target iter:Expr}{ifs:List Expr}{scope:Scope}{pos:Pos}{it acc:Value}{env:Env}(I:Nat→Shared→Prop)
  (turn:∀n s,I n s→wpAny (model prog w) A (pyNext it) (fun r s₁=>match r with
   | none=>R (.ok .next) s₁
   | some v=>wpAny (model prog w) A (letOwnedTupleGo target it v) (fun _ s₁'=>wpAny (model prog w) A (assign target env v) (fun _ s₂=>
     wpAny (model prog w) A (forIn ifs true fun c r=>if r=true then do let ok ←isTrue c env (eval c env);pure (ForInStep.yield ok)else pure (ForInStep.yield r)) (fun ok s₃=>
      if ok=true then wpAny (model prog w) A (eval elt env) (fun x s₄=>
       wpAny (model prog w) A (call (.builtin "list.append") [acc,x]) (fun _ s₅=>∃m,m < n∧I m s₅) (notedBy (model prog w) A env fun e s'=>R (.error e) s') s₄) (notedBy (model prog w) A env fun e s'=>R (.error e) s') s₃
      else ∃m,m < n∧I m s₃) (notedBy (model prog w) A env fun e s'=>R (.error e) s') s₂) (notedBy (model prog w) A env fun e s'=>R (.error e) s') s₁') (notedBy (model prog w) A env fun e s'=>R (.error e) s') s₁)
    (notedBy (model prog w) A env fun e s'=>R (.error e) s') s)
  (n:Nat) (h:I n s) :
  codeAny (model prog w) A (.compLoop (.ListComp elt [⟨target,iter,ifs,0⟩] scope pos) 0 it acc env) R s:=by
 refine codeAny_loop rfl I (fun n s hI=>?_) n h;show wpAny _ A ((compTurn (.ListComp elt [⟨target,iter,ifs,0⟩] scope pos) 0 it acc env).onRaise (fun x=>do noteFrame x env;theTreesLotGoes x)) _ _ s;refine wpAny_noted ?_;rw [compTurn_list];refine wpAny_bind (wpAny_standAt (wpAny_bind (wpAny_mono (turn n s hI) (fun r s₁ h₁=>?_) fun _ _ h'=>h')))
 cases r with
 | none=>exact wpAny_pure h₁
 | some v=>
  refine wpAny_bind (wpAny_mono h₁ (fun _ s₁' h₁'=>?_) fun _ _ h'=>h');refine wpAny_bind (wpAny_mono h₁' (fun _ s₂ h₂=>wpAny_bind (wpAny_mono h₂ (fun ok s₃ h₃=>?_) fun _ _ h'=>h')) fun _ _ h'=>h')
  cases ok with
  | false=>exact wpAny_pure ⟨rfl,h₃⟩
  | true=>
   exact wpAny_bind (wpAny_bind (wpAny_mono h₃ (fun x s₄ h₄=>wpAny_bind (wpAny_mono h₄ (fun _ s₅ h₅=>wpAny_pure (wpAny_pure ⟨rfl,h₅⟩)) fun _ _ h'=>h')) fun _ _ h'=>h'))
end
def Aa(X:Cx)(ifs:List Expr)(t:TT):Prop:=
 ∀(pins:List (Addr×Obj)) (s:Shared) (σ:St) (H:Hp) (Q:Bool→Hp→Prop),aJ X pins σ H s→t σ H Q→
  wpAny (model X.prog X.w) X.A (forIn ifs true fun c r=>if r=true then do let ok ←isTrue c X.env (eval c X.env);pure (ForInStep.yield ok)else pure (ForInStep.yield r)) (TP X pins σ Q) X.xe s
def yP:TT:=fun _ H Q=>Q true H
theorem fF{X:Cx}:Aa X [] yP:=fun pins s σ H Q I h=>wpAny_tests_nil ⟨H,I,h⟩
def yQ(n:Nat)(js:List Nat)(wi:TI)(g:TG)(tt:TT)(te:TE)(σ:St)(H:Hp)(F:List V→Hp→Prop):Prop:=wi σ H fun J H1=>∃W:Nat→Nat→List V→Hp→Prop,(∃m,W 0 m [] H1)∧∀i m ys H,W i m ys H→
 (J.stop i H∧F ys H)∨
 (J.go i H∧ys.length < sizeLine∧∃N:List V→Hp→Prop,(∀ys' H',N ys' H'→∃m',m' < m∧W (i+1) m' ys' H')∧∀x H',J.yld i H x H'→g x (cσ n js σ) H' fun σ2 H2=>tt σ2 H2 fun b H3=>if b=true then te σ2 H3 fun y H4=>N (ys++[y]) H4 else N ys H3)
def vh(n:Nat)(js:List Nat)(wi:TI)(g:TG)(tt:TT)(te:TE):TE:=fun σ H Q=>yQ n js wi g tt te σ H fun ys H=>∀p,H p=none→Q (.ref p) (upd H p (.lst ys))
section
variable {X:Cx} {scope:Scope} {own:List Str} {js:List Nat} {tg iter elt:Expr} {ifs:List Expr} {wi:TI} {g:TG} {tt:TT} {te:TE} {pos:Pos}
abbrev kC:Value→Shared→Prop:=fun _ _=>False
theorem je{pins:List (Addr×Obj)}{σ:St}{H2:Hp}{s2:Shared}{it:Addr}{fp:List Addr}{tn:Nat→Heap→Prop}{J:It}{F:List V→Hp→Prop}{RR:Value→Addr→Result→Shared→Prop}{E:Value→Shared→Prop}
  (hc:X.calm=true) (ok:bP X scope js)
  (hg:∀C s H ex pn,PG (j4 X scope own js C s H ex pn kC) tg g) (ht:∀C s H ex pn,Aa (j4 X scope own js C s H ex pn kC) ifs tt) (he:∀C s H ex pn,PE (j4 X scope own js C s H ex pn kC) elt te)
  (I2:aJ X pins σ H2 s2) (T:rG X.prog X.w X.K tg J fp it tn) (st2:tn 0 s2.heap) (f2:∀b∈fp,j2 X pins H2 b) {W:Nat→Nat→List V→Hp→Prop} {m0:Nat} (w0:W 0 m0 [] H2)
  (turn:∀i m ys H,W i m ys H→(J.stop i H∧F ys H)∨
   (J.go i H∧ys.length < sizeLine∧∃N:List V→Hp→Prop,(∀ys' H',N ys' H'→∃m',m' < m∧W (i+1) m' ys' H')∧∀x H',J.yld i H x H'→g x (cσ own.length js σ) H' fun σ2 H2=>tt σ2 H2 fun b H3=>if b=true then te σ2 H3 fun y H4=>N (ys++[y]) H4 else N ys H3))
  (hRR:∀(D C:Addr) (s':Shared) (H':Hp) (ys:List V) (m:Str→Option Value),F ys H'→H' D=none→aJ X pins σ (upd H' D (.lst ys)) s'→s'.heap.Ns C m→
   yY X pins C→(upd H' D (.lst ys)) C=none→RR (.ref D) C (.ok .next) s') :
  wpAny (model X.prog X.w) X.A (newList []) (fun acc s₃=>wpAny (model X.prog X.w) X.A (newFunctionEnv scope X.env.globals (eK X.env.cells scope.names []) [] X.env.qual none .none (some X.env)) (fun cenv s₄=>
   codeAny (model X.prog X.w) X.A (.compStart (.ListComp elt [⟨tg,iter,ifs,0⟩] scope pos) 0 (.ref it) acc { cenv with scope:=relabel scope X.env }) (RR acc cenv.locals) s₄) E s₃) E s2:=by
 refine wpAny_newObj_type (wpAny_newFunctionEnv ok.cell (by intro y hy;simp at hy) (fun h₁ hns₁ hsb₁=>?_) ok.kind);dsimp only at hns₁ hsb₁ ⊢;generalize hP:s2.heap.push { cls:=.type "list",dict:=none,data:=.seq ([]:List Value).toArray }=P2 at hns₁ hsb₁ ⊢
 have hC:P2.objs.size=s2.heap.objs.size+1:=by rw [←hP,Heap.size_push]
 have hDC:s2.heap.objs.size≠P2.objs.size:=by rw [hC];exact ab4 (ah3 _)
 have hCle:s2.heap.objs.size≤P2.objs.size:=by rw [hC];exact aj7 _
 have below:∀b,b < s2.heap.objs.size→b≠P2.objs.size∧b≠s2.heap.objs.size:=fun b hb=>⟨by rw [hC];exact ab4 (Nat.lt_succ_of_lt hb),ab4 hb⟩;have old:∀b o,s2.heap.get? b=some o→h₁.get? b=some o:=fun b o e=>hsb₁.extBut b o (below b (aa9 e)).1 (aa2 _ (hP▸aa2 _ e));have hacc:h₁.get? s2.heap.objs.size=some { cls:=.type "list",data:=.seq ([]:List Value).toArray 0 }:=hsb₁.extBut _ _ hDC (aa2 _ (hP▸ab6 _ rfl));generalize hDe:s2.heap.objs.size=D at hacc hDC hCle hC below;generalize hCe:P2.objs.size=C at hns₁ hsb₁ hDC hCle hC below ⊢
 have fo:∀b∈fp,∃o,s2.heap.get? b=some o:=fun b hb=>let ⟨o,e,_⟩:=T.obj _ _ st2 b hb;⟨o,e⟩
 have fD:∀b∈fp,b≠D∧b≠C:=fun b hb=>by
  obtain⟨o,e⟩:=fo b hb
  have:=below b (hDe▸aa9 e)
  exact⟨this.2,this.1⟩
 have H2C:H2 C=none:=I2.hok.fresh (by rw [hDe];exact hCle);have H2D:H2 D=none:=I2.hok.fresh (by rw [hDe];exact aa3 _)
 have stkD:D∉j1 X.stack:=fun z=>by
  have h1:=I2.nofs (a:=D) (by rw [hDe];exact aa3 _);rcases ab7.mp (I2.stkSub _ z)with q | q
  ·have:=I2.lt
   rw [←q,hDe]at this;exact ae2 _ this
  ·exact h1 q
 have neLoc:D≠X.env.locals∧C≠X.env.locals:=by
  have h1:=I2.lt;rw [hDe]at h1;exact⟨ag8 h1,ag8 (aa6 h1 hCle)⟩
 have cellLt:∀x c,X.env.cells.lookup x=some c→c < D:=fun x c e=>by
  obtain⟨v,z⟩:=I2.cell x c e;rw [←hDe];exact z.lt
 have pinLt:∀p∈X.pn++pins,p.1 < D:=fun p hp=>by rw [←hDe];exact aa9 (I2.pin p hp).1
 have hs0:X.s₀.heap.objs.size≤D:=by rw [←hDe];exact I2.sz
 have start:∀{s':Shared} {H':Hp} {m:Str→Option Value} {o:Obj},s'.os=s2.os→AllBare s'.gens→Un (j1 X.stack) fp H2 H' s2.heap s'.heap→s'.heap.Ns C m→gk X.prog X.w H' s'.heap→H' C=none→s'.heap.get? D=some o→H' D=none→(∀v,o.data≠.cell v)→
   aJ (j4 X scope own js C s2 H2 fp (X.pn++pins) kC) [(D,o)] (cσ own.length js σ) H' s':=fun {s' H' m o} a1 a2 a3 a4 a5 a6 a7 a8 a9=>
  ud ok I2 (by rw [hDe];exact hCle) f2 fo a1 a2 a3 a4 a5 a6 fun p hp=>by
   have e:p=(D,o):=by simpa using hp
   subst e;exact⟨a7,a8,hDC,stkD,a9⟩
 have fpC:∀{H':Hp} {o:Obj},(∀b∈fp,H' b=none)→∀b∈fp,j2 (j4 X scope own js C s2 H2 fp (X.pn++pins) kC) [(D,o)] H' b:=fun {H' o} hn b hb=>by
  obtain⟨_,q1,q2,q3,q4,q5⟩:=f2 b hb;refine⟨hn b hb,(fD b hb).2,fun z=>?_,.inl hb,fun x c e=>q4 x c (ok.sub I2 e),fun p hp=>?_⟩
  ·rcases ab7.mp (I2.stkSub b z)with e | e
   ·exact q1 e
   ·exact q2 e
  ·rcases ac2.mp hp with h | h
   ·exact q5 p h
   ·have e:p=(D,o):=by simpa using h
    subst e;exact(fD b hb).1.symm
 have nocell:∀(its:Array Value) (n:Nat) (v:Option Value),({ cls:=.type "list",data:=.seq its n }:Obj).data≠.cell v:=fun _ _ _ z=>by cases z
 have loop:∀s₃:Shared,s₃={ s2 with heap:=h₁,toks:=s2.toks+([]:List (Str×Value)).length }→
   codeAny (model X.prog X.w) X.A (.compLoop (.ListComp elt [⟨tg,iter,ifs,0⟩] scope pos) 0 (.ref it) (.ref D) (compEnvC scope (eK X.env.cells scope.names []) C X.env)) (RR (.ref D) C) s₃:=by
  rintro s₃ rfl
  refine nX (fun n s'=>∃i ys its k H',aJ (j4 X scope own js C s2 H2 fp (X.pn++pins) kC) [(D,{ cls:=.type "list",data:=.seq (its:List Value).toArray k })] (cσ own.length js σ) H' s'∧tn i s'.heap∧(∀b∈fp,H' b=none)∧
   W i n ys H'∧aS ys its∧ys.length≤sizeLine) ?_ m0 ⟨0,[],[],0,H2,start rfl I2.bare (Un.kept old) hns₁ (I2.hok.kept old) H2C hacc H2D (nocell _ _),T.keep _ _ _ st2 (fun b _ o e=>old b o e),fun b hb=>(f2 b hb).1,w0,.nil,ab1 _⟩
  rintro n s3 ⟨i,ys,its,k,H3,I3,st3,fr3,w3,rv,hz⟩;rcases turn i n ys H3 w3 with⟨stop,q⟩ | ⟨go,hlt,N,hN,step⟩
  ·refine wpAny_mono (T.done (j4 X scope own js C s2 H2 fp (X.pn++pins) kC) rfl rfl rfl hc i _ s3 _ H3 kC I3 (fpC fr3) st3 stop) (fun r s4 ⟨hr,I4⟩=>?_) fun _ _ f=>f.elim
   subst hr;obtain⟨zD,nD,_⟩:=I4.pin (D,_) (ab0 _ ab3);obtain⟨m,hm,_⟩:=I4.loc;have I5:aJ X pins σ H3 s4:=I2.call' I4.os I4.base I4.hok I4.bare fun b hb=>⟨(f2 b hb).2.2.2.1,(f2 b hb).2.1,(f2 b hb).2.2.2.2.1,(f2 b hb).2.2.2.2.2⟩;have I6:aJ X pins σ (upd H3 D (.lst ys)) s4:=I5.track nD zD rv hz (.inr hs0) neLoc.1 (fun x c e=>ab4 (cellLt x c e)) fun p hp=>ab4 (pinLt p hp);have nC:H3 C=none:=I4.free;exact hRR D C s4 H3 ys m q nD I6 hm ⟨neLoc.2,.inr (aa7 hs0 hCle),fun x c e=>ab4 (aa6 (cellLt x c e) hCle),fun p hp=>ab4 (aa6 (pinLt p hp) hCle)⟩ (by rw [aj (Ne.symm hDC)];exact nC)
  ·refine wpAny_mono (T.item (j4 X scope own js C s2 H2 fp (X.pn++pins) kC) rfl rfl rfl hc i _ s3 _ H3 kC I3 (fpC fr3) st3 go) (fun r s4 ⟨u,hr,h4⟩=>?_) fun _ _ f=>f.elim
   subst hr;refine wpAny_mono h4 (fun _ s5 ⟨x,H5,I5,r5,y5,st5,fr5⟩=>?_) fun _ _ f=>f.elim;have I5':=I5.pinned (fpC fr5) (T.obj _ _ st5);refine wpAny_mono (hg _ _ _ _ _ _ s5 _ H5 x u _ I5' r5 (step x H5 y5)) (fun _ s6 ⟨σ6,H6,I6,q6⟩=>?_) fun _ _ f=>f.elim;refine wpAny_mono (ht _ _ _ _ _ _ s6 σ6 H6 _ I6 q6) (fun b s7 ⟨H7,I7,q7⟩=>?_) fun _ _ f=>f.elim
   have back:∀{s8:Shared} {H8:Hp} {m':Nat} {ys':List V} {its':List Value} {k':Nat},aJ (j4 X scope own js C s2 H2 fp (X.pn++pins) kC) [] σ6 H8 s8→s8.heap.get? D=some { cls:=.type "list",data:=.seq its'.toArray k' }→H8 D=none→
     (∀b∈fp,∀o,s5.heap.get? b=some o→s8.heap.get? b=some o)→(∀b∈fp,H8 b=none)→W (i+1) m' ys' H8→aS ys' its'→ys'.length≤sizeLine→
     ∃i ys its k H',aJ (j4 X scope own js C s2 H2 fp (X.pn++pins) kC) [(D,{ cls:=.type "list",data:=.seq (its:List Value).toArray k })] (cσ own.length js σ) H' s8∧tn i s8.heap∧(∀b∈fp,H' b=none)∧W i m' ys H'∧aS ys its∧ys.length≤sizeLine:=
    fun {s8 H8 m' ys' its' k'} J zD nD kf fr w' rv' hz'=>by
     obtain⟨m,hm,_⟩:=J.loc;exact⟨i+1,ys',its',k',H8,start J.os J.bare J.base hm J.hok J.free zD nD (nocell _ _),T.keep _ _ _ st5 kf,fr,w',rv',hz'⟩
   cases b with
   | false=>
    rw [if_neg aa0];rw [if_neg aa0]at q7;obtain⟨m',hm',w'⟩:=hN _ _ q7;have pD:=I7.pin (D,_) (ab0 _ (ag0 _ ab3));refine⟨m',hm',back (I7.pins_of (pins':=[]) fun p hp=>nomatch hp) pD.1 pD.2.1 (fun b hb o e=>(I7.pin (b,o) (ab0 _ (ab0 _ (cL hb e)))).1) (fun b hb=>?_) w' rv hz⟩;obtain⟨o,e,_⟩:=T.obj _ _ st5 b hb;exact(I7.pin (b,o) (ab0 _ (ab0 _ (cL hb e)))).2.1
   | true=>
    rw [if_pos rfl];rw [if_pos rfl]at q7;refine wpAny_mono (he _ _ _ _ _ _ s7 σ6 H7 _ I7 q7) (fun yv s8 ⟨y,H8,I8,r8,q8⟩=>?_) fun _ _ f=>f.elim;obtain⟨m',hm',w'⟩:=hN _ _ q8;have pD:=I8.pin (D,_) (ab0 _ (ag0 _ ab3));refine append_at (hsz:=by rw [aa4,←rv.length];exact hz) pD.1 fun h9 sb9 z9=>?_;have I8':aJ (j4 X scope own js C s2 H2 fp (X.pn++pins) kC) [] σ6 H8 s8:=I8.pins_of fun p hp=>nomatch hp
    have I9:aJ (j4 X scope own js C s2 H2 fp (X.pn++pins) kC) [] σ6 H8 { s8 with heap:=h9 }:=I8'.turned (t':=s8.toks) (it:=D) (fun b o hb e=>(sb9.2 b hb).trans e) pD.2.1 hDC (.inr (by show s2.heap.objs.size≤D;rw [hDe];exact aa3 _))
     (fun x c e=>ab4 (cellLt x c (ok.sub I2 e))) fun p hp=>by
      rcases ac2.mp hp with h | h
      ·exact ab4 (pinLt p h)
      ·cases h
    refine⟨m',hm',back (its':=its++[yv]) (k':=k+1) I9 (by rw [z9];simp) pD.2.1 (fun b hb o e=>(sb9.2 b (fD b hb).1).trans (I8.pin (b,o) (ab0 _ (ab0 _ (cL hb e)))).1) (fun b hb=>?_) w' (rv.append (.cons r8 .nil)) (by simp;omega)⟩;obtain⟨o,e,_⟩:=T.obj _ _ st5 b hb;exact(I8.pin (b,o) (ab0 _ (ab0 _ (cL hb e)))).2.1
 exact codeAny_compStart_list (loop _ rfl) (T.self X.A 0 _ _ _ (T.keep _ _ _ st2 (fun b _ o e=>old b o e)) (loop _ rfl))
theorem gA(hc:X.calm=true)(hi:PI X tg iter wi)(ok:bP X scope js)
  (hg:∀C s H ex pn,PG (j4 X scope own js C s H ex pn kC) tg g) (ht:∀C s H ex pn,Aa (j4 X scope own js C s H ex pn kC) ifs tt) (he:∀C s H ex pn,PE (j4 X scope own js C s H ex pn kC) elt te)
  (hs:∀x,foldedSetIterable iter X.env x=pure x:=by intro _;rfl):PE X (.ListComp elt [⟨tg,iter,ifs,0⟩] scope pos) (vh own.length js wi g tt te):=by
 intro pins s σ H Q I h;rw [eval_ListComp];refine wpAny_comprehension_free (use:=none) rfl hs (fN (ok.clos I)) ok.kind ok.names (bQ (hi pins s σ H _ I h) fun v s1 h1=>bQ h1 fun itv s2 h2=>?_);obtain⟨it,fp,tn,J,H2,e,I2,T,st2,f2,W,⟨m0,w0⟩,turn⟩:=h2;subst e;refine je (RR:=fun acc C=>compPost (model X.prog X.w) X.A X.xe none (EP X pins σ Q) acc C) hc ok hg ht he I2 T st2 f2 w0 turn ?_;intro D C s' H' ys m q nD I6 hm o nC;exact⟨m,hm,fun h' sb=>⟨.ref D,_,o.go I6 nC sb,rfl,q D nD⟩⟩
theorem qh{i:Nat}{x:Str}{py spos:Pos}(hN:X.N.Nodup)(hix:X.N[i]?=some x)(hx:xQ X.env.scope x)(hc:X.calm=true)(hi:PI X tg iter wi)(ok:bP X scope js)
  (hg:∀C s H ex pn,PG (j4 X scope own js C s H ex pn kC) tg g) (ht:∀C s H ex pn,Aa (j4 X scope own js C s H ex pn kC) ifs tt) (he:∀C s H ex pn,PE (j4 X scope own js C s H ex pn kC) elt te)
  (hsw:swapsWith (.ListComp elt [⟨tg,iter,ifs,0⟩] scope pos) (some (.Name x py)) spos.line X.env=pure true)
  (hf:X.fn x=true∨X.env.scope.names.lookup x=some .local:=by first | exact .inl rfl | exact .inr rfl | assumption)
  (hs:∀x,foldedSetIterable iter X.env x=pure x:=by intro _;rfl):PS X (.Assign [.Name x py] (.ListComp elt [⟨tg,iter,ifs,0⟩] scope pos) spos) (sM (vh own.length js wi g tt te) (kZ i)):=by
 intro pins s σ H Dd I h;rw [exec_Assign_Name_used _ _ _ _ hsw];refine wpAny_bind (wpAny_standAt (wpAny_bind ?_));show wpAny _ X.A (do let _ ←comprehension (.ListComp elt [⟨tg,iter,ifs,0⟩] scope pos) scope X.env _ (newList []) false (eval iter X.env) (some (assign (.Name x py) X.env))) _ _ s
 refine wpAny_bind (wpAny_mono (wpAny_comprehension_free (use:=some (assign (.Name x py) X.env)) (Q:=fun _ s'=>SP X pins Dd .next s') rfl hs (fN (ok.clos I)) ok.kind ok.names
  (bQ (hi pins s σ H _ I h) fun v s1 h1=>bQ h1 fun itv s2 h2=>?_)) (fun _ s' hq=>wpAny_pure (wpAny_pure hq)) fun _ _ e=>e)
 obtain⟨it,fp,tn,J,H2,e,I2,T,st2,f2,W,⟨m0,w0⟩,turn⟩:=h2;subst e;refine je (RR:=fun acc C=>compPost (model X.prog X.w) X.A X.xe (some (assign (.Name x py) X.env)) (fun _ s'=>SP X pins Dd .next s') acc C) hc ok hg ht he I2 T st2 f2 w0 turn ?_;intro D C s' H' ys m q nD I6 hm o nC;show wpAny _ X.A (assign (.Name x py) X.env (.ref D)) _ _ _;refine wpAny_assign_Name (lT I6 hN hix hx (v:=.ref D) rfl (fun s2' I7 ⟨a,sa,ha⟩=>?_) hf)
 have hCa:C≠a:=by
  rcases ha with e | e
  ·rw [e];exact o.ne
  ·exact fun z=>o.cells x a e z.symm
 exact⟨m,hm.sameBut sa hCa,fun h' sb=>⟨_,_,o.go I7 nC sb,q D nD⟩⟩
end
end L2
namespace L2
open PySem PySem.Spec PyProof.Rows
def vH(X:Cx)(tg:Expr)(r:V→Hp→(It→Hp→Prop)→Prop):Prop:=
 ∀(pins:List (Addr×Obj)) (s:Shared) (σ:St) (H:Hp) (x:V) (v:Value) (R:It→Hp→Prop),aJ X pins σ H s→aQ x v→r x H R→
  wpAny (model X.prog X.w) X.A (pyIter v) (z8 X pins σ tg R) X.xe s
def vD(z:Str):It:=⟨fun i _=>i < z.length,fun i H x H'=>H'=H∧∃c,z.cps[i]?=some c∧x=.str ⟨#[c]⟩,fun i _=>i=z.length⟩
theorem l0{P:Program}{w:World}{A:Around}(hh:A.handled=none)(I:Addr)(z:Str)(t:Tok){ty:String}(hty:ty="str_ascii_iterator"∨ty="str_iterator"):
  Walks P w A I [I] [I] z.cps.size (SignAt z) (fun i h=>h.IsStrIter I ty z t i):=by
 rcases hty with e | e
 ·subst e;exact Walks.strAscii hh I z t
 ·subst e;exact Walks.strWide hh I z t
theorem vr{P:Program}{w:World}{K:Frag}{tg:Expr}(z:Str)(t:Tok)(it:Addr){ty:String}(hty:ty="str_ascii_iterator"∨ty="str_iterator"):
  rG P w K tg (vD z) [it] it (fun i h=>h.IsStrIter it ty z t i) where
 mem:=by simp
 obj:=fun i h st b hb=>by
  have e:b=it:=by simpa using hb
  subst e;obtain⟨o,e,c,d⟩:=st;exact⟨o,e,fun v z=>by rw [d]at z;cases z⟩
 keep:=fun i h h' st k=>by
  obtain⟨o,e,r⟩:=st;exact⟨o,k it (by simp) o e,r⟩
 item:=by
  intro X hP hw hK hc i pins s σ H E I hf st hg;subst hP hw hK;obtain⟨f0,f1,f2,f3,f4,f5⟩:=hf it (by simp);refine(l0 (I.ok.hd hc) it z t hty).item i s _ _ hg st fun v h' tk hv st' kk=>?_;obtain⟨c,u,hcz,rfl⟩:=hv;have I1:aJ X pins σ H { s with heap:=h',toks:=tk }:=I.turned (fun b o hb e=>kk b o (by simpa using hb) e) f0 f1 f3 f4 f5;obtain⟨o,e,cl,d⟩:=id st'
  refine⟨_,rfl,qS (s:={ s with heap:=h',toks:=tk }) (n:=ty) e cl d (by rcases hty with q | q<;>(subst q;decide)) ⟨.str ⟨#[c]⟩,H,I1,⟨u,rfl⟩,⟨rfl,c,hcz,rfl⟩,st',fun b hb=>(hf b hb).1⟩⟩
 done:=by
  intro X hP hw hK hc i pins s σ H E I hf st hg;subst hP hw hK;obtain⟨f0,f1,f2,f3,f4,f5⟩:=hf it (by simp);have e:i=z.length:=hg;subst e;exact(l0 (I.ok.hd hc) it z t hty).done s _ _ st fun h' tk kk=>⟨rfl,I.turned (fun b o hb e=>kk b o (by simpa using hb) e) f0 f1 f3 f4 f5⟩
 self:=fun A i s Q E st h=>by
  rcases hty with e | e
  ·subst e;exact wpAny_pyIter_striter_ascii st h
  ·subst e;exact wpAny_pyIter_striter_wide st h
section
variable {X:Cx} {tg:Expr}
theorem vH.or{r r':V→Hp→(It→Hp→Prop)→Prop}(h:vH X tg r)(h':vH X tg r'):vH X tg (fun x H R=>r x H R∨r' x H R):=by
 intro pins s σ H x v R I rx q;rcases q with q | q
 ·exact h pins s σ H x v R I rx q
 ·exact h' pins s σ H x v R I rx q
theorem it_list:vH X tg (fun x H R=>∃a,x=.ref a∧(∃xs,bf X.K H a xs)∧R (sX X.K a) H):=by
 intro pins s1 σ H1 x v R I1 r1 q1;obtain⟨a,e,⟨xs,hq⟩,q⟩:=q1;subst e;cases r1;obtain⟨its,rv,p,hz⟩:=I1.list hq;refine wpAny_pyIter_list p.isList ?_;refine⟨s1.heap.objs.size,[s1.heap.objs.size],_,_,H1,rfl,I1.kept (t':=s1.toks) fun b o e=>aa2 _ e,sO a _,⟨_,ab6 _ rfl,rfl,rfl⟩,fun b hb=>?_,q⟩
 have e:b=s1.heap.objs.size:=by simpa using hb
 subst e;exact I1.fpOk (aa3 _) (I1.hok.fresh (aa3 _))
theorem it_tup:vH X tg (fun x H R=>∃a,x=.ref a∧(∃xs,eT X.K H a xs)∧R (Ao X.K a) H):=by
 intro pins s1 σ H1 x v R I1 r1 q1;obtain⟨a,e,⟨xs,hq⟩,q⟩:=q1;subst e;cases r1;obtain⟨its,rv,p,hz⟩:=I1.tuple hq;refine wpAny_pyIter_tuple (show s1.heap.IsTuple a its.toArray from p) ?_;refine⟨s1.heap.objs.size,[s1.heap.objs.size],_,_,H1,rfl,I1.kept (t':=s1.toks) fun b o e=>aa2 _ e,qz a _,⟨_,ab6 _ rfl,rfl,rfl⟩,fun b hb=>?_,q⟩
 have e:b=s1.heap.objs.size:=by simpa using hb
 subst e;exact I1.fpOk (aa3 _) (I1.hok.fresh (aa3 _))
theorem x8:vH X tg (fun x H R=>∃z,x=.str z∧R (vD z) H):=by
 intro pins s1 σ H1 x v R I1 r1 q1;obtain⟨z,e,q⟩:=q1;subst e;obtain⟨t,rfl⟩:=r1
 have fin:∀(o:Obj) (ty:String),(ty="str_ascii_iterator"∨ty="str_iterator")→(s1.heap.push o).IsStrIter s1.heap.objs.size ty z t 0→z8 X pins σ tg R (.ref s1.heap.objs.size) { s1 with heap:=s1.heap.push o }:=fun o ty hty st=>by
  refine⟨s1.heap.objs.size,[s1.heap.objs.size],_,_,H1,rfl,I1.kept (t':=s1.toks) fun b o e=>aa2 _ e,vr z t _ hty,st,fun b hb=>?_,q⟩
  have e:b=s1.heap.objs.size:=by simpa using hb
  subst e;exact I1.fpOk (aa3 _) (I1.hok.fresh (aa3 _))
 cases ha:z.cps.all (· < 128)
 ·exact wpAny_pyIter_wide ha (fin _ _ (.inr rfl) ⟨_,ab6 _ rfl,rfl,rfl⟩)
 ·exact wpAny_pyIter_ascii ha (fin _ _ (.inl rfl) ⟨_,ab6 _ rfl,rfl,rfl⟩)
def wU(K:Frag):V→Hp→(It→Hp→Prop)→Prop:=fun x H R=>(∃a,x=.ref a∧(∃xs,bf K H a xs)∧R (sX K a) H)∨(∃a,x=.ref a∧(∃xs,eT K H a xs)∧R (Ao K a) H)∨∃z,x=.str z∧R (vD z) H
theorem itA:vH X tg (wU X.K):=it_list.or (it_tup.or x8)
def zv(r:V→Hp→(It→Hp→Prop)→Prop)(tl:TE):TI:=fun σ H R=>tl σ H fun x H1=>r x H1 R
theorem zS{l:Expr}{tl:TE}{r:V→Hp→(It→Hp→Prop)→Prop}(hr:vH X tg r)(hl:PE X l tl):PI X tg l (zv r tl):=by
 intro pins s σ H R I h;exact bQ (hl pins s σ H _ I h) fun v s1 ⟨x,H1,I1,r1,q1⟩=>hr pins s1 σ H1 x v R I1 r1 q1
theorem yw{l:Expr}{tl:TE}(hl:PE X l tl):PI X tg l (zv (wU X.K) tl):=zS itA hl
theorem fG{K:Frag}{H:Hp}{a:Addr}{xs:List V}{R:It→Hp→Prop}(h:bf K H a xs)(q:R (sX K a) H):wU K (.ref a) H R:=.inl ⟨a,rfl,⟨xs,h⟩,q⟩
theorem q9{K:Frag}{H:Hp}{z:Str}{R:It→Hp→Prop}(q:R (vD z) H):wU K (.str z) H R:=.inr (.inr ⟨z,rfl,q⟩)
end
theorem vV{z:Str}{g:TG}{tb:TS}{D:eU}{σ:St}{H:Hp}(Pv:Nat→St→Hp→Prop)(h0:Pv 0 σ H)
  (hs:∀i c σ H,z.cps.toList[i]?=some c→Pv i σ H→g (.str ⟨#[c]⟩) σ H fun σ2 H2=>tb { D with nx:=Pv (i+1),ct:=Pv (i+1),bk:=D.nx } σ2 H2) (hd:∀σ H,Pv z.length σ H→D.nx σ H) :
  ∃W:Nat→Nat→St→Hp→Prop,(∃m,W 0 m σ H)∧∀i m σ H,W i m σ H→
   ((vD z).stop i H∧D.nx σ H)∨((vD z).go i H∧∃N:St→Hp→Prop,(∀σ' H',N σ' H'→∃m',m' < m∧W (i+1) m' σ' H')∧∀x H',(vD z).yld i H x H'→g x σ H' fun σ2 H2=>tb { D with nx:=N,ct:=N,bk:=D.nx } σ2 H2):=by
 refine⟨fun i m σ H=>m=z.length - i∧i≤z.length∧Pv i σ H,⟨z.length,by simp,ab1 _,h0⟩,?_⟩;rintro i m σ H ⟨rfl,hi,p⟩
 by_cases hlt:i < z.length
 ·refine .inr ⟨hlt,Pv (i+1),fun σ' H' p'=>⟨z.length - (i+1),by omega,rfl,hlt,p'⟩,fun x H' y=>?_⟩
  obtain⟨e,c,hc,e2⟩:=y;subst e e2;exact hs i c σ _ (by simpa using hc) p
 ·have e:i=z.length:=by omega
  subst e;exact .inl ⟨rfl,hd σ H p⟩
section
variable {n:Nat} {js:List Nat} {g:TG} {tt:TT} {te:TE} {σ:St} {H:Hp} {F:List V→Hp→Prop}
abbrev qC(J:It)(n:Nat)(js:List Nat)(g:TG)(tt:TT)(te:TE)(σ:St)(H:Hp)(F:List V→Hp→Prop):Prop:=
 ∃W:Nat→Nat→List V→Hp→Prop,(∃m,W 0 m [] H)∧∀i m ys H,W i m ys H→(J.stop i H∧F ys H)∨
  (J.go i H∧ys.length < sizeLine∧∃N:List V→Hp→Prop,(∀ys' H',N ys' H'→∃m',m' < m∧W (i+1) m' ys' H')∧∀x H',J.yld i H x H'→g x (cσ n js σ) H' fun σ2 H2=>tt σ2 H2 fun b H3=>if b=true then te σ2 H3 fun y H4=>N (ys++[y]) H4 else N ys H3)
abbrev kI(n:Nat)(js:List Nat)(g:TG)(tt:TT)(te:TE)(σ:St)(x:V)(ys:List V)(H:Hp)(N:List V→Hp→Prop):Prop:=
 g x (cσ n js σ) H fun σ2 H2=>tt σ2 H2 fun b H3=>if b=true then te σ2 H3 fun y H4=>N (ys++[y]) H4 else N ys H3
theorem pO{lo:Int}{k:Nat}(Pv:Nat→List V→Hp→Prop)(hk:k≤sizeLine)(h0:Pv 0 [] H)(hn:∀i ys H,Pv i ys H→ys.length≤i)
  (hs:∀i ys H,i < k→Pv i ys H→kI n js g tt te σ (.int (lo+i)) ys H (Pv (i+1))) (hd:∀ys H,Pv k ys H→F ys H):qC (vC lo k) n js g tt te σ H F:=by
 refine⟨fun i m ys H=>m=k - i∧i≤k∧Pv i ys H,⟨k,by simp,ab1 _,h0⟩,?_⟩;rintro i m ys H ⟨rfl,hi,p⟩
 by_cases hlt:i < k
 ·refine .inr ⟨hlt,aa5 (hn i ys H p) (aa6 hlt hk),Pv (i+1),fun σ' H' p'=>⟨k - (i+1),by omega,rfl,hlt,p'⟩,fun x H' y=>?_⟩
  obtain⟨e,y⟩:=y;subst e y;exact hs i ys _ hlt p
 ·have e:i=k:=by omega
  subst e;exact .inl ⟨aa3 _,hd ys H p⟩
theorem rP{K:Frag}{a:Addr}{xs:List V}(Pv:Nat→List V→Hp→Prop)(hk:xs.length≤sizeLine)(h0:Pv 0 [] H)(hn:∀i ys H,Pv i ys H→ys.length≤i)(hl:∀i ys H,Pv i ys H→bf K H a xs)
  (hs:∀i x ys H,xs[i]?=some x→Pv i ys H→kI n js g tt te σ x ys H (Pv (i+1))) (hd:∀ys H,Pv xs.length ys H→F ys H):qC (sX K a) n js g tt te σ H F:=by
 refine⟨fun i m ys H=>m=xs.length - i∧i≤xs.length∧Pv i ys H,⟨xs.length,by simp,ab1 _,h0⟩,?_⟩;rintro i m ys H ⟨rfl,hi,p⟩;have q:=hl i ys H p
 by_cases hlt:i < xs.length
 ·refine .inr ⟨⟨xs,xs[i],q,by simp [hlt]⟩,aa5 (hn i ys H p) (aa6 hlt hk),Pv (i+1),fun σ' H' p'=>⟨xs.length - (i+1),by omega,rfl,hlt,p'⟩,fun x H' y=>?_⟩
  obtain⟨e,y⟩:=y;subst e;exact hs i x ys _ (y xs q) p
 ·have e:i=xs.length:=by omega
  subst e;exact .inl ⟨⟨xs,q,aa3 _⟩,hd ys H p⟩
theorem tH{z:Str}(Pv:Nat→List V→Hp→Prop)(hk:z.length≤sizeLine)(h0:Pv 0 [] H)(hn:∀i ys H,Pv i ys H→ys.length≤i)
  (hs:∀i c ys H,z.cps.toList[i]?=some c→Pv i ys H→kI n js g tt te σ (.str ⟨#[c]⟩) ys H (Pv (i+1))) (hd:∀ys H,Pv z.length ys H→F ys H):qC (vD z) n js g tt te σ H F:=by
 refine⟨fun i m ys H=>m=z.length - i∧i≤z.length∧Pv i ys H,⟨z.length,by simp,ab1 _,h0⟩,?_⟩;rintro i m ys H ⟨rfl,hi,p⟩
 by_cases hlt:i < z.length
 ·refine .inr ⟨hlt,aa5 (hn i ys H p) (aa6 hlt hk),Pv (i+1),fun σ' H' p'=>⟨z.length - (i+1),by omega,rfl,hlt,p'⟩,fun x H' y=>?_⟩
  obtain⟨e,c,hc,e2⟩:=y;subst e e2;exact hs i c ys _ (by simpa using hc) p
 ·have e:i=z.length:=by omega
  subst e;exact .inl ⟨rfl,hd ys H p⟩
end
theorem sJ(xs:Array Nat):∀(n:Nat) (acc:Array Nat),((List.replicate n xs).foldl (· ++ ·) acc).size=acc.size+n * xs.size
 | 0,acc=>by simp
 | n+1,acc=>by
  rw [ad1,ag5,sJ xs n,ai6,ai8];omega
theorem lh(xs:Array Nat):∀(n:Nat) (acc:Array Nat),((List.replicate n xs).foldl (· ++ ·) acc).toList=acc.toList++(List.replicate n xs.toList).flatten
 | 0,acc=>by simp
 | n+1,acc=>by
  rw [ad1,ag5,lh xs n,ad1,af9,Array.toList_append,af3]
def dR(z:Str)(k:Int):Str:=if k < 1 then Str.empty else if (k == 1 || z.length == 0)=true then z else⟨(List.replicate k.toNat z.cps).foldl (· ++ ·) #[]⟩
theorem jL(z:Str)(k:Int):(dR z k).cps.toList=(List.replicate k.toNat z.cps.toList).flatten:=by
 unfold dR
 split
 ·have e:k.toNat=0:=by omega
  rw [e];rfl
 ·split
  ·rename_i h1 h2
   rw [ag7]at h2;rcases h2 with h2 | h2
   ·have e:k=1:=by simpa using h2
    subst e;simp
   ·have e:z.cps.size=0:=by simpa [Str.length]using h2
    have e2:z.cps.toList=[]:=by
     rw [←ae3];simpa using e
    rw [e2];simp
  ·simpa using lh z.cps k.toNat #[]
theorem oY(z:Str)(k:Int):(dR z k).length=k.toNat * z.length:=by
 have e:(dR z k).length=(dR z k).cps.toList.length:=by simp [Str.length]
 rw [e,jL,mF];simp [Str.length]
section
variable {X:Cx} {a b c:Expr} {ta tb tc:TE} {pos:Pos}
theorem op_mulB:cI X (binaryOp .Mult) (rI IntMulOk fun i j=>.int (i * j)):=Af fun _ _ _ _ _ _ _ hc q=>mul_int q hc
theorem op_mul_str:cI X (binaryOp .Mult) (fun x y H Q=>∃z k,x=.str z∧y=.int k∧(-1000000≤k∧k≤1000000∧z.length≤16)∧Q (.str (dR z k)) H):=by
 intro pins s σ H x y v u Q I rx ry h;obtain⟨z,k,rfl,rfl,⟨h2,h1,h3⟩,q⟩:=h;obtain⟨t,rfl⟩:=rx;obtain⟨t',rfl⟩:=ry;have hs:sizeLine=16777216:=sizeLine_eq;have hl:=oY z k;have hb:z.length * k.toNat≤16 * 1000000:=Nat.mul_le_mul h3 (by omega);rw [ai9]at hl;have fin:∀t' tk,EP X pins σ Q (.str (dR z k) t') { s with toks:=tk }:=fun t' tk=>⟨.str _,H,I.tok _,⟨t',rfl⟩,q⟩;refine P.mul_str ?_ (fun h4 h5=>?_) (fun h4 h5=>?_) ?_
 ·have e1:¬k < -(2 ^ 63:Int):=by omega
  have e2:¬k≥2 ^ 63:=by omega
  rw [decide_eq_false e1,decide_eq_false e2];rfl
 ·have h6:(16:Int)≤(2 ^ 63 - 1) / k:=by
   rw [Int.le_ediv_iff_mul_le (by omega)];omega
  omega
 ·unfold Builtin.Str.tooLong
  exact decide_eq_false (by omega)
 ·unfold dR at fin hl
  by_cases h4:k < 1
  ·rw [if_pos h4]at fin ⊢
   exact⟨by decide,fin _ _⟩
  ·rw [if_neg h4]at fin hl ⊢
   by_cases h5:(k == 1 || z.length == 0)=true
   ·rw [if_pos h5]at fin ⊢
    exact fin t s.toks
   ·rw [if_neg h5]at fin hl ⊢
    exact⟨by omega,fin _ _⟩
def iF:R2:=fun x y H Q=>rI IntMulOk (fun i j=>.int (i * j)) x y H Q∨(∃z k,x=.str z∧y=.int k∧(-1000000≤k∧k≤1000000∧z.length≤16)∧Q (.str (dR z k)) H)∨wY x y H Q
theorem opMul:cI X (binaryOp .Mult) iF:=op_mulB.or (op_mul_str.or yr)
theorem oS{i j:Int}{H:Hp}{Q:VK}:iF (.int i) (.int j) H Q↔IntMulOk i j∧Q (.int (i * j)) H:=by
 simp [iF,rI,wY]
theorem oU{z:Str}{j:Int}{H:Hp}{Q:VK}:iF (.str z) (.int j) H Q↔(-1000000≤j∧j≤1000000∧z.length≤16)∧Q (.str (dR z j)) H:=by
 simp [iF,rI,wY]
def cE(K:Frag):R2:=fun x y H Q=>oR (fun i j=>.int (i+j)) x y H Q∨(∃i j,x=.str i∧y=.str j∧i.length+j.length≤sizeLine∧Q (.str (i++j)) H)∨wM x y H Q∨qX K x y H Q
theorem zG:cI X (binaryOp .Add) (cE X.K):=op_add.or (op_add_str.or (op_cat.or wz))
theorem jJ{K:Frag}{i j:Int}{H:Hp}{Q:VK}:cE K (.int i) (.int j) H Q↔Q (.int (i+j)) H:=by
 simp [cE,oR,wM,qX]
theorem u0{K:Frag}{i j:Str}{H:Hp}{Q:VK}:cE K (.str i) (.str j) H Q↔i.length+j.length≤sizeLine∧Q (.str (i++j)) H:=by
 simp [cE,oR,wM,qX]
theorem cX{K:Frag}{l b:Addr}{xs zs:List V}{H:Hp}{Q:VK}(h1:H l=some (.lst xs))(h2:H b=some (.lst zs))(hz:xs.length+zs.length≤sizeLine)(q:∀p,H p=none→Q (.ref p) (upd H p (.lst (xs++zs)))):cE K (.ref l) (.ref b) H Q:=
 .inr (.inr (.inl ⟨l,b,xs,zs,rfl,rfl,h1,h2,hz,q⟩))
def yH:V→Option Int→Option Int→Hp→VK→Prop:=fun x lo hi H Q=>∃z,x=.str z∧z.length≤sizeLine∧Q (.str (Txt.slice z lo hi)) H
theorem yM:vE X yH:=by
 intro pins s σ H x v vl vu lo hi sl Q I rx hs pl pu h;obtain⟨z,rfl,hz,q⟩:=h;obtain⟨t,rfl⟩:=rx;have fin:∀t' tk,EP X pins σ Q (.str (Txt.slice z lo hi) t') { s with toks:=tk }:=fun t' tk=>⟨.str _,H,I.tok _,⟨t',rfl⟩,q⟩;refine⟨"str",_,F.slot_str_getitem.lookup,typeIs_str _ _ _,?_⟩
 cases pl with
 | none=>cases pu with
  | none=>exact wpAny_getItem_str_slice (l:=none) (u:=none) (st:=none) hs rfl (post_val_or_str ⟨aa7 (Txt.slice_le z _ _) hz,fun t' k=>fin t' k⟩)
  | int j u=>exact wpAny_getItem_str_slice (l:=none) (u:=some (j,u)) (st:=none) hs rfl (post_val_or_str ⟨aa7 (Txt.slice_le z _ _) hz,fun t' k=>fin t' k⟩)
 | int i u=>cases pu with
  | none=>exact wpAny_getItem_str_slice (l:=some (i,u)) (u:=none) (st:=none) hs rfl (post_val_or_str ⟨aa7 (Txt.slice_le z _ _) hz,fun t' k=>fin t' k⟩)
  | int j u'=>exact wpAny_getItem_str_slice (l:=some (i,u)) (u:=some (j,u')) (st:=none) hs rfl (post_val_or_str ⟨aa7 (Txt.slice_le z _ _) hz,fun t' k=>fin t' k⟩)
def qi(K:Frag):V→Option Int→Option Int→Hp→VK→Prop:=fun x lo hi H Q=>yG K x lo hi H Q∨yI K x lo hi H Q∨yH x lo hi H Q
theorem slA:vE X (qi X.K):=sl_list.or (sl_tup.or yM)
theorem yF{K:Frag}{z:Str}{lo hi:Option Int}{H:Hp}{Q:VK}:qi K (.str z) lo hi H Q↔z.length≤sizeLine∧Q (.str (Txt.slice z lo hi)) H:=by
 simp [qi,yG,yI,yH]
theorem bj{K:Frag}{a:Addr}{xs:List V}{lo hi:Option Int}{H:Hp}{Q:VK}(h:bf K H a xs)(q:∀p,H p=none→Q (.ref p) (upd H p (.lst (gs xs lo hi)))):qi K (.ref a) lo hi H Q:=.inl ⟨a,xs,rfl,h,q⟩
theorem ixA:sY X (yB X.K):=ya
theorem zU{K:Frag}{z:Str}{i:Int}{H:Hp}{Q:VK}:yB K (.str z) (.int i) H Q↔z.length≤sizeLine∧∃c,dG z.cps.toList i=some c∧Q (.str ⟨#[c]⟩) H:=by
 simp [yB,yC,yE,yD]
theorem aX{K:Frag}{p:Addr}{xs:List V}{i:Int}{v:V}{H:Hp}{Q:VK}(h:bf K H p xs)(hv:dG xs i=some v)(q:Q v H):yB K (.ref p) (.int i) H Q:=.inl ⟨p,xs,i,v,rfl,rfl,h,hv,q⟩
theorem AA:cI X (compareOp .Eq) lE:=zI
theorem AD:cI X (compareOp .NotEq) lF:=zL
theorem eR:cI X (compareOp .Lt) (oR fun i j=>.bl (decide (i < j))):=zK
theorem rEq_ii{i j:Int}{H:Hp}{Q:VK}:lE (.int i) (.int j) H Q↔Q (.bl (decide (i=j))) H:=by simp [lE,pb]
theorem rNe_ii{i j:Int}{H:Hp}{Q:VK}:lF (.int i) (.int j) H Q↔Q (.bl (!decide (i=j))) H:=by simp [lF,pb]
theorem m6{i j:Str}{H:Hp}{Q:VK}:lE (.str i) (.str j) H Q↔Q (.bl (decide (i=j))) H:=by simp [lE,pb]
theorem rNe_ss{i j:Str}{H:Hp}{Q:VK}:lF (.str i) (.str j) H Q↔Q (.bl (!decide (i=j))) H:=by simp [lF,pb]
theorem u3{i j:Bool}{H:Hp}{Q:VK}:lE (.bl i) (.bl j) H Q↔Q (.bl (decide (i=j))) H:=by simp [lE,pb]
theorem u6{i j:Bool}{H:Hp}{Q:VK}:lF (.bl i) (.bl j) H Q↔Q (.bl (!decide (i=j))) H:=by simp [lF,pb]
def u4(K:Frag):R2:=fun x y H Q=>(∃i j,x=.str i∧y=.str j∧Q (.bl (!(Builtin.Str.occurrences j i 0 j.length 1).isEmpty)) H)∨y6 K false x y H Q
def fH(K:Frag):R2:=fun x y H Q=>(∃i j,x=.str i∧y=.str j∧Q (.bl (!(!(Builtin.Str.occurrences j i 0 j.length 1).isEmpty))) H)∨y6 K true x y H Q
theorem AB:cI X (compareOp .In) (u4 X.K):=op_in_str.or sD
theorem wy:cI X (compareOp .NotIn) (fH X.K):=op_notin_str.or mV
theorem yz{K:Frag}{c:Nat}{z:Str}{H:Hp}{Q:VK}:u4 K (.str ⟨#[c]⟩) (.str z) H Q↔Q (.bl (decide (c∈z.cps.toList))) H:=by
 simp [u4,y6,StrLaws.found_one]
theorem sF{K:Frag}{c:Nat}{z:Str}{H:Hp}{Q:VK}:fH K (.str ⟨#[c]⟩) (.str z) H Q↔Q (.bl (!decide (c∈z.cps.toList))) H:=by
 have e':(Builtin.Str.occurrences z ⟨#[c]⟩ 0 z.length 1).isEmpty=!decide (c∈z.cps.toList):=by
  rw [←StrLaws.found_one z c,Bool.not_not]
 simp [fH,y6,e']
theorem rM:bR X (.builtin "len") (fun xs H Q=>(∃z,xs=[.str z]∧z.length≤sizeLine∧Q (.int z.length) H)∨∃p ys,xs=[.ref p]∧(bf X.K H p ys∨eT X.K H p ys)∧Q (.int ys.length) H):=call_len_str.or mv
theorem call_int_text:bR X (.type "int") (fun xs H Q=>∃z n,xs=[.str z]∧intText? z=some n∧z.length≤640∧Q (.int n) H):=by
 intro pins s σ H xs us Q I r h;obtain⟨z,n,rfl,hn,hl,q⟩:=h;obtain⟨u,rfl,ru⟩:=dP r;obtain⟨t,rfl⟩:=ru;exact PySem.W.KIN.call_text hn hl ⟨.int n,H,I.tok _,⟨_,rfl⟩,q⟩
theorem dU:bR X (.type "int") (fun xs H Q=>(∃z n,xs=[.str z]∧intText? z=some n∧z.length≤640∧Q (.int n) H)∨((∃i,xs=[.int i]∧Q (.int i) H)∨∃k,xs=[.bl k]∧Q (.int (if k then 1 else 0)) H)):=call_int_text.or rL
theorem fP:sQ X "str.startswith" (fun x xs H Q=>∃z y,x=.str z∧xs=[.str y]∧Q (.bl (Txt.startswith z y)) H):=by
 intro pins s σ H x xs v us Q I rx r h;obtain⟨z,y,rfl,rfl,q⟩:=h;obtain⟨t,rfl⟩:=rx;obtain⟨u,rfl,t',rfl⟩:=dP r;exact SC.startswith ⟨.bl _,H,I,rfl,q⟩
theorem nR:bR X (.builtin "isinstance") (fun xs H Q=>∃x n t b,xs=[x,.ty n]∧fU X.K H x t∧kitOne X.K t (.type n)=some b∧Q (.bl b) H):=by
 intro pins s σ H xs us Q I r h;obtain⟨x,n,t,b,rfl,ty,e,q⟩:=h;obtain⟨u,w',rfl,ru,rw'⟩:=rD r;cases rw';exact lp I ru ty e fun tk=>⟨.bl b,H,I.tok _,rfl,q⟩
theorem j0:∀{bs:List Bool} {us:List Value},aS (bs.map V.bl) us→us=bs.map Value.bool
 | [],_,.nil=>rfl
 | b::bs,_,.cons r t=>by
  have e:_=Value.bool b:=r;rw [ac1,e,j0 t]
theorem sG(bs:List Bool):(List.range bs.length).all (fun i=>bs.getD i true)=bs.all id:=by
 induction bs with
 | nil=>rfl
 | cons b bs ih=>
  rw [aa8,List.range_succ_eq_map,ac6,ah0,ac6,←ih];rfl
theorem rK(hc:X.calm=true):bR X (.builtin "all") (fun xs H Q=>∃(p:Addr) (bs:List Bool),xs=[.ref p]∧bf X.K H p (bs.map V.bl)∧Q (.bl (bs.all id)) H):=by
 intro pins s σ H xs us Q I r h;obtain⟨p,bs,rfl,hq,q⟩:=h;obtain⟨u,rfl,ru⟩:=dP r;cases ru;obtain⟨its,rv,pl,hz⟩:=I.list hq;have e:=j0 rv;subst e;have hh:X.A.in1.handled=none:=I.ok.hd hc;refine call_all_walk (wpAny_pyIter_list pl.isList ⟨s.heap.objs.size,[s.heap.objs.size,p],[s.heap.objs.size],_,_,_,fun i=>bs.getD i true,rfl,Walks.list hh _ p ?_ _,⟨⟨_,ab6 _ rfl,rfl,rfl⟩,pl.isList.push _⟩,?_,fun h' tk hk=>?_⟩)
 ·obtain⟨o,n,e,_⟩:=pl
  exact ab4 (aa9 e)
 ·intro i v s' Q' E' hv hQ'
  have hv':(bs.map Value.bool)[i]?=some v:=by simpa using hv
  rw [ac5]at hv'
  cases hb:bs[i]? with
  | none=>rw [hb]at hv';cases hv'
  | some b=>
   rw [hb]at hv';cases hv';have hQ2:Q' (bs.getD i true) s':=hQ';rw [ac4,hb]at hQ2;exact wpAny_truthy_bool hQ2
 ·refine⟨.bl (bs.all id),H,I.kept (h':=h') (t':=tk) fun b o e=>hk b o ?_ (aa2 _ e),?_,q⟩
  ·intro z
   have z':b=s.heap.objs.size:=by simpa using z
   exact absurd (aa9 e) (by rw [z'];exact ae2 _)
  ·show Value.bool _=Value.bool _
   rw [←sG];simp
theorem d8{x:Str}{v:V}{pos:Pos}(h:∃u,X.mg x=some u∧aQ v u)(hg:Gl X x:=by rfl)(hd:(x == ("__debug__":Str))=false:=by decide):PE X (.Name x pos) (tC v):=
 let ⟨_,hm,r⟩:=h;wF hg hm r hd
end
structure bW(P:Program)(w:World)(K:Frag)(mg:Str→Option Value)(base:Heap)(x:Str)(k:Nat)(ps:List Str)(sp:Sp):Prop where
 ex:∃(f:Addr) (fd:FuncData),aC P w K mg base bC k f fd ps sp∧mg x=some (.ref f)∧keepIn K (.ref f)=true∧cf K fd ps []
section
variable {X:Cx} {k:Nat} {ps:List Str} {sp:Sp} {x:Str} {p pos:Pos} {e:Expr} {es:List Expr} {t:TA}
theorem aB(d:bW X.prog X.w X.K X.mg X.base x k ps sp)(hr:b8 k X.A)(hg:Gl X x)(ha:PA X (e::es) t)(hdb:(x == ("__debug__":Str))=false:=by decide)
  (he:starEach (e::es) X.env=(false,eval e X.env)::starEach es X.env:=by rfl) (hpl:(backTo pos (starEach es X.env)).any (·.1)=false:=by rfl):PE X (.Call (.Name x p) (e::es) [] pos) (lW sp [] E0 t):=
 let ⟨_,_,F,hm,hk,hb⟩:=d.ex;wC F hr hg hm hk hb .nil lC ha hdb he hpl
end
end L2
namespace L3
open PySem PySem.Spec PyProof.Rows
section
variable {prog:Program} {w:World} {A:Around} {E:Value→Shared→Prop} {s:Shared}
end
section
variable {prog:Program} {w:World} {A:Around} {E:Value→Shared→Prop} {s:Shared} {z TI TO i1 i2:Addr} {f1 f2:List Addr} {n1 n2 k:Nat} {P1 P2:Nat→Value→Prop} {S1 S2:Nat→Heap→Prop} {a b:Value}
end
def sW(l:Bool)(h:Heap)(a:Addr)(xs:Array Value):Prop:=if l=true then h.IsList a xs else h.IsTuple a xs
theorem sW.push{l:Bool}{h:Heap}{a:Addr}{xs:Array Value}(q:sW l h a xs)(o:Obj):sW l (h.push o) a xs:=by
 cases l
 ·exact Heap.IsTuple.push (show h.IsTuple a xs from q) o
 ·exact Heap.IsList.push (show h.IsList a xs from q) o
section
variable {prog:Program} {w:World} {A:Around} {E:Value→Shared→Prop} {s:Shared}
end
end L3
namespace L2
open PySem PySem.Spec PyProof.Rows
def nP(K:Frag)(l:Bool)(H:Hp)(a:Addr)(xs:List V):Prop:=if l=true then bf K H a xs else eT K H a xs
def Itz(K:Frag)(l1 l2:Bool)(a1 a2:Addr):It:=
 ⟨fun i H=>∃xs ys x y,nP K l1 H a1 xs∧nP K l2 H a2 ys∧xs[i]?=some x∧ys[i]?=some y,
  fun i H v H'=>∃p x y,v=.ref p∧H p=none∧H'=upd H p (.tup [x,y])∧(∀xs,nP K l1 H a1 xs→xs[i]?=some x)∧∀ys,nP K l2 H a2 ys→ys[i]?=some y,
  fun i H=>∃xs ys,nP K l1 H a1 xs∧nP K l2 H a2 ys∧(i=xs.length∨(i < xs.length∧i=ys.length))⟩
def zw(K:Frag)(ta:TA):TI:=fun σ H R=>ta σ H fun vs H1=>∃l1 l2 a1 a2,vs=[.ref a1,.ref a2]∧(∃xs,nP K l1 H1 a1 xs)∧(∃ys,nP K l2 H1 a2 ys)∧R (Itz K l1 l2 a1 a2) H1
end L2
namespace L2
open PySem PySem.Spec PyProof.Rows
def Ite(K:Frag)(a:Addr):It:=
 ⟨fun i H=>∃xs x,bf K H a xs∧xs[i]?=some x,
  fun i H v H'=>∃p x,v=.ref p∧H p=none∧H'=upd H p (.tup [.int i,x])∧∀xs,bf K H a xs→xs[i]?=some x,
  fun i H=>∃xs,bf K H a xs∧i=xs.length⟩
def xC(K:Frag)(ta:TA):TI:=fun σ H R=>ta σ H fun vs H1=>∃a,vs=[.ref a]∧(∃xs,bf K H1 a xs)∧R (Ite K a) H1
end L2
namespace L2
open PySem PySem.W PySem.Spec PySem.Calls PyProof.Rows
def GB:Nat:=1048576
theorem gv:∀{ns:List Int},WData.weightAll (ns.map WData.int)≤2 ^ 20→∀x∈ns,x.natAbs < 2 ^ GB
 | [],_,_,h=>nomatch h
 | n::ns,hw,x,h=>by
  have e:WData.weightAll ((n::ns).map WData.int)=(if n == 0 then 0 else n.natAbs.log2+1)+1+WData.weightAll (ns.map WData.int):=by
   simp only [ac1,WData.weightAll,WData.weight]
  rw [e]at hw;rcases ab7.mp h with rfl | h
  ·by_cases h0:x=0
   ·subst h0;exact Nat.two_pow_pos _
   ·have hb:(x == 0)=false:=by simpa using h0
    rw [hb]at hw
    have hl:x.natAbs.log2 < GB:=by
     have:(2:Nat) ^ 20=GB:=by decide
     rw [←this];simp only [ae9,if_false]at hw;omega
    exact(Nat.log2_lt (by omega)).mp hl
  ·exact gv (ns:=ns) (by omega) x h
theorem sH{ns:List Int}(h:WData.layableAll [WData.list (ns.map WData.int)]=true):∀x∈ns,x.natAbs < 2 ^ GB:=by
 have h1:=(layableW_iff.mp (layableW_arg h _ ab3)).2.2;exact gv (by simpa only [WData.weight]using h1)
theorem walk_ofB{l:PySem.W.OpenLaw}{n k:Nat}{q:Program}{loose:List Str}{XP:(Str→Option Value)→Heap→Prop}{YP:World→Heap→Prop}{d:DefRec}{K:Params→Frag}{CX:World→nM}{sp:World→Sp}{x:Str}
  (hn:l.most=some n) (hn2:n≤sizeLine) (hdf:d.params.defaults=[]) (hr:b8 k callerA)
  (hY:∀(w:World) (h:Heap),YP w h→(K w.params).In h)
  (F:∀(w:World) (mg:Str→Option Value) (fa:Addr) (h:Heap),(K w.params).In h→h.Ns mainGlobals mg→mg d.name=some (.ref fa)→
   ∃fd:FuncData,(∀(s:Shared) (u:Value),BindsTo s fd ⟨[u],[]⟩ [(x,u)])∧∀base:Heap,(K w.params).In base→base.Ns mainGlobals mg→aC l.prog w (K w.params) mg base (CX w) k fa fd [x] (sp w))
  (hsp:∀(w:World) (H:Hp) (a:Addr) (ns:List Int),ns.length≤n→(∀x∈ns,x.natAbs < 2 ^ GB)→vJ H→bf (K w.params) H a (ns.map V.int)→sp w [.ref a] H (fun v _=>v=.bl true) fun _ _ _=>False)
  (hCX:∀(w:World) (H:Hp) (s:Shared) (e:Value) (s':Shared),CX w [] H s (fun _ _ _=>False) e s'→False) :
  PySem.W.WalkO q loose XP YP l.row.toRowW d [] (fun f vs=>PySem.call f vs):=by
 intro w s₀ s₁ mg mb G Y fa o pm cd doc dV kV ho hd hcd hD hmg hg args vals as hpre hlay hrd hwl hlo;obtain rfl:dV=.none:=Dflts.none hD hdf;obtain rfl:kV=.none:=Dflts.noKw hD;obtain⟨a,vs,ns,rfl,rfl,hobj,hints,hlen⟩:=Att.script_of hn hpre hwl;have KX:=hY w _ Y;obtain⟨fd,hb,hF⟩:=F w mg fa _ KX G.T.g hmg;refine enter_call (codeAny_mono (ow KX G.T.g G.T.b G.T.builtins G.T.nolimit hg hobj hints (aa7 hlen hn2) hr hF hb (fun H hO hS=>hsp w H a ns hlen (sH hlay) hO hS) fun H e s'=>hCX w H s₁ e s') fun r s' hq=>?_);obtain⟨rfl,h2,h3,h4⟩:=hq;exact⟨.inl ⟨.bool true,.bool true,[],rfl,fun _=>rfl,.bool true,Att.post_true l _,fun _=>⟨List.Pairwise.nil,fun _ hm=>(nomatch hm)⟩⟩,h2,h3,h4⟩
structure bL(K:Frag)(x:Str)(st:Stmt)(f:Addr)(fd:FuncData):Prop where
 ns:nsIn K mainGlobals x=some (some (.ref f))
 fn:cj K x x st f fd
theorem defAt_mk{K:Frag}{x:Str}{st:Stmt}{f:Addr}{oc:Value}{od an:Option Addr}{osl:Array (Option Value)}{kV doc pm cdv ct:Value}(a:nsIn K mainGlobals x=some (some (.ref f)))
  (l:K.lookup f=some ⟨oc,od,.func (fnOf x x (bV st) (bN st) (aq st) .none kV doc pm an cdv ct),osl⟩) (c:codeIn K cdv x=true) (k:keepIn K (.ref f)=true):∃f fd,bL K x st f fd:=
 ⟨f,_,a,fun_mk l c k⟩
theorem bL.df{P:Program}{w:World}{K:Frag}{mg:Str→Option Value}{base h:Heap}{x:Str}{st:Stmt}{f:Addr}{fd:FuncData}{k:Nat}{ps:List Str}{sp:Sp}(A:bL K x st f fd)(X:K.In h)(G:h.Ns mainGlobals mg)
  (ok:aC P w K mg base bC k f fd ps sp) (b:cf K fd ps []):bW P w K mg base x k ps sp:=⟨f,fd,ok,mg_of X G A.ns,A.fn.kp,b⟩
end L2
namespace L2
open PySem PySem.Spec PyProof.Rows
def td(g:TG)(tb:TS)(D:eU)(σ:St)(J:It)(H:Hp):Prop:=∃W:Nat→Nat→St→Hp→Prop,(∃m,W 0 m σ H)∧∀i m σ H,W i m σ H→
 (J.stop i H∧D.nx σ H)∨(J.go i H∧∃N:St→Hp→Prop,(∀σ' H',N σ' H'→∃m',m' < m∧W (i+1) m' σ' H')∧∀x H',J.yld i H x H'→g x σ H' fun σ2 H2=>tb { D with nx:=N,ct:=N,bk:=D.nx } σ2 H2)
theorem rq(wi:TI)(g:TG)(tb:TS)(D:eU)(σ:St)(H:Hp):zZ wi g tb D σ H=wi σ H (fun J H1=>td g tb D σ J H1):=rfl
def qB(n:Nat)(js:List Nat)(g:TG)(tt:TT)(te:TE)(σ:St)(F:List V→Hp→Prop)(J:It)(H:Hp):Prop:=qC J n js g tt te σ H F
theorem px(n:Nat)(js:List Nat)(wi:TI)(g:TG)(tt:TT)(te:TE)(σ:St)(H:Hp)(Q:VK):
  vh n js wi g tt te σ H Q=wi σ H (fun J H1=>qB n js g tt te σ (fun ys H2=>∀p,H2 p=none→Q (.ref p) (upd H2 p (.lst ys))) J H1):=rfl
section
variable {g:TG} {tb:TS} {D:eU} {σ:St} {H:Hp} {K:Frag} {a:Addr} {xs:List V}
theorem sd(Pv:Nat→St→Hp→Prop)(h0:Pv 0 σ H)(hl:∀i σ H,i≤xs.length→Pv i σ H→bf K H a xs)
  (hs:∀i x σ H,xs[i]?=some x→Pv i σ H→g x σ H fun σ2 H2=>tb { D with nx:=Pv (i+1),ct:=Pv (i+1),bk:=D.nx } σ2 H2) (hd:∀σ H,Pv xs.length σ H→D.nx σ H):td g tb D σ (sX K a) H:=tZ Pv h0 hl hs hd
theorem fZ{lo:Int}{n:Nat}(Pv:Nat→St→Hp→Prop)(h0:Pv 0 σ H)
  (hs:∀i σ H,i < n→Pv i σ H→g (.int (lo+i)) σ H fun σ2 H2=>tb { D with nx:=Pv (i+1),ct:=Pv (i+1),bk:=D.nx } σ2 H2) (hd:∀σ H,Pv n σ H→D.nx σ H):td g tb D σ (vC lo n) H:=rW Pv h0 hs hd
theorem uC{z:Str}(Pv:Nat→St→Hp→Prop)(h0:Pv 0 σ H)
  (hs:∀i c σ H,z.cps.toList[i]?=some c→Pv i σ H→g (.str ⟨#[c]⟩) σ H fun σ2 H2=>tb { D with nx:=Pv (i+1),ct:=Pv (i+1),bk:=D.nx } σ2 H2) (hd:∀σ H,Pv z.length σ H→D.nx σ H):td g tb D σ (vD z) H:=vV Pv h0 hs hd
theorem se(h:bf K H a [])(hd:D.nx σ H):td g tb D σ (sX K a) H:=⟨fun i m σ' H'=>i=0∧σ'=σ∧H'=H,⟨0,rfl,rfl,rfl⟩,by
 rintro i m σ' H' ⟨rfl,rfl,rfl⟩
 exact .inl ⟨⟨[],h,aa3 _⟩,hd⟩⟩
end
section
variable {n:Nat} {js:List Nat} {g:TG} {tt:TT} {te:TE} {σ:St} {H:Hp} {F:List V→Hp→Prop} {K:Frag} {a:Addr} {xs:List V}
theorem nW{lo:Int}{k:Nat}(Pv:Nat→List V→Hp→Prop)(hk:k≤sizeLine)(h0:Pv 0 [] H)(hn:∀i ys H,Pv i ys H→ys.length≤i)
  (hs:∀i ys H,i < k→Pv i ys H→kI n js g tt te σ (.int (lo+i)) ys H (Pv (i+1))) (hd:∀ys H,Pv k ys H→F ys H):qB n js g tt te σ F (vC lo k) H:=pO Pv hk h0 hn hs hd
theorem d2(Pv:Nat→List V→Hp→Prop)(hk:xs.length≤sizeLine)(h0:Pv 0 [] H)(hn:∀i ys H,Pv i ys H→ys.length≤i)(hl:∀i ys H,Pv i ys H→bf K H a xs)
  (hs:∀i x ys H,xs[i]?=some x→Pv i ys H→kI n js g tt te σ x ys H (Pv (i+1))) (hd:∀ys H,Pv xs.length ys H→F ys H):qB n js g tt te σ F (sX K a) H:=rP Pv hk h0 hn hl hs hd
theorem rO{z:Str}(Pv:Nat→List V→Hp→Prop)(hk:z.length≤sizeLine)(h0:Pv 0 [] H)(hn:∀i ys H,Pv i ys H→ys.length≤i)
  (hs:∀i c ys H,z.cps.toList[i]?=some c→Pv i ys H→kI n js g tt te σ (.str ⟨#[c]⟩) ys H (Pv (i+1))) (hd:∀ys H,Pv z.length ys H→F ys H):qB n js g tt te σ F (vD z) H:=tH Pv hk h0 hn hs hd
end
theorem tJ{CX:nM}{P:Program}{w:World}{K:Frag}{mg:Str→Option Value}{base:Heap}{N:List Str}{qual:Str}{scope:Scope}{f:Addr}{cd:Value}{A:Around}{outer:List Env}{s:Shared}{H:Hp}{E:XK}:(jf CX P w K mg base N qual scope f cd A outer s H E).K=K:=rfl
theorem xu{X:Cx}{scope:Scope}{own:List Str}{js:List Nat}{C:Addr}{s:Shared}{H:Hp}{ex:List Addr}{pn:List (Addr×Obj)}{E:Value→Shared→Prop}:(j4 X scope own js C s H ex pn E).K=X.K:=rfl
theorem tI(xs:List V){p:Int}(hp:0≤p):gs xs (some p) (some (p+1))=match xs[p.toNat]? with | none=>[] | some x=>[x]:=by
 unfold gs;obtain⟨k,rfl⟩:=ad4 hp
 have e1:((k:Int)+1)=((k+1:Nat):Int):=by omega
 rw [e1,HT.sIx_nat,HT.sIx_nat,ai5]
 by_cases h:k < xs.length
 ·rw [ab8 h,aj5 (by omega),aj5 (by omega),List.drop_eq_getElem_cons h,show k+1 - k=1 by omega]
  rfl
 ·rw [List.getElem?_eq_none (by omega),ai7 (by omega),ai7 (by omega),Nat.sub_self]
  rfl
theorem xU{α:Type}{xs:List α}{i:Int}(h0:0≤i)(h1:i < xs.length):∃v,dG xs i=some v∧xs[i.toNat]?=some v:=by
 obtain⟨k,rfl⟩:=ad4 h0
 have hk:k < xs.length:=by omega
 exact⟨xs[k],aU (ab8 hk),by simp [hk]⟩
theorem iW{α:Type}{xs:List α}{c m:Int}(hm:0 < m)(h:m≤xs.length):∃v,dG xs (c % m)=some v:=by
 have h1:=ac8 c (show m≠0 by omega);have h2:=ad3 c hm;obtain⟨v,e,_⟩:=xU (xs:=xs) h1 (by omega);exact⟨v,e⟩
theorem aH{H:Hp}{q:Addr}{o:HO}(h:H q=none):aw H (upd H q o):=fun b o' e=>by rw [aj (ar e h)];exact e
theorem aw.upd{H H1:Hp}{q:Addr}{o:HO}(s:aw H H1)(h:H1 q=none):aw H (upd H1 q o):=s.trans (aH h)
end L2
namespace L2
open PySem PySem.Spec PyProof.Rows
theorem az(z:Str):z.length=z.cps.toList.length:=by simp [Str.length]
theorem eF{z:Str}{i:Int}(h:0≤i):(Txt.slice z (some i) none).cps.toList=z.cps.toList.drop i.toNat:=by
 by_cases hi:i≤z.cps.toList.length
 ·rw [show Txt.slice z (some i) none=StrLaws.sliceText z (some i) none from rfl,StrLaws.sliceText_from ⟨h,hi⟩]
  show((z.cps.toList.drop i.toNat).take _)=_
  skip
  exact ae5 (by rw [ae0];omega)
 ·have e:Builtin.Str.strSliceIndices (some i) none 1 z.length=Builtin.Str.strSliceIndices (some (z.length:Int)) none 1 z.length:=sliceIdx_lo_beyond z.length (by rw [az];omega)
  have e2:Txt.slice z (some i) none=Txt.slice z (some (z.length:Int)) none:=by unfold Txt.slice;rw [e]
  rw [e2,show Txt.slice z (some (z.length:Int)) none=StrLaws.sliceText z (some (z.length:Int)) none from rfl,StrLaws.sliceText_from ⟨by omega,by rw [az];omega⟩];show((z.cps.toList.drop _).take _)=_;rw [az,ai5,List.drop_length,List.take_nil,List.drop_eq_nil_of_le (by omega)]
theorem jS{z:Str}{i:Int}(h:0≤i):(Txt.slice z none (some i)).cps.toList=z.cps.toList.take i.toNat:=by
 by_cases hi:i≤z.cps.toList.length
 ·rw [show Txt.slice z none (some i)=StrLaws.sliceText z none (some i)from rfl,StrLaws.sliceText_to ⟨h,hi⟩]
  show((z.cps.toList.drop 0).take _)=_;rw [List.drop_zero];rw [Int.sub_zero]
 ·have e:Builtin.Str.strSliceIndices none (some i) 1 z.length=Builtin.Str.strSliceIndices none (some (z.length:Int)) 1 z.length:=sliceIdx_hi_beyond z.length (by rw [az];omega)
  have e2:Txt.slice z none (some i)=Txt.slice z none (some (z.length:Int)):=by unfold Txt.slice;rw [e]
  rw [e2,show Txt.slice z none (some (z.length:Int))=StrLaws.sliceText z none (some (z.length:Int))from rfl,StrLaws.sliceText_to ⟨by omega,by rw [az];omega⟩];show((z.cps.toList.drop 0).take _)=_;rw [az,List.drop_zero,ae5 (by omega),ae5 (by omega)]
theorem qp(z:Str)(c:Nat):Txt.startswith z ⟨#[c]⟩=decide (z.cps.toList.head?=some c):=by
 obtain⟨⟨l⟩⟩:=z
 unfold Txt.startswith
 rw [StrLaws.subAt_eq]
 cases l with
 | nil=>simp [Str.length]
 | cons a l=>
  simp [Str.length];rw [af7];simp
theorem gK(x y:Str):decide (x=y)=decide (x.cps.toList=y.cps.toList):=by
 by_cases h:x=y
 ·subst h;simp
 ·rw [decide_eq_false h]
  symm
  apply decide_eq_false;intro e;apply h;obtain⟨⟨a⟩⟩:=x;obtain⟨⟨b⟩⟩:=y;simp at e;subst e;rfl
theorem ml{α:Type}{xs:List α}{i:Int}{v:α}{P:α→Prop}(h:∀x∈xs,P x)(e:dG xs i=some v):P v:=by
 unfold dG at e
 cases hj:ug xs.length i with
 | none=>rw [hj]at e;cases e
 | some j=>rw [hj]at e;exact h v (ac7 e)
theorem bh{α:Type}{xs:List α}{v:α}(h:xs.head?=some v):dG xs 0=some v:=by
 cases xs with
 | nil=>cases h
 | cons a l=>cases h;exact aU (j:=0) rfl
section
variable {X:Cx}
end
end L2
namespace L2
open PySem PySem.Spec PyProof.Rows
section
variable {X:Cx}
theorem yp(K:Frag)(h:X.K=K:=by rfl):cI X (binaryOp .Add) (cE K):=h▸zG
theorem uL(K:Frag)(h:X.K=K:=by rfl):cI X (compareOp .In) (u4 K):=h▸AB
theorem oM(K:Frag)(h:X.K=K:=by rfl):cI X (compareOp .NotIn) (fH K):=h▸wy
theorem bF(K:Frag)(h:X.K=K:=by rfl):vE X (qi K):=h▸slA
theorem aZ(K:Frag)(h:X.K=K:=by rfl):sY X (yB K):=h▸ixA
theorem d9(K:Frag){tg l:Expr}{tl:TE}(hl:PE X l tl)(h:X.K=K:=by rfl):PI X tg l (zv (wU K) tl):=h▸yw hl
theorem aY(K:Frag)(h:X.K=K:=by rfl):bR X (.builtin "len") (fun xs H Q=>(∃z,xs=[.str z]∧z.length≤sizeLine∧Q (.int z.length) H)∨∃p ys,xs=[.ref p]∧(bf K H p ys∨eT K H p ys)∧Q (.int ys.length) H):=h▸rM
theorem dw(K:Frag)(h:X.K=K:=by rfl):bR X (.builtin "isinstance") (fun xs H Q=>∃x n t b,xs=[x,.ty n]∧fU K H x t∧kitOne K t (.type n)=some b∧Q (.bl b) H):=h▸nR
theorem gW(K:Frag)(hc:X.calm=true)(h:X.K=K:=by rfl):bR X (.builtin "all") (fun xs H Q=>∃(p:Addr) (bs:List Bool),xs=[.ref p]∧bf K H p (bs.map V.bl)∧Q (.bl (bs.all id)) H):=h▸rK hc
theorem cu(K:Frag)(h:X.K=K:=by rfl):bR X (.type "list") (fun xs H Q=>∃p ys,xs=[.ref p]∧(bf K H p ys∨eT K H p ys)∧∀l,H l=none→Q (.ref l) (upd H l (.lst ys))):=h▸mw
theorem cy(K:Frag){o e:Expr}{es:List Expr}{to:TE}{t:TA}{name:Str}{apos cpos:Pos}{T id:String}{r:V→List V→Hp→VK→Prop}(pa:PlainAttrs T)(slot:Slot T name id)(hty:typeOf (.builtin id)=pure (.type "method_descriptor"))(hm:sQ X id r)(ho:PE X o to)(ha:PA X (e::es) t)(hK:X.K=K:=by rfl)
  (hbase:attributeBase o name X.env (eval o X.env)=eval o X.env:=by rfl)
  (hfew:((backTo cpos (starEach (e::es) X.env)).all (fun x=>!x.1) && (backToKw cpos (keywordEach [] X.env)).all (fun x=>x.1.isSome)
   && decide ((e::es).length+([]:List Keyword).length+(if ([]:List Keyword).isEmpty then 0 else 1) < 30))=true:=by rfl)
  (hline:(apos.endLine == cpos.line)=true:=by rfl) (hs:starEach (e::es) X.env=(false,eval e X.env)::starEach es X.env:=by rfl) (hplain:(backTo cpos (starEach es X.env)).any (·.1)=false:=by rfl) :
  PE X (.Call (.Attribute o name apos) (e::es) [] cpos) (Ag K T r to t):=hK▸zM pa slot hty hm ho ha hbase hfew hline hs hplain
def cV:Expr→Option V
 | .Constant (.int i) _ _=>some (.int i)
 | .Constant (.str x) _ _=>some (.str x)
 | .Constant (.bool b) _ _=>some (.bl b)
 | .Constant .none _ _=>some .non
 | _=>none
def AG(vs:List V):TA:=fun _ H Q=>Q vs H
theorem zN{e:Expr}{v:V}(h:cV e=some v):PE X e (tC v):=by
 unfold cV at h
 split at h
 ·cases h;exact ae
 ·cases h;exact aD
 ·cases h;exact fQ
 ·cases h;exact aP
 ·cases h
theorem xh{e:Expr}{es:List Expr}{v:V}(h:cV e=some v):starEach (e::es) X.env=(false,eval e X.env)::starEach es X.env:=by
 unfold cV at h
 split at h<;>first | rfl | cases h
theorem dX:∀{es:List Expr} {vs:List V},es.map cV=vs.map some→PA X es (AG vs)
 | [],[],_=>ah
 | [],_::_,h=>by cases h
 | _::_,[],h=>by cases h
 | e::es,v::vs,h=>by
  have h1:cV e=some v:=(List.cons.inj h).1;have h2:es.map cV=vs.map some:=(List.cons.inj h).2;exact aa (zN h1) (dX h2) (xh h1)
end
def AE:Option V→(V→Prop)→Prop
 | some v,k=>k v
 | none,_=>False
def va:St→Nat→(V→Prop)→Prop
 | [],_,_=>False
 | o::_,0,k=>AE o k
 | _::σ,i+1,k=>va σ i k
theorem lG{v:V}{σ:St}{k:V→Prop}:va (some v::σ) 0 k=k v:=rfl
theorem jK{o:Option V}{σ:St}{i:Nat}{k:V→Prop}:va (o::σ) (i+1) k=va σ i k:=rfl
theorem m8{k:V→Prop}:∀{σ:St} {i:Nat},va σ i k↔∃v,σ[i]?=some (some v)∧k v
 | [],i=>by simp [va]
 | some v::σ,0=>by simp [va,AE]
 | none::σ,0=>by simp [va,AE]
 | o::σ,i+1=>by rw [jK,m8];simp
def y7(i:Nat):TE:=fun σ H Q=>va σ i fun v=>Q v H
theorem yU(i:Nat):y7 i=xm i:=by
 funext σ H Q
 exact propext m8
def vF:V→(Int→Prop)→Prop
 | .int i,k=>k i
 | _,_=>False
theorem fu{i:Int}{k:Int→Prop}:vF (.int i) k=k i:=rfl
theorem gr{v:V}{k:Int→Prop}:vF v k↔∃i,v=.int i∧k i:=by cases v<;>simp [vF]
def xt:V→(Bool→Prop)→Prop
 | .bl i,k=>k i
 | _,_=>False
theorem gU{i:Bool}{k:Bool→Prop}:xt (.bl i) k=k i:=rfl
theorem gq{v:V}{k:Bool→Prop}:xt v k↔∃i,v=.bl i∧k i:=by cases v<;>simp [xt]
def y3(g:Int→Int→V):R2:=fun x y H Q=>vF x fun i=>vF y fun j=>Q (g i j) H
def jI(C:Int→Int→Prop)(g:Int→Int→V):R2:=fun x y H Q=>vF x fun i=>vF y fun j=>C i j∧Q (g i j) H
def jU(g:Int→V):V→Hp→VK→Prop:=fun x H Q=>vF x fun i=>Q (g i) H
def lx(t:TE):TT:=fun σ H Q=>t σ H fun x H1=>xt x fun k=>Q k H1
def lu(t:TE):TO:=fun σ H Q=>t σ H fun x H1=>vF x fun i=>Q (some i) H1
def yd(i:Nat)(te:TE)(ti:AK):TS:=fun D σ H=>va σ i fun x=>te σ H fun y H1=>ti x y H1 fun z H2=>D.nx (σ.set i (some z)) H2
def lq(ta tb:TE):TE:=fun σ H Q=>ta σ H fun x H1=>xt x fun c=>if c=true then tb σ H1 Q else Q (.bl false) H1
def r0(ta tb:TE):TE:=fun σ H Q=>ta σ H fun x H1=>xt x fun c=>if c=true then Q (.bl true) H1 else tb σ H1 Q
def lr(ta:TE):TE:=fun σ H Q=>ta σ H fun x H1=>xt x fun c=>Q (.bl (!c)) H1
theorem ui(ta tb:TE):lq ta tb=lV ta tb:=by
 funext σ H Q
 unfold lq lV;simp only [gq]
theorem wb(ta tb:TE):r0 ta tb=sN ta tb:=by
 funext σ H Q
 unfold r0 sN;simp only [gq]
theorem ur(ta:TE):lr ta=lY ta:=by
 funext σ H Q
 unfold lr lY;simp only [gq]
theorem yf(g:Int→Int→V):y3 g=oR g:=by
 funext x y H Q
 unfold y3 oR;simp only [gr,exists_and_left]
theorem zz(C:Int→Int→Prop)(g:Int→Int→V):jI C g=rI C g:=by
 funext x y H Q
 unfold jI rI;simp only [gr,exists_and_left]
theorem zC(g:Int→V):jU g=rU g:=by
 funext x H Q
 unfold jU rU;simp only [gr]
theorem uv(t:TE):lx t=jZ t:=by
 funext σ H Q
 unfold lx jZ;simp only [gq]
theorem uu(t:TE):lu t=pA t:=by
 funext σ H Q
 unfold lu pA;simp only [gr]
def uj(r:R2):R2
 | .int i,.int j,H,Q=>Q (.bl (decide (i=j))) H
 | .str i,.str j,H,Q=>Q (.bl (decide (i=j))) H
 | x,y,H,Q=>r x y H Q
def uo(r:R2):R2
 | .int i,.int j,H,Q=>Q (.bl (!decide (i=j))) H
 | .str i,.str j,H,Q=>Q (.bl (!decide (i=j))) H
 | x,y,H,Q=>r x y H Q
def jx(r:R2):R2
 | .int i,.int j,H,Q=>Q (.int (i+j)) H
 | x,y,H,Q=>r x y H Q
def ou(r:R2):R2
 | .int i,.int j,H,Q=>IntMulOk i j∧Q (.int (i * j)) H
 | x,y,H,Q=>r x y H Q
theorem hR{r:R2}{i j:Int}{H:Hp}{Q:VK}:uj r (.int i) (.int j) H Q=Q (.bl (decide (i=j))) H:=rfl
theorem hU{r:R2}{i j:Str}{H:Hp}{Q:VK}:uj r (.str i) (.str j) H Q=Q (.bl (decide (i=j))) H:=rfl
theorem hV{r:R2}{i j:Int}{H:Hp}{Q:VK}:uo r (.int i) (.int j) H Q=Q (.bl (!decide (i=j))) H:=rfl
theorem hX{r:R2}{i j:Str}{H:Hp}{Q:VK}:uo r (.str i) (.str j) H Q=Q (.bl (!decide (i=j))) H:=rfl
theorem fz{r:R2}{i j:Int}{H:Hp}{Q:VK}:jx r (.int i) (.int j) H Q=Q (.int (i+j)) H:=rfl
theorem fA{r:R2}{i j:Int}{H:Hp}{Q:VK}:ou r (.int i) (.int j) H Q=(IntMulOk i j∧Q (.int (i * j)) H):=rfl
theorem uk{r:R2}(h1:∀i j H Q,r (.int i) (.int j) H Q↔Q (.bl (decide (i=j))) H)(h2:∀i j H Q,r (.str i) (.str j) H Q↔Q (.bl (decide (i=j))) H):uj r=r:=by
 funext x y H Q
 unfold uj
 split
 ·exact propext (h1 _ _ _ _).symm
 ·exact propext (h2 _ _ _ _).symm
 ·rfl
theorem uq{r:R2}(h1:∀i j H Q,r (.int i) (.int j) H Q↔Q (.bl (!decide (i=j))) H)(h2:∀i j H Q,r (.str i) (.str j) H Q↔Q (.bl (!decide (i=j))) H):uo r=r:=by
 funext x y H Q
 unfold uo
 split
 ·exact propext (h1 _ _ _ _).symm
 ·exact propext (h2 _ _ _ _).symm
 ·rfl
theorem qU{r:R2}(h1:∀i j H Q,r (.int i) (.int j) H Q↔Q (.int (i+j)) H):jx r=r:=by
 funext x y H Q
 unfold jx
 split
 ·exact propext (h1 _ _ _ _).symm
 ·rfl
theorem wa{r:R2}(h1:∀i j H Q,r (.int i) (.int j) H Q↔IntMulOk i j∧Q (.int (i * j)) H):ou r=r:=by
 funext x y H Q
 unfold ou
 split
 ·exact propext (h1 _ _ _ _).symm
 ·rfl
theorem xF:uj lE=lE:=uk (fun _ _ _ _=>rEq_ii) (fun _ _ _ _=>m6)
theorem xG:uo lF=lF:=uq (fun _ _ _ _=>rNe_ii) (fun _ _ _ _=>rNe_ss)
theorem uh(K:Frag):jx (cE K)=cE K:=qU fun _ _ _ _=>jJ
theorem zy{x y:V}{H:Hp}{Q:VK}:uj lE x y H Q↔lE x y H Q:=by rw [xF]
theorem zB{x y:V}{H:Hp}{Q:VK}:uo lF x y H Q↔lF x y H Q:=by rw [xG]
theorem v7{K:Frag}{x y:V}{H:Hp}{Q:VK}:jx (cE K) x y H Q↔cE K x y H Q:=by rw [uh]
section
variable {X:Cx}
theorem pr(i:Nat){x:Str}{pos:Pos}(hN:X.N[i]?=some x:=by rfl)(hv:Au X.env.scope x:=by first | exact Or.inl rfl | exact Or.inr (Or.inl rfl) | exact Or.inr (Or.inr rfl))(hd:(x == ("__debug__":Str))=false:=by decide)
  (hcd:(x == ("__classdict__":Str))=false:=by decide):PE X (.Name x pos) (y7 i):=by
 rw [yU];exact uT hN hv hd hcd
theorem o0{f:Value→Value→Sem Value}{g:Int→Int→V}(h:cI X f (oR g)):cI X f (y3 g):=by rw [yf];exact h
theorem o1{f:Value→Value→Sem Value}{C:Int→Int→Prop}{g:Int→Int→V}(h:cI X f (rI C g)):cI X f (jI C g):=by rw [zz];exact h
theorem u1{f:Value→Sem Value}{g:Int→V}(h:zh X f (rU g)):zh X f (jU g):=by rw [zC];exact h
theorem eQ:cI X (compareOp .Eq) (uj lE):=by rw [xF];exact AA
theorem qW:cI X (compareOp .NotEq) (uo lF):=by rw [xG];exact AD
theorem cb(K:Frag)(h:X.K=K:=by rfl):cI X (binaryOp .Add) (jx (cE K)):=by rw [uh];exact yp K h
theorem aT{e:Expr}{t:TE}(h:PT X e (jZ t)):PT X e (lx t):=by rw [uv];exact h
theorem xJ{e:Expr}{ta tb:TE}(h:PE X e (lV ta tb)):PE X e (lq ta tb):=by rw [ui];exact h
theorem zP{e:Expr}{ta tb:TE}(h:PE X e (sN ta tb)):PE X e (r0 ta tb):=by rw [wb];exact h
theorem zO{e:Expr}{ta:TE}(h:PE X e (lY ta)):PE X e (lr ta):=by rw [ur];exact h
theorem bD{e:Expr}{t:TE}(h:PE X e t):PO X (some e) (lu t):=by rw [uu];exact wI h
end
theorem AM{p:Prop}[d:Decidable p]{A B:Prop}:(if (!decide p)=true then A else B)=(if p then B else A):=by
 by_cases h:p<;>simp [h]
theorem AL{p:Prop}[d:Decidable p]{A B:Prop}:(if decide p=true then A else B)=(if p then A else B):=by
 by_cases h:p<;>simp [h]
theorem zm{t u:TS}{D:eU}{σ:St}{H:Hp}(C:St→Hp→Prop)(h2:∀σ H,C σ H→u D σ H)(h1:∀u':TS,(∀σ H,C σ H→u' D σ H)→jY t u' D σ H):jY t u D σ H:=h1 u h2
theorem bq{t u:TS}{D:eU}{σ:St}{H:Hp}(C:St→Hp→Prop)(h1:∀u':TS,(∀σ H,C σ H→u' D σ H)→jY t u' D σ H)(h2:∀σ H,C σ H→u D σ H):jY t u D σ H:=h1 u h2
theorem bW.up{P:Program}{w:World}{K:Frag}{mg:Str→Option Value}{base:Heap}{x:Str}{j k:Nat}{ps:List Str}{sp:Sp}(d:bW P w K mg base x j ps sp)(h:j≤k):bW P w K mg base x k ps sp:=
 let ⟨f,fd,F,r⟩:=d.ex;⟨f,fd,F.mono h,r⟩
theorem const_mk{K:Frag}{x:Str}{v:V}{u:Value}(e:nsIn K mainGlobals x=some (some u))(r:aQ v u):∃u,nsIn K mainGlobals x=some (some u)∧aQ v u:=⟨u,e,r⟩
theorem TruV_b{K:Frag}{b k:Bool}{H:Hp}:vL K (.bl b) H k↔k=b:=Iff.rfl
theorem z5{K:Frag}{z:Str}{H:Hp}:z4 K "str" (.str z) H↔True:=⟨fun _=>trivial,fun _=>rfl⟩
theorem str_iff{x y:Str}:x=y↔x.cps.toList=y.cps.toList:=by
 constructor
 ·intro e;rw [e]
 ·intro e
  obtain⟨⟨a⟩⟩:=x;obtain⟨⟨b⟩⟩:=y;simp at e;subst e;rfl
end L2
namespace L2
open PySem PySem.Spec PyProof.Rows
open AutoSeq1 (wpAny_loadPart')
theorem ia:fillsNumberSlot (.type "tuple") "mul"=pure false:=
 PySem.fillsNumberSlot_seq (id:="tuple.__mul__") (r:=some (.builtin "tuple.__rmul__")) F.slot_tuple_mul.lookup (by decide +kernel) F.slot_tuple_rmul.lookup (by decide +kernel)
theorem nc:seqRepeat? (.type "tuple")=pure (some (.builtin "tuple.__mul__")):=by
 unfold seqRepeat?;rw [PySem.seqSlot_of (T:="tuple") (name:="__mul__") (id:="tuple.__mul__") F.slot_tuple_mul.lookup (by decide +kernel),PySem.seqSlot_of (T:="tuple") (name:="__rmul__") (id:="tuple.__rmul__") F.slot_tuple_rmul.lookup (by decide +kernel)];rfl
theorem jv(a:Int)(t:Tok)(l:Addr)(items:Array Value)(n:Nat)(dd:Option Addr)(sl:Array (Option Value)):
  Meets (Builtin.«int.__rmul__» ⟨[.int a t,.ref l],[]⟩) (fun _ R s=>s.heap.get? l=some { cls:=.type "tuple",dict:=dd,data:=.seq items n,slots:=sl }∧R (.ok (.ret Value.notImplemented)) s):=
 .of_wp fun prog w A R s h=>by obtain⟨hp,g,d,tk,os⟩:=s;obtain⟨hl,h⟩:=h;wp_walk;exact⟨_,rfl,h⟩
theorem qw(l:Addr)(items:Array Value)(n:Nat)(dd:Option Addr)(sl:Array (Option Value))(u:Tok):
  Meets (Builtin.«tuple.__mul__» ⟨[.ref l,.int 1 u],[]⟩) (fun _ R s=>s.heap.get? l=some { cls:=.type "tuple",dict:=dd,data:=.seq items n,slots:=sl }∧R (.ok (.ret (Value.ref l))) s):=
 .of_wp fun prog w A R s h=>by
  obtain⟨hp,g,d,tk,os⟩:=s;obtain⟨hl,h⟩:=h;have hT:Shared.TypeIs ⟨hp,g,d,tk,os⟩ (.ref l) "tuple":=⟨_,hl,rfl⟩
  wp_walk using wpAny_loadPart' hl,wpAny_typeOf hT
  exact⟨_,rfl,h⟩
theorem jt{α:Type}(xs:Array α):∀(n:Nat) (acc:Array α),((List.replicate n xs).foldl (· ++ ·) acc).size=acc.size+n * xs.size
 | 0,acc=>by simp
 | n+1,acc=>by
  rw [ad1,ag5,jt xs n,ai6,ai8];omega
theorem qx(l:Addr)(items:Array Value)(n:Nat)(dd:Option Addr)(sl:Array (Option Value))(x:Int)(u:Tok)(h1:1 < x)(h2:x < 1000000)(h0:items.isEmpty=false)(hz:items.size * x.toNat≤sizeLine):
  Meets (Builtin.«tuple.__mul__» ⟨[.ref l,.int x u],[]⟩) (fun _ R s=>s.heap.get? l=some { cls:=.type "tuple",dict:=dd,data:=.seq items n,slots:=sl }∧R (.ok (.ret (Value.ref s.heap.objs.size))) { s with heap:=s.heap.push { cls:=Value.type "tuple",data:=Data.seq ((List.replicate x.toNat items).foldl (· ++ ·) #[]) } }):=
 .of_wp fun prog w A R s h=>by
  obtain⟨hp,g,d,tk,os⟩:=s;obtain⟨hl,h⟩:=h;have hT:Shared.TypeIs ⟨hp,g,d,tk,os⟩ (.ref l) "tuple":=⟨_,hl,rfl⟩
  wp_walk using wpAny_loadPart' hl,wpAny_typeOf hT
  refine wpAny_ite_false (by rw [decide_eq_false (show ¬x < -2 ^ 63 by omega),decide_eq_false (show ¬x≥2 ^ 63 by omega)];rfl) ?_
  wp_walk using wpAny_loadPart' hl,wpAny_typeOf hT
  refine wpAny_ite_false (by rw [h0];simp;omega) ?_;refine wpAny_ite_false (by rw [h0];simp;omega) ?_
  have e:(items.size:Int) * x=((items.size * x.toNat:Nat):Int):=by rw [Int.natCast_mul,ai1 (by omega)]
  have hs:sizeLine=16777216:=sizeLine_eq;refine wpAny_ite_false (decide_eq_false (by rw [e];omega)) ?_
  have hm:¬((items.size:Int) * x > (sizeLine:Int)):=by rw [e];exact_mod_cast aj1.mpr hz
  refine wpAny_ite_false (by unfold Builtin.Tuple.tupleTooMany;exact decide_eq_false (fun z=>hm (of_decide_eq_true z))) ?_
  have hf:(List.foldl (fun x1 x2=>x1++x2) #[] (List.replicate x.toNat items)).size≤sizeLine:=by
   rw [jt,Array.size_empty,Nat.zero_add,ai9];exact hz
  wp_walk using wpAny_loadPart' hl,wpAny_typeOf hT
  refine wpAny_ite_false (decide_eq_false (aj1.mpr hf)) ?_
  wp_walk
  exact⟨_,rfl,h⟩
def rf(K:Frag):R2:=fun x y H Q=>∃l k xs,x=.ref l∧y=.int k∧eT K H l xs∧1≤k∧k < 1000000∧xs≠[]∧xs.length * k.toNat≤sizeLine∧
 (k=1→Q (.ref l) H)∧∀p,H p=none→Q (.ref p) (upd H p (.tup (List.replicate k.toNat xs).flatten))
section
variable {X:Cx}
theorem wB:cI X (binaryOp .Mult) (rf X.K):=by
 intro pins s σ H x y v u Q I rx ry h;obtain⟨l,k,xs,rfl,rfl,hH,h1,h2,hx,hz,q1,q⟩:=h;cases rx;obtain⟨t,rfl⟩:=ry;obtain⟨its,r,p,hl⟩:=I.tuple hH;obtain⟨⟨cls,dd,data,sl⟩,ho,hc,n,hd⟩:=id p;simp only at hc hd;subst hc hd
 have hlen:its.toArray.size * k.toNat≤sizeLine:=by rw [aa4,←r.length];exact hz
 refine wpAny_binaryOp_repeat_ref (T:="tuple") (U:="int") (by decide) ⟨_,ho,rfl⟩ (fun s'=>typeIs_int s' k t) ia F.fills_int_mul F.slot_int_rmul nc F.slot_int_index.lookup
  (call_meets F.slot_int_rmul (typeIs_int s k t) F.entry_int_rmul (F.args_int_rmul_2 _ _) (jv k t l its.toArray n dd sl) ⟨ho,rfl,⟨_,ho,rfl⟩,?_⟩)
 by_cases hk:k=1
 ·subst hk
  exact call_meets F.slot_tuple_mul ⟨_,ho,rfl⟩ F.entry_tuple_mul (F.args_tuple_mul_2 _ _) (qw l its.toArray n dd sl t) ⟨ho,.ref l,H,I,rfl,q1 rfl⟩
 ·have hne:its.toArray.isEmpty=false:=by
   cases its with
   | nil=>exact absurd (r.nil_iff.mp rfl) hx
   | cons a b=>rfl
  refine call_meets F.slot_tuple_mul ⟨_,ho,rfl⟩ F.entry_tuple_mul (F.args_tuple_mul_2 _ _) (qx l its.toArray n dd sl k t (by omega) h2 hne hlen) ⟨ho,?_⟩
  have hnew:List.foldl (fun x1 x2=>x1++x2) #[] (List.replicate k.toNat its.toArray)=(List.replicate k.toNat its).flatten.toArray:=by
   have:=hG its k.toNat []
   rw [ah7]at this;exact this
  refine⟨.ref s.heap.objs.size,_,I.laid (t':=s.toks) (o:=.tup (List.replicate k.toNat xs).flatten) (fun b ob q=>aa2 _ q) (aa3 _) ?_,rfl,q _ (I.hok.fresh (aa3 _))⟩;rw [hnew];exact⟨by rw [mF,ai9];exact hz,_,r.rep k.toNat,IsTup.new _ _⟩
def dD(K:Frag):R2:=fun x y H Q=>iF x y H Q∨rf K x y H Q
theorem yq(K:Frag)(h:X.K=K:=by rfl):cI X (binaryOp .Mult) (dD K):=h▸opMul.or wB
theorem oV{K:Frag}{i j:Int}{H:Hp}{Q:VK}:dD K (.int i) (.int j) H Q↔IntMulOk i j∧Q (.int (i * j)) H:=by
 simp [dD,oS,rf]
theorem u5{K:Frag}{z:Str}{j:Int}{H:Hp}{Q:VK}:dD K (.str z) (.int j) H Q↔(-1000000≤j∧j≤1000000∧z.length≤16)∧Q (.str (dR z j)) H:=by
 simp [dD,oU,rf]
theorem um(K:Frag):ou (dD K)=dD K:=wa fun _ _ _ _=>oV
theorem v9{K:Frag}{x y:V}{H:Hp}{Q:VK}:ou (dD K) x y H Q↔dD K x y H Q:=by rw [um]
theorem p4(K:Frag)(h:X.K=K:=by rfl):cI X (binaryOp .Mult) (ou (dD K)):=by rw [um];exact yq K h
end
end L2
namespace L2
open PySem PySem.Spec PyProof.Rows
def cZ(c:Nat):List Nat→List (List Nat)
 | []=>[[]]
 | a::l=>if a=c then []::cZ c l else match cZ c l with
  | []=>[[a]]
  | p::r=>(a::p)::r
theorem iz(c:Nat):∀l,cZ c l≠[]
 | []=>by simp [cZ]
 | a::l=>by
  simp only [cZ]
  split
  ·simp
  ·split<;>simp
theorem nB(c:Nat):∀l,(cZ c l).length≤l.length+1
 | []=>by simp [cZ]
 | a::l=>by
  have h:=nB c l;simp only [cZ]
  split
  ·simp;omega
  ·split
   ·simp
   ·rename_i p r e
    rw [e]at h;simp at h ⊢;omega
def b6(c:Nat):List Nat→Nat→List Nat
 | [],_=>[]
 | b::l,i=>if b=c then i::b6 c l (i+1)else b6 c l (i+1)
theorem jD(x:Str)(c:Nat)(lim:Nat):∀(l:List Nat) (i:Nat) (acc:Array Nat) (fr:Nat),x.cps.toList.drop i=l→acc.size≤i→fr≤i→x.length < lim→
  (forIn (List.range' i (l.length+1)) (acc,fr) (StrLaws.occBody x ⟨#[c]⟩ x.length lim)).run.fst.toList=acc.toList++b6 c l i
 | [],i,acc,fr,hl,ha,hf,hm=>by
  have hi:x.length≤i:=by
   rw [az];exact ag2.mp hl
  show(forIn [i] (acc,fr) _:Id _).run.fst.toList=_;rw [ag6];unfold StrLaws.occBody;rw [if_neg (by intro h;have:=h.1.2;have e1:(⟨#[c]⟩:Str).length=1:=rfl;rw [e1]at this;omega)];show acc.toList=_;simp [b6]
 | b::l,i,acc,fr,hl,ha,hf,hm=>by
  have hb:x.cps.toList[i]?=some b:=by
   have:(x.cps.toList.drop i)[0]?=some b:=by rw [hl];rfl
   rwa [af0,aj2]at this
  have hi:i < x.length:=by
   rw [az];obtain⟨h,_⟩:=ab5.mp hb;exact h
  have hd:x.cps.toList.drop (i+1)=l:=by
   rw [←ah1,hl];rfl
  have e1:(⟨#[c]⟩:Str).length=1:=rfl;show(forIn (i::List.range' (i+1) (l.length+1)) (acc,fr) _:Id _).run.fst.toList=_;rw [ag6];unfold StrLaws.occBody
  by_cases hc:b=c
  ·rw [if_pos ⟨⟨⟨by show acc.size < lim;omega,hf⟩,by rw [e1];omega⟩,((StrLaws.subAt_one x c i).mpr (by rw [hb,hc])).2⟩]
   show(forIn (List.range' (i+1) (l.length+1)) (acc.push i,i+1) (StrLaws.occBody x ⟨#[c]⟩ x.length lim):Id _).run.fst.toList=_;rw [jD x c lim l (i+1) _ _ hd (by rw [Array.size_push];omega) (aa3 _) hm];simp [b6,hc]
  ·rw [if_neg (fun h=>hc (by have:=(StrLaws.subAt_one x c i).mp ⟨h.1.2,h.2⟩;rw [hb]at this;exact Option.some.inj this))]
   show(forIn (List.range' (i+1) (l.length+1)) (acc,fr) (StrLaws.occBody x ⟨#[c]⟩ x.length lim):Id _).run.fst.toList=_;rw [jD x c lim l (i+1) _ _ hd (by omega) (by omega) hm];simp [b6,hc]
theorem wm(x:Str)(c:Nat):Builtin.Str.occurrences x ⟨#[c]⟩ 0 x.length (x.length+1)=b6 c x.cps.toList 0:=by
 rw [StrLaws.occ_eq]
 have e:x.length+1 - 0=x.cps.toList.length+1:=by rw [az];rfl
 rw [e];have h:=jD x c (x.length+1) x.cps.toList 0 #[] 0 rfl (aa3 _) (aa3 _) (ah3 _);rw [h];rfl
theorem gb(x:Str)(c:Nat):∀(l:List Nat) (a j:Nat),a≤j→x.cps.toList.drop j=l→j≤x.length→
  (StrLaws.partsFrom x 1 a (b6 c l j)).map (fun z=>z.cps.toList)=match cZ c l with
   | []=>[]
   | p::r=>((x.cps.toList.drop a).take (j - a)++p)::r
 | [],a,j,haj,hl,hj=>by
  have hj':x.length≤j:=by rw [az];exact ag2.mp hl
  have e:j=x.length:=by omega
  subst e;simp [b6,cZ,StrLaws.partsFrom,StrLaws.strSub_toList]
 | b::l,a,j,haj,hl,hj=>by
  have hb:x.cps.toList[j]?=some b:=by
   have:(x.cps.toList.drop j)[0]?=some b:=by rw [hl];rfl
   rwa [af0,aj2]at this
  have hi:j < x.length:=by
   rw [az];obtain⟨h,_⟩:=ab5.mp hb;exact h
  have hd:x.cps.toList.drop (j+1)=l:=by
   rw [←ah1,hl];rfl
  by_cases hc:b=c
  ·have ih:=gb x c l (j+1) (j+1) (aa3 _) hd hi
   simp only [b6,hc,if_true,StrLaws.partsFrom,ac1,cZ,af2];rw [ih]
   cases hs:cZ c l with
   | nil=>exact absurd hs (iz c l)
   | cons p r=>simp [StrLaws.strSub_toList]
  ·have ih:=gb x c l a (j+1) (by omega) hd hi
   simp only [b6,hc,if_false,cZ];rw [ih]
   cases hs:cZ c l with
   | nil=>exact absurd hs (iz c l)
   | cons p r=>
    have ht:(x.cps.toList.drop a).take (j+1 - a)=(x.cps.toList.drop a).take (j - a)++[b]:=by
     have e1:j+1 - a=(j - a)+1:=by omega
     rw [e1,ad7,af0]
     have e2:a+(j - a)=j:=by omega
     rw [e2,hb];rfl
    simp [ht]
theorem vg(c:Nat):∀{l:List Nat},b6 c l 0=[]→cZ c l=[l]:=by
 have key:∀(l:List Nat) (i:Nat),b6 c l i=[]→cZ c l=[l]:=by
  intro l
  induction l with
  | nil=>intro i _;rfl
  | cons a l ih=>
   intro i h;simp only [b6]at h
   split at h
   ·cases h
   ·rename_i hc
    simp only [cZ,hc,if_false];rw [ih _ h]
 intro l h;exact key l 0 h
theorem cx(x:Str){c:Nat}(hc:c < 256):(Txt.split x ⟨#[c]⟩).map (fun z=>z.cps.toList)=cZ c x.cps.toList:=by
 unfold Txt.split;have e1:(⟨#[c]⟩:Str).length=1:=rfl
 have ek:Builtin.Str.strKind ⟨#[c]⟩=1:=by simp [Builtin.Str.strKind,hc]
 have ek2:1≤Builtin.Str.strKind x:=by unfold Builtin.Str.strKind;split<;>(try split)<;>omega
 rw [e1,ek,decide_eq_false (show ¬Builtin.Str.strKind x < 1 by omega),Bool.or_false,wm]
 split
 ·rename_i h
  have h:x.length < 1:=by simpa using h
  have:x.cps.toList=[]:=by
   rw [az]at h;exact ae3.mp (by omega)
  rw [ac1,aj0,this];rfl
 ·split
  ·rename_i h
   have h:b6 c x.cps.toList 0=[]:=by simpa using h
   rw [vg c h];rfl
  ·rw [StrLaws.partsBetween_eq,gb x c x.cps.toList 0 0 (aa3 _) rfl (ab1 _)]
   cases hs:cZ c x.cps.toList with
   | nil=>exact absurd hs (iz c _)
   | cons p r=>simp
end L2
namespace L2
open PySem PySem.Spec PyProof.Rows
theorem iA:∀(tk:Nat) (xs:List Str),aS (xs.map V.str) (strsFrom tk xs)
 | _,[]=>.nil
 | tk,x::r=>.cons ⟨tk,rfl⟩ (iA (tk+1) r)
theorem lU:∀{xs:List Str} {us:List Value},aS (xs.map V.str) us→StrsAre us xs
 | [],_,.nil=>.nil
 | x::r,_,.cons ⟨t,e⟩ q=>by subst e;exact .cons x t (lU q)
section
variable {X:Cx}
theorem jz:sQ X "str.split" (fun x xs H Q=>∃z c,x=.str z∧xs=[.str ⟨#[c]⟩]∧c < 256∧z.length < sizeLine∧∀p,H p=none→Q (.ref p) (upd H p (.lst ((Txt.split z ⟨#[c]⟩).map V.str)))):=by
 intro pins s σ H x xs v us Q I rx r h;obtain⟨z,c,rfl,rfl,hc,hz,q⟩:=h;obtain⟨t,rfl⟩:=rx;obtain⟨u,rfl,t',rfl⟩:=dP r;have hs:sizeLine=16777216:=sizeLine_eq
 have hlen:(Txt.split z ⟨#[c]⟩).length≤sizeLine:=by
  have h1:(Txt.split z ⟨#[c]⟩).length=(cZ c z.cps.toList).length:=by rw [←cx z hc,aa1]
  have h2:=nB c z.cps.toList;rw [←az]at h2;omega
 have fin:∀(its:List Value) (tk:Nat),aS ((Txt.split z ⟨#[c]⟩).map V.str) its→EP X pins σ Q (.ref s.heap.objs.size) { s with toks:=tk,heap:=s.heap.push { cls:=.type "list",data:=.seq its.toArray } }:=fun its tk rv=>
  ⟨.ref s.heap.objs.size,_,I.laid (t':=tk) (o:=.lst ((Txt.split z ⟨#[c]⟩).map V.str)) (fun b ob q=>aa2 _ q) (aa3 _) ⟨by rw [aa1];exact hlen,its,0,rv,ab6 _ rfl⟩,rfl,q _ (I.hok.fresh (aa3 _))⟩
 cases h1:(decide (z.length < (⟨#[c]⟩:Str).length) || decide (Builtin.Str.strKind z < Builtin.Str.strKind ⟨#[c]⟩))with
 | true=>
  have e:Txt.split z ⟨#[c]⟩=[z]:=by unfold Txt.split;rw [if_pos h1]
  rw [e]at fin;exact call_meets F.slot_str_split (typeIs_str _ _ _) F.entry_str_split (F.args_str_split_2 _ _) (meets_str_split_cannot_occur z ⟨#[c]⟩ t t' h1) (fin _ s.toks (.cons ⟨t,rfl⟩ .nil))
 | false=>
  cases hf:(Builtin.Str.occurrences z ⟨#[c]⟩ 0 z.length (z.length+1)).isEmpty with
  | true=>
   have e:Txt.split z ⟨#[c]⟩=[z]:=by unfold Txt.split;rw [if_neg (by rw [h1];exact aa0),if_pos hf]
   rw [e]at fin;exact call_meets F.slot_str_split (typeIs_str _ _ _) F.entry_str_split (F.args_str_split_2 _ _) (meets_str_split_not_found z ⟨#[c]⟩ t t' h1 rfl hf) (fin _ s.toks (.cons ⟨t,rfl⟩ .nil))
  | false=>
   have e:Txt.split z ⟨#[c]⟩=Builtin.Str.partsBetween z (Builtin.Str.occurrences z ⟨#[c]⟩ 0 z.length (z.length+1)) (⟨#[c]⟩:Str).length:=by
    unfold Txt.split;rw [if_neg (by rw [h1];exact aa0),if_neg (by rw [hf];exact aa0)]
   rw [e]at fin hlen;exact call_meets F.slot_str_split (typeIs_str _ _ _) F.entry_str_split (F.args_str_split_2 _ _) (meets_str_split_sep z ⟨#[c]⟩ t t' h1 rfl hf (ai2 hz) hlen) (fin _ _ (iA _ _))
theorem wg:sQ X "str.join" (fun x xs H Q=>∃z p ys,x=.str z∧xs=[.ref p]∧bf X.K H p (ys.map V.str)∧(ys.map (·.length)).sum+ys.length * z.length≤16777216∧Q (.str (Txt.join z ys)) H):=by
 intro pins s σ H x xs v us Q I rx r h;obtain⟨z,p,ys,rfl,rfl,hq,hok,q⟩:=h;obtain⟨t,rfl⟩:=rx;obtain⟨u,rfl,ru⟩:=dP r;cases ru;obtain⟨its,rv,pl,hz⟩:=I.list hq;exact join_list pl.isList (lU rv) hok fun t' k=>⟨.str _,H,I.tok _,⟨t',rfl⟩,q⟩
theorem dC(K:Frag)(h:X.K=K:=by rfl):sQ X "str.join" (fun x xs H Q=>∃z p ys,x=.str z∧xs=[.ref p]∧bf K H p (ys.map V.str)∧(ys.map (·.length)).sum+ys.length * z.length≤16777216∧Q (.str (Txt.join z ys)) H):=h▸wg
def xX:List V→List V→Bool
 | [],[]=>true
 | x::xs,y::ys=>vG x y && xX xs ys
 | _,_=>false
def m5(K:Frag):R2:=fun x y H Q=>lE x y H Q∨∃a b xs ys,x=.ref a∧y=.ref b∧eT K H a xs∧eT K H b ys∧xs.all dt=true∧ys.all dt=true∧Q (.bl (xX xs ys)) H
def m7(K:Frag):R2:=fun x y H Q=>lF x y H Q∨∃a b xs ys,x=.ref a∧y=.ref b∧eT K H a xs∧eT K H b ys∧xs.all dt=true∧ys.all dt=true∧Q (.bl (!xX xs ys)) H
end
theorem wO{K:Frag}{i j:Int}{H:Hp}{Q:VK}:m5 K (.int i) (.int j) H Q↔Q (.bl (decide (i=j))) H:=by simp [m5,rEq_ii]
theorem wW{K:Frag}{i j:Int}{H:Hp}{Q:VK}:m7 K (.int i) (.int j) H Q↔Q (.bl (!decide (i=j))) H:=by simp [m7,rNe_ii]
theorem wQ{K:Frag}{i j:Str}{H:Hp}{Q:VK}:m5 K (.str i) (.str j) H Q↔Q (.bl (decide (i=j))) H:=by simp [m5,m6]
theorem wX{K:Frag}{i j:Str}{H:Hp}{Q:VK}:m7 K (.str i) (.str j) H Q↔Q (.bl (!decide (i=j))) H:=by simp [m7,rNe_ss]
theorem wN{K:Frag}{i j:Bool}{H:Hp}{Q:VK}:m5 K (.bl i) (.bl j) H Q↔Q (.bl (decide (i=j))) H:=by simp [m5,u3]
theorem wV{K:Frag}{i j:Bool}{H:Hp}{Q:VK}:m7 K (.bl i) (.bl j) H Q↔Q (.bl (!decide (i=j))) H:=by simp [m7,u6]
end L2
namespace L2
open PySem PySem.Spec PyProof.Rows
def eO(l:List Nat):Bool:=l.all fun c=>decide (c∈[48,49,50,51,52,53,54,55,56,57])
def bX(w:List Nat):List Nat:=if w.head?=some 45 then w.tail else w
def cg(w:List Nat):Bool:=decide (1≤(bX w).length) && (decide ((bX w).length≤40) && (eO (bX w) && (decide ((bX w).head?≠some 48) || decide (w=[48]))))
theorem pT(w:List Nat):cg w=(if bX w=[]∨40 < (bX w).length then false else if eO (bX w)=false then false else(decide ((bX w).head?≠some 48) || decide (w=[48]))):=by
 unfold cg
 split
 ·rename_i h
  rcases h with h | h
  ·rw [h];rfl
  ·have:¬(bX w).length≤40:=by omega
   simp [this]
 ·rename_i h
  have h1:1≤(bX w).length:=by
   cases e:bX w with
   | nil=>exact absurd (Or.inl e) h
   | cons a b=>simp
  have h2:(bX w).length≤40:=by
   have:¬40 < (bX w).length:=fun z=>h (Or.inr z)
   omega
  simp only [h1,h2,decide_true,Bool.true_and]
  split
  ·rename_i h3;rw [h3];rfl
  ·rename_i h3
   have h3:eO (bX w)=true:=by simpa using h3
   rw [h3];rfl
theorem oq(w:List Nat)(hd:eO (bX w)=false):cg w=false:=by
 unfold cg;rw [hd];simp
def j5(n:Int):List Nat:=(Str.ofString (toString n)).cps.toList
def dg(m:Nat):List Nat:=(Nat.toDigits 10 m).map Char.toNat
theorem gw(m:Nat):j5 (m:Int)=dg m:=PySem.W.KIN.signs_num m
theorem gx(k:Nat):j5 (-((k+1:Nat):Int))=45::dg (k+1):=by
 have e:toString (-((k+1:Nat):Int))="-" ++ toString (k+1):=rfl;have h:=PySem.W.KIN.signs_num (k+1);unfold j5 dg;rw [←h,e];have e2:toString (((k+1:Nat):Nat):Int)=toString (k+1):=rfl;rw [e2];simp only [PyProof.Rows.signs_ofString,String.toList_append];rfl
theorem mx(m:Nat):∀c∈dg m,48≤c∧c≤57:=by
 intro c hc;obtain⟨ch,hch,e⟩:=ag3.mp hc;have r:=PyProof.Rows.digit_range (Nat.isDigit_of_mem_toDigits (by decide) (by decide) hch);rw [←e];exact r
theorem xw(m:Nat):dg m≠[]:=by
 intro e;have h:=toDigits_len_ge 10 m;rw [List.map_eq_nil_iff.mp e]at h;exact absurd h (by decide)
theorem jg{m:Nat}(h:m < 10):dg m=[m+48]:=by
 unfold dg;rw [Nat.toDigits_of_lt_base h]
 have:∀m,m < 10→(Nat.digitChar m).toNat=m+48:=by decide
 show [(Nat.digitChar m).toNat]=_;rw [this m h]
theorem tL{m:Nat}(h:¬m < 10):dg m=dg (m / 10)++[m % 10+48]:=by
 have hm:m % 10 < 10:=Nat.mod_lt m (by decide);have t:Nat.toDigits 10 (m / 10)++Nat.toDigits 10 (m % 10)=Nat.toDigits 10 (10 * (m / 10)+m % 10):=Nat.toDigits_append_toDigits (by decide) (by omega) hm;rw [Nat.div_add_mod]at t;rw [←jg hm];unfold dg;rw [←t,ac9]
theorem tM{k m:Nat}(hk:1≤k)(hm:m < 10 ^ k):(dg m).length≤k:=by
 unfold dg;rw [aa1];exact digits10_le hk hm
theorem pZ(n:Int):∀c∈j5 n,c=45∨(48≤c∧c≤57):=by
 intro c hc;rcases Int.lt_or_le n 0 with h | h
 ·obtain⟨k,rfl⟩:∃k:Nat,n = -((k+1:Nat):Int):=⟨n.natAbs - 1,by omega⟩
  rw [gx]at hc;rcases ab7.mp hc with e | e
  ·exact .inl e
  ·exact .inr (mx _ c e)
 ·obtain⟨m,rfl⟩:=ad4 h
  rw [gw]at hc;exact .inr (mx _ c hc)
theorem jB{n:Int}{k:Nat}(hk:1≤k)(h:n.natAbs < 10 ^ k):(j5 n).length≤k+1:=by
 rcases Int.lt_or_le n 0 with h1 | h1
 ·obtain⟨j,rfl⟩:∃k:Nat,n = -((k+1:Nat):Int):=⟨n.natAbs - 1,by omega⟩
  have e:(-((j+1:Nat):Int)).natAbs=j+1:=by omega
  rw [e]at h;rw [gx,aa8]
  have:=tM hk h
  omega
 ·obtain⟨m,rfl⟩:=ad4 h1
  rw [gw]
  have:=tM hk (show m < 10 ^ k from h)
  omega
theorem v5{n:Int}(h:n.natAbs < 10 ^ 600):intText? (Str.ofString (toString n))=some n:=by
 have hl:=jB (by decide) h
 have hl2:(Str.ofString (toString n)).length≤4300:=by rw [az];exact aa7 hl (by decide)
 rcases Int.lt_or_le n 0 with h1 | h1
 ·obtain⟨k,rfl⟩:∃k:Nat,n = -((k+1:Nat):Int):=⟨n.natAbs - 1,by omega⟩
  rw [PySem.intText_neg (cs:=dg (k+1)) (gx k) (mx _) (xw _) hl2]
  have:=PySem.W.KIN.val_back (k+1)
  unfold dg;rw [this]
 ·obtain⟨m,rfl⟩:=ad4 h1
  have e:(Str.ofString (toString ((m:Nat):Int))).cps.toList=dg m:=gw m;rw [PySem.intText_digits (by rw [e];exact mx _) (by rw [e];exact xw _) hl2,e]
  have:=PySem.W.KIN.val_back m
  unfold dg;rw [this]
def du(c:Nat):List (List Nat)→List Nat
 | []=>[]
 | p::r=>p++(r.map (c::·)).flatten
theorem lg(c:Nat):∀(l:List Str) (a:Array Nat),(l.foldl (fun acc p=>acc++(⟨#[c]⟩:Str).cps++p.cps) a).toList=a.toList++(l.map (fun p=>c::p.cps.toList)).flatten
 | [],a=>by simp
 | p::l,a=>by
  rw [ag5,lg c l];simp
theorem pU(c:Nat)(ys:List Str):(Txt.join ⟨#[c]⟩ ys).cps.toList=du c (ys.map fun z=>z.cps.toList):=by
 unfold Txt.join Builtin.Str.glued
 cases ys with
 | nil=>rfl
 | cons p r=>
  show(r.foldl (fun acc p=>acc++(⟨#[c]⟩:Str).cps++p.cps) p.cps).toList=_;rw [lg];simp [du,Function.comp_def]
theorem rj(c:Nat):∀(p:List Nat) (l:List Nat),c∉p→cZ c (p++c::l)=p::cZ c l
 | [],l,_=>by simp [cZ]
 | a::p,l,h=>by
  have h1:a≠c:=fun e=>h (by rw [e];exact ab3);have h2:c∉p:=fun e=>h (ab2 _ e);rw [List.cons_append];simp only [cZ,h1,if_false];rw [rj c p l h2]
theorem pw(c:Nat):∀(p:List Nat),c∉p→cZ c p=[p]
 | [],_=>rfl
 | a::p,h=>by
  have h1:a≠c:=fun e=>h (by rw [e];exact ab3);have h2:c∉p:=fun e=>h (ab2 _ e);simp only [cZ,h1,if_false];rw [pw c p h2]
theorem pq(c:Nat):∀(ps:List (List Nat)),ps≠[]→(∀p∈ps,c∉p)→cZ c (du c ps)=ps
 | [],h,_=>absurd rfl h
 | [p],_,h=>by
  simp [du];exact pw c p (h p ab3)
 | p::q::r,_,h=>by
  have ih:=pq c (q::r) (by simp) (fun x hx=>h x (ab2 _ hx))
  have e:du c (p::q::r)=p++c::du c (q::r):=by simp [du]
  rw [e,rj c p _ (h p ab3),ih]
end L2
namespace L3
open PySem PySem.Spec PyProof.Rows
section
variable {prog:Program} {w:World} {A:Around} {E:Value→Shared→Prop} {s:Shared}
end
end L3
namespace L2
open PySem PySem.Spec PyProof.Rows
def Itf(K:Frag)(l:Bool)(a:Addr):It:=
 ⟨fun i H=>∃xs x,nP K l H a xs∧xs[i]?=some x,
  fun i H v H'=>∃p x,v=.ref p∧H p=none∧H'=upd H p (.tup [.int i,x])∧∀xs,nP K l H a xs→xs[i]?=some x,
  fun i H=>∃xs,nP K l H a xs∧i=xs.length⟩
def ua(K:Frag)(ta:TA):TI:=fun σ H R=>ta σ H fun vs H1=>∃a,vs=[.ref a]∧∃l,(∃xs,nP K l H1 a xs)∧R (Itf K l a) H1
structure ma(K:Frag)(x qual:Str)(st:Stmt)(f:Addr)(fd:FuncData)(T:Addr):Prop where
 ex:∃(oc:Value) (od:Option Addr) (kV doc pm:Value) (an:Option Addr) (cdv ct:Value) (osl:Array (Option Value)),
  fd=fnOf x qual (bV st) (bN st) (aq st) (.ref T) kV doc pm an cdv ct∧K.lookup f=some ⟨oc,od,.func fd,osl⟩∧codeIn K cdv qual=true
 kp:keepIn K (.ref f)=true
section
variable {P:Program} {w:World} {K:Frag} {mg:Str→Option Value} {base:Heap}
end
section
variable {X:Cx} {k:Nat} {ps:List Str} {sp:Sp} {x:Str} {p pos:Pos} {e:Expr} {es:List Expr} {t:TA} {dvs:List V}
end
structure sT(K:Frag)(x:Str)(st:Stmt)(f:Addr)(fd:FuncData)(u:Value):Prop where
 ns:nsIn K mainGlobals x=some (some (.ref f))
 fn:∃(T:Addr) (o:Obj) (n:Nat),ma K x x st f fd T∧K.lookup T=some o∧o.data=.seq #[u] n
theorem ma.binds{K:Frag}{x qual:Str}{st:Stmt}{f T:Addr}{fd:FuncData}{ps:List Str}(F:ma K x qual st f fd T){o:Obj}{u:Value}{n:Nat}(t:K.lookup T=some o)(d:o.data=.seq #[u] n)
  (h:∀(kV doc pm:Value) (an:Option Addr) (cdv ct:Value) (us:List Value),us.length=ps.length→
   ∃k:Option (Array Value)→Sem (List (Str×Value)),bindArgs (fnOf x qual (bV st) (bN st) (aq st) (.ref T) kV doc pm an cdv ct) ⟨us,[]⟩=seqItems? (.ref T) >>= k∧k (some #[u])=pure (ps.zip us)):cf K fd ps []:=by
 obtain⟨oc,od,kV,doc,pm,an,cdv,ct,osl,rfl,lk,hcd⟩:=F.ex;intro s us X hl;rw [af2]at hl ⊢;obtain⟨k,h1,h2⟩:=h kV doc pm an cdv ct us hl;exact BindsTo.of_defaults (T:=T) rfl (X _ _ t) d h1 h2
theorem ma.bindsD{K:Frag}{x qual:Str}{st:Stmt}{f T:Addr}{fd:FuncData}{ps:List Str}(F:ma K x qual st f fd T){o:Obj}{u:Value}{n:Nat}(t:K.lookup T=some o)(d:o.data=.seq #[u] n)
  (h:∀(kV doc pm:Value) (an:Option Addr) (cdv ct:Value) (us:List Value),us.length+1=ps.length→
   ∃k:Option (Array Value)→Sem (List (Str×Value)),bindArgs (fnOf x qual (bV st) (bN st) (aq st) (.ref T) kV doc pm an cdv ct) ⟨us,[]⟩=seqItems? (.ref T) >>= k∧k (some #[u])=pure (ps.zip (us++[u]))):cf K fd ps [u]:=by
 obtain⟨oc,od,kV,doc,pm,an,cdv,ct,osl,rfl,lk,hcd⟩:=F.ex;intro s us X hl;obtain⟨k,h1,h2⟩:=h kV doc pm an cdv ct us (by rw [←hl,ab9];rfl);exact BindsTo.of_defaults (T:=T) rfl (X _ _ t) d h1 h2
end L2
namespace L2
open PySem PySem.Spec PyProof.Rows
def An(K:Frag)(H:Hp):Nat→V→V→Bool→Prop
 | 0,x,y,b=>(dt x=true∧dt y=true∧b=vG x y)∨∃a,x=.ref a∧y=.ref a∧b=true
 | n+1,x,y,b=>An K H 0 x y b∨∃(a c:Addr) (l:Bool) (xs ys:List V) (e:Nat→Bool),x=.ref a∧y=.ref c∧a≠c∧nP K l H a xs∧nP K l H c ys∧
   (∀j x y,xs[j]?=some x→ys[j]?=some y→An K H n x y (e j))∧b=((List.range (min xs.length ys.length)).all e && xs.length == ys.length)
section
variable {X:Cx} {pins:List (Addr×Obj)} {σ:St} {H:Hp} {s:Shared}
def yX(K:Frag)(H:Hp)(n:Nat)(x y:V)(b:Bool):Prop:=∃(a c:Addr) (l:Bool) (xs ys:List V) (e:Nat→Bool),x=.ref a∧y=.ref c∧nP K l H a xs∧nP K l H c ys∧
 (∀j x y,xs[j]?=some x→ys[j]?=some y→An K H n x y (e j))∧b=((List.range (min xs.length ys.length)).all e && xs.length == ys.length)
def iO(K:Frag):R2:=fun x y H Q=>lE x y H Q∨∃b,yX K H 4 x y b∧Q (.bl b) H
def iP(K:Frag):R2:=fun x y H Q=>lF x y H Q∨∃b,yX K H 4 x y b∧Q (.bl (!b)) H
end
theorem qY{K:Frag}{i j:Int}{H:Hp}{Q:VK}:iO K (.int i) (.int j) H Q↔Q (.bl (decide (i=j))) H:=by simp [iO,rEq_ii,yX]
theorem ra{K:Frag}{i j:Int}{H:Hp}{Q:VK}:iP K (.int i) (.int j) H Q↔Q (.bl (!decide (i=j))) H:=by simp [iP,rNe_ii,yX]
theorem qZ{K:Frag}{i j:Str}{H:Hp}{Q:VK}:iO K (.str i) (.str j) H Q↔Q (.bl (decide (i=j))) H:=by simp [iO,m6,yX]
theorem rb{K:Frag}{i j:Str}{H:Hp}{Q:VK}:iP K (.str i) (.str j) H Q↔Q (.bl (!decide (i=j))) H:=by simp [iP,rNe_ss,yX]
theorem zx(K:Frag):uj (iO K)=iO K:=uk (fun _ _ _ _=>qY) (fun _ _ _ _=>qZ)
theorem zA(K:Frag):uo (iP K)=iP K:=uq (fun _ _ _ _=>ra) (fun _ _ _ _=>rb)
theorem ye{K:Frag}{x y:V}{H:Hp}{Q:VK}:uj (iO K) x y H Q↔iO K x y H Q:=by rw [zx]
theorem yg{K:Frag}{x y:V}{H:Hp}{Q:VK}:uo (iP K) x y H Q↔iP K x y H Q:=by rw [zA]
end L2
namespace L2
open PySem PySem.Spec PyProof.Rows
structure dA(P:Program)(w:World)(K:Frag)(mg:Str→Option Value)(base:Heap)(k:Nat)(f:Addr)(ps:List Str)(sp:Sp):Prop where
 ex:∃fd:FuncData,aC P w K mg base bC k f fd ps sp∧keepIn K (.ref f)=true∧cf K fd ps []
structure aN(P:Program)(w:World)(K:Frag)(mg:Str→Option Value)(base:Heap)(C:Addr)(m:Str)(k:Nat)(ps:List Str)(sp:Sp):Prop where
 cl:iR K C
 ex:∃(f:Addr) (fd:FuncData),xR K C m f∧aC P w K mg base bC k f fd ps sp∧cf K fd ps []
structure xq(K:Frag)(C:Addr)(m:Str)(f:Addr):Prop where
 rd:PySem.W.readsIn K C (.type "type")=true
 at_:PySem.W.findCls K (.ref C) (.type "type") m=some (.val (.ref f))
 ga:PySem.W.specialIn K (.ref C) "__getattribute__"=some (some (.builtin "type.__getattribute__"))
 kp:keepIn K (.ref f)=true
structure gM(P:Program)(w:World)(K:Frag)(mg:Str→Option Value)(base:Heap)(x m:Str)(k:Nat)(ps:List Str)(sp:Sp):Prop where
 ex:∃(C f:Addr) (fd:FuncData),mg x=some (.ref C)∧xq K C m f∧aC P w K mg base bC k f fd ps sp∧cf K fd ps []
structure b7(P:Program)(w:World)(K:Frag)(mg:Str→Option Value)(base:Heap)(x:Str)(C:Addr)(k:Nat)(ps:List Str)(sp:Sp):Prop where
 ex:∃(f:Addr) (fd:FuncData),Mk K C f∧aC P w K mg base bC k f fd ps sp∧mg x=some (.ref C)∧cf K fd ps []
section
variable {P:Program} {w:World} {K:Frag} {mg:Str→Option Value} {base:Heap} {j k:Nat} {ps:List Str} {sp:Sp} {x m:Str} {C f:Addr}
theorem dA.up(d:dA P w K mg base j f ps sp)(h:j≤k):dA P w K mg base k f ps sp:=let ⟨fd,F,b,c⟩:=d.ex;⟨fd,F.mono h,b,c⟩
theorem aN.up(d:aN P w K mg base C m j ps sp)(h:j≤k):aN P w K mg base C m k ps sp:=let ⟨f,fd,a,F,c⟩:=d.ex;⟨d.cl,f,fd,a,F.mono h,c⟩
theorem b7.up(d:b7 P w K mg base x C j ps sp)(h:j≤k):b7 P w K mg base x C k ps sp:=let ⟨f,fd,a,F,b,c⟩:=d.ex;⟨f,fd,a,F.mono h,b,c⟩
theorem aN.imp{sp':Sp}(d:aN P w K mg base C m k ps sp)(h:∀vs H Q E,sp' vs H Q E→sp vs H Q E):aN P w K mg base C m k ps sp':=let ⟨f,fd,a,F,c⟩:=d.ex;⟨d.cl,f,fd,a,F.imp h,c⟩
end
def nH(P:Program)(w:World)(K:Frag)(mg:Str→Option Value)(base:Heap)(k:Nat)(m:Str)(ta:TE)(t:TA):TE:=fun σ H Q=>ta σ H fun x H1=>∃(a C dx:Addr) (fs:List (Str×V)) (ps:List Str) (sp:Sp),
 x=.ref a∧H1 a=some (.ins C dx fs)∧fs.lookup m=none∧aN P w K mg base C m k ps sp∧t σ H1 fun vs H2=>sp (x::vs) H2 Q E0
def qt(P:Program)(w:World)(K:Frag)(mg:Str→Option Value)(base:Heap)(k:Nat)(tf:TE)(t:TA):TE:=fun σ H Q=>tf σ H fun x H1=>∃(f:Addr) (ps:List Str) (sp:Sp),
 x=.ref f∧dA P w K mg base k f ps sp∧t σ H1 fun vs H2=>sp vs H2 Q E0
section
variable {X:Cx} {k:Nat} {f C:Addr} {fd:FuncData} {ps:List Str} {sp:Sp} {x m:Str} {p pos apos:Pos} {e o:Expr} {es:List Expr} {ta:TE} {t:TA}
theorem zQ(P:Program)(w:World)(K:Frag)(mg:Str→Option Value)(base:Heap){pl:Sem Bool}(hr:b8 k X.A)(he:PE X o ta)(ha:PA X (e::es) t)(e1:X.prog=P:=by rfl)(e2:X.w=w:=by rfl)(e3:X.K=K:=by rfl)(e4:X.mg=mg:=by rfl)(e5:X.base=base:=by rfl)
  (hst:starEach (e::es) X.env=(false,eval e X.env)::starEach es X.env:=by rfl) (hpl:(backTo pos (starEach es X.env)).any (·.1)=false:=by rfl)
  (ht:eval (.Call (.Attribute o m apos) (e::es) [] pos) X.env=(do
   let ov ←eval o X.env
   standAt apos.atName
   let (f,first) ←holding [ov] (getMethod ov m pl)
   callWith pos f first (backTo pos (starEach (e::es) X.env)) (backToKw pos (keywordEach [] X.env))):=by rfl) :
  PE X (.Call (.Attribute o m apos) (e::es) [] pos) (nH P w K mg base k m ta t):=by
 subst e1 e2 e3 e4 e5;intro pins s σ H Q I h;refine PySem.W.methodCall_KW (pl:=pl) (bQ (he pins s σ H _ I h) fun u s1 ⟨x,H1,I1,rx,a,C,dx,fs,ps,sp,ex,ea,l,M,q⟩=>?_) ht;subst ex;obtain rfl:u=Value.ref a:=rx;obtain⟨f,fd,hm,F,hb⟩:=M.ex;refine ju I1 ea M.cl hm l ?_;refine callWith_K (first:=[.ref a]) (h₀:=X.base) I.ok.mod.kin hm.kp (bQ (ha pos pins s1 σ H1 _ I1 q) fun us s2 ⟨vs,H2,I2,r,q2⟩=>⟨I2.kIn,?_⟩) hst hpl;exact jM (us:=.ref a::us) (vs:=.ref a::vs) (dvs:=[]) (E:=E0) F hr hb .nil lC I2 (.cons rfl r) (by rw [af2];exact q2)
theorem lD(P:Program)(w:World)(K:Frag)(mg:Str→Option Value)(base:Heap){pl:Sem Bool}(hr:b8 k X.A)(he:PE X o ta)(e1:X.prog=P:=by rfl)(e2:X.w=w:=by rfl)(e3:X.K=K:=by rfl)(e4:X.mg=mg:=by rfl)(e5:X.base=base:=by rfl)
  (ht:eval (.Call (.Attribute o m apos) [] [] pos) X.env=(do
   let ov ←eval o X.env
   standAt apos.atName
   let (f,first) ←holding [ov] (getMethod ov m pl)
   callWith pos f first (backTo pos (starEach [] X.env)) (backToKw pos (keywordEach [] X.env))):=by rfl) :
  PE X (.Call (.Attribute o m apos) [] [] pos) (nH P w K mg base k m ta qu):=by
 subst e1 e2 e3 e4 e5;intro pins s σ H Q I h;refine PySem.W.methodCall_KW (pl:=pl) (bQ (he pins s σ H _ I h) fun u s1 ⟨x,H1,I1,rx,a,C,dx,fs,ps,sp,ex,ea,l,M,q⟩=>?_) ht;subst ex;obtain rfl:u=Value.ref a:=rx;obtain⟨f,fd,hm,F,hb⟩:=M.ex;refine ju I1 ea M.cl hm l ?_;exact PySem.W.callWith_K0 (first:=[.ref a]) I1.kIn hm.kp (jM (us:=[.ref a]) (vs:=[.ref a]) (dvs:=[]) (E:=E0) F hr hb .nil lC I1 (.cons rfl .nil) q)
theorem uP(P:Program)(w:World)(K:Frag)(mg:Str→Option Value)(base:Heap)(hr:b8 k X.A)(he:PE X o ta)(ha:PA X (e::es) t)(e1:X.prog=P:=by rfl)(e2:X.w=w:=by rfl)(e3:X.K=K:=by rfl)(e4:X.mg=mg:=by rfl)(e5:X.base=base:=by rfl)
  (hst:starEach (e::es) X.env=(false,eval e X.env)::starEach es X.env:=by rfl) (hpl:(backTo pos (starEach es X.env)).any (·.1)=false:=by rfl)
  (hev:eval (.Call o (e::es) [] pos) X.env=(do callWith pos (←eval o X.env) [] (backTo pos (starEach (e::es) X.env)) (backToKw pos (keywordEach [] X.env))):=by rfl) :
  PE X (.Call o (e::es) [] pos) (qt P w K mg base k ta t):=by
 subst e1 e2 e3 e4 e5;intro pins s σ H Q I h;refine Call_ (bQ (he pins s σ H _ I h) fun u s1 ⟨x,H1,I1,rx,f,ps,sp,ex,M,q⟩=>?_) hev;subst ex;obtain rfl:u=Value.ref f:=rx;obtain⟨fd,F,hk,hb⟩:=M.ex;refine callWith_K (h₀:=X.base) I.ok.mod.kin hk (bQ (ha pos pins s1 σ H1 _ I1 q) fun us s2 ⟨vs,H2,I2,r,q2⟩=>⟨I2.kIn,?_⟩) hst hpl;exact jM (us:=us) (vs:=vs) (dvs:=[]) (E:=E0) F hr hb .nil lC I2 r (by rw [af2];exact q2)
theorem ck{pl:Sem Bool}(d:gM X.prog X.w X.K X.mg X.base x m k ps sp)(hr:b8 k X.A)(hg:Gl X x)(ha:PA X (e::es) t)(hdb:(x == ("__debug__":Str))=false:=by decide)
  (hst:starEach (e::es) X.env=(false,eval e X.env)::starEach es X.env:=by rfl) (hpl:(backTo pos (starEach es X.env)).any (·.1)=false:=by rfl)
  (ht:eval (.Call (.Attribute (.Name x p) m apos) (e::es) [] pos) X.env=(do
   let ov ←eval (.Name x p) X.env
   standAt apos.atName
   let (f,first) ←holding [ov] (getMethod ov m pl)
   callWith pos f first (backTo pos (starEach (e::es) X.env)) (backToKw pos (keywordEach [] X.env))):=by rfl) :
  PE X (.Call (.Attribute (.Name x p) m apos) (e::es) [] pos) (lW sp [] E0 t):=by
 obtain⟨C,f,fd,hm,c,F,hb⟩:=d.ex;intro pins s σ H Q I h;refine PySem.W.methodCall_KW (pl:=pl) (d5 I hg hm ?_ hdb) ht;refine PySem.W.method_cls I.kIn c.ga (PySem.W.cls_value I.kIn c.rd c.at_ rfl ?_);have I1:=I.tok (s.toks+1);refine callWith_K (first:=[]) (h₀:=X.base) I.ok.mod.kin c.kp (bQ (ha pos pins _ σ H _ I1 h) fun us s2 ⟨vs,H2,I2,r,q2⟩=>⟨I2.kIn,?_⟩) hst hpl;exact jM (us:=us) (vs:=vs) F hr hb .nil lC I2 r q2
theorem cz(d:b7 X.prog X.w X.K X.mg X.base x C k ps sp)(hr:b8 (k+1) X.A)(hg:Gl X x)(ha:PA X (e::es) t)(hdb:(x == ("__debug__":Str))=false:=by decide)
  (he:starEach (e::es) X.env=(false,eval e X.env)::starEach es X.env:=by rfl) (hpl:(backTo pos (starEach es X.env)).any (·.1)=false:=by rfl) :
  PE X (.Call (.Name x p) (e::es) [] pos) (rA C sp [] E0 t):=
 let ⟨_,_,M,F,hm,hb⟩:=d.ex;wG M F hr hg hm hb .nil lC ha hdb he hpl
end
def gR(K:Frag)(a:Addr)(D:List (Str×V)):Prop:=(a == sysModules)=false∧∃o es ep,K.lookup a=some o∧o.ExactDict∧o.data=.dict es ep∧KTD.Rows aQ es.toList D
section
variable {prog:Program} {w:World} {A:Around} {E:Value→Shared→Prop} {s:Shared} {K:Frag} {a:Addr} {D:List (Str×V)} {k:Str} {tk:Tok}
theorem gR.typeIs(X:K.In s.heap)(T:gR K a D):s.TypeIs (.ref a) "dict":=let ⟨_,o,_,_,ho,hc,_⟩:=T;⟨o,X _ _ ho,hc.1⟩
theorem iC{Q:Option Value→Shared→Prop}(X:K.In s.heap)(T:gR K a D)(h1:∀d v,KTD.datumAt k D=some d→aQ d v→Q (some v) { s with toks:=s.toks+1 })(h2:KTD.datumAt k D=none→Q none { s with toks:=s.toks+1 }):
  wpAny (model prog w) A (dictGet a (.str k tk)) Q E s:=by
 obtain⟨_,o,es,ep,ho,hc,hd,hr⟩:=T;have ho:=X _ _ ho;unfold dictGet
 try with_reducible refine wpAny_holding ?_
 refine wpAny_bind (wpAny_pyHash_str (wpAny_bind (KTD.kt_dictFind_strs (s:={ s with toks:=s.toks+1 }) ho hd (by obtain⟨l⟩:=es;simpa using hr.exact) ?_)))
 have hq:Q (findBy (fun k v=>v.isStr k) es k) { s with toks:=s.toks+1 }:=by
  have hf:findBy (fun k v=>v.isStr k) es k=(es.toList.find? fun e=>e.key.isStr k).map (·.val):=by
   obtain⟨l⟩:=es;simp [findBy]
  rw [hf]
  cases hat:KTD.datumAt k D with
  | some d=>obtain⟨v,hv,hfl⟩:=hr.find_some hat;rw [hv];exact h1 d v hat hfl
  | none=>rw [hr.find_none hat];exact h2 hat
 rw [findBy_of_findIdx?]at hq
 cases hi:es.findIdx? fun e=>e.key.isStr k with
 | none=>rw [hi]at hq;exact wpAny_pure hq
 | some i=>rw [hi]at hq;exact wpAny_bind (wpAny_dictEntries (s:={ s with toks:=s.toks+1 }) ho hd (wpAny_pure hq))
theorem so{Q:Value→Shared→Prop}(X:K.In s.heap)(T:gR K a D)(h:Q (.bool (!(KTD.datumAt k D).isSome)) { s with toks:=s.toks+1 }):wpAny (model prog w) A (compareOp .NotIn (.str k tk) (.ref a)) Q E s:=by
 have ty:=T.typeIs X;show wpAny _ _ (do return .bool (!(←contains (.ref a) (.str k tk)))) Q E s;refine wpAny_bind ?_;unfold contains
 try with_reducible refine wpAny_holding ?_
 refine wpAny_bind (wpAny_specialOf ty F.slot_dict_contains.lookup ?_);show wpAny _ _ (if (some (Value.builtin "dict.__contains__") == some Value.none)=true then _ else _) _ E s;rw [if_neg (by rw [beq_builtin_none];exact aa0)]
 refine wpAny_bind (wpAny_callSpecialUnlessNone?_slot (name:=Str.ofString "__contains__") ty F.slot_dict_contains
  (wpAny_call_entry F.slot_dict_contains ty F.entry_dict_contains ?_ (F.args_dict_contains_2 _ _)))
 show wpAny _ _ (dictGet a (.str k tk) >>= _) _ _ s;refine wpAny_bind (iC X T (fun d v ha _=>?_) fun hn=>?_)
 ·rw [ha]at h
  show wpAny _ _ (ret (.bool true)) _ _ _;exact wpAny_pure ⟨_,rfl,wpAny_truthy_bool (wpAny_pure h)⟩
 ·rw [hn]at h
  show wpAny _ _ (Builtin.Dict.pendingKey? a (.str k tk) >>= _) _ _ _;exact wpAny_bind (wpAny_pendingKey_other T.1 (wpAny_pure ⟨_,rfl,wpAny_truthy_bool (wpAny_pure h)⟩))
theorem uf{value slice:Expr}{v:V}{Q:Value→Shared→Prop}(X:K.In s.heap)(T:gR K a D)(hv:KTD.datumAt k D=some v)(h:∀u,aQ v u→Q u { s with toks:=s.toks+1 })
  (hs:subscripted slice false (.ref a) (.str k tk)=operate [.ref a,.str k tk] (getItem (.ref a) (.str k tk))) (hg:∀r,letTemporaryGo value (.ref a) r=pure ()) :
  wpAny (model prog w) A (subscriptTail value slice (.ref a) (.str k tk)) Q E s:=by
 have ty:=T.typeIs X;refine subscriptTail_builtin ty F.slot_dict_getitem.lookup ?_ hs hg;unfold getItem
 try with_reducible refine wpAny_holding ?_
 refine wpAny_bind (wpAny_sequenceKey ty (by decide) ?_)
 refine wpAny_bind (wpAny_callSpecial?_slot (name:=Str.ofString "__getitem__") ty F.slot_dict_getitem
  (wpAny_call_entry F.slot_dict_getitem ty F.entry_dict_getitem ?_ (F.args_dict_getitem_2 _ _)))
 show wpAny _ _ (dictGet a (.str k tk) >>= _) _ _ s;refine wpAny_bind (iC X T (fun d v' ha hr=>?_) fun hn=>?_)
 ·rw [hv]at ha
  cases ha;exact wpAny_pure ⟨v',rfl,wpAny_pure (h v' hr)⟩
 ·rw [hv]at hn;cases hn
end
section
variable {X:Cx}
theorem qf(K:Frag)(h:X.K=K:=by rfl):cI X (compareOp .NotIn) (fun x y H Q=>∃k a D,x=.str k∧y=.ref a∧gR K a D∧Q (.bl (!(KTD.datumAt k D).isSome)) H):=by
 subst h;intro pins s σ H x y v u Q I rx ry h;obtain⟨k,a,D,rfl,rfl,T,q⟩:=h;obtain⟨t,rfl⟩:=rx;cases ry;exact so I.kIn T ⟨.bl _,H,I.tok _,rfl,q⟩
theorem uR(K:Frag){x:Str}{p pos:Pos}{b:Expr}{ta tb:TE}(ha:PE X (.Name x p) ta)(hb:PE X b tb)(hs:md b)(hg:∀v r,letTemporaryGo (.Name x p) v r=pure ():=by intro _ _;with_unfolding_all rfl)(h:X.K=K:=by rfl):
  PE X (.Subscript (.Name x p) b pos) (xO (fun x y H Q=>∃k a D v,x=.str k∧False∨x=.ref a∧y=.str k∧gR K a D∧KTD.datumAt k D=some v∧Q v H) ta tb):=by
 subst h;intro pins s σ H Q I h;refine Subscript_ (vP ha hb I h fun v u s2 x y H2 I2 rx ry q=>?_);obtain⟨k,a,D,z,q⟩:=q;rcases q with q | ⟨rfl,rfl,T,hv,q⟩
 ·exact q.2.elim
 cases rx;obtain⟨t,rfl⟩:=ry;exact uf I2.kIn T hv (fun u ru=>⟨z,H2,I2.tok _,ru,q⟩) (hs _ _) (hg _)
end
end L2
namespace L2
open PySem PySem.Spec PyProof.Rows
theorem mL{a b:String}:(Str.ofString a=Str.ofString b)↔a=b:=by
 constructor
 ·intro h
  rw [Str.ofString_eq_toList,Str.ofString_eq_toList]at h
  have h1:(a.toList.map Char.toNat)=(b.toList.map Char.toNat):=by
   have:=congrArg (fun s:Str=>s.cps.toList) h
   simpa using this
  have h2:a.toList=b.toList:=by
   refine List.map_inj_right (f:=Char.toNat) (fun x y e=>?_) |>.mp h1
   exact Char.toNat_inj.mp e
  exact String.toList_inj.mp h2
 ·intro h;rw [h]
structure tj where
 size:Int
 start:Int
 after:Int→Option (List Int)→List Int→Option Int
 closes:Int→Option (List Int)→Bool
abbrev nO:=Addr→Hp→Prop
def iw(RI:nO)(v:V):Sp:=fun vs H Q _=>∃r,vs=[.ref r]∧RI r H∧Q v H
def xP(K:Frag)(H:Hp)(l:Addr)(nv:Nat)(cols:List (List Int)):Prop:=∃ps:List Addr,bf K H l (ps.map V.ref)∧ps.length=cols.length∧∀(i:Nat) (p:Addr) (us:List Int),ps[i]?=some p→cols[i]?=some us→eT K H p (us.map V.int)∧us.length=nv
structure qF(z kind:Str)(ns:List Int):Prop where
 cs:z.cps.toList=du 32 (kind.cps.toList::ns.map j5)
 nb:∀n∈ns,n.natAbs < 10 ^ 40
 nl:ns.length≤20
 ks:32∉kind.cps.toList
 kl:kind.length≤20
 k0:kind.cps.toList≠[]
theorem mK(n:Int):32∉j5 n:=fun h=>by
 have:=pZ n 32 h
 omega
theorem xi{x y:Str}(h:x.cps.toList=y.cps.toList):x=y:=by
 have:=gK x y
 rw [decide_eq_true h]at this;exact of_decide_eq_true this
theorem dQ:∀{xs ys:List Str},xs.map (fun z=>z.cps.toList)=ys.map (fun z=>z.cps.toList)→xs=ys
 | [],[],_=>rfl
 | [],_::_,h=>by simp at h
 | _::_,[],h=>by simp at h
 | x::xs,y::ys,h=>by
  rw [ac1,ac1]at h
  injection h with h1 h2
  rw [xi h1,dQ h2]
def iN(n:Int):Str:=Str.ofString (toString n)
theorem qF.split{z kind:Str}{ns:List Int}(R:qF z kind ns):Txt.split z ⟨#[32]⟩=kind::ns.map iN:=by
 refine dQ ?_;rw [cx z (by decide),R.cs,pq 32 _ (by simp) (fun p hp=>?_),ac1,List.map_map]
 ·rfl
 ·rcases ab7.mp hp with rfl | hp
  ·exact R.ks
  ·obtain⟨n,_,rfl⟩:=ag3.mp hp
   exact mK n
theorem lz(c:Nat):∀(ps:List (List Nat)) (m:Nat),(∀p∈ps,p.length≤m)→(du c ps).length≤ps.length * (m+1)
 | [],_,_=>by simp [du]
 | p::ps,m,h=>by
  have h1:=h p (by simp);have h2:=lz c ps m (fun q hq=>h q (by simp [hq]))
  have h3:(du c (p::ps)).length≤p.length+1+(du c ps).length:=by
   cases ps with
   | nil=>simp [du]
   | cons q ps=>
    simp [du,ab9];omega
  rw [aa8,ai8];omega
theorem qF.head{z kind:Str}{ns:List Int}(R:qF z kind ns):z.cps.toList.head?=kind.cps.toList.head?:=by
 rw [R.cs]
 cases e:kind.cps.toList with
 | nil=>exact absurd e R.k0
 | cons a l=>
  cases ns with
  | nil=>simp [du]
  | cons n ns=>simp [du]
end L2
namespace L2
open PySem PySem.Spec PyProof.Rows
theorem bM(xs:List V)(k:Nat):gs xs (some (k:Int)) none=xs.drop k:=by
 unfold gs;rw [HT.sIx_nat,HT.sIx_none]
 by_cases h:k≤xs.length
 ·rw [aj5 h,ae5 (by rw [ae0];omega)]
 ·rw [ai7 (by omega),List.drop_of_length_le (aa3 _),List.drop_of_length_le (by omega),List.take_nil]
theorem bJ(xs:List V)(k:Nat):gs xs none (some (k:Int))=xs.take k:=by
 unfold gs HT.sIx
 have e:¬((k:Int) < 0):=by omega
 simp [e]
theorem bf.at_ins{K:Frag}{H:Hp}{q x C dx:Addr}{fs:List (Str×V)}{xs:List V}{o:HO}(h:bf K H q xs)(hx:H x=some (.ins C dx fs)):bf K (upd H x o) q xs:=by
 rcases h with(h | ⟨u,h⟩) | h
 ·exact .inl (.inl (by rw [aj (xI h hx (by intro z;cases z))];exact h))
 ·exact .inl (.inr ⟨u,by rw [aj (xI h hx (by intro z;cases z))];exact h⟩)
 ·exact .inr h
theorem dZ{H:Hp}{x l:Addr}{A L B:HO}:upd (upd (upd H x A) l L) x B=upd (upd H l L) x B:=by
 funext b
 unfold upd
 by_cases h:b=x
 ·rw [if_pos h,if_pos h]
 ·rw [if_neg h,if_neg h,if_neg h]
end L2
namespace L2
open PySem PySem.Spec PyProof.Rows
structure bI(K:Frag)(C:Addr)(m qual:Str)(st:Stmt)(f:Addr)(fd:FuncData):Prop where
 me:xR K C m f
 fn:cj K m qual st f fd
theorem methAt_mk{K:Frag}{C:Addr}{m qual:Str}{st:Stmt}{f:Addr}{oc:Value}{od an:Option Addr}{osl:Array (Option Value)}{kV doc pm cdv ct:Value}(a:findIn K (.ref C) m=some (some (.ref f)))(i:isFn K (.ref f)=true)
  (l:K.lookup f=some ⟨oc,od,.func (fnOf m qual (bV st) (bN st) (aq st) .none kV doc pm an cdv ct),osl⟩) (c:codeIn K cdv qual=true) (k:keepIn K (.ref f)=true):∃f fd,bI K C m qual st f fd:=
 ⟨f,_,⟨a,i,k⟩,fun_mk l c k⟩
theorem bI.ok{P:Program}{w:World}{K:Frag}{mg:Str→Option Value}{base:Heap}{C:Addr}{m qual:Str}{st:Stmt}{f:Addr}{fd:FuncData}{k:Nat}{ps:List Str}{sp:Sp}(A:bI K C m qual st f fd)(cl:iR K C)(ok:aC P w K mg base bC k f fd ps sp)(b:cf K fd ps []):aN P w K mg base C m k ps sp:=⟨cl,f,fd,A.me,ok,b⟩
structure iQ(K:Frag)(x m qual:Str)(st:Stmt)(C f:Addr)(fd:FuncData):Prop where
 ns:nsIn K mainGlobals x=some (some (.ref C))
 cm:xq K C m f
 fn:cj K m qual st f fd
theorem cmethAt_mk{K:Frag}{C:Addr}{x m qual:Str}{st:Stmt}{f:Addr}{oc:Value}{od an:Option Addr}{osl:Array (Option Value)}{kV doc pm cdv ct:Value}(n:nsIn K mainGlobals x=some (some (.ref C)))(r:PySem.W.readsIn K C (.type "type")=true)(a:PySem.W.findCls K (.ref C) (.type "type") m=some (.val (.ref f)))
  (g:PySem.W.specialIn K (.ref C) "__getattribute__"=some (some (.builtin "type.__getattribute__")))
  (l:K.lookup f=some ⟨oc,od,.func (fnOf m qual (bV st) (bN st) (aq st) .none kV doc pm an cdv ct),osl⟩) (c:codeIn K cdv qual=true) (k:keepIn K (.ref f)=true):∃C f fd,iQ K x m qual st C f fd:=
 ⟨C,f,_,n,⟨r,a,g,k⟩,fun_mk l c k⟩
theorem iQ.df{P:Program}{w:World}{K:Frag}{mg:Str→Option Value}{base h:Heap}{x m qual:Str}{st:Stmt}{C f:Addr}{fd:FuncData}{k:Nat}{ps:List Str}{sp:Sp}(A:iQ K x m qual st C f fd)(X:K.In h)(G:h.Ns mainGlobals mg)(ok:aC P w K mg base bC k f fd ps sp)(b:cf K fd ps []):gM P w K mg base x m k ps sp:=
 ⟨C,f,fd,mg_of X G A.ns,A.cm,ok,b⟩
structure gO(K:Frag)(x qual:Str)(st:Stmt)(C f:Addr)(fd:FuncData):Prop where
 ns:nsIn K mainGlobals x=some (some (.ref C))
 mm:Mk K C f
 fn:cj K "__init__" qual st f fd
theorem mkAt_mk{K:Frag}{C:Addr}{x qual:Str}{st:Stmt}{f:Addr}{oc:Value}{od an:Option Addr}{osl:Array (Option Value)}{kV doc pm cdv ct:Value}(n:nsIn K mainGlobals x=some (some (.ref C)))(mk:PySem.W.makesIn K C=true)(a:findIn K (.ref C) "__init__"=some (some (.ref f)))(i:isFn K (.ref f)=true)(kc:keepIn K (.ref C)=true)
  (l:K.lookup f=some ⟨oc,od,.func (fnOf "__init__" qual (bV st) (bN st) (aq st) .none kV doc pm an cdv ct),osl⟩) (c:codeIn K cdv qual=true) (k:keepIn K (.ref f)=true):∃f fd,gO K x qual st C f fd:=
 ⟨f,_,n,⟨mk,a,i,kc⟩,fun_mk l c k⟩
theorem gO.df{P:Program}{w:World}{K:Frag}{mg:Str→Option Value}{base h:Heap}{x qual:Str}{st:Stmt}{C f:Addr}{fd:FuncData}{k:Nat}{ps:List Str}{sp:Sp}(A:gO K x qual st C f fd)(X:K.In h)(G:h.Ns mainGlobals mg)(ok:aC P w K mg base bC k f fd ps sp)(b:cf K fd ps []):b7 P w K mg base x C k ps sp:=
 ⟨f,fd,A.mm,ok,mg_of X G A.ns,b⟩
theorem x9{n:Nat}{k:Int}(h0:0≤k)(h1:k < n):ug n k=some k.toNat:=by
 unfold ug;obtain⟨j,rfl⟩:=ad4 h0;simp;omega
theorem rowsR{e:DictEntry}{x:Str}{t:Tok}{f:Addr}{es:List DictEntry}{D:List (Str×V)}(h1:e.key=.str x t)(h2:e.val=.ref f)(r:KTD.Rows aQ es D):KTD.Rows aQ (e::es) ((x,V.ref f)::D):=.cons h1 h2 r
theorem tab_mk{K:Frag}{a:Addr}{o:Obj}{es:Array DictEntry}{ep:Nat}{D:List (Str×V)}(l:K.lookup a=some o)(s:(a == sysModules)=false)(x:o.cls=.type "dict")(y:o.dict=none)(z:o.slots=#[])(d:o.data=.dict es ep)(r:KTD.Rows aQ es.toList D):gR K a D:=⟨s,o,es,ep,l,⟨x,y,z⟩,d,r⟩
theorem defAtD_mk2{K:Frag}{x:Str}{st:Stmt}{f T:Addr}{oc:Value}{od an:Option Addr}{osl:Array (Option Value)}{kV doc pm cdv ct u:Value}{o:Obj}{n:Nat}{v:V}(a:nsIn K mainGlobals x=some (some (.ref f)))
  (l:K.lookup f=some ⟨oc,od,.func (fnOf x x (bV st) (bN st) (aq st) (.ref T) kV doc pm an cdv ct),osl⟩) (c:codeIn K cdv x=true) (k:keepIn K (.ref f)=true)
  (t:K.lookup T=some o) (d:o.data=.seq #[u] n) (r:aQ v u):∃f fd u,sT K x st f fd u∧aQ v u:=
 ⟨f,_,u,⟨a,T,o,n,⟨⟨oc,od,kV,doc,pm,an,cdv,ct,osl,rfl,l,c⟩,k⟩,t,d⟩,r⟩
end L2
namespace L2
open PySem PySem.Spec PyProof.Rows
section
variable {X:Cx}
theorem j3:bR X (.type "str") (fun xs H Q=>∃z,xs=[.str z]∧Q (.str z) H):=by
 intro pins s σ H xs us Q I r h;obtain⟨z,rfl,q⟩:=h;obtain⟨u,rfl,ru⟩:=dP r;obtain⟨t,rfl⟩:=ru;exact P.str_of_str ⟨.str z,H,I,⟨t,rfl⟩,q⟩
def qj:List V→Hp→VK→Prop:=fun xs H Q=>(∃i,xs=[.int i]∧i.natAbs.log2 < 1920∧Q (.str (iN i)) H)∨∃z,xs=[.str z]∧Q (.str z) H
theorem b9:bR X (.type "str") qj:=call_str_int.or j3
end
theorem rStr_i{i:Int}{H:Hp}{Q:VK}:qj [.int i] H Q↔i.natAbs.log2 < 1920∧Q (.str (iN i)) H:=by simp [qj]
theorem yJ{z:Str}{H:Hp}{Q:VK}:qj [.str z] H Q↔Q (.str z) H:=by simp [qj]
end L2
namespace L3
open PySem PySem.Spec PyProof.Rows
section
variable {prog:Program} {w:World} {A:Around} {E:Value→Shared→Prop} {s:Shared}
end
end L3
namespace L2
open PySem PySem.Spec PyProof.Rows
def zt(K:Frag)(n:Nat)(t:ze):TG:=fun v σ H Q=>∃a l xs,v=.ref a∧nP K l H a xs∧xs.length=n∧t xs σ H Q
theorem rJ{α:Type}{xs:List α}{v:α}{n:Nat}(hl:xs.length=n+1)(h:xs[n]?=some v):dG xs (-1)=some v:=by
 unfold dG ug;rw [if_neg (by decide),if_pos (by omega),hl];show xs[((-1:Int)+((n+1:Nat):Int)).toNat]?=some v;rw [show((-1:Int)+((n+1:Nat):Int)).toNat=n by omega];exact h
end L2
namespace L2
open PySem PySem.Spec PyProof.Rows
section
variable {X:Cx} {e st:Expr} {te:TE} {p2 pos:Pos}
def z0(K:Frag)(te ts:TE):TE:=fun σ H Q=>te σ H fun x H1=>ts σ H1 fun y H2=>y=.int (-1)∧∃a xs,x=.ref a∧bf K H2 a xs∧∀p,H2 p=none→Q (.ref p) (upd H2 p (.lst xs.reverse))
end
end L2
namespace L2
open PySem PySem.Spec PyProof.Rows
def l9(H:Hp)(nv:Nat)(ps:List Addr)(cols:List (List Int)):Prop:=ps.length=cols.length∧∀(i:Nat) (p:Addr) (us:List Int),ps[i]?=some p→cols[i]?=some us→H p=some (.tup (us.map V.int))∧us.length=nv
theorem l9.at{K:Frag}{H:Hp}{nv:Nat}{ps:List Addr}{cols:List (List Int)}(h:l9 H nv ps cols):∀(i:Nat) (p:Addr) (us:List Int),ps[i]?=some p→cols[i]?=some us→eT K H p (us.map V.int)∧us.length=nv:=fun i p us e1 e2=>⟨eT.of (h.2 i p us e1 e2).1,(h.2 i p us e1 e2).2⟩
theorem l9.line{K:Frag}{H:Hp}{nv:Nat}{ps:List Addr}{cols:List (List Int)}{l:Addr}(h:l9 H nv ps cols)(hl:H l=some (.lst (ps.map V.ref))):xP K H l nv cols:=⟨ps,bf.of hl,h.1,h.at⟩
end L2
namespace L3
open PySem PySem.Spec PyProof.Rows L2 HT
section
variable {prog:Program} {w:World} {A:Around} {E:Value→Shared→Prop} {s:Shared}
end
end L3
namespace L2
open PySem PySem.Spec PyProof.Rows
section
variable {X:Cx}
def xM(K:Frag):R2:=fun x y H Q=>∃a b ys,x=.ref a∧y=.ref b∧eT K H a []∧eT K H b ys∧Q (.ref b) H
def gB(K:Frag):R2:=fun x y H Q=>cE K x y H Q∨xM K x y H Q
end
theorem oQ{K:Frag}{i j:Int}{H:Hp}{Q:VK}:gB K (.int i) (.int j) H Q↔Q (.int (i+j)) H:=by
 simp [gB,jJ,xM]
theorem yc(K:Frag):jx (gB K)=gB K:=qU fun _ _ _ _=>oQ
theorem v8{K:Frag}{x y:V}{H:Hp}{Q:VK}:jx (gB K) x y H Q↔gB K x y H Q:=by rw [yc]
end L2
namespace L2
open PySem PySem.Spec PyProof.Rows
def Itd(lo:Int)(n:Nat):It:=⟨fun i _=>i < n,fun i H x H'=>H'=H∧x=.int (lo - i),fun i _=>n≤i⟩
section
variable {X:Cx} {tg:Expr}
def xE(ta:TA):TI:=fun σ H R=>ta σ H fun vs H1=>∃i j:Int,vs=[.int i,.int j,.int (-1)]∧(-(2 ^ 62)≤i∧i < 2 ^ 62∧-(2 ^ 62)≤j∧j < 2 ^ 62)∧R (Itd i (i - j).toNat) H1
end
theorem fS:∀{ns:List Int} {us:List Value},aS (ns.map V.int) us→∃ps:List (Int×Tok),us=ps.map (fun p=>Value.int p.1 p.2)∧ps.map (·.1)=ns
 | [],_,.nil=>⟨[],rfl,rfl⟩
 | n::ns,_,.cons r t=>by
  obtain⟨ps,e1,e2⟩:=fS t;obtain⟨tk,rfl⟩:=r;exact⟨(n,tk)::ps,by rw [e1];rfl,by rw [←e2];rfl⟩
end L2
namespace L2
open PySem PySem.Spec PyProof.Rows
def cw(c:Nat):Nat→List Nat→List (List Nat)
 | 0,l=>[l]
 | _+1,[]=>[[]]
 | n+1,a::l=>if a=c then []::cw c n l else match cw c (n+1) l with
  | []=>[[a]]
  | p::r=>(a::p)::r
theorem nz(c:Nat):∀n l,cw c n l≠[]
 | 0,l=>by simp [cw]
 | n+1,[]=>by simp [cw]
 | n+1,a::l=>by
  simp only [cw]
  split
  ·simp
  ·split<;>simp
theorem fB(x:Str)(c:Nat)(lim:Nat):∀(l:List Nat) (i:Nat) (acc:Array Nat) (fr:Nat),x.cps.toList.drop i=l→fr≤i→
  (forIn (List.range' i (l.length+1)) (acc,fr) (StrLaws.occBody x ⟨#[c]⟩ x.length lim)).run.fst.toList=acc.toList++(b6 c l i).take (lim - acc.size)
 | [],i,acc,fr,hl,hf=>by
  have hi:x.length≤i:=by
   rw [az];exact ag2.mp hl
  show(forIn [i] (acc,fr) _:Id _).run.fst.toList=_;rw [ag6];unfold StrLaws.occBody;rw [if_neg (by intro h;have:=h.1.2;have e1:(⟨#[c]⟩:Str).length=1:=rfl;rw [e1]at this;omega)];show acc.toList=_;simp [b6]
 | b::l,i,acc,fr,hl,hf=>by
  have hb:x.cps.toList[i]?=some b:=by
   have:(x.cps.toList.drop i)[0]?=some b:=by rw [hl];rfl
   rwa [af0,aj2]at this
  have hi:i < x.length:=by
   rw [az];obtain⟨h,_⟩:=ab5.mp hb;exact h
  have hd:x.cps.toList.drop (i+1)=l:=by
   rw [←ah1,hl];rfl
  have e1:(⟨#[c]⟩:Str).length=1:=rfl;show(forIn (i::List.range' (i+1) (l.length+1)) (acc,fr) _:Id _).run.fst.toList=_;rw [ag6];unfold StrLaws.occBody
  by_cases hc:b=c
  ·by_cases hs:acc.size < lim
   ·rw [if_pos ⟨⟨⟨hs,hf⟩,by rw [e1];omega⟩,((StrLaws.subAt_one x c i).mpr (by rw [hb,hc])).2⟩]
    show(forIn (List.range' (i+1) (l.length+1)) (acc.push i,i+1) (StrLaws.occBody x ⟨#[c]⟩ x.length lim):Id _).run.fst.toList=_;rw [fB x c lim l (i+1) _ _ hd (aa3 _),Array.size_push];simp only [b6,hc,if_true];rw [show lim - acc.size=(lim - (acc.size+1))+1 by omega,ac3];simp
   ·rw [if_neg (fun h=>hs h.1.1.1)]
    show(forIn (List.range' (i+1) (l.length+1)) (acc,fr) (StrLaws.occBody x ⟨#[c]⟩ x.length lim):Id _).run.fst.toList=_;rw [fB x c lim l (i+1) _ _ hd (by omega)];rw [show lim - acc.size=0 by omega];simp
  ·rw [if_neg (fun h=>hc (by have:=(StrLaws.subAt_one x c i).mp ⟨h.1.2,h.2⟩;rw [hb]at this;exact Option.some.inj this))]
   show(forIn (List.range' (i+1) (l.length+1)) (acc,fr) (StrLaws.occBody x ⟨#[c]⟩ x.length lim):Id _).run.fst.toList=_;rw [fB x c lim l (i+1) _ _ hd (by omega)];simp [b6,hc]
theorem uH(x:Str)(c n:Nat):Builtin.Str.occurrences x ⟨#[c]⟩ 0 x.length n=(b6 c x.cps.toList 0).take n:=by
 rw [StrLaws.occ_eq]
 have e:x.length+1 - 0=x.cps.toList.length+1:=by rw [az];rfl
 rw [e];have h:=fB x c n x.cps.toList 0 #[] 0 rfl (aa3 _);rw [h];rfl
theorem fb(x:Str)(c:Nat):∀(l:List Nat) (n a j:Nat),a≤j→x.cps.toList.drop j=l→j≤x.length→
  (StrLaws.partsFrom x 1 a ((b6 c l j).take n)).map (fun z=>z.cps.toList)=match cw c n l with
   | []=>[]
   | p::r=>((x.cps.toList.drop a).take (j - a)++p)::r
 | l,0,a,j,haj,hl,hj=>by
  simp only [ad8,cw,StrLaws.partsFrom,ac1,aj0,StrLaws.strSub_toList];congr 1;rw [ae5 (by rw [ae0,az];omega)]
  have:=List.take_append_drop (j - a) (x.cps.toList.drop a)
  rw [ah1,show a+(j - a)=j by omega,hl]at this;exact this.symm
 | [],n+1,a,j,haj,hl,hj=>by
  have hj':x.length≤j:=by rw [az];exact ag2.mp hl
  have e:j=x.length:=by omega
  subst e;simp [b6,cw,StrLaws.partsFrom,StrLaws.strSub_toList]
 | b::l,n+1,a,j,haj,hl,hj=>by
  have hb:x.cps.toList[j]?=some b:=by
   have:(x.cps.toList.drop j)[0]?=some b:=by rw [hl];rfl
   rwa [af0,aj2]at this
  have hi:j < x.length:=by
   rw [az];obtain⟨h,_⟩:=ab5.mp hb;exact h
  have hd:x.cps.toList.drop (j+1)=l:=by
   rw [←ah1,hl];rfl
  by_cases hc:b=c
  ·have ih:=fb x c l n (j+1) (j+1) (aa3 _) hd hi
   simp only [b6,hc,if_true,ac3,StrLaws.partsFrom,ac1,cw,af2];rw [ih]
   cases hs:cw c n l with
   | nil=>exact absurd hs (nz c n l)
   | cons p r=>simp [StrLaws.strSub_toList]
  ·have ih:=fb x c l (n+1) a (j+1) (by omega) hd hi
   simp only [b6,hc,if_false,cw];rw [ih]
   cases hs:cw c (n+1) l with
   | nil=>exact absurd hs (nz c (n+1) l)
   | cons p r=>
    have ht:(x.cps.toList.drop a).take (j+1 - a)=(x.cps.toList.drop a).take (j - a)++[b]:=by
     have e1:j+1 - a=(j - a)+1:=by omega
     rw [e1,ad7,af0]
     have e2:a+(j - a)=j:=by omega
     rw [e2,hb];rfl
    simp [ht]
theorem gI(c n:Nat)(rest:List Nat):∀(p:List Nat),c∉p→cw c (n+1) (p++c::rest)=p::cw c n rest
 | [],_=>by simp [cw]
 | a::p,h=>by
  have h1:¬a=c:=fun e=>h (by simp [e]);have ih:=gI c n rest p (fun e=>h (by simp [e]));show cw c (n+1) (a::(p++c::rest))=_;simp only [cw,h1,if_false];rw [ih]
theorem jG(c:Nat)(rest:List Nat):∀(p:List Nat) (i:Nat),b6 c (p++c::rest) i≠[]
 | [],i=>by simp [b6]
 | a::p,i=>by
  show b6 c (a::(p++c::rest)) i≠[];simp only [b6]
  split
  ·simp
  ·exact jG c rest p (i+1)
def cM(z:Str)(c k:Nat):List Str:=Builtin.Str.partsBetween z ((b6 c z.cps.toList 0).take k) 1
theorem d6(z:Str)(c k:Nat):(cM z c k).map (fun y=>y.cps.toList)=cw c k z.cps.toList:=by
 unfold cM;rw [StrLaws.partsBetween_eq,fb z c z.cps.toList k 0 0 (aa3 _) rfl (ab1 _)]
 cases hs:cw c k z.cps.toList with
 | nil=>exact absurd hs (nz c k _)
 | cons p r=>simp
theorem sj{X:Cx}:sQ X "str.split" (fun x xs H Q=>∃z c k,x=.str z∧xs=[.str ⟨#[c]⟩,.int k]∧c < 256∧0 < k∧k < 2 ^ 30∧b6 c z.cps.toList 0≠[]∧z.length < sizeLine∧(cM z c k.toNat).length≤sizeLine∧∀p,H p=none→Q (.ref p) (upd H p (.lst ((cM z c k.toNat).map V.str)))):=by
 intro pins s σ H x xs v us Q I rx r h;obtain⟨z,c,k,rfl,rfl,hc,k0,k1,hne,hz,hlen,q⟩:=h;obtain⟨t,rfl⟩:=rx;obtain⟨u,u2,rfl,⟨t',rfl⟩,⟨t2,rfl⟩⟩:=rD r
 have ek:Builtin.Str.strKind ⟨#[c]⟩=1:=by simp [Builtin.Str.strKind,hc]
 have ek2:1≤Builtin.Str.strKind z:=by unfold Builtin.Str.strKind;split<;>(try split)<;>omega
 have hzl:1≤z.length:=by
  rw [az]
  cases hz':z.cps.toList with
  | nil=>rw [hz']at hne;exact absurd rfl hne
  | cons a l=>simp
 have h1:(decide (z.length < (⟨#[c]⟩:Str).length) || decide (Builtin.Str.strKind z < Builtin.Str.strKind ⟨#[c]⟩))=false:=by
  rw [ek];have e1:(⟨#[c]⟩:Str).length=1:=rfl;rw [e1,decide_eq_false (by omega),decide_eq_false (by omega)];rfl
 have hk:(decide (k < -(2 ^ 63:Int)) || decide (k≥2 ^ 63))=false:=by
  rw [decide_eq_false (by omega),decide_eq_false (by omega)];rfl
 have el:Builtin.Str.occurrences z ⟨#[c]⟩ 0 z.length (PySem.limitOf z k)=(b6 c z.cps.toList 0).take k.toNat:=by
  rw [uH];unfold PySem.limitOf;rw [if_neg (by omega)]
 have hf:(Builtin.Str.occurrences z ⟨#[c]⟩ 0 z.length (PySem.limitOf z k)).isEmpty=false:=by
  rw [el]
  cases hp:b6 c z.cps.toList 0 with
  | nil=>exact absurd hp hne
  | cons a l=>rw [show k.toNat=(k.toNat - 1)+1 by omega];rfl
 have ep:Builtin.Str.partsBetween z (Builtin.Str.occurrences z ⟨#[c]⟩ 0 z.length (PySem.limitOf z k)) (⟨#[c]⟩:Str).length=cM z c k.toNat:=by rw [el];rfl
 have fin:∀(its:List Value) (tk:Nat),aS ((cM z c k.toNat).map V.str) its→EP X pins σ Q (.ref s.heap.objs.size) { s with toks:=tk,heap:=s.heap.push { cls:=.type "list",data:=.seq its.toArray } }:=fun its tk rv=>
  ⟨.ref s.heap.objs.size,_,I.laid (t':=tk) (o:=.lst ((cM z c k.toNat).map V.str)) (fun b ob q=>aa2 _ q) (aa3 _) ⟨by rw [aa1];exact hlen,its,0,rv,ab6 _ rfl⟩,rfl,q _ (I.hok.fresh (aa3 _))⟩
 rw [←ep]at fin hlen;exact call_meets F.slot_str_split (typeIs_str _ _ _) F.entry_str_split (F.args_str_split_3 _ _ _) (meets_str_split_sep_max z ⟨#[c]⟩ k t t' t2 hk h1 rfl hf (ai2 hz) hlen) (fin _ _ (iA _ _))
end L2
namespace L2
open PySem PySem.Spec PyProof.Rows
def s9(K:Frag)(a:Addr)(xs:List V):Prop:=∃(o:Obj) (its:Array Value) (n:Nat),K.lookup a=some o∧o.cls=.type "tuple"∧o.data=.seq its n∧its.size≤sizeLine∧aS xs its.toList
theorem s9.at{K:Frag}{a:Addr}{xs:List V}(h:s9 K a xs)(H:Hp):eT K H a xs:=.inr h
theorem ktup_mk{K:Frag}{a:Addr}{o:Obj}{its:Array Value}{n:Nat}{xs:List V}(l:K.lookup a=some o)(x:o.cls=.type "tuple")(d:o.data=.seq its n)(z:its.size≤sizeLine)(r:aS xs its.toList):s9 K a xs:=⟨o,its,n,l,x,d,z,r⟩
theorem qq(z y:Str){rest:List Nat}(h:z.cps.toList=y.cps.toList++rest):Txt.startswith z y=true:=by
 obtain⟨⟨l⟩⟩:=z;obtain⟨⟨m⟩⟩:=y;simp at h;subst h
 unfold Txt.startswith
 rw [StrLaws.subAt_eq];simp [Str.length]
structure vK(z rest:Str)(t u:Int):Prop where
 cs:z.cps.toList=(Str.ofString "every").cps.toList++32::(j5 t++32::(j5 u++32::rest.cps.toList))
 tb:t.natAbs < 10 ^ 40
 ub:u.natAbs < 10 ^ 40
 rl:rest.length≤10000
theorem vK.split{z rest:Str}{t u:Int}(R:vK z rest t u):cM z 32 3=[Str.ofString "every",iN t,iN u,rest]:=by
 refine dQ ?_;rw [d6,R.cs,gI 32 2 _ _ (by decide +kernel),gI 32 1 _ _ (mK t),gI 32 0 _ _ (mK u)];simp only [cw,ac1,aj0];rfl
theorem vK.pos{z rest:Str}{t u:Int}(R:vK z rest t u):b6 32 z.cps.toList 0≠[]:=by
 rw [R.cs];exact jG 32 _ _ 0
theorem oW{K:Frag}{H:Hp}{a:Addr}{z:Str}{ws:List Str}{Q:VK}(h:eT K H a (ws.map V.str))(q:Q (.bl (!decide (z∈ws))) H):fH K (.str z) (.ref a) H Q:=by
 have e:∀ws:List Str,yZ (.str z) (ws.map V.str)=decide (z∈ws):=by
  intro ws
  induction ws with
  | nil=>rfl
  | cons d D ih=>
   have e:yZ (.str z) ((d::D).map V.str)=((d == z) || yZ (.str z) (D.map V.str)):=rfl
   rw [e,ih,af7,ag7,beq_iff_eq,decide_eq_true_eq,decide_eq_true_eq,ab7];exact⟨fun h=>h.imp Eq.symm id,fun h=>h.imp Eq.symm id⟩
 refine .inr ⟨a,_,rfl,.inr h,rfl,?_,?_⟩
 ·rw [ah0];exact ae7.mpr fun _ _=>rfl
 ·rw [e];exact q
end L2
namespace L2
open PySem PySem.Spec PyProof.Rows
section
variable {X:Cx} {tg:Expr}
end
end L2
namespace L2
open PySem PySem.Spec PyProof.Rows
theorem rT{k:V→Prop}{σ:L2.St}{i:Nat}:(va σ i k)=(∃v,σ[i]?=some (some v)∧k v):=propext m8
theorem rR{v:V}{k:Int→Prop}:(vF v k)=(∃i,v=V.int i∧k i):=propext gr
theorem rQ{v:V}{k:Bool→Prop}:(xt v k)=(∃i,v=V.bl i∧k i):=propext gq
theorem vS{x y:V}{H:Hp}{Q:VK}:(uj lE x y H Q)=(lE x y H Q):=propext zy
theorem vT{x y:V}{H:Hp}{Q:VK}:(uo lF x y H Q)=(lF x y H Q):=propext zB
theorem kL{K:Frag}{x y:V}{H:Hp}{Q:VK}:(jx (cE K) x y H Q)=(cE K x y H Q):=propext v7
theorem kM{K:Frag}{x y:V}{H:Hp}{Q:VK}:(ou (dD K) x y H Q)=(dD K x y H Q):=propext v9
theorem tV{K:Frag}{x y:V}{H:Hp}{Q:VK}:(uj (iO K) x y H Q)=(iO K x y H Q):=propext ye
theorem tW{K:Frag}{x y:V}{H:Hp}{Q:VK}:(uo (iP K) x y H Q)=(iP K x y H Q):=propext yg
theorem rS{K:Frag}{x y:V}{H:Hp}{Q:VK}:(jx (gB K) x y H Q)=(gB K x y H Q):=propext v8
theorem jj{K:Frag}{i j:Int}{H:Hp}{Q:VK}:(cE K (V.int i) (V.int j) H Q)=(Q (V.int (i+j)) H):=propext jJ
theorem jk{K:Frag}{i j:Int}{H:Hp}{Q:VK}:(gB K (V.int i) (V.int j) H Q)=(Q (V.int (i+j)) H):=propext oQ
theorem fV{K:Frag}{i j:Str}{H:Hp}{Q:VK}:(cE K (V.str i) (V.str j) H Q)=(i.length+j.length≤sizeLine∧Q (V.str (i++j)) H):=propext u0
theorem jl{i j:Int}{H:Hp}{Q:VK}:(iF (V.int i) (V.int j) H Q)=(IntMulOk i j∧Q (V.int (i * j)) H):=propext oS
theorem jm{z:Str}{j:Int}{H:Hp}{Q:VK}:(iF (V.str z) (V.int j) H Q)=((-1000000≤j∧j≤1000000∧z.length≤16)∧Q (V.str (dR z j)) H):=propext oU
theorem jn{K:Frag}{i j:Int}{H:Hp}{Q:VK}:(dD K (V.int i) (V.int j) H Q)=(IntMulOk i j∧Q (V.int (i * j)) H):=propext oV
theorem fW{K:Frag}{z:Str}{j:Int}{H:Hp}{Q:VK}:(dD K (V.str z) (V.int j) H Q)=((-1000000≤j∧j≤1000000∧z.length≤16)∧Q (V.str (dR z j)) H):=propext u5
theorem oh{K:Frag}{z:Str}{lo hi:Option Int}{H:Hp}{Q:VK}:(qi K (V.str z) lo hi H Q)=(z.length≤sizeLine∧Q (V.str (Txt.slice z lo hi)) H):=propext yF
theorem qO{K:Frag}{z:Str}{i:Int}{H:Hp}{Q:VK}:(yB K (V.str z) (V.int i) H Q)=(z.length≤sizeLine∧∃c,dG z.cps.toList i=some c∧Q (V.str { cps:=#[c] }) H):=propext zU
theorem n0{i j:Int}{H:Hp}{Q:VK}:(lE (V.int i) (V.int j) H Q)=(Q (V.bl (decide (i=j))) H):=propext rEq_ii
theorem oa{i j:Int}{H:Hp}{Q:VK}:(lF (V.int i) (V.int j) H Q)=(Q (V.bl !decide (i=j)) H):=propext rNe_ii
theorem n6{i j:Str}{H:Hp}{Q:VK}:(lE (V.str i) (V.str j) H Q)=(Q (V.bl (decide (i=j))) H):=propext m6
theorem kO{K:Frag}{i j:Int}{H:Hp}{Q:VK}:(m5 K (V.int i) (V.int j) H Q)=(Q (V.bl (decide (i=j))) H):=propext wO
theorem kU{K:Frag}{i j:Int}{H:Hp}{Q:VK}:(m7 K (V.int i) (V.int j) H Q)=(Q (V.bl !decide (i=j)) H):=propext wW
theorem kP{K:Frag}{i j:Str}{H:Hp}{Q:VK}:(m5 K (V.str i) (V.str j) H Q)=(Q (V.bl (decide (i=j))) H):=propext wQ
theorem kW{K:Frag}{i j:Str}{H:Hp}{Q:VK}:(m7 K (V.str i) (V.str j) H Q)=(Q (V.bl !decide (i=j)) H):=propext wX
theorem kN{K:Frag}{i j:Bool}{H:Hp}{Q:VK}:(m5 K (V.bl i) (V.bl j) H Q)=(Q (V.bl (decide (i=j))) H):=propext wN
theorem kT{K:Frag}{i j:Bool}{H:Hp}{Q:VK}:(m7 K (V.bl i) (V.bl j) H Q)=(Q (V.bl !decide (i=j)) H):=propext wV
theorem og{i j:Str}{H:Hp}{Q:VK}:(lF (V.str i) (V.str j) H Q)=(Q (V.bl !decide (i=j)) H):=propext rNe_ss
theorem nZ{i j:Bool}{H:Hp}{Q:VK}:(lE (V.bl i) (V.bl j) H Q)=(Q (V.bl (decide (i=j))) H):=propext u3
theorem n9{i j:Bool}{H:Hp}{Q:VK}:(lF (V.bl i) (V.bl j) H Q)=(Q (V.bl !decide (i=j)) H):=propext u6
theorem n8{K:Frag}{c:Nat}{z:Str}{H:Hp}{Q:VK}:(u4 K (V.str { cps:=#[c] }) (V.str z) H Q)=(Q (V.bl (decide (c∈z.cps.toList))) H):=propext yz
theorem iD{K:Frag}{c:Nat}{z:Str}{H:Hp}{Q:VK}:(fH K (V.str { cps:=#[c] }) (V.str z) H Q)=(Q (V.bl !decide (c∈z.cps.toList)) H):=propext sF
theorem oi{i:Int}{H:Hp}{Q:VK}:(qj [V.int i] H Q)=(i.natAbs.log2 < 1920∧Q (V.str (iN i)) H):=propext rStr_i
theorem oj{z:Str}{H:Hp}{Q:VK}:(qj [V.str z] H Q)=(Q (V.str z) H):=propext yJ
theorem kQ{K:Frag}{i j:Int}{H:Hp}{Q:VK}:(iO K (V.int i) (V.int j) H Q)=(Q (V.bl (decide (i=j))) H):=propext qY
theorem kX{K:Frag}{i j:Int}{H:Hp}{Q:VK}:(iP K (V.int i) (V.int j) H Q)=(Q (V.bl !decide (i=j)) H):=propext ra
theorem kR{K:Frag}{i j:Str}{H:Hp}{Q:VK}:(iO K (V.str i) (V.str j) H Q)=(Q (V.bl (decide (i=j))) H):=propext qZ
theorem kY{K:Frag}{i j:Str}{H:Hp}{Q:VK}:(iP K (V.str i) (V.str j) H Q)=(Q (V.bl !decide (i=j)) H):=propext rb
theorem nY{K:Frag}{b k:Bool}{H:Hp}:(vL K (V.bl b) H k)=(k=b):=propext TruV_b
theorem qP{K:Frag}{z:Str}{H:Hp}:(z4 K "str" (V.str z) H)=(True):=propext z5
theorem jh{K:Frag}{i j:Str}{H:Hp}{Q:VK}:jx (cE K) (.str i) (.str j) H Q=(i.length+j.length≤sizeLine∧Q (.str (i++j)) H):=by rw [kL,fV]
theorem ji{K:Frag}{z:Str}{j:Int}{H:Hp}{Q:VK}:ou (dD K) (.str z) (.int j) H Q=((-1000000≤j∧j≤1000000∧z.length≤16)∧Q (.str (dR z j)) H):=by rw [kM,fW]
theorem pP{α:Sort u}{p:α→Prop}{a':α}:(∃a,a'=a∧p a)=p a':=propext exists_eq_left'
theorem tR{α:Sort u}{a':α}:(∃a,a'=a)=True:=eq_true ⟨_,rfl⟩
theorem xy{α:Sort u}{a':α}:(∃a,a=a')=True:=eq_true ⟨_,rfl⟩
theorem tU{α:Sort u}{p:α→Prop}{a':α}:(∃a,a=a'∧p a)=p a':=propext exists_eq_left
theorem tQ{α:Sort u}{p:α→Prop}{b:Prop}:(∃x,b∧p x)=(b∧∃x,p x):=propext exists_and_left
theorem tP{a b c:Prop}:((a∧b)∧c)=(a∧b∧c):=propext and_assoc
theorem tT{α:Sort u}:(∃_:α,False)=False:=eq_false exists_false
theorem xx{b:Prop}(α:Sort u)[Nonempty α]:(∃_:α,b)=b:=propext (exists_const α)
theorem zo{p:Prop}{x:Decidable p}:(decide p=false)=¬p:=propext decide_eq_false_iff_not
theorem cK{c:TT}{t w:TS}{D:eU}{σ:L2.St}{H:Hp}(h:∀A B:Hp→Prop,(∀H,jY t w D σ H→A H)→(∀H,w D σ H→B H)→c σ H fun b H1=>if b=true then A H1 else B H1):jY (vj c t pz) w D σ H:=h _ _ (fun _ x=>x) fun _ x=>x
end L2
namespace L2
open PySem PySem.Spec PyProof.Rows
section
variable {prog:Program} {w:World} {A:Around} {R:Result→Shared→Prop} {it al bb:Addr} {items:Array Value} {G:Heap→Prop} {kf:Nat→List Int} {d:Value}
end
section
variable {prog:Program} {w:World} {A:Around} {E:Value→Shared→Prop} {s:Shared}
end
end L2
namespace L2
open PySem PySem.Spec PyProof.Rows
section
variable {prog:Program} {w:World} {A:Around} {E:Value→Shared→Prop} {s:Shared}
end
end L2
namespace XE
open PySem
open Sem (wp)
section
variable {M:Model} {A:Around} {E:Value→Shared→Prop} {s:Shared}
def Tr(h:Heap)(e T:Addr)(cls:Value)(dc:Option Addr)(fl:Value):Prop:=
 ∃oe vs oT ts,h.get? e=some oe∧(oe.cls=cls∧oe.dict=dc)∧oe.data=.fields vs∧vs[1]?=some (.ref T)∧T≠e∧h.get? T=some oT∧oT.data=.fields ts∧ts[3]?=some fl
def AJ(h:Heap)(e:Addr)(cls:Value)(dc:Option Addr):Prop:=∃oe vs,h.get? e=some oe∧(oe.cls=cls∧oe.dict=dc)∧oe.data=.fields vs∧vs[1]?=some .none
def On(base:Heap)(l:List Env)(e:Addr)(h:Heap):Prop:=base.StaysIn h∧base.get? e=none∧h.FunFrames base l
theorem Tr.there{h:Heap}{e T:Addr}{cls:Value}{dc:Option Addr}{fl:Value}(x:Tr h e T cls dc fl):∃o vs,h.get? e=some o∧o.cls=cls∧o.dict=dc∧o.data=.fields vs:=
 let ⟨o,vs,_,_,a,b,c,_⟩:=x;⟨o,vs,a,b.1,b.2,c⟩
theorem Tr.tb{h:Heap}{e T:Addr}{cls:Value}{dc:Option Addr}{fl:Value}(x:Tr h e T cls dc fl):∃o vs,h.get? T=some o∧o.data=.fields vs:=
 let ⟨_,_,o,vs,_,_,_,_,_,a,b,_⟩:=x;⟨o,vs,a,b⟩
theorem entry{base:Heap}{env:Env}{outer:List Env}{L e:Addr}{oe:Obj}{vs:Array Value}{head:Value}{hadNext:Bool}{Q:Unit→Shared→Prop}
  (hfr:A.frames=some (env::outer)) (o:On base (env::outer) e s.heap) (hf:env.frame=some L) (he:s.heap.get? e=some oe) (hd:oe.data=.fields vs) (hsz:1 < vs.size)
  (h:∀h' T,s.heap.objs.size≤T→On base (env::outer) e h'→Tr h' e T oe.cls oe.dict (rawInt L)→s.heap.UpToSlots h'→Q () { s with heap:=h' }) :
  wpAny M A (do let a ←frameOf env;let pl ←entryPlaceOf L hadNext;let b ←EntryCells.newEntry head a .none (rawInt L) .none pl;setField (.ref e) 1 b) Q E s:=by
 obtain⟨hkb,hen,hl⟩:=o
 have hene:e∉(env::outer).filterMap (·.frame):=fun hm=>by
  obtain⟨_,o,ho,hnf⟩:=hl.mem hm
  rw [he]at ho;injection ho with ho;subst ho;exact hnf vs hd
 refine wpAny_bind (wpAny_frameOf_fun hfr hl hf fun h₁ hs₁=>?_);refine wpAny_bind (wpAny_entryPlaceOf fun pl hpl=>?_);unfold EntryCells.newEntry newFields;refine wpAny_bind (wpAny_newObj_type ?_ (hpl.sizeOk5 _ _ _ _ _));have he₁:h₁.get? e=some oe:=(hs₁.2.1 e hene).trans he;have kb₁:base.StaysIn h₁:=fun b o hbo=>(hs₁.2.1 b fun hm=>by rw [(hl.mem hm).1]at hbo;cases hbo).trans (hkb b o hbo);generalize hT:({ cls:=.type "traceback",dict:=none,data:=.fields ([head,.ref L,.none,rawInt L,.none]++(if pl.isEmpty then List.replicate 6 Value.none else pl)).toArray }:Obj)=oT;have he₂:=aa2 (h:=h₁) oT he₁;refine wpAny_setField he₂ hd hsz (h _ h₁.objs.size (Nat.le_of_eq hs₁.1.symm) ?_ ?_ ?_)
 all_goals
  have hTe:h₁.objs.size≠e:=ag8 (aa9 he₁)
  have hd₃:=Obj.data_mapFields hd (·.setIfInBounds 1 (Value.ref h₁.objs.size))
  have he₃:=af8 (Obj.mapFields (·.setIfInBounds 1 (Value.ref h₁.objs.size))) he₂ (Obj.isFreed_of_fields hd₃)
  have keep:∀b o,b≠e→h₁.get? b=some o→((h₁.push oT).update e (Obj.mapFields (·.setIfInBounds 1 (Value.ref h₁.objs.size)))).get? b=some o:=
   fun b o hbe hb=>by
    rw [ad6 _ _ (Ne.symm hbe)];exact aa2 _ hb
  have noRecord:∀b o,s.heap.get? b=some o→(∀vs,o.data≠.fields vs)→b≠e:=fun b o hb hnf q=>by
   rw [q,he]at hb;injection hb with hb;subst hb;exact hnf vs hd
 ·refine⟨fun b o hbo=>keep b o (fun q=>by rw [q,hen]at hbo;cases hbo) (kb₁ b o hbo),hen,hl.of_keeps fun b o hb hnf=>?_⟩
  obtain⟨sl,hs⟩:=hs₁.2.2 b o hb;exact⟨_,keep b _ (noRecord b o hb hnf) hs,rfl⟩
 ·have hT₃:=(ad6 (h₁.push oT) (Obj.mapFields (·.setIfInBounds 1 (Value.ref h₁.objs.size))) (Ne.symm hTe)).trans (ab6 h₁ (by rw [←hT];rfl))
  refine⟨_,_,_,_,he₃,⟨Obj.cls_mapFields _ _,?_⟩,hd₃,by simp [hsz],hTe,hT₃,by rw [←hT],by first | (simp;done) | (rcases hpl with rfl | ⟨_,_,_,_,_,_,_,rfl⟩<;>simp)⟩
  unfold Obj.mapFields
  split<;>rfl
 ·intro b o hb hnf
  obtain⟨sl,hs⟩:=hs₁.2.2 b o hb;exact⟨sl,keep b _ (noRecord b o hb hnf) hs⟩
theorem uG{base:Heap}{env:Env}{outer:List Env}{L e:Addr}{cls:Value}{dc:Option Addr}{Q:Unit→Shared→Prop}
  (hfr:A.frames=some (env::outer)) (hf:env.frame=some L) (o:On base (env::outer) e s.heap) (x:AJ s.heap e cls dc)
  (h:∀h' T,s.heap.objs.size≤T→On base (env::outer) e h'→Tr h' e T cls dc (rawInt L)→s.heap.UpToSlots h'→Q () { s with heap:=h' }):wpAny M A (noteFrame (.ref e) env) Q E s:=by
 obtain⟨oe,vs,he,⟨rfl,rfl⟩,hd,h1⟩:=x;unfold noteFrame;simp only [hf];refine wpAny_bind (wpAny_field he hd h1 ?_);rw [if_neg (by decide)];exact entry hfr o hf he hd (af1.mp h1).1 h
theorem wj{base:Heap}{env:Env}{outer:List Env}{L e T:Addr}{cls:Value}{dc:Option Addr}{Q:Unit→Shared→Prop}
  (hfr:A.frames=some (env::outer)) (hf:env.frame=some L) (o:On base (env::outer) e s.heap) (hnT:base.get? T=none) {fl:Value} (hfl:¬((fl == rawInt L)=true)) (x:Tr s.heap e T cls dc fl)
  (h:∀h' T,s.heap.objs.size≤T→On base (env::outer) e h'→Tr h' e T cls dc (rawInt L)→s.heap.UpToSlots h'→Q () { s with heap:=h' }):wpAny M A (noteFrame (.ref e) env) Q E s:=by
 obtain⟨oe,vs,oT,ts,he,⟨rfl,rfl⟩,hd,h1,hTe,hT,hdT,h3⟩:=x;obtain⟨hkb,hen,hl⟩:=o;unfold noteFrame;simp only [hf];refine wpAny_bind (wpAny_field he hd h1 ?_);rw [if_pos (show(Value.ref T != Value.none)=true from by simp)];refine wpAny_bind (wpAny_field hT hdT h3 ?_);rw [if_neg hfl];refine wpAny_bind (wpAny_setField hT hdT (af1.mp h3).1 ?_)
 have other:∀b,b≠T→(s.heap.update T (Obj.mapFields (·.setIfInBounds 3 Value.none))).get? b=s.heap.get? b:=fun b hb=>ad6 _ _ (Ne.symm hb)
 have noRecord:∀b o,s.heap.get? b=some o→(∀vs,o.data≠.fields vs)→b≠T:=fun b o hb hnf q=>by
  rw [q,hT]at hb;injection hb with hb;subst hb;exact hnf ts hdT
 have hsz:(s.heap.update T (Obj.mapFields (·.setIfInBounds 3 Value.none))).objs.size=s.heap.objs.size:=Heap.size_after_update _ _ _
 exact entry (s:={ s with heap:=s.heap.update T (Obj.mapFields (·.setIfInBounds 3 Value.none)) }) hfr
  ⟨fun b o hbo=>(other b fun q=>by rw [q,hnT]at hbo;cases hbo).trans (hkb b o hbo),hen,hl.of_keeps fun b o hb hnf=>⟨o,(other b (noRecord b o hb hnf)).trans hb,rfl⟩⟩ hf ((other e (Ne.symm hTe)).trans he) hd (af1.mp h1).1
  fun h' T' x0 x1 x2 x3=>h h' T' (hsz▸x0) x1 x2 fun b o hb hnf=>x3 b o ((other b (noRecord b o hb hnf)).trans hb) hnf
theorem sk{env:Env}{L e T:Addr}{cls:Value}{dc:Option Addr}{Q:Unit→Shared→Prop}
  (hf:env.frame=some L) (x:Tr s.heap e T cls dc (rawInt L)) (h:Q () s):wpAny M A (noteFrame (.ref e) env) Q E s:=by
 obtain⟨oe,vs,oT,ts,he,_,hd,h1,hTe,hT,hdT,h3⟩:=x;unfold noteFrame;simp only [hf];refine wpAny_bind (wpAny_field he hd h1 ?_);rw [if_pos (show(Value.ref T != Value.none)=true from by simp)];refine wpAny_bind (wpAny_field hT hdT h3 ?_);rw [if_pos (show(rawInt L == rawInt L)=true from by simp)];exact wpAny_pure h
theorem land{base:Heap}{l:List Env}{e T:Addr}{cls fl:Value}{dc:Option Addr}{Q:Unit→Shared→Prop}(o:On base l e s.heap)(hnT:base.get? T=none)(x:Tr s.heap e T cls dc fl)
  (h:∀h',On base l e h'→Tr h' e T cls dc .none→s.heap.UpToSlots h'→Q () { s with heap:=h' }):wpAny M A (setFlight (.ref e) none) Q E s:=by
 obtain⟨oe,vs,oT,ts,he,hcls,hd,h1,hTe,hT,hdT,h3⟩:=x;obtain⟨hkb,hen,hl⟩:=o;have hsz3:3 < ts.size:=(af1.mp h3).1
 have other:∀b,b≠T→(s.heap.update T (Obj.mapFields (·.setIfInBounds 3 ((none:Option Addr).elim Value.none fun f=>rawInt f)))).get? b=s.heap.get? b:=
  fun b hb=>ad6 _ _ (Ne.symm hb)
 have noRecord:∀b o,s.heap.get? b=some o→(∀vs,o.data≠.fields vs)→b≠T:=fun b o hb hnf q=>by
  rw [q,hT]at hb;injection hb with hb;subst hb;exact hnf ts hdT
 unfold setFlight;refine wpAny_bind (wpAny_field he hd h1 ?_);rw [if_pos (show(Value.ref T != Value.none)=true from by simp)]
 refine wpAny_setField hT hdT hsz3 (h _ ⟨fun b o hbo=>(other b fun q=>by rw [q,hnT]at hbo;cases hbo).trans (hkb b o hbo),hen,
  hl.of_keeps fun b o hb hnf=>⟨o,(other b (noRecord b o hb hnf)).trans hb,rfl⟩⟩ ?_ fun b o hb hnf=>⟨o.slots,(other b (noRecord b o hb hnf)).trans hb⟩)
 exact⟨oe,vs,_,_,(other e (Ne.symm hTe)).trans he,hcls,hd,h1,hTe,af8 _ hT (Obj.isFreed_of_fields (Obj.data_mapFields hdT _)),Obj.data_mapFields hdT _,by simp [hsz3]⟩
def Out(h:Heap)(e:Addr)(cls:Value)(dc:Option Addr)(ts:List Addr):Prop:=(ts=[]∧AJ h e cls dc)∨∃T fl,ts=[T]∧Tr h e T cls dc fl
theorem note_out{base:Heap}{env:Env}{outer:List Env}{L e:Addr}{cls:Value}{dc:Option Addr}{ts:List Addr}{Q:Unit→Shared→Prop}
  (hfr:A.frames=some (env::outer)) (hf:env.frame=some L) (o:On base (env::outer) e s.heap) (hts:∀T∈ts,base.get? T=none) (x:Out s.heap e cls dc ts)
  (h:∀h' T,(T∈ts∨s.heap.objs.size≤T)→On base (env::outer) e h'→Tr h' e T cls dc (rawInt L)→s.heap.UpToSlots h'→Q () { s with heap:=h' }):wpAny M A (noteFrame (.ref e) env) Q E s:=by
 rcases x with⟨rfl,x⟩ | ⟨T,fl,rfl,x⟩
 ·exact uG hfr hf o x fun h' T a=>h h' T (.inr a)
 ·by_cases hfl:(fl == rawInt L)=true
  ·have e:fl=rawInt L:=by simpa using hfl
   subst e;exact sk hf x (h s.heap T (.inl (.head _)) o x (.refl _))
  ·exact wj hfr hf o (hts T (.head _)) hfl x fun h' T a=>h h' T (.inr a)
theorem mJ{base h:Heap}{T:Addr}{ts:List Addr}(k:base.StaysIn h)(hts:∀T∈ts,base.get? T=none)(hT:T∈ts∨h.objs.size≤T):base.get? T=none:=by
 rcases hT with hT | hT
 ·exact hts T hT
 ·cases q:base.get? T with
  | none=>rfl
  | some o=>exact absurd (aa9 (k _ _ q)) (aj1.mpr hT)
theorem leave_out{base:Heap}{env:Env}{outer:List Env}{L e:Addr}{cls:Value}{dc:Option Addr}{ts:List Addr}{Q:Unit→Shared→Prop}
  (hfr:A.frames=some (env::outer)) (hf:env.frame=some L) (o:On base (env::outer) e s.heap) (hts:∀T∈ts,base.get? T=none) (x:Out s.heap e cls dc ts)
  (h:∀h' T,(T∈ts∨s.heap.objs.size≤T)→On base outer e h'→Tr h' e T cls dc .none→s.heap.UpToSlots h'→Q () { s with heap:=h' }):wpAny M A (leaving env (.ref e)) Q E s:=by
 unfold leaving;refine wpAny_bind (note_out hfr hf o hts x fun h₁ T hT o1 x1 u1=>?_);refine land (s:={ s with heap:=h₁ }) o1 (mJ o.1 hts hT) x1 fun h₂ o2 x2 u2=>?_;obtain⟨a,b,_,_,c⟩:=o2;exact h h₂ T hT ⟨a,b,c⟩ x2 (u1.trans u2)
end
inductive Tail(h:Heap)(no:Str→Prop)(bmB:List Value):List Value→Prop
 | base:Tail h no bmB bmB
 | own {A:Addr} {c0:Value} {dd:Option Addr} {cd:ClassData} {sl:Array (Option Value)} {mA:Str→Option Value} {tl:List Value} :
   h.get? A=some { cls:=c0,dict:=dd,data:=.cls cd,slots:=sl }→h.Ns cd.ns mA→(∀n,no n→mA n=none)→Tail h no bmB tl→Tail h no bmB (.ref A::tl)
theorem Tail.hasType{h:Heap}{no:Str→Prop}{bmB tl:List Value}(T:Tail h no bmB tl){X:String}{b:Bool}(hb:bmB.contains (.type X)=b):tl.contains (.type X)=b:=by
 induction T with
 | base=>exact hb
 | own _ _ _ _ ih=>rw [af6,ih];rfl
theorem Tail.ot{h:Heap}{no:Str→Prop}{bmB tl:List Value}(T:Tail h no bmB tl)(hi:no "__init__"):OwnTail h bmB tl:=by
 induction T with
 | base=>exact .base
 | own hA hN hq _ ih=>exact .own hA hN (hq _ hi) ih
section
variable {M:Model} {A:Around} {E:Value→Shared→Prop} {h:Heap} {g:Array GenState} {d:Drawn} {t:Nat} {os:OsState}
variable {nm q:Str} {C N:Addr} {bs bm bmB:List Value} {hdct:Bool} {sn:List Str} {sub:List Value} {ab:Bool} {col:Option Bool} {dd:Option Addr} {k0 k1 k2 k3 k5:Option Value} {B newId initId:String} {no:Str→Prop}
theorem zi{tl:List Value}{n:Str}{y:Option Value}{Q:Option Value→Shared→Prop}(hn:no n)(T:Tail h no bmB tl)(hrest:lookupAlong bmB n=pure y)(hq:Q y ⟨h,g,d,t,os⟩):
  wpAny M A (lookupAlong tl n) Q E ⟨h,g,d,t,os⟩:=by
 induction T with
 | base=>rw [hrest];exact wpAny_pure hq
 | own hA hN hni _ ih=>
  rw [lookupAlong_cons];refine wpAny_bind (wpAny_classOwn_cls hA hN ?_);rw [hni n hn];exact ih
theorem lookup{mN:Str→Option Value}{n:Str}{y:Option Value}{Q:Option Value→Shared→Prop}(t9:no n)
  (hC:h.get? C=some (excClassObj nm q C N bs bm hdct sn sub ab col dd k0 k1 k2 k3 k5 newId)) (hn:h.Ns N mN) (T:Tail h no bmB bm) (hbm:mroOf (.type B)=pure bmB) (hB:typeLookup (.type B) n=pure y)
  (hq:Q (match mN n with | some v=>some v | none=>y) ⟨h,g,d,t,os⟩):wpAny M A (typeLookup (.ref C) n) Q E ⟨h,g,d,t,os⟩:=by
 have hrest:lookupAlong bmB n=pure y:=by rw [typeLookup_eq,hbm]at hB;exact hB
 rw [typeLookup_eq];refine wpAny_bind (wpAny_mroOf_exc hC ?_);rw [lookupAlong_cons];refine wpAny_bind (wpAny_classOwn_exc hC hn ?_)
 cases hv:mN n with
 | some v=>rw [hv]at hq;exact wpAny_pure hq
 | none=>rw [hv]at hq;exact zi t9 T hrest hq
end
section
variable {prog:Program} {w:World} {A:Around} {E:Value→Shared→Prop} {h:Heap} {g:Array GenState} {d:Drawn} {t:Nat} {os:OsState}
variable {nm q:Str} {C N:Addr} {bs bm bmB:List Value} {hdct:Bool} {sn:List Str} {sub:List Value} {ab:Bool} {col:Option Bool} {dd:Option Addr} {k0 k1 k2 k3 k5:Option Value} {B newId initId:String}
theorem made{mN:Str→Option Value}{rest:List Value}{fI:Addr}{oI:Obj}{Q:Fin→Shared→Prop}(F:ExcBaseFacts B newId initId bmB)(T:OwnTail h bmB bm)
  (hC:h.get? C=some (excClassObj nm q C N bs bm hdct sn sub ab col dd k0 k1 k2 k3 k5 newId)) (hn:h.Ns N mN) (hi:mN "__init__"=some (.ref fI)) (hfI:h.get? fI=some oI) (hfc:oI.cls=.type "function")
  (hq:∀h',Heap.MadeExcOf h h' (h.objs.size+1) (.ref C) rest→wpAny (model prog w) A (call (.ref fI) (.ref (h.objs.size+1)::rest)) (fun r s'=>r=.none∧Q (.done (.ret (.ref (h.objs.size+1)))) s') E ⟨h',g,d,t,os⟩)
  (hrest:rest.length≤sizeLine:=by size_fits):wpAny (model prog w) A (Builtin.«type.__call__» ⟨.ref C::rest,[]⟩) Q E ⟨h,g,d,t,os⟩:=by
 repeat (first | with_reducible refine wpAny_loadPart_at hC ?_ | with_reducible refine wpAny_madeBy_exc hC ?_ | wp_step)
 refine codeAny_call_builtin_code (Code.quiet_builtin _ F.quiet) (wpAny_check_new_subU F F.hasB T hC ?_);refine codeAny_exc_new_subU F F.hasB F T hC ?_ hrest;show wpAny _ _ _ _ _ _;generalize ho:({ cls:=.ref C,data:=.fields #[.ref h.objs.size,.none,.none,.none,.bool false,.none] }:Obj)=oe;have hk:∀b o,h.get? b=some o→((h.push { cls:=.type "tuple",data:=.seq rest.toArray }).push oe).get? b=some o:=fun b o e=>aa2 _ (aa2 _ e);have hC₁:=hk _ _ hC;have hn₁:=hn.keeps hk;have T₁:=T.keeps hk
 have hget:((h.push { cls:=.type "tuple",data:=.seq rest.toArray }).push oe).get? (h.objs.size+1)=some oe:=by subst ho;heap_get
 have hoc:oe.cls=.ref C:=by subst ho;rfl
 have hcC:(Value.ref C::bm).contains (.ref C)=true:=by simp
 unfold isInstance
 repeat (first | (with_reducible refine wpAny_loadPart_at hget ?_;rw [hoc]) | (with_reducible refine wpAny_isSubtype_exc hC₁ ?_;rw [hcC]) | wp_step)
 show wpAny _ _ (typeLookup (.ref C) _) _ _ _;refine wpAny_typeLookup_tail hC₁ hn₁ T₁ F.mroIs F.init.lookup ?_;rw [hi];refine wpAny_holding (wpAny_bind ?_);unfold bindSpecial;refine wpAny_bind (wpAny_typeOf (T:="function") ⟨_,hk _ _ hfI,hfc⟩ ?_);rw [if_pos (by decide)];refine wpAny_pure (wpAny_bind (wpAny_mono (hq _ ⟨hk,ah4 (aj7 _),h.objs.size,by rw [hget,←ho],ah4 (aa3 _),?_⟩) (fun r s' hr=>?_) fun _ _ x=>x))
 ·exact aa2 _ (Heap.get?_push_at rfl rfl)
 ·obtain⟨rfl,hQ⟩:=hr
  wp_walk
  exact hQ
theorem call_own{mN:Str→Option Value}{rest:List Value}{fI:Addr}{oI:Obj}{Q:Value→Shared→Prop}(F:ExcBaseFacts B newId initId bmB)(T:OwnTail h bmB bm)
  (hC:h.get? C=some (excClassObj nm q C N bs bm hdct sn sub ab col dd k0 k1 k2 k3 k5 newId)) (hn:h.Ns N mN) (hi:mN "__init__"=some (.ref fI)) (hfI:h.get? fI=some oI) (hfc:oI.cls=.type "function")
  (hq:∀h',Heap.MadeExcOf h h' (h.objs.size+1) (.ref C) rest→wpAny (model prog w) (A.under (.builtin "type.__call__" ⟨.ref C::rest,[]⟩)) (call (.ref fI) (.ref (h.objs.size+1)::rest)) (fun r s'=>r=.none∧Q (.ref (h.objs.size+1)) s') E ⟨h',g,d,t,os⟩)
  (hrest:rest.length≤sizeLine:=by size_fits):wpAny (model prog w) A (call (.ref C) rest) Q E ⟨h,g,d,t,os⟩:=by
 have f1:=tc_lookup;have f2:=tc_bind (.ref C);have hT:(⟨h,g,d,t,os⟩:Shared).TypeIs (.ref C) "type":=⟨_,hC,rfl⟩;refine wpAny_call (codeAny_of_tree ?_);show wpAny _ _ (callAny (.ref C) _) _ _ _
 repeat (any_goals (first | assumption | with_reducible refine wpAny_loadPart_at hC ?_ | wp_step))
 refine⟨rfl,?_⟩;refine codeAny_call_builtin_at (Code.quiet_builtin _ (by decide +kernel)) entry_typeCall (wpAny_check_type_call_sub hC (made (hrest:=hrest) F T hC hn hi hfI hfc fun h' hm=>?_));exact hq h' hm
end
section
variable {M:Model} {A:Around} {E:Value→Shared→Prop} {env:Env}
variable {nm q:Str} {C N:Addr} {bs bm:List Value} {hdct:Bool} {sn:List Str} {sub:List Value} {ab:Bool} {col:Option Bool} {dd:Option Addr} {k0 k1 k2 k3 k5:Option Value} {newId:String}
theorem qk{s:Shared}{x:Sem Value}{Q:Flow→Shared→Prop}(hbase:bm.contains (.type "BaseException")=true)(hh:A.handled=none)
  (h:wpAny M A x (fun v s₁=>∃e oe,v=.ref e∧s₁.heap.get? C=some (excClassObj nm q C N bs bm hdct sn sub ab col dd k0 k1 k2 k3 k5 newId)∧
   s₁.heap.get? e=some oe∧oe.cls=.ref C∧(∃vs,oe.data=.fields vs∧vs[1]?=some .none)∧E (.ref e) s₁) E s) :
  wpAny M A (raiseStmt env (some x) none) Q E s:=by
 have hcB:(Value.ref C::bm).contains (.type "BaseException")=true:=by rw [af6,hbase,ah2]
 unfold raiseStmt;refine wpAny_bind (wpAny_mono h (fun v s₁ h₁=>?_) fun _ _ x=>x);obtain⟨e,⟨oc,od,odt,osl⟩,rfl,hC,he,hcls,⟨vs,hd,h1⟩,hE⟩:=h₁;cases hcls;cases hd;obtain⟨hp,g,d,tk,os⟩:=s₁
 repeat (first | with_reducible refine wpAny_loadPart_at he ?_ | with_reducible refine wpAny_loadPart_at hC ?_ | (with_reducible refine wpAny_isSubtype_exc hC ?_;rw [hcB]) | wp_step)
 rw [h1]
 repeat wp_step
 exact wpAny_raiseNew_none hh hE
end
section
variable {prog:Program} {w:World} {A:Around} {E:Value→Shared→Prop} {s:Shared} {env:Env}
variable {nm q:Str} {C N:Addr} {bs bm:List Value} {hdct:Bool} {sn:List Str} {sub:List Value} {ab:Bool} {col:Option Bool} {dd:Option Addr} {k0 k1 k2 k3 k5:Option Value} {newId:String}
theorem raise_of{ex:Expr}{pos:Pos}{Q:Flow→Shared→Prop}(hbm:bm.contains (.type "BaseException")=true)(hh:A.handled=none)
  (h:wpAny (model prog w) A (eval ex env) (fun v s₁=>∃e oe,v=.ref e∧s₁.heap.get? C=some (excClassObj nm q C N bs bm hdct sn sub ab col dd k0 k1 k2 k3 k5 newId)∧
   s₁.heap.get? e=some oe∧oe.cls=.ref C∧(∃vs,oe.data=.fields vs∧vs[1]?=some .none)∧E (.ref e) s₁) E s) :
  wpAny (model prog w) A (exec (.Raise (some ex) none pos) env) Q E s:=by
 rw [arm_exec_Raise];simp only [evalOpt,Option.map];exact wpAny_bind (wpAny_standAt (qk hbm hh (wpAny_bind (wpAny_mono h (fun v s₃ h₃=>wpAny_bind (wpAny_standAt (wpAny_pure h₃))) fun _ _ x=>x))))
end
section
open Builtin Builtin.ObjectAttr
variable {prog:Program} {w:World} {A:Around} {E:Value→Shared→Prop} {h:Heap} {g:Array GenState} {d:Drawn} {t:Nat} {os:OsState}
variable {nm q:Str} {C N x:Addr} {bs bm bmB:List Value} {sn:List Str} {sub:List Value} {ab:Bool} {col:Option Bool} {dd:Option Addr} {k0 k1 k2 k3 k5:Option Value} {B newId sa owner:String}
 {mN mA:Str→Option Value} {name:Str} {v:Value} {no:Str→Prop}
theorem oX{self:Value}{what:Str}{tl:List Value}(T:Tail h no bmB tl)(hb:refuseLoop self what bmB=pure ()):refuseLoop self what tl=pure ():=by
 induction T with
 | base=>exact hb
 | own _ _ _ _ ih=>rw [refuseLoop_ref];exact ih
theorem tx{M:Model}{o:Obj}{nameV:Value}{Q:Unit→Shared→Prop}(SF:StoreFacts B bmB sa owner)(T:Tail h no bmB bm)
  (hC:h.get? C=some (excClassObj nm q C N bs bm true sn sub ab col dd k0 k1 k2 k3 k5 newId)) (hx:h.get? x=some o) (hc:o.cls=.ref C) (hq:Q () ⟨h,g,d,t,os⟩) :
  wpAny M A (checkBuiltinCall sa ⟨[.ref x,nameV,v],[]⟩) Q E ⟨h,g,d,t,os⟩:=by
 have hcB:(Value.ref C::bm).contains (.type owner)=true:=by rw [af6,T.hasType SF.hasOwner,ah2]
 have ha:=SF.args (.ref x) nameV v;simp only [checkBuiltinCall,SF.kind,SF.split];refine wpAny_bind ?_
 ·unfold isInstance
  repeat (first | (with_reducible refine wpAny_loadPart_at hx ?_;rw [hc]) | (with_reducible refine wpAny_isSubtype_exc hC ?_;rw [hcB]) | wp_step)
  cases hsig:Manifest.signature? sa with
  | none=>exact wpAny_pure hq
  | some sig=>
   simp only [argsOk,hsig]at ha;have h2:Bind.checkArgs sa sig ⟨[.ref x,nameV,v],[]⟩=pure ():=ha;show wpAny M A (Bind.checkArgs sa sig ⟨[.ref x,nameV,v],[]⟩) Q E _;rw [h2];exact wpAny_pure hq
theorem store_first{o:Obj}{Q:Unit→Shared→Prop}(SF:StoreFacts B bmB sa owner)(T:Tail h no bmB bm)(h1:no "__setattr__")(h2:no name)
  (hC:h.get? C=some (excClassObj nm q C N bs bm true sn sub ab col dd k0 k1 k2 k3 k5 newId)) (hn:h.Ns N mN) (hns:mN "__setattr__"=none) (hna:mN name=none)
  (hB:typeLookup (.type B) name=pure none) (hx:h.get? x=some o) (hc:o.cls=.ref C) (hnc:∀c,o.data≠.cls c) (hdn:o.dict=none)
  (hq:∀h' tk',h'.get? x=some { o with dict:=some h.objs.size }→h'.Ns1 h.objs.size (fun y=>if y=name then some v else none)→(∀b ob,b≠x→h.get? b=some ob→h'.get? b=some ob)→h.objs.size < h'.objs.size→Q () ⟨h',g,d,tk',os⟩) :
  wpAny (model prog w) A (setAttr (.ref x) name v) Q E ⟨h,g,d,t,os⟩:=by
 have f3:=SF.slot.bind (.ref x);have hpass:=oX T (SF.passes (.ref x));unfold setAttr callSpecial? specialOf
 repeat (any_goals (first | assumption | (with_reducible refine wpAny_loadPart_at hx ?_;rw [hc]) | (with_reducible refine lookup h1 hC hn T SF.mro SF.slot.lookup ?_;rw [hns]) | wp_step))
 refine codeAny_call_builtin SF.slot.plain SF.entry (tx SF T hC hx hc ?_);unfold Builtin.«object.__setattr__»
 repeat (first | rw [refuse_eq] | (rw [refuseLoop_ref,hpass]) | (with_reducible refine wpAny_loadPart_at hx ?_;rw [hc]) | with_reducible refine wpAny_mroOf_exc hC ?_ | (with_reducible refine lookup h2 hC hn T SF.mro hB ?_;rw [hna]) | wp_step)
 rw [hdn,if_neg (by simp [typeHasDict])]
 split
 ·rename_i hcd
  cases hcd
 split
 ·rename_i c hcd
  exact absurd hcd (hnc c)
 ·have hx₁:(h.push { cls:=.type "dict",data:=.dict #[] }).get? x=some o:=aa2 _ hx
  have hxs:x≠h.objs.size:=ab4 (aa9 hx);refine wpAny_bind (wpAny_alloc' ?_);refine wpAny_bind (wpAny_update' hx₁ ?_);refine wpAny_pure ?_
  have hgd:((h.push { cls:=.type "dict",data:=.dict #[] }).update x fun o=>{ cls:=o.cls,dict:=some h.objs.size,data:=o.data,slots:=o.slots }).get? h.objs.size
    = some { cls:=.type "dict",data:=.dict #[] }:=
   (Heap.get?_update_ne _ _ _ _ hxs.symm).trans (Heap.get?_push_at rfl rfl)
  have hnd:((h.push { cls:=.type "dict",data:=.dict #[] }).update x fun o=>{ cls:=o.cls,dict:=some h.objs.size,data:=o.data,slots:=o.slots }).Ns h.objs.size (fun _=>none):=
   ⟨_,#[],_,hgd,rfl,fun e he=>absurd he (by simp),fun _=>rfl⟩
  show wpAny _ _ (storeInDict h.objs.size (.str name _) name v) _ _ _;unfold storeInDict newKeyGuard;refine wpAny_bind (wpAny_pure (wpAny_bind (wpAny_nsSet1 (Heap.Ns1.of_empty hnd) fun h' hn' hs=>?_)));obtain⟨oD,esD,epD,hoD,hdD,hcD⟩:=hn'.count (Within.cons name v Within.nil);refine wpAny_bind (wpAny_lookBehind hoD (by rw [hdD];exact pastItsLine_dict (aa7 hcD (by rw [aa8,ae4,sizeLine_eq];omega))) ?_)
  wp_walk
  have hx':h'.get? x=some { o with dict:=some h.objs.size }:=?_;refine hq h' _ hx' hn' (fun b ob hbx hb=>?_) (aa9 hoD)
  ·exact(hs.2 b (ab4 (aa9 hb))).trans ((Heap.get?_update_ne _ _ _ _ hbx).trans (aa2 _ hb))
  ·refine(hs.2 x hxs).trans (af8 _ hx₁ ?_)
   have hfr:=(Heap.get?_some_iff.mp hx).2;obtain⟨oc,od,odt,osl⟩:=o
   cases odt<;>first | rfl | exact hfr
end
section
open Builtin Builtin.ObjectAttr
variable {prog:Program} {w:World} {A:Around} {E:Value→Shared→Prop} {h:Heap} {g:Array GenState} {d:Drawn} {t:Nat} {os:OsState}
variable {nm q:Str} {C N a dx:Addr} {bs bm bmB:List Value} {sn:List Str} {sub:List Value} {ab:Bool} {col:Option Bool} {dd:Option Addr} {k0 k1 k2 k3 k5:Option Value} {B newId:String}
 {mN mA:Str→Option Value} {name:Str} {v:Value} {no:Str→Prop} {o:Obj} {vs:Array Value}
theorem om{tk:Tok}{Q:Fin→Shared→Prop}(FB:ExcAttrBase B bmB)(hC:h.get? C=some (excClassObj nm q C N bs bm true sn sub ab col dd k0 k1 k2 k3 k5 newId))(hN:h.Ns N mN)(T:Tail h no bmB bm)(t9:no name)(hna:mN name=none)
  (hB:typeLookup (.type B) name=pure none) (hx:h.get? a=some o) (hc:o.cls=.ref C) (hd:o.data=.fields vs) (hdx:o.dict=some dx) (hns:h.Ns dx mA) (hv:mA name=some v) (hq:Q (.done (.ret v)) ⟨h,g,d,t,os⟩) :
  wpAny (model prog w) A (Builtin.«object.__getattribute__» ⟨[.ref a,.str name tk],[]⟩) Q E ⟨h,g,d,t,os⟩:=by
 unfold Builtin.«object.__getattribute__»
 repeat (first | (with_reducible refine wpAny_loadPart_at hx ?_;rw [hc]) | (with_reducible refine lookup t9 hC hN T FB.mro hB ?_;rw [hna]) | wp_step)
 split
 ·rename_i c hcd
  rw [hd]at hcd;cases hcd
 unfold instanceDict
 repeat (first | (with_reducible refine wpAny_loadPart_at hx ?_;rw [hc]) | with_reducible refine wpAny_loadPart_at hC ?_ | wp_step)
 rw [hdx]
 repeat (first | (with_reducible refine wpAny_nsGet hns ?_;rw [hv]) | wp_step)
 exact hq
theorem nU{M:Model}{nameV:Value}{Q:Unit→Shared→Prop}(FB:ExcAttrBase B bmB)(hC:h.get? C=some (excClassObj nm q C N bs bm true sn sub ab col dd k0 k1 k2 k3 k5 newId))(T:Tail h no bmB bm)
  (hx:h.get? a=some o) (hc:o.cls=.ref C) (hq:Q () ⟨h,g,d,t,os⟩):wpAny M A (checkBuiltinCall "BaseException.__getattribute__" ⟨[.ref a,nameV],[]⟩) Q E ⟨h,g,d,t,os⟩:=by
 have hk:builtinKind "BaseException.__getattribute__"=some .slot:=by decide +kernel
 have hsplit:splitId "BaseException.__getattribute__"=some ("BaseException","__getattribute__"):=by decide +kernel
 have hcB:(Value.ref C::bm).contains (.type "BaseException")=true:=by rw [af6,T.hasType FB.hasBase];rfl
 have ha:=F.args_bexc_ga (.ref a) nameV;simp only [checkBuiltinCall,hk,hsplit];refine wpAny_bind ?_
 ·unfold isInstance
  repeat (first | (with_reducible refine wpAny_loadPart_at hx ?_;rw [hc]) | (with_reducible refine wpAny_isSubtype_exc hC ?_;rw [hcB]) | wp_step)
  exact hq
theorem field_attr{expr:Bool}{Q:Value→Shared→Prop}(FB:ExcAttrBase B bmB)(hC:h.get? C=some (excClassObj nm q C N bs bm true sn sub ab col dd k0 k1 k2 k3 k5 newId))(hN:h.Ns N mN)(T:Tail h no bmB bm)
  (n1:no "__getattribute__") (n2:no "__getattr__") (m1:mN "__getattribute__"=none) (m2:mN "__getattr__"=none) (t9:no name) (hna:mN name=none)
  (hB:typeLookup (.type B) name=pure none) (hx:h.get? a=some o) (hc:o.cls=.ref C) (hd:o.data=.fields vs) (hdx:o.dict=some dx) (hns:h.Ns dx mA) (hv:mA name=some v) (hh:handedOut v=pure v) (hq:Q v ⟨h,g,d,t+1,os⟩) :
  wpAny (model prog w) A (getAttr (.ref a) name expr) Q E ⟨h,g,d,t,os⟩:=by
 have f3:=FB.ga.bind (.ref a)
 have hx0:(expr && onTheHeap (Value.builtin "BaseException.__getattribute__"))=false:=by cases expr<;>rfl
 have hx2:(Value.builtin "BaseException.__getattribute__" == Value.builtin "object.__getattribute__")=false:=by decide +kernel
 have hx1:(onTheHeap (Value.ref C) && Value.builtin "BaseException.__getattribute__" == Value.builtin "object.__getattribute__")=false:=by rw [hx2];rfl
 unfold getAttr getAttrBy
 repeat (any_goals (first | assumption | (with_reducible refine wpAny_loadPart_at hx ?_;rw [hc]) | (with_reducible refine lookup n1 hC hN T FB.mro FB.ga.lookup ?_;rw [m1]) | (with_reducible refine lookup n2 hC hN T FB.mro FB.noGetattr ?_;rw [m2]) | wp_step))
 refine codeAny_call_builtin FB.ga.plain F.entry_bexc_ga (nU FB hC T hx hc (om FB hC hN T t9 hna hB hx hc hd hdx hns hv ?_))
 repeat (any_goals (first | assumption | wp_step))
end
end XE
namespace L2
open PySem PySem.Spec PyProof.Rows
def XO(C d a:Addr):HO:=.ext fun h=>∃o vs,h.get? a=some o∧o.cls=.ref C∧o.dict=some d∧o.data=.fields vs
def XN(C a:Addr):HO:=.ext fun h=>∃o vs,h.get? a=some o∧o.cls=.ref C∧o.dict=none∧o.data=.fields vs∧vs[1]?=some .none
section
variable {P:Program} {w:World} {H:Hp} {h:Heap} {a C d:Addr}
theorem XO.ok(x:∃o vs,h.get? a=some o∧o.cls=.ref C∧o.dict=some d∧o.data=.fields vs):bT P w H h a (XO C d a):=
 ⟨x,let ⟨o,_,e,_⟩:=x;⟨o,e⟩,fun _ _ ⟨o,vs,e,r⟩ k=>⟨o,vs,k o e,r⟩⟩
theorem XN.ok(x:∃o vs,h.get? a=some o∧o.cls=.ref C∧o.dict=none∧o.data=.fields vs∧vs[1]?=some .none):bT P w H h a (XN C a):=
 ⟨x,let ⟨o,_,e,_⟩:=x;⟨o,e⟩,fun _ _ ⟨o,vs,e,r⟩ k=>⟨o,vs,k o e,r⟩⟩
theorem XO.of(x:bT P w H h a (XO C d a)):∃o vs,h.get? a=some o∧o.cls=.ref C∧o.dict=some d∧o.data=.fields vs:=x.1
theorem XN.of(x:bT P w H h a (XN C a)):∃o vs,h.get? a=some o∧o.cls=.ref C∧o.dict=none∧o.data=.fields vs∧vs[1]?=some .none:=x.1
end
structure eL(X:Cx)(pins:List (Addr×Obj))(σ:St)(H:Hp)(s:Shared)(a C d:Addr)(fs:List (Str×V))(ts:List Addr):Prop where
 inv:aJ X pins σ H s
 xo:H a=some (XO C d a)
 xd:H d=some (.xd fs)
 own:∀T∈ts,yY X pins T∧H T=none∧X.s₀.heap.objs.size≤T
 out:XE.Out s.heap a (.ref C) (some d) ts
def Ab(X:Cx)(E:XK)(e:Value)(s:Shared):Prop:=∃pins σ H a C d fs ts,e=.ref a∧eL X pins σ H s a C d fs ts∧E e (some d) H
section
variable {X:Cx} {pins:List (Addr×Obj)} {σ:St} {H:Hp} {s:Shared} {a C d T:Addr} {fs:List (Str×V)} {ts:List Addr} {fl:Value} {h':Heap}
abbrev t8(X:Cx)(s:Shared)(a:Addr)(ts:List Addr):Heap:=PySem.W.hideAll s.heap (a::ts++j1 X.stack)
theorem eL.on(t:eL X pins σ H s a C d fs ts):XE.On (t8 X s a ts) X.stack a s.heap:=
 ⟨fun b o q=>PySem.W.of_hideAll _ q,PySem.W.hideAll_none _ (by simp),PySem.W.funFrames_hide t.inv.stack fun env he b hb=>by
  refine ab0 _ ?_
  exact ai3.mpr ⟨env,he,hb⟩⟩
theorem eL.hid(t:eL X pins σ H s a C d fs ts):∀T∈ts,(t8 X s a ts).get? T=none:=fun T hT=>PySem.W.hideAll_none _ (by simp [hT])
theorem eL.pass(t:eL X pins σ H s a C d fs ts)(st:(t8 X s a ts).StaysIn h')(tr:XE.Tr h' a T (.ref C) (some d) fl)(u:s.heap.UpToSlots h'):
  Un (j1 X.stack) ts H H s.heap h'∧gk X.prog X.w H h':=by
 have keepB:∀b o,s.heap.get? b=some o→b≠a→b∉ts→b∉j1 X.stack→h'.get? b=some o:=fun b o q h1 h2 h3=>
  st b o (PySem.W.hideAll_get _ q (by simp only [List.cons_append,ab7,ac2];exact fun z=>z.elim h1 fun z=>z.elim h2 h3))
 have fr:∀b o,s.heap.get? b=some o→b∈j1 X.stack→∃sl,h'.get? b=some { o with slots:=sl }:=fun b o q hb=>by
  obtain⟨_,o',ho',hd⟩:=t.inv.stack.mem hb;rw [q]at ho';cases ho';exact u b o q hd
 have na:∀b,H b=none→b≠a:=fun b n z=>by rw [z,t.xo]at n;cases n
 refine⟨⟨fun b o q n hb hx=>keepB b o q (na b n) hx hb,fun b o q n hb hx=>fr b o q hb,fun b o q n _=>n,fun b o q hx=>?_,fun _ _ q=>q,fun _ _ _ q=>q,fun b ps q=>⟨#[],by rw [q];simp⟩⟩,fun b o' q=>?_⟩
 ·by_cases h1:b=a
  ·subst h1
   obtain⟨o1,_,e1,_⟩:=tr.there;exact⟨o1,e1⟩
  ·by_cases h2:b∈j1 X.stack
   ·obtain⟨sl,e⟩:=fr b o q h2
    exact⟨_,e⟩
   ·exact⟨o,keepB b o q h1 hx h2⟩
 ·by_cases h1:b=a
  ·subst h1
   rw [t.xo]at q;cases q;exact XO.ok tr.there
  ·refine(t.inv.hok b o' q).stay (fun c v hc r=>keepB c v r ?_ ?_ ?_) (fun _ z=>z) fun _ _ z=>z
   ·rcases hc with rfl | hc
    ·exact h1
    ·intro z
     rw [z,t.xo]at hc;cases hc
   ·intro z
    have n:=(t.own c z).2.1;rcases hc with rfl | hc
    ·rw [n]at q;cases q
    ·rw [n]at hc;cases hc
   ·intro z
    have n:=t.inv.stkFree c z;rcases hc with rfl | hc
    ·rw [n]at q;cases q
    ·rw [n]at hc;cases hc
theorem eL.go(t:eL X pins σ H s a C d fs ts)(st:(t8 X s a ts).StaysIn h')(tr:XE.Tr h' a T (.ref C) (some d) fl)(u:s.heap.UpToSlots h'):aJ X pins σ H { s with heap:=h' }:=
 t.inv.call' (s':={ s with heap:=h' }) rfl (t.pass st tr u).1 (t.pass st tr u).2 t.inv.bare fun b hb=>⟨(t.own b hb).1.old,(t.own b hb).1.ne,(t.own b hb).1.cells,(t.own b hb).1.pin⟩
theorem aJ.ownN(I:aJ X pins σ H s)(hT:s.heap.objs.size≤T):yY X pins T where
 ne:=ag8 (aa6 I.lt hT)
 old:=.inr (aa7 I.sz hT)
 cells:=fun x c e=>by
  obtain⟨v,o,ho,_⟩:=I.cell x c e;exact ab4 (aa6 (aa9 ho) hT)
 pin:=fun p hp=>ab4 (aa6 (aa9 (I.pin p hp).1) hT)
end
def nN(P:Program)(w:World):nM:=fun outer H s E e s'=>∃a C d fs T H',e=.ref a∧s'.os=s.os∧AllBare s'.gens∧Un (j1 outer) [] H H' s.heap s'.heap∧gk P w H' s'.heap∧
 H' a=some (XO C d a)∧H' d=some (.xd fs)∧H' T=none∧s.heap.objs.size≤T∧XE.Tr s'.heap a T (.ref C) (some d) .none∧E e (some d) H'
theorem nN.thr{X:Cx}{pins:List (Addr×Obj)}{σ:St}{H:Hp}{s s':Shared}{E:XK}{e:Value}(I:aJ X pins σ H s)(x:nN X.prog X.w X.stack H s E e s'):Ab X E e s':=by
 obtain⟨a,C,d,fs,T,H',rfl,os,bare,un,hok,ha,hd,hT,sz,tr,q⟩:=x;refine⟨pins,σ,H',a,C,d,fs,[T],rfl,⟨I.call' os un hok bare (fun b z=>nomatch z),ha,hd,fun T' hT'=>?_,(.inr ⟨T,_,rfl,tr⟩)⟩,q⟩
 obtain rfl:T'=T:=by simpa using hT'
 exact⟨I.ownN sz,hT,aa7 I.sz sz⟩
section
variable {P:Program} {w:World} {K:Frag} {mg:Str→Option Value} {base:Heap} {N:List Str} {qual:Str} {scope:Scope} {f:Addr} {cd:Value} {A:Around} {outer:List Env} {s₀:Shared} {H₀:Hp} {E:XK}
theorem uA{e:Value}{s:Shared}(t:Ab (jf (nN P w) P w K mg base N qual scope f cd A outer s₀ H₀ E) E e s):(jf (nN P w) P w K mg base N qual scope f cd A outer s₀ H₀ E).xe e s:=by
 obtain⟨pins,σ,H,a,C,d,fs,ts,rfl,t,q⟩:=t;show wpAny (model P w) (A.deeper (envOfC qual scope s₀.heap.objs.size f cd)) (leaving (envOfC qual scope s₀.heap.objs.size f cd) (.ref a)) _ _ s;refine XE.leave_out (base:=t8 (jf (nN P w) P w K mg base N qual scope f cd A outer s₀ H₀ E) s a ts) t.inv.ok.frames rfl t.on t.hid t.out fun h' T hT o tr u=>?_;have I':=t.go o.1 tr u;have hok:=(t.pass o.1 tr u).2
 have sz:s₀.heap.objs.size≤T∧H T=none:=by
  rcases hT with hT | hT
  ·exact⟨(t.own T hT).2.2,(t.own T hT).2.1⟩
  ·exact⟨aa7 t.inv.sz hT,t.inv.hok.fresh hT⟩
 exact⟨a,C,d,fs,T,H,rfl,I'.os,I'.bare,I'.base,hok,t.xo,t.xd,sz.2,sz.1,tr,q⟩
end
theorem wk{K:Frag}{h:Heap}{N:Addr}{mg:Str→Option Value}{n:Str}{v:Value}(X:K.In h)(G:h.Ns N mg)(e:nsIn K N n=some (some v)):mg n=some v:=by
 obtain⟨o,es,ep,ho,hd,_,hf⟩:=G;unfold nsIn at e
 split at e
 ·rename_i c d es' n' sl q
  have:=X _ _ q
  rw [ho]at this;cases this;cases hd
  split at e
  ·rename_i en he
   cases e;rw [←hf];unfold nsFind findBy;rw [←Array.find?_toList,he];rfl
  ·split at e<;>cases e
 ·cases e
abbrev vQ:List Value:=[.type "ValueError",.type "Exception",.type "BaseException",.type "object"]
structure qE(K:Frag)(C fI:Addr)(no:List Str):Prop where
 cls:∃nm q N bs S sn sub ab col dd k0 k1 k2 k3 k5,K.lookup C=some (excClassObj nm q C N bs (.ref S::vQ) true sn sub ab col dd k0 k1 k2 k3 k5 "ValueError.__new__")∧nsOkIn K N=true∧
  nsIn K N "__init__"=some (some (.ref fI))∧(∀n∈no,nsIn K N n=some none)∧
  ∃c0 ds cd sl,K.lookup S=some ⟨c0,ds,.cls cd,sl⟩∧nsOkIn K cd.ns=true∧nsIn K cd.ns "__init__"=some none∧∀n∈no,nsIn K cd.ns n=some none
 kp:keepIn K (.ref C)=true
 fn:isFn K (.ref fI)=true
structure ExH(h:Heap)(C fI:Addr)(no:List Str)(nm q:Str)(N:Addr)(bs:List Value)(S:Addr)(sn:List Str)(sub:List Value)(ab:Bool)(col:Option Bool)(dd:Option Addr)(k0 k1 k2 k3 k5:Option Value)(mN:Str→Option Value):Prop where
 c:h.get? C=some (excClassObj nm q C N bs (.ref S::vQ) true sn sub ab col dd k0 k1 k2 k3 k5 "ValueError.__new__")
 n:h.Ns N mN
 i:mN "__init__"=some (.ref fI)
 o:∀n∈no,mN n=none
 t:XE.Tail h (fun n=>n="__init__"∨n∈no) vQ (.ref S::vQ)
theorem qE.at{K:Frag}{C fI:Addr}{no:List Str}(x:qE K C fI no){h:Heap}(X:K.In h):∃nm q N bs S sn sub ab col dd k0 k1 k2 k3 k5 mN,ExH h C fI no nm q N bs S sn sub ab col dd k0 k1 k2 k3 k5 mN:=by
 obtain⟨nm,q,N,bs,S,sn,sub,ab,col,dd,k0,k1,k2,k3,k5,lk,ok,ii,nn,c0,ds,cd,sl,lS,okS,iS,nS⟩:=x.cls;have hN:h.Ns N (h.nsMap N):=.of_isNs (PySem.W.isNs_of_in X ok);have hS:h.Ns cd.ns (h.nsMap cd.ns):=.of_isNs (PySem.W.isNs_of_in X okS)
 exact⟨nm,q,N,bs,S,sn,sub,ab,col,dd,k0,k1,k2,k3,k5,_,X _ _ lk,hN,wk X hN ii,fun n hn=>PySem.W.ns_none_of X hN (nn n hn),.own (X _ _ lS) hS (fun n hn=>by
  rcases hn with rfl | hn
  ·exact PySem.W.ns_none_of X hS iS
  ·exact PySem.W.ns_none_of X hS (nS n hn)) .base⟩
def XF(C d a:Addr):HO:=.ext fun h=>∃o vs,h.get? a=some o∧o.cls=.ref C∧o.dict=some d∧o.data=.fields vs∧vs[1]?=some .none
section
variable {P:Program} {w:World} {H:Hp} {h:Heap} {a C d:Addr}
theorem XF.ok(x:∃o vs,h.get? a=some o∧o.cls=.ref C∧o.dict=some d∧o.data=.fields vs∧vs[1]?=some .none):bT P w H h a (XF C d a):=
 ⟨x,let ⟨o,_,e,_⟩:=x;⟨o,e⟩,fun _ _ ⟨o,vs,e,r⟩ k=>⟨o,vs,k o e,r⟩⟩
theorem XF.of(x:bT P w H h a (XF C d a)):∃o vs,h.get? a=some o∧o.cls=.ref C∧o.dict=some d∧o.data=.fields vs∧vs[1]?=some .none:=x.1
end
section
variable {X:Cx} {pins:List (Addr×Obj)} {σ:St} {H:Hp} {s:Shared}
theorem aJ.trackO{D:Addr}{o:HO}(I:aJ X pins σ H s)(hn:H D=none)(new:bT X.prog X.w (upd H D o) s.heap D o)(w:yY X pins D):aJ X pins σ (upd H D o) s:=by
 have ne:∀b o,H b=some o→b≠D:=fun b o e=>ar e hn
 refine I.step (h':=s.heap) (g':=s.gens) (d':=s.drawn) (t':=s.toks) (ch:=[D]) (fun b hb=>?_) (fun b o _ _ _ e _=>e) (fun b o _ _ _ e _=>⟨o.slots,e⟩) (fun b o hc _ n=>?_)
  (fun b o _ e=>⟨o,e⟩) (fun b xs e=>?_) (fun b o u e=>?_) (fun b ps e=>⟨#[],?_⟩) (fun _ z=>z) (fun b u e=>?_) I.bare
 ·have e:b=D:=by simpa using hb
  subst e;exact⟨w.old,w.ne,w.cells,w.pin⟩
 ·rw [aj (fun z=>hc (by simp [z]))];exact n
 ·rw [aj (ne _ _ e)];exact e
 ·rw [aj (ne _ _ e)];exact e
 ·rw [aj (ne _ _ e),e];simp
 ·by_cases hb:b=D
  ·subst hb
   rw [af]at e;cases e;exact new
  ·rw [aj hb]at e
   exact(I.hok b u e).stay (fun c v _ q=>q) (fun c q=>by rw [aj (ne _ _ q)];exact q) fun c xs q=>by rw [aj (ne _ _ q)];exact q
variable {a C d fI:Addr} {no:List Str} {f:Str} {A:Around} {E:Value→Shared→Prop}
theorem w8{y:V}{u:Value}{Q:Unit→Shared→Prop}(I:aJ X pins σ H s)(e:H a=some (XN C a))(c:qE X.K C fI no)(h1:("__setattr__":Str)∈no)(h2:f∈no)(hB:typeLookup (.type "ValueError") f=pure none)(ry:aQ y u)
  (h:∀s' d,H d=none→d≠a→aJ X pins σ (upd (upd H a (XF C d a)) d (.xd [(f,y)])) s'→Q () s'):wpAny (model X.prog X.w) A (setAttr (.ref a) f u) Q E s:=by
 obtain⟨o,vs,ea,ec,ed,ef,e1⟩:=XN.of (I.hok a _ e);obtain⟨nm,q,N,bs,S,sn,sub,ab,col,dd,k0,k1,k2,k3,k5,mN,x⟩:=c.at I.kIn;obtain⟨hp,g,dr,tk,os⟩:=s;refine XE.store_first PySem.F.store_ValueError x.t (.inr h1) (.inr h2) x.c x.n (x.o _ h1) (x.o _ h2) hB ea ec (fun c z=>by rw [ef]at z;cases z) ed fun h' tk' ha hn hk hz=>?_;have fr:hp.objs.size≤hp.objs.size:=aa3 _;have hdn:H hp.objs.size=none:=I.hok.fresh fr;have hda:hp.objs.size≠a:=ag8 (aa9 ea)
 have I2:aJ X pins σ (upd H a (XF C hp.objs.size a)) ⟨h',g,dr,tk',os⟩:=
  I.write (t':=tk') (x:=a) (e:=a) (by rw [e];trivial) (.inl rfl) (fun b ob hb q=>hk b ob hb q) ⟨_,ha⟩ (XF.ok ⟨_,vs,ha,ec,rfl,ef,e1⟩)
 refine h _ hp.objs.size hdn hda (I2.trackO (by rw [aj hda];exact hdn) ⟨_,hn,fun z=>?_⟩ ?_)
 ·by_cases hz:z=f
  ·subst hz
   simpa [List.lookup,gQ]using ry
  ·have:(z == f)=false:=by simpa using hz
   simp [List.lookup,this,hz,gQ]
 ·have w:=I.ownN (T:=hp.objs.size) fr
  exact⟨w.ne,w.old,w.cells,w.pin⟩
theorem vW{b:Bool}{fs:List (Str×V)}{v:V}{Q:Value→Shared→Prop}(I:aJ X pins σ H s)(e:H a=some (XO C d a))(ed:H d=some (.xd fs))(c:qE X.K C fI no)(h1:("__getattribute__":Str)∈no)(h2:("__getattr__":Str)∈no)(h3:f∈no)
  (hB:typeLookup (.type "ValueError") f=pure none) (l:fs.lookup f=some v) (h:∀u s',aJ X pins σ H s'→aQ v u→Q u s'):wpAny (model X.prog X.w) A (getAttr (.ref a) f b) Q E s:=by
 obtain⟨o,vs,ea,ec,edi,ef⟩:=XO.of (I.hok a _ e);obtain⟨mA,hm,r⟩:=I.hok d _ ed;obtain⟨u,hu,ru⟩:=gQ.some_of (v:=v) (o:=mA f) (by rw [←l];exact r f);obtain⟨nm,q,N,bs,S,sn,sub,ab,col,dd,k0,k1,k2,k3,k5,mN,x⟩:=c.at I.kIn;have I':=I.tok (s.toks+1);obtain⟨hp,g,dr,tk,os⟩:=s;exact XE.field_attr PySem.F.attrBase_ValueError x.c x.n x.t (.inr h1) (.inr h2) (x.o _ h1) (x.o _ h2) (.inr h3) (x.o _ h3) hB ea ec ef edi hm.ns hu (PySem.W.handedOut_of (lj ru)) (h u _ I' ru)
end
theorem zq{K:Frag}{f:Addr}{h:Heap}(e:isFn K (.ref f)=true)(X:K.In h):∃o,h.get? f=some o∧o.cls=.type "function":=by
 have e:(K.lookup f).map (·.cls)=some (.type "function"):=beq_iff_eq.mp e
 cases q:K.lookup f with
 | none=>rw [q]at e;cases e
 | some o=>rw [q]at e;exact⟨o,X _ _ q,Option.some.inj e⟩
def xN(C:Addr)(ta tv:TE)(f:Str):TS:=fun D σ H=>tv σ H fun y H1=>ta σ H1 fun x H2=>∃a,x=.ref a∧H2 a=some (XN C a)∧∀d,H2 d=none→d≠a→D.nx σ (upd (upd H2 a (XF C d a)) d (.xd [(f,y)]))
def vi(C:Addr)(ta:TE)(f:Str):TE:=fun σ H Q=>ta σ H fun x H1=>∃a d fs v,x=.ref a∧H1 a=some (XO C d a)∧H1 d=some (.xd fs)∧fs.lookup f=some v∧Q v H1
def qv(C:Addr)(sp:Sp)(E:XK)(t:TA):TS:=fun _ σ H=>t σ H fun vs H1=>vs.length≤sizeLine∧∀a,H1 a=none→sp (.ref a::vs) (upd H1 a (XN C a)) (fun v H2=>v=.non∧∃d fs,H2 a=some (XF C d a)∧H2 d=some (.xd fs)∧E (.ref a) (some d) (upd H2 a (XO C d a))) E0
section
variable {X:Cx} {C fI:Addr} {no:List Str} {f x:Str} {o e value:Expr} {es:List Expr} {ta tv:TE} {t:TA} {pos pos' np cpos:Pos} {k:Nat} {fd:FuncData} {ps:List Str} {sp:Sp} {E:XK}
theorem wJ(c:qE X.K C fI no)(h1:("__setattr__":Str)∈no)(h2:f∈no)(hB:typeLookup (.type "ValueError") f=pure none)(ha:PE X o ta)(hv:PE X value tv)(hs:swapsWith value (some (.Attribute o f pos')) pos.line X.env=pure false):
  PS X (.Assign [.Attribute o f pos'] value pos) (xN C ta tv f):=by
 intro pins s σ H D I h;refine plainObj_wpAny_Assign_Attribute (bQ (hv pins s σ H _ I h) fun u s1 ⟨y,H1,I1,ry,q⟩=>bQ (ha pins s1 σ H1 _ I1 q) fun ov s2 ⟨x,H2,I2,rx,a,ex,ea,q2⟩=>?_) hs;subst ex;obtain rfl:ov=Value.ref a:=rx;exact w8 I2 ea c h1 h2 hB ry fun s3 d hd hda I3=>⟨σ,_,I3,q2 d hd hda⟩
theorem wD(c:qE X.K C fI no)(h1:("__getattribute__":Str)∈no)(h2:("__getattr__":Str)∈no)(h3:f∈no)(hB:typeLookup (.type "ValueError") f=pure none)(he:PE X e ta)(hb:attributeBase e f X.env (eval e X.env)=eval e X.env):PE X (.Attribute e f pos) (vi C ta f):=by
 intro pins s σ H Q I h;refine qH hb (bQ (he pins s σ H _ I h) fun u s1 ⟨x,H1,I1,rx,a,d,fs,v,ex,ea,ed,l,q⟩=>?_);subst ex;obtain rfl:u=Value.ref a:=rx;exact vW I1 ea ed c h1 h2 h3 hB l fun u' s2 I2 ru=>⟨v,H1,I2,ru,q⟩
theorem uV(hc:X.calm=true)(c:qE X.K C fI no)(F:aC X.prog X.w X.K X.mg X.base bC k fI fd ps sp)(hr:b8 (k+1) X.A)(hg:Gl X x)(hm:X.mg x=some (.ref C))(hb:cf X.K fd ps [])(hx:∀e s',Ab X E e s'→X.xe e s')
  (ha:PA X (e::es) t) (hdb:(x == ("__debug__":Str))=false:=by decide) (he:starEach (e::es) X.env=(false,eval e X.env)::starEach es X.env:=by rfl) (hpl:(backTo cpos (starEach es X.env)).any (·.1)=false:=by rfl) :
  PS X (.Raise (some (.Call (.Name x np) (e::es) [] cpos)) none pos) (qv C sp E t):=by
 intro pins s σ H D I h;obtain⟨nm,q,N,bs,S,sn,sub,ab,col,dd,k0,k1,k2,k3,k5,lk,_⟩:=c.cls;refine XE.raise_of (C:=C) (nm:=nm) (q:=q) (N:=N) (bs:=bs) (bm:=.ref S::vQ) (hdct:=true) (sn:=sn) (sub:=sub) (ab:=ab) (col:=col) (dd:=dd) (k0:=k0) (k1:=k1) (k2:=k2) (k3:=k3) (k5:=k5) (newId:="ValueError.__new__") (by rfl) (I.ok.hd hc) ?_;refine wpAny_Call_Name_kw (d5 I hg hm ?_ hdb);refine callWith_K (h₀:=X.base) I.ok.mod.kin c.kp (bQ (ha cpos pins s σ H _ I h) fun us s1 ⟨vs,H1,I1,r,hz,q⟩=>⟨I1.kIn,?_⟩) he hpl;obtain⟨nm',q',N',bs',S',sn',sub',ab',col',dd',k0',k1',k2',k3',k5',mN,x1⟩:=c.at I1.kIn;have T1:OwnTail s1.heap vQ (.ref S'::vQ):=x1.t.ot (.inl rfl)
 have fnI:∃oI,s1.heap.get? fI=some oI∧oI.cls=.type "function":=by
  exact zq c.fn I1.kIn
 obtain⟨oI,hfI,hfc⟩:=fnI;obtain⟨hp,g,dr,tk,os⟩:=s1;show wpAny _ _ (call (.ref C) us) _ _ _;refine XE.call_own PySem.F.excBase_ValueError T1 x1.c x1.n x1.i hfI hfc (fun h' hm=>?_) (by rw [←r.length];exact hz);have hsz:hp.objs.size≤hp.objs.size+1:=aj7 _;have hq:=q (hp.objs.size+1) (I1.hok.fresh hsz)
 have I2:aJ X pins σ (upd H1 (hp.objs.size+1) (XN C (hp.objs.size+1))) ⟨h',g,dr,tk,os⟩:=by
  refine I1.laid (t':=tk) (fun b o q=>hm.keeps b o q) hsz (XN.ok ?_);obtain⟨t,ht,_⟩:=hm.there;exact⟨_,_,ht,rfl,rfl,rfl,rfl⟩
 have r2:aS (V.ref (hp.objs.size+1)::vs) (Value.ref (hp.objs.size+1)::us):=.cons rfl r
 have hl:(Value.ref (hp.objs.size+1)::us++[]).length=ps.length:=by
  rw [af2,←r2.length];exact F.len _ _ _ _ hq
 refine wpAny_call (codeAny_mono (F.run _ X.stack _ _ ⟨Value.ref (hp.objs.size+1)::us,[]⟩ (Value.ref (hp.objs.size+1)::us) _ _ E0 (hr.make C us []) (I2.env0.make C us []) (by
  have:=hb _ (Value.ref (hp.objs.size+1)::us) I2.kIn hl
  simpa using this) r2 hq) fun r' s' hq'=>?_)
 cases r' with
 | error e=>exact hq'.elim
 | ok fl=>
  cases fl with
  | ret u=>
   obtain⟨v,H',I3,rv,ev,d,fs,ha',hd',hE⟩:=I2.after hq';subst ev;obtain⟨oe,vs',he1,he2,he3,he4,he5⟩:=XF.of (I3.hok _ _ ha');refine⟨rv,_,oe,rfl,I3.kIn _ _ lk,he1,he2,⟨vs',he4,he5⟩,hx _ _ ?_⟩
   have hda:d≠hp.objs.size+1:=fun z=>by rw [z,ha']at hd';cases hd'
   refine⟨pins,σ,upd H' (hp.objs.size+1) (XO C d (hp.objs.size+1)),_,C,d,fs,[],rfl,⟨?_,af,by rw [aj hda];exact hd',fun _ z=>(nomatch z),(.inl ⟨rfl,oe,vs',he1,⟨he2,he3⟩,he4,he5⟩)⟩,hE⟩;exact I3.write (t':=s'.toks) (h':=s'.heap) (x:=hp.objs.size+1) (e:=hp.objs.size+1) (by rw [ha'];trivial) (.inl rfl) (fun b u _ q=>q) ⟨_,he1⟩ (XO.ok ⟨oe,vs',he1,he2,he3,he4⟩)
  | next=>exact False.elim hq'
  | brk=>exact False.elim hq'
  | cont=>exact False.elim hq'
end
end L2
namespace L2
open PySem PySem.Spec PyProof.Rows
section
variable {X:Cx} {scope:Scope} {own:List Str} {js:List Nat} {tg iter elt:Expr} {ifs:List Expr} {wi:TI} {g:TG} {tt:TT} {te:TE} {pos:Pos}
end
end L2
namespace L2
open PySem PySem.Spec PyProof.Rows
abbrev Cx.held(X:Cx)(e:Value)(E:Value→Shared→Prop):Cx:={ X with A:=X.A.mark (some e),calm:=false,xe:=E }
section
variable {X:Cx} {pins:List (Addr×Obj)} {σ:St} {H:Hp} {s:Shared} {e:Value} {E:Value→Shared→Prop}
theorem Cx.Ok.held(ok:X.Ok)(e:Value)(E:Value→Shared→Prop):(X.held e E).Ok:=
 ⟨ok.mod,ok.kind,ok.glob,ok.blt,ok.above,ok.inj,ok.has,ok.cab,fun z=>(nomatch z),ok.frames,ok.stk,ok.exf,ok.bs,ok.bsz,ok.noex,ok.exfs,ok.funs,ok.frf⟩
theorem aJ.held(I:aJ X pins σ H s)(e:Value)(E:Value→Shared→Prop):aJ (X.held e E) pins σ H s:=⟨I.ok.held e E,I.os,I.bare,I.base,I.loc,I.cell,I.free,I.freeC,I.pin,I.hok,I.len⟩
theorem aJ.unheld(ok:X.Ok)(I:aJ (X.held e E) pins σ H s):aJ X pins σ H s:=⟨ok,I.os,I.bare,I.base,I.loc,I.cell,I.free,I.freeC,I.pin,I.hok,I.len⟩
theorem rX{M:Model}{A:Around}{i:Nat}{x:Str}{pos:Pos}{Q:Unit→Shared→Prop}(I:aJ X pins σ H s)(hN:X.N.Nodup)(hi:X.N[i]?=some x)(hk:X.env.scope.names.lookup x=some .local)
  (h:∀s',aJ X pins (σ.set i none) H s'→Q () s'):wpAny M A (do bindName X.env x .none;unbindBehindTheSuite X.env x pos) Q E s:=by
 obtain⟨m,hn,hl⟩:=id I.loc
 have hcls:(X.env.scope.kind == .class || (X.env.scope.kind == .module && X.env.locals != X.env.globals))=false:=by rw [I.ok.kind];rfl
 have hiσ:i < σ.length:=by rw [I.len];exact(ab5.mp hi).1
 obtain⟨oL,_,_,hoL,_⟩:=id hn;refine wpAny_nameGoes_keeps hk hn hcls fun h' v hn' hs=>?_
 have tracked:gk X.prog X.w H h':=fun b ob e=>by
  refine(I.hok b ob e).stay (fun c w' hc q=>(hs.2 c ?_).trans q) (fun _ q=>q) fun _ _ q=>q;rintro rfl;rcases hc with rfl | hc
  ·rw [I.free]at e;cases e
  ·rw [I.free]at hc;cases hc
 have low:∀b o,X.s₀.heap.get? b=some o→h'.get? b=s.heap.get? b:=fun b o e=>hs.2 b (ab4 (aa6 (aa9 e) I.ok.above));refine h _ ⟨I.ok,I.os,I.bare,⟨fun b o e n hb hx=>(low b o e).trans (I.base.keep b o e n hb hx),fun b o e n hb hx=>?_,I.base.free,fun b o e hx=>?_,I.base.tups,I.base.frzs,I.base.tbls⟩,⟨_,hn',fun j y v' e1 e2 e3=>?_⟩,fun y c e=>?_,I.free,I.freeC,fun p hp=>?_,tracked,by simpa using I.len⟩
 ·obtain⟨sl,e1⟩:=I.base.slot b o e n hb hx
  exact⟨sl,(low b o e).trans e1⟩
 ·obtain⟨o',e1⟩:=I.base.there b o e hx
  exact⟨o',(low b o e).trans e1⟩
 ·by_cases hj:j=i
  ·subst hj
   rw [af5 hiσ]at e2;cases e2
  ·rw [ah5 (Ne.symm hj)]at e2
   obtain⟨u',r',q⟩:=hl j y v' e1 e2 e3;refine⟨u',r',?_⟩;rcases q with⟨k,e⟩ | ⟨k,c,e,z⟩
   ·refine .inl ⟨k,?_⟩
    have:y≠x:=fun e=>hj (jA hN e1 (e▸hi))
    simp [this,e]
   ·exact .inr ⟨k,c,e,z.sameBut hs (I.cne y c e)⟩
 ·obtain⟨w',z⟩:=I.cell y c e
  exact⟨w',z.sameBut hs (I.cne y c e)⟩
 ·obtain⟨e,n,ne,nf,d⟩:=I.pin p hp
  exact⟨(hs.2 p.1 ne).trans e,n,ne,nf,d⟩
end
def qG(X:Cx)(pins:List (Addr×Obj))(σ:St)(E:XK)(e:Value)(s:Shared):Prop:=∃H a C d fs ts,e=.ref a∧eL X pins σ H s a C d fs ts∧E e (some d) H
theorem nN.at_{X:Cx}{pins:List (Addr×Obj)}{σ:St}{H:Hp}{s s':Shared}{E:XK}{e:Value}(I:aJ X pins σ H s)(x:nN X.prog X.w X.stack H s E e s'):qG X pins σ E e s':=by
 obtain⟨a,C,d,fs,T,H',rfl,os,bare,un,hok,ha,hd,hT,sz,tr,q⟩:=x;refine⟨H',a,C,d,fs,[T],rfl,⟨I.call' os un hok bare (fun b z=>nomatch z),ha,hd,fun T' hT'=>?_,.inr ⟨T,_,rfl,tr⟩⟩,q⟩
 obtain rfl:T'=T:=by simpa using hT'
 exact⟨I.ownN sz,hT,aa7 I.sz sz⟩
section
variable {X:Cx} {pins:List (Addr×Obj)} {σ:St} {H:Hp} {s:Shared} {a C d T L:Addr} {fs:List (Str×V)} {ts:List Addr} {M:Model} {A:Around} {E:Value→Shared→Prop} {Q:Unit→Shared→Prop}
theorem eL.note(t:eL X pins σ H s a C d fs ts)(hst:X.stack=X.env::X.outer)(hfr:X.env.frame=some L)(hA:A.frames=some X.stack)
  (h:∀h' T,eL X pins σ H { s with heap:=h' } a C d fs [T]→Q () { s with heap:=h' }):wpAny M A (noteFrame (.ref a) X.env) Q E s:=by
 have hon:=t.on;rw [hst]at hon hA;refine XE.note_out hA hfr hon t.hid t.out fun h' T hT o tr u=>h h' T ⟨t.go o.1 tr u,t.xo,t.xd,fun T' hT'=>?_,.inr ⟨T,_,rfl,tr⟩⟩
 obtain rfl:T'=T:=by simpa using hT'
 rcases hT with hT | hT
 ·exact t.own _ hT
 ·exact⟨t.inv.ownN hT,t.inv.hok.fresh hT,aa7 t.inv.sz hT⟩
theorem eL.tr(t:eL X pins σ H s a C d fs [T]):∃fl,XE.Tr s.heap a T (.ref C) (some d) fl:=by
 rcases t.out with⟨z,_⟩ | ⟨T',fl',z,tr⟩
 ·cases z
 ·cases z;exact⟨fl',tr⟩
theorem eL.land(t:eL X pins σ H s a C d fs [T])(h:∀h',eL X pins σ H { s with heap:=h' } a C d fs [T]→Q () { s with heap:=h' }):wpAny M A (setFlight (.ref a) none) Q E s:=by
 obtain⟨fl,tr⟩:=t.tr;exact XE.land t.on (t.hid T (.head _)) tr fun h' o tr' u=>h h' ⟨t.go o.1 tr' u,t.xo,t.xd,t.own,.inr ⟨T,_,rfl,tr'⟩⟩
end
section
variable {X:Cx} {k:Nat} {f C fI L:Addr} {fd:FuncData} {ps:List Str} {sp:Sp} {no:List Str} {x y v n r:Str} {p pos cpos np vp hpos rp rn apos spos:Pos} {e:Expr} {es:List Expr} {t:TA} {iv ie ir:Nat}
end
end L2
namespace XE
open PySem
open Sem (wp)
section
variable {prog:Program} {w:World} {A:Around} {E:Value→Shared→Prop} {h:Heap} {g:Array GenState} {d:Drawn} {t:Nat} {os:OsState}
variable {nm q:Str} {C N a:Addr} {bs bm bmB:List Value} {sn:List Str} {sub:List Value} {ab:Bool} {col:Option Bool} {dd:Option Addr} {k0 k1 k2 k3 k5:Option Value} {B newId:String}
 {mN:Str→Option Value} {no:Str→Prop} {o:Obj} {vs:Array Value}
theorem rN{R:Result→Shared→Prop}(T:Tail h no bmB bm)(hob:bmB.contains (.type "object")=true)(hC:h.get? C=some (excClassObj nm q C N bs bm true sn sub ab col dd k0 k1 k2 k3 k5 newId))
  (hx:h.get? a=some o) (hc:o.cls=.ref C) (hq:R (.ok (.ret (.ref C))) ⟨h,g,d,t,os⟩) :
  codeAny (model prog w) A (.call (.builtin "getset_descriptor.__get__") ⟨[.builtin "object.__class__",.ref a,.ref C],[]⟩) R ⟨h,g,d,t,os⟩:=by
 have hT5:(⟨h,g,d,t,os⟩:Shared).TypeIs (.builtin "object.__class__") "getset_descriptor":=F.typeOf_object_class
 have hcB:(Value.ref C::bm).contains (.type (".".intercalate ("object.__class__".cutAt '.').dropLast))=true:=by
  rw [F.owner_object_class,af6,T.hasType hob];rfl
 refine codeAny_call_builtin F.slot_gs_get.plain F.entry_gs_get (F.slot_gs_get.check _ _ _ _ _ _ _ _ hT5 (F.args_gs_get _ _ _) ?_)
 repeat (any_goals (first | assumption | (with_reducible refine wpAny_loadPart_at hx ?_;rw [hc]) | (with_reducible refine wpAny_isSubtype_exc hC ?_;rw [hcB]) | wp_step))
 refine⟨Code.quiet_builtin _ (by decide +kernel),codeAny_builtin F.entry_object_class ?_⟩
 repeat (any_goals (first | assumption | (with_reducible refine wpAny_loadPart_at hx ?_;rw [hc]) | wp_step))
theorem nV{tk:Tok}{Q:Fin→Shared→Prop}(FB:ExcAttrBase B bmB)(T:Tail h no bmB bm)(hob:bmB.contains (.type "object")=true)(hcl:no "__class__")(hna:mN "__class__"=none)(hlk:typeLookup (.type B) "__class__"=pure (some (.builtin "object.__class__")))
  (hC:h.get? C=some (excClassObj nm q C N bs bm true sn sub ab col dd k0 k1 k2 k3 k5 newId)) (hN:h.Ns N mN) (hx:h.get? a=some o) (hc:o.cls=.ref C) (hq:Q (.done (.ret (.ref C))) ⟨h,g,d,t,os⟩) :
  wpAny (model prog w) A (Builtin.«object.__getattribute__» ⟨[.ref a,.str "__class__" tk],[]⟩) Q E ⟨h,g,d,t,os⟩:=by
 have hT5:(⟨h,g,d,t,os⟩:Shared).TypeIs (.builtin "object.__class__") "getset_descriptor":=F.typeOf_object_class;have f5:=F.typeOf_object_class;have f6:=F.slot_gs_get.lookup;have f7:=F.slot_gs_set.lookup
 repeat (any_goals (first | assumption | (with_reducible refine wpAny_loadPart_at hx ?_;rw [hc]) | (with_reducible refine lookup hcl hC hN T FB.mro hlk ?_;rw [hna]) | wp_step))
 refine rN T hob hC hx hc ?_
 repeat (any_goals (first | assumption | wp_step))
theorem class_attr{Q:Option Value→Shared→Prop}(FB:ExcAttrBase B bmB)(T:Tail h no bmB bm)(hob:bmB.contains (.type "object")=true)(hcl:no "__class__")(hna:mN "__class__"=none)(hlk:typeLookup (.type B) "__class__"=pure (some (.builtin "object.__class__")))
  (n1:no "__getattribute__") (n2:no "__getattr__") (m1:mN "__getattribute__"=none) (m2:mN "__getattr__"=none)
  (hC:h.get? C=some (excClassObj nm q C N bs bm true sn sub ab col dd k0 k1 k2 k3 k5 newId)) (hN:h.Ns N mN) (hx:h.get? a=some o) (hc:o.cls=.ref C) (hq:Q (some (.ref C)) ⟨h,g,d,t+1,os⟩) :
  wpAny (model prog w) A (getAttr? (.ref a) "__class__") Q E ⟨h,g,d,t,os⟩:=by
 have f3:=FB.ga.bind (.ref a)
 have hx2:(Value.builtin "BaseException.__getattribute__" == Value.builtin "object.__getattribute__")=false:=by decide +kernel
 have hx0:(false && onTheHeap (Value.builtin "BaseException.__getattribute__"))=false:=rfl
 have hx1:(onTheHeap (Value.ref C) && Value.builtin "BaseException.__getattribute__" == Value.builtin "object.__getattribute__")=false:=by rw [hx2];rfl
 unfold getAttr? getAttrBy?
 repeat (any_goals (first | assumption | (with_reducible refine wpAny_loadPart_at hx ?_;rw [hc]) | (with_reducible refine lookup n1 hC hN T FB.mro FB.ga.lookup ?_;rw [m1]) | (with_reducible refine lookup n2 hC hN T FB.mro FB.noGetattr ?_;rw [m2]) | wp_step))
 refine codeAny_call_builtin FB.ga.plain F.entry_bexc_ga (nU FB hC T hx hc (nV FB T hob hcl hna hlk hC hN hx hc ?_))
 repeat (any_goals (first | assumption | wp_step))
end
end XE
namespace L2
open PySem PySem.Spec PyProof.Rows
theorem r6:typeLookup (.type "ValueError") "__class__"=pure (some (.builtin "object.__class__")):=by rw [typeLookup_type,builtinLookup_eq_fast];kernel_rfl
theorem ux{K:Frag}{C fI a:Addr}{no:List Str}(c:qE K C fI no)(h1:("__class__":Str)∈no)(h2:("__getattribute__":Str)∈no)(h3:("__getattr__":Str)∈no):
  PySem.W.KitX K (.ref a) (.ref C) (fun h=>∃o,h.get? a=some o∧o.cls=.ref C) where
 ty:=fun M h _ p=>by
  obtain⟨o,e1,e2⟩:=p;exact e2▸(PySem.W.Looks.ld e1).andThen .now
 it:=fun M h X _=>by
  obtain⟨nm,q,N,bs,S,sn,sub,ab,col,dd,k0,k1,k2,k3,k5,mN,x⟩:=c.at X;intro A' Q' E' s' k q;unfold isType loadHead;exact wpAny_bind (wpAny_loadPart (k _ _ x.c) (wpAny_pure q))
 ne:=fun h tp dd' its n sl X ht=>by
  obtain⟨nm,q,N,bs,S,sn,sub,ab,col,dd,k0,k1,k2,k3,k5,mN,x⟩:=c.at X;refine Bool.eq_false_iff.mpr fun q=>?_;cases beq_iff_eq.mp q
  have z:=congrArg (Option.map (·.cls)) (x.c.symm.trans ht)
  exact absurd z (by simp [excClassObj])
 ca:=fun {prog w A E Q s} X p k=>by
  obtain⟨o,e1,e2⟩:=p;obtain⟨nm,q,N,bs,S,sn,sub,ab,col,dd,k0,k1,k2,k3,k5,mN,x⟩:=c.at X;obtain⟨h,g,d,t,os⟩:=s;exact XE.class_attr PySem.F.attrBase_ValueError x.t rfl (.inr h1) (x.o _ h1) r6 (.inr h2) (.inr h3) (x.o _ h2) (x.o _ h3) x.c x.n e1 e2 k
def yA(K:Frag)(C:Addr):List V→Hp→VK→Prop:=fun xs H Q=>∃a d y u b,xs=[.ref a,y]∧H a=some (XO C d a)∧aQ y u∧(∀u',aQ y u'→u'=u)∧kitOne K (.ref C) u=some b∧Q (.bl b) H
theorem mr{X:Cx}{C fI:Addr}{no:List Str}(K:Frag)(c:qE X.K C fI no)(h1:("__class__":Str)∈no)(h2:("__getattribute__":Str)∈no)(h3:("__getattr__":Str)∈no)(hK:X.K=K:=by rfl):bR X (.builtin "isinstance") (yA K C):=by
 subst hK;intro pins s σ H xs us Q I r h;obtain⟨a,d,y,u,b,rfl,ha,ry,uy,e,q⟩:=h;obtain⟨u1,u2,rfl,r1,r2⟩:=rD r;cases(show u1=Value.ref a from r1);cases uy u2 r2;obtain⟨o,vs,e1,e2,_⟩:=XO.of (I.hok a _ ha);exact kia_one (ux c h1 h2 h3) I.kIn ⟨o,e1,e2⟩ e (fun z=>nomatch z) fun tk=>⟨.bl b,H,I.tok _,rfl,q⟩
end L2
namespace L2
open PySem PySem.Spec PyProof.Rows
theorem xv(m:Nat):m < 10 ^ (dg m).length:=by
 induction m using Nat.strongRecOn with
 | _ m ih=>
  by_cases h:m < 10
  ·rw [jg h];simpa using h
  ·rw [tL h,ab9]
   have:=ih (m / 10) (by omega)
   simp only [aa8,ae4];rw [Nat.zero_add,Nat.pow_succ];omega
theorem tN{l r:List Nat}:eO (l++r)=(eO l && eO r):=by unfold eO;exact aj6
theorem tO{c:Nat}(h:eO [c]=true):48≤c∧c≤57:=by
 unfold eO at h;simp at h;omega
theorem qN:∀(k:Nat) (l:List Nat),l.length=k→l≠[]→eO l=true→(l.head?≠some 48∨l=[48])→∃m,dg m=l∧(l≠[48]→0 < m):=by
 intro k
 induction k with
 | zero=>intro l hl hn;exact absurd (ae3.mp hl) hn
 | succ k ih=>
  intro l hl hn hd hh;obtain⟨l',c,rfl⟩:∃l' c,l=l' ++ [c]:=⟨l.dropLast,l.getLast hn,(List.dropLast_concat_getLast hn).symm⟩;rw [tN,ac0]at hd;have hc:=tO hd.2
  by_cases h0:l'=[]
  ·subst h0
   refine⟨c - 48,?_,fun h=>?_⟩
   ·rw [jg (by omega),show c - 48+48=c by omega];rfl
   ·have:c≠48:=fun e=>h (by rw [e];rfl)
    omega
  ·have hh':l'.head?≠some 48:=by
    rcases hh with hh | hh
    ·intro e;apply hh
     cases l' with
     | nil=>exact absurd rfl h0
     | cons x r=>exact e
    ·have:=congrArg List.length hh
     simp at this;exact absurd this h0
   obtain⟨m,hm,hp⟩:=ih l' (by simpa using hl) h0 hd.1 (.inl hh');have hm0:0 < m:=hp fun e=>hh' (by rw [e];rfl);refine⟨m * 10+(c - 48),?_,fun _=>by omega⟩;rw [tL (by omega),show(m * 10+(c - 48)) / 10=m by omega,show(m * 10+(c - 48)) % 10+48=c by omega,hm]
theorem ue{w:List Nat}(h:cg w=true):∃n:Int,j5 n=w∧n.natAbs < 10 ^ 40:=by
 unfold cg at h;simp only [ac0,decide_eq_true_eq,ag7]at h;obtain⟨h1,h2,h3,h4⟩:=h
 have hne:bX w≠[]:=fun e=>by rw [e]at h1;simp at h1
 by_cases hw:w.head?=some 45
 ·have hf:bX w=w.tail:=by unfold bX;rw [if_pos hw]
  have hcons:w=45::w.tail:=by
   cases w with
   | nil=>cases hw
   | cons a r=>cases hw;rfl
  have h48:(bX w).head?≠some 48:=by
   rcases h4 with h4 | h4
   ·exact h4
   ·rw [h4]at hw;cases hw
  obtain⟨m,hm,hp⟩:=qN _ (bX w) rfl hne h3 (.inl h48);have m0:0 < m:=hp fun e=>h48 (by rw [e];rfl);refine⟨-(((m - 1)+1:Nat):Int),?_,?_⟩
  ·rw [gx,show m - 1+1=m by omega,hm,hf,←hcons]
  ·have:=xv m
   rw [hm]at this;have h5:10 ^ (bX w).length≤10 ^ 40:=Nat.pow_le_pow_right (by decide) h2;omega
 ·have hf:bX w=w:=by unfold bX;rw [if_neg hw]
  rw [hf]at h1 h2 h3 h4 hne;obtain⟨m,hm,_⟩:=qN _ w rfl hne h3 h4;refine⟨(m:Int),by rw [gw,hm],?_⟩
  have:=xv m
  rw [hm]at this;have h5:10 ^ w.length≤10 ^ 40:=Nat.pow_le_pow_right (by decide) h2;omega
theorem ll{z:Str}(h:cg z.cps.toList=true):∃n:Int,intText? z=some n∧z.length≤640:=by
 obtain⟨n,e,hn⟩:=ue h;have ez:z=Str.ofString (toString n):=str_iff.mpr e.symm;refine⟨n,by rw [ez];exact v5 (aa6 hn (by decide +kernel)),?_⟩;rw [az,←e];exact aa7 (jB (k:=40) (by decide) hn) (by decide)
end L2
namespace L2
open PySem PySem.Spec PyProof.Rows
structure za(P:Program)(w:World)(K:Frag)(mg:Str→Option Value)(base:Heap)(x:Str)(k:Nat)(ps:List Str)(sp:Sp):Prop where
 ex:∃(f:Addr) (fd:FuncData),aC P w K mg base (nN P w) k f fd ps sp∧mg x=some (.ref f)∧keepIn K (.ref f)=true∧cf K fd ps []
structure rE(P:Program)(w:World)(K:Frag)(mg:Str→Option Value)(base:Heap)(x:Str)(C:Addr)(k:Nat)(ps:List Str)(sp:Sp)(no:List Str):Prop where
 ex:∃(fI:Addr) (fd:FuncData),qE K C fI no∧aC P w K mg base bC k fI fd ps sp∧mg x=some (.ref C)∧cf K fd ps []
section
variable {X:Cx} {k j:Nat} {ps qs:List Str} {sp sq:Sp} {x y v n r f:Str} {p pos cpos np vp hpos rp rn apos spos:Pos} {e o value:Expr} {es:List Expr} {ta:TE} {t:TA} {E:XK} {C L:Addr} {no:List Str} {iv ie ir:Nat}
theorem sE(d:rE X.prog X.w X.K X.mg X.base x C k ps sp no)(hc:X.calm=true)(hr:b8 (k+1) X.A)(hg:Gl X x)(hx:∀e s',Ab X E e s'→X.xe e s')(ha:PA X (e::es) t)(hdb:(x == ("__debug__":Str))=false:=by decide)
  (he:starEach (e::es) X.env=(false,eval e X.env)::starEach es X.env:=by rfl) (hpl:(backTo cpos (starEach es X.env)).any (·.1)=false:=by rfl):PS X (.Raise (some (.Call (.Name x np) (e::es) [] cpos)) none pos) (qv C sp E t):=
 let ⟨_,_,c,F,hm,hb⟩:=d.ex;uV hc c F hr hg hm hb hx ha hdb he hpl
theorem mX(d:rE X.prog X.w X.K X.mg X.base x C k ps sp no)(h1:("__getattribute__":Str)∈no)(h2:("__getattr__":Str)∈no)(h3:f∈no)(hB:typeLookup (.type "ValueError") f=pure none)(he:PE X e ta)(hb:attributeBase e f X.env (eval e X.env)=eval e X.env):PE X (.Attribute e f pos) (vi C ta f):=
 let ⟨_,_,c,_⟩:=d.ex;wD c h1 h2 h3 hB he hb
theorem bH(K:Frag)(d:rE X.prog X.w X.K X.mg X.base x C k ps sp no)(h1:("__class__":Str)∈no)(h2:("__getattribute__":Str)∈no)(h3:("__getattr__":Str)∈no)(hK:X.K=K:=by rfl):bR X (.builtin "isinstance") (yA K C):=
 let ⟨_,_,c,_⟩:=d.ex;mr K c h1 h2 h3 hK
end
def xc(C:Addr)(f:Str):Sp:=fun vs H Q _=>∃a v,vs=[.ref a,v]∧H a=some (XN C a)∧∀d,H d=none→d≠a→Q .non (upd (upd H a (XF C d a)) d (.xd [(f,v)]))
section
variable {X:Cx}
end
end L2
namespace L2
open PySem PySem.Spec PyProof.Rows
section
variable {K:Frag} {C fI S N c:Addr} {nm q f:Str} {bs sub:List Value} {sn:List Str} {ab b:Bool} {col:Option Bool} {dd:Option Addr} {k0 k1 k2 k3 k5:Option Value} {c0:Value} {ds:Option Addr} {cd:ClassData} {sl:Array (Option Value)} {T:String}
theorem qV{cl:Value}{d:Option Addr}{es:Array DictEntry}{n:Nat}{sl:Array (Option Value)}(l:K.lookup N=some ⟨cl,d,.dict es n,sl⟩)(e:(es.toList.all fun e=>match e.key with | .str _ _=>true | _=>false)=true):nsOkIn K N=true:=by
 unfold nsOkIn;rw [l];show es.all _=true;rw [←Array.all_toList];exact e
theorem xY(lk:K.lookup C=some (excClassObj nm q C N bs (.ref S::vQ) true sn sub ab col dd k0 k1 k2 k3 k5 "ValueError.__new__"))(ok:nsOkIn K N=true)(ii:nsIn K N "__init__"=some (some (.ref fI)))
  (a1:nsIn K N "__setattr__"=some none) (a2:nsIn K N "__getattribute__"=some none) (a3:nsIn K N "__getattr__"=some none) (a4:nsIn K N "__class__"=some none) (a5:nsIn K N f=some none)
  (lS:K.lookup S=some ⟨c0,ds,.cls cd,sl⟩) (okS:nsOkIn K cd.ns=true) (iS:nsIn K cd.ns "__init__"=some none)
  (b1:nsIn K cd.ns "__setattr__"=some none) (b2:nsIn K cd.ns "__getattribute__"=some none) (b3:nsIn K cd.ns "__getattr__"=some none) (b4:nsIn K cd.ns "__class__"=some none) (b5:nsIn K cd.ns f=some none)
  (kp:keepIn K (.ref C)=true) (fn:isFn K (.ref fI)=true):qE K C fI ["__setattr__","__getattribute__","__getattr__","__class__",f]:=
 ⟨⟨nm,q,N,bs,S,sn,sub,ab,col,dd,k0,k1,k2,k3,k5,lk,ok,ii,fun n hn=>by
   simp only [ab7,List.not_mem_nil,or_false]at hn
   rcases hn with rfl | rfl | rfl | rfl | rfl<;>assumption,c0,ds,cd,sl,lS,okS,iS,fun n hn=>by
   simp only [ab7,List.not_mem_nil,or_false]at hn
   rcases hn with rfl | rfl | rfl | rfl | rfl<;>assumption⟩,kp,fn⟩
theorem exAt_mk{cl cl':Value}{d d':Option Addr}{es es':Array DictEntry}{n n':Nat}{zl zl':Array (Option Value)}{qual:Str}{st:Stmt}{oc:Value}{od an:Option Addr}{osl:Array (Option Value)}{kV doc pm cdv ct:Value}
  (lk:K.lookup C=some (excClassObj nm q C N bs (.ref S::vQ) true sn sub ab col dd k0 k1 k2 k3 k5 "ValueError.__new__")) (lN:K.lookup N=some ⟨cl,d,.dict es n,zl⟩) (eN:(es.toList.all fun e=>match e.key with | .str _ _=>true | _=>false)=true) (ii:nsIn K N "__init__"=some (some (.ref fI)))
  (a1:nsIn K N "__setattr__"=some none) (a2:nsIn K N "__getattribute__"=some none) (a3:nsIn K N "__getattr__"=some none) (a4:nsIn K N "__class__"=some none) (a5:nsIn K N f=some none)
  (lS:K.lookup S=some ⟨c0,ds,.cls cd,sl⟩) (lM:K.lookup cd.ns=some ⟨cl',d',.dict es' n',zl'⟩) (eM:(es'.toList.all fun e=>match e.key with | .str _ _=>true | _=>false)=true) (iS:nsIn K cd.ns "__init__"=some none)
  (b1:nsIn K cd.ns "__setattr__"=some none) (b2:nsIn K cd.ns "__getattribute__"=some none) (b3:nsIn K cd.ns "__getattr__"=some none) (b4:nsIn K cd.ns "__class__"=some none) (b5:nsIn K cd.ns f=some none)
  (kp:keepIn K (.ref C)=true) (fn:isFn K (.ref fI)=true)
  (l:K.lookup fI=some ⟨oc,od,.func (fnOf "__init__" qual (bV st) (bN st) (aq st) .none kV doc pm an cdv ct),osl⟩) (c:codeIn K cdv qual=true) (k:keepIn K (.ref fI)=true) :
  ∃fI fd,qE K C fI ["__setattr__","__getattribute__","__getattr__","__class__",f]∧cj K "__init__" qual st fI fd:=
 ⟨fI,_,xY lk (qV lN eN) ii a1 a2 a3 a4 a5 lS (qV lM eM) iS b1 b2 b3 b4 b5 kp fn,fun_mk l c k⟩
theorem kit_own{t:Value}(n:(t == .ref c)=false)(h1:PySem.W.isClsIn K c=true)(h2:PySem.W.typeIn K (.ref c)=some (.type "type"))(h3:PySem.W.subIn K t (.ref c)=some b):kitOne K t (.ref c)=some b:=by
 unfold kitOne PySem.W.kitCls;have h1:(PySem.W.clsIn K c).isSome=true:=h1;rw [n,if_neg aa0];simp only [h1,h2,beq_self_eq_true,Bool.and_self,if_true];exact h3
theorem kit_ty{t:Value}(n:(t == .type T)=false)(h1:PySem.W.kitMeta T=true)(h3:PySem.W.subIn K t (.type T)=some b):kitOne K t (.type T)=some b:=by
 unfold kitOne PySem.W.kitCls;rw [n,if_neg aa0];simp only [h1,if_true];exact h3
end
end L2
namespace L2
open PySem PySem.Spec PyProof.Rows
def TJ:=Str→L2.St→Hp→VK→Prop
section
variable {X:Cx} {es:List Expr} {e e1 e2:Expr} {t:TJ} {te:TE} {pos:Pos} {x:Str}
theorem PS.nox{st:Stmt}{t:TS}(h:PS X.nox st t):PS X st t:=fun pins s σ H D I hw=>
 wpAny_mono (h pins s σ H D (I.wish _) hw) (fun f s1 q=>SP.unwish q) fun _ _ z=>z.elim
end
end L2
namespace L2
open PySem PySem.Spec PyProof.Rows
section
variable {X:Cx} {tg:Expr}
end
end L2
namespace L2
open PySem PySem.Spec PyProof.Rows
section
variable {P:Program} {w:World}
abbrev IsC(P:Program)(w:World)(h:Heap)(c:List Int)(a:Addr):Prop:=IsTupleKey (intKind P w) h c a
def mB(P:Program)(w:World)(h:Heap):Option (List Int)→Value→Prop
 | none,v=>v=.none
 | some c,v=>∃a,v=.ref a∧IsC P w h c a
inductive fT(P:Program)(w:World)(h:Heap):List (Option (List Int))→List Value→Prop
 | nil:fT P w h [] []
 | cons {k:Option (List Int)} {v:Value} {ks:List (Option (List Int))} {vs:List Value}:mB P w h k v→fT P w h ks vs→fT P w h (k::ks) (v::vs)
def zc(P:Program)(w:World)(h:Heap)(ks:List (Option (List Int)))(a:Addr):Prop:=∃o items n,h.get? a=some o∧o.cls=.type "tuple"∧o.data=.seq items n∧fT P w h ks items.toList
variable {h h':Heap}
theorem mB.inj{x y:Option (List Int)}{v:Value}(hx:mB P w h x v)(hy:mB P w h y v):x=y:=by
 cases x with
 | none=>
  cases y with
  | none=>rfl
  | some c=>obtain⟨a,e,_⟩:=hy;rw [show v=.none from hx]at e;cases e
 | some c=>
  obtain⟨a,rfl,ha⟩:=hx
  cases y with
  | none=>have hy:Value.ref a=.none:=hy;cases hy
  | some d=>
   obtain⟨b,e,hb⟩:=hy;cases e;rw [ha.inj hb]
theorem fT.inj{x y:List (Option (List Int))}{vs:List Value}(hx:fT P w h x vs)(hy:fT P w h y vs):x=y:=by
 induction hx generalizing y with
 | nil=>cases hy;rfl
 | cons h1 _ ih=>
  cases hy with
  | cons h2 t2=>rw [h1.inj h2,ih t2]
theorem zc.typeIs{s:Shared}{ks:List (Option (List Int))}{a:Addr}(x:zc P w s.heap ks a):s.TypeIs (.ref a) "tuple":=let ⟨o,_,_,ho,hc,_⟩:=x;⟨o,ho,hc⟩
theorem zc.inj{a:Addr}{x y:List (Option (List Int))}(hx:zc P w h x a)(hy:zc P w h y a):x=y:=by
 obtain⟨o,items,n,ho,_,hd,hi⟩:=hx;obtain⟨o',items',n',ho',_,hd',hi'⟩:=hy;obtain rfl:o=o':=Option.some.inj (ho.symm.trans ho');rw [hd]at hd'
 injection hd' with h1 _
 subst h1;exact hi.inj hi'
variable {A:Around} {E:Value→Shared→Prop} {s:Shared}
end
end L2
namespace L2
open PySem PySem.Spec PyProof.Rows
structure KK(P:Program)(w:World)(κ:Type)[DecidableEq κ] where
 knd:HeapKind P w κ
 at_:Hp→κ→Addr→Prop
 same:∀{H H':Hp} {k:κ} {a:Addr},aw H H'→at_ H k a→at_ H' k a
 upd_:∀{H:Hp} {k:κ} {a z:Addr} {o:HO},at_ H k a→(∀vs,H z≠some (.tup vs))→at_ (upd H z o) k a
 is_:∀{H:Hp} {h:Heap} {k:κ} {a:Addr},gk P w H h→at_ H k a→knd.is h k a
 room:∀{A:Around},A.units+2 < cLine→knd.room A.in1
def Ar{κ:Type}(x:κ×Addr×V)(y:κ×Addr×Value):Prop:=x.1=y.1∧x.2.1=y.2.1∧aQ x.2.2 y.2.2
section
variable {P:Program} {w:World} {κ:Type} [DecidableEq κ] (kk:KK P w κ)
def dO(d:Addr)(xs:List (κ×Addr×V)):HO:=.ext fun h=>(d == sysModules)=false∧∃o es ep ys,h.get? d=some o∧o.ExactDict∧o.data=.dict es ep∧es.toList=ys.map (entryOfKey kk.knd)∧Paired Ar xs ys
structure pF(H:Hp)(d:Addr)(xs:List (κ×Addr×V)):Prop where
 ob:H d=some (dO kk d xs)
 ks:∀x∈xs,kk.at_ H x.1 x.2.1
 nd:(xs.map (·.1)).Nodup
 sz:xs.length≤100000
def zj(xs:List (κ×Addr×V))(k:κ):Option V:=(xs.find? fun x=>decide (x.1=k)).map (·.2.2)
variable {kk}
variable {X:Cx} {pins:List (Addr×Obj)} {σ:St} {H:Hp} {s:Shared} {d a:Addr} {xs:List (κ×Addr×V)} {k:κ} {A:Around} {E:Value→Shared→Prop}
variable {kk':KK X.prog X.w κ}
end
section
variable {P:Program} {w:World} {κ:Type} [DecidableEq κ] {kk:KK P w κ} {H:Hp} {d a:Addr} {xs:List (κ×Addr×V)} {k:κ} {v:V}
theorem pF.upd{z:Addr}{o:HO}(D:pF kk H d xs)(hz:d≠z)(nt:∀vs,H z≠some (.tup vs)):pF kk (upd H z o) d xs:=⟨by rw [aj hz];exact D.ob,fun x hx=>kk.upd_ (D.ks x hx) nt,D.nd,D.sz⟩
end
end L2
namespace L2
open PySem PySem.Spec PyProof.Rows
def zV:List (Option Int)→Option (List Int)
 | []=>some []
 | none::_=>none
 | some x::l=>(zV l).map (x::·)
def AF(Ss:List tj)(ms:List Int)(b:Option (List Int))(c:List Int):List (Option Int):=List.zipWith (fun S m=>S.after m b c) Ss ms
def sh(Ss:List tj)(ms:List Int)(b:Option (List Int))(c:List Int):Option (List Int):=zV (AF Ss ms b c)
abbrev MS:=Option (List Int)×List Int
def uF(Ss:List tj)(s:MS)(c:List Int):Option MS:=(sh Ss s.2 s.1 c).map fun ms=>(some c,ms)
def uw(s:MS):List (Option (List Int)):=[s.1,some s.2]
def pH(Ss:List tj)(cols:List (List Int))(met:List MS)(s:MS)(xs:List (List Int×Addr×V)):Prop:=
 (∀c∈cols,∀s',uF Ss s c=some s'→∃j:Nat,met[j]?=some s'∧zj xs c=some (.int j))∧(∀c,(c∈cols→uF Ss s c=none)→zj xs c=none)∧xs.map (·.1)=cols.filter fun c=>(uF Ss s c).isSome
theorem pH.more{Ss:List tj}{cols:List (List Int)}{met:List MS}{s:MS}{xs:List (List Int×Addr×V)}(h:pH Ss cols met s xs)(t:List MS):pH Ss cols (met++t) s xs:=
 ⟨fun c hc s' e=>let ⟨j,h1,h2⟩:=h.1 c hc s' e;⟨j,by rw [ag4 (ab5.mp h1).1];exact h1,h2⟩,h.2⟩
def xr(met:List MS)(xs:List (List (Option (List Int))×Addr×V)):Prop:=(∀(j:Nat) (s:MS),met[j]?=some s→zj xs (uw s)=some (.int j))∧∀k,zj xs k≠none→∃s∈met,k=uw s
theorem xr.fresh{met:List MS}{xs:List (List (Option (List Int))×Addr×V)}{s:MS}(h:xr met xs)(e:zj xs (uw s)=none):s∉met:=fun hs=>by
 obtain⟨j,hj⟩:=List.getElem?_of_mem hs;rw [h.1 j s hj]at e;cases e
end L2
namespace L2
open PySem PySem.Spec PyProof.Rows
section
variable {P:Program} {w:World} {A:Around} {E:Value→Shared→Prop} {it d:Addr} {es:Array DictEntry} {ep i:Nat}
end
section
variable {P:Program} {w:World} {A:Around} {E:Value→Shared→Prop} {d:Addr} {es:Array DictEntry} {ep:Nat}
end
section
variable {P:Program} {w:World} {κ:Type} [DecidableEq κ] {X:Cx}
variable {kk':KK X.prog X.w κ}
end
end L2
namespace L2
open PySem PySem.Spec PyProof.Rows
section
variable {X:Cx} {tg:Expr}
end
section
variable {P:Program} {w:World} {A:Around} {E:Value→Shared→Prop} {s:Shared} {r l:Addr} {items:Array Value}
end
section
variable {X:Cx}
end
end L2
namespace L2
open PySem PySem.Spec PyProof.Rows
end L2
namespace L2
open PySem PySem.Spec PyProof.Rows
section
variable {X:Cx} {k j:Nat} {f B C fI L:Addr} {fd:FuncData} {ps qs:List Str} {sp sq:Sp} {no:List Str} {x y n r:Str} {p pos cpos np hpos rp rn apos spos:Pos} {e:Expr} {es:List Expr} {t:TA} {ie ir:Nat}
end
theorem za.calm{P:Program}{w:World}{K:Frag}{mg:Str→Option Value}{base:Heap}{x:Str}{k:Nat}{ps:List Str}{sp sp':Sp}(d:za P w K mg base x k ps sp)(h:∀vs H Q E,sp' vs H Q E→sp vs H Q fun _ _ _=>False):bW P w K mg base x k ps sp':=by
 obtain⟨f,fd,F,hm,hk,hb⟩:=d.ex;refine⟨f,fd,⟨fun vs H Q E q=>F.len vs H Q _ (h _ _ _ _ q),fun A outer s H args us vs Q E hr he hb hv hs=>codeAny_mono (F.run A outer s H args us vs Q _ hr he hb hv (h _ _ _ _ hs)) fun r s' hq=>?_⟩,hm,hk,hb⟩
 cases r with
 | error e=>
  obtain⟨a,C,d,fs,T,H',_,_,_,_,_,_,_,_,_,_,z⟩:=(show nN P w outer H s (fun _ _ _=>False) e s' from hq);exact z.elim
 | ok fl=>cases fl<;>exact hq
theorem exm_own{K:Frag}{t:Value}{c:Addr}{b:Bool}(h0:PySem.W.subIn K (.ref c) (.type "BaseException")=some true)(h1:PySem.W.isClsIn K c=true)(h2:PySem.W.typeIn K (.ref c)=some (.type "type"))(h3:PySem.W.subIn K t (.ref c)=some b):PySem.W.exmOne K t (.ref c)=some b:=by
 unfold PySem.W.exmOne PySem.W.kitCls;have h1:(PySem.W.clsIn K c).isSome=true:=h1;rw [h0];simp only [h1,h2,beq_self_eq_true,Bool.and_self,if_true];exact h3
end L2
namespace L3
open PySem PySem.Spec PyProof.Rows
section
variable {prog:Program} {w:World} {A:Around} {E:Value→Shared→Prop} {s:Shared} {e z TI TO i1 i2:Addr} {f1 f2:List Addr} {n1 n2 k:Nat} {P1 P2:Nat→Value→Prop} {S1 S2:Nat→Heap→Prop} {a b old:Value}
end
end L3
namespace L2
open PySem PySem.Spec PyProof.Rows
end L2
namespace L2
open PySem PySem.Spec PyProof.Rows
end L2
namespace L2
open PySem PySem.Spec PyProof.Rows
abbrev zf:=VK→XK→St→Hp→Prop
abbrev TX:=eU→XK→St→Hp→Prop
def Aq(X:Cx)(e:Expr)(t:zf):Prop:=
 ∀(pins:List (Addr×Obj)) (s:Shared) (σ:St) (H:Hp) (Q:VK) (E:XK),aJ X pins σ H s→t Q E σ H→wpAny (model X.prog X.w) X.A (eval e X.env) (EP X pins σ Q) (qG X pins σ E) s
def PX(X:Cx)(st:Stmt)(t:TX):Prop:=
 ∀(pins:List (Addr×Obj)) (s:Shared) (σ:St) (H:Hp) (D:eU) (E:XK),aJ X pins σ H s→t D E σ H→wpAny (model X.prog X.w) X.A (exec st X.env) (SP X pins D) (qG X pins σ E) s
structure sU(P:Program)(w:World)(K:Frag)(mg:Str→Option Value)(base:Heap)(x:Str)(k:Nat)(ps:List Str)(sp:Sp)(dvs:List V):Prop where
 ex:∃(f:Addr) (fd:FuncData) (ds:List Value),aC P w K mg base (nN P w) k f fd ps sp∧mg x=some (.ref f)∧keepIn K (.ref f)=true∧cf K fd ps ds∧aS dvs ds
structure sV(P:Program)(w:World)(K:Frag)(mg:Str→Option Value)(base:Heap)(x:Str)(k:Nat)(ps ks:List Str)(sp:Sp)(gV:List V→List V→List V):Prop where
 ex:∃(f:Addr) (fd:FuncData) (g:List Value→List Value→List Value),aC P w K mg base (nN P w) k f fd ps sp∧mg x=some (.ref f)∧keepIn K (.ref f)=true∧sZ K fd ps ks g gV
section
variable {X:Cx} {k:Nat} {ps ks:List Str} {sp:Sp} {x v:Str} {p pos vp cpos:Pos} {e c:Expr} {es:List Expr} {kws:List Keyword} {t:TA} {tk:TA} {dvs:List V} {gV:List V→List V→List V} {iv:Nat}
def vA(sp:Sp)(dvs:List V)(t:TA):zf:=fun Q E σ H=>t σ H fun vs H1=>sp (vs++dvs) H1 Q E
def vB(sp:Sp)(gV:List V→List V→List V)(t tk:TA):zf:=fun Q E σ H=>t σ H fun vs H1=>tk σ H1 fun zs H2=>sp (gV vs zs) H2 Q E
theorem uY(d:sU X.prog X.w X.K X.mg X.base x k ps sp dvs)(hr:b8 k X.A)(hg:Gl X x)(ha:PA X.nox (e::es) t)(hdb:(x == ("__debug__":Str))=false:=by decide)
  (he:starEach (e::es) X.env=(false,eval e X.env)::starEach es X.env:=by rfl) (hpl:(backTo pos (starEach es X.env)).any (·.1)=false:=by rfl):Aq X (.Call (.Name x p) (e::es) [] pos) (vA sp dvs t):=by
 obtain⟨f,fd,ds,F,hm,hk,hb,hd⟩:=d.ex;intro pins s σ H Q E I h;refine wpAny_Call_Name_kw (d5 I hg hm ?_ hdb);refine callWith_K (h₀:=X.base) I.ok.mod.kin hk (wpAny_mono (ha pos pins s σ H _ (I.wish _) h) (fun us s1 ⟨vs,H1,I1,r,q⟩=>⟨I1.kIn,?_⟩) fun _ _ z=>z.elim) he hpl;have I1:aJ X pins σ H1 s1:=I1.unwish;have r2:aS (vs++dvs) (us++ds):=r.append hd
 have hl:(us++ds).length=ps.length:=by rw [←r2.length];exact F.len _ _ _ _ q
 refine wpAny_call (codeAny_mono (F.run X.A X.stack s1 H1 ⟨us,[]⟩ (us++ds) (vs++dvs) Q E hr I1.env0 (hb s1 us I1.kIn hl) r2 q) fun r s' hq=>?_)
 cases r with
 | error e=>exact nN.at_ I1 hq
 | ok fl=>
  cases fl with
  | ret u=>exact I1.after hq
  | next=>exact False.elim hq
  | brk=>exact False.elim hq
  | cont=>exact False.elim hq
theorem uZ(d:sV X.prog X.w X.K X.mg X.base x k ps ks sp gV)(hr:b8 k X.A)(hg:Gl X x)(ha:PA X.nox (e::es) t)(hkw:PK X.nox kws tk)
  (hall:(backToKw pos (keywordEach kws X.env)).all (·.1.isSome)=true:=by rfl) (hks:(backToKw pos (keywordEach kws X.env)).filterMap (·.1)=ks:=by rfl)
  (hdb:(x == ("__debug__":Str))=false:=by decide) (he:starEach (e::es) X.env=(false,eval e X.env)::starEach es X.env:=by rfl)
  (hpl:((backTo pos (starEach (e::es) X.env)).any (·.1) || (backToKw pos (keywordEach kws X.env)).any (·.1.isNone))=false:=by rfl):Aq X (.Call (.Name x p) (e::es) kws pos) (vB sp gV t tk):=by
 obtain⟨f,fd,g,F,hm,hk,hb⟩:=d.ex;intro pins s σ H Q E I h;refine wpAny_Call_Name_kw (d5 I hg hm ?_ hdb);refine PySem.W.callWith_KW (h₀:=X.base) I.ok.mod.kin hk hall (wpAny_mono (ha pos pins s σ H _ (I.wish _) h) (fun us s1 ⟨vs,H1,I1,r,q⟩=>?_) fun _ _ z=>z.elim) hpl he;refine wpAny_mono (hkw pos pins s1 σ H1 _ I1 q) (fun ws s2 ⟨zs,H2,I2,rz,q2⟩=>⟨I2.kIn,?_⟩) fun _ _ z=>z.elim;rw [hks];have I2:aJ X pins σ H2 s2:=I2.unwish;have r2:=hb.rel r rz
 have hl:(g us ws).length=ps.length:=by rw [←r2.length];exact F.len _ _ _ _ q2
 refine wpAny_call (codeAny_mono (F.run X.A X.stack s2 H2 ⟨us,ks.zip ws⟩ (g us ws) (gV vs zs) Q E hr I2.env0 (hb.to s2 us ws I2.kIn hl) r2 q2) fun r s' hq=>?_)
 cases r with
 | error e=>exact nN.at_ I2 hq
 | ok fl=>
  cases fl with
  | ret u=>exact I2.after hq
  | next=>exact False.elim hq
  | brk=>exact False.elim hq
  | cont=>exact False.elim hq
def z6(iv:Nat)(t:zf):TX:=fun D E σ H=>t (fun u H2=>D.nx (σ.set iv (some u)) H2) E σ H
theorem uX{te:zf}(hN:X.N.Nodup)(hv:X.N[iv]?=some v)(hvl:xQ X.env.scope v)(hfnv:X.fn v=true∨X.env.scope.names.lookup v=some .local)(he:Aq X e te)
  (hs1:swapsWith e (some (.Name v vp)) pos.line X.env=pure false:=by rfl):PX X (.Assign [.Name v vp] e pos) (z6 iv te):=by
 intro pins s σ H D E I h;refine wpAny_Assign_Name (wpAny_mono (he pins s σ H _ E I h) (fun u s1 ⟨w,H1,I1,r1,q1⟩=>?_) fun _ _ z=>z) hs1;exact fm I1 hN hv hvl r1 (fun s2 I2=>⟨_,H1,I2,q1⟩) hfnv
def AO(tc:TT)(t u:TX):TX:=fun D E σ H=>tc σ H fun b H1=>if b then t D E σ H1 else u D E σ H1
theorem zT{a b:Stmt}{tc:TT}{t u:TX}(hc:PT X.nox c tc)(ha:PX X a t)(hb:PX X b u):PX X (.If c [a] [b] pos) (AO tc t u):=by
 intro pins s σ H D E I h;refine wpAny_If (wpAny_mono (hc pins s σ H _ (I.wish _) h) (fun d s1 ⟨H1,I1,q1⟩=>?_) fun _ _ z=>z.elim);have I1:aJ X pins σ H1 s1:=I1.unwish
 have fin:∀f s2,SP X pins D f s2→(match f with | .next=>wpAny (model X.prog X.w) X.A (execs [] X.env) (SP X pins D) (qG X pins σ E) s2 | f=>SP X pins D f s2):=fun f s2 q=>by
  cases f with
  | next=>exact wpAny_execs_nil q
  | brk=>exact q
  | cont=>exact q
  | ret u=>exact q
 cases d with
 | true=>exact wpAny_execs_cons (bQ (ha pins s1 σ H1 D E I1 q1) fin)
 | false=>exact wpAny_execs_cons (bQ (hb pins s1 σ H1 D E I1 q1) fin)
end
section
variable {X:Cx} {B C L:Addr} {y n r:Str} {pos np hpos rp rn spos:Pos} {st:Stmt} {t:TX} {ie ir:Nat}
def rC(ie ir:Nat)(C:Addr)(t:TX):TS:=fun D σ H=>t D (fun x _ H2=>∃a d,x=.ref a∧H2 a=some (XO C d a)∧D.nx (((σ.set ie (some (.ref a))).set ir (some (.ref a))).set ie none) H2) σ H
theorem wK(hc:X.calm=true)(hst:X.stack=X.env::X.outer)(hfr:X.env.frame=some L)(hxm:PySem.W.exmOne X.K (.ref C) (.ref B)=some true)(hgC:Gl X y)(hmC:∃u,X.mg y=some u∧aQ (.ref B) u)
  (hN:X.N.Nodup) (hn:X.N[ie]?=some n) (hnl:X.env.scope.names.lookup n=some .local) (hrr:X.N[ir]?=some r) (hrl:xQ X.env.scope r) (hfnr:X.fn r=true∨X.env.scope.names.lookup r=some .local)
  (hb:PX X st t) (hdy:(y == ("__debug__":Str))=false:=by decide) (hdn:(n == ("__debug__":Str))=false:=by decide) (hdc:(n == ("__classdict__":Str))=false:=by decide)
  (hs2:swapsWith (.Name n rn) (some (.Name r rp)) spos.line X.env=pure false:=by rfl) (hie:ie≠ir:=by decide) :
  PS X (.Try [st] [.ExceptHandler (some (.Name y np)) (some n) [.Assign [.Name r rp] (.Name n rn) spos] hpos] [] [] pos) (rC ie ir C t):=by
 obtain⟨uB,hmB,rB⟩:=hmC;cases(show uB=Value.ref B from rB);intro pins s σ H D I h;refine wpAny_Try_except ?_;refine wpAny_execs_cons (wpAny_mono (hb pins s σ H D _ I h) (fun f s1 q1=>?_) fun e1 s1 t1=>?_)
 ·cases f with
  | next=>exact wpAny_execs_nil (wpAny_execs_nil q1)
  | brk=>exact q1
  | cont=>exact q1
  | ret u=>exact q1
 obtain⟨H2,a,C',d,fs,ts,rfl,tS,a',d',e',hx',qD⟩:=t1;cases e';refine tS.note hst hfr I.ok.frames fun h1 T1 t1=>?_;refine t1.land fun h2 t2=>?_;obtain⟨oe,vs,oe1,oe2,_,_⟩:=XO.of (t2.inv.hok a _ hx');refine wpAny_handleBy_cons (codeAny_handlers_test (Calls.Name_function_global t2.inv.ok.kind hgC (Calls.loadGlobal_global (by rw [t2.inv.ok.glob];exact t2.inv.mod.glob.keeps t2.inv.bk) hmB ?_) hdy)) (by intro q;cases q);refine(PySem.W.exm_one (M:=model X.prog X.w) t2.inv.kIn (oe2▸(PySem.W.Looks.ld oe1).andThen .now) hxm).at ?_;refine codeAny_handlers_suite_as ?_;refine t2.land fun h3 t3=>?_
 have hie':ie < σ.length:=by rw [I.len];exact(ab5.mp hn).1
 refine fm t3.inv hN hn (.inl hnl) (v:=.ref a) rfl (fun s4 I4=>?_) (.inr hnl);refine wpAny_execs_cons (wpAny_Assign_Name (wpAny_mono (uT (X:=X.held (.ref a) fun _ _=>False) (i:=ie) (x:=n) (pos:=rn) hn (.inl hnl) hdn hdc pins s4 _ H2 (fun v H=>v=.ref a∧H=H2) (I4.held _ _) ⟨_,af5 hie',rfl,rfl⟩) (fun u s5 ⟨w,H5,I5,r5,e5,e6⟩=>?_) fun _ _ z=>z.elim) hs2);subst e5 e6;refine fm (I5.unheld I.ok) hN hrr hrl r5 (fun s6 I6=>wpAny_execs_nil ?_) hfnr;exact rX I6 hN hn hnl fun s7 I7=>⟨_,_,I7,qD⟩
end
end L2
namespace L2
open PySem PySem.Spec PyProof.Rows
theorem kJ{X:Cx}(hc:X.calm=true)(K:Frag)(hK:X.K=K:=by rfl):bR X (.builtin "min") (fun xs H Q=>∃p ns,xs=[.ref p]∧bf K H p (List.map V.int ns)∧ns≠[]∧∀i∈ns,(∀j∈ns,i≤j)→Q (.int i) H):=by
 subst hK;intro pins s σ H xs us Q I r h;obtain⟨p,ns,rfl,hp,hne,q⟩:=h;obtain⟨u,rfl,ru⟩:=dP r;cases ru;obtain⟨its,rv,ht,_⟩:=I.list hp;obtain⟨ps,e1,e2⟩:=fS rv
 have hl:s.heap.IsList p (intItems ps.toArray):=by
  have:=ht.isList
  rw [e1]at this;simpa [intItems]using this
 have hpn:ps.length=ns.length:=by rw [←e2,aa1]
 have hn0:ns.length≠0:=fun z=>hne (ae3.mp z);refine min_intList (I.ok.hd hc) hl (by rw [aa4];omega) fun v h' tk hv hk=>?_;have hb:=argBest_lt (numAt ps.toArray) (ps.toArray.size - 1);generalize argBest (fun i j=>decide (numAt ps.toArray i < numAt ps.toArray j)) (ps.toArray.size - 1)=b at hv hb;simp only [intItems,List.map_toArray,List.getElem?_toArray,ac5,Option.map_eq_some_iff]at hv;obtain⟨⟨a,t⟩,ha,rfl⟩:=hv
 have hnum:∀(i:Nat) (z:Int×Tok),ps[i]?=some z→numAt ps.toArray i=z.1:=fun i z e=>by simp [numAt,e]
 refine⟨.int a,H,I.kept (t':=tk) fun b o e=>hk b o e,⟨t,rfl⟩,q a ?_ fun j hj=>?_⟩
 ·rw [←e2]
  exact List.mem_map_of_mem (f:=fun p:Int×Tok=>p.1) (ac7 ha)
 ·rw [←e2]at hj
  obtain⟨z,hz,rfl⟩:=ag3.mp hj;obtain⟨i,hi⟩:=List.mem_iff_getElem?.mp hz;have h1:=hb.2 i (by have:=(ab5.mp hi).1;rw [aa4];omega);rw [hnum _ _ hi,hnum _ _ ha]at h1;exact h1
end L2
namespace L2
open PySem PySem.Spec PyProof.Rows
theorem lA:∀(more acc:List (Str×Value)),((acc++more).map (·.1)).Nodup→merged acc more=acc++more
 | [],acc,_=>by simp [merged]
 | (k,v)::more,acc,h=>by
  have h0:acc.any (fun kv=>kv.1=k)=false:=by
   rw [List.any_eq_false];intro x hx hk;rw [ac9,ac1]at h;have h2:=(List.nodup_append.mp h).2.2 x.1 (List.mem_map_of_mem hx) k ab3;exact h2 (by simpa using hk)
  have e:stored acc k v=acc++[(k,v)]:=by
   unfold stored;rw [h0,if_neg aa0]
  show merged (stored acc k v) more=_;rw [e,lA more (acc++[(k,v)]) (by simpa using h),af3];rfl
def PD(X:Cx)(ks:List Str)(keys:List (Option Expr))(es:List Expr)(t:TA):Prop:=
 ∀(pos:Pos) (pins:List (Addr×Obj)) (s:Shared) (σ:St) (H:Hp) (Q:List V→Hp→Prop),aJ X pins σ H s→t σ H Q→
  wpAny (model X.prog X.w) X.A (evalPairs (pairTrees keys es X.env pos)) (fun r s'=>∃vs H' us,aJ X pins σ H' s'∧aS vs us∧us.length=ks.length∧Carries (strKind X.prog X.w) r (ks.zip us)∧Q vs H') X.xe s
section
variable {X:Cx}
theorem uN:PD X [] [] [] qu:=fun pos pins s σ H Q I h=>pairTrees_nil_walk ⟨[],H,[],I,.nil,rfl,trivial,h⟩
theorem d7{k:Str}{ks:List Str}{j:Nat}{kp:Pos}{keys:List (Option Expr)}{e:Expr}{es:List Expr}{ta:TE}{t:TA}(he:PE X e ta)(hr:PD X ks keys es t):PD X (k::ks) (some (.Constant (.str k) j kp)::keys) (e::es) (lX ta t):=by
 intro pos pins s σ H Q I h;refine pairTrees_cons_walk (bQ (aD (X:=X) pins s σ H (fun v H'=>v=.str k∧H'=H) I ⟨rfl,rfl⟩) fun kv s1 ⟨x,H1,I1,r1,e1,e2⟩=>?_);subst e1 e2;obtain⟨tk,rfl⟩:=r1;refine bQ (he pins s1 σ H1 _ I1 h) fun u s2 ⟨v,H2,I2,r2,q2⟩=>?_;refine bQ (hr pos pins s2 σ H2 _ I2 q2) fun r s3 ⟨vs,H3,us,I3,rv,hl,hc,q3⟩=>?_;refine⟨v::vs,H3,u::us,I3,.cons r2 rv,by rw [aa8,aa8,hl],⟨?_,rfl,hc⟩,q3⟩;show Value.isStrOf k (.str k tk)=true;simp [Value.isStrOf]
theorem aJ.pin1{pins:List (Addr×Obj)}{σ:St}{H:Hp}{s:Shared}{a:Addr}{o:Obj}(I:aJ X pins σ H s)(e:s.heap.get? a=some o)(hn:H a=none)(h1:a≠X.env.locals)(h2:a∉X.fs)(h3:∀v,o.data≠.cell v):aJ X ((a,o)::pins) σ H s:=
 ⟨I.ok,I.os,I.bare,I.base,I.loc,I.cell,I.free,I.freeC,fun p hp=>by
  rcases ac2.mp hp with hp | hp
  ·exact I.pin p (ac2.mpr (.inl hp))
  ·rcases ab7.mp hp with rfl | hp
   ·exact⟨e,hn,h1,h2,h3⟩
   ·exact I.pin p (ac2.mpr (.inr hp)),I.hok,I.len⟩
theorem aJ.unpin1{pins:List (Addr×Obj)}{σ:St}{H:Hp}{s:Shared}{a:Addr}{o:Obj}(I:aJ X ((a,o)::pins) σ H s):aJ X pins σ H s:=
 ⟨I.ok,I.os,I.bare,I.base,I.loc,I.cell,I.free,I.freeC,fun p hp=>I.pin p (by
  rcases ac2.mp hp with hp | hp
  ·exact ac2.mpr (.inl hp)
  ·exact ac2.mpr (.inr (ab2 _ hp))),I.hok,I.len⟩
def yR(ks:List Str)(t:TA)(tb:TE):TE:=fun σ H Q=>t σ H fun vs H1=>tb σ H1 fun y H2=>∃(i:Nat) (k:Str) (v:V),y=.str k∧ks[i]?=some k∧vs[i]?=some v∧Q v H2
theorem uQ{ks:List Str}{keys:List (Option Expr)}{es:List Expr}{b:Expr}{t:TA}{tb:TE}{dp pos:Pos}(ha:PD X ks keys es t)(hb:PE X b tb)(hs:md b)(hnd:ks.Nodup:=by decide +kernel)(hall:keys.all (·.isSome)=true:=by rfl)(hl:keys.length=es.length:=by rfl)(h0:keys≠[]:=by exact fun z=>by cases z)(h15:keys.length≤15:=by decide):
  PE X (.Subscript (.Dict keys es dp) b pos) (yR ks t tb):=by
 intro pins s σ H Q I h;have hsz:=I.lt;have hfr:=I.hok.fresh (aa3 s.heap.objs.size);have J0:aJ X pins σ H { s with heap:=s.heap.push { cls:=.type "dict",data:=.dict #[] } }:=I.kept (t':=s.toks) fun _ _ q=>aa2 _ q;have J1:=aJ.pin1 J0 (ab6 _ rfl) hfr (Ne.symm (ab4 hsz)) (I.nofs (aa3 _)) (fun v z=>by cases z);refine Subscript_ (wpAny_Dict_walk (knd:=strKind X.prog X.w) hall hl h0 h15 (bQ (ha dp _ _ σ H _ J1 h) fun r s1 ⟨vs,H1,us,I1,rv,hul,hc,q1⟩=>?_));have hp1:=I1.pin _ (ac2.mpr (.inr ab3));refine⟨ks.zip us,hc,⟨_,#[],0,hp1.1,⟨rfl,rfl,rfl⟩,rfl,?_,.nil,List.nodup_nil⟩,fun h' hd hsb=>?_⟩
 ·intro i hi;simp at hi
 rw [lA _ [] (by rw [ah7,List.map_fst_zip (by omega)];exact hnd),ah7]at hd
 have I2:aJ X pins σ H1 { s1 with heap:=h',toks:=s1.toks+r.length }:=I1.unpin1.turned (it:=s.heap.objs.size) (fun b o hb e=>(hsb.2 b hb).trans e) hp1.2.1 hp1.2.2.1 (.inr I.sz) (fun x c e z=>by
  obtain⟨v,hc⟩:=I.cell x c e;obtain⟨o,ho,_⟩:=hc
  exact absurd (aa9 ho) (by rw [z];exact ae2 _)) fun p hp z=>absurd (aa9 (I.pin p hp).1) (by rw [z];exact ae2 _)
 obtain⟨o,es',ep,ho,hx,hd',hk,hpr,hn⟩:=hd;have J2:=aJ.pin1 I2 ho hp1.2.1 hp1.2.2.1 hp1.2.2.2.1 (fun v z=>by rw [hd']at z;cases z);refine bQ (hb _ _ σ H1 _ J2 q1) fun u s2 ⟨y,H2,I3,ry,i,k,v,ey,hk1,hv,q⟩=>?_;subst ey;obtain⟨tk,rfl⟩:=ry;have hp3:=I3.pin _ (ac2.mpr (.inr ab3));have dd:s2.heap.DictOf (strKind X.prog X.w) s.heap.objs.size (ks.zip us):=⟨o,es',ep,hp3.1,hx,hd',hk,hpr,hn⟩;obtain⟨u2,hu2,ru2⟩:∃u2,us[i]?=some u2∧aQ v u2:=aS.get rv hv;have hval:valueAt (ks.zip us) k=some u2:=valueAt_of_get hn (i:=i) ((List.getElem?_zip_eq_some (z:=(k,u2))).mpr ⟨hk1,hu2⟩);have hT:s2.TypeIs (.ref s.heap.objs.size) "dict":=dd.mapOf.typeIs;unfold subscriptTail;refine wpAny_bind ?_;rw [getitemInPython_of_ne hT.not_modules];refine wpAny_bind (wpAny_specialOf hT PySem.F.slot_dict_getitem.lookup ?_)
 have fin:wpAny (model X.prog X.w) X.A (subscripted b false (.ref s.heap.objs.size) (.str k tk)) (fun r s₃=>wpAny (model X.prog X.w) X.A (letTemporaryGo (.Dict keys es dp) (.ref s.heap.objs.size) r >>= fun _=>pure r) (EP X pins σ Q) X.xe s₃) X.xe s2:=by
  rw [hs];exact wpAny_operating (wpAny_getItem_of (knd:=strKind X.prog X.w) (k:=k) (by show Value.isStrOf k (.str k tk)=true;simp [Value.isStrOf]) dd.mapOf hval (wpAny_bind (wpAny_letTemporaryGo (wpAny_pure ⟨v,H2,(I3.unpin1).tok _,ru2,q⟩))))
 first
  | exact wpAny_pure (wpAny_bind fin)
  | exact wpAny_bind (wpAny_pure (wpAny_bind fin))
  | exact wpAny_bind fin
end
end L2
namespace L2
open PySem PySem.Spec PyProof.Rows
theorem mq{X:Cx}(K:Frag)(h:X.K=K:=by rfl):bR X (.builtin "isinstance") (fun xs H Q=>∃x C t b,xs=[x,.ref C]∧fU K H x t∧kitOne K t (.ref C)=some b∧Q (.bl b) H):=by
 subst h;intro pins s σ H xs us Q I r h;obtain⟨x,C,t,b,rfl,ty,e,q⟩:=h;obtain⟨u,w',rfl,ru,rw'⟩:=rD r;cases(show w'=Value.ref C from rw');exact lp I ru ty e fun tk=>⟨.bl b,H,I.tok _,rfl,q⟩
def g2{α:Type}:List α→List α→List α
 | [a,b],[c]=>[a,b,c]
 | _,_=>[]
theorem t5{α:Type}{us ws:List α}(h:(g2 us ws).length=3):∃a b c,us=[a,b]∧ws=[c]:=by
 cases us with
 | nil=>cases h
 | cons a us=>
  cases us with
  | nil=>cases h
  | cons b us=>
   cases us with
   | cons _ _=>cases h
   | nil=>
    cases ws with
    | nil=>cases h
    | cons c ws=>
     cases ws with
     | nil=>exact⟨a,b,c,rfl,rfl⟩
     | cons _ _=>cases h
theorem ma.bindsK{K:Frag}{x qual kw:Str}{st:Stmt}{f T:Addr}{fd:FuncData}{ps:List Str}(F:ma K x qual st f fd T){o:Obj}{u:Value}{n:Nat}(t:K.lookup T=some o)(d:o.data=.seq #[u] n)(hp:ps.length=3)
  (h:∀(kV doc pm:Value) (an:Option Addr) (cdv ct a b c:Value),
   ∃k:Option (Array Value)→Sem (List (Str×Value)),bindArgs (fnOf x qual (bV st) (bN st) (aq st) (.ref T) kV doc pm an cdv ct) ⟨[a,b],[(kw,c)]⟩=seqItems? (.ref T) >>= k∧k (some #[u])=pure (ps.zip [a,b,c])):sZ K fd ps [kw] g2 g2 where
 to:=fun s us ws X hl=>by
  obtain⟨oc,od,kV,doc,pm,an,cdv,ct,osl,rfl,lk,hcd⟩:=F.ex;rw [hp]at hl;obtain⟨a,b,c,rfl,rfl⟩:=t5 hl;obtain⟨k,h1,h2⟩:=h kV doc pm an cdv ct a b c;exact BindsTo.of_defaults (T:=T) rfl (X _ _ t) d h1 h2
 rel:=fun {vs us zs ws} r1 r2=>by
  cases r1 with
  | nil=>exact .nil
  | cons h1 t1=>
   cases t1 with
   | nil=>exact .nil
   | cons h2 t2=>
    cases t2 with
    | cons _ _=>exact .nil
    | nil=>
     cases r2 with
     | nil=>exact .nil
     | cons h3 t3=>
      cases t3 with
      | nil=>exact .cons h1 (.cons h2 (.cons h3 .nil))
      | cons _ _=>exact .nil
end L2
seal PySem.wpAny
namespace K19
open PySem PyProof.Rows L2
def dE(i:Nat):Stmt:=PySem.Challenge.pw_fourvoices_k19_rows_read.main.body.getD i (.Pass ⟨0,0,0,0⟩)
abbrev cG:Stmt:=bK (dE 3) 0
theorem gj:aF ["self","row"] ["self","row"] (aq cG):=⟨rfl,rfl,rfl,by decide +kernel,rfl,by decide +kernel,by decide +kernel⟩
abbrev dn:Stmt:=bK (dE 16) 0
theorem ip:aF ["self","row"] ["self","row"] (aq dn):=⟨rfl,rfl,rfl,by decide +kernel,rfl,by decide +kernel,by decide +kernel⟩
abbrev bU:Stmt:=bK (dE 16) 1
theorem ni:aF ["self"] ["self"] (aq bU):=⟨rfl,rfl,rfl,by decide +kernel,rfl,by decide +kernel,by decide +kernel⟩
abbrev bp:Stmt:=bK (dE 16) 5
theorem ku:aF ["self"] ["self"] (aq bp):=⟨rfl,rfl,rfl,by decide +kernel,rfl,by decide +kernel,by decide +kernel⟩
abbrev dq:Stmt:=bK (dE 17) 0
theorem iq:aF ["self","row","first","second","numbers"] ["self","row","first","second","numbers"] (aq dq):=⟨rfl,rfl,rfl,by decide +kernel,rfl,by decide +kernel,by decide +kernel⟩
abbrev cQ:Stmt:=bK (dE 18) 0
theorem gE:aF ["self","row","first","second","hours","numbers"] ["self","row","first","second","hours","numbers"] (aq cQ):=⟨rfl,rfl,rfl,by decide +kernel,rfl,by decide +kernel,by decide +kernel⟩
abbrev cP:Stmt:=bK (dE 19) 0
theorem gD:aF ["self","row","voice","notes"] ["self","row","voice","notes"] (aq cP):=⟨rfl,rfl,rfl,by decide +kernel,rfl,by decide +kernel,by decide +kernel⟩
abbrev cT:Stmt:=bK (dE 20) 0
theorem gF:aF ["self","row","voice","notes"] ["self","row","voice","notes"] (aq cT):=⟨rfl,rfl,rfl,by decide +kernel,rfl,by decide +kernel,by decide +kernel⟩
abbrev dk:Stmt:=bK (dE 22) 0
theorem ik:aF ["self","row","voice","most"] ["self","row","voice","most"] (aq dk):=⟨rfl,rfl,rfl,by decide +kernel,rfl,by decide +kernel,by decide +kernel⟩
abbrev fe:Stmt:=bK (dE 22) 1
theorem nh:aF ["self"] ["self"] (aq fe):=⟨rfl,rfl,rfl,by decide +kernel,rfl,by decide +kernel,by decide +kernel⟩
abbrev cW:Stmt:=bK (dE 23) 0
theorem gH:aF ["self","row","voice","note","fewest","most"] ["self","row","voice","note","fewest","most"] (aq cW):=⟨rfl,rfl,rfl,by decide +kernel,rfl,by decide +kernel,by decide +kernel⟩
abbrev eg:Stmt:=bK (dE 23) 1
theorem kx:aF ["self"] ["self"] (aq eg):=⟨rfl,rfl,rfl,by decide +kernel,rfl,by decide +kernel,by decide +kernel⟩
abbrev cU:Stmt:=bK (dE 24) 0
theorem gG:aF ["self","row","turns","turn","inner"] ["self","row","turns","turn","inner"] (aq cU):=⟨rfl,rfl,rfl,by decide +kernel,rfl,by decide +kernel,by decide +kernel⟩
abbrev ee:Stmt:=bK (dE 24) 1
theorem kr:aF ["self"] ["self"] (aq ee):=⟨rfl,rfl,rfl,by decide +kernel,rfl,by decide +kernel,by decide +kernel⟩
abbrev dm:Stmt:=bK (dE 26) 0
theorem il:aF ["self","row","voice","numbers"] ["self","row","voice","numbers"] (aq dm):=⟨rfl,rfl,rfl,by decide +kernel,rfl,by decide +kernel,by decide +kernel⟩
abbrev cO:Stmt:=bK (dE 27) 0
theorem gC:aF ["self","row","first","second","numbers"] ["self","row","first","second","numbers"] (aq cO):=⟨rfl,rfl,rfl,by decide +kernel,rfl,by decide +kernel,by decide +kernel⟩
abbrev dj:Stmt:=bK (dE 28) 0
theorem ij:aF ["self","row","voice","widest"] ["self","row","voice","widest"] (aq dj):=⟨rfl,rfl,rfl,by decide +kernel,rfl,by decide +kernel,by decide +kernel⟩
abbrev fc:Stmt:=bK (dE 28) 1
theorem ng:aF ["self"] ["self"] (aq fc):=⟨rfl,rfl,rfl,by decide +kernel,rfl,by decide +kernel,by decide +kernel⟩
abbrev ff:Stmt:=dE 32
theorem sc_is_number:aF ["word","figures"] ["word"] (aq ff):=⟨rfl,rfl,rfl,by decide +kernel,rfl,by decide +kernel,by decide +kernel⟩
abbrev ei:Stmt:=dE 36
theorem ky:aF ["numbers","voices"] ["numbers","voices"] (aq ei):=⟨rfl,rfl,rfl,by decide +kernel,rfl,by decide +kernel,by decide +kernel⟩
abbrev gd:Stmt:=dE 37
theorem oZ:aF ["numbers","ahead"] ["numbers","ahead"] (aq gd):=⟨rfl,rfl,rfl,by decide +kernel,rfl,by decide +kernel,by decide +kernel⟩
abbrev fM:Stmt:=dE 38
theorem jQ:aF ["row","numbers","voices"] ["row","numbers","voices"] (aq fM):=⟨rfl,rfl,rfl,by decide +kernel,rfl,by decide +kernel,by decide +kernel⟩
abbrev eo:Stmt:=dE 39
theorem iI:aF ["row","numbers","voices"] ["row","numbers","voices"] (aq eo):=⟨rfl,rfl,rfl,by decide +kernel,rfl,by decide +kernel,by decide +kernel⟩
abbrev fL:Stmt:=dE 40
theorem jP:aF ["row","numbers","voices"] ["row","numbers","voices"] (aq fL):=⟨rfl,rfl,rfl,by decide +kernel,rfl,by decide +kernel,by decide +kernel⟩
abbrev eh:Stmt:=dE 41
theorem iG:aF ["row","numbers","voices"] ["row","numbers","voices"] (aq eh):=⟨rfl,rfl,rfl,by decide +kernel,rfl,by decide +kernel,by decide +kernel⟩
abbrev fJ:Stmt:=dE 42
theorem jN:aF ["row","numbers","voices"] ["row","numbers","voices"] (aq fJ):=⟨rfl,rfl,rfl,by decide +kernel,rfl,by decide +kernel,by decide +kernel⟩
abbrev fK:Stmt:=dE 43
theorem jO:aF ["row","numbers","voices"] ["row","numbers","voices"] (aq fK):=⟨rfl,rfl,rfl,by decide +kernel,rfl,by decide +kernel,by decide +kernel⟩
abbrev eE:Stmt:=dE 44
theorem iK:aF ["row","numbers","voices"] ["row","numbers","voices"] (aq eE):=⟨rfl,rfl,rfl,by decide +kernel,rfl,by decide +kernel,by decide +kernel⟩
abbrev ej:Stmt:=dE 45
theorem iH:aF ["row","numbers","voices"] ["row","numbers","voices"] (aq ej):=⟨rfl,rfl,rfl,by decide +kernel,rfl,by decide +kernel,by decide +kernel⟩
abbrev eu:Stmt:=dE 46
theorem iJ:aF ["row","numbers","voices"] ["row","numbers","voices"] (aq eu):=⟨rfl,rfl,rfl,by decide +kernel,rfl,by decide +kernel,by decide +kernel⟩
abbrev eD:Stmt:=dE 48
theorem sc_plain_rule:aF ["row","voices","words"] ["row","voices"] (aq eD):=⟨rfl,rfl,rfl,by decide +kernel,rfl,by decide +kernel,by decide +kernel⟩
abbrev eA:Stmt:=dE 49
theorem sc_every_rule:aF ["row","voices","words","turns","turn","inner"] ["row","voices"] (aq eA):=⟨rfl,rfl,rfl,by decide +kernel,rfl,by decide +kernel,by decide +kernel⟩
abbrev fj:Stmt:=dE 50
theorem sc_read_rule:aF ["text","voices","row","rule"] ["text","voices","row"] (aq fj):=⟨rfl,rfl,rfl,by decide +kernel,rfl,by decide +kernel,by decide +kernel⟩
abbrev gg:Stmt:=dE 52
theorem sc_law_pick:aF ["_law_script","_law_at","_law_cell"] ["_law_script","_law_at"] (aq gg):=⟨rfl,rfl,rfl,by decide +kernel,rfl,by decide +kernel,by decide +kernel⟩
abbrev eB:Stmt:=dE 53
theorem sc_law_number:aF ["_law_word","_law_figures","_law_sign"] ["_law_word"] (aq eB):=⟨rfl,rfl,rfl,by decide +kernel,rfl,by decide +kernel,by decide +kernel⟩
abbrev fg:Stmt:=dE 54
theorem nj:aF ["_law_word"] ["_law_word"] (aq fg):=⟨rfl,rfl,rfl,by decide +kernel,rfl,by decide +kernel,by decide +kernel⟩
abbrev fi:Stmt:=dE 55
theorem sc_law_plain:aF ["_law_words","_law_voices","_law_kinds_here","_law_numbers","_law_k","_law_least","_law_more"] ["_law_words","_law_voices"] (aq fi):=⟨rfl,rfl,rfl,by decide +kernel,rfl,by decide +kernel,by decide +kernel⟩
abbrev gh:Stmt:=dE 56
theorem sc_law_size:aF ["_law_text","_law_voices","_law_words","_law_many","_law_at"] ["_law_text","_law_voices"] (aq gh):=⟨rfl,rfl,rfl,by decide +kernel,rfl,by decide +kernel,by decide +kernel⟩
abbrev ic:Stmt:=dE 57
theorem sc_law_any:aF ["_law_cell"] ["_law_cell"] (aq ic):=⟨rfl,rfl,rfl,by decide +kernel,rfl,by decide +kernel,by decide +kernel⟩
abbrev gf:Stmt:=dE 58
theorem sc_law_lead:aF ["_law_sign","_law_cell","_law_voices","_law_edge"] ["_law_sign","_law_cell","_law_voices"] (aq gf):=⟨rfl,rfl,rfl,by decide +kernel,rfl,by decide +kernel,by decide +kernel⟩
abbrev cH:Stmt:=dE 59
theorem sc_law_plain_words:aF ["_law_script","_law_word","_law_voices","_law_signs","_law_words","_law_many","_law_k"] ["_law_script","_law_word","_law_voices"] (aq cH):=⟨rfl,rfl,rfl,by decide +kernel,rfl,by decide +kernel,by decide +kernel⟩
abbrev ig:Stmt:=dE 60
theorem sc_law_row:aF ["_law_script","_law_voices","_law_some","_law_kind","_law_word","_law_words","_law_many","_law_at","_law_edge"] ["_law_script","_law_voices"] (aq ig):=⟨rfl,rfl,rfl,by decide +kernel,rfl,by decide +kernel,by decide +kernel⟩
abbrev fh:Stmt:=dE 61
theorem sc_law_other:aF ["_law_cell","_law_voices","_law_some"] ["_law_cell","_law_voices"] (aq fh):=⟨rfl,rfl,rfl,by decide +kernel,rfl,by decide +kernel,by decide +kernel⟩
abbrev eC:Stmt:=dE 62
theorem sc_law_spoilt:aF ["_law_words","_law_cell","_law_at","_law_voices","_law_k","_law_way","_law_turned","_law_text"] ["_law_words","_law_cell","_law_at","_law_voices"] (aq eC):=⟨rfl,rfl,rfl,by decide +kernel,rfl,by decide +kernel,by decide +kernel⟩
abbrev dS:Stmt:=dE 63
theorem sc_law_refused:aF ["_law_e","_law_due","_law_found"] ["_law_e","_law_due"] (aq dS):=⟨rfl,rfl,rfl,by decide +kernel,rfl,by decide +kernel,by decide +kernel⟩
abbrev lH:Stmt:=dE 64
theorem sc_law:aF ["_law_script","_law_voices","_law_words","_law_text","_law_cell","_law_handed","_law_due","_law_k","_law_refused_here","_law_rule","_law_e","_law_found"] ["_law_script"] (aq lH):=⟨rfl,rfl,rfl,by decide +kernel,rfl,by decide +kernel,by decide +kernel⟩
structure Txt(mg:Str→Option Value)(aM:Addr):Prop where
 n_len:mg "len"=none
 n_range:mg "range"=none
 n_all:mg "all"=none
 n_min:mg "min"=none
 n_abs:mg "abs"=none
 n_list:mg "list"=none
 n_isinstance:mg "isinstance"=none
 n_bool:mg "bool"=none
 n_int:mg "int"=none
 n_str:mg "str"=none
 n_enumerate:mg "enumerate"=none
 n_tuple:mg "tuple"=none
 n_ValueError:mg "ValueError"=none
 g_FIGURES:∃u,mg "FIGURES"=some u∧aQ (.str "0123456789") u
 g_MOST_FIGURES:∃u,mg "MOST_FIGURES"=some u∧aQ (.int 40) u
 g_MOST_NUMBERS:∃u,mg "MOST_NUMBERS"=some u∧aQ (.int 12) u
 g_MAKERS:∃u,mg "MAKERS"=some u∧aQ (.ref aM) u
structure zg(mg:Str→Option Value)(aM aI:Addr):Prop extends Txt mg aM where
 g_INNER_KINDS:∃u,mg "INNER_KINDS"=some u∧aQ (.ref aI) u
local macro_rules | `(tactic| walk_at "rd") => `(tactic| (try dsimp only [↓lG, ↓jK, ↓fu, ↓gU, ↓hR, ↓hU, ↓hV, ↓hX, ↓fz, ↓fA, y7, y3, jI, jU, lx, lu, yd, lq, r0, lr, jY, pz, sM, kZ, tC, xO, Ak, vj, xl, vk, rm, zY, lW, lX, qu, xj, Ai, xk, Ah, Aj, i6, L2.start, List.map_cons, List.map_nil, List.length_cons, List.length_nil, List.replicate, List.cons_append, List.nil_append, List.set_cons_zero, List.set_cons_succ, lG, jK, fu, gU, hR, hU, hV, hX, fz, fA]) <;> (try simp only [↓lG, ↓jK, ↓fu, ↓gU, ↓hR, ↓hU, ↓hV, ↓hX, ↓fz, ↓fA, ↓AL, ↓AM, y7, y3, jI, jU, lx, lu, yd, lq, r0, lr, jY, pz, sM, kZ, xm, tC, xO, Ak, vj, jZ, xl, vk, rm, zY, lW, lX, qu, xj, Ai, xk, lV, sN, lY, Ah, Aj, pA, i6, Ag, zX, zu, xB, zr, oR, rI, rU, L2.start, jj, jk, fV, jh, ji, jl, jm, jn, fW, oh, qO, n0, oa, n6, kO, kU, kP, kW, kN, kT, og, nZ, n9, n8, iD, List.map_cons, List.map_nil, List.length_cons, List.length_nil, List.replicate, List.cons_append, List.nil_append, List.append_nil, List.getElem?_cons_zero, List.getElem?_cons_succ, List.set_cons_zero, List.set_cons_succ, Option.some.injEq, tR, xy, pP, tU, tQ, V.int.injEq, V.str.injEq, V.bl.injEq, V.ref.injEq, V.ty.injEq, List.cons.injEq, and_true, true_and, zv, uc, xD, xE, zw, xC, ua, nH, zt, oi, oj, xZ, u7, nG, qt, yS, yK, rA, zW, kQ, kX, kR, kY, rq, px, yP, Int.zero_add, if_true, Bool.false_eq_true, if_false, cσ, List.getD_cons_zero, List.getD_cons_succ, tP, tJ, xu, decide_eq_true_eq, reduceCtorEq, false_and, tT, false_or, or_false, xx, List.length_map, yT, z3, AG, z0, nY, qP, Bool.not_eq_true', zo, ite_not, lG, jK, fu, gU, hR, hU, hV, hX, fz, fA]) <;> try simp only [rT, rR, rQ, vS, vT, kL, kM, tV, tW, rS, pP, tU, tQ, tP, and_true, true_and, V.int.injEq, V.str.injEq, V.bl.injEq, V.ref.injEq, reduceCtorEq, false_and, tT, false_or, or_false])
local macro_rules | `(tactic| walk_at "flds") => `(tactic| simp only [eW, mL, String.reduceEq, if_false, if_true, List.lookup])
def rh:Sp:=fun vs H Q _=>∃z,vs=[.str z]∧z.length≤10000∧∀H',aw H H'→Q (.bl (cg z.cps.toList)) H'
def bG(K:Frag):Sp:=fun vs H Q _=>∃(x C dx:Addr) (fs:List (Str×V)) (row:Str),vs=[.ref x,.str row]∧H x=some (.ins C dx fs)∧iR K C∧NoAttr K C "row"∧fs.length < 100∧Q .non (upd H x (.ins C dx (bo "row" (.str row) fs)))
def cY(n:Nat)(v:List V→V):Sp:=fun vs H Q _=>vs.length=n∧Q (v vs) H
def bz(K:Frag):Sp:=fun vs H Q _=>∃(r C dx:Addr) (fs:List (Str×V)) (row:Str),vs=[.ref r]∧H r=some (.ins C dx fs)∧iR K C∧NoAttr K C "row"∧fs.lookup (Str.ofString "row")=some (.str row)∧Q (.str row) H
def bE(K:Frag):Sp:=fun vs H Q _=>∃(q:Addr) (xs:List V) (j:Int),vs=[.ref q,.int j]∧bf K H q xs∧Q (.bl (decide (1≤(xs.length:Int) - j) && decide ((xs.length:Int) - j≤12))) H
def aR(K:Frag):Sp:=fun vs H Q _=>∃(q:Addr) (ns:List Int) (nv:Int),vs=[.ref q,.int nv]∧bf K H q (ns.map V.int)∧ns.length≤1000∧∀H',aw H H'→Q (.bl (ns.all fun n=>decide (1≤n) && decide (n≤nv))) H'
def jr(row:Str)(x1 x2:Int)(n:Addr):List (Str×V):=bo "numbers" (.ref n) (bo "second" (.int x2) (bo "first" (.int x1) (bo "row" (.str row) [])))
def pL(C:Addr)(row:Str)(x1 x2:Int)(D:List Int):nO:=fun r H=>∃(dx n:Addr),H r=some (.ins C dx (jr row x1 x2 n))∧H n=some (.lst (D.map V.int))
structure l8(K:Frag)(C:Addr):Prop where
 cl:iR K C
 n1:NoAttr K C "row"
 n2:NoAttr K C "first"
 n3:NoAttr K C "second"
 n4:NoAttr K C "numbers"
def eJ(K:Frag)(C:Addr):Sp:=fun vs H Q _=>∃(x dx q:Addr) (row:Str) (x1 x2:Int) (D:List Int),vs=[.ref x,.str row,.int x1,.int x2,.ref q]∧H x=some (.ins C dx [])∧bf K H q (D.map V.int)∧D.length≤20∧
 ∀n H',H n=none→H'=upd (upd H n (.lst (D.map V.int))) x (.ins C dx (jr row x1 x2 n))→Q .non H'
def pj(K:Frag)(C:Addr):Sp:=fun vs H Q _=>∃(q:Addr) (row:Str) (x1 x2:Int) (D:List Int) (nv:Int),vs=[.str row,.ref q,.int nv]∧bf K H q ((x1::x2::D).map V.int)∧1≤x1∧x1≤nv∧1≤x2∧x2≤nv∧1≤D.length∧D.length≤12∧
 ∀r H',aw H H'→pL C row x1 x2 D r H'→Q (.ref r) H'
def g8(row:Str)(x1 x2 x3:Int)(n:Addr):List (Str×V):=bo "numbers" (.ref n) (bo "hours" (.int x3) (bo "second" (.int x2) (bo "first" (.int x1) (bo "row" (.str row) []))))
def mi(C:Addr)(row:Str)(x1 x2 x3:Int)(D:List Int):nO:=fun r H=>∃(dx n:Addr),H r=some (.ins C dx (g8 row x1 x2 x3 n))∧H n=some (.lst (D.map V.int))
structure ja(K:Frag)(C:Addr):Prop where
 cl:iR K C
 n1:NoAttr K C "row"
 n2:NoAttr K C "first"
 n3:NoAttr K C "second"
 n4:NoAttr K C "hours"
 n5:NoAttr K C "numbers"
def dJ(K:Frag)(C:Addr):Sp:=fun vs H Q _=>∃(x dx q:Addr) (row:Str) (x1 x2 x3:Int) (D:List Int),vs=[.ref x,.str row,.int x1,.int x2,.int x3,.ref q]∧H x=some (.ins C dx [])∧bf K H q (D.map V.int)∧D.length≤20∧
 ∀n H',H n=none→H'=upd (upd H n (.lst (D.map V.int))) x (.ins C dx (g8 row x1 x2 x3 n))→Q .non H'
def lK(K:Frag)(C:Addr):Sp:=fun vs H Q _=>∃(q:Addr) (row:Str) (x1 x2 x3:Int) (D:List Int) (nv:Int),vs=[.str row,.ref q,.int nv]∧bf K H q ((x1::x2::x3::D).map V.int)∧1≤x1∧x1≤nv∧1≤x2∧x2≤nv∧1≤x3∧1≤D.length∧D.length≤12∧
 ∀r H',aw H H'→mi C row x1 x2 x3 D r H'→Q (.ref r) H'
def jq(row:Str)(x1:Int)(n:Addr):List (Str×V):=bo "numbers" (.ref n) (bo "voice" (.int x1) (bo "row" (.str row) []))
def pK(C:Addr)(row:Str)(x1:Int)(D:List Int):nO:=fun r H=>∃(dx n:Addr),H r=some (.ins C dx (jq row x1 n))∧H n=some (.lst (D.map V.int))
structure l7(K:Frag)(C:Addr):Prop where
 cl:iR K C
 n1:NoAttr K C "row"
 n2:NoAttr K C "voice"
 n3:NoAttr K C "numbers"
def eI(K:Frag)(C:Addr):Sp:=fun vs H Q _=>∃(x dx q:Addr) (row:Str) (x1:Int) (D:List Int),vs=[.ref x,.str row,.int x1,.ref q]∧H x=some (.ins C dx [])∧bf K H q (D.map V.int)∧D.length≤20∧
 ∀n H',H n=none→H'=upd (upd H n (.lst (D.map V.int))) x (.ins C dx (jq row x1 n))→Q .non H'
def ph(K:Frag)(C:Addr):Sp:=fun vs H Q _=>∃(q:Addr) (row:Str) (x1:Int) (D:List Int) (nv:Int),vs=[.str row,.ref q,.int nv]∧bf K H q ((x1::D).map V.int)∧1≤x1∧x1≤nv∧1≤D.length∧D.length≤12∧
 ∀r H',aw H H'→pK C row x1 D r H'→Q (.ref r) H'
def gY(row:Str)(x1 x2:Int)(n:Addr):List (Str×V):=bo "numbers" (.ref n) (bo "second" (.int x2) (bo "first" (.int x1) (bo "row" (.str row) [])))
def mf(C:Addr)(row:Str)(x1 x2:Int)(D:List Int):nO:=fun r H=>∃(dx n:Addr),H r=some (.ins C dx (gY row x1 x2 n))∧H n=some (.lst (D.map V.int))
structure i8(K:Frag)(C:Addr):Prop where
 cl:iR K C
 n1:NoAttr K C "row"
 n2:NoAttr K C "first"
 n3:NoAttr K C "second"
 n4:NoAttr K C "numbers"
def dH(K:Frag)(C:Addr):Sp:=fun vs H Q _=>∃(x dx q:Addr) (row:Str) (x1 x2:Int) (D:List Int),vs=[.ref x,.str row,.int x1,.int x2,.ref q]∧H x=some (.ins C dx [])∧bf K H q (D.map V.int)∧D.length≤20∧
 ∀n H',H n=none→H'=upd (upd H n (.lst (D.map V.int))) x (.ins C dx (gY row x1 x2 n))→Q .non H'
def lI(K:Frag)(C:Addr):Sp:=fun vs H Q _=>∃(q:Addr) (row:Str) (x1 x2:Int) (D:List Int) (nv:Int),vs=[.str row,.ref q,.int nv]∧bf K H q ((x1::x2::D).map V.int)∧1≤x1∧x1≤nv∧1≤x2∧x2≤nv∧1≤D.length∧D.length≤12∧
 ∀r H',aw H H'→mf C row x1 x2 D r H'→Q (.ref r) H'
def jo(row:Str)(x1 x2:Int):List (Str×V):=(bo "widest" (.int x2) (bo "voice" (.int x1) (bo "row" (.str row) [])))
def pJ(C:Addr)(row:Str)(x1 x2:Int):nO:=fun r H=>∃(dx:Addr),H r=some (.ins C dx (jo row x1 x2))
structure l6(K:Frag)(C:Addr):Prop where
 cl:iR K C
 n1:NoAttr K C "row"
 n2:NoAttr K C "voice"
 n3:NoAttr K C "widest"
def eG(K:Frag)(C:Addr):Sp:=fun vs H Q _=>∃(x dx:Addr) (row:Str) (x1 x2:Int),vs=[.ref x,.str row,.int x1,.int x2]∧H x=some (.ins C dx [])∧Q .non (upd H x (.ins C dx (jo row x1 x2)))
def pe(K:Frag)(C:Addr):Sp:=fun vs H Q _=>∃(q:Addr) (row:Str) (x1 x2:Int) (nv:Int),vs=[.str row,.ref q,.int nv]∧bf K H q ([x1,x2].map V.int)∧1≤x1∧x1≤nv∧0≤x2∧
 ∀r H',aw H H'→pJ C row x1 x2 r H'→Q (.ref r) H'
def eV(row:Str)(x1 x2:Int):List (Str×V):=(bo "most" (.int x2) (bo "voice" (.int x1) (bo "row" (.str row) [])))
def gP(C:Addr)(row:Str)(x1 x2:Int):nO:=fun r H=>∃(dx:Addr),H r=some (.ins C dx (eV row x1 x2))
structure iT(K:Frag)(C:Addr):Prop where
 cl:iR K C
 n1:NoAttr K C "row"
 n2:NoAttr K C "voice"
 n3:NoAttr K C "most"
def eH(K:Frag)(C:Addr):Sp:=fun vs H Q _=>∃(x dx:Addr) (row:Str) (x1 x2:Int),vs=[.ref x,.str row,.int x1,.int x2]∧H x=some (.ins C dx [])∧Q .non (upd H x (.ins C dx (eV row x1 x2)))
def pf(K:Frag)(C:Addr):Sp:=fun vs H Q _=>∃(q:Addr) (row:Str) (x1 x2:Int) (nv:Int),vs=[.str row,.ref q,.int nv]∧bf K H q ([x1,x2].map V.int)∧1≤x1∧x1≤nv∧1≤x2∧
 ∀r H',aw H H'→gP C row x1 x2 r H'→Q (.ref r) H'
def dW(row:Str)(x1 x2 x3 x4:Int):List (Str×V):=(bo "most" (.int x4) (bo "fewest" (.int x3) (bo "note" (.int x2) (bo "voice" (.int x1) (bo "row" (.str row) [])))))
def fq(C:Addr)(row:Str)(x1 x2 x3 x4:Int):nO:=fun r H=>∃(dx:Addr),H r=some (.ins C dx (dW row x1 x2 x3 x4))
structure gn(K:Frag)(C:Addr):Prop where
 cl:iR K C
 n1:NoAttr K C "row"
 n2:NoAttr K C "voice"
 n3:NoAttr K C "note"
 n4:NoAttr K C "fewest"
 n5:NoAttr K C "most"
def dN(K:Frag)(C:Addr):Sp:=fun vs H Q _=>∃(x dx:Addr) (row:Str) (x1 x2 x3 x4:Int),vs=[.ref x,.str row,.int x1,.int x2,.int x3,.int x4]∧H x=some (.ins C dx [])∧Q .non (upd H x (.ins C dx (dW row x1 x2 x3 x4)))
def lO(K:Frag)(C:Addr):Sp:=fun vs H Q _=>∃(q:Addr) (row:Str) (x1 x2 x3 x4:Int) (nv:Int),vs=[.str row,.ref q,.int nv]∧bf K H q ([x1,x2,x3,x4].map V.int)∧1≤x1∧x1≤nv∧0≤x3∧0≤x4∧
 ∀r H',aw H H'→fq C row x1 x2 x3 x4 r H'→Q (.ref r) H'
def gZ(row:Str)(x1:Int)(n:Addr):List (Str×V):=bo "notes" (.ref n) (bo "voice" (.int x1) (bo "row" (.str row) []))
def mh(C:Addr)(row:Str)(x1:Int)(D:List Int):nO:=fun r H=>∃(dx n:Addr),H r=some (.ins C dx (gZ row x1 n))∧H n=some (.lst (D.map V.int))
structure i9(K:Frag)(C:Addr):Prop where
 cl:iR K C
 n1:NoAttr K C "row"
 n2:NoAttr K C "voice"
 n3:NoAttr K C "notes"
def dI(K:Frag)(C:Addr):Sp:=fun vs H Q _=>∃(x dx q:Addr) (row:Str) (x1:Int) (D:List Int),vs=[.ref x,.str row,.int x1,.ref q]∧H x=some (.ins C dx [])∧bf K H q (D.map V.int)∧D.length≤20∧
 ∀n H',H n=none→H'=upd (upd H n (.lst (D.map V.int))) x (.ins C dx (gZ row x1 n))→Q .non H'
def lJ(K:Frag)(C:Addr):Sp:=fun vs H Q _=>∃(q:Addr) (row:Str) (x1:Int) (D:List Int) (nv:Int),vs=[.str row,.ref q,.int nv]∧bf K H q ((x1::D).map V.int)∧1≤x1∧x1≤nv∧1≤D.length∧D.length≤12∧
 ∀r H',aw H H'→mh C row x1 D r H'→Q (.ref r) H'
def g9(row:Str)(x1:Int)(n:Addr):List (Str×V):=bo "notes" (.ref n) (bo "voice" (.int x1) (bo "row" (.str row) []))
def mj(C:Addr)(row:Str)(x1:Int)(D:List Int):nO:=fun r H=>∃(dx n:Addr),H r=some (.ins C dx (g9 row x1 n))∧H n=some (.lst (D.map V.int))
structure jb(K:Frag)(C:Addr):Prop where
 cl:iR K C
 n1:NoAttr K C "row"
 n2:NoAttr K C "voice"
 n3:NoAttr K C "notes"
def dM(K:Frag)(C:Addr):Sp:=fun vs H Q _=>∃(x dx q:Addr) (row:Str) (x1:Int) (D:List Int),vs=[.ref x,.str row,.int x1,.ref q]∧H x=some (.ins C dx [])∧bf K H q (D.map V.int)∧D.length≤20∧
 ∀n H',H n=none→H'=upd (upd H n (.lst (D.map V.int))) x (.ins C dx (g9 row x1 n))→Q .non H'
def lL(K:Frag)(C:Addr):Sp:=fun vs H Q _=>∃(q:Addr) (row:Str) (x1:Int) (D:List Int) (nv:Int),vs=[.str row,.ref q,.int nv]∧bf K H q ((x1::D).map V.int)∧1≤x1∧x1≤nv∧1≤D.length∧D.length≤12∧
 ∀r H',aw H H'→mj C row x1 D r H'→Q (.ref r) H'
def cJ(row:Str)(t u:Int)(ri:Addr):List (Str×V):=bo "inner" (.ref ri) (bo "turn" (.int u) (bo "turns" (.int t) (bo "row" (.str row) [])))
def iU(C:Addr)(row:Str)(t u:Int)(RIn:nO):nO:=fun r H=>∃(dx ri:Addr),H r=some (.ins C dx (cJ row t u ri))∧RIn ri H
structure gm(K:Frag)(C:Addr):Prop where
 cl:iR K C
 n1:NoAttr K C "row"
 n2:NoAttr K C "turns"
 n3:NoAttr K C "turn"
 n4:NoAttr K C "inner"
def fk(K:Frag)(C:Addr):Sp:=fun vs H Q _=>∃(x dx ri:Addr) (row:Str) (t u:Int),vs=[.ref x,.str row,.int t,.int u,.ref ri]∧H x=some (.ins C dx [])∧Q .non (upd H x (.ins C dx (cJ row t u ri)))
structure dF(K:Frag)(C CR:Addr):Prop where
 cl:iR K C
 ha:findIn K (.ref C) "__class__"=some (some (.builtin "object.__class__"))
 hn:PySem.W.specialIn K (.builtin "object.__class__") "__get__"=some (some (.builtin "getset_descriptor.__get__"))
 htk:PySem.W.takesIn K (.builtin "object.__class__")=some true
 hm:mroIn K C (.type "object")=some true
 kit:kitOne K (.ref C) (.ref CR)=some true
structure br(P:Program)(w:World)(K:Frag)(mg:Str→Option Value)(base:Heap)(CR:Addr)(row:Str)(sz:Int)(r:Addr)(H:Hp):Prop where
 ex:∃(C:Addr) (RI:nO),RI r H∧(∀r H H',aw H H'→RI r H→RI r H')∧(∀r H,RI r H→∃dx fs,H r=some (.ins C dx fs)∧fs.lookup (Str.ofString "size")=none∧fs.lookup (Str.ofString "shown")=none)∧aN P w K mg base C "size" 7 ["self"] (iw RI (.int sz))∧aN P w K mg base C "shown" 7 ["self"] (iw RI (.str row))∧dF K C CR
theorem br.same{P:Program}{w:World}{K:Frag}{mg:Str→Option Value}{base:Heap}{CR:Addr}{row:Str}{sz:Int}{r:Addr}{H H':Hp}(h:br P w K mg base CR row sz r H)(s:aw H H'):br P w K mg base CR row sz r H':=by
 obtain⟨C,RI,h1,h2,h3⟩:=h.ex;exact⟨C,RI,h2 _ _ _ s h1,h2,h3⟩
def pB(nv n:Int):Bool:=decide (1≤n) && decide (n≤nv)
def pE(ns:List Int)(j:Int):Bool:=decide (1≤(ns.length:Int) - j) && decide ((ns.length:Int) - j≤12)
abbrev vI:=Int→List Int→Option Int
def di(j:Nat):vI:=fun nv ns=>if pE ns j=true∧(ns.take j).all (pB nv)=true then some 1 else none
def cn:vI:=fun nv ns=>if pE ns 3=true∧(ns.take 2).all (pB nv)=true∧1≤ns.getD 2 0 then some 1 else none
def de:vI:=fun nv ns=>if ns.length=2∧(ns.take 1).all (pB nv)=true∧0≤ns.getD 1 0 then some 3 else none
def dh:vI:=fun nv ns=>if ns.length=2∧(ns.take 1).all (pB nv)=true∧1≤ns.getD 1 0 then some (ns.getD 1 0)else none
def cq:vI:=fun nv ns=>if ns.length=4∧(ns.take 1).all (pB nv)=true∧0≤ns.getD 2 0∧0≤ns.getD 3 0 then some (ns.getD 3 0+1)else none
def bY(P:Program)(w:World)(K:Frag)(mg:Str→Option Value)(base:Heap)(CR:Addr)(mk:vI):Sp:=fun vs H Q _=>∃(q:Addr) (row:Str) (ns:List Int) (nv:Int),vs=[.str row,.ref q,.int nv]∧bf K H q (ns.map V.int)∧ns.length≤10000∧
 (mk nv ns=none→∀H',aw H H'→Q .non H')∧∀sz,mk nv ns=some sz→∀r H',aw H H'→br P w K mg base CR row sz r H'→Q (.ref r) H'
def eS(K:Frag)(mk:vI):Sp:=fun vs H Q _=>∃(q:Addr) (row:Str) (ns:List Int) (nv:Int),vs=[.str row,.ref q,.int nv]∧bf K H q (ns.map V.int)∧ns.length≤10000∧mk nv ns=none∧∀H',aw H H'→Q .non H'
theorem aC.both{P:Program}{w:World}{K:Frag}{mg:Str→Option Value}{base:Heap}{CX:nM}{k:Nat}{f:Addr}{fd:FuncData}{ps:List Str}{sp sp1 sp2:Sp}(F:aC P w K mg base CX k f fd ps sp1)(G:aC P w K mg base CX k f fd ps sp2)
  (h:∀vs H Q E,sp vs H Q E→sp1 vs H Q E∨sp2 vs H Q E):aC P w K mg base CX k f fd ps sp:=
 ⟨fun vs H Q E q=>(h _ _ _ _ q).elim (F.len vs H Q E) (G.len vs H Q E),fun A outer s H args us vs Q E hr he hb hv hs=>(h _ _ _ _ hs).elim (F.run A outer s H args us vs Q E hr he hb hv) (G.run A outer s H args us vs Q E hr he hb hv)⟩
section
variable {P:Program} {w:World} {K:Frag} {mg:Str→Option Value} {base:Heap} {aM:Addr}
theorem sA{f:Addr}{fd:FuncData}(F:cj K "is_number" "is_number" ff f fd)(T:Txt mg aM):aC P w K mg base bC 1 f fd ["word"] rh:=by
 refine F.ok sc_is_number (fun vs H Q E h=>?_) (fun cdv A outer s H vs Q E hr h=>?_)
 ·obtain⟨z,rfl,_⟩:=h
  rfl
 obtain⟨z,rfl,hz,k⟩:=h
 refine⟨_,(ag (aL (i:=1) sc_is_number.nd rfl (Or.inl rfl) (jF (aE (cy K PySem.F.plainAttrs_str PySem.F.slot_str_startswith PySem.F.type_str_startswith fP (pr 0) (aa aD ah)) (fun _=>rfl)) (ax (bF K) (pr 0) (bD ae) aG) (pr 0)))
 (ag (aO (PW.pt (aW (aT (ao eQ (pr 1) aD (au _))) (bc (aT (ao (o0 oN) (aA (aY K) (by rfl) T.n_len boot_len (aa (pr 1) ah)) (d8 T.g_MOST_FIGURES) (au _)))))) (ai (ak fQ)) av)
 (ag (aO (aV (aE (aA (gW K rfl) (by rfl) T.n_all boot_all (aa (gA (own:=["sign"]) (js:=[]) rfl (d9 K (pr 1)) (bP.of (by rfl)) (fun _ _ _ _ _=>(cC (i:=0) (show List.Nodup (["sign"]:List Str)from by decide +kernel) rfl (Or.inl rfl))) (fun _ _ _ _ _=>fF) (fun _ _ _ _ _=>(fC (uL K) (pr 0) (d8 T.g_FIGURES) (by with_unfolding_all rfl)))) ah)) (fun _=>rfl))) (ai (ak fQ)) av)
 (ai (ak (zP (zR (fC qW (aK (aZ K) (pr 1) ae (fun _ _=>rfl)) aD (au _)) (uS (fC eQ (pr 0) aD (au _)))))))))),?_⟩
 have hs:sizeLine=16777216:=sizeLine_eq
 have c0:(Str.ofString "").cps.toList=[]:=by decide +kernel
 have c45:(Str.ofString "-")=⟨#[45]⟩:=by decide +kernel
 have c48:(Str.ofString "0").cps.toList=[48]:=by decide +kernel
 have cF:(Str.ofString "0123456789").cps.toList=[48,49,50,51,52,53,54,55,56,57]:=by decide +kernel
 refine zm (fun σ H'=>∃y,σ=[some (.str z),some (.str y)]∧H=H'∧y.cps.toList=bX z.cps.toList) ?_ ?_
 ·rintro _ _ ⟨y,rfl,rfl,hy⟩
  have hyl:y.length≤10000:=by
   rw [az,hy];rw [az]at hz;refine aa7 ?_ hz;unfold bX
   split
   ·rw [List.length_tail];omega
   ·exact aa3 _
  walk_at "rd";have hk:=k;rw [pT,←hy,←az]at hk;have q0:=hk H (aw.refl H)
  by_cases h1:y=Str.ofString ""
  ·rw [if_pos h1]
   rw [if_pos (Or.inl (by rw [h1,c0]))]at q0;exact q0
  rw [if_neg h1];refine⟨by omega,?_⟩
  by_cases h2:(40:Int) < y.length
  ·rw [if_pos h2]
   rw [if_pos (Or.inr (by omega))]at q0;exact q0
  rw [if_neg h2]
  have h3:¬(y.cps.toList=[]∨40 < y.length):=by
   rintro(e | e)
   ·exact h1 (str_iff.mpr (by rw [e,c0]))
   ·omega
  rw [if_neg h3]at hk;have e0:y.cps.toList≠[]:=fun e=>h3 (Or.inl e);refine q9 (rO (fun i ys H'=>ys=(y.cps.toList.take i).map (fun c=>V.bl (decide (c∈[48,49,50,51,52,53,54,55,56,57])))∧H=H') (by omega) ⟨rfl,rfl⟩ ?_ ?_ ?_)
  ·rintro i ys H' ⟨rfl,rfl⟩
   rw [aa1,ad0];omega
  ·rintro i c ys H' hc ⟨rfl,rfl⟩
   walk_at "rd";rw [cF,ad7,hc];simp
  ·rintro ys H' ⟨rfl,rfl⟩ p hp
   rw [az,ae8];refine⟨y.cps.toList.map (fun c=>decide (c∈[48,49,50,51,52,53,54,55,56,57])),bf.of (by rw [af,List.map_map];rfl),?_⟩
   have ed:(List.map (fun c=>decide (c∈[48,49,50,51,52,53,54,55,56,57])) y.cps.toList).all id=eO y.cps.toList:=by
    unfold eO;rw [ah0];rfl
   have q1:=hk _ (aH (o:=.lst ((y.cps.toList.take y.cps.toList.length).map (fun c=>V.bl (decide (c∈[48,49,50,51,52,53,54,55,56,57]))))) hp);rw [ae8]at q1;rw [ed]
   by_cases h4:eO y.cps.toList=false
   ·rw [if_pos h4]
    rw [if_pos h4]at q1;exact q1
   rw [if_neg h4];rw [if_neg h4]at q1;refine⟨by rw [←az];omega,?_⟩
   cases hh:y.cps.toList with
   | nil=>exact absurd hh e0
   | cons a l=>
    rw [hh]at q1;refine⟨a,bh rfl,?_⟩
    by_cases ha:a=48
    ·subst ha
     rw [if_pos (str_iff.mpr (by rw [c48])),gK,c48];simpa using q1
    ·rw [if_neg (fun e=>ha (by have:=str_iff.mp e;rw [c48]at this;simpa using this))]
     simpa [ha]using q1
 ·intro u' hu
  walk_at "rd";rw [c45,qp]
  by_cases h1:z.cps.toList.head?=some 45
  ·rw [if_pos (by simpa using h1)]
   exact⟨by omega,hu _ _ ⟨_,rfl,rfl,by rw [eF (by decide)];unfold bX;rw [if_pos h1];simp⟩⟩
  ·rw [if_neg (by simpa using h1)]
   exact hu _ _ ⟨_,rfl,rfl,by unfold bX;rw [if_neg h1]⟩
theorem mS{f:Addr}{fd:FuncData}(F:cj K "__init__" "Rule.__init__" dn f fd):aC P w K mg base bC 1 f fd ["self","row"] (bG K):=by
 refine F.ok ip (fun vs H Q E h=>?_) (fun cdv A outer s H vs Q E hr h=>?_)
 ·obtain⟨x,C,dx,fs,row,rfl,_⟩:=h
  rfl
 obtain⟨x,C,dx,fs,row,rfl,hx,cl,na,hl,k⟩:=h;refine⟨_,(ai (bx (pr 0) (pr 1) rfl)),?_⟩;walk_at "rd";exact⟨C,dx,fs,hx,cl,na,by omega,k⟩
theorem cc{f:Addr}{fd:FuncData}(F:cj K "size" "Rule.size" bU f fd):aC P w K mg base bC 1 f fd ["self"] (cY 1 fun _=>.int 1):=by
 refine F.ok ni (fun vs H Q E h=>h.1) (fun cdv A outer s H vs Q E hr h=>?_);obtain⟨hl,k⟩:=h
 match vs,hl with
 | [a],_=>
 refine⟨_,(ai (ak ae)),?_⟩;walk_at "rd";exact k
theorem bt{f:Addr}{fd:FuncData}(F:cj K "shown" "Rule.shown" bp f fd):aC P w K mg base bC 1 f fd ["self"] (bz K):=by
 refine F.ok ku (fun vs H Q E h=>?_) (fun cdv A outer s H vs Q E hr h=>?_)
 ·obtain⟨r,C,dx,fs,row,rfl,_⟩:=h
  rfl
 obtain⟨r,C,dx,fs,row,rfl,h1,h2,h3,h4,q⟩:=h;refine⟨_,(ai (ak (mW (pr 0) rfl))),?_⟩;walk_at "rd";exact⟨C,dx,fs,h1,h2,h3,_,h4,q⟩
theorem oH{f:Addr}{fd:FuncData}(F:cj K "has_list" "has_list" gd f fd)(T:Txt mg aM):aC P w K mg base bC 1 f fd ["numbers","ahead"] (bE K):=by
 refine F.ok oZ (fun vs H Q E h=>?_) (fun cdv A outer s H vs Q E hr h=>?_)
 ·obtain⟨q,xs,j,rfl,_⟩:=h
  rfl
 obtain⟨q,xs,j,rfl,hq,k⟩:=h;refine⟨_,(ai (ak (oP (o0 oO) (o0 oO) ae (ay (o0 e9) (aA (aY K) (by rfl) T.n_len boot_len (aa (pr 0) ah)) (pr 1)) (d8 T.g_MOST_NUMBERS)))),?_⟩;walk_at "rd";refine⟨xs,.inl hq,?_⟩;walk_at "rd"
 by_cases h1:(1:Int)≤(xs.length:Int) - j
 ·rw [if_pos h1]
  rw [decide_eq_true h1,Bool.true_and]at k;exact k
 ·rw [if_neg h1]
  rw [decide_eq_false h1,ag9]at k;exact k
theorem kj{f:Addr}{fd:FuncData}(F:cj K "are_voices" "are_voices" ei f fd)(T:Txt mg aM):aC P w K mg base bC 1 f fd ["numbers","voices"] (aR K):=by
 refine F.ok ky (fun vs H Q E h=>?_) (fun cdv A outer s H vs Q E hr h=>?_)
 ·obtain⟨q,ns,nv,rfl,_⟩:=h
  rfl
 obtain⟨q,ns,nv,rfl,hq,hl,k⟩:=h;refine⟨_,(ai (ak (aA (gW K rfl) (by rfl) T.n_all boot_all (aa (gA (own:=["number"]) (js:=[1]) rfl (d9 K (pr 0)) (bP.of (by rfl)) (fun _ _ _ _ _=>(cC (i:=0) (show List.Nodup (["number","voices"]:List Str)from by decide +kernel) rfl (Or.inl rfl))) (fun _ _ _ _ _=>fF) (fun _ _ _ _ _=>(oP (o0 oO) (o0 oO) ae (pr 0) (pr 1)))) ah)))),?_⟩;walk_at "rd";have hs:sizeLine=16777216:=sizeLine_eq;refine fG hq (d2 (xs:=ns.map V.int) (fun i ys H'=>ys=((ns.take i).map fun n=>decide (1≤n) && decide (n≤nv)).map V.bl∧H=H') (by rw [aa1];omega) ⟨rfl,rfl⟩ ?_ ?_ ?_ ?_)
 ·rintro i ys H' ⟨rfl,rfl⟩
  rw [aa1,aa1,ad0];omega
 ·rintro i ys H' ⟨rfl,rfl⟩
  exact hq
 ·rintro i x ys H' hx ⟨rfl,rfl⟩
  rw [ac5]at hx
  cases hn:ns[i]? with
  | none=>rw [hn]at hx;cases hx
  | some n=>
   rw [hn]at hx;cases hx;walk_at "rd";rw [ad7,hn]
   by_cases h1:(1:Int)≤n
   ·rw [if_pos h1]
    simp [h1]
   ·rw [if_neg h1]
    simp [h1]
 ·rintro ys H' ⟨rfl,rfl⟩ p hp
  refine⟨_,bf.of af,?_⟩;rw [ah0,aa1,ae8];exact k _ (aH hp)
theorem mT{f C:Addr}{fd:FuncData}(F:cj K "__init__" "Span.__init__" dq f fd)(T:Txt mg aM)(TC:l8 K C)(DC_Rule___init__:gM P w K mg base "Rule" "__init__" 1 ["self","row"] (bG K)):aC P w K mg base bC 2 f fd ["self","row","first","second","numbers"] (eJ K C):=by
 refine F.ok iq (fun vs H Q E h=>?_) (fun cdv A outer s H vs Q E hr h=>?_)
 ·obtain⟨x,dx,q,row,x1,x2,D,rfl,_⟩:=h
  rfl
 obtain⟨x,dx,q,row,x1,x2,D,rfl,hx,hq,hl,k⟩:=h
 refine⟨_,(ag (cD (ck DC_Rule___init__ hr (by rfl) (aa (pr 0) (aa (pr 1) ah))))
 (ag (bx (pr 0) (pr 2) rfl)
 (ag (bx (pr 0) (pr 3) rfl)
 (ai (bx (pr 0) (ba (cu K) (by rfl) T.n_list boot_list (aa (pr 4) ah)) rfl))))),?_⟩
 walk_at "rd";have ln:∀(f:Str) (v:V) (l:List (Str×V)) (n:Nat),l.length≤n→(bo f v l).length≤n+1:=fun f v l n h=>aa7 (bw f v l) (ad2 h);refine⟨x,C,dx,[],row,rfl,hx,TC.cl,TC.n1,by decide,?_⟩;refine⟨C,dx,_,af,TC.cl,TC.n2,aa5 (ln _ _ _ _ (ab1 0)) (by decide),C,dx,_,af,TC.cl,TC.n3,aa5 (ln _ _ _ _ (ln _ _ _ _ (ab1 0))) (by decide),D.map V.int,.inl (((hq.at_ins hx).at_ins af).at_ins af),fun n hn=>?_⟩
 have nx:n≠x:=fun e=>by subst e;rw [af]at hn;cases hn
 rw [aj nx,aj nx,aj nx]at hn;refine⟨C,dx,_,by rw [aj (Ne.symm nx),af],TC.cl,TC.n4,aa5 (ln _ _ _ _ (ln _ _ _ _ (ln _ _ _ _ (ab1 0)))) (by decide),?_⟩;refine k n _ hn ?_;rw [bB,bB,dZ];rfl
theorem qe{f C:Addr}{fd:FuncData}(F:cj K "span_of" "span_of" fM f fd)(T:Txt mg aM)(D_has_list:bW P w K mg base "has_list" 3 ["numbers","ahead"] (bE K))(D_are_voices:bW P w K mg base "are_voices" 3 ["numbers","voices"] (aR K))(DM_Span:b7 P w K mg base "Span" C 2 ["self","row","first","second","numbers"] (eJ K C)):aC P w K mg base bC 4 f fd ["row","numbers","voices"] (pj K C):=by
 refine F.ok jQ (fun vs H Q E h=>?_) (fun cdv A outer s H vs Q E hr h=>?_)
 ·obtain⟨q,row,x1,x2,D,nv,rfl,_⟩:=h
  rfl
 obtain⟨q,row,x1,x2,D,nv,rfl,hq,x1_1,x1_2,x2_1,x2_2,l1,l2,k⟩:=h
 refine⟨_,(ag (aO (PW.pt (aW (aV (aE (aB D_has_list hr (by rfl) (aa (pr 1) (aa ae ah))) (fun _=>rfl))) (bc (aV (aE (aB D_are_voices hr (by rfl) (aa (ax (bF K) (pr 1) aG (bD ae)) (aa (pr 2) ah))) (fun _=>rfl)))))) (ai (ak aP)) av)
 (ai (ak (cz DM_Span hr (by rfl) (aa (pr 0) (aa (aK (aZ K) (pr 1) ae (fun _ _=>rfl)) (aa (aK (aZ K) (pr 1) ae (fun _ _=>rfl)) (aa (ax (bF K) (pr 1) (bD ae) aG) ah)))))))),?_⟩
 walk_at "rd";have hs:sizeLine=16777216:=sizeLine_eq;refine⟨q,_,2,rfl,hq,?_⟩;rw [show(decide (1≤(((x1::x2::D).map V.int).length:Int) - 2) && decide ((((x1::x2::D).map V.int).length:Int) - 2≤12))=true by simp;omega];walk_at "rd";refine bj hq fun q1 hq1=>?_;rw [show(some (2:Int))=some ((2:Nat):Int)from rfl,bJ];have s1:aw H (upd H q1 (.lst ((((x1::x2::D).map V.int)).take 2))):=aH hq1;refine⟨q1,[x1,x2],nv,rfl,bf.of af,by simp,fun H1 s2=>?_⟩;rw [show([x1,x2].all fun n=>decide (1≤n) && decide (n≤nv))=true by simp;omega];walk_at "rd";have s3:=s1.trans s2;have hq3:=s3.seq hq;refine aX hq3 (bh rfl) (aX hq3 (show dG _ ((1:Nat):Int)=_ from aU rfl) (bj hq3 fun q2 hq2=>?_));rw [bM];show ∀x dx:Addr,_;intro x dx hx hdx hne;have s4:aw H (upd H1 q2 (.lst (((x1::x2::D).map V.int).drop 2))):=s3.upd hq2;have hq2':(upd H1 q2 (.lst (((x1::x2::D).map V.int).drop 2))) q2=some (.lst (D.map V.int)):=af;generalize upd H1 q2 (.lst (((x1::x2::D).map V.int).drop 2))=H2 at s4 hx hdx hq2';have s5:aw H (upd (upd H2 dx (.own x)) x (.ins C dx [])):=(s4.upd hdx).upd (by rw [aj (Ne.symm hne)];exact hx)
 have hq5:(upd (upd H2 dx (.own x)) x (.ins C dx [])) q2=some (.lst (D.map V.int)):=by
  rw [aj (ar hq2' hx),aj (ar hq2' hdx)];exact hq2'
 refine⟨x,dx,q2,row,x1,x2,D,rfl,af,bf.of hq5,by omega,fun n H3 hn e=>⟨rfl,?_⟩⟩;subst e
 have nx:n≠x:=fun z=>by subst z;rw [af]at hn;cases hn
 refine k x _ ?_ ⟨dx,n,af,by rw [aj nx,af]⟩;intro c o hc;have n1:c≠x:=ar (s4 _ _ hc) hx;rw [aj n1,aj (ar (s5 _ _ hc) hn)];exact s5 _ _ hc
theorem j8{f C:Addr}{fd:FuncData}(F:cj K "__init__" "Clock.__init__" cQ f fd)(T:Txt mg aM)(TC:ja K C)(DC_Rule___init__:gM P w K mg base "Rule" "__init__" 1 ["self","row"] (bG K)):aC P w K mg base bC 2 f fd ["self","row","first","second","hours","numbers"] (dJ K C):=by
 refine F.ok gE (fun vs H Q E h=>?_) (fun cdv A outer s H vs Q E hr h=>?_)
 ·obtain⟨x,dx,q,row,x1,x2,x3,D,rfl,_⟩:=h
  rfl
 obtain⟨x,dx,q,row,x1,x2,x3,D,rfl,hx,hq,hl,k⟩:=h
 refine⟨_,(ag (cD (ck DC_Rule___init__ hr (by rfl) (aa (pr 0) (aa (pr 1) ah))))
 (ag (bx (pr 0) (pr 2) rfl)
 (ag (bx (pr 0) (pr 3) rfl)
 (ag (bx (pr 0) (pr 4) rfl)
 (ai (bx (pr 0) (ba (cu K) (by rfl) T.n_list boot_list (aa (pr 5) ah)) rfl)))))),?_⟩
 walk_at "rd";have ln:∀(f:Str) (v:V) (l:List (Str×V)) (n:Nat),l.length≤n→(bo f v l).length≤n+1:=fun f v l n h=>aa7 (bw f v l) (ad2 h);refine⟨x,C,dx,[],row,rfl,hx,TC.cl,TC.n1,by decide,?_⟩;refine⟨C,dx,_,af,TC.cl,TC.n2,aa5 (ln _ _ _ _ (ab1 0)) (by decide),C,dx,_,af,TC.cl,TC.n3,aa5 (ln _ _ _ _ (ln _ _ _ _ (ab1 0))) (by decide),C,dx,_,af,TC.cl,TC.n4,aa5 (ln _ _ _ _ (ln _ _ _ _ (ln _ _ _ _ (ab1 0)))) (by decide),D.map V.int,.inl ((((hq.at_ins hx).at_ins af).at_ins af).at_ins af),fun n hn=>?_⟩
 have nx:n≠x:=fun e=>by subst e;rw [af]at hn;cases hn
 rw [aj nx,aj nx,aj nx,aj nx]at hn;refine⟨C,dx,_,by rw [aj (Ne.symm nx),af],TC.cl,TC.n5,aa5 (ln _ _ _ _ (ln _ _ _ _ (ln _ _ _ _ (ln _ _ _ _ (ab1 0))))) (by decide),?_⟩;refine k n _ hn ?_;rw [bB,bB,bB,dZ];rfl
theorem oE{f C:Addr}{fd:FuncData}(F:cj K "clock_of" "clock_of" eo f fd)(T:Txt mg aM)(D_has_list:bW P w K mg base "has_list" 3 ["numbers","ahead"] (bE K))(D_are_voices:bW P w K mg base "are_voices" 3 ["numbers","voices"] (aR K))(DM_Clock:b7 P w K mg base "Clock" C 2 ["self","row","first","second","hours","numbers"] (dJ K C)):aC P w K mg base bC 4 f fd ["row","numbers","voices"] (lK K C):=by
 refine F.ok iI (fun vs H Q E h=>?_) (fun cdv A outer s H vs Q E hr h=>?_)
 ·obtain⟨q,row,x1,x2,x3,D,nv,rfl,_⟩:=h
  rfl
 obtain⟨q,row,x1,x2,x3,D,nv,rfl,hq,x1_1,x1_2,x2_1,x2_2,p3,l1,l2,k⟩:=h
 refine⟨_,(ag (aO (PW.pt (aW (aV (aE (aB D_has_list hr (by rfl) (aa (pr 1) (aa ae ah))) (fun _=>rfl))) (aW (aV (aE (aB D_are_voices hr (by rfl) (aa (ax (bF K) (pr 1) aG (bD ae)) (aa (pr 2) ah))) (fun _=>rfl))) (bc (aT (ao (o0 eR) (aK (aZ K) (pr 1) ae (fun _ _=>rfl)) ae (au _))))))) (ai (ak aP)) av)
 (ai (ak (cz DM_Clock hr (by rfl) (aa (pr 0) (aa (aK (aZ K) (pr 1) ae (fun _ _=>rfl)) (aa (aK (aZ K) (pr 1) ae (fun _ _=>rfl)) (aa (aK (aZ K) (pr 1) ae (fun _ _=>rfl)) (aa (ax (bF K) (pr 1) (bD ae) aG) ah))))))))),?_⟩
 walk_at "rd";have hs:sizeLine=16777216:=sizeLine_eq;refine⟨q,_,3,rfl,hq,?_⟩;rw [show(decide (1≤(((x1::x2::x3::D).map V.int).length:Int) - 3) && decide ((((x1::x2::x3::D).map V.int).length:Int) - 3≤12))=true by simp;omega];walk_at "rd";refine bj hq fun q1 hq1=>?_;rw [show(some (2:Int))=some ((2:Nat):Int)from rfl,bJ];have s1:aw H (upd H q1 (.lst ((((x1::x2::x3::D).map V.int)).take 2))):=aH hq1;refine⟨q1,[x1,x2],nv,rfl,bf.of af,by simp,fun H1 s2=>?_⟩;rw [show([x1,x2].all fun n=>decide (1≤n) && decide (n≤nv))=true by simp;omega];walk_at "rd";have s3:=s1.trans s2;have hq3:=s3.seq hq;refine aX hq3 (show dG _ ((2:Nat):Int)=_ from aU rfl) ?_;walk_at "rd";rw [if_neg (show ¬(x3 < 1)by omega)];refine aX hq3 (bh rfl) (aX hq3 (show dG _ ((1:Nat):Int)=_ from aU rfl) (aX hq3 (show dG _ ((2:Nat):Int)=_ from aU rfl) (bj hq3 fun q2 hq2=>?_)));rw [show(some (3:Int))=some ((3:Nat):Int)from rfl,bM];show ∀x dx:Addr,_;intro x dx hx hdx hne;have s4:aw H (upd H1 q2 (.lst (((x1::x2::x3::D).map V.int).drop 3))):=s3.upd hq2;have hq2':(upd H1 q2 (.lst (((x1::x2::x3::D).map V.int).drop 3))) q2=some (.lst (D.map V.int)):=af;generalize upd H1 q2 (.lst (((x1::x2::x3::D).map V.int).drop 3))=H2 at s4 hx hdx hq2';have s5:aw H (upd (upd H2 dx (.own x)) x (.ins C dx [])):=(s4.upd hdx).upd (by rw [aj (Ne.symm hne)];exact hx)
 have hq5:(upd (upd H2 dx (.own x)) x (.ins C dx [])) q2=some (.lst (D.map V.int)):=by
  rw [aj (ar hq2' hx),aj (ar hq2' hdx)];exact hq2'
 refine⟨x,dx,q2,row,x1,x2,x3,D,rfl,af,bf.of hq5,by omega,fun n H3 hn e=>⟨rfl,?_⟩⟩;subst e
 have nx:n≠x:=fun z=>by subst z;rw [af]at hn;cases hn
 refine k x _ ?_ ⟨dx,n,af,by rw [aj nx,af]⟩;intro c o hc;have n1:c≠x:=ar (s4 _ _ hc) hx;rw [aj n1,aj (ar (s5 _ _ hc) hn)];exact s5 _ _ hc
theorem mR{f C:Addr}{fd:FuncData}(F:cj K "__init__" "Move.__init__" dm f fd)(T:Txt mg aM)(TC:l7 K C)(DC_Rule___init__:gM P w K mg base "Rule" "__init__" 1 ["self","row"] (bG K)):aC P w K mg base bC 2 f fd ["self","row","voice","numbers"] (eI K C):=by
 refine F.ok il (fun vs H Q E h=>?_) (fun cdv A outer s H vs Q E hr h=>?_)
 ·obtain⟨x,dx,q,row,x1,D,rfl,_⟩:=h
  rfl
 obtain⟨x,dx,q,row,x1,D,rfl,hx,hq,hl,k⟩:=h
 refine⟨_,(ag (cD (ck DC_Rule___init__ hr (by rfl) (aa (pr 0) (aa (pr 1) ah))))
 (ag (bx (pr 0) (pr 2) rfl)
 (ai (bx (pr 0) (ba (cu K) (by rfl) T.n_list boot_list (aa (pr 3) ah)) rfl)))),?_⟩
 walk_at "rd";have ln:∀(f:Str) (v:V) (l:List (Str×V)) (n:Nat),l.length≤n→(bo f v l).length≤n+1:=fun f v l n h=>aa7 (bw f v l) (ad2 h);refine⟨x,C,dx,[],row,rfl,hx,TC.cl,TC.n1,by decide,?_⟩;refine⟨C,dx,_,af,TC.cl,TC.n2,aa5 (ln _ _ _ _ (ab1 0)) (by decide),D.map V.int,.inl ((hq.at_ins hx).at_ins af),fun n hn=>?_⟩
 have nx:n≠x:=fun e=>by subst e;rw [af]at hn;cases hn
 rw [aj nx,aj nx]at hn;refine⟨C,dx,_,by rw [aj (Ne.symm nx),af],TC.cl,TC.n3,aa5 (ln _ _ _ _ (ln _ _ _ _ (ab1 0))) (by decide),?_⟩;refine k n _ hn ?_;rw [bB,dZ];rfl
theorem qb{f C:Addr}{fd:FuncData}(F:cj K "move_of" "move_of" fL f fd)(T:Txt mg aM)(D_has_list:bW P w K mg base "has_list" 3 ["numbers","ahead"] (bE K))(D_are_voices:bW P w K mg base "are_voices" 3 ["numbers","voices"] (aR K))(DM_Move:b7 P w K mg base "Move" C 2 ["self","row","voice","numbers"] (eI K C)):aC P w K mg base bC 4 f fd ["row","numbers","voices"] (ph K C):=by
 refine F.ok jP (fun vs H Q E h=>?_) (fun cdv A outer s H vs Q E hr h=>?_)
 ·obtain⟨q,row,x1,D,nv,rfl,_⟩:=h
  rfl
 obtain⟨q,row,x1,D,nv,rfl,hq,x1_1,x1_2,l1,l2,k⟩:=h
 refine⟨_,(ag (aO (PW.pt (aW (aV (aE (aB D_has_list hr (by rfl) (aa (pr 1) (aa ae ah))) (fun _=>rfl))) (bc (aV (aE (aB D_are_voices hr (by rfl) (aa (ax (bF K) (pr 1) aG (bD ae)) (aa (pr 2) ah))) (fun _=>rfl)))))) (ai (ak aP)) av)
 (ai (ak (cz DM_Move hr (by rfl) (aa (pr 0) (aa (aK (aZ K) (pr 1) ae (fun _ _=>rfl)) (aa (ax (bF K) (pr 1) (bD ae) aG) ah))))))),?_⟩
 walk_at "rd";have hs:sizeLine=16777216:=sizeLine_eq;refine⟨q,_,1,rfl,hq,?_⟩;rw [show(decide (1≤(((x1::D).map V.int).length:Int) - 1) && decide ((((x1::D).map V.int).length:Int) - 1≤12))=true by simp;omega];walk_at "rd";refine bj hq fun q1 hq1=>?_;rw [show(some (1:Int))=some ((1:Nat):Int)from rfl,bJ];have s1:aw H (upd H q1 (.lst ((((x1::D).map V.int)).take 1))):=aH hq1;refine⟨q1,[x1],nv,rfl,bf.of af,by simp,fun H1 s2=>?_⟩;rw [show([x1].all fun n=>decide (1≤n) && decide (n≤nv))=true by simp;omega];walk_at "rd";have s3:=s1.trans s2;have hq3:=s3.seq hq;refine aX hq3 (bh rfl) (bj hq3 fun q2 hq2=>?_);rw [bM];show ∀x dx:Addr,_;intro x dx hx hdx hne;have s4:aw H (upd H1 q2 (.lst (((x1::D).map V.int).drop 1))):=s3.upd hq2;have hq2':(upd H1 q2 (.lst (((x1::D).map V.int).drop 1))) q2=some (.lst (D.map V.int)):=af;generalize upd H1 q2 (.lst (((x1::D).map V.int).drop 1))=H2 at s4 hx hdx hq2';have s5:aw H (upd (upd H2 dx (.own x)) x (.ins C dx [])):=(s4.upd hdx).upd (by rw [aj (Ne.symm hne)];exact hx)
 have hq5:(upd (upd H2 dx (.own x)) x (.ins C dx [])) q2=some (.lst (D.map V.int)):=by
  rw [aj (ar hq2' hx),aj (ar hq2' hdx)];exact hq2'
 refine⟨x,dx,q2,row,x1,D,rfl,af,bf.of hq5,by omega,fun n H3 hn e=>⟨rfl,?_⟩⟩;subst e
 have nx:n≠x:=fun z=>by subst z;rw [af]at hn;cases hn
 refine k x _ ?_ ⟨dx,n,af,by rw [aj nx,af]⟩;intro c o hc;have n1:c≠x:=ar (s4 _ _ hc) hx;rw [aj n1,aj (ar (s5 _ _ hc) hn)];exact s5 _ _ hc
theorem j6{f C:Addr}{fd:FuncData}(F:cj K "__init__" "Alike.__init__" cO f fd)(T:Txt mg aM)(TC:i8 K C)(DC_Rule___init__:gM P w K mg base "Rule" "__init__" 1 ["self","row"] (bG K)):aC P w K mg base bC 2 f fd ["self","row","first","second","numbers"] (dH K C):=by
 refine F.ok gC (fun vs H Q E h=>?_) (fun cdv A outer s H vs Q E hr h=>?_)
 ·obtain⟨x,dx,q,row,x1,x2,D,rfl,_⟩:=h
  rfl
 obtain⟨x,dx,q,row,x1,x2,D,rfl,hx,hq,hl,k⟩:=h
 refine⟨_,(ag (cD (ck DC_Rule___init__ hr (by rfl) (aa (pr 0) (aa (pr 1) ah))))
 (ag (bx (pr 0) (pr 2) rfl)
 (ag (bx (pr 0) (pr 3) rfl)
 (ai (bx (pr 0) (ba (cu K) (by rfl) T.n_list boot_list (aa (pr 4) ah)) rfl))))),?_⟩
 walk_at "rd";have ln:∀(f:Str) (v:V) (l:List (Str×V)) (n:Nat),l.length≤n→(bo f v l).length≤n+1:=fun f v l n h=>aa7 (bw f v l) (ad2 h);refine⟨x,C,dx,[],row,rfl,hx,TC.cl,TC.n1,by decide,?_⟩;refine⟨C,dx,_,af,TC.cl,TC.n2,aa5 (ln _ _ _ _ (ab1 0)) (by decide),C,dx,_,af,TC.cl,TC.n3,aa5 (ln _ _ _ _ (ln _ _ _ _ (ab1 0))) (by decide),D.map V.int,.inl (((hq.at_ins hx).at_ins af).at_ins af),fun n hn=>?_⟩
 have nx:n≠x:=fun e=>by subst e;rw [af]at hn;cases hn
 rw [aj nx,aj nx,aj nx]at hn;refine⟨C,dx,_,by rw [aj (Ne.symm nx),af],TC.cl,TC.n4,aa5 (ln _ _ _ _ (ln _ _ _ _ (ln _ _ _ _ (ab1 0)))) (by decide),?_⟩;refine k n _ hn ?_;rw [bB,bB,dZ];rfl
theorem oz{f C:Addr}{fd:FuncData}(F:cj K "alike_of" "alike_of" eh f fd)(T:Txt mg aM)(D_has_list:bW P w K mg base "has_list" 3 ["numbers","ahead"] (bE K))(D_are_voices:bW P w K mg base "are_voices" 3 ["numbers","voices"] (aR K))(DM_Alike:b7 P w K mg base "Alike" C 2 ["self","row","first","second","numbers"] (dH K C)):aC P w K mg base bC 4 f fd ["row","numbers","voices"] (lI K C):=by
 refine F.ok iG (fun vs H Q E h=>?_) (fun cdv A outer s H vs Q E hr h=>?_)
 ·obtain⟨q,row,x1,x2,D,nv,rfl,_⟩:=h
  rfl
 obtain⟨q,row,x1,x2,D,nv,rfl,hq,x1_1,x1_2,x2_1,x2_2,l1,l2,k⟩:=h
 refine⟨_,(ag (aO (PW.pt (aW (aV (aE (aB D_has_list hr (by rfl) (aa (pr 1) (aa ae ah))) (fun _=>rfl))) (bc (aV (aE (aB D_are_voices hr (by rfl) (aa (ax (bF K) (pr 1) aG (bD ae)) (aa (pr 2) ah))) (fun _=>rfl)))))) (ai (ak aP)) av)
 (ai (ak (cz DM_Alike hr (by rfl) (aa (pr 0) (aa (aK (aZ K) (pr 1) ae (fun _ _=>rfl)) (aa (aK (aZ K) (pr 1) ae (fun _ _=>rfl)) (aa (ax (bF K) (pr 1) (bD ae) aG) ah)))))))),?_⟩
 walk_at "rd";have hs:sizeLine=16777216:=sizeLine_eq;refine⟨q,_,2,rfl,hq,?_⟩;rw [show(decide (1≤(((x1::x2::D).map V.int).length:Int) - 2) && decide ((((x1::x2::D).map V.int).length:Int) - 2≤12))=true by simp;omega];walk_at "rd";refine bj hq fun q1 hq1=>?_;rw [show(some (2:Int))=some ((2:Nat):Int)from rfl,bJ];have s1:aw H (upd H q1 (.lst ((((x1::x2::D).map V.int)).take 2))):=aH hq1;refine⟨q1,[x1,x2],nv,rfl,bf.of af,by simp,fun H1 s2=>?_⟩;rw [show([x1,x2].all fun n=>decide (1≤n) && decide (n≤nv))=true by simp;omega];walk_at "rd";have s3:=s1.trans s2;have hq3:=s3.seq hq;refine aX hq3 (bh rfl) (aX hq3 (show dG _ ((1:Nat):Int)=_ from aU rfl) (bj hq3 fun q2 hq2=>?_));rw [bM];show ∀x dx:Addr,_;intro x dx hx hdx hne;have s4:aw H (upd H1 q2 (.lst (((x1::x2::D).map V.int).drop 2))):=s3.upd hq2;have hq2':(upd H1 q2 (.lst (((x1::x2::D).map V.int).drop 2))) q2=some (.lst (D.map V.int)):=af;generalize upd H1 q2 (.lst (((x1::x2::D).map V.int).drop 2))=H2 at s4 hx hdx hq2';have s5:aw H (upd (upd H2 dx (.own x)) x (.ins C dx [])):=(s4.upd hdx).upd (by rw [aj (Ne.symm hne)];exact hx)
 have hq5:(upd (upd H2 dx (.own x)) x (.ins C dx [])) q2=some (.lst (D.map V.int)):=by
  rw [aj (ar hq2' hx),aj (ar hq2' hdx)];exact hq2'
 refine⟨x,dx,q2,row,x1,x2,D,rfl,af,bf.of hq5,by omega,fun n H3 hn e=>⟨rfl,?_⟩⟩;subst e
 have nx:n≠x:=fun z=>by subst z;rw [af]at hn;cases hn
 refine k x _ ?_ ⟨dx,n,af,by rw [aj nx,af]⟩;intro c o hc;have n1:c≠x:=ar (s4 _ _ hc) hx;rw [aj n1,aj (ar (s5 _ _ hc) hn)];exact s5 _ _ hc
theorem mM{f C:Addr}{fd:FuncData}(F:cj K "__init__" "Back.__init__" dj f fd)(T:Txt mg aM)(TC:l6 K C)(DC_Rule___init__:gM P w K mg base "Rule" "__init__" 1 ["self","row"] (bG K)):aC P w K mg base bC 2 f fd ["self","row","voice","widest"] (eG K C):=by
 refine F.ok ij (fun vs H Q E h=>?_) (fun cdv A outer s H vs Q E hr h=>?_)
 ·obtain⟨x,dx,row,x1,x2,rfl,_⟩:=h
  rfl
 obtain⟨x,dx,row,x1,x2,rfl,hx,k⟩:=h
 refine⟨_,(ag (cD (ck DC_Rule___init__ hr (by rfl) (aa (pr 0) (aa (pr 1) ah))))
 (ag (bx (pr 0) (pr 2) rfl)
 (ai (bx (pr 0) (pr 3) rfl)))),?_⟩
 walk_at "rd";have ln:∀(f:Str) (v:V) (l:List (Str×V)) (n:Nat),l.length≤n→(bo f v l).length≤n+1:=fun f v l n h=>aa7 (bw f v l) (ad2 h);refine⟨x,C,dx,[],row,rfl,hx,TC.cl,TC.n1,by decide,?_⟩;refine⟨C,dx,_,af,TC.cl,TC.n2,aa5 (ln _ _ _ _ (ab1 0)) (by decide),C,dx,_,af,TC.cl,TC.n3,aa5 (ln _ _ _ _ (ln _ _ _ _ (ab1 0))) (by decide),?_⟩;rw [bB,bB];exact k
theorem p7{f C:Addr}{fd:FuncData}(F:cj K "back_of" "back_of" fJ f fd)(T:Txt mg aM)(D_are_voices:bW P w K mg base "are_voices" 3 ["numbers","voices"] (aR K))(DM_Back:b7 P w K mg base "Back" C 2 ["self","row","voice","widest"] (eG K C)):aC P w K mg base bC 4 f fd ["row","numbers","voices"] (pe K C):=by
 refine F.ok jN (fun vs H Q E h=>?_) (fun cdv A outer s H vs Q E hr h=>?_)
 ·obtain⟨q,row,x1,x2,nv,rfl,_⟩:=h
  rfl
 obtain⟨q,row,x1,x2,nv,rfl,hq,b1,b2,b3,k⟩:=h
 refine⟨_,(ag (aO (PW.pt (aW (aT (ao qW (aA (aY K) (by rfl) T.n_len boot_len (aa (pr 1) ah)) ae (au _))) (aW (aV (aE (aB D_are_voices hr (by rfl) (aa (ax (bF K) (pr 1) aG (bD ae)) (aa (pr 2) ah))) (fun _=>rfl))) (bc (aT (ao (o0 eR) (aK (aZ K) (pr 1) ae (fun _ _=>rfl)) ae (au _))))))) (ai (ak aP)) av)
 (ai (ak (cz DM_Back hr (by rfl) (aa (pr 0) (aa (aK (aZ K) (pr 1) ae (fun _ _=>rfl)) (aa (aK (aZ K) (pr 1) ae (fun _ _=>rfl)) ah))))))),?_⟩
 walk_at "rd";have hs:sizeLine=16777216:=sizeLine_eq;refine⟨_,.inl hq,?_⟩;walk_at "rd";rw [if_pos (show(((0:Nat)+1+1:Nat):Int)=2 from rfl)];refine bj hq fun q1 hq1=>?_;rw [show(some (1:Int))=some ((1:Nat):Int)from rfl,bJ];have s1:aw H (upd H q1 (.lst (([x1,x2].map V.int).take 1))):=aH hq1;refine⟨q1,[x1],nv,rfl,bf.of af,by simp,fun H1 s2=>?_⟩;rw [show([x1].all fun n=>decide (1≤n) && decide (n≤nv))=true by simp;omega];walk_at "rd";have s3:=s1.trans s2;have hq3:=s3.seq hq;refine aX hq3 (show dG _ ((1:Nat):Int)=_ from aU rfl) ?_;walk_at "rd";rw [if_neg (show ¬(x2 < 0)by omega)];refine aX hq3 (bh rfl) (aX hq3 (show dG _ ((1:Nat):Int)=_ from aU rfl) ?_);show ∀x dx:Addr,_;intro x dx hx hdx hne;have s5:aw H (upd (upd H1 dx (.own x)) x (.ins C dx [])):=(s3.upd hdx).upd (by rw [aj (Ne.symm hne)];exact hx);refine⟨x,dx,row,x1,x2,rfl,af,rfl,?_⟩;refine k x _ ?_ ⟨dx,af⟩;intro c o hc;rw [aj (ar (s3 _ _ hc) hx)];exact s5 _ _ hc
theorem mP{f C:Addr}{fd:FuncData}(F:cj K "__init__" "Held.__init__" dk f fd)(T:Txt mg aM)(TC:iT K C)(DC_Rule___init__:gM P w K mg base "Rule" "__init__" 1 ["self","row"] (bG K)):aC P w K mg base bC 2 f fd ["self","row","voice","most"] (eH K C):=by
 refine F.ok ik (fun vs H Q E h=>?_) (fun cdv A outer s H vs Q E hr h=>?_)
 ·obtain⟨x,dx,row,x1,x2,rfl,_⟩:=h
  rfl
 obtain⟨x,dx,row,x1,x2,rfl,hx,k⟩:=h
 refine⟨_,(ag (cD (ck DC_Rule___init__ hr (by rfl) (aa (pr 0) (aa (pr 1) ah))))
 (ag (bx (pr 0) (pr 2) rfl)
 (ai (bx (pr 0) (pr 3) rfl)))),?_⟩
 walk_at "rd";have ln:∀(f:Str) (v:V) (l:List (Str×V)) (n:Nat),l.length≤n→(bo f v l).length≤n+1:=fun f v l n h=>aa7 (bw f v l) (ad2 h);refine⟨x,C,dx,[],row,rfl,hx,TC.cl,TC.n1,by decide,?_⟩;refine⟨C,dx,_,af,TC.cl,TC.n2,aa5 (ln _ _ _ _ (ab1 0)) (by decide),C,dx,_,af,TC.cl,TC.n3,aa5 (ln _ _ _ _ (ln _ _ _ _ (ab1 0))) (by decide),?_⟩;rw [bB,bB];exact k
theorem p9{f C:Addr}{fd:FuncData}(F:cj K "held_of" "held_of" fK f fd)(T:Txt mg aM)(D_are_voices:bW P w K mg base "are_voices" 3 ["numbers","voices"] (aR K))(DM_Held:b7 P w K mg base "Held" C 2 ["self","row","voice","most"] (eH K C)):aC P w K mg base bC 4 f fd ["row","numbers","voices"] (pf K C):=by
 refine F.ok jO (fun vs H Q E h=>?_) (fun cdv A outer s H vs Q E hr h=>?_)
 ·obtain⟨q,row,x1,x2,nv,rfl,_⟩:=h
  rfl
 obtain⟨q,row,x1,x2,nv,rfl,hq,b1,b2,b3,k⟩:=h
 refine⟨_,(ag (aO (PW.pt (aW (aT (ao qW (aA (aY K) (by rfl) T.n_len boot_len (aa (pr 1) ah)) ae (au _))) (aW (aV (aE (aB D_are_voices hr (by rfl) (aa (ax (bF K) (pr 1) aG (bD ae)) (aa (pr 2) ah))) (fun _=>rfl))) (bc (aT (ao (o0 eR) (aK (aZ K) (pr 1) ae (fun _ _=>rfl)) ae (au _))))))) (ai (ak aP)) av)
 (ai (ak (cz DM_Held hr (by rfl) (aa (pr 0) (aa (aK (aZ K) (pr 1) ae (fun _ _=>rfl)) (aa (aK (aZ K) (pr 1) ae (fun _ _=>rfl)) ah))))))),?_⟩
 walk_at "rd";have hs:sizeLine=16777216:=sizeLine_eq;refine⟨_,.inl hq,?_⟩;walk_at "rd";rw [if_pos (show(((0:Nat)+1+1:Nat):Int)=2 from rfl)];refine bj hq fun q1 hq1=>?_;rw [show(some (1:Int))=some ((1:Nat):Int)from rfl,bJ];have s1:aw H (upd H q1 (.lst (([x1,x2].map V.int).take 1))):=aH hq1;refine⟨q1,[x1],nv,rfl,bf.of af,by simp,fun H1 s2=>?_⟩;rw [show([x1].all fun n=>decide (1≤n) && decide (n≤nv))=true by simp;omega];walk_at "rd";have s3:=s1.trans s2;have hq3:=s3.seq hq;refine aX hq3 (show dG _ ((1:Nat):Int)=_ from aU rfl) ?_;walk_at "rd";rw [if_neg (show ¬(x2 < 1)by omega)];refine aX hq3 (bh rfl) (aX hq3 (show dG _ ((1:Nat):Int)=_ from aU rfl) ?_);show ∀x dx:Addr,_;intro x dx hx hdx hne;have s5:aw H (upd (upd H1 dx (.own x)) x (.ins C dx [])):=(s3.upd hdx).upd (by rw [aj (Ne.symm hne)];exact hx);refine⟨x,dx,row,x1,x2,rfl,af,rfl,?_⟩;refine k x _ ?_ ⟨dx,af⟩;intro c o hc;rw [aj (ar (s3 _ _ hc) hx)];exact s5 _ _ hc
theorem kh{f C:Addr}{fd:FuncData}(F:cj K "__init__" "Times.__init__" cW f fd)(T:Txt mg aM)(TC:gn K C)(DC_Rule___init__:gM P w K mg base "Rule" "__init__" 1 ["self","row"] (bG K)):aC P w K mg base bC 2 f fd ["self","row","voice","note","fewest","most"] (dN K C):=by
 refine F.ok gH (fun vs H Q E h=>?_) (fun cdv A outer s H vs Q E hr h=>?_)
 ·obtain⟨x,dx,row,x1,x2,x3,x4,rfl,_⟩:=h
  rfl
 obtain⟨x,dx,row,x1,x2,x3,x4,rfl,hx,k⟩:=h
 refine⟨_,(ag (cD (ck DC_Rule___init__ hr (by rfl) (aa (pr 0) (aa (pr 1) ah))))
 (ag (bx (pr 0) (pr 2) rfl)
 (ag (bx (pr 0) (pr 3) rfl)
 (ag (bx (pr 0) (pr 4) rfl)
 (ai (bx (pr 0) (pr 5) rfl)))))),?_⟩
 walk_at "rd";have ln:∀(f:Str) (v:V) (l:List (Str×V)) (n:Nat),l.length≤n→(bo f v l).length≤n+1:=fun f v l n h=>aa7 (bw f v l) (ad2 h);refine⟨x,C,dx,[],row,rfl,hx,TC.cl,TC.n1,by decide,?_⟩;refine⟨C,dx,_,af,TC.cl,TC.n2,aa5 (ln _ _ _ _ (ab1 0)) (by decide),C,dx,_,af,TC.cl,TC.n3,aa5 (ln _ _ _ _ (ln _ _ _ _ (ab1 0))) (by decide),C,dx,_,af,TC.cl,TC.n4,aa5 (ln _ _ _ _ (ln _ _ _ _ (ln _ _ _ _ (ab1 0)))) (by decide),C,dx,_,af,TC.cl,TC.n5,aa5 (ln _ _ _ _ (ln _ _ _ _ (ln _ _ _ _ (ln _ _ _ _ (ab1 0))))) (by decide),?_⟩;rw [bB,bB,bB,bB];exact k
theorem j7{f C:Addr}{fd:FuncData}(F:cj K "__init__" "Begin.__init__" cP f fd)(T:Txt mg aM)(TC:i9 K C)(DC_Rule___init__:gM P w K mg base "Rule" "__init__" 1 ["self","row"] (bG K)):aC P w K mg base bC 2 f fd ["self","row","voice","notes"] (dI K C):=by
 refine F.ok gD (fun vs H Q E h=>?_) (fun cdv A outer s H vs Q E hr h=>?_)
 ·obtain⟨x,dx,q,row,x1,D,rfl,_⟩:=h
  rfl
 obtain⟨x,dx,q,row,x1,D,rfl,hx,hq,hl,k⟩:=h
 refine⟨_,(ag (cD (ck DC_Rule___init__ hr (by rfl) (aa (pr 0) (aa (pr 1) ah))))
 (ag (bx (pr 0) (pr 2) rfl)
 (ai (bx (pr 0) (ba (cu K) (by rfl) T.n_list boot_list (aa (pr 3) ah)) rfl)))),?_⟩
 walk_at "rd";have ln:∀(f:Str) (v:V) (l:List (Str×V)) (n:Nat),l.length≤n→(bo f v l).length≤n+1:=fun f v l n h=>aa7 (bw f v l) (ad2 h);refine⟨x,C,dx,[],row,rfl,hx,TC.cl,TC.n1,by decide,?_⟩;refine⟨C,dx,_,af,TC.cl,TC.n2,aa5 (ln _ _ _ _ (ab1 0)) (by decide),D.map V.int,.inl ((hq.at_ins hx).at_ins af),fun n hn=>?_⟩
 have nx:n≠x:=fun e=>by subst e;rw [af]at hn;cases hn
 rw [aj nx,aj nx]at hn;refine⟨C,dx,_,by rw [aj (Ne.symm nx),af],TC.cl,TC.n3,aa5 (ln _ _ _ _ (ln _ _ _ _ (ab1 0))) (by decide),?_⟩;refine k n _ hn ?_;rw [bB,dZ];rfl
theorem oB{f C:Addr}{fd:FuncData}(F:cj K "begin_of" "begin_of" ej f fd)(T:Txt mg aM)(D_has_list:bW P w K mg base "has_list" 3 ["numbers","ahead"] (bE K))(D_are_voices:bW P w K mg base "are_voices" 3 ["numbers","voices"] (aR K))(DM_Begin:b7 P w K mg base "Begin" C 2 ["self","row","voice","notes"] (dI K C)):aC P w K mg base bC 4 f fd ["row","numbers","voices"] (lJ K C):=by
 refine F.ok iH (fun vs H Q E h=>?_) (fun cdv A outer s H vs Q E hr h=>?_)
 ·obtain⟨q,row,x1,D,nv,rfl,_⟩:=h
  rfl
 obtain⟨q,row,x1,D,nv,rfl,hq,x1_1,x1_2,l1,l2,k⟩:=h
 refine⟨_,(ag (aO (PW.pt (aW (aV (aE (aB D_has_list hr (by rfl) (aa (pr 1) (aa ae ah))) (fun _=>rfl))) (bc (aV (aE (aB D_are_voices hr (by rfl) (aa (ax (bF K) (pr 1) aG (bD ae)) (aa (pr 2) ah))) (fun _=>rfl)))))) (ai (ak aP)) av)
 (ai (ak (cz DM_Begin hr (by rfl) (aa (pr 0) (aa (aK (aZ K) (pr 1) ae (fun _ _=>rfl)) (aa (ax (bF K) (pr 1) (bD ae) aG) ah))))))),?_⟩
 walk_at "rd";have hs:sizeLine=16777216:=sizeLine_eq;refine⟨q,_,1,rfl,hq,?_⟩;rw [show(decide (1≤(((x1::D).map V.int).length:Int) - 1) && decide ((((x1::D).map V.int).length:Int) - 1≤12))=true by simp;omega];walk_at "rd";refine bj hq fun q1 hq1=>?_;rw [show(some (1:Int))=some ((1:Nat):Int)from rfl,bJ];have s1:aw H (upd H q1 (.lst ((((x1::D).map V.int)).take 1))):=aH hq1;refine⟨q1,[x1],nv,rfl,bf.of af,by simp,fun H1 s2=>?_⟩;rw [show([x1].all fun n=>decide (1≤n) && decide (n≤nv))=true by simp;omega];walk_at "rd";have s3:=s1.trans s2;have hq3:=s3.seq hq;refine aX hq3 (bh rfl) (bj hq3 fun q2 hq2=>?_);rw [bM];show ∀x dx:Addr,_;intro x dx hx hdx hne;have s4:aw H (upd H1 q2 (.lst (((x1::D).map V.int).drop 1))):=s3.upd hq2;have hq2':(upd H1 q2 (.lst (((x1::D).map V.int).drop 1))) q2=some (.lst (D.map V.int)):=af;generalize upd H1 q2 (.lst (((x1::D).map V.int).drop 1))=H2 at s4 hx hdx hq2';have s5:aw H (upd (upd H2 dx (.own x)) x (.ins C dx [])):=(s4.upd hdx).upd (by rw [aj (Ne.symm hne)];exact hx)
 have hq5:(upd (upd H2 dx (.own x)) x (.ins C dx [])) q2=some (.lst (D.map V.int)):=by
  rw [aj (ar hq2' hx),aj (ar hq2' hdx)];exact hq2'
 refine⟨x,dx,q2,row,x1,D,rfl,af,bf.of hq5,by omega,fun n H3 hn e=>⟨rfl,?_⟩⟩;subst e
 have nx:n≠x:=fun z=>by subst z;rw [af]at hn;cases hn
 refine k x _ ?_ ⟨dx,n,af,by rw [aj nx,af]⟩;intro c o hc;have n1:c≠x:=ar (s4 _ _ hc) hx;rw [aj n1,aj (ar (s5 _ _ hc) hn)];exact s5 _ _ hc
theorem j9{f C:Addr}{fd:FuncData}(F:cj K "__init__" "Close.__init__" cT f fd)(T:Txt mg aM)(TC:jb K C)(DC_Rule___init__:gM P w K mg base "Rule" "__init__" 1 ["self","row"] (bG K)):aC P w K mg base bC 2 f fd ["self","row","voice","notes"] (dM K C):=by
 refine F.ok gF (fun vs H Q E h=>?_) (fun cdv A outer s H vs Q E hr h=>?_)
 ·obtain⟨x,dx,q,row,x1,D,rfl,_⟩:=h
  rfl
 obtain⟨x,dx,q,row,x1,D,rfl,hx,hq,hl,k⟩:=h
 refine⟨_,(ag (cD (ck DC_Rule___init__ hr (by rfl) (aa (pr 0) (aa (pr 1) ah))))
 (ag (bx (pr 0) (pr 2) rfl)
 (ai (bx (pr 0) (ba (cu K) (by rfl) T.n_list boot_list (aa (pr 3) ah)) rfl)))),?_⟩
 walk_at "rd";have ln:∀(f:Str) (v:V) (l:List (Str×V)) (n:Nat),l.length≤n→(bo f v l).length≤n+1:=fun f v l n h=>aa7 (bw f v l) (ad2 h);refine⟨x,C,dx,[],row,rfl,hx,TC.cl,TC.n1,by decide,?_⟩;refine⟨C,dx,_,af,TC.cl,TC.n2,aa5 (ln _ _ _ _ (ab1 0)) (by decide),D.map V.int,.inl ((hq.at_ins hx).at_ins af),fun n hn=>?_⟩
 have nx:n≠x:=fun e=>by subst e;rw [af]at hn;cases hn
 rw [aj nx,aj nx]at hn;refine⟨C,dx,_,by rw [aj (Ne.symm nx),af],TC.cl,TC.n3,aa5 (ln _ _ _ _ (ln _ _ _ _ (ab1 0))) (by decide),?_⟩;refine k n _ hn ?_;rw [bB,dZ];rfl
theorem oG{f C:Addr}{fd:FuncData}(F:cj K "close_of" "close_of" eu f fd)(T:Txt mg aM)(D_has_list:bW P w K mg base "has_list" 3 ["numbers","ahead"] (bE K))(D_are_voices:bW P w K mg base "are_voices" 3 ["numbers","voices"] (aR K))(DM_Close:b7 P w K mg base "Close" C 2 ["self","row","voice","notes"] (dM K C)):aC P w K mg base bC 4 f fd ["row","numbers","voices"] (lL K C):=by
 refine F.ok iJ (fun vs H Q E h=>?_) (fun cdv A outer s H vs Q E hr h=>?_)
 ·obtain⟨q,row,x1,D,nv,rfl,_⟩:=h
  rfl
 obtain⟨q,row,x1,D,nv,rfl,hq,x1_1,x1_2,l1,l2,k⟩:=h
 refine⟨_,(ag (aO (PW.pt (aW (aV (aE (aB D_has_list hr (by rfl) (aa (pr 1) (aa ae ah))) (fun _=>rfl))) (bc (aV (aE (aB D_are_voices hr (by rfl) (aa (ax (bF K) (pr 1) aG (bD ae)) (aa (pr 2) ah))) (fun _=>rfl)))))) (ai (ak aP)) av)
 (ai (ak (cz DM_Close hr (by rfl) (aa (pr 0) (aa (aK (aZ K) (pr 1) ae (fun _ _=>rfl)) (aa (ax (bF K) (pr 1) (bD ae) aG) ah))))))),?_⟩
 walk_at "rd";have hs:sizeLine=16777216:=sizeLine_eq;refine⟨q,_,1,rfl,hq,?_⟩;rw [show(decide (1≤(((x1::D).map V.int).length:Int) - 1) && decide ((((x1::D).map V.int).length:Int) - 1≤12))=true by simp;omega];walk_at "rd";refine bj hq fun q1 hq1=>?_;rw [show(some (1:Int))=some ((1:Nat):Int)from rfl,bJ];have s1:aw H (upd H q1 (.lst ((((x1::D).map V.int)).take 1))):=aH hq1;refine⟨q1,[x1],nv,rfl,bf.of af,by simp,fun H1 s2=>?_⟩;rw [show([x1].all fun n=>decide (1≤n) && decide (n≤nv))=true by simp;omega];walk_at "rd";have s3:=s1.trans s2;have hq3:=s3.seq hq;refine aX hq3 (bh rfl) (bj hq3 fun q2 hq2=>?_);rw [bM];show ∀x dx:Addr,_;intro x dx hx hdx hne;have s4:aw H (upd H1 q2 (.lst (((x1::D).map V.int).drop 1))):=s3.upd hq2;have hq2':(upd H1 q2 (.lst (((x1::D).map V.int).drop 1))) q2=some (.lst (D.map V.int)):=af;generalize upd H1 q2 (.lst (((x1::D).map V.int).drop 1))=H2 at s4 hx hdx hq2';have s5:aw H (upd (upd H2 dx (.own x)) x (.ins C dx [])):=(s4.upd hdx).upd (by rw [aj (Ne.symm hne)];exact hx)
 have hq5:(upd (upd H2 dx (.own x)) x (.ins C dx [])) q2=some (.lst (D.map V.int)):=by
  rw [aj (ar hq2' hx),aj (ar hq2' hdx)];exact hq2'
 refine⟨x,dx,q2,row,x1,D,rfl,af,bf.of hq5,by omega,fun n H3 hn e=>⟨rfl,?_⟩⟩;subst e
 have nx:n≠x:=fun z=>by subst z;rw [af]at hn;cases hn
 refine k x _ ?_ ⟨dx,n,af,by rw [aj nx,af]⟩;intro c o hc;have n1:c≠x:=ar (s4 _ _ hc) hx;rw [aj n1,aj (ar (s5 _ _ hc) hn)];exact s5 _ _ hc
theorem oK{f C:Addr}{fd:FuncData}(F:cj K "times_of" "times_of" eE f fd)(T:Txt mg aM)(D_are_voices:bW P w K mg base "are_voices" 3 ["numbers","voices"] (aR K))(DM_Times:b7 P w K mg base "Times" C 2 ["self","row","voice","note","fewest","most"] (dN K C)):aC P w K mg base bC 4 f fd ["row","numbers","voices"] (lO K C):=by
 refine F.ok iK (fun vs H Q E h=>?_) (fun cdv A outer s H vs Q E hr h=>?_)
 ·obtain⟨q,row,x1,x2,x3,x4,nv,rfl,_⟩:=h
  rfl
 obtain⟨q,row,x1,x2,x3,x4,nv,rfl,hq,b1,b2,b3,b4,k⟩:=h
 refine⟨_,(ag (aO (PW.pt (aW (aT (ao qW (aA (aY K) (by rfl) T.n_len boot_len (aa (pr 1) ah)) ae (au _))) (aW (aV (aE (aB D_are_voices hr (by rfl) (aa (ax (bF K) (pr 1) aG (bD ae)) (aa (pr 2) ah))) (fun _=>rfl))) (bc (aT (ao (o0 eR) (aA (kJ rfl K) (by rfl) T.n_min boot_min (aa (ax (bF K) (pr 1) (bD ae) aG) ah)) ae (au _))))))) (ai (ak aP)) av)
 (ai (ak (cz DM_Times hr (by rfl) (aa (pr 0) (aa (aK (aZ K) (pr 1) ae (fun _ _=>rfl)) (aa (aK (aZ K) (pr 1) ae (fun _ _=>rfl)) (aa (aK (aZ K) (pr 1) ae (fun _ _=>rfl)) (aa (aK (aZ K) (pr 1) ae (fun _ _=>rfl)) ah))))))))),?_⟩
 walk_at "rd";have hs:sizeLine=16777216:=sizeLine_eq;refine⟨_,.inl hq,?_⟩;walk_at "rd";rw [if_pos (show(((0:Nat)+1+1+1+1:Nat):Int)=4 from rfl)];refine bj hq fun q1 hq1=>?_;rw [show(some (1:Int))=some ((1:Nat):Int)from rfl,bJ];have s1:aw H (upd H q1 (.lst (([x1,x2,x3,x4].map V.int).take 1))):=aH hq1;refine⟨q1,[x1],nv,rfl,bf.of af,by simp,fun H1 s2=>?_⟩;rw [show([x1].all fun n=>decide (1≤n) && decide (n≤nv))=true by simp;omega];walk_at "rd";have s3:=s1.trans s2;have hq3:=s3.seq hq;refine bj hq3 fun q4 hq4=>?_;rw [show(some (2:Int))=some ((2:Nat):Int)from rfl,bM];have s4:aw H (upd H1 q4 (.lst (([x1,x2,x3,x4].map V.int).drop 2))):=s3.upd hq4;have hm:(upd H1 q4 (.lst (([x1,x2,x3,x4].map V.int).drop 2))) q4=some (.lst ([x3,x4].map V.int)):=af;generalize upd H1 q4 (.lst (([x1,x2,x3,x4].map V.int).drop 2))=H2 at s4 hm;refine⟨q4,rfl,[x3,x4],bf.of hm,by simp,fun i hi _=>?_⟩
 have hi0:0≤i:=by
  rcases ab7.mp hi with rfl | hi
  ·exact b3
  ·rw [ai4.mp hi];exact b4
 walk_at "rd";rw [if_neg (show ¬(i < 0)by omega)];have hq5:=s4.seq hq;refine aX hq5 (bh rfl) (aX hq5 (show dG _ ((1:Nat):Int)=_ from aU rfl) (aX hq5 (show dG _ ((2:Nat):Int)=_ from aU rfl) (aX hq5 (show dG _ ((3:Nat):Int)=_ from aU rfl) ?_)));show ∀x dx:Addr,_;intro x dx hx hdx hne;have s5:aw H (upd (upd H2 dx (.own x)) x (.ins C dx [])):=(s4.upd hdx).upd (by rw [aj (Ne.symm hne)];exact hx);refine⟨x,dx,row,x1,x2,x3,x4,rfl,af,rfl,?_⟩;refine k x _ ?_ ⟨dx,af⟩;intro c o hc;rw [aj (ar (s4 _ _ hc) hx)];exact s5 _ _ hc
theorem ki{f C:Addr}{fd:FuncData}{row:Str}{x1 x2 x3 x4:Int}(F:cj K "size" "Times.size" eg f fd)(TC:gn K C):aC P w K mg base bC 1 f fd ["self"] (iw (fq C row x1 x2 x3 x4) (.int (x4+1))):=by
 refine F.ok kx (fun vs H Q E h=>?_) (fun cdv A outer s H vs Q E hr h=>?_)
 ·obtain⟨r,rfl,_⟩:=h
  rfl
 obtain⟨r,rfl,⟨dx,hr1⟩,k⟩:=h;refine⟨_,(ai (ak (ay (cb K) (mW (pr 0) rfl) ae))),?_⟩;walk_at "rd"
 have l5:(dW row x1 x2 x3 x4).lookup (Str.ofString "most")=some (.int x4):=by unfold dW;walk_at "flds"
 refine⟨C,dx,_,hr1,TC.cl,TC.n5,_,l5,?_⟩;walk_at "rd";exact k
theorem mQ{f C:Addr}{fd:FuncData}{row:Str}{x1 x2:Int}(F:cj K "size" "Held.size" fe f fd)(TC:iT K C):aC P w K mg base bC 1 f fd ["self"] (iw (gP C row x1 x2) (.int x2)):=by
 refine F.ok nh (fun vs H Q E h=>?_) (fun cdv A outer s H vs Q E hr h=>?_)
 ·obtain⟨r,rfl,_⟩:=h
  rfl
 obtain⟨r,rfl,⟨dx,hr1⟩,k⟩:=h;refine⟨_,(ai (ak (mW (pr 0) rfl))),?_⟩;walk_at "rd"
 have l2:(eV row x1 x2).lookup (Str.ofString "most")=some (.int x2):=by unfold eV;walk_at "flds"
 exact⟨C,dx,_,hr1,TC.cl,TC.n3,_,l2,k⟩
theorem mO{f:Addr}{fd:FuncData}(F:cj K "size" "Back.size" fc f fd):aC P w K mg base bC 1 f fd ["self"] (cY 1 fun _=>.int 3):=by
 refine F.ok ng (fun vs H Q E h=>h.1) (fun cdv A outer s H vs Q E hr h=>?_);obtain⟨hl,k⟩:=h
 match vs,hl with
 | [a],_=>
 refine⟨_,(ai (ak ae)),?_⟩;walk_at "rd";exact k
theorem ka{f C:Addr}{fd:FuncData}(F:cj K "__init__" "Every.__init__" cU f fd)(T:Txt mg aM)(TC:gm K C)(DC_Rule___init__:gM P w K mg base "Rule" "__init__" 1 ["self","row"] (bG K)):aC P w K mg base bC 2 f fd ["self","row","turns","turn","inner"] (fk K C):=by
 refine F.ok gG (fun vs H Q E h=>?_) (fun cdv A outer s H vs Q E hr h=>?_)
 ·obtain⟨x,dx,ri,row,t,u,rfl,_⟩:=h
  rfl
 obtain⟨x,dx,ri,row,t,u,rfl,hx,k⟩:=h
 refine⟨_,(ag (cD (ck DC_Rule___init__ hr (by rfl) (aa (pr 0) (aa (pr 1) ah))))
 (ag (bx (pr 0) (pr 2) rfl)
 (ag (bx (pr 0) (pr 3) rfl)
 (ai (bx (pr 0) (pr 4) rfl))))),?_⟩
 walk_at "rd";have ln:∀(f:Str) (v:V) (l:List (Str×V)) (n:Nat),l.length≤n→(bo f v l).length≤n+1:=fun f v l n h=>aa7 (bw f v l) (ad2 h);refine⟨x,C,dx,[],row,rfl,hx,TC.cl,TC.n1,by decide,?_⟩;refine⟨C,dx,_,af,TC.cl,TC.n2,aa5 (ln _ _ _ _ (ab1 0)) (by decide),C,dx,_,af,TC.cl,TC.n3,aa5 (ln _ _ _ _ (ln _ _ _ _ (ab1 0))) (by decide),C,dx,_,af,TC.cl,TC.n4,aa5 (ln _ _ _ _ (ln _ _ _ _ (ln _ _ _ _ (ab1 0)))) (by decide),?_⟩;rw [bB,bB,bB];exact k
theorem kg{f C:Addr}{fd:FuncData}{row:Str}{t u:Int}{RIn:nO}(F:cj K "size" "Every.size" ee f fd)(TC:gm K C):aC P w K mg base bC 1 f fd ["self"] (iw (iU C row t u RIn) (.int t)):=by
 refine F.ok kr (fun vs H Q E h=>?_) (fun cdv A outer s H vs Q E hr h=>?_)
 ·obtain⟨r,rfl,_⟩:=h
  rfl
 obtain⟨r,rfl,⟨dx,ri,hr1,_⟩,k⟩:=h;refine⟨_,(ai (ak (mW (pr 0) rfl))),?_⟩;walk_at "rd"
 have l2:(cJ row t u ri).lookup (Str.ofString "turns")=some (.int t):=by unfold cJ;walk_at "flds"
 exact⟨C,dx,_,hr1,TC.cl,TC.n2,_,l2,k⟩
end
section
variable {P:Program} {w:World} {K:Frag} {mg:Str→Option Value} {base:Heap} {aM:Addr}
theorem eY{j:Nat}{nv:Int}{ns:List Int}(h:di j nv ns=none)(h1:pE ns j=true):(ns.take j).all (pB nv)=false:=by
 unfold di at h
 cases hb:(ns.take j).all (pB nv)with
 | false=>rfl
 | true=>rw [if_pos ⟨h1,hb⟩]at h;cases h
theorem hJ{ns:List Int}{j:Nat}(h:j < ns.length):(ns.map V.int)[j]?=some (.int (ns.getD j 0)):=by
 rw [ac5,ab8 h,ac4,ab8 h];rfl
theorem dz{ns:List Int}{j:Int}(h:¬pE ns j=true):pE ns j=false:=by
 cases hb:pE ns j with
 | true=>exact absurd hb h
 | false=>rfl
theorem ft{ns:List Int}{nv:Int}(h:¬ns.all (pB nv)=true):(ns.all fun n=>decide (1≤n) && decide (n≤nv))=false:=by
 cases hb:ns.all (pB nv)with
 | true=>exact absurd hb h
 | false=>exact hb
theorem nI{ns:List Int}(h:ns.length=2):∃a b,ns=[a,b]:=by
 match ns,h with
 | [a,b],_=>exact⟨a,b,rfl⟩
theorem my{ns:List Int}(h:ns.length=4):∃a b c d,ns=[a,b,c,d]:=by
 match ns,h with
 | [a,b,c,d],_=>exact⟨a,b,c,d,rfl⟩
theorem qd{f C:Addr}{fd:FuncData}(F:cj K "span_of" "span_of" fM f fd)(T:Txt mg aM)(D_has_list:bW P w K mg base "has_list" 3 ["numbers","ahead"] (bE K))(D_are_voices:bW P w K mg base "are_voices" 3 ["numbers","voices"] (aR K))(DM_Span:b7 P w K mg base "Span" C 2 ["self","row","first","second","numbers"] (eJ K C)):aC P w K mg base bC 4 f fd ["row","numbers","voices"] (eS K (di 2)):=by
 refine F.ok jQ (fun vs H Q E h=>?_) (fun cdv A outer s H vs Q E hr h=>?_)
 ·obtain⟨q,row,ns,nv,rfl,_⟩:=h
  rfl
 obtain⟨q,row,ns,nv,rfl,hq,hl,hm,k⟩:=h
 refine⟨_,(ag (aO (PW.pt (aW (aV (aE (aB D_has_list hr (by rfl) (aa (pr 1) (aa ae ah))) (fun _=>rfl))) (bc (aV (aE (aB D_are_voices hr (by rfl) (aa (ax (bF K) (pr 1) aG (bD ae)) (aa (pr 2) ah))) (fun _=>rfl)))))) (ai (ak aP)) av)
 (ai (ak (cz DM_Span hr (by rfl) (aa (pr 0) (aa (aK (aZ K) (pr 1) ae (fun _ _=>rfl)) (aa (aK (aZ K) (pr 1) ae (fun _ _=>rfl)) (aa (ax (bF K) (pr 1) (bD ae) aG) ah)))))))),?_⟩
 walk_at "rd";have hs:sizeLine=16777216:=sizeLine_eq;refine⟨q,_,2,rfl,hq,?_⟩;rw [aa1]
 by_cases h1:pE ns 2=true
 ·rw [show(decide (1≤(ns.length:Int) - 2) && decide ((ns.length:Int) - 2≤12))=true from h1]
  walk_at "rd";refine bj hq fun q1 hq1=>?_;rw [show(some (2:Int))=some ((2:Nat):Int)from rfl,bJ,←ad5];have s1:aw H (upd H q1 (.lst ((ns.take 2).map V.int))):=aH hq1;refine⟨q1,ns.take 2,nv,rfl,bf.of af,by simp;omega,fun H1 s2=>?_⟩;rw [show((ns.take 2).all fun n=>decide (1≤n) && decide (n≤nv))=false from eY hm h1];walk_at "rd";exact k _ (s1.trans s2)
 ·rw [show(decide (1≤(ns.length:Int) - 2) && decide ((ns.length:Int) - 2≤12))=false from dz h1]
  walk_at "rd";exact k _ (fun _ _ h=>h)
theorem oy{f C:Addr}{fd:FuncData}(F:cj K "alike_of" "alike_of" eh f fd)(T:Txt mg aM)(D_has_list:bW P w K mg base "has_list" 3 ["numbers","ahead"] (bE K))(D_are_voices:bW P w K mg base "are_voices" 3 ["numbers","voices"] (aR K))(DM_Alike:b7 P w K mg base "Alike" C 2 ["self","row","first","second","numbers"] (dH K C)):aC P w K mg base bC 4 f fd ["row","numbers","voices"] (eS K (di 2)):=by
 refine F.ok iG (fun vs H Q E h=>?_) (fun cdv A outer s H vs Q E hr h=>?_)
 ·obtain⟨q,row,ns,nv,rfl,_⟩:=h
  rfl
 obtain⟨q,row,ns,nv,rfl,hq,hl,hm,k⟩:=h
 refine⟨_,(ag (aO (PW.pt (aW (aV (aE (aB D_has_list hr (by rfl) (aa (pr 1) (aa ae ah))) (fun _=>rfl))) (bc (aV (aE (aB D_are_voices hr (by rfl) (aa (ax (bF K) (pr 1) aG (bD ae)) (aa (pr 2) ah))) (fun _=>rfl)))))) (ai (ak aP)) av)
 (ai (ak (cz DM_Alike hr (by rfl) (aa (pr 0) (aa (aK (aZ K) (pr 1) ae (fun _ _=>rfl)) (aa (aK (aZ K) (pr 1) ae (fun _ _=>rfl)) (aa (ax (bF K) (pr 1) (bD ae) aG) ah)))))))),?_⟩
 walk_at "rd";have hs:sizeLine=16777216:=sizeLine_eq;refine⟨q,_,2,rfl,hq,?_⟩;rw [aa1]
 by_cases h1:pE ns 2=true
 ·rw [show(decide (1≤(ns.length:Int) - 2) && decide ((ns.length:Int) - 2≤12))=true from h1]
  walk_at "rd";refine bj hq fun q1 hq1=>?_;rw [show(some (2:Int))=some ((2:Nat):Int)from rfl,bJ,←ad5];have s1:aw H (upd H q1 (.lst ((ns.take 2).map V.int))):=aH hq1;refine⟨q1,ns.take 2,nv,rfl,bf.of af,by simp;omega,fun H1 s2=>?_⟩;rw [show((ns.take 2).all fun n=>decide (1≤n) && decide (n≤nv))=false from eY hm h1];walk_at "rd";exact k _ (s1.trans s2)
 ·rw [show(decide (1≤(ns.length:Int) - 2) && decide ((ns.length:Int) - 2≤12))=false from dz h1]
  walk_at "rd";exact k _ (fun _ _ h=>h)
theorem qa{f C:Addr}{fd:FuncData}(F:cj K "move_of" "move_of" fL f fd)(T:Txt mg aM)(D_has_list:bW P w K mg base "has_list" 3 ["numbers","ahead"] (bE K))(D_are_voices:bW P w K mg base "are_voices" 3 ["numbers","voices"] (aR K))(DM_Move:b7 P w K mg base "Move" C 2 ["self","row","voice","numbers"] (eI K C)):aC P w K mg base bC 4 f fd ["row","numbers","voices"] (eS K (di 1)):=by
 refine F.ok jP (fun vs H Q E h=>?_) (fun cdv A outer s H vs Q E hr h=>?_)
 ·obtain⟨q,row,ns,nv,rfl,_⟩:=h
  rfl
 obtain⟨q,row,ns,nv,rfl,hq,hl,hm,k⟩:=h
 refine⟨_,(ag (aO (PW.pt (aW (aV (aE (aB D_has_list hr (by rfl) (aa (pr 1) (aa ae ah))) (fun _=>rfl))) (bc (aV (aE (aB D_are_voices hr (by rfl) (aa (ax (bF K) (pr 1) aG (bD ae)) (aa (pr 2) ah))) (fun _=>rfl)))))) (ai (ak aP)) av)
 (ai (ak (cz DM_Move hr (by rfl) (aa (pr 0) (aa (aK (aZ K) (pr 1) ae (fun _ _=>rfl)) (aa (ax (bF K) (pr 1) (bD ae) aG) ah))))))),?_⟩
 walk_at "rd";have hs:sizeLine=16777216:=sizeLine_eq;refine⟨q,_,1,rfl,hq,?_⟩;rw [aa1]
 by_cases h1:pE ns 1=true
 ·rw [show(decide (1≤(ns.length:Int) - 1) && decide ((ns.length:Int) - 1≤12))=true from h1]
  walk_at "rd";refine bj hq fun q1 hq1=>?_;rw [show(some (1:Int))=some ((1:Nat):Int)from rfl,bJ,←ad5];have s1:aw H (upd H q1 (.lst ((ns.take 1).map V.int))):=aH hq1;refine⟨q1,ns.take 1,nv,rfl,bf.of af,by simp;omega,fun H1 s2=>?_⟩;rw [show((ns.take 1).all fun n=>decide (1≤n) && decide (n≤nv))=false from eY hm h1];walk_at "rd";exact k _ (s1.trans s2)
 ·rw [show(decide (1≤(ns.length:Int) - 1) && decide ((ns.length:Int) - 1≤12))=false from dz h1]
  walk_at "rd";exact k _ (fun _ _ h=>h)
theorem oA{f C:Addr}{fd:FuncData}(F:cj K "begin_of" "begin_of" ej f fd)(T:Txt mg aM)(D_has_list:bW P w K mg base "has_list" 3 ["numbers","ahead"] (bE K))(D_are_voices:bW P w K mg base "are_voices" 3 ["numbers","voices"] (aR K))(DM_Begin:b7 P w K mg base "Begin" C 2 ["self","row","voice","notes"] (dI K C)):aC P w K mg base bC 4 f fd ["row","numbers","voices"] (eS K (di 1)):=by
 refine F.ok iH (fun vs H Q E h=>?_) (fun cdv A outer s H vs Q E hr h=>?_)
 ·obtain⟨q,row,ns,nv,rfl,_⟩:=h
  rfl
 obtain⟨q,row,ns,nv,rfl,hq,hl,hm,k⟩:=h
 refine⟨_,(ag (aO (PW.pt (aW (aV (aE (aB D_has_list hr (by rfl) (aa (pr 1) (aa ae ah))) (fun _=>rfl))) (bc (aV (aE (aB D_are_voices hr (by rfl) (aa (ax (bF K) (pr 1) aG (bD ae)) (aa (pr 2) ah))) (fun _=>rfl)))))) (ai (ak aP)) av)
 (ai (ak (cz DM_Begin hr (by rfl) (aa (pr 0) (aa (aK (aZ K) (pr 1) ae (fun _ _=>rfl)) (aa (ax (bF K) (pr 1) (bD ae) aG) ah))))))),?_⟩
 walk_at "rd";have hs:sizeLine=16777216:=sizeLine_eq;refine⟨q,_,1,rfl,hq,?_⟩;rw [aa1]
 by_cases h1:pE ns 1=true
 ·rw [show(decide (1≤(ns.length:Int) - 1) && decide ((ns.length:Int) - 1≤12))=true from h1]
  walk_at "rd";refine bj hq fun q1 hq1=>?_;rw [show(some (1:Int))=some ((1:Nat):Int)from rfl,bJ,←ad5];have s1:aw H (upd H q1 (.lst ((ns.take 1).map V.int))):=aH hq1;refine⟨q1,ns.take 1,nv,rfl,bf.of af,by simp;omega,fun H1 s2=>?_⟩;rw [show((ns.take 1).all fun n=>decide (1≤n) && decide (n≤nv))=false from eY hm h1];walk_at "rd";exact k _ (s1.trans s2)
 ·rw [show(decide (1≤(ns.length:Int) - 1) && decide ((ns.length:Int) - 1≤12))=false from dz h1]
  walk_at "rd";exact k _ (fun _ _ h=>h)
theorem oF{f C:Addr}{fd:FuncData}(F:cj K "close_of" "close_of" eu f fd)(T:Txt mg aM)(D_has_list:bW P w K mg base "has_list" 3 ["numbers","ahead"] (bE K))(D_are_voices:bW P w K mg base "are_voices" 3 ["numbers","voices"] (aR K))(DM_Close:b7 P w K mg base "Close" C 2 ["self","row","voice","notes"] (dM K C)):aC P w K mg base bC 4 f fd ["row","numbers","voices"] (eS K (di 1)):=by
 refine F.ok iJ (fun vs H Q E h=>?_) (fun cdv A outer s H vs Q E hr h=>?_)
 ·obtain⟨q,row,ns,nv,rfl,_⟩:=h
  rfl
 obtain⟨q,row,ns,nv,rfl,hq,hl,hm,k⟩:=h
 refine⟨_,(ag (aO (PW.pt (aW (aV (aE (aB D_has_list hr (by rfl) (aa (pr 1) (aa ae ah))) (fun _=>rfl))) (bc (aV (aE (aB D_are_voices hr (by rfl) (aa (ax (bF K) (pr 1) aG (bD ae)) (aa (pr 2) ah))) (fun _=>rfl)))))) (ai (ak aP)) av)
 (ai (ak (cz DM_Close hr (by rfl) (aa (pr 0) (aa (aK (aZ K) (pr 1) ae (fun _ _=>rfl)) (aa (ax (bF K) (pr 1) (bD ae) aG) ah))))))),?_⟩
 walk_at "rd";have hs:sizeLine=16777216:=sizeLine_eq;refine⟨q,_,1,rfl,hq,?_⟩;rw [aa1]
 by_cases h1:pE ns 1=true
 ·rw [show(decide (1≤(ns.length:Int) - 1) && decide ((ns.length:Int) - 1≤12))=true from h1]
  walk_at "rd";refine bj hq fun q1 hq1=>?_;rw [show(some (1:Int))=some ((1:Nat):Int)from rfl,bJ,←ad5];have s1:aw H (upd H q1 (.lst ((ns.take 1).map V.int))):=aH hq1;refine⟨q1,ns.take 1,nv,rfl,bf.of af,by simp;omega,fun H1 s2=>?_⟩;rw [show((ns.take 1).all fun n=>decide (1≤n) && decide (n≤nv))=false from eY hm h1];walk_at "rd";exact k _ (s1.trans s2)
 ·rw [show(decide (1≤(ns.length:Int) - 1) && decide ((ns.length:Int) - 1≤12))=false from dz h1]
  walk_at "rd";exact k _ (fun _ _ h=>h)
theorem oC{f C:Addr}{fd:FuncData}(F:cj K "clock_of" "clock_of" eo f fd)(T:Txt mg aM)(D_has_list:bW P w K mg base "has_list" 3 ["numbers","ahead"] (bE K))(D_are_voices:bW P w K mg base "are_voices" 3 ["numbers","voices"] (aR K))(DM_Clock:b7 P w K mg base "Clock" C 2 ["self","row","first","second","hours","numbers"] (dJ K C)):aC P w K mg base bC 4 f fd ["row","numbers","voices"] (eS K cn):=by
 refine F.ok iI (fun vs H Q E h=>?_) (fun cdv A outer s H vs Q E hr h=>?_)
 ·obtain⟨q,row,ns,nv,rfl,_⟩:=h
  rfl
 obtain⟨q,row,ns,nv,rfl,hq,hl,hm,k⟩:=h
 refine⟨_,(ag (aO (PW.pt (aW (aV (aE (aB D_has_list hr (by rfl) (aa (pr 1) (aa ae ah))) (fun _=>rfl))) (aW (aV (aE (aB D_are_voices hr (by rfl) (aa (ax (bF K) (pr 1) aG (bD ae)) (aa (pr 2) ah))) (fun _=>rfl))) (bc (aT (ao (o0 eR) (aK (aZ K) (pr 1) ae (fun _ _=>rfl)) ae (au _))))))) (ai (ak aP)) av)
 (ai (ak (cz DM_Clock hr (by rfl) (aa (pr 0) (aa (aK (aZ K) (pr 1) ae (fun _ _=>rfl)) (aa (aK (aZ K) (pr 1) ae (fun _ _=>rfl)) (aa (aK (aZ K) (pr 1) ae (fun _ _=>rfl)) (aa (ax (bF K) (pr 1) (bD ae) aG) ah))))))))),?_⟩
 walk_at "rd";have hs:sizeLine=16777216:=sizeLine_eq;refine⟨q,_,3,rfl,hq,?_⟩;rw [aa1]
 by_cases h1:pE ns 3=true
 ·rw [show(decide (1≤(ns.length:Int) - 3) && decide ((ns.length:Int) - 3≤12))=true from h1]
  walk_at "rd";refine bj hq fun q1 hq1=>?_;rw [show(some (2:Int))=some ((2:Nat):Int)from rfl,bJ,←ad5];have s1:aw H (upd H q1 (.lst ((ns.take 2).map V.int))):=aH hq1;refine⟨q1,ns.take 2,nv,rfl,bf.of af,by simp;omega,fun H1 s2=>?_⟩
  by_cases h2:(ns.take 2).all (pB nv)=true
  ·rw [show((ns.take 2).all fun n=>decide (1≤n) && decide (n≤nv))=true from h2]
   walk_at "rd"
   have hlen:2 < ns.length:=by simp [pE]at h1;omega
   refine aX ((s1.trans s2).seq hq) (show dG _ ((2:Nat):Int)=_ from aU (hJ hlen)) ?_;walk_at "rd"
   have h3:ns.getD 2 0 < 1:=by
    unfold cn at hm
    by_cases h3:1≤ns.getD 2 0
    ·rw [if_pos ⟨h1,h2,h3⟩]at hm;cases hm
    ·omega
   rw [if_pos h3];exact k _ (s1.trans s2)
  ·rw [ft h2]
   walk_at "rd";exact k _ (s1.trans s2)
 ·rw [show(decide (1≤(ns.length:Int) - 3) && decide ((ns.length:Int) - 3≤12))=false from dz h1]
  walk_at "rd";exact k _ (fun _ _ h=>h)
theorem p6{f C:Addr}{fd:FuncData}(F:cj K "back_of" "back_of" fJ f fd)(T:Txt mg aM)(D_are_voices:bW P w K mg base "are_voices" 3 ["numbers","voices"] (aR K))(DM_Back:b7 P w K mg base "Back" C 2 ["self","row","voice","widest"] (eG K C)):aC P w K mg base bC 4 f fd ["row","numbers","voices"] (eS K de):=by
 refine F.ok jN (fun vs H Q E h=>?_) (fun cdv A outer s H vs Q E hr h=>?_)
 ·obtain⟨q,row,ns,nv,rfl,_⟩:=h
  rfl
 obtain⟨q,row,ns,nv,rfl,hq,hl,hm,k⟩:=h
 refine⟨_,(ag (aO (PW.pt (aW (aT (ao qW (aA (aY K) (by rfl) T.n_len boot_len (aa (pr 1) ah)) ae (au _))) (aW (aV (aE (aB D_are_voices hr (by rfl) (aa (ax (bF K) (pr 1) aG (bD ae)) (aa (pr 2) ah))) (fun _=>rfl))) (bc (aT (ao (o0 eR) (aK (aZ K) (pr 1) ae (fun _ _=>rfl)) ae (au _))))))) (ai (ak aP)) av)
 (ai (ak (cz DM_Back hr (by rfl) (aa (pr 0) (aa (aK (aZ K) (pr 1) ae (fun _ _=>rfl)) (aa (aK (aZ K) (pr 1) ae (fun _ _=>rfl)) ah))))))),?_⟩
 walk_at "rd";have hs:sizeLine=16777216:=sizeLine_eq;refine⟨_,.inl hq,?_⟩;rw [aa1];walk_at "rd"
 by_cases h1:ns.length=2
 ·rw [if_pos (show((ns.length:Nat):Int)=2 by omega)]
  refine bj hq fun q1 hq1=>?_;rw [show(some (1:Int))=some ((1:Nat):Int)from rfl,bJ,←ad5];have s1:aw H (upd H q1 (.lst ((ns.take 1).map V.int))):=aH hq1;refine⟨q1,ns.take 1,nv,rfl,bf.of af,by simp;omega,fun H1 s2=>?_⟩
  by_cases h2:(ns.take 1).all (pB nv)=true
  ·rw [show((ns.take 1).all fun n=>decide (1≤n) && decide (n≤nv))=true from h2]
   walk_at "rd";have s3:=s1.trans s2;have hq3:=s3.seq hq;refine aX hq3 (show dG _ ((1:Nat):Int)=_ from aU (hJ (by omega))) ?_;walk_at "rd"
   have h3:ns.getD 1 0 < 0:=by
    unfold de at hm
    by_cases h3:0≤ns.getD 1 0
    ·rw [if_pos ⟨h1,h2,h3⟩]at hm;cases hm
    ·omega
   rw [if_pos h3];exact k _ s3
  ·rw [ft h2]
   walk_at "rd";exact k _ (s1.trans s2)
 ·rw [if_neg (show ¬((ns.length:Nat):Int)=2 by omega)]
  exact k _ (fun _ _ h=>h)
theorem p8{f C:Addr}{fd:FuncData}(F:cj K "held_of" "held_of" fK f fd)(T:Txt mg aM)(D_are_voices:bW P w K mg base "are_voices" 3 ["numbers","voices"] (aR K))(DM_Held:b7 P w K mg base "Held" C 2 ["self","row","voice","most"] (eH K C)):aC P w K mg base bC 4 f fd ["row","numbers","voices"] (eS K dh):=by
 refine F.ok jO (fun vs H Q E h=>?_) (fun cdv A outer s H vs Q E hr h=>?_)
 ·obtain⟨q,row,ns,nv,rfl,_⟩:=h
  rfl
 obtain⟨q,row,ns,nv,rfl,hq,hl,hm,k⟩:=h
 refine⟨_,(ag (aO (PW.pt (aW (aT (ao qW (aA (aY K) (by rfl) T.n_len boot_len (aa (pr 1) ah)) ae (au _))) (aW (aV (aE (aB D_are_voices hr (by rfl) (aa (ax (bF K) (pr 1) aG (bD ae)) (aa (pr 2) ah))) (fun _=>rfl))) (bc (aT (ao (o0 eR) (aK (aZ K) (pr 1) ae (fun _ _=>rfl)) ae (au _))))))) (ai (ak aP)) av)
 (ai (ak (cz DM_Held hr (by rfl) (aa (pr 0) (aa (aK (aZ K) (pr 1) ae (fun _ _=>rfl)) (aa (aK (aZ K) (pr 1) ae (fun _ _=>rfl)) ah))))))),?_⟩
 walk_at "rd";have hs:sizeLine=16777216:=sizeLine_eq;refine⟨_,.inl hq,?_⟩;rw [aa1];walk_at "rd"
 by_cases h1:ns.length=2
 ·rw [if_pos (show((ns.length:Nat):Int)=2 by omega)]
  refine bj hq fun q1 hq1=>?_;rw [show(some (1:Int))=some ((1:Nat):Int)from rfl,bJ,←ad5];have s1:aw H (upd H q1 (.lst ((ns.take 1).map V.int))):=aH hq1;refine⟨q1,ns.take 1,nv,rfl,bf.of af,by simp;omega,fun H1 s2=>?_⟩
  by_cases h2:(ns.take 1).all (pB nv)=true
  ·rw [show((ns.take 1).all fun n=>decide (1≤n) && decide (n≤nv))=true from h2]
   walk_at "rd";have s3:=s1.trans s2;have hq3:=s3.seq hq;refine aX hq3 (show dG _ ((1:Nat):Int)=_ from aU (hJ (by omega))) ?_;walk_at "rd"
   have h3:ns.getD 1 0 < 1:=by
    unfold dh at hm
    by_cases h3:1≤ns.getD 1 0
    ·rw [if_pos ⟨h1,h2,h3⟩]at hm;cases hm
    ·omega
   rw [if_pos h3];exact k _ s3
  ·rw [ft h2]
   walk_at "rd";exact k _ (s1.trans s2)
 ·rw [if_neg (show ¬((ns.length:Nat):Int)=2 by omega)]
  exact k _ (fun _ _ h=>h)
theorem oJ{f C:Addr}{fd:FuncData}(F:cj K "times_of" "times_of" eE f fd)(T:Txt mg aM)(D_are_voices:bW P w K mg base "are_voices" 3 ["numbers","voices"] (aR K))(DM_Times:b7 P w K mg base "Times" C 2 ["self","row","voice","note","fewest","most"] (dN K C)):aC P w K mg base bC 4 f fd ["row","numbers","voices"] (eS K cq):=by
 refine F.ok iK (fun vs H Q E h=>?_) (fun cdv A outer s H vs Q E hr h=>?_)
 ·obtain⟨q,row,ns,nv,rfl,_⟩:=h
  rfl
 obtain⟨q,row,ns,nv,rfl,hq,hl,hm,k⟩:=h
 refine⟨_,(ag (aO (PW.pt (aW (aT (ao qW (aA (aY K) (by rfl) T.n_len boot_len (aa (pr 1) ah)) ae (au _))) (aW (aV (aE (aB D_are_voices hr (by rfl) (aa (ax (bF K) (pr 1) aG (bD ae)) (aa (pr 2) ah))) (fun _=>rfl))) (bc (aT (ao (o0 eR) (aA (kJ rfl K) (by rfl) T.n_min boot_min (aa (ax (bF K) (pr 1) (bD ae) aG) ah)) ae (au _))))))) (ai (ak aP)) av)
 (ai (ak (cz DM_Times hr (by rfl) (aa (pr 0) (aa (aK (aZ K) (pr 1) ae (fun _ _=>rfl)) (aa (aK (aZ K) (pr 1) ae (fun _ _=>rfl)) (aa (aK (aZ K) (pr 1) ae (fun _ _=>rfl)) (aa (aK (aZ K) (pr 1) ae (fun _ _=>rfl)) ah))))))))),?_⟩
 walk_at "rd";have hs:sizeLine=16777216:=sizeLine_eq;refine⟨_,.inl hq,?_⟩;rw [aa1];walk_at "rd"
 by_cases h1:ns.length=4
 ·rw [if_pos (show((ns.length:Nat):Int)=4 by omega)]
  refine bj hq fun q1 hq1=>?_;rw [show(some (1:Int))=some ((1:Nat):Int)from rfl,bJ,←ad5];have s1:aw H (upd H q1 (.lst ((ns.take 1).map V.int))):=aH hq1;refine⟨q1,ns.take 1,nv,rfl,bf.of af,by simp;omega,fun H1 s2=>?_⟩
  by_cases h2:(ns.take 1).all (pB nv)=true
  ·rw [show((ns.take 1).all fun n=>decide (1≤n) && decide (n≤nv))=true from h2]
   walk_at "rd";have s3:=s1.trans s2;have hq3:=s3.seq hq;obtain⟨x1,x2,x3,x4,rfl⟩:=my h1;refine bj hq3 fun q4 hq4=>?_;rw [show(some (2:Int))=some ((2:Nat):Int)from rfl,bM];have s4:aw H (upd H1 q4 (.lst (([x1,x2,x3,x4].map V.int).drop 2))):=s3.upd hq4;have hm4:(upd H1 q4 (.lst (([x1,x2,x3,x4].map V.int).drop 2))) q4=some (.lst ([x3,x4].map V.int)):=af;refine⟨q4,rfl,[x3,x4],bf.of hm4,by simp,fun i hi hmin=>?_⟩
   have h3:i < 0:=by
    have m3:=hmin x3 (by simp);have m4:=hmin x4 (by simp);unfold cq at hm
    by_cases h3:0≤x3∧0≤x4
    ·rw [if_pos ⟨h1,h2,h3.1,h3.2⟩]at hm;cases hm
    ·omega
   walk_at "rd";rw [if_pos h3];exact k _ s4
  ·rw [ft h2]
   walk_at "rd";exact k _ (s1.trans s2)
 ·rw [if_neg (show ¬((ns.length:Nat):Int)=4 by omega)]
  exact k _ (fun _ _ h=>h)
end
section
variable {P:Program} {w:World} {K:Frag} {mg:Str→Option Value} {base:Heap} {aM:Addr}
theorem fO{C CR r:Addr}{row:Str}{sz:Int}{RI:nO}{H:Hp}(mono:∀r H H',aw H H'→RI r H→RI r H')(ins:∀r H,RI r H→∃dx fs,H r=some (.ins C dx fs)∧fs.lookup (Str.ofString "size")=none∧fs.lookup (Str.ofString "shown")=none∧fs.lookup (Str.ofString "row")=some (.str row))
  (cl:iR K C) (na:NoAttr K C "row") (h1:aN P w K mg base C "size" 7 ["self"] (iw RI (.int sz))) (h2:aN P w K mg base C "shown" 7 ["self"] (bz K)) (kt:dF K C CR) (h:RI r H):br P w K mg base CR row sz r H:=
 ⟨C,RI,h,mono,fun r H x=>let ⟨dx,fs,a,b,c,_⟩:=ins r H x;⟨dx,fs,a,b,c⟩,h1,h2.imp (by
  rintro vs H Q E ⟨r,rfl,x,q⟩;obtain⟨dx,fs,a,b,c,d⟩:=ins r H x
  exact⟨r,C,dx,fs,row,rfl,a,cl,na,d,q⟩),kt⟩
theorem gi{C:Addr}{RI:nO}{v:V}(h:aN P w K mg base C "size" 7 ["self"] (cY 1 fun _=>v)):aN P w K mg base C "size" 7 ["self"] (iw RI v):=h.imp (by
 rintro vs H Q E ⟨r,rfl,_,q⟩
 exact⟨rfl,q⟩)
theorem zF{j:Nat}{ns:List Int}(h:j < ns.length):∃x,ns[j]?=some x:=⟨_,ab8 h⟩
theorem dy{nv n:Int}:pB nv n=true↔1≤n∧n≤nv:=by simp [pB]
theorem lOk_iff{ns:List Int}{j:Int}:pE ns j=true↔1≤(ns.length:Int) - j∧(ns.length:Int) - j≤12:=by simp [pE]
theorem xf{C CR r:Addr}{row:Str}{x1 x2:Int}{D:List Int}{H:Hp}(TC:l8 K C)(h1:aN P w K mg base C "size" 7 ["self"] (cY 1 fun _=>.int 1))(h2:aN P w K mg base C "shown" 7 ["self"] (bz K))(kt:dF K C CR)(h:pL C row x1 x2 D r H):br P w K mg base CR row (1) r H:=by
 refine fO (fun r H H' s h=>?_) (fun r H h=>?_) TC.cl TC.n1 (gi h1) h2 kt h
 ·obtain⟨dx,n,e1,e2⟩:=h
  exact⟨dx,n,s _ _ e1,s _ _ e2⟩
 ·obtain⟨dx,n,e1,_⟩:=h
  refine⟨dx,_,e1,?_,?_,?_⟩<;>(unfold jr;walk_at "flds")
theorem xg{f C CR:Addr}{fd:FuncData}(h1:aC P w K mg base bC 4 f fd ["row","numbers","voices"] (pj K C))(h2:aC P w K mg base bC 4 f fd ["row","numbers","voices"] (eS K (di 2)))
  (hi:∀(row:Str) (x1 x2:Int) (D:List Int) (r:Addr) (H:Hp),pL C row x1 x2 D r H→br P w K mg base CR row (1) r H):aC P w K mg base bC 4 f fd ["row","numbers","voices"] (bY P w K mg base CR (di 2)):=by
 refine aC.both h1 h2 ?_;rintro vs H Q E ⟨q,row,ns,nv,rfl,hq,hl,kn,ks⟩
 cases hm:di 2 nv ns with
 | none=>exact .inr ⟨q,row,ns,nv,rfl,hq,hl,hm,kn hm⟩
 | some sz=>
  left
  have k1:=ks sz hm;clear ks;unfold di at hm
  split at hm
  ·rename_i hc
   cases hm;obtain⟨c1,c2⟩:=hc;rw [lOk_iff]at c1
   match ns,c1,c2,hq with
   | x1::x2::D,c1,c2,hq=>
    simp only [ac3,ad8,ac6,af4,ae6,ac0,dy]at c2;simp only [aa8]at c1;exact⟨q,row,x1,x2,D,nv,rfl,hq,by omega,by omega,by omega,by omega,by omega,by omega,fun r H' s h=>k1 r H' s (hi _ _ _ D _ _ h)⟩
   | [],c1,_,_=>exact absurd c1.1 (by simp)
   | [_],c1,_,_=>exact absurd c1.1 (by simp)
  ·cases hm
theorem tm{C CR r:Addr}{row:Str}{x1 x2:Int}{D:List Int}{H:Hp}(TC:i8 K C)(h1:aN P w K mg base C "size" 7 ["self"] (cY 1 fun _=>.int 1))(h2:aN P w K mg base C "shown" 7 ["self"] (bz K))(kt:dF K C CR)(h:mf C row x1 x2 D r H):br P w K mg base CR row (1) r H:=by
 refine fO (fun r H H' s h=>?_) (fun r H h=>?_) TC.cl TC.n1 (gi h1) h2 kt h
 ·obtain⟨dx,n,e1,e2⟩:=h
  exact⟨dx,n,s _ _ e1,s _ _ e2⟩
 ·obtain⟨dx,n,e1,_⟩:=h
  refine⟨dx,_,e1,?_,?_,?_⟩<;>(unfold gY;walk_at "flds")
theorem tq{f C CR:Addr}{fd:FuncData}(h1:aC P w K mg base bC 4 f fd ["row","numbers","voices"] (lI K C))(h2:aC P w K mg base bC 4 f fd ["row","numbers","voices"] (eS K (di 2)))
  (hi:∀(row:Str) (x1 x2:Int) (D:List Int) (r:Addr) (H:Hp),mf C row x1 x2 D r H→br P w K mg base CR row (1) r H):aC P w K mg base bC 4 f fd ["row","numbers","voices"] (bY P w K mg base CR (di 2)):=by
 refine aC.both h1 h2 ?_;rintro vs H Q E ⟨q,row,ns,nv,rfl,hq,hl,kn,ks⟩
 cases hm:di 2 nv ns with
 | none=>exact .inr ⟨q,row,ns,nv,rfl,hq,hl,hm,kn hm⟩
 | some sz=>
  left
  have k1:=ks sz hm;clear ks;unfold di at hm
  split at hm
  ·rename_i hc
   cases hm;obtain⟨c1,c2⟩:=hc;rw [lOk_iff]at c1
   match ns,c1,c2,hq with
   | x1::x2::D,c1,c2,hq=>
    simp only [ac3,ad8,ac6,af4,ae6,ac0,dy]at c2;simp only [aa8]at c1;exact⟨q,row,x1,x2,D,nv,rfl,hq,by omega,by omega,by omega,by omega,by omega,by omega,fun r H' s h=>k1 r H' s (hi _ _ _ D _ _ h)⟩
   | [],c1,_,_=>exact absurd c1.1 (by simp)
   | [_],c1,_,_=>exact absurd c1.1 (by simp)
  ·cases hm
theorem wc{C CR r:Addr}{row:Str}{x1:Int}{D:List Int}{H:Hp}(TC:l7 K C)(h1:aN P w K mg base C "size" 7 ["self"] (cY 1 fun _=>.int 1))(h2:aN P w K mg base C "shown" 7 ["self"] (bz K))(kt:dF K C CR)(h:pK C row x1 D r H):br P w K mg base CR row (1) r H:=by
 refine fO (fun r H H' s h=>?_) (fun r H h=>?_) TC.cl TC.n1 (gi h1) h2 kt h
 ·obtain⟨dx,n,e1,e2⟩:=h
  exact⟨dx,n,s _ _ e1,s _ _ e2⟩
 ·obtain⟨dx,n,e1,_⟩:=h
  refine⟨dx,_,e1,?_,?_,?_⟩<;>(unfold jq;walk_at "flds")
theorem we{f C CR:Addr}{fd:FuncData}(h1:aC P w K mg base bC 4 f fd ["row","numbers","voices"] (ph K C))(h2:aC P w K mg base bC 4 f fd ["row","numbers","voices"] (eS K (di 1)))
  (hi:∀(row:Str) (x1:Int) (D:List Int) (r:Addr) (H:Hp),pK C row x1 D r H→br P w K mg base CR row (1) r H):aC P w K mg base bC 4 f fd ["row","numbers","voices"] (bY P w K mg base CR (di 1)):=by
 refine aC.both h1 h2 ?_;rintro vs H Q E ⟨q,row,ns,nv,rfl,hq,hl,kn,ks⟩
 cases hm:di 1 nv ns with
 | none=>exact .inr ⟨q,row,ns,nv,rfl,hq,hl,hm,kn hm⟩
 | some sz=>
  left
  have k1:=ks sz hm;clear ks;unfold di at hm
  split at hm
  ·rename_i hc
   cases hm;obtain⟨c1,c2⟩:=hc;rw [lOk_iff]at c1
   match ns,c1,c2,hq with
   | x1::D,c1,c2,hq=>
    simp only [ac3,ad8,ac6,af4,ae6,ac0,dy]at c2;simp only [aa8]at c1;exact⟨q,row,x1,D,nv,rfl,hq,by omega,by omega,by omega,by omega,fun r H' s h=>k1 r H' s (hi _ _ D _ _ h)⟩
   | [],c1,_,_=>exact absurd c1.1 (by simp)
  ·cases hm
theorem tu{C CR r:Addr}{row:Str}{x1:Int}{D:List Int}{H:Hp}(TC:i9 K C)(h1:aN P w K mg base C "size" 7 ["self"] (cY 1 fun _=>.int 1))(h2:aN P w K mg base C "shown" 7 ["self"] (bz K))(kt:dF K C CR)(h:mh C row x1 D r H):br P w K mg base CR row (1) r H:=by
 refine fO (fun r H H' s h=>?_) (fun r H h=>?_) TC.cl TC.n1 (gi h1) h2 kt h
 ·obtain⟨dx,n,e1,e2⟩:=h
  exact⟨dx,n,s _ _ e1,s _ _ e2⟩
 ·obtain⟨dx,n,e1,_⟩:=h
  refine⟨dx,_,e1,?_,?_,?_⟩<;>(unfold gZ;walk_at "flds")
theorem tw{f C CR:Addr}{fd:FuncData}(h1:aC P w K mg base bC 4 f fd ["row","numbers","voices"] (lJ K C))(h2:aC P w K mg base bC 4 f fd ["row","numbers","voices"] (eS K (di 1)))
  (hi:∀(row:Str) (x1:Int) (D:List Int) (r:Addr) (H:Hp),mh C row x1 D r H→br P w K mg base CR row (1) r H):aC P w K mg base bC 4 f fd ["row","numbers","voices"] (bY P w K mg base CR (di 1)):=by
 refine aC.both h1 h2 ?_;rintro vs H Q E ⟨q,row,ns,nv,rfl,hq,hl,kn,ks⟩
 cases hm:di 1 nv ns with
 | none=>exact .inr ⟨q,row,ns,nv,rfl,hq,hl,hm,kn hm⟩
 | some sz=>
  left
  have k1:=ks sz hm;clear ks;unfold di at hm
  split at hm
  ·rename_i hc
   cases hm;obtain⟨c1,c2⟩:=hc;rw [lOk_iff]at c1
   match ns,c1,c2,hq with
   | x1::D,c1,c2,hq=>
    simp only [ac3,ad8,ac6,af4,ae6,ac0,dy]at c2;simp only [aa8]at c1;exact⟨q,row,x1,D,nv,rfl,hq,by omega,by omega,by omega,by omega,fun r H' s h=>k1 r H' s (hi _ _ D _ _ h)⟩
   | [],c1,_,_=>exact absurd c1.1 (by simp)
  ·cases hm
theorem tF{C CR r:Addr}{row:Str}{x1:Int}{D:List Int}{H:Hp}(TC:jb K C)(h1:aN P w K mg base C "size" 7 ["self"] (cY 1 fun _=>.int 1))(h2:aN P w K mg base C "shown" 7 ["self"] (bz K))(kt:dF K C CR)(h:mj C row x1 D r H):br P w K mg base CR row (1) r H:=by
 refine fO (fun r H H' s h=>?_) (fun r H h=>?_) TC.cl TC.n1 (gi h1) h2 kt h
 ·obtain⟨dx,n,e1,e2⟩:=h
  exact⟨dx,n,s _ _ e1,s _ _ e2⟩
 ·obtain⟨dx,n,e1,_⟩:=h
  refine⟨dx,_,e1,?_,?_,?_⟩<;>(unfold g9;walk_at "flds")
theorem tG{f C CR:Addr}{fd:FuncData}(h1:aC P w K mg base bC 4 f fd ["row","numbers","voices"] (lL K C))(h2:aC P w K mg base bC 4 f fd ["row","numbers","voices"] (eS K (di 1)))
  (hi:∀(row:Str) (x1:Int) (D:List Int) (r:Addr) (H:Hp),mj C row x1 D r H→br P w K mg base CR row (1) r H):aC P w K mg base bC 4 f fd ["row","numbers","voices"] (bY P w K mg base CR (di 1)):=by
 refine aC.both h1 h2 ?_;rintro vs H Q E ⟨q,row,ns,nv,rfl,hq,hl,kn,ks⟩
 cases hm:di 1 nv ns with
 | none=>exact .inr ⟨q,row,ns,nv,rfl,hq,hl,hm,kn hm⟩
 | some sz=>
  left
  have k1:=ks sz hm;clear ks;unfold di at hm
  split at hm
  ·rename_i hc
   cases hm;obtain⟨c1,c2⟩:=hc;rw [lOk_iff]at c1
   match ns,c1,c2,hq with
   | x1::D,c1,c2,hq=>
    simp only [ac3,ad8,ac6,af4,ae6,ac0,dy]at c2;simp only [aa8]at c1;exact⟨q,row,x1,D,nv,rfl,hq,by omega,by omega,by omega,by omega,fun r H' s h=>k1 r H' s (hi _ _ D _ _ h)⟩
   | [],c1,_,_=>exact absurd c1.1 (by simp)
  ·cases hm
theorem tD{C CR r:Addr}{row:Str}{x1 x2 x3:Int}{D:List Int}{H:Hp}(TC:ja K C)(h1:aN P w K mg base C "size" 7 ["self"] (cY 1 fun _=>.int 1))(h2:aN P w K mg base C "shown" 7 ["self"] (bz K))(kt:dF K C CR)(h:mi C row x1 x2 x3 D r H):br P w K mg base CR row (1) r H:=by
 refine fO (fun r H H' s h=>?_) (fun r H h=>?_) TC.cl TC.n1 (gi h1) h2 kt h
 ·obtain⟨dx,n,e1,e2⟩:=h
  exact⟨dx,n,s _ _ e1,s _ _ e2⟩
 ·obtain⟨dx,n,e1,_⟩:=h
  refine⟨dx,_,e1,?_,?_,?_⟩<;>(unfold g8;walk_at "flds")
theorem tE{f C CR:Addr}{fd:FuncData}(h1:aC P w K mg base bC 4 f fd ["row","numbers","voices"] (lK K C))(h2:aC P w K mg base bC 4 f fd ["row","numbers","voices"] (eS K (cn)))
  (hi:∀(row:Str) (x1 x2 x3:Int) (D:List Int) (r:Addr) (H:Hp),mi C row x1 x2 x3 D r H→br P w K mg base CR row (1) r H):aC P w K mg base bC 4 f fd ["row","numbers","voices"] (bY P w K mg base CR (cn)):=by
 refine aC.both h1 h2 ?_;rintro vs H Q E ⟨q,row,ns,nv,rfl,hq,hl,kn,ks⟩
 cases hm:cn nv ns with
 | none=>exact .inr ⟨q,row,ns,nv,rfl,hq,hl,hm,kn hm⟩
 | some sz=>
  left
  have k1:=ks sz hm;clear ks;unfold cn at hm
  split at hm
  ·rename_i hc
   cases hm;obtain⟨c1,c2,c3⟩:=hc;rw [lOk_iff]at c1
   match ns,c1,c2,c3,hq with
   | x1::x2::x3::D,c1,c2,c3,hq=>
    simp only [ac3,ad8,ac6,af4,ae6,ac0,dy]at c2;simp only [aa8]at c1;exact⟨q,row,x1,x2,x3,D,nv,rfl,hq,by omega,by omega,by omega,by omega,c3,by omega,by omega,fun r H' s h=>k1 r H' s (hi _ _ _ _ D _ _ h)⟩
   | [],c1,_,_,_=>exact absurd c1.1 (by simp)
   | [_],c1,_,_,_=>exact absurd c1.1 (by simp)
   | [_,_],c1,_,_,_=>exact absurd c1.1 (by simp)
  ·cases hm
theorem vN{C CR r:Addr}{row:Str}{x1 x2:Int}{H:Hp}(TC:l6 K C)(h1:aN P w K mg base C "size" 7 ["self"] (cY 1 fun _=>.int 3))(h2:aN P w K mg base C "shown" 7 ["self"] (bz K))(kt:dF K C CR)(h:pJ C row x1 x2 r H):br P w K mg base CR row (3) r H:=by
 refine fO (fun r H H' s h=>?_) (fun r H h=>?_) TC.cl TC.n1 (gi h1) h2 kt h
 ·obtain⟨dx,e1⟩:=h
  exact⟨dx,s _ _ e1⟩
 ·obtain⟨dx,e1⟩:=h
  refine⟨dx,_,e1,?_,?_,?_⟩<;>(unfold jo;walk_at "flds")
theorem vO{f C CR:Addr}{fd:FuncData}(h1:aC P w K mg base bC 4 f fd ["row","numbers","voices"] (pe K C))(h2:aC P w K mg base bC 4 f fd ["row","numbers","voices"] (eS K (de)))
  (hi:∀(row:Str) (x1 x2:Int) (r:Addr) (H:Hp),pJ C row x1 x2 r H→br P w K mg base CR row (3) r H):aC P w K mg base bC 4 f fd ["row","numbers","voices"] (bY P w K mg base CR (de)):=by
 refine aC.both h1 h2 ?_;rintro vs H Q E ⟨q,row,ns,nv,rfl,hq,hl,kn,ks⟩
 cases hm:de nv ns with
 | none=>exact .inr ⟨q,row,ns,nv,rfl,hq,hl,hm,kn hm⟩
 | some sz=>
  left
  have k1:=ks sz hm;clear ks;unfold de at hm
  split at hm
  ·rename_i hc
   cases hm;obtain⟨c1,c2,c3⟩:=hc;obtain⟨x1,x2,rfl⟩:=nI c1;simp only [ac3,ad8,ac6,af4,ae6,ac0,dy]at c2;exact⟨q,row,x1,x2,nv,rfl,hq,c2.1,c2.2,c3,fun r H' s h=>k1 r H' s (hi _ _ _ _ _ h)⟩
  ·cases hm
theorem vY{C CR r:Addr}{row:Str}{x1 x2:Int}{H:Hp}(TC:iT K C)(h1:aN P w K mg base C "size" 7 ["self"] (iw (gP C row x1 x2) (.int (x2))))(h2:aN P w K mg base C "shown" 7 ["self"] (bz K))(kt:dF K C CR)(h:gP C row x1 x2 r H):br P w K mg base CR row (x2) r H:=by
 refine fO (fun r H H' s h=>?_) (fun r H h=>?_) TC.cl TC.n1 h1 h2 kt h
 ·obtain⟨dx,e1⟩:=h
  exact⟨dx,s _ _ e1⟩
 ·obtain⟨dx,e1⟩:=h
  refine⟨dx,_,e1,?_,?_,?_⟩<;>(unfold eV;walk_at "flds")
theorem vZ{f C CR:Addr}{fd:FuncData}(h1:aC P w K mg base bC 4 f fd ["row","numbers","voices"] (pf K C))(h2:aC P w K mg base bC 4 f fd ["row","numbers","voices"] (eS K (dh)))
  (hi:∀(row:Str) (x1 x2:Int) (r:Addr) (H:Hp),gP C row x1 x2 r H→br P w K mg base CR row (x2) r H):aC P w K mg base bC 4 f fd ["row","numbers","voices"] (bY P w K mg base CR (dh)):=by
 refine aC.both h1 h2 ?_;rintro vs H Q E ⟨q,row,ns,nv,rfl,hq,hl,kn,ks⟩
 cases hm:dh nv ns with
 | none=>exact .inr ⟨q,row,ns,nv,rfl,hq,hl,hm,kn hm⟩
 | some sz=>
  left
  have k1:=ks sz hm;clear ks;unfold dh at hm
  split at hm
  ·rename_i hc
   cases hm;obtain⟨c1,c2,c3⟩:=hc;obtain⟨x1,x2,rfl⟩:=nI c1;simp only [ac3,ad8,ac6,af4,ae6,ac0,dy]at c2;exact⟨q,row,x1,x2,nv,rfl,hq,c2.1,c2.2,c3,fun r H' s h=>k1 r H' s (hi _ _ _ _ _ h)⟩
  ·cases hm
theorem vo{C CR r:Addr}{row:Str}{x1 x2 x3 x4:Int}{H:Hp}(TC:gn K C)(h1:aN P w K mg base C "size" 7 ["self"] (iw (fq C row x1 x2 x3 x4) (.int (x4+1))))(h2:aN P w K mg base C "shown" 7 ["self"] (bz K))(kt:dF K C CR)(h:fq C row x1 x2 x3 x4 r H):br P w K mg base CR row (x4+1) r H:=by
 refine fO (fun r H H' s h=>?_) (fun r H h=>?_) TC.cl TC.n1 h1 h2 kt h
 ·obtain⟨dx,e1⟩:=h
  exact⟨dx,s _ _ e1⟩
 ·obtain⟨dx,e1⟩:=h
  refine⟨dx,_,e1,?_,?_,?_⟩<;>(unfold dW;walk_at "flds")
theorem vq{f C CR:Addr}{fd:FuncData}(h1:aC P w K mg base bC 4 f fd ["row","numbers","voices"] (lO K C))(h2:aC P w K mg base bC 4 f fd ["row","numbers","voices"] (eS K (cq)))
  (hi:∀(row:Str) (x1 x2 x3 x4:Int) (r:Addr) (H:Hp),fq C row x1 x2 x3 x4 r H→br P w K mg base CR row (x4+1) r H):aC P w K mg base bC 4 f fd ["row","numbers","voices"] (bY P w K mg base CR (cq)):=by
 refine aC.both h1 h2 ?_;rintro vs H Q E ⟨q,row,ns,nv,rfl,hq,hl,kn,ks⟩
 cases hm:cq nv ns with
 | none=>exact .inr ⟨q,row,ns,nv,rfl,hq,hl,hm,kn hm⟩
 | some sz=>
  left
  have k1:=ks sz hm;clear ks;unfold cq at hm
  split at hm
  ·rename_i hc
   cases hm;obtain⟨c1,c2,c3,c4⟩:=hc;obtain⟨x1,x2,x3,x4,rfl⟩:=my c1;simp only [ac3,ad8,ac6,af4,ae6,ac0,dy]at c2;exact⟨q,row,x1,x2,x3,x4,nv,rfl,hq,c2.1,c2.2,c3,c4,fun r H' s h=>k1 r H' s (hi _ _ _ _ _ _ _ h)⟩
  ·cases hm
end
theorem nA(c:Nat):∀(l p:List Nat),p∈cZ c l→p.length≤l.length
 | [],p,h=>by simp [cZ]at h;subst h;exact aa3 _
 | x::l,p,h=>by
  unfold cZ at h
  split at h
  ·rcases ab7.mp h with rfl | h
   ·exact ab1 _
   ·exact ad9 (nA c l p h)
  ·split at h
   ·rcases ai4.mp h with rfl
    simp
   ·rename_i q ps e
    rcases ab7.mp h with rfl | h
    ·have:=nA c l q (by rw [e];exact ab3)
     simp;exact this
    ·exact ad9 (nA c l p (by rw [e];exact ab2 _ h))
theorem xp{z y:Str}{c:Nat}(hc:c < 256)(h:y∈Txt.split z ⟨#[c]⟩):y.length≤z.length:=by
 have h1:y.cps.toList∈cZ c z.cps.toList:=by
  rw [←cx z hc];exact ag3.mpr ⟨y,h,rfl⟩
 rw [az,az];exact nA _ _ _ h1
def b0(z:Str):List Str:=Txt.split z ⟨#[32]⟩
def f9(z:Str):Bool:=cg z.cps.toList
def bu(z:Str):Int:=(intText? z).getD 0
theorem mI{z:Str}(h:f9 z=true):intText? z=some (bu z)∧z.length≤640:=by
 obtain⟨n,e,l⟩:=ll h;exact⟨by unfold bu;rw [e];rfl,l⟩
def eP(k:Str):Option vI:=
 if k=Str.ofString "span" then some (di 2)else if k=Str.ofString "clock" then some cn else if k=Str.ofString "move" then some (di 1)else if k=Str.ofString "alike" then some (di 2)else if k=Str.ofString "back" then some de
 else if k=Str.ofString "held" then some dh else if k=Str.ofString "times" then some cq else if k=Str.ofString "begin" then some (di 1)else if k=Str.ofString "close" then some (di 1)else none
def gL(ws:List Str)(nv:Int):Option Int:=
 match eP (ws.headD ⟨#[]⟩)with
 | none=>none
 | some mk=>if ws.tail.all f9=true then mk nv (ws.tail.map bu)else none
theorem zk:Str.ofString " "=⟨#[32]⟩:=by decide +kernel
theorem nJ(z:Str):∃k ws,b0 z=k::ws:=by
 cases h:b0 z with
 | cons k ws=>exact⟨k,ws,rfl⟩
 | nil=>
  have h1:=cx z (c:=32) (by decide);rw [show Txt.split z ⟨#[32]⟩=[]from h]at h1;exact absurd h1.symm (iz _ _)
theorem qA(z:Str):(b0 z).length≤z.length+1:=by
 have h1:(b0 z).length=(cZ 32 z.cps.toList).length:=by
  unfold b0;rw [←cx z (by decide),aa1]
 rw [h1]
 have:=nB 32 z.cps.toList
 rw [←az]at this;exact this
theorem vz{z y:Str}(h:y∈b0 z):y.length≤z.length:=xp (by decide) h
structure gN(P:Program)(w:World)(K:Frag)(mg:Str→Option Value)(base:Heap)(CR:Addr)(D:List (Str×V)):Prop where
 to:∀k,(∃mk f,eP k=some mk∧KTD.datumAt k D=some (.ref f)∧dA P w K mg base 7 f ["row","numbers","voices"] (bY P w K mg base CR mk))∨(eP k=none∧KTD.datumAt k D=none)
def xb(P:Program)(w:World)(K:Frag)(mg:Str→Option Value)(base:Heap)(aM CR:Addr):Sp:=fun vs H Q _=>∃(row:Str) (nv:Int) (D:List (Str×V)),vs=[.str row,.int nv]∧row.length≤9000∧gR K aM D∧gN P w K mg base CR D∧
 (gL (b0 row) nv=none→∀H',aw H H'→Q .non H')∧∀sz,gL (b0 row) nv=some sz→∀r H',aw H H'→br P w K mg base CR row sz r H'→Q (.ref r) H'
section
variable {P:Program} {w:World} {K:Frag} {mg:Str→Option Value} {base:Heap} {aM:Addr}
theorem qr{ws:List Str}{i:Nat}{x:V}(hx:(ws.map V.str)[i]?=some x):∃y,x=.str y∧ws[i]?=some y:=by
 rw [ac5]at hx
 cases hy:ws[i]? with
 | none=>rw [hy]at hx;cases hx
 | some y=>rw [hy]at hx;exact⟨y,(Option.some.inj hx).symm,rfl⟩
theorem ko{f CR:Addr}{fd:FuncData}(F:cj K "plain_rule" "plain_rule" eD f fd)(T:Txt mg aM)(D_is_number:bW P w K mg base "is_number" 7 ["word"] rh):aC P w K mg base bC 8 f fd ["row","voices"] (xb P w K mg base aM CR):=by
 refine F.ok sc_plain_rule (fun vs H Q E h=>?_) (fun cdv A outer s H vs Q E hr h=>?_)
 ·obtain⟨row,nv,D,rfl,_⟩:=h
  rfl
 obtain⟨row,nv,D,rfl,hz,tab,M,kn,ks⟩:=h
 refine⟨_,(ag (aL (i:=2) sc_plain_rule.nd rfl (Or.inl rfl) (cy K PySem.F.plainAttrs_str PySem.F.slot_str_split PySem.F.type_str_split jz (pr 0) (aa aD ah)))
 (ag (aO (PW.pt (aW (aT (ao (qf K) (aK (aZ K) (pr 2) ae (fun _ _=>rfl)) (d8 T.g_MAKERS) (by with_unfolding_all rfl))) (bc (aV (aE (aA (gW K rfl) (by rfl) T.n_all boot_all (aa (gA (own:=["word"]) (js:=[]) rfl (d9 K (ax (bF K) (pr 2) (bD ae) aG)) (bP.of (by rfl)) (fun _ _ _ _ _=>(cC (i:=0) (show List.Nodup (["word"]:List Str)from by decide +kernel) rfl (Or.inl rfl))) (fun _ _ _ _ _=>fF) (fun _ _ _ _ _=>(aB D_is_number hr (by rfl) (aa (pr 0) ah)))) ah)) (fun _=>rfl)))))) (ai (ak aP)) av)
 (ai (ak (uP P w K mg base hr (uR K (d8 T.g_MAKERS) (aK (aZ K) (pr 2) ae (fun _ _=>rfl)) (fun _ _=>rfl)) (aa (pr 0) (aa (gA (own:=["word"]) (js:=[]) rfl (d9 K (ax (bF K) (pr 2) (bD ae) aG)) (bP.of (by rfl)) (fun _ _ _ _ _=>(cC (i:=0) (show List.Nodup (["word"]:List Str)from by decide +kernel) rfl (Or.inl rfl))) (fun _ _ _ _ _=>fF) (fun _ _ _ _ _=>(ba (dU) (by rfl) T.n_int boot_int (aa (pr 0) ah)))) (aa (pr 1) ah)))))))),?_⟩
 walk_at "rd";have hs:sizeLine=16777216:=sizeLine_eq;refine⟨32,by decide +kernel,by decide,by omega,fun p hp=>?_⟩;have hl:=qA row;have hw:∀y∈b0 row,y.length≤9000:=fun y hy=>aa7 (vz hy) hz
 change gL (b0 row) nv=none→_ at kn
 obtain⟨kind,ws,hws⟩:=nJ row;rw [show Txt.split row ⟨#[32]⟩=kind::ws from hws];rw [hws]at kn ks hl hw;simp only [aa8]at hl;have sp0:aw H (upd H p (.lst ((kind::ws).map V.str))):=aH hp;generalize hH0:upd H p (.lst ((kind::ws).map V.str))=H0 at sp0
 have hp0:H0 p=some (.lst ((kind::ws).map V.str)):=by rw [←hH0,af]
 refine aX (bf.of hp0) (bh rfl) ⟨kind,rfl,D,tab,?_⟩;rcases M.to kind with⟨mk,g,v3,hg,fn⟩ | ⟨v3,hg⟩
 rotate_left
 ·rw [hg]
  walk_at "rd";exact kn (by unfold gL;rw [show(kind::ws).headD ⟨#[]⟩=kind from rfl,v3]) _ sp0
 rw [hg];walk_at "rd";refine bj (bf.of hp0) fun q hq=>?_;rw [show(some (1:Int))=some ((1:Nat):Int)from rfl,bM];show wU _ _ _ _;have s1:aw H0 (upd H0 q (.lst (ws.map V.str))):=aH hq;refine fG (xs:=ws.map V.str) (bf.of af) (d2 (xs:=ws.map V.str) (fun i ys H'=>ys=((ws.take i).map f9).map V.bl∧aw (upd H0 q (.lst (ws.map V.str))) H') (by simp;omega) ⟨rfl,aw.refl _⟩ ?_ ?_ ?_ ?_)
 ·rintro i ys H' ⟨rfl,sm⟩
  rw [aa1,aa1,ad0];omega
 ·rintro i ys H' ⟨rfl,sm⟩
  exact sm.seq (bf.of af)
 ·rintro i x ys H' hx ⟨rfl,sm⟩
  obtain⟨y,rfl,hy⟩:=qr hx;walk_at "rd";refine⟨y,rfl,aa7 (hw y (ab2 _ (ac7 hy))) (by decide),fun H1 s1=>⟨?_,sm.trans s1⟩⟩;rw [ad7,hy,ac9,ac9];rfl
 rintro ys H1 ⟨rfl,sm⟩ p1 hp1;rw [aa1,ae8];refine⟨_,bf.of af,?_⟩;rw [show(ws.map f9).all id=ws.all f9 by rw [ah0];rfl];have s2:aw H0 (upd H1 p1 (.lst ((ws.map f9).map V.bl))):=(s1.trans sm).upd hp1;generalize upd H1 p1 (.lst ((ws.map f9).map V.bl))=H2 at s2
 cases hall:ws.all f9 with
 | false=>
  walk_at "rd";exact kn (by unfold gL;rw [show(kind::ws).headD ⟨#[]⟩=kind from rfl,v3];simp only [List.tail_cons,hall];rfl) _ (sp0.trans s2)
 | true=>
  walk_at "rd";have hp2:=s2 _ _ hp0;refine aX (bf.of hp2) (bh rfl) ⟨kind,rfl,D,tab,_,hg,g,rfl,_,_,fn,?_⟩;refine bj (bf.of hp2) fun q2 hq2=>?_;rw [bM];show wU _ _ _ _;have s3:aw H0 (upd H2 q2 (.lst (ws.map V.str))):=s2.upd hq2;refine fG (xs:=ws.map V.str) (bf.of af) (d2 (xs:=ws.map V.str) (fun i ys H'=>ys=((ws.map bu).take i).map V.int∧upd H2 q2 (.lst (ws.map V.str))=H') (by simp;omega) ⟨rfl,rfl⟩ ?_ ?_ ?_ ?_)
  ·rintro i ys H' ⟨rfl,rfl⟩
   rw [aa1,ad0,aa1];omega
  ·rintro i ys H' ⟨rfl,rfl⟩
   exact bf.of af
  ·rintro i x ys H' hx ⟨rfl,rfl⟩
   obtain⟨y,rfl,hy⟩:=qr hx;obtain⟨e1,e2⟩:=mI (ae7.mp hall y (ac7 hy));walk_at "rd";refine⟨bu y,e1,e2,?_⟩;rw [ad7,ac5,hy,ac9];rfl
  rintro ys H3 ⟨rfl,rfl⟩ p3 hp3;have s4:aw H0 (upd (upd H2 q2 (.lst (ws.map V.str))) p3 (.lst (((ws.map bu).take (ws.map V.str).length).map V.int))):=s3.upd hp3
  have e:gL (kind::ws) nv=mk nv (ws.map bu):=by unfold gL;rw [show(kind::ws).headD ⟨#[]⟩=kind from rfl,v3];simp only [List.tail_cons,hall,if_true]
  rw [e]at kn ks;refine⟨p3,row,ws.map bu,nv,rfl,?_,by rw [aa1];omega,fun hm H' s'=>kn hm _ ((sp0.trans s4).trans s'),fun sz hm r H' s' R=>ks sz hm r _ ((sp0.trans s4).trans s') R⟩;refine bf.of ?_;rw [af,aa1,show(ws.map bu).take ws.length=ws.map bu by rw [←aa1 (f:=bu),ae8]]
end
theorem i5{c a:Nat}{l:List Nat}(h:a=c):cZ c (a::l)=[]::cZ c l:=by
 rw [cZ,if_pos h]
theorem gJ{c a:Nat}{l p:List Nat}{ps:List (List Nat)}(h:¬a=c)(e:cZ c l=p::ps):cZ c (a::l)=(a::p)::ps:=by
 rw [cZ,if_neg h,e]
theorem pk{c a n:Nat}{l:List Nat}(h:a=c):cw c (n+1) (a::l)=[]::cw c n l:=by
 rw [cw,if_pos h]
theorem lP{c a n:Nat}{l p:List Nat}{ps:List (List Nat)}(h:¬a=c)(e:cw c (n+1) l=p::ps):cw c (n+1) (a::l)=(a::p)::ps:=by
 rw [cw,if_neg h,e]
theorem qo(c:Nat)(l:List Nat):∃p ps,cZ c l=p::ps:=by
 cases e:cZ c l with
 | nil=>exact absurd e (iz c l)
 | cons p ps=>exact⟨p,ps,rfl⟩
theorem jX(c:Nat):∀(n:Nat) (l:List Nat),(cZ c l).length≤n→cw c n l=cZ c l
 | 0,l,h=>absurd (ae3.mp (Nat.le_zero.mp h)) (iz c l)
 | n+1,[],_=>by simp [cw,cZ]
 | n+1,a::l,h=>by
  by_cases hc:a=c
  ·rw [i5 hc]at h ⊢
   rw [pk hc,jX c n l (by simpa using h)]
  ·obtain⟨p,ps,e⟩:=qo c l
   rw [gJ hc e]at h ⊢;exact lP hc (by rw [jX c (n+1) l (by rw [e];simpa using h),e])
theorem iy(c:Nat):∀(n:Nat) (l:List Nat),n < (cZ c l).length→∃rest,cw c n l=(cZ c l).take n++[rest]∧cZ c rest=(cZ c l).drop n∧rest.length≤l.length
 | 0,l,_=>⟨l,by simp [cw],by simp,aa3 _⟩
 | n+1,[],h=>by simp [cZ]at h
 | n+1,a::l,h=>by
  by_cases hc:a=c
  ·rw [i5 hc]at h ⊢
   obtain⟨rest,h1,h2,h3⟩:=iy c n l (by simpa using h);refine⟨rest,?_,?_,ad9 h3⟩
   ·rw [pk hc,h1];rfl
   ·rw [h2];rfl
  ·obtain⟨p,ps,e⟩:=qo c l
   rw [gJ hc e]at h ⊢;obtain⟨rest,h1,h2,h3⟩:=iy c (n+1) l (by rw [e];simpa using h);rw [e]at h1 h2;exact⟨rest,lP hc h1,h2,ad9 h3⟩
theorem nF{xs ys:List Str}(h:xs.map (fun z=>z.cps.toList)=ys.map (fun z=>z.cps.toList)):xs=ys:=by
 refine List.map_inj_right (f:=fun z:Str=>z.cps.toList) (fun a b e=>str_iff.mpr e) |>.mp h
theorem da(z:Str):(b0 z).map (fun y=>y.cps.toList)=cZ 32 z.cps.toList:=cx z (by decide)
theorem lB{z:Str}(h:(b0 z).length≤3):cM z 32 3=b0 z:=by
 refine nF ?_;rw [d6,da,jX];rw [←da,aa1];exact h
theorem jE{z:Str}(h:3 < (b0 z).length):∃rest,cM z 32 3=(b0 z).take 3++[rest]∧b0 rest=(b0 z).drop 3∧rest.length≤z.length:=by
 obtain⟨rest,h1,h2,h3⟩:=iy 32 3 z.cps.toList (by rw [←da,aa1];exact h);refine⟨⟨rest.toArray⟩,nF ?_,nF ?_,?_⟩
 ·rw [d6,h1,ac9,ad5,da]
  rfl
 ·rw [da,List.map_drop,da]
  exact h2
 ·rw [az,az]
  exact h3
def qQ(ws:List Str)(nv:Int):Option Int:=
 match ws with
 | _::a::b::k::r=>if f9 a=true∧f9 b=true∧(0≤bu b∧bu b < bu a)∧(k=Str.ofString "span"∨k=Str.ofString "clock")∧gL (k::r) nv≠none then some (bu a)else none
 | _=>none
def yN(P:Program)(w:World)(K:Frag)(mg:Str→Option Value)(base:Heap)(aM CR:Addr):Sp:=fun vs H Q _=>∃(row:Str) (nv:Int) (D:List (Str×V)),vs=[.str row,.int nv]∧row.length≤9000∧b6 32 row.cps.toList 0≠[]∧gR K aM D∧gN P w K mg base CR D∧
 (qQ (b0 row) nv=none→∀H',aw H H'→Q .non H')∧∀sz,qQ (b0 row) nv=some sz→∀r H',aw H H'→br P w K mg base CR row sz r H'→Q (.ref r) H'
theorem fX{w0 a b k:Str}{r:List Str}{nv:Int}(h:¬(f9 a=true∧f9 b=true∧(0≤bu b∧bu b < bu a)∧(k=Str.ofString "span"∨k=Str.ofString "clock")∧gL (k::r) nv≠none)):qQ (w0::a::b::k::r) nv=none:=if_neg h
theorem qR{w0 a b k:Str}{r:List Str}{nv:Int}(h:f9 a=true∧f9 b=true∧(0≤bu b∧bu b < bu a)∧(k=Str.ofString "span"∨k=Str.ofString "clock")∧gL (k::r) nv≠none):qQ (w0::a::b::k::r) nv=some (bu a):=if_pos h
section
variable {P:Program} {w:World} {K:Frag} {mg:Str→Option Value} {base:Heap} {aM:Addr}
theorem tY{C CR r ri:Addr}{row:Str}{t u:Int}{H:Hp}{dx:Addr}(TC:gm K C)(h1:aN P w K mg base C "size" 7 ["self"] (iw (iU C row t u fun _ _=>True) (.int t)))(h2:aN P w K mg base C "shown" 7 ["self"] (bz K))(kt:dF K C CR)
  (h:H r=some (.ins C dx (cJ row t u ri))):br P w K mg base CR row t r H:=by
 refine fO (RI:=iU C row t u fun _ _=>True) (fun r H H' s h=>?_) (fun r H h=>?_) TC.cl TC.n1 h1 h2 kt ⟨dx,ri,h,trivial⟩
 ·obtain⟨dx,n,e1,e2⟩:=h
  exact⟨dx,n,s _ _ e1,e2⟩
 ·obtain⟨dx,n,e1,_⟩:=h
  refine⟨dx,_,e1,?_,?_,?_⟩<;>(unfold cJ;walk_at "flds")
theorem km{f C CR aI:Addr}{fd:FuncData}(F:cj K "every_rule" "every_rule" eA f fd)(T:zg mg aM aI)(hI:s9 K aI [.str "span",.str "clock"])(D_is_number:bW P w K mg base "is_number" 8 ["word"] rh)(D_plain_rule:bW P w K mg base "plain_rule" 8 ["row","voices"] (xb P w K mg base aM CR))(DM_Every:b7 P w K mg base "Every" C 7 ["self","row","turns","turn","inner"] (fk K C))
  (EI:∀(row:Str) (t u:Int) (r ri dx:Addr) (H:Hp),H r=some (.ins C dx (cJ row t u ri))→br P w K mg base CR row t r H):aC P w K mg base bC 9 f fd ["row","voices"] (yN P w K mg base aM CR):=by
 refine F.ok sc_every_rule (fun vs H Q E h=>?_) (fun cdv A outer s H vs Q E hr h=>?_)
 ·obtain⟨row,nv,D,rfl,_⟩:=h
  rfl
 obtain⟨row,nv,D,rfl,hz,hpo,tab,M,kn,ks⟩:=h
 refine⟨_,(ag (aL (i:=2) sc_every_rule.nd rfl (Or.inl rfl) (cy K PySem.F.plainAttrs_str PySem.F.slot_str_split PySem.F.type_str_split sj (pr 0) (aa aD (aa ae ah))))
 (ag (aO (PW.pt (aW (aT (ao qW (aA (aY K) (by rfl) T.n_len boot_len (aa (pr 2) ah)) ae (au _))) (aW (aV (aE (aB D_is_number hr (by rfl) (aa (aK (aZ K) (pr 2) ae (fun _ _=>rfl)) ah)) (fun _=>rfl))) (bc (aV (aE (aB D_is_number hr (by rfl) (aa (aK (aZ K) (pr 2) ae (fun _ _=>rfl)) ah)) (fun _=>rfl))))))) (ai (ak aP)) av)
 (ag (aL (i:=3) sc_every_rule.nd rfl (Or.inl rfl) (ba (dU) (by rfl) T.n_int boot_int (aa (aK (aZ K) (pr 2) ae (fun _ _=>rfl)) ah)))
 (ag (aL (i:=4) sc_every_rule.nd rfl (Or.inl rfl) (ba (dU) (by rfl) T.n_int boot_int (aa (aK (aZ K) (pr 2) ae (fun _ _=>rfl)) ah)))
 (ag (aO (PW.pt (aW (aV (aT (uW (o0 oO) (o0 eR) ae (pr 4) (pr 3)))) (bc (aT (ao (oM K) (aK (aZ K) (cy K PySem.F.plainAttrs_str PySem.F.slot_str_split PySem.F.type_str_split jz (aK (aZ K) (pr 2) ae (fun _ _=>rfl)) (aa aD ah)) ae (fun _ _=>rfl)) (d8 T.g_INNER_KINDS) (by with_unfolding_all rfl)))))) (ai (ak aP)) av)
 (ag (aL (i:=5) sc_every_rule.nd rfl (Or.inl rfl) (aB D_plain_rule hr (by rfl) (aa (aK (aZ K) (pr 2) ae (fun _ _=>rfl)) (aa (pr 1) ah))))
 (ai (ak (jF (aT (ao e7 (pr 5) aP (au _))) aP (cz DM_Every hr (by rfl) (aa (pr 0) (aa (pr 3) (aa (pr 4) (aa (pr 5) ah)))))))))))))),?_⟩
 have hs:sizeLine=16777216:=sizeLine_eq;have hwl:=qA row
 have hpl:(cM row 32 3).length≤10000:=by
  by_cases h:(b0 row).length≤3
  ·rw [lB h];omega
  ·obtain⟨rest,e,_⟩:=jE (Nat.lt_of_not_le h)
   rw [e];simp;omega
 refine bq (fun σ H'=>∃p:Addr,H' p=some (.lst ((cM row 32 3).map V.str))∧σ=[some (.str row),some (.int nv),some (.ref p),none,none,none]∧aw H H') ?_ ?_
 ·intro u' hu
  walk_at "rd";refine⟨32,by decide +kernel,by decide,by decide,by decide,hpo,by omega,?_,fun p hp=>?_⟩
  ·rw [show Int.toNat 3=3 from rfl];omega
  ·rw [show Int.toNat 3=3 from rfl]
   exact hu _ _ ⟨p,af,rfl,aH hp⟩
 rintro _ H0 ⟨p,hp0,rfl,s0⟩
 by_cases hw4:(b0 row).length≤3
 ·rw [lB hw4]at hp0
  refine cK fun A0 B0 hA hB=>?_;walk_at "rd";refine⟨_,.inl (bf.of hp0),?_⟩;rw [aa1,if_neg (show ¬(((b0 row).length:Nat):Int)=4 by omega)];refine hA _ ?_;walk_at "rd";refine kn ?_ _ s0
  match h:b0 row,hw4 with
  | [],_=>rfl
  | [_],_=>rfl
  | [_,_],_=>rfl
  | [_,_,_],_=>rfl
 obtain⟨rest,hpe,hrw,hrl⟩:=jE (Nat.lt_of_not_le hw4)
 obtain⟨w0,a,b,kind,r,hW⟩:∃w0 a b kind r,b0 row=w0::a::b::kind::r:=by
  match h:b0 row,hw4 with
  | w0::a::b::kind::r,_=>exact⟨w0,a,b,kind,r,rfl⟩
  | [],hw=>exact absurd (by simp) hw
  | [_],hw=>exact absurd (by simp) hw
  | [_,_],hw=>exact absurd (by simp) hw
  | [_,_,_],hw=>exact absurd (by simp) hw
 have hwle:∀y∈b0 row,y.length≤9000:=fun y hy=>aa7 (vz hy) hz;rw [hW]at hpe hrw kn ks hwle;replace hpe:cM row 32 3=[w0,a,b,rest]:=hpe;replace hrw:b0 rest=kind::r:=hrw;rw [hpe]at hp0;have a0:bf K H0 p ([w0,a,b,rest].map V.str):=bf.of hp0;have la:a.length≤9000:=hwle a (by simp);have lb:b.length≤9000:=hwle b (by simp);refine cK fun A0 B0 hA hB=>?_
 have bad:∀H1,qQ (w0::a::b::kind::r) nv=none→aw H0 H1→A0 H1:=fun H1 he s1=>hA _ (by
  walk_at "rd"
  exact kn he _ (s0.trans s1))
 walk_at "rd";refine⟨_,.inl a0,?_⟩;walk_at "rd";rw [if_pos (show(((0:Nat)+1+1+1+1:Nat):Int)=4 from rfl)];refine aX a0 (show dG _ ((1:Nat):Int)=_ from aU rfl) ⟨a,rfl,by omega,fun H1 s1=>?_⟩
 cases ha:f9 a with
 | false=>
  rw [show cg a.cps.toList=false from ha];walk_at "rd";exact bad _ (fX (by rw [ha];exact fun z=>aa0 z.1)) s1
 | true=>
 rw [show cg a.cps.toList=true from ha];walk_at "rd";refine aX (s1.seq a0) (show dG _ ((2:Nat):Int)=_ from aU rfl) ⟨b,rfl,by omega,fun H2 s2=>?_⟩
 cases hb:f9 b with
 | false=>
  rw [show cg b.cps.toList=false from hb];walk_at "rd";exact bad _ (fX (by rw [hb];exact fun z=>aa0 z.2.1)) (s1.trans s2)
 | true=>
 rw [show cg b.cps.toList=true from hb];walk_at "rd";refine hB _ ?_;clear bad hA hB;have s3:=s1.trans s2;clear s1 s2;obtain⟨a1,a2⟩:=mI ha;obtain⟨b1,b2⟩:=mI hb;have c0:bf K H2 p ([w0,a,b,rest].map V.str):=s3.seq a0;refine bq (fun σ H'=>σ=[some (.str row),some (.int nv),some (.ref p),some (.int (bu a)),none,none]∧H2=H') ?_ ?_
 ·intro u' hu
  walk_at "rd";refine aX c0 (show dG _ ((1:Nat):Int)=_ from aU rfl) ?_;walk_at "rd";exact⟨bu a,a1,a2,hu _ _ ⟨rfl,rfl⟩⟩
 rintro _ _ ⟨rfl,rfl⟩;refine bq (fun σ H'=>σ=[some (.str row),some (.int nv),some (.ref p),some (.int (bu a)),some (.int (bu b)),none]∧H2=H') ?_ ?_
 ·intro u' hu
  walk_at "rd";refine aX c0 (show dG _ ((2:Nat):Int)=_ from aU rfl) ?_;walk_at "rd";exact⟨bu b,b1,b2,hu _ _ ⟨rfl,rfl⟩⟩
 rintro _ _ ⟨rfl,rfl⟩;refine cK fun A0 B0 hA hB=>?_
 have bad:∀H1,qQ (w0::a::b::kind::r) nv=none→aw H2 H1→A0 H1:=fun H1 he s1=>hA _ (by
  walk_at "rd"
  exact kn he _ ((s0.trans s3).trans s1))
 walk_at "rd"
 by_cases h1:0≤bu b
 rotate_left
 ·rw [if_neg h1]
  exact bad _ (fX (fun z=>h1 z.2.2.1.1)) (aw.refl _)
 rw [if_pos h1]
 by_cases h2:bu b < bu a
 rotate_left
 ·rw [if_neg h2]
  exact bad _ (fX (fun z=>h2 z.2.2.1.2)) (aw.refl _)
 rw [if_pos h2];refine aX c0 (show dG _ ((3:Nat):Int)=_ from aU rfl) ?_;walk_at "rd";refine⟨32,by decide +kernel,by decide,by omega,fun p1 hp1=>?_⟩;rw [show Txt.split rest ⟨#[32]⟩=kind::r from hrw];have s':aw H2 (upd H2 p1 (.lst ((kind::r).map V.str))):=aH hp1;refine aX (bf.of af) (bh rfl) (oW (ws:=[Str.ofString "span",Str.ofString "clock"]) (hI.at _) ⟨_,rfl,?_⟩)
 by_cases h3:kind∈[Str.ofString "span",Str.ofString "clock"]
 rotate_left
 ·rw [decide_eq_false h3,if_pos (by exact rfl)]
  exact bad _ (fX (fun z=>h3 (by rcases z.2.2.2.1 with rfl | rfl<;>simp))) s'
 rw [decide_eq_true h3,if_neg (by exact aa0)];refine hB _ ?_
 have h3':kind=Str.ofString "span"∨kind=Str.ofString "clock":=by simpa using h3
 clear bad hA hB;generalize upd H2 p1 (.lst ((kind::r).map V.str))=H3 at s';have s4:=(s0.trans s3).trans s';have d0:bf K H3 p ([w0,a,b,rest].map V.str):=s'.seq c0;refine bq (fun σ H'=>(gL (kind::r) nv=none∧σ=[some (.str row),some (.int nv),some (.ref p),some (.int (bu a)),some (.int (bu b)),some .non]∧aw H H')∨(gL (kind::r) nv≠none∧∃ri:Addr,σ=[some (.str row),some (.int nv),some (.ref p),some (.int (bu a)),some (.int (bu b)),some (.ref ri)]∧aw H H')) ?_ ?_
 ·intro u' hu
  walk_at "rd";refine aX d0 (show dG _ ((3:Nat):Int)=_ from aU rfl) ?_;refine⟨rest,nv,D,rfl,by omega,tab,M,fun hn H' sm=>?_,fun sz hn ri H' sm R=>?_⟩
  ·rw [hrw]at hn
   exact hu _ _ (.inl ⟨hn,rfl,s4.trans sm⟩)
  ·rw [hrw]at hn
   exact hu _ _ (.inr ⟨(fun z=>by rw [hn]at z;cases z),ri,rfl,s4.trans sm⟩)
 rintro _ H4 (⟨hn,rfl,s5⟩ | ⟨hn,ri,rfl,s5⟩)
 ·walk_at "rd"
  exact kn (fX (fun z=>z.2.2.2.2 hn)) _ s5
 walk_at "rd";show ∀x dx:Addr,_;intro x dx hx hdx hne;have s6:aw H (upd (upd H4 dx (.own x)) x (.ins C dx [])):=(s5.upd hdx).upd (by rw [aj (Ne.symm hne)];exact hx);refine⟨x,dx,ri,row,bu a,bu b,rfl,af,rfl,?_⟩;refine ks (bu a) (qR ⟨ha,hb,⟨h1,h2⟩,h3',hn⟩) x _ (fun c o hc=>?_) (EI row (bu a) (bu b) x ri dx _ af);rw [aj (ar (s5 _ _ hc) hx)];exact s6 _ _ hc
end
theorem iY:typeLookup (.type "ValueError") "row"=pure none:=by rw [typeLookup_type,builtinLookup_eq_fast];kernel_rfl
abbrev yl:List Str:=["__setattr__","__getattribute__","__getattr__","__class__","row"]
theorem lR(z y:Str)(h:Txt.startswith z y=true):∃rest,z.cps.toList=y.cps.toList++rest:=by
 obtain⟨⟨l⟩⟩:=z;obtain⟨⟨m⟩⟩:=y;unfold Txt.startswith at h;rw [StrLaws.subAt_eq]at h;simp [Str.length]at h;exact⟨l.drop m.length,by show l=m++_;conv=>lhs;rw [←List.take_append_drop m.length l,h.2]⟩
def sS(C:Addr)(pl:Int)(H:Hp)(a d:Addr):Prop:=H a=some (XO C d a)∧H d=some (.xd [("row",.int pl)])
def nL(z:Str)(nv:Int):Option Int:=if Txt.startswith z (Str.ofString "every ")=true then qQ (b0 z) nv else gL (b0 z) nv
def sL(P:Program)(w:World)(K:Frag)(mg:Str→Option Value)(base:Heap)(aM CR C:Addr):Sp:=fun vs H Q E=>∃(z:Str) (nv pl:Int) (D:List (Str×V)),vs=[.str z,.int nv,.int pl]∧z.length≤9000∧gR K aM D∧gN P w K mg base CR D∧
 (nL z nv=none→∀a d H',sS C pl H' a d→aw H H'→E (.ref a) (some d) H')∧∀sz,nL z nv=some sz→∀r H',aw H H'→br P w K mg base CR z sz r H'→Q (.ref r) H'
section
variable {P:Program} {w:World} {K:Frag} {mg:Str→Option Value} {base:Heap} {aM:Addr}
theorem sx{f C:Addr}{fd:FuncData}(F:cj K "__init__" "BadRow.__init__" cG f fd)(TX:qE K C f yl):aC P w K mg base bC 1 f fd ["self","row"] (xc C "row"):=by
 refine F.ok gj (fun vs H Q E h=>?_) (fun cdv A outer s H vs Q E hr h=>?_)
 ·obtain⟨a,v,rfl,_⟩:=h
  rfl
 obtain⟨a,v,rfl,ha,k⟩:=h;refine⟨_,(ai (wJ TX (by decide +kernel) (by decide +kernel) iY (pr 0) (pr 1) rfl)),?_⟩;walk_at "rd";simp only [xN];walk_at "rd";exact⟨ha,fun d hd hda=>k d hd hda⟩
theorem t4{x qual:Str}{st:Stmt}{f:Addr}{fd:FuncData}{T:Addr}{N ps:List Str}{k:Nat}{sp:Sp}(F:ma K x qual st f fd T)(S:aF N ps (aq st))(len:∀vs H Q E,sp vs H Q E→vs.length=ps.length)
  (hbody:∀(cdv:Value) (A:Around) (outer:List Env) (s:Shared) (H:Hp) (vs:List V) (Q:VK) (E:XK),b8 k (A.deeper (envOfC qual (aq st) s.heap.objs.size f cdv))→sp vs H Q E→
   ∃t,rF (jf (nN P w) P w K mg base N qual (aq st) f cdv A outer s H E) (bN st) t∧t { nx:=fun _ H'=>Q .non H',rt:=Q } (start N vs) H):aC P w K mg base (nN P w) (k+1) f fd ps sp:=by
 obtain⟨oc,od,kV,doc,pm,an,cdv,ct,osl,rfl,lk,hcd⟩:=F.ex;exact xA lk hcd S len fun A outer s H vs Q E hr hsp=>hbody cdv A outer s H vs Q E hr hsp
theorem rV{z:Str}(h:Txt.startswith z (Str.ofString "every ")=true):b6 32 z.cps.toList 0≠[]:=by
 obtain⟨rest,e⟩:=lR _ _ h;rw [e,show(Str.ofString "every ").cps.toList=(Str.ofString "every").cps.toList++[32]by decide +kernel,af3];exact jG 32 _ _ 0
theorem mU{f C CR T0:Addr}{fd:FuncData}(F:ma K "read_rule" "read_rule" fj f fd T0)(T:Txt mg aM)(D_plain_rule:bW P w K mg base "plain_rule" 9 ["row","voices"] (xb P w K mg base aM CR))(D_every_rule:bW P w K mg base "every_rule" 9 ["row","voices"] (yN P w K mg base aM CR))(DE_BadRow:rE P w K mg base "BadRow" C 8 ["self","row"] (xc C "row") yl):aC P w K mg base (nN P w) 10 f fd ["text","voices","row"] (sL P w K mg base aM CR C):=by
 refine t4 F sc_read_rule (fun vs H Q E h=>?_) (fun cdv A outer s H vs Q E hr h=>?_)
 ·obtain⟨z,nv,pl,D,rfl,_⟩:=h
  rfl
 obtain⟨z,nv,pl,D,rfl,hz,tab,M,ke,ks⟩:=h
 refine⟨_,(ag (aL (i:=3) sc_read_rule.nd rfl (Or.inl rfl) (jF (aE (cy K PySem.F.plainAttrs_str PySem.F.slot_str_startswith PySem.F.type_str_startswith fP (pr 0) (aa aD ah)) (fun _=>rfl)) (aB D_every_rule hr (by rfl) (aa (pr 0) (aa (pr 1) ah))) (aB D_plain_rule hr (by rfl) (aa (pr 0) (aa (pr 1) ah)))))
 (ag (aO (aT (ao e7 (pr 3) aP (au _))) (ai (sE DE_BadRow rfl hr (by rfl) (fun _ _=>uA) (aa (pr 2) ah))) av)
 (ai (ak (pr 3))))),?_⟩
 have hs:sizeLine=16777216:=sizeLine_eq;refine bq (fun σ H'=>(nL z nv=none∧σ=[some (.str z),some (.int nv),some (.int pl),some .non]∧aw H H')∨∃sz r,nL z nv=some sz∧br P w K mg base CR z sz r H'∧σ=[some (.str z),some (.int nv),some (.int pl),some (.ref r)]∧aw H H') ?_ ?_
 ·intro u' hu
  walk_at "rd"
  cases he:Txt.startswith z (Str.ofString "every ")with
  | true=>
   have er:nL z nv=qQ (b0 z) nv:=if_pos he;rw [er]at hu
   first | rw [if_pos rfl] | skip
   exact⟨z,nv,D,rfl,hz,rV he,tab,M,fun hn H' s'=>hu _ _ (.inl ⟨hn,rfl,s'⟩),fun sz hn r H' s' R=>hu _ _ (.inr ⟨sz,r,hn,R,rfl,s'⟩)⟩
  | false=>
   have er:nL z nv=gL (b0 z) nv:=if_neg (by rw [he];exact aa0);rw [er]at hu
   first | rw [if_neg aa0] | skip
   exact⟨z,nv,D,rfl,hz,tab,M,fun hn H' s'=>hu _ _ (.inl ⟨hn,rfl,s'⟩),fun sz hn r H' s' R=>hu _ _ (.inr ⟨sz,r,hn,R,rfl,s'⟩)⟩
 rintro _ H1 (⟨hn,rfl,s1⟩ | ⟨sz,r,hn,R,rfl,s1⟩)
 ·refine cK fun A0 B0 hA hB=>?_
  walk_at "rd";refine hA _ ?_;simp only [jY,qv];walk_at "rd";refine⟨by omega,fun a ha=>⟨a,.int pl,rfl,af,fun d hd hda=>⟨rfl,d,by rw [aj (Ne.symm hda)];exact af,_,af,?_⟩⟩⟩
  have had:H1 d=none:=by
   rw [aj hda]at hd;exact hd
  refine ke hn a d _ ⟨af,by rw [aj hda,af]⟩ fun c o hc=>?_;have ca:c≠a:=ar (s1 _ _ hc) ha;have cd:c≠d:=ar (s1 _ _ hc) had;rw [aj ca,aj cd,aj ca,aj ca];exact s1 _ _ hc
 ·refine cK fun A0 B0 hA hB=>?_
  walk_at "rd";refine hB _ ?_;walk_at "rd";exact ks sz hn r _ s1 R
end
def fR(ns:List Int)(p:Int):Int:=ns.getD p.toNat 0
def jV(K:Frag):Sp:=fun vs H Q _=>∃(a:Addr) (ns:List Int) (p:Int),vs=[.ref a,.int p]∧bf K H a (ns.map V.int)∧0≤p∧∀H',aw H H'→Q (.int (fR ns p)) H'
def eZ(z:Str):V:=if cg z.cps.toList=true then .int ((intText? z).getD 0)else .non
def nr:Sp:=fun vs H Q _=>∃z,vs=[.str z]∧z.length≤10000∧∀H',aw H H'→Q (eZ z) H'
def cv(z:Str):Option Str:=
 if z=Str.ofString "span"∨z=Str.ofString "alike" then some (Str.ofString "vv")else if z=Str.ofString "clock" then some (Str.ofString "vvm")else if z=Str.ofString "move"∨z=Str.ofString "begin"∨z=Str.ofString "close" then some (Str.ofString "v")
 else if z=Str.ofString "back" then some (Str.ofString "vn")else if z=Str.ofString "held" then some (Str.ofString "vm")else if z=Str.ofString "times" then some (Str.ofString "vann")else none
def uM:Option Str→V
 | none=>.non
 | some z=>.str z
def i4:Sp:=fun vs H Q _=>∃z,vs=[.str z]∧Q (uM (cv z)) H
section
variable {P:Program} {w:World} {K:Frag} {mg:Str→Option Value} {base:Heap} {aM:Addr}
theorem wu{f:Addr}{fd:FuncData}(F:cj K "_law_pick" "_law_pick" gg f fd)(T:Txt mg aM):aC P w K mg base bC 1 f fd ["_law_script","_law_at"] (jV K):=by
 refine F.ok sc_law_pick (fun vs H Q E h=>?_) (fun cdv A outer s H vs Q E hr h=>?_)
 ·obtain⟨a,ns,p,rfl,_⟩:=h
  rfl
 obtain⟨a,ns,p,rfl,hS,hp0,k⟩:=h
 refine⟨_,(ag (jH PassesOwn.never rfl (d9 K (ax (bF K) (pr 0) (bD (pr 1)) (bD (ay (cb K) (pr 1) ae)))) (cC (i:=2) sc_law_pick.nd rfl (Or.inl rfl))
 (ai (ak (pr 2))))
 (ai (ak ae))),?_⟩
 walk_at "rd";refine bj hS fun q hq=>?_;show wU _ _ _ _;rw [tI _ hp0,ac5]
 cases hc:ns[p.toNat]? with
 | none=>
  refine fG (bf.of af) (se (bf.of af) ?_);walk_at "rd"
  have e:fR ns p=0:=by unfold fR;simp [List.getD,hc]
  rw [←e];exact k _ (aH hq)
 | some c=>
  have e:fR ns p=c:=by unfold fR;simp [List.getD,hc]
  refine fG (bf.of af) (sd (xs:=[.int c]) (fun i σ H'=>i=0∧σ=[some (.ref a),some (.int p),none]∧H'=upd H q (.lst [.int c])) ⟨rfl,rfl,rfl⟩ (fun i σ H' _ h=>by rw [h.2.2];exact bf.of af) ?_ (fun σ H' h=>by cases h.1));rintro i x σ H' hx ⟨rfl,rfl,rfl⟩;cases hx;walk_at "rd";rw [←e];exact k _ (aH hq)
theorem wt{f:Addr}{fd:FuncData}(F:cj K "_law_number" "_law_number" eB f fd)(T:Txt mg aM):aC P w K mg base bC 1 f fd ["_law_word"] nr:=by
 refine F.ok sc_law_number (fun vs H Q E h=>?_) (fun cdv A outer s H vs Q E hr h=>?_)
 ·obtain⟨z,rfl,_⟩:=h
  rfl
 obtain⟨z,rfl,hz,k⟩:=h
 refine⟨_,(ag (aL (i:=1) sc_law_number.nd rfl (Or.inl rfl) (pr 0))
 (ag (aO (aT (ao eQ (ax (bF K) (pr 0) aG (bD ae)) aD (au _))) (ai (aL (i:=1) sc_law_number.nd rfl (Or.inl rfl) (ax (bF K) (pr 0) (bD ae) aG))) av)
 (ag (aO (PW.pt (aW (aT (ao (o0 eR) (aA (aY K) (by rfl) T.n_len boot_len (aa (pr 1) ah)) ae (au _))) (bc (aT (ao (o0 oN) (aA (aY K) (by rfl) T.n_len boot_len (aa (pr 1) ah)) ae (au _)))))) (ai (ak aP)) av)
 (ag (jH PassesOwn.never rfl (d9 K (pr 1)) (cC (i:=2) sc_law_number.nd rfl (Or.inl rfl))
 (ai (aO (aT (ao (oM K) (pr 2) aD (by with_unfolding_all rfl))) (ai (ak aP)) av)))
 (ag (aO (PW.pt (mZ (aT (ao eQ (aK (aZ K) (pr 1) ae (fun _ _=>rfl)) aD (au _))) (i0 (aT (ao qW (pr 0) aD (au _)))))) (ai (ak aP)) av)
 (ai (ak (ba (dU) (by rfl) T.n_int boot_int (aa (pr 0) ah))))))))),?_⟩
 have hs:sizeLine=16777216:=sizeLine_eq
 have c45:(Str.ofString "-").cps.toList=[45]:=by decide +kernel
 have c48:(Str.ofString "0").cps.toList=[48]:=by decide +kernel
 have cF:(Str.ofString "0123456789").cps.toList=[48,49,50,51,52,53,54,55,56,57]:=by decide +kernel
 have kF:cg z.cps.toList=false→Q .non H:=fun e=>by
  have:=k H (aw.refl H)
  unfold eZ at this;rw [if_neg (by rw [e];exact aa0)]at this;exact this
 refine zm (fun σ H'=>σ=[some (.str z),some (.str z),none]∧H=H') ?_ (by intro u' hu;walk_at "rd";exact hu _ _ ⟨rfl,rfl⟩);rintro _ _ ⟨rfl,rfl⟩;refine bq (fun σ H'=>∃y,σ=[some (.str z),some (.str y),none]∧H=H'∧y.cps.toList=bX z.cps.toList) ?_ ?_
 ·intro u' hu
  walk_at "rd";refine⟨by omega,?_⟩;have e1:(Txt.slice z none (some 1)).cps.toList=z.cps.toList.take 1:=jS (by decide)
  by_cases hm:Txt.slice z none (some 1)=Str.ofString "-"
  ·rw [if_pos hm]
   refine⟨by omega,hu _ _ ⟨_,rfl,rfl,?_⟩⟩;rw [eF (by decide)];rw [hm,c45]at e1;unfold bX
   cases hh:z.cps.toList with
   | nil=>rw [hh]at e1;cases e1
   | cons a l=>
    rw [hh]at e1
    have:a=45:=by simpa using e1.symm
    subst this;rfl
  ·rw [if_neg hm]
   refine hu _ _ ⟨z,rfl,rfl,?_⟩;unfold bX;rw [if_neg fun e=>hm (str_iff.mpr ?_)];rw [e1,c45]
   cases hh:z.cps.toList with
   | nil=>rw [hh]at e;cases e
   | cons a l=>rw [hh]at e;cases e;rfl
 rintro _ _ ⟨y,rfl,rfl,hy⟩
 have hyl:y.length≤10000:=by
  rw [az,hy];rw [az]at hz;refine aa7 ?_ hz;unfold bX
  split
  ·rw [List.length_tail];omega
  ·exact aa3 _
 have ly:y.length=(bX z.cps.toList).length:=by rw [az,hy]
 refine bq (fun σ H'=>1≤y.length∧y.length≤40∧σ=[some (.str z),some (.str y),none]∧H=H') ?_ ?_
 ·intro u' hu
  walk_at "rd";refine⟨by omega,?_⟩
  by_cases h1:(y.length:Int) < 1
  ·rw [if_pos h1]
   refine kF ?_;unfold cg;rw [decide_eq_false (show ¬(1≤(bX z.cps.toList).length)by omega),ag9]
  rw [if_neg h1];refine⟨by omega,?_⟩
  by_cases h2:(40:Int) < y.length
  ·rw [if_pos h2]
   refine kF ?_;unfold cg;rw [decide_eq_false (show ¬((bX z.cps.toList).length≤40)by omega),ag9,Bool.and_false]
  rw [if_neg h2];exact hu _ _ ⟨by omega,by omega,rfl,rfl⟩
 rintro _ _ ⟨y1,y40,rfl,rfl⟩;refine bq (fun σ H'=>∃o,σ=[some (.str z),some (.str y),o]∧H=H'∧eO y.cps.toList=true) ?_ ?_
 ·intro u' hu
  walk_at "rd";refine q9 (uC (fun i σ H'=>∃o,σ=[some (.str z),some (.str y),o]∧H=H'∧eO (y.cps.toList.take i)=true) ⟨none,rfl,rfl,rfl⟩ ?_ ?_)
  ·rintro i c σ H1 hc ⟨o,rfl,rfl,hd⟩
   walk_at "rd";rw [cF]
   have et:y.cps.toList.take (i+1)=y.cps.toList.take i++[c]:=by
    rw [ad7,hc];rfl
   split
   ·rename_i hin
    rw [et];unfold eO at hd ⊢;rw [aj6,hd];simpa using hin
   ·rename_i hin
    refine kF (oq _ ?_);rw [←hy];unfold eO;rw [List.all_eq_false];exact⟨c,ac7 hc,by simpa using hin⟩
  ·rintro σ H1 ⟨o,rfl,rfl,hd⟩
   rw [az,ae8]at hd;exact hu _ _ ⟨o,rfl,rfl,hd⟩
 rintro _ _ ⟨o,rfl,rfl,hd⟩
 have hn:cg z.cps.toList=(decide ((bX z.cps.toList).head?≠some 48) || decide (z.cps.toList=[48])):=by
  unfold cg;rw [decide_eq_true (show 1≤(bX z.cps.toList).length by omega),decide_eq_true (show(bX z.cps.toList).length≤40 by omega),←hy,hd];rfl
 obtain⟨a,l,hal⟩:∃a l,y.cps.toList=a::l:=by
  cases hh:y.cps.toList with
  | nil=>rw [az,hh]at y1;exact absurd y1 (by decide)
  | cons a l=>exact⟨a,l,rfl⟩
 refine bq (fun σ H'=>cg z.cps.toList=true∧σ=[some (.str z),some (.str y),o]∧H=H') ?_ ?_
 ·intro u' hu
  walk_at "rd";refine⟨by omega,a,by rw [hal];exact bh rfl,?_⟩;rw [←hy,hal]at hn
  by_cases ha:a=48
  ·subst ha
   rw [if_pos (str_iff.mpr (by rw [c48]))]
   by_cases hz0:z=Str.ofString "0"
   ·rw [if_pos hz0]
    exact hu _ _ ⟨by rw [hn,decide_eq_true (show z.cps.toList=[48]by rw [hz0,c48]),ah2],rfl,rfl⟩
   ·rw [if_neg hz0]
    refine kF ?_;rw [hn,decide_eq_false (show ¬(z.cps.toList=[48])from fun e=>hz0 (str_iff.mpr (by rw [e,c48]))),Bool.or_false];exact decide_eq_false fun h=>h rfl
  ·rw [if_neg fun e=>ha (by have:=str_iff.mp e;rw [c48]at this;simpa using this)]
   refine hu _ _ ⟨?_,rfl,rfl⟩;rw [hn,decide_eq_true (show(a::l).head?≠some 48 from fun e=>ha (Option.some.inj e)),Bool.true_or]
 rintro _ _ ⟨hnum,rfl,rfl⟩;walk_at "rd";obtain⟨n,e,hl⟩:=ll hnum;have hk:=k H (aw.refl H);unfold eZ at hk;rw [if_pos hnum,e]at hk;exact⟨n,e,hl,hk⟩
theorem uI{f:Addr}{fd:FuncData}(F:cj K "_law_kinds" "_law_kinds" fg f fd)(T:Txt mg aM):aC P w K mg base bC 1 f fd ["_law_word"] i4:=by
 refine F.ok nj (fun vs H Q E h=>?_) (fun cdv A outer s H vs Q E hr h=>?_)
 ·obtain⟨z,rfl,_⟩:=h
  rfl
 obtain⟨z,rfl,k⟩:=h
 refine⟨_,(ag (aO (PW.pt (aW (aT (ao eQ (pr 0) aD (au _))) (bc (aT (ao eQ (pr 0) aD (au _)))))) (ai (ak aD)) av)
 (ag (aO (aT (ao eQ (pr 0) aD (au _))) (ai (ak aD)) av)
 (ag (aO (PW.pt (aW (aT (ao eQ (pr 0) aD (au _))) (aW (aT (ao eQ (pr 0) aD (au _))) (bc (aT (ao eQ (pr 0) aD (au _))))))) (ai (ak aD)) av)
 (ag (aO (aT (ao eQ (pr 0) aD (au _))) (ai (ak aD)) av)
 (ag (aO (aT (ao eQ (pr 0) aD (au _))) (ai (ak aD)) av)
 (ag (aO (aT (ao eQ (pr 0) aD (au _))) (ai (ak aD)) av)
 (ai (ak aP)))))))),?_⟩
 unfold cv at k;walk_at "rd"
 repeat' split
 all_goals first
  | exact k
  | (simp_all [uM];done)
end
def ib:Option Int→V
 | none=>.non
 | some i=>.int i
def jT(K:Frag):Sp:=fun vs H Q _=>∃(a:Addr) (k:Str) (ws:List Str) (nv:Int),vs=[.ref a,.int nv]∧bf K H a ((k::ws).map V.str)∧ws.length≤10000∧(∀y∈ws,y.length≤9000)∧∀H',aw H H'→Q (ib (gL (k::ws) nv)) H'
def p5(c:Nat)(n nv:Int):Bool:=if c=118 then pB nv n else if c=109 then decide (1≤n)else if c=110 then decide (0≤n)else true
def mE(c:Nat)(n:Int):Int:=if c=118 then 1 else if c=109 then 1 else if c=110 then 0 else n
def dY(cs:List Nat)(ns:List Int)(nv:Int)(j:Nat):Bool:=(List.range j).all fun i=>p5 (cs.getD i 0) (ns.getD i 0) nv
def bS(k:Str):Bool:=decide (k=Str.ofString "back") || (decide (k=Str.ofString "held") || decide (k=Str.ofString "times"))
def d4(k:Str)(ns:List Int):Int:=if k=Str.ofString "back" then 3 else if k=Str.ofString "held" then ns.getD 1 0 else ns.getD (ns.length - 1) 0+1
def pV(k:Str)(sg:Str)(nv:Int)(ns:List Int):Option Int:=
 if ns.length < sg.length then none else if dY sg.cps.toList ns nv sg.length=false then none
 else if bS k=true then(if ns.length > sg.length then none else some (d4 k ns))else if ns.length < sg.length+1∨ns.length > sg.length+12 then none else some 1
theorem oo:∀ws:List Str,yZ .non (ws.map eZ)=!(ws.all f9)
 | []=>rfl
 | z::ws=>by
  have ih:=oo ws
  cases hz:f9 z with
  | true=>
   have e:eZ z=.int ((intText? z).getD 0):=if_pos hz;rw [ac1,e,ac6,hz,Bool.true_and,←ih];rfl
  | false=>
   have e:eZ z=.non:=if_neg (by rw [show cg z.cps.toList=false from hz];exact aa0);rw [ac1,e,ac6,hz];rfl
theorem sr(ws:List Str):(ws.map eZ).all dt=true:=by
 rw [ah0,ae7];intro z _;show dt (eZ z)=true;unfold eZ
 split<;>rfl
theorem su{ws:List Str}(h:ws.all f9=true):ws.map eZ=(ws.map bu).map V.int:=by
 rw [List.map_map];refine List.map_congr_left fun z hz=>?_;exact if_pos (ae7.mp h z hz)
theorem sP(cs:List Nat)(ns:List Int)(nv:Int)(i:Nat):dY cs ns nv (i+1)=(dY cs ns nv i && p5 (cs.getD i 0) (ns.getD i 0) nv):=by
 unfold dY;rw [List.range_succ,aj6];simp
theorem vw{cs:List Nat}{ns:List Int}{nv:Int}{i m:Nat}(h:i < m)(e:p5 (cs.getD i 0) (ns.getD i 0) nv=false):dY cs ns nv m=false:=by
 unfold dY;rw [List.all_eq_false];exact⟨i,List.mem_range.mpr h,by rw [e];exact aa0⟩
theorem uz{c:Nat}{n:Int}(h:c=118∨c=109∨c=110∨c=97):∃j:Nat,[Str.ofString "v",Str.ofString "m",Str.ofString "n",Str.ofString "a"][j]?=some ⟨#[c]⟩∧[V.int 1,V.int 1,V.int 0,V.int n][j]?=some (.int (mE c n)):=by
 rcases h with rfl | rfl | rfl | rfl
 ·exact⟨0,by decide +kernel,rfl⟩
 ·exact⟨1,by decide +kernel,rfl⟩
 ·exact⟨2,by decide +kernel,rfl⟩
 ·exact⟨3,by decide +kernel,rfl⟩
theorem iZ{c:Nat}{n nv:Int}(h:c=118∨c=109∨c=110∨c=97):p5 c n nv=true↔¬n < mE c n∧(c=118→n≤nv):=by
 rcases h with rfl | rfl | rfl | rfl<;>simp [p5,mE,pB]
theorem sI{k:Str}{x y:Int}(h:bS k=true):∃j:Nat,[Str.ofString "back",Str.ofString "held",Str.ofString "times"][j]?=some k∧[V.int 3,V.int x,V.int y][j]?=some (.int (if k=Str.ofString "back" then 3 else if k=Str.ofString "held" then x else y)):=by
 unfold bS at h;rw [ag7,ag7,decide_eq_true_eq,decide_eq_true_eq,decide_eq_true_eq]at h;rcases h with rfl | rfl | rfl
 ·exact⟨0,rfl,by rw [if_pos rfl];rfl⟩
 ·exact⟨1,rfl,by rw [if_neg (by decide +kernel),if_pos rfl];rfl⟩
 ·exact⟨2,rfl,by rw [if_neg (by decide +kernel),if_neg (by decide +kernel)];rfl⟩
theorem sign_v{c:Nat}:(⟨#[c]⟩:Str)=Str.ofString "v"↔c=118:=by
 rw [str_iff,show(Str.ofString "v").cps.toList=[118]by decide +kernel];simp
section
variable {P:Program} {w:World} {K:Frag} {mg:Str→Option Value} {base:Heap} {aM:Addr}
theorem sy{f:Addr}{fd:FuncData}(F:cj K "_law_plain" "_law_plain" fi f fd)(T:Txt mg aM)(D_law_number:bW P w K mg base "_law_number" 2 ["_law_word"] nr)(D_law_kinds:bW P w K mg base "_law_kinds" 2 ["_law_word"] i4)
  (t9:∀k,cv k=none→eP k=none) (v3:∀k sg,cv k=some sg→sg.length≤4∧1≤sg.length∧(∀c∈sg.cps.toList,c=118∨c=109∨c=110∨c=97)∧(bS k=true→2≤sg.length)∧∃mk,eP k=some mk∧∀nv ns,mk nv ns=pV k sg nv ns):aC P w K mg base bC 3 f fd ["_law_words","_law_voices"] (jT K):=by
 refine F.ok sc_law_plain (fun vs H Q E h=>?_) (fun cdv A outer s H vs Q E hr h=>?_)
 ·obtain⟨a,k,ws,nv,rfl,_⟩:=h
  rfl
 obtain⟨a,k,ws,nv,rfl,ha,hl,hw,kq⟩:=h
 refine⟨_,(ag (aL (i:=2) sc_law_plain.nd rfl (Or.inl rfl) (aB D_law_kinds hr (by rfl) (aa (aK (aZ K) (pr 0) ae (fun _ _=>rfl)) ah)))
 (ag (aO (aT (ao e7 (pr 2) aP (au _))) (ai (ak aP)) av)
 (ag (qh (i:=3) sc_law_plain.nd rfl (Or.inl rfl) (own:=["_law_word"]) (js:=[]) rfl (d9 K (ax (bF K) (pr 0) (bD ae) aG)) (bP.of (by rfl)) (fun _ _ _ _ _=>(cC (i:=0) (show List.Nodup (["_law_word"]:List Str)from by decide +kernel) rfl (Or.inl rfl))) (fun _ _ _ _ _=>fF) (fun _ _ _ _ _=>(aB D_law_number hr (by rfl) (aa (pr 0) ah))) rfl)
 (ag (aO (PW.pt (aW (aT (ao (uL K) aP (pr 3) (by with_unfolding_all rfl))) (bc (aT (ao (o0 eR) (aA (aY K) (by rfl) T.n_len boot_len (aa (pr 3) ah)) (aA (aY K) (by rfl) T.n_len boot_len (aa (pr 2) ah)) (au _)))))) (ai (ak aP)) av)
 (ag (jH PassesOwn.never rfl (fE rfl T.n_range (aa (aA (aY K) (by rfl) T.n_len boot_len (aa (pr 2) ah)) ah)) (cC (i:=4) sc_law_plain.nd rfl (Or.inl rfl))
 (ag (aL (i:=5) sc_law_plain.nd rfl (Or.inl rfl) (uQ (d7 (k:="v") ae (d7 (k:="m") ae (d7 (k:="n") ae (d7 (k:="a") (aK (aZ K) (pr 3) (pr 4) (fun _ _=>rfl)) uN)))) (aK (aZ K) (pr 2) (pr 4) (fun _ _=>rfl)) (fun _ _=>rfl)))
 (ai (aO (PW.pt (aW (aT (ao (o0 eR) (aK (aZ K) (pr 3) (pr 4) (fun _ _=>rfl)) (pr 5) (au _))) (bc (PW.pt (mZ (aT (ao eQ (aK (aZ K) (pr 2) (pr 4) (fun _ _=>rfl)) aD (au _))) (i0 (aT (ao (o0 oN) (aK (aZ K) (pr 3) (pr 4) (fun _ _=>rfl)) (pr 1) (au _))))))))) (ai (ak aP)) av))))
 (ag (aL (i:=6) sc_law_plain.nd rfl (Or.inl rfl) (ay (o0 e9) (aA (aY K) (by rfl) T.n_len boot_len (aa (pr 3) ah)) (aA (aY K) (by rfl) T.n_len boot_len (aa (pr 2) ah))))
 (ag (aO (PW.pt (aW (aT (ao eQ (aK (aZ K) (pr 0) ae (fun _ _=>rfl)) aD (au _))) (aW (aT (ao eQ (aK (aZ K) (pr 0) ae (fun _ _=>rfl)) aD (au _))) (bc (aT (ao eQ (aK (aZ K) (pr 0) ae (fun _ _=>rfl)) aD (au _))))))) (ag (aO (aT (ao (o0 oN) (pr 6) ae (au _))) (ai (ak aP)) av)
 (ai (ak (uQ (d7 (k:="back") ae (d7 (k:="held") (aK (aZ K) (pr 3) ae (fun _ _=>rfl)) (d7 (k:="times") (ay (cb K) (aK (aZ K) (pr 3) (xK (u1 vt) ae) (fun _ _=>rfl)) ae) uN))) (aK (aZ K) (pr 0) ae (fun _ _=>rfl)) (fun _ _=>rfl))))) av)
 (ag (aO (PW.pt (aW (aT (ao (o0 eR) (pr 6) ae (au _))) (bc (aT (ao (o0 oN) (pr 6) ae (au _)))))) (ai (ak aP)) av)
 (ai (ak ae)))))))))),?_⟩
 have hs:sizeLine=16777216:=sizeLine_eq;refine bq (fun σ H'=>σ=[some (.ref a),some (.int nv),some (uM (cv k)),none,none,none,none]∧H=H') ?_ ?_
 ·intro u' hu
  walk_at "rd";exact aX ha (bh rfl) ⟨k,rfl,hu _ _ ⟨rfl,rfl⟩⟩
 rintro _ _ ⟨rfl,rfl⟩
 cases hk:cv k with
 | none=>
  refine cK fun A0 B0 hA hB=>?_;simp only [uM];walk_at "rd";refine hA _ ?_;walk_at "rd"
  have:=kq H (aw.refl H)
  rw [show gL (k::ws) nv=none by unfold gL;rw [show(k::ws).headD ⟨#[]⟩=k from rfl,t9 k hk]]at this;exact this
 | some sg=>
 obtain⟨g4,g1,gc,g2,mk,hmk1,hmk2⟩:=v3 k sg hk;simp only [uM];refine bq (fun σ H'=>σ=[some (.ref a),some (.int nv),some (.str sg),none,none,none,none]∧H=H') ?_ ?_
 ·intro u' hu
  walk_at "rd";exact hu _ _ ⟨rfl,rfl⟩
 rintro _ _ ⟨rfl,rfl⟩;refine bq (fun σ H'=>∃p:Addr,H' p=some (.lst (ws.map eZ))∧σ=[some (.ref a),some (.int nv),some (.str sg),some (.ref p),none,none,none]∧aw H H') ?_ ?_
 ·intro u' hu
  walk_at "rd";refine bj ha fun q hq=>?_;rw [show(some (1:Int))=some ((1:Nat):Int)from rfl,bM];show wU _ _ _ _;have s1:aw H (upd H q (.lst (ws.map V.str))):=aH hq;refine fG (xs:=ws.map V.str) (bf.of af) (d2 (xs:=ws.map V.str) (fun i ys H'=>ys=(ws.take i).map eZ∧aw (upd H q (.lst (ws.map V.str))) H') (by rw [aa1];omega) ⟨rfl,aw.refl _⟩ ?_ ?_ ?_ ?_)
  ·rintro i ys H' ⟨rfl,sm⟩
   rw [aa1,ad0];omega
  ·rintro i ys H' ⟨rfl,sm⟩
   exact sm.seq (bf.of af)
  ·rintro i x ys H' hx ⟨rfl,sm⟩
   obtain⟨y,rfl,hy⟩:=qr hx;walk_at "rd";refine⟨y,rfl,aa7 (hw y (ac7 hy)) (by decide),fun H1 s2=>⟨?_,sm.trans s2⟩⟩;rw [ad7,hy,ac9];rfl
  ·rintro ys H1 ⟨rfl,sm⟩ p hp
   rw [aa1,ae8];exact hu _ _ ⟨p,af,rfl,(s1.trans sm).upd hp⟩
 rintro _ H1 ⟨p,hp1,rfl,s1⟩
 have ret:∀v,v=gL (k::ws) nv→∀H',aw H1 H'→Q (ib v) H':=fun v e H' s'=>by rw [e];exact kq H' (s1.trans s')
 have epl:ws.all f9=true→gL (k::ws) nv=pV k sg nv (ws.map bu):=fun h=>by
  unfold gL;rw [show(k::ws).headD ⟨#[]⟩=k from rfl,hmk1];show(if ws.all f9=true then mk nv (ws.map bu)else none)=_;rw [if_pos h,hmk2]
 have eno:ws.all f9=false→gL (k::ws) nv=none:=fun h=>by
  unfold gL;rw [show(k::ws).headD ⟨#[]⟩=k from rfl,hmk1];show(if ws.all f9=true then mk nv (ws.map bu)else none)=_;rw [if_neg (by rw [h];exact aa0)]
 have lsg:sg.length=sg.cps.toList.length:=az sg;refine cK fun A0 B0 hA hB=>?_
 have bad:gL (k::ws) nv=none→A0 H1:=fun e=>hA _ (by
  walk_at "rd"
  exact ret none e.symm _ (aw.refl _))
 walk_at "rd";refine .inr ⟨p,_,rfl,.inl (bf.of hp1),rfl,sr ws,?_⟩;rw [oo]
 cases hall:ws.all f9 with
 | false=>
  walk_at "rd";exact bad (eno hall)
 | true=>
 have epl:=epl hall;clear eno;rw [su hall]at hp1;generalize hns:ws.map bu=ns at epl hp1
 have hnl:ns.length≤10000:=by rw [←hns,aa1];exact hl
 walk_at "rd";refine⟨_,.inl (bf.of hp1),?_⟩;walk_at "rd";refine⟨by omega,?_⟩
 by_cases h1:(ns.length:Int) < sg.length
 ·rw [if_pos h1]
  exact bad (by rw [epl];exact if_pos (by omega))
 rw [if_neg h1];refine hB _ ?_;clear bad hA hB
 have hlen:sg.length≤ns.length:=by omega
 have el1:pV k sg nv ns=if dY sg.cps.toList ns nv sg.length=false then none
   else if bS k=true then(if ns.length > sg.length then none else some (d4 k ns))else if ns.length < sg.length+1∨ns.length > sg.length+12 then none else some 1:=if_neg (by omega)
 rw [el1]at epl;have hp:=bf.of (K:=K) hp1
 have sgn:∀i,i < sg.length→sg.cps.toList[i]?=some (sg.cps.toList.getD i 0):=fun i hi=>by
  rw [ac4,ab8 (by omega)];rfl
 have nat_:∀i,i < sg.length→(ns.map V.int)[i]?=some (.int (ns.getD i 0)):=fun i hi=>hJ (by omega);refine bq (fun σ H'=>∃o4 o5,σ=[some (.ref a),some (.int nv),some (.str sg),some (.ref p),o4,o5,none]∧H1=H'∧dY sg.cps.toList ns nv sg.length=true) ?_ ?_
 ·intro u' hu
  walk_at "rd";refine⟨by omega,by omega,by omega,?_⟩;refine fZ (fun i σ H'=>∃o4 o5,σ=[some (.ref a),some (.int nv),some (.str sg),some (.ref p),o4,o5,none]∧H1=H'∧dY sg.cps.toList ns nv i=true) ⟨none,none,rfl,rfl,rfl⟩ ?_ ?_
  ·rintro i σ H' hi ⟨o4,o5,rfl,rfl,hup⟩
   walk_at "rd";simp only [yR];walk_at "rd";have hg:=gc _ (ac7 (sgn i hi));have hic:dG sg.cps.toList ((i:Nat):Int)=some (sg.cps.toList.getD i 0):=aU (sgn i hi);have hin:dG (ns.map V.int) ((i:Nat):Int)=some (.int (ns.getD i 0)):=aU (nat_ i hi);have bad:p5 (sg.cps.toList.getD i 0) (ns.getD i 0) nv=false→Q .non H1:=fun e=>ret none (epl.trans (if_pos (vw hi e))).symm _ (aw.refl _)
   have good:p5 (sg.cps.toList.getD i 0) (ns.getD i 0) nv=true→dY sg.cps.toList ns nv (i+1)=true:=fun e=>by rw [sP,hup,e];rfl
   generalize sg.cps.toList.getD i 0=c at hg hic bad good;generalize ns.getD i 0=n at hin bad good;obtain⟨j,hj1,hj2⟩:=uz (n:=n) hg;refine aX hp hin ⟨by omega,c,hic,j,hj1,_,hj2,aX hp hin ?_⟩;walk_at "rd"
   by_cases e1:n < mE c n
   ·rw [if_pos e1]
    exact bad (by cases hb:p5 c n nv with
     | false=>rfl
     | true=>exact absurd e1 ((iZ hg).mp hb).1)
   rw [if_neg e1];refine⟨by omega,c,hic,?_⟩
   by_cases e2:c=118
   ·rw [if_pos (sign_v.mpr e2)]
    refine aX hp hin ?_;walk_at "rd"
    by_cases e3:nv < n
    ·rw [if_pos e3]
     exact bad (by cases hb:p5 c n nv with
      | false=>rfl
      | true=>exact absurd (((iZ hg).mp hb).2 e2) (by omega))
    ·rw [if_neg e3]
     exact good ((iZ hg).mpr ⟨e1,fun _=>by omega⟩)
   ·rw [if_neg (fun z=>e2 (sign_v.mp z))]
    exact good ((iZ hg).mpr ⟨e1,fun z=>absurd z e2⟩)
  ·rintro σ H' ⟨o4,o5,rfl,rfl,hup⟩
   exact hu _ _ ⟨o4,o5,rfl,rfl,by simpa using hup⟩
 rintro _ _ ⟨o4,o5,rfl,rfl,hup⟩;rw [if_neg (by rw [hup];exact fun z=>by cases z)]at epl;have a1:bf K H1 a ((k::ws).map V.str):=s1.seq ha;refine bq (fun σ H'=>σ=[some (.ref a),some (.int nv),some (.str sg),some (.ref p),o4,o5,some (.int ((ns.length:Int) - sg.length))]∧H1=H') ?_ ?_
 ·intro u' hu
  walk_at "rd";refine⟨_,.inl hp,?_⟩;walk_at "rd";exact⟨by omega,hu _ _ ⟨rfl,rfl⟩⟩
 rintro _ _ ⟨rfl,rfl⟩;refine bq (fun σ H'=>bS k=false∧σ=[some (.ref a),some (.int nv),some (.str sg),some (.ref p),o4,o5,some (.int ((ns.length:Int) - sg.length))]∧H1=H') ?_ ?_
 ·intro u' hu
  refine cK fun A0 B0 hA hB=>?_
  have yes:bS k=true→A0 H1:=fun e=>hA _ (by
   rw [if_pos e]at epl;walk_at "rd"
   by_cases h2:0 < (ns.length:Int) - sg.length
   ·rw [if_pos h2]
    exact ret none (epl.trans (if_pos (by omega))).symm _ (aw.refl _)
   rw [if_neg h2];simp only [yR];walk_at "rd";have h2l:=g2 e;refine aX hp (show dG _ ((1:Nat):Int)=_ from aU (hJ (by omega))) ?_;refine aX hp (rJ (n:=ns.length - 1) (by rw [aa1];omega) (hJ (by omega))) ?_;walk_at "rd";obtain⟨j,hj1,hj2⟩:=sI (x:=ns.getD 1 0) (y:=ns.getD (ns.length - 1) 0+1) e;refine aX a1 (bh rfl) ⟨j,_,rfl,hj1,_,hj2,?_⟩
   exact ret (some (d4 k ns)) (epl.trans (if_neg (by omega))).symm _ (aw.refl _))
  have no:bS k=false→B0 H1:=fun e=>hB _ (hu _ _ ⟨e,rfl,rfl⟩);walk_at "rd";refine aX a1 (bh rfl) ?_;walk_at "rd"
  by_cases k1:k=Str.ofString "back"
  ·rw [if_pos k1]
   exact yes (by unfold bS;rw [decide_eq_true k1];rfl)
  rw [if_neg k1];refine aX a1 (bh rfl) ?_;walk_at "rd"
  by_cases k2:k=Str.ofString "held"
  ·rw [if_pos k2]
   exact yes (by unfold bS;rw [decide_eq_true k2,Bool.true_or,ah2])
  rw [if_neg k2];refine aX a1 (bh rfl) ?_;walk_at "rd"
  by_cases k3:k=Str.ofString "times"
  ·rw [if_pos k3]
   exact yes (by unfold bS;rw [decide_eq_true k3,ah2,ah2])
  rw [if_neg k3];exact no (by unfold bS;rw [decide_eq_false k1,decide_eq_false k2,decide_eq_false k3];rfl)
 rintro _ _ ⟨e,rfl,rfl⟩;rw [if_neg (by rw [e];exact aa0)]at epl;walk_at "rd"
 by_cases h3:(ns.length:Int) - sg.length < 1
 ·rw [if_pos h3]
  exact ret none (epl.trans (if_pos (by omega))).symm _ (aw.refl _)
 rw [if_neg h3]
 by_cases h4:12 < (ns.length:Int) - sg.length
 ·rw [if_pos h4]
  exact ret none (epl.trans (if_pos (by omega))).symm _ (aw.refl _)
 rw [if_neg h4];exact ret (some 1) (epl.trans (if_neg (by omega))).symm _ (aw.refl _)
end
theorem r1:List.range 1=[0]:=rfl
theorem r2:List.range 2=[0,1]:=rfl
theorem r3:List.range 3=[0,1,2]:=rfl
theorem r4:List.range 4=[0,1,2,3]:=rfl
theorem fw{α:Type}{p q:Prop}[Decidable p][Decidable q]{a b:α}(h:p↔q):(if p then a else b)=if q then a else b:=by
 by_cases hp:p
 ·rw [if_pos hp,if_pos (h.mp hp)]
 ·rw [if_neg hp,if_neg (fun z=>hp (h.mpr z))]
theorem jy{k sg:Str}{nv:Int}{ns:List Int}(hk:bS k=false):pV k sg nv ns=if pE ns sg.length=true∧dY sg.cps.toList ns nv sg.length=true then some 1 else none:=by
 unfold pV;rw [if_neg (show ¬bS k=true by rw [hk];exact aa0)]
 by_cases h1:ns.length < sg.length
 ·rw [if_pos h1,if_neg (fun z=>by have:=lOk_iff.mp z.1;omega)]
 rw [if_neg h1]
 cases hu:dY sg.cps.toList ns nv sg.length with
 | false=>rw [if_pos rfl,if_neg (fun z=>aa0 z.2)]
 | true=>
  rw [if_neg (fun z=>by cases z)]
  by_cases h2:ns.length < sg.length+1∨ns.length > sg.length+12
  ·rw [if_pos h2,if_neg (fun z=>by have:=lOk_iff.mp z.1;omega)]
  ·rw [if_neg h2,if_pos ⟨lOk_iff.mpr (by omega),rfl⟩]
theorem mG{k sg:Str}{nv:Int}{ns:List Int}(hk:bS k=true):pV k sg nv ns=if ns.length=sg.length∧dY sg.cps.toList ns nv sg.length=true then some (d4 k ns)else none:=by
 unfold pV;rw [if_pos hk]
 by_cases h1:ns.length < sg.length
 ·rw [if_pos h1,if_neg (fun z=>by omega)]
 rw [if_neg h1]
 cases hu:dY sg.cps.toList ns nv sg.length with
 | false=>rw [if_pos rfl,if_neg (fun z=>aa0 z.2)]
 | true=>
  rw [if_neg (fun z=>by cases z)]
  by_cases h2:ns.length > sg.length
  ·rw [if_pos h2,if_neg (fun z=>by omega)]
  ·rw [if_neg h2,if_pos ⟨by omega,rfl⟩]
theorem t9:∀k,cv k=none→eP k=none:=by
 intro k h;unfold cv at h;unfold eP
 repeat' (split at h)
 all_goals first
  | (simp_all;done)
  | cases h
abbrev zb(k sg:Str):Prop:=sg.length≤4∧1≤sg.length∧(∀c∈sg.cps.toList,c=118∨c=109∨c=110∨c=97)∧(bS k=true→2≤sg.length)∧∃mk,eP k=some mk∧∀nv ns,mk nv ns=pV k sg nv ns
theorem fv{k sg:Str}{cs:List Nat}{mk:vI}(hs:sg.cps.toList=cs)(h4:cs.length≤4)(h1:1≤cs.length)(hc:∀c∈cs,c=118∨c=109∨c=110∨c=97)(h2:bS k=true→2≤cs.length)(hm:eP k=some mk)(e:∀nv ns,mk nv ns=pV k sg nv ns):zb k sg:=by
 have hl:sg.length=cs.length:=by rw [az,hs]
 refine⟨by omega,by omega,by rw [hs];exact hc,by rw [hl];exact h2,mk,hm,e⟩
theorem Ay{k:Str}(hk:bS k=false)(nv:Int)(ns:List Int):di 2 nv ns=pV k (Str.ofString "vv") nv ns:=by
 have vv:(Str.ofString "vv").cps.toList=[118,118]:=by decide +kernel
 rw [jy hk,az,vv];unfold di;refine fw (and_congr_right fun h1=>?_)
 match ns,lOk_iff.mp h1 with
 | a::b::D,_=>simp [dY,r2,p5]
 | [],z=>simp at z
 | [a],z=>simp at z
theorem e_v{k:Str}(hk:bS k=false)(nv:Int)(ns:List Int):di 1 nv ns=pV k (Str.ofString "v") nv ns:=by
 have vv:(Str.ofString "v").cps.toList=[118]:=by decide +kernel
 rw [jy hk,az,vv];unfold di;refine fw (and_congr_right fun h1=>?_)
 match ns,lOk_iff.mp h1 with
 | a::D,_=>simp [dY,r1,p5]
 | [],z=>simp at z
theorem zp{k:Str}(hk:bS k=false)(nv:Int)(ns:List Int):cn nv ns=pV k (Str.ofString "vvm") nv ns:=by
 have vv:(Str.ofString "vvm").cps.toList=[118,118,109]:=by decide +kernel
 rw [jy hk,az,vv];unfold cn;refine fw (and_congr_right fun h1=>?_)
 match ns,lOk_iff.mp h1 with
 | a::b::c::D,_=>simp [dY,r3,p5,and_assoc]
 | [],z=>simp at z
 | [a],z=>simp at z
 | [a,b],z=>simp at z
theorem Ax(nv:Int)(ns:List Int):de nv ns=pV (Str.ofString "back") (Str.ofString "vn") nv ns:=by
 have vv:(Str.ofString "vn").cps.toList=[118,110]:=by decide +kernel
 rw [mG (by decide +kernel),az,vv];unfold de;rw [show d4 (Str.ofString "back") ns=3 from if_pos rfl];refine fw (and_congr_right fun h1=>?_);obtain⟨a,b,rfl⟩:=nI h1;simp [dY,r2,p5]
theorem Aw(nv:Int)(ns:List Int):dh nv ns=pV (Str.ofString "held") (Str.ofString "vm") nv ns:=by
 have vv:(Str.ofString "vm").cps.toList=[118,109]:=by decide +kernel
 rw [mG (by decide +kernel),az,vv];unfold dh;rw [show d4 (Str.ofString "held") ns=ns.getD 1 0 by unfold d4;rw [if_neg (by decide +kernel),if_pos rfl]];refine fw (and_congr_right fun h1=>?_);obtain⟨a,b,rfl⟩:=nI h1;simp [dY,r2,p5]
theorem xV(nv:Int)(ns:List Int):cq nv ns=pV (Str.ofString "times") (Str.ofString "vann") nv ns:=by
 have vv:(Str.ofString "vann").cps.toList=[118,97,110,110]:=by decide +kernel
 rw [mG (by decide +kernel),az,vv];unfold cq
 by_cases h1:ns.length=4
 ·obtain⟨a,b,c,d,rfl⟩:=my h1
  rw [show d4 (Str.ofString "times") [a,b,c,d]=[a,b,c,d].getD 3 0+1 by unfold d4;rw [if_neg (by decide +kernel),if_neg (by decide +kernel)];rfl];refine fw ?_;simp [dY,r4,p5,and_assoc]
 ·rw [if_neg (fun z=>h1 z.1),if_neg (fun z=>h1 z.1)]
theorem v3:∀k sg,cv k=some sg→zb k sg:=by
 intro k sg h;unfold cv at h
 split at h
 ·rename_i hk
  cases h
  rcases hk with rfl | rfl<;>exact fv (cs:=[118,118]) (by decide +kernel) (by decide) (by decide) (by simp) (fun _=>by decide) (by unfold eP;rfl) (Ay (by decide +kernel))
 split at h
 ·rename_i hk
  cases h;subst hk;exact fv (cs:=[118,118,109]) (by decide +kernel) (by decide) (by decide) (by simp) (fun _=>by decide) (by unfold eP;rfl) (zp (by decide +kernel))
 split at h
 ·rename_i hk
  cases h
  rcases hk with rfl | rfl | rfl<;>exact fv (cs:=[118]) (by decide +kernel) (by decide) (by decide) (by simp) (fun z=>absurd z (by decide +kernel)) (by unfold eP;rfl) (e_v (by decide +kernel))
 split at h
 ·rename_i hk
  cases h;subst hk;exact fv (cs:=[118,110]) (by decide +kernel) (by decide) (by decide) (by simp) (fun _=>by decide) (by unfold eP;rfl) Ax
 split at h
 ·rename_i hk
  cases h;subst hk;exact fv (cs:=[118,109]) (by decide +kernel) (by decide) (by decide) (by simp) (fun _=>by decide) (by unfold eP;rfl) Aw
 split at h
 ·rename_i hk
  cases h;subst hk;exact fv (cs:=[118,97,110,110]) (by decide +kernel) (by decide) (by decide) (by simp) (fun _=>by decide) (by unfold eP;rfl) xV
 cases h
theorem rk(c:Nat):∀(l p q:List Nat) (ps:List (List Nat)),cZ c l=p::q::ps→∃l',l=p++c::l'
 | [],p,q,ps,h=>by simp [cZ]at h
 | a::l,p,q,ps,h=>by
  by_cases hc:a=c
  ·rw [i5 hc]at h
   obtain⟨rfl,_⟩:=List.cons.inj h;exact⟨l,by rw [hc];rfl⟩
  ·obtain⟨p',ps',e⟩:=qo c l
   rw [gJ hc e]at h;cases h;obtain⟨l',e'⟩:=rk c l p' q ps e;exact⟨l',by rw [e'];rfl⟩
theorem lQ(c:Nat):∀(p rest:List Nat),c∉p→cZ c (p++c::rest)=p::cZ c rest
 | [],rest,_=>i5 rfl
 | a::p,rest,h=>by
  have ih:=lQ c p rest fun z=>h (ab2 _ z);exact gJ (fun z=>h (by rw [z];exact ab3)) ih
theorem iE:(Str.ofString "every ").cps.toList=(Str.ofString "every").cps.toList++[32]:=by decide +kernel
theorem nE{z:Str}(h:Txt.startswith z (Str.ofString "every ")=true):∃r,b0 z=Str.ofString "every"::r:=by
 obtain⟨rest,e⟩:=lR _ _ h;have h1:=da z;rw [e,iE,af3,List.singleton_append,lQ 32 _ _ (by decide +kernel)]at h1;obtain⟨k,ws,hw⟩:=nJ z;rw [hw,ac1]at h1;exact⟨ws,by rw [hw,str_iff.mpr (List.cons.inj h1).1]⟩
theorem pC{z:Str}{y:Str}{r:List Str}(h:b0 z=Str.ofString "every"::y::r):Txt.startswith z (Str.ofString "every ")=true:=by
 have h1:=da z;rw [h,ac1,ac1]at h1;obtain⟨l',e⟩:=rk 32 _ _ _ _ h1.symm;refine qq z _ (rest:=l') ?_;rw [e,iE,af3];rfl
theorem uE:eP (Str.ofString "every")=none:=by unfold eP;rfl
theorem vb{z:Str}{nv:Int}{r:List Str}(h:b0 z=Str.ofString "every"::r):nL z nv=qQ (Str.ofString "every"::r) nv:=by
 unfold nL;rw [h]
 cases r with
 | cons y r=>rw [if_pos (pC h)]
 | nil=>
  have e1:gL [Str.ofString "every"] nv=none:=by unfold gL;rw [show [Str.ofString "every"].headD ⟨#[]⟩=Str.ofString "every" from rfl,uE]
  rw [e1]
  split<;>rfl
theorem wZ{z:Str}{nv:Int}{k:Str}{r:List Str}(h:b0 z=k::r)(hk:k≠Str.ofString "every"):nL z nv=gL (k::r) nv:=by
 unfold nL;rw [h,if_neg];intro hs;obtain⟨r',e⟩:=nE hs;rw [h]at e;exact hk (List.cons.inj e).1
def nu:Sp:=fun vs H Q _=>∃(z:Str) (nv:Int),vs=[.str z,.int nv]∧z.length≤9000∧∀H',aw H H'→Q (ib (nL z nv)) H'
theorem jC(z:Str):(f9 z=true∧eZ z=.int (bu z))∨(f9 z=false∧eZ z=.non):=by
 cases h:f9 z with
 | true=>exact .inl ⟨rfl,if_pos h⟩
 | false=>exact .inr ⟨rfl,if_neg (by rw [show cg z.cps.toList=false from h];exact aa0)⟩
theorem vU(k:Str):∀(ws:List Str) (nv:Int),ws.length≤2→qQ (k::ws) nv=none
 | [],_,_=>by simp only [qQ]
 | [_],_,_=>by simp only [qQ]
 | [_,_],_,_=>by simp only [qQ]
 | _::_::_::r,_,h=>by simp only [aa8]at h;omega
section
variable {P:Program} {w:World} {K:Frag} {mg:Str→Option Value} {base:Heap} {aM:Addr}
theorem uJ{f:Addr}{fd:FuncData}(F:cj K "_law_size" "_law_size" gh f fd)(T:Txt mg aM)(D_law_number:bW P w K mg base "_law_number" 3 ["_law_word"] nr)(D_law_plain:bW P w K mg base "_law_plain" 3 ["_law_words","_law_voices"] (jT K)):aC P w K mg base bC 4 f fd ["_law_text","_law_voices"] nu:=by
 refine F.ok sc_law_size (fun vs H Q E h=>?_) (fun cdv A outer s H vs Q E hr h=>?_)
 ·obtain⟨z,nv,rfl,_⟩:=h
  rfl
 obtain⟨z,nv,rfl,hz,kq⟩:=h
 refine⟨_,(ag (aL (i:=2) sc_law_size.nd rfl (Or.inl rfl) (cy K PySem.F.plainAttrs_str PySem.F.slot_str_split PySem.F.type_str_split jz (pr 0) (aa aD ah)))
 (ag (aO (aT (ao qW (aK (aZ K) (pr 2) ae (fun _ _=>rfl)) aD (au _))) (ai (ak (aB D_law_plain hr (by rfl) (aa (pr 2) (aa (pr 1) ah))))) av)
 (ag (aO (PW.pt (aW (aT (ao (o0 eR) (aA (aY K) (by rfl) T.n_len boot_len (aa (pr 2) ah)) ae (au _))) (bc (PW.pt (mZ (aT (ao qW (aK (aZ K) (pr 2) ae (fun _ _=>rfl)) aD (au _))) (i0 (aT (ao qW (aK (aZ K) (pr 2) ae (fun _ _=>rfl)) aD (au _))))))))) (ai (ak aP)) av)
 (ag (aL (i:=3) sc_law_size.nd rfl (Or.inl rfl) (aB D_law_number hr (by rfl) (aa (aK (aZ K) (pr 2) ae (fun _ _=>rfl)) ah)))
 (ag (aL (i:=4) sc_law_size.nd rfl (Or.inl rfl) (aB D_law_number hr (by rfl) (aa (aK (aZ K) (pr 2) ae (fun _ _=>rfl)) ah)))
 (ag (aO (PW.pt (aW (aT (ao e7 (pr 3) aP (au _))) (aW (aT (ao e7 (pr 4) aP (au _))) (aW (aT (ao (o0 eR) (pr 3) ae (au _))) (aW (aT (ao (o0 eR) (pr 4) ae (au _))) (bc (aT (ao (o0 zJ) (pr 4) (pr 3) (au _))))))))) (ai (ak aP)) av)
 (ag (aO (aT (ao e7 (aB D_law_plain hr (by rfl) (aa (ax (bF K) (pr 2) (bD ae) aG) (aa (pr 1) ah))) aP (au _))) (ai (ak aP)) av)
 (ai (ak (pr 3)))))))))),?_⟩
 have hs:sizeLine=16777216:=sizeLine_eq;have hwl:=qA z;have hwle:∀y∈b0 z,y.length≤9000:=fun y hy=>aa7 (vz hy) hz;obtain⟨k,ws,hW⟩:=nJ z;rw [hW]at hwl hwle;simp only [aa8]at hwl;refine bq (fun σ H'=>∃p:Addr,H' p=some (.lst ((k::ws).map V.str))∧σ=[some (.str z),some (.int nv),some (.ref p),none,none]∧aw H H') ?_ ?_
 ·intro u' hu
  walk_at "rd";refine⟨32,by decide +kernel,by decide,by omega,fun p hp=>?_⟩;rw [show Txt.split z ⟨#[32]⟩=k::ws from hW];exact hu _ _ ⟨p,af,rfl,aH hp⟩
 rintro _ H1 ⟨p,hp1,rfl,s1⟩;have hp:bf K H1 p ((k::ws).map V.str):=bf.of hp1
 by_cases hk:k=Str.ofString "every"
 rotate_left
 ·refine cK fun A0 B0 hA hB=>?_
  walk_at "rd";refine aX hp (bh rfl) ?_;walk_at "rd";rw [if_neg hk];refine hA _ ?_;walk_at "rd";refine⟨p,k,ws,nv,rfl,hp,by omega,fun y hy=>hwle y (ab2 _ hy),fun H' s'=>?_⟩;rw [←wZ hW hk];exact kq H' (s1.trans s')
 subst hk
 have ret:∀v,v=qQ (Str.ofString "every"::ws) nv→∀H',aw H1 H'→Q (ib v) H':=fun v e H' s'=>by rw [e,←vb hW];exact kq H' (s1.trans s')
 refine bq (fun σ H'=>σ=[some (.str z),some (.int nv),some (.ref p),none,none]∧H1=H') ?_ ?_
 ·intro u' hu
  walk_at "rd";refine aX hp (bh rfl) ?_;walk_at "rd";exact hu _ _ ⟨rfl,rfl⟩
 rintro _ _ ⟨rfl,rfl⟩
 by_cases hlen:ws.length≤2
 ·refine cK fun A0 B0 hA hB=>?_
  walk_at "rd";refine⟨_,.inl hp,?_⟩;rw [aa1,aa8];walk_at "rd";rw [if_pos (show(((ws.length+1:Nat)):Int) < 4 by omega)];refine hA _ ?_;walk_at "rd";exact ret none (vU _ _ nv hlen).symm _ (aw.refl _)
 obtain⟨a,b,kind,r,rfl⟩:∃a b kind r,ws=a::b::kind::r:=by
  match ws,hlen with
  | a::b::kind::r,_=>exact⟨a,b,kind,r,rfl⟩
  | [],hw=>exact absurd (by simp) hw
  | [_],hw=>exact absurd (by simp) hw
  | [_,_],hw=>exact absurd (by simp) hw
 have no:¬(f9 a=true∧f9 b=true∧(0≤bu b∧bu b < bu a)∧(kind=Str.ofString "span"∨kind=Str.ofString "clock")∧gL (kind::r) nv≠none)→∀H',aw H1 H'→Q .non H':=fun h H' s'=>ret none (fX h).symm H' s';refine bq (fun σ H'=>(kind=Str.ofString "span"∨kind=Str.ofString "clock")∧σ=[some (.str z),some (.int nv),some (.ref p),none,none]∧H1=H') ?_ ?_
 ·intro u' hu
  walk_at "rd";refine⟨_,.inl hp,?_⟩;rw [aa1];walk_at "rd";rw [if_neg (show ¬(((r.length+1+1+1+1:Nat)):Int) < 4 by omega)];refine aX hp (show dG _ ((3:Nat):Int)=_ from aU rfl) ?_;walk_at "rd"
  by_cases k1:kind=Str.ofString "span"
  ·rw [if_pos k1]
   exact hu _ _ ⟨.inl k1,rfl,rfl⟩
  rw [if_neg k1];refine aX hp (show dG _ ((3:Nat):Int)=_ from aU rfl) ?_;walk_at "rd"
  by_cases k2:kind=Str.ofString "clock"
  ·rw [if_pos k2]
   exact hu _ _ ⟨.inr k2,rfl,rfl⟩
  rw [if_neg k2];exact no (fun h=>h.2.2.2.1.elim k1 k2) _ (aw.refl _)
 rintro _ _ ⟨hkind,rfl,rfl⟩;refine bq (fun σ H'=>σ=[some (.str z),some (.int nv),some (.ref p),some (eZ a),none]∧aw H1 H') ?_ ?_
 ·intro u' hu
  walk_at "rd";exact aX hp (show dG _ ((1:Nat):Int)=_ from aU rfl) ⟨a,rfl,aa7 (hwle a (by simp)) (by decide),fun H' s'=>hu _ _ ⟨rfl,s'⟩⟩
 rintro _ H2 ⟨rfl,s2⟩;refine bq (fun σ H'=>σ=[some (.str z),some (.int nv),some (.ref p),some (eZ a),some (eZ b)]∧aw H1 H') ?_ ?_
 ·intro u' hu
  walk_at "rd";exact aX (s2.seq hp) (show dG _ ((2:Nat):Int)=_ from aU rfl) ⟨b,rfl,aa7 (hwle b (by simp)) (by decide),fun H' s'=>hu _ _ ⟨rfl,s2.trans s'⟩⟩
 rintro _ H3 ⟨rfl,s3⟩;refine bq (fun σ H'=>f9 a=true∧f9 b=true∧(0≤bu b∧bu b < bu a)∧σ=[some (.str z),some (.int nv),some (.ref p),some (.int (bu a)),some (.int (bu b))]∧H3=H') ?_ ?_
 ·intro u' hu
  rcases jC a with⟨ha,ea⟩ | ⟨ha,ea⟩<;>rw [ea]
  rotate_left
  ·walk_at "rd"
   exact no (fun h=>by rw [ha]at h;exact aa0 h.1) _ s3
  rcases jC b with⟨hb,eb⟩ | ⟨hb,eb⟩<;>rw [eb]
  rotate_left
  ·walk_at "rd"
   exact no (fun h=>by rw [hb]at h;exact aa0 h.2.1) _ s3
  walk_at "rd"
  by_cases c1:bu a < 1
  ·rw [if_pos c1]
   exact no (fun h=>by have:=h.2.2.1;omega) _ s3
  rw [if_neg c1]
  by_cases c2:bu b < 0
  ·rw [if_pos c2]
   exact no (fun h=>by have:=h.2.2.1;omega) _ s3
  rw [if_neg c2]
  by_cases c3:bu a≤bu b
  ·rw [if_pos c3]
   exact no (fun h=>by have:=h.2.2.1;omega) _ s3
  rw [if_neg c3];exact hu _ _ ⟨ha,hb,⟨by omega,by omega⟩,rfl,rfl⟩
 rintro _ _ ⟨ha,hb,hab,rfl,rfl⟩;refine cK fun A0 B0 hA hB=>?_;walk_at "rd";refine bj (s3.seq hp) fun q hq=>?_;rw [show(some (3:Int))=some ((3:Nat):Int)from rfl,bM];have s4:aw H1 (upd H3 q (.lst ((kind::r).map V.str))):=s3.upd hq;refine⟨q,kind,r,nv,rfl,bf.of af,by simp only [aa8]at hwl;omega,fun y hy=>hwle y (by simp [hy]),fun H' s'=>?_⟩
 cases hpl:gL (kind::r) nv with
 | none=>
  simp only [ib];walk_at "rd";refine hA _ ?_;walk_at "rd";exact no (fun h=>h.2.2.2.2 hpl) _ (s4.trans s')
 | some sz=>
  simp only [ib];walk_at "rd";refine hB _ ?_;walk_at "rd";exact ret (some (bu a)) (qR ⟨ha,hb,hab,hkind,by rw [hpl];exact fun z=>by cases z⟩).symm _ (s4.trans s')
end
theorem e39:(10:Int) ^ Int.toNat 39=1000000000000000000000000000000000000000:=by decide +kernel
theorem Ad:(10:Int) ^ Int.toNat 40=10000000000000000000000000000000000000000:=by decide +kernel
theorem Ac:(10:Int) ^ Int.toNat 30=1000000000000000000000000000000:=by decide +kernel
theorem Ae:(10:Nat) ^ 40=10000000000000000000000000000000000000000:=by decide +kernel
theorem gu{n:Int}(h:n.natAbs < 10 ^ 40):n.natAbs.log2 < 1920:=by
 by_cases h0:n.natAbs=0
 ·rw [h0];decide
 ·exact(Nat.log2_lt h0).mpr (aa6 h (by decide +kernel))
theorem gy{n:Int}(h:n.natAbs < 10 ^ 40):(iN n).length≤41:=by
 rw [az];exact jB (k:=40) (by decide) h
def pd:Sp:=fun vs H Q _=>∃c,vs=[.int c]∧∀v,-1000000000000000000000000000000000000000 < v→v < 1000000000000000000000000000000000000000→Q (.int v) H
def qm:Sp:=fun vs H Q _=>∃z c nv,vs=[.str z,.int c,.int nv]∧1≤nv∧nv≤4∧∀y,y.length≤41→Q (.str y) H
def ny:Sp:=fun vs H Q _=>∃c nv,vs=[.int c,.int nv]∧1≤nv∧nv≤4∧∀y H',aw H H'→y.length≤42→Q (.str y) H'
section
variable {P:Program} {w:World} {K:Frag} {mg:Str→Option Value} {base:Heap} {aM:Addr}
theorem ym{f:Addr}{fd:FuncData}(F:cj K "_law_any" "_law_any" ic f fd)(T:Txt mg aM):aC P w K mg base bC 1 f fd ["_law_cell"] pd:=by
 refine F.ok sc_law_any (fun vs H Q E h=>?_) (fun cdv A outer s H vs Q E hr h=>?_)
 ·obtain⟨c,rfl,_⟩:=h
  rfl
 obtain⟨c,rfl,k⟩:=h
 refine⟨_,(ag (aL (i:=0) sc_law_any.nd rfl (Or.inl rfl) (ay (o1 bA) (pr 0) (ay (p4 K) ae (ay (o1 e8) ae ae))))
 (ag (aO (aT (ao eQ (ay (o1 bA) (pr 0) ae) ae (au _))) (ai (ak (ay (o0 e9) (ay (o0 e9) (ay (o1 e8) ae ae) ae) (ay (o1 bZ) (pr 0) ae)))) av)
 (ag (aO (aT (ao eQ (ay (o1 bA) (pr 0) ae) ae (au _))) (ai (ak (ay (cb K) (ay (o0 e9) (ay (o1 bZ) (pr 0) ae) (ay (o1 e8) ae ae)) ae))) av)
 (ai (ak (ay (o0 e9) (ay (o1 bA) (ay (o1 bZ) (pr 0) ae) ae) ae)))))),?_⟩
 walk_at "rd";rw [e39];have x0:=ac8 c (show(5 * 1000000000000000000000000000000000000000:Int)≠0 by decide);have x1:=ad3 c (show(0:Int) < 5 * 1000000000000000000000000000000000000000 by decide);generalize c % (5 * 1000000000000000000000000000000000000000)=x at x0 x1;refine⟨⟨by decide,by decide,by decide⟩,.of_left (by decide),by decide,by decide,?_⟩
 split
 ·exact⟨⟨by decide,by decide,by decide⟩,⟨by decide,by decide⟩,k _ (by omega) (by omega)⟩
 refine⟨by decide,?_⟩
 split
 ·exact⟨⟨by decide,by decide⟩,⟨by decide,by decide,by decide⟩,k _ (by omega) (by omega)⟩
 ·exact⟨⟨by decide,by decide⟩,by decide,k _ (by omega) (by omega)⟩
theorem wq{f:Addr}{fd:FuncData}(F:cj K "_law_lead" "_law_lead" gf f fd)(T:Txt mg aM)(D_law_any:bW P w K mg base "_law_any" 1 ["_law_cell"] pd):aC P w K mg base bC 2 f fd ["_law_sign","_law_cell","_law_voices"] qm:=by
 refine F.ok sc_law_lead (fun vs H Q E h=>?_) (fun cdv A outer s H vs Q E hr h=>?_)
 ·obtain⟨z,c,nv,rfl,_⟩:=h
  rfl
 obtain⟨z,c,nv,rfl,h1,h4,k⟩:=h
 refine⟨_,(ag (aL (i:=1) sc_law_lead.nd rfl (Or.inl rfl) (ay (o1 bA) (pr 1) (ay (p4 K) ae (ay (o1 e8) ae ae))))
 (ag (aL (i:=3) sc_law_lead.nd rfl (Or.inl rfl) (fC eQ (ay (o1 bA) (pr 1) ae) ae (au _)))
 (ag (aO (PW.pt (mZ (aT (ao eQ (pr 0) aD (au _))) (i0 (aE (pr 3) (fun _=>rfl))))) (ai (ak (ba (b9) (by rfl) T.n_str boot_str (aa (ay (o1 bA) (ay (o1 bZ) (pr 1) ae) ae) ah)))) av)
 (ag (aO (aT (ao eQ (pr 0) aD (au _))) (ai (ak (ba (b9) (by rfl) T.n_str boot_str (aa (ay (cb K) ae (ay (o1 bA) (ay (o1 bZ) (pr 1) ae) (pr 2))) ah)))) av)
 (ag (aO (aT (ao eQ (pr 0) aD (au _))) (ai (ak (ba (b9) (by rfl) T.n_str boot_str (aa (aB D_law_any hr (by rfl) (aa (ay (o1 bZ) (pr 1) ae) ah)) ah)))) av)
 (ag (aO (aE (pr 3) (fun _=>rfl)) (ai (ak (ba (b9) (by rfl) T.n_str boot_str (aa (ay (o0 e9) (ay (o1 bA) (ay (o1 bZ) (pr 1) ae) ae) ae) ah)))) av)
 (ai (ak (ba (b9) (by rfl) T.n_str boot_str (aa (ay (cb K) (aA (nQ) (by rfl) T.n_abs boot_abs (aa (aB D_law_any hr (by rfl) (aa (ay (o1 bZ) (pr 1) ae) ah)) ah)) (ba (dU) (by rfl) T.n_int boot_int (aa (fC eQ (pr 0) aD (au _)) ah))) ah)))))))))),?_⟩
 walk_at "rd";rw [Ad];have x0:=ac8 c (show(32 * 10000000000000000000000000000000000000000:Int)≠0 by decide);have x1:=ad3 c (show(0:Int) < 32 * 10000000000000000000000000000000000000000 by decide);generalize c % (32 * 10000000000000000000000000000000000000000)=x at x0 x1;have e40':=Ae
 have fin:∀v:Int,-10000000000000000000000000000000000000000 < v→v < 10000000000000000000000000000000000000000→v.natAbs.log2 < 1920∧Q (.str (iN v)) H:=fun v a b=>by
  have hb:v.natAbs < 10 ^ 40:=by omega
  exact⟨gu hb,k _ (gy hb)⟩
 refine⟨⟨by decide,by decide,by decide⟩,.of_left (by decide),by decide,by decide,?_⟩;have cd:y9 x 16:=⟨by decide,by decide⟩
 by_cases hv:z=Str.ofString "v"
 ·rw [if_pos hv]
  by_cases he:x % 16=5
  ·rw [if_pos he]
   exact⟨cd,by decide,fin _ (by omega) (by omega)⟩
  ·rw [if_neg he,if_pos hv]
   have y0:=ac8 (x / 16) (show nv≠0 by omega);have y1:=ad3 (x / 16) (show 0 < nv by omega);exact⟨cd,by omega,fin _ (by omega) (by omega)⟩
 rw [if_neg hv,if_neg hv]
 by_cases ha:z=Str.ofString "a"
 ·rw [if_pos ha]
  exact⟨cd,_,rfl,fun v a b=>rStr_i.mpr (fin v (by omega) (by omega))⟩
 rw [if_neg ha]
 split
 ·exact⟨cd,by decide,fin _ (by omega) (by omega)⟩
 ·refine⟨cd,_,rfl,fun v a b=>⟨v,rfl,?_⟩⟩
  have hb:-10000000000000000000000000000000000000000 < (if v < 0 then -v else v)+(if z=Str.ofString "m" then 1 else 0)∧(if v < 0 then -v else v)+(if z=Str.ofString "m" then 1 else 0) < 10000000000000000000000000000000000000000:=by
   split<;>split<;>omega
  exact fin _ hb.1 hb.2
end
local macro_rules | `(tactic| walk_at "rs") => `(tactic| try simp only [↓lG, ↓jK, ↓fu, ↓gU, ↓hR, ↓hU, ↓hV, ↓hX, ↓fz, ↓fA, ↓AL, ↓AM, y7, y3, jI, jU, lx, lu, yd, lq, r0, lr, jY, pz, sM, kZ, xm, tC, xO, Ak, vj, jZ, xl, vk, rm, zY, lW, lX, qu, xj, Ai, xk, lV, sN, lY, Ah, Aj, pA, i6, Ag, zX, zu, xB, zr, oR, rI, rU, L2.start, jj, jk, fV, jh, ji, jl, jm, jn, fW, oh, qO, n0, oa, n6, kO, kU, kP, kW, kN, kT, og, nZ, n9, n8, iD, List.map_cons, List.map_nil, List.length_cons, List.length_nil, List.replicate, List.cons_append, List.nil_append, List.append_nil, List.getElem?_cons_zero, List.getElem?_cons_succ, List.set_cons_zero, List.set_cons_succ, Option.some.injEq, tR, xy, pP, tU, tQ, V.int.injEq, V.str.injEq, V.bl.injEq, V.ref.injEq, V.ty.injEq, List.cons.injEq, and_true, true_and, zv, uc, xD, xE, zw, xC, ua, nH, zt, oi, oj, xZ, u7, nG, qt, yS, yK, rA, zW, kQ, kX, kR, kY, rq, px, yP, Int.zero_add, if_true, Bool.false_eq_true, if_false, cσ, List.getD_cons_zero, List.getD_cons_succ, tP, tJ, xu, decide_eq_true_eq, reduceCtorEq, false_and, tT, false_or, or_false, xx, List.length_map, yT, z3, AG, z0, nY, qP, Bool.not_eq_true', zo, ite_not, lG, jK, fu, gU, hR, hU, hV, hX, fz, fA])
theorem m9{z:Str}(h:z.length=1)(k:Int):(dR z k).length=k.toNat:=by
 rw [az,jL,List.length_flatten,List.map_replicate,List.sum_replicate_nat,←az,h,Nat.mul_one]
theorem iV(a b:Str):(a++b).length=a.length+b.length:=by
 show(a.cps++b.cps).size=a.cps.size+b.cps.size;exact ai6
theorem gT{a:Str}{l:List Str}(h:a.length≤42)(t:∀y∈l,y.length≤42):∀y∈a::l,y.length≤42:=List.forall_mem_cons.mpr ⟨h,t⟩
theorem rH{a l:List Str}(h:∀y∈a,y.length≤42)(t:∀y∈l,y.length≤42):∀y∈a++l,y.length≤42:=fun y hy=>(ac2.mp hy).elim (h y) (t y)
theorem pN(l:List Str)(h:(l.all fun y=>decide (y.length≤42))=true):∀y∈l,y.length≤42:=fun y hy=>of_decide_eq_true (ae7.mp h y hy)
section
variable {P:Program} {w:World} {K:Frag} {mg:Str→Option Value} {base:Heap} {aM:Addr}
theorem uK{f:Addr}{fd:FuncData}(F:cj K "_law_other" "_law_other" fh f fd)(T:Txt mg aM):aC P w K mg base bC 1 f fd ["_law_cell","_law_voices"] ny:=by
 refine F.ok sc_law_other (fun vs H Q E h=>?_) (fun cdv A outer s H vs Q E hr h=>?_)
 ·obtain⟨c,nv,rfl,_⟩:=h
  rfl
 obtain⟨c,nv,rfl,h1,h4,k⟩:=h
 refine⟨_,(ag (aL (i:=0) sc_law_other.nd rfl (Or.inl rfl) (ay (o1 bA) (pr 0) (ay (o1 e8) ae ae)))
 (ag (aL (i:=2) sc_law_other.nd rfl (Or.inl rfl) (cN (aa aD (aa aD (aa (ba (b9) (by rfl) T.n_str boot_str (aa (ay (cb K) (pr 1) ae) ah)) (aa aD (aa aD (aa aD (aa aD (aa aD (aa aD (aa (ay (p4 K) aD ae) (aa (ay (p4 K) aD ae) (aa (ay (cb K) aD (ay (p4 K) aD ae)) ah))))))))))))))
 (ag (aL (i:=2) sc_law_other.nd rfl (Or.inl rfl) (ay (cb K) (pr 2) (cN (dX (vs:=[.str (Str.ofString "-"),.str (Str.ofString "--1"),.str (Str.ofString "1_0"),.str (Str.ofString "every"),.str (Str.ofString "span"),.str (Str.ofString "Span"),.str (Str.ofString "moves"),.str (Str.ofString "clock"),.str (Str.ofString "held"),.str (Str.ofString "back")]) rfl))))
 (ag (aL (i:=2) sc_law_other.nd rfl (Or.inl rfl) (ay (cb K) (pr 2) (cN (aa aD (aa aD (aa aD ah))))))
 (ai (ak (aK (aZ K) (pr 2) (ay (o1 bA) (pr 0) (aA (aY K) (by rfl) T.n_len boot_len (aa (pr 2) ah))) (fun _ _=>rfl)))))))),?_⟩
 have hs:sizeLine=16777216:=sizeLine_eq;refine bq (fun σ H'=>∃c':Int,0≤c'∧σ=[some (.int c'),some (.int nv),none]∧H=H') ?_ ?_
 ·intro u' hu
  walk_at "rd";rw [Ac];exact⟨⟨by decide,by decide,by decide⟩,by decide,hu _ _ ⟨_,ac8 c (by decide),rfl,rfl⟩⟩
 rintro _ _ ⟨c',c0,rfl,rfl⟩;refine bq (fun σ H'=>∃(p:Addr) (ws:List Str),H' p=some (.lst (ws.map V.str))∧ws.length=12∧(∀y∈ws,y.length≤42)∧σ=[some (.int c'),some (.int nv),some (.ref p)]∧aw H H') ?_ ?_
 ·intro u' hu
  walk_at "rs"
  have o1:(Str.ofString "1").length=1:=by decide +kernel
  have o2:(Str.ofString "9").length=1:=by decide +kernel
  have o3:(Str.ofString "8").length=1:=by decide +kernel
  have o4:(Str.ofString "-").length=1:=by decide +kernel
  have o5:(dR (Str.ofString "8") 41).length=41:=m9 o3 41;have o6:(dR (Str.ofString "9") 41).length=41:=m9 o2 41;have o7:(dR (Str.ofString "1") 40).length=40:=m9 o1 40;have Ad:=Ae
  have hb:(nv+1).natAbs < 10 ^ 40:=by omega
  refine⟨gu hb,by decide,by decide,by omega,by decide,by decide,by omega,by decide,by decide,by omega,by omega,by omega,fun p hp=>?_⟩;refine hu _ _ ⟨p,[Str.ofString "0",Str.ofString "-1",iN (nv+1),Str.ofString "-0",Str.ofString "01",Str.ofString "+1",Str.ofString "1.0",Str.ofString "a",Str.ofString "",dR (Str.ofString "1") 40,dR (Str.ofString "9") 41,Str.ofString "-" ++ dR (Str.ofString "8") 41],af,rfl,?_,rfl,aH hp⟩;refine gT (by decide +kernel) (gT (by decide +kernel) (gT (aa7 (gy hb) (by decide)) (rH (a:=[Str.ofString "-0",Str.ofString "01",Str.ofString "+1",Str.ofString "1.0",Str.ofString "a",Str.ofString ""]) (pN _ (by decide +kernel)) (gT (by omega) (gT (by omega) (gT (by rw [iV];omega) (fun _ h=>by cases h)))))))
 rintro _ H1 ⟨p,ws,hp1,hl1,hw1,rfl,s1⟩;refine bq (fun σ H'=>∃(p:Addr) (ws:List Str),H' p=some (.lst (ws.map V.str))∧ws.length=22∧(∀y∈ws,y.length≤42)∧σ=[some (.int c'),some (.int nv),some (.ref p)]∧aw H H') ?_ ?_
 ·intro u' hu
  walk_at "rd";refine⟨by omega,fun q hq=>cX (by rw [aj (ar hp1 hq)];exact hp1) af (by rw [aa1,hl1];simp only [aa8,ae4];omega) fun r hr=>?_⟩;refine hu _ _ ⟨r,ws++[Str.ofString "-",Str.ofString "--1",Str.ofString "1_0",Str.ofString "every",Str.ofString "span",Str.ofString "Span",Str.ofString "moves",Str.ofString "clock",Str.ofString "held",Str.ofString "back"],by rw [af,ac9];rfl,by rw [ab9,hl1];rfl,?_,rfl,(s1.upd hq).upd hr⟩;exact rH hw1 (pN _ (by decide +kernel))
 clear hp1 hl1 hw1 s1;rintro _ H2 ⟨p,ws,hp1,hl1,hw1,rfl,s1⟩;refine bq (fun σ H'=>∃(p:Addr) (ws:List Str),H' p=some (.lst (ws.map V.str))∧ws.length=25∧(∀y∈ws,y.length≤42)∧σ=[some (.int c'),some (.int nv),some (.ref p)]∧aw H H') ?_ ?_
 ·intro u' hu
  walk_at "rd";refine⟨by omega,fun q hq=>cX (by rw [aj (ar hp1 hq)];exact hp1) af (by rw [aa1,hl1];simp only [aa8,ae4];omega) fun r hr=>?_⟩;refine hu _ _ ⟨r,ws++[Str.ofString "times",Str.ofString "alike",Str.ofString "3"],by rw [af,ac9];rfl,by rw [ab9,hl1];rfl,?_,rfl,(s1.upd hq).upd hr⟩;exact rH hw1 (pN _ (by decide +kernel))
 clear hp1 hl1 hw1 s1;rintro _ H3 ⟨p,ws,hp1,hl1,hw1,rfl,s1⟩;walk_at "rd";refine⟨_,.inl (bf.of hp1),?_⟩;rw [aa1,hl1];walk_at "rd";obtain⟨x,hx⟩:=iW (xs:=ws.map V.str) (c:=c') (m:=((25:Nat):Int)) (by decide) (by rw [aa1,hl1];exact Int.le_refl _)
 obtain⟨y,hy,rfl⟩:=ml (P:=fun x=>∃z:Str,z.length≤42∧x=.str z) (fun x hx=>by
  obtain⟨z,hz,rfl⟩:=ag3.mp hx
  exact⟨z,hw1 z hz,rfl⟩) hx
 exact⟨by decide,aX (bf.of hp1) hx (k _ _ s1 hy)⟩
end
def dv(H:Hp)(p:Addr)(n:Nat):Prop:=∃ws:List Str,H p=some (.lst (ws.map V.str))∧1≤ws.length∧ws.length≤n∧∀y∈ws,y.length≤42
def yO(K:Frag):Sp:=fun vs H Q _=>∃(a:Addr) (ns:List Int) (wd sg:Str) (nv:Int),vs=[.ref a,.str wd,.int nv]∧bf K H a (ns.map V.int)∧cv wd=some sg∧wd.length≤42∧1≤nv∧nv≤4∧∀q H',aw H H'→dv H' q 18→Q (.ref q) H'
section
variable {P:Program} {w:World} {K:Frag} {mg:Str→Option Value} {base:Heap} {aM:Addr}
theorem zE{f:Addr}{fd:FuncData}(F:cj K "_law_plain_words" "_law_plain_words" cH f fd)(T:Txt mg aM)(D_law_kinds:bW P w K mg base "_law_kinds" 3 ["_law_word"] i4)(D_law_lead:bW P w K mg base "_law_lead" 3 ["_law_sign","_law_cell","_law_voices"] qm)(D_law_pick:bW P w K mg base "_law_pick" 3 ["_law_script","_law_at"] (jV K))(D_law_any:bW P w K mg base "_law_any" 3 ["_law_cell"] pd):aC P w K mg base bC 4 f fd ["_law_script","_law_word","_law_voices"] (yO K):=by
 refine F.ok sc_law_plain_words (fun vs H Q E h=>?_) (fun cdv A outer s H vs Q E hr h=>?_)
 ·obtain⟨a,ns,wd,sg,nv,rfl,_⟩:=h
  rfl
 obtain⟨a,ns,wd,sg,nv,rfl,ha,hk,hwd,h1,h4,k⟩:=h
 refine⟨_,(ag (aL (i:=3) sc_law_plain_words.nd rfl (Or.inr rfl) (aB D_law_kinds hr (by rfl) (aa (pr 1) ah)))
 (ag (aL (i:=4) sc_law_plain_words.nd rfl (Or.inl rfl) (ay (cb K) (cN (aa (pr 1) ah)) (gA (own:=["_law_k"]) (js:=[0,2,3]) rfl (fE rfl T.n_range (aa (aA (aY K) (by rfl) T.n_len boot_len (aa (pr 3) ah)) ah)) (bP.of (by rfl)) (fun _ _ _ _ _=>(cC (i:=0) (show List.Nodup (["_law_k","_law_script","_law_voices","_law_signs"]:List Str)from by decide +kernel) rfl (Or.inl rfl))) (fun _ _ _ _ _=>fF) (fun _ _ _ _ _=>(aB D_law_lead hr (by rfl) (aa (aK (aZ K) (pr 3) (pr 0) (fun _ _=>rfl)) (aa (aB D_law_pick hr (by rfl) (aa (pr 1) (aa (ay (cb K) ae (pr 0)) ah))) (aa (pr 2) ah))))))))
 (ag (aO (PW.pt (aW (aT (ao eQ (pr 1) aD (au _))) (aW (aT (ao eQ (pr 1) aD (au _))) (bc (aT (ao eQ (pr 1) aD (au _))))))) (ai (ak (pr 4))) av)
 (ag (aL (i:=5) sc_law_plain_words.nd rfl (Or.inl rfl) (ay (o1 bA) (ay (o1 bZ) (aB D_law_pick hr (by rfl) (aa (pr 0) (aa ae ah))) ae) ae))
 (ag (aO (aT (ao eQ (ay (o1 bA) (aB D_law_pick hr (by rfl) (aa (pr 0) (aa ae ah))) ae) ae (au _))) (ai (aL (i:=5) sc_law_plain_words.nd rfl (Or.inl rfl) (aK (aZ K) (cN (dX (vs:=[.int (0),.int (13),.int (12),.int (1)]) rfl)) (ay (o1 bA) (ay (o1 bZ) (aB D_law_pick hr (by rfl) (aa (pr 0) (aa ae ah))) ae) ae) (fun _ _=>rfl)))) av)
 (ag (jH PassesOwn.never rfl (fE rfl T.n_range (aa (pr 5) ah)) (cC (i:=6) sc_law_plain_words.nd rfl (Or.inl rfl))
 (ai (cD (cy K PySem.F.plainAttrs_list PySem.F.slot_list_append PySem.F.type_list_append si (pr 4) (aa (ba (b9) (by rfl) T.n_str boot_str (aa (aB D_law_any hr (by rfl) (aa (aB D_law_pick hr (by rfl) (aa (pr 0) (aa (ay (cb K) ae (pr 6)) ah))) ah)) ah)) ah)))))
 (ai (ak (pr 4))))))))),?_⟩
 have hs:sizeLine=16777216:=sizeLine_eq;obtain⟨g4,g1,-⟩:=v3 wd sg hk;refine bq (fun σ H'=>σ=[some (.ref a),some (.str wd),some (.int nv),some (.str sg),none,none,none]∧H=H') ?_ ?_
 ·intro u' hu
  walk_at "rd";exact⟨wd,rfl,by rw [hk];exact hu _ _ ⟨rfl,rfl⟩⟩
 rintro _ _ ⟨rfl,rfl⟩;refine bq (fun σ H'=>∃q,dv H' q 5∧H q=none∧σ=[some (.ref a),some (.str wd),some (.int nv),some (.str sg),some (.ref q),none,none]∧aw H H') ?_ ?_
 ·intro u' hu
  walk_at "rd";refine⟨by omega,fun p hp=>⟨by omega,by omega,by omega,?_⟩⟩;rw [show((sg.length:Int)).toNat=sg.length from rfl];have s1:aw H (upd H p (.lst [V.str wd])):=aH hp;refine nW (fun i ys H'=>∃ws:List Str,ys=ws.map V.str∧ws.length=i∧(∀y∈ws,y.length≤42)∧aw (upd H p (.lst [V.str wd])) H') (by omega) ⟨[],rfl,rfl,fun _ h=>(by cases h),aw.refl _⟩ (fun i ys H' h=>by obtain⟨ws,rfl,h2,_⟩:=h;rw [aa1,h2];exact aa3 _) ?_ ?_
  ·rintro i ys H' hi ⟨ws,rfl,hwl,hw,sm⟩
   have hsg:sg.cps.toList[i]?=some (sg.cps.toList.getD i 0):=by
    have:=az sg
    rw [ac4,ab8 (by omega)];rfl
   walk_at "rd";refine⟨by omega,_,aU hsg,a,ns,_,rfl,(s1.trans sm).seq ha,by omega,fun H2 s2=>⟨_,_,_,rfl,h1,h4,fun y hy=>⟨ws++[y],?_,by rw [ab9,hwl];rfl,rH hw (gT (ad9 hy) fun _ h=>by cases h),sm.trans s2⟩⟩⟩;rw [ac9];rfl
  ·rintro ys H' ⟨ws,rfl,hwl,hw,sm⟩ q hq
   refine cX (by rw [aj (ar (sm _ _ af) hq)];exact sm _ _ af) af (by rw [aa1,hwl];simp only [aa8,ae4];omega) fun r hr=>?_;refine hu _ _ ⟨r,⟨wd::ws,af,Nat.succ_pos _,by rw [aa8];omega,gT hwd hw⟩,?_,rfl,((s1.trans sm).upd hq).upd hr⟩;exact((s1.trans sm).upd hq).free hr
 rintro _ H1 ⟨q,hq1,hq0,rfl,s1⟩
 have hw18:dv H1 q 18:=by
  obtain⟨ws,e1,e2,e3,e4⟩:=hq1;exact⟨ws,e1,e2,by omega,e4⟩
 refine bq (fun σ H'=>σ=[some (.ref a),some (.str wd),some (.int nv),some (.str sg),some (.ref q),none,none]∧H1=H') ?_ ?_
 ·intro u' hu
  walk_at "rd"
  split
  ·exact k _ _ s1 hw18
  split
  ·exact k _ _ s1 hw18
  split
  ·exact k _ _ s1 hw18
  ·exact hu _ _ ⟨rfl,rfl⟩
 rintro _ _ ⟨rfl,rfl⟩;have a1:=s1.seq ha;refine bq (fun σ H'=>∃m:Nat,m≤13∧σ=[some (.ref a),some (.str wd),some (.int nv),some (.str sg),some (.ref q),some (.int m),none]∧aw H1 H') ?_ ?_
 ·intro u' hu
  walk_at "rd";refine⟨a,ns,_,rfl,a1,by decide,fun H2 s2=>?_⟩;walk_at "rd";generalize fR ns 3=c;refine⟨⟨by decide,by decide⟩,by decide,hu _ _ ⟨(c / 3 % 14).toNat,by omega,?_,s2⟩⟩;rw [ai1 (by omega)]
 rintro _ H2 ⟨m,hm,rfl,s2⟩;refine bq (fun σ H'=>∃m:Nat,m≤13∧σ=[some (.ref a),some (.str wd),some (.int nv),some (.str sg),some (.ref q),some (.int m),none]∧aw H1 H') ?_ ?_
 ·intro u' hu
  refine cK fun A0 B0 hA hB=>?_;walk_at "rd";refine⟨a,ns,_,rfl,s2.seq a1,by decide,fun H3 s3=>?_⟩;walk_at "rd";generalize fR ns 3=c;refine⟨by decide,?_⟩
  split
  ·refine hA _ ?_
   walk_at "rd";refine⟨by omega,fun p hp=>⟨a,ns,_,rfl,((s2.trans s3).upd hp).seq a1,by decide,fun H4 s4=>⟨_,rfl,⟨by decide,by decide⟩,by decide,?_⟩⟩⟩;obtain⟨x,hx⟩:=iW (xs:=[V.int 0,.int 13,.int 12,.int 1]) (c:=fR ns 3 / 3) (m:=4) (by decide) (by decide)
   obtain⟨m',hm',rfl⟩:=ml (P:=fun x=>∃m:Nat,m≤13∧x=.int m) (fun x hx=>by
    rcases ab7.mp hx with rfl | hx
    ·exact⟨0,by decide,rfl⟩
    rcases ab7.mp hx with rfl | hx
    ·exact⟨13,by decide,rfl⟩
    rcases ab7.mp hx with rfl | hx
    ·exact⟨12,by decide,rfl⟩
    rcases ai4.mp hx with rfl
    exact⟨1,by decide,rfl⟩) hx
   exact aX (s4.seq (bf.of af)) hx (hu _ _ ⟨m',hm',rfl,((s2.trans s3).upd hp).trans s4⟩)
  ·exact hB _ (hu _ _ ⟨m,hm,rfl,s2.trans s3⟩)
 clear hm s2;rintro _ H3 ⟨m,hm,rfl,s3⟩;refine bq (fun σ H'=>∃o6,dv H' q 18∧σ=[some (.ref a),some (.str wd),some (.int nv),some (.str sg),some (.ref q),some (.int m),o6]∧aw H H') ?_ ?_
 ·intro u' hu
  walk_at "rd";refine⟨by omega,by omega,?_⟩;rw [show((m:Int)).toNat=m from rfl];refine fZ (fun i σ H'=>∃o6,dv H' q (5+i)∧σ=[some (.ref a),some (.str wd),some (.int nv),some (.str sg),some (.ref q),some (.int m),o6]∧aw H H') ⟨none,?_,rfl,s1.trans s3⟩ ?_ ?_
  ·obtain⟨ws,e1,e2⟩:=hq1
   exact⟨ws,s3 _ _ e1,e2⟩
  ·rintro i σ H' hi ⟨o6,⟨ws,e1,e2,e3,e4⟩,rfl,s5⟩
   walk_at "rd";refine⟨.inl ⟨rfl,_,bf.of e1⟩,a,ns,_,rfl,s5.seq ha,by omega,fun H6 s6=>⟨_,rfl,fun v v1 v2=>?_⟩⟩;have Ad:=Ae
   have hb:v.natAbs < 10 ^ 40:=by omega
   refine rStr_i.mpr ⟨gu hb,q,_,_,rfl,rfl,s6 _ _ e1,by rw [aa1];omega,?_⟩;refine⟨⟨ws++[iN v],by rw [af,ac9];rfl,by rw [ab9];omega,by rw [ab9];simp only [aa8,ae4];omega,rH e4 (gT (ad9 (gy hb)) fun _ h=>by cases h)⟩,fun c o hc=>?_⟩;rw [aj (ar hc hq0)];exact s6 _ _ (s5 _ _ hc)
  ·rintro σ H' ⟨o6,⟨ws,e1,e2,e3,e4⟩,rfl,s5⟩
   exact hu _ _ ⟨o6,⟨ws,e1,e2,by omega,e4⟩,rfl,s5⟩
 rintro _ H4 ⟨o6,hw4,rfl,s4⟩;walk_at "rd";exact k _ _ s4 hw4
end
def vf(K:Frag):Sp:=fun vs H Q _=>∃(a:Addr) (ns:List Int) (nv:Int),vs=[.ref a,.int nv]∧bf K H a (ns.map V.int)∧1≤nv∧nv≤4∧∀q H',aw H H'→dv H' q 21→Q (.ref q) H'
abbrev some9:List Str:=[Str.ofString "span",Str.ofString "clock",Str.ofString "move",Str.ofString "alike",Str.ofString "back",Str.ofString "held",Str.ofString "times",Str.ofString "begin",Str.ofString "close"]
abbrev ve:List Str:=[Str.ofString "span",Str.ofString "clock",Str.ofString "span",Str.ofString "clock"]
theorem xa:∀z∈some9++ve,(cv z).isSome=true∧z.length≤42:=by
 have h:((some9++ve).all fun z=>(cv z).isSome && decide (z.length≤42))=true:=by decide +kernel
 intro z hz
 have:=ae7.mp h z hz
 rw [ac0,decide_eq_true_eq]at this;exact this
section
variable {P:Program} {w:World} {K:Frag} {mg:Str→Option Value} {base:Heap} {aM:Addr}
theorem yo{f:Addr}{fd:FuncData}(F:cj K "_law_row" "_law_row" ig f fd)(T:Txt mg aM)(D_law_plain_words:bW P w K mg base "_law_plain_words" 4 ["_law_script","_law_word","_law_voices"] (yO K))(D_law_pick:bW P w K mg base "_law_pick" 4 ["_law_script","_law_at"] (jV K))(D_law_any:bW P w K mg base "_law_any" 4 ["_law_cell"] pd):aC P w K mg base bC 5 f fd ["_law_script","_law_voices"] (vf K):=by
 refine F.ok sc_law_row (fun vs H Q E h=>?_) (fun cdv A outer s H vs Q E hr h=>?_)
 ·obtain⟨a,ns,nv,rfl,_⟩:=h
  rfl
 obtain⟨a,ns,nv,rfl,ha,h1,h4,k⟩:=h
 refine⟨_,(ag (aL (i:=2) sc_law_row.nd rfl (Or.inl rfl) (cN (dX (vs:=[.str (Str.ofString "span"),.str (Str.ofString "clock"),.str (Str.ofString "move"),.str (Str.ofString "alike"),.str (Str.ofString "back"),.str (Str.ofString "held"),.str (Str.ofString "times"),.str (Str.ofString "begin"),.str (Str.ofString "close")]) rfl)))
 (ag (aL (i:=3) sc_law_row.nd rfl (Or.inl rfl) (ay (o1 bA) (aB D_law_pick hr (by rfl) (aa (pr 0) (aa ae ah))) ae))
 (ag (aL (i:=4) sc_law_row.nd rfl (Or.inl rfl) (aK (aZ K) (ay (cb K) (pr 2) (cN (dX (vs:=[.str (Str.ofString "span"),.str (Str.ofString "clock"),.str (Str.ofString "span"),.str (Str.ofString "clock")]) rfl))) (pr 3) (fun _ _=>rfl)))
 (ag (aL (i:=5) sc_law_row.nd rfl (Or.inl rfl) (aB D_law_plain_words hr (by rfl) (aa (pr 0) (aa (pr 4) (aa (pr 1) ah)))))
 (ag (aO (aT (ao (o0 eR) (pr 3) ae (au _))) (ai (ak (pr 5))) av)
 (ag (aL (i:=6) sc_law_row.nd rfl (Or.inl rfl) (ay (cb K) (aA (nQ) (by rfl) T.n_abs boot_abs (aa (aB D_law_any hr (by rfl) (aa (aB D_law_pick hr (by rfl) (aa (pr 0) (aa ae ah))) ah)) ah)) ae))
 (ag (aL (i:=7) sc_law_row.nd rfl (Or.inl rfl) (ay (o1 bA) (aB D_law_pick hr (by rfl) (aa (pr 0) (aa ae ah))) (pr 6)))
 (ag (aL (i:=8) sc_law_row.nd rfl (Or.inl rfl) (ay (o1 bA) (aB D_law_pick hr (by rfl) (aa (pr 0) (aa ae ah))) ae))
 (ag (aO (aT (ao (o0 eR) (pr 8) ae (au _))) (ai (aL (i:=7) sc_law_row.nd rfl (Or.inl rfl) (pr 6))) av)
 (ag (aO (aT (ao eQ (pr 8) ae (au _))) (ai (aL (i:=7) sc_law_row.nd rfl (Or.inl rfl) (xK (u1 vt) ae))) av)
 (ai (ak (ay (cb K) (cN (aa aD (aa (ba (b9) (by rfl) T.n_str boot_str (aa (pr 6) ah)) (aa (ba (b9) (by rfl) T.n_str boot_str (aa (pr 7) ah)) ah)))) (pr 5)))))))))))))),?_⟩
 have hs:sizeLine=16777216:=sizeLine_eq;refine bq (fun σ H'=>∃p,H' p=some (.lst (some9.map V.str))∧σ=[some (.ref a),some (.int nv),some (.ref p),none,none,none,none,none,none]∧aw H H') ?_ ?_
 ·intro u' hu
  walk_at "rd";exact⟨by omega,fun p hp=>hu _ _ ⟨p,af,rfl,aH hp⟩⟩
 rintro _ H1 ⟨p,hp1,rfl,s1⟩;refine bq (fun σ H'=>∃kd:Int,0≤kd∧kd < 13∧σ=[some (.ref a),some (.int nv),some (.ref p),some (.int kd),none,none,none,none,none]∧aw H1 H') ?_ ?_
 ·intro u' hu
  walk_at "rd";refine⟨a,ns,_,rfl,s1.seq ha,by decide,fun H2 s2=>⟨_,rfl,by decide,hu _ _ ⟨_,ac8 _ (by decide),ad3 _ (by decide),rfl,s2⟩⟩⟩
 rintro _ H2 ⟨kd,k0,k1,rfl,s2⟩;have hp2:=s2 _ _ hp1;refine bq (fun σ H'=>∃(wd sg:Str),cv wd=some sg∧wd.length≤42∧σ=[some (.ref a),some (.int nv),some (.ref p),some (.int kd),some (.str wd),none,none,none,none]∧aw H1 H') ?_ ?_
 ·intro u' hu
  walk_at "rd";refine⟨by omega,fun q hq=>cX (by rw [aj (ar hp2 hq)];exact hp2) af (by simp only [aa1,aa8,ae4];omega) fun r hr=>?_⟩;obtain⟨x,hx⟩:=iW (xs:=(some9++ve).map V.str) (c:=kd) (m:=13) (by decide) (by decide);rw [Int.emod_eq_of_lt k0 k1]at hx
  obtain⟨y,⟨y1,y2⟩,rfl⟩:=ml (P:=fun x=>∃z:Str,((cv z).isSome=true∧z.length≤42)∧x=.str z) (fun x hx=>by
   obtain⟨z,hz,rfl⟩:=ag3.mp hx
   exact⟨z,xa z hz,rfl⟩) hx
  obtain⟨sg,hsg⟩:=Option.isSome_iff_exists.mp y1;exact aX (bf.of af) hx (hu _ _ ⟨y,sg,hsg,y2,rfl,(s2.upd hq).upd hr⟩)
 clear hp2 s2;rintro _ H3 ⟨wd,sg,hsg,hwd,rfl,s2⟩;have s3:=s1.trans s2;refine bq (fun σ H'=>∃q,dv H' q 18∧σ=[some (.ref a),some (.int nv),some (.ref p),some (.int kd),some (.str wd),some (.ref q),none,none,none]∧aw H H') ?_ ?_
 ·intro u' hu
  walk_at "rd";exact⟨a,ns,wd,sg,nv,rfl,s3.seq ha,hsg,hwd,h1,h4,fun q H' s' hq=>hu _ _ ⟨q,hq,rfl,s3.trans s'⟩⟩
 clear s1 s2 s3 hp1;rintro _ H4 ⟨q,hq,rfl,s4⟩;refine bq (fun σ H'=>σ=[some (.ref a),some (.int nv),some (.ref p),some (.int kd),some (.str wd),some (.ref q),none,none,none]∧H4=H') ?_ ?_
 ·intro u' hu
  walk_at "rd"
  split
  ·obtain⟨ws,e1,e2,e3,e4⟩:=hq
   exact k _ _ s4 ⟨ws,e1,e2,by omega,e4⟩
  ·exact hu _ _ ⟨rfl,rfl⟩
 rintro _ _ ⟨rfl,rfl⟩;refine bq (fun σ H'=>∃m:Int,1≤m∧m≤1000000000000000000000000000000000000000∧σ=[some (.ref a),some (.int nv),some (.ref p),some (.int kd),some (.str wd),some (.ref q),some (.int m),none,none]∧aw H4 H') ?_ ?_
 ·intro u' hu
  walk_at "rd";refine⟨a,ns,_,rfl,s4.seq ha,by decide,fun H5 s5=>⟨_,rfl,fun v v1 v2=>⟨v,rfl,?_⟩⟩⟩;refine hu _ _ ⟨_,?_,?_,rfl,s5⟩
  ·split<;>omega
  ·split<;>omega
 rintro _ H5 ⟨m,m1,m2,rfl,s5⟩;refine bq (fun σ H'=>∃t:Int,-1≤t∧t≤1000000000000000000000000000000000000000∧σ=[some (.ref a),some (.int nv),some (.ref p),some (.int kd),some (.str wd),some (.ref q),some (.int m),some (.int t),none]∧aw H4 H') ?_ ?_
 ·intro u' hu
  walk_at "rd";refine⟨a,ns,_,rfl,(s4.trans s5).seq ha,by decide,fun H6 s6=>⟨_,rfl,by omega,?_⟩⟩;have y0:=ac8 (fR ns 22) (show m≠0 by omega);have y1:=ad3 (fR ns 22) (show 0 < m by omega);exact hu _ _ ⟨_,by omega,by omega,rfl,s5.trans s6⟩
 rintro _ H6 ⟨t,t1,t2,rfl,s6⟩;clear s5;refine bq (fun σ H'=>∃e:Int,σ=[some (.ref a),some (.int nv),some (.ref p),some (.int kd),some (.str wd),some (.ref q),some (.int m),some (.int t),some (.int e)]∧aw H4 H') ?_ ?_
 ·intro u' hu
  walk_at "rd";exact⟨a,ns,_,rfl,(s4.trans s6).seq ha,by decide,fun H7 s7=>⟨_,rfl,by decide,hu _ _ ⟨_,rfl,s6.trans s7⟩⟩⟩
 clear s6;rintro _ H7 ⟨e,rfl,s7⟩;refine bq (fun σ H'=>∃t:Int,-1≤t∧t≤1000000000000000000000000000000000000000∧σ=[some (.ref a),some (.int nv),some (.ref p),some (.int kd),some (.str wd),some (.ref q),some (.int m),some (.int t),some (.int e)]∧H7=H') ?_ ?_
 ·intro u' hu
  walk_at "rd"
  split
  ·exact hu _ _ ⟨m,by omega,m2,rfl,rfl⟩
  ·exact hu _ _ ⟨t,t1,t2,rfl,rfl⟩
 clear t1 t2;rintro _ _ ⟨t,t1,t2,rfl,rfl⟩;refine bq (fun σ H'=>∃t:Int,-1≤t∧t≤1000000000000000000000000000000000000000∧σ=[some (.ref a),some (.int nv),some (.ref p),some (.int kd),some (.str wd),some (.ref q),some (.int m),some (.int t),some (.int e)]∧H7=H') ?_ ?_
 ·intro u' hu
  walk_at "rd"
  split
  ·exact hu _ _ ⟨-1,by omega,by omega,rfl,rfl⟩
  ·exact hu _ _ ⟨t,t1,t2,rfl,rfl⟩
 clear t1 t2;rintro _ _ ⟨t,t1,t2,rfl,rfl⟩;walk_at "rd";have Ad:=Ae
 have hm:m.natAbs < 10 ^ 40:=by omega
 have ht:t.natAbs < 10 ^ 40:=by omega
 obtain⟨ws,e1,e2,e3,e4⟩:=hq;have e1':=s7 _ _ e1;refine⟨gu hm,gu ht,by omega,fun r hr=>cX af (by rw [aj (ar e1' hr)];exact e1') (by simp only [aa1,aa8,ae4];omega) fun x hx=>?_⟩;refine k _ _ (((s4.trans s7).upd hr).upd hx) ⟨Str.ofString "every"::iN m::iN t::ws,af,by simp only [aa8];omega,by simp only [aa8];omega,gT (by decide +kernel) (gT (ad9 (gy hm)) (gT (ad9 (gy ht)) e4))⟩
end
def jW(K:Frag):Sp:=fun vs H Q _=>∃(q:Addr) (c t nv:Int),vs=[.ref q,.int c,.int t,.int nv]∧dv H q 21∧1≤nv∧nv≤4∧∀z H',aw H H'→z.length≤9000→Q (.str z) H'
theorem d3{z:Str}{n m:Nat}{ys:List Str}(e:z=⟨#[n]⟩)(h:∀y∈ys,y.length≤m):(ys.map (fun x=>x.length)).sum+ys.length * z.length≤ys.length * (m+1)∧(Txt.join z ys).length≤ys.length * (m+1):=by
 subst e;have e1:(⟨#[n]⟩:Str).length=1:=rfl
 constructor
 ·have:=StrLaws.sumLen_le (B:=m) ys h
  rw [e1,Nat.mul_add];omega
 ·rw [az,pU]
  have:=lz n (ys.map fun z=>z.cps.toList) m (fun p hp=>by
   obtain⟨y,hy,rfl⟩:=ag3.mp hp;rw [←az]
   exact h y hy)
  rwa [aa1]at this
def WL(H:Hp)(p:Addr)(n:Nat):Prop:=∃ws:List Str,H p=some (.lst (ws.map V.str))∧ws.length≤n∧∀y∈ws,y.length≤42
theorem WL.same{H H':Hp}{p:Addr}{n:Nat}(h:WL H p n)(s:aw H H'):WL H' p n:=let ⟨ws,e1,e2⟩:=h;⟨ws,s _ _ e1,e2⟩
theorem vy{H:Hp}{p:Addr}{z:Str}(h:z.length≤42):WL (upd H p (.lst [.str z])) p 1:=⟨[z],af,aa3 _,gT h fun _ h=>by cases h⟩
theorem nk{K:Frag}{H:Hp}{a:Addr}{n:Nat}{lo hi:Option Int}{Q:VK}(h:WL H a n)(q:∀p H',aw H H'→WL H' p n→Q (.ref p) H'):qi K (.ref a) lo hi H Q:=by
 obtain⟨ws,e1,e2,e3⟩:=h;refine bj (bf.of e1) fun p hp=>q p _ (aH hp) ⟨(ws.drop (HT.sIx (ws.map V.str).length 0 lo)).take (HT.sIx (ws.map V.str).length (ws.map V.str).length hi - HT.sIx (ws.map V.str).length 0 lo),?_,?_,fun m hm=>e3 m (List.mem_of_mem_drop (List.mem_of_mem_take hm))⟩
 ·rw [af]
  unfold gs;rw [ad5,List.map_drop]
 ·rw [ad0,ae0]
  omega
theorem jd{K:Frag}{H:Hp}{a b:Addr}{n m:Nat}{Q:VK}(h1:WL H a n)(h2:WL H b m)(hn:n+m≤200)(q:∀p H',aw H H'→WL H' p (n+m)→Q (.ref p) H'):cE K (.ref a) (.ref b) H Q:=by
 obtain⟨ws,e1,e2,e3⟩:=h1;obtain⟨us,f1,f2,f3⟩:=h2;have hs:sizeLine=16777216:=sizeLine_eq;refine cX e1 f1 (by rw [aa1,aa1];omega) fun p hp=>q p _ (aH hp) ⟨ws++us,by rw [af,ac9],by rw [ab9];omega,rH e3 f3⟩
theorem mC{K:Frag}{H:Hp}{a:Addr}{n:Nat}{Q:VK}(h:WL H a n)(hn:n≤200)(k:∀z:Str,z.length≤8800→Q (.str z) H):∃p,V.ref a=V.ref p∧∃x:List Str,bf K H p (x.map V.str)∧(x.map (fun x=>x.length)).sum+x.length * (Str.ofString " ").length≤16777216∧Q (.str (Txt.join (Str.ofString " ") x)) H:=by
 obtain⟨ws,e1,e2,e3⟩:=h
 have:=d3 (n:=32) (show Str.ofString " "=⟨#[32]⟩by decide +kernel) e3
 exact⟨a,rfl,ws,bf.of e1,by omega,k _ (by omega)⟩
section
variable {P:Program} {w:World} {K:Frag} {mg:Str→Option Value} {base:Heap} {aM:Addr}
theorem sC{f:Addr}{fd:FuncData}(F:cj K "_law_spoilt" "_law_spoilt" eC f fd)(T:Txt mg aM)(D_law_other:bW P w K mg base "_law_other" 1 ["_law_cell","_law_voices"] ny):aC P w K mg base bC 2 f fd ["_law_words","_law_cell","_law_at","_law_voices"] (jW K):=by
 refine F.ok sc_law_spoilt (fun vs H Q E h=>?_) (fun cdv A outer s H vs Q E hr h=>?_)
 ·obtain⟨q,c,t,nv,rfl,_⟩:=h
  rfl
 obtain⟨q,c,t,nv,rfl,hq,h1,h4,k⟩:=h
 refine⟨_,(ag (aL (i:=1) sc_law_spoilt.nd rfl (Or.inl rfl) (ay (o1 bA) (pr 1) (ay (o1 e8) ae ae)))
 (ag (aL (i:=2) sc_law_spoilt.nd rfl (Or.inl rfl) (ay (o1 bA) (pr 2) (ay (o1 e8) ae ae)))
 (ag (aL (i:=4) sc_law_spoilt.nd rfl (Or.inl rfl) (ay (o1 bA) (pr 2) (aA (aY K) (by rfl) T.n_len boot_len (aa (pr 0) ah))))
 (ag (aL (i:=5) sc_law_spoilt.nd rfl (Or.inl rfl) (ay (o1 bA) (pr 1) ae))
 (ag (aO (aT (ao eQ (pr 5) ae (au _))) (ai (ak (cy K PySem.F.plainAttrs_str PySem.F.slot_str_join PySem.F.type_str_join (dC K) aD (aa (ay (cb K) (ax (bF K) (pr 0) aG (bD (pr 4))) (ax (bF K) (pr 0) (bD (ay (cb K) (pr 4) ae)) aG)) ah)))) av)
 (ag (aO (aT (ao eQ (pr 5) ae (au _))) (ai (ak (cy K PySem.F.plainAttrs_str PySem.F.slot_str_join PySem.F.type_str_join (dC K) aD (aa (ay (cb K) (ay (cb K) (ax (bF K) (pr 0) aG (bD (pr 4))) (cN (aa (aB D_law_other hr (by rfl) (aa (ay (o1 bZ) (pr 1) ae) (aa (pr 3) ah))) ah))) (ax (bF K) (pr 0) (bD (pr 4)) aG)) ah)))) av)
 (ag (aO (aT (ao eQ (pr 5) ae (au _))) (ai (ak (cy K PySem.F.plainAttrs_str PySem.F.slot_str_join PySem.F.type_str_join (dC K) aD (aa (ay (cb K) (ax (bF K) (pr 0) aG (bD (ay (cb K) (pr 4) ae))) (ax (bF K) (pr 0) (bD (pr 4)) aG)) ah)))) av)
 (ag (aO (aT (ao eQ (pr 5) ae (au _))) (ag (aL (i:=6) sc_law_spoilt.nd rfl (Or.inl rfl) (ay (cb K) (ax (bF K) (pr 0) (bD (ay (cb K) (pr 4) ae)) (bD (ay (cb K) (pr 4) ae))) (cN (aa (aK (aZ K) (pr 0) (pr 4) (fun _ _=>rfl)) ah))))
 (ai (ak (cy K PySem.F.plainAttrs_str PySem.F.slot_str_join PySem.F.type_str_join (dC K) aD (aa (ay (cb K) (ay (cb K) (ax (bF K) (pr 0) aG (bD (pr 4))) (pr 6)) (ax (bF K) (pr 0) (bD (ay (cb K) (pr 4) ae)) aG)) ah))))) av)
 (ag (aL (i:=7) sc_law_spoilt.nd rfl (Or.inl rfl) (cy K PySem.F.plainAttrs_str PySem.F.slot_str_join PySem.F.type_str_join (dC K) aD (aa (pr 0) ah)))
 (ag (aO (aT (ao eQ (pr 5) ae (au _))) (ag (aL (i:=4) sc_law_spoilt.nd rfl (Or.inl rfl) (ay (o1 bA) (pr 2) (ay (cb K) (aA (aY K) (by rfl) T.n_len boot_len (aa (pr 7) ah)) ae)))
 (ai (ak (ay (cb K) (ay (cb K) (ax (bF K) (pr 7) aG (bD (pr 4))) (aK (aZ K) aD (ay (o1 bA) (ay (o1 bZ) (pr 1) ae) ae) (fun _ _=>rfl))) (ax (bF K) (pr 7) (bD (pr 4)) aG))))) av)
 (ag (aL (i:=0) sc_law_spoilt.nd rfl (Or.inl rfl) (ba (cu K) (by rfl) T.n_list boot_list (aa (pr 0) ah)))
 (ag (yy (aB D_law_other hr (by rfl) (aa (ay (o1 bZ) (pr 1) ae) (aa (pr 3) ah))) (yu (pr 0) (pr 4) vd))
 (ai (ak (cy K PySem.F.plainAttrs_str PySem.F.slot_str_join PySem.F.type_str_join (dC K) aD (aa (pr 0) ah)))))))))))))))),?_⟩
 have hs:sizeLine=16777216:=sizeLine_eq;obtain⟨ws,e1,e2,e3,e4⟩:=hq;have hp:bf K H q (ws.map V.str):=bf.of e1;have hw:WL H q 21:=⟨ws,e1,e3,e4⟩;refine bq (fun σ H'=>∃c:Int,0≤c∧σ=[some (.ref q),some (.int c),some (.int t),some (.int nv),none,none,none,none]∧H=H') ?_ ?_
 ·intro u' hu
  walk_at "rd";rw [Ac];exact⟨⟨by decide,by decide,by decide⟩,by decide,hu _ _ ⟨_,ac8 c (by decide),rfl,rfl⟩⟩
 rintro _ _ ⟨c,c0,rfl,rfl⟩;refine bq (fun σ H'=>∃t:Int,0≤t∧σ=[some (.ref q),some (.int c),some (.int t),some (.int nv),none,none,none,none]∧H=H') ?_ ?_
 ·intro u' hu
  walk_at "rd";rw [Ac];exact⟨⟨by decide,by decide,by decide⟩,by decide,hu _ _ ⟨_,ac8 t (by decide),rfl,rfl⟩⟩
 rintro _ _ ⟨t,t0,rfl,rfl⟩;refine bq (fun σ H'=>∃j:Nat,j < ws.length∧σ=[some (.ref q),some (.int c),some (.int t),some (.int nv),some (.int j),none,none,none]∧H=H') ?_ ?_
 ·intro u' hu
  walk_at "rd";refine⟨_,.inl hp,?_⟩;rw [aa1];walk_at "rd";have y0:=ac8 t (show(ws.length:Int)≠0 by omega);have y1:=ad3 t (show 0 < (ws.length:Int)by omega);refine⟨by omega,hu _ _ ⟨(t % (ws.length:Int)).toNat,by omega,?_,rfl⟩⟩;rw [ai1 y0]
 rintro _ _ ⟨j,hj,rfl,rfl⟩;refine bq (fun σ H'=>∃y:Int,σ=[some (.ref q),some (.int c),some (.int t),some (.int nv),some (.int j),some (.int y),none,none]∧H=H') ?_ ?_
 ·intro u' hu
  walk_at "rd";exact⟨by decide,hu _ _ ⟨_,rfl,rfl⟩⟩
 rintro _ _ ⟨y,rfl,rfl⟩;refine bq (fun σ H'=>σ=[some (.ref q),some (.int c),some (.int t),some (.int nv),some (.int j),some (.int y),none,none]∧H=H') ?_ ?_
 ·intro u' hu
  walk_at "rd"
  split
  rotate_left
  ·exact hu _ _ ⟨rfl,rfl⟩
  refine nk hw fun x1 G1 g1 w1=>nk (hw.same g1) fun x2 G2 g2 w2=>jd (w1.same g2) w2 (by decide) fun x3 G3 g3 w3=>mC w3 (by decide) fun z hz=>k _ _ ((g1.trans g2).trans g3) (by omega)
 rintro _ _ ⟨rfl,rfl⟩;refine bq (fun σ H'=>σ=[some (.ref q),some (.int c),some (.int t),some (.int nv),some (.int j),some (.int y),none,none]∧H=H') ?_ ?_
 ·intro u' hu
  walk_at "rd"
  split
  rotate_left
  ·exact hu _ _ ⟨rfl,rfl⟩
  refine nk hw fun x1 G1 g1 w1=>⟨⟨by decide,by decide⟩,_,_,rfl,h1,h4,fun z G2 g2 hz=>⟨by omega,fun x2 h2=>?_⟩⟩;refine jd ((w1.same g2).same (aH h2)) (vy hz) (by decide) fun x3 G3 g3 w3=>?_;have g13:aw H G3:=((g1.trans g2).upd h2).trans g3;exact nk (hw.same g13) fun x4 G4 g4 w4=>jd (w3.same g4) w4 (by decide) fun x5 G5 g5 w5=>mC w5 (by decide) fun z hz=>k _ _ ((g13.trans g4).trans g5) (by omega)
 rintro _ _ ⟨rfl,rfl⟩;refine bq (fun σ H'=>σ=[some (.ref q),some (.int c),some (.int t),some (.int nv),some (.int j),some (.int y),none,none]∧H=H') ?_ ?_
 ·intro u' hu
  walk_at "rd"
  split
  rotate_left
  ·exact hu _ _ ⟨rfl,rfl⟩
  refine nk hw fun x1 G1 g1 w1=>nk (hw.same g1) fun x2 G2 g2 w2=>jd (w1.same g2) w2 (by decide) fun x3 G3 g3 w3=>mC w3 (by decide) fun z hz=>k _ _ ((g1.trans g2).trans g3) (by omega)
 rintro _ _ ⟨rfl,rfl⟩;refine bq (fun σ H'=>σ=[some (.ref q),some (.int c),some (.int t),some (.int nv),some (.int j),some (.int y),none,none]∧H=H') ?_ ?_
 ·intro u' hu
  walk_at "rd"
  split
  rotate_left
  ·exact hu _ _ ⟨rfl,rfl⟩
  have hy0:(ws.map V.str)[j]?=some (.str ws[j]):=by rw [ac5,ab8 hj];rfl
  have hy1:ws[j].length≤42:=e4 _ (List.getElem_mem hj);refine nk hw fun x1 G1 g1 w1=>aX (g1.seq hp) (aU hy0) ⟨by omega,fun x2 h2=>?_⟩;refine jd (w1.same (aH h2)) (vy hy1) (by decide) fun x3 G3 g3 w3=>?_;have g13:aw H G3:=(g1.upd h2).trans g3;refine nk (hw.same g13) fun x4 G4 g4 w4=>jd w4 (w3.same g4) (by decide) fun x5 G5 g5 w5=>?_;have g15:aw H G5:=(g13.trans g4).trans g5;exact nk (hw.same g15) fun x6 G6 g6 w6=>jd (w5.same g6) w6 (by decide) fun x7 G7 g7 w7=>mC w7 (by decide) fun z hz=>k _ _ ((g15.trans g6).trans g7) (by omega)
 rintro _ _ ⟨rfl,rfl⟩;refine bq (fun σ H'=>∃z:Str,z.length≤8800∧σ=[some (.ref q),some (.int c),some (.int t),some (.int nv),some (.int j),some (.int y),none,some (.str z)]∧H=H') ?_ ?_
 ·intro u' hu
  walk_at "rd"
  have:=d3 (n:=32) (show Str.ofString " "=⟨#[32]⟩by decide +kernel) e4
  exact⟨ws,hp,by omega,hu _ _ ⟨_,by omega,rfl,rfl⟩⟩
 rintro _ _ ⟨z,hz,rfl,rfl⟩;refine bq (fun σ H'=>σ=[some (.ref q),some (.int c),some (.int t),some (.int nv),some (.int j),some (.int y),none,some (.str z)]∧H=H') ?_ ?_
 ·intro u' hu
  walk_at "rd"
  split
  rotate_left
  ·exact hu _ _ ⟨rfl,rfl⟩
  have y0:=ac8 t (show(z.length:Int)+1≠0 by omega);generalize t % ((z.length:Int)+1)=i at y0
  have l1:(Txt.slice z none (some i)).length≤z.length:=by
   rw [az,jS y0,ad0,←az];omega
  have l2:(Txt.slice z (some i) none).length≤z.length:=by
   rw [az,eF y0,ae0,←az];omega
  have l3:(Txt.slice z none (some i)).length+(Txt.slice z (some i) none).length≤z.length:=by
   rw [az,jS y0,ad0,az (Txt.slice z (some i) none),eF y0,ae0,az z];omega
  have l5:(Str.ofString " -+0.,;_ax9\n").length≤100:=by decide +kernel
  obtain⟨ch,hch⟩:=iW (xs:=(Str.ofString " -+0.,;_ax9\n").cps.toList) (c:=c / 8) (m:=12) (by decide) (by decide +kernel);have l4:(⟨#[ch]⟩:Str).length=1:=rfl;exact⟨by omega,by omega,by omega,⟨by decide,by decide⟩,by decide,by omega,ch,hch,by omega,by omega,by rw [iV];omega,k _ _ (aw.refl _) (by rw [iV,iV];omega)⟩
 rintro _ _ ⟨rfl,rfl⟩;walk_at "rd";refine⟨_,.inl hp,fun l hl=>⟨⟨by decide,by decide⟩,_,_,rfl,h1,h4,fun z G g hz=>⟨_,g _ _ af,j,x9 (k:=(j:Int)) (by omega) (by rw [aa1];omega),ws.set j z,bf.of (by rw [af,List.map_set]),?_⟩⟩⟩;have e5:∀y∈ws.set j z,y.length≤42:=fun y hy=>(List.mem_or_eq_of_mem_set hy).elim (e4 y) (fun e=>by rw [e];exact hz)
 have:=d3 (n:=32) (show Str.ofString " "=⟨#[32]⟩by decide +kernel) e5
 rw [aj4]at this;refine⟨by rw [aj4];omega,k _ _ (fun b o hb=>?_) (by omega)⟩;rw [aj (ar hb hl)];exact g _ _ (aH hl _ _ hb)
end
theorem iL:bootBuiltins "ValueError"=some (.type "ValueError"):=PyProof.Rows.Boot.«ValueError»
structure xT(mg:Str→Option Value)(aM:Addr)(K:Frag)(C cS cR c1 c2 c3 c4 c5 c6 c7 c8 c9 cA cB:Addr):Prop extends Txt mg aM where
 c_ScoreError:∃u,mg "ScoreError"=some u∧aQ (.ref cS) u
 c_BadRow:∃u,mg "BadRow"=some u∧aQ (.ref C) u
 c_Rule:∃u,mg "Rule"=some u∧aQ (.ref cR) u
 c_BadLine:∃u,mg "BadLine"=some u∧aQ (.ref c1) u
 c_TooWide:∃u,mg "TooWide"=some u∧aQ (.ref c2) u
 c_Apart:∃u,mg "Apart"=some u∧aQ (.ref c3) u
 c_Crowded:∃u,mg "Crowded"=some u∧aQ (.ref c4) u
 c_NoNumber:∃u,mg "NoNumber"=some u∧aQ (.ref c5) u
 c_Unlike:∃u,mg "Unlike"=some u∧aQ (.ref c6) u
 c_Unfit:∃u,mg "Unfit"=some u∧aQ (.ref c7) u
 c_NoLine:∃u,mg "NoLine"=some u∧aQ (.ref c8) u
 c_NoName:∃u,mg "NoName"=some u∧aQ (.ref c9) u
 c_Endless:∃u,mg "Endless"=some u∧aQ (.ref cA) u
 c_NoRow:∃u,mg "NoRow"=some u∧aQ (.ref cB) u
 x_BadRow:PySem.W.exmOne K (.ref C) (.ref C)=some true
 kS:kitOne K (.ref C) (.ref cS)=some true
 kV:kitOne K (.ref C) (.type "ValueError")=some true
 k1:kitOne K (.ref C) (.ref c1)=some false
 k2:kitOne K (.ref C) (.ref c2)=some false
 k3:kitOne K (.ref C) (.ref c3)=some false
 k4:kitOne K (.ref C) (.ref c4)=some false
 k5:kitOne K (.ref C) (.ref c5)=some false
 k6:kitOne K (.ref C) (.ref c6)=some false
 k7:kitOne K (.ref C) (.ref c7)=some false
 k8:kitOne K (.ref C) (.ref c8)=some false
 k9:kitOne K (.ref C) (.ref c9)=some false
 kA:kitOne K (.ref C) (.ref cA)=some false
 kB:kitOne K (.ref C) (.ref cB)=some false
def ix(C:Addr):Sp:=fun vs H Q _=>∃(a d:Addr) (pl q:Int),vs=[.ref a,.int q]∧sS C pl H a d∧∀H',aw H H'→Q (.bl (decide (pl=q))) H'
section
variable {P:Program} {w:World} {K:Frag} {mg:Str→Option Value} {base:Heap} {aM:Addr}
theorem qc{f C cS cR c1 c2 c3 c4 c5 c6 c7 c8 c9 cA cB:Addr}{fd:FuncData}(F:cj K "_law_refused" "_law_refused" dS f fd)(T:xT mg aM K C cS cR c1 c2 c3 c4 c5 c6 c7 c8 c9 cA cB)(DE_BadRow:rE P w K mg base "BadRow" C 8 ["self","row"] (xc C "row") yl):aC P w K mg base bC 9 f fd ["_law_e","_law_due"] (ix C):=by
 refine F.ok sc_law_refused (fun vs H Q E h=>?_) (fun cdv A outer s H vs Q E hr h=>?_)
 ·obtain⟨a,d,pl,q,rfl,_⟩:=h
  rfl
 obtain⟨a,d,pl,q,rfl,⟨ha,hd⟩,k⟩:=h
 refine⟨_,(ag (aO (PW.pt (aW (aV (aE (aA (bH K DE_BadRow (by decide +kernel) (by decide +kernel) (by decide +kernel)) (by rfl) T.n_isinstance boot_isinstance (aa (pr 0) (aa (d8 T.c_ScoreError) ah))) (fun _=>rfl))) (bc (aV (aE (aA (bH K DE_BadRow (by decide +kernel) (by decide +kernel) (by decide +kernel)) (by rfl) T.n_isinstance boot_isinstance (aa (pr 0) (aa (gz (v:=.ty "ValueError") (by rfl) T.n_ValueError iL rfl) ah))) (fun _=>rfl)))))) (ai (ak fQ)) av)
 (ag (aL (i:=2) sc_law_refused.nd rfl (Or.inl rfl) (cN (aa (aA (bH K DE_BadRow (by decide +kernel) (by decide +kernel) (by decide +kernel)) (by rfl) T.n_isinstance boot_isinstance (aa (pr 0) (aa (d8 T.c_BadLine) ah))) (aa (aA (bH K DE_BadRow (by decide +kernel) (by decide +kernel) (by decide +kernel)) (by rfl) T.n_isinstance boot_isinstance (aa (pr 0) (aa (d8 T.c_TooWide) ah))) (aa (aA (bH K DE_BadRow (by decide +kernel) (by decide +kernel) (by decide +kernel)) (by rfl) T.n_isinstance boot_isinstance (aa (pr 0) (aa (d8 T.c_Apart) ah))) (aa (aA (bH K DE_BadRow (by decide +kernel) (by decide +kernel) (by decide +kernel)) (by rfl) T.n_isinstance boot_isinstance (aa (pr 0) (aa (d8 T.c_Crowded) ah))) ah))))))
 (ag (aL (i:=2) sc_law_refused.nd rfl (Or.inl rfl) (ay (cb K) (pr 2) (cN (aa (aA (bH K DE_BadRow (by decide +kernel) (by decide +kernel) (by decide +kernel)) (by rfl) T.n_isinstance boot_isinstance (aa (pr 0) (aa (d8 T.c_NoNumber) ah))) (aa (aA (bH K DE_BadRow (by decide +kernel) (by decide +kernel) (by decide +kernel)) (by rfl) T.n_isinstance boot_isinstance (aa (pr 0) (aa (d8 T.c_Unlike) ah))) (aa (aA (bH K DE_BadRow (by decide +kernel) (by decide +kernel) (by decide +kernel)) (by rfl) T.n_isinstance boot_isinstance (aa (pr 0) (aa (d8 T.c_Unfit) ah))) (aa (aA (bH K DE_BadRow (by decide +kernel) (by decide +kernel) (by decide +kernel)) (by rfl) T.n_isinstance boot_isinstance (aa (pr 0) (aa (d8 T.c_NoLine) ah))) ah)))))))
 (ag (aO (aT (ao (uL K) fQ (ay (cb K) (pr 2) (cN (aa (aA (bH K DE_BadRow (by decide +kernel) (by decide +kernel) (by decide +kernel)) (by rfl) T.n_isinstance boot_isinstance (aa (pr 0) (aa (d8 T.c_NoName) ah))) (aa (aA (bH K DE_BadRow (by decide +kernel) (by decide +kernel) (by decide +kernel)) (by rfl) T.n_isinstance boot_isinstance (aa (pr 0) (aa (d8 T.c_Endless) ah))) (aa (aA (bH K DE_BadRow (by decide +kernel) (by decide +kernel) (by decide +kernel)) (by rfl) T.n_isinstance boot_isinstance (aa (pr 0) (aa (d8 T.c_NoRow) ah))) ah))))) (by with_unfolding_all rfl))) (ai (ak fQ)) av)
 (ai (ak (xJ (uO (aA (dw K) (by rfl) T.n_isinstance boot_isinstance (aa (mX DE_BadRow (by decide +kernel) (by decide +kernel) (by decide +kernel) iY (pr 0) rfl) (aa (gz (v:=.ty "int") (by rfl) T.n_int boot_int rfl) ah))) (xJ (uO (zO (yt (aA (dw K) (by rfl) T.n_isinstance boot_isinstance (aa (mX DE_BadRow (by decide +kernel) (by decide +kernel) (by decide +kernel) iY (pr 0) rfl) (aa (gz (v:=.ty "bool") (by rfl) T.n_bool boot_bool rfl) ah))))) (uS (fC eQ (mX DE_BadRow (by decide +kernel) (by decide +kernel) (by decide +kernel) iY (pr 0) rfl) (pr 1) (au _))))))))))))),?_⟩
 have hs:sizeLine=16777216:=sizeLine_eq;have isi:∀{c:Addr} {b:Bool} {H':Hp} {Q':VK},aw H H'→kitOne K (.ref C) (.ref c)=some b→Q' (.bl b) H'→yA K C [.ref a,.ref c] H' Q':=fun {c b H' Q'} s e q=>⟨a,d,_,_,_,rfl,s _ _ ha,rfl,fun u' h=>h,e,q⟩;refine bq (fun σ H'=>σ=[some (.ref a),some (.int q),none]∧H=H') ?_ ?_
 ·intro u' hu
  walk_at "rd";refine isi (aw.refl H) T.kS ?_;walk_at "rd";refine⟨a,d,_,_,_,rfl,ha,rfl,fun u' h=>h,T.kV,true,TruV_b.mpr rfl,?_⟩;rw [if_neg (show ¬(true=false)from fun z=>by cases z)];exact hu _ _ ⟨rfl,rfl⟩
 rintro _ _ ⟨rfl,rfl⟩;refine bq (fun σ H'=>∃p:Addr,H' p=some (.lst ((List.replicate 4 false).map V.bl))∧σ=[some (.ref a),some (.int q),some (.ref p)]∧aw H H') ?_ ?_
 ·intro u' hu
  walk_at "rd";exact isi (aw.refl H) T.k1 (isi (aw.refl H) T.k2 (isi (aw.refl H) T.k3 (isi (aw.refl H) T.k4 ⟨by omega,fun p hp=>hu _ _ ⟨p,af,rfl,aH hp⟩⟩)))
 rintro _ H1 ⟨p,hp,rfl,s1⟩;refine bq (fun σ H'=>∃p:Addr,H' p=some (.lst ((List.replicate 8 false).map V.bl))∧σ=[some (.ref a),some (.int q),some (.ref p)]∧aw H H') ?_ ?_
 ·intro u' hu
  walk_at "rd";refine isi s1 T.k5 (isi s1 T.k6 (isi s1 T.k7 (isi s1 T.k8 ⟨by omega,fun p1 hp1=>?_⟩)));refine cX ((aH hp1) _ _ hp) af (by simp;omega) fun p2 hp2=>?_;exact hu _ _ ⟨p2,af,rfl,(s1.upd hp1).upd hp2⟩
 rintro _ H2 ⟨p2,hp2,rfl,s2⟩;refine bq (fun σ H'=>σ=[some (.ref a),some (.int q),some (.ref p2)]∧aw H H') ?_ ?_
 ·intro u' hu
  walk_at "rd";refine isi s2 T.k9 (isi s2 T.kA (isi s2 T.kB ⟨by omega,fun p1 hp1=>?_⟩));refine cX ((aH hp1) _ _ hp2) af (by simp;omega) fun p3 hp3=>?_;refine .inr ⟨p3,_,rfl,.inl (bf.of af),rfl,rfl,false,rfl,?_⟩;rw [if_neg (by decide)];exact hu _ _ ⟨rfl,(s2.upd hp1).upd hp3⟩
 rintro _ H3 ⟨rfl,s3⟩;walk_at "rd";have fld:∀{Q':VK},Q' (.int pl) H3→vi C (y7 0) (Str.ofString "row") [some (.ref a),some (.int q),some (.ref p2)] H3 Q':=fun {Q'} q'=>⟨a,d,_,_,rfl,s3 _ _ ha,s3 _ _ hd,by simp [List.lookup],q'⟩;refine fld ⟨_,.int _,true,rfl,?_⟩;rw [if_pos rfl];refine fld ⟨_,.int _,false,rfl,?_⟩;rw [if_pos rfl];exact fld (rEq_ii.mpr (k _ s3))
end
def rg(K:Frag):Sp:=fun vs H Q _=>∃(a:Addr) (ns:List Int),vs=[.ref a]∧bf K H a (ns.map V.int)∧(∀x∈ns,x.natAbs < 2 ^ GB)∧ns.length≤63∧∀H',Q (.bl true) H'
theorem xn{ie ir:Nat}{C:Addr}{T:TX}{D:eU}{σ:L2.St}{H:Hp}(Pv:L2.St→Hp→Prop)(h:∀u2,(∀σ H,Pv σ H→u2 σ H)→rC ie ir C T { D with nx:=u2 } σ H)(hp:∀σ H,Pv σ H→D.nx σ H):rC ie ir C T D σ H:=h D.nx hp
section
variable {P:Program} {w:World} {K:Frag} {mg:Str→Option Value} {base:Heap} {aM:Addr}
theorem sf{CR f0 f1 f2 f3 f4 f5 f6 f7 f8:Addr}{D:List (Str×V)}(e:D=[(Str.ofString "span",.ref f0),(Str.ofString "clock",.ref f1),(Str.ofString "move",.ref f2),(Str.ofString "alike",.ref f3),(Str.ofString "back",.ref f4),(Str.ofString "held",.ref f5),(Str.ofString "times",.ref f6),(Str.ofString "begin",.ref f7),(Str.ofString "close",.ref f8)])
  (h0:dA P w K mg base 7 f0 ["row","numbers","voices"] (bY P w K mg base CR (di 2))) (h1:dA P w K mg base 7 f1 ["row","numbers","voices"] (bY P w K mg base CR cn)) (h2:dA P w K mg base 7 f2 ["row","numbers","voices"] (bY P w K mg base CR (di 1))) (h3:dA P w K mg base 7 f3 ["row","numbers","voices"] (bY P w K mg base CR (di 2))) (h4:dA P w K mg base 7 f4 ["row","numbers","voices"] (bY P w K mg base CR de)) (h5:dA P w K mg base 7 f5 ["row","numbers","voices"] (bY P w K mg base CR dh)) (h6:dA P w K mg base 7 f6 ["row","numbers","voices"] (bY P w K mg base CR cq)) (h7:dA P w K mg base 7 f7 ["row","numbers","voices"] (bY P w K mg base CR (di 1))) (h8:dA P w K mg base 7 f8 ["row","numbers","voices"] (bY P w K mg base CR (di 1))):gN P w K mg base CR D:=by
 refine⟨fun k=>?_⟩;subst e;unfold eP;simp only [KTD.datumAt,decide_eq_true_eq]
 by_cases c0:k=Str.ofString "span"
 ·rw [if_pos c0,if_pos c0]
  exact .inl ⟨_,_,rfl,rfl,h0⟩
 rw [if_neg c0,if_neg c0]
 by_cases c1:k=Str.ofString "clock"
 ·rw [if_pos c1,if_pos c1]
  exact .inl ⟨_,_,rfl,rfl,h1⟩
 rw [if_neg c1,if_neg c1]
 by_cases c2:k=Str.ofString "move"
 ·rw [if_pos c2,if_pos c2]
  exact .inl ⟨_,_,rfl,rfl,h2⟩
 rw [if_neg c2,if_neg c2]
 by_cases c3:k=Str.ofString "alike"
 ·rw [if_pos c3,if_pos c3]
  exact .inl ⟨_,_,rfl,rfl,h3⟩
 rw [if_neg c3,if_neg c3]
 by_cases c4:k=Str.ofString "back"
 ·rw [if_pos c4,if_pos c4]
  exact .inl ⟨_,_,rfl,rfl,h4⟩
 rw [if_neg c4,if_neg c4]
 by_cases c5:k=Str.ofString "held"
 ·rw [if_pos c5,if_pos c5]
  exact .inl ⟨_,_,rfl,rfl,h5⟩
 rw [if_neg c5,if_neg c5]
 by_cases c6:k=Str.ofString "times"
 ·rw [if_pos c6,if_pos c6]
  exact .inl ⟨_,_,rfl,rfl,h6⟩
 rw [if_neg c6,if_neg c6]
 by_cases c7:k=Str.ofString "begin"
 ·rw [if_pos c7,if_pos c7]
  exact .inl ⟨_,_,rfl,rfl,h7⟩
 rw [if_neg c7,if_neg c7]
 by_cases c8:k=Str.ofString "close"
 ·rw [if_pos c8,if_pos c8]
  exact .inl ⟨_,_,rfl,rfl,h8⟩
 rw [if_neg c8,if_neg c8];exact .inr ⟨rfl,rfl⟩
theorem yn{f C cS cR c1 c2 c3 c4 c5 c6 c7 c8 c9 cA cB:Addr}{fd:FuncData}{D:List (Str×V)}(F:cj K "law" "law" lH f fd)(T:xT mg aM K C cS cR c1 c2 c3 c4 c5 c6 c7 c8 c9 cA cB)(tab:gR K aM D)(M:gN P w K mg base cR D)(D_law_pick:bW P w K mg base "_law_pick" 10 ["_law_script","_law_at"] (jV K))(D_law_row:bW P w K mg base "_law_row" 10 ["_law_script","_law_voices"] (vf K))(D_law_spoilt:bW P w K mg base "_law_spoilt" 10 ["_law_words","_law_cell","_law_at","_law_voices"] (jW K))
  (D_law_size:bW P w K mg base "_law_size" 10 ["_law_text","_law_voices"] nu) (D_law_refused:bW P w K mg base "_law_refused" 10 ["_law_e","_law_due"] (ix C)) (DD_read_rule:sU P w K mg base "read_rule" 10 ["text","voices","row"] (sL P w K mg base aM cR C) [.int 0]) (DK_read_rule:sV P w K mg base "read_rule" 10 ["text","voices","row"] ["row"] (sL P w K mg base aM cR C) g2) :
  aC P w K mg base bC 11 f fd ["_law_script"] (rg K):=by
 refine F.ok sc_law (fun vs H Q E h=>?_) (fun cdv A outer s H vs Q E hr h=>?_)
 ·obtain⟨a,ns,rfl,_⟩:=h
  rfl
 obtain⟨a,ns,rfl,hS,hB,hn,k⟩:=h
 refine⟨_,(ag (aL (i:=1) sc_law.nd rfl (Or.inl rfl) (ay (cb K) ae (ay (o1 bA) (aB D_law_pick hr (by rfl) (aa (pr 0) (aa ae ah))) ae)))
 (ag (aL (i:=2) sc_law.nd rfl (Or.inl rfl) (aB D_law_row hr (by rfl) (aa (pr 0) (aa (pr 1) ah))))
 (ag (aL (i:=3) sc_law.nd rfl (Or.inl rfl) (cy K PySem.F.plainAttrs_str PySem.F.slot_str_join PySem.F.type_str_join (dC K) aD (aa (pr 2) ah)))
 (ag (aO (aT (ao eQ (ay (o1 bA) (aB D_law_pick hr (by rfl) (aa (pr 0) (aa ae ah))) ae) ae (au _))) (ag (aL (i:=4) sc_law.nd rfl (Or.inl rfl) (ay (o1 bZ) (ay (o1 bA) (aB D_law_pick hr (by rfl) (aa (pr 0) (aa ae ah))) (ay (p4 K) ae (ay (o1 e8) ae ae))) ae))
 (ai (aL (i:=3) sc_law.nd rfl (Or.inl rfl) (aB D_law_spoilt hr (by rfl) (aa (pr 2) (aa (pr 4) (aa (aB D_law_pick hr (by rfl) (aa (pr 0) (aa ae ah))) (aa (pr 1) ah)))))))) av)
 (ag (aL (i:=5) sc_law.nd rfl (Or.inl rfl) (ay (o1 bA) (aB D_law_pick hr (by rfl) (aa (pr 0) (aa ae ah))) ae))
 (ag (aL (i:=6) sc_law.nd rfl (Or.inl rfl) (aB D_law_size hr (by rfl) (aa (pr 3) (aa (pr 1) ah))))
 (ag (jH PassesOwn.never rfl (fE rfl T.n_range (aa ae ah)) (cC (i:=7) sc_law.nd rfl (Or.inl rfl))
 (ag (aL (i:=8) sc_law.nd rfl (Or.inl rfl) aP)
 (ag (aL (i:=9) sc_law.nd rfl (Or.inl rfl) aP)
 (ag (wK (ie:=10) (ir:=8) rfl rfl rfl T.x_BadRow (by rfl) T.c_BadRow sc_law.nd rfl rfl rfl (Or.inl rfl) (Or.inl rfl) (zT (aT (ao eQ (pr 7) ae (au _))) (uX (iv:=9) sc_law.nd rfl (Or.inl rfl) (Or.inl rfl) (uZ DK_read_rule hr (by rfl) (aa (pr 3) (aa (pr 1) ah)) (wH (pr 5) yx))) (uX (iv:=9) sc_law.nd rfl (Or.inl rfl) (Or.inl rfl) (uY DD_read_rule hr (by rfl) (aa (pr 3) (aa (pr 1) ah))))))
 (ai (aO (aT (ao e7 (pr 6) aP (au _))) (ai (aO (PW.pt (aW (aT (ao e7 (pr 8) aP (au _))) (bc (aV (aE (aB D_law_refused hr (by rfl) (aa (pr 8) (aa (ay (p4 K) (pr 5) (ay (o0 e9) ae (pr 7))) ah))) (fun _=>rfl)))))) (ai (ak fQ)) av)) (ai (aO (PW.pt (aW (aT (ao wA (pr 8) aP (au _))) (aW (aV (aE (aA (mq K) (by rfl) T.n_isinstance boot_isinstance (aa (pr 9) (aa (d8 T.c_Rule) ah))) (fun _=>rfl))) (bc (aT (ao qW (lD P w K mg base hr (pr 9)) (pr 3) (au _))))))) (ai (ak fQ)) (ag (aL (i:=11) sc_law.nd rfl (Or.inl rfl) (lD P w K mg base hr (pr 9)))
 (ai (aO (PW.pt (aW (aV (aE (aA (dw K) (by rfl) T.n_isinstance boot_isinstance (aa (pr 11) (aa (gz (v:=.ty "int") (by rfl) T.n_int boot_int rfl) ah))) (fun _=>rfl))) (aW (aE (aA (dw K) (by rfl) T.n_isinstance boot_isinstance (aa (pr 11) (aa (gz (v:=.ty "bool") (by rfl) T.n_bool boot_bool rfl) ah))) (fun _=>rfl)) (bc (aT (ao qW (pr 11) (pr 6) (au _))))))) (ai (ak fQ)) av)))))))))))
 (ai (ak fQ))))))))),?_⟩
 have hs:sizeLine=16777216:=sizeLine_eq;refine bq (fun σ H'=>∃nv:Int,1≤nv∧nv≤4∧σ=[some (.ref a),some (.int nv),none,none,none,none,none,none,none,none,none,none]∧aw H H') ?_ ?_
 ·intro u' hu
  walk_at "rd";exact⟨a,ns,_,rfl,hS,by decide,fun H1 s1=>⟨_,rfl,by decide,hu _ _ ⟨_,by omega,by omega,rfl,s1⟩⟩⟩
 rintro _ H1 ⟨nv,n1,n4,rfl,s1⟩;refine bq (fun σ H'=>∃q,dv H' q 21∧σ=[some (.ref a),some (.int nv),some (.ref q),none,none,none,none,none,none,none,none,none]∧aw H H') ?_ ?_
 ·intro u' hu
  walk_at "rd";exact⟨a,ns,nv,rfl,s1.seq hS,n1,n4,fun q H2 s2 hq=>hu _ _ ⟨q,hq,rfl,s1.trans s2⟩⟩
 clear s1;rintro _ H2 ⟨q,hq,rfl,s2⟩;refine bq (fun σ H'=>∃z:Str,z.length≤9000∧σ=[some (.ref a),some (.int nv),some (.ref q),some (.str z),none,none,none,none,none,none,none,none]∧H2=H') ?_ ?_
 ·intro u' hu
  walk_at "rd";obtain⟨ws,e1,e2,e3,e4⟩:=hq
  have:=d3 (n:=32) (show Str.ofString " "=⟨#[32]⟩by decide +kernel) e4
  exact⟨ws,bf.of e1,by omega,hu _ _ ⟨_,by omega,rfl,rfl⟩⟩
 rintro _ _ ⟨z,hz,rfl,rfl⟩;refine bq (fun σ H'=>∃(z:Str) (o4:Option V),z.length≤9000∧σ=[some (.ref a),some (.int nv),some (.ref q),some (.str z),o4,none,none,none,none,none,none,none]∧aw H H') ?_ ?_
 ·intro u' hu
  refine cK fun A0 B0 hA hB=>?_;walk_at "rd";refine⟨a,ns,_,rfl,s2.seq hS,by decide,fun H3 s3=>⟨_,rfl,by decide,?_⟩⟩;have s3':=s2.trans s3
  split
  ·refine hA _ ?_
   walk_at "rd";rw [Ac];refine⟨a,ns,_,rfl,s3'.seq hS,by decide,fun H4 s4=>⟨⟨by decide,by decide,by decide⟩,.of_left (by decide),_,rfl,by decide,⟨by decide,by decide⟩,?_⟩⟩;have s4':=s3'.trans s4;refine⟨a,ns,_,rfl,s4'.seq hS,by decide,fun H5 s5=>⟨q,_,_,nv,rfl,?_,n1,n4,fun y H6 s6 hy=>hu _ _ ⟨y,_,hy,rfl,(s4'.trans s5).trans s6⟩⟩⟩;obtain⟨ws,e1,e2⟩:=hq;exact⟨ws,s5 _ _ (s4 _ _ (s3 _ _ e1)),e2⟩
  ·exact hB _ (hu _ _ ⟨z,none,hz,rfl,s3'⟩)
 clear s2 hz hq;rintro _ H3 ⟨z,o4,hz,rfl,s3⟩;refine bq (fun σ H'=>∃pl:Int,0≤pl∧pl < 1000∧σ=[some (.ref a),some (.int nv),some (.ref q),some (.str z),o4,some (.int pl),none,none,none,none,none,none]∧aw H H') ?_ ?_
 ·intro u' hu
  walk_at "rd";exact⟨a,ns,_,rfl,s3.seq hS,by decide,fun H4 s4=>⟨_,rfl,by decide,hu _ _ ⟨_,ac8 _ (by decide),ad3 _ (by decide),rfl,s3.trans s4⟩⟩⟩
 clear s3;rintro _ H4 ⟨pl,p0,p1,rfl,s4⟩;refine bq (fun σ H'=>σ=[some (.ref a),some (.int nv),some (.ref q),some (.str z),o4,some (.int pl),some (ib (nL z nv)),none,none,none,none,none]) ?_ ?_
 ·intro u' hu
  walk_at "rd";exact⟨z,nv,rfl,hz,fun H' _=>hu _ _ rfl⟩
 rintro _ H5 rfl;clear s4;refine bq (fun σ H'=>∃o7 o8 o9 o11,σ=[some (.ref a),some (.int nv),some (.ref q),some (.str z),o4,some (.int pl),some (ib (nL z nv)),o7,o8,o9,none,o11]) ?_ ?_
 ·intro u' hu
  walk_at "rd";refine⟨by decide,by decide,?_⟩;refine fZ (fun i σ H'=>∃o7 o8 o9 o11,σ=[some (.ref a),some (.int nv),some (.ref q),some (.str z),o4,some (.int pl),some (ib (nL z nv)),o7,o8,o9,none,o11]) ⟨none,none,none,none,rfl⟩ ?_ ?_
  ·rintro i σ H6 hi ⟨o7,o8,o9,o11,rfl⟩
   walk_at "rd";refine xn (fun σ H'=>(nL z nv=none∧∃e d,sS C (pl * (1 - (i:Int))) H' e d∧σ=[some (.ref a),some (.int nv),some (.ref q),some (.str z),o4,some (.int pl),some (ib (nL z nv)),some (.int i),some (.ref e),some .non,none,o11])∨(∃sz r,nL z nv=some sz∧br P w K mg base cR z sz r H'∧σ=[some (.ref a),some (.int nv),some (.ref q),some (.str z),o4,some (.int pl),some (ib (nL z nv)),some (.int i),some .non,some (.ref r),none,o11])) (fun u2 hu2=>?_) ?_
   ·simp only [rC,AO,z6,vB,vA]
    walk_at "rd";simp only [g2]
    by_cases hi0:(i:Int)=0
    ·rw [if_pos hi0]
     have e1:pl * (1 - (i:Int))=pl:=by rw [hi0,Int.sub_zero,Int.mul_one]
     exact⟨z,nv,pl,D,rfl,hz,tab,M,fun hn e d H' hb s'=>⟨e,rfl,d,hb.1,hu2 _ _ (.inl ⟨hn,e,d,by rw [e1];exact hb,rfl⟩)⟩,fun sz hn r H' s' R=>hu2 _ _ (.inr ⟨sz,r,hn,R,rfl⟩)⟩
    ·rw [if_neg hi0]
     have e1:pl * (1 - (i:Int))=0:=by rw [show(i:Int)=1 by omega,Int.sub_self,Int.mul_zero]
     exact⟨z,nv,0,D,rfl,hz,tab,M,fun hn e d H' hb s'=>⟨e,rfl,d,hb.1,hu2 _ _ (.inl ⟨hn,e,d,by rw [e1];exact hb,rfl⟩)⟩,fun sz hn r H' s' R=>hu2 _ _ (.inr ⟨sz,r,hn,R,rfl⟩)⟩
   rintro _ H7 (⟨hn,e,d,hb,rfl⟩ | ⟨sz,r,hn,R,rfl⟩)
   ·rw [hn]
    simp only [ib];walk_at "rd";refine⟨IntMulOk.of_le (m:=10) (n:=10) (intBits_le_iff.mpr (by omega)) (intBits_le_iff.mpr (by omega)) (by decide),e,d,_,_,rfl,hb,fun H' _=>⟨true,TruV_b.mpr (decide_eq_true rfl).symm,?_⟩⟩;rw [if_neg (by decide)];trivial
   ·rw [hn]
    simp only [ib];walk_at "rd";obtain⟨Cc,RI,h0,hmono,hins,m1,m2,kt⟩:=R.ex;obtain⟨dx,fs,i1,i2,i3⟩:=hins r H7 h0;refine⟨_,.ins i1 kt.cl kt.ha kt.hn kt.htk kt.hm,true,kt.kit,?_⟩;rw [if_neg (by decide)];refine⟨Cc,dx,fs,i1,i3,_,_,m2.up (by decide),r,rfl,h0,?_⟩;refine rNe_ss.mpr ⟨_,rfl,?_⟩;rw [if_neg (by rw [decide_eq_true rfl];decide)];refine⟨Cc,dx,fs,i1,i2,_,_,m1.up (by decide),r,rfl,h0,?_⟩;refine⟨_,.int _,true,rfl,?_⟩;rw [if_neg (by decide)];refine⟨_,.int _,false,rfl,?_⟩;rw [if_neg (by decide)];refine rNe_ii.mpr ⟨_,rfl,?_⟩;rw [if_neg (by rw [decide_eq_true rfl];decide)];trivial
  ·rintro σ H' ⟨o7,o8,o9,o11,rfl⟩
   exact hu _ _ ⟨o7,o8,o9,o11,rfl⟩
 rintro _ H6 ⟨o7,o8,o9,o11,rfl⟩;walk_at "rd";exact k _
end
theorem i7{us:List Value}(hl:us.length=1):∃x0,us=[x0]:=match us,hl with | [x0],_=>⟨x0,rfl⟩
theorem sR{us:List Value}(hl:us.length=2):∃x0 x1,us=[x0,x1]:=match us,hl with | [x0,x1],_=>⟨x0,x1,rfl⟩
theorem vx{us:List Value}(hl:us.length=3):∃x0 x1 x2,us=[x0,x1,x2]:=match us,hl with | [x0,x1,x2],_=>⟨x0,x1,x2,rfl⟩
theorem y8{us:List Value}(hl:us.length=4):∃x0 x1 x2 x3,us=[x0,x1,x2,x3]:=match us,hl with | [x0,x1,x2,x3],_=>⟨x0,x1,x2,x3,rfl⟩
theorem AH{us:List Value}(hl:us.length=5):∃x0 x1 x2 x3 x4,us=[x0,x1,x2,x3,x4]:=match us,hl with | [x0,x1,x2,x3,x4],_=>⟨x0,x1,x2,x3,x4,rfl⟩
theorem AN{us:List Value}(hl:us.length=6):∃x0 x1 x2 x3 x4 x5,us=[x0,x1,x2,x3,x4,x5]:=match us,hl with | [x0,x1,x2,x3,x4,x5],_=>⟨x0,x1,x2,x3,x4,x5,rfl⟩
theorem all_mk{l:PySem.W.OpenLaw}{w:World}{K:Frag}{h:Heap}{mg:Str→Option Value}{fa:Addr}{Zag:Addr}{Zah:Addr}{Zai:Addr}{Zaj:Addr}{Zak:Addr}{Zad:Addr}{Zae:Addr}{Zal:Addr}{Zam:Addr}{Zaf:Addr}{Zaa:Addr}{Zab:Addr}{Zbj:Addr}{Zbk:Addr}{Zbl:Addr}{Zbm:Addr}{Zbn:Addr}{Zbo:Addr}{Zbp:Addr}{Zbq:Addr}{Zbr:Addr}{Zbs:Addr}{Zbt:Addr}{Zbu:Addr}{Za0:Addr}{Zbv:FuncData}{Za1:Addr}{Zbw:FuncData}{Za2:Addr}{Zbx:FuncData}{Za3:Addr}{Zby:FuncData}{Za4:Addr}{Zbz:FuncData}{Za5:Addr}{Zb0:FuncData}{Za6:Addr}{Zb1:FuncData}{Za7:Addr}{Zb2:FuncData}{Za8:Addr}{Zb3:FuncData}{a_MAKERS:Addr}{D_MAKERS:List (Str×V)}{a_INNER_KINDS:Addr}(X:K.In h)(G:h.Ns mainGlobals mg)(hfa:mg "law"=some (.ref fa))
  (Zfj:nsIn K mainGlobals "Span"=some (some (.ref Zag)))
  (Zas:l8 K Zag)
  (Zfk:nsIn K mainGlobals "Clock"=some (some (.ref Zah)))
  (Zat:ja K Zah)
  (Zfl:nsIn K mainGlobals "Move"=some (some (.ref Zai)))
  (Zau:l7 K Zai)
  (Zfm:nsIn K mainGlobals "Alike"=some (some (.ref Zaj)))
  (Zav:i8 K Zaj)
  (Zfn:nsIn K mainGlobals "Back"=some (some (.ref Zak)))
  (Zaw:l6 K Zak)
  (Zfo:nsIn K mainGlobals "Held"=some (some (.ref Zad)))
  (Zap:iT K Zad)
  (Zfp:nsIn K mainGlobals "Times"=some (some (.ref Zae)))
  (Zaq:gn K Zae)
  (Zfq:nsIn K mainGlobals "Begin"=some (some (.ref Zal)))
  (Zax:i9 K Zal)
  (Zfr:nsIn K mainGlobals "Close"=some (some (.ref Zam)))
  (Zay:jb K Zam)
  (Zfs:nsIn K mainGlobals "Every"=some (some (.ref Zaf)))
  (Zar:gm K Zaf)
  (Zb4:nsIn K mainGlobals "Rule"=some (some (.ref Zaa)))
  (Za9:nsIn K mainGlobals "BadRow"=some (some (.ref Zab)))
  (Zb5:nsIn K mainGlobals "ScoreError"=some (some (.ref Zbj)))
  (Zb6:nsIn K mainGlobals "BadLine"=some (some (.ref Zbk)))
  (Zb7:nsIn K mainGlobals "TooWide"=some (some (.ref Zbl)))
  (Zb8:nsIn K mainGlobals "Apart"=some (some (.ref Zbm)))
  (Zb9:nsIn K mainGlobals "Crowded"=some (some (.ref Zbn)))
  (Zca:nsIn K mainGlobals "NoNumber"=some (some (.ref Zbo)))
  (Zcb:nsIn K mainGlobals "Unlike"=some (some (.ref Zbp)))
  (Zcc:nsIn K mainGlobals "Unfit"=some (some (.ref Zbq)))
  (Zcd:nsIn K mainGlobals "NoLine"=some (some (.ref Zbr)))
  (Zce:nsIn K mainGlobals "NoName"=some (some (.ref Zbs)))
  (Zcf:nsIn K mainGlobals "Endless"=some (some (.ref Zbt)))
  (Zcg:nsIn K mainGlobals "NoRow"=some (some (.ref Zbu)))
  (Zch:∃f fd,qE K Zab f ["__setattr__","__getattribute__","__getattr__","__class__","row"]∧cj K "__init__" "BadRow.__init__" cG f fd)
  (Zci:PySem.W.exmOne K (.ref Zab) (.ref Zab)=some true)
  (Zcj:kitOne K (.ref Zab) (.ref Zbj)=some true)
  (Zck:kitOne K (.ref Zab) (.type "ValueError")=some true)
  (Zcl:kitOne K (.ref Zab) (.ref Zbk)=some false)
  (Zcm:kitOne K (.ref Zab) (.ref Zbl)=some false)
  (Zcn:kitOne K (.ref Zab) (.ref Zbm)=some false)
  (Zco:kitOne K (.ref Zab) (.ref Zbn)=some false)
  (Zcp:kitOne K (.ref Zab) (.ref Zbo)=some false)
  (Zcq:kitOne K (.ref Zab) (.ref Zbp)=some false)
  (Zcr:kitOne K (.ref Zab) (.ref Zbq)=some false)
  (Zcs:kitOne K (.ref Zab) (.ref Zbr)=some false)
  (Zct:kitOne K (.ref Zab) (.ref Zbs)=some false)
  (Zcu:kitOne K (.ref Zab) (.ref Zbt)=some false)
  (Zcv:kitOne K (.ref Zab) (.ref Zbu)=some false)
  (hn_:PySem.W.specialIn K (.builtin "object.__class__") "__get__"=some (some (.builtin "getset_descriptor.__get__")))
  (htk_:PySem.W.takesIn K (.builtin "object.__class__")=some true)
  (Zcw:findIn K (.ref Zag) "__class__"=some (some (.builtin "object.__class__")))
  (Zcx:mroIn K Zag (.type "object")=some true)
  (Zcy:kitOne K (.ref Zag) (.ref Zaa)=some true)
  (Zcz:findIn K (.ref Zah) "__class__"=some (some (.builtin "object.__class__")))
  (Zc0:mroIn K Zah (.type "object")=some true)
  (Zc1:kitOne K (.ref Zah) (.ref Zaa)=some true)
  (Zc2:findIn K (.ref Zai) "__class__"=some (some (.builtin "object.__class__")))
  (Zc3:mroIn K Zai (.type "object")=some true)
  (Zc4:kitOne K (.ref Zai) (.ref Zaa)=some true)
  (Zc5:findIn K (.ref Zaj) "__class__"=some (some (.builtin "object.__class__")))
  (Zc6:mroIn K Zaj (.type "object")=some true)
  (Zc7:kitOne K (.ref Zaj) (.ref Zaa)=some true)
  (Zc8:findIn K (.ref Zak) "__class__"=some (some (.builtin "object.__class__")))
  (Zc9:mroIn K Zak (.type "object")=some true)
  (Zda:kitOne K (.ref Zak) (.ref Zaa)=some true)
  (Zdb:findIn K (.ref Zad) "__class__"=some (some (.builtin "object.__class__")))
  (Zdc:mroIn K Zad (.type "object")=some true)
  (Zdd:kitOne K (.ref Zad) (.ref Zaa)=some true)
  (Zde:findIn K (.ref Zae) "__class__"=some (some (.builtin "object.__class__")))
  (Zdf:mroIn K Zae (.type "object")=some true)
  (Zdg:kitOne K (.ref Zae) (.ref Zaa)=some true)
  (Zdh:findIn K (.ref Zal) "__class__"=some (some (.builtin "object.__class__")))
  (Zdi:mroIn K Zal (.type "object")=some true)
  (Zdj:kitOne K (.ref Zal) (.ref Zaa)=some true)
  (Zdk:findIn K (.ref Zam) "__class__"=some (some (.builtin "object.__class__")))
  (Zdl:mroIn K Zam (.type "object")=some true)
  (Zdm:kitOne K (.ref Zam) (.ref Zaa)=some true)
  (Zdn:findIn K (.ref Zaf) "__class__"=some (some (.builtin "object.__class__")))
  (Zdo:mroIn K Zaf (.type "object")=some true)
  (Zdp:kitOne K (.ref Zaf) (.ref Zaa)=some true)
  (Zdq:∃C f fd,iQ K "Rule" "__init__" "Rule.__init__" dn C f fd)
  (Zdr:∃f fd,bI K Zag "size" "Rule.size" bU f fd)
  (Zds:∃f fd,bI K Zah "size" "Rule.size" bU f fd)
  (Zdt:∃f fd,bI K Zai "size" "Rule.size" bU f fd)
  (Zdu:∃f fd,bI K Zaj "size" "Rule.size" bU f fd)
  (Zdv:∃f fd,bI K Zal "size" "Rule.size" bU f fd)
  (Zdw:∃f fd,bI K Zam "size" "Rule.size" bU f fd)
  (Zdx:∃f fd,bI K Zak "size" "Back.size" fc f fd)
  (Zdy:∃f fd,bI K Zad "size" "Held.size" fe f fd)
  (Zdz:∃f fd,bI K Zae "size" "Times.size" eg f fd)
  (Zd0:∃f fd,bI K Zaf "size" "Every.size" ee f fd)
  (Zd1:∃f fd,bI K Zag "shown" "Rule.shown" bp f fd)
  (Zd2:∃f fd,bI K Zah "shown" "Rule.shown" bp f fd)
  (Zd3:∃f fd,bI K Zai "shown" "Rule.shown" bp f fd)
  (Zd4:∃f fd,bI K Zaj "shown" "Rule.shown" bp f fd)
  (Zd5:∃f fd,bI K Zak "shown" "Rule.shown" bp f fd)
  (Zd6:∃f fd,bI K Zad "shown" "Rule.shown" bp f fd)
  (Zd7:∃f fd,bI K Zae "shown" "Rule.shown" bp f fd)
  (Zd8:∃f fd,bI K Zal "shown" "Rule.shown" bp f fd)
  (Zd9:∃f fd,bI K Zam "shown" "Rule.shown" bp f fd)
  (Zea:∃f fd,bI K Zaf "shown" "Rule.shown" bp f fd)
  (Zeb:∃f fd,gO K "Span" "Span.__init__" dq Zag f fd)
  (Zec:∃f fd,gO K "Clock" "Clock.__init__" cQ Zah f fd)
  (Zed:∃f fd,gO K "Move" "Move.__init__" dm Zai f fd)
  (Zee:∃f fd,gO K "Alike" "Alike.__init__" cO Zaj f fd)
  (Zef:∃f fd,gO K "Back" "Back.__init__" dj Zak f fd)
  (Zeg:∃f fd,gO K "Held" "Held.__init__" dk Zad f fd)
  (Zeh:∃f fd,gO K "Times" "Times.__init__" cW Zae f fd)
  (Zei:∃f fd,gO K "Begin" "Begin.__init__" cP Zal f fd)
  (Zej:∃f fd,gO K "Close" "Close.__init__" cT Zam f fd)
  (Zek:∃f fd,gO K "Every" "Every.__init__" cU Zaf f fd)
  (Zel:∃f fd,bL K "is_number" ff f fd)
  (Zem:∃f fd,bL K "has_list" gd f fd)
  (Zen:∃f fd,bL K "are_voices" ei f fd)
  (Zeo:bL K "span_of" fM Za0 Zbv)
  (Zep:bL K "clock_of" eo Za1 Zbw)
  (Zeq:bL K "move_of" fL Za2 Zbx)
  (Zer:bL K "alike_of" eh Za3 Zby)
  (Zes:bL K "back_of" fJ Za4 Zbz)
  (Zet:bL K "held_of" fK Za5 Zb0)
  (Zeu:bL K "times_of" eE Za6 Zb1)
  (Zev:bL K "begin_of" ej Za7 Zb2)
  (Zew:bL K "close_of" eu Za8 Zb3)
  (Zex:∃f fd,bL K "plain_rule" eD f fd)
  (Zey:∃f fd,bL K "every_rule" eA f fd)
  (Zez:∃f fd u,sT K "read_rule" fj f fd u∧aQ (.int 0) u)
  (Ze0:∃f fd,bL K "_law_pick" gg f fd)
  (Ze1:∃f fd,bL K "_law_number" eB f fd)
  (Ze2:∃f fd,bL K "_law_kinds" fg f fd)
  (Ze3:∃f fd,bL K "_law_plain" fi f fd)
  (Ze4:∃f fd,bL K "_law_size" gh f fd)
  (Ze5:∃f fd,bL K "_law_any" ic f fd)
  (Ze6:∃f fd,bL K "_law_lead" gf f fd)
  (Ze7:∃f fd,bL K "_law_plain_words" cH f fd)
  (Ze8:∃f fd,bL K "_law_row" ig f fd)
  (Ze9:∃f fd,bL K "_law_other" fh f fd)
  (Zfa:∃f fd,bL K "_law_spoilt" eC f fd)
  (Zfb:∃f fd,bL K "_law_refused" dS f fd)
  (n_MAKERS:nsIn K mainGlobals "MAKERS"=some (some (.ref a_MAKERS)))
  (t_MAKERS:gR K a_MAKERS D_MAKERS)
  (e_MAKERS:D_MAKERS=[(Str.ofString "span",.ref Za0),(Str.ofString "clock",.ref Za1),(Str.ofString "move",.ref Za2),(Str.ofString "alike",.ref Za3),(Str.ofString "back",.ref Za4),(Str.ofString "held",.ref Za5),(Str.ofString "times",.ref Za6),(Str.ofString "begin",.ref Za7),(Str.ofString "close",.ref Za8)])
  (n_INNER_KINDS:nsIn K mainGlobals "INNER_KINDS"=some (some (.ref a_INNER_KINDS)))
  (q_INNER_KINDS:s9 K a_INNER_KINDS [.str "span",.str "clock"])
  (z_len:nsIn K mainGlobals "len"=some none)
  (z_range:nsIn K mainGlobals "range"=some none)
  (z_all:nsIn K mainGlobals "all"=some none)
  (z_min:nsIn K mainGlobals "min"=some none)
  (z_abs:nsIn K mainGlobals "abs"=some none)
  (z_list:nsIn K mainGlobals "list"=some none)
  (z_isinstance:nsIn K mainGlobals "isinstance"=some none)
  (z_bool:nsIn K mainGlobals "bool"=some none)
  (z_int:nsIn K mainGlobals "int"=some none)
  (z_str:nsIn K mainGlobals "str"=some none)
  (z_enumerate:nsIn K mainGlobals "enumerate"=some none)
  (z_tuple:nsIn K mainGlobals "tuple"=some none)
  (z_ValueError:nsIn K mainGlobals "ValueError"=some none)
  (g_FIGURES:∃u,nsIn K mainGlobals "FIGURES"=some (some u)∧aQ (.str "0123456789") u)
  (g_MOST_FIGURES:∃u,nsIn K mainGlobals "MOST_FIGURES"=some (some u)∧aQ (.int 40) u)
  (g_MOST_NUMBERS:∃u,nsIn K mainGlobals "MOST_NUMBERS"=some (some u)∧aQ (.int 12) u)
  (Zfc:∃f fd,bL K "law" lH f fd)
  :∃fd:FuncData,(∀(s:Shared) (v:Value),BindsTo s fd ⟨[v],[]⟩ [("_law_script",v)])∧∀base:Heap,K.In base→base.Ns mainGlobals mg→aC l.prog w K mg base bC 11 fa fd ["_law_script"] (rg K):=by
 obtain⟨Zks,Zkt,Zfd⟩:=Zfc;obtain⟨Zi0,Zi1,Zft,Zfu⟩:=Zch;obtain⟨Zku,Zkv,Zkw,Zfv⟩:=Zdq;have Zfw:=Zfv.fn;obtain⟨Zkx,Zky,Zfx⟩:=Zdr;have Zfy:=Zfx.fn;obtain⟨Zkz,Zk0,Zfz⟩:=Zds;have Zf0:=Zfz.fn;obtain⟨Zk1,Zk2,Zf1⟩:=Zdt;have Zf2:=Zf1.fn;obtain⟨Zk3,Zk4,Zf3⟩:=Zdu;have Zf4:=Zf3.fn;obtain⟨Zk5,Zk6,Zf5⟩:=Zdv;have Zf6:=Zf5.fn;obtain⟨Zk7,Zk8,Zf7⟩:=Zdw;have Zf8:=Zf7.fn;obtain⟨Zk9,Zla,Zf9⟩:=Zdx;have Zga:=Zf9.fn;obtain⟨Zlb,Zlc,Zgb⟩:=Zdy;have Zgc:=Zgb.fn;obtain⟨Zld,Zle,Zgd⟩:=Zdz;have Zge:=Zgd.fn;obtain⟨Zlf,Zlg,Zgf⟩:=Zd0;have Zgg:=Zgf.fn;obtain⟨Zlh,Zli,Zgh⟩:=Zd1;have Zgi:=Zgh.fn;obtain⟨Zlj,Zlk,Zgj⟩:=Zd2;have Zgk:=Zgj.fn;obtain⟨Zll,Zlm,Zgl⟩:=Zd3;have Zgm:=Zgl.fn;obtain⟨Zln,Zlo,Zgn⟩:=Zd4;have Zgo:=Zgn.fn;obtain⟨Zlp,Zlq,Zgp⟩:=Zd5;have Zgq:=Zgp.fn;obtain⟨Zlr,Zls,Zgr⟩:=Zd6;have Zgs:=Zgr.fn;obtain⟨Zlt,Zlu,Zgt⟩:=Zd7;have Zgu:=Zgt.fn;obtain⟨Zlv,Zlw,Zgv⟩:=Zd8;have Zgw:=Zgv.fn;obtain⟨Zlx,Zly,Zgx⟩:=Zd9;have Zgy:=Zgx.fn;obtain⟨Zlz,Zl0,Zgz⟩:=Zea;have Zg0:=Zgz.fn;obtain⟨Zl1,Zl2,Zg1⟩:=Zeb;have Zg2:=Zg1.fn;obtain⟨Zl3,Zl4,Zg3⟩:=Zec;have Zg4:=Zg3.fn;obtain⟨Zl5,Zl6,Zg5⟩:=Zed;have Zg6:=Zg5.fn;obtain⟨Zl7,Zl8,Zg7⟩:=Zee;have Zg8:=Zg7.fn;obtain⟨Zl9,Zma,Zg9⟩:=Zef;have Zha:=Zg9.fn;obtain⟨Zmb,Zmc,Zhb⟩:=Zeg;have Zhc:=Zhb.fn;obtain⟨Zmd,Zme,Zhd⟩:=Zeh;have Zhe:=Zhd.fn;obtain⟨Zmf,Zmg,Zhf⟩:=Zei;have Zhg:=Zhf.fn;obtain⟨Zmh,Zmi,Zhh⟩:=Zej;have Zhi:=Zhh.fn;obtain⟨Zmj,Zmk,Zhj⟩:=Zek;have Zhk:=Zhj.fn;obtain⟨Zml,Zmm,Zhl⟩:=Zel;have Zhm:=Zhl.fn;obtain⟨Zmn,Zmo,Zhn⟩:=Zem;have Zho:=Zhn.fn;obtain⟨Zmp,Zmq,Zhp⟩:=Zen;have Zhq:=Zhp.fn;have Zba:=Zeo.fn;have Zbb:=Zep.fn;have Zbc:=Zeq.fn;have Zbd:=Zer.fn;have Zbe:=Zes.fn;have Zbf:=Zet.fn;have Zbg:=Zeu.fn;have Zbh:=Zev.fn;have Zbi:=Zew.fn;obtain⟨Zmr,Zms,Zhr⟩:=Zex;have Zhs:=Zhr.fn;obtain⟨Zmt,Zmu,Zht⟩:=Zey;have Zhu:=Zht.fn;obtain⟨Zfe,Zff,Zi2,Zfg,Zi3⟩:=Zez;obtain⟨Zmv,Zmw,Zmx,Zaz,Zhv,Zhw⟩:=Zfg.fn;obtain⟨Zmy,Zmz,Zhx⟩:=Ze0;have Zhy:=Zhx.fn;obtain⟨Zm0,Zm1,Zhz⟩:=Ze1;have Zh0:=Zhz.fn;obtain⟨Zm2,Zm3,Zh1⟩:=Ze2;have Zh2:=Zh1.fn;obtain⟨Zm4,Zm5,Zh3⟩:=Ze3;have Zh4:=Zh3.fn;obtain⟨Zm6,Zm7,Zh5⟩:=Ze4;have Zh6:=Zh5.fn;obtain⟨Zm8,Zm9,Zh7⟩:=Ze5;have Zh8:=Zh7.fn;obtain⟨Zna,Znb,Zh9⟩:=Ze6;have Zia:=Zh9.fn;obtain⟨Znc,Znd,Zib⟩:=Ze7;have Zic:=Zib.fn;obtain⟨Zne,Znf,Zid⟩:=Ze8;have Zie:=Zid.fn;obtain⟨Zng,Znh,Zif⟩:=Ze9;have Zig:=Zif.fn;obtain⟨Zni,Znj,Zih⟩:=Zfa;have Zii:=Zih.fn;obtain⟨Znk,Znl,Zij⟩:=Zfb;have Zik:=Zij.fn;obtain⟨u_FIGURES,g_FIGURES,r_FIGURES⟩:=g_FIGURES;obtain⟨u_MOST_FIGURES,g_MOST_FIGURES,r_MOST_FIGURES⟩:=g_MOST_FIGURES;obtain⟨u_MOST_NUMBERS,g_MOST_NUMBERS,r_MOST_NUMBERS⟩:=g_MOST_NUMBERS;have e:=hfa.symm.trans (mg_of X G Zfd.ns);cases e;have T:Txt mg a_MAKERS:={ n_len:=mg_none_of X G z_len,n_range:=mg_none_of X G z_range,n_all:=mg_none_of X G z_all,n_min:=mg_none_of X G z_min,n_abs:=mg_none_of X G z_abs,n_list:=mg_none_of X G z_list,n_isinstance:=mg_none_of X G z_isinstance,n_bool:=mg_none_of X G z_bool,n_int:=mg_none_of X G z_int,n_str:=mg_none_of X G z_str,n_enumerate:=mg_none_of X G z_enumerate,n_tuple:=mg_none_of X G z_tuple,n_ValueError:=mg_none_of X G z_ValueError,g_FIGURES:=⟨_,mg_of X G g_FIGURES,r_FIGURES⟩,g_MOST_FIGURES:=⟨_,mg_of X G g_MOST_FIGURES,r_MOST_FIGURES⟩,g_MOST_NUMBERS:=⟨_,mg_of X G g_MOST_NUMBERS,r_MOST_NUMBERS⟩,g_MAKERS:=⟨_,mg_of X G n_MAKERS,rfl⟩ };have TE_INNER_KINDS:zg mg a_MAKERS a_INNER_KINDS:={ T with g_INNER_KINDS:=⟨_,mg_of X G n_INNER_KINDS,rfl⟩ };obtain⟨oc,od,kV,doc,pm,an,cdv,ct,osl,rfl,lk,hcd⟩:=Zfd.fn.ex;refine⟨fnOf "law" "law" (bV lH) (bN lH) (aq lH) .none kV doc pm an cdv ct,fun s v=>.of_eq rfl,fun base _ _=>?_⟩;have Zil:rE l.prog w K mg base "BadRow" Zab 8 ["self","row"] (xc Zab "row") ["__setattr__","__getattribute__","__getattr__","__class__","row"]:=⟨Zi0,Zi1,Zft,(sx Zfu Zft).mono (by decide),mg_of X G Za9,Zfu.binds (fun _ _ _ _ _ _ us hl=>by obtain⟨_,_,rfl⟩:=sR hl;rfl)⟩;have TX:xT mg a_MAKERS K Zab Zbj Zaa Zbk Zbl Zbm Zbn Zbo Zbp Zbq Zbr Zbs Zbt Zbu:={ T with c_ScoreError:=⟨_,mg_of X G Zb5,rfl⟩,c_BadRow:=⟨_,mg_of X G Za9,rfl⟩,c_Rule:=⟨_,mg_of X G Zb4,rfl⟩,c_BadLine:=⟨_,mg_of X G Zb6,rfl⟩,c_TooWide:=⟨_,mg_of X G Zb7,rfl⟩,c_Apart:=⟨_,mg_of X G Zb8,rfl⟩,c_Crowded:=⟨_,mg_of X G Zb9,rfl⟩,c_NoNumber:=⟨_,mg_of X G Zca,rfl⟩,c_Unlike:=⟨_,mg_of X G Zcb,rfl⟩,c_Unfit:=⟨_,mg_of X G Zcc,rfl⟩,c_NoLine:=⟨_,mg_of X G Zcd,rfl⟩,c_NoName:=⟨_,mg_of X G Zce,rfl⟩,c_Endless:=⟨_,mg_of X G Zcf,rfl⟩,c_NoRow:=⟨_,mg_of X G Zcg,rfl⟩,x_BadRow:=Zci,kS:=Zcj,kV:=Zck,k1:=Zcl,k2:=Zcm,k3:=Zcn,k4:=Zco,k5:=Zcp,k6:=Zcq,k7:=Zcr,k8:=Zcs,k9:=Zct,kA:=Zcu,kB:=Zcv };have Zi4:dF K Zag Zaa:=⟨Zas.cl,Zcw,hn_,htk_,Zcx,Zcy⟩;have Zi5:dF K Zah Zaa:=⟨Zat.cl,Zcz,hn_,htk_,Zc0,Zc1⟩;have Zi6:dF K Zai Zaa:=⟨Zau.cl,Zc2,hn_,htk_,Zc3,Zc4⟩;have Zi7:dF K Zaj Zaa:=⟨Zav.cl,Zc5,hn_,htk_,Zc6,Zc7⟩;have Zi8:dF K Zak Zaa:=⟨Zaw.cl,Zc8,hn_,htk_,Zc9,Zda⟩;have Zi9:dF K Zad Zaa:=⟨Zap.cl,Zdb,hn_,htk_,Zdc,Zdd⟩;have Zja:dF K Zae Zaa:=⟨Zaq.cl,Zde,hn_,htk_,Zdf,Zdg⟩;have Zjb:dF K Zal Zaa:=⟨Zax.cl,Zdh,hn_,htk_,Zdi,Zdj⟩;have Zjc:dF K Zam Zaa:=⟨Zay.cl,Zdk,hn_,htk_,Zdl,Zdm⟩;have Zjd:dF K Zaf Zaa:=⟨Zar.cl,Zdn,hn_,htk_,Zdo,Zdp⟩;have Zao:gM l.prog w K mg base "Rule" "__init__" 1 ["self","row"] (bG K):=Zfv.df X G (mS Zfw) (Zfw.binds (fun _ _ _ _ _ _ us hl=>by obtain⟨_,_,rfl⟩:=sR hl;rfl));have Zje:aN l.prog w K mg base Zag "size" 1 ["self"] (cY 1 fun _=>.int 1):=Zfx.ok Zas.cl (cc Zfy) (Zfy.binds (fun _ _ _ _ _ _ us hl=>by obtain⟨_,rfl⟩:=i7 hl;rfl));have Zjf:aN l.prog w K mg base Zah "size" 1 ["self"] (cY 1 fun _=>.int 1):=Zfz.ok Zat.cl (cc Zf0) (Zf0.binds (fun _ _ _ _ _ _ us hl=>by obtain⟨_,rfl⟩:=i7 hl;rfl));have Zjg:aN l.prog w K mg base Zai "size" 1 ["self"] (cY 1 fun _=>.int 1):=Zf1.ok Zau.cl (cc Zf2) (Zf2.binds (fun _ _ _ _ _ _ us hl=>by obtain⟨_,rfl⟩:=i7 hl;rfl));have Zjh:aN l.prog w K mg base Zaj "size" 1 ["self"] (cY 1 fun _=>.int 1):=Zf3.ok Zav.cl (cc Zf4) (Zf4.binds (fun _ _ _ _ _ _ us hl=>by obtain⟨_,rfl⟩:=i7 hl;rfl));have Zji:aN l.prog w K mg base Zal "size" 1 ["self"] (cY 1 fun _=>.int 1):=Zf5.ok Zax.cl (cc Zf6) (Zf6.binds (fun _ _ _ _ _ _ us hl=>by obtain⟨_,rfl⟩:=i7 hl;rfl));have Zjj:aN l.prog w K mg base Zam "size" 1 ["self"] (cY 1 fun _=>.int 1):=Zf7.ok Zay.cl (cc Zf8) (Zf8.binds (fun _ _ _ _ _ _ us hl=>by obtain⟨_,rfl⟩:=i7 hl;rfl));have Zjk:aN l.prog w K mg base Zak "size" 1 ["self"] (cY 1 fun _=>.int 3):=Zf9.ok Zaw.cl (mO Zga) (Zga.binds (fun _ _ _ _ _ _ us hl=>by obtain⟨_,rfl⟩:=i7 hl;rfl));have Zjl:∀(row:Str) (a c:Int),aN l.prog w K mg base Zad "size" 1 ["self"] (iw (gP Zad row a c) (.int c)):=fun row a c=>Zgb.ok Zap.cl (mQ Zgc Zap) (Zgc.binds (fun _ _ _ _ _ _ us hl=>by obtain⟨_,rfl⟩:=i7 hl;rfl));have Zjm:∀(row:Str) (a c d e:Int),aN l.prog w K mg base Zae "size" 1 ["self"] (iw (fq Zae row a c d e) (.int (e+1))):=fun row a c d e=>Zgd.ok Zaq.cl (ki Zge Zaq) (Zge.binds (fun _ _ _ _ _ _ us hl=>by obtain⟨_,rfl⟩:=i7 hl;rfl));have Zjn:∀(row:Str) (t u:Int) (RIn:nO),aN l.prog w K mg base Zaf "size" 1 ["self"] (iw (iU Zaf row t u RIn) (.int t)):=fun row t u RIn=>Zgf.ok Zar.cl (kg Zgg Zar) (Zgg.binds (fun _ _ _ _ _ _ us hl=>by obtain⟨_,rfl⟩:=i7 hl;rfl));have Zjo:aN l.prog w K mg base Zag "shown" 1 ["self"] (bz K):=Zgh.ok Zas.cl (bt Zgi) (Zgi.binds (fun _ _ _ _ _ _ us hl=>by obtain⟨_,rfl⟩:=i7 hl;rfl));have Zjp:aN l.prog w K mg base Zah "shown" 1 ["self"] (bz K):=Zgj.ok Zat.cl (bt Zgk) (Zgk.binds (fun _ _ _ _ _ _ us hl=>by obtain⟨_,rfl⟩:=i7 hl;rfl));have Zjq:aN l.prog w K mg base Zai "shown" 1 ["self"] (bz K):=Zgl.ok Zau.cl (bt Zgm) (Zgm.binds (fun _ _ _ _ _ _ us hl=>by obtain⟨_,rfl⟩:=i7 hl;rfl));have Zjr:aN l.prog w K mg base Zaj "shown" 1 ["self"] (bz K):=Zgn.ok Zav.cl (bt Zgo) (Zgo.binds (fun _ _ _ _ _ _ us hl=>by obtain⟨_,rfl⟩:=i7 hl;rfl));have Zjs:aN l.prog w K mg base Zak "shown" 1 ["self"] (bz K):=Zgp.ok Zaw.cl (bt Zgq) (Zgq.binds (fun _ _ _ _ _ _ us hl=>by obtain⟨_,rfl⟩:=i7 hl;rfl));have Zjt:aN l.prog w K mg base Zad "shown" 1 ["self"] (bz K):=Zgr.ok Zap.cl (bt Zgs) (Zgs.binds (fun _ _ _ _ _ _ us hl=>by obtain⟨_,rfl⟩:=i7 hl;rfl));have Zju:aN l.prog w K mg base Zae "shown" 1 ["self"] (bz K):=Zgt.ok Zaq.cl (bt Zgu) (Zgu.binds (fun _ _ _ _ _ _ us hl=>by obtain⟨_,rfl⟩:=i7 hl;rfl));have Zjv:aN l.prog w K mg base Zal "shown" 1 ["self"] (bz K):=Zgv.ok Zax.cl (bt Zgw) (Zgw.binds (fun _ _ _ _ _ _ us hl=>by obtain⟨_,rfl⟩:=i7 hl;rfl));have Zjw:aN l.prog w K mg base Zam "shown" 1 ["self"] (bz K):=Zgx.ok Zay.cl (bt Zgy) (Zgy.binds (fun _ _ _ _ _ _ us hl=>by obtain⟨_,rfl⟩:=i7 hl;rfl));have Zjx:aN l.prog w K mg base Zaf "shown" 1 ["self"] (bz K):=Zgz.ok Zar.cl (bt Zg0) (Zg0.binds (fun _ _ _ _ _ _ us hl=>by obtain⟨_,rfl⟩:=i7 hl;rfl));have Zim:b7 l.prog w K mg base "Span" Zag 2 ["self","row","first","second","numbers"] (eJ K Zag):=Zg1.df X G (mT Zg2 T Zas Zao) (Zg2.binds (fun _ _ _ _ _ _ us hl=>by obtain⟨_,_,_,_,_,rfl⟩:=AH hl;rfl));have Zin:b7 l.prog w K mg base "Clock" Zah 2 ["self","row","first","second","hours","numbers"] (dJ K Zah):=Zg3.df X G (j8 Zg4 T Zat Zao) (Zg4.binds (fun _ _ _ _ _ _ us hl=>by obtain⟨_,_,_,_,_,_,rfl⟩:=AN hl;rfl));have Zio:b7 l.prog w K mg base "Move" Zai 2 ["self","row","voice","numbers"] (eI K Zai):=Zg5.df X G (mR Zg6 T Zau Zao) (Zg6.binds (fun _ _ _ _ _ _ us hl=>by obtain⟨_,_,_,_,rfl⟩:=y8 hl;rfl));have Zip:b7 l.prog w K mg base "Alike" Zaj 2 ["self","row","first","second","numbers"] (dH K Zaj):=Zg7.df X G (j6 Zg8 T Zav Zao) (Zg8.binds (fun _ _ _ _ _ _ us hl=>by obtain⟨_,_,_,_,_,rfl⟩:=AH hl;rfl));have Ziq:b7 l.prog w K mg base "Back" Zak 2 ["self","row","voice","widest"] (eG K Zak):=Zg9.df X G (mM Zha T Zaw Zao) (Zha.binds (fun _ _ _ _ _ _ us hl=>by obtain⟨_,_,_,_,rfl⟩:=y8 hl;rfl));have Zir:b7 l.prog w K mg base "Held" Zad 2 ["self","row","voice","most"] (eH K Zad):=Zhb.df X G (mP Zhc T Zap Zao) (Zhc.binds (fun _ _ _ _ _ _ us hl=>by obtain⟨_,_,_,_,rfl⟩:=y8 hl;rfl));have Zis:b7 l.prog w K mg base "Times" Zae 2 ["self","row","voice","note","fewest","most"] (dN K Zae):=Zhd.df X G (kh Zhe T Zaq Zao) (Zhe.binds (fun _ _ _ _ _ _ us hl=>by obtain⟨_,_,_,_,_,_,rfl⟩:=AN hl;rfl));have Zit:b7 l.prog w K mg base "Begin" Zal 2 ["self","row","voice","notes"] (dI K Zal):=Zhf.df X G (j7 Zhg T Zax Zao) (Zhg.binds (fun _ _ _ _ _ _ us hl=>by obtain⟨_,_,_,_,rfl⟩:=y8 hl;rfl));have Ziu:b7 l.prog w K mg base "Close" Zam 2 ["self","row","voice","notes"] (dM K Zam):=Zhh.df X G (j9 Zhi T Zay Zao) (Zhi.binds (fun _ _ _ _ _ _ us hl=>by obtain⟨_,_,_,_,rfl⟩:=y8 hl;rfl));have Zjy:b7 l.prog w K mg base "Every" Zaf 2 ["self","row","turns","turn","inner"] (fk K Zaf):=Zhj.df X G (ka Zhk T Zar Zao) (Zhk.binds (fun _ _ _ _ _ _ us hl=>by obtain⟨_,_,_,_,_,rfl⟩:=AH hl;rfl));have Ziv:bW l.prog w K mg base "is_number" 1 ["word"] rh:=Zhl.df X G (sA Zhm T) (Zhm.binds (fun _ _ _ _ _ _ us hl=>by obtain⟨_,rfl⟩:=i7 hl;rfl));have Zan:bW l.prog w K mg base "has_list" 1 ["numbers","ahead"] (bE K):=Zhn.df X G (oH Zho T) (Zho.binds (fun _ _ _ _ _ _ us hl=>by obtain⟨_,_,rfl⟩:=sR hl;rfl));have Zac:bW l.prog w K mg base "are_voices" 1 ["numbers","voices"] (aR K):=Zhp.df X G (kj Zhq T) (Zhq.binds (fun _ _ _ _ _ _ us hl=>by obtain⟨_,_,rfl⟩:=sR hl;rfl));have Zjz:aC l.prog w K mg base bC 4 Za0 Zbv ["row","numbers","voices"] (bY l.prog w K mg base Zaa (di 2)):=xg (qe Zba T (Zan.up (by decide)) (Zac.up (by decide)) Zim) (qd Zba T (Zan.up (by decide)) (Zac.up (by decide)) Zim) (fun row a b D r H h=>xf Zas (Zje.up (by decide)) (Zjo.up (by decide)) Zi4 h);have Zj0:dA l.prog w K mg base 4 Za0 ["row","numbers","voices"] (bY l.prog w K mg base Zaa (di 2)):=⟨Zbv,Zjz,Zba.kp,Zba.binds (fun _ _ _ _ _ _ us hl=>by obtain⟨_,_,_,rfl⟩:=vx hl;rfl)⟩;have Zj1:aC l.prog w K mg base bC 4 Za1 Zbw ["row","numbers","voices"] (bY l.prog w K mg base Zaa cn):=tE (oE Zbb T (Zan.up (by decide)) (Zac.up (by decide)) Zin) (oC Zbb T (Zan.up (by decide)) (Zac.up (by decide)) Zin) (fun row a b c D r H h=>tD Zat (Zjf.up (by decide)) (Zjp.up (by decide)) Zi5 h);have Zj2:dA l.prog w K mg base 4 Za1 ["row","numbers","voices"] (bY l.prog w K mg base Zaa cn):=⟨Zbw,Zj1,Zbb.kp,Zbb.binds (fun _ _ _ _ _ _ us hl=>by obtain⟨_,_,_,rfl⟩:=vx hl;rfl)⟩;have Zj3:aC l.prog w K mg base bC 4 Za2 Zbx ["row","numbers","voices"] (bY l.prog w K mg base Zaa (di 1)):=we (qb Zbc T (Zan.up (by decide)) (Zac.up (by decide)) Zio) (qa Zbc T (Zan.up (by decide)) (Zac.up (by decide)) Zio) (fun row a D r H h=>wc Zau (Zjg.up (by decide)) (Zjq.up (by decide)) Zi6 h);have Zj4:dA l.prog w K mg base 4 Za2 ["row","numbers","voices"] (bY l.prog w K mg base Zaa (di 1)):=⟨Zbx,Zj3,Zbc.kp,Zbc.binds (fun _ _ _ _ _ _ us hl=>by obtain⟨_,_,_,rfl⟩:=vx hl;rfl)⟩;have Zj5:aC l.prog w K mg base bC 4 Za3 Zby ["row","numbers","voices"] (bY l.prog w K mg base Zaa (di 2)):=tq (oz Zbd T (Zan.up (by decide)) (Zac.up (by decide)) Zip) (oy Zbd T (Zan.up (by decide)) (Zac.up (by decide)) Zip) (fun row a b D r H h=>tm Zav (Zjh.up (by decide)) (Zjr.up (by decide)) Zi7 h);have Zj6:dA l.prog w K mg base 4 Za3 ["row","numbers","voices"] (bY l.prog w K mg base Zaa (di 2)):=⟨Zby,Zj5,Zbd.kp,Zbd.binds (fun _ _ _ _ _ _ us hl=>by obtain⟨_,_,_,rfl⟩:=vx hl;rfl)⟩;have Zj7:aC l.prog w K mg base bC 4 Za4 Zbz ["row","numbers","voices"] (bY l.prog w K mg base Zaa de):=vO (p7 Zbe T (Zac.up (by decide)) Ziq) (p6 Zbe T (Zac.up (by decide)) Ziq) (fun row a c r H h=>vN Zaw (Zjk.up (by decide)) (Zjs.up (by decide)) Zi8 h);have Zj8:dA l.prog w K mg base 4 Za4 ["row","numbers","voices"] (bY l.prog w K mg base Zaa de):=⟨Zbz,Zj7,Zbe.kp,Zbe.binds (fun _ _ _ _ _ _ us hl=>by obtain⟨_,_,_,rfl⟩:=vx hl;rfl)⟩;have Zj9:aC l.prog w K mg base bC 4 Za5 Zb0 ["row","numbers","voices"] (bY l.prog w K mg base Zaa dh):=vZ (p9 Zbf T (Zac.up (by decide)) Zir) (p8 Zbf T (Zac.up (by decide)) Zir) (fun row a c r H h=>vY Zap ((Zjl row a c).up (by decide)) (Zjt.up (by decide)) Zi9 h);have Zka:dA l.prog w K mg base 4 Za5 ["row","numbers","voices"] (bY l.prog w K mg base Zaa dh):=⟨Zb0,Zj9,Zbf.kp,Zbf.binds (fun _ _ _ _ _ _ us hl=>by obtain⟨_,_,_,rfl⟩:=vx hl;rfl)⟩;have Zkb:aC l.prog w K mg base bC 4 Za6 Zb1 ["row","numbers","voices"] (bY l.prog w K mg base Zaa cq):=vq (oK Zbg T (Zac.up (by decide)) Zis) (oJ Zbg T (Zac.up (by decide)) Zis) (fun row a c d e r H h=>vo Zaq ((Zjm row a c d e).up (by decide)) (Zju.up (by decide)) Zja h);have Zkc:dA l.prog w K mg base 4 Za6 ["row","numbers","voices"] (bY l.prog w K mg base Zaa cq):=⟨Zb1,Zkb,Zbg.kp,Zbg.binds (fun _ _ _ _ _ _ us hl=>by obtain⟨_,_,_,rfl⟩:=vx hl;rfl)⟩;have Zkd:aC l.prog w K mg base bC 4 Za7 Zb2 ["row","numbers","voices"] (bY l.prog w K mg base Zaa (di 1)):=tw (oB Zbh T (Zan.up (by decide)) (Zac.up (by decide)) Zit) (oA Zbh T (Zan.up (by decide)) (Zac.up (by decide)) Zit) (fun row a D r H h=>tu Zax (Zji.up (by decide)) (Zjv.up (by decide)) Zjb h);have Zke:dA l.prog w K mg base 4 Za7 ["row","numbers","voices"] (bY l.prog w K mg base Zaa (di 1)):=⟨Zb2,Zkd,Zbh.kp,Zbh.binds (fun _ _ _ _ _ _ us hl=>by obtain⟨_,_,_,rfl⟩:=vx hl;rfl)⟩;have Zkf:aC l.prog w K mg base bC 4 Za8 Zb3 ["row","numbers","voices"] (bY l.prog w K mg base Zaa (di 1)):=tG (oG Zbi T (Zan.up (by decide)) (Zac.up (by decide)) Ziu) (oF Zbi T (Zan.up (by decide)) (Zac.up (by decide)) Ziu) (fun row a D r H h=>tF Zay (Zjj.up (by decide)) (Zjw.up (by decide)) Zjc h);have Zkg:dA l.prog w K mg base 4 Za8 ["row","numbers","voices"] (bY l.prog w K mg base Zaa (di 1)):=⟨Zb3,Zkf,Zbi.kp,Zbi.binds (fun _ _ _ _ _ _ us hl=>by obtain⟨_,_,_,rfl⟩:=vx hl;rfl)⟩;have MS:gN l.prog w K mg base Zaa D_MAKERS:=sf e_MAKERS (Zj0.up (by decide)) (Zj2.up (by decide)) (Zj4.up (by decide)) (Zj6.up (by decide)) (Zj8.up (by decide)) (Zka.up (by decide)) (Zkc.up (by decide)) (Zke.up (by decide)) (Zkg.up (by decide));have Ziw:bW l.prog w K mg base "plain_rule" 8 ["row","voices"] (xb l.prog w K mg base a_MAKERS Zaa):=Zhr.df X G (ko Zhs T (Ziv.up (by decide))) (Zhs.binds (fun _ _ _ _ _ _ us hl=>by obtain⟨_,_,rfl⟩:=sR hl;rfl));have Zkh:bW l.prog w K mg base "every_rule" 9 ["row","voices"] (yN l.prog w K mg base a_MAKERS Zaa):=Zht.df X G (km Zhu TE_INNER_KINDS q_INNER_KINDS (Ziv.up (by decide)) Ziw (Zjy.up (by decide)) (fun row t u r ri dx H h=>tY Zar ((Zjn row t u fun _ _=>True).up (by decide)) (Zjx.up (by decide)) Zjd h)) (Zhu.binds (fun _ _ _ _ _ _ us hl=>by obtain⟨_,_,rfl⟩:=sR hl;rfl));have Zix:aC l.prog w K mg base (nN l.prog w) 10 Zfe Zff ["text","voices","row"] (sL l.prog w K mg base a_MAKERS Zaa Zab):=mU Zaz T (Ziw.up (by decide)) Zkh Zil;have Zki:sU l.prog w K mg base "read_rule" 10 ["text","voices","row"] (sL l.prog w K mg base a_MAKERS Zaa Zab) [(.int 0)]:=⟨Zfe,Zff,[Zi2],Zix,mg_of X G Zfg.ns,Zaz.kp,Zaz.bindsD Zhv Zhw fun _ _ _ _ _ _ us hl=>match us,hl with | [_,_],_=>⟨_,rfl,rfl⟩,.cons Zi3 .nil⟩;have Zkj:sV l.prog w K mg base "read_rule" 10 ["text","voices","row"] ["row"] (sL l.prog w K mg base a_MAKERS Zaa Zab) g2:=⟨Zfe,Zff,_,Zix,mg_of X G Zfg.ns,Zaz.kp,Zaz.bindsK Zhv Zhw rfl fun _ _ _ _ _ _ _ _ _=>⟨_,rfl,rfl⟩⟩;have Zfh:bW l.prog w K mg base "_law_pick" 1 ["_law_script","_law_at"] (jV K):=Zhx.df X G (wu Zhy T) (Zhy.binds (fun _ _ _ _ _ _ us hl=>by obtain⟨_,_,rfl⟩:=sR hl;rfl));have Ziy:bW l.prog w K mg base "_law_number" 1 ["_law_word"] nr:=Zhz.df X G (wt Zh0 T) (Zh0.binds (fun _ _ _ _ _ _ us hl=>by obtain⟨_,rfl⟩:=i7 hl;rfl));have Ziz:bW l.prog w K mg base "_law_kinds" 1 ["_law_word"] i4:=Zh1.df X G (uI Zh2 T) (Zh2.binds (fun _ _ _ _ _ _ us hl=>by obtain⟨_,rfl⟩:=i7 hl;rfl));have Zkk:bW l.prog w K mg base "_law_plain" 3 ["_law_words","_law_voices"] (jT K):=Zh3.df X G (sy Zh4 T (Ziy.up (by decide)) (Ziz.up (by decide)) t9 v3) (Zh4.binds (fun _ _ _ _ _ _ us hl=>by obtain⟨_,_,rfl⟩:=sR hl;rfl));have Zkl:bW l.prog w K mg base "_law_size" 4 ["_law_text","_law_voices"] nu:=Zh5.df X G (uJ Zh6 T (Ziy.up (by decide)) Zkk) (Zh6.binds (fun _ _ _ _ _ _ us hl=>by obtain⟨_,_,rfl⟩:=sR hl;rfl));have Zfi:bW l.prog w K mg base "_law_any" 1 ["_law_cell"] pd:=Zh7.df X G (ym Zh8 T) (Zh8.binds (fun _ _ _ _ _ _ us hl=>by obtain⟨_,rfl⟩:=i7 hl;rfl));have Zkm:bW l.prog w K mg base "_law_lead" 2 ["_law_sign","_law_cell","_law_voices"] qm:=Zh9.df X G (wq Zia T Zfi) (Zia.binds (fun _ _ _ _ _ _ us hl=>by obtain⟨_,_,_,rfl⟩:=vx hl;rfl));have Zkn:bW l.prog w K mg base "_law_plain_words" 4 ["_law_script","_law_word","_law_voices"] (yO K):=Zib.df X G (zE Zic T (Ziz.up (by decide)) (Zkm.up (by decide)) (Zfh.up (by decide)) (Zfi.up (by decide))) (Zic.binds (fun _ _ _ _ _ _ us hl=>by obtain⟨_,_,_,rfl⟩:=vx hl;rfl));have Zko:bW l.prog w K mg base "_law_row" 5 ["_law_script","_law_voices"] (vf K):=Zid.df X G (yo Zie T Zkn (Zfh.up (by decide)) (Zfi.up (by decide))) (Zie.binds (fun _ _ _ _ _ _ us hl=>by obtain⟨_,_,rfl⟩:=sR hl;rfl));have Zkp:bW l.prog w K mg base "_law_other" 1 ["_law_cell","_law_voices"] ny:=Zif.df X G (uK Zig T) (Zig.binds (fun _ _ _ _ _ _ us hl=>by obtain⟨_,_,rfl⟩:=sR hl;rfl));have Zkq:bW l.prog w K mg base "_law_spoilt" 2 ["_law_words","_law_cell","_law_at","_law_voices"] (jW K):=Zih.df X G (sC Zii T Zkp) (Zii.binds (fun _ _ _ _ _ _ us hl=>by obtain⟨_,_,_,_,rfl⟩:=y8 hl;rfl));have Zkr:bW l.prog w K mg base "_law_refused" 9 ["_law_e","_law_due"] (ix Zab):=Zij.df X G (qc Zik TX Zil) (Zik.binds (fun _ _ _ _ _ _ us hl=>by obtain⟨_,_,rfl⟩:=sR hl;rfl));exact yn Zfd.fn TX t_MAKERS MS (Zfh.up (by decide)) (Zko.up (by decide)) (Zkq.up (by decide)) (Zkl.up (by decide)) (Zkr.up (by decide)) Zki Zkj
theorem walk{l:PySem.W.OpenLaw}{q:Program}{loose:List Str}{XP:(Str→Option Value)→Heap→Prop}{YP:World→Heap→Prop}{d:DefRec}{K:Params→Frag}(hn:l.most=some 63)(hdf:d.params.defaults=[])
  (hY:∀(w:World) (h:Heap),YP w h→(K w.params).In h)
  (F:∀(w:World) (mg:Str→Option Value) (fa:Addr) (h:Heap),(K w.params).In h→h.Ns mainGlobals mg→mg d.name=some (.ref fa)→
   ∃fd:FuncData,(∀(s:Shared) (u:Value),BindsTo s fd ⟨[u],[]⟩ [("_law_script",u)])∧∀base:Heap,(K w.params).In base→base.Ns mainGlobals mg→aC l.prog w (K w.params) mg base bC 11 fa fd ["_law_script"] (rg (K w.params))) :
  PySem.W.WalkO q loose XP YP l.row.toRowW d [] (fun f vs=>PySem.call f vs):=
 L2.walk_ofB (n:=63) (k:=11) (x:="_law_script") (CX:=fun _=>bC) (sp:=fun w=>rg (K w.params)) hn (by decide) hdf ⟨rfl,by decide,by decide⟩ hY F (fun _ _ a ns hl hb _ hS=>⟨a,ns,rfl,hS,hb,hl,fun _=>rfl⟩) fun _ _ _ _ _ z=>z
end K19
namespace PySem.W.Fast
def tw12949376066729180160:=0
def tw15889824305352700438:=0
def tw17834068384727919648:=0
def tw16365961701291356192:=0
def tw16055371184344763524:=0
def tw13217675073766656096:=0
def tw1830561401503073440:=0
def tw3910450312485344448:=0
def tw7776888651400000704:=0
def tw4019879928823952570:=0
def tw6257874027099024576:=0
def tw14372657960720293088:=0
def tw11502550980146201250:=0
def tw16889695769866355852:=0
def tw3597393432620318267:=0
def tw1787036618834758507:=0
def tw15005526628340840314:=0
def tw12818747174051937568:=0
def tw8286099993491340576:=0
def tw2918449958829147355:=0
def tw18110754777335990500:=0
def tw17514558010822821455:=0
def tw9015933773307369764:=0
def tw8271962414214029699:=0
def tw1240856515482063296:=0
def tw9602015140814372048:=0
def tw16444245656085485056:=0
def tw17038633730617436566:=0
def tw4299686018982375682:=0
def tw6206437651711756864:=0
def tw15350719181255747136:=0
def tw9727993059583408704:=0
def tw3672647506861345016:=0
def tw10293707226956342478:=0
def tw407712342286536288:=0
def tw5977462535196554827:=0
def tw14701499549351472242:=0
def tw8824398449889388742:=0
def tw15930393880336154368:=0
def tw15490800447566989056:=0
def tw2043344638900861279:=0
def tw17216905301866250252:=0
def tw8331108579189728064:=0
def tw10322664127747989117:=0
def tw343834443940859082:=0
def tw2138259887832389472:=0
def tw5494951605847804914:=0
def tw12353750544728629310:=0
def tw12976360787624208256:=0
def tw3681390405574602624:=0
def tw16539217324566118272:=0
def tw4311401884542994336:=0
def tw16047691142004253600:=0
def tw10731169564466156480:=0
def tw9496844788719471552:=0
def tw5164512054348362720:=0
def tw9233021398624544769:=0
def tw18360164011696970785:=0
def tw14429964257023933473:=0
def tw2062743352503984449:=0
def tw6976301828342532193:=0
def tw15483191965419533409:=0
def tw12706120643242524833:=0
def tw16066403457777397953:=0
def tw12286572238964759745:=0
def tw14711944075539108065:=0
def tw112113246107821281:=0
def tw17268733870950601985:=0
def tw16926241097263190907:=0
def tw15354635106392248641:=0
def tw8964951214423650625:=0
def tw7863926996954172737:=0
def tw3688450034359058785:=0
def tw14216877115573174657:=0
def tw12764232233464448385:=0
def tw7763980329543175585:=0
def tw5281627020659109176:=0
def tw1118924846626708993:=0
def tw6203597252921256481:=0
def tw61587523699244577:=0
def tw9862312367425779233:=0
def tw5625320915634049732:=0
def tw15423586857624670881:=0
def tw1512206597277174867:=0
def tw9412299772897013409:=0
def tw1933577737932062369:=0
def tw2512867037073854113:=0
def tw15866600992413821633:=0
def tw12308563294377257729:=0
def tw3192740432031007489:=0
def tw122327952298829633:=0
def tw15493017867409960833:=0
def tw5792972651079714689:=0
def tw15188392620160548737:=0
def tw7213705587311942159:=0
def tw7551447752507116449:=0
def tw12058539636980480961:=0
def tw6598459696606454753:=0
def tw18370977425771139074:=0
def tw6762452688936105777:=0
def tw1943246418291052546:=0
def tw251647451638993426:=0
def tw1917375729104675290:=0
def tw13980094870392533122:=0
def tw11811425377519060595:=0
def tw7457192072818441083:=0
def tw7908908385194092738:=0
def tw17940449187631764706:=0
def tw2039880367823854818:=0
def tw17563048536049371362:=0
def tw2671436890855271650:=0
def tw16554362243415902477:=0
def tw6033898618106669346:=0
def tw12822063371376228642:=0
def tw17531142149941829954:=0
def tw6241489129839227471:=0
def tw17820518358241637072:=0
def tw12069194034257943758:=0
def tw9246936395697730078:=0
def tw10449373446546404802:=0
def tw3163269852335260098:=0
def tw3234480243278310850:=0
def tw17336095115959938530:=0
def tw17391814327868797013:=0
def tw1178989732344278498:=0
def tw7699707746536710097:=0
def tw17645374693694535027:=0
def tw3289978095711556194:=0
def tw1066002833874133602:=0
def tw18325406503818707441:=0
def tw10377932300879626914:=0
def tw14671679132749676194:=0
def tw5274416819537722468:=0
def tw11545713945232828396:=0
def tw7216759710805521090:=0
def tw6100286604601947874:=0
def tw16638281197093376738:=0
def tw4611263581369667330:=0
def tw10809499193609513730:=0
def tw11064145227074730786:=0
def tw17017830153323880258:=0
def tw4323314977752310936:=0
def tw14965868235053852626:=0
def tw15600437519764388706:=0
def tw6618318506503130782:=0
def tw17309751749223077762:=0
def tw1750427308219984438:=0
def tw15182113541978815394:=0
def tw6003996995814472699:=0
def tw18022851657613783043:=0
def tw12778920211741697027:=0
def tw9870579549267423235:=0
def tw15530290944626656355:=0
def tw1560613515220590691:=0
def tw11523341654015828067:=0
def tw7931344967405370467:=0
def tw12170691852359896493:=0
def tw13811196228927524003:=0
def tw9277715148069584842:=0
def tw9446840127088504003:=0
def tw6272788182983639283:=0
def tw15920098605741373780:=0
def tw5482154092037651715:=0
def tw7217714052751850360:=0
def tw17041174370786695849:=0
def tw18264564560864189827:=0
def tw4618873860087187629:=0
def tw14917160595928601987:=0
def tw1016973042957190737:=0
def tw18087446543350179921:=0
def tw2902129993923371512:=0
def tw11839876614787581379:=0
def tw4010219423891608984:=0
def tw854576184567419894:=0
def tw3482819803321488899:=0
def tw10049326415011757677:=0
def tw16626273915920357955:=0
def tw601689712497323571:=0
def tw17998184005020946019:=0
def tw12445455832140403299:=0
def tw12324006646942274064:=0
def tw4570078456113898115:=0
def tw16417070239738733187:=0
def tw893030538765075107:=0
def tw14250805081931360931:=0
def tw16738170081433957027:=0
def tw9437724230462495400:=0
def tw4421623888095046985:=0
def tw7454515649595839203:=0
def tw2827709503430668003:=0
def tw7609584609651950900:=0
def tw14072662238106511107:=0
def tw16470584363351763715:=0
def tw18138151749906102019:=0
def tw15451484541585229667:=0
def tw13500780337316887629:=0
def tw1668489992687810435:=0
def tw3639504648004427651:=0
def tw5414924864593372005:=0
def tw7515938210928437884:=0
def tw6885318497050764181:=0
def tw9825898956858577859:=0
def tw12929713836576526797:=0
def tw11431802378378183684:=0
def tw12557310456776623140:=0
def tw1979416637735080996:=0
def tw3878944478090425412:=0
def tw17784740318987819108:=0
def tw5078410005344878724:=0
def tw10043934115535141028:=0
def tw10179292989421961412:=0
def tw15971052789771854257:=0
def tw11233355535394228700:=0
def tw3349179310393938021:=0
def tw2048888324310662372:=0
def tw15851557738053989906:=0
def tw8943448032023099820:=0
def tw13985980611227888773:=0
def tw7173479861801897662:=0
def tw17557701891368584407:=0
def tw8714507561980833383:=0
def tw1509008846383673904:=0
def tw14410723569063853476:=0
def tw12714889564136213052:=0
def tw13451217152775948740:=0
def tw11650308885282448010:=0
def tw2976920255668298244:=0
def tw17951750254197299081:=0
def tw6365172958600202788:=0
def tw6203312225129128516:=0
def tw4380432289148595780:=0
def tw6231681814187906633:=0
def tw12720769444096570206:=0
def tw15574311005303060068:=0
def tw5836450159585659889:=0
def tw2284201183060565118:=0
def tw299554129381633055:=0
def tw5521244277159030564:=0
def tw12205922112007575364:=0
def tw12028344101361344356:=0
def tw17346146500518038372:=0
def tw9771981812613490564:=0
def tw10726931346328080281:=0
def tw15913475401545367460:=0
def tw11685614723592538020:=0
def tw903896956196995012:=0
def tw15660046569427443717:=0
def tw14136915591312266183:=0
def tw2729227626144575525:=0
def tw16010026601454053033:=0
def tw7556699341946543481:=0
def tw5369014611397313786:=0
def tw18080152640845739173:=0
def tw12351064112440948677:=0
def tw14065852759609103557:=0
def tw11636110381142002060:=0
def tw7303883396834926853:=0
def tw7800277726801996530:=0
def tw2998189546559792543:=0
def tw645320926246477125:=0
def tw5111624672421446012:=0
def tw9179170726785834341:=0
def tw4254473233463399813:=0
def tw628577834697025957:=0
def tw8168906940770503077:=0
def tw3416853461842480441:=0
def tw892780212847929797:=0
def tw9125988985304163269:=0
def tw3178709295439650341:=0
def tw15261498676940807749:=0
def tw9807388411313858117:=0
def tw10671897177571908197:=0
def tw6860456333042795307:=0
def tw10813649766903701127:=0
def tw16089826341567058636:=0
def tw17856835613988258533:=0
def tw7955589018794455857:=0
def tw17614440142058349349:=0
def tw13715608253971101477:=0
def tw15284761959078888261:=0
def tw12247212553706106384:=0
def tw10332400895685342804:=0
def tw7800556824444155623:=0
def tw5428121366136785829:=0
def tw13163716389372137641:=0
def tw13779692175119155109:=0
def tw4521593145267684346:=0
def tw9748822833810327613:=0
def tw14070117602259217381:=0
def tw18300977259271923294:=0
def tw4269120205538815673:=0
def tw8644419991841083430:=0
def tw7904307983119351347:=0
def tw14833178760120635053:=0
def tw12076479795313376326:=0
def tw6232060844183109734:=0
def tw1012711543919408262:=0
def tw9480524812211867782:=0
def tw12707205536524632230:=0
def tw11713947468644915017:=0
def tw4936636813305344166:=0
def tw10218009875705585300:=0
def tw13999973934135426026:=0
def tw10642924517498745094:=0
def tw3803863546657155401:=0
def tw3457476266657905926:=0
def tw2137040574630645117:=0
def tw4152998205171207494:=0
def tw3376380031424716361:=0
def tw13594867124688451910:=0
def tw9839406452832666136:=0
def tw5109052167440180405:=0
def tw17778079604828593510:=0
def tw5244974613376704902:=0
def tw14986939063760351622:=0
def tw13139072914340742427:=0
def tw14360639601481311899:=0
def tw6224233471564094918:=0
def tw7408335874918707313:=0
def tw7401484935708562933:=0
def tw11294040351859272089:=0
def tw15934573954697991750:=0
def tw2649074744977985094:=0
def tw11168271273041796189:=0
def tw14225608983549005478:=0
def tw1403835975827502824:=0
def tw13004238471889284381:=0
def tw12377372536587524664:=0
def tw9737727265464832909:=0
def tw2048497805788793339:=0
def tw10040076778628008710:=0
def tw16816791378575464142:=0
def tw6328703705692411499:=0
def tw15960474908093048614:=0
def tw10155619830303184456:=0
def tw2639606056397971302:=0
def tw3244173938291373877:=0
def tw2652059342294598929:=0
def tw2105919466359120625:=0
def tw18220290448222685158:=0
def tw16917471724121888342:=0
def tw8723140709547719815:=0
def tw15363481724096265255:=0
def tw11959428366914142842:=0
def tw12990723849234282510:=0
def tw4210964445044907278:=0
def tw6151823712337719367:=0
def tw8742020288509897919:=0
def tw7952812678966516839:=0
def tw13113474847440103527:=0
def tw3144825703430665839:=0
def tw15557019213417680007:=0
def tw8798387456105390215:=0
def tw9567565825029813209:=0
def tw6773661805224958637:=0
def tw476439882678155437:=0
def tw4730794653994687751:=0
def tw4654197054620531856:=0
def tw6641900059511341351:=0
def tw13823190662432517875:=0
def tw7193269619821101372:=0
def tw14502710096439558471:=0
def tw4004431272148678291:=0
def tw9107095289165696359:=0
def tw2960335769348202887:=0
def tw7519704827934490877:=0
def tw16638447902446429639:=0
def tw18381878218802800071:=0
def tw14149790893931839975:=0
def tw10571791024901256941:=0
def tw1437009841315061003:=0
def tw3879094101449679463:=0
def tw1741264015851470471:=0
def tw2797961148867655335:=0
def tw18326924534264816327:=0
def tw5379013233584546201:=0
def tw15477205020145324775:=0
def tw15873939122924498974:=0
def tw12863195348574536074:=0
def tw9468867917870413620:=0
def tw14604517042101746591:=0
def tw1268445196775248232:=0
def tw18281576555090087719:=0
def tw13013269419904399343:=0
def tw3166770808054282707:=0
def tw309704534959565639:=0
def tw4260562333435262823:=0
def tw3372463605940578151:=0
def tw14155458121294105479:=0
def tw1597443290367666151:=0
def tw254610807324721467:=0
def tw9385093168388071:=0
def tw2617790756648459304:=0
def tw5567621575095431208:=0
def tw9825049247157482265:=0
def tw8200078909415338876:=0
def tw5091434301902580382:=0
def tw13258316817913365589:=0
def tw4940579515548613768:=0
def tw4945864118061365211:=0
def tw10646518471812835496:=0
def tw189934382416176983:=0
def tw7644731197962538270:=0
def tw13106020314331799784:=0
def tw1554993085106886888:=0
def tw3197319615535051994:=0
def tw5828082139187271944:=0
def tw6075615226597487976:=0
def tw2271227279317602686:=0
def tw8678388852818606997:=0
def tw854335566451739892:=0
def tw4590988362837606317:=0
def tw9802121435160046572:=0
def tw12181984196426205198:=0
def tw5432671805509232328:=0
def tw1879849758983516431:=0
def tw6109618382815978216:=0
def tw2714666239952882891:=0
def tw1566731921236493096:=0
def tw5705087632871710504:=0
def tw16571074558919592783:=0
def tw13811537107421947752:=0
def tw7030905079372821384:=0
def tw11004108711602594174:=0
def tw4201542455816805919:=0
def tw16167844805096557325:=0
def tw8494276807450395624:=0
def tw3062535172396807342:=0
def tw6548823098589698877:=0
def tw3538578258632039529:=0
def tw18269966259942994815:=0
def tw2300000304034175731:=0
def tw2994973296927109385:=0
def tw16624377146343081944:=0
def tw10844630035848453481:=0
def tw449309868637288809:=0
def tw3325828238136080745:=0
def tw7954678784443995529:=0
def tw18409425562622886313:=0
def tw687164558666567766:=0
def tw4619410680361264665:=0
def tw2813639758257185983:=0
def tw13627733407615687998:=0
def tw609251677514380905:=0
def tw7486822548997112457:=0
def tw850094185747673737:=0
def tw3335185326366838993:=0
def tw4343422207234014953:=0
def tw5910492956997470057:=0
def tw7807187155312655273:=0
def tw5294739124389584809:=0
def tw10591773463465912265:=0
def tw9741619852167919479:=0
def tw17956658368883097642:=0
def tw6879220281959223378:=0
def tw8072967958230754572:=0
def tw14841990869028994090:=0
def tw12721319741507380910:=0
def tw9618729165566215370:=0
def tw909040426636903562:=0
def tw6849213869582664558:=0
def tw8378058454517883220:=0
def tw13923677648907436202:=0
def tw17352302244063807658:=0
def tw12570071698841173334:=0
def tw6490252752822694042:=0
def tw11853598852682246589:=0
def tw17546286270043808970:=0
def tw4747515303053610549:=0
def tw1647321403771283372:=0
def tw18123269824848608618:=0
def tw17075966501164600682:=0
def tw14785894676960783179:=0
def tw2463505335733662122:=0
def tw12378322053407483370:=0
def tw7700407087963955831:=0
def tw2050507879075536362:=0
def tw14901673095454731818:=0
def tw11143484856921289070:=0
def tw869417475504532010:=0
def tw3470154562608408234:=0
def tw376619918390609231:=0
def tw218890224386800330:=0
def tw9351692907876921439:=0
def tw18125241007345985468:=0
def tw6105934007057766154:=0
def tw2541674685487013398:=0
def tw9561422205913038666:=0
def tw16845635347646403434:=0
def tw938175372326731626:=0
def tw6958179309959765899:=0
def tw14642949514487047050:=0
def tw3463979030232284074:=0
def tw175504303178958762:=0
def tw982638784621690815:=0
def tw11521653896000377834:=0
def tw7078032321209525226:=0
def tw726149853026338827:=0
def tw15052900798860294155:=0
def tw3215589965310505067:=0
def tw15927396566101937259:=0
def tw873976479377172209:=0
def tw17490119129963428878:=0
def tw14393396097420704492:=0
def tw1321408962993007870:=0
def tw3343735105203667422:=0
def tw7841390370773317899:=0
def tw1322049636796851103:=0
def tw17645666442552222091:=0
def tw16520184742947463990:=0
def tw3538789086190245400:=0
def tw18059070397130631787:=0
def tw8957839444243743371:=0
def tw14031732001454388531:=0
def tw11388497378054391404:=0
def tw9513267112177983861:=0
def tw9992999570560881196:=0
def tw14308140209670304555:=0
def tw12393414437898354475:=0
def tw2719778948740444011:=0
def tw13502370615822480203:=0
def tw14190245614850076654:=0
def tw10089036388490969595:=0
def tw15095307175527033785:=0
def tw17130954070148907832:=0
def tw10779503288191149068:=0
def tw7479864530295912460:=0
def tw15538815506199396848:=0
def tw15777898274390143884:=0
def tw11482925843695829132:=0
def tw3203927186031478924:=0
def tw11765921480589587596:=0
def tw5566656095909777580:=0
def tw17128216427471360477:=0
def tw11323891597885491930:=0
def tw8121092672856612076:=0
def tw14954371091703935244:=0
def tw15590047820902936460:=0
def tw3831008194263240972:=0
def tw1030830884662338828:=0
def tw13829542461305483100:=0
def tw1503973897992387980:=0
def tw16251260829442601356:=0
def tw10068963610240994732:=0
def tw17724656224058010060:=0
def tw17409050479984995542:=0
def tw2099112442661021164:=0
def tw13179574889449760236:=0
def tw13008661181568986604:=0
def tw5648846953028534764:=0
def tw4618540575907231061:=0
def tw9713504856803969548:=0
def tw4736244700903475756:=0
def tw9631384710453793356:=0
def tw3980254090303376048:=0
def tw7300128755898232428:=0
def tw14092580074493568755:=0
def tw1091815178247159436:=0
def tw6567555697672350348:=0
def tw372925485966501652:=0
def tw6956785539886857932:=0
def tw3879648937966028492:=0
def tw9878520179033830092:=0
def tw15799917327673932697:=0
def tw11745130519090710252:=0
def tw8728070137083391756:=0
def tw4400198308755083052:=0
def tw4674620351331983095:=0
def tw11062753484808564524:=0
def tw14585577659823859569:=0
def tw10387441556716173132:=0
def tw6489218812492133228:=0
def tw7184774828348261228:=0
def tw1364053910644552895:=0
def tw3575295912065923483:=0
def tw12446775109136339509:=0
def tw17574952259329142134:=0
def tw12395467698727859245:=0
def tw5012544014951755412:=0
def tw15194655969301481549:=0
def tw14090177939260595:=0
def tw89532541330975452:=0
def tw11025869663162094710:=0
def tw7708298701329011949:=0
def tw10040429742161899094:=0
def tw7290631432102290773:=0
def tw11760976525095405421:=0
def tw10473076661565186390:=0
def tw7002644112406824237:=0
def tw9455517957349655961:=0
def tw966411939535722782:=0
def tw8498032017212926285:=0
def tw12726750203781192926:=0
def tw5379179761938546029:=0
def tw7408611081794439695:=0
def tw5260791331575731597:=0
def tw6137144110448184749:=0
def tw10981753197073076653:=0
def tw16928046187604848045:=0
def tw644950256381946285:=0
def tw11958061509445129271:=0
def tw3506251775621379839:=0
def tw3620751983266334328:=0
def tw16773408902007768079:=0
def tw13572968874458202780:=0
def tw3649917673449384685:=0
def tw13467854603255606029:=0
def tw974770585751957211:=0
def tw17975221980911702861:=0
def tw11516043683863107405:=0
def tw16065273676016106317:=0
def tw17071526585287596434:=0
def tw16643670745746880429:=0
def tw10882336630416958413:=0
def tw7444672798657963981:=0
def tw303094848421385197:=0
def tw6100306017311924669:=0
def tw8355014528723496927:=0
def tw9350256595101125813:=0
def tw5564378659633401173:=0
def tw11573314047942009966:=0
def tw18346077245891947409:=0
def tw9459370775277955965:=0
def tw1036369036180005134:=0
def tw4355167472279456533:=0
def tw2130953078759171998:=0
def tw15914537289541786990:=0
def tw15780796995596259455:=0
def tw11838150409338046862:=0
def tw2652626708035668600:=0
def tw150445872944870862:=0
def tw17500214045359460153:=0
def tw5307942649785082781:=0
def tw8773445305631651569:=0
def tw17449237596862921107:=0
def tw2748982578030766108:=0
def tw11303698965457481326:=0
def tw11682843950003381108:=0
def tw12307813955621490318:=0
def tw448149729632051990:=0
def tw6244775372212144878:=0
def tw5384512985236775662:=0
def tw1704919950660630254:=0
def tw3680264113385806638:=0
def tw7092836813614363729:=0
def tw8285234703961804689:=0
def tw5608780439580171150:=0
def tw18264248042218374832:=0
def tw3824586730752690069:=0
def tw1075044567055744190:=0
def tw1641762199627738194:=0
def tw18186871974520362990:=0
def tw15814281947994718223:=0
def tw7720617174138289246:=0
def tw8128727157559962703:=0
def tw11383911871237972047:=0
def tw12165041834550737245:=0
def tw16621348820532391705:=0
def tw14766912816536253149:=0
def tw8964824051593705585:=0
def tw18104369081645934239:=0
def tw5899256176583337295:=0
def tw14429265572922940783:=0
def tw9704420115128805743:=0
def tw10228209238479003611:=0
def tw1502943521345592751:=0
def tw18409975396488834557:=0
def tw4153773331456174386:=0
def tw9021836650424433458:=0
def tw9222526230164980367:=0
def tw10776473954638113455:=0
def tw3635411440834495447:=0
def tw5674634557985916658:=0
def tw2232024441160361659:=0
def tw3927493712837556943:=0
def tw1447898639958664378:=0
def tw7969834046308765592:=0
def tw17651052699016903132:=0
def tw15375023372463855407:=0
def tw9891786231381515703:=0
def tw4007136520806060401:=0
def tw5774175470513960541:=0
def tw13217098421383125040:=0
def tw7118130722395235408:=0
def tw2776022673013965936:=0
def tw10597525835250488596:=0
def tw17223207514249573008:=0
def tw6861475721625808048:=0
def tw3234761010818543386:=0
def tw9915534123528808720:=0
def tw14319066883373216378:=0
def tw13543096773546284304:=0
def tw11845901088613381716:=0
def tw1016478396303372051:=0
def tw16926046905459781968:=0
def tw7209141918019493556:=0
def tw7939284461333320080:=0
def tw9084801956349811772:=0
def tw15043368633830560144:=0
def tw17204904177285209584:=0
def tw12817090650255728144:=0
def tw585037927094582199:=0
def tw13860002059114164048:=0
def tw896795727803724980:=0
def tw7175031528796522680:=0
def tw293215219109463121:=0
def tw16086001678176456785:=0
def tw7074047892346398865:=0
def tw14053406060015070385:=0
def tw7871009103199416473:=0
def tw4894320782066721913:=0
def tw13543746428300902611:=0
def tw10647966651262427474:=0
def tw16969656446277097809:=0
def tw1538835920896470260:=0
def tw18099583096346373457:=0
def tw17991014481037205074:=0
def tw839323949252042903:=0
def tw2852469669591728276:=0
def tw17319392040327707089:=0
def tw18332540146828950513:=0
def tw14268408622205542743:=0
def tw7238757825312728625:=0
def tw1271834153966681785:=0
def tw17234283045296804283:=0
def tw8689107717840705402:=0
def tw17079109977754359569:=0
def tw9991784106113266481:=0
def tw11674243348536485873:=0
def tw17795052748602124889:=0
def tw13640098916979113969:=0
def tw5323610521146390455:=0
def tw3056627492583288504:=0
def tw12569398711011219538:=0
def tw9617835125802871954:=0
def tw614397121292770140:=0
def tw4607041956057421010:=0
def tw15969950286630393879:=0
def tw13409969407055366418:=0
def tw5298731232415241490:=0
def tw1528747240394370418:=0
def tw726595805553135154:=0
def tw16719037297165139506:=0
def tw11035841020021390808:=0
def tw10682790801739868946:=0
def tw7713010482529988340:=0
def tw5932311433757858450:=0
def tw9643103087657312978:=0
def tw7616970361085768402:=0
def tw12235369130199413432:=0
def tw9322530901574483730:=0
def tw1354645835070173331:=0
def tw13127106166512233982:=0
def tw9379592361792091986:=0
def tw4096476013276355442:=0
def tw10668021225073641458:=0
def tw1698608975206716467:=0
def tw16267398459756290270:=0
def tw8767890850065368275:=0
def tw7712762959228824948:=0
def tw5637403920967653619:=0
def tw1006422031418948851:=0
def tw8248222574981840147:=0
def tw7594097211532273971:=0
def tw18349380543413781299:=0
def tw13449962069515869659:=0
def tw3166047713474513395:=0
def tw13533614402576849395:=0
def tw7213043815642429971:=0
def tw15737980930536020755:=0
def tw7461466505017830163:=0
def tw2529894769801068339:=0
def tw11363678564432111443:=0
def tw17533030157040894835:=0
def tw10428439602880579604:=0
def tw5169878843423290388:=0
def tw5436114450826523668:=0
def tw2817621847978399191:=0
def tw5815311412809694652:=0
def tw6795906972566162175:=0
def tw11267534311950401365:=0
def tw7587012320146062580:=0
def tw17485542244926359258:=0
def tw4998948394661805718:=0
def tw14552788784259224980:=0
def tw11438060454468115860:=0
def tw14152115037251410969:=0
def tw10218951338801183188:=0
def tw5496264629883708282:=0
def tw8071783815916394104:=0
def tw463097813170763319:=0
def tw3540925400916956852:=0
def tw332283272895675581:=0
def tw5607001203433793300:=0
def tw6589899831024067444:=0
def tw13797318268738751348:=0
def tw7997683359763840916:=0
def tw11408074406613551739:=0
def tw17155852597196964030:=0
def tw8359540789651287478:=0
def tw1722861388565478645:=0
def tw10077056541376006463:=0
def tw8277177187549421589:=0
def tw722438094853252213:=0
def tw6344243581930995957:=0
def tw16327931881538028789:=0
def tw9516006118794523895:=0
def tw11278384362726587004:=0
def tw15394235156369278293:=0
def tw16963883286247634395:=0
def tw11225412582853089749:=0
def tw4964387595577345878:=0
def tw4233251532115595007:=0
def tw15012313427860995580:=0
def tw12357962953421657080:=0
def tw14930157837548727935:=0
def tw17417416654177885941:=0
def tw6852362989957670645:=0
def tw659844492650911293:=0
def tw8801097870215840636:=0
def tw4005126609412359029:=0
def tw2278082597657246581:=0
def tw16849006020088949621:=0
def tw5208755850226312175:=0
def tw1861187456237788697:=0
def tw1669286387308886840:=0
def tw16972725484235586648:=0
def tw14776616339318395990:=0
def tw12369526390527206518:=0
def tw6638480285789334710:=0
def tw15084991930148697270:=0
def tw496900577550780630:=0
def tw173184153681132758:=0
def tw15786762237557177590:=0
def tw16042547117311593496:=0
def tw10716116446589462:=0
def tw10189863365180423994:=0
def tw14033031913690906811:=0
def tw7178361272256612982:=0
def tw15180806941015923382:=0
def tw5590842259177212955:=0
def tw6725711607739130110:=0
def tw2083390840687177948:=0
def tw4631811918260054205:=0
def tw5253155237219223350:=0
def tw12088033438334773663:=0
def tw14699836218722434006:=0
def tw10292160351769950367:=0
def tw5090609962399960119:=0
def tw10418097881584857175:=0
def tw5178116181002161367:=0
def tw14111908567033852183:=0
def tw10600171568605392541:=0
def tw11599965364999923319:=0
def tw15902750725973926583:=0
def tw8554831074536565495:=0
def tw12057778688238132799:=0
def tw18186261534204863448:=0
def tw2667501633004912535:=0
def tw9408782379924614071:=0
def tw3651139236593090458:=0
def tw17723294054844560123:=0
def tw3582880697087267515:=0
def tw10736577502499779800:=0
def tw15489352254701638936:=0
def tw6797990217354559992:=0
def tw13353922694437980696:=0
def tw15791595931393200894:=0
def tw16494485031325963037:=0
def tw12660240890792855288:=0
def tw16417234598097172248:=0
def tw3251488773680789368:=0
def tw6066813563164860408:=0
def tw15962259399870601208:=0
def tw9183384513456168952:=0
def tw375211306722802713:=0
def tw104801266692920793:=0
def tw5283130308942999772:=0
def tw2796567183961477785:=0
def tw154084151178908409:=0
def tw7697985418345109433:=0
def tw4309794602036800955:=0
def tw17680518258731129082:=0
def tw10241791142868918139:=0
def tw6714724242076093754:=0
def tw3033682664310922618:=0
def tw3999775684646564314:=0
def tw7041659855782640607:=0
def tw7090211788782310042:=0
def tw12934349209368447674:=0
def tw10670311586600481466:=0
def tw675915431836316346:=0
def tw11312478594055410490:=0
def tw3724567031171785755:=0
def tw2746918328251053693:=0
def tw16712041670085596187:=0
def tw11624795237687320603:=0
def tw10091695885605142619:=0
def tw18239301594756043195:=0
def tw10775360011912310620:=0
def tw1927157872004608539:=0
def tw13628061757182740796:=0
def tw12401899554625446555:=0
def tw7836947287897829371:=0
def tw13569376525000536092:=0
def tw15168426580604479901:=0
def tw4694580236565518460:=0
def tw13256603806678793821:=0
def tw13367382524200791260:=0
def tw1253772935192271132:=0
def tw9406435985985703870:=0
def tw11208055573315879486:=0
def tw193173531574669116:=0
def tw17506035750079808444:=0
def tw15430662336647862365:=0
def tw10009645561168108670:=0
def tw16959186027055349247:=0
def tw7920931358557293821:=0
def tw11996214788932724093:=0
def tw17779447280147427037:=0
def tw945312885083392765:=0
def tw16631017196705035261:=0
def tw7880055805728059550:=0
def tw10797645769779886238:=0
def tw7881783232927293214:=0
def tw7683105641892379871:=0
def tw15929780615276691967:=0
def tw1711831070774051519:=0
def tw5087172170152347423:=0
def tw15459799649756495775:=0
end PySem.W.Fast
local macro_rules | `(tactic| walk_at "h0") => `(tactic| (refine' L2.kit_own ?a ?b ?c ?d; (case a=>rfl); (case b=>k_is); (case c=>k_is); (case d=>k_is)))
local macro_rules | `(tactic| walk_at "h1") => `(tactic| (refine' L2.methAt_mk ?a ?i ?l ?c ?k; (case a=>k_is); (case i=>k_is); (case l=>k_is); (case c=>k_is); (case k=>k_is)))
local macro_rules | `(tactic| walk_at "h2") => `(tactic| (refine' L2.defAt_mk ?a ?l ?c ?k; (case a=>k_is); (case l=>k_is); (case c=>k_is); (case k=>k_is)))
local macro_rules | `(tactic| walk_at "h3") => `(tactic| (refine' L2.mkAt_mk ?n ?m ?a ?i ?kc ?l ?c ?k; (case n=>k_is); (case m=>k_is); (case a=>k_is); (case i=>k_is); (case kc=>k_is); (case l=>k_is); (case c=>k_is); (case k=>k_is)))
local macro_rules | `(tactic| walk_at "h4") => `(tactic| (refine'⟨?a,L2.fun_mk ?l ?c ?k⟩; (case a=>k_is); (case l=>k_is); (case c=>k_is); (case k=>k_is)))
local macro_rules | `(tactic| walk_at "h5") => `(tactic| (refine'⟨⟨?a,?b,?c,?d⟩,?f0,?f1,?f2⟩; (case a=>k_is); (case b=>k_is); (case c=>k_is); (case d=>k_is); (case f0=>delta L2.NoAttr;k_is); (case f1=>delta L2.NoAttr;k_is); (case f2=>delta L2.NoAttr;k_is)))
local macro_rules | `(tactic| walk_at "h6") => `(tactic| (refine'⟨⟨?a,?b,?c,?d⟩,?f0,?f1,?f2,?f3⟩; (case a=>k_is); (case b=>k_is); (case c=>k_is); (case d=>k_is); (case f0=>delta L2.NoAttr;k_is); (case f1=>delta L2.NoAttr;k_is); (case f2=>delta L2.NoAttr;k_is); (case f3=>delta L2.NoAttr;k_is)))
local macro_rules | `(tactic| walk_at "h7") => `(tactic| (refine' L2.const_mk ?e ?r; (case e=>k_is); (case r=>exact⟨_,by with_unfolding_all rfl⟩)))
open PySem PySem.W PyProof.Rows
set_option maxRecDepth 100000 in
set_option maxHeartbeats 0 in
theorem PySem.Challenge.cw_fourvoices_k19_rows_read_holds : PySem.Challenge.rw_fourvoices_k19_rows_read.Holds := by
 w_on;o_law;k_head;(case hw=>w_witness2)
 k_fill
 refine K19.walk (l:=PySem.Challenge.rw_fourvoices_k19_rows_read) rfl rfl (fun w h Y=>PySem.W.kIn_of Y) ?F
 case F=>
  intro w mg fa h KX G hmg;refine' K19.all_mk KX G hmg ?Zfj ?Zas ?Zfk ?Zat ?Zfl ?Zau ?Zfm ?Zav ?Zfn ?Zaw ?Zfo ?Zap ?Zfp ?Zaq ?Zfq ?Zax ?Zfr ?Zay ?Zfs ?Zar ?Zb4 ?Za9 ?Zb5 ?Zb6 ?Zb7 ?Zb8 ?Zb9 ?Zca ?Zcb ?Zcc ?Zcd ?Zce ?Zcf ?Zcg ?Zch ?Zci ?Zcj ?Zck ?Zcl ?Zcm ?Zcn ?Zco ?Zcp ?Zcq ?Zcr ?Zcs ?Zct ?Zcu ?Zcv ?hn_ ?htk_ ?Zcw ?Zcx ?Zcy ?Zcz ?Zc0 ?Zc1 ?Zc2 ?Zc3 ?Zc4 ?Zc5 ?Zc6 ?Zc7 ?Zc8 ?Zc9 ?Zda ?Zdb ?Zdc ?Zdd ?Zde ?Zdf ?Zdg ?Zdh ?Zdi ?Zdj ?Zdk ?Zdl ?Zdm ?Zdn ?Zdo ?Zdp ?Zdq ?Zdr ?Zds ?Zdt ?Zdu ?Zdv ?Zdw ?Zdx ?Zdy ?Zdz ?Zd0 ?Zd1 ?Zd2 ?Zd3 ?Zd4 ?Zd5 ?Zd6 ?Zd7 ?Zd8 ?Zd9 ?Zea ?Zeb ?Zec ?Zed ?Zee ?Zef ?Zeg ?Zeh ?Zei ?Zej ?Zek ?Zel ?Zem ?Zen ?Zeo ?Zep ?Zeq ?Zer ?Zes ?Zet ?Zeu ?Zev ?Zew ?Zex ?Zey ?Zez ?Ze0 ?Ze1 ?Ze2 ?Ze3 ?Ze4 ?Ze5 ?Ze6 ?Ze7 ?Ze8 ?Ze9 ?Zfa ?Zfb ?n_MAKERS ?t_MAKERS ?e_MAKERS ?n_INNER_KINDS ?q_INNER_KINDS ?z_len ?z_range ?z_all ?z_min ?z_abs ?z_list ?z_isinstance ?z_bool ?z_int ?z_str ?z_enumerate ?z_tuple ?z_ValueError ?g_FIGURES ?g_MOST_FIGURES ?g_MOST_NUMBERS ?Zfc
  (case Zfj=>k_is)
  (case Zas=>walk_at "h6")
  (case Zfk=>k_is)
  (case Zat=>(refine'⟨⟨?a_3,?b_3,?c_3,?d_3⟩,?f0_3,?f1_3,?f2_3,?f3_3,?f4_3⟩;(case a_3=>k_is);(case b_3=>k_is);(case c_3=>k_is);(case d_3=>k_is);(case f0_3=>delta L2.NoAttr;k_is);(case f1_3=>delta L2.NoAttr;k_is);(case f2_3=>delta L2.NoAttr;k_is);(case f3_3=>delta L2.NoAttr;k_is);(case f4_3=>delta L2.NoAttr;k_is)))
  (case Zfl=>k_is)
  (case Zau=>walk_at "h5")
  (case Zfm=>k_is)
  (case Zav=>walk_at "h6")
  (case Zfn=>k_is)
  (case Zaw=>walk_at "h5")
  (case Zfo=>k_is)
  (case Zap=>walk_at "h5")
  (case Zfp=>k_is)
  (case Zaq=>(refine'⟨⟨?a_13,?b_13,?c_13,?d_13⟩,?f0_13,?f1_13,?f2_13,?f3_13,?f4_13⟩;(case a_13=>k_is);(case b_13=>k_is);(case c_13=>k_is);(case d_13=>k_is);(case f0_13=>delta L2.NoAttr;k_is);(case f1_13=>delta L2.NoAttr;k_is);(case f2_13=>delta L2.NoAttr;k_is);(case f3_13=>delta L2.NoAttr;k_is);(case f4_13=>delta L2.NoAttr;k_is)))
  (case Zfq=>k_is)
  (case Zax=>walk_at "h5")
  (case Zfr=>k_is)
  (case Zay=>walk_at "h5")
  (case Zfs=>k_is)
  (case Zar=>walk_at "h6")
  (case Zb4=>k_is)
  (case Za9=>k_is)
  (case Zb5=>k_is)
  (case Zb6=>k_is)
  (case Zb7=>k_is)
  (case Zb8=>k_is)
  (case Zb9=>k_is)
  (case Zca=>k_is)
  (case Zcb=>k_is)
  (case Zcc=>k_is)
  (case Zcd=>k_is)
  (case Zce=>k_is)
  (case Zcf=>k_is)
  (case Zcg=>k_is)
  (case Zch=>(refine' L2.exAt_mk ?lk_34 ?ln_34 ?en_34 ?ii_34 ?aa_34 ?ab_34 ?ac_34 ?ad_34 ?ae_34 ?ls_34 ?lm_34 ?em_34 ?is_34 ?ba_34 ?bb_34 ?bc_34 ?bd_34 ?be_34 ?kp_34 ?fn_34 ?l_34 ?c_34 ?k_34;(case lk_34=>k_is);(case ln_34=>k_is);(case en_34=>rfl);(case ii_34=>k_is);(case aa_34=>k_is);(case ab_34=>k_is);(case ac_34=>k_is);(case ad_34=>k_is);(case ae_34=>k_is);(case ls_34=>k_is);(case lm_34=>k_is);(case em_34=>rfl);(case is_34=>k_is);(case ba_34=>k_is);(case bb_34=>k_is);(case bc_34=>k_is);(case bd_34=>k_is);(case be_34=>k_is);(case kp_34=>k_is);(case fn_34=>k_is);(case l_34=>k_is);(case c_34=>k_is);(case k_34=>k_is)))
  (case Zci=>(refine' L2.exm_own ?a_35 ?b_35 ?c_35 ?d_35;(case a_35=>k_is);(case b_35=>k_is);(case c_35=>k_is);(case d_35=>k_is)))
  (case Zcj=>walk_at "h0")
  (case Zck=>(refine' L2.kit_ty ?a_37 ?b_37 ?d_37;(case a_37=>rfl);(case b_37=>rfl);(case d_37=>k_is)))
  (case Zcl=>walk_at "h0")
  (case Zcm=>walk_at "h0")
  (case Zcn=>walk_at "h0")
  (case Zco=>walk_at "h0")
  (case Zcp=>walk_at "h0")
  (case Zcq=>walk_at "h0")
  (case Zcr=>walk_at "h0")
  (case Zcs=>walk_at "h0")
  (case Zct=>walk_at "h0")
  (case Zcu=>walk_at "h0")
  (case Zcv=>walk_at "h0")
  (case hn_=>k_is)
  (case htk_=>k_is)
  (case Zcw=>k_is)
  (case Zcx=>k_is)
  (case Zcy=>walk_at "h0")
  (case Zcz=>k_is)
  (case Zc0=>k_is)
  (case Zc1=>walk_at "h0")
  (case Zc2=>k_is)
  (case Zc3=>k_is)
  (case Zc4=>walk_at "h0")
  (case Zc5=>k_is)
  (case Zc6=>k_is)
  (case Zc7=>walk_at "h0")
  (case Zc8=>k_is)
  (case Zc9=>k_is)
  (case Zda=>walk_at "h0")
  (case Zdb=>k_is)
  (case Zdc=>k_is)
  (case Zdd=>walk_at "h0")
  (case Zde=>k_is)
  (case Zdf=>k_is)
  (case Zdg=>walk_at "h0")
  (case Zdh=>k_is)
  (case Zdi=>k_is)
  (case Zdj=>walk_at "h0")
  (case Zdk=>k_is)
  (case Zdl=>k_is)
  (case Zdm=>walk_at "h0")
  (case Zdn=>k_is)
  (case Zdo=>k_is)
  (case Zdp=>walk_at "h0")
  (case Zdq=>(refine' L2.cmethAt_mk ?n_81 ?r_81 ?a_81 ?g_81 ?l_81 ?c_81 ?k_81;(case n_81=>k_is);(case r_81=>k_is);(case a_81=>k_is);(case g_81=>k_is);(case l_81=>k_is);(case c_81=>k_is);(case k_81=>k_is)))
  (case Zdr=>walk_at "h1")
  (case Zds=>walk_at "h1")
  (case Zdt=>walk_at "h1")
  (case Zdu=>walk_at "h1")
  (case Zdv=>walk_at "h1")
  (case Zdw=>walk_at "h1")
  (case Zdx=>walk_at "h1")
  (case Zdy=>walk_at "h1")
  (case Zdz=>walk_at "h1")
  (case Zd0=>walk_at "h1")
  (case Zd1=>walk_at "h1")
  (case Zd2=>walk_at "h1")
  (case Zd3=>walk_at "h1")
  (case Zd4=>walk_at "h1")
  (case Zd5=>walk_at "h1")
  (case Zd6=>walk_at "h1")
  (case Zd7=>walk_at "h1")
  (case Zd8=>walk_at "h1")
  (case Zd9=>walk_at "h1")
  (case Zea=>walk_at "h1")
  (case Zeb=>walk_at "h3")
  (case Zec=>walk_at "h3")
  (case Zed=>walk_at "h3")
  (case Zee=>walk_at "h3")
  (case Zef=>walk_at "h3")
  (case Zeg=>walk_at "h3")
  (case Zeh=>walk_at "h3")
  (case Zei=>walk_at "h3")
  (case Zej=>walk_at "h3")
  (case Zek=>walk_at "h3")
  (case Zel=>walk_at "h2")
  (case Zem=>walk_at "h2")
  (case Zen=>walk_at "h2")
  (case Zeo=>walk_at "h4")
  (case Zep=>walk_at "h4")
  (case Zeq=>walk_at "h4")
  (case Zer=>walk_at "h4")
  (case Zes=>walk_at "h4")
  (case Zet=>walk_at "h4")
  (case Zeu=>walk_at "h4")
  (case Zev=>walk_at "h4")
  (case Zew=>walk_at "h4")
  (case Zex=>walk_at "h2")
  (case Zey=>walk_at "h2")
  (case Zez=>(refine' L2.defAtD_mk2 ?a_126 ?l_126 ?c_126 ?k_126 ?t_126 ?d_126 ?r_126;(case a_126=>k_is);(case l_126=>k_is);(case c_126=>k_is);(case k_126=>k_is);(case t_126=>k_is);(case d_126=>rfl);(case r_126=>exact⟨_,rfl⟩)))
  (case Ze0=>walk_at "h2")
  (case Ze1=>walk_at "h2")
  (case Ze2=>walk_at "h2")
  (case Ze3=>walk_at "h2")
  (case Ze4=>walk_at "h2")
  (case Ze5=>walk_at "h2")
  (case Ze6=>walk_at "h2")
  (case Ze7=>walk_at "h2")
  (case Ze8=>walk_at "h2")
  (case Ze9=>walk_at "h2")
  (case Zfa=>walk_at "h2")
  (case Zfb=>walk_at "h2")
  (case n_MAKERS=>k_is)
  (case t_MAKERS=>(refine' L2.tab_mk ?l_140 ?s_140 ?x_140 ?y_140 ?z_140 ?d_140 ?r_140;(case l_140=>k_is);(case s_140=>rfl);(case x_140=>rfl);(case y_140=>rfl);(case z_140=>rfl);(case d_140=>rfl);(case r_140=>exact(L2.rowsR rfl rfl (L2.rowsR rfl rfl (L2.rowsR rfl rfl (L2.rowsR rfl rfl (L2.rowsR rfl rfl (L2.rowsR rfl rfl (L2.rowsR rfl rfl (L2.rowsR rfl rfl (L2.rowsR rfl rfl .nil))))))))))))
  (case e_MAKERS=>with_unfolding_all rfl)
  (case n_INNER_KINDS=>k_is)
  (case q_INNER_KINDS=>(refine' L2.ktup_mk ?l_143 ?x_143 ?d_143 ?z_143 ?r_143;(case l_143=>k_is);(case x_143=>rfl);(case d_143=>rfl);(case z_143=>decide);(case r_143=>exact(.cons ⟨_,rfl⟩ (.cons ⟨_,rfl⟩ .nil)))))
  (case z_len=>k_is)
  (case z_range=>k_is)
  (case z_all=>k_is)
  (case z_min=>k_is)
  (case z_abs=>k_is)
  (case z_list=>k_is)
  (case z_isinstance=>k_is)
  (case z_bool=>k_is)
  (case z_int=>k_is)
  (case z_str=>k_is)
  (case z_enumerate=>k_is)
  (case z_tuple=>k_is)
  (case z_ValueError=>k_is)
  (case g_FIGURES=>walk_at "h7")
  (case g_MOST_FIGURES=>walk_at "h7")
  (case g_MOST_NUMBERS=>walk_at "h7")
  (case Zfc=>walk_at "h2")
