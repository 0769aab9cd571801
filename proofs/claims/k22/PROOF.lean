import PyProof.Rows.All
import Wide.All
import OpenK.AllK
import Wide.FinOn
import Lean
import PyProof.EqAt
import PyProof.EqKinds
import PyProof.TupleCall
import KE.KTab
import KE.KRevSl
import PyProof.Rows.Range3
import PyProof.WalkInts
import PyProof.Rows.StrSplitMax
import KE.KMinKey
import PyProof.LongRange
import PyProof.ListRange
import PyProof.ExcClass3
import PyProof.InstStore
import PyProof.StationsW
import PyProof.ExcQuiet
import PyProof.RulesTry
import PyProof.ExcArgsOwn
import PyProof.DictRoadsH
import Wide.Seal
import KE.KRevIter
import PyProof.SumAny
import KE.KTryMore
import PyProof.SeqI3
import PyProof.DictTable
import PySem.Challenge.RW_fourvoices_k22_rows_refused
set_option Elab.async false
set_option linter.all false
set_option maxRecDepth 100000
abbrev aa0:=@List.length_map
abbrev aa1:=@Bool.false_ne_true
abbrev aa2:=@PySem.Heap.get?_push_of_some
abbrev aa3:=@List.size_toArray
abbrev aa4:=@List.getElem?_eq_some_iff
abbrev aa5:=@List.mem_cons
abbrev aa6:=@List.length_cons
abbrev aa7:=@Nat.le_refl
abbrev aa8:=@Nat.lt_of_le_of_lt
abbrev aa9:=@Nat.le_trans
abbrev ab0:=@PySem.Heap.lt_size
abbrev ab1:=@Nat.lt_of_lt_of_le
abbrev ab2:=@List.length_append
abbrev ab3:=@List.getElem?_eq_getElem
abbrev ab4:=@PySem.Heap.get?_push_size
abbrev ab5:=@Nat.zero_le
abbrev ab6:=@List.mem_append_right
abbrev ab7:=@Nat.ne_of_lt
abbrev ab8:=@List.map_append
abbrev ab9:=@List.mem_cons_self
abbrev ac0:=@List.mem_cons_of_mem
abbrev ac1:=@List.map_cons
abbrev ac2:=@List.getElem?_map
abbrev ac3:=@List.mem_append
abbrev ac4:=@List.mem_map
abbrev ac5:=@List.length_take
abbrev ac6:=@Bool.and_eq_true
abbrev ac7:=@List.mem_of_getElem?
abbrev ac8:=@List.take_add_one
abbrev ac9:=@List.mem_singleton
abbrev ad0:=@List.getElem?_append_right
abbrev ad1:=@List.take_succ_cons
abbrev ad2:=@List.length_nil
abbrev ad3:=@List.getD_eq_getElem?_getD
abbrev ad4:=@List.take_length
abbrev ad5:=@Nat.succ_le_succ
abbrev ad6:=@List.getElem?_append_left
abbrev ad7:=@Int.emod_lt_of_pos
abbrev ad8:=@List.replicate_succ
abbrev ad9:=@Int.eq_ofNat_of_zero_le
abbrev ae0:=@List.append_nil
abbrev ae1:=@List.all_cons
abbrev ae2:=@List.append_assoc
abbrev ae3:=@Int.emod_nonneg
abbrev ae4:=@Bool.and_true
abbrev ae5:=@List.map_take
abbrev ae6:=@PySem.Heap.get?_update_other
abbrev ae7:=@List.take_zero
abbrev ae8:=@List.mem_filterMap
abbrev ae9:=@List.length_drop
abbrev af0:=@List.lookup_cons
abbrev af1:=@List.all_eq_true
abbrev af2:=@List.length_eq_zero_iff
abbrev af3:=@Nat.lt_irrefl
abbrev af4:=@Nat.lt_succ_self
abbrev af5:=@Bool.false_eq_true
abbrev af6:=@List.getElem?_drop
abbrev af7:=@Array.getElem?_eq_some_iff
abbrev af8:=@PySem.Heap.get?_update_self
abbrev af9:=@Option.isNone_iff_eq_none
abbrev ag0:=@List.foldl_cons
abbrev ag1:=@List.map_nil
abbrev ag2:=@List.all_nil
abbrev ag3:=@List.filterMap_cons
abbrev ag4:=@Int.toNat_of_nonneg
abbrev ag5:=@List.take_of_length_le
abbrev ag6:=@List.contains_cons
abbrev ag7:=@Bool.eq_iff_iff
abbrev ag8:=@Int.toNat_natCast
abbrev ag9:=@List.flatten_cons
abbrev ah0:=@Nat.le_succ_of_le
abbrev ah1:=@List.mem_append_left
abbrev ah2:=@List.drop_eq_nil_iff
abbrev ah3:=@Nat.ne_of_gt
abbrev ah4:=@List.drop_eq_getElem_cons
abbrev ah5:=@List.forIn_cons
abbrev ah6:=@Nat.le_of_lt
abbrev ah7:=@List.getElem?_set_self
abbrev ah8:=@PySem.Heap.size_push
abbrev ah9:=@List.all_map
abbrev ai0:=@List.drop_drop
abbrev ai1:=@List.foldl_append
abbrev ai2:=@List.take_append_drop
abbrev ai3:=@List.getElem_mem
abbrev ai4:=@PySem.Heap.get?_none_of_le
abbrev ai5:=@List.getElem?_set_ne
abbrev ai6:=@Int.natAbs_of_nonneg
abbrev ai7:=@Nat.pow_le_pow_right
abbrev ai8:=@List.mem_of_mem_take
abbrev ai9:=@List.nodup_cons
abbrev aj0:=@Option.map_some
abbrev aj1:=@Nat.min_eq_left
abbrev aj2:=@Array.length_toList
abbrev aj3:=@List.map_congr_left
abbrev aj4:=@Nat.succ_mul
abbrev aj5:=@Nat.sub_self
abbrev aj6:=@Int.lt_or_le
abbrev aj7:=@List.map_map
abbrev aj8:=@Int.fdiv_eq_ediv_of_nonneg
abbrev aj9:=@Int.fmod_eq_emod_of_nonneg
abbrev ak0:=@Nat.le_succ
abbrev ak1:=@Int.le_refl
abbrev ak2:=@Array.size_append
abbrev ak3:=@List.any_cons
abbrev ak4:=@Nat.min_eq_right
abbrev ak5:=@List.drop_length
abbrev ak6:=@List.not_mem_nil
abbrev ak7:=@Nat.mul_comm
abbrev ak8:=@Int.le_of_lt
abbrev ak9:=@Nat.not_lt
abbrev al0:=@Nat.add_zero
abbrev al1:=@Nat.lt_trans
abbrev al2:=@List.of_mem_zip
abbrev al3:=@Bool.or_eq_true
open PySem.W (instObj Frag findIn isFn emptyDict keepIn mroIn kitOne kia_one callWith_K fnOf codeIn nsIn mg_of nsOkIn exmOne mg_none_of)
namespace L2
open PySem PySem.Spec PyProof.Rows
abbrev qF:=Sum Int Str
def AJ:qF→Value→Bool
 | .inl k,v=>Value.isInt k v
 | .inr x,v=>Value.isStrOf x v
def DG(w:World):qF→Int
 | .inl k=>hashInt k
 | .inr x=>hashStr w x
theorem bW:∀{k:qF} {v:Value},AJ k v=true→(∃i t,k=Sum.inl i∧v=Value.int i t)∨(∃x t,k=Sum.inr x∧v=Value.str x t)
 | .inl i,v,h=>by
  obtain⟨t,e⟩:=Value.isInt_shape (k:=i) (v:=v) h;exact .inl ⟨i,t,rfl,e⟩
 | .inr x,v,h=>by
  obtain⟨t,e⟩:=Value.isStrOf_shape (x:=x) (v:=v) h;exact .inr ⟨x,t,rfl,e⟩
theorem Bk(a b:Int):decide ((Sum.inl a:qF)=Sum.inl b)=(a == b):=by
 by_cases e:a=b
 ·subst e;simp
 ·have h:¬(Sum.inl a:qF)=Sum.inl b:=fun q=>e (Sum.inl.inj q)
  rw [decide_eq_false h];exact(beq_eq_false_iff_ne.mpr e).symm
theorem Bn(a b:Str):decide ((Sum.inr a:qF)=Sum.inr b)=decide (a=b):=by
 by_cases e:a=b
 ·subst e;simp
 ·have h:¬(Sum.inr a:qF)=Sum.inr b:=fun q=>e (Sum.inr.inj q)
  rw [decide_eq_false h,decide_eq_false e]
theorem Bl(a:Int)(b:Str):decide ((Sum.inl a:qF)=Sum.inr b)=false:=decide_eq_false (fun q=>nomatch q)
theorem Bm(a:Str)(b:Int):decide ((Sum.inr a:qF)=Sum.inl b)=false:=decide_eq_false (fun q=>nomatch q)
def pf(prog:Program)(w:World):PySem.KeyKind prog w qF where
 is:=AJ
 hash:=DG w
 inj:=fun v a b ha hb=>by
  rcases bW ha with⟨i,t,rfl,rfl⟩ | ⟨x,t,rfl,rfl⟩
  ·rcases bW hb with⟨j,u,rfl,e⟩ | ⟨y,u,rfl,e⟩
   ·injection e with e1 _;rw [e1]
   ·exact nomatch e
  ·rcases bW hb with⟨j,u,rfl,e⟩ | ⟨y,u,rfl,e⟩
   ·exact nomatch e
   ·injection e with e1 _;rw [e1]
 byValue:=fun k v h=>by
  rcases bW h with⟨i,t,rfl,rfl⟩ | ⟨x,t,rfl,rfl⟩<;>rfl
 pyHash:=fun hv h=>by
  rcases bW hv with⟨i,t,rfl,rfl⟩ | ⟨x,t,rfl,rfl⟩
  ·exact wpAny_pyHash_int h
  ·exact wpAny_pyHash_str h
 eqBool:=fun hu hv h=>by
  rcases bW hu with⟨i,t,rfl,rfl⟩ | ⟨x,t,rfl,rfl⟩
  ·rcases bW hv with⟨j,u,rfl,rfl⟩ | ⟨y,u,rfl,rfl⟩
   ·rw [Bk]at h;exact wpAny_eqBool_int h
   ·rw [Bl]at h;exact SeqAt.EqAt.int_str i t y u _ _ _ _ h
  ·rcases bW hv with⟨j,u,rfl,rfl⟩ | ⟨y,u,rfl,rfl⟩
   ·rw [Bm]at h;exact SeqAt.EqAt.str_int x t j u _ _ _ _ h
   ·rw [Bn]at h;exact wpAny_eqBool_str h
 «strs»:=fun k x t v h=>by
  rcases bW h with⟨i,u,rfl,e⟩ | ⟨y,u,rfl,e⟩
  ·exact nomatch e
  ·injection e with e1 _
   subst e1
   cases v<;>rfl
end L2
namespace L2
open PySem PySem.Spec PyProof.Rows
inductive V where
 | non | bl (b:Bool) | int (i:Int) | str (x:Str) | byt (b:Array UInt8) | flt (b:UInt64) | ref (a:Addr) | ty (n:String)
 deriving DecidableEq
def aN:V→Value→Prop
 | .non,u=>u=Value.none
 | .bl b,u=>u=Value.bool b
 | .int i,u=>∃t,u=Value.int i t
 | .str x,u=>∃t,u=Value.str x t
 | .byt b,u=>∃t,u=Value.bytes b t
 | .flt b,u=>∃t,u=Value.float b t
 | .ref a,u=>u=Value.ref a
 | .ty n,u=>u=Value.type n
abbrev aR:List V→List Value→Prop:=Paired aN
theorem aR.length{xs:List V}{us:List Value}(r:aR xs us):xs.length=us.length:=Paired.length r
theorem aR.get:∀{xs:List V} {us:List Value} {i:Nat} {x:V},aR xs us→xs[i]?=some x→∃u,us[i]?=some u∧aN x u
 | _,_,_,_,.nil,e=>by simp at e
 | _,_,0,_,.cons r _,e=>by simp at e;subst e;exact⟨_,rfl,r⟩
 | _,_,i+1,x,.cons _ t,e=>by
  obtain⟨u,h1,h2⟩:=aR.get (i:=i) (x:=x) t (by simpa using e);exact⟨u,by simpa using h1,h2⟩
theorem aR.set{x:V}{u:Value}(r:aN x u):∀{xs:List V} {us:List Value} (i:Nat),aR xs us→aR (xs.set i x) (us.set i u)
 | _,_,_,.nil=>.nil
 | _,_,0,.cons _ t=>.cons r t
 | _,_,i+1,.cons q t=>.cons q (aR.set r i t)
theorem aR.append:∀{xs ys:List V} {us ws:List Value},aR xs us→aR ys ws→aR (xs++ys) (us++ws)
 | _,_,_,_,.nil,s=>s
 | _,_,_,_,.cons r t,s=>.cons r (aR.append t s)
theorem aR.take:∀{xs:List V} {us:List Value} (n:Nat),aR xs us→aR (xs.take n) (us.take n)
 | _,_,0,_=>.nil
 | _,_,_+1,.nil=>.nil
 | _,_,n+1,.cons r t=>.cons r (aR.take n t)
theorem aR.drop:∀{xs:List V} {us:List Value} (n:Nat),aR xs us→aR (xs.drop n) (us.drop n)
 | _,_,0,r=>r
 | _,_,_+1,.nil=>.nil
 | _,_,n+1,.cons _ t=>aR.drop n t
def jh:Option V→Option Value→Prop
 | some v,some u=>aN v u
 | none,none=>True
 | _,_=>False
def KV{κ:Type}:List (κ×V)→List (κ×Value)→Prop:=Paired fun(p:κ×V) (q:κ×Value)=>p.1=q.1∧aN p.2 q.2
def kV:qF→V
 | .inl i=>.int i
 | .inr x=>.str x
inductive HO where
 | lst (xs:List V)
 | tup (xs:List V)
 | dK (kvs:List (qF×V)) | dT (kvs:List (List qF×V))
 | set (S:Int→Bool) (n:Nat)
 | ins (C dx:Addr) (fs:List (Str×V))
 | own (x:Addr)
 | xd (fs:List (Str×V))
 | met (f x:Addr)
 | rng (lo hi:Int)
 | frz (o:Obj) (u:HO)
 | tbl (ps:Array Value)
 | ext (φ:Heap→Prop)
abbrev Hp:=Addr→Option HO
def upd(H:Hp)(a:Addr)(o:HO):Hp:=fun b=>if b=a then some o else H b
theorem ae{H:Hp}{a:Addr}{o:HO}:upd H a o a=some o:=by unfold upd;rw [if_pos rfl]
theorem aj{H:Hp}{a b:Addr}{o:HO}(h:b≠a):upd H a o b=H b:=by unfold upd;rw [if_neg h]
theorem bJ{H:Hp}{a:Addr}{o u:HO}:upd (upd H a o) a u=upd H a u:=by
 funext b;unfold upd;split<;>rfl
theorem lI{H:Hp}{a b:Addr}{o u:HO}(h:H a=some o)(h':H b=some u)(d:o≠u):a≠b:=by
 intro e;subst e;rw [h]at h';exact d (Option.some.inj h')
theorem ak{H:Hp}{a b:Addr}{o:HO}(h:H a=some o)(h':H b=none):a≠b:=by
 intro e;subst e;rw [h]at h';cases h'
section
variable (P:Program) (w:World)
def cb(H:Hp)(h:Heap)(a:Addr):HO→Prop
 | .lst xs=>xs.length≤sizeLine∧∃(its:List Value) (n:Nat),aR xs its∧h.get? a=some { cls:=.type "list",data:=.seq its.toArray n }
 | .tup xs=>xs.length≤sizeLine∧∃its:List Value,aR xs its∧IsTup h a its.toArray
 | .dK kvs=>kvs.length≤sizeLine∧(a == sysModules)=false∧∃vs,KV kvs vs∧h.DictOf (pf P w) a vs
 | .dT kvs=>kvs.length≤sizeLine∧(a == sysModules)=false∧∃xs:List (List qF×Addr×Value),
   Paired (fun(p:List qF×V) (q:List qF×Addr×Value)=>p.1=q.1∧H q.2.1=some (.tup (p.1.map kV))∧aN p.2 q.2.2) kvs xs∧
   ∃o es ep,h.get? a=some o∧o.ExactDict∧o.data=.dict es ep∧es.toList=xs.map (entryOfKey (tupleKind (pf P w)))∧(xs.map (·.1)).Nodup
 | .set S n=>h.SetOf (intKind P w) a S n
 | .ins C dx fs=>H dx=some (.own a)∧fs.length≤1000∧dx≠a∧h.get? a=some (instObj C dx)∧
   ∃mA,h.Ns1 dx mA∧(∀f,jh (fs.lookup f) (mA f))∧PySem.Within mA (fs.map (·.1))
 | .own _=>∃o,h.get? a=some o
 | .xd fs=>∃mA,h.Ns1 a mA∧∀f,jh (fs.lookup f) (mA f)
 | .rng lo hi=>∃t u v,h.get? a=some { cls:=.type "range",data:=.fields #[.int lo t,.int hi u,.int 1 v] }
 | .frz o u=>h.get? a=some o∧cb H h a u
 | .tbl ps=>h.get? a=some { cls:=.none,data:=.fields ps }
 | .met f x=>h.get? a=some (PySem.W.methodObj (.ref f) (.ref x))
 | .ext φ=>φ h∧(∃o,h.get? a=some o)∧∀h1 h2:Heap,φ h1→(∀o,h1.get? a=some o→h2.get? a=some o)→φ h2
def iB(H:Hp)(h:Heap):Prop:=∀a o,H a=some o→cb P w H h a o
end
section
variable {P:Program} {w:World} {H H':Hp} {h h':Heap} {a:Addr} {o:HO}
theorem cb.lt(x:cb P w H h a o):a < h.objs.size:=by
 cases o with
 | lst xs=>obtain⟨_,_,_,_,e⟩:=x;exact ab0 e
 | tup xs=>obtain⟨_,_,_,p⟩:=x;exact p.lt
 | dK kvs=>obtain⟨_,_,_,_,o,_,_,e,_⟩:=x;exact ab0 e
 | dT kvs=>obtain⟨_,_,_,_,o,_,_,e,_⟩:=x;exact ab0 e
 | set S n=>obtain⟨o,_,_,_,e,_⟩:=x;exact ab0 e
 | ins C dx fs=>obtain⟨_,_,_,e,_⟩:=x;exact ab0 e
 | own y=>obtain⟨_,e⟩:=x;exact ab0 e
 | xd fs=>obtain⟨_,⟨_,_,_,e,_⟩,_⟩:=x;exact ab0 e
 | rng lo hi=>obtain⟨_,_,_,e⟩:=x;exact ab0 e
 | frz ob u=>obtain⟨e,_⟩:=x;exact ab0 e
 | tbl ps=>exact ab0 (show h.get? a=some _ from x)
 | met f y=>exact ab0 (show h.get? a=some _ from x)
 | ext φ=>obtain⟨_,⟨_,e⟩,_⟩:=x;exact ab0 e
theorem Paired.mapP{α β:Type}{F G:α→β→Prop}:∀{l₁:List α} {l₂:List β},Paired F l₁ l₂→(∀a b,F a b→G a b)→Paired G l₁ l₂
 | _,_,.nil,_=>.nil
 | _,_,.cons r t,f=>.cons (f _ _ r) (Paired.mapP t f)
theorem cb.stay(x:cb P w H h a o)(k:∀b u,(b=a∨H b=some (.own a))→h.get? b=some u→h'.get? b=some u)
  (ho:∀b,H b=some (.own a)→H' b=some (.own a)) (ht:∀b xs,H b=some (.tup xs)→H' b=some (.tup xs)):cb P w H' h' a o:=by
 induction o with
 | lst xs=>obtain⟨z,its,n,r,e⟩:=x;exact⟨z,its,n,r,k _ _ (.inl rfl) e⟩
 | tup xs=>obtain⟨z,its,r,ob,e,c⟩:=x;exact⟨z,its,r,ob,k _ _ (.inl rfl) e,c⟩
 | dK kvs=>obtain⟨z,y,vs,r,ob,es,ep,e,c⟩:=x;exact⟨z,y,vs,r,ob,es,ep,k _ _ (.inl rfl) e,c⟩
 | dT kvs=>
  obtain⟨z,y,xs,r,ob,es,ep,e,c⟩:=x;exact⟨z,y,xs,Paired.mapP r fun p q z=>⟨z.1,ht _ _ z.2.1,z.2.2⟩,ob,es,ep,k _ _ (.inl rfl) e,c⟩
 | set S n=>obtain⟨ob,es,ep,t,e,c⟩:=x;exact⟨ob,es,ep,t,k _ _ (.inl rfl) e,c⟩
 | ins C dx fs=>
  obtain⟨d,z,ne,e,mA,⟨od,es,ep,e2,c⟩,r⟩:=x;exact⟨ho _ d,z,ne,k _ _ (.inl rfl) e,mA,⟨od,es,ep,k _ _ (.inr d) e2,c⟩,r⟩
 | own y=>obtain⟨ob,e⟩:=x;exact⟨ob,k _ _ (.inl rfl) e⟩
 | xd fs=>obtain⟨mA,⟨od,es,ep,e,c⟩,r⟩:=x;exact⟨mA,⟨od,es,ep,k _ _ (.inl rfl) e,c⟩,r⟩
 | rng lo hi=>obtain⟨t,u,v,e⟩:=x;exact⟨t,u,v,k _ _ (.inl rfl) e⟩
 | frz ob u ih=>obtain⟨e,q⟩:=x;exact⟨k _ _ (.inl rfl) e,ih q⟩
 | tbl ps=>
  have e:h.get? a=some { cls:=.none,data:=.fields ps }:=x;show h'.get? a=some { cls:=.none,data:=.fields ps };exact k a _ (.inl rfl) e
 | met f y=>
  have e:h.get? a=some (PySem.W.methodObj (.ref f) (.ref y)):=x;show h'.get? a=some (PySem.W.methodObj (.ref f) (.ref y));exact k a _ (.inl rfl) e
 | ext φ=>obtain⟨p,⟨o,e⟩,st⟩:=x;exact⟨st _ _ p fun o q=>k _ _ (.inl rfl) q,⟨o,k _ _ (.inl rfl) e⟩,st⟩
theorem iB.lt(x:iB P w H h)(e:H a=some o):a < h.objs.size:=(x a o e).lt
theorem iB.fresh(x:iB P w H h)(e:h.objs.size≤a):H a=none:=by
 cases q:H a with
 | none=>rfl
 | some u=>exact absurd (ab1 (x.lt q) e) (af3 _)
theorem iB.kept(x:iB P w H h)(k:∀b u,h.get? b=some u→h'.get? b=some u):iB P w H h':=fun a o e=>
 (x a o e).stay (fun b u _ q=>k b u q) (fun _ q=>q) fun _ _ q=>q
theorem iB.laid(x:iB P w H h)(k:∀b u,h.get? b=some u→h'.get? b=some u)(hp:h.objs.size≤a)(new:cb P w (upd H a o) h' a o):iB P w (upd H a o) h':=fun b u e=>by
 have hn:=x.fresh hp
 by_cases hb:b=a
 ·subst hb;rw [ae]at e;cases e;exact new
 ·rw [aj hb]at e
  exact(x b u e).stay (fun c v _ q=>k c v q) (fun c q=>by rw [aj (ak q hn)];exact q) fun c xs q=>by rw [aj (ak q hn)];exact q
end
def Rd(H:Hp)(a:Addr)(u:HO):Prop:=H a=some u∨∃o,H a=some (.frz o u)
theorem Rd.ok{P:Program}{w:World}{H:Hp}{h:Heap}{a:Addr}{u:HO}(r:Rd H a u)(x:iB P w H h):cb P w H h a u:=by
 rcases r with r | ⟨o,r⟩
 ·exact x a u r
 ·obtain⟨_,q⟩:=x a _ r
  exact q
def Di:Option HO→Prop
 | some (.lst _)=>True
 | some (.dK _)=>True
 | some (.dT _)=>True
 | some (.set _ _)=>True
 | some (.ins _ _ _)=>True
 | some (.ext _)=>True
 | _=>False
section
variable {P:Program} {w:World} {H:Hp} {h h':Heap} {x e:Addr} {o':HO}
theorem iB.write(ok:iB P w H h)(mu:Di (H x))(he:e=x∨H e=some (.own x))(k:∀b u,b≠e→h.get? b=some u→h'.get? b=some u)(heo:∃u,h'.get? e=some u)
  (new:cb P w (upd H x o') h' x o'):iB P w (upd H x o') h':=fun b u q=>by
 have nown:∀c y,H c=some (.own y)→c≠x:=fun c y r z=>by subst z;rw [r]at mu;exact mu
 have ntup:∀c xs,H c=some (.tup xs)→c≠x:=fun c xs r z=>by subst z;rw [r]at mu;exact mu
 by_cases hb:b=x
 ·subst hb;rw [ae]at q;cases q;exact new
 ·rw [aj hb]at q
  by_cases hbe:b=e
  ·have q':H b=some (.own x):=by
    rcases he with z | z
    ·exact absurd (hbe.trans z) hb
    ·rw [hbe];exact z
   rw [q]at q';cases q';obtain⟨v,hv⟩:=heo;exact⟨v,by rw [hbe];exact hv⟩
  ·refine(ok b u q).stay (fun c v hc r=>k c v ?_ r) (fun c r=>by rw [aj (nown c b r)];exact r) fun c xs r=>by rw [aj (ntup c xs r)];exact r
   rcases hc with rfl | hc
   ·exact hbe
   ·rintro rfl
    rcases he with z | z
    ·exact nown c b hc z
    ·rw [hc]at z;cases z;exact hb rfl
end
structure Un(fs ex:List Addr)(H H':Hp)(h h':Heap):Prop where
 keep:∀b o,h.get? b=some o→H b=none→b∉fs→b∉ex→h'.get? b=some o
 slot:∀b o,h.get? b=some o→H b=none→b∈fs→b∉ex→∃sl,h'.get? b=some { o with slots:=sl }
 free:∀b o,h.get? b=some o→H b=none→b∉ex→H' b=none
 there:∀b o,h.get? b=some o→b∉ex→∃o',h'.get? b=some o'
 tups:∀b xs,H b=some (.tup xs)→H' b=some (.tup xs)
 frzs:∀b o u,H b=some (.frz o u)→H' b=some (.frz o u)
 tbls:∀b ps,H b=some (.tbl ps)→∃more,H' b=some (.tbl (ps++more))
section
variable {fs fs' ex ex':List Addr} {H H1 H2:Hp} {h h1 h2 h':Heap} {a x e:Addr} {o:HO}
theorem Un.any(u:Un fs ex H H1 h h1){b:Addr}{ob:Obj}(q:h.get? b=some ob)(n:H b=none)(hx:b∉ex):∃sl,h1.get? b=some { ob with slots:=sl }:=by
 by_cases hb:b∈fs
 ·exact u.slot b ob q n hb hx
 ·exact⟨ob.slots,u.keep b ob q n hb hx⟩
theorem Un.kept(k:∀b u,h.get? b=some u→h'.get? b=some u):Un fs ex H H h h':=
 ⟨fun b ob q _ _ _=>k b ob q,fun b ob q _ _ _=>⟨ob.slots,k b ob q⟩,fun _ _ _ n _=>n,fun b ob q _=>⟨ob,k b ob q⟩,fun _ _ q=>q,fun _ _ _ q=>q,fun _ ps q=>⟨#[],by rw [q];simp⟩⟩
theorem Un.refl:Un fs ex H H h h:=Un.kept fun _ _ q=>q
theorem Un.laid(k:∀b u,h.get? b=some u→h'.get? b=some u)(hp:h.objs.size≤a)(hn:H a=none):Un fs ex H (upd H a o) h h' where
 keep:=fun b u q _ _ _=>k b u q
 slot:=fun b u q _ _ _=>⟨u.slots,k b u q⟩
 free:=fun b u q n _=>by rw [aj (ab7 (ab1 (ab0 q) hp))];exact n
 there:=fun b u q _=>⟨u,k b u q⟩
 tups:=fun b xs q=>by rw [aj (ak q hn)];exact q
 frzs:=fun b u xs q=>by rw [aj (ak q hn)];exact q
 tbls:=fun b ps q=>⟨#[],by rw [aj (ak q hn),q];simp⟩
theorem Un.write(mu:Di (H x))(he:e=x∨H e=some (.own x))(k:∀b u,b≠e→h.get? b=some u→h'.get? b=some u)(heo:∃u,h'.get? e=some u):Un fs ex H (upd H x o) h h':=by
 have hx:∀b,H b=none→b≠x:=fun b n z=>by subst z;rw [n]at mu;exact mu
 have hb:∀b,H b=none→b≠e:=fun b n z=>by
  subst z;rcases he with r | r
  ·exact hx b n r
  ·rw [n]at r;cases r
 have hm:∀b u,H b=some u→¬Di (some u)→b≠x:=fun b u q nm z=>by subst z;rw [q]at mu;exact nm mu
 refine⟨fun b u q n _ _=>k b u (hb b n) q,fun b u q n _ _=>⟨u.slots,k b u (hb b n) q⟩,fun b u q n _=>by rw [aj (hx b n)];exact n,fun b u q _=>?_,
  fun b xs q=>by rw [aj (hm b _ q fun z=>z)];exact q,fun b u xs q=>by rw [aj (hm b _ q fun z=>z)];exact q,fun b ps q=>⟨#[],by rw [aj (hm b _ q fun z=>z),q];simp⟩⟩
 by_cases hbe:b=e
 ·subst hbe;exact heo
 ·exact⟨u,k b u hbe q⟩
end
def Dv(h:Heap)(H:Hp):List Addr:=(List.range h.objs.size).filter fun a=>(H a).isSome
def pd(h:Heap)(H:Hp):Heap:=PySem.W.hideAll h (Dv h H)
theorem vv(h:Heap)(H:Hp):(pd h H).objs.size=h.objs.size:=PySem.W.hideAll_size _ _
theorem xr{h:Heap}{H:Hp}{b:Addr}{o:Obj}(e:h.get? b=some o)(n:H b=none):(pd h H).get? b=some o:=
 PySem.W.hideAll_get _ e fun hm=>by
  have q:(H b).isSome=true:=(List.mem_filter.mp hm).2;rw [n]at q;simp at q
theorem zJ{h:Heap}{H:Hp}{b:Addr}{o:Obj}(e:(pd h H).get? b=some o):h.get? b=some o∧H b=none:=by
 have e':h.get? b=some o:=PySem.W.of_hideAll (Dv h H) e;refine⟨e',?_⟩
 cases q:H b with
 | none=>rfl
 | some x=>
  have hm:b∈Dv h H:=List.mem_filter.mpr ⟨List.mem_range.mpr (ab0 e'),by simp [q]⟩;have z:(pd h H).get? b=none:=PySem.W.hideAll_none (Dv h H) hm;rw [z]at e;cases e
def y7(g h:Heap)(L:Addr):List (Addr×Obj):=(List.range h.objs.size).filterMap fun a=>if a=L∨(g.get? a).isSome=true then none else(h.get? a).map fun o=>(a,o)
def rest(g h:Heap)(L d:Addr):List (Addr×Obj):=(y7 g h L).filter fun p=>decide (p.1≠d)
end L2
namespace L2
open PySem PySem.Spec PyProof.Rows
structure Mod(K:Frag)(mg:Str→Option Value)(base:Heap):Prop where
 kin:K.In base
 glob:base.Ns mainGlobals mg
 blt:∃mb,base.Ns builtinsNs mb∧∀x:Str,x≠"__name__"→mb x=bootBuiltins x
 nolimit:base.NoLimit
structure Cx where
 prog:Program
 w:World
 K:Frag
 mg:Str→Option Value
 base:Heap
 A:Around
 N:List Str
 s₀:Shared
 H₀:Hp
 env:Env
 outer:List Env
 stack:List Env
 ex:List Addr
 fn:Str→Bool
 calm:Bool
 pn:List (Addr×Obj)
 xe:Value→Shared→Prop
def mz(l:List Env):List Addr:=l.filterMap (·.frame)
abbrev Cx.fs(X:Cx):List Addr:=mz X.outer
def Dn(sc:Scope)(x:Str):Prop:=sc.names.lookup x=some .local∨sc.names.lookup x=some .cell∨sc.names.lookup x=some .free
def AU(sc:Scope)(x:Str):Prop:=sc.names.lookup x=some .local∨sc.names.lookup x=some .cell
def DA(env:Env)(h:Heap)(m:Str→Option Value)(x:Str)(u:Value):Prop:=
 (env.kindOf x=some .local∧m x=some u)∨((env.kindOf x=some .cell∨env.kindOf x=some .free)∧∃c,env.cells.lookup x=some c∧h.IsCell c (some u))
structure Cx.Ok(X:Cx):Prop where
 mod:Mod X.K X.mg X.base
 kind:X.env.scope.kind=.function
 glob:X.env.globals=mainGlobals
 blt:X.env.builtins=builtinsNs
 above:X.s₀.heap.objs.size≤X.env.locals
 inj:∀x y c,X.env.cells.lookup x=some c→X.env.cells.lookup y=some c→x=y
 has:∀x,(X.env.kindOf x=some .cell∨X.env.kindOf x=some .free)→∃c,X.env.cells.lookup x=some c
 cab:∀x c,X.fn x=true→X.env.cells.lookup x=some c→X.s₀.heap.objs.size≤c
 hd:X.calm=true→X.A.handled=none
 frames:X.A.frames=some X.stack
 stk:X.stack=X.outer∨(X.stack=X.env::X.outer∧X.env.frame=some X.env.locals)
 exf:∀b∈X.ex,b≠X.env.locals∧∀x c,X.env.cells.lookup x=some c→c≠b
 bs:∀b o,X.base.get? b=some o→X.s₀.heap.get? b=some o∧X.H₀ b=none
 bsz:X.base.objs.size≤X.s₀.heap.objs.size
 noex:∀b o,X.base.get? b=some o→b∉X.ex
 exfs:∀b∈X.ex,b∉X.fs
 funs:X.s₀.heap.FunFrames X.base X.outer
 frf:∀b∈X.fs,X.H₀ b=none
structure aH(X:Cx)(pins:List (Addr×Obj))(σ:List (Option V))(H:Hp)(s:Shared):Prop where
 ok:X.Ok
 os:s.os=X.s₀.os
 bare:AllBare s.gens
 base:Un X.fs X.ex X.H₀ H X.s₀.heap s.heap
 loc:∃m,s.heap.Ns X.env.locals m∧∀(i:Nat) (x:Str) (v:V),X.N[i]?=some x→σ[i]?=some (some v)→Dn X.env.scope x→∃u,aN v u∧DA X.env s.heap m x u
 cell:∀x c,X.env.cells.lookup x=some c→∃v,s.heap.IsCell c v
 free:H X.env.locals=none
 freeC:∀x c,X.env.cells.lookup x=some c→H c=none
 pin:∀p∈X.pn++pins,s.heap.get? p.1=some p.2∧H p.1=none∧p.1≠X.env.locals∧p.1∉X.fs∧∀v,p.2.data≠.cell v
 hok:iB X.prog X.w H s.heap
 len:σ.length=X.N.length
section
variable {X:Cx} {pins:List (Addr×Obj)} {σ:List (Option V)} {H H':Hp} {s:Shared} {h':Heap}
theorem Cx.Ok.nofr(ok:X.Ok){b:Addr}{o:Obj}(e:X.base.get? b=some o):b∉X.fs:=fun hb=>by
 have:=(ok.funs.mem hb).1
 rw [e]at this;cases this
theorem aH.bs(I:aH X pins σ H s):∀b o,X.base.get? b=some o→s.heap.get? b=some o∧H b=none:=fun b o e=>
 ⟨I.base.keep b o (I.ok.bs b o e).1 (I.ok.bs b o e).2 (I.ok.nofr e) (I.ok.noex b o e),I.base.free b o (I.ok.bs b o e).1 (I.ok.bs b o e).2 (I.ok.noex b o e)⟩
theorem aH.bk(I:aH X pins σ H s):∀b o,X.base.get? b=some o→s.heap.get? b=some o:=fun b o e=>(I.bs b o e).1
theorem aH.mod(I:aH X pins σ H s):Mod X.K X.mg X.base:=I.ok.mod
theorem aH.kIn(I:aH X pins σ H s):X.K.In s.heap:=I.ok.mod.kin.keeps I.bk
theorem aH.lt(I:aH X pins σ H s):X.env.locals < s.heap.objs.size:=let ⟨_,hn,_⟩:=I.loc;hn.lt
theorem aH.sz(I:aH X pins σ H s):X.s₀.heap.objs.size≤s.heap.objs.size:=aa9 I.ok.above (ah6 I.lt)
theorem aH.nofs(I:aH X pins σ H s){a:Addr}(h:s.heap.objs.size≤a):a∉X.fs:=fun hb=>by
 obtain⟨_,o,ho,_⟩:=I.ok.funs.mem hb;exact absurd (ab1 (ab0 ho) (aa9 I.sz h)) (af3 _)
theorem aH.cne(I:aH X pins σ H s):∀x c,X.env.cells.lookup x=some c→c≠X.env.locals:=fun x c e z=>by
 obtain⟨v,o,ho,hd⟩:=I.cell x c e;obtain⟨m,⟨o',es,ep,ho',hd',_⟩,_⟩:=I.loc;rw [z,ho']at ho;cases ho;rw [hd']at hd;cases hd
theorem aH.funs(I:aH X pins σ H s):s.heap.FunFrames X.base X.outer:=by
 have all:∀(l:List Env),(∀b∈mz l,b∈X.fs)→X.s₀.heap.FunFrames X.base l→s.heap.FunFrames X.base l:=by
  intro l
  induction l with
  | nil=>intro _ _;trivial
  | cons env r ih=>
   intro hs hl;obtain⟨hk,⟨L,o,hf,hn,ho,hd⟩,hr⟩:=hl;have hL:L∈X.fs:=hs L (by unfold mz;rw [ag3,hf];exact ab9);obtain⟨sl,e⟩:=I.base.slot L o ho (I.ok.frf L hL) hL fun z=>I.ok.exfs L z hL;exact⟨hk,⟨L,_,hf,hn,e,hd⟩,ih (fun b hb=>hs b (by unfold mz;rw [ag3,hf];exact ac0 _ hb)) hr⟩
 exact all X.outer (fun _ hb=>hb) I.ok.funs
theorem aH.stack(I:aH X pins σ H s):s.heap.FunFrames X.base X.stack:=by
 rcases I.ok.stk with e | ⟨e,hf⟩
 ·rw [e];exact I.funs
 ·rw [e]
  obtain⟨m,hn,_⟩:=I.loc;refine .cons (by rw [I.ok.kind];decide) hf hn ?_ I.funs;exact ai4 (aa9 I.ok.bsz I.ok.above)
theorem aH.stkSub(I:aH X pins σ H s):∀b∈mz X.stack,b∈X.env.locals::X.fs:=fun b hb=>by
 rcases I.ok.stk with e | ⟨e,hf⟩
 ·rw [e]at hb;exact ac0 _ hb
 ·rw [e]at hb
  unfold mz at hb;rw [ag3,hf]at hb;exact hb
theorem aH.stkFree(I:aH X pins σ H s):∀b∈mz X.stack,H b=none:=fun b hb=>by
 rcases aa5.mp (I.stkSub b hb)with e | hb
 ·rw [e];exact I.free
 ·obtain⟨_,o,ho,_⟩:=I.ok.funs.mem hb
  exact I.base.free b o ho (I.ok.frf b hb) fun z=>I.ok.exfs b z hb
theorem aH.step{g':Array GenState}{t':Nat}{d':Drawn}{ch:List Addr}(I:aH X pins σ H s)
  (hch:∀b∈ch,(b∈X.ex∨X.s₀.heap.objs.size≤b)∧b≠X.env.locals∧(∀x c,X.env.cells.lookup x=some c→c≠b)∧∀p∈X.pn++pins,p.1≠b)
  (keep:∀b o,b≠X.env.locals→b∉X.fs→b∉ch→s.heap.get? b=some o→H b=none→h'.get? b=some o)
  (slot:∀b o,b≠X.env.locals→b∈X.fs→b∉ch→s.heap.get? b=some o→H b=none→∃sl,h'.get? b=some { o with slots:=sl }) (free:∀b o,b∉ch→s.heap.get? b=some o→H b=none→H' b=none)
  (there:∀b o,b∉ch→s.heap.get? b=some o→∃o',h'.get? b=some o')
  (tups:∀b xs,H b=some (.tup xs)→H' b=some (.tup xs)) (frzs:∀b o u,H b=some (.frz o u)→H' b=some (.frz o u)) (tbls:∀b ps,H b=some (.tbl ps)→∃more,H' b=some (.tbl (ps++more)))
  (ns:∀m,s.heap.Ns X.env.locals m→h'.Ns X.env.locals m) (hok:iB X.prog X.w H' h') (hg:AllBare g') :
  aH X pins σ H' { s with heap:=h',gens:=g',drawn:=d',toks:=t' }:=by
 have neL:∀b o,X.s₀.heap.get? b=some o→b≠X.env.locals:=fun b o e=>ab7 (ab1 (ab0 e) I.ok.above)
 have neC:∀b o,X.s₀.heap.get? b=some o→b∉X.ex→b∉ch:=fun b o e hx hb=>by
  rcases(hch b hb).1 with z | z
  ·exact hx z
  ·exact absurd (ab1 (ab0 e) z) (af3 _)
 have cellK:∀x c,X.env.cells.lookup x=some c→∀v,s.heap.IsCell c v→h'.IsCell c v:=fun x c e v ⟨o,ho,hd⟩=>by
  have nch:c∉ch:=fun z=>(hch c z).2.2.1 x c e rfl
  by_cases hc:c∈X.fs
  ·obtain⟨sl,q⟩:=slot c o (I.cne x c e) hc nch ho (I.freeC x c e)
   exact⟨_,q,hd⟩
  ·exact⟨o,keep c o (I.cne x c e) hc nch ho (I.freeC x c e),hd⟩
 refine⟨I.ok,I.os,hg,⟨fun b o e n hb hx=>?_,fun b o e n hb hx=>?_,fun b o e n hx=>?_,fun b o e hx=>?_,fun b xs e=>tups b xs (I.base.tups b xs e),fun b o xs e=>frzs b o xs (I.base.frzs b o xs e),fun b ps e=>?_⟩,?_,fun x c e=>?_,?_,fun x c e=>?_,fun p hp=>?_,hok,I.len⟩
 ·exact keep b o (neL b o e) hb (neC b o e hx) (I.base.keep b o e n hb hx) (I.base.free b o e n hx)
 ·obtain⟨sl,e1⟩:=I.base.slot b o e n hb hx
  obtain⟨sl',e2⟩:=slot b _ (neL b o e) hb (neC b o e hx) e1 (I.base.free b o e n hx);exact⟨sl',e2⟩
 ·obtain⟨o',e1⟩:=I.base.there b o e hx
  exact free b o' (neC b o e hx) e1 (I.base.free b o e n hx)
 ·obtain⟨o',e1⟩:=I.base.there b o e hx
  exact there b o' (neC b o e hx) e1
 ·obtain⟨m1,e1⟩:=I.base.tbls b ps e
  obtain⟨m2,e2⟩:=tbls b _ e1;exact⟨m1++m2,by rw [e2,Array.append_assoc]⟩
 ·obtain⟨m,hn,hl⟩:=I.loc
  refine⟨m,ns m hn,fun i x v e1 e2 e3=>?_⟩;obtain⟨u,r,l⟩:=hl i x v e1 e2 e3;refine⟨u,r,?_⟩;rcases l with l | ⟨k,c,e,z⟩
  ·exact .inl l
  ·exact .inr ⟨k,c,e,cellK x c e _ z⟩
 ·obtain⟨v,z⟩:=I.cell x c e
  exact⟨v,cellK x c e v z⟩
 ·obtain⟨m,⟨o,_,_,ho,_⟩,_⟩:=I.loc
  exact free _ o (fun z=>(hch _ z).2.1 rfl) ho I.free
 ·obtain⟨v,o,ho,hd⟩:=I.cell x c e
  exact free c o (fun z=>(hch c z).2.2.1 x c e rfl) ho (I.freeC x c e)
 ·obtain⟨e,n,ne,nf,d⟩:=I.pin p hp
  have nch:p.1∉ch:=fun z=>(hch p.1 z).2.2.2 p hp rfl;exact⟨keep p.1 p.2 ne nf nch e n,free p.1 p.2 nch e n,ne,nf,d⟩
theorem aH.un{t':Nat}(I:aH X pins σ H s)(u:Un X.fs [] H H' s.heap h')(hok:iB X.prog X.w H' h'):aH X pins σ H' { s with heap:=h',toks:=t' }:=by
 obtain⟨m,⟨o,es,ep,ho,r⟩,_⟩:=id I.loc;obtain⟨sl,hL⟩:=u.any ho I.free (by simp)
 exact I.step (g':=s.gens) (d':=s.drawn) (ch:=[]) (fun _ z=>nomatch z) (fun b o _ hb _ e n=>u.keep b o e n hb (by simp)) (fun b o _ hb _ e n=>u.slot b o e n hb (by simp)) (fun b o _ e n=>u.free b o e n (by simp)) (fun b o _ e=>u.there b o e (by simp)) u.tups u.frzs u.tbls (fun m' hm=>by
  obtain⟨o',es',ep',ho',r'⟩:=hm;rw [ho]at ho';cases ho'
  exact⟨_,es',ep',hL,r'⟩) hok I.bare
theorem aH.call{g':Array GenState}{t':Nat}{d':Drawn}{ch:List Addr}(I:aH X pins σ H s)(u:Un (mz X.stack) ch H H' s.heap h')(hok:iB X.prog X.w H' h')(hg:AllBare g')
  (hch:∀b∈ch,(b∈X.ex∨X.s₀.heap.objs.size≤b)∧b≠X.env.locals∧(∀x c,X.env.cells.lookup x=some c→c≠b)∧∀p∈X.pn++pins,p.1≠b) :
  aH X pins σ H' { s with heap:=h',gens:=g',drawn:=d',toks:=t' }:=by
 obtain⟨m,⟨o,es,ep,ho,r⟩,_⟩:=id I.loc;obtain⟨sl,hL⟩:=u.any ho I.free fun z=>(hch _ z).2.1 rfl
 exact I.step (ch:=ch) hch (fun b o hL hb hc e n=>u.keep b o e n (fun z=>(aa5.mp (I.stkSub b z)).elim hL hb) hc) (fun b o _ _ hc e n=>u.any e n hc) (fun b o hc e n=>u.free b o e n hc) (fun b o hc e=>u.there b o e hc) u.tups u.frzs u.tbls (fun m' hm=>by
  obtain⟨o',es',ep',ho',r'⟩:=hm;rw [ho]at ho';cases ho'
  exact⟨_,es',ep',hL,r'⟩) hok hg
theorem aH.turned{t':Nat}{it:Addr}(I:aH X pins σ H s)(k:∀b o,b≠it→s.heap.get? b=some o→h'.get? b=some o)(hn:H it=none)(hL:it≠X.env.locals)
  (h1:it∈X.ex∨X.s₀.heap.objs.size≤it) (h2:∀x c,X.env.cells.lookup x=some c→c≠it) (h3:∀p∈X.pn++pins,p.1≠it):aH X pins σ H { s with heap:=h',toks:=t' }:=by
 have nit:∀b u,H b=some u→b≠it:=fun b u e z=>by rw [z,hn]at e;cases e
 refine I.step (g':=s.gens) (d':=s.drawn) (ch:=[it]) (fun b hb=>?_) (fun b o _ _ hc e _=>k b o (fun z=>hc (by simp [z])) e) (fun b o _ _ hc e _=>⟨o.slots,k b o (fun z=>hc (by simp [z])) e⟩) (fun _ _ _ _ n=>n)
  (fun b o hc e=>⟨o,k b o (fun z=>hc (by simp [z])) e⟩) (fun _ _ e=>e) (fun _ _ _ e=>e) (fun b ps e=>⟨#[],by rw [e];simp⟩) (fun m hm=>?_) (fun b u e=>?_) I.bare
 ·have e:b=it:=by simpa using hb
  subst e;exact⟨h1,hL,h2,h3⟩
 ·obtain⟨o,es,ep,ho,r⟩:=hm
  exact⟨o,es,ep,k _ o (Ne.symm hL) ho,r⟩
 ·refine(I.hok b u e).stay (fun c v hc q=>k c v ?_ q) (fun _ q=>q) fun _ _ q=>q
  rcases hc with z | z
  ·rw [z];exact nit b u e
  ·exact nit c _ z
theorem aH.tok(I:aH X pins σ H s)(t:Nat):aH X pins σ H { s with toks:=t }:=I.un (h':=s.heap) (t':=t) Un.refl I.hok
theorem aH.kept{t':Nat}(I:aH X pins σ H s)(k:∀b u,s.heap.get? b=some u→h'.get? b=some u):aH X pins σ H { s with heap:=h',toks:=t' }:=I.un (Un.kept k) (I.hok.kept k)
theorem aH.laid{a:Addr}{o:HO}{t':Nat}(I:aH X pins σ H s)(k:∀b u,s.heap.get? b=some u→h'.get? b=some u)(hp:s.heap.objs.size≤a)(new:cb X.prog X.w (upd H a o) h' a o):
  aH X pins σ (upd H a o) { s with heap:=h',toks:=t' }:=I.un (Un.laid k hp (I.hok.fresh hp)) (I.hok.laid k hp new)
theorem aH.write{x e:Addr}{o:HO}{t':Nat}(I:aH X pins σ H s)(mu:Di (H x))(he:e=x∨H e=some (.own x))(k:∀b u,b≠e→s.heap.get? b=some u→h'.get? b=some u)(heo:∃u,h'.get? e=some u)
  (new:cb X.prog X.w (upd H x o) h' x o):aH X pins σ (upd H x o) { s with heap:=h',toks:=t' }:=I.un (Un.write mu he k heo) (I.hok.write mu he k heo new)
theorem aH.pins_of{pins':List (Addr×Obj)}(I:aH X pins σ H s)(h:∀p∈pins',s.heap.get? p.1=some p.2∧H p.1=none∧p.1≠X.env.locals∧p.1∉X.fs∧∀v,p.2.data≠.cell v):aH X pins' σ H s:=
 ⟨I.ok,I.os,I.bare,I.base,I.loc,I.cell,I.free,I.freeC,fun p hp=>(ac3.mp hp).elim (fun z=>I.pin p (ah1 _ z)) (h p),I.hok,I.len⟩
theorem lJ{N:List Str}(hN:N.Nodup){i j:Nat}{x:Str}(a:N[i]?=some x)(b:N[j]?=some x):i=j:=by
 obtain⟨h1,e1⟩:=aa4.mp a;obtain⟨h2,e2⟩:=aa4.mp b;exact(List.getElem_inj hN).mp (e1.trans e2.symm)
theorem oC{M:Model}{A:Around}{E:Value→Shared→Prop}{i:Nat}{x:Str}{v:V}{u:Value}{Q:Unit→Shared→Prop}(I:aH X pins σ H s)(hN:X.N.Nodup)(hi:X.N[i]?=some x)(hx:AU X.env.scope x)(r:aN v u)
  (h:∀s',aH X pins (σ.set i (some v)) H s'→(∃a,Heap.SameBut a s.heap s'.heap∧(a=X.env.locals∨X.env.cells.lookup x=some a))→Q () s') (hf:X.fn x=true∨X.env.scope.names.lookup x=some .local:=by first | exact .inl rfl | exact .inr rfl | assumption):wpAny M A (storeName X.env x u) Q E s:=by
 obtain⟨m,hn,hl⟩:=id I.loc
 have hcls:(X.env.scope.kind == .class || (X.env.scope.kind == .module && X.env.locals != X.env.globals))=false:=by rw [I.ok.kind];rfl
 have hiσ:i < σ.length:=by rw [I.len];exact(aa4.mp hi).1
 have cne:=I.cne
 have tracked:∀{a:Addr} {h':Heap},(∃o,s.heap.get? a=some o∧H a=none)→Heap.SameBut a s.heap h'→iB X.prog X.w H h':=fun {a h'} ha hs b ob e=>by
  obtain⟨_,_,hfree⟩:=ha;refine(I.hok b ob e).stay (fun c w' hc q=>(hs.2 c ?_).trans q) (fun _ q=>q) fun _ _ q=>q;rintro rfl;rcases hc with rfl | hc
  ·rw [hfree]at e;cases e
  ·rw [hfree]at hc;cases hc
 rcases hx with hk | hk
 ·refine wpAny_storeName_local hk hn (fun h' hn' hs=>?_) hcls
  obtain⟨oL,_,_,hoL,_⟩:=id hn;refine h _ ⟨I.ok,I.os,I.bare,⟨fun b o e n hb hx=>?_,fun b o e n hb hx=>?_,I.base.free,fun b o e hx=>?_,I.base.tups,I.base.frzs,I.base.tbls⟩,⟨_,hn',fun j y v' e1 e2 e3=>?_⟩,fun y c e=>?_,I.free,I.freeC,fun p hp=>?_,tracked ⟨oL,hoL,I.free⟩ hs,by simpa using I.len⟩ ⟨_,hs,.inl rfl⟩
  ·exact(hs.2 b (ab7 (ab1 (ab0 e) I.ok.above))).trans (I.base.keep b o e n hb hx)
  ·obtain⟨sl,e1⟩:=I.base.slot b o e n hb hx
   exact⟨sl,(hs.2 b (ab7 (ab1 (ab0 e) I.ok.above))).trans e1⟩
  ·obtain⟨o',e1⟩:=I.base.there b o e hx
   exact⟨o',(hs.2 b (ab7 (ab1 (ab0 e) I.ok.above))).trans e1⟩
  ·by_cases hj:j=i
   ·subst hj
    rw [hi]at e1;cases e1;rw [ah7 hiσ]at e2;cases e2;exact⟨u,r,.inl ⟨hk,by simp⟩⟩
   ·rw [ai5 (Ne.symm hj)]at e2
    obtain⟨u',r',q⟩:=hl j y v' e1 e2 e3;refine⟨u',r',?_⟩;rcases q with⟨k,e⟩ | ⟨k,c,e,z⟩
    ·refine .inl ⟨k,?_⟩
     have:y≠x:=fun e=>hj (lJ hN e1 (e▸hi))
     simp [this,e]
    ·exact .inr ⟨k,c,e,z.sameBut hs (cne y c e)⟩
  ·obtain⟨w',z⟩:=I.cell y c e
   exact⟨w',z.sameBut hs (cne y c e)⟩
  ·obtain⟨e,n,ne,nf,d⟩:=I.pin p hp
   exact⟨(hs.2 p.1 ne).trans e,n,ne,nf,d⟩
 ·have hfn:X.fn x=true:=by
   rcases hf with z | z
   ·exact z
   ·rw [z]at hk;cases hk
  obtain⟨c,hc⟩:=I.ok.has x (.inl hk);obtain⟨w',z⟩:=I.cell x c hc;refine wpAny_storeName_cell I.ok.kind hk hc z (fun h' hc' hs=>?_);obtain⟨oc,hoc,hocd⟩:=id z;refine h { s with heap:=h' } ⟨I.ok,I.os,I.bare,⟨fun b o e n hb hx=>?_,fun b o e n hb hx=>?_,I.base.free,fun b o e hx=>?_,I.base.tups,I.base.frzs,I.base.tbls⟩,⟨m,hn.sameBut hs (Ne.symm (cne x c hc)),fun j y v' e1 e2 e3=>?_⟩,fun y c' e=>?_,I.free,I.freeC,fun p hp=>?_,tracked ⟨oc,hoc,I.freeC x c hc⟩ hs,by simpa using I.len⟩ ⟨c,hs,.inr hc⟩
  ·exact(hs.2 b (ab7 (ab1 (ab0 e) (I.ok.cab x c hfn hc)))).trans (I.base.keep b o e n hb hx)
  ·obtain⟨sl,e1⟩:=I.base.slot b o e n hb hx
   exact⟨sl,(hs.2 b (ab7 (ab1 (ab0 e) (I.ok.cab x c hfn hc)))).trans e1⟩
  ·obtain⟨o',e1⟩:=I.base.there b o e hx
   exact⟨o',(hs.2 b (ab7 (ab1 (ab0 e) (I.ok.cab x c hfn hc)))).trans e1⟩
  ·by_cases hj:j=i
   ·subst hj
    rw [hi]at e1;cases e1;rw [ah7 hiσ]at e2;cases e2;exact⟨u,r,.inr ⟨.inl hk,c,hc,hc'⟩⟩
   ·rw [ai5 (Ne.symm hj)]at e2
    obtain⟨u',r',q⟩:=hl j y v' e1 e2 e3;refine⟨u',r',?_⟩;rcases q with q | ⟨k,c',e,z'⟩
    ·exact .inl q
    ·refine .inr ⟨k,c',e,z'.sameBut hs ?_⟩
     rintro rfl;exact hj (lJ hN e1 (I.ok.inj _ _ _ e hc▸hi))
  ·by_cases hcc:c'=c
   ·subst hcc;exact⟨_,hc'⟩
   ·obtain⟨w2,z2⟩:=I.cell y c' e
    exact⟨w2,z2.sameBut hs hcc⟩
  ·obtain⟨e,n,ne,nf,d⟩:=I.pin p hp
   refine⟨(hs.2 p.1 ?_).trans e,n,ne,nf,d⟩;intro q;rw [q,hoc]at e;have q':oc=p.2:=Option.some.inj e;exact d w' (by rw [←q'];exact hocd)
theorem gs{M:Model}{A:Around}{E:Value→Shared→Prop}{i:Nat}{x:Str}{v:V}{u:Value}{Q:Unit→Shared→Prop}(I:aH X pins σ H s)(hN:X.N.Nodup)(hi:X.N[i]?=some x)(hx:AU X.env.scope x)(r:aN v u)
  (h:∀s',aH X pins (σ.set i (some v)) H s'→Q () s') (hf:X.fn x=true∨X.env.scope.names.lookup x=some .local:=by first | exact .inl rfl | exact .inr rfl | assumption):wpAny M A (storeName X.env x u) Q E s:=
 oC I hN hi hx r (fun s' I' _=>h s' I') hf
theorem aH.call'{s':Shared}{ch:List Addr}(I:aH X pins σ H s)(ho:s'.os=s.os)(u:Un (mz X.stack) ch H H' s.heap s'.heap)(hok:iB X.prog X.w H' s'.heap)(hg:AllBare s'.gens)
  (hch:∀b∈ch,(b∈X.ex∨X.s₀.heap.objs.size≤b)∧b≠X.env.locals∧(∀x c,X.env.cells.lookup x=some c→c≠b)∧∀p∈X.pn++pins,p.1≠b):aH X pins σ H' s':=by
 obtain⟨h',g',d',t',o'⟩:=s';have e:o'=s.os:=ho;subst e;exact I.call (g':=g') (t':=t') (d':=d') u hok hg hch
end
abbrev XK:=Value→Option Addr→Hp→Prop
abbrev St:=List (Option V)
abbrev VK:=V→Hp→Prop
abbrev TE:=St→Hp→VK→Prop
abbrev TT:=St→Hp→(Bool→Hp→Prop)→Prop
abbrev TA:=St→Hp→(List V→Hp→Prop)→Prop
structure eG where
 nx:St→Hp→Prop
 rt:VK
 bk:St→Hp→Prop:=fun _ _=>False
 ct:St→Hp→Prop:=fun _ _=>False
abbrev TS:=eG→St→Hp→Prop
def EP(X:Cx)(pins:List (Addr×Obj))(σ:St)(Q:VK)(u:Value)(s':Shared):Prop:=∃v H',aH X pins σ H' s'∧aN v u∧Q v H'
def TP(X:Cx)(pins:List (Addr×Obj))(σ:St)(Q:Bool→Hp→Prop)(b:Bool)(s':Shared):Prop:=∃H',aH X pins σ H' s'∧Q b H'
def AP(X:Cx)(pins:List (Addr×Obj))(σ:St)(Q:List V→Hp→Prop)(us:List Value)(s':Shared):Prop:=∃vs H',aH X pins σ H' s'∧aR vs us∧Q vs H'
def SP(X:Cx)(pins:List (Addr×Obj))(D:eG)(f:Flow)(s':Shared):Prop:=
 match f with
 | .next=>∃σ' H',aH X pins σ' H' s'∧D.nx σ' H'
 | .brk=>∃σ' H',aH X pins σ' H' s'∧D.bk σ' H'
 | .cont=>∃σ' H',aH X pins σ' H' s'∧D.ct σ' H'
 | .ret u=>∃v σ' H',aH X pins σ' H' s'∧aN v u∧D.rt v H'
def PE(X:Cx)(e:Expr)(t:TE):Prop:=
 ∀(pins:List (Addr×Obj)) (s:Shared) (σ:St) (H:Hp) (Q:VK),aH X pins σ H s→t σ H Q→wpAny (model X.prog X.w) X.A (eval e X.env) (EP X pins σ Q) X.xe s
def PT(X:Cx)(e:Expr)(t:TT):Prop:=
 ∀(pins:List (Addr×Obj)) (s:Shared) (σ:St) (H:Hp) (Q:Bool→Hp→Prop),aH X pins σ H s→t σ H Q→wpAny (model X.prog X.w) X.A (isTrue e X.env (eval e X.env)) (TP X pins σ Q) X.xe s
def PW(X:Cx)(e:Expr)(t:TT):Prop:=
 ∀(whole:Sem Value) (pins:List (Addr×Obj)) (s:Shared) (σ:St) (H:Hp) (Q:Bool→Hp→Prop),aH X pins σ H s→t σ H Q→wpAny (model X.prog X.w) X.A (isTrue e X.env whole) (TP X pins σ Q) X.xe s
theorem PW.pt{X:Cx}{e:Expr}{t:TT}(h:PW X e t):PT X e t:=h _
def PA(X:Cx)(es:List Expr)(t:TA):Prop:=
 ∀(pos:Pos) (pins:List (Addr×Obj)) (s:Shared) (σ:St) (H:Hp) (Q:List V→Hp→Prop),aH X pins σ H s→t σ H Q→wpAny (model X.prog X.w) X.A (spliced (backTo pos (starEach es X.env))) (AP X pins σ Q) X.xe s
def PS(X:Cx)(st:Stmt)(t:TS):Prop:=
 ∀(pins:List (Addr×Obj)) (s:Shared) (σ:St) (H:Hp) (D:eG),aH X pins σ H s→t D σ H→wpAny (model X.prog X.w) X.A (exec st X.env) (SP X pins D) X.xe s
def sC(X:Cx)(st:List Stmt)(t:TS):Prop:=
 ∀(pins:List (Addr×Obj)) (s:Shared) (σ:St) (H:Hp) (D:eG),aH X pins σ H s→t D σ H→wpAny (model X.prog X.w) X.A (execs st X.env) (SP X pins D) X.xe s
theorem b6{α:Type}{t:Sem α}{Q Q':α→Shared→Prop}{M:Model}{A:Around}{E:Value→Shared→Prop}{s:Shared}(h:wpAny M A t Q E s)(hQ:∀a s,Q a s→Q' a s):wpAny M A t Q' E s:=wpAny_mono h hQ fun _ _ x=>x
end L2
namespace L2
open PySem PySem.Spec PyProof.Rows
section
variable {X:Cx}
theorem bin{a b:Expr}{ta tb:TE}(ha:PE X a ta)(hb:PE X b tb){pins:List (Addr×Obj)}{s:Shared}{σ:St}{H:Hp}{R:V→V→Hp→Prop}(I:aH X pins σ H s)(h:ta σ H fun x H1=>tb σ H1 fun y H2=>R x y H2)
  {α:Type} {Q:α→Shared→Prop} {f:Value→Value→Sem α}
  (hf:∀v u s2 x y H2,aH X pins σ H2 s2→aN x v→aN y u→R x y H2→wpAny (model X.prog X.w) X.A (f v u) Q X.xe s2) :
  wpAny (model X.prog X.w) X.A (eval a X.env) (fun v s₁=>wpAny (model X.prog X.w) X.A (eval b X.env) (fun u s₂=>wpAny (model X.prog X.w) X.A (f v u) Q X.xe s₂) X.xe s₁) X.xe s:=by
 refine b6 (ha pins s σ H _ I h) fun v s1 ⟨x,H1,I1,r1,q1⟩=>?_;refine b6 (hb pins s1 σ H1 _ I1 q1) fun u s2 ⟨y,H2,I2,r2,q2⟩=>?_;exact hf v u s2 x y H2 I2 r1 r2 q2
def Aq(i:Nat):TE:=fun σ H Q=>∃v,σ[i]?=some (some v)∧Q v H
def tC(v:V):TE:=fun _ H Q=>Q v H
theorem BB{i:Nat}{x:Str}{pos:Pos}(hN:X.N[i]?=some x)(hv:Dn X.env.scope x)(hd:(x == ("__debug__":Str))=false:=by decide)(hcd:(x == ("__classdict__":Str))=false:=by decide):PE X (.Name x pos) (Aq i):=by
 intro pins s σ H Q I h;obtain⟨v,e,h⟩:=h;obtain⟨m,hn,hl⟩:=I.loc;obtain⟨u,r,l⟩:=hl i x v hN e hv;have fin:EP X pins σ Q u s:=⟨v,H,I,r,h⟩;rcases l with⟨hk,hm⟩ | ⟨hk,c,hc,hcell⟩
 ·exact wpAny_Name (wpAny_loadName_local I.ok.kind hk hn hm fin) hd
 ·rcases hk with hk | hk
  ·exact wpAny_Name (wpAny_loadName_cell I.ok.kind hk hc hcell fin) hd
  ·exact wpAny_Name (wpAny_loadName_free I.ok.kind hk hc hcell fin hcd) hd
theorem af{i j pos}:PE X (.Constant (.int i) j pos) (tC (.int i)):=fun _ _ _ H _ I h=>wpAny_Constant_int ⟨.int i,H,I.tok _,⟨_,rfl⟩,h⟩
theorem lV{b j pos}:PE X (.Constant (.bool b) j pos) (tC (.bl b)):=fun _ _ _ H _ I h=>Constant_bool ⟨.bl b,H,I,rfl,h⟩
theorem bg{j pos}:PE X (.Constant .none j pos) (tC .non):=fun _ _ _ H _ I h=>Constant_none ⟨.non,H,I,rfl,h⟩
theorem ax{x j pos}:PE X (.Constant (.str x) j pos) (tC (.str x)):=fun _ _ _ H _ I h=>Calls.Constant_str ⟨.str x,H,I.tok _,⟨_,rfl⟩,h⟩
def Gl(X:Cx)(x:Str):Prop:=X.env.kindOf x=some .globalImplicit
theorem gI{E:Value→Shared→Prop}{pins:List (Addr×Obj)}{s:Shared}{σ:St}{H:Hp}{x:Str}{u:Value}{pos:Pos}{Q:Value→Shared→Prop}(I:aH X pins σ H s)(hg:Gl X x)(hm:X.mg x=some u)(h:Q u s)
  (hd:(x == ("__debug__":Str))=false:=by decide):wpAny (model X.prog X.w) X.A (eval (.Name x pos) X.env) Q E s:=
 Calls.Name_function_global I.ok.kind hg (Calls.loadGlobal_global (by rw [I.ok.glob];exact I.mod.glob.keeps I.bk) hm h) hd
theorem jx{E:Value→Shared→Prop}{pins:List (Addr×Obj)}{s:Shared}{σ:St}{H:Hp}{x:Str}{u:Value}{pos:Pos}{Q:Value→Shared→Prop}(I:aH X pins σ H s)(hg:Gl X x)(hm:X.mg x=none)(hv:bootBuiltins x=some u)(h:Q u s)
  (hn:x≠"__name__":=by decide) (hd:(x == ("__debug__":Str))=false:=by decide):wpAny (model X.prog X.w) X.A (eval (.Name x pos) X.env) Q E s:=by
 obtain⟨mb,h1,h2⟩:=I.mod.blt;exact Calls.Name_function_global I.ok.kind hg (Calls.loadGlobal_builtin (by rw [I.ok.glob];exact I.mod.glob.keeps I.bk) hm (by rw [I.ok.blt];exact h1.keeps I.bk) ((h2 x hn).trans hv) h) hd
theorem zT{x:Str}{v:V}{u:Value}{pos:Pos}(hg:Gl X x)(hm:X.mg x=some u)(r:aN v u)(hd:(x == ("__debug__":Str))=false:=by decide):PE X (.Name x pos) (tC v):=
 fun _ _ _ H _ I h=>gI I hg hm ⟨v,H,I,r,h⟩ hd
theorem pN{x:Str}{v:V}{u:Value}{pos:Pos}(hg:Gl X x)(hm:X.mg x=none)(hv:bootBuiltins x=some u)(r:aN v u)(hn:x≠"__name__":=by decide)(hd:(x == ("__debug__":Str))=false:=by decide):PE X (.Name x pos) (tC v):=
 fun _ _ _ H _ I h=>jx I hg hm hv ⟨v,H,I,r,h⟩ hn hd
variable {a b:Expr} {ta tb:TE} {pos:Pos}
variable {tA tB':TT} {rest:List Expr}
def Am(t u:TT):TT:=fun σ H Q=>t σ H fun c H1=>if c=true then u σ H1 Q else Q false H1
def Dt(t u:TT):TT:=fun σ H Q=>t σ H fun c H1=>if c=true then Q true H1 else u σ H1 Q
def An(t:TT):TT:=fun σ H Q=>t σ H fun c H1=>Q (!c) H1
theorem uN(ha:PT X a tA):PW X (.BoolOp .And [a] pos) tA:=by
 intro wh pins s σ H Q I h;refine isTrue_and (b6 (ha pins s σ H Q I h) fun c s1 e=>?_)
 cases c with
 | true=>exact isTrue_and_nil e
 | false=>exact e
theorem bI(ha:PT X a tA):PW X (.BoolOp .Or [a] pos) tA:=by
 intro wh pins s σ H Q I h;refine isTrue_or (b6 (ha pins s σ H Q I h) fun c s1 e=>?_)
 cases c with
 | false=>exact isTrue_or_nil e
 | true=>exact e
theorem pR(ha:PT X a tA)(hb:PW X (.BoolOp .And (b::rest) pos) tB'):PW X (.BoolOp .And (a::b::rest) pos) (Am tA tB'):=by
 intro wh pins s σ H Q I h;refine isTrue_and (b6 (ha pins s σ H _ I h) fun c s1 ⟨H1,I1,q1⟩=>?_)
 cases c with
 | true=>exact hb wh pins s1 σ H1 Q I1 q1
 | false=>exact⟨H1,I1,q1⟩
theorem bG(ha:PT X a tA)(hb:PW X (.BoolOp .Or (b::rest) pos) tB'):PW X (.BoolOp .Or (a::b::rest) pos) (Dt tA tB'):=by
 intro wh pins s σ H Q I h;refine isTrue_or (b6 (ha pins s σ H _ I h) fun c s1 ⟨H1,I1,q1⟩=>?_)
 cases c with
 | true=>exact⟨H1,I1,q1⟩
 | false=>exact hb wh pins s1 σ H1 Q I1 q1
theorem aY(ha:PT X a tA):PT X (.UnaryOp .Not a pos) (An tA):=by
 intro pins s σ H Q I h;exact isTrue_not (ha pins s σ H (fun c H1=>Q (!c) H1) I h)
def oF(ta tb:TE):TE:=fun σ H Q=>ta σ H fun x H1=>∃c,x=.bl c∧if c=true then tb σ H1 Q else Q (.bl false) H1
def wa(ta tb:TE):TE:=fun σ H Q=>ta σ H fun x H1=>∃c,x=.bl c∧if c=true then Q (.bl true) H1 else tb σ H1 Q
def oG(ta:TE):TE:=fun σ H Q=>ta σ H fun x H1=>∃c,x=.bl c∧Q (.bl (!c)) H1
theorem pO{op}{t:TE}(h:PE X a t):PE X (.BoolOp op [a] pos) t:=fun pins s σ H Q I hw=>BoolOp_one (h pins s σ H Q I hw)
theorem pM(ha:PE X a ta)(hb:PE X (.BoolOp .And (b::rest) pos) tb):PE X (.BoolOp .And (a::b::rest) pos) (oF ta tb):=by
 intro pins s σ H Q I h;refine BoolOp_and (b6 (ha pins s σ H _ I h) fun v s1 ⟨x,H1,I1,r1,q1⟩=>?_);obtain⟨c,rfl,q1⟩:=q1;cases r1;refine wpAny_truthy_bool ?_
 cases c with
 | true=>exact hb pins s1 σ H1 Q I1 q1
 | false=>exact⟨.bl false,H1,I1,rfl,q1⟩
theorem C2(ha:PE X a ta)(hb:PE X (.BoolOp .Or (b::rest) pos) tb):PE X (.BoolOp .Or (a::b::rest) pos) (wa ta tb):=by
 intro pins s σ H Q I h;refine BoolOp_or (b6 (ha pins s σ H _ I h) fun v s1 ⟨x,H1,I1,r1,q1⟩=>?_);obtain⟨c,rfl,q1⟩:=q1;cases r1;refine wpAny_truthy_bool ?_
 cases c with
 | false=>exact hb pins s1 σ H1 Q I1 q1
 | true=>exact⟨.bl true,H1,I1,rfl,q1⟩
theorem BA(ha:PE X a ta):PE X (.UnaryOp .Not a pos) (oG ta):=by
 intro pins s σ H Q I h;refine UnaryOp_ (b6 (ha pins s σ H _ I h) fun v s1 ⟨x,H1,I1,r1,q1⟩=>?_);obtain⟨c,rfl,q1⟩:=q1;cases r1;exact not_of (wpAny_truthy_bool ⟨.bl (!c),H1,I1,rfl,q1⟩)
def Ds(t:TT)(ta tb:TE):TE:=fun σ H Q=>t σ H fun c H1=>if c=true then ta σ H1 Q else tb σ H1 Q
theorem iT{c:Expr}(hc:PT X c tA)(ha:PE X a ta)(hb:PE X b tb):PE X (.IfExp c a b pos) (Ds tA ta tb):=by
 intro pins s σ H Q I h;refine wpAny_IfExp (b6 (hc pins s σ H _ I h) fun d s1 ⟨H1,I1,q1⟩=>?_)
 cases d with
 | true=>exact ha pins s1 σ H1 Q I1 q1
 | false=>exact hb pins s1 σ H1 Q I1 q1
end
end L2
namespace L2
open PySem PySem.Spec PyProof.Rows
def aV(K:Frag)(H:Hp)(a:Addr)(xs:List V):Prop:=
 Rd H a (.lst xs)∨
  ∃(o:Obj) (its:Array Value) (n:Nat),K.lookup a=some o∧o.cls=.type "list"∧o.dict=none∧o.data=.seq its n∧its.size≤sizeLine∧aR xs its.toList
def dI(K:Frag)(H:Hp)(a:Addr)(xs:List V):Prop:=
 Rd H a (.tup xs)∨
  ∃(o:Obj) (its:Array Value) (n:Nat),K.lookup a=some o∧o.cls=.type "tuple"∧o.data=.seq its n∧its.size≤sizeLine∧aR xs its.toList
def DE:Value→Option V
 | .none=>some .non
 | .bool b=>some (.bl b)
 | .int i _=>some (.int i)
 | .str x _=>some (.str x)
 | .bytes b _=>some (.byt b)
 | .float b _=>some (.flt b)
 | .ref a=>some (.ref a)
 | .type n=>some (.ty n)
 | _=>none
theorem aN.abs{x:V}{u:Value}(r:aN x u):DE u=some x:=by
 cases x with
 | non=>cases r;rfl
 | bl _=>cases r;rfl
 | int _=>obtain⟨t,rfl⟩:=r;rfl
 | str _=>obtain⟨t,rfl⟩:=r;rfl
 | byt _=>obtain⟨t,rfl⟩:=r;rfl
 | flt _=>obtain⟨t,rfl⟩:=r;rfl
 | ref _=>cases r;rfl
 | ty _=>cases r;rfl
theorem aN.inj{x y:V}{u:Value}(r:aN x u)(q:aN y u):x=y:=Option.some.inj (r.abs.symm.trans q.abs)
theorem aR.inj:∀{xs ys:List V} {us:List Value},aR xs us→aR ys us→xs=ys
 | _,_,_,.nil,.nil=>rfl
 | _,_,_,.cons r t,.cons r' t'=>by rw [r.inj r',aR.inj t t']
section
variable {X:Cx} {pins:List (Addr×Obj)} {σ:St} {H:Hp} {s:Shared} {a:Addr} {xs ys:List V}
theorem aV.of{K:Frag}(h:H a=some (.lst xs)):aV K H a xs:=.inl (.inl h)
theorem dI.of{K:Frag}(h:H a=some (.tup xs)):dI K H a xs:=.inl (.inl h)
theorem aH.list(I:aH X pins σ H s)(h:aV X.K H a xs):∃its:List Value,aR xs its∧PlainL s.heap a its.toArray∧xs.length≤sizeLine:=by
 rcases h with h | ⟨o,its,n,hk,hc,hd,hs,hz,r⟩
 ·obtain⟨z,its,n,r,e⟩:=h.ok I.hok
  exact⟨its,r,⟨_,n,e,rfl,rfl,rfl⟩,z⟩
 ·refine⟨its.toList,r,⟨o,n,I.kIn a o hk,hc,hd,by simpa using hs⟩,?_⟩
  have e:=r.length;simp only [aj2]at e;omega
theorem aH.tuple(I:aH X pins σ H s)(h:dI X.K H a xs):∃its:List Value,aR xs its∧IsTup s.heap a its.toArray∧xs.length≤sizeLine:=by
 rcases h with h | ⟨o,its,n,hk,hc,hs,hz,r⟩
 ·obtain⟨z,its,r,p⟩:=h.ok I.hok
  exact⟨its,r,p,z⟩
 ·refine⟨its.toList,r,⟨o,I.kIn a o hk,hc,n,by simpa using hs⟩,?_⟩
  have e:=r.length;simp only [aj2]at e;omega
theorem aH.list_inj(I:aH X pins σ H s)(h:aV X.K H a xs)(h':aV X.K H a ys):xs=ys:=by
 obtain⟨its,r,⟨o,n,e,_,_,d⟩,_⟩:=I.list h;obtain⟨its',r',⟨o',n',e',_,_,d'⟩,_⟩:=I.list h';rw [e]at e';cases e';rw [d]at d'
 injection d' with d1 _
 have:its=its':=by simpa using congrArg Array.toList d1
 subst this;exact r.inj r'
theorem aH.tuple_inj(I:aH X pins σ H s)(h:dI X.K H a xs)(h':dI X.K H a ys):xs=ys:=by
 obtain⟨its,r,⟨o,e,_,n,d⟩,_⟩:=I.tuple h;obtain⟨its',r',⟨o',e',_,n',d'⟩,_⟩:=I.tuple h';rw [e]at e';cases e';rw [d]at d'
 injection d' with d1 _
 have:its=its':=by simpa using congrArg Array.toList d1
 subst this;exact r.inj r'
end
abbrev Cx.wish(X:Cx)(E:Value→Shared→Prop):Cx:={ X with xe:=E }
abbrev Cx.nox(X:Cx):Cx:=X.wish fun _ _=>False
theorem Cx.Ok.wish{X:Cx}(ok:X.Ok)(E:Value→Shared→Prop):(X.wish E).Ok:=
 ⟨ok.mod,ok.kind,ok.glob,ok.blt,ok.above,ok.inj,ok.has,ok.cab,ok.hd,ok.frames,ok.stk,ok.exf,ok.bs,ok.bsz,ok.noex,ok.exfs,ok.funs,ok.frf⟩
theorem Cx.Ok.unwish{X:Cx}{E:Value→Shared→Prop}(ok:(X.wish E).Ok):X.Ok:=
 ⟨ok.mod,ok.kind,ok.glob,ok.blt,ok.above,ok.inj,ok.has,ok.cab,ok.hd,ok.frames,ok.stk,ok.exf,ok.bs,ok.bsz,ok.noex,ok.exfs,ok.funs,ok.frf⟩
section
variable {X:Cx} {pins:List (Addr×Obj)} {σ:St} {H:Hp} {s:Shared} {E:Value→Shared→Prop}
theorem aH.wish(I:aH X pins σ H s)(E:Value→Shared→Prop):aH (X.wish E) pins σ H s:=⟨I.ok.wish E,I.os,I.bare,I.base,I.loc,I.cell,I.free,I.freeC,I.pin,I.hok,I.len⟩
theorem aH.unwish(I:aH (X.wish E) pins σ H s):aH X pins σ H s:=⟨I.ok.unwish,I.os,I.bare,I.base,I.loc,I.cell,I.free,I.freeC,I.pin,I.hok,I.len⟩
theorem SP.unwish{D:eG}{f:Flow}{s':Shared}(h:SP (X.wish E) pins D f s'):SP X pins D f s':=by
 cases f with
 | next=>obtain⟨σ',H',I,q⟩:=h;exact⟨σ',H',I.unwish,q⟩
 | brk=>obtain⟨σ',H',I,q⟩:=h;exact⟨σ',H',I.unwish,q⟩
 | cont=>obtain⟨σ',H',I,q⟩:=h;exact⟨σ',H',I.unwish,q⟩
 | ret u=>obtain⟨v,σ',H',I,r,q⟩:=h;exact⟨v,σ',H',I.unwish,r,q⟩
theorem PE.nox{e:Expr}{t:TE}(h:PE X.nox e t):PE X e t:=fun pins s σ H Q I hw=>
 wpAny_mono (h pins s σ H Q (I.wish _) hw) (fun _ _ ⟨v,H',I',r,q⟩=>⟨v,H',I'.unwish,r,q⟩) fun _ _ z=>False.elim z
theorem PT.nox{e:Expr}{t:TT}(h:PT X.nox e t):PT X e t:=fun pins s σ H Q I hw=>
 wpAny_mono (h pins s σ H Q (I.wish _) hw) (fun _ _ ⟨H',I',q⟩=>⟨H',I'.unwish,q⟩) fun _ _ z=>False.elim z
theorem sC.nox{st:List Stmt}{t:TS}(h:sC X.nox st t):sC X st t:=fun pins s σ H D I hw=>
 wpAny_mono (h pins s σ H D (I.wish _) hw) (fun _ _ q=>q.unwish) fun _ _ z=>False.elim z
end
section
variable {X:Cx} {st:Stmt} {rest:List Stmt} {t u:TS} {e:Expr} {te:TE} {pos:Pos}
def sr:TS:=fun D σ H=>D.nx σ H
def jT(t u:TS):TS:=fun D σ H=>t { D with nx:=u D } σ H
theorem aF:sC X [] sr:=fun _ _ σ H _ I h=>wpAny_execs_nil ⟨σ,H,I,h⟩
theorem ah(h1:PS X st t)(h2:sC X rest u):sC X (st::rest) (jT t u):=by
 intro pins s σ H D I h;refine wpAny_execs_cons (b6 (h1 pins s σ H { D with nx:=u D } I h) fun f s1 q=>?_)
 cases f with
 | next=>
  obtain⟨σ',H',I',q⟩:=q;exact h2 pins s1 σ' H' D I' q
 | ret v=>exact q
 | brk=>exact q
 | cont=>exact q
theorem ai(h1:PS X st t):sC X [st] t:=by
 intro pins s σ H D I h;refine wpAny_execs_cons (b6 (h1 pins s σ H D I h) fun f s1 q=>?_)
 cases f with
 | next=>exact wpAny_execs_nil q
 | ret v=>exact q
 | brk=>exact q
 | cont=>exact q
theorem aH.quiet{pins:List (Addr×Obj)}{σ:St}{H:Hp}{s:Shared}(I:aH X pins σ H s):interactive X.env=false:=by simp [interactive,I.ok.kind]
def uX(te:TE):TS:=fun D σ H=>te σ H fun _ H1=>D.nx σ H1
theorem bQ(he:PE X e te)(hs:swapsWith e none pos.line X.env=pure false:=by rfl):PS X (.Expr e pos) (uX te):=by
 intro pins s σ H D I h;exact wpAny_Expr_any (b6 (he pins s σ H _ I h) fun v s1 ⟨x,H1,I1,r1,q1⟩=>⟨σ,H1,I1,q1⟩) I.quiet hs
def Ap(te:TE):TS:=fun D σ H=>te σ H D.rt
theorem av(he:PE X e te):PS X (.Return (some e) pos) (Ap te):=by
 intro pins s σ H D I h;exact wpAny_Return_some (b6 (he pins s σ H _ I h) fun v s1 ⟨x,H1,I1,r1,q1⟩=>⟨x,σ,H1,I1,r1,q1⟩)
def yA:TS:=fun D _ H=>D.rt .non H
def yz(c:TT)(t u:TS):TS:=fun D σ H=>c σ H fun b H1=>if b=true then t D σ H1 else u D σ H1
theorem aZ{c:Expr}{a b:List Stmt}{tc:TT}(hc:PT X c tc)(ha:sC X a t)(hb:sC X b u):PS X (.If c a b pos) (yz tc t u):=by
 intro pins s σ H D I h;refine wpAny_If (b6 (hc pins s σ H _ I h) fun d s1 ⟨H1,I1,q1⟩=>?_)
 cases d with
 | true=>exact ha pins s1 σ H1 D I1 q1
 | false=>exact hb pins s1 σ H1 D I1 q1
end
abbrev TG:=V→St→Hp→(St→Hp→Prop)→Prop
abbrev y3:=List V→St→Hp→(St→Hp→Prop)→Prop
def PG(X:Cx)(target:Expr)(t:TG):Prop:=
 ∀(pins:List (Addr×Obj)) (s:Shared) (σ:St) (H:Hp) (v:V) (u:Value) (Q:St→Hp→Prop),aH X pins σ H s→aN v u→t v σ H Q→
  wpAny (model X.prog X.w) X.A (assign target X.env u) (fun _ s'=>∃σ' H',aH X pins σ' H' s'∧Q σ' H') X.xe s
def Cq(X:Cx)(ts:List Expr)(t:y3):Prop:=
 ∀(pins:List (Addr×Obj)) (s:Shared) (σ:St) (H:Hp) (vs:List V) (us:List Value) (Q:St→Hp→Prop),aH X pins σ H s→aR vs us→t vs σ H Q→
  wpAny (model X.prog X.w) X.A (assignInOrder ((assignEach ts X.env).map (·.2)) us) (fun _ s'=>∃σ' H',aH X pins σ' H' s'∧Q σ' H') X.xe s
abbrev AW:=V→V→V→Hp→(Hp→Prop)→Prop
def Ct(X:Cx)(t:AW):Prop:=
 ∀(pins:List (Addr×Obj)) (s:Shared) (σ:St) (H:Hp) (o i v:V) (ov iv u:Value) (Q:Hp→Prop),aH X pins σ H s→aN o ov→aN i iv→aN v u→t o i v H Q→
  wpAny (model X.prog X.w) X.A (setItem ov iv u) (fun _ s'=>∃H',aH X pins σ H' s'∧Q H') X.xe s
abbrev Cj:=V→V→Hp→VK→Prop
def PIp(X:Cx)(op:Operator)(t:Cj):Prop:=
 ∀(pins:List (Addr×Obj)) (s:Shared) (σ:St) (H:Hp) (x y:V) (v u:Value) (Q:VK),aH X pins σ H s→aN x v→aN y u→t x y H Q→
  wpAny (model X.prog X.w) X.A (inplaceOp op v u) (EP X pins σ Q) X.xe s
section
variable {X:Cx} {pos:Pos}
def nN(i:Nat):TG:=fun v σ H Q=>Q (σ.set i (some v)) H
theorem bq{i:Nat}{x:Str}(hN:X.N.Nodup)(hi:X.N[i]?=some x)(hx:AU X.env.scope x)(hf:X.fn x=true∨X.env.scope.names.lookup x=some .local:=by first | exact .inl rfl | exact .inr rfl | assumption):PG X (.Name x pos) (nN i):=by
 intro pins s σ H v u Q I r h;exact wpAny_assign_Name (gs I hN hi hx r (fun s' I'=>⟨_,H,I',h⟩) hf)
def A5:y3:=fun vs σ H Q=>vs=[]∧Q σ H
def xp(t:TG)(u:y3):y3:=fun vs σ H Q=>∃v r,vs=v::r∧t v σ H fun σ' H'=>u r σ' H' Q
theorem gM:Cq X [] A5:=by
 intro pins s σ H vs us Q I r h;obtain⟨e,h⟩:=h;subst e;cases r;exact assignInOrder_nil ⟨σ,H,I,h⟩
theorem cv{e:Expr}{es:List Expr}{t:TG}{u:y3}(h1:PG X e t)(h2:Cq X es u)
  (hs:(assignEach (e::es) X.env).map (·.2)=assign e X.env::(assignEach es X.env).map (·.2):=by rfl):Cq X (e::es) (xp t u):=by
 intro pins s σ H vs us Q I r h;obtain⟨v,vr,e1,h⟩:=h;subst e1
 cases r with
 | cons r rr=>
  rw [hs];refine assignInOrder_cons (b6 (h1 pins s σ H _ _ _ I r h) fun _ s1 ⟨σ1,H1,I1,q1⟩=>?_);exact h2 pins s1 σ1 H1 _ _ Q I1 rr q1
def zo(K:Frag)(n:Nat)(t:y3):TG:=fun v σ H Q=>∃a xs,v=.ref a∧dI K H a xs∧xs.length=n∧t xs σ H Q
theorem BD{es:List Expr}{k:Nat}{t:y3}{n:Nat}(hc:X.calm=true)(h:Cq X es t)
  (hn:(assignEach es X.env).length=n:=by rfl) (hst:(assignEach es X.env).findIdx? (·.1)=none:=by rfl):PG X (.Tuple es k pos) (zo X.K n t):=by
 intro pins s σ H v u Q I r hw;obtain⟨a,xs,e1,hq,hl,hw⟩:=hw;subst e1;cases r;obtain⟨its,rv,ht,hz⟩:=I.tuple hq;refine assign_Tuple_tuple (I.ok.hd hc) ht (by simp [hn,←hl,rv.length]) hst fun h' hx=>?_;have I1:aH X pins σ H { s with heap:=h' }:=I.kept (t':=s.toks) fun b o e=>hx b o (ab7 (ab0 e)) e;exact h pins _ σ H xs _ Q I1 (by simpa using rv) hw
def A6(to ti:TE)(t:AW):TG:=fun v σ H Q=>to σ H fun o H1=>ti σ H1 fun i H2=>t o i v H2 fun H3=>Q σ H3
theorem BC{o i:Expr}{to ti:TE}{t:AW}(ho:PE X o to)(hi:PE X i ti)(hs:Ct X t)
  (ha:∀v,assign (.Subscript o i pos) X.env v=(do
   let ov ←holding [v] (eval o X.env)
   let iv ←holding [v,ov] (eval i X.env)
   standAt pos
   holding [v,ov,iv] (setItem ov iv v)
   release [v,ov,iv] []):=by intro _;rfl):PG X (.Subscript o i pos) (A6 to ti t):=by
 intro pins s σ H v u Q I r h;rw [ha];refine wpAny_bind (wpAny_holding (b6 (ho pins s σ H _ I h) fun ov s1 ⟨x,H1,I1,r1,q1⟩=>?_));refine wpAny_bind (wpAny_holding (b6 (hi pins s1 σ H1 _ I1 q1) fun iv s2 ⟨y,H2,I2,r2,q2⟩=>?_));refine wpAny_bind (wpAny_standAt (wpAny_bind (wpAny_holding (b6 (hs pins s2 σ H2 x y v ov iv u _ I2 r1 r2 r q2) fun _ s3 ⟨H3,I3,q3⟩=>?_))));exact wpAny_release ⟨σ,H3,I3,q3⟩
def v7(te:TE)(g:TG):TS:=fun D σ H=>te σ H fun x H1=>g x σ H1 D.nx
theorem yb{tg e:Expr}{te:TE}{g:TG}(he:PE X e te)(hg:PG X tg g)(hs:swapsWithSole [tg] e pos.line X.env=pure false:=by rfl)(hw:swappedStores [tg] e X.env=pure none:=by rfl)
  (h1:(assignEach [tg] X.env).map (·.2)=[assign tg X.env]:=by rfl):PS X (.Assign [tg] e pos) (v7 te g):=by
 intro pins s σ H D I h;refine wpAny_Assign_stores (b6 (he pins s σ H _ I h) fun v s1 ⟨x,H1,I1,r1,q1⟩=>?_) hs hw;rw [h1];exact b6 (hg pins s1 σ H1 x v _ I1 r1 q1) fun _ s2 q=>q
theorem aB{i:Nat}{x:Str}{e:Expr}{te:TE}{pos':Pos}(hN:X.N.Nodup)(hi:X.N[i]?=some x)(hx:AU X.env.scope x)(he:PE X e te)(hs:swapsWith e (some (.Name x pos')) pos.line X.env=pure false:=by rfl)(hf:X.fn x=true∨X.env.scope.names.lookup x=some .local:=by first | exact .inl rfl | exact .inr rfl | assumption):
  PS X (.Assign [.Name x pos'] e pos) (v7 te (nN i)):=by
 intro pins s σ H D I h;refine wpAny_Assign_Name (b6 (he pins s σ H _ I h) fun v s1 ⟨y,H1,I1,r1,q1⟩=>?_) hs;exact gs I1 hN hi hx r1 (fun s2 I2=>⟨_,H1,I2,q1⟩) hf
def v9(i:Nat)(te:TE)(ti:Cj):TS:=fun D σ H=>∃x,σ[i]?=some (some x)∧te σ H fun y H1=>ti x y H1 fun z H2=>D.nx (σ.set i (some z)) H2
theorem yc{i:Nat}{x:Str}{e:Expr}{te:TE}{op:Operator}{ti:Cj}{pos':Pos}(hN:X.N.Nodup)(hi:X.N[i]?=some x)(hx:AU X.env.scope x)(he:PE X e te)(ho:PIp X op ti)(hf:X.fn x=true∨X.env.scope.names.lookup x=some .local:=by first | exact .inl rfl | exact .inr rfl | assumption):
  PS X (.AugAssign (.Name x pos') op e pos) (v9 i te ti):=by
 intro pins s σ H D I h;obtain⟨v,e1,h⟩:=h;obtain⟨m,hn,hl⟩:=I.loc
 have vis:Dn X.env.scope x:=by rcases hx with k | k;exact .inl k;exact .inr (.inl k)
 obtain⟨u,r,l⟩:=hl i x v hi e1 vis;refine wpAny_AugAssign_Name ?_
 have go:wpAny (model X.prog X.w) X.A (eval e X.env) (fun w s₂=>wpAny (model X.prog X.w) X.A (inplaceOp op u w) (fun r s₃=>wpAny (model X.prog X.w) X.A (storeName X.env x r) (fun _=>SP X pins D .next) X.xe s₃) X.xe s₂) X.xe s:=by
  refine b6 (he pins s σ H _ I h) fun w s1 ⟨y,H1,I1,r1,q1⟩=>?_;refine b6 (ho pins s1 σ H1 v y u w _ I1 r r1 q1) fun z s2 ⟨zv,H2,I2,r2,q2⟩=>?_;exact gs I2 hN hi hx r2 (fun s3 I3=>⟨_,H2,I3,q2⟩) hf
 rcases l with⟨hk,hm⟩ | ⟨hk,c,hc,hcell⟩
 ·exact wpAny_loadName_local I.ok.kind hk hn hm go
 ·rcases hk with hk | hk
  ·exact wpAny_loadName_cell I.ok.kind hk hc hcell go
  ·rcases hx with k | k
   ·have:X.env.scope.names.lookup x=some .free:=hk
    rw [k]at this;cases this
   ·have:X.env.scope.names.lookup x=some .free:=hk
    rw [k]at this;cases this
end
section
variable {X:Cx} {pos:Pos}
def Cc(c:TT)(tb:TS):TS:=fun D σ H=>∃W:Nat→St→Hp→Prop,(∃m,W m σ H)∧∀m σ H,W m σ H→
 c σ H fun b H1=>if b=true then ∃N:St→Hp→Prop,(∀σ' H',N σ' H'→∃m',m' < m∧W m' σ' H')∧tb { D with nx:=N,ct:=N,bk:=D.nx } σ H1 else D.nx σ H1
theorem ye{c:Expr}{body:List Stmt}{tc:TT}{tb:TS}(hp:PassesOwn (model X.prog X.w) X.A X.env X.xe)(hc:PT X c tc)(hb:sC X body tb):PS X (.While c body [] pos) (Cc tc tb):=by
 intro pins s σ H D I h;obtain⟨W,⟨m0,w0⟩,turn⟩:=h;refine wpAny_While (codeAny_whileLoop (fun n s'=>∃σ' H',aH X pins σ' H' s'∧W n σ' H') ?_ m0 ⟨σ,H,I,w0⟩);rintro n s1 ⟨σ1,H1,I1,w1⟩;refine wpAny_passesOwn hp (b6 (hc pins s1 σ1 H1 _ I1 (turn n σ1 H1 w1)) fun b s2 ⟨H2,I2,q2⟩=>?_)
 cases b with
 | true=>
  obtain⟨N,hN,q2⟩:=q2;rw [if_pos rfl];refine wpAny_passesOwn hp (b6 (hb pins s2 σ1 H2 _ I2 q2) fun f s3 q3=>?_)
  cases f with
  | next=>
   obtain⟨σ3,H3,I3,n3⟩:=q3;obtain⟨m',hm,w3⟩:=hN σ3 H3 n3;exact⟨m',hm,σ3,H3,I3,w3⟩
  | cont=>
   obtain⟨σ3,H3,I3,n3⟩:=q3;obtain⟨m',hm,w3⟩:=hN σ3 H3 n3;exact⟨m',hm,σ3,H3,I3,w3⟩
  | brk=>exact q3
  | ret v=>exact q3
 | false=>
  rw [if_neg aa1];exact wpAny_execs_nil ⟨σ1,H2,I2,q2⟩
end
structure It where
 go:Nat→Hp→Prop
 yld:Nat→Hp→V→Hp→Prop
 stop:Nat→Hp→Prop
def kR(X:Cx)(pins:List (Addr×Obj))(H:Hp)(b:Addr):Prop:=
 H b=none∧b≠X.env.locals∧b∉X.fs∧(b∈X.ex∨X.s₀.heap.objs.size≤b)∧(∀x c,X.env.cells.lookup x=some c→c≠b)∧∀p∈X.pn++pins,p.1≠b
theorem aH.fpOk{X:Cx}{pins:List (Addr×Obj)}{σ:St}{H H':Hp}{s:Shared}{b:Addr}(I:aH X pins σ H s)(hb:s.heap.objs.size≤b)(hn:H' b=none):kR X pins H' b:=by
 refine⟨hn,ah3 (ab1 I.lt hb),I.nofs hb,.inr (aa9 I.sz hb),fun x c e z=>?_,fun p hp z=>?_⟩
 ·obtain⟨v,q⟩:=I.cell x c e
  exact absurd (ab1 q.lt (by rw [z];exact hb)) (af3 _)
 ·exact absurd (ab1 (ab0 (I.pin p hp).1) (by rw [z];exact hb)) (af3 _)
structure sL(P:Program)(w:World)(K:Frag)(tg:Expr)(J:It)(fp:List Addr)(it:Addr)(tn:Nat→Heap→Prop):Prop where
 mem:it∈fp
 obj:∀i h,tn i h→∀b∈fp,∃o,h.get? b=some o∧∀v,o.data≠.cell v
 keep:∀i h h',tn i h→(∀b∈fp,∀o,h.get? b=some o→h'.get? b=some o)→tn i h'
 item:∀(X:Cx),X.prog=P→X.w=w→X.K=K→X.calm=true→∀(i:Nat) (pins:List (Addr×Obj)) (s:Shared) (σ:St) (H:Hp) (E:Value→Shared→Prop),aH X pins σ H s→(∀b∈fp,kR X pins H b)→tn i s.heap→J.go i H→
  wpAny (model P w) X.A (pyNext (.ref it)) (fun r s1=>∃u,r=some u∧
   wpAny (model P w) X.A (letOwnedTupleGo tg (.ref it) u) (fun _ s2=>∃x H',aH X pins σ H' s2∧aN x u∧J.yld i H x H'∧tn (i+1) s2.heap∧∀b∈fp,H' b=none) E s1) E s
 done:∀(X:Cx),X.prog=P→X.w=w→X.K=K→X.calm=true→∀(i:Nat) (pins:List (Addr×Obj)) (s:Shared) (σ:St) (H:Hp) (E:Value→Shared→Prop),aH X pins σ H s→(∀b∈fp,kR X pins H b)→tn i s.heap→J.stop i H→
  wpAny (model P w) X.A (pyNext (.ref it)) (fun r s1=>r=none∧aH X pins σ H s1) E s
 self:∀(A:Around) (i:Nat) (s:Shared) (Q:Value→Shared→Prop) (E:Value→Shared→Prop),tn i s.heap→Q (.ref it) s→wpAny (model P w) A (pyIter (.ref it)) Q E s
abbrev TI:=St→Hp→(It→Hp→Prop)→Prop
def Dj(X:Cx)(pins:List (Addr×Obj))(σ:St)(tg:Expr)(R:It→Hp→Prop)(itv:Value)(s2:Shared):Prop:=
 ∃(it:Addr) (fp:List Addr) (tn:Nat→Heap→Prop) (J:It) (H':Hp),itv=.ref it∧aH X pins σ H' s2∧sL X.prog X.w X.K tg J fp it tn∧tn 0 s2.heap∧(∀b∈fp,kR X pins H' b)∧R J H'
def PI(X:Cx)(tg iter:Expr)(wi:TI):Prop:=
 ∀(pins:List (Addr×Obj)) (s:Shared) (σ:St) (H:Hp) (R:It→Hp→Prop),aH X pins σ H s→wi σ H R→
  wpAny (model X.prog X.w) X.A (eval iter X.env) (fun v s1=>wpAny (model X.prog X.w) X.A (pyIter v) (Dj X pins σ tg R) X.xe s1) X.xe s
theorem uA{M:Model}{A:Around}{E:Value→Shared→Prop}{s:Shared}{tg:Expr}{it:Addr}{u:Value}{o:Obj}{n:String}{vs:Array Value}{Q:Unit→Shared→Prop}(ho:s.heap.get? it=some o)(hc:o.cls=.type n)(hd:o.data=.fields vs)
  (hn:["enumerate","zip","dict_itemiterator","dict_reverseitemiterator","odict_iterator","itertools.zip_longest","itertools.pairwise"].contains n=false) (hQ:Q () s):wpAny M A (letOwnedTupleGo tg (.ref it) u) Q E s:=by
 unfold letOwnedTupleGo
 cases tg<;>first
  | exact wpAny_pure hQ
  | (cases u<;>first | exact wpAny_pure hQ | (refine wpAny_bind (wpAny_load ho ?_);rw [hc,hd];show wpAny M A (if (["enumerate","zip","dict_itemiterator","dict_reverseitemiterator","odict_iterator","itertools.zip_longest","itertools.pairwise"].contains n && vs[0]? == some (rawInt _))=true then _ else _) Q E s;rw [if_neg (by intro h;rw [hn,Bool.false_and]at h;cases h)];exact wpAny_pure hQ))
def wz(K:Frag)(a:Addr):It:=
 ⟨fun i H=>∃xs x,aV K H a xs∧xs[i]?=some x,fun i H x H'=>H'=H∧∀xs,aV K H a xs→xs[i]?=some x,fun i H=>∃xs,aV K H a xs∧xs.length≤i⟩
def Dz(K:Frag)(a:Addr):It:=
 ⟨fun i H=>∃xs x,dI K H a xs∧xs[i]?=some x,fun i H x H'=>H'=H∧∀xs,dI K H a xs→xs[i]?=some x,fun i H=>∃xs,dI K H a xs∧xs.length≤i⟩
def yX(lo:Int)(n:Nat):It:=⟨fun i _=>i < n,fun i H x H'=>H'=H∧x=.int (lo+i),fun i _=>n≤i⟩
theorem wb{P:Program}{w:World}{K:Frag}{tg:Expr}(a it:Addr):sL P w K tg (wz K a) [it] it (fun i h=>h.IsListIter it a i) where
 mem:=by simp
 obj:=fun i h st b hb=>by
  have e:b=it:=by simpa using hb
  subst e;obtain⟨o,e,c,d⟩:=st;exact⟨o,e,fun v z=>by rw [d]at z;cases z⟩
 keep:=fun i h h' st k=>st.at fun o e=>k it (by simp) o e
 item:=by
  intro X hP hw hK hc i pins s σ H E I hf st hg;subst hP hw hK;obtain⟨xs,x,hq,hx⟩:=hg;obtain⟨its,rv,p,hz⟩:=I.list hq;obtain⟨u,hu,ru⟩:=rv.get hx;obtain⟨f0,f1,f2,f3,f4,f5⟩:=hf it (by simp);refine wpAny_pyNext_list_item st p.isList (x:=u) (by simpa using hu) fun h' st' sb=>?_;have I1:aH X pins σ H { s with heap:=h' }:=I.turned (t':=s.toks) (fun b o hb e=>(sb.2 b hb).trans e) f0 f1 f3 f4 f5;obtain⟨o,e,c,d⟩:=id st';exact⟨u,rfl,uA (s:={ s with heap:=h' }) e c d (by decide) ⟨x,H,I1,ru,⟨rfl,fun ys hy=>by rw [I.list_inj hy hq];exact hx⟩,st',fun b hb=>(hf b hb).1⟩⟩
 done:=by
  intro X hP hw hK hc i pins s σ H E I hf st hg;subst hP hw hK;obtain⟨xs,hq,hx⟩:=hg;obtain⟨its,rv,p,hz⟩:=I.list hq;obtain⟨f0,f1,f2,f3,f4,f5⟩:=hf it (by simp);have hl:=rv.length;exact wpAny_pyNext_list_end (I.ok.hd hc) st p.isList (by simp;omega) fun h' eb=>⟨rfl,I.turned (t':=s.toks) (fun b o hb e=>eb b o hb e) f0 f1 f3 f4 f5⟩
 self:=fun _ _ _ _ _ st h=>wpAny_pyIter_listiter st h
theorem t8{P:Program}{w:World}{K:Frag}{tg:Expr}(a it:Addr):sL P w K tg (Dz K a) [it] it (fun i h=>h.IsTupleIter it a i) where
 mem:=by simp
 obj:=fun i h st b hb=>by
  have e:b=it:=by simpa using hb
  subst e;obtain⟨o,e,c,d⟩:=st;exact⟨o,e,fun v z=>by rw [d]at z;cases z⟩
 keep:=fun i h h' st k=>st.at fun o e=>k it (by simp) o e
 item:=by
  intro X hP hw hK hc i pins s σ H E I hf st hg;subst hP hw hK;obtain⟨xs,x,hq,hx⟩:=hg;obtain⟨its,rv,p,hz⟩:=I.tuple hq;obtain⟨u,hu,ru⟩:=rv.get hx;obtain⟨f0,f1,f2,f3,f4,f5⟩:=hf it (by simp);refine wpAny_pyNext_tuple_item st (show s.heap.IsTuple a its.toArray from p) (x:=u) (by simpa using hu) fun h' st' sb=>?_;have I1:aH X pins σ H { s with heap:=h' }:=I.turned (t':=s.toks) (fun b o hb e=>(sb.2 b hb).trans e) f0 f1 f3 f4 f5;obtain⟨o,e,c,d⟩:=id st';exact⟨u,rfl,uA (s:={ s with heap:=h' }) e c d (by decide) ⟨x,H,I1,ru,⟨rfl,fun ys hy=>by rw [I.tuple_inj hy hq];exact hx⟩,st',fun b hb=>(hf b hb).1⟩⟩
 done:=by
  intro X hP hw hK hc i pins s σ H E I hf st hg;subst hP hw hK;obtain⟨xs,hq,hx⟩:=hg;obtain⟨its,rv,p,hz⟩:=I.tuple hq;obtain⟨f0,f1,f2,f3,f4,f5⟩:=hf it (by simp);have hl:=rv.length;exact wpAny_pyNext_tuple_end (I.ok.hd hc) st (show s.heap.IsTuple a its.toArray from p) (by simp;omega) fun h' eb=>⟨rfl,I.turned (t':=s.toks) (fun b o hb e=>eb b o hb e) f0 f1 f3 f4 f5⟩
 self:=fun _ _ _ _ _ st h=>wpAny_pyIter_tupleiter st h
theorem t7{P:Program}{w:World}{K:Frag}{tg:Expr}(it:Addr)(lo:Int)(n:Nat):sL P w K tg (yX lo n) [it] it (fun i h=>IsRangeIter h it (lo+(i:Nat) * 1) ((n:Int) - (i:Nat)) 1) where
 mem:=by simp
 obj:=fun i h st b hb=>by
  have e:b=it:=by simpa using hb
  subst e
  exact⟨_,st,fun v z=>by
   have z':Data.fields _=Data.cell v:=z
   cases z'⟩
 keep:=fun i h h' st k=>k it (by simp) _ st
 item:=by
  intro X hP hw hK hc i pins s σ H E I hf st hg;subst hP hw hK;obtain⟨f0,f1,f2,f3,f4,f5⟩:=hf it (by simp);have W:=Walks.range (prog:=X.prog) (w:=X.w) (I.ok.hd hc) it lo 1 n;refine W.item i s _ _ hg st fun v h' tk hv st' kk=>?_;obtain⟨t,rfl⟩:=hv;have I1:aH X pins σ H { s with heap:=h',toks:=tk }:=I.turned (fun b o hb e=>kk b o (by simpa using hb) e) f0 f1 f3 f4 f5;refine⟨_,rfl,uA (s:={ s with heap:=h',toks:=tk }) (n:="range_iterator") st' rfl rfl (by decide) ⟨.int (lo+i),H,I1,⟨t,?_⟩,⟨rfl,rfl⟩,st',fun b hb=>(hf b hb).1⟩⟩;rw [Int.mul_one]
 done:=by
  intro X hP hw hK hc i pins s σ H E I hf st hg;subst hP hw hK;obtain⟨f0,f1,f2,f3,f4,f5⟩:=hf it (by simp);exact wpAny_pyNext_range_end (I.ok.hd hc) st (by have:n≤i:=hg;omega) fun h' eb=>⟨rfl,I.turned (t':=s.toks) (fun b o hb e=>eb b o hb e) f0 f1 f3 f4 f5⟩
 self:=fun _ _ _ _ _ st h=>wpAny_pyIter_rangeiter st h
end L2
namespace L2
open PySem PySem.Spec PyProof.Rows
section
variable {X:Cx} {tg:Expr}
theorem rX{pins:List (Addr×Obj)}{σ:St}{H:Hp}{s:Shared}{R:It→Hp→Prop}{E:Value→Shared→Prop}{lo hi:Int}{t u v:Tok}{tk:Nat}(I:aH X pins σ H s)(h1:-(2 ^ 62)≤lo)(h2:lo < 2 ^ 62)(h3:-(2 ^ 62)≤hi)(h4:hi < 2 ^ 62)
  (q:R (yX lo (hi - lo).toNat) H):wpAny (model X.prog X.w) X.A (pyIter (.ref s.heap.objs.size)) (Dj X pins σ tg R) E { s with heap:=s.heap.push { cls:=.type "range",data:=.fields #[.int lo t,.int hi u,.int 1 v] },toks:=tk }:=by
 refine wpAny_pyIter_range (IsRange.new ..) (small_one h1 h2 h3 h4) ?_;have I1:aH X pins σ H { s with heap:=s.heap.push { cls:=.type "range",data:=.fields #[.int lo t,.int hi u,.int 1 v] },toks:=tk }:=I.kept fun b o e=>aa2 _ e
 refine⟨(s.heap.push { cls:=.type "range",data:=.fields #[.int lo t,.int hi u,.int 1 v] }).objs.size,[(s.heap.push { cls:=.type "range",data:=.fields #[.int lo t,.int hi u,.int 1 v] }).objs.size],_,_,H,rfl,
  I1.kept (t':=tk) fun b o e=>aa2 _ e,t7 _ lo (hi - lo).toNat,?_,fun b hb=>?_,q⟩
 ·have e1:lo+((0:Nat):Int) * 1=lo:=by simp
  have e2:(((hi - lo).toNat:Nat):Int) - ((0:Nat):Int)=Builtin.Range.rangeSize lo hi 1:=by rw [rangeSize_one];split<;>omega
  show IsRangeIter _ _ (lo+((0:Nat):Int) * 1) ((((hi - lo).toNat:Nat):Int) - ((0:Nat):Int)) 1;rw [e1,e2];exact ab4 _ rfl
 ·have e:b=(s.heap.push { cls:=.type "range",data:=.fields #[.int lo t,.int hi u,.int 1 v] }).objs.size:=by simpa using hb
  subst e;exact I1.fpOk (aa7 _) (I1.hok.fresh (aa7 _))
def xu(ta:TA):TI:=fun σ H R=>ta σ H fun vs H1=>∃j:Int,vs=[.int j]∧-(2 ^ 62)≤j∧j < 2 ^ 62∧R (yX 0 j.toNat) H1
def xv(ta:TA):TI:=fun σ H R=>ta σ H fun vs H1=>∃i j:Int,vs=[.int i,.int j]∧(-(2 ^ 62)≤i∧i < 2 ^ 62∧-(2 ^ 62)≤j∧j < 2 ^ 62)∧R (yX i (j - i).toNat) H1
theorem fb{a:Expr}{ta:TA}{p pos:Pos}(hg:Gl X "range")(hm:X.mg "range"=none)(ha:PA X [a] ta)(hs:starEach [a] X.env=[(false,eval a X.env)]:=by rfl):PI X tg (.Call (.Name "range" p) [a] [] pos) (xu ta):=by
 intro pins s σ H R I h;refine Call_ (jx I hg hm boot_range (PyProof.Rows.callWith_type1 (b6 (ha pos pins s σ H _ I h) fun us s1 ⟨vs,H1,I1,r1,q1⟩=>?_) hs rfl));obtain⟨j,e,q1,q2,q⟩:=q1;subst e
 cases r1 with
 | cons r rr=>
  cases rr;obtain⟨t,rfl⟩:=r;exact call_range_1 (rX I1 (by omega) (by omega) q1 q2 (by simpa using q))
theorem vT{a b:Expr}{ta:TA}{p pos:Pos}(hg:Gl X "range")(hm:X.mg "range"=none)(ha:PA X [a,b] ta)(hs:starEach [a,b] X.env=[(false,eval a X.env),(false,eval b X.env)]:=by rfl)(hs2:starEach [b] X.env=[(false,eval b X.env)]:=by rfl):
  PI X tg (.Call (.Name "range" p) [a,b] [] pos) (xv ta):=by
 intro pins s σ H R I h;refine Call_ (jx I hg hm boot_range (PyProof.Rows.callWith_type1 (b6 (ha pos pins s σ H _ I h) fun us s1 ⟨vs,H1,I1,r1,q1⟩=>?_) (by rw [hs,hs2]) (by rw [hs2];rfl)));obtain⟨i,j,e,⟨q1,q2,q3,q4⟩,q⟩:=q1;subst e
 cases r1 with
 | cons r rr=>
  cases rr with
  | cons r' rr=>
   cases rr;obtain⟨t,rfl⟩:=r;obtain⟨t',rfl⟩:=r';exact call_range_2 (rX I1 q1 q2 q3 q4 q)
def C9(wi:TI)(g:TG)(tb:TS):TS:=fun D σ H=>wi σ H fun J H1=>∃W:Nat→Nat→St→Hp→Prop,(∃m,W 0 m σ H1)∧∀i m σ H,W i m σ H→
 (J.stop i H∧D.nx σ H)∨(J.go i H∧∃N:St→Hp→Prop,(∀σ' H',N σ' H'→∃m',m' < m∧W (i+1) m' σ' H')∧∀x H',J.yld i H x H'→g x σ H' fun σ2 H2=>tb { D with nx:=N,ct:=N,bk:=D.nx } σ2 H2)
def pP(fp:List Addr)(h:Heap):List (Addr×Obj):=fp.filterMap fun b=>(h.get? b).map fun o=>(b,o)
theorem dy{fp:List Addr}{h:Heap}{b:Addr}{o:Obj}(hb:b∈fp)(e:h.get? b=some o):(b,o)∈pP fp h:=ae8.mpr ⟨b,hb,by rw [e];rfl⟩
theorem vM{fp:List Addr}{h:Heap}{p:Addr×Obj}(hp:p∈pP fp h):p.1∈fp∧h.get? p.1=some p.2:=by
 obtain⟨b,hb,e⟩:=ae8.mp hp
 cases q:h.get? b with
 | none=>rw [q]at e;cases e
 | some o=>
  rw [q]at e;have e':(b,o)=p:=Option.some.inj e;subst e';exact⟨hb,q⟩
theorem aH.pinned{pins:List (Addr×Obj)}{σ:St}{H:Hp}{s:Shared}{fp:List Addr}(I:aH X pins σ H s)(hf:∀b∈fp,kR X pins H b)(ho:∀b∈fp,∃o,s.heap.get? b=some o∧∀v,o.data≠.cell v):aH X (pins++pP fp s.heap) σ H s:=
 I.pins_of fun p hp=>(ac3.mp hp).elim (fun z=>I.pin p (ab6 _ z)) fun z=>by
  obtain⟨hb,e⟩:=vM z;obtain⟨f0,f1,f2,_⟩:=hf p.1 hb;obtain⟨o,e',d⟩:=ho p.1 hb;rw [e]at e';cases e';exact⟨e,f0,f1,f2,d⟩
theorem aH.unpinned{pins pl:List (Addr×Obj)}{σ:St}{H:Hp}{s:Shared}(I:aH X (pins++pl) σ H s):aH X pins σ H s:=I.pins_of fun p hp=>I.pin p (ab6 _ (ah1 _ hp))
theorem eA{iter:Expr}{body:List Stmt}{wi:TI}{g:TG}{tb:TS}{pos:Pos}(hp:PassesOwn (model X.prog X.w) X.A X.env X.xe)(hc:X.calm=true)(hi:PI X tg iter wi)(hg:PG X tg g)(hb:sC X body tb)
  (hs:∀x,foldedSetIterable iter X.env x=pure x:=by intro _;rfl):PS X (.For tg iter body [] pos) (C9 wi g tb):=by
 intro pins s σ H D I h;refine wpAny_For (b6 (hi pins s σ H _ I h) fun v s1 h1=>b6 h1 fun itv s2 h2=>?_) hs;obtain⟨it,fp,tn,J,H2,e,I2,T,st2,f2,W,⟨m0,w0⟩,turn⟩:=h2;subst e;have stat:∀{H':Hp},(∀b∈fp,H' b=none)→∀b∈fp,kR X pins H' b:=fun hn b hb=>⟨hn b hb,(f2 b hb).2⟩;refine codeAny_forLoop_any (fun n s'=>∃i σ' H',aH X pins σ' H' s'∧tn i s'.heap∧(∀b∈fp,H' b=none)∧W i n σ' H') ?_ m0 ⟨0,σ,H2,I2,st2,fun b hb=>(f2 b hb).1,w0⟩;rintro n s3 ⟨i,σ3,H3,I3,st3,fr3,w3⟩;rcases turn i n σ3 H3 w3 with⟨stop,qn⟩ | ⟨go,N,hN,step⟩
 ·refine wpAny_passesOwn hp (b6 (T.done X rfl rfl rfl hc i pins s3 σ3 H3 X.xe I3 (stat fr3) st3 stop) fun r s4 ⟨hr,I4⟩=>?_)
  subst hr;exact wpAny_execs_nil ⟨σ3,H3,I4,qn⟩
 ·refine wpAny_passesOwn hp (b6 (T.item X rfl rfl rfl hc i pins s3 σ3 H3 X.xe I3 (stat fr3) st3 go) fun r s4 ⟨u,hr,h4⟩=>?_)
  subst hr;refine wpAny_passesOwn hp (b6 h4 fun _ s5 ⟨x,H5,I5,r5,y5,st5,fr5⟩=>?_);have I5':=I5.pinned (stat fr5) (T.obj _ _ st5);refine wpAny_passesOwn hp (b6 (hg _ s5 σ3 H5 x u _ I5' r5 (step x H5 y5)) fun _ s6 ⟨σ6,H6,I6,q6⟩=>?_);refine wpAny_passesOwn hp (b6 (hb _ s6 σ6 H6 _ I6 q6) fun f s7 q7=>?_)
  have again:∀{σ7:St} {H7:Hp},aH X (pins++pP fp s5.heap) σ7 H7 s7→N σ7 H7→∃m,m < n∧∃i σ' H',aH X pins σ' H' s7∧tn i s7.heap∧(∀b∈fp,H' b=none)∧W i m σ' H':=fun {σ7 H7} I7 n7=>by
   obtain⟨m',hm,w7⟩:=hN σ7 H7 n7;refine⟨m',hm,i+1,σ7,H7,I7.unpinned,T.keep _ _ _ st5 fun b hb o e=>(I7.pin (b,o) (ab6 _ (ab6 _ (dy hb e)))).1,fun b hb=>?_,w7⟩;obtain⟨o,e,d⟩:=T.obj _ _ st5 b hb;exact(I7.pin (b,o) (ab6 _ (ab6 _ (dy hb e)))).2.1
  cases f with
  | next=>obtain⟨σ7,H7,I7,n7⟩:=q7;exact again I7 n7
  | cont=>obtain⟨σ7,H7,I7,n7⟩:=q7;exact again I7 n7
  | brk=>obtain⟨σ7,H7,I7,q7⟩:=q7;exact⟨σ7,H7,I7.unpinned,q7⟩
  | ret v=>obtain⟨x7,σ7,H7,I7,r7,q7⟩:=q7;exact⟨x7,σ7,H7,I7.unpinned,r7,q7⟩
end
theorem xm{K:Frag}{a:Addr}{xs:List V}{g:TG}{tb:TS}{D:eG}{σ:St}{H:Hp}(Pv:Nat→St→Hp→Prop)(h0:Pv 0 σ H)(hl:∀i σ H,i≤xs.length→Pv i σ H→aV K H a xs)
  (hs:∀i x σ H,xs[i]?=some x→Pv i σ H→g x σ H fun σ2 H2=>tb { D with nx:=Pv (i+1),ct:=Pv (i+1),bk:=D.nx } σ2 H2) (hd:∀σ H,Pv xs.length σ H→D.nx σ H) :
  ∃W:Nat→Nat→St→Hp→Prop,(∃m,W 0 m σ H)∧∀i m σ H,W i m σ H→
   ((wz K a).stop i H∧D.nx σ H)∨((wz K a).go i H∧∃N:St→Hp→Prop,(∀σ' H',N σ' H'→∃m',m' < m∧W (i+1) m' σ' H')∧∀x H',(wz K a).yld i H x H'→g x σ H' fun σ2 H2=>tb { D with nx:=N,ct:=N,bk:=D.nx } σ2 H2):=by
 refine⟨fun i m σ H=>m=xs.length - i∧i≤xs.length∧Pv i σ H,⟨xs.length,by simp,ab5 _,h0⟩,?_⟩;rintro i m σ H ⟨rfl,hi,p⟩;have q:=hl i σ H hi p
 by_cases hlt:i < xs.length
 ·refine .inr ⟨⟨xs,xs[i],q,by simp [hlt]⟩,Pv (i+1),fun σ' H' p'=>⟨xs.length - (i+1),by omega,rfl,hlt,p'⟩,fun x H' y=>?_⟩
  obtain⟨e,y⟩:=y;subst e;exact hs i x σ _ (y xs q) p
 ·have e:i=xs.length:=by omega
  subst e;exact .inl ⟨⟨xs,q,aa7 _⟩,hd σ H p⟩
theorem vq{lo:Int}{n:Nat}{g:TG}{tb:TS}{D:eG}{σ:St}{H:Hp}(Pv:Nat→St→Hp→Prop)(h0:Pv 0 σ H)
  (hs:∀i σ H,i < n→Pv i σ H→g (.int (lo+i)) σ H fun σ2 H2=>tb { D with nx:=Pv (i+1),ct:=Pv (i+1),bk:=D.nx } σ2 H2) (hd:∀σ H,Pv n σ H→D.nx σ H) :
  ∃W:Nat→Nat→St→Hp→Prop,(∃m,W 0 m σ H)∧∀i m σ H,W i m σ H→
   ((yX lo n).stop i H∧D.nx σ H)∨((yX lo n).go i H∧∃N:St→Hp→Prop,(∀σ' H',N σ' H'→∃m',m' < m∧W (i+1) m' σ' H')∧∀x H',(yX lo n).yld i H x H'→g x σ H' fun σ2 H2=>tb { D with nx:=N,ct:=N,bk:=D.nx } σ2 H2):=by
 refine⟨fun i m σ H=>m=n - i∧i≤n∧Pv i σ H,⟨n,by simp,ab5 _,h0⟩,?_⟩;rintro i m σ H ⟨rfl,hi,p⟩
 by_cases hlt:i < n
 ·refine .inr ⟨hlt,Pv (i+1),fun σ' H' p'=>⟨n - (i+1),by omega,rfl,hlt,p'⟩,fun x H' y=>?_⟩
  obtain⟨e,y⟩:=y;subst e y;exact hs i σ _ hlt p
 ·have e:i=n:=by omega
  subst e;exact .inl ⟨aa7 _,hd σ H p⟩
end L2
namespace L2
open PySem PySem.Spec PyProof.Rows
abbrev R2:=V→V→Hp→VK→Prop
def cQ(X:Cx)(f:Value→Value→Sem Value)(r:R2):Prop:=
 ∀(pins:List (Addr×Obj)) (s:Shared) (σ:St) (H:Hp) (x y:V) (v u:Value) (Q:VK),aH X pins σ H s→aN x v→aN y u→r x y H Q→
  wpAny (model X.prog X.w) X.A (f v u) (EP X pins σ Q) X.xe s
def DW(X:Cx)(f:Value→Sem Value)(r:V→Hp→VK→Prop):Prop:=
 ∀(pins:List (Addr×Obj)) (s:Shared) (σ:St) (H:Hp) (x:V) (v:Value) (Q:VK),aH X pins σ H s→aN x v→r x H Q→
  wpAny (model X.prog X.w) X.A (f v) (EP X pins σ Q) X.xe s
def bT(X:Cx)(f:Value)(r:List V→Hp→VK→Prop):Prop:=
 ∀(pins:List (Addr×Obj)) (s:Shared) (σ:St) (H:Hp) (xs:List V) (us:List Value) (Q:VK),aH X pins σ H s→aR xs us→r xs H Q→
  wpAny (model X.prog X.w) X.A (call f us) (EP X pins σ Q) X.xe s
def DD(X:Cx)(r:V→Hp→(Bool→Hp→Prop)→Prop):Prop:=
 ∀(pins:List (Addr×Obj)) (s:Shared) (σ:St) (H:Hp) (x:V) (v:Value) (Q:Bool→Hp→Prop),aH X pins σ H s→aN x v→r x H Q→
  wpAny (model X.prog X.w) X.A (truthy v) (TP X pins σ Q) X.xe s
def AR(r:R2)(ta tb:TE):TE:=fun σ H Q=>ta σ H fun x H1=>tb σ H1 fun y H2=>r x y H2 Q
def DO(r:V→Hp→VK→Prop)(ta:TE):TE:=fun σ H Q=>ta σ H fun x H1=>r x H1 Q
def rI(C:Int→Int→Prop)(g:Int→Int→V):R2:=fun x y H Q=>∃i j,x=.int i∧y=.int j∧C i j∧Q (g i j) H
def sD(g:Int→Int→V):R2:=fun x y H Q=>∃i j,x=.int i∧y=.int j∧Q (g i j) H
def rU(g:Int→V):V→Hp→VK→Prop:=fun x H Q=>∃i,x=.int i∧Q (g i) H
section
variable {X:Cx} {a b c:Expr} {ta tb tc:TE} {pos:Pos}
theorem zd(ha:PE X a ta)(hb:PE X b tb){pins:List (Addr×Obj)}{s:Shared}{σ:St}{H:Hp}{R:V→V→Hp→Prop}(I:aH X pins σ H s)
  (h:ta σ H fun x H1=>tb σ H1 fun y H2=>R x y H2) {Q:Value→Shared→Prop} {f:Value→Value→Sem Value}
  (hf:∀v u s2 x y H2,aH X pins σ H2 s2→aN x v→aN y u→R x y H2→wpAny (model X.prog X.w) X.A (f v u) Q X.xe s2) :
  wpAny (model X.prog X.w) X.A (eval a X.env) (fun v s₁=>wpAny (model X.prog X.w) X.A (eval b X.env) (fun u s₂=>wpAny (model X.prog X.w) X.A (f v u) Q X.xe s₂) X.xe s₁) X.xe s:=by
 refine b6 (ha pins s σ H _ I h) fun v s1 ⟨x,H1,I1,r1,q1⟩=>?_;refine b6 (hb pins s1 σ H1 _ I1 q1) fun u s2 ⟨y,H2,I2,r2,q2⟩=>?_;exact hf v u s2 x y H2 I2 r1 r2 q2
theorem ao{op:Operator}{r:R2}(ho:cQ X (binaryOp op) r)(ha:PE X a ta)(hb:PE X b tb):PE X (.BinOp a op b pos) (AR r ta tb):=by
 intro pins s σ H Q I h;exact wpAny_BinOp (zd ha hb I h fun v u s2 x y H2 I2 rx ry q=>ho pins s2 σ H2 x y v u Q I2 rx ry q)
theorem CO{f:Value→Value→Sem Value}{C:Int→Int→Prop}{g:Int→Int→Int}
  (rule:∀(i j:Int) (t u:Tok) (s:Shared) (Q:Value→Shared→Prop) (E:Value→Shared→Prop),C i j→Q (.int (g i j) s.toks) { s with toks:=s.toks+1 }→wpAny (model X.prog X.w) X.A (f (.int i t) (.int j u)) Q E s) :
  cQ X f (rI C fun i j=>.int (g i j)):=by
 intro pins s σ H x y v u Q I rx ry h;obtain⟨i,j,rfl,rfl,hc,q⟩:=h;obtain⟨t,rfl⟩:=rx;obtain⟨t',rfl⟩:=ry;exact rule i j t t' s _ _ hc ⟨.int (g i j),H,I.tok _,⟨_,rfl⟩,q⟩
theorem CP{f:Value→Value→Sem Value}{g:Int→Int→Int}
  (rule:∀(i j:Int) (t u:Tok) (s:Shared) (Q:Value→Shared→Prop) (E:Value→Shared→Prop),Q (.int (g i j) s.toks) { s with toks:=s.toks+1 }→wpAny (model X.prog X.w) X.A (f (.int i t) (.int j u)) Q E s) :
  cQ X f (sD fun i j=>.int (g i j)):=by
 intro pins s σ H x y v u Q I rx ry h;obtain⟨i,j,rfl,rfl,q⟩:=h;obtain⟨t,rfl⟩:=rx;obtain⟨t',rfl⟩:=ry;exact rule i j t t' s _ _ ⟨.int (g i j),H,I.tok _,⟨_,rfl⟩,q⟩
theorem Bv{f:Value→Value→Sem Value}{g:Int→Int→Bool}
  (rule:∀(i j:Int) (t u:Tok) (s:Shared) (Q:Value→Shared→Prop) (E:Value→Shared→Prop),Q (.bool (g i j)) s→wpAny (model X.prog X.w) X.A (f (.int i t) (.int j u)) Q E s) :
  cQ X f (sD fun i j=>.bl (g i j)):=by
 intro pins s σ H x y v u Q I rx ry h;obtain⟨i,j,rfl,rfl,q⟩:=h;obtain⟨t,rfl⟩:=rx;obtain⟨t',rfl⟩:=ry;exact rule i j t t' s _ _ ⟨.bl (g i j),H,I,rfl,q⟩
def Cp(i j:Int):Prop:=0 < j∧j < 1073741824
def Dx(i j:Int):Prop:=0≤j∧j≤1000000∧i.natAbs < 2 ^ 64
theorem op_add:cQ X (binaryOp .Add) (sD fun i j=>.int (i+j)):=CP fun _ _ _ _ _ _ _ q=>add_int q
theorem gb:cQ X (binaryOp .Sub) (sD fun i j=>.int (i - j)):=CP fun _ _ _ _ _ _ _ q=>sub_int q
theorem cT:cQ X (binaryOp .FloorDiv) (rI Cp fun i j=>.int (i / j)):=CO fun i j _ _ _ _ _ hc q=>by
 have h1:(0:Int) < j:=hc.1;have h2:j < 1073741824:=hc.2;exact floordiv_int (by omega) (by rw [aj8 i (by omega)];exact q) (.inl (PyProof.noPylong_small (by omega)))
theorem bC:cQ X (binaryOp .Mod) (rI (fun _ j=>0 < j) fun i j=>.int (i % j)):=CO fun i j _ _ _ _ _ hc q=>by
 have h1:(0:Int) < j:=hc;exact mod_int' (by omega) (by rw [aj9 i (by omega)];exact q)
theorem fj:cQ X (binaryOp .Pow) (rI Dx fun i j=>.int (i ^ j.toNat)):=CO fun _ _ _ _ _ _ _ hc q=>pow_int_small hc.1 hc.2.1 hc.2.2 q
end
def r9:V→V→Bool
 | .non,.non=>true | .non,.int _=>true | .int _,.non=>true | .non,.bl _=>true | .bl _,.non=>true | .non,.str _=>true | .str _,.non=>true
 | .int _,.int _=>true | .bl _,.bl _=>true | .str _,.str _=>true | .byt _,.byt _=>true
 | .int _,.str _=>true | .str _,.int _=>true | .bl _,.str _=>true | .str _,.bl _=>true
 | _,_=>false
def n9:R2:=fun x y H Q=>r9 x y=true∧Q (.bl (decide (x=y))) H
def og:R2:=fun x y H Q=>r9 x y=true∧Q (.bl (!decide (x=y))) H
theorem um{i j:Int}:decide (V.int i=V.int j)=(i == j):=by
 rw [ag7];simp
theorem wY{i j:Bool}:decide (V.bl i=V.bl j)=(i == j):=by
 rw [ag7];simp
theorem uo{i j:Str}:decide (V.str i=V.str j)=(i == j):=by
 rw [ag7];simp
theorem uk{i j:Array UInt8}:decide (V.byt i=V.byt j)=(i.toList == j.toList):=by
 rw [ag7];cases i;cases j;simp
section
variable {X:Cx} {a b c:Expr} {ta tb tc:TE} {pos:Pos}
theorem bc{pins:List (Addr×Obj)}{σ:St}{H:Hp}{s:Shared}{Q:VK}{k k':Bool}(I:aH X pins σ H s)(q:Q (.bl k) H)(e:k=k'):EP X pins σ Q (.bool k') s:=by
 subst e;exact⟨.bl k,H,I,rfl,q⟩
theorem CT:cQ X (compareOp .Eq) n9:=by
 intro pins s σ H x y v u Q I rx ry h;obtain⟨hs,q⟩:=h
 cases x with
 | non=>
  cases rx
  cases y with
  | non=>cases ry;exact PySem.EqNone.eq_none_none (bc I q (by simp))
  | bl j=>cases ry;exact PySem.EqNone.eq_none_bool (bc I q (by simp))
  | int j=>obtain⟨t',rfl⟩:=ry;exact PySem.EqNone.eq_none_int (bc I q (by simp))
  | str j=>obtain⟨t',rfl⟩:=ry;exact PySem.EqNone.eq_none_str (bc I q (by simp))
  | _=>exact absurd (show false=true from hs) aa1
 | bl i=>
  cases rx
  cases y with
  | non=>cases ry;exact PySem.EqNone.eq_bool_none (bc I q (by simp))
  | bl j=>cases ry;exact eq_bool (bc I q wY)
  | str j=>obtain⟨t',rfl⟩:=ry;exact PySem.EqMixed.eq_bool_str (bc I q (by simp))
  | _=>exact absurd (show false=true from hs) aa1
 | int i=>
  obtain⟨t,rfl⟩:=rx
  cases y with
  | non=>cases ry;exact PySem.EqNone.eq_int_none (bc I q (by simp))
  | int j=>obtain⟨t',rfl⟩:=ry;exact eq_int (bc I q um)
  | str j=>obtain⟨t',rfl⟩:=ry;exact PySem.EqMixed.eq_int_str (bc I q (by simp))
  | _=>exact absurd (show false=true from hs) aa1
 | str i=>
  obtain⟨t,rfl⟩:=rx
  cases y with
  | non=>cases ry;exact PySem.EqNone.eq_str_none (bc I q (by simp))
  | bl j=>cases ry;exact PySem.EqMixed.eq_str_bool (bc I q (by simp))
  | int j=>obtain⟨t',rfl⟩:=ry;exact PySem.EqMixed.eq_str_int (bc I q (by simp))
  | str j=>obtain⟨t',rfl⟩:=ry;exact eq_str (bc I q uo)
  | _=>exact absurd (show false=true from hs) aa1
 | byt i=>
  obtain⟨t,rfl⟩:=rx
  cases y with
  | byt j=>obtain⟨t',rfl⟩:=ry;exact PySem.W.eq_bytes (bc I q uk)
  | _=>exact absurd (show false=true from hs) aa1
 | _=>cases y<;>exact absurd (show false=true from hs) aa1
theorem CV:cQ X (compareOp .NotEq) og:=by
 intro pins s σ H x y v u Q I rx ry h;obtain⟨hs,q⟩:=h
 cases x with
 | non=>
  cases rx
  cases y with
  | non=>cases ry;exact PySem.EqNone.ne_none_none (bc I q (by simp))
  | bl j=>cases ry;exact PySem.EqNone.ne_none_bool (bc I q (by simp))
  | int j=>obtain⟨t',rfl⟩:=ry;exact PySem.EqNone.ne_none_int (bc I q (by simp))
  | str j=>obtain⟨t',rfl⟩:=ry;exact PySem.EqNone.ne_none_str (bc I q (by simp))
  | _=>exact absurd (show false=true from hs) aa1
 | bl i=>
  cases rx
  cases y with
  | non=>cases ry;exact PySem.EqNone.ne_bool_none (bc I q (by simp))
  | bl j=>cases ry;exact ne_bool (bc I q (congrArg not wY))
  | str j=>obtain⟨t',rfl⟩:=ry;exact PySem.EqMixed.ne_bool_str (bc I q (by simp))
  | _=>exact absurd (show false=true from hs) aa1
 | int i=>
  obtain⟨t,rfl⟩:=rx
  cases y with
  | non=>cases ry;exact PySem.EqNone.ne_int_none (bc I q (by simp))
  | int j=>obtain⟨t',rfl⟩:=ry;exact ne_int (bc I q (congrArg not um))
  | str j=>obtain⟨t',rfl⟩:=ry;exact PySem.EqMixed.ne_int_str (bc I q (by simp))
  | _=>exact absurd (show false=true from hs) aa1
 | str i=>
  obtain⟨t,rfl⟩:=rx
  cases y with
  | non=>cases ry;exact PySem.EqNone.ne_str_none (bc I q (by simp))
  | bl j=>cases ry;exact PySem.EqMixed.ne_str_bool (bc I q (by simp))
  | int j=>obtain⟨t',rfl⟩:=ry;exact PySem.EqMixed.ne_str_int (bc I q (by simp))
  | str j=>obtain⟨t',rfl⟩:=ry;exact ne_str (bc I q (congrArg not uo))
  | _=>exact absurd (show false=true from hs) aa1
 | byt i=>
  obtain⟨t,rfl⟩:=rx
  cases y with
  | byt j=>obtain⟨t',rfl⟩:=ry;exact PySem.W.ne_bytes (bc I q (congrArg not uk))
  | _=>exact absurd (show false=true from hs) aa1
 | _=>cases y<;>exact absurd (show false=true from hs) aa1
theorem CU:cQ X (compareOp .Lt) (sD fun i j=>.bl (decide (i < j))):=Bv fun _ _ _ _ _ _ _ q=>lt_int q
theorem lT:cQ X (compareOp .LtE) (sD fun i j=>.bl (decide (i≤j))):=Bv fun _ _ _ _ _ _ _ q=>le_int q
theorem uH:cQ X (compareOp .Gt) (sD fun i j=>.bl (decide (j < i))):=Bv fun _ _ _ _ _ _ _ q=>gt_int q
theorem op_in_str:cQ X (compareOp .In) (fun x y H Q=>∃i j,x=.str i∧y=.str j∧Q (.bl (!(Builtin.Str.occurrences j i 0 j.length 1).isEmpty)) H):=by
 intro pins s σ H x y v u Q I rx ry h;obtain⟨i,j,rfl,rfl,q⟩:=h;obtain⟨t,rfl⟩:=rx;obtain⟨t',rfl⟩:=ry;exact in_str (bc I q rfl)
theorem tI:cQ X (compareOp .Is) (fun x y H Q=>y=.non∧Q (.bl (decide (x=.non))) H):=by
 intro pins s σ H x y v u Q I rx ry h;obtain⟨rfl,q⟩:=h;cases ry;refine is_none_gen (bc I q ?_)
 cases x<;>first
  | (cases rx;rfl)
  | (obtain⟨t,rfl⟩:=rx;rfl)
theorem kG:cQ X (compareOp .IsNot) (fun x y H Q=>y=.non∧Q (.bl (!decide (x=.non))) H):=by
 intro pins s σ H x y v u Q I rx ry h;obtain⟨rfl,q⟩:=h;cases ry;refine isnot_none_gen (bc I q ?_)
 cases x<;>first
  | (cases rx;rfl)
  | (obtain⟨t,rfl⟩:=rx;rfl)
theorem op_notin_str:cQ X (compareOp .NotIn) (fun x y H Q=>∃i j,x=.str i∧y=.str j∧Q (.bl (!(!(Builtin.Str.occurrences j i 0 j.length 1).isEmpty))) H):=by
 intro pins s σ H x y v u Q I rx ry h;obtain⟨i,j,rfl,rfl,q⟩:=h;obtain⟨t,rfl⟩:=rx;obtain⟨t',rfl⟩:=ry;exact notIn_str (bc I q rfl)
theorem cQ.or{f:Value→Value→Sem Value}{r r':R2}(h:cQ X f r)(h':cQ X f r'):cQ X f (fun x y H Q=>r x y H Q∨r' x y H Q):=by
 intro pins s σ H x y v u Q I rx ry q;rcases q with q | q
 ·exact h pins s σ H x y v u Q I rx ry q
 ·exact h' pins s σ H x y v u Q I rx ry q
theorem aE(b:Expr){op:CmpOp}(h:op≠.In:=by decide)(h2:op≠.NotIn:=by decide):behindInMarks op b=false:=by
 have e1:(op == CmpOp.In)=false:=by cases op<;>first | rfl | exact absurd rfl h
 have e2:(op == CmpOp.NotIn)=false:=by cases op<;>first | rfl | exact absurd rfl h2
 cases b<;>simp [behindInMarks,e1,e2]
theorem eK{op:CmpOp}{r:R2}(ho:cQ X (compareOp op) r)(ha:PE X a ta)(hb:PE X b tb)(hm:behindInMarks op b=false):PE X (.Compare a [op] [b] pos) (AR r ta tb):=by
 intro pins s σ H Q I h;exact wpAny_Compare1 (zd ha hb I h fun v u s2 x y H2 I2 rx ry q=>ho pins s2 σ H2 x y v u Q I2 rx ry q) hm
def mv(t:TE):TT:=fun σ H Q=>t σ H fun x H'=>∃k,x=.bl k∧Q k H'
theorem aA{op:CmpOp}{r:R2}(ho:cQ X (compareOp op) r)(ha:PE X a ta)(hb:PE X b tb)(hm:behindInMarks op b=false):PT X (.Compare a [op] [b] pos) (mv (AR r ta tb)):=by
 intro pins s σ H Q I h
 refine wpAny_isTrue_Compare1 (b6 (ha pins s σ H _ I h) fun v s1 ⟨x,H1,I1,r1,q1⟩=>b6 (hb pins s1 σ H1 _ I1 q1) fun u s2 ⟨y,H2,I2,r2,q2⟩=>
  b6 (ho pins s2 σ H2 x y v u _ I2 r1 r2 q2) fun c s3 ⟨z,H3,I3,r3,k,e,q3⟩=>?_) hm
 subst e;cases r3;exact wpAny_truthy_bool ⟨H3,I3,q3⟩
def qr(r r':R2)(ta tb tc:TE):TE:=fun σ H Q=>ta σ H fun x H1=>tb σ H1 fun y H2=>r x y H2 fun z H3=>∃k,z=.bl k∧
 (if k=true then tc σ H3 fun w' H4=>r' y w' H4 Q else Q (.bl false) H3)
theorem rQ{op op':CmpOp}{r r':R2}(ho:cQ X (compareOp op) r)(ho':cQ X (compareOp op') r')(ha:PE X a ta)(hb:PE X b tb)(hc:PE X c tc)
  (hm:lastMarks [op,op'] [b,c]=false:=by with_unfolding_all rfl):PE X (.Compare a [op,op'] [b,c] pos) (qr r r' ta tb tc):=by
 intro pins s σ H Q I h
 refine Compare_chain (b6 (ha pins s σ H _ I h) fun v s1 ⟨x,H1,I1,r1,q1⟩=>chain_link (b6 (hb pins s1 σ H1 _ I1 q1) fun u s2 ⟨y,H2,I2,r2,q2⟩=>
  b6 (ho pins s2 σ H2 x y v u _ I2 r1 r2 q2) fun d s3 ⟨z,H3,I3,r3,k,e,q3⟩=>?_)) hm
 subst e;cases r3;refine wpAny_truthy_bool ?_
 cases k with
 | false=>exact ite_ff ⟨.bl false,H3,I3,rfl,q3⟩
 | true=>exact ite_tt (chain_last (b6 (hc pins s3 σ H3 _ I3 q3) fun w' s4 ⟨z',H4,I4,r4,q4⟩=>ho' pins s4 σ H4 y z' u w' Q I4 r2 r4 q4))
theorem yf{op op':CmpOp}{r r':R2}(ho:cQ X (compareOp op) r)(ho':cQ X (compareOp op') r')(ha:PE X a ta)(hb:PE X b tb)(hc:PE X c tc)
  (hm:lastMarks [op,op'] [b,c]=false:=by with_unfolding_all rfl):PT X (.Compare a [op,op'] [b,c] pos) (mv (qr r r' ta tb tc)):=by
 intro pins s σ H Q I h
 refine isTrue_chain (b6 (ha pins s σ H _ I h) fun v s1 ⟨x,H1,I1,r1,q1⟩=>test_link (b6 (hb pins s1 σ H1 _ I1 q1) fun u s2 ⟨y,H2,I2,r2,q2⟩=>
  b6 (ho pins s2 σ H2 x y v u _ I2 r1 r2 q2) fun d s3 ⟨z,H3,I3,r3,k,e,q3⟩=>?_)) hm
 subst e;cases r3;refine wpAny_truthy_bool ?_
 cases k with
 | false=>
  obtain⟨k',e',q'⟩:=q3;cases e';exact ite_ff ⟨H3,I3,q'⟩
 | true=>
  refine ite_tt (test_last (b6 (hc pins s3 σ H3 _ I3 q3) fun w' s4 ⟨z',H4,I4,r4,q4⟩=>b6 (ho' pins s4 σ H4 y z' u w' _ I4 r2 r4 q4) fun d' s5 ⟨z2,H5,I5,r5,k2,e2,q5⟩=>?_));subst e2;cases r5;exact wpAny_truthy_bool ⟨H5,I5,q5⟩
def y4(K:Frag)(x:V)(H:Hp)(k:Bool):Prop:=
 match x with
 | .non=>k=false
 | .bl b=>k=b
 | .int i=>k=(i != 0)
 | .str y=>y.length≤sizeLine∧k=((y.length:Int) != 0)
 | .byt y=>y.size≤sizeLine∧k=((y.size:Int) != 0)
 | .ref p=>(∃xs,aV K H p xs∧k=!xs.isEmpty)∨(∃xs,dI K H p xs∧k=!xs.isEmpty)∨∃kvs,H p=some (.dK kvs)∧k=!kvs.isEmpty
 | _=>False
theorem sU{κ:Type}{kvs:List (κ×V)}{vs:List (κ×Value)}(r:KV kvs vs):(!vs.isEmpty)=!kvs.isEmpty:=by
 cases r<;>rfl
theorem lC{xs:List V}{its:List Value}(r:aR xs its):(!its.toArray.isEmpty)=!xs.isEmpty:=by
 cases r<;>simp
theorem ic:(sizeLine:Nat) < 2 ^ 63:=by rw [sizeLine_eq];decide
theorem Cd:DD X (fun x H Q=>∃k,y4 X.K x H k∧Q k H):=by
 intro pins s σ H x v Q I rx h;obtain⟨k,e,q⟩:=h;have hl:=ic;have hs:sizeLine=16777216:=sizeLine_eq
 cases x with
 | non=>
  cases rx;have e':k=false:=e;subst e';exact truthy_none ⟨H,I,q⟩
 | bl b=>
  cases rx;have e':k=b:=e;subst e';exact wpAny_truthy_bool ⟨H,I,q⟩
 | int i=>
  obtain⟨t,rfl⟩:=rx;have e':k=(i != 0):=e;subst e';exact PySem.P.truthy_int ⟨H,I,q⟩
 | str y=>
  obtain⟨t,rfl⟩:=rx;obtain⟨hy,e'⟩:y.length≤sizeLine∧k=((y.length:Int) != 0):=e;subst e';exact PySem.P.truthy_str (by omega) ⟨H,I.tok _,q⟩
 | byt y=>
  obtain⟨t,rfl⟩:=rx;obtain⟨hy,e'⟩:y.size≤sizeLine∧k=((y.size:Int) != 0):=e;subst e';exact PySem.W.truthy_bytes (by omega) ⟨H,I.tok _,q⟩
 | ref p=>
  cases rx;have e':(∃xs,aV X.K H p xs∧k=!xs.isEmpty)∨(∃xs,dI X.K H p xs∧k=!xs.isEmpty)∨∃kvs,H p=some (.dK kvs)∧k=!kvs.isEmpty:=e;rcases e' with⟨xs,hx,e'⟩ | ⟨xs,hx,e'⟩ | ⟨kvs,hx,e'⟩
  ·subst e'
   obtain⟨its,r,pl,hz⟩:=I.list hx;have hlen:=r.length;exact wpAny_truthy_list pl.isList (by simp only [aa3];omega) ⟨H,I.tok _,by rw [lC r];exact q⟩
  ·subst e'
   obtain⟨its,r,pl,hz⟩:=I.tuple hx;have hlen:=r.length;exact truthy_tuple pl (by simp only [aa3];omega) ⟨H,I.tok _,by rw [lC r];exact q⟩
  ·subst e'
   obtain⟨hz,hS,vs,r,m⟩:kvs.length≤sizeLine∧(p == sysModules)=false∧∃vs,KV kvs vs∧s.heap.DictOf (pf X.prog X.w) p vs:=I.hok p _ hx;have hlen:kvs.length=vs.length:=Paired.length r;exact wpAny_truthy_dict hS m (by omega) ⟨H,I.tok _,by rw [sU r];exact q⟩
 | _=>exact(show False from e).elim
theorem aD(ha:PE X a ta)(he:∀whole,isTrue a X.env whole=(do let v ←whole;standAt a.pos;holding [v] (truthy v))):
  PT X a (fun σ H Q=>ta σ H fun x H'=>∃k,y4 X.K x H' k∧Q k H'):=by
 intro pins s σ H Q I h;exact isTrue_plain (b6 (ha pins s σ H _ I h) fun v s1 ⟨x,H1,I1,r1,q1⟩=>Cd pins s1 σ H1 x v Q I1 r1 q1) (he _)
theorem op_add_str:cQ X (binaryOp .Add) (fun x y H Q=>∃i j,x=.str i∧y=.str j∧i.length+j.length≤sizeLine∧Q (.str (i++j)) H):=by
 intro pins s σ H x y v u Q I rx ry h;obtain⟨i,j,rfl,rfl,hz,q⟩:=h;obtain⟨t,rfl⟩:=rx;obtain⟨t',rfl⟩:=ry;exact add_str (fun t' tk=>⟨.str (i++j),H,I.tok _,⟨_,rfl⟩,q⟩) hz
theorem d2{x:V}{us:List Value}(r:aR [x] us):∃u,us=[u]∧aN x u:=by
 cases r with
 | cons r1 r2=>cases r2;exact⟨_,rfl,r1⟩
theorem mw{x y:V}{us:List Value}(r:aR [x,y] us):∃u w',us=[u,w']∧aN x u∧aN y w':=by
 cases r with
 | cons r1 r2=>
  cases r2 with
  | cons r3 r4=>cases r4;exact⟨_,_,rfl,r1,r3⟩
theorem kT:bT X (.builtin "abs") (fun xs H Q=>∃i,xs=[.int i]∧Q (.int (if i < 0 then -i else i)) H):=by
 intro pins s σ H xs us Q I r h;obtain⟨i,rfl,q⟩:=h;obtain⟨u,rfl,t,rfl⟩:=d2 r;exact call_abs_int fun u tk=>⟨.int (if i < 0 then -i else i),H,I.tok _,⟨_,rfl⟩,q⟩
theorem ni(hc:X.calm=true):bT X (.builtin "max") (fun xs H Q=>∃i j,xs=[.int i,.int j]∧Q (.int (if j > i then j else i)) H):=by
 intro pins s σ H xs us Q I r h;obtain⟨i,j,rfl,q⟩:=h;obtain⟨u,w',rfl,⟨t,rfl⟩,⟨t',rfl⟩⟩:=mw r;refine max_two_ints (I.ok.hd hc) fun h' tk k=>⟨_,H,I.kept k,?_,q⟩
 by_cases hj:j > i
 ·rw [if_pos hj,if_pos hj];exact⟨_,rfl⟩
 ·rw [if_neg hj,if_neg hj];exact⟨_,rfl⟩
theorem nj(hc:X.calm=true):bT X (.builtin "min") (fun xs H Q=>∃i j,xs=[.int i,.int j]∧Q (.int (if j < i then j else i)) H):=by
 intro pins s σ H xs us Q I r h;obtain⟨i,j,rfl,q⟩:=h;obtain⟨u,w',rfl,⟨t,rfl⟩,⟨t',rfl⟩⟩:=mw r;refine min_two_ints (I.ok.hd hc) fun h' tk k=>⟨_,H,I.kept k,?_,q⟩
 by_cases hj:j < i
 ·rw [if_pos hj,if_pos hj];exact⟨_,rfl⟩
 ·rw [if_neg hj,if_neg hj];exact⟨_,rfl⟩
theorem vb:bT X (.type "int") (fun xs H Q=>(∃i,xs=[.int i]∧Q (.int i) H)∨∃k,xs=[.bl k]∧Q (.int (if k then 1 else 0)) H):=by
 intro pins s σ H xs us Q I r h;rcases h with⟨i,rfl,q⟩ | ⟨k,rfl,q⟩
 ·obtain⟨u,rfl,t,rfl⟩:=d2 r
  exact call_int_int ⟨.int i,H,I,⟨_,rfl⟩,q⟩
 ·obtain⟨u,rfl,r1⟩:=d2 r
  cases r1;exact call_int_bool ⟨.int (if k then 1 else 0),H,I.tok _,⟨_,rfl⟩,q⟩
theorem call_str_int:bT X (.type "str") (fun xs H Q=>∃i,xs=[.int i]∧i.natAbs.log2 < 1920∧Q (.str (toString i)) H):=by
 intro pins s σ H xs us Q I r h;obtain⟨i,rfl,hz,q⟩:=h;obtain⟨u,rfl,t,rfl⟩:=d2 r;exact PySem.P.str_of_int hz ⟨.str _,H,I.tok _,⟨_,rfl⟩,q⟩
theorem qL:bT X (.builtin "divmod") (fun xs H Q=>∃i j,xs=[.int i,.int j]∧Cp i j∧∀p,H p=none→Q (.ref p) (upd H p (.tup [.int (i / j),.int (i % j)]))):=by
 intro pins s σ H xs us Q I r h;obtain⟨i,j,rfl,⟨h1,h2⟩,q⟩:=h;obtain⟨u,w',rfl,⟨t,rfl⟩,⟨t',rfl⟩⟩:=mw r;refine divmod_int (by omega) ?_ (.inl (PyProof.noPylong_small (by omega)));rw [aj8 i (by omega),aj9 i (by omega)];have hn:H s.heap.objs.size=none:=I.hok.fresh (aa7 _);refine⟨.ref s.heap.objs.size,_,?_,rfl,q _ hn⟩;refine I.laid (fun b o e=>aa2 _ e) (aa7 _) ⟨by simp only [aa6,ad2];rw [sizeLine_eq];decide,[.int (i / j) s.toks,.int (i % j) (s.toks+1)],.cons ⟨_,rfl⟩ (.cons ⟨_,rfl⟩ .nil),?_⟩;exact⟨_,ab4 s.heap rfl,rfl,0,rfl⟩
end
end L2
namespace L2
open PySem PySem.Spec PyProof.Rows
structure sG(h:Heap)(x dx C:Addr)(mA:Str→Option Value):Prop where
 obj:h.get? x=some (instObj C dx)
 ns:h.Ns1 dx mA
 ne:dx≠x
theorem vD{h:Heap}{dx:Addr}{mA:Str→Option Value}(n:h.Ns1 dx mA):∃od,h.get? dx=some od∧∀name,PySem.W.lookIn name od=some (mA name):=by
 obtain⟨o,es,ep,ho,hd,hk,_,hm⟩:=n;refine⟨o,ho,fun name=>?_⟩;have e:=hm name;unfold nsFind findBy at e;rw [←Array.find?_toList]at e;unfold PySem.W.lookIn;rw [hd];dsimp only
 split
 ·rename_i y q
  rw [q]at e;exact congrArg some e
 ·rename_i q
  rw [q]at e
  have a:es.toList.any (·.refKey)=false:=by
   rw [List.any_eq_false];intro y hy;obtain⟨z,t,hkey⟩:=hk y (Array.mem_toList_iff.mp hy);simp [DictEntry.refKey,hkey]
  have a':¬es.toList.any (·.refKey)=true:=by rw [a];exact aa1
  rw [if_neg a'];exact congrArg some e
theorem sG.look{h:Heap}{x dx C:Addr}{mA:Str→Option Value}(I:sG h x dx C mA):∃od,PySem.W.InstAt h x (instObj C dx) C (some od)∧∀name,PySem.W.lookIn name od=some (mA name):=
 let ⟨od,ho,hl⟩:=vD I.ns
 ⟨od,⟨I.obj,rfl,rfl,ho⟩,hl⟩
section
variable {prog:Program} {w:World} {A:Around} {E:Value→Shared→Prop} {s:Shared} {K:Frag} {x dx C f:Addr} {mA:Str→Option Value} {name:Str} {v:Value}
theorem zq{expr:Bool}{Q:Value→Shared→Prop}(X:K.In s.heap)(I:sG s.heap x dx C mA)(hg:PySem.W.plainGet K C name=true)(hh:PySem.W.hasDictIn K C=true)
  (ha:findIn K (.ref C) name=some none) (hv:mA name=some v) (hv':PySem.W.handedIn v=true) (h:Q v { s with toks:=s.toks+1 }) :
  wpAny (model prog w) A (getAttr (.ref x) name expr) Q E s:=by
 obtain⟨od,J,hl⟩:=I.look;exact PySem.W.get_value X J (PySem.W.plainGet_of hg).1 (PySem.W.findObj_own hh ha rfl (by rw [hl,hv])) hv' h
theorem xq{pl:Sem Bool}{Q:Value×List Value→Shared→Prop}(X:K.In s.heap)(I:sG s.heap x dx C mA)(hg:PySem.W.plainGet K C name=true)
  (hf:findIn K (.ref C) name=some (some (.ref f))) (ht:isFn K (.ref f)=true) (hv:mA name=none) (h:Q (.ref f,[.ref x]) s) :
  wpAny (model prog w) A (getMethod (.ref x) name pl) Q E s:=by
 obtain⟨od,J,hl⟩:=I.look
 exact PySem.W.method_fn X J (PySem.W.plainGet_of hg).1 (PySem.W.plainGet_of hg).2 hf (beq_iff_eq.mp ht) (by show(PySem.W.lookIn name od).map (·.isSome)=some false;rw [hl,hv];rfl) h
theorem Af{ns:List Str}{Q:Unit→Shared→Prop}(X:K.In s.heap)(I:sG s.heap x dx C mA)
  (hs:findIn K (.ref C) "__setattr__"=some (some (.builtin "object.__setattr__"))) (hp:PySem.W.plainOver K C=true) (ht:PySem.W.takerIn K C name=some none) (hh:PySem.W.hasDictIn K C=true)
  (hw:PySem.Within mA ns) (hsz:ns.length≤sizeLine)
  (h:∀h',sG h' x dx C (fun y=>if y=name then some v else mA y)→Heap.SameBut dx s.heap h'→Q () { s with heap:=h',toks:=s.toks+2 }) :
  wpAny (model prog w) A (setAttr (.ref x) name v) Q E s:=by
 obtain⟨od,J,hl⟩:=I.look;refine PySem.W.set_plain X J hs (PySem.W.osa_open (s:={ s with toks:=s.toks+1 }) (r:=none) X J hp ht fun b=>?_);obtain⟨cd,hc,hd'⟩:=PySem.W.any_some hh;have hx:s.heap.get? x=some ⟨.ref C,some dx,.plain,#[]⟩:=I.obj;refine wpAny_bind (wpAny_pure (wpAny_bind (wpAny_bind (wpAny_loadPart hx (wpAny_bind (PySem.W.Looks.here (s:={ s with toks:=s.toks+1 }) (PySem.W.looks_clsIn X hc) ?_))))));rw [hd'];refine wpAny_pure (a:=some dx) (wpAny_bind (wpAny_pure (wpAny_bind ?_)));refine wpAny_nsSet1 (s:={ s with toks:=s.toks+1 }) I.ns fun h' hn2 hs2=>?_;obtain⟨oD,esD,epD,hoD,hdD,hcD⟩:=hn2.count (PySem.Within.cons name v hw);refine wpAny_bind (wpAny_lookBehind hoD (by rw [hdD];exact pastItsLine_dict (aa9 hcD (by rw [aa6];omega))) ?_);exact wpAny_pure (h _ ⟨(hs2.2 _ (Ne.symm I.ne)).trans I.obj,hn2,I.ne⟩ hs2)
theorem xK{R:Result→Shared→Prop}{vs:List Value}{kw:List (Str×Value)}(X:K.In s.heap)(hm:PySem.W.makesIn K C=true)
  (hi:findIn K (.ref C) "__init__"=some (some (.ref f))) (hf:PySem.W.typeIn K (.ref f)=some (.type "function"))
  (h:codeAny (model prog w) (A.under (.builtin "type.__call__" ⟨.ref C::vs,kw⟩)) (.call (.ref f) ⟨.ref (s.heap.objs.size+1)::vs,kw⟩) (PySem.W.InitBack (s.heap.objs.size+1) R)
   { s with heap:=(s.heap.push emptyDict).push (instObj C s.heap.objs.size) }) :
  codeAny (model prog w) A (.call (.ref C) ⟨vs,kw⟩) R s:=by
 obtain⟨hh,g,d,t,os⟩:=s;exact PySem.W.make_core (PySem.W.makes_of X hm) (PySem.W.looks_findIn X hi) (fun self=>PySem.W.bind_fn X self hf) (.inl rfl) h
end
def bp(f:Str)(v:V):List (Str×V)→List (Str×V)
 | []=>[(f,v)]
 | (g,x)::r=>if g=f then(g,v)::r else(g,x)::bp f v r
theorem fW(f g:Str)(v:V):∀fs:List (Str×V),(bp f v fs).lookup g=if g=f then some v else fs.lookup g
 | []=>by
  show List.lookup g [(f,v)]=_
  by_cases h:g=f
  ·have hb:(g == f)=true:=beq_iff_eq.mpr h
   simp only [List.lookup,hb,if_pos h]
  ·have hb:(g == f)=false:=beq_eq_false_iff_ne.mpr h
   simp only [List.lookup,hb,if_neg h]
 | (k,x)::r=>by
  have ih:=fW f g v r;rw [show bp f v ((k,x)::r)=(if k=f then(k,v)::r else(k,x)::bp f v r)from rfl]
  by_cases hk:k=f
  ·rw [if_pos hk]
   by_cases h:g=k
   ·have hb:(g == k)=true:=beq_iff_eq.mpr h
    simp only [List.lookup,hb,if_pos (h.trans hk)]
   ·have hb:(g == k)=false:=beq_eq_false_iff_ne.mpr h
    simp only [List.lookup,hb,if_neg (fun e:g=f=>h (e.trans hk.symm))]
  ·rw [if_neg hk]
   by_cases h:g=k
   ·have hb:(g == k)=true:=beq_iff_eq.mpr h
    simp only [List.lookup,hb,if_neg (fun e:g=f=>hk (h.symm.trans e))]
   ·have hb:(g == k)=false:=beq_eq_false_iff_ne.mpr h
    simp only [List.lookup,hb];exact ih
theorem jw(f:Str)(v:V):∀fs:List (Str×V),f∈(bp f v fs).map (·.1)∧∀g,g∈fs.map (·.1)→g∈(bp f v fs).map (·.1)
 | []=>⟨by simp [bp],fun g h=>by simp at h⟩
 | (k,x)::r=>by
  obtain⟨i1,i2⟩:=jw f v r;rw [show bp f v ((k,x)::r)=(if k=f then(k,v)::r else(k,x)::bp f v r)from rfl]
  by_cases hk:k=f
  ·rw [if_pos hk]
   subst hk;exact⟨by simp,fun g h=>by simpa using h⟩
  ·rw [if_neg hk]
   refine⟨?_,fun g h=>?_⟩
   ·rw [ac1]
    exact ac0 _ i1
   ·rw [ac1]at h ⊢
    rcases aa5.mp h with e | e
    ·exact aa5.mpr (.inl e)
    ·exact ac0 _ (i2 g e)
theorem bz(f:Str)(v:V):∀fs:List (Str×V),(bp f v fs).length≤fs.length+1
 | []=>by simp [bp]
 | (k,x)::r=>by
  have ih:=bz f v r;rw [show bp f v ((k,x)::r)=(if k=f then(k,v)::r else(k,x)::bp f v r)from rfl]
  by_cases hk:k=f
  ·rw [if_pos hk,aa6,aa6];omega
  ·rw [if_neg hk,aa6,aa6];omega
theorem jh.some_of{v:V}{o:Option Value}(r:jh (some v) o):∃u,o=some u∧aN v u:=by
 cases o with
 | none=>exact(show False from r).elim
 | some u=>exact⟨u,rfl,r⟩
theorem jh.none_of{o:Option Value}(r:jh none o):o=none:=by
 cases o with
 | none=>rfl
 | some u=>exact(show False from r).elim
theorem nQ{v:V}{u:Value}(r:aN v u):PySem.W.handedIn u=true:=by
 cases v with
 | non=>cases(show u=Value.none from r);rfl
 | bl b=>cases(show u=Value.bool b from r);rfl
 | int i=>obtain⟨t,e⟩:=(show ∃t,u=Value.int i t from r);cases e;rfl
 | str x=>obtain⟨t,e⟩:=(show ∃t,u=Value.str x t from r);cases e;rfl
 | byt b=>obtain⟨t,e⟩:=(show ∃t,u=Value.bytes b t from r);cases e;rfl
 | flt b=>obtain⟨t,e⟩:=(show ∃t,u=Value.float b t from r);cases e;rfl
 | ref a=>cases(show u=Value.ref a from r);rfl
 | ty n=>cases(show u=Value.type n from r);rfl
section
variable {P:Program} {w:World} {H H':Hp} {h h':Heap} {a C dx:Addr} {fs fs':List (Str×V)}
theorem kz(hok:iB P w H h)(e:H a=some (.ins C dx fs)):∃mA,sG h a dx C mA∧(∀f,jh (fs.lookup f) (mA f))∧PySem.Within mA (fs.map (·.1))∧fs.length≤1000∧H dx=some (.own a):=by
 obtain⟨d,z,ne,ob,mA,n,r,q⟩:=(show cb P w H h a (.ins C dx fs)from hok a _ e);exact⟨mA,⟨ob,n,ne⟩,r,q,z,d⟩
end
structure kg(K:Frag)(C:Addr):Prop where
 pg:PySem.W.plainGet K C Str.empty=true
 hd:PySem.W.hasDictIn K C=true
 po:PySem.W.plainOver K C=true
 sa:findIn K (.ref C) "__setattr__"=some (some (.builtin "object.__setattr__"))
theorem kg.get{K:Frag}{C:Addr}(c:kg K C)(f:Str):PySem.W.plainGet K C f=true:=c.pg
def NoAttr(K:Frag)(C:Addr)(f:Str):Prop:=findIn K (.ref C) f=some none
theorem NoAttr.taker{K:Frag}{C:Addr}{f:Str}(n:NoAttr K C f):PySem.W.takerIn K C f=some none:=by
 unfold PySem.W.takerIn;rw [show findIn K (.ref C) f=some none from n];rfl
structure AV(K:Frag)(C:Addr)(m:Str)(f:Addr):Prop where
 at_:findIn K (.ref C) m=some (some (.ref f))
 fn:isFn K (.ref f)=true
 kp:keepIn K (.ref f)=true
section
variable {X:Cx} {pins:List (Addr×Obj)} {σ:St} {H:Hp} {s:Shared} {a C dx:Addr} {fs:List (Str×V)} {f:Str} {v:V} {A:Around} {E:Value→Shared→Prop}
theorem sR{b:Bool}{Q:Value→Shared→Prop}(I:aH X pins σ H s)(e:H a=some (.ins C dx fs))(c:kg X.K C)(n:NoAttr X.K C f)(l:fs.lookup f=some v)
  (h:∀u s',aH X pins σ H s'→aN v u→Q u s'):wpAny (model X.prog X.w) A (getAttr (.ref a) f b) Q E s:=by
 obtain⟨mA,O,r,_,_,_⟩:=kz I.hok e;obtain⟨u,hu,ru⟩:=jh.some_of (v:=v) (o:=mA f) (by rw [←l];exact r f);exact zq I.kIn O (c.get f) c.hd n hu (nQ ru) (h u _ (I.tok _) ru)
theorem lA{m:Str}{g:Addr}{pl:Sem Bool}{Q:Value×List Value→Shared→Prop}(I:aH X pins σ H s)(e:H a=some (.ins C dx fs))(c:kg X.K C)(k:AV X.K C m g)(l:fs.lookup m=none)
  (h:Q (.ref g,[.ref a]) s):wpAny (model X.prog X.w) A (getMethod (.ref a) m pl) Q E s:=by
 obtain⟨mA,O,r,_,_,_⟩:=kz I.hok e;have hn:mA m=none:=jh.none_of (by rw [←l];exact r m);exact xq I.kIn O (c.get m) k.at_ k.fn hn h
theorem tQ{y:V}{u:Value}{Q:Unit→Shared→Prop}(I:aH X pins σ H s)(e:H a=some (.ins C dx fs))(c:kg X.K C)(n:NoAttr X.K C f)(hl:fs.length < 1000)(ry:aN y u)
  (h:∀s',aH X pins σ (upd H a (.ins C dx (bp f y fs))) s'→Q () s'):wpAny (model X.prog X.w) A (setAttr (.ref a) f u) Q E s:=by
 obtain⟨mA,O,r,wi,_,ho⟩:=kz I.hok e
 have hz:(fs.map (·.1)).length≤sizeLine:=by rw [aa0,sizeLine_eq];omega
 refine Af I.kIn O c.sa c.po n.taker c.hd wi hz fun h' O' sb=>h _ ?_
 have hd:∃o,h'.get? dx=some o:=let ⟨o,_,_,e',_⟩:=O'.ns;⟨o,e'⟩
 refine I.write (x:=a) (e:=dx) (by rw [e];exact True.intro) (.inr ho) (fun b q hb z=>(sb.2 b hb).trans z) hd ?_;refine⟨by rw [aj O.ne];exact ho,?_,O.ne,O'.obj,_,O'.ns,fun g=>?_,fun g hg=>?_⟩
 ·have:=bz f y fs;omega
 ·show jh ((bp f y fs).lookup g) (if g=f then some u else mA g)
  rw [fW]
  by_cases q:g=f
  ·rw [if_pos q,if_pos q];exact ry
  ·rw [if_neg q,if_neg q];exact r g
 ·by_cases q:g=f
  ·rw [q];exact(jw f y fs).1
  ·refine(jw f y fs).2 g (wi g fun z=>hg ?_)
   show(if g=f then some u else mA g)=none;rw [if_neg q];exact z
theorem aH.made(I:aH X pins σ H s):aH X pins σ (upd (upd H s.heap.objs.size (.own (s.heap.objs.size+1))) (s.heap.objs.size+1) (.ins C s.heap.objs.size []))
  { s with heap:=(s.heap.push emptyDict).push (instObj C s.heap.objs.size) }:=by
 have e1:(s.heap.push emptyDict).get? s.heap.objs.size=some emptyDict:=ab4 s.heap rfl
 have e2:((s.heap.push emptyDict).push (instObj C s.heap.objs.size)).get? (s.heap.objs.size+1)=some (instObj C s.heap.objs.size):=by
  have:=ab4 (s.heap.push emptyDict) (o:=instObj C s.heap.objs.size) rfl
  rwa [ah8]at this
 have e3:(s.heap.push emptyDict).Ns s.heap.objs.size (fun _=>none):=⟨emptyDict,#[],_,e1,rfl,(fun e he=>absurd he (by simp)),fun _=>rfl⟩;have I1:=I.laid (a:=s.heap.objs.size) (o:=.own (s.heap.objs.size+1)) (h':=s.heap.push emptyDict) (t':=s.toks) (fun b u q=>aa2 _ q) (aa7 _) ⟨_,e1⟩;refine I1.laid (a:=s.heap.objs.size+1) (o:=.ins C s.heap.objs.size []) (t':=s.toks) (fun b u q=>aa2 _ q) (Nat.le_of_eq (ah8 _ _)) ?_;have ne:s.heap.objs.size≠s.heap.objs.size+1:=ab7 (af4 _);refine⟨by rw [aj ne,ae],ab5 _,ne,e2,fun _=>none,(Heap.Ns1.of_empty e3).at fun o q=>aa2 _ q,fun _=>True.intro,fun y hy=>absurd rfl hy⟩
theorem uh{prog:Program}{w:World}{env:Env}{e:Expr}{f:Str}{pos:Pos}{s:Shared}{Q:Value→Shared→Prop}(hb:attributeBase e f env (eval e env)=eval e env)
  (h:wpAny (model prog w) A (eval e env) (fun o s₁=>wpAny (model prog w) A (getAttr o f true) Q E s₁) E s):wpAny (model prog w) A (eval (.Attribute e f pos) env) Q E s:=
 Attribute_any_ h (by rw [arm_eval_Attribute,hb])
end
def B7(K:Frag)(ta:TE)(f:Str):TE:=fun σ H Q=>ta σ H fun x H1=>∃a C dx fs v,x=.ref a∧H1 a=some (.ins C dx fs)∧kg K C∧NoAttr K C f∧fs.lookup f=some v∧Q v H1
def BZ(K:Frag)(ta tv:TE)(f:Str):TS:=fun D σ H=>tv σ H fun y H1=>ta σ H1 fun x H2=>∃a C dx fs,x=.ref a∧H2 a=some (.ins C dx fs)∧kg K C∧NoAttr K C f∧fs.length < 1000∧
 D.nx σ (upd H2 a (.ins C dx (bp f y fs)))
section
variable {X:Cx} {o e value:Expr} {f:Str} {pos pos' tpos:Pos} {ta tv:TE}
theorem gd(he:PE X e ta)(hb:attributeBase e f X.env (eval e X.env)=eval e X.env):PE X (.Attribute e f pos) (B7 X.K ta f):=by
 intro pins s σ H Q I h;refine uh hb (b6 (he pins s σ H _ I h) fun u s1 ⟨x,H1,I1,rx,a,C,dx,fs,v,ex,ea,c,n,l,q⟩=>?_);subst ex;obtain rfl:u=Value.ref a:=rx;exact sR I1 ea c n l fun u' s2 I2 ru=>⟨v,H1,I2,ru,q⟩
theorem bA(ha:PE X o ta)(hv:PE X value tv)(hs:swapsWith value (some (.Attribute o f pos')) pos.line X.env=pure false):PS X (.Assign [.Attribute o f pos'] value pos) (BZ X.K ta tv f):=by
 intro pins s σ H D I h;refine plainObj_wpAny_Assign_Attribute (b6 (hv pins s σ H _ I h) fun u s1 ⟨y,H1,I1,ry,q⟩=>b6 (ha pins s1 σ H1 _ I1 q) fun ov s2 ⟨x,H2,I2,rx,a,C,dx,fs,ex,ea,c,n,l,q2⟩=>?_) hs;subst ex;obtain rfl:ov=Value.ref a:=rx;exact tQ I2 ea c n l ry fun s3 I3=>⟨σ,_,I3,q2⟩
end
section
variable {X:Cx} {pins:List (Addr×Obj)} {σ:St} {H:Hp} {s:Shared} {A:Around} {E:Value→Shared→Prop} {Q:Value→Shared→Prop} {c:Value} {b:Bool}
inductive iG(K:Frag)(H:Hp):V→Value→Prop where
 | non:iG K H .non (.type "NoneType")
 | bl (x:Bool):iG K H (.bl x) (.type "bool")
 | int (i:Int):iG K H (.int i) (.type "int")
 | str (x:Str):iG K H (.str x) (.type "str")
 | flt (x:UInt64):iG K H (.flt x) (.type "float")
 | lst {a:Addr} {xs:List V} (e:H a=some (.lst xs)):iG K H (.ref a) (.type "list")
 | frz {a:Addr} {o:Obj} {xs:List V} (e:H a=some (.frz o (.lst xs))):iG K H (.ref a) (.type "list")
 | tup {a:Addr} {xs:List V} (e:H a=some (.tup xs)):iG K H (.ref a) (.type "tuple")
 | dK {a:Addr} {kvs:List (qF×V)} (e:H a=some (.dK kvs)):iG K H (.ref a) (.type "dict")
 | dT {a:Addr} {kvs:List (List qF×V)} (e:H a=some (.dT kvs)):iG K H (.ref a) (.type "dict")
 | ins {a C dx:Addr} {fs:List (Str×V)} (e:H a=some (.ins C dx fs)) (cl:kg K C) (ha:findIn K (.ref C) "__class__"=some (some (.builtin "object.__class__")))
   (hn:PySem.W.specialIn K (.builtin "object.__class__") "__get__"=some (some (.builtin "getset_descriptor.__get__"))) (htk:PySem.W.takesIn K (.builtin "object.__class__")=some true)
   (hm:mroIn K C (.type "object")=some true):iG K H (.ref a) (.ref C)
theorem vy{x:V}{u t:Value}(I:aH X pins σ H s)(rx:aN x u)(ty:iG X.K H x t)(e:kitOne X.K t c=some b)(h:∀tk,Q (.bool b) { s with toks:=tk }):
  wpAny (model X.prog X.w) A (call (.builtin "isinstance") [u,c]) Q E s:=by
 cases ty with
 | non=>cases(show u=Value.none from rx);exact kia_one PySem.W.kitx_none I.kIn True.intro e (fun z=>nomatch z) h
 | bl y=>cases(show u=Value.bool y from rx);exact kia_one PySem.W.kitx_bool I.kIn True.intro e (fun z=>nomatch z) h
 | int i=>obtain⟨t,q⟩:=(show ∃t,u=Value.int i t from rx);cases q;exact kia_one PySem.W.kitx_int I.kIn True.intro e (fun z=>nomatch z) h
 | str y=>obtain⟨t,q⟩:=(show ∃t,u=Value.str y t from rx);cases q;exact kia_one PySem.W.kitx_str I.kIn True.intro e (fun z=>nomatch z) h
 | flt y=>obtain⟨t,q⟩:=(show ∃t,u=Value.float y t from rx);cases q;exact kia_one PySem.W.kitx_float I.kIn True.intro e (fun z=>nomatch z) h
 | @lst a xs ea=>
  cases(show u=Value.ref a from rx);obtain⟨_,_,n,_,h1⟩:=(show cb X.prog X.w H s.heap a (.lst xs)from I.hok a _ ea);exact kia_one PySem.W.kitx_list I.kIn ⟨_,h1,rfl⟩ e (fun z=>nomatch z) h
 | @frz a ob xs ea=>
  cases(show u=Value.ref a from rx);obtain⟨_,_,_,n,_,h1⟩:=(show cb X.prog X.w H s.heap a (.frz ob (.lst xs))from I.hok a _ ea);exact kia_one PySem.W.kitx_list I.kIn ⟨_,h1,rfl⟩ e (fun z=>nomatch z) h
 | @tup a xs ea=>
  cases(show u=Value.ref a from rx);obtain⟨_,_,_,p⟩:=(show cb X.prog X.w H s.heap a (.tup xs)from I.hok a _ ea);obtain⟨o,h1,h2,_⟩:=p;exact kia_one PySem.W.kitx_tuple I.kIn ⟨o,h1,h2⟩ e (fun z=>nomatch z) h
 | @dK a kvs ea=>
  cases(show u=Value.ref a from rx);obtain⟨_,_,vs,_,p⟩:=(show cb X.prog X.w H s.heap a (.dK kvs)from I.hok a _ ea);obtain⟨o,es,ep,h1,h2,_⟩:=p;exact kia_one PySem.W.kitx_dict I.kIn ⟨o,h1,h2.1⟩ e (fun z=>nomatch z) h
 | @dT a kvs ea=>
  cases(show u=Value.ref a from rx);obtain⟨_,_,xs,_,o,es,ep,h1,h2,_⟩:=(show cb X.prog X.w H s.heap a (.dT kvs)from I.hok a _ ea);exact kia_one PySem.W.kitx_dict I.kIn ⟨o,h1,h2.1⟩ e (fun z=>nomatch z) h
 | @ins a C dx fs ea cl ha hn htk hm=>
  cases(show u=Value.ref a from rx);obtain⟨mA,O,_⟩:=kz I.hok ea;obtain⟨od,J,_⟩:=O.look;exact kia_one (PySem.W.kitx_own (cl.get _) cl.hd ha hn htk hm) I.kIn J e (fun z=>nomatch z) h
end
end L2
namespace L2
open PySem PySem.Spec PyProof.Rows
structure cD(k:Nat)(A:Around):Prop where
 hd:A.handled=none
 dp:A.depth+3 * k+5 < recursionLimit
 un:A.units+16 * k+200 < cLine
theorem cD.mono{j k:Nat}{A:Around}(r:cD k A)(h:j≤k):cD j A:=⟨r.hd,by have:=r.dp;omega,by have:=r.un;omega⟩
theorem cD.deeper{k:Nat}{A:Around}(r:cD (k+1) A)(env:Env):cD k (A.deeper env):=
 ⟨r.hd,by have:=r.dp;show A.depth+1+3 * k+5 < _;omega,by have:=r.un;show A.units+3+16 * k+200 < _;omega⟩
theorem sX{A:Around}{C:Addr}{us:List Value}{kw:List (Str×Value)}:(A.under (.builtin "type.__call__" ⟨.ref C::us,kw⟩)).depth=A.depth+1:=by
 first | rfl | simp [Around.under,Code.weight,Code.isCreation,Code.isGuard,Code.isCaller,Code.frames,Code.isFrame,guardIds]
theorem sY{A:Around}{C:Addr}{us:List Value}{kw:List (Str×Value)}:(A.under (.builtin "type.__call__" ⟨.ref C::us,kw⟩)).units=A.units+1:=by
 first | rfl | simp [Around.under,Code.cUnits,Code.frames,Code.isFrame]
theorem cD.make{k:Nat}{A:Around}(r:cD (k+1) A)(C:Addr)(us:List Value)(kw:List (Str×Value)):cD k (A.under (.builtin "type.__call__" ⟨.ref C::us,kw⟩)):=
 ⟨r.hd,by have:=r.dp;rw [sX];omega,by have:=r.un;rw [sY];omega⟩
theorem cD.depth{k:Nat}{A:Around}(r:cD k A):A.depth < recursionLimit:=by have:=r.dp;omega
theorem cD.units{k:Nat}{A:Around}(r:cD k A):A.units+64 < cLine:=by have:=r.un;omega
def su:TA:=fun _ H Q=>Q [] H
def mr(ta:TE)(tr:TA):TA:=fun σ H Q=>ta σ H fun x H1=>tr σ H1 fun xs H2=>Q (x::xs) H2
section
variable {X:Cx} {e:Expr} {es:List Expr} {te:TE} {t:TA} {pos:Pos}
theorem ag:PA X [] su:=fun _ _ _ _ H Q I h=>Calls.spliced_nil ⟨[],H,I,.nil,h⟩
theorem aa(ha:PE X e te)(hr:PA X es t)(hs:starEach (e::es) X.env=(false,eval e X.env)::starEach es X.env:=by rfl):PA X (e::es) (mr te t):=by
 intro pos pins s σ H Q I h;rw [hs];show wpAny _ _ (spliced ((false,eval e X.env)::backTo pos (starEach es X.env))) _ _ s;refine Calls.spliced_cons (b6 (ha pins s σ H _ I h) fun u s1 ⟨x,H1,I1,r1,q1⟩=>?_);exact b6 (hr pos pins s1 σ H1 _ I1 q1) fun us s2 ⟨xs,H2,I2,r2,q2⟩=>⟨x::xs,H2,I2,.cons r1 r2,q2⟩
def Ca(t:TA):TE:=fun σ H Q=>t σ H fun xs H1=>xs.length≤sizeLine∧∀p,H1 p=none→Q (.ref p) (upd H1 p (.tup xs))
def B8(t:TA):TE:=fun σ H Q=>t σ H fun xs H1=>xs.length≤sizeLine∧∀p,H1 p=none→Q (.ref p) (upd H1 p (.lst xs))
theorem ik{x1}(h:PA X es t):PE X (.Tuple es x1 pos) (Ca t):=by
 intro pins s σ H Q I hq;refine wpAny_Tuple_spliced (b6 (h pos pins s σ H _ I hq) fun us s1 ⟨xs,H1,I1,r,z,q⟩=>⟨by rw [←r.length];exact z,?_⟩);have hf:H1 s1.heap.objs.size=none:=I1.hok.fresh (aa7 _);refine⟨.ref s1.heap.objs.size,upd H1 s1.heap.objs.size (.tup xs),I1.laid (t':=s1.toks) (fun b u e=>aa2 _ e) (aa7 _) ?_,rfl,q _ hf⟩;exact⟨z,us,r,⟨_,ab4 _ rfl,rfl,_,rfl⟩⟩
theorem bN(h:PA X es t):PE X (.List es pos) (B8 t):=by
 intro pins s σ H Q I hq;refine wpAny_List_spliced (b6 (h pos pins s σ H _ I hq) fun us s1 ⟨xs,H1,I1,r,z,q⟩=>⟨by rw [←r.length];exact z,?_⟩);have hf:H1 s1.heap.objs.size=none:=I1.hok.fresh (aa7 _);refine⟨.ref s1.heap.objs.size,upd H1 s1.heap.objs.size (.lst xs),I1.laid (t':=s1.toks) (fun b u e=>aa2 _ e) (aa7 _) ?_,rfl,q _ hf⟩;exact⟨z,us,0,r,ab4 _ rfl⟩
end
abbrev Sp:=List V→Hp→VK→XK→Prop
abbrev qH:=List Env→Hp→Shared→XK→Value→Shared→Prop
structure sE(P:Program)(w:World)(K:Frag)(mg:Str→Option Value)(base:Heap)(A:Around)(outer:List Env)(s:Shared)(H:Hp):Prop where
 frames:A.frames=some outer
 mod:Mod K mg base
 bs:∀b o,base.get? b=some o→s.heap.get? b=some o∧H b=none
 bsz:base.objs.size≤s.heap.objs.size
 funs:s.heap.FunFrames base outer
 frf:∀b∈mz outer,H b=none
 hok:iB P w H s.heap
 bare:AllBare s.gens
def CE(outer:List Env)(P:Program)(w:World)(H:Hp)(s:Shared)(Q:VK)(u:Value)(s':Shared):Prop:=
 ∃v H',s'.os=s.os∧AllBare s'.gens∧Un (mz outer) [] H H' s.heap s'.heap∧iB P w H' s'.heap∧aN v u∧Q v H'
def CR(CX:qH)(outer:List Env)(P:Program)(w:World)(H:Hp)(s:Shared)(Q:VK)(E:XK)(r:Result)(s':Shared):Prop:=
 match r with
 | .ok (.ret u)=>CE outer P w H s Q u s'
 | .ok _=>False
 | .error e=>CX outer H s E e s'
structure az(P:Program)(w:World)(K:Frag)(mg:Str→Option Value)(base:Heap)(CX:qH)(k:Nat)(f:Addr)(fd:FuncData)(ps:List Str)(sp:Sp):Prop where
 len:∀vs H Q E,sp vs H Q E→vs.length=ps.length
 run:∀(A:Around) (outer:List Env) (s:Shared) (H:Hp) (args:Args) (us:List Value) (vs:List V) (Q:VK) (E:XK),cD k A→sE P w K mg base A outer s H→BindsTo s fd args (ps.zip us)→aR vs us→sp vs H Q E→
  codeAny (model P w) A (.call (.ref f) args) (CR CX outer P w H s Q E) s
theorem az.mono{P:Program}{w:World}{K:Frag}{mg:Str→Option Value}{base:Heap}{CX:qH}{j k:Nat}{f:Addr}{fd:FuncData}{ps:List Str}{sp:Sp}(F:az P w K mg base CX j f fd ps sp)(h:j≤k):
  az P w K mg base CX k f fd ps sp:=⟨F.len,fun A outer s H args us vs Q E hr=>F.run A outer s H args us vs Q E (hr.mono h)⟩
theorem az.imp{P:Program}{w:World}{K:Frag}{mg:Str→Option Value}{base:Heap}{CX:qH}{k:Nat}{f:Addr}{fd:FuncData}{ps:List Str}{sp sp':Sp}(F:az P w K mg base CX k f fd ps sp)
  (h:∀vs H Q E,sp' vs H Q E→sp vs H Q E):az P w K mg base CX k f fd ps sp':=
 ⟨fun vs H Q E q=>F.len vs H Q E (h _ _ _ _ q),fun A outer s H args us vs Q E hr he hb hv hs=>F.run A outer s H args us vs Q E hr he hb hv (h _ _ _ _ hs)⟩
theorem sE.make{P:Program}{w:World}{K:Frag}{mg:Str→Option Value}{base:Heap}{A:Around}{outer:List Env}{s:Shared}{H:Hp}(e:sE P w K mg base A outer s H)(C:Addr)(us:List Value)(kw:List (Str×Value)):
  sE P w K mg base (A.under (.builtin "type.__call__" ⟨.ref C::us,kw⟩)) outer s H:=⟨by first | exact e.frames | (simpa [Around.under,Code.envs,Code.isFrame,pushEnvs]using e.frames),e.mod,e.bs,e.bsz,e.funs,e.frf,e.hok,e.bare⟩
section
variable {X:Cx} {pins:List (Addr×Obj)} {σ:St} {H:Hp} {s s':Shared}
theorem aH.env0(I:aH X pins σ H s):sE X.prog X.w X.K X.mg X.base X.A X.stack s H:=
 ⟨I.ok.frames,I.ok.mod,I.bs,aa9 I.ok.bsz I.sz,I.stack,I.stkFree,I.hok,I.bare⟩
theorem aH.after{Q:VK}{u:Value}(I:aH X pins σ H s)(h:CE X.stack X.prog X.w H s Q u s'):EP X pins σ Q u s':=by
 obtain⟨v,H',os,bare,un,hok,r,q⟩:=h;obtain⟨hh,g,d,t,os'⟩:=s';obtain rfl:os'=s.os:=os;exact⟨v,H',I.call (h':=hh) (g':=g) (d':=d) (t':=t) (ch:=[]) un hok bare (fun b z=>absurd z (by simp)),r,q⟩
end
def mq(sp:Sp)(dvs:List V)(E:XK)(t:TA):TE:=fun σ H Q=>t σ H fun vs H1=>sp (vs++dvs) H1 Q E
def uZ(C:Addr)(sp:Sp)(dvs:List V)(E:XK)(t:TA):TE:=fun σ H Q=>t σ H fun vs H1=>∀x dx,H1 x=none→H1 dx=none→dx≠x→
 sp (.ref x::(vs++dvs)) (upd (upd H1 dx (.own x)) x (.ins C dx [])) (fun v H2=>v=.non∧Q (.ref x) H2) E
def cM(K:Frag)(fd:FuncData)(ps:List Str)(ds:List Value):Prop:=
 ∀(s:Shared) (us:List Value),K.In s.heap→(us++ds).length=ps.length→BindsTo s fd ⟨us,[]⟩ (ps.zip (us++ds))
theorem cM.all{K:Frag}{fd:FuncData}{ps:List Str}(h:∀us:List Value,us.length=ps.length→bindArgs fd ⟨us,[]⟩=pure (ps.zip us)):cM K fd ps []:=fun s us _ hl=>by
 rw [ae0]at hl ⊢;exact .of_eq (h us hl)
def g7(CX:qH)(X:Cx)(E:XK):Prop:=∀(pins:List (Addr×Obj)) (σ:St) (H:Hp) (s:Shared) (e:Value) (s':Shared),aH X pins σ H s→CX X.stack H s E e s'→X.xe e s'
section
variable {X:Cx} {CX:qH} {k:Nat} {f C:Addr} {fd:FuncData} {ps:List Str} {sp:Sp} {dvs:List V} {ds:List Value} {E:XK} {x m:Str} {p pos apos:Pos} {e o:Expr} {es:List Expr} {ta:TE} {t:TA}
theorem l4{pins:List (Addr×Obj)}{σ:St}{H:Hp}{s:Shared}{Q:VK}{us:List Value}{vs:List V}(F:az X.prog X.w X.K X.mg X.base CX k f fd ps sp)(hr:cD k X.A)(hb:cM X.K fd ps ds)(hd:aR dvs ds)(hx:g7 CX X E)
  (I:aH X pins σ H s) (r:aR vs us) (h:sp (vs++dvs) H Q E):wpAny (model X.prog X.w) X.A (call (.ref f) us) (EP X pins σ Q) X.xe s:=by
 have r2:aR (vs++dvs) (us++ds):=r.append hd
 have hl:(us++ds).length=ps.length:=by rw [←r2.length];exact F.len _ _ _ _ h
 refine wpAny_call (codeAny_mono (F.run X.A X.stack s H ⟨us,[]⟩ (us++ds) (vs++dvs) Q E hr I.env0 (hb s us I.kIn hl) r2 h) fun r s' hq=>?_)
 cases r with
 | error e=>exact hx pins σ H s e s' I hq
 | ok fl=>
  cases fl with
  | ret u=>exact I.after hq
  | next=>exact False.elim hq
  | brk=>exact False.elim hq
  | cont=>exact False.elim hq
theorem uI(F:az X.prog X.w X.K X.mg X.base CX k f fd ps sp)(hr:cD k X.A)(hg:Gl X x)(hm:X.mg x=some (.ref f))(hk:keepIn X.K (.ref f)=true)(hb:cM X.K fd ps ds)(hd:aR dvs ds)(hx:g7 CX X E)
  (ha:PA X (e::es) t) (hdb:(x == ("__debug__":Str))=false:=by decide) (he:starEach (e::es) X.env=(false,eval e X.env)::starEach es X.env:=by rfl) (hpl:(backTo pos (starEach es X.env)).any (·.1)=false:=by rfl) :
  PE X (.Call (.Name x p) (e::es) [] pos) (mq sp dvs E t):=by
 intro pins s σ H Q I h;refine wpAny_Call_Name_kw (gI I hg hm ?_ hdb);refine callWith_K (h₀:=X.base) I.ok.mod.kin hk (b6 (ha pos pins s σ H _ I h) fun us s1 ⟨vs,H1,I1,r,q⟩=>⟨I1.kIn,?_⟩) he hpl;exact l4 F hr hb hd hx I1 r q
structure Mk(K:Frag)(C f:Addr):Prop where
 makes:PySem.W.makesIn K C=true
 init:findIn K (.ref C) "__init__"=some (some (.ref f))
 fn:isFn K (.ref f)=true
 kp:keepIn K (.ref C)=true
theorem yq{pins:List (Addr×Obj)}{σ:St}{H:Hp}{s:Shared}{Q:VK}{us:List Value}{vs:List V}(M:Mk X.K C f)(F:az X.prog X.w X.K X.mg X.base CX k f fd ps sp)(hr:cD (k+1) X.A)(hb:cM X.K fd ps ds)(hd:aR dvs ds)
  (hx:g7 CX X E) (I:aH X pins σ H s) (r:aR vs us)
  (h:∀x dx,H x=none→H dx=none→dx≠x→sp (.ref x::(vs++dvs)) (upd (upd H dx (.own x)) x (.ins C dx [])) (fun v H2=>v=.non∧Q (.ref x) H2) E) :
  wpAny (model X.prog X.w) X.A (call (.ref C) us) (EP X pins σ Q) X.xe s:=by
 have hq:=h (s.heap.objs.size+1) s.heap.objs.size (I.hok.fresh (ak0 _)) (I.hok.fresh (aa7 _)) (ab7 (af4 _));have I2:=aH.made (C:=C) I;have r2:aR (V.ref (s.heap.objs.size+1)::(vs++dvs)) (Value.ref (s.heap.objs.size+1)::(us++ds)):=.cons rfl (r.append hd)
 have hl:(Value.ref (s.heap.objs.size+1)::us++ds).length=ps.length:=by
  have e:=r2.length;rw [F.len _ _ _ _ hq]at e;exact e.symm
 refine wpAny_call (xK (f:=f) I.kIn M.makes M.init (beq_iff_eq.mp M.fn) (codeAny_mono (F.run _ X.stack _ _ ⟨Value.ref (s.heap.objs.size+1)::us,[]⟩ (Value.ref (s.heap.objs.size+1)::(us++ds)) _ _ E (hr.make C us [])
  (I2.env0.make C us []) (hb _ (Value.ref (s.heap.objs.size+1)::us) I2.kIn hl) r2 hq) fun r s' hq'=>?_))
 cases r with
 | error e=>exact hx pins σ _ _ e s' I2 hq'
 | ok fl=>
  cases fl with
  | ret u=>
   obtain⟨v,H',I3,rv,ev,q3⟩:=I2.after hq';subst ev;exact⟨rv,⟨V.ref (s.heap.objs.size+1),H',I3,rfl,q3⟩⟩
  | next=>exact False.elim hq'
  | brk=>exact False.elim hq'
  | cont=>exact False.elim hq'
theorem zU(M:Mk X.K C f)(F:az X.prog X.w X.K X.mg X.base CX k f fd ps sp)(hr:cD (k+1) X.A)(hg:Gl X x)(hm:X.mg x=some (.ref C))(hb:cM X.K fd ps ds)(hd:aR dvs ds)(hx:g7 CX X E)
  (ha:PA X (e::es) t) (hdb:(x == ("__debug__":Str))=false:=by decide) (he:starEach (e::es) X.env=(false,eval e X.env)::starEach es X.env:=by rfl) (hpl:(backTo pos (starEach es X.env)).any (·.1)=false:=by rfl) :
  PE X (.Call (.Name x p) (e::es) [] pos) (uZ C sp dvs E t):=by
 intro pins s σ H Q I h;refine wpAny_Call_Name_kw (gI I hg hm ?_ hdb);refine callWith_K (h₀:=X.base) I.ok.mod.kin M.kp (b6 (ha pos pins s σ H _ I h) fun us s1 ⟨vs,H1,I1,r,q⟩=>⟨I1.kIn,?_⟩) he hpl;exact yq M F hr hb hd hx I1 r q
end
section
variable {X:Cx} {CX:qH} {k:Nat} {f C:Addr} {fd:FuncData} {ps ks:List Str} {sp:Sp} {E:XK} {x m:Str} {p pos apos kpos:Pos} {e o:Expr} {es:List Expr} {kws:List Keyword} {te ta:TE} {t tk:TA} {nm:Option Str}
variable {g:List Value→List Value→List Value} {gV:List V→List V→List V}
end
structure ay(N P:List Str)(sc:Scope):Prop where
 kind:sc.kind=.function
 co:sc.isCoroutine=false
 gen:sc.isGenerator=false
 nd:N.Nodup
 pre:N.take P.length=P
 par:∀x∈P,sc.names.lookup x=some .local∨sc.names.lookup x=some .cell
 nofree:∀y∈sc.names,y.2≠.free
theorem ng{kindOf:Str→Option NameKind}{x:Str}:∀{binds:List (Str×Value)} {m:Str→Option Value},(∀v,(x,v)∉binds)→bindL kindOf binds m x=m x
 | [],_,_=>rfl
 | (n,v)::r,m,h=>by
  unfold bindL;rw [ng fun w hw=>h w (ac0 _ hw)]
  split
  ·have:x≠n:=by rintro rfl;exact h v ab9
   simp [this]
  ·rfl
theorem m9{kindOf:Str→Option NameKind}{x:Str}:∀{binds:List (Str×Value)} {m:Str→Option Value},(∀v,(x,v)∉binds)→bindC kindOf binds m x=m x
 | [],_,_=>rfl
 | (n,v)::r,m,h=>by
  unfold bindC;rw [m9 fun w hw=>h w (ac0 _ hw)]
  split
  ·rfl
  ·have:x≠n:=by rintro rfl;exact h v ab9
   simp [this]
theorem nc{kindOf:Str→Option NameKind}{x:Str}{v:Value}:∀{P:List Str} {vs:List Value} {i:Nat} {m:Str→Option Value},P.Nodup→P[i]?=some x→vs[i]?=some v→kindOf x=some .local→
  bindL kindOf (P.zip vs) m x=some v
 | [],_,_,_,_,h,_,_=>by simp at h
 | _::_,[],_,_,_,_,h,_=>by simp at h
 | p::P,w::vs,0,m,nd,h1,h2,hk=>by
  simp at h1 h2;subst h1;subst h2;show bindL kindOf ((p,w)::P.zip vs) m p=_;unfold bindL;rw [ng fun v hv=>(ai9.mp nd).1 (al2 hv).1,if_pos hk];simp
 | p::P,w::vs,i+1,m,nd,h1,h2,hk=>by
  show bindL kindOf ((p,w)::P.zip vs) m x=_;unfold bindL;exact nc (i:=i) (ai9.mp nd).2 (by simpa using h1) (by simpa using h2) hk
theorem m8{kindOf:Str→Option NameKind}{x:Str}{v:Value}:∀{P:List Str} {vs:List Value} {i:Nat} {m:Str→Option Value},P.Nodup→P[i]?=some x→vs[i]?=some v→kindOf x≠some .local→
  bindC kindOf (P.zip vs) m x=some v
 | [],_,_,_,_,h,_,_=>by simp at h
 | _::_,[],_,_,_,_,h,_=>by simp at h
 | p::P,w::vs,0,m,nd,h1,h2,hk=>by
  simp at h1 h2;subst h1;subst h2;show bindC kindOf ((p,w)::P.zip vs) m p=_;unfold bindC;rw [m9 fun v hv=>(ai9.mp nd).1 (al2 hv).1,if_neg hk];simp
 | p::P,w::vs,i+1,m,nd,h1,h2,hk=>by
  show bindC kindOf ((p,w)::P.zip vs) m x=_;unfold bindC;exact m8 (i:=i) (ai9.mp nd).2 (by simpa using h1) (by simpa using h2) hk
def start(N:List Str)(vs:List V):St:=vs.map some++List.replicate (N.length - vs.length) none
def jm(CX:qH)(P:Program)(w:World)(K:Frag)(mg:Str→Option Value)(base:Heap)(N:List Str)(qual:Str)(scope:Scope)(f:Addr)(cd:Value)(A:Around)(outer:List Env)(s:Shared)(H:Hp)(E:XK):Cx where
 prog:=P
 w:=w
 K:=K
 mg:=mg
 base:=base
 A:=A.deeper (envOfC qual scope s.heap.objs.size f cd)
 N:=N
 s₀:=s
 H₀:=H
 env:=envOfC qual scope s.heap.objs.size f cd
 outer:=outer
 stack:=envOfC qual scope s.heap.objs.size f cd::outer
 ex:=[]
 calm:=true
 fn:=fun _=>true
 pn:=[]
 xe:=fun e s'=>wpAny (model P w) (A.deeper (envOfC qual scope s.heap.objs.size f cd)) (leaving (envOfC qual scope s.heap.objs.size f cd) e) (fun _ s''=>CX outer H s E e s'') (fun e' s''=>CX outer H s E e' s'') s'
theorem qN{sc:Scope}{n:Nat}{x:Str}(h:sc.names.lookup x=some .cell):∃c,(cellsFrom n sc.names []).lookup x=some c:=by
 have q:=PySem.W.cellsFrom_some sc.names n [] (.inl h);exact Option.isSome_iff_exists.mp q
theorem vw{CX:qH}{P:Program}{w:World}{K:Frag}{mg:Str→Option Value}{base:Heap}{N ps:List Str}{qual:Str}{scope:Scope}{f:Addr}{cd:Value}{A:Around}{outer:List Env}{s s1:Shared}{H:Hp}{E:XK}{us:List Value}{vs:List V}
  (S:ay N ps scope) (hd:A.handled=none) (e0:sE P w K mg base A outer s H) (hl:vs.length=ps.length) (r:aR vs us)
  (x:InCallC s s.heap.objs.size (bindL (envOfC qual scope s.heap.objs.size f cd).kindOf (ps.zip us) fun _=>none) (cellsFrom (s.heap.objs.size+1) scope.names []) (bindC (envOfC qual scope s.heap.objs.size f cd).kindOf (ps.zip us) fun _=>none) s1) :
  aH (jm CX P w K mg base N qual scope f cd A outer s H E) [] (start N vs) H s1:=by
 have hpl:ps.length≤N.length:=by have:=congrArg List.length S.pre;rw [ac5]at this;omega
 obtain⟨h1,tk,rfl,hk⟩:=x.done;have noA:∀b:Addr,b∉(jm CX P w K mg base N qual scope f cd A outer s H E).ex:=fun b z=>absurd (show b∈([]:List Addr)from z) (by simp)
 refine⟨⟨e0.mod,S.kind,rfl,rfl,aa7 _,fun y z c h1 h2=>?_,fun y hy=>?_,fun y c _ h=>?_,fun _=>hd,Around.frames_deeper e0.frames,.inr ⟨rfl,rfl⟩,fun b z=>absurd z (noA b),e0.bs,e0.bsz,fun b _ _=>noA b,fun b z=>absurd z (noA b),e0.funs,e0.frf⟩,
  rfl,e0.bare,Un.kept hk,⟨_,x.toInCall.ns,fun i y v h1 h2 h3=>?_⟩,fun y c h=>⟨_,x.cell y c h⟩,e0.hok.fresh (aa7 _),fun y c h=>?_,fun p hp=>absurd (show p∈([]:List (Addr×Obj))from hp) (by simp),e0.hok.kept hk,?_⟩
 ·exact name_of_addr x.apart (PySem.mem_of_lookup h1) (PySem.mem_of_lookup h2)
 ·have hy:scope.names.lookup y=some .cell∨scope.names.lookup y=some .free:=hy
  rcases hy with hy | hy
  ·exact qN hy
  ·exact absurd rfl (S.nofree _ (PySem.mem_of_lookup hy))
 ·exact ah6 (x.above y c (PySem.mem_of_lookup h))
 ·have hi:i < vs.length:=by
   unfold start at h2
   by_cases hi:i < vs.length
   ·exact hi
   ·rw [ad0 (by simpa using hi)]at h2
    rw [List.getElem?_replicate]at h2
    split at h2<;>cases h2
  have ha:vs[i]?=some v:=by
   unfold start at h2;rw [ad6 (by simpa using hi),ac2]at h2
   cases e:vs[i]? with
   | none=>rw [e]at h2;cases h2
   | some a=>rw [e]at h2;cases h2;rfl
  obtain⟨u,hu,rv⟩:=r.get ha
  have hp:ps[i]?=some y:=by
   rw [←S.pre,List.getElem?_take_of_lt (by omega)];exact h1
  have ndP:ps.Nodup:=by rw [←S.pre];exact S.nd.sublist (List.take_sublist _ _)
  refine⟨u,rv,?_⟩;rcases S.par y (ac7 hp)with k | k
  ·exact .inl ⟨k,nc ndP hp hu k⟩
  ·obtain⟨c,e⟩:=qN (n:=s.heap.objs.size+1) k
   refine .inr ⟨.inl k,c,e,?_⟩;have q:=x.cell y c e;rw [m8 ndP hp hu (by show scope.names.lookup y≠_;rw [k];decide)]at q;exact q
 ·exact e0.hok.fresh (ah6 (x.above y c (PySem.mem_of_lookup h)))
 ·unfold start
  show _=N.length;rw [ab2,aa0,List.length_replicate];omega
theorem xl{CX:qH}{P:Program}{w:World}{K:Frag}{mg:Str→Option Value}{base:Heap}{k:Nat}{f:Addr}{name qual:Str}{params:Arguments}{body:List Stmt}{scope:Scope}{dV kV doc pm cdv ct oc:Value}{an od:Option Addr}
  {osl:Array (Option Value)} {N ps:List Str} {sp:Sp} (lk:K.lookup f=some ⟨oc,od,.func (fnOf name qual params body scope dV kV doc pm an cdv ct),osl⟩) (hcd:codeIn K cdv qual=true) (S:ay N ps scope)
  (len:∀vs H Q E,sp vs H Q E→vs.length=ps.length)
  (hbody:∀(A:Around) (outer:List Env) (s:Shared) (H:Hp) (vs:List V) (Q:VK) (E:XK),cD k (A.deeper (envOfC qual scope s.heap.objs.size f cdv))→sp vs H Q E→
   ∃t,sC (jm CX P w K mg base N qual scope f cdv A outer s H E) body t∧t { nx:=fun _ H'=>Q .non H',rt:=Q } (start N vs) H) :
  az P w K mg base CX (k+1) f (fnOf name qual params body scope dV kV doc pm an cdv ct) ps sp:=by
 refine⟨len,fun A outer s H args us vs Q E hr e0 hb r hsp=>?_⟩;have hl:=len _ _ _ _ hsp;have KX:K.In s.heap:=e0.mod.kin.keeps fun b o e=>(e0.bs b o e).1;have lim:s.heap.NoLimit:=e0.mod.nolimit.keeps fun b o e=>(e0.bs b o e).1
 have hkind:∀y∈ps.zip us,scope.names.lookup y.1=some .local∨(scope.names.lookup y.1=some .cell∧((cellsFrom (s.heap.objs.size+1) scope.names []).lookup y.1).isSome=true):=fun⟨n,v⟩ hy=>by
  rcases S.par n (al2 hy).1 with q | q
  ·exact .inl q
  ·exact .inr ⟨q,PySem.W.cellsFrom_some _ _ _ (.inl q)⟩
 refine codeAny_call_function hr.depth (KX _ _ lk) rfl S.co S.gen rfl (PySem.W.codeRec_of KX hcd) (hb _ _ _ _ ?_);refine wpAny_newFunctionEnv_cells S.kind hkind fun env he s1 x=>?_;subst he;refine⟨lim.keeps x.toInCall.keep,codeAny_func ?_⟩;obtain⟨t,ht,hq⟩:=hbody A outer s H vs Q E (hr.deeper _) hsp;have I:aH (jm CX P w K mg base N qual scope f cdv A outer s H E) [] (start N vs) H s1:=vw S hr.hd e0 hl r x;refine wpAny_mono (ht [] s1 (start N vs) H _ I hq) (fun fl s' hs=>?_) fun e s' hs=>hs
 have fin:∀{σ':St} {H':Hp} {v:V} {u:Value},aH (jm CX P w K mg base N qual scope f cdv A outer s H E) [] σ' H' s'→aN v u→Q v H'→CE outer P w H s Q u s':=
  fun {σ' H' v u} J rv q=>⟨v,H',J.os,J.bare,J.base,J.hok,rv,q⟩
 cases fl with
 | ret u=>
  obtain⟨v,σ',H',J,rv,q⟩:=hs;exact fin J rv q
 | next=>
  obtain⟨σ',H',J,q⟩:=hs;exact fin (v:=V.non) (u:=Value.none) J rfl q
 | brk=>
  obtain⟨_,_,_,q⟩:=hs;exact False.elim q
 | cont=>
  obtain⟨_,_,_,q⟩:=hs;exact False.elim q
end L2
namespace L2
open PySem PySem.Spec PyProof.Rows
section
variable {X:Cx} {x:Str} {p pos:Pos} {e:Expr} {es:List Expr} {t:TA} {id T:String} {r:List V→Hp→VK→Prop}
def C8(r:List V→Hp→VK→Prop)(t:TA):TE:=fun σ H Q=>t σ H fun vs H1=>r vs H1 Q
theorem aw(hc:bT X (.builtin id) r)(hg:Gl X x)(hm:X.mg x=none)(hv:bootBuiltins x=some (.builtin id))(ha:PA X (e::es) t)(hn:x≠"__name__":=by decide)(hdb:(x == ("__debug__":Str))=false:=by decide)
  (he:starEach (e::es) X.env=(false,eval e X.env)::starEach es X.env:=by rfl) (hpl:(backTo pos (starEach es X.env)).any (·.1)=false:=by rfl):PE X (.Call (.Name x p) (e::es) [] pos) (C8 r t):=by
 intro pins s σ H Q I h;refine wpAny_Call_Name_kw (jx I hg hm hv ?_ hn hdb);exact PyProof.Rows.callWith_builtin1 (b6 (ha pos pins s σ H _ I h) fun us s1 ⟨vs,H1,I1,r1,q1⟩=>hc pins s1 σ H1 vs us Q I1 r1 q1) he hpl
theorem aQ(hc:bT X (.type T) r)(hg:Gl X x)(hm:X.mg x=none)(hv:bootBuiltins x=some (.type T))(ha:PA X (e::es) t)(hn:x≠"__name__":=by decide)(hdb:(x == ("__debug__":Str))=false:=by decide)
  (he:starEach (e::es) X.env=(false,eval e X.env)::starEach es X.env:=by rfl) (hpl:(backTo pos (starEach es X.env)).any (·.1)=false:=by rfl):PE X (.Call (.Name x p) (e::es) [] pos) (C8 r t):=by
 intro pins s σ H Q I h;refine wpAny_Call_Name_kw (jx I hg hm hv ?_ hn hdb);exact PyProof.Rows.callWith_type1 (b6 (ha pos pins s σ H _ I h) fun us s1 ⟨vs,H1,I1,r1,q1⟩=>hc pins s1 σ H1 vs us Q I1 r1 q1) he hpl
end
end L2
namespace HT
open PySem PyProof.Rows
section
open PySem.SeqAt
open PySem.AutoSeq1 (wpAny_loadPart')
open PySem.MeetsSeq PySem.MeetsSeq2 PySem.MeetsSeq3
end
section
variable {prog:Program} {w:World} {A:Around} {E:Value→Shared→Prop} {s:Shared}
theorem cat_tup{t b:Addr}{vs ws:List Value}{Q:Value→Shared→Prop}(ht:IsTup s.heap t vs.toArray)(hb:IsTup s.heap b ws.toArray)(hv:vs≠[])
  (h1:ws=[]→Q (.ref t) s) (h2:ws≠[]→Q (.ref s.heap.objs.size) { s with heap:=s.heap.push { cls:=.type "tuple",data:=.seq (vs++ws).toArray } })
  (hsz:vs.length+ws.length≤sizeLine):wpAny (model prog w) A (binaryOp .Add (.ref t) (.ref b)) Q E s:=by
 obtain⟨⟨cls,dd,data,sl⟩,ho,hc,n,hd⟩:=id ht;obtain⟨⟨cls2,dd2,data2,sl2⟩,ho2,hc2,n2,hd2⟩:=id hb;simp only at hc hd hc2 hd2;subst hc hd hc2 hd2
 have e:vs.toArray++ws.toArray=(vs++ws).toArray:=by simp
 by_cases hw:ws=[]
 ·exact concat_meets ⟨_,ho,rfl⟩ ⟨_,ho2,rfl⟩ noFill_tuple_add seq_tuple_add PySem.F.slot_tuple_add PySem.F.entry_tuple_add (PySem.F.args_tuple_add_2 _ _)
   (tuple_addW1 t b vs.toArray ws.toArray n n2 dd dd2 sl sl2 (by simpa using hv) (by simp [hw])) ⟨ho,ho2,h1 hw⟩
 ·refine concat_meets ⟨_,ho,rfl⟩ ⟨_,ho2,rfl⟩ noFill_tuple_add seq_tuple_add PySem.F.slot_tuple_add PySem.F.entry_tuple_add (PySem.F.args_tuple_add_2 _ _)
   (tuple_addW2 t b vs.toArray ws.toArray n n2 dd dd2 sl sl2 (by simpa using hv) (by simpa using hw) (by rw [aa3,aa3];exact hsz)) ⟨ho,ho2,?_⟩
  rw [e];exact h2 hw
def sIx(n d:Nat):Option Int→Nat
 | none=>d
 | some v=>if v < 0 then(v+(n:Int)).toNat else min v.toNat n
theorem sIx_none(n d:Nat):sIx n d none=d:=rfl
theorem sIx_nat(n d k:Nat):sIx n d (some (k:Int))=min k n:=by
 show(if (k:Int) < 0 then((k:Int)+(n:Int)).toNat else min (k:Int).toNat n)=min k n;rw [if_neg (by omega),ag8]
theorem B2(n d:Nat)(hd:d≤n)(o:Option Int):sIx n d o≤n:=by
 cases o with
 | none=>exact hd
 | some v=>
  show(if v < 0 then(v+(n:Int)).toNat else min v.toNat n)≤n
  by_cases hv:v < 0
  ·rw [if_pos hv];omega
  ·rw [if_neg hv];exact Nat.min_le_right _ _
theorem ui(v:Int)(n d:Nat):(if v < 0 then max (v+(n:Int)) 0 else min v (n:Int))=((sIx n d (some v):Nat):Int):=by
 show(if v < 0 then max (v+(n:Int)) 0 else min v (n:Int))=(((if v < 0 then(v+(n:Int)).toNat else min v.toNat n):Nat):Int)
 by_cases hv:v < 0
 ·simp only [if_pos hv];omega
 ·simp only [if_neg hv];omega
theorem sM(lo hi:Option Int)(n:Nat):Builtin.Slice.sliceAdjust lo hi 1 (n:Int)=(((sIx n 0 lo:Nat):Int),((sIx n n hi:Nat):Int)):=by
 have h1:¬((1:Int) < 0):=by omega
 unfold Builtin.Slice.sliceAdjust;simp only [h1,if_false];refine Prod.ext ?_ ?_
 ·cases lo with
  | none=>rfl
  | some v=>exact ui v n 0
 ·cases hi with
  | none=>rfl
  | some v=>exact ui v n n
theorem tJ(i j:Nat):Builtin.Slice.slicePlaces (i:Int) (j:Int) 1=j - i:=by
 unfold Builtin.Slice.slicePlaces
 have h1:(1:Int) > 0:=by omega
 simp only [h1,if_true,Int.ediv_one]
 split<;>omega
theorem md{v:Value}{o:Option Int}{Q:Option Int→Shared→Prop}(p:IsPart v o)(h:Q o s):wpAny (model prog w) A (Builtin.Slice.slicePartIndex v) Q E s:=by
 cases p with
 | none=>exact slicePart_none h
 | int i t=>exact slicePart_int h
theorem jL{sl:Addr}{vl vu:Value}{lo hi:Option Int}{n:Nat}{Q:Int×Int×Nat→Shared→Prop}(hs:s.heap.IsSliceOf sl vl vu .none)(pl:IsPart vl lo)(pu:IsPart vu hi)
  (h:Q (((sIx n 0 lo:Nat):Int),1,sIx n n hi - sIx n 0 lo) s):wpAny (model prog w) A (Builtin.Slice.sliceApplied (.ref sl) (pure (n:Int))) Q E s:=by
 obtain⟨os,hos,hcs,hds⟩:=id hs;unfold Builtin.Slice.sliceApplied Builtin.Slice.sliceFields;refine wpAny_bind (wpAny_bind (wpAny_field hos hds (x:=vl) rfl (wpAny_bind (wpAny_field hos hds (x:=vu) rfl (wpAny_bind (wpAny_field hos hds (x:=.none) rfl (wpAny_pure ?_)))))));refine wpAny_bind (slicePart_none ?_);show wpAny _ _ (if ((1:Int) == 0)=true then _ else _) _ _ s;rw [if_neg (by decide)];refine wpAny_bind (md pl (wpAny_bind (md pu (wpAny_bind (wpAny_pure ?_)))))
 show wpAny _ _ (match Builtin.Slice.sliceAdjust lo hi 1 (n:Int)with | (lo,hi)=>pure (lo,(1:Int),Builtin.Slice.slicePlaces lo hi 1)) _ _ s
 rw [sM lo hi n];show wpAny _ _ (pure (((sIx n 0 lo:Nat):Int),(1:Int),Builtin.Slice.slicePlaces ((sIx n 0 lo:Nat):Int) ((sIx n n hi:Nat):Int) 1)) _ _ s;rw [tJ];exact wpAny_pure h
theorem x6(xs:Array Value)(i k:Nat):((List.range k).filterMap fun(m:Nat)=>xs[((i:Int)+(m:Int) * 1).toNat]?).toArray=((xs.toList.drop i).take k).toArray:=by
 have e:(fun(m:Nat)=>xs[((i:Int)+(m:Int) * 1).toNat]?)=fun m=>xs[i+m]?:=by
  funext m
  have:((i:Int)+(m:Int) * 1).toNat=i+m:=by omega
  rw [this]
 rw [e]
 have:=pick_run xs i k
 rw [List.filterMap_map]at this;have e2:((fun x=>xs[x]?)∘fun x=>i+x)=fun m=>xs[i+m]?:=rfl;rw [e2]at this;rw [this]
theorem getItem_tuple_cut{t sl:Addr}{items:Array Value}{vl vu:Value}{lo hi:Option Int}{Q:Value→Shared→Prop}(ht:IsTup s.heap t items)(hs:s.heap.IsSliceOf sl vl vu .none)(pl:IsPart vl lo)(pu:IsPart vu hi)
  (hw:¬(sIx items.size 0 lo=0∧sIx items.size items.size hi=items.size))
  (h:Q (.ref s.heap.objs.size) { s with heap:=s.heap.push { cls:=.type "tuple",data:=.seq ((items.toList.drop (sIx items.size 0 lo)).take (sIx items.size items.size hi - sIx items.size 0 lo)).toArray } })
  (hsz:items.size≤sizeLine):wpAny (model prog w) A (getItem (.ref t) (.ref sl)) Q E s:=by
 have htake:sizeOk (.seq ((items.toList.drop (sIx items.size 0 lo)).take (sIx items.size items.size hi - sIx items.size 0 lo)).toArray):=by
  show((items.toList.drop (sIx items.size 0 lo)).take (sIx items.size items.size hi - sIx items.size 0 lo)).toArray.size≤sizeLine;rw [aa3,ac5,ae9,aj2];omega
 have hj:sIx items.size items.size hi≤items.size:=B2 _ _ (aa7 _) hi;obtain⟨os,hos,hcs,hds⟩:=id hs;have hTs:s.TypeIs (.ref sl) "slice":=⟨os,hos,hcs⟩;unfold getItem
 try with_reducible refine wpAny_holding ?_
 first | refine wpAny_bind (wpAny_pure ?_) | skip
 refine wpAny_bind (wpAny_sequenceKey ht.typeIs (by decide) ?_)
 refine wpAny_bind (wpAny_callSpecial?_slot (name:=Str.ofString "__getitem__") ht.typeIs PyProof.Rows.slot_tuple_getitem
  (wpAny_call_entry PyProof.Rows.slot_tuple_getitem ht.typeIs entry_tuple_getitem ?_ (args_tuple_getitem _ _)))
 show wpAny _ _ (Builtin.Tuple.tupleItemsOf (.ref t) >>= _) _ _ s;refine wpAny_bind (tupleItemsOf_ ht ?_);refine wpAny_bind (wpAny_typeOf hTs ?_);rw [if_pos (by decide)];refine wpAny_bind (jL hs pl pu ?_)
 have hno:¬((((sIx items.size 0 lo:Nat):Int) == 0 && (1:Int) == 1 && (sIx items.size items.size hi - sIx items.size 0 lo) == items.size)=true):=by
  intro q;rw [ac6,ac6]at q;have q1:((sIx items.size 0 lo:Nat):Int)=0:=eq_of_beq q.1.1;have q2:sIx items.size items.size hi - sIx items.size 0 lo=items.size:=eq_of_beq q.2;exact hw ⟨by omega,by omega⟩
 show wpAny _ _ (if (((sIx items.size 0 lo:Nat):Int) == 0 && (1:Int) == 1 && (sIx items.size items.size hi - sIx items.size 0 lo) == items.size)=true then _ else _) _ _ s;rw [if_neg hno,x6]
 first
  | exact wpAny_bind (m:=Builtin.Tuple.tupleExact _) (wpAny_newObj_type (wpAny_pure ⟨_,rfl,wpAny_pure h⟩) htake)
  | exact wpAny_bind (m:=Builtin.Tuple.tupleExact _) (wpAny_newObj_type (wpAny_bind (wpAny_pure (wpAny_pure ⟨_,rfl,wpAny_pure h⟩))) htake)
  | exact wpAny_bind (wpAny_bind (m:=Builtin.Tuple.tupleExact _) (wpAny_newObj_type (wpAny_pure (wpAny_pure ⟨_,rfl,wpAny_pure h⟩)) htake))
  | exact wpAny_bind (wpAny_bind (m:=Builtin.Tuple.tupleExact _) (wpAny_newObj_type (wpAny_pure ⟨_,rfl,wpAny_pure h⟩) htake))
end
end HT
namespace L2
open PySem PySem.Spec PyProof.Rows
abbrev TO:=St→Hp→(Option Int→Hp→Prop)→Prop
def PO(X:Cx)(e:Option Expr)(t:TO):Prop:=
 ∀(pins:List (Addr×Obj)) (s:Shared) (σ:St) (H:Hp) (Q:Option Int→Hp→Prop),aH X pins σ H s→t σ H Q→
  wpAny (model X.prog X.w) X.A (evalPart e X.env) (fun u s'=>∃o H',aH X pins σ H' s'∧IsPart u o∧Q o H') X.xe s
def kL:TO:=fun _ H Q=>Q none H
def sv(t:TE):TO:=fun σ H Q=>t σ H fun x H1=>∃i,x=.int i∧Q (some i) H1
section
variable {X:Cx} {e:Expr} {te:TE} {lo hi:Option Expr} {tl th:TO} {pos p2:Pos}
theorem aS:PO X none kL:=by
 intro pins s σ H Q I h;rw [evalPart_none];exact wpAny_pure ⟨none,H,I,.none,h⟩
theorem zV(h:PE X e te):PO X (some e) (sv te):=by
 intro pins s σ H Q I hw;rw [evalPart_some];refine b6 (h pins s σ H _ I hw) fun u s1 ⟨x,H1,I1,r1,q1⟩=>?_;obtain⟨i,rfl,q⟩:=q1;obtain⟨t,rfl⟩:=r1;exact⟨some i,H1,I1,.int i t,q⟩
def yO(X:Cx)(r:V→Option Int→Option Int→Hp→VK→Prop):Prop:=
 ∀(pins:List (Addr×Obj)) (s:Shared) (σ:St) (H:Hp) (x:V) (v vl vu:Value) (lo hi:Option Int) (sl:Addr) (Q:VK),aH X pins σ H s→aN x v→s.heap.IsSliceOf sl vl vu .none→IsPart vl lo→IsPart vu hi→r x lo hi H Q→
  ∃T id,typeLookup (.type T) "__getitem__"=pure (some (.builtin id))∧s.TypeIs v T∧wpAny (model X.prog X.w) X.A (getItem v (.ref sl)) (EP X pins σ Q) X.xe s
theorem yO.or{r r':V→Option Int→Option Int→Hp→VK→Prop}(h:yO X r)(h':yO X r'):yO X (fun x lo hi H Q=>r x lo hi H Q∨r' x lo hi H Q):=by
 intro pins s σ H x v vl vu lo hi sl Q I rx hs pl pu q;rcases q with q | q
 ·exact h pins s σ H x v vl vu lo hi sl Q I rx hs pl pu q
 ·exact h' pins s σ H x v vl vu lo hi sl Q I rx hs pl pu q
def Du(r:V→Option Int→Option Int→Hp→VK→Prop)(te:TE)(tl th:TO):TE:=fun σ H Q=>te σ H fun x H1=>tl σ H1 fun l H2=>th σ H2 fun u H3=>r x l u H3 Q
theorem aG{r:V→Option Int→Option Int→Hp→VK→Prop}(hr:yO X r)(he:PE X e te)(hl:PO X lo tl)(hu:PO X hi th):PE X (.Subscript e (.Slice lo hi none p2) pos) (Du r te tl th):=by
 intro pins s σ H Q I h;refine Subscript_ (b6 (he pins s σ H _ I h) fun v s1 ⟨x,H1,I1,r1,q1⟩=>?_);refine wpAny_Slice (b6 (hl pins s1 σ H1 _ I1 q1) fun vl s2 ⟨l,H2,I2,pl,q2⟩=>b6 (hu pins s2 σ H2 _ I2 q2) fun vu s3 ⟨u,H3,I3,pu,q3⟩=>?_);rw [evalPart_none];refine wpAny_pure ?_;have I4:aH X pins σ H3 { s3 with heap:=s3.heap.push { cls:=.type "slice",data:=.fields #[vl,vu,.none] } }:=I3.kept (t':=s3.toks) fun b ob q=>aa2 _ q;obtain⟨T,id,hT,ht,hg⟩:=hr pins { s3 with heap:=s3.heap.push { cls:=.type "slice",data:=.fields #[vl,vu,.none] } } σ H3 x v vl vu l u s3.heap.objs.size Q I4 r1 (Heap.IsSliceOf.new ..) pl pu q3;show wpAny (model X.prog X.w) X.A (subscriptTail e (.Slice lo hi none p2) v (.ref s3.heap.objs.size)) (EP X pins σ Q) X.xe { s3 with heap:=s3.heap.push { cls:=.type "slice",data:=.fields #[vl,vu,.none] } };exact tail_any (ops:=[.ref s3.heap.objs.size,v]) ht hT hg (by with_unfolding_all rfl)
def jl(xs:List V)(lo hi:Option Int):List V:=(xs.drop (HT.sIx xs.length 0 lo)).take (HT.sIx xs.length xs.length hi - HT.sIx xs.length 0 lo)
theorem jY(xs:List V)(lo hi:Option Int):(jl xs lo hi).length≤xs.length:=by
 unfold jl;rw [ac5,ae9];omega
def BS(K:Frag):V→Option Int→Option Int→Hp→VK→Prop:=fun x lo hi H Q=>∃a xs,x=.ref a∧dI K H a xs∧
 ¬(HT.sIx xs.length 0 lo=0∧HT.sIx xs.length xs.length hi=xs.length)∧∀p,H p=none→Q (.ref p) (upd H p (.tup (jl xs lo hi)))
theorem sl_tup:yO X (BS X.K):=by
 intro pins s σ H x v vl vu lo hi sl Q I rx hs pl pu h;obtain⟨a,xs,rfl,hx,hw,q⟩:=h;cases rx;obtain⟨its,r,ht,hz⟩:=I.tuple hx
 have hlen:its.toArray.size=xs.length:=by rw [aa3];exact r.length.symm
 refine⟨"tuple",_,PyProof.Rows.slot_tuple_getitem.lookup,ht.typeIs,?_⟩;refine HT.getItem_tuple_cut ht hs pl pu (by rw [hlen];exact hw) ?_ (by rw [hlen];exact hz);rw [hlen];refine⟨.ref s.heap.objs.size,_,I.laid (t':=s.toks) (o:=.tup (jl xs lo hi)) (fun b ob q=>aa2 _ q) (aa7 _) ?_,rfl,q _ (I.hok.fresh (aa7 _))⟩;exact⟨aa9 (jY xs lo hi) hz,_,(r.drop (HT.sIx xs.length 0 lo)).take (HT.sIx xs.length xs.length hi - HT.sIx xs.length 0 lo),IsTup.new _ _⟩
def uO(K:Frag):R2:=fun x y H Q=>∃a b xs ys,x=.ref a∧y=.ref b∧dI K H a xs∧dI K H b ys∧xs≠[]∧xs.length+ys.length≤sizeLine∧
 (ys=[]→Q (.ref a) H)∧(ys≠[]→∀p,H p=none→Q (.ref p) (upd H p (.tup (xs++ys))))
theorem aR.nil_iff{xs:List V}{us:List Value}(r:aR xs us):us=[]↔xs=[]:=by
 cases r with
 | nil=>simp
 | cons _ _=>simp
theorem zP:cQ X (binaryOp .Add) (uO X.K):=by
 intro pins s σ H x y v u Q I rx ry h;obtain⟨a,b,xs,ys,rfl,rfl,ha,hb,hx,hz,q1,q2⟩:=h;cases rx;cases ry;obtain⟨its,r1,p1,_⟩:=I.tuple ha;obtain⟨its2,r2,p2,_⟩:=I.tuple hb;refine HT.cat_tup p1 p2 (fun z=>hx (r1.nil_iff.mp z)) (fun z=>⟨.ref a,H,I,rfl,q1 (r2.nil_iff.mp z)⟩) (fun z=>?_) (by rw [←r1.length,←r2.length];exact hz);refine⟨.ref s.heap.objs.size,_,I.laid (t':=s.toks) (o:=.tup (xs++ys)) (fun b ob q=>aa2 _ q) (aa7 _) ?_,rfl,q2 (fun w=>z (r2.nil_iff.mpr w)) _ (I.hok.fresh (aa7 _))⟩;exact⟨by rw [ab2];exact hz,_,r1.append r2,IsTup.new _ _⟩
end
end L2
namespace L2
open PySem PySem.Spec PyProof.Rows
def yR(n:Nat)(i:Int):Option Nat:=if 0≤i then(if i < n then some i.toNat else none)else if -(n:Int)≤i then some (i+n).toNat else none
def eF{α:Type}(xs:List α)(i:Int):Option α:=(yR xs.length i).bind fun j=>xs[j]?
theorem uD{n:Nat}{i:Int}{j:Nat}(h:yR n i=some j):seqIndex? i n=some j∧j < n∧-(n:Int)≤i∧i < n:=by
 unfold yR at h
 by_cases h0:0≤i
 ·rw [if_pos h0]at h
  by_cases h1:i < n
  ·rw [if_pos h1]at h
   have e:i.toNat=j:=Option.some.inj h;exact⟨by rw [seqIndex_of h0 h1,e],by omega,by omega,h1⟩
  ·rw [if_neg h1]at h;cases h
 ·rw [if_neg h0]at h
  by_cases h1:-(n:Int)≤i
  ·rw [if_pos h1]at h
   have e:(i+n).toNat=j:=Option.some.inj h;exact⟨by rw [seqIndex_neg (by omega) h1,e],by omega,h1,by omega⟩
  ·rw [if_neg h1]at h;cases h
theorem oW{α:Type}{xs:List α}{i:Int}{v:α}(h:eF xs i=some v):∃j,seqIndex? i xs.length=some j∧xs[j]?=some v∧j < xs.length∧-(xs.length:Int)≤i∧i < xs.length:=by
 unfold eF at h
 cases e:yR xs.length i with
 | none=>rw [e]at h;cases h
 | some j=>
  rw [e]at h;obtain⟨h1,h2,h3,h4⟩:=uD e;exact⟨j,h1,h,h2,h3,h4⟩
theorem aW{α:Type}{xs:List α}{j:Nat}{v:α}(h:xs[j]?=some v):eF xs (j:Int)=some v:=by
 have hj:j < xs.length:=(aa4.mp h).1
 have e:yR xs.length (j:Int)=some j:=by
  unfold yR;rw [if_pos (by omega),if_pos (by omega)];simp
 unfold eF;rw [e];exact h
def ud(b:Expr):Prop:=∀o i,subscripted b false o i=operate [o,i] (getItem o i)
def wA(X:Cx)(r:R2):Prop:=
 ∀(value slice:Expr) (pins:List (Addr×Obj)) (s:Shared) (σ:St) (H:Hp) (x y:V) (v u:Value) (Q:VK),aH X pins σ H s→aN x v→aN y u→r x y H Q→
  subscripted slice false v u=operate [v,u] (getItem v u)→wpAny (model X.prog X.w) X.A (subscriptTail value slice v u) (EP X pins σ Q) X.xe s
def wj(X:Cx)(id:String)(r:V→List V→Hp→VK→Prop):Prop:=
 ∀(pins:List (Addr×Obj)) (s:Shared) (σ:St) (H:Hp) (x:V) (xs:List V) (v:Value) (us:List Value) (Q:VK),aH X pins σ H s→aN x v→aR xs us→r x xs H Q→
  wpAny (model X.prog X.w) X.A (call (.builtin id) (v::us)) (EP X pins σ Q) X.xe s
section
variable {X:Cx} {a b:Expr} {ta tb:TE} {pos:Pos}
theorem wA.or{r r':R2}(h:wA X r)(h':wA X r'):wA X (fun x y H Q=>r x y H Q∨r' x y H Q):=by
 intro value slice pins s σ H x y v u Q I rx ry q hs;rcases q with q | q
 ·exact h value slice pins s σ H x y v u Q I rx ry q hs
 ·exact h' value slice pins s σ H x y v u Q I rx ry q hs
theorem wj.or{id:String}{r r':V→List V→Hp→VK→Prop}(h:wj X id r)(h':wj X id r'):wj X id (fun x xs H Q=>r x xs H Q∨r' x xs H Q):=by
 intro pins s σ H x xs v us Q I rx rs q;rcases q with q | q
 ·exact h pins s σ H x xs v us Q I rx rs q
 ·exact h' pins s σ H x xs v us Q I rx rs q
theorem aO{r:R2}(hr:wA X r)(ha:PE X a ta)(hb:PE X b tb)(hs:ud b):PE X (.Subscript a b pos) (AR r ta tb):=by
 intro pins s σ H Q I h;exact Subscript_ (zd ha hb I h fun v u s2 x y H2 I2 rx ry q=>hr a b pins s2 σ H2 x y v u Q I2 rx ry q (hs _ _))
def BM(K:Frag):R2:=fun x y H Q=>∃p xs i v,x=.ref p∧y=.int i∧aV K H p xs∧eF xs i=some v∧Q v H
def BO(K:Frag):R2:=fun x y H Q=>∃p xs i v,x=.ref p∧y=.int i∧dI K H p xs∧eF xs i=some v∧Q v H
def BN:R2:=fun x y H Q=>∃z i c,x=.str z∧y=.int i∧z.length≤sizeLine∧eF z.cps.toList i=some c∧Q (.str ⟨#[c]⟩) H
theorem ix_list:wA X (BM X.K):=by
 intro value slice pins s σ H x y v u Q I rx ry h hs;obtain⟨p,xs,i,z,rfl,rfl,hq,he,q⟩:=h;cases rx;obtain⟨t,rfl⟩:=ry;obtain⟨its,r,pl,hz⟩:=I.list hq;obtain⟨j,h1,h2,h3,h4,h5⟩:=oW he;obtain⟨w,ew,rw'⟩:=r.get h2;have hl:=r.length;have hn:=ic;have fin:EP X pins σ Q w s:=⟨z,H,I,rw',q⟩
 by_cases h0:0≤i
 ·have hj:i.toNat=j:=by
   rw [seqIndex_of h0 h5]at h1;exact Option.some.inj h1
  exact item_listR pl.isList h0 (by omega) (by rw [hj];simpa using ew) fin hs
 ·have hj:(i+(its.toArray.size:Int)).toNat=j:=by
   rw [seqIndex_neg (by omega) h4]at h1;rw [aa3,←hl];exact Option.some.inj h1
  exact subscriptTail_builtinR (x:=w) pl.isList.typeIs slot_list_getitem.lookup
   (wpAny_getItem_list_neg (Q:=fun r s'=>r=w∧EP X pins σ Q r s') pl.isList (by omega) (by rw [aa3]<;>omega) (by omega) (by rw [hj];simpa using ew) ⟨rfl,fin⟩) hs
theorem ix_tup:wA X (BO X.K):=by
 intro value slice pins s σ H x y v u Q I rx ry h hs;obtain⟨p,xs,i,z,rfl,rfl,hq,he,q⟩:=h;cases rx;obtain⟨t,rfl⟩:=ry;obtain⟨its,r,pl,hz⟩:=I.tuple hq;obtain⟨j,h1,h2,h3,h4,h5⟩:=oW he;obtain⟨w,ew,rw'⟩:=r.get h2;have hl:=r.length;have hn:=ic;have fin:EP X pins σ Q w s:=⟨z,H,I,rw',q⟩
 exact subscriptTail_builtinR (x:=w) pl.typeIs slot_tuple_getitem.lookup
  (getItem_tuple (j:=j) (Q:=fun r s'=>r=w∧EP X pins σ Q r s') pl (by omega) (by omega) (by rw [aa3,←hl];exact h1) (by simpa using ew) ⟨rfl,fin⟩) hs
theorem Bc:wA X BN:=by
 intro value slice pins s σ H x y v u Q I rx ry h hs;obtain⟨z,i,c,rfl,rfl,hz,he,q⟩:=h;obtain⟨t,rfl⟩:=rx;obtain⟨t',rfl⟩:=ry;obtain⟨j,h1,h2,h3,h4,h5⟩:=oW he
 have hl:z.cps.toList.length=z.length:=by simp [Str.length]
 rw [hl]at h1 h4 h5;have hn:=ic
 exact tail_any (typeIs_str s z t) slot_str_getitem.lookup (getItem_str (c:=c) (by
  have e1:decide (i < -(2 ^ 63:Int))=false:=decide_eq_false (by omega);have e2:decide (i≥2 ^ 63)=false:=decide_eq_false (by omega)
  rw [e1,e2,Bool.or_false]) (by rw [h1];simpa using h2) ⟨.str ⟨#[c]⟩,H,I.tok _,⟨_,rfl⟩,q⟩) hs
def AO(K:Frag):R2:=fun x y H Q=>BM K x y H Q∨BO K x y H Q∨BN x y H Q
theorem Bb:wA X (AO X.K):=ix_list.or (ix_tup.or Bc)
theorem sZ(its:List Value)(n j:Nat)(u:Value):Obj.mapSeq (·.setIfInBounds j u) { cls:=.type "list",data:=.seq its.toArray n }={ cls:=.type "list",data:=.seq (its.set j u).toArray n }:=by
 simp [Obj.mapSeq]
theorem aH.lst{pins:List (Addr×Obj)}{σ:St}{H:Hp}{s:Shared}{p:Addr}{xs:List V}(I:aH X pins σ H s)(h:H p=some (.lst xs)):
  ∃(its:List Value) (n:Nat),aR xs its∧s.heap.get? p=some { cls:=.type "list",data:=.seq its.toArray n }∧xs.length≤sizeLine:=by
 obtain⟨z,its,n,r,e⟩:=I.hok p _ h;exact⟨its,n,r,e,z⟩
theorem aH.lstUpd{pins:List (Addr×Obj)}{σ:St}{H:Hp}{s:Shared}{p:Addr}{xs ys:List V}{its its':List Value}{n n':Nat}{f:Obj→Obj}(I:aH X pins σ H s)(h:H p=some (.lst xs))
  (ho:s.heap.get? p=some { cls:=.type "list",data:=.seq its.toArray n }) (hf:f { cls:=.type "list",data:=.seq its.toArray n }={ cls:=.type "list",data:=.seq its'.toArray n' }) (r:aR ys its') (hz:ys.length≤sizeLine) (t:Nat) :
  aH X pins σ (upd H p (.lst ys)) { s with heap:=s.heap.update p f,toks:=t }:=by
 have e:(s.heap.update p f).get? p=some { cls:=.type "list",data:=.seq its'.toArray n' }:=by
  rw [af8 f ho (by rw [hf]<;>rfl),hf]
 refine I.write (x:=p) (e:=p) (by rw [h];trivial) (.inl rfl) (fun b u hb q=>(ae6 _ _ (Ne.symm hb)).trans q) ⟨_,e⟩ ?_;exact⟨hz,its',n',r,e⟩
def ym:V→V→V→Hp→(Hp→Prop)→Prop:=fun o i v H Q=>∃p xs k j,o=.ref p∧i=.int k∧H p=some (.lst xs)∧yR xs.length k=some j∧Q (upd H p (.lst (xs.set j v)))
theorem yt:Ct X ym:=by
 intro pins s σ H o i v ov iv u Q I ro ri rv h;obtain⟨p,xs,k,j,rfl,rfl,hp,hj,q⟩:=h;cases ro;obtain⟨t,rfl⟩:=ri;obtain⟨its,n,r,ho,hz⟩:=I.lst hp;obtain⟨h1,h2,h3,h4⟩:=uD hj;have hl:=r.length;have hn:=ic
 have I':aH X pins σ (upd H p (.lst (xs.set j v))) { s with heap:=s.heap.update p (Obj.mapSeq (·.setIfInBounds j u)) }:=
  I.lstUpd hp ho (sZ its n j u) (r.set rv j) (by rw [List.length_set];exact hz) s.toks
 by_cases h0:0≤k
 ·have hk:k.toNat=j:=by
   rw [seqIndex_of h0 h4]at h1;exact Option.some.inj h1
  exact PySem.W.ki_setAt ho h0 (by omega) (by rw [aa3,←hl];exact h4) (by rw [hk];exact⟨_,I',q⟩)
 ·have hk:(k+(its.toArray.size:Int)).toNat=j:=by
   rw [seqIndex_neg (by omega) h3]at h1;rw [aa3,←hl];exact Option.some.inj h1
  exact PySem.W.ki_setBack ho (by omega) (by rw [aa3,←hl];exact h3) (by omega) (by rw [hk];exact⟨_,I',q⟩)
theorem qa(lo hi:Option Int)(n:Nat):(sliceBounds lo hi none n).1=((HT.sIx n 0 lo:Nat):Int)∧(sliceBounds lo hi none n).2.1=((HT.sIx n n hi:Nat):Int)∧(sliceBounds lo hi none n).2.2=1:=by
 refine⟨?_,?_,rfl⟩
 ·cases lo with
  | none=>simp [sliceBounds,HT.sIx]
  | some i=>
   simp only [sliceBounds,HT.sIx,Option.getD_none,show(1:Int) > 0 by decide,if_true]
   by_cases h:i < 0
   ·simp only [h,if_true]<;>omega
   ·simp only [h,if_false]<;>omega
 ·cases hi with
  | none=>simp [sliceBounds,HT.sIx]
  | some i=>
   simp only [sliceBounds,HT.sIx,Option.getD_none,show(1:Int) > 0 by decide,if_true]
   by_cases h:i < 0
   ·simp only [h,if_true]<;>omega
   ·simp only [h,if_false]<;>omega
theorem mW(its:List Value)(lo hi:Option Int):slicePick its.toArray lo hi none=((its.drop (HT.sIx its.length 0 lo)).take (HT.sIx its.length its.length hi - HT.sIx its.length 0 lo)).toArray:=by
 obtain⟨h1,h2,h3⟩:=qa lo hi its.toArray.size;unfold slicePick;rw [h1,h2,h3]
 simp only [sliceRange_one,pick_run,aa3]<;>rfl
def BQ(K:Frag):V→Option Int→Option Int→Hp→VK→Prop:=fun x lo hi H Q=>∃a xs,x=.ref a∧aV K H a xs∧∀p,H p=none→Q (.ref p) (upd H p (.lst (jl xs lo hi)))
theorem sl_list:yO X (BQ X.K):=by
 intro pins s σ H x v vl vu lo hi sl Q I rx hs pl pu h;obtain⟨a,xs,rfl,hx,q⟩:=h;cases rx;obtain⟨its,r,ht,hz⟩:=I.list hx;have hlen:=r.length;refine⟨"list",_,slot_list_getitem.lookup,ht.isList.typeIs,?_⟩
 refine wpAny_getItem_list_slice ht.isList hs pl pu .none (by simp) ?_ (by rw [aa3]<;>omega)
 rw [mW,←hlen];refine⟨.ref s.heap.objs.size,_,I.laid (t':=s.toks) (o:=.lst (jl xs lo hi)) (fun b ob q=>aa2 _ q) (aa7 _) ?_,rfl,q _ (I.hok.fresh (aa7 _))⟩;exact⟨aa9 (jY xs lo hi) hz,_,0,(r.drop (HT.sIx xs.length 0 lo)).take (HT.sIx xs.length xs.length hi - HT.sIx xs.length 0 lo),ab4 _ rfl⟩
def eI:V→Bool
 | .non=>true
 | .bl _=>true
 | .int _=>true
 | .str _=>true
 | _=>false
def yQ:V→V→Bool
 | .non,.non=>true
 | .bl a,.bl b=>a == b
 | .bl a,.int b=>(if a then 1 else 0) == b
 | .int a,.bl b=>a == (if b then 1 else 0)
 | .int a,.int b=>a == b
 | .str a,.str b=>a == b
 | _,_=>false
theorem xi{A:Around}{s:Shared}{y x:V}{u v:Value}(ry:aN y u)(rx:aN x v)(fy:eI y=true)(fx:eI x=true):SeqAt.EqAt A s u v (yQ y x):=by
 cases y with
 | non=>
  cases ry
  cases x with
  | non=>cases rx;exact SeqAt.EqAt.same _
  | bl b=>cases rx;exact SeqAt.EqAt.none_bool b
  | int b=>obtain⟨t,rfl⟩:=rx;exact SeqAt.EqAt.none_int b t
  | str b=>obtain⟨t,rfl⟩:=rx;exact SeqAt.EqAt.none_str b t
  | _=>exact absurd (show false=true from fx) aa1
 | bl a=>
  cases ry
  cases x with
  | non=>cases rx;exact SeqAt.EqAt.bool_none a
  | bl b=>cases rx;exact SeqAt.EqAt.bool_bool a b
  | int b=>obtain⟨t,rfl⟩:=rx;exact SeqAt.EqAt.bool_int a b t
  | str b=>obtain⟨t,rfl⟩:=rx;exact SeqAt.EqAt.bool_str a b t
  | _=>exact absurd (show false=true from fx) aa1
 | int a=>
  obtain⟨t',rfl⟩:=ry
  cases x with
  | non=>cases rx;exact SeqAt.EqAt.int_none a t'
  | bl b=>cases rx;exact SeqAt.EqAt.int_bool a t' b
  | int b=>obtain⟨t,rfl⟩:=rx;exact SeqAt.EqAt.int_int a t' b t
  | str b=>obtain⟨t,rfl⟩:=rx;exact SeqAt.EqAt.int_str a t' b t
  | _=>exact absurd (show false=true from fx) aa1
 | str a=>
  obtain⟨t',rfl⟩:=ry
  cases x with
  | non=>cases rx;exact SeqAt.EqAt.str_none a t'
  | bl b=>cases rx;exact SeqAt.EqAt.str_bool a t' b
  | int b=>obtain⟨t,rfl⟩:=rx;exact SeqAt.EqAt.str_int a t' b t
  | str b=>obtain⟨t,rfl⟩:=rx;exact SeqAt.EqAt.str_str a t' b t
  | _=>exact absurd (show false=true from fx) aa1
 | _=>exact absurd (show false=true from fy) aa1
def sP(x:V)(u:Value):Bool:=match u with
 | .none=>yQ .non x
 | .bool b=>yQ (.bl b) x
 | .int i _=>yQ (.int i) x
 | .str z _=>yQ (.str z) x
 | _=>false
theorem xj{x y:V}{u:Value}(r:aN y u)(f:eI y=true):sP x u=yQ y x:=by
 cases y with
 | non=>cases r;rfl
 | bl b=>cases r;rfl
 | int i=>obtain⟨t,rfl⟩:=r;rfl
 | str z=>obtain⟨t,rfl⟩:=r;rfl
 | _=>exact absurd (show false=true from f) aa1
theorem iH{x:V}:∀{xs:List V} {us:List Value},aR xs us→xs.all eI=true→us.any (sP x)=xs.any fun y=>yQ y x
 | _,_,.nil,_=>rfl
 | y::xs,u::us,.cons r t,f=>by
  rw [ae1,ac6]at f;rw [ak3,ak3,xj r f.1,iH t f.2]
theorem fY{A:Around}{s:Shared}{x:V}{v:Value}(rx:aN x v)(fx:eI x=true):∀{xs:List V} {us:List Value},aR xs us→xs.all eI=true→∀u∈us,SeqAt.EqAt A s u v (sP x u)
 | _,_,.nil,_=>fun u hu=>by cases hu
 | y::xs,u::us,.cons r t,f=>fun u' hu=>by
  rw [ae1,ac6]at f;rcases aa5.mp hu with rfl | hu
  ·rw [xj r f.1];exact xi r rx f.1 fx
  ·exact fY rx fx t f.2 u' hu
def CF(x:V)(xs:List V):Bool:=xs.any fun y=>yQ y x
def Cn(K:Frag)(neg:Bool):R2:=fun x y H Q=>∃p xs,y=.ref p∧(aV K H p xs∨dI K H p xs)∧eI x=true∧xs.all eI=true∧Q (.bl (if neg then !CF x xs else CF x xs)) H
theorem vR:cQ X (compareOp .In) (Cn X.K false):=by
 intro pins s σ H x y v u Q I rx ry h;obtain⟨p,xs,rfl,hq,fx,fs,q⟩:=h;cases ry;rcases hq with hq | hq
 ·obtain⟨its,r,pl,hz⟩:=I.list hq
  refine SeqAt.in_listAt (sP x) pl.isList (fun w hw=>fY rx fx r fs w (by simpa using hw)) ⟨.bl _,H,I,rfl,?_⟩;rw [show its.toArray.any (sP x)=its.any (sP x)by simp,iH r fs];exact q
 ·obtain⟨its,r,pl,hz⟩:=I.tuple hq
  refine SeqAt.in_tupleAt (sP x) pl (fun w hw=>fY rx fx r fs w (by simpa using hw)) ⟨.bl _,H,I,rfl,?_⟩;rw [show its.toArray.any (sP x)=its.any (sP x)by simp,iH r fs];exact q
theorem pL:cQ X (compareOp .NotIn) (Cn X.K true):=by
 intro pins s σ H x y v u Q I rx ry h;obtain⟨p,xs,rfl,hq,fx,fs,q⟩:=h;cases ry;rcases hq with hq | hq
 ·obtain⟨its,r,pl,hz⟩:=I.list hq
  refine SeqAt.notIn_listAt (sP x) pl.isList (fun w hw=>fY rx fx r fs w (by simpa using hw)) ⟨.bl _,H,I,rfl,?_⟩;rw [show its.toArray.any (sP x)=its.any (sP x)by simp,iH r fs];exact q
 ·obtain⟨its,r,pl,hz⟩:=I.tuple hq
  refine SeqAt.notIn_tupleAt (sP x) pl (fun w hw=>fY rx fx r fs w (by simpa using hw)) ⟨.bl _,H,I,rfl,?_⟩;rw [show its.toArray.any (sP x)=its.any (sP x)by simp,iH r fs];exact q
theorem o7:bT X (.builtin "len") (fun xs H Q=>∃p ys,xs=[.ref p]∧(aV X.K H p ys∨dI X.K H p ys)∧Q (.int ys.length) H):=by
 intro pins s σ H xs us Q I r h;obtain⟨p,ys,rfl,hq,q⟩:=h;obtain⟨u,rfl,rx⟩:=d2 r;cases rx;have hn:=ic;rcases hq with hq | hq
 ·obtain⟨its,r',pl,hz⟩:=I.list hq
  have hlen:=r'.length
  exact Calls.call_len_list pl.isList (by simp only [aa3]<;>omega) ⟨.int ys.length,H,I.tok _,⟨s.toks+1,by rw [aa3,hlen]⟩,q⟩
 ·obtain⟨its,r',pl,hz⟩:=I.tuple hq
  have hlen:=r'.length
  exact len_tuple pl (by simp only [aa3]<;>omega) ⟨.int ys.length,H,I.tok _,⟨s.toks+1,by rw [aa3,hlen]⟩,q⟩
theorem call_len_str:bT X (.builtin "len") (fun xs H Q=>∃z,xs=[.str z]∧z.length≤sizeLine∧Q (.int z.length) H):=by
 intro pins s σ H xs us Q I r h;obtain⟨z,rfl,hz,q⟩:=h;obtain⟨u,rfl,t,rfl⟩:=d2 r;have hn:=ic;exact len_str (by omega) ⟨.int z.length,H,I.tok _,⟨_,rfl⟩,q⟩
theorem bT.or{f:Value}{r r':List V→Hp→VK→Prop}(h:bT X f r)(h':bT X f r'):bT X f (fun xs H Q=>r xs H Q∨r' xs H Q):=by
 intro pins s σ H xs us Q I rs q;rcases q with q | q
 ·exact h pins s σ H xs us Q I rs q
 ·exact h' pins s σ H xs us Q I rs q
theorem o8:bT X (.type "list") (fun xs H Q=>∃p ys,xs=[.ref p]∧(aV X.K H p ys∨dI X.K H p ys)∧∀l,H l=none→Q (.ref l) (upd H l (.lst ys))):=by
 intro pins s σ H xs us Q I r h;obtain⟨p,ys,rfl,hq,q⟩:=h;obtain⟨u,rfl,rx⟩:=d2 r;cases rx
 have fin:∀(its:List Value),aR ys its→ys.length≤sizeLine→∀(h':Heap) (c':Nat),(∀b o',s.heap.get? b=some o'→h'.get? b=some o')→
   h'.get? s.heap.objs.size=some { cls:=.type "list",dict:=none,data:=.seq its.toArray c',slots:=#[] }→EP X pins σ Q (.ref s.heap.objs.size) { s with heap:=h' }:=fun its r' hz h' c' kp e=>
  ⟨.ref s.heap.objs.size,_,I.laid (t':=s.toks) kp (aa7 _) (show cb X.prog X.w _ h' _ (.lst ys)from⟨hz,its,c',r',e⟩),rfl,q _ (I.hok.fresh (aa7 _))⟩
 rcases hq with hq | hq
 ·obtain⟨its,r',pl,hz⟩:=I.list hq
  have hlen:=r'.length;obtain⟨o,ho,hc,n,hd⟩:=pl.isList
  exact call_list_seq p (.inl rfl) ho hc hd (fun h' c' kp e=>fin its r' hz h' c' kp e) (by simp only [aa3]<;>omega)
 ·obtain⟨its,r',pl,hz⟩:=I.tuple hq
  have hlen:=r'.length;obtain⟨o,ho,hc,n,hd⟩:=pl
  exact call_list_seq p (.inr rfl) ho hc hd (fun h' c' kp e=>fin its r' hz h' c' kp e) (by simp only [aa3]<;>omega)
def Ce(K:Frag)(T:String)(x:V)(H:Hp):Prop:=match x with
 | .str _=>T="str"
 | .int _=>T="int"
 | .ref p=>(T="list"∧∃xs,aV K H p xs)∨(T="tuple"∧∃o,K.lookup p=some o∧o.cls=.type "tuple"∧o.dict=none)∨
   (T="dict"∧((∃kvs,H p=some (.dK kvs))∨∃kvs,H p=some (.dT kvs)))∨(T="set"∧∃S n,H p=some (.set S n))
 | _=>False
theorem Cf{pins:List (Addr×Obj)}{σ:St}{H:Hp}{s:Shared}{T:String}{x:V}{v:Value}(I:aH X pins σ H s)(r:aN x v)(ty:Ce X.K T x H):
  s.TypeIs v T∧∀a,v=.ref a→∃ob,s.heap.get? a=some ob∧ob.dict=none:=by
 cases x with
 | str z=>
  obtain⟨t,rfl⟩:=r;cases(show T="str" from ty);exact⟨typeIs_str s z t,fun _ e=>nomatch e⟩
 | int i=>
  obtain⟨t,rfl⟩:=r;cases(show T="int" from ty);exact⟨typeIs_int s i t,fun _ e=>nomatch e⟩
 | ref p=>
  cases r;rcases ty with⟨rfl,xs,hq⟩ | ⟨rfl,o,hk,hc,hd⟩ | ⟨rfl,hk⟩ | ⟨rfl,S,n,hk⟩
  ·obtain⟨its,_,pl,_⟩:=I.list hq
   refine⟨pl.isList.typeIs,fun a e=>?_⟩;cases e;obtain⟨o,n,e,c,hd,_⟩:=pl;exact⟨o,e,hd⟩
  ·refine⟨⟨o,I.kIn p o hk,hc⟩,fun a e=>?_⟩
   cases e;exact⟨o,I.kIn _ o hk,hd⟩
  ·have z:∃o,s.heap.get? p=some o∧o.ExactDict:=by
    rcases hk with⟨kvs,hk⟩ | ⟨kvs,hk⟩
    ·obtain⟨_,_,_,_,o,_,_,e,ex,_⟩:=I.hok p _ hk
     exact⟨o,e,ex⟩
    ·obtain⟨_,_,_,_,o,_,_,e,ex,_⟩:=I.hok p _ hk
     exact⟨o,e,ex⟩
   obtain⟨o,e,ex⟩:=z;refine⟨⟨o,e,ex.1⟩,fun a e2=>?_⟩;cases e2;exact⟨o,e,ex.2.1⟩
  ·obtain⟨o,_,_,_,e,ex,_⟩:=I.hok p _ hk
   refine⟨⟨o,e,ex.1⟩,fun a e2=>?_⟩;cases e2;exact⟨o,e,ex.2.1⟩
 | _=>exact False.elim ty
def C7(K:Frag)(T:String)(r:V→List V→Hp→VK→Prop)(to:TE):TE:=fun σ H Q=>to σ H fun x H1=>Ce K T x H1∧r x [] H1 Q
def Dr(K:Frag)(T:String)(r:V→List V→Hp→VK→Prop)(to:TE)(t:TA):TE:=fun σ H Q=>to σ H fun x H1=>Ce K T x H1∧t σ H1 fun xs H2=>r x xs H2 Q
variable {o e:Expr} {es:List Expr} {to:TE} {t:TA} {name:Str} {apos cpos:Pos} {T id:String} {r:V→List V→Hp→VK→Prop}
theorem CW(pa:PlainAttrs T)(slot:Slot T name id)(hty:typeOf (.builtin id)=pure (.type "method_descriptor"))(hm:wj X id r)(ho:PE X o to)(ha:PA X (e::es) t)
  (hbase:attributeBase o name X.env (eval o X.env)=eval o X.env:=by rfl)
  (hfew:((backTo cpos (starEach (e::es) X.env)).all (fun x=>!x.1) && (backToKw cpos (keywordEach [] X.env)).all (fun x=>x.1.isSome)
   && decide ((e::es).length+([]:List Keyword).length+(if ([]:List Keyword).isEmpty then 0 else 1) < 30))=true:=by rfl)
  (hline:(apos.endLine == cpos.line)=true:=by rfl) (hs:starEach (e::es) X.env=(false,eval e X.env)::starEach es X.env:=by rfl) (hplain:(backTo cpos (starEach es X.env)).any (·.1)=false:=by rfl) :
  PE X (.Call (.Attribute o name apos) (e::es) [] cpos) (Dr X.K T r to t):=by
 intro pins s σ H Q I h;refine wpAny_Call_method_late hbase hfew hline rfl (b6 (ho pins s σ H _ I h) fun v s1 ⟨x,H1,I1,r1,ty,q1⟩=>?_);obtain⟨h1,h2⟩:=Cf I1 r1 ty;refine⟨T,id,pa,slot,hty,h1,h2,?_⟩;have hA:=ha cpos pins s1 σ H1 _ I1 q1;rw [hs]at hA ⊢
 refine Calls.callWith_builtin (by show(false || (backTo cpos (starEach es X.env)).any (·.1))=false;rw [hplain]<;>rfl) (Calls.evalArgs_plain ?_)
 exact b6 hA fun us s2 ⟨vs,H2,I2,r2,q2⟩=>hm pins s2 σ H2 x vs v us Q I2 r1 r2 q2
end
end L2
namespace L2
open PySem PySem.Spec PyProof.Rows
def DB(X:Cx)(id:String)(r:V→List V→Hp→VK→Prop):Prop:=
 ∀(pins:List (Addr×Obj)) (s:Shared) (σ:St) (H:Hp) (x:V) (xs:List V) (v:Value) (us:List Value) (Q:VK),aH X pins σ H s→aN x v→aR xs us→r x xs H Q→
  wpAny (model X.prog X.w) X.A (call (.builtin id) (v::us)) (EP X pins σ Q) X.xe s
theorem aR.one:∀{x:V} {us:List Value},aR [x] us→∃u,us=[u]∧aN x u
 | _,_,.cons r .nil=>⟨_,rfl,r⟩
theorem aR.zero:∀{us:List Value},aR [] us→us=[]
 | _,.nil=>rfl
theorem aR.rep{xs:List V}{us:List Value}(h:aR xs us):∀k:Nat,aR (List.replicate k xs).flatten (List.replicate k us).flatten
 | 0=>.nil
 | k+1=>by
  rw [ad8,ad8,ag9,ag9];exact aR.append h (aR.rep h k)
theorem jo(its:List Value):∀(k:Nat) (acc:List Value),
  List.foldl (fun x1 x2=>x1++x2) acc.toArray (List.replicate k its.toArray)=(acc++(List.replicate k its).flatten).toArray
 | 0,acc=>by simp
 | k+1,acc=>by
  have e:acc.toArray++its.toArray=(acc++its).toArray:=by simp
  have e2:(acc++its)++(List.replicate k its).flatten=acc++(List.replicate (k+1) its).flatten:=by
   rw [ad8,ag9,ae2]
  rw [←e2,←jo its k (acc++its),←e,ad8,ag0]
section
variable {X:Cx} {pins:List (Addr×Obj)} {σ:St} {H:Hp} {s:Shared} {l b:Addr} {xs ys zs:List V}
theorem aH.lset{its its':List Value}{n:Nat}{f:Array Value→Array Value}{t':Nat}(I:aH X pins σ H s)(hH:H l=some (.lst xs))
  (e:s.heap.get? l=some { cls:=.type "list",data:=.seq its.toArray n }) (hf:f its.toArray=its'.toArray) (hv:aR ys its') (hz:ys.length≤sizeLine) :
  aH X pins σ (upd H l (.lst ys)) { s with heap:=s.heap.update l (Obj.mapSeq f),toks:=t' }:=by
 have q:=PySem.IsL.update e f;rw [hf]at q;refine I.write (x:=l) (e:=l) (by rw [hH];exact trivial) (.inl rfl) (fun b' u hb hu=>(ae6 s.heap (Obj.mapSeq f) (Ne.symm hb)).trans hu) ⟨_,q⟩ ?_;exact⟨hz,its',_,hv,q⟩
theorem aH.lnew{its:List Value}{t':Nat}(I:aH X pins σ H s)(hv:aR ys its)(hz:ys.length≤sizeLine):
  aH X pins σ (upd H s.heap.objs.size (.lst ys)) { s with heap:=s.heap.push { cls:=.type "list",data:=.seq its.toArray },toks:=t' }:=
 I.laid (fun _ _ q=>aa2 _ q) (aa7 _) ⟨hz,its,0,hv,ab4 _ rfl⟩
theorem aH.fresh(I:aH X pins σ H s):H s.heap.objs.size=none:=I.hok.fresh (aa7 _)
theorem aH.lstM(I:aH X pins σ H s)(hH:H l=some (.lst xs)):xs.length≤sizeLine∧∃(its:List Value) (n:Nat),aR xs its∧xs.length=its.length∧s.heap.get? l=some { cls:=.type "list",data:=.seq its.toArray n }:=by
 obtain⟨z,its,n,r,e⟩:=I.hok l _ hH;exact⟨z,its,n,r,r.length,e⟩
theorem rC{n:Nat}(h:n≤sizeLine):Builtin.List.listTooLong n=false:=by
 unfold Builtin.List.listTooLong;exact decide_eq_false (by omega)
end
section
variable {X:Cx}
def pS:V→List V→Hp→VK→Prop:=fun x vs H Q=>∃l xs y,x=.ref l∧vs=[y]∧H l=some (.lst xs)∧xs.length < sizeLine∧Q .non (upd H l (.lst (xs++[y])))
theorem eZ:DB X "list.append" pS:=by
 intro pins s σ H x vs v us Q I rx rv h;obtain⟨l,xs,y,rfl,rfl,hH,hz,q⟩:=h;cases rx;obtain⟨u,rfl,ru⟩:=rv.one;obtain⟨z,its,n,r,hl,e⟩:=I.lstM hH;refine call_meets F.slot_list_append ⟨_,e,rfl⟩ F.entry_list_append (F.args_list_append_2 _ _) (PySem.list_append l its.toArray n u (by rw [aa3];omega)) ⟨e,?_⟩;refine⟨.non,_,I.lset (its':=its++[u]) hH e (by simp) (r.append (.cons ru .nil)) ?_,rfl,q⟩;rw [ab2,List.length_singleton];omega
def z5:V→List V→Hp→VK→Prop:=fun x vs H Q=>∃l b xs zs,x=.ref l∧vs=[.ref b]∧H l=some (.lst xs)∧H b=some (.lst zs)∧xs.length+zs.length≤sizeLine∧Q .non (upd H l (.lst (xs++zs)))
theorem vH:DB X "list.extend" z5:=by
 intro pins s σ H x vs v us Q I rx rv h;obtain⟨l,b,xs,zs,rfl,rfl,hH,hB,hz,q⟩:=h;cases rx;obtain⟨u,rfl,ru⟩:=rv.one;cases ru;obtain⟨z,its,n,r,hl,e⟩:=I.lstM hH;obtain⟨z2,its2,n2,r2,hl2,e2⟩:=I.lstM hB
 have hsz:its.toArray.size+its2.toArray.size≤sizeLine:=by rw [aa3,aa3];omega
 have hlong:¬(!its.toArray.isEmpty && Builtin.List.listTooLong (its.toArray.size+its2.toArray.size))=true:=by
  rw [rC hsz,Bool.and_false];exact aa1
 refine call_meets F.slot_list_extend ⟨_,e,rfl⟩ F.entry_list_extend (F.args_list_extend_2 _ _)
  (AutoSeq1.list_extend_list_list_0 l its.toArray n b its2.toArray n2 hlong (by rw [aa3];omega) (by omega)) ⟨e,e2,?_⟩
 refine⟨.non,_,I.lset (its':=its++its2) hH e (by simp) (r.append r2) ?_,rfl,q⟩;rw [ab2];omega
def zY:R2:=fun x y H Q=>∃l b xs zs,x=.ref l∧y=.ref b∧H l=some (.lst xs)∧H b=some (.lst zs)∧xs.length+zs.length≤sizeLine∧∀p,H p=none→Q (.ref p) (upd H p (.lst (xs++zs)))
theorem op_cat:cQ X (binaryOp .Add) zY:=by
 intro pins s σ H x y v u Q I rx ry h;obtain⟨l,b,xs,zs,rfl,rfl,hH,hB,hz,q⟩:=h;cases rx;cases ry;obtain⟨z,its,n,r,hl,e⟩:=I.lstM hH;obtain⟨z2,its2,n2,r2,hl2,e2⟩:=I.lstM hB;refine PySem.P.add_list e e2 ?_ (by rw [aa3,aa3];omega)
 have ea:its.toArray++its2.toArray=(its++its2).toArray:=by simp
 rw [ea];exact⟨.ref _,_,I.lnew (t':=s.toks) (r.append r2) (by rw [ab2];omega),rfl,q _ I.fresh⟩
def Ac:R2:=fun x y H Q=>∃l k xs,x=.ref l∧y=.int k∧H l=some (.lst xs)∧-(2 ^ 63)≤k∧k < 2 ^ 63∧xs.length * k.toNat≤sizeLine∧
 ∀p,H p=none→Q (.ref p) (upd H p (.lst (List.replicate k.toNat xs).flatten))
theorem pe{α:Type}(xs:List α)(k:Nat):(List.replicate k xs).flatten.length=k * xs.length:=by
 induction k with
 | zero=>simp
 | succ k ih=>rw [ad8,ag9,ab2,ih,aj4,Nat.add_comm]
theorem Bz:cQ X (binaryOp .Mult) Ac:=by
 intro pins s σ H x y v u Q I rx ry h;obtain⟨l,k,xs,rfl,rfl,hH,h1,h2,hz,q⟩:=h;cases rx;obtain⟨t,rfl⟩:=ry;obtain⟨z,its,n,r,hl,e⟩:=I.lstM hH
 have hlen:its.toArray.size * k.toNat≤sizeLine:=by rw [aa3,←hl];exact hz
 have hcap:¬its.toArray.size * k.toNat > (2 ^ 63 - 1) / 8:=by
  have:(sizeLine:Nat)≤(2 ^ 63 - 1) / 8:=by decide
  omega
 have hfit:¬(!Builtin.List.listFitsIndex k)=true:=by
  rw [fitsIndex_both h1 h2];exact aa1
 have hlong:¬Builtin.List.listTooLong (its.toArray.size * k.toNat)=true:=by
  rw [rC hlen];exact aa1
 have hnew:List.foldl (fun x1 x2=>x1++x2) #[] (List.replicate (if its.toArray.isEmpty=true then 0 else k.toNat) its.toArray)=(List.replicate k.toNat its).flatten.toArray:=by
  have f0:∀m:Nat,List.foldl (fun x1 x2=>x1++x2) #[] (List.replicate m its.toArray)=(List.replicate m its).flatten.toArray:=fun m=>by
   have:=jo its m []
   rw [List.nil_append]at this;exact this
  rw [f0]
  cases its with
  | nil=>simp
  | cons a r'=>rw [if_neg (by simp)]
 refine wpAny_binaryOp_repeat_ref (T:="list") (U:="int") (by decide) ⟨_,e,rfl⟩ (fun s'=>typeIs_int s' k t) noFill_list_mul F.fills_int_mul F.slot_int_rmul repeat_list F.slot_int_index.lookup
  (call_meets F.slot_int_rmul (typeIs_int s k t) F.entry_int_rmul (F.args_int_rmul_2 _ _) (int___rmul___int_list k t l its.toArray n)
   ⟨e,rfl,⟨_,e,rfl⟩,call_meets F.slot_list_mul ⟨_,e,rfl⟩ F.entry_list_mul (F.args_list_mul_2 _ _) (AutoListH.list___mul___list_int_3 l its.toArray n k t hfit hcap hlong) ⟨e,?_⟩⟩)
 rw [hnew];exact⟨.ref _,_,I.lnew (t':=s.toks) (r.rep k.toNat) (by rw [pe,ak7];exact hz),rfl,q _ I.fresh⟩
end
section
variable {prog:Program} {w:World} {A:Around} {E:Value→Shared→Prop} {s:Shared}
set_option maxRecDepth 100000 in
end
section
variable {X:Cx}
end
end L2
namespace Att
open PySem PySem.W PySem.Calls PyProof.Rows
theorem kj{P:Params}{h:Heap}:∀(ns:List Int) (vs:List Value),WellAll P h vs (ns.map WData.int)→IntsAre vs ns:=by
 intro ns
 induction ns with
 | nil=>
  intro vs w;rw [ag1]at w;cases w;exact .nil
 | cons n ns ih=>
  intro vs w;rw [ac1]at w
  cases w with
  | cons a b=>
   cases a;exact .cons _ _ (ih _ b)
theorem script_of{l:OpenLaw}{n:Nat}(hn:l.most=some n){P:Params}{h:Heap}{args:List WData}{vals:List Value}
  (hpre:l.row.toRowW.claim.pre args=true) (hwl:WellAll P h vals args) :
  ∃a vs ns,vals=[Value.ref a]∧args=[WData.list (ns.map WData.int)]∧h.get? a=some { cls:=.type "list",data:=.seq vs.toArray }∧IntsAre vs ns∧ns.length≤n:=by
 have hsh:WShape.hasAll [] args [.list .int]=true:=(pre_splitW hpre).1;have hc:l.pre.holds [] { args:=args }=true:=(pre_splitW hpre).2;obtain⟨d,r,rfl,h1,h2⟩:=hasAllW_cons hsh;obtain rfl:=hasAllW_nil h2;obtain⟨xs,rfl,h3⟩:=hasW_list h1;obtain⟨ns,rfl⟩:=items_int h3
 have hlen:ns.length≤n:=by
  unfold OpenLaw.pre at hc
  have h4:(WTm.not (.lt (.lit (.int (n:Int))) (.len (.arg 0)))).holds [] { args:=[.list (ns.map .int)] }=true:=by
   have h4:=(holds_andW hc).1;rw [hn]at h4;exact h4
  have h5:=condW_of h4 (w_not (w_lt w_lit (w_len_list (w_arg rfl))));rw [aa0]at h5;refine Nat.le_of_not_lt fun q=>?_
  have q':(n:Int) < ((ns.length:Nat):Int):=by omega
  first
   | (rw [decide_eq_true q']at h5;exact absurd h5 (by decide))
   | (simp at h5;omega)
 cases hwl with
 | cons w1 w2=>
  cases w2
  cases w1 with
  | list ho hall=>exact⟨_,_,ns,rfl,rfl,ho,kj ns _ hall,hlen⟩
theorem post_true(l:OpenLaw)(args:List WData):l.row.toRowW.claim.post args (.bool true) args=true:=
 postW_of (r:=l.row.toRowW) (X:=(true == true))
  (show WShape.has [] (.bool true) .bool=true by first | rfl | decide | simp [WShape.has,WShape.arms,WShape.armsAll])
  (show(WTm.eq .res (.lit (.bool true))).value [] { args:=args,res:=some (.bool true),after:=args }=some (.bool (true == true))from w_eq_bool (w_res rfl) w_lit) rfl
theorem attach_call{l:OpenLaw}{n:Nat}{q:Program}{loose:List Str}{XP:(Str→Option Value)→Heap→Prop}{YP:World→Heap→Prop}{d:DefRec}
  (hn:l.most=some n) (hdf:d.params.defaults=[])
  (call:∀(w:World) (s₀ s₁:Shared) (mg mb:Str→Option Value) (fa:Addr) (o:Obj) (pm cd doc:Value) (a:Addr) (vs:List Value) (ns:List Int),
   Ground q loose [] XP w s₀ mg mb s₁.heap→YP w s₁.heap→
   s₁.heap.get? fa=some o→o.data=.func (docDef d.name d.params d.body d.scope pm cd doc)→s₁.heap.CodeRec cd d.name→mg d.name=some (.ref fa)→
   s₁.heap.get? a=some { cls:=.type "list",data:=.seq vs.toArray }→IntsAre vs ns→ns.length≤n→s₁.gens=#[]→
   codeAny (model l.prog w) callerA (.call (.ref fa) ⟨[.ref a],[]⟩) (fun r s'=>r=.ok (.ret (.bool true))∧OldK s₁.heap s'.heap∧s'.os=s₁.os∧AllBare s'.gens) s₁) :
  WalkO q loose XP YP l.row.toRowW d [] (fun f vs=>PySem.call f vs):=by
 intro w s₀ s₁ mg mb G Y fa o pm cd doc dV kV ho hd hcd hD hmg hg args vals as hpre hlay hrd hwl hlo;obtain rfl:dV=.none:=Dflts.none hD hdf;obtain rfl:kV=.none:=Dflts.noKw hD;obtain⟨a,vs,ns,rfl,rfl,hobj,hints,hlen⟩:=script_of hn hpre hwl;refine enter_call (codeAny_mono (call w s₀ s₁ mg mb fa o pm cd doc a vs ns G Y ho (fd_plain hd) hcd hmg hobj hints hlen hg) fun r s' hq=>?_);obtain⟨rfl,h2,h3,h4⟩:=hq;exact⟨.inl ⟨.bool true,.bool true,[],rfl,fun _=>rfl,.bool true,post_true l _,fun _=>⟨List.Pairwise.nil,fun _ hm=>(nomatch hm)⟩⟩,h2,h3,h4⟩
section
variable {prog:Program} {w:World} {A:Around} {E:Value→Shared→Prop} {s:Shared} {K:Frag}
end
end Att
namespace L2
open PySem PySem.Spec PyProof.Rows
theorem oJ:∀{vs:List Value} {ns:List Int},IntsAre vs ns→aR (ns.map V.int) vs
 | _,_,.nil=>.nil
 | _,_,.cons n t h=>.cons ⟨t,rfl⟩ (oJ h)
def yZ(H:Hp):Prop:=∀b,H b=none∨∃o xs,H b=some (.frz o (.lst xs))
theorem rq{P:Program}{w:World}{K:Frag}{mg mb:Str→Option Value}{CX:qH}{k:Nat}{fa a:Addr}{fd:FuncData}{x:Str}{sp:Sp}{s₁:Shared}{vs:List Value}{ns:List Int}
  (KX:K.In s₁.heap) (hns:s₁.heap.Ns mainGlobals mg) (hb:s₁.heap.Ns builtinsNs mb) (hbb:∀x:Str,x≠"__name__"→mb x=bootBuiltins x) (hlim:s₁.heap.NoLimit) (hg:s₁.gens=#[])
  (ha:s₁.heap.get? a=some { cls:=.type "list",data:=.seq vs.toArray }) (hi:IntsAre vs ns) (hl:ns.length≤sizeLine) (hr:cD k callerA)
  (F:∀base:Heap,K.In base→base.Ns mainGlobals mg→az P w K mg base CX k fa fd [x] sp) (hbind:∀(s:Shared) (u:Value),BindsTo s fd ⟨[u],[]⟩ [(x,u)])
  (hsp:∀H:Hp,yZ H→aV K H a (ns.map V.int)→sp [.ref a] H (fun v _=>v=.bl true) fun _ _ _=>False)
  (hCX:∀H e s',CX [] H s₁ (fun _ _ _=>False) e s'→False) :
  codeAny (model P w) callerA (.call (.ref fa) ⟨[.ref a],[]⟩) (fun r s'=>r=.ok (.ret (.bool true))∧OldK s₁.heap s'.heap∧s'.os=s₁.os∧AllBare s'.gens) s₁:=by
 have rv:=oJ hi;have lenV:=hi.length
 have core:∀H:Hp,yZ H→aV K H a (ns.map V.int)→iB P w H s₁.heap→(∀b,H b≠none→b=a)→(H a≠none→K.lookup a=none)→
   codeAny (model P w) callerA (.call (.ref fa) ⟨[.ref a],[]⟩) (fun r s'=>r=.ok (.ret (.bool true))∧OldK s₁.heap s'.heap∧s'.os=s₁.os∧AllBare s'.gens) s₁:=by
  intro H hO hS hok hA hK;have base_of:∀{b:Addr} {o:Obj},s₁.heap.get? b=some o→H b=none→(pd s₁.heap H).get? b=some o:=fun e n=>xr e n
  have noA:∀{b:Addr} {o:Obj} {es:Array DictEntry} {ep:Nat},s₁.heap.get? b=some o→o.data=.dict es ep→H b=none:=fun {b o es ep} e d=>by
   cases q:H b with
   | none=>rfl
   | some u=>
    have e':b=a:=hA b (by rw [q];simp);subst e';rw [ha]at e;cases e;have d':Data.seq vs.toArray _=Data.dict es ep:=d;cases d'
  have nsK:∀{b:Addr} {m:Str→Option Value},s₁.heap.Ns b m→(pd s₁.heap H).Ns b m:=fun {b m} ⟨o,es,ep,e,d,r⟩=>⟨o,es,ep,base_of e (noA e d),d,r⟩
  have hKb:K.In (pd s₁.heap H):=fun b o e=>base_of (KX b o e) (by
   cases q:H b with
   | none=>rfl
   | some u=>
    have e':b=a:=hA b (by rw [q];simp);subst e'
    rw [hK (by rw [q];simp)]at e;cases e)
  have hM:Mod K mg (pd s₁.heap H):=⟨hKb,nsK hns,⟨mb,nsK hb,hbb⟩,let ⟨mc,h1,h2⟩:=hlim;⟨mc,nsK h1,h2⟩⟩;have e0:sE P w K mg (pd s₁.heap H) callerA [] s₁ H:=⟨rfl,hM,fun b o e=>zJ e,Nat.le_of_eq (vv _ _),trivial,fun b hb=>absurd (show b∈([]:List Addr)from hb) (by simp),hok,.of_eq hg⟩;refine codeAny_mono ((F _ hKb (nsK hns)).run callerA [] s₁ H ⟨[.ref a],[]⟩ [.ref a] [.ref a] _ _ hr e0 (hbind s₁ (.ref a)) (.cons rfl .nil) (hsp H hO hS)) fun r s' h=>?_
  cases r with
  | error e=>exact(hCX H e s' h).elim
  | ok fl=>
   cases fl with
   | next=>exact False.elim h
   | brk=>exact False.elim h
   | cont=>exact False.elim h
   | ret u=>
    obtain⟨v,H',os,bare,un,hok',r',q⟩:=h;have q':v=.bl true:=q;subst q';obtain rfl:u=Value.bool true:=r';refine⟨rfl,OldK.of_keep fun b o e=>?_,os,bare⟩
    cases q:H b with
    | none=>exact un.keep b o e q (by intro z;exact absurd (show b∈([]:List Addr)from z) (by simp)) (by simp)
    | some u=>
     rcases hO b with z | ⟨ob,xs,z⟩
     ·rw [q]at z;cases z
     ·have z2:=un.frzs b ob _ z
      obtain⟨e1,_⟩:=hok b _ z;obtain⟨e2,_⟩:=hok' b _ z2;rw [e]at e1;cases e1;exact e2
 cases hk:K.lookup a with
 | some o=>
  have e:=KX a o hk;rw [ha]at e;cases e;refine core (fun _=>none) (fun _=>.inl rfl) (.inr ⟨_,vs.toArray,_,hk,rfl,rfl,rfl,by rw [aa3,lenV];exact hl,by simpa using rv⟩) (fun b u z=>by have z':(none:Option HO)=some u:=z;cases z') (fun b z=>absurd rfl z) fun z=>absurd rfl z
 | none=>
  refine core (fun b=>if b=a then some (.frz { cls:=.type "list",data:=.seq vs.toArray } (.lst (ns.map V.int)))else none) (fun b=>?_) (.inl (.inr ⟨{ cls:=.type "list",data:=.seq vs.toArray },if_pos rfl⟩)) (fun b u z=>?_) (fun b z=>?_) fun _=>hk
  ·by_cases hb:b=a
   ·exact .inr ⟨_,_,if_pos hb⟩
   ·exact .inl (if_neg hb)
  ·by_cases hb:b=a
   ·have z':=(if_pos hb).symm.trans z
    cases z';subst hb;exact⟨ha,by rw [aa0];exact hl,vs,_,rv,ha⟩
   ·have z':=(if_neg hb).symm.trans z
    cases z'
  ·by_cases hb:b=a
   ·exact hb
   ·exact absurd (if_neg hb) z
end L2
namespace L2
open PySem PySem.Spec PyProof.Rows
abbrev KOf{K:Frag}{h:Heap}(_:K.In h):Frag:=K
theorem walk_of{l:PySem.W.OpenLaw}{n k:Nat}{q:Program}{loose:List Str}{XP:(Str→Option Value)→Heap→Prop}{YP:World→Heap→Prop}{d:DefRec}{K:Params→Frag}{CX:World→qH}{sp:World→Sp}{x:Str}
  (hn:l.most=some n) (hn2:n≤sizeLine) (hdf:d.params.defaults=[]) (hr:cD k callerA)
  (hY:∀(w:World) (h:Heap),YP w h→(K w.params).In h)
  (F:∀(w:World) (mg:Str→Option Value) (fa:Addr) (h:Heap),(K w.params).In h→h.Ns mainGlobals mg→mg d.name=some (.ref fa)→
   ∃fd:FuncData,(∀(s:Shared) (u:Value),BindsTo s fd ⟨[u],[]⟩ [(x,u)])∧
    ∀base:Heap,(K w.params).In base→base.Ns mainGlobals mg→az l.prog w (K w.params) mg base (CX w) k fa fd [x] (sp w))
  (hsp:∀(w:World) (H:Hp) (a:Addr) (ns:List Int),ns.length≤n→yZ H→aV (K w.params) H a (ns.map V.int)→sp w [.ref a] H (fun v _=>v=.bl true) fun _ _ _=>False)
  (hCX:∀(w:World) (H:Hp) (s:Shared) (e:Value) (s':Shared),CX w [] H s (fun _ _ _=>False) e s'→False) :
  PySem.W.WalkO q loose XP YP l.row.toRowW d [] (fun f vs=>PySem.call f vs):=by
 refine Att.attach_call hn hdf fun w s₀ s₁ mg mb fa o pm cd doc a vs ns G Y ho hd hcd hmg hobj hints hlen hg=>?_;have KX:=hY w _ Y;obtain⟨fd,hb,hF⟩:=F w mg fa _ KX G.T.g hmg;exact rq KX G.T.g G.T.b G.T.builtins G.T.nolimit hg hobj hints (aa9 hlen hn2) hr hF hb (fun H hO hS=>hsp w H a ns hlen hO hS) fun H e s'=>hCX w H s₁ e s'
end L2
namespace L2
open PySem PySem.Spec PyProof.Rows
def bL(s:Stmt)(j:Nat):Stmt:=match s with
 | .ClassDef _ _ _ body _ _ _ _ _ _ _=>body.getD j (.Pass ⟨0,0,0,0⟩)
 | _=>.Pass ⟨0,0,0,0⟩
def cI(s:Stmt):Arguments:=match s with
 | .FunctionDef _ a _ _ _ _ _ _ _ _=>a
 | _=>{ posonlyargs:=[],args:=[],vararg:=none,kwonlyargs:=[],kw_defaults:=[],kwarg:=none,defaults:=[] }
def bZ(s:Stmt):List Stmt:=match s with
 | .FunctionDef _ _ b _ _ _ _ _ _ _=>b
 | _=>[]
def aq(s:Stmt):Scope:=match s with
 | .FunctionDef _ _ _ _ _ _ sc _ _ _=>sc
 | _=>{ kind:=.function,names:=[],isGenerator:=false,isCoroutine:=false }
abbrev bH:qH:=fun _ _ _ _ _ _=>False
abbrev E0:XK:=fun _ _ _=>False
theorem nZ{X:Cx}:g7 bH X E0:=fun _ _ _ _ _ _ _ h=>h.elim
structure cC(K:Frag)(x qual:Str)(st:Stmt)(f:Addr)(fd:FuncData):Prop where
 ex:∃(oc:Value) (od:Option Addr) (kV doc pm:Value) (an:Option Addr) (cdv ct:Value) (osl:Array (Option Value)),
  fd=fnOf x qual (cI st) (bZ st) (aq st) .none kV doc pm an cdv ct∧K.lookup f=some ⟨oc,od,.func fd,osl⟩∧codeIn K cdv qual=true
 kp:keepIn K (.ref f)=true
section
variable {P:Program} {w:World} {K:Frag} {mg:Str→Option Value} {base:Heap}
theorem cC.ok{x qual:Str}{st:Stmt}{f:Addr}{fd:FuncData}{N ps:List Str}{k:Nat}{sp:Sp}(F:cC K x qual st f fd)(S:ay N ps (aq st))(len:∀vs H Q E,sp vs H Q E→vs.length=ps.length)
  (hbody:∀(cdv:Value) (A:Around) (outer:List Env) (s:Shared) (H:Hp) (vs:List V) (Q:VK) (E:XK),cD k (A.deeper (envOfC qual (aq st) s.heap.objs.size f cdv))→sp vs H Q E→
   ∃t,sC (jm bH P w K mg base N qual (aq st) f cdv A outer s H E).nox (bZ st) t∧t { nx:=fun _ H'=>Q .non H',rt:=Q } (start N vs) H):az P w K mg base bH (k+1) f fd ps sp:=by
 obtain⟨oc,od,kV,doc,pm,an,cdv,ct,osl,rfl,lk,hcd⟩:=F.ex;refine xl lk hcd S len fun A outer s H vs Q E hr hsp=>?_;obtain⟨t,h,q⟩:=hbody cdv A outer s H vs Q E hr hsp;exact⟨t,h.nox,q⟩
theorem cC.binds{x qual:Str}{st:Stmt}{f:Addr}{fd:FuncData}{ps:List Str}(F:cC K x qual st f fd)
  (h:∀(kV doc pm:Value) (an:Option Addr) (cdv ct:Value) (us:List Value),us.length=ps.length→bindArgs (fnOf x qual (cI st) (bZ st) (aq st) .none kV doc pm an cdv ct) ⟨us,[]⟩=pure (ps.zip us)):cM K fd ps []:=by
 obtain⟨oc,od,kV,doc,pm,an,cdv,ct,osl,rfl,lk,hcd⟩:=F.ex;exact .all (h kV doc pm an cdv ct)
theorem fun_mk{x qual:Str}{st:Stmt}{f:Addr}{oc:Value}{od an:Option Addr}{osl:Array (Option Value)}{kV doc pm cdv ct:Value}(l:K.lookup f=some ⟨oc,od,.func (fnOf x qual (cI st) (bZ st) (aq st) .none kV doc pm an cdv ct),osl⟩)
  (c:codeIn K cdv qual=true) (k:keepIn K (.ref f)=true):cC K x qual st f (fnOf x qual (cI st) (bZ st) (aq st) .none kV doc pm an cdv ct):=⟨⟨oc,od,kV,doc,pm,an,cdv,ct,osl,rfl,l,c⟩,k⟩
end
section
variable {X:Cx}
end
def au(H H':Hp):Prop:=∀b o,H b=some o→H' b=some o
theorem au.refl(H:Hp):au H H:=fun _ _ h=>h
theorem au.trans{H H1 H2:Hp}(a:au H H1)(b:au H1 H2):au H H2:=fun c o h=>b c o (a c o h)
theorem au.free{H H':Hp}(e:au H H'){l:Addr}(h:H' l=Option.none):H l=Option.none:=by
 cases q:H l with
 | none=>rfl
 | some o=>
  rw [e l o q]at h;cases h
theorem au.seq{K:Frag}{H H':Hp}{a:Addr}{xs:List V}(e:au H H')(h:aV K H a xs):aV K H' a xs:=by
 rcases h with(h | ⟨o,h⟩) | h
 ·exact .inl (.inl (e _ _ h))
 ·exact .inl (.inr ⟨o,e _ _ h⟩)
 ·exact .inr h
end L2
namespace GM
def stirSt(c p:Int):Nat→Int×Int
 | 0=>(0,(c % 998244341+7919 * p) % 998244353+3)
 | i+1=>((stirSt c p i).1 * 998244353+((stirSt c p i).2 % 4099 * 240007+(stirSt c p i).2 / 4099 * 89+1201 * (i:Int)+11) % 998244353,
   ((stirSt c p i).2 % 4099 * 240007+(stirSt c p i).2 / 4099 * 89+1201 * (i:Int)+11) % 998244353)
def stirF(c p:Int):Int:=(stirSt c p 4).1
theorem jS(c p:Int):∀i:Nat,0≤(stirSt c p i).1∧(stirSt c p i).1+1≤998244353 ^ i
 | 0=>⟨ak1 _,ak1 _⟩
 | i+1=>by
  obtain⟨h1,h2⟩:=jS c p i;have h3:=ae3 ((stirSt c p i).2 % 4099 * 240007+(stirSt c p i).2 / 4099 * 89+1201 * (i:Int)+11) (show(998244353:Int)≠0 by decide);have h4:=ad7 ((stirSt c p i).2 % 4099 * 240007+(stirSt c p i).2 / 4099 * 89+1201 * (i:Int)+11) (show(0:Int) < 998244353 by decide);have e:(998244353:Int) ^ (i+1)=998244353 ^ i * 998244353:=Int.pow_succ ..;simp only [stirSt];rw [e];generalize((stirSt c p i).2 % 4099 * 240007+(stirSt c p i).2 / 4099 * 89+1201 * (i:Int)+11) % 998244353=r at h3 h4;generalize(stirSt c p i).1=f at h1 h2;generalize(998244353:Int) ^ i=q at h2;omega
theorem mn(c p:Int):0≤stirF c p:=(jS c p 4).1
theorem sk(c p:Int):stirF c p < 2 ^ 128:=by
 have h:=(jS c p 4).2
 have e:(998244353:Int) ^ 4≤2 ^ 128:=by decide
 unfold stirF;omega
def powGo:Nat→Int→Int→Int
 | 0,p,_=>p
 | f+1,p,a=>if p≤a then powGo f (p * 1000000) a else p
theorem gN:∀(f:Nat) (p a:Int),0 < p→0 < powGo f p a
 | 0,_,_,h=>h
 | f+1,p,a,h=>by
  simp only [powGo]
  split
  ·exact gN f _ a (by omega)
  ·exact h
theorem lX:∀(f:Nat) (p a b:Int),p≤b→a * 1000000≤b→powGo f p a≤b
 | 0,_,_,_,h,_=>h
 | f+1,p,a,b,h,h'=>by
  simp only [powGo]
  split
  ·exact lX f _ a b (by omega) h'
  ·exact h
def absI(c:Int):Int:=if c < 0 then -c else c
theorem oV(c:Int):0≤absI c:=by unfold absI;split<;>omega
theorem jX(c:Int):absI c=c.natAbs:=by unfold absI;split<;>omega
def powF(c:Int):Int:=powGo ((absI c).toNat+1) 1 (absI c)
def gotF(ns:List Int)(p:Int):Int:=match ns[p.toNat]? with
 | none=>0
 | some c=>absI c+powF c * stirF (absI c) p
theorem gotF_nn(ns:List Int)(p:Int):0≤gotF ns p:=by
 unfold gotF
 split
 ·exact ak1 _
 ·have h1:=oV ‹Int›
  have h2:=Int.mul_nonneg (ak8 (gN ((absI ‹Int›).toNat+1) 1 (absI ‹Int›) (by decide))) (mn (absI ‹Int›) p);unfold powF;omega
theorem zg{n:Nat}{c p:Int}(h:c.natAbs < 2 ^ n):(absI c+powF c * stirF (absI c) p).natAbs < 2 ^ (n+200):=by
 have ha:=oV c
 have hA:absI c < (2:Int) ^ n:=by
  rw [jX]
  exact_mod_cast h
 have hn:(1:Int)≤2 ^ n:=by
  have:1≤2 ^ n:=Nat.one_le_two_pow
  exact_mod_cast this
 have hp:powF c≤2 ^ n * 1000000:=lX _ 1 (absI c) _ (by omega) (by omega);have hp0:0 < powF c:=gN _ _ _ (by decide);have hs:=sk (absI c) p;have hs0:=mn (absI c) p;have hm:powF c * stirF (absI c) p≤(2 ^ n * 1000000) * 2 ^ 128:=Int.mul_le_mul hp (ak8 hs) hs0 (by omega);have hm0:0≤powF c * stirF (absI c) p:=Int.mul_nonneg (ak8 hp0) hs0;have e:(2:Int) ^ (n+200)=2 ^ n * 2 ^ 200:=Int.pow_add ..
 have e2:(2:Int) ^ 200=1606938044258990275541962092341162602522202993782792835301376:=by decide
 have e3:(2:Int) ^ 128=340282366920938463463374607431768211456:=by decide
 have key:absI c+powF c * stirF (absI c) p < 2 ^ (n+200):=by
  rw [e,e2];rw [e3]at hm;generalize(2:Int) ^ n=q at hA hn hm;generalize powF c * stirF (absI c) p=m at hm hm0;omega
 have k0:0≤absI c+powF c * stirF (absI c) p:=by omega
 have:((absI c+powF c * stirF (absI c) p).natAbs:Int) < ((2 ^ (n+200):Nat):Int):=by
  rw [ai6 k0]
  exact_mod_cast key
 exact_mod_cast this
theorem powF_lt{n:Nat}{c:Int}(h:c.natAbs < 2 ^ n):(powF c).natAbs < 2 ^ (n+21):=by
 have ha:=oV c
 have hA:absI c < (2:Int) ^ n:=by
  rw [jX]
  exact_mod_cast h
 have hn:(1:Int)≤2 ^ n:=by
  have:1≤2 ^ n:=Nat.one_le_two_pow
  exact_mod_cast this
 have hp:powF c≤2 ^ n * 1000000:=lX _ 1 (absI c) _ (by omega) (by omega);have hp0:0 < powF c:=gN _ _ _ (by decide);have e:(2:Int) ^ (n+21)=2 ^ n * 2 ^ 21:=Int.pow_add ..
 have e2:(2:Int) ^ 21=2097152:=by decide
 have key:powF c < 2 ^ (n+21):=by
  rw [e,e2];generalize(2:Int) ^ n=q at hA hn hp;omega
 have:((powF c).natAbs:Int) < ((2 ^ (n+21):Nat):Int):=by
  rw [ai6 (ak8 hp0)]
  exact_mod_cast key
 exact_mod_cast this
theorem stirF_natAbs(c p:Int):(stirF c p).natAbs < 2 ^ 128:=by
 have h:=sk c p;have h0:=mn c p
 have:((stirF c p).natAbs:Int) < ((2 ^ 128:Nat):Int):=by
  rw [ai6 h0]
  exact_mod_cast h
 exact_mod_cast this
theorem powGo_stop{f:Nat}{p a:Int}(h:¬p≤a):powGo f p a=p:=by
 cases f with
 | zero=>rfl
 | succ f=>simp only [powGo];rw [if_neg h]
theorem gotF_lt{n:Nat}{ns:List Int}{p:Int}(h:∀x∈ns,x.natAbs < 2 ^ n):(gotF ns p).natAbs < 2 ^ (n+200):=by
 unfold gotF
 split
 ·exact Nat.two_pow_pos _
 ·rename_i c e
  exact zg (h c (ac7 e))
end GM
set_option maxHeartbeats 4000000
namespace L2
open PySem PySem.Spec PyProof.Rows
def fQ(cells:List (Str×Addr)):List (Str×NameKind)→List (Str×Addr)→List (Str×Addr)
 | [],cs=>cs
 | (n,k)::r,cs=>fQ cells r (if k == .free then(n,(cells.lookup n).getD 0)::cs else cs)
theorem gX{scope:Scope}{env:Env}(h:∀y∈scope.names,y.2=.free→∃c,env.cells.lookup y.1=some c):closureFor scope env=pure (fQ env.cells scope.names []):=by
 simp only [closureFor];generalize scope.names=l at h ⊢
 have key:∀(l:List (Str×NameKind)) (cs:List (Str×Addr)),(∀y∈l,y.2=.free→∃c,env.cells.lookup y.1=some c)→
   (forIn l cs (fun(x:Str×NameKind) (r:List (Str×Addr))=>(if (x.snd == NameKind.free)=true then(do let a ←cellOf env x.fst;pure (ForInStep.yield ((x.fst,a)::r)))else pure (ForInStep.yield r):Sem (ForInStep (List (Str×Addr))))):Sem (List (Str×Addr)))=pure (fQ env.cells l cs):=by
  intro l
  induction l with
  | nil=>intro cs _;rfl
  | cons x r ih=>
   intro cs h;obtain⟨n,k⟩:=x;have hr:∀y∈r,y.2=.free→∃c,env.cells.lookup y.1=some c:=fun y hy=>h y (ac0 _ hy);rw [ah5]
   by_cases hk:k=.free
   ·subst hk
    obtain⟨c,hc⟩:=h (n,.free) ab9 rfl
    have e:cellOf env n=pure c:=by unfold cellOf;rw [show env.cells.lookup n=some c from hc]
    simp only [beq_self_eq_true,if_true,e];show(forIn r ((n,c)::cs) _:Sem _)=_;rw [ih _ hr];simp only [fQ,beq_self_eq_true,if_true];rw [show env.cells.lookup n=some c from hc];rfl
   ·have hb:(k == NameKind.free)=false:=by simpa using hk
    simp only [hb,af5,if_false];show(forIn r cs _:Sem _)=_;rw [ih _ hr];simp only [fQ,hb,af5,if_false]
 rw [key l [] h];rfl
theorem nq{cells:List (Str×Addr)}:∀{l:List (Str×NameKind)} {cs:List (Str×Addr)} {x:Str} {c:Addr},(∀y∈l,y.2=.free→∃c,cells.lookup y.1=some c)→
  (∀x c,cs.lookup x=some c→cells.lookup x=some c)→(fQ cells l cs).lookup x=some c→cells.lookup x=some c
 | [],_,_,_,_,hs,e=>hs _ _ e
 | (n,k)::r,cs,x,c,h,hs,e=>by
  refine nq (l:=r) (fun y hy=>h y (ac0 _ hy)) ?_ e;intro z d
  by_cases hk:k=.free
  ·subst hk
   obtain⟨c',hc'⟩:=h (n,.free) ab9 rfl;have hc'':cells.lookup n=some c':=hc';simp only [beq_self_eq_true,if_true,af0,hc'',Option.getD_some]
   cases hz:z == n with
   | true=>
    have:z=n:=by simpa using hz
    subst this;intro q;cases q;exact hc''
   | false=>exact hs z d
  ·have hb:(k == NameKind.free)=false:=by simpa using hk
   simp only [hb,af5,if_false];exact hs z d
theorem jk{cells:List (Str×Addr)}:∀{l:List (Str×NameKind)} {cs:List (Str×Addr)} {x:Str},((x,NameKind.free)∈l∨∃c,cs.lookup x=some c)→∃c,(fQ cells l cs).lookup x=some c
 | [],_,_,h=>by
  rcases h with h | h
  ·cases h
  ·exact h
 | (n,k)::r,cs,x,h=>by
  refine jk (l:=r) ?_;rcases h with h | ⟨c,h⟩
  ·rcases aa5.mp h with e | h
   ·cases e
    refine .inr ⟨(cells.lookup n).getD 0,?_⟩;simp only [beq_self_eq_true,if_true,af0]
   ·exact .inl h
  ·by_cases hk:k=.free
   ·subst hk
    simp only [beq_self_eq_true,if_true,af0]
    cases hz:x == n with
    | true=>exact .inr ⟨_,rfl⟩
    | false=>exact .inr ⟨c,h⟩
   ·have hb:(k == NameKind.free)=false:=by simpa using hk
    simp only [hb,af5,if_false];exact .inr ⟨c,h⟩
theorem eo{env:Env}:∀{names:List (Str×NameKind)} {x:Str},
  (names.map fun(n,k)=>if (k == NameKind.free && env.scope.kind == .function && env.kindOf n == some .cell)then(n,NameKind.cell)else(n,k)).lookup x =
   (names.lookup x).map fun k=>if (k == NameKind.free && env.scope.kind == .function && env.kindOf x == some .cell)then NameKind.cell else k
 | [],_=>rfl
 | (n,k)::r,x=>by
  have ih:=@eo env r x;show List.lookup x ((if (k == NameKind.free && env.scope.kind == .function && env.kindOf n == some .cell)=true then(n,NameKind.cell)else(n,k))::_)=_
  cases hx:x == n with
  | true=>
   have e:x=n:=by simpa using hx
   subst e
   by_cases hc:(k == NameKind.free && env.scope.kind == .function && env.kindOf x == some .cell)=true
   ·rw [if_pos hc];simp only [af0,hx,aj0];rw [if_pos hc]
   ·rw [if_neg hc];simp only [af0,hx,aj0];rw [if_neg hc]
  | false=>
   by_cases hc:(k == NameKind.free && env.scope.kind == .function && env.kindOf n == some .cell)=true
   ·rw [if_pos hc];simp only [af0,hx];exact ih
   ·rw [if_neg hc];simp only [af0,hx];exact ih
theorem mem_of_lookup{κ ν:Type}[BEq κ][LawfulBEq κ]:∀{l:List (κ×ν)} {x:κ} {v:ν},l.lookup x=some v→(x,v)∈l
 | [],_,_,h=>by cases h
 | (n,k)::r,x,v,h=>by
  rw [af0]at h
  cases hx:x == n with
  | true=>
   rw [hx]at h
   have e:x=n:=by simpa using hx
   cases h;rw [e];exact ab9
  | false=>
   rw [hx]at h;exact ac0 _ (mem_of_lookup h)
structure bU(X:Cx)(scope:Scope)(js:List Nat):Prop where
 kind:scope.kind=.function
 cell:∀y∈scope.names,y.2≠.cell
 names:∀y∈scope.names,y.2=.local→scope.names.lookup y.1=some .local
 free:∀y∈scope.names,y.2=.free→X.env.kindOf y.1=some .cell∨X.env.kindOf y.1=some .free
 js:∀j∈js,scope.names.lookup (X.N.getD j "")=some .free
def uj(out:Scope)(N:List Str)(scope:Scope)(js:List Nat):Bool:=
 (scope.kind == .function) && scope.names.all (fun y=>y.2 != .cell) && scope.names.all (fun y=>y.2 != .local || scope.names.lookup y.1 == some .local) &&
  scope.names.all (fun y=>y.2 != .free || (out.names.lookup y.1 == some .cell || out.names.lookup y.1 == some .free)) && js.all fun j=>scope.names.lookup (N.getD j "") == some .free
theorem bU.of{X:Cx}{scope:Scope}{js:List Nat}(h:uj X.env.scope X.N scope js=true):bU X scope js:=by
 simp only [uj,ac6,af1]at h;obtain⟨⟨⟨⟨h1,h2⟩,h3⟩,h4⟩,h5⟩:=h;refine⟨by simpa using h1,fun y hy=>by simpa using h2 y hy,fun y hy e=>?_,fun y hy e=>?_,fun j hj=>by simpa using h5 j hj⟩
 ·have:=h3 y hy
  rw [e]at this;simpa using this
 ·have:=h4 y hy
  rw [e]at this;simpa [Env.kindOf]using this
def mD(X:Cx)(scope:Scope)(own:List Str)(js:List Nat)(C:Addr)(s:Shared)(H:Hp)(ex:List Addr)(pn:List (Addr×Obj))(E:Value→Shared→Prop):Cx where
 prog:=X.prog
 w:=X.w
 K:=X.K
 mg:=X.mg
 base:=X.base
 A:=X.A
 N:=own++js.map fun j=>X.N.getD j ""
 s₀:=s
 H₀:=H
 env:=compEnvC scope (fQ X.env.cells scope.names []) C X.env
 outer:=X.stack
 stack:=X.stack
 ex:=ex
 fn:=fun _=>false
 calm:=X.calm
 pn:=pn
 xe:=E
def cσ(n:Nat)(js:List Nat)(σ:St):St:=List.replicate n none++js.map fun j=>σ.getD j none
section
variable {X:Cx} {pins:List (Addr×Obj)} {σ:St} {H H':Hp} {s:Shared} {scope:Scope} {own:List Str} {js:List Nat} {C:Addr} {fp:List Addr} {E:Value→Shared→Prop}
theorem bU.clos(ok:bU X scope js)(I:aH X pins σ H s):∀y∈scope.names,y.2=.free→∃c,X.env.cells.lookup y.1=some c:=fun y hy e=>I.ok.has y.1 (ok.free y hy e)
theorem bU.sub(ok:bU X scope js)(I:aH X pins σ H s){x:Str}{c:Addr}(e:(fQ X.env.cells scope.names []).lookup x=some c):X.env.cells.lookup x=some c:=
 nq (ok.clos I) (fun _ _ z=>by cases z) e
theorem bU.kindOf(ok:bU X scope js){cl:List (Str×Addr)}{x:Str}(h:(compEnvC scope cl C X.env).kindOf x=some .cell∨(compEnvC scope cl C X.env).kindOf x=some .free):(x,NameKind.free)∈scope.names:=by
 have e:(compEnvC scope cl C X.env).kindOf x=(scope.names.lookup x).map fun k=>if (k == NameKind.free && X.env.scope.kind == .function && X.env.kindOf x == some .cell)then NameKind.cell else k:=eo;rw [e]at h
 cases q:scope.names.lookup x with
 | none=>rw [q]at h;simp at h
 | some k=>
  have hm:=mem_of_lookup q
  by_cases hk:k=.free
  ·subst hk;exact hm
  ·have hb:(k == NameKind.free)=false:=by simpa using hk
   rw [q]at h;simp only [aj0,hb,Bool.false_and,af5,if_false]at h;rcases h with h | h
   ·exact absurd (Option.some.inj h) (ok.cell _ hm)
   ·exact absurd (Option.some.inj h) hk
theorem bU.isFree(ok:bU X scope js){cl:List (Str×Addr)}{x:Str}(h:scope.names.lookup x=some .free):(compEnvC scope cl C X.env).kindOf x=some .cell∨(compEnvC scope cl C X.env).kindOf x=some .free:=by
 have e:(compEnvC scope cl C X.env).kindOf x=(scope.names.lookup x).map fun k=>if (k == NameKind.free && X.env.scope.kind == .function && X.env.kindOf x == some .cell)then NameKind.cell else k:=eo;rw [e,h];simp only [aj0]
 split
 ·exact .inl rfl
 ·exact .inr rfl
theorem zh(ok:bU X scope js)(I:aH X pins σ H s)(hC:s.heap.objs.size≤C)(f:∀b∈fp,kR X pins H b)(fo:∀b∈fp,∃o,s.heap.get? b=some o):(mD X scope own js C s H fp (X.pn++pins) E).Ok where
 mod:=I.ok.mod
 kind:=ok.kind
 glob:=I.ok.glob
 blt:=I.ok.blt
 above:=hC
 inj:=fun x y c e1 e2=>I.ok.inj x y c (ok.sub I e1) (ok.sub I e2)
 has:=fun x h=>jk (.inl (ok.kindOf h))
 cab:=fun x c h=>nomatch (show false=true from h)
 hd:=I.ok.hd
 frames:=I.ok.frames
 stk:=.inl rfl
 exf:=fun b hb=>by
  obtain⟨o,e⟩:=fo b hb;obtain⟨_,_,_,_,f4,_⟩:=f b hb;exact⟨ab7 (ab1 (ab0 e) hC),fun x c q=>f4 x c (ok.sub I q)⟩
 bs:=I.bs
 bsz:=aa9 I.ok.bsz I.sz
 noex:=fun b o e hb=>by
  obtain⟨_,_,_,f3,_,_⟩:=f b hb;rcases f3 with z | z
  ·exact I.ok.noex b o e z
  ·exact absurd (ab1 (ab0 e) (aa9 I.ok.bsz z)) (af3 _)
 exfs:=fun b hb hs=>by
  obtain⟨_,f1,f2,_,_,_⟩:=f b hb;rcases aa5.mp (I.stkSub b hs)with e | e
  ·exact f1 e
  ·exact f2 e
 funs:=I.stack
 frf:=I.stkFree
theorem xx{s':Shared}{pins':List (Addr×Obj)}{m:Str→Option Value}(ok:bU X scope js)(I:aH X pins σ H s)(hC:s.heap.objs.size≤C)(f:∀b∈fp,kR X pins H b)(fo:∀b∈fp,∃o,s.heap.get? b=some o)
  (hos:s'.os=s.os) (hg:AllBare s'.gens) (u:Un (mz X.stack) fp H H' s.heap s'.heap) (hn:s'.heap.Ns C m) (hok:iB X.prog X.w H' s'.heap) (hCf:H' C=none)
  (hp:∀p∈pins',s'.heap.get? p.1=some p.2∧H' p.1=none∧p.1≠C∧p.1∉mz X.stack∧∀v,p.2.data≠.cell v) :
  aH (mD X scope own js C s H fp (X.pn++pins) E) pins' (cσ own.length js σ) H' s':=by
 have Ok:=zh (own:=own) (E:=E) ok I hC f fo
 have cellAt:∀x c,X.env.cells.lookup x=some c→∀v,s.heap.IsCell c v→s'.heap.IsCell c v:=fun x c e v ⟨o,ho,hd⟩=>by
  have nx:c∉fp:=fun z=>by
   obtain⟨_,_,_,_,f4,_⟩:=f c z;exact f4 x c e rfl
  obtain⟨sl,q⟩:=u.any ho (I.freeC x c e) nx;exact⟨_,q,hd⟩
 refine⟨Ok,hos,hg,u,⟨m,hn,?_⟩,?_,hCf,?_,?_,hok,?_⟩
 ·intro i x v e1 e2 _
  have e1':(own++js.map fun j=>X.N.getD j "")[i]?=some x:=e1;have e2':(List.replicate own.length none++js.map fun j=>σ.getD j none)[i]?=some (some v):=e2
  by_cases hi:i < own.length
  ·rw [ad6 (by simpa using hi),List.getElem?_replicate]at e2'
   split at e2'<;>cases e2'
  ·rw [ad0 (by omega),ac2]at e1'
   rw [ad0 (by simpa using ak9.mp hi),ac2,List.length_replicate]at e2'
   cases hj:js[i - own.length]? with
   | none=>rw [hj]at e1';cases e1'
   | some j=>
    rw [hj]at e1' e2';have ex:X.N.getD j ""=x:=Option.some.inj e1';have ev:σ.getD j none=some v:=Option.some.inj e2';have hjm:j∈js:=ac7 hj
    have hjl:j < σ.length:=by
     apply Classical.byContradiction;intro h;rw [ad3,List.getElem?_eq_none (ak9.mp h)]at ev;cases ev
    have hσ:σ[j]?=some (some v):=by
     rw [ad3,ab3 hjl]at ev;rw [ab3 hjl];exact congrArg some ev
    have hNl:j < X.N.length:=by rw [←I.len];exact hjl
    have hN:X.N[j]?=some x:=by
     rw [ad3,ab3 hNl]at ex;rw [ab3 hNl];exact congrArg some ex
    have hfr:scope.names.lookup x=some .free:=by rw [←ex];exact ok.js j hjm
    have hk:=ok.free _ (mem_of_lookup hfr) rfl;obtain⟨m0,_,hl⟩:=I.loc;obtain⟨w',r,l⟩:=hl j x v hN hσ (.inr hk);refine⟨w',r,?_⟩;rcases l with⟨hk',_⟩ | ⟨_,c,hc,hz⟩
    ·have hk'':X.env.kindOf x=some .local:=hk'
     rcases hk with q | q
     ·exact absurd (hk''.symm.trans q) (by intro z;cases z)
     ·exact absurd (hk''.symm.trans q) (by intro z;cases z)
    ·obtain⟨c',hc'⟩:∃c',(fQ X.env.cells scope.names []).lookup x=some c':=jk (.inl (mem_of_lookup hfr))
     have e:=ok.sub I hc';rw [hc]at e;cases e;exact .inr ⟨ok.isFree hfr,c,hc',cellAt x c hc _ hz⟩
 ·intro x c e
  obtain⟨v,z⟩:=I.cell x c (ok.sub I e);exact⟨v,cellAt x c (ok.sub I e) v z⟩
 ·intro x c e
  obtain⟨v,o,ho,_⟩:=I.cell x c (ok.sub I e);refine u.free c o ho (I.freeC x c (ok.sub I e)) fun z=>?_;obtain⟨_,_,_,_,f4,_⟩:=f c z;exact f4 x c (ok.sub I e) rfl
 ·intro p hpm
  rcases ac3.mp hpm with h | h
  ·have h':p∈X.pn++pins:=h
   obtain⟨e,n,ne,nf,d⟩:=I.pin p h'
   have nfr:p.1∉mz X.stack:=fun z=>by
    rcases aa5.mp (I.stkSub _ z)with q | q
    ·exact ne q
    ·exact nf q
   have nex:p.1∉fp:=fun z=>by
    obtain⟨_,_,_,_,_,f5⟩:=f p.1 z;exact f5 p h' rfl
   exact⟨u.keep p.1 p.2 e n nfr nex,u.free p.1 p.2 e n nex,ab7 (ab1 (ab0 e) hC),nfr,d⟩
  ·exact hp p h
 ·show(List.replicate own.length none++js.map fun j=>σ.getD j none).length=(own++js.map fun j=>X.N.getD j "").length
  simp
theorem aH.track{D:Addr}{ys:List V}{its:List Value}{n:Nat}(I:aH X pins σ H s)(hn:H D=none)(ho:s.heap.get? D=some { cls:=.type "list",data:=.seq its.toArray n })(r:aR ys its)(hz:ys.length≤sizeLine)
  (h1:D∈X.ex∨X.s₀.heap.objs.size≤D) (hL:D≠X.env.locals) (h2:∀x c,X.env.cells.lookup x=some c→c≠D) (h3:∀p∈X.pn++pins,p.1≠D):aH X pins σ (upd H D (.lst ys)) s:=by
 have ne:∀b o,H b=some o→b≠D:=fun b o e=>ak e hn
 refine I.step (h':=s.heap) (g':=s.gens) (d':=s.drawn) (t':=s.toks) (ch:=[D]) (fun b hb=>?_) (fun b o _ _ _ e _=>e) (fun b o _ _ _ e _=>⟨o.slots,e⟩) (fun b o hc _ n=>?_)
  (fun b o _ e=>⟨o,e⟩) (fun b xs e=>?_) (fun b o u e=>?_) (fun b ps e=>⟨#[],?_⟩) (fun _ z=>z) (fun b u e=>?_) I.bare
 ·have e:b=D:=by simpa using hb
  subst e;exact⟨h1,hL,h2,h3⟩
 ·rw [aj (fun z=>hc (by simp [z]))];exact n
 ·rw [aj (ne _ _ e)];exact e
 ·rw [aj (ne _ _ e)];exact e
 ·rw [aj (ne _ _ e),e];simp
 ·by_cases hb:b=D
  ·subst hb
   rw [ae]at e;cases e;exact⟨hz,its,n,r,ho⟩
  ·rw [aj hb]at e
   exact(I.hok b u e).stay (fun c v _ q=>q) (fun c q=>by rw [aj (ne _ _ q)];exact q) fun c xs q=>by rw [aj (ne _ _ q)];exact q
end
structure Ci(X:Cx)(pins:List (Addr×Obj))(C:Addr):Prop where
 ne:C≠X.env.locals
 old:C∈X.ex∨X.s₀.heap.objs.size≤C
 cells:∀x c,X.env.cells.lookup x=some c→c≠C
 pin:∀p∈X.pn++pins,p.1≠C
theorem Ci.go{X:Cx}{pins:List (Addr×Obj)}{C:Addr}{σ:St}{H:Hp}{s:Shared}{h':Heap}(o:Ci X pins C)(I:aH X pins σ H s)(hn:H C=none)(sb:Heap.SameBut C s.heap h'):aH X pins σ H { s with heap:=h' }:=
 I.turned (t':=s.toks) (fun b q hb e=>(sb.2 b hb).trans e) hn o.ne o.old o.cells o.pin
section
variable {prog:Program} {w:World} {A:Around} {R:Result→Shared→Prop} {s:Shared}
theorem qQ{elt target iter:Expr}{ifs:List Expr}{scope:Scope}{pos:Pos}{it acc:Value}{env:Env}(I:Nat→Shared→Prop)
  (turn:∀n s,I n s→wpAny (model prog w) A (pyNext it) (fun r s₁=>match r with
   | none=>R (.ok .next) s₁
   | some v=>wpAny (model prog w) A (letOwnedTupleGo target it v) (fun _ s₁'=>wpAny (model prog w) A (assign target env v) (fun _ s₂=>
     wpAny (model prog w) A (forIn ifs true fun c r=>if r=true then do let ok ←isTrue c env (eval c env);pure (ForInStep.yield ok)else pure (ForInStep.yield r)) (fun ok s₃=>
      if ok=true then wpAny (model prog w) A (eval elt env) (fun x s₄=>
       wpAny (model prog w) A (call (.builtin "list.append") [acc,x]) (fun _ s₅=>∃m,m < n∧I m s₅) (notedBy (model prog w) A env fun e s'=>R (.error e) s') s₄) (notedBy (model prog w) A env fun e s'=>R (.error e) s') s₃
      else ∃m,m < n∧I m s₃) (notedBy (model prog w) A env fun e s'=>R (.error e) s') s₂) (notedBy (model prog w) A env fun e s'=>R (.error e) s') s₁') (notedBy (model prog w) A env fun e s'=>R (.error e) s') s₁)
    (notedBy (model prog w) A env fun e s'=>R (.error e) s') s)
  (n:Nat) (h:I n s) :
  codeAny (model prog w) A (.compLoop (.ListComp elt [⟨target,iter,ifs,0⟩] scope pos) 0 it acc env) R s:=by
 refine codeAny_loop rfl I (fun n s hI=>?_) n h;show wpAny _ A ((compTurn (.ListComp elt [⟨target,iter,ifs,0⟩] scope pos) 0 it acc env).onRaise (fun x=>do noteFrame x env;theTreesLotGoes x)) _ _ s;refine wpAny_noted ?_;rw [compTurn_list];refine wpAny_bind (wpAny_standAt (wpAny_bind (wpAny_mono (turn n s hI) (fun r s₁ h₁=>?_) fun _ _ h'=>h')))
 cases r with
 | none=>exact wpAny_pure h₁
 | some v=>
  refine wpAny_bind (wpAny_mono h₁ (fun _ s₁' h₁'=>?_) fun _ _ h'=>h');refine wpAny_bind (wpAny_mono h₁' (fun _ s₂ h₂=>wpAny_bind (wpAny_mono h₂ (fun ok s₃ h₃=>?_) fun _ _ h'=>h')) fun _ _ h'=>h')
  cases ok with
  | false=>exact wpAny_pure ⟨rfl,h₃⟩
  | true=>
   exact wpAny_bind (wpAny_bind (wpAny_mono h₃ (fun x s₄ h₄=>wpAny_bind (wpAny_mono h₄ (fun _ s₅ h₅=>wpAny_pure (wpAny_pure ⟨rfl,h₅⟩)) fun _ _ h'=>h')) fun _ _ h'=>h'))
end
def Dk(X:Cx)(ifs:List Expr)(t:TT):Prop:=
 ∀(pins:List (Addr×Obj)) (s:Shared) (σ:St) (H:Hp) (Q:Bool→Hp→Prop),aH X pins σ H s→t σ H Q→
  wpAny (model X.prog X.w) X.A (forIn ifs true fun c r=>if r=true then do let ok ←isTrue c X.env (eval c X.env);pure (ForInStep.yield ok)else pure (ForInStep.yield r)) (TP X pins σ Q) X.xe s
def B5:TT:=fun _ H Q=>Q true H
theorem eL{X:Cx}:Dk X [] B5:=fun pins s σ H Q I h=>wpAny_tests_nil ⟨H,I,h⟩
def B6(n:Nat)(js:List Nat)(wi:TI)(g:TG)(tt:TT)(te:TE)(σ:St)(H:Hp)(F:List V→Hp→Prop):Prop:=wi σ H fun J H1=>∃W:Nat→Nat→List V→Hp→Prop,(∃m,W 0 m [] H1)∧∀i m ys H,W i m ys H→
 (J.stop i H∧F ys H)∨
 (J.go i H∧ys.length < sizeLine∧∃N:List V→Hp→Prop,(∀ys' H',N ys' H'→∃m',m' < m∧W (i+1) m' ys' H')∧∀x H',J.yld i H x H'→g x (cσ n js σ) H' fun σ2 H2=>tt σ2 H2 fun b H3=>if b=true then te σ2 H3 fun y H4=>N (ys++[y]) H4 else N ys H3)
def yx(n:Nat)(js:List Nat)(wi:TI)(g:TG)(tt:TT)(te:TE):TE:=fun σ H Q=>B6 n js wi g tt te σ H fun ys H=>∀p,H p=none→Q (.ref p) (upd H p (.lst ys))
section
variable {X:Cx} {scope:Scope} {own:List Str} {js:List Nat} {tg iter elt:Expr} {ifs:List Expr} {wi:TI} {g:TG} {tt:TT} {te:TE} {pos:Pos}
abbrev m6:Value→Shared→Prop:=fun _ _=>False
theorem kU{pins:List (Addr×Obj)}{σ:St}{H2:Hp}{s2:Shared}{it:Addr}{fp:List Addr}{tn:Nat→Heap→Prop}{J:It}{F:List V→Hp→Prop}{RR:Value→Addr→Result→Shared→Prop}{E:Value→Shared→Prop}
  (hc:X.calm=true) (ok:bU X scope js)
  (hg:∀C s H ex pn,PG (mD X scope own js C s H ex pn m6) tg g) (ht:∀C s H ex pn,Dk (mD X scope own js C s H ex pn m6) ifs tt) (he:∀C s H ex pn,PE (mD X scope own js C s H ex pn m6) elt te)
  (I2:aH X pins σ H2 s2) (T:sL X.prog X.w X.K tg J fp it tn) (st2:tn 0 s2.heap) (f2:∀b∈fp,kR X pins H2 b) {W:Nat→Nat→List V→Hp→Prop} {m0:Nat} (w0:W 0 m0 [] H2)
  (turn:∀i m ys H,W i m ys H→(J.stop i H∧F ys H)∨
   (J.go i H∧ys.length < sizeLine∧∃N:List V→Hp→Prop,(∀ys' H',N ys' H'→∃m',m' < m∧W (i+1) m' ys' H')∧∀x H',J.yld i H x H'→g x (cσ own.length js σ) H' fun σ2 H2=>tt σ2 H2 fun b H3=>if b=true then te σ2 H3 fun y H4=>N (ys++[y]) H4 else N ys H3))
  (hRR:∀(D C:Addr) (s':Shared) (H':Hp) (ys:List V) (m:Str→Option Value),F ys H'→H' D=none→aH X pins σ (upd H' D (.lst ys)) s'→s'.heap.Ns C m→
   Ci X pins C→(upd H' D (.lst ys)) C=none→RR (.ref D) C (.ok .next) s') :
  wpAny (model X.prog X.w) X.A (newList []) (fun acc s₃=>wpAny (model X.prog X.w) X.A (newFunctionEnv scope X.env.globals (fQ X.env.cells scope.names []) [] X.env.qual none .none (some X.env)) (fun cenv s₄=>
   codeAny (model X.prog X.w) X.A (.compStart (.ListComp elt [⟨tg,iter,ifs,0⟩] scope pos) 0 (.ref it) acc { cenv with scope:=relabel scope X.env }) (RR acc cenv.locals) s₄) E s₃) E s2:=by
 refine wpAny_newObj_type (wpAny_newFunctionEnv ok.cell (by intro y hy;simp at hy) (fun h₁ hns₁ hsb₁=>?_) ok.kind);dsimp only at hns₁ hsb₁ ⊢;generalize hP:s2.heap.push { cls:=.type "list",dict:=none,data:=.seq ([]:List Value).toArray }=P2 at hns₁ hsb₁ ⊢
 have hC:P2.objs.size=s2.heap.objs.size+1:=by rw [←hP,ah8]
 have hDC:s2.heap.objs.size≠P2.objs.size:=by rw [hC];exact ab7 (af4 _)
 have hCle:s2.heap.objs.size≤P2.objs.size:=by rw [hC];exact ak0 _
 have below:∀b,b < s2.heap.objs.size→b≠P2.objs.size∧b≠s2.heap.objs.size:=fun b hb=>⟨by rw [hC];exact ab7 (Nat.lt_succ_of_lt hb),ab7 hb⟩;have old:∀b o,s2.heap.get? b=some o→h₁.get? b=some o:=fun b o e=>hsb₁.extBut b o (below b (ab0 e)).1 (aa2 _ (hP▸aa2 _ e));have hacc:h₁.get? s2.heap.objs.size=some { cls:=.type "list",data:=.seq ([]:List Value).toArray 0 }:=hsb₁.extBut _ _ hDC (aa2 _ (hP▸ab4 _ rfl));generalize hDe:s2.heap.objs.size=D at hacc hDC hCle hC below;generalize hCe:P2.objs.size=C at hns₁ hsb₁ hDC hCle hC below ⊢
 have fo:∀b∈fp,∃o,s2.heap.get? b=some o:=fun b hb=>let ⟨o,e,_⟩:=T.obj _ _ st2 b hb;⟨o,e⟩
 have fD:∀b∈fp,b≠D∧b≠C:=fun b hb=>by
  obtain⟨o,e⟩:=fo b hb
  have:=below b (hDe▸ab0 e)
  exact⟨this.2,this.1⟩
 have H2C:H2 C=none:=I2.hok.fresh (by rw [hDe];exact hCle);have H2D:H2 D=none:=I2.hok.fresh (by rw [hDe];exact aa7 _)
 have stkD:D∉mz X.stack:=fun z=>by
  have h1:=I2.nofs (a:=D) (by rw [hDe];exact aa7 _);rcases aa5.mp (I2.stkSub _ z)with q | q
  ·have:=I2.lt
   rw [←q,hDe]at this;exact af3 _ this
  ·exact h1 q
 have neLoc:D≠X.env.locals∧C≠X.env.locals:=by
  have h1:=I2.lt;rw [hDe]at h1;exact⟨ah3 h1,ah3 (ab1 h1 hCle)⟩
 have cellLt:∀x c,X.env.cells.lookup x=some c→c < D:=fun x c e=>by
  obtain⟨v,z⟩:=I2.cell x c e;rw [←hDe];exact z.lt
 have pinLt:∀p∈X.pn++pins,p.1 < D:=fun p hp=>by rw [←hDe];exact ab0 (I2.pin p hp).1
 have hs0:X.s₀.heap.objs.size≤D:=by rw [←hDe];exact I2.sz
 have start:∀{s':Shared} {H':Hp} {m:Str→Option Value} {o:Obj},s'.os=s2.os→AllBare s'.gens→Un (mz X.stack) fp H2 H' s2.heap s'.heap→s'.heap.Ns C m→iB X.prog X.w H' s'.heap→H' C=none→s'.heap.get? D=some o→H' D=none→(∀v,o.data≠.cell v)→
   aH (mD X scope own js C s2 H2 fp (X.pn++pins) m6) [(D,o)] (cσ own.length js σ) H' s':=fun {s' H' m o} a1 a2 a3 a4 a5 a6 a7 a8 a9=>
  xx ok I2 (by rw [hDe];exact hCle) f2 fo a1 a2 a3 a4 a5 a6 fun p hp=>by
   have e:p=(D,o):=by simpa using hp
   subst e;exact⟨a7,a8,hDC,stkD,a9⟩
 have fpC:∀{H':Hp} {o:Obj},(∀b∈fp,H' b=none)→∀b∈fp,kR (mD X scope own js C s2 H2 fp (X.pn++pins) m6) [(D,o)] H' b:=fun {H' o} hn b hb=>by
  obtain⟨_,q1,q2,q3,q4,q5⟩:=f2 b hb;refine⟨hn b hb,(fD b hb).2,fun z=>?_,.inl hb,fun x c e=>q4 x c (ok.sub I2 e),fun p hp=>?_⟩
  ·rcases aa5.mp (I2.stkSub b z)with e | e
   ·exact q1 e
   ·exact q2 e
  ·rcases ac3.mp hp with h | h
   ·exact q5 p h
   ·have e:p=(D,o):=by simpa using h
    subst e;exact(fD b hb).1.symm
 have nocell:∀(its:Array Value) (n:Nat) (v:Option Value),({ cls:=.type "list",data:=.seq its n }:Obj).data≠.cell v:=fun _ _ _ z=>by cases z
 have loop:∀s₃:Shared,s₃={ s2 with heap:=h₁,toks:=s2.toks+([]:List (Str×Value)).length }→
   codeAny (model X.prog X.w) X.A (.compLoop (.ListComp elt [⟨tg,iter,ifs,0⟩] scope pos) 0 (.ref it) (.ref D) (compEnvC scope (fQ X.env.cells scope.names []) C X.env)) (RR (.ref D) C) s₃:=by
  rintro s₃ rfl
  refine qQ (fun n s'=>∃i ys its k H',aH (mD X scope own js C s2 H2 fp (X.pn++pins) m6) [(D,{ cls:=.type "list",data:=.seq (its:List Value).toArray k })] (cσ own.length js σ) H' s'∧tn i s'.heap∧(∀b∈fp,H' b=none)∧
   W i n ys H'∧aR ys its∧ys.length≤sizeLine) ?_ m0 ⟨0,[],[],0,H2,start rfl I2.bare (Un.kept old) hns₁ (I2.hok.kept old) H2C hacc H2D (nocell _ _),T.keep _ _ _ st2 (fun b _ o e=>old b o e),fun b hb=>(f2 b hb).1,w0,.nil,ab5 _⟩
  rintro n s3 ⟨i,ys,its,k,H3,I3,st3,fr3,w3,rv,hz⟩;rcases turn i n ys H3 w3 with⟨stop,q⟩ | ⟨go,hlt,N,hN,step⟩
  ·refine wpAny_mono (T.done (mD X scope own js C s2 H2 fp (X.pn++pins) m6) rfl rfl rfl hc i _ s3 _ H3 m6 I3 (fpC fr3) st3 stop) (fun r s4 ⟨hr,I4⟩=>?_) fun _ _ f=>f.elim
   subst hr;obtain⟨zD,nD,_⟩:=I4.pin (D,_) (ab6 _ ab9);obtain⟨m,hm,_⟩:=I4.loc;have I5:aH X pins σ H3 s4:=I2.call' I4.os I4.base I4.hok I4.bare fun b hb=>⟨(f2 b hb).2.2.2.1,(f2 b hb).2.1,(f2 b hb).2.2.2.2.1,(f2 b hb).2.2.2.2.2⟩;have I6:aH X pins σ (upd H3 D (.lst ys)) s4:=I5.track nD zD rv hz (.inr hs0) neLoc.1 (fun x c e=>ab7 (cellLt x c e)) fun p hp=>ab7 (pinLt p hp);have nC:H3 C=none:=I4.free;exact hRR D C s4 H3 ys m q nD I6 hm ⟨neLoc.2,.inr (aa9 hs0 hCle),fun x c e=>ab7 (ab1 (cellLt x c e) hCle),fun p hp=>ab7 (ab1 (pinLt p hp) hCle)⟩ (by rw [aj (Ne.symm hDC)];exact nC)
  ·refine wpAny_mono (T.item (mD X scope own js C s2 H2 fp (X.pn++pins) m6) rfl rfl rfl hc i _ s3 _ H3 m6 I3 (fpC fr3) st3 go) (fun r s4 ⟨u,hr,h4⟩=>?_) fun _ _ f=>f.elim
   subst hr;refine wpAny_mono h4 (fun _ s5 ⟨x,H5,I5,r5,y5,st5,fr5⟩=>?_) fun _ _ f=>f.elim;have I5':=I5.pinned (fpC fr5) (T.obj _ _ st5);refine wpAny_mono (hg _ _ _ _ _ _ s5 _ H5 x u _ I5' r5 (step x H5 y5)) (fun _ s6 ⟨σ6,H6,I6,q6⟩=>?_) fun _ _ f=>f.elim;refine wpAny_mono (ht _ _ _ _ _ _ s6 σ6 H6 _ I6 q6) (fun b s7 ⟨H7,I7,q7⟩=>?_) fun _ _ f=>f.elim
   have back:∀{s8:Shared} {H8:Hp} {m':Nat} {ys':List V} {its':List Value} {k':Nat},aH (mD X scope own js C s2 H2 fp (X.pn++pins) m6) [] σ6 H8 s8→s8.heap.get? D=some { cls:=.type "list",data:=.seq its'.toArray k' }→H8 D=none→
     (∀b∈fp,∀o,s5.heap.get? b=some o→s8.heap.get? b=some o)→(∀b∈fp,H8 b=none)→W (i+1) m' ys' H8→aR ys' its'→ys'.length≤sizeLine→
     ∃i ys its k H',aH (mD X scope own js C s2 H2 fp (X.pn++pins) m6) [(D,{ cls:=.type "list",data:=.seq (its:List Value).toArray k })] (cσ own.length js σ) H' s8∧tn i s8.heap∧(∀b∈fp,H' b=none)∧W i m' ys H'∧aR ys its∧ys.length≤sizeLine:=
    fun {s8 H8 m' ys' its' k'} J zD nD kf fr w' rv' hz'=>by
     obtain⟨m,hm,_⟩:=J.loc;exact⟨i+1,ys',its',k',H8,start J.os J.bare J.base hm J.hok J.free zD nD (nocell _ _),T.keep _ _ _ st5 kf,fr,w',rv',hz'⟩
   cases b with
   | false=>
    rw [if_neg aa1];rw [if_neg aa1]at q7;obtain⟨m',hm',w'⟩:=hN _ _ q7;have pD:=I7.pin (D,_) (ab6 _ (ah1 _ ab9));refine⟨m',hm',back (I7.pins_of (pins':=[]) fun p hp=>nomatch hp) pD.1 pD.2.1 (fun b hb o e=>(I7.pin (b,o) (ab6 _ (ab6 _ (dy hb e)))).1) (fun b hb=>?_) w' rv hz⟩;obtain⟨o,e,_⟩:=T.obj _ _ st5 b hb;exact(I7.pin (b,o) (ab6 _ (ab6 _ (dy hb e)))).2.1
   | true=>
    rw [if_pos rfl];rw [if_pos rfl]at q7;refine wpAny_mono (he _ _ _ _ _ _ s7 σ6 H7 _ I7 q7) (fun yv s8 ⟨y,H8,I8,r8,q8⟩=>?_) fun _ _ f=>f.elim;obtain⟨m',hm',w'⟩:=hN _ _ q8;have pD:=I8.pin (D,_) (ab6 _ (ah1 _ ab9));refine append_at (hsz:=by rw [aa3,←rv.length];exact hz) pD.1 fun h9 sb9 z9=>?_;have I8':aH (mD X scope own js C s2 H2 fp (X.pn++pins) m6) [] σ6 H8 s8:=I8.pins_of fun p hp=>nomatch hp
    have I9:aH (mD X scope own js C s2 H2 fp (X.pn++pins) m6) [] σ6 H8 { s8 with heap:=h9 }:=I8'.turned (t':=s8.toks) (it:=D) (fun b o hb e=>(sb9.2 b hb).trans e) pD.2.1 hDC (.inr (by show s2.heap.objs.size≤D;rw [hDe];exact aa7 _))
     (fun x c e=>ab7 (cellLt x c (ok.sub I2 e))) fun p hp=>by
      rcases ac3.mp hp with h | h
      ·exact ab7 (pinLt p h)
      ·cases h
    refine⟨m',hm',back (its':=its++[yv]) (k':=k+1) I9 (by rw [z9];simp) pD.2.1 (fun b hb o e=>(sb9.2 b (fD b hb).1).trans (I8.pin (b,o) (ab6 _ (ab6 _ (dy hb e)))).1) (fun b hb=>?_) w' (rv.append (.cons r8 .nil)) (by simp;omega)⟩;obtain⟨o,e,_⟩:=T.obj _ _ st5 b hb;exact(I8.pin (b,o) (ab6 _ (ab6 _ (dy hb e)))).2.1
 exact codeAny_compStart_list (loop _ rfl) (T.self X.A 0 _ _ _ (T.keep _ _ _ st2 (fun b _ o e=>old b o e)) (loop _ rfl))
theorem fm(hc:X.calm=true)(hi:PI X tg iter wi)(ok:bU X scope js)
  (hg:∀C s H ex pn,PG (mD X scope own js C s H ex pn m6) tg g) (ht:∀C s H ex pn,Dk (mD X scope own js C s H ex pn m6) ifs tt) (he:∀C s H ex pn,PE (mD X scope own js C s H ex pn m6) elt te)
  (hs:∀x,foldedSetIterable iter X.env x=pure x:=by intro _;rfl):PE X (.ListComp elt [⟨tg,iter,ifs,0⟩] scope pos) (yx own.length js wi g tt te):=by
 intro pins s σ H Q I h;rw [eval_ListComp];refine wpAny_comprehension_free (use:=none) rfl hs (gX (ok.clos I)) ok.kind ok.names (b6 (hi pins s σ H _ I h) fun v s1 h1=>b6 h1 fun itv s2 h2=>?_);obtain⟨it,fp,tn,J,H2,e,I2,T,st2,f2,W,⟨m0,w0⟩,turn⟩:=h2;subst e;refine kU (RR:=fun acc C=>compPost (model X.prog X.w) X.A X.xe none (EP X pins σ Q) acc C) hc ok hg ht he I2 T st2 f2 w0 turn ?_;intro D C s' H' ys m q nD I6 hm o nC;exact⟨m,hm,fun h' sb=>⟨.ref D,_,o.go I6 nC sb,rfl,q D nD⟩⟩
theorem tK{i:Nat}{x:Str}{py spos:Pos}(hN:X.N.Nodup)(hix:X.N[i]?=some x)(hx:AU X.env.scope x)(hc:X.calm=true)(hi:PI X tg iter wi)(ok:bU X scope js)
  (hg:∀C s H ex pn,PG (mD X scope own js C s H ex pn m6) tg g) (ht:∀C s H ex pn,Dk (mD X scope own js C s H ex pn m6) ifs tt) (he:∀C s H ex pn,PE (mD X scope own js C s H ex pn m6) elt te)
  (hsw:swapsWith (.ListComp elt [⟨tg,iter,ifs,0⟩] scope pos) (some (.Name x py)) spos.line X.env=pure true)
  (hf:X.fn x=true∨X.env.scope.names.lookup x=some .local:=by first | exact .inl rfl | exact .inr rfl | assumption)
  (hs:∀x,foldedSetIterable iter X.env x=pure x:=by intro _;rfl):PS X (.Assign [.Name x py] (.ListComp elt [⟨tg,iter,ifs,0⟩] scope pos) spos) (v7 (yx own.length js wi g tt te) (nN i)):=by
 intro pins s σ H Dd I h;rw [exec_Assign_Name_used _ _ _ _ hsw];refine wpAny_bind (wpAny_standAt (wpAny_bind ?_));show wpAny _ X.A (do let _ ←comprehension (.ListComp elt [⟨tg,iter,ifs,0⟩] scope pos) scope X.env _ (newList []) false (eval iter X.env) (some (assign (.Name x py) X.env))) _ _ s
 refine wpAny_bind (wpAny_mono (wpAny_comprehension_free (use:=some (assign (.Name x py) X.env)) (Q:=fun _ s'=>SP X pins Dd .next s') rfl hs (gX (ok.clos I)) ok.kind ok.names
  (b6 (hi pins s σ H _ I h) fun v s1 h1=>b6 h1 fun itv s2 h2=>?_)) (fun _ s' hq=>wpAny_pure (wpAny_pure hq)) fun _ _ e=>e)
 obtain⟨it,fp,tn,J,H2,e,I2,T,st2,f2,W,⟨m0,w0⟩,turn⟩:=h2;subst e;refine kU (RR:=fun acc C=>compPost (model X.prog X.w) X.A X.xe (some (assign (.Name x py) X.env)) (fun _ s'=>SP X pins Dd .next s') acc C) hc ok hg ht he I2 T st2 f2 w0 turn ?_;intro D C s' H' ys m q nD I6 hm o nC;show wpAny _ X.A (assign (.Name x py) X.env (.ref D)) _ _ _;refine wpAny_assign_Name (oC I6 hN hix hx (v:=.ref D) rfl (fun s2' I7 ⟨a,sa,ha⟩=>?_) hf)
 have hCa:C≠a:=by
  rcases ha with e | e
  ·rw [e];exact o.ne
  ·exact fun z=>o.cells x a e z.symm
 exact⟨m,hm.sameBut sa hCa,fun h' sb=>⟨_,_,o.go I7 nC sb,q D nD⟩⟩
end
end L2
namespace L2
open PySem PySem.Spec PyProof.Rows
def yW(X:Cx)(tg:Expr)(r:V→Hp→(It→Hp→Prop)→Prop):Prop:=
 ∀(pins:List (Addr×Obj)) (s:Shared) (σ:St) (H:Hp) (x:V) (v:Value) (R:It→Hp→Prop),aH X pins σ H s→aN x v→r x H R→
  wpAny (model X.prog X.w) X.A (pyIter v) (Dj X pins σ tg R) X.xe s
def yY(z:Str):It:=⟨fun i _=>i < z.length,fun i H x H'=>H'=H∧∃c,z.cps[i]?=some c∧x=.str ⟨#[c]⟩,fun i _=>i=z.length⟩
theorem oK{P:Program}{w:World}{A:Around}(hh:A.handled=none)(I:Addr)(z:Str)(t:Tok){ty:String}(hty:ty="str_ascii_iterator"∨ty="str_iterator"):
  Walks P w A I [I] [I] z.cps.size (SignAt z) (fun i h=>h.IsStrIter I ty z t i):=by
 rcases hty with e | e
 ·subst e;exact Walks.strAscii hh I z t
 ·subst e;exact Walks.strWide hh I z t
theorem yG{P:Program}{w:World}{K:Frag}{tg:Expr}(z:Str)(t:Tok)(it:Addr){ty:String}(hty:ty="str_ascii_iterator"∨ty="str_iterator"):
  sL P w K tg (yY z) [it] it (fun i h=>h.IsStrIter it ty z t i) where
 mem:=by simp
 obj:=fun i h st b hb=>by
  have e:b=it:=by simpa using hb
  subst e;obtain⟨o,e,c,d⟩:=st;exact⟨o,e,fun v z=>by rw [d]at z;cases z⟩
 keep:=fun i h h' st k=>by
  obtain⟨o,e,r⟩:=st;exact⟨o,k it (by simp) o e,r⟩
 item:=by
  intro X hP hw hK hc i pins s σ H E I hf st hg;subst hP hw hK;obtain⟨f0,f1,f2,f3,f4,f5⟩:=hf it (by simp);refine(oK (I.ok.hd hc) it z t hty).item i s _ _ hg st fun v h' tk hv st' kk=>?_;obtain⟨c,u,hcz,rfl⟩:=hv;have I1:aH X pins σ H { s with heap:=h',toks:=tk }:=I.turned (fun b o hb e=>kk b o (by simpa using hb) e) f0 f1 f3 f4 f5;obtain⟨o,e,cl,d⟩:=id st'
  refine⟨_,rfl,uA (s:={ s with heap:=h',toks:=tk }) (n:=ty) e cl d (by rcases hty with q | q<;>(subst q;decide)) ⟨.str ⟨#[c]⟩,H,I1,⟨u,rfl⟩,⟨rfl,c,hcz,rfl⟩,st',fun b hb=>(hf b hb).1⟩⟩
 done:=by
  intro X hP hw hK hc i pins s σ H E I hf st hg;subst hP hw hK;obtain⟨f0,f1,f2,f3,f4,f5⟩:=hf it (by simp);have e:i=z.length:=hg;subst e;exact(oK (I.ok.hd hc) it z t hty).done s _ _ st fun h' tk kk=>⟨rfl,I.turned (fun b o hb e=>kk b o (by simpa using hb) e) f0 f1 f3 f4 f5⟩
 self:=fun A i s Q E st h=>by
  rcases hty with e | e
  ·subst e;exact wpAny_pyIter_striter_ascii st h
  ·subst e;exact wpAny_pyIter_striter_wide st h
section
variable {X:Cx} {tg:Expr}
theorem yW.or{r r':V→Hp→(It→Hp→Prop)→Prop}(h:yW X tg r)(h':yW X tg r'):yW X tg (fun x H R=>r x H R∨r' x H R):=by
 intro pins s σ H x v R I rx q;rcases q with q | q
 ·exact h pins s σ H x v R I rx q
 ·exact h' pins s σ H x v R I rx q
theorem it_list:yW X tg (fun x H R=>∃a,x=.ref a∧(∃xs,aV X.K H a xs)∧R (wz X.K a) H):=by
 intro pins s1 σ H1 x v R I1 r1 q1;obtain⟨a,e,⟨xs,hq⟩,q⟩:=q1;subst e;cases r1;obtain⟨its,rv,p,hz⟩:=I1.list hq;refine wpAny_pyIter_list p.isList ?_;refine⟨s1.heap.objs.size,[s1.heap.objs.size],_,_,H1,rfl,I1.kept (t':=s1.toks) fun b o e=>aa2 _ e,wb a _,⟨_,ab4 _ rfl,rfl,rfl⟩,fun b hb=>?_,q⟩
 have e:b=s1.heap.objs.size:=by simpa using hb
 subst e;exact I1.fpOk (aa7 _) (I1.hok.fresh (aa7 _))
theorem it_tup:yW X tg (fun x H R=>∃a,x=.ref a∧(∃xs,dI X.K H a xs)∧R (Dz X.K a) H):=by
 intro pins s1 σ H1 x v R I1 r1 q1;obtain⟨a,e,⟨xs,hq⟩,q⟩:=q1;subst e;cases r1;obtain⟨its,rv,p,hz⟩:=I1.tuple hq;refine wpAny_pyIter_tuple (show s1.heap.IsTuple a its.toArray from p) ?_;refine⟨s1.heap.objs.size,[s1.heap.objs.size],_,_,H1,rfl,I1.kept (t':=s1.toks) fun b o e=>aa2 _ e,t8 a _,⟨_,ab4 _ rfl,rfl,rfl⟩,fun b hb=>?_,q⟩
 have e:b=s1.heap.objs.size:=by simpa using hb
 subst e;exact I1.fpOk (aa7 _) (I1.hok.fresh (aa7 _))
theorem A8:yW X tg (fun x H R=>∃z,x=.str z∧R (yY z) H):=by
 intro pins s1 σ H1 x v R I1 r1 q1;obtain⟨z,e,q⟩:=q1;subst e;obtain⟨t,rfl⟩:=r1
 have fin:∀(o:Obj) (ty:String),(ty="str_ascii_iterator"∨ty="str_iterator")→(s1.heap.push o).IsStrIter s1.heap.objs.size ty z t 0→Dj X pins σ tg R (.ref s1.heap.objs.size) { s1 with heap:=s1.heap.push o }:=fun o ty hty st=>by
  refine⟨s1.heap.objs.size,[s1.heap.objs.size],_,_,H1,rfl,I1.kept (t':=s1.toks) fun b o e=>aa2 _ e,yG z t _ hty,st,fun b hb=>?_,q⟩
  have e:b=s1.heap.objs.size:=by simpa using hb
  subst e;exact I1.fpOk (aa7 _) (I1.hok.fresh (aa7 _))
 cases ha:z.cps.all (· < 128)
 ·exact wpAny_pyIter_wide ha (fin _ _ (.inr rfl) ⟨_,ab4 _ rfl,rfl,rfl⟩)
 ·exact wpAny_pyIter_ascii ha (fin _ _ (.inl rfl) ⟨_,ab4 _ rfl,rfl,rfl⟩)
def z6(K:Frag):V→Hp→(It→Hp→Prop)→Prop:=fun x H R=>(∃a,x=.ref a∧(∃xs,aV K H a xs)∧R (wz K a) H)∨(∃a,x=.ref a∧(∃xs,dI K H a xs)∧R (Dz K a) H)∨∃z,x=.str z∧R (yY z) H
theorem itA:yW X tg (z6 X.K):=it_list.or (it_tup.or A8)
def CC(r:V→Hp→(It→Hp→Prop)→Prop)(tl:TE):TI:=fun σ H R=>tl σ H fun x H1=>r x H1 R
theorem C3{l:Expr}{tl:TE}{r:V→Hp→(It→Hp→Prop)→Prop}(hr:yW X tg r)(hl:PE X l tl):PI X tg l (CC r tl):=by
 intro pins s σ H R I h;exact b6 (hl pins s σ H _ I h) fun v s1 ⟨x,H1,I1,r1,q1⟩=>hr pins s1 σ H1 x v R I1 r1 q1
theorem BF{l:Expr}{tl:TE}(hl:PE X l tl):PI X tg l (CC (z6 X.K) tl):=C3 itA hl
theorem cW{K:Frag}{H:Hp}{a:Addr}{xs:List V}{R:It→Hp→Prop}(h:aV K H a xs)(q:R (wz K a) H):z6 K (.ref a) H R:=.inl ⟨a,rfl,⟨xs,h⟩,q⟩
theorem z7{K:Frag}{H:Hp}{z:Str}{R:It→Hp→Prop}(q:R (yY z) H):z6 K (.str z) H R:=.inr (.inr ⟨z,rfl,q⟩)
end
theorem Dp{z:Str}{g:TG}{tb:TS}{D:eG}{σ:St}{H:Hp}(Pv:Nat→St→Hp→Prop)(h0:Pv 0 σ H)
  (hs:∀i c σ H,z.cps.toList[i]?=some c→Pv i σ H→g (.str ⟨#[c]⟩) σ H fun σ2 H2=>tb { D with nx:=Pv (i+1),ct:=Pv (i+1),bk:=D.nx } σ2 H2) (hd:∀σ H,Pv z.length σ H→D.nx σ H) :
  ∃W:Nat→Nat→St→Hp→Prop,(∃m,W 0 m σ H)∧∀i m σ H,W i m σ H→
   ((yY z).stop i H∧D.nx σ H)∨((yY z).go i H∧∃N:St→Hp→Prop,(∀σ' H',N σ' H'→∃m',m' < m∧W (i+1) m' σ' H')∧∀x H',(yY z).yld i H x H'→g x σ H' fun σ2 H2=>tb { D with nx:=N,ct:=N,bk:=D.nx } σ2 H2):=by
 refine⟨fun i m σ H=>m=z.length - i∧i≤z.length∧Pv i σ H,⟨z.length,by simp,ab5 _,h0⟩,?_⟩;rintro i m σ H ⟨rfl,hi,p⟩
 by_cases hlt:i < z.length
 ·refine .inr ⟨hlt,Pv (i+1),fun σ' H' p'=>⟨z.length - (i+1),by omega,rfl,hlt,p'⟩,fun x H' y=>?_⟩
  obtain⟨e,c,hc,e2⟩:=y;subst e e2;exact hs i c σ _ (by simpa using hc) p
 ·have e:i=z.length:=by omega
  subst e;exact .inl ⟨rfl,hd σ H p⟩
section
variable {n:Nat} {js:List Nat} {g:TG} {tt:TT} {te:TE} {σ:St} {H:Hp} {F:List V→Hp→Prop}
abbrev wq(J:It)(n:Nat)(js:List Nat)(g:TG)(tt:TT)(te:TE)(σ:St)(H:Hp)(F:List V→Hp→Prop):Prop:=
 ∃W:Nat→Nat→List V→Hp→Prop,(∃m,W 0 m [] H)∧∀i m ys H,W i m ys H→(J.stop i H∧F ys H)∨
  (J.go i H∧ys.length < sizeLine∧∃N:List V→Hp→Prop,(∀ys' H',N ys' H'→∃m',m' < m∧W (i+1) m' ys' H')∧∀x H',J.yld i H x H'→g x (cσ n js σ) H' fun σ2 H2=>tt σ2 H2 fun b H3=>if b=true then te σ2 H3 fun y H4=>N (ys++[y]) H4 else N ys H3)
abbrev nh(n:Nat)(js:List Nat)(g:TG)(tt:TT)(te:TE)(σ:St)(x:V)(ys:List V)(H:Hp)(N:List V→Hp→Prop):Prop:=
 g x (cσ n js σ) H fun σ2 H2=>tt σ2 H2 fun b H3=>if b=true then te σ2 H3 fun y H4=>N (ys++[y]) H4 else N ys H3
theorem vg{K:Frag}{a:Addr}{xs:List V}(Pv:Nat→List V→Hp→Prop)(hk:xs.length≤sizeLine)(h0:Pv 0 [] H)(hn:∀i ys H,Pv i ys H→ys.length≤i)(hl:∀i ys H,Pv i ys H→aV K H a xs)
  (hs:∀i x ys H,xs[i]?=some x→Pv i ys H→nh n js g tt te σ x ys H (Pv (i+1))) (hd:∀ys H,Pv xs.length ys H→F ys H):wq (wz K a) n js g tt te σ H F:=by
 refine⟨fun i m ys H=>m=xs.length - i∧i≤xs.length∧Pv i ys H,⟨xs.length,by simp,ab5 _,h0⟩,?_⟩;rintro i m ys H ⟨rfl,hi,p⟩;have q:=hl i ys H p
 by_cases hlt:i < xs.length
 ·refine .inr ⟨⟨xs,xs[i],q,by simp [hlt]⟩,aa8 (hn i ys H p) (ab1 hlt hk),Pv (i+1),fun σ' H' p'=>⟨xs.length - (i+1),by omega,rfl,hlt,p'⟩,fun x H' y=>?_⟩
  obtain⟨e,y⟩:=y;subst e;exact hs i x ys _ (y xs q) p
 ·have e:i=xs.length:=by omega
  subst e;exact .inl ⟨⟨xs,q,aa7 _⟩,hd ys H p⟩
theorem wV{z:Str}(Pv:Nat→List V→Hp→Prop)(hk:z.length≤sizeLine)(h0:Pv 0 [] H)(hn:∀i ys H,Pv i ys H→ys.length≤i)
  (hs:∀i c ys H,z.cps.toList[i]?=some c→Pv i ys H→nh n js g tt te σ (.str ⟨#[c]⟩) ys H (Pv (i+1))) (hd:∀ys H,Pv z.length ys H→F ys H):wq (yY z) n js g tt te σ H F:=by
 refine⟨fun i m ys H=>m=z.length - i∧i≤z.length∧Pv i ys H,⟨z.length,by simp,ab5 _,h0⟩,?_⟩;rintro i m ys H ⟨rfl,hi,p⟩
 by_cases hlt:i < z.length
 ·refine .inr ⟨hlt,aa8 (hn i ys H p) (ab1 hlt hk),Pv (i+1),fun σ' H' p'=>⟨z.length - (i+1),by omega,rfl,hlt,p'⟩,fun x H' y=>?_⟩
  obtain⟨e,c,hc,e2⟩:=y;subst e e2;exact hs i c ys _ (by simpa using hc) p
 ·have e:i=z.length:=by omega
  subst e;exact .inl ⟨rfl,hd ys H p⟩
end
theorem v5(xs:Array Nat):∀(n:Nat) (acc:Array Nat),((List.replicate n xs).foldl (· ++ ·) acc).size=acc.size+n * xs.size
 | 0,acc=>by simp
 | n+1,acc=>by
  rw [ad8,ag0,v5 xs n,ak2,aj4];omega
theorem nP(xs:Array Nat):∀(n:Nat) (acc:Array Nat),((List.replicate n xs).foldl (· ++ ·) acc).toList=acc.toList++(List.replicate n xs.toList).flatten
 | 0,acc=>by simp
 | n+1,acc=>by
  rw [ad8,ag0,nP xs n,ad8,ag9,Array.toList_append,ae2]
def fq(z:Str)(k:Int):Str:=if k < 1 then Str.empty else if (k == 1 || z.length == 0)=true then z else⟨(List.replicate k.toNat z.cps).foldl (· ++ ·) #[]⟩
theorem ip(z:Str)(k:Int):(fq z k).cps.toList=(List.replicate k.toNat z.cps.toList).flatten:=by
 unfold fq
 split
 ·have e:k.toNat=0:=by omega
  rw [e];rfl
 ·split
  ·rename_i h1 h2
   rw [al3]at h2;rcases h2 with h2 | h2
   ·have e:k=1:=by simpa using h2
    subst e;simp
   ·have e:z.cps.size=0:=by simpa [Str.length]using h2
    have e2:z.cps.toList=[]:=by
     rw [←af2];simpa using e
    rw [e2];simp
  ·simpa using nP z.cps k.toNat #[]
theorem rZ(z:Str)(k:Int):(fq z k).length=k.toNat * z.length:=by
 have e:(fq z k).length=(fq z k).cps.toList.length:=by simp [Str.length]
 rw [e,ip,pe];simp [Str.length]
section
variable {X:Cx} {a b c:Expr} {ta tb tc:TE} {pos:Pos}
theorem op_mulB:cQ X (binaryOp .Mult) (rI IntMulOk fun i j=>.int (i * j)):=CO fun _ _ _ _ _ _ _ hc q=>mul_int q hc
theorem op_mul_str:cQ X (binaryOp .Mult) (fun x y H Q=>∃z k,x=.str z∧y=.int k∧(-1000000≤k∧k≤1000000∧z.length≤16)∧Q (.str (fq z k)) H):=by
 intro pins s σ H x y v u Q I rx ry h;obtain⟨z,k,rfl,rfl,⟨h2,h1,h3⟩,q⟩:=h;obtain⟨t,rfl⟩:=rx;obtain⟨t',rfl⟩:=ry;have hs:sizeLine=16777216:=sizeLine_eq;have hl:=rZ z k;have hb:z.length * k.toNat≤16 * 1000000:=Nat.mul_le_mul h3 (by omega);rw [ak7]at hl;have fin:∀t' tk,EP X pins σ Q (.str (fq z k) t') { s with toks:=tk }:=fun t' tk=>⟨.str _,H,I.tok _,⟨t',rfl⟩,q⟩;refine P.mul_str ?_ (fun h4 h5=>?_) (fun h4 h5=>?_) ?_
 ·have e1:¬k < -(2 ^ 63:Int):=by omega
  have e2:¬k≥2 ^ 63:=by omega
  rw [decide_eq_false e1,decide_eq_false e2];rfl
 ·have h6:(16:Int)≤(2 ^ 63 - 1) / k:=by
   rw [Int.le_ediv_iff_mul_le (by omega)];omega
  omega
 ·unfold Builtin.Str.tooLong
  exact decide_eq_false (by omega)
 ·unfold fq at fin hl
  by_cases h4:k < 1
  ·rw [if_pos h4]at fin ⊢
   exact⟨by decide,fin _ _⟩
  ·rw [if_neg h4]at fin hl ⊢
   by_cases h5:(k == 1 || z.length == 0)=true
   ·rw [if_pos h5]at fin ⊢
    exact fin t s.toks
   ·rw [if_neg h5]at fin hl ⊢
    exact⟨by omega,fin _ _⟩
def j4:R2:=fun x y H Q=>rI IntMulOk (fun i j=>.int (i * j)) x y H Q∨(∃z k,x=.str z∧y=.int k∧(-1000000≤k∧k≤1000000∧z.length≤16)∧Q (.str (fq z k)) H)∨Ac x y H Q
theorem opMul:cQ X (binaryOp .Mult) j4:=op_mulB.or (op_mul_str.or Bz)
theorem rS{i j:Int}{H:Hp}{Q:VK}:j4 (.int i) (.int j) H Q↔IntMulOk i j∧Q (.int (i * j)) H:=by
 simp [j4,rI,Ac]
theorem rT{z:Str}{j:Int}{H:Hp}{Q:VK}:j4 (.str z) (.int j) H Q↔(-1000000≤j∧j≤1000000∧z.length≤16)∧Q (.str (fq z j)) H:=by
 simp [j4,rI,Ac]
def dh(K:Frag):R2:=fun x y H Q=>sD (fun i j=>.int (i+j)) x y H Q∨(∃i j,x=.str i∧y=.str j∧i.length+j.length≤sizeLine∧Q (.str (i++j)) H)∨zY x y H Q∨uO K x y H Q
theorem CM:cQ X (binaryOp .Add) (dh X.K):=op_add.or (op_add_str.or (op_cat.or zP))
theorem lY{K:Frag}{i j:Int}{H:Hp}{Q:VK}:dh K (.int i) (.int j) H Q↔Q (.int (i+j)) H:=by
 simp [dh,sD,zY,uO]
theorem rAddA_ss{K:Frag}{i j:Str}{H:Hp}{Q:VK}:dh K (.str i) (.str j) H Q↔i.length+j.length≤sizeLine∧Q (.str (i++j)) H:=by
 simp [dh,sD,zY,uO]
theorem lZ{K:Frag}{l b:Addr}{xs zs:List V}{H:Hp}{Q:VK}(h1:H l=some (.lst xs))(h2:H b=some (.lst zs))(hz:xs.length+zs.length≤sizeLine)(q:∀p,H p=none→Q (.ref p) (upd H p (.lst (xs++zs)))):dh K (.ref l) (.ref b) H Q:=
 .inr (.inr (.inl ⟨l,b,xs,zs,rfl,rfl,h1,h2,hz,q⟩))
def BR:V→Option Int→Option Int→Hp→VK→Prop:=fun x lo hi H Q=>∃z,x=.str z∧z.length≤sizeLine∧Q (.str (Txt.slice z lo hi)) H
theorem B3:yO X BR:=by
 intro pins s σ H x v vl vu lo hi sl Q I rx hs pl pu h;obtain⟨z,rfl,hz,q⟩:=h;obtain⟨t,rfl⟩:=rx;have fin:∀t' tk,EP X pins σ Q (.str (Txt.slice z lo hi) t') { s with toks:=tk }:=fun t' tk=>⟨.str _,H,I.tok _,⟨t',rfl⟩,q⟩;refine⟨"str",_,F.slot_str_getitem.lookup,typeIs_str _ _ _,?_⟩
 cases pl with
 | none=>cases pu with
  | none=>exact wpAny_getItem_str_slice (l:=none) (u:=none) (st:=none) hs rfl (post_val_or_str ⟨aa9 (Txt.slice_le z _ _) hz,fun t' k=>fin t' k⟩)
  | int j u=>exact wpAny_getItem_str_slice (l:=none) (u:=some (j,u)) (st:=none) hs rfl (post_val_or_str ⟨aa9 (Txt.slice_le z _ _) hz,fun t' k=>fin t' k⟩)
 | int i u=>cases pu with
  | none=>exact wpAny_getItem_str_slice (l:=some (i,u)) (u:=none) (st:=none) hs rfl (post_val_or_str ⟨aa9 (Txt.slice_le z _ _) hz,fun t' k=>fin t' k⟩)
  | int j u'=>exact wpAny_getItem_str_slice (l:=some (i,u)) (u:=some (j,u')) (st:=none) hs rfl (post_val_or_str ⟨aa9 (Txt.slice_le z _ _) hz,fun t' k=>fin t' k⟩)
def vW(K:Frag):V→Option Int→Option Int→Hp→VK→Prop:=fun x lo hi H Q=>BQ K x lo hi H Q∨BS K x lo hi H Q∨BR x lo hi H Q
theorem slA:yO X (vW X.K):=sl_list.or (sl_tup.or B3)
theorem BP{K:Frag}{z:Str}{lo hi:Option Int}{H:Hp}{Q:VK}:vW K (.str z) lo hi H Q↔z.length≤sizeLine∧Q (.str (Txt.slice z lo hi)) H:=by
 simp [vW,BQ,BS,BR]
theorem bx{K:Frag}{a:Addr}{xs:List V}{lo hi:Option Int}{H:Hp}{Q:VK}(h:aV K H a xs)(q:∀p,H p=none→Q (.ref p) (upd H p (.lst (jl xs lo hi)))):vW K (.ref a) lo hi H Q:=.inl ⟨a,xs,rfl,h,q⟩
theorem ixA:wA X (AO X.K):=Bb
theorem C5{K:Frag}{z:Str}{i:Int}{H:Hp}{Q:VK}:AO K (.str z) (.int i) H Q↔z.length≤sizeLine∧∃c,eF z.cps.toList i=some c∧Q (.str ⟨#[c]⟩) H:=by
 simp [AO,BM,BO,BN]
theorem ba{K:Frag}{p:Addr}{xs:List V}{i:Int}{v:V}{H:Hp}{Q:VK}(h:aV K H p xs)(hv:eF xs i=some v)(q:Q v H):AO K (.ref p) (.int i) H Q:=.inl ⟨p,xs,i,v,rfl,rfl,h,hv,q⟩
theorem oa{K:Frag}{p:Addr}{xs:List V}{i:Int}{v:V}{H:Hp}{Q:VK}(h:dI K H p xs)(hv:eF xs i=some v)(q:Q v H):AO K (.ref p) (.int i) H Q:=.inr (.inl ⟨p,xs,i,v,rfl,rfl,h,hv,q⟩)
theorem opEq:cQ X (compareOp .Eq) n9:=CT
theorem opNe:cQ X (compareOp .NotEq) og:=CV
theorem jA:cQ X (compareOp .Lt) (sD fun i j=>.bl (decide (i < j))):=CU
theorem rEq_ii{i j:Int}{H:Hp}{Q:VK}:n9 (.int i) (.int j) H Q↔Q (.bl (decide (i=j))) H:=by simp [n9,r9]
theorem pW{i j:Int}{H:Hp}{Q:VK}:og (.int i) (.int j) H Q↔Q (.bl (!decide (i=j))) H:=by simp [og,r9]
theorem pU{i j:Str}{H:Hp}{Q:VK}:n9 (.str i) (.str j) H Q↔Q (.bl (decide (i=j))) H:=by simp [n9,r9]
theorem pX{i j:Str}{H:Hp}{Q:VK}:og (.str i) (.str j) H Q↔Q (.bl (!decide (i=j))) H:=by simp [og,r9]
theorem yh{i j:Bool}{H:Hp}{Q:VK}:n9 (.bl i) (.bl j) H Q↔Q (.bl (decide (i=j))) H:=by simp [n9,r9]
theorem yl{i j:Bool}{H:Hp}{Q:VK}:og (.bl i) (.bl j) H Q↔Q (.bl (!decide (i=j))) H:=by simp [og,r9]
def yi(K:Frag):R2:=fun x y H Q=>(∃i j,x=.str i∧y=.str j∧Q (.bl (!(Builtin.Str.occurrences j i 0 j.length 1).isEmpty)) H)∨Cn K false x y H Q
def gO(K:Frag):R2:=fun x y H Q=>(∃i j,x=.str i∧y=.str j∧Q (.bl (!(!(Builtin.Str.occurrences j i 0 j.length 1).isEmpty))) H)∨Cn K true x y H Q
theorem DJ:cQ X (compareOp .In) (yi X.K):=op_in_str.or vR
theorem zO:cQ X (compareOp .NotIn) (gO X.K):=op_notin_str.or pL
theorem BK{K:Frag}{c:Nat}{z:Str}{H:Hp}{Q:VK}:yi K (.str ⟨#[c]⟩) (.str z) H Q↔Q (.bl (decide (c∈z.cps.toList))) H:=by
 simp [yi,Cn,StrLaws.found_one]
theorem vV{K:Frag}{c:Nat}{z:Str}{H:Hp}{Q:VK}:gO K (.str ⟨#[c]⟩) (.str z) H Q↔Q (.bl (!decide (c∈z.cps.toList))) H:=by
 have e':(Builtin.Str.occurrences z ⟨#[c]⟩ 0 z.length 1).isEmpty=!decide (c∈z.cps.toList):=by
  rw [←StrLaws.found_one z c,Bool.not_not]
 simp [gO,Cn,e']
theorem vd:bT X (.builtin "len") (fun xs H Q=>(∃z,xs=[.str z]∧z.length≤sizeLine∧Q (.int z.length) H)∨∃p ys,xs=[.ref p]∧(aV X.K H p ys∨dI X.K H p ys)∧Q (.int ys.length) H):=call_len_str.or o7
theorem call_int_text:bT X (.type "int") (fun xs H Q=>∃z n,xs=[.str z]∧intText? z=some n∧z.length≤640∧Q (.int n) H):=by
 intro pins s σ H xs us Q I r h;obtain⟨z,n,rfl,hn,hl,q⟩:=h;obtain⟨u,rfl,ru⟩:=d2 r;obtain⟨t,rfl⟩:=ru;exact PySem.W.KIN.call_text hn hl ⟨.int n,H,I.tok _,⟨_,rfl⟩,q⟩
theorem du:bT X (.type "int") (fun xs H Q=>(∃z n,xs=[.str z]∧intText? z=some n∧z.length≤640∧Q (.int n) H)∨((∃i,xs=[.int i]∧Q (.int i) H)∨∃k,xs=[.bl k]∧Q (.int (if k then 1 else 0)) H)):=call_int_text.or vb
theorem g4:wj X "str.startswith" (fun x xs H Q=>∃z y,x=.str z∧xs=[.str y]∧Q (.bl (Txt.startswith z y)) H):=by
 intro pins s σ H x xs v us Q I rx r h;obtain⟨z,y,rfl,rfl,q⟩:=h;obtain⟨t,rfl⟩:=rx;obtain⟨u,rfl,t',rfl⟩:=d2 r;exact SC.startswith ⟨.bl _,H,I,rfl,q⟩
theorem qM:bT X (.builtin "isinstance") (fun xs H Q=>∃x n t b,xs=[x,.ty n]∧iG X.K H x t∧kitOne X.K t (.type n)=some b∧Q (.bl b) H):=by
 intro pins s σ H xs us Q I r h;obtain⟨x,n,t,b,rfl,ty,e,q⟩:=h;obtain⟨u,w',rfl,ru,rw'⟩:=mw r;cases rw';exact vy I ru ty e fun tk=>⟨.bl b,H,I.tok _,rfl,q⟩
theorem iA:∀{bs:List Bool} {us:List Value},aR (bs.map V.bl) us→us=bs.map Value.bool
 | [],_,.nil=>rfl
 | b::bs,_,.cons r t=>by
  have e:_=Value.bool b:=r;rw [ac1,e,iA t]
theorem vX(bs:List Bool):(List.range bs.length).all (fun i=>bs.getD i true)=bs.all id:=by
 induction bs with
 | nil=>rfl
 | cons b bs ih=>
  rw [aa6,List.range_succ_eq_map,ae1,ah9,ae1,←ih];rfl
theorem vY(bs:List Bool):(List.range bs.length).any (fun i=>bs.getD i true)=bs.any id:=by
 induction bs with
 | nil=>rfl
 | cons b bs ih=>
  rw [aa6,List.range_succ_eq_map,ak3,List.any_map,ak3,←ih];rfl
theorem u7(hc:X.calm=true):bT X (.builtin "all") (fun xs H Q=>∃(p:Addr) (bs:List Bool),xs=[.ref p]∧aV X.K H p (bs.map V.bl)∧Q (.bl (bs.all id)) H):=by
 intro pins s σ H xs us Q I r h;obtain⟨p,bs,rfl,hq,q⟩:=h;obtain⟨u,rfl,ru⟩:=d2 r;cases ru;obtain⟨its,rv,pl,hz⟩:=I.list hq;have e:=iA rv;subst e;have hh:X.A.in1.handled=none:=I.ok.hd hc;refine call_all_walk (wpAny_pyIter_list pl.isList ⟨s.heap.objs.size,[s.heap.objs.size,p],[s.heap.objs.size],_,_,_,fun i=>bs.getD i true,rfl,Walks.list hh _ p ?_ _,⟨⟨_,ab4 _ rfl,rfl,rfl⟩,pl.isList.push _⟩,?_,fun h' tk hk=>?_⟩)
 ·obtain⟨o,n,e,_⟩:=pl
  exact ab7 (ab0 e)
 ·intro i v s' Q' E' hv hQ'
  have hv':(bs.map Value.bool)[i]?=some v:=by simpa using hv
  rw [ac2]at hv'
  cases hb:bs[i]? with
  | none=>rw [hb]at hv';cases hv'
  | some b=>
   rw [hb]at hv';cases hv';have hQ2:Q' (bs.getD i true) s':=hQ';rw [ad3,hb]at hQ2;exact wpAny_truthy_bool hQ2
 ·refine⟨.bl (bs.all id),H,I.kept (h':=h') (t':=tk) fun b o e=>hk b o ?_ (aa2 _ e),?_,q⟩
  ·intro z
   have z':b=s.heap.objs.size:=by simpa using z
   exact absurd (ab0 e) (by rw [z'];exact af3 _)
  ·show Value.bool _=Value.bool _
   rw [←vX];simp
theorem eU{x:Str}{v:V}{pos:Pos}(h:∃u,X.mg x=some u∧aN v u)(hg:Gl X x:=by rfl)(hd:(x == ("__debug__":Str))=false:=by decide):PE X (.Name x pos) (tC v):=
 let ⟨_,hm,r⟩:=h;zT hg hm r hd
end
structure cn(P:Program)(w:World)(K:Frag)(mg:Str→Option Value)(base:Heap)(x:Str)(k:Nat)(ps:List Str)(sp:Sp):Prop where
 ex:∃(f:Addr) (fd:FuncData),az P w K mg base bH k f fd ps sp∧mg x=some (.ref f)∧keepIn K (.ref f)=true∧cM K fd ps []
section
variable {X:Cx} {k:Nat} {ps:List Str} {sp:Sp} {x:Str} {p pos:Pos} {e:Expr} {es:List Expr} {t:TA}
theorem aJ(d:cn X.prog X.w X.K X.mg X.base x k ps sp)(hr:cD k X.A)(hg:Gl X x)(ha:PA X (e::es) t)(hdb:(x == ("__debug__":Str))=false:=by decide)
  (he:starEach (e::es) X.env=(false,eval e X.env)::starEach es X.env:=by rfl) (hpl:(backTo pos (starEach es X.env)).any (·.1)=false:=by rfl):PE X (.Call (.Name x p) (e::es) [] pos) (mq sp [] E0 t):=
 let ⟨_,_,F,hm,hk,hb⟩:=d.ex;uI F hr hg hm hk hb .nil nZ ha hdb he hpl
end
end L2
namespace L3
open PySem PySem.Spec PyProof.Rows
section
variable {prog:Program} {w:World} {A:Around} {E:Value→Shared→Prop} {s:Shared}
theorem ph{it t:Addr}{i:Nat}{its:Array Value}{x:Value}{Q:Value→Shared→Prop}(qi:s.heap.IsTupleIter it t i)(qt:s.heap.IsTuple t its)(qx:its[i]?=some x)
  (hQ:∀h',h'.IsTupleIter it t (i+1)→Heap.SameBut it s.heap h'→Q x { s with heap:=h' }):wpAny (model prog w) A (Builtin.SmallTypes.nextOf (.ref it)) Q E s:=by
 obtain⟨oi,qo,qc,qd⟩:=id qi;obtain⟨ot,qot,_,nt,qdt⟩:=qt;unfold Builtin.SmallTypes.nextOf;refine wpAny_bind (wpAny_callSpecial?_slot (name:=Str.ofString "__next__") qi.typeIs F.slot_tuple_iterator_next (wpAny_call_entry F.slot_tuple_iterator_next qi.typeIs F.entry_tuple_iterator_next ?_ (F.args_tuple_iterator_next_1 _)));show wpAny _ _ (field (.ref it) 0 >>= _) _ _ s;refine wpAny_bind (wpAny_field qo qd (x:=.ref t) rfl ?_);show wpAny _ _ (if (Value.ref t == Value.none)=true then _ else _) _ _ s;rw [if_neg (show ¬((Value.ref t == Value.none)=true)from aa1)];show wpAny _ _ (field (.ref it) 1 >>= _) _ _ s;refine wpAny_bind (wpAny_field qo qd (x:=.int i 0) rfl ?_);show wpAny _ _ (seqItems? (.ref t) >>= _) _ _ s;refine wpAny_bind (wpAny_seqItems qot qdt ?_);simp only [ag8,qx];refine wpAny_bind (wpAny_setField qo qd (by simp) (wpAny_pure ⟨x,rfl,wpAny_pure (hQ _ ?_ (Heap.SameBut.update ..))⟩));exact⟨_,af8 _ qo (Obj.isFreed_of_fields (Obj.data_mapFields qd _)),(Obj.cls_mapFields ..).trans qc,by rw [Obj.data_mapFields qd];simp [rawInt]⟩
theorem rA{it t:Addr}{i:Nat}{its:Array Value}{Q:Value→Shared→Prop}(hh:A.handled=none)(qi:s.heap.IsTupleIter it t i)(qt:s.heap.IsTuple t its)(qx:its[i]?=none)
  (hE:∀h' e,Heap.ExtBut it s.heap h'→(∃o,h'.get? e=some o∧o.cls=.type "StopIteration")→E (.ref e) { s with heap:=h' }):wpAny (model prog w) A (Builtin.SmallTypes.nextOf (.ref it)) Q E s:=by
 obtain⟨oi,qo,qc,qd⟩:=id qi;obtain⟨ot,qot,_,nt,qdt⟩:=qt;unfold Builtin.SmallTypes.nextOf;refine wpAny_bind (wpAny_callSpecial?_slot (name:=Str.ofString "__next__") qi.typeIs F.slot_tuple_iterator_next (wpAny_call_entry F.slot_tuple_iterator_next qi.typeIs F.entry_tuple_iterator_next ?_ (F.args_tuple_iterator_next_1 _)));show wpAny _ _ (field (.ref it) 0 >>= _) _ _ s;refine wpAny_bind (wpAny_field qo qd (x:=.ref t) rfl ?_);show wpAny _ _ (if (Value.ref t == Value.none)=true then _ else _) _ _ s;rw [if_neg (show ¬((Value.ref t == Value.none)=true)from aa1)];show wpAny _ _ (field (.ref it) 1 >>= _) _ _ s;refine wpAny_bind (wpAny_field qo qd (x:=.int i 0) rfl ?_);show wpAny _ _ (seqItems? (.ref t) >>= _) _ _ s;refine wpAny_bind (wpAny_seqItems qot qdt ?_);simp only [ag8,qx];refine wpAny_bind (wpAny_rule (wpAny_bind (wpAny_setField qo qd (by simp) ?_)));show wpAny _ _ (newExc (.type "StopIteration") [] >>= _) _ _ _;refine wpAny_bind ?_;simp only [newExc,newTuple]
 refine wpAny_bind (wpAny_newObj_type ?_ (by size_fits));refine wpAny_bind (m:=firstArgMember _ _) (wpAny_of_eq (a:=Value.none) (by first | rfl | (simp only [firstArgMember];rfl)) ?_)
 refine wpAny_newObj_type ?_ (by size_fits);simp only [raiseNew];refine wpAny_bind (wpAny_handled ?_)
 first | rw [show A.in1.handled=none from hh] | rw [hh]
 exact wpAny_bind (wpAny_pure (wpAny_throw (hE _ _ (((Heap.SameBut.update ..).extBut.push _).push _) ⟨_,ab4 _ rfl,rfl⟩)))
end
theorem draws_tuple{prog:Program}{w:World}{A:Around}(hh:A.handled=none)(it t:Addr)(hne:t≠it)(its:Array Value):
  Draws prog w A it [it,t] its.size (fun i v=>its[i]?=some v) (fun i h=>h.IsTupleIter it t i∧h.IsTuple t its) where
 live:=fun _ _ st=>let ⟨o,ho,_⟩:=st.1;⟨o,ho⟩
 frame:=fun _ _ _ st hk=>⟨st.1.at fun o e=>hk it (by simp) o e,let ⟨o,ho,r⟩:=st.2;⟨o,hk t (by simp) o ho,r⟩⟩
 item:=fun i s Q E hi st hQ=>ph st.1 st.2 (x:=its[i]) (by simp [hi]) fun h' qi qs=>hQ _ h' s.toks (by simp [hi]) ⟨qi,st.2.extBut qs.extBut hne⟩ qs
 done:=fun s Q E st hE=>rA hh st.1 st.2 (by simp) hE
section
variable {prog:Program} {w:World} {A:Around} {E:Value→Shared→Prop} {s:Shared} {z TI TO i1 i2:Addr} {f1 f2:List Addr} {n1 n2 k:Nat} {P1 P2:Nat→Value→Prop} {S1 S2:Nat→Heap→Prop} {a b:Value}
end
def itRec(l:Bool)(a:Addr):Obj:={ cls:=.type (if l then "list_iterator" else "tuple_iterator"),data:=.fields #[.ref a,.int 0 0] }
def IsSeq(l:Bool)(h:Heap)(a:Addr)(xs:Array Value):Prop:=if l=true then h.IsList a xs else h.IsTuple a xs
theorem IsSeq.push{l:Bool}{h:Heap}{a:Addr}{xs:Array Value}(q:IsSeq l h a xs)(o:Obj):IsSeq l (h.push o) a xs:=by
 cases l
 ·exact Heap.IsTuple.push (show h.IsTuple a xs from q) o
 ·exact Heap.IsList.push (show h.IsList a xs from q) o
theorem lD{prog:Program}{w:World}{A:Around}{E:Value→Shared→Prop}{s:Shared}{l:Bool}{a:Addr}{xs:Array Value}{Q:Value→Shared→Prop}(q:IsSeq l s.heap a xs)(h:Q (.ref s.heap.objs.size) { s with heap:=s.heap.push (itRec l a) }):wpAny (model prog w) A (pyIter (.ref a)) Q E s:=by
 cases l
 ·exact wpAny_pyIter_tuple (show s.heap.IsTuple a xs from q) h
 ·exact wpAny_pyIter_list (show s.heap.IsList a xs from q) h
section
variable {prog:Program} {w:World} {A:Around} {E:Value→Shared→Prop} {s:Shared}
end
end L3
namespace L2
open PySem PySem.Spec PyProof.Rows
def jW(K:Frag)(l:Bool)(H:Hp)(a:Addr)(xs:List V):Prop:=if l=true then aV K H a xs else dI K H a xs
def mB(l:Bool)(h:Heap)(it a:Addr)(i:Nat):Prop:=if l=true then h.IsListIter it a i else h.IsTupleIter it a i
theorem mB.at{l:Bool}{h h':Heap}{it a:Addr}{i:Nat}(x:mB l h it a i)(e:∀o,h.get? it=some o→h'.get? it=some o):mB l h' it a i:=by
 cases l
 ·exact Heap.IsTupleIter.at (show h.IsTupleIter it a i from x) e
 ·exact Heap.IsListIter.at (show h.IsListIter it a i from x) e
theorem mB.rec{l:Bool}{h:Heap}{it a:Addr}(e:h.get? it=some (L3.itRec l a)):mB l h it a 0:=by
 cases l
 ·exact⟨_,e,rfl,rfl⟩
 ·exact⟨_,e,rfl,rfl⟩
theorem mB.obj{l:Bool}{h:Heap}{it a:Addr}{i:Nat}(x:mB l h it a i):∃o,h.get? it=some o∧∀v,o.data≠.cell v:=by
 cases l
 ·obtain⟨o,e,_,d⟩:=(show h.IsTupleIter it a i from x)
  exact⟨o,e,fun v z=>by rw [d]at z;cases z⟩
 ·obtain⟨o,e,_,d⟩:=(show h.IsListIter it a i from x)
  exact⟨o,e,fun v z=>by rw [d]at z;cases z⟩
theorem nu{P:Program}{w:World}{A:Around}(hh:A.handled=none)(l:Bool)(it a:Addr)(hne:a≠it)(its:Array Value):
  Draws P w A it [it,a] its.size (fun i v=>its[i]?=some v) (fun i h=>mB l h it a i∧L3.IsSeq l h a its):=by
 cases l
 ·exact L3.draws_tuple hh it a hne its
 ·exact Draws.list hh it a hne its
theorem aH.seqB{X:Cx}{pins:List (Addr×Obj)}{σ:St}{H:Hp}{s:Shared}{l:Bool}{a:Addr}{xs:List V}(I:aH X pins σ H s)(h:jW X.K l H a xs):∃its:List Value,aR xs its∧L3.IsSeq l s.heap a its.toArray∧xs.length≤sizeLine:=by
 cases l
 ·obtain⟨its,r,p,z⟩:=I.tuple (show dI X.K H a xs from h)
  exact⟨its,r,p,z⟩
 ·obtain⟨its,r,p,z⟩:=I.list (show aV X.K H a xs from h)
  exact⟨its,r,p.isList,z⟩
theorem aH.seqB_inj{X:Cx}{pins:List (Addr×Obj)}{σ:St}{H:Hp}{s:Shared}{l:Bool}{a:Addr}{xs ys:List V}(I:aH X pins σ H s)(h:jW X.K l H a xs)(h':jW X.K l H a ys):xs=ys:=by
 cases l
 ·exact I.tuple_inj (show dI X.K H a xs from h) h'
 ·exact I.list_inj (show aV X.K H a xs from h) h'
theorem aH.seqB_ne{X:Cx}{pins:List (Addr×Obj)}{σ:St}{H:Hp}{s:Shared}{l:Bool}{a b:Addr}{xs:List V}(I:aH X pins σ H s)(h:jW X.K l H a xs)(f:kR X pins H b):a≠b:=by
 obtain⟨f0,_,_,f3,_,_⟩:=f
 have tr:∀{o:HO},Rd H a o→a≠b:=fun {o} r=>by
  rcases r with r | ⟨_,r⟩
  ·exact ak r f0
  ·exact ak r f0
 have kb:∀{o:Obj},X.K.lookup a=some o→a≠b:=fun {o} hk=>by
  have hb:=I.ok.mod.kin a o hk;rcases f3 with z | z
  ·exact fun q=>I.ok.noex a o hb (q▸z)
  ·exact ab7 (ab1 (ab0 hb) (aa9 I.ok.bsz z))
 cases l
 ·rcases(show dI X.K H a xs from h)with h | ⟨o,_,_,hk,_⟩
  ·exact tr h
  ·exact kb hk
 ·rcases(show aV X.K H a xs from h)with h | ⟨o,_,_,hk,_⟩
  ·exact tr h
  ·exact kb hk
def Itz(K:Frag)(l1 l2:Bool)(a1 a2:Addr):It:=
 ⟨fun i H=>∃xs ys x y,jW K l1 H a1 xs∧jW K l2 H a2 ys∧xs[i]?=some x∧ys[i]?=some y,
  fun i H v H'=>∃p x y,v=.ref p∧H p=none∧H'=upd H p (.tup [x,y])∧(∀xs,jW K l1 H a1 xs→xs[i]?=some x)∧∀ys,jW K l2 H a2 ys→ys[i]?=some y,
  fun i H=>∃xs ys,jW K l1 H a1 xs∧jW K l2 H a2 ys∧(i=xs.length∨(i < xs.length∧i=ys.length))⟩
def CD(K:Frag)(ta:TA):TI:=fun σ H R=>ta σ H fun vs H1=>∃l1 l2 a1 a2,vs=[.ref a1,.ref a2]∧(∃xs,jW K l1 H1 a1 xs)∧(∃ys,jW K l2 H1 a2 ys)∧R (Itz K l1 l2 a1 a2) H1
end L2
namespace L2
open PySem PySem.Spec PyProof.Rows
def Ite(K:Frag)(a:Addr):It:=
 ⟨fun i H=>∃xs x,aV K H a xs∧xs[i]?=some x,
  fun i H v H'=>∃p x,v=.ref p∧H p=none∧H'=upd H p (.tup [.int i,x])∧∀xs,aV K H a xs→xs[i]?=some x,
  fun i H=>∃xs,aV K H a xs∧i=xs.length⟩
def AD(K:Frag)(ta:TA):TI:=fun σ H R=>ta σ H fun vs H1=>∃a,vs=[.ref a]∧(∃xs,aV K H1 a xs)∧R (Ite K a) H1
end L2
namespace L2
open PySem PySem.W PySem.Spec PySem.Calls PyProof.Rows
def GB:Nat:=1048576
theorem iP:∀{ns:List Int},WData.weightAll (ns.map WData.int)≤2 ^ 20→∀x∈ns,x.natAbs < 2 ^ GB
 | [],_,_,h=>nomatch h
 | n::ns,hw,x,h=>by
  have e:WData.weightAll ((n::ns).map WData.int)=(if n == 0 then 0 else n.natAbs.log2+1)+1+WData.weightAll (ns.map WData.int):=by
   simp only [ac1,WData.weightAll,WData.weight]
  rw [e]at hw;rcases aa5.mp h with rfl | h
  ·by_cases h0:x=0
   ·subst h0;exact Nat.two_pow_pos _
   ·have hb:(x == 0)=false:=by simpa using h0
    rw [hb]at hw
    have hl:x.natAbs.log2 < GB:=by
     have:(2:Nat) ^ 20=GB:=by decide
     rw [←this];simp only [af5,if_false]at hw;omega
    exact(Nat.log2_lt (by omega)).mp hl
  ·exact iP (ns:=ns) (by omega) x h
theorem v3{ns:List Int}(h:WData.layableAll [WData.list (ns.map WData.int)]=true):∀x∈ns,x.natAbs < 2 ^ GB:=by
 have h1:=(layableW_iff.mp (layableW_arg h _ ab9)).2.2;exact iP (by simpa only [WData.weight]using h1)
theorem walk_ofB{l:PySem.W.OpenLaw}{n k:Nat}{q:Program}{loose:List Str}{XP:(Str→Option Value)→Heap→Prop}{YP:World→Heap→Prop}{d:DefRec}{K:Params→Frag}{CX:World→qH}{sp:World→Sp}{x:Str}
  (hn:l.most=some n) (hn2:n≤sizeLine) (hdf:d.params.defaults=[]) (hr:cD k callerA)
  (hY:∀(w:World) (h:Heap),YP w h→(K w.params).In h)
  (F:∀(w:World) (mg:Str→Option Value) (fa:Addr) (h:Heap),(K w.params).In h→h.Ns mainGlobals mg→mg d.name=some (.ref fa)→
   ∃fd:FuncData,(∀(s:Shared) (u:Value),BindsTo s fd ⟨[u],[]⟩ [(x,u)])∧∀base:Heap,(K w.params).In base→base.Ns mainGlobals mg→az l.prog w (K w.params) mg base (CX w) k fa fd [x] (sp w))
  (hsp:∀(w:World) (H:Hp) (a:Addr) (ns:List Int),ns.length≤n→(∀x∈ns,x.natAbs < 2 ^ GB)→yZ H→aV (K w.params) H a (ns.map V.int)→sp w [.ref a] H (fun v _=>v=.bl true) fun _ _ _=>False)
  (hCX:∀(w:World) (H:Hp) (s:Shared) (e:Value) (s':Shared),CX w [] H s (fun _ _ _=>False) e s'→False) :
  PySem.W.WalkO q loose XP YP l.row.toRowW d [] (fun f vs=>PySem.call f vs):=by
 intro w s₀ s₁ mg mb G Y fa o pm cd doc dV kV ho hd hcd hD hmg hg args vals as hpre hlay hrd hwl hlo;obtain rfl:dV=.none:=Dflts.none hD hdf;obtain rfl:kV=.none:=Dflts.noKw hD;obtain⟨a,vs,ns,rfl,rfl,hobj,hints,hlen⟩:=Att.script_of hn hpre hwl;have KX:=hY w _ Y;obtain⟨fd,hb,hF⟩:=F w mg fa _ KX G.T.g hmg;refine enter_call (codeAny_mono (rq KX G.T.g G.T.b G.T.builtins G.T.nolimit hg hobj hints (aa9 hlen hn2) hr hF hb (fun H hO hS=>hsp w H a ns hlen (v3 hlay) hO hS) fun H e s'=>hCX w H s₁ e s') fun r s' hq=>?_);obtain⟨rfl,h2,h3,h4⟩:=hq;exact⟨.inl ⟨.bool true,.bool true,[],rfl,fun _=>rfl,.bool true,Att.post_true l _,fun _=>⟨List.Pairwise.nil,fun _ hm=>(nomatch hm)⟩⟩,h2,h3,h4⟩
structure bK(K:Frag)(x:Str)(st:Stmt)(f:Addr)(fd:FuncData):Prop where
 ns:nsIn K mainGlobals x=some (some (.ref f))
 fn:cC K x x st f fd
theorem defAt_mk{K:Frag}{x:Str}{st:Stmt}{f:Addr}{oc:Value}{od an:Option Addr}{osl:Array (Option Value)}{kV doc pm cdv ct:Value}(a:nsIn K mainGlobals x=some (some (.ref f)))
  (l:K.lookup f=some ⟨oc,od,.func (fnOf x x (cI st) (bZ st) (aq st) .none kV doc pm an cdv ct),osl⟩) (c:codeIn K cdv x=true) (k:keepIn K (.ref f)=true):∃f fd,bK K x st f fd:=
 ⟨f,_,a,fun_mk l c k⟩
theorem bK.df{P:Program}{w:World}{K:Frag}{mg:Str→Option Value}{base h:Heap}{x:Str}{st:Stmt}{f:Addr}{fd:FuncData}{k:Nat}{ps:List Str}{sp:Sp}(A:bK K x st f fd)(X:K.In h)(G:h.Ns mainGlobals mg)
  (ok:az P w K mg base bH k f fd ps sp) (b:cM K fd ps []):cn P w K mg base x k ps sp:=⟨f,fd,ok,mg_of X G A.ns,A.fn.kp,b⟩
end L2
namespace L2
open PySem PySem.Spec PyProof.Rows
def wC(g:TG)(tb:TS)(D:eG)(σ:St)(J:It)(H:Hp):Prop:=∃W:Nat→Nat→St→Hp→Prop,(∃m,W 0 m σ H)∧∀i m σ H,W i m σ H→
 (J.stop i H∧D.nx σ H)∨(J.go i H∧∃N:St→Hp→Prop,(∀σ' H',N σ' H'→∃m',m' < m∧W (i+1) m' σ' H')∧∀x H',J.yld i H x H'→g x σ H' fun σ2 H2=>tb { D with nx:=N,ct:=N,bk:=D.nx } σ2 H2)
theorem uY(wi:TI)(g:TG)(tb:TS)(D:eG)(σ:St)(H:Hp):C9 wi g tb D σ H=wi σ H (fun J H1=>wC g tb D σ J H1):=rfl
def wo(n:Nat)(js:List Nat)(g:TG)(tt:TT)(te:TE)(σ:St)(F:List V→Hp→Prop)(J:It)(H:Hp):Prop:=wq J n js g tt te σ H F
theorem so(n:Nat)(js:List Nat)(wi:TI)(g:TG)(tt:TT)(te:TE)(σ:St)(H:Hp)(Q:VK):
  yx n js wi g tt te σ H Q=wi σ H (fun J H1=>wo n js g tt te σ (fun ys H2=>∀p,H2 p=none→Q (.ref p) (upd H2 p (.lst ys))) J H1):=rfl
section
variable {g:TG} {tb:TS} {D:eG} {σ:St} {H:Hp} {K:Frag} {a:Addr} {xs:List V}
theorem gJ(Pv:Nat→St→Hp→Prop)(h0:Pv 0 σ H)(hl:∀i σ H,i≤xs.length→Pv i σ H→aV K H a xs)
  (hs:∀i x σ H,xs[i]?=some x→Pv i σ H→g x σ H fun σ2 H2=>tb { D with nx:=Pv (i+1),ct:=Pv (i+1),bk:=D.nx } σ2 H2) (hd:∀σ H,Pv xs.length σ H→D.nx σ H):wC g tb D σ (wz K a) H:=xm Pv h0 hl hs hd
theorem dw{lo:Int}{n:Nat}(Pv:Nat→St→Hp→Prop)(h0:Pv 0 σ H)
  (hs:∀i σ H,i < n→Pv i σ H→g (.int (lo+i)) σ H fun σ2 H2=>tb { D with nx:=Pv (i+1),ct:=Pv (i+1),bk:=D.nx } σ2 H2) (hd:∀σ H,Pv n σ H→D.nx σ H):wC g tb D σ (yX lo n) H:=vq Pv h0 hs hd
theorem vE(h:aV K H a [])(hd:D.nx σ H):wC g tb D σ (wz K a) H:=⟨fun i m σ' H'=>i=0∧σ'=σ∧H'=H,⟨0,rfl,rfl,rfl⟩,by
 rintro i m σ' H' ⟨rfl,rfl,rfl⟩
 exact .inl ⟨⟨[],h,aa7 _⟩,hd⟩⟩
end
section
variable {n:Nat} {js:List Nat} {g:TG} {tt:TT} {te:TE} {σ:St} {H:Hp} {F:List V→Hp→Prop} {K:Frag} {a:Addr} {xs:List V}
theorem cX(Pv:Nat→List V→Hp→Prop)(hk:xs.length≤sizeLine)(h0:Pv 0 [] H)(hn:∀i ys H,Pv i ys H→ys.length≤i)(hl:∀i ys H,Pv i ys H→aV K H a xs)
  (hs:∀i x ys H,xs[i]?=some x→Pv i ys H→nh n js g tt te σ x ys H (Pv (i+1))) (hd:∀ys H,Pv xs.length ys H→F ys H):wo n js g tt te σ F (wz K a) H:=vg Pv hk h0 hn hl hs hd
theorem vf{z:Str}(Pv:Nat→List V→Hp→Prop)(hk:z.length≤sizeLine)(h0:Pv 0 [] H)(hn:∀i ys H,Pv i ys H→ys.length≤i)
  (hs:∀i c ys H,z.cps.toList[i]?=some c→Pv i ys H→nh n js g tt te σ (.str ⟨#[c]⟩) ys H (Pv (i+1))) (hd:∀ys H,Pv z.length ys H→F ys H):wo n js g tt te σ F (yY z) H:=wV Pv hk h0 hn hs hd
end
theorem wX{CX:qH}{P:Program}{w:World}{K:Frag}{mg:Str→Option Value}{base:Heap}{N:List Str}{qual:Str}{scope:Scope}{f:Addr}{cd:Value}{A:Around}{outer:List Env}{s:Shared}{H:Hp}{E:XK}:(jm CX P w K mg base N qual scope f cd A outer s H E).K=K:=rfl
theorem Ay{X:Cx}{scope:Scope}{own:List Str}{js:List Nat}{C:Addr}{s:Shared}{H:Hp}{ex:List Addr}{pn:List (Addr×Obj)}{E:Value→Shared→Prop}:(mD X scope own js C s H ex pn E).K=X.K:=rfl
theorem wW(xs:List V){p:Int}(hp:0≤p):jl xs (some p) (some (p+1))=match xs[p.toNat]? with | none=>[] | some x=>[x]:=by
 unfold jl;obtain⟨k,rfl⟩:=ad9 hp
 have e1:((k:Int)+1)=((k+1:Nat):Int):=by omega
 rw [e1,HT.sIx_nat,HT.sIx_nat,ag8]
 by_cases h:k < xs.length
 ·rw [ab3 h,aj1 (by omega),aj1 (by omega),ah4 h,show k+1 - k=1 by omega]
  rfl
 ·rw [List.getElem?_eq_none (by omega),ak4 (by omega),ak4 (by omega),aj5]
  rfl
theorem AY{α:Type}{xs:List α}{i:Int}(h0:0≤i)(h1:i < xs.length):∃v,eF xs i=some v∧xs[i.toNat]?=some v:=by
 obtain⟨k,rfl⟩:=ad9 h0
 have hk:k < xs.length:=by omega
 exact⟨xs[k],aW (ab3 hk),by simp [hk]⟩
theorem ky{α:Type}{xs:List α}{c m:Int}(hm:0 < m)(h:m≤xs.length):∃v,eF xs (c % m)=some v:=by
 have h1:=ae3 c (show m≠0 by omega);have h2:=ad7 c hm;obtain⟨v,e,_⟩:=AY (xs:=xs) h1 (by omega);exact⟨v,e⟩
theorem ar{H:Hp}{q:Addr}{o:HO}(h:H q=none):au H (upd H q o):=fun b o' e=>by rw [aj (ak e h)];exact e
theorem au.upd{H H1:Hp}{q:Addr}{o:HO}(s:au H H1)(h:H1 q=none):au H (upd H1 q o):=s.trans (ar h)
theorem au.tup{K:Frag}{H H':Hp}{a:Addr}{xs:List V}(e:au H H')(h:dI K H a xs):dI K H' a xs:=by
 rcases h with h | h
 ·rcases h with h | ⟨o,h⟩
  ·exact .inl (.inl (e _ _ h))
  ·exact .inl (.inr ⟨o,e _ _ h⟩)
 ·exact .inr h
end L2
namespace L2
open PySem PySem.Spec PyProof.Rows
theorem aL(z:Str):z.length=z.cps.toList.length:=by simp [Str.length]
theorem tR{z:Str}{i:Int}(h:0≤i):(Txt.slice z (some i) none).cps.toList=z.cps.toList.drop i.toNat:=by
 by_cases hi:i≤z.cps.toList.length
 ·rw [show Txt.slice z (some i) none=StrLaws.sliceText z (some i) none from rfl,StrLaws.sliceText_from ⟨h,hi⟩]
  show((z.cps.toList.drop i.toNat).take _)=_
  skip
  exact ag5 (by rw [ae9];omega)
 ·have e:Builtin.Str.strSliceIndices (some i) none 1 z.length=Builtin.Str.strSliceIndices (some (z.length:Int)) none 1 z.length:=sliceIdx_lo_beyond z.length (by rw [aL];omega)
  have e2:Txt.slice z (some i) none=Txt.slice z (some (z.length:Int)) none:=by unfold Txt.slice;rw [e]
  rw [e2,show Txt.slice z (some (z.length:Int)) none=StrLaws.sliceText z (some (z.length:Int)) none from rfl,StrLaws.sliceText_from ⟨by omega,by rw [aL];omega⟩];show((z.cps.toList.drop _).take _)=_;rw [aL,ag8,ak5,List.take_nil,List.drop_eq_nil_of_le (by omega)]
theorem tW(z:Str)(c:Nat):Txt.startswith z ⟨#[c]⟩=decide (z.cps.toList.head?=some c):=by
 obtain⟨⟨l⟩⟩:=z
 unfold Txt.startswith
 rw [StrLaws.subAt_eq]
 cases l with
 | nil=>simp [Str.length]
 | cons a l=>
  simp [Str.length];rw [ag7];simp
theorem ja(x y:Str):decide (x=y)=decide (x.cps.toList=y.cps.toList):=by
 by_cases h:x=y
 ·subst h;simp
 ·rw [decide_eq_false h]
  symm
  apply decide_eq_false;intro e;apply h;obtain⟨⟨a⟩⟩:=x;obtain⟨⟨b⟩⟩:=y;simp at e;subst e;rfl
theorem aT(x y:Str):(x++y).cps.toList=x.cps.toList++y.cps.toList:=by
 show(x.cps++y.cps).toList=_;rw [Array.toList_append]
theorem kx{α:Type}{xs:List α}{i:Int}{v:α}{P:α→Prop}(h:∀x∈xs,P x)(e:eF xs i=some v):P v:=by
 unfold eF at e
 cases hj:yR xs.length i with
 | none=>rw [hj]at e;cases e
 | some j=>rw [hj]at e;exact h v (ac7 e)
theorem bt{α:Type}{xs:List α}{v:α}(h:xs.head?=some v):eF xs 0=some v:=by
 cases xs with
 | nil=>cases h
 | cons a l=>cases h;exact aW (j:=0) rfl
section
variable {X:Cx}
end
end L2
namespace L2
open PySem PySem.Spec PyProof.Rows
section
variable {X:Cx}
theorem Bu(K:Frag)(h:X.K=K:=by rfl):cQ X (binaryOp .Add) (dh K):=h▸CM
theorem CQ(K:Frag)(h:X.K=K:=by rfl):cQ X (compareOp .In) (yi K):=h▸DJ
theorem xW(K:Frag)(h:X.K=K:=by rfl):cQ X (compareOp .NotIn) (gO K):=h▸zO
theorem cw(K:Frag)(h:X.K=K:=by rfl):yO X (vW K):=h▸slA
theorem bj(K:Frag)(h:X.K=K:=by rfl):wA X (AO K):=h▸ixA
theorem cU(K:Frag){tg l:Expr}{tl:TE}(hl:PE X l tl)(h:X.K=K:=by rfl):PI X tg l (CC (z6 K) tl):=h▸BF hl
theorem bh(K:Frag)(h:X.K=K:=by rfl):bT X (.builtin "len") (fun xs H Q=>(∃z,xs=[.str z]∧z.length≤sizeLine∧Q (.int z.length) H)∨∃p ys,xs=[.ref p]∧(aV K H p ys∨dI K H p ys)∧Q (.int ys.length) H):=h▸vd
theorem iL(K:Frag)(h:X.K=K:=by rfl):bT X (.builtin "isinstance") (fun xs H Q=>∃x n t b,xs=[x,.ty n]∧iG K H x t∧kitOne K t (.type n)=some b∧Q (.bl b) H):=h▸qM
theorem gA(K:Frag)(hc:X.calm=true)(h:X.K=K:=by rfl):bT X (.builtin "all") (fun xs H Q=>∃(p:Addr) (bs:List Bool),xs=[.ref p]∧aV K H p (bs.map V.bl)∧Q (.bl (bs.all id)) H):=h▸u7 hc
theorem cg(K:Frag)(h:X.K=K:=by rfl):bT X (.type "list") (fun xs H Q=>∃p ys,xs=[.ref p]∧(aV K H p ys∨dI K H p ys)∧∀l,H l=none→Q (.ref l) (upd H l (.lst ys))):=h▸o8
theorem gL(K:Frag){es:List Expr}{k:Nat}{t:y3}{n:Nat}{pos:Pos}(hc:X.calm=true)(h:Cq X es t)(hK:X.K=K:=by rfl)
  (hn:(assignEach es X.env).length=n:=by rfl) (hst:(assignEach es X.env).findIdx? (·.1)=none:=by rfl):PG X (.Tuple es k pos) (zo K n t):=hK▸BD hc h hn hst
theorem bX(K:Frag){o e:Expr}{es:List Expr}{to:TE}{t:TA}{name:Str}{apos cpos:Pos}{T id:String}{r:V→List V→Hp→VK→Prop}(pa:PlainAttrs T)(slot:Slot T name id)(hty:typeOf (.builtin id)=pure (.type "method_descriptor"))(hm:wj X id r)(ho:PE X o to)(ha:PA X (e::es) t)(hK:X.K=K:=by rfl)
  (hbase:attributeBase o name X.env (eval o X.env)=eval o X.env:=by rfl)
  (hfew:((backTo cpos (starEach (e::es) X.env)).all (fun x=>!x.1) && (backToKw cpos (keywordEach [] X.env)).all (fun x=>x.1.isSome)
   && decide ((e::es).length+([]:List Keyword).length+(if ([]:List Keyword).isEmpty then 0 else 1) < 30))=true:=by rfl)
  (hline:(apos.endLine == cpos.line)=true:=by rfl) (hs:starEach (e::es) X.env=(false,eval e X.env)::starEach es X.env:=by rfl) (hplain:(backTo cpos (starEach es X.env)).any (·.1)=false:=by rfl) :
  PE X (.Call (.Attribute o name apos) (e::es) [] cpos) (Dr K T r to t):=hK▸CW pa slot hty hm ho ha hbase hfew hline hs hplain
def cV:Expr→Option V
 | .Constant (.int i) _ _=>some (.int i)
 | .Constant (.str x) _ _=>some (.str x)
 | .Constant (.bool b) _ _=>some (.bl b)
 | .Constant .none _ _=>some .non
 | _=>none
def DP(vs:List V):TA:=fun _ H Q=>Q vs H
theorem CY{e:Expr}{v:V}(h:cV e=some v):PE X e (tC v):=by
 unfold cV at h
 split at h
 ·cases h;exact af
 ·cases h;exact ax
 ·cases h;exact lV
 ·cases h;exact bg
 ·cases h
theorem Ak{e:Expr}{es:List Expr}{v:V}(h:cV e=some v):starEach (e::es) X.env=(false,eval e X.env)::starEach es X.env:=by
 unfold cV at h
 split at h<;>first | rfl | cases h
theorem cz:∀{es:List Expr} {vs:List V},es.map cV=vs.map some→PA X es (DP vs)
 | [],[],_=>ag
 | [],_::_,h=>by cases h
 | _::_,[],h=>by cases h
 | e::es,v::vs,h=>by
  have h1:cV e=some v:=(List.cons.inj h).1;have h2:es.map cV=vs.map some:=(List.cons.inj h).2;exact aa (CY h1) (cz h2) (Ak h1)
end
def DK:Option V→(V→Prop)→Prop
 | some v,k=>k v
 | none,_=>False
def yp:St→Nat→(V→Prop)→Prop
 | [],_,_=>False
 | o::_,0,k=>DK o k
 | _::σ,i+1,k=>yp σ i k
theorem oj{v:V}{σ:St}{k:V→Prop}:yp (some v::σ) 0 k=k v:=rfl
theorem l0{o:Option V}{σ:St}{i:Nat}{k:V→Prop}:yp (o::σ) (i+1) k=yp σ i k:=rfl
theorem kI{k:V→Prop}:∀{σ:St} {i:Nat},yp σ i k↔∃v,σ[i]?=some (some v)∧k v
 | [],i=>by simp [yp]
 | some v::σ,0=>by simp [yp,DK]
 | none::σ,0=>by simp [yp,DK]
 | o::σ,i+1=>by rw [l0,kI];simp
def Ao(i:Nat):TE:=fun σ H Q=>yp σ i fun v=>Q v H
theorem B9(i:Nat):Ao i=Aq i:=by
 funext σ H Q
 exact propext kI
def yP:V→(Int→Prop)→Prop
 | .int i,k=>k i
 | _,_=>False
theorem gz{i:Int}{k:Int→Prop}:yP (.int i) k=k i:=rfl
theorem iJ{v:V}{k:Int→Prop}:yP v k↔∃i,v=.int i∧k i:=by cases v<;>simp [yP]
def Ax:V→(Bool→Prop)→Prop
 | .bl i,k=>k i
 | _,_=>False
theorem jj{i:Bool}{k:Bool→Prop}:Ax (.bl i) k=k i:=rfl
theorem iI{v:V}{k:Bool→Prop}:Ax v k↔∃i,v=.bl i∧k i:=by cases v<;>simp [Ax]
def Ck(g:Int→Int→V):R2:=fun x y H Q=>yP x fun i=>yP y fun j=>Q (g i j) H
def jI(C:Int→Int→Prop)(g:Int→Int→V):R2:=fun x y H Q=>yP x fun i=>yP y fun j=>C i j∧Q (g i j) H
def jU(g:Int→V):V→Hp→VK→Prop:=fun x H Q=>yP x fun i=>Q (g i) H
def nV(t:TE):TT:=fun σ H Q=>t σ H fun x H1=>Ax x fun k=>Q k H1
def nU(t:TE):TO:=fun σ H Q=>t σ H fun x H1=>yP x fun i=>Q (some i) H1
def vz(i:Nat)(te:TE)(ti:Cj):TS:=fun D σ H=>yp σ i fun x=>te σ H fun y H1=>ti x y H1 fun z H2=>D.nx (σ.set i (some z)) H2
def nR(ta tb:TE):TE:=fun σ H Q=>ta σ H fun x H1=>Ax x fun c=>if c=true then tb σ H1 Q else Q (.bl false) H1
def vA(ta tb:TE):TE:=fun σ H Q=>ta σ H fun x H1=>Ax x fun c=>if c=true then Q (.bl true) H1 else tb σ H1 Q
def nT(ta:TE):TE:=fun σ H Q=>ta σ H fun x H1=>Ax x fun c=>Q (.bl (!c)) H1
theorem zx(i:Nat)(te:TE)(ti:Cj):vz i te ti=v9 i te ti:=by
 funext D σ H
 unfold vz v9;simp only [kI]
theorem xC(ta tb:TE):nR ta tb=oF ta tb:=by
 funext σ H Q
 unfold nR oF;simp only [iI]
theorem zA(ta tb:TE):vA ta tb=wa ta tb:=by
 funext σ H Q
 unfold vA wa;simp only [iI]
theorem xG(ta:TE):nT ta=oG ta:=by
 funext σ H Q
 unfold nT oG;simp only [iI]
theorem Bg(g:Int→Int→V):Ck g=sD g:=by
 funext x y H Q
 unfold Ck sD;simp only [iJ,exists_and_left]
theorem CH(C:Int→Int→Prop)(g:Int→Int→V):jI C g=rI C g:=by
 funext x y H Q
 unfold jI rI;simp only [iJ,exists_and_left]
theorem CJ(g:Int→V):jU g=rU g:=by
 funext x H Q
 unfold jU rU;simp only [iJ]
theorem xI(t:TE):nV t=mv t:=by
 funext σ H Q
 unfold nV mv;simp only [iI]
theorem xH(t:TE):nU t=sv t:=by
 funext σ H Q
 unfold nU sv;simp only [iJ]
def wk(r:R2):R2
 | .int i,.int j,H,Q=>Q (.bl (decide (i=j))) H
 | .str i,.str j,H,Q=>Q (.bl (decide (i=j))) H
 | x,y,H,Q=>r x y H Q
def wm(r:R2):R2
 | .int i,.int j,H,Q=>Q (.bl (!decide (i=j))) H
 | .str i,.str j,H,Q=>Q (.bl (!decide (i=j))) H
 | x,y,H,Q=>r x y H Q
def lE(r:R2):R2
 | .int i,.int j,H,Q=>Q (.int (i+j)) H
 | x,y,H,Q=>r x y H Q
def rm(r:R2):R2
 | .int i,.int j,H,Q=>IntMulOk i j∧Q (.int (i * j)) H
 | x,y,H,Q=>r x y H Q
theorem jr{r:R2}{i j:Int}{H:Hp}{Q:VK}:wk r (.int i) (.int j) H Q=Q (.bl (decide (i=j))) H:=rfl
theorem jt{r:R2}{i j:Str}{H:Hp}{Q:VK}:wk r (.str i) (.str j) H Q=Q (.bl (decide (i=j))) H:=rfl
theorem ju{r:R2}{i j:Int}{H:Hp}{Q:VK}:wm r (.int i) (.int j) H Q=Q (.bl (!decide (i=j))) H:=rfl
theorem jv{r:R2}{i j:Str}{H:Hp}{Q:VK}:wm r (.str i) (.str j) H Q=Q (.bl (!decide (i=j))) H:=rfl
theorem gF{r:R2}{i j:Int}{H:Hp}{Q:VK}:lE r (.int i) (.int j) H Q=Q (.int (i+j)) H:=rfl
theorem gG{r:R2}{i j:Int}{H:Hp}{Q:VK}:rm r (.int i) (.int j) H Q=(IntMulOk i j∧Q (.int (i * j)) H):=rfl
theorem xD{r:R2}(h1:∀i j H Q,r (.int i) (.int j) H Q↔Q (.bl (decide (i=j))) H)(h2:∀i j H Q,r (.str i) (.str j) H Q↔Q (.bl (decide (i=j))) H):wk r=r:=by
 funext x y H Q
 unfold wk
 split
 ·exact propext (h1 _ _ _ _).symm
 ·exact propext (h2 _ _ _ _).symm
 ·rfl
theorem xF{r:R2}(h1:∀i j H Q,r (.int i) (.int j) H Q↔Q (.bl (!decide (i=j))) H)(h2:∀i j H Q,r (.str i) (.str j) H Q↔Q (.bl (!decide (i=j))) H):wm r=r:=by
 funext x y H Q
 unfold wm
 split
 ·exact propext (h1 _ _ _ _).symm
 ·exact propext (h2 _ _ _ _).symm
 ·rfl
theorem uE{r:R2}(h1:∀i j H Q,r (.int i) (.int j) H Q↔Q (.int (i+j)) H):lE r=r:=by
 funext x y H Q
 unfold lE
 split
 ·exact propext (h1 _ _ _ _).symm
 ·rfl
theorem zz{r:R2}(h1:∀i j H Q,r (.int i) (.int j) H Q↔IntMulOk i j∧Q (.int (i * j)) H):rm r=r:=by
 funext x y H Q
 unfold rm
 split
 ·exact propext (h1 _ _ _ _).symm
 ·rfl
theorem AG:wk n9=n9:=xD (fun _ _ _ _=>rEq_ii) (fun _ _ _ _=>pU)
theorem AI:wm og=og:=xF (fun _ _ _ _=>pW) (fun _ _ _ _=>pX)
theorem xA(K:Frag):lE (dh K)=dh K:=uE fun _ _ _ _=>lY
theorem CG{x y:V}{H:Hp}{Q:VK}:wk n9 x y H Q↔n9 x y H Q:=by rw [AG]
theorem CI{x y:V}{H:Hp}{Q:VK}:wm og x y H Q↔og x y H Q:=by rw [AI]
theorem zu{K:Frag}{x y:V}{H:Hp}{Q:VK}:lE (dh K) x y H Q↔dh K x y H Q:=by rw [xA]
section
variable {X:Cx}
theorem pr(i:Nat){x:Str}{pos:Pos}(hN:X.N[i]?=some x:=by rfl)(hv:Dn X.env.scope x:=by first | exact Or.inl rfl | exact Or.inr (Or.inl rfl) | exact Or.inr (Or.inr rfl))(hd:(x == ("__debug__":Str))=false:=by decide)
  (hcd:(x == ("__classdict__":Str))=false:=by decide):PE X (.Name x pos) (Ao i):=by
 rw [B9];exact BB hN hv hd hcd
theorem o0{f:Value→Value→Sem Value}{g:Int→Int→V}(h:cQ X f (sD g)):cQ X f (Ck g):=by rw [Bg];exact h
theorem o1{f:Value→Value→Sem Value}{C:Int→Int→Prop}{g:Int→Int→V}(h:cQ X f (rI C g)):cQ X f (jI C g):=by rw [CH];exact h
theorem u1{f:Value→Sem Value}{g:Int→V}(h:DW X f (rU g)):DW X f (jU g):=by rw [CJ];exact h
theorem pz:cQ X (compareOp .Eq) (wk n9):=by rw [AG];exact opEq
theorem yS:cQ X (compareOp .NotEq) (wm og):=by rw [AI];exact opNe
theorem aX(K:Frag)(h:X.K=K:=by rfl):cQ X (binaryOp .Add) (lE (dh K)):=by rw [xA];exact Bu K h
theorem bD{e:Expr}{t:TE}(h:PT X e (mv t)):PT X e (nV t):=by rw [xI];exact h
theorem C4{st:Stmt}{i:Nat}{te:TE}{ti:Cj}(h:PS X st (v9 i te ti)):PS X st (vz i te ti):=by rw [zx];exact h
theorem uK{e:Expr}{ta tb:TE}(h:PE X e (oF ta tb)):PE X e (nR ta tb):=by rw [xC];exact h
theorem C0{e:Expr}{ta tb:TE}(h:PE X e (wa ta tb)):PE X e (vA ta tb):=by rw [zA];exact h
theorem CZ{e:Expr}{ta:TE}(h:PE X e (oG ta)):PE X e (nT ta):=by rw [xG];exact h
theorem ck{e:Expr}{t:TE}(h:PE X e t):PO X (some e) (nU t):=by rw [xH];exact zV h
end
theorem DY{p:Prop}[d:Decidable p]{A B:Prop}:(if (!decide p)=true then A else B)=(if p then B else A):=by
 by_cases h:p<;>simp [h]
theorem DX{p:Prop}[d:Decidable p]{A B:Prop}:(if decide p=true then A else B)=(if p then A else B):=by
 by_cases h:p<;>simp [h]
theorem Cy{t u:TS}{D:eG}{σ:St}{H:Hp}(C:St→Hp→Prop)(h2:∀σ H,C σ H→u D σ H)(h1:∀u':TS,(∀σ H,C σ H→u' D σ H)→jT t u' D σ H):jT t u D σ H:=h1 u h2
theorem bu{t u:TS}{D:eG}{σ:St}{H:Hp}(C:St→Hp→Prop)(h1:∀u':TS,(∀σ H,C σ H→u' D σ H)→jT t u' D σ H)(h2:∀σ H,C σ H→u D σ H):jT t u D σ H:=h1 u h2
theorem cn.up{P:Program}{w:World}{K:Frag}{mg:Str→Option Value}{base:Heap}{x:Str}{j k:Nat}{ps:List Str}{sp:Sp}(d:cn P w K mg base x j ps sp)(h:j≤k):cn P w K mg base x k ps sp:=
 let ⟨f,fd,F,r⟩:=d.ex;⟨f,fd,F.mono h,r⟩
theorem const_mk{K:Frag}{x:Str}{v:V}{u:Value}(e:nsIn K mainGlobals x=some (some u))(r:aN v u):∃u,nsIn K mainGlobals x=some (some u)∧aN v u:=⟨u,e,r⟩
theorem TruV_b{K:Frag}{b k:Bool}{H:Hp}:y4 K (.bl b) H k↔k=b:=Iff.rfl
theorem De{K:Frag}{z:Str}{H:Hp}:Ce K "str" (.str z) H↔True:=⟨fun _=>trivial,fun _=>rfl⟩
theorem str_iff{x y:Str}:x=y↔x.cps.toList=y.cps.toList:=by
 constructor
 ·intro e;rw [e]
 ·intro e
  obtain⟨⟨a⟩⟩:=x;obtain⟨⟨b⟩⟩:=y;simp at e;subst e;rfl
end L2
namespace L2
open PySem PySem.Spec PyProof.Rows
open AutoSeq1 (wpAny_loadPart')
theorem jz:fillsNumberSlot (.type "tuple") "mul"=pure false:=
 PySem.fillsNumberSlot_seq (id:="tuple.__mul__") (r:=some (.builtin "tuple.__rmul__")) F.slot_tuple_mul.lookup (by decide +kernel) F.slot_tuple_rmul.lookup (by decide +kernel)
theorem pZ:seqRepeat? (.type "tuple")=pure (some (.builtin "tuple.__mul__")):=by
 unfold seqRepeat?;rw [PySem.seqSlot_of (T:="tuple") (name:="__mul__") (id:="tuple.__mul__") F.slot_tuple_mul.lookup (by decide +kernel),PySem.seqSlot_of (T:="tuple") (name:="__rmul__") (id:="tuple.__rmul__") F.slot_tuple_rmul.lookup (by decide +kernel)];rfl
theorem lB(a:Int)(t:Tok)(l:Addr)(items:Array Value)(n:Nat)(dd:Option Addr)(sl:Array (Option Value)):
  Meets (Builtin.«int.__rmul__» ⟨[.int a t,.ref l],[]⟩) (fun _ R s=>s.heap.get? l=some { cls:=.type "tuple",dict:=dd,data:=.seq items n,slots:=sl }∧R (.ok (.ret Value.notImplemented)) s):=
 .of_wp fun prog w A R s h=>by obtain⟨hp,g,d,tk,os⟩:=s;obtain⟨hl,h⟩:=h;wp_walk;exact⟨_,rfl,h⟩
theorem t4(l:Addr)(items:Array Value)(n:Nat)(dd:Option Addr)(sl:Array (Option Value))(u:Tok):
  Meets (Builtin.«tuple.__mul__» ⟨[.ref l,.int 1 u],[]⟩) (fun _ R s=>s.heap.get? l=some { cls:=.type "tuple",dict:=dd,data:=.seq items n,slots:=sl }∧R (.ok (.ret (Value.ref l))) s):=
 .of_wp fun prog w A R s h=>by
  obtain⟨hp,g,d,tk,os⟩:=s;obtain⟨hl,h⟩:=h;have hT:Shared.TypeIs ⟨hp,g,d,tk,os⟩ (.ref l) "tuple":=⟨_,hl,rfl⟩
  wp_walk using wpAny_loadPart' hl,wpAny_typeOf hT
  exact⟨_,rfl,h⟩
theorem lu{α:Type}(xs:Array α):∀(n:Nat) (acc:Array α),((List.replicate n xs).foldl (· ++ ·) acc).size=acc.size+n * xs.size
 | 0,acc=>by simp
 | n+1,acc=>by
  rw [ad8,ag0,lu xs n,ak2,aj4];omega
theorem t5(l:Addr)(items:Array Value)(n:Nat)(dd:Option Addr)(sl:Array (Option Value))(x:Int)(u:Tok)(h1:1 < x)(h2:x < 1000000)(h0:items.isEmpty=false)(hz:items.size * x.toNat≤sizeLine):
  Meets (Builtin.«tuple.__mul__» ⟨[.ref l,.int x u],[]⟩) (fun _ R s=>s.heap.get? l=some { cls:=.type "tuple",dict:=dd,data:=.seq items n,slots:=sl }∧R (.ok (.ret (Value.ref s.heap.objs.size))) { s with heap:=s.heap.push { cls:=Value.type "tuple",data:=Data.seq ((List.replicate x.toNat items).foldl (· ++ ·) #[]) } }):=
 .of_wp fun prog w A R s h=>by
  obtain⟨hp,g,d,tk,os⟩:=s;obtain⟨hl,h⟩:=h;have hT:Shared.TypeIs ⟨hp,g,d,tk,os⟩ (.ref l) "tuple":=⟨_,hl,rfl⟩
  wp_walk using wpAny_loadPart' hl,wpAny_typeOf hT
  refine wpAny_ite_false (by rw [decide_eq_false (show ¬x < -2 ^ 63 by omega),decide_eq_false (show ¬x≥2 ^ 63 by omega)];rfl) ?_
  wp_walk using wpAny_loadPart' hl,wpAny_typeOf hT
  refine wpAny_ite_false (by rw [h0];simp;omega) ?_;refine wpAny_ite_false (by rw [h0];simp;omega) ?_
  have e:(items.size:Int) * x=((items.size * x.toNat:Nat):Int):=by rw [Int.natCast_mul,ag4 (by omega)]
  have hs:sizeLine=16777216:=sizeLine_eq;refine wpAny_ite_false (decide_eq_false (by rw [e];omega)) ?_
  have hm:¬((items.size:Int) * x > (sizeLine:Int)):=by rw [e];exact_mod_cast ak9.mpr hz
  refine wpAny_ite_false (by unfold Builtin.Tuple.tupleTooMany;exact decide_eq_false (fun z=>hm (of_decide_eq_true z))) ?_
  have hf:(List.foldl (fun x1 x2=>x1++x2) #[] (List.replicate x.toNat items)).size≤sizeLine:=by
   rw [lu,Array.size_empty,Nat.zero_add,ak7];exact hz
  wp_walk using wpAny_loadPart' hl,wpAny_typeOf hT
  refine wpAny_ite_false (decide_eq_false (ak9.mpr hf)) ?_
  wp_walk
  exact⟨_,rfl,h⟩
def uS(K:Frag):R2:=fun x y H Q=>∃l k xs,x=.ref l∧y=.int k∧dI K H l xs∧1≤k∧k < 1000000∧xs≠[]∧xs.length * k.toNat≤sizeLine∧
 (k=1→Q (.ref l) H)∧∀p,H p=none→Q (.ref p) (upd H p (.tup (List.replicate k.toNat xs).flatten))
section
variable {X:Cx}
theorem zQ:cQ X (binaryOp .Mult) (uS X.K):=by
 intro pins s σ H x y v u Q I rx ry h;obtain⟨l,k,xs,rfl,rfl,hH,h1,h2,hx,hz,q1,q⟩:=h;cases rx;obtain⟨t,rfl⟩:=ry;obtain⟨its,r,p,hl⟩:=I.tuple hH;obtain⟨⟨cls,dd,data,sl⟩,ho,hc,n,hd⟩:=id p;simp only at hc hd;subst hc hd
 have hlen:its.toArray.size * k.toNat≤sizeLine:=by rw [aa3,←r.length];exact hz
 refine wpAny_binaryOp_repeat_ref (T:="tuple") (U:="int") (by decide) ⟨_,ho,rfl⟩ (fun s'=>typeIs_int s' k t) jz F.fills_int_mul F.slot_int_rmul pZ F.slot_int_index.lookup
  (call_meets F.slot_int_rmul (typeIs_int s k t) F.entry_int_rmul (F.args_int_rmul_2 _ _) (lB k t l its.toArray n dd sl) ⟨ho,rfl,⟨_,ho,rfl⟩,?_⟩)
 by_cases hk:k=1
 ·subst hk
  exact call_meets F.slot_tuple_mul ⟨_,ho,rfl⟩ F.entry_tuple_mul (F.args_tuple_mul_2 _ _) (t4 l its.toArray n dd sl t) ⟨ho,.ref l,H,I,rfl,q1 rfl⟩
 ·have hne:its.toArray.isEmpty=false:=by
   cases its with
   | nil=>exact absurd (r.nil_iff.mp rfl) hx
   | cons a b=>rfl
  refine call_meets F.slot_tuple_mul ⟨_,ho,rfl⟩ F.entry_tuple_mul (F.args_tuple_mul_2 _ _) (t5 l its.toArray n dd sl k t (by omega) h2 hne hlen) ⟨ho,?_⟩
  have hnew:List.foldl (fun x1 x2=>x1++x2) #[] (List.replicate k.toNat its.toArray)=(List.replicate k.toNat its).flatten.toArray:=by
   have:=jo its k.toNat []
   rw [List.nil_append]at this;exact this
  refine⟨.ref s.heap.objs.size,_,I.laid (t':=s.toks) (o:=.tup (List.replicate k.toNat xs).flatten) (fun b ob q=>aa2 _ q) (aa7 _) ?_,rfl,q _ (I.hok.fresh (aa7 _))⟩;rw [hnew];exact⟨by rw [pe,ak7];exact hz,_,r.rep k.toNat,IsTup.new _ _⟩
def eB(K:Frag):R2:=fun x y H Q=>j4 x y H Q∨uS K x y H Q
theorem Bw(K:Frag)(h:X.K=K:=by rfl):cQ X (binaryOp .Mult) (eB K):=h▸opMul.or zQ
theorem rV{K:Frag}{i j:Int}{H:Hp}{Q:VK}:eB K (.int i) (.int j) H Q↔IntMulOk i j∧Q (.int (i * j)) H:=by
 simp [eB,rS,uS]
theorem yj{K:Frag}{z:Str}{j:Int}{H:Hp}{Q:VK}:eB K (.str z) (.int j) H Q↔(-1000000≤j∧j≤1000000∧z.length≤16)∧Q (.str (fq z j)) H:=by
 simp [eB,rT,uS]
theorem xE(K:Frag):rm (eB K)=eB K:=zz fun _ _ _ _=>rV
theorem zy{K:Frag}{x y:V}{H:Hp}{Q:VK}:rm (eB K) x y H Q↔eB K x y H Q:=by rw [xE]
theorem f9(K:Frag)(h:X.K=K:=by rfl):cQ X (binaryOp .Mult) (rm (eB K)):=by rw [xE];exact Bw K h
end
end L2
namespace L2
open PySem PySem.Spec PyProof.Rows
def dk(c:Nat):List Nat→List (List Nat)
 | []=>[[]]
 | a::l=>if a=c then []::dk c l else match dk c l with
  | []=>[[a]]
  | p::r=>(a::p)::r
theorem jR(c:Nat):∀l,dk c l≠[]
 | []=>by simp [dk]
 | a::l=>by
  simp only [dk]
  split
  ·simp
  ·split<;>simp
theorem kK(c:Nat):∀l,(dk c l).length≤l.length+1
 | []=>by simp [dk]
 | a::l=>by
  have h:=kK c l;simp only [dk]
  split
  ·simp;omega
  ·split
   ·simp
   ·rename_i p r e
    rw [e]at h;simp at h ⊢;omega
def cH(c:Nat):List Nat→Nat→List Nat
 | [],_=>[]
 | b::l,i=>if b=c then i::cH c l (i+1)else cH c l (i+1)
theorem lP(x:Str)(c:Nat)(lim:Nat):∀(l:List Nat) (i:Nat) (acc:Array Nat) (fr:Nat),x.cps.toList.drop i=l→acc.size≤i→fr≤i→x.length < lim→
  (forIn (List.range' i (l.length+1)) (acc,fr) (StrLaws.occBody x ⟨#[c]⟩ x.length lim)).run.fst.toList=acc.toList++cH c l i
 | [],i,acc,fr,hl,ha,hf,hm=>by
  have hi:x.length≤i:=by
   rw [aL];exact ah2.mp hl
  show(forIn [i] (acc,fr) _:Id _).run.fst.toList=_;rw [ah5];unfold StrLaws.occBody;rw [if_neg (by intro h;have:=h.1.2;have e1:(⟨#[c]⟩:Str).length=1:=rfl;rw [e1]at this;omega)];show acc.toList=_;simp [cH]
 | b::l,i,acc,fr,hl,ha,hf,hm=>by
  have hb:x.cps.toList[i]?=some b:=by
   have:(x.cps.toList.drop i)[0]?=some b:=by rw [hl];rfl
   rwa [af6,al0]at this
  have hi:i < x.length:=by
   rw [aL];obtain⟨h,_⟩:=aa4.mp hb;exact h
  have hd:x.cps.toList.drop (i+1)=l:=by
   rw [←ai0,hl];rfl
  have e1:(⟨#[c]⟩:Str).length=1:=rfl;show(forIn (i::List.range' (i+1) (l.length+1)) (acc,fr) _:Id _).run.fst.toList=_;rw [ah5];unfold StrLaws.occBody
  by_cases hc:b=c
  ·rw [if_pos ⟨⟨⟨by show acc.size < lim;omega,hf⟩,by rw [e1];omega⟩,((StrLaws.subAt_one x c i).mpr (by rw [hb,hc])).2⟩]
   show(forIn (List.range' (i+1) (l.length+1)) (acc.push i,i+1) (StrLaws.occBody x ⟨#[c]⟩ x.length lim):Id _).run.fst.toList=_;rw [lP x c lim l (i+1) _ _ hd (by rw [Array.size_push];omega) (aa7 _) hm];simp [cH,hc]
  ·rw [if_neg (fun h=>hc (by have:=(StrLaws.subAt_one x c i).mp ⟨h.1.2,h.2⟩;rw [hb]at this;exact Option.some.inj this))]
   show(forIn (List.range' (i+1) (l.length+1)) (acc,fr) (StrLaws.occBody x ⟨#[c]⟩ x.length lim):Id _).run.fst.toList=_;rw [lP x c lim l (i+1) _ _ hd (by omega) (by omega) hm];simp [cH,hc]
theorem zI(x:Str)(c:Nat):Builtin.Str.occurrences x ⟨#[c]⟩ 0 x.length (x.length+1)=cH c x.cps.toList 0:=by
 rw [StrLaws.occ_eq]
 have e:x.length+1 - 0=x.cps.toList.length+1:=by rw [aL];rfl
 rw [e];have h:=lP x c (x.length+1) x.cps.toList 0 #[] 0 rfl (aa7 _) (aa7 _) (af4 _);rw [h];rfl
theorem ij(x:Str)(c:Nat):∀(l:List Nat) (a j:Nat),a≤j→x.cps.toList.drop j=l→j≤x.length→
  (StrLaws.partsFrom x 1 a (cH c l j)).map (fun z=>z.cps.toList)=match dk c l with
   | []=>[]
   | p::r=>((x.cps.toList.drop a).take (j - a)++p)::r
 | [],a,j,haj,hl,hj=>by
  have hj':x.length≤j:=by rw [aL];exact ah2.mp hl
  have e:j=x.length:=by omega
  subst e;simp [cH,dk,StrLaws.partsFrom,StrLaws.strSub_toList]
 | b::l,a,j,haj,hl,hj=>by
  have hb:x.cps.toList[j]?=some b:=by
   have:(x.cps.toList.drop j)[0]?=some b:=by rw [hl];rfl
   rwa [af6,al0]at this
  have hi:j < x.length:=by
   rw [aL];obtain⟨h,_⟩:=aa4.mp hb;exact h
  have hd:x.cps.toList.drop (j+1)=l:=by
   rw [←ai0,hl];rfl
  by_cases hc:b=c
  ·have ih:=ij x c l (j+1) (j+1) (aa7 _) hd hi
   simp only [cH,hc,if_true,StrLaws.partsFrom,ac1,dk,ae0];rw [ih]
   cases hs:dk c l with
   | nil=>exact absurd hs (jR c l)
   | cons p r=>simp [StrLaws.strSub_toList]
  ·have ih:=ij x c l a (j+1) (by omega) hd hi
   simp only [cH,hc,if_false,dk];rw [ih]
   cases hs:dk c l with
   | nil=>exact absurd hs (jR c l)
   | cons p r=>
    have ht:(x.cps.toList.drop a).take (j+1 - a)=(x.cps.toList.drop a).take (j - a)++[b]:=by
     have e1:j+1 - a=(j - a)+1:=by omega
     rw [e1,ac8,af6]
     have e2:a+(j - a)=j:=by omega
     rw [e2,hb];rfl
    simp [ht]
theorem yw(c:Nat):∀{l:List Nat},cH c l 0=[]→dk c l=[l]:=by
 have key:∀(l:List Nat) (i:Nat),cH c l i=[]→dk c l=[l]:=by
  intro l
  induction l with
  | nil=>intro i _;rfl
  | cons a l ih=>
   intro i h;simp only [cH]at h
   split at h
   ·cases h
   ·rename_i hc
    simp only [dk,hc,if_false];rw [ih _ h]
 intro l h;exact key l 0 h
theorem bR(x:Str){c:Nat}(hc:c < 256):(Txt.split x ⟨#[c]⟩).map (fun z=>z.cps.toList)=dk c x.cps.toList:=by
 unfold Txt.split;have e1:(⟨#[c]⟩:Str).length=1:=rfl
 have ek:Builtin.Str.strKind ⟨#[c]⟩=1:=by simp [Builtin.Str.strKind,hc]
 have ek2:1≤Builtin.Str.strKind x:=by unfold Builtin.Str.strKind;split<;>(try split)<;>omega
 rw [e1,ek,decide_eq_false (show ¬Builtin.Str.strKind x < 1 by omega),Bool.or_false,zI]
 split
 ·rename_i h
  have h:x.length < 1:=by simpa using h
  have:x.cps.toList=[]:=by
   rw [aL]at h;exact af2.mp (by omega)
  rw [ac1,ag1,this];rfl
 ·split
  ·rename_i h
   have h:cH c x.cps.toList 0=[]:=by simpa using h
   rw [yw c h];rfl
  ·rw [StrLaws.partsBetween_eq,ij x c x.cps.toList 0 0 (aa7 _) rfl (ab5 _)]
   cases hs:dk c x.cps.toList with
   | nil=>exact absurd hs (jR c _)
   | cons p r=>simp
end L2
namespace L2
open PySem PySem.Spec PyProof.Rows
theorem jV:∀(tk:Nat) (xs:List Str),aR (xs.map V.str) (strsFrom tk xs)
 | _,[]=>.nil
 | tk,x::r=>.cons ⟨tk,rfl⟩ (jV (tk+1) r)
theorem oE:∀{xs:List Str} {us:List Value},aR (xs.map V.str) us→StrsAre us xs
 | [],_,.nil=>.nil
 | x::r,_,.cons ⟨t,e⟩ q=>by subst e;exact .cons x t (oE q)
section
variable {X:Cx}
theorem e6:wj X "str.split" (fun x xs H Q=>∃z c,x=.str z∧xs=[.str ⟨#[c]⟩]∧c < 256∧z.length < sizeLine∧∀p,H p=none→Q (.ref p) (upd H p (.lst ((Txt.split z ⟨#[c]⟩).map V.str)))):=by
 intro pins s σ H x xs v us Q I rx r h;obtain⟨z,c,rfl,rfl,hc,hz,q⟩:=h;obtain⟨t,rfl⟩:=rx;obtain⟨u,rfl,t',rfl⟩:=d2 r;have hs:sizeLine=16777216:=sizeLine_eq
 have hlen:(Txt.split z ⟨#[c]⟩).length≤sizeLine:=by
  have h1:(Txt.split z ⟨#[c]⟩).length=(dk c z.cps.toList).length:=by rw [←bR z hc,aa0]
  have h2:=kK c z.cps.toList;rw [←aL]at h2;omega
 have fin:∀(its:List Value) (tk:Nat),aR ((Txt.split z ⟨#[c]⟩).map V.str) its→EP X pins σ Q (.ref s.heap.objs.size) { s with toks:=tk,heap:=s.heap.push { cls:=.type "list",data:=.seq its.toArray } }:=fun its tk rv=>
  ⟨.ref s.heap.objs.size,_,I.laid (t':=tk) (o:=.lst ((Txt.split z ⟨#[c]⟩).map V.str)) (fun b ob q=>aa2 _ q) (aa7 _) ⟨by rw [aa0];exact hlen,its,0,rv,ab4 _ rfl⟩,rfl,q _ (I.hok.fresh (aa7 _))⟩
 cases h1:(decide (z.length < (⟨#[c]⟩:Str).length) || decide (Builtin.Str.strKind z < Builtin.Str.strKind ⟨#[c]⟩))with
 | true=>
  have e:Txt.split z ⟨#[c]⟩=[z]:=by unfold Txt.split;rw [if_pos h1]
  rw [e]at fin;exact call_meets F.slot_str_split (typeIs_str _ _ _) F.entry_str_split (F.args_str_split_2 _ _) (meets_str_split_cannot_occur z ⟨#[c]⟩ t t' h1) (fin _ s.toks (.cons ⟨t,rfl⟩ .nil))
 | false=>
  cases hf:(Builtin.Str.occurrences z ⟨#[c]⟩ 0 z.length (z.length+1)).isEmpty with
  | true=>
   have e:Txt.split z ⟨#[c]⟩=[z]:=by unfold Txt.split;rw [if_neg (by rw [h1];exact aa1),if_pos hf]
   rw [e]at fin;exact call_meets F.slot_str_split (typeIs_str _ _ _) F.entry_str_split (F.args_str_split_2 _ _) (meets_str_split_not_found z ⟨#[c]⟩ t t' h1 rfl hf) (fin _ s.toks (.cons ⟨t,rfl⟩ .nil))
  | false=>
   have e:Txt.split z ⟨#[c]⟩=Builtin.Str.partsBetween z (Builtin.Str.occurrences z ⟨#[c]⟩ 0 z.length (z.length+1)) (⟨#[c]⟩:Str).length:=by
    unfold Txt.split;rw [if_neg (by rw [h1];exact aa1),if_neg (by rw [hf];exact aa1)]
   rw [e]at fin hlen;exact call_meets F.slot_str_split (typeIs_str _ _ _) F.entry_str_split (F.args_str_split_2 _ _) (meets_str_split_sep z ⟨#[c]⟩ t t' h1 rfl hf (ah6 hz) hlen) (fin _ _ (jV _ _))
theorem zE:wj X "str.join" (fun x xs H Q=>∃z p ys,x=.str z∧xs=[.ref p]∧aV X.K H p (ys.map V.str)∧(ys.map (·.length)).sum+ys.length * z.length≤16777216∧Q (.str (Txt.join z ys)) H):=by
 intro pins s σ H x xs v us Q I rx r h;obtain⟨z,p,ys,rfl,rfl,hq,hok,q⟩:=h;obtain⟨t,rfl⟩:=rx;obtain⟨u,rfl,ru⟩:=d2 r;cases ru;obtain⟨its,rv,pl,hz⟩:=I.list hq;exact join_list pl.isList (oE rv) hok fun t' k=>⟨.str _,H,I.tok _,⟨t',rfl⟩,q⟩
theorem lH(K:Frag)(h:X.K=K:=by rfl):wj X "str.join" (fun x xs H Q=>∃z p ys,x=.str z∧xs=[.ref p]∧aV K H p (ys.map V.str)∧(ys.map (·.length)).sum+ys.length * z.length≤16777216∧Q (.str (Txt.join z ys)) H):=h▸zE
def AZ:List V→List V→Bool
 | [],[]=>true
 | x::xs,y::ys=>yQ x y && AZ xs ys
 | _,_=>false
def pT(K:Frag):R2:=fun x y H Q=>n9 x y H Q∨∃a b xs ys,x=.ref a∧y=.ref b∧dI K H a xs∧dI K H b ys∧xs.all eI=true∧ys.all eI=true∧Q (.bl (AZ xs ys)) H
def pV(K:Frag):R2:=fun x y H Q=>og x y H Q∨∃a b xs ys,x=.ref a∧y=.ref b∧dI K H a xs∧dI K H b ys∧xs.all eI=true∧ys.all eI=true∧Q (.bl (!AZ xs ys)) H
end
theorem z3{K:Frag}{i j:Int}{H:Hp}{Q:VK}:pT K (.int i) (.int j) H Q↔Q (.bl (decide (i=j))) H:=by simp [pT,rEq_ii]
theorem Aa{K:Frag}{i j:Int}{H:Hp}{Q:VK}:pV K (.int i) (.int j) H Q↔Q (.bl (!decide (i=j))) H:=by simp [pV,pW]
theorem z4{K:Frag}{i j:Str}{H:Hp}{Q:VK}:pT K (.str i) (.str j) H Q↔Q (.bl (decide (i=j))) H:=by simp [pT,pU]
theorem Ab{K:Frag}{i j:Str}{H:Hp}{Q:VK}:pV K (.str i) (.str j) H Q↔Q (.bl (!decide (i=j))) H:=by simp [pV,pX]
theorem zZ{K:Frag}{i j:Bool}{H:Hp}{Q:VK}:pT K (.bl i) (.bl j) H Q↔Q (.bl (decide (i=j))) H:=by simp [pT,yh]
theorem z8{K:Frag}{i j:Bool}{H:Hp}{Q:VK}:pV K (.bl i) (.bl j) H Q↔Q (.bl (!decide (i=j))) H:=by simp [pV,yl]
end L2
namespace L2
open PySem PySem.Spec PyProof.Rows
def hJ(l:List Nat):Bool:=l.all fun c=>decide (c∈[48,49,50,51,52,53,54,55,56,57])
def dj(w:List Nat):List Nat:=if w.head?=some 45 then w.tail else w
def cq(w:List Nat):Bool:=decide (1≤(dj w).length) && (decide ((dj w).length≤40) && (hJ (dj w) && (decide ((dj w).head?≠some 48) || decide (w=[48]))))
theorem sV(w:List Nat):cq w=(if dj w=[]∨40 < (dj w).length then false else if hJ (dj w)=false then false else(decide ((dj w).head?≠some 48) || decide (w=[48]))):=by
 unfold cq
 split
 ·rename_i h
  rcases h with h | h
  ·rw [h];rfl
  ·have:¬(dj w).length≤40:=by omega
   simp [this]
 ·rename_i h
  have h1:1≤(dj w).length:=by
   cases e:dj w with
   | nil=>exact absurd (Or.inl e) h
   | cons a b=>simp
  have h2:(dj w).length≤40:=by
   have:¬40 < (dj w).length:=fun z=>h (Or.inr z)
   omega
  simp only [h1,h2,decide_true,Bool.true_and]
  split
  ·rename_i h3;rw [h3];rfl
  ·rename_i h3
   have h3:hJ (dj w)=true:=by simpa using h3
   rw [h3];rfl
def ig(n:Int):List Nat:=(Str.ofString (toString n)).cps.toList
def dg(m:Nat):List Nat:=(Nat.toDigits 10 m).map Char.toNat
theorem e7(m:Nat):ig (m:Int)=dg m:=PySem.W.KIN.signs_num m
theorem e8(k:Nat):ig (-((k+1:Nat):Int))=45::dg (k+1):=by
 have e:toString (-((k+1:Nat):Int))="-" ++ toString (k+1):=rfl;have h:=PySem.W.KIN.signs_num (k+1);unfold ig dg;rw [←h,e];have e2:toString (((k+1:Nat):Nat):Int)=toString (k+1):=rfl;rw [e2];simp only [PyProof.Rows.signs_ofString,String.toList_append];rfl
theorem g9(m:Nat):∀c∈dg m,48≤c∧c≤57:=by
 intro c hc;obtain⟨ch,hch,e⟩:=ac4.mp hc;have r:=PyProof.Rows.digit_range (Nat.isDigit_of_mem_toDigits (by decide) (by decide) hch);rw [←e];exact r
theorem nr(m:Nat):dg m≠[]:=by
 intro e;have h:=toDigits_len_ge 10 m;rw [List.map_eq_nil_iff.mp e]at h;exact absurd h (by decide)
theorem fU{m:Nat}(h:m < 10):dg m=[m+48]:=by
 unfold dg;rw [Nat.toDigits_of_lt_base h]
 have:∀m,m < 10→(Nat.digitChar m).toNat=m+48:=by decide
 show [(Nat.digitChar m).toNat]=_;rw [this m h]
theorem o9{m:Nat}(h:¬m < 10):dg m=dg (m / 10)++[m % 10+48]:=by
 have hm:m % 10 < 10:=Nat.mod_lt m (by decide);have t:Nat.toDigits 10 (m / 10)++Nat.toDigits 10 (m % 10)=Nat.toDigits 10 (10 * (m / 10)+m % 10):=Nat.toDigits_append_toDigits (by decide) (by omega) hm;rw [Nat.div_add_mod]at t;rw [←fU hm];unfold dg;rw [←t,ab8]
theorem zi(m:Nat)(h0:0 < m):(dg m).head?≠some 48:=by
 induction m using Nat.strongRecOn with
 | _ m ih=>
  by_cases h:m < 10
  ·rw [fU h]
   simp;omega
  ·rw [o9 h]
   have:=ih (m / 10) (by omega) (by omega)
   cases hd:dg (m / 10)with
   | nil=>exact absurd hd (nr _)
   | cons a l=>rw [hd]at this;exact this
theorem sN{k m:Nat}(hk:1≤k)(hm:m < 10 ^ k):(dg m).length≤k:=by
 unfold dg;rw [aa0];exact digits10_le hk hm
theorem lL(n:Int):∀c∈ig n,c=45∨(48≤c∧c≤57):=by
 intro c hc;rcases aj6 n 0 with h | h
 ·obtain⟨k,rfl⟩:∃k:Nat,n = -((k+1:Nat):Int):=⟨n.natAbs - 1,by omega⟩
  rw [e8]at hc;rcases aa5.mp hc with e | e
  ·exact .inl e
  ·exact .inr (g9 _ c e)
 ·obtain⟨m,rfl⟩:=ad9 h
  rw [e7]at hc;exact .inr (g9 _ c hc)
theorem zj(m:Nat):hJ (dg m)=true:=by
 unfold hJ;rw [af1];intro c hc;obtain⟨h1,h2⟩:=g9 m c hc
 have:c=48∨c=49∨c=50∨c=51∨c=52∨c=53∨c=54∨c=55∨c=56∨c=57:=by omega
 simpa using this
theorem vo(n:Int):dj (ig n)=dg n.natAbs:=by
 rcases aj6 n 0 with h | h
 ·obtain⟨k,rfl⟩:∃k:Nat,n = -((k+1:Nat):Int):=⟨n.natAbs - 1,by omega⟩
  rw [e8]
  have e:(-((k+1:Nat):Int)).natAbs=k+1:=by omega
  rw [e];rfl
 ·obtain⟨m,rfl⟩:=ad9 h
  rw [e7];unfold dj;rw [if_neg]
  ·rfl
  ·intro e
   cases hd:dg m with
   | nil=>exact absurd hd (nr _)
   | cons a l=>
    rw [hd]at e
    have:a=45:=by simpa using e
    have:=g9 m a (by rw [hd];exact ab9)
    omega
theorem jq{n:Int}(h:n.natAbs < 10 ^ 40):cq (ig n)=true:=by
 have hl:(dg n.natAbs).length≤40:=sN (by decide) h
 have hl0:1≤(dg n.natAbs).length:=by
  cases hd:dg n.natAbs with
  | nil=>exact absurd hd (nr _)
  | cons a l=>simp
 unfold cq;rw [vo,zj,decide_eq_true hl,decide_eq_true hl0]
 by_cases h0:n=0
 ·subst h0
  decide +kernel
 ·rw [decide_eq_true (zi n.natAbs (by omega))]
  rfl
theorem lK{n:Int}{k:Nat}(hk:1≤k)(h:n.natAbs < 10 ^ k):(ig n).length≤k+1:=by
 rcases aj6 n 0 with h1 | h1
 ·obtain⟨j,rfl⟩:∃k:Nat,n = -((k+1:Nat):Int):=⟨n.natAbs - 1,by omega⟩
  have e:(-((j+1:Nat):Int)).natAbs=j+1:=by omega
  rw [e]at h;rw [e8,aa6]
  have:=sN hk h
  omega
 ·obtain⟨m,rfl⟩:=ad9 h1
  rw [e7]
  have:=sN hk (show m < 10 ^ k from h)
  omega
theorem uC{n:Int}(h:n.natAbs < 10 ^ 600):intText? (Str.ofString (toString n))=some n:=by
 have hl:=lK (by decide) h
 have hl2:(Str.ofString (toString n)).length≤4300:=by rw [aL];exact aa9 hl (by decide)
 rcases aj6 n 0 with h1 | h1
 ·obtain⟨k,rfl⟩:∃k:Nat,n = -((k+1:Nat):Int):=⟨n.natAbs - 1,by omega⟩
  rw [PySem.intText_neg (cs:=dg (k+1)) (e8 k) (g9 _) (nr _) hl2]
  have:=PySem.W.KIN.val_back (k+1)
  unfold dg;rw [this]
 ·obtain⟨m,rfl⟩:=ad9 h1
  have e:(Str.ofString (toString ((m:Nat):Int))).cps.toList=dg m:=e7 m;rw [PySem.intText_digits (by rw [e];exact g9 _) (by rw [e];exact nr _) hl2,e]
  have:=PySem.W.KIN.val_back m
  unfold dg;rw [this]
def dm(c:Nat):List (List Nat)→List Nat
 | []=>[]
 | p::r=>p++(r.map (c::·)).flatten
theorem nO(c:Nat):∀(l:List Str) (a:Array Nat),(l.foldl (fun acc p=>acc++(⟨#[c]⟩:Str).cps++p.cps) a).toList=a.toList++(l.map (fun p=>c::p.cps.toList)).flatten
 | [],a=>by simp
 | p::l,a=>by
  rw [ag0,nO c l];simp
theorem hZ(c:Nat)(ys:List Str):(Txt.join ⟨#[c]⟩ ys).cps.toList=dm c (ys.map fun z=>z.cps.toList):=by
 unfold Txt.join Builtin.Str.glued
 cases ys with
 | nil=>rfl
 | cons p r=>
  show(r.foldl (fun acc p=>acc++(⟨#[c]⟩:Str).cps++p.cps) p.cps).toList=_;rw [nO];simp [dm,Function.comp_def]
theorem uV(c:Nat):∀(p:List Nat) (l:List Nat),c∉p→dk c (p++c::l)=p::dk c l
 | [],l,_=>by simp [dk]
 | a::p,l,h=>by
  have h1:a≠c:=fun e=>h (by rw [e];exact ab9);have h2:c∉p:=fun e=>h (ac0 _ e);rw [List.cons_append];simp only [dk,h1,if_false];rw [uV c p l h2]
theorem sj(c:Nat):∀(p:List Nat),c∉p→dk c p=[p]
 | [],_=>rfl
 | a::p,h=>by
  have h1:a≠c:=fun e=>h (by rw [e];exact ab9);have h2:c∉p:=fun e=>h (ac0 _ e);simp only [dk,h1,if_false];rw [sj c p h2]
theorem i8(c:Nat):∀(ps:List (List Nat)),ps≠[]→(∀p∈ps,c∉p)→dk c (dm c ps)=ps
 | [],h,_=>absurd rfl h
 | [p],_,h=>by
  simp [dm];exact sj c p (h p ab9)
 | p::q::r,_,h=>by
  have ih:=i8 c (q::r) (by simp) (fun x hx=>h x (ac0 _ hx))
  have e:dm c (p::q::r)=p++c::dm c (q::r):=by simp [dm]
  rw [e,uV c p _ (h p ab9),ih]
end L2
namespace L3
open PySem PySem.Spec PyProof.Rows
theorem fX(l:Bool)(a:Addr)(xs:Array Value):
  Meets (Builtin.«enumerate.__new__» ⟨[.type "enumerate",.ref a],[]⟩) (fun _ R s=>IsSeq l s.heap a xs∧
   R (.ok (.ret (.ref (s.heap.push (itRec l a)).objs.size))) { s with heap:=(s.heap.push (itRec l a)).push { cls:=.type "enumerate",data:=.fields #[.none,.bool false,.ref s.heap.objs.size,rawInt 0,.none,.none] } }):=
 .of_wp fun prog w A R s h=>by
  obtain⟨hp,g,d,tk,os⟩:=s;obtain⟨q1,h⟩:=h;have hsub:=sub_enumerate;have u1:IsSeq l (Shared.heap ⟨hp,g,d,tk,os⟩) a xs:=q1
  have tl:∃o,hp.get? a=some o:=by
   cases l
   ·obtain⟨o,e,_⟩:=(show hp.IsTuple a xs from q1);exact⟨o,e⟩
   ·obtain⟨o,e,_⟩:=(show hp.IsList a xs from q1);exact⟨o,e⟩
  obtain⟨ob,hl⟩:=tl;obtain⟨c,dct,dt,sl⟩:=ob
  wp_walk using AutoSeq1.wpAny_loadPart' hl
  refine wpAny_stack_any fun st=>wpAny_pure ?_
  split
  ·rename_i c _ _ _ _ _
   cases(c == Value.type "enumerate")
   ·wp_walk using AutoSeq1.wpAny_loadPart' hl,lD u1
    exact⟨_,rfl,h⟩
   ·wp_walk using AutoSeq1.wpAny_loadPart' hl,lD u1
    exact⟨_,rfl,h⟩
  ·wp_walk using AutoSeq1.wpAny_loadPart' hl,lD u1
   exact⟨_,rfl,h⟩
section
variable {prog:Program} {w:World} {A:Around} {E:Value→Shared→Prop} {s:Shared}
theorem call_enumerateB{l:Bool}{a:Addr}{xs:Array Value}{Q:Value→Shared→Prop}(hL:IsSeq l s.heap a xs)
  (h:∀h',IsEnum h' (s.heap.objs.size+1) s.heap.objs.size 0 .none→h'.get? s.heap.objs.size=some (itRec l a)→h'.objs.size=s.heap.objs.size+2→
   (∀b o,s.heap.get? b=some o→h'.get? b=some o)→Q (.ref (s.heap.objs.size+1)) { s with heap:=h' }) :
  wpAny (model prog w) A (call (.type "enumerate") [.ref a]) Q E s:=by
 refine callType_new F.called_enumerate (by decide) (F.typeCall_enumerate_1 _) (F.newCall_enumerate_1 _) (fun obj=>F.args_object_init_2 obj _) F.entry_enumerate_new
  (fX l a xs) ⟨hL,?_⟩
 have hz:(s.heap.push (itRec l a)).objs.size=s.heap.objs.size+1:=ah8 ..;show _∧_;rw [hz]
 have he:IsEnum ((s.heap.push (itRec l a)).push
   { cls:=.type "enumerate",data:=.fields #[.none,.bool false,.ref s.heap.objs.size,rawInt 0,.none,.none] }) (s.heap.objs.size+1) s.heap.objs.size 0 .none:=by
  have:=ab4 (s.heap.push (itRec l a))
   (o:={ cls:=.type "enumerate",data:=.fields #[.none,.bool false,.ref s.heap.objs.size,rawInt 0,.none,.none] }) rfl
  rw [hz]at this;exact this
 refine⟨⟨_,he,rfl⟩,h _ he (aa2 _ (ab4 _ rfl)) (by rw [ah8,hz]) fun b o x=>aa2 _ (aa2 _ x)⟩
end
end L3
namespace L2
open PySem PySem.Spec PyProof.Rows
def Dy(K:Frag)(l:Bool)(a:Addr):It:=
 ⟨fun i H=>∃xs x,jW K l H a xs∧xs[i]?=some x,
  fun i H v H'=>∃p x,v=.ref p∧H p=none∧H'=upd H p (.tup [.int i,x])∧∀xs,jW K l H a xs→xs[i]?=some x,
  fun i H=>∃xs,jW K l H a xs∧i=xs.length⟩
theorem t6{P:Program}{w:World}{K:Frag}{elts:List Expr}{kt:Nat}{pt:Pos}(l:Bool)(a z it:Addr)(nd:z≠it):
  sL P w K (.Tuple elts kt pt) (Dy K l a) [z,it] z (fun i h=>(∃old,IsEnum h z it ((i:Nat):Int) old)∧mB l h it a i):=by
 refine⟨by simp,?_,?_,?_,?_,?_⟩
 ·rintro i h ⟨⟨old,qz⟩,u⟩ c hc
  have hc':c=z∨c=it:=by simpa using hc
  rcases hc' with e | e
  ·subst e;exact⟨_,qz,fun v q=>by cases q⟩
  ·subst e
   exact u.obj
 ·rintro i h h' ⟨⟨old,qz⟩,u⟩ k
  exact⟨⟨old,k z (by simp) _ qz⟩,u.at fun o e=>k it (by simp) o e⟩
 ·rintro X hP hw hK hc i pins s σ H E I hf ⟨⟨old,qz⟩,u⟩ ⟨xs,x,q1,hx⟩
  subst hP hw hK;have hh:X.A.in1.handled=none:=I.ok.hd hc;obtain⟨its,r1,p1,z1⟩:=I.seqB q1;have na:a≠it:=I.seqB_ne q1 (hf it (by simp));have nz:a≠z:=I.seqB_ne q1 (hf z (by simp))
  have lx:i < its.toArray.size:=by
   have:=(aa4.mp hx).1
   rw [aa3,←r1.length];exact this
  have hef:z∉[it,a]:=by
   simp only [aa5,ak6,or_false,not_or];exact⟨nd,nz.symm⟩
  refine wpAny_pyNext_enum_itemD (nu (P:=X.prog) (w:=X.w) hh l it a na its.toArray) qz ⟨u,p1⟩ lx nd hef fun v h' tk ev z' s' pr sz kk=>?_;obtain⟨w1,g1,rx⟩:=r1.get hx
  have ev1:v=w1:=by
   have:its[i]?=some v:=by simpa using ev
   rw [g1]at this;exact(Option.some.inj this).symm
  subst ev1;refine⟨_,rfl,wpAny_letOwnedTupleGo_enum (s:={ s with heap:=h',toks:=tk+1 }) z' fun h2 z2 sb=>?_⟩;have fz:s.heap.objs.size≠z:=ah3 (ab0 qz);have Hn:H s.heap.objs.size=none:=I.hok.fresh (aa7 _)
  have kp:∀c o,c∉[z,it]→s.heap.get? c=some o→h2.get? c=some o:=fun c o hc e=>by
   have hc':c≠z∧c≠it:=by simpa [not_or]using hc
   exact(sb.2 c hc'.1).trans (kk c o hc'.1 hc'.2 e)
  have nf:∀{c:Addr} {u:HO},H c=some u→c∉[z,it]:=fun {c u} e hc=>by
   have:=(hf c hc).1
   rw [e]at this;cases this
  have pr2:h2.get? s.heap.objs.size=some { cls:=.type "tuple",data:=.seq #[.int i tk,v] }:=(sb.2 _ fz).trans pr
  have I2:aH X pins σ (upd H s.heap.objs.size (.tup [.int i,x])) { s with heap:=h2,toks:=tk+1 }:=by
   refine I.step (g':=s.gens) (d':=s.drawn) (ch:=[z,it]) (fun c hc=>⟨(hf c hc).2.2.2.1,(hf c hc).2.1,(hf c hc).2.2.2.2.1,(hf c hc).2.2.2.2.2⟩) (fun c o _ _ hc e _=>kp c o hc e) (fun c o _ _ hc e _=>⟨o.slots,kp c o hc e⟩)
    (fun c o _ e n=>by rw [aj (ab7 (ab0 e))];exact n) (fun c o hc e=>⟨o,kp c o hc e⟩) (fun c us e=>by rw [aj (ak e Hn)];exact e) (fun c o u e=>by rw [aj (ak e Hn)];exact e)
    (fun c ps e=>⟨#[],by rw [aj (ak e Hn),e];simp⟩) (fun m hm=>?_) (fun c u e=>?_) I.bare
   ·obtain⟨o,es,ep,ho,r⟩:=hm
    exact⟨o,es,ep,kp _ o (fun q=>(hf _ q).2.1 rfl) ho,r⟩
   ·by_cases hcs:c=s.heap.objs.size
    ·subst hcs
     rw [ae]at e;cases e;exact⟨by rw [sizeLine_eq];show 2≤16777216;omega,[.int i tk,v],.cons ⟨_,rfl⟩ (.cons rx .nil),_,pr2,rfl,_,rfl⟩
    ·rw [aj hcs]at e
     refine(I.hok c u e).stay (fun d o hd q=>kp d o ?_ q) (fun d q=>by rw [aj (ak q Hn)];exact q) fun d us q=>by rw [aj (ak q Hn)];exact q
     rcases hd with hd | hd
     ·rw [hd];exact nf e
     ·exact nf hd
  refine⟨.ref s.heap.objs.size,_,I2,rfl,⟨_,x,rfl,Hn,rfl,fun us hu=>by rw [I.seqB_inj hu q1];exact hx⟩,⟨⟨v,?_⟩,?_⟩,fun c hc=>?_⟩
  ·have e:(((i+1:Nat)):Int)=(i:Int)+1:=by omega
   rw [e];exact z2
  ·exact s'.1.at fun o e=>(sb.2 _ nd.symm).trans e
  ·show upd H s.heap.objs.size (.tup [.int i,x]) c=none
   have lt:c < s.heap.objs.size:=by
    have hc':c=z∨c=it:=by simpa using hc
    rcases hc' with e | e
    ·subst e;exact ab0 qz
    ·subst e;obtain⟨o,e,_⟩:=u.obj;exact ab0 e
   rw [aj (ab7 lt)];exact(hf c hc).1
 ·rintro X hP hw hK hc i pins s σ H E I hf ⟨⟨old,qz⟩,u⟩ ⟨xs,q1,hend⟩
  subst hP hw hK;have hh:X.A.in1.handled=none:=I.ok.hd hc;obtain⟨its,r1,p1,z1⟩:=I.seqB q1;have na:a≠it:=I.seqB_ne q1 (hf it (by simp))
  have ei:i=its.toArray.size:=by rw [aa3,←r1.length];exact hend
  subst ei;obtain⟨f0,f1,f2,f3,f4,f5⟩:=hf it (by simp);exact wpAny_pyNext_enum_endD (nu (P:=X.prog) (w:=X.w) hh l it a na its.toArray) qz ⟨u,p1⟩ fun h' k=>⟨rfl,I.turned (t':=s.toks) (fun b o hb e=>k b o hb e) f0 f1 f3 f4 f5⟩
 ·rintro A i s Q E ⟨⟨old,qz⟩,_⟩ h
  exact wpAny_pyIter_enum qz h
def sS(K:Frag)(ta:TA):TI:=fun σ H R=>ta σ H fun vs H1=>∃a,vs=[.ref a]∧∃l,(∃xs,jW K l H1 a xs)∧R (Dy K l a) H1
theorem xZ{X:Cx}{elts:List Expr}{kt:Nat}{pt:Pos}{a:Expr}{ta:TA}{p pos:Pos}(hg:Gl X "enumerate")(hm:X.mg "enumerate"=none)(ha:PA X [a] ta)(hs:starEach [a] X.env=[(false,eval a X.env)]:=by rfl):
  PI X (.Tuple elts kt pt) (.Call (.Name "enumerate" p) [a] [] pos) (sS X.K ta):=by
 intro pins s σ H R I h;refine Call_ (jx I hg hm boot_enumerate (PyProof.Rows.callWith_type1 (b6 (ha pos pins s σ H _ I h) fun us s1 ⟨vs,H1,I1,r1,q1⟩=>?_) hs rfl));obtain⟨a1,e,l,⟨xs,q1⟩,q⟩:=q1;subst e;obtain⟨u,rfl,e1⟩:=d2 r1;cases e1;obtain⟨its1,r1,p1,z1⟩:=I1.seqB q1;refine L3.call_enumerateB p1 fun h' qz qI sz kp=>wpAny_pyIter_enum qz ?_;refine⟨s1.heap.objs.size+1,[s1.heap.objs.size+1,s1.heap.objs.size],_,_,H1,rfl,I1.kept (h':=h') (t':=s1.toks) kp,t6 l a1 _ _ (Nat.succ_ne_self _),⟨⟨_,qz⟩,mB.rec qI⟩,fun c hc=>?_,q⟩
 have hc':s1.heap.objs.size≤c:=by
  have:c=s1.heap.objs.size+1∨c=s1.heap.objs.size:=by simpa using hc
  rcases this with e | e<;>(rw [e];first | exact aa7 _ | exact Nat.le_add_right _ _)
 exact I1.fpOk hc' (I1.hok.fresh hc')
theorem sW{g:TG}{tb:TS}{D:eG}{σ:St}{H:Hp}{K:Frag}{l:Bool}{a:Addr}{us:List V}(Pv:Nat→St→Hp→Prop)(h0:Pv 0 σ H)(hl:∀i σ H,i≤us.length→Pv i σ H→jW K l H a us)
  (hs:∀i x σ H p,us[i]?=some x→Pv i σ H→H p=none→g (.ref p) σ (upd H p (.tup [.int i,x])) fun σ2 H2=>tb { D with nx:=Pv (i+1),ct:=Pv (i+1),bk:=D.nx } σ2 H2) (hd:∀σ H,Pv us.length σ H→D.nx σ H):wC g tb D σ (Dy K l a) H:=by
 refine⟨fun i m σ H=>m=us.length - i∧i≤us.length∧Pv i σ H,⟨us.length,by simp,ab5 _,h0⟩,?_⟩;rintro i m σ H ⟨rfl,hi,p⟩;have q1:=hl i σ H hi p
 by_cases hlt:i < us.length
 ·refine .inr ⟨⟨us,us[i],q1,by simp [hlt]⟩,Pv (i+1),fun σ' H' p'=>⟨us.length - (i+1),by omega,rfl,hlt,p'⟩,fun x H' y=>?_⟩
  obtain⟨pp,u,e,hp,e2,y1⟩:=y;subst e e2;exact hs i u σ H pp (y1 us q1) p hp
 ·have e:i=us.length:=by omega
  subst e;exact .inl ⟨⟨us,q1,rfl⟩,hd σ H p⟩
structure wx(K:Frag)(x qual:Str)(st:Stmt)(f:Addr)(fd:FuncData)(T:Addr):Prop where
 ex:∃(oc:Value) (od:Option Addr) (kV doc pm:Value) (an:Option Addr) (cdv ct:Value) (osl:Array (Option Value)),
  fd=fnOf x qual (cI st) (bZ st) (aq st) (.ref T) kV doc pm an cdv ct∧K.lookup f=some ⟨oc,od,.func fd,osl⟩∧codeIn K cdv qual=true
 kp:keepIn K (.ref f)=true
section
variable {P:Program} {w:World} {K:Frag} {mg:Str→Option Value} {base:Heap}
end
section
variable {X:Cx} {k:Nat} {ps:List Str} {sp:Sp} {x:Str} {p pos:Pos} {e:Expr} {es:List Expr} {t:TA} {dvs:List V}
end
structure wu(K:Frag)(x:Str)(st:Stmt)(f:Addr)(fd:FuncData)(u:Value):Prop where
 ns:nsIn K mainGlobals x=some (some (.ref f))
 fn:∃(T:Addr) (o:Obj) (n:Nat),wx K x x st f fd T∧K.lookup T=some o∧o.data=.seq #[u] n
theorem wx.binds{K:Frag}{x qual:Str}{st:Stmt}{f T:Addr}{fd:FuncData}{ps:List Str}(F:wx K x qual st f fd T){o:Obj}{u:Value}{n:Nat}(t:K.lookup T=some o)(d:o.data=.seq #[u] n)
  (h:∀(kV doc pm:Value) (an:Option Addr) (cdv ct:Value) (us:List Value),us.length=ps.length→
   ∃k:Option (Array Value)→Sem (List (Str×Value)),bindArgs (fnOf x qual (cI st) (bZ st) (aq st) (.ref T) kV doc pm an cdv ct) ⟨us,[]⟩=seqItems? (.ref T) >>= k∧k (some #[u])=pure (ps.zip us)):cM K fd ps []:=by
 obtain⟨oc,od,kV,doc,pm,an,cdv,ct,osl,rfl,lk,hcd⟩:=F.ex;intro s us X hl;rw [ae0]at hl ⊢;obtain⟨k,h1,h2⟩:=h kV doc pm an cdv ct us hl;exact BindsTo.of_defaults (T:=T) rfl (X _ _ t) d h1 h2
end L2
namespace L2
open PySem PySem.Spec PyProof.Rows
def yN(K:Frag)(H:Hp):Nat→V→V→Bool→Prop
 | 0,x,y,b=>(eI x=true∧eI y=true∧b=yQ x y)∨∃a,x=.ref a∧y=.ref a∧b=true
 | n+1,x,y,b=>yN K H 0 x y b∨∃(a c:Addr) (l:Bool) (xs ys:List V) (e:Nat→Bool),x=.ref a∧y=.ref c∧a≠c∧jW K l H a xs∧jW K l H c ys∧
   (∀j x y,xs[j]?=some x→ys[j]?=some y→yN K H n x y (e j))∧b=((List.range (min xs.length ys.length)).all e && xs.length == ys.length)
section
variable {X:Cx} {pins:List (Addr×Obj)} {σ:St} {H:Hp} {s:Shared}
theorem fe{xs:List V}{us:List Value}(r:aR xs us){j:Nat}(h:j < us.toArray.size):∃x,xs[j]?=some x∧aN x us.toArray[j]:=by
 have l1:=r.length;simp only [aa3]at h
 have hx:j < xs.length:=by omega
 obtain⟨u,e1,r1⟩:=aR.get r (i:=j) (x:=xs[j]) (by simp [hx])
 have g1:us.toArray[j]=u:=by simpa [h]using e1
 exact⟨xs[j],by simp [hx],by rw [g1];exact r1⟩
theorem yn{A:Around}{l:Bool}{a c:Addr}{xs ys:List V}{us vs:List Value}{e:Nat→Bool}(rx:aR xs us)(ry:aR ys vs)(p1:L3.IsSeq l s.heap a us.toArray)(p2:L3.IsSeq l s.heap c vs.toArray)(hu:A.units < cLine)
  (he:∀j (h1:j < us.toArray.size) (h2:j < vs.toArray.size),SeqAt.EqAt A.in1 s us.toArray[j] vs.toArray[j] (e j)):SeqAt.RcAt A s (.ref a) (.ref c) ((List.range (min xs.length ys.length)).all e && xs.length == ys.length):=by
 have s1:us.toArray.size=xs.length:=by rw [aa3,rx.length]
 have s2:vs.toArray.size=ys.length:=by rw [aa3,ry.length]
 cases l
 ·have:=SeqAt.RcAt.tuples (show s.heap.IsTuple a us.toArray from p1) (show s.heap.IsTuple c vs.toArray from p2) hu he
  rw [s1,s2]at this;exact this
 ·by_cases hl:xs.length=ys.length
  ·have:=SeqAt.RcAt.lists (show s.heap.IsList a us.toArray from p1) (show s.heap.IsList c vs.toArray from p2) (by rw [s1,s2,hl]) hu he
   rw [s1]at this;rw [hl,Nat.min_self,beq_self_eq_true,ae4,←hl];exact this
  ·have:=SeqAt.RcAt.lists_lengths (show s.heap.IsList a us.toArray from p1) (show s.heap.IsList c vs.toArray from p2) (by rw [s1,s2];simpa using hl) hu
   rw [show(xs.length == ys.length)=false by simpa using hl,Bool.and_false];exact this
theorem yo{A:Around}{l:Bool}{a c:Addr}{xs ys:List V}{us vs:List Value}{e:Nat→Bool}(rx:aR xs us)(ry:aR ys vs)(p1:L3.IsSeq l s.heap a us.toArray)(p2:L3.IsSeq l s.heap c vs.toArray)(hu:A.units < cLine)
  (he:∀j (h1:j < us.toArray.size) (h2:j < vs.toArray.size),SeqAt.EqAt A.in1 s us.toArray[j] vs.toArray[j] (e j)):SeqAt.RcNeAt A s (.ref a) (.ref c) (!((List.range (min xs.length ys.length)).all e && xs.length == ys.length)):=by
 have s1:us.toArray.size=xs.length:=by rw [aa3,rx.length]
 have s2:vs.toArray.size=ys.length:=by rw [aa3,ry.length]
 cases l
 ·have:=SeqAt.RcNeAt.tuples (show s.heap.IsTuple a us.toArray from p1) (show s.heap.IsTuple c vs.toArray from p2) hu he
  rw [s1,s2]at this;exact this
 ·by_cases hl:xs.length=ys.length
  ·have:=SeqAt.RcNeAt.lists (show s.heap.IsList a us.toArray from p1) (show s.heap.IsList c vs.toArray from p2) (by rw [s1,s2,hl]) hu he
   rw [s1]at this;rw [hl,Nat.min_self,beq_self_eq_true,ae4,←hl];exact this
  ·have:=SeqAt.RcNeAt.lists_lengths (show s.heap.IsList a us.toArray from p1) (show s.heap.IsList c vs.toArray from p2) (by rw [s1,s2];simpa using hl) hu
   rw [show(xs.length == ys.length)=false by simpa using hl,Bool.and_false];exact this
theorem yN.at(I:aH X pins σ H s):∀{n:Nat} {A:Around} {x y:V} {u v:Value} {b:Bool},A.units+n < cLine→aN x u→aN y v→yN X.K H n x y b→SeqAt.EqAt A s u v b:=by
 have z0:∀{A:Around} {x y:V} {u v:Value} {b:Bool},aN x u→aN y v→yN X.K H 0 x y b→SeqAt.EqAt A s u v b:=by
  intro A x y u v b rx ry h;unfold yN at h;rcases h with⟨fx,fy,rfl⟩ | ⟨a,rfl,rfl,rfl⟩
  ·exact xi rx ry fx fy
  ·cases rx;cases ry;exact SeqAt.EqAt.same _
 intro n
 induction n with
 | zero=>intro A x y u v b _ rx ry h;exact z0 rx ry h
 | succ n ih=>
  intro A x y u v b hu rx ry h;unfold yN at h;rcases h with h | ⟨a,c,l,xs,ys,e,rfl,rfl,ne,h1,h2,he,rfl⟩
  ·exact z0 rx ry h
  ·cases rx;cases ry
   obtain⟨us,r1,p1,_⟩:=I.seqB h1;obtain⟨vs,r2,p2,_⟩:=I.seqB h2;refine SeqAt.EqAt.of_refs ne (yn r1 r2 p1 p2 (by omega) fun j j1 j2=>?_);obtain⟨x,ex,rx⟩:=fe r1 j1;obtain⟨y,ey,ry⟩:=fe r2 j2;exact ih (A:=A.in1) (by show A.units+1+n < cLine;omega) rx ry (he j x y ex ey)
def yU(K:Frag)(H:Hp)(n:Nat)(x y:V)(b:Bool):Prop:=∃(a c:Addr) (l:Bool) (xs ys:List V) (e:Nat→Bool),x=.ref a∧y=.ref c∧jW K l H a xs∧jW K l H c ys∧
 (∀j x y,xs[j]?=some x→ys[j]?=some y→yN K H n x y (e j))∧b=((List.range (min xs.length ys.length)).all e && xs.length == ys.length)
theorem Bx(n:Nat)(hu:X.A.units+n+1 < cLine):cQ X (compareOp .Eq) (fun x y H Q=>∃b,yU X.K H n x y b∧Q (.bl b) H):=by
 intro pins s σ H x y v u Q I rx ry h;obtain⟨b,⟨a,c,l,xs,ys,e,rfl,rfl,h1,h2,he,rfl⟩,q⟩:=h;cases rx;cases ry;obtain⟨us,r1,p1,_⟩:=I.seqB h1;obtain⟨vs,r2,p2,_⟩:=I.seqB h2;refine yn (A:=X.A) r1 r2 p1 p2 (by omega) (fun j j1 j2=>?_) X.prog X.w X.xe _ (bc I q rfl);obtain⟨x,ex,rx⟩:=fe r1 j1;obtain⟨y,ey,ry⟩:=fe r2 j2;exact yN.at I (A:=X.A.in1) (by show X.A.units+1+n < cLine;omega) rx ry (he j x y ex ey)
theorem By(n:Nat)(hu:X.A.units+n+1 < cLine):cQ X (compareOp .NotEq) (fun x y H Q=>∃b,yU X.K H n x y b∧Q (.bl (!b)) H):=by
 intro pins s σ H x y v u Q I rx ry h;obtain⟨b,⟨a,c,l,xs,ys,e,rfl,rfl,h1,h2,he,rfl⟩,q⟩:=h;cases rx;cases ry;obtain⟨us,r1,p1,_⟩:=I.seqB h1;obtain⟨vs,r2,p2,_⟩:=I.seqB h2;refine yo (A:=X.A) r1 r2 p1 p2 (by omega) (fun j j1 j2=>?_) X.prog X.w X.xe _ (bc I q rfl);obtain⟨x,ex,rx⟩:=fe r1 j1;obtain⟨y,ey,ry⟩:=fe r2 j2;exact yN.at I (A:=X.A.in1) (by show X.A.units+1+n < cLine;omega) rx ry (he j x y ex ey)
def iW(K:Frag):R2:=fun x y H Q=>n9 x y H Q∨∃b,yU K H 4 x y b∧Q (.bl b) H
def il(K:Frag):R2:=fun x y H Q=>og x y H Q∨∃b,yU K H 4 x y b∧Q (.bl (!b)) H
theorem A7{A:Around}{k:Nat}(hr:cD k A):A.units+4+1 < cLine:=aa8 (Nat.add_le_add_left (by decide:5≤64) _) hr.units
theorem CN(K:Frag)(hu:X.A.units+4+1 < cLine)(h:X.K=K:=by rfl):cQ X (compareOp .Eq) (iW K):=h▸opEq.or (Bx 4 hu)
theorem CS(K:Frag)(hu:X.A.units+4+1 < cLine)(h:X.K=K:=by rfl):cQ X (compareOp .NotEq) (il K):=h▸opNe.or (By 4 hu)
end
theorem rEqC_ii{K:Frag}{i j:Int}{H:Hp}{Q:VK}:iW K (.int i) (.int j) H Q↔Q (.bl (decide (i=j))) H:=by simp [iW,rEq_ii,yU]
theorem uQ{K:Frag}{i j:Int}{H:Hp}{Q:VK}:il K (.int i) (.int j) H Q↔Q (.bl (!decide (i=j))) H:=by simp [il,pW,yU]
theorem rEqC_ss{K:Frag}{i j:Str}{H:Hp}{Q:VK}:iW K (.str i) (.str j) H Q↔Q (.bl (decide (i=j))) H:=by simp [iW,pU,yU]
theorem uR{K:Frag}{i j:Str}{H:Hp}{Q:VK}:il K (.str i) (.str j) H Q↔Q (.bl (!decide (i=j))) H:=by simp [il,pX,yU]
theorem AF(K:Frag):wk (iW K)=iW K:=xD (fun _ _ _ _=>rEqC_ii) (fun _ _ _ _=>rEqC_ss)
theorem AH(K:Frag):wm (il K)=il K:=xF (fun _ _ _ _=>uQ) (fun _ _ _ _=>uR)
theorem Be{K:Frag}{x y:V}{H:Hp}{Q:VK}:wk (iW K) x y H Q↔iW K x y H Q:=by rw [AF]
theorem Bh{K:Frag}{x y:V}{H:Hp}{Q:VK}:wm (il K) x y H Q↔il K x y H Q:=by rw [AH]
theorem vL{X:Cx}(K:Frag)(hu:X.A.units+4+1 < cLine)(h:X.K=K:=by rfl):cQ X (compareOp .Eq) (wk (iW K)):=by rw [AF];exact CN K hu h
theorem DI{X:Cx}(K:Frag)(hu:X.A.units+4+1 < cLine)(h:X.K=K:=by rfl):cQ X (compareOp .NotEq) (wm (il K)):=by rw [AH];exact CS K hu h
end L2
namespace L2
open PySem PySem.Spec PyProof.Rows
structure eg(P:Program)(w:World)(K:Frag)(mg:Str→Option Value)(base:Heap)(k:Nat)(f:Addr)(ps:List Str)(sp:Sp):Prop where
 ex:∃fd:FuncData,az P w K mg base bH k f fd ps sp∧keepIn K (.ref f)=true∧cM K fd ps []
structure aK(P:Program)(w:World)(K:Frag)(mg:Str→Option Value)(base:Heap)(C:Addr)(m:Str)(k:Nat)(ps:List Str)(sp:Sp):Prop where
 cl:kg K C
 ex:∃(f:Addr) (fd:FuncData),AV K C m f∧az P w K mg base bH k f fd ps sp∧cM K fd ps []
structure Av(K:Frag)(C:Addr)(m:Str)(f:Addr):Prop where
 rd:PySem.W.readsIn K C (.type "type")=true
 at_:PySem.W.findCls K (.ref C) (.type "type") m=some (.val (.ref f))
 ga:PySem.W.specialIn K (.ref C) "__getattribute__"=some (some (.builtin "type.__getattribute__"))
 kp:keepIn K (.ref f)=true
structure jc(P:Program)(w:World)(K:Frag)(mg:Str→Option Value)(base:Heap)(x m:Str)(k:Nat)(ps:List Str)(sp:Sp):Prop where
 ex:∃(C f:Addr) (fd:FuncData),mg x=some (.ref C)∧Av K C m f∧az P w K mg base bH k f fd ps sp∧cM K fd ps []
structure cG(P:Program)(w:World)(K:Frag)(mg:Str→Option Value)(base:Heap)(x:Str)(C:Addr)(k:Nat)(ps:List Str)(sp:Sp):Prop where
 ex:∃(f:Addr) (fd:FuncData),Mk K C f∧az P w K mg base bH k f fd ps sp∧mg x=some (.ref C)∧cM K fd ps []
section
variable {P:Program} {w:World} {K:Frag} {mg:Str→Option Value} {base:Heap} {j k:Nat} {ps:List Str} {sp:Sp} {x m:Str} {C f:Addr}
theorem eg.up(d:eg P w K mg base j f ps sp)(h:j≤k):eg P w K mg base k f ps sp:=let ⟨fd,F,b,c⟩:=d.ex;⟨fd,F.mono h,b,c⟩
theorem aK.up(d:aK P w K mg base C m j ps sp)(h:j≤k):aK P w K mg base C m k ps sp:=let ⟨f,fd,a,F,c⟩:=d.ex;⟨d.cl,f,fd,a,F.mono h,c⟩
theorem cG.up(d:cG P w K mg base x C j ps sp)(h:j≤k):cG P w K mg base x C k ps sp:=let ⟨f,fd,a,F,b,c⟩:=d.ex;⟨f,fd,a,F.mono h,b,c⟩
theorem aK.imp{sp':Sp}(d:aK P w K mg base C m k ps sp)(h:∀vs H Q E,sp' vs H Q E→sp vs H Q E):aK P w K mg base C m k ps sp':=let ⟨f,fd,a,F,c⟩:=d.ex;⟨d.cl,f,fd,a,F.imp h,c⟩
end
def qu(P:Program)(w:World)(K:Frag)(mg:Str→Option Value)(base:Heap)(k:Nat)(m:Str)(ta:TE)(t:TA):TE:=fun σ H Q=>ta σ H fun x H1=>∃(a C dx:Addr) (fs:List (Str×V)) (ps:List Str) (sp:Sp),
 x=.ref a∧H1 a=some (.ins C dx fs)∧fs.lookup m=none∧aK P w K mg base C m k ps sp∧t σ H1 fun vs H2=>sp (x::vs) H2 Q E0
def tY(P:Program)(w:World)(K:Frag)(mg:Str→Option Value)(base:Heap)(k:Nat)(tf:TE)(t:TA):TE:=fun σ H Q=>tf σ H fun x H1=>∃(f:Addr) (ps:List Str) (sp:Sp),
 x=.ref f∧eg P w K mg base k f ps sp∧t σ H1 fun vs H2=>sp vs H2 Q E0
section
variable {X:Cx} {k:Nat} {f C:Addr} {fd:FuncData} {ps:List Str} {sp:Sp} {x m:Str} {p pos apos:Pos} {e o:Expr} {es:List Expr} {ta:TE} {t:TA}
theorem C1(P:Program)(w:World)(K:Frag)(mg:Str→Option Value)(base:Heap){pl:Sem Bool}(hr:cD k X.A)(he:PE X o ta)(ha:PA X (e::es) t)(e1:X.prog=P:=by rfl)(e2:X.w=w:=by rfl)(e3:X.K=K:=by rfl)(e4:X.mg=mg:=by rfl)(e5:X.base=base:=by rfl)
  (hst:starEach (e::es) X.env=(false,eval e X.env)::starEach es X.env:=by rfl) (hpl:(backTo pos (starEach es X.env)).any (·.1)=false:=by rfl)
  (ht:eval (.Call (.Attribute o m apos) (e::es) [] pos) X.env=(do
   let ov ←eval o X.env
   standAt apos.atName
   let (f,first) ←holding [ov] (getMethod ov m pl)
   callWith pos f first (backTo pos (starEach (e::es) X.env)) (backToKw pos (keywordEach [] X.env))):=by rfl) :
  PE X (.Call (.Attribute o m apos) (e::es) [] pos) (qu P w K mg base k m ta t):=by
 subst e1 e2 e3 e4 e5;intro pins s σ H Q I h;refine PySem.W.methodCall_KW (pl:=pl) (b6 (he pins s σ H _ I h) fun u s1 ⟨x,H1,I1,rx,a,C,dx,fs,ps,sp,ex,ea,l,M,q⟩=>?_) ht;subst ex;obtain rfl:u=Value.ref a:=rx;obtain⟨f,fd,hm,F,hb⟩:=M.ex;refine lA I1 ea M.cl hm l ?_;refine callWith_K (first:=[.ref a]) (h₀:=X.base) I.ok.mod.kin hm.kp (b6 (ha pos pins s1 σ H1 _ I1 q) fun us s2 ⟨vs,H2,I2,r,q2⟩=>⟨I2.kIn,?_⟩) hst hpl;exact l4 (us:=.ref a::us) (vs:=.ref a::vs) (dvs:=[]) (E:=E0) F hr hb .nil nZ I2 (.cons rfl r) (by rw [ae0];exact q2)
theorem n8(P:Program)(w:World)(K:Frag)(mg:Str→Option Value)(base:Heap){pl:Sem Bool}(hr:cD k X.A)(he:PE X o ta)(e1:X.prog=P:=by rfl)(e2:X.w=w:=by rfl)(e3:X.K=K:=by rfl)(e4:X.mg=mg:=by rfl)(e5:X.base=base:=by rfl)
  (ht:eval (.Call (.Attribute o m apos) [] [] pos) X.env=(do
   let ov ←eval o X.env
   standAt apos.atName
   let (f,first) ←holding [ov] (getMethod ov m pl)
   callWith pos f first (backTo pos (starEach [] X.env)) (backToKw pos (keywordEach [] X.env))):=by rfl) :
  PE X (.Call (.Attribute o m apos) [] [] pos) (qu P w K mg base k m ta su):=by
 subst e1 e2 e3 e4 e5;intro pins s σ H Q I h;refine PySem.W.methodCall_KW (pl:=pl) (b6 (he pins s σ H _ I h) fun u s1 ⟨x,H1,I1,rx,a,C,dx,fs,ps,sp,ex,ea,l,M,q⟩=>?_) ht;subst ex;obtain rfl:u=Value.ref a:=rx;obtain⟨f,fd,hm,F,hb⟩:=M.ex;refine lA I1 ea M.cl hm l ?_;exact PySem.W.callWith_K0 (first:=[.ref a]) I1.kIn hm.kp (l4 (us:=[.ref a]) (vs:=[.ref a]) (dvs:=[]) (E:=E0) F hr hb .nil nZ I1 (.cons rfl .nil) q)
theorem xX(P:Program)(w:World)(K:Frag)(mg:Str→Option Value)(base:Heap)(hr:cD k X.A)(he:PE X o ta)(ha:PA X (e::es) t)(e1:X.prog=P:=by rfl)(e2:X.w=w:=by rfl)(e3:X.K=K:=by rfl)(e4:X.mg=mg:=by rfl)(e5:X.base=base:=by rfl)
  (hst:starEach (e::es) X.env=(false,eval e X.env)::starEach es X.env:=by rfl) (hpl:(backTo pos (starEach es X.env)).any (·.1)=false:=by rfl)
  (hev:eval (.Call o (e::es) [] pos) X.env=(do callWith pos (←eval o X.env) [] (backTo pos (starEach (e::es) X.env)) (backToKw pos (keywordEach [] X.env))):=by rfl) :
  PE X (.Call o (e::es) [] pos) (tY P w K mg base k ta t):=by
 subst e1 e2 e3 e4 e5;intro pins s σ H Q I h;refine Call_ (b6 (he pins s σ H _ I h) fun u s1 ⟨x,H1,I1,rx,f,ps,sp,ex,M,q⟩=>?_) hev;subst ex;obtain rfl:u=Value.ref f:=rx;obtain⟨fd,F,hk,hb⟩:=M.ex;refine callWith_K (h₀:=X.base) I.ok.mod.kin hk (b6 (ha pos pins s1 σ H1 _ I1 q) fun us s2 ⟨vs,H2,I2,r,q2⟩=>⟨I2.kIn,?_⟩) hst hpl;exact l4 (us:=us) (vs:=vs) (dvs:=[]) (E:=E0) F hr hb .nil nZ I2 r (by rw [ae0];exact q2)
theorem cN{pl:Sem Bool}(d:jc X.prog X.w X.K X.mg X.base x m k ps sp)(hr:cD k X.A)(hg:Gl X x)(ha:PA X (e::es) t)(hdb:(x == ("__debug__":Str))=false:=by decide)
  (hst:starEach (e::es) X.env=(false,eval e X.env)::starEach es X.env:=by rfl) (hpl:(backTo pos (starEach es X.env)).any (·.1)=false:=by rfl)
  (ht:eval (.Call (.Attribute (.Name x p) m apos) (e::es) [] pos) X.env=(do
   let ov ←eval (.Name x p) X.env
   standAt apos.atName
   let (f,first) ←holding [ov] (getMethod ov m pl)
   callWith pos f first (backTo pos (starEach (e::es) X.env)) (backToKw pos (keywordEach [] X.env))):=by rfl) :
  PE X (.Call (.Attribute (.Name x p) m apos) (e::es) [] pos) (mq sp [] E0 t):=by
 obtain⟨C,f,fd,hm,c,F,hb⟩:=d.ex;intro pins s σ H Q I h;refine PySem.W.methodCall_KW (pl:=pl) (gI I hg hm ?_ hdb) ht;refine PySem.W.method_cls I.kIn c.ga (PySem.W.cls_value I.kIn c.rd c.at_ rfl ?_);have I1:=I.tok (s.toks+1);refine callWith_K (first:=[]) (h₀:=X.base) I.ok.mod.kin c.kp (b6 (ha pos pins _ σ H _ I1 h) fun us s2 ⟨vs,H2,I2,r,q2⟩=>⟨I2.kIn,?_⟩) hst hpl;exact l4 (us:=us) (vs:=vs) F hr hb .nil nZ I2 r q2
theorem de(d:cG X.prog X.w X.K X.mg X.base x C k ps sp)(hr:cD (k+1) X.A)(hg:Gl X x)(ha:PA X (e::es) t)(hdb:(x == ("__debug__":Str))=false:=by decide)
  (he:starEach (e::es) X.env=(false,eval e X.env)::starEach es X.env:=by rfl) (hpl:(backTo pos (starEach es X.env)).any (·.1)=false:=by rfl) :
  PE X (.Call (.Name x p) (e::es) [] pos) (uZ C sp [] E0 t):=
 let ⟨_,_,M,F,hm,hb⟩:=d.ex;zU M F hr hg hm hb .nil nZ ha hdb he hpl
end
def g8(K:Frag)(a:Addr)(D:List (Str×V)):Prop:=(a == sysModules)=false∧∃o es ep,K.lookup a=some o∧o.ExactDict∧o.data=.dict es ep∧KTD.Rows aN es.toList D
section
variable {prog:Program} {w:World} {A:Around} {E:Value→Shared→Prop} {s:Shared} {K:Frag} {a:Addr} {D:List (Str×V)} {k:Str} {tk:Tok}
theorem g8.typeIs(X:K.In s.heap)(T:g8 K a D):s.TypeIs (.ref a) "dict":=let ⟨_,o,_,_,ho,hc,_⟩:=T;⟨o,X _ _ ho,hc.1⟩
theorem jZ{Q:Option Value→Shared→Prop}(X:K.In s.heap)(T:g8 K a D)(h1:∀d v,KTD.datumAt k D=some d→aN d v→Q (some v) { s with toks:=s.toks+1 })(h2:KTD.datumAt k D=none→Q none { s with toks:=s.toks+1 }):
  wpAny (model prog w) A (dictGet a (.str k tk)) Q E s:=by
 obtain⟨_,o,es,ep,ho,hc,hd,hr⟩:=T;have ho:=X _ _ ho;unfold dictGet
 try with_reducible refine wpAny_holding ?_
 refine wpAny_bind (wpAny_pyHash_str (wpAny_bind (KTD.kt_dictFind_strs (s:={ s with toks:=s.toks+1 }) ho hd (by obtain⟨l⟩:=es;simpa using hr.exact) ?_)))
 have hq:Q (findBy (fun k v=>v.isStr k) es k) { s with toks:=s.toks+1 }:=by
  have hf:findBy (fun k v=>v.isStr k) es k=(es.toList.find? fun e=>e.key.isStr k).map (·.val):=by
   obtain⟨l⟩:=es;simp [findBy]
  rw [hf]
  cases hat:KTD.datumAt k D with
  | some d=>obtain⟨v,hv,hfl⟩:=hr.find_some hat;rw [hv];exact h1 d v hat hfl
  | none=>rw [hr.find_none hat];exact h2 hat
 rw [findBy_of_findIdx?]at hq
 cases hi:es.findIdx? fun e=>e.key.isStr k with
 | none=>rw [hi]at hq;exact wpAny_pure hq
 | some i=>rw [hi]at hq;exact wpAny_bind (wpAny_dictEntries (s:={ s with toks:=s.toks+1 }) ho hd (wpAny_pure hq))
theorem vK{Q:Value→Shared→Prop}(X:K.In s.heap)(T:g8 K a D)(h:Q (.bool (!(KTD.datumAt k D).isSome)) { s with toks:=s.toks+1 }):wpAny (model prog w) A (compareOp .NotIn (.str k tk) (.ref a)) Q E s:=by
 have ty:=T.typeIs X;show wpAny _ _ (do return .bool (!(←contains (.ref a) (.str k tk)))) Q E s;refine wpAny_bind ?_;unfold contains
 try with_reducible refine wpAny_holding ?_
 refine wpAny_bind (wpAny_specialOf ty F.slot_dict_contains.lookup ?_);show wpAny _ _ (if (some (Value.builtin "dict.__contains__") == some Value.none)=true then _ else _) _ E s;rw [if_neg (by rw [beq_builtin_none];exact aa1)]
 refine wpAny_bind (wpAny_callSpecialUnlessNone?_slot (name:=Str.ofString "__contains__") ty F.slot_dict_contains
  (wpAny_call_entry F.slot_dict_contains ty F.entry_dict_contains ?_ (F.args_dict_contains_2 _ _)))
 show wpAny _ _ (dictGet a (.str k tk) >>= _) _ _ s;refine wpAny_bind (jZ X T (fun d v ha _=>?_) fun hn=>?_)
 ·rw [ha]at h
  show wpAny _ _ (ret (.bool true)) _ _ _;exact wpAny_pure ⟨_,rfl,wpAny_truthy_bool (wpAny_pure h)⟩
 ·rw [hn]at h
  show wpAny _ _ (Builtin.Dict.pendingKey? a (.str k tk) >>= _) _ _ _;exact wpAny_bind (wpAny_pendingKey_other T.1 (wpAny_pure ⟨_,rfl,wpAny_truthy_bool (wpAny_pure h)⟩))
theorem xy{value slice:Expr}{v:V}{Q:Value→Shared→Prop}(X:K.In s.heap)(T:g8 K a D)(hv:KTD.datumAt k D=some v)(h:∀u,aN v u→Q u { s with toks:=s.toks+1 })
  (hs:subscripted slice false (.ref a) (.str k tk)=operate [.ref a,.str k tk] (getItem (.ref a) (.str k tk))) (hg:∀r,letTemporaryGo value (.ref a) r=pure ()) :
  wpAny (model prog w) A (subscriptTail value slice (.ref a) (.str k tk)) Q E s:=by
 have ty:=T.typeIs X;refine subscriptTail_builtin ty F.slot_dict_getitem.lookup ?_ hs hg;unfold getItem
 try with_reducible refine wpAny_holding ?_
 refine wpAny_bind (wpAny_sequenceKey ty (by decide) ?_)
 refine wpAny_bind (wpAny_callSpecial?_slot (name:=Str.ofString "__getitem__") ty F.slot_dict_getitem
  (wpAny_call_entry F.slot_dict_getitem ty F.entry_dict_getitem ?_ (F.args_dict_getitem_2 _ _)))
 show wpAny _ _ (dictGet a (.str k tk) >>= _) _ _ s;refine wpAny_bind (jZ X T (fun d v' ha hr=>?_) fun hn=>?_)
 ·rw [hv]at ha
  cases ha;exact wpAny_pure ⟨v',rfl,wpAny_pure (h v' hr)⟩
 ·rw [hv]at hn;cases hn
end
section
variable {X:Cx}
theorem tH(K:Frag)(h:X.K=K:=by rfl):cQ X (compareOp .NotIn) (fun x y H Q=>∃k a D,x=.str k∧y=.ref a∧g8 K a D∧Q (.bl (!(KTD.datumAt k D).isSome)) H):=by
 subst h;intro pins s σ H x y v u Q I rx ry h;obtain⟨k,a,D,rfl,rfl,T,q⟩:=h;obtain⟨t,rfl⟩:=rx;cases ry;exact vK I.kIn T ⟨.bl _,H,I.tok _,rfl,q⟩
theorem xY(K:Frag){x:Str}{p pos:Pos}{b:Expr}{ta tb:TE}(ha:PE X (.Name x p) ta)(hb:PE X b tb)(hs:ud b)(hg:∀v r,letTemporaryGo (.Name x p) v r=pure ():=by intro _ _;with_unfolding_all rfl)(h:X.K=K:=by rfl):
  PE X (.Subscript (.Name x p) b pos) (AR (fun x y H Q=>∃k a D v,x=.str k∧False∨x=.ref a∧y=.str k∧g8 K a D∧KTD.datumAt k D=some v∧Q v H) ta tb):=by
 subst h;intro pins s σ H Q I h;refine Subscript_ (zd ha hb I h fun v u s2 x y H2 I2 rx ry q=>?_);obtain⟨k,a,D,z,q⟩:=q;rcases q with q | ⟨rfl,rfl,T,hv,q⟩
 ·exact q.2.elim
 cases rx;obtain⟨t,rfl⟩:=ry;exact xy I2.kIn T hv (fun u ru=>⟨z,H2,I2.tok _,ru,q⟩) (hs _ _) (hg _)
end
end L2
namespace L2
open PySem PySem.Spec PyProof.Rows
theorem pA{a b:String}:(Str.ofString a=Str.ofString b)↔a=b:=by
 constructor
 ·intro h
  rw [Str.ofString_eq_toList,Str.ofString_eq_toList]at h
  have h1:(a.toList.map Char.toNat)=(b.toList.map Char.toNat):=by
   have:=congrArg (fun s:Str=>s.cps.toList) h
   simpa using this
  have h2:a.toList=b.toList:=by
   refine List.map_inj_right (f:=Char.toNat) (fun x y e=>?_) |>.mp h1
   exact Char.toNat_inj.mp e
  exact String.toList_inj.mp h2
 ·intro h;rw [h]
structure wD where
 size:Int
 start:Int
 after:Int→Option (List Int)→List Int→Option Int
 closes:Int→Option (List Int)→Bool
abbrev qK:=Addr→Hp→Prop
def jN(RI:qK)(v:V):Sp:=fun vs H Q _=>∃r,vs=[.ref r]∧RI r H∧Q v H
structure ue(z kind:Str)(ns:List Int):Prop where
 cs:z.cps.toList=dm 32 (kind.cps.toList::ns.map ig)
 nb:∀n∈ns,n.natAbs < 10 ^ 40
 nl:ns.length≤20
 ks:32∉kind.cps.toList
 kl:kind.length≤20
 k0:kind.cps.toList≠[]
theorem kD(n:Int):32∉ig n:=fun h=>by
 have:=lL n 32 h
 omega
theorem Al{x y:Str}(h:x.cps.toList=y.cps.toList):x=y:=by
 have:=ja x y
 rw [decide_eq_true h]at this;exact of_decide_eq_true this
theorem cy:∀{xs ys:List Str},xs.map (fun z=>z.cps.toList)=ys.map (fun z=>z.cps.toList)→xs=ys
 | [],[],_=>rfl
 | [],_::_,h=>by simp at h
 | _::_,[],h=>by simp at h
 | x::xs,y::ys,h=>by
  rw [ac1,ac1]at h
  injection h with h1 h2
  rw [Al h1,cy h2]
def aP(n:Int):Str:=Str.ofString (toString n)
theorem ue.split{z kind:Str}{ns:List Int}(R:ue z kind ns):Txt.split z ⟨#[32]⟩=kind::ns.map aP:=by
 refine cy ?_;rw [bR z (by decide),R.cs,i8 32 _ (by simp) (fun p hp=>?_),ac1,aj7]
 ·rfl
 ·rcases aa5.mp hp with rfl | hp
  ·exact R.ks
  ·obtain⟨n,_,rfl⟩:=ac4.mp hp
   exact kD n
theorem nW(c:Nat):∀(ps:List (List Nat)) (m:Nat),(∀p∈ps,p.length≤m)→(dm c ps).length≤ps.length * (m+1)
 | [],_,_=>by simp [dm]
 | p::ps,m,h=>by
  have h1:=h p (by simp);have h2:=nW c ps m (fun q hq=>h q (by simp [hq]))
  have h3:(dm c (p::ps)).length≤p.length+1+(dm c ps).length:=by
   cases ps with
   | nil=>simp [dm]
   | cons q ps=>
    simp [dm,ab2];omega
  rw [aa6,aj4];omega
theorem ue.head{z kind:Str}{ns:List Int}(R:ue z kind ns):z.cps.toList.head?=kind.cps.toList.head?:=by
 rw [R.cs]
 cases e:kind.cps.toList with
 | nil=>exact absurd e R.k0
 | cons a l=>
  cases ns with
  | nil=>simp [dm]
  | cons n ns=>simp [dm]
end L2
namespace L2
open PySem PySem.Spec PyProof.Rows
theorem b8(xs:List V)(k:Nat):jl xs (some (k:Int)) none=xs.drop k:=by
 unfold jl;rw [HT.sIx_nat,HT.sIx_none]
 by_cases h:k≤xs.length
 ·rw [aj1 h,ag5 (by rw [ae9];omega)]
 ·rw [ak4 (by omega),List.drop_of_length_le (aa7 _),List.drop_of_length_le (by omega),List.take_nil]
theorem bP(xs:List V)(k:Nat):jl xs none (some (k:Int))=xs.take k:=by
 unfold jl HT.sIx
 have e:¬((k:Int) < 0):=by omega
 simp [e]
theorem aV.at_ins{K:Frag}{H:Hp}{q x C dx:Addr}{fs:List (Str×V)}{xs:List V}{o:HO}(h:aV K H q xs)(hx:H x=some (.ins C dx fs)):aV K (upd H x o) q xs:=by
 rcases h with(h | ⟨u,h⟩) | h
 ·exact .inl (.inl (by rw [aj (lI h hx (by intro z;cases z))];exact h))
 ·exact .inl (.inr ⟨u,by rw [aj (lI h hx (by intro z;cases z))];exact h⟩)
 ·exact .inr h
theorem eE{H:Hp}{x l:Addr}{A L B:HO}:upd (upd (upd H x A) l L) x B=upd (upd H l L) x B:=by
 funext b
 unfold upd
 by_cases h:b=x
 ·rw [if_pos h,if_pos h]
 ·rw [if_neg h,if_neg h,if_neg h]
end L2
namespace L2
open PySem PySem.Spec PyProof.Rows
structure bV(K:Frag)(C:Addr)(m qual:Str)(st:Stmt)(f:Addr)(fd:FuncData):Prop where
 me:AV K C m f
 fn:cC K m qual st f fd
theorem methAt_mk{K:Frag}{C:Addr}{m qual:Str}{st:Stmt}{f:Addr}{oc:Value}{od an:Option Addr}{osl:Array (Option Value)}{kV doc pm cdv ct:Value}(a:findIn K (.ref C) m=some (some (.ref f)))(i:isFn K (.ref f)=true)
  (l:K.lookup f=some ⟨oc,od,.func (fnOf m qual (cI st) (bZ st) (aq st) .none kV doc pm an cdv ct),osl⟩) (c:codeIn K cdv qual=true) (k:keepIn K (.ref f)=true):∃f fd,bV K C m qual st f fd:=
 ⟨f,_,⟨a,i,k⟩,fun_mk l c k⟩
theorem bV.ok{P:Program}{w:World}{K:Frag}{mg:Str→Option Value}{base:Heap}{C:Addr}{m qual:Str}{st:Stmt}{f:Addr}{fd:FuncData}{k:Nat}{ps:List Str}{sp:Sp}(A:bV K C m qual st f fd)(cl:kg K C)(ok:az P w K mg base bH k f fd ps sp)(b:cM K fd ps []):aK P w K mg base C m k ps sp:=⟨cl,f,fd,A.me,ok,b⟩
structure kq(K:Frag)(x m qual:Str)(st:Stmt)(C f:Addr)(fd:FuncData):Prop where
 ns:nsIn K mainGlobals x=some (some (.ref C))
 cm:Av K C m f
 fn:cC K m qual st f fd
theorem cmethAt_mk{K:Frag}{C:Addr}{x m qual:Str}{st:Stmt}{f:Addr}{oc:Value}{od an:Option Addr}{osl:Array (Option Value)}{kV doc pm cdv ct:Value}(n:nsIn K mainGlobals x=some (some (.ref C)))(r:PySem.W.readsIn K C (.type "type")=true)(a:PySem.W.findCls K (.ref C) (.type "type") m=some (.val (.ref f)))
  (g:PySem.W.specialIn K (.ref C) "__getattribute__"=some (some (.builtin "type.__getattribute__")))
  (l:K.lookup f=some ⟨oc,od,.func (fnOf m qual (cI st) (bZ st) (aq st) .none kV doc pm an cdv ct),osl⟩) (c:codeIn K cdv qual=true) (k:keepIn K (.ref f)=true):∃C f fd,kq K x m qual st C f fd:=
 ⟨C,f,_,n,⟨r,a,g,k⟩,fun_mk l c k⟩
theorem kq.df{P:Program}{w:World}{K:Frag}{mg:Str→Option Value}{base h:Heap}{x m qual:Str}{st:Stmt}{C f:Addr}{fd:FuncData}{k:Nat}{ps:List Str}{sp:Sp}(A:kq K x m qual st C f fd)(X:K.In h)(G:h.Ns mainGlobals mg)(ok:az P w K mg base bH k f fd ps sp)(b:cM K fd ps []):jc P w K mg base x m k ps sp:=
 ⟨C,f,fd,mg_of X G A.ns,A.cm,ok,b⟩
structure iE(K:Frag)(x qual:Str)(st:Stmt)(C f:Addr)(fd:FuncData):Prop where
 ns:nsIn K mainGlobals x=some (some (.ref C))
 mm:Mk K C f
 fn:cC K "__init__" qual st f fd
theorem mkAt_mk{K:Frag}{C:Addr}{x qual:Str}{st:Stmt}{f:Addr}{oc:Value}{od an:Option Addr}{osl:Array (Option Value)}{kV doc pm cdv ct:Value}(n:nsIn K mainGlobals x=some (some (.ref C)))(mk:PySem.W.makesIn K C=true)(a:findIn K (.ref C) "__init__"=some (some (.ref f)))(i:isFn K (.ref f)=true)(kc:keepIn K (.ref C)=true)
  (l:K.lookup f=some ⟨oc,od,.func (fnOf "__init__" qual (cI st) (bZ st) (aq st) .none kV doc pm an cdv ct),osl⟩) (c:codeIn K cdv qual=true) (k:keepIn K (.ref f)=true):∃f fd,iE K x qual st C f fd:=
 ⟨f,_,n,⟨mk,a,i,kc⟩,fun_mk l c k⟩
theorem iE.df{P:Program}{w:World}{K:Frag}{mg:Str→Option Value}{base h:Heap}{x qual:Str}{st:Stmt}{C f:Addr}{fd:FuncData}{k:Nat}{ps:List Str}{sp:Sp}(A:iE K x qual st C f fd)(X:K.In h)(G:h.Ns mainGlobals mg)(ok:az P w K mg base bH k f fd ps sp)(b:cM K fd ps []):cG P w K mg base x C k ps sp:=
 ⟨f,fd,A.mm,ok,mg_of X G A.ns,b⟩
theorem Ba{n:Nat}{k:Int}(h0:0≤k)(h1:k < n):yR n k=some k.toNat:=by
 unfold yR;obtain⟨j,rfl⟩:=ad9 h0;simp;omega
theorem xP{n:Int}(h:n.natAbs < 10 ^ 40):(aP n).length≤41:=by
 rw [aL];exact lK (n:=n) (k:=40) (by decide) h
theorem rowsR{e:DictEntry}{x:Str}{t:Tok}{f:Addr}{es:List DictEntry}{D:List (Str×V)}(h1:e.key=.str x t)(h2:e.val=.ref f)(r:KTD.Rows aN es D):KTD.Rows aN (e::es) ((x,V.ref f)::D):=.cons h1 h2 r
theorem tab_mk{K:Frag}{a:Addr}{o:Obj}{es:Array DictEntry}{ep:Nat}{D:List (Str×V)}(l:K.lookup a=some o)(s:(a == sysModules)=false)(x:o.cls=.type "dict")(y:o.dict=none)(z:o.slots=#[])(d:o.data=.dict es ep)(r:KTD.Rows aN es.toList D):g8 K a D:=⟨s,o,es,ep,l,⟨x,y,z⟩,d,r⟩
theorem defAtD_mk2{K:Frag}{x:Str}{st:Stmt}{f T:Addr}{oc:Value}{od an:Option Addr}{osl:Array (Option Value)}{kV doc pm cdv ct u:Value}{o:Obj}{n:Nat}{v:V}(a:nsIn K mainGlobals x=some (some (.ref f)))
  (l:K.lookup f=some ⟨oc,od,.func (fnOf x x (cI st) (bZ st) (aq st) (.ref T) kV doc pm an cdv ct),osl⟩) (c:codeIn K cdv x=true) (k:keepIn K (.ref f)=true)
  (t:K.lookup T=some o) (d:o.data=.seq #[u] n) (r:aN v u):∃f fd u,wu K x st f fd u∧aN v u:=
 ⟨f,_,u,⟨a,T,o,n,⟨⟨oc,od,kV,doc,pm,an,cdv,ct,osl,rfl,l,c⟩,k⟩,t,d⟩,r⟩
end L2
namespace L2
open PySem PySem.Spec PyProof.Rows
section
variable {X:Cx}
theorem mC:bT X (.type "str") (fun xs H Q=>∃z,xs=[.str z]∧Q (.str z) H):=by
 intro pins s σ H xs us Q I r h;obtain⟨z,rfl,q⟩:=h;obtain⟨u,rfl,ru⟩:=d2 r;obtain⟨t,rfl⟩:=ru;exact P.str_of_str ⟨.str z,H,I,⟨t,rfl⟩,q⟩
def tL:List V→Hp→VK→Prop:=fun xs H Q=>(∃i,xs=[.int i]∧i.natAbs.log2 < 1920∧Q (.str (aP i)) H)∨∃z,xs=[.str z]∧Q (.str z) H
theorem b7:bT X (.type "str") tL:=call_str_int.or mC
end
theorem rStr_i{i:Int}{H:Hp}{Q:VK}:tL [.int i] H Q↔i.natAbs.log2 < 1920∧Q (.str (aP i)) H:=by simp [tL]
theorem BU{z:Str}{H:Hp}{Q:VK}:tL [.str z] H Q↔Q (.str z) H:=by simp [tL]
end L2
namespace L3
open PySem PySem.Spec PyProof.Rows
section
variable {prog:Program} {w:World} {A:Around} {E:Value→Shared→Prop} {s:Shared}
end
end L3
namespace L2
open PySem PySem.Spec PyProof.Rows
def CB(K:Frag)(n:Nat)(t:y3):TG:=fun v σ H Q=>∃a l xs,v=.ref a∧jW K l H a xs∧xs.length=n∧t xs σ H Q
theorem yV{K:Frag}{H:Hp}{n:Nat}{a c:Addr}{l:Bool}{xs:List V}(h1:jW K l H a xs)(h2:jW K l H c []):yU K H n (.ref a) (.ref c) (xs.length == 0):=by
 refine⟨a,c,l,xs,[],fun _=>true,rfl,rfl,h1,h2,fun j x y _ hy=>(by simp at hy),?_⟩;simp
theorem yk{K:Frag}{H:Hp}{a c:Addr}{l:Bool}{xs:List V}{Q:VK}(h1:jW K l H a xs)(h2:jW K l H c [])(q:Q (.bl (!(xs.length == 0))) H):il K (.ref a) (.ref c) H Q:=.inr ⟨_,yV h1 h2,q⟩
end L2
namespace L2
open PySem PySem.Spec PyProof.Rows
section
variable {X:Cx} {e st:Expr} {te:TE} {p2 pos:Pos}
def Dc(K:Frag)(te ts:TE):TE:=fun σ H Q=>te σ H fun x H1=>ts σ H1 fun y H2=>y=.int (-1)∧∃a xs,x=.ref a∧aV K H2 a xs∧∀p,H2 p=none→Q (.ref p) (upd H2 p (.lst xs.reverse))
end
end L2
namespace L2
open PySem PySem.Spec PyProof.Rows
end L2
namespace L3
open PySem PySem.Spec PyProof.Rows L2 HT
section
variable {prog:Program} {w:World} {A:Around} {E:Value→Shared→Prop} {s:Shared}
end
end L3
namespace L2
open PySem PySem.Spec PyProof.Rows
section
variable {X:Cx}
def AN(K:Frag):R2:=fun x y H Q=>∃a b ys,x=.ref a∧y=.ref b∧dI K H a []∧dI K H b ys∧Q (.ref b) H
def iV(K:Frag):R2:=fun x y H Q=>dh K x y H Q∨AN K x y H Q
end
theorem rR{K:Frag}{i j:Int}{H:Hp}{Q:VK}:iV K (.int i) (.int j) H Q↔Q (.int (i+j)) H:=by
 simp [iV,lY,AN]
theorem Bd(K:Frag):lE (iV K)=iV K:=uE fun _ _ _ _=>rR
theorem zw{K:Frag}{x y:V}{H:Hp}{Q:VK}:lE (iV K) x y H Q↔iV K x y H Q:=by rw [Bd]
end L2
namespace L2
open PySem PySem.Spec PyProof.Rows
def Itd(lo:Int)(n:Nat):It:=⟨fun i _=>i < n,fun i H x H'=>H'=H∧x=.int (lo - i),fun i _=>n≤i⟩
section
variable {X:Cx} {tg:Expr}
def AE(ta:TA):TI:=fun σ H R=>ta σ H fun vs H1=>∃i j:Int,vs=[.int i,.int j,.int (-1)]∧(-(2 ^ 62)≤i∧i < 2 ^ 62∧-(2 ^ 62)≤j∧j < 2 ^ 62)∧R (Itd i (i - j).toNat) H1
end
theorem g6:∀{ns:List Int} {us:List Value},aR (ns.map V.int) us→∃ps:List (Int×Tok),us=ps.map (fun p=>Value.int p.1 p.2)∧ps.map (·.1)=ns
 | [],_,.nil=>⟨[],rfl,rfl⟩
 | n::ns,_,.cons r t=>by
  obtain⟨ps,e1,e2⟩:=g6 t;obtain⟨tk,rfl⟩:=r;exact⟨(n,tk)::ps,by rw [e1];rfl,by rw [←e2];rfl⟩
end L2
namespace L2
open PySem PySem.Spec PyProof.Rows
def cZ(c:Nat):Nat→List Nat→List (List Nat)
 | 0,l=>[l]
 | _+1,[]=>[[]]
 | n+1,a::l=>if a=c then []::cZ c n l else match cZ c (n+1) l with
  | []=>[[a]]
  | p::r=>(a::p)::r
theorem qj(c:Nat):∀n l,cZ c n l≠[]
 | 0,l=>by simp [cZ]
 | n+1,[]=>by simp [cZ]
 | n+1,a::l=>by
  simp only [cZ]
  split
  ·simp
  ·split<;>simp
theorem gK(x:Str)(c:Nat)(lim:Nat):∀(l:List Nat) (i:Nat) (acc:Array Nat) (fr:Nat),x.cps.toList.drop i=l→fr≤i→
  (forIn (List.range' i (l.length+1)) (acc,fr) (StrLaws.occBody x ⟨#[c]⟩ x.length lim)).run.fst.toList=acc.toList++(cH c l i).take (lim - acc.size)
 | [],i,acc,fr,hl,hf=>by
  have hi:x.length≤i:=by
   rw [aL];exact ah2.mp hl
  show(forIn [i] (acc,fr) _:Id _).run.fst.toList=_;rw [ah5];unfold StrLaws.occBody;rw [if_neg (by intro h;have:=h.1.2;have e1:(⟨#[c]⟩:Str).length=1:=rfl;rw [e1]at this;omega)];show acc.toList=_;simp [cH]
 | b::l,i,acc,fr,hl,hf=>by
  have hb:x.cps.toList[i]?=some b:=by
   have:(x.cps.toList.drop i)[0]?=some b:=by rw [hl];rfl
   rwa [af6,al0]at this
  have hi:i < x.length:=by
   rw [aL];obtain⟨h,_⟩:=aa4.mp hb;exact h
  have hd:x.cps.toList.drop (i+1)=l:=by
   rw [←ai0,hl];rfl
  have e1:(⟨#[c]⟩:Str).length=1:=rfl;show(forIn (i::List.range' (i+1) (l.length+1)) (acc,fr) _:Id _).run.fst.toList=_;rw [ah5];unfold StrLaws.occBody
  by_cases hc:b=c
  ·by_cases hs:acc.size < lim
   ·rw [if_pos ⟨⟨⟨hs,hf⟩,by rw [e1];omega⟩,((StrLaws.subAt_one x c i).mpr (by rw [hb,hc])).2⟩]
    show(forIn (List.range' (i+1) (l.length+1)) (acc.push i,i+1) (StrLaws.occBody x ⟨#[c]⟩ x.length lim):Id _).run.fst.toList=_;rw [gK x c lim l (i+1) _ _ hd (aa7 _),Array.size_push];simp only [cH,hc,if_true];rw [show lim - acc.size=(lim - (acc.size+1))+1 by omega,ad1];simp
   ·rw [if_neg (fun h=>hs h.1.1.1)]
    show(forIn (List.range' (i+1) (l.length+1)) (acc,fr) (StrLaws.occBody x ⟨#[c]⟩ x.length lim):Id _).run.fst.toList=_;rw [gK x c lim l (i+1) _ _ hd (by omega)];rw [show lim - acc.size=0 by omega];simp
  ·rw [if_neg (fun h=>hc (by have:=(StrLaws.subAt_one x c i).mp ⟨h.1.2,h.2⟩;rw [hb]at this;exact Option.some.inj this))]
   show(forIn (List.range' (i+1) (l.length+1)) (acc,fr) (StrLaws.occBody x ⟨#[c]⟩ x.length lim):Id _).run.fst.toList=_;rw [gK x c lim l (i+1) _ _ hd (by omega)];simp [cH,hc]
theorem xS(x:Str)(c n:Nat):Builtin.Str.occurrences x ⟨#[c]⟩ 0 x.length n=(cH c x.cps.toList 0).take n:=by
 rw [StrLaws.occ_eq]
 have e:x.length+1 - 0=x.cps.toList.length+1:=by rw [aL];rfl
 rw [e];have h:=gK x c n x.cps.toList 0 #[] 0 rfl (aa7 _);rw [h];rfl
theorem gc(x:Str)(c:Nat):∀(l:List Nat) (n a j:Nat),a≤j→x.cps.toList.drop j=l→j≤x.length→
  (StrLaws.partsFrom x 1 a ((cH c l j).take n)).map (fun z=>z.cps.toList)=match cZ c n l with
   | []=>[]
   | p::r=>((x.cps.toList.drop a).take (j - a)++p)::r
 | l,0,a,j,haj,hl,hj=>by
  simp only [ae7,cZ,StrLaws.partsFrom,ac1,ag1,StrLaws.strSub_toList];congr 1;rw [ag5 (by rw [ae9,aL];omega)]
  have:=ai2 (j - a) (x.cps.toList.drop a)
  rw [ai0,show a+(j - a)=j by omega,hl]at this;exact this.symm
 | [],n+1,a,j,haj,hl,hj=>by
  have hj':x.length≤j:=by rw [aL];exact ah2.mp hl
  have e:j=x.length:=by omega
  subst e;simp [cH,cZ,StrLaws.partsFrom,StrLaws.strSub_toList]
 | b::l,n+1,a,j,haj,hl,hj=>by
  have hb:x.cps.toList[j]?=some b:=by
   have:(x.cps.toList.drop j)[0]?=some b:=by rw [hl];rfl
   rwa [af6,al0]at this
  have hi:j < x.length:=by
   rw [aL];obtain⟨h,_⟩:=aa4.mp hb;exact h
  have hd:x.cps.toList.drop (j+1)=l:=by
   rw [←ai0,hl];rfl
  by_cases hc:b=c
  ·have ih:=gc x c l n (j+1) (j+1) (aa7 _) hd hi
   simp only [cH,hc,if_true,ad1,StrLaws.partsFrom,ac1,cZ,ae0];rw [ih]
   cases hs:cZ c n l with
   | nil=>exact absurd hs (qj c n l)
   | cons p r=>simp [StrLaws.strSub_toList]
  ·have ih:=gc x c l (n+1) a (j+1) (by omega) hd hi
   simp only [cH,hc,if_false,cZ];rw [ih]
   cases hs:cZ c (n+1) l with
   | nil=>exact absurd hs (qj c (n+1) l)
   | cons p r=>
    have ht:(x.cps.toList.drop a).take (j+1 - a)=(x.cps.toList.drop a).take (j - a)++[b]:=by
     have e1:j+1 - a=(j - a)+1:=by omega
     rw [e1,ac8,af6]
     have e2:a+(j - a)=j:=by omega
     rw [e2,hb];rfl
    simp [ht]
theorem i7(c n:Nat)(rest:List Nat):∀(p:List Nat),c∉p→cZ c (n+1) (p++c::rest)=p::cZ c n rest
 | [],_=>by simp [cZ]
 | a::p,h=>by
  have h1:¬a=c:=fun e=>h (by simp [e]);have ih:=i7 c n rest p (fun e=>h (by simp [e]));show cZ c (n+1) (a::(p++c::rest))=_;simp only [cZ,h1,if_false];rw [ih]
theorem lW(c:Nat)(rest:List Nat):∀(p:List Nat) (i:Nat),cH c (p++c::rest) i≠[]
 | [],i=>by simp [cH]
 | a::p,i=>by
  show cH c (a::(p++c::rest)) i≠[];simp only [cH]
  split
  ·simp
  ·exact lW c rest p (i+1)
def dA(z:Str)(c k:Nat):List Str:=Builtin.Str.partsBetween z ((cH c z.cps.toList 0).take k) 1
theorem fk(z:Str)(c k:Nat):(dA z c k).map (fun y=>y.cps.toList)=cZ c k z.cps.toList:=by
 unfold dA;rw [StrLaws.partsBetween_eq,gc z c z.cps.toList k 0 0 (aa7 _) rfl (ab5 _)]
 cases hs:cZ c k z.cps.toList with
 | nil=>exact absurd hs (qj c k _)
 | cons p r=>simp
theorem vI{X:Cx}:wj X "str.split" (fun x xs H Q=>∃z c k,x=.str z∧xs=[.str ⟨#[c]⟩,.int k]∧c < 256∧0 < k∧k < 2 ^ 30∧cH c z.cps.toList 0≠[]∧z.length < sizeLine∧(dA z c k.toNat).length≤sizeLine∧∀p,H p=none→Q (.ref p) (upd H p (.lst ((dA z c k.toNat).map V.str)))):=by
 intro pins s σ H x xs v us Q I rx r h;obtain⟨z,c,k,rfl,rfl,hc,k0,k1,hne,hz,hlen,q⟩:=h;obtain⟨t,rfl⟩:=rx;obtain⟨u,u2,rfl,⟨t',rfl⟩,⟨t2,rfl⟩⟩:=mw r
 have ek:Builtin.Str.strKind ⟨#[c]⟩=1:=by simp [Builtin.Str.strKind,hc]
 have ek2:1≤Builtin.Str.strKind z:=by unfold Builtin.Str.strKind;split<;>(try split)<;>omega
 have hzl:1≤z.length:=by
  rw [aL]
  cases hz':z.cps.toList with
  | nil=>rw [hz']at hne;exact absurd rfl hne
  | cons a l=>simp
 have h1:(decide (z.length < (⟨#[c]⟩:Str).length) || decide (Builtin.Str.strKind z < Builtin.Str.strKind ⟨#[c]⟩))=false:=by
  rw [ek];have e1:(⟨#[c]⟩:Str).length=1:=rfl;rw [e1,decide_eq_false (by omega),decide_eq_false (by omega)];rfl
 have hk:(decide (k < -(2 ^ 63:Int)) || decide (k≥2 ^ 63))=false:=by
  rw [decide_eq_false (by omega),decide_eq_false (by omega)];rfl
 have el:Builtin.Str.occurrences z ⟨#[c]⟩ 0 z.length (PySem.limitOf z k)=(cH c z.cps.toList 0).take k.toNat:=by
  rw [xS];unfold PySem.limitOf;rw [if_neg (by omega)]
 have hf:(Builtin.Str.occurrences z ⟨#[c]⟩ 0 z.length (PySem.limitOf z k)).isEmpty=false:=by
  rw [el]
  cases hp:cH c z.cps.toList 0 with
  | nil=>exact absurd hp hne
  | cons a l=>rw [show k.toNat=(k.toNat - 1)+1 by omega];rfl
 have ep:Builtin.Str.partsBetween z (Builtin.Str.occurrences z ⟨#[c]⟩ 0 z.length (PySem.limitOf z k)) (⟨#[c]⟩:Str).length=dA z c k.toNat:=by rw [el];rfl
 have fin:∀(its:List Value) (tk:Nat),aR ((dA z c k.toNat).map V.str) its→EP X pins σ Q (.ref s.heap.objs.size) { s with toks:=tk,heap:=s.heap.push { cls:=.type "list",data:=.seq its.toArray } }:=fun its tk rv=>
  ⟨.ref s.heap.objs.size,_,I.laid (t':=tk) (o:=.lst ((dA z c k.toNat).map V.str)) (fun b ob q=>aa2 _ q) (aa7 _) ⟨by rw [aa0];exact hlen,its,0,rv,ab4 _ rfl⟩,rfl,q _ (I.hok.fresh (aa7 _))⟩
 rw [←ep]at fin hlen;exact call_meets F.slot_str_split (typeIs_str _ _ _) F.entry_str_split (F.args_str_split_3 _ _ _) (meets_str_split_sep_max z ⟨#[c]⟩ k t t' t2 hk h1 rfl hf (ah6 hz) hlen) (fin _ _ (jV _ _))
end L2
namespace L2
open PySem PySem.Spec PyProof.Rows
def wB(K:Frag)(a:Addr)(xs:List V):Prop:=∃(o:Obj) (its:Array Value) (n:Nat),K.lookup a=some o∧o.cls=.type "tuple"∧o.data=.seq its n∧its.size≤sizeLine∧aR xs its.toList
theorem wB.at{K:Frag}{a:Addr}{xs:List V}(h:wB K a xs)(H:Hp):dI K H a xs:=.inr h
theorem ktup_mk{K:Frag}{a:Addr}{o:Obj}{its:Array Value}{n:Nat}{xs:List V}(l:K.lookup a=some o)(x:o.cls=.type "tuple")(d:o.data=.seq its n)(z:its.size≤sizeLine)(r:aR xs its.toList):wB K a xs:=⟨o,its,n,l,x,d,z,r⟩
theorem tX(z y:Str){rest:List Nat}(h:z.cps.toList=y.cps.toList++rest):Txt.startswith z y=true:=by
 obtain⟨⟨l⟩⟩:=z;obtain⟨⟨m⟩⟩:=y;simp at h;subst h
 unfold Txt.startswith
 rw [StrLaws.subAt_eq];simp [Str.length]
structure y2(z rest:Str)(t u:Int):Prop where
 cs:z.cps.toList=(Str.ofString "every").cps.toList++32::(ig t++32::(ig u++32::rest.cps.toList))
 tb:t.natAbs < 10 ^ 40
 ub:u.natAbs < 10 ^ 40
 rl:rest.length≤10000
theorem y2.split{z rest:Str}{t u:Int}(R:y2 z rest t u):dA z 32 3=[Str.ofString "every",aP t,aP u,rest]:=by
 refine cy ?_;rw [fk,R.cs,i7 32 2 _ _ (by decide +kernel),i7 32 1 _ _ (kD t),i7 32 0 _ _ (kD u)];simp only [cZ,ac1,ag1];rfl
theorem y2.pos{z rest:Str}{t u:Int}(R:y2 z rest t u):cH 32 z.cps.toList 0≠[]:=by
 rw [R.cs];exact lW 32 _ _ 0
theorem rW{K:Frag}{H:Hp}{a:Addr}{z:Str}{ws:List Str}{Q:VK}(h:dI K H a (ws.map V.str))(q:Q (.bl (!decide (z∈ws))) H):gO K (.str z) (.ref a) H Q:=by
 have e:∀ws:List Str,CF (.str z) (ws.map V.str)=decide (z∈ws):=by
  intro ws
  induction ws with
  | nil=>rfl
  | cons d D ih=>
   have e:CF (.str z) ((d::D).map V.str)=((d == z) || CF (.str z) (D.map V.str)):=rfl
   rw [e,ih,ag7,al3,beq_iff_eq,decide_eq_true_eq,decide_eq_true_eq,aa5];exact⟨fun h=>h.imp Eq.symm id,fun h=>h.imp Eq.symm id⟩
 refine .inr ⟨a,_,rfl,.inr h,rfl,?_,?_⟩
 ·rw [ah9];exact af1.mpr fun _ _=>rfl
 ·rw [e];exact q
end L2
namespace L2
open PySem PySem.Spec PyProof.Rows
section
variable {X:Cx} {tg:Expr}
end
end L2
namespace L2
open PySem PySem.Spec PyProof.Rows
theorem vk{k:V→Prop}{σ:L2.St}{i:Nat}:(yp σ i k)=(∃v,σ[i]?=some (some v)∧k v):=propext kI
theorem vi{v:V}{k:Int→Prop}:(yP v k)=(∃i,v=V.int i∧k i):=propext iJ
theorem vh{v:V}{k:Bool→Prop}:(Ax v k)=(∃i,v=V.bl i∧k i):=propext iI
theorem zk{x y:V}{H:Hp}{Q:VK}:(wk n9 x y H Q)=(n9 x y H Q):=propext CG
theorem zm{x y:V}{H:Hp}{Q:VK}:(wm og x y H Q)=(og x y H Q):=propext CI
theorem ny{K:Frag}{x y:V}{H:Hp}{Q:VK}:(lE (dh K) x y H Q)=(dh K x y H Q):=propext zu
theorem nA{K:Frag}{x y:V}{H:Hp}{Q:VK}:(rm (eB K) x y H Q)=(eB K x y H Q):=propext zy
theorem xg{K:Frag}{x y:V}{H:Hp}{Q:VK}:(wk (iW K) x y H Q)=(iW K x y H Q):=propext Be
theorem xh{K:Frag}{x y:V}{H:Hp}{Q:VK}:(wm (il K) x y H Q)=(il K x y H Q):=propext Bh
theorem vj{K:Frag}{x y:V}{H:Hp}{Q:VK}:(lE (iV K) x y H Q)=(iV K x y H Q):=propext zw
theorem kZ{K:Frag}{i j:Int}{H:Hp}{Q:VK}:(dh K (V.int i) (V.int j) H Q)=(Q (V.int (i+j)) H):=propext lY
theorem lg{K:Frag}{i j:Int}{H:Hp}{Q:VK}:(iV K (V.int i) (V.int j) H Q)=(Q (V.int (i+j)) H):=propext rR
theorem hV{K:Frag}{i j:Str}{H:Hp}{Q:VK}:(dh K (V.str i) (V.str j) H Q)=(i.length+j.length≤sizeLine∧Q (V.str (i++j)) H):=propext rAddA_ss
theorem lj{i j:Int}{H:Hp}{Q:VK}:(j4 (V.int i) (V.int j) H Q)=(IntMulOk i j∧Q (V.int (i * j)) H):=propext rS
theorem ll{z:Str}{j:Int}{H:Hp}{Q:VK}:(j4 (V.str z) (V.int j) H Q)=((-1000000≤j∧j≤1000000∧z.length≤16)∧Q (V.str (fq z j)) H):=propext rT
theorem lp{K:Frag}{i j:Int}{H:Hp}{Q:VK}:(eB K (V.int i) (V.int j) H Q)=(IntMulOk i j∧Q (V.int (i * j)) H):=propext rV
theorem hX{K:Frag}{z:Str}{j:Int}{H:Hp}{Q:VK}:(eB K (V.str z) (V.int j) H Q)=((-1000000≤j∧j≤1000000∧z.length≤16)∧Q (V.str (fq z j)) H):=propext yj
theorem qZ{K:Frag}{z:Str}{lo hi:Option Int}{H:Hp}{Q:VK}:(vW K (V.str z) lo hi H Q)=(z.length≤sizeLine∧Q (V.str (Txt.slice z lo hi)) H):=propext BP
theorem ur{K:Frag}{z:Str}{i:Int}{H:Hp}{Q:VK}:(AO K (V.str z) (V.int i) H Q)=(z.length≤sizeLine∧∃c,eF z.cps.toList i=some c∧Q (V.str { cps:=#[c] }) H):=propext C5
theorem qT{i j:Int}{H:Hp}{Q:VK}:(n9 (V.int i) (V.int j) H Q)=(Q (V.bl (decide (i=j))) H):=propext rEq_ii
theorem qX{i j:Int}{H:Hp}{Q:VK}:(og (V.int i) (V.int j) H Q)=(Q (V.bl !decide (i=j)) H):=propext pW
theorem qU{i j:Str}{H:Hp}{Q:VK}:(n9 (V.str i) (V.str j) H Q)=(Q (V.bl (decide (i=j))) H):=propext pU
theorem nE{K:Frag}{i j:Int}{H:Hp}{Q:VK}:(pT K (V.int i) (V.int j) H Q)=(Q (V.bl (decide (i=j))) H):=propext z3
theorem nJ{K:Frag}{i j:Int}{H:Hp}{Q:VK}:(pV K (V.int i) (V.int j) H Q)=(Q (V.bl !decide (i=j)) H):=propext Aa
theorem nF{K:Frag}{i j:Str}{H:Hp}{Q:VK}:(pT K (V.str i) (V.str j) H Q)=(Q (V.bl (decide (i=j))) H):=propext z4
theorem nK{K:Frag}{i j:Str}{H:Hp}{Q:VK}:(pV K (V.str i) (V.str j) H Q)=(Q (V.bl !decide (i=j)) H):=propext Ab
theorem nB{K:Frag}{i j:Bool}{H:Hp}{Q:VK}:(pT K (V.bl i) (V.bl j) H Q)=(Q (V.bl (decide (i=j))) H):=propext zZ
theorem nI{K:Frag}{i j:Bool}{H:Hp}{Q:VK}:(pV K (V.bl i) (V.bl j) H Q)=(Q (V.bl !decide (i=j)) H):=propext z8
theorem qY{i j:Str}{H:Hp}{Q:VK}:(og (V.str i) (V.str j) H Q)=(Q (V.bl !decide (i=j)) H):=propext pX
theorem qS{i j:Bool}{H:Hp}{Q:VK}:(n9 (V.bl i) (V.bl j) H Q)=(Q (V.bl (decide (i=j))) H):=propext yh
theorem qW{i j:Bool}{H:Hp}{Q:VK}:(og (V.bl i) (V.bl j) H Q)=(Q (V.bl !decide (i=j)) H):=propext yl
theorem qV{K:Frag}{c:Nat}{z:Str}{H:Hp}{Q:VK}:(yi K (V.str { cps:=#[c] }) (V.str z) H Q)=(Q (V.bl (decide (c∈z.cps.toList))) H):=propext BK
theorem j0{K:Frag}{c:Nat}{z:Str}{H:Hp}{Q:VK}:(gO K (V.str { cps:=#[c] }) (V.str z) H Q)=(Q (V.bl !decide (c∈z.cps.toList)) H):=propext vV
theorem q9{i:Int}{H:Hp}{Q:VK}:(tL [V.int i] H Q)=(i.natAbs.log2 < 1920∧Q (V.str (aP i)) H):=propext rStr_i
theorem rb{z:Str}{H:Hp}{Q:VK}:(tL [V.str z] H Q)=(Q (V.str z) H):=propext BU
theorem nG{K:Frag}{i j:Int}{H:Hp}{Q:VK}:(iW K (V.int i) (V.int j) H Q)=(Q (V.bl (decide (i=j))) H):=propext rEqC_ii
theorem nL{K:Frag}{i j:Int}{H:Hp}{Q:VK}:(il K (V.int i) (V.int j) H Q)=(Q (V.bl !decide (i=j)) H):=propext uQ
theorem nH{K:Frag}{i j:Str}{H:Hp}{Q:VK}:(iW K (V.str i) (V.str j) H Q)=(Q (V.bl (decide (i=j))) H):=propext rEqC_ss
theorem nM{K:Frag}{i j:Str}{H:Hp}{Q:VK}:(il K (V.str i) (V.str j) H Q)=(Q (V.bl !decide (i=j)) H):=propext uR
theorem qR{K:Frag}{b k:Bool}{H:Hp}:(y4 K (V.bl b) H k)=(k=b):=propext TruV_b
theorem uu{K:Frag}{z:Str}{H:Hp}:(Ce K "str" (V.str z) H)=(True):=propext De
theorem kX{K:Frag}{i j:Str}{H:Hp}{Q:VK}:lE (dh K) (.str i) (.str j) H Q=(i.length+j.length≤sizeLine∧Q (.str (i++j)) H):=by rw [ny,hV]
theorem kY{K:Frag}{z:Str}{j:Int}{H:Hp}{Q:VK}:rm (eB K) (.str z) (.int j) H Q=((-1000000≤j∧j≤1000000∧z.length≤16)∧Q (.str (fq z j)) H):=by rw [nA,hX]
theorem sO{α:Sort u}{p:α→Prop}{a':α}:(∃a,a'=a∧p a)=p a':=propext exists_eq_left'
theorem xb{α:Sort u}{a':α}:(∃a,a'=a)=True:=eq_true ⟨_,rfl⟩
theorem AB{α:Sort u}{a':α}:(∃a,a=a')=True:=eq_true ⟨_,rfl⟩
theorem xf{α:Sort u}{p:α→Prop}{a':α}:(∃a,a=a'∧p a)=p a':=propext exists_eq_left
theorem xa{α:Sort u}{p:α→Prop}{b:Prop}:(∃x,b∧p x)=(b∧∃x,p x):=propext exists_and_left
theorem w9{a b c:Prop}:((a∧b)∧c)=(a∧b∧c):=propext and_assoc
theorem xc{α:Sort u}:(∃_:α,False)=False:=eq_false exists_false
theorem AA{b:Prop}(α:Sort u)[Nonempty α]:(∃_:α,b)=b:=propext (exists_const α)
theorem Cz{p:Prop}{x:Decidable p}:(decide p=false)=¬p:=propext decide_eq_false_iff_not
theorem fh{c:TT}{t w:TS}{D:eG}{σ:L2.St}{H:Hp}(h:∀A B:Hp→Prop,(∀H,jT t w D σ H→A H)→(∀H,w D σ H→B H)→c σ H fun b H1=>if b=true then A H1 else B H1):jT (yz c t sr) w D σ H:=h _ _ (fun _ x=>x) fun _ x=>x
end L2
namespace L2
open PySem PySem.Spec PyProof.Rows
section
variable {prog:Program} {w:World} {A:Around} {R:Result→Shared→Prop} {it al bb:Addr} {items:Array Value} {G:Heap→Prop} {kf:Nat→List Int} {d:Value}
end
section
variable {prog:Program} {w:World} {A:Around} {E:Value→Shared→Prop} {s:Shared}
end
end L2
namespace L2
open PySem PySem.Spec PyProof.Rows
section
variable {prog:Program} {w:World} {A:Around} {E:Value→Shared→Prop} {s:Shared}
end
end L2
namespace XE
open PySem
open Sem (wp)
section
variable {M:Model} {A:Around} {E:Value→Shared→Prop} {s:Shared}
def Tr(h:Heap)(e T:Addr)(cls:Value)(dc:Option Addr)(fl:Value):Prop:=
 ∃oe vs oT ts,h.get? e=some oe∧(oe.cls=cls∧oe.dict=dc)∧oe.data=.fields vs∧vs[1]?=some (.ref T)∧T≠e∧h.get? T=some oT∧oT.data=.fields ts∧ts[3]?=some fl
def DU(h:Heap)(e:Addr)(cls:Value)(dc:Option Addr):Prop:=∃oe vs,h.get? e=some oe∧(oe.cls=cls∧oe.dict=dc)∧oe.data=.fields vs∧vs[1]?=some .none
def On(base:Heap)(l:List Env)(e:Addr)(h:Heap):Prop:=base.StaysIn h∧base.get? e=none∧h.FunFrames base l
theorem Tr.there{h:Heap}{e T:Addr}{cls:Value}{dc:Option Addr}{fl:Value}(x:Tr h e T cls dc fl):∃o vs,h.get? e=some o∧o.cls=cls∧o.dict=dc∧o.data=.fields vs:=
 let ⟨o,vs,_,_,a,b,c,_⟩:=x;⟨o,vs,a,b.1,b.2,c⟩
theorem Tr.tb{h:Heap}{e T:Addr}{cls:Value}{dc:Option Addr}{fl:Value}(x:Tr h e T cls dc fl):∃o vs,h.get? T=some o∧o.data=.fields vs:=
 let ⟨_,_,o,vs,_,_,_,_,_,a,b,_⟩:=x;⟨o,vs,a,b⟩
theorem entry{base:Heap}{env:Env}{outer:List Env}{L e:Addr}{oe:Obj}{vs:Array Value}{head:Value}{hadNext:Bool}{Q:Unit→Shared→Prop}
  (hfr:A.frames=some (env::outer)) (o:On base (env::outer) e s.heap) (hf:env.frame=some L) (he:s.heap.get? e=some oe) (hd:oe.data=.fields vs) (hsz:1 < vs.size)
  (h:∀h' T,s.heap.objs.size≤T→On base (env::outer) e h'→Tr h' e T oe.cls oe.dict (rawInt L)→s.heap.UpToSlots h'→Q () { s with heap:=h' }) :
  wpAny M A (do let a ←frameOf env;let pl ←entryPlaceOf L hadNext;let b ←EntryCells.newEntry head a .none (rawInt L) .none pl;setField (.ref e) 1 b) Q E s:=by
 obtain⟨hkb,hen,hl⟩:=o
 have hene:e∉(env::outer).filterMap (·.frame):=fun hm=>by
  obtain⟨_,o,ho,hnf⟩:=hl.mem hm
  rw [he]at ho;injection ho with ho;subst ho;exact hnf vs hd
 refine wpAny_bind (wpAny_frameOf_fun hfr hl hf fun h₁ hs₁=>?_);refine wpAny_bind (wpAny_entryPlaceOf fun pl hpl=>?_);unfold EntryCells.newEntry newFields;refine wpAny_bind (wpAny_newObj_type ?_ (hpl.sizeOk5 _ _ _ _ _));have he₁:h₁.get? e=some oe:=(hs₁.2.1 e hene).trans he;have kb₁:base.StaysIn h₁:=fun b o hbo=>(hs₁.2.1 b fun hm=>by rw [(hl.mem hm).1]at hbo;cases hbo).trans (hkb b o hbo);generalize hT:({ cls:=.type "traceback",dict:=none,data:=.fields ([head,.ref L,.none,rawInt L,.none]++(if pl.isEmpty then List.replicate 6 Value.none else pl)).toArray }:Obj)=oT;have he₂:=aa2 (h:=h₁) oT he₁;refine wpAny_setField he₂ hd hsz (h _ h₁.objs.size (Nat.le_of_eq hs₁.1.symm) ?_ ?_ ?_)
 all_goals
  have hTe:h₁.objs.size≠e:=ah3 (ab0 he₁)
  have hd₃:=Obj.data_mapFields hd (·.setIfInBounds 1 (Value.ref h₁.objs.size))
  have he₃:=af8 (Obj.mapFields (·.setIfInBounds 1 (Value.ref h₁.objs.size))) he₂ (Obj.isFreed_of_fields hd₃)
  have keep:∀b o,b≠e→h₁.get? b=some o→((h₁.push oT).update e (Obj.mapFields (·.setIfInBounds 1 (Value.ref h₁.objs.size)))).get? b=some o:=
   fun b o hbe hb=>by
    rw [ae6 _ _ (Ne.symm hbe)];exact aa2 _ hb
  have noRecord:∀b o,s.heap.get? b=some o→(∀vs,o.data≠.fields vs)→b≠e:=fun b o hb hnf q=>by
   rw [q,he]at hb;injection hb with hb;subst hb;exact hnf vs hd
 ·refine⟨fun b o hbo=>keep b o (fun q=>by rw [q,hen]at hbo;cases hbo) (kb₁ b o hbo),hen,hl.of_keeps fun b o hb hnf=>?_⟩
  obtain⟨sl,hs⟩:=hs₁.2.2 b o hb;exact⟨_,keep b _ (noRecord b o hb hnf) hs,rfl⟩
 ·have hT₃:=(ae6 (h₁.push oT) (Obj.mapFields (·.setIfInBounds 1 (Value.ref h₁.objs.size))) (Ne.symm hTe)).trans (ab4 h₁ (by rw [←hT];rfl))
  refine⟨_,_,_,_,he₃,⟨Obj.cls_mapFields _ _,?_⟩,hd₃,by simp [hsz],hTe,hT₃,by rw [←hT],by first | (simp;done) | (rcases hpl with rfl | ⟨_,_,_,_,_,_,_,rfl⟩<;>simp)⟩
  unfold Obj.mapFields
  split<;>rfl
 ·intro b o hb hnf
  obtain⟨sl,hs⟩:=hs₁.2.2 b o hb;exact⟨sl,keep b _ (noRecord b o hb hnf) hs⟩
theorem xO{base:Heap}{env:Env}{outer:List Env}{L e:Addr}{cls:Value}{dc:Option Addr}{Q:Unit→Shared→Prop}
  (hfr:A.frames=some (env::outer)) (hf:env.frame=some L) (o:On base (env::outer) e s.heap) (x:DU s.heap e cls dc)
  (h:∀h' T,s.heap.objs.size≤T→On base (env::outer) e h'→Tr h' e T cls dc (rawInt L)→s.heap.UpToSlots h'→Q () { s with heap:=h' }):wpAny M A (noteFrame (.ref e) env) Q E s:=by
 obtain⟨oe,vs,he,⟨rfl,rfl⟩,hd,h1⟩:=x;unfold noteFrame;simp only [hf];refine wpAny_bind (wpAny_field he hd h1 ?_);rw [if_neg (by decide)];exact entry hfr o hf he hd (af7.mp h1).1 h
theorem zG{base:Heap}{env:Env}{outer:List Env}{L e T:Addr}{cls:Value}{dc:Option Addr}{Q:Unit→Shared→Prop}
  (hfr:A.frames=some (env::outer)) (hf:env.frame=some L) (o:On base (env::outer) e s.heap) (hnT:base.get? T=none) {fl:Value} (hfl:¬((fl == rawInt L)=true)) (x:Tr s.heap e T cls dc fl)
  (h:∀h' T,s.heap.objs.size≤T→On base (env::outer) e h'→Tr h' e T cls dc (rawInt L)→s.heap.UpToSlots h'→Q () { s with heap:=h' }):wpAny M A (noteFrame (.ref e) env) Q E s:=by
 obtain⟨oe,vs,oT,ts,he,⟨rfl,rfl⟩,hd,h1,hTe,hT,hdT,h3⟩:=x;obtain⟨hkb,hen,hl⟩:=o;unfold noteFrame;simp only [hf];refine wpAny_bind (wpAny_field he hd h1 ?_);rw [if_pos (show(Value.ref T != Value.none)=true from by simp)];refine wpAny_bind (wpAny_field hT hdT h3 ?_);rw [if_neg hfl];refine wpAny_bind (wpAny_setField hT hdT (af7.mp h3).1 ?_)
 have other:∀b,b≠T→(s.heap.update T (Obj.mapFields (·.setIfInBounds 3 Value.none))).get? b=s.heap.get? b:=fun b hb=>ae6 _ _ (Ne.symm hb)
 have noRecord:∀b o,s.heap.get? b=some o→(∀vs,o.data≠.fields vs)→b≠T:=fun b o hb hnf q=>by
  rw [q,hT]at hb;injection hb with hb;subst hb;exact hnf ts hdT
 have hsz:(s.heap.update T (Obj.mapFields (·.setIfInBounds 3 Value.none))).objs.size=s.heap.objs.size:=Heap.size_after_update _ _ _
 exact entry (s:={ s with heap:=s.heap.update T (Obj.mapFields (·.setIfInBounds 3 Value.none)) }) hfr
  ⟨fun b o hbo=>(other b fun q=>by rw [q,hnT]at hbo;cases hbo).trans (hkb b o hbo),hen,hl.of_keeps fun b o hb hnf=>⟨o,(other b (noRecord b o hb hnf)).trans hb,rfl⟩⟩ hf ((other e (Ne.symm hTe)).trans he) hd (af7.mp h1).1
  fun h' T' x0 x1 x2 x3=>h h' T' (hsz▸x0) x1 x2 fun b o hb hnf=>x3 b o ((other b (noRecord b o hb hnf)).trans hb) hnf
theorem vJ{env:Env}{L e T:Addr}{cls:Value}{dc:Option Addr}{Q:Unit→Shared→Prop}
  (hf:env.frame=some L) (x:Tr s.heap e T cls dc (rawInt L)) (h:Q () s):wpAny M A (noteFrame (.ref e) env) Q E s:=by
 obtain⟨oe,vs,oT,ts,he,_,hd,h1,hTe,hT,hdT,h3⟩:=x;unfold noteFrame;simp only [hf];refine wpAny_bind (wpAny_field he hd h1 ?_);rw [if_pos (show(Value.ref T != Value.none)=true from by simp)];refine wpAny_bind (wpAny_field hT hdT h3 ?_);rw [if_pos (show(rawInt L == rawInt L)=true from by simp)];exact wpAny_pure h
theorem land{base:Heap}{l:List Env}{e T:Addr}{cls fl:Value}{dc:Option Addr}{Q:Unit→Shared→Prop}(o:On base l e s.heap)(hnT:base.get? T=none)(x:Tr s.heap e T cls dc fl)
  (h:∀h',On base l e h'→Tr h' e T cls dc .none→s.heap.UpToSlots h'→Q () { s with heap:=h' }):wpAny M A (setFlight (.ref e) none) Q E s:=by
 obtain⟨oe,vs,oT,ts,he,hcls,hd,h1,hTe,hT,hdT,h3⟩:=x;obtain⟨hkb,hen,hl⟩:=o;have hsz3:3 < ts.size:=(af7.mp h3).1
 have other:∀b,b≠T→(s.heap.update T (Obj.mapFields (·.setIfInBounds 3 ((none:Option Addr).elim Value.none fun f=>rawInt f)))).get? b=s.heap.get? b:=
  fun b hb=>ae6 _ _ (Ne.symm hb)
 have noRecord:∀b o,s.heap.get? b=some o→(∀vs,o.data≠.fields vs)→b≠T:=fun b o hb hnf q=>by
  rw [q,hT]at hb;injection hb with hb;subst hb;exact hnf ts hdT
 unfold setFlight;refine wpAny_bind (wpAny_field he hd h1 ?_);rw [if_pos (show(Value.ref T != Value.none)=true from by simp)]
 refine wpAny_setField hT hdT hsz3 (h _ ⟨fun b o hbo=>(other b fun q=>by rw [q,hnT]at hbo;cases hbo).trans (hkb b o hbo),hen,
  hl.of_keeps fun b o hb hnf=>⟨o,(other b (noRecord b o hb hnf)).trans hb,rfl⟩⟩ ?_ fun b o hb hnf=>⟨o.slots,(other b (noRecord b o hb hnf)).trans hb⟩)
 exact⟨oe,vs,_,_,(other e (Ne.symm hTe)).trans he,hcls,hd,h1,hTe,af8 _ hT (Obj.isFreed_of_fields (Obj.data_mapFields hdT _)),Obj.data_mapFields hdT _,by simp [hsz3]⟩
def Out(h:Heap)(e:Addr)(cls:Value)(dc:Option Addr)(ts:List Addr):Prop:=(ts=[]∧DU h e cls dc)∨∃T fl,ts=[T]∧Tr h e T cls dc fl
theorem note_out{base:Heap}{env:Env}{outer:List Env}{L e:Addr}{cls:Value}{dc:Option Addr}{ts:List Addr}{Q:Unit→Shared→Prop}
  (hfr:A.frames=some (env::outer)) (hf:env.frame=some L) (o:On base (env::outer) e s.heap) (hts:∀T∈ts,base.get? T=none) (x:Out s.heap e cls dc ts)
  (h:∀h' T,(T∈ts∨s.heap.objs.size≤T)→On base (env::outer) e h'→Tr h' e T cls dc (rawInt L)→s.heap.UpToSlots h'→Q () { s with heap:=h' }):wpAny M A (noteFrame (.ref e) env) Q E s:=by
 rcases x with⟨rfl,x⟩ | ⟨T,fl,rfl,x⟩
 ·exact xO hfr hf o x fun h' T a=>h h' T (.inr a)
 ·by_cases hfl:(fl == rawInt L)=true
  ·have e:fl=rawInt L:=by simpa using hfl
   subst e;exact vJ hf x (h s.heap T (.inl (.head _)) o x (.refl _))
  ·exact zG hfr hf o (hts T (.head _)) hfl x fun h' T a=>h h' T (.inr a)
theorem pj{base h:Heap}{T:Addr}{ts:List Addr}(k:base.StaysIn h)(hts:∀T∈ts,base.get? T=none)(hT:T∈ts∨h.objs.size≤T):base.get? T=none:=by
 rcases hT with hT | hT
 ·exact hts T hT
 ·cases q:base.get? T with
  | none=>rfl
  | some o=>exact absurd (ab0 (k _ _ q)) (ak9.mpr hT)
theorem leave_out{base:Heap}{env:Env}{outer:List Env}{L e:Addr}{cls:Value}{dc:Option Addr}{ts:List Addr}{Q:Unit→Shared→Prop}
  (hfr:A.frames=some (env::outer)) (hf:env.frame=some L) (o:On base (env::outer) e s.heap) (hts:∀T∈ts,base.get? T=none) (x:Out s.heap e cls dc ts)
  (h:∀h' T,(T∈ts∨s.heap.objs.size≤T)→On base outer e h'→Tr h' e T cls dc .none→s.heap.UpToSlots h'→Q () { s with heap:=h' }):wpAny M A (leaving env (.ref e)) Q E s:=by
 unfold leaving;refine wpAny_bind (note_out hfr hf o hts x fun h₁ T hT o1 x1 u1=>?_);refine land (s:={ s with heap:=h₁ }) o1 (pj o.1 hts hT) x1 fun h₂ o2 x2 u2=>?_;obtain⟨a,b,_,_,c⟩:=o2;exact h h₂ T hT ⟨a,b,c⟩ x2 (u1.trans u2)
end
inductive Tail(h:Heap)(no:Str→Prop)(bmB:List Value):List Value→Prop
 | base:Tail h no bmB bmB
 | own {A:Addr} {c0:Value} {dd:Option Addr} {cd:ClassData} {sl:Array (Option Value)} {mA:Str→Option Value} {tl:List Value} :
   h.get? A=some { cls:=c0,dict:=dd,data:=.cls cd,slots:=sl }→h.Ns cd.ns mA→(∀n,no n→mA n=none)→Tail h no bmB tl→Tail h no bmB (.ref A::tl)
theorem Tail.hasType{h:Heap}{no:Str→Prop}{bmB tl:List Value}(T:Tail h no bmB tl){X:String}{b:Bool}(hb:bmB.contains (.type X)=b):tl.contains (.type X)=b:=by
 induction T with
 | base=>exact hb
 | own _ _ _ _ ih=>rw [ag6,ih];rfl
theorem Tail.ot{h:Heap}{no:Str→Prop}{bmB tl:List Value}(T:Tail h no bmB tl)(hi:no "__init__"):OwnTail h bmB tl:=by
 induction T with
 | base=>exact .base
 | own hA hN hq _ ih=>exact .own hA hN (hq _ hi) ih
section
variable {M:Model} {A:Around} {E:Value→Shared→Prop} {h:Heap} {g:Array GenState} {d:Drawn} {t:Nat} {os:OsState}
variable {nm q:Str} {C N:Addr} {bs bm bmB:List Value} {hdct:Bool} {sn:List Str} {sub:List Value} {ab:Bool} {col:Option Bool} {dd:Option Addr} {k0 k1 k2 k3 k5:Option Value} {B newId initId:String} {no:Str→Prop}
theorem Cv{tl:List Value}{n:Str}{y:Option Value}{Q:Option Value→Shared→Prop}(hn:no n)(T:Tail h no bmB tl)(hrest:lookupAlong bmB n=pure y)(hq:Q y ⟨h,g,d,t,os⟩):
  wpAny M A (lookupAlong tl n) Q E ⟨h,g,d,t,os⟩:=by
 induction T with
 | base=>rw [hrest];exact wpAny_pure hq
 | own hA hN hni _ ih=>
  rw [lookupAlong_cons];refine wpAny_bind (wpAny_classOwn_cls hA hN ?_);rw [hni n hn];exact ih
theorem lookup{mN:Str→Option Value}{n:Str}{y:Option Value}{Q:Option Value→Shared→Prop}(hno:no n)
  (hC:h.get? C=some (excClassObj nm q C N bs bm hdct sn sub ab col dd k0 k1 k2 k3 k5 newId)) (hn:h.Ns N mN) (T:Tail h no bmB bm) (hbm:mroOf (.type B)=pure bmB) (hB:typeLookup (.type B) n=pure y)
  (hq:Q (match mN n with | some v=>some v | none=>y) ⟨h,g,d,t,os⟩):wpAny M A (typeLookup (.ref C) n) Q E ⟨h,g,d,t,os⟩:=by
 have hrest:lookupAlong bmB n=pure y:=by rw [typeLookup_eq,hbm]at hB;exact hB
 rw [typeLookup_eq];refine wpAny_bind (wpAny_mroOf_exc hC ?_);rw [lookupAlong_cons];refine wpAny_bind (wpAny_classOwn_exc hC hn ?_)
 cases hv:mN n with
 | some v=>rw [hv]at hq;exact wpAny_pure hq
 | none=>rw [hv]at hq;exact Cv hno T hrest hq
end
section
variable {prog:Program} {w:World} {A:Around} {E:Value→Shared→Prop} {h:Heap} {g:Array GenState} {d:Drawn} {t:Nat} {os:OsState}
variable {nm q:Str} {C N:Addr} {bs bm bmB:List Value} {hdct:Bool} {sn:List Str} {sub:List Value} {ab:Bool} {col:Option Bool} {dd:Option Addr} {k0 k1 k2 k3 k5:Option Value} {B newId initId:String}
theorem made{mN:Str→Option Value}{rest:List Value}{fI:Addr}{oI:Obj}{Q:Fin→Shared→Prop}(F:ExcBaseFacts B newId initId bmB)(T:OwnTail h bmB bm)
  (hC:h.get? C=some (excClassObj nm q C N bs bm hdct sn sub ab col dd k0 k1 k2 k3 k5 newId)) (hn:h.Ns N mN) (hi:mN "__init__"=some (.ref fI)) (hfI:h.get? fI=some oI) (hfc:oI.cls=.type "function")
  (hq:∀h',Heap.MadeExcOf h h' (h.objs.size+1) (.ref C) rest→wpAny (model prog w) A (call (.ref fI) (.ref (h.objs.size+1)::rest)) (fun r s'=>r=.none∧Q (.done (.ret (.ref (h.objs.size+1)))) s') E ⟨h',g,d,t,os⟩)
  (hrest:rest.length≤sizeLine:=by size_fits):wpAny (model prog w) A (Builtin.«type.__call__» ⟨.ref C::rest,[]⟩) Q E ⟨h,g,d,t,os⟩:=by
 repeat (first | with_reducible refine wpAny_loadPart_at hC ?_ | with_reducible refine wpAny_madeBy_exc hC ?_ | wp_step)
 refine codeAny_call_builtin_code (Code.quiet_builtin _ F.quiet) (wpAny_check_new_subU F F.hasB T hC ?_);refine codeAny_exc_new_subU F F.hasB F T hC ?_ hrest;show wpAny _ _ _ _ _ _;generalize ho:({ cls:=.ref C,data:=.fields #[.ref h.objs.size,.none,.none,.none,.bool false,.none] }:Obj)=oe;have hk:∀b o,h.get? b=some o→((h.push { cls:=.type "tuple",data:=.seq rest.toArray }).push oe).get? b=some o:=fun b o e=>aa2 _ (aa2 _ e);have hC₁:=hk _ _ hC;have hn₁:=hn.keeps hk;have T₁:=T.keeps hk
 have hget:((h.push { cls:=.type "tuple",data:=.seq rest.toArray }).push oe).get? (h.objs.size+1)=some oe:=by subst ho;heap_get
 have hoc:oe.cls=.ref C:=by subst ho;rfl
 have hcC:(Value.ref C::bm).contains (.ref C)=true:=by simp
 unfold isInstance
 repeat (first | (with_reducible refine wpAny_loadPart_at hget ?_;rw [hoc]) | (with_reducible refine wpAny_isSubtype_exc hC₁ ?_;rw [hcC]) | wp_step)
 show wpAny _ _ (typeLookup (.ref C) _) _ _ _;refine wpAny_typeLookup_tail hC₁ hn₁ T₁ F.mroIs F.init.lookup ?_;rw [hi];refine wpAny_holding (wpAny_bind ?_);unfold bindSpecial;refine wpAny_bind (wpAny_typeOf (T:="function") ⟨_,hk _ _ hfI,hfc⟩ ?_);rw [if_pos (by decide)];refine wpAny_pure (wpAny_bind (wpAny_mono (hq _ ⟨hk,ai4 (ak0 _),h.objs.size,by rw [hget,←ho],ai4 (aa7 _),?_⟩) (fun r s' hr=>?_) fun _ _ x=>x))
 ·exact aa2 _ (Heap.get?_push_at rfl rfl)
 ·obtain⟨rfl,hQ⟩:=hr
  wp_walk
  exact hQ
theorem call_own{mN:Str→Option Value}{rest:List Value}{fI:Addr}{oI:Obj}{Q:Value→Shared→Prop}(F:ExcBaseFacts B newId initId bmB)(T:OwnTail h bmB bm)
  (hC:h.get? C=some (excClassObj nm q C N bs bm hdct sn sub ab col dd k0 k1 k2 k3 k5 newId)) (hn:h.Ns N mN) (hi:mN "__init__"=some (.ref fI)) (hfI:h.get? fI=some oI) (hfc:oI.cls=.type "function")
  (hq:∀h',Heap.MadeExcOf h h' (h.objs.size+1) (.ref C) rest→wpAny (model prog w) (A.under (.builtin "type.__call__" ⟨.ref C::rest,[]⟩)) (call (.ref fI) (.ref (h.objs.size+1)::rest)) (fun r s'=>r=.none∧Q (.ref (h.objs.size+1)) s') E ⟨h',g,d,t,os⟩)
  (hrest:rest.length≤sizeLine:=by size_fits):wpAny (model prog w) A (call (.ref C) rest) Q E ⟨h,g,d,t,os⟩:=by
 have f1:=tc_lookup;have f2:=tc_bind (.ref C);have hT:(⟨h,g,d,t,os⟩:Shared).TypeIs (.ref C) "type":=⟨_,hC,rfl⟩;refine wpAny_call (codeAny_of_tree ?_);show wpAny _ _ (callAny (.ref C) _) _ _ _
 repeat (any_goals (first | assumption | with_reducible refine wpAny_loadPart_at hC ?_ | wp_step))
 refine⟨rfl,?_⟩;refine codeAny_call_builtin_at (Code.quiet_builtin _ (by decide +kernel)) entry_typeCall (wpAny_check_type_call_sub hC (made (hrest:=hrest) F T hC hn hi hfI hfc fun h' hm=>?_));exact hq h' hm
end
section
variable {M:Model} {A:Around} {E:Value→Shared→Prop} {env:Env}
variable {nm q:Str} {C N:Addr} {bs bm:List Value} {hdct:Bool} {sn:List Str} {sub:List Value} {ab:Bool} {col:Option Bool} {dd:Option Addr} {k0 k1 k2 k3 k5:Option Value} {newId:String}
theorem tM{s:Shared}{x:Sem Value}{Q:Flow→Shared→Prop}(hbase:bm.contains (.type "BaseException")=true)(hh:A.handled=none)
  (h:wpAny M A x (fun v s₁=>∃e oe,v=.ref e∧s₁.heap.get? C=some (excClassObj nm q C N bs bm hdct sn sub ab col dd k0 k1 k2 k3 k5 newId)∧
   s₁.heap.get? e=some oe∧oe.cls=.ref C∧(∃vs,oe.data=.fields vs∧vs[1]?=some .none)∧E (.ref e) s₁) E s) :
  wpAny M A (raiseStmt env (some x) none) Q E s:=by
 have hcB:(Value.ref C::bm).contains (.type "BaseException")=true:=by rw [ag6,hbase,Bool.or_true]
 unfold raiseStmt;refine wpAny_bind (wpAny_mono h (fun v s₁ h₁=>?_) fun _ _ x=>x);obtain⟨e,⟨oc,od,odt,osl⟩,rfl,hC,he,hcls,⟨vs,hd,h1⟩,hE⟩:=h₁;cases hcls;cases hd;obtain⟨hp,g,d,tk,os⟩:=s₁
 repeat (first | with_reducible refine wpAny_loadPart_at he ?_ | with_reducible refine wpAny_loadPart_at hC ?_ | (with_reducible refine wpAny_isSubtype_exc hC ?_;rw [hcB]) | wp_step)
 rw [h1]
 repeat wp_step
 exact wpAny_raiseNew_none hh hE
end
section
variable {prog:Program} {w:World} {A:Around} {E:Value→Shared→Prop} {s:Shared} {env:Env}
variable {nm q:Str} {C N:Addr} {bs bm:List Value} {hdct:Bool} {sn:List Str} {sub:List Value} {ab:Bool} {col:Option Bool} {dd:Option Addr} {k0 k1 k2 k3 k5:Option Value} {newId:String}
theorem raise_of{ex:Expr}{pos:Pos}{Q:Flow→Shared→Prop}(hbm:bm.contains (.type "BaseException")=true)(hh:A.handled=none)
  (h:wpAny (model prog w) A (eval ex env) (fun v s₁=>∃e oe,v=.ref e∧s₁.heap.get? C=some (excClassObj nm q C N bs bm hdct sn sub ab col dd k0 k1 k2 k3 k5 newId)∧
   s₁.heap.get? e=some oe∧oe.cls=.ref C∧(∃vs,oe.data=.fields vs∧vs[1]?=some .none)∧E (.ref e) s₁) E s) :
  wpAny (model prog w) A (exec (.Raise (some ex) none pos) env) Q E s:=by
 rw [arm_exec_Raise];simp only [evalOpt,Option.map];exact wpAny_bind (wpAny_standAt (tM hbm hh (wpAny_bind (wpAny_mono h (fun v s₃ h₃=>wpAny_bind (wpAny_standAt (wpAny_pure h₃))) fun _ _ x=>x))))
end
section
open Builtin Builtin.ObjectAttr
variable {prog:Program} {w:World} {A:Around} {E:Value→Shared→Prop} {h:Heap} {g:Array GenState} {d:Drawn} {t:Nat} {os:OsState}
variable {nm q:Str} {C N x:Addr} {bs bm bmB:List Value} {sn:List Str} {sub:List Value} {ab:Bool} {col:Option Bool} {dd:Option Addr} {k0 k1 k2 k3 k5:Option Value} {B newId sa owner:String}
 {mN mA:Str→Option Value} {name:Str} {v:Value} {no:Str→Prop}
theorem rY{self:Value}{what:Str}{tl:List Value}(T:Tail h no bmB tl)(hb:refuseLoop self what bmB=pure ()):refuseLoop self what tl=pure ():=by
 induction T with
 | base=>exact hb
 | own _ _ _ _ ih=>rw [refuseLoop_ref];exact ih
theorem wN{M:Model}{o:Obj}{nameV:Value}{Q:Unit→Shared→Prop}(SF:StoreFacts B bmB sa owner)(T:Tail h no bmB bm)
  (hC:h.get? C=some (excClassObj nm q C N bs bm true sn sub ab col dd k0 k1 k2 k3 k5 newId)) (hx:h.get? x=some o) (hc:o.cls=.ref C) (hq:Q () ⟨h,g,d,t,os⟩) :
  wpAny M A (checkBuiltinCall sa ⟨[.ref x,nameV,v],[]⟩) Q E ⟨h,g,d,t,os⟩:=by
 have hcB:(Value.ref C::bm).contains (.type owner)=true:=by rw [ag6,T.hasType SF.hasOwner,Bool.or_true]
 have ha:=SF.args (.ref x) nameV v;simp only [checkBuiltinCall,SF.kind,SF.split];refine wpAny_bind ?_
 ·unfold isInstance
  repeat (first | (with_reducible refine wpAny_loadPart_at hx ?_;rw [hc]) | (with_reducible refine wpAny_isSubtype_exc hC ?_;rw [hcB]) | wp_step)
  cases hsig:Manifest.signature? sa with
  | none=>exact wpAny_pure hq
  | some sig=>
   simp only [argsOk,hsig]at ha;have h2:Bind.checkArgs sa sig ⟨[.ref x,nameV,v],[]⟩=pure ():=ha;show wpAny M A (Bind.checkArgs sa sig ⟨[.ref x,nameV,v],[]⟩) Q E _;rw [h2];exact wpAny_pure hq
theorem store_first{o:Obj}{Q:Unit→Shared→Prop}(SF:StoreFacts B bmB sa owner)(T:Tail h no bmB bm)(h1:no "__setattr__")(h2:no name)
  (hC:h.get? C=some (excClassObj nm q C N bs bm true sn sub ab col dd k0 k1 k2 k3 k5 newId)) (hn:h.Ns N mN) (hns:mN "__setattr__"=none) (hna:mN name=none)
  (hB:typeLookup (.type B) name=pure none) (hx:h.get? x=some o) (hc:o.cls=.ref C) (hnc:∀c,o.data≠.cls c) (hdn:o.dict=none)
  (hq:∀h' tk',h'.get? x=some { o with dict:=some h.objs.size }→h'.Ns1 h.objs.size (fun y=>if y=name then some v else none)→(∀b ob,b≠x→h.get? b=some ob→h'.get? b=some ob)→h.objs.size < h'.objs.size→Q () ⟨h',g,d,tk',os⟩) :
  wpAny (model prog w) A (setAttr (.ref x) name v) Q E ⟨h,g,d,t,os⟩:=by
 have f3:=SF.slot.bind (.ref x);have hpass:=rY T (SF.passes (.ref x));unfold setAttr callSpecial? specialOf
 repeat (any_goals (first | assumption | (with_reducible refine wpAny_loadPart_at hx ?_;rw [hc]) | (with_reducible refine lookup h1 hC hn T SF.mro SF.slot.lookup ?_;rw [hns]) | wp_step))
 refine codeAny_call_builtin SF.slot.plain SF.entry (wN SF T hC hx hc ?_);unfold Builtin.«object.__setattr__»
 repeat (first | rw [refuse_eq] | (rw [refuseLoop_ref,hpass]) | (with_reducible refine wpAny_loadPart_at hx ?_;rw [hc]) | with_reducible refine wpAny_mroOf_exc hC ?_ | (with_reducible refine lookup h2 hC hn T SF.mro hB ?_;rw [hna]) | wp_step)
 rw [hdn,if_neg (by simp [typeHasDict])]
 split
 ·rename_i hcd
  cases hcd
 split
 ·rename_i c hcd
  exact absurd hcd (hnc c)
 ·have hx₁:(h.push { cls:=.type "dict",data:=.dict #[] }).get? x=some o:=aa2 _ hx
  have hxs:x≠h.objs.size:=ab7 (ab0 hx);refine wpAny_bind (wpAny_alloc' ?_);refine wpAny_bind (wpAny_update' hx₁ ?_);refine wpAny_pure ?_
  have hgd:((h.push { cls:=.type "dict",data:=.dict #[] }).update x fun o=>{ cls:=o.cls,dict:=some h.objs.size,data:=o.data,slots:=o.slots }).get? h.objs.size
    = some { cls:=.type "dict",data:=.dict #[] }:=
   (Heap.get?_update_ne _ _ _ _ hxs.symm).trans (Heap.get?_push_at rfl rfl)
  have hnd:((h.push { cls:=.type "dict",data:=.dict #[] }).update x fun o=>{ cls:=o.cls,dict:=some h.objs.size,data:=o.data,slots:=o.slots }).Ns h.objs.size (fun _=>none):=
   ⟨_,#[],_,hgd,rfl,fun e he=>absurd he (by simp),fun _=>rfl⟩
  show wpAny _ _ (storeInDict h.objs.size (.str name _) name v) _ _ _;unfold storeInDict newKeyGuard;refine wpAny_bind (wpAny_pure (wpAny_bind (wpAny_nsSet1 (Heap.Ns1.of_empty hnd) fun h' hn' hs=>?_)));obtain⟨oD,esD,epD,hoD,hdD,hcD⟩:=hn'.count (Within.cons name v Within.nil);refine wpAny_bind (wpAny_lookBehind hoD (by rw [hdD];exact pastItsLine_dict (aa9 hcD (by rw [aa6,ad2,sizeLine_eq];omega))) ?_)
  wp_walk
  have hx':h'.get? x=some { o with dict:=some h.objs.size }:=?_;refine hq h' _ hx' hn' (fun b ob hbx hb=>?_) (ab0 hoD)
  ·exact(hs.2 b (ab7 (ab0 hb))).trans ((Heap.get?_update_ne _ _ _ _ hbx).trans (aa2 _ hb))
  ·refine(hs.2 x hxs).trans (af8 _ hx₁ ?_)
   have hfr:=(Heap.get?_some_iff.mp hx).2;obtain⟨oc,od,odt,osl⟩:=o
   cases odt<;>first | rfl | exact hfr
end
section
open Builtin Builtin.ObjectAttr
variable {prog:Program} {w:World} {A:Around} {E:Value→Shared→Prop} {h:Heap} {g:Array GenState} {d:Drawn} {t:Nat} {os:OsState}
variable {nm q:Str} {C N a dx:Addr} {bs bm bmB:List Value} {sn:List Str} {sub:List Value} {ab:Bool} {col:Option Bool} {dd:Option Addr} {k0 k1 k2 k3 k5:Option Value} {B newId:String}
 {mN mA:Str→Option Value} {name:Str} {v:Value} {no:Str→Prop} {o:Obj} {vs:Array Value}
theorem rg{tk:Tok}{Q:Fin→Shared→Prop}(FB:ExcAttrBase B bmB)(hC:h.get? C=some (excClassObj nm q C N bs bm true sn sub ab col dd k0 k1 k2 k3 k5 newId))(hN:h.Ns N mN)(T:Tail h no bmB bm)(hno:no name)(hna:mN name=none)
  (hB:typeLookup (.type B) name=pure none) (hx:h.get? a=some o) (hc:o.cls=.ref C) (hd:o.data=.fields vs) (hdx:o.dict=some dx) (hns:h.Ns dx mA) (hv:mA name=some v) (hq:Q (.done (.ret v)) ⟨h,g,d,t,os⟩) :
  wpAny (model prog w) A (Builtin.«object.__getattribute__» ⟨[.ref a,.str name tk],[]⟩) Q E ⟨h,g,d,t,os⟩:=by
 unfold Builtin.«object.__getattribute__»
 repeat (first | (with_reducible refine wpAny_loadPart_at hx ?_;rw [hc]) | (with_reducible refine lookup hno hC hN T FB.mro hB ?_;rw [hna]) | wp_step)
 split
 ·rename_i c hcd
  rw [hd]at hcd;cases hcd
 unfold instanceDict
 repeat (first | (with_reducible refine wpAny_loadPart_at hx ?_;rw [hc]) | with_reducible refine wpAny_loadPart_at hC ?_ | wp_step)
 rw [hdx]
 repeat (first | (with_reducible refine wpAny_nsGet hns ?_;rw [hv]) | wp_step)
 exact hq
theorem qO{M:Model}{nameV:Value}{Q:Unit→Shared→Prop}(FB:ExcAttrBase B bmB)(hC:h.get? C=some (excClassObj nm q C N bs bm true sn sub ab col dd k0 k1 k2 k3 k5 newId))(T:Tail h no bmB bm)
  (hx:h.get? a=some o) (hc:o.cls=.ref C) (hq:Q () ⟨h,g,d,t,os⟩):wpAny M A (checkBuiltinCall "BaseException.__getattribute__" ⟨[.ref a,nameV],[]⟩) Q E ⟨h,g,d,t,os⟩:=by
 have hk:builtinKind "BaseException.__getattribute__"=some .slot:=by decide +kernel
 have hsplit:splitId "BaseException.__getattribute__"=some ("BaseException","__getattribute__"):=by decide +kernel
 have hcB:(Value.ref C::bm).contains (.type "BaseException")=true:=by rw [ag6,T.hasType FB.hasBase];rfl
 have ha:=F.args_bexc_ga (.ref a) nameV;simp only [checkBuiltinCall,hk,hsplit];refine wpAny_bind ?_
 ·unfold isInstance
  repeat (first | (with_reducible refine wpAny_loadPart_at hx ?_;rw [hc]) | (with_reducible refine wpAny_isSubtype_exc hC ?_;rw [hcB]) | wp_step)
  exact hq
theorem field_attr{expr:Bool}{Q:Value→Shared→Prop}(FB:ExcAttrBase B bmB)(hC:h.get? C=some (excClassObj nm q C N bs bm true sn sub ab col dd k0 k1 k2 k3 k5 newId))(hN:h.Ns N mN)(T:Tail h no bmB bm)
  (n1:no "__getattribute__") (n2:no "__getattr__") (m1:mN "__getattribute__"=none) (m2:mN "__getattr__"=none) (hno:no name) (hna:mN name=none)
  (hB:typeLookup (.type B) name=pure none) (hx:h.get? a=some o) (hc:o.cls=.ref C) (hd:o.data=.fields vs) (hdx:o.dict=some dx) (hns:h.Ns dx mA) (hv:mA name=some v) (hh:handedOut v=pure v) (hq:Q v ⟨h,g,d,t+1,os⟩) :
  wpAny (model prog w) A (getAttr (.ref a) name expr) Q E ⟨h,g,d,t,os⟩:=by
 have f3:=FB.ga.bind (.ref a)
 have hx0:(expr && onTheHeap (Value.builtin "BaseException.__getattribute__"))=false:=by cases expr<;>rfl
 have hx2:(Value.builtin "BaseException.__getattribute__" == Value.builtin "object.__getattribute__")=false:=by decide +kernel
 have hx1:(onTheHeap (Value.ref C) && Value.builtin "BaseException.__getattribute__" == Value.builtin "object.__getattribute__")=false:=by rw [hx2];rfl
 unfold getAttr getAttrBy
 repeat (any_goals (first | assumption | (with_reducible refine wpAny_loadPart_at hx ?_;rw [hc]) | (with_reducible refine lookup n1 hC hN T FB.mro FB.ga.lookup ?_;rw [m1]) | (with_reducible refine lookup n2 hC hN T FB.mro FB.noGetattr ?_;rw [m2]) | wp_step))
 refine codeAny_call_builtin FB.ga.plain F.entry_bexc_ga (qO FB hC T hx hc (rg FB hC hN T hno hna hB hx hc hd hdx hns hv ?_))
 repeat (any_goals (first | assumption | wp_step))
end
end XE
namespace L2
open PySem PySem.Spec PyProof.Rows
def XO(C d a:Addr):HO:=.ext fun h=>∃o vs,h.get? a=some o∧o.cls=.ref C∧o.dict=some d∧o.data=.fields vs
def XN(C a:Addr):HO:=.ext fun h=>∃o vs,h.get? a=some o∧o.cls=.ref C∧o.dict=none∧o.data=.fields vs∧vs[1]?=some .none
section
variable {P:Program} {w:World} {H:Hp} {h:Heap} {a C d:Addr}
theorem XO.ok(x:∃o vs,h.get? a=some o∧o.cls=.ref C∧o.dict=some d∧o.data=.fields vs):cb P w H h a (XO C d a):=
 ⟨x,let ⟨o,_,e,_⟩:=x;⟨o,e⟩,fun _ _ ⟨o,vs,e,r⟩ k=>⟨o,vs,k o e,r⟩⟩
theorem XN.ok(x:∃o vs,h.get? a=some o∧o.cls=.ref C∧o.dict=none∧o.data=.fields vs∧vs[1]?=some .none):cb P w H h a (XN C a):=
 ⟨x,let ⟨o,_,e,_⟩:=x;⟨o,e⟩,fun _ _ ⟨o,vs,e,r⟩ k=>⟨o,vs,k o e,r⟩⟩
theorem XO.of(x:cb P w H h a (XO C d a)):∃o vs,h.get? a=some o∧o.cls=.ref C∧o.dict=some d∧o.data=.fields vs:=x.1
theorem XN.of(x:cb P w H h a (XN C a)):∃o vs,h.get? a=some o∧o.cls=.ref C∧o.dict=none∧o.data=.fields vs∧vs[1]?=some .none:=x.1
end
structure ff(X:Cx)(pins:List (Addr×Obj))(σ:St)(H:Hp)(s:Shared)(a C d:Addr)(fs:List (Str×V))(ts:List Addr):Prop where
 inv:aH X pins σ H s
 xo:H a=some (XO C d a)
 xd:H d=some (.xd fs)
 own:∀T∈ts,Ci X pins T∧H T=none∧X.s₀.heap.objs.size≤T
 out:XE.Out s.heap a (.ref C) (some d) ts
def Dm(X:Cx)(E:XK)(e:Value)(s:Shared):Prop:=∃pins σ H a C d fs ts,e=.ref a∧ff X pins σ H s a C d fs ts∧E e (some d) H
section
variable {X:Cx} {pins:List (Addr×Obj)} {σ:St} {H:Hp} {s:Shared} {a C d T:Addr} {fs:List (Str×V)} {ts:List Addr} {fl:Value} {h':Heap}
abbrev xt(X:Cx)(s:Shared)(a:Addr)(ts:List Addr):Heap:=PySem.W.hideAll s.heap (a::ts++mz X.stack)
theorem ff.on(t:ff X pins σ H s a C d fs ts):XE.On (xt X s a ts) X.stack a s.heap:=
 ⟨fun b o q=>PySem.W.of_hideAll _ q,PySem.W.hideAll_none _ (by simp),PySem.W.funFrames_hide t.inv.stack fun env he b hb=>by
  refine ab6 _ ?_
  exact ae8.mpr ⟨env,he,hb⟩⟩
theorem ff.hid(t:ff X pins σ H s a C d fs ts):∀T∈ts,(xt X s a ts).get? T=none:=fun T hT=>PySem.W.hideAll_none _ (by simp [hT])
theorem ff.pass(t:ff X pins σ H s a C d fs ts)(st:(xt X s a ts).StaysIn h')(tr:XE.Tr h' a T (.ref C) (some d) fl)(u:s.heap.UpToSlots h'):
  Un (mz X.stack) ts H H s.heap h'∧iB X.prog X.w H h':=by
 have keepB:∀b o,s.heap.get? b=some o→b≠a→b∉ts→b∉mz X.stack→h'.get? b=some o:=fun b o q h1 h2 h3=>
  st b o (PySem.W.hideAll_get _ q (by simp only [List.cons_append,aa5,ac3];exact fun z=>z.elim h1 fun z=>z.elim h2 h3))
 have fr:∀b o,s.heap.get? b=some o→b∈mz X.stack→∃sl,h'.get? b=some { o with slots:=sl }:=fun b o q hb=>by
  obtain⟨_,o',ho',hd⟩:=t.inv.stack.mem hb;rw [q]at ho';cases ho';exact u b o q hd
 have na:∀b,H b=none→b≠a:=fun b n z=>by rw [z,t.xo]at n;cases n
 refine⟨⟨fun b o q n hb hx=>keepB b o q (na b n) hx hb,fun b o q n hb hx=>fr b o q hb,fun b o q n _=>n,fun b o q hx=>?_,fun _ _ q=>q,fun _ _ _ q=>q,fun b ps q=>⟨#[],by rw [q];simp⟩⟩,fun b o' q=>?_⟩
 ·by_cases h1:b=a
  ·subst h1
   obtain⟨o1,_,e1,_⟩:=tr.there;exact⟨o1,e1⟩
  ·by_cases h2:b∈mz X.stack
   ·obtain⟨sl,e⟩:=fr b o q h2
    exact⟨_,e⟩
   ·exact⟨o,keepB b o q h1 hx h2⟩
 ·by_cases h1:b=a
  ·subst h1
   rw [t.xo]at q;cases q;exact XO.ok tr.there
  ·refine(t.inv.hok b o' q).stay (fun c v hc r=>keepB c v r ?_ ?_ ?_) (fun _ z=>z) fun _ _ z=>z
   ·rcases hc with rfl | hc
    ·exact h1
    ·intro z
     rw [z,t.xo]at hc;cases hc
   ·intro z
    have n:=(t.own c z).2.1;rcases hc with rfl | hc
    ·rw [n]at q;cases q
    ·rw [n]at hc;cases hc
   ·intro z
    have n:=t.inv.stkFree c z;rcases hc with rfl | hc
    ·rw [n]at q;cases q
    ·rw [n]at hc;cases hc
theorem ff.go(t:ff X pins σ H s a C d fs ts)(st:(xt X s a ts).StaysIn h')(tr:XE.Tr h' a T (.ref C) (some d) fl)(u:s.heap.UpToSlots h'):aH X pins σ H { s with heap:=h' }:=
 t.inv.call' (s':={ s with heap:=h' }) rfl (t.pass st tr u).1 (t.pass st tr u).2 t.inv.bare fun b hb=>⟨(t.own b hb).1.old,(t.own b hb).1.ne,(t.own b hb).1.cells,(t.own b hb).1.pin⟩
theorem aH.ownN(I:aH X pins σ H s)(hT:s.heap.objs.size≤T):Ci X pins T where
 ne:=ah3 (ab1 I.lt hT)
 old:=.inr (aa9 I.sz hT)
 cells:=fun x c e=>by
  obtain⟨v,o,ho,_⟩:=I.cell x c e;exact ab7 (ab1 (ab0 ho) hT)
 pin:=fun p hp=>ab7 (ab1 (ab0 (I.pin p hp).1) hT)
end
def my(P:Program)(w:World):qH:=fun outer H s E e s'=>∃a C d fs T H',e=.ref a∧s'.os=s.os∧AllBare s'.gens∧Un (mz outer) [] H H' s.heap s'.heap∧iB P w H' s'.heap∧
 H' a=some (XO C d a)∧H' d=some (.xd fs)∧H' T=none∧s.heap.objs.size≤T∧XE.Tr s'.heap a T (.ref C) (some d) .none∧E e (some d) H'
theorem my.thr{X:Cx}{pins:List (Addr×Obj)}{σ:St}{H:Hp}{s s':Shared}{E:XK}{e:Value}(I:aH X pins σ H s)(x:my X.prog X.w X.stack H s E e s'):Dm X E e s':=by
 obtain⟨a,C,d,fs,T,H',rfl,os,bare,un,hok,ha,hd,hT,sz,tr,q⟩:=x;refine⟨pins,σ,H',a,C,d,fs,[T],rfl,⟨I.call' os un hok bare (fun b z=>nomatch z),ha,hd,fun T' hT'=>?_,(.inr ⟨T,_,rfl,tr⟩)⟩,q⟩
 obtain rfl:T'=T:=by simpa using hT'
 exact⟨I.ownN sz,hT,aa9 I.sz sz⟩
section
variable {P:Program} {w:World} {K:Frag} {mg:Str→Option Value} {base:Heap} {N:List Str} {qual:Str} {scope:Scope} {f:Addr} {cd:Value} {A:Around} {outer:List Env} {s₀:Shared} {H₀:Hp} {E:XK}
theorem iO{e:Value}{s:Shared}(t:Dm (jm (my P w) P w K mg base N qual scope f cd A outer s₀ H₀ E) E e s):(jm (my P w) P w K mg base N qual scope f cd A outer s₀ H₀ E).xe e s:=by
 obtain⟨pins,σ,H,a,C,d,fs,ts,rfl,t,q⟩:=t;show wpAny (model P w) (A.deeper (envOfC qual scope s₀.heap.objs.size f cd)) (leaving (envOfC qual scope s₀.heap.objs.size f cd) (.ref a)) _ _ s;refine XE.leave_out (base:=xt (jm (my P w) P w K mg base N qual scope f cd A outer s₀ H₀ E) s a ts) t.inv.ok.frames rfl t.on t.hid t.out fun h' T hT o tr u=>?_;have I':=t.go o.1 tr u;have hok:=(t.pass o.1 tr u).2
 have sz:s₀.heap.objs.size≤T∧H T=none:=by
  rcases hT with hT | hT
  ·exact⟨(t.own T hT).2.2,(t.own T hT).2.1⟩
  ·exact⟨aa9 t.inv.sz hT,t.inv.hok.fresh hT⟩
 exact⟨a,C,d,fs,T,H,rfl,I'.os,I'.bare,I'.base,hok,t.xo,t.xd,sz.2,sz.1,tr,q⟩
theorem AM:g7 (my P w) (jm (my P w) P w K mg base N qual scope f cd A outer s₀ H₀ E) E:=fun _ _ _ _ _ _ I c=>iO (my.thr I c)
theorem cC.okX{x qual:Str}{st:Stmt}{f:Addr}{fd:FuncData}{N ps:List Str}{k:Nat}{sp:Sp}(F:cC K x qual st f fd)(S:ay N ps (aq st))(len:∀vs H Q E,sp vs H Q E→vs.length=ps.length)
  (hbody:∀(cdv:Value) (A:Around) (outer:List Env) (s:Shared) (H:Hp) (vs:List V) (Q:VK) (E:XK),cD k (A.deeper (envOfC qual (aq st) s.heap.objs.size f cdv))→sp vs H Q E→
   ∃t,sC (jm (my P w) P w K mg base N qual (aq st) f cdv A outer s H E) (bZ st) t∧t { nx:=fun _ H'=>Q .non H',rt:=Q } (start N vs) H):az P w K mg base (my P w) (k+1) f fd ps sp:=by
 obtain⟨oc,od,kV,doc,pm,an,cdv,ct,osl,rfl,lk,hcd⟩:=F.ex;exact xl lk hcd S len fun A outer s H vs Q E hr hsp=>hbody cdv A outer s H vs Q E hr hsp
end
theorem zH{K:Frag}{h:Heap}{N:Addr}{mg:Str→Option Value}{n:Str}{v:Value}(X:K.In h)(G:h.Ns N mg)(e:nsIn K N n=some (some v)):mg n=some v:=by
 obtain⟨o,es,ep,ho,hd,_,hf⟩:=G;unfold nsIn at e
 split at e
 ·rename_i c d es' n' sl q
  have:=X _ _ q
  rw [ho]at this;cases this;cases hd
  split at e
  ·rename_i en he
   cases e;rw [←hf];unfold nsFind findBy;rw [←Array.find?_toList,he];rfl
  ·split at e<;>cases e
 ·cases e
abbrev ze:List Value:=[.type "ValueError",.type "Exception",.type "BaseException",.type "object"]
structure sA(K:Frag)(C fI:Addr)(no:List Str):Prop where
 cls:∃nm q N bs S sn sub ab col dd k0 k1 k2 k3 k5,K.lookup C=some (excClassObj nm q C N bs (.ref S::ze) true sn sub ab col dd k0 k1 k2 k3 k5 "ValueError.__new__")∧nsOkIn K N=true∧
  nsIn K N "__init__"=some (some (.ref fI))∧(∀n∈no,nsIn K N n=some none)∧
  ∃c0 ds cd sl,K.lookup S=some ⟨c0,ds,.cls cd,sl⟩∧nsOkIn K cd.ns=true∧nsIn K cd.ns "__init__"=some none∧∀n∈no,nsIn K cd.ns n=some none
 kp:keepIn K (.ref C)=true
 fn:isFn K (.ref fI)=true
structure ExH(h:Heap)(C fI:Addr)(no:List Str)(nm q:Str)(N:Addr)(bs:List Value)(S:Addr)(sn:List Str)(sub:List Value)(ab:Bool)(col:Option Bool)(dd:Option Addr)(k0 k1 k2 k3 k5:Option Value)(mN:Str→Option Value):Prop where
 c:h.get? C=some (excClassObj nm q C N bs (.ref S::ze) true sn sub ab col dd k0 k1 k2 k3 k5 "ValueError.__new__")
 n:h.Ns N mN
 i:mN "__init__"=some (.ref fI)
 o:∀n∈no,mN n=none
 t:XE.Tail h (fun n=>n="__init__"∨n∈no) ze (.ref S::ze)
theorem sA.at{K:Frag}{C fI:Addr}{no:List Str}(x:sA K C fI no){h:Heap}(X:K.In h):∃nm q N bs S sn sub ab col dd k0 k1 k2 k3 k5 mN,ExH h C fI no nm q N bs S sn sub ab col dd k0 k1 k2 k3 k5 mN:=by
 obtain⟨nm,q,N,bs,S,sn,sub,ab,col,dd,k0,k1,k2,k3,k5,lk,ok,ii,nn,c0,ds,cd,sl,lS,okS,iS,nS⟩:=x.cls;have hN:h.Ns N (h.nsMap N):=.of_isNs (PySem.W.isNs_of_in X ok);have hS:h.Ns cd.ns (h.nsMap cd.ns):=.of_isNs (PySem.W.isNs_of_in X okS)
 exact⟨nm,q,N,bs,S,sn,sub,ab,col,dd,k0,k1,k2,k3,k5,_,X _ _ lk,hN,zH X hN ii,fun n hn=>PySem.W.ns_none_of X hN (nn n hn),.own (X _ _ lS) hS (fun n hn=>by
  rcases hn with rfl | hn
  ·exact PySem.W.ns_none_of X hS iS
  ·exact PySem.W.ns_none_of X hS (nS n hn)) .base⟩
def XF(C d a:Addr):HO:=.ext fun h=>∃o vs,h.get? a=some o∧o.cls=.ref C∧o.dict=some d∧o.data=.fields vs∧vs[1]?=some .none
section
variable {P:Program} {w:World} {H:Hp} {h:Heap} {a C d:Addr}
theorem XF.ok(x:∃o vs,h.get? a=some o∧o.cls=.ref C∧o.dict=some d∧o.data=.fields vs∧vs[1]?=some .none):cb P w H h a (XF C d a):=
 ⟨x,let ⟨o,_,e,_⟩:=x;⟨o,e⟩,fun _ _ ⟨o,vs,e,r⟩ k=>⟨o,vs,k o e,r⟩⟩
theorem XF.of(x:cb P w H h a (XF C d a)):∃o vs,h.get? a=some o∧o.cls=.ref C∧o.dict=some d∧o.data=.fields vs∧vs[1]?=some .none:=x.1
end
section
variable {X:Cx} {pins:List (Addr×Obj)} {σ:St} {H:Hp} {s:Shared}
theorem aH.trackO{D:Addr}{o:HO}(I:aH X pins σ H s)(hn:H D=none)(new:cb X.prog X.w (upd H D o) s.heap D o)(w:Ci X pins D):aH X pins σ (upd H D o) s:=by
 have ne:∀b o,H b=some o→b≠D:=fun b o e=>ak e hn
 refine I.step (h':=s.heap) (g':=s.gens) (d':=s.drawn) (t':=s.toks) (ch:=[D]) (fun b hb=>?_) (fun b o _ _ _ e _=>e) (fun b o _ _ _ e _=>⟨o.slots,e⟩) (fun b o hc _ n=>?_)
  (fun b o _ e=>⟨o,e⟩) (fun b xs e=>?_) (fun b o u e=>?_) (fun b ps e=>⟨#[],?_⟩) (fun _ z=>z) (fun b u e=>?_) I.bare
 ·have e:b=D:=by simpa using hb
  subst e;exact⟨w.old,w.ne,w.cells,w.pin⟩
 ·rw [aj (fun z=>hc (by simp [z]))];exact n
 ·rw [aj (ne _ _ e)];exact e
 ·rw [aj (ne _ _ e)];exact e
 ·rw [aj (ne _ _ e),e];simp
 ·by_cases hb:b=D
  ·subst hb
   rw [ae]at e;cases e;exact new
  ·rw [aj hb]at e
   exact(I.hok b u e).stay (fun c v _ q=>q) (fun c q=>by rw [aj (ne _ _ q)];exact q) fun c xs q=>by rw [aj (ne _ _ q)];exact q
variable {a C d fI:Addr} {no:List Str} {f:Str} {A:Around} {E:Value→Shared→Prop}
theorem Ae{y:V}{u:Value}{Q:Unit→Shared→Prop}(I:aH X pins σ H s)(e:H a=some (XN C a))(c:sA X.K C fI no)(h1:("__setattr__":Str)∈no)(h2:f∈no)(hB:typeLookup (.type "ValueError") f=pure none)(ry:aN y u)
  (h:∀s' d,H d=none→d≠a→aH X pins σ (upd (upd H a (XF C d a)) d (.xd [(f,y)])) s'→Q () s'):wpAny (model X.prog X.w) A (setAttr (.ref a) f u) Q E s:=by
 obtain⟨o,vs,ea,ec,ed,ef,e1⟩:=XN.of (I.hok a _ e);obtain⟨nm,q,N,bs,S,sn,sub,ab,col,dd,k0,k1,k2,k3,k5,mN,x⟩:=c.at I.kIn;obtain⟨hp,g,dr,tk,os⟩:=s;refine XE.store_first PySem.F.store_ValueError x.t (.inr h1) (.inr h2) x.c x.n (x.o _ h1) (x.o _ h2) hB ea ec (fun c z=>by rw [ef]at z;cases z) ed fun h' tk' ha hn hk hz=>?_;have fr:hp.objs.size≤hp.objs.size:=aa7 _;have hdn:H hp.objs.size=none:=I.hok.fresh fr;have hda:hp.objs.size≠a:=ah3 (ab0 ea)
 have I2:aH X pins σ (upd H a (XF C hp.objs.size a)) ⟨h',g,dr,tk',os⟩:=
  I.write (t':=tk') (x:=a) (e:=a) (by rw [e];trivial) (.inl rfl) (fun b ob hb q=>hk b ob hb q) ⟨_,ha⟩ (XF.ok ⟨_,vs,ha,ec,rfl,ef,e1⟩)
 refine h _ hp.objs.size hdn hda (I2.trackO (by rw [aj hda];exact hdn) ⟨_,hn,fun z=>?_⟩ ?_)
 ·by_cases hz:z=f
  ·subst hz
   simpa [List.lookup,jh]using ry
  ·have:(z == f)=false:=by simpa using hz
   simp [List.lookup,this,hz,jh]
 ·have w:=I.ownN (T:=hp.objs.size) fr
  exact⟨w.ne,w.old,w.cells,w.pin⟩
theorem zp{b:Bool}{fs:List (Str×V)}{v:V}{Q:Value→Shared→Prop}(I:aH X pins σ H s)(e:H a=some (XO C d a))(ed:H d=some (.xd fs))(c:sA X.K C fI no)(h1:("__getattribute__":Str)∈no)(h2:("__getattr__":Str)∈no)(h3:f∈no)
  (hB:typeLookup (.type "ValueError") f=pure none) (l:fs.lookup f=some v) (h:∀u s',aH X pins σ H s'→aN v u→Q u s'):wpAny (model X.prog X.w) A (getAttr (.ref a) f b) Q E s:=by
 obtain⟨o,vs,ea,ec,edi,ef⟩:=XO.of (I.hok a _ e);obtain⟨mA,hm,r⟩:=I.hok d _ ed;obtain⟨u,hu,ru⟩:=jh.some_of (v:=v) (o:=mA f) (by rw [←l];exact r f);obtain⟨nm,q,N,bs,S,sn,sub,ab,col,dd,k0,k1,k2,k3,k5,mN,x⟩:=c.at I.kIn;have I':=I.tok (s.toks+1);obtain⟨hp,g,dr,tk,os⟩:=s;exact XE.field_attr PySem.F.attrBase_ValueError x.c x.n x.t (.inr h1) (.inr h2) (x.o _ h1) (x.o _ h2) (.inr h3) (x.o _ h3) hB ea ec ef edi hm.ns hu (PySem.W.handedOut_of (nQ ru)) (h u _ I' ru)
end
theorem CA{K:Frag}{f:Addr}{h:Heap}(e:isFn K (.ref f)=true)(X:K.In h):∃o,h.get? f=some o∧o.cls=.type "function":=by
 have e:(K.lookup f).map (·.cls)=some (.type "function"):=beq_iff_eq.mp e
 cases q:K.lookup f with
 | none=>rw [q]at e;cases e
 | some o=>rw [q]at e;exact⟨o,X _ _ q,Option.some.inj e⟩
def yr(C:Addr)(ta tv:TE)(f:Str):TS:=fun D σ H=>tv σ H fun y H1=>ta σ H1 fun x H2=>∃a,x=.ref a∧H2 a=some (XN C a)∧∀d,H2 d=none→d≠a→D.nx σ (upd (upd H2 a (XF C d a)) d (.xd [(f,y)]))
def yy(C:Addr)(ta:TE)(f:Str):TE:=fun σ H Q=>ta σ H fun x H1=>∃a d fs v,x=.ref a∧H1 a=some (XO C d a)∧H1 d=some (.xd fs)∧fs.lookup f=some v∧Q v H1
def gu(C:Addr)(sp:Sp)(E:XK)(t:TA):TS:=fun _ σ H=>t σ H fun vs H1=>vs.length≤sizeLine∧∀a,H1 a=none→sp (.ref a::vs) (upd H1 a (XN C a)) (fun v H2=>v=.non∧∃d fs,H2 a=some (XF C d a)∧H2 d=some (.xd fs)∧E (.ref a) (some d) (upd H2 a (XO C d a))) E0
section
variable {X:Cx} {C fI:Addr} {no:List Str} {f x:Str} {o e value:Expr} {es:List Expr} {ta tv:TE} {t:TA} {pos pos' np cpos:Pos} {k:Nat} {fd:FuncData} {ps:List Str} {sp:Sp} {E:XK}
theorem uM(c:sA X.K C fI no)(h1:("__setattr__":Str)∈no)(h2:f∈no)(hB:typeLookup (.type "ValueError") f=pure none)(ha:PE X o ta)(hv:PE X value tv)(hs:swapsWith value (some (.Attribute o f pos')) pos.line X.env=pure false):
  PS X (.Assign [.Attribute o f pos'] value pos) (yr C ta tv f):=by
 intro pins s σ H D I h;refine plainObj_wpAny_Assign_Attribute (b6 (hv pins s σ H _ I h) fun u s1 ⟨y,H1,I1,ry,q⟩=>b6 (ha pins s1 σ H1 _ I1 q) fun ov s2 ⟨x,H2,I2,rx,a,ex,ea,q2⟩=>?_) hs;subst ex;obtain rfl:ov=Value.ref a:=rx;exact Ae I2 ea c h1 h2 hB ry fun s3 d hd hda I3=>⟨σ,_,I3,q2 d hd hda⟩
theorem zR(c:sA X.K C fI no)(h1:("__getattribute__":Str)∈no)(h2:("__getattr__":Str)∈no)(h3:f∈no)(hB:typeLookup (.type "ValueError") f=pure none)(he:PE X e ta)(hb:attributeBase e f X.env (eval e X.env)=eval e X.env):PE X (.Attribute e f pos) (yy C ta f):=by
 intro pins s σ H Q I h;refine uh hb (b6 (he pins s σ H _ I h) fun u s1 ⟨x,H1,I1,rx,a,d,fs,v,ex,ea,ed,l,q⟩=>?_);subst ex;obtain rfl:u=Value.ref a:=rx;exact zp I1 ea ed c h1 h2 h3 hB l fun u' s2 I2 ru=>⟨v,H1,I2,ru,q⟩
theorem yd(hc:X.calm=true)(c:sA X.K C fI no)(F:az X.prog X.w X.K X.mg X.base bH k fI fd ps sp)(hr:cD (k+1) X.A)(hg:Gl X x)(hm:X.mg x=some (.ref C))(hb:cM X.K fd ps [])(hx:∀e s',Dm X E e s'→X.xe e s')
  (ha:PA X (e::es) t) (hdb:(x == ("__debug__":Str))=false:=by decide) (he:starEach (e::es) X.env=(false,eval e X.env)::starEach es X.env:=by rfl) (hpl:(backTo cpos (starEach es X.env)).any (·.1)=false:=by rfl) :
  PS X (.Raise (some (.Call (.Name x np) (e::es) [] cpos)) none pos) (gu C sp E t):=by
 intro pins s σ H D I h;obtain⟨nm,q,N,bs,S,sn,sub,ab,col,dd,k0,k1,k2,k3,k5,lk,_⟩:=c.cls;refine XE.raise_of (C:=C) (nm:=nm) (q:=q) (N:=N) (bs:=bs) (bm:=.ref S::ze) (hdct:=true) (sn:=sn) (sub:=sub) (ab:=ab) (col:=col) (dd:=dd) (k0:=k0) (k1:=k1) (k2:=k2) (k3:=k3) (k5:=k5) (newId:="ValueError.__new__") (by rfl) (I.ok.hd hc) ?_;refine wpAny_Call_Name_kw (gI I hg hm ?_ hdb);refine callWith_K (h₀:=X.base) I.ok.mod.kin c.kp (b6 (ha cpos pins s σ H _ I h) fun us s1 ⟨vs,H1,I1,r,hz,q⟩=>⟨I1.kIn,?_⟩) he hpl;obtain⟨nm',q',N',bs',S',sn',sub',ab',col',dd',k0',k1',k2',k3',k5',mN,x1⟩:=c.at I1.kIn;have T1:OwnTail s1.heap ze (.ref S'::ze):=x1.t.ot (.inl rfl)
 have fnI:∃oI,s1.heap.get? fI=some oI∧oI.cls=.type "function":=by
  exact CA c.fn I1.kIn
 obtain⟨oI,hfI,hfc⟩:=fnI;obtain⟨hp,g,dr,tk,os⟩:=s1;show wpAny _ _ (call (.ref C) us) _ _ _;refine XE.call_own PySem.F.excBase_ValueError T1 x1.c x1.n x1.i hfI hfc (fun h' hm=>?_) (by rw [←r.length];exact hz);have hsz:hp.objs.size≤hp.objs.size+1:=ak0 _;have hq:=q (hp.objs.size+1) (I1.hok.fresh hsz)
 have I2:aH X pins σ (upd H1 (hp.objs.size+1) (XN C (hp.objs.size+1))) ⟨h',g,dr,tk,os⟩:=by
  refine I1.laid (t':=tk) (fun b o q=>hm.keeps b o q) hsz (XN.ok ?_);obtain⟨t,ht,_⟩:=hm.there;exact⟨_,_,ht,rfl,rfl,rfl,rfl⟩
 have r2:aR (V.ref (hp.objs.size+1)::vs) (Value.ref (hp.objs.size+1)::us):=.cons rfl r
 have hl:(Value.ref (hp.objs.size+1)::us++[]).length=ps.length:=by
  rw [ae0,←r2.length];exact F.len _ _ _ _ hq
 refine wpAny_call (codeAny_mono (F.run _ X.stack _ _ ⟨Value.ref (hp.objs.size+1)::us,[]⟩ (Value.ref (hp.objs.size+1)::us) _ _ E0 (hr.make C us []) (I2.env0.make C us []) (by
  have:=hb _ (Value.ref (hp.objs.size+1)::us) I2.kIn hl
  simpa using this) r2 hq) fun r' s' hq'=>?_)
 cases r' with
 | error e=>exact hq'.elim
 | ok fl=>
  cases fl with
  | ret u=>
   obtain⟨v,H',I3,rv,ev,d,fs,ha',hd',hE⟩:=I2.after hq';subst ev;obtain⟨oe,vs',he1,he2,he3,he4,he5⟩:=XF.of (I3.hok _ _ ha');refine⟨rv,_,oe,rfl,I3.kIn _ _ lk,he1,he2,⟨vs',he4,he5⟩,hx _ _ ?_⟩
   have hda:d≠hp.objs.size+1:=fun z=>by rw [z,ha']at hd';cases hd'
   refine⟨pins,σ,upd H' (hp.objs.size+1) (XO C d (hp.objs.size+1)),_,C,d,fs,[],rfl,⟨?_,ae,by rw [aj hda];exact hd',fun _ z=>(nomatch z),(.inl ⟨rfl,oe,vs',he1,⟨he2,he3⟩,he4,he5⟩)⟩,hE⟩;exact I3.write (t':=s'.toks) (h':=s'.heap) (x:=hp.objs.size+1) (e:=hp.objs.size+1) (by rw [ha'];trivial) (.inl rfl) (fun b u _ q=>q) ⟨_,he1⟩ (XO.ok ⟨oe,vs',he1,he2,he3,he4⟩)
  | next=>exact False.elim hq'
  | brk=>exact False.elim hq'
  | cont=>exact False.elim hq'
end
end L2
namespace L2
open PySem PySem.Spec PyProof.Rows
section
variable {X:Cx} {scope:Scope} {own:List Str} {js:List Nat} {tg iter elt:Expr} {ifs:List Expr} {wi:TI} {g:TG} {tt:TT} {te:TE} {pos:Pos}
end
end L2
namespace L2
open PySem PySem.Spec PyProof.Rows
abbrev Cx.held(X:Cx)(e:Value)(E:Value→Shared→Prop):Cx:={ X with A:=X.A.mark (some e),calm:=false,xe:=E }
section
variable {X:Cx} {pins:List (Addr×Obj)} {σ:St} {H:Hp} {s:Shared} {e:Value} {E:Value→Shared→Prop}
theorem Cx.Ok.held(ok:X.Ok)(e:Value)(E:Value→Shared→Prop):(X.held e E).Ok:=
 ⟨ok.mod,ok.kind,ok.glob,ok.blt,ok.above,ok.inj,ok.has,ok.cab,fun z=>(nomatch z),ok.frames,ok.stk,ok.exf,ok.bs,ok.bsz,ok.noex,ok.exfs,ok.funs,ok.frf⟩
theorem aH.held(I:aH X pins σ H s)(e:Value)(E:Value→Shared→Prop):aH (X.held e E) pins σ H s:=⟨I.ok.held e E,I.os,I.bare,I.base,I.loc,I.cell,I.free,I.freeC,I.pin,I.hok,I.len⟩
theorem aH.unheld(ok:X.Ok)(I:aH (X.held e E) pins σ H s):aH X pins σ H s:=⟨ok,I.os,I.bare,I.base,I.loc,I.cell,I.free,I.freeC,I.pin,I.hok,I.len⟩
theorem vt{M:Model}{A:Around}{i:Nat}{x:Str}{pos:Pos}{Q:Unit→Shared→Prop}(I:aH X pins σ H s)(hN:X.N.Nodup)(hi:X.N[i]?=some x)(hk:X.env.scope.names.lookup x=some .local)
  (h:∀s',aH X pins (σ.set i none) H s'→Q () s'):wpAny M A (do bindName X.env x .none;unbindBehindTheSuite X.env x pos) Q E s:=by
 obtain⟨m,hn,hl⟩:=id I.loc
 have hcls:(X.env.scope.kind == .class || (X.env.scope.kind == .module && X.env.locals != X.env.globals))=false:=by rw [I.ok.kind];rfl
 have hiσ:i < σ.length:=by rw [I.len];exact(aa4.mp hi).1
 obtain⟨oL,_,_,hoL,_⟩:=id hn;refine wpAny_nameGoes_keeps hk hn hcls fun h' v hn' hs=>?_
 have tracked:iB X.prog X.w H h':=fun b ob e=>by
  refine(I.hok b ob e).stay (fun c w' hc q=>(hs.2 c ?_).trans q) (fun _ q=>q) fun _ _ q=>q;rintro rfl;rcases hc with rfl | hc
  ·rw [I.free]at e;cases e
  ·rw [I.free]at hc;cases hc
 have low:∀b o,X.s₀.heap.get? b=some o→h'.get? b=s.heap.get? b:=fun b o e=>hs.2 b (ab7 (ab1 (ab0 e) I.ok.above));refine h _ ⟨I.ok,I.os,I.bare,⟨fun b o e n hb hx=>(low b o e).trans (I.base.keep b o e n hb hx),fun b o e n hb hx=>?_,I.base.free,fun b o e hx=>?_,I.base.tups,I.base.frzs,I.base.tbls⟩,⟨_,hn',fun j y v' e1 e2 e3=>?_⟩,fun y c e=>?_,I.free,I.freeC,fun p hp=>?_,tracked,by simpa using I.len⟩
 ·obtain⟨sl,e1⟩:=I.base.slot b o e n hb hx
  exact⟨sl,(low b o e).trans e1⟩
 ·obtain⟨o',e1⟩:=I.base.there b o e hx
  exact⟨o',(low b o e).trans e1⟩
 ·by_cases hj:j=i
  ·subst hj
   rw [ah7 hiσ]at e2;cases e2
  ·rw [ai5 (Ne.symm hj)]at e2
   obtain⟨u',r',q⟩:=hl j y v' e1 e2 e3;refine⟨u',r',?_⟩;rcases q with⟨k,e⟩ | ⟨k,c,e,z⟩
   ·refine .inl ⟨k,?_⟩
    have:y≠x:=fun e=>hj (lJ hN e1 (e▸hi))
    simp [this,e]
   ·exact .inr ⟨k,c,e,z.sameBut hs (I.cne y c e)⟩
 ·obtain⟨w',z⟩:=I.cell y c e
  exact⟨w',z.sameBut hs (I.cne y c e)⟩
 ·obtain⟨e,n,ne,nf,d⟩:=I.pin p hp
  exact⟨(hs.2 p.1 ne).trans e,n,ne,nf,d⟩
end
def ug(X:Cx)(pins:List (Addr×Obj))(σ:St)(E:XK)(e:Value)(s:Shared):Prop:=∃H a C d fs ts,e=.ref a∧ff X pins σ H s a C d fs ts∧E e (some d) H
theorem my.at_{X:Cx}{pins:List (Addr×Obj)}{σ:St}{H:Hp}{s s':Shared}{E:XK}{e:Value}(I:aH X pins σ H s)(x:my X.prog X.w X.stack H s E e s'):ug X pins σ E e s':=by
 obtain⟨a,C,d,fs,T,H',rfl,os,bare,un,hok,ha,hd,hT,sz,tr,q⟩:=x;refine⟨H',a,C,d,fs,[T],rfl,⟨I.call' os un hok bare (fun b z=>nomatch z),ha,hd,fun T' hT'=>?_,.inr ⟨T,_,rfl,tr⟩⟩,q⟩
 obtain rfl:T'=T:=by simpa using hT'
 exact⟨I.ownN sz,hT,aa9 I.sz sz⟩
section
variable {X:Cx} {pins:List (Addr×Obj)} {σ:St} {H:Hp} {s:Shared} {a C d T L:Addr} {fs:List (Str×V)} {ts:List Addr} {M:Model} {A:Around} {E:Value→Shared→Prop} {Q:Unit→Shared→Prop}
theorem ff.note(t:ff X pins σ H s a C d fs ts)(hst:X.stack=X.env::X.outer)(hfr:X.env.frame=some L)(hA:A.frames=some X.stack)
  (h:∀h' T,ff X pins σ H { s with heap:=h' } a C d fs [T]→Q () { s with heap:=h' }):wpAny M A (noteFrame (.ref a) X.env) Q E s:=by
 have hon:=t.on;rw [hst]at hon hA;refine XE.note_out hA hfr hon t.hid t.out fun h' T hT o tr u=>h h' T ⟨t.go o.1 tr u,t.xo,t.xd,fun T' hT'=>?_,.inr ⟨T,_,rfl,tr⟩⟩
 obtain rfl:T'=T:=by simpa using hT'
 rcases hT with hT | hT
 ·exact t.own _ hT
 ·exact⟨t.inv.ownN hT,t.inv.hok.fresh hT,aa9 t.inv.sz hT⟩
theorem ff.tr(t:ff X pins σ H s a C d fs [T]):∃fl,XE.Tr s.heap a T (.ref C) (some d) fl:=by
 rcases t.out with⟨z,_⟩ | ⟨T',fl',z,tr⟩
 ·cases z
 ·cases z;exact⟨fl',tr⟩
theorem ff.land(t:ff X pins σ H s a C d fs [T])(h:∀h',ff X pins σ H { s with heap:=h' } a C d fs [T]→Q () { s with heap:=h' }):wpAny M A (setFlight (.ref a) none) Q E s:=by
 obtain⟨fl,tr⟩:=t.tr;exact XE.land t.on (t.hid T (.head _)) tr fun h' o tr' u=>h h' ⟨t.go o.1 tr' u,t.xo,t.xd,t.own,.inr ⟨T,_,rfl,tr'⟩⟩
end
section
variable {X:Cx} {k:Nat} {f C fI L:Addr} {fd:FuncData} {ps:List Str} {sp:Sp} {no:List Str} {x y v n r:Str} {p pos cpos np vp hpos rp rn apos spos:Pos} {e:Expr} {es:List Expr} {t:TA} {iv ie ir:Nat}
theorem zf{pins:List (Addr×Obj)}{σ:St}{H:Hp}{s:Shared}{Q:VK}{E:XK}(F:az X.prog X.w X.K X.mg X.base (my X.prog X.w) k f fd ps sp)(hr:cD k X.A)(hg:Gl X x)(hm:X.mg x=some (.ref f))(hk:keepIn X.K (.ref f)=true)(hb:cM X.K fd ps [])
  (ha:PA X.nox (e::es) t) (I:aH X pins σ H s) (h:t σ H fun vs H1=>sp vs H1 Q E) (hdb:(x == ("__debug__":Str))=false) (he:starEach (e::es) X.env=(false,eval e X.env)::starEach es X.env) (hpl:(backTo pos (starEach es X.env)).any (·.1)=false) :
  wpAny (model X.prog X.w) X.A (eval (.Call (.Name x p) (e::es) [] pos) X.env) (EP X pins σ Q) (ug X pins σ E) s:=by
 refine wpAny_Call_Name_kw (gI I hg hm ?_ hdb);refine callWith_K (h₀:=X.base) I.ok.mod.kin hk (wpAny_mono (ha pos pins s σ H _ (I.wish _) h) (fun us s1 ⟨vs,H1,I1,r,q⟩=>⟨I1.kIn,?_⟩) fun _ _ z=>z.elim) he hpl;have I1:aH X pins σ H1 s1:=I1.unwish
 have hl:(us++[]).length=ps.length:=by rw [ae0,←r.length];exact F.len _ _ _ _ q
 refine wpAny_call (codeAny_mono (F.run X.A X.stack s1 H1 ⟨us,[]⟩ us vs Q E hr I1.env0 (by have:=hb s1 us I1.kIn hl;simpa using this) r q) fun r s' hq=>?_)
 cases r with
 | error e=>exact my.at_ I1 hq
 | ok fl=>
  cases fl with
  | ret u=>exact I1.after hq
  | next=>exact False.elim hq
  | brk=>exact False.elim hq
  | cont=>exact False.elim hq
end
end L2
namespace XE
open PySem
open Sem (wp)
section
variable {prog:Program} {w:World} {A:Around} {E:Value→Shared→Prop} {h:Heap} {g:Array GenState} {d:Drawn} {t:Nat} {os:OsState}
variable {nm q:Str} {C N a:Addr} {bs bm bmB:List Value} {sn:List Str} {sub:List Value} {ab:Bool} {col:Option Bool} {dd:Option Addr} {k0 k1 k2 k3 k5:Option Value} {B newId:String}
 {mN:Str→Option Value} {no:Str→Prop} {o:Obj} {vs:Array Value}
theorem ve{R:Result→Shared→Prop}(T:Tail h no bmB bm)(hob:bmB.contains (.type "object")=true)(hC:h.get? C=some (excClassObj nm q C N bs bm true sn sub ab col dd k0 k1 k2 k3 k5 newId))
  (hx:h.get? a=some o) (hc:o.cls=.ref C) (hq:R (.ok (.ret (.ref C))) ⟨h,g,d,t,os⟩) :
  codeAny (model prog w) A (.call (.builtin "getset_descriptor.__get__") ⟨[.builtin "object.__class__",.ref a,.ref C],[]⟩) R ⟨h,g,d,t,os⟩:=by
 have hT5:(⟨h,g,d,t,os⟩:Shared).TypeIs (.builtin "object.__class__") "getset_descriptor":=F.typeOf_object_class
 have hcB:(Value.ref C::bm).contains (.type (".".intercalate ("object.__class__".cutAt '.').dropLast))=true:=by
  rw [F.owner_object_class,ag6,T.hasType hob];rfl
 refine codeAny_call_builtin F.slot_gs_get.plain F.entry_gs_get (F.slot_gs_get.check _ _ _ _ _ _ _ _ hT5 (F.args_gs_get _ _ _) ?_)
 repeat (any_goals (first | assumption | (with_reducible refine wpAny_loadPart_at hx ?_;rw [hc]) | (with_reducible refine wpAny_isSubtype_exc hC ?_;rw [hcB]) | wp_step))
 refine⟨Code.quiet_builtin _ (by decide +kernel),codeAny_builtin F.entry_object_class ?_⟩
 repeat (any_goals (first | assumption | (with_reducible refine wpAny_loadPart_at hx ?_;rw [hc]) | wp_step))
theorem qP{tk:Tok}{Q:Fin→Shared→Prop}(FB:ExcAttrBase B bmB)(T:Tail h no bmB bm)(hob:bmB.contains (.type "object")=true)(hcl:no "__class__")(hna:mN "__class__"=none)(hlk:typeLookup (.type B) "__class__"=pure (some (.builtin "object.__class__")))
  (hC:h.get? C=some (excClassObj nm q C N bs bm true sn sub ab col dd k0 k1 k2 k3 k5 newId)) (hN:h.Ns N mN) (hx:h.get? a=some o) (hc:o.cls=.ref C) (hq:Q (.done (.ret (.ref C))) ⟨h,g,d,t,os⟩) :
  wpAny (model prog w) A (Builtin.«object.__getattribute__» ⟨[.ref a,.str "__class__" tk],[]⟩) Q E ⟨h,g,d,t,os⟩:=by
 have hT5:(⟨h,g,d,t,os⟩:Shared).TypeIs (.builtin "object.__class__") "getset_descriptor":=F.typeOf_object_class;have f5:=F.typeOf_object_class;have f6:=F.slot_gs_get.lookup;have f7:=F.slot_gs_set.lookup
 repeat (any_goals (first | assumption | (with_reducible refine wpAny_loadPart_at hx ?_;rw [hc]) | (with_reducible refine lookup hcl hC hN T FB.mro hlk ?_;rw [hna]) | wp_step))
 refine ve T hob hC hx hc ?_
 repeat (any_goals (first | assumption | wp_step))
theorem class_attr{Q:Option Value→Shared→Prop}(FB:ExcAttrBase B bmB)(T:Tail h no bmB bm)(hob:bmB.contains (.type "object")=true)(hcl:no "__class__")(hna:mN "__class__"=none)(hlk:typeLookup (.type B) "__class__"=pure (some (.builtin "object.__class__")))
  (n1:no "__getattribute__") (n2:no "__getattr__") (m1:mN "__getattribute__"=none) (m2:mN "__getattr__"=none)
  (hC:h.get? C=some (excClassObj nm q C N bs bm true sn sub ab col dd k0 k1 k2 k3 k5 newId)) (hN:h.Ns N mN) (hx:h.get? a=some o) (hc:o.cls=.ref C) (hq:Q (some (.ref C)) ⟨h,g,d,t+1,os⟩) :
  wpAny (model prog w) A (getAttr? (.ref a) "__class__") Q E ⟨h,g,d,t,os⟩:=by
 have f3:=FB.ga.bind (.ref a)
 have hx2:(Value.builtin "BaseException.__getattribute__" == Value.builtin "object.__getattribute__")=false:=by decide +kernel
 have hx0:(false && onTheHeap (Value.builtin "BaseException.__getattribute__"))=false:=rfl
 have hx1:(onTheHeap (Value.ref C) && Value.builtin "BaseException.__getattribute__" == Value.builtin "object.__getattribute__")=false:=by rw [hx2];rfl
 unfold getAttr? getAttrBy?
 repeat (any_goals (first | assumption | (with_reducible refine wpAny_loadPart_at hx ?_;rw [hc]) | (with_reducible refine lookup n1 hC hN T FB.mro FB.ga.lookup ?_;rw [m1]) | (with_reducible refine lookup n2 hC hN T FB.mro FB.noGetattr ?_;rw [m2]) | wp_step))
 refine codeAny_call_builtin FB.ga.plain F.entry_bexc_ga (qO FB hC T hx hc (qP FB T hob hcl hna hlk hC hN hx hc ?_))
 repeat (any_goals (first | assumption | wp_step))
end
end XE
namespace L2
open PySem PySem.Spec PyProof.Rows
theorem vC:typeLookup (.type "ValueError") "__class__"=pure (some (.builtin "object.__class__")):=by rw [typeLookup_type,builtinLookup_eq_fast];kernel_rfl
theorem xJ{K:Frag}{C fI a:Addr}{no:List Str}(c:sA K C fI no)(h1:("__class__":Str)∈no)(h2:("__getattribute__":Str)∈no)(h3:("__getattr__":Str)∈no):
  PySem.W.KitX K (.ref a) (.ref C) (fun h=>∃o,h.get? a=some o∧o.cls=.ref C) where
 ty:=fun M h _ p=>by
  obtain⟨o,e1,e2⟩:=p;exact e2▸(PySem.W.Looks.ld e1).andThen .now
 it:=fun M h X _=>by
  obtain⟨nm,q,N,bs,S,sn,sub,ab,col,dd,k0,k1,k2,k3,k5,mN,x⟩:=c.at X;intro A' Q' E' s' k q;unfold isType loadHead;exact wpAny_bind (wpAny_loadPart (k _ _ x.c) (wpAny_pure q))
 ne:=fun h tp dd' its n sl X ht=>by
  obtain⟨nm,q,N,bs,S,sn,sub,ab,col,dd,k0,k1,k2,k3,k5,mN,x⟩:=c.at X;refine Bool.eq_false_iff.mpr fun q=>?_;cases beq_iff_eq.mp q
  have z:=congrArg (Option.map (·.cls)) (x.c.symm.trans ht)
  exact absurd z (by simp [excClassObj])
 ca:=fun {prog w A E Q s} X p k=>by
  obtain⟨o,e1,e2⟩:=p;obtain⟨nm,q,N,bs,S,sn,sub,ab,col,dd,k0,k1,k2,k3,k5,mN,x⟩:=c.at X;obtain⟨h,g,d,t,os⟩:=s;exact XE.class_attr PySem.F.attrBase_ValueError x.t rfl (.inr h1) (x.o _ h1) vC (.inr h2) (.inr h3) (x.o _ h2) (x.o _ h3) x.c x.n e1 e2 k
def BL(K:Frag)(C:Addr):List V→Hp→VK→Prop:=fun xs H Q=>∃a d y u b,xs=[.ref a,y]∧H a=some (XO C d a)∧aN y u∧(∀u',aN y u'→u'=u)∧kitOne K (.ref C) u=some b∧Q (.bl b) H
theorem oZ{X:Cx}{C fI:Addr}{no:List Str}(K:Frag)(c:sA X.K C fI no)(h1:("__class__":Str)∈no)(h2:("__getattribute__":Str)∈no)(h3:("__getattr__":Str)∈no)(hK:X.K=K:=by rfl):bT X (.builtin "isinstance") (BL K C):=by
 subst hK;intro pins s σ H xs us Q I r h;obtain⟨a,d,y,u,b,rfl,ha,ry,uy,e,q⟩:=h;obtain⟨u1,u2,rfl,r1,r2⟩:=mw r;cases(show u1=Value.ref a from r1);cases uy u2 r2;obtain⟨o,vs,e1,e2,_⟩:=XO.of (I.hok a _ ha);exact kia_one (xJ c h1 h2 h3) I.kIn ⟨o,e1,e2⟩ e (fun z=>nomatch z) fun tk=>⟨.bl b,H,I.tok _,rfl,q⟩
end L2
namespace L2
open PySem PySem.Spec PyProof.Rows
theorem Az(m:Nat):m < 10 ^ (dg m).length:=by
 induction m using Nat.strongRecOn with
 | _ m ih=>
  by_cases h:m < 10
  ·rw [fU h];simpa using h
  ·rw [o9 h,ab2]
   have:=ih (m / 10) (by omega)
   simp only [aa6,ad2];rw [Nat.zero_add,Nat.pow_succ];omega
theorem wZ{l r:List Nat}:hJ (l++r)=(hJ l && hJ r):=by unfold hJ;exact List.all_append
theorem w4{c:Nat}(h:hJ [c]=true):48≤c∧c≤57:=by
 unfold hJ at h;simp at h;omega
theorem uq:∀(k:Nat) (l:List Nat),l.length=k→l≠[]→hJ l=true→(l.head?≠some 48∨l=[48])→∃m,dg m=l∧(l≠[48]→0 < m):=by
 intro k
 induction k with
 | zero=>intro l hl hn;exact absurd (af2.mp hl) hn
 | succ k ih=>
  intro l hl hn hd hh;obtain⟨l',c,rfl⟩:∃l' c,l=l' ++ [c]:=⟨l.dropLast,l.getLast hn,(List.dropLast_concat_getLast hn).symm⟩;rw [wZ,ac6]at hd;have hc:=w4 hd.2
  by_cases h0:l'=[]
  ·subst h0
   refine⟨c - 48,?_,fun h=>?_⟩
   ·rw [fU (by omega),show c - 48+48=c by omega];rfl
   ·have:c≠48:=fun e=>h (by rw [e];rfl)
    omega
  ·have hh':l'.head?≠some 48:=by
    rcases hh with hh | hh
    ·intro e;apply hh
     cases l' with
     | nil=>exact absurd rfl h0
     | cons x r=>exact e
    ·have:=congrArg List.length hh
     simp at this;exact absurd this h0
   obtain⟨m,hm,hp⟩:=ih l' (by simpa using hl) h0 hd.1 (.inl hh');have hm0:0 < m:=hp fun e=>hh' (by rw [e];rfl);refine⟨m * 10+(c - 48),?_,fun _=>by omega⟩;rw [o9 (by omega),show(m * 10+(c - 48)) / 10=m by omega,show(m * 10+(c - 48)) % 10+48=c by omega,hm]
theorem rk{w:List Nat}(h:cq w=true):∃n:Int,ig n=w∧n.natAbs < 10 ^ 40:=by
 unfold cq at h;simp only [ac6,decide_eq_true_eq,al3]at h;obtain⟨h1,h2,h3,h4⟩:=h
 have hne:dj w≠[]:=fun e=>by rw [e]at h1;simp at h1
 by_cases hw:w.head?=some 45
 ·have hf:dj w=w.tail:=by unfold dj;rw [if_pos hw]
  have hcons:w=45::w.tail:=by
   cases w with
   | nil=>cases hw
   | cons a r=>cases hw;rfl
  have h48:(dj w).head?≠some 48:=by
   rcases h4 with h4 | h4
   ·exact h4
   ·rw [h4]at hw;cases hw
  obtain⟨m,hm,hp⟩:=uq _ (dj w) rfl hne h3 (.inl h48);have m0:0 < m:=hp fun e=>h48 (by rw [e];rfl);refine⟨-(((m - 1)+1:Nat):Int),?_,?_⟩
  ·rw [e8,show m - 1+1=m by omega,hm,hf,←hcons]
  ·have:=Az m
   rw [hm]at this;have h5:10 ^ (dj w).length≤10 ^ 40:=ai7 (by decide) h2;omega
 ·have hf:dj w=w:=by unfold dj;rw [if_neg hw]
  rw [hf]at h1 h2 h3 h4 hne;obtain⟨m,hm,_⟩:=uq _ w rfl hne h3 h4;refine⟨(m:Int),by rw [e7,hm],?_⟩
  have:=Az m
  rw [hm]at this;have h5:10 ^ w.length≤10 ^ 40:=ai7 (by decide) h2;omega
theorem vx{z:Str}(h:cq z.cps.toList=true):∃n:Int,intText? z=some n∧z.length≤640:=by
 obtain⟨n,e,hn⟩:=rk h;have ez:z=Str.ofString (toString n):=str_iff.mpr e.symm;refine⟨n,by rw [ez];exact uC (ab1 hn (by decide +kernel)),?_⟩;rw [aL,←e];exact aa9 (lK (k:=40) (by decide) hn) (by decide)
end L2
namespace L2
open PySem PySem.Spec PyProof.Rows
structure je(P:Program)(w:World)(K:Frag)(mg:Str→Option Value)(base:Heap)(x:Str)(k:Nat)(ps:List Str)(sp:Sp):Prop where
 ex:∃(f:Addr) (fd:FuncData),az P w K mg base (my P w) k f fd ps sp∧mg x=some (.ref f)∧keepIn K (.ref f)=true∧cM K fd ps []
structure jd(P:Program)(w:World)(K:Frag)(mg:Str→Option Value)(base:Heap)(x:Str)(C:Addr)(k:Nat)(ps:List Str)(sp:Sp)(no:List Str):Prop where
 ex:∃(fI:Addr) (fd:FuncData),sA K C fI no∧az P w K mg base bH k fI fd ps sp∧mg x=some (.ref C)∧cM K fd ps []
section
variable {X:Cx} {k j:Nat} {ps qs:List Str} {sp sq:Sp} {x y v n r f:Str} {p pos cpos np vp hpos rp rn apos spos:Pos} {e o value:Expr} {es:List Expr} {ta:TE} {t:TA} {E:XK} {C L:Addr} {no:List Str} {iv ie ir:Nat}
theorem uJ(d:je X.prog X.w X.K X.mg X.base x k ps sp)(hr:cD k X.A)(hg:Gl X x)(hx:g7 (my X.prog X.w) X E)(ha:PA X (e::es) t)(hdb:(x == ("__debug__":Str))=false:=by decide)
  (he:starEach (e::es) X.env=(false,eval e X.env)::starEach es X.env:=by rfl) (hpl:(backTo pos (starEach es X.env)).any (·.1)=false:=by rfl):PE X (.Call (.Name x p) (e::es) [] pos) (mq sp [] E t):=
 let ⟨_,_,F,hm,hk,hb⟩:=d.ex;uI F hr hg hm hk hb .nil hx ha hdb he hpl
theorem jB(d:jd X.prog X.w X.K X.mg X.base x C k ps sp no)(hc:X.calm=true)(hr:cD (k+1) X.A)(hg:Gl X x)(hx:∀e s',Dm X E e s'→X.xe e s')(ha:PA X (e::es) t)(hdb:(x == ("__debug__":Str))=false:=by decide)
  (he:starEach (e::es) X.env=(false,eval e X.env)::starEach es X.env:=by rfl) (hpl:(backTo cpos (starEach es X.env)).any (·.1)=false:=by rfl):PS X (.Raise (some (.Call (.Name x np) (e::es) [] cpos)) none pos) (gu C sp E t):=
 let ⟨_,_,c,F,hm,hb⟩:=d.ex;yd hc c F hr hg hm hb hx ha hdb he hpl
theorem kH(d:jd X.prog X.w X.K X.mg X.base x C k ps sp no)(h1:("__getattribute__":Str)∈no)(h2:("__getattr__":Str)∈no)(h3:f∈no)(hB:typeLookup (.type "ValueError") f=pure none)(he:PE X e ta)(hb:attributeBase e f X.env (eval e X.env)=eval e X.env):PE X (.Attribute e f pos) (yy C ta f):=
 let ⟨_,_,c,_⟩:=d.ex;zR c h1 h2 h3 hB he hb
theorem bS(K:Frag)(d:jd X.prog X.w X.K X.mg X.base x C k ps sp no)(h1:("__class__":Str)∈no)(h2:("__getattribute__":Str)∈no)(h3:("__getattr__":Str)∈no)(hK:X.K=K:=by rfl):bT X (.builtin "isinstance") (BL K C):=
 let ⟨_,_,c,_⟩:=d.ex;oZ K c h1 h2 h3 hK
end
def ko(C:Addr)(f:Str):Sp:=fun vs H Q _=>∃a v,vs=[.ref a,v]∧H a=some (XN C a)∧∀d,H d=none→d≠a→Q .non (upd (upd H a (XF C d a)) d (.xd [(f,v)]))
section
variable {X:Cx}
theorem u9(hc:X.calm=true):bT X (.builtin "any") (fun xs H Q=>∃(p:Addr) (bs:List Bool),xs=[.ref p]∧aV X.K H p (bs.map V.bl)∧Q (.bl (bs.any id)) H):=by
 intro pins s σ H xs us Q I r h;obtain⟨p,bs,rfl,hq,q⟩:=h;obtain⟨u,rfl,ru⟩:=d2 r;cases ru;obtain⟨its,rv,pl,hz⟩:=I.list hq;have e:=iA rv;subst e;have hh:X.A.in1.handled=none:=I.ok.hd hc;refine call_any_walk (wpAny_pyIter_list pl.isList ⟨s.heap.objs.size,[s.heap.objs.size,p],[s.heap.objs.size],_,_,_,fun i=>bs.getD i true,rfl,Walks.list hh _ p ?_ _,⟨⟨_,ab4 _ rfl,rfl,rfl⟩,pl.isList.push _⟩,?_,fun h' tk hk=>?_⟩)
 ·obtain⟨o,n,e,_⟩:=pl
  exact ab7 (ab0 e)
 ·intro i v s' Q' E' hv hQ'
  have hv':(bs.map Value.bool)[i]?=some v:=by simpa using hv
  rw [ac2]at hv'
  cases hb:bs[i]? with
  | none=>rw [hb]at hv';cases hv'
  | some b=>
   rw [hb]at hv';cases hv';have hQ2:Q' (bs.getD i true) s':=hQ';rw [ad3,hb]at hQ2;exact wpAny_truthy_bool hQ2
 ·refine⟨.bl (bs.any id),H,I.kept (h':=h') (t':=tk) fun b o e=>hk b o ?_ (aa2 _ e),?_,q⟩
  ·intro z
   have z':b=s.heap.objs.size:=by simpa using z
   exact absurd (ab0 e) (by rw [z'];exact af3 _)
  ·show Value.bool _=Value.bool _
   rw [←vY];simp
theorem va(K:Frag)(hc:X.calm=true)(h:X.K=K:=by rfl):bT X (.builtin "any") (fun xs H Q=>∃(p:Addr) (bs:List Bool),xs=[.ref p]∧aV K H p (bs.map V.bl)∧Q (.bl (bs.any id)) H):=h▸u9 hc
end
end L2
namespace L2
open PySem PySem.Spec PyProof.Rows
section
variable {K:Frag} {C fI S N c:Addr} {nm q f:Str} {bs sub:List Value} {sn:List Str} {ab b:Bool} {col:Option Bool} {dd:Option Addr} {k0 k1 k2 k3 k5:Option Value} {c0:Value} {ds:Option Addr} {cd:ClassData} {sl:Array (Option Value)} {T:String}
theorem uG{cl:Value}{d:Option Addr}{es:Array DictEntry}{n:Nat}{sl:Array (Option Value)}(l:K.lookup N=some ⟨cl,d,.dict es n,sl⟩)(e:(es.toList.all fun e=>match e.key with | .str _ _=>true | _=>false)=true):nsOkIn K N=true:=by
 unfold nsOkIn;rw [l];show es.all _=true;rw [←Array.all_toList];exact e
theorem A4(lk:K.lookup C=some (excClassObj nm q C N bs (.ref S::ze) true sn sub ab col dd k0 k1 k2 k3 k5 "ValueError.__new__"))(ok:nsOkIn K N=true)(ii:nsIn K N "__init__"=some (some (.ref fI)))
  (a1:nsIn K N "__setattr__"=some none) (a2:nsIn K N "__getattribute__"=some none) (a3:nsIn K N "__getattr__"=some none) (a4:nsIn K N "__class__"=some none) (a5:nsIn K N f=some none)
  (lS:K.lookup S=some ⟨c0,ds,.cls cd,sl⟩) (okS:nsOkIn K cd.ns=true) (iS:nsIn K cd.ns "__init__"=some none)
  (b1:nsIn K cd.ns "__setattr__"=some none) (b2:nsIn K cd.ns "__getattribute__"=some none) (b3:nsIn K cd.ns "__getattr__"=some none) (b4:nsIn K cd.ns "__class__"=some none) (b5:nsIn K cd.ns f=some none)
  (kp:keepIn K (.ref C)=true) (fn:isFn K (.ref fI)=true):sA K C fI ["__setattr__","__getattribute__","__getattr__","__class__",f]:=
 ⟨⟨nm,q,N,bs,S,sn,sub,ab,col,dd,k0,k1,k2,k3,k5,lk,ok,ii,fun n hn=>by
   simp only [aa5,ak6,or_false]at hn
   rcases hn with rfl | rfl | rfl | rfl | rfl<;>assumption,c0,ds,cd,sl,lS,okS,iS,fun n hn=>by
   simp only [aa5,ak6,or_false]at hn
   rcases hn with rfl | rfl | rfl | rfl | rfl<;>assumption⟩,kp,fn⟩
theorem exAt_mk{cl cl':Value}{d d':Option Addr}{es es':Array DictEntry}{n n':Nat}{zl zl':Array (Option Value)}{qual:Str}{st:Stmt}{oc:Value}{od an:Option Addr}{osl:Array (Option Value)}{kV doc pm cdv ct:Value}
  (lk:K.lookup C=some (excClassObj nm q C N bs (.ref S::ze) true sn sub ab col dd k0 k1 k2 k3 k5 "ValueError.__new__")) (lN:K.lookup N=some ⟨cl,d,.dict es n,zl⟩) (eN:(es.toList.all fun e=>match e.key with | .str _ _=>true | _=>false)=true) (ii:nsIn K N "__init__"=some (some (.ref fI)))
  (a1:nsIn K N "__setattr__"=some none) (a2:nsIn K N "__getattribute__"=some none) (a3:nsIn K N "__getattr__"=some none) (a4:nsIn K N "__class__"=some none) (a5:nsIn K N f=some none)
  (lS:K.lookup S=some ⟨c0,ds,.cls cd,sl⟩) (lM:K.lookup cd.ns=some ⟨cl',d',.dict es' n',zl'⟩) (eM:(es'.toList.all fun e=>match e.key with | .str _ _=>true | _=>false)=true) (iS:nsIn K cd.ns "__init__"=some none)
  (b1:nsIn K cd.ns "__setattr__"=some none) (b2:nsIn K cd.ns "__getattribute__"=some none) (b3:nsIn K cd.ns "__getattr__"=some none) (b4:nsIn K cd.ns "__class__"=some none) (b5:nsIn K cd.ns f=some none)
  (kp:keepIn K (.ref C)=true) (fn:isFn K (.ref fI)=true)
  (l:K.lookup fI=some ⟨oc,od,.func (fnOf "__init__" qual (cI st) (bZ st) (aq st) .none kV doc pm an cdv ct),osl⟩) (c:codeIn K cdv qual=true) (k:keepIn K (.ref fI)=true) :
  ∃fI fd,sA K C fI ["__setattr__","__getattribute__","__getattr__","__class__",f]∧cC K "__init__" qual st fI fd:=
 ⟨fI,_,A4 lk (uG lN eN) ii a1 a2 a3 a4 a5 lS (uG lM eM) iS b1 b2 b3 b4 b5 kp fn,fun_mk l c k⟩
theorem kit_own{t:Value}(n:(t == .ref c)=false)(h1:PySem.W.isClsIn K c=true)(h2:PySem.W.typeIn K (.ref c)=some (.type "type"))(h3:PySem.W.subIn K t (.ref c)=some b):kitOne K t (.ref c)=some b:=by
 unfold kitOne PySem.W.kitCls;have h1:(PySem.W.clsIn K c).isSome=true:=h1;rw [n,if_neg aa1];simp only [h1,h2,beq_self_eq_true,Bool.and_self,if_true];exact h3
theorem kit_ty{t:Value}(n:(t == .type T)=false)(h1:PySem.W.kitMeta T=true)(h3:PySem.W.subIn K t (.type T)=some b):kitOne K t (.type T)=some b:=by
 unfold kitOne PySem.W.kitCls;rw [n,if_neg aa1];simp only [h1,if_true];exact h3
end
end L2
namespace L2
open PySem PySem.Spec PyProof.Rows
def TJ:=Str→L2.St→Hp→VK→Prop
def PJ(X:Cx)(es:List Expr)(t:TJ):Prop:=∀(pins:List (Addr×Obj)) (s:Shared) (σ:St) (H:Hp) (acc:Str) (Q:VK),aH X pins σ H s→t acc σ H Q→wpAny (model X.prog X.w) X.A (joinParts acc (evalEach es X.env)) (EP X pins σ Q) X.xe s
def Bi:TJ:=fun acc σ H Q=>acc.length≤sizeLine∧Q (.str acc) H
def Bj(x:Str)(t:TJ):TJ:=fun acc σ H Q=>(acc++x).length≤sizeLine∧t (acc++x) σ H Q
def Bf(te:TE)(t:TJ):TJ:=fun acc σ H Q=>te σ H fun v H1=>∃i,v=.int i∧i.natAbs.log2 < 1920∧(acc++aP i).length≤sizeLine∧t (acc++aP i) σ H1 Q
def DN(t:TJ):TE:=fun σ H Q=>t Str.empty σ H Q
section
variable {X:Cx} {es:List Expr} {e e1 e2:Expr} {t:TJ} {te:TE} {pos:Pos} {x:Str}
theorem BG:PJ X [] Bi:=fun pins s σ H acc Q I h=>PyProof.Rows.joinParts_nil ⟨.str acc,H,I.tok _,⟨_,rfl⟩,h.2⟩ h.1
theorem x9{j}(ht:PJ X es t):PJ X (.Constant (.str x) j pos::es) (Bj x t):=fun pins s σ H acc Q I h=>by
 show wpAny _ _ (joinParts acc (eval (.Constant (.str x) j pos) X.env::evalEach es X.env)) _ _ s;exact PyProof.Rows.joinParts_cons (Calls.Constant_str ⟨h.1,ht pins _ σ H _ Q (I.tok _) h.2⟩)
theorem x8(he:PE X e te)(ht:PJ X es t):PJ X (.FormattedValue e (-1) none pos::es) (Bf te t):=fun pins s σ H acc Q I h=>by
 show wpAny _ _ (joinParts acc (eval (.FormattedValue e (-1) none pos) X.env::evalEach es X.env)) _ _ s;refine PyProof.Rows.joinParts_cons (PyProof.Rows.FormattedValue_plain (b6 (he pins s σ H _ I h) fun u s1 ⟨v,H1,I1,r1,i,ei,hb,hz,q⟩=>?_));subst ei;obtain⟨tk,rfl⟩:=r1;exact PyProof.Rows.formatField_int_small hb ⟨hz,ht pins _ σ H1 _ Q (I1.tok _) q⟩
theorem zS(h:PJ X (e1::e2::es) t):PE X (.JoinedStr (e1::e2::es) pos) (DN t):=fun pins s σ H Q I q=>PyProof.Rows.JoinedStr_many (h pins s σ H Str.empty Q I q)
theorem PS.nox{st:Stmt}{t:TS}(h:PS X.nox st t):PS X st t:=fun pins s σ H D I hw=>
 wpAny_mono (h pins s σ H D (I.wish _) hw) (fun f s1 q=>SP.unwish q) fun _ _ z=>z.elim
theorem rj:cQ X (inplaceOp .Mult) (rI IntMulOk fun i j=>.int (i * j)):=CO fun _ _ _ _ _ _ _ hc q=>imul_int q hc
end
end L2
namespace L2
open PySem PySem.Spec PyProof.Rows
section
variable {X:Cx} {tg:Expr}
def xw(ta:TA):TI:=fun σ H R=>ta σ H fun vs H1=>∃i j:Int,vs=[.int i,.int j]∧R (yX i (j - i).toNat) H1
end
theorem je.up{P:Program}{w:World}{K:Frag}{mg:Str→Option Value}{base:Heap}{x:Str}{j k:Nat}{ps:List Str}{sp:Sp}(d:je P w K mg base x j ps sp)(h:j≤k):je P w K mg base x k ps sp:=
 let ⟨f,fd,F,r⟩:=d.ex;⟨f,fd,F.mono h,r⟩
theorem jd.up{P:Program}{w:World}{K:Frag}{mg:Str→Option Value}{base:Heap}{x:Str}{C:Addr}{j k:Nat}{ps:List Str}{sp:Sp}{no:List Str}(d:jd P w K mg base x C j ps sp no)(h:j≤k):jd P w K mg base x C k ps sp no:=
 let ⟨f,fd,e,F,r⟩:=d.ex;⟨f,fd,e,F.mono h,r⟩
end L2
namespace L2
open PySem PySem.Spec PyProof.Rows
section
variable {P:Program} {w:World}
abbrev IsC(P:Program)(w:World)(h:Heap)(c:List Int)(a:Addr):Prop:=IsTupleKey (intKind P w) h c a
def A9(P:Program)(w:World)(h:Heap):Option (List Int)→Value→Prop
 | none,v=>v=.none
 | some c,v=>∃a,v=.ref a∧IsC P w h c a
inductive oP(P:Program)(w:World)(h:Heap):List (Option (List Int))→List Value→Prop
 | nil:oP P w h [] []
 | cons {k:Option (List Int)} {v:Value} {ks:List (Option (List Int))} {vs:List Value}:A9 P w h k v→oP P w h ks vs→oP P w h (k::ks) (v::vs)
def DT(P:Program)(w:World)(h:Heap)(ks:List (Option (List Int)))(a:Addr):Prop:=∃o items n,h.get? a=some o∧o.cls=.type "tuple"∧o.data=.seq items n∧oP P w h ks items.toList
variable {h h':Heap}
theorem DT.typeIs{s:Shared}{ks:List (Option (List Int))}{a:Addr}(x:DT P w s.heap ks a):s.TypeIs (.ref a) "tuple":=let ⟨o,_,_,ho,hc,_⟩:=x;⟨o,ho,hc⟩
variable {A:Around} {E:Value→Shared→Prop} {s:Shared}
end
end L2
namespace L2
open PySem PySem.Spec PyProof.Rows
structure KK(P:Program)(w:World)(κ:Type)[DecidableEq κ] where
 knd:HeapKind P w κ
 at_:Hp→κ→Addr→Prop
 same:∀{H H':Hp} {k:κ} {a:Addr},au H H'→at_ H k a→at_ H' k a
 upd_:∀{H:Hp} {k:κ} {a z:Addr} {o:HO},at_ H k a→(∀vs,H z≠some (.tup vs))→at_ (upd H z o) k a
 is_:∀{H:Hp} {h:Heap} {k:κ} {a:Addr},iB P w H h→at_ H k a→knd.is h k a
 room:∀{A:Around},A.units+2 < cLine→knd.room A.in1
def DC{κ:Type}(x:κ×Addr×V)(y:κ×Addr×Value):Prop:=x.1=y.1∧x.2.1=y.2.1∧aN x.2.2 y.2.2
section
variable {P:Program} {w:World} {κ:Type} [DecidableEq κ] (kk:KK P w κ)
def dO(d:Addr)(xs:List (κ×Addr×V)):HO:=.ext fun h=>(d == sysModules)=false∧∃o es ep ys,h.get? d=some o∧o.ExactDict∧o.data=.dict es ep∧es.toList=ys.map (entryOfKey kk.knd)∧Paired DC xs ys
structure jf(H:Hp)(d:Addr)(xs:List (κ×Addr×V)):Prop where
 ob:H d=some (dO kk d xs)
 ks:∀x∈xs,kk.at_ H x.1 x.2.1
 nd:(xs.map (·.1)).Nodup
 sz:xs.length≤100000
def m7(xs:List (κ×Addr×V))(k:κ):Option V:=(xs.find? fun x=>decide (x.1=k)).map (·.2.2)
def jC(xs:List (κ×Addr×V))(k:κ)(a:Addr)(v:V):List (κ×Addr×V):=if (m7 xs k).isSome then xs.map (fun x=>if x.1=k then(x.1,x.2.1,v)else x)else xs++[(k,a,v)]
variable {kk}
variable {X:Cx} {pins:List (Addr×Obj)} {σ:St} {H:Hp} {s:Shared} {d a:Addr} {xs:List (κ×Addr×V)} {k:κ} {A:Around} {E:Value→Shared→Prop}
variable {kk':KK X.prog X.w κ}
end
section
variable {P:Program} {w:World} {κ:Type} [DecidableEq κ] {kk:KK P w κ} {H:Hp} {d a:Addr} {xs:List (κ×Addr×V)} {k:κ} {v:V}
theorem vU:(jC xs k a v).map (·.1)=if (m7 xs k).isSome then xs.map (·.1)else xs.map (·.1)++[k]:=by
 unfold jC
 split
 ·rw [aj7]
  refine aj3 fun x _=>?_;show(if x.1=k then(x.1,x.2.1,v)else x).1=x.1
  split<;>rfl
 ·rw [ab8];rfl
theorem oX(h:m7 xs k=none):k∉xs.map (·.1):=by
 intro hm;obtain⟨x,hx,rfl⟩:=ac4.mp hm;unfold m7 at h
 cases e:xs.find? fun y=>decide (y.1=x.1)with
 | none=>exact absurd (List.find?_eq_none.mp e x hx) (by simp)
 | some y=>rw [e]at h;cases h
theorem jf.put(D:jf kk H d xs)(hk:kk.at_ H k a)(hl:xs.length < 100000):jf kk (upd H d (dO kk d (jC xs k a v))) d (jC xs k a v):=by
 have nt:∀vs,H d≠some (.tup vs):=fun vs e=>by rw [D.ob]at e;cases e
 refine⟨ae,fun x hx=>?_,?_,?_⟩
 ·refine kk.upd_ ?_ nt
  unfold jC at hx
  split at hx
  ·obtain⟨y,hy,rfl⟩:=ac4.mp hx
   have:=D.ks y hy
   show kk.at_ H (if y.1=k then(y.1,y.2.1,v)else y).1 (if y.1=k then(y.1,y.2.1,v)else y).2.1
   split<;>exact this
  ·rcases ac3.mp hx with hx | hx
   ·exact D.ks x hx
   ·rw [ac9.mp hx];exact hk
 ·rw [vU]
  cases e:m7 xs k with
  | none=>
   show(xs.map (·.1)++[k]).Nodup
   refine List.nodup_append.mpr ⟨D.nd,by simp,fun x hx y hy=>?_⟩;rw [ac9.mp hy];rintro rfl;exact oX e hx
  | some z=>exact D.nd
 ·unfold jC
  split
  ·rw [aa0];omega
  ·rw [ab2];simp;omega
theorem jf.upd{z:Addr}{o:HO}(D:jf kk H d xs)(hz:d≠z)(nt:∀vs,H z≠some (.tup vs)):jf kk (upd H z o) d xs:=⟨by rw [aj hz];exact D.ob,fun x hx=>kk.upd_ (D.ks x hx) nt,D.nd,D.sz⟩
theorem iK:m7 (jC xs k a v) k=some v:=by
 unfold jC
 cases e:m7 xs k with
 | none=>
  show m7 (xs++[(k,a,v)]) k=some v;unfold m7 at e ⊢;rw [List.find?_append]
  cases e2:xs.find? fun x=>decide (x.1=k)with
  | some y=>rw [e2]at e;cases e
  | none=>simp
 | some z=>
  show m7 (xs.map _) k=some v;have e0:=e;unfold m7 at e0 ⊢;rw [List.find?_map]
  have hf:(fun x:κ×Addr×V=>decide (x.1=k))∘(fun x=>if x.1=k then(x.1,x.2.1,v)else x)=fun x=>decide (x.1=k):=by
   funext x
   show decide ((if x.1=k then(x.1,x.2.1,v)else x).1=k)=decide (x.1=k)
   split<;>rfl
  rw [hf]
  cases e2:xs.find? fun x=>decide (x.1=k)with
  | none=>rw [e2]at e0;cases e0
  | some y=>
   have:y.1=k:=by have:=List.find?_some e2;simpa using this
   show some ((if y.1=k then(y.1,y.2.1,v)else y).2.2)=some v;rw [if_pos this]
theorem fg{k':κ}(h:k'≠k):m7 (jC xs k a v) k'=m7 xs k':=by
 unfold jC
 split
 ·unfold m7
  rw [List.find?_map]
  have hf:(fun x:κ×Addr×V=>decide (x.1=k'))∘(fun x=>if x.1=k then(x.1,x.2.1,v)else x)=fun x=>decide (x.1=k'):=by
   funext x
   show decide ((if x.1=k then(x.1,x.2.1,v)else x).1=k')=decide (x.1=k')
   split<;>rfl
  rw [hf]
  cases e2:xs.find? fun x=>decide (x.1=k')with
  | none=>rfl
  | some y=>
   have hy:y.1=k':=by have:=List.find?_some e2;simpa using this
   show some ((if y.1=k then(y.1,y.2.1,v)else y).2.2)=some y.2.2;rw [if_neg (by rw [hy];exact h)]
 ·unfold m7
  rw [List.find?_append]
  cases e2:xs.find? fun x=>decide (x.1=k')with
  | some y=>rfl
  | none=>
   have:decide (k=k')=false:=decide_eq_false (fun z=>h z.symm)
   simp [this]
end
end L2
namespace L2
open PySem PySem.Spec PyProof.Rows
def C6:List (Option Int)→Option (List Int)
 | []=>some []
 | none::_=>none
 | some x::l=>(C6 l).map (x::·)
def DL(Ss:List wD)(ms:List Int)(b:Option (List Int))(c:List Int):List (Option Int):=List.zipWith (fun S m=>S.after m b c) Ss ms
def vG(Ss:List wD)(ms:List Int)(b:Option (List Int))(c:List Int):Option (List Int):=C6 (DL Ss ms b c)
abbrev MS:=Option (List Int)×List Int
def uF(Ss:List wD)(s:MS)(c:List Int):Option MS:=(vG Ss s.2 s.1 c).map fun ms=>(some c,ms)
def gZ(s:MS):List (Option (List Int)):=[s.1,some s.2]
theorem vB{s t:MS}(h:gZ s=gZ t):s=t:=by
 obtain⟨a,b⟩:=s;obtain⟨c,d⟩:=t;unfold gZ at h;simp at h;rw [h.1,h.2]
def sF(Ss:List wD)(cols:List (List Int))(met:List MS)(s:MS)(xs:List (List Int×Addr×V)):Prop:=
 (∀c∈cols,∀s',uF Ss s c=some s'→∃j:Nat,met[j]?=some s'∧m7 xs c=some (.int j))∧(∀c,(c∈cols→uF Ss s c=none)→m7 xs c=none)∧xs.map (·.1)=cols.filter fun c=>(uF Ss s c).isSome
theorem sF.put{Ss:List wD}{cols:List (List Int)}{met:List MS}{s s':MS}{xs:List (List Int×Addr×V)}{i j:Nat}{c:List Int}{a:Addr}(h:sF Ss (cols.take i) met s xs)(hc:cols[i]?=some c)(hn:uF Ss s c=some s')(hj:met[j]?=some s')(hnd:cols.Nodup):sF Ss (cols.take (i+1)) met s (jC xs c a (.int j)):=by
 have et:cols.take (i+1)=cols.take i++[c]:=by rw [ac8,hc];rfl
 rw [et]
 have hct:c∉cols.take i:=fun hm=>by
  obtain⟨k,hk⟩:=List.getElem?_of_mem hm
  have hki:k < i:=by
   have:=(aa4.mp hk).1
   rw [ac5]at this;omega
  rw [List.getElem?_take,if_pos hki]at hk;obtain⟨k1,k2⟩:=aa4.mp hk;obtain⟨i1,i2⟩:=aa4.mp hc
  have:=(List.getElem_inj hnd).mp (k2.trans i2.symm)
  omega
 refine⟨?_,?_,?_⟩
 rotate_left
 rotate_left
 ·have h0:=h.2.1 c fun hm=>absurd hm hct
  unfold jC;rw [h0,List.filter_append,←h.2.2];simp [hn]
 ·intro c' hc' t ht
  by_cases e:c'=c
  ·subst e
   rw [hn]at ht;cases ht;exact⟨j,hj,iK⟩
  ·rcases ac3.mp hc' with hc' | hc'
   ·rw [fg e]
    exact h.1 c' hc' t ht
   ·exact absurd (ac9.mp hc') e
 ·intro c' hc'
  have e:c'≠c:=fun e=>by
   have:=hc' (by rw [e];simp)
   rw [e,hn]at this;cases this
  rw [fg e];exact h.2.1 c' fun hm=>hc' (by simp [hm])
def qJ(met:List MS)(xs:List (List (Option (List Int))×Addr×V)):Prop:=(∀(j:Nat) (s:MS),met[j]?=some s→m7 xs (gZ s)=some (.int j))∧∀k,m7 xs k≠none→∃s∈met,k=gZ s
theorem qJ.fresh{met:List MS}{xs:List (List (Option (List Int))×Addr×V)}{s:MS}(h:qJ met xs)(e:m7 xs (gZ s)=none):s∉met:=fun hs=>by
 obtain⟨j,hj⟩:=List.getElem?_of_mem hs;rw [h.1 j s hj]at e;cases e
theorem qJ.put{met:List MS}{xs:List (List (Option (List Int))×Addr×V)}{s:MS}{a:Addr}(h:qJ met xs)(hs:s∉met):qJ (met++[s]) (jC xs (gZ s) a (.int met.length)):=by
 constructor
 ·intro j t ht
  by_cases hj:j < met.length
  ·rw [ad6 hj]at ht
   have hne:gZ t≠gZ s:=fun e=>hs (by rw [←vB e];exact ac7 ht);rw [fg hne];exact h.1 j t ht
  ·rw [ad0 (by omega)]at ht
   have h0:j - met.length=0:=by
    have:=(aa4.mp ht).1
    simp at this;omega
   rw [h0]at ht;cases ht;rw [iK,show j=met.length by omega]
 ·intro k hk
  by_cases e:k=gZ s
  ·exact⟨s,by simp,e⟩
  ·rw [fg e]at hk
   obtain⟨t,ht,e2⟩:=h.2 k hk;exact⟨t,by simp [ht],e2⟩
end L2
namespace L2
open PySem PySem.Spec PyProof.Rows
section
variable {P:Program} {w:World} {A:Around} {E:Value→Shared→Prop} {it d:Addr} {es:Array DictEntry} {ep i:Nat}
end
section
variable {P:Program} {w:World} {A:Around} {E:Value→Shared→Prop} {d:Addr} {es:Array DictEntry} {ep:Nat}
end
section
variable {P:Program} {w:World} {κ:Type} [DecidableEq κ] {X:Cx}
variable {kk':KK X.prog X.w κ}
end
end L2
namespace L2
open PySem PySem.Spec PyProof.Rows
section
variable {X:Cx} {tg:Expr}
end
section
variable {P:Program} {w:World} {A:Around} {E:Value→Shared→Prop} {s:Shared} {r l:Addr} {items:Array Value}
end
section
variable {X:Cx}
end
end L2
namespace L2
open PySem PySem.Spec PyProof.Rows
end L2
namespace L2
open PySem PySem.Spec PyProof.Rows
section
variable {X:Cx} {k j:Nat} {f B C fI L:Addr} {fd:FuncData} {ps qs:List Str} {sp sq:Sp} {no:List Str} {x y n r:Str} {p pos cpos np hpos rp rn apos spos:Pos} {e:Expr} {es:List Expr} {t:TA} {ie ir:Nat}
end
theorem je.calm{P:Program}{w:World}{K:Frag}{mg:Str→Option Value}{base:Heap}{x:Str}{k:Nat}{ps:List Str}{sp sp':Sp}(d:je P w K mg base x k ps sp)(h:∀vs H Q E,sp' vs H Q E→sp vs H Q fun _ _ _=>False):cn P w K mg base x k ps sp':=by
 obtain⟨f,fd,F,hm,hk,hb⟩:=d.ex;refine⟨f,fd,⟨fun vs H Q E q=>F.len vs H Q _ (h _ _ _ _ q),fun A outer s H args us vs Q E hr he hb hv hs=>codeAny_mono (F.run A outer s H args us vs Q _ hr he hb hv (h _ _ _ _ hs)) fun r s' hq=>?_⟩,hm,hk,hb⟩
 cases r with
 | error e=>
  obtain⟨a,C,d,fs,T,H',_,_,_,_,_,_,_,_,_,_,z⟩:=(show my P w outer H s (fun _ _ _=>False) e s' from hq);exact z.elim
 | ok fl=>cases fl<;>exact hq
theorem exm_own{K:Frag}{t:Value}{c:Addr}{b:Bool}(h0:PySem.W.subIn K (.ref c) (.type "BaseException")=some true)(h1:PySem.W.isClsIn K c=true)(h2:PySem.W.typeIn K (.ref c)=some (.type "type"))(h3:PySem.W.subIn K t (.ref c)=some b):exmOne K t (.ref c)=some b:=by
 unfold exmOne PySem.W.kitCls;have h1:(PySem.W.clsIn K c).isSome=true:=h1;rw [h0];simp only [h1,h2,beq_self_eq_true,Bool.and_self,if_true];exact h3
end L2
namespace L3
open PySem PySem.Spec PyProof.Rows
section
variable {prog:Program} {w:World} {A:Around} {E:Value→Shared→Prop} {s:Shared} {e z TI TO i1 i2:Addr} {f1 f2:List Addr} {n1 n2 k:Nat} {P1 P2:Nat→Value→Prop} {S1 S2:Nat→Heap→Prop} {a b old:Value}
end
end L3
namespace L2
open PySem PySem.Spec PyProof.Rows
end L2
namespace L2
open PySem PySem.Spec PyProof.Rows
end L2
namespace L2
open PySem PySem.Spec PyProof.Rows
abbrev Dl:=VK→XK→St→Hp→Prop
abbrev TX:=eG→XK→St→Hp→Prop
def DV(X:Cx)(e:Expr)(t:Dl):Prop:=
 ∀(pins:List (Addr×Obj)) (s:Shared) (σ:St) (H:Hp) (Q:VK) (E:XK),aH X pins σ H s→t Q E σ H→wpAny (model X.prog X.w) X.A (eval e X.env) (EP X pins σ Q) (ug X pins σ E) s
def PX(X:Cx)(st:Stmt)(t:TX):Prop:=
 ∀(pins:List (Addr×Obj)) (s:Shared) (σ:St) (H:Hp) (D:eG) (E:XK),aH X pins σ H s→t D E σ H→wpAny (model X.prog X.w) X.A (exec st X.env) (SP X pins D) (ug X pins σ E) s
section
variable {X:Cx} {k:Nat} {ps ks:List Str} {sp:Sp} {x v:Str} {p pos vp cpos:Pos} {e c:Expr} {es:List Expr} {kws:List Keyword} {t:TA} {tk:TA} {dvs:List V} {gV:List V→List V→List V} {iv:Nat}
def uc(sp:Sp)(dvs:List V)(t:TA):Dl:=fun Q E σ H=>t σ H fun vs H1=>sp (vs++dvs) H1 Q E
def Dh(iv:Nat)(t:Dl):TX:=fun D E σ H=>t (fun u H2=>D.nx (σ.set iv (some u)) H2) E σ H
theorem BJ{te:Dl}(hN:X.N.Nodup)(hv:X.N[iv]?=some v)(hvl:AU X.env.scope v)(hfnv:X.fn v=true∨X.env.scope.names.lookup v=some .local)(he:DV X e te)
  (hs1:swapsWith e (some (.Name v vp)) pos.line X.env=pure false:=by rfl):PX X (.Assign [.Name v vp] e pos) (Dh iv te):=by
 intro pins s σ H D E I h;refine wpAny_Assign_Name (wpAny_mono (he pins s σ H _ E I h) (fun u s1 ⟨w,H1,I1,r1,q1⟩=>?_) fun _ _ z=>z) hs1;exact gs I1 hN hv hvl r1 (fun s2 I2=>⟨_,H1,I2,q1⟩) hfnv
end
section
variable {X:Cx} {B C L:Addr} {y n r:Str} {pos np hpos rp rn spos:Pos} {st:Stmt} {t:TX} {ie ir:Nat}
end
end L2
namespace L2
open PySem PySem.Spec PyProof.Rows
theorem nk{X:Cx}(hc:X.calm=true)(K:Frag)(hK:X.K=K:=by rfl):bT X (.builtin "min") (fun xs H Q=>∃p ns,xs=[.ref p]∧aV K H p (List.map V.int ns)∧ns≠[]∧∀i∈ns,(∀j∈ns,i≤j)→Q (.int i) H):=by
 subst hK;intro pins s σ H xs us Q I r h;obtain⟨p,ns,rfl,hp,hne,q⟩:=h;obtain⟨u,rfl,ru⟩:=d2 r;cases ru;obtain⟨its,rv,ht,_⟩:=I.list hp;obtain⟨ps,e1,e2⟩:=g6 rv
 have hl:s.heap.IsList p (intItems ps.toArray):=by
  have:=ht.isList
  rw [e1]at this;simpa [intItems]using this
 have hpn:ps.length=ns.length:=by rw [←e2,aa0]
 have hn0:ns.length≠0:=fun z=>hne (af2.mp z);refine min_intList (I.ok.hd hc) hl (by rw [aa3];omega) fun v h' tk hv hk=>?_;have hb:=argBest_lt (numAt ps.toArray) (ps.toArray.size - 1);generalize argBest (fun i j=>decide (numAt ps.toArray i < numAt ps.toArray j)) (ps.toArray.size - 1)=b at hv hb;simp only [intItems,List.map_toArray,List.getElem?_toArray,ac2,Option.map_eq_some_iff]at hv;obtain⟨⟨a,t⟩,ha,rfl⟩:=hv
 have hnum:∀(i:Nat) (z:Int×Tok),ps[i]?=some z→numAt ps.toArray i=z.1:=fun i z e=>by simp [numAt,e]
 refine⟨.int a,H,I.kept (t':=tk) fun b o e=>hk b o e,⟨t,rfl⟩,q a ?_ fun j hj=>?_⟩
 ·rw [←e2]
  exact List.mem_map_of_mem (f:=fun p:Int×Tok=>p.1) (ac7 ha)
 ·rw [←e2]at hj
  obtain⟨z,hz,rfl⟩:=ac4.mp hj;obtain⟨i,hi⟩:=List.mem_iff_getElem?.mp hz;have h1:=hb.2 i (by have:=(aa4.mp hi).1;rw [aa3];omega);rw [hnum _ _ hi,hnum _ _ ha]at h1;exact h1
end L2
namespace L2
open PySem PySem.Spec PyProof.Rows
section
variable {X:Cx}
end
end L2
namespace L2
open PySem PySem.Spec PyProof.Rows
end L2
namespace L2
open PySem PySem.Spec PyProof.Rows
abbrev TH:=eG→Addr→Addr→Addr→St→Hp→Prop
def PH(X:Cx)(hs:List ExceptHandler)(th:TH):Prop:=
 ∀(pins:List (Addr×Obj)) (s:Shared) (σ:St) (H:Hp) (a C C' d d':Addr) (fs:List (Str×V)) (T:Addr) (D:eG),ff X pins σ H s a C' d' fs [T]→H a=some (XO C d a)→th D C a d σ H→wpAny (model X.prog X.w) X.A (handleBy (.ref a) X.env hs) (SP X pins D) X.xe s
def u0:TH:=fun _ _ _ _ _ _=>False
section
variable {X:Cx}
theorem BE:PH X [] u0:=fun _ _ _ _ _ _ _ _ _ _ _ _ _ _ z=>z.elim
def uv(ie:Nat)(D:eG):eG:={ nx:=fun σ' H'=>D.nx (σ'.set ie none) H',rt:=fun _ _=>False,bk:=fun _ _=>False,ct:=fun _ _=>False }
def AQ(K:Frag)(ie:Nat)(B:Addr)(tb:TS)(tr:TH):TH:=fun D C a d σ H=>∃b,exmOne K (.ref C) (.ref B)=some b∧if b=true then tb (uv ie D) (σ.set ie (some (.ref a))) H else tr D C a d σ H
theorem uL{B:Addr}{ie:Nat}{y n:Str}{np hpos:Pos}{b0:Stmt}{body:List Stmt}{rest:List ExceptHandler}{tb:TS}{tr:TH}(K:Frag)(hgC:Gl X y)(hmC:∃u,X.mg y=some u∧aN (.ref B) u)(hN:X.N.Nodup)(hn:X.N[ie]?=some n)(hnl:X.env.scope.names.lookup n=some .local)
  (hb:∀a,sC (X.held (.ref a) fun _ _=>False) (b0::body) tb) (hr:PH X rest tr) (hdy:(y == ("__debug__":Str))=false:=by decide) (hK:X.K=K:=by rfl):PH X (.ExceptHandler (some (.Name y np)) (some n) (b0::body) hpos::rest) (AQ K ie B tb tr):=by
 subst hK;obtain⟨uB,hmB,rB⟩:=hmC;cases(show uB=Value.ref B from rB);intro pins s σ H a C C' d d' fs T D t2 hx' ⟨b,hxm,q⟩;obtain⟨oe,vs,oe1,oe2,_,_⟩:=XO.of (t2.inv.hok a _ hx');refine wpAny_handleBy_cons (codeAny_handlers_test (Calls.Name_function_global t2.inv.ok.kind hgC (Calls.loadGlobal_global (by rw [t2.inv.ok.glob];exact t2.inv.mod.glob.keeps t2.inv.bk) hmB ?_) hdy)) (by intro q;cases q);refine(PySem.W.exm_one (M:=model X.prog X.w) t2.inv.kIn (oe2▸(PySem.W.Looks.ld oe1).andThen .now) hxm).at ?_
 cases b with
 | false=>exact hr pins _ σ H a C C' d d' fs T D t2 hx' q
 | true=>
  have q:tb (uv ie D) (σ.set ie (some (.ref a))) H:=q;refine codeAny_handlers_suite_as ?_;refine t2.land fun h3 t3=>?_;refine gs t3.inv hN hn (.inl hnl) (v:=.ref a) rfl (fun s4 I4=>?_) (.inr hnl);refine wpAny_mono (hb a pins s4 _ H (uv ie D) (I4.held _ _) q) (fun f s5 q5=>?_) fun _ _ z=>z.elim
  cases f with
  | next=>
   obtain⟨σ5,H5,I5,q5⟩:=q5;exact vt (I5.unheld t2.inv.ok) hN hn hnl fun s7 I7=>⟨_,_,I7,q5⟩
  | brk=>obtain⟨_,_,_,z⟩:=q5;exact z.elim
  | cont=>obtain⟨_,_,_,z⟩:=q5;exact z.elim
  | ret u=>obtain⟨_,_,_,_,_,z⟩:=q5;exact z.elim
def AS(t:TX)(th:TH):TS:=fun D σ H=>t D (fun x _ H2=>∃C a d,x=.ref a∧H2 a=some (XO C d a)∧th D C a d σ H2) σ H
theorem zW{L:Addr}{st:Stmt}{h0:ExceptHandler}{hs:List ExceptHandler}{t:TX}{th:TH}{pos:Pos}(hst:X.stack=X.env::X.outer)(hfr:X.env.frame=some L)(hb:PX X st t)(hh:PH X (h0::hs) th):PS X (.Try [st] (h0::hs) [] [] pos) (AS t th):=by
 intro pins s σ H D I h;refine wpAny_Try_except ?_;refine wpAny_execs_cons (wpAny_mono (hb pins s σ H D _ I h) (fun f s1 q1=>?_) fun e1 s1 t1=>?_)
 ·cases f with
  | next=>exact wpAny_execs_nil (wpAny_execs_nil q1)
  | brk=>exact q1
  | cont=>exact q1
  | ret u=>exact q1
 obtain⟨H2,a,C',d',fs,ts,rfl,tS,C,a',d,e',hx',qD⟩:=t1;cases e';refine tS.note hst hfr I.ok.frames fun h1 T1 t1=>?_;refine t1.land fun h2 t2=>?_;exact hh pins _ σ H2 a C C' d d' fs T1 D t2 hx' qD
theorem zX{k:Nat}{ps:List Str}{sp:Sp}{x:Str}{p cpos:Pos}{e:Expr}{es:List Expr}{t:TA}(d:je X.prog X.w X.K X.mg X.base x k ps sp)(hr:cD k X.A)(hg:Gl X x)(ha:PA X.nox (e::es) t)(hdb:(x == ("__debug__":Str))=false:=by decide)
  (he:starEach (e::es) X.env=(false,eval e X.env)::starEach es X.env:=by rfl) (hpl:(backTo cpos (starEach es X.env)).any (·.1)=false:=by rfl):DV X (.Call (.Name x p) (e::es) [] cpos) (uc sp [] t):=by
 obtain⟨f,fd,F,hm,hk,hb⟩:=d.ex;intro pins s σ H Q E I h;exact zf (pos:=cpos) (p:=p) F hr hg hm hk hb ha I (by unfold uc at h;simpa using h) hdb he hpl
def uP:V→List V→Hp→VK→Prop:=fun x vs H Q=>∃l xs i y,x=.ref l∧vs=[.int i,y]∧H l=some (.lst xs)∧0≤i∧i≤xs.length∧xs.length < sizeLine∧Q .non (upd H l (.lst (xs.take i.toNat++y::xs.drop i.toNat)))
theorem we{xs:List V}{us:List Value}(r:aR xs us)(k:Nat):aR (xs.take k) (us.take k):=by
 induction r generalizing k with
 | nil=>simp;exact .nil
 | cons h t ih=>
  cases k with
  | zero=>exact .nil
  | succ k=>exact .cons h (ih k)
theorem wd{xs:List V}{us:List Value}(r:aR xs us)(k:Nat):aR (xs.drop k) (us.drop k):=by
 induction r generalizing k with
 | nil=>simp;exact .nil
 | cons h t ih=>
  cases k with
  | zero=>exact .cons h t
  | succ k=>exact ih k
theorem jy:DB X "list.insert" uP:=by
 intro pins s σ H x vs v us Q I rx rv h;obtain⟨l,xs,i,y,rfl,rfl,hH,i0,i1,hz,q⟩:=h;cases rx;obtain⟨u1,u,rfl,r1,ru⟩:=mw rv;obtain⟨t,rfl⟩:=r1;obtain⟨z,its,n,r,hl,e⟩:=I.lstM hH;have hs:sizeLine=16777216:=sizeLine_eq;refine call_meets F.slot_list_insert ⟨_,e,rfl⟩ F.entry_list_insert (F.args_list_insert_3 _ _ _) (AutoSeq1.list_insert_list_int_val_1 l its.toArray n i t u (by rw [fitsIndex_both (by omega) (by omega)];decide) (by rw [aa3];omega)) ⟨e,?_⟩;refine⟨.non,_,I.lset (its':=its.take i.toNat++u::its.drop i.toNat) hH e ?_ ((we r _).append (.cons ru (wd r _))) ?_,rfl,q⟩
 ·show(its.toArray.extract 0 (if i < 0 then(i+(its.toArray.size:Int)).toNat else min i.toNat its.toArray.size)).push u++its.toArray.extract (if i < 0 then(i+(its.toArray.size:Int)).toNat else min i.toNat its.toArray.size)=_
  rw [if_neg (by omega),aa3,aj1 (by omega)];simp;exact ag5 (by rw [ae9];omega)
 ·rw [ab2,aa6,ac5,ae9]
  omega
end
end L2
seal PySem.wpAny
namespace K22
open PySem PyProof.Rows L2
def dM(i:Nat):Stmt:=PySem.Challenge.pw_fourvoices_k22_rows_refused.main.body.getD i (.Pass ⟨0,0,0,0⟩)
abbrev di:Stmt:=bL (dM 3) 0
theorem iz:ay ["self","row"] ["self","row"] (aq di):=⟨rfl,rfl,rfl,by decide +kernel,rfl,by decide +kernel,by decide +kernel⟩
abbrev dU:Stmt:=bL (dM 16) 0
theorem jJ:ay ["self","row"] ["self","row"] (aq dU):=⟨rfl,rfl,rfl,by decide +kernel,rfl,by decide +kernel,by decide +kernel⟩
abbrev cc:Stmt:=bL (dM 16) 1
theorem p9:ay ["self"] ["self"] (aq cc):=⟨rfl,rfl,rfl,by decide +kernel,rfl,by decide +kernel,by decide +kernel⟩
abbrev bw:Stmt:=bL (dM 16) 5
theorem mT:ay ["self"] ["self"] (aq bw):=⟨rfl,rfl,rfl,by decide +kernel,rfl,by decide +kernel,by decide +kernel⟩
abbrev dW:Stmt:=bL (dM 17) 0
theorem jK:ay ["self","row","first","second","numbers"] ["self","row","first","second","numbers"] (aq dW):=⟨rfl,rfl,rfl,by decide +kernel,rfl,by decide +kernel,by decide +kernel⟩
abbrev dD:Stmt:=bL (dM 18) 0
theorem iZ:ay ["self","row","first","second","hours","numbers"] ["self","row","first","second","hours","numbers"] (aq dD):=⟨rfl,rfl,rfl,by decide +kernel,rfl,by decide +kernel,by decide +kernel⟩
abbrev dC:Stmt:=bL (dM 19) 0
theorem iY:ay ["self","row","voice","notes"] ["self","row","voice","notes"] (aq dC):=⟨rfl,rfl,rfl,by decide +kernel,rfl,by decide +kernel,by decide +kernel⟩
abbrev dE:Stmt:=bL (dM 20) 0
theorem i3:ay ["self","row","voice","notes"] ["self","row","voice","notes"] (aq dE):=⟨rfl,rfl,rfl,by decide +kernel,rfl,by decide +kernel,by decide +kernel⟩
abbrev dR:Stmt:=bL (dM 22) 0
theorem jG:ay ["self","row","voice","most"] ["self","row","voice","most"] (aq dR):=⟨rfl,rfl,rfl,by decide +kernel,rfl,by decide +kernel,by decide +kernel⟩
abbrev gg:Stmt:=bL (dM 22) 1
theorem p8:ay ["self"] ["self"] (aq gg):=⟨rfl,rfl,rfl,by decide +kernel,rfl,by decide +kernel,by decide +kernel⟩
abbrev dH:Stmt:=bL (dM 23) 0
theorem i6:ay ["self","row","voice","note","fewest","most"] ["self","row","voice","note","fewest","most"] (aq dH):=⟨rfl,rfl,rfl,by decide +kernel,rfl,by decide +kernel,by decide +kernel⟩
abbrev fv:Stmt:=bL (dM 23) 1
theorem mU:ay ["self"] ["self"] (aq fv):=⟨rfl,rfl,rfl,by decide +kernel,rfl,by decide +kernel,by decide +kernel⟩
abbrev dF:Stmt:=bL (dM 24) 0
theorem i4:ay ["self","row","turns","turn","inner"] ["self","row","turns","turn","inner"] (aq dF):=⟨rfl,rfl,rfl,by decide +kernel,rfl,by decide +kernel,by decide +kernel⟩
abbrev fu:Stmt:=bL (dM 24) 1
theorem mS:ay ["self"] ["self"] (aq fu):=⟨rfl,rfl,rfl,by decide +kernel,rfl,by decide +kernel,by decide +kernel⟩
abbrev dS:Stmt:=bL (dM 26) 0
theorem jH:ay ["self","row","voice","numbers"] ["self","row","voice","numbers"] (aq dS):=⟨rfl,rfl,rfl,by decide +kernel,rfl,by decide +kernel,by decide +kernel⟩
abbrev dB:Stmt:=bL (dM 27) 0
theorem iX:ay ["self","row","first","second","numbers"] ["self","row","first","second","numbers"] (aq dB):=⟨rfl,rfl,rfl,by decide +kernel,rfl,by decide +kernel,by decide +kernel⟩
abbrev dQ:Stmt:=bL (dM 28) 0
theorem jF:ay ["self","row","voice","widest"] ["self","row","voice","widest"] (aq dQ):=⟨rfl,rfl,rfl,by decide +kernel,rfl,by decide +kernel,by decide +kernel⟩
abbrev gf:Stmt:=bL (dM 28) 1
theorem p7:ay ["self"] ["self"] (aq gf):=⟨rfl,rfl,rfl,by decide +kernel,rfl,by decide +kernel,by decide +kernel⟩
abbrev gh:Stmt:=dM 32
theorem sc_is_number:ay ["word","figures"] ["word"] (aq gh):=⟨rfl,rfl,rfl,by decide +kernel,rfl,by decide +kernel,by decide +kernel⟩
abbrev fA:Stmt:=dM 36
theorem mV:ay ["numbers","voices"] ["numbers","voices"] (aq fA):=⟨rfl,rfl,rfl,by decide +kernel,rfl,by decide +kernel,by decide +kernel⟩
abbrev iq:Stmt:=dM 37
theorem r6:ay ["numbers","ahead"] ["numbers","ahead"] (aq iq):=⟨rfl,rfl,rfl,by decide +kernel,rfl,by decide +kernel,by decide +kernel⟩
abbrev gT:Stmt:=dM 38
theorem ma:ay ["row","numbers","voices"] ["row","numbers","voices"] (aq gT):=⟨rfl,rfl,rfl,by decide +kernel,rfl,by decide +kernel,by decide +kernel⟩
abbrev fC:Stmt:=dM 39
theorem j7:ay ["row","numbers","voices"] ["row","numbers","voices"] (aq fC):=⟨rfl,rfl,rfl,by decide +kernel,rfl,by decide +kernel,by decide +kernel⟩
abbrev gR:Stmt:=dM 40
theorem l9:ay ["row","numbers","voices"] ["row","numbers","voices"] (aq gR):=⟨rfl,rfl,rfl,by decide +kernel,rfl,by decide +kernel,by decide +kernel⟩
abbrev fw:Stmt:=dM 41
theorem j5:ay ["row","numbers","voices"] ["row","numbers","voices"] (aq fw):=⟨rfl,rfl,rfl,by decide +kernel,rfl,by decide +kernel,by decide +kernel⟩
abbrev gP:Stmt:=dM 42
theorem l7:ay ["row","numbers","voices"] ["row","numbers","voices"] (aq gP):=⟨rfl,rfl,rfl,by decide +kernel,rfl,by decide +kernel,by decide +kernel⟩
abbrev gQ:Stmt:=dM 43
theorem l8:ay ["row","numbers","voices"] ["row","numbers","voices"] (aq gQ):=⟨rfl,rfl,rfl,by decide +kernel,rfl,by decide +kernel,by decide +kernel⟩
abbrev fJ:Stmt:=dM 44
theorem j9:ay ["row","numbers","voices"] ["row","numbers","voices"] (aq fJ):=⟨rfl,rfl,rfl,by decide +kernel,rfl,by decide +kernel,by decide +kernel⟩
abbrev fB:Stmt:=dM 45
theorem j6:ay ["row","numbers","voices"] ["row","numbers","voices"] (aq fB):=⟨rfl,rfl,rfl,by decide +kernel,rfl,by decide +kernel,by decide +kernel⟩
abbrev fE:Stmt:=dM 46
theorem j8:ay ["row","numbers","voices"] ["row","numbers","voices"] (aq fE):=⟨rfl,rfl,rfl,by decide +kernel,rfl,by decide +kernel,by decide +kernel⟩
abbrev fH:Stmt:=dM 48
theorem sc_plain_rule:ay ["row","voices","words"] ["row","voices"] (aq fH):=⟨rfl,rfl,rfl,by decide +kernel,rfl,by decide +kernel,by decide +kernel⟩
abbrev fF:Stmt:=dM 49
theorem sc_every_rule:ay ["row","voices","words","turns","turn","inner"] ["row","voices"] (aq fF):=⟨rfl,rfl,rfl,by decide +kernel,rfl,by decide +kernel,by decide +kernel⟩
abbrev gk:Stmt:=dM 50
theorem sc_read_rule:ay ["text","voices","row","rule"] ["text","voices","row"] (aq gk):=⟨rfl,rfl,rfl,by decide +kernel,rfl,by decide +kernel,by decide +kernel⟩
abbrev dG:Stmt:=bL (dM 53) 0
theorem i5:ay ["self","ranges","rules"] ["self","ranges","rules"] (aq dG):=⟨rfl,rfl,rfl,by decide +kernel,rfl,by decide +kernel,by decide +kernel⟩
abbrev l6:Stmt:=dM 54
theorem sc_weight:ay ["score","told","low","high","rule"] ["score"] (aq l6):=⟨rfl,rfl,rfl,by decide +kernel,rfl,by decide +kernel,by decide +kernel⟩
abbrev eD:Stmt:=dM 55
theorem sc_not_too_wide:ay ["score","told"] ["score"] (aq eD):=⟨rfl,rfl,rfl,by decide +kernel,rfl,by decide +kernel,by decide +kernel⟩
abbrev cY:Stmt:=bL (dM 5) 0
theorem gU:ay ["self","weight"] ["self","weight"] (aq cY):=⟨rfl,rfl,rfl,by decide +kernel,rfl,by decide +kernel,by decide +kernel⟩
abbrev eX:Stmt:=dM 59
theorem sc_voice_range:ay ["row","words","bounds"] ["row"] (aq eX):=⟨rfl,rfl,rfl,by decide +kernel,rfl,by decide +kernel,by decide +kernel⟩
abbrev tP:Stmt:=dM 60
theorem sc_read:ay ["text","ranges","rules","number","row","bounds"] ["text"] (aq tP):=⟨rfl,rfl,rfl,by decide +kernel,rfl,by decide +kernel,by decide +kernel⟩
abbrev p6:Stmt:=dM 61
theorem sc_shown:ay ["score","rows"] ["score"] (aq p6):=⟨rfl,rfl,rfl,by decide +kernel,rfl,by decide +kernel,by decide +kernel⟩
abbrev eW:Stmt:=dM 63
theorem sc_law_stirred:ay ["_law_cell","_law_place","_law_found","_law_rest","_law_turn","_law_upper","_law_lower"] ["_law_cell","_law_place"] (aq eW):=⟨rfl,rfl,rfl,by decide +kernel,rfl,by decide +kernel,by decide +kernel⟩
abbrev jE:Stmt:=dM 64
theorem sc_law_got:ay ["_law_script","_law_place","_law_cell","_law_power"] ["_law_script","_law_place"] (aq jE):=⟨rfl,rfl,rfl,by decide +kernel,rfl,by decide +kernel,by decide +kernel⟩
abbrev iw:Stmt:=dM 65
theorem sc_law_some:ay ["_law_cell","_law_many","_law_found","_law_k","_law_number"] ["_law_cell","_law_many"] (aq iw):=⟨rfl,rfl,rfl,by decide +kernel,rfl,by decide +kernel,by decide +kernel⟩
abbrev dY:Stmt:=dM 66
theorem sc_law_good_rule:ay ["_law_cell","_law_voices","_law_one","_law_other","_law_some_here","_law_kind"] ["_law_cell","_law_voices"] (aq dY):=⟨rfl,rfl,rfl,by decide +kernel,rfl,by decide +kernel,by decide +kernel⟩
abbrev dX:Stmt:=dM 67
theorem sc_law_bad_voice:ay ["_law_cell","_law_some_here"] ["_law_cell"] (aq dX):=⟨rfl,rfl,rfl,by decide +kernel,rfl,by decide +kernel,by decide +kernel⟩
abbrev eC:Stmt:=dM 68
theorem sc_law_bad_rule:ay ["_law_cell","_law_some_here"] ["_law_cell"] (aq eC):=⟨rfl,rfl,rfl,by decide +kernel,rfl,by decide +kernel,by decide +kernel⟩
abbrev iu:Stmt:=dM 69
theorem sc_law_rows:ay ["_law_script","_law_first","_law_many","_law_rows_here","_law_k","_law_cell","_law_low"] ["_law_script"] (aq iu):=⟨rfl,rfl,rfl,by decide +kernel,rfl,by decide +kernel,by decide +kernel⟩
abbrev fG:Stmt:=dM 70
theorem sc_law_turned:ay ["_law_rows_here","_law_cell","_law_at","_law_way","_law_rest"] ["_law_rows_here","_law_cell"] (aq fG):=⟨rfl,rfl,rfl,by decide +kernel,rfl,by decide +kernel,by decide +kernel⟩
abbrev jD:Stmt:=dM 71
theorem sc_law_due:ay ["_law_rows_here","_law_voices","_law_rules","_law_k"] ["_law_rows_here"] (aq jD):=⟨rfl,rfl,rfl,by decide +kernel,rfl,by decide +kernel,by decide +kernel⟩
abbrev gi:Stmt:=dM 72
theorem sc_law_heavy:ay ["_law_rows_here","_law_found","_law_sort","_law_row"] ["_law_rows_here"] (aq gi):=⟨rfl,rfl,rfl,by decide +kernel,rfl,by decide +kernel,by decide +kernel⟩
abbrev eV:Stmt:=dM 73
theorem sc_law_refusal:ay ["_law_e","_law_row","_law_others"] ["_law_e","_law_row"] (aq eV):=⟨rfl,rfl,rfl,by decide +kernel,rfl,by decide +kernel,by decide +kernel⟩
abbrev gj:Stmt:=dM 74
theorem sc_law_right:ay ["_law_rows_here","_law_text","_law_due_here","_law_score","_law_refused","_law_wide","_law_e"] ["_law_rows_here"] (aq gj):=⟨rfl,rfl,rfl,by decide +kernel,rfl,by decide +kernel,by decide +kernel⟩
abbrev om:Stmt:=dM 75
theorem sc_law:ay ["_law_script","_law_rows_here","_law_k"] ["_law_script"] (aq om):=⟨rfl,rfl,rfl,by decide +kernel,rfl,by decide +kernel,by decide +kernel⟩
structure Txt(mg:Str→Option Value)(aM:Addr):Prop where
 n_len:mg "len"=none
 n_range:mg "range"=none
 n_all:mg "all"=none
 n_min:mg "min"=none
 n_abs:mg "abs"=none
 n_max:mg "max"=none
 n_divmod:mg "divmod"=none
 n_any:mg "any"=none
 n_list:mg "list"=none
 n_isinstance:mg "isinstance"=none
 n_bool:mg "bool"=none
 n_int:mg "int"=none
 n_str:mg "str"=none
 n_enumerate:mg "enumerate"=none
 n_tuple:mg "tuple"=none
 n_ValueError:mg "ValueError"=none
 g_FIGURES:∃u,mg "FIGURES"=some u∧aN (.str "0123456789") u
 g_MOST_FIGURES:∃u,mg "MOST_FIGURES"=some u∧aN (.int 40) u
 g_MOST_VOICES:∃u,mg "MOST_VOICES"=some u∧aN (.int 4) u
 g_MOST_RULES:∃u,mg "MOST_RULES"=some u∧aN (.int 12) u
 g_MOST_WEIGHT:∃u,mg "MOST_WEIGHT"=some u∧aN (.int 400) u
 g_MOST_NUMBERS:∃u,mg "MOST_NUMBERS"=some u∧aN (.int 12) u
 g_MAKERS:∃u,mg "MAKERS"=some u∧aN (.ref aM) u
structure Cu(mg:Str→Option Value)(aM aI:Addr):Prop extends Txt mg aM where
 g_INNER_KINDS:∃u,mg "INNER_KINDS"=some u∧aN (.ref aI) u
local macro_rules | `(tactic| walk_at "rd") => `(tactic| (try dsimp only [↓oj, ↓l0, ↓gz, ↓jj, ↓jr, ↓jt, ↓ju, ↓jv, ↓gF, ↓gG, Ao, Ck, jI, jU, nV, nU, vz, nR, vA, nT, jT, sr, v7, nN, tC, AR, DO, yz, Ap, yA, uX, C8, mq, mr, su, Am, Dt, An, Ds, Du, kL, L2.start, List.map_cons, List.map_nil, List.length_cons, List.length_nil, List.replicate, List.cons_append, List.nil_append, List.set_cons_zero, List.set_cons_succ, oj, l0, gz, jj, jr, jt, ju, jv, gF, gG]) <;> (try simp only [↓oj, ↓l0, ↓gz, ↓jj, ↓jr, ↓jt, ↓ju, ↓jv, ↓gF, ↓gG, ↓DX, ↓DY, Ao, Ck, jI, jU, nV, nU, vz, nR, vA, nT, jT, sr, v7, nN, Aq, tC, AR, DO, yz, mv, Ap, yA, uX, C8, mq, mr, su, Am, Dt, An, oF, wa, oG, Ds, Du, sv, kL, Dr, C7, zo, xp, A5, sD, rI, rU, L2.start, kZ, lg, hV, kX, kY, lj, ll, lp, hX, qZ, ur, qT, qX, qU, nE, nJ, nF, nK, nB, nI, qY, qS, qW, qV, j0, List.map_cons, List.map_nil, List.length_cons, List.length_nil, List.replicate, List.cons_append, List.nil_append, List.append_nil, List.getElem?_cons_zero, List.getElem?_cons_succ, List.set_cons_zero, List.set_cons_succ, Option.some.injEq, xb, AB, sO, xf, xa, V.int.injEq, V.str.injEq, V.bl.injEq, V.ref.injEq, V.ty.injEq, List.cons.injEq, and_true, true_and, CC, xu, xv, xw, DN, Bj, Bf, Bi, AE, CD, AD, sS, qu, CB, q9, rb, A6, ym, qr, tY, B7, BZ, uZ, v9, nG, nL, nH, nM, uY, so, B5, Int.zero_add, if_true, Bool.false_eq_true, if_false, cσ, List.getD_cons_zero, List.getD_cons_succ, w9, wX, Ay, decide_eq_true_eq, reduceCtorEq, false_and, xc, false_or, or_false, AA, List.length_map, B8, Ca, DP, Dc, qR, uu, Bool.not_eq_true', Cz, ite_not, oj, l0, gz, jj, jr, jt, ju, jv, gF, gG]) <;> try simp only [vk, vi, vh, zk, zm, ny, nA, xg, xh, vj, sO, xf, xa, w9, and_true, true_and, V.int.injEq, V.str.injEq, V.bl.injEq, V.ref.injEq, reduceCtorEq, false_and, xc, false_or, or_false])
local macro_rules | `(tactic| walk_at "flds") => `(tactic| simp only [fW, pA, String.reduceEq, if_false, if_true, List.lookup])
def sg:Sp:=fun vs H Q _=>∃z,vs=[.str z]∧z.length≤10000∧∀H',au H H'→Q (.bl (cq z.cps.toList)) H'
def bO(K:Frag):Sp:=fun vs H Q _=>∃(x C dx:Addr) (fs:List (Str×V)) (row:Str),vs=[.ref x,.str row]∧H x=some (.ins C dx fs)∧kg K C∧NoAttr K C "row"∧fs.length < 100∧Q .non (upd H x (.ins C dx (bp "row" (.str row) fs)))
def dJ(n:Nat)(v:List V→V):Sp:=fun vs H Q _=>vs.length=n∧Q (v vs) H
def bF(K:Frag):Sp:=fun vs H Q _=>∃(r C dx:Addr) (fs:List (Str×V)) (row:Str),vs=[.ref r]∧H r=some (.ins C dx fs)∧kg K C∧NoAttr K C "row"∧fs.lookup (Str.ofString "row")=some (.str row)∧Q (.str row) H
def bM(K:Frag):Sp:=fun vs H Q _=>∃(q:Addr) (xs:List V) (j:Int),vs=[.ref q,.int j]∧aV K H q xs∧Q (.bl (decide (1≤(xs.length:Int) - j) && decide ((xs.length:Int) - j≤12))) H
def aU(K:Frag):Sp:=fun vs H Q _=>∃(q:Addr) (ns:List Int) (nv:Int),vs=[.ref q,.int nv]∧aV K H q (ns.map V.int)∧ns.length≤1000∧∀H',au H H'→Q (.bl (ns.all fun n=>decide (1≤n) && decide (n≤nv))) H'
def iN(row:Str)(x1 x2:Int)(n:Addr):List (Str×V):=bp "numbers" (.ref n) (bp "second" (.int x2) (bp "first" (.int x1) (bp "row" (.str row) [])))
def sJ(C:Addr)(row:Str)(x1 x2:Int)(D:List Int):qK:=fun r H=>∃(dx n:Addr),H r=some (.ins C dx (iN row x1 x2 n))∧H n=some (.lst (D.map V.int))
structure oO(K:Frag)(C:Addr):Prop where
 cl:kg K C
 n1:NoAttr K C "row"
 n2:NoAttr K C "first"
 n3:NoAttr K C "second"
 n4:NoAttr K C "numbers"
def fN(K:Frag)(C:Addr):Sp:=fun vs H Q _=>∃(x dx q:Addr) (row:Str) (x1 x2:Int) (D:List Int),vs=[.ref x,.str row,.int x1,.int x2,.ref q]∧H x=some (.ins C dx [])∧aV K H q (D.map V.int)∧D.length≤20∧
 ∀n H',H n=none→H'=upd (upd H n (.lst (D.map V.int))) x (.ins C dx (iN row x1 x2 n))→Q .non H'
def sh(K:Frag)(C:Addr):Sp:=fun vs H Q _=>∃(q:Addr) (row:Str) (x1 x2:Int) (D:List Int) (nv:Int),vs=[.str row,.ref q,.int nv]∧aV K H q ((x1::x2::D).map V.int)∧1≤x1∧x1≤nv∧1≤x2∧x2≤nv∧1≤D.length∧D.length≤12∧
 ∀r H',au H H'→sJ C row x1 x2 D r H'→Q (.ref r) H'
def gD(row:Str)(x1 x2 x3:Int)(n:Addr):List (Str×V):=bp "numbers" (.ref n) (bp "hours" (.int x3) (bp "second" (.int x2) (bp "first" (.int x1) (bp "row" (.str row) []))))
def oS(C:Addr)(row:Str)(x1 x2 x3:Int)(D:List Int):qK:=fun r H=>∃(dx n:Addr),H r=some (.ins C dx (gD row x1 x2 x3 n))∧H n=some (.lst (D.map V.int))
structure kP(K:Frag)(C:Addr):Prop where
 cl:kg K C
 n1:NoAttr K C "row"
 n2:NoAttr K C "first"
 n3:NoAttr K C "second"
 n4:NoAttr K C "hours"
 n5:NoAttr K C "numbers"
def eR(K:Frag)(C:Addr):Sp:=fun vs H Q _=>∃(x dx q:Addr) (row:Str) (x1 x2 x3:Int) (D:List Int),vs=[.ref x,.str row,.int x1,.int x2,.int x3,.ref q]∧H x=some (.ins C dx [])∧aV K H q (D.map V.int)∧D.length≤20∧
 ∀n H',H n=none→H'=upd (upd H n (.lst (D.map V.int))) x (.ins C dx (gD row x1 x2 x3 n))→Q .non H'
def ow(K:Frag)(C:Addr):Sp:=fun vs H Q _=>∃(q:Addr) (row:Str) (x1 x2 x3:Int) (D:List Int) (nv:Int),vs=[.str row,.ref q,.int nv]∧aV K H q ((x1::x2::x3::D).map V.int)∧1≤x1∧x1≤nv∧1≤x2∧x2≤nv∧1≤x3∧1≤D.length∧D.length≤12∧
 ∀r H',au H H'→oS C row x1 x2 x3 D r H'→Q (.ref r) H'
def iM(row:Str)(x1:Int)(n:Addr):List (Str×V):=bp "numbers" (.ref n) (bp "voice" (.int x1) (bp "row" (.str row) []))
def sI(C:Addr)(row:Str)(x1:Int)(D:List Int):qK:=fun r H=>∃(dx n:Addr),H r=some (.ins C dx (iM row x1 n))∧H n=some (.lst (D.map V.int))
structure oN(K:Frag)(C:Addr):Prop where
 cl:kg K C
 n1:NoAttr K C "row"
 n2:NoAttr K C "voice"
 n3:NoAttr K C "numbers"
def fM(K:Frag)(C:Addr):Sp:=fun vs H Q _=>∃(x dx q:Addr) (row:Str) (x1:Int) (D:List Int),vs=[.ref x,.str row,.int x1,.ref q]∧H x=some (.ins C dx [])∧aV K H q (D.map V.int)∧D.length≤20∧
 ∀n H',H n=none→H'=upd (upd H n (.lst (D.map V.int))) x (.ins C dx (iM row x1 n))→Q .non H'
def sf(K:Frag)(C:Addr):Sp:=fun vs H Q _=>∃(q:Addr) (row:Str) (x1:Int) (D:List Int) (nv:Int),vs=[.str row,.ref q,.int nv]∧aV K H q ((x1::D).map V.int)∧1≤x1∧x1≤nv∧1≤D.length∧D.length≤12∧
 ∀r H',au H H'→sI C row x1 D r H'→Q (.ref r) H'
def gB(row:Str)(x1 x2:Int)(n:Addr):List (Str×V):=bp "numbers" (.ref n) (bp "second" (.int x2) (bp "first" (.int x1) (bp "row" (.str row) [])))
def oQ(C:Addr)(row:Str)(x1 x2:Int)(D:List Int):qK:=fun r H=>∃(dx n:Addr),H r=some (.ins C dx (gB row x1 x2 n))∧H n=some (.lst (D.map V.int))
structure kN(K:Frag)(C:Addr):Prop where
 cl:kg K C
 n1:NoAttr K C "row"
 n2:NoAttr K C "first"
 n3:NoAttr K C "second"
 n4:NoAttr K C "numbers"
def eO(K:Frag)(C:Addr):Sp:=fun vs H Q _=>∃(x dx q:Addr) (row:Str) (x1 x2:Int) (D:List Int),vs=[.ref x,.str row,.int x1,.int x2,.ref q]∧H x=some (.ins C dx [])∧aV K H q (D.map V.int)∧D.length≤20∧
 ∀n H',H n=none→H'=upd (upd H n (.lst (D.map V.int))) x (.ins C dx (gB row x1 x2 n))→Q .non H'
def oo(K:Frag)(C:Addr):Sp:=fun vs H Q _=>∃(q:Addr) (row:Str) (x1 x2:Int) (D:List Int) (nv:Int),vs=[.str row,.ref q,.int nv]∧aV K H q ((x1::x2::D).map V.int)∧1≤x1∧x1≤nv∧1≤x2∧x2≤nv∧1≤D.length∧D.length≤12∧
 ∀r H',au H H'→oQ C row x1 x2 D r H'→Q (.ref r) H'
def lq(row:Str)(x1 x2:Int):List (Str×V):=(bp "widest" (.int x2) (bp "voice" (.int x1) (bp "row" (.str row) [])))
def sH(C:Addr)(row:Str)(x1 x2:Int):qK:=fun r H=>∃(dx:Addr),H r=some (.ins C dx (lq row x1 x2))
structure oM(K:Frag)(C:Addr):Prop where
 cl:kg K C
 n1:NoAttr K C "row"
 n2:NoAttr K C "voice"
 n3:NoAttr K C "widest"
def fK(K:Frag)(C:Addr):Sp:=fun vs H Q _=>∃(x dx:Addr) (row:Str) (x1 x2:Int),vs=[.ref x,.str row,.int x1,.int x2]∧H x=some (.ins C dx [])∧Q .non (upd H x (.ins C dx (lq row x1 x2)))
def sd(K:Frag)(C:Addr):Sp:=fun vs H Q _=>∃(q:Addr) (row:Str) (x1 x2:Int) (nv:Int),vs=[.str row,.ref q,.int nv]∧aV K H q ([x1,x2].map V.int)∧1≤x1∧x1≤nv∧0≤x2∧
 ∀r H',au H H'→sH C row x1 x2 r H'→Q (.ref r) H'
def fV(row:Str)(x1 x2:Int):List (Str×V):=(bp "most" (.int x2) (bp "voice" (.int x1) (bp "row" (.str row) [])))
def jg(C:Addr)(row:Str)(x1 x2:Int):qK:=fun r H=>∃(dx:Addr),H r=some (.ins C dx (fV row x1 x2))
structure kr(K:Frag)(C:Addr):Prop where
 cl:kg K C
 n1:NoAttr K C "row"
 n2:NoAttr K C "voice"
 n3:NoAttr K C "most"
def fL(K:Frag)(C:Addr):Sp:=fun vs H Q _=>∃(x dx:Addr) (row:Str) (x1 x2:Int),vs=[.ref x,.str row,.int x1,.int x2]∧H x=some (.ins C dx [])∧Q .non (upd H x (.ins C dx (fV row x1 x2)))
def se(K:Frag)(C:Addr):Sp:=fun vs H Q _=>∃(q:Addr) (row:Str) (x1 x2:Int) (nv:Int),vs=[.str row,.ref q,.int nv]∧aV K H q ([x1,x2].map V.int)∧1≤x1∧x1≤nv∧1≤x2∧
 ∀r H',au H H'→jg C row x1 x2 r H'→Q (.ref r) H'
def eY(row:Str)(x1 x2 x3 x4:Int):List (Str×V):=(bp "most" (.int x4) (bp "fewest" (.int x3) (bp "note" (.int x2) (bp "voice" (.int x1) (bp "row" (.str row) [])))))
def gx(C:Addr)(row:Str)(x1 x2 x3 x4:Int):qK:=fun r H=>∃(dx:Addr),H r=some (.ins C dx (eY row x1 x2 x3 x4))
structure iD(K:Frag)(C:Addr):Prop where
 cl:kg K C
 n1:NoAttr K C "row"
 n2:NoAttr K C "voice"
 n3:NoAttr K C "note"
 n4:NoAttr K C "fewest"
 n5:NoAttr K C "most"
def eT(K:Frag)(C:Addr):Sp:=fun vs H Q _=>∃(x dx:Addr) (row:Str) (x1 x2 x3 x4:Int),vs=[.ref x,.str row,.int x1,.int x2,.int x3,.int x4]∧H x=some (.ins C dx [])∧Q .non (upd H x (.ins C dx (eY row x1 x2 x3 x4)))
def oy(K:Frag)(C:Addr):Sp:=fun vs H Q _=>∃(q:Addr) (row:Str) (x1 x2 x3 x4:Int) (nv:Int),vs=[.str row,.ref q,.int nv]∧aV K H q ([x1,x2,x3,x4].map V.int)∧1≤x1∧x1≤nv∧0≤x3∧0≤x4∧
 ∀r H',au H H'→gx C row x1 x2 x3 x4 r H'→Q (.ref r) H'
def gC(row:Str)(x1:Int)(n:Addr):List (Str×V):=bp "notes" (.ref n) (bp "voice" (.int x1) (bp "row" (.str row) []))
def oR(C:Addr)(row:Str)(x1:Int)(D:List Int):qK:=fun r H=>∃(dx n:Addr),H r=some (.ins C dx (gC row x1 n))∧H n=some (.lst (D.map V.int))
structure kO(K:Frag)(C:Addr):Prop where
 cl:kg K C
 n1:NoAttr K C "row"
 n2:NoAttr K C "voice"
 n3:NoAttr K C "notes"
def eP(K:Frag)(C:Addr):Sp:=fun vs H Q _=>∃(x dx q:Addr) (row:Str) (x1:Int) (D:List Int),vs=[.ref x,.str row,.int x1,.ref q]∧H x=some (.ins C dx [])∧aV K H q (D.map V.int)∧D.length≤20∧
 ∀n H',H n=none→H'=upd (upd H n (.lst (D.map V.int))) x (.ins C dx (gC row x1 n))→Q .non H'
def ou(K:Frag)(C:Addr):Sp:=fun vs H Q _=>∃(q:Addr) (row:Str) (x1:Int) (D:List Int) (nv:Int),vs=[.str row,.ref q,.int nv]∧aV K H q ((x1::D).map V.int)∧1≤x1∧x1≤nv∧1≤D.length∧D.length≤12∧
 ∀r H',au H H'→oR C row x1 D r H'→Q (.ref r) H'
def gE(row:Str)(x1:Int)(n:Addr):List (Str×V):=bp "notes" (.ref n) (bp "voice" (.int x1) (bp "row" (.str row) []))
def oU(C:Addr)(row:Str)(x1:Int)(D:List Int):qK:=fun r H=>∃(dx n:Addr),H r=some (.ins C dx (gE row x1 n))∧H n=some (.lst (D.map V.int))
structure kQ(K:Frag)(C:Addr):Prop where
 cl:kg K C
 n1:NoAttr K C "row"
 n2:NoAttr K C "voice"
 n3:NoAttr K C "notes"
def eS(K:Frag)(C:Addr):Sp:=fun vs H Q _=>∃(x dx q:Addr) (row:Str) (x1:Int) (D:List Int),vs=[.ref x,.str row,.int x1,.ref q]∧H x=some (.ins C dx [])∧aV K H q (D.map V.int)∧D.length≤20∧
 ∀n H',H n=none→H'=upd (upd H n (.lst (D.map V.int))) x (.ins C dx (gE row x1 n))→Q .non H'
def ox(K:Frag)(C:Addr):Sp:=fun vs H Q _=>∃(q:Addr) (row:Str) (x1:Int) (D:List Int) (nv:Int),vs=[.str row,.ref q,.int nv]∧aV K H q ((x1::D).map V.int)∧1≤x1∧x1≤nv∧1≤D.length∧D.length≤12∧
 ∀r H',au H H'→oU C row x1 D r H'→Q (.ref r) H'
def dv(row:Str)(t u:Int)(ri:Addr):List (Str×V):=bp "inner" (.ref ri) (bp "turn" (.int u) (bp "turns" (.int t) (bp "row" (.str row) [])))
def ku(C:Addr)(row:Str)(t u:Int)(RIn:qK):qK:=fun r H=>∃(dx ri:Addr),H r=some (.ins C dx (dv row t u ri))∧RIn ri H
structure iC(K:Frag)(C:Addr):Prop where
 cl:kg K C
 n1:NoAttr K C "row"
 n2:NoAttr K C "turns"
 n3:NoAttr K C "turn"
 n4:NoAttr K C "inner"
def gp(K:Frag)(C:Addr):Sp:=fun vs H Q _=>∃(x dx ri:Addr) (row:Str) (t u:Int),vs=[.ref x,.str row,.int t,.int u,.ref ri]∧H x=some (.ins C dx [])∧Q .non (upd H x (.ins C dx (dv row t u ri)))
structure eH(K:Frag)(C CR:Addr):Prop where
 cl:kg K C
 ha:findIn K (.ref C) "__class__"=some (some (.builtin "object.__class__"))
 hn:PySem.W.specialIn K (.builtin "object.__class__") "__get__"=some (some (.builtin "getset_descriptor.__get__"))
 htk:PySem.W.takesIn K (.builtin "object.__class__")=some true
 hm:mroIn K C (.type "object")=some true
 kit:kitOne K (.ref C) (.ref CR)=some true
def Aw(H H':Hp):Prop:=∀(a C dx:Addr) (fs:List (Str×V)),H a=some (.ins C dx fs)→H' a=some (.ins C dx fs)
structure bo(P:Program)(w:World)(K:Frag)(mg:Str→Option Value)(base:Heap)(CR:Addr)(row:Str)(sz:Int)(r:Addr)(H:Hp):Prop where
 ex:∃(C:Addr) (RI:qK),RI r H∧(∀r H H',Aw H H'→RI r H→RI r H')∧(∀r H,RI r H→∃dx fs,H r=some (.ins C dx fs)∧fs.lookup (Str.ofString "size")=none∧fs.lookup (Str.ofString "shown")=none)∧aK P w K mg base C "size" 7 ["self"] (jN RI (.int sz))∧aK P w K mg base C "shown" 7 ["self"] (jN RI (.str row))∧eH K C CR
theorem bo.same{P:Program}{w:World}{K:Frag}{mg:Str→Option Value}{base:Heap}{CR:Addr}{row:Str}{sz:Int}{r:Addr}{H H':Hp}(h:bo P w K mg base CR row sz r H)(s:au H H'):bo P w K mg base CR row sz r H':=by
 obtain⟨C,RI,h1,h2,h3⟩:=h.ex;exact⟨C,RI,h2 _ _ _ (fun _ _ _ _ e=>s _ _ e) h1,h2,h3⟩
theorem bo.stab{P:Program}{w:World}{K:Frag}{mg:Str→Option Value}{base:Heap}{CR:Addr}{row:Str}{sz:Int}{r q:Addr}{H:Hp}{xs ys:List V}(h:bo P w K mg base CR row sz r H)(hq:H q=some (.lst xs)):bo P w K mg base CR row sz r (upd H q (.lst ys)):=by
 obtain⟨C,RI,h1,h2,h3⟩:=h.ex;exact⟨C,RI,h2 _ _ _ (fun a _ _ _ e=>by rw [aj (lI e hq (fun z=>by cases z))];exact e) h1,h2,h3⟩
def oH(nv n:Int):Bool:=decide (1≤n) && decide (n≤nv)
def qG(ns:List Int)(j:Int):Bool:=decide (1≤(ns.length:Int) - j) && decide ((ns.length:Int) - j≤12)
abbrev wg:=Int→List Int→Option Int
def da(j:Nat):wg:=fun nv ns=>if qG ns j=true∧(ns.take j).all (oH nv)=true then some 1 else none
def cj:wg:=fun nv ns=>if qG ns 3=true∧(ns.take 2).all (oH nv)=true∧1≤ns.getD 2 0 then some 1 else none
def dP:wg:=fun nv ns=>if ns.length=2∧(ns.take 1).all (oH nv)=true∧0≤ns.getD 1 0 then some 3 else none
def dz:wg:=fun nv ns=>if ns.length=2∧(ns.take 1).all (oH nv)=true∧1≤ns.getD 1 0 then some (ns.getD 1 0)else none
def cK:wg:=fun nv ns=>if ns.length=4∧(ns.take 1).all (oH nv)=true∧0≤ns.getD 2 0∧0≤ns.getD 3 0 then some (ns.getD 3 0+1)else none
def cE(P:Program)(w:World)(K:Frag)(mg:Str→Option Value)(base:Heap)(CR:Addr)(mk:wg):Sp:=fun vs H Q _=>∃(q:Addr) (row:Str) (ns:List Int) (nv:Int),vs=[.str row,.ref q,.int nv]∧aV K H q (ns.map V.int)∧ns.length≤10000∧
 (mk nv ns=none→∀H',au H H'→Q .non H')∧∀sz,mk nv ns=some sz→∀r H',au H H'→bo P w K mg base CR row sz r H'→Q (.ref r) H'
def fS(K:Frag)(mk:wg):Sp:=fun vs H Q _=>∃(q:Addr) (row:Str) (ns:List Int) (nv:Int),vs=[.str row,.ref q,.int nv]∧aV K H q (ns.map V.int)∧ns.length≤10000∧mk nv ns=none∧∀H',au H H'→Q .non H'
theorem az.both{P:Program}{w:World}{K:Frag}{mg:Str→Option Value}{base:Heap}{CX:qH}{k:Nat}{f:Addr}{fd:FuncData}{ps:List Str}{sp sp1 sp2:Sp}(F:az P w K mg base CX k f fd ps sp1)(G:az P w K mg base CX k f fd ps sp2)
  (h:∀vs H Q E,sp vs H Q E→sp1 vs H Q E∨sp2 vs H Q E):az P w K mg base CX k f fd ps sp:=
 ⟨fun vs H Q E q=>(h _ _ _ _ q).elim (F.len vs H Q E) (G.len vs H Q E),fun A outer s H args us vs Q E hr he hb hv hs=>(h _ _ _ _ hs).elim (F.run A outer s H args us vs Q E hr he hb hv) (G.run A outer s H args us vs Q E hr he hb hv)⟩
section
variable {P:Program} {w:World} {K:Frag} {mg:Str→Option Value} {base:Heap} {aM:Addr}
theorem vO{f:Addr}{fd:FuncData}(F:cC K "is_number" "is_number" gh f fd)(T:Txt mg aM):az P w K mg base bH 1 f fd ["word"] sg:=by
 refine F.ok sc_is_number (fun vs H Q E h=>?_) (fun cdv A outer s H vs Q E hr h=>?_)
 ·obtain⟨z,rfl,_⟩:=h
  rfl
 obtain⟨z,rfl,hz,k⟩:=h
 refine⟨_,(ah (aB (i:=1) sc_is_number.nd rfl (Or.inl rfl) (iT (aD (bX K PySem.F.plainAttrs_str PySem.F.slot_str_startswith PySem.F.type_str_startswith g4 (pr 0) (aa ax ag)) (fun _=>rfl)) (aG (cw K) (pr 0) (ck af) aS) (pr 0)))
 (ah (aZ (PW.pt (bG (bD (aA pz (pr 1) ax (aE _))) (bI (bD (aA (o0 uH) (aw (bh K) (by rfl) T.n_len boot_len (aa (pr 1) ag)) (eU T.g_MOST_FIGURES) (aE _)))))) (ai (av lV)) aF)
 (ah (aZ (aY (aD (aw (gA K rfl) (by rfl) T.n_all boot_all (aa (fm (own:=["sign"]) (js:=[]) rfl (cU K (pr 1)) (bU.of (by rfl)) (fun _ _ _ _ _=>(bq (i:=0) (show List.Nodup (["sign"]:List Str)from by decide +kernel) rfl (Or.inl rfl))) (fun _ _ _ _ _=>eL) (fun _ _ _ _ _=>(eK (CQ K) (pr 0) (eU T.g_FIGURES) (by with_unfolding_all rfl)))) ag)) (fun _=>rfl))) (ai (av lV)) aF)
 (ai (av (C0 (C2 (eK yS (aO (bj K) (pr 1) af (fun _ _=>rfl)) ax (aE _)) (pO (eK pz (pr 0) ax (aE _)))))))))),?_⟩
 have hs:sizeLine=16777216:=sizeLine_eq
 have c0:(Str.ofString "").cps.toList=[]:=by decide +kernel
 have c45:(Str.ofString "-")=⟨#[45]⟩:=by decide +kernel
 have c48:(Str.ofString "0").cps.toList=[48]:=by decide +kernel
 have cF:(Str.ofString "0123456789").cps.toList=[48,49,50,51,52,53,54,55,56,57]:=by decide +kernel
 refine Cy (fun σ H'=>∃y,σ=[some (.str z),some (.str y)]∧H=H'∧y.cps.toList=dj z.cps.toList) ?_ ?_
 ·rintro _ _ ⟨y,rfl,rfl,hy⟩
  have hyl:y.length≤10000:=by
   rw [aL,hy];rw [aL]at hz;refine aa9 ?_ hz;unfold dj
   split
   ·rw [List.length_tail];omega
   ·exact aa7 _
  walk_at "rd";have hk:=k;rw [sV,←hy,←aL]at hk;have q0:=hk H (au.refl H)
  by_cases h1:y=Str.ofString ""
  ·rw [if_pos h1]
   rw [if_pos (Or.inl (by rw [h1,c0]))]at q0;exact q0
  rw [if_neg h1];refine⟨by omega,?_⟩
  by_cases h2:(40:Int) < y.length
  ·rw [if_pos h2]
   rw [if_pos (Or.inr (by omega))]at q0;exact q0
  rw [if_neg h2]
  have h3:¬(y.cps.toList=[]∨40 < y.length):=by
   rintro(e | e)
   ·exact h1 (str_iff.mpr (by rw [e,c0]))
   ·omega
  rw [if_neg h3]at hk;have e0:y.cps.toList≠[]:=fun e=>h3 (Or.inl e);refine z7 (vf (fun i ys H'=>ys=(y.cps.toList.take i).map (fun c=>V.bl (decide (c∈[48,49,50,51,52,53,54,55,56,57])))∧H=H') (by omega) ⟨rfl,rfl⟩ ?_ ?_ ?_)
  ·rintro i ys H' ⟨rfl,rfl⟩
   rw [aa0,ac5];omega
  ·rintro i c ys H' hc ⟨rfl,rfl⟩
   walk_at "rd";rw [cF,ac8,hc];simp
  ·rintro ys H' ⟨rfl,rfl⟩ p hp
   rw [aL,ad4];refine⟨y.cps.toList.map (fun c=>decide (c∈[48,49,50,51,52,53,54,55,56,57])),aV.of (by rw [ae,aj7];rfl),?_⟩
   have ed:(List.map (fun c=>decide (c∈[48,49,50,51,52,53,54,55,56,57])) y.cps.toList).all id=hJ y.cps.toList:=by
    unfold hJ;rw [ah9];rfl
   have q1:=hk _ (ar (o:=.lst ((y.cps.toList.take y.cps.toList.length).map (fun c=>V.bl (decide (c∈[48,49,50,51,52,53,54,55,56,57]))))) hp);rw [ad4]at q1;rw [ed]
   by_cases h4:hJ y.cps.toList=false
   ·rw [if_pos h4]
    rw [if_pos h4]at q1;exact q1
   rw [if_neg h4];rw [if_neg h4]at q1;refine⟨by rw [←aL];omega,?_⟩
   cases hh:y.cps.toList with
   | nil=>exact absurd hh e0
   | cons a l=>
    rw [hh]at q1;refine⟨a,bt rfl,?_⟩
    by_cases ha:a=48
    ·subst ha
     rw [if_pos (str_iff.mpr (by rw [c48])),ja,c48];simpa using q1
    ·rw [if_neg (fun e=>ha (by have:=str_iff.mp e;rw [c48]at this;simpa using this))]
     simpa [ha]using q1
 ·intro u' hu
  walk_at "rd";rw [c45,tW]
  by_cases h1:z.cps.toList.head?=some 45
  ·rw [if_pos (by simpa using h1)]
   exact⟨by omega,hu _ _ ⟨_,rfl,rfl,by rw [tR (by decide)];unfold dj;rw [if_pos h1];simp⟩⟩
  ·rw [if_neg (by simpa using h1)]
   exact hu _ _ ⟨_,rfl,rfl,by unfold dj;rw [if_neg h1]⟩
theorem pH{f:Addr}{fd:FuncData}(F:cC K "__init__" "Rule.__init__" dU f fd):az P w K mg base bH 1 f fd ["self","row"] (bO K):=by
 refine F.ok jJ (fun vs H Q E h=>?_) (fun cdv A outer s H vs Q E hr h=>?_)
 ·obtain⟨x,C,dx,fs,row,rfl,_⟩:=h
  rfl
 obtain⟨x,C,dx,fs,row,rfl,hx,cl,na,hl,k⟩:=h;refine⟨_,(ai (bA (pr 0) (pr 1) rfl)),?_⟩;walk_at "rd";exact⟨C,dx,fs,hx,cl,na,by omega,k⟩
theorem cL{f:Addr}{fd:FuncData}(F:cC K "size" "Rule.size" cc f fd):az P w K mg base bH 1 f fd ["self"] (dJ 1 fun _=>.int 1):=by
 refine F.ok p9 (fun vs H Q E h=>h.1) (fun cdv A outer s H vs Q E hr h=>?_);obtain⟨hl,k⟩:=h
 match vs,hl with
 | [a],_=>
 refine⟨_,(ai (av af)),?_⟩;walk_at "rd";exact k
theorem bB{f:Addr}{fd:FuncData}(F:cC K "shown" "Rule.shown" bw f fd):az P w K mg base bH 1 f fd ["self"] (bF K):=by
 refine F.ok mT (fun vs H Q E h=>?_) (fun cdv A outer s H vs Q E hr h=>?_)
 ·obtain⟨r,C,dx,fs,row,rfl,_⟩:=h
  rfl
 obtain⟨r,C,dx,fs,row,rfl,h1,h2,h3,h4,q⟩:=h;refine⟨_,(ai (av (gd (pr 0) rfl))),?_⟩;walk_at "rd";exact⟨C,dx,fs,h1,h2,h3,_,h4,q⟩
theorem rN{f:Addr}{fd:FuncData}(F:cC K "has_list" "has_list" iq f fd)(T:Txt mg aM):az P w K mg base bH 1 f fd ["numbers","ahead"] (bM K):=by
 refine F.ok r6 (fun vs H Q E h=>?_) (fun cdv A outer s H vs Q E hr h=>?_)
 ·obtain⟨q,xs,j,rfl,_⟩:=h
  rfl
 obtain⟨q,xs,j,rfl,hq,k⟩:=h;refine⟨_,(ai (av (rQ (o0 lT) (o0 lT) af (ao (o0 gb) (aw (bh K) (by rfl) T.n_len boot_len (aa (pr 0) ag)) (pr 1)) (eU T.g_MOST_NUMBERS)))),?_⟩;walk_at "rd";refine⟨xs,.inl hq,?_⟩;walk_at "rd"
 by_cases h1:(1:Int)≤(xs.length:Int) - j
 ·rw [if_pos h1]
  rw [decide_eq_true h1,Bool.true_and]at k;exact k
 ·rw [if_neg h1]
  rw [decide_eq_false h1,Bool.false_and]at k;exact k
theorem mO{f:Addr}{fd:FuncData}(F:cC K "are_voices" "are_voices" fA f fd)(T:Txt mg aM):az P w K mg base bH 1 f fd ["numbers","voices"] (aU K):=by
 refine F.ok mV (fun vs H Q E h=>?_) (fun cdv A outer s H vs Q E hr h=>?_)
 ·obtain⟨q,ns,nv,rfl,_⟩:=h
  rfl
 obtain⟨q,ns,nv,rfl,hq,hl,k⟩:=h;refine⟨_,(ai (av (aw (gA K rfl) (by rfl) T.n_all boot_all (aa (fm (own:=["number"]) (js:=[1]) rfl (cU K (pr 0)) (bU.of (by rfl)) (fun _ _ _ _ _=>(bq (i:=0) (show List.Nodup (["number","voices"]:List Str)from by decide +kernel) rfl (Or.inl rfl))) (fun _ _ _ _ _=>eL) (fun _ _ _ _ _=>(rQ (o0 lT) (o0 lT) af (pr 0) (pr 1)))) ag)))),?_⟩;walk_at "rd";have hs:sizeLine=16777216:=sizeLine_eq;refine cW hq (cX (xs:=ns.map V.int) (fun i ys H'=>ys=((ns.take i).map fun n=>decide (1≤n) && decide (n≤nv)).map V.bl∧H=H') (by rw [aa0];omega) ⟨rfl,rfl⟩ ?_ ?_ ?_ ?_)
 ·rintro i ys H' ⟨rfl,rfl⟩
  rw [aa0,aa0,ac5];omega
 ·rintro i ys H' ⟨rfl,rfl⟩
  exact hq
 ·rintro i x ys H' hx ⟨rfl,rfl⟩
  rw [ac2]at hx
  cases hn:ns[i]? with
  | none=>rw [hn]at hx;cases hx
  | some n=>
   rw [hn]at hx;cases hx;walk_at "rd";rw [ac8,hn]
   by_cases h1:(1:Int)≤n
   ·rw [if_pos h1]
    simp [h1]
   ·rw [if_neg h1]
    simp [h1]
 ·rintro ys H' ⟨rfl,rfl⟩ p hp
  refine⟨_,aV.of ae,?_⟩;rw [ah9,aa0,ad4];exact k _ (ar hp)
theorem pI{f C:Addr}{fd:FuncData}(F:cC K "__init__" "Span.__init__" dW f fd)(T:Txt mg aM)(TC:oO K C)(DC_Rule___init__:jc P w K mg base "Rule" "__init__" 1 ["self","row"] (bO K)):az P w K mg base bH 2 f fd ["self","row","first","second","numbers"] (fN K C):=by
 refine F.ok jK (fun vs H Q E h=>?_) (fun cdv A outer s H vs Q E hr h=>?_)
 ·obtain⟨x,dx,q,row,x1,x2,D,rfl,_⟩:=h
  rfl
 obtain⟨x,dx,q,row,x1,x2,D,rfl,hx,hq,hl,k⟩:=h
 refine⟨_,(ah (bQ (cN DC_Rule___init__ hr (by rfl) (aa (pr 0) (aa (pr 1) ag))))
 (ah (bA (pr 0) (pr 2) rfl)
 (ah (bA (pr 0) (pr 3) rfl)
 (ai (bA (pr 0) (aQ (cg K) (by rfl) T.n_list boot_list (aa (pr 4) ag)) rfl))))),?_⟩
 walk_at "rd";have ln:∀(f:Str) (v:V) (l:List (Str×V)) (n:Nat),l.length≤n→(bp f v l).length≤n+1:=fun f v l n h=>aa9 (bz f v l) (ad5 h);refine⟨x,C,dx,[],row,rfl,hx,TC.cl,TC.n1,by decide,?_⟩;refine⟨C,dx,_,ae,TC.cl,TC.n2,aa8 (ln _ _ _ _ (ab5 0)) (by decide),C,dx,_,ae,TC.cl,TC.n3,aa8 (ln _ _ _ _ (ln _ _ _ _ (ab5 0))) (by decide),D.map V.int,.inl (((hq.at_ins hx).at_ins ae).at_ins ae),fun n hn=>?_⟩
 have nx:n≠x:=fun e=>by subst e;rw [ae]at hn;cases hn
 rw [aj nx,aj nx,aj nx]at hn;refine⟨C,dx,_,by rw [aj (Ne.symm nx),ae],TC.cl,TC.n4,aa8 (ln _ _ _ _ (ln _ _ _ _ (ln _ _ _ _ (ab5 0)))) (by decide),?_⟩;refine k n _ hn ?_;rw [bJ,bJ,eE];rfl
theorem tF{f C:Addr}{fd:FuncData}(F:cC K "span_of" "span_of" gT f fd)(T:Txt mg aM)(D_has_list:cn P w K mg base "has_list" 3 ["numbers","ahead"] (bM K))(D_are_voices:cn P w K mg base "are_voices" 3 ["numbers","voices"] (aU K))(DM_Span:cG P w K mg base "Span" C 2 ["self","row","first","second","numbers"] (fN K C)):az P w K mg base bH 4 f fd ["row","numbers","voices"] (sh K C):=by
 refine F.ok ma (fun vs H Q E h=>?_) (fun cdv A outer s H vs Q E hr h=>?_)
 ·obtain⟨q,row,x1,x2,D,nv,rfl,_⟩:=h
  rfl
 obtain⟨q,row,x1,x2,D,nv,rfl,hq,x1_1,x1_2,x2_1,x2_2,l1,l2,k⟩:=h
 refine⟨_,(ah (aZ (PW.pt (bG (aY (aD (aJ D_has_list hr (by rfl) (aa (pr 1) (aa af ag))) (fun _=>rfl))) (bI (aY (aD (aJ D_are_voices hr (by rfl) (aa (aG (cw K) (pr 1) aS (ck af)) (aa (pr 2) ag))) (fun _=>rfl)))))) (ai (av bg)) aF)
 (ai (av (de DM_Span hr (by rfl) (aa (pr 0) (aa (aO (bj K) (pr 1) af (fun _ _=>rfl)) (aa (aO (bj K) (pr 1) af (fun _ _=>rfl)) (aa (aG (cw K) (pr 1) (ck af) aS) ag)))))))),?_⟩
 walk_at "rd";have hs:sizeLine=16777216:=sizeLine_eq;refine⟨q,_,2,rfl,hq,?_⟩;rw [show(decide (1≤(((x1::x2::D).map V.int).length:Int) - 2) && decide ((((x1::x2::D).map V.int).length:Int) - 2≤12))=true by simp;omega];walk_at "rd";refine bx hq fun q1 hq1=>?_;rw [show(some (2:Int))=some ((2:Nat):Int)from rfl,bP];have s1:au H (upd H q1 (.lst ((((x1::x2::D).map V.int)).take 2))):=ar hq1;refine⟨q1,[x1,x2],nv,rfl,aV.of ae,by simp,fun H1 s2=>?_⟩;rw [show([x1,x2].all fun n=>decide (1≤n) && decide (n≤nv))=true by simp;omega];walk_at "rd";have s3:=s1.trans s2;have hq3:=s3.seq hq;refine ba hq3 (bt rfl) (ba hq3 (show eF _ ((1:Nat):Int)=_ from aW rfl) (bx hq3 fun q2 hq2=>?_));rw [b8];show ∀x dx:Addr,_;intro x dx hx hdx hne;have s4:au H (upd H1 q2 (.lst (((x1::x2::D).map V.int).drop 2))):=s3.upd hq2;have hq2':(upd H1 q2 (.lst (((x1::x2::D).map V.int).drop 2))) q2=some (.lst (D.map V.int)):=ae;generalize upd H1 q2 (.lst (((x1::x2::D).map V.int).drop 2))=H2 at s4 hx hdx hq2';have s5:au H (upd (upd H2 dx (.own x)) x (.ins C dx [])):=(s4.upd hdx).upd (by rw [aj (Ne.symm hne)];exact hx)
 have hq5:(upd (upd H2 dx (.own x)) x (.ins C dx [])) q2=some (.lst (D.map V.int)):=by
  rw [aj (ak hq2' hx),aj (ak hq2' hdx)];exact hq2'
 refine⟨x,dx,q2,row,x1,x2,D,rfl,ae,aV.of hq5,by omega,fun n H3 hn e=>⟨rfl,?_⟩⟩;subst e
 have nx:n≠x:=fun z=>by subst z;rw [ae]at hn;cases hn
 refine k x _ ?_ ⟨dx,n,ae,by rw [aj nx,ae]⟩;intro c o hc;have n1:c≠x:=ak (s4 _ _ hc) hx;rw [aj n1,aj (ak (s5 _ _ hc) hn)];exact s5 _ _ hc
theorem mG{f C:Addr}{fd:FuncData}(F:cC K "__init__" "Clock.__init__" dD f fd)(T:Txt mg aM)(TC:kP K C)(DC_Rule___init__:jc P w K mg base "Rule" "__init__" 1 ["self","row"] (bO K)):az P w K mg base bH 2 f fd ["self","row","first","second","hours","numbers"] (eR K C):=by
 refine F.ok iZ (fun vs H Q E h=>?_) (fun cdv A outer s H vs Q E hr h=>?_)
 ·obtain⟨x,dx,q,row,x1,x2,x3,D,rfl,_⟩:=h
  rfl
 obtain⟨x,dx,q,row,x1,x2,x3,D,rfl,hx,hq,hl,k⟩:=h
 refine⟨_,(ah (bQ (cN DC_Rule___init__ hr (by rfl) (aa (pr 0) (aa (pr 1) ag))))
 (ah (bA (pr 0) (pr 2) rfl)
 (ah (bA (pr 0) (pr 3) rfl)
 (ah (bA (pr 0) (pr 4) rfl)
 (ai (bA (pr 0) (aQ (cg K) (by rfl) T.n_list boot_list (aa (pr 5) ag)) rfl)))))),?_⟩
 walk_at "rd";have ln:∀(f:Str) (v:V) (l:List (Str×V)) (n:Nat),l.length≤n→(bp f v l).length≤n+1:=fun f v l n h=>aa9 (bz f v l) (ad5 h);refine⟨x,C,dx,[],row,rfl,hx,TC.cl,TC.n1,by decide,?_⟩;refine⟨C,dx,_,ae,TC.cl,TC.n2,aa8 (ln _ _ _ _ (ab5 0)) (by decide),C,dx,_,ae,TC.cl,TC.n3,aa8 (ln _ _ _ _ (ln _ _ _ _ (ab5 0))) (by decide),C,dx,_,ae,TC.cl,TC.n4,aa8 (ln _ _ _ _ (ln _ _ _ _ (ln _ _ _ _ (ab5 0)))) (by decide),D.map V.int,.inl ((((hq.at_ins hx).at_ins ae).at_ins ae).at_ins ae),fun n hn=>?_⟩
 have nx:n≠x:=fun e=>by subst e;rw [ae]at hn;cases hn
 rw [aj nx,aj nx,aj nx,aj nx]at hn;refine⟨C,dx,_,by rw [aj (Ne.symm nx),ae],TC.cl,TC.n5,aa8 (ln _ _ _ _ (ln _ _ _ _ (ln _ _ _ _ (ln _ _ _ _ (ab5 0))))) (by decide),?_⟩;refine k n _ hn ?_;rw [bJ,bJ,bJ,eE];rfl
theorem rK{f C:Addr}{fd:FuncData}(F:cC K "clock_of" "clock_of" fC f fd)(T:Txt mg aM)(D_has_list:cn P w K mg base "has_list" 3 ["numbers","ahead"] (bM K))(D_are_voices:cn P w K mg base "are_voices" 3 ["numbers","voices"] (aU K))(DM_Clock:cG P w K mg base "Clock" C 2 ["self","row","first","second","hours","numbers"] (eR K C)):az P w K mg base bH 4 f fd ["row","numbers","voices"] (ow K C):=by
 refine F.ok j7 (fun vs H Q E h=>?_) (fun cdv A outer s H vs Q E hr h=>?_)
 ·obtain⟨q,row,x1,x2,x3,D,nv,rfl,_⟩:=h
  rfl
 obtain⟨q,row,x1,x2,x3,D,nv,rfl,hq,x1_1,x1_2,x2_1,x2_2,p3,l1,l2,k⟩:=h
 refine⟨_,(ah (aZ (PW.pt (bG (aY (aD (aJ D_has_list hr (by rfl) (aa (pr 1) (aa af ag))) (fun _=>rfl))) (bG (aY (aD (aJ D_are_voices hr (by rfl) (aa (aG (cw K) (pr 1) aS (ck af)) (aa (pr 2) ag))) (fun _=>rfl))) (bI (bD (aA (o0 jA) (aO (bj K) (pr 1) af (fun _ _=>rfl)) af (aE _))))))) (ai (av bg)) aF)
 (ai (av (de DM_Clock hr (by rfl) (aa (pr 0) (aa (aO (bj K) (pr 1) af (fun _ _=>rfl)) (aa (aO (bj K) (pr 1) af (fun _ _=>rfl)) (aa (aO (bj K) (pr 1) af (fun _ _=>rfl)) (aa (aG (cw K) (pr 1) (ck af) aS) ag))))))))),?_⟩
 walk_at "rd";have hs:sizeLine=16777216:=sizeLine_eq;refine⟨q,_,3,rfl,hq,?_⟩;rw [show(decide (1≤(((x1::x2::x3::D).map V.int).length:Int) - 3) && decide ((((x1::x2::x3::D).map V.int).length:Int) - 3≤12))=true by simp;omega];walk_at "rd";refine bx hq fun q1 hq1=>?_;rw [show(some (2:Int))=some ((2:Nat):Int)from rfl,bP];have s1:au H (upd H q1 (.lst ((((x1::x2::x3::D).map V.int)).take 2))):=ar hq1;refine⟨q1,[x1,x2],nv,rfl,aV.of ae,by simp,fun H1 s2=>?_⟩;rw [show([x1,x2].all fun n=>decide (1≤n) && decide (n≤nv))=true by simp;omega];walk_at "rd";have s3:=s1.trans s2;have hq3:=s3.seq hq;refine ba hq3 (show eF _ ((2:Nat):Int)=_ from aW rfl) ?_;walk_at "rd";rw [if_neg (show ¬(x3 < 1)by omega)];refine ba hq3 (bt rfl) (ba hq3 (show eF _ ((1:Nat):Int)=_ from aW rfl) (ba hq3 (show eF _ ((2:Nat):Int)=_ from aW rfl) (bx hq3 fun q2 hq2=>?_)));rw [show(some (3:Int))=some ((3:Nat):Int)from rfl,b8];show ∀x dx:Addr,_;intro x dx hx hdx hne;have s4:au H (upd H1 q2 (.lst (((x1::x2::x3::D).map V.int).drop 3))):=s3.upd hq2;have hq2':(upd H1 q2 (.lst (((x1::x2::x3::D).map V.int).drop 3))) q2=some (.lst (D.map V.int)):=ae;generalize upd H1 q2 (.lst (((x1::x2::x3::D).map V.int).drop 3))=H2 at s4 hx hdx hq2';have s5:au H (upd (upd H2 dx (.own x)) x (.ins C dx [])):=(s4.upd hdx).upd (by rw [aj (Ne.symm hne)];exact hx)
 have hq5:(upd (upd H2 dx (.own x)) x (.ins C dx [])) q2=some (.lst (D.map V.int)):=by
  rw [aj (ak hq2' hx),aj (ak hq2' hdx)];exact hq2'
 refine⟨x,dx,q2,row,x1,x2,x3,D,rfl,ae,aV.of hq5,by omega,fun n H3 hn e=>⟨rfl,?_⟩⟩;subst e
 have nx:n≠x:=fun z=>by subst z;rw [ae]at hn;cases hn
 refine k x _ ?_ ⟨dx,n,ae,by rw [aj nx,ae]⟩;intro c o hc;have n1:c≠x:=ak (s4 _ _ hc) hx;rw [aj n1,aj (ak (s5 _ _ hc) hn)];exact s5 _ _ hc
theorem pG{f C:Addr}{fd:FuncData}(F:cC K "__init__" "Move.__init__" dS f fd)(T:Txt mg aM)(TC:oN K C)(DC_Rule___init__:jc P w K mg base "Rule" "__init__" 1 ["self","row"] (bO K)):az P w K mg base bH 2 f fd ["self","row","voice","numbers"] (fM K C):=by
 refine F.ok jH (fun vs H Q E h=>?_) (fun cdv A outer s H vs Q E hr h=>?_)
 ·obtain⟨x,dx,q,row,x1,D,rfl,_⟩:=h
  rfl
 obtain⟨x,dx,q,row,x1,D,rfl,hx,hq,hl,k⟩:=h
 refine⟨_,(ah (bQ (cN DC_Rule___init__ hr (by rfl) (aa (pr 0) (aa (pr 1) ag))))
 (ah (bA (pr 0) (pr 2) rfl)
 (ai (bA (pr 0) (aQ (cg K) (by rfl) T.n_list boot_list (aa (pr 3) ag)) rfl)))),?_⟩
 walk_at "rd";have ln:∀(f:Str) (v:V) (l:List (Str×V)) (n:Nat),l.length≤n→(bp f v l).length≤n+1:=fun f v l n h=>aa9 (bz f v l) (ad5 h);refine⟨x,C,dx,[],row,rfl,hx,TC.cl,TC.n1,by decide,?_⟩;refine⟨C,dx,_,ae,TC.cl,TC.n2,aa8 (ln _ _ _ _ (ab5 0)) (by decide),D.map V.int,.inl ((hq.at_ins hx).at_ins ae),fun n hn=>?_⟩
 have nx:n≠x:=fun e=>by subst e;rw [ae]at hn;cases hn
 rw [aj nx,aj nx]at hn;refine⟨C,dx,_,by rw [aj (Ne.symm nx),ae],TC.cl,TC.n3,aa8 (ln _ _ _ _ (ln _ _ _ _ (ab5 0))) (by decide),?_⟩;refine k n _ hn ?_;rw [bJ,eE];rfl
theorem tx{f C:Addr}{fd:FuncData}(F:cC K "move_of" "move_of" gR f fd)(T:Txt mg aM)(D_has_list:cn P w K mg base "has_list" 3 ["numbers","ahead"] (bM K))(D_are_voices:cn P w K mg base "are_voices" 3 ["numbers","voices"] (aU K))(DM_Move:cG P w K mg base "Move" C 2 ["self","row","voice","numbers"] (fM K C)):az P w K mg base bH 4 f fd ["row","numbers","voices"] (sf K C):=by
 refine F.ok l9 (fun vs H Q E h=>?_) (fun cdv A outer s H vs Q E hr h=>?_)
 ·obtain⟨q,row,x1,D,nv,rfl,_⟩:=h
  rfl
 obtain⟨q,row,x1,D,nv,rfl,hq,x1_1,x1_2,l1,l2,k⟩:=h
 refine⟨_,(ah (aZ (PW.pt (bG (aY (aD (aJ D_has_list hr (by rfl) (aa (pr 1) (aa af ag))) (fun _=>rfl))) (bI (aY (aD (aJ D_are_voices hr (by rfl) (aa (aG (cw K) (pr 1) aS (ck af)) (aa (pr 2) ag))) (fun _=>rfl)))))) (ai (av bg)) aF)
 (ai (av (de DM_Move hr (by rfl) (aa (pr 0) (aa (aO (bj K) (pr 1) af (fun _ _=>rfl)) (aa (aG (cw K) (pr 1) (ck af) aS) ag))))))),?_⟩
 walk_at "rd";have hs:sizeLine=16777216:=sizeLine_eq;refine⟨q,_,1,rfl,hq,?_⟩;rw [show(decide (1≤(((x1::D).map V.int).length:Int) - 1) && decide ((((x1::D).map V.int).length:Int) - 1≤12))=true by simp;omega];walk_at "rd";refine bx hq fun q1 hq1=>?_;rw [show(some (1:Int))=some ((1:Nat):Int)from rfl,bP];have s1:au H (upd H q1 (.lst ((((x1::D).map V.int)).take 1))):=ar hq1;refine⟨q1,[x1],nv,rfl,aV.of ae,by simp,fun H1 s2=>?_⟩;rw [show([x1].all fun n=>decide (1≤n) && decide (n≤nv))=true by simp;omega];walk_at "rd";have s3:=s1.trans s2;have hq3:=s3.seq hq;refine ba hq3 (bt rfl) (bx hq3 fun q2 hq2=>?_);rw [b8];show ∀x dx:Addr,_;intro x dx hx hdx hne;have s4:au H (upd H1 q2 (.lst (((x1::D).map V.int).drop 1))):=s3.upd hq2;have hq2':(upd H1 q2 (.lst (((x1::D).map V.int).drop 1))) q2=some (.lst (D.map V.int)):=ae;generalize upd H1 q2 (.lst (((x1::D).map V.int).drop 1))=H2 at s4 hx hdx hq2';have s5:au H (upd (upd H2 dx (.own x)) x (.ins C dx [])):=(s4.upd hdx).upd (by rw [aj (Ne.symm hne)];exact hx)
 have hq5:(upd (upd H2 dx (.own x)) x (.ins C dx [])) q2=some (.lst (D.map V.int)):=by
  rw [aj (ak hq2' hx),aj (ak hq2' hdx)];exact hq2'
 refine⟨x,dx,q2,row,x1,D,rfl,ae,aV.of hq5,by omega,fun n H3 hn e=>⟨rfl,?_⟩⟩;subst e
 have nx:n≠x:=fun z=>by subst z;rw [ae]at hn;cases hn
 refine k x _ ?_ ⟨dx,n,ae,by rw [aj nx,ae]⟩;intro c o hc;have n1:c≠x:=ak (s4 _ _ hc) hx;rw [aj n1,aj (ak (s5 _ _ hc) hn)];exact s5 _ _ hc
theorem mE{f C:Addr}{fd:FuncData}(F:cC K "__init__" "Alike.__init__" dB f fd)(T:Txt mg aM)(TC:kN K C)(DC_Rule___init__:jc P w K mg base "Rule" "__init__" 1 ["self","row"] (bO K)):az P w K mg base bH 2 f fd ["self","row","first","second","numbers"] (eO K C):=by
 refine F.ok iX (fun vs H Q E h=>?_) (fun cdv A outer s H vs Q E hr h=>?_)
 ·obtain⟨x,dx,q,row,x1,x2,D,rfl,_⟩:=h
  rfl
 obtain⟨x,dx,q,row,x1,x2,D,rfl,hx,hq,hl,k⟩:=h
 refine⟨_,(ah (bQ (cN DC_Rule___init__ hr (by rfl) (aa (pr 0) (aa (pr 1) ag))))
 (ah (bA (pr 0) (pr 2) rfl)
 (ah (bA (pr 0) (pr 3) rfl)
 (ai (bA (pr 0) (aQ (cg K) (by rfl) T.n_list boot_list (aa (pr 4) ag)) rfl))))),?_⟩
 walk_at "rd";have ln:∀(f:Str) (v:V) (l:List (Str×V)) (n:Nat),l.length≤n→(bp f v l).length≤n+1:=fun f v l n h=>aa9 (bz f v l) (ad5 h);refine⟨x,C,dx,[],row,rfl,hx,TC.cl,TC.n1,by decide,?_⟩;refine⟨C,dx,_,ae,TC.cl,TC.n2,aa8 (ln _ _ _ _ (ab5 0)) (by decide),C,dx,_,ae,TC.cl,TC.n3,aa8 (ln _ _ _ _ (ln _ _ _ _ (ab5 0))) (by decide),D.map V.int,.inl (((hq.at_ins hx).at_ins ae).at_ins ae),fun n hn=>?_⟩
 have nx:n≠x:=fun e=>by subst e;rw [ae]at hn;cases hn
 rw [aj nx,aj nx,aj nx]at hn;refine⟨C,dx,_,by rw [aj (Ne.symm nx),ae],TC.cl,TC.n4,aa8 (ln _ _ _ _ (ln _ _ _ _ (ln _ _ _ _ (ab5 0)))) (by decide),?_⟩;refine k n _ hn ?_;rw [bJ,bJ,eE];rfl
theorem rE{f C:Addr}{fd:FuncData}(F:cC K "alike_of" "alike_of" fw f fd)(T:Txt mg aM)(D_has_list:cn P w K mg base "has_list" 3 ["numbers","ahead"] (bM K))(D_are_voices:cn P w K mg base "are_voices" 3 ["numbers","voices"] (aU K))(DM_Alike:cG P w K mg base "Alike" C 2 ["self","row","first","second","numbers"] (eO K C)):az P w K mg base bH 4 f fd ["row","numbers","voices"] (oo K C):=by
 refine F.ok j5 (fun vs H Q E h=>?_) (fun cdv A outer s H vs Q E hr h=>?_)
 ·obtain⟨q,row,x1,x2,D,nv,rfl,_⟩:=h
  rfl
 obtain⟨q,row,x1,x2,D,nv,rfl,hq,x1_1,x1_2,x2_1,x2_2,l1,l2,k⟩:=h
 refine⟨_,(ah (aZ (PW.pt (bG (aY (aD (aJ D_has_list hr (by rfl) (aa (pr 1) (aa af ag))) (fun _=>rfl))) (bI (aY (aD (aJ D_are_voices hr (by rfl) (aa (aG (cw K) (pr 1) aS (ck af)) (aa (pr 2) ag))) (fun _=>rfl)))))) (ai (av bg)) aF)
 (ai (av (de DM_Alike hr (by rfl) (aa (pr 0) (aa (aO (bj K) (pr 1) af (fun _ _=>rfl)) (aa (aO (bj K) (pr 1) af (fun _ _=>rfl)) (aa (aG (cw K) (pr 1) (ck af) aS) ag)))))))),?_⟩
 walk_at "rd";have hs:sizeLine=16777216:=sizeLine_eq;refine⟨q,_,2,rfl,hq,?_⟩;rw [show(decide (1≤(((x1::x2::D).map V.int).length:Int) - 2) && decide ((((x1::x2::D).map V.int).length:Int) - 2≤12))=true by simp;omega];walk_at "rd";refine bx hq fun q1 hq1=>?_;rw [show(some (2:Int))=some ((2:Nat):Int)from rfl,bP];have s1:au H (upd H q1 (.lst ((((x1::x2::D).map V.int)).take 2))):=ar hq1;refine⟨q1,[x1,x2],nv,rfl,aV.of ae,by simp,fun H1 s2=>?_⟩;rw [show([x1,x2].all fun n=>decide (1≤n) && decide (n≤nv))=true by simp;omega];walk_at "rd";have s3:=s1.trans s2;have hq3:=s3.seq hq;refine ba hq3 (bt rfl) (ba hq3 (show eF _ ((1:Nat):Int)=_ from aW rfl) (bx hq3 fun q2 hq2=>?_));rw [b8];show ∀x dx:Addr,_;intro x dx hx hdx hne;have s4:au H (upd H1 q2 (.lst (((x1::x2::D).map V.int).drop 2))):=s3.upd hq2;have hq2':(upd H1 q2 (.lst (((x1::x2::D).map V.int).drop 2))) q2=some (.lst (D.map V.int)):=ae;generalize upd H1 q2 (.lst (((x1::x2::D).map V.int).drop 2))=H2 at s4 hx hdx hq2';have s5:au H (upd (upd H2 dx (.own x)) x (.ins C dx [])):=(s4.upd hdx).upd (by rw [aj (Ne.symm hne)];exact hx)
 have hq5:(upd (upd H2 dx (.own x)) x (.ins C dx [])) q2=some (.lst (D.map V.int)):=by
  rw [aj (ak hq2' hx),aj (ak hq2' hdx)];exact hq2'
 refine⟨x,dx,q2,row,x1,x2,D,rfl,ae,aV.of hq5,by omega,fun n H3 hn e=>⟨rfl,?_⟩⟩;subst e
 have nx:n≠x:=fun z=>by subst z;rw [ae]at hn;cases hn
 refine k x _ ?_ ⟨dx,n,ae,by rw [aj nx,ae]⟩;intro c o hc;have n1:c≠x:=ak (s4 _ _ hc) hx;rw [aj n1,aj (ak (s5 _ _ hc) hn)];exact s5 _ _ hc
theorem pB{f C:Addr}{fd:FuncData}(F:cC K "__init__" "Back.__init__" dQ f fd)(T:Txt mg aM)(TC:oM K C)(DC_Rule___init__:jc P w K mg base "Rule" "__init__" 1 ["self","row"] (bO K)):az P w K mg base bH 2 f fd ["self","row","voice","widest"] (fK K C):=by
 refine F.ok jF (fun vs H Q E h=>?_) (fun cdv A outer s H vs Q E hr h=>?_)
 ·obtain⟨x,dx,row,x1,x2,rfl,_⟩:=h
  rfl
 obtain⟨x,dx,row,x1,x2,rfl,hx,k⟩:=h
 refine⟨_,(ah (bQ (cN DC_Rule___init__ hr (by rfl) (aa (pr 0) (aa (pr 1) ag))))
 (ah (bA (pr 0) (pr 2) rfl)
 (ai (bA (pr 0) (pr 3) rfl)))),?_⟩
 walk_at "rd";have ln:∀(f:Str) (v:V) (l:List (Str×V)) (n:Nat),l.length≤n→(bp f v l).length≤n+1:=fun f v l n h=>aa9 (bz f v l) (ad5 h);refine⟨x,C,dx,[],row,rfl,hx,TC.cl,TC.n1,by decide,?_⟩;refine⟨C,dx,_,ae,TC.cl,TC.n2,aa8 (ln _ _ _ _ (ab5 0)) (by decide),C,dx,_,ae,TC.cl,TC.n3,aa8 (ln _ _ _ _ (ln _ _ _ _ (ab5 0))) (by decide),?_⟩;rw [bJ,bJ];exact k
theorem tm{f C:Addr}{fd:FuncData}(F:cC K "back_of" "back_of" gP f fd)(T:Txt mg aM)(D_are_voices:cn P w K mg base "are_voices" 3 ["numbers","voices"] (aU K))(DM_Back:cG P w K mg base "Back" C 2 ["self","row","voice","widest"] (fK K C)):az P w K mg base bH 4 f fd ["row","numbers","voices"] (sd K C):=by
 refine F.ok l7 (fun vs H Q E h=>?_) (fun cdv A outer s H vs Q E hr h=>?_)
 ·obtain⟨q,row,x1,x2,nv,rfl,_⟩:=h
  rfl
 obtain⟨q,row,x1,x2,nv,rfl,hq,b1,b2,b3,k⟩:=h
 refine⟨_,(ah (aZ (PW.pt (bG (bD (aA yS (aw (bh K) (by rfl) T.n_len boot_len (aa (pr 1) ag)) af (aE _))) (bG (aY (aD (aJ D_are_voices hr (by rfl) (aa (aG (cw K) (pr 1) aS (ck af)) (aa (pr 2) ag))) (fun _=>rfl))) (bI (bD (aA (o0 jA) (aO (bj K) (pr 1) af (fun _ _=>rfl)) af (aE _))))))) (ai (av bg)) aF)
 (ai (av (de DM_Back hr (by rfl) (aa (pr 0) (aa (aO (bj K) (pr 1) af (fun _ _=>rfl)) (aa (aO (bj K) (pr 1) af (fun _ _=>rfl)) ag))))))),?_⟩
 walk_at "rd";have hs:sizeLine=16777216:=sizeLine_eq;refine⟨_,.inl hq,?_⟩;walk_at "rd";rw [if_pos (show(((0:Nat)+1+1:Nat):Int)=2 from rfl)];refine bx hq fun q1 hq1=>?_;rw [show(some (1:Int))=some ((1:Nat):Int)from rfl,bP];have s1:au H (upd H q1 (.lst (([x1,x2].map V.int).take 1))):=ar hq1;refine⟨q1,[x1],nv,rfl,aV.of ae,by simp,fun H1 s2=>?_⟩;rw [show([x1].all fun n=>decide (1≤n) && decide (n≤nv))=true by simp;omega];walk_at "rd";have s3:=s1.trans s2;have hq3:=s3.seq hq;refine ba hq3 (show eF _ ((1:Nat):Int)=_ from aW rfl) ?_;walk_at "rd";rw [if_neg (show ¬(x2 < 0)by omega)];refine ba hq3 (bt rfl) (ba hq3 (show eF _ ((1:Nat):Int)=_ from aW rfl) ?_);show ∀x dx:Addr,_;intro x dx hx hdx hne;have s5:au H (upd (upd H1 dx (.own x)) x (.ins C dx [])):=(s3.upd hdx).upd (by rw [aj (Ne.symm hne)];exact hx);refine⟨x,dx,row,x1,x2,rfl,ae,rfl,?_⟩;refine k x _ ?_ ⟨dx,ae⟩;intro c o hc;rw [aj (ak (s3 _ _ hc) hx)];exact s5 _ _ hc
theorem pE{f C:Addr}{fd:FuncData}(F:cC K "__init__" "Held.__init__" dR f fd)(T:Txt mg aM)(TC:kr K C)(DC_Rule___init__:jc P w K mg base "Rule" "__init__" 1 ["self","row"] (bO K)):az P w K mg base bH 2 f fd ["self","row","voice","most"] (fL K C):=by
 refine F.ok jG (fun vs H Q E h=>?_) (fun cdv A outer s H vs Q E hr h=>?_)
 ·obtain⟨x,dx,row,x1,x2,rfl,_⟩:=h
  rfl
 obtain⟨x,dx,row,x1,x2,rfl,hx,k⟩:=h
 refine⟨_,(ah (bQ (cN DC_Rule___init__ hr (by rfl) (aa (pr 0) (aa (pr 1) ag))))
 (ah (bA (pr 0) (pr 2) rfl)
 (ai (bA (pr 0) (pr 3) rfl)))),?_⟩
 walk_at "rd";have ln:∀(f:Str) (v:V) (l:List (Str×V)) (n:Nat),l.length≤n→(bp f v l).length≤n+1:=fun f v l n h=>aa9 (bz f v l) (ad5 h);refine⟨x,C,dx,[],row,rfl,hx,TC.cl,TC.n1,by decide,?_⟩;refine⟨C,dx,_,ae,TC.cl,TC.n2,aa8 (ln _ _ _ _ (ab5 0)) (by decide),C,dx,_,ae,TC.cl,TC.n3,aa8 (ln _ _ _ _ (ln _ _ _ _ (ab5 0))) (by decide),?_⟩;rw [bJ,bJ];exact k
theorem tu{f C:Addr}{fd:FuncData}(F:cC K "held_of" "held_of" gQ f fd)(T:Txt mg aM)(D_are_voices:cn P w K mg base "are_voices" 3 ["numbers","voices"] (aU K))(DM_Held:cG P w K mg base "Held" C 2 ["self","row","voice","most"] (fL K C)):az P w K mg base bH 4 f fd ["row","numbers","voices"] (se K C):=by
 refine F.ok l8 (fun vs H Q E h=>?_) (fun cdv A outer s H vs Q E hr h=>?_)
 ·obtain⟨q,row,x1,x2,nv,rfl,_⟩:=h
  rfl
 obtain⟨q,row,x1,x2,nv,rfl,hq,b1,b2,b3,k⟩:=h
 refine⟨_,(ah (aZ (PW.pt (bG (bD (aA yS (aw (bh K) (by rfl) T.n_len boot_len (aa (pr 1) ag)) af (aE _))) (bG (aY (aD (aJ D_are_voices hr (by rfl) (aa (aG (cw K) (pr 1) aS (ck af)) (aa (pr 2) ag))) (fun _=>rfl))) (bI (bD (aA (o0 jA) (aO (bj K) (pr 1) af (fun _ _=>rfl)) af (aE _))))))) (ai (av bg)) aF)
 (ai (av (de DM_Held hr (by rfl) (aa (pr 0) (aa (aO (bj K) (pr 1) af (fun _ _=>rfl)) (aa (aO (bj K) (pr 1) af (fun _ _=>rfl)) ag))))))),?_⟩
 walk_at "rd";have hs:sizeLine=16777216:=sizeLine_eq;refine⟨_,.inl hq,?_⟩;walk_at "rd";rw [if_pos (show(((0:Nat)+1+1:Nat):Int)=2 from rfl)];refine bx hq fun q1 hq1=>?_;rw [show(some (1:Int))=some ((1:Nat):Int)from rfl,bP];have s1:au H (upd H q1 (.lst (([x1,x2].map V.int).take 1))):=ar hq1;refine⟨q1,[x1],nv,rfl,aV.of ae,by simp,fun H1 s2=>?_⟩;rw [show([x1].all fun n=>decide (1≤n) && decide (n≤nv))=true by simp;omega];walk_at "rd";have s3:=s1.trans s2;have hq3:=s3.seq hq;refine ba hq3 (show eF _ ((1:Nat):Int)=_ from aW rfl) ?_;walk_at "rd";rw [if_neg (show ¬(x2 < 1)by omega)];refine ba hq3 (bt rfl) (ba hq3 (show eF _ ((1:Nat):Int)=_ from aW rfl) ?_);show ∀x dx:Addr,_;intro x dx hx hdx hne;have s5:au H (upd (upd H1 dx (.own x)) x (.ins C dx [])):=(s3.upd hdx).upd (by rw [aj (Ne.symm hne)];exact hx);refine⟨x,dx,row,x1,x2,rfl,ae,rfl,?_⟩;refine k x _ ?_ ⟨dx,ae⟩;intro c o hc;rw [aj (ak (s3 _ _ hc) hx)];exact s5 _ _ hc
theorem mL{f C:Addr}{fd:FuncData}(F:cC K "__init__" "Times.__init__" dH f fd)(T:Txt mg aM)(TC:iD K C)(DC_Rule___init__:jc P w K mg base "Rule" "__init__" 1 ["self","row"] (bO K)):az P w K mg base bH 2 f fd ["self","row","voice","note","fewest","most"] (eT K C):=by
 refine F.ok i6 (fun vs H Q E h=>?_) (fun cdv A outer s H vs Q E hr h=>?_)
 ·obtain⟨x,dx,row,x1,x2,x3,x4,rfl,_⟩:=h
  rfl
 obtain⟨x,dx,row,x1,x2,x3,x4,rfl,hx,k⟩:=h
 refine⟨_,(ah (bQ (cN DC_Rule___init__ hr (by rfl) (aa (pr 0) (aa (pr 1) ag))))
 (ah (bA (pr 0) (pr 2) rfl)
 (ah (bA (pr 0) (pr 3) rfl)
 (ah (bA (pr 0) (pr 4) rfl)
 (ai (bA (pr 0) (pr 5) rfl)))))),?_⟩
 walk_at "rd";have ln:∀(f:Str) (v:V) (l:List (Str×V)) (n:Nat),l.length≤n→(bp f v l).length≤n+1:=fun f v l n h=>aa9 (bz f v l) (ad5 h);refine⟨x,C,dx,[],row,rfl,hx,TC.cl,TC.n1,by decide,?_⟩;refine⟨C,dx,_,ae,TC.cl,TC.n2,aa8 (ln _ _ _ _ (ab5 0)) (by decide),C,dx,_,ae,TC.cl,TC.n3,aa8 (ln _ _ _ _ (ln _ _ _ _ (ab5 0))) (by decide),C,dx,_,ae,TC.cl,TC.n4,aa8 (ln _ _ _ _ (ln _ _ _ _ (ln _ _ _ _ (ab5 0)))) (by decide),C,dx,_,ae,TC.cl,TC.n5,aa8 (ln _ _ _ _ (ln _ _ _ _ (ln _ _ _ _ (ln _ _ _ _ (ab5 0))))) (by decide),?_⟩;rw [bJ,bJ,bJ,bJ];exact k
theorem mF{f C:Addr}{fd:FuncData}(F:cC K "__init__" "Begin.__init__" dC f fd)(T:Txt mg aM)(TC:kO K C)(DC_Rule___init__:jc P w K mg base "Rule" "__init__" 1 ["self","row"] (bO K)):az P w K mg base bH 2 f fd ["self","row","voice","notes"] (eP K C):=by
 refine F.ok iY (fun vs H Q E h=>?_) (fun cdv A outer s H vs Q E hr h=>?_)
 ·obtain⟨x,dx,q,row,x1,D,rfl,_⟩:=h
  rfl
 obtain⟨x,dx,q,row,x1,D,rfl,hx,hq,hl,k⟩:=h
 refine⟨_,(ah (bQ (cN DC_Rule___init__ hr (by rfl) (aa (pr 0) (aa (pr 1) ag))))
 (ah (bA (pr 0) (pr 2) rfl)
 (ai (bA (pr 0) (aQ (cg K) (by rfl) T.n_list boot_list (aa (pr 3) ag)) rfl)))),?_⟩
 walk_at "rd";have ln:∀(f:Str) (v:V) (l:List (Str×V)) (n:Nat),l.length≤n→(bp f v l).length≤n+1:=fun f v l n h=>aa9 (bz f v l) (ad5 h);refine⟨x,C,dx,[],row,rfl,hx,TC.cl,TC.n1,by decide,?_⟩;refine⟨C,dx,_,ae,TC.cl,TC.n2,aa8 (ln _ _ _ _ (ab5 0)) (by decide),D.map V.int,.inl ((hq.at_ins hx).at_ins ae),fun n hn=>?_⟩
 have nx:n≠x:=fun e=>by subst e;rw [ae]at hn;cases hn
 rw [aj nx,aj nx]at hn;refine⟨C,dx,_,by rw [aj (Ne.symm nx),ae],TC.cl,TC.n3,aa8 (ln _ _ _ _ (ln _ _ _ _ (ab5 0))) (by decide),?_⟩;refine k n _ hn ?_;rw [bJ,eE];rfl
theorem rH{f C:Addr}{fd:FuncData}(F:cC K "begin_of" "begin_of" fB f fd)(T:Txt mg aM)(D_has_list:cn P w K mg base "has_list" 3 ["numbers","ahead"] (bM K))(D_are_voices:cn P w K mg base "are_voices" 3 ["numbers","voices"] (aU K))(DM_Begin:cG P w K mg base "Begin" C 2 ["self","row","voice","notes"] (eP K C)):az P w K mg base bH 4 f fd ["row","numbers","voices"] (ou K C):=by
 refine F.ok j6 (fun vs H Q E h=>?_) (fun cdv A outer s H vs Q E hr h=>?_)
 ·obtain⟨q,row,x1,D,nv,rfl,_⟩:=h
  rfl
 obtain⟨q,row,x1,D,nv,rfl,hq,x1_1,x1_2,l1,l2,k⟩:=h
 refine⟨_,(ah (aZ (PW.pt (bG (aY (aD (aJ D_has_list hr (by rfl) (aa (pr 1) (aa af ag))) (fun _=>rfl))) (bI (aY (aD (aJ D_are_voices hr (by rfl) (aa (aG (cw K) (pr 1) aS (ck af)) (aa (pr 2) ag))) (fun _=>rfl)))))) (ai (av bg)) aF)
 (ai (av (de DM_Begin hr (by rfl) (aa (pr 0) (aa (aO (bj K) (pr 1) af (fun _ _=>rfl)) (aa (aG (cw K) (pr 1) (ck af) aS) ag))))))),?_⟩
 walk_at "rd";have hs:sizeLine=16777216:=sizeLine_eq;refine⟨q,_,1,rfl,hq,?_⟩;rw [show(decide (1≤(((x1::D).map V.int).length:Int) - 1) && decide ((((x1::D).map V.int).length:Int) - 1≤12))=true by simp;omega];walk_at "rd";refine bx hq fun q1 hq1=>?_;rw [show(some (1:Int))=some ((1:Nat):Int)from rfl,bP];have s1:au H (upd H q1 (.lst ((((x1::D).map V.int)).take 1))):=ar hq1;refine⟨q1,[x1],nv,rfl,aV.of ae,by simp,fun H1 s2=>?_⟩;rw [show([x1].all fun n=>decide (1≤n) && decide (n≤nv))=true by simp;omega];walk_at "rd";have s3:=s1.trans s2;have hq3:=s3.seq hq;refine ba hq3 (bt rfl) (bx hq3 fun q2 hq2=>?_);rw [b8];show ∀x dx:Addr,_;intro x dx hx hdx hne;have s4:au H (upd H1 q2 (.lst (((x1::D).map V.int).drop 1))):=s3.upd hq2;have hq2':(upd H1 q2 (.lst (((x1::D).map V.int).drop 1))) q2=some (.lst (D.map V.int)):=ae;generalize upd H1 q2 (.lst (((x1::D).map V.int).drop 1))=H2 at s4 hx hdx hq2';have s5:au H (upd (upd H2 dx (.own x)) x (.ins C dx [])):=(s4.upd hdx).upd (by rw [aj (Ne.symm hne)];exact hx)
 have hq5:(upd (upd H2 dx (.own x)) x (.ins C dx [])) q2=some (.lst (D.map V.int)):=by
  rw [aj (ak hq2' hx),aj (ak hq2' hdx)];exact hq2'
 refine⟨x,dx,q2,row,x1,D,rfl,ae,aV.of hq5,by omega,fun n H3 hn e=>⟨rfl,?_⟩⟩;subst e
 have nx:n≠x:=fun z=>by subst z;rw [ae]at hn;cases hn
 refine k x _ ?_ ⟨dx,n,ae,by rw [aj nx,ae]⟩;intro c o hc;have n1:c≠x:=ak (s4 _ _ hc) hx;rw [aj n1,aj (ak (s5 _ _ hc) hn)];exact s5 _ _ hc
theorem mH{f C:Addr}{fd:FuncData}(F:cC K "__init__" "Close.__init__" dE f fd)(T:Txt mg aM)(TC:kQ K C)(DC_Rule___init__:jc P w K mg base "Rule" "__init__" 1 ["self","row"] (bO K)):az P w K mg base bH 2 f fd ["self","row","voice","notes"] (eS K C):=by
 refine F.ok i3 (fun vs H Q E h=>?_) (fun cdv A outer s H vs Q E hr h=>?_)
 ·obtain⟨x,dx,q,row,x1,D,rfl,_⟩:=h
  rfl
 obtain⟨x,dx,q,row,x1,D,rfl,hx,hq,hl,k⟩:=h
 refine⟨_,(ah (bQ (cN DC_Rule___init__ hr (by rfl) (aa (pr 0) (aa (pr 1) ag))))
 (ah (bA (pr 0) (pr 2) rfl)
 (ai (bA (pr 0) (aQ (cg K) (by rfl) T.n_list boot_list (aa (pr 3) ag)) rfl)))),?_⟩
 walk_at "rd";have ln:∀(f:Str) (v:V) (l:List (Str×V)) (n:Nat),l.length≤n→(bp f v l).length≤n+1:=fun f v l n h=>aa9 (bz f v l) (ad5 h);refine⟨x,C,dx,[],row,rfl,hx,TC.cl,TC.n1,by decide,?_⟩;refine⟨C,dx,_,ae,TC.cl,TC.n2,aa8 (ln _ _ _ _ (ab5 0)) (by decide),D.map V.int,.inl ((hq.at_ins hx).at_ins ae),fun n hn=>?_⟩
 have nx:n≠x:=fun e=>by subst e;rw [ae]at hn;cases hn
 rw [aj nx,aj nx]at hn;refine⟨C,dx,_,by rw [aj (Ne.symm nx),ae],TC.cl,TC.n3,aa8 (ln _ _ _ _ (ln _ _ _ _ (ab5 0))) (by decide),?_⟩;refine k n _ hn ?_;rw [bJ,eE];rfl
theorem rM{f C:Addr}{fd:FuncData}(F:cC K "close_of" "close_of" fE f fd)(T:Txt mg aM)(D_has_list:cn P w K mg base "has_list" 3 ["numbers","ahead"] (bM K))(D_are_voices:cn P w K mg base "are_voices" 3 ["numbers","voices"] (aU K))(DM_Close:cG P w K mg base "Close" C 2 ["self","row","voice","notes"] (eS K C)):az P w K mg base bH 4 f fd ["row","numbers","voices"] (ox K C):=by
 refine F.ok j8 (fun vs H Q E h=>?_) (fun cdv A outer s H vs Q E hr h=>?_)
 ·obtain⟨q,row,x1,D,nv,rfl,_⟩:=h
  rfl
 obtain⟨q,row,x1,D,nv,rfl,hq,x1_1,x1_2,l1,l2,k⟩:=h
 refine⟨_,(ah (aZ (PW.pt (bG (aY (aD (aJ D_has_list hr (by rfl) (aa (pr 1) (aa af ag))) (fun _=>rfl))) (bI (aY (aD (aJ D_are_voices hr (by rfl) (aa (aG (cw K) (pr 1) aS (ck af)) (aa (pr 2) ag))) (fun _=>rfl)))))) (ai (av bg)) aF)
 (ai (av (de DM_Close hr (by rfl) (aa (pr 0) (aa (aO (bj K) (pr 1) af (fun _ _=>rfl)) (aa (aG (cw K) (pr 1) (ck af) aS) ag))))))),?_⟩
 walk_at "rd";have hs:sizeLine=16777216:=sizeLine_eq;refine⟨q,_,1,rfl,hq,?_⟩;rw [show(decide (1≤(((x1::D).map V.int).length:Int) - 1) && decide ((((x1::D).map V.int).length:Int) - 1≤12))=true by simp;omega];walk_at "rd";refine bx hq fun q1 hq1=>?_;rw [show(some (1:Int))=some ((1:Nat):Int)from rfl,bP];have s1:au H (upd H q1 (.lst ((((x1::D).map V.int)).take 1))):=ar hq1;refine⟨q1,[x1],nv,rfl,aV.of ae,by simp,fun H1 s2=>?_⟩;rw [show([x1].all fun n=>decide (1≤n) && decide (n≤nv))=true by simp;omega];walk_at "rd";have s3:=s1.trans s2;have hq3:=s3.seq hq;refine ba hq3 (bt rfl) (bx hq3 fun q2 hq2=>?_);rw [b8];show ∀x dx:Addr,_;intro x dx hx hdx hne;have s4:au H (upd H1 q2 (.lst (((x1::D).map V.int).drop 1))):=s3.upd hq2;have hq2':(upd H1 q2 (.lst (((x1::D).map V.int).drop 1))) q2=some (.lst (D.map V.int)):=ae;generalize upd H1 q2 (.lst (((x1::D).map V.int).drop 1))=H2 at s4 hx hdx hq2';have s5:au H (upd (upd H2 dx (.own x)) x (.ins C dx [])):=(s4.upd hdx).upd (by rw [aj (Ne.symm hne)];exact hx)
 have hq5:(upd (upd H2 dx (.own x)) x (.ins C dx [])) q2=some (.lst (D.map V.int)):=by
  rw [aj (ak hq2' hx),aj (ak hq2' hdx)];exact hq2'
 refine⟨x,dx,q2,row,x1,D,rfl,ae,aV.of hq5,by omega,fun n H3 hn e=>⟨rfl,?_⟩⟩;subst e
 have nx:n≠x:=fun z=>by subst z;rw [ae]at hn;cases hn
 refine k x _ ?_ ⟨dx,n,ae,by rw [aj nx,ae]⟩;intro c o hc;have n1:c≠x:=ak (s4 _ _ hc) hx;rw [aj n1,aj (ak (s5 _ _ hc) hn)];exact s5 _ _ hc
theorem rP{f C:Addr}{fd:FuncData}(F:cC K "times_of" "times_of" fJ f fd)(T:Txt mg aM)(D_are_voices:cn P w K mg base "are_voices" 3 ["numbers","voices"] (aU K))(DM_Times:cG P w K mg base "Times" C 2 ["self","row","voice","note","fewest","most"] (eT K C)):az P w K mg base bH 4 f fd ["row","numbers","voices"] (oy K C):=by
 refine F.ok j9 (fun vs H Q E h=>?_) (fun cdv A outer s H vs Q E hr h=>?_)
 ·obtain⟨q,row,x1,x2,x3,x4,nv,rfl,_⟩:=h
  rfl
 obtain⟨q,row,x1,x2,x3,x4,nv,rfl,hq,b1,b2,b3,b4,k⟩:=h
 refine⟨_,(ah (aZ (PW.pt (bG (bD (aA yS (aw (bh K) (by rfl) T.n_len boot_len (aa (pr 1) ag)) af (aE _))) (bG (aY (aD (aJ D_are_voices hr (by rfl) (aa (aG (cw K) (pr 1) aS (ck af)) (aa (pr 2) ag))) (fun _=>rfl))) (bI (bD (aA (o0 jA) (aw (nk rfl K) (by rfl) T.n_min boot_min (aa (aG (cw K) (pr 1) (ck af) aS) ag)) af (aE _))))))) (ai (av bg)) aF)
 (ai (av (de DM_Times hr (by rfl) (aa (pr 0) (aa (aO (bj K) (pr 1) af (fun _ _=>rfl)) (aa (aO (bj K) (pr 1) af (fun _ _=>rfl)) (aa (aO (bj K) (pr 1) af (fun _ _=>rfl)) (aa (aO (bj K) (pr 1) af (fun _ _=>rfl)) ag))))))))),?_⟩
 walk_at "rd";have hs:sizeLine=16777216:=sizeLine_eq;refine⟨_,.inl hq,?_⟩;walk_at "rd";rw [if_pos (show(((0:Nat)+1+1+1+1:Nat):Int)=4 from rfl)];refine bx hq fun q1 hq1=>?_;rw [show(some (1:Int))=some ((1:Nat):Int)from rfl,bP];have s1:au H (upd H q1 (.lst (([x1,x2,x3,x4].map V.int).take 1))):=ar hq1;refine⟨q1,[x1],nv,rfl,aV.of ae,by simp,fun H1 s2=>?_⟩;rw [show([x1].all fun n=>decide (1≤n) && decide (n≤nv))=true by simp;omega];walk_at "rd";have s3:=s1.trans s2;have hq3:=s3.seq hq;refine bx hq3 fun q4 hq4=>?_;rw [show(some (2:Int))=some ((2:Nat):Int)from rfl,b8];have s4:au H (upd H1 q4 (.lst (([x1,x2,x3,x4].map V.int).drop 2))):=s3.upd hq4;have hm:(upd H1 q4 (.lst (([x1,x2,x3,x4].map V.int).drop 2))) q4=some (.lst ([x3,x4].map V.int)):=ae;generalize upd H1 q4 (.lst (([x1,x2,x3,x4].map V.int).drop 2))=H2 at s4 hm;refine⟨q4,rfl,[x3,x4],aV.of hm,by simp,fun i hi _=>?_⟩
 have hi0:0≤i:=by
  rcases aa5.mp hi with rfl | hi
  ·exact b3
  ·rw [ac9.mp hi];exact b4
 walk_at "rd";rw [if_neg (show ¬(i < 0)by omega)];have hq5:=s4.seq hq;refine ba hq5 (bt rfl) (ba hq5 (show eF _ ((1:Nat):Int)=_ from aW rfl) (ba hq5 (show eF _ ((2:Nat):Int)=_ from aW rfl) (ba hq5 (show eF _ ((3:Nat):Int)=_ from aW rfl) ?_)));show ∀x dx:Addr,_;intro x dx hx hdx hne;have s5:au H (upd (upd H2 dx (.own x)) x (.ins C dx [])):=(s4.upd hdx).upd (by rw [aj (Ne.symm hne)];exact hx);refine⟨x,dx,row,x1,x2,x3,x4,rfl,ae,rfl,?_⟩;refine k x _ ?_ ⟨dx,ae⟩;intro c o hc;rw [aj (ak (s4 _ _ hc) hx)];exact s5 _ _ hc
theorem mM{f C:Addr}{fd:FuncData}{row:Str}{x1 x2 x3 x4:Int}(F:cC K "size" "Times.size" fv f fd)(TC:iD K C):az P w K mg base bH 1 f fd ["self"] (jN (gx C row x1 x2 x3 x4) (.int (x4+1))):=by
 refine F.ok mU (fun vs H Q E h=>?_) (fun cdv A outer s H vs Q E hr h=>?_)
 ·obtain⟨r,rfl,_⟩:=h
  rfl
 obtain⟨r,rfl,⟨dx,hr1⟩,k⟩:=h;refine⟨_,(ai (av (ao (aX K) (gd (pr 0) rfl) af))),?_⟩;walk_at "rd"
 have l5:(eY row x1 x2 x3 x4).lookup (Str.ofString "most")=some (.int x4):=by unfold eY;walk_at "flds"
 refine⟨C,dx,_,hr1,TC.cl,TC.n5,_,l5,?_⟩;walk_at "rd";exact k
theorem pF{f C:Addr}{fd:FuncData}{row:Str}{x1 x2:Int}(F:cC K "size" "Held.size" gg f fd)(TC:kr K C):az P w K mg base bH 1 f fd ["self"] (jN (jg C row x1 x2) (.int x2)):=by
 refine F.ok p8 (fun vs H Q E h=>?_) (fun cdv A outer s H vs Q E hr h=>?_)
 ·obtain⟨r,rfl,_⟩:=h
  rfl
 obtain⟨r,rfl,⟨dx,hr1⟩,k⟩:=h;refine⟨_,(ai (av (gd (pr 0) rfl))),?_⟩;walk_at "rd"
 have l2:(fV row x1 x2).lookup (Str.ofString "most")=some (.int x2):=by unfold fV;walk_at "flds"
 exact⟨C,dx,_,hr1,TC.cl,TC.n3,_,l2,k⟩
theorem pC{f:Addr}{fd:FuncData}(F:cC K "size" "Back.size" gf f fd):az P w K mg base bH 1 f fd ["self"] (dJ 1 fun _=>.int 3):=by
 refine F.ok p7 (fun vs H Q E h=>h.1) (fun cdv A outer s H vs Q E hr h=>?_);obtain⟨hl,k⟩:=h
 match vs,hl with
 | [a],_=>
 refine⟨_,(ai (av af)),?_⟩;walk_at "rd";exact k
theorem mI{f C:Addr}{fd:FuncData}(F:cC K "__init__" "Every.__init__" dF f fd)(T:Txt mg aM)(TC:iC K C)(DC_Rule___init__:jc P w K mg base "Rule" "__init__" 1 ["self","row"] (bO K)):az P w K mg base bH 2 f fd ["self","row","turns","turn","inner"] (gp K C):=by
 refine F.ok i4 (fun vs H Q E h=>?_) (fun cdv A outer s H vs Q E hr h=>?_)
 ·obtain⟨x,dx,ri,row,t,u,rfl,_⟩:=h
  rfl
 obtain⟨x,dx,ri,row,t,u,rfl,hx,k⟩:=h
 refine⟨_,(ah (bQ (cN DC_Rule___init__ hr (by rfl) (aa (pr 0) (aa (pr 1) ag))))
 (ah (bA (pr 0) (pr 2) rfl)
 (ah (bA (pr 0) (pr 3) rfl)
 (ai (bA (pr 0) (pr 4) rfl))))),?_⟩
 walk_at "rd";have ln:∀(f:Str) (v:V) (l:List (Str×V)) (n:Nat),l.length≤n→(bp f v l).length≤n+1:=fun f v l n h=>aa9 (bz f v l) (ad5 h);refine⟨x,C,dx,[],row,rfl,hx,TC.cl,TC.n1,by decide,?_⟩;refine⟨C,dx,_,ae,TC.cl,TC.n2,aa8 (ln _ _ _ _ (ab5 0)) (by decide),C,dx,_,ae,TC.cl,TC.n3,aa8 (ln _ _ _ _ (ln _ _ _ _ (ab5 0))) (by decide),C,dx,_,ae,TC.cl,TC.n4,aa8 (ln _ _ _ _ (ln _ _ _ _ (ln _ _ _ _ (ab5 0)))) (by decide),?_⟩;rw [bJ,bJ,bJ];exact k
theorem mJ{f C:Addr}{fd:FuncData}{row:Str}{t u:Int}{RIn:qK}(F:cC K "size" "Every.size" fu f fd)(TC:iC K C):az P w K mg base bH 1 f fd ["self"] (jN (ku C row t u RIn) (.int t)):=by
 refine F.ok mS (fun vs H Q E h=>?_) (fun cdv A outer s H vs Q E hr h=>?_)
 ·obtain⟨r,rfl,_⟩:=h
  rfl
 obtain⟨r,rfl,⟨dx,ri,hr1,_⟩,k⟩:=h;refine⟨_,(ai (av (gd (pr 0) rfl))),?_⟩;walk_at "rd"
 have l2:(dv row t u ri).lookup (Str.ofString "turns")=some (.int t):=by unfold dv;walk_at "flds"
 exact⟨C,dx,_,hr1,TC.cl,TC.n2,_,l2,k⟩
end
section
variable {P:Program} {w:World} {K:Frag} {mg:Str→Option Value} {base:Heap} {aM:Addr}
theorem fZ{j:Nat}{nv:Int}{ns:List Int}(h:da j nv ns=none)(h1:qG ns j=true):(ns.take j).all (oH nv)=false:=by
 unfold da at h
 cases hb:(ns.take j).all (oH nv)with
 | false=>rfl
 | true=>rw [if_pos ⟨h1,hb⟩]at h;cases h
theorem sT{ns:List Int}{j:Nat}(h:j < ns.length):(ns.map V.int)[j]?=some (.int (ns.getD j 0)):=by
 rw [ac2,ab3 h,ad3,ab3 h];rfl
theorem d9{ns:List Int}{j:Int}(h:¬qG ns j=true):qG ns j=false:=by
 cases hb:qG ns j with
 | true=>exact absurd hb h
 | false=>rfl
theorem gy{ns:List Int}{nv:Int}(h:¬ns.all (oH nv)=true):(ns.all fun n=>decide (1≤n) && decide (n≤nv))=false:=by
 cases hb:ns.all (oH nv)with
 | true=>exact absurd hb h
 | false=>exact hb
theorem yI{ns:List Int}(h:ns.length=2):∃a b,ns=[a,b]:=by
 match ns,h with
 | [a,b],_=>exact⟨a,b,rfl⟩
theorem ux{ns:List Int}(h:ns.length=4):∃a b c d,ns=[a,b,c,d]:=by
 match ns,h with
 | [a,b,c,d],_=>exact⟨a,b,c,d,rfl⟩
theorem tE{f C:Addr}{fd:FuncData}(F:cC K "span_of" "span_of" gT f fd)(T:Txt mg aM)(D_has_list:cn P w K mg base "has_list" 3 ["numbers","ahead"] (bM K))(D_are_voices:cn P w K mg base "are_voices" 3 ["numbers","voices"] (aU K))(DM_Span:cG P w K mg base "Span" C 2 ["self","row","first","second","numbers"] (fN K C)):az P w K mg base bH 4 f fd ["row","numbers","voices"] (fS K (da 2)):=by
 refine F.ok ma (fun vs H Q E h=>?_) (fun cdv A outer s H vs Q E hr h=>?_)
 ·obtain⟨q,row,ns,nv,rfl,_⟩:=h
  rfl
 obtain⟨q,row,ns,nv,rfl,hq,hl,hm,k⟩:=h
 refine⟨_,(ah (aZ (PW.pt (bG (aY (aD (aJ D_has_list hr (by rfl) (aa (pr 1) (aa af ag))) (fun _=>rfl))) (bI (aY (aD (aJ D_are_voices hr (by rfl) (aa (aG (cw K) (pr 1) aS (ck af)) (aa (pr 2) ag))) (fun _=>rfl)))))) (ai (av bg)) aF)
 (ai (av (de DM_Span hr (by rfl) (aa (pr 0) (aa (aO (bj K) (pr 1) af (fun _ _=>rfl)) (aa (aO (bj K) (pr 1) af (fun _ _=>rfl)) (aa (aG (cw K) (pr 1) (ck af) aS) ag)))))))),?_⟩
 walk_at "rd";have hs:sizeLine=16777216:=sizeLine_eq;refine⟨q,_,2,rfl,hq,?_⟩;rw [aa0]
 by_cases h1:qG ns 2=true
 ·rw [show(decide (1≤(ns.length:Int) - 2) && decide ((ns.length:Int) - 2≤12))=true from h1]
  walk_at "rd";refine bx hq fun q1 hq1=>?_;rw [show(some (2:Int))=some ((2:Nat):Int)from rfl,bP,←ae5];have s1:au H (upd H q1 (.lst ((ns.take 2).map V.int))):=ar hq1;refine⟨q1,ns.take 2,nv,rfl,aV.of ae,by simp;omega,fun H1 s2=>?_⟩;rw [show((ns.take 2).all fun n=>decide (1≤n) && decide (n≤nv))=false from fZ hm h1];walk_at "rd";exact k _ (s1.trans s2)
 ·rw [show(decide (1≤(ns.length:Int) - 2) && decide ((ns.length:Int) - 2≤12))=false from d9 h1]
  walk_at "rd";exact k _ (fun _ _ h=>h)
theorem rD{f C:Addr}{fd:FuncData}(F:cC K "alike_of" "alike_of" fw f fd)(T:Txt mg aM)(D_has_list:cn P w K mg base "has_list" 3 ["numbers","ahead"] (bM K))(D_are_voices:cn P w K mg base "are_voices" 3 ["numbers","voices"] (aU K))(DM_Alike:cG P w K mg base "Alike" C 2 ["self","row","first","second","numbers"] (eO K C)):az P w K mg base bH 4 f fd ["row","numbers","voices"] (fS K (da 2)):=by
 refine F.ok j5 (fun vs H Q E h=>?_) (fun cdv A outer s H vs Q E hr h=>?_)
 ·obtain⟨q,row,ns,nv,rfl,_⟩:=h
  rfl
 obtain⟨q,row,ns,nv,rfl,hq,hl,hm,k⟩:=h
 refine⟨_,(ah (aZ (PW.pt (bG (aY (aD (aJ D_has_list hr (by rfl) (aa (pr 1) (aa af ag))) (fun _=>rfl))) (bI (aY (aD (aJ D_are_voices hr (by rfl) (aa (aG (cw K) (pr 1) aS (ck af)) (aa (pr 2) ag))) (fun _=>rfl)))))) (ai (av bg)) aF)
 (ai (av (de DM_Alike hr (by rfl) (aa (pr 0) (aa (aO (bj K) (pr 1) af (fun _ _=>rfl)) (aa (aO (bj K) (pr 1) af (fun _ _=>rfl)) (aa (aG (cw K) (pr 1) (ck af) aS) ag)))))))),?_⟩
 walk_at "rd";have hs:sizeLine=16777216:=sizeLine_eq;refine⟨q,_,2,rfl,hq,?_⟩;rw [aa0]
 by_cases h1:qG ns 2=true
 ·rw [show(decide (1≤(ns.length:Int) - 2) && decide ((ns.length:Int) - 2≤12))=true from h1]
  walk_at "rd";refine bx hq fun q1 hq1=>?_;rw [show(some (2:Int))=some ((2:Nat):Int)from rfl,bP,←ae5];have s1:au H (upd H q1 (.lst ((ns.take 2).map V.int))):=ar hq1;refine⟨q1,ns.take 2,nv,rfl,aV.of ae,by simp;omega,fun H1 s2=>?_⟩;rw [show((ns.take 2).all fun n=>decide (1≤n) && decide (n≤nv))=false from fZ hm h1];walk_at "rd";exact k _ (s1.trans s2)
 ·rw [show(decide (1≤(ns.length:Int) - 2) && decide ((ns.length:Int) - 2≤12))=false from d9 h1]
  walk_at "rd";exact k _ (fun _ _ h=>h)
theorem tw{f C:Addr}{fd:FuncData}(F:cC K "move_of" "move_of" gR f fd)(T:Txt mg aM)(D_has_list:cn P w K mg base "has_list" 3 ["numbers","ahead"] (bM K))(D_are_voices:cn P w K mg base "are_voices" 3 ["numbers","voices"] (aU K))(DM_Move:cG P w K mg base "Move" C 2 ["self","row","voice","numbers"] (fM K C)):az P w K mg base bH 4 f fd ["row","numbers","voices"] (fS K (da 1)):=by
 refine F.ok l9 (fun vs H Q E h=>?_) (fun cdv A outer s H vs Q E hr h=>?_)
 ·obtain⟨q,row,ns,nv,rfl,_⟩:=h
  rfl
 obtain⟨q,row,ns,nv,rfl,hq,hl,hm,k⟩:=h
 refine⟨_,(ah (aZ (PW.pt (bG (aY (aD (aJ D_has_list hr (by rfl) (aa (pr 1) (aa af ag))) (fun _=>rfl))) (bI (aY (aD (aJ D_are_voices hr (by rfl) (aa (aG (cw K) (pr 1) aS (ck af)) (aa (pr 2) ag))) (fun _=>rfl)))))) (ai (av bg)) aF)
 (ai (av (de DM_Move hr (by rfl) (aa (pr 0) (aa (aO (bj K) (pr 1) af (fun _ _=>rfl)) (aa (aG (cw K) (pr 1) (ck af) aS) ag))))))),?_⟩
 walk_at "rd";have hs:sizeLine=16777216:=sizeLine_eq;refine⟨q,_,1,rfl,hq,?_⟩;rw [aa0]
 by_cases h1:qG ns 1=true
 ·rw [show(decide (1≤(ns.length:Int) - 1) && decide ((ns.length:Int) - 1≤12))=true from h1]
  walk_at "rd";refine bx hq fun q1 hq1=>?_;rw [show(some (1:Int))=some ((1:Nat):Int)from rfl,bP,←ae5];have s1:au H (upd H q1 (.lst ((ns.take 1).map V.int))):=ar hq1;refine⟨q1,ns.take 1,nv,rfl,aV.of ae,by simp;omega,fun H1 s2=>?_⟩;rw [show((ns.take 1).all fun n=>decide (1≤n) && decide (n≤nv))=false from fZ hm h1];walk_at "rd";exact k _ (s1.trans s2)
 ·rw [show(decide (1≤(ns.length:Int) - 1) && decide ((ns.length:Int) - 1≤12))=false from d9 h1]
  walk_at "rd";exact k _ (fun _ _ h=>h)
theorem rG{f C:Addr}{fd:FuncData}(F:cC K "begin_of" "begin_of" fB f fd)(T:Txt mg aM)(D_has_list:cn P w K mg base "has_list" 3 ["numbers","ahead"] (bM K))(D_are_voices:cn P w K mg base "are_voices" 3 ["numbers","voices"] (aU K))(DM_Begin:cG P w K mg base "Begin" C 2 ["self","row","voice","notes"] (eP K C)):az P w K mg base bH 4 f fd ["row","numbers","voices"] (fS K (da 1)):=by
 refine F.ok j6 (fun vs H Q E h=>?_) (fun cdv A outer s H vs Q E hr h=>?_)
 ·obtain⟨q,row,ns,nv,rfl,_⟩:=h
  rfl
 obtain⟨q,row,ns,nv,rfl,hq,hl,hm,k⟩:=h
 refine⟨_,(ah (aZ (PW.pt (bG (aY (aD (aJ D_has_list hr (by rfl) (aa (pr 1) (aa af ag))) (fun _=>rfl))) (bI (aY (aD (aJ D_are_voices hr (by rfl) (aa (aG (cw K) (pr 1) aS (ck af)) (aa (pr 2) ag))) (fun _=>rfl)))))) (ai (av bg)) aF)
 (ai (av (de DM_Begin hr (by rfl) (aa (pr 0) (aa (aO (bj K) (pr 1) af (fun _ _=>rfl)) (aa (aG (cw K) (pr 1) (ck af) aS) ag))))))),?_⟩
 walk_at "rd";have hs:sizeLine=16777216:=sizeLine_eq;refine⟨q,_,1,rfl,hq,?_⟩;rw [aa0]
 by_cases h1:qG ns 1=true
 ·rw [show(decide (1≤(ns.length:Int) - 1) && decide ((ns.length:Int) - 1≤12))=true from h1]
  walk_at "rd";refine bx hq fun q1 hq1=>?_;rw [show(some (1:Int))=some ((1:Nat):Int)from rfl,bP,←ae5];have s1:au H (upd H q1 (.lst ((ns.take 1).map V.int))):=ar hq1;refine⟨q1,ns.take 1,nv,rfl,aV.of ae,by simp;omega,fun H1 s2=>?_⟩;rw [show((ns.take 1).all fun n=>decide (1≤n) && decide (n≤nv))=false from fZ hm h1];walk_at "rd";exact k _ (s1.trans s2)
 ·rw [show(decide (1≤(ns.length:Int) - 1) && decide ((ns.length:Int) - 1≤12))=false from d9 h1]
  walk_at "rd";exact k _ (fun _ _ h=>h)
theorem rL{f C:Addr}{fd:FuncData}(F:cC K "close_of" "close_of" fE f fd)(T:Txt mg aM)(D_has_list:cn P w K mg base "has_list" 3 ["numbers","ahead"] (bM K))(D_are_voices:cn P w K mg base "are_voices" 3 ["numbers","voices"] (aU K))(DM_Close:cG P w K mg base "Close" C 2 ["self","row","voice","notes"] (eS K C)):az P w K mg base bH 4 f fd ["row","numbers","voices"] (fS K (da 1)):=by
 refine F.ok j8 (fun vs H Q E h=>?_) (fun cdv A outer s H vs Q E hr h=>?_)
 ·obtain⟨q,row,ns,nv,rfl,_⟩:=h
  rfl
 obtain⟨q,row,ns,nv,rfl,hq,hl,hm,k⟩:=h
 refine⟨_,(ah (aZ (PW.pt (bG (aY (aD (aJ D_has_list hr (by rfl) (aa (pr 1) (aa af ag))) (fun _=>rfl))) (bI (aY (aD (aJ D_are_voices hr (by rfl) (aa (aG (cw K) (pr 1) aS (ck af)) (aa (pr 2) ag))) (fun _=>rfl)))))) (ai (av bg)) aF)
 (ai (av (de DM_Close hr (by rfl) (aa (pr 0) (aa (aO (bj K) (pr 1) af (fun _ _=>rfl)) (aa (aG (cw K) (pr 1) (ck af) aS) ag))))))),?_⟩
 walk_at "rd";have hs:sizeLine=16777216:=sizeLine_eq;refine⟨q,_,1,rfl,hq,?_⟩;rw [aa0]
 by_cases h1:qG ns 1=true
 ·rw [show(decide (1≤(ns.length:Int) - 1) && decide ((ns.length:Int) - 1≤12))=true from h1]
  walk_at "rd";refine bx hq fun q1 hq1=>?_;rw [show(some (1:Int))=some ((1:Nat):Int)from rfl,bP,←ae5];have s1:au H (upd H q1 (.lst ((ns.take 1).map V.int))):=ar hq1;refine⟨q1,ns.take 1,nv,rfl,aV.of ae,by simp;omega,fun H1 s2=>?_⟩;rw [show((ns.take 1).all fun n=>decide (1≤n) && decide (n≤nv))=false from fZ hm h1];walk_at "rd";exact k _ (s1.trans s2)
 ·rw [show(decide (1≤(ns.length:Int) - 1) && decide ((ns.length:Int) - 1≤12))=false from d9 h1]
  walk_at "rd";exact k _ (fun _ _ h=>h)
theorem rJ{f C:Addr}{fd:FuncData}(F:cC K "clock_of" "clock_of" fC f fd)(T:Txt mg aM)(D_has_list:cn P w K mg base "has_list" 3 ["numbers","ahead"] (bM K))(D_are_voices:cn P w K mg base "are_voices" 3 ["numbers","voices"] (aU K))(DM_Clock:cG P w K mg base "Clock" C 2 ["self","row","first","second","hours","numbers"] (eR K C)):az P w K mg base bH 4 f fd ["row","numbers","voices"] (fS K cj):=by
 refine F.ok j7 (fun vs H Q E h=>?_) (fun cdv A outer s H vs Q E hr h=>?_)
 ·obtain⟨q,row,ns,nv,rfl,_⟩:=h
  rfl
 obtain⟨q,row,ns,nv,rfl,hq,hl,hm,k⟩:=h
 refine⟨_,(ah (aZ (PW.pt (bG (aY (aD (aJ D_has_list hr (by rfl) (aa (pr 1) (aa af ag))) (fun _=>rfl))) (bG (aY (aD (aJ D_are_voices hr (by rfl) (aa (aG (cw K) (pr 1) aS (ck af)) (aa (pr 2) ag))) (fun _=>rfl))) (bI (bD (aA (o0 jA) (aO (bj K) (pr 1) af (fun _ _=>rfl)) af (aE _))))))) (ai (av bg)) aF)
 (ai (av (de DM_Clock hr (by rfl) (aa (pr 0) (aa (aO (bj K) (pr 1) af (fun _ _=>rfl)) (aa (aO (bj K) (pr 1) af (fun _ _=>rfl)) (aa (aO (bj K) (pr 1) af (fun _ _=>rfl)) (aa (aG (cw K) (pr 1) (ck af) aS) ag))))))))),?_⟩
 walk_at "rd";have hs:sizeLine=16777216:=sizeLine_eq;refine⟨q,_,3,rfl,hq,?_⟩;rw [aa0]
 by_cases h1:qG ns 3=true
 ·rw [show(decide (1≤(ns.length:Int) - 3) && decide ((ns.length:Int) - 3≤12))=true from h1]
  walk_at "rd";refine bx hq fun q1 hq1=>?_;rw [show(some (2:Int))=some ((2:Nat):Int)from rfl,bP,←ae5];have s1:au H (upd H q1 (.lst ((ns.take 2).map V.int))):=ar hq1;refine⟨q1,ns.take 2,nv,rfl,aV.of ae,by simp;omega,fun H1 s2=>?_⟩
  by_cases h2:(ns.take 2).all (oH nv)=true
  ·rw [show((ns.take 2).all fun n=>decide (1≤n) && decide (n≤nv))=true from h2]
   walk_at "rd"
   have hlen:2 < ns.length:=by simp [qG]at h1;omega
   refine ba ((s1.trans s2).seq hq) (show eF _ ((2:Nat):Int)=_ from aW (sT hlen)) ?_;walk_at "rd"
   have h3:ns.getD 2 0 < 1:=by
    unfold cj at hm
    by_cases h3:1≤ns.getD 2 0
    ·rw [if_pos ⟨h1,h2,h3⟩]at hm;cases hm
    ·omega
   rw [if_pos h3];exact k _ (s1.trans s2)
  ·rw [gy h2]
   walk_at "rd";exact k _ (s1.trans s2)
 ·rw [show(decide (1≤(ns.length:Int) - 3) && decide ((ns.length:Int) - 3≤12))=false from d9 h1]
  walk_at "rd";exact k _ (fun _ _ h=>h)
theorem tj{f C:Addr}{fd:FuncData}(F:cC K "back_of" "back_of" gP f fd)(T:Txt mg aM)(D_are_voices:cn P w K mg base "are_voices" 3 ["numbers","voices"] (aU K))(DM_Back:cG P w K mg base "Back" C 2 ["self","row","voice","widest"] (fK K C)):az P w K mg base bH 4 f fd ["row","numbers","voices"] (fS K dP):=by
 refine F.ok l7 (fun vs H Q E h=>?_) (fun cdv A outer s H vs Q E hr h=>?_)
 ·obtain⟨q,row,ns,nv,rfl,_⟩:=h
  rfl
 obtain⟨q,row,ns,nv,rfl,hq,hl,hm,k⟩:=h
 refine⟨_,(ah (aZ (PW.pt (bG (bD (aA yS (aw (bh K) (by rfl) T.n_len boot_len (aa (pr 1) ag)) af (aE _))) (bG (aY (aD (aJ D_are_voices hr (by rfl) (aa (aG (cw K) (pr 1) aS (ck af)) (aa (pr 2) ag))) (fun _=>rfl))) (bI (bD (aA (o0 jA) (aO (bj K) (pr 1) af (fun _ _=>rfl)) af (aE _))))))) (ai (av bg)) aF)
 (ai (av (de DM_Back hr (by rfl) (aa (pr 0) (aa (aO (bj K) (pr 1) af (fun _ _=>rfl)) (aa (aO (bj K) (pr 1) af (fun _ _=>rfl)) ag))))))),?_⟩
 walk_at "rd";have hs:sizeLine=16777216:=sizeLine_eq;refine⟨_,.inl hq,?_⟩;rw [aa0];walk_at "rd"
 by_cases h1:ns.length=2
 ·rw [if_pos (show((ns.length:Nat):Int)=2 by omega)]
  refine bx hq fun q1 hq1=>?_;rw [show(some (1:Int))=some ((1:Nat):Int)from rfl,bP,←ae5];have s1:au H (upd H q1 (.lst ((ns.take 1).map V.int))):=ar hq1;refine⟨q1,ns.take 1,nv,rfl,aV.of ae,by simp;omega,fun H1 s2=>?_⟩
  by_cases h2:(ns.take 1).all (oH nv)=true
  ·rw [show((ns.take 1).all fun n=>decide (1≤n) && decide (n≤nv))=true from h2]
   walk_at "rd";have s3:=s1.trans s2;have hq3:=s3.seq hq;refine ba hq3 (show eF _ ((1:Nat):Int)=_ from aW (sT (by omega))) ?_;walk_at "rd"
   have h3:ns.getD 1 0 < 0:=by
    unfold dP at hm
    by_cases h3:0≤ns.getD 1 0
    ·rw [if_pos ⟨h1,h2,h3⟩]at hm;cases hm
    ·omega
   rw [if_pos h3];exact k _ s3
  ·rw [gy h2]
   walk_at "rd";exact k _ (s1.trans s2)
 ·rw [if_neg (show ¬((ns.length:Nat):Int)=2 by omega)]
  exact k _ (fun _ _ h=>h)
theorem tq{f C:Addr}{fd:FuncData}(F:cC K "held_of" "held_of" gQ f fd)(T:Txt mg aM)(D_are_voices:cn P w K mg base "are_voices" 3 ["numbers","voices"] (aU K))(DM_Held:cG P w K mg base "Held" C 2 ["self","row","voice","most"] (fL K C)):az P w K mg base bH 4 f fd ["row","numbers","voices"] (fS K dz):=by
 refine F.ok l8 (fun vs H Q E h=>?_) (fun cdv A outer s H vs Q E hr h=>?_)
 ·obtain⟨q,row,ns,nv,rfl,_⟩:=h
  rfl
 obtain⟨q,row,ns,nv,rfl,hq,hl,hm,k⟩:=h
 refine⟨_,(ah (aZ (PW.pt (bG (bD (aA yS (aw (bh K) (by rfl) T.n_len boot_len (aa (pr 1) ag)) af (aE _))) (bG (aY (aD (aJ D_are_voices hr (by rfl) (aa (aG (cw K) (pr 1) aS (ck af)) (aa (pr 2) ag))) (fun _=>rfl))) (bI (bD (aA (o0 jA) (aO (bj K) (pr 1) af (fun _ _=>rfl)) af (aE _))))))) (ai (av bg)) aF)
 (ai (av (de DM_Held hr (by rfl) (aa (pr 0) (aa (aO (bj K) (pr 1) af (fun _ _=>rfl)) (aa (aO (bj K) (pr 1) af (fun _ _=>rfl)) ag))))))),?_⟩
 walk_at "rd";have hs:sizeLine=16777216:=sizeLine_eq;refine⟨_,.inl hq,?_⟩;rw [aa0];walk_at "rd"
 by_cases h1:ns.length=2
 ·rw [if_pos (show((ns.length:Nat):Int)=2 by omega)]
  refine bx hq fun q1 hq1=>?_;rw [show(some (1:Int))=some ((1:Nat):Int)from rfl,bP,←ae5];have s1:au H (upd H q1 (.lst ((ns.take 1).map V.int))):=ar hq1;refine⟨q1,ns.take 1,nv,rfl,aV.of ae,by simp;omega,fun H1 s2=>?_⟩
  by_cases h2:(ns.take 1).all (oH nv)=true
  ·rw [show((ns.take 1).all fun n=>decide (1≤n) && decide (n≤nv))=true from h2]
   walk_at "rd";have s3:=s1.trans s2;have hq3:=s3.seq hq;refine ba hq3 (show eF _ ((1:Nat):Int)=_ from aW (sT (by omega))) ?_;walk_at "rd"
   have h3:ns.getD 1 0 < 1:=by
    unfold dz at hm
    by_cases h3:1≤ns.getD 1 0
    ·rw [if_pos ⟨h1,h2,h3⟩]at hm;cases hm
    ·omega
   rw [if_pos h3];exact k _ s3
  ·rw [gy h2]
   walk_at "rd";exact k _ (s1.trans s2)
 ·rw [if_neg (show ¬((ns.length:Nat):Int)=2 by omega)]
  exact k _ (fun _ _ h=>h)
theorem rO{f C:Addr}{fd:FuncData}(F:cC K "times_of" "times_of" fJ f fd)(T:Txt mg aM)(D_are_voices:cn P w K mg base "are_voices" 3 ["numbers","voices"] (aU K))(DM_Times:cG P w K mg base "Times" C 2 ["self","row","voice","note","fewest","most"] (eT K C)):az P w K mg base bH 4 f fd ["row","numbers","voices"] (fS K cK):=by
 refine F.ok j9 (fun vs H Q E h=>?_) (fun cdv A outer s H vs Q E hr h=>?_)
 ·obtain⟨q,row,ns,nv,rfl,_⟩:=h
  rfl
 obtain⟨q,row,ns,nv,rfl,hq,hl,hm,k⟩:=h
 refine⟨_,(ah (aZ (PW.pt (bG (bD (aA yS (aw (bh K) (by rfl) T.n_len boot_len (aa (pr 1) ag)) af (aE _))) (bG (aY (aD (aJ D_are_voices hr (by rfl) (aa (aG (cw K) (pr 1) aS (ck af)) (aa (pr 2) ag))) (fun _=>rfl))) (bI (bD (aA (o0 jA) (aw (nk rfl K) (by rfl) T.n_min boot_min (aa (aG (cw K) (pr 1) (ck af) aS) ag)) af (aE _))))))) (ai (av bg)) aF)
 (ai (av (de DM_Times hr (by rfl) (aa (pr 0) (aa (aO (bj K) (pr 1) af (fun _ _=>rfl)) (aa (aO (bj K) (pr 1) af (fun _ _=>rfl)) (aa (aO (bj K) (pr 1) af (fun _ _=>rfl)) (aa (aO (bj K) (pr 1) af (fun _ _=>rfl)) ag))))))))),?_⟩
 walk_at "rd";have hs:sizeLine=16777216:=sizeLine_eq;refine⟨_,.inl hq,?_⟩;rw [aa0];walk_at "rd"
 by_cases h1:ns.length=4
 ·rw [if_pos (show((ns.length:Nat):Int)=4 by omega)]
  refine bx hq fun q1 hq1=>?_;rw [show(some (1:Int))=some ((1:Nat):Int)from rfl,bP,←ae5];have s1:au H (upd H q1 (.lst ((ns.take 1).map V.int))):=ar hq1;refine⟨q1,ns.take 1,nv,rfl,aV.of ae,by simp;omega,fun H1 s2=>?_⟩
  by_cases h2:(ns.take 1).all (oH nv)=true
  ·rw [show((ns.take 1).all fun n=>decide (1≤n) && decide (n≤nv))=true from h2]
   walk_at "rd";have s3:=s1.trans s2;have hq3:=s3.seq hq;obtain⟨x1,x2,x3,x4,rfl⟩:=ux h1;refine bx hq3 fun q4 hq4=>?_;rw [show(some (2:Int))=some ((2:Nat):Int)from rfl,b8];have s4:au H (upd H1 q4 (.lst (([x1,x2,x3,x4].map V.int).drop 2))):=s3.upd hq4;have hm4:(upd H1 q4 (.lst (([x1,x2,x3,x4].map V.int).drop 2))) q4=some (.lst ([x3,x4].map V.int)):=ae;refine⟨q4,rfl,[x3,x4],aV.of hm4,by simp,fun i hi hmin=>?_⟩
   have h3:i < 0:=by
    have m3:=hmin x3 (by simp);have m4:=hmin x4 (by simp);unfold cK at hm
    by_cases h3:0≤x3∧0≤x4
    ·rw [if_pos ⟨h1,h2,h3.1,h3.2⟩]at hm;cases hm
    ·omega
   walk_at "rd";rw [if_pos h3];exact k _ s4
  ·rw [gy h2]
   walk_at "rd";exact k _ (s1.trans s2)
 ·rw [if_neg (show ¬((ns.length:Nat):Int)=4 by omega)]
  exact k _ (fun _ _ h=>h)
end
section
variable {P:Program} {w:World} {K:Frag} {mg:Str→Option Value} {base:Heap} {aM:Addr}
theorem gY{C CR r:Addr}{row:Str}{sz:Int}{RI:qK}{H:Hp}(mono:∀r H H',Aw H H'→RI r H→RI r H')(ins:∀r H,RI r H→∃dx fs,H r=some (.ins C dx fs)∧fs.lookup (Str.ofString "size")=none∧fs.lookup (Str.ofString "shown")=none∧fs.lookup (Str.ofString "row")=some (.str row))
  (cl:kg K C) (na:NoAttr K C "row") (h1:aK P w K mg base C "size" 7 ["self"] (jN RI (.int sz))) (h2:aK P w K mg base C "shown" 7 ["self"] (bF K)) (kt:eH K C CR) (h:RI r H):bo P w K mg base CR row sz r H:=
 ⟨C,RI,h,mono,fun r H x=>let ⟨dx,fs,a,b,c,_⟩:=ins r H x;⟨dx,fs,a,b,c⟩,h1,h2.imp (by
  rintro vs H Q E ⟨r,rfl,x,q⟩;obtain⟨dx,fs,a,b,c,d⟩:=ins r H x
  exact⟨r,C,dx,fs,row,rfl,a,cl,na,d,q⟩),kt⟩
theorem iy{C:Addr}{RI:qK}{v:V}(h:aK P w K mg base C "size" 7 ["self"] (dJ 1 fun _=>v)):aK P w K mg base C "size" 7 ["self"] (jN RI v):=h.imp (by
 rintro vs H Q E ⟨r,rfl,_,q⟩
 exact⟨rfl,q⟩)
theorem CL{j:Nat}{ns:List Int}(h:j < ns.length):∃x,ns[j]?=some x:=⟨_,ab3 h⟩
theorem d6{nv n:Int}:oH nv n=true↔1≤n∧n≤nv:=by simp [oH]
theorem gH{ns:List Int}{j:Int}:qG ns j=true↔1≤(ns.length:Int) - j∧(ns.length:Int) - j≤12:=by simp [qG]
theorem Ai{C CR r:Addr}{row:Str}{x1 x2:Int}{D:List Int}{H:Hp}(TC:oO K C)(h1:aK P w K mg base C "size" 7 ["self"] (dJ 1 fun _=>.int 1))(h2:aK P w K mg base C "shown" 7 ["self"] (bF K))(kt:eH K C CR)(h:sJ C row x1 x2 D r H):bo P w K mg base CR row (1) r H:=by
 obtain⟨dx0,n0,h0,_⟩:=h;refine gY (RI:=fun r H=>∃dx n,H r=some (.ins C dx (iN row x1 x2 n))) (fun r H H' s h=>?_) (fun r H h=>?_) TC.cl TC.n1 (iy h1) h2 kt ⟨dx0,n0,h0⟩
 ·obtain⟨dx,n,e1⟩:=h
  exact⟨dx,n,s _ _ _ _ e1⟩
 ·obtain⟨dx,n,e1⟩:=h
  refine⟨dx,_,e1,?_,?_,?_⟩<;>(unfold iN;walk_at "flds")
theorem Aj{f C CR:Addr}{fd:FuncData}(h1:az P w K mg base bH 4 f fd ["row","numbers","voices"] (sh K C))(h2:az P w K mg base bH 4 f fd ["row","numbers","voices"] (fS K (da 2)))
  (hi:∀(row:Str) (x1 x2:Int) (D:List Int) (r:Addr) (H:Hp),sJ C row x1 x2 D r H→bo P w K mg base CR row (1) r H):az P w K mg base bH 4 f fd ["row","numbers","voices"] (cE P w K mg base CR (da 2)):=by
 refine az.both h1 h2 ?_;rintro vs H Q E ⟨q,row,ns,nv,rfl,hq,hl,kn,ks⟩
 cases hm:da 2 nv ns with
 | none=>exact .inr ⟨q,row,ns,nv,rfl,hq,hl,hm,kn hm⟩
 | some sz=>
  left
  have k1:=ks sz hm;clear ks;unfold da at hm
  split at hm
  ·rename_i hc
   cases hm;obtain⟨c1,c2⟩:=hc;rw [gH]at c1
   match ns,c1,c2,hq with
   | x1::x2::D,c1,c2,hq=>
    simp only [ad1,ae7,ae1,ag2,ae4,ac6,d6]at c2;simp only [aa6]at c1;exact⟨q,row,x1,x2,D,nv,rfl,hq,by omega,by omega,by omega,by omega,by omega,by omega,fun r H' s h=>k1 r H' s (hi _ _ _ D _ _ h)⟩
   | [],c1,_,_=>exact absurd c1.1 (by simp)
   | [_],c1,_,_=>exact absurd c1.1 (by simp)
  ·cases hm
theorem wG{C CR r:Addr}{row:Str}{x1 x2:Int}{D:List Int}{H:Hp}(TC:kN K C)(h1:aK P w K mg base C "size" 7 ["self"] (dJ 1 fun _=>.int 1))(h2:aK P w K mg base C "shown" 7 ["self"] (bF K))(kt:eH K C CR)(h:oQ C row x1 x2 D r H):bo P w K mg base CR row (1) r H:=by
 obtain⟨dx0,n0,h0,_⟩:=h;refine gY (RI:=fun r H=>∃dx n,H r=some (.ins C dx (gB row x1 x2 n))) (fun r H H' s h=>?_) (fun r H h=>?_) TC.cl TC.n1 (iy h1) h2 kt ⟨dx0,n0,h0⟩
 ·obtain⟨dx,n,e1⟩:=h
  exact⟨dx,n,s _ _ _ _ e1⟩
 ·obtain⟨dx,n,e1⟩:=h
  refine⟨dx,_,e1,?_,?_,?_⟩<;>(unfold gB;walk_at "flds")
theorem wH{f C CR:Addr}{fd:FuncData}(h1:az P w K mg base bH 4 f fd ["row","numbers","voices"] (oo K C))(h2:az P w K mg base bH 4 f fd ["row","numbers","voices"] (fS K (da 2)))
  (hi:∀(row:Str) (x1 x2:Int) (D:List Int) (r:Addr) (H:Hp),oQ C row x1 x2 D r H→bo P w K mg base CR row (1) r H):az P w K mg base bH 4 f fd ["row","numbers","voices"] (cE P w K mg base CR (da 2)):=by
 refine az.both h1 h2 ?_;rintro vs H Q E ⟨q,row,ns,nv,rfl,hq,hl,kn,ks⟩
 cases hm:da 2 nv ns with
 | none=>exact .inr ⟨q,row,ns,nv,rfl,hq,hl,hm,kn hm⟩
 | some sz=>
  left
  have k1:=ks sz hm;clear ks;unfold da at hm
  split at hm
  ·rename_i hc
   cases hm;obtain⟨c1,c2⟩:=hc;rw [gH]at c1
   match ns,c1,c2,hq with
   | x1::x2::D,c1,c2,hq=>
    simp only [ad1,ae7,ae1,ag2,ae4,ac6,d6]at c2;simp only [aa6]at c1;exact⟨q,row,x1,x2,D,nv,rfl,hq,by omega,by omega,by omega,by omega,by omega,by omega,fun r H' s h=>k1 r H' s (hi _ _ _ D _ _ h)⟩
   | [],c1,_,_=>exact absurd c1.1 (by simp)
   | [_],c1,_,_=>exact absurd c1.1 (by simp)
  ·cases hm
theorem zB{C CR r:Addr}{row:Str}{x1:Int}{D:List Int}{H:Hp}(TC:oN K C)(h1:aK P w K mg base C "size" 7 ["self"] (dJ 1 fun _=>.int 1))(h2:aK P w K mg base C "shown" 7 ["self"] (bF K))(kt:eH K C CR)(h:sI C row x1 D r H):bo P w K mg base CR row (1) r H:=by
 obtain⟨dx0,n0,h0,_⟩:=h;refine gY (RI:=fun r H=>∃dx n,H r=some (.ins C dx (iM row x1 n))) (fun r H H' s h=>?_) (fun r H h=>?_) TC.cl TC.n1 (iy h1) h2 kt ⟨dx0,n0,h0⟩
 ·obtain⟨dx,n,e1⟩:=h
  exact⟨dx,n,s _ _ _ _ e1⟩
 ·obtain⟨dx,n,e1⟩:=h
  refine⟨dx,_,e1,?_,?_,?_⟩<;>(unfold iM;walk_at "flds")
theorem zC{f C CR:Addr}{fd:FuncData}(h1:az P w K mg base bH 4 f fd ["row","numbers","voices"] (sf K C))(h2:az P w K mg base bH 4 f fd ["row","numbers","voices"] (fS K (da 1)))
  (hi:∀(row:Str) (x1:Int) (D:List Int) (r:Addr) (H:Hp),sI C row x1 D r H→bo P w K mg base CR row (1) r H):az P w K mg base bH 4 f fd ["row","numbers","voices"] (cE P w K mg base CR (da 1)):=by
 refine az.both h1 h2 ?_;rintro vs H Q E ⟨q,row,ns,nv,rfl,hq,hl,kn,ks⟩
 cases hm:da 1 nv ns with
 | none=>exact .inr ⟨q,row,ns,nv,rfl,hq,hl,hm,kn hm⟩
 | some sz=>
  left
  have k1:=ks sz hm;clear ks;unfold da at hm
  split at hm
  ·rename_i hc
   cases hm;obtain⟨c1,c2⟩:=hc;rw [gH]at c1
   match ns,c1,c2,hq with
   | x1::D,c1,c2,hq=>
    simp only [ad1,ae7,ae1,ag2,ae4,ac6,d6]at c2;simp only [aa6]at c1;exact⟨q,row,x1,D,nv,rfl,hq,by omega,by omega,by omega,by omega,fun r H' s h=>k1 r H' s (hi _ _ D _ _ h)⟩
   | [],c1,_,_=>exact absurd c1.1 (by simp)
  ·cases hm
theorem wK{C CR r:Addr}{row:Str}{x1:Int}{D:List Int}{H:Hp}(TC:kO K C)(h1:aK P w K mg base C "size" 7 ["self"] (dJ 1 fun _=>.int 1))(h2:aK P w K mg base C "shown" 7 ["self"] (bF K))(kt:eH K C CR)(h:oR C row x1 D r H):bo P w K mg base CR row (1) r H:=by
 obtain⟨dx0,n0,h0,_⟩:=h;refine gY (RI:=fun r H=>∃dx n,H r=some (.ins C dx (gC row x1 n))) (fun r H H' s h=>?_) (fun r H h=>?_) TC.cl TC.n1 (iy h1) h2 kt ⟨dx0,n0,h0⟩
 ·obtain⟨dx,n,e1⟩:=h
  exact⟨dx,n,s _ _ _ _ e1⟩
 ·obtain⟨dx,n,e1⟩:=h
  refine⟨dx,_,e1,?_,?_,?_⟩<;>(unfold gC;walk_at "flds")
theorem wL{f C CR:Addr}{fd:FuncData}(h1:az P w K mg base bH 4 f fd ["row","numbers","voices"] (ou K C))(h2:az P w K mg base bH 4 f fd ["row","numbers","voices"] (fS K (da 1)))
  (hi:∀(row:Str) (x1:Int) (D:List Int) (r:Addr) (H:Hp),oR C row x1 D r H→bo P w K mg base CR row (1) r H):az P w K mg base bH 4 f fd ["row","numbers","voices"] (cE P w K mg base CR (da 1)):=by
 refine az.both h1 h2 ?_;rintro vs H Q E ⟨q,row,ns,nv,rfl,hq,hl,kn,ks⟩
 cases hm:da 1 nv ns with
 | none=>exact .inr ⟨q,row,ns,nv,rfl,hq,hl,hm,kn hm⟩
 | some sz=>
  left
  have k1:=ks sz hm;clear ks;unfold da at hm
  split at hm
  ·rename_i hc
   cases hm;obtain⟨c1,c2⟩:=hc;rw [gH]at c1
   match ns,c1,c2,hq with
   | x1::D,c1,c2,hq=>
    simp only [ad1,ae7,ae1,ag2,ae4,ac6,d6]at c2;simp only [aa6]at c1;exact⟨q,row,x1,D,nv,rfl,hq,by omega,by omega,by omega,by omega,fun r H' s h=>k1 r H' s (hi _ _ D _ _ h)⟩
   | [],c1,_,_=>exact absurd c1.1 (by simp)
  ·cases hm
theorem wR{C CR r:Addr}{row:Str}{x1:Int}{D:List Int}{H:Hp}(TC:kQ K C)(h1:aK P w K mg base C "size" 7 ["self"] (dJ 1 fun _=>.int 1))(h2:aK P w K mg base C "shown" 7 ["self"] (bF K))(kt:eH K C CR)(h:oU C row x1 D r H):bo P w K mg base CR row (1) r H:=by
 obtain⟨dx0,n0,h0,_⟩:=h;refine gY (RI:=fun r H=>∃dx n,H r=some (.ins C dx (gE row x1 n))) (fun r H H' s h=>?_) (fun r H h=>?_) TC.cl TC.n1 (iy h1) h2 kt ⟨dx0,n0,h0⟩
 ·obtain⟨dx,n,e1⟩:=h
  exact⟨dx,n,s _ _ _ _ e1⟩
 ·obtain⟨dx,n,e1⟩:=h
  refine⟨dx,_,e1,?_,?_,?_⟩<;>(unfold gE;walk_at "flds")
theorem wU{f C CR:Addr}{fd:FuncData}(h1:az P w K mg base bH 4 f fd ["row","numbers","voices"] (ox K C))(h2:az P w K mg base bH 4 f fd ["row","numbers","voices"] (fS K (da 1)))
  (hi:∀(row:Str) (x1:Int) (D:List Int) (r:Addr) (H:Hp),oU C row x1 D r H→bo P w K mg base CR row (1) r H):az P w K mg base bH 4 f fd ["row","numbers","voices"] (cE P w K mg base CR (da 1)):=by
 refine az.both h1 h2 ?_;rintro vs H Q E ⟨q,row,ns,nv,rfl,hq,hl,kn,ks⟩
 cases hm:da 1 nv ns with
 | none=>exact .inr ⟨q,row,ns,nv,rfl,hq,hl,hm,kn hm⟩
 | some sz=>
  left
  have k1:=ks sz hm;clear ks;unfold da at hm
  split at hm
  ·rename_i hc
   cases hm;obtain⟨c1,c2⟩:=hc;rw [gH]at c1
   match ns,c1,c2,hq with
   | x1::D,c1,c2,hq=>
    simp only [ad1,ae7,ae1,ag2,ae4,ac6,d6]at c2;simp only [aa6]at c1;exact⟨q,row,x1,D,nv,rfl,hq,by omega,by omega,by omega,by omega,fun r H' s h=>k1 r H' s (hi _ _ D _ _ h)⟩
   | [],c1,_,_=>exact absurd c1.1 (by simp)
  ·cases hm
theorem wO{C CR r:Addr}{row:Str}{x1 x2 x3:Int}{D:List Int}{H:Hp}(TC:kP K C)(h1:aK P w K mg base C "size" 7 ["self"] (dJ 1 fun _=>.int 1))(h2:aK P w K mg base C "shown" 7 ["self"] (bF K))(kt:eH K C CR)(h:oS C row x1 x2 x3 D r H):bo P w K mg base CR row (1) r H:=by
 obtain⟨dx0,n0,h0,_⟩:=h;refine gY (RI:=fun r H=>∃dx n,H r=some (.ins C dx (gD row x1 x2 x3 n))) (fun r H H' s h=>?_) (fun r H h=>?_) TC.cl TC.n1 (iy h1) h2 kt ⟨dx0,n0,h0⟩
 ·obtain⟨dx,n,e1⟩:=h
  exact⟨dx,n,s _ _ _ _ e1⟩
 ·obtain⟨dx,n,e1⟩:=h
  refine⟨dx,_,e1,?_,?_,?_⟩<;>(unfold gD;walk_at "flds")
theorem wQ{f C CR:Addr}{fd:FuncData}(h1:az P w K mg base bH 4 f fd ["row","numbers","voices"] (ow K C))(h2:az P w K mg base bH 4 f fd ["row","numbers","voices"] (fS K (cj)))
  (hi:∀(row:Str) (x1 x2 x3:Int) (D:List Int) (r:Addr) (H:Hp),oS C row x1 x2 x3 D r H→bo P w K mg base CR row (1) r H):az P w K mg base bH 4 f fd ["row","numbers","voices"] (cE P w K mg base CR (cj)):=by
 refine az.both h1 h2 ?_;rintro vs H Q E ⟨q,row,ns,nv,rfl,hq,hl,kn,ks⟩
 cases hm:cj nv ns with
 | none=>exact .inr ⟨q,row,ns,nv,rfl,hq,hl,hm,kn hm⟩
 | some sz=>
  left
  have k1:=ks sz hm;clear ks;unfold cj at hm
  split at hm
  ·rename_i hc
   cases hm;obtain⟨c1,c2,c3⟩:=hc;rw [gH]at c1
   match ns,c1,c2,c3,hq with
   | x1::x2::x3::D,c1,c2,c3,hq=>
    simp only [ad1,ae7,ae1,ag2,ae4,ac6,d6]at c2;simp only [aa6]at c1;exact⟨q,row,x1,x2,x3,D,nv,rfl,hq,by omega,by omega,by omega,by omega,c3,by omega,by omega,fun r H' s h=>k1 r H' s (hi _ _ _ _ D _ _ h)⟩
   | [],c1,_,_,_=>exact absurd c1.1 (by simp)
   | [_],c1,_,_,_=>exact absurd c1.1 (by simp)
   | [_,_],c1,_,_,_=>exact absurd c1.1 (by simp)
  ·cases hm
theorem y8{C CR r:Addr}{row:Str}{x1 x2:Int}{H:Hp}(TC:oM K C)(h1:aK P w K mg base C "size" 7 ["self"] (dJ 1 fun _=>.int 3))(h2:aK P w K mg base C "shown" 7 ["self"] (bF K))(kt:eH K C CR)(h:sH C row x1 x2 r H):bo P w K mg base CR row (3) r H:=by
 refine gY (fun r H H' s h=>?_) (fun r H h=>?_) TC.cl TC.n1 (iy h1) h2 kt h
 ·obtain⟨dx,e1⟩:=h
  exact⟨dx,s _ _ _ _ e1⟩
 ·obtain⟨dx,e1⟩:=h
  refine⟨dx,_,e1,?_,?_,?_⟩<;>(unfold lq;walk_at "flds")
theorem y9{f C CR:Addr}{fd:FuncData}(h1:az P w K mg base bH 4 f fd ["row","numbers","voices"] (sd K C))(h2:az P w K mg base bH 4 f fd ["row","numbers","voices"] (fS K (dP)))
  (hi:∀(row:Str) (x1 x2:Int) (r:Addr) (H:Hp),sH C row x1 x2 r H→bo P w K mg base CR row (3) r H):az P w K mg base bH 4 f fd ["row","numbers","voices"] (cE P w K mg base CR (dP)):=by
 refine az.both h1 h2 ?_;rintro vs H Q E ⟨q,row,ns,nv,rfl,hq,hl,kn,ks⟩
 cases hm:dP nv ns with
 | none=>exact .inr ⟨q,row,ns,nv,rfl,hq,hl,hm,kn hm⟩
 | some sz=>
  left
  have k1:=ks sz hm;clear ks;unfold dP at hm
  split at hm
  ·rename_i hc
   cases hm;obtain⟨c1,c2,c3⟩:=hc;obtain⟨x1,x2,rfl⟩:=yI c1;simp only [ad1,ae7,ae1,ag2,ae4,ac6,d6]at c2;exact⟨q,row,x1,x2,nv,rfl,hq,c2.1,c2.2,c3,fun r H' s h=>k1 r H' s (hi _ _ _ _ _ h)⟩
  ·cases hm
theorem zr{C CR r:Addr}{row:Str}{x1 x2:Int}{H:Hp}(TC:kr K C)(h1:aK P w K mg base C "size" 7 ["self"] (jN (jg C row x1 x2) (.int (x2))))(h2:aK P w K mg base C "shown" 7 ["self"] (bF K))(kt:eH K C CR)(h:jg C row x1 x2 r H):bo P w K mg base CR row (x2) r H:=by
 refine gY (fun r H H' s h=>?_) (fun r H h=>?_) TC.cl TC.n1 h1 h2 kt h
 ·obtain⟨dx,e1⟩:=h
  exact⟨dx,s _ _ _ _ e1⟩
 ·obtain⟨dx,e1⟩:=h
  refine⟨dx,_,e1,?_,?_,?_⟩<;>(unfold fV;walk_at "flds")
theorem zt{f C CR:Addr}{fd:FuncData}(h1:az P w K mg base bH 4 f fd ["row","numbers","voices"] (se K C))(h2:az P w K mg base bH 4 f fd ["row","numbers","voices"] (fS K (dz)))
  (hi:∀(row:Str) (x1 x2:Int) (r:Addr) (H:Hp),jg C row x1 x2 r H→bo P w K mg base CR row (x2) r H):az P w K mg base bH 4 f fd ["row","numbers","voices"] (cE P w K mg base CR (dz)):=by
 refine az.both h1 h2 ?_;rintro vs H Q E ⟨q,row,ns,nv,rfl,hq,hl,kn,ks⟩
 cases hm:dz nv ns with
 | none=>exact .inr ⟨q,row,ns,nv,rfl,hq,hl,hm,kn hm⟩
 | some sz=>
  left
  have k1:=ks sz hm;clear ks;unfold dz at hm
  split at hm
  ·rename_i hc
   cases hm;obtain⟨c1,c2,c3⟩:=hc;obtain⟨x1,x2,rfl⟩:=yI c1;simp only [ad1,ae7,ae1,ag2,ae4,ac6,d6]at c2;exact⟨q,row,x1,x2,nv,rfl,hq,c2.1,c2.2,c3,fun r H' s h=>k1 r H' s (hi _ _ _ _ _ h)⟩
  ·cases hm
theorem yC{C CR r:Addr}{row:Str}{x1 x2 x3 x4:Int}{H:Hp}(TC:iD K C)(h1:aK P w K mg base C "size" 7 ["self"] (jN (gx C row x1 x2 x3 x4) (.int (x4+1))))(h2:aK P w K mg base C "shown" 7 ["self"] (bF K))(kt:eH K C CR)(h:gx C row x1 x2 x3 x4 r H):bo P w K mg base CR row (x4+1) r H:=by
 refine gY (fun r H H' s h=>?_) (fun r H h=>?_) TC.cl TC.n1 h1 h2 kt h
 ·obtain⟨dx,e1⟩:=h
  exact⟨dx,s _ _ _ _ e1⟩
 ·obtain⟨dx,e1⟩:=h
  refine⟨dx,_,e1,?_,?_,?_⟩<;>(unfold eY;walk_at "flds")
theorem yD{f C CR:Addr}{fd:FuncData}(h1:az P w K mg base bH 4 f fd ["row","numbers","voices"] (oy K C))(h2:az P w K mg base bH 4 f fd ["row","numbers","voices"] (fS K (cK)))
  (hi:∀(row:Str) (x1 x2 x3 x4:Int) (r:Addr) (H:Hp),gx C row x1 x2 x3 x4 r H→bo P w K mg base CR row (x4+1) r H):az P w K mg base bH 4 f fd ["row","numbers","voices"] (cE P w K mg base CR (cK)):=by
 refine az.both h1 h2 ?_;rintro vs H Q E ⟨q,row,ns,nv,rfl,hq,hl,kn,ks⟩
 cases hm:cK nv ns with
 | none=>exact .inr ⟨q,row,ns,nv,rfl,hq,hl,hm,kn hm⟩
 | some sz=>
  left
  have k1:=ks sz hm;clear ks;unfold cK at hm
  split at hm
  ·rename_i hc
   cases hm;obtain⟨c1,c2,c3,c4⟩:=hc;obtain⟨x1,x2,x3,x4,rfl⟩:=ux c1;simp only [ad1,ae7,ae1,ag2,ae4,ac6,d6]at c2;exact⟨q,row,x1,x2,x3,x4,nv,rfl,hq,c2.1,c2.2,c3,c4,fun r H' s h=>k1 r H' s (hi _ _ _ _ _ _ _ h)⟩
  ·cases hm
end
theorem qk(c:Nat):∀(l p:List Nat),p∈dk c l→p.length≤l.length
 | [],p,h=>by simp [dk]at h;subst h;exact aa7 _
 | x::l,p,h=>by
  unfold dk at h
  split at h
  ·rcases aa5.mp h with rfl | h
   ·exact ab5 _
   ·exact ah0 (qk c l p h)
  ·split at h
   ·rcases ac9.mp h with rfl
    simp
   ·rename_i q ps e
    rcases aa5.mp h with rfl | h
    ·have:=qk c l q (by rw [e];exact ab9)
     simp;exact this
    ·exact ah0 (qk c l p (by rw [e];exact ac0 _ h))
theorem u6{z y:Str}{c:Nat}(hc:c < 256)(h:y∈Txt.split z ⟨#[c]⟩):y.length≤z.length:=by
 have h1:y.cps.toList∈dk c z.cps.toList:=by
  rw [←bR z hc];exact ac4.mpr ⟨y,h,rfl⟩
 rw [aL,aL];exact qk _ _ _ h1
def bY(z:Str):List Str:=Txt.split z ⟨#[32]⟩
def eu(z:Str):Bool:=cq z.cps.toList
def bf(z:Str):Int:=(intText? z).getD 0
theorem fi{z:Str}(h:eu z=true):intText? z=some (bf z)∧z.length≤640:=by
 obtain⟨n,e,l⟩:=vx h;exact⟨by unfold bf;rw [e];rfl,l⟩
def d4(k:Str):Option wg:=
 if k=Str.ofString "span" then some (da 2)else if k=Str.ofString "clock" then some cj else if k=Str.ofString "move" then some (da 1)else if k=Str.ofString "alike" then some (da 2)else if k=Str.ofString "back" then some dP
 else if k=Str.ofString "held" then some dz else if k=Str.ofString "times" then some cK else if k=Str.ofString "begin" then some (da 1)else if k=Str.ofString "close" then some (da 1)else none
def iU(ws:List Str)(nv:Int):Option Int:=
 match d4 (ws.headD ⟨#[]⟩)with
 | none=>none
 | some mk=>if ws.tail.all eu=true then mk nv (ws.tail.map bf)else none
theorem wM:Str.ofString " "=⟨#[32]⟩:=by decide +kernel
theorem kM(z:Str):∃k ws,bY z=k::ws:=by
 cases h:bY z with
 | cons k ws=>exact⟨k,ws,rfl⟩
 | nil=>
  have h1:=bR z (c:=32) (by decide);rw [show Txt.split z ⟨#[32]⟩=[]from h]at h1;exact absurd h1.symm (jR _ _)
theorem t9(z:Str):(bY z).length≤z.length+1:=by
 have h1:(bY z).length=(dk 32 z.cps.toList).length:=by
  unfold bY;rw [←bR z (by decide),aa0]
 rw [h1]
 have:=kK 32 z.cps.toList
 rw [←aL]at this;exact this
theorem yM{z y:Str}(h:y∈bY z):y.length≤z.length:=u6 (by decide) h
structure fT(P:Program)(w:World)(K:Frag)(mg:Str→Option Value)(base:Heap)(CR:Addr)(D:List (Str×V)):Prop where
 to:∀k,(∃mk f,d4 k=some mk∧KTD.datumAt k D=some (.ref f)∧eg P w K mg base 7 f ["row","numbers","voices"] (cE P w K mg base CR mk))∨(d4 k=none∧KTD.datumAt k D=none)
def Ag(P:Program)(w:World)(K:Frag)(mg:Str→Option Value)(base:Heap)(aM CR:Addr):Sp:=fun vs H Q _=>∃(row:Str) (nv:Int) (D:List (Str×V)),vs=[.str row,.int nv]∧row.length≤9000∧g8 K aM D∧fT P w K mg base CR D∧
 (iU (bY row) nv=none→∀H',au H H'→Q .non H')∧∀sz,iU (bY row) nv=some sz→∀r H',au H H'→bo P w K mg base CR row sz r H'→Q (.ref r) H'
section
variable {P:Program} {w:World} {K:Frag} {mg:Str→Option Value} {base:Heap} {aM:Addr}
theorem qm{ws:List Str}{i:Nat}{x:V}(hx:(ws.map V.str)[i]?=some x):∃y,x=.str y∧ws[i]?=some y:=by
 rw [ac2]at hx
 cases hy:ws[i]? with
 | none=>rw [hy]at hx;cases hx
 | some y=>rw [hy]at hx;exact⟨y,(Option.some.inj hx).symm,rfl⟩
theorem mQ{f CR:Addr}{fd:FuncData}(F:cC K "plain_rule" "plain_rule" fH f fd)(T:Txt mg aM)(D_is_number:cn P w K mg base "is_number" 7 ["word"] sg):az P w K mg base bH 8 f fd ["row","voices"] (Ag P w K mg base aM CR):=by
 refine F.ok sc_plain_rule (fun vs H Q E h=>?_) (fun cdv A outer s H vs Q E hr h=>?_)
 ·obtain⟨row,nv,D,rfl,_⟩:=h
  rfl
 obtain⟨row,nv,D,rfl,hz,tab,M,kn,ks⟩:=h
 refine⟨_,(ah (aB (i:=2) sc_plain_rule.nd rfl (Or.inl rfl) (bX K PySem.F.plainAttrs_str PySem.F.slot_str_split PySem.F.type_str_split e6 (pr 0) (aa ax ag)))
 (ah (aZ (PW.pt (bG (bD (aA (tH K) (aO (bj K) (pr 2) af (fun _ _=>rfl)) (eU T.g_MAKERS) (by with_unfolding_all rfl))) (bI (aY (aD (aw (gA K rfl) (by rfl) T.n_all boot_all (aa (fm (own:=["word"]) (js:=[]) rfl (cU K (aG (cw K) (pr 2) (ck af) aS)) (bU.of (by rfl)) (fun _ _ _ _ _=>(bq (i:=0) (show List.Nodup (["word"]:List Str)from by decide +kernel) rfl (Or.inl rfl))) (fun _ _ _ _ _=>eL) (fun _ _ _ _ _=>(aJ D_is_number hr (by rfl) (aa (pr 0) ag)))) ag)) (fun _=>rfl)))))) (ai (av bg)) aF)
 (ai (av (xX P w K mg base hr (xY K (eU T.g_MAKERS) (aO (bj K) (pr 2) af (fun _ _=>rfl)) (fun _ _=>rfl)) (aa (pr 0) (aa (fm (own:=["word"]) (js:=[]) rfl (cU K (aG (cw K) (pr 2) (ck af) aS)) (bU.of (by rfl)) (fun _ _ _ _ _=>(bq (i:=0) (show List.Nodup (["word"]:List Str)from by decide +kernel) rfl (Or.inl rfl))) (fun _ _ _ _ _=>eL) (fun _ _ _ _ _=>(aQ (du) (by rfl) T.n_int boot_int (aa (pr 0) ag)))) (aa (pr 1) ag)))))))),?_⟩
 walk_at "rd";have hs:sizeLine=16777216:=sizeLine_eq;refine⟨32,by decide +kernel,by decide,by omega,fun p hp=>?_⟩;have hl:=t9 row;have hw:∀y∈bY row,y.length≤9000:=fun y hy=>aa9 (yM hy) hz
 change iU (bY row) nv=none→_ at kn
 obtain⟨kind,ws,hws⟩:=kM row;rw [show Txt.split row ⟨#[32]⟩=kind::ws from hws];rw [hws]at kn ks hl hw;simp only [aa6]at hl;have sp0:au H (upd H p (.lst ((kind::ws).map V.str))):=ar hp;generalize hH0:upd H p (.lst ((kind::ws).map V.str))=H0 at sp0
 have hp0:H0 p=some (.lst ((kind::ws).map V.str)):=by rw [←hH0,ae]
 refine ba (aV.of hp0) (bt rfl) ⟨kind,rfl,D,tab,?_⟩;rcases M.to kind with⟨mk,g,hmk,hg,fn⟩ | ⟨hmk,hg⟩
 rotate_left
 ·rw [hg]
  walk_at "rd";exact kn (by unfold iU;rw [show(kind::ws).headD ⟨#[]⟩=kind from rfl,hmk]) _ sp0
 rw [hg];walk_at "rd";refine bx (aV.of hp0) fun q hq=>?_;rw [show(some (1:Int))=some ((1:Nat):Int)from rfl,b8];show z6 _ _ _ _;have s1:au H0 (upd H0 q (.lst (ws.map V.str))):=ar hq;refine cW (xs:=ws.map V.str) (aV.of ae) (cX (xs:=ws.map V.str) (fun i ys H'=>ys=((ws.take i).map eu).map V.bl∧au (upd H0 q (.lst (ws.map V.str))) H') (by simp;omega) ⟨rfl,au.refl _⟩ ?_ ?_ ?_ ?_)
 ·rintro i ys H' ⟨rfl,sm⟩
  rw [aa0,aa0,ac5];omega
 ·rintro i ys H' ⟨rfl,sm⟩
  exact sm.seq (aV.of ae)
 ·rintro i x ys H' hx ⟨rfl,sm⟩
  obtain⟨y,rfl,hy⟩:=qm hx;walk_at "rd";refine⟨y,rfl,aa9 (hw y (ac0 _ (ac7 hy))) (by decide),fun H1 s1=>⟨?_,sm.trans s1⟩⟩;rw [ac8,hy,ab8,ab8];rfl
 rintro ys H1 ⟨rfl,sm⟩ p1 hp1;rw [aa0,ad4];refine⟨_,aV.of ae,?_⟩;rw [show(ws.map eu).all id=ws.all eu by rw [ah9];rfl];have s2:au H0 (upd H1 p1 (.lst ((ws.map eu).map V.bl))):=(s1.trans sm).upd hp1;generalize upd H1 p1 (.lst ((ws.map eu).map V.bl))=H2 at s2
 cases hall:ws.all eu with
 | false=>
  walk_at "rd";exact kn (by unfold iU;rw [show(kind::ws).headD ⟨#[]⟩=kind from rfl,hmk];simp only [List.tail_cons,hall];rfl) _ (sp0.trans s2)
 | true=>
  walk_at "rd";have hp2:=s2 _ _ hp0;refine ba (aV.of hp2) (bt rfl) ⟨kind,rfl,D,tab,_,hg,g,rfl,_,_,fn,?_⟩;refine bx (aV.of hp2) fun q2 hq2=>?_;rw [b8];show z6 _ _ _ _;have s3:au H0 (upd H2 q2 (.lst (ws.map V.str))):=s2.upd hq2;refine cW (xs:=ws.map V.str) (aV.of ae) (cX (xs:=ws.map V.str) (fun i ys H'=>ys=((ws.map bf).take i).map V.int∧upd H2 q2 (.lst (ws.map V.str))=H') (by simp;omega) ⟨rfl,rfl⟩ ?_ ?_ ?_ ?_)
  ·rintro i ys H' ⟨rfl,rfl⟩
   rw [aa0,ac5,aa0];omega
  ·rintro i ys H' ⟨rfl,rfl⟩
   exact aV.of ae
  ·rintro i x ys H' hx ⟨rfl,rfl⟩
   obtain⟨y,rfl,hy⟩:=qm hx;obtain⟨e1,e2⟩:=fi (af1.mp hall y (ac7 hy));walk_at "rd";refine⟨bf y,e1,e2,?_⟩;rw [ac8,ac2,hy,ab8];rfl
  rintro ys H3 ⟨rfl,rfl⟩ p3 hp3;have s4:au H0 (upd (upd H2 q2 (.lst (ws.map V.str))) p3 (.lst (((ws.map bf).take (ws.map V.str).length).map V.int))):=s3.upd hp3
  have e:iU (kind::ws) nv=mk nv (ws.map bf):=by unfold iU;rw [show(kind::ws).headD ⟨#[]⟩=kind from rfl,hmk];simp only [List.tail_cons,hall,if_true]
  rw [e]at kn ks;refine⟨p3,row,ws.map bf,nv,rfl,?_,by rw [aa0];omega,fun hm H' s'=>kn hm _ ((sp0.trans s4).trans s'),fun sz hm r H' s' R=>ks sz hm r _ ((sp0.trans s4).trans s') R⟩;refine aV.of ?_;rw [ae,aa0,show(ws.map bf).take ws.length=ws.map bf by rw [←aa0 (f:=bf),ad4]]
end
theorem kJ{c a:Nat}{l:List Nat}(h:a=c):dk c (a::l)=[]::dk c l:=by
 rw [dk,if_pos h]
theorem i9{c a:Nat}{l p:List Nat}{ps:List (List Nat)}(h:¬a=c)(e:dk c l=p::ps):dk c (a::l)=(a::p)::ps:=by
 rw [dk,if_neg h,e]
theorem si{c a n:Nat}{l:List Nat}(h:a=c):cZ c (n+1) (a::l)=[]::cZ c n l:=by
 rw [cZ,if_pos h]
theorem oz{c a n:Nat}{l p:List Nat}{ps:List (List Nat)}(h:¬a=c)(e:cZ c (n+1) l=p::ps):cZ c (n+1) (a::l)=(a::p)::ps:=by
 rw [cZ,if_neg h,e]
theorem tV(c:Nat)(l:List Nat):∃p ps,dk c l=p::ps:=by
 cases e:dk c l with
 | nil=>exact absurd e (jR c l)
 | cons p ps=>exact⟨p,ps,rfl⟩
theorem mj(c:Nat):∀(n:Nat) (l:List Nat),(dk c l).length≤n→cZ c n l=dk c l
 | 0,l,h=>absurd (af2.mp (Nat.le_zero.mp h)) (jR c l)
 | n+1,[],_=>by simp [cZ,dk]
 | n+1,a::l,h=>by
  by_cases hc:a=c
  ·rw [kJ hc]at h ⊢
   rw [si hc,mj c n l (by simpa using h)]
  ·obtain⟨p,ps,e⟩:=tV c l
   rw [i9 hc e]at h ⊢;exact oz hc (by rw [mj c (n+1) l (by rw [e];simpa using h),e])
theorem jQ(c:Nat):∀(n:Nat) (l:List Nat),n < (dk c l).length→∃rest,cZ c n l=(dk c l).take n++[rest]∧dk c rest=(dk c l).drop n∧rest.length≤l.length
 | 0,l,_=>⟨l,by simp [cZ],by simp,aa7 _⟩
 | n+1,[],h=>by simp [dk]at h
 | n+1,a::l,h=>by
  by_cases hc:a=c
  ·rw [kJ hc]at h ⊢
   obtain⟨rest,h1,h2,h3⟩:=jQ c n l (by simpa using h);refine⟨rest,?_,?_,ah0 h3⟩
   ·rw [si hc,h1];rfl
   ·rw [h2];rfl
  ·obtain⟨p,ps,e⟩:=tV c l
   rw [i9 hc e]at h ⊢;obtain⟨rest,h1,h2,h3⟩:=jQ c (n+1) l (by rw [e];simpa using h);rw [e]at h1 h2;exact⟨rest,oz hc h1,h2,ah0 h3⟩
theorem qq{xs ys:List Str}(h:xs.map (fun z=>z.cps.toList)=ys.map (fun z=>z.cps.toList)):xs=ys:=by
 refine List.map_inj_right (f:=fun z:Str=>z.cps.toList) (fun a b e=>str_iff.mpr e) |>.mp h
theorem cP(z:Str):(bY z).map (fun y=>y.cps.toList)=dk 32 z.cps.toList:=bR z (by decide)
theorem nY{z:Str}(h:(bY z).length≤3):dA z 32 3=bY z:=by
 refine qq ?_;rw [fk,cP,mj];rw [←cP,aa0];exact h
theorem lU{z:Str}(h:3 < (bY z).length):∃rest,dA z 32 3=(bY z).take 3++[rest]∧bY rest=(bY z).drop 3∧rest.length≤z.length:=by
 obtain⟨rest,h1,h2,h3⟩:=jQ 32 3 z.cps.toList (by rw [←cP,aa0];exact h);refine⟨⟨rest.toArray⟩,qq ?_,qq ?_,?_⟩
 ·rw [fk,h1,ab8,ae5,cP]
  rfl
 ·rw [cP,List.map_drop,cP]
  exact h2
 ·rw [aL,aL]
  exact h3
def sQ(ws:List Str)(nv:Int):Option Int:=
 match ws with
 | _::a::b::k::r=>if eu a=true∧eu b=true∧(0≤bf b∧bf b < bf a)∧(k=Str.ofString "span"∨k=Str.ofString "clock")∧iU (k::r) nv≠none then some (bf a)else none
 | _=>none
def B4(P:Program)(w:World)(K:Frag)(mg:Str→Option Value)(base:Heap)(aM CR:Addr):Sp:=fun vs H Q _=>∃(row:Str) (nv:Int) (D:List (Str×V)),vs=[.str row,.int nv]∧row.length≤9000∧cH 32 row.cps.toList 0≠[]∧g8 K aM D∧fT P w K mg base CR D∧
 (sQ (bY row) nv=none→∀H',au H H'→Q .non H')∧∀sz,sQ (bY row) nv=some sz→∀r H',au H H'→bo P w K mg base CR row sz r H'→Q (.ref r) H'
theorem jn{w0 a b k:Str}{r:List Str}{nv:Int}(h:¬(eu a=true∧eu b=true∧(0≤bf b∧bf b < bf a)∧(k=Str.ofString "span"∨k=Str.ofString "clock")∧iU (k::r) nv≠none)):sQ (w0::a::b::k::r) nv=none:=if_neg h
theorem uw{w0 a b k:Str}{r:List Str}{nv:Int}(h:eu a=true∧eu b=true∧(0≤bf b∧bf b < bf a)∧(k=Str.ofString "span"∨k=Str.ofString "clock")∧iU (k::r) nv≠none):sQ (w0::a::b::k::r) nv=some (bf a):=if_pos h
section
variable {P:Program} {w:World} {K:Frag} {mg:Str→Option Value} {base:Heap} {aM:Addr}
theorem xk{C CR r ri:Addr}{row:Str}{t u:Int}{H:Hp}{dx:Addr}(TC:iC K C)(h1:aK P w K mg base C "size" 7 ["self"] (jN (ku C row t u fun _ _=>True) (.int t)))(h2:aK P w K mg base C "shown" 7 ["self"] (bF K))(kt:eH K C CR)
  (h:H r=some (.ins C dx (dv row t u ri))):bo P w K mg base CR row t r H:=by
 refine gY (RI:=ku C row t u fun _ _=>True) (fun r H H' s h=>?_) (fun r H h=>?_) TC.cl TC.n1 h1 h2 kt ⟨dx,ri,h,trivial⟩
 ·obtain⟨dx,n,e1,e2⟩:=h
  exact⟨dx,n,s _ _ _ _ e1,e2⟩
 ·obtain⟨dx,n,e1,_⟩:=h
  refine⟨dx,_,e1,?_,?_,?_⟩<;>(unfold dv;walk_at "flds")
theorem mP{f C CR aI:Addr}{fd:FuncData}(F:cC K "every_rule" "every_rule" fF f fd)(T:Cu mg aM aI)(hI:wB K aI [.str "span",.str "clock"])(D_is_number:cn P w K mg base "is_number" 8 ["word"] sg)(D_plain_rule:cn P w K mg base "plain_rule" 8 ["row","voices"] (Ag P w K mg base aM CR))(DM_Every:cG P w K mg base "Every" C 7 ["self","row","turns","turn","inner"] (gp K C))
  (EI:∀(row:Str) (t u:Int) (r ri dx:Addr) (H:Hp),H r=some (.ins C dx (dv row t u ri))→bo P w K mg base CR row t r H):az P w K mg base bH 9 f fd ["row","voices"] (B4 P w K mg base aM CR):=by
 refine F.ok sc_every_rule (fun vs H Q E h=>?_) (fun cdv A outer s H vs Q E hr h=>?_)
 ·obtain⟨row,nv,D,rfl,_⟩:=h
  rfl
 obtain⟨row,nv,D,rfl,hz,hpo,tab,M,kn,ks⟩:=h
 refine⟨_,(ah (aB (i:=2) sc_every_rule.nd rfl (Or.inl rfl) (bX K PySem.F.plainAttrs_str PySem.F.slot_str_split PySem.F.type_str_split vI (pr 0) (aa ax (aa af ag))))
 (ah (aZ (PW.pt (bG (bD (aA yS (aw (bh K) (by rfl) T.n_len boot_len (aa (pr 2) ag)) af (aE _))) (bG (aY (aD (aJ D_is_number hr (by rfl) (aa (aO (bj K) (pr 2) af (fun _ _=>rfl)) ag)) (fun _=>rfl))) (bI (aY (aD (aJ D_is_number hr (by rfl) (aa (aO (bj K) (pr 2) af (fun _ _=>rfl)) ag)) (fun _=>rfl))))))) (ai (av bg)) aF)
 (ah (aB (i:=3) sc_every_rule.nd rfl (Or.inl rfl) (aQ (du) (by rfl) T.n_int boot_int (aa (aO (bj K) (pr 2) af (fun _ _=>rfl)) ag)))
 (ah (aB (i:=4) sc_every_rule.nd rfl (Or.inl rfl) (aQ (du) (by rfl) T.n_int boot_int (aa (aO (bj K) (pr 2) af (fun _ _=>rfl)) ag)))
 (ah (aZ (PW.pt (bG (aY (bD (yf (o0 lT) (o0 jA) af (pr 4) (pr 3)))) (bI (bD (aA (xW K) (aO (bj K) (bX K PySem.F.plainAttrs_str PySem.F.slot_str_split PySem.F.type_str_split e6 (aO (bj K) (pr 2) af (fun _ _=>rfl)) (aa ax ag)) af (fun _ _=>rfl)) (eU T.g_INNER_KINDS) (by with_unfolding_all rfl)))))) (ai (av bg)) aF)
 (ah (aB (i:=5) sc_every_rule.nd rfl (Or.inl rfl) (aJ D_plain_rule hr (by rfl) (aa (aO (bj K) (pr 2) af (fun _ _=>rfl)) (aa (pr 1) ag))))
 (ai (av (iT (bD (aA tI (pr 5) bg (aE _))) bg (de DM_Every hr (by rfl) (aa (pr 0) (aa (pr 3) (aa (pr 4) (aa (pr 5) ag)))))))))))))),?_⟩
 have hs:sizeLine=16777216:=sizeLine_eq;have hwl:=t9 row
 have hpl:(dA row 32 3).length≤10000:=by
  by_cases h:(bY row).length≤3
  ·rw [nY h];omega
  ·obtain⟨rest,e,_⟩:=lU (Nat.lt_of_not_le h)
   rw [e];simp;omega
 refine bu (fun σ H'=>∃p:Addr,H' p=some (.lst ((dA row 32 3).map V.str))∧σ=[some (.str row),some (.int nv),some (.ref p),none,none,none]∧au H H') ?_ ?_
 ·intro u' hu
  walk_at "rd";refine⟨32,by decide +kernel,by decide,by decide,by decide,hpo,by omega,?_,fun p hp=>?_⟩
  ·rw [show Int.toNat 3=3 from rfl];omega
  ·rw [show Int.toNat 3=3 from rfl]
   exact hu _ _ ⟨p,ae,rfl,ar hp⟩
 rintro _ H0 ⟨p,hp0,rfl,s0⟩
 by_cases hw4:(bY row).length≤3
 ·rw [nY hw4]at hp0
  refine fh fun A0 B0 hA hB=>?_;walk_at "rd";refine⟨_,.inl (aV.of hp0),?_⟩;rw [aa0,if_neg (show ¬(((bY row).length:Nat):Int)=4 by omega)];refine hA _ ?_;walk_at "rd";refine kn ?_ _ s0
  match h:bY row,hw4 with
  | [],_=>rfl
  | [_],_=>rfl
  | [_,_],_=>rfl
  | [_,_,_],_=>rfl
 obtain⟨rest,hpe,hrw,hrl⟩:=lU (Nat.lt_of_not_le hw4)
 obtain⟨w0,a,b,kind,r,hW⟩:∃w0 a b kind r,bY row=w0::a::b::kind::r:=by
  match h:bY row,hw4 with
  | w0::a::b::kind::r,_=>exact⟨w0,a,b,kind,r,rfl⟩
  | [],hw=>exact absurd (by simp) hw
  | [_],hw=>exact absurd (by simp) hw
  | [_,_],hw=>exact absurd (by simp) hw
  | [_,_,_],hw=>exact absurd (by simp) hw
 have hwle:∀y∈bY row,y.length≤9000:=fun y hy=>aa9 (yM hy) hz;rw [hW]at hpe hrw kn ks hwle;replace hpe:dA row 32 3=[w0,a,b,rest]:=hpe;replace hrw:bY rest=kind::r:=hrw;rw [hpe]at hp0;have a0:aV K H0 p ([w0,a,b,rest].map V.str):=aV.of hp0;have la:a.length≤9000:=hwle a (by simp);have lb:b.length≤9000:=hwle b (by simp);refine fh fun A0 B0 hA hB=>?_
 have bad:∀H1,sQ (w0::a::b::kind::r) nv=none→au H0 H1→A0 H1:=fun H1 he s1=>hA _ (by
  walk_at "rd"
  exact kn he _ (s0.trans s1))
 walk_at "rd";refine⟨_,.inl a0,?_⟩;walk_at "rd";rw [if_pos (show(((0:Nat)+1+1+1+1:Nat):Int)=4 from rfl)];refine ba a0 (show eF _ ((1:Nat):Int)=_ from aW rfl) ⟨a,rfl,by omega,fun H1 s1=>?_⟩
 cases ha:eu a with
 | false=>
  rw [show cq a.cps.toList=false from ha];walk_at "rd";exact bad _ (jn (by rw [ha];exact fun z=>aa1 z.1)) s1
 | true=>
 rw [show cq a.cps.toList=true from ha];walk_at "rd";refine ba (s1.seq a0) (show eF _ ((2:Nat):Int)=_ from aW rfl) ⟨b,rfl,by omega,fun H2 s2=>?_⟩
 cases hb:eu b with
 | false=>
  rw [show cq b.cps.toList=false from hb];walk_at "rd";exact bad _ (jn (by rw [hb];exact fun z=>aa1 z.2.1)) (s1.trans s2)
 | true=>
 rw [show cq b.cps.toList=true from hb];walk_at "rd";refine hB _ ?_;clear bad hA hB;have s3:=s1.trans s2;clear s1 s2;obtain⟨a1,a2⟩:=fi ha;obtain⟨b1,b2⟩:=fi hb;have c0:aV K H2 p ([w0,a,b,rest].map V.str):=s3.seq a0;refine bu (fun σ H'=>σ=[some (.str row),some (.int nv),some (.ref p),some (.int (bf a)),none,none]∧H2=H') ?_ ?_
 ·intro u' hu
  walk_at "rd";refine ba c0 (show eF _ ((1:Nat):Int)=_ from aW rfl) ?_;walk_at "rd";exact⟨bf a,a1,a2,hu _ _ ⟨rfl,rfl⟩⟩
 rintro _ _ ⟨rfl,rfl⟩;refine bu (fun σ H'=>σ=[some (.str row),some (.int nv),some (.ref p),some (.int (bf a)),some (.int (bf b)),none]∧H2=H') ?_ ?_
 ·intro u' hu
  walk_at "rd";refine ba c0 (show eF _ ((2:Nat):Int)=_ from aW rfl) ?_;walk_at "rd";exact⟨bf b,b1,b2,hu _ _ ⟨rfl,rfl⟩⟩
 rintro _ _ ⟨rfl,rfl⟩;refine fh fun A0 B0 hA hB=>?_
 have bad:∀H1,sQ (w0::a::b::kind::r) nv=none→au H2 H1→A0 H1:=fun H1 he s1=>hA _ (by
  walk_at "rd"
  exact kn he _ ((s0.trans s3).trans s1))
 walk_at "rd"
 by_cases h1:0≤bf b
 rotate_left
 ·rw [if_neg h1]
  exact bad _ (jn (fun z=>h1 z.2.2.1.1)) (au.refl _)
 rw [if_pos h1]
 by_cases h2:bf b < bf a
 rotate_left
 ·rw [if_neg h2]
  exact bad _ (jn (fun z=>h2 z.2.2.1.2)) (au.refl _)
 rw [if_pos h2];refine ba c0 (show eF _ ((3:Nat):Int)=_ from aW rfl) ?_;walk_at "rd";refine⟨32,by decide +kernel,by decide,by omega,fun p1 hp1=>?_⟩;rw [show Txt.split rest ⟨#[32]⟩=kind::r from hrw];have s':au H2 (upd H2 p1 (.lst ((kind::r).map V.str))):=ar hp1;refine ba (aV.of ae) (bt rfl) (rW (ws:=[Str.ofString "span",Str.ofString "clock"]) (hI.at _) ⟨_,rfl,?_⟩)
 by_cases h3:kind∈[Str.ofString "span",Str.ofString "clock"]
 rotate_left
 ·rw [decide_eq_false h3,if_pos (by exact rfl)]
  exact bad _ (jn (fun z=>h3 (by rcases z.2.2.2.1 with rfl | rfl<;>simp))) s'
 rw [decide_eq_true h3,if_neg (by exact aa1)];refine hB _ ?_
 have h3':kind=Str.ofString "span"∨kind=Str.ofString "clock":=by simpa using h3
 clear bad hA hB;generalize upd H2 p1 (.lst ((kind::r).map V.str))=H3 at s';have s4:=(s0.trans s3).trans s';have d0:aV K H3 p ([w0,a,b,rest].map V.str):=s'.seq c0;refine bu (fun σ H'=>(iU (kind::r) nv=none∧σ=[some (.str row),some (.int nv),some (.ref p),some (.int (bf a)),some (.int (bf b)),some .non]∧au H H')∨(iU (kind::r) nv≠none∧∃ri:Addr,σ=[some (.str row),some (.int nv),some (.ref p),some (.int (bf a)),some (.int (bf b)),some (.ref ri)]∧au H H')) ?_ ?_
 ·intro u' hu
  walk_at "rd";refine ba d0 (show eF _ ((3:Nat):Int)=_ from aW rfl) ?_;refine⟨rest,nv,D,rfl,by omega,tab,M,fun hn H' sm=>?_,fun sz hn ri H' sm R=>?_⟩
  ·rw [hrw]at hn
   exact hu _ _ (.inl ⟨hn,rfl,s4.trans sm⟩)
  ·rw [hrw]at hn
   exact hu _ _ (.inr ⟨(fun z=>by rw [hn]at z;cases z),ri,rfl,s4.trans sm⟩)
 rintro _ H4 (⟨hn,rfl,s5⟩ | ⟨hn,ri,rfl,s5⟩)
 ·walk_at "rd"
  exact kn (jn (fun z=>z.2.2.2.2 hn)) _ s5
 walk_at "rd";show ∀x dx:Addr,_;intro x dx hx hdx hne;have s6:au H (upd (upd H4 dx (.own x)) x (.ins C dx [])):=(s5.upd hdx).upd (by rw [aj (Ne.symm hne)];exact hx);refine⟨x,dx,ri,row,bf a,bf b,rfl,ae,rfl,?_⟩;refine ks (bf a) (uw ⟨ha,hb,⟨h1,h2⟩,h3',hn⟩) x _ (fun c o hc=>?_) (EI row (bf a) (bf b) x ri dx _ ae);rw [aj (ak (s5 _ _ hc) hx)];exact s6 _ _ hc
end
theorem kC:typeLookup (.type "ValueError") "row"=pure none:=by rw [typeLookup_type,builtinLookup_eq_fast];kernel_rfl
abbrev zF:List Str:=["__setattr__","__getattribute__","__getattr__","__class__","row"]
theorem oB(z y:Str)(h:Txt.startswith z y=true):∃rest,z.cps.toList=y.cps.toList++rest:=by
 obtain⟨⟨l⟩⟩:=z;obtain⟨⟨m⟩⟩:=y;unfold Txt.startswith at h;rw [StrLaws.subAt_eq]at h;simp [Str.length]at h;exact⟨l.drop m.length,by show l=m++_;conv=>lhs;rw [←ai2 m.length l,h.2]⟩
def mZ(C:Addr)(pl:Int)(H:Hp)(a d:Addr):Prop:=H a=some (XO C d a)∧H d=some (.xd [("row",.int pl)])
def mR(z:Str)(nv:Int):Option Int:=if Txt.startswith z (Str.ofString "every ")=true then sQ (bY z) nv else iU (bY z) nv
def Ah(P:Program)(w:World)(K:Frag)(mg:Str→Option Value)(base:Heap)(aM CR C:Addr):Sp:=fun vs H Q E=>∃(z:Str) (nv pl:Int) (D:List (Str×V)),vs=[.str z,.int nv,.int pl]∧z.length≤9000∧g8 K aM D∧fT P w K mg base CR D∧
 (mR z nv=none→∀a d H',mZ C pl H' a d→au H H'→E (.ref a) (some d) H')∧∀sz,mR z nv=some sz→∀r H',au H H'→bo P w K mg base CR z sz r H'→Q (.ref r) H'
section
variable {P:Program} {w:World} {K:Frag} {mg:Str→Option Value} {base:Heap} {aM:Addr}
theorem vN{f C:Addr}{fd:FuncData}(F:cC K "__init__" "BadRow.__init__" di f fd)(TX:sA K C f zF):az P w K mg base bH 1 f fd ["self","row"] (ko C "row"):=by
 refine F.ok iz (fun vs H Q E h=>?_) (fun cdv A outer s H vs Q E hr h=>?_)
 ·obtain⟨a,v,rfl,_⟩:=h
  rfl
 obtain⟨a,v,rfl,ha,k⟩:=h;refine⟨_,(ai (uM TX (by decide +kernel) (by decide +kernel) kC (pr 0) (pr 1) rfl)),?_⟩;walk_at "rd";simp only [yr];walk_at "rd";exact⟨ha,fun d hd hda=>k d hd hda⟩
theorem xn{x qual:Str}{st:Stmt}{f:Addr}{fd:FuncData}{T:Addr}{N ps:List Str}{k:Nat}{sp:Sp}(F:wx K x qual st f fd T)(S:ay N ps (aq st))(len:∀vs H Q E,sp vs H Q E→vs.length=ps.length)
  (hbody:∀(cdv:Value) (A:Around) (outer:List Env) (s:Shared) (H:Hp) (vs:List V) (Q:VK) (E:XK),cD k (A.deeper (envOfC qual (aq st) s.heap.objs.size f cdv))→sp vs H Q E→
   ∃t,sC (jm (my P w) P w K mg base N qual (aq st) f cdv A outer s H E) (bZ st) t∧t { nx:=fun _ H'=>Q .non H',rt:=Q } (start N vs) H):az P w K mg base (my P w) (k+1) f fd ps sp:=by
 obtain⟨oc,od,kV,doc,pm,an,cdv,ct,osl,rfl,lk,hcd⟩:=F.ex;exact xl lk hcd S len fun A outer s H vs Q E hr hsp=>hbody cdv A outer s H vs Q E hr hsp
theorem vn{z:Str}(h:Txt.startswith z (Str.ofString "every ")=true):cH 32 z.cps.toList 0≠[]:=by
 obtain⟨rest,e⟩:=oB _ _ h;rw [e,show(Str.ofString "every ").cps.toList=(Str.ofString "every").cps.toList++[32]by decide +kernel,ae2];exact lW 32 _ _ 0
theorem pK{f C CR T0:Addr}{fd:FuncData}(F:wx K "read_rule" "read_rule" gk f fd T0)(T:Txt mg aM)(D_plain_rule:cn P w K mg base "plain_rule" 9 ["row","voices"] (Ag P w K mg base aM CR))(D_every_rule:cn P w K mg base "every_rule" 9 ["row","voices"] (B4 P w K mg base aM CR))(DE_BadRow:jd P w K mg base "BadRow" C 8 ["self","row"] (ko C "row") zF):az P w K mg base (my P w) 10 f fd ["text","voices","row"] (Ah P w K mg base aM CR C):=by
 refine xn F sc_read_rule (fun vs H Q E h=>?_) (fun cdv A outer s H vs Q E hr h=>?_)
 ·obtain⟨z,nv,pl,D,rfl,_⟩:=h
  rfl
 obtain⟨z,nv,pl,D,rfl,hz,tab,M,ke,ks⟩:=h
 refine⟨_,(ah (aB (i:=3) sc_read_rule.nd rfl (Or.inl rfl) (iT (aD (bX K PySem.F.plainAttrs_str PySem.F.slot_str_startswith PySem.F.type_str_startswith g4 (pr 0) (aa ax ag)) (fun _=>rfl)) (aJ D_every_rule hr (by rfl) (aa (pr 0) (aa (pr 1) ag))) (aJ D_plain_rule hr (by rfl) (aa (pr 0) (aa (pr 1) ag)))))
 (ah (aZ (bD (aA tI (pr 3) bg (aE _))) (ai (jB DE_BadRow rfl hr (by rfl) (fun _ _=>iO) (aa (pr 2) ag))) aF)
 (ai (av (pr 3))))),?_⟩
 have hs:sizeLine=16777216:=sizeLine_eq;refine bu (fun σ H'=>(mR z nv=none∧σ=[some (.str z),some (.int nv),some (.int pl),some .non]∧au H H')∨∃sz r,mR z nv=some sz∧bo P w K mg base CR z sz r H'∧σ=[some (.str z),some (.int nv),some (.int pl),some (.ref r)]∧au H H') ?_ ?_
 ·intro u' hu
  walk_at "rd"
  cases he:Txt.startswith z (Str.ofString "every ")with
  | true=>
   have er:mR z nv=sQ (bY z) nv:=if_pos he;rw [er]at hu
   first | rw [if_pos rfl] | skip
   exact⟨z,nv,D,rfl,hz,vn he,tab,M,fun hn H' s'=>hu _ _ (.inl ⟨hn,rfl,s'⟩),fun sz hn r H' s' R=>hu _ _ (.inr ⟨sz,r,hn,R,rfl,s'⟩)⟩
  | false=>
   have er:mR z nv=iU (bY z) nv:=if_neg (by rw [he];exact aa1);rw [er]at hu
   first | rw [if_neg aa1] | skip
   exact⟨z,nv,D,rfl,hz,tab,M,fun hn H' s'=>hu _ _ (.inl ⟨hn,rfl,s'⟩),fun sz hn r H' s' R=>hu _ _ (.inr ⟨sz,r,hn,R,rfl,s'⟩)⟩
 rintro _ H1 (⟨hn,rfl,s1⟩ | ⟨sz,r,hn,R,rfl,s1⟩)
 ·refine fh fun A0 B0 hA hB=>?_
  walk_at "rd";refine hA _ ?_;simp only [jT,gu];walk_at "rd";refine⟨by omega,fun a ha=>⟨a,.int pl,rfl,ae,fun d hd hda=>⟨rfl,d,by rw [aj (Ne.symm hda)];exact ae,_,ae,?_⟩⟩⟩
  have had:H1 d=none:=by
   rw [aj hda]at hd;exact hd
  refine ke hn a d _ ⟨ae,by rw [aj hda,ae]⟩ fun c o hc=>?_;have ca:c≠a:=ak (s1 _ _ hc) ha;have cd:c≠d:=ak (s1 _ _ hc) had;rw [aj ca,aj cd,aj ca,aj ca];exact s1 _ _ hc
 ·refine fh fun A0 B0 hA hB=>?_
  walk_at "rd";refine hB _ ?_;walk_at "rd";exact ks sz hn r _ s1 R
end
theorem kE{z:Str}(h:eu z=true):∃n:Int,z=aP n∧bf z=n∧n.natAbs < 10 ^ 40:=by
 obtain⟨n,e,hb⟩:=rk (show cq z.cps.toList=true from h);have ez:z=aP n:=str_iff.mpr e.symm;refine⟨n,ez,?_,hb⟩;unfold bf;rw [ez,show intText? (aP n)=some n from uC (ab1 hb (ai7 (by decide) (by decide)))];rfl
theorem kF{z:Str}(h:eu z=true):(bf z).natAbs < 10 ^ 40:=by
 obtain⟨n,_,e,hb⟩:=kE h;rw [e];exact hb
def u4:List Str→Option (Int×Int)
 | [v,a,b]=>if v=Str.ofString "voice"∧eu a=true∧eu b=true∧bf a≤bf b then some (bf a,bf b)else none
 | _=>none
def mX(row:Str):Option (Int×Int):=u4 (bY row)
theorem As:∀{ws:List Str},ws.length≠3→u4 ws=none
 | [],_=>by simp only [u4]
 | [_],_=>by simp only [u4]
 | [_,_],_=>by simp only [u4]
 | [_,_,_],h=>absurd rfl h
 | _::_::_::_::_,_=>by simp only [u4]
theorem mx{v:Str}{ws:List Str}(h:v≠Str.ofString "voice"):u4 (v::ws)=none:=by
 match ws with
 | [a,b]=>exact if_neg fun z=>h z.1
 | []=>simp only [u4]
 | [_]=>simp only [u4]
 | _::_::_::_=>simp only [u4]
def qh(K:Frag):Sp:=fun vs H Q _=>∃row:Str,vs=[.str row]∧row.length≤9000∧(mX row=none→∀H',au H H'→Q .non H')∧∀b,mX row=some b→∀p H',H' p=some (.tup [.int b.1,.int b.2])→au H H'→Q (.ref p) H'
section
variable {P:Program} {w:World} {K:Frag} {mg:Str→Option Value} {base:Heap} {aM:Addr}
theorem lQ{f:Addr}{fd:FuncData}(F:cC K "voice_range" "voice_range" eX f fd)(T:Txt mg aM)(D_is_number:cn P w K mg base "is_number" 1 ["word"] sg):az P w K mg base bH 2 f fd ["row"] (qh K):=by
 refine F.ok sc_voice_range (fun vs H Q E h=>?_) (fun cdv A outer s H vs Q E hr h=>?_)
 ·obtain⟨row,rfl,_⟩:=h
  rfl
 obtain⟨row,rfl,hl,kn,ks⟩:=h
 refine⟨_,(ah (aB (i:=1) sc_voice_range.nd rfl (Or.inl rfl) (bX K PySem.F.plainAttrs_str PySem.F.slot_str_split PySem.F.type_str_split e6 (pr 0) (aa ax ag)))
 (ah (aZ (PW.pt (bG (bD (aA yS (aw (bh K) (by rfl) T.n_len boot_len (aa (pr 1) ag)) af (aE _))) (bG (bD (aA yS (aO (bj K) (pr 1) af (fun _ _=>rfl)) ax (aE _))) (bI (aY (aD (aw (gA K rfl) (by rfl) T.n_all boot_all (aa (fm (own:=["word"]) (js:=[]) rfl (cU K (aG (cw K) (pr 1) (ck af) aS)) (bU.of (by rfl)) (fun _ _ _ _ _=>(bq (i:=0) (show List.Nodup (["word"]:List Str)from by decide +kernel) rfl (Or.inl rfl))) (fun _ _ _ _ _=>eL) (fun _ _ _ _ _=>(aJ D_is_number hr (by rfl) (aa (pr 0) ag)))) ag)) (fun _=>rfl))))))) (ai (av bg)) aF)
 (ah (aB (i:=2) sc_voice_range.nd rfl (Or.inl rfl) (ik (aa (aQ (du) (by rfl) T.n_int boot_int (aa (aO (bj K) (pr 1) af (fun _ _=>rfl)) ag)) (aa (aQ (du) (by rfl) T.n_int boot_int (aa (aO (bj K) (pr 1) af (fun _ _=>rfl)) ag)) ag))))
 (ai (av (iT (bD (aA (o0 lT) (aO (bj K) (pr 2) af (fun _ _=>rfl)) (aO (bj K) (pr 2) af (fun _ _=>rfl)) (aE _))) (pr 2) bg)))))),?_⟩
 have hs:sizeLine=16777216:=sizeLine_eq;have hwle:∀y∈bY row,y.length≤9000:=fun y hy=>aa9 (yM hy) hl;have hwl:=t9 row;obtain⟨v,ws,hW⟩:=kM row
 have ev:mX row=u4 (v::ws):=by unfold mX;rw [hW]
 rw [ev]at kn ks;rw [hW]at hwle hwl;refine bu (fun σ H'=>∃p:Addr,H' p=some (.lst ((v::ws).map V.str))∧σ=[some (.str row),some (.ref p),none]∧au H H') ?_ ?_
 ·intro u' hu
  walk_at "rd";refine⟨32,by decide +kernel,by decide,by omega,fun p hp=>?_⟩;rw [show Txt.split row ⟨#[32]⟩=v::ws from hW];exact hu _ _ ⟨p,ae,rfl,ar hp⟩
 rintro _ H1 ⟨p,hp1,rfl,s1⟩;have hp:=aV.of (K:=K) hp1
 by_cases h3:(v::ws).length=3
 rotate_left
 ·refine fh fun A0 B0 hA hB=>?_
  walk_at "rd";refine⟨_,.inl hp,?_⟩;rw [if_neg (by rw [aa0];omega)];refine hA _ ?_;walk_at "rd";exact kn (As h3) _ s1
 obtain⟨a,b,rfl⟩:∃a b,ws=[a,b]:=by
  match ws,h3 with
  | [a,b],_=>exact⟨a,b,rfl⟩
 by_cases hv:v=Str.ofString "voice"
 rotate_left
 ·refine fh fun A0 B0 hA hB=>?_
  walk_at "rd";refine⟨_,.inl hp,?_⟩;rw [if_pos (by rw [aa0];omega)];refine ba hp (bt rfl) ?_;walk_at "rd";rw [if_neg hv];refine hA _ ?_;walk_at "rd";exact kn (mx hv) _ s1
 have no:¬(eu a=true∧eu b=true∧bf a≤bf b)→∀H',au H1 H'→Q .non H':=fun h H' s'=>kn (if_neg fun z=>h z.2) _ (s1.trans s');refine bu (fun σ H'=>eu a=true∧eu b=true∧σ=[some (.str row),some (.ref p),none]∧au H1 H') ?_ ?_
 ·intro u' hu
  refine fh fun A0 B0 hA hB=>?_;walk_at "rd";refine⟨_,.inl hp,?_⟩;rw [if_pos (by rw [aa0];omega)];refine ba hp (bt rfl) ?_;walk_at "rd";rw [if_pos hv];refine bx hp fun q hq=>?_;rw [show(some (1:Int))=some ((1:Nat):Int)from rfl,b8];show z6 _ _ _ _;have sq:au H1 (upd H1 q (.lst ([a,b].map V.str))):=ar hq;refine cW (xs:=[a,b].map V.str) (aV.of ae) (cX (xs:=[a,b].map V.str) (fun i ys H'=>ys=(([a,b].take i).map eu).map V.bl∧au (upd H1 q (.lst ([a,b].map V.str))) H') (by simp;omega) ⟨rfl,au.refl _⟩ ?_ ?_ ?_ ?_)
  ·rintro i ys H' ⟨rfl,sm⟩
   rw [aa0,aa0,ac5];omega
  ·rintro i ys H' ⟨rfl,sm⟩
   exact sm.seq (aV.of ae)
  ·rintro i x ys H' hx ⟨rfl,sm⟩
   obtain⟨y,rfl,hy⟩:=qm hx;walk_at "rd";refine⟨y,rfl,aa9 (hwle y (ac0 _ (ac7 hy))) (by decide),fun H1 s1=>⟨?_,sm.trans s1⟩⟩;rw [ac8,hy,ab8,ab8];rfl
  rintro ys H2 ⟨rfl,sm⟩ p1 hp1;rw [aa0,ad4];refine⟨_,aV.of ae,?_⟩;have s2:au H1 (upd H2 p1 (.lst (([a,b].map eu).map V.bl))):=(sq.trans sm).upd hp1;generalize upd H2 p1 (.lst (([a,b].map eu).map V.bl))=H3 at s2
  cases ha:eu a with
  | false=>
   rw [show([a,b].map eu).all id=false by simp [ha]];walk_at "rd";refine hA _ ?_;walk_at "rd";exact no (fun z=>aa1 (ha.symm.trans z.1)) _ s2
  | true=>
  cases hb:eu b with
  | false=>
   rw [show([a,b].map eu).all id=false by simp [hb]];walk_at "rd";refine hA _ ?_;walk_at "rd";exact no (fun z=>aa1 (hb.symm.trans z.2.1)) _ s2
  | true=>
   rw [show([a,b].map eu).all id=true by simp [ha,hb]];walk_at "rd";refine hB _ ?_;exact hu _ _ ⟨ha,hb,rfl,s2⟩
 rintro _ H2 ⟨ha,hb,rfl,s2⟩;have hp2:=aV.of (K:=K) (s2 _ _ hp1);have ia:=fi ha;have ib:=fi hb;refine bu (fun σ H'=>∃t:Addr,H' t=some (.tup [.int (bf a),.int (bf b)])∧σ=[some (.str row),some (.ref p),some (.ref t)]∧au H1 H') ?_ ?_
 ·intro u' hu
  walk_at "rd";refine ba hp2 (show eF _ ((1:Nat):Int)=_ from aW rfl) ?_;walk_at "rd";refine⟨_,ia.1,ia.2,ba hp2 (show eF _ ((2:Nat):Int)=_ from aW rfl) ?_⟩;walk_at "rd";exact⟨_,ib.1,ib.2,by omega,fun t ht=>hu _ _ ⟨t,ae,rfl,s2.upd ht⟩⟩
 rintro _ H3 ⟨t,ht,rfl,s3⟩;walk_at "rd";refine oa (dI.of ht) (bt rfl) (oa (dI.of ht) (show eF _ ((1:Nat):Int)=_ from aW rfl) ?_);walk_at "rd"
 by_cases hle:bf a≤bf b
 ·rw [if_pos hle]
  exact ks (bf a,bf b) (if_pos ⟨hv,ha,hb,hle⟩) t _ ht (s1.trans s3)
 ·rw [if_neg hle]
  exact no (fun z=>hle z.2.2) _ s3
end
theorem lG:typeLookup (.type "ValueError") "weight"=pure none:=by rw [typeLookup_type,builtinLookup_eq_fast];kernel_rfl
abbrev Bq:List Str:=["__setattr__","__getattribute__","__getattr__","__class__","weight"]
def d8(a b:Addr):List (Str×V):=bp "rules" (.ref b) (bp "ranges" (.ref a) [])
structure ee(K:Frag)(C:Addr):Prop where
 cl:kg K C
 n1:NoAttr K C "ranges"
 n2:NoAttr K C "rules"
def gq(K:Frag)(C:Addr):Sp:=fun vs H Q _=>∃(x dx a b:Addr) (xs ys:List V),vs=[.ref x,.ref a,.ref b]∧H x=some (.ins C dx [])∧aV K H a xs∧aV K H b ys∧
 ∀p q H',H p=none→H q=none→q≠p→H'=upd (upd (upd H p (.lst xs)) q (.lst ys)) x (.ins C dx (d8 p q))→Q .non H'
def iF(K:Frag)(H:Hp)(a:Addr)(bs:List (Int×Int)):Prop:=∃ts:List Addr,aV K H a (ts.map V.ref)∧ts.length=bs.length∧∀(i:Nat) (t:Addr) (b:Int×Int),ts[i]?=some t→bs[i]?=some b→dI K H t [.int b.1,.int b.2]
theorem iF.same{K:Frag}{H H':Hp}{a:Addr}{bs:List (Int×Int)}(s:au H H')(h:iF K H a bs):iF K H' a bs:=by
 obtain⟨ts,h1,h2,h3⟩:=h;exact⟨ts,s.seq h1,h2,fun i t b e1 e2=>s.tup (h3 i t b e1 e2)⟩
section
variable {P:Program} {w:World} {K:Frag} {mg:Str→Option Value} {base:Heap} {aM:Addr}
def kv(P:Program)(w:World)(K:Frag)(mg:Str→Option Value)(base:Heap)(CR:Addr)(H:Hp)(b:Addr)(Rs:List (Str×Int)):Prop:=∃rs:List Addr,aV K H b (rs.map V.ref)∧rs.length=Rs.length∧∀(j:Nat) (r:Addr) (R:Str×Int),rs[j]?=some r→Rs[j]?=some R→bo P w K mg base CR R.1 R.2 r H
theorem kv.same{CR:Addr}{H H':Hp}{b:Addr}{Rs:List (Str×Int)}(s:au H H')(h:kv P w K mg base CR H b Rs):kv P w K mg base CR H' b Rs:=by
 obtain⟨rs,h1,h2,h3⟩:=h;exact⟨rs,s.seq h1,h2,fun j r R e1 e2=>(h3 j r R e1 e2).same s⟩
def d3(P:Program)(w:World)(K:Frag)(mg:Str→Option Value)(base:Heap)(CR C:Addr)(bs:List (Int×Int))(Rs:List (Str×Int))(x:Addr)(H:Hp):Prop:=∃(dx a b:Addr),H x=some (.ins C dx (d8 a b))∧iF K H a bs∧kv P w K mg base CR H b Rs
theorem d3.same{CR C:Addr}{bs:List (Int×Int)}{Rs:List (Str×Int)}{x:Addr}{H H':Hp}(s:au H H')(h:d3 P w K mg base CR C bs Rs x H):d3 P w K mg base CR C bs Rs x H':=by
 obtain⟨dx,a,b,h1,h2,h3⟩:=h;exact⟨dx,a,b,s _ _ h1,h2.same s,h3.same s⟩
def ka(b:Int×Int):Int:=b.2 - b.1+1
def qE(bs:List (Int×Int)):Int:=bs.foldl (fun t b=>t * ka b) 1
def mY(bs:List (Int×Int))(Rs:List (Str×Int)):Int:=Rs.foldl (fun t R=>t * R.2) (qE bs)
theorem pQ{α:Type}(f:α→Int):∀(l:List α) (t:Int) (m:Nat),t.natAbs < 2 ^ m→(∀b∈l,(f b).natAbs < 2 ^ 200)→(l.foldl (fun t b=>t * f b) t).natAbs < 2 ^ (m+200 * l.length)
 | [],t,m,h,_=>by simpa using h
 | b::l,t,m,h,hb=>by
  have h1:(t * f b).natAbs < 2 ^ (m+200):=by
   rw [Int.natAbs_mul,Nat.pow_add];exact Nat.mul_lt_mul_of_lt_of_le h (ah6 (hb b (by simp))) (Nat.pow_pos (by decide))
  have:=pQ f l (t * f b) (m+200) h1 fun x hx=>hb x (by simp [hx])
  rw [aa6,show m+200 * (l.length+1)=m+200+200 * l.length by omega];exact this
theorem ua{bs:List (Int×Int)}(h:∀b∈bs,(ka b).natAbs < 2 ^ 200):(qE bs).natAbs < 2 ^ (1+200 * bs.length):=pQ ka bs 1 1 (by decide) h
theorem s9{a b:Int}{m:Nat}(ha:a.natAbs < 2 ^ m)(hb:b.natAbs < 2 ^ 200)(h:m≤100000):IntMulOk a b:=IntMulOk.of_le (m:=m) (n:=200) (intBits_le_iff.mpr ha) (intBits_le_iff.mpr hb) (by omega)
def mi(P:Program)(w:World)(K:Frag)(mg:Str→Option Value)(base:Heap)(CR:Addr):Sp:=fun vs H Q _=>∃(x C:Addr) (bs:List (Int×Int)) (Rs:List (Str×Int)),vs=[.ref x]∧ee K C∧d3 P w K mg base CR C bs Rs x H∧bs.length≤100∧Rs.length≤100∧(∀b∈bs,(ka b).natAbs < 2 ^ 200)∧(∀R∈Rs,(R.2).natAbs < 2 ^ 200)∧Q (.int (mY bs Rs)) H
def wF(C:Addr)(wt:Int)(H:Hp)(a d:Addr):Prop:=H a=some (XO C d a)∧H d=some (.xd [("weight",.int wt)])
def jM(P:Program)(w:World)(K:Frag)(mg:Str→Option Value)(base:Heap)(CR C':Addr):Sp:=fun vs H Q E=>∃(x C:Addr) (bs:List (Int×Int)) (Rs:List (Str×Int)),vs=[.ref x]∧ee K C∧d3 P w K mg base CR C bs Rs x H∧bs.length≤100∧Rs.length≤100∧(∀b∈bs,(ka b).natAbs < 2 ^ 200)∧(∀R∈Rs,(R.2).natAbs < 2 ^ 200)∧(mY bs Rs≤400→Q (.ref x) H)∧(400 < mY bs Rs→∀a d H',wF C' (mY bs Rs) H' a d→au H H'→E (.ref a) (some d) H')
theorem nX(a b:Addr):(d8 a b).lookup (Str.ofString "ranges")=some (.ref a):=by unfold d8;walk_at "flds"
theorem rz(a b:Addr):(d8 a b).lookup (Str.ofString "rules")=some (.ref b):=by unfold d8;walk_at "flds"
theorem mK{f C:Addr}{fd:FuncData}(F:cC K "__init__" "Score.__init__" dG f fd)(T:Txt mg aM)(TC:ee K C):az P w K mg base bH 1 f fd ["self","ranges","rules"] (gq K C):=by
 refine F.ok i5 (fun vs H Q E h=>?_) (fun cdv A outer s H vs Q E hr h=>?_)
 ·obtain⟨x,dx,a,b,xs,ys,rfl,_⟩:=h
  rfl
 obtain⟨x,dx,a,b,xs,ys,rfl,hx,ha,hb,k⟩:=h
 refine⟨_,(ah (bA (pr 0) (aQ (cg K) (by rfl) T.n_list boot_list (aa (pr 1) ag)) rfl)
 (ai (bA (pr 0) (aQ (cg K) (by rfl) T.n_list boot_list (aa (pr 2) ag)) rfl))),?_⟩
 walk_at "rd";have ln:∀(f:Str) (v:V) (l:List (Str×V)) (n:Nat),l.length≤n→(bp f v l).length≤n+1:=fun f v l n h=>aa9 (bz f v l) (ad5 h);refine⟨xs,.inl ha,fun p hp=>?_⟩
 have px:p≠x:=fun e=>by subst e;rw [hx]at hp;cases hp
 refine⟨C,dx,[],by rw [aj (Ne.symm px)];exact hx,TC.cl,TC.n1,by decide,ys,.inl (((ar hp).seq hb).at_ins (by rw [aj (Ne.symm px)];exact hx)),fun q hq=>?_⟩
 have qx:q≠x:=fun e=>by subst e;rw [ae]at hq;cases hq
 rw [aj qx]at hq
 have qp:q≠p:=fun e=>by subst e;rw [ae]at hq;cases hq
 rw [aj qp]at hq;refine⟨C,dx,_,by rw [aj (Ne.symm qx),ae],TC.cl,TC.n2,aa8 (ln _ _ _ _ (ab5 0)) (by decide),?_⟩;refine k p q _ hp hq qp ?_;rw [eE];rfl
theorem vQ{f CR:Addr}{fd:FuncData}(F:cC K "weight" "weight" l6 f fd)(T:Txt mg aM):az P w K mg base bH 8 f fd ["score"] (mi P w K mg base CR):=by
 refine F.ok sc_weight (fun vs H Q E h=>?_) (fun cdv A outer s H vs Q E hr h=>?_)
 ·obtain⟨x,C,bs,Rs,rfl,_⟩:=h
  rfl
 obtain⟨x,C,bs,Rs,rfl,TC,⟨dx,a,b,hx,⟨ts,hts,htl,htc⟩,⟨rs,hrs,hrl,hrc⟩⟩,lb,lr,hwb,hwr,q⟩:=h
 refine⟨_,(ah (aB (i:=1) sc_weight.nd rfl (Or.inl rfl) af)
 (ah (eA PassesOwn.never rfl (cU K (gd (pr 0) rfl)) (gL K (n:=2) rfl (cv (bq (i:=2) sc_weight.nd rfl (Or.inl rfl)) (cv (bq (i:=3) sc_weight.nd rfl (Or.inl rfl)) gM)))
 (ai (C4 (yc (i:=1) sc_weight.nd rfl (Or.inl rfl) (ao (aX K) (ao (o0 gb) (pr 3) (pr 2)) af) (o1 rj)))))
 (ah (eA PassesOwn.never rfl (cU K (gd (pr 0) rfl)) (bq (i:=4) sc_weight.nd rfl (Or.inl rfl))
 (ai (C4 (yc (i:=1) sc_weight.nd rfl (Or.inl rfl) (n8 P w K mg base hr (pr 4)) (o1 rj)))))
 (ai (av (pr 1)))))),?_⟩
 refine bu (fun σ H'=>σ=[some (.ref x),some (.int 1),none,none,none]∧H=H') ?_ ?_
 ·intro u' hu
  walk_at "rd";exact hu _ _ ⟨rfl,rfl⟩
 rintro _ _ ⟨rfl,rfl⟩;refine bu (fun σ H'=>∃o1 o2:Option V,σ=[some (.ref x),some (.int (qE bs)),o1,o2,none]∧H=H') ?_ ?_
 ·intro u' hu
  walk_at "rd";refine⟨C,dx,_,hx,TC.cl,TC.n1,_,nX a b,cW hts (gJ (xs:=ts.map V.ref) (fun i σ H'=>∃o1 o2:Option V,σ=[some (.ref x),some (.int (qE (bs.take i))),o1,o2,none]∧H=H') ⟨none,none,rfl,rfl⟩ (fun i σ H' _ z=>by obtain⟨_,_,_,z⟩:=z;exact z▸hts) ?_ ?_)⟩
  ·rintro i y σ H1 hy ⟨o1,o2,rfl,rfl⟩
   rw [ac2]at hy
   cases ht:ts[i]? with
   | none=>rw [ht]at hy;cases hy
   | some t=>
    rw [ht]at hy;cases hy
    have hi:i < bs.length:=by rw [←htl];exact(aa4.mp ht).1
    have hb:bs[i]?=some bs[i]:=ab3 hi
    have e:qE (bs.take (i+1))=qE (bs.take i) * ka bs[i]:=by
     unfold qE;rw [ac8,hb,ai1];rfl
    walk_at "rd";refine⟨_,htc i t _ ht hb,rfl,?_⟩;walk_at "rd";rw [e];have hw:=hwb _ (ai3 hi);have ht:=ua (bs:=bs.take i) fun b hb=>hwb b (ai8 hb);exact⟨s9 ht hw (by rw [ac5];omega),rfl⟩
  ·rintro σ H1 ⟨o1,o2,rfl,rfl⟩
   rw [aa0,htl,ad4];exact hu _ _ ⟨o1,o2,rfl,rfl⟩
 rintro _ _ ⟨o1,o2,rfl,rfl⟩;walk_at "rd";refine⟨C,dx,_,hx,TC.cl,TC.n2,_,rz a b,cW hrs (gJ (xs:=rs.map V.ref) (fun i σ H'=>∃o3:Option V,σ=[some (.ref x),some (.int ((Rs.take i).foldl (fun t R=>t * R.2) (qE bs))),o1,o2,o3]∧H=H') ⟨none,rfl,rfl⟩ (fun i σ H' _ z=>by obtain⟨_,_,z⟩:=z;exact z▸hrs) ?_ ?_)⟩
 ·rintro i y σ H1 hy ⟨o3,rfl,rfl⟩
  rw [ac2]at hy
  cases ht:rs[i]? with
  | none=>rw [ht]at hy;cases hy
  | some r=>
   rw [ht]at hy;cases hy
   have hi:i < Rs.length:=by rw [←hrl];exact(aa4.mp ht).1
   have hb:Rs[i]?=some Rs[i]:=ab3 hi;obtain⟨Cr,RI,hri,_,hins,m1,m2,_⟩:=(hrc i r _ ht hb).ex;obtain⟨dr,fr,hir,q1,_⟩:=hins r _ hri;walk_at "rd";refine⟨Cr,dr,fr,hir,q1,_,_,m1,r,rfl,hri,?_⟩;walk_at "rd";rw [ac8,hb,ai1];have hw:=hwr _ (ai3 hi);have ht:=pQ (fun R:Str×Int=>R.2) (Rs.take i) (qE bs) _ (ua hwb) fun R hR=>hwr R (ai8 hR);exact⟨s9 ht hw (by rw [ac5];omega),rfl⟩
 ·rintro σ H1 ⟨o3,rfl,rfl⟩
  rw [aa0,hrl,ad4];walk_at "rd";exact q
theorem km{f CR C':Addr}{fd:FuncData}(F:cC K "not_too_wide" "not_too_wide" eD f fd)(T:Txt mg aM)(D_weight:cn P w K mg base "weight" 8 ["score"] (mi P w K mg base CR))(DE_TooWide:jd P w K mg base "TooWide" C' 7 ["self","weight"] (ko C' "weight") Bq):az P w K mg base (my P w) 9 f fd ["score"] (jM P w K mg base CR C'):=by
 refine F.okX sc_not_too_wide (fun vs H Q E h=>?_) (fun cdv A outer s H vs Q E hr h=>?_)
 ·obtain⟨x,C,bs,Rs,rfl,_⟩:=h
  rfl
 obtain⟨x,C,bs,Rs,rfl,TC,S,lb,lr,hwb,hwr,q1,q2⟩:=h
 refine⟨_,(ah (aB (i:=1) sc_not_too_wide.nd rfl (Or.inl rfl) (aJ D_weight hr (by rfl) (aa (pr 0) ag)))
 (ah (aZ (bD (aA (o0 uH) (pr 1) (eU T.g_MOST_WEIGHT) (aE _))) (ai (jB DE_TooWide rfl hr (by rfl) (fun _ _=>iO) (aa (pr 1) ag))) aF)
 (ai (av (pr 0))))),?_⟩
 have hs:sizeLine=16777216:=sizeLine_eq;refine bu (fun σ H'=>H=H'∧σ=[some (.ref x),some (.int (mY bs Rs))]) ?_ ?_
 ·intro u' hu
  walk_at "rd";exact⟨x,C,bs,Rs,rfl,TC,S,lb,lr,hwb,hwr,hu _ _ ⟨rfl,rfl⟩⟩
 rintro _ _ ⟨rfl,rfl⟩;refine fh fun A0 B0 hA hB=>?_;walk_at "rd"
 by_cases h:400 < mY bs Rs
 ·rw [if_pos h]
  refine hA _ ?_;simp only [jT,gu];walk_at "rd";refine⟨by omega,fun a ha=>⟨a,.int _,rfl,ae,fun d hd hda=>⟨rfl,d,by rw [aj (Ne.symm hda)];exact ae,_,ae,?_⟩⟩⟩
  have had:H d=none:=by
   rw [aj hda]at hd;exact hd
  refine q2 h a d _ ⟨ae,by rw [aj hda,ae]⟩ fun c o hc=>?_;have ca:c≠a:=ak hc ha;have cd:c≠d:=ak hc had;rw [aj ca,aj cd,aj ca,aj ca];exact hc
 ·rw [if_neg h]
  refine hB _ ?_;walk_at "rd";exact q1 (by omega)
end
theorem yH:(10:Nat) ^ 40+1 < 2 ^ 200:=by decide +kernel
theorem uz{ns:List Int}(h:∀n∈ns,n.natAbs < 10 ^ 40)(i:Nat):(ns.getD i 0).natAbs < 10 ^ 40:=by
 rw [ad3]
 cases e:ns[i]? with
 | none=>exact Nat.pow_pos (by decide)
 | some x=>exact h x (ac7 e)
theorem CK{k:Str}{mk:wg}{nv sz:Int}{ns:List Int}(h:d4 k=some mk)(e:mk nv ns=some sz)(hn:∀n∈ns,n.natAbs < 10 ^ 40):sz.natAbs < 2 ^ 200:=by
 have t:=yH
 have v:∀j,da j nv ns=some sz→sz.natAbs < 2 ^ 200:=fun j e=>by
  unfold da at e
  split at e
  ·cases e;decide +kernel
  ·cases e
 have b1:=uz hn 1;have b3:=uz hn 3;unfold d4 at h
 split at h
 ·cases h;exact v _ e
 split at h
 ·cases h
  unfold cj at e
  split at e
  ·cases e;decide +kernel
  ·cases e
 split at h
 ·cases h;exact v _ e
 split at h
 ·cases h;exact v _ e
 split at h
 ·cases h
  unfold dP at e
  split at e
  ·cases e;decide +kernel
  ·cases e
 split at h
 ·cases h
  unfold dz at e
  split at e
  ·cases e
   exact al1 b1 (al1 (af4 _) t)
  ·cases e
 split at h
 ·cases h
  unfold cK at e
  split at e
  ·cases e
   generalize ns.getD 3 0=y at b3;generalize(10:Nat) ^ 40=u at t b3;generalize(2:Nat) ^ 200=u2 at t;omega
  ·cases e
 split at h
 ·cases h;exact v _ e
 split at h
 ·cases h;exact v _ e
 ·cases h
theorem BH{ws:List Str}{nv sz:Int}(e:iU ws nv=some sz):sz.natAbs < 2 ^ 200:=by
 unfold iU at e
 split at e
 ·cases e
 ·rename_i mk hm
  split at e
  ·rename_i ha
   refine CK hm e fun n hn=>?_;obtain⟨y,hy,rfl⟩:=ac4.mp hn;exact kF (af1.mp ha y hy)
  ·cases e
theorem BX{z:Str}{nv sz:Int}(e:mR z nv=some sz):sz.natAbs < 2 ^ 200:=by
 unfold mR at e
 split at e
 ·unfold sQ at e
  split at e
  ·split at e
   ·rename_i h
    cases e;exact al1 (kF h.1) (al1 (af4 _) yH)
   ·cases e
  ·cases e
 ·exact BH e
theorem u5{ws:List Str}{b:Int×Int}(e:u4 ws=some b):b.1≤b.2∧b.1.natAbs < 10 ^ 40∧b.2.natAbs < 10 ^ 40∧ws=[Str.ofString "voice",aP b.1,aP b.2]:=by
 unfold u4 at e
 split at e
 ·split at e
  ·rename_i h
   cases e;obtain⟨n,e1,e2,e3⟩:=kE h.2.1;obtain⟨m,f1,f2,f3⟩:=kE h.2.2.1;refine⟨h.2.2.2,kF h.2.1,kF h.2.2.1,?_⟩;rw [h.1,e2,f2,←e1,←f1]
  ·cases e
 ·cases e
theorem qC{b:Int×Int}(h:b.1.natAbs < 10 ^ 40∧b.2.natAbs < 10 ^ 40):(ka b).natAbs < 2 ^ 200:=by
 have t:2 * (10:Nat) ^ 40+1 < 2 ^ 200:=by decide +kernel
 obtain⟨h1,h2⟩:=h;unfold ka;generalize(10:Nat) ^ 40=u at t h1 h2;generalize(2:Nat) ^ 200=u2 at t;omega
abbrev Dw:=List (Int×Int)×List (Str×Int)
def fR(r:Str)(bs:List (Int×Int))(Rs:List (Str×Int)):Option Dw:=
 if bs.length=0∨Rs.length=12 then none else match mR r bs.length with | none=>none | some sz=>some (bs,Rs++[(r,sz)])
def dq(r:Str)(bs:List (Int×Int))(Rs:List (Str×Int)):Option Dw:=
 match mX r with
 | some b=>if bs.length < 4∧Rs.length=0 then some (bs++[b],Rs)else fR r bs Rs
 | none=>fR r bs Rs
def dn:List Str→Nat→List (Int×Int)→List (Str×Int)→Nat ⊕ Dw
 | [],_,bs,Rs=>.inr (bs,Rs)
 | r::rows,n,bs,Rs=>match dq r bs Rs with | none=>.inl n | some x=>dn rows (n+1) x.1 x.2
def uf(bs:List (Int×Int))(Rs:List (Str×Int)):Prop:=bs.length≤4∧Rs.length≤12∧(∀b∈bs,b.1≤b.2∧b.1.natAbs < 10 ^ 40∧b.2.natAbs < 10 ^ 40)∧(∀R∈Rs,(R.2).natAbs < 2 ^ 200∧R.1.length≤9000)
def qe(P:Program)(w:World)(K:Frag)(mg:Str→Option Value)(base:Heap)(aM CR C Cb Cw:Addr):Sp:=fun vs H Q E=>∃(text:Str) (D:List (Str×V)),vs=[.str text]∧text.length≤1000000∧(∀r∈Txt.split text ⟨#[10]⟩,r.length≤9000)∧g8 K aM D∧fT P w K mg base CR D∧
 (∀k,dn (Txt.split text ⟨#[10]⟩) 0 [] []=.inl k→∀a d H',mZ Cb (k:Nat) H' a d→au H H'→E (.ref a) (some d) H')∧
 ∀bs Rs,dn (Txt.split text ⟨#[10]⟩) 0 [] []=.inr (bs,Rs)→uf bs Rs→(mY bs Rs≤400→∀x H',d3 P w K mg base CR C bs Rs x H'→au H H'→Q (.ref x) H')∧(400 < mY bs Rs→∀a d H',wF Cw (mY bs Rs) H' a d→au H H'→E (.ref a) (some d) H')
theorem tN{rows:List Str}{i:Nat}{r:Str}{bs:List (Int×Int)}{Rs:List (Str×Int)}(h:rows[i]?=some r):dn (rows.drop i) i bs Rs=match dq r bs Rs with | none=>.inl i | some x=>dn (rows.drop (i+1)) (i+1) x.1 x.2:=by
 have hi:i < rows.length:=(aa4.mp h).1
 have e:rows.drop i=r::rows.drop (i+1):=by
  rw [ah4 hi];congr 1;exact(aa4.mp h).2
 rw [e];rfl
theorem oh{Cb:Addr}{E:XK}{D:eG}{a0 a1 a2 a4 a5:V}{H:Hp}{k:Int}(q:∀a d H',mZ Cb k H' a d→au H H'→E (.ref a) (some d) H'):gu Cb (ko Cb (Str.ofString "row")) E (mr (Ao 3) su) D [some a0,some a1,some a2,some (.int k),some a4,some a5] H:=by
 have hs:sizeLine=16777216:=sizeLine_eq;simp only [gu];walk_at "rd";refine⟨by omega,fun a ha=>⟨a,.int k,rfl,ae,fun d hd hda=>⟨rfl,d,by rw [aj (Ne.symm hda)];exact ae,_,ae,?_⟩⟩⟩
 have had:H d=none:=by
  rw [aj hda]at hd;exact hd
 refine q a d _ ⟨ae,by rw [aj hda,ae]⟩ fun c o hc=>?_;have ca:c≠a:=ak hc ha;have cd:c≠d:=ak hc had;rw [aj ca,aj cd,aj ca,aj ca];exact hc
section
variable {P:Program} {w:World} {K:Frag} {mg:Str→Option Value} {base:Heap} {aM:Addr}
theorem zL{f CR C Cb Cw:Addr}{fd:FuncData}(F:cC K "read" "read" tP f fd)(T:Txt mg aM)(TC:ee K C)(D_voice_range:cn P w K mg base "voice_range" 10 ["row"] (qh K))(DX_read_rule:je P w K mg base "read_rule" 10 ["text","voices","row"] (Ah P w K mg base aM CR Cb))(DE_BadRow:jd P w K mg base "BadRow" Cb 9 ["self","row"] (ko Cb "row") zF)(DM_Score:cG P w K mg base "Score" C 9 ["self","ranges","rules"] (gq K C))(DX_not_too_wide:je P w K mg base "not_too_wide" 10 ["score"] (jM P w K mg base CR Cw)):az P w K mg base (my P w) 11 f fd ["text"] (qe P w K mg base aM CR C Cb Cw):=by
 refine F.okX sc_read (fun vs H Q E h=>?_) (fun cdv A outer s H vs Q E hr h=>?_)
 ·obtain⟨text,D,rfl,_⟩:=h
  rfl
 obtain⟨text,D,rfl,htl,hrl,tab,M,ke,ks⟩:=h
 refine⟨_,(ah (aB (i:=1) sc_read.nd rfl (Or.inl rfl) (bN ag))
 (ah (aB (i:=2) sc_read.nd rfl (Or.inl rfl) (bN ag))
 (ah (eA PassesOwn.leaving rfl (xZ rfl T.n_enumerate (aa (bX K PySem.F.plainAttrs_str PySem.F.slot_str_split PySem.F.type_str_split e6 (pr 0) (aa ax ag)) ag)) (gL K (n:=2) rfl (cv (bq (i:=3) sc_read.nd rfl (Or.inl rfl)) (cv (bq (i:=4) sc_read.nd rfl (Or.inl rfl)) gM)))
 (ah (aB (i:=5) sc_read.nd rfl (Or.inl rfl) (aJ D_voice_range hr (by rfl) (aa (pr 4) ag)))
 (ai (aZ (PW.pt (pR (bD (aA kG (pr 5) bg (aE _))) (pR (bD (aA (o0 jA) (aw (bh K) (by rfl) T.n_len boot_len (aa (pr 1) ag)) (eU T.g_MOST_VOICES) (aE _))) (uN (bD (aA pz (aw (bh K) (by rfl) T.n_len boot_len (aa (pr 2) ag)) af (aE _))))))) (ai (bQ (bX K PySem.F.plainAttrs_list PySem.F.slot_list_append PySem.F.type_list_append eZ (pr 1) (aa (pr 5) ag)))) (ai (aZ (PW.pt (bG (bD (aA pz (aw (bh K) (by rfl) T.n_len boot_len (aa (pr 1) ag)) af (aE _))) (bI (bD (aA pz (aw (bh K) (by rfl) T.n_len boot_len (aa (pr 2) ag)) (eU T.g_MOST_RULES) (aE _)))))) (ai (jB DE_BadRow rfl hr (by rfl) (fun _ _=>iO) (aa (pr 3) ag))) (ai (bQ (bX K PySem.F.plainAttrs_list PySem.F.slot_list_append PySem.F.type_list_append eZ (pr 2) (aa (uJ DX_read_rule hr (by rfl) AM (aa (pr 4) (aa (aw (bh K) (by rfl) T.n_len boot_len (aa (pr 1) ag)) (aa (pr 3) ag)))) ag))))))))))
 (ai (av (uJ DX_not_too_wide hr (by rfl) AM (aa (de DM_Score hr (by rfl) (aa (pr 1) (aa (pr 2) ag))) ag))))))),?_⟩
 have hs:sizeLine=16777216:=sizeLine_eq
 have hlen:(Txt.split text ⟨#[10]⟩).length≤1000001:=by
  have h1:(Txt.split text ⟨#[10]⟩).length=(dk 10 text.cps.toList).length:=by rw [←bR text (by decide),aa0]
  have h2:=kK 10 text.cps.toList;rw [←aL]at h2;omega
 generalize hrows:Txt.split text ⟨#[10]⟩=rows at hrl ke ks hlen;refine bu (fun σ H'=>∃ra:Addr,H ra=none∧H' ra=some (.lst (([]:List Addr).map V.ref))∧σ=[some (.str text),some (.ref ra),none,none,none,none]∧au H H') ?_ ?_
 ·intro u' hu
  walk_at "rd";exact⟨by omega,fun p hp=>hu _ _ ⟨p,hp,ae,rfl,ar hp⟩⟩
 rintro _ H1 ⟨ra,hra,hra1,rfl,s1⟩;refine bu (fun σ H'=>∃ru:Addr,H ru=none∧ru≠ra∧H' ru=some (.lst (([]:List Addr).map V.ref))∧H' ra=some (.lst (([]:List Addr).map V.ref))∧σ=[some (.str text),some (.ref ra),some (.ref ru),none,none,none]∧au H H') ?_ ?_
 ·intro u' hu
  walk_at "rd";exact⟨by omega,fun p hp=>hu _ _ ⟨p,s1.free hp,(ak hra1 hp).symm,ae,(ar hp) _ _ hra1,rfl,s1.upd hp⟩⟩
 clear hra1 s1;rintro _ H2 ⟨ru,hru,rra,hru2,hra2,rfl,s2⟩;obtain⟨St,hSt⟩:∃St:List (Int×Int)→List (Str×Int)→Hp→Prop,St=fun bs Rs H'=>∃(ts rs:List Addr),ts.length=bs.length∧rs.length=Rs.length∧H' ra=some (.lst (ts.map V.ref))∧H' ru=some (.lst (rs.map V.ref))∧(∀(j:Nat) (t:Addr) (b:Int×Int),ts[j]?=some t→bs[j]?=some b→H' t=some (.tup [.int b.1,.int b.2]))∧(∀(j:Nat) (r:Addr) (R:Str×Int),rs[j]?=some r→Rs[j]?=some R→bo P w K mg base CR R.1 R.2 r H')∧au H H':=⟨_,rfl⟩;refine bu (fun σ H'=>∃(bs:List (Int×Int)) (Rs:List (Str×Int)) (o3 o4 o5:Option V),dn rows 0 [] []=.inr (bs,Rs)∧uf bs Rs∧St bs Rs H'∧σ=[some (.str text),some (.ref ra),some (.ref ru),o3,o4,o5]) ?_ ?_
 ·intro u' hu
  walk_at "rd";refine⟨10,by decide +kernel,by decide,by omega,fun sp hsp0=>?_⟩;rw [hrows];have s3:au H2 (upd H2 sp (.lst (rows.map V.str))):=ar hsp0;have nsa:sp≠ra:=(ak hra2 hsp0).symm;have nsu:sp≠ru:=(ak hru2 hsp0).symm;obtain⟨Pv,hPv⟩:∃Pv:Nat→L2.St→Hp→Prop,Pv=fun i σ H'=>∃(bs:List (Int×Int)) (Rs:List (Str×Int)) (o3 o4 o5:Option V),dn rows 0 [] []=dn (rows.drop i) i bs Rs∧uf bs Rs∧St bs Rs H'∧H' sp=some (.lst (rows.map V.str))∧σ=[some (.str text),some (.ref ra),some (.ref ru),o3,o4,o5]:=⟨_,rfl⟩;refine⟨true,⟨_,aV.of ae⟩,sW (l:=true) (us:=rows.map V.str) Pv ?_ (fun i σ H' _ h=>by rw [hPv]at h;obtain⟨_,_,_,_,_,_,_,_,h,_⟩:=h;exact aV.of h) ?_ ?_⟩
  ·rw [hPv,hSt]
   exact⟨[],[],none,none,none,rfl,⟨by decide,by decide,fun _ h=>(by cases h),fun _ h=>(by cases h)⟩,⟨[],[],rfl,rfl,s3 _ _ hra2,s3 _ _ hru2,fun j t b e=>(by cases e),fun j r R e=>(by cases e),s2.trans s3⟩,ae,rfl⟩
  ·rintro i y σ H4 p hx hI hp0
   have hI':=hI;rw [hPv]at hI';clear hI;obtain⟨bs,Rs,o3,o4,o5,hG,hSm,hS,hs4,rfl⟩:=hI';obtain⟨r,rfl,hr0⟩:=qm hx;have sp5:au H4 (upd H4 p (.tup [.int i,.str r])):=ar hp0;have hp5:(upd H4 p (.tup [.int i,.str r])) p=some (.tup [.int i,.str r]):=ae;generalize upd H4 p (.tup [.int i,.str r])=H5 at sp5 hp5;rw [tN hr0]at hG;have hi:i < rows.length:=(aa4.mp hr0).1;have hr9:=hrl r (ac7 hr0);obtain⟨lb,lR,hSb,hSR⟩:=hSm;have SS:St bs Rs H4:=hS;rw [hSt]at hS;obtain⟨ts,rs,tl,rl,ha4,hu4,ht4,hr4,s4⟩:=hS
   have rest:∀(x:V) (H6:Hp),au H4 H6→dq r bs Rs=fR r bs Rs→∃x_1,(aV K H6 ra x_1∨dI K H6 ra x_1)∧if (x_1.length:Int)=0 then gu Cb (ko Cb (Str.ofString "row")) E (mr (Ao 3) su) { nx:=Pv (i+1),rt:=Q,bk:=u' { nx:=fun x H'=>Q V.non H',rt:=Q },ct:=Pv (i+1) } [some (V.str text),some (V.ref ra),some (V.ref ru),some (.int i),some (.str r),some x] H6
     else ∃x_2,(aV K H6 ru x_2∨dI K H6 ru x_2)∧if (x_2.length:Int)=12 then gu Cb (ko Cb (Str.ofString "row")) E (mr (Ao 3) su) { nx:=Pv (i+1),rt:=Q,bk:=u' { nx:=fun x H'=>Q V.non H',rt:=Q },ct:=Pv (i+1) } [some (V.str text),some (V.ref ra),some (V.ref ru),some (.int i),some (.str r),some x] H6
     else Ce K "list" (V.ref ru) H6∧∃x_3,(aV K H6 ra x_3∨dI K H6 ra x_3)∧Ah P w K mg base aM CR Cb [.str r,V.int x_3.length,.int i] H6 (fun x_4 H1=>pS (V.ref ru) [x_4] H1 fun x_5 H1=>Pv (i+1) [some (V.str text),some (V.ref ra),some (V.ref ru),some (.int i),some (.str r),some x] H1) E:=by
    intro x H6 s6 hst;rw [hst]at hG
    have bad:fR r bs Rs=none→∀a d H',mZ Cb (i:Int) H' a d→au H6 H'→E (.ref a) (some d) H':=fun e a d H' hb s'=>by
     rw [e]at hG;exact ke i hG a d H' hb ((s4.trans s6).trans s')
    refine⟨_,.inl (aV.of (s6 _ _ ha4)),?_⟩;rw [aa0,tl]
    by_cases c1:bs.length=0
    ·rw [if_pos (by omega)]
     exact oh (bad (if_pos (.inl c1)))
    rw [if_neg (by omega)];refine⟨_,.inl (aV.of (s6 _ _ hu4)),?_⟩;rw [aa0,rl]
    by_cases c2:Rs.length=12
    ·rw [if_pos (by omega)]
     exact oh (bad (if_pos (.inr c2)))
    rw [if_neg (by omega)]
    have eQ:fR r bs Rs=match mR r bs.length with | none=>none | some sz=>some (bs,Rs++[(r,sz)]):=if_neg (by omega)
    refine⟨.inl ⟨rfl,_,aV.of (s6 _ _ hu4)⟩,_,.inl (aV.of (s6 _ _ ha4)),?_⟩;rw [aa0,tl];refine⟨r,bs.length,i,D,rfl,hr9,tab,M,fun hn a d H' hb s'=>bad (by rw [eQ,hn]) a d H' hb s',fun sz hn rr H7 s67 R=>?_⟩;rw [eQ,hn]at hG;have s47:=s6.trans s67;have hu7:=s47 _ _ hu4;refine⟨ru,_,_,rfl,rfl,hu7,by rw [aa0];omega,?_⟩;rw [hPv,hSt];refine⟨bs,Rs++[(r,sz)],_,_,_,hG,⟨lb,by rw [ab2];simp only [aa6,ad2];omega,hSb,fun R hR=>?_⟩,⟨ts,rs++[rr],tl,by rw [ab2,ab2,rl];rfl,by rw [aj rra.symm];exact s47 _ _ ha4,by rw [ae,ab8];rfl,fun j t' b' e1 e2=>?_,fun j r' R' e1 e2=>?_,fun c u hc=>?_⟩,by rw [aj nsu];exact s47 _ _ hs4,rfl⟩
    ·rcases ac3.mp hR with hR | hR
     ·exact hSR R hR
     ·rw [ac9.mp hR]
      exact⟨BX hn,hr9⟩
    ·have:=s47 _ _ (ht4 j t' b' e1 e2)
     rw [aj (lI this hu7 (fun e=>by cases e))];exact this
    ·by_cases hj:j < rs.length
     ·rw [ad6 hj]at e1
      rw [ad6 (by omega)]at e2;exact((hr4 j r' R' e1 e2).same s47).stab hu7
     ·rw [ad0 (by omega)]at e1
      rw [ad0 (by omega)]at e2
      have ej:j=rs.length:=by
       have:=(aa4.mp e1).1
       simp at this;omega
      rw [ej,aj5]at e1;rw [ej,rl,aj5]at e2;cases e1;cases e2;exact R.stab hu7
    ·rw [aj (ak hc hru)]
     exact(s4.trans s47) _ _ hc
   walk_at "rd";refine⟨_,dI.of hp5,rfl,?_⟩;walk_at "rd";refine⟨r,rfl,hr9,fun hn H6 s56=>?_,fun b hb t H6 ht6 s56=>?_⟩
   ·exact rest .non H6 (sp5.trans s56) (by unfold dq;rw [hn])
   ·have s46:=sp5.trans s56
    have ha6:=s46 _ _ ha4;refine⟨_,.inl (aV.of ha6),?_⟩;rw [aa0,tl]
    by_cases c1:bs.length < 4
    rotate_left
    ·rw [if_neg (by omega)]
     exact rest (.ref t) H6 s46 (by unfold dq;rw [hb];exact if_neg fun z=>c1 z.1)
    rw [if_pos (by omega)];refine⟨_,.inl (aV.of (s46 _ _ hu4)),?_⟩;rw [aa0,rl]
    by_cases c2:Rs.length=0
    rotate_left
    ·rw [if_neg (by omega)]
     exact rest (.ref t) H6 s46 (by unfold dq;rw [hb];exact if_neg fun z=>c2 z.2)
    rw [if_pos (by omega)]
    have est:dq r bs Rs=some (bs++[b],Rs):=by unfold dq;rw [hb];exact if_pos ⟨c1,c2⟩
    rw [est]at hG;have hb3:=u5 hb;refine⟨.inl ⟨rfl,_,aV.of ha6⟩,ra,_,_,rfl,rfl,ha6,by rw [aa0];omega,?_⟩;rw [hPv,hSt];refine⟨bs++[b],Rs,_,_,_,hG,⟨by rw [ab2];simp only [aa6,ad2];omega,lR,fun b' hb'=>?_,hSR⟩,⟨ts++[t],rs,by rw [ab2,ab2,tl];rfl,rl,by rw [ae,ab8];rfl,by rw [aj rra];exact s46 _ _ hu4,fun j t' b' e1 e2=>?_,fun j r' R' e1 e2=>((hr4 j r' R' e1 e2).same s46).stab ha6,fun c u hc=>?_⟩,by rw [aj nsa];exact s46 _ _ hs4,rfl⟩
    ·rcases ac3.mp hb' with hb' | hb'
     ·exact hSb b' hb'
     ·rw [ac9.mp hb']
      exact⟨hb3.1,hb3.2.1,hb3.2.2.1⟩
    ·by_cases hj:j < ts.length
     ·rw [ad6 hj]at e1
      rw [ad6 (by omega)]at e2
      have:=s46 _ _ (ht4 j t' b' e1 e2)
      rw [aj (lI this ha6 (fun e=>by cases e))];exact this
     ·rw [ad0 (by omega)]at e1
      rw [ad0 (by omega)]at e2
      have ej:j=ts.length:=by
       have:=(aa4.mp e1).1
       simp at this;omega
      rw [ej,aj5]at e1;rw [ej,tl,aj5]at e2;cases e1;cases e2;rw [aj (lI ht6 ha6 (fun e=>by cases e))];exact ht6
    ·rw [aj (ak hc hra)]
     exact(s4.trans s46) _ _ hc
  ·intro σ H4 hI
   rw [hPv]at hI;obtain⟨bs,Rs,o3,o4,o5,hG,hSm,hS,hs4,rfl⟩:=hI;rw [aa0,ak5]at hG;exact hu _ _ ⟨bs,Rs,o3,o4,o5,hG,hSm,hS,rfl⟩
 rintro _ H4 ⟨bs,Rs,o3,o4,o5,hG,hSm,hS,rfl⟩;obtain⟨q1,q2⟩:=ks bs Rs hG hSm;obtain⟨lb,lR,hSb,hSR⟩:=hSm;rw [hSt]at hS;obtain⟨ts,rs,tl,rl,ha4,hu4,ht4,hr4,s4⟩:=hS;walk_at "rd";intro x dx hx hdx dxx;have s5:au H4 (upd (upd H4 dx (.own x)) x (.ins C dx [])):=(ar hdx).upd (by rw [aj dxx.symm];exact hx);refine⟨x,dx,ra,ru,ts.map V.ref,rs.map V.ref,rfl,ae,s5.seq (aV.of ha4),s5.seq (aV.of hu4),fun p q' H' hp hq hqp e=>⟨rfl,?_⟩⟩
 have px:p≠x:=fun e=>by subst e;rw [ae]at hp;cases hp
 have qx:q'≠x:=fun e=>by subst e;rw [ae]at hq;cases hq
 have s6:au H4 H':=fun c u hc=>by
  have h3:=s5 _ _ hc;have cx:c≠x:=ak hc hx;rw [e,aj cx,aj (ak h3 hq),aj (ak h3 hp)];exact h3
 have SA:d3 P w K mg base CR C bs Rs x H':=⟨dx,p,q',by rw [e,ae],⟨ts,aV.of (by rw [e,aj px,aj hqp.symm,ae]),tl,fun i t b e1 e2=>dI.of (s6 _ _ (ht4 i t b e1 e2))⟩,⟨rs,aV.of (by rw [e,aj qx,ae]),rl,fun j r R e1 e2=>(hr4 j r R e1 e2).same s6⟩⟩;exact⟨x,C,bs,Rs,rfl,TC,SA,by omega,by omega,fun b hb'=>qC (hSb b hb').2,fun R hR'=>(hSR R hR').1,fun h=>q1 h x H' SA (s4.trans s6),fun h a d H5 hw s7=>q2 h a d H5 hw ((s4.trans s6).trans s7)⟩
end
def d7(b:Int×Int):Str:=Str.ofString "voice " ++ aP b.1++Str.ofString " " ++ aP b.2
def ft(bs:List (Int×Int))(Rs:List (Str×Int)):List Str:=bs.map d7++Rs.map Prod.fst
def tZ(bs:List (Int×Int))(Rs:List (Str×Int)):Str:=Txt.join (Str.ofString "\n") (ft bs Rs)
theorem aC(a b:Str):(a++b).length=a.length+b.length:=by
 show(a.cps++b.cps).size=a.cps.size+b.cps.size;exact ak2
theorem bE{n:Int}(h:n.natAbs < 10 ^ 40):(aP n).length≤41:=xP h
theorem cJ{n:Int}(h:n.natAbs < 10 ^ 40):n.natAbs.log2 < 1920:=by
 by_cases h0:n.natAbs=0
 ·rw [h0];decide
 ·exact(Nat.log2_lt h0).mpr (ab1 h (by decide +kernel))
theorem vm(z:Str):Str.empty++z=z:=str_iff.mpr (by rw [aT];rfl)
theorem gw{b:Int×Int}(h1:b.1.natAbs < 10 ^ 40)(h2:b.2.natAbs < 10 ^ 40):(d7 b).length≤89:=by
 have e1:(Str.ofString "voice ").length=6:=by decide +kernel
 have e2:(Str.ofString " ").length=1:=by decide +kernel
 have:=bE h1
 have:=bE h2
 unfold d7;rw [aC,aC,aC];omega
def mf(P:Program)(w:World)(K:Frag)(mg:Str→Option Value)(base:Heap)(CR:Addr):Sp:=fun vs H Q _=>∃(x C:Addr) (bs:List (Int×Int)) (Rs:List (Str×Int)),vs=[.ref x]∧ee K C∧d3 P w K mg base CR C bs Rs x H∧bs.length≤4∧Rs.length≤12∧(∀b∈bs,b.1.natAbs < 10 ^ 40∧b.2.natAbs < 10 ^ 40)∧(∀R∈Rs,R.1.length≤20000)∧∀H',au H H'→Q (.str (tZ bs Rs)) H'
theorem up0{H H':Hp}{q:Addr}{x:HO}(h0:H q=none)(s:au H H'):au H (upd H' q x):=fun b o hb=>by
 rw [aj (ak hb h0)];exact s _ _ hb
def jP:Sp:=fun vs H Q _=>∃c p,vs=[.int c,.int p]∧∀H',au H H'→Q (.int (GM.stirF c p)) H'
def uT(K:Frag):Sp:=fun vs H Q _=>∃a ns p,vs=[.ref a,.int p]∧aV K H a (ns.map V.int)∧(∀x∈ns,x.natAbs < 2 ^ GB)∧0≤p∧p≤1000∧∀H',au H H'→Q (.int (GM.gotF ns p)) H'
section
variable {P:Program} {w:World} {K:Frag} {mg:Str→Option Value} {base:Heap} {aM:Addr}
theorem xV{f CR:Addr}{fd:FuncData}(F:cC K "shown" "shown" p6 f fd)(T:Txt mg aM):az P w K mg base bH 8 f fd ["score"] (mf P w K mg base CR):=by
 refine F.ok sc_shown (fun vs H Q E h=>?_) (fun cdv A outer s H vs Q E hr h=>?_)
 ·obtain⟨x,C,bs,Rs,rfl,_⟩:=h
  rfl
 obtain⟨x,C,bs,Rs,rfl,TC,⟨dx,a,b,hx,⟨ts,hts,htl,htc⟩,⟨rs,hrs,hrl,hrc⟩⟩,lb,lr,hb,hR,k⟩:=h
 refine⟨_,(ah (tK (i:=1) sc_shown.nd rfl (Or.inl rfl) (own:=["low","high"]) (js:=[]) rfl (cU K (gd (pr 0) rfl)) (bU.of (by rfl)) (fun _ _ _ _ _=>(gL K (n:=2) rfl (cv (bq (i:=0) (show List.Nodup (["low","high"]:List Str)from by decide +kernel) rfl (Or.inl rfl)) (cv (bq (i:=1) (show List.Nodup (["low","high"]:List Str)from by decide +kernel) rfl (Or.inl rfl)) gM)))) (fun _ _ _ _ _=>eL) (fun _ _ _ _ _=>(zS (x9 (x8 (pr 0) (x9 (x8 (pr 1) BG)))))) rfl)
 (ah (bQ (bX K PySem.F.plainAttrs_list PySem.F.slot_list_extend PySem.F.type_list_extend vH (pr 1) (aa (fm (own:=["rule"]) (js:=[]) rfl (cU K (gd (pr 0) rfl)) (bU.of (by rfl)) (fun _ _ _ _ _=>(bq (i:=0) (show List.Nodup (["rule"]:List Str)from by decide +kernel) rfl (Or.inl rfl))) (fun _ _ _ _ _=>eL) (fun _ _ _ _ _=>(n8 P w K mg base hr (pr 0)))) ag)))
 (ai (av (bX K PySem.F.plainAttrs_str PySem.F.slot_str_join PySem.F.type_str_join (lH K) ax (aa (pr 1) ag)))))),?_⟩
 have hs:sizeLine=16777216:=sizeLine_eq;refine bu (fun σ H'=>∃q:Addr,H q=none∧H' q=some (.lst ((bs.map d7).map V.str))∧σ=[some (.ref x),some (.ref q)]∧au H H') ?_ ?_
 ·intro u' hu
  walk_at "rd";refine⟨C,dx,_,hx,TC.cl,TC.n1,_,nX a b,cW hts (cX (xs:=ts.map V.ref) (fun i ys H'=>ys=((bs.take i).map d7).map V.str∧H=H') (by rw [aa0];omega) ⟨rfl,rfl⟩ ?_ ?_ ?_ ?_)⟩
  ·rintro i ys H' ⟨rfl,rfl⟩
   rw [aa0,aa0,ac5];omega
  ·rintro i ys H' ⟨rfl,rfl⟩
   exact hts
  ·rintro i y ys H' hy ⟨rfl,rfl⟩
   rw [ac2]at hy
   cases ht:ts[i]? with
   | none=>rw [ht]at hy;cases hy
   | some t=>
    rw [ht]at hy;cases hy
    have hi:i < bs.length:=by rw [←htl];exact(aa4.mp ht).1
    have hbi:bs[i]?=some bs[i]:=ab3 hi;simp only [nh];walk_at "rd";refine⟨_,htc i t _ ht hbi,rfl,?_⟩;walk_at "rd";obtain⟨n1,n2⟩:=hb _ (ai3 hi);rw [vm]
    have e1:(Str.ofString "voice ").length=6:=by decide +kernel
    have e2:(Str.ofString " ").length=1:=by decide +kernel
    have:=bE n1
    have:=bE n2
    refine⟨by omega,cJ n1,by rw [aC];omega,by rw [aC,aC];omega,cJ n2,by rw [aC,aC,aC];omega,by rw [aC,aC,aC];omega,?_⟩;rw [ac8,hbi,ab8,ab8];rfl
  ·rintro ys H' ⟨rfl,rfl⟩ q hq
   rw [aa0,htl,ad4];exact hu _ _ ⟨q,hq,ae,rfl,ar hq⟩
 rintro _ H1 ⟨q,hq0,hq1,rfl,s1⟩;refine bu (fun σ H'=>H' q=some (.lst ((ft bs Rs).map V.str))∧σ=[some (.ref x),some (.ref q)]∧au H H') ?_ ?_
 ·intro u' hu
  walk_at "rd";refine⟨.inl ⟨rfl,_,aV.of hq1⟩,C,dx,_,s1 _ _ hx,TC.cl,TC.n2,_,rz a b,cW (s1.seq hrs) (cX (xs:=rs.map V.ref) (fun i ys H'=>ys=((Rs.take i).map Prod.fst).map V.str∧H1=H') (by rw [aa0];omega) ⟨rfl,rfl⟩ ?_ ?_ ?_ ?_)⟩
  ·rintro i ys H' ⟨rfl,rfl⟩
   rw [aa0,aa0,ac5];omega
  ·rintro i ys H' ⟨rfl,rfl⟩
   exact s1.seq hrs
  ·rintro i y ys H' hy ⟨rfl,rfl⟩
   rw [ac2]at hy
   cases ht:rs[i]? with
   | none=>rw [ht]at hy;cases hy
   | some r=>
    rw [ht]at hy;cases hy
    have hi:i < Rs.length:=by rw [←hrl];exact(aa4.mp ht).1
    have hRi:Rs[i]?=some Rs[i]:=ab3 hi;obtain⟨Cr,RI,hri,_,hins,m1,m2,_⟩:=((hrc i r _ ht hRi).same s1).ex;obtain⟨dr,fr,hir,_,q2⟩:=hins r _ hri;simp only [nh];walk_at "rd";refine⟨Cr,dr,fr,hir,q2,_,_,m2,r,rfl,hri,?_⟩;rw [ac8,hRi,ab8,ab8];exact⟨rfl,rfl⟩
  ·rintro ys H' ⟨rfl,rfl⟩ p hp
   rw [aa0,hrl,ad4];have pq:q≠p:=ak hq1 hp;refine⟨q,p,_,_,rfl,rfl,by rw [aj pq];exact hq1,ae,by simp;omega,hu _ _ ⟨?_,rfl,up0 hq0 (s1.upd hp)⟩⟩;rw [ae];unfold ft;rw [ab8]
 rintro _ H2 ⟨hq2,rfl,s2⟩;walk_at "rd";refine⟨ft bs Rs,aV.of hq2,?_,k _ s2⟩
 have hl:∀z∈ft bs Rs,z.length≤20000:=fun z hz=>by
  rcases ac3.mp hz with hz | hz
  ·obtain⟨b,hb',rfl⟩:=ac4.mp hz
   have:=gw (hb b hb').1 (hb b hb').2
   omega
  ·obtain⟨R,hR',rfl⟩:=ac4.mp hz
   exact hR R hR'
 have h1:=StrLaws.sumLen_le (B:=20000) (ft bs Rs) hl
 have e1:(Str.ofString "\n").length=1:=by decide +kernel
 have l16:(ft bs Rs).length≤16:=by
  unfold ft;rw [ab2,aa0,aa0];omega
 rw [e1]
 have:=Nat.mul_le_mul_right 20000 l16
 omega
theorem td{f C:Addr}{fd:FuncData}(F:cC K "__init__" "TooWide.__init__" cY f fd)(TX:sA K C f Bq):az P w K mg base bH 1 f fd ["self","weight"] (ko C "weight"):=by
 refine F.ok gU (fun vs H Q E h=>?_) (fun cdv A outer s H vs Q E hr h=>?_)
 ·obtain⟨a,v,rfl,_⟩:=h
  rfl
 obtain⟨a,v,rfl,ha,k⟩:=h;refine⟨_,(ai (uM TX (by decide +kernel) (by decide +kernel) lG (pr 0) (pr 1) rfl)),?_⟩;walk_at "rd";simp only [yr];walk_at "rd";exact⟨ha,fun d hd hda=>k d hd hda⟩
theorem tG{f:Addr}{fd:FuncData}(F:cC K "_law_stirred" "_law_stirred" eW f fd)(T:Txt mg aM):az P w K mg base bH 1 f fd ["_law_cell","_law_place"] jP:=by
 refine F.ok sc_law_stirred (fun vs H Q E h=>?_) (fun cdv A outer s H vs Q E hr h=>?_)
 ·obtain⟨c,p,rfl,_⟩:=h
  rfl
 obtain⟨c,p,rfl,k⟩:=h
 refine⟨_,(ah (aB (i:=2) sc_law_stirred.nd rfl (Or.inl rfl) af)
 (ah (aB (i:=3) sc_law_stirred.nd rfl (Or.inl rfl) (ao (aX K) (ao (o1 bC) (ao (aX K) (ao (o1 bC) (pr 0) af) (ao (f9 K) af (pr 1))) af) af))
 (ah (eA PassesOwn.never rfl (fb rfl T.n_range (aa af ag)) (bq (i:=4) sc_law_stirred.nd rfl (Or.inl rfl))
 (ah (yb (aw (qL) (by rfl) T.n_divmod boot_divmod (aa (pr 3) (aa af ag))) (gL K (n:=2) rfl (cv (bq (i:=5) sc_law_stirred.nd rfl (Or.inl rfl)) (cv (bq (i:=6) sc_law_stirred.nd rfl (Or.inl rfl)) gM))))
 (ah (aB (i:=3) sc_law_stirred.nd rfl (Or.inl rfl) (ao (o1 bC) (ao (aX K) (ao (aX K) (ao (aX K) (ao (f9 K) (pr 6) af) (ao (f9 K) (pr 5) af)) (ao (f9 K) af (pr 4))) af) af))
 (ai (aB (i:=2) sc_law_stirred.nd rfl (Or.inl rfl) (ao (aX K) (ao (f9 K) (pr 2) af) (pr 3)))))))
 (ai (av (pr 2)))))),?_⟩
 walk_at "rd";refine⟨by decide,.of_left (by decide),by decide,by decide,by decide,?_⟩;refine dw (n:=4) (fun i σ H'=>∃o4 o5 o6,σ=[some (.int c),some (.int p),some (.int (GM.stirSt c p i).1),some (.int (GM.stirSt c p i).2),o4,o5,o6]∧au H H') ⟨none,none,none,rfl,au.refl H⟩ ?_ ?_
 ·rintro i σ H1 hi ⟨o4,o5,o6,rfl,sm⟩
  walk_at "rd";refine⟨⟨by decide,by decide⟩,fun q hq=>⟨_,dI.of ae,rfl,?_⟩⟩;walk_at "rd";refine⟨.of_right (by decide),.of_right (by decide),.of_left (by decide),by decide,.of_right (by decide),?_⟩;exact⟨rfl,rfl,sm.upd hq⟩
 ·rintro σ H1 ⟨o4,o5,o6,rfl,sm⟩
  walk_at "rd";exact k _ sm
theorem Bs{f:Addr}{fd:FuncData}(F:cC K "_law_got" "_law_got" jE f fd)(T:Txt mg aM)(D_law_stirred:cn P w K mg base "_law_stirred" 1 ["_law_cell","_law_place"] jP):az P w K mg base bH 2 f fd ["_law_script","_law_place"] (uT K):=by
 refine F.ok sc_law_got (fun vs H Q E h=>?_) (fun cdv A outer s H vs Q E hr h=>?_)
 ·obtain⟨a,ns,p,rfl,_⟩:=h
  rfl
 obtain⟨a,ns,p,rfl,hS,hB,hp0,hp1,k⟩:=h
 refine⟨_,(ah (eA PassesOwn.never rfl (cU K (aG (cw K) (pr 0) (ck (pr 1)) (ck (ao (aX K) (pr 1) af)))) (bq (i:=2) sc_law_got.nd rfl (Or.inl rfl))
 (ah (aB (i:=3) sc_law_got.nd rfl (Or.inl rfl) af)
 (ah (ye PassesOwn.never (bD (aA (o0 lT) (pr 3) (aw (kT) (by rfl) T.n_abs boot_abs (aa (pr 2) ag)) (aE _))) (ai (aB (i:=3) sc_law_got.nd rfl (Or.inl rfl) (ao (f9 K) (pr 3) (ao (o1 fj) af af)))))
 (ai (av (ao (aX K) (aw (kT) (by rfl) T.n_abs boot_abs (aa (pr 2) ag)) (ao (f9 K) (pr 3) (aJ D_law_stirred hr (by rfl) (aa (aw (kT) (by rfl) T.n_abs boot_abs (aa (pr 2) ag)) (aa (pr 1) ag))))))))))
 (ai (av af))),?_⟩
 walk_at "rd";refine bx hS fun q hq=>?_;show z6 _ _ _ _;rw [wW _ hp0,ac2]
 cases hc:ns[p.toNat]? with
 | none=>
  refine cW (aV.of ae) (vE (aV.of ae) ?_);walk_at "rd"
  have e:GM.gotF ns p=0:=by unfold GM.gotF;rw [hc]
  rw [←e];exact k _ (ar hq)
 | some c=>
  have e:GM.gotF ns p=GM.absI c+GM.powF c * GM.stirF (GM.absI c) p:=by unfold GM.gotF;rw [hc]
  have hcB:=hB c (ac7 hc);refine cW (aV.of ae) (gJ (xs:=[.int c]) (fun i σ H'=>i=0∧σ=[some (.ref a),some (.int p),none,none]∧H'=upd H q (.lst [.int c])) ⟨rfl,rfl,rfl⟩ (fun i σ H' _ h=>by rw [h.2.2];exact aV.of ae) ?_ (fun σ H' h=>by cases h.1));rintro i x σ H' hx ⟨rfl,rfl,rfl⟩;cases hx;walk_at "rd";refine⟨fun m σ H'=>∃pw,σ=[some (.ref a),some (.int p),some (.int c),some (.int pw)]∧au H H'∧0 < pw∧GM.absI c < pw+m∧GM.powGo m pw (GM.absI c)=GM.powF c,⟨(GM.absI c).toNat+1,1,rfl,ar hq,by decide,by omega,rfl⟩,?_⟩;rintro m σ H' ⟨pw,rfl,sm,h0,h1,h2⟩;walk_at "rd";have ea:(if c < 0 then -c else c)=GM.absI c:=rfl;rw [ea]
  by_cases hle:pw≤GM.absI c
  ·rw [if_pos hle]
   obtain⟨m',rfl⟩:∃m',m=m' + 1:=⟨m - 1,by omega⟩;refine⟨fun σ' H'=>σ'=[some (.ref a),some (.int p),some (.int c),some (.int (pw * 1000000))]∧au H H',?_,?_⟩
   ·rintro σ' H'' ⟨rfl,sm'⟩
    refine⟨m',af4 _,pw * 1000000,rfl,sm',by omega,by omega,?_⟩;rw [←h2];simp only [GM.powGo];rw [if_pos hle]
   ·walk_at "rd"
    exact⟨⟨by decide,by decide,by decide⟩,.of_right (by decide),rfl,sm⟩
  ·rw [if_neg hle]
   rw [GM.powGo_stop hle]at h2;subst h2;walk_at "rd";refine⟨_,_,rfl,fun H2 s2=>?_⟩;walk_at "rd";refine⟨.of_le (intBits_le_iff.mpr (GM.powF_lt hcB)) (intBits_le_iff.mpr (GM.stirF_natAbs _ _)) (by decide),?_⟩;rw [←e];exact k _ (sm.trans s2)
end
theorem uW(c:Nat):∀(l p q:List Nat) (ps:List (List Nat)),dk c l=p::q::ps→∃l',l=p++c::l'
 | [],p,q,ps,h=>by simp [dk]at h
 | a::l,p,q,ps,h=>by
  by_cases hc:a=c
  ·rw [kJ hc]at h
   obtain⟨rfl,_⟩:=List.cons.inj h;exact⟨l,by rw [hc];rfl⟩
  ·obtain⟨p',ps',e⟩:=tV c l
   rw [i9 hc e]at h;cases h;obtain⟨l',e'⟩:=uW c l p' q ps e;exact⟨l',by rw [e'];rfl⟩
theorem oA(c:Nat):∀(p rest:List Nat),c∉p→dk c (p++c::rest)=p::dk c rest
 | [],rest,_=>kJ rfl
 | a::p,rest,h=>by
  have ih:=oA c p rest fun z=>h (ac0 _ z);exact i9 (fun z=>h (by rw [z];exact ab9)) ih
theorem j3:(Str.ofString "every ").cps.toList=(Str.ofString "every").cps.toList++[32]:=by decide +kernel
theorem ql{z:Str}(h:Txt.startswith z (Str.ofString "every ")=true):∃r,bY z=Str.ofString "every"::r:=by
 obtain⟨rest,e⟩:=oB _ _ h;have h1:=cP z;rw [e,j3,ae2,List.singleton_append,oA 32 _ _ (by decide +kernel)]at h1;obtain⟨k,ws,hw⟩:=kM z;rw [hw,ac1]at h1;exact⟨ws,by rw [hw,str_iff.mpr (List.cons.inj h1).1]⟩
theorem sy{z:Str}{y:Str}{r:List Str}(h:bY z=Str.ofString "every"::y::r):Txt.startswith z (Str.ofString "every ")=true:=by
 have h1:=cP z;rw [h,ac1,ac1]at h1;obtain⟨l',e⟩:=uW 32 _ _ _ _ h1.symm;refine tX z _ (rest:=l') ?_;rw [e,j3,ae2];rfl
theorem xM:d4 (Str.ofString "every")=none:=by unfold d4;rfl
theorem r0{z:Str}{nv:Int}{r:List Str}(h:bY z=Str.ofString "every"::r):mR z nv=sQ (Str.ofString "every"::r) nv:=by
 unfold mR;rw [h]
 cases r with
 | cons y r=>rw [if_pos (sy h)]
 | nil=>
  have e1:iU [Str.ofString "every"] nv=none:=by unfold iU;rw [show [Str.ofString "every"].headD ⟨#[]⟩=Str.ofString "every" from rfl,xM]
  rw [e1]
  split<;>rfl
theorem p0{z:Str}{nv:Int}{k:Str}{r:List Str}(h:bY z=k::r)(hk:k≠Str.ofString "every"):mR z nv=iU (k::r) nv:=by
 unfold mR;rw [h,if_neg];intro hs;obtain⟨r',e⟩:=ql hs;rw [h]at e;exact hk (List.cons.inj e).1
def yJ(l:List Nat):Nat:=l.foldl (fun n c=>n * 10+(c - 48)) 0
def gW(w:List Nat):Int:=if w.head?=some 45 then -(yJ w.tail:Nat)else(yJ w:Nat)
theorem u3(m:Nat):yJ (dg m)=m:=by
 induction m using Nat.strongRecOn with
 | _ m ih=>
  by_cases h:m < 10
  ·rw [fU h]
   simp [yJ]
  ·rw [o9 h]
   unfold yJ at ih ⊢;rw [ai1,ih (m / 10) (by omega)];simp only [ag0,List.foldl_nil];omega
theorem jb(n:Int):gW (ig n)=n:=by
 unfold gW;rcases aj6 n 0 with h | h
 ·obtain⟨k,rfl⟩:∃k:Nat,n = -((k+1:Nat):Int):=⟨(-n - 1).toNat,by omega⟩
  rw [e8,if_pos (show(45::dg (k+1)).head?=some 45 from rfl),List.tail_cons,u3]
 ·obtain⟨m,rfl⟩:∃m:Nat,n=m:=⟨n.toNat,by omega⟩
  rw [e7,if_neg,u3];intro e
  cases hd:dg m with
  | nil=>exact nr m hd
  | cons c r=>
   rw [hd]at e;cases e
   have:=g9 m 45 (by rw [hd];exact ab9)
   omega
theorem iQ{z:Str}(h:eu z=true):bf z=gW z.cps.toList:=by
 obtain⟨n,e1,e2,_⟩:=kE h;rw [e2,e1];exact(jb n).symm
abbrev pb:List Nat:=(Str.ofString "every").cps.toList
def Dq(k:List Nat):Option wg:=
 if k=(Str.ofString "span").cps.toList then some (da 2)else if k=(Str.ofString "clock").cps.toList then some cj else if k=(Str.ofString "move").cps.toList then some (da 1)else if k=(Str.ofString "alike").cps.toList then some (da 2)else if k=(Str.ofString "back").cps.toList then some dP else if k=(Str.ofString "held").cps.toList then some dz else if k=(Str.ofString "times").cps.toList then some cK else if k=(Str.ofString "begin").cps.toList then some (da 1)else if k=(Str.ofString "close").cps.toList then some (da 1)else none
def Cm(ws:List (List Nat))(nv:Int):Option Int:=
 match Dq (ws.headD [])with
 | none=>none
 | some mk=>if ws.tail.all cq=true then mk nv (ws.tail.map gW)else none
def A2(ws:List (List Nat))(nv:Int):Option Int:=
 match ws with
 | _::a::b::k::r=>if cq a=true∧cq b=true∧(0≤gW b∧gW b < gW a)∧(k=(Str.ofString "span").cps.toList∨k=(Str.ofString "clock").cps.toList)∧(Cm (k::r) nv).isSome=true then some (gW a)else none
 | _=>none
def Co(c:List Nat)(nv:Int):Option Int:=
 match dk 32 c with
 | []=>none
 | k::r=>if k=pb then A2 (k::r) nv else Cm (k::r) nv
def DS(ws:List (List Nat)):Bool:=
 match ws with
 | [v,a,b]=>decide (v=(Str.ofString "voice").cps.toList) && (cq a && (cq b && decide (gW a≤gW b)))
 | _=>false
theorem Bo(k:Str):d4 k=Dq k.cps.toList:=by
 unfold d4 Dq
 by_cases c0:k=Str.ofString "span"
 ·rw [if_pos c0,if_pos (str_iff.mp c0)]
 rw [if_neg c0,if_neg (fun e=>c0 (str_iff.mpr e))]
 by_cases c1:k=Str.ofString "clock"
 ·rw [if_pos c1,if_pos (str_iff.mp c1)]
 rw [if_neg c1,if_neg (fun e=>c1 (str_iff.mpr e))]
 by_cases c2:k=Str.ofString "move"
 ·rw [if_pos c2,if_pos (str_iff.mp c2)]
 rw [if_neg c2,if_neg (fun e=>c2 (str_iff.mpr e))]
 by_cases c3:k=Str.ofString "alike"
 ·rw [if_pos c3,if_pos (str_iff.mp c3)]
 rw [if_neg c3,if_neg (fun e=>c3 (str_iff.mpr e))]
 by_cases c4:k=Str.ofString "back"
 ·rw [if_pos c4,if_pos (str_iff.mp c4)]
 rw [if_neg c4,if_neg (fun e=>c4 (str_iff.mpr e))]
 by_cases c5:k=Str.ofString "held"
 ·rw [if_pos c5,if_pos (str_iff.mp c5)]
 rw [if_neg c5,if_neg (fun e=>c5 (str_iff.mpr e))]
 by_cases c6:k=Str.ofString "times"
 ·rw [if_pos c6,if_pos (str_iff.mp c6)]
 rw [if_neg c6,if_neg (fun e=>c6 (str_iff.mpr e))]
 by_cases c7:k=Str.ofString "begin"
 ·rw [if_pos c7,if_pos (str_iff.mp c7)]
 rw [if_neg c7,if_neg (fun e=>c7 (str_iff.mpr e))]
 by_cases c8:k=Str.ofString "close"
 ·rw [if_pos c8,if_pos (str_iff.mp c8)]
 rw [if_neg c8,if_neg (fun e=>c8 (str_iff.mpr e))]
theorem xR{ws:List Str}(h:ws.all eu=true):ws.map bf=(ws.map fun y=>y.cps.toList).map gW:=by
 rw [aj7];exact aj3 fun y hy=>iQ (af1.mp h y hy)
theorem xQ(ws:List Str):(ws.map fun y=>y.cps.toList).all cq=ws.all eu:=by
 rw [ah9];rfl
theorem ya(k:Str)(ws:List Str)(nv:Int):iU (k::ws) nv=Cm ((k::ws).map fun y=>y.cps.toList) nv:=by
 unfold iU Cm;rw [show(k::ws).headD ⟨#[]⟩=k from rfl,show((k::ws).map fun y:Str=>y.cps.toList).headD []=k.cps.toList from rfl,Bo]
 cases Dq k.cps.toList with
 | none=>rfl
 | some mk=>
  show(if ws.all eu=true then mk nv (ws.map bf)else none)=if (ws.map fun y=>y.cps.toList).all cq=true then mk nv ((ws.map fun y=>y.cps.toList).map gW)else none;rw [xQ]
  by_cases h:ws.all eu=true
  ·rw [if_pos h,if_pos h,xR h]
  ·rw [if_neg h,if_neg h]
theorem A3(ws:List Str)(nv:Int):sQ ws nv=A2 (ws.map fun y=>y.cps.toList) nv:=by
 match ws with
 | []=>simp only [sQ,A2,ag1]
 | [_]=>simp only [sQ,A2,ac1,ag1]
 | [_,_]=>simp only [sQ,A2,ac1,ag1]
 | [_,_,_]=>simp only [sQ,A2,ac1,ag1]
 | w0::a::b::k::r=>
  show(if eu a=true∧eu b=true∧(0≤bf b∧bf b < bf a)∧(k=Str.ofString "span"∨k=Str.ofString "clock")∧iU (k::r) nv≠none then some (bf a)else none)=if cq a.cps.toList=true∧cq b.cps.toList=true∧(0≤gW b.cps.toList∧gW b.cps.toList < gW a.cps.toList)∧(k.cps.toList=(Str.ofString "span").cps.toList∨k.cps.toList=(Str.ofString "clock").cps.toList)∧(Cm ((k::r).map fun y=>y.cps.toList) nv).isSome=true then some (gW a.cps.toList)else none;rw [←ya]
  by_cases ha:eu a=true
  ·by_cases hb:eu b=true
   ·rw [←iQ ha,←iQ hb]
    have e:(eu a=true∧eu b=true∧(0≤bf b∧bf b < bf a)∧(k=Str.ofString "span"∨k=Str.ofString "clock")∧iU (k::r) nv≠none)↔(cq a.cps.toList=true∧cq b.cps.toList=true∧(0≤bf b∧bf b < bf a)∧(k.cps.toList=(Str.ofString "span").cps.toList∨k.cps.toList=(Str.ofString "clock").cps.toList)∧(iU (k::r) nv).isSome=true):=by
     rw [str_iff,str_iff,Option.isSome_iff_ne_none];rfl
    by_cases c:eu a=true∧eu b=true∧(0≤bf b∧bf b < bf a)∧(k=Str.ofString "span"∨k=Str.ofString "clock")∧iU (k::r) nv≠none
    ·rw [if_pos c,if_pos (e.mp c)]
    ·rw [if_neg c,if_neg (fun z=>c (e.mpr z))]
   ·rw [if_neg (fun z=>hb z.2.1),if_neg (fun z=>hb z.2.1)]
  ·rw [if_neg (fun z=>ha z.1),if_neg (fun z=>ha z.1)]
theorem BW(z:Str)(nv:Int):mR z nv=Co z.cps.toList nv:=by
 obtain⟨k,r,hw⟩:=kM z;have hc:=cP z;rw [hw]at hc;unfold Co;rw [←hc];show mR z nv=if k.cps.toList=pb then A2 ((k::r).map fun y=>y.cps.toList) nv else Cm ((k::r).map fun y=>y.cps.toList) nv
 by_cases hk:k=Str.ofString "every"
 ·rw [if_pos (show k.cps.toList=pb from str_iff.mp hk),←A3]
  subst hk;exact r0 hw
 ·rw [if_neg (show ¬k.cps.toList=pb from fun e=>hk (str_iff.mpr e)),←ya]
  exact p0 hw hk
theorem yL{z:Str}(h:DS (dk 32 z.cps.toList)=false):mX z=none:=by
 rw [←cP]at h;unfold mX
 cases e:u4 (bY z)with
 | none=>rfl
 | some b=>
  obtain⟨h1,h2,h3,h4⟩:=u5 e;rw [h4]at h;simp only [ac1,ag1,DS]at h;rw [show(aP b.1).cps.toList=ig b.1 from rfl,show(aP b.2).cps.toList=ig b.2 from rfl,jq h2,jq h3,jb,jb,decide_eq_true h1]at h;simp at h
def ji(t:Str)(nv0:Int):Prop:=t.length≤9000∧10∉t.cps.toList∧mX t=none∧∀nv:Int,nv0≤nv→nv≤4→mR t nv=some 1
def dZ(t:Str):Prop:=t.length≤9000∧10∉t.cps.toList∧mX t=none∧∀nv:Int,1≤nv→nv≤4→mR t nv=none
def y6(t:Str)(b:Int×Int):Prop:=t.length≤9000∧10∉t.cps.toList∧t=d7 b∧mX t=some b∧∀nv:Int,mR t nv=none
def zb(c:List Nat):Bool:=decide (c.length≤9000) && (!c.contains 10 && (!DS (dk 32 c) && ((Co c 1).isNone && ((Co c 2).isNone && ((Co c 3).isNone && (Co c 4).isNone)))))
theorem wI{t:Str}(h:zb t.cps.toList=true):dZ t:=by
 unfold zb at h;simp only [ac6,decide_eq_true_eq,Bool.not_eq_true']at h;obtain⟨h1,h2,h3,h4,h5,h6,h7⟩:=h;refine⟨by rw [aL];exact h1,fun z=>?_,yL h3,fun nv n1 n4=>?_⟩
 ·rw [List.contains_iff_mem.mpr z]at h2
  cases h2
 ·rw [BW]
  have:nv=1∨nv=2∨nv=3∨nv=4:=by omega
  rcases this with rfl | rfl | rfl | rfl
  ·exact af9.mp h4
  ·exact af9.mp h5
  ·exact af9.mp h6
  ·exact af9.mp h7
local macro_rules | `(tactic| walk_at "rs") => `(tactic| try simp only [↓oj, ↓l0, ↓gz, ↓jj, ↓jr, ↓jt, ↓ju, ↓jv, ↓gF, ↓gG, ↓DX, ↓DY, Ao, Ck, jI, jU, nV, nU, vz, nR, vA, nT, jT, sr, v7, nN, Aq, tC, AR, DO, yz, mv, Ap, yA, uX, C8, mq, mr, su, Am, Dt, An, oF, wa, oG, Ds, Du, sv, kL, Dr, C7, zo, xp, A5, sD, rI, rU, L2.start, kZ, lg, hV, kX, kY, lj, ll, lp, hX, qZ, ur, qT, qX, qU, nE, nJ, nF, nK, nB, nI, qY, qS, qW, qV, j0, List.map_cons, List.map_nil, List.length_cons, List.length_nil, List.replicate, List.cons_append, List.nil_append, List.append_nil, List.getElem?_cons_zero, List.getElem?_cons_succ, List.set_cons_zero, List.set_cons_succ, Option.some.injEq, xb, AB, sO, xf, xa, V.int.injEq, V.str.injEq, V.bl.injEq, V.ref.injEq, V.ty.injEq, List.cons.injEq, and_true, true_and, CC, xu, xv, xw, DN, Bj, Bf, Bi, AE, CD, AD, sS, qu, CB, q9, rb, A6, ym, qr, tY, B7, BZ, uZ, v9, nG, nL, nH, nM, uY, so, B5, Int.zero_add, if_true, Bool.false_eq_true, if_false, cσ, List.getD_cons_zero, List.getD_cons_succ, w9, wX, Ay, decide_eq_true_eq, reduceCtorEq, false_and, xc, false_or, or_false, AA, List.length_map, B8, Ca, DP, Dc, qR, uu, Bool.not_eq_true', Cz, ite_not, oj, l0, gz, jj, jr, jt, ju, jv, gF, gG])
theorem e9:(10:Int) ^ Int.toNat 9=1000000000:=by decide +kernel
theorem Bp:(10:Nat) ^ 40=10000000000000000000000000000000000000000:=by decide +kernel
theorem pY{z:Str}(k:Int):(fq z k).length=k.toNat * z.length:=by
 rw [aL,ip,List.length_flatten,List.map_replicate,List.sum_replicate_nat,←aL]
def tl(ws:List (List Nat)):List Nat:=(ws.map (32::·)).flatten
theorem yE(a b:List (List Nat)):tl (a++b)=tl a++tl b:=by
 unfold tl;rw [ab8,List.flatten_append]
def eh(z:Str)(ws:List Str):Prop:=z.cps.toList=tl (ws.map fun y=>y.cps.toList)
def b9(z k:Str)(ws:List Str):Prop:=z.cps.toList=k.cps.toList++tl (ws.map fun y=>y.cps.toList)
theorem b9.app{z k y:Str}{ws us:List Str}(h:b9 z k ws)(g:eh y us):b9 (z++y) k (ws++us):=by
 unfold b9 eh at *;rw [aT,h,g,ab8,yE,ae2]
theorem b9.start(k:Str):b9 k k []:=by
 unfold b9;simp [tl]
theorem eh.app{z y:Str}{ws us:List Str}(h:eh z ws)(g:eh y us):eh (z++y) (ws++us):=by
 unfold eh at *;rw [aT,h,g,ab8,yE]
theorem b9.words{z k:Str}{ws:List Str}(h:b9 z k ws)(hk:32∉k.cps.toList)(hw:∀y∈ws,32∉y.cps.toList):bY z=k::ws:=by
 unfold bY;refine cy ?_;have e:z.cps.toList=dm 32 ((k::ws).map fun y=>y.cps.toList):=h;rw [bR z (by decide),e,i8 32 _ (by simp) (fun p hp=>?_)];obtain⟨y,hy,rfl⟩:=ac4.mp hp;rcases aa5.mp hy with rfl | hy
 ·exact hk
 ·exact hw y hy
theorem qw(n:Int):eh (Str.ofString " " ++ aP n) [aP n]:=by
 unfold eh;rw [aT,show(Str.ofString " ").cps.toList=[32]by decide +kernel];simp [tl]
theorem DQ{n:Int}{x:Str}(h:x=Str.ofString " "):eh (x++aP n) [aP n]:=by
 subst h;exact qw n
theorem iR(n:Int):32∉(aP n).cps.toList:=kD n
theorem pk(n:Int):10∉(aP n).cps.toList:=fun h=>by
 have:=lL n 10 h
 omega
theorem eJ{n:Int}(h:n.natAbs < 10 ^ 40):eu (aP n)=true:=jq h
theorem cu{n:Int}(h:n.natAbs < 10 ^ 40):bf (aP n)=n:=by
 rw [iQ (eJ h)];exact jb n
theorem fO(b:Int×Int):bY (d7 b)=[Str.ofString "voice",aP b.1,aP b.2]:=by
 have h:b9 (d7 b) (Str.ofString "voice") [aP b.1,aP b.2]:=by
  unfold d7 b9;rw [aT,aT,aT,show(Str.ofString "voice ").cps.toList=(Str.ofString "voice").cps.toList++[32]by decide +kernel,show(Str.ofString " ").cps.toList=[32]by decide +kernel];simp [tl]
 exact h.words (by decide +kernel) fun y hy=>by
  rcases aa5.mp hy with rfl | hy
  ·exact iR _
  ·rw [ac9.mp hy]
   exact iR _
theorem qy(b:Int×Int):10∉(d7 b).cps.toList:=by
 unfold d7;rw [aT,aT,aT];intro h;rcases ac3.mp h with h | h
 ·rcases ac3.mp h with h | h
  ·rcases ac3.mp h with h | h
   ·exact absurd h (by decide +kernel)
   ·exact pk _ h
  ·exact absurd h (by decide +kernel)
 ·exact pk _ h
theorem xN:d4 (Str.ofString "voice")=none:=by unfold d4;rfl
theorem qA(b:Int×Int)(nv:Int):mR (d7 b) nv=none:=by
 rw [p0 (fO b) (by decide +kernel)];unfold iU;rw [show [Str.ofString "voice",aP b.1,aP b.2].headD ⟨#[]⟩=Str.ofString "voice" from rfl,xN]
theorem yK{b:Int×Int}(h1:b.1.natAbs < 10 ^ 40)(h2:b.2.natAbs < 10 ^ 40)(hle:b.1≤b.2):y6 (d7 b) b:=by
 refine⟨aa9 (gw h1 h2) (by decide),qy b,rfl,?_,qA b⟩;unfold mX;rw [fO];show(if _ then _ else _)=_;rw [if_pos ⟨rfl,eJ h1,eJ h2,by rw [cu h1,cu h2];exact hle⟩,cu h1,cu h2]
theorem za{b:Int×Int}(h1:b.1.natAbs < 10 ^ 40)(h2:b.2.natAbs < 10 ^ 40)(hle:b.2 < b.1):dZ (d7 b):=by
 refine⟨aa9 (gw h1 h2) (by decide),qy b,?_,fun nv _ _=>qA b nv⟩;unfold mX;rw [fO]
 exact if_neg fun z=>by
  have:=z.2.2.2
  rw [cu h1,cu h2]at this;omega
def WB(H:Hp)(p:Addr)(n:Nat):Prop:=∃ws:List Str,H p=some (.lst (ws.map V.str))∧ws.length=n∧∀y∈ws,dZ y
theorem cf(l:List Str)(h:(l.all fun y=>zb y.cps.toList)=true):∀y∈l,dZ y:=fun y hy=>wI (af1.mp h y hy)
theorem zc{a:Str}{l:List Str}(h:dZ a)(t:∀y∈l,dZ y):∀y∈a::l,dZ y:=List.forall_mem_cons.mpr ⟨h,t⟩
theorem wJ{a l:List Str}(h:∀y∈a,dZ y)(t:∀y∈l,dZ y):∀y∈a++l,dZ y:=fun y hy=>(ac3.mp hy).elim (h y) (t y)
theorem oY{z x y:Str}{k:Int}(e:z=x++fq y k)(h:zb (x.cps.toList++(List.replicate k.toNat y.cps.toList).flatten)=true):dZ z:=by
 refine wI ?_;rw [e,aT,ip];exact h
theorem kh{K:Frag}{H:Hp}{a b:Addr}{n m:Nat}{Q:VK}(h1:WB H a n)(h2:WB H b m)(hn:n+m≤200)(q:∀p H',au H H'→WB H' p (n+m)→Q (.ref p) H'):dh K (.ref a) (.ref b) H Q:=by
 obtain⟨ws,e1,e2,e3⟩:=h1;obtain⟨us,f1,f2,f3⟩:=h2;have hs:sizeLine=16777216:=sizeLine_eq;refine lZ e1 f1 (by rw [aa0,aa0];omega) fun p hp=>q p _ (ar hp) ⟨ws++us,by rw [ae,ab8],by rw [ab2];omega,wJ e3 f3⟩
theorem WB.same{H H':Hp}{p:Addr}{n:Nat}(h:WB H p n)(s:au H H'):WB H' p n:=let ⟨ws,e1,e2⟩:=h;⟨ws,s _ _ e1,e2⟩
def oq:Sp:=fun vs H Q _=>∃c,vs=[.int c]∧0≤c∧∀z H',dZ z→au H H'→Q (.str z) H'
section
variable {P:Program} {w:World} {K:Frag} {mg:Str→Option Value} {base:Heap} {aM:Addr}
theorem pJ{f:Addr}{fd:FuncData}(F:cC K "_law_bad_voice" "_law_bad_voice" dX f fd)(T:Txt mg aM):az P w K mg base bH 1 f fd ["_law_cell"] oq:=by
 refine F.ok sc_law_bad_voice (fun vs H Q E h=>?_) (fun cdv A outer s H vs Q E hr h=>?_)
 ·obtain⟨c,rfl,_⟩:=h
  rfl
 obtain⟨c,rfl,c0,k⟩:=h
 refine⟨_,(ah (aB (i:=1) sc_law_bad_voice.nd rfl (Or.inl rfl) (bN (cz (vs:=[.str (Str.ofString "voice 3 2"),.str (Str.ofString "voice 1"),.str (Str.ofString "voice 01 2"),.str (Str.ofString "voice 1 2 3"),.str (Str.ofString "voice -0 1"),.str (Str.ofString "voice 1  2"),.str (Str.ofString "voice")]) rfl)))
 (ah (aB (i:=1) sc_law_bad_voice.nd rfl (Or.inl rfl) (ao (aX K) (pr 1) (bN (aa ax ag))))
 (ah (aB (i:=1) sc_law_bad_voice.nd rfl (Or.inl rfl) (ao (aX K) (pr 1) (bN (cz (vs:=[.str (Str.ofString "Voice 1 2"),.str (Str.ofString ""),.str (Str.ofString " "),.str (Str.ofString "voice 1 x"),.str (Str.ofString " voice 1 2"),.str (Str.ofString "voices 1 2"),.str (Str.ofString "voice 1,2"),.str (Str.ofString "voice -1 -2")]) rfl))))
 (ah (aB (i:=1) sc_law_bad_voice.nd rfl (Or.inl rfl) (ao (aX K) (pr 1) (bN (aa (ao (aX K) ax (ao (f9 K) ax af)) (aa (ao (aX K) (ao (aX K) (ao (aX K) ax (aQ (b7) (by rfl) T.n_str boot_str (aa (ao (aX K) (ao (o1 bC) (pr 0) (ao (o1 fj) af af)) af) ag))) ax) (aQ (b7) (by rfl) T.n_str boot_str (aa (ao (o1 bC) (pr 0) (ao (o1 fj) af af)) ag))) ag)))))
 (ai (av (aO (bj K) (pr 1) (ao (o1 bC) (pr 0) (aw (bh K) (by rfl) T.n_len boot_len (aa (pr 1) ag))) (fun _ _=>rfl)))))))),?_⟩
 have hs:sizeLine=16777216:=sizeLine_eq;refine bu (fun σ H'=>∃p:Addr,WB H' p 7∧σ=[some (.int c),some (.ref p)]∧au H H') ?_ ?_
 ·intro u' hu
  walk_at "rd";exact⟨by omega,fun p hp=>hu _ _ ⟨p,⟨[Str.ofString "voice 3 2",Str.ofString "voice 1",Str.ofString "voice 01 2",Str.ofString "voice 1 2 3",Str.ofString "voice -0 1",Str.ofString "voice 1  2",Str.ofString "voice"],ae,rfl,cf _ (by decide +kernel)⟩,rfl,ar hp⟩⟩
 rintro _ H1 ⟨p,hp1,rfl,s1⟩;refine bu (fun σ H'=>∃p:Addr,WB H' p 8∧σ=[some (.int c),some (.ref p)]∧au H H') ?_ ?_
 ·intro u' hu
  walk_at "rd";refine⟨by omega,fun q hq=>kh (m:=1) (hp1.same (ar hq)) ⟨[Str.ofString "voice 1 2 "],ae,rfl,cf _ (by decide +kernel)⟩ (by decide) fun r G g hr=>hu _ _ ⟨r,hr,rfl,(s1.upd hq).trans g⟩⟩
 clear hp1 s1;rintro _ H1 ⟨p,hp1,rfl,s1⟩;refine bu (fun σ H'=>∃p:Addr,WB H' p 16∧σ=[some (.int c),some (.ref p)]∧au H H') ?_ ?_
 ·intro u' hu
  walk_at "rd";refine⟨by omega,fun q hq=>kh (m:=8) (hp1.same (ar hq)) ⟨[Str.ofString "Voice 1 2",Str.ofString "",Str.ofString " ",Str.ofString "voice 1 x",Str.ofString " voice 1 2",Str.ofString "voices 1 2",Str.ofString "voice 1,2",Str.ofString "voice -1 -2"],ae,rfl,cf _ (by decide +kernel)⟩ (by decide) fun r G g hr=>hu _ _ ⟨r,hr,rfl,(s1.upd hq).trans g⟩⟩
 clear hp1 s1;rintro _ H1 ⟨p,hp1,rfl,s1⟩;refine bu (fun σ H'=>∃p:Addr,WB H' p 18∧σ=[some (.int c),some (.ref p)]∧au H H') ?_ ?_
 ·intro u' hu
  walk_at "rs";have e40:=Bp
  try rw [e9]
  refine⟨by decide,by decide,by decide +kernel,by rw [pY];rw [show(Str.ofString "voice 0 ").length=8 by decide +kernel,show(Str.ofString "1").length=1 by decide +kernel];decide,⟨by decide,by decide,by decide⟩,by decide,cJ (by omega),by rw [show(Str.ofString "voice ").length=6 by decide +kernel];have:=bE (n:=c % 1000000000+1) (by omega);omega,by rw [aC,show(Str.ofString "voice ").length=6 by decide +kernel,show(Str.ofString " ").length=1 by decide +kernel];have:=bE (n:=c % 1000000000+1) (by omega);omega,⟨by decide,by decide,by decide⟩,by decide,cJ (by omega),by rw [aC,aC,show(Str.ofString "voice ").length=6 by decide +kernel,show(Str.ofString " ").length=1 by decide +kernel];have:=bE (n:=c % 1000000000+1) (by omega);have:=bE (n:=c % 1000000000) (by omega);omega,by omega,fun q hq=>kh (m:=2) (hp1.same (ar hq)) ⟨[Str.ofString "voice 0 " ++ fq (Str.ofString "1") 41,d7 (c % 1000000000+1,c % 1000000000)],ae,rfl,(zc (oY rfl (by decide +kernel)) (zc (za (by show(c % 1000000000+1).natAbs < 10 ^ 40;omega) (by show(c % 1000000000).natAbs < 10 ^ 40;omega) (by show c % 1000000000 < c % 1000000000+1;omega)) (fun _ h=>by cases h)))⟩ (by decide) fun r G g hr=>hu _ _ ⟨r,hr,rfl,(s1.upd hq).trans g⟩⟩
 clear hp1 s1;rintro _ H1 ⟨p,hp1,rfl,s1⟩;obtain⟨ws,e1,e2,e3⟩:=hp1;walk_at "rd";refine⟨_,.inl (aV.of e1),?_⟩;rw [aa0,e2];walk_at "rd";obtain⟨x,hx⟩:=ky (xs:=ws.map V.str) (c:=c) (m:=((18:Nat):Int)) (by decide) (by rw [aa0,e2];exact ak1 _)
 obtain⟨y,hy,rfl⟩:=kx (P:=fun x=>∃z:Str,dZ z∧x=.str z) (fun x hx=>by
  obtain⟨z,hz,rfl⟩:=ac4.mp hx
  exact⟨z,e3 z hz,rfl⟩) hx
 exact⟨by decide,ba (aV.of e1) hx (k _ _ hy s1)⟩
theorem rF{f:Addr}{fd:FuncData}(F:cC K "_law_bad_rule" "_law_bad_rule" eC f fd)(T:Txt mg aM):az P w K mg base bH 1 f fd ["_law_cell"] oq:=by
 refine F.ok sc_law_bad_rule (fun vs H Q E h=>?_) (fun cdv A outer s H vs Q E hr h=>?_)
 ·obtain⟨c,rfl,_⟩:=h
  rfl
 obtain⟨c,rfl,c0,k⟩:=h
 refine⟨_,(ah (aB (i:=1) sc_law_bad_rule.nd rfl (Or.inl rfl) (bN (aa ax (aa ax (aa ax (aa (ao (aX K) ax (ao (f9 K) ax af)) (aa ax (aa ax (aa ax ag)))))))))
 (ah (aB (i:=1) sc_law_bad_rule.nd rfl (Or.inl rfl) (ao (aX K) (pr 1) (bN (cz (vs:=[.str (Str.ofString "clock 1 1 0 2"),.str (Str.ofString "clock 1 1 -3 1"),.str (Str.ofString "clock 1 1 3"),.str (Str.ofString "clock 5 1 3 1"),.str (Str.ofString "move 1"),.str (Str.ofString "move 1  1")]) rfl))))
 (ah (aB (i:=1) sc_law_bad_rule.nd rfl (Or.inl rfl) (ao (aX K) (pr 1) (bN (aa ax ag))))
 (ah (aB (i:=1) sc_law_bad_rule.nd rfl (Or.inl rfl) (ao (aX K) (pr 1) (bN (cz (vs:=[.str (Str.ofString "alike 1 1"),.str (Str.ofString "alike 1 0 7"),.str (Str.ofString "alike 1"),.str (Str.ofString "alike 1 1 7 x"),.str (Str.ofString "back 1 -1"),.str (Str.ofString "back 1"),.str (Str.ofString "back 1 1 1"),.str (Str.ofString "back")]) rfl))))
 (ah (aB (i:=1) sc_law_bad_rule.nd rfl (Or.inl rfl) (ao (aX K) (pr 1) (bN (cz (vs:=[.str (Str.ofString "held 1 0"),.str (Str.ofString "held 1"),.str (Str.ofString "held 5 1"),.str (Str.ofString "held 1 1 1"),.str (Str.ofString "times 1 3 -1 2"),.str (Str.ofString "times 1 3 0 -1"),.str (Str.ofString "times 1 3 0")]) rfl))))
 (ah (aB (i:=1) sc_law_bad_rule.nd rfl (Or.inl rfl) (ao (aX K) (pr 1) (bN (aa ax (aa ax (aa (ao (aX K) ax (ao (f9 K) ax af)) (aa ax (aa ax (aa ax (aa ax ag))))))))))
 (ah (aB (i:=1) sc_law_bad_rule.nd rfl (Or.inl rfl) (ao (aX K) (pr 1) (bN (cz (vs:=[.str (Str.ofString "every 0 0 span 1 1 0"),.str (Str.ofString "every 1 1 span 1 1 0"),.str (Str.ofString "every 1 -1 span 1 1 0"),.str (Str.ofString "every 1 0 move 1 0")]) rfl))))
 (ah (aB (i:=1) sc_law_bad_rule.nd rfl (Or.inl rfl) (ao (aX K) (pr 1) (bN (cz (vs:=[.str (Str.ofString "every 1 0"),.str (Str.ofString "every 1 0 every 1 0 span 1 1 0"),.str (Str.ofString "every 1 span 1 1 0"),.str (Str.ofString "every 1 0 clock 1 1 0 1")]) rfl))))
 (ah (aB (i:=1) sc_law_bad_rule.nd rfl (Or.inl rfl) (ao (aX K) (pr 1) (bN (cz (vs:=[.str (Str.ofString "spans 1 1 0"),.str (Str.ofString "Span 1 1 0"),.str (Str.ofString " span 1 1 0"),.str (Str.ofString "1"),.str (Str.ofString "times 1 3 0 0 0"),.str (Str.ofString "every"),.str (Str.ofString "held 1 +1")]) rfl))))
 (ah (aB (i:=1) sc_law_bad_rule.nd rfl (Or.inl rfl) (ao (aX K) (pr 1) (bN (aa ax ag))))
 (ai (av (aO (bj K) (pr 1) (ao (o1 bC) (pr 0) (aw (bh K) (by rfl) T.n_len boot_len (aa (pr 1) ag))) (fun _ _=>rfl)))))))))))))),?_⟩
 have hs:sizeLine=16777216:=sizeLine_eq;refine bu (fun σ H'=>∃p:Addr,WB H' p 7∧σ=[some (.int c),some (.ref p)]∧au H H') ?_ ?_
 ·intro u' hu
  walk_at "rs";have e40:=Bp
  try rw [e9]
  exact⟨by decide,by decide,by decide +kernel,by rw [pY];rw [show(Str.ofString "span 1 1").length=8 by decide +kernel,show(Str.ofString " 4").length=2 by decide +kernel];decide,by omega,fun p hp=>hu _ _ ⟨p,⟨[Str.ofString "span 0 1 2",Str.ofString "span 1 5 2",Str.ofString "span 1 1",Str.ofString "span 1 1" ++ fq (Str.ofString " 4") 13,Str.ofString "span 1 1 04",Str.ofString "span 1 1 4 ",Str.ofString "span"],ae,rfl,(wJ (a:=[Str.ofString "span 0 1 2",Str.ofString "span 1 5 2",Str.ofString "span 1 1"]) (cf _ (by decide +kernel)) (zc (oY rfl (by decide +kernel)) (wJ (a:=[Str.ofString "span 1 1 04",Str.ofString "span 1 1 4 ",Str.ofString "span"]) (cf _ (by decide +kernel)) (fun _ h=>by cases h))))⟩,rfl,ar hp⟩⟩
 rintro _ H1 ⟨p,hp1,rfl,s1⟩;refine bu (fun σ H'=>∃p:Addr,WB H' p 13∧σ=[some (.int c),some (.ref p)]∧au H H') ?_ ?_
 ·intro u' hu
  walk_at "rd";refine⟨by omega,fun q hq=>kh (m:=6) (hp1.same (ar hq)) ⟨[Str.ofString "clock 1 1 0 2",Str.ofString "clock 1 1 -3 1",Str.ofString "clock 1 1 3",Str.ofString "clock 5 1 3 1",Str.ofString "move 1",Str.ofString "move 1  1"],ae,rfl,cf _ (by decide +kernel)⟩ (by decide) fun r G g hr=>hu _ _ ⟨r,hr,rfl,(s1.upd hq).trans g⟩⟩
 clear hp1 s1;rintro _ H1 ⟨p,hp1,rfl,s1⟩;refine bu (fun σ H'=>∃p:Addr,WB H' p 14∧σ=[some (.int c),some (.ref p)]∧au H H') ?_ ?_
 ·intro u' hu
  walk_at "rd";refine⟨by omega,fun q hq=>kh (m:=1) (hp1.same (ar hq)) ⟨[Str.ofString "move 0 1"],ae,rfl,cf _ (by decide +kernel)⟩ (by decide) fun r G g hr=>hu _ _ ⟨r,hr,rfl,(s1.upd hq).trans g⟩⟩
 clear hp1 s1;rintro _ H1 ⟨p,hp1,rfl,s1⟩;refine bu (fun σ H'=>∃p:Addr,WB H' p 22∧σ=[some (.int c),some (.ref p)]∧au H H') ?_ ?_
 ·intro u' hu
  walk_at "rd";refine⟨by omega,fun q hq=>kh (m:=8) (hp1.same (ar hq)) ⟨[Str.ofString "alike 1 1",Str.ofString "alike 1 0 7",Str.ofString "alike 1",Str.ofString "alike 1 1 7 x",Str.ofString "back 1 -1",Str.ofString "back 1",Str.ofString "back 1 1 1",Str.ofString "back"],ae,rfl,cf _ (by decide +kernel)⟩ (by decide) fun r G g hr=>hu _ _ ⟨r,hr,rfl,(s1.upd hq).trans g⟩⟩
 clear hp1 s1;rintro _ H1 ⟨p,hp1,rfl,s1⟩;refine bu (fun σ H'=>∃p:Addr,WB H' p 29∧σ=[some (.int c),some (.ref p)]∧au H H') ?_ ?_
 ·intro u' hu
  walk_at "rd";refine⟨by omega,fun q hq=>kh (m:=7) (hp1.same (ar hq)) ⟨[Str.ofString "held 1 0",Str.ofString "held 1",Str.ofString "held 5 1",Str.ofString "held 1 1 1",Str.ofString "times 1 3 -1 2",Str.ofString "times 1 3 0 -1",Str.ofString "times 1 3 0"],ae,rfl,cf _ (by decide +kernel)⟩ (by decide) fun r G g hr=>hu _ _ ⟨r,hr,rfl,(s1.upd hq).trans g⟩⟩
 clear hp1 s1;rintro _ H1 ⟨p,hp1,rfl,s1⟩;refine bu (fun σ H'=>∃p:Addr,WB H' p 36∧σ=[some (.int c),some (.ref p)]∧au H H') ?_ ?_
 ·intro u' hu
  walk_at "rs";have e40:=Bp
  try rw [e9]
  refine⟨by decide,by decide,by decide +kernel,by rw [pY];rw [show(Str.ofString "begin 1").length=7 by decide +kernel,show(Str.ofString " 1").length=2 by decide +kernel];decide,by omega,fun q hq=>kh (m:=7) (hp1.same (ar hq)) ⟨[Str.ofString "begin 1",Str.ofString "begin 5 1",Str.ofString "begin 1" ++ fq (Str.ofString " 1") 13,Str.ofString "close 1",Str.ofString "close 0 1",Str.ofString "close 1 1.0",Str.ofString "close 1 --1"],ae,rfl,(wJ (a:=[Str.ofString "begin 1",Str.ofString "begin 5 1"]) (cf _ (by decide +kernel)) (zc (oY rfl (by decide +kernel)) (wJ (a:=[Str.ofString "close 1",Str.ofString "close 0 1",Str.ofString "close 1 1.0",Str.ofString "close 1 --1"]) (cf _ (by decide +kernel)) (fun _ h=>by cases h))))⟩ (by decide) fun r G g hr=>hu _ _ ⟨r,hr,rfl,(s1.upd hq).trans g⟩⟩
 clear hp1 s1;rintro _ H1 ⟨p,hp1,rfl,s1⟩;refine bu (fun σ H'=>∃p:Addr,WB H' p 40∧σ=[some (.int c),some (.ref p)]∧au H H') ?_ ?_
 ·intro u' hu
  walk_at "rd";refine⟨by omega,fun q hq=>kh (m:=4) (hp1.same (ar hq)) ⟨[Str.ofString "every 0 0 span 1 1 0",Str.ofString "every 1 1 span 1 1 0",Str.ofString "every 1 -1 span 1 1 0",Str.ofString "every 1 0 move 1 0"],ae,rfl,cf _ (by decide +kernel)⟩ (by decide) fun r G g hr=>hu _ _ ⟨r,hr,rfl,(s1.upd hq).trans g⟩⟩
 clear hp1 s1;rintro _ H1 ⟨p,hp1,rfl,s1⟩;refine bu (fun σ H'=>∃p:Addr,WB H' p 44∧σ=[some (.int c),some (.ref p)]∧au H H') ?_ ?_
 ·intro u' hu
  walk_at "rd";refine⟨by omega,fun q hq=>kh (m:=4) (hp1.same (ar hq)) ⟨[Str.ofString "every 1 0",Str.ofString "every 1 0 every 1 0 span 1 1 0",Str.ofString "every 1 span 1 1 0",Str.ofString "every 1 0 clock 1 1 0 1"],ae,rfl,cf _ (by decide +kernel)⟩ (by decide) fun r G g hr=>hu _ _ ⟨r,hr,rfl,(s1.upd hq).trans g⟩⟩
 clear hp1 s1;rintro _ H1 ⟨p,hp1,rfl,s1⟩;refine bu (fun σ H'=>∃p:Addr,WB H' p 51∧σ=[some (.int c),some (.ref p)]∧au H H') ?_ ?_
 ·intro u' hu
  walk_at "rd";refine⟨by omega,fun q hq=>kh (m:=7) (hp1.same (ar hq)) ⟨[Str.ofString "spans 1 1 0",Str.ofString "Span 1 1 0",Str.ofString " span 1 1 0",Str.ofString "1",Str.ofString "times 1 3 0 0 0",Str.ofString "every",Str.ofString "held 1 +1"],ae,rfl,cf _ (by decide +kernel)⟩ (by decide) fun r G g hr=>hu _ _ ⟨r,hr,rfl,(s1.upd hq).trans g⟩⟩
 clear hp1 s1;rintro _ H1 ⟨p,hp1,rfl,s1⟩;refine bu (fun σ H'=>∃p:Addr,WB H' p 52∧σ=[some (.int c),some (.ref p)]∧au H H') ?_ ?_
 ·intro u' hu
  walk_at "rd";refine⟨by omega,fun q hq=>kh (m:=1) (hp1.same (ar hq)) ⟨[Str.ofString "move -1 1"],ae,rfl,cf _ (by decide +kernel)⟩ (by decide) fun r G g hr=>hu _ _ ⟨r,hr,rfl,(s1.upd hq).trans g⟩⟩
 clear hp1 s1;rintro _ H1 ⟨p,hp1,rfl,s1⟩;obtain⟨ws,e1,e2,e3⟩:=hp1;walk_at "rd";refine⟨_,.inl (aV.of e1),?_⟩;rw [aa0,e2];walk_at "rd";obtain⟨x,hx⟩:=ky (xs:=ws.map V.str) (c:=c) (m:=((52:Nat):Int)) (by decide) (by rw [aa0,e2];exact ak1 _)
 obtain⟨y,hy,rfl⟩:=kx (P:=fun x=>∃z:Str,dZ z∧x=.str z) (fun x hx=>by
  obtain⟨z,hz,rfl⟩:=ac4.mp hx
  exact⟨z,e3 z hz,rfl⟩) hx
 exact⟨by decide,ba (aV.of e1) hx (k _ _ hy s1)⟩
end
theorem DF:(10:Int) ^ Int.toNat 39=1000000000000000000000000000000000000000:=by decide +kernel
theorem lO{ws:List Int}{y:Str}(h:y∈ws.map aP):32∉y.cps.toList∧10∉y.cps.toList:=by
 obtain⟨n,_,rfl⟩:=ac4.mp h;exact⟨iR n,pk n⟩
theorem qv(m:Nat):∀(ws:List Str),(∀y∈ws,y.length≤m)→(tl (ws.map fun y=>y.cps.toList)).length≤ws.length * (m+1)
 | [],_=>by simp [tl]
 | y::ws,h=>by
  have h1:=h y (by simp);have h2:=qv m ws fun z hz=>h z (by simp [hz]);rw [aL]at h1
  have e:(tl ((y::ws).map fun y=>y.cps.toList)).length=y.cps.toList.length+1+(tl (ws.map fun y=>y.cps.toList)).length:=by
   simp [tl];omega
  rw [e,aa6,aj4];omega
theorem yF{c:Nat}:∀(ws:List (List Nat)),c∈tl ws→c=32∨∃y∈ws,c∈y
 | [],h=>by simp [tl]at h
 | y::ws,h=>by
  have e:tl (y::ws)=32::y++tl ws:=by simp [tl]
  rw [e]at h;rcases ac3.mp h with h | h
  ·rcases aa5.mp h with h | h
   ·exact .inl h
   ·exact .inr ⟨y,by simp,h⟩
  ·rcases yF ws h with h | ⟨z,hz,h⟩
   ·exact .inl h
   ·exact .inr ⟨z,by simp [hz],h⟩
theorem eh.len{z:Str}{ws:List Int}(h:eh z (ws.map aP))(hb:∀n∈ws,n.natAbs < 10 ^ 40):z.length≤ws.length * 42:=by
 have:=qv 41 (ws.map aP) fun y hy=>by
  obtain⟨n,hn,rfl⟩:=ac4.mp hy;exact bE (hb n hn)
 rw [aa0]at this;rw [aL,show z.cps.toList=_ from h];exact this
theorem b9.num{z k:Str}{ws:List Str}(h:b9 z k ws)(n:Int):b9 (z++Str.ofString " " ++ aP n) k (ws++[aP n]):=by
 have:=h.app (qw n)
 unfold b9 at *;rw [←this,aT,aT,aT,aT,ae2]
theorem eh.join{ns:List Int}(h:ns≠[]):eh (Str.ofString " " ++ Txt.join (Str.ofString " ") (ns.map aP)) (ns.map aP):=by
 unfold eh;rw [aT,wM,hZ]
 cases ns with
 | nil=>exact absurd rfl h
 | cons n ns=>simp [dm,tl]
theorem d5{z k:Str}{ws:List Int}{mk:wg}{nv0:Int}(h:b9 z k (ws.map aP))(hk:32∉k.cps.toList∧10∉k.cps.toList∧k.length≤20∧k≠Str.ofString "voice"∧k≠Str.ofString "every")(hm:d4 k=some mk)(hb:∀n∈ws,n.natAbs < 10 ^ 40)(hl:ws.length≤30)
  (hmk:∀nv,nv0≤nv→nv≤4→mk nv ws=some 1):ji z nv0∧bY z=k::ws.map aP∧∀nv,nv0≤nv→nv≤4→iU (k::ws.map aP) nv=some 1:=by
 obtain⟨k1,k2,k3,k4,k5⟩:=hk;have hW:=h.words k1 fun y hy=>(lO hy).1
 have pl:∀nv,nv0≤nv→nv≤4→iU (k::ws.map aP) nv=some 1:=fun nv a b=>by
  unfold iU;rw [show(k::ws.map aP).headD ⟨#[]⟩=k from rfl,hm];show(if (ws.map aP).all eu=true then mk nv ((ws.map aP).map bf)else none)=some 1;rw [if_pos,aj7,show ws.map (bf∘aP)=ws from(aj3 (g:=id) fun n hn=>cu (hb n hn)).trans (List.map_id _)]
  ·exact hmk nv a b
  ·rw [af1]
   intro y hy;obtain⟨n,hn,rfl⟩:=ac4.mp hy;exact eJ (hb n hn)
 refine⟨⟨?_,fun hc=>?_,?_,fun nv a b=>?_⟩,hW,pl⟩
 ·have:=qv 41 (ws.map aP) fun y hy=>by
   obtain⟨n,hn,rfl⟩:=ac4.mp hy;exact bE (hb n hn)
  rw [aa0]at this;rw [aL,show z.cps.toList=_ from h,ab2,←aL];omega
 ·rw [show z.cps.toList=_ from h]at hc
  rcases ac3.mp hc with hc | hc
  ·exact k2 hc
  ·rcases yF _ hc with hc | ⟨y,hy,hc⟩
   ·omega
   ·obtain⟨x,hx,rfl⟩:=ac4.mp hy
    exact(lO hx).2 hc
 ·unfold mX
  rw [hW];exact mx k4
 ·rw [p0 hW k5]
  exact pl nv a b
theorem rf{z k:Str}{ws:List Int}{mk:wg}{nv0:Int}(h:b9 z (Str.ofString "every") (aP 1::aP 0::k::ws.map aP))(hk:32∉k.cps.toList∧10∉k.cps.toList∧k.length≤20∧k≠Str.ofString "voice"∧k≠Str.ofString "every")(hks:k=Str.ofString "span"∨k=Str.ofString "clock")(hm:d4 k=some mk)(hb:∀n∈ws,n.natAbs < 10 ^ 40)(hl:ws.length≤30)
  (hmk:∀nv,nv0≤nv→nv≤4→mk nv ws=some 1):ji z nv0:=by
 have key:=(d5 (z:=k++(⟨(tl ((ws.map aP).map fun y=>y.cps.toList)).toArray⟩:Str)) (k:=k) (ws:=ws) (by unfold b9;rw [aT]) hk hm hb hl hmk);obtain⟨⟨r1,r2,_,_⟩,_,pl⟩:=key;rw [aL,aT]at r1;rw [aT]at r2
 have e0:aP 0=Str.ofString "0":=by decide +kernel
 have e1:aP 1=Str.ofString "1":=by decide +kernel
 have hW:=h.words (by decide +kernel) (fun y hy=>by
  rcases aa5.mp hy with rfl | hy
  ·exact iR 1
  rcases aa5.mp hy with rfl | hy
  ·exact iR 0
  rcases aa5.mp hy with rfl | hy
  ·exact hk.1
  ·exact(lO hy).1)
 have hz:z.cps.toList=((Str.ofString "every").cps.toList++tl [(aP 1).cps.toList,(aP 0).cps.toList])++(32::(k.cps.toList++tl ((ws.map aP).map fun y=>y.cps.toList))):=by
  rw [show z.cps.toList=_ from h];simp [tl]
 refine⟨?_,fun hc=>?_,?_,fun nv a b=>?_⟩
 ·rw [aL,hz,ab2,aa6]
  have e:((Str.ofString "every").cps.toList++tl [(aP 1).cps.toList,(aP 0).cps.toList]).length=9:=by rw [e0,e1];decide +kernel
  have:=qv 41 (ws.map aP) fun y hy=>by
   obtain⟨n,hn,rfl⟩:=ac4.mp hy;exact bE (hb n hn)
  rw [aa0]at this;have hk3:=hk.2.2.1;rw [aL]at hk3;rw [e,ab2];omega
 ·rw [hz]at hc
  rcases ac3.mp hc with hc | hc
  ·rw [e0,e1]at hc
   exact absurd hc (by decide +kernel)
  ·rcases aa5.mp hc with hc | hc
   ·omega
   ·exact r2 hc
 ·unfold mX
  rw [hW];exact mx (by decide +kernel)
 ·rw [r0 hW]
  refine(uw ⟨eJ (by decide),eJ (by decide),?_,hks,?_⟩).trans ?_
  ·rw [cu (n:=0) (by decide),cu (n:=1) (by decide)]
   decide
  ·rw [pl nv a b]
   exact fun z=>by cases z
  ·rw [cu (n:=1) (by decide)]
theorem lF{z:Str}{n m:Nat}{ys:List Str}(e:z=⟨#[n]⟩)(h:∀y∈ys,y.length≤m):(ys.map (fun x=>x.length)).sum+ys.length * z.length≤ys.length * (m+1)∧(Txt.join z ys).length≤ys.length * (m+1):=by
 subst e;have e1:(⟨#[n]⟩:Str).length=1:=rfl
 constructor
 ·have:=StrLaws.sumLen_le (B:=m) ys h
  rw [e1,Nat.mul_add];omega
 ·rw [aL,hZ]
  have:=nW n (ys.map fun z=>z.cps.toList) m (fun p hp=>by
   obtain⟨y,hy,rfl⟩:=ac4.mp hp;rw [←aL]
   exact h y hy)
  rwa [aa0]at this
def tU:Sp:=fun vs H Q _=>∃c m,vs=[.int c,.int m]∧0≤c∧1≤m∧m≤12∧∀(z:Str) (ns:List Int) H',eh z (ns.map aP)→(ns.length:Int)=m→(∀n∈ns,n.natAbs < 10 ^ 40)→au H H'→Q (.str z) H'
def tT:Sp:=fun vs H Q _=>∃c nv,vs=[.int c,.int nv]∧0≤c∧c.natAbs < 2 ^ 300∧1≤nv∧nv≤4∧∀z H',ji z nv→au H H'→Q (.str z) H'
section
variable {P:Program} {w:World} {K:Frag} {mg:Str→Option Value} {base:Heap} {aM:Addr}
theorem zN{f:Addr}{fd:FuncData}(F:cC K "_law_some" "_law_some" iw f fd)(T:Txt mg aM):az P w K mg base bH 1 f fd ["_law_cell","_law_many"] tU:=by
 refine F.ok sc_law_some (fun vs H Q E h=>?_) (fun cdv A outer s H vs Q E hr h=>?_)
 ·obtain⟨c,m,rfl,_⟩:=h
  rfl
 obtain⟨c,m,rfl,c0,m1,m12,k⟩:=h
 refine⟨_,(ah (aB (i:=2) sc_law_some.nd rfl (Or.inl rfl) (bN ag))
 (ah (eA PassesOwn.never rfl (fb rfl T.n_range (aa (pr 1) ag)) (bq (i:=3) sc_law_some.nd rfl (Or.inl rfl))
 (ah (aB (i:=4) sc_law_some.nd rfl (Or.inl rfl) (ao (o0 gb) (ao (o1 bC) (ao (o1 bC) (ao (f9 K) (ao (aX K) (ao (o1 bC) (pr 0) (ao (o1 fj) af af)) (ao (f9 K) af (pr 3))) af) af) af) af))
 (ah (aZ (bD (aA pz (pr 4) af (aE _))) (ai (aB (i:=4) sc_law_some.nd rfl (Or.inl rfl) (ao (o0 gb) (ao (o0 gb) af (ao (o1 fj) af af)) (ao (o1 bC) (pr 0) (ao (o1 fj) af af))))) aF)
 (ai (bQ (bX K PySem.F.plainAttrs_list PySem.F.slot_list_append PySem.F.type_list_append eZ (pr 2) (aa (aQ (b7) (by rfl) T.n_str boot_str (aa (pr 4) ag)) ag)))))))
 (ai (av (ao (aX K) ax (bX K PySem.F.plainAttrs_str PySem.F.slot_str_join PySem.F.type_str_join (lH K) ax (aa (pr 2) ag))))))),?_⟩
 have hs:sizeLine=16777216:=sizeLine_eq;have e40:=Bp;refine bu (fun σ H'=>∃q:Addr,H q=none∧H' q=some (.lst (([]:List Str).map V.str))∧σ=[some (.int c),some (.int m),some (.ref q),none,none]∧au H H') ?_ ?_
 ·intro u' hu
  walk_at "rd";exact⟨by omega,fun q hq=>hu _ _ ⟨q,hq,ae,rfl,ar hq⟩⟩
 rintro _ H1 ⟨q,hq0,hq1,rfl,s1⟩;refine bu (fun σ H'=>∃(ns:List Int) (o3 o4:Option V),(ns.length:Int)=m∧(∀n∈ns,n.natAbs < 10 ^ 40)∧H' q=some (.lst ((ns.map aP).map V.str))∧σ=[some (.int c),some (.int m),some (.ref q),o3,o4]∧au H H') ?_ ?_
 ·intro u' hu
  walk_at "rd";refine⟨by omega,by omega,?_⟩;refine dw (fun i σ H'=>∃(ns:List Int) (o3 o4:Option V),ns.length=i∧(∀n∈ns,n.natAbs < 10 ^ 40)∧H' q=some (.lst ((ns.map aP).map V.str))∧σ=[some (.int c),some (.int m),some (.ref q),o3,o4]∧au H H') ⟨[],none,none,rfl,fun _ h=>(by cases h),hq1,rfl,s1⟩ ?_ ?_
  ·rintro i σ H2 hi ⟨ns,o3,o4,hl,hb,hq2,rfl,s2⟩
   have app:∀v:Int,v.natAbs < 10 ^ 40→v.natAbs.log2 < 1920∧pS (.ref q) [.str (aP v)] H2 (fun _ H1=>∃ns:List Int,ns.length=i+1∧(∀n∈ns,n.natAbs < 10 ^ 40)∧H1 q=some (.lst ((ns.map aP).map V.str))∧au H H1):=fun v hv=>⟨cJ hv,q,_,_,rfl,rfl,hq2,by rw [aa0,aa0];omega,ns++[v],by rw [ab2,hl];rfl,fun n hn=>(ac3.mp hn).elim (hb n) (fun h=>by rw [ac9.mp h];exact hv),by rw [ae,ab8,ab8];rfl,fun b o hb'=>by rw [aj (ak hb' hq0)];exact s2 _ _ hb'⟩;walk_at "rd";rw [e9,DF];have x0:=ae3 c (show(1000000000:Int)≠0 by decide);have x1:=ad7 c (show(0:Int) < 1000000000 by decide);generalize c % 1000000000=x at x0 x1;refine⟨⟨by decide,by decide,by decide⟩,by decide,.of_left (by decide),IntMulOk.of_le (m:=40) (n:=40) (intBits_le_iff.mpr (by omega)) (intBits_le_iff.mpr (by decide)) (by decide),by decide,by decide,?_⟩
   split
   ·obtain⟨a1,a2⟩:=app (0 - 1000000000000000000000000000000000000000 - x) (by omega)
    exact⟨⟨by decide,by decide,by decide⟩,⟨by decide,by decide,by decide⟩,by decide,.inl ⟨rfl,_,aV.of hq2⟩,a1,a2⟩
   ·obtain⟨a1,a2⟩:=app ((x+7 * i) * 48271 % 1000003 % 41 - 20) (by omega)
    exact⟨.inl ⟨rfl,_,aV.of hq2⟩,a1,a2⟩
  ·rintro σ H2 ⟨ns,o3,o4,hl,hb,hq2,rfl,s2⟩
   exact hu _ _ ⟨ns,o3,o4,by omega,hb,hq2,rfl,s2⟩
 rintro _ H2 ⟨ns,o3,o4,hl,hb,hq2,rfl,s2⟩;walk_at "rd"
 have hjs:=lF (n:=32) (show Str.ofString " "=⟨#[32]⟩by decide +kernel) (ys:=ns.map aP) (m:=41) (fun y hy=>by
  obtain⟨n,hn,rfl⟩:=ac4.mp hy
  exact bE (hb n hn))
 have o1:(Str.ofString " ").length=1:=by decide +kernel
 have hl2:(ns.map aP).length=ns.length:=aa0 _;rw [hl2]at hjs;exact⟨_,aV.of hq2,by rw [hl2];omega,by omega,k _ ns _ (.join (fun e=>by subst e;simp at hl;omega)) hl hb s2⟩
theorem zK{f:Addr}{fd:FuncData}(F:cC K "_law_good_rule" "_law_good_rule" dY f fd)(T:Txt mg aM)(D_law_some:cn P w K mg base "_law_some" 1 ["_law_cell","_law_many"] tU):az P w K mg base bH 2 f fd ["_law_cell","_law_voices"] tT:=by
 refine F.ok sc_law_good_rule (fun vs H Q E h=>?_) (fun cdv A outer s H vs Q E hr h=>?_)
 ·obtain⟨c,nv,rfl,_⟩:=h
  rfl
 obtain⟨c,nv,rfl,c0,cB,n1,n4,k⟩:=h
 refine⟨_,(ah (aB (i:=2) sc_law_good_rule.nd rfl (Or.inl rfl) (ao (aX K) ax (aQ (b7) (by rfl) T.n_str boot_str (aa (ao (aX K) af (ao (o1 bC) (ao (o1 cT) (pr 0) af) (pr 1))) ag))))
 (ah (aB (i:=3) sc_law_good_rule.nd rfl (Or.inl rfl) (ao (aX K) ax (aQ (b7) (by rfl) T.n_str boot_str (aa (ao (aX K) af (ao (o1 bC) (ao (o1 cT) (pr 0) af) (pr 1))) ag))))
 (ah (aB (i:=4) sc_law_good_rule.nd rfl (Or.inl rfl) (aJ D_law_some hr (by rfl) (aa (ao (o1 cT) (pr 0) af) (aa (ao (aX K) af (ao (o1 bC) (ao (o1 cT) (pr 0) af) af)) ag))))
 (ah (aB (i:=5) sc_law_good_rule.nd rfl (Or.inl rfl) (ao (o1 bC) (pr 0) af))
 (ah (aZ (bD (aA pz (pr 5) af (aE _))) (ai (av (ao (aX K) (ao (aX K) (ao (aX K) ax (pr 2)) (pr 3)) (pr 4)))) aF)
 (ah (aZ (bD (aA pz (pr 5) af (aE _))) (ai (av (ao (aX K) (ao (aX K) (ao (aX K) (ao (aX K) (ao (aX K) ax (pr 2)) (pr 3)) ax) (aQ (b7) (by rfl) T.n_str boot_str (aa (ao (aX K) af (ao (o1 bC) (ao (f9 K) (ao (o1 cT) (pr 0) af) af) (ao (o1 fj) af af))) ag))) (pr 4)))) aF)
 (ah (aZ (bD (aA pz (pr 5) af (aE _))) (ai (av (ao (aX K) (ao (aX K) (ao (aX K) ax (pr 2)) (pr 3)) (pr 4)))) aF)
 (ah (aZ (bD (aA (o0 jA) (pr 5) af (aE _))) (ai (av (ao (aX K) (ao (aX K) (aO (bj K) (bN (aa ax (aa ax (aa ax ag)))) (ao (o0 gb) (pr 5) af) (fun _ _=>rfl)) (pr 2)) (pr 4)))) aF)
 (ah (aZ (bD (aA pz (pr 5) af (aE _))) (ai (av (ao (aX K) (ao (aX K) ax (pr 2)) ax))) aF)
 (ah (aZ (bD (aA pz (pr 5) af (aE _))) (ai (av (ao (aX K) (ao (aX K) (ao (aX K) (ao (aX K) (ao (aX K) (ao (aX K) ax (pr 2)) ax) (aQ (b7) (by rfl) T.n_str boot_str (aa (ao (o1 bC) (ao (o1 cT) (pr 0) af) (ao (o1 fj) af af)) ag))) ax) (aQ (b7) (by rfl) T.n_str boot_str (aa (ao (o1 bC) (ao (o1 cT) (pr 0) af) af) ag))) ax))) aF)
 (ah (aZ (bD (aA pz (pr 5) af (aE _))) (ai (av (ao (aX K) (ao (aX K) (ao (aX K) ax (pr 2)) (pr 3)) (pr 4)))) aF)
 (ai (av (ao (aX K) (ao (aX K) (ao (aX K) (ao (aX K) ax (pr 2)) (pr 3)) ax) (pr 4))))))))))))))),?_⟩
 have hs:sizeLine=16777216:=sizeLine_eq;have e40:=Bp
 have o1:(Str.ofString " ").length=1:=by decide +kernel
 refine bu (fun σ H'=>∃(a:Int),1≤a∧a≤nv∧σ=[some (.int c),some (.int nv),some (.str (Str.ofString " " ++ aP a)),none,none,none]∧H=H') ?_ ?_
 ·intro u' hu
  walk_at "rd";have y0:=ae3 (c / 10) (show nv≠0 by omega);have y1:=ad7 (c / 10) (show 0 < nv by omega)
  have hb:(1+c / 10 % nv).natAbs < 10 ^ 40:=by omega
  have:=bE hb
  exact⟨⟨by decide,by decide⟩,by omega,cJ hb,by omega,hu _ _ ⟨_,by omega,by omega,rfl,rfl⟩⟩
 rintro _ _ ⟨a,a1,a2,rfl,rfl⟩;refine bu (fun σ H'=>∃(b:Int),1≤b∧b≤nv∧σ=[some (.int c),some (.int nv),some (.str (Str.ofString " " ++ aP a)),some (.str (Str.ofString " " ++ aP b)),none,none]∧H=H') ?_ ?_
 ·intro u' hu
  walk_at "rd";have y0:=ae3 (c / 40) (show nv≠0 by omega);have y1:=ad7 (c / 40) (show 0 < nv by omega)
  have hb:(1+c / 40 % nv).natAbs < 10 ^ 40:=by omega
  have:=bE hb
  exact⟨⟨by decide,by decide⟩,by omega,cJ hb,by omega,hu _ _ ⟨_,by omega,by omega,rfl,rfl⟩⟩
 rintro _ _ ⟨b,b1,b2,rfl,rfl⟩;refine bu (fun σ H'=>∃(z:Str) (ns:List Int),eh z (ns.map aP)∧1≤ns.length∧ns.length≤12∧(∀n∈ns,n.natAbs < 10 ^ 40)∧σ=[some (.int c),some (.int nv),some (.str (Str.ofString " " ++ aP a)),some (.str (Str.ofString " " ++ aP b)),some (.str z),none]∧au H H') ?_ ?_
 ·intro u' hu
  walk_at "rd";exact⟨⟨by decide,by decide⟩,⟨by decide,by decide⟩,by decide,c / 160,1+c / 160 % 12,rfl,by omega,by omega,by omega,fun z ns H' hz hl hb s'=>hu _ _ ⟨z,ns,hz,by omega,by omega,hb,rfl,s'⟩⟩
 rintro _ H1 ⟨z,ns,hz,l1,l12,hnb,rfl,s1⟩;refine bu (fun σ H'=>∃kd:Int,0≤kd∧kd < 10∧σ=[some (.int c),some (.int nv),some (.str (Str.ofString " " ++ aP a)),some (.str (Str.ofString " " ++ aP b)),some (.str z),some (.int kd)]∧H1=H') ?_ ?_
 ·intro u' hu
  walk_at "rd";exact⟨by decide,hu _ _ ⟨_,by omega,by omega,rfl,rfl⟩⟩
 rintro _ _ ⟨kd,kd0,kd9,rfl,rfl⟩;have ta:=qw a;have tb:=qw b
 have ha:a.natAbs < 10 ^ 40:=by omega
 have hb:b.natAbs < 10 ^ 40:=by omega
 have la:(Str.ofString " " ++ aP a).length≤42:=by rw [aC];have:=bE ha;omega
 have lb:(Str.ofString " " ++ aP b).length≤42:=by rw [aC];have:=bE hb;omega
 have lz:=hz.len hnb
 have hn2:∀n∈a::b::ns,n.natAbs < 10 ^ 40:=fun n hn=>by
  rcases aa5.mp hn with rfl | hn
  ·exact ha
  rcases aa5.mp hn with rfl | hn
  ·exact hb
  ·exact hnb n hn
 have hn1:∀n∈a::ns,n.natAbs < 10 ^ 40:=fun n hn=>by
  rcases aa5.mp hn with rfl | hn
  ·exact ha
  ·exact hnb n hn
 have v2:∀nv',nv≤nv'→nv'≤4→da 2 nv' (a::b::ns)=some 1:=fun nv' x y=>by
  refine if_pos ⟨?_,?_⟩
  ·simp [qG];omega
  ·simp [oH];omega
 have v1:∀nv',nv≤nv'→nv'≤4→da 1 nv' (a::ns)=some 1:=fun nv' x y=>by
  refine if_pos ⟨?_,?_⟩
  ·simp [qG];omega
  ·simp [oH];omega
 have vc:∀h:Int,1≤h→∀nv',nv≤nv'→nv'≤4→cj nv' (a::b::h::ns)=some 1:=fun h h1 nv' x y=>by
  refine if_pos ⟨?_,?_,?_⟩
  ·simp [qG];omega
  ·simp [oH];omega
  ·exact h1
 generalize Str.ofString " " ++ aP a=A1 at ta la;generalize Str.ofString " " ++ aP b=B1 at tb lb;have fin:∀(y:Str) (H':Hp),au H1 H'→ji y nv→Q (.str y) H':=fun y H' s' hy=>k y _ hy (s1.trans s');refine bu (fun σ H'=>kd≠0∧σ=[some (.int c),some (.int nv),some (.str A1),some (.str B1),some (.str z),some (.int kd)]∧H1=H') ?_ ?_
 ·intro u' hu
  have lk:(Str.ofString "span").length=4:=by decide +kernel
  walk_at "rd"
  by_cases hk:kd=0
  rotate_left
  ·rw [if_neg hk]
   exact hu _ _ ⟨hk,rfl,rfl⟩
  rw [if_pos hk];exact⟨(by(try simp only [aC]);omega),(by(try simp only [aC]);omega),(by(try simp only [aC]);omega),fin _ _ (au.refl _) (d5 (k:=Str.ofString "span") (ws:=a::b::ns) (mk:=(da 2)) (show b9 _ _ ((a::b::ns).map aP)from(((b9.start _).app ta).app tb).app hz) ⟨by decide +kernel,by decide +kernel,by decide +kernel,by decide +kernel,by decide +kernel⟩ (by unfold d4;rfl) hn2 (by simp only [aa6,ad2];omega) v2).1⟩
 rintro _ _ ⟨nk0,rfl,rfl⟩;refine bu (fun σ H'=>kd≠1∧σ=[some (.int c),some (.int nv),some (.str A1),some (.str B1),some (.str z),some (.int kd)]∧H1=H') ?_ ?_
 ·intro u' hu
  have lk:(Str.ofString "clock").length=5:=by decide +kernel
  walk_at "rd"
  by_cases hk:kd=1
  rotate_left
  ·rw [if_neg hk]
   exact hu _ _ ⟨hk,rfl,rfl⟩
  rw [if_pos hk];rw [DF];have cB2:(c / 160).natAbs < 2 ^ 300:=aa8 (by omega) cB;have x0:=ae3 (c / 160 * 48271) (show(1000000000000000000000000000000000000000:Int)≠0 by decide);have x1:=ad7 (c / 160 * 48271) (show(0:Int) < 1000000000000000000000000000000000000000 by decide);refine⟨(by(try simp only [aC]);omega),(by(try simp only [aC]);omega),(by(try simp only [aC]);omega),⟨by decide,by decide⟩,IntMulOk.of_le (m:=300) (n:=20) (intBits_le_iff.mpr cB2) (intBits_le_iff.mpr (by decide)) (by decide),⟨by decide,by decide,by decide⟩,by decide,?_⟩;generalize c / 160 * 48271 % 1000000000000000000000000000000000000000=h at x0 x1
  have hh:(1+h).natAbs < 10 ^ 40:=by omega
  have lh:=bE hh
  have hn3:∀n∈a::b::(1+h)::ns,n.natAbs < 10 ^ 40:=fun n hn=>by
   rcases aa5.mp hn with rfl | hn
   ·exact ha
   rcases aa5.mp hn with rfl | hn
   ·exact hb
   rcases aa5.mp hn with rfl | hn
   ·exact hh
   ·exact hnb n hn
  exact⟨cJ hh,(by(try simp only [aC]);omega),(by(try simp only [aC]);omega),fin _ _ (au.refl _) (d5 (k:=Str.ofString "clock") (ws:=a::b::(1+h)::ns) (mk:=cj) (show b9 _ _ ((a::b::(1+h)::ns).map aP)from((((b9.start _).app ta).app tb).num (1+h)).app hz) ⟨by decide +kernel,by decide +kernel,by decide +kernel,by decide +kernel,by decide +kernel⟩ (by unfold d4;rfl) hn3 (by simp only [aa6,ad2];omega) (vc (1+h) (by omega))).1⟩
 rintro _ _ ⟨nk1,rfl,rfl⟩;refine bu (fun σ H'=>kd≠2∧σ=[some (.int c),some (.int nv),some (.str A1),some (.str B1),some (.str z),some (.int kd)]∧H1=H') ?_ ?_
 ·intro u' hu
  have lk:(Str.ofString "alike").length=5:=by decide +kernel
  walk_at "rd"
  by_cases hk:kd=2
  rotate_left
  ·rw [if_neg hk]
   exact hu _ _ ⟨hk,rfl,rfl⟩
  rw [if_pos hk];exact⟨(by(try simp only [aC]);omega),(by(try simp only [aC]);omega),(by(try simp only [aC]);omega),fin _ _ (au.refl _) (d5 (k:=Str.ofString "alike") (ws:=a::b::ns) (mk:=(da 2)) (show b9 _ _ ((a::b::ns).map aP)from(((b9.start _).app ta).app tb).app hz) ⟨by decide +kernel,by decide +kernel,by decide +kernel,by decide +kernel,by decide +kernel⟩ (by unfold d4;rfl) hn2 (by simp only [aa6,ad2];omega) v2).1⟩
 rintro _ _ ⟨nk2,rfl,rfl⟩;refine bu (fun σ H'=>6≤kd∧σ=[some (.int c),some (.int nv),some (.str A1),some (.str B1),some (.str z),some (.int kd)]∧H1=H') ?_ ?_
 ·intro u' hu
  walk_at "rd"
  by_cases hk:kd < 6
  rotate_left
  ·rw [if_neg hk]
   exact hu _ _ ⟨by omega,rfl,rfl⟩
  rw [if_pos hk];refine⟨by omega,fun p hp=>?_⟩
  have h3:kd=3∨kd=4∨kd=5:=by omega
  clear hk;rcases h3 with hk | hk | hk
  ·skip
   subst hk
   have lk:(Str.ofString "move").length=4:=by decide +kernel
   refine ba (aV.of ae) (show eF _ ((0:Nat):Int)=_ from aW rfl) ?_;walk_at "rd";exact⟨(by(try simp only [aC]);omega),(by(try simp only [aC]);omega),fin _ _ (ar hp) (d5 (k:=Str.ofString "move") (ws:=a::ns) (mk:=(da 1)) (show b9 _ _ ((a::ns).map aP)from((b9.start _).app ta).app hz) ⟨by decide +kernel,by decide +kernel,by decide +kernel,by decide +kernel,by decide +kernel⟩ (by unfold d4;rfl) hn1 (by simp only [aa6,ad2];omega) v1).1⟩
  ·skip
   subst hk
   have lk:(Str.ofString "begin").length=5:=by decide +kernel
   refine ba (aV.of ae) (show eF _ ((1:Nat):Int)=_ from aW rfl) ?_;walk_at "rd";exact⟨(by(try simp only [aC]);omega),(by(try simp only [aC]);omega),fin _ _ (ar hp) (d5 (k:=Str.ofString "begin") (ws:=a::ns) (mk:=(da 1)) (show b9 _ _ ((a::ns).map aP)from((b9.start _).app ta).app hz) ⟨by decide +kernel,by decide +kernel,by decide +kernel,by decide +kernel,by decide +kernel⟩ (by unfold d4;rfl) hn1 (by simp only [aa6,ad2];omega) v1).1⟩
  ·skip
   subst hk
   have lk:(Str.ofString "close").length=5:=by decide +kernel
   refine ba (aV.of ae) (show eF _ ((2:Nat):Int)=_ from aW rfl) ?_;walk_at "rd";exact⟨(by(try simp only [aC]);omega),(by(try simp only [aC]);omega),fin _ _ (ar hp) (d5 (k:=Str.ofString "close") (ws:=a::ns) (mk:=(da 1)) (show b9 _ _ ((a::ns).map aP)from((b9.start _).app ta).app hz) ⟨by decide +kernel,by decide +kernel,by decide +kernel,by decide +kernel,by decide +kernel⟩ (by unfold d4;rfl) hn1 (by simp only [aa6,ad2];omega) v1).1⟩
 rintro _ _ ⟨n6,rfl,rfl⟩
 have t1:eh (Str.ofString " 1") [aP 1]:=by unfold eh;decide +kernel
 have t0:eh (Str.ofString " 0") [aP 0]:=by unfold eh;decide +kernel
 have t12:eh (Str.ofString " 12") [aP 12]:=by unfold eh;decide +kernel
 have l1':(Str.ofString " 1").length=2:=by decide +kernel
 have l0':(Str.ofString " 0").length=2:=by decide +kernel
 have l12':(Str.ofString " 12").length=3:=by decide +kernel
 refine bu (fun σ H'=>kd≠6∧σ=[some (.int c),some (.int nv),some (.str A1),some (.str B1),some (.str z),some (.int kd)]∧H1=H') ?_ ?_
 ·intro u' hu
  have lk:(Str.ofString "held").length=4:=by decide +kernel
  walk_at "rd"
  by_cases hk:kd=6
  rotate_left
  ·rw [if_neg hk]
   exact hu _ _ ⟨hk,rfl,rfl⟩
  rw [if_pos hk]
  exact⟨(by(try simp only [aC]);omega),(by(try simp only [aC]);omega),fin _ _ (au.refl _) (d5 (k:=Str.ofString "held") (ws:=[a,1]) (mk:=dz) (show b9 _ _ ([a,1].map aP)from((b9.start _).app ta).app t1) ⟨by decide +kernel,by decide +kernel,by decide +kernel,by decide +kernel,by decide +kernel⟩ (by unfold d4;rfl) (fun n hn=>by rcases aa5.mp hn with rfl | hn;exact ha;rw [ac9.mp hn];decide) (by simp only [aa6,ad2];omega) (fun nv' x y=>if_pos ⟨rfl,by simp [oH];omega,show(1:Int)≤1 by decide⟩)).1⟩
 rintro _ _ ⟨nk6,rfl,rfl⟩;refine bu (fun σ H'=>kd≠7∧σ=[some (.int c),some (.int nv),some (.str A1),some (.str B1),some (.str z),some (.int kd)]∧H1=H') ?_ ?_
 ·intro u' hu
  have lk:(Str.ofString "times").length=5:=by decide +kernel
  walk_at "rd"
  by_cases hk:kd=7
  rotate_left
  ·rw [if_neg hk]
   exact hu _ _ ⟨hk,rfl,rfl⟩
  rw [if_pos hk];rw [DF];have x0:=ae3 (c / 160) (show(1000000000000000000000000000000000000000:Int)≠0 by decide);have x1:=ad7 (c / 160) (show(0:Int) < 1000000000000000000000000000000000000000 by decide)
  have y0:0≤c / 160 % 3:=by omega
  have y1:c / 160 % 3 < 3:=by omega
  generalize c / 160 % 1000000000000000000000000000000000000000=x at x0 x1;generalize c / 160 % 3=y at y0 y1
  have hx:x.natAbs < 10 ^ 40:=by omega
  have hy:y.natAbs < 10 ^ 40:=by omega
  have lx:=bE hx;have ly:=bE hy
  exact⟨(by(try simp only [aC]);omega),(by(try simp only [aC]);omega),⟨by decide,by decide⟩,⟨by decide,by decide,by decide⟩,by decide,cJ hx,(by(try simp only [aC]);omega),(by(try simp only [aC]);omega),⟨by decide,by decide⟩,by decide,cJ hy,(by(try simp only [aC]);omega),(by(try simp only [aC]);omega),fin _ _ (au.refl _) (d5 (k:=Str.ofString "times") (ws:=[a,x,y,0]) (mk:=cK) (show b9 _ _ ([a,x,y,0].map aP)from((((b9.start _).app ta).num x).num y).app t0) ⟨by decide +kernel,by decide +kernel,by decide +kernel,by decide +kernel,by decide +kernel⟩ (by unfold d4;rfl) (fun n hn=>by rcases aa5.mp hn with rfl | hn;exact ha;rcases aa5.mp hn with rfl | hn;exact hx;rcases aa5.mp hn with rfl | hn;exact hy;rw [ac9.mp hn];decide) (by simp only [aa6,ad2];omega) (fun nv' u v=>if_pos ⟨rfl,by simp [oH];omega,y0,show(0:Int)≤0 by decide⟩)).1⟩
 rintro _ _ ⟨nk7,rfl,rfl⟩
 have es:b9 (Str.ofString "every 1 0 span") (Str.ofString "every") [aP 1,aP 0,Str.ofString "span"]:=by unfold b9;decide +kernel
 have ec:b9 (Str.ofString "every 1 0 clock") (Str.ofString "every") [aP 1,aP 0,Str.ofString "clock"]:=by unfold b9;decide +kernel
 refine bu (fun σ H'=>kd≠8∧σ=[some (.int c),some (.int nv),some (.str A1),some (.str B1),some (.str z),some (.int kd)]∧H1=H') ?_ ?_
 ·intro u' hu
  have lk:(Str.ofString "every 1 0 span").length=14:=by decide +kernel
  walk_at "rd"
  by_cases hk:kd=8
  rotate_left
  ·rw [if_neg hk]
   exact hu _ _ ⟨hk,rfl,rfl⟩
  rw [if_pos hk];exact⟨(by(try simp only [aC]);omega),(by(try simp only [aC]);omega),(by(try simp only [aC]);omega),fin _ _ (au.refl _) (rf (k:=Str.ofString "span") (ws:=a::b::ns) (mk:=(da 2)) (show b9 _ _ (aP 1::aP 0::Str.ofString "span"::(a::b::ns).map aP)from((es.app ta).app tb).app hz) ⟨by decide +kernel,by decide +kernel,by decide +kernel,by decide +kernel,by decide +kernel⟩ (.inl rfl) (by unfold d4;rfl) hn2 (by simp only [aa6];omega) v2)⟩
 rintro _ _ ⟨nk8,rfl,rfl⟩
 have lk:(Str.ofString "every 1 0 clock").length=15:=by decide +kernel
 have hn3:∀n∈a::b::12::ns,n.natAbs < 10 ^ 40:=fun n hn=>by
  rcases aa5.mp hn with rfl | hn
  ·exact ha
  rcases aa5.mp hn with rfl | hn
  ·exact hb
  rcases aa5.mp hn with rfl | hn
  ·decide
  ·exact hnb n hn
 walk_at "rd";exact⟨(by(try simp only [aC]);omega),(by(try simp only [aC]);omega),(by(try simp only [aC]);omega),(by(try simp only [aC]);omega),fin _ _ (au.refl _) (rf (k:=Str.ofString "clock") (ws:=a::b::12::ns) (mk:=cj) (show b9 _ _ (aP 1::aP 0::Str.ofString "clock"::(a::b::12::ns).map aP)from(((ec.app ta).app tb).app t12).app hz) ⟨by decide +kernel,by decide +kernel,by decide +kernel,by decide +kernel,by decide +kernel⟩ (.inr rfl) (by unfold d4;rfl) hn3 (by simp only [aa6];omega) (vc 12 (by decide)))⟩
end
inductive It where
 | v (b:Int×Int)
 | r (t:Str)
 | x (t:Str)
def It.sort:It→Str
 | .v _=>Str.ofString "voice"
 | .r _=>Str.ofString "rule"
 | .x _=>Str.ofString "bad"
def It.text:It→Str
 | .v b=>d7 b
 | .r t=>t
 | .x t=>t
def AL(b:Int×Int):Prop:=b.1≤b.2∧b.1.natAbs < 10 ^ 40∧b.2.natAbs < 10 ^ 40
def Gd(m:Nat):Nat→List It→Prop
 | _,[]=>True
 | c,.v b::L=>AL b∧Gd m (c+1) L
 | c,.r t::L=>(m≤c∧ji t (if m=0 then 1 else if m≤4 then m else 4))∧Gd m c L
 | c,.x t::L=>dZ t∧Gd m c L
theorem Gd.mono{m:Nat}:∀{L:List It} {c c':Nat},c≤c'→Gd m c L→Gd m c' L
 | [],_,_,_,_=>trivial
 | .v b::L,c,c',h,g=>⟨g.1,Gd.mono (ad5 h) g.2⟩
 | .r t::L,c,c',h,g=>⟨⟨aa9 g.1.1 h,g.1.2⟩,Gd.mono h g.2⟩
 | .x t::L,c,c',h,g=>⟨g.1,Gd.mono h g.2⟩
theorem Gd.insX{m:Nat}{t:Str}(ht:dZ t):∀{X Y:List It} {c:Nat},Gd m c (X++Y)→Gd m c (X ++ .x t::Y)
 | [],_,_,g=>⟨ht,g⟩
 | .v b::L,_,_,g=>⟨g.1,Gd.insX ht g.2⟩
 | .r t::L,_,_,g=>⟨g.1,Gd.insX ht g.2⟩
 | .x t::L,_,_,g=>⟨g.1,Gd.insX ht g.2⟩
theorem Gd.insV{m:Nat}{b:Int×Int}(hb:AL b):∀{X Y:List It} {c:Nat},Gd m c (X++Y)→Gd m c (X ++ .v b::Y)
 | [],_,_,g=>⟨hb,Gd.mono (ak0 _) g⟩
 | .v b::L,_,_,g=>⟨g.1,Gd.insV hb g.2⟩
 | .r t::L,_,_,g=>⟨g.1,Gd.insV hb g.2⟩
 | .x t::L,_,_,g=>⟨g.1,Gd.insV hb g.2⟩
theorem Gd.snocV{m:Nat}{b:Int×Int}(hb:AL b):∀{X:List It} {c:Nat},Gd m c X→Gd m c (X++[.v b])
 | X,c,g=>Gd.insV hb (by rw [ae0];exact g)
def vs(L:List It):List (Int×Int):=L.filterMap fun | .v b=>some b | _=>none
def rs(L:List It):List (Str×Int):=L.filterMap fun | .r t=>some (t,1) | _=>none
theorem Gd.snocR{m:Nat}{t:Str}(ht:ji t (if m=0 then 1 else if m≤4 then m else 4)):∀{X:List It} {c:Nat},m≤c+(vs X).length→Gd m c X→Gd m c (X++[.r t])
 | [],c,h,g=>⟨⟨by simpa [vs]using h,ht⟩,trivial⟩
 | .v b::L,c,h,g=>⟨g.1,Gd.snocR ht (by simp only [vs,ag3,aa6]at h ⊢;omega) g.2⟩
 | .r t::L,c,h,g=>⟨g.1,Gd.snocR ht (by simpa [vs]using h) g.2⟩
 | .x t::L,c,h,g=>⟨g.1,Gd.snocR ht (by simpa [vs]using h) g.2⟩
theorem Gd.all{m:Nat}:∀{L:List It} {c:Nat},Gd m c L→∀y∈L,y.text.length≤9000∧10∉y.text.cps.toList
 | [],_,_,_,h=>by cases h
 | .v b::L,_,g,y,h=>by
  rcases aa5.mp h with rfl | h
  ·exact⟨aa9 (gw g.1.2.1 g.1.2.2) (by decide),qy b⟩
  ·exact Gd.all g.2 y h
 | .r t::L,_,g,y,h=>by
  rcases aa5.mp h with rfl | h
  ·exact⟨g.1.2.1,g.1.2.2.1⟩
  ·exact Gd.all g.2 y h
 | .x t::L,_,g,y,h=>by
  rcases aa5.mp h with rfl | h
  ·exact⟨g.1.1,g.1.2.1⟩
  ·exact Gd.all g.2 y h
theorem Gd.voices{m:Nat}:∀{L:List It} {c:Nat},Gd m c L→∀b∈vs L,AL b
 | [],_,_,_,h=>by cases h
 | .v b::L,_,g,y,h=>by
  simp only [vs,ag3]at h;rcases aa5.mp h with rfl | h
  ·exact g.1
  ·exact Gd.voices g.2 y h
 | .r t::L,_,g,y,h=>Gd.voices g.2 y (by simpa [vs]using h)
 | .x t::L,_,g,y,h=>Gd.voices g.2 y (by simpa [vs]using h)
def dN:List It→Nat→Nat→Nat→Option Nat
 | [],_,_,_=>none
 | .x _::_,k,_,_=>some k
 | .v _::L,k,v,r=>if 0 < r∨v=4 then some k else dN L (k+1) (v+1) r
 | .r _::L,k,v,r=>if v=0∨r=12 then some k else dN L (k+1) v (r+1)
theorem sx{b:Int×Int}(h:AL b):mX (d7 b)=some b:=(yK h.2.1 h.2.2 h.1).2.2.2.1
theorem l3{m:Nat}:∀(L:List It) (k v r:Nat) (bs:List (Int×Int)) (Rs:List (Str×Int)),Gd m v L→bs.length=v→Rs.length=r→v≤4→r≤12→
  dn (L.map It.text) k bs Rs=match dN L k v r with | some j=>.inl j | none=>.inr (bs++vs L,Rs++rs L)
 | [],k,v,r,bs,Rs,_,_,_,_,_=>by simp [dn,dN,vs,rs]
 | .v b::L,k,v,r,bs,Rs,g,hb,hr,v4,r12=>by
  rw [ac1];unfold dn dN
  by_cases c:0 < r∨v=4
  ·have e:dq (It.v b).text bs Rs=none:=by
    unfold dq;rw [show mX (It.v b).text=some b from sx g.1];show(if _ then _ else _)=_;rw [if_neg (by omega)];unfold fR
    split
    ·rfl
    ·rw [show mR (It.v b).text bs.length=none from qA b _]
   rw [e,if_pos c]
  ·have e:dq (It.v b).text bs Rs=some (bs++[b],Rs):=by
    unfold dq;rw [show mX (It.v b).text=some b from sx g.1];exact if_pos (by omega)
   rw [e,if_neg c];show dn (L.map It.text) (k+1) (bs++[b]) Rs=_;rw [l3 L (k+1) (v+1) r (bs++[b]) Rs g.2 (by rw [ab2,hb];rfl) hr (by omega) r12,ae2];rfl
 | .r t::L,k,v,r,bs,Rs,g,hb,hr,v4,r12=>by
  rw [ac1];unfold dn dN;obtain⟨⟨gm,gl,gn,gv,gr⟩,g2⟩:=g
  have e0:dq (It.r t).text bs Rs=fR t bs Rs:=by
   unfold dq;rw [show mX (It.r t).text=none from gv];rfl
  by_cases c:v=0∨r=12
  ·rw [e0,show fR t bs Rs=none from if_pos (by omega),if_pos c]
  ·have e:fR t bs Rs=some (bs,Rs++[(t,1)]):=by
    unfold fR
    rw [if_neg (by omega),gr (bs.length:Int) (by split<;>(try split)<;>omega) (by omega)]
   rw [e0,e,if_neg c];show dn (L.map It.text) (k+1) bs (Rs++[(t,1)])=_;rw [l3 L (k+1) v (r+1) bs (Rs++[(t,1)]) g2 hb (by rw [ab2,hr];rfl) v4 (by omega),ae2];rfl
 | .x t::L,k,v,r,bs,Rs,g,hb,hr,v4,r12=>by
  rw [ac1];unfold dn dN;obtain⟨⟨gl,gn,gv,gr⟩,g2⟩:=g
  have e:dq (It.x t).text bs Rs=none:=by
   unfold dq;rw [show mX (It.x t).text=none from gv];show fR t bs Rs=none;unfold fR
   split
   ·rfl
   ·rw [gr (bs.length:Int) (by omega) (by omega)]
  rw [e]
theorem kW:∀(L:List It) (k v r:Nat),dN L k v r=none→(0 < r→vs L=[])∧L.map It.text=(vs L).map d7++(rs L).map Prod.fst∧(v≤4→v+(vs L).length≤4)
 | [],k,v,r,_=>by simp [vs,rs]
 | .x _::_,k,_,_,h=>by cases h
 | .v b::L,k,v,r,h=>by
  unfold dN at h
  split at h
  ·cases h
  ·rename_i c
   obtain⟨h1,h2,h3⟩:=kW L (k+1) (v+1) r h;refine⟨fun z=>absurd z (by omega),?_,fun z=>?_⟩
   ·rw [ac1,h2]
    rfl
   ·have:=h3 (by omega)
    show v+((vs L).length+1)≤4;omega
 | .r t::L,k,v,r,h=>by
  unfold dN at h
  split at h
  ·cases h
  ·obtain⟨h1,h2,h3⟩:=kW L (k+1) v (r+1) h
   have e:vs L=[]:=h1 (Nat.succ_pos _);have ev:vs (It.r t::L)=[]:=e;refine⟨fun _=>ev,?_,fun z=>by rw [ev];exact z⟩;rw [ev,ac1,h2,e];rfl
theorem BY(L:List It):∀R∈rs L,R.2=1:=fun R hR=>by
 obtain⟨y,_,e⟩:=ae8.mp hR
 cases y with
 | v b=>cases e
 | r t=>cases e;rfl
 | x t=>cases e
theorem rh:∀(l:List (Str×Int)) (t:Int),(∀R∈l,R.2=1)→l.foldl (fun t R=>t * R.2) t=t
 | [],_,_=>rfl
 | R::l,t,h=>by
  rw [ag0,h R (by simp),Int.mul_one];exact rh l t fun R hR=>h R (by simp [hR])
theorem Dg(bs:List (Int×Int))(L:List It):mY bs (rs L)=qE bs:=rh _ _ (BY L)
def br(H:Hp)(q:Addr)(L:List It):Prop:=∃ps:List Addr,H q=some (.lst (ps.map V.ref))∧ps.length=L.length∧∀(i:Nat) (p:Addr) (y:It),ps[i]?=some p→L[i]?=some y→H p=some (.tup [.str y.sort,.str y.text])
theorem br.same{H H':Hp}{q:Addr}{L:List It}(s:au H H')(h:br H q L):br H' q L:=by
 obtain⟨ps,h1,h2,h3⟩:=h;exact⟨ps,s _ _ h1,h2,fun i p y e1 e2=>s _ _ (h3 i p y e1 e2)⟩
theorem br.at_{H:Hp}{q:Addr}{L:List It}(h:br H q L):∃ps:List Addr,H q=some (.lst (ps.map V.ref))∧ps.length=L.length∧∀i,(hi:i < L.length)→∃p,ps[i]?=some p∧H p=some (.tup [.str (L[i]).sort,.str (L[i]).text]):=by
 obtain⟨ps,h1,h2,h3⟩:=h;refine⟨ps,h1,h2,fun i hi=>⟨ps[i],ab3 (by omega),h3 i _ _ (ab3 (by omega)) (ab3 hi)⟩⟩
def vS:Option Nat→V
 | none=>.non
 | some k=>.int k
def yu(K:Frag):Sp:=fun vs' H Q _=>∃(q:Addr) (L:List It),vs'=[.ref q]∧br H q L∧L.length≤1000∧Q (vS (dN L 0 0 0)) H
def qb(K:Frag):Sp:=fun vs' H Q _=>∃(q:Addr) (L:List It),vs'=[.ref q]∧br H q L∧L.length≤100∧(∀b∈vs L,AL b)∧∀H',au H H'→Q (.int (qE (vs L))) H'
theorem w8{L:List It}{i v r:Nat}(hi:i < L.length):dN (L.drop i) i v r=match L[i]with | .x _=>some i | .v _=>if 0 < r∨v=4 then some i else dN (L.drop (i+1)) (i+1) (v+1) r | .r _=>if v=0∨r=12 then some i else dN (L.drop (i+1)) (i+1) v (r+1):=by
 rw [ah4 hi]
 cases L[i]<;>rfl
theorem DM:It.sort (.v b)=Str.ofString "voice":=rfl
theorem qB(L:List It)(y:It):vs (L++[y])=vs L++(match y with | .v b=>[b] | _=>[]):=by
 unfold vs;rw [List.filterMap_append]
 cases y<;>rfl
section
variable {P:Program} {w:World} {K:Frag} {mg:Str→Option Value} {base:Heap} {aM:Addr}
theorem Br{f:Addr}{fd:FuncData}(F:cC K "_law_due" "_law_due" jD f fd)(T:Txt mg aM):az P w K mg base bH 1 f fd ["_law_rows_here"] (yu K):=by
 refine F.ok sc_law_due (fun vs H Q E h=>?_) (fun cdv A outer s H vs Q E hr h=>?_)
 ·obtain⟨q,L,rfl,_⟩:=h
  rfl
 obtain⟨q,L,rfl,hq,hl,k⟩:=h
 refine⟨_,(ah (aB (i:=1) sc_law_due.nd rfl (Or.inl rfl) af)
 (ah (aB (i:=2) sc_law_due.nd rfl (Or.inl rfl) af)
 (ah (eA PassesOwn.never rfl (fb rfl T.n_range (aa (aw (bh K) (by rfl) T.n_len boot_len (aa (pr 0) ag)) ag)) (bq (i:=3) sc_law_due.nd rfl (Or.inl rfl))
 (ah (aZ (bD (aA pz (aO (bj K) (aO (bj K) (pr 0) (pr 3) (fun _ _=>rfl)) af (fun _ _=>rfl)) ax (aE _))) (ai (av (pr 3))) aF)
 (ai (aZ (bD (aA pz (aO (bj K) (aO (bj K) (pr 0) (pr 3) (fun _ _=>rfl)) af (fun _ _=>rfl)) ax (aE _))) (ah (aZ (PW.pt (bG (bD (aA (o0 uH) (pr 2) af (aE _))) (bI (bD (aA pz (pr 1) af (aE _)))))) (ai (av (pr 3))) aF)
 (ai (aB (i:=1) sc_law_due.nd rfl (Or.inl rfl) (ao (aX K) (pr 1) af)))) (ah (aZ (PW.pt (bG (bD (aA pz (pr 1) af (aE _))) (bI (bD (aA pz (pr 2) af (aE _)))))) (ai (av (pr 3))) aF)
 (ai (aB (i:=2) sc_law_due.nd rfl (Or.inl rfl) (ao (aX K) (pr 2) af))))))))
 (ai (av bg))))),?_⟩
 have hs:sizeLine=16777216:=sizeLine_eq;obtain⟨ps,h1,h2,h3⟩:=hq.at_
 have b1:¬Str.ofString "voice"=Str.ofString "bad":=by decide +kernel
 have b2:¬Str.ofString "rule"=Str.ofString "bad":=by decide +kernel
 have b3:¬Str.ofString "rule"=Str.ofString "voice":=by decide +kernel
 walk_at "rd";refine⟨_,.inl (aV.of h1),?_⟩;rw [aa0,h2];refine⟨by omega,by omega,?_⟩;rw [show((L.length:Int)).toNat=L.length from rfl];obtain⟨Pv,hPv⟩:∃Pv:Nat→L2.St→Hp→Prop,Pv=fun i σ H'=>∃(v r:Nat) (o3:Option V),dN L 0 0 0=dN (L.drop i) i v r∧σ=[some (.ref q),some (.int v),some (.int r),o3]∧H=H':=⟨_,rfl⟩;refine dw Pv (by rw [hPv];exact⟨0,0,none,rfl,rfl,rfl⟩) ?_ ?_
 ·rintro i σ H1 hi hI
  rw [hPv]at hI;obtain⟨v,r,o3,hd,rfl,rfl⟩:=hI;rw [w8 hi]at hd;obtain⟨p,hp1,hp2⟩:=h3 i hi;have ix:eF (ps.map V.ref) ((i:Nat):Int)=some (.ref p):=aW (by rw [ac2,hp1];rfl);generalize L[i]=y at hd hp2;walk_at "rd";refine ba (aV.of h1) ix (oa (dI.of hp2) (bt rfl) ?_)
  cases y with
  | x t=>
   have k:Q (.int i) H:=by rw [hd]at k;exact k
   simp only [It.sort];walk_at "rd";exact k
  | v b=>
   have hd:dN L 0 0 0=if 0 < r∨v=4 then some i else dN (L.drop (i+1)) (i+1) (v+1) r:=hd;simp only [It.sort];walk_at "rd";rw [if_neg b1];refine ba (aV.of h1) ix (oa (dI.of hp2) (bt rfl) ?_);simp only [It.sort];walk_at "rd"
   by_cases c1:0 < r
   ·rw [if_pos (by omega)]
    rw [hd,if_pos (.inl c1)]at k;exact k
   rw [if_neg (by omega)]
   by_cases c2:v=4
   ·rw [if_pos (by omega)]
    rw [hd,if_pos (.inr c2)]at k;exact k
   rw [if_neg (by omega)];rw [hPv];exact⟨v+1,r,_,by rw [hd];exact if_neg (by omega),rfl,rfl⟩
  | r t=>
   have hd:dN L 0 0 0=if v=0∨r=12 then some i else dN (L.drop (i+1)) (i+1) v (r+1):=hd;simp only [It.sort];walk_at "rd";rw [if_neg b2];refine ba (aV.of h1) ix (oa (dI.of hp2) (bt rfl) ?_);simp only [It.sort];walk_at "rd";rw [if_neg b3]
   by_cases c1:v=0
   ·rw [if_pos (by omega)]
    rw [hd,if_pos (.inl c1)]at k;exact k
   rw [if_neg (by omega)]
   by_cases c2:r=12
   ·rw [if_pos (by omega)]
    rw [hd,if_pos (.inr c2)]at k;exact k
   rw [if_neg (by omega)];rw [hPv];exact⟨v,r+1,_,by rw [hd];exact if_neg (by omega),rfl,rfl⟩
 ·intro σ H1 hI
  rw [hPv]at hI;obtain⟨v,r,o3,hd,rfl,rfl⟩:=hI;walk_at "rd";rw [hd,ak5]at k;exact k
theorem xT{f:Addr}{fd:FuncData}(F:cC K "_law_heavy" "_law_heavy" gi f fd)(T:Txt mg aM):az P w K mg base bH 1 f fd ["_law_rows_here"] (qb K):=by
 refine F.ok sc_law_heavy (fun vs H Q E h=>?_) (fun cdv A outer s H vs Q E hr h=>?_)
 ·obtain⟨q,L,rfl,_⟩:=h
  rfl
 obtain⟨q,L,rfl,hq,hl,hok,k⟩:=h
 refine⟨_,(ah (aB (i:=1) sc_law_heavy.nd rfl (Or.inl rfl) af)
 (ah (eA PassesOwn.never rfl (cU K (pr 0)) (gL K (n:=2) rfl (cv (bq (i:=2) sc_law_heavy.nd rfl (Or.inl rfl)) (cv (bq (i:=3) sc_law_heavy.nd rfl (Or.inl rfl)) gM)))
 (ai (aZ (bD (aA pz (pr 2) ax (aE _))) (ai (aB (i:=1) sc_law_heavy.nd rfl (Or.inl rfl) (ao (f9 K) (pr 1) (ao (aX K) (ao (o0 gb) (aQ (du) (by rfl) T.n_int boot_int (aa (aO (bj K) (bX K PySem.F.plainAttrs_str PySem.F.slot_str_split PySem.F.type_str_split e6 (pr 3) (aa ax ag)) af (fun _ _=>rfl)) ag)) (aQ (du) (by rfl) T.n_int boot_int (aa (aO (bj K) (bX K PySem.F.plainAttrs_str PySem.F.slot_str_split PySem.F.type_str_split e6 (pr 3) (aa ax ag)) af (fun _ _=>rfl)) ag))) af)))) aF)))
 (ai (av (pr 1))))),?_⟩
 have hs:sizeLine=16777216:=sizeLine_eq;obtain⟨ps,h1,h2,h3⟩:=hq.at_;walk_at "rd";obtain⟨Pv,hPv⟩:∃Pv:Nat→L2.St→Hp→Prop,Pv=fun i σ H'=>∃o2 o3:Option V,σ=[some (.ref q),some (.int (qE (vs (L.take i)))),o2,o3]∧au H H':=⟨_,rfl⟩;refine cW (aV.of h1) (gJ (xs:=ps.map V.ref) Pv (by rw [hPv];exact⟨none,none,rfl,au.refl _⟩) (fun i σ H' _ z=>by rw [hPv]at z;obtain⟨_,_,_,z⟩:=z;exact z.seq (aV.of h1)) ?_ ?_)
 ·rintro i y σ H1 hy hI
  rw [hPv]at hI;obtain⟨o2,o3,rfl,s1⟩:=hI
  have hi:i < L.length:=by have:=(aa4.mp hy).1;rw [aa0]at this;omega
  obtain⟨p,hp1,hp2⟩:=h3 i hi;rw [ac2,hp1]at hy;cases hy
  have e:L.take (i+1)=L.take i++[L[i]]:=by rw [ac8,ab3 hi];rfl
  have hmem:=ai3 hi
  have hsub:∀b∈vs (L.take i),AL b:=fun b hb=>hok b (by
   obtain⟨y,hy,e⟩:=ae8.mp hb
   exact ae8.mpr ⟨y,ai8 hy,e⟩)
  have hvl:(vs (L.take i)).length≤100:=aa9 (List.length_filterMap_le _ _) (by rw [ac5];omega);have e2:=congrArg vs e;rw [qB]at e2;generalize L[i]=y at hp2 hmem e2;walk_at "rd";refine⟨_,dI.of (s1 _ _ hp2),rfl,?_⟩
  cases y with
  | x t=>
   simp only [It.sort,It.text];walk_at "rd";rw [if_neg (by decide +kernel)];rw [hPv];exact⟨_,_,by rw [e2,ae0],s1⟩
  | r t=>
   simp only [It.sort,It.text];walk_at "rd";rw [if_neg (by decide +kernel)];rw [hPv];exact⟨_,_,by rw [e2,ae0],s1⟩
  | v b=>
   have hb:AL b:=hok b (ae8.mpr ⟨_,hmem,rfl⟩);simp only [It.sort,It.text];walk_at "rd";have hvw:=fO b;have hlen:=gw hb.2.1 hb.2.2;have i1:=fi (eJ hb.2.1);have i2:=fi (eJ hb.2.2);rw [cu hb.2.1]at i1;rw [cu hb.2.2]at i2
   have ew:qE (vs (L.take i)++[b])=qE (vs (L.take i)) * (b.2 - b.1+1):=by
    unfold qE;rw [ai1];rfl
   refine⟨32,by decide +kernel,by decide,by omega,fun t1 ht1=>?_⟩;rw [show Txt.split (d7 b) ⟨#[32]⟩=_ from hvw];refine ba (aV.of ae) (show eF _ ((2:Nat):Int)=_ from aW rfl) (.inl ⟨_,rfl,_,i2.1,i2.2,32,by decide +kernel,by decide,by omega,fun t2 ht2=>?_⟩);rw [show Txt.split (d7 b) ⟨#[32]⟩=_ from hvw];refine ba (aV.of ae) (show eF _ ((1:Nat):Int)=_ from aW rfl) (.inl ⟨_,rfl,_,i1.1,i1.2,?_,?_⟩)
   ·have hw:=qC hb.2
    have ht:=ua (bs:=vs (L.take i)) fun b hb=>qC (hsub b hb).2;exact s9 ht hw (by omega)
   ·rw [hPv]
    exact⟨_,_,by rw [e2,ew],(s1.upd ht1).upd ht2⟩
 ·intro σ H1 hI
  rw [hPv]at hI;obtain⟨o2,o3,rfl,s1⟩:=hI;walk_at "rd";rw [h2,ad4];exact k _ s1
end
theorem ki:bootBuiltins "ValueError"=some (.type "ValueError"):=PyProof.Rows.Boot.«ValueError»
structure AX(mg:Str→Option Value)(aM:Addr)(K:Frag)(C cS cR c1 c2 c3 c4 c5 c6 c7 c8 c9 cA cB:Addr):Prop extends Txt mg aM where
 c_ScoreError:∃u,mg "ScoreError"=some u∧aN (.ref cS) u
 c_BadRow:∃u,mg "BadRow"=some u∧aN (.ref C) u
 c_Rule:∃u,mg "Rule"=some u∧aN (.ref cR) u
 c_BadLine:∃u,mg "BadLine"=some u∧aN (.ref c1) u
 c_TooWide:∃u,mg "TooWide"=some u∧aN (.ref c2) u
 c_Crowded:∃u,mg "Crowded"=some u∧aN (.ref c3) u
 c_Unfit:∃u,mg "Unfit"=some u∧aN (.ref c4) u
 c_Apart:∃u,mg "Apart"=some u∧aN (.ref c5) u
 c_Endless:∃u,mg "Endless"=some u∧aN (.ref c6) u
 c_NoLine:∃u,mg "NoLine"=some u∧aN (.ref c7) u
 c_NoName:∃u,mg "NoName"=some u∧aN (.ref c8) u
 c_NoNumber:∃u,mg "NoNumber"=some u∧aN (.ref c9) u
 c_NoRow:∃u,mg "NoRow"=some u∧aN (.ref cA) u
 c_Unlike:∃u,mg "Unlike"=some u∧aN (.ref cB) u
 x_BadRow:exmOne K (.ref C) (.ref C)=some true
 x_BadTW:exmOne K (.ref c2) (.ref C)=some false
 x_TooWide:exmOne K (.ref c2) (.ref c2)=some true
 kS:kitOne K (.ref C) (.ref cS)=some true
 kV:kitOne K (.ref C) (.type "ValueError")=some true
 k1:kitOne K (.ref C) (.ref c1)=some false
 k2:kitOne K (.ref C) (.ref c2)=some false
 k3:kitOne K (.ref C) (.ref c3)=some false
 k4:kitOne K (.ref C) (.ref c4)=some false
 k5:kitOne K (.ref C) (.ref c5)=some false
 k6:kitOne K (.ref C) (.ref c6)=some false
 k7:kitOne K (.ref C) (.ref c7)=some false
 k8:kitOne K (.ref C) (.ref c8)=some false
 k9:kitOne K (.ref C) (.ref c9)=some false
 kA:kitOne K (.ref C) (.ref cA)=some false
 kB:kitOne K (.ref C) (.ref cB)=some false
def jO(C:Addr):Sp:=fun vs H Q _=>∃(a d:Addr) (pl q:Int),vs=[.ref a,.int q]∧mZ C pl H a d∧∀H',au H H'→Q (.bl (decide (pl=q))) H'
section
variable {P:Program} {w:World} {K:Frag} {mg:Str→Option Value} {base:Heap} {aM:Addr}
theorem tD{f C cS cR c1 c2 c3 c4 c5 c6 c7 c8 c9 cA cB:Addr}{fd:FuncData}(F:cC K "_law_refusal" "_law_refusal" eV f fd)(T:AX mg aM K C cS cR c1 c2 c3 c4 c5 c6 c7 c8 c9 cA cB)(DE_BadRow:jd P w K mg base "BadRow" C 8 ["self","row"] (ko C "row") zF):az P w K mg base bH 9 f fd ["_law_e","_law_row"] (jO C):=by
 refine F.ok sc_law_refusal (fun vs H Q E h=>?_) (fun cdv A outer s H vs Q E hr h=>?_)
 ·obtain⟨a,d,pl,q,rfl,_⟩:=h
  rfl
 obtain⟨a,d,pl,q,rfl,⟨ha,hd⟩,k⟩:=h
 refine⟨_,(ah (aZ (PW.pt (bG (aY (aD (aw (bS K DE_BadRow (by decide +kernel) (by decide +kernel) (by decide +kernel)) (by rfl) T.n_isinstance boot_isinstance (aa (pr 0) (aa (eU T.c_ScoreError) ag))) (fun _=>rfl))) (bI (aY (aD (aw (bS K DE_BadRow (by decide +kernel) (by decide +kernel) (by decide +kernel)) (by rfl) T.n_isinstance boot_isinstance (aa (pr 0) (aa (pN (v:=.ty "ValueError") (by rfl) T.n_ValueError ki rfl) ag))) (fun _=>rfl)))))) (ai (av lV)) aF)
 (ah (aB (i:=2) sc_law_refusal.nd rfl (Or.inl rfl) (bN (aa (aw (bS K DE_BadRow (by decide +kernel) (by decide +kernel) (by decide +kernel)) (by rfl) T.n_isinstance boot_isinstance (aa (pr 0) (aa (eU T.c_BadLine) ag))) (aa (aw (bS K DE_BadRow (by decide +kernel) (by decide +kernel) (by decide +kernel)) (by rfl) T.n_isinstance boot_isinstance (aa (pr 0) (aa (eU T.c_TooWide) ag))) (aa (aw (bS K DE_BadRow (by decide +kernel) (by decide +kernel) (by decide +kernel)) (by rfl) T.n_isinstance boot_isinstance (aa (pr 0) (aa (eU T.c_Crowded) ag))) (aa (aw (bS K DE_BadRow (by decide +kernel) (by decide +kernel) (by decide +kernel)) (by rfl) T.n_isinstance boot_isinstance (aa (pr 0) (aa (eU T.c_Unfit) ag))) ag))))))
 (ah (aB (i:=2) sc_law_refusal.nd rfl (Or.inl rfl) (ao (aX K) (pr 2) (bN (aa (aw (bS K DE_BadRow (by decide +kernel) (by decide +kernel) (by decide +kernel)) (by rfl) T.n_isinstance boot_isinstance (aa (pr 0) (aa (eU T.c_Apart) ag))) (aa (aw (bS K DE_BadRow (by decide +kernel) (by decide +kernel) (by decide +kernel)) (by rfl) T.n_isinstance boot_isinstance (aa (pr 0) (aa (eU T.c_Endless) ag))) (aa (aw (bS K DE_BadRow (by decide +kernel) (by decide +kernel) (by decide +kernel)) (by rfl) T.n_isinstance boot_isinstance (aa (pr 0) (aa (eU T.c_NoLine) ag))) (aa (aw (bS K DE_BadRow (by decide +kernel) (by decide +kernel) (by decide +kernel)) (by rfl) T.n_isinstance boot_isinstance (aa (pr 0) (aa (eU T.c_NoName) ag))) ag)))))))
 (ah (aZ (aD (aw (va K rfl) (by rfl) T.n_any boot_any (aa (ao (aX K) (pr 2) (bN (aa (aw (bS K DE_BadRow (by decide +kernel) (by decide +kernel) (by decide +kernel)) (by rfl) T.n_isinstance boot_isinstance (aa (pr 0) (aa (eU T.c_NoNumber) ag))) (aa (aw (bS K DE_BadRow (by decide +kernel) (by decide +kernel) (by decide +kernel)) (by rfl) T.n_isinstance boot_isinstance (aa (pr 0) (aa (eU T.c_NoRow) ag))) (aa (aw (bS K DE_BadRow (by decide +kernel) (by decide +kernel) (by decide +kernel)) (by rfl) T.n_isinstance boot_isinstance (aa (pr 0) (aa (eU T.c_Unlike) ag))) ag))))) ag)) (fun _=>rfl)) (ai (av lV)) aF)
 (ai (av (uK (pM (aw (iL K) (by rfl) T.n_isinstance boot_isinstance (aa (kH DE_BadRow (by decide +kernel) (by decide +kernel) (by decide +kernel) kC (pr 0) rfl) (aa (pN (v:=.ty "int") (by rfl) T.n_int boot_int rfl) ag))) (uK (pM (CZ (BA (aw (iL K) (by rfl) T.n_isinstance boot_isinstance (aa (kH DE_BadRow (by decide +kernel) (by decide +kernel) (by decide +kernel) kC (pr 0) rfl) (aa (pN (v:=.ty "bool") (by rfl) T.n_bool boot_bool rfl) ag))))) (pO (eK pz (kH DE_BadRow (by decide +kernel) (by decide +kernel) (by decide +kernel) kC (pr 0) rfl) (pr 1) (aE _))))))))))))),?_⟩
 have hs:sizeLine=16777216:=sizeLine_eq;have isi:∀{c:Addr} {b:Bool} {H':Hp} {Q':VK},au H H'→kitOne K (.ref C) (.ref c)=some b→Q' (.bl b) H'→BL K C [.ref a,.ref c] H' Q':=fun {c b H' Q'} s e q=>⟨a,d,_,_,_,rfl,s _ _ ha,rfl,fun u' h=>h,e,q⟩;refine bu (fun σ H'=>σ=[some (.ref a),some (.int q),none]∧H=H') ?_ ?_
 ·intro u' hu
  walk_at "rd";refine isi (au.refl H) T.kS ?_;walk_at "rd";refine⟨a,d,_,_,_,rfl,ha,rfl,fun u' h=>h,T.kV,true,TruV_b.mpr rfl,?_⟩;rw [if_neg (show ¬(true=false)from fun z=>by cases z)];exact hu _ _ ⟨rfl,rfl⟩
 rintro _ _ ⟨rfl,rfl⟩;refine bu (fun σ H'=>∃p:Addr,H' p=some (.lst ((List.replicate 4 false).map V.bl))∧σ=[some (.ref a),some (.int q),some (.ref p)]∧au H H') ?_ ?_
 ·intro u' hu
  walk_at "rd";exact isi (au.refl H) T.k1 (isi (au.refl H) T.k2 (isi (au.refl H) T.k3 (isi (au.refl H) T.k4 ⟨by omega,fun p hp=>hu _ _ ⟨p,ae,rfl,ar hp⟩⟩)))
 rintro _ H1 ⟨p,hp,rfl,s1⟩;refine bu (fun σ H'=>∃p:Addr,H' p=some (.lst ((List.replicate 8 false).map V.bl))∧σ=[some (.ref a),some (.int q),some (.ref p)]∧au H H') ?_ ?_
 ·intro u' hu
  walk_at "rd";refine isi s1 T.k5 (isi s1 T.k6 (isi s1 T.k7 (isi s1 T.k8 ⟨by omega,fun p1 hp1=>?_⟩)));refine lZ ((ar hp1) _ _ hp) ae (by simp;omega) fun p2 hp2=>?_;exact hu _ _ ⟨p2,ae,rfl,(s1.upd hp1).upd hp2⟩
 rintro _ H2 ⟨p2,hp2,rfl,s2⟩;refine bu (fun σ H'=>σ=[some (.ref a),some (.int q),some (.ref p2)]∧au H H') ?_ ?_
 ·intro u' hu
  walk_at "rd";refine isi s2 T.k9 (isi s2 T.kA (isi s2 T.kB ⟨by omega,fun p1 hp1=>?_⟩));refine lZ ((ar hp1) _ _ hp2) ae (by simp;omega) fun p3 hp3=>?_;refine⟨p3,rfl,List.replicate 11 false,aV.of ae,?_⟩;rw [if_neg (by decide)];exact hu _ _ ⟨rfl,(s2.upd hp1).upd hp3⟩
 rintro _ H3 ⟨rfl,s3⟩;walk_at "rd";have fld:∀{Q':VK},Q' (.int pl) H3→yy C (Ao 0) (Str.ofString "row") [some (.ref a),some (.int q),some (.ref p2)] H3 Q':=fun {Q'} q'=>⟨a,d,_,_,rfl,s3 _ _ ha,s3 _ _ hd,by simp [List.lookup],q'⟩;refine fld ⟨_,.int _,true,rfl,?_⟩;rw [if_pos rfl];refine fld ⟨_,.int _,false,rfl,?_⟩;rw [if_pos rfl];exact fld (rEq_ii.mpr (k _ s3))
end
def qf(P:Program)(w:World)(K:Frag)(mg:Str→Option Value)(base:Heap)(aM CR:Addr):Sp:=fun vs' H Q _=>∃(q:Addr) (L:List It) (m:Nat) (D:List (Str×V)),vs'=[.ref q]∧br H q L∧Gd m 0 L∧L.length≤60∧g8 K aM D∧fT P w K mg base CR D∧∀H',au H H'→Q (.bl true) H'
theorem AK:Str.ofString "\n"=⟨#[10]⟩:=by decide +kernel
def cO(L:List It):Str:=Txt.join (Str.ofString "\n") (L.map It.text)
def hU(L:List It):Option Nat:=if cO L=Str.ofString "" then some 0 else dN L 0 0 0
theorem ml{L:List It}{m:Nat}(g:Gd m 0 L)(h:L≠[]):Txt.split (cO L) ⟨#[10]⟩=L.map It.text:=by
 unfold cO;rw [AK];refine cy ?_;rw [bR _ (by decide),hZ,i8 10 _ (by simpa using h) (fun p hp=>?_)];obtain⟨z,hz,rfl⟩:=ac4.mp hp;obtain⟨y,hy,rfl⟩:=ac4.mp hz;exact(g.all y hy).2
theorem tO(r:Str)(rows:List Str):mX r=none→dn (r::rows) 0 [] []=.inl 0:=fun h=>by
 unfold dn;rw [show dq r [] []=none by unfold dq;rw [h];exact if_pos (.inl rfl)]
theorem Au:mX (Str.ofString "")=none:=yL (by decide +kernel)
theorem vZ{L:List It}{m:Nat}(g:Gd m 0 L):dn (Txt.split (cO L) ⟨#[10]⟩) 0 [] []=match hU L with | some j=>.inl j | none=>.inr (vs L,rs L):=by
 unfold hU
 by_cases ht:cO L=Str.ofString ""
 ·rw [if_pos ht,ht,show Txt.split (Str.ofString "") ⟨#[10]⟩=[Str.ofString ""]from cy (by rw [bR _ (by decide)];decide +kernel)]
  exact tO _ _ Au
 ·rw [if_neg ht]
  have hL:L≠[]:=fun e=>ht (by subst e;rfl);rw [ml g hL,l3 L 0 0 0 [] [] g rfl rfl (by decide) (by decide)]
  cases dN L 0 0 0<;>rfl
theorem Ad{L:List It}{m:Nat}(g:Gd m 0 L):∀r∈Txt.split (cO L) ⟨#[10]⟩,r.length≤9000:=by
 by_cases hL:L=[]
 ·subst hL
  intro r hr
  have:=u6 (c:=10) (by decide) hr
  exact aa9 this (by decide +kernel)
 ·rw [ml g hL]
  intro r hr;obtain⟨y,hy,rfl⟩:=ac4.mp hr;exact(g.all y hy).1
theorem yB{L:List It}{m:Nat}(g:Gd m 0 L)(hl:L.length≤60):((L.map It.text).map (fun x=>x.length)).sum+(L.map It.text).length * (Str.ofString "\n").length≤16777216∧(cO L).length≤1000000:=by
 have h:=lF (n:=10) (m:=9000) (z:=Str.ofString "\n") (ys:=L.map It.text) AK (fun y hy=>by
  obtain⟨x,hx,rfl⟩:=ac4.mp hy
  exact(g.all x hx).1)
 have e:(L.map It.text).length≤60:=by rw [aa0];exact hl
 have e2:=Nat.mul_le_mul_right 9001 e;unfold cO;omega
section
variable {P:Program} {w:World} {K:Frag} {mg:Str→Option Value} {base:Heap} {aM:Addr}
theorem xU{f Cs C cS cR c1 c2 c3 c4 c5 c6 c7 c8 c9 cA cB:Addr}{fd:FuncData}(F:cC K "_law_right" "_law_right" gj f fd)(T:AX mg aM K C cS cR c1 c2 c3 c4 c5 c6 c7 c8 c9 cA cB)(TC:ee K Cs)(D_law_due:cn P w K mg base "_law_due" 11 ["_law_rows_here"] (yu K))(D_law_heavy:cn P w K mg base "_law_heavy" 11 ["_law_rows_here"] (qb K))(D_law_refusal:cn P w K mg base "_law_refusal" 11 ["_law_e","_law_row"] (jO C))(D_shown:cn P w K mg base "shown" 11 ["score"] (mf P w K mg base cR))
  (DX_read:je P w K mg base "read" 11 ["text"] (qe P w K mg base aM cR Cs C c2)) (DE_TooWide:jd P w K mg base "TooWide" c2 7 ["self","weight"] (ko c2 "weight") Bq):az P w K mg base bH 12 f fd ["_law_rows_here"] (qf P w K mg base aM cR):=by
 refine F.ok sc_law_right (fun vs H Q E h=>?_) (fun cdv A outer s H vs Q E hr h=>?_)
 ·obtain⟨q,L,m,D,rfl,_⟩:=h
  rfl
 obtain⟨q,L,m,D,rfl,hq,g,hl,tab,M,k⟩:=h
 refine⟨_,(ah (aB (i:=1) sc_law_right.nd rfl (Or.inl rfl) (bX K PySem.F.plainAttrs_str PySem.F.slot_str_join PySem.F.type_str_join (lH K) ax (aa (fm (own:=["_law_sort","_law_row"]) (js:=[]) rfl (cU K (pr 0)) (bU.of (by rfl)) (fun _ _ _ _ _=>(gL K (n:=2) rfl (cv (bq (i:=0) (show List.Nodup (["_law_sort","_law_row"]:List Str)from by decide +kernel) rfl (Or.inl rfl)) (cv (bq (i:=1) (show List.Nodup (["_law_sort","_law_row"]:List Str)from by decide +kernel) rfl (Or.inl rfl)) gM)))) (fun _ _ _ _ _=>eL) (fun _ _ _ _ _=>(pr 1))) ag)))
 (ah (aB (i:=2) sc_law_right.nd rfl (Or.inl rfl) (aJ D_law_due hr (by rfl) (aa (pr 0) ag)))
 (ah (aZ (bD (aA (vL K (A7 hr)) (pr 1) ax (aE _))) (ai (aB (i:=2) sc_law_right.nd rfl (Or.inl rfl) af)) aF)
 (ah (aB (i:=3) sc_law_right.nd rfl (Or.inl rfl) bg)
 (ah (aB (i:=4) sc_law_right.nd rfl (Or.inl rfl) bg)
 (ah (aB (i:=5) sc_law_right.nd rfl (Or.inl rfl) bg)
 (ah (zW rfl rfl (BJ (iv:=3) sc_law_right.nd rfl (Or.inl rfl) (Or.inl rfl) (zX DX_read hr (by rfl) (aa (pr 1) ag))) (uL (ie:=6) K (by rfl) T.c_BadRow sc_law_right.nd rfl rfl (fun _=>(ai (aB (i:=4) sc_law_right.nd rfl (Or.inl rfl) (pr 6)))) (uL (ie:=6) K (by rfl) T.c_TooWide sc_law_right.nd rfl rfl (fun _=>(ai (aB (i:=5) sc_law_right.nd rfl (Or.inl rfl) (kH DE_TooWide (by decide +kernel) (by decide +kernel) (by decide +kernel) lG (pr 6) rfl)))) BE)))
 (ah (aZ (bD (aA kG (pr 2) bg (aE _))) (ai (av (uK (pM (eK kG (pr 4) bg (aE _)) (pO (aJ D_law_refusal hr (by rfl) (aa (pr 4) (aa (pr 2) ag)))))))) aF)
 (ah (aZ (bD (aA kG (pr 4) bg (aE _))) (ai (av lV)) aF)
 (ah (aZ (bD (aA (o0 uH) (aJ D_law_heavy hr (by rfl) (aa (pr 0) ag)) af (aE _))) (ai (av (eK (vL K (A7 hr)) (pr 5) (aJ D_law_heavy hr (by rfl) (aa (pr 0) ag)) (aE _)))) aF)
 (ai (av (uK (pM (eK tI (pr 5) bg (aE _)) (pO (eK (vL K (A7 hr)) (aJ D_shown hr (by rfl) (aa (pr 3) ag)) (pr 1) (aE _))))))))))))))))),?_⟩
 have hs:sizeLine=16777216:=sizeLine_eq;have tlen:=yB g hl;refine bu (fun σ H'=>σ=[some (.ref q),some (.str (cO L)),none,none,none,none,none]∧au H H') ?_ ?_
 ·intro u' hu
  obtain⟨ps,h1,h2,h3⟩:=hq.at_;walk_at "rd";refine cW (aV.of h1) (cX (xs:=ps.map V.ref) (fun i ys H'=>ys=((L.map It.text).take i).map V.str∧H=H') (by rw [aa0];omega) ⟨rfl,rfl⟩ ?_ ?_ ?_ ?_)
  ·rintro i ys H' ⟨rfl,rfl⟩
   rw [aa0,ac5];omega
  ·rintro i ys H' ⟨rfl,rfl⟩
   exact aV.of h1
  ·rintro i y ys H' hy ⟨rfl,rfl⟩
   have hi:i < L.length:=by have:=(aa4.mp hy).1;rw [aa0]at this;omega
   obtain⟨p,hp1,hp2⟩:=h3 i hi;rw [ac2,hp1]at hy;cases hy;walk_at "rd";refine⟨_,dI.of hp2,rfl,?_⟩;walk_at "rd";rw [ac8,ac2,ab3 hi,ab8];rfl
  ·rintro ys H' ⟨rfl,rfl⟩ p hp
   rw [aa0,h2,show L.length=(L.map It.text).length from(aa0 _).symm,ad4];walk_at "rd";exact⟨_,aV.of ae,tlen.1,hu _ _ ⟨rfl,ar hp⟩⟩
 rintro _ H1 ⟨rfl,s1⟩;refine bu (fun σ H'=>σ=[some (.ref q),some (.str (cO L)),some (vS (dN L 0 0 0)),none,none,none,none]∧H1=H') ?_ ?_
 ·intro u' hu
  walk_at "rd";exact⟨q,L,rfl,hq.same s1,by omega,hu _ _ ⟨rfl,rfl⟩⟩
 rintro _ _ ⟨rfl,rfl⟩;refine bu (fun σ H'=>σ=[some (.ref q),some (.str (cO L)),some (vS (hU L)),none,none,none,none]∧H1=H') ?_ ?_
 ·intro u' hu
  walk_at "rd"
  by_cases c:cO L=Str.ofString ""
  ·rw [if_pos c]
   exact hu _ _ ⟨by rw [show hU L=some 0 from if_pos c];rfl,rfl⟩
  ·rw [if_neg c]
   exact hu _ _ ⟨by rw [show hU L=dN L 0 0 0 from if_neg c],rfl⟩
 rintro _ _ ⟨rfl,rfl⟩;refine bu (fun σ H'=>σ=[some (.ref q),some (.str (cO L)),some (vS (hU L)),some .non,none,none,none]∧H1=H') ?_ ?_
 ·intro u' hu
  walk_at "rd";exact hu _ _ ⟨rfl,rfl⟩
 rintro _ _ ⟨rfl,rfl⟩;refine bu (fun σ H'=>σ=[some (.ref q),some (.str (cO L)),some (vS (hU L)),some .non,some .non,none,none]∧H1=H') ?_ ?_
 ·intro u' hu
  walk_at "rd";exact hu _ _ ⟨rfl,rfl⟩
 rintro _ _ ⟨rfl,rfl⟩;refine bu (fun σ H'=>σ=[some (.ref q),some (.str (cO L)),some (vS (hU L)),some .non,some .non,some .non,none]∧H1=H') ?_ ?_
 ·intro u' hu
  walk_at "rd";exact hu _ _ ⟨rfl,rfl⟩
 rintro _ _ ⟨rfl,rfl⟩;have hG:=vZ g
 refine Cy (fun σ H'=>au H H'∧((∃j e d,hU L=some j∧mZ C (j:Nat) H' e d∧σ=[some (.ref q),some (.str (cO L)),some (.int j),some .non,some (.ref e),some .non,none])∨
   (hU L=none∧uf (vs L) (rs L)∧qE (vs L)≤400∧∃x,d3 P w K mg base cR Cs (vs L) (rs L) x H'∧σ=[some (.ref q),some (.str (cO L)),some .non,some (.ref x),some .non,some .non,none])∨
   (hU L=none∧400 < qE (vs L)∧σ=[some (.ref q),some (.str (cO L)),some .non,some .non,some .non,some (.int (qE (vs L))),none]))) ?_ ?_
 rotate_left
 ·intro u' hu
  simp only [jT,AS,Dh,uc,AQ,u0];walk_at "rd";simp only [uv];refine⟨cO L,D,rfl,tlen.2,Ad g,tab,M,fun j hj a d H' hb s'=>⟨C,a,rfl,d,hb.1,true,T.x_BadRow,?_⟩,fun bs Rs hbs hsm=>?_⟩
  ·rw [if_pos rfl]
   have hj':hU L=some j:=by
    rw [hG]at hj
    cases e:hU L with
    | none=>rw [e]at hj;cases hj
    | some i=>rw [e]at hj;cases hj;rfl
   rw [hj'];exact hu _ _ ⟨s1.trans s',.inl ⟨j,a,d,hj',hb,rfl⟩⟩
  ·rw [hG]at hbs
   cases e:hU L with
   | some i=>rw [e]at hbs;cases hbs
   | none=>
    rw [e]at hbs;cases hbs;rw [Dg];refine⟨fun h x H' S s'=>hu _ _ ⟨s1.trans s',.inr (.inl ⟨e,hsm,h,x,S,rfl⟩)⟩,fun h a d H' hw s'=>⟨c2,a,rfl,d,hw.1,false,T.x_BadTW,?_⟩⟩;rw [if_neg aa1];refine⟨true,T.x_TooWide,?_⟩;rw [if_pos rfl];exact⟨a,d,_,.int (qE (vs L)),rfl,hw.1,hw.2,by simp [List.lookup],hu _ _ ⟨s1.trans s',.inr (.inr ⟨e,h,rfl⟩)⟩⟩
 rintro _ H2 ⟨s2,(⟨j,e,d,hj,hb,rfl⟩ | ⟨hn,hsm,hw,x,S,rfl⟩ | ⟨hn,hw,rfl⟩)⟩
 ·walk_at "rd"
  exact⟨e,d,j,j,rfl,hb,fun H' s'=>by rw [decide_eq_true rfl];exact k _ (s2.trans s')⟩
 ·walk_at "rd"
  refine⟨q,L,rfl,hq.same s2,by omega,g.voices,fun H3 s3=>⟨_,rfl,?_⟩⟩;rw [if_neg (by omega)];refine⟨x,Cs,vs L,rs L,rfl,TC,S.same s3,hsm.1,hsm.2.1,fun b hb=>(hsm.2.2.1 b hb).2,fun R hR=>aa9 (hsm.2.2.2 R hR).2 (by decide),fun H4 s4=>rEqC_ss.mpr ?_⟩
  have hd:dN L 0 0 0=none:=by
   unfold hU at hn
   split at hn
   ·cases hn
   ·exact hn
  rw [decide_eq_true (show tZ (vs L) (rs L)=cO L by unfold tZ cO ft;rw [(kW L 0 0 0 hd).2.1])];exact k _ ((s2.trans s3).trans s4)
 ·walk_at "rd"
  refine⟨q,L,rfl,hq.same s2,by omega,g.voices,fun H3 s3=>⟨_,rfl,?_⟩⟩;rw [if_pos (by omega)];refine⟨q,L,rfl,hq.same (s2.trans s3),by omega,g.voices,fun H4 s4=>rEqC_ii.mpr ?_⟩;rw [decide_eq_true rfl];exact k _ ((s2.trans s3).trans s4)
end
def fP(H:Hp):List Addr→List It→Prop
 | [],[]=>True
 | p::ps,y::L=>H p=some (.tup [.str y.sort,.str y.text])∧fP H ps L
 | _,_=>False
theorem fP.mono{H H':Hp}:∀{ps:List Addr} {L:List It},(∀p vs,H p=some (.tup vs)→H' p=some (.tup vs))→fP H ps L→fP H' ps L
 | [],[],_,_=>trivial
 | p::ps,y::L,s,h=>⟨s _ _ h.1,fP.mono s h.2⟩
 | [],_::_,_,h=>h.elim
 | _::_,[],_,h=>h.elim
theorem fP.len{H:Hp}:∀{ps:List Addr} {L:List It},fP H ps L→ps.length=L.length
 | [],[],_=>rfl
 | p::ps,y::L,h=>by rw [aa6,aa6,fP.len h.2]
 | [],_::_,h=>h.elim
 | _::_,[],h=>h.elim
theorem fP.app{H:Hp}{qs:List Addr}{M:List It}(g:fP H qs M):∀{ps:List Addr} {L:List It},fP H ps L→fP H (ps++qs) (L++M)
 | [],[],_=>g
 | p::ps,y::L,h=>⟨h.1,fP.app g h.2⟩
 | [],_::_,h=>h.elim
 | _::_,[],h=>h.elim
theorem fP.take{H:Hp}:∀{ps:List Addr} {L:List It} (k:Nat),fP H ps L→fP H (ps.take k) (L.take k)
 | [],[],k,_=>by simp;trivial
 | p::ps,y::L,0,h=>trivial
 | p::ps,y::L,k+1,h=>⟨h.1,fP.take k h.2⟩
 | [],_::_,_,h=>h.elim
 | _::_,[],_,h=>h.elim
theorem fP.drop{H:Hp}:∀{ps:List Addr} {L:List It} (k:Nat),fP H ps L→fP H (ps.drop k) (L.drop k)
 | [],[],k,_=>by simp;trivial
 | p::ps,y::L,0,h=>h
 | p::ps,y::L,k+1,h=>fP.drop k h.2
 | [],_::_,_,h=>h.elim
 | _::_,[],_,h=>h.elim
theorem fP.rows{H:Hp}{q:Addr}:∀{ps:List Addr} {L:List It},fP H ps L→∀(i:Nat) (p:Addr) (y:It),ps[i]?=some p→L[i]?=some y→H p=some (.tup [.str y.sort,.str y.text])
 | [],[],_,i,p,y,e,_=>by cases e
 | p::ps,y::L,h,0,p',y',e1,e2=>by cases e1;cases e2;exact h.1
 | p::ps,y::L,h,i+1,p',y',e1,e2=>fP.rows (q:=q) h.2 i p' y' e1 e2
 | [],_::_,h,_,_,_,_,_=>h.elim
 | _::_,[],h,_,_,_,_,_=>h.elim
theorem yg{H:Hp}:∀{ps:List Addr} {L:List It},ps.length=L.length→(∀(i:Nat) (p:Addr) (y:It),ps[i]?=some p→L[i]?=some y→H p=some (.tup [.str y.sort,.str y.text]))→fP H ps L
 | [],[],_,_=>trivial
 | p::ps,y::L,hl,h=>⟨h 0 p y rfl rfl,yg (by simpa using hl) fun i p' y' e1 e2=>h (i+1) p' y' e1 e2⟩
 | [],_::_,hl,_=>by cases hl
 | _::_,[],hl,_=>by cases hl
theorem fc{H:Hp}{q:Addr}{ps:List Addr}{L:List It}(h1:H q=some (.lst (ps.map V.ref)))(h2:fP H ps L):br H q L:=⟨ps,h1,h2.len,fP.rows (q:=q) h2⟩
theorem br.pt{H:Hp}{q:Addr}{L:List It}(h:br H q L):∃ps:List Addr,H q=some (.lst (ps.map V.ref))∧fP H ps L:=let ⟨ps,h1,h2,h3⟩:=h;⟨ps,h1,yg h2 h3⟩
theorem fP.upd{H:Hp}{ps:List Addr}{L:List It}{q:Addr}{xs ys:List V}(h:fP H ps L)(hq:H q=some (.lst xs)):fP (upd H q (.lst ys)) ps L:=h.mono fun p vs e=>by
 rw [aj (lI e hq (fun z=>by cases z))];exact e
theorem fP.same{H H':Hp}{ps:List Addr}{L:List It}(h:fP H ps L)(s:au H H'):fP H' ps L:=h.mono fun p vs e=>s _ _ e
theorem BI{H:Hp}{t:Addr}{y:It}(h:H t=some (.tup [.str y.sort,.str y.text])):fP H [t] [y]:=⟨h,trivial⟩
theorem br.put{H:Hp}{q t:Addr}{L:List It}{y:It}(h:br H q L)(ht:H t=none):∃xs:List V,(upd H t (.tup [.str y.sort,.str y.text])) q=some (.lst xs)∧xs.length=L.length∧br (upd (upd H t (.tup [.str y.sort,.str y.text])) q (.lst (xs++[.ref t]))) q (L++[y]):=by
 obtain⟨ps,h1,h2⟩:=h.pt;have hq:=(ar ht (o:=HO.tup [.str y.sort,.str y.text])) _ _ h1;refine⟨ps.map V.ref,hq,by rw [aa0,h2.len],fc (ps:=ps++[t]) (by rw [ae,ab8];rfl) ?_⟩;exact((fP.app (BI ae) (h2.same (ar ht))).upd hq)
theorem br.ins{H:Hp}{q t:Addr}{L:List It}{y:It}(k:Nat)(h:br H q L)(ht:H t=none):∃xs:List V,(upd H t (.tup [.str y.sort,.str y.text])) q=some (.lst xs)∧xs.length=L.length∧br (upd (upd H t (.tup [.str y.sort,.str y.text])) q (.lst (xs.take k ++ .ref t::xs.drop k))) q (L.take k++y::L.drop k):=by
 obtain⟨ps,h1,h2⟩:=h.pt;have hq:=(ar ht (o:=HO.tup [.str y.sort,.str y.text])) _ _ h1;have h3:=h2.same (ar ht (o:=HO.tup [.str y.sort,.str y.text]));refine⟨ps.map V.ref,hq,by rw [aa0,h2.len],fc (ps:=ps.take k++t::ps.drop k) (by rw [ae,ab8,ac1,ae5,List.map_drop]) ?_⟩;exact(fP.app (ps:=ps.take k) (L:=L.take k) (qs:=t::ps.drop k) (M:=y::L.drop k) ⟨ae,h3.drop k⟩ (h3.take k)).upd hq
theorem br.head{H:Hp}{q t:Addr}{L:List It}{y0 y:It}(h:br H q (y0::L))(ht:H t=none):∃xs:List V,(upd H t (.tup [.str y.sort,.str y.text])) q=some (.lst xs)∧xs.length=L.length+1∧br (upd (upd H t (.tup [.str y.sort,.str y.text])) q (.lst (xs.set 0 (.ref t)))) q (y::L):=by
 obtain⟨ps,h1,h2⟩:=h.pt;have hq:=(ar ht (o:=HO.tup [.str y.sort,.str y.text])) _ _ h1;have h3:=h2.same (ar ht (o:=HO.tup [.str y.sort,.str y.text]))
 cases ps with
 | nil=>exact h2.elim
 | cons p ps=>
  refine⟨(p::ps).map V.ref,hq,by rw [aa0,h2.len];rfl,fc (ps:=t::ps) (by rw [ae];rfl) ?_⟩;exact fP.upd (ps:=t::ps) (L:=y::L) ⟨ae,h3.2⟩ hq
def qg(K:Frag):Sp:=fun vs' H Q _=>∃(a:Addr) (ns:List Int),vs'=[.ref a]∧aV K H a (ns.map V.int)∧(∀x∈ns,x.natAbs < 2 ^ GB)∧∀(q:Addr) (L:List It) (m:Nat) H',H q=none→br H' q L→Gd m 0 L→L.length≤20→au H H'→Q (.ref q) H'
def mh:Sp:=fun vs' H Q _=>∃(q:Addr) (L:List It) (m:Nat) (c:Int),vs'=[.ref q,.int c]∧br H q L∧Gd m 0 L∧L.length≤20∧0≤c∧∀(q':Addr) (L':List It) H',br H' q' L'→Gd m 0 L'→L'.length≤21→au H H'→Q (.ref q') H'
theorem e60:(10:Int) ^ Int.toNat 60=1000000000000000000000000000000000000000000000000000000000000:=by decide +kernel
theorem DH{a b:Int}(ha:a.natAbs < 2 ^ (GB+200))(hb:b.natAbs < 2 ^ 200):IntMulOk a b:=IntMulOk.of_le (m:=GB+200) (n:=200) (intBits_le_iff.mpr ha) (intBits_le_iff.mpr hb) (by decide)
section
variable {P:Program} {w:World} {K:Frag} {mg:Str→Option Value} {base:Heap} {aM:Addr}
theorem zM{f:Addr}{fd:FuncData}(F:cC K "_law_rows" "_law_rows" iu f fd)(T:Txt mg aM)(D_law_got:cn P w K mg base "_law_got" 3 ["_law_script","_law_place"] (uT K))(D_law_good_rule:cn P w K mg base "_law_good_rule" 3 ["_law_cell","_law_voices"] tT):az P w K mg base bH 4 f fd ["_law_script"] (qg K):=by
 refine F.ok sc_law_rows (fun vs H Q E h=>?_) (fun cdv A outer s H vs Q E hr h=>?_)
 ·obtain⟨a,ns,rfl,_⟩:=h
  rfl
 obtain⟨a,ns,rfl,hS,hB,k⟩:=h
 refine⟨_,(ah (aB (i:=1) sc_law_rows.nd rfl (Or.inl rfl) (aJ D_law_got hr (by rfl) (aa (pr 0) (aa af ag))))
 (ah (aB (i:=2) sc_law_rows.nd rfl (Or.inl rfl) (ao (o1 bC) (pr 1) af))
 (ah (aB (i:=3) sc_law_rows.nd rfl (Or.inl rfl) (bN ag))
 (ah (eA PassesOwn.never rfl (fb rfl T.n_range (aa (pr 2) ag)) (bq (i:=4) sc_law_rows.nd rfl (Or.inl rfl))
 (ah (aB (i:=5) sc_law_rows.nd rfl (Or.inl rfl) (aJ D_law_got hr (by rfl) (aa (pr 0) (aa (ao (aX K) af (pr 4)) ag))))
 (ah (aB (i:=6) sc_law_rows.nd rfl (Or.inl rfl) (ao (o0 gb) (ao (o1 bC) (ao (f9 K) (pr 5) af) af) af))
 (ai (bQ (bX K PySem.F.plainAttrs_list PySem.F.slot_list_append PySem.F.type_list_append eZ (pr 3) (aa (ik (aa ax (aa (ao (aX K) (ao (aX K) (ao (aX K) ax (aQ (b7) (by rfl) T.n_str boot_str (aa (pr 6) ag))) ax) (aQ (b7) (by rfl) T.n_str boot_str (aa (ao (aX K) (pr 6) (ao (o1 bC) (pr 5) af)) ag))) ag))) ag)))))))
 (ah (eA PassesOwn.never rfl (fb rfl T.n_range (aa (aO (bj K) (bN (aa (ao (o1 bC) (ao (o1 cT) (pr 1) af) af) (aa af (aa af (aa (ao (o1 bC) (ao (o1 cT) (pr 1) af) af) ag))))) (ao (o1 bC) (ao (o1 cT) (pr 1) af) af) (fun _ _=>rfl)) ag)) (bq (i:=4) sc_law_rows.nd rfl (Or.inl rfl))
 (ah (aB (i:=5) sc_law_rows.nd rfl (Or.inl rfl) (ao (o1 bC) (aJ D_law_got hr (by rfl) (aa (pr 0) (aa (ao (aX K) af (pr 4)) ag))) (ao (o1 fj) af af)))
 (ai (bQ (bX K PySem.F.plainAttrs_list PySem.F.slot_list_append PySem.F.type_list_append eZ (pr 3) (aa (ik (aa ax (aa (aJ D_law_good_rule hr (by rfl) (aa (ao (aX K) (pr 5) (ao (f9 K) (ao (f9 K) af (pr 4)) (pr 4))) (aa (aw (ni rfl) (by rfl) T.n_max boot_max (aa af (aa (aw (nj rfl) (by rfl) T.n_min boot_min (aa (pr 2) (aa af ag))) ag))) ag))) ag))) ag))))))
 (ai (av (pr 3)))))))),?_⟩
 have hs:sizeLine=16777216:=sizeLine_eq;have e40:=Bp;have g0:∀p,0≤GM.gotF ns p:=GM.gotF_nn ns;refine bu (fun σ H'=>∃c:Int,0≤c∧σ=[some (.ref a),some (.int c),none,none,none,none,none]∧au H H') ?_ ?_
 ·intro u' hu
  walk_at "rd";exact⟨a,ns,0,rfl,hS,hB,by decide,by decide,fun H1 s1=>hu _ _ ⟨_,g0 0,rfl,s1⟩⟩
 rintro _ H1 ⟨c,c0,rfl,s1⟩;refine bu (fun σ H'=>∃m:Nat,m≤5∧σ=[some (.ref a),some (.int c),some (.int m),none,none,none,none]∧H1=H') ?_ ?_
 ·intro u' hu
  walk_at "rd";refine⟨by decide,hu _ _ ⟨(c % 6).toNat,by omega,?_,rfl⟩⟩;rw [ag4 (by omega)]
 rintro _ _ ⟨m,m5,rfl,rfl⟩;refine bu (fun σ H'=>∃q:Addr,H q=none∧br H' q []∧σ=[some (.ref a),some (.int c),some (.int m),some (.ref q),none,none,none]∧au H H') ?_ ?_
 ·intro u' hu
  walk_at "rd";exact⟨by omega,fun q hq=>hu _ _ ⟨q,s1.free hq,fc (ps:=[]) ae trivial,rfl,s1.upd hq⟩⟩
 clear s1;rintro _ H2 ⟨q,hq0,hR0,rfl,s2⟩;refine bu (fun σ H'=>∃(L:List It) (o4 o5 o6:Option V),L.length=m∧(vs L).length=m∧Gd m 0 L∧br H' q L∧σ=[some (.ref a),some (.int c),some (.int m),some (.ref q),o4,o5,o6]∧au H H') ?_ ?_
 ·intro u' hu
  walk_at "rd";refine⟨by omega,by omega,?_⟩;rw [show((m:Int)).toNat=m from rfl];obtain⟨Pv,hPv⟩:∃Pv:Nat→L2.St→Hp→Prop,Pv=fun i σ H'=>∃(L:List It) (o4 o5 o6:Option V),L.length=i∧(vs L).length=i∧Gd m 0 L∧br H' q L∧σ=[some (.ref a),some (.int c),some (.int m),some (.ref q),o4,o5,o6]∧au H H':=⟨_,rfl⟩;refine dw Pv (by rw [hPv];exact⟨[],none,none,none,rfl,rfl,trivial,hR0,rfl,s2⟩) ?_ ?_
  ·rintro i σ H3 hi hI
   rw [hPv]at hI;obtain⟨L,o4,o5,o6,hl,hv,hg,hR,rfl,s3⟩:=hI;walk_at "rd";refine⟨a,ns,_,rfl,s3.seq hS,hB,by omega,by omega,fun H4 s4=>?_⟩;walk_at "rd";have x0:=g0 (1+i);have xB:=GM.gotF_lt (p:=1+i) hB;have y0:=ae3 (GM.gotF ns (1+i) * 48271) (show(2000003:Int)≠0 by decide);have y1:=ad7 (GM.gotF ns (1+i) * 48271) (show(0:Int) < 2000003 by decide)
   have z0:0≤GM.gotF ns (1+i) % 2:=by omega
   have z1:GM.gotF ns (1+i) % 2 < 2:=by omega
   refine⟨DH xB (by decide +kernel),by decide,?_⟩;generalize GM.gotF ns (1+i) * 48271 % 2000003=e at y0 y1;generalize GM.gotF ns (1+i) % 2=d at z0 z1
   have lo1:(e - 1000000).natAbs < 10 ^ 40:=by omega
   have lo2:(e - 1000000+d).natAbs < 10 ^ 40:=by omega
   have n1:=bE lo1;have n2:=bE lo2
   have v6:(Str.ofString "voice ").length=6:=by decide +kernel
   have v1:(Str.ofString " ").length=1:=by decide +kernel
   have hR4:=hR.same s4;obtain⟨ps4,hq4,_⟩:=id hR4;refine⟨.inl ⟨rfl,_,aV.of hq4⟩,cJ lo1,by omega,by rw [aC];omega,by decide,cJ lo2,by rw [aC,aC];omega,by omega,fun t ht=>?_⟩;obtain⟨xs,hx1,hx2,hx3⟩:=hR4.put (y:=.v (e - 1000000,e - 1000000+d)) ht;refine⟨q,xs,_,rfl,rfl,hx1,by omega,?_⟩;rw [hPv];refine⟨L++[It.v (e - 1000000,e - 1000000+d)],some (.int i),some (.int (GM.gotF ns (1+i))),some (.int (e - 1000000)),by rw [ab2,hl];rfl,?_,Gd.snocV (b:=(e - 1000000,e - 1000000+d)) ⟨by show e - 1000000≤e - 1000000+d;omega,lo1,lo2⟩ hg,hx3,rfl,fun b o hb=>?_⟩
   ·rw [qB,ab2,hv]
    rfl
   ·have hb4:=s4 _ _ (s3 _ _ hb)
    rw [aj (ak hb hq0),aj (ak hb4 ht)];exact hb4
  ·intro σ H3 hI
   rw [hPv]at hI;obtain⟨L,o4,o5,o6,hl,hv,hg,hR,rfl,s3⟩:=hI;exact hu _ _ ⟨L,o4,o5,o6,hl,hv,hg,hR,rfl,s3⟩
 clear s2 hR0;rintro _ H3 ⟨L,o4,o5,o6,hl,hv,hg,hR,rfl,s3⟩;refine bu (fun σ H'=>∃(L:List It) (o4 o5:Option V),L.length≤20∧Gd m 0 L∧br H' q L∧σ=[some (.ref a),some (.int c),some (.int m),some (.ref q),o4,o5,o6]∧au H H') ?_ ?_
 ·intro u' hu
  walk_at "rd";refine⟨⟨by decide,by decide⟩,by decide,⟨by decide,by decide⟩,by decide,by omega,fun p hp=>⟨⟨by decide,by decide⟩,by decide,?_⟩⟩;obtain⟨x,hx⟩:=ky (xs:=[V.int (c / 6 % 15),.int 12,.int 13,.int (c / 6 % 4)]) (c:=c / 90) (m:=4) (by decide) (show(4:Int)≤((4:Nat):Int)by decide)
  obtain⟨j,hj,rfl⟩:=kx (P:=fun x=>∃j:Nat,j≤14∧x=.int j) (fun x hx=>by
   rcases aa5.mp hx with rfl | hx
   ·exact⟨(c / 6 % 15).toNat,by omega,by rw [ag4 (by omega)]⟩
   rcases aa5.mp hx with rfl | hx
   ·exact⟨12,by decide,rfl⟩
   rcases aa5.mp hx with rfl | hx
   ·exact⟨13,by decide,rfl⟩
   rcases ac9.mp hx with rfl
   exact⟨(c / 6 % 4).toNat,by omega,by rw [ag4 (by omega)]⟩) hx
  have s4:au H (upd H3 p (HO.lst [V.int (c / 6 % 15),V.int 12,V.int 13,V.int (c / 6 % 4)])):=s3.upd hp;have hR4:=hR.same (ar hp (o:=HO.lst [V.int (c / 6 % 15),V.int 12,V.int 13,V.int (c / 6 % 4)]));refine ba (aV.of ae) hx ⟨_,rfl,by omega,by omega,?_⟩;rw [show((j:Int)).toNat=j from rfl];generalize upd H3 p (HO.lst [V.int (c / 6 % 15),V.int 12,V.int 13,V.int (c / 6 % 4)])=H4 at s4 hR4;obtain⟨Pv,hPv⟩:∃Pv:Nat→L2.St→Hp→Prop,Pv=fun i σ H'=>∃(L:List It) (o4 o5:Option V),L.length=m+i∧(vs L).length=m∧Gd m 0 L∧br H' q L∧σ=[some (.ref a),some (.int c),some (.int m),some (.ref q),o4,o5,o6]∧au H H':=⟨_,rfl⟩;refine dw Pv (by rw [hPv];exact⟨L,o4,o5,by omega,hv,hg,hR4,rfl,s4⟩) ?_ ?_
  ·rintro i σ H5 hi hI
   rw [hPv]at hI;clear hg hR hR4 hl hv;obtain⟨L,o4,o5,hl,hv,hg,hR,rfl,s5⟩:=hI;walk_at "rd";refine⟨a,ns,_,rfl,s5.seq hS,hB,by omega,by omega,fun H6 s6=>?_⟩;walk_at "rd";rw [e60];have y0:=ae3 (GM.gotF ns (6+i)) (show(1000000000000000000000000000000000000000000000000000000000000:Int)≠0 by decide);have y1:=ad7 (GM.gotF ns (6+i)) (show(0:Int) < 1000000000000000000000000000000000000000000000000000000000000 by decide);generalize GM.gotF ns (6+i) % 1000000000000000000000000000000000000000000000000000000000000=e at y0 y1;have hR6:=hR.same s6;obtain⟨ps6,hq6,_⟩:=id hR6;have q0:0≤31 * (i:Int) * i:=Int.mul_nonneg (by omega) (by omega);have q1:31 * (i:Int) * i≤434 * 14:=Int.mul_le_mul (by omega) (by omega) (by omega) (by omega)
   have env:(if (if (4:Int) < m then(4:Int)else m) > 1 then if (4:Int) < m then(4:Int)else m else 1)=if m=0 then 1 else if m≤4 then(m:Int)else 4:=by
    split<;>split<;>(try split)<;>(try split)<;>omega
   rw [env]
   have nv1:1≤(if m=0 then 1 else if m≤4 then(m:Int)else 4)∧(if m=0 then 1 else if m≤4 then(m:Int)else 4)≤4:=by
    split
    ·omega
    ·split<;>omega
   generalize 31 * (i:Int) * i=y at q0 q1;refine⟨⟨by decide,by decide,by decide⟩,by decide,.inl ⟨rfl,_,aV.of hq6⟩,.of_left (by decide),?_,?_⟩
   ·exact IntMulOk.of_le (m:=20) (n:=20) (intBits_le_iff.mpr (by omega)) (intBits_le_iff.mpr (by omega)) (by decide)
   have p300:(1000000000000000000000000000000000000000000000000000000000000:Nat)+10000 < 2 ^ 300:=by decide +kernel
   refine⟨e+y,_,rfl,by omega,?_,nv1.1,nv1.2,fun z H7 hz s7=>⟨by omega,fun t ht=>?_⟩⟩
   ·generalize(2:Nat) ^ 300=u at p300
    omega
   have hR7:=hR6.same s7;obtain⟨xs,hx1,hx2,hx3⟩:=hR7.put (y:=.r z) ht;refine⟨q,xs,_,rfl,rfl,hx1,by omega,?_⟩;rw [hPv];refine⟨L++[It.r z],some (.int i),some (.int e),by rw [ab2,hl];rfl,?_,Gd.snocR hz (by omega) hg,hx3,rfl,fun b o hb=>?_⟩
   ·rw [qB,ab2,hv]
    rfl
   ·have hb4:=s7 _ _ (s6 _ _ (s5 _ _ hb))
    rw [aj (ak hb hq0),aj (ak hb4 ht)];exact hb4
  ·intro σ H5 hI
   rw [hPv]at hI;clear hg hR hR4 hl hv;obtain⟨L,o4,o5,hl,hv,hg,hR,rfl,s5⟩:=hI;exact hu _ _ ⟨L,o4,o5,by omega,hg,hR,rfl,s5⟩
 rintro _ H4 ⟨L,o4,o5,hl,hg,hR,rfl,s4⟩;walk_at "rd";exact k q L m _ hq0 hR hg hl s4
end
theorem Ar:Str.ofString "voice 4 5"=d7 (4,5):=by
 refine str_iff.mpr ?_;unfold d7;rw [aT,aT,aT];decide +kernel
theorem Cg(n:Int):Str.ofString "voice 0 " ++ aP n=d7 (0,n):=by
 refine str_iff.mpr ?_;unfold d7;rw [aT,aT,aT,aT];congr 1
def uU(K:Frag):Sp:=fun vs H Q _=>∃(a:Addr) (ns:List Int),vs=[.ref a]∧aV K H a (ns.map V.int)∧(∀x∈ns,x.natAbs < 2 ^ GB)∧ns.length≤63∧∀H',Q (.bl true) H'
section
variable {P:Program} {w:World} {K:Frag} {mg:Str→Option Value} {base:Heap} {aM:Addr}
theorem vF{CR f0 f1 f2 f3 f4 f5 f6 f7 f8:Addr}{D:List (Str×V)}(e:D=[(Str.ofString "span",.ref f0),(Str.ofString "clock",.ref f1),(Str.ofString "move",.ref f2),(Str.ofString "alike",.ref f3),(Str.ofString "back",.ref f4),(Str.ofString "held",.ref f5),(Str.ofString "times",.ref f6),(Str.ofString "begin",.ref f7),(Str.ofString "close",.ref f8)])
  (h0:eg P w K mg base 7 f0 ["row","numbers","voices"] (cE P w K mg base CR (da 2))) (h1:eg P w K mg base 7 f1 ["row","numbers","voices"] (cE P w K mg base CR cj)) (h2:eg P w K mg base 7 f2 ["row","numbers","voices"] (cE P w K mg base CR (da 1))) (h3:eg P w K mg base 7 f3 ["row","numbers","voices"] (cE P w K mg base CR (da 2))) (h4:eg P w K mg base 7 f4 ["row","numbers","voices"] (cE P w K mg base CR dP)) (h5:eg P w K mg base 7 f5 ["row","numbers","voices"] (cE P w K mg base CR dz)) (h6:eg P w K mg base 7 f6 ["row","numbers","voices"] (cE P w K mg base CR cK)) (h7:eg P w K mg base 7 f7 ["row","numbers","voices"] (cE P w K mg base CR (da 1))) (h8:eg P w K mg base 7 f8 ["row","numbers","voices"] (cE P w K mg base CR (da 1))):fT P w K mg base CR D:=by
 refine⟨fun k=>?_⟩;subst e;unfold d4;simp only [KTD.datumAt,decide_eq_true_eq]
 by_cases c0:k=Str.ofString "span"
 ·rw [if_pos c0,if_pos c0]
  exact .inl ⟨_,_,rfl,rfl,h0⟩
 rw [if_neg c0,if_neg c0]
 by_cases c1:k=Str.ofString "clock"
 ·rw [if_pos c1,if_pos c1]
  exact .inl ⟨_,_,rfl,rfl,h1⟩
 rw [if_neg c1,if_neg c1]
 by_cases c2:k=Str.ofString "move"
 ·rw [if_pos c2,if_pos c2]
  exact .inl ⟨_,_,rfl,rfl,h2⟩
 rw [if_neg c2,if_neg c2]
 by_cases c3:k=Str.ofString "alike"
 ·rw [if_pos c3,if_pos c3]
  exact .inl ⟨_,_,rfl,rfl,h3⟩
 rw [if_neg c3,if_neg c3]
 by_cases c4:k=Str.ofString "back"
 ·rw [if_pos c4,if_pos c4]
  exact .inl ⟨_,_,rfl,rfl,h4⟩
 rw [if_neg c4,if_neg c4]
 by_cases c5:k=Str.ofString "held"
 ·rw [if_pos c5,if_pos c5]
  exact .inl ⟨_,_,rfl,rfl,h5⟩
 rw [if_neg c5,if_neg c5]
 by_cases c6:k=Str.ofString "times"
 ·rw [if_pos c6,if_pos c6]
  exact .inl ⟨_,_,rfl,rfl,h6⟩
 rw [if_neg c6,if_neg c6]
 by_cases c7:k=Str.ofString "begin"
 ·rw [if_pos c7,if_pos c7]
  exact .inl ⟨_,_,rfl,rfl,h7⟩
 rw [if_neg c7,if_neg c7]
 by_cases c8:k=Str.ofString "close"
 ·rw [if_pos c8,if_pos c8]
  exact .inl ⟨_,_,rfl,rfl,h8⟩
 rw [if_neg c8,if_neg c8];exact .inr ⟨rfl,rfl⟩
theorem vP{f:Addr}{fd:FuncData}(F:cC K "_law_turned" "_law_turned" fG f fd)(T:Txt mg aM)(D_law_bad_voice:cn P w K mg base "_law_bad_voice" 1 ["_law_cell"] oq)(D_law_bad_rule:cn P w K mg base "_law_bad_rule" 1 ["_law_cell"] oq):az P w K mg base bH 2 f fd ["_law_rows_here","_law_cell"] mh:=by
 refine F.ok sc_law_turned (fun vs H Q E h=>?_) (fun cdv A outer s H vs Q E hr h=>?_)
 ·obtain⟨q,L,m,c,rfl,_⟩:=h
  rfl
 obtain⟨q,L,m,c,rfl,hq,hg,hl,c0,k⟩:=h
 refine⟨_,(ah (aB (i:=2) sc_law_turned.nd rfl (Or.inl rfl) (ao (o1 bC) (ao (o1 cT) (pr 1) af) (ao (aX K) (aw (bh K) (by rfl) T.n_len boot_len (aa (pr 0) ag)) af)))
 (ah (aB (i:=3) sc_law_turned.nd rfl (Or.inl rfl) (ao (o1 bC) (pr 1) af))
 (ah (aB (i:=4) sc_law_turned.nd rfl (Or.inl rfl) (ao (o1 cT) (pr 1) af))
 (ah (aB (i:=0) sc_law_turned.nd rfl (Or.inl rfl) (aQ (cg K) (by rfl) T.n_list boot_list (aa (pr 0) ag)))
 (ah (aZ (bD (aA (o0 jA) (pr 3) af (aE _))) (ai (bQ (bX K PySem.F.plainAttrs_list PySem.F.slot_list_insert PySem.F.type_list_insert jy (pr 0) (aa (pr 2) (aa (ik (aa ax (aa (aJ D_law_bad_voice hr (by rfl) (aa (pr 4) ag)) ag))) ag))))) (ai (aZ (bD (aA (o0 jA) (pr 3) af (aE _))) (ai (bQ (bX K PySem.F.plainAttrs_list PySem.F.slot_list_insert PySem.F.type_list_insert jy (pr 0) (aa (pr 2) (aa (ik (aa ax (aa (aJ D_law_bad_rule hr (by rfl) (aa (pr 4) ag)) ag))) ag))))) (ai (aZ (bD (aA (vL K (A7 hr)) (pr 3) af (aE _))) (ai (bQ (bX K PySem.F.plainAttrs_list PySem.F.slot_list_insert PySem.F.type_list_insert jy (pr 0) (aa (pr 2) (aa (ik (aa ax (aa ax ag))) ag))))) (ai (aZ (PW.pt (pR (bD (aA (vL K (A7 hr)) (pr 3) af (aE _))) (pR (bD (aA (DI K (A7 hr)) (aG (cw K) (pr 0) aS (ck af)) (bN ag) (aE _))) (uN (bD (aA (vL K (A7 hr)) (aO (bj K) (aO (bj K) (pr 0) af (fun _ _=>rfl)) af (fun _ _=>rfl)) ax (aE _))))))) (ai (yb (ik (aa ax (aa (ao (aX K) ax (aQ (b7) (by rfl) T.n_str boot_str (aa (aO (bj K) (bN (cz (vs:=[.int (500),.int (399),.int (400),.int (199)]) rfl)) (ao (o1 bC) (pr 4) af) (fun _ _=>rfl)) ag))) ag))) (BC (pr 0) af yt))) aF)))))))
 (ai (av (pr 0)))))))),?_⟩
 have hs:sizeLine=16777216:=sizeLine_eq;have e40:=Bp;obtain⟨ps,h1,h2⟩:=hq.pt;have hpl:=h2.len;refine bu (fun σ H'=>∃t:Nat,t≤L.length∧σ=[some (.ref q),some (.int c),some (.int t),none,none]∧H=H') ?_ ?_
 ·intro u' hu
  walk_at "rd";refine⟨⟨by decide,by decide⟩,_,.inl (aV.of h1),?_⟩;rw [aa0,hpl];walk_at "rd";have y0:=ae3 (c / 8) (show(L.length:Int)+1≠0 by omega);have y1:=ad7 (c / 8) (show 0 < (L.length:Int)+1 by omega);refine⟨by omega,hu _ _ ⟨(c / 8 % ((L.length:Int)+1)).toNat,by omega,?_,rfl⟩⟩;rw [ag4 y0]
 rintro _ _ ⟨t,ht,rfl,rfl⟩;refine bu (fun σ H'=>∃wy:Int,σ=[some (.ref q),some (.int c),some (.int t),some (.int wy),none]∧H=H') ?_ ?_
 ·intro u' hu
  walk_at "rd";exact⟨by decide,hu _ _ ⟨_,rfl,rfl⟩⟩
 rintro _ _ ⟨wy,rfl,rfl⟩;refine bu (fun σ H'=>∃e:Int,0≤e∧σ=[some (.ref q),some (.int c),some (.int t),some (.int wy),some (.int e)]∧H=H') ?_ ?_
 ·intro u' hu
  walk_at "rd";exact⟨⟨by decide,by decide⟩,hu _ _ ⟨_,by omega,rfl,rfl⟩⟩
 rintro _ _ ⟨e,e0,rfl,rfl⟩;refine bu (fun σ H'=>∃q2:Addr,H q2=none∧br H' q2 L∧σ=[some (.ref q2),some (.int c),some (.int t),some (.int wy),some (.int e)]∧au H H') ?_ ?_
 ·intro u' hu
  walk_at "rd";exact⟨_,.inl (aV.of h1),fun q2 hq2=>hu _ _ ⟨q2,hq2,fc ae (h2.same (ar hq2)),rfl,ar hq2⟩⟩
 rintro _ H1 ⟨q2,hq20,hR,rfl,s1⟩
 have put:∀{H2:Hp} {t:Addr} {y:It} {ys:List V},au H H2→H2 t=none→au H (upd (upd H2 t (.tup [.str y.sort,.str y.text])) q2 (.lst ys)):=fun {H2 t y ys} s2 ht b o hb=>by
  have hb2:=s2 _ _ hb;rw [aj (ak hb hq20),aj (ak hb2 ht)];exact hb2
 have ins:∀(H2:Hp) (p:Addr) (y:It),au H1 H2→H2 p=none→Gd m 0 (L.take t++y::L.drop t)→∀Q':VK,(∀L' H',br H' q2 L'→Gd m 0 L'→L'.length≤21→au H H'→Q' .non H')→uP (.ref q2) [.int t,.ref p] (upd H2 p (.tup [.str y.sort,.str y.text])) Q':=fun H2 p y s2 hp hgd Q' q'=>by
  obtain⟨xs,hx1,hx2,hx3⟩:=(hR.same s2).ins (y:=y) t hp;exact⟨q2,xs,t,.ref p,rfl,rfl,hx1,by omega,by omega,by omega,q' _ _ hx3 hgd (by rw [ab2,aa6,ac5,ae9];omega) (put (s1.trans s2) hp)⟩
 have hg':Gd m 0 (L.take t++L.drop t):=by rw [ai2];exact hg
 refine bu (fun σ H'=>∃L':List It,br H' q2 L'∧Gd m 0 L'∧L'.length≤21∧σ=[some (.ref q2),some (.int c),some (.int t),some (.int wy),some (.int e)]∧au H H') ?_ ?_
 ·intro u' hu
  have keep:∀H',au H1 H'→u' { nx:=fun x H'=>Q V.non H',rt:=Q } [some (.ref q2),some (.int c),some (.int t),some (.int wy),some (.int e)] H':=fun H' s'=>hu _ _ ⟨L,hR.same s',hg,by omega,rfl,s1.trans s'⟩;obtain⟨pr,hr1,hr2⟩:=hR.pt;have ty:∀{H'},au H1 H'→Ce K "list" (.ref q2) H':=fun {H'} s'=>.inl ⟨rfl,_,aV.of (s' _ _ hr1)⟩;walk_at "rd"
  by_cases w2:wy < 2
  ·rw [if_pos w2]
   exact⟨ty (au.refl _),e,rfl,e0,fun z H2 hz s2=>⟨by omega,fun p hp=>ins H2 p (.x z) s2 hp (Gd.insX hz hg') _ fun L' H' a1 a2 a3 a4=>hu _ _ ⟨L',a1,a2,a3,rfl,a4⟩⟩⟩
  rw [if_neg w2]
  by_cases w5:wy < 5
  ·rw [if_pos w5]
   exact⟨ty (au.refl _),e,rfl,e0,fun z H2 hz s2=>⟨by omega,fun p hp=>ins H2 p (.x z) s2 hp (Gd.insX hz hg') _ fun L' H' a1 a2 a3 a4=>hu _ _ ⟨L',a1,a2,a3,rfl,a4⟩⟩⟩
  rw [if_neg w5]
  by_cases w6:wy=5
  ·rw [if_pos w6]
   refine⟨ty (au.refl _),by omega,fun p hp=>?_⟩;rw [Ar];exact ins H1 p (.v (4,5)) (au.refl _) hp (Gd.insV ⟨by decide,by decide,by decide⟩ hg') _ fun L' H' a1 a2 a3 a4=>hu _ _ ⟨L',a1,a2,a3,rfl,a4⟩
  rw [if_neg w6]
  by_cases w7:wy=6
  rotate_left
  ·rw [if_neg w7]
   exact keep H1 (au.refl _)
  rw [if_pos w7];refine bx (aV.of hr1) fun p1 hp1=>?_;rw [show(some (1:Int))=some ((1:Nat):Int)from rfl,bP];refine⟨by omega,fun p2 hp2=>?_⟩;have s3:au H1 (upd (upd H1 p1 (HO.lst ((pr.map V.ref).take 1))) p2 (HO.lst [])):=(ar hp1).upd hp2;refine yk (l:=true) (xs:=(pr.map V.ref).take 1) ((ar hp2).seq (aV.of ae)) (aV.of ae) ⟨_,rfl,?_⟩;generalize upd (upd H1 p1 (HO.lst ((pr.map V.ref).take 1))) p2 (HO.lst [])=H2 at s3
  cases pr with
  | nil=>
   rw [if_neg (by decide)];exact keep H2 s3
  | cons p pr=>
   rw [if_pos (by simp)]
   cases L with
   | nil=>exact hr2.elim
   | cons y L=>
   have hp3:=s3 _ _ hr2.1;refine ba (aV.of (s3 _ _ hr1)) (bt rfl) (oa (dI.of hp3) (bt rfl) (rEqC_ss.mpr ⟨_,rfl,?_⟩))
   cases y with
   | r z=>
    rw [show decide ((It.r z).sort=Str.ofString "voice")=false from(by show decide (Str.ofString "rule"=Str.ofString "voice")=false;decide +kernel),if_neg aa1];exact keep H2 s3
   | x z=>
    rw [show decide ((It.x z).sort=Str.ofString "voice")=false from(by show decide (Str.ofString "bad"=Str.ofString "voice")=false;decide +kernel),if_neg aa1];exact keep H2 s3
   | v b=>
    rw [show decide ((It.v b).sort=Str.ofString "voice")=true from(by show decide (Str.ofString "voice"=Str.ofString "voice")=true;decide +kernel),if_pos rfl];refine⟨by omega,fun p4 hp4=>⟨by decide,?_⟩⟩;obtain⟨x,hx⟩:=ky (xs:=[V.int 500,.int 399,.int 400,.int 199]) (c:=e) (m:=4) (by decide) (by decide)
    obtain⟨n,⟨n0,n5⟩,rfl⟩:=kx (P:=fun x=>∃n:Int,(0≤n∧n≤500)∧x=.int n) (fun x hx=>by
     rcases aa5.mp hx with rfl | hx
     ·exact⟨500,by decide,rfl⟩
     rcases aa5.mp hx with rfl | hx
     ·exact⟨399,by decide,rfl⟩
     rcases aa5.mp hx with rfl | hx
     ·exact⟨400,by decide,rfl⟩
     rcases ac9.mp hx with rfl
     exact⟨199,by decide,rfl⟩) hx
    have hn:n.natAbs < 10 ^ 40:=by omega
    have ln:=bE hn
    have v8:(Str.ofString "voice 0 ").length=8:=by decide +kernel
    have s4:au H1 (upd H2 p4 (HO.lst [V.int 500,V.int 399,V.int 400,V.int 199])):=s3.upd hp4;refine ba (aV.of ae) hx (rStr_i.mpr ⟨cJ hn,rAddA_ss.mpr ⟨by omega,by omega,fun p5 hp5=>?_⟩⟩);generalize upd H2 p4 (HO.lst [V.int 500,V.int 399,V.int 400,V.int 199])=H3 at s4 hp5;rw [Cg];obtain⟨xs,hx1,hx2,hx3⟩:=(hR.same s4).head (y:=.v (0,n)) hp5;exact⟨xs,hx1,0,Ba (k:=0) (by decide) (by omega),hu _ _ ⟨It.v (0,n)::L,hx3,⟨⟨n0,show(0:Int).natAbs < 10 ^ 40 by decide,hn⟩,hg.2⟩,ah0 hl,rfl,put (y:=.v (0,n)) (s1.trans s4) hp5⟩⟩
 rintro _ H2 ⟨L',hR',hg2,hl2,rfl,s2⟩;walk_at "rd";exact k q2 L' _ hR' hg2 hl2 s2
theorem Bt{f cR:Addr}{fd:FuncData}{D:List (Str×V)}(F:cC K "law" "law" om f fd)(T:Txt mg aM)(tab:g8 K aM D)(M:fT P w K mg base cR D)(D_law_rows:cn P w K mg base "_law_rows" 12 ["_law_script"] (qg K))(D_law_turned:cn P w K mg base "_law_turned" 12 ["_law_rows_here","_law_cell"] mh)(D_law_got:cn P w K mg base "_law_got" 12 ["_law_script","_law_place"] (uT K))(D_law_right:cn P w K mg base "_law_right" 12 ["_law_rows_here"] (qf P w K mg base aM cR)):az P w K mg base bH 13 f fd ["_law_script"] (uU K):=by
 refine F.ok sc_law (fun vs H Q E h=>?_) (fun cdv A outer s H vs Q E hr h=>?_)
 ·obtain⟨a,ns,rfl,_⟩:=h
  rfl
 obtain⟨a,ns,rfl,hS,hB,hn,k⟩:=h
 refine⟨_,(ah (aB (i:=1) sc_law.nd rfl (Or.inl rfl) (aJ D_law_rows hr (by rfl) (aa (pr 0) ag)))
 (ah (eA PassesOwn.never rfl (vT rfl T.n_range (aa af (aa (aw (ni rfl) (by rfl) T.n_max boot_max (aa af (aa (aw (nj rfl) (by rfl) T.n_min boot_min (aa (aw (bh K) (by rfl) T.n_len boot_len (aa (pr 0) ag)) (aa af ag))) ag))) ag))) (bq (i:=2) sc_law.nd rfl (Or.inl rfl))
 (ai (aZ (aY (aD (aJ D_law_right hr (by rfl) (aa (aJ D_law_turned hr (by rfl) (aa (pr 1) (aa (aJ D_law_got hr (by rfl) (aa (pr 0) (aa (pr 2) ag))) ag))) ag)) (fun _=>rfl))) (ai (av lV)) aF)))
 (ai (av (aJ D_law_right hr (by rfl) (aa (pr 1) ag)))))),?_⟩
 have hs:sizeLine=16777216:=sizeLine_eq;have g0:∀p,0≤GM.gotF ns p:=GM.gotF_nn ns;refine bu (fun σ H'=>∃(q:Addr) (L:List It) (m:Nat),br H' q L∧Gd m 0 L∧L.length≤20∧σ=[some (.ref a),some (.ref q),none]∧au H H') ?_ ?_
 ·intro u' hu
  walk_at "rd";exact⟨a,ns,rfl,hS,hB,fun q L m H' _ h1 h2 h3 s'=>hu _ _ ⟨q,L,m,h1,h2,h3,rfl,s'⟩⟩
 rintro _ H1 ⟨q,L,m,hR,hg,hl,rfl,s1⟩;refine bu (fun σ H'=>∃o2:Option V,σ=[some (.ref a),some (.ref q),o2]∧au H1 H') ?_ ?_
 ·intro u' hu
  walk_at "rd";refine⟨_,.inl (s1.seq hS),?_⟩;rw [aa0];walk_at "rd"
  have hm:22≤(if (if (45:Int) < ns.length then(45:Int)else ns.length) > 22 then if (45:Int) < ns.length then(45:Int)else ns.length else 22)∧(if (if (45:Int) < ns.length then(45:Int)else ns.length) > 22 then if (45:Int) < ns.length then(45:Int)else ns.length else 22)≤63:=by
   split
   ·split<;>omega
   ·omega
  generalize(if (if (45:Int) < ns.length then(45:Int)else ns.length) > 22 then if (45:Int) < ns.length then(45:Int)else ns.length else 22)=y at hm;refine⟨by decide,by decide,by omega,by omega,?_⟩;refine dw (fun i σ H'=>∃o2:Option V,σ=[some (.ref a),some (.ref q),o2]∧au H1 H') ⟨none,rfl,au.refl _⟩ ?_ ?_
  ·rintro i σ H2 hi ⟨o2,rfl,s2⟩
   walk_at "rd";refine⟨a,ns,_,rfl,(s1.trans s2).seq hS,hB,by omega,by omega,fun H3 s3=>?_⟩;refine⟨q,L,m,_,rfl,hR.same (s2.trans s3),hg,hl,g0 _,fun q' L' H4 hR' hg' hl' s4=>?_⟩;refine⟨q',L',m,D,rfl,hR',hg',by omega,tab,M,fun H5 s5=>⟨true,TruV_b.mpr rfl,?_⟩⟩;rw [if_neg (by decide)];exact((s2.trans s3).trans s4).trans s5
  ·rintro σ H2 ⟨o2,rfl,s2⟩
   exact hu _ _ ⟨o2,rfl,s2⟩
 rintro _ H2 ⟨o2,rfl,s2⟩;walk_at "rd";exact⟨q,L,m,D,rfl,hR.same s2,hg,by omega,tab,M,fun H' _=>k _⟩
end
theorem g5{us:List Value}(hl:us.length=1):∃x0,us=[x0]:=match us,hl with | [x0],_=>⟨x0,rfl⟩
theorem wc{us:List Value}(hl:us.length=2):∃x0 x1,us=[x0,x1]:=match us,hl with | [x0,x1],_=>⟨x0,x1,rfl⟩
theorem yT{us:List Value}(hl:us.length=3):∃x0 x1 x2,us=[x0,x1,x2]:=match us,hl with | [x0,x1,x2],_=>⟨x0,x1,x2,rfl⟩
theorem Df{us:List Value}(hl:us.length=4):∃x0 x1 x2 x3,us=[x0,x1,x2,x3]:=match us,hl with | [x0,x1,x2,x3],_=>⟨x0,x1,x2,x3,rfl⟩
theorem DR{us:List Value}(hl:us.length=5):∃x0 x1 x2 x3 x4,us=[x0,x1,x2,x3,x4]:=match us,hl with | [x0,x1,x2,x3,x4],_=>⟨x0,x1,x2,x3,x4,rfl⟩
theorem DZ{us:List Value}(hl:us.length=6):∃x0 x1 x2 x3 x4 x5,us=[x0,x1,x2,x3,x4,x5]:=match us,hl with | [x0,x1,x2,x3,x4,x5],_=>⟨x0,x1,x2,x3,x4,x5,rfl⟩
theorem all_mk{l:PySem.W.OpenLaw}{w:World}{K:Frag}{h:Heap}{mg:Str→Option Value}{fa:Addr}{Zag:Addr}{Zah:Addr}{Zai:Addr}{Zaj:Addr}{Zak:Addr}{Zad:Addr}{Zae:Addr}{Zal:Addr}{Zam:Addr}{Zaf:Addr}{Za0:Addr}{Zaa:Addr}{Zab:Addr}{Zbm:Addr}{Zbn:Addr}{Zao:Addr}{Zbo:Addr}{Zbp:Addr}{Zbq:Addr}{Zbr:Addr}{Zbs:Addr}{Zbt:Addr}{Zbu:Addr}{Zbv:Addr}{Zbw:Addr}{Za2:Addr}{Zbx:FuncData}{Za3:Addr}{Zby:FuncData}{Za4:Addr}{Zbz:FuncData}{Za5:Addr}{Zb0:FuncData}{Za6:Addr}{Zb1:FuncData}{Za7:Addr}{Zb2:FuncData}{Za8:Addr}{Zb3:FuncData}{Za9:Addr}{Zb4:FuncData}{Zba:Addr}{Zb5:FuncData}{a_MAKERS:Addr}{D_MAKERS:List (Str×V)}{a_INNER_KINDS:Addr}(X:K.In h)(G:h.Ns mainGlobals mg)(hfa:mg "law"=some (.ref fa))
  (Zft:nsIn K mainGlobals "Span"=some (some (.ref Zag)))
  (Zat:oO K Zag)
  (Zfu:nsIn K mainGlobals "Clock"=some (some (.ref Zah)))
  (Zau:kP K Zah)
  (Zfv:nsIn K mainGlobals "Move"=some (some (.ref Zai)))
  (Zav:oN K Zai)
  (Zfw:nsIn K mainGlobals "Alike"=some (some (.ref Zaj)))
  (Zaw:kN K Zaj)
  (Zfx:nsIn K mainGlobals "Back"=some (some (.ref Zak)))
  (Zax:oM K Zak)
  (Zfy:nsIn K mainGlobals "Held"=some (some (.ref Zad)))
  (Zaq:kr K Zad)
  (Zfz:nsIn K mainGlobals "Times"=some (some (.ref Zae)))
  (Zar:iD K Zae)
  (Zf0:nsIn K mainGlobals "Begin"=some (some (.ref Zal)))
  (Zay:kO K Zal)
  (Zf1:nsIn K mainGlobals "Close"=some (some (.ref Zam)))
  (Zaz:kQ K Zam)
  (Zf2:nsIn K mainGlobals "Every"=some (some (.ref Zaf)))
  (Zas:iC K Zaf)
  (Zf3:nsIn K mainGlobals "Score"=some (some (.ref Za0)))
  (Za1:ee K Za0)
  (Zb6:nsIn K mainGlobals "Rule"=some (some (.ref Zaa)))
  (Zbb:nsIn K mainGlobals "BadRow"=some (some (.ref Zab)))
  (Zb7:nsIn K mainGlobals "ScoreError"=some (some (.ref Zbm)))
  (Zb8:nsIn K mainGlobals "BadLine"=some (some (.ref Zbn)))
  (Zbc:nsIn K mainGlobals "TooWide"=some (some (.ref Zao)))
  (Zb9:nsIn K mainGlobals "Crowded"=some (some (.ref Zbo)))
  (Zca:nsIn K mainGlobals "Unfit"=some (some (.ref Zbp)))
  (Zcb:nsIn K mainGlobals "Apart"=some (some (.ref Zbq)))
  (Zcc:nsIn K mainGlobals "Endless"=some (some (.ref Zbr)))
  (Zcd:nsIn K mainGlobals "NoLine"=some (some (.ref Zbs)))
  (Zce:nsIn K mainGlobals "NoName"=some (some (.ref Zbt)))
  (Zcf:nsIn K mainGlobals "NoNumber"=some (some (.ref Zbu)))
  (Zcg:nsIn K mainGlobals "NoRow"=some (some (.ref Zbv)))
  (Zch:nsIn K mainGlobals "Unlike"=some (some (.ref Zbw)))
  (Zci:∃f fd,sA K Zab f ["__setattr__","__getattribute__","__getattr__","__class__","row"]∧cC K "__init__" "BadRow.__init__" di f fd)
  (Zcj:∃f fd,sA K Zao f ["__setattr__","__getattribute__","__getattr__","__class__","weight"]∧cC K "__init__" "TooWide.__init__" cY f fd)
  (Zck:exmOne K (.ref Zab) (.ref Zab)=some true)
  (Zcl:exmOne K (.ref Zao) (.ref Zab)=some false)
  (Zcm:exmOne K (.ref Zao) (.ref Zao)=some true)
  (Zcn:kitOne K (.ref Zab) (.ref Zbm)=some true)
  (Zco:kitOne K (.ref Zab) (.type "ValueError")=some true)
  (Zcp:kitOne K (.ref Zab) (.ref Zbn)=some false)
  (Zcq:kitOne K (.ref Zab) (.ref Zao)=some false)
  (Zcr:kitOne K (.ref Zab) (.ref Zbo)=some false)
  (Zcs:kitOne K (.ref Zab) (.ref Zbp)=some false)
  (Zct:kitOne K (.ref Zab) (.ref Zbq)=some false)
  (Zcu:kitOne K (.ref Zab) (.ref Zbr)=some false)
  (Zcv:kitOne K (.ref Zab) (.ref Zbs)=some false)
  (Zcw:kitOne K (.ref Zab) (.ref Zbt)=some false)
  (Zcx:kitOne K (.ref Zab) (.ref Zbu)=some false)
  (Zcy:kitOne K (.ref Zab) (.ref Zbv)=some false)
  (Zcz:kitOne K (.ref Zab) (.ref Zbw)=some false)
  (hn_:PySem.W.specialIn K (.builtin "object.__class__") "__get__"=some (some (.builtin "getset_descriptor.__get__")))
  (htk_:PySem.W.takesIn K (.builtin "object.__class__")=some true)
  (Zc0:findIn K (.ref Zag) "__class__"=some (some (.builtin "object.__class__")))
  (Zc1:mroIn K Zag (.type "object")=some true)
  (Zc2:kitOne K (.ref Zag) (.ref Zaa)=some true)
  (Zc3:findIn K (.ref Zah) "__class__"=some (some (.builtin "object.__class__")))
  (Zc4:mroIn K Zah (.type "object")=some true)
  (Zc5:kitOne K (.ref Zah) (.ref Zaa)=some true)
  (Zc6:findIn K (.ref Zai) "__class__"=some (some (.builtin "object.__class__")))
  (Zc7:mroIn K Zai (.type "object")=some true)
  (Zc8:kitOne K (.ref Zai) (.ref Zaa)=some true)
  (Zc9:findIn K (.ref Zaj) "__class__"=some (some (.builtin "object.__class__")))
  (Zda:mroIn K Zaj (.type "object")=some true)
  (Zdb:kitOne K (.ref Zaj) (.ref Zaa)=some true)
  (Zdc:findIn K (.ref Zak) "__class__"=some (some (.builtin "object.__class__")))
  (Zdd:mroIn K Zak (.type "object")=some true)
  (Zde:kitOne K (.ref Zak) (.ref Zaa)=some true)
  (Zdf:findIn K (.ref Zad) "__class__"=some (some (.builtin "object.__class__")))
  (Zdg:mroIn K Zad (.type "object")=some true)
  (Zdh:kitOne K (.ref Zad) (.ref Zaa)=some true)
  (Zdi:findIn K (.ref Zae) "__class__"=some (some (.builtin "object.__class__")))
  (Zdj:mroIn K Zae (.type "object")=some true)
  (Zdk:kitOne K (.ref Zae) (.ref Zaa)=some true)
  (Zdl:findIn K (.ref Zal) "__class__"=some (some (.builtin "object.__class__")))
  (Zdm:mroIn K Zal (.type "object")=some true)
  (Zdn:kitOne K (.ref Zal) (.ref Zaa)=some true)
  (Zdo:findIn K (.ref Zam) "__class__"=some (some (.builtin "object.__class__")))
  (Zdp:mroIn K Zam (.type "object")=some true)
  (Zdq:kitOne K (.ref Zam) (.ref Zaa)=some true)
  (Zdr:findIn K (.ref Zaf) "__class__"=some (some (.builtin "object.__class__")))
  (Zds:mroIn K Zaf (.type "object")=some true)
  (Zdt:kitOne K (.ref Zaf) (.ref Zaa)=some true)
  (Zdu:∃C f fd,kq K "Rule" "__init__" "Rule.__init__" dU C f fd)
  (Zdv:∃f fd,bV K Zag "size" "Rule.size" cc f fd)
  (Zdw:∃f fd,bV K Zah "size" "Rule.size" cc f fd)
  (Zdx:∃f fd,bV K Zai "size" "Rule.size" cc f fd)
  (Zdy:∃f fd,bV K Zaj "size" "Rule.size" cc f fd)
  (Zdz:∃f fd,bV K Zal "size" "Rule.size" cc f fd)
  (Zd0:∃f fd,bV K Zam "size" "Rule.size" cc f fd)
  (Zd1:∃f fd,bV K Zak "size" "Back.size" gf f fd)
  (Zd2:∃f fd,bV K Zad "size" "Held.size" gg f fd)
  (Zd3:∃f fd,bV K Zae "size" "Times.size" fv f fd)
  (Zd4:∃f fd,bV K Zaf "size" "Every.size" fu f fd)
  (Zd5:∃f fd,bV K Zag "shown" "Rule.shown" bw f fd)
  (Zd6:∃f fd,bV K Zah "shown" "Rule.shown" bw f fd)
  (Zd7:∃f fd,bV K Zai "shown" "Rule.shown" bw f fd)
  (Zd8:∃f fd,bV K Zaj "shown" "Rule.shown" bw f fd)
  (Zd9:∃f fd,bV K Zak "shown" "Rule.shown" bw f fd)
  (Zea:∃f fd,bV K Zad "shown" "Rule.shown" bw f fd)
  (Zeb:∃f fd,bV K Zae "shown" "Rule.shown" bw f fd)
  (Zec:∃f fd,bV K Zal "shown" "Rule.shown" bw f fd)
  (Zed:∃f fd,bV K Zam "shown" "Rule.shown" bw f fd)
  (Zee:∃f fd,bV K Zaf "shown" "Rule.shown" bw f fd)
  (Zef:∃f fd,iE K "Span" "Span.__init__" dW Zag f fd)
  (Zeg:∃f fd,iE K "Clock" "Clock.__init__" dD Zah f fd)
  (Zeh:∃f fd,iE K "Move" "Move.__init__" dS Zai f fd)
  (Zei:∃f fd,iE K "Alike" "Alike.__init__" dB Zaj f fd)
  (Zej:∃f fd,iE K "Back" "Back.__init__" dQ Zak f fd)
  (Zek:∃f fd,iE K "Held" "Held.__init__" dR Zad f fd)
  (Zel:∃f fd,iE K "Times" "Times.__init__" dH Zae f fd)
  (Zem:∃f fd,iE K "Begin" "Begin.__init__" dC Zal f fd)
  (Zen:∃f fd,iE K "Close" "Close.__init__" dE Zam f fd)
  (Zeo:∃f fd,iE K "Every" "Every.__init__" dF Zaf f fd)
  (Zep:∃f fd,bK K "is_number" gh f fd)
  (Zeq:∃f fd,bK K "has_list" iq f fd)
  (Zer:∃f fd,bK K "are_voices" fA f fd)
  (Zes:bK K "span_of" gT Za2 Zbx)
  (Zet:bK K "clock_of" fC Za3 Zby)
  (Zeu:bK K "move_of" gR Za4 Zbz)
  (Zev:bK K "alike_of" fw Za5 Zb0)
  (Zew:bK K "back_of" gP Za6 Zb1)
  (Zex:bK K "held_of" gQ Za7 Zb2)
  (Zey:bK K "times_of" fJ Za8 Zb3)
  (Zez:bK K "begin_of" fB Za9 Zb4)
  (Ze0:bK K "close_of" fE Zba Zb5)
  (Ze1:∃f fd,bK K "plain_rule" fH f fd)
  (Ze2:∃f fd,bK K "every_rule" fF f fd)
  (Ze3:∃f fd u,wu K "read_rule" gk f fd u∧aN (.int 0) u)
  (Ze4:∃f fd,iE K "Score" "Score.__init__" dG Za0 f fd)
  (Ze5:∃f fd,bK K "weight" l6 f fd)
  (Ze6:∃f fd,bK K "not_too_wide" eD f fd)
  (Ze7:∃f fd,bK K "voice_range" eX f fd)
  (Ze8:∃f fd,bK K "read" tP f fd)
  (Ze9:∃f fd,bK K "shown" p6 f fd)
  (Zfa:∃f fd,bK K "_law_stirred" eW f fd)
  (Zfb:∃f fd,bK K "_law_got" jE f fd)
  (Zfc:∃f fd,bK K "_law_some" iw f fd)
  (Zfd:∃f fd,bK K "_law_good_rule" dY f fd)
  (Zfe:∃f fd,bK K "_law_bad_voice" dX f fd)
  (Zff:∃f fd,bK K "_law_bad_rule" eC f fd)
  (Zfg:∃f fd,bK K "_law_rows" iu f fd)
  (Zfh:∃f fd,bK K "_law_turned" fG f fd)
  (Zfi:∃f fd,bK K "_law_due" jD f fd)
  (Zfj:∃f fd,bK K "_law_heavy" gi f fd)
  (Zfk:∃f fd,bK K "_law_refusal" eV f fd)
  (Zfl:∃f fd,bK K "_law_right" gj f fd)
  (n_MAKERS:nsIn K mainGlobals "MAKERS"=some (some (.ref a_MAKERS)))
  (t_MAKERS:g8 K a_MAKERS D_MAKERS)
  (e_MAKERS:D_MAKERS=[(Str.ofString "span",.ref Za2),(Str.ofString "clock",.ref Za3),(Str.ofString "move",.ref Za4),(Str.ofString "alike",.ref Za5),(Str.ofString "back",.ref Za6),(Str.ofString "held",.ref Za7),(Str.ofString "times",.ref Za8),(Str.ofString "begin",.ref Za9),(Str.ofString "close",.ref Zba)])
  (n_INNER_KINDS:nsIn K mainGlobals "INNER_KINDS"=some (some (.ref a_INNER_KINDS)))
  (q_INNER_KINDS:wB K a_INNER_KINDS [.str "span",.str "clock"])
  (z_len:nsIn K mainGlobals "len"=some none)
  (z_range:nsIn K mainGlobals "range"=some none)
  (z_all:nsIn K mainGlobals "all"=some none)
  (z_min:nsIn K mainGlobals "min"=some none)
  (z_abs:nsIn K mainGlobals "abs"=some none)
  (z_max:nsIn K mainGlobals "max"=some none)
  (z_divmod:nsIn K mainGlobals "divmod"=some none)
  (z_any:nsIn K mainGlobals "any"=some none)
  (z_list:nsIn K mainGlobals "list"=some none)
  (z_isinstance:nsIn K mainGlobals "isinstance"=some none)
  (z_bool:nsIn K mainGlobals "bool"=some none)
  (z_int:nsIn K mainGlobals "int"=some none)
  (z_str:nsIn K mainGlobals "str"=some none)
  (z_enumerate:nsIn K mainGlobals "enumerate"=some none)
  (z_tuple:nsIn K mainGlobals "tuple"=some none)
  (z_ValueError:nsIn K mainGlobals "ValueError"=some none)
  (g_FIGURES:∃u,nsIn K mainGlobals "FIGURES"=some (some u)∧aN (.str "0123456789") u)
  (g_MOST_FIGURES:∃u,nsIn K mainGlobals "MOST_FIGURES"=some (some u)∧aN (.int 40) u)
  (g_MOST_VOICES:∃u,nsIn K mainGlobals "MOST_VOICES"=some (some u)∧aN (.int 4) u)
  (g_MOST_RULES:∃u,nsIn K mainGlobals "MOST_RULES"=some (some u)∧aN (.int 12) u)
  (g_MOST_WEIGHT:∃u,nsIn K mainGlobals "MOST_WEIGHT"=some (some u)∧aN (.int 400) u)
  (g_MOST_NUMBERS:∃u,nsIn K mainGlobals "MOST_NUMBERS"=some (some u)∧aN (.int 12) u)
  (Zfm:∃f fd,bK K "law" om f fd)
  :∃fd:FuncData,(∀(s:Shared) (v:Value),BindsTo s fd ⟨[v],[]⟩ [("_law_script",v)])∧∀base:Heap,K.In base→base.Ns mainGlobals mg→az l.prog w K mg base bH 13 fa fd ["_law_script"] (uU K):=by
 obtain⟨Zlr,Zls,Zfn⟩:=Zfm;obtain⟨Zjj,Zjk,Zf4,Zf5⟩:=Zci;obtain⟨Zjl,Zjm,Zf6,Zf7⟩:=Zcj;obtain⟨Zlt,Zlu,Zlv,Zf8⟩:=Zdu;have Zf9:=Zf8.fn;obtain⟨Zlw,Zlx,Zga⟩:=Zdv;have Zgb:=Zga.fn;obtain⟨Zly,Zlz,Zgc⟩:=Zdw;have Zgd:=Zgc.fn;obtain⟨Zl0,Zl1,Zge⟩:=Zdx;have Zgf:=Zge.fn;obtain⟨Zl2,Zl3,Zgg⟩:=Zdy;have Zgh:=Zgg.fn;obtain⟨Zl4,Zl5,Zgi⟩:=Zdz;have Zgj:=Zgi.fn;obtain⟨Zl6,Zl7,Zgk⟩:=Zd0;have Zgl:=Zgk.fn;obtain⟨Zl8,Zl9,Zgm⟩:=Zd1;have Zgn:=Zgm.fn;obtain⟨Zma,Zmb,Zgo⟩:=Zd2;have Zgp:=Zgo.fn;obtain⟨Zmc,Zmd,Zgq⟩:=Zd3;have Zgr:=Zgq.fn;obtain⟨Zme,Zmf,Zgs⟩:=Zd4;have Zgt:=Zgs.fn;obtain⟨Zmg,Zmh,Zgu⟩:=Zd5;have Zgv:=Zgu.fn;obtain⟨Zmi,Zmj,Zgw⟩:=Zd6;have Zgx:=Zgw.fn;obtain⟨Zmk,Zml,Zgy⟩:=Zd7;have Zgz:=Zgy.fn;obtain⟨Zmm,Zmn,Zg0⟩:=Zd8;have Zg1:=Zg0.fn;obtain⟨Zmo,Zmp,Zg2⟩:=Zd9;have Zg3:=Zg2.fn;obtain⟨Zmq,Zmr,Zg4⟩:=Zea;have Zg5:=Zg4.fn;obtain⟨Zms,Zmt,Zg6⟩:=Zeb;have Zg7:=Zg6.fn;obtain⟨Zmu,Zmv,Zg8⟩:=Zec;have Zg9:=Zg8.fn;obtain⟨Zmw,Zmx,Zha⟩:=Zed;have Zhb:=Zha.fn;obtain⟨Zmy,Zmz,Zhc⟩:=Zee;have Zhd:=Zhc.fn;obtain⟨Zm0,Zm1,Zhe⟩:=Zef;have Zhf:=Zhe.fn;obtain⟨Zm2,Zm3,Zhg⟩:=Zeg;have Zhh:=Zhg.fn;obtain⟨Zm4,Zm5,Zhi⟩:=Zeh;have Zhj:=Zhi.fn;obtain⟨Zm6,Zm7,Zhk⟩:=Zei;have Zhl:=Zhk.fn;obtain⟨Zm8,Zm9,Zhm⟩:=Zej;have Zhn:=Zhm.fn;obtain⟨Zna,Znb,Zho⟩:=Zek;have Zhp:=Zho.fn;obtain⟨Znc,Znd,Zhq⟩:=Zel;have Zhr:=Zhq.fn;obtain⟨Zne,Znf,Zhs⟩:=Zem;have Zht:=Zhs.fn;obtain⟨Zng,Znh,Zhu⟩:=Zen;have Zhv:=Zhu.fn;obtain⟨Zni,Znj,Zhw⟩:=Zeo;have Zhx:=Zhw.fn;obtain⟨Znk,Znl,Zhy⟩:=Zep;have Zhz:=Zhy.fn;obtain⟨Znm,Znn,Zh0⟩:=Zeq;have Zh1:=Zh0.fn;obtain⟨Zno,Znp,Zh2⟩:=Zer;have Zh3:=Zh2.fn;have Zbd:=Zes.fn;have Zbe:=Zet.fn;have Zbf:=Zeu.fn;have Zbg:=Zev.fn;have Zbh:=Zew.fn;have Zbi:=Zex.fn;have Zbj:=Zey.fn;have Zbk:=Zez.fn;have Zbl:=Ze0.fn;obtain⟨Znq,Znr,Zh4⟩:=Ze1;have Zh5:=Zh4.fn;obtain⟨Zns,Znt,Zh6⟩:=Ze2;have Zh7:=Zh6.fn;obtain⟨Zjn,Zjo,Znu,Zh8,Znv⟩:=Ze3;obtain⟨Znw,Znx,Zny,Zfo,Zjp,Zjq⟩:=Zh8.fn;obtain⟨Znz,Zn0,Zh9⟩:=Ze4;have Zia:=Zh9.fn;obtain⟨Zn1,Zn2,Zib⟩:=Ze5;have Zic:=Zib.fn;obtain⟨Zjr,Zjs,Zid⟩:=Ze6;have Zfp:=Zid.fn;obtain⟨Zn3,Zn4,Zie⟩:=Ze7;have Zif:=Zie.fn;obtain⟨Zjt,Zju,Zig⟩:=Ze8;have Zfq:=Zig.fn;obtain⟨Zn5,Zn6,Zih⟩:=Ze9;have Zii:=Zih.fn;obtain⟨Zn7,Zn8,Zij⟩:=Zfa;have Zik:=Zij.fn;obtain⟨Zn9,Zoa,Zil⟩:=Zfb;have Zim:=Zil.fn;obtain⟨Zob,Zoc,Zin⟩:=Zfc;have Zio:=Zin.fn;obtain⟨Zod,Zoe,Zip⟩:=Zfd;have Ziq:=Zip.fn;obtain⟨Zof,Zog,Zir⟩:=Zfe;have Zis:=Zir.fn;obtain⟨Zoh,Zoi,Zit⟩:=Zff;have Ziu:=Zit.fn;obtain⟨Zoj,Zok,Ziv⟩:=Zfg;have Ziw:=Ziv.fn;obtain⟨Zol,Zom,Zix⟩:=Zfh;have Ziy:=Zix.fn;obtain⟨Zon,Zoo,Ziz⟩:=Zfi;have Zi0:=Ziz.fn;obtain⟨Zop,Zoq,Zi1⟩:=Zfj;have Zi2:=Zi1.fn;obtain⟨Zor,Zos,Zi3⟩:=Zfk;have Zi4:=Zi3.fn;obtain⟨Zot,Zou,Zi5⟩:=Zfl;have Zi6:=Zi5.fn;obtain⟨u_FIGURES,g_FIGURES,r_FIGURES⟩:=g_FIGURES;obtain⟨u_MOST_FIGURES,g_MOST_FIGURES,r_MOST_FIGURES⟩:=g_MOST_FIGURES;obtain⟨u_MOST_VOICES,g_MOST_VOICES,r_MOST_VOICES⟩:=g_MOST_VOICES;obtain⟨u_MOST_RULES,g_MOST_RULES,r_MOST_RULES⟩:=g_MOST_RULES;obtain⟨u_MOST_WEIGHT,g_MOST_WEIGHT,r_MOST_WEIGHT⟩:=g_MOST_WEIGHT;obtain⟨u_MOST_NUMBERS,g_MOST_NUMBERS,r_MOST_NUMBERS⟩:=g_MOST_NUMBERS;have e:=hfa.symm.trans (mg_of X G Zfn.ns);cases e;have T:Txt mg a_MAKERS:={ n_len:=mg_none_of X G z_len,n_range:=mg_none_of X G z_range,n_all:=mg_none_of X G z_all,n_min:=mg_none_of X G z_min,n_abs:=mg_none_of X G z_abs,n_max:=mg_none_of X G z_max,n_divmod:=mg_none_of X G z_divmod,n_any:=mg_none_of X G z_any,n_list:=mg_none_of X G z_list,n_isinstance:=mg_none_of X G z_isinstance,n_bool:=mg_none_of X G z_bool,n_int:=mg_none_of X G z_int,n_str:=mg_none_of X G z_str,n_enumerate:=mg_none_of X G z_enumerate,n_tuple:=mg_none_of X G z_tuple,n_ValueError:=mg_none_of X G z_ValueError,g_FIGURES:=⟨_,mg_of X G g_FIGURES,r_FIGURES⟩,g_MOST_FIGURES:=⟨_,mg_of X G g_MOST_FIGURES,r_MOST_FIGURES⟩,g_MOST_VOICES:=⟨_,mg_of X G g_MOST_VOICES,r_MOST_VOICES⟩,g_MOST_RULES:=⟨_,mg_of X G g_MOST_RULES,r_MOST_RULES⟩,g_MOST_WEIGHT:=⟨_,mg_of X G g_MOST_WEIGHT,r_MOST_WEIGHT⟩,g_MOST_NUMBERS:=⟨_,mg_of X G g_MOST_NUMBERS,r_MOST_NUMBERS⟩,g_MAKERS:=⟨_,mg_of X G n_MAKERS,rfl⟩ };have TE_INNER_KINDS:Cu mg a_MAKERS a_INNER_KINDS:={ T with g_INNER_KINDS:=⟨_,mg_of X G n_INNER_KINDS,rfl⟩ };obtain⟨oc,od,kV,doc,pm,an,cdv,ct,osl,rfl,lk,hcd⟩:=Zfn.fn.ex;refine⟨fnOf "law" "law" (cI om) (bZ om) (aq om) .none kV doc pm an cdv ct,fun s v=>.of_eq rfl,fun base _ _=>?_⟩;have Zfr:jd l.prog w K mg base "BadRow" Zab 8 ["self","row"] (ko Zab "row") ["__setattr__","__getattribute__","__getattr__","__class__","row"]:=⟨Zjj,Zjk,Zf4,(vN Zf5 Zf4).mono (by decide),mg_of X G Zbb,Zf5.binds (fun _ _ _ _ _ _ us hl=>by obtain⟨_,_,rfl⟩:=wc hl;rfl)⟩;have Zi7:jd l.prog w K mg base "TooWide" Zao 7 ["self","weight"] (ko Zao "weight") ["__setattr__","__getattribute__","__getattr__","__class__","weight"]:=⟨Zjl,Zjm,Zf6,(td Zf7 Zf6).mono (by decide),mg_of X G Zbc,Zf7.binds (fun _ _ _ _ _ _ us hl=>by obtain⟨_,_,rfl⟩:=wc hl;rfl)⟩;have TX:AX mg a_MAKERS K Zab Zbm Zaa Zbn Zao Zbo Zbp Zbq Zbr Zbs Zbt Zbu Zbv Zbw:={ T with c_ScoreError:=⟨_,mg_of X G Zb7,rfl⟩,c_BadRow:=⟨_,mg_of X G Zbb,rfl⟩,c_Rule:=⟨_,mg_of X G Zb6,rfl⟩,c_BadLine:=⟨_,mg_of X G Zb8,rfl⟩,c_TooWide:=⟨_,mg_of X G Zbc,rfl⟩,c_Crowded:=⟨_,mg_of X G Zb9,rfl⟩,c_Unfit:=⟨_,mg_of X G Zca,rfl⟩,c_Apart:=⟨_,mg_of X G Zcb,rfl⟩,c_Endless:=⟨_,mg_of X G Zcc,rfl⟩,c_NoLine:=⟨_,mg_of X G Zcd,rfl⟩,c_NoName:=⟨_,mg_of X G Zce,rfl⟩,c_NoNumber:=⟨_,mg_of X G Zcf,rfl⟩,c_NoRow:=⟨_,mg_of X G Zcg,rfl⟩,c_Unlike:=⟨_,mg_of X G Zch,rfl⟩,x_BadRow:=Zck,x_BadTW:=Zcl,x_TooWide:=Zcm,kS:=Zcn,kV:=Zco,k1:=Zcp,k2:=Zcq,k3:=Zcr,k4:=Zcs,k5:=Zct,k6:=Zcu,k7:=Zcv,k8:=Zcw,k9:=Zcx,kA:=Zcy,kB:=Zcz };have Zjv:eH K Zag Zaa:=⟨Zat.cl,Zc0,hn_,htk_,Zc1,Zc2⟩;have Zjw:eH K Zah Zaa:=⟨Zau.cl,Zc3,hn_,htk_,Zc4,Zc5⟩;have Zjx:eH K Zai Zaa:=⟨Zav.cl,Zc6,hn_,htk_,Zc7,Zc8⟩;have Zjy:eH K Zaj Zaa:=⟨Zaw.cl,Zc9,hn_,htk_,Zda,Zdb⟩;have Zjz:eH K Zak Zaa:=⟨Zax.cl,Zdc,hn_,htk_,Zdd,Zde⟩;have Zj0:eH K Zad Zaa:=⟨Zaq.cl,Zdf,hn_,htk_,Zdg,Zdh⟩;have Zj1:eH K Zae Zaa:=⟨Zar.cl,Zdi,hn_,htk_,Zdj,Zdk⟩;have Zj2:eH K Zal Zaa:=⟨Zay.cl,Zdl,hn_,htk_,Zdm,Zdn⟩;have Zj3:eH K Zam Zaa:=⟨Zaz.cl,Zdo,hn_,htk_,Zdp,Zdq⟩;have Zj4:eH K Zaf Zaa:=⟨Zas.cl,Zdr,hn_,htk_,Zds,Zdt⟩;have Zap:jc l.prog w K mg base "Rule" "__init__" 1 ["self","row"] (bO K):=Zf8.df X G (pH Zf9) (Zf9.binds (fun _ _ _ _ _ _ us hl=>by obtain⟨_,_,rfl⟩:=wc hl;rfl));have Zj5:aK l.prog w K mg base Zag "size" 1 ["self"] (dJ 1 fun _=>.int 1):=Zga.ok Zat.cl (cL Zgb) (Zgb.binds (fun _ _ _ _ _ _ us hl=>by obtain⟨_,rfl⟩:=g5 hl;rfl));have Zj6:aK l.prog w K mg base Zah "size" 1 ["self"] (dJ 1 fun _=>.int 1):=Zgc.ok Zau.cl (cL Zgd) (Zgd.binds (fun _ _ _ _ _ _ us hl=>by obtain⟨_,rfl⟩:=g5 hl;rfl));have Zj7:aK l.prog w K mg base Zai "size" 1 ["self"] (dJ 1 fun _=>.int 1):=Zge.ok Zav.cl (cL Zgf) (Zgf.binds (fun _ _ _ _ _ _ us hl=>by obtain⟨_,rfl⟩:=g5 hl;rfl));have Zj8:aK l.prog w K mg base Zaj "size" 1 ["self"] (dJ 1 fun _=>.int 1):=Zgg.ok Zaw.cl (cL Zgh) (Zgh.binds (fun _ _ _ _ _ _ us hl=>by obtain⟨_,rfl⟩:=g5 hl;rfl));have Zj9:aK l.prog w K mg base Zal "size" 1 ["self"] (dJ 1 fun _=>.int 1):=Zgi.ok Zay.cl (cL Zgj) (Zgj.binds (fun _ _ _ _ _ _ us hl=>by obtain⟨_,rfl⟩:=g5 hl;rfl));have Zka:aK l.prog w K mg base Zam "size" 1 ["self"] (dJ 1 fun _=>.int 1):=Zgk.ok Zaz.cl (cL Zgl) (Zgl.binds (fun _ _ _ _ _ _ us hl=>by obtain⟨_,rfl⟩:=g5 hl;rfl));have Zkb:aK l.prog w K mg base Zak "size" 1 ["self"] (dJ 1 fun _=>.int 3):=Zgm.ok Zax.cl (pC Zgn) (Zgn.binds (fun _ _ _ _ _ _ us hl=>by obtain⟨_,rfl⟩:=g5 hl;rfl));have Zkc:∀(row:Str) (a c:Int),aK l.prog w K mg base Zad "size" 1 ["self"] (jN (jg Zad row a c) (.int c)):=fun row a c=>Zgo.ok Zaq.cl (pF Zgp Zaq) (Zgp.binds (fun _ _ _ _ _ _ us hl=>by obtain⟨_,rfl⟩:=g5 hl;rfl));have Zkd:∀(row:Str) (a c d e:Int),aK l.prog w K mg base Zae "size" 1 ["self"] (jN (gx Zae row a c d e) (.int (e+1))):=fun row a c d e=>Zgq.ok Zar.cl (mM Zgr Zar) (Zgr.binds (fun _ _ _ _ _ _ us hl=>by obtain⟨_,rfl⟩:=g5 hl;rfl));have Zke:∀(row:Str) (t u:Int) (RIn:qK),aK l.prog w K mg base Zaf "size" 1 ["self"] (jN (ku Zaf row t u RIn) (.int t)):=fun row t u RIn=>Zgs.ok Zas.cl (mJ Zgt Zas) (Zgt.binds (fun _ _ _ _ _ _ us hl=>by obtain⟨_,rfl⟩:=g5 hl;rfl));have Zkf:aK l.prog w K mg base Zag "shown" 1 ["self"] (bF K):=Zgu.ok Zat.cl (bB Zgv) (Zgv.binds (fun _ _ _ _ _ _ us hl=>by obtain⟨_,rfl⟩:=g5 hl;rfl));have Zkg:aK l.prog w K mg base Zah "shown" 1 ["self"] (bF K):=Zgw.ok Zau.cl (bB Zgx) (Zgx.binds (fun _ _ _ _ _ _ us hl=>by obtain⟨_,rfl⟩:=g5 hl;rfl));have Zkh:aK l.prog w K mg base Zai "shown" 1 ["self"] (bF K):=Zgy.ok Zav.cl (bB Zgz) (Zgz.binds (fun _ _ _ _ _ _ us hl=>by obtain⟨_,rfl⟩:=g5 hl;rfl));have Zki:aK l.prog w K mg base Zaj "shown" 1 ["self"] (bF K):=Zg0.ok Zaw.cl (bB Zg1) (Zg1.binds (fun _ _ _ _ _ _ us hl=>by obtain⟨_,rfl⟩:=g5 hl;rfl));have Zkj:aK l.prog w K mg base Zak "shown" 1 ["self"] (bF K):=Zg2.ok Zax.cl (bB Zg3) (Zg3.binds (fun _ _ _ _ _ _ us hl=>by obtain⟨_,rfl⟩:=g5 hl;rfl));have Zkk:aK l.prog w K mg base Zad "shown" 1 ["self"] (bF K):=Zg4.ok Zaq.cl (bB Zg5) (Zg5.binds (fun _ _ _ _ _ _ us hl=>by obtain⟨_,rfl⟩:=g5 hl;rfl));have Zkl:aK l.prog w K mg base Zae "shown" 1 ["self"] (bF K):=Zg6.ok Zar.cl (bB Zg7) (Zg7.binds (fun _ _ _ _ _ _ us hl=>by obtain⟨_,rfl⟩:=g5 hl;rfl));have Zkm:aK l.prog w K mg base Zal "shown" 1 ["self"] (bF K):=Zg8.ok Zay.cl (bB Zg9) (Zg9.binds (fun _ _ _ _ _ _ us hl=>by obtain⟨_,rfl⟩:=g5 hl;rfl));have Zkn:aK l.prog w K mg base Zam "shown" 1 ["self"] (bF K):=Zha.ok Zaz.cl (bB Zhb) (Zhb.binds (fun _ _ _ _ _ _ us hl=>by obtain⟨_,rfl⟩:=g5 hl;rfl));have Zko:aK l.prog w K mg base Zaf "shown" 1 ["self"] (bF K):=Zhc.ok Zas.cl (bB Zhd) (Zhd.binds (fun _ _ _ _ _ _ us hl=>by obtain⟨_,rfl⟩:=g5 hl;rfl));have Zi8:cG l.prog w K mg base "Span" Zag 2 ["self","row","first","second","numbers"] (fN K Zag):=Zhe.df X G (pI Zhf T Zat Zap) (Zhf.binds (fun _ _ _ _ _ _ us hl=>by obtain⟨_,_,_,_,_,rfl⟩:=DR hl;rfl));have Zi9:cG l.prog w K mg base "Clock" Zah 2 ["self","row","first","second","hours","numbers"] (eR K Zah):=Zhg.df X G (mG Zhh T Zau Zap) (Zhh.binds (fun _ _ _ _ _ _ us hl=>by obtain⟨_,_,_,_,_,_,rfl⟩:=DZ hl;rfl));have Zja:cG l.prog w K mg base "Move" Zai 2 ["self","row","voice","numbers"] (fM K Zai):=Zhi.df X G (pG Zhj T Zav Zap) (Zhj.binds (fun _ _ _ _ _ _ us hl=>by obtain⟨_,_,_,_,rfl⟩:=Df hl;rfl));have Zjb:cG l.prog w K mg base "Alike" Zaj 2 ["self","row","first","second","numbers"] (eO K Zaj):=Zhk.df X G (mE Zhl T Zaw Zap) (Zhl.binds (fun _ _ _ _ _ _ us hl=>by obtain⟨_,_,_,_,_,rfl⟩:=DR hl;rfl));have Zjc:cG l.prog w K mg base "Back" Zak 2 ["self","row","voice","widest"] (fK K Zak):=Zhm.df X G (pB Zhn T Zax Zap) (Zhn.binds (fun _ _ _ _ _ _ us hl=>by obtain⟨_,_,_,_,rfl⟩:=Df hl;rfl));have Zjd:cG l.prog w K mg base "Held" Zad 2 ["self","row","voice","most"] (fL K Zad):=Zho.df X G (pE Zhp T Zaq Zap) (Zhp.binds (fun _ _ _ _ _ _ us hl=>by obtain⟨_,_,_,_,rfl⟩:=Df hl;rfl));have Zje:cG l.prog w K mg base "Times" Zae 2 ["self","row","voice","note","fewest","most"] (eT K Zae):=Zhq.df X G (mL Zhr T Zar Zap) (Zhr.binds (fun _ _ _ _ _ _ us hl=>by obtain⟨_,_,_,_,_,_,rfl⟩:=DZ hl;rfl));have Zjf:cG l.prog w K mg base "Begin" Zal 2 ["self","row","voice","notes"] (eP K Zal):=Zhs.df X G (mF Zht T Zay Zap) (Zht.binds (fun _ _ _ _ _ _ us hl=>by obtain⟨_,_,_,_,rfl⟩:=Df hl;rfl));have Zjg:cG l.prog w K mg base "Close" Zam 2 ["self","row","voice","notes"] (eS K Zam):=Zhu.df X G (mH Zhv T Zaz Zap) (Zhv.binds (fun _ _ _ _ _ _ us hl=>by obtain⟨_,_,_,_,rfl⟩:=Df hl;rfl));have Zkp:cG l.prog w K mg base "Every" Zaf 2 ["self","row","turns","turn","inner"] (gp K Zaf):=Zhw.df X G (mI Zhx T Zas Zap) (Zhx.binds (fun _ _ _ _ _ _ us hl=>by obtain⟨_,_,_,_,_,rfl⟩:=DR hl;rfl));have Zfs:cn l.prog w K mg base "is_number" 1 ["word"] sg:=Zhy.df X G (vO Zhz T) (Zhz.binds (fun _ _ _ _ _ _ us hl=>by obtain⟨_,rfl⟩:=g5 hl;rfl));have Zan:cn l.prog w K mg base "has_list" 1 ["numbers","ahead"] (bM K):=Zh0.df X G (rN Zh1 T) (Zh1.binds (fun _ _ _ _ _ _ us hl=>by obtain⟨_,_,rfl⟩:=wc hl;rfl));have Zac:cn l.prog w K mg base "are_voices" 1 ["numbers","voices"] (aU K):=Zh2.df X G (mO Zh3 T) (Zh3.binds (fun _ _ _ _ _ _ us hl=>by obtain⟨_,_,rfl⟩:=wc hl;rfl));have Zkq:az l.prog w K mg base bH 4 Za2 Zbx ["row","numbers","voices"] (cE l.prog w K mg base Zaa (da 2)):=Aj (tF Zbd T (Zan.up (by decide)) (Zac.up (by decide)) Zi8) (tE Zbd T (Zan.up (by decide)) (Zac.up (by decide)) Zi8) (fun row a b D r H h=>Ai Zat (Zj5.up (by decide)) (Zkf.up (by decide)) Zjv h);have Zkr:eg l.prog w K mg base 4 Za2 ["row","numbers","voices"] (cE l.prog w K mg base Zaa (da 2)):=⟨Zbx,Zkq,Zbd.kp,Zbd.binds (fun _ _ _ _ _ _ us hl=>by obtain⟨_,_,_,rfl⟩:=yT hl;rfl)⟩;have Zks:az l.prog w K mg base bH 4 Za3 Zby ["row","numbers","voices"] (cE l.prog w K mg base Zaa cj):=wQ (rK Zbe T (Zan.up (by decide)) (Zac.up (by decide)) Zi9) (rJ Zbe T (Zan.up (by decide)) (Zac.up (by decide)) Zi9) (fun row a b c D r H h=>wO Zau (Zj6.up (by decide)) (Zkg.up (by decide)) Zjw h);have Zkt:eg l.prog w K mg base 4 Za3 ["row","numbers","voices"] (cE l.prog w K mg base Zaa cj):=⟨Zby,Zks,Zbe.kp,Zbe.binds (fun _ _ _ _ _ _ us hl=>by obtain⟨_,_,_,rfl⟩:=yT hl;rfl)⟩;have Zku:az l.prog w K mg base bH 4 Za4 Zbz ["row","numbers","voices"] (cE l.prog w K mg base Zaa (da 1)):=zC (tx Zbf T (Zan.up (by decide)) (Zac.up (by decide)) Zja) (tw Zbf T (Zan.up (by decide)) (Zac.up (by decide)) Zja) (fun row a D r H h=>zB Zav (Zj7.up (by decide)) (Zkh.up (by decide)) Zjx h);have Zkv:eg l.prog w K mg base 4 Za4 ["row","numbers","voices"] (cE l.prog w K mg base Zaa (da 1)):=⟨Zbz,Zku,Zbf.kp,Zbf.binds (fun _ _ _ _ _ _ us hl=>by obtain⟨_,_,_,rfl⟩:=yT hl;rfl)⟩;have Zkw:az l.prog w K mg base bH 4 Za5 Zb0 ["row","numbers","voices"] (cE l.prog w K mg base Zaa (da 2)):=wH (rE Zbg T (Zan.up (by decide)) (Zac.up (by decide)) Zjb) (rD Zbg T (Zan.up (by decide)) (Zac.up (by decide)) Zjb) (fun row a b D r H h=>wG Zaw (Zj8.up (by decide)) (Zki.up (by decide)) Zjy h);have Zkx:eg l.prog w K mg base 4 Za5 ["row","numbers","voices"] (cE l.prog w K mg base Zaa (da 2)):=⟨Zb0,Zkw,Zbg.kp,Zbg.binds (fun _ _ _ _ _ _ us hl=>by obtain⟨_,_,_,rfl⟩:=yT hl;rfl)⟩;have Zky:az l.prog w K mg base bH 4 Za6 Zb1 ["row","numbers","voices"] (cE l.prog w K mg base Zaa dP):=y9 (tm Zbh T (Zac.up (by decide)) Zjc) (tj Zbh T (Zac.up (by decide)) Zjc) (fun row a c r H h=>y8 Zax (Zkb.up (by decide)) (Zkj.up (by decide)) Zjz h);have Zkz:eg l.prog w K mg base 4 Za6 ["row","numbers","voices"] (cE l.prog w K mg base Zaa dP):=⟨Zb1,Zky,Zbh.kp,Zbh.binds (fun _ _ _ _ _ _ us hl=>by obtain⟨_,_,_,rfl⟩:=yT hl;rfl)⟩;have Zk0:az l.prog w K mg base bH 4 Za7 Zb2 ["row","numbers","voices"] (cE l.prog w K mg base Zaa dz):=zt (tu Zbi T (Zac.up (by decide)) Zjd) (tq Zbi T (Zac.up (by decide)) Zjd) (fun row a c r H h=>zr Zaq ((Zkc row a c).up (by decide)) (Zkk.up (by decide)) Zj0 h);have Zk1:eg l.prog w K mg base 4 Za7 ["row","numbers","voices"] (cE l.prog w K mg base Zaa dz):=⟨Zb2,Zk0,Zbi.kp,Zbi.binds (fun _ _ _ _ _ _ us hl=>by obtain⟨_,_,_,rfl⟩:=yT hl;rfl)⟩;have Zk2:az l.prog w K mg base bH 4 Za8 Zb3 ["row","numbers","voices"] (cE l.prog w K mg base Zaa cK):=yD (rP Zbj T (Zac.up (by decide)) Zje) (rO Zbj T (Zac.up (by decide)) Zje) (fun row a c d e r H h=>yC Zar ((Zkd row a c d e).up (by decide)) (Zkl.up (by decide)) Zj1 h);have Zk3:eg l.prog w K mg base 4 Za8 ["row","numbers","voices"] (cE l.prog w K mg base Zaa cK):=⟨Zb3,Zk2,Zbj.kp,Zbj.binds (fun _ _ _ _ _ _ us hl=>by obtain⟨_,_,_,rfl⟩:=yT hl;rfl)⟩;have Zk4:az l.prog w K mg base bH 4 Za9 Zb4 ["row","numbers","voices"] (cE l.prog w K mg base Zaa (da 1)):=wL (rH Zbk T (Zan.up (by decide)) (Zac.up (by decide)) Zjf) (rG Zbk T (Zan.up (by decide)) (Zac.up (by decide)) Zjf) (fun row a D r H h=>wK Zay (Zj9.up (by decide)) (Zkm.up (by decide)) Zj2 h);have Zk5:eg l.prog w K mg base 4 Za9 ["row","numbers","voices"] (cE l.prog w K mg base Zaa (da 1)):=⟨Zb4,Zk4,Zbk.kp,Zbk.binds (fun _ _ _ _ _ _ us hl=>by obtain⟨_,_,_,rfl⟩:=yT hl;rfl)⟩;have Zk6:az l.prog w K mg base bH 4 Zba Zb5 ["row","numbers","voices"] (cE l.prog w K mg base Zaa (da 1)):=wU (rM Zbl T (Zan.up (by decide)) (Zac.up (by decide)) Zjg) (rL Zbl T (Zan.up (by decide)) (Zac.up (by decide)) Zjg) (fun row a D r H h=>wR Zaz (Zka.up (by decide)) (Zkn.up (by decide)) Zj3 h);have Zk7:eg l.prog w K mg base 4 Zba ["row","numbers","voices"] (cE l.prog w K mg base Zaa (da 1)):=⟨Zb5,Zk6,Zbl.kp,Zbl.binds (fun _ _ _ _ _ _ us hl=>by obtain⟨_,_,_,rfl⟩:=yT hl;rfl)⟩;have MS:fT l.prog w K mg base Zaa D_MAKERS:=vF e_MAKERS (Zkr.up (by decide)) (Zkt.up (by decide)) (Zkv.up (by decide)) (Zkx.up (by decide)) (Zkz.up (by decide)) (Zk1.up (by decide)) (Zk3.up (by decide)) (Zk5.up (by decide)) (Zk7.up (by decide));have Zjh:cn l.prog w K mg base "plain_rule" 8 ["row","voices"] (Ag l.prog w K mg base a_MAKERS Zaa):=Zh4.df X G (mQ Zh5 T (Zfs.up (by decide))) (Zh5.binds (fun _ _ _ _ _ _ us hl=>by obtain⟨_,_,rfl⟩:=wc hl;rfl));have Zk8:cn l.prog w K mg base "every_rule" 9 ["row","voices"] (B4 l.prog w K mg base a_MAKERS Zaa):=Zh6.df X G (mP Zh7 TE_INNER_KINDS q_INNER_KINDS (Zfs.up (by decide)) Zjh (Zkp.up (by decide)) (fun row t u r ri dx H h=>xk Zas ((Zke row t u fun _ _=>True).up (by decide)) (Zko.up (by decide)) Zj4 h)) (Zh7.binds (fun _ _ _ _ _ _ us hl=>by obtain⟨_,_,rfl⟩:=wc hl;rfl));have Zk9:je l.prog w K mg base "read_rule" 10 ["text","voices","row"] (Ah l.prog w K mg base a_MAKERS Zaa Zab):=⟨Zjn,Zjo,pK Zfo T (Zjh.up (by decide)) Zk8 Zfr,mg_of X G Zh8.ns,Zfo.kp,Zfo.binds Zjp Zjq fun _ _ _ _ _ _ us hl=>match us,hl with | [_,_,_],_=>⟨_,rfl,rfl⟩⟩;have Zla:cG l.prog w K mg base "Score" Za0 1 ["self","ranges","rules"] (gq K Za0):=Zh9.df X G (mK Zia T Za1) (Zia.binds (fun _ _ _ _ _ _ us hl=>by obtain⟨_,_,_,rfl⟩:=yT hl;rfl));have Zlb:cn l.prog w K mg base "weight" 8 ["score"] (mi l.prog w K mg base Zaa):=Zib.df X G (vQ Zic T) (Zic.binds (fun _ _ _ _ _ _ us hl=>by obtain⟨_,rfl⟩:=g5 hl;rfl));have Zlc:je l.prog w K mg base "not_too_wide" 9 ["score"] (jM l.prog w K mg base Zaa Zao):=⟨Zjr,Zjs,km Zfp T Zlb Zi7,mg_of X G Zid.ns,Zfp.kp,Zfp.binds (fun _ _ _ _ _ _ us hl=>by obtain⟨_,rfl⟩:=g5 hl;rfl)⟩;have Zld:cn l.prog w K mg base "voice_range" 2 ["row"] (qh K):=Zie.df X G (lQ Zif T Zfs) (Zif.binds (fun _ _ _ _ _ _ us hl=>by obtain⟨_,rfl⟩:=g5 hl;rfl));have Zle:je l.prog w K mg base "read" 11 ["text"] (qe l.prog w K mg base a_MAKERS Zaa Za0 Zab Zao):=⟨Zjt,Zju,zL Zfq T Za1 (Zld.up (by decide)) Zk9 (Zfr.up (by decide)) (Zla.up (by decide)) (Zlc.up (by decide)),mg_of X G Zig.ns,Zfq.kp,Zfq.binds (fun _ _ _ _ _ _ us hl=>by obtain⟨_,rfl⟩:=g5 hl;rfl)⟩;have Zlf:cn l.prog w K mg base "shown" 8 ["score"] (mf l.prog w K mg base Zaa):=Zih.df X G (xV Zii T) (Zii.binds (fun _ _ _ _ _ _ us hl=>by obtain⟨_,rfl⟩:=g5 hl;rfl));have Zlg:cn l.prog w K mg base "_law_stirred" 1 ["_law_cell","_law_place"] jP:=Zij.df X G (tG Zik T) (Zik.binds (fun _ _ _ _ _ _ us hl=>by obtain⟨_,_,rfl⟩:=wc hl;rfl));have Zji:cn l.prog w K mg base "_law_got" 2 ["_law_script","_law_place"] (uT K):=Zil.df X G (Bs Zim T Zlg) (Zim.binds (fun _ _ _ _ _ _ us hl=>by obtain⟨_,_,rfl⟩:=wc hl;rfl));have Zlh:cn l.prog w K mg base "_law_some" 1 ["_law_cell","_law_many"] tU:=Zin.df X G (zN Zio T) (Zio.binds (fun _ _ _ _ _ _ us hl=>by obtain⟨_,_,rfl⟩:=wc hl;rfl));have Zli:cn l.prog w K mg base "_law_good_rule" 2 ["_law_cell","_law_voices"] tT:=Zip.df X G (zK Ziq T Zlh) (Ziq.binds (fun _ _ _ _ _ _ us hl=>by obtain⟨_,_,rfl⟩:=wc hl;rfl));have Zlj:cn l.prog w K mg base "_law_bad_voice" 1 ["_law_cell"] oq:=Zir.df X G (pJ Zis T) (Zis.binds (fun _ _ _ _ _ _ us hl=>by obtain⟨_,rfl⟩:=g5 hl;rfl));have Zlk:cn l.prog w K mg base "_law_bad_rule" 1 ["_law_cell"] oq:=Zit.df X G (rF Ziu T) (Ziu.binds (fun _ _ _ _ _ _ us hl=>by obtain⟨_,rfl⟩:=g5 hl;rfl));have Zll:cn l.prog w K mg base "_law_rows" 4 ["_law_script"] (qg K):=Ziv.df X G (zM Ziw T (Zji.up (by decide)) (Zli.up (by decide))) (Ziw.binds (fun _ _ _ _ _ _ us hl=>by obtain⟨_,rfl⟩:=g5 hl;rfl));have Zlm:cn l.prog w K mg base "_law_turned" 2 ["_law_rows_here","_law_cell"] mh:=Zix.df X G (vP Ziy T Zlj Zlk) (Ziy.binds (fun _ _ _ _ _ _ us hl=>by obtain⟨_,_,rfl⟩:=wc hl;rfl));have Zln:cn l.prog w K mg base "_law_due" 1 ["_law_rows_here"] (yu K):=Ziz.df X G (Br Zi0 T) (Zi0.binds (fun _ _ _ _ _ _ us hl=>by obtain⟨_,rfl⟩:=g5 hl;rfl));have Zlo:cn l.prog w K mg base "_law_heavy" 1 ["_law_rows_here"] (qb K):=Zi1.df X G (xT Zi2 T) (Zi2.binds (fun _ _ _ _ _ _ us hl=>by obtain⟨_,rfl⟩:=g5 hl;rfl));have Zlp:cn l.prog w K mg base "_law_refusal" 9 ["_law_e","_law_row"] (jO Zab):=Zi3.df X G (tD Zi4 TX Zfr) (Zi4.binds (fun _ _ _ _ _ _ us hl=>by obtain⟨_,_,rfl⟩:=wc hl;rfl));have Zlq:cn l.prog w K mg base "_law_right" 12 ["_law_rows_here"] (qf l.prog w K mg base a_MAKERS Zaa):=Zi5.df X G (xU Zi6 TX Za1 (Zln.up (by decide)) (Zlo.up (by decide)) (Zlp.up (by decide)) (Zlf.up (by decide)) Zle Zi7) (Zi6.binds (fun _ _ _ _ _ _ us hl=>by obtain⟨_,rfl⟩:=g5 hl;rfl));exact Bt Zfn.fn T t_MAKERS MS (Zll.up (by decide)) (Zlm.up (by decide)) (Zji.up (by decide)) Zlq
theorem walk{l:PySem.W.OpenLaw}{q:Program}{loose:List Str}{XP:(Str→Option Value)→Heap→Prop}{YP:World→Heap→Prop}{d:DefRec}{K:Params→Frag}(hn:l.most=some 63)(hdf:d.params.defaults=[])
  (hY:∀(w:World) (h:Heap),YP w h→(K w.params).In h)
  (F:∀(w:World) (mg:Str→Option Value) (fa:Addr) (h:Heap),(K w.params).In h→h.Ns mainGlobals mg→mg d.name=some (.ref fa)→
   ∃fd:FuncData,(∀(s:Shared) (u:Value),BindsTo s fd ⟨[u],[]⟩ [("_law_script",u)])∧∀base:Heap,(K w.params).In base→base.Ns mainGlobals mg→az l.prog w (K w.params) mg base bH 13 fa fd ["_law_script"] (uU (K w.params))) :
  PySem.W.WalkO q loose XP YP l.row.toRowW d [] (fun f vs=>PySem.call f vs):=
 L2.walk_ofB (n:=63) (k:=13) (x:="_law_script") (CX:=fun _=>bH) (sp:=fun w=>uU (K w.params)) hn (by decide) hdf ⟨rfl,by decide,by decide⟩ hY F (fun _ _ a ns hl hb _ hS=>⟨a,ns,rfl,hS,hb,hl,fun _=>rfl⟩) fun _ _ _ _ _ z=>z
end K22
namespace PySem.W.Fast
def tw16658259599517020618:=0
def tw8103826619988631584:=0
def tw16552153857292313960:=0
def tw4296613730671602010:=0
def tw8555802387143427760:=0
def tw9493511520184909820:=0
def tw514774512555044016:=0
def tw7750701864626829440:=0
def tw16240672204888396928:=0
def tw9500193152550835392:=0
def tw992229991305593024:=0
def tw3343170978054954176:=0
def tw14641384452010848625:=0
def tw7654318818801909984:=0
def tw4174834631102614752:=0
def tw11948985326725062880:=0
def tw15950354584392996475:=0
def tw11847594178772828512:=0
def tw4739189472238268212:=0
def tw1889303433978542762:=0
def tw390463610942104992:=0
def tw9331280393384633760:=0
def tw14674718763632250272:=0
def tw16624971094565323216:=0
def tw7637776813448654264:=0
def tw6978124105189687081:=0
def tw3486435718760435287:=0
def tw8035721906186923552:=0
def tw16282427363028944655:=0
def tw6706252391576564256:=0
def tw3067798523411553927:=0
def tw9510961796820565600:=0
def tw4375612436442890848:=0
def tw4735179000331767424:=0
def tw7411783310022574522:=0
def tw9901855020173878093:=0
def tw2411750772226460711:=0
def tw5307435518967012353:=0
def tw11419247094754155200:=0
def tw1721809735562181763:=0
def tw7230252374111450089:=0
def tw18182904817320639200:=0
def tw7115528852736441399:=0
def tw3077163265633048384:=0
def tw11178149387878173945:=0
def tw817817559135959936:=0
def tw17726917982507748224:=0
def tw11139698362950936047:=0
def tw6246582883193238432:=0
def tw1511056887564231584:=0
def tw4520053090384111725:=0
def tw4824773151608095680:=0
def tw4035599463437052896:=0
def tw7624972587615796192:=0
def tw15202089396024587399:=0
def tw1342282659054946401:=0
def tw9244556539461943393:=0
def tw2346403511973600353:=0
def tw13735064573267484435:=0
def tw11462822872457441377:=0
def tw3608951893061365772:=0
def tw4378026900399731841:=0
def tw3155289555692734625:=0
def tw6234238593480429325:=0
def tw14406664139298271393:=0
def tw7559076219123929281:=0
def tw1196435387790229761:=0
def tw1219422647518275841:=0
def tw569967039934362881:=0
def tw2873785043076738301:=0
def tw8975464979787993794:=0
def tw3714977853685042215:=0
def tw12479101192583445825:=0
def tw6257687914283312925:=0
def tw16061424794289889633:=0
def tw41447281968537985:=0
def tw5008820149338094022:=0
def tw2363456175580999041:=0
def tw2210943760281232801:=0
def tw10998535411098136001:=0
def tw17534515897255546076:=0
def tw108957982362103233:=0
def tw6680023975426357697:=0
def tw5046277441392182753:=0
def tw15086809282291822154:=0
def tw14224726291589287477:=0
def tw4958959654753284638:=0
def tw15492966104660036378:=0
def tw4409517580731397132:=0
def tw27816079524180499:=0
def tw17869063418516569665:=0
def tw16719242856479503135:=0
def tw17808032568367080033:=0
def tw5745300330077095585:=0
def tw16443855547476809246:=0
def tw16292142341701660321:=0
def tw16789610488807708412:=0
def tw2362629350688276161:=0
def tw18316296556310512321:=0
def tw2551576163548119777:=0
def tw3527472159332855521:=0
def tw2024745649467796477:=0
def tw3524844851286325853:=0
def tw11882194154440697633:=0
def tw13498053712664349135:=0
def tw11210628704460215967:=0
def tw17114675109513373569:=0
def tw4226130546660212189:=0
def tw17570206397832257409:=0
def tw16791110973006237601:=0
def tw6221503037596808023:=0
def tw7045305966263164880:=0
def tw1916814623566703097:=0
def tw17700468619689633986:=0
def tw5808982420854347356:=0
def tw16146175048035627202:=0
def tw4638439075657821442:=0
def tw5940284958496874345:=0
def tw6584654601065736155:=0
def tw3883784394838297922:=0
def tw16504768179991974210:=0
def tw1367612745228555650:=0
def tw4711694800847542658:=0
def tw7801473579198835600:=0
def tw9770375331086206683:=0
def tw14497718955838596634:=0
def tw9699193986980934275:=0
def tw1902649009740714874:=0
def tw221432437360711202:=0
def tw15235134545395581570:=0
def tw7215816502206273154:=0
def tw7317821806032714723:=0
def tw6863605829418015271:=0
def tw11737026421324165412:=0
def tw230344810969484994:=0
def tw13067034533618696710:=0
def tw5796619037510853627:=0
def tw838361204105944834:=0
def tw14458048409380791074:=0
def tw764449034124439678:=0
def tw2510417502088888828:=0
def tw139068392483054948:=0
def tw3671548069058404162:=0
def tw14074657644743963490:=0
def tw4376599581482240303:=0
def tw1050083436940515543:=0
def tw17375497395927865739:=0
def tw7061256947481287586:=0
def tw16331727136292985794:=0
def tw11405143974465944522:=0
def tw12443079824471767010:=0
def tw12415023694809597413:=0
def tw9699890994262935242:=0
def tw6202282797607347602:=0
def tw18120542001944310020:=0
def tw5960133147562488271:=0
def tw7250596020500502813:=0
def tw3833960259311512600:=0
def tw12258308304297769123:=0
def tw4258026216820723416:=0
def tw3105551656360111299:=0
def tw7696610488161748195:=0
def tw18180128643487206627:=0
def tw15812113269061121899:=0
def tw1559017458249549091:=0
def tw13216661238483685699:=0
def tw14594810312191277443:=0
def tw3732443161649102211:=0
def tw11697131169595699952:=0
def tw11315965957670056978:=0
def tw5725110807351348772:=0
def tw16229020565780310807:=0
def tw1803695233600970179:=0
def tw5069469650608652764:=0
def tw2512986412378186329:=0
def tw16230370509439939107:=0
def tw4483570340010480850:=0
def tw11814537259238358627:=0
def tw5674752470792633987:=0
def tw2041607694290393030:=0
def tw7674769120743056035:=0
def tw1684570173968752323:=0
def tw2854589950615023156:=0
def tw641514660570017894:=0
def tw16074703627874329925:=0
def tw5557585831414425881:=0
def tw10718387779670135216:=0
def tw12136936442095945244:=0
def tw15064640547345095555:=0
def tw18396906681386788739:=0
def tw2944195880674787099:=0
def tw615205092375258019:=0
def tw13437943930570404771:=0
def tw1902572650174163907:=0
def tw14459762953002265539:=0
def tw2443445580204863427:=0
def tw13636647759393939427:=0
def tw16055418591464598990:=0
def tw18090384573035295819:=0
def tw7200350648030084326:=0
def tw11365295899685845903:=0
def tw2942529121550550084:=0
def tw10659645706926540932:=0
def tw7124944417348274308:=0
def tw18400761791120763044:=0
def tw16706083361170874239:=0
def tw8871486482335107300:=0
def tw2504332594908261604:=0
def tw11549373590228213529:=0
def tw16841628642823392516:=0
def tw15694517936643169572:=0
def tw6196123142138463794:=0
def tw11101499096648176964:=0
def tw10209497351448654927:=0
def tw17013834292891683591:=0
def tw528306169854970212:=0
def tw467066750812477796:=0
def tw7717474294727901572:=0
def tw4020946773343496855:=0
def tw11198456572946444676:=0
def tw7277889951771565478:=0
def tw15301572186150345460:=0
def tw7687782860179622681:=0
def tw17321365473106506180:=0
def tw6410063092631733732:=0
def tw5528240389643501397:=0
def tw7777212141037828046:=0
def tw13677212302924371979:=0
def tw1926519636663883067:=0
def tw11846888174287714820:=0
def tw9107618688768454263:=0
def tw17049507310245597764:=0
def tw12597321989679085429:=0
def tw13970797465203572292:=0
def tw13102831112071866109:=0
def tw9386826285390639025:=0
def tw16113794808780910293:=0
def tw12863314045822390884:=0
def tw4441972475465705574:=0
def tw14458958918762206884:=0
def tw11646657386079657277:=0
def tw13477302706642694852:=0
def tw3609326351132527332:=0
def tw12774133986430025590:=0
def tw379845741154418436:=0
def tw12076610658620234150:=0
def tw3975539664359961253:=0
def tw7872984269092745430:=0
def tw13171824425699030884:=0
def tw4631420620234483911:=0
def tw4603658169567453092:=0
def tw1081008724386107387:=0
def tw17304438317611235881:=0
def tw15565816655646116244:=0
def tw12938750600380872644:=0
def tw14834085333458622436:=0
def tw16227140224787850212:=0
def tw1171045964360318981:=0
def tw13891915112069465997:=0
def tw9004599932392808485:=0
def tw13696848866355129438:=0
def tw6701190298029075557:=0
def tw17816428889594596485:=0
def tw7796404850952921221:=0
def tw10411789963474891909:=0
def tw4733593824970446195:=0
def tw14606731023063622853:=0
def tw16369702439989849001:=0
def tw2827209146189556933:=0
def tw8437459507509834949:=0
def tw11641612884066486501:=0
def tw3351500420615306478:=0
def tw14596864740783706409:=0
def tw12224384400451151109:=0
def tw16907740300366057492:=0
def tw359078285418436351:=0
def tw10634280905932577167:=0
def tw8903289888095918565:=0
def tw10107813056100007563:=0
def tw493179358746485372:=0
def tw8190021360870016517:=0
def tw6410586489948424112:=0
def tw6036021860160925850:=0
def tw6842684900408743128:=0
def tw229744444589029957:=0
def tw16616039354057652837:=0
def tw1264248841983436453:=0
def tw3763030661818154693:=0
def tw7627677696179830684:=0
def tw5094045659387163365:=0
def tw2547605413015743831:=0
def tw482878887322893093:=0
def tw16365456469097063622:=0
def tw14412537251168233317:=0
def tw411342552920146821:=0
def tw13768687637749143429:=0
def tw7371532321344979877:=0
def tw2793271576801047565:=0
def tw1063947835899685829:=0
def tw129296366418479077:=0
def tw3900613085427720165:=0
def tw9357112554497518565:=0
def tw5668159024926492747:=0
def tw17674201782419755046:=0
def tw16669259192948894758:=0
def tw7023262473637221944:=0
def tw5882701552318886054:=0
def tw16645092618899646247:=0
def tw3250164168943346758:=0
def tw12023853193179890109:=0
def tw1891420676190233736:=0
def tw6061492477050120141:=0
def tw12304184392741367910:=0
def tw10131988068124408934:=0
def tw2373505096964595102:=0
def tw10997282479664347334:=0
def tw3400277063607089895:=0
def tw4508919786522551526:=0
def tw9942557442994698664:=0
def tw4762964509095122889:=0
def tw18368396662242535750:=0
def tw2870406883354697030:=0
def tw7406326953030523238:=0
def tw8648273095787275573:=0
def tw6825181809051100518:=0
def tw15901191649153919366:=0
def tw5649761756306389326:=0
def tw14263495707305451366:=0
def tw17328290743788874715:=0
def tw9917776090817939910:=0
def tw1889361590424096198:=0
def tw13088829865135461830:=0
def tw13925239193914248678:=0
def tw7015580572672064998:=0
def tw8732282183066289626:=0
def tw16179601061113741862:=0
def tw13613972682107931174:=0
def tw13465212618857945670:=0
def tw12178092429923397190:=0
def tw13836799050030231110:=0
def tw1452280001592146502:=0
def tw15651498127110411878:=0
def tw5244768141046639206:=0
def tw6453518008578605702:=0
def tw36931952038647430:=0
def tw9693791621903283846:=0
def tw1688743948713163398:=0
def tw1380848973465337691:=0
def tw2132893326035593897:=0
def tw10739868164760704710:=0
def tw17138623017692969670:=0
def tw8665730808508834502:=0
def tw5267254435764754603:=0
def tw13767001091698487736:=0
def tw11491188621765428998:=0
def tw2051682981149693702:=0
def tw11934803667775835942:=0
def tw11804337360549965606:=0
def tw11712666421572067142:=0
def tw6070271714458451645:=0
def tw4596453974347151206:=0
def tw10125609020735017116:=0
def tw11918193850578447270:=0
def tw4571695258012628361:=0
def tw7140983122249159622:=0
def tw11055291456710212346:=0
def tw17619841427313425173:=0
def tw14934772741369527839:=0
def tw1804817554470078503:=0
def tw15435377852096208935:=0
def tw16617167326143993169:=0
def tw4688034498452319271:=0
def tw15902701480261927284:=0
def tw7921023860759081095:=0
def tw10330284514840534151:=0
def tw1063970808268162279:=0
def tw12806399291787814103:=0
def tw17353053271403264263:=0
def tw15326543968607444231:=0
def tw15263312837601114407:=0
def tw4424802234578162983:=0
def tw3373070088840627527:=0
def tw14223400059235245461:=0
def tw9489782168880160103:=0
def tw17515709491973596749:=0
def tw12106003087478313351:=0
def tw360327960417760647:=0
def tw12618322530538166781:=0
def tw2881553291565609015:=0
def tw11591944653260677671:=0
def tw15175344415452550035:=0
def tw11406971156606918247:=0
def tw16413198723457193802:=0
def tw433377274463434388:=0
def tw13855586504132722343:=0
def tw12196924453210392692:=0
def tw4738629889460350663:=0
def tw7800842291015962311:=0
def tw4317753319912681191:=0
def tw9104577567640008487:=0
def tw9074524433011345223:=0
def tw17452129572690946483:=0
def tw11316275961762115824:=0
def tw2583803948566326119:=0
def tw16119468450321626335:=0
def tw1886068712434974631:=0
def tw2496941821904200843:=0
def tw15980509936842077159:=0
def tw598647849259151304:=0
def tw1603696934846760968:=0
def tw1552234473739590664:=0
def tw349320322920029192:=0
def tw1623757869002229421:=0
def tw3938894364611475624:=0
def tw12584857146670052520:=0
def tw14702409110053482696:=0
def tw2180252033175384264:=0
def tw12939490126927126760:=0
def tw12906742898887553228:=0
def tw14611516178567947516:=0
def tw1186370830473130032:=0
def tw5866864389220694280:=0
def tw16007280688051963176:=0
def tw16335301583482818713:=0
def tw7689604640169123144:=0
def tw12083893950069859656:=0
def tw2897356280431506760:=0
def tw10290234638766671006:=0
def tw5024428626801015793:=0
def tw1295661537862401071:=0
def tw8213036164039128695:=0
def tw16752599108832868776:=0
def tw1333220229982457929:=0
def tw6478041610061537704:=0
def tw4650132813668065736:=0
def tw7507176345014609352:=0
def tw8729573680590644573:=0
def tw16366401164804762088:=0
def tw472161445744166376:=0
def tw3697496179789099496:=0
def tw12145605619301658152:=0
def tw9040724107012214344:=0
def tw7751367352426516339:=0
def tw5225952397994190472:=0
def tw16445077601460156040:=0
def tw13187493321296178856:=0
def tw15207744667248400104:=0
def tw11027638631342944882:=0
def tw3019377541050181480:=0
def tw13509934611331133586:=0
def tw12178511800672472254:=0
def tw8455476376266191752:=0
def tw15633595674290847466:=0
def tw9022043233649818172:=0
def tw7973035164064974792:=0
def tw9743979224639520088:=0
def tw6655384724540664776:=0
def tw4697153916956245960:=0
def tw12198423242562551531:=0
def tw17442120714077964329:=0
def tw5836397488906480681:=0
def tw3511480254220355625:=0
def tw16253982372214590537:=0
def tw5778332404727962697:=0
def tw14163024556356415689:=0
def tw17741357815880770461:=0
def tw17727231114266366313:=0
def tw15515610211227731337:=0
def tw10176656827938475401:=0
def tw14125440775358547369:=0
def tw14917092090457116073:=0
def tw4392529014522927529:=0
def tw12797223602858405321:=0
def tw8893339476109386185:=0
def tw10583990441399381801:=0
def tw4292670007885392329:=0
def tw5441992756782230985:=0
def tw10862218713642793417:=0
def tw10020413208073860713:=0
def tw4584576116892183209:=0
def tw3591594477775582555:=0
def tw5875599204293672427:=0
def tw17836703377928069929:=0
def tw8993645400289615375:=0
def tw8808491123325252179:=0
def tw1253376083046312841:=0
def tw16490469163300505662:=0
def tw3205864161939801001:=0
def tw7003993084386556873:=0
def tw8515259245110646927:=0
def tw15668425428209300490:=0
def tw9965055433494337578:=0
def tw16318763995764902327:=0
def tw7202199774716816050:=0
def tw694511415933738775:=0
def tw7215330559476455756:=0
def tw4499885156803783786:=0
def tw1505921143566215274:=0
def tw2094196471980585098:=0
def tw2908596620750160042:=0
def tw14707961900881819403:=0
def tw17506748290434787514:=0
def tw1499092467551311114:=0
def tw6066455769193365977:=0
def tw15410140240977528430:=0
def tw16436727532403171410:=0
def tw5596121783863014253:=0
def tw6197464954079120913:=0
def tw10378396545291889497:=0
def tw13916757277405750826:=0
def tw17156368049603250827:=0
def tw14067075705185661514:=0
def tw441901332489836012:=0
def tw17040637124963897994:=0
def tw6279495969307936394:=0
def tw1808561979369013239:=0
def tw7157728853305517738:=0
def tw16084813388655819247:=0
def tw15517142235463534282:=0
def tw8848594237762879242:=0
def tw18421362358687865674:=0
def tw7347596796594087754:=0
def tw10182182690562086893:=0
def tw16972884846804150779:=0
def tw16989732750719135247:=0
def tw10755134550137229329:=0
def tw15472595185429647403:=0
def tw15392030650623497259:=0
def tw7061323164105681963:=0
def tw10764675453652754475:=0
def tw7566744710496269387:=0
def tw1227502581571309855:=0
def tw922531252240154264:=0
def tw9635626277949727134:=0
def tw3335196844042780880:=0
def tw3242110821916321067:=0
def tw6506769315667507499:=0
def tw16274214696650521963:=0
def tw9432531433182453131:=0
def tw2806777150022282635:=0
def tw10537043266287375766:=0
def tw11830814160496493995:=0
def tw14012501799752645067:=0
def tw17463504562909938155:=0
def tw15316443048575281675:=0
def tw16260268757991132715:=0
def tw9396324261755617931:=0
def tw4180583749089997451:=0
def tw2158322001800685195:=0
def tw6617579623597033560:=0
def tw15782802925728608971:=0
def tw6778670068851060491:=0
def tw10633491178144361342:=0
def tw10891779066272603250:=0
def tw17815413724415211540:=0
def tw3988808855206242300:=0
def tw9487946141354885963:=0
def tw3131092474662821301:=0
def tw13385810336005572523:=0
def tw6475866319642662898:=0
def tw16602371614161017900:=0
def tw13597981251152296076:=0
def tw13543473876118876919:=0
def tw1023693320583430316:=0
def tw616009787151896748:=0
def tw12224803061585395054:=0
def tw16488856629103082044:=0
def tw10261025476214977740:=0
def tw9483702400889965595:=0
def tw1245037790362317645:=0
def tw15591200489455432940:=0
def tw17581077056142017804:=0
def tw14486474867156353042:=0
def tw9112490871683644684:=0
def tw11044885415482527052:=0
def tw3310055656476129644:=0
def tw10559313935738311606:=0
def tw5127258594572628428:=0
def tw948479556351238604:=0
def tw7524621383232261881:=0
def tw9406839874752398961:=0
def tw7704714257258578828:=0
def tw2764045061979511468:=0
def tw3884835612689998610:=0
def tw14048684634802114284:=0
def tw16047988258127694671:=0
def tw2937480115442161420:=0
def tw4041990966683543836:=0
def tw6832563089900771116:=0
def tw3617152353445481292:=0
def tw12801095738188202895:=0
def tw3230174085924091800:=0
def tw16975730490920682779:=0
def tw12965251361132739629:=0
def tw2861843041965946957:=0
def tw4406663900316335181:=0
def tw15411635612374603279:=0
def tw11788872636064691309:=0
def tw14128344178665450637:=0
def tw5504250722325487789:=0
def tw13306261536671977974:=0
def tw15285301738402614073:=0
def tw18170424883159627030:=0
def tw16999942678169389389:=0
def tw11981016841356740144:=0
def tw10982418880797698381:=0
def tw9151284947494112621:=0
def tw13012842141737349517:=0
def tw6792151559051730349:=0
def tw13764370887177022957:=0
def tw5995024865098179446:=0
def tw14673146718496983565:=0
def tw5894783404487778829:=0
def tw9316962109055967757:=0
def tw18119600853424292083:=0
def tw1696732012602374937:=0
def tw16452074117409107826:=0
def tw11175645729650716269:=0
def tw7142373435813651053:=0
def tw11589016851655239897:=0
def tw13248282170304716473:=0
def tw11996997329670528749:=0
def tw5718708416715711213:=0
def tw631041650161448528:=0
def tw6508083777203791894:=0
def tw1366111833105934157:=0
def tw4637384031881945965:=0
def tw9494770224351327854:=0
def tw9417435392181386518:=0
def tw16190608198144444397:=0
def tw16713705904574778382:=0
def tw14152535182530494510:=0
def tw18386368581995986030:=0
def tw12866384822993880206:=0
def tw12834240771947530996:=0
def tw165547555468625038:=0
def tw17180658347366243470:=0
def tw11072470248912379054:=0
def tw10727408972270591150:=0
def tw9541341339482154110:=0
def tw5194022931170734414:=0
def tw1426968365274453780:=0
def tw18176088541185688816:=0
def tw9803496709537543534:=0
def tw16519017121066268118:=0
def tw2727232968511536654:=0
def tw13035656869985488398:=0
def tw8492537612570084270:=0
def tw4402114636712280508:=0
def tw4061997465465702523:=0
def tw4395939819297749646:=0
def tw15831414047970766871:=0
def tw18366355393251677999:=0
def tw4015564044867243126:=0
def tw14871984448982405499:=0
def tw17127962948478735086:=0
def tw13367461055384376046:=0
def tw928063284609194830:=0
def tw13237304729407552366:=0
def tw8971486191721671598:=0
def tw7603687804534427256:=0
def tw8726667532827614190:=0
def tw12105680342156779502:=0
def tw1107601980815727598:=0
def tw15928810594950101007:=0
def tw11719473382648424495:=0
def tw15397973130759000147:=0
def tw11039379811541873008:=0
def tw14602891130374086808:=0
def tw10585667976797546461:=0
def tw3367166528273457455:=0
def tw6433474144757821743:=0
def tw6959828112393982255:=0
def tw8673985298653112851:=0
def tw9591717086708033945:=0
def tw2171639428325231983:=0
def tw10757943356078301583:=0
def tw14552506908561085360:=0
def tw14150245002574582191:=0
def tw11837604707178618351:=0
def tw3432253710292381594:=0
def tw8689569586606175727:=0
def tw8275163190128394075:=0
def tw17371529936151181335:=0
def tw9222414123998590575:=0
def tw4220443390393125489:=0
def tw11075708242744396186:=0
def tw14509986800872483831:=0
def tw11302212901207376275:=0
def tw6961700240307711823:=0
def tw15354456900301074908:=0
def tw7416421313016420239:=0
def tw17479900505193993362:=0
def tw5447525854384830486:=0
def tw3298932505298398159:=0
def tw16686282629686860848:=0
def tw8705197968111017078:=0
def tw4048493139624502448:=0
def tw4926657235039079289:=0
def tw8362547112126035508:=0
def tw9031222740205511376:=0
def tw3268749934736398807:=0
def tw13308973315689630460:=0
def tw12837468794052680048:=0
def tw5066050542608304496:=0
def tw4018330417838093712:=0
def tw2851015344216933904:=0
def tw4029675114539739696:=0
def tw7926881128234827573:=0
def tw9949940081876436624:=0
def tw15426838683085625147:=0
def tw6508335804537323423:=0
def tw11524374241247961840:=0
def tw7746722290989569872:=0
def tw16248418192482502512:=0
def tw541725008439889776:=0
def tw15094409407617534864:=0
def tw7304920186623058832:=0
def tw6174269405469893586:=0
def tw4939044664592001586:=0
def tw11811027515701311451:=0
def tw9811388711391741969:=0
def tw643118506651866129:=0
def tw4493933499545134132:=0
def tw6769950930729688305:=0
def tw13299155938732231953:=0
def tw666536725184268561:=0
def tw8095915843354052913:=0
def tw6297319454574633329:=0
def tw13980965720267311609:=0
def tw13487226303913043762:=0
def tw11534109768931076447:=0
def tw10767212218871168243:=0
def tw11154823026508604382:=0
def tw7294593517530192401:=0
def tw15030944672283145777:=0
def tw1031834067394100785:=0
def tw11657239126790697553:=0
def tw18110932888051524470:=0
def tw13793950173245994641:=0
def tw8213634283043429105:=0
def tw1482051405373537105:=0
def tw11180805157636672337:=0
def tw6002024088705558353:=0
def tw14236917835749464856:=0
def tw2899107165847479765:=0
def tw573267194237519545:=0
def tw8423755780329665336:=0
def tw1454614413834865746:=0
def tw9701582125729309810:=0
def tw17225269519837469842:=0
def tw10952595051859527707:=0
def tw9798477560240984374:=0
def tw7282043246826045362:=0
def tw10005590038412153141:=0
def tw18257917609563178418:=0
def tw5850525468106778034:=0
def tw5451944183849132498:=0
def tw6761648210651532754:=0
def tw2516010876722477685:=0
def tw14298871416368414194:=0
def tw11601951895810554386:=0
def tw13955331141082125874:=0
def tw3546043016937871514:=0
def tw17140012917056457587:=0
def tw16192548613174369432:=0
def tw6603504030246751026:=0
def tw3826466667976674168:=0
def tw18139271167821701010:=0
def tw8528971715672541106:=0
def tw17270149072547345330:=0
def tw6545823099626815410:=0
def tw501819268967929810:=0
def tw16334830757104659442:=0
def tw9359866477627013342:=0
def tw11801075120708852755:=0
def tw2002282175899696147:=0
def tw14662149243060623036:=0
def tw12195707542961406166:=0
def tw17953738772348086323:=0
def tw16931195119544869886:=0
def tw6675813671499003027:=0
def tw5907614555226436122:=0
def tw4858198644911634643:=0
def tw1742216792708743575:=0
def tw17540071651101783411:=0
def tw9981734978208839059:=0
def tw13984747797071182227:=0
def tw9077238612868816499:=0
def tw9688684308682288059:=0
def tw303324863418155101:=0
def tw1605957559944116184:=0
def tw7487819615420943987:=0
def tw9784027398019961491:=0
def tw7057345248029305211:=0
def tw8404713487808589148:=0
def tw14563335235235525299:=0
def tw15306834228305444595:=0
def tw15268233242369717011:=0
def tw14904742368946172981:=0
def tw1946816594932913205:=0
def tw481386240969523091:=0
def tw17379752519785948985:=0
def tw9573133379729775167:=0
def tw7834426769416492116:=0
def tw8411013695002570971:=0
def tw13471920951161985172:=0
def tw10896450259080776792:=0
def tw441398698368939220:=0
def tw9314763890474666333:=0
def tw17801836603145463033:=0
def tw11086173726470894996:=0
def tw13039893589970984532:=0
def tw15976877045615199288:=0
def tw17724525342550204020:=0
def tw5644950440869969652:=0
def tw10548597092136540948:=0
def tw8093025996522516244:=0
def tw16995135623157843796:=0
def tw7140526128317084987:=0
def tw15369618297092843223:=0
def tw15731642887433385876:=0
def tw1275840379537483005:=0
def tw15702841336328111092:=0
def tw16514140887205289972:=0
def tw18220042474706509845:=0
def tw10617546967431773557:=0
def tw11187340089961921589:=0
def tw10250771703182162427:=0
def tw3623085635335231451:=0
def tw1499198118213591445:=0
def tw9822747451162607702:=0
def tw6796573367683553045:=0
def tw1514266189724541749:=0
def tw9461982419200550773:=0
def tw12632909840360958965:=0
def tw15688451891104502262:=0
def tw8763358773099630207:=0
def tw193237240302940350:=0
def tw10664505092248394038:=0
def tw17265091830825608791:=0
def tw2447550151430848886:=0
def tw1840341325290157978:=0
def tw14644637952727324118:=0
def tw11242733688796833238:=0
def tw6925530944819580406:=0
def tw18128123937947787798:=0
def tw11254930501931153974:=0
def tw7735645713629864443:=0
def tw15824742725803260538:=0
def tw786302235313572799:=0
def tw12992878195153599190:=0
def tw2315537163522823642:=0
def tw10046492659154023800:=0
def tw9488109182009722646:=0
def tw8549146402564636827:=0
def tw3578141538886714262:=0
def tw480227677825781654:=0
def tw16031770999196116950:=0
def tw682571327714661342:=0
def tw2817073751801873788:=0
def tw765337414972903743:=0
def tw7378889748618157207:=0
def tw11888645082697924919:=0
def tw10621520463248645594:=0
def tw6104262971752741437:=0
def tw12937678957401197911:=0
def tw2088072478811481431:=0
def tw16227222692636622199:=0
def tw6359939887692568951:=0
def tw16640326764601980153:=0
def tw2579491762134135772:=0
def tw7175116934808548919:=0
def tw4573686408324097660:=0
def tw17898537102399802237:=0
def tw2557167316037538583:=0
def tw10648150137876624151:=0
def tw10475879211057989463:=0
def tw8219973822544370551:=0
def tw4743854326728647543:=0
def tw14099644667428990903:=0
def tw11669591189353348055:=0
def tw11679059467982856278:=0
def tw13535487635087591709:=0
def tw12557126760455898200:=0
def tw7538272745499211290:=0
def tw6985239561380418680:=0
def tw17673575628494566616:=0
def tw17247654832724148126:=0
def tw11090388370661888154:=0
def tw5157211779934602431:=0
def tw14137169867100975640:=0
def tw17121830468930338392:=0
def tw8617659722979057272:=0
def tw11110045007772682904:=0
def tw11510821458045424312:=0
def tw3530734630965001912:=0
def tw4963043160484220734:=0
def tw11688054239141494488:=0
def tw7560267034521902905:=0
def tw16893205457178147736:=0
def tw6473594163467839320:=0
def tw6379488220622803806:=0
def tw8856532915435705691:=0
def tw9169575179434206491:=0
def tw15113579581305423289:=0
def tw17868878767718278876:=0
def tw11496480399883033753:=0
def tw10931177205009419577:=0
def tw6667975787351338719:=0
def tw5409828663841666361:=0
def tw1308140453058505017:=0
def tw9604014228120762713:=0
def tw16272857842623555065:=0
def tw8317256352057890329:=0
def tw14491556468647462457:=0
def tw9586204468287141433:=0
def tw18025233679490029209:=0
def tw13822220039154572092:=0
def tw1228311621095420761:=0
def tw12505277773766320057:=0
def tw13799871668223528989:=0
def tw6617470800463933433:=0
def tw2475889887349695481:=0
def tw63237997992974426:=0
def tw16399929932899816602:=0
def tw13577430369684238490:=0
def tw16768248058486486202:=0
def tw2233055485917951226:=0
def tw8274093983502407994:=0
def tw15206584060335963450:=0
def tw6343687429536841403:=0
def tw2233826048721596762:=0
def tw15013704968549589567:=0
def tw10854065082183953914:=0
def tw13097466617759063610:=0
def tw11507997055527771706:=0
def tw1644130846200164954:=0
def tw17867554817454818459:=0
def tw10735309953289489595:=0
def tw8851922049450074299:=0
def tw9636023339101581627:=0
def tw11014301397161382171:=0
def tw13218406200629888315:=0
def tw13316558303198567837:=0
def tw7173267369838252575:=0
def tw1496155487368668635:=0
def tw11619338270428446587:=0
def tw10402032778973856571:=0
def tw7479156988541031259:=0
def tw5713248178726034267:=0
def tw17604528983726897533:=0
def tw7404748711257113499:=0
def tw6586374974071621567:=0
def tw12018723976120743899:=0
def tw3500744502502163836:=0
def tw12869160716785645980:=0
def tw3049097483404439036:=0
def tw8436686213666208284:=0
def tw10481933856670479932:=0
def tw13339368109197432444:=0
def tw17335345542786106044:=0
def tw5122784359473411996:=0
def tw596628468660311165:=0
def tw12944092257211562558:=0
def tw1983987050288014621:=0
def tw9025395579142956445:=0
def tw3591088890357340637:=0
def tw13517589918373177085:=0
def tw16940656141477764126:=0
def tw11180189982284877535:=0
def tw4484214815141513374:=0
def tw15332209738800364862:=0
def tw6321526453447671134:=0
def tw10571397502707766686:=0
def tw7699095661278700990:=0
def tw17741927690824261086:=0
def tw1155421373221471742:=0
def tw14363863129754869438:=0
def tw145882232674110559:=0
def tw14933745421470786270:=0
def tw5539939956564544350:=0
def tw16638249550961548190:=0
def tw10625934736770838559:=0
def tw13256624654255917151:=0
def tw10454699335287953631:=0
def tw16535120804219199743:=0
def tw4160961869801052607:=0
def tw18171500255213566431:=0
def tw10299301868106928959:=0
def tw16417872543902868319:=0
def tw5795129708466422783:=0
end PySem.W.Fast
local macro_rules | `(tactic| walk_at "h0") => `(tactic| (refine' L2.defAt_mk ?a ?l ?c ?k; (case a=>k_is); (case l=>k_is); (case c=>k_is); (case k=>k_is)))
local macro_rules | `(tactic| walk_at "h1") => `(tactic| (refine' L2.kit_own ?a ?b ?c ?d; (case a=>rfl); (case b=>k_is); (case c=>k_is); (case d=>k_is)))
local macro_rules | `(tactic| walk_at "h2") => `(tactic| (refine' L2.methAt_mk ?a ?i ?l ?c ?k; (case a=>k_is); (case i=>k_is); (case l=>k_is); (case c=>k_is); (case k=>k_is)))
local macro_rules | `(tactic| walk_at "h3") => `(tactic| (refine' L2.mkAt_mk ?n ?m ?a ?i ?kc ?l ?c ?k; (case n=>k_is); (case m=>k_is); (case a=>k_is); (case i=>k_is); (case kc=>k_is); (case l=>k_is); (case c=>k_is); (case k=>k_is)))
local macro_rules | `(tactic| walk_at "h4") => `(tactic| (refine'⟨?a,L2.fun_mk ?l ?c ?k⟩; (case a=>k_is); (case l=>k_is); (case c=>k_is); (case k=>k_is)))
local macro_rules | `(tactic| walk_at "h5") => `(tactic| (refine' L2.const_mk ?e ?r; (case e=>k_is); (case r=>exact⟨_,by with_unfolding_all rfl⟩)))
local macro_rules | `(tactic| walk_at "h6") => `(tactic| (refine'⟨⟨?a,?b,?c,?d⟩,?f0,?f1,?f2⟩; (case a=>k_is); (case b=>k_is); (case c=>k_is); (case d=>k_is); (case f0=>delta L2.NoAttr;k_is); (case f1=>delta L2.NoAttr;k_is); (case f2=>delta L2.NoAttr;k_is)))
local macro_rules | `(tactic| walk_at "h7") => `(tactic| (refine'⟨⟨?a,?b,?c,?d⟩,?f0,?f1,?f2,?f3⟩; (case a=>k_is); (case b=>k_is); (case c=>k_is); (case d=>k_is); (case f0=>delta L2.NoAttr;k_is); (case f1=>delta L2.NoAttr;k_is); (case f2=>delta L2.NoAttr;k_is); (case f3=>delta L2.NoAttr;k_is)))
local macro_rules | `(tactic| walk_at "h8") => `(tactic| (refine' L2.exm_own ?a ?b ?c ?d; (case a=>k_is); (case b=>k_is); (case c=>k_is); (case d=>k_is)))
open PySem PySem.W PyProof.Rows
set_option maxRecDepth 100000 in
set_option maxHeartbeats 0 in
theorem PySem.Challenge.cw_fourvoices_k22_rows_refused_holds : PySem.Challenge.rw_fourvoices_k22_rows_refused.Holds := by
 w_on;o_law;k_head;(case hw=>w_witness2)
 k_fill
 refine K22.walk (l:=PySem.Challenge.rw_fourvoices_k22_rows_refused) rfl rfl (fun w h Y=>PySem.W.kIn_of Y) ?F
 case F=>
  intro w mg fa h KX G hmg;refine' K22.all_mk KX G hmg ?Zft ?Zat ?Zfu ?Zau ?Zfv ?Zav ?Zfw ?Zaw ?Zfx ?Zax ?Zfy ?Zaq ?Zfz ?Zar ?Zf0 ?Zay ?Zf1 ?Zaz ?Zf2 ?Zas ?Zf3 ?Za1 ?Zb6 ?Zbb ?Zb7 ?Zb8 ?Zbc ?Zb9 ?Zca ?Zcb ?Zcc ?Zcd ?Zce ?Zcf ?Zcg ?Zch ?Zci ?Zcj ?Zck ?Zcl ?Zcm ?Zcn ?Zco ?Zcp ?Zcq ?Zcr ?Zcs ?Zct ?Zcu ?Zcv ?Zcw ?Zcx ?Zcy ?Zcz ?hn_ ?htk_ ?Zc0 ?Zc1 ?Zc2 ?Zc3 ?Zc4 ?Zc5 ?Zc6 ?Zc7 ?Zc8 ?Zc9 ?Zda ?Zdb ?Zdc ?Zdd ?Zde ?Zdf ?Zdg ?Zdh ?Zdi ?Zdj ?Zdk ?Zdl ?Zdm ?Zdn ?Zdo ?Zdp ?Zdq ?Zdr ?Zds ?Zdt ?Zdu ?Zdv ?Zdw ?Zdx ?Zdy ?Zdz ?Zd0 ?Zd1 ?Zd2 ?Zd3 ?Zd4 ?Zd5 ?Zd6 ?Zd7 ?Zd8 ?Zd9 ?Zea ?Zeb ?Zec ?Zed ?Zee ?Zef ?Zeg ?Zeh ?Zei ?Zej ?Zek ?Zel ?Zem ?Zen ?Zeo ?Zep ?Zeq ?Zer ?Zes ?Zet ?Zeu ?Zev ?Zew ?Zex ?Zey ?Zez ?Ze0 ?Ze1 ?Ze2 ?Ze3 ?Ze4 ?Ze5 ?Ze6 ?Ze7 ?Ze8 ?Ze9 ?Zfa ?Zfb ?Zfc ?Zfd ?Zfe ?Zff ?Zfg ?Zfh ?Zfi ?Zfj ?Zfk ?Zfl ?n_MAKERS ?t_MAKERS ?e_MAKERS ?n_INNER_KINDS ?q_INNER_KINDS ?z_len ?z_range ?z_all ?z_min ?z_abs ?z_max ?z_divmod ?z_any ?z_list ?z_isinstance ?z_bool ?z_int ?z_str ?z_enumerate ?z_tuple ?z_ValueError ?g_FIGURES ?g_MOST_FIGURES ?g_MOST_VOICES ?g_MOST_RULES ?g_MOST_WEIGHT ?g_MOST_NUMBERS ?Zfm
  (case Zft=>k_is)
  (case Zat=>walk_at "h7")
  (case Zfu=>k_is)
  (case Zau=>(refine'⟨⟨?a_3,?b_3,?c_3,?d_3⟩,?f0_3,?f1_3,?f2_3,?f3_3,?f4_3⟩;(case a_3=>k_is);(case b_3=>k_is);(case c_3=>k_is);(case d_3=>k_is);(case f0_3=>delta L2.NoAttr;k_is);(case f1_3=>delta L2.NoAttr;k_is);(case f2_3=>delta L2.NoAttr;k_is);(case f3_3=>delta L2.NoAttr;k_is);(case f4_3=>delta L2.NoAttr;k_is)))
  (case Zfv=>k_is)
  (case Zav=>walk_at "h6")
  (case Zfw=>k_is)
  (case Zaw=>walk_at "h7")
  (case Zfx=>k_is)
  (case Zax=>walk_at "h6")
  (case Zfy=>k_is)
  (case Zaq=>walk_at "h6")
  (case Zfz=>k_is)
  (case Zar=>(refine'⟨⟨?a_13,?b_13,?c_13,?d_13⟩,?f0_13,?f1_13,?f2_13,?f3_13,?f4_13⟩;(case a_13=>k_is);(case b_13=>k_is);(case c_13=>k_is);(case d_13=>k_is);(case f0_13=>delta L2.NoAttr;k_is);(case f1_13=>delta L2.NoAttr;k_is);(case f2_13=>delta L2.NoAttr;k_is);(case f3_13=>delta L2.NoAttr;k_is);(case f4_13=>delta L2.NoAttr;k_is)))
  (case Zf0=>k_is)
  (case Zay=>walk_at "h6")
  (case Zf1=>k_is)
  (case Zaz=>walk_at "h6")
  (case Zf2=>k_is)
  (case Zas=>walk_at "h7")
  (case Zf3=>k_is)
  (case Za1=>(refine'⟨⟨?a_21,?b_21,?c_21,?d_21⟩,?f0_21,?f1_21⟩;(case a_21=>k_is);(case b_21=>k_is);(case c_21=>k_is);(case d_21=>k_is);(case f0_21=>delta L2.NoAttr;k_is);(case f1_21=>delta L2.NoAttr;k_is)))
  (case Zb6=>k_is)
  (case Zbb=>k_is)
  (case Zb7=>k_is)
  (case Zb8=>k_is)
  (case Zbc=>k_is)
  (case Zb9=>k_is)
  (case Zca=>k_is)
  (case Zcb=>k_is)
  (case Zcc=>k_is)
  (case Zcd=>k_is)
  (case Zce=>k_is)
  (case Zcf=>k_is)
  (case Zcg=>k_is)
  (case Zch=>k_is)
  (case Zci=>(refine' L2.exAt_mk ?lk_36 ?ln_36 ?en_36 ?ii_36 ?aa_36 ?ab_36 ?ac_36 ?ad_36 ?ae_36 ?ls_36 ?lm_36 ?em_36 ?is_36 ?ba_36 ?bb_36 ?bc_36 ?bd_36 ?be_36 ?kp_36 ?fn_36 ?l_36 ?c_36 ?k_36;(case lk_36=>k_is);(case ln_36=>k_is);(case en_36=>rfl);(case ii_36=>k_is);(case aa_36=>k_is);(case ab_36=>k_is);(case ac_36=>k_is);(case ad_36=>k_is);(case ae_36=>k_is);(case ls_36=>k_is);(case lm_36=>k_is);(case em_36=>rfl);(case is_36=>k_is);(case ba_36=>k_is);(case bb_36=>k_is);(case bc_36=>k_is);(case bd_36=>k_is);(case be_36=>k_is);(case kp_36=>k_is);(case fn_36=>k_is);(case l_36=>k_is);(case c_36=>k_is);(case k_36=>k_is)))
  (case Zcj=>(refine' L2.exAt_mk ?lk_37 ?ln_37 ?en_37 ?ii_37 ?aa_37 ?ab_37 ?ac_37 ?ad_37 ?ae_37 ?ls_37 ?lm_37 ?em_37 ?is_37 ?ba_37 ?bb_37 ?bc_37 ?bd_37 ?be_37 ?kp_37 ?fn_37 ?l_37 ?c_37 ?k_37;(case lk_37=>k_is);(case ln_37=>k_is);(case en_37=>rfl);(case ii_37=>k_is);(case aa_37=>k_is);(case ab_37=>k_is);(case ac_37=>k_is);(case ad_37=>k_is);(case ae_37=>k_is);(case ls_37=>k_is);(case lm_37=>k_is);(case em_37=>rfl);(case is_37=>k_is);(case ba_37=>k_is);(case bb_37=>k_is);(case bc_37=>k_is);(case bd_37=>k_is);(case be_37=>k_is);(case kp_37=>k_is);(case fn_37=>k_is);(case l_37=>k_is);(case c_37=>k_is);(case k_37=>k_is)))
  (case Zck=>walk_at "h8")
  (case Zcl=>walk_at "h8")
  (case Zcm=>walk_at "h8")
  (case Zcn=>walk_at "h1")
  (case Zco=>(refine' L2.kit_ty ?a_42 ?b_42 ?d_42;(case a_42=>rfl);(case b_42=>rfl);(case d_42=>k_is)))
  (case Zcp=>walk_at "h1")
  (case Zcq=>walk_at "h1")
  (case Zcr=>walk_at "h1")
  (case Zcs=>walk_at "h1")
  (case Zct=>walk_at "h1")
  (case Zcu=>walk_at "h1")
  (case Zcv=>walk_at "h1")
  (case Zcw=>walk_at "h1")
  (case Zcx=>walk_at "h1")
  (case Zcy=>walk_at "h1")
  (case Zcz=>walk_at "h1")
  (case hn_=>k_is)
  (case htk_=>k_is)
  (case Zc0=>k_is)
  (case Zc1=>k_is)
  (case Zc2=>walk_at "h1")
  (case Zc3=>k_is)
  (case Zc4=>k_is)
  (case Zc5=>walk_at "h1")
  (case Zc6=>k_is)
  (case Zc7=>k_is)
  (case Zc8=>walk_at "h1")
  (case Zc9=>k_is)
  (case Zda=>k_is)
  (case Zdb=>walk_at "h1")
  (case Zdc=>k_is)
  (case Zdd=>k_is)
  (case Zde=>walk_at "h1")
  (case Zdf=>k_is)
  (case Zdg=>k_is)
  (case Zdh=>walk_at "h1")
  (case Zdi=>k_is)
  (case Zdj=>k_is)
  (case Zdk=>walk_at "h1")
  (case Zdl=>k_is)
  (case Zdm=>k_is)
  (case Zdn=>walk_at "h1")
  (case Zdo=>k_is)
  (case Zdp=>k_is)
  (case Zdq=>walk_at "h1")
  (case Zdr=>k_is)
  (case Zds=>k_is)
  (case Zdt=>walk_at "h1")
  (case Zdu=>(refine' L2.cmethAt_mk ?n_86 ?r_86 ?a_86 ?g_86 ?l_86 ?c_86 ?k_86;(case n_86=>k_is);(case r_86=>k_is);(case a_86=>k_is);(case g_86=>k_is);(case l_86=>k_is);(case c_86=>k_is);(case k_86=>k_is)))
  (case Zdv=>walk_at "h2")
  (case Zdw=>walk_at "h2")
  (case Zdx=>walk_at "h2")
  (case Zdy=>walk_at "h2")
  (case Zdz=>walk_at "h2")
  (case Zd0=>walk_at "h2")
  (case Zd1=>walk_at "h2")
  (case Zd2=>walk_at "h2")
  (case Zd3=>walk_at "h2")
  (case Zd4=>walk_at "h2")
  (case Zd5=>walk_at "h2")
  (case Zd6=>walk_at "h2")
  (case Zd7=>walk_at "h2")
  (case Zd8=>walk_at "h2")
  (case Zd9=>walk_at "h2")
  (case Zea=>walk_at "h2")
  (case Zeb=>walk_at "h2")
  (case Zec=>walk_at "h2")
  (case Zed=>walk_at "h2")
  (case Zee=>walk_at "h2")
  (case Zef=>walk_at "h3")
  (case Zeg=>walk_at "h3")
  (case Zeh=>walk_at "h3")
  (case Zei=>walk_at "h3")
  (case Zej=>walk_at "h3")
  (case Zek=>walk_at "h3")
  (case Zel=>walk_at "h3")
  (case Zem=>walk_at "h3")
  (case Zen=>walk_at "h3")
  (case Zeo=>walk_at "h3")
  (case Zep=>walk_at "h0")
  (case Zeq=>walk_at "h0")
  (case Zer=>walk_at "h0")
  (case Zes=>walk_at "h4")
  (case Zet=>walk_at "h4")
  (case Zeu=>walk_at "h4")
  (case Zev=>walk_at "h4")
  (case Zew=>walk_at "h4")
  (case Zex=>walk_at "h4")
  (case Zey=>walk_at "h4")
  (case Zez=>walk_at "h4")
  (case Ze0=>walk_at "h4")
  (case Ze1=>walk_at "h0")
  (case Ze2=>walk_at "h0")
  (case Ze3=>(refine' L2.defAtD_mk2 ?a_131 ?l_131 ?c_131 ?k_131 ?t_131 ?d_131 ?r_131;(case a_131=>k_is);(case l_131=>k_is);(case c_131=>k_is);(case k_131=>k_is);(case t_131=>k_is);(case d_131=>rfl);(case r_131=>exact⟨_,rfl⟩)))
  (case Ze4=>walk_at "h3")
  (case Ze5=>walk_at "h0")
  (case Ze6=>walk_at "h0")
  (case Ze7=>walk_at "h0")
  (case Ze8=>walk_at "h0")
  (case Ze9=>walk_at "h0")
  (case Zfa=>walk_at "h0")
  (case Zfb=>walk_at "h0")
  (case Zfc=>walk_at "h0")
  (case Zfd=>walk_at "h0")
  (case Zfe=>walk_at "h0")
  (case Zff=>walk_at "h0")
  (case Zfg=>walk_at "h0")
  (case Zfh=>walk_at "h0")
  (case Zfi=>walk_at "h0")
  (case Zfj=>walk_at "h0")
  (case Zfk=>walk_at "h0")
  (case Zfl=>walk_at "h0")
  (case n_MAKERS=>k_is)
  (case t_MAKERS=>(refine' L2.tab_mk ?l_151 ?s_151 ?x_151 ?y_151 ?z_151 ?d_151 ?r_151;(case l_151=>k_is);(case s_151=>rfl);(case x_151=>rfl);(case y_151=>rfl);(case z_151=>rfl);(case d_151=>rfl);(case r_151=>exact(L2.rowsR rfl rfl (L2.rowsR rfl rfl (L2.rowsR rfl rfl (L2.rowsR rfl rfl (L2.rowsR rfl rfl (L2.rowsR rfl rfl (L2.rowsR rfl rfl (L2.rowsR rfl rfl (L2.rowsR rfl rfl .nil))))))))))))
  (case e_MAKERS=>with_unfolding_all rfl)
  (case n_INNER_KINDS=>k_is)
  (case q_INNER_KINDS=>(refine' L2.ktup_mk ?l_154 ?x_154 ?d_154 ?z_154 ?r_154;(case l_154=>k_is);(case x_154=>rfl);(case d_154=>rfl);(case z_154=>decide);(case r_154=>exact(.cons ⟨_,rfl⟩ (.cons ⟨_,rfl⟩ .nil)))))
  (case z_len=>k_is)
  (case z_range=>k_is)
  (case z_all=>k_is)
  (case z_min=>k_is)
  (case z_abs=>k_is)
  (case z_max=>k_is)
  (case z_divmod=>k_is)
  (case z_any=>k_is)
  (case z_list=>k_is)
  (case z_isinstance=>k_is)
  (case z_bool=>k_is)
  (case z_int=>k_is)
  (case z_str=>k_is)
  (case z_enumerate=>k_is)
  (case z_tuple=>k_is)
  (case z_ValueError=>k_is)
  (case g_FIGURES=>walk_at "h5")
  (case g_MOST_FIGURES=>walk_at "h5")
  (case g_MOST_VOICES=>walk_at "h5")
  (case g_MOST_RULES=>walk_at "h5")
  (case g_MOST_WEIGHT=>walk_at "h5")
  (case g_MOST_NUMBERS=>walk_at "h5")
  (case Zfm=>walk_at "h0")
