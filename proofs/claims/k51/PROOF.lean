import PyProof.Rows.All
import Wide.All
import OpenK.AllK
import Wide.FinOn
import Lean
import PyProof.EqAt
import PyProof.EqKinds
import PyProof.TupleCall
import KE.KTab
import KE.KRevSl
import PyProof.Rows.Range3
import PyProof.WalkInts
import PyProof.Rows.StrSplitMax
import KE.KMinKey
import PyProof.LongRange
import PyProof.ListRange
import PyProof.ExcClass3
import PyProof.InstStore
import PyProof.StationsW
import PyProof.ExcQuiet
import PyProof.RulesTry
import PyProof.ExcArgsOwn
import PyProof.DictRoadsH
import Wide.Seal
import KE.KRevIter
import PyProof.SumAny
import KE.KTryMore
import PySem.Challenge.RW_fourvoices_k51_numbers_without_rules
set_option Elab.async false
set_option linter.all false
set_option maxRecDepth 100000
abbrev aa0:=@List.length_map
abbrev aa1:=@List.getElem?_eq_some_iff
abbrev aa2:=@List.getElem?_eq_getElem
abbrev aa3:=@PySem.Heap.get?_push_of_some
abbrev aa4:=@List.getElem?_map
abbrev aa5:=@PySem.Heap.lt_size
abbrev aa6:=@PySem.Heap.get?_push_size
abbrev aa7:=@List.size_toArray
abbrev aa8:=@Nat.le_refl
abbrev aa9:=@List.mem_of_getElem?
abbrev ab0:=@Bool.false_ne_true
abbrev ab1:=@Nat.ne_of_lt
abbrev ab2:=@Nat.lt_of_lt_of_le
abbrev ab3:=@List.length_append
abbrev ab4:=@List.map_append
abbrev ab5:=@List.getElem?_append_left
abbrev ab6:=@List.mem_cons
abbrev ab7:=@List.mem_singleton
abbrev ab8:=@List.getElem?_append_right
abbrev ab9:=@List.take_add_one
abbrev ac0:=@Nat.le_trans
abbrev ac1:=@List.mem_append_right
abbrev ac2:=@PySem.Heap.get?_update_other
abbrev ac3:=@List.mem_map
abbrev ac4:=@List.not_mem_nil
abbrev ac5:=@List.length_cons
abbrev ac6:=@List.length_take
abbrev ac7:=@Bool.false_eq_true
abbrev ac8:=@List.getD_eq_getElem?_getD
abbrev ac9:=@List.take_length
abbrev ad0:=@Nat.zero_le
abbrev ad1:=@List.map_cons
abbrev ad2:=@PySem.Heap.get?_update_self
abbrev ad3:=@Nat.ne_of_gt
abbrev ad4:=@List.mem_cons_self
abbrev ad5:=@Nat.lt_of_le_of_lt
abbrev ad6:=@List.mem_cons_of_mem
abbrev ad7:=@List.mem_append
abbrev ad8:=@Int.toNat_natCast
abbrev ad9:=@List.foldl_cons
abbrev ae0:=@PySem.Heap.size_push
abbrev ae1:=@List.replicate_succ
abbrev ae2:=@List.getElem_mem
abbrev ae3:=@List.append_nil
abbrev ae4:=@List.getElem?_range
abbrev ae5:=@List.getElem?_eq_none
abbrev ae6:=@List.take_of_length_le
abbrev ae7:=@List.drop_eq_getElem_cons
abbrev ae8:=@List.flatMap_cons
abbrev ae9:=@List.length_filter_le
abbrev af0:=@Int.eq_ofNat_of_zero_le
abbrev af1:=@List.getElem?_of_mem
abbrev af2:=@Nat.lt_irrefl
abbrev af3:=@List.lookup_cons
abbrev af4:=@List.mem_filter
abbrev af5:=@List.forIn_cons
abbrev af6:=@Array.length_toList
abbrev af7:=@Array.getElem?_eq_some_iff
abbrev af8:=@List.length_replicate
abbrev af9:=@Bool.eq_iff_iff
abbrev ag0:=@List.nodup_cons
abbrev ag1:=@List.foldl_append
abbrev ag2:=@Nat.mul_le_mul_right
abbrev ag3:=@Bool.and_eq_true
abbrev ag4:=@List.length_eq_zero_iff
abbrev ag5:=@List.drop_length
abbrev ag6:=@List.cons_append
abbrev ag7:=@List.getElem?_set_self
abbrev ag8:=@Nat.mul_comm
abbrev ag9:=@List.getElem?_drop
abbrev ah0:=@List.contains_cons
abbrev ah1:=@List.length_nil
abbrev ah2:=@List.getElem?_reverse
abbrev ah3:=@List.flatten_cons
abbrev ah4:=@Nat.lt_succ_of_lt
abbrev ah5:=@List.mem_append_left
abbrev ah6:=@List.drop_eq_nil_iff
abbrev ah7:=@Nat.le_of_lt
abbrev ah8:=@List.length_drop
abbrev ah9:=@List.map_nil
abbrev ai0:=@Nat.le_add_right
abbrev ai1:=@List.map_map
abbrev ai2:=@List.mem_flatMap
abbrev ai3:=@List.filter_cons
abbrev ai4:=@List.map_congr_left
abbrev ai5:=@List.length_reverse
abbrev ai6:=@Int.natCast_mul
abbrev ai7:=@List.filter_append
abbrev ai8:=@List.reverse_cons
abbrev ai9:=@List.forIn_nil
abbrev aj0:=@List.length_range
abbrev aj1:=@List.getElem?_zipWith
abbrev aj2:=@Nat.lt_succ_self
abbrev aj3:=@Nat.le_of_not_lt
abbrev aj4:=@List.all_eq_true
abbrev aj5:=@Bool.or_false
abbrev aj6:=@List.all_cons
abbrev aj7:=@PySem.Heap.get?_none_of_le
abbrev aj8:=@List.getElem?_set_ne
abbrev aj9:=@List.mem_of_mem_take
abbrev ak0:=@List.replicate_succ'
abbrev ak1:=@Option.map_some
abbrev ak2:=@List.find?_cons
abbrev ak3:=@Int.emod_nonneg
abbrev ak4:=@List.filterMap_cons
abbrev ak5:=@List.mem_range
abbrev ak6:=@List.mem_filterMap
abbrev ak7:=@List.zip_cons_cons
abbrev ak8:=@List.drop_drop
abbrev ak9:=@Array.forIn_toList
abbrev al0:=@List.filter_filter
abbrev al1:=@Int.emod_lt_of_pos
abbrev al2:=@List.mem_replicate
abbrev al3:=@Nat.le_succ
abbrev al4:=@List.append_assoc
abbrev al5:=@Array.size_append
abbrev al6:=@List.ext_getElem?
abbrev al7:=@List.nodup_append
abbrev al8:=@List.filter_congr
abbrev al9:=@Nat.add_assoc
abbrev am0:=@Bool.not_true
abbrev am1:=@Nat.min_le_right
abbrev am2:=@Nat.succ_le_succ
abbrev am3:=@Nat.succ_mul
abbrev am4:=@Nat.not_lt
abbrev am5:=@List.all_map
abbrev am6:=@Nat.add_zero
abbrev am7:=@Int.lt_or_le
abbrev am8:=@Nat.pow_succ
abbrev am9:=@List.of_mem_zip
abbrev an0:=@List.filter_map
open PySem.W (instObj Frag findIn isFn emptyDict keepIn kitOne kia_one callWith_K fnOf codeIn nsIn mg_of nsOkIn kitAny mg_none_of)
namespace L2
open PySem PySem.Spec PyProof.Rows
abbrev n9:=Sum Int Str
def Ak:n9→Value→Bool
 | .inl k,v=>Value.isInt k v
 | .inr x,v=>Value.isStrOf x v
def DO(w:World):n9→Int
 | .inl k=>hashInt k
 | .inr x=>hashStr w x
theorem bD:∀{k:n9} {v:Value},Ak k v=true→(∃i t,k=Sum.inl i∧v=Value.int i t)∨(∃x t,k=Sum.inr x∧v=Value.str x t)
 | .inl i,v,h=>by
  obtain⟨t,e⟩:=Value.isInt_shape (k:=i) (v:=v) h;exact .inl ⟨i,t,rfl,e⟩
 | .inr x,v,h=>by
  obtain⟨t,e⟩:=Value.isStrOf_shape (x:=x) (v:=v) h;exact .inr ⟨x,t,rfl,e⟩
theorem AZ(a b:Int):decide ((Sum.inl a:n9)=Sum.inl b)=(a == b):=by
 by_cases e:a=b
 ·subst e;simp
 ·have h:¬(Sum.inl a:n9)=Sum.inl b:=fun q=>e (Sum.inl.inj q)
  rw [decide_eq_false h];exact(beq_eq_false_iff_ne.mpr e).symm
theorem A5(a b:Str):decide ((Sum.inr a:n9)=Sum.inr b)=decide (a=b):=by
 by_cases e:a=b
 ·subst e;simp
 ·have h:¬(Sum.inr a:n9)=Sum.inr b:=fun q=>e (Sum.inr.inj q)
  rw [decide_eq_false h,decide_eq_false e]
theorem A3(a:Int)(b:Str):decide ((Sum.inl a:n9)=Sum.inr b)=false:=decide_eq_false (fun q=>nomatch q)
theorem A4(a:Str)(b:Int):decide ((Sum.inr a:n9)=Sum.inl b)=false:=decide_eq_false (fun q=>nomatch q)
def mS(prog:Program)(w:World):PySem.KeyKind prog w n9 where
 is:=Ak
 hash:=DO w
 inj:=fun v a b ha hb=>by
  rcases bD ha with⟨i,t,rfl,rfl⟩ | ⟨x,t,rfl,rfl⟩
  ·rcases bD hb with⟨j,u,rfl,e⟩ | ⟨y,u,rfl,e⟩
   ·injection e with e1 _;rw [e1]
   ·exact nomatch e
  ·rcases bD hb with⟨j,u,rfl,e⟩ | ⟨y,u,rfl,e⟩
   ·exact nomatch e
   ·injection e with e1 _;rw [e1]
 byValue:=fun k v h=>by
  rcases bD h with⟨i,t,rfl,rfl⟩ | ⟨x,t,rfl,rfl⟩<;>rfl
 pyHash:=fun hv h=>by
  rcases bD hv with⟨i,t,rfl,rfl⟩ | ⟨x,t,rfl,rfl⟩
  ·exact wpAny_pyHash_int h
  ·exact wpAny_pyHash_str h
 eqBool:=fun hu hv h=>by
  rcases bD hu with⟨i,t,rfl,rfl⟩ | ⟨x,t,rfl,rfl⟩
  ·rcases bD hv with⟨j,u,rfl,rfl⟩ | ⟨y,u,rfl,rfl⟩
   ·rw [AZ]at h;exact wpAny_eqBool_int h
   ·rw [A3]at h;exact SeqAt.EqAt.int_str i t y u _ _ _ _ h
  ·rcases bD hv with⟨j,u,rfl,rfl⟩ | ⟨y,u,rfl,rfl⟩
   ·rw [A4]at h;exact SeqAt.EqAt.str_int x t j u _ _ _ _ h
   ·rw [A5]at h;exact wpAny_eqBool_str h
 «strs»:=fun k x t v h=>by
  rcases bD h with⟨i,u,rfl,e⟩ | ⟨y,u,rfl,e⟩
  ·exact nomatch e
  ·injection e with e1 _
   subst e1
   cases v<;>rfl
end L2
namespace L2
open PySem PySem.Spec PyProof.Rows
inductive V where
 | non | bl (b:Bool) | int (i:Int) | str (x:Str) | byt (b:Array UInt8) | flt (b:UInt64) | ref (a:Addr) | ty (n:String)
 deriving DecidableEq
def aF:V→Value→Prop
 | .non,u=>u=Value.none
 | .bl b,u=>u=Value.bool b
 | .int i,u=>∃t,u=Value.int i t
 | .str x,u=>∃t,u=Value.str x t
 | .byt b,u=>∃t,u=Value.bytes b t
 | .flt b,u=>∃t,u=Value.float b t
 | .ref a,u=>u=Value.ref a
 | .ty n,u=>u=Value.type n
abbrev aH:List V→List Value→Prop:=Paired aF
theorem aH.length{xs:List V}{us:List Value}(r:aH xs us):xs.length=us.length:=Paired.length r
theorem aH.get:∀{xs:List V} {us:List Value} {i:Nat} {x:V},aH xs us→xs[i]?=some x→∃u,us[i]?=some u∧aF x u
 | _,_,_,_,.nil,e=>by simp at e
 | _,_,0,_,.cons r _,e=>by simp at e;subst e;exact⟨_,rfl,r⟩
 | _,_,i+1,x,.cons _ t,e=>by
  obtain⟨u,h1,h2⟩:=aH.get (i:=i) (x:=x) t (by simpa using e);exact⟨u,by simpa using h1,h2⟩
theorem aH.set{x:V}{u:Value}(r:aF x u):∀{xs:List V} {us:List Value} (i:Nat),aH xs us→aH (xs.set i x) (us.set i u)
 | _,_,_,.nil=>.nil
 | _,_,0,.cons _ t=>.cons r t
 | _,_,i+1,.cons q t=>.cons q (aH.set r i t)
theorem aH.append:∀{xs ys:List V} {us ws:List Value},aH xs us→aH ys ws→aH (xs++ys) (us++ws)
 | _,_,_,_,.nil,s=>s
 | _,_,_,_,.cons r t,s=>.cons r (aH.append t s)
theorem aH.take:∀{xs:List V} {us:List Value} (n:Nat),aH xs us→aH (xs.take n) (us.take n)
 | _,_,0,_=>.nil
 | _,_,_+1,.nil=>.nil
 | _,_,n+1,.cons r t=>.cons r (aH.take n t)
theorem aH.drop:∀{xs:List V} {us:List Value} (n:Nat),aH xs us→aH (xs.drop n) (us.drop n)
 | _,_,0,r=>r
 | _,_,_+1,.nil=>.nil
 | _,_,n+1,.cons _ t=>aH.drop n t
def iB:Option V→Option Value→Prop
 | some v,some u=>aF v u
 | none,none=>True
 | _,_=>False
def KV{κ:Type}:List (κ×V)→List (κ×Value)→Prop:=Paired fun(p:κ×V) (q:κ×Value)=>p.1=q.1∧aF p.2 q.2
def kV:n9→V
 | .inl i=>.int i
 | .inr x=>.str x
inductive HO where
 | lst (xs:List V)
 | tup (xs:List V)
 | dK (kvs:List (n9×V)) | dT (kvs:List (List n9×V))
 | set (S:Int→Bool) (n:Nat)
 | ins (C dx:Addr) (fs:List (Str×V))
 | own (x:Addr)
 | xd (fs:List (Str×V))
 | met (f x:Addr)
 | rng (lo hi:Int)
 | frz (o:Obj) (u:HO)
 | tbl (ps:Array Value)
 | ext (φ:Heap→Prop)
abbrev Hp:=Addr→Option HO
def upd(H:Hp)(a:Addr)(o:HO):Hp:=fun b=>if b=a then some o else H b
theorem ag{H:Hp}{a:Addr}{o:HO}:upd H a o a=some o:=by unfold upd;rw [if_pos rfl]
theorem ai{H:Hp}{a b:Addr}{o:HO}(h:b≠a):upd H a o b=H b:=by unfold upd;rw [if_neg h]
theorem td{H:Hp}{a:Addr}{o u:HO}:upd (upd H a o) a u=upd H a u:=by
 funext b;unfold upd;split<;>rfl
theorem hZ{H:Hp}{a b:Addr}{o u:HO}(h:H a=some o)(h':H b=some u)(d:o≠u):a≠b:=by
 intro e;subst e;rw [h]at h';exact d (Option.some.inj h')
theorem aq{H:Hp}{a b:Addr}{o:HO}(h:H a=some o)(h':H b=none):a≠b:=by
 intro e;subst e;rw [h]at h';cases h'
section
variable (P:Program) (w:World)
def br(H:Hp)(h:Heap)(a:Addr):HO→Prop
 | .lst xs=>xs.length≤sizeLine∧∃(its:List Value) (n:Nat),aH xs its∧h.get? a=some { cls:=.type "list",data:=.seq its.toArray n }
 | .tup xs=>xs.length≤sizeLine∧∃its:List Value,aH xs its∧IsTup h a its.toArray
 | .dK kvs=>kvs.length≤sizeLine∧(a == sysModules)=false∧∃vs,KV kvs vs∧h.DictOf (mS P w) a vs
 | .dT kvs=>kvs.length≤sizeLine∧(a == sysModules)=false∧∃xs:List (List n9×Addr×Value),
   Paired (fun(p:List n9×V) (q:List n9×Addr×Value)=>p.1=q.1∧H q.2.1=some (.tup (p.1.map kV))∧aF p.2 q.2.2) kvs xs∧
   ∃o es ep,h.get? a=some o∧o.ExactDict∧o.data=.dict es ep∧es.toList=xs.map (entryOfKey (tupleKind (mS P w)))∧(xs.map (·.1)).Nodup
 | .set S n=>h.SetOf (intKind P w) a S n
 | .ins C dx fs=>H dx=some (.own a)∧fs.length≤1000∧dx≠a∧h.get? a=some (instObj C dx)∧
   ∃mA,h.Ns1 dx mA∧(∀f,iB (fs.lookup f) (mA f))∧PySem.Within mA (fs.map (·.1))
 | .own _=>∃o,h.get? a=some o
 | .xd fs=>∃mA,h.Ns1 a mA∧∀f,iB (fs.lookup f) (mA f)
 | .rng lo hi=>∃t u v,h.get? a=some { cls:=.type "range",data:=.fields #[.int lo t,.int hi u,.int 1 v] }
 | .frz o u=>h.get? a=some o∧br H h a u
 | .tbl ps=>h.get? a=some { cls:=.none,data:=.fields ps }
 | .met f x=>h.get? a=some (PySem.W.methodObj (.ref f) (.ref x))
 | .ext φ=>φ h∧(∃o,h.get? a=some o)∧∀h1 h2:Heap,φ h1→(∀o,h1.get? a=some o→h2.get? a=some o)→φ h2
def gj(H:Hp)(h:Heap):Prop:=∀a o,H a=some o→br P w H h a o
end
section
variable {P:Program} {w:World} {H H':Hp} {h h':Heap} {a:Addr} {o:HO}
theorem br.lt(x:br P w H h a o):a < h.objs.size:=by
 cases o with
 | lst xs=>obtain⟨_,_,_,_,e⟩:=x;exact aa5 e
 | tup xs=>obtain⟨_,_,_,p⟩:=x;exact p.lt
 | dK kvs=>obtain⟨_,_,_,_,o,_,_,e,_⟩:=x;exact aa5 e
 | dT kvs=>obtain⟨_,_,_,_,o,_,_,e,_⟩:=x;exact aa5 e
 | set S n=>obtain⟨o,_,_,_,e,_⟩:=x;exact aa5 e
 | ins C dx fs=>obtain⟨_,_,_,e,_⟩:=x;exact aa5 e
 | own y=>obtain⟨_,e⟩:=x;exact aa5 e
 | xd fs=>obtain⟨_,⟨_,_,_,e,_⟩,_⟩:=x;exact aa5 e
 | rng lo hi=>obtain⟨_,_,_,e⟩:=x;exact aa5 e
 | frz ob u=>obtain⟨e,_⟩:=x;exact aa5 e
 | tbl ps=>exact aa5 (show h.get? a=some _ from x)
 | met f y=>exact aa5 (show h.get? a=some _ from x)
 | ext φ=>obtain⟨_,⟨_,e⟩,_⟩:=x;exact aa5 e
theorem Paired.mapP{α β:Type}{F G:α→β→Prop}:∀{l₁:List α} {l₂:List β},Paired F l₁ l₂→(∀a b,F a b→G a b)→Paired G l₁ l₂
 | _,_,.nil,_=>.nil
 | _,_,.cons r t,f=>.cons (f _ _ r) (Paired.mapP t f)
theorem br.stay(x:br P w H h a o)(k:∀b u,(b=a∨H b=some (.own a))→h.get? b=some u→h'.get? b=some u)
  (ho:∀b,H b=some (.own a)→H' b=some (.own a)) (ht:∀b xs,H b=some (.tup xs)→H' b=some (.tup xs)):br P w H' h' a o:=by
 induction o with
 | lst xs=>obtain⟨z,its,n,r,e⟩:=x;exact⟨z,its,n,r,k _ _ (.inl rfl) e⟩
 | tup xs=>obtain⟨z,its,r,ob,e,c⟩:=x;exact⟨z,its,r,ob,k _ _ (.inl rfl) e,c⟩
 | dK kvs=>obtain⟨z,y,vs,r,ob,es,ep,e,c⟩:=x;exact⟨z,y,vs,r,ob,es,ep,k _ _ (.inl rfl) e,c⟩
 | dT kvs=>
  obtain⟨z,y,xs,r,ob,es,ep,e,c⟩:=x;exact⟨z,y,xs,Paired.mapP r fun p q z=>⟨z.1,ht _ _ z.2.1,z.2.2⟩,ob,es,ep,k _ _ (.inl rfl) e,c⟩
 | set S n=>obtain⟨ob,es,ep,t,e,c⟩:=x;exact⟨ob,es,ep,t,k _ _ (.inl rfl) e,c⟩
 | ins C dx fs=>
  obtain⟨d,z,ne,e,mA,⟨od,es,ep,e2,c⟩,r⟩:=x;exact⟨ho _ d,z,ne,k _ _ (.inl rfl) e,mA,⟨od,es,ep,k _ _ (.inr d) e2,c⟩,r⟩
 | own y=>obtain⟨ob,e⟩:=x;exact⟨ob,k _ _ (.inl rfl) e⟩
 | xd fs=>obtain⟨mA,⟨od,es,ep,e,c⟩,r⟩:=x;exact⟨mA,⟨od,es,ep,k _ _ (.inl rfl) e,c⟩,r⟩
 | rng lo hi=>obtain⟨t,u,v,e⟩:=x;exact⟨t,u,v,k _ _ (.inl rfl) e⟩
 | frz ob u ih=>obtain⟨e,q⟩:=x;exact⟨k _ _ (.inl rfl) e,ih q⟩
 | tbl ps=>
  have e:h.get? a=some { cls:=.none,data:=.fields ps }:=x;show h'.get? a=some { cls:=.none,data:=.fields ps };exact k a _ (.inl rfl) e
 | met f y=>
  have e:h.get? a=some (PySem.W.methodObj (.ref f) (.ref y)):=x;show h'.get? a=some (PySem.W.methodObj (.ref f) (.ref y));exact k a _ (.inl rfl) e
 | ext φ=>obtain⟨p,⟨o,e⟩,st⟩:=x;exact⟨st _ _ p fun o q=>k _ _ (.inl rfl) q,⟨o,k _ _ (.inl rfl) e⟩,st⟩
theorem gj.lt(x:gj P w H h)(e:H a=some o):a < h.objs.size:=(x a o e).lt
theorem gj.fresh(x:gj P w H h)(e:h.objs.size≤a):H a=none:=by
 cases q:H a with
 | none=>rfl
 | some u=>exact absurd (ab2 (x.lt q) e) (af2 _)
theorem gj.kept(x:gj P w H h)(k:∀b u,h.get? b=some u→h'.get? b=some u):gj P w H h':=fun a o e=>
 (x a o e).stay (fun b u _ q=>k b u q) (fun _ q=>q) fun _ _ q=>q
theorem gj.laid(x:gj P w H h)(k:∀b u,h.get? b=some u→h'.get? b=some u)(hp:h.objs.size≤a)(new:br P w (upd H a o) h' a o):gj P w (upd H a o) h':=fun b u e=>by
 have hn:=x.fresh hp
 by_cases hb:b=a
 ·subst hb;rw [ag]at e;cases e;exact new
 ·rw [ai hb]at e
  exact(x b u e).stay (fun c v _ q=>k c v q) (fun c q=>by rw [ai (aq q hn)];exact q) fun c xs q=>by rw [ai (aq q hn)];exact q
end
def Rd(H:Hp)(a:Addr)(u:HO):Prop:=H a=some u∨∃o,H a=some (.frz o u)
theorem Rd.ok{P:Program}{w:World}{H:Hp}{h:Heap}{a:Addr}{u:HO}(r:Rd H a u)(x:gj P w H h):br P w H h a u:=by
 rcases r with r | ⟨o,r⟩
 ·exact x a u r
 ·obtain⟨_,q⟩:=x a _ r
  exact q
def Dq:Option HO→Prop
 | some (.lst _)=>True
 | some (.dK _)=>True
 | some (.dT _)=>True
 | some (.set _ _)=>True
 | some (.ins _ _ _)=>True
 | some (.ext _)=>True
 | _=>False
section
variable {P:Program} {w:World} {H:Hp} {h h':Heap} {x e:Addr} {o':HO}
theorem gj.write(ok:gj P w H h)(mu:Dq (H x))(he:e=x∨H e=some (.own x))(k:∀b u,b≠e→h.get? b=some u→h'.get? b=some u)(heo:∃u,h'.get? e=some u)
  (new:br P w (upd H x o') h' x o'):gj P w (upd H x o') h':=fun b u q=>by
 have nown:∀c y,H c=some (.own y)→c≠x:=fun c y r z=>by subst z;rw [r]at mu;exact mu
 have ntup:∀c xs,H c=some (.tup xs)→c≠x:=fun c xs r z=>by subst z;rw [r]at mu;exact mu
 by_cases hb:b=x
 ·subst hb;rw [ag]at q;cases q;exact new
 ·rw [ai hb]at q
  by_cases hbe:b=e
  ·have q':H b=some (.own x):=by
    rcases he with z | z
    ·exact absurd (hbe.trans z) hb
    ·rw [hbe];exact z
   rw [q]at q';cases q';obtain⟨v,hv⟩:=heo;exact⟨v,by rw [hbe];exact hv⟩
  ·refine(ok b u q).stay (fun c v hc r=>k c v ?_ r) (fun c r=>by rw [ai (nown c b r)];exact r) fun c xs r=>by rw [ai (ntup c xs r)];exact r
   rcases hc with rfl | hc
   ·exact hbe
   ·rintro rfl
    rcases he with z | z
    ·exact nown c b hc z
    ·rw [hc]at z;cases z;exact hb rfl
end
structure Un(fs ex:List Addr)(H H':Hp)(h h':Heap):Prop where
 keep:∀b o,h.get? b=some o→H b=none→b∉fs→b∉ex→h'.get? b=some o
 slot:∀b o,h.get? b=some o→H b=none→b∈fs→b∉ex→∃sl,h'.get? b=some { o with slots:=sl }
 free:∀b o,h.get? b=some o→H b=none→b∉ex→H' b=none
 there:∀b o,h.get? b=some o→b∉ex→∃o',h'.get? b=some o'
 tups:∀b xs,H b=some (.tup xs)→H' b=some (.tup xs)
 frzs:∀b o u,H b=some (.frz o u)→H' b=some (.frz o u)
 tbls:∀b ps,H b=some (.tbl ps)→∃more,H' b=some (.tbl (ps++more))
section
variable {fs fs' ex ex':List Addr} {H H1 H2:Hp} {h h1 h2 h':Heap} {a x e:Addr} {o:HO}
theorem Un.any(u:Un fs ex H H1 h h1){b:Addr}{ob:Obj}(q:h.get? b=some ob)(n:H b=none)(hx:b∉ex):∃sl,h1.get? b=some { ob with slots:=sl }:=by
 by_cases hb:b∈fs
 ·exact u.slot b ob q n hb hx
 ·exact⟨ob.slots,u.keep b ob q n hb hx⟩
theorem Un.kept(k:∀b u,h.get? b=some u→h'.get? b=some u):Un fs ex H H h h':=
 ⟨fun b ob q _ _ _=>k b ob q,fun b ob q _ _ _=>⟨ob.slots,k b ob q⟩,fun _ _ _ n _=>n,fun b ob q _=>⟨ob,k b ob q⟩,fun _ _ q=>q,fun _ _ _ q=>q,fun _ ps q=>⟨#[],by rw [q];simp⟩⟩
theorem Un.refl:Un fs ex H H h h:=Un.kept fun _ _ q=>q
theorem Un.laid(k:∀b u,h.get? b=some u→h'.get? b=some u)(hp:h.objs.size≤a)(hn:H a=none):Un fs ex H (upd H a o) h h' where
 keep:=fun b u q _ _ _=>k b u q
 slot:=fun b u q _ _ _=>⟨u.slots,k b u q⟩
 free:=fun b u q n _=>by rw [ai (ab1 (ab2 (aa5 q) hp))];exact n
 there:=fun b u q _=>⟨u,k b u q⟩
 tups:=fun b xs q=>by rw [ai (aq q hn)];exact q
 frzs:=fun b u xs q=>by rw [ai (aq q hn)];exact q
 tbls:=fun b ps q=>⟨#[],by rw [ai (aq q hn),q];simp⟩
theorem Un.write(mu:Dq (H x))(he:e=x∨H e=some (.own x))(k:∀b u,b≠e→h.get? b=some u→h'.get? b=some u)(heo:∃u,h'.get? e=some u):Un fs ex H (upd H x o) h h':=by
 have hx:∀b,H b=none→b≠x:=fun b n z=>by subst z;rw [n]at mu;exact mu
 have hb:∀b,H b=none→b≠e:=fun b n z=>by
  subst z;rcases he with r | r
  ·exact hx b n r
  ·rw [n]at r;cases r
 have hm:∀b u,H b=some u→¬Dq (some u)→b≠x:=fun b u q nm z=>by subst z;rw [q]at mu;exact nm mu
 refine⟨fun b u q n _ _=>k b u (hb b n) q,fun b u q n _ _=>⟨u.slots,k b u (hb b n) q⟩,fun b u q n _=>by rw [ai (hx b n)];exact n,fun b u q _=>?_,
  fun b xs q=>by rw [ai (hm b _ q fun z=>z)];exact q,fun b u xs q=>by rw [ai (hm b _ q fun z=>z)];exact q,fun b ps q=>⟨#[],by rw [ai (hm b _ q fun z=>z),q];simp⟩⟩
 by_cases hbe:b=e
 ·subst hbe;exact heo
 ·exact⟨u,k b u hbe q⟩
end
def Dy(h:Heap)(H:Hp):List Addr:=(List.range h.objs.size).filter fun a=>(H a).isSome
def mK(h:Heap)(H:Hp):Heap:=PySem.W.hideAll h (Dy h H)
theorem ui(h:Heap)(H:Hp):(mK h H).objs.size=h.objs.size:=PySem.W.hideAll_size _ _
theorem vV{h:Heap}{H:Hp}{b:Addr}{o:Obj}(e:h.get? b=some o)(n:H b=none):(mK h H).get? b=some o:=
 PySem.W.hideAll_get _ e fun hm=>by
  have q:(H b).isSome=true:=(af4.mp hm).2;rw [n]at q;simp at q
theorem yX{h:Heap}{H:Hp}{b:Addr}{o:Obj}(e:(mK h H).get? b=some o):h.get? b=some o∧H b=none:=by
 have e':h.get? b=some o:=PySem.W.of_hideAll (Dy h H) e;refine⟨e',?_⟩
 cases q:H b with
 | none=>rfl
 | some x=>
  have hm:b∈Dy h H:=af4.mpr ⟨ak5.mpr (aa5 e'),by simp [q]⟩;have z:(mK h H).get? b=none:=PySem.W.hideAll_none (Dy h H) hm;rw [z]at e;cases e
def yj(g h:Heap)(L:Addr):List (Addr×Obj):=(List.range h.objs.size).filterMap fun a=>if a=L∨(g.get? a).isSome=true then none else(h.get? a).map fun o=>(a,o)
def rest(g h:Heap)(L d:Addr):List (Addr×Obj):=(yj g h L).filter fun p=>decide (p.1≠d)
end L2
namespace L2
open PySem PySem.Spec PyProof.Rows
structure Mod(K:Frag)(mg:Str→Option Value)(base:Heap):Prop where
 kin:K.In base
 glob:base.Ns mainGlobals mg
 blt:∃mb,base.Ns builtinsNs mb∧∀x:Str,x≠"__name__"→mb x=bootBuiltins x
 nolimit:base.NoLimit
structure Cx where
 prog:Program
 w:World
 K:Frag
 mg:Str→Option Value
 base:Heap
 A:Around
 N:List Str
 s₀:Shared
 H₀:Hp
 env:Env
 outer:List Env
 stack:List Env
 ex:List Addr
 fn:Str→Bool
 calm:Bool
 pn:List (Addr×Obj)
 xe:Value→Shared→Prop
def kF(l:List Env):List Addr:=l.filterMap (·.frame)
abbrev Cx.fs(X:Cx):List Addr:=kF X.outer
def Ds(sc:Scope)(x:Str):Prop:=sc.names.lookup x=some .local∨sc.names.lookup x=some .cell∨sc.names.lookup x=some .free
def AF(sc:Scope)(x:Str):Prop:=sc.names.lookup x=some .local∨sc.names.lookup x=some .cell
def DI(env:Env)(h:Heap)(m:Str→Option Value)(x:Str)(u:Value):Prop:=
 (env.kindOf x=some .local∧m x=some u)∨((env.kindOf x=some .cell∨env.kindOf x=some .free)∧∃c,env.cells.lookup x=some c∧h.IsCell c (some u))
structure Cx.Ok(X:Cx):Prop where
 mod:Mod X.K X.mg X.base
 kind:X.env.scope.kind=.function
 glob:X.env.globals=mainGlobals
 blt:X.env.builtins=builtinsNs
 above:X.s₀.heap.objs.size≤X.env.locals
 inj:∀x y c,X.env.cells.lookup x=some c→X.env.cells.lookup y=some c→x=y
 has:∀x,(X.env.kindOf x=some .cell∨X.env.kindOf x=some .free)→∃c,X.env.cells.lookup x=some c
 cab:∀x c,X.fn x=true→X.env.cells.lookup x=some c→X.s₀.heap.objs.size≤c
 hd:X.calm=true→X.A.handled=none
 frames:X.A.frames=some X.stack
 stk:X.stack=X.outer∨(X.stack=X.env::X.outer∧X.env.frame=some X.env.locals)
 exf:∀b∈X.ex,b≠X.env.locals∧∀x c,X.env.cells.lookup x=some c→c≠b
 bs:∀b o,X.base.get? b=some o→X.s₀.heap.get? b=some o∧X.H₀ b=none
 bsz:X.base.objs.size≤X.s₀.heap.objs.size
 noex:∀b o,X.base.get? b=some o→b∉X.ex
 exfs:∀b∈X.ex,b∉X.fs
 funs:X.s₀.heap.FunFrames X.base X.outer
 frf:∀b∈X.fs,X.H₀ b=none
structure az(X:Cx)(pins:List (Addr×Obj))(σ:List (Option V))(H:Hp)(s:Shared):Prop where
 ok:X.Ok
 os:s.os=X.s₀.os
 bare:AllBare s.gens
 base:Un X.fs X.ex X.H₀ H X.s₀.heap s.heap
 loc:∃m,s.heap.Ns X.env.locals m∧∀(i:Nat) (x:Str) (v:V),X.N[i]?=some x→σ[i]?=some (some v)→Ds X.env.scope x→∃u,aF v u∧DI X.env s.heap m x u
 cell:∀x c,X.env.cells.lookup x=some c→∃v,s.heap.IsCell c v
 free:H X.env.locals=none
 freeC:∀x c,X.env.cells.lookup x=some c→H c=none
 pin:∀p∈X.pn++pins,s.heap.get? p.1=some p.2∧H p.1=none∧p.1≠X.env.locals∧p.1∉X.fs∧∀v,p.2.data≠.cell v
 hok:gj X.prog X.w H s.heap
 len:σ.length=X.N.length
section
variable {X:Cx} {pins:List (Addr×Obj)} {σ:List (Option V)} {H H':Hp} {s:Shared} {h':Heap}
theorem Cx.Ok.nofr(ok:X.Ok){b:Addr}{o:Obj}(e:X.base.get? b=some o):b∉X.fs:=fun hb=>by
 have:=(ok.funs.mem hb).1
 rw [e]at this;cases this
theorem az.bs(I:az X pins σ H s):∀b o,X.base.get? b=some o→s.heap.get? b=some o∧H b=none:=fun b o e=>
 ⟨I.base.keep b o (I.ok.bs b o e).1 (I.ok.bs b o e).2 (I.ok.nofr e) (I.ok.noex b o e),I.base.free b o (I.ok.bs b o e).1 (I.ok.bs b o e).2 (I.ok.noex b o e)⟩
theorem az.bk(I:az X pins σ H s):∀b o,X.base.get? b=some o→s.heap.get? b=some o:=fun b o e=>(I.bs b o e).1
theorem az.mod(I:az X pins σ H s):Mod X.K X.mg X.base:=I.ok.mod
theorem az.kIn(I:az X pins σ H s):X.K.In s.heap:=I.ok.mod.kin.keeps I.bk
theorem az.lt(I:az X pins σ H s):X.env.locals < s.heap.objs.size:=let ⟨_,hn,_⟩:=I.loc;hn.lt
theorem az.sz(I:az X pins σ H s):X.s₀.heap.objs.size≤s.heap.objs.size:=ac0 I.ok.above (ah7 I.lt)
theorem az.nofs(I:az X pins σ H s){a:Addr}(h:s.heap.objs.size≤a):a∉X.fs:=fun hb=>by
 obtain⟨_,o,ho,_⟩:=I.ok.funs.mem hb;exact absurd (ab2 (aa5 ho) (ac0 I.sz h)) (af2 _)
theorem az.cne(I:az X pins σ H s):∀x c,X.env.cells.lookup x=some c→c≠X.env.locals:=fun x c e z=>by
 obtain⟨v,o,ho,hd⟩:=I.cell x c e;obtain⟨m,⟨o',es,ep,ho',hd',_⟩,_⟩:=I.loc;rw [z,ho']at ho;cases ho;rw [hd']at hd;cases hd
theorem az.funs(I:az X pins σ H s):s.heap.FunFrames X.base X.outer:=by
 have all:∀(l:List Env),(∀b∈kF l,b∈X.fs)→X.s₀.heap.FunFrames X.base l→s.heap.FunFrames X.base l:=by
  intro l
  induction l with
  | nil=>intro _ _;trivial
  | cons env r ih=>
   intro hs hl;obtain⟨hk,⟨L,o,hf,hn,ho,hd⟩,hr⟩:=hl;have hL:L∈X.fs:=hs L (by unfold kF;rw [ak4,hf];exact ad4);obtain⟨sl,e⟩:=I.base.slot L o ho (I.ok.frf L hL) hL fun z=>I.ok.exfs L z hL;exact⟨hk,⟨L,_,hf,hn,e,hd⟩,ih (fun b hb=>hs b (by unfold kF;rw [ak4,hf];exact ad6 _ hb)) hr⟩
 exact all X.outer (fun _ hb=>hb) I.ok.funs
theorem az.stack(I:az X pins σ H s):s.heap.FunFrames X.base X.stack:=by
 rcases I.ok.stk with e | ⟨e,hf⟩
 ·rw [e];exact I.funs
 ·rw [e]
  obtain⟨m,hn,_⟩:=I.loc;refine .cons (by rw [I.ok.kind];decide) hf hn ?_ I.funs;exact aj7 (ac0 I.ok.bsz I.ok.above)
theorem az.stkSub(I:az X pins σ H s):∀b∈kF X.stack,b∈X.env.locals::X.fs:=fun b hb=>by
 rcases I.ok.stk with e | ⟨e,hf⟩
 ·rw [e]at hb;exact ad6 _ hb
 ·rw [e]at hb
  unfold kF at hb;rw [ak4,hf]at hb;exact hb
theorem az.stkFree(I:az X pins σ H s):∀b∈kF X.stack,H b=none:=fun b hb=>by
 rcases ab6.mp (I.stkSub b hb)with e | hb
 ·rw [e];exact I.free
 ·obtain⟨_,o,ho,_⟩:=I.ok.funs.mem hb
  exact I.base.free b o ho (I.ok.frf b hb) fun z=>I.ok.exfs b z hb
theorem az.step{g':Array GenState}{t':Nat}{d':Drawn}{ch:List Addr}(I:az X pins σ H s)
  (hch:∀b∈ch,(b∈X.ex∨X.s₀.heap.objs.size≤b)∧b≠X.env.locals∧(∀x c,X.env.cells.lookup x=some c→c≠b)∧∀p∈X.pn++pins,p.1≠b)
  (keep:∀b o,b≠X.env.locals→b∉X.fs→b∉ch→s.heap.get? b=some o→H b=none→h'.get? b=some o)
  (slot:∀b o,b≠X.env.locals→b∈X.fs→b∉ch→s.heap.get? b=some o→H b=none→∃sl,h'.get? b=some { o with slots:=sl }) (free:∀b o,b∉ch→s.heap.get? b=some o→H b=none→H' b=none)
  (there:∀b o,b∉ch→s.heap.get? b=some o→∃o',h'.get? b=some o')
  (tups:∀b xs,H b=some (.tup xs)→H' b=some (.tup xs)) (frzs:∀b o u,H b=some (.frz o u)→H' b=some (.frz o u)) (tbls:∀b ps,H b=some (.tbl ps)→∃more,H' b=some (.tbl (ps++more)))
  (ns:∀m,s.heap.Ns X.env.locals m→h'.Ns X.env.locals m) (hok:gj X.prog X.w H' h') (hg:AllBare g') :
  az X pins σ H' { s with heap:=h',gens:=g',drawn:=d',toks:=t' }:=by
 have neL:∀b o,X.s₀.heap.get? b=some o→b≠X.env.locals:=fun b o e=>ab1 (ab2 (aa5 e) I.ok.above)
 have neC:∀b o,X.s₀.heap.get? b=some o→b∉X.ex→b∉ch:=fun b o e hx hb=>by
  rcases(hch b hb).1 with z | z
  ·exact hx z
  ·exact absurd (ab2 (aa5 e) z) (af2 _)
 have cellK:∀x c,X.env.cells.lookup x=some c→∀v,s.heap.IsCell c v→h'.IsCell c v:=fun x c e v ⟨o,ho,hd⟩=>by
  have nch:c∉ch:=fun z=>(hch c z).2.2.1 x c e rfl
  by_cases hc:c∈X.fs
  ·obtain⟨sl,q⟩:=slot c o (I.cne x c e) hc nch ho (I.freeC x c e)
   exact⟨_,q,hd⟩
  ·exact⟨o,keep c o (I.cne x c e) hc nch ho (I.freeC x c e),hd⟩
 refine⟨I.ok,I.os,hg,⟨fun b o e n hb hx=>?_,fun b o e n hb hx=>?_,fun b o e n hx=>?_,fun b o e hx=>?_,fun b xs e=>tups b xs (I.base.tups b xs e),fun b o xs e=>frzs b o xs (I.base.frzs b o xs e),fun b ps e=>?_⟩,?_,fun x c e=>?_,?_,fun x c e=>?_,fun p hp=>?_,hok,I.len⟩
 ·exact keep b o (neL b o e) hb (neC b o e hx) (I.base.keep b o e n hb hx) (I.base.free b o e n hx)
 ·obtain⟨sl,e1⟩:=I.base.slot b o e n hb hx
  obtain⟨sl',e2⟩:=slot b _ (neL b o e) hb (neC b o e hx) e1 (I.base.free b o e n hx);exact⟨sl',e2⟩
 ·obtain⟨o',e1⟩:=I.base.there b o e hx
  exact free b o' (neC b o e hx) e1 (I.base.free b o e n hx)
 ·obtain⟨o',e1⟩:=I.base.there b o e hx
  exact there b o' (neC b o e hx) e1
 ·obtain⟨m1,e1⟩:=I.base.tbls b ps e
  obtain⟨m2,e2⟩:=tbls b _ e1;exact⟨m1++m2,by rw [e2,Array.append_assoc]⟩
 ·obtain⟨m,hn,hl⟩:=I.loc
  refine⟨m,ns m hn,fun i x v e1 e2 e3=>?_⟩;obtain⟨u,r,l⟩:=hl i x v e1 e2 e3;refine⟨u,r,?_⟩;rcases l with l | ⟨k,c,e,z⟩
  ·exact .inl l
  ·exact .inr ⟨k,c,e,cellK x c e _ z⟩
 ·obtain⟨v,z⟩:=I.cell x c e
  exact⟨v,cellK x c e v z⟩
 ·obtain⟨m,⟨o,_,_,ho,_⟩,_⟩:=I.loc
  exact free _ o (fun z=>(hch _ z).2.1 rfl) ho I.free
 ·obtain⟨v,o,ho,hd⟩:=I.cell x c e
  exact free c o (fun z=>(hch c z).2.2.1 x c e rfl) ho (I.freeC x c e)
 ·obtain⟨e,n,ne,nf,d⟩:=I.pin p hp
  have nch:p.1∉ch:=fun z=>(hch p.1 z).2.2.2 p hp rfl;exact⟨keep p.1 p.2 ne nf nch e n,free p.1 p.2 nch e n,ne,nf,d⟩
theorem az.un{t':Nat}(I:az X pins σ H s)(u:Un X.fs [] H H' s.heap h')(hok:gj X.prog X.w H' h'):az X pins σ H' { s with heap:=h',toks:=t' }:=by
 obtain⟨m,⟨o,es,ep,ho,r⟩,_⟩:=id I.loc;obtain⟨sl,hL⟩:=u.any ho I.free (by simp)
 exact I.step (g':=s.gens) (d':=s.drawn) (ch:=[]) (fun _ z=>nomatch z) (fun b o _ hb _ e n=>u.keep b o e n hb (by simp)) (fun b o _ hb _ e n=>u.slot b o e n hb (by simp)) (fun b o _ e n=>u.free b o e n (by simp)) (fun b o _ e=>u.there b o e (by simp)) u.tups u.frzs u.tbls (fun m' hm=>by
  obtain⟨o',es',ep',ho',r'⟩:=hm;rw [ho]at ho';cases ho'
  exact⟨_,es',ep',hL,r'⟩) hok I.bare
theorem az.call{g':Array GenState}{t':Nat}{d':Drawn}{ch:List Addr}(I:az X pins σ H s)(u:Un (kF X.stack) ch H H' s.heap h')(hok:gj X.prog X.w H' h')(hg:AllBare g')
  (hch:∀b∈ch,(b∈X.ex∨X.s₀.heap.objs.size≤b)∧b≠X.env.locals∧(∀x c,X.env.cells.lookup x=some c→c≠b)∧∀p∈X.pn++pins,p.1≠b) :
  az X pins σ H' { s with heap:=h',gens:=g',drawn:=d',toks:=t' }:=by
 obtain⟨m,⟨o,es,ep,ho,r⟩,_⟩:=id I.loc;obtain⟨sl,hL⟩:=u.any ho I.free fun z=>(hch _ z).2.1 rfl
 exact I.step (ch:=ch) hch (fun b o hL hb hc e n=>u.keep b o e n (fun z=>(ab6.mp (I.stkSub b z)).elim hL hb) hc) (fun b o _ _ hc e n=>u.any e n hc) (fun b o hc e n=>u.free b o e n hc) (fun b o hc e=>u.there b o e hc) u.tups u.frzs u.tbls (fun m' hm=>by
  obtain⟨o',es',ep',ho',r'⟩:=hm;rw [ho]at ho';cases ho'
  exact⟨_,es',ep',hL,r'⟩) hok hg
theorem az.turned{t':Nat}{it:Addr}(I:az X pins σ H s)(k:∀b o,b≠it→s.heap.get? b=some o→h'.get? b=some o)(hn:H it=none)(hL:it≠X.env.locals)
  (h1:it∈X.ex∨X.s₀.heap.objs.size≤it) (h2:∀x c,X.env.cells.lookup x=some c→c≠it) (h3:∀p∈X.pn++pins,p.1≠it):az X pins σ H { s with heap:=h',toks:=t' }:=by
 have nit:∀b u,H b=some u→b≠it:=fun b u e z=>by rw [z,hn]at e;cases e
 refine I.step (g':=s.gens) (d':=s.drawn) (ch:=[it]) (fun b hb=>?_) (fun b o _ _ hc e _=>k b o (fun z=>hc (by simp [z])) e) (fun b o _ _ hc e _=>⟨o.slots,k b o (fun z=>hc (by simp [z])) e⟩) (fun _ _ _ _ n=>n)
  (fun b o hc e=>⟨o,k b o (fun z=>hc (by simp [z])) e⟩) (fun _ _ e=>e) (fun _ _ _ e=>e) (fun b ps e=>⟨#[],by rw [e];simp⟩) (fun m hm=>?_) (fun b u e=>?_) I.bare
 ·have e:b=it:=by simpa using hb
  subst e;exact⟨h1,hL,h2,h3⟩
 ·obtain⟨o,es,ep,ho,r⟩:=hm
  exact⟨o,es,ep,k _ o (Ne.symm hL) ho,r⟩
 ·refine(I.hok b u e).stay (fun c v hc q=>k c v ?_ q) (fun _ q=>q) fun _ _ q=>q
  rcases hc with z | z
  ·rw [z];exact nit b u e
  ·exact nit c _ z
theorem az.tok(I:az X pins σ H s)(t:Nat):az X pins σ H { s with toks:=t }:=I.un (h':=s.heap) (t':=t) Un.refl I.hok
theorem az.kept{t':Nat}(I:az X pins σ H s)(k:∀b u,s.heap.get? b=some u→h'.get? b=some u):az X pins σ H { s with heap:=h',toks:=t' }:=I.un (Un.kept k) (I.hok.kept k)
theorem az.laid{a:Addr}{o:HO}{t':Nat}(I:az X pins σ H s)(k:∀b u,s.heap.get? b=some u→h'.get? b=some u)(hp:s.heap.objs.size≤a)(new:br X.prog X.w (upd H a o) h' a o):
  az X pins σ (upd H a o) { s with heap:=h',toks:=t' }:=I.un (Un.laid k hp (I.hok.fresh hp)) (I.hok.laid k hp new)
theorem az.write{x e:Addr}{o:HO}{t':Nat}(I:az X pins σ H s)(mu:Dq (H x))(he:e=x∨H e=some (.own x))(k:∀b u,b≠e→s.heap.get? b=some u→h'.get? b=some u)(heo:∃u,h'.get? e=some u)
  (new:br X.prog X.w (upd H x o) h' x o):az X pins σ (upd H x o) { s with heap:=h',toks:=t' }:=I.un (Un.write mu he k heo) (I.hok.write mu he k heo new)
theorem az.pins_of{pins':List (Addr×Obj)}(I:az X pins σ H s)(h:∀p∈pins',s.heap.get? p.1=some p.2∧H p.1=none∧p.1≠X.env.locals∧p.1∉X.fs∧∀v,p.2.data≠.cell v):az X pins' σ H s:=
 ⟨I.ok,I.os,I.bare,I.base,I.loc,I.cell,I.free,I.freeC,fun p hp=>(ad7.mp hp).elim (fun z=>I.pin p (ah5 _ z)) (h p),I.hok,I.len⟩
theorem jW{N:List Str}(hN:N.Nodup){i j:Nat}{x:Str}(a:N[i]?=some x)(b:N[j]?=some x):i=j:=by
 obtain⟨h1,e1⟩:=aa1.mp a;obtain⟨h2,e2⟩:=aa1.mp b;exact(List.getElem_inj hN).mp (e1.trans e2.symm)
theorem l8{M:Model}{A:Around}{E:Value→Shared→Prop}{i:Nat}{x:Str}{v:V}{u:Value}{Q:Unit→Shared→Prop}(I:az X pins σ H s)(hN:X.N.Nodup)(hi:X.N[i]?=some x)(hx:AF X.env.scope x)(r:aF v u)
  (h:∀s',az X pins (σ.set i (some v)) H s'→(∃a,Heap.SameBut a s.heap s'.heap∧(a=X.env.locals∨X.env.cells.lookup x=some a))→Q () s') (hf:X.fn x=true∨X.env.scope.names.lookup x=some .local:=by first | exact .inl rfl | exact .inr rfl | assumption):wpAny M A (storeName X.env x u) Q E s:=by
 obtain⟨m,hn,hl⟩:=id I.loc
 have hcls:(X.env.scope.kind == .class || (X.env.scope.kind == .module && X.env.locals != X.env.globals))=false:=by rw [I.ok.kind];rfl
 have hiσ:i < σ.length:=by rw [I.len];exact(aa1.mp hi).1
 have cne:=I.cne
 have tracked:∀{a:Addr} {h':Heap},(∃o,s.heap.get? a=some o∧H a=none)→Heap.SameBut a s.heap h'→gj X.prog X.w H h':=fun {a h'} ha hs b ob e=>by
  obtain⟨_,_,hfree⟩:=ha;refine(I.hok b ob e).stay (fun c w' hc q=>(hs.2 c ?_).trans q) (fun _ q=>q) fun _ _ q=>q;rintro rfl;rcases hc with rfl | hc
  ·rw [hfree]at e;cases e
  ·rw [hfree]at hc;cases hc
 rcases hx with hk | hk
 ·refine wpAny_storeName_local hk hn (fun h' hn' hs=>?_) hcls
  obtain⟨oL,_,_,hoL,_⟩:=id hn;refine h _ ⟨I.ok,I.os,I.bare,⟨fun b o e n hb hx=>?_,fun b o e n hb hx=>?_,I.base.free,fun b o e hx=>?_,I.base.tups,I.base.frzs,I.base.tbls⟩,⟨_,hn',fun j y v' e1 e2 e3=>?_⟩,fun y c e=>?_,I.free,I.freeC,fun p hp=>?_,tracked ⟨oL,hoL,I.free⟩ hs,by simpa using I.len⟩ ⟨_,hs,.inl rfl⟩
  ·exact(hs.2 b (ab1 (ab2 (aa5 e) I.ok.above))).trans (I.base.keep b o e n hb hx)
  ·obtain⟨sl,e1⟩:=I.base.slot b o e n hb hx
   exact⟨sl,(hs.2 b (ab1 (ab2 (aa5 e) I.ok.above))).trans e1⟩
  ·obtain⟨o',e1⟩:=I.base.there b o e hx
   exact⟨o',(hs.2 b (ab1 (ab2 (aa5 e) I.ok.above))).trans e1⟩
  ·by_cases hj:j=i
   ·subst hj
    rw [hi]at e1;cases e1;rw [ag7 hiσ]at e2;cases e2;exact⟨u,r,.inl ⟨hk,by simp⟩⟩
   ·rw [aj8 (Ne.symm hj)]at e2
    obtain⟨u',r',q⟩:=hl j y v' e1 e2 e3;refine⟨u',r',?_⟩;rcases q with⟨k,e⟩ | ⟨k,c,e,z⟩
    ·refine .inl ⟨k,?_⟩
     have:y≠x:=fun e=>hj (jW hN e1 (e▸hi))
     simp [this,e]
    ·exact .inr ⟨k,c,e,z.sameBut hs (cne y c e)⟩
  ·obtain⟨w',z⟩:=I.cell y c e
   exact⟨w',z.sameBut hs (cne y c e)⟩
  ·obtain⟨e,n,ne,nf,d⟩:=I.pin p hp
   exact⟨(hs.2 p.1 ne).trans e,n,ne,nf,d⟩
 ·have hfn:X.fn x=true:=by
   rcases hf with z | z
   ·exact z
   ·rw [z]at hk;cases hk
  obtain⟨c,hc⟩:=I.ok.has x (.inl hk);obtain⟨w',z⟩:=I.cell x c hc;refine wpAny_storeName_cell I.ok.kind hk hc z (fun h' hc' hs=>?_);obtain⟨oc,hoc,hocd⟩:=id z;refine h { s with heap:=h' } ⟨I.ok,I.os,I.bare,⟨fun b o e n hb hx=>?_,fun b o e n hb hx=>?_,I.base.free,fun b o e hx=>?_,I.base.tups,I.base.frzs,I.base.tbls⟩,⟨m,hn.sameBut hs (Ne.symm (cne x c hc)),fun j y v' e1 e2 e3=>?_⟩,fun y c' e=>?_,I.free,I.freeC,fun p hp=>?_,tracked ⟨oc,hoc,I.freeC x c hc⟩ hs,by simpa using I.len⟩ ⟨c,hs,.inr hc⟩
  ·exact(hs.2 b (ab1 (ab2 (aa5 e) (I.ok.cab x c hfn hc)))).trans (I.base.keep b o e n hb hx)
  ·obtain⟨sl,e1⟩:=I.base.slot b o e n hb hx
   exact⟨sl,(hs.2 b (ab1 (ab2 (aa5 e) (I.ok.cab x c hfn hc)))).trans e1⟩
  ·obtain⟨o',e1⟩:=I.base.there b o e hx
   exact⟨o',(hs.2 b (ab1 (ab2 (aa5 e) (I.ok.cab x c hfn hc)))).trans e1⟩
  ·by_cases hj:j=i
   ·subst hj
    rw [hi]at e1;cases e1;rw [ag7 hiσ]at e2;cases e2;exact⟨u,r,.inr ⟨.inl hk,c,hc,hc'⟩⟩
   ·rw [aj8 (Ne.symm hj)]at e2
    obtain⟨u',r',q⟩:=hl j y v' e1 e2 e3;refine⟨u',r',?_⟩;rcases q with q | ⟨k,c',e,z'⟩
    ·exact .inl q
    ·refine .inr ⟨k,c',e,z'.sameBut hs ?_⟩
     rintro rfl;exact hj (jW hN e1 (I.ok.inj _ _ _ e hc▸hi))
  ·by_cases hcc:c'=c
   ·subst hcc;exact⟨_,hc'⟩
   ·obtain⟨w2,z2⟩:=I.cell y c' e
    exact⟨w2,z2.sameBut hs hcc⟩
  ·obtain⟨e,n,ne,nf,d⟩:=I.pin p hp
   refine⟨(hs.2 p.1 ?_).trans e,n,ne,nf,d⟩;intro q;rw [q,hoc]at e;have q':oc=p.2:=Option.some.inj e;exact d w' (by rw [←q'];exact hocd)
theorem fX{M:Model}{A:Around}{E:Value→Shared→Prop}{i:Nat}{x:Str}{v:V}{u:Value}{Q:Unit→Shared→Prop}(I:az X pins σ H s)(hN:X.N.Nodup)(hi:X.N[i]?=some x)(hx:AF X.env.scope x)(r:aF v u)
  (h:∀s',az X pins (σ.set i (some v)) H s'→Q () s') (hf:X.fn x=true∨X.env.scope.names.lookup x=some .local:=by first | exact .inl rfl | exact .inr rfl | assumption):wpAny M A (storeName X.env x u) Q E s:=
 l8 I hN hi hx r (fun s' I' _=>h s' I') hf
theorem az.call'{s':Shared}{ch:List Addr}(I:az X pins σ H s)(ho:s'.os=s.os)(u:Un (kF X.stack) ch H H' s.heap s'.heap)(hok:gj X.prog X.w H' s'.heap)(hg:AllBare s'.gens)
  (hch:∀b∈ch,(b∈X.ex∨X.s₀.heap.objs.size≤b)∧b≠X.env.locals∧(∀x c,X.env.cells.lookup x=some c→c≠b)∧∀p∈X.pn++pins,p.1≠b):az X pins σ H' s':=by
 obtain⟨h',g',d',t',o'⟩:=s';have e:o'=s.os:=ho;subst e;exact I.call (g':=g') (t':=t') (d':=d') u hok hg hch
end
abbrev XK:=Value→Option Addr→Hp→Prop
abbrev St:=List (Option V)
abbrev VK:=V→Hp→Prop
abbrev TE:=St→Hp→VK→Prop
abbrev TT:=St→Hp→(Bool→Hp→Prop)→Prop
abbrev TA:=St→Hp→(List V→Hp→Prop)→Prop
structure eU where
 nx:St→Hp→Prop
 rt:VK
 bk:St→Hp→Prop:=fun _ _=>False
 ct:St→Hp→Prop:=fun _ _=>False
abbrev TS:=eU→St→Hp→Prop
def EP(X:Cx)(pins:List (Addr×Obj))(σ:St)(Q:VK)(u:Value)(s':Shared):Prop:=∃v H',az X pins σ H' s'∧aF v u∧Q v H'
def TP(X:Cx)(pins:List (Addr×Obj))(σ:St)(Q:Bool→Hp→Prop)(b:Bool)(s':Shared):Prop:=∃H',az X pins σ H' s'∧Q b H'
def AP(X:Cx)(pins:List (Addr×Obj))(σ:St)(Q:List V→Hp→Prop)(us:List Value)(s':Shared):Prop:=∃vs H',az X pins σ H' s'∧aH vs us∧Q vs H'
def SP(X:Cx)(pins:List (Addr×Obj))(D:eU)(f:Flow)(s':Shared):Prop:=
 match f with
 | .next=>∃σ' H',az X pins σ' H' s'∧D.nx σ' H'
 | .brk=>∃σ' H',az X pins σ' H' s'∧D.bk σ' H'
 | .cont=>∃σ' H',az X pins σ' H' s'∧D.ct σ' H'
 | .ret u=>∃v σ' H',az X pins σ' H' s'∧aF v u∧D.rt v H'
def PE(X:Cx)(e:Expr)(t:TE):Prop:=
 ∀(pins:List (Addr×Obj)) (s:Shared) (σ:St) (H:Hp) (Q:VK),az X pins σ H s→t σ H Q→wpAny (model X.prog X.w) X.A (eval e X.env) (EP X pins σ Q) X.xe s
def PT(X:Cx)(e:Expr)(t:TT):Prop:=
 ∀(pins:List (Addr×Obj)) (s:Shared) (σ:St) (H:Hp) (Q:Bool→Hp→Prop),az X pins σ H s→t σ H Q→wpAny (model X.prog X.w) X.A (isTrue e X.env (eval e X.env)) (TP X pins σ Q) X.xe s
def PW(X:Cx)(e:Expr)(t:TT):Prop:=
 ∀(whole:Sem Value) (pins:List (Addr×Obj)) (s:Shared) (σ:St) (H:Hp) (Q:Bool→Hp→Prop),az X pins σ H s→t σ H Q→wpAny (model X.prog X.w) X.A (isTrue e X.env whole) (TP X pins σ Q) X.xe s
theorem PW.pt{X:Cx}{e:Expr}{t:TT}(h:PW X e t):PT X e t:=h _
def PA(X:Cx)(es:List Expr)(t:TA):Prop:=
 ∀(pos:Pos) (pins:List (Addr×Obj)) (s:Shared) (σ:St) (H:Hp) (Q:List V→Hp→Prop),az X pins σ H s→t σ H Q→wpAny (model X.prog X.w) X.A (spliced (backTo pos (starEach es X.env))) (AP X pins σ Q) X.xe s
def PS(X:Cx)(st:Stmt)(t:TS):Prop:=
 ∀(pins:List (Addr×Obj)) (s:Shared) (σ:St) (H:Hp) (D:eU),az X pins σ H s→t D σ H→wpAny (model X.prog X.w) X.A (exec st X.env) (SP X pins D) X.xe s
def rY(X:Cx)(st:List Stmt)(t:TS):Prop:=
 ∀(pins:List (Addr×Obj)) (s:Shared) (σ:St) (H:Hp) (D:eU),az X pins σ H s→t D σ H→wpAny (model X.prog X.w) X.A (execs st X.env) (SP X pins D) X.xe s
theorem bz{α:Type}{t:Sem α}{Q Q':α→Shared→Prop}{M:Model}{A:Around}{E:Value→Shared→Prop}{s:Shared}(h:wpAny M A t Q E s)(hQ:∀a s,Q a s→Q' a s):wpAny M A t Q' E s:=wpAny_mono h hQ fun _ _ x=>x
end L2
namespace L2
open PySem PySem.Spec PyProof.Rows
section
variable {X:Cx}
theorem bin{a b:Expr}{ta tb:TE}(ha:PE X a ta)(hb:PE X b tb){pins:List (Addr×Obj)}{s:Shared}{σ:St}{H:Hp}{R:V→V→Hp→Prop}(I:az X pins σ H s)(h:ta σ H fun x H1=>tb σ H1 fun y H2=>R x y H2)
  {α:Type} {Q:α→Shared→Prop} {f:Value→Value→Sem α}
  (hf:∀v u s2 x y H2,az X pins σ H2 s2→aF x v→aF y u→R x y H2→wpAny (model X.prog X.w) X.A (f v u) Q X.xe s2) :
  wpAny (model X.prog X.w) X.A (eval a X.env) (fun v s₁=>wpAny (model X.prog X.w) X.A (eval b X.env) (fun u s₂=>wpAny (model X.prog X.w) X.A (f v u) Q X.xe s₂) X.xe s₁) X.xe s:=by
 refine bz (ha pins s σ H _ I h) fun v s1 ⟨x,H1,I1,r1,q1⟩=>?_;refine bz (hb pins s1 σ H1 _ I1 q1) fun u s2 ⟨y,H2,I2,r2,q2⟩=>?_;exact hf v u s2 x y H2 I2 r1 r2 q2
def BL(i:Nat):TE:=fun σ H Q=>∃v,σ[i]?=some (some v)∧Q v H
def tC(v:V):TE:=fun _ H Q=>Q v H
theorem w4{i:Nat}{x:Str}{pos:Pos}(hN:X.N[i]?=some x)(hv:Ds X.env.scope x)(hd:(x == ("__debug__":Str))=false:=by decide)(hcd:(x == ("__classdict__":Str))=false:=by decide):PE X (.Name x pos) (BL i):=by
 intro pins s σ H Q I h;obtain⟨v,e,h⟩:=h;obtain⟨m,hn,hl⟩:=I.loc;obtain⟨u,r,l⟩:=hl i x v hN e hv;have fin:EP X pins σ Q u s:=⟨v,H,I,r,h⟩;rcases l with⟨hk,hm⟩ | ⟨hk,c,hc,hcell⟩
 ·exact wpAny_Name (wpAny_loadName_local I.ok.kind hk hn hm fin) hd
 ·rcases hk with hk | hk
  ·exact wpAny_Name (wpAny_loadName_cell I.ok.kind hk hc hcell fin) hd
  ·exact wpAny_Name (wpAny_loadName_free I.ok.kind hk hc hcell fin hcd) hd
theorem ao{i j pos}:PE X (.Constant (.int i) j pos) (tC (.int i)):=fun _ _ _ H _ I h=>wpAny_Constant_int ⟨.int i,H,I.tok _,⟨_,rfl⟩,h⟩
theorem eP{b j pos}:PE X (.Constant (.bool b) j pos) (tC (.bl b)):=fun _ _ _ H _ I h=>Constant_bool ⟨.bl b,H,I,rfl,h⟩
theorem bR{j pos}:PE X (.Constant .none j pos) (tC .non):=fun _ _ _ H _ I h=>Constant_none ⟨.non,H,I,rfl,h⟩
theorem dS{x j pos}:PE X (.Constant (.str x) j pos) (tC (.str x)):=fun _ _ _ H _ I h=>Calls.Constant_str ⟨.str x,H,I.tok _,⟨_,rfl⟩,h⟩
def Gl(X:Cx)(x:Str):Prop:=X.env.kindOf x=some .globalImplicit
theorem gd{E:Value→Shared→Prop}{pins:List (Addr×Obj)}{s:Shared}{σ:St}{H:Hp}{x:Str}{u:Value}{pos:Pos}{Q:Value→Shared→Prop}(I:az X pins σ H s)(hg:Gl X x)(hm:X.mg x=some u)(h:Q u s)
  (hd:(x == ("__debug__":Str))=false:=by decide):wpAny (model X.prog X.w) X.A (eval (.Name x pos) X.env) Q E s:=
 Calls.Name_function_global I.ok.kind hg (Calls.loadGlobal_global (by rw [I.ok.glob];exact I.mod.glob.keeps I.bk) hm h) hd
theorem cb{E:Value→Shared→Prop}{pins:List (Addr×Obj)}{s:Shared}{σ:St}{H:Hp}{x:Str}{u:Value}{pos:Pos}{Q:Value→Shared→Prop}(I:az X pins σ H s)(hg:Gl X x)(hm:X.mg x=none)(hv:bootBuiltins x=some u)(h:Q u s)
  (hn:x≠"__name__":=by decide) (hd:(x == ("__debug__":Str))=false:=by decide):wpAny (model X.prog X.w) X.A (eval (.Name x pos) X.env) Q E s:=by
 obtain⟨mb,h1,h2⟩:=I.mod.blt;exact Calls.Name_function_global I.ok.kind hg (Calls.loadGlobal_builtin (by rw [I.ok.glob];exact I.mod.glob.keeps I.bk) hm (by rw [I.ok.blt];exact h1.keeps I.bk) ((h2 x hn).trans hv) h) hd
theorem zi{x:Str}{v:V}{u:Value}{pos:Pos}(hg:Gl X x)(hm:X.mg x=some u)(r:aF v u)(hd:(x == ("__debug__":Str))=false:=by decide):PE X (.Name x pos) (tC v):=
 fun _ _ _ H _ I h=>gd I hg hm ⟨v,H,I,r,h⟩ hd
theorem ig{x:Str}{v:V}{u:Value}{pos:Pos}(hg:Gl X x)(hm:X.mg x=none)(hv:bootBuiltins x=some u)(r:aF v u)(hn:x≠"__name__":=by decide)(hd:(x == ("__debug__":Str))=false:=by decide):PE X (.Name x pos) (tC v):=
 fun _ _ _ H _ I h=>cb I hg hm hv ⟨v,H,I,r,h⟩ hn hd
variable {a b:Expr} {ta tb:TE} {pos:Pos}
variable {tA tB':TT} {rest:List Expr}
def BD(t u:TT):TT:=fun σ H Q=>t σ H fun c H1=>if c=true then u σ H1 Q else Q false H1
def DZ(t u:TT):TT:=fun σ H Q=>t σ H fun c H1=>if c=true then Q true H1 else u σ H1 Q
def BI(t:TT):TT:=fun σ H Q=>t σ H fun c H1=>Q (!c) H1
theorem nF(ha:PT X a tA):PW X (.BoolOp .And [a] pos) tA:=by
 intro wh pins s σ H Q I h;refine isTrue_and (bz (ha pins s σ H Q I h) fun c s1 e=>?_)
 cases c with
 | true=>exact isTrue_and_nil e
 | false=>exact e
theorem eZ(ha:PT X a tA):PW X (.BoolOp .Or [a] pos) tA:=by
 intro wh pins s σ H Q I h;refine isTrue_or (bz (ha pins s σ H Q I h) fun c s1 e=>?_)
 cases c with
 | false=>exact isTrue_or_nil e
 | true=>exact e
theorem nE(ha:PT X a tA)(hb:PW X (.BoolOp .And (b::rest) pos) tB'):PW X (.BoolOp .And (a::b::rest) pos) (BD tA tB'):=by
 intro wh pins s σ H Q I h;refine isTrue_and (bz (ha pins s σ H _ I h) fun c s1 ⟨H1,I1,q1⟩=>?_)
 cases c with
 | true=>exact hb wh pins s1 σ H1 Q I1 q1
 | false=>exact⟨H1,I1,q1⟩
theorem fg(ha:PT X a tA)(hb:PW X (.BoolOp .Or (b::rest) pos) tB'):PW X (.BoolOp .Or (a::b::rest) pos) (DZ tA tB'):=by
 intro wh pins s σ H Q I h;refine isTrue_or (bz (ha pins s σ H _ I h) fun c s1 ⟨H1,I1,q1⟩=>?_)
 cases c with
 | true=>exact⟨H1,I1,q1⟩
 | false=>exact hb wh pins s1 σ H1 Q I1 q1
theorem cL(ha:PT X a tA):PT X (.UnaryOp .Not a pos) (BI tA):=by
 intro pins s σ H Q I h;exact isTrue_not (ha pins s σ H (fun c H1=>Q (!c) H1) I h)
def p4(ta tb:TE):TE:=fun σ H Q=>ta σ H fun x H1=>∃c,x=.bl c∧if c=true then tb σ H1 Q else Q (.bl false) H1
def xQ(ta tb:TE):TE:=fun σ H Q=>ta σ H fun x H1=>∃c,x=.bl c∧if c=true then Q (.bl true) H1 else tb σ H1 Q
def p7(ta:TE):TE:=fun σ H Q=>ta σ H fun x H1=>∃c,x=.bl c∧Q (.bl (!c)) H1
theorem ni{op}{t:TE}(h:PE X a t):PE X (.BoolOp op [a] pos) t:=fun pins s σ H Q I hw=>BoolOp_one (h pins s σ H Q I hw)
theorem wX(ha:PE X a ta)(hb:PE X (.BoolOp .And (b::rest) pos) tb):PE X (.BoolOp .And (a::b::rest) pos) (p4 ta tb):=by
 intro pins s σ H Q I h;refine BoolOp_and (bz (ha pins s σ H _ I h) fun v s1 ⟨x,H1,I1,r1,q1⟩=>?_);obtain⟨c,rfl,q1⟩:=q1;cases r1;refine wpAny_truthy_bool ?_
 cases c with
 | true=>exact hb pins s1 σ H1 Q I1 q1
 | false=>exact⟨.bl false,H1,I1,rfl,q1⟩
theorem Aq(ha:PE X a ta)(hb:PE X (.BoolOp .Or (b::rest) pos) tb):PE X (.BoolOp .Or (a::b::rest) pos) (xQ ta tb):=by
 intro pins s σ H Q I h;refine BoolOp_or (bz (ha pins s σ H _ I h) fun v s1 ⟨x,H1,I1,r1,q1⟩=>?_);obtain⟨c,rfl,q1⟩:=q1;cases r1;refine wpAny_truthy_bool ?_
 cases c with
 | false=>exact hb pins s1 σ H1 Q I1 q1
 | true=>exact⟨.bl true,H1,I1,rfl,q1⟩
theorem Bi(ha:PE X a ta):PE X (.UnaryOp .Not a pos) (p7 ta):=by
 intro pins s σ H Q I h;refine UnaryOp_ (bz (ha pins s σ H _ I h) fun v s1 ⟨x,H1,I1,r1,q1⟩=>?_);obtain⟨c,rfl,q1⟩:=q1;cases r1;exact not_of (wpAny_truthy_bool ⟨.bl (!c),H1,I1,rfl,q1⟩)
def DY(t:TT)(ta tb:TE):TE:=fun σ H Q=>t σ H fun c H1=>if c=true then ta σ H1 Q else tb σ H1 Q
theorem fL{c:Expr}(hc:PT X c tA)(ha:PE X a ta)(hb:PE X b tb):PE X (.IfExp c a b pos) (DY tA ta tb):=by
 intro pins s σ H Q I h;refine wpAny_IfExp (bz (hc pins s σ H _ I h) fun d s1 ⟨H1,I1,q1⟩=>?_)
 cases d with
 | true=>exact ha pins s1 σ H1 Q I1 q1
 | false=>exact hb pins s1 σ H1 Q I1 q1
end
end L2
namespace L2
open PySem PySem.Spec PyProof.Rows
def aI(K:Frag)(H:Hp)(a:Addr)(xs:List V):Prop:=
 Rd H a (.lst xs)∨
  ∃(o:Obj) (its:Array Value) (n:Nat),K.lookup a=some o∧o.cls=.type "list"∧o.dict=none∧o.data=.seq its n∧its.size≤sizeLine∧aH xs its.toList
def bf(K:Frag)(H:Hp)(a:Addr)(xs:List V):Prop:=
 Rd H a (.tup xs)∨
  ∃(o:Obj) (its:Array Value) (n:Nat),K.lookup a=some o∧o.cls=.type "tuple"∧o.data=.seq its n∧its.size≤sizeLine∧aH xs its.toList
def DK:Value→Option V
 | .none=>some .non
 | .bool b=>some (.bl b)
 | .int i _=>some (.int i)
 | .str x _=>some (.str x)
 | .bytes b _=>some (.byt b)
 | .float b _=>some (.flt b)
 | .ref a=>some (.ref a)
 | .type n=>some (.ty n)
 | _=>none
theorem aF.abs{x:V}{u:Value}(r:aF x u):DK u=some x:=by
 cases x with
 | non=>cases r;rfl
 | bl _=>cases r;rfl
 | int _=>obtain⟨t,rfl⟩:=r;rfl
 | str _=>obtain⟨t,rfl⟩:=r;rfl
 | byt _=>obtain⟨t,rfl⟩:=r;rfl
 | flt _=>obtain⟨t,rfl⟩:=r;rfl
 | ref _=>cases r;rfl
 | ty _=>cases r;rfl
theorem aF.inj{x y:V}{u:Value}(r:aF x u)(q:aF y u):x=y:=Option.some.inj (r.abs.symm.trans q.abs)
theorem aH.inj:∀{xs ys:List V} {us:List Value},aH xs us→aH ys us→xs=ys
 | _,_,_,.nil,.nil=>rfl
 | _,_,_,.cons r t,.cons r' t'=>by rw [r.inj r',aH.inj t t']
section
variable {X:Cx} {pins:List (Addr×Obj)} {σ:St} {H:Hp} {s:Shared} {a:Addr} {xs ys:List V}
theorem aI.of{K:Frag}(h:H a=some (.lst xs)):aI K H a xs:=.inl (.inl h)
theorem bf.of{K:Frag}(h:H a=some (.tup xs)):bf K H a xs:=.inl (.inl h)
theorem az.list(I:az X pins σ H s)(h:aI X.K H a xs):∃its:List Value,aH xs its∧PlainL s.heap a its.toArray∧xs.length≤sizeLine:=by
 rcases h with h | ⟨o,its,n,hk,hc,hd,hs,hz,r⟩
 ·obtain⟨z,its,n,r,e⟩:=h.ok I.hok
  exact⟨its,r,⟨_,n,e,rfl,rfl,rfl⟩,z⟩
 ·refine⟨its.toList,r,⟨o,n,I.kIn a o hk,hc,hd,by simpa using hs⟩,?_⟩
  have e:=r.length;simp only [af6]at e;omega
theorem az.tuple(I:az X pins σ H s)(h:bf X.K H a xs):∃its:List Value,aH xs its∧IsTup s.heap a its.toArray∧xs.length≤sizeLine:=by
 rcases h with h | ⟨o,its,n,hk,hc,hs,hz,r⟩
 ·obtain⟨z,its,r,p⟩:=h.ok I.hok
  exact⟨its,r,p,z⟩
 ·refine⟨its.toList,r,⟨o,I.kIn a o hk,hc,n,by simpa using hs⟩,?_⟩
  have e:=r.length;simp only [af6]at e;omega
theorem az.list_inj(I:az X pins σ H s)(h:aI X.K H a xs)(h':aI X.K H a ys):xs=ys:=by
 obtain⟨its,r,⟨o,n,e,_,_,d⟩,_⟩:=I.list h;obtain⟨its',r',⟨o',n',e',_,_,d'⟩,_⟩:=I.list h';rw [e]at e';cases e';rw [d]at d'
 injection d' with d1 _
 have:its=its':=by simpa using congrArg Array.toList d1
 subst this;exact r.inj r'
theorem az.tuple_inj(I:az X pins σ H s)(h:bf X.K H a xs)(h':bf X.K H a ys):xs=ys:=by
 obtain⟨its,r,⟨o,e,_,n,d⟩,_⟩:=I.tuple h;obtain⟨its',r',⟨o',e',_,n',d'⟩,_⟩:=I.tuple h';rw [e]at e';cases e';rw [d]at d'
 injection d' with d1 _
 have:its=its':=by simpa using congrArg Array.toList d1
 subst this;exact r.inj r'
end
abbrev Cx.wish(X:Cx)(E:Value→Shared→Prop):Cx:={ X with xe:=E }
abbrev Cx.nox(X:Cx):Cx:=X.wish fun _ _=>False
theorem Cx.Ok.wish{X:Cx}(ok:X.Ok)(E:Value→Shared→Prop):(X.wish E).Ok:=
 ⟨ok.mod,ok.kind,ok.glob,ok.blt,ok.above,ok.inj,ok.has,ok.cab,ok.hd,ok.frames,ok.stk,ok.exf,ok.bs,ok.bsz,ok.noex,ok.exfs,ok.funs,ok.frf⟩
theorem Cx.Ok.unwish{X:Cx}{E:Value→Shared→Prop}(ok:(X.wish E).Ok):X.Ok:=
 ⟨ok.mod,ok.kind,ok.glob,ok.blt,ok.above,ok.inj,ok.has,ok.cab,ok.hd,ok.frames,ok.stk,ok.exf,ok.bs,ok.bsz,ok.noex,ok.exfs,ok.funs,ok.frf⟩
section
variable {X:Cx} {pins:List (Addr×Obj)} {σ:St} {H:Hp} {s:Shared} {E:Value→Shared→Prop}
theorem az.wish(I:az X pins σ H s)(E:Value→Shared→Prop):az (X.wish E) pins σ H s:=⟨I.ok.wish E,I.os,I.bare,I.base,I.loc,I.cell,I.free,I.freeC,I.pin,I.hok,I.len⟩
theorem az.unwish(I:az (X.wish E) pins σ H s):az X pins σ H s:=⟨I.ok.unwish,I.os,I.bare,I.base,I.loc,I.cell,I.free,I.freeC,I.pin,I.hok,I.len⟩
theorem SP.unwish{D:eU}{f:Flow}{s':Shared}(h:SP (X.wish E) pins D f s'):SP X pins D f s':=by
 cases f with
 | next=>obtain⟨σ',H',I,q⟩:=h;exact⟨σ',H',I.unwish,q⟩
 | brk=>obtain⟨σ',H',I,q⟩:=h;exact⟨σ',H',I.unwish,q⟩
 | cont=>obtain⟨σ',H',I,q⟩:=h;exact⟨σ',H',I.unwish,q⟩
 | ret u=>obtain⟨v,σ',H',I,r,q⟩:=h;exact⟨v,σ',H',I.unwish,r,q⟩
theorem PE.nox{e:Expr}{t:TE}(h:PE X.nox e t):PE X e t:=fun pins s σ H Q I hw=>
 wpAny_mono (h pins s σ H Q (I.wish _) hw) (fun _ _ ⟨v,H',I',r,q⟩=>⟨v,H',I'.unwish,r,q⟩) fun _ _ z=>False.elim z
theorem PT.nox{e:Expr}{t:TT}(h:PT X.nox e t):PT X e t:=fun pins s σ H Q I hw=>
 wpAny_mono (h pins s σ H Q (I.wish _) hw) (fun _ _ ⟨H',I',q⟩=>⟨H',I'.unwish,q⟩) fun _ _ z=>False.elim z
theorem rY.nox{st:List Stmt}{t:TS}(h:rY X.nox st t):rY X st t:=fun pins s σ H D I hw=>
 wpAny_mono (h pins s σ H D (I.wish _) hw) (fun _ _ q=>q.unwish) fun _ _ z=>False.elim z
end
section
variable {X:Cx} {st:Stmt} {rest:List Stmt} {t u:TS} {e:Expr} {te:TE} {pos:Pos}
def sY:TS:=fun D σ H=>D.nx σ H
def fY(t u:TS):TS:=fun D σ H=>t { D with nx:=u D } σ H
theorem aY:rY X [] sY:=fun _ _ σ H _ I h=>wpAny_execs_nil ⟨σ,H,I,h⟩
theorem ah(h1:PS X st t)(h2:rY X rest u):rY X (st::rest) (fY t u):=by
 intro pins s σ H D I h;refine wpAny_execs_cons (bz (h1 pins s σ H { D with nx:=u D } I h) fun f s1 q=>?_)
 cases f with
 | next=>
  obtain⟨σ',H',I',q⟩:=q;exact h2 pins s1 σ' H' D I' q
 | ret v=>exact q
 | brk=>exact q
 | cont=>exact q
theorem ak(h1:PS X st t):rY X [st] t:=by
 intro pins s σ H D I h;refine wpAny_execs_cons (bz (h1 pins s σ H D I h) fun f s1 q=>?_)
 cases f with
 | next=>exact wpAny_execs_nil q
 | ret v=>exact q
 | brk=>exact q
 | cont=>exact q
def BE:TS:=fun D σ H=>D.bk σ H
def xI:TS:=fun D σ H=>D.ct σ H
theorem w9:PS X (.Break pos) BE:=fun _ _ σ H _ I h=>wpAny_Break ⟨σ,H,I,h⟩
theorem pH:PS X (.Continue pos) xI:=fun _ _ σ H _ I h=>wpAny_Continue ⟨σ,H,I,h⟩
theorem az.quiet{pins:List (Addr×Obj)}{σ:St}{H:Hp}{s:Shared}(I:az X pins σ H s):interactive X.env=false:=by simp [interactive,I.ok.kind]
def xJ(te:TE):TS:=fun D σ H=>te σ H fun _ H1=>D.nx σ H1
theorem bG(he:PE X e te)(hs:swapsWith e none pos.line X.env=pure false:=by rfl):PS X (.Expr e pos) (xJ te):=by
 intro pins s σ H D I h;exact wpAny_Expr_any (bz (he pins s σ H _ I h) fun v s1 ⟨x,H1,I1,r1,q1⟩=>⟨σ,H1,I1,q1⟩) I.quiet hs
def BK(te:TE):TS:=fun D σ H=>te σ H D.rt
theorem aC(he:PE X e te):PS X (.Return (some e) pos) (BK te):=by
 intro pins s σ H D I h;exact wpAny_Return_some (bz (he pins s σ H _ I h) fun v s1 ⟨x,H1,I1,r1,q1⟩=>⟨x,σ,H1,I1,r1,q1⟩)
def Az:TS:=fun D _ H=>D.rt .non H
def zT(c:TT)(t u:TS):TS:=fun D σ H=>c σ H fun b H1=>if b=true then t D σ H1 else u D σ H1
theorem bL{c:Expr}{a b:List Stmt}{tc:TT}(hc:PT X c tc)(ha:rY X a t)(hb:rY X b u):PS X (.If c a b pos) (zT tc t u):=by
 intro pins s σ H D I h;refine wpAny_If (bz (hc pins s σ H _ I h) fun d s1 ⟨H1,I1,q1⟩=>?_)
 cases d with
 | true=>exact ha pins s1 σ H1 D I1 q1
 | false=>exact hb pins s1 σ H1 D I1 q1
def BH:TS:=fun _ _ _=>False
theorem ij:PS X st BH:=fun _ _ _ _ _ _ h=>h.elim
end
abbrev TG:=V→St→Hp→(St→Hp→Prop)→Prop
abbrev yh:=List V→St→Hp→(St→Hp→Prop)→Prop
def PG(X:Cx)(target:Expr)(t:TG):Prop:=
 ∀(pins:List (Addr×Obj)) (s:Shared) (σ:St) (H:Hp) (v:V) (u:Value) (Q:St→Hp→Prop),az X pins σ H s→aF v u→t v σ H Q→
  wpAny (model X.prog X.w) X.A (assign target X.env u) (fun _ s'=>∃σ' H',az X pins σ' H' s'∧Q σ' H') X.xe s
def B7(X:Cx)(ts:List Expr)(t:yh):Prop:=
 ∀(pins:List (Addr×Obj)) (s:Shared) (σ:St) (H:Hp) (vs:List V) (us:List Value) (Q:St→Hp→Prop),az X pins σ H s→aH vs us→t vs σ H Q→
  wpAny (model X.prog X.w) X.A (assignInOrder ((assignEach ts X.env).map (·.2)) us) (fun _ s'=>∃σ' H',az X pins σ' H' s'∧Q σ' H') X.xe s
abbrev yi:=V→V→V→Hp→(Hp→Prop)→Prop
def AH(X:Cx)(t:yi):Prop:=
 ∀(pins:List (Addr×Obj)) (s:Shared) (σ:St) (H:Hp) (o i v:V) (ov iv u:Value) (Q:Hp→Prop),az X pins σ H s→aF o ov→aF i iv→aF v u→t o i v H Q→
  wpAny (model X.prog X.w) X.A (setItem ov iv u) (fun _ s'=>∃H',az X pins σ H' s'∧Q H') X.xe s
abbrev BU:=V→V→Hp→VK→Prop
def PIp(X:Cx)(op:Operator)(t:BU):Prop:=
 ∀(pins:List (Addr×Obj)) (s:Shared) (σ:St) (H:Hp) (x y:V) (v u:Value) (Q:VK),az X pins σ H s→aF x v→aF y u→t x y H Q→
  wpAny (model X.prog X.w) X.A (inplaceOp op v u) (EP X pins σ Q) X.xe s
section
variable {X:Cx} {pos:Pos}
def jH(i:Nat):TG:=fun v σ H Q=>Q (σ.set i (some v)) H
theorem aw{i:Nat}{x:Str}(hN:X.N.Nodup)(hi:X.N[i]?=some x)(hx:AF X.env.scope x)(hf:X.fn x=true∨X.env.scope.names.lookup x=some .local:=by first | exact .inl rfl | exact .inr rfl | assumption):PG X (.Name x pos) (jH i):=by
 intro pins s σ H v u Q I r h;exact wpAny_assign_Name (fX I hN hi hx r (fun s' I'=>⟨_,H,I',h⟩) hf)
def Cp:yh:=fun vs σ H Q=>vs=[]∧Q σ H
def Ac(t:TG)(u:yh):yh:=fun vs σ H Q=>∃v r,vs=v::r∧t v σ H fun σ' H'=>u r σ' H' Q
theorem bF:B7 X [] Cp:=by
 intro pins s σ H vs us Q I r h;obtain⟨e,h⟩:=h;subst e;cases r;exact assignInOrder_nil ⟨σ,H,I,h⟩
theorem aD{e:Expr}{es:List Expr}{t:TG}{u:yh}(h1:PG X e t)(h2:B7 X es u)
  (hs:(assignEach (e::es) X.env).map (·.2)=assign e X.env::(assignEach es X.env).map (·.2):=by rfl):B7 X (e::es) (Ac t u):=by
 intro pins s σ H vs us Q I r h;obtain⟨v,vr,e1,h⟩:=h;subst e1
 cases r with
 | cons r rr=>
  rw [hs];refine assignInOrder_cons (bz (h1 pins s σ H _ _ _ I r h) fun _ s1 ⟨σ1,H1,I1,q1⟩=>?_);exact h2 pins s1 σ1 H1 _ _ Q I1 rr q1
def AQ(K:Frag)(n:Nat)(t:yh):TG:=fun v σ H Q=>∃a xs,v=.ref a∧bf K H a xs∧xs.length=n∧t xs σ H Q
theorem Bj{es:List Expr}{k:Nat}{t:yh}{n:Nat}(hc:X.calm=true)(h:B7 X es t)
  (hn:(assignEach es X.env).length=n:=by rfl) (hst:(assignEach es X.env).findIdx? (·.1)=none:=by rfl):PG X (.Tuple es k pos) (AQ X.K n t):=by
 intro pins s σ H v u Q I r hw;obtain⟨a,xs,e1,hq,hl,hw⟩:=hw;subst e1;cases r;obtain⟨its,rv,ht,hz⟩:=I.tuple hq;refine assign_Tuple_tuple (I.ok.hd hc) ht (by simp [hn,←hl,rv.length]) hst fun h' hx=>?_;have I1:az X pins σ H { s with heap:=h' }:=I.kept (t':=s.toks) fun b o e=>hx b o (ab1 (aa5 e)) e;exact h pins _ σ H xs _ Q I1 (by simpa using rv) hw
def Cq(to ti:TE)(t:yi):TG:=fun v σ H Q=>to σ H fun o H1=>ti σ H1 fun i H2=>t o i v H2 fun H3=>Q σ H3
theorem nj{o i:Expr}{to ti:TE}{t:yi}(ho:PE X o to)(hi:PE X i ti)(hs:AH X t)
  (ha:∀v,assign (.Subscript o i pos) X.env v=(do
   let ov ←holding [v] (eval o X.env)
   let iv ←holding [v,ov] (eval i X.env)
   standAt pos
   holding [v,ov,iv] (setItem ov iv v)
   release [v,ov,iv] []):=by intro _;rfl):PG X (.Subscript o i pos) (Cq to ti t):=by
 intro pins s σ H v u Q I r h;rw [ha];refine wpAny_bind (wpAny_holding (bz (ho pins s σ H _ I h) fun ov s1 ⟨x,H1,I1,r1,q1⟩=>?_));refine wpAny_bind (wpAny_holding (bz (hi pins s1 σ H1 _ I1 q1) fun iv s2 ⟨y,H2,I2,r2,q2⟩=>?_));refine wpAny_bind (wpAny_standAt (wpAny_bind (wpAny_holding (bz (hs pins s2 σ H2 x y v ov iv u _ I2 r1 r2 r q2) fun _ s3 ⟨H3,I3,q3⟩=>?_))));exact wpAny_release ⟨σ,H3,I3,q3⟩
def u6(te:TE)(g:TG):TS:=fun D σ H=>te σ H fun x H1=>g x σ H1 D.nx
theorem ny{tg e:Expr}{te:TE}{g:TG}(he:PE X e te)(hg:PG X tg g)(hs:swapsWithSole [tg] e pos.line X.env=pure false:=by rfl)(hw:swappedStores [tg] e X.env=pure none:=by rfl)
  (h1:(assignEach [tg] X.env).map (·.2)=[assign tg X.env]:=by rfl):PS X (.Assign [tg] e pos) (u6 te g):=by
 intro pins s σ H D I h;refine wpAny_Assign_stores (bz (he pins s σ H _ I h) fun v s1 ⟨x,H1,I1,r1,q1⟩=>?_) hs hw;rw [h1];exact bz (hg pins s1 σ H1 x v _ I1 r1 q1) fun _ s2 q=>q
theorem ay{i:Nat}{x:Str}{e:Expr}{te:TE}{pos':Pos}(hN:X.N.Nodup)(hi:X.N[i]?=some x)(hx:AF X.env.scope x)(he:PE X e te)(hs:swapsWith e (some (.Name x pos')) pos.line X.env=pure false:=by rfl)(hf:X.fn x=true∨X.env.scope.names.lookup x=some .local:=by first | exact .inl rfl | exact .inr rfl | assumption):
  PS X (.Assign [.Name x pos'] e pos) (u6 te (jH i)):=by
 intro pins s σ H D I h;refine wpAny_Assign_Name (bz (he pins s σ H _ I h) fun v s1 ⟨y,H1,I1,r1,q1⟩=>?_) hs;exact fX I1 hN hi hx r1 (fun s2 I2=>⟨_,H1,I2,q1⟩) hf
def xE(i:Nat)(te:TE)(ti:BU):TS:=fun D σ H=>∃x,σ[i]?=some (some x)∧te σ H fun y H1=>ti x y H1 fun z H2=>D.nx (σ.set i (some z)) H2
theorem nA{i:Nat}{x:Str}{e:Expr}{te:TE}{op:Operator}{ti:BU}{pos':Pos}(hN:X.N.Nodup)(hi:X.N[i]?=some x)(hx:AF X.env.scope x)(he:PE X e te)(ho:PIp X op ti)(hf:X.fn x=true∨X.env.scope.names.lookup x=some .local:=by first | exact .inl rfl | exact .inr rfl | assumption):
  PS X (.AugAssign (.Name x pos') op e pos) (xE i te ti):=by
 intro pins s σ H D I h;obtain⟨v,e1,h⟩:=h;obtain⟨m,hn,hl⟩:=I.loc
 have vis:Ds X.env.scope x:=by rcases hx with k | k;exact .inl k;exact .inr (.inl k)
 obtain⟨u,r,l⟩:=hl i x v hi e1 vis;refine wpAny_AugAssign_Name ?_
 have go:wpAny (model X.prog X.w) X.A (eval e X.env) (fun w s₂=>wpAny (model X.prog X.w) X.A (inplaceOp op u w) (fun r s₃=>wpAny (model X.prog X.w) X.A (storeName X.env x r) (fun _=>SP X pins D .next) X.xe s₃) X.xe s₂) X.xe s:=by
  refine bz (he pins s σ H _ I h) fun w s1 ⟨y,H1,I1,r1,q1⟩=>?_;refine bz (ho pins s1 σ H1 v y u w _ I1 r r1 q1) fun z s2 ⟨zv,H2,I2,r2,q2⟩=>?_;exact fX I2 hN hi hx r2 (fun s3 I3=>⟨_,H2,I3,q2⟩) hf
 rcases l with⟨hk,hm⟩ | ⟨hk,c,hc,hcell⟩
 ·exact wpAny_loadName_local I.ok.kind hk hn hm go
 ·rcases hk with hk | hk
  ·exact wpAny_loadName_cell I.ok.kind hk hc hcell go
  ·rcases hx with k | k
   ·have:X.env.scope.names.lookup x=some .free:=hk
    rw [k]at this;cases this
   ·have:X.env.scope.names.lookup x=some .free:=hk
    rw [k]at this;cases this
end
section
variable {X:Cx} {pos:Pos}
def BM(c:TT)(tb:TS):TS:=fun D σ H=>∃W:Nat→St→Hp→Prop,(∃m,W m σ H)∧∀m σ H,W m σ H→
 c σ H fun b H1=>if b=true then ∃N:St→Hp→Prop,(∀σ' H',N σ' H'→∃m',m' < m∧W m' σ' H')∧tb { D with nx:=N,ct:=N,bk:=D.nx } σ H1 else D.nx σ H1
theorem xb{c:Expr}{body:List Stmt}{tc:TT}{tb:TS}(hp:PassesOwn (model X.prog X.w) X.A X.env X.xe)(hc:PT X c tc)(hb:rY X body tb):PS X (.While c body [] pos) (BM tc tb):=by
 intro pins s σ H D I h;obtain⟨W,⟨m0,w0⟩,turn⟩:=h;refine wpAny_While (codeAny_whileLoop (fun n s'=>∃σ' H',az X pins σ' H' s'∧W n σ' H') ?_ m0 ⟨σ,H,I,w0⟩);rintro n s1 ⟨σ1,H1,I1,w1⟩;refine wpAny_passesOwn hp (bz (hc pins s1 σ1 H1 _ I1 (turn n σ1 H1 w1)) fun b s2 ⟨H2,I2,q2⟩=>?_)
 cases b with
 | true=>
  obtain⟨N,hN,q2⟩:=q2;rw [if_pos rfl];refine wpAny_passesOwn hp (bz (hb pins s2 σ1 H2 _ I2 q2) fun f s3 q3=>?_)
  cases f with
  | next=>
   obtain⟨σ3,H3,I3,n3⟩:=q3;obtain⟨m',hm,w3⟩:=hN σ3 H3 n3;exact⟨m',hm,σ3,H3,I3,w3⟩
  | cont=>
   obtain⟨σ3,H3,I3,n3⟩:=q3;obtain⟨m',hm,w3⟩:=hN σ3 H3 n3;exact⟨m',hm,σ3,H3,I3,w3⟩
  | brk=>exact q3
  | ret v=>exact q3
 | false=>
  rw [if_neg ab0];exact wpAny_execs_nil ⟨σ1,H2,I2,q2⟩
end
structure It where
 go:Nat→Hp→Prop
 yld:Nat→Hp→V→Hp→Prop
 stop:Nat→Hp→Prop
def iz(X:Cx)(pins:List (Addr×Obj))(H:Hp)(b:Addr):Prop:=
 H b=none∧b≠X.env.locals∧b∉X.fs∧(b∈X.ex∨X.s₀.heap.objs.size≤b)∧(∀x c,X.env.cells.lookup x=some c→c≠b)∧∀p∈X.pn++pins,p.1≠b
theorem az.fpOk{X:Cx}{pins:List (Addr×Obj)}{σ:St}{H H':Hp}{s:Shared}{b:Addr}(I:az X pins σ H s)(hb:s.heap.objs.size≤b)(hn:H' b=none):iz X pins H' b:=by
 refine⟨hn,ad3 (ab2 I.lt hb),I.nofs hb,.inr (ac0 I.sz hb),fun x c e z=>?_,fun p hp z=>?_⟩
 ·obtain⟨v,q⟩:=I.cell x c e
  exact absurd (ab2 q.lt (by rw [z];exact hb)) (af2 _)
 ·exact absurd (ab2 (aa5 (I.pin p hp).1) (by rw [z];exact hb)) (af2 _)
structure jt(P:Program)(w:World)(K:Frag)(tg:Expr)(J:It)(fp:List Addr)(it:Addr)(tn:Nat→Heap→Prop):Prop where
 mem:it∈fp
 obj:∀i h,tn i h→∀b∈fp,∃o,h.get? b=some o∧∀v,o.data≠.cell v
 keep:∀i h h',tn i h→(∀b∈fp,∀o,h.get? b=some o→h'.get? b=some o)→tn i h'
 item:∀(X:Cx),X.prog=P→X.w=w→X.K=K→X.calm=true→∀(i:Nat) (pins:List (Addr×Obj)) (s:Shared) (σ:St) (H:Hp) (E:Value→Shared→Prop),az X pins σ H s→(∀b∈fp,iz X pins H b)→tn i s.heap→J.go i H→
  wpAny (model P w) X.A (pyNext (.ref it)) (fun r s1=>∃u,r=some u∧
   wpAny (model P w) X.A (letOwnedTupleGo tg (.ref it) u) (fun _ s2=>∃x H',az X pins σ H' s2∧aF x u∧J.yld i H x H'∧tn (i+1) s2.heap∧∀b∈fp,H' b=none) E s1) E s
 done:∀(X:Cx),X.prog=P→X.w=w→X.K=K→X.calm=true→∀(i:Nat) (pins:List (Addr×Obj)) (s:Shared) (σ:St) (H:Hp) (E:Value→Shared→Prop),az X pins σ H s→(∀b∈fp,iz X pins H b)→tn i s.heap→J.stop i H→
  wpAny (model P w) X.A (pyNext (.ref it)) (fun r s1=>r=none∧az X pins σ H s1) E s
 self:∀(A:Around) (i:Nat) (s:Shared) (Q:Value→Shared→Prop) (E:Value→Shared→Prop),tn i s.heap→Q (.ref it) s→wpAny (model P w) A (pyIter (.ref it)) Q E s
abbrev TI:=St→Hp→(It→Hp→Prop)→Prop
def B8(X:Cx)(pins:List (Addr×Obj))(σ:St)(tg:Expr)(R:It→Hp→Prop)(itv:Value)(s2:Shared):Prop:=
 ∃(it:Addr) (fp:List Addr) (tn:Nat→Heap→Prop) (J:It) (H':Hp),itv=.ref it∧az X pins σ H' s2∧jt X.prog X.w X.K tg J fp it tn∧tn 0 s2.heap∧(∀b∈fp,iz X pins H' b)∧R J H'
def PI(X:Cx)(tg iter:Expr)(wi:TI):Prop:=
 ∀(pins:List (Addr×Obj)) (s:Shared) (σ:St) (H:Hp) (R:It→Hp→Prop),az X pins σ H s→wi σ H R→
  wpAny (model X.prog X.w) X.A (eval iter X.env) (fun v s1=>wpAny (model X.prog X.w) X.A (pyIter v) (B8 X pins σ tg R) X.xe s1) X.xe s
theorem lP{M:Model}{A:Around}{E:Value→Shared→Prop}{s:Shared}{tg:Expr}{it:Addr}{u:Value}{o:Obj}{n:String}{vs:Array Value}{Q:Unit→Shared→Prop}(ho:s.heap.get? it=some o)(hc:o.cls=.type n)(hd:o.data=.fields vs)
  (hn:["enumerate","zip","dict_itemiterator","dict_reverseitemiterator","odict_iterator","itertools.zip_longest","itertools.pairwise"].contains n=false) (hQ:Q () s):wpAny M A (letOwnedTupleGo tg (.ref it) u) Q E s:=by
 unfold letOwnedTupleGo
 cases tg<;>first
  | exact wpAny_pure hQ
  | (cases u<;>first | exact wpAny_pure hQ | (refine wpAny_bind (wpAny_load ho ?_);rw [hc,hd];show wpAny M A (if (["enumerate","zip","dict_itemiterator","dict_reverseitemiterator","odict_iterator","itertools.zip_longest","itertools.pairwise"].contains n && vs[0]? == some (rawInt _))=true then _ else _) Q E s;rw [if_neg (by intro h;rw [hn,Bool.false_and]at h;cases h)];exact wpAny_pure hQ))
def xZ(K:Frag)(a:Addr):It:=
 ⟨fun i H=>∃xs x,aI K H a xs∧xs[i]?=some x,fun i H x H'=>H'=H∧∀xs,aI K H a xs→xs[i]?=some x,fun i H=>∃xs,aI K H a xs∧xs.length≤i⟩
def BQ(K:Frag)(a:Addr):It:=
 ⟨fun i H=>∃xs x,bf K H a xs∧xs[i]?=some x,fun i H x H'=>H'=H∧∀xs,bf K H a xs→xs[i]?=some x,fun i H=>∃xs,bf K H a xs∧xs.length≤i⟩
def tu(lo:Int)(n:Nat):It:=⟨fun i _=>i < n,fun i H x H'=>H'=H∧x=.int (lo+i),fun i _=>n≤i⟩
theorem u7{P:Program}{w:World}{K:Frag}{tg:Expr}(a it:Addr):jt P w K tg (xZ K a) [it] it (fun i h=>h.IsListIter it a i) where
 mem:=by simp
 obj:=fun i h st b hb=>by
  have e:b=it:=by simpa using hb
  subst e;obtain⟨o,e,c,d⟩:=st;exact⟨o,e,fun v z=>by rw [d]at z;cases z⟩
 keep:=fun i h h' st k=>st.at fun o e=>k it (by simp) o e
 item:=by
  intro X hP hw hK hc i pins s σ H E I hf st hg;subst hP hw hK;obtain⟨xs,x,hq,hx⟩:=hg;obtain⟨its,rv,p,hz⟩:=I.list hq;obtain⟨u,hu,ru⟩:=rv.get hx;obtain⟨f0,f1,f2,f3,f4,f5⟩:=hf it (by simp);refine wpAny_pyNext_list_item st p.isList (x:=u) (by simpa using hu) fun h' st' sb=>?_;have I1:az X pins σ H { s with heap:=h' }:=I.turned (t':=s.toks) (fun b o hb e=>(sb.2 b hb).trans e) f0 f1 f3 f4 f5;obtain⟨o,e,c,d⟩:=id st';exact⟨u,rfl,lP (s:={ s with heap:=h' }) e c d (by decide) ⟨x,H,I1,ru,⟨rfl,fun ys hy=>by rw [I.list_inj hy hq];exact hx⟩,st',fun b hb=>(hf b hb).1⟩⟩
 done:=by
  intro X hP hw hK hc i pins s σ H E I hf st hg;subst hP hw hK;obtain⟨xs,hq,hx⟩:=hg;obtain⟨its,rv,p,hz⟩:=I.list hq;obtain⟨f0,f1,f2,f3,f4,f5⟩:=hf it (by simp);have hl:=rv.length;exact wpAny_pyNext_list_end (I.ok.hd hc) st p.isList (by simp;omega) fun h' eb=>⟨rfl,I.turned (t':=s.toks) (fun b o hb e=>eb b o hb e) f0 f1 f3 f4 f5⟩
 self:=fun _ _ _ _ _ st h=>wpAny_pyIter_listiter st h
theorem rV{P:Program}{w:World}{K:Frag}{tg:Expr}(a it:Addr):jt P w K tg (BQ K a) [it] it (fun i h=>h.IsTupleIter it a i) where
 mem:=by simp
 obj:=fun i h st b hb=>by
  have e:b=it:=by simpa using hb
  subst e;obtain⟨o,e,c,d⟩:=st;exact⟨o,e,fun v z=>by rw [d]at z;cases z⟩
 keep:=fun i h h' st k=>st.at fun o e=>k it (by simp) o e
 item:=by
  intro X hP hw hK hc i pins s σ H E I hf st hg;subst hP hw hK;obtain⟨xs,x,hq,hx⟩:=hg;obtain⟨its,rv,p,hz⟩:=I.tuple hq;obtain⟨u,hu,ru⟩:=rv.get hx;obtain⟨f0,f1,f2,f3,f4,f5⟩:=hf it (by simp);refine wpAny_pyNext_tuple_item st (show s.heap.IsTuple a its.toArray from p) (x:=u) (by simpa using hu) fun h' st' sb=>?_;have I1:az X pins σ H { s with heap:=h' }:=I.turned (t':=s.toks) (fun b o hb e=>(sb.2 b hb).trans e) f0 f1 f3 f4 f5;obtain⟨o,e,c,d⟩:=id st';exact⟨u,rfl,lP (s:={ s with heap:=h' }) e c d (by decide) ⟨x,H,I1,ru,⟨rfl,fun ys hy=>by rw [I.tuple_inj hy hq];exact hx⟩,st',fun b hb=>(hf b hb).1⟩⟩
 done:=by
  intro X hP hw hK hc i pins s σ H E I hf st hg;subst hP hw hK;obtain⟨xs,hq,hx⟩:=hg;obtain⟨its,rv,p,hz⟩:=I.tuple hq;obtain⟨f0,f1,f2,f3,f4,f5⟩:=hf it (by simp);have hl:=rv.length;exact wpAny_pyNext_tuple_end (I.ok.hd hc) st (show s.heap.IsTuple a its.toArray from p) (by simp;omega) fun h' eb=>⟨rfl,I.turned (t':=s.toks) (fun b o hb e=>eb b o hb e) f0 f1 f3 f4 f5⟩
 self:=fun _ _ _ _ _ st h=>wpAny_pyIter_tupleiter st h
theorem kz{P:Program}{w:World}{K:Frag}{tg:Expr}(it:Addr)(lo:Int)(n:Nat):jt P w K tg (tu lo n) [it] it (fun i h=>IsRangeIter h it (lo+(i:Nat) * 1) ((n:Int) - (i:Nat)) 1) where
 mem:=by simp
 obj:=fun i h st b hb=>by
  have e:b=it:=by simpa using hb
  subst e
  exact⟨_,st,fun v z=>by
   have z':Data.fields _=Data.cell v:=z
   cases z'⟩
 keep:=fun i h h' st k=>k it (by simp) _ st
 item:=by
  intro X hP hw hK hc i pins s σ H E I hf st hg;subst hP hw hK;obtain⟨f0,f1,f2,f3,f4,f5⟩:=hf it (by simp);have W:=Walks.range (prog:=X.prog) (w:=X.w) (I.ok.hd hc) it lo 1 n;refine W.item i s _ _ hg st fun v h' tk hv st' kk=>?_;obtain⟨t,rfl⟩:=hv;have I1:az X pins σ H { s with heap:=h',toks:=tk }:=I.turned (fun b o hb e=>kk b o (by simpa using hb) e) f0 f1 f3 f4 f5;refine⟨_,rfl,lP (s:={ s with heap:=h',toks:=tk }) (n:="range_iterator") st' rfl rfl (by decide) ⟨.int (lo+i),H,I1,⟨t,?_⟩,⟨rfl,rfl⟩,st',fun b hb=>(hf b hb).1⟩⟩;rw [Int.mul_one]
 done:=by
  intro X hP hw hK hc i pins s σ H E I hf st hg;subst hP hw hK;obtain⟨f0,f1,f2,f3,f4,f5⟩:=hf it (by simp);exact wpAny_pyNext_range_end (I.ok.hd hc) st (by have:n≤i:=hg;omega) fun h' eb=>⟨rfl,I.turned (t':=s.toks) (fun b o hb e=>eb b o hb e) f0 f1 f3 f4 f5⟩
 self:=fun _ _ _ _ _ st h=>wpAny_pyIter_rangeiter st h
end L2
namespace L2
open PySem PySem.Spec PyProof.Rows
section
variable {X:Cx} {tg:Expr}
theorem pR{pins:List (Addr×Obj)}{σ:St}{H:Hp}{s:Shared}{R:It→Hp→Prop}{E:Value→Shared→Prop}{lo hi:Int}{t u v:Tok}{tk:Nat}(I:az X pins σ H s)(h1:-(2 ^ 62)≤lo)(h2:lo < 2 ^ 62)(h3:-(2 ^ 62)≤hi)(h4:hi < 2 ^ 62)
  (q:R (tu lo (hi - lo).toNat) H):wpAny (model X.prog X.w) X.A (pyIter (.ref s.heap.objs.size)) (B8 X pins σ tg R) E { s with heap:=s.heap.push { cls:=.type "range",data:=.fields #[.int lo t,.int hi u,.int 1 v] },toks:=tk }:=by
 refine wpAny_pyIter_range (IsRange.new ..) (small_one h1 h2 h3 h4) ?_;have I1:az X pins σ H { s with heap:=s.heap.push { cls:=.type "range",data:=.fields #[.int lo t,.int hi u,.int 1 v] },toks:=tk }:=I.kept fun b o e=>aa3 _ e
 refine⟨(s.heap.push { cls:=.type "range",data:=.fields #[.int lo t,.int hi u,.int 1 v] }).objs.size,[(s.heap.push { cls:=.type "range",data:=.fields #[.int lo t,.int hi u,.int 1 v] }).objs.size],_,_,H,rfl,
  I1.kept (t':=tk) fun b o e=>aa3 _ e,kz _ lo (hi - lo).toNat,?_,fun b hb=>?_,q⟩
 ·have e1:lo+((0:Nat):Int) * 1=lo:=by simp
  have e2:(((hi - lo).toNat:Nat):Int) - ((0:Nat):Int)=Builtin.Range.rangeSize lo hi 1:=by rw [rangeSize_one];split<;>omega
  show IsRangeIter _ _ (lo+((0:Nat):Int) * 1) ((((hi - lo).toNat:Nat):Int) - ((0:Nat):Int)) 1;rw [e1,e2];exact aa6 _ rfl
 ·have e:b=(s.heap.push { cls:=.type "range",data:=.fields #[.int lo t,.int hi u,.int 1 v] }).objs.size:=by simpa using hb
  subst e;exact I1.fpOk (aa8 _) (I1.hok.fresh (aa8 _))
def Ae(ta:TA):TI:=fun σ H R=>ta σ H fun vs H1=>∃j:Int,vs=[.int j]∧-(2 ^ 62)≤j∧j < 2 ^ 62∧R (tu 0 j.toNat) H1
def Af(ta:TA):TI:=fun σ H R=>ta σ H fun vs H1=>∃i j:Int,vs=[.int i,.int j]∧(-(2 ^ 62)≤i∧i < 2 ^ 62∧-(2 ^ 62)≤j∧j < 2 ^ 62)∧R (tu i (j - i).toNat) H1
theorem iN{a:Expr}{ta:TA}{p pos:Pos}(hg:Gl X "range")(hm:X.mg "range"=none)(ha:PA X [a] ta)(hs:starEach [a] X.env=[(false,eval a X.env)]:=by rfl):PI X tg (.Call (.Name "range" p) [a] [] pos) (Ae ta):=by
 intro pins s σ H R I h;refine Call_ (cb I hg hm boot_range (PyProof.Rows.callWith_type1 (bz (ha pos pins s σ H _ I h) fun us s1 ⟨vs,H1,I1,r1,q1⟩=>?_) hs rfl));obtain⟨j,e,q1,q2,q⟩:=q1;subst e
 cases r1 with
 | cons r rr=>
  cases rr;obtain⟨t,rfl⟩:=r;exact call_range_1 (pR I1 (by omega) (by omega) q1 q2 (by simpa using q))
theorem uP{a b:Expr}{ta:TA}{p pos:Pos}(hg:Gl X "range")(hm:X.mg "range"=none)(ha:PA X [a,b] ta)(hs:starEach [a,b] X.env=[(false,eval a X.env),(false,eval b X.env)]:=by rfl)(hs2:starEach [b] X.env=[(false,eval b X.env)]:=by rfl):
  PI X tg (.Call (.Name "range" p) [a,b] [] pos) (Af ta):=by
 intro pins s σ H R I h;refine Call_ (cb I hg hm boot_range (PyProof.Rows.callWith_type1 (bz (ha pos pins s σ H _ I h) fun us s1 ⟨vs,H1,I1,r1,q1⟩=>?_) (by rw [hs,hs2]) (by rw [hs2];rfl)));obtain⟨i,j,e,⟨q1,q2,q3,q4⟩,q⟩:=q1;subst e
 cases r1 with
 | cons r rr=>
  cases rr with
  | cons r' rr=>
   cases rr;obtain⟨t,rfl⟩:=r;obtain⟨t',rfl⟩:=r';exact call_range_2 (pR I1 q1 q2 q3 q4 q)
def Dh(wi:TI)(g:TG)(tb:TS):TS:=fun D σ H=>wi σ H fun J H1=>∃W:Nat→Nat→St→Hp→Prop,(∃m,W 0 m σ H1)∧∀i m σ H,W i m σ H→
 (J.stop i H∧D.nx σ H)∨(J.go i H∧∃N:St→Hp→Prop,(∀σ' H',N σ' H'→∃m',m' < m∧W (i+1) m' σ' H')∧∀x H',J.yld i H x H'→g x σ H' fun σ2 H2=>tb { D with nx:=N,ct:=N,bk:=D.nx } σ2 H2)
def nk(fp:List Addr)(h:Heap):List (Addr×Obj):=fp.filterMap fun b=>(h.get? b).map fun o=>(b,o)
theorem cU{fp:List Addr}{h:Heap}{b:Addr}{o:Obj}(hb:b∈fp)(e:h.get? b=some o):(b,o)∈nk fp h:=ak6.mpr ⟨b,hb,by rw [e];rfl⟩
theorem uE{fp:List Addr}{h:Heap}{p:Addr×Obj}(hp:p∈nk fp h):p.1∈fp∧h.get? p.1=some p.2:=by
 obtain⟨b,hb,e⟩:=ak6.mp hp
 cases q:h.get? b with
 | none=>rw [q]at e;cases e
 | some o=>
  rw [q]at e;have e':(b,o)=p:=Option.some.inj e;subst e';exact⟨hb,q⟩
theorem az.pinned{pins:List (Addr×Obj)}{σ:St}{H:Hp}{s:Shared}{fp:List Addr}(I:az X pins σ H s)(hf:∀b∈fp,iz X pins H b)(ho:∀b∈fp,∃o,s.heap.get? b=some o∧∀v,o.data≠.cell v):az X (pins++nk fp s.heap) σ H s:=
 I.pins_of fun p hp=>(ad7.mp hp).elim (fun z=>I.pin p (ac1 _ z)) fun z=>by
  obtain⟨hb,e⟩:=uE z;obtain⟨f0,f1,f2,_⟩:=hf p.1 hb;obtain⟨o,e',d⟩:=ho p.1 hb;rw [e]at e';cases e';exact⟨e,f0,f1,f2,d⟩
theorem az.unpinned{pins pl:List (Addr×Obj)}{σ:St}{H:Hp}{s:Shared}(I:az X (pins++pl) σ H s):az X pins σ H s:=I.pins_of fun p hp=>I.pin p (ac1 _ (ah5 _ hp))
theorem bu{iter:Expr}{body:List Stmt}{wi:TI}{g:TG}{tb:TS}{pos:Pos}(hp:PassesOwn (model X.prog X.w) X.A X.env X.xe)(hc:X.calm=true)(hi:PI X tg iter wi)(hg:PG X tg g)(hb:rY X body tb)
  (hs:∀x,foldedSetIterable iter X.env x=pure x:=by intro _;rfl):PS X (.For tg iter body [] pos) (Dh wi g tb):=by
 intro pins s σ H D I h;refine wpAny_For (bz (hi pins s σ H _ I h) fun v s1 h1=>bz h1 fun itv s2 h2=>?_) hs;obtain⟨it,fp,tn,J,H2,e,I2,T,st2,f2,W,⟨m0,w0⟩,turn⟩:=h2;subst e;have stat:∀{H':Hp},(∀b∈fp,H' b=none)→∀b∈fp,iz X pins H' b:=fun hn b hb=>⟨hn b hb,(f2 b hb).2⟩;refine codeAny_forLoop_any (fun n s'=>∃i σ' H',az X pins σ' H' s'∧tn i s'.heap∧(∀b∈fp,H' b=none)∧W i n σ' H') ?_ m0 ⟨0,σ,H2,I2,st2,fun b hb=>(f2 b hb).1,w0⟩;rintro n s3 ⟨i,σ3,H3,I3,st3,fr3,w3⟩;rcases turn i n σ3 H3 w3 with⟨stop,qn⟩ | ⟨go,N,hN,step⟩
 ·refine wpAny_passesOwn hp (bz (T.done X rfl rfl rfl hc i pins s3 σ3 H3 X.xe I3 (stat fr3) st3 stop) fun r s4 ⟨hr,I4⟩=>?_)
  subst hr;exact wpAny_execs_nil ⟨σ3,H3,I4,qn⟩
 ·refine wpAny_passesOwn hp (bz (T.item X rfl rfl rfl hc i pins s3 σ3 H3 X.xe I3 (stat fr3) st3 go) fun r s4 ⟨u,hr,h4⟩=>?_)
  subst hr;refine wpAny_passesOwn hp (bz h4 fun _ s5 ⟨x,H5,I5,r5,y5,st5,fr5⟩=>?_);have I5':=I5.pinned (stat fr5) (T.obj _ _ st5);refine wpAny_passesOwn hp (bz (hg _ s5 σ3 H5 x u _ I5' r5 (step x H5 y5)) fun _ s6 ⟨σ6,H6,I6,q6⟩=>?_);refine wpAny_passesOwn hp (bz (hb _ s6 σ6 H6 _ I6 q6) fun f s7 q7=>?_)
  have again:∀{σ7:St} {H7:Hp},az X (pins++nk fp s5.heap) σ7 H7 s7→N σ7 H7→∃m,m < n∧∃i σ' H',az X pins σ' H' s7∧tn i s7.heap∧(∀b∈fp,H' b=none)∧W i m σ' H':=fun {σ7 H7} I7 n7=>by
   obtain⟨m',hm,w7⟩:=hN σ7 H7 n7;refine⟨m',hm,i+1,σ7,H7,I7.unpinned,T.keep _ _ _ st5 fun b hb o e=>(I7.pin (b,o) (ac1 _ (ac1 _ (cU hb e)))).1,fun b hb=>?_,w7⟩;obtain⟨o,e,d⟩:=T.obj _ _ st5 b hb;exact(I7.pin (b,o) (ac1 _ (ac1 _ (cU hb e)))).2.1
  cases f with
  | next=>obtain⟨σ7,H7,I7,n7⟩:=q7;exact again I7 n7
  | cont=>obtain⟨σ7,H7,I7,n7⟩:=q7;exact again I7 n7
  | brk=>obtain⟨σ7,H7,I7,q7⟩:=q7;exact⟨σ7,H7,I7.unpinned,q7⟩
  | ret v=>obtain⟨x7,σ7,H7,I7,r7,q7⟩:=q7;exact⟨x7,σ7,H7,I7.unpinned,r7,q7⟩
end
theorem vT{K:Frag}{a:Addr}{xs:List V}{g:TG}{tb:TS}{D:eU}{σ:St}{H:Hp}(Pv:Nat→St→Hp→Prop)(h0:Pv 0 σ H)(hl:∀i σ H,i≤xs.length→Pv i σ H→aI K H a xs)
  (hs:∀i x σ H,xs[i]?=some x→Pv i σ H→g x σ H fun σ2 H2=>tb { D with nx:=Pv (i+1),ct:=Pv (i+1),bk:=D.nx } σ2 H2) (hd:∀σ H,Pv xs.length σ H→D.nx σ H) :
  ∃W:Nat→Nat→St→Hp→Prop,(∃m,W 0 m σ H)∧∀i m σ H,W i m σ H→
   ((xZ K a).stop i H∧D.nx σ H)∨((xZ K a).go i H∧∃N:St→Hp→Prop,(∀σ' H',N σ' H'→∃m',m' < m∧W (i+1) m' σ' H')∧∀x H',(xZ K a).yld i H x H'→g x σ H' fun σ2 H2=>tb { D with nx:=N,ct:=N,bk:=D.nx } σ2 H2):=by
 refine⟨fun i m σ H=>m=xs.length - i∧i≤xs.length∧Pv i σ H,⟨xs.length,by simp,ad0 _,h0⟩,?_⟩;rintro i m σ H ⟨rfl,hi,p⟩;have q:=hl i σ H hi p
 by_cases hlt:i < xs.length
 ·refine .inr ⟨⟨xs,xs[i],q,by simp [hlt]⟩,Pv (i+1),fun σ' H' p'=>⟨xs.length - (i+1),by omega,rfl,hlt,p'⟩,fun x H' y=>?_⟩
  obtain⟨e,y⟩:=y;subst e;exact hs i x σ _ (y xs q) p
 ·have e:i=xs.length:=by omega
  subst e;exact .inl ⟨⟨xs,q,aa8 _⟩,hd σ H p⟩
theorem uf{lo:Int}{n:Nat}{g:TG}{tb:TS}{D:eU}{σ:St}{H:Hp}(Pv:Nat→St→Hp→Prop)(h0:Pv 0 σ H)
  (hs:∀i σ H,i < n→Pv i σ H→g (.int (lo+i)) σ H fun σ2 H2=>tb { D with nx:=Pv (i+1),ct:=Pv (i+1),bk:=D.nx } σ2 H2) (hd:∀σ H,Pv n σ H→D.nx σ H) :
  ∃W:Nat→Nat→St→Hp→Prop,(∃m,W 0 m σ H)∧∀i m σ H,W i m σ H→
   ((tu lo n).stop i H∧D.nx σ H)∨((tu lo n).go i H∧∃N:St→Hp→Prop,(∀σ' H',N σ' H'→∃m',m' < m∧W (i+1) m' σ' H')∧∀x H',(tu lo n).yld i H x H'→g x σ H' fun σ2 H2=>tb { D with nx:=N,ct:=N,bk:=D.nx } σ2 H2):=by
 refine⟨fun i m σ H=>m=n - i∧i≤n∧Pv i σ H,⟨n,by simp,ad0 _,h0⟩,?_⟩;rintro i m σ H ⟨rfl,hi,p⟩
 by_cases hlt:i < n
 ·refine .inr ⟨hlt,Pv (i+1),fun σ' H' p'=>⟨n - (i+1),by omega,rfl,hlt,p'⟩,fun x H' y=>?_⟩
  obtain⟨e,y⟩:=y;subst e y;exact hs i σ _ hlt p
 ·have e:i=n:=by omega
  subst e;exact .inl ⟨aa8 _,hd σ H p⟩
end L2
namespace L2
open PySem PySem.Spec PyProof.Rows
abbrev R2:=V→V→Hp→VK→Prop
def bZ(X:Cx)(f:Value→Value→Sem Value)(r:R2):Prop:=
 ∀(pins:List (Addr×Obj)) (s:Shared) (σ:St) (H:Hp) (x y:V) (v u:Value) (Q:VK),az X pins σ H s→aF x v→aF y u→r x y H Q→
  wpAny (model X.prog X.w) X.A (f v u) (EP X pins σ Q) X.xe s
def Cf(X:Cx)(f:Value→Sem Value)(r:V→Hp→VK→Prop):Prop:=
 ∀(pins:List (Addr×Obj)) (s:Shared) (σ:St) (H:Hp) (x:V) (v:Value) (Q:VK),az X pins σ H s→aF x v→r x H Q→
  wpAny (model X.prog X.w) X.A (f v) (EP X pins σ Q) X.xe s
def bq(X:Cx)(f:Value)(r:List V→Hp→VK→Prop):Prop:=
 ∀(pins:List (Addr×Obj)) (s:Shared) (σ:St) (H:Hp) (xs:List V) (us:List Value) (Q:VK),az X pins σ H s→aH xs us→r xs H Q→
  wpAny (model X.prog X.w) X.A (call f us) (EP X pins σ Q) X.xe s
def DJ(X:Cx)(r:V→Hp→(Bool→Hp→Prop)→Prop):Prop:=
 ∀(pins:List (Addr×Obj)) (s:Shared) (σ:St) (H:Hp) (x:V) (v:Value) (Q:Bool→Hp→Prop),az X pins σ H s→aF x v→r x H Q→
  wpAny (model X.prog X.w) X.A (truthy v) (TP X pins σ Q) X.xe s
def BY(r:R2)(ta tb:TE):TE:=fun σ H Q=>ta σ H fun x H1=>tb σ H1 fun y H2=>r x y H2 Q
def D7(r:V→Hp→VK→Prop)(ta:TE):TE:=fun σ H Q=>ta σ H fun x H1=>r x H1 Q
def rI(C:Int→Int→Prop)(g:Int→Int→V):R2:=fun x y H Q=>∃i j,x=.int i∧y=.int j∧C i j∧Q (g i j) H
def pL(g:Int→Int→V):R2:=fun x y H Q=>∃i j,x=.int i∧y=.int j∧Q (g i j) H
def rU(g:Int→V):V→Hp→VK→Prop:=fun x H Q=>∃i,x=.int i∧Q (g i) H
section
variable {X:Cx} {a b c:Expr} {ta tb tc:TE} {pos:Pos}
theorem AJ(ha:PE X a ta)(hb:PE X b tb){pins:List (Addr×Obj)}{s:Shared}{σ:St}{H:Hp}{R:V→V→Hp→Prop}(I:az X pins σ H s)
  (h:ta σ H fun x H1=>tb σ H1 fun y H2=>R x y H2) {Q:Value→Shared→Prop} {f:Value→Value→Sem Value}
  (hf:∀v u s2 x y H2,az X pins σ H2 s2→aF x v→aF y u→R x y H2→wpAny (model X.prog X.w) X.A (f v u) Q X.xe s2) :
  wpAny (model X.prog X.w) X.A (eval a X.env) (fun v s₁=>wpAny (model X.prog X.w) X.A (eval b X.env) (fun u s₂=>wpAny (model X.prog X.w) X.A (f v u) Q X.xe s₂) X.xe s₁) X.xe s:=by
 refine bz (ha pins s σ H _ I h) fun v s1 ⟨x,H1,I1,r1,q1⟩=>?_;refine bz (hb pins s1 σ H1 _ I1 q1) fun u s2 ⟨y,H2,I2,r2,q2⟩=>?_;exact hf v u s2 x y H2 I2 r1 r2 q2
theorem aA{op:Operator}{r:R2}(ho:bZ X (binaryOp op) r)(ha:PE X a ta)(hb:PE X b tb):PE X (.BinOp a op b pos) (BY r ta tb):=by
 intro pins s σ H Q I h;exact wpAny_BinOp (AJ ha hb I h fun v u s2 x y H2 I2 rx ry q=>ho pins s2 σ H2 x y v u Q I2 rx ry q)
theorem sH{op:UnaryOp}{r:V→Hp→VK→Prop}(ho:Cf X (unaryOp op) r)(ha:PE X a ta):PE X (.UnaryOp op a pos) (D7 r ta):=by
 intro pins s σ H Q I h;exact UnaryOp_ (bz (ha pins s σ H _ I h) fun v s1 ⟨x,H1,I1,r1,q1⟩=>ho pins s1 σ H1 x v Q I1 r1 q1)
theorem CK{f:Value→Value→Sem Value}{C:Int→Int→Prop}{g:Int→Int→Int}
  (rule:∀(i j:Int) (t u:Tok) (s:Shared) (Q:Value→Shared→Prop) (E:Value→Shared→Prop),C i j→Q (.int (g i j) s.toks) { s with toks:=s.toks+1 }→wpAny (model X.prog X.w) X.A (f (.int i t) (.int j u)) Q E s) :
  bZ X f (rI C fun i j=>.int (g i j)):=by
 intro pins s σ H x y v u Q I rx ry h;obtain⟨i,j,rfl,rfl,hc,q⟩:=h;obtain⟨t,rfl⟩:=rx;obtain⟨t',rfl⟩:=ry;exact rule i j t t' s _ _ hc ⟨.int (g i j),H,I.tok _,⟨_,rfl⟩,q⟩
theorem y7{f:Value→Value→Sem Value}{g:Int→Int→Int}
  (rule:∀(i j:Int) (t u:Tok) (s:Shared) (Q:Value→Shared→Prop) (E:Value→Shared→Prop),Q (.int (g i j) s.toks) { s with toks:=s.toks+1 }→wpAny (model X.prog X.w) X.A (f (.int i t) (.int j u)) Q E s) :
  bZ X f (pL fun i j=>.int (g i j)):=by
 intro pins s σ H x y v u Q I rx ry h;obtain⟨i,j,rfl,rfl,q⟩:=h;obtain⟨t,rfl⟩:=rx;obtain⟨t',rfl⟩:=ry;exact rule i j t t' s _ _ ⟨.int (g i j),H,I.tok _,⟨_,rfl⟩,q⟩
theorem Bc{f:Value→Value→Sem Value}{g:Int→Int→Bool}
  (rule:∀(i j:Int) (t u:Tok) (s:Shared) (Q:Value→Shared→Prop) (E:Value→Shared→Prop),Q (.bool (g i j)) s→wpAny (model X.prog X.w) X.A (f (.int i t) (.int j u)) Q E s) :
  bZ X f (pL fun i j=>.bl (g i j)):=by
 intro pins s σ H x y v u Q I rx ry h;obtain⟨i,j,rfl,rfl,q⟩:=h;obtain⟨t,rfl⟩:=rx;obtain⟨t',rfl⟩:=ry;exact rule i j t t' s _ _ ⟨.bl (g i j),H,I,rfl,q⟩
def DD(i j:Int):Prop:=0 < j∧j < 1073741824
def DE(i j:Int):Prop:=0≤j∧j≤1000000∧i.natAbs < 2 ^ 64
theorem op_add:bZ X (binaryOp .Add) (pL fun i j=>.int (i+j)):=y7 fun _ _ _ _ _ _ _ q=>add_int q
theorem gB:bZ X (binaryOp .Sub) (pL fun i j=>.int (i - j)):=y7 fun _ _ _ _ _ _ _ q=>sub_int q
theorem da:bZ X (binaryOp .FloorDiv) (rI DD fun i j=>.int (i / j)):=CK fun i j _ _ _ _ _ hc q=>by
 have h1:(0:Int) < j:=hc.1;have h2:j < 1073741824:=hc.2;exact floordiv_int (by omega) (by rw [Int.fdiv_eq_ediv_of_nonneg i (by omega)];exact q) (.inl (PyProof.noPylong_small (by omega)))
theorem bW:bZ X (binaryOp .Mod) (rI (fun _ j=>0 < j) fun i j=>.int (i % j)):=CK fun i j _ _ _ _ _ hc q=>by
 have h1:(0:Int) < j:=hc;exact mod_int' (by omega) (by rw [Int.fmod_eq_emod_of_nonneg i (by omega)];exact q)
theorem ng:bZ X (binaryOp .Pow) (rI DE fun i j=>.int (i ^ j.toNat)):=CK fun _ _ _ _ _ _ _ hc q=>pow_int_small hc.1 hc.2.1 hc.2.2 q
theorem yA:bZ X (inplaceOp .Add) (pL fun i j=>.int (i+j)):=y7 fun _ _ _ _ _ _ _ q=>iadd_int q
theorem yB:bZ X (inplaceOp .Sub) (pL fun i j=>.int (i - j)):=y7 fun _ _ _ _ _ _ _ q=>isub_int q
theorem unI{f:Value→Sem Value}{g:Int→Int}
  (rule:∀(i:Int) (t:Tok) (s:Shared) (Q:Value→Shared→Prop) (E:Value→Shared→Prop),Q (.int (g i) s.toks) { s with toks:=s.toks+1 }→wpAny (model X.prog X.w) X.A (f (.int i t)) Q E s) :
  Cf X f (rU fun i=>.int (g i)):=by
 intro pins s σ H x v Q I rx h;obtain⟨i,rfl,q⟩:=h;obtain⟨t,rfl⟩:=rx;exact rule i t s _ _ ⟨.int (g i),H,I.tok _,⟨_,rfl⟩,q⟩
theorem n8:Cf X (unaryOp .USub) (rU fun i=>.int (-i)):=unI fun _ _ _ _ _ q=>neg_int q
end
def pX:V→V→Bool
 | .non,.non=>true | .non,.int _=>true | .int _,.non=>true | .non,.bl _=>true | .bl _,.non=>true | .non,.str _=>true | .str _,.non=>true
 | .int _,.int _=>true | .bl _,.bl _=>true | .str _,.str _=>true | .byt _,.byt _=>true
 | .int _,.str _=>true | .str _,.int _=>true | .bl _,.str _=>true | .str _,.bl _=>true
 | _,_=>false
def lY:R2:=fun x y H Q=>pX x y=true∧Q (.bl (decide (x=y))) H
def lZ:R2:=fun x y H Q=>pX x y=true∧Q (.bl (!decide (x=y))) H
theorem sh{i j:Int}:decide (V.int i=V.int j)=(i == j):=by
 rw [af9];simp
theorem vA{i j:Bool}:decide (V.bl i=V.bl j)=(i == j):=by
 rw [af9];simp
theorem si{i j:Str}:decide (V.str i=V.str j)=(i == j):=by
 rw [af9];simp
theorem sg{i j:Array UInt8}:decide (V.byt i=V.byt j)=(i.toList == j.toList):=by
 rw [af9];cases i;cases j;simp
section
variable {X:Cx} {a b c:Expr} {ta tb tc:TE} {pos:Pos}
theorem aO{pins:List (Addr×Obj)}{σ:St}{H:Hp}{s:Shared}{Q:VK}{k k':Bool}(I:az X pins σ H s)(q:Q (.bl k) H)(e:k=k'):EP X pins σ Q (.bool k') s:=by
 subst e;exact⟨.bl k,H,I,rfl,q⟩
theorem CT:bZ X (compareOp .Eq) lY:=by
 intro pins s σ H x y v u Q I rx ry h;obtain⟨hs,q⟩:=h
 cases x with
 | non=>
  cases rx
  cases y with
  | non=>cases ry;exact PySem.EqNone.eq_none_none (aO I q (by simp))
  | bl j=>cases ry;exact PySem.EqNone.eq_none_bool (aO I q (by simp))
  | int j=>obtain⟨t',rfl⟩:=ry;exact PySem.EqNone.eq_none_int (aO I q (by simp))
  | str j=>obtain⟨t',rfl⟩:=ry;exact PySem.EqNone.eq_none_str (aO I q (by simp))
  | _=>exact absurd (show false=true from hs) ab0
 | bl i=>
  cases rx
  cases y with
  | non=>cases ry;exact PySem.EqNone.eq_bool_none (aO I q (by simp))
  | bl j=>cases ry;exact eq_bool (aO I q vA)
  | str j=>obtain⟨t',rfl⟩:=ry;exact PySem.EqMixed.eq_bool_str (aO I q (by simp))
  | _=>exact absurd (show false=true from hs) ab0
 | int i=>
  obtain⟨t,rfl⟩:=rx
  cases y with
  | non=>cases ry;exact PySem.EqNone.eq_int_none (aO I q (by simp))
  | int j=>obtain⟨t',rfl⟩:=ry;exact eq_int (aO I q sh)
  | str j=>obtain⟨t',rfl⟩:=ry;exact PySem.EqMixed.eq_int_str (aO I q (by simp))
  | _=>exact absurd (show false=true from hs) ab0
 | str i=>
  obtain⟨t,rfl⟩:=rx
  cases y with
  | non=>cases ry;exact PySem.EqNone.eq_str_none (aO I q (by simp))
  | bl j=>cases ry;exact PySem.EqMixed.eq_str_bool (aO I q (by simp))
  | int j=>obtain⟨t',rfl⟩:=ry;exact PySem.EqMixed.eq_str_int (aO I q (by simp))
  | str j=>obtain⟨t',rfl⟩:=ry;exact eq_str (aO I q si)
  | _=>exact absurd (show false=true from hs) ab0
 | byt i=>
  obtain⟨t,rfl⟩:=rx
  cases y with
  | byt j=>obtain⟨t',rfl⟩:=ry;exact PySem.W.eq_bytes (aO I q sg)
  | _=>exact absurd (show false=true from hs) ab0
 | _=>cases y<;>exact absurd (show false=true from hs) ab0
theorem CW:bZ X (compareOp .NotEq) lZ:=by
 intro pins s σ H x y v u Q I rx ry h;obtain⟨hs,q⟩:=h
 cases x with
 | non=>
  cases rx
  cases y with
  | non=>cases ry;exact PySem.EqNone.ne_none_none (aO I q (by simp))
  | bl j=>cases ry;exact PySem.EqNone.ne_none_bool (aO I q (by simp))
  | int j=>obtain⟨t',rfl⟩:=ry;exact PySem.EqNone.ne_none_int (aO I q (by simp))
  | str j=>obtain⟨t',rfl⟩:=ry;exact PySem.EqNone.ne_none_str (aO I q (by simp))
  | _=>exact absurd (show false=true from hs) ab0
 | bl i=>
  cases rx
  cases y with
  | non=>cases ry;exact PySem.EqNone.ne_bool_none (aO I q (by simp))
  | bl j=>cases ry;exact ne_bool (aO I q (congrArg not vA))
  | str j=>obtain⟨t',rfl⟩:=ry;exact PySem.EqMixed.ne_bool_str (aO I q (by simp))
  | _=>exact absurd (show false=true from hs) ab0
 | int i=>
  obtain⟨t,rfl⟩:=rx
  cases y with
  | non=>cases ry;exact PySem.EqNone.ne_int_none (aO I q (by simp))
  | int j=>obtain⟨t',rfl⟩:=ry;exact ne_int (aO I q (congrArg not sh))
  | str j=>obtain⟨t',rfl⟩:=ry;exact PySem.EqMixed.ne_int_str (aO I q (by simp))
  | _=>exact absurd (show false=true from hs) ab0
 | str i=>
  obtain⟨t,rfl⟩:=rx
  cases y with
  | non=>cases ry;exact PySem.EqNone.ne_str_none (aO I q (by simp))
  | bl j=>cases ry;exact PySem.EqMixed.ne_str_bool (aO I q (by simp))
  | int j=>obtain⟨t',rfl⟩:=ry;exact PySem.EqMixed.ne_str_int (aO I q (by simp))
  | str j=>obtain⟨t',rfl⟩:=ry;exact ne_str (aO I q (congrArg not si))
  | _=>exact absurd (show false=true from hs) ab0
 | byt i=>
  obtain⟨t,rfl⟩:=rx
  cases y with
  | byt j=>obtain⟨t',rfl⟩:=ry;exact PySem.W.ne_bytes (aO I q (congrArg not sg))
  | _=>exact absurd (show false=true from hs) ab0
 | _=>cases y<;>exact absurd (show false=true from hs) ab0
theorem CV:bZ X (compareOp .Lt) (pL fun i j=>.bl (decide (i < j))):=Bc fun _ _ _ _ _ _ _ q=>lt_int q
theorem sE:bZ X (compareOp .LtE) (pL fun i j=>.bl (decide (i≤j))):=Bc fun _ _ _ _ _ _ _ q=>le_int q
theorem Am:bZ X (compareOp .Gt) (pL fun i j=>.bl (decide (j < i))):=Bc fun _ _ _ _ _ _ _ q=>gt_int q
theorem op_in_str:bZ X (compareOp .In) (fun x y H Q=>∃i j,x=.str i∧y=.str j∧Q (.bl (!(Builtin.Str.occurrences j i 0 j.length 1).isEmpty)) H):=by
 intro pins s σ H x y v u Q I rx ry h;obtain⟨i,j,rfl,rfl,q⟩:=h;obtain⟨t,rfl⟩:=rx;obtain⟨t',rfl⟩:=ry;exact in_str (aO I q rfl)
theorem j5:bZ X (compareOp .Is) (fun x y H Q=>y=.non∧Q (.bl (decide (x=.non))) H):=by
 intro pins s σ H x y v u Q I rx ry h;obtain⟨rfl,q⟩:=h;cases ry;refine is_none_gen (aO I q ?_)
 cases x<;>first
  | (cases rx;rfl)
  | (obtain⟨t,rfl⟩:=rx;rfl)
theorem jk:bZ X (compareOp .IsNot) (fun x y H Q=>y=.non∧Q (.bl (!decide (x=.non))) H):=by
 intro pins s σ H x y v u Q I rx ry h;obtain⟨rfl,q⟩:=h;cases ry;refine isnot_none_gen (aO I q ?_)
 cases x<;>first
  | (cases rx;rfl)
  | (obtain⟨t,rfl⟩:=rx;rfl)
theorem op_notin_str:bZ X (compareOp .NotIn) (fun x y H Q=>∃i j,x=.str i∧y=.str j∧Q (.bl (!(!(Builtin.Str.occurrences j i 0 j.length 1).isEmpty))) H):=by
 intro pins s σ H x y v u Q I rx ry h;obtain⟨i,j,rfl,rfl,q⟩:=h;obtain⟨t,rfl⟩:=rx;obtain⟨t',rfl⟩:=ry;exact notIn_str (aO I q rfl)
theorem bZ.or{f:Value→Value→Sem Value}{r r':R2}(h:bZ X f r)(h':bZ X f r'):bZ X f (fun x y H Q=>r x y H Q∨r' x y H Q):=by
 intro pins s σ H x y v u Q I rx ry q;rcases q with q | q
 ·exact h pins s σ H x y v u Q I rx ry q
 ·exact h' pins s σ H x y v u Q I rx ry q
theorem aQ(b:Expr){op:CmpOp}(h:op≠.In:=by decide)(h2:op≠.NotIn:=by decide):behindInMarks op b=false:=by
 have e1:(op == CmpOp.In)=false:=by cases op<;>first | rfl | exact absurd rfl h
 have e2:(op == CmpOp.NotIn)=false:=by cases op<;>first | rfl | exact absurd rfl h2
 cases b<;>simp [behindInMarks,e1,e2]
theorem dz{op:CmpOp}{r:R2}(ho:bZ X (compareOp op) r)(ha:PE X a ta)(hb:PE X b tb)(hm:behindInMarks op b=false):PE X (.Compare a [op] [b] pos) (BY r ta tb):=by
 intro pins s σ H Q I h;exact wpAny_Compare1 (AJ ha hb I h fun v u s2 x y H2 I2 rx ry q=>ho pins s2 σ H2 x y v u Q I2 rx ry q) hm
def md(t:TE):TT:=fun σ H Q=>t σ H fun x H'=>∃k,x=.bl k∧Q k H'
theorem aN{op:CmpOp}{r:R2}(ho:bZ X (compareOp op) r)(ha:PE X a ta)(hb:PE X b tb)(hm:behindInMarks op b=false):PT X (.Compare a [op] [b] pos) (md (BY r ta tb)):=by
 intro pins s σ H Q I h
 refine wpAny_isTrue_Compare1 (bz (ha pins s σ H _ I h) fun v s1 ⟨x,H1,I1,r1,q1⟩=>bz (hb pins s1 σ H1 _ I1 q1) fun u s2 ⟨y,H2,I2,r2,q2⟩=>
  bz (ho pins s2 σ H2 x y v u _ I2 r1 r2 q2) fun c s3 ⟨z,H3,I3,r3,k,e,q3⟩=>?_) hm
 subst e;cases r3;exact wpAny_truthy_bool ⟨H3,I3,q3⟩
def xF(r r':R2)(ta tb tc:TE):TE:=fun σ H Q=>ta σ H fun x H1=>tb σ H1 fun y H2=>r x y H2 fun z H3=>∃k,z=.bl k∧
 (if k=true then tc σ H3 fun w' H4=>r' y w' H4 Q else Q (.bl false) H3)
theorem pI{op op':CmpOp}{r r':R2}(ho:bZ X (compareOp op) r)(ho':bZ X (compareOp op') r')(ha:PE X a ta)(hb:PE X b tb)(hc:PE X c tc)
  (hm:lastMarks [op,op'] [b,c]=false:=by with_unfolding_all rfl):PT X (.Compare a [op,op'] [b,c] pos) (md (xF r r' ta tb tc)):=by
 intro pins s σ H Q I h
 refine isTrue_chain (bz (ha pins s σ H _ I h) fun v s1 ⟨x,H1,I1,r1,q1⟩=>test_link (bz (hb pins s1 σ H1 _ I1 q1) fun u s2 ⟨y,H2,I2,r2,q2⟩=>
  bz (ho pins s2 σ H2 x y v u _ I2 r1 r2 q2) fun d s3 ⟨z,H3,I3,r3,k,e,q3⟩=>?_)) hm
 subst e;cases r3;refine wpAny_truthy_bool ?_
 cases k with
 | false=>
  obtain⟨k',e',q'⟩:=q3;cases e';exact ite_ff ⟨H3,I3,q'⟩
 | true=>
  refine ite_tt (test_last (bz (hc pins s3 σ H3 _ I3 q3) fun w' s4 ⟨z',H4,I4,r4,q4⟩=>bz (ho' pins s4 σ H4 y z' u w' _ I4 r2 r4 q4) fun d' s5 ⟨z2,H5,I5,r5,k2,e2,q5⟩=>?_));subst e2;cases r5;exact wpAny_truthy_bool ⟨H5,I5,q5⟩
def vo(K:Frag)(x:V)(H:Hp)(k:Bool):Prop:=
 match x with
 | .non=>k=false
 | .bl b=>k=b
 | .int i=>k=(i != 0)
 | .str y=>y.length≤sizeLine∧k=((y.length:Int) != 0)
 | .byt y=>y.size≤sizeLine∧k=((y.size:Int) != 0)
 | .ref p=>(∃xs,aI K H p xs∧k=!xs.isEmpty)∨(∃xs,bf K H p xs∧k=!xs.isEmpty)∨∃kvs,H p=some (.dK kvs)∧k=!kvs.isEmpty
 | _=>False
theorem qQ{κ:Type}{kvs:List (κ×V)}{vs:List (κ×Value)}(r:KV kvs vs):(!vs.isEmpty)=!kvs.isEmpty:=by
 cases r<;>rfl
theorem jM{xs:List V}{its:List Value}(r:aH xs its):(!its.toArray.isEmpty)=!xs.isEmpty:=by
 cases r<;>simp
theorem gx:(sizeLine:Nat) < 2 ^ 63:=by rw [sizeLine_eq];decide
theorem BN:DJ X (fun x H Q=>∃k,vo X.K x H k∧Q k H):=by
 intro pins s σ H x v Q I rx h;obtain⟨k,e,q⟩:=h;have hl:=gx;have hs:sizeLine=16777216:=sizeLine_eq
 cases x with
 | non=>
  cases rx;have e':k=false:=e;subst e';exact truthy_none ⟨H,I,q⟩
 | bl b=>
  cases rx;have e':k=b:=e;subst e';exact wpAny_truthy_bool ⟨H,I,q⟩
 | int i=>
  obtain⟨t,rfl⟩:=rx;have e':k=(i != 0):=e;subst e';exact PySem.P.truthy_int ⟨H,I,q⟩
 | str y=>
  obtain⟨t,rfl⟩:=rx;obtain⟨hy,e'⟩:y.length≤sizeLine∧k=((y.length:Int) != 0):=e;subst e';exact PySem.P.truthy_str (by omega) ⟨H,I.tok _,q⟩
 | byt y=>
  obtain⟨t,rfl⟩:=rx;obtain⟨hy,e'⟩:y.size≤sizeLine∧k=((y.size:Int) != 0):=e;subst e';exact PySem.W.truthy_bytes (by omega) ⟨H,I.tok _,q⟩
 | ref p=>
  cases rx;have e':(∃xs,aI X.K H p xs∧k=!xs.isEmpty)∨(∃xs,bf X.K H p xs∧k=!xs.isEmpty)∨∃kvs,H p=some (.dK kvs)∧k=!kvs.isEmpty:=e;rcases e' with⟨xs,hx,e'⟩ | ⟨xs,hx,e'⟩ | ⟨kvs,hx,e'⟩
  ·subst e'
   obtain⟨its,r,pl,hz⟩:=I.list hx;have hlen:=r.length;exact wpAny_truthy_list pl.isList (by simp only [aa7];omega) ⟨H,I.tok _,by rw [jM r];exact q⟩
  ·subst e'
   obtain⟨its,r,pl,hz⟩:=I.tuple hx;have hlen:=r.length;exact truthy_tuple pl (by simp only [aa7];omega) ⟨H,I.tok _,by rw [jM r];exact q⟩
  ·subst e'
   obtain⟨hz,hS,vs,r,m⟩:kvs.length≤sizeLine∧(p == sysModules)=false∧∃vs,KV kvs vs∧s.heap.DictOf (mS X.prog X.w) p vs:=I.hok p _ hx;have hlen:kvs.length=vs.length:=Paired.length r;exact wpAny_truthy_dict hS m (by omega) ⟨H,I.tok _,by rw [qQ r];exact q⟩
 | _=>exact(show False from e).elim
theorem a0(ha:PE X a ta)(he:∀whole,isTrue a X.env whole=(do let v ←whole;standAt a.pos;holding [v] (truthy v))):
  PT X a (fun σ H Q=>ta σ H fun x H'=>∃k,vo X.K x H' k∧Q k H'):=by
 intro pins s σ H Q I h;exact isTrue_plain (bz (ha pins s σ H _ I h) fun v s1 ⟨x,H1,I1,r1,q1⟩=>BN pins s1 σ H1 x v Q I1 r1 q1) (he _)
theorem op_add_str:bZ X (binaryOp .Add) (fun x y H Q=>∃i j,x=.str i∧y=.str j∧i.length+j.length≤sizeLine∧Q (.str (i++j)) H):=by
 intro pins s σ H x y v u Q I rx ry h;obtain⟨i,j,rfl,rfl,hz,q⟩:=h;obtain⟨t,rfl⟩:=rx;obtain⟨t',rfl⟩:=ry;exact add_str (fun t' tk=>⟨.str (i++j),H,I.tok _,⟨_,rfl⟩,q⟩) hz
theorem cN{x:V}{us:List Value}(r:aH [x] us):∃u,us=[u]∧aF x u:=by
 cases r with
 | cons r1 r2=>cases r2;exact⟨_,rfl,r1⟩
theorem kA{x y:V}{us:List Value}(r:aH [x,y] us):∃u w',us=[u,w']∧aF x u∧aF y w':=by
 cases r with
 | cons r1 r2=>
  cases r2 with
  | cons r3 r4=>cases r4;exact⟨_,_,rfl,r1,r3⟩
theorem tH(hc:X.calm=true):bq X (.builtin "max") (fun xs H Q=>∃i j,xs=[.int i,.int j]∧Q (.int (if j > i then j else i)) H):=by
 intro pins s σ H xs us Q I r h;obtain⟨i,j,rfl,q⟩:=h;obtain⟨u,w',rfl,⟨t,rfl⟩,⟨t',rfl⟩⟩:=kA r;refine max_two_ints (I.ok.hd hc) fun h' tk k=>⟨_,H,I.kept k,?_,q⟩
 by_cases hj:j > i
 ·rw [if_pos hj,if_pos hj];exact⟨_,rfl⟩
 ·rw [if_neg hj,if_neg hj];exact⟨_,rfl⟩
theorem iD(hc:X.calm=true):bq X (.builtin "min") (fun xs H Q=>∃i j,xs=[.int i,.int j]∧Q (.int (if j < i then j else i)) H):=by
 intro pins s σ H xs us Q I r h;obtain⟨i,j,rfl,q⟩:=h;obtain⟨u,w',rfl,⟨t,rfl⟩,⟨t',rfl⟩⟩:=kA r;refine min_two_ints (I.ok.hd hc) fun h' tk k=>⟨_,H,I.kept k,?_,q⟩
 by_cases hj:j < i
 ·rw [if_pos hj,if_pos hj];exact⟨_,rfl⟩
 ·rw [if_neg hj,if_neg hj];exact⟨_,rfl⟩
theorem tF:bq X (.type "int") (fun xs H Q=>(∃i,xs=[.int i]∧Q (.int i) H)∨∃k,xs=[.bl k]∧Q (.int (if k then 1 else 0)) H):=by
 intro pins s σ H xs us Q I r h;rcases h with⟨i,rfl,q⟩ | ⟨k,rfl,q⟩
 ·obtain⟨u,rfl,t,rfl⟩:=cN r
  exact call_int_int ⟨.int i,H,I,⟨_,rfl⟩,q⟩
 ·obtain⟨u,rfl,r1⟩:=cN r
  cases r1;exact call_int_bool ⟨.int (if k then 1 else 0),H,I.tok _,⟨_,rfl⟩,q⟩
theorem call_str_int:bq X (.type "str") (fun xs H Q=>∃i,xs=[.int i]∧i.natAbs.log2 < 1920∧Q (.str (toString i)) H):=by
 intro pins s σ H xs us Q I r h;obtain⟨i,rfl,hz,q⟩:=h;obtain⟨u,rfl,t,rfl⟩:=cN r;exact PySem.P.str_of_int hz ⟨.str _,H,I.tok _,⟨_,rfl⟩,q⟩
end
end L2
namespace L2
open PySem PySem.Spec PyProof.Rows
structure qu(h:Heap)(x dx C:Addr)(mA:Str→Option Value):Prop where
 obj:h.get? x=some (instObj C dx)
 ns:h.Ns1 dx mA
 ne:dx≠x
theorem uw{h:Heap}{dx:Addr}{mA:Str→Option Value}(n:h.Ns1 dx mA):∃od,h.get? dx=some od∧∀name,PySem.W.lookIn name od=some (mA name):=by
 obtain⟨o,es,ep,ho,hd,hk,_,hm⟩:=n;refine⟨o,ho,fun name=>?_⟩;have e:=hm name;unfold nsFind findBy at e;rw [←Array.find?_toList]at e;unfold PySem.W.lookIn;rw [hd];dsimp only
 split
 ·rename_i y q
  rw [q]at e;exact congrArg some e
 ·rename_i q
  rw [q]at e
  have a:es.toList.any (·.refKey)=false:=by
   rw [List.any_eq_false];intro y hy;obtain⟨z,t,hkey⟩:=hk y (Array.mem_toList_iff.mp hy);simp [DictEntry.refKey,hkey]
  have a':¬es.toList.any (·.refKey)=true:=by rw [a];exact ab0
  rw [if_neg a'];exact congrArg some e
theorem qu.look{h:Heap}{x dx C:Addr}{mA:Str→Option Value}(I:qu h x dx C mA):∃od,PySem.W.InstAt h x (instObj C dx) C (some od)∧∀name,PySem.W.lookIn name od=some (mA name):=
 let ⟨od,ho,hl⟩:=uw I.ns
 ⟨od,⟨I.obj,rfl,rfl,ho⟩,hl⟩
section
variable {prog:Program} {w:World} {A:Around} {E:Value→Shared→Prop} {s:Shared} {K:Frag} {x dx C f:Addr} {mA:Str→Option Value} {name:Str} {v:Value}
theorem yz{expr:Bool}{Q:Value→Shared→Prop}(X:K.In s.heap)(I:qu s.heap x dx C mA)(hg:PySem.W.plainGet K C name=true)(hh:PySem.W.hasDictIn K C=true)
  (ha:findIn K (.ref C) name=some none) (hv:mA name=some v) (hv':PySem.W.handedIn v=true) (h:Q v { s with toks:=s.toks+1 }) :
  wpAny (model prog w) A (getAttr (.ref x) name expr) Q E s:=by
 obtain⟨od,J,hl⟩:=I.look;exact PySem.W.get_value X J (PySem.W.plainGet_of hg).1 (PySem.W.findObj_own hh ha rfl (by rw [hl,hv])) hv' h
theorem vU{pl:Sem Bool}{Q:Value×List Value→Shared→Prop}(X:K.In s.heap)(I:qu s.heap x dx C mA)(hg:PySem.W.plainGet K C name=true)
  (hf:findIn K (.ref C) name=some (some (.ref f))) (ht:isFn K (.ref f)=true) (hv:mA name=none) (h:Q (.ref f,[.ref x]) s) :
  wpAny (model prog w) A (getMethod (.ref x) name pl) Q E s:=by
 obtain⟨od,J,hl⟩:=I.look
 exact PySem.W.method_fn X J (PySem.W.plainGet_of hg).1 (PySem.W.plainGet_of hg).2 hf (beq_iff_eq.mp ht) (by show(PySem.W.lookIn name od).map (·.isSome)=some false;rw [hl,hv];rfl) h
theorem zO{ns:List Str}{Q:Unit→Shared→Prop}(X:K.In s.heap)(I:qu s.heap x dx C mA)
  (hs:findIn K (.ref C) "__setattr__"=some (some (.builtin "object.__setattr__"))) (hp:PySem.W.plainOver K C=true) (ht:PySem.W.takerIn K C name=some none) (hh:PySem.W.hasDictIn K C=true)
  (hw:PySem.Within mA ns) (hsz:ns.length≤sizeLine)
  (h:∀h',qu h' x dx C (fun y=>if y=name then some v else mA y)→Heap.SameBut dx s.heap h'→Q () { s with heap:=h',toks:=s.toks+2 }) :
  wpAny (model prog w) A (setAttr (.ref x) name v) Q E s:=by
 obtain⟨od,J,hl⟩:=I.look;refine PySem.W.set_plain X J hs (PySem.W.osa_open (s:={ s with toks:=s.toks+1 }) (r:=none) X J hp ht fun b=>?_);obtain⟨cd,hc,hd'⟩:=PySem.W.any_some hh;have hx:s.heap.get? x=some ⟨.ref C,some dx,.plain,#[]⟩:=I.obj;refine wpAny_bind (wpAny_pure (wpAny_bind (wpAny_bind (wpAny_loadPart hx (wpAny_bind (PySem.W.Looks.here (s:={ s with toks:=s.toks+1 }) (PySem.W.looks_clsIn X hc) ?_))))));rw [hd'];refine wpAny_pure (a:=some dx) (wpAny_bind (wpAny_pure (wpAny_bind ?_)));refine wpAny_nsSet1 (s:={ s with toks:=s.toks+1 }) I.ns fun h' hn2 hs2=>?_;obtain⟨oD,esD,epD,hoD,hdD,hcD⟩:=hn2.count (PySem.Within.cons name v hw);refine wpAny_bind (wpAny_lookBehind hoD (by rw [hdD];exact pastItsLine_dict (ac0 hcD (by rw [ac5];omega))) ?_);exact wpAny_pure (h _ ⟨(hs2.2 _ (Ne.symm I.ne)).trans I.obj,hn2,I.ne⟩ hs2)
theorem wB{R:Result→Shared→Prop}{vs:List Value}{kw:List (Str×Value)}(X:K.In s.heap)(hm:PySem.W.makesIn K C=true)
  (hi:findIn K (.ref C) "__init__"=some (some (.ref f))) (hf:PySem.W.typeIn K (.ref f)=some (.type "function"))
  (h:codeAny (model prog w) (A.under (.builtin "type.__call__" ⟨.ref C::vs,kw⟩)) (.call (.ref f) ⟨.ref (s.heap.objs.size+1)::vs,kw⟩) (PySem.W.InitBack (s.heap.objs.size+1) R)
   { s with heap:=(s.heap.push emptyDict).push (instObj C s.heap.objs.size) }) :
  codeAny (model prog w) A (.call (.ref C) ⟨vs,kw⟩) R s:=by
 obtain⟨hh,g,d,t,os⟩:=s;exact PySem.W.make_core (PySem.W.makes_of X hm) (PySem.W.looks_findIn X hi) (fun self=>PySem.W.bind_fn X self hf) (.inl rfl) h
end
def cI(f:Str)(v:V):List (Str×V)→List (Str×V)
 | []=>[(f,v)]
 | (g,x)::r=>if g=f then(g,v)::r else(g,x)::cI f v r
theorem fG(f g:Str)(v:V):∀fs:List (Str×V),(cI f v fs).lookup g=if g=f then some v else fs.lookup g
 | []=>by
  show List.lookup g [(f,v)]=_
  by_cases h:g=f
  ·have hb:(g == f)=true:=beq_iff_eq.mpr h
   simp only [List.lookup,hb,if_pos h]
  ·have hb:(g == f)=false:=beq_eq_false_iff_ne.mpr h
   simp only [List.lookup,hb,if_neg h]
 | (k,x)::r=>by
  have ih:=fG f g v r;rw [show cI f v ((k,x)::r)=(if k=f then(k,v)::r else(k,x)::cI f v r)from rfl]
  by_cases hk:k=f
  ·rw [if_pos hk]
   by_cases h:g=k
   ·have hb:(g == k)=true:=beq_iff_eq.mpr h
    simp only [List.lookup,hb,if_pos (h.trans hk)]
   ·have hb:(g == k)=false:=beq_eq_false_iff_ne.mpr h
    simp only [List.lookup,hb,if_neg (fun e:g=f=>h (e.trans hk.symm))]
  ·rw [if_neg hk]
   by_cases h:g=k
   ·have hb:(g == k)=true:=beq_iff_eq.mpr h
    simp only [List.lookup,hb,if_neg (fun e:g=f=>hk (h.symm.trans e))]
   ·have hb:(g == k)=false:=beq_eq_false_iff_ne.mpr h
    simp only [List.lookup,hb];exact ih
theorem iJ(f:Str)(v:V):∀fs:List (Str×V),f∈(cI f v fs).map (·.1)∧∀g,g∈fs.map (·.1)→g∈(cI f v fs).map (·.1)
 | []=>⟨by simp [cI],fun g h=>by simp at h⟩
 | (k,x)::r=>by
  obtain⟨i1,i2⟩:=iJ f v r;rw [show cI f v ((k,x)::r)=(if k=f then(k,v)::r else(k,x)::cI f v r)from rfl]
  by_cases hk:k=f
  ·rw [if_pos hk]
   subst hk;exact⟨by simp,fun g h=>by simpa using h⟩
  ·rw [if_neg hk]
   refine⟨?_,fun g h=>?_⟩
   ·rw [ad1]
    exact ad6 _ i1
   ·rw [ad1]at h ⊢
    rcases ab6.mp h with e | e
    ·exact ab6.mpr (.inl e)
    ·exact ad6 _ (i2 g e)
theorem de(f:Str)(v:V):∀fs:List (Str×V),(cI f v fs).length≤fs.length+1
 | []=>by simp [cI]
 | (k,x)::r=>by
  have ih:=de f v r;rw [show cI f v ((k,x)::r)=(if k=f then(k,v)::r else(k,x)::cI f v r)from rfl]
  by_cases hk:k=f
  ·rw [if_pos hk,ac5,ac5];omega
  ·rw [if_neg hk,ac5,ac5];omega
theorem iB.some_of{v:V}{o:Option Value}(r:iB (some v) o):∃u,o=some u∧aF v u:=by
 cases o with
 | none=>exact(show False from r).elim
 | some u=>exact⟨u,rfl,r⟩
theorem iB.none_of{o:Option Value}(r:iB none o):o=none:=by
 cases o with
 | none=>rfl
 | some u=>exact(show False from r).elim
theorem lQ{v:V}{u:Value}(r:aF v u):PySem.W.handedIn u=true:=by
 cases v with
 | non=>cases(show u=Value.none from r);rfl
 | bl b=>cases(show u=Value.bool b from r);rfl
 | int i=>obtain⟨t,e⟩:=(show ∃t,u=Value.int i t from r);cases e;rfl
 | str x=>obtain⟨t,e⟩:=(show ∃t,u=Value.str x t from r);cases e;rfl
 | byt b=>obtain⟨t,e⟩:=(show ∃t,u=Value.bytes b t from r);cases e;rfl
 | flt b=>obtain⟨t,e⟩:=(show ∃t,u=Value.float b t from r);cases e;rfl
 | ref a=>cases(show u=Value.ref a from r);rfl
 | ty n=>cases(show u=Value.type n from r);rfl
section
variable {P:Program} {w:World} {H H':Hp} {h h':Heap} {a C dx:Addr} {fs fs':List (Str×V)}
theorem jg(hok:gj P w H h)(e:H a=some (.ins C dx fs)):∃mA,qu h a dx C mA∧(∀f,iB (fs.lookup f) (mA f))∧PySem.Within mA (fs.map (·.1))∧fs.length≤1000∧H dx=some (.own a):=by
 obtain⟨d,z,ne,ob,mA,n,r,q⟩:=(show br P w H h a (.ins C dx fs)from hok a _ e);exact⟨mA,⟨ob,n,ne⟩,r,q,z,d⟩
end
structure vc(K:Frag)(C:Addr):Prop where
 pg:PySem.W.plainGet K C Str.empty=true
 hd:PySem.W.hasDictIn K C=true
 po:PySem.W.plainOver K C=true
 sa:findIn K (.ref C) "__setattr__"=some (some (.builtin "object.__setattr__"))
theorem vc.get{K:Frag}{C:Addr}(c:vc K C)(f:Str):PySem.W.plainGet K C f=true:=c.pg
def NoAttr(K:Frag)(C:Addr)(f:Str):Prop:=findIn K (.ref C) f=some none
theorem NoAttr.taker{K:Frag}{C:Addr}{f:Str}(n:NoAttr K C f):PySem.W.takerIn K C f=some none:=by
 unfold PySem.W.takerIn;rw [show findIn K (.ref C) f=some none from n];rfl
structure AG(K:Frag)(C:Addr)(m:Str)(f:Addr):Prop where
 at_:findIn K (.ref C) m=some (some (.ref f))
 fn:isFn K (.ref f)=true
 kp:keepIn K (.ref f)=true
section
variable {X:Cx} {pins:List (Addr×Obj)} {σ:St} {H:Hp} {s:Shared} {a C dx:Addr} {fs:List (Str×V)} {f:Str} {v:V} {A:Around} {E:Value→Shared→Prop}
theorem qP{b:Bool}{Q:Value→Shared→Prop}(I:az X pins σ H s)(e:H a=some (.ins C dx fs))(c:vc X.K C)(n:NoAttr X.K C f)(l:fs.lookup f=some v)
  (h:∀u s',az X pins σ H s'→aF v u→Q u s'):wpAny (model X.prog X.w) A (getAttr (.ref a) f b) Q E s:=by
 obtain⟨mA,O,r,_,_,_⟩:=jg I.hok e;obtain⟨u,hu,ru⟩:=iB.some_of (v:=v) (o:=mA f) (by rw [←l];exact r f);exact yz I.kIn O (c.get f) c.hd n hu (lQ ru) (h u _ (I.tok _) ru)
theorem jJ{m:Str}{g:Addr}{pl:Sem Bool}{Q:Value×List Value→Shared→Prop}(I:az X pins σ H s)(e:H a=some (.ins C dx fs))(c:vc X.K C)(k:AG X.K C m g)(l:fs.lookup m=none)
  (h:Q (.ref g,[.ref a]) s):wpAny (model X.prog X.w) A (getMethod (.ref a) m pl) Q E s:=by
 obtain⟨mA,O,r,_,_,_⟩:=jg I.hok e;have hn:mA m=none:=iB.none_of (by rw [←l];exact r m);exact vU I.kIn O (c.get m) k.at_ k.fn hn h
theorem rE{y:V}{u:Value}{Q:Unit→Shared→Prop}(I:az X pins σ H s)(e:H a=some (.ins C dx fs))(c:vc X.K C)(n:NoAttr X.K C f)(hl:fs.length < 1000)(ry:aF y u)
  (h:∀s',az X pins σ (upd H a (.ins C dx (cI f y fs))) s'→Q () s'):wpAny (model X.prog X.w) A (setAttr (.ref a) f u) Q E s:=by
 obtain⟨mA,O,r,wi,_,ho⟩:=jg I.hok e
 have hz:(fs.map (·.1)).length≤sizeLine:=by rw [aa0,sizeLine_eq];omega
 refine zO I.kIn O c.sa c.po n.taker c.hd wi hz fun h' O' sb=>h _ ?_
 have hd:∃o,h'.get? dx=some o:=let ⟨o,_,_,e',_⟩:=O'.ns;⟨o,e'⟩
 refine I.write (x:=a) (e:=dx) (by rw [e];exact True.intro) (.inr ho) (fun b q hb z=>(sb.2 b hb).trans z) hd ?_;refine⟨by rw [ai O.ne];exact ho,?_,O.ne,O'.obj,_,O'.ns,fun g=>?_,fun g hg=>?_⟩
 ·have:=de f y fs;omega
 ·show iB ((cI f y fs).lookup g) (if g=f then some u else mA g)
  rw [fG]
  by_cases q:g=f
  ·rw [if_pos q,if_pos q];exact ry
  ·rw [if_neg q,if_neg q];exact r g
 ·by_cases q:g=f
  ·rw [q];exact(iJ f y fs).1
  ·refine(iJ f y fs).2 g (wi g fun z=>hg ?_)
   show(if g=f then some u else mA g)=none;rw [if_neg q];exact z
theorem az.made(I:az X pins σ H s):az X pins σ (upd (upd H s.heap.objs.size (.own (s.heap.objs.size+1))) (s.heap.objs.size+1) (.ins C s.heap.objs.size []))
  { s with heap:=(s.heap.push emptyDict).push (instObj C s.heap.objs.size) }:=by
 have e1:(s.heap.push emptyDict).get? s.heap.objs.size=some emptyDict:=aa6 s.heap rfl
 have e2:((s.heap.push emptyDict).push (instObj C s.heap.objs.size)).get? (s.heap.objs.size+1)=some (instObj C s.heap.objs.size):=by
  have:=aa6 (s.heap.push emptyDict) (o:=instObj C s.heap.objs.size) rfl
  rwa [ae0]at this
 have e3:(s.heap.push emptyDict).Ns s.heap.objs.size (fun _=>none):=⟨emptyDict,#[],_,e1,rfl,(fun e he=>absurd he (by simp)),fun _=>rfl⟩;have I1:=I.laid (a:=s.heap.objs.size) (o:=.own (s.heap.objs.size+1)) (h':=s.heap.push emptyDict) (t':=s.toks) (fun b u q=>aa3 _ q) (aa8 _) ⟨_,e1⟩;refine I1.laid (a:=s.heap.objs.size+1) (o:=.ins C s.heap.objs.size []) (t':=s.toks) (fun b u q=>aa3 _ q) (Nat.le_of_eq (ae0 _ _)) ?_;have ne:s.heap.objs.size≠s.heap.objs.size+1:=ab1 (aj2 _);refine⟨by rw [ai ne,ag],ad0 _,ne,e2,fun _=>none,(Heap.Ns1.of_empty e3).at fun o q=>aa3 _ q,fun _=>True.intro,fun y hy=>absurd rfl hy⟩
theorem r6{prog:Program}{w:World}{env:Env}{e:Expr}{f:Str}{pos:Pos}{s:Shared}{Q:Value→Shared→Prop}(hb:attributeBase e f env (eval e env)=eval e env)
  (h:wpAny (model prog w) A (eval e env) (fun o s₁=>wpAny (model prog w) A (getAttr o f true) Q E s₁) E s):wpAny (model prog w) A (eval (.Attribute e f pos) env) Q E s:=
 Attribute_any_ h (by rw [arm_eval_Attribute,hb])
end
def Dg(K:Frag)(ta:TE)(f:Str):TE:=fun σ H Q=>ta σ H fun x H1=>∃a C dx fs v,x=.ref a∧H1 a=some (.ins C dx fs)∧vc K C∧NoAttr K C f∧fs.lookup f=some v∧Q v H1
def C8(K:Frag)(ta tv:TE)(f:Str):TS:=fun D σ H=>tv σ H fun y H1=>ta σ H1 fun x H2=>∃a C dx fs,x=.ref a∧H2 a=some (.ins C dx fs)∧vc K C∧NoAttr K C f∧fs.length < 1000∧
 D.nx σ (upd H2 a (.ins C dx (cI f y fs)))
section
variable {X:Cx} {o e value:Expr} {f:Str} {pos pos' tpos:Pos} {ta tv:TE}
theorem bQ(he:PE X e ta)(hb:attributeBase e f X.env (eval e X.env)=eval e X.env):PE X (.Attribute e f pos) (Dg X.K ta f):=by
 intro pins s σ H Q I h;refine r6 hb (bz (he pins s σ H _ I h) fun u s1 ⟨x,H1,I1,rx,a,C,dx,fs,v,ex,ea,c,n,l,q⟩=>?_);subst ex;obtain rfl:u=Value.ref a:=rx;exact qP I1 ea c n l fun u' s2 I2 ru=>⟨v,H1,I2,ru,q⟩
theorem j9(ha:PE X o ta)(hv:PE X value tv)(hs:swapsWith value (some (.Attribute o f pos')) pos.line X.env=pure false):PS X (.Assign [.Attribute o f pos'] value pos) (C8 X.K ta tv f):=by
 intro pins s σ H D I h;refine plainObj_wpAny_Assign_Attribute (bz (hv pins s σ H _ I h) fun u s1 ⟨y,H1,I1,ry,q⟩=>bz (ha pins s1 σ H1 _ I1 q) fun ov s2 ⟨x,H2,I2,rx,a,C,dx,fs,ex,ea,c,n,l,q2⟩=>?_) hs;subst ex;obtain rfl:ov=Value.ref a:=rx;exact rE I2 ea c n l ry fun s3 I3=>⟨σ,_,I3,q2⟩
end
section
variable {X:Cx} {pins:List (Addr×Obj)} {σ:St} {H:Hp} {s:Shared} {A:Around} {E:Value→Shared→Prop} {Q:Value→Shared→Prop} {c:Value} {b:Bool}
inductive gW(K:Frag)(H:Hp):V→Value→Prop where
 | non:gW K H .non (.type "NoneType")
 | bl (x:Bool):gW K H (.bl x) (.type "bool")
 | int (i:Int):gW K H (.int i) (.type "int")
 | str (x:Str):gW K H (.str x) (.type "str")
 | flt (x:UInt64):gW K H (.flt x) (.type "float")
 | lst {a:Addr} {xs:List V} (e:H a=some (.lst xs)):gW K H (.ref a) (.type "list")
 | frz {a:Addr} {o:Obj} {xs:List V} (e:H a=some (.frz o (.lst xs))):gW K H (.ref a) (.type "list")
 | tup {a:Addr} {xs:List V} (e:H a=some (.tup xs)):gW K H (.ref a) (.type "tuple")
 | dK {a:Addr} {kvs:List (n9×V)} (e:H a=some (.dK kvs)):gW K H (.ref a) (.type "dict")
 | dT {a:Addr} {kvs:List (List n9×V)} (e:H a=some (.dT kvs)):gW K H (.ref a) (.type "dict")
 | ins {a C dx:Addr} {fs:List (Str×V)} (e:H a=some (.ins C dx fs)) (cl:vc K C) (ha:findIn K (.ref C) "__class__"=some (some (.builtin "object.__class__")))
   (hn:PySem.W.specialIn K (.builtin "object.__class__") "__get__"=some (some (.builtin "getset_descriptor.__get__"))) (htk:PySem.W.takesIn K (.builtin "object.__class__")=some true)
   (hm:PySem.W.mroIn K C (.type "object")=some true):gW K H (.ref a) (.ref C)
theorem um{x:V}{u t:Value}(I:az X pins σ H s)(rx:aF x u)(ty:gW X.K H x t)(e:kitOne X.K t c=some b)(h:∀tk,Q (.bool b) { s with toks:=tk }):
  wpAny (model X.prog X.w) A (call (.builtin "isinstance") [u,c]) Q E s:=by
 cases ty with
 | non=>cases(show u=Value.none from rx);exact kia_one PySem.W.kitx_none I.kIn True.intro e (fun z=>nomatch z) h
 | bl y=>cases(show u=Value.bool y from rx);exact kia_one PySem.W.kitx_bool I.kIn True.intro e (fun z=>nomatch z) h
 | int i=>obtain⟨t,q⟩:=(show ∃t,u=Value.int i t from rx);cases q;exact kia_one PySem.W.kitx_int I.kIn True.intro e (fun z=>nomatch z) h
 | str y=>obtain⟨t,q⟩:=(show ∃t,u=Value.str y t from rx);cases q;exact kia_one PySem.W.kitx_str I.kIn True.intro e (fun z=>nomatch z) h
 | flt y=>obtain⟨t,q⟩:=(show ∃t,u=Value.float y t from rx);cases q;exact kia_one PySem.W.kitx_float I.kIn True.intro e (fun z=>nomatch z) h
 | @lst a xs ea=>
  cases(show u=Value.ref a from rx);obtain⟨_,_,n,_,h1⟩:=(show br X.prog X.w H s.heap a (.lst xs)from I.hok a _ ea);exact kia_one PySem.W.kitx_list I.kIn ⟨_,h1,rfl⟩ e (fun z=>nomatch z) h
 | @frz a ob xs ea=>
  cases(show u=Value.ref a from rx);obtain⟨_,_,_,n,_,h1⟩:=(show br X.prog X.w H s.heap a (.frz ob (.lst xs))from I.hok a _ ea);exact kia_one PySem.W.kitx_list I.kIn ⟨_,h1,rfl⟩ e (fun z=>nomatch z) h
 | @tup a xs ea=>
  cases(show u=Value.ref a from rx);obtain⟨_,_,_,p⟩:=(show br X.prog X.w H s.heap a (.tup xs)from I.hok a _ ea);obtain⟨o,h1,h2,_⟩:=p;exact kia_one PySem.W.kitx_tuple I.kIn ⟨o,h1,h2⟩ e (fun z=>nomatch z) h
 | @dK a kvs ea=>
  cases(show u=Value.ref a from rx);obtain⟨_,_,vs,_,p⟩:=(show br X.prog X.w H s.heap a (.dK kvs)from I.hok a _ ea);obtain⟨o,es,ep,h1,h2,_⟩:=p;exact kia_one PySem.W.kitx_dict I.kIn ⟨o,h1,h2.1⟩ e (fun z=>nomatch z) h
 | @dT a kvs ea=>
  cases(show u=Value.ref a from rx);obtain⟨_,_,xs,_,o,es,ep,h1,h2,_⟩:=(show br X.prog X.w H s.heap a (.dT kvs)from I.hok a _ ea);exact kia_one PySem.W.kitx_dict I.kIn ⟨o,h1,h2.1⟩ e (fun z=>nomatch z) h
 | @ins a C dx fs ea cl ha hn htk hm=>
  cases(show u=Value.ref a from rx);obtain⟨mA,O,_⟩:=jg I.hok ea;obtain⟨od,J,_⟩:=O.look;exact kia_one (PySem.W.kitx_own (cl.get _) cl.hd ha hn htk hm) I.kIn J e (fun z=>nomatch z) h
end
end L2
namespace L2
open PySem PySem.Spec PyProof.Rows
structure bV(k:Nat)(A:Around):Prop where
 hd:A.handled=none
 dp:A.depth+3 * k+5 < recursionLimit
 un:A.units+16 * k+200 < cLine
theorem bV.mono{j k:Nat}{A:Around}(r:bV k A)(h:j≤k):bV j A:=⟨r.hd,by have:=r.dp;omega,by have:=r.un;omega⟩
theorem bV.deeper{k:Nat}{A:Around}(r:bV (k+1) A)(env:Env):bV k (A.deeper env):=
 ⟨r.hd,by have:=r.dp;show A.depth+1+3 * k+5 < _;omega,by have:=r.un;show A.units+3+16 * k+200 < _;omega⟩
theorem qW{A:Around}{C:Addr}{us:List Value}{kw:List (Str×Value)}:(A.under (.builtin "type.__call__" ⟨.ref C::us,kw⟩)).depth=A.depth+1:=by
 first | rfl | simp [Around.under,Code.weight,Code.isCreation,Code.isGuard,Code.isCaller,Code.frames,Code.isFrame,guardIds]
theorem qX{A:Around}{C:Addr}{us:List Value}{kw:List (Str×Value)}:(A.under (.builtin "type.__call__" ⟨.ref C::us,kw⟩)).units=A.units+1:=by
 first | rfl | simp [Around.under,Code.cUnits,Code.frames,Code.isFrame]
theorem bV.make{k:Nat}{A:Around}(r:bV (k+1) A)(C:Addr)(us:List Value)(kw:List (Str×Value)):bV k (A.under (.builtin "type.__call__" ⟨.ref C::us,kw⟩)):=
 ⟨r.hd,by have:=r.dp;rw [qW];omega,by have:=r.un;rw [qX];omega⟩
theorem bV.depth{k:Nat}{A:Around}(r:bV k A):A.depth < recursionLimit:=by have:=r.dp;omega
theorem bV.units{k:Nat}{A:Around}(r:bV k A):A.units+64 < cLine:=by have:=r.un;omega
def xP:TA:=fun _ H Q=>Q [] H
def sV(ta:TE)(tr:TA):TA:=fun σ H Q=>ta σ H fun x H1=>tr σ H1 fun xs H2=>Q (x::xs) H2
section
variable {X:Cx} {e:Expr} {es:List Expr} {te:TE} {t:TA} {pos:Pos}
theorem af:PA X [] xP:=fun _ _ _ _ H Q I h=>Calls.spliced_nil ⟨[],H,I,.nil,h⟩
theorem aa(ha:PE X e te)(hr:PA X es t)(hs:starEach (e::es) X.env=(false,eval e X.env)::starEach es X.env:=by rfl):PA X (e::es) (sV te t):=by
 intro pos pins s σ H Q I h;rw [hs];show wpAny _ _ (spliced ((false,eval e X.env)::backTo pos (starEach es X.env))) _ _ s;refine Calls.spliced_cons (bz (ha pins s σ H _ I h) fun u s1 ⟨x,H1,I1,r1,q1⟩=>?_);exact bz (hr pos pins s1 σ H1 _ I1 q1) fun us s2 ⟨xs,H2,I2,r2,q2⟩=>⟨x::xs,H2,I2,.cons r1 r2,q2⟩
def Dk(t:TA):TE:=fun σ H Q=>t σ H fun xs H1=>xs.length≤sizeLine∧∀p,H1 p=none→Q (.ref p) (upd H1 p (.tup xs))
def Di(t:TA):TE:=fun σ H Q=>t σ H fun xs H1=>xs.length≤sizeLine∧∀p,H1 p=none→Q (.ref p) (upd H1 p (.lst xs))
theorem dU{x1}(h:PA X es t):PE X (.Tuple es x1 pos) (Dk t):=by
 intro pins s σ H Q I hq;refine wpAny_Tuple_spliced (bz (h pos pins s σ H _ I hq) fun us s1 ⟨xs,H1,I1,r,z,q⟩=>⟨by rw [←r.length];exact z,?_⟩);have hf:H1 s1.heap.objs.size=none:=I1.hok.fresh (aa8 _);refine⟨.ref s1.heap.objs.size,upd H1 s1.heap.objs.size (.tup xs),I1.laid (t':=s1.toks) (fun b u e=>aa3 _ e) (aa8 _) ?_,rfl,q _ hf⟩;exact⟨z,us,r,⟨_,aa6 _ rfl,rfl,_,rfl⟩⟩
theorem bA(h:PA X es t):PE X (.List es pos) (Di t):=by
 intro pins s σ H Q I hq;refine wpAny_List_spliced (bz (h pos pins s σ H _ I hq) fun us s1 ⟨xs,H1,I1,r,z,q⟩=>⟨by rw [←r.length];exact z,?_⟩);have hf:H1 s1.heap.objs.size=none:=I1.hok.fresh (aa8 _);refine⟨.ref s1.heap.objs.size,upd H1 s1.heap.objs.size (.lst xs),I1.laid (t':=s1.toks) (fun b u e=>aa3 _ e) (aa8 _) ?_,rfl,q _ hf⟩;exact⟨z,us,0,r,aa6 _ rfl⟩
end
abbrev Sp:=List V→Hp→VK→XK→Prop
abbrev qf:=List Env→Hp→Shared→XK→Value→Shared→Prop
structure qk(P:Program)(w:World)(K:Frag)(mg:Str→Option Value)(base:Heap)(A:Around)(outer:List Env)(s:Shared)(H:Hp):Prop where
 frames:A.frames=some outer
 mod:Mod K mg base
 bs:∀b o,base.get? b=some o→s.heap.get? b=some o∧H b=none
 bsz:base.objs.size≤s.heap.objs.size
 funs:s.heap.FunFrames base outer
 frf:∀b∈kF outer,H b=none
 hok:gj P w H s.heap
 bare:AllBare s.gens
def CE(outer:List Env)(P:Program)(w:World)(H:Hp)(s:Shared)(Q:VK)(u:Value)(s':Shared):Prop:=
 ∃v H',s'.os=s.os∧AllBare s'.gens∧Un (kF outer) [] H H' s.heap s'.heap∧gj P w H' s'.heap∧aF v u∧Q v H'
def CR(CX:qf)(outer:List Env)(P:Program)(w:World)(H:Hp)(s:Shared)(Q:VK)(E:XK)(r:Result)(s':Shared):Prop:=
 match r with
 | .ok (.ret u)=>CE outer P w H s Q u s'
 | .ok _=>False
 | .error e=>CX outer H s E e s'
structure aR(P:Program)(w:World)(K:Frag)(mg:Str→Option Value)(base:Heap)(CX:qf)(k:Nat)(f:Addr)(fd:FuncData)(ps:List Str)(sp:Sp):Prop where
 len:∀vs H Q E,sp vs H Q E→vs.length=ps.length
 run:∀(A:Around) (outer:List Env) (s:Shared) (H:Hp) (args:Args) (us:List Value) (vs:List V) (Q:VK) (E:XK),bV k A→qk P w K mg base A outer s H→BindsTo s fd args (ps.zip us)→aH vs us→sp vs H Q E→
  codeAny (model P w) A (.call (.ref f) args) (CR CX outer P w H s Q E) s
theorem aR.mono{P:Program}{w:World}{K:Frag}{mg:Str→Option Value}{base:Heap}{CX:qf}{j k:Nat}{f:Addr}{fd:FuncData}{ps:List Str}{sp:Sp}(F:aR P w K mg base CX j f fd ps sp)(h:j≤k):
  aR P w K mg base CX k f fd ps sp:=⟨F.len,fun A outer s H args us vs Q E hr=>F.run A outer s H args us vs Q E (hr.mono h)⟩
theorem qk.make{P:Program}{w:World}{K:Frag}{mg:Str→Option Value}{base:Heap}{A:Around}{outer:List Env}{s:Shared}{H:Hp}(e:qk P w K mg base A outer s H)(C:Addr)(us:List Value)(kw:List (Str×Value)):
  qk P w K mg base (A.under (.builtin "type.__call__" ⟨.ref C::us,kw⟩)) outer s H:=⟨by first | exact e.frames | (simpa [Around.under,Code.envs,Code.isFrame,pushEnvs]using e.frames),e.mod,e.bs,e.bsz,e.funs,e.frf,e.hok,e.bare⟩
section
variable {X:Cx} {pins:List (Addr×Obj)} {σ:St} {H:Hp} {s s':Shared}
theorem az.env0(I:az X pins σ H s):qk X.prog X.w X.K X.mg X.base X.A X.stack s H:=
 ⟨I.ok.frames,I.ok.mod,I.bs,ac0 I.ok.bsz I.sz,I.stack,I.stkFree,I.hok,I.bare⟩
theorem az.after{Q:VK}{u:Value}(I:az X pins σ H s)(h:CE X.stack X.prog X.w H s Q u s'):EP X pins σ Q u s':=by
 obtain⟨v,H',os,bare,un,hok,r,q⟩:=h;obtain⟨hh,g,d,t,os'⟩:=s';obtain rfl:os'=s.os:=os;exact⟨v,H',I.call (h':=hh) (g':=g) (d':=d) (t':=t) (ch:=[]) un hok bare (fun b z=>absurd z (by simp)),r,q⟩
end
def p5(sp:Sp)(dvs:List V)(E:XK)(t:TA):TE:=fun σ H Q=>t σ H fun vs H1=>sp (vs++dvs) H1 Q E
def xN(C:Addr)(sp:Sp)(dvs:List V)(E:XK)(t:TA):TE:=fun σ H Q=>t σ H fun vs H1=>∀x dx,H1 x=none→H1 dx=none→dx≠x→
 sp (.ref x::(vs++dvs)) (upd (upd H1 dx (.own x)) x (.ins C dx [])) (fun v H2=>v=.non∧Q (.ref x) H2) E
def cu(K:Frag)(fd:FuncData)(ps:List Str)(ds:List Value):Prop:=
 ∀(s:Shared) (us:List Value),K.In s.heap→(us++ds).length=ps.length→BindsTo s fd ⟨us,[]⟩ (ps.zip (us++ds))
theorem cu.all{K:Frag}{fd:FuncData}{ps:List Str}(h:∀us:List Value,us.length=ps.length→bindArgs fd ⟨us,[]⟩=pure (ps.zip us)):cu K fd ps []:=fun s us _ hl=>by
 rw [ae3]at hl ⊢;exact .of_eq (h us hl)
def jr(CX:qf)(X:Cx)(E:XK):Prop:=∀(pins:List (Addr×Obj)) (σ:St) (H:Hp) (s:Shared) (e:Value) (s':Shared),az X pins σ H s→CX X.stack H s E e s'→X.xe e s'
section
variable {X:Cx} {CX:qf} {k:Nat} {f C:Addr} {fd:FuncData} {ps:List Str} {sp:Sp} {dvs:List V} {ds:List Value} {E:XK} {x m:Str} {p pos apos:Pos} {e o:Expr} {es:List Expr} {ta:TE} {t:TA}
theorem nN{pins:List (Addr×Obj)}{σ:St}{H:Hp}{s:Shared}{Q:VK}{us:List Value}{vs:List V}(F:aR X.prog X.w X.K X.mg X.base CX k f fd ps sp)(hr:bV k X.A)(hb:cu X.K fd ps ds)(hd:aH dvs ds)(hx:jr CX X E)
  (I:az X pins σ H s) (r:aH vs us) (h:sp (vs++dvs) H Q E):wpAny (model X.prog X.w) X.A (call (.ref f) us) (EP X pins σ Q) X.xe s:=by
 have r2:aH (vs++dvs) (us++ds):=r.append hd
 have hl:(us++ds).length=ps.length:=by rw [←r2.length];exact F.len _ _ _ _ h
 refine wpAny_call (codeAny_mono (F.run X.A X.stack s H ⟨us,[]⟩ (us++ds) (vs++dvs) Q E hr I.env0 (hb s us I.kIn hl) r2 h) fun r s' hq=>?_)
 cases r with
 | error e=>exact hx pins σ H s e s' I hq
 | ok fl=>
  cases fl with
  | ret u=>exact I.after hq
  | next=>exact False.elim hq
  | brk=>exact False.elim hq
  | cont=>exact False.elim hq
theorem zd(F:aR X.prog X.w X.K X.mg X.base CX k f fd ps sp)(hr:bV k X.A)(hg:Gl X x)(hm:X.mg x=some (.ref f))(hk:keepIn X.K (.ref f)=true)(hb:cu X.K fd ps ds)(hd:aH dvs ds)(hx:jr CX X E)
  (ha:PA X (e::es) t) (hdb:(x == ("__debug__":Str))=false:=by decide) (he:starEach (e::es) X.env=(false,eval e X.env)::starEach es X.env:=by rfl) (hpl:(backTo pos (starEach es X.env)).any (·.1)=false:=by rfl) :
  PE X (.Call (.Name x p) (e::es) [] pos) (p5 sp dvs E t):=by
 intro pins s σ H Q I h;refine wpAny_Call_Name_kw (gd I hg hm ?_ hdb);refine callWith_K (h₀:=X.base) I.ok.mod.kin hk (bz (ha pos pins s σ H _ I h) fun us s1 ⟨vs,H1,I1,r,q⟩=>⟨I1.kIn,?_⟩) he hpl;exact nN F hr hb hd hx I1 r q
structure Mk(K:Frag)(C f:Addr):Prop where
 makes:PySem.W.makesIn K C=true
 init:findIn K (.ref C) "__init__"=some (some (.ref f))
 fn:isFn K (.ref f)=true
 kp:keepIn K (.ref C)=true
theorem xv{pins:List (Addr×Obj)}{σ:St}{H:Hp}{s:Shared}{Q:VK}{us:List Value}{vs:List V}(M:Mk X.K C f)(F:aR X.prog X.w X.K X.mg X.base CX k f fd ps sp)(hr:bV (k+1) X.A)(hb:cu X.K fd ps ds)(hd:aH dvs ds)
  (hx:jr CX X E) (I:az X pins σ H s) (r:aH vs us)
  (h:∀x dx,H x=none→H dx=none→dx≠x→sp (.ref x::(vs++dvs)) (upd (upd H dx (.own x)) x (.ins C dx [])) (fun v H2=>v=.non∧Q (.ref x) H2) E) :
  wpAny (model X.prog X.w) X.A (call (.ref C) us) (EP X pins σ Q) X.xe s:=by
 have hq:=h (s.heap.objs.size+1) s.heap.objs.size (I.hok.fresh (al3 _)) (I.hok.fresh (aa8 _)) (ab1 (aj2 _));have I2:=az.made (C:=C) I;have r2:aH (V.ref (s.heap.objs.size+1)::(vs++dvs)) (Value.ref (s.heap.objs.size+1)::(us++ds)):=.cons rfl (r.append hd)
 have hl:(Value.ref (s.heap.objs.size+1)::us++ds).length=ps.length:=by
  have e:=r2.length;rw [F.len _ _ _ _ hq]at e;exact e.symm
 refine wpAny_call (wB (f:=f) I.kIn M.makes M.init (beq_iff_eq.mp M.fn) (codeAny_mono (F.run _ X.stack _ _ ⟨Value.ref (s.heap.objs.size+1)::us,[]⟩ (Value.ref (s.heap.objs.size+1)::(us++ds)) _ _ E (hr.make C us [])
  (I2.env0.make C us []) (hb _ (Value.ref (s.heap.objs.size+1)::us) I2.kIn hl) r2 hq) fun r s' hq'=>?_))
 cases r with
 | error e=>exact hx pins σ _ _ e s' I2 hq'
 | ok fl=>
  cases fl with
  | ret u=>
   obtain⟨v,H',I3,rv,ev,q3⟩:=I2.after hq';subst ev;exact⟨rv,⟨V.ref (s.heap.objs.size+1),H',I3,rfl,q3⟩⟩
  | next=>exact False.elim hq'
  | brk=>exact False.elim hq'
  | cont=>exact False.elim hq'
theorem zj(M:Mk X.K C f)(F:aR X.prog X.w X.K X.mg X.base CX k f fd ps sp)(hr:bV (k+1) X.A)(hg:Gl X x)(hm:X.mg x=some (.ref C))(hb:cu X.K fd ps ds)(hd:aH dvs ds)(hx:jr CX X E)
  (ha:PA X (e::es) t) (hdb:(x == ("__debug__":Str))=false:=by decide) (he:starEach (e::es) X.env=(false,eval e X.env)::starEach es X.env:=by rfl) (hpl:(backTo pos (starEach es X.env)).any (·.1)=false:=by rfl) :
  PE X (.Call (.Name x p) (e::es) [] pos) (xN C sp dvs E t):=by
 intro pins s σ H Q I h;refine wpAny_Call_Name_kw (gd I hg hm ?_ hdb);refine callWith_K (h₀:=X.base) I.ok.mod.kin M.kp (bz (ha pos pins s σ H _ I h) fun us s1 ⟨vs,H1,I1,r,q⟩=>⟨I1.kIn,?_⟩) he hpl;exact xv M F hr hb hd hx I1 r q
end
def PK(X:Cx)(kws:List Keyword)(t:TA):Prop:=
 ∀(pos:Pos) (pins:List (Addr×Obj)) (s:Shared) (σ:St) (H:Hp) (Q:List V→Hp→Prop),az X pins σ H s→t σ H Q→wpAny (model X.prog X.w) X.A (evalAll ((backToKw pos (keywordEach kws X.env)).map (·.2))) (AP X pins σ Q) X.xe s
section
variable {X:Cx} {CX:qf} {k:Nat} {f C:Addr} {fd:FuncData} {ps ks:List Str} {sp:Sp} {E:XK} {x m:Str} {p pos apos kpos:Pos} {e o:Expr} {es:List Expr} {kws:List Keyword} {te ta:TE} {t tk:TA} {nm:Option Str}
theorem Bl:PK X [] xP:=fun _ _ _ _ H Q I h=>wpAny_evalAll_nil ⟨[],H,I,.nil,h⟩
theorem zr(ha:PE X e te)(hr:PK X kws t):PK X (⟨nm,e,kpos⟩::kws) (sV te t):=by
 intro pos pins s σ H Q I h
 show wpAny _ _ (evalAll ((do let v ←eval e X.env;standAt pos;pure v)::(backToKw pos (keywordEach kws X.env)).map (·.2))) _ _ s
 refine wpAny_evalAll_cons (wpAny_bind (bz (ha pins s σ H _ I h) fun u s1 ⟨x,H1,I1,r1,q1⟩=>wpAny_bind (wpAny_standAt (wpAny_pure ?_))));exact bz (hr pos pins s1 σ H1 _ I1 q1) fun us s2 ⟨xs,H2,I2,r2,q2⟩=>⟨x::xs,H2,I2,.cons r1 r2,q2⟩
variable {g:List Value→List Value→List Value} {gV:List V→List V→List V}
end
structure aB(N P:List Str)(sc:Scope):Prop where
 kind:sc.kind=.function
 co:sc.isCoroutine=false
 gen:sc.isGenerator=false
 nd:N.Nodup
 pre:N.take P.length=P
 par:∀x∈P,sc.names.lookup x=some .local∨sc.names.lookup x=some .cell
 nofree:∀y∈sc.names,y.2≠.free
theorem lA{kindOf:Str→Option NameKind}{x:Str}:∀{binds:List (Str×Value)} {m:Str→Option Value},(∀v,(x,v)∉binds)→bindL kindOf binds m x=m x
 | [],_,_=>rfl
 | (n,v)::r,m,h=>by
  unfold bindL;rw [lA fun w hw=>h w (ad6 _ hw)]
  split
  ·have:x≠n:=by rintro rfl;exact h v ad4
   simp [this]
  ·rfl
theorem lj{kindOf:Str→Option NameKind}{x:Str}:∀{binds:List (Str×Value)} {m:Str→Option Value},(∀v,(x,v)∉binds)→bindC kindOf binds m x=m x
 | [],_,_=>rfl
 | (n,v)::r,m,h=>by
  unfold bindC;rw [lj fun w hw=>h w (ad6 _ hw)]
  split
  ·rfl
  ·have:x≠n:=by rintro rfl;exact h v ad4
   simp [this]
theorem lu{kindOf:Str→Option NameKind}{x:Str}{v:Value}:∀{P:List Str} {vs:List Value} {i:Nat} {m:Str→Option Value},P.Nodup→P[i]?=some x→vs[i]?=some v→kindOf x=some .local→
  bindL kindOf (P.zip vs) m x=some v
 | [],_,_,_,_,h,_,_=>by simp at h
 | _::_,[],_,_,_,_,h,_=>by simp at h
 | p::P,w::vs,0,m,nd,h1,h2,hk=>by
  simp at h1 h2;subst h1;subst h2;show bindL kindOf ((p,w)::P.zip vs) m p=_;unfold bindL;rw [lA fun v hv=>(ag0.mp nd).1 (am9 hv).1,if_pos hk];simp
 | p::P,w::vs,i+1,m,nd,h1,h2,hk=>by
  show bindL kindOf ((p,w)::P.zip vs) m x=_;unfold bindL;exact lu (i:=i) (ag0.mp nd).2 (by simpa using h1) (by simpa using h2) hk
theorem lh{kindOf:Str→Option NameKind}{x:Str}{v:Value}:∀{P:List Str} {vs:List Value} {i:Nat} {m:Str→Option Value},P.Nodup→P[i]?=some x→vs[i]?=some v→kindOf x≠some .local→
  bindC kindOf (P.zip vs) m x=some v
 | [],_,_,_,_,h,_,_=>by simp at h
 | _::_,[],_,_,_,_,h,_=>by simp at h
 | p::P,w::vs,0,m,nd,h1,h2,hk=>by
  simp at h1 h2;subst h1;subst h2;show bindC kindOf ((p,w)::P.zip vs) m p=_;unfold bindC;rw [lj fun v hv=>(ag0.mp nd).1 (am9 hv).1,if_neg hk];simp
 | p::P,w::vs,i+1,m,nd,h1,h2,hk=>by
  show bindC kindOf ((p,w)::P.zip vs) m x=_;unfold bindC;exact lh (i:=i) (ag0.mp nd).2 (by simpa using h1) (by simpa using h2) hk
def start(N:List Str)(vs:List V):St:=vs.map some++List.replicate (N.length - vs.length) none
def jA(CX:qf)(P:Program)(w:World)(K:Frag)(mg:Str→Option Value)(base:Heap)(N:List Str)(qual:Str)(scope:Scope)(f:Addr)(cd:Value)(A:Around)(outer:List Env)(s:Shared)(H:Hp)(E:XK):Cx where
 prog:=P
 w:=w
 K:=K
 mg:=mg
 base:=base
 A:=A.deeper (envOfC qual scope s.heap.objs.size f cd)
 N:=N
 s₀:=s
 H₀:=H
 env:=envOfC qual scope s.heap.objs.size f cd
 outer:=outer
 stack:=envOfC qual scope s.heap.objs.size f cd::outer
 ex:=[]
 calm:=true
 fn:=fun _=>true
 pn:=[]
 xe:=fun e s'=>wpAny (model P w) (A.deeper (envOfC qual scope s.heap.objs.size f cd)) (leaving (envOfC qual scope s.heap.objs.size f cd) e) (fun _ s''=>CX outer H s E e s'') (fun e' s''=>CX outer H s E e' s'') s'
theorem ow{sc:Scope}{n:Nat}{x:Str}(h:sc.names.lookup x=some .cell):∃c,(cellsFrom n sc.names []).lookup x=some c:=by
 have q:=PySem.W.cellsFrom_some sc.names n [] (.inl h);exact Option.isSome_iff_exists.mp q
theorem uj{CX:qf}{P:Program}{w:World}{K:Frag}{mg:Str→Option Value}{base:Heap}{N ps:List Str}{qual:Str}{scope:Scope}{f:Addr}{cd:Value}{A:Around}{outer:List Env}{s s1:Shared}{H:Hp}{E:XK}{us:List Value}{vs:List V}
  (S:aB N ps scope) (hd:A.handled=none) (e0:qk P w K mg base A outer s H) (hl:vs.length=ps.length) (r:aH vs us)
  (x:InCallC s s.heap.objs.size (bindL (envOfC qual scope s.heap.objs.size f cd).kindOf (ps.zip us) fun _=>none) (cellsFrom (s.heap.objs.size+1) scope.names []) (bindC (envOfC qual scope s.heap.objs.size f cd).kindOf (ps.zip us) fun _=>none) s1) :
  az (jA CX P w K mg base N qual scope f cd A outer s H E) [] (start N vs) H s1:=by
 have hpl:ps.length≤N.length:=by have:=congrArg List.length S.pre;rw [ac6]at this;omega
 obtain⟨h1,tk,rfl,hk⟩:=x.done;have noA:∀b:Addr,b∉(jA CX P w K mg base N qual scope f cd A outer s H E).ex:=fun b z=>absurd (show b∈([]:List Addr)from z) (by simp)
 refine⟨⟨e0.mod,S.kind,rfl,rfl,aa8 _,fun y z c h1 h2=>?_,fun y hy=>?_,fun y c _ h=>?_,fun _=>hd,Around.frames_deeper e0.frames,.inr ⟨rfl,rfl⟩,fun b z=>absurd z (noA b),e0.bs,e0.bsz,fun b _ _=>noA b,fun b z=>absurd z (noA b),e0.funs,e0.frf⟩,
  rfl,e0.bare,Un.kept hk,⟨_,x.toInCall.ns,fun i y v h1 h2 h3=>?_⟩,fun y c h=>⟨_,x.cell y c h⟩,e0.hok.fresh (aa8 _),fun y c h=>?_,fun p hp=>absurd (show p∈([]:List (Addr×Obj))from hp) (by simp),e0.hok.kept hk,?_⟩
 ·exact name_of_addr x.apart (PySem.mem_of_lookup h1) (PySem.mem_of_lookup h2)
 ·have hy:scope.names.lookup y=some .cell∨scope.names.lookup y=some .free:=hy
  rcases hy with hy | hy
  ·exact ow hy
  ·exact absurd rfl (S.nofree _ (PySem.mem_of_lookup hy))
 ·exact ah7 (x.above y c (PySem.mem_of_lookup h))
 ·have hi:i < vs.length:=by
   unfold start at h2
   by_cases hi:i < vs.length
   ·exact hi
   ·rw [ab8 (by simpa using hi)]at h2
    rw [List.getElem?_replicate]at h2
    split at h2<;>cases h2
  have ha:vs[i]?=some v:=by
   unfold start at h2;rw [ab5 (by simpa using hi),aa4]at h2
   cases e:vs[i]? with
   | none=>rw [e]at h2;cases h2
   | some a=>rw [e]at h2;cases h2;rfl
  obtain⟨u,hu,rv⟩:=r.get ha
  have hp:ps[i]?=some y:=by
   rw [←S.pre,List.getElem?_take_of_lt (by omega)];exact h1
  have ndP:ps.Nodup:=by rw [←S.pre];exact S.nd.sublist (List.take_sublist _ _)
  refine⟨u,rv,?_⟩;rcases S.par y (aa9 hp)with k | k
  ·exact .inl ⟨k,lu ndP hp hu k⟩
  ·obtain⟨c,e⟩:=ow (n:=s.heap.objs.size+1) k
   refine .inr ⟨.inl k,c,e,?_⟩;have q:=x.cell y c e;rw [lh ndP hp hu (by show scope.names.lookup y≠_;rw [k];decide)]at q;exact q
 ·exact e0.hok.fresh (ah7 (x.above y c (PySem.mem_of_lookup h)))
 ·unfold start
  show _=N.length;rw [ab3,aa0,af8];omega
theorem Ab{CX:qf}{P:Program}{w:World}{K:Frag}{mg:Str→Option Value}{base:Heap}{k:Nat}{f:Addr}{name qual:Str}{params:Arguments}{body:List Stmt}{scope:Scope}{dV kV doc pm cdv ct oc:Value}{an od:Option Addr}
  {osl:Array (Option Value)} {N ps:List Str} {sp:Sp} (lk:K.lookup f=some ⟨oc,od,.func (fnOf name qual params body scope dV kV doc pm an cdv ct),osl⟩) (hcd:codeIn K cdv qual=true) (S:aB N ps scope)
  (len:∀vs H Q E,sp vs H Q E→vs.length=ps.length)
  (hbody:∀(A:Around) (outer:List Env) (s:Shared) (H:Hp) (vs:List V) (Q:VK) (E:XK),bV k (A.deeper (envOfC qual scope s.heap.objs.size f cdv))→sp vs H Q E→
   ∃t,rY (jA CX P w K mg base N qual scope f cdv A outer s H E) body t∧t { nx:=fun _ H'=>Q .non H',rt:=Q } (start N vs) H) :
  aR P w K mg base CX (k+1) f (fnOf name qual params body scope dV kV doc pm an cdv ct) ps sp:=by
 refine⟨len,fun A outer s H args us vs Q E hr e0 hb r hsp=>?_⟩;have hl:=len _ _ _ _ hsp;have KX:K.In s.heap:=e0.mod.kin.keeps fun b o e=>(e0.bs b o e).1;have lim:s.heap.NoLimit:=e0.mod.nolimit.keeps fun b o e=>(e0.bs b o e).1
 have hkind:∀y∈ps.zip us,scope.names.lookup y.1=some .local∨(scope.names.lookup y.1=some .cell∧((cellsFrom (s.heap.objs.size+1) scope.names []).lookup y.1).isSome=true):=fun⟨n,v⟩ hy=>by
  rcases S.par n (am9 hy).1 with q | q
  ·exact .inl q
  ·exact .inr ⟨q,PySem.W.cellsFrom_some _ _ _ (.inl q)⟩
 refine codeAny_call_function hr.depth (KX _ _ lk) rfl S.co S.gen rfl (PySem.W.codeRec_of KX hcd) (hb _ _ _ _ ?_);refine wpAny_newFunctionEnv_cells S.kind hkind fun env he s1 x=>?_;subst he;refine⟨lim.keeps x.toInCall.keep,codeAny_func ?_⟩;obtain⟨t,ht,hq⟩:=hbody A outer s H vs Q E (hr.deeper _) hsp;have I:az (jA CX P w K mg base N qual scope f cdv A outer s H E) [] (start N vs) H s1:=uj S hr.hd e0 hl r x;refine wpAny_mono (ht [] s1 (start N vs) H _ I hq) (fun fl s' hs=>?_) fun e s' hs=>hs
 have fin:∀{σ':St} {H':Hp} {v:V} {u:Value},az (jA CX P w K mg base N qual scope f cdv A outer s H E) [] σ' H' s'→aF v u→Q v H'→CE outer P w H s Q u s':=
  fun {σ' H' v u} J rv q=>⟨v,H',J.os,J.bare,J.base,J.hok,rv,q⟩
 cases fl with
 | ret u=>
  obtain⟨v,σ',H',J,rv,q⟩:=hs;exact fin J rv q
 | next=>
  obtain⟨σ',H',J,q⟩:=hs;exact fin (v:=V.non) (u:=Value.none) J rfl q
 | brk=>
  obtain⟨_,_,_,q⟩:=hs;exact False.elim q
 | cont=>
  obtain⟨_,_,_,q⟩:=hs;exact False.elim q
end L2
namespace L2
open PySem PySem.Spec PyProof.Rows
section
variable {X:Cx} {x:Str} {p pos:Pos} {e:Expr} {es:List Expr} {t:TA} {id T:String} {r:List V→Hp→VK→Prop}
def Dx(r:List V→Hp→VK→Prop)(t:TA):TE:=fun σ H Q=>t σ H fun vs H1=>r vs H1 Q
theorem ax(hc:bq X (.builtin id) r)(hg:Gl X x)(hm:X.mg x=none)(hv:bootBuiltins x=some (.builtin id))(ha:PA X (e::es) t)(hn:x≠"__name__":=by decide)(hdb:(x == ("__debug__":Str))=false:=by decide)
  (he:starEach (e::es) X.env=(false,eval e X.env)::starEach es X.env:=by rfl) (hpl:(backTo pos (starEach es X.env)).any (·.1)=false:=by rfl):PE X (.Call (.Name x p) (e::es) [] pos) (Dx r t):=by
 intro pins s σ H Q I h;refine wpAny_Call_Name_kw (cb I hg hm hv ?_ hn hdb);exact PyProof.Rows.callWith_builtin1 (bz (ha pos pins s σ H _ I h) fun us s1 ⟨vs,H1,I1,r1,q1⟩=>hc pins s1 σ H1 vs us Q I1 r1 q1) he hpl
theorem bc(hc:bq X (.type T) r)(hg:Gl X x)(hm:X.mg x=none)(hv:bootBuiltins x=some (.type T))(ha:PA X (e::es) t)(hn:x≠"__name__":=by decide)(hdb:(x == ("__debug__":Str))=false:=by decide)
  (he:starEach (e::es) X.env=(false,eval e X.env)::starEach es X.env:=by rfl) (hpl:(backTo pos (starEach es X.env)).any (·.1)=false:=by rfl):PE X (.Call (.Name x p) (e::es) [] pos) (Dx r t):=by
 intro pins s σ H Q I h;refine wpAny_Call_Name_kw (cb I hg hm hv ?_ hn hdb);exact PyProof.Rows.callWith_type1 (bz (ha pos pins s σ H _ I h) fun us s1 ⟨vs,H1,I1,r1,q1⟩=>hc pins s1 σ H1 vs us Q I1 r1 q1) he hpl
end
end L2
namespace HT
open PySem PyProof.Rows
def lexLt:List Int→List Int→Bool
 | [],[]=>false
 | [],_::_=>true
 | _::_,[]=>false
 | x::xs,y::ys=>if x=y then lexLt xs ys else decide (x < y)
theorem lexLt_cons(x y:Int)(xs ys:List Int):lexLt (x::xs) (y::ys)=if x=y then lexLt xs ys else decide (x < y):=rfl
theorem kO:lexLt [] []=false:=rfl
theorem jR(y:Int)(ys:List Int):lexLt [] (y::ys)=true:=rfl
theorem jQ(x:Int)(xs:List Int):lexLt (x::xs) []=false:=rfl
theorem vR(A:Around)(s:Shared)(a:Int)(t:Tok)(c:Int)(u:Tok):∃e,SeqAt.EqAt A s (.int a t) (.int c u) e∧(e=true↔a=c):=
 ⟨(a == c),SeqAt.EqAt.int_int a t c u,by simp⟩
theorem xp(A:Around)(s:Shared)(a:Int)(t:Tok)(c:Int)(u:Tok)(prog:Program)(w:World)(E:Value→Shared→Prop)(Q:Value→Shared→Prop)(h:Q (.bool (decide (a < c))) s):
  wpAny (model prog w) A (richCompare .Lt (.int a t) (.int c u)) Q E s:=
 (PyProof.Rows.lt_int h:wpAny (model prog w) A (compareOp .Lt (.int a t) (.int c u)) Q E s)
section
open PySem.SeqAt
open PySem.AutoSeq1 (wpAny_loadPart')
open PySem.MeetsSeq PySem.MeetsSeq2 PySem.MeetsSeq3
theorem kY(l b:Addr)(items items2:Array Value)(n n2:Nat)(dd dd2:Option Addr)(sl sl2:Array (Option Value))(ns ms:List Int)(hi:IntsAre items.toList ns)(hj:IntsAre items2.toList ms):
  Meets (Builtin.«tuple.__lt__» ⟨[.ref l,.ref b],[]⟩)
   (fun _ R s=>s.heap.get? l=some { cls:=.type "tuple",dict:=dd,data:=.seq items n,slots:=sl }∧s.heap.get? b=some { cls:=.type "tuple",dict:=dd2,data:=.seq items2 n2,slots:=sl2 }∧
    R (.ok (.ret (.bool (lexLt ns ms)))) s):=
 .of_wp fun prog w A R s h=>by
  obtain⟨hp,g,d,tk,os⟩:=s;obtain⟨hl,hb,h⟩:=h;have f2:=AutoSeq1.sub_tuple_tuple
  have z1:items.size=ns.length:=by rw [←hi.length];simp
  have z2:items2.size=ms.length:=by rw [←hj.length];simp
  wp_walk using wpAny_loadPart' hl,wpAny_loadPart' hb,wpAny_forIn_list _ (fun rest b s'=>b.1=none∧s'=⟨hp,g,d,tk,os⟩∧∃(vs ws:List Value) (ns' ms':List Int),rest=vs.zip ws∧
   IntsAre vs ns'∧IntsAre ws ms'∧ns'.length+items2.size=ms'.length+items.size∧R (.ok (.ret (.bool (lexLt ns' ms')))) ⟨hp,g,d,tk,os⟩) _
  case turn=>
   rintro⟨y,x⟩ rest b s' ⟨hb',rfl,vs,ws,ns',ms',hz,hvi,hwi,hlen,hR⟩
   cases hvi with
   | nil=>rw [List.zip_nil_left]at hz;cases hz
   | cons a t hvi'=>
    cases hwi with
    | nil=>rw [List.zip_nil_right]at hz;cases hz
    | cons c u hwi'=>
     rw [ak7]at hz
     injection hz with hyx hrest
     injection hyx with hy hx
     subst hy hx;rw [lexLt_cons]at hR;simp only [ac5]at hlen;obtain⟨e,he,hiff⟩:=vR A.in1 ⟨hp,g,d,tk,os⟩ a t c u;refine wpAny_bind (he prog w _ _ ?_)
     cases e with
     | true=>
      rw [if_pos (hiff.mp rfl)]at hR
      wp_walk
      exact⟨rfl,rfl,_,_,_,_,hrest,hvi',hwi',by omega,hR⟩
     | false=>
      rw [if_neg (fun q=>absurd (hiff.mpr q) ab0)]at hR;have hri:=xp A.in1 ⟨hp,g,d,tk,os⟩ a t c u prog w
      wp_walk using hri
      exact⟨_,rfl,by simpa using hR⟩
  case fin=>
   rintro⟨b1,b2⟩ s' ⟨hb',rfl,vs,ws,ns',ms',hz,hvi,hwi,hlen,hR⟩;simp only at hb';subst hb'
   have hv:lexLt ns' ms'=decide (items.size < items2.size):=by
    cases hvi with
    | nil=>
     cases hwi with
     | nil=>
      simp only [ah1]at hlen;rw [kO];exact(decide_eq_false (by omega)).symm
     | cons c u hw=>
      simp only [ah1,ac5]at hlen;rw [jR];exact(decide_eq_true (by omega)).symm
    | cons a t hv=>
     cases hwi with
     | nil=>
      simp only [ah1,ac5]at hlen;rw [jQ];exact(decide_eq_false (by omega)).symm
     | cons c u hw=>
      rw [ak7]at hz;cases hz
   rw [hv]at hR
   wp_walk
   exact⟨_,rfl,by simpa [Builtin.Tuple.tupleCompareSizes]using hR⟩
  case h=>
   exact⟨rfl,rfl,items.toList,items2.toList,ns,ms,rfl,hi,hj,by omega,h⟩
end
section
variable {prog:Program} {w:World} {A:Around} {E:Value→Shared→Prop} {s:Shared}
theorem lt_tupInts{l b:Addr}{items items2:Array Value}{ns ms:List Int}{Q:Value→Shared→Prop}(hl:IsTup s.heap l items)(hb:IsTup s.heap b items2)(hi:IntsAre items.toList ns)(hj:IntsAre items2.toList ms)
  (hu:A.units < cLine) (h:Q (.bool (lexLt ns ms)) s):wpAny (model prog w) A (compareOp .Lt (.ref l) (.ref b)) Q E s:=by
 obtain⟨⟨cls,dd,data,sl⟩,ho,hc,n,hd⟩:=id hl;obtain⟨⟨cls2,dd2,data2,sl2⟩,ho2,hc2,n2,hd2⟩:=id hb;simp only at hc hd hc2 hd2;subst hc hd hc2 hd2
 exact richCompare_meets_room (op:=.Lt) ⟨_,ho,rfl⟩ ⟨_,ho2,rfl⟩ PySem.F.slot_tuple_lt PySem.F.entry_tuple_lt (PySem.F.args_tuple_lt_2 _ _) (kY l b items items2 n n2 dd dd2 sl sl2 ns ms hi hj)
  ⟨ho,ho2,show Value.bool (lexLt ns ms)≠Value.notImplemented∧Q (.bool (lexLt ns ms)) s from⟨(fun x=>nomatch x),h⟩⟩ hu
theorem cat_tup{t b:Addr}{vs ws:List Value}{Q:Value→Shared→Prop}(ht:IsTup s.heap t vs.toArray)(hb:IsTup s.heap b ws.toArray)(hv:vs≠[])
  (h1:ws=[]→Q (.ref t) s) (h2:ws≠[]→Q (.ref s.heap.objs.size) { s with heap:=s.heap.push { cls:=.type "tuple",data:=.seq (vs++ws).toArray } })
  (hsz:vs.length+ws.length≤sizeLine):wpAny (model prog w) A (binaryOp .Add (.ref t) (.ref b)) Q E s:=by
 obtain⟨⟨cls,dd,data,sl⟩,ho,hc,n,hd⟩:=id ht;obtain⟨⟨cls2,dd2,data2,sl2⟩,ho2,hc2,n2,hd2⟩:=id hb;simp only at hc hd hc2 hd2;subst hc hd hc2 hd2
 have e:vs.toArray++ws.toArray=(vs++ws).toArray:=by simp
 by_cases hw:ws=[]
 ·exact concat_meets ⟨_,ho,rfl⟩ ⟨_,ho2,rfl⟩ noFill_tuple_add seq_tuple_add PySem.F.slot_tuple_add PySem.F.entry_tuple_add (PySem.F.args_tuple_add_2 _ _)
   (tuple_addW1 t b vs.toArray ws.toArray n n2 dd dd2 sl sl2 (by simpa using hv) (by simp [hw])) ⟨ho,ho2,h1 hw⟩
 ·refine concat_meets ⟨_,ho,rfl⟩ ⟨_,ho2,rfl⟩ noFill_tuple_add seq_tuple_add PySem.F.slot_tuple_add PySem.F.entry_tuple_add (PySem.F.args_tuple_add_2 _ _)
   (tuple_addW2 t b vs.toArray ws.toArray n n2 dd dd2 sl sl2 (by simpa using hv) (by simpa using hw) (by rw [aa7,aa7];exact hsz)) ⟨ho,ho2,?_⟩
  rw [e];exact h2 hw
def sIx(n d:Nat):Option Int→Nat
 | none=>d
 | some v=>if v < 0 then(v+(n:Int)).toNat else min v.toNat n
theorem sIx_none(n d:Nat):sIx n d none=d:=rfl
theorem sIx_nat(n d k:Nat):sIx n d (some (k:Int))=min k n:=by
 show(if (k:Int) < 0 then((k:Int)+(n:Int)).toNat else min (k:Int).toNat n)=min k n;rw [if_neg (by omega),ad8]
theorem Bz(n d:Nat)(hd:d≤n)(o:Option Int):sIx n d o≤n:=by
 cases o with
 | none=>exact hd
 | some v=>
  show(if v < 0 then(v+(n:Int)).toNat else min v.toNat n)≤n
  by_cases hv:v < 0
  ·rw [if_pos hv];omega
  ·rw [if_neg hv];exact am1 _ _
theorem r9(v:Int)(n d:Nat):(if v < 0 then max (v+(n:Int)) 0 else min v (n:Int))=((sIx n d (some v):Nat):Int):=by
 show(if v < 0 then max (v+(n:Int)) 0 else min v (n:Int))=(((if v < 0 then(v+(n:Int)).toNat else min v.toNat n):Nat):Int)
 by_cases hv:v < 0
 ·simp only [if_pos hv];omega
 ·simp only [if_neg hv];omega
theorem qv(lo hi:Option Int)(n:Nat):Builtin.Slice.sliceAdjust lo hi 1 (n:Int)=(((sIx n 0 lo:Nat):Int),((sIx n n hi:Nat):Int)):=by
 have h1:¬((1:Int) < 0):=by omega
 unfold Builtin.Slice.sliceAdjust;simp only [h1,if_false];refine Prod.ext ?_ ?_
 ·cases lo with
  | none=>rfl
  | some v=>exact r9 v n 0
 ·cases hi with
  | none=>rfl
  | some v=>exact r9 v n n
theorem rm(i j:Nat):Builtin.Slice.slicePlaces (i:Int) (j:Int) 1=j - i:=by
 unfold Builtin.Slice.slicePlaces
 have h1:(1:Int) > 0:=by omega
 simp only [h1,if_true,Int.ediv_one]
 split<;>omega
theorem kn{v:Value}{o:Option Int}{Q:Option Int→Shared→Prop}(p:IsPart v o)(h:Q o s):wpAny (model prog w) A (Builtin.Slice.slicePartIndex v) Q E s:=by
 cases p with
 | none=>exact slicePart_none h
 | int i t=>exact slicePart_int h
theorem iT{sl:Addr}{vl vu:Value}{lo hi:Option Int}{n:Nat}{Q:Int×Int×Nat→Shared→Prop}(hs:s.heap.IsSliceOf sl vl vu .none)(pl:IsPart vl lo)(pu:IsPart vu hi)
  (h:Q (((sIx n 0 lo:Nat):Int),1,sIx n n hi - sIx n 0 lo) s):wpAny (model prog w) A (Builtin.Slice.sliceApplied (.ref sl) (pure (n:Int))) Q E s:=by
 obtain⟨os,hos,hcs,hds⟩:=id hs;unfold Builtin.Slice.sliceApplied Builtin.Slice.sliceFields;refine wpAny_bind (wpAny_bind (wpAny_field hos hds (x:=vl) rfl (wpAny_bind (wpAny_field hos hds (x:=vu) rfl (wpAny_bind (wpAny_field hos hds (x:=.none) rfl (wpAny_pure ?_)))))));refine wpAny_bind (slicePart_none ?_);show wpAny _ _ (if ((1:Int) == 0)=true then _ else _) _ _ s;rw [if_neg (by decide)];refine wpAny_bind (kn pl (wpAny_bind (kn pu (wpAny_bind (wpAny_pure ?_)))))
 show wpAny _ _ (match Builtin.Slice.sliceAdjust lo hi 1 (n:Int)with | (lo,hi)=>pure (lo,(1:Int),Builtin.Slice.slicePlaces lo hi 1)) _ _ s
 rw [qv lo hi n];show wpAny _ _ (pure (((sIx n 0 lo:Nat):Int),(1:Int),Builtin.Slice.slicePlaces ((sIx n 0 lo:Nat):Int) ((sIx n n hi:Nat):Int) 1)) _ _ s;rw [rm];exact wpAny_pure h
theorem w8(xs:Array Value)(i k:Nat):((List.range k).filterMap fun(m:Nat)=>xs[((i:Int)+(m:Int) * 1).toNat]?).toArray=((xs.toList.drop i).take k).toArray:=by
 have e:(fun(m:Nat)=>xs[((i:Int)+(m:Int) * 1).toNat]?)=fun m=>xs[i+m]?:=by
  funext m
  have:((i:Int)+(m:Int) * 1).toNat=i+m:=by omega
  rw [this]
 rw [e]
 have:=pick_run xs i k
 rw [List.filterMap_map]at this;have e2:((fun x=>xs[x]?)∘fun x=>i+x)=fun m=>xs[i+m]?:=rfl;rw [e2]at this;rw [this]
theorem getItem_tuple_cut{t sl:Addr}{items:Array Value}{vl vu:Value}{lo hi:Option Int}{Q:Value→Shared→Prop}(ht:IsTup s.heap t items)(hs:s.heap.IsSliceOf sl vl vu .none)(pl:IsPart vl lo)(pu:IsPart vu hi)
  (hw:¬(sIx items.size 0 lo=0∧sIx items.size items.size hi=items.size))
  (h:Q (.ref s.heap.objs.size) { s with heap:=s.heap.push { cls:=.type "tuple",data:=.seq ((items.toList.drop (sIx items.size 0 lo)).take (sIx items.size items.size hi - sIx items.size 0 lo)).toArray } })
  (hsz:items.size≤sizeLine):wpAny (model prog w) A (getItem (.ref t) (.ref sl)) Q E s:=by
 have htake:sizeOk (.seq ((items.toList.drop (sIx items.size 0 lo)).take (sIx items.size items.size hi - sIx items.size 0 lo)).toArray):=by
  show((items.toList.drop (sIx items.size 0 lo)).take (sIx items.size items.size hi - sIx items.size 0 lo)).toArray.size≤sizeLine;rw [aa7,ac6,ah8,af6];omega
 have hj:sIx items.size items.size hi≤items.size:=Bz _ _ (aa8 _) hi;obtain⟨os,hos,hcs,hds⟩:=id hs;have hTs:s.TypeIs (.ref sl) "slice":=⟨os,hos,hcs⟩;unfold getItem
 try with_reducible refine wpAny_holding ?_
 first | refine wpAny_bind (wpAny_pure ?_) | skip
 refine wpAny_bind (wpAny_sequenceKey ht.typeIs (by decide) ?_)
 refine wpAny_bind (wpAny_callSpecial?_slot (name:=Str.ofString "__getitem__") ht.typeIs PyProof.Rows.slot_tuple_getitem
  (wpAny_call_entry PyProof.Rows.slot_tuple_getitem ht.typeIs entry_tuple_getitem ?_ (args_tuple_getitem _ _)))
 show wpAny _ _ (Builtin.Tuple.tupleItemsOf (.ref t) >>= _) _ _ s;refine wpAny_bind (tupleItemsOf_ ht ?_);refine wpAny_bind (wpAny_typeOf hTs ?_);rw [if_pos (by decide)];refine wpAny_bind (iT hs pl pu ?_)
 have hno:¬((((sIx items.size 0 lo:Nat):Int) == 0 && (1:Int) == 1 && (sIx items.size items.size hi - sIx items.size 0 lo) == items.size)=true):=by
  intro q;rw [ag3,ag3]at q;have q1:((sIx items.size 0 lo:Nat):Int)=0:=eq_of_beq q.1.1;have q2:sIx items.size items.size hi - sIx items.size 0 lo=items.size:=eq_of_beq q.2;exact hw ⟨by omega,by omega⟩
 show wpAny _ _ (if (((sIx items.size 0 lo:Nat):Int) == 0 && (1:Int) == 1 && (sIx items.size items.size hi - sIx items.size 0 lo) == items.size)=true then _ else _) _ _ s;rw [if_neg hno,w8]
 first
  | exact wpAny_bind (m:=Builtin.Tuple.tupleExact _) (wpAny_newObj_type (wpAny_pure ⟨_,rfl,wpAny_pure h⟩) htake)
  | exact wpAny_bind (m:=Builtin.Tuple.tupleExact _) (wpAny_newObj_type (wpAny_bind (wpAny_pure (wpAny_pure ⟨_,rfl,wpAny_pure h⟩))) htake)
  | exact wpAny_bind (wpAny_bind (m:=Builtin.Tuple.tupleExact _) (wpAny_newObj_type (wpAny_pure (wpAny_pure ⟨_,rfl,wpAny_pure h⟩)) htake))
  | exact wpAny_bind (wpAny_bind (m:=Builtin.Tuple.tupleExact _) (wpAny_newObj_type (wpAny_pure ⟨_,rfl,wpAny_pure h⟩) htake))
end
end HT
namespace L2
open PySem PySem.Spec PyProof.Rows
abbrev TO:=St→Hp→(Option Int→Hp→Prop)→Prop
def PO(X:Cx)(e:Option Expr)(t:TO):Prop:=
 ∀(pins:List (Addr×Obj)) (s:Shared) (σ:St) (H:Hp) (Q:Option Int→Hp→Prop),az X pins σ H s→t σ H Q→
  wpAny (model X.prog X.w) X.A (evalPart e X.env) (fun u s'=>∃o H',az X pins σ H' s'∧IsPart u o∧Q o H') X.xe s
def n6:TO:=fun _ H Q=>Q none H
def sZ(t:TE):TO:=fun σ H Q=>t σ H fun x H1=>∃i,x=.int i∧Q (some i) H1
theorem jL{ns:List Int}:∀{us:List Value},aH (ns.map V.int) us→IntsAre us ns:=by
 induction ns with
 | nil=>intro us r;rw [ah9]at r;cases r;exact .nil
 | cons n ns ih=>
  intro us r;rw [ad1]at r
  cases r with
  | cons r1 r2=>
   obtain⟨t,e⟩:=r1;subst e;exact .cons n t (ih r2)
section
variable {X:Cx} {e:Expr} {te:TE} {lo hi:Option Expr} {tl th:TO} {pos p2:Pos}
theorem sI:PO X none n6:=by
 intro pins s σ H Q I h;rw [evalPart_none];exact wpAny_pure ⟨none,H,I,.none,h⟩
theorem zt(h:PE X e te):PO X (some e) (sZ te):=by
 intro pins s σ H Q I hw;rw [evalPart_some];refine bz (h pins s σ H _ I hw) fun u s1 ⟨x,H1,I1,r1,q1⟩=>?_;obtain⟨i,rfl,q⟩:=q1;obtain⟨t,rfl⟩:=r1;exact⟨some i,H1,I1,.int i t,q⟩
def x4(X:Cx)(r:V→Option Int→Option Int→Hp→VK→Prop):Prop:=
 ∀(pins:List (Addr×Obj)) (s:Shared) (σ:St) (H:Hp) (x:V) (v vl vu:Value) (lo hi:Option Int) (sl:Addr) (Q:VK),az X pins σ H s→aF x v→s.heap.IsSliceOf sl vl vu .none→IsPart vl lo→IsPart vu hi→r x lo hi H Q→
  ∃T id,typeLookup (.type T) "__getitem__"=pure (some (.builtin id))∧s.TypeIs v T∧wpAny (model X.prog X.w) X.A (getItem v (.ref sl)) (EP X pins σ Q) X.xe s
theorem x4.or{r r':V→Option Int→Option Int→Hp→VK→Prop}(h:x4 X r)(h':x4 X r'):x4 X (fun x lo hi H Q=>r x lo hi H Q∨r' x lo hi H Q):=by
 intro pins s σ H x v vl vu lo hi sl Q I rx hs pl pu q;rcases q with q | q
 ·exact h pins s σ H x v vl vu lo hi sl Q I rx hs pl pu q
 ·exact h' pins s σ H x v vl vu lo hi sl Q I rx hs pl pu q
def D6(r:V→Option Int→Option Int→Hp→VK→Prop)(te:TE)(tl th:TO):TE:=fun σ H Q=>te σ H fun x H1=>tl σ H1 fun l H2=>th σ H2 fun u H3=>r x l u H3 Q
theorem pF{r:V→Option Int→Option Int→Hp→VK→Prop}(hr:x4 X r)(he:PE X e te)(hl:PO X lo tl)(hu:PO X hi th):PE X (.Subscript e (.Slice lo hi none p2) pos) (D6 r te tl th):=by
 intro pins s σ H Q I h;refine Subscript_ (bz (he pins s σ H _ I h) fun v s1 ⟨x,H1,I1,r1,q1⟩=>?_);refine wpAny_Slice (bz (hl pins s1 σ H1 _ I1 q1) fun vl s2 ⟨l,H2,I2,pl,q2⟩=>bz (hu pins s2 σ H2 _ I2 q2) fun vu s3 ⟨u,H3,I3,pu,q3⟩=>?_);rw [evalPart_none];refine wpAny_pure ?_;have I4:az X pins σ H3 { s3 with heap:=s3.heap.push { cls:=.type "slice",data:=.fields #[vl,vu,.none] } }:=I3.kept (t':=s3.toks) fun b ob q=>aa3 _ q;obtain⟨T,id,hT,ht,hg⟩:=hr pins { s3 with heap:=s3.heap.push { cls:=.type "slice",data:=.fields #[vl,vu,.none] } } σ H3 x v vl vu l u s3.heap.objs.size Q I4 r1 (Heap.IsSliceOf.new ..) pl pu q3;show wpAny (model X.prog X.w) X.A (subscriptTail e (.Slice lo hi none p2) v (.ref s3.heap.objs.size)) (EP X pins σ Q) X.xe { s3 with heap:=s3.heap.push { cls:=.type "slice",data:=.fields #[vl,vu,.none] } };exact tail_any (ops:=[.ref s3.heap.objs.size,v]) ht hT hg (by with_unfolding_all rfl)
def mJ(xs:List V)(lo hi:Option Int):List V:=(xs.drop (HT.sIx xs.length 0 lo)).take (HT.sIx xs.length xs.length hi - HT.sIx xs.length 0 lo)
theorem i4(xs:List V)(lo hi:Option Int):(mJ xs lo hi).length≤xs.length:=by
 unfold mJ;rw [ac6,ah8];omega
def Bw(K:Frag):V→Option Int→Option Int→Hp→VK→Prop:=fun x lo hi H Q=>∃a xs,x=.ref a∧bf K H a xs∧
 ¬(HT.sIx xs.length 0 lo=0∧HT.sIx xs.length xs.length hi=xs.length)∧∀p,H p=none→Q (.ref p) (upd H p (.tup (mJ xs lo hi)))
theorem sl_tup:x4 X (Bw X.K):=by
 intro pins s σ H x v vl vu lo hi sl Q I rx hs pl pu h;obtain⟨a,xs,rfl,hx,hw,q⟩:=h;cases rx;obtain⟨its,r,ht,hz⟩:=I.tuple hx
 have hlen:its.toArray.size=xs.length:=by rw [aa7];exact r.length.symm
 refine⟨"tuple",_,PyProof.Rows.slot_tuple_getitem.lookup,ht.typeIs,?_⟩;refine HT.getItem_tuple_cut ht hs pl pu (by rw [hlen];exact hw) ?_ (by rw [hlen];exact hz);rw [hlen];refine⟨.ref s.heap.objs.size,_,I.laid (t':=s.toks) (o:=.tup (mJ xs lo hi)) (fun b ob q=>aa3 _ q) (aa8 _) ?_,rfl,q _ (I.hok.fresh (aa8 _))⟩;exact⟨ac0 (i4 xs lo hi) hz,_,(r.drop (HT.sIx xs.length 0 lo)).take (HT.sIx xs.length xs.length hi - HT.sIx xs.length 0 lo),IsTup.new _ _⟩
def C6(K:Frag):R2:=fun x y H Q=>∃a b ns ms,x=.ref a∧y=.ref b∧bf K H a (ns.map V.int)∧bf K H b (ms.map V.int)∧Q (.bl (HT.lexLt ns ms)) H
theorem Bf(hu:X.A.units < cLine):bZ X (compareOp .Lt) (C6 X.K):=by
 intro pins s σ H x y v u Q I rx ry h;obtain⟨a,b,ns,ms,rfl,rfl,ha,hb,q⟩:=h;cases rx;cases ry;obtain⟨its,r1,p1,_⟩:=I.tuple ha;obtain⟨its2,r2,p2,_⟩:=I.tuple hb;have i1:IntsAre its.toArray.toList ns:=jL r1;have i2:IntsAre its2.toArray.toList ms:=jL r2;exact HT.lt_tupInts p1 p2 i1 i2 hu ⟨.bl (HT.lexLt ns ms),H,I,rfl,q⟩
def sL(K:Frag):R2:=fun x y H Q=>∃a b xs ys,x=.ref a∧y=.ref b∧bf K H a xs∧bf K H b ys∧xs≠[]∧xs.length+ys.length≤sizeLine∧
 (ys=[]→Q (.ref a) H)∧(ys≠[]→∀p,H p=none→Q (.ref p) (upd H p (.tup (xs++ys))))
theorem aH.nil_iff{xs:List V}{us:List Value}(r:aH xs us):us=[]↔xs=[]:=by
 cases r with
 | nil=>simp
 | cons _ _=>simp
theorem za:bZ X (binaryOp .Add) (sL X.K):=by
 intro pins s σ H x y v u Q I rx ry h;obtain⟨a,b,xs,ys,rfl,rfl,ha,hb,hx,hz,q1,q2⟩:=h;cases rx;cases ry;obtain⟨its,r1,p1,_⟩:=I.tuple ha;obtain⟨its2,r2,p2,_⟩:=I.tuple hb;refine HT.cat_tup p1 p2 (fun z=>hx (r1.nil_iff.mp z)) (fun z=>⟨.ref a,H,I,rfl,q1 (r2.nil_iff.mp z)⟩) (fun z=>?_) (by rw [←r1.length,←r2.length];exact hz);refine⟨.ref s.heap.objs.size,_,I.laid (t':=s.toks) (o:=.tup (xs++ys)) (fun b ob q=>aa3 _ q) (aa8 _) ?_,rfl,q2 (fun w=>z (r2.nil_iff.mpr w)) _ (I.hok.fresh (aa8 _))⟩;exact⟨by rw [ab3];exact hz,_,r1.append r2,IsTup.new _ _⟩
end
end L2
namespace L2
open PySem PySem.Spec PyProof.Rows
def yG(n:Nat)(i:Int):Option Nat:=if 0≤i then(if i < n then some i.toNat else none)else if -(n:Int)≤i then some (i+n).toNat else none
def iC{α:Type}(xs:List α)(i:Int):Option α:=(yG xs.length i).bind fun j=>xs[j]?
theorem sr{n:Nat}{i:Int}{j:Nat}(h:yG n i=some j):seqIndex? i n=some j∧j < n∧-(n:Int)≤i∧i < n:=by
 unfold yG at h
 by_cases h0:0≤i
 ·rw [if_pos h0]at h
  by_cases h1:i < n
  ·rw [if_pos h1]at h
   have e:i.toNat=j:=Option.some.inj h;exact⟨by rw [seqIndex_of h0 h1,e],by omega,by omega,h1⟩
  ·rw [if_neg h1]at h;cases h
 ·rw [if_neg h0]at h
  by_cases h1:-(n:Int)≤i
  ·rw [if_pos h1]at h
   have e:(i+n).toNat=j:=Option.some.inj h;exact⟨by rw [seqIndex_neg (by omega) h1,e],by omega,h1,by omega⟩
  ·rw [if_neg h1]at h;cases h
theorem mB{α:Type}{xs:List α}{i:Int}{v:α}(h:iC xs i=some v):∃j,seqIndex? i xs.length=some j∧xs[j]?=some v∧j < xs.length∧-(xs.length:Int)≤i∧i < xs.length:=by
 unfold iC at h
 cases e:yG xs.length i with
 | none=>rw [e]at h;cases h
 | some j=>
  rw [e]at h;obtain⟨h1,h2,h3,h4⟩:=sr e;exact⟨j,h1,h,h2,h3,h4⟩
theorem aK{α:Type}{xs:List α}{j:Nat}{v:α}(h:xs[j]?=some v):iC xs (j:Int)=some v:=by
 have hj:j < xs.length:=(aa1.mp h).1
 have e:yG xs.length (j:Int)=some j:=by
  unfold yG;rw [if_pos (by omega),if_pos (by omega)];simp
 unfold iC;rw [e];exact h
def ye(b:Expr):Prop:=∀o i,subscripted b false o i=operate [o,i] (getItem o i)
def ve(X:Cx)(r:R2):Prop:=
 ∀(value slice:Expr) (pins:List (Addr×Obj)) (s:Shared) (σ:St) (H:Hp) (x y:V) (v u:Value) (Q:VK),az X pins σ H s→aF x v→aF y u→r x y H Q→
  subscripted slice false v u=operate [v,u] (getItem v u)→wpAny (model X.prog X.w) X.A (subscriptTail value slice v u) (EP X pins σ Q) X.xe s
def vf(X:Cx)(id:String)(r:V→List V→Hp→VK→Prop):Prop:=
 ∀(pins:List (Addr×Obj)) (s:Shared) (σ:St) (H:Hp) (x:V) (xs:List V) (v:Value) (us:List Value) (Q:VK),az X pins σ H s→aF x v→aH xs us→r x xs H Q→
  wpAny (model X.prog X.w) X.A (call (.builtin id) (v::us)) (EP X pins σ Q) X.xe s
section
variable {X:Cx} {a b:Expr} {ta tb:TE} {pos:Pos}
theorem ve.or{r r':R2}(h:ve X r)(h':ve X r'):ve X (fun x y H Q=>r x y H Q∨r' x y H Q):=by
 intro value slice pins s σ H x y v u Q I rx ry q hs;rcases q with q | q
 ·exact h value slice pins s σ H x y v u Q I rx ry q hs
 ·exact h' value slice pins s σ H x y v u Q I rx ry q hs
theorem vf.or{id:String}{r r':V→List V→Hp→VK→Prop}(h:vf X id r)(h':vf X id r'):vf X id (fun x xs H Q=>r x xs H Q∨r' x xs H Q):=by
 intro pins s σ H x xs v us Q I rx rs q;rcases q with q | q
 ·exact h pins s σ H x xs v us Q I rx rs q
 ·exact h' pins s σ H x xs v us Q I rx rs q
theorem aV{r:R2}(hr:ve X r)(ha:PE X a ta)(hb:PE X b tb)(hs:ye b):PE X (.Subscript a b pos) (BY r ta tb):=by
 intro pins s σ H Q I h;exact Subscript_ (AJ ha hb I h fun v u s2 x y H2 I2 rx ry q=>hr a b pins s2 σ H2 x y v u Q I2 rx ry q (hs _ _))
def Bp(K:Frag):R2:=fun x y H Q=>∃p xs i v,x=.ref p∧y=.int i∧aI K H p xs∧iC xs i=some v∧Q v H
def Br(K:Frag):R2:=fun x y H Q=>∃p xs i v,x=.ref p∧y=.int i∧bf K H p xs∧iC xs i=some v∧Q v H
def Bq:R2:=fun x y H Q=>∃z i c,x=.str z∧y=.int i∧z.length≤sizeLine∧iC z.cps.toList i=some c∧Q (.str ⟨#[c]⟩) H
theorem ix_list:ve X (Bp X.K):=by
 intro value slice pins s σ H x y v u Q I rx ry h hs;obtain⟨p,xs,i,z,rfl,rfl,hq,he,q⟩:=h;cases rx;obtain⟨t,rfl⟩:=ry;obtain⟨its,r,pl,hz⟩:=I.list hq;obtain⟨j,h1,h2,h3,h4,h5⟩:=mB he;obtain⟨w,ew,rw'⟩:=r.get h2;have hl:=r.length;have hn:=gx;have fin:EP X pins σ Q w s:=⟨z,H,I,rw',q⟩
 by_cases h0:0≤i
 ·have hj:i.toNat=j:=by
   rw [seqIndex_of h0 h5]at h1;exact Option.some.inj h1
  exact item_listR pl.isList h0 (by omega) (by rw [hj];simpa using ew) fin hs
 ·have hj:(i+(its.toArray.size:Int)).toNat=j:=by
   rw [seqIndex_neg (by omega) h4]at h1;rw [aa7,←hl];exact Option.some.inj h1
  exact subscriptTail_builtinR (x:=w) pl.isList.typeIs slot_list_getitem.lookup
   (wpAny_getItem_list_neg (Q:=fun r s'=>r=w∧EP X pins σ Q r s') pl.isList (by omega) (by rw [aa7]<;>omega) (by omega) (by rw [hj];simpa using ew) ⟨rfl,fin⟩) hs
theorem ix_tup:ve X (Br X.K):=by
 intro value slice pins s σ H x y v u Q I rx ry h hs;obtain⟨p,xs,i,z,rfl,rfl,hq,he,q⟩:=h;cases rx;obtain⟨t,rfl⟩:=ry;obtain⟨its,r,pl,hz⟩:=I.tuple hq;obtain⟨j,h1,h2,h3,h4,h5⟩:=mB he;obtain⟨w,ew,rw'⟩:=r.get h2;have hl:=r.length;have hn:=gx;have fin:EP X pins σ Q w s:=⟨z,H,I,rw',q⟩
 exact subscriptTail_builtinR (x:=w) pl.typeIs slot_tuple_getitem.lookup
  (getItem_tuple (j:=j) (Q:=fun r s'=>r=w∧EP X pins σ Q r s') pl (by omega) (by omega) (by rw [aa7,←hl];exact h1) (by simpa using ew) ⟨rfl,fin⟩) hs
theorem AV:ve X Bq:=by
 intro value slice pins s σ H x y v u Q I rx ry h hs;obtain⟨z,i,c,rfl,rfl,hz,he,q⟩:=h;obtain⟨t,rfl⟩:=rx;obtain⟨t',rfl⟩:=ry;obtain⟨j,h1,h2,h3,h4,h5⟩:=mB he
 have hl:z.cps.toList.length=z.length:=by simp [Str.length]
 rw [hl]at h1 h4 h5;have hn:=gx
 exact tail_any (typeIs_str s z t) slot_str_getitem.lookup (getItem_str (c:=c) (by
  have e1:decide (i < -(2 ^ 63:Int))=false:=decide_eq_false (by omega);have e2:decide (i≥2 ^ 63)=false:=decide_eq_false (by omega)
  rw [e1,e2,aj5]) (by rw [h1];simpa using h2) ⟨.str ⟨#[c]⟩,H,I.tok _,⟨_,rfl⟩,q⟩) hs
def pM(K:Frag):R2:=fun x y H Q=>Bp K x y H Q∨Br K x y H Q∨Bq x y H Q
theorem AU:ve X (pM X.K):=ix_list.or (ix_tup.or AV)
theorem qY(its:List Value)(n j:Nat)(u:Value):Obj.mapSeq (·.setIfInBounds j u) { cls:=.type "list",data:=.seq its.toArray n }={ cls:=.type "list",data:=.seq (its.set j u).toArray n }:=by
 simp [Obj.mapSeq]
theorem az.lst{pins:List (Addr×Obj)}{σ:St}{H:Hp}{s:Shared}{p:Addr}{xs:List V}(I:az X pins σ H s)(h:H p=some (.lst xs)):
  ∃(its:List Value) (n:Nat),aH xs its∧s.heap.get? p=some { cls:=.type "list",data:=.seq its.toArray n }∧xs.length≤sizeLine:=by
 obtain⟨z,its,n,r,e⟩:=I.hok p _ h;exact⟨its,n,r,e,z⟩
theorem az.lstUpd{pins:List (Addr×Obj)}{σ:St}{H:Hp}{s:Shared}{p:Addr}{xs ys:List V}{its its':List Value}{n n':Nat}{f:Obj→Obj}(I:az X pins σ H s)(h:H p=some (.lst xs))
  (ho:s.heap.get? p=some { cls:=.type "list",data:=.seq its.toArray n }) (hf:f { cls:=.type "list",data:=.seq its.toArray n }={ cls:=.type "list",data:=.seq its'.toArray n' }) (r:aH ys its') (hz:ys.length≤sizeLine) (t:Nat) :
  az X pins σ (upd H p (.lst ys)) { s with heap:=s.heap.update p f,toks:=t }:=by
 have e:(s.heap.update p f).get? p=some { cls:=.type "list",data:=.seq its'.toArray n' }:=by
  rw [ad2 f ho (by rw [hf]<;>rfl),hf]
 refine I.write (x:=p) (e:=p) (by rw [h];trivial) (.inl rfl) (fun b u hb q=>(ac2 _ _ (Ne.symm hb)).trans q) ⟨_,e⟩ ?_;exact⟨hz,its',n',r,e⟩
def Au:V→V→V→Hp→(Hp→Prop)→Prop:=fun o i v H Q=>∃p xs k j,o=.ref p∧i=.int k∧H p=some (.lst xs)∧yG xs.length k=some j∧Q (upd H p (.lst (xs.set j v)))
theorem xx:AH X Au:=by
 intro pins s σ H o i v ov iv u Q I ro ri rv h;obtain⟨p,xs,k,j,rfl,rfl,hp,hj,q⟩:=h;cases ro;obtain⟨t,rfl⟩:=ri;obtain⟨its,n,r,ho,hz⟩:=I.lst hp;obtain⟨h1,h2,h3,h4⟩:=sr hj;have hl:=r.length;have hn:=gx
 have I':az X pins σ (upd H p (.lst (xs.set j v))) { s with heap:=s.heap.update p (Obj.mapSeq (·.setIfInBounds j u)) }:=
  I.lstUpd hp ho (qY its n j u) (r.set rv j) (by rw [List.length_set];exact hz) s.toks
 by_cases h0:0≤k
 ·have hk:k.toNat=j:=by
   rw [seqIndex_of h0 h4]at h1;exact Option.some.inj h1
  exact PySem.W.ki_setAt ho h0 (by omega) (by rw [aa7,←hl];exact h4) (by rw [hk];exact⟨_,I',q⟩)
 ·have hk:(k+(its.toArray.size:Int)).toNat=j:=by
   rw [seqIndex_neg (by omega) h3]at h1;rw [aa7,←hl];exact Option.some.inj h1
  exact PySem.W.ki_setBack ho (by omega) (by rw [aa7,←hl];exact h3) (by omega) (by rw [hk];exact⟨_,I',q⟩)
theorem nU(lo hi:Option Int)(n:Nat):(sliceBounds lo hi none n).1=((HT.sIx n 0 lo:Nat):Int)∧(sliceBounds lo hi none n).2.1=((HT.sIx n n hi:Nat):Int)∧(sliceBounds lo hi none n).2.2=1:=by
 refine⟨?_,?_,rfl⟩
 ·cases lo with
  | none=>simp [sliceBounds,HT.sIx]
  | some i=>
   simp only [sliceBounds,HT.sIx,Option.getD_none,show(1:Int) > 0 by decide,if_true]
   by_cases h:i < 0
   ·simp only [h,if_true]<;>omega
   ·simp only [h,if_false]<;>omega
 ·cases hi with
  | none=>simp [sliceBounds,HT.sIx]
  | some i=>
   simp only [sliceBounds,HT.sIx,Option.getD_none,show(1:Int) > 0 by decide,if_true]
   by_cases h:i < 0
   ·simp only [h,if_true]<;>omega
   ·simp only [h,if_false]<;>omega
theorem kX(its:List Value)(lo hi:Option Int):slicePick its.toArray lo hi none=((its.drop (HT.sIx its.length 0 lo)).take (HT.sIx its.length its.length hi - HT.sIx its.length 0 lo)).toArray:=by
 obtain⟨h1,h2,h3⟩:=nU lo hi its.toArray.size;unfold slicePick;rw [h1,h2,h3]
 simp only [sliceRange_one,pick_run,aa7]<;>rfl
def Bu(K:Frag):V→Option Int→Option Int→Hp→VK→Prop:=fun x lo hi H Q=>∃a xs,x=.ref a∧aI K H a xs∧∀p,H p=none→Q (.ref p) (upd H p (.lst (mJ xs lo hi)))
theorem sl_list:x4 X (Bu X.K):=by
 intro pins s σ H x v vl vu lo hi sl Q I rx hs pl pu h;obtain⟨a,xs,rfl,hx,q⟩:=h;cases rx;obtain⟨its,r,ht,hz⟩:=I.list hx;have hlen:=r.length;refine⟨"list",_,slot_list_getitem.lookup,ht.isList.typeIs,?_⟩
 refine wpAny_getItem_list_slice ht.isList hs pl pu .none (by simp) ?_ (by rw [aa7]<;>omega)
 rw [kX,←hlen];refine⟨.ref s.heap.objs.size,_,I.laid (t':=s.toks) (o:=.lst (mJ xs lo hi)) (fun b ob q=>aa3 _ q) (aa8 _) ?_,rfl,q _ (I.hok.fresh (aa8 _))⟩;exact⟨ac0 (i4 xs lo hi) hz,_,0,(r.drop (HT.sIx xs.length 0 lo)).take (HT.sIx xs.length xs.length hi - HT.sIx xs.length 0 lo),aa6 _ rfl⟩
def cQ:V→Bool
 | .non=>true
 | .bl _=>true
 | .int _=>true
 | .str _=>true
 | _=>false
def ud:V→V→Bool
 | .non,.non=>true
 | .bl a,.bl b=>a == b
 | .bl a,.int b=>(if a then 1 else 0) == b
 | .int a,.bl b=>a == (if b then 1 else 0)
 | .int a,.int b=>a == b
 | .str a,.str b=>a == b
 | _,_=>false
theorem vQ{A:Around}{s:Shared}{y x:V}{u v:Value}(ry:aF y u)(rx:aF x v)(fy:cQ y=true)(fx:cQ x=true):SeqAt.EqAt A s u v (ud y x):=by
 cases y with
 | non=>
  cases ry
  cases x with
  | non=>cases rx;exact SeqAt.EqAt.same _
  | bl b=>cases rx;exact SeqAt.EqAt.none_bool b
  | int b=>obtain⟨t,rfl⟩:=rx;exact SeqAt.EqAt.none_int b t
  | str b=>obtain⟨t,rfl⟩:=rx;exact SeqAt.EqAt.none_str b t
  | _=>exact absurd (show false=true from fx) ab0
 | bl a=>
  cases ry
  cases x with
  | non=>cases rx;exact SeqAt.EqAt.bool_none a
  | bl b=>cases rx;exact SeqAt.EqAt.bool_bool a b
  | int b=>obtain⟨t,rfl⟩:=rx;exact SeqAt.EqAt.bool_int a b t
  | str b=>obtain⟨t,rfl⟩:=rx;exact SeqAt.EqAt.bool_str a b t
  | _=>exact absurd (show false=true from fx) ab0
 | int a=>
  obtain⟨t',rfl⟩:=ry
  cases x with
  | non=>cases rx;exact SeqAt.EqAt.int_none a t'
  | bl b=>cases rx;exact SeqAt.EqAt.int_bool a t' b
  | int b=>obtain⟨t,rfl⟩:=rx;exact SeqAt.EqAt.int_int a t' b t
  | str b=>obtain⟨t,rfl⟩:=rx;exact SeqAt.EqAt.int_str a t' b t
  | _=>exact absurd (show false=true from fx) ab0
 | str a=>
  obtain⟨t',rfl⟩:=ry
  cases x with
  | non=>cases rx;exact SeqAt.EqAt.str_none a t'
  | bl b=>cases rx;exact SeqAt.EqAt.str_bool a t' b
  | int b=>obtain⟨t,rfl⟩:=rx;exact SeqAt.EqAt.str_int a t' b t
  | str b=>obtain⟨t,rfl⟩:=rx;exact SeqAt.EqAt.str_str a t' b t
  | _=>exact absurd (show false=true from fx) ab0
 | _=>exact absurd (show false=true from fy) ab0
def qM(x:V)(u:Value):Bool:=match u with
 | .none=>ud .non x
 | .bool b=>ud (.bl b) x
 | .int i _=>ud (.int i) x
 | .str z _=>ud (.str z) x
 | _=>false
theorem vS{x y:V}{u:Value}(r:aF y u)(f:cQ y=true):qM x u=ud y x:=by
 cases y with
 | non=>cases r;rfl
 | bl b=>cases r;rfl
 | int i=>obtain⟨t,rfl⟩:=r;rfl
 | str z=>obtain⟨t,rfl⟩:=r;rfl
 | _=>exact absurd (show false=true from f) ab0
theorem gY{x:V}:∀{xs:List V} {us:List Value},aH xs us→xs.all cQ=true→us.any (qM x)=xs.any fun y=>ud y x
 | _,_,.nil,_=>rfl
 | y::xs,u::us,.cons r t,f=>by
  rw [aj6,ag3]at f;rw [List.any_cons,List.any_cons,vS r f.1,gY t f.2]
theorem fJ{A:Around}{s:Shared}{x:V}{v:Value}(rx:aF x v)(fx:cQ x=true):∀{xs:List V} {us:List Value},aH xs us→xs.all cQ=true→∀u∈us,SeqAt.EqAt A s u v (qM x u)
 | _,_,.nil,_=>fun u hu=>by cases hu
 | y::xs,u::us,.cons r t,f=>fun u' hu=>by
  rw [aj6,ag3]at f;rcases ab6.mp hu with rfl | hu
  ·rw [vS r f.1];exact vQ r rx f.1 fx
  ·exact fJ rx fx t f.2 u' hu
def Cy(x:V)(xs:List V):Bool:=xs.any fun y=>ud y x
def BW(K:Frag)(neg:Bool):R2:=fun x y H Q=>∃p xs,y=.ref p∧(aI K H p xs∨bf K H p xs)∧cQ x=true∧xs.all cQ=true∧Q (.bl (if neg then !Cy x xs else Cy x xs)) H
theorem uM:bZ X (compareOp .In) (BW X.K false):=by
 intro pins s σ H x y v u Q I rx ry h;obtain⟨p,xs,rfl,hq,fx,fs,q⟩:=h;cases ry;rcases hq with hq | hq
 ·obtain⟨its,r,pl,hz⟩:=I.list hq
  refine SeqAt.in_listAt (qM x) pl.isList (fun w hw=>fJ rx fx r fs w (by simpa using hw)) ⟨.bl _,H,I,rfl,?_⟩;rw [show its.toArray.any (qM x)=its.any (qM x)by simp,gY r fs];exact q
 ·obtain⟨its,r,pl,hz⟩:=I.tuple hq
  refine SeqAt.in_tupleAt (qM x) pl (fun w hw=>fJ rx fx r fs w (by simpa using hw)) ⟨.bl _,H,I,rfl,?_⟩;rw [show its.toArray.any (qM x)=its.any (qM x)by simp,gY r fs];exact q
theorem nc:bZ X (compareOp .NotIn) (BW X.K true):=by
 intro pins s σ H x y v u Q I rx ry h;obtain⟨p,xs,rfl,hq,fx,fs,q⟩:=h;cases ry;rcases hq with hq | hq
 ·obtain⟨its,r,pl,hz⟩:=I.list hq
  refine SeqAt.notIn_listAt (qM x) pl.isList (fun w hw=>fJ rx fx r fs w (by simpa using hw)) ⟨.bl _,H,I,rfl,?_⟩;rw [show its.toArray.any (qM x)=its.any (qM x)by simp,gY r fs];exact q
 ·obtain⟨its,r,pl,hz⟩:=I.tuple hq
  refine SeqAt.notIn_tupleAt (qM x) pl (fun w hw=>fJ rx fx r fs w (by simpa using hw)) ⟨.bl _,H,I,rfl,?_⟩;rw [show its.toArray.any (qM x)=its.any (qM x)by simp,gY r fs];exact q
theorem mG:bq X (.builtin "len") (fun xs H Q=>∃p ys,xs=[.ref p]∧(aI X.K H p ys∨bf X.K H p ys)∧Q (.int ys.length) H):=by
 intro pins s σ H xs us Q I r h;obtain⟨p,ys,rfl,hq,q⟩:=h;obtain⟨u,rfl,rx⟩:=cN r;cases rx;have hn:=gx;rcases hq with hq | hq
 ·obtain⟨its,r',pl,hz⟩:=I.list hq
  have hlen:=r'.length
  exact Calls.call_len_list pl.isList (by simp only [aa7]<;>omega) ⟨.int ys.length,H,I.tok _,⟨s.toks+1,by rw [aa7,hlen]⟩,q⟩
 ·obtain⟨its,r',pl,hz⟩:=I.tuple hq
  have hlen:=r'.length
  exact len_tuple pl (by simp only [aa7]<;>omega) ⟨.int ys.length,H,I.tok _,⟨s.toks+1,by rw [aa7,hlen]⟩,q⟩
theorem call_len_str:bq X (.builtin "len") (fun xs H Q=>∃z,xs=[.str z]∧z.length≤sizeLine∧Q (.int z.length) H):=by
 intro pins s σ H xs us Q I r h;obtain⟨z,rfl,hz,q⟩:=h;obtain⟨u,rfl,t,rfl⟩:=cN r;have hn:=gx;exact len_str (by omega) ⟨.int z.length,H,I.tok _,⟨_,rfl⟩,q⟩
theorem bq.or{f:Value}{r r':List V→Hp→VK→Prop}(h:bq X f r)(h':bq X f r'):bq X f (fun xs H Q=>r xs H Q∨r' xs H Q):=by
 intro pins s σ H xs us Q I rs q;rcases q with q | q
 ·exact h pins s σ H xs us Q I rs q
 ·exact h' pins s σ H xs us Q I rs q
theorem mH:bq X (.type "list") (fun xs H Q=>∃p ys,xs=[.ref p]∧(aI X.K H p ys∨bf X.K H p ys)∧∀l,H l=none→Q (.ref l) (upd H l (.lst ys))):=by
 intro pins s σ H xs us Q I r h;obtain⟨p,ys,rfl,hq,q⟩:=h;obtain⟨u,rfl,rx⟩:=cN r;cases rx
 have fin:∀(its:List Value),aH ys its→ys.length≤sizeLine→∀(h':Heap) (c':Nat),(∀b o',s.heap.get? b=some o'→h'.get? b=some o')→
   h'.get? s.heap.objs.size=some { cls:=.type "list",dict:=none,data:=.seq its.toArray c',slots:=#[] }→EP X pins σ Q (.ref s.heap.objs.size) { s with heap:=h' }:=fun its r' hz h' c' kp e=>
  ⟨.ref s.heap.objs.size,_,I.laid (t':=s.toks) kp (aa8 _) (show br X.prog X.w _ h' _ (.lst ys)from⟨hz,its,c',r',e⟩),rfl,q _ (I.hok.fresh (aa8 _))⟩
 rcases hq with hq | hq
 ·obtain⟨its,r',pl,hz⟩:=I.list hq
  have hlen:=r'.length;obtain⟨o,ho,hc,n,hd⟩:=pl.isList
  exact call_list_seq p (.inl rfl) ho hc hd (fun h' c' kp e=>fin its r' hz h' c' kp e) (by simp only [aa7]<;>omega)
 ·obtain⟨its,r',pl,hz⟩:=I.tuple hq
  have hlen:=r'.length;obtain⟨o,ho,hc,n,hd⟩:=pl
  exact call_list_seq p (.inr rfl) ho hc hd (fun h' c' kp e=>fin its r' hz h' c' kp e) (by simp only [aa7]<;>omega)
theorem kK:bq X (.type "tuple") (fun xs H Q=>∃p ys,xs=[.ref p]∧((aI X.K H p ys∧∀l,H l=none→Q (.ref l) (upd H l (.tup ys)))∨(bf X.K H p ys∧Q (.ref p) H))):=by
 intro pins s σ H xs us Q I r h;obtain⟨p,ys,rfl,h⟩:=h;obtain⟨u,rfl,rx⟩:=cN r;cases rx;rcases h with⟨hq,q⟩ | ⟨hq,q⟩
 ·obtain⟨its,r',pl,hz⟩:=I.list hq
  have hlen:=r'.length
  refine call_tuple_list pl.isList (fun h' kp=>?_) (by simp only [aa7]<;>omega)
  have I1:az X pins σ H { s with heap:=h' }:=I.kept (t':=s.toks) kp
  have I2:az X pins σ (upd H h'.objs.size (.tup ys)) { s with heap:=h'.push { cls:=.type "tuple",data:=.seq its.toArray } }:=
   I1.laid (t':=s.toks) (fun b o e=>aa3 _ e) (aa8 _) (show br X.prog X.w _ _ _ (.tup ys)from⟨hz,its,r',IsTup.new _ _⟩)
  exact⟨.ref h'.objs.size,_,I2,rfl,q _ (I1.hok.fresh (aa8 _))⟩
 ·obtain⟨its,r',pl,hz⟩:=I.tuple hq
  exact call_tuple_same pl ⟨.ref p,H,I,rfl,q⟩
def Dl(K:Frag)(T:String)(x:V)(H:Hp):Prop:=match x with
 | .str _=>T="str"
 | .int _=>T="int"
 | .ref p=>(T="list"∧∃xs,aI K H p xs)∨(T="tuple"∧∃o,K.lookup p=some o∧o.cls=.type "tuple"∧o.dict=none)∨
   (T="dict"∧((∃kvs,H p=some (.dK kvs))∨∃kvs,H p=some (.dT kvs)))∨(T="set"∧∃S n,H p=some (.set S n))
 | _=>False
theorem BO{pins:List (Addr×Obj)}{σ:St}{H:Hp}{s:Shared}{T:String}{x:V}{v:Value}(I:az X pins σ H s)(r:aF x v)(ty:Dl X.K T x H):
  s.TypeIs v T∧∀a,v=.ref a→∃ob,s.heap.get? a=some ob∧ob.dict=none:=by
 cases x with
 | str z=>
  obtain⟨t,rfl⟩:=r;cases(show T="str" from ty);exact⟨typeIs_str s z t,fun _ e=>nomatch e⟩
 | int i=>
  obtain⟨t,rfl⟩:=r;cases(show T="int" from ty);exact⟨typeIs_int s i t,fun _ e=>nomatch e⟩
 | ref p=>
  cases r;rcases ty with⟨rfl,xs,hq⟩ | ⟨rfl,o,hk,hc,hd⟩ | ⟨rfl,hk⟩ | ⟨rfl,S,n,hk⟩
  ·obtain⟨its,_,pl,_⟩:=I.list hq
   refine⟨pl.isList.typeIs,fun a e=>?_⟩;cases e;obtain⟨o,n,e,c,hd,_⟩:=pl;exact⟨o,e,hd⟩
  ·refine⟨⟨o,I.kIn p o hk,hc⟩,fun a e=>?_⟩
   cases e;exact⟨o,I.kIn _ o hk,hd⟩
  ·have z:∃o,s.heap.get? p=some o∧o.ExactDict:=by
    rcases hk with⟨kvs,hk⟩ | ⟨kvs,hk⟩
    ·obtain⟨_,_,_,_,o,_,_,e,ex,_⟩:=I.hok p _ hk
     exact⟨o,e,ex⟩
    ·obtain⟨_,_,_,_,o,_,_,e,ex,_⟩:=I.hok p _ hk
     exact⟨o,e,ex⟩
   obtain⟨o,e,ex⟩:=z;refine⟨⟨o,e,ex.1⟩,fun a e2=>?_⟩;cases e2;exact⟨o,e,ex.2.1⟩
  ·obtain⟨o,_,_,_,e,ex,_⟩:=I.hok p _ hk
   refine⟨⟨o,e,ex.1⟩,fun a e2=>?_⟩;cases e2;exact⟨o,e,ex.2.1⟩
 | _=>exact False.elim ty
def DX(K:Frag)(T:String)(r:V→List V→Hp→VK→Prop)(to:TE):TE:=fun σ H Q=>to σ H fun x H1=>Dl K T x H1∧r x [] H1 Q
def DW(K:Frag)(T:String)(r:V→List V→Hp→VK→Prop)(to:TE)(t:TA):TE:=fun σ H Q=>to σ H fun x H1=>Dl K T x H1∧t σ H1 fun xs H2=>r x xs H2 Q
variable {o e:Expr} {es:List Expr} {to:TE} {t:TA} {name:Str} {apos cpos:Pos} {T id:String} {r:V→List V→Hp→VK→Prop}
theorem CY(pa:PlainAttrs T)(slot:Slot T name id)(hty:typeOf (.builtin id)=pure (.type "method_descriptor"))(hm:vf X id r)(ho:PE X o to)(ha:PA X (e::es) t)
  (hbase:attributeBase o name X.env (eval o X.env)=eval o X.env:=by rfl)
  (hfew:((backTo cpos (starEach (e::es) X.env)).all (fun x=>!x.1) && (backToKw cpos (keywordEach [] X.env)).all (fun x=>x.1.isSome)
   && decide ((e::es).length+([]:List Keyword).length+(if ([]:List Keyword).isEmpty then 0 else 1) < 30))=true:=by rfl)
  (hline:(apos.endLine == cpos.line)=true:=by rfl) (hs:starEach (e::es) X.env=(false,eval e X.env)::starEach es X.env:=by rfl) (hplain:(backTo cpos (starEach es X.env)).any (·.1)=false:=by rfl) :
  PE X (.Call (.Attribute o name apos) (e::es) [] cpos) (DW X.K T r to t):=by
 intro pins s σ H Q I h;refine wpAny_Call_method_late hbase hfew hline rfl (bz (ho pins s σ H _ I h) fun v s1 ⟨x,H1,I1,r1,ty,q1⟩=>?_);obtain⟨h1,h2⟩:=BO I1 r1 ty;refine⟨T,id,pa,slot,hty,h1,h2,?_⟩;have hA:=ha cpos pins s1 σ H1 _ I1 q1;rw [hs]at hA ⊢
 refine Calls.callWith_builtin (by show(false || (backTo cpos (starEach es X.env)).any (·.1))=false;rw [hplain]<;>rfl) (Calls.evalArgs_plain ?_)
 exact bz hA fun us s2 ⟨vs,H2,I2,r2,q2⟩=>hm pins s2 σ H2 x vs v us Q I2 r1 r2 q2
end
end L2
namespace L2
open PySem PySem.Spec PyProof.Rows
def D8(X:Cx)(id:String)(r:V→List V→Hp→VK→Prop):Prop:=
 ∀(pins:List (Addr×Obj)) (s:Shared) (σ:St) (H:Hp) (x:V) (xs:List V) (v:Value) (us:List Value) (Q:VK),az X pins σ H s→aF x v→aH xs us→r x xs H Q→
  wpAny (model X.prog X.w) X.A (call (.builtin id) (v::us)) (EP X pins σ Q) X.xe s
theorem aH.one:∀{x:V} {us:List Value},aH [x] us→∃u,us=[u]∧aF x u
 | _,_,.cons r .nil=>⟨_,rfl,r⟩
theorem aH.zero:∀{us:List Value},aH [] us→us=[]
 | _,.nil=>rfl
theorem aH.reverse{xs:List V}{us:List Value}(h:aH xs us):aH xs.reverse us.reverse:=by
 induction h with
 | nil=>exact .nil
 | cons r t ih=>rw [ai8,ai8];exact aH.append ih (.cons r .nil)
theorem aH.rep{xs:List V}{us:List Value}(h:aH xs us):∀k:Nat,aH (List.replicate k xs).flatten (List.replicate k us).flatten
 | 0=>.nil
 | k+1=>by
  rw [ae1,ae1,ah3,ah3];exact aH.append h (aH.rep h k)
theorem iG(its:List Value):∀(k:Nat) (acc:List Value),
  List.foldl (fun x1 x2=>x1++x2) acc.toArray (List.replicate k its.toArray)=(acc++(List.replicate k its).flatten).toArray
 | 0,acc=>by simp
 | k+1,acc=>by
  have e:acc.toArray++its.toArray=(acc++its).toArray:=by simp
  have e2:(acc++its)++(List.replicate k its).flatten=acc++(List.replicate (k+1) its).flatten:=by
   rw [ae1,ah3,al4]
  rw [←e2,←iG its k (acc++its),←e,ae1,ad9]
section
variable {X:Cx} {pins:List (Addr×Obj)} {σ:St} {H:Hp} {s:Shared} {l b:Addr} {xs ys zs:List V}
theorem az.lset{its its':List Value}{n:Nat}{f:Array Value→Array Value}{t':Nat}(I:az X pins σ H s)(hH:H l=some (.lst xs))
  (e:s.heap.get? l=some { cls:=.type "list",data:=.seq its.toArray n }) (hf:f its.toArray=its'.toArray) (hv:aH ys its') (hz:ys.length≤sizeLine) :
  az X pins σ (upd H l (.lst ys)) { s with heap:=s.heap.update l (Obj.mapSeq f),toks:=t' }:=by
 have q:=PySem.IsL.update e f;rw [hf]at q;refine I.write (x:=l) (e:=l) (by rw [hH];exact trivial) (.inl rfl) (fun b' u hb hu=>(ac2 s.heap (Obj.mapSeq f) (Ne.symm hb)).trans hu) ⟨_,q⟩ ?_;exact⟨hz,its',_,hv,q⟩
theorem az.lnew{its:List Value}{t':Nat}(I:az X pins σ H s)(hv:aH ys its)(hz:ys.length≤sizeLine):
  az X pins σ (upd H s.heap.objs.size (.lst ys)) { s with heap:=s.heap.push { cls:=.type "list",data:=.seq its.toArray },toks:=t' }:=
 I.laid (fun _ _ q=>aa3 _ q) (aa8 _) ⟨hz,its,0,hv,aa6 _ rfl⟩
theorem az.fresh(I:az X pins σ H s):H s.heap.objs.size=none:=I.hok.fresh (aa8 _)
theorem az.lstM(I:az X pins σ H s)(hH:H l=some (.lst xs)):xs.length≤sizeLine∧∃(its:List Value) (n:Nat),aH xs its∧xs.length=its.length∧s.heap.get? l=some { cls:=.type "list",data:=.seq its.toArray n }:=by
 obtain⟨z,its,n,r,e⟩:=I.hok l _ hH;exact⟨z,its,n,r,r.length,e⟩
theorem pj{n:Nat}(h:n≤sizeLine):Builtin.List.listTooLong n=false:=by
 unfold Builtin.List.listTooLong;exact decide_eq_false (by omega)
end
section
variable {X:Cx}
def zy:V→List V→Hp→VK→Prop:=fun x vs H Q=>∃l xs y,x=.ref l∧vs=[y]∧H l=some (.lst xs)∧xs.length < sizeLine∧Q .non (upd H l (.lst (xs++[y])))
theorem bp:D8 X "list.append" zy:=by
 intro pins s σ H x vs v us Q I rx rv h;obtain⟨l,xs,y,rfl,rfl,hH,hz,q⟩:=h;cases rx;obtain⟨u,rfl,ru⟩:=rv.one;obtain⟨z,its,n,r,hl,e⟩:=I.lstM hH;refine call_meets F.slot_list_append ⟨_,e,rfl⟩ F.entry_list_append (F.args_list_append_2 _ _) (PySem.list_append l its.toArray n u (by rw [aa7];omega)) ⟨e,?_⟩;refine⟨.non,_,I.lset (its':=its++[u]) hH e (by simp) (r.append (.cons ru .nil)) ?_,rfl,q⟩;rw [ab3,List.length_singleton];omega
def zE:V→List V→Hp→VK→Prop:=fun x vs H Q=>∃l b xs zs,x=.ref l∧vs=[.ref b]∧H l=some (.lst xs)∧H b=some (.lst zs)∧xs.length+zs.length≤sizeLine∧Q .non (upd H l (.lst (xs++zs)))
theorem lU:D8 X "list.extend" zE:=by
 intro pins s σ H x vs v us Q I rx rv h;obtain⟨l,b,xs,zs,rfl,rfl,hH,hB,hz,q⟩:=h;cases rx;obtain⟨u,rfl,ru⟩:=rv.one;cases ru;obtain⟨z,its,n,r,hl,e⟩:=I.lstM hH;obtain⟨z2,its2,n2,r2,hl2,e2⟩:=I.lstM hB
 have hsz:its.toArray.size+its2.toArray.size≤sizeLine:=by rw [aa7,aa7];omega
 have hlong:¬(!its.toArray.isEmpty && Builtin.List.listTooLong (its.toArray.size+its2.toArray.size))=true:=by
  rw [pj hsz,Bool.and_false];exact ab0
 refine call_meets F.slot_list_extend ⟨_,e,rfl⟩ F.entry_list_extend (F.args_list_extend_2 _ _)
  (AutoSeq1.list_extend_list_list_0 l its.toArray n b its2.toArray n2 hlong (by rw [aa7];omega) (by omega)) ⟨e,e2,?_⟩
 refine⟨.non,_,I.lset (its':=its++its2) hH e (by simp) (r.append r2) ?_,rfl,q⟩;rw [ab3];omega
def zz:R2:=fun x y H Q=>∃l b xs zs,x=.ref l∧y=.ref b∧H l=some (.lst xs)∧H b=some (.lst zs)∧xs.length+zs.length≤sizeLine∧∀p,H p=none→Q (.ref p) (upd H p (.lst (xs++zs)))
theorem op_cat:bZ X (binaryOp .Add) zz:=by
 intro pins s σ H x y v u Q I rx ry h;obtain⟨l,b,xs,zs,rfl,rfl,hH,hB,hz,q⟩:=h;cases rx;cases ry;obtain⟨z,its,n,r,hl,e⟩:=I.lstM hH;obtain⟨z2,its2,n2,r2,hl2,e2⟩:=I.lstM hB;refine PySem.P.add_list e e2 ?_ (by rw [aa7,aa7];omega)
 have ea:its.toArray++its2.toArray=(its++its2).toArray:=by simp
 rw [ea];exact⟨.ref _,_,I.lnew (t':=s.toks) (r.append r2) (by rw [ab3];omega),rfl,q _ I.fresh⟩
def zM:R2:=fun x y H Q=>∃l k xs,x=.ref l∧y=.int k∧H l=some (.lst xs)∧-(2 ^ 63)≤k∧k < 2 ^ 63∧xs.length * k.toNat≤sizeLine∧
 ∀p,H p=none→Q (.ref p) (upd H p (.lst (List.replicate k.toNat xs).flatten))
theorem mR{α:Type}(xs:List α)(k:Nat):(List.replicate k xs).flatten.length=k * xs.length:=by
 induction k with
 | zero=>simp
 | succ k ih=>rw [ae1,ah3,ab3,ih,am3,Nat.add_comm]
theorem Bh:bZ X (binaryOp .Mult) zM:=by
 intro pins s σ H x y v u Q I rx ry h;obtain⟨l,k,xs,rfl,rfl,hH,h1,h2,hz,q⟩:=h;cases rx;obtain⟨t,rfl⟩:=ry;obtain⟨z,its,n,r,hl,e⟩:=I.lstM hH
 have hlen:its.toArray.size * k.toNat≤sizeLine:=by rw [aa7,←hl];exact hz
 have hcap:¬its.toArray.size * k.toNat > (2 ^ 63 - 1) / 8:=by
  have:(sizeLine:Nat)≤(2 ^ 63 - 1) / 8:=by decide
  omega
 have hfit:¬(!Builtin.List.listFitsIndex k)=true:=by
  rw [fitsIndex_both h1 h2];exact ab0
 have hlong:¬Builtin.List.listTooLong (its.toArray.size * k.toNat)=true:=by
  rw [pj hlen];exact ab0
 have hnew:List.foldl (fun x1 x2=>x1++x2) #[] (List.replicate (if its.toArray.isEmpty=true then 0 else k.toNat) its.toArray)=(List.replicate k.toNat its).flatten.toArray:=by
  have f0:∀m:Nat,List.foldl (fun x1 x2=>x1++x2) #[] (List.replicate m its.toArray)=(List.replicate m its).flatten.toArray:=fun m=>by
   have:=iG its m []
   rw [List.nil_append]at this;exact this
  rw [f0]
  cases its with
  | nil=>simp
  | cons a r'=>rw [if_neg (by simp)]
 refine wpAny_binaryOp_repeat_ref (T:="list") (U:="int") (by decide) ⟨_,e,rfl⟩ (fun s'=>typeIs_int s' k t) noFill_list_mul F.fills_int_mul F.slot_int_rmul repeat_list F.slot_int_index.lookup
  (call_meets F.slot_int_rmul (typeIs_int s k t) F.entry_int_rmul (F.args_int_rmul_2 _ _) (int___rmul___int_list k t l its.toArray n)
   ⟨e,rfl,⟨_,e,rfl⟩,call_meets F.slot_list_mul ⟨_,e,rfl⟩ F.entry_list_mul (F.args_list_mul_2 _ _) (AutoListH.list___mul___list_int_3 l its.toArray n k t hfit hcap hlong) ⟨e,?_⟩⟩)
 rw [hnew];exact⟨.ref _,_,I.lnew (t':=s.toks) (r.rep k.toNat) (by rw [mR,ag8];exact hz),rfl,q _ I.fresh⟩
end
section
variable {prog:Program} {w:World} {A:Around} {E:Value→Shared→Prop} {s:Shared}
set_option maxRecDepth 100000 in
end
section
variable {X:Cx}
end
end L2
namespace Att
open PySem PySem.W PySem.Calls PyProof.Rows
theorem jb{P:Params}{h:Heap}:∀(ns:List Int) (vs:List Value),WellAll P h vs (ns.map WData.int)→IntsAre vs ns:=by
 intro ns
 induction ns with
 | nil=>
  intro vs w;rw [ah9]at w;cases w;exact .nil
 | cons n ns ih=>
  intro vs w;rw [ad1]at w
  cases w with
  | cons a b=>
   cases a;exact .cons _ _ (ih _ b)
theorem script_of{l:OpenLaw}{n:Nat}(hn:l.most=some n){P:Params}{h:Heap}{args:List WData}{vals:List Value}
  (hpre:l.row.toRowW.claim.pre args=true) (hwl:WellAll P h vals args) :
  ∃a vs ns,vals=[Value.ref a]∧args=[WData.list (ns.map WData.int)]∧h.get? a=some { cls:=.type "list",data:=.seq vs.toArray }∧IntsAre vs ns∧ns.length≤n:=by
 have hsh:WShape.hasAll [] args [.list .int]=true:=(pre_splitW hpre).1;have hc:l.pre.holds [] { args:=args }=true:=(pre_splitW hpre).2;obtain⟨d,r,rfl,h1,h2⟩:=hasAllW_cons hsh;obtain rfl:=hasAllW_nil h2;obtain⟨xs,rfl,h3⟩:=hasW_list h1;obtain⟨ns,rfl⟩:=items_int h3
 have hlen:ns.length≤n:=by
  unfold OpenLaw.pre at hc
  have h4:(WTm.not (.lt (.lit (.int (n:Int))) (.len (.arg 0)))).holds [] { args:=[.list (ns.map .int)] }=true:=by
   have h4:=(holds_andW hc).1;rw [hn]at h4;exact h4
  have h5:=condW_of h4 (w_not (w_lt w_lit (w_len_list (w_arg rfl))));rw [aa0]at h5;refine aj3 fun q=>?_
  have q':(n:Int) < ((ns.length:Nat):Int):=by omega
  first
   | (rw [decide_eq_true q']at h5;exact absurd h5 (by decide))
   | (simp at h5;omega)
 cases hwl with
 | cons w1 w2=>
  cases w2
  cases w1 with
  | list ho hall=>exact⟨_,_,ns,rfl,rfl,ho,jb ns _ hall,hlen⟩
theorem post_true(l:OpenLaw)(args:List WData):l.row.toRowW.claim.post args (.bool true) args=true:=
 postW_of (r:=l.row.toRowW) (X:=(true == true))
  (show WShape.has [] (.bool true) .bool=true by first | rfl | decide | simp [WShape.has,WShape.arms,WShape.armsAll])
  (show(WTm.eq .res (.lit (.bool true))).value [] { args:=args,res:=some (.bool true),after:=args }=some (.bool (true == true))from w_eq_bool (w_res rfl) w_lit) rfl
theorem attach_call{l:OpenLaw}{n:Nat}{q:Program}{loose:List Str}{XP:(Str→Option Value)→Heap→Prop}{YP:World→Heap→Prop}{d:DefRec}
  (hn:l.most=some n) (hdf:d.params.defaults=[])
  (call:∀(w:World) (s₀ s₁:Shared) (mg mb:Str→Option Value) (fa:Addr) (o:Obj) (pm cd doc:Value) (a:Addr) (vs:List Value) (ns:List Int),
   Ground q loose [] XP w s₀ mg mb s₁.heap→YP w s₁.heap→
   s₁.heap.get? fa=some o→o.data=.func (docDef d.name d.params d.body d.scope pm cd doc)→s₁.heap.CodeRec cd d.name→mg d.name=some (.ref fa)→
   s₁.heap.get? a=some { cls:=.type "list",data:=.seq vs.toArray }→IntsAre vs ns→ns.length≤n→s₁.gens=#[]→
   codeAny (model l.prog w) callerA (.call (.ref fa) ⟨[.ref a],[]⟩) (fun r s'=>r=.ok (.ret (.bool true))∧OldK s₁.heap s'.heap∧s'.os=s₁.os∧AllBare s'.gens) s₁) :
  WalkO q loose XP YP l.row.toRowW d [] (fun f vs=>PySem.call f vs):=by
 intro w s₀ s₁ mg mb G Y fa o pm cd doc dV kV ho hd hcd hD hmg hg args vals as hpre hlay hrd hwl hlo;obtain rfl:dV=.none:=Dflts.none hD hdf;obtain rfl:kV=.none:=Dflts.noKw hD;obtain⟨a,vs,ns,rfl,rfl,hobj,hints,hlen⟩:=script_of hn hpre hwl;refine enter_call (codeAny_mono (call w s₀ s₁ mg mb fa o pm cd doc a vs ns G Y ho (fd_plain hd) hcd hmg hobj hints hlen hg) fun r s' hq=>?_);obtain⟨rfl,h2,h3,h4⟩:=hq;exact⟨.inl ⟨.bool true,.bool true,[],rfl,fun _=>rfl,.bool true,post_true l _,fun _=>⟨List.Pairwise.nil,fun _ hm=>(nomatch hm)⟩⟩,h2,h3,h4⟩
section
variable {prog:Program} {w:World} {A:Around} {E:Value→Shared→Prop} {s:Shared} {K:Frag}
end
end Att
namespace L2
open PySem PySem.Spec PyProof.Rows
theorem mi:∀{vs:List Value} {ns:List Int},IntsAre vs ns→aH (ns.map V.int) vs
 | _,_,.nil=>.nil
 | _,_,.cons n t h=>.cons ⟨t,rfl⟩ (mi h)
def yd(H:Hp):Prop:=∀b,H b=none∨∃o xs,H b=some (.frz o (.lst xs))
theorem oZ{P:Program}{w:World}{K:Frag}{mg mb:Str→Option Value}{CX:qf}{k:Nat}{fa a:Addr}{fd:FuncData}{x:Str}{sp:Sp}{s₁:Shared}{vs:List Value}{ns:List Int}
  (KX:K.In s₁.heap) (hns:s₁.heap.Ns mainGlobals mg) (hb:s₁.heap.Ns builtinsNs mb) (hbb:∀x:Str,x≠"__name__"→mb x=bootBuiltins x) (hlim:s₁.heap.NoLimit) (hg:s₁.gens=#[])
  (ha:s₁.heap.get? a=some { cls:=.type "list",data:=.seq vs.toArray }) (hi:IntsAre vs ns) (hl:ns.length≤sizeLine) (hr:bV k callerA)
  (F:∀base:Heap,K.In base→base.Ns mainGlobals mg→aR P w K mg base CX k fa fd [x] sp) (hbind:∀(s:Shared) (u:Value),BindsTo s fd ⟨[u],[]⟩ [(x,u)])
  (hsp:∀H:Hp,yd H→aI K H a (ns.map V.int)→sp [.ref a] H (fun v _=>v=.bl true) fun _ _ _=>False)
  (hCX:∀H e s',CX [] H s₁ (fun _ _ _=>False) e s'→False) :
  codeAny (model P w) callerA (.call (.ref fa) ⟨[.ref a],[]⟩) (fun r s'=>r=.ok (.ret (.bool true))∧OldK s₁.heap s'.heap∧s'.os=s₁.os∧AllBare s'.gens) s₁:=by
 have rv:=mi hi;have lenV:=hi.length
 have core:∀H:Hp,yd H→aI K H a (ns.map V.int)→gj P w H s₁.heap→(∀b,H b≠none→b=a)→(H a≠none→K.lookup a=none)→
   codeAny (model P w) callerA (.call (.ref fa) ⟨[.ref a],[]⟩) (fun r s'=>r=.ok (.ret (.bool true))∧OldK s₁.heap s'.heap∧s'.os=s₁.os∧AllBare s'.gens) s₁:=by
  intro H hO hS hok hA hK;have base_of:∀{b:Addr} {o:Obj},s₁.heap.get? b=some o→H b=none→(mK s₁.heap H).get? b=some o:=fun e n=>vV e n
  have noA:∀{b:Addr} {o:Obj} {es:Array DictEntry} {ep:Nat},s₁.heap.get? b=some o→o.data=.dict es ep→H b=none:=fun {b o es ep} e d=>by
   cases q:H b with
   | none=>rfl
   | some u=>
    have e':b=a:=hA b (by rw [q];simp);subst e';rw [ha]at e;cases e;have d':Data.seq vs.toArray _=Data.dict es ep:=d;cases d'
  have nsK:∀{b:Addr} {m:Str→Option Value},s₁.heap.Ns b m→(mK s₁.heap H).Ns b m:=fun {b m} ⟨o,es,ep,e,d,r⟩=>⟨o,es,ep,base_of e (noA e d),d,r⟩
  have hKb:K.In (mK s₁.heap H):=fun b o e=>base_of (KX b o e) (by
   cases q:H b with
   | none=>rfl
   | some u=>
    have e':b=a:=hA b (by rw [q];simp);subst e'
    rw [hK (by rw [q];simp)]at e;cases e)
  have hM:Mod K mg (mK s₁.heap H):=⟨hKb,nsK hns,⟨mb,nsK hb,hbb⟩,let ⟨mc,h1,h2⟩:=hlim;⟨mc,nsK h1,h2⟩⟩;have e0:qk P w K mg (mK s₁.heap H) callerA [] s₁ H:=⟨rfl,hM,fun b o e=>yX e,Nat.le_of_eq (ui _ _),trivial,fun b hb=>absurd (show b∈([]:List Addr)from hb) (by simp),hok,.of_eq hg⟩;refine codeAny_mono ((F _ hKb (nsK hns)).run callerA [] s₁ H ⟨[.ref a],[]⟩ [.ref a] [.ref a] _ _ hr e0 (hbind s₁ (.ref a)) (.cons rfl .nil) (hsp H hO hS)) fun r s' h=>?_
  cases r with
  | error e=>exact(hCX H e s' h).elim
  | ok fl=>
   cases fl with
   | next=>exact False.elim h
   | brk=>exact False.elim h
   | cont=>exact False.elim h
   | ret u=>
    obtain⟨v,H',os,bare,un,hok',r',q⟩:=h;have q':v=.bl true:=q;subst q';obtain rfl:u=Value.bool true:=r';refine⟨rfl,OldK.of_keep fun b o e=>?_,os,bare⟩
    cases q:H b with
    | none=>exact un.keep b o e q (by intro z;exact absurd (show b∈([]:List Addr)from z) (by simp)) (by simp)
    | some u=>
     rcases hO b with z | ⟨ob,xs,z⟩
     ·rw [q]at z;cases z
     ·have z2:=un.frzs b ob _ z
      obtain⟨e1,_⟩:=hok b _ z;obtain⟨e2,_⟩:=hok' b _ z2;rw [e]at e1;cases e1;exact e2
 cases hk:K.lookup a with
 | some o=>
  have e:=KX a o hk;rw [ha]at e;cases e;refine core (fun _=>none) (fun _=>.inl rfl) (.inr ⟨_,vs.toArray,_,hk,rfl,rfl,rfl,by rw [aa7,lenV];exact hl,by simpa using rv⟩) (fun b u z=>by have z':(none:Option HO)=some u:=z;cases z') (fun b z=>absurd rfl z) fun z=>absurd rfl z
 | none=>
  refine core (fun b=>if b=a then some (.frz { cls:=.type "list",data:=.seq vs.toArray } (.lst (ns.map V.int)))else none) (fun b=>?_) (.inl (.inr ⟨{ cls:=.type "list",data:=.seq vs.toArray },if_pos rfl⟩)) (fun b u z=>?_) (fun b z=>?_) fun _=>hk
  ·by_cases hb:b=a
   ·exact .inr ⟨_,_,if_pos hb⟩
   ·exact .inl (if_neg hb)
  ·by_cases hb:b=a
   ·have z':=(if_pos hb).symm.trans z
    cases z';subst hb;exact⟨ha,by rw [aa0];exact hl,vs,_,rv,ha⟩
   ·have z':=(if_neg hb).symm.trans z
    cases z'
  ·by_cases hb:b=a
   ·exact hb
   ·exact absurd (if_neg hb) z
end L2
namespace L2
open PySem PySem.Spec PyProof.Rows
abbrev KOf{K:Frag}{h:Heap}(_:K.In h):Frag:=K
theorem walk_of{l:PySem.W.OpenLaw}{n k:Nat}{q:Program}{loose:List Str}{XP:(Str→Option Value)→Heap→Prop}{YP:World→Heap→Prop}{d:DefRec}{K:Params→Frag}{CX:World→qf}{sp:World→Sp}{x:Str}
  (hn:l.most=some n) (hn2:n≤sizeLine) (hdf:d.params.defaults=[]) (hr:bV k callerA)
  (hY:∀(w:World) (h:Heap),YP w h→(K w.params).In h)
  (F:∀(w:World) (mg:Str→Option Value) (fa:Addr) (h:Heap),(K w.params).In h→h.Ns mainGlobals mg→mg d.name=some (.ref fa)→
   ∃fd:FuncData,(∀(s:Shared) (u:Value),BindsTo s fd ⟨[u],[]⟩ [(x,u)])∧
    ∀base:Heap,(K w.params).In base→base.Ns mainGlobals mg→aR l.prog w (K w.params) mg base (CX w) k fa fd [x] (sp w))
  (hsp:∀(w:World) (H:Hp) (a:Addr) (ns:List Int),ns.length≤n→yd H→aI (K w.params) H a (ns.map V.int)→sp w [.ref a] H (fun v _=>v=.bl true) fun _ _ _=>False)
  (hCX:∀(w:World) (H:Hp) (s:Shared) (e:Value) (s':Shared),CX w [] H s (fun _ _ _=>False) e s'→False) :
  PySem.W.WalkO q loose XP YP l.row.toRowW d [] (fun f vs=>PySem.call f vs):=by
 refine Att.attach_call hn hdf fun w s₀ s₁ mg mb fa o pm cd doc a vs ns G Y ho hd hcd hmg hobj hints hlen hg=>?_;have KX:=hY w _ Y;obtain⟨fd,hb,hF⟩:=F w mg fa _ KX G.T.g hmg;exact oZ KX G.T.g G.T.b G.T.builtins G.T.nolimit hg hobj hints (ac0 hlen hn2) hr hF hb (fun H hO hS=>hsp w H a ns hlen hO hS) fun H e s'=>hCX w H s₁ e s'
end L2
namespace L2
open PySem PySem.Spec PyProof.Rows
def dw(s:Stmt)(j:Nat):Stmt:=match s with
 | .ClassDef _ _ _ body _ _ _ _ _ _ _=>body.getD j (.Pass ⟨0,0,0,0⟩)
 | _=>.Pass ⟨0,0,0,0⟩
def cC(s:Stmt):Arguments:=match s with
 | .FunctionDef _ a _ _ _ _ _ _ _ _=>a
 | _=>{ posonlyargs:=[],args:=[],vararg:=none,kwonlyargs:=[],kw_defaults:=[],kwarg:=none,defaults:=[] }
def bX(s:Stmt):List Stmt:=match s with
 | .FunctionDef _ _ b _ _ _ _ _ _ _=>b
 | _=>[]
def av(s:Stmt):Scope:=match s with
 | .FunctionDef _ _ _ _ _ _ sc _ _ _=>sc
 | _=>{ kind:=.function,names:=[],isGenerator:=false,isCoroutine:=false }
abbrev cO:qf:=fun _ _ _ _ _ _=>False
abbrev E0:XK:=fun _ _ _=>False
theorem pE{X:Cx}:jr cO X E0:=fun _ _ _ _ _ _ _ h=>h.elim
structure cY(K:Frag)(x qual:Str)(st:Stmt)(f:Addr)(fd:FuncData):Prop where
 ex:∃(oc:Value) (od:Option Addr) (kV doc pm:Value) (an:Option Addr) (cdv ct:Value) (osl:Array (Option Value)),
  fd=fnOf x qual (cC st) (bX st) (av st) .none kV doc pm an cdv ct∧K.lookup f=some ⟨oc,od,.func fd,osl⟩∧codeIn K cdv qual=true
 kp:keepIn K (.ref f)=true
section
variable {P:Program} {w:World} {K:Frag} {mg:Str→Option Value} {base:Heap}
theorem cY.ok{x qual:Str}{st:Stmt}{f:Addr}{fd:FuncData}{N ps:List Str}{k:Nat}{sp:Sp}(F:cY K x qual st f fd)(S:aB N ps (av st))(len:∀vs H Q E,sp vs H Q E→vs.length=ps.length)
  (hbody:∀(cdv:Value) (A:Around) (outer:List Env) (s:Shared) (H:Hp) (vs:List V) (Q:VK) (E:XK),bV k (A.deeper (envOfC qual (av st) s.heap.objs.size f cdv))→sp vs H Q E→
   ∃t,rY (jA cO P w K mg base N qual (av st) f cdv A outer s H E).nox (bX st) t∧t { nx:=fun _ H'=>Q .non H',rt:=Q } (start N vs) H):aR P w K mg base cO (k+1) f fd ps sp:=by
 obtain⟨oc,od,kV,doc,pm,an,cdv,ct,osl,rfl,lk,hcd⟩:=F.ex;refine Ab lk hcd S len fun A outer s H vs Q E hr hsp=>?_;obtain⟨t,h,q⟩:=hbody cdv A outer s H vs Q E hr hsp;exact⟨t,h.nox,q⟩
theorem cY.binds{x qual:Str}{st:Stmt}{f:Addr}{fd:FuncData}{ps:List Str}(F:cY K x qual st f fd)
  (h:∀(kV doc pm:Value) (an:Option Addr) (cdv ct:Value) (us:List Value),us.length=ps.length→bindArgs (fnOf x qual (cC st) (bX st) (av st) .none kV doc pm an cdv ct) ⟨us,[]⟩=pure (ps.zip us)):cu K fd ps []:=by
 obtain⟨oc,od,kV,doc,pm,an,cdv,ct,osl,rfl,lk,hcd⟩:=F.ex;exact .all (h kV doc pm an cdv ct)
theorem jG{x qual:Str}{st:Stmt}{f:Addr}{oc:Value}{od an:Option Addr}{osl:Array (Option Value)}{kV doc pm cdv ct:Value}(l:K.lookup f=some ⟨oc,od,.func (fnOf x qual (cC st) (bX st) (av st) .none kV doc pm an cdv ct),osl⟩)
  (c:codeIn K cdv qual=true) (k:keepIn K (.ref f)=true):cY K x qual st f (fnOf x qual (cC st) (bX st) (av st) .none kV doc pm an cdv ct):=⟨⟨oc,od,kV,doc,pm,an,cdv,ct,osl,rfl,l,c⟩,k⟩
end
section
variable {X:Cx}
end
def au(H H':Hp):Prop:=∀b o,H b=some o→H' b=some o
theorem au.refl(H:Hp):au H H:=fun _ _ h=>h
theorem au.trans{H H1 H2:Hp}(a:au H H1)(b:au H1 H2):au H H2:=fun c o h=>b c o (a c o h)
theorem au.free{H H':Hp}(e:au H H'){l:Addr}(h:H' l=Option.none):H l=Option.none:=by
 cases q:H l with
 | none=>rfl
 | some o=>
  rw [e l o q]at h;cases h
theorem au.seq{K:Frag}{H H':Hp}{a:Addr}{xs:List V}(e:au H H')(h:aI K H a xs):aI K H' a xs:=by
 rcases h with(h | ⟨o,h⟩) | h
 ·exact .inl (.inl (e _ _ h))
 ·exact .inl (.inr ⟨o,e _ _ h⟩)
 ·exact .inr h
end L2
namespace GM
end GM
set_option maxHeartbeats 4000000
namespace L2
open PySem PySem.Spec PyProof.Rows
def ff(cells:List (Str×Addr)):List (Str×NameKind)→List (Str×Addr)→List (Str×Addr)
 | [],cs=>cs
 | (n,k)::r,cs=>ff cells r (if k == .free then(n,(cells.lookup n).getD 0)::cs else cs)
theorem gp{scope:Scope}{env:Env}(h:∀y∈scope.names,y.2=.free→∃c,env.cells.lookup y.1=some c):closureFor scope env=pure (ff env.cells scope.names []):=by
 simp only [closureFor];generalize scope.names=l at h ⊢
 have key:∀(l:List (Str×NameKind)) (cs:List (Str×Addr)),(∀y∈l,y.2=.free→∃c,env.cells.lookup y.1=some c)→
   (forIn l cs (fun(x:Str×NameKind) (r:List (Str×Addr))=>(if (x.snd == NameKind.free)=true then(do let a ←cellOf env x.fst;pure (ForInStep.yield ((x.fst,a)::r)))else pure (ForInStep.yield r):Sem (ForInStep (List (Str×Addr))))):Sem (List (Str×Addr)))=pure (ff env.cells l cs):=by
  intro l
  induction l with
  | nil=>intro cs _;rfl
  | cons x r ih=>
   intro cs h;obtain⟨n,k⟩:=x;have hr:∀y∈r,y.2=.free→∃c,env.cells.lookup y.1=some c:=fun y hy=>h y (ad6 _ hy);rw [af5]
   by_cases hk:k=.free
   ·subst hk
    obtain⟨c,hc⟩:=h (n,.free) ad4 rfl
    have e:cellOf env n=pure c:=by unfold cellOf;rw [show env.cells.lookup n=some c from hc]
    simp only [beq_self_eq_true,if_true,e];show(forIn r ((n,c)::cs) _:Sem _)=_;rw [ih _ hr];simp only [ff,beq_self_eq_true,if_true];rw [show env.cells.lookup n=some c from hc];rfl
   ·have hb:(k == NameKind.free)=false:=by simpa using hk
    simp only [hb,ac7,if_false];show(forIn r cs _:Sem _)=_;rw [ih _ hr];simp only [ff,hb,ac7,if_false]
 rw [key l [] h];rfl
theorem lF{cells:List (Str×Addr)}:∀{l:List (Str×NameKind)} {cs:List (Str×Addr)} {x:Str} {c:Addr},(∀y∈l,y.2=.free→∃c,cells.lookup y.1=some c)→
  (∀x c,cs.lookup x=some c→cells.lookup x=some c)→(ff cells l cs).lookup x=some c→cells.lookup x=some c
 | [],_,_,_,_,hs,e=>hs _ _ e
 | (n,k)::r,cs,x,c,h,hs,e=>by
  refine lF (l:=r) (fun y hy=>h y (ad6 _ hy)) ?_ e;intro z d
  by_cases hk:k=.free
  ·subst hk
   obtain⟨c',hc'⟩:=h (n,.free) ad4 rfl;have hc'':cells.lookup n=some c':=hc';simp only [beq_self_eq_true,if_true,af3,hc'',Option.getD_some]
   cases hz:z == n with
   | true=>
    have:z=n:=by simpa using hz
    subst this;intro q;cases q;exact hc''
   | false=>exact hs z d
  ·have hb:(k == NameKind.free)=false:=by simpa using hk
   simp only [hb,ac7,if_false];exact hs z d
theorem iE{cells:List (Str×Addr)}:∀{l:List (Str×NameKind)} {cs:List (Str×Addr)} {x:Str},((x,NameKind.free)∈l∨∃c,cs.lookup x=some c)→∃c,(ff cells l cs).lookup x=some c
 | [],_,_,h=>by
  rcases h with h | h
  ·cases h
  ·exact h
 | (n,k)::r,cs,x,h=>by
  refine iE (l:=r) ?_;rcases h with h | ⟨c,h⟩
  ·rcases ab6.mp h with e | h
   ·cases e
    refine .inr ⟨(cells.lookup n).getD 0,?_⟩;simp only [beq_self_eq_true,if_true,af3]
   ·exact .inl h
  ·by_cases hk:k=.free
   ·subst hk
    simp only [beq_self_eq_true,if_true,af3]
    cases hz:x == n with
    | true=>exact .inr ⟨_,rfl⟩
    | false=>exact .inr ⟨c,h⟩
   ·have hb:(k == NameKind.free)=false:=by simpa using hk
    simp only [hb,ac7,if_false];exact .inr ⟨c,h⟩
theorem dJ{env:Env}:∀{names:List (Str×NameKind)} {x:Str},
  (names.map fun(n,k)=>if (k == NameKind.free && env.scope.kind == .function && env.kindOf n == some .cell)then(n,NameKind.cell)else(n,k)).lookup x =
   (names.lookup x).map fun k=>if (k == NameKind.free && env.scope.kind == .function && env.kindOf x == some .cell)then NameKind.cell else k
 | [],_=>rfl
 | (n,k)::r,x=>by
  have ih:=@dJ env r x;show List.lookup x ((if (k == NameKind.free && env.scope.kind == .function && env.kindOf n == some .cell)=true then(n,NameKind.cell)else(n,k))::_)=_
  cases hx:x == n with
  | true=>
   have e:x=n:=by simpa using hx
   subst e
   by_cases hc:(k == NameKind.free && env.scope.kind == .function && env.kindOf x == some .cell)=true
   ·rw [if_pos hc];simp only [af3,hx,ak1];rw [if_pos hc]
   ·rw [if_neg hc];simp only [af3,hx,ak1];rw [if_neg hc]
  | false=>
   by_cases hc:(k == NameKind.free && env.scope.kind == .function && env.kindOf n == some .cell)=true
   ·rw [if_pos hc];simp only [af3,hx];exact ih
   ·rw [if_neg hc];simp only [af3,hx];exact ih
theorem mem_of_lookup{κ ν:Type}[BEq κ][LawfulBEq κ]:∀{l:List (κ×ν)} {x:κ} {v:ν},l.lookup x=some v→(x,v)∈l
 | [],_,_,h=>by cases h
 | (n,k)::r,x,v,h=>by
  rw [af3]at h
  cases hx:x == n with
  | true=>
   rw [hx]at h
   have e:x=n:=by simpa using hx
   cases h;rw [e];exact ad4
  | false=>
   rw [hx]at h;exact ad6 _ (mem_of_lookup h)
structure aW(X:Cx)(scope:Scope)(js:List Nat):Prop where
 kind:scope.kind=.function
 cell:∀y∈scope.names,y.2≠.cell
 names:∀y∈scope.names,y.2=.local→scope.names.lookup y.1=some .local
 free:∀y∈scope.names,y.2=.free→X.env.kindOf y.1=some .cell∨X.env.kindOf y.1=some .free
 js:∀j∈js,scope.names.lookup (X.N.getD j "")=some .free
def se(out:Scope)(N:List Str)(scope:Scope)(js:List Nat):Bool:=
 (scope.kind == .function) && scope.names.all (fun y=>y.2 != .cell) && scope.names.all (fun y=>y.2 != .local || scope.names.lookup y.1 == some .local) &&
  scope.names.all (fun y=>y.2 != .free || (out.names.lookup y.1 == some .cell || out.names.lookup y.1 == some .free)) && js.all fun j=>scope.names.lookup (N.getD j "") == some .free
theorem aW.of{X:Cx}{scope:Scope}{js:List Nat}(h:se X.env.scope X.N scope js=true):aW X scope js:=by
 simp only [se,ag3,aj4]at h;obtain⟨⟨⟨⟨h1,h2⟩,h3⟩,h4⟩,h5⟩:=h;refine⟨by simpa using h1,fun y hy=>by simpa using h2 y hy,fun y hy e=>?_,fun y hy e=>?_,fun j hj=>by simpa using h5 j hj⟩
 ·have:=h3 y hy
  rw [e]at this;simpa using this
 ·have:=h4 y hy
  rw [e]at this;simpa [Env.kindOf]using this
def kL(X:Cx)(scope:Scope)(own:List Str)(js:List Nat)(C:Addr)(s:Shared)(H:Hp)(ex:List Addr)(pn:List (Addr×Obj))(E:Value→Shared→Prop):Cx where
 prog:=X.prog
 w:=X.w
 K:=X.K
 mg:=X.mg
 base:=X.base
 A:=X.A
 N:=own++js.map fun j=>X.N.getD j ""
 s₀:=s
 H₀:=H
 env:=compEnvC scope (ff X.env.cells scope.names []) C X.env
 outer:=X.stack
 stack:=X.stack
 ex:=ex
 fn:=fun _=>false
 calm:=X.calm
 pn:=pn
 xe:=E
def cσ(n:Nat)(js:List Nat)(σ:St):St:=List.replicate n none++js.map fun j=>σ.getD j none
section
variable {X:Cx} {pins:List (Addr×Obj)} {σ:St} {H H':Hp} {s:Shared} {scope:Scope} {own:List Str} {js:List Nat} {C:Addr} {fp:List Addr} {E:Value→Shared→Prop}
theorem aW.clos(ok:aW X scope js)(I:az X pins σ H s):∀y∈scope.names,y.2=.free→∃c,X.env.cells.lookup y.1=some c:=fun y hy e=>I.ok.has y.1 (ok.free y hy e)
theorem aW.sub(ok:aW X scope js)(I:az X pins σ H s){x:Str}{c:Addr}(e:(ff X.env.cells scope.names []).lookup x=some c):X.env.cells.lookup x=some c:=
 lF (ok.clos I) (fun _ _ z=>by cases z) e
theorem aW.kindOf(ok:aW X scope js){cl:List (Str×Addr)}{x:Str}(h:(compEnvC scope cl C X.env).kindOf x=some .cell∨(compEnvC scope cl C X.env).kindOf x=some .free):(x,NameKind.free)∈scope.names:=by
 have e:(compEnvC scope cl C X.env).kindOf x=(scope.names.lookup x).map fun k=>if (k == NameKind.free && X.env.scope.kind == .function && X.env.kindOf x == some .cell)then NameKind.cell else k:=dJ;rw [e]at h
 cases q:scope.names.lookup x with
 | none=>rw [q]at h;simp at h
 | some k=>
  have hm:=mem_of_lookup q
  by_cases hk:k=.free
  ·subst hk;exact hm
  ·have hb:(k == NameKind.free)=false:=by simpa using hk
   rw [q]at h;simp only [ak1,hb,Bool.false_and,ac7,if_false]at h;rcases h with h | h
   ·exact absurd (Option.some.inj h) (ok.cell _ hm)
   ·exact absurd (Option.some.inj h) hk
theorem aW.isFree(ok:aW X scope js){cl:List (Str×Addr)}{x:Str}(h:scope.names.lookup x=some .free):(compEnvC scope cl C X.env).kindOf x=some .cell∨(compEnvC scope cl C X.env).kindOf x=some .free:=by
 have e:(compEnvC scope cl C X.env).kindOf x=(scope.names.lookup x).map fun k=>if (k == NameKind.free && X.env.scope.kind == .function && X.env.kindOf x == some .cell)then NameKind.cell else k:=dJ;rw [e,h];simp only [ak1]
 split
 ·exact .inl rfl
 ·exact .inr rfl
theorem yo(ok:aW X scope js)(I:az X pins σ H s)(hC:s.heap.objs.size≤C)(f:∀b∈fp,iz X pins H b)(fo:∀b∈fp,∃o,s.heap.get? b=some o):(kL X scope own js C s H fp (X.pn++pins) E).Ok where
 mod:=I.ok.mod
 kind:=ok.kind
 glob:=I.ok.glob
 blt:=I.ok.blt
 above:=hC
 inj:=fun x y c e1 e2=>I.ok.inj x y c (ok.sub I e1) (ok.sub I e2)
 has:=fun x h=>iE (.inl (ok.kindOf h))
 cab:=fun x c h=>nomatch (show false=true from h)
 hd:=I.ok.hd
 frames:=I.ok.frames
 stk:=.inl rfl
 exf:=fun b hb=>by
  obtain⟨o,e⟩:=fo b hb;obtain⟨_,_,_,_,f4,_⟩:=f b hb;exact⟨ab1 (ab2 (aa5 e) hC),fun x c q=>f4 x c (ok.sub I q)⟩
 bs:=I.bs
 bsz:=ac0 I.ok.bsz I.sz
 noex:=fun b o e hb=>by
  obtain⟨_,_,_,f3,_,_⟩:=f b hb;rcases f3 with z | z
  ·exact I.ok.noex b o e z
  ·exact absurd (ab2 (aa5 e) (ac0 I.ok.bsz z)) (af2 _)
 exfs:=fun b hb hs=>by
  obtain⟨_,f1,f2,_,_,_⟩:=f b hb;rcases ab6.mp (I.stkSub b hs)with e | e
  ·exact f1 e
  ·exact f2 e
 funs:=I.stack
 frf:=I.stkFree
theorem v7{s':Shared}{pins':List (Addr×Obj)}{m:Str→Option Value}(ok:aW X scope js)(I:az X pins σ H s)(hC:s.heap.objs.size≤C)(f:∀b∈fp,iz X pins H b)(fo:∀b∈fp,∃o,s.heap.get? b=some o)
  (hos:s'.os=s.os) (hg:AllBare s'.gens) (u:Un (kF X.stack) fp H H' s.heap s'.heap) (hn:s'.heap.Ns C m) (hok:gj X.prog X.w H' s'.heap) (hCf:H' C=none)
  (hp:∀p∈pins',s'.heap.get? p.1=some p.2∧H' p.1=none∧p.1≠C∧p.1∉kF X.stack∧∀v,p.2.data≠.cell v) :
  az (kL X scope own js C s H fp (X.pn++pins) E) pins' (cσ own.length js σ) H' s':=by
 have Ok:=yo (own:=own) (E:=E) ok I hC f fo
 have cellAt:∀x c,X.env.cells.lookup x=some c→∀v,s.heap.IsCell c v→s'.heap.IsCell c v:=fun x c e v ⟨o,ho,hd⟩=>by
  have nx:c∉fp:=fun z=>by
   obtain⟨_,_,_,_,f4,_⟩:=f c z;exact f4 x c e rfl
  obtain⟨sl,q⟩:=u.any ho (I.freeC x c e) nx;exact⟨_,q,hd⟩
 refine⟨Ok,hos,hg,u,⟨m,hn,?_⟩,?_,hCf,?_,?_,hok,?_⟩
 ·intro i x v e1 e2 _
  have e1':(own++js.map fun j=>X.N.getD j "")[i]?=some x:=e1;have e2':(List.replicate own.length none++js.map fun j=>σ.getD j none)[i]?=some (some v):=e2
  by_cases hi:i < own.length
  ·rw [ab5 (by simpa using hi),List.getElem?_replicate]at e2'
   split at e2'<;>cases e2'
  ·rw [ab8 (by omega),aa4]at e1'
   rw [ab8 (by simpa using am4.mp hi),aa4,af8]at e2'
   cases hj:js[i - own.length]? with
   | none=>rw [hj]at e1';cases e1'
   | some j=>
    rw [hj]at e1' e2';have ex:X.N.getD j ""=x:=Option.some.inj e1';have ev:σ.getD j none=some v:=Option.some.inj e2';have hjm:j∈js:=aa9 hj
    have hjl:j < σ.length:=by
     apply Classical.byContradiction;intro h;rw [ac8,ae5 (am4.mp h)]at ev;cases ev
    have hσ:σ[j]?=some (some v):=by
     rw [ac8,aa2 hjl]at ev;rw [aa2 hjl];exact congrArg some ev
    have hNl:j < X.N.length:=by rw [←I.len];exact hjl
    have hN:X.N[j]?=some x:=by
     rw [ac8,aa2 hNl]at ex;rw [aa2 hNl];exact congrArg some ex
    have hfr:scope.names.lookup x=some .free:=by rw [←ex];exact ok.js j hjm
    have hk:=ok.free _ (mem_of_lookup hfr) rfl;obtain⟨m0,_,hl⟩:=I.loc;obtain⟨w',r,l⟩:=hl j x v hN hσ (.inr hk);refine⟨w',r,?_⟩;rcases l with⟨hk',_⟩ | ⟨_,c,hc,hz⟩
    ·have hk'':X.env.kindOf x=some .local:=hk'
     rcases hk with q | q
     ·exact absurd (hk''.symm.trans q) (by intro z;cases z)
     ·exact absurd (hk''.symm.trans q) (by intro z;cases z)
    ·obtain⟨c',hc'⟩:∃c',(ff X.env.cells scope.names []).lookup x=some c':=iE (.inl (mem_of_lookup hfr))
     have e:=ok.sub I hc';rw [hc]at e;cases e;exact .inr ⟨ok.isFree hfr,c,hc',cellAt x c hc _ hz⟩
 ·intro x c e
  obtain⟨v,z⟩:=I.cell x c (ok.sub I e);exact⟨v,cellAt x c (ok.sub I e) v z⟩
 ·intro x c e
  obtain⟨v,o,ho,_⟩:=I.cell x c (ok.sub I e);refine u.free c o ho (I.freeC x c (ok.sub I e)) fun z=>?_;obtain⟨_,_,_,_,f4,_⟩:=f c z;exact f4 x c (ok.sub I e) rfl
 ·intro p hpm
  rcases ad7.mp hpm with h | h
  ·have h':p∈X.pn++pins:=h
   obtain⟨e,n,ne,nf,d⟩:=I.pin p h'
   have nfr:p.1∉kF X.stack:=fun z=>by
    rcases ab6.mp (I.stkSub _ z)with q | q
    ·exact ne q
    ·exact nf q
   have nex:p.1∉fp:=fun z=>by
    obtain⟨_,_,_,_,_,f5⟩:=f p.1 z;exact f5 p h' rfl
   exact⟨u.keep p.1 p.2 e n nfr nex,u.free p.1 p.2 e n nex,ab1 (ab2 (aa5 e) hC),nfr,d⟩
  ·exact hp p h
 ·show(List.replicate own.length none++js.map fun j=>σ.getD j none).length=(own++js.map fun j=>X.N.getD j "").length
  simp
theorem az.track{D:Addr}{ys:List V}{its:List Value}{n:Nat}(I:az X pins σ H s)(hn:H D=none)(ho:s.heap.get? D=some { cls:=.type "list",data:=.seq its.toArray n })(r:aH ys its)(hz:ys.length≤sizeLine)
  (h1:D∈X.ex∨X.s₀.heap.objs.size≤D) (hL:D≠X.env.locals) (h2:∀x c,X.env.cells.lookup x=some c→c≠D) (h3:∀p∈X.pn++pins,p.1≠D):az X pins σ (upd H D (.lst ys)) s:=by
 have ne:∀b o,H b=some o→b≠D:=fun b o e=>aq e hn
 refine I.step (h':=s.heap) (g':=s.gens) (d':=s.drawn) (t':=s.toks) (ch:=[D]) (fun b hb=>?_) (fun b o _ _ _ e _=>e) (fun b o _ _ _ e _=>⟨o.slots,e⟩) (fun b o hc _ n=>?_)
  (fun b o _ e=>⟨o,e⟩) (fun b xs e=>?_) (fun b o u e=>?_) (fun b ps e=>⟨#[],?_⟩) (fun _ z=>z) (fun b u e=>?_) I.bare
 ·have e:b=D:=by simpa using hb
  subst e;exact⟨h1,hL,h2,h3⟩
 ·rw [ai (fun z=>hc (by simp [z]))];exact n
 ·rw [ai (ne _ _ e)];exact e
 ·rw [ai (ne _ _ e)];exact e
 ·rw [ai (ne _ _ e),e];simp
 ·by_cases hb:b=D
  ·subst hb
   rw [ag]at e;cases e;exact⟨hz,its,n,r,ho⟩
  ·rw [ai hb]at e
   exact(I.hok b u e).stay (fun c v _ q=>q) (fun c q=>by rw [ai (ne _ _ q)];exact q) fun c xs q=>by rw [ai (ne _ _ q)];exact q
end
structure BS(X:Cx)(pins:List (Addr×Obj))(C:Addr):Prop where
 ne:C≠X.env.locals
 old:C∈X.ex∨X.s₀.heap.objs.size≤C
 cells:∀x c,X.env.cells.lookup x=some c→c≠C
 pin:∀p∈X.pn++pins,p.1≠C
theorem BS.go{X:Cx}{pins:List (Addr×Obj)}{C:Addr}{σ:St}{H:Hp}{s:Shared}{h':Heap}(o:BS X pins C)(I:az X pins σ H s)(hn:H C=none)(sb:Heap.SameBut C s.heap h'):az X pins σ H { s with heap:=h' }:=
 I.turned (t':=s.toks) (fun b q hb e=>(sb.2 b hb).trans e) hn o.ne o.old o.cells o.pin
section
variable {prog:Program} {w:World} {A:Around} {R:Result→Shared→Prop} {s:Shared}
theorem oB{elt target iter:Expr}{ifs:List Expr}{scope:Scope}{pos:Pos}{it acc:Value}{env:Env}(I:Nat→Shared→Prop)
  (turn:∀n s,I n s→wpAny (model prog w) A (pyNext it) (fun r s₁=>match r with
   | none=>R (.ok .next) s₁
   | some v=>wpAny (model prog w) A (letOwnedTupleGo target it v) (fun _ s₁'=>wpAny (model prog w) A (assign target env v) (fun _ s₂=>
     wpAny (model prog w) A (forIn ifs true fun c r=>if r=true then do let ok ←isTrue c env (eval c env);pure (ForInStep.yield ok)else pure (ForInStep.yield r)) (fun ok s₃=>
      if ok=true then wpAny (model prog w) A (eval elt env) (fun x s₄=>
       wpAny (model prog w) A (call (.builtin "list.append") [acc,x]) (fun _ s₅=>∃m,m < n∧I m s₅) (notedBy (model prog w) A env fun e s'=>R (.error e) s') s₄) (notedBy (model prog w) A env fun e s'=>R (.error e) s') s₃
      else ∃m,m < n∧I m s₃) (notedBy (model prog w) A env fun e s'=>R (.error e) s') s₂) (notedBy (model prog w) A env fun e s'=>R (.error e) s') s₁') (notedBy (model prog w) A env fun e s'=>R (.error e) s') s₁)
    (notedBy (model prog w) A env fun e s'=>R (.error e) s') s)
  (n:Nat) (h:I n s) :
  codeAny (model prog w) A (.compLoop (.ListComp elt [⟨target,iter,ifs,0⟩] scope pos) 0 it acc env) R s:=by
 refine codeAny_loop rfl I (fun n s hI=>?_) n h;show wpAny _ A ((compTurn (.ListComp elt [⟨target,iter,ifs,0⟩] scope pos) 0 it acc env).onRaise (fun x=>do noteFrame x env;theTreesLotGoes x)) _ _ s;refine wpAny_noted ?_;rw [compTurn_list];refine wpAny_bind (wpAny_standAt (wpAny_bind (wpAny_mono (turn n s hI) (fun r s₁ h₁=>?_) fun _ _ h'=>h')))
 cases r with
 | none=>exact wpAny_pure h₁
 | some v=>
  refine wpAny_bind (wpAny_mono h₁ (fun _ s₁' h₁'=>?_) fun _ _ h'=>h');refine wpAny_bind (wpAny_mono h₁' (fun _ s₂ h₂=>wpAny_bind (wpAny_mono h₂ (fun ok s₃ h₃=>?_) fun _ _ h'=>h')) fun _ _ h'=>h')
  cases ok with
  | false=>exact wpAny_pure ⟨rfl,h₃⟩
  | true=>
   exact wpAny_bind (wpAny_bind (wpAny_mono h₃ (fun x s₄ h₄=>wpAny_bind (wpAny_mono h₄ (fun _ s₅ h₅=>wpAny_pure (wpAny_pure ⟨rfl,h₅⟩)) fun _ _ h'=>h')) fun _ _ h'=>h'))
end
def B9(X:Cx)(ifs:List Expr)(t:TT):Prop:=
 ∀(pins:List (Addr×Obj)) (s:Shared) (σ:St) (H:Hp) (Q:Bool→Hp→Prop),az X pins σ H s→t σ H Q→
  wpAny (model X.prog X.w) X.A (forIn ifs true fun c r=>if r=true then do let ok ←isTrue c X.env (eval c X.env);pure (ForInStep.yield ok)else pure (ForInStep.yield r)) (TP X pins σ Q) X.xe s
def Df:TT:=fun _ H Q=>Q true H
theorem bS{X:Cx}:B9 X [] Df:=fun pins s σ H Q I h=>wpAny_tests_nil ⟨H,I,h⟩
theorem nB{X:Cx}{c:Expr}{t:TT}(h:PT X c t):B9 X [c] t:=fun pins s σ H Q I q=>wpAny_tests_one (h pins s σ H Q I q)
def BG(n:Nat)(js:List Nat)(wi:TI)(g:TG)(tt:TT)(te:TE)(σ:St)(H:Hp)(F:List V→Hp→Prop):Prop:=wi σ H fun J H1=>∃W:Nat→Nat→List V→Hp→Prop,(∃m,W 0 m [] H1)∧∀i m ys H,W i m ys H→
 (J.stop i H∧F ys H)∨
 (J.go i H∧ys.length < sizeLine∧∃N:List V→Hp→Prop,(∀ys' H',N ys' H'→∃m',m' < m∧W (i+1) m' ys' H')∧∀x H',J.yld i H x H'→g x (cσ n js σ) H' fun σ2 H2=>tt σ2 H2 fun b H3=>if b=true then te σ2 H3 fun y H4=>N (ys++[y]) H4 else N ys H3)
def xG(n:Nat)(js:List Nat)(wi:TI)(g:TG)(tt:TT)(te:TE):TE:=fun σ H Q=>BG n js wi g tt te σ H fun ys H=>∀p,H p=none→Q (.ref p) (upd H p (.lst ys))
section
variable {X:Cx} {scope:Scope} {own:List Str} {js:List Nat} {tg iter elt:Expr} {ifs:List Expr} {wi:TI} {g:TG} {tt:TT} {te:TE} {pos:Pos}
abbrev k8:Value→Shared→Prop:=fun _ _=>False
theorem jz{pins:List (Addr×Obj)}{σ:St}{H2:Hp}{s2:Shared}{it:Addr}{fp:List Addr}{tn:Nat→Heap→Prop}{J:It}{F:List V→Hp→Prop}{RR:Value→Addr→Result→Shared→Prop}{E:Value→Shared→Prop}
  (hc:X.calm=true) (ok:aW X scope js)
  (hg:∀C s H ex pn,PG (kL X scope own js C s H ex pn k8) tg g) (ht:∀C s H ex pn,B9 (kL X scope own js C s H ex pn k8) ifs tt) (he:∀C s H ex pn,PE (kL X scope own js C s H ex pn k8) elt te)
  (I2:az X pins σ H2 s2) (T:jt X.prog X.w X.K tg J fp it tn) (st2:tn 0 s2.heap) (f2:∀b∈fp,iz X pins H2 b) {W:Nat→Nat→List V→Hp→Prop} {m0:Nat} (w0:W 0 m0 [] H2)
  (turn:∀i m ys H,W i m ys H→(J.stop i H∧F ys H)∨
   (J.go i H∧ys.length < sizeLine∧∃N:List V→Hp→Prop,(∀ys' H',N ys' H'→∃m',m' < m∧W (i+1) m' ys' H')∧∀x H',J.yld i H x H'→g x (cσ own.length js σ) H' fun σ2 H2=>tt σ2 H2 fun b H3=>if b=true then te σ2 H3 fun y H4=>N (ys++[y]) H4 else N ys H3))
  (hRR:∀(D C:Addr) (s':Shared) (H':Hp) (ys:List V) (m:Str→Option Value),F ys H'→H' D=none→az X pins σ (upd H' D (.lst ys)) s'→s'.heap.Ns C m→
   BS X pins C→(upd H' D (.lst ys)) C=none→RR (.ref D) C (.ok .next) s') :
  wpAny (model X.prog X.w) X.A (newList []) (fun acc s₃=>wpAny (model X.prog X.w) X.A (newFunctionEnv scope X.env.globals (ff X.env.cells scope.names []) [] X.env.qual none .none (some X.env)) (fun cenv s₄=>
   codeAny (model X.prog X.w) X.A (.compStart (.ListComp elt [⟨tg,iter,ifs,0⟩] scope pos) 0 (.ref it) acc { cenv with scope:=relabel scope X.env }) (RR acc cenv.locals) s₄) E s₃) E s2:=by
 refine wpAny_newObj_type (wpAny_newFunctionEnv ok.cell (by intro y hy;simp at hy) (fun h₁ hns₁ hsb₁=>?_) ok.kind);dsimp only at hns₁ hsb₁ ⊢;generalize hP:s2.heap.push { cls:=.type "list",dict:=none,data:=.seq ([]:List Value).toArray }=P2 at hns₁ hsb₁ ⊢
 have hC:P2.objs.size=s2.heap.objs.size+1:=by rw [←hP,ae0]
 have hDC:s2.heap.objs.size≠P2.objs.size:=by rw [hC];exact ab1 (aj2 _)
 have hCle:s2.heap.objs.size≤P2.objs.size:=by rw [hC];exact al3 _
 have below:∀b,b < s2.heap.objs.size→b≠P2.objs.size∧b≠s2.heap.objs.size:=fun b hb=>⟨by rw [hC];exact ab1 (ah4 hb),ab1 hb⟩;have old:∀b o,s2.heap.get? b=some o→h₁.get? b=some o:=fun b o e=>hsb₁.extBut b o (below b (aa5 e)).1 (aa3 _ (hP▸aa3 _ e));have hacc:h₁.get? s2.heap.objs.size=some { cls:=.type "list",data:=.seq ([]:List Value).toArray 0 }:=hsb₁.extBut _ _ hDC (aa3 _ (hP▸aa6 _ rfl));generalize hDe:s2.heap.objs.size=D at hacc hDC hCle hC below;generalize hCe:P2.objs.size=C at hns₁ hsb₁ hDC hCle hC below ⊢
 have fo:∀b∈fp,∃o,s2.heap.get? b=some o:=fun b hb=>let ⟨o,e,_⟩:=T.obj _ _ st2 b hb;⟨o,e⟩
 have fD:∀b∈fp,b≠D∧b≠C:=fun b hb=>by
  obtain⟨o,e⟩:=fo b hb
  have:=below b (hDe▸aa5 e)
  exact⟨this.2,this.1⟩
 have H2C:H2 C=none:=I2.hok.fresh (by rw [hDe];exact hCle);have H2D:H2 D=none:=I2.hok.fresh (by rw [hDe];exact aa8 _)
 have stkD:D∉kF X.stack:=fun z=>by
  have h1:=I2.nofs (a:=D) (by rw [hDe];exact aa8 _);rcases ab6.mp (I2.stkSub _ z)with q | q
  ·have:=I2.lt
   rw [←q,hDe]at this;exact af2 _ this
  ·exact h1 q
 have neLoc:D≠X.env.locals∧C≠X.env.locals:=by
  have h1:=I2.lt;rw [hDe]at h1;exact⟨ad3 h1,ad3 (ab2 h1 hCle)⟩
 have cellLt:∀x c,X.env.cells.lookup x=some c→c < D:=fun x c e=>by
  obtain⟨v,z⟩:=I2.cell x c e;rw [←hDe];exact z.lt
 have pinLt:∀p∈X.pn++pins,p.1 < D:=fun p hp=>by rw [←hDe];exact aa5 (I2.pin p hp).1
 have hs0:X.s₀.heap.objs.size≤D:=by rw [←hDe];exact I2.sz
 have start:∀{s':Shared} {H':Hp} {m:Str→Option Value} {o:Obj},s'.os=s2.os→AllBare s'.gens→Un (kF X.stack) fp H2 H' s2.heap s'.heap→s'.heap.Ns C m→gj X.prog X.w H' s'.heap→H' C=none→s'.heap.get? D=some o→H' D=none→(∀v,o.data≠.cell v)→
   az (kL X scope own js C s2 H2 fp (X.pn++pins) k8) [(D,o)] (cσ own.length js σ) H' s':=fun {s' H' m o} a1 a2 a3 a4 a5 a6 a7 a8 a9=>
  v7 ok I2 (by rw [hDe];exact hCle) f2 fo a1 a2 a3 a4 a5 a6 fun p hp=>by
   have e:p=(D,o):=by simpa using hp
   subst e;exact⟨a7,a8,hDC,stkD,a9⟩
 have fpC:∀{H':Hp} {o:Obj},(∀b∈fp,H' b=none)→∀b∈fp,iz (kL X scope own js C s2 H2 fp (X.pn++pins) k8) [(D,o)] H' b:=fun {H' o} hn b hb=>by
  obtain⟨_,q1,q2,q3,q4,q5⟩:=f2 b hb;refine⟨hn b hb,(fD b hb).2,fun z=>?_,.inl hb,fun x c e=>q4 x c (ok.sub I2 e),fun p hp=>?_⟩
  ·rcases ab6.mp (I2.stkSub b z)with e | e
   ·exact q1 e
   ·exact q2 e
  ·rcases ad7.mp hp with h | h
   ·exact q5 p h
   ·have e:p=(D,o):=by simpa using h
    subst e;exact(fD b hb).1.symm
 have nocell:∀(its:Array Value) (n:Nat) (v:Option Value),({ cls:=.type "list",data:=.seq its n }:Obj).data≠.cell v:=fun _ _ _ z=>by cases z
 have loop:∀s₃:Shared,s₃={ s2 with heap:=h₁,toks:=s2.toks+([]:List (Str×Value)).length }→
   codeAny (model X.prog X.w) X.A (.compLoop (.ListComp elt [⟨tg,iter,ifs,0⟩] scope pos) 0 (.ref it) (.ref D) (compEnvC scope (ff X.env.cells scope.names []) C X.env)) (RR (.ref D) C) s₃:=by
  rintro s₃ rfl
  refine oB (fun n s'=>∃i ys its k H',az (kL X scope own js C s2 H2 fp (X.pn++pins) k8) [(D,{ cls:=.type "list",data:=.seq (its:List Value).toArray k })] (cσ own.length js σ) H' s'∧tn i s'.heap∧(∀b∈fp,H' b=none)∧
   W i n ys H'∧aH ys its∧ys.length≤sizeLine) ?_ m0 ⟨0,[],[],0,H2,start rfl I2.bare (Un.kept old) hns₁ (I2.hok.kept old) H2C hacc H2D (nocell _ _),T.keep _ _ _ st2 (fun b _ o e=>old b o e),fun b hb=>(f2 b hb).1,w0,.nil,ad0 _⟩
  rintro n s3 ⟨i,ys,its,k,H3,I3,st3,fr3,w3,rv,hz⟩;rcases turn i n ys H3 w3 with⟨stop,q⟩ | ⟨go,hlt,N,hN,step⟩
  ·refine wpAny_mono (T.done (kL X scope own js C s2 H2 fp (X.pn++pins) k8) rfl rfl rfl hc i _ s3 _ H3 k8 I3 (fpC fr3) st3 stop) (fun r s4 ⟨hr,I4⟩=>?_) fun _ _ f=>f.elim
   subst hr;obtain⟨zD,nD,_⟩:=I4.pin (D,_) (ac1 _ ad4);obtain⟨m,hm,_⟩:=I4.loc;have I5:az X pins σ H3 s4:=I2.call' I4.os I4.base I4.hok I4.bare fun b hb=>⟨(f2 b hb).2.2.2.1,(f2 b hb).2.1,(f2 b hb).2.2.2.2.1,(f2 b hb).2.2.2.2.2⟩;have I6:az X pins σ (upd H3 D (.lst ys)) s4:=I5.track nD zD rv hz (.inr hs0) neLoc.1 (fun x c e=>ab1 (cellLt x c e)) fun p hp=>ab1 (pinLt p hp);have nC:H3 C=none:=I4.free;exact hRR D C s4 H3 ys m q nD I6 hm ⟨neLoc.2,.inr (ac0 hs0 hCle),fun x c e=>ab1 (ab2 (cellLt x c e) hCle),fun p hp=>ab1 (ab2 (pinLt p hp) hCle)⟩ (by rw [ai (Ne.symm hDC)];exact nC)
  ·refine wpAny_mono (T.item (kL X scope own js C s2 H2 fp (X.pn++pins) k8) rfl rfl rfl hc i _ s3 _ H3 k8 I3 (fpC fr3) st3 go) (fun r s4 ⟨u,hr,h4⟩=>?_) fun _ _ f=>f.elim
   subst hr;refine wpAny_mono h4 (fun _ s5 ⟨x,H5,I5,r5,y5,st5,fr5⟩=>?_) fun _ _ f=>f.elim;have I5':=I5.pinned (fpC fr5) (T.obj _ _ st5);refine wpAny_mono (hg _ _ _ _ _ _ s5 _ H5 x u _ I5' r5 (step x H5 y5)) (fun _ s6 ⟨σ6,H6,I6,q6⟩=>?_) fun _ _ f=>f.elim;refine wpAny_mono (ht _ _ _ _ _ _ s6 σ6 H6 _ I6 q6) (fun b s7 ⟨H7,I7,q7⟩=>?_) fun _ _ f=>f.elim
   have back:∀{s8:Shared} {H8:Hp} {m':Nat} {ys':List V} {its':List Value} {k':Nat},az (kL X scope own js C s2 H2 fp (X.pn++pins) k8) [] σ6 H8 s8→s8.heap.get? D=some { cls:=.type "list",data:=.seq its'.toArray k' }→H8 D=none→
     (∀b∈fp,∀o,s5.heap.get? b=some o→s8.heap.get? b=some o)→(∀b∈fp,H8 b=none)→W (i+1) m' ys' H8→aH ys' its'→ys'.length≤sizeLine→
     ∃i ys its k H',az (kL X scope own js C s2 H2 fp (X.pn++pins) k8) [(D,{ cls:=.type "list",data:=.seq (its:List Value).toArray k })] (cσ own.length js σ) H' s8∧tn i s8.heap∧(∀b∈fp,H' b=none)∧W i m' ys H'∧aH ys its∧ys.length≤sizeLine:=
    fun {s8 H8 m' ys' its' k'} J zD nD kf fr w' rv' hz'=>by
     obtain⟨m,hm,_⟩:=J.loc;exact⟨i+1,ys',its',k',H8,start J.os J.bare J.base hm J.hok J.free zD nD (nocell _ _),T.keep _ _ _ st5 kf,fr,w',rv',hz'⟩
   cases b with
   | false=>
    rw [if_neg ab0];rw [if_neg ab0]at q7;obtain⟨m',hm',w'⟩:=hN _ _ q7;have pD:=I7.pin (D,_) (ac1 _ (ah5 _ ad4));refine⟨m',hm',back (I7.pins_of (pins':=[]) fun p hp=>nomatch hp) pD.1 pD.2.1 (fun b hb o e=>(I7.pin (b,o) (ac1 _ (ac1 _ (cU hb e)))).1) (fun b hb=>?_) w' rv hz⟩;obtain⟨o,e,_⟩:=T.obj _ _ st5 b hb;exact(I7.pin (b,o) (ac1 _ (ac1 _ (cU hb e)))).2.1
   | true=>
    rw [if_pos rfl];rw [if_pos rfl]at q7;refine wpAny_mono (he _ _ _ _ _ _ s7 σ6 H7 _ I7 q7) (fun yv s8 ⟨y,H8,I8,r8,q8⟩=>?_) fun _ _ f=>f.elim;obtain⟨m',hm',w'⟩:=hN _ _ q8;have pD:=I8.pin (D,_) (ac1 _ (ah5 _ ad4));refine append_at (hsz:=by rw [aa7,←rv.length];exact hz) pD.1 fun h9 sb9 z9=>?_;have I8':az (kL X scope own js C s2 H2 fp (X.pn++pins) k8) [] σ6 H8 s8:=I8.pins_of fun p hp=>nomatch hp
    have I9:az (kL X scope own js C s2 H2 fp (X.pn++pins) k8) [] σ6 H8 { s8 with heap:=h9 }:=I8'.turned (t':=s8.toks) (it:=D) (fun b o hb e=>(sb9.2 b hb).trans e) pD.2.1 hDC (.inr (by show s2.heap.objs.size≤D;rw [hDe];exact aa8 _))
     (fun x c e=>ab1 (cellLt x c (ok.sub I2 e))) fun p hp=>by
      rcases ad7.mp hp with h | h
      ·exact ab1 (pinLt p h)
      ·cases h
    refine⟨m',hm',back (its':=its++[yv]) (k':=k+1) I9 (by rw [z9];simp) pD.2.1 (fun b hb o e=>(sb9.2 b (fD b hb).1).trans (I8.pin (b,o) (ac1 _ (ac1 _ (cU hb e)))).1) (fun b hb=>?_) w' (rv.append (.cons r8 .nil)) (by simp;omega)⟩;obtain⟨o,e,_⟩:=T.obj _ _ st5 b hb;exact(I8.pin (b,o) (ac1 _ (ac1 _ (cU hb e)))).2.1
 exact codeAny_compStart_list (loop _ rfl) (T.self X.A 0 _ _ _ (T.keep _ _ _ st2 (fun b _ o e=>old b o e)) (loop _ rfl))
theorem bP(hc:X.calm=true)(hi:PI X tg iter wi)(ok:aW X scope js)
  (hg:∀C s H ex pn,PG (kL X scope own js C s H ex pn k8) tg g) (ht:∀C s H ex pn,B9 (kL X scope own js C s H ex pn k8) ifs tt) (he:∀C s H ex pn,PE (kL X scope own js C s H ex pn k8) elt te)
  (hs:∀x,foldedSetIterable iter X.env x=pure x:=by intro _;rfl):PE X (.ListComp elt [⟨tg,iter,ifs,0⟩] scope pos) (xG own.length js wi g tt te):=by
 intro pins s σ H Q I h;rw [eval_ListComp];refine wpAny_comprehension_free (use:=none) rfl hs (gp (ok.clos I)) ok.kind ok.names (bz (hi pins s σ H _ I h) fun v s1 h1=>bz h1 fun itv s2 h2=>?_);obtain⟨it,fp,tn,J,H2,e,I2,T,st2,f2,W,⟨m0,w0⟩,turn⟩:=h2;subst e;refine jz (RR:=fun acc C=>compPost (model X.prog X.w) X.A X.xe none (EP X pins σ Q) acc C) hc ok hg ht he I2 T st2 f2 w0 turn ?_;intro D C s' H' ys m q nD I6 hm o nC;exact⟨m,hm,fun h' sb=>⟨.ref D,_,o.go I6 nC sb,rfl,q D nD⟩⟩
theorem gD{i:Nat}{x:Str}{py spos:Pos}(hN:X.N.Nodup)(hix:X.N[i]?=some x)(hx:AF X.env.scope x)(hc:X.calm=true)(hi:PI X tg iter wi)(ok:aW X scope js)
  (hg:∀C s H ex pn,PG (kL X scope own js C s H ex pn k8) tg g) (ht:∀C s H ex pn,B9 (kL X scope own js C s H ex pn k8) ifs tt) (he:∀C s H ex pn,PE (kL X scope own js C s H ex pn k8) elt te)
  (hsw:swapsWith (.ListComp elt [⟨tg,iter,ifs,0⟩] scope pos) (some (.Name x py)) spos.line X.env=pure true)
  (hf:X.fn x=true∨X.env.scope.names.lookup x=some .local:=by first | exact .inl rfl | exact .inr rfl | assumption)
  (hs:∀x,foldedSetIterable iter X.env x=pure x:=by intro _;rfl):PS X (.Assign [.Name x py] (.ListComp elt [⟨tg,iter,ifs,0⟩] scope pos) spos) (u6 (xG own.length js wi g tt te) (jH i)):=by
 intro pins s σ H Dd I h;rw [exec_Assign_Name_used _ _ _ _ hsw];refine wpAny_bind (wpAny_standAt (wpAny_bind ?_));show wpAny _ X.A (do let _ ←comprehension (.ListComp elt [⟨tg,iter,ifs,0⟩] scope pos) scope X.env _ (newList []) false (eval iter X.env) (some (assign (.Name x py) X.env))) _ _ s
 refine wpAny_bind (wpAny_mono (wpAny_comprehension_free (use:=some (assign (.Name x py) X.env)) (Q:=fun _ s'=>SP X pins Dd .next s') rfl hs (gp (ok.clos I)) ok.kind ok.names
  (bz (hi pins s σ H _ I h) fun v s1 h1=>bz h1 fun itv s2 h2=>?_)) (fun _ s' hq=>wpAny_pure (wpAny_pure hq)) fun _ _ e=>e)
 obtain⟨it,fp,tn,J,H2,e,I2,T,st2,f2,W,⟨m0,w0⟩,turn⟩:=h2;subst e;refine jz (RR:=fun acc C=>compPost (model X.prog X.w) X.A X.xe (some (assign (.Name x py) X.env)) (fun _ s'=>SP X pins Dd .next s') acc C) hc ok hg ht he I2 T st2 f2 w0 turn ?_;intro D C s' H' ys m q nD I6 hm o nC;show wpAny _ X.A (assign (.Name x py) X.env (.ref D)) _ _ _;refine wpAny_assign_Name (l8 I6 hN hix hx (v:=.ref D) rfl (fun s2' I7 ⟨a,sa,ha⟩=>?_) hf)
 have hCa:C≠a:=by
  rcases ha with e | e
  ·rw [e];exact o.ne
  ·exact fun z=>o.cells x a e z.symm
 exact⟨m,hm.sameBut sa hCa,fun h' sb=>⟨_,_,o.go I7 nC sb,q D nD⟩⟩
end
end L2
namespace L2
open PySem PySem.Spec PyProof.Rows
def yb(X:Cx)(tg:Expr)(r:V→Hp→(It→Hp→Prop)→Prop):Prop:=
 ∀(pins:List (Addr×Obj)) (s:Shared) (σ:St) (H:Hp) (x:V) (v:Value) (R:It→Hp→Prop),az X pins σ H s→aF x v→r x H R→
  wpAny (model X.prog X.w) X.A (pyIter v) (B8 X pins σ tg R) X.xe s
def yc(z:Str):It:=⟨fun i _=>i < z.length,fun i H x H'=>H'=H∧∃c,z.cps[i]?=some c∧x=.str ⟨#[c]⟩,fun i _=>i=z.length⟩
theorem mr{P:Program}{w:World}{A:Around}(hh:A.handled=none)(I:Addr)(z:Str)(t:Tok){ty:String}(hty:ty="str_ascii_iterator"∨ty="str_iterator"):
  Walks P w A I [I] [I] z.cps.size (SignAt z) (fun i h=>h.IsStrIter I ty z t i):=by
 rcases hty with e | e
 ·subst e;exact Walks.strAscii hh I z t
 ·subst e;exact Walks.strWide hh I z t
theorem xT{P:Program}{w:World}{K:Frag}{tg:Expr}(z:Str)(t:Tok)(it:Addr){ty:String}(hty:ty="str_ascii_iterator"∨ty="str_iterator"):
  jt P w K tg (yc z) [it] it (fun i h=>h.IsStrIter it ty z t i) where
 mem:=by simp
 obj:=fun i h st b hb=>by
  have e:b=it:=by simpa using hb
  subst e;obtain⟨o,e,c,d⟩:=st;exact⟨o,e,fun v z=>by rw [d]at z;cases z⟩
 keep:=fun i h h' st k=>by
  obtain⟨o,e,r⟩:=st;exact⟨o,k it (by simp) o e,r⟩
 item:=by
  intro X hP hw hK hc i pins s σ H E I hf st hg;subst hP hw hK;obtain⟨f0,f1,f2,f3,f4,f5⟩:=hf it (by simp);refine(mr (I.ok.hd hc) it z t hty).item i s _ _ hg st fun v h' tk hv st' kk=>?_;obtain⟨c,u,hcz,rfl⟩:=hv;have I1:az X pins σ H { s with heap:=h',toks:=tk }:=I.turned (fun b o hb e=>kk b o (by simpa using hb) e) f0 f1 f3 f4 f5;obtain⟨o,e,cl,d⟩:=id st'
  refine⟨_,rfl,lP (s:={ s with heap:=h',toks:=tk }) (n:=ty) e cl d (by rcases hty with q | q<;>(subst q;decide)) ⟨.str ⟨#[c]⟩,H,I1,⟨u,rfl⟩,⟨rfl,c,hcz,rfl⟩,st',fun b hb=>(hf b hb).1⟩⟩
 done:=by
  intro X hP hw hK hc i pins s σ H E I hf st hg;subst hP hw hK;obtain⟨f0,f1,f2,f3,f4,f5⟩:=hf it (by simp);have e:i=z.length:=hg;subst e;exact(mr (I.ok.hd hc) it z t hty).done s _ _ st fun h' tk kk=>⟨rfl,I.turned (fun b o hb e=>kk b o (by simpa using hb) e) f0 f1 f3 f4 f5⟩
 self:=fun A i s Q E st h=>by
  rcases hty with e | e
  ·subst e;exact wpAny_pyIter_striter_ascii st h
  ·subst e;exact wpAny_pyIter_striter_wide st h
section
variable {X:Cx} {tg:Expr}
theorem yb.or{r r':V→Hp→(It→Hp→Prop)→Prop}(h:yb X tg r)(h':yb X tg r'):yb X tg (fun x H R=>r x H R∨r' x H R):=by
 intro pins s σ H x v R I rx q;rcases q with q | q
 ·exact h pins s σ H x v R I rx q
 ·exact h' pins s σ H x v R I rx q
theorem it_list:yb X tg (fun x H R=>∃a,x=.ref a∧(∃xs,aI X.K H a xs)∧R (xZ X.K a) H):=by
 intro pins s1 σ H1 x v R I1 r1 q1;obtain⟨a,e,⟨xs,hq⟩,q⟩:=q1;subst e;cases r1;obtain⟨its,rv,p,hz⟩:=I1.list hq;refine wpAny_pyIter_list p.isList ?_;refine⟨s1.heap.objs.size,[s1.heap.objs.size],_,_,H1,rfl,I1.kept (t':=s1.toks) fun b o e=>aa3 _ e,u7 a _,⟨_,aa6 _ rfl,rfl,rfl⟩,fun b hb=>?_,q⟩
 have e:b=s1.heap.objs.size:=by simpa using hb
 subst e;exact I1.fpOk (aa8 _) (I1.hok.fresh (aa8 _))
theorem it_tup:yb X tg (fun x H R=>∃a,x=.ref a∧(∃xs,bf X.K H a xs)∧R (BQ X.K a) H):=by
 intro pins s1 σ H1 x v R I1 r1 q1;obtain⟨a,e,⟨xs,hq⟩,q⟩:=q1;subst e;cases r1;obtain⟨its,rv,p,hz⟩:=I1.tuple hq;refine wpAny_pyIter_tuple (show s1.heap.IsTuple a its.toArray from p) ?_;refine⟨s1.heap.objs.size,[s1.heap.objs.size],_,_,H1,rfl,I1.kept (t':=s1.toks) fun b o e=>aa3 _ e,rV a _,⟨_,aa6 _ rfl,rfl,rfl⟩,fun b hb=>?_,q⟩
 have e:b=s1.heap.objs.size:=by simpa using hb
 subst e;exact I1.fpOk (aa8 _) (I1.hok.fresh (aa8 _))
theorem AS:yb X tg (fun x H R=>∃z,x=.str z∧R (yc z) H):=by
 intro pins s1 σ H1 x v R I1 r1 q1;obtain⟨z,e,q⟩:=q1;subst e;obtain⟨t,rfl⟩:=r1
 have fin:∀(o:Obj) (ty:String),(ty="str_ascii_iterator"∨ty="str_iterator")→(s1.heap.push o).IsStrIter s1.heap.objs.size ty z t 0→B8 X pins σ tg R (.ref s1.heap.objs.size) { s1 with heap:=s1.heap.push o }:=fun o ty hty st=>by
  refine⟨s1.heap.objs.size,[s1.heap.objs.size],_,_,H1,rfl,I1.kept (t':=s1.toks) fun b o e=>aa3 _ e,xT z t _ hty,st,fun b hb=>?_,q⟩
  have e:b=s1.heap.objs.size:=by simpa using hb
  subst e;exact I1.fpOk (aa8 _) (I1.hok.fresh (aa8 _))
 cases ha:z.cps.all (· < 128)
 ·exact wpAny_pyIter_wide ha (fin _ _ (.inr rfl) ⟨_,aa6 _ rfl,rfl,rfl⟩)
 ·exact wpAny_pyIter_ascii ha (fin _ _ (.inl rfl) ⟨_,aa6 _ rfl,rfl,rfl⟩)
def Bo(K:Frag):V→Hp→(It→Hp→Prop)→Prop:=fun x H R=>(∃a,x=.ref a∧(∃xs,aI K H a xs)∧R (xZ K a) H)∨(∃a,x=.ref a∧(∃xs,bf K H a xs)∧R (BQ K a) H)∨∃z,x=.str z∧R (yc z) H
theorem itA:yb X tg (Bo X.K):=it_list.or (it_tup.or AS)
def Dv(r:V→Hp→(It→Hp→Prop)→Prop)(tl:TE):TI:=fun σ H R=>tl σ H fun x H1=>r x H1 R
theorem C2{l:Expr}{tl:TE}{r:V→Hp→(It→Hp→Prop)→Prop}(hr:yb X tg r)(hl:PE X l tl):PI X tg l (Dv r tl):=by
 intro pins s σ H R I h;exact bz (hl pins s σ H _ I h) fun v s1 ⟨x,H1,I1,r1,q1⟩=>hr pins s1 σ H1 x v R I1 r1 q1
theorem Bk{l:Expr}{tl:TE}(hl:PE X l tl):PI X tg l (Dv (Bo X.K) tl):=C2 itA hl
theorem ba{K:Frag}{H:Hp}{a:Addr}{xs:List V}{R:It→Hp→Prop}(h:aI K H a xs)(q:R (xZ K a) H):Bo K (.ref a) H R:=.inl ⟨a,rfl,⟨xs,h⟩,q⟩
theorem zG{K:Frag}{H:Hp}{a:Addr}{xs:List V}{R:It→Hp→Prop}(h:bf K H a xs)(q:R (BQ K a) H):Bo K (.ref a) H R:=.inr (.inl ⟨a,rfl,⟨xs,h⟩,q⟩)
theorem zF{K:Frag}{H:Hp}{z:Str}{R:It→Hp→Prop}(q:R (yc z) H):Bo K (.str z) H R:=.inr (.inr ⟨z,rfl,q⟩)
end
theorem Du{z:Str}{g:TG}{tb:TS}{D:eU}{σ:St}{H:Hp}(Pv:Nat→St→Hp→Prop)(h0:Pv 0 σ H)
  (hs:∀i c σ H,z.cps.toList[i]?=some c→Pv i σ H→g (.str ⟨#[c]⟩) σ H fun σ2 H2=>tb { D with nx:=Pv (i+1),ct:=Pv (i+1),bk:=D.nx } σ2 H2) (hd:∀σ H,Pv z.length σ H→D.nx σ H) :
  ∃W:Nat→Nat→St→Hp→Prop,(∃m,W 0 m σ H)∧∀i m σ H,W i m σ H→
   ((yc z).stop i H∧D.nx σ H)∨((yc z).go i H∧∃N:St→Hp→Prop,(∀σ' H',N σ' H'→∃m',m' < m∧W (i+1) m' σ' H')∧∀x H',(yc z).yld i H x H'→g x σ H' fun σ2 H2=>tb { D with nx:=N,ct:=N,bk:=D.nx } σ2 H2):=by
 refine⟨fun i m σ H=>m=z.length - i∧i≤z.length∧Pv i σ H,⟨z.length,by simp,ad0 _,h0⟩,?_⟩;rintro i m σ H ⟨rfl,hi,p⟩
 by_cases hlt:i < z.length
 ·refine .inr ⟨hlt,Pv (i+1),fun σ' H' p'=>⟨z.length - (i+1),by omega,rfl,hlt,p'⟩,fun x H' y=>?_⟩
  obtain⟨e,c,hc,e2⟩:=y;subst e e2;exact hs i c σ _ (by simpa using hc) p
 ·have e:i=z.length:=by omega
  subst e;exact .inl ⟨rfl,hd σ H p⟩
section
variable {n:Nat} {js:List Nat} {g:TG} {tt:TT} {te:TE} {σ:St} {H:Hp} {F:List V→Hp→Prop}
abbrev oh(J:It)(n:Nat)(js:List Nat)(g:TG)(tt:TT)(te:TE)(σ:St)(H:Hp)(F:List V→Hp→Prop):Prop:=
 ∃W:Nat→Nat→List V→Hp→Prop,(∃m,W 0 m [] H)∧∀i m ys H,W i m ys H→(J.stop i H∧F ys H)∨
  (J.go i H∧ys.length < sizeLine∧∃N:List V→Hp→Prop,(∀ys' H',N ys' H'→∃m',m' < m∧W (i+1) m' ys' H')∧∀x H',J.yld i H x H'→g x (cσ n js σ) H' fun σ2 H2=>tt σ2 H2 fun b H3=>if b=true then te σ2 H3 fun y H4=>N (ys++[y]) H4 else N ys H3)
abbrev cy(n:Nat)(js:List Nat)(g:TG)(tt:TT)(te:TE)(σ:St)(x:V)(ys:List V)(H:Hp)(N:List V→Hp→Prop):Prop:=
 g x (cσ n js σ) H fun σ2 H2=>tt σ2 H2 fun b H3=>if b=true then te σ2 H3 fun y H4=>N (ys++[y]) H4 else N ys H3
theorem qB{lo:Int}{k:Nat}(Pv:Nat→List V→Hp→Prop)(hk:k≤sizeLine)(h0:Pv 0 [] H)(hn:∀i ys H,Pv i ys H→ys.length≤i)
  (hs:∀i ys H,i < k→Pv i ys H→cy n js g tt te σ (.int (lo+i)) ys H (Pv (i+1))) (hd:∀ys H,Pv k ys H→F ys H):oh (tu lo k) n js g tt te σ H F:=by
 refine⟨fun i m ys H=>m=k - i∧i≤k∧Pv i ys H,⟨k,by simp,ad0 _,h0⟩,?_⟩;rintro i m ys H ⟨rfl,hi,p⟩
 by_cases hlt:i < k
 ·refine .inr ⟨hlt,ad5 (hn i ys H p) (ab2 hlt hk),Pv (i+1),fun σ' H' p'=>⟨k - (i+1),by omega,rfl,hlt,p'⟩,fun x H' y=>?_⟩
  obtain⟨e,y⟩:=y;subst e y;exact hs i ys _ hlt p
 ·have e:i=k:=by omega
  subst e;exact .inl ⟨aa8 _,hd ys H p⟩
theorem tQ{K:Frag}{a:Addr}{xs:List V}(Pv:Nat→List V→Hp→Prop)(hk:xs.length≤sizeLine)(h0:Pv 0 [] H)(hn:∀i ys H,Pv i ys H→ys.length≤i)(hl:∀i ys H,Pv i ys H→aI K H a xs)
  (hs:∀i x ys H,xs[i]?=some x→Pv i ys H→cy n js g tt te σ x ys H (Pv (i+1))) (hd:∀ys H,Pv xs.length ys H→F ys H):oh (xZ K a) n js g tt te σ H F:=by
 refine⟨fun i m ys H=>m=xs.length - i∧i≤xs.length∧Pv i ys H,⟨xs.length,by simp,ad0 _,h0⟩,?_⟩;rintro i m ys H ⟨rfl,hi,p⟩;have q:=hl i ys H p
 by_cases hlt:i < xs.length
 ·refine .inr ⟨⟨xs,xs[i],q,by simp [hlt]⟩,ad5 (hn i ys H p) (ab2 hlt hk),Pv (i+1),fun σ' H' p'=>⟨xs.length - (i+1),by omega,rfl,hlt,p'⟩,fun x H' y=>?_⟩
  obtain⟨e,y⟩:=y;subst e;exact hs i x ys _ (y xs q) p
 ·have e:i=xs.length:=by omega
  subst e;exact .inl ⟨⟨xs,q,aa8 _⟩,hd ys H p⟩
theorem vy{K:Frag}{a:Addr}{xs:List V}(Pv:Nat→List V→Hp→Prop)(hk:xs.length≤sizeLine)(h0:Pv 0 [] H)(hn:∀i ys H,Pv i ys H→ys.length≤i)(hl:∀i ys H,Pv i ys H→bf K H a xs)
  (hs:∀i x ys H,xs[i]?=some x→Pv i ys H→cy n js g tt te σ x ys H (Pv (i+1))) (hd:∀ys H,Pv xs.length ys H→F ys H):oh (BQ K a) n js g tt te σ H F:=by
 refine⟨fun i m ys H=>m=xs.length - i∧i≤xs.length∧Pv i ys H,⟨xs.length,by simp,ad0 _,h0⟩,?_⟩;rintro i m ys H ⟨rfl,hi,p⟩;have q:=hl i ys H p
 by_cases hlt:i < xs.length
 ·refine .inr ⟨⟨xs,xs[i],q,by simp [hlt]⟩,ad5 (hn i ys H p) (ab2 hlt hk),Pv (i+1),fun σ' H' p'=>⟨xs.length - (i+1),by omega,rfl,hlt,p'⟩,fun x H' y=>?_⟩
  obtain⟨e,y⟩:=y;subst e;exact hs i x ys _ (y xs q) p
 ·have e:i=xs.length:=by omega
  subst e;exact .inl ⟨⟨xs,q,aa8 _⟩,hd ys H p⟩
theorem vx{z:Str}(Pv:Nat→List V→Hp→Prop)(hk:z.length≤sizeLine)(h0:Pv 0 [] H)(hn:∀i ys H,Pv i ys H→ys.length≤i)
  (hs:∀i c ys H,z.cps.toList[i]?=some c→Pv i ys H→cy n js g tt te σ (.str ⟨#[c]⟩) ys H (Pv (i+1))) (hd:∀ys H,Pv z.length ys H→F ys H):oh (yc z) n js g tt te σ H F:=by
 refine⟨fun i m ys H=>m=z.length - i∧i≤z.length∧Pv i ys H,⟨z.length,by simp,ad0 _,h0⟩,?_⟩;rintro i m ys H ⟨rfl,hi,p⟩
 by_cases hlt:i < z.length
 ·refine .inr ⟨hlt,ad5 (hn i ys H p) (ab2 hlt hk),Pv (i+1),fun σ' H' p'=>⟨z.length - (i+1),by omega,rfl,hlt,p'⟩,fun x H' y=>?_⟩
  obtain⟨e,c,hc,e2⟩:=y;subst e e2;exact hs i c ys _ (by simpa using hc) p
 ·have e:i=z.length:=by omega
  subst e;exact .inl ⟨rfl,hd ys H p⟩
end
theorem u5(xs:Array Nat):∀(n:Nat) (acc:Array Nat),((List.replicate n xs).foldl (· ++ ·) acc).size=acc.size+n * xs.size
 | 0,acc=>by simp
 | n+1,acc=>by
  rw [ae1,ad9,u5 xs n,al5,am3];omega
theorem lO(xs:Array Nat):∀(n:Nat) (acc:Array Nat),((List.replicate n xs).foldl (· ++ ·) acc).toList=acc.toList++(List.replicate n xs.toList).flatten
 | 0,acc=>by simp
 | n+1,acc=>by
  rw [ae1,ad9,lO xs n,ae1,ah3,Array.toList_append,al4]
def il(z:Str)(k:Int):Str:=if k < 1 then Str.empty else if (k == 1 || z.length == 0)=true then z else⟨(List.replicate k.toNat z.cps).foldl (· ++ ·) #[]⟩
theorem rA(z:Str)(k:Int):(il z k).cps.toList=(List.replicate k.toNat z.cps.toList).flatten:=by
 unfold il
 split
 ·have e:k.toNat=0:=by omega
  rw [e];rfl
 ·split
  ·rename_i h1 h2
   rw [Bool.or_eq_true]at h2;rcases h2 with h2 | h2
   ·have e:k=1:=by simpa using h2
    subst e;simp
   ·have e:z.cps.size=0:=by simpa [Str.length]using h2
    have e2:z.cps.toList=[]:=by
     rw [←ag4];simpa using e
    rw [e2];simp
  ·simpa using lO z.cps k.toNat #[]
theorem pW(z:Str)(k:Int):(il z k).length=k.toNat * z.length:=by
 have e:(il z k).length=(il z k).cps.toList.length:=by simp [Str.length]
 rw [e,rA,mR];simp [Str.length]
section
variable {X:Cx} {a b c:Expr} {ta tb tc:TE} {pos:Pos}
theorem op_mulB:bZ X (binaryOp .Mult) (rI IntMulOk fun i j=>.int (i * j)):=CK fun _ _ _ _ _ _ _ hc q=>mul_int q hc
theorem op_mul_str:bZ X (binaryOp .Mult) (fun x y H Q=>∃z k,x=.str z∧y=.int k∧(-1000000≤k∧k≤1000000∧z.length≤16)∧Q (.str (il z k)) H):=by
 intro pins s σ H x y v u Q I rx ry h;obtain⟨z,k,rfl,rfl,⟨h2,h1,h3⟩,q⟩:=h;obtain⟨t,rfl⟩:=rx;obtain⟨t',rfl⟩:=ry;have hs:sizeLine=16777216:=sizeLine_eq;have hl:=pW z k;have hb:z.length * k.toNat≤16 * 1000000:=Nat.mul_le_mul h3 (by omega);rw [ag8]at hl;have fin:∀t' tk,EP X pins σ Q (.str (il z k) t') { s with toks:=tk }:=fun t' tk=>⟨.str _,H,I.tok _,⟨t',rfl⟩,q⟩;refine P.mul_str ?_ (fun h4 h5=>?_) (fun h4 h5=>?_) ?_
 ·have e1:¬k < -(2 ^ 63:Int):=by omega
  have e2:¬k≥2 ^ 63:=by omega
  rw [decide_eq_false e1,decide_eq_false e2];rfl
 ·have h6:(16:Int)≤(2 ^ 63 - 1) / k:=by
   rw [Int.le_ediv_iff_mul_le (by omega)];omega
  omega
 ·unfold Builtin.Str.tooLong
  exact decide_eq_false (by omega)
 ·unfold il at fin hl
  by_cases h4:k < 1
  ·rw [if_pos h4]at fin ⊢
   exact⟨by decide,fin _ _⟩
  ·rw [if_neg h4]at fin hl ⊢
   by_cases h5:(k == 1 || z.length == 0)=true
   ·rw [if_pos h5]at fin ⊢
    exact fin t s.toks
   ·rw [if_neg h5]at fin hl ⊢
    exact⟨by omega,fin _ _⟩
def i7:R2:=fun x y H Q=>rI IntMulOk (fun i j=>.int (i * j)) x y H Q∨(∃z k,x=.str z∧y=.int k∧(-1000000≤k∧k≤1000000∧z.length≤16)∧Q (.str (il z k)) H)∨zM x y H Q
theorem opMul:bZ X (binaryOp .Mult) i7:=op_mulB.or (op_mul_str.or Bh)
theorem pN{i j:Int}{H:Hp}{Q:VK}:i7 (.int i) (.int j) H Q↔IntMulOk i j∧Q (.int (i * j)) H:=by
 simp [i7,rI,zM]
theorem pO{z:Str}{j:Int}{H:Hp}{Q:VK}:i7 (.str z) (.int j) H Q↔(-1000000≤j∧j≤1000000∧z.length≤16)∧Q (.str (il z j)) H:=by
 simp [i7,rI,zM]
def cR(K:Frag):R2:=fun x y H Q=>pL (fun i j=>.int (i+j)) x y H Q∨(∃i j,x=.str i∧y=.str j∧i.length+j.length≤sizeLine∧Q (.str (i++j)) H)∨zz x y H Q∨sL K x y H Q
theorem opAdd:bZ X (binaryOp .Add) (cR X.K):=op_add.or (op_add_str.or (op_cat.or za))
theorem kd{K:Frag}{i j:Int}{H:Hp}{Q:VK}:cR K (.int i) (.int j) H Q↔Q (.int (i+j)) H:=by
 simp [cR,pL,zz,sL]
theorem xf{K:Frag}{i j:Str}{H:Hp}{Q:VK}:cR K (.str i) (.str j) H Q↔i.length+j.length≤sizeLine∧Q (.str (i++j)) H:=by
 simp [cR,pL,zz,sL]
theorem xc{K:Frag}{l b:Addr}{xs zs:List V}{H:Hp}{Q:VK}(h1:H l=some (.lst xs))(h2:H b=some (.lst zs))(hz:xs.length+zs.length≤sizeLine)(q:∀p,H p=none→Q (.ref p) (upd H p (.lst (xs++zs)))):cR K (.ref l) (.ref b) H Q:=
 .inr (.inr (.inl ⟨l,b,xs,zs,rfl,rfl,h1,h2,hz,q⟩))
def Bv:V→Option Int→Option Int→Hp→VK→Prop:=fun x lo hi H Q=>∃z,x=.str z∧z.length≤sizeLine∧Q (.str (Txt.slice z lo hi)) H
theorem BB:x4 X Bv:=by
 intro pins s σ H x v vl vu lo hi sl Q I rx hs pl pu h;obtain⟨z,rfl,hz,q⟩:=h;obtain⟨t,rfl⟩:=rx;have fin:∀t' tk,EP X pins σ Q (.str (Txt.slice z lo hi) t') { s with toks:=tk }:=fun t' tk=>⟨.str _,H,I.tok _,⟨t',rfl⟩,q⟩;refine⟨"str",_,F.slot_str_getitem.lookup,typeIs_str _ _ _,?_⟩
 cases pl with
 | none=>cases pu with
  | none=>exact wpAny_getItem_str_slice (l:=none) (u:=none) (st:=none) hs rfl (post_val_or_str ⟨ac0 (Txt.slice_le z _ _) hz,fun t' k=>fin t' k⟩)
  | int j u=>exact wpAny_getItem_str_slice (l:=none) (u:=some (j,u)) (st:=none) hs rfl (post_val_or_str ⟨ac0 (Txt.slice_le z _ _) hz,fun t' k=>fin t' k⟩)
 | int i u=>cases pu with
  | none=>exact wpAny_getItem_str_slice (l:=some (i,u)) (u:=none) (st:=none) hs rfl (post_val_or_str ⟨ac0 (Txt.slice_le z _ _) hz,fun t' k=>fin t' k⟩)
  | int j u'=>exact wpAny_getItem_str_slice (l:=some (i,u)) (u:=some (j,u')) (st:=none) hs rfl (post_val_or_str ⟨ac0 (Txt.slice_le z _ _) hz,fun t' k=>fin t' k⟩)
def uV(K:Frag):V→Option Int→Option Int→Hp→VK→Prop:=fun x lo hi H Q=>Bu K x lo hi H Q∨Bw K x lo hi H Q∨Bv x lo hi H Q
theorem slA:x4 X (uV X.K):=sl_list.or (sl_tup.or BB)
theorem Bt{K:Frag}{z:Str}{lo hi:Option Int}{H:Hp}{Q:VK}:uV K (.str z) lo hi H Q↔z.length≤sizeLine∧Q (.str (Txt.slice z lo hi)) H:=by
 simp [uV,Bu,Bw,Bv]
theorem Bs{K:Frag}{a:Addr}{xs:List V}{lo hi:Option Int}{H:Hp}{Q:VK}(h:aI K H a xs)(q:∀p,H p=none→Q (.ref p) (upd H p (.lst (mJ xs lo hi)))):uV K (.ref a) lo hi H Q:=.inl ⟨a,xs,rfl,h,q⟩
theorem ixA:ve X (pM X.K):=AU
theorem C5{K:Frag}{z:Str}{i:Int}{H:Hp}{Q:VK}:pM K (.str z) (.int i) H Q↔z.length≤sizeLine∧∃c,iC z.cps.toList i=some c∧Q (.str ⟨#[c]⟩) H:=by
 simp [pM,Bp,Br,Bq]
theorem bT{K:Frag}{p:Addr}{xs:List V}{i:Int}{v:V}{H:Hp}{Q:VK}(h:aI K H p xs)(hv:iC xs i=some v)(q:Q v H):pM K (.ref p) (.int i) H Q:=.inl ⟨p,xs,i,v,rfl,rfl,h,hv,q⟩
theorem eQ{K:Frag}{p:Addr}{xs:List V}{i:Int}{v:V}{H:Hp}{Q:VK}(h:bf K H p xs)(hv:iC xs i=some v)(q:Q v H):pM K (.ref p) (.int i) H Q:=.inr (.inl ⟨p,xs,i,v,rfl,rfl,h,hv,q⟩)
theorem opEq:bZ X (compareOp .Eq) lY:=CT
theorem opNe:bZ X (compareOp .NotEq) lZ:=CW
theorem wU:bZ X (compareOp .Lt) (pL fun i j=>.bl (decide (i < j))):=CV
theorem rEq_ii{i j:Int}{H:Hp}{Q:VK}:lY (.int i) (.int j) H Q↔Q (.bl (decide (i=j))) H:=by simp [lY,pX]
theorem nJ{i j:Int}{H:Hp}{Q:VK}:lZ (.int i) (.int j) H Q↔Q (.bl (!decide (i=j))) H:=by simp [lZ,pX]
theorem nH{i j:Str}{H:Hp}{Q:VK}:lY (.str i) (.str j) H Q↔Q (.bl (decide (i=j))) H:=by simp [lY,pX]
theorem nK{i j:Str}{H:Hp}{Q:VK}:lZ (.str i) (.str j) H Q↔Q (.bl (!decide (i=j))) H:=by simp [lZ,pX]
theorem xh{i j:Bool}{H:Hp}{Q:VK}:lY (.bl i) (.bl j) H Q↔Q (.bl (decide (i=j))) H:=by simp [lY,pX]
theorem xk{i j:Bool}{H:Hp}{Q:VK}:lZ (.bl i) (.bl j) H Q↔Q (.bl (!decide (i=j))) H:=by simp [lZ,pX]
def xi(K:Frag):R2:=fun x y H Q=>(∃i j,x=.str i∧y=.str j∧Q (.bl (!(Builtin.Str.occurrences j i 0 j.length 1).isEmpty)) H)∨BW K false x y H Q
def gi(K:Frag):R2:=fun x y H Q=>(∃i j,x=.str i∧y=.str j∧Q (.bl (!(!(Builtin.Str.occurrences j i 0 j.length 1).isEmpty))) H)∨BW K true x y H Q
theorem DT:bZ X (compareOp .In) (xi X.K):=op_in_str.or uM
theorem y8:bZ X (compareOp .NotIn) (gi X.K):=op_notin_str.or nc
theorem Bm{K:Frag}{c:Nat}{z:Str}{H:Hp}{Q:VK}:xi K (.str ⟨#[c]⟩) (.str z) H Q↔Q (.bl (decide (c∈z.cps.toList))) H:=by
 simp [xi,BW,StrLaws.found_one]
theorem uU{K:Frag}{c:Nat}{z:Str}{H:Hp}{Q:VK}:gi K (.str ⟨#[c]⟩) (.str z) H Q↔Q (.bl (!decide (c∈z.cps.toList))) H:=by
 have e':(Builtin.Str.occurrences z ⟨#[c]⟩ 0 z.length 1).isEmpty=!decide (c∈z.cps.toList):=by
  rw [←StrLaws.found_one z c,Bool.not_not]
 simp [gi,BW,e']
theorem tG:bq X (.builtin "len") (fun xs H Q=>(∃z,xs=[.str z]∧z.length≤sizeLine∧Q (.int z.length) H)∨∃p ys,xs=[.ref p]∧(aI X.K H p ys∨bf X.K H p ys)∧Q (.int ys.length) H):=call_len_str.or mG
theorem call_int_text:bq X (.type "int") (fun xs H Q=>∃z n,xs=[.str z]∧intText? z=some n∧z.length≤640∧Q (.int n) H):=by
 intro pins s σ H xs us Q I r h;obtain⟨z,n,rfl,hn,hl,q⟩:=h;obtain⟨u,rfl,ru⟩:=cN r;obtain⟨t,rfl⟩:=ru;exact PySem.W.KIN.call_text hn hl ⟨.int n,H,I.tok _,⟨_,rfl⟩,q⟩
theorem gc:bq X (.type "int") (fun xs H Q=>(∃z n,xs=[.str z]∧intText? z=some n∧z.length≤640∧Q (.int n) H)∨((∃i,xs=[.int i]∧Q (.int i) H)∨∃k,xs=[.bl k]∧Q (.int (if k then 1 else 0)) H)):=call_int_text.or tF
theorem kP:vf X "str.startswith" (fun x xs H Q=>∃z y,x=.str z∧xs=[.str y]∧Q (.bl (Txt.startswith z y)) H):=by
 intro pins s σ H x xs v us Q I rx r h;obtain⟨z,y,rfl,rfl,q⟩:=h;obtain⟨t,rfl⟩:=rx;obtain⟨u,rfl,t',rfl⟩:=cN r;exact SC.startswith ⟨.bl _,H,I,rfl,q⟩
theorem oo:bq X (.builtin "isinstance") (fun xs H Q=>∃x n t b,xs=[x,.ty n]∧gW X.K H x t∧kitOne X.K t (.type n)=some b∧Q (.bl b) H):=by
 intro pins s σ H xs us Q I r h;obtain⟨x,n,t,b,rfl,ty,e,q⟩:=h;obtain⟨u,w',rfl,ru,rw'⟩:=kA r;cases rw';exact um I ru ty e fun tk=>⟨.bl b,H,I.tok _,rfl,q⟩
theorem kB:∀{bs:List Bool} {us:List Value},aH (bs.map V.bl) us→us=bs.map Value.bool
 | [],_,.nil=>rfl
 | b::bs,_,.cons r t=>by
  have e:_=Value.bool b:=r;rw [ad1,e,kB t]
theorem uW(bs:List Bool):(List.range bs.length).all (fun i=>bs.getD i true)=bs.all id:=by
 induction bs with
 | nil=>rfl
 | cons b bs ih=>
  rw [ac5,List.range_succ_eq_map,aj6,am5,aj6,←ih];rfl
theorem tE(hc:X.calm=true):bq X (.builtin "all") (fun xs H Q=>∃(p:Addr) (bs:List Bool),xs=[.ref p]∧aI X.K H p (bs.map V.bl)∧Q (.bl (bs.all id)) H):=by
 intro pins s σ H xs us Q I r h;obtain⟨p,bs,rfl,hq,q⟩:=h;obtain⟨u,rfl,ru⟩:=cN r;cases ru;obtain⟨its,rv,pl,hz⟩:=I.list hq;have e:=kB rv;subst e;have hh:X.A.in1.handled=none:=I.ok.hd hc;refine call_all_walk (wpAny_pyIter_list pl.isList ⟨s.heap.objs.size,[s.heap.objs.size,p],[s.heap.objs.size],_,_,_,fun i=>bs.getD i true,rfl,Walks.list hh _ p ?_ _,⟨⟨_,aa6 _ rfl,rfl,rfl⟩,pl.isList.push _⟩,?_,fun h' tk hk=>?_⟩)
 ·obtain⟨o,n,e,_⟩:=pl
  exact ab1 (aa5 e)
 ·intro i v s' Q' E' hv hQ'
  have hv':(bs.map Value.bool)[i]?=some v:=by simpa using hv
  rw [aa4]at hv'
  cases hb:bs[i]? with
  | none=>rw [hb]at hv';cases hv'
  | some b=>
   rw [hb]at hv';cases hv';have hQ2:Q' (bs.getD i true) s':=hQ';rw [ac8,hb]at hQ2;exact wpAny_truthy_bool hQ2
 ·refine⟨.bl (bs.all id),H,I.kept (h':=h') (t':=tk) fun b o e=>hk b o ?_ (aa3 _ e),?_,q⟩
  ·intro z
   have z':b=s.heap.objs.size:=by simpa using z
   exact absurd (aa5 e) (by rw [z'];exact af2 _)
  ·show Value.bool _=Value.bool _
   rw [←uW];simp
theorem eA{x:Str}{v:V}{pos:Pos}(h:∃u,X.mg x=some u∧aF v u)(hg:Gl X x:=by rfl)(hd:(x == ("__debug__":Str))=false:=by decide):PE X (.Name x pos) (tC v):=
 let ⟨_,hm,r⟩:=h;zi hg hm r hd
end
structure bN(P:Program)(w:World)(K:Frag)(mg:Str→Option Value)(base:Heap)(x:Str)(k:Nat)(ps:List Str)(sp:Sp):Prop where
 ex:∃(f:Addr) (fd:FuncData),aR P w K mg base cO k f fd ps sp∧mg x=some (.ref f)∧keepIn K (.ref f)=true∧cu K fd ps []
section
variable {X:Cx} {k:Nat} {ps:List Str} {sp:Sp} {x:Str} {p pos:Pos} {e:Expr} {es:List Expr} {t:TA}
theorem aE(d:bN X.prog X.w X.K X.mg X.base x k ps sp)(hr:bV k X.A)(hg:Gl X x)(ha:PA X (e::es) t)(hdb:(x == ("__debug__":Str))=false:=by decide)
  (he:starEach (e::es) X.env=(false,eval e X.env)::starEach es X.env:=by rfl) (hpl:(backTo pos (starEach es X.env)).any (·.1)=false:=by rfl):PE X (.Call (.Name x p) (e::es) [] pos) (p5 sp [] E0 t):=
 let ⟨_,_,F,hm,hk,hb⟩:=d.ex;zd F hr hg hm hk hb .nil pE ha hdb he hpl
end
end L2
namespace L3
open PySem PySem.Spec PyProof.Rows
section
variable {prog:Program} {w:World} {A:Around} {E:Value→Shared→Prop} {s:Shared}
theorem mU{it t:Addr}{i:Nat}{its:Array Value}{x:Value}{Q:Value→Shared→Prop}(qi:s.heap.IsTupleIter it t i)(qt:s.heap.IsTuple t its)(qx:its[i]?=some x)
  (hQ:∀h',h'.IsTupleIter it t (i+1)→Heap.SameBut it s.heap h'→Q x { s with heap:=h' }):wpAny (model prog w) A (Builtin.SmallTypes.nextOf (.ref it)) Q E s:=by
 obtain⟨oi,qo,qc,qd⟩:=id qi;obtain⟨ot,qot,_,nt,qdt⟩:=qt;unfold Builtin.SmallTypes.nextOf;refine wpAny_bind (wpAny_callSpecial?_slot (name:=Str.ofString "__next__") qi.typeIs F.slot_tuple_iterator_next (wpAny_call_entry F.slot_tuple_iterator_next qi.typeIs F.entry_tuple_iterator_next ?_ (F.args_tuple_iterator_next_1 _)));show wpAny _ _ (field (.ref it) 0 >>= _) _ _ s;refine wpAny_bind (wpAny_field qo qd (x:=.ref t) rfl ?_);show wpAny _ _ (if (Value.ref t == Value.none)=true then _ else _) _ _ s;rw [if_neg (show ¬((Value.ref t == Value.none)=true)from ab0)];show wpAny _ _ (field (.ref it) 1 >>= _) _ _ s;refine wpAny_bind (wpAny_field qo qd (x:=.int i 0) rfl ?_);show wpAny _ _ (seqItems? (.ref t) >>= _) _ _ s;refine wpAny_bind (wpAny_seqItems qot qdt ?_);simp only [ad8,qx];refine wpAny_bind (wpAny_setField qo qd (by simp) (wpAny_pure ⟨x,rfl,wpAny_pure (hQ _ ?_ (Heap.SameBut.update ..))⟩));exact⟨_,ad2 _ qo (Obj.isFreed_of_fields (Obj.data_mapFields qd _)),(Obj.cls_mapFields ..).trans qc,by rw [Obj.data_mapFields qd];simp [rawInt]⟩
theorem ph{it t:Addr}{i:Nat}{its:Array Value}{Q:Value→Shared→Prop}(hh:A.handled=none)(qi:s.heap.IsTupleIter it t i)(qt:s.heap.IsTuple t its)(qx:its[i]?=none)
  (hE:∀h' e,Heap.ExtBut it s.heap h'→(∃o,h'.get? e=some o∧o.cls=.type "StopIteration")→E (.ref e) { s with heap:=h' }):wpAny (model prog w) A (Builtin.SmallTypes.nextOf (.ref it)) Q E s:=by
 obtain⟨oi,qo,qc,qd⟩:=id qi;obtain⟨ot,qot,_,nt,qdt⟩:=qt;unfold Builtin.SmallTypes.nextOf;refine wpAny_bind (wpAny_callSpecial?_slot (name:=Str.ofString "__next__") qi.typeIs F.slot_tuple_iterator_next (wpAny_call_entry F.slot_tuple_iterator_next qi.typeIs F.entry_tuple_iterator_next ?_ (F.args_tuple_iterator_next_1 _)));show wpAny _ _ (field (.ref it) 0 >>= _) _ _ s;refine wpAny_bind (wpAny_field qo qd (x:=.ref t) rfl ?_);show wpAny _ _ (if (Value.ref t == Value.none)=true then _ else _) _ _ s;rw [if_neg (show ¬((Value.ref t == Value.none)=true)from ab0)];show wpAny _ _ (field (.ref it) 1 >>= _) _ _ s;refine wpAny_bind (wpAny_field qo qd (x:=.int i 0) rfl ?_);show wpAny _ _ (seqItems? (.ref t) >>= _) _ _ s;refine wpAny_bind (wpAny_seqItems qot qdt ?_);simp only [ad8,qx];refine wpAny_bind (wpAny_rule (wpAny_bind (wpAny_setField qo qd (by simp) ?_)));show wpAny _ _ (newExc (.type "StopIteration") [] >>= _) _ _ _;refine wpAny_bind ?_;simp only [newExc,newTuple]
 refine wpAny_bind (wpAny_newObj_type ?_ (by size_fits));refine wpAny_bind (m:=firstArgMember _ _) (wpAny_of_eq (a:=Value.none) (by first | rfl | (simp only [firstArgMember];rfl)) ?_)
 refine wpAny_newObj_type ?_ (by size_fits);simp only [raiseNew];refine wpAny_bind (wpAny_handled ?_)
 first | rw [show A.in1.handled=none from hh] | rw [hh]
 exact wpAny_bind (wpAny_pure (wpAny_throw (hE _ _ (((Heap.SameBut.update ..).extBut.push _).push _) ⟨_,aa6 _ rfl,rfl⟩)))
end
theorem draws_tuple{prog:Program}{w:World}{A:Around}(hh:A.handled=none)(it t:Addr)(hne:t≠it)(its:Array Value):
  Draws prog w A it [it,t] its.size (fun i v=>its[i]?=some v) (fun i h=>h.IsTupleIter it t i∧h.IsTuple t its) where
 live:=fun _ _ st=>let ⟨o,ho,_⟩:=st.1;⟨o,ho⟩
 frame:=fun _ _ _ st hk=>⟨st.1.at fun o e=>hk it (by simp) o e,let ⟨o,ho,r⟩:=st.2;⟨o,hk t (by simp) o ho,r⟩⟩
 item:=fun i s Q E hi st hQ=>mU st.1 st.2 (x:=its[i]) (by simp [hi]) fun h' qi qs=>hQ _ h' s.toks (by simp [hi]) ⟨qi,st.2.extBut qs.extBut hne⟩ qs
 done:=fun s Q E st hE=>ph hh st.1 st.2 (by simp) hE
abbrev gk(h:Heap)(z TI TO:Addr)(f0:Value)(b1:Bool):Prop:=h.get? z=some { cls:=.type "zip",dict:=none,data:=.fields #[f0,.bool b1,.bool false,.ref TI,.ref TO],slots:=#[] }
def iA(f0:Value):Prop:=f0=.none∨∃T:Addr,f0=rawInt T
def ZipS(h:Heap)(z TI TO:Addr):Prop:=∃f0 b1,gk h z TI TO f0 b1∧iA f0
structure ZAp(z TI TO i1 i2:Addr)(f1 f2:List Addr):Prop where
 a1:TI≠z
 a2:TO≠z
 a3:TI≠TO
 m1:i1∈f1
 m2:i2∈f2
 z1:z∉f1
 z2:z∉f2
 t1:TI∉f1
 t2:TI∉f2
 o1:TO∉f1
 o2:TO∉f2
 n1:i1∉f2
 n2:i2∉f1
section
variable {prog:Program} {w:World} {A:Around} {E:Value→Shared→Prop} {s:Shared} {z TI TO i1 i2:Addr} {f1 f2:List Addr} {n1 n2 k:Nat} {P1 P2:Nat→Value→Prop} {S1 S2:Nat→Heap→Prop} {a b:Value}
theorem kM{it c:Addr}{fp:List Addr}{n i:Nat}{P:Nat→Value→Prop}{St:Nat→Heap→Prop}{h h':Heap}(D:Draws prog w A it fp n P St)(st:St i h)(sb:Heap.SameBut c h h')(hc:c∉fp):St i h':=
 D.frame i h h' st fun d hd o e=>(sb.2 d fun q=>hc (q▸hd)).trans e
theorem vt{M:Model}{c:Addr}{Q:Option Obj→Shared→Prop}(h:Q (s.heap.get? c) s):wpAny M A (loadIfAlive c) Q E s:=fun Γ p _=>by
 show Sem.wp M Γ (.loadIfAlive c .pure) _ _ p s;rw [Sem.wp_loadIfAlive];exact h
theorem j6{f0:Value}{b1:Bool}{Q:Bool→Shared→Prop}(qz:gk s.heap z TI TO f0 b1)(hf:iA f0)(h1:Q true s)
  (h2:∀h',f0≠.none→gk h' z TI TO f0 true→Heap.SameBut z s.heap h'→Q false { s with heap:=h' }):wpAny (model prog w) A (Builtin.SmallTypes.ownedTupleIsFree (.ref z)) Q E s:=by
 unfold Builtin.SmallTypes.ownedTupleIsFree;rcases hf with rfl | ⟨T,rfl⟩
 ·exact wpAny_bind (wpAny_field qz rfl (x:=.none) rfl (wpAny_pure h1))
 ·refine wpAny_bind (wpAny_field qz rfl (x:=rawInt T) rfl ?_)
  show wpAny _ _ (loadIfAlive ((T:Int)).toNat >>= _) _ _ s;refine wpAny_bind (vt ?_)
  cases s.heap.get? ((T:Int)).toNat with
  | none=>exact wpAny_pure h1
  | some o=>
   show wpAny _ _ (field (.ref z) 1 >>= _) _ _ s;refine wpAny_bind (wpAny_field qz rfl (x:=.bool b1) rfl ?_)
   cases b1 with
   | true=>exact wpAny_pure (h2 s.heap (fun z=>nomatch z) qz (Heap.SameBut.refl ..))
   | false=>
    show wpAny _ _ (setField (.ref z) 1 (.bool true) >>= _) _ _ s;exact wpAny_bind (wpAny_setField_rec qz (by simp) fun h' q e=>wpAny_pure (h2 h' (fun z=>nomatch z) q e))
theorem mw{f0:Value}{b1:Bool}{Q:Value→Shared→Prop}(D1:Draws prog w A i1 f1 n1 P1 S1)(D2:Draws prog w A i2 f2 n2 P2 S2)(ap:ZAp z TI TO i1 i2 f1 f2)(qz:gk s.heap z TI TO f0 b1)(hf:iA f0)(qI:IsPair s.heap TI (.ref i1) (.ref i2))(qO:IsPair s.heap TO a b)
  (st1:S1 k s.heap) (st2:S2 k s.heap) (k1:k < n1) (k2:k < n2)
  (hQ:∀x y h' tk,P1 k x→P2 k y→ZipS h' z TI TO→(f0=.none→IsZip h' z TI TO (rawInt s.heap.objs.size))→IsPair h' TI (.ref i1) (.ref i2)→(∃a b,IsPair h' TO a b)→S1 (k+1) h'→S2 (k+1) h'→IsPair h' s.heap.objs.size x y→h'.objs.size=s.heap.objs.size+1→
   (∀c o,c≠z→c≠TO→c≠i1→c≠i2→s.heap.get? c=some o→h'.get? c=some o)→Q (.ref s.heap.objs.size) { s with heap:=h',toks:=tk }) :
  wpAny (model prog w) A (Builtin.«zip.__next__» ⟨[.ref z],[]⟩) (fun fin s'=>∃v,fin=.done (.ret v)∧Q v s') E s:=by
 have c1:i1≠z:=fun q=>ap.z1 (q▸ap.m1);have c2:i2≠z:=fun q=>ap.z2 (q▸ap.m2);have c3:TO≠i1:=fun q=>ap.o1 (q▸ap.m1);have c4:TO≠i2:=fun q=>ap.o2 (q▸ap.m2);have c5:TI≠i1:=fun q=>ap.t1 (q▸ap.m1);have c6:TI≠i2:=fun q=>ap.t2 (q▸ap.m2);show wpAny _ _ (field (.ref z) 2 >>= _) _ _ _;refine wpAny_bind (wpAny_field qz rfl (x:=.bool false) rfl ?_);show wpAny _ _ (field (.ref z) 3 >>= _) _ _ _;refine wpAny_bind (wpAny_field qz rfl (x:=.ref TI) rfl ?_);refine wpAny_bind (wpAny_seqItems qI rfl ?_);show wpAny _ _ (Builtin.SmallTypes.ownedTupleIsFree (.ref z) >>= _) _ _ _;refine wpAny_bind (j6 qz hf ?_ fun h₀ n₀ q₀ e₀=>?_)
 ·simp only [if_true]
  refine wpAny_bind (wpAny_rule ?_);refine wpAny_bind (wpAny_field qz rfl (x:=.ref TO) rfl ?_);refine wpAny_bind (wpAny_setField_rec qz (by simp) fun h₁ z₁ e₁=>?_);replace z₁:gk h₁ z TI TO .ellipsis b1:=z₁;refine wpAny_bind ?_;simp only [List.zipIdx_cons,List.zipIdx_nil,af5,ai9];refine wpAny_bind (wpAny_bind (wpAny_onRaise ?_));show wpAny _ _ (Builtin.SmallTypes.nextOf (.ref i1) >>= _) _ _ _;refine wpAny_bind (D1.item k _ _ _ k1 (kM D1 st1 e₁ ap.z1) fun x h₂ tk₂ p1 u1 e₂=>wpAny_pure ?_);have o₂:IsPair h₂ TO a b:=e₂.extBut _ _ c3 (e₁.extBut _ _ ap.a2 qO);refine wpAny_bind (wpAny_seqItems o₂ rfl ?_);refine wpAny_bind (wpAny_updateSeq_pair o₂ fun h₃ o₃ e₃=>?_);replace o₃:IsPair h₃ TO x b:=o₃;refine wpAny_bind (wpAny_letGo (wpAny_pure ?_));refine wpAny_bind (wpAny_bind (wpAny_onRaise ?_));show wpAny _ _ (Builtin.SmallTypes.nextOf (.ref i2) >>= _) _ _ _;refine wpAny_bind (D2.item k _ _ _ k2 (kM D2 (kM D2 (kM D2 st2 e₁ ap.z2) e₂ ap.n1) e₃ ap.o2) fun y h₄ tk₄ p2 u2 e₄=>wpAny_pure ?_);have o₄:IsPair h₄ TO x b:=e₄.extBut _ _ c4 o₃;refine wpAny_bind (wpAny_seqItems o₄ rfl ?_);refine wpAny_bind (wpAny_updateSeq_pair o₄ fun h₅ o₅ e₅=>?_);replace o₅:IsPair h₅ TO x y:=o₅;refine wpAny_bind (wpAny_letGo (wpAny_pure (wpAny_pure ?_)));refine wpAny_bind (wpAny_seqItems o₅ rfl ?_);refine wpAny_bind (wpAny_newTuple ?_)
  have sz:h₅.objs.size=s.heap.objs.size:=by rw [e₅.1,e₄.1,e₃.1,e₂.1,e₁.1]
  have z₅:gk h₅ z TI TO .ellipsis b1:=e₅.extBut _ _ ap.a2.symm (e₄.extBut _ _ c2.symm (e₃.extBut _ _ ap.a2.symm (e₂.extBut _ _ c1.symm z₁)));have k₅:∀c o,c≠z→c≠TO→c≠i1→c≠i2→s.heap.get? c=some o→h₅.get? c=some o:=fun c o d1 d2 d3 d4 e=>e₅.extBut _ _ d2 (e₄.extBut _ _ d4 (e₃.extBut _ _ d2 (e₂.extBut _ _ d3 (e₁.extBut _ _ d1 e))));have u1₅:S1 (k+1) h₅:=kM D1 (kM D1 (kM D1 u1 e₃ ap.o1) e₄ ap.n2) e₅ ap.o1;have u2₅:S2 (k+1) h₅:=kM D2 u2 e₅ ap.o2;have zl:z < h₅.objs.size:=aa5 z₅;show wpAny _ _ (Builtin.SmallTypes.ownedTupleHandOut (.ref z) (.ref h₅.objs.size) >>= _) _ _ _;refine wpAny_bind ?_;unfold Builtin.SmallTypes.ownedTupleHandOut;have z₆:gk (h₅.push { cls:=.type "tuple",data:=.seq #[x,y] }) z TI TO .ellipsis b1:=aa3 _ z₅;refine wpAny_bind (wpAny_setField_rec z₆ (by simp) fun h₇ z₇ e₇=>?_);replace z₇:gk h₇ z TI TO (rawInt h₅.objs.size) b1:=z₇;refine wpAny_setField_rec z₇ (by simp) fun h₈ z₈ e₈=>?_;replace z₈:gk h₈ z TI TO (rawInt h₅.objs.size) false:=z₈;have up:∀c o,c≠z→h₅.get? c=some o→h₈.get? c=some o:=fun c o d1 e=>e₈.extBut _ _ d1 (e₇.extBut _ _ d1 (aa3 _ e));have p₈:IsPair h₈ h₅.objs.size x y:=e₈.extBut _ _ (ad3 zl) (e₇.extBut _ _ (ad3 zl) (aa6 _ rfl))
  have s8:h₈.objs.size=h₅.objs.size+1:=by rw [e₈.1,e₇.1,ae0]
  rw [sz]at z₈ p₈ s8;refine wpAny_pure ⟨_,rfl,?_⟩;show Q (.ref h₅.objs.size) _;rw [sz];exact hQ x y h₈ _ p1 p2 ⟨_,_,z₈,.inr ⟨_,rfl⟩⟩ (fun _=>z₈) (up _ _ ap.a1 (k₅ _ _ ap.a1 ap.a3 c5 c6 qI)) ⟨_,_,up _ _ ap.a2 o₅⟩ (D1.frame _ _ _ u1₅ fun d hd o e=>up d o (fun q=>ap.z1 (q▸hd)) e) (D2.frame _ _ _ u2₅ fun d hd o e=>up d o (fun q=>ap.z2 (q▸hd)) e) p₈ s8 fun c o d1 d2 d3 d4 e=>up c o d1 (k₅ c o d1 d2 d3 d4 e)
 ·simp only [ac7,if_false]
  refine wpAny_bind ?_;refine wpAny_arrayLoop ?_;simp only [af5,ai9];refine wpAny_bind (wpAny_bind (wpAny_holding ?_));show wpAny _ _ (Builtin.SmallTypes.nextOf (.ref i1) >>= _) _ _ _;refine wpAny_bind (D1.item k _ _ _ k1 (kM D1 st1 e₀ ap.z1) fun x h₂ tk₂ p1 u1 e₂=>wpAny_pure ?_);refine wpAny_pure ?_;refine wpAny_bind (wpAny_bind (wpAny_holding ?_));show wpAny _ _ (Builtin.SmallTypes.nextOf (.ref i2) >>= _) _ _ _;refine wpAny_bind (D2.item k _ _ _ k2 (kM D2 (kM D2 st2 e₀ ap.z2) e₂ ap.n1) fun y h₄ tk₄ p2 u2 e₄=>wpAny_pure ?_);refine wpAny_pure (wpAny_pure ?_);show wpAny _ _ (newTuple [x,y] >>= _) _ _ _;refine wpAny_bind (wpAny_newTuple ?_)
  have sz:h₄.objs.size=s.heap.objs.size:=by rw [e₄.1,e₂.1,e₀.1]
  have z₄:gk h₄ z TI TO f0 true:=e₄.extBut _ _ c2.symm (e₂.extBut _ _ c1.symm q₀);have k₄:∀c o,c≠z→c≠i1→c≠i2→s.heap.get? c=some o→h₄.get? c=some o:=fun c o d1 d3 d4 e=>e₄.extBut _ _ d4 (e₂.extBut _ _ d3 (e₀.extBut _ _ d1 e));have up:∀c o,h₄.get? c=some o→(h₄.push { cls:=.type "tuple",data:=.seq #[x,y] }).get? c=some o:=fun c o e=>aa3 _ e;have p₈:IsPair (h₄.push { cls:=.type "tuple",data:=.seq #[x,y] }) h₄.objs.size x y:=aa6 _ rfl;have s8:(h₄.push { cls:=.type "tuple",data:=.seq #[x,y] }).objs.size=h₄.objs.size+1:=ae0 ..;refine wpAny_pure ⟨_,rfl,?_⟩;show Q (.ref h₄.objs.size) _;rw [sz]at p₈ s8 ⊢;exact hQ x y _ _ p1 p2 ⟨_,_,up _ _ z₄,hf⟩ (fun z=>absurd z n₀) (up _ _ (k₄ _ _ ap.a1 c5 c6 qI)) ⟨_,_,up _ _ (k₄ _ _ ap.a2 c3 c4 qO)⟩ (D1.frame _ _ _ (kM D1 u1 e₄ ap.n2) fun d hd o e=>up d o e) (D2.frame _ _ _ u2 fun d hd o e=>up d o e) p₈ s8 fun c o d1 d2 d3 d4 e=>up c o (k₄ c o d1 d3 d4 e)
theorem qb{f0:Value}{b1:Bool}{Q:Fin→Shared→Prop}(D1:Draws prog w A i1 f1 n1 P1 S1)(D2:Draws prog w A i2 f2 n2 P2 S2)(ap:ZAp z TI TO i1 i2 f1 f2)(qz:gk s.heap z TI TO f0 b1)(hf:iA f0)(qI:IsPair s.heap TI (.ref i1) (.ref i2))(qO:IsPair s.heap TO a b)
  (st1:S1 k s.heap) (st2:S2 k s.heap) (kk:k=n1∨(k < n1∧k=n2))
  (hE:∀h' e tk,(∀c o,c≠z→c≠TO→c≠i1→c≠i2→s.heap.get? c=some o→h'.get? c=some o)→(∃o,h'.get? e=some o∧o.cls=.type "StopIteration")→E (.ref e) { s with heap:=h',toks:=tk }) :
  wpAny (model prog w) A (Builtin.«zip.__next__» ⟨[.ref z],[]⟩) Q E s:=by
 have c1:i1≠z:=fun q=>ap.z1 (q▸ap.m1);have c2:i2≠z:=fun q=>ap.z2 (q▸ap.m2);have c3:TO≠i1:=fun q=>ap.o1 (q▸ap.m1);have c4:TO≠i2:=fun q=>ap.o2 (q▸ap.m2);show wpAny _ _ (field (.ref z) 2 >>= _) _ _ _;refine wpAny_bind (wpAny_field qz rfl (x:=.bool false) rfl ?_);show wpAny _ _ (field (.ref z) 3 >>= _) _ _ _;refine wpAny_bind (wpAny_field qz rfl (x:=.ref TI) rfl ?_);refine wpAny_bind (wpAny_seqItems qI rfl ?_);show wpAny _ _ (Builtin.SmallTypes.ownedTupleIsFree (.ref z) >>= _) _ _ _;refine wpAny_bind (j6 qz hf ?_ fun h₀ n₀ q₀ e₀=>?_)
 ·simp only [if_true]
  refine wpAny_bind (wpAny_rule ?_);refine wpAny_bind (wpAny_field qz rfl (x:=.ref TO) rfl ?_);refine wpAny_bind (wpAny_setField_rec qz (by simp) fun h₁ z₁ e₁=>?_);replace z₁:gk h₁ z TI TO .ellipsis b1:=z₁;refine wpAny_bind ?_;simp only [List.zipIdx_cons,List.zipIdx_nil,af5,ai9];refine wpAny_bind (wpAny_bind (wpAny_onRaise ?_));show wpAny _ _ (Builtin.SmallTypes.nextOf (.ref i1) >>= _) _ _ _;rcases kk with kk | ⟨k1,kk⟩
  ·subst kk
   refine wpAny_bind (D1.done _ _ _ (kM D1 st1 e₁ ap.z1) fun h₂ e e₂ he=>?_);obtain⟨oe,hoe,hce⟩:=he;have z₂:gk h₂ z TI TO .ellipsis b1:=e₂ _ _ c1.symm z₁
   have ez:e≠z:=fun q=>by subst q;rw [z₂]at hoe;cases hoe;simp at hce
   exact wpAny_setField_rec z₂ (by simp) fun h₃ _ e₃=>hE h₃ e _ (fun c o d1 _ d3 _ q=>e₃.extBut _ _ d1 (e₂ _ _ d3 (e₁.extBut _ _ d1 q))) ⟨oe,e₃.extBut _ _ ez hoe,hce⟩
  ·subst kk
   refine wpAny_bind (D1.item k _ _ _ k1 (kM D1 st1 e₁ ap.z1) fun x h₂ tk₂ p1 u1 e₂=>wpAny_pure ?_);have o₂:IsPair h₂ TO a b:=e₂.extBut _ _ c3 (e₁.extBut _ _ ap.a2 qO);refine wpAny_bind (wpAny_seqItems o₂ rfl ?_);refine wpAny_bind (wpAny_updateSeq_pair o₂ fun h₃ o₃ e₃=>?_);refine wpAny_bind (wpAny_letGo (wpAny_pure ?_));refine wpAny_bind (wpAny_bind (wpAny_onRaise ?_));show wpAny _ _ (Builtin.SmallTypes.nextOf (.ref i2) >>= _) _ _ _;refine wpAny_bind (D2.done _ _ _ (kM D2 (kM D2 (kM D2 st2 e₁ ap.z2) e₂ ap.n1) e₃ ap.o2) fun h₄ e e₄ he=>?_);obtain⟨oe,hoe,hce⟩:=he;have z₄:gk h₄ z TI TO .ellipsis b1:=e₄ _ _ c2.symm (e₃.extBut _ _ ap.a2.symm (e₂.extBut _ _ c1.symm z₁))
   have ez:e≠z:=fun q=>by subst q;rw [z₄]at hoe;cases hoe;simp at hce
   exact wpAny_setField_rec z₄ (by simp) fun h₅ _ e₅=>hE h₅ e _ (fun c o d1 d2 d3 d4 q=>e₅.extBut _ _ d1 (e₄ _ _ d4 (e₃.extBut _ _ d2 (e₂.extBut _ _ d3 (e₁.extBut _ _ d1 q))))) ⟨oe,e₅.extBut _ _ ez hoe,hce⟩
 ·simp only [ac7,if_false]
  refine wpAny_bind ?_;refine wpAny_arrayLoop ?_;simp only [af5,ai9];refine wpAny_bind (wpAny_bind (wpAny_holding ?_));show wpAny _ _ (Builtin.SmallTypes.nextOf (.ref i1) >>= _) _ _ _;rcases kk with kk | ⟨k1,kk⟩
  ·subst kk
   refine wpAny_bind (D1.done _ _ _ (kM D1 st1 e₀ ap.z1) fun h₂ e e₂ he=>?_);exact hE h₂ e _ (fun c o d1 _ d3 _ q=>e₂ _ _ d3 (e₀.extBut _ _ d1 q)) he
  ·subst kk
   refine wpAny_bind (D1.item k _ _ _ k1 (kM D1 st1 e₀ ap.z1) fun x h₂ tk₂ p1 u1 e₂=>wpAny_pure ?_);refine wpAny_pure ?_;refine wpAny_bind (wpAny_bind (wpAny_holding ?_));show wpAny _ _ (Builtin.SmallTypes.nextOf (.ref i2) >>= _) _ _ _;refine wpAny_bind (D2.done _ _ _ (kM D2 (kM D2 st2 e₀ ap.z2) e₂ ap.n1) fun h₄ e e₄ he=>?_);exact hE h₄ e _ (fun c o d1 d2 d3 d4 q=>e₄ _ _ d4 (e₂.extBut _ _ d3 (e₀.extBut _ _ d1 q))) he
theorem nextZip_item{Q:Option Value→Shared→Prop}(D1:Draws prog w A.in1 i1 f1 n1 P1 S1)(D2:Draws prog w A.in1 i2 f2 n2 P2 S2)(ap:ZAp z TI TO i1 i2 f1 f2)(qz:IsZip s.heap z TI TO .none)(qI:IsPair s.heap TI (.ref i1) (.ref i2))(qO:IsPair s.heap TO a b)
  (st1:S1 k s.heap) (st2:S2 k s.heap) (k1:k < n1) (k2:k < n2)
  (hQ:∀x y h' tk,P1 k x→P2 k y→IsZip h' z TI TO (rawInt s.heap.objs.size)→(∃a b,IsPair h' TO a b)→S1 (k+1) h'→S2 (k+1) h'→IsPair h' s.heap.objs.size x y→h'.objs.size=s.heap.objs.size+1→
   (∀c o,c≠z→c≠TO→c≠i1→c≠i2→s.heap.get? c=some o→h'.get? c=some o)→Q (some (.ref s.heap.objs.size)) { s with heap:=h',toks:=tk }):wpAny (model prog w) A (pyNext (.ref z)) Q E s:=by
 have ty:s.TypeIs (.ref z) "zip":=⟨_,qz,rfl⟩;unfold pyNext
 exact wpAny_bind (wpAny_attempt (wpAny_callSpecial?_slot (name:=Str.ofString "__next__") ty F.slot_zip_next (wpAny_call_entry F.slot_zip_next ty F.entry_zip_next
   (mw D1 D2 ap qz (.inl rfl) qI qO st1 st2 k1 k2 fun x y h' tk b1 b2 b3 b4 b5 b6 b7 b8 b9 b10 b11=>wpAny_pure (hQ x y h' tk b1 b2 (b4 rfl) b6 b7 b8 b9 b10 b11)) (F.args_zip_next_1 _))))
theorem nextZip_end{Q:Option Value→Shared→Prop}(D1:Draws prog w A.in1 i1 f1 n1 P1 S1)(D2:Draws prog w A.in1 i2 f2 n2 P2 S2)(ap:ZAp z TI TO i1 i2 f1 f2)(qz:IsZip s.heap z TI TO .none)(qI:IsPair s.heap TI (.ref i1) (.ref i2))(qO:IsPair s.heap TO a b)
  (st1:S1 k s.heap) (st2:S2 k s.heap) (kk:k=n1∨(k < n1∧k=n2))
  (hQ:∀h' tk,(∀c o,c≠z→c≠TO→c≠i1→c≠i2→s.heap.get? c=some o→h'.get? c=some o)→Q none { s with heap:=h',toks:=tk }):wpAny (model prog w) A (pyNext (.ref z)) Q E s:=by
 have ty:s.TypeIs (.ref z) "zip":=⟨_,qz,rfl⟩;unfold pyNext;refine wpAny_bind (wpAny_attempt (wpAny_callSpecial?_slot (name:=Str.ofString "__next__") ty F.slot_zip_next (wpAny_call_entry F.slot_zip_next ty F.entry_zip_next (qb D1 D2 ap qz (.inl rfl) qI qO st1 st2 kk fun h' e tk hk he=>?_) (F.args_zip_next_1 _))));obtain⟨oe,hoe,hce⟩:=he;exact wpAny_bind (wpAny_isInstance (T:="StopIteration") (b:=true) ⟨oe,hoe,hce⟩ isSubtype_stop (wpAny_pure (hQ _ _ hk)))
end
def itRec(l:Bool)(a:Addr):Obj:={ cls:=.type (if l then "list_iterator" else "tuple_iterator"),data:=.fields #[.ref a,.int 0 0] }
def IsSeq(l:Bool)(h:Heap)(a:Addr)(xs:Array Value):Prop:=if l=true then h.IsList a xs else h.IsTuple a xs
theorem IsSeq.push{l:Bool}{h:Heap}{a:Addr}{xs:Array Value}(q:IsSeq l h a xs)(o:Obj):IsSeq l (h.push o) a xs:=by
 cases l
 ·exact Heap.IsTuple.push (show h.IsTuple a xs from q) o
 ·exact Heap.IsList.push (show h.IsList a xs from q) o
theorem fF{prog:Program}{w:World}{A:Around}{E:Value→Shared→Prop}{s:Shared}{l:Bool}{a:Addr}{xs:Array Value}{Q:Value→Shared→Prop}(q:IsSeq l s.heap a xs)(h:Q (.ref s.heap.objs.size) { s with heap:=s.heap.push (itRec l a) }):wpAny (model prog w) A (pyIter (.ref a)) Q E s:=by
 cases l
 ·exact wpAny_pyIter_tuple (show s.heap.IsTuple a xs from q) h
 ·exact wpAny_pyIter_list (show s.heap.IsList a xs from q) h
abbrev Dz(h:Heap)(l1:Bool)(a1:Addr):Heap:=h.push (itRec l1 a1)
abbrev DA(h:Heap)(l1 l2:Bool)(a1 a2:Addr):Heap:=(Dz h l1 a1).push (itRec l2 a2)
abbrev DB(h:Heap)(l1 l2:Bool)(a1 a2:Addr):Heap:=(DA h l1 l2 a1 a2).push { cls:=.type "tuple",data:=.seq #[.ref h.objs.size,.ref (Dz h l1 a1).objs.size] }
abbrev DC(h:Heap)(l1 l2:Bool)(a1 a2:Addr):Heap:=(DB h l1 l2 a1 a2).push { cls:=.type "tuple",data:=.seq #[.none,.none] }
abbrev BP(h:Heap)(l1 l2:Bool)(a1 a2:Addr):Heap:=(DC h l1 l2 a1 a2).push { cls:=.type "zip",data:=.fields #[.none,.bool false,.bool false,.ref (DA h l1 l2 a1 a2).objs.size,.ref (DB h l1 l2 a1 a2).objs.size] }
theorem uz(l1 l2:Bool)(a1 a2:Addr)(xs ys:Array Value):
  Meets (Builtin.«zip.__new__» ⟨[.type "zip",.ref a1,.ref a2],[]⟩) (fun _ R s=>IsSeq l1 s.heap a1 xs∧IsSeq l2 s.heap a2 ys∧R (.ok (.ret (.ref (DC s.heap l1 l2 a1 a2).objs.size))) { s with heap:=BP s.heap l1 l2 a1 a2 }):=
 .of_wp fun prog w A R s h=>by
  obtain⟨hp,g,d,tk,os⟩:=s;obtain⟨q1,q2,h⟩:=h;have hsub:=sub_zip;have u1:IsSeq l1 (Shared.heap ⟨hp,g,d,tk,os⟩) a1 xs:=q1;have u2:IsSeq l2 (Shared.heap ⟨hp.push (itRec l1 a1),g,d,tk,os⟩) a2 ys:=IsSeq.push q2 _
  wp_walk using fF u1,fF u2
  exact⟨_,rfl,h⟩
section
variable {prog:Program} {w:World} {A:Around} {E:Value→Shared→Prop} {s:Shared}
theorem call_zip{l1 l2:Bool}{a1 a2:Addr}{xs ys:Array Value}{Q:Value→Shared→Prop}(q1:IsSeq l1 s.heap a1 xs)(q2:IsSeq l2 s.heap a2 ys)
  (h:∀h',IsZip h' (s.heap.objs.size+4) (s.heap.objs.size+2) (s.heap.objs.size+3) .none→IsPair h' (s.heap.objs.size+2) (.ref s.heap.objs.size) (.ref (s.heap.objs.size+1))→
   IsPair h' (s.heap.objs.size+3) .none .none→h'.get? s.heap.objs.size=some (itRec l1 a1)→h'.get? (s.heap.objs.size+1)=some (itRec l2 a2)→h'.objs.size=s.heap.objs.size+5→
   (∀c o,s.heap.get? c=some o→h'.get? c=some o)→Q (.ref (s.heap.objs.size+4)) { s with heap:=h' }):wpAny (model prog w) A (call (.type "zip") [.ref a1,.ref a2]) Q E s:=by
 refine callType_new F.called_zip (by decide) (F.typeCall_zip_2 _ _) (F.newCall_zip_2 _ _) (fun obj=>F.args_object_init_3 obj _ _) F.entry_zip_new (uz l1 l2 a1 a2 xs ys) ⟨q1,q2,?_⟩;have e1:(Dz s.heap l1 a1).objs.size=s.heap.objs.size+1:=ae0 ..
 have e2:(DA s.heap l1 l2 a1 a2).objs.size=s.heap.objs.size+2:=by rw [ae0,e1]
 have e3:(DB s.heap l1 l2 a1 a2).objs.size=s.heap.objs.size+3:=by rw [ae0,e2]
 have e4:(DC s.heap l1 l2 a1 a2).objs.size=s.heap.objs.size+4:=by rw [ae0,e3]
 have e5:(BP s.heap l1 l2 a1 a2).objs.size=s.heap.objs.size+5:=by rw [ae0,e4]
 have g5:(BP s.heap l1 l2 a1 a2).get? (DC s.heap l1 l2 a1 a2).objs.size=some _:=aa6 _ rfl;have g4:(BP s.heap l1 l2 a1 a2).get? (DB s.heap l1 l2 a1 a2).objs.size=some _:=aa3 _ (aa6 _ rfl);have g3:(BP s.heap l1 l2 a1 a2).get? (DA s.heap l1 l2 a1 a2).objs.size=some _:=aa3 _ (aa3 _ (aa6 _ rfl));have g2:(BP s.heap l1 l2 a1 a2).get? (Dz s.heap l1 a1).objs.size=some (itRec l2 a2):=aa3 _ (aa3 _ (aa3 _ (aa6 _ rfl)));have g1:(BP s.heap l1 l2 a1 a2).get? s.heap.objs.size=some (itRec l1 a1):=aa3 _ (aa3 _ (aa3 _ (aa3 _ (aa6 _ rfl))));show _∧_;rw [e2,e3,e4]at g5;rw [e1,e2]at g3;rw [e3]at g4;rw [e1]at g2;rw [e4];exact⟨⟨_,g5,rfl⟩,h _ g5 g3 g4 g1 g2 e5 fun c o q=>aa3 _ (aa3 _ (aa3 _ (aa3 _ (aa3 _ q))))⟩
end
end L3
namespace L2
open PySem PySem.Spec PyProof.Rows
def eu(K:Frag)(l:Bool)(H:Hp)(a:Addr)(xs:List V):Prop:=if l=true then aI K H a xs else bf K H a xs
def fi(l:Bool)(h:Heap)(it a:Addr)(i:Nat):Prop:=if l=true then h.IsListIter it a i else h.IsTupleIter it a i
theorem fi.at{l:Bool}{h h':Heap}{it a:Addr}{i:Nat}(x:fi l h it a i)(e:∀o,h.get? it=some o→h'.get? it=some o):fi l h' it a i:=by
 cases l
 ·exact Heap.IsTupleIter.at (show h.IsTupleIter it a i from x) e
 ·exact Heap.IsListIter.at (show h.IsListIter it a i from x) e
theorem fi.rec{l:Bool}{h:Heap}{it a:Addr}(e:h.get? it=some (L3.itRec l a)):fi l h it a 0:=by
 cases l
 ·exact⟨_,e,rfl,rfl⟩
 ·exact⟨_,e,rfl,rfl⟩
theorem fi.obj{l:Bool}{h:Heap}{it a:Addr}{i:Nat}(x:fi l h it a i):∃o,h.get? it=some o∧∀v,o.data≠.cell v:=by
 cases l
 ·obtain⟨o,e,_,d⟩:=(show h.IsTupleIter it a i from x)
  exact⟨o,e,fun v z=>by rw [d]at z;cases z⟩
 ·obtain⟨o,e,_,d⟩:=(show h.IsListIter it a i from x)
  exact⟨o,e,fun v z=>by rw [d]at z;cases z⟩
theorem bU{P:Program}{w:World}{A:Around}(hh:A.handled=none)(l:Bool)(it a:Addr)(hne:a≠it)(its:Array Value):
  Draws P w A it [it,a] its.size (fun i v=>its[i]?=some v) (fun i h=>fi l h it a i∧L3.IsSeq l h a its):=by
 cases l
 ·exact L3.draws_tuple hh it a hne its
 ·exact Draws.list hh it a hne its
theorem az.seqB{X:Cx}{pins:List (Addr×Obj)}{σ:St}{H:Hp}{s:Shared}{l:Bool}{a:Addr}{xs:List V}(I:az X pins σ H s)(h:eu X.K l H a xs):∃its:List Value,aH xs its∧L3.IsSeq l s.heap a its.toArray∧xs.length≤sizeLine:=by
 cases l
 ·obtain⟨its,r,p,z⟩:=I.tuple (show bf X.K H a xs from h)
  exact⟨its,r,p,z⟩
 ·obtain⟨its,r,p,z⟩:=I.list (show aI X.K H a xs from h)
  exact⟨its,r,p.isList,z⟩
theorem az.seqB_inj{X:Cx}{pins:List (Addr×Obj)}{σ:St}{H:Hp}{s:Shared}{l:Bool}{a:Addr}{xs ys:List V}(I:az X pins σ H s)(h:eu X.K l H a xs)(h':eu X.K l H a ys):xs=ys:=by
 cases l
 ·exact I.tuple_inj (show bf X.K H a xs from h) h'
 ·exact I.list_inj (show aI X.K H a xs from h) h'
theorem az.seqB_ne{X:Cx}{pins:List (Addr×Obj)}{σ:St}{H:Hp}{s:Shared}{l:Bool}{a b:Addr}{xs:List V}(I:az X pins σ H s)(h:eu X.K l H a xs)(f:iz X pins H b):a≠b:=by
 obtain⟨f0,_,_,f3,_,_⟩:=f
 have tr:∀{o:HO},Rd H a o→a≠b:=fun {o} r=>by
  rcases r with r | ⟨_,r⟩
  ·exact aq r f0
  ·exact aq r f0
 have kb:∀{o:Obj},X.K.lookup a=some o→a≠b:=fun {o} hk=>by
  have hb:=I.ok.mod.kin a o hk;rcases f3 with z | z
  ·exact fun q=>I.ok.noex a o hb (q▸z)
  ·exact ab1 (ab2 (aa5 hb) (ac0 I.ok.bsz z))
 cases l
 ·rcases(show bf X.K H a xs from h)with h | ⟨o,_,_,hk,_⟩
  ·exact tr h
  ·exact kb hk
 ·rcases(show aI X.K H a xs from h)with h | ⟨o,_,_,hk,_⟩
  ·exact tr h
  ·exact kb hk
def DH(K:Frag)(l1 l2:Bool)(a1 a2:Addr):It:=
 ⟨fun i H=>∃xs ys x y,eu K l1 H a1 xs∧eu K l2 H a2 ys∧xs[i]?=some x∧ys[i]?=some y,
  fun i H v H'=>∃p x y,v=.ref p∧H p=none∧H'=upd H p (.tup [x,y])∧(∀xs,eu K l1 H a1 xs→xs[i]?=some x)∧∀ys,eu K l2 H a2 ys→ys[i]?=some y,
  fun i H=>∃xs ys,eu K l1 H a1 xs∧eu K l2 H a2 ys∧(i=xs.length∨(i < xs.length∧i=ys.length))⟩
theorem xU{P:Program}{w:World}{K:Frag}{elts:List Expr}{kt:Nat}{pt:Pos}(l1 l2:Bool)(a1 a2 z TI TO i1 i2:Addr)(nd:[z,TI,TO,i1,i2].Nodup):
  jt P w K (.Tuple elts kt pt) (DH K l1 l2 a1 a2) [z,TI,TO,i1,i2] z
   (fun i h=>IsZip h z TI TO .none∧IsPair h TI (.ref i1) (.ref i2)∧(∃a b,IsPair h TO a b)∧fi l1 h i1 a1 i∧fi l2 h i2 a2 i):=by
 have nd':(z≠TI∧z≠TO∧z≠i1∧z≠i2)∧(TI≠TO∧TI≠i1∧TI≠i2)∧(TO≠i1∧TO≠i2)∧i1≠i2:=by
  simpa [not_or]using nd
 obtain⟨⟨d1,d2,d3,d4⟩,⟨d5,d6,d7⟩,⟨d8,d9⟩,d10⟩:=nd'
 have zap:∀{X:Cx} {pins:List (Addr×Obj)} {σ:St} {H:Hp} {s:Shared} {xs ys:List V},az X pins σ H s→(∀b∈[z,TI,TO,i1,i2],iz X pins H b)→eu X.K l1 H a1 xs→eu X.K l2 H a2 ys→L3.ZAp z TI TO i1 i2 [i1,a1] [i2,a2]:=fun {X pins σ H s xs ys} I hf q1 q2=>by
  have n1:∀b∈[z,TI,TO,i1,i2],a1≠b:=fun b hb=>I.seqB_ne q1 (hf b hb);have n2:∀b∈[z,TI,TO,i1,i2],a2≠b:=fun b hb=>I.seqB_ne q2 (hf b hb);refine⟨d1.symm,d2.symm,d5,by simp,by simp,?_,?_,?_,?_,?_,?_,?_,?_⟩
  ·simp only [ab6,ac4,or_false,not_or];exact⟨d3,(n1 z (by simp)).symm⟩
  ·simp only [ab6,ac4,or_false,not_or];exact⟨d4,(n2 z (by simp)).symm⟩
  ·simp only [ab6,ac4,or_false,not_or];exact⟨d6,(n1 TI (by simp)).symm⟩
  ·simp only [ab6,ac4,or_false,not_or];exact⟨d7,(n2 TI (by simp)).symm⟩
  ·simp only [ab6,ac4,or_false,not_or];exact⟨d8,(n1 TO (by simp)).symm⟩
  ·simp only [ab6,ac4,or_false,not_or];exact⟨d9,(n2 TO (by simp)).symm⟩
  ·simp only [ab6,ac4,or_false,not_or];exact⟨d10,(n2 i1 (by simp)).symm⟩
  ·simp only [ab6,ac4,or_false,not_or];exact⟨d10.symm,(n1 i2 (by simp)).symm⟩
 refine⟨by simp,?_,?_,?_,?_,?_⟩
 ·rintro i h ⟨qz,qI,⟨a,b,qO⟩,u1,u2⟩ c hc
  have hc':c=z∨c=TI∨c=TO∨c=i1∨c=i2:=by simpa using hc
  rcases hc' with e | e | e | e | e
  ·subst e;exact⟨_,qz,fun v q=>by cases q⟩
  ·subst e;exact⟨_,qI,fun v q=>by cases q⟩
  ·subst e;exact⟨_,qO,fun v q=>by cases q⟩
  ·subst e;exact u1.obj
  ·subst e;exact u2.obj
 ·rintro i h h' ⟨qz,qI,⟨a,b,qO⟩,u1,u2⟩ k
  exact⟨k z (by simp) _ qz,k TI (by simp) _ qI,⟨a,b,k TO (by simp) _ qO⟩,u1.at fun o e=>k i1 (by simp) o e,u2.at fun o e=>k i2 (by simp) o e⟩
 ·rintro X hP hw hK hc i pins s σ H E I hf ⟨qz,qI,⟨a,b,qO⟩,u1,u2⟩ ⟨xs,ys,x,y,q1,q2,hx,hy⟩
  subst hP hw hK;have hh:X.A.in1.handled=none:=I.ok.hd hc;obtain⟨its1,r1,p1,z1⟩:=I.seqB q1;obtain⟨its2,r2,p2,z2⟩:=I.seqB q2;have D1:=bU (P:=X.prog) (w:=X.w) hh l1 i1 a1 (I.seqB_ne q1 (hf i1 (by simp))) its1.toArray;have D2:=bU (P:=X.prog) (w:=X.w) hh l2 i2 a2 (I.seqB_ne q2 (hf i2 (by simp))) its2.toArray
  have lx:i < its1.toArray.size:=by
   have:=(aa1.mp hx).1
   rw [aa7,←r1.length];exact this
  have ly:i < its2.toArray.size:=by
   have:=(aa1.mp hy).1
   rw [aa7,←r2.length];exact this
  refine L3.nextZip_item D1 D2 (zap I hf q1 q2) qz qI qO ⟨u1,p1⟩ ⟨u2,p2⟩ lx ly fun v1 v2 h' tk e1 e2 z' o' s1' s2' pr sz kk=>?_;obtain⟨w1,g1,rx⟩:=r1.get hx;obtain⟨w2,g2,ry⟩:=r2.get hy
  have ev1:v1=w1:=by
   have:its1[i]?=some v1:=by simpa using e1
   rw [g1]at this;exact(Option.some.inj this).symm
  have ev2:v2=w2:=by
   have:its2[i]?=some v2:=by simpa using e2
   rw [g2]at this;exact(Option.some.inj this).symm
  subst ev1 ev2;obtain⟨oa,ob,o'⟩:=o';refine⟨_,rfl,wpAny_letOwnedTupleGo_zip (s:={ s with heap:=h',toks:=tk }) z' fun h2 z2' sb=>?_⟩;have fz:s.heap.objs.size≠z:=ad3 (aa5 qz);have Hn:H s.heap.objs.size=none:=I.hok.fresh (aa8 _)
  have kp:∀c o,c∉[z,TI,TO,i1,i2]→s.heap.get? c=some o→h2.get? c=some o:=fun c o hc e=>by
   have hc':c≠z∧c≠TI∧c≠TO∧c≠i1∧c≠i2:=by simpa [not_or]using hc
   exact(sb.2 c hc'.1).trans (kk c o hc'.1 hc'.2.2.1 hc'.2.2.2.1 hc'.2.2.2.2 e)
  have nf:∀{c:Addr} {u:HO},H c=some u→c∉[z,TI,TO,i1,i2]:=fun {c u} e hc=>by
   have:=(hf c hc).1
   rw [e]at this;cases this
  have pr2:h2.get? s.heap.objs.size=some { cls:=.type "tuple",data:=.seq #[v1,v2] }:=(sb.2 _ fz).trans pr
  have I2:az X pins σ (upd H s.heap.objs.size (.tup [x,y])) { s with heap:=h2,toks:=tk }:=by
   refine I.step (g':=s.gens) (d':=s.drawn) (ch:=[z,TI,TO,i1,i2]) (fun c hc=>⟨(hf c hc).2.2.2.1,(hf c hc).2.1,(hf c hc).2.2.2.2.1,(hf c hc).2.2.2.2.2⟩) (fun c o _ _ hc e _=>kp c o hc e) (fun c o _ _ hc e _=>⟨o.slots,kp c o hc e⟩)
    (fun c o _ e n=>by rw [ai (ab1 (aa5 e))];exact n) (fun c o hc e=>⟨o,kp c o hc e⟩) (fun c us e=>by rw [ai (aq e Hn)];exact e) (fun c o u e=>by rw [ai (aq e Hn)];exact e)
    (fun c ps e=>⟨#[],by rw [ai (aq e Hn),e];simp⟩) (fun m hm=>?_) (fun c u e=>?_) I.bare
   ·obtain⟨o,es,ep,ho,r⟩:=hm
    exact⟨o,es,ep,kp _ o (fun q=>(hf _ q).2.1 rfl) ho,r⟩
   ·by_cases hcs:c=s.heap.objs.size
    ·subst hcs
     rw [ag]at e;cases e;exact⟨by rw [sizeLine_eq];show 2≤16777216;omega,[v1,v2],.cons rx (.cons ry .nil),_,pr2,rfl,_,rfl⟩
    ·rw [ai hcs]at e
     refine(I.hok c u e).stay (fun d o hd q=>kp d o ?_ q) (fun d q=>by rw [ai (aq q Hn)];exact q) fun d us q=>by rw [ai (aq q Hn)];exact q
     rcases hd with hd | hd
     ·rw [hd];exact nf e
     ·exact nf hd
  refine⟨.ref s.heap.objs.size,_,I2,rfl,⟨_,x,y,rfl,Hn,rfl,fun us hu=>by rw [I.seqB_inj hu q1];exact hx,fun us hu=>by rw [I.seqB_inj hu q2];exact hy⟩,⟨z2',?_,⟨oa,ob,?_⟩,?_,?_⟩,fun c hc=>?_⟩
  ·exact(sb.2 _ d1.symm).trans (kk TI _ d1.symm d5 d6 d7 qI)
  ·exact(sb.2 _ d2.symm).trans o'
  ·exact s1'.1.at fun o e=>(sb.2 _ d3.symm).trans e
  ·exact s2'.1.at fun o e=>(sb.2 _ d4.symm).trans e
  ·show upd H s.heap.objs.size (.tup [x,y]) c=none
   have lt:c < s.heap.objs.size:=by
    have hc':c=z∨c=TI∨c=TO∨c=i1∨c=i2:=by simpa using hc
    rcases hc' with e | e | e | e | e
    ·subst e;exact aa5 qz
    ·subst e;exact aa5 qI
    ·subst e;exact aa5 qO
    ·subst e;obtain⟨o,e,_⟩:=u1.obj;exact aa5 e
    ·subst e;obtain⟨o,e,_⟩:=u2.obj;exact aa5 e
   rw [ai (ab1 lt)];exact(hf c hc).1
 ·rintro X hP hw hK hc i pins s σ H E I hf ⟨qz,qI,⟨a,b,qO⟩,u1,u2⟩ ⟨xs,ys,q1,q2,hend⟩
  subst hP hw hK;have hh:X.A.in1.handled=none:=I.ok.hd hc;obtain⟨its1,r1,p1,z1⟩:=I.seqB q1;obtain⟨its2,r2,p2,z2⟩:=I.seqB q2;have D1:=bU (P:=X.prog) (w:=X.w) hh l1 i1 a1 (I.seqB_ne q1 (hf i1 (by simp))) its1.toArray;have D2:=bU (P:=X.prog) (w:=X.w) hh l2 i2 a2 (I.seqB_ne q2 (hf i2 (by simp))) its2.toArray
  have kk:i=its1.toArray.size∨(i < its1.toArray.size∧i=its2.toArray.size):=by
   rw [aa7,aa7,←r1.length,←r2.length];exact hend
  refine L3.nextZip_end D1 D2 (zap I hf q1 q2) qz qI qO ⟨u1,p1⟩ ⟨u2,p2⟩ kk fun h' tk k=>⟨rfl,?_⟩
  have nf:∀{c:Addr} {u:HO},H c=some u→c∉[z,TI,TO,i1,i2]:=fun {c u} e hc=>by
   have:=(hf c hc).1
   rw [e]at this;cases this
  have kp:∀c o,c∉[z,TI,TO,i1,i2]→s.heap.get? c=some o→h'.get? c=some o:=fun c o hc e=>by
   have hc':c≠z∧c≠TI∧c≠TO∧c≠i1∧c≠i2:=by simpa [not_or]using hc
   exact k c o hc'.1 hc'.2.2.1 hc'.2.2.2.1 hc'.2.2.2.2 e
  refine I.step (g':=s.gens) (d':=s.drawn) (ch:=[z,TI,TO,i1,i2]) (fun c hc=>⟨(hf c hc).2.2.2.1,(hf c hc).2.1,(hf c hc).2.2.2.2.1,(hf c hc).2.2.2.2.2⟩) (fun c o _ _ hc e _=>kp c o hc e) (fun c o _ _ hc e _=>⟨o.slots,kp c o hc e⟩)
    (fun c o _ e n=>n) (fun c o hc e=>⟨o,kp c o hc e⟩) (fun c us e=>e) (fun c o u e=>e) (fun c ps e=>⟨#[],by rw [e];simp⟩) (fun m hm=>?_) (fun c u e=>?_) I.bare
  ·obtain⟨o,es,ep,ho,r⟩:=hm
   exact⟨o,es,ep,kp _ o (fun q=>(hf _ q).2.1 rfl) ho,r⟩
  ·refine(I.hok c u e).stay (fun d o hd q=>kp d o ?_ q) (fun d q=>q) fun d us q=>q
   rcases hd with hd | hd
   ·rw [hd];exact nf e
   ·exact nf hd
 ·rintro A i s Q E ⟨qz,_⟩ h
  exact wpAny_pyIter_zip qz h
def Cw(K:Frag)(ta:TA):TI:=fun σ H R=>ta σ H fun vs H1=>∃l1 l2 a1 a2,vs=[.ref a1,.ref a2]∧(∃xs,eu K l1 H1 a1 xs)∧(∃ys,eu K l2 H1 a2 ys)∧R (DH K l1 l2 a1 a2) H1
theorem w6{X:Cx}{elts:List Expr}{kt:Nat}{pt:Pos}{a b:Expr}{ta:TA}{p pos:Pos}(hg:Gl X "zip")(hm:X.mg "zip"=none)(ha:PA X [a,b] ta)(hs:starEach [a,b] X.env=[(false,eval a X.env),(false,eval b X.env)]:=by rfl)(hs2:starEach [b] X.env=[(false,eval b X.env)]:=by rfl):
  PI X (.Tuple elts kt pt) (.Call (.Name "zip" p) [a,b] [] pos) (Cw X.K ta):=by
 intro pins s σ H R I h;refine Call_ (cb I hg hm boot_zip (PyProof.Rows.callWith_type1 (bz (ha pos pins s σ H _ I h) fun us s1 ⟨vs,H1,I1,r1,q1⟩=>?_) (by rw [hs,hs2]) (by rw [hs2];rfl)));obtain⟨l1,l2,a1,a2,e,⟨xs,q1⟩,⟨ys,q2⟩,q⟩:=q1;subst e;obtain⟨u,u',rfl,e1,e2⟩:=kA r1;cases e1;cases e2;obtain⟨its1,r1,p1,z1⟩:=I1.seqB q1;obtain⟨its2,r2,p2,z2⟩:=I1.seqB q2;refine L3.call_zip p1 p2 fun h' qz qI qO g1 g2 sz kp=>wpAny_pyIter_zip qz ?_
 refine⟨s1.heap.objs.size+4,[s1.heap.objs.size+4,s1.heap.objs.size+2,s1.heap.objs.size+3,s1.heap.objs.size,s1.heap.objs.size+1],_,_,H1,rfl,I1.kept (h':=h') (t':=s1.toks) kp,
  xU l1 l2 a1 a2 _ _ _ _ _ (by simp),⟨qz,qI,⟨_,_,qO⟩,fi.rec g1,fi.rec g2⟩,fun c hc=>?_,q⟩
 have hc':s1.heap.objs.size≤c:=by
  have:c=s1.heap.objs.size+4∨c=s1.heap.objs.size+2∨c=s1.heap.objs.size+3∨c=s1.heap.objs.size∨c=s1.heap.objs.size+1:=by simpa using hc
  rcases this with e | e | e | e | e<;>(rw [e];first | exact aa8 _ | exact ai0 _ _)
 exact I1.fpOk hc' (I1.hok.fresh hc')
end L2
namespace L2
open PySem PySem.Spec PyProof.Rows
def Ite(K:Frag)(a:Addr):It:=
 ⟨fun i H=>∃xs x,aI K H a xs∧xs[i]?=some x,
  fun i H v H'=>∃p x,v=.ref p∧H p=none∧H'=upd H p (.tup [.int i,x])∧∀xs,aI K H a xs→xs[i]?=some x,
  fun i H=>∃xs,aI K H a xs∧i=xs.length⟩
def Cu(K:Frag)(ta:TA):TI:=fun σ H R=>ta σ H fun vs H1=>∃a,vs=[.ref a]∧(∃xs,aI K H1 a xs)∧R (Ite K a) H1
end L2
namespace L2
open PySem PySem.W PySem.Spec PySem.Calls PyProof.Rows
def GB:Nat:=1048576
theorem hX:∀{ns:List Int},WData.weightAll (ns.map WData.int)≤2 ^ 20→∀x∈ns,x.natAbs < 2 ^ GB
 | [],_,_,h=>nomatch h
 | n::ns,hw,x,h=>by
  have e:WData.weightAll ((n::ns).map WData.int)=(if n == 0 then 0 else n.natAbs.log2+1)+1+WData.weightAll (ns.map WData.int):=by
   simp only [ad1,WData.weightAll,WData.weight]
  rw [e]at hw;rcases ab6.mp h with rfl | h
  ·by_cases h0:x=0
   ·subst h0;exact Nat.two_pow_pos _
   ·have hb:(x == 0)=false:=by simpa using h0
    rw [hb]at hw
    have hl:x.natAbs.log2 < GB:=by
     have:(2:Nat) ^ 20=GB:=by decide
     rw [←this];simp only [ac7,if_false]at hw;omega
    exact(Nat.log2_lt (by omega)).mp hl
  ·exact hX (ns:=ns) (by omega) x h
theorem u0{ns:List Int}(h:WData.layableAll [WData.list (ns.map WData.int)]=true):∀x∈ns,x.natAbs < 2 ^ GB:=by
 have h1:=(layableW_iff.mp (layableW_arg h _ ad4)).2.2;exact hX (by simpa only [WData.weight]using h1)
theorem walk_ofB{l:PySem.W.OpenLaw}{n k:Nat}{q:Program}{loose:List Str}{XP:(Str→Option Value)→Heap→Prop}{YP:World→Heap→Prop}{d:DefRec}{K:Params→Frag}{CX:World→qf}{sp:World→Sp}{x:Str}
  (hn:l.most=some n) (hn2:n≤sizeLine) (hdf:d.params.defaults=[]) (hr:bV k callerA)
  (hY:∀(w:World) (h:Heap),YP w h→(K w.params).In h)
  (F:∀(w:World) (mg:Str→Option Value) (fa:Addr) (h:Heap),(K w.params).In h→h.Ns mainGlobals mg→mg d.name=some (.ref fa)→
   ∃fd:FuncData,(∀(s:Shared) (u:Value),BindsTo s fd ⟨[u],[]⟩ [(x,u)])∧∀base:Heap,(K w.params).In base→base.Ns mainGlobals mg→aR l.prog w (K w.params) mg base (CX w) k fa fd [x] (sp w))
  (hsp:∀(w:World) (H:Hp) (a:Addr) (ns:List Int),ns.length≤n→(∀x∈ns,x.natAbs < 2 ^ GB)→yd H→aI (K w.params) H a (ns.map V.int)→sp w [.ref a] H (fun v _=>v=.bl true) fun _ _ _=>False)
  (hCX:∀(w:World) (H:Hp) (s:Shared) (e:Value) (s':Shared),CX w [] H s (fun _ _ _=>False) e s'→False) :
  PySem.W.WalkO q loose XP YP l.row.toRowW d [] (fun f vs=>PySem.call f vs):=by
 intro w s₀ s₁ mg mb G Y fa o pm cd doc dV kV ho hd hcd hD hmg hg args vals as hpre hlay hrd hwl hlo;obtain rfl:dV=.none:=Dflts.none hD hdf;obtain rfl:kV=.none:=Dflts.noKw hD;obtain⟨a,vs,ns,rfl,rfl,hobj,hints,hlen⟩:=Att.script_of hn hpre hwl;have KX:=hY w _ Y;obtain⟨fd,hb,hF⟩:=F w mg fa _ KX G.T.g hmg;refine enter_call (codeAny_mono (oZ KX G.T.g G.T.b G.T.builtins G.T.nolimit hg hobj hints (ac0 hlen hn2) hr hF hb (fun H hO hS=>hsp w H a ns hlen (u0 hlay) hO hS) fun H e s'=>hCX w H s₁ e s') fun r s' hq=>?_);obtain⟨rfl,h2,h3,h4⟩:=hq;exact⟨.inl ⟨.bool true,.bool true,[],rfl,fun _=>rfl,.bool true,Att.post_true l _,fun _=>⟨List.Pairwise.nil,fun _ hm=>(nomatch hm)⟩⟩,h2,h3,h4⟩
structure bh(K:Frag)(x:Str)(st:Stmt)(f:Addr)(fd:FuncData):Prop where
 ns:nsIn K mainGlobals x=some (some (.ref f))
 fn:cY K x x st f fd
theorem defAt_mk{K:Frag}{x:Str}{st:Stmt}{f:Addr}{oc:Value}{od an:Option Addr}{osl:Array (Option Value)}{kV doc pm cdv ct:Value}(a:nsIn K mainGlobals x=some (some (.ref f)))
  (l:K.lookup f=some ⟨oc,od,.func (fnOf x x (cC st) (bX st) (av st) .none kV doc pm an cdv ct),osl⟩) (c:codeIn K cdv x=true) (k:keepIn K (.ref f)=true):∃f fd,bh K x st f fd:=
 ⟨f,_,a,jG l c k⟩
theorem bh.df{P:Program}{w:World}{K:Frag}{mg:Str→Option Value}{base h:Heap}{x:Str}{st:Stmt}{f:Addr}{fd:FuncData}{k:Nat}{ps:List Str}{sp:Sp}(A:bh K x st f fd)(X:K.In h)(G:h.Ns mainGlobals mg)
  (ok:aR P w K mg base cO k f fd ps sp) (b:cu K fd ps []):bN P w K mg base x k ps sp:=⟨f,fd,ok,mg_of X G A.ns,A.fn.kp,b⟩
end L2
namespace L2
open PySem PySem.Spec PyProof.Rows
def tw(g:TG)(tb:TS)(D:eU)(σ:St)(J:It)(H:Hp):Prop:=∃W:Nat→Nat→St→Hp→Prop,(∃m,W 0 m σ H)∧∀i m σ H,W i m σ H→
 (J.stop i H∧D.nx σ H)∨(J.go i H∧∃N:St→Hp→Prop,(∀σ' H',N σ' H'→∃m',m' < m∧W (i+1) m' σ' H')∧∀x H',J.yld i H x H'→g x σ H' fun σ2 H2=>tb { D with nx:=N,ct:=N,bk:=D.nx } σ2 H2)
theorem sW(wi:TI)(g:TG)(tb:TS)(D:eU)(σ:St)(H:Hp):Dh wi g tb D σ H=wi σ H (fun J H1=>tw g tb D σ J H1):=rfl
def jo(n:Nat)(js:List Nat)(g:TG)(tt:TT)(te:TE)(σ:St)(F:List V→Hp→Prop)(J:It)(H:Hp):Prop:=oh J n js g tt te σ H F
theorem xH(n:Nat)(js:List Nat)(wi:TI)(g:TG)(tt:TT)(te:TE)(σ:St)(H:Hp)(Q:VK):
  xG n js wi g tt te σ H Q=wi σ H (fun J H1=>jo n js g tt te σ (fun ys H2=>∀p,H2 p=none→Q (.ref p) (upd H2 p (.lst ys))) J H1):=rfl
section
variable {g:TG} {tb:TS} {D:eU} {σ:St} {H:Hp} {K:Frag} {a:Addr} {xs:List V}
theorem bK(Pv:Nat→St→Hp→Prop)(h0:Pv 0 σ H)(hl:∀i σ H,i≤xs.length→Pv i σ H→aI K H a xs)
  (hs:∀i x σ H,xs[i]?=some x→Pv i σ H→g x σ H fun σ2 H2=>tb { D with nx:=Pv (i+1),ct:=Pv (i+1),bk:=D.nx } σ2 H2) (hd:∀σ H,Pv xs.length σ H→D.nx σ H):tw g tb D σ (xZ K a) H:=vT Pv h0 hl hs hd
theorem dQ{lo:Int}{n:Nat}(Pv:Nat→St→Hp→Prop)(h0:Pv 0 σ H)
  (hs:∀i σ H,i < n→Pv i σ H→g (.int (lo+i)) σ H fun σ2 H2=>tb { D with nx:=Pv (i+1),ct:=Pv (i+1),bk:=D.nx } σ2 H2) (hd:∀σ H,Pv n σ H→D.nx σ H):tw g tb D σ (tu lo n) H:=uf Pv h0 hs hd
end
section
variable {n:Nat} {js:List Nat} {g:TG} {tt:TT} {te:TE} {σ:St} {H:Hp} {F:List V→Hp→Prop} {K:Frag} {a:Addr} {xs:List V}
theorem oz{lo:Int}{k:Nat}(Pv:Nat→List V→Hp→Prop)(hk:k≤sizeLine)(h0:Pv 0 [] H)(hn:∀i ys H,Pv i ys H→ys.length≤i)
  (hs:∀i ys H,i < k→Pv i ys H→cy n js g tt te σ (.int (lo+i)) ys H (Pv (i+1))) (hd:∀ys H,Pv k ys H→F ys H):jo n js g tt te σ F (tu lo k) H:=qB Pv hk h0 hn hs hd
theorem bt(Pv:Nat→List V→Hp→Prop)(hk:xs.length≤sizeLine)(h0:Pv 0 [] H)(hn:∀i ys H,Pv i ys H→ys.length≤i)(hl:∀i ys H,Pv i ys H→aI K H a xs)
  (hs:∀i x ys H,xs[i]?=some x→Pv i ys H→cy n js g tt te σ x ys H (Pv (i+1))) (hd:∀ys H,Pv xs.length ys H→F ys H):jo n js g tt te σ F (xZ K a) H:=tQ Pv hk h0 hn hl hs hd
theorem tM(Pv:Nat→List V→Hp→Prop)(hk:xs.length≤sizeLine)(h0:Pv 0 [] H)(hn:∀i ys H,Pv i ys H→ys.length≤i)(hl:∀i ys H,Pv i ys H→bf K H a xs)
  (hs:∀i x ys H,xs[i]?=some x→Pv i ys H→cy n js g tt te σ x ys H (Pv (i+1))) (hd:∀ys H,Pv xs.length ys H→F ys H):jo n js g tt te σ F (BQ K a) H:=vy Pv hk h0 hn hl hs hd
theorem tL{z:Str}(Pv:Nat→List V→Hp→Prop)(hk:z.length≤sizeLine)(h0:Pv 0 [] H)(hn:∀i ys H,Pv i ys H→ys.length≤i)
  (hs:∀i c ys H,z.cps.toList[i]?=some c→Pv i ys H→cy n js g tt te σ (.str ⟨#[c]⟩) ys H (Pv (i+1))) (hd:∀ys H,Pv z.length ys H→F ys H):jo n js g tt te σ F (yc z) H:=vx Pv hk h0 hn hs hd
theorem lG{l1 l2:Bool}{a1 a2:Addr}{us vs:List V}(Pv:Nat→List V→Hp→Prop)(hk:us.length≤sizeLine)(he:us.length=vs.length)(h0:Pv 0 [] H)(hn:∀i ys H,Pv i ys H→ys.length≤i)(hl:∀i ys H,Pv i ys H→eu K l1 H a1 us∧eu K l2 H a2 vs)
  (hs:∀i x y ys H p,us[i]?=some x→vs[i]?=some y→Pv i ys H→H p=none→cy n js g tt te σ (.ref p) ys (upd H p (.tup [x,y])) (Pv (i+1))) (hd:∀ys H,Pv us.length ys H→F ys H):jo n js g tt te σ F (DH K l1 l2 a1 a2) H:=by
 refine⟨fun i m ys H=>m=us.length - i∧i≤us.length∧Pv i ys H,⟨us.length,by simp,ad0 _,h0⟩,?_⟩;rintro i m ys H ⟨rfl,hi,p⟩;obtain⟨q1,q2⟩:=hl i ys H p
 by_cases hlt:i < us.length
 ·refine .inr ⟨⟨us,vs,us[i],vs[i],q1,q2,by simp [hlt],by simp [he▸hlt]⟩,ad5 (hn i ys H p) (ab2 hlt hk),Pv (i+1),fun σ' H' p'=>⟨us.length - (i+1),by omega,rfl,hlt,p'⟩,fun x H' y=>?_⟩
  obtain⟨pp,u,v,e,hp,e2,y1,y2⟩:=y;subst e e2;exact hs i u v ys H pp (y1 us q1) (y2 vs q2) p hp
 ·have e:i=us.length:=by omega
  subst e;exact .inl ⟨⟨us,vs,q1,q2,.inl rfl⟩,hd ys H p⟩
end
theorem AK{CX:qf}{P:Program}{w:World}{K:Frag}{mg:Str→Option Value}{base:Heap}{N:List Str}{qual:Str}{scope:Scope}{f:Addr}{cd:Value}{A:Around}{outer:List Env}{s:Shared}{H:Hp}{E:XK}:(jA CX P w K mg base N qual scope f cd A outer s H E).K=K:=rfl
theorem Cj{X:Cx}{scope:Scope}{own:List Str}{js:List Nat}{C:Addr}{s:Shared}{H:Hp}{ex:List Addr}{pn:List (Addr×Obj)}{E:Value→Shared→Prop}:(kL X scope own js C s H ex pn E).K=X.K:=rfl
theorem ar{H:Hp}{q:Addr}{o:HO}(h:H q=none):au H (upd H q o):=fun b o' e=>by rw [ai (aq e h)];exact e
theorem au.upd{H H1:Hp}{q:Addr}{o:HO}(s:au H H1)(h:H1 q=none):au H (upd H1 q o):=s.trans (ar h)
theorem au.tup{K:Frag}{H H':Hp}{a:Addr}{xs:List V}(e:au H H')(h:bf K H a xs):bf K H' a xs:=by
 rcases h with h | h
 ·rcases h with h | ⟨o,h⟩
  ·exact .inl (.inl (e _ _ h))
  ·exact .inl (.inr ⟨o,e _ _ h⟩)
 ·exact .inr h
end L2
namespace L2
open PySem PySem.Spec PyProof.Rows
theorem aZ(z:Str):z.length=z.cps.toList.length:=by simp [Str.length]
theorem rF{z:Str}{i:Int}(h:0≤i):(Txt.slice z (some i) none).cps.toList=z.cps.toList.drop i.toNat:=by
 by_cases hi:i≤z.cps.toList.length
 ·rw [show Txt.slice z (some i) none=StrLaws.sliceText z (some i) none from rfl,StrLaws.sliceText_from ⟨h,hi⟩]
  show((z.cps.toList.drop i.toNat).take _)=_
  skip
  exact ae6 (by rw [ah8];omega)
 ·have e:Builtin.Str.strSliceIndices (some i) none 1 z.length=Builtin.Str.strSliceIndices (some (z.length:Int)) none 1 z.length:=sliceIdx_lo_beyond z.length (by rw [aZ];omega)
  have e2:Txt.slice z (some i) none=Txt.slice z (some (z.length:Int)) none:=by unfold Txt.slice;rw [e]
  rw [e2,show Txt.slice z (some (z.length:Int)) none=StrLaws.sliceText z (some (z.length:Int)) none from rfl,StrLaws.sliceText_from ⟨by omega,by rw [aZ];omega⟩];show((z.cps.toList.drop _).take _)=_;rw [aZ,ad8,ag5,List.take_nil,List.drop_eq_nil_of_le (by omega)]
theorem rL(z:Str)(c:Nat):Txt.startswith z ⟨#[c]⟩=decide (z.cps.toList.head?=some c):=by
 obtain⟨⟨l⟩⟩:=z
 unfold Txt.startswith
 rw [StrLaws.subAt_eq]
 cases l with
 | nil=>simp [Str.length]
 | cons a l=>
  simp [Str.length];rw [af9];simp
theorem ix(x y:Str):decide (x=y)=decide (x.cps.toList=y.cps.toList):=by
 by_cases h:x=y
 ·subst h;simp
 ·rw [decide_eq_false h]
  symm
  apply decide_eq_false;intro e;apply h;obtain⟨⟨a⟩⟩:=x;obtain⟨⟨b⟩⟩:=y;simp at e;subst e;rfl
theorem dD{α:Type}{xs:List α}{v:α}(h:xs.head?=some v):iC xs 0=some v:=by
 cases xs with
 | nil=>cases h
 | cons a l=>cases h;exact aK (j:=0) rfl
section
variable {X:Cx}
end
end L2
namespace L2
open PySem PySem.Spec PyProof.Rows
section
variable {X:Cx}
theorem Ba(K:Frag)(h:X.K=K:=by rfl):bZ X (binaryOp .Add) (cR K):=h▸opAdd
theorem CO(K:Frag)(h:X.K=K:=by rfl):bZ X (compareOp .In) (xi K):=h▸DT
theorem wW(K:Frag)(h:X.K=K:=by rfl):bZ X (compareOp .NotIn) (gi K):=h▸y8
theorem C9(K:Frag)(h:X.K=K:=by rfl):x4 X (uV K):=h▸slA
theorem bC(K:Frag)(h:X.K=K:=by rfl):ve X (pM K):=h▸ixA
theorem aX(K:Frag){tg l:Expr}{tl:TE}(hl:PE X l tl)(h:X.K=K:=by rfl):PI X tg l (Dv (Bo K) tl):=h▸Bk hl
theorem aG(K:Frag)(h:X.K=K:=by rfl):bq X (.builtin "len") (fun xs H Q=>(∃z,xs=[.str z]∧z.length≤sizeLine∧Q (.int z.length) H)∨∃p ys,xs=[.ref p]∧(aI K H p ys∨bf K H p ys)∧Q (.int ys.length) H):=h▸tG
theorem dv(K:Frag)(h:X.K=K:=by rfl):bq X (.builtin "isinstance") (fun xs H Q=>∃x n t b,xs=[x,.ty n]∧gW K H x t∧kitOne K t (.type n)=some b∧Q (.bl b) H):=h▸oo
theorem eK(K:Frag)(hc:X.calm=true)(h:X.K=K:=by rfl):bq X (.builtin "all") (fun xs H Q=>∃(p:Addr) (bs:List Bool),xs=[.ref p]∧aI K H p (bs.map V.bl)∧Q (.bl (bs.all id)) H):=h▸tE hc
theorem fw(K:Frag)(h:X.K=K:=by rfl):bq X (.type "tuple") (fun xs H Q=>∃p ys,xs=[.ref p]∧((aI K H p ys∧∀l,H l=none→Q (.ref l) (upd H l (.tup ys)))∨(bf K H p ys∧Q (.ref p) H))):=h▸kK
theorem cT(K:Frag)(h:X.K=K:=by rfl):bq X (.type "list") (fun xs H Q=>∃p ys,xs=[.ref p]∧(aI K H p ys∨bf K H p ys)∧∀l,H l=none→Q (.ref l) (upd H l (.lst ys))):=h▸mH
theorem bE(K:Frag){es:List Expr}{k:Nat}{t:yh}{n:Nat}{pos:Pos}(hc:X.calm=true)(h:B7 X es t)(hK:X.K=K:=by rfl)
  (hn:(assignEach es X.env).length=n:=by rfl) (hst:(assignEach es X.env).findIdx? (·.1)=none:=by rfl):PG X (.Tuple es k pos) (AQ K n t):=hK▸Bj hc h hn hst
theorem bO(K:Frag){o e:Expr}{es:List Expr}{to:TE}{t:TA}{name:Str}{apos cpos:Pos}{T id:String}{r:V→List V→Hp→VK→Prop}(pa:PlainAttrs T)(slot:Slot T name id)(hty:typeOf (.builtin id)=pure (.type "method_descriptor"))(hm:vf X id r)(ho:PE X o to)(ha:PA X (e::es) t)(hK:X.K=K:=by rfl)
  (hbase:attributeBase o name X.env (eval o X.env)=eval o X.env:=by rfl)
  (hfew:((backTo cpos (starEach (e::es) X.env)).all (fun x=>!x.1) && (backToKw cpos (keywordEach [] X.env)).all (fun x=>x.1.isSome)
   && decide ((e::es).length+([]:List Keyword).length+(if ([]:List Keyword).isEmpty then 0 else 1) < 30))=true:=by rfl)
  (hline:(apos.endLine == cpos.line)=true:=by rfl) (hs:starEach (e::es) X.env=(false,eval e X.env)::starEach es X.env:=by rfl) (hplain:(backTo cpos (starEach es X.env)).any (·.1)=false:=by rfl) :
  PE X (.Call (.Attribute o name apos) (e::es) [] cpos) (DW K T r to t):=hK▸CY pa slot hty hm ho ha hbase hfew hline hs hplain
def cV:Expr→Option V
 | .Constant (.int i) _ _=>some (.int i)
 | .Constant (.str x) _ _=>some (.str x)
 | .Constant (.bool b) _ _=>some (.bl b)
 | .Constant .none _ _=>some .non
 | _=>none
def Eb(vs:List V):TA:=fun _ H Q=>Q vs H
theorem C0{e:Expr}{v:V}(h:cV e=some v):PE X e (tC v):=by
 unfold cV at h
 split at h
 ·cases h;exact ao
 ·cases h;exact dS
 ·cases h;exact eP
 ·cases h;exact bR
 ·cases h
theorem zR{e:Expr}{es:List Expr}{v:V}(h:cV e=some v):starEach (e::es) X.env=(false,eval e X.env)::starEach es X.env:=by
 unfold cV at h
 split at h<;>first | rfl | cases h
theorem lV:∀{es:List Expr} {vs:List V},es.map cV=vs.map some→PA X es (Eb vs)
 | [],[],_=>af
 | [],_::_,h=>by cases h
 | _::_,[],h=>by cases h
 | e::es,v::vs,h=>by
  have h1:cV e=some v:=(List.cons.inj h).1;have h2:es.map cV=vs.map some:=(List.cons.inj h).2;exact aa (C0 h1) (lV h2) (zR h1)
end
def DV:Option V→(V→Prop)→Prop
 | some v,k=>k v
 | none,_=>False
def xt:St→Nat→(V→Prop)→Prop
 | [],_,_=>False
 | o::_,0,k=>DV o k
 | _::σ,i+1,k=>xt σ i k
theorem sR{v:V}{σ:St}{k:V→Prop}:xt (some v::σ) 0 k=k v:=rfl
theorem pU{o:Option V}{σ:St}{i:Nat}{k:V→Prop}:xt (o::σ) (i+1) k=xt σ i k:=rfl
theorem jl{k:V→Prop}:∀{σ:St} {i:Nat},xt σ i k↔∃v,σ[i]?=some (some v)∧k v
 | [],i=>by simp [xt]
 | some v::σ,0=>by simp [xt,DV]
 | none::σ,0=>by simp [xt,DV]
 | o::σ,i+1=>by rw [pU,jl];simp
def Dj(i:Nat):TE:=fun σ H Q=>xt σ i fun v=>Q v H
theorem BJ(i:Nat):Dj i=BL i:=by
 funext σ H Q
 exact propext jl
def x5:V→(Int→Prop)→Prop
 | .int i,k=>k i
 | _,_=>False
theorem jf{i:Int}{k:Int→Prop}:x5 (.int i) k=k i:=rfl
theorem g9{v:V}{k:Int→Prop}:x5 v k↔∃i,v=.int i∧k i:=by cases v<;>simp [x5]
def zY:V→(Bool→Prop)→Prop
 | .bl i,k=>k i
 | _,_=>False
theorem mz{i:Bool}{k:Bool→Prop}:zY (.bl i) k=k i:=rfl
theorem g8{v:V}{k:Bool→Prop}:zY v k↔∃i,v=.bl i∧k i:=by cases v<;>simp [zY]
def CA(g:Int→Int→V):R2:=fun x y H Q=>x5 x fun i=>x5 y fun j=>Q (g i j) H
def jI(C:Int→Int→Prop)(g:Int→Int→V):R2:=fun x y H Q=>x5 x fun i=>x5 y fun j=>C i j∧Q (g i j) H
def jU(g:Int→V):V→Hp→VK→Prop:=fun x H Q=>x5 x fun i=>Q (g i) H
def oW(t:TE):TT:=fun σ H Q=>t σ H fun x H1=>zY x fun k=>Q k H1
def oV(t:TE):TO:=fun σ H Q=>t σ H fun x H1=>x5 x fun i=>Q (some i) H1
def we(i:Nat)(te:TE)(ti:BU):TS:=fun D σ H=>xt σ i fun x=>te σ H fun y H1=>ti x y H1 fun z H2=>D.nx (σ.set i (some z)) H2
def oR(ta tb:TE):TE:=fun σ H Q=>ta σ H fun x H1=>zY x fun c=>if c=true then tb σ H1 Q else Q (.bl false) H1
def wq(ta tb:TE):TE:=fun σ H Q=>ta σ H fun x H1=>zY x fun c=>if c=true then Q (.bl true) H1 else tb σ H1 Q
def oU(ta:TE):TE:=fun σ H Q=>ta σ H fun x H1=>zY x fun c=>Q (.bl (!c)) H1
theorem yJ(i:Nat)(te:TE)(ti:BU):we i te ti=xE i te ti:=by
 funext D σ H
 unfold we xE;simp only [jl]
theorem wc(ta tb:TE):oR ta tb=p4 ta tb:=by
 funext σ H Q
 unfold oR p4;simp only [g8]
theorem yM(ta tb:TE):wq ta tb=xQ ta tb:=by
 funext σ H Q
 unfold wq xQ;simp only [g8]
theorem wo(ta:TE):oU ta=p7 ta:=by
 funext σ H Q
 unfold oU p7;simp only [g8]
theorem AX(g:Int→Int→V):CA g=pL g:=by
 funext x y H Q
 unfold CA pL;simp only [g9,exists_and_left]
theorem CB(C:Int→Int→Prop)(g:Int→Int→V):jI C g=rI C g:=by
 funext x y H Q
 unfold jI rI;simp only [g9,exists_and_left]
theorem CD(g:Int→V):jU g=rU g:=by
 funext x H Q
 unfold jU rU;simp only [g9]
theorem wu(t:TE):oW t=md t:=by
 funext σ H Q
 unfold oW md;simp only [g8]
theorem wt(t:TE):oV t=sZ t:=by
 funext σ H Q
 unfold oV sZ;simp only [g9]
def vg(r:R2):R2
 | .int i,.int j,H,Q=>Q (.bl (decide (i=j))) H
 | .str i,.str j,H,Q=>Q (.bl (decide (i=j))) H
 | x,y,H,Q=>r x y H Q
def vh(r:R2):R2
 | .int i,.int j,H,Q=>Q (.bl (!decide (i=j))) H
 | .str i,.str j,H,Q=>Q (.bl (!decide (i=j))) H
 | x,y,H,Q=>r x y H Q
def jc(r:R2):R2
 | .int i,.int j,H,Q=>Q (.int (i+j)) H
 | x,y,H,Q=>r x y H Q
def oS(r:R2):R2
 | .int i,.int j,H,Q=>IntMulOk i j∧Q (.int (i * j)) H
 | x,y,H,Q=>r x y H Q
theorem mM{r:R2}{i j:Int}{H:Hp}{Q:VK}:vg r (.int i) (.int j) H Q=Q (.bl (decide (i=j))) H:=rfl
theorem mO{r:R2}{i j:Str}{H:Hp}{Q:VK}:vg r (.str i) (.str j) H Q=Q (.bl (decide (i=j))) H:=rfl
theorem mP{r:R2}{i j:Int}{H:Hp}{Q:VK}:vh r (.int i) (.int j) H Q=Q (.bl (!decide (i=j))) H:=rfl
theorem mQ{r:R2}{i j:Str}{H:Hp}{Q:VK}:vh r (.str i) (.str j) H Q=Q (.bl (!decide (i=j))) H:=rfl
theorem jh{r:R2}{i j:Int}{H:Hp}{Q:VK}:jc r (.int i) (.int j) H Q=Q (.int (i+j)) H:=rfl
theorem ji{r:R2}{i j:Int}{H:Hp}{Q:VK}:oS r (.int i) (.int j) H Q=(IntMulOk i j∧Q (.int (i * j)) H):=rfl
theorem wg{r:R2}(h1:∀i j H Q,r (.int i) (.int j) H Q↔Q (.bl (decide (i=j))) H)(h2:∀i j H Q,r (.str i) (.str j) H Q↔Q (.bl (decide (i=j))) H):vg r=r:=by
 funext x y H Q
 unfold vg
 split
 ·exact propext (h1 _ _ _ _).symm
 ·exact propext (h2 _ _ _ _).symm
 ·rfl
theorem wm{r:R2}(h1:∀i j H Q,r (.int i) (.int j) H Q↔Q (.bl (!decide (i=j))) H)(h2:∀i j H Q,r (.str i) (.str j) H Q↔Q (.bl (!decide (i=j))) H):vh r=r:=by
 funext x y H Q
 unfold vh
 split
 ·exact propext (h1 _ _ _ _).symm
 ·exact propext (h2 _ _ _ _).symm
 ·rfl
theorem su{r:R2}(h1:∀i j H Q,r (.int i) (.int j) H Q↔Q (.int (i+j)) H):jc r=r:=by
 funext x y H Q
 unfold jc
 split
 ·exact propext (h1 _ _ _ _).symm
 ·rfl
theorem yL{r:R2}(h1:∀i j H Q,r (.int i) (.int j) H Q↔IntMulOk i j∧Q (.int (i * j)) H):oS r=r:=by
 funext x y H Q
 unfold oS
 split
 ·exact propext (h1 _ _ _ _).symm
 ·rfl
theorem Ah:vg lY=lY:=wg (fun _ _ _ _=>rEq_ii) (fun _ _ _ _=>nH)
theorem Aj:vh lZ=lZ:=wm (fun _ _ _ _=>nJ) (fun _ _ _ _=>nK)
theorem v9(K:Frag):jc (cR K)=cR K:=su fun _ _ _ _=>kd
theorem Cz{x y:V}{H:Hp}{Q:VK}:vg lY x y H Q↔lY x y H Q:=by rw [Ah]
theorem CC{x y:V}{H:Hp}{Q:VK}:vh lZ x y H Q↔lZ x y H Q:=by rw [Aj]
theorem yH{K:Frag}{x y:V}{H:Hp}{Q:VK}:jc (cR K) x y H Q↔cR K x y H Q:=by rw [v9]
section
variable {X:Cx}
theorem pr(i:Nat){x:Str}{pos:Pos}(hN:X.N[i]?=some x:=by rfl)(hv:Ds X.env.scope x:=by first | exact Or.inl rfl | exact Or.inr (Or.inl rfl) | exact Or.inr (Or.inr rfl))(hd:(x == ("__debug__":Str))=false:=by decide)
  (hcd:(x == ("__classdict__":Str))=false:=by decide):PE X (.Name x pos) (Dj i):=by
 rw [BJ];exact w4 hN hv hd hcd
theorem o0{f:Value→Value→Sem Value}{g:Int→Int→V}(h:bZ X f (pL g)):bZ X f (CA g):=by rw [AX];exact h
theorem o1{f:Value→Value→Sem Value}{C:Int→Int→Prop}{g:Int→Int→V}(h:bZ X f (rI C g)):bZ X f (jI C g):=by rw [CB];exact h
theorem u1{f:Value→Sem Value}{g:Int→V}(h:Cf X f (rU g)):Cf X f (jU g):=by rw [CD];exact h
theorem x6:bZ X (compareOp .Eq) (vg lY):=by rw [Ah];exact opEq
theorem DS:bZ X (compareOp .NotEq) (vh lZ):=by rw [Aj];exact opNe
theorem dy(K:Frag)(h:X.K=K:=by rfl):bZ X (binaryOp .Add) (jc (cR K)):=by rw [v9];exact Ba K h
theorem cz{e:Expr}{t:TE}(h:PT X e (md t)):PT X e (oW t):=by rw [wu];exact h
theorem zw{st:Stmt}{i:Nat}{te:TE}{ti:BU}(h:PS X st (xE i te ti)):PS X st (we i te ti):=by rw [yJ];exact h
theorem An{e:Expr}{ta tb:TE}(h:PE X e (p4 ta tb)):PE X e (oR ta tb):=by rw [wc];exact h
theorem Ao{e:Expr}{ta tb:TE}(h:PE X e (xQ ta tb)):PE X e (wq ta tb):=by rw [yM];exact h
theorem C1{e:Expr}{ta:TE}(h:PE X e (p7 ta)):PE X e (oU ta):=by rw [wo];exact h
theorem C3{e:Expr}{t:TE}(h:PE X e t):PO X (some e) (oV t):=by rw [wt];exact zt h
end
theorem itN{p:Prop}[d:Decidable p]{A B:Prop}:(if (!decide p)=true then A else B)=(if p then B else A):=by
 by_cases h:p<;>simp [h]
theorem itD{p:Prop}[d:Decidable p]{A B:Prop}:(if decide p=true then A else B)=(if p then A else B):=by
 by_cases h:p<;>simp [h]
theorem DL{t u:TS}{D:eU}{σ:St}{H:Hp}(C:St→Hp→Prop)(h2:∀σ H,C σ H→u D σ H)(h1:∀u':TS,(∀σ H,C σ H→u' D σ H)→fY t u' D σ H):fY t u D σ H:=h1 u h2
theorem aL{t u:TS}{D:eU}{σ:St}{H:Hp}(C:St→Hp→Prop)(h1:∀u':TS,(∀σ H,C σ H→u' D σ H)→fY t u' D σ H)(h2:∀σ H,C σ H→u D σ H):fY t u D σ H:=h1 u h2
theorem bN.up{P:Program}{w:World}{K:Frag}{mg:Str→Option Value}{base:Heap}{x:Str}{j k:Nat}{ps:List Str}{sp:Sp}(d:bN P w K mg base x j ps sp)(h:j≤k):bN P w K mg base x k ps sp:=
 let ⟨f,fd,F,r⟩:=d.ex;⟨f,fd,F.mono h,r⟩
theorem const_mk{K:Frag}{x:Str}{v:V}{u:Value}(e:nsIn K mainGlobals x=some (some u))(r:aF v u):∃u,nsIn K mainGlobals x=some (some u)∧aF v u:=⟨u,e,r⟩
theorem TruV_b{K:Frag}{b k:Bool}{H:Hp}:vo K (.bl b) H k↔k=b:=Iff.rfl
theorem Dm{K:Frag}{z:Str}{H:Hp}:Dl K "str" (.str z) H↔True:=⟨fun _=>trivial,fun _=>rfl⟩
theorem str_iff{x y:Str}:x=y↔x.cps.toList=y.cps.toList:=by
 constructor
 ·intro e;rw [e]
 ·intro e
  obtain⟨⟨a⟩⟩:=x;obtain⟨⟨b⟩⟩:=y;simp at e;subst e;rfl
end L2
namespace L2
open PySem PySem.Spec PyProof.Rows
open AutoSeq1 (wpAny_loadPart')
theorem iL:fillsNumberSlot (.type "tuple") "mul"=pure false:=
 PySem.fillsNumberSlot_seq (id:="tuple.__mul__") (r:=some (.builtin "tuple.__rmul__")) F.slot_tuple_mul.lookup (by decide +kernel) F.slot_tuple_rmul.lookup (by decide +kernel)
theorem nL:seqRepeat? (.type "tuple")=pure (some (.builtin "tuple.__mul__")):=by
 unfold seqRepeat?;rw [PySem.seqSlot_of (T:="tuple") (name:="__mul__") (id:="tuple.__mul__") F.slot_tuple_mul.lookup (by decide +kernel),PySem.seqSlot_of (T:="tuple") (name:="__rmul__") (id:="tuple.__rmul__") F.slot_tuple_rmul.lookup (by decide +kernel)];rfl
theorem jK(a:Int)(t:Tok)(l:Addr)(items:Array Value)(n:Nat)(dd:Option Addr)(sl:Array (Option Value)):
  Meets (Builtin.«int.__rmul__» ⟨[.int a t,.ref l],[]⟩) (fun _ R s=>s.heap.get? l=some { cls:=.type "tuple",dict:=dd,data:=.seq items n,slots:=sl }∧R (.ok (.ret Value.notImplemented)) s):=
 .of_wp fun prog w A R s h=>by obtain⟨hp,g,d,tk,os⟩:=s;obtain⟨hl,h⟩:=h;wp_walk;exact⟨_,rfl,h⟩
theorem rQ(l:Addr)(items:Array Value)(n:Nat)(dd:Option Addr)(sl:Array (Option Value))(u:Tok):
  Meets (Builtin.«tuple.__mul__» ⟨[.ref l,.int 1 u],[]⟩) (fun _ R s=>s.heap.get? l=some { cls:=.type "tuple",dict:=dd,data:=.seq items n,slots:=sl }∧R (.ok (.ret (Value.ref l))) s):=
 .of_wp fun prog w A R s h=>by
  obtain⟨hp,g,d,tk,os⟩:=s;obtain⟨hl,h⟩:=h;have hT:Shared.TypeIs ⟨hp,g,d,tk,os⟩ (.ref l) "tuple":=⟨_,hl,rfl⟩
  wp_walk using wpAny_loadPart' hl,wpAny_typeOf hT
  exact⟨_,rfl,h⟩
theorem jE{α:Type}(xs:Array α):∀(n:Nat) (acc:Array α),((List.replicate n xs).foldl (· ++ ·) acc).size=acc.size+n * xs.size
 | 0,acc=>by simp
 | n+1,acc=>by
  rw [ae1,ad9,jE xs n,al5,am3];omega
theorem rR(l:Addr)(items:Array Value)(n:Nat)(dd:Option Addr)(sl:Array (Option Value))(x:Int)(u:Tok)(h1:1 < x)(h2:x < 1000000)(h0:items.isEmpty=false)(hz:items.size * x.toNat≤sizeLine):
  Meets (Builtin.«tuple.__mul__» ⟨[.ref l,.int x u],[]⟩) (fun _ R s=>s.heap.get? l=some { cls:=.type "tuple",dict:=dd,data:=.seq items n,slots:=sl }∧R (.ok (.ret (Value.ref s.heap.objs.size))) { s with heap:=s.heap.push { cls:=Value.type "tuple",data:=Data.seq ((List.replicate x.toNat items).foldl (· ++ ·) #[]) } }):=
 .of_wp fun prog w A R s h=>by
  obtain⟨hp,g,d,tk,os⟩:=s;obtain⟨hl,h⟩:=h;have hT:Shared.TypeIs ⟨hp,g,d,tk,os⟩ (.ref l) "tuple":=⟨_,hl,rfl⟩
  wp_walk using wpAny_loadPart' hl,wpAny_typeOf hT
  refine wpAny_ite_false (by rw [decide_eq_false (show ¬x < -2 ^ 63 by omega),decide_eq_false (show ¬x≥2 ^ 63 by omega)];rfl) ?_
  wp_walk using wpAny_loadPart' hl,wpAny_typeOf hT
  refine wpAny_ite_false (by rw [h0];simp;omega) ?_;refine wpAny_ite_false (by rw [h0];simp;omega) ?_
  have e:(items.size:Int) * x=((items.size * x.toNat:Nat):Int):=by rw [ai6,Int.toNat_of_nonneg (by omega)]
  have hs:sizeLine=16777216:=sizeLine_eq;refine wpAny_ite_false (decide_eq_false (by rw [e];omega)) ?_
  have hm:¬((items.size:Int) * x > (sizeLine:Int)):=by rw [e];exact_mod_cast am4.mpr hz
  refine wpAny_ite_false (by unfold Builtin.Tuple.tupleTooMany;exact decide_eq_false (fun z=>hm (of_decide_eq_true z))) ?_
  have hf:(List.foldl (fun x1 x2=>x1++x2) #[] (List.replicate x.toNat items)).size≤sizeLine:=by
   rw [jE,Array.size_empty,Nat.zero_add,ag8];exact hz
  wp_walk using wpAny_loadPart' hl,wpAny_typeOf hT
  refine wpAny_ite_false (decide_eq_false (am4.mpr hf)) ?_
  wp_walk
  exact⟨_,rfl,h⟩
def sQ(K:Frag):R2:=fun x y H Q=>∃l k xs,x=.ref l∧y=.int k∧bf K H l xs∧1≤k∧k < 1000000∧xs≠[]∧xs.length * k.toNat≤sizeLine∧
 (k=1→Q (.ref l) H)∧∀p,H p=none→Q (.ref p) (upd H p (.tup (List.replicate k.toNat xs).flatten))
section
variable {X:Cx}
theorem zc:bZ X (binaryOp .Mult) (sQ X.K):=by
 intro pins s σ H x y v u Q I rx ry h;obtain⟨l,k,xs,rfl,rfl,hH,h1,h2,hx,hz,q1,q⟩:=h;cases rx;obtain⟨t,rfl⟩:=ry;obtain⟨its,r,p,hl⟩:=I.tuple hH;obtain⟨⟨cls,dd,data,sl⟩,ho,hc,n,hd⟩:=id p;simp only at hc hd;subst hc hd
 have hlen:its.toArray.size * k.toNat≤sizeLine:=by rw [aa7,←r.length];exact hz
 refine wpAny_binaryOp_repeat_ref (T:="tuple") (U:="int") (by decide) ⟨_,ho,rfl⟩ (fun s'=>typeIs_int s' k t) iL F.fills_int_mul F.slot_int_rmul nL F.slot_int_index.lookup
  (call_meets F.slot_int_rmul (typeIs_int s k t) F.entry_int_rmul (F.args_int_rmul_2 _ _) (jK k t l its.toArray n dd sl) ⟨ho,rfl,⟨_,ho,rfl⟩,?_⟩)
 by_cases hk:k=1
 ·subst hk
  exact call_meets F.slot_tuple_mul ⟨_,ho,rfl⟩ F.entry_tuple_mul (F.args_tuple_mul_2 _ _) (rQ l its.toArray n dd sl t) ⟨ho,.ref l,H,I,rfl,q1 rfl⟩
 ·have hne:its.toArray.isEmpty=false:=by
   cases its with
   | nil=>exact absurd (r.nil_iff.mp rfl) hx
   | cons a b=>rfl
  refine call_meets F.slot_tuple_mul ⟨_,ho,rfl⟩ F.entry_tuple_mul (F.args_tuple_mul_2 _ _) (rR l its.toArray n dd sl k t (by omega) h2 hne hlen) ⟨ho,?_⟩
  have hnew:List.foldl (fun x1 x2=>x1++x2) #[] (List.replicate k.toNat its.toArray)=(List.replicate k.toNat its).flatten.toArray:=by
   have:=iG its k.toNat []
   rw [List.nil_append]at this;exact this
  refine⟨.ref s.heap.objs.size,_,I.laid (t':=s.toks) (o:=.tup (List.replicate k.toNat xs).flatten) (fun b ob q=>aa3 _ q) (aa8 _) ?_,rfl,q _ (I.hok.fresh (aa8 _))⟩;rw [hnew];exact⟨by rw [mR,ag8];exact hz,_,r.rep k.toNat,IsTup.new _ _⟩
def du(K:Frag):R2:=fun x y H Q=>i7 x y H Q∨sQ K x y H Q
theorem Bd(K:Frag)(h:X.K=K:=by rfl):bZ X (binaryOp .Mult) (du K):=h▸opMul.or zc
theorem pP{K:Frag}{i j:Int}{H:Hp}{Q:VK}:du K (.int i) (.int j) H Q↔IntMulOk i j∧Q (.int (i * j)) H:=by
 simp [du,pN,sQ]
theorem xj{K:Frag}{z:Str}{j:Int}{H:Hp}{Q:VK}:du K (.str z) (.int j) H Q↔(-1000000≤j∧j≤1000000∧z.length≤16)∧Q (.str (il z j)) H:=by
 simp [du,pO,sQ]
theorem wj(K:Frag):oS (du K)=du K:=yL fun _ _ _ _=>pP
theorem yK{K:Frag}{x y:V}{H:Hp}{Q:VK}:oS (du K) x y H Q↔du K x y H Q:=by rw [wj]
theorem mZ(K:Frag)(h:X.K=K:=by rfl):bZ X (binaryOp .Mult) (oS (du K)):=by rw [wj];exact Bd K h
theorem zH{K:Frag}{l:Addr}{k:Int}{xs:List V}{H:Hp}{Q:VK}(h:H l=some (.lst xs))(h1:-(2 ^ 63)≤k)(h2:k < 2 ^ 63)(hz:xs.length * k.toNat≤sizeLine)
  (q:∀p,H p=none→Q (.ref p) (upd H p (.lst (List.replicate k.toNat xs).flatten))):du K (.ref l) (.int k) H Q:=.inl (.inr (.inr ⟨l,k,xs,rfl,rfl,h,h1,h2,hz,q⟩))
end
end L2
namespace L2
open PySem PySem.Spec PyProof.Rows
def iZ(c:Nat):List Nat→List (List Nat)
 | []=>[[]]
 | a::l=>if a=c then []::iZ c l else match iZ c l with
  | []=>[[a]]
  | p::r=>(a::p)::r
theorem rK(c:Nat):∀l,iZ c l≠[]
 | []=>by simp [iZ]
 | a::l=>by
  simp only [iZ]
  split
  ·simp
  ·split<;>simp
theorem sU(c:Nat):∀l,(iZ c l).length≤l.length+1
 | []=>by simp [iZ]
 | a::l=>by
  have h:=sU c l;simp only [iZ]
  split
  ·simp;omega
  ·split
   ·simp
   ·rename_i p r e
    rw [e]at h;simp at h ⊢;omega
def dj(c:Nat):List Nat→Nat→List Nat
 | [],_=>[]
 | b::l,i=>if b=c then i::dj c l (i+1)else dj c l (i+1)
theorem j0(x:Str)(c:Nat)(lim:Nat):∀(l:List Nat) (i:Nat) (acc:Array Nat) (fr:Nat),x.cps.toList.drop i=l→acc.size≤i→fr≤i→x.length < lim→
  (forIn (List.range' i (l.length+1)) (acc,fr) (StrLaws.occBody x ⟨#[c]⟩ x.length lim)).run.fst.toList=acc.toList++dj c l i
 | [],i,acc,fr,hl,ha,hf,hm=>by
  have hi:x.length≤i:=by
   rw [aZ];exact ah6.mp hl
  show(forIn [i] (acc,fr) _:Id _).run.fst.toList=_;rw [af5];unfold StrLaws.occBody;rw [if_neg (by intro h;have:=h.1.2;have e1:(⟨#[c]⟩:Str).length=1:=rfl;rw [e1]at this;omega)];show acc.toList=_;simp [dj]
 | b::l,i,acc,fr,hl,ha,hf,hm=>by
  have hb:x.cps.toList[i]?=some b:=by
   have:(x.cps.toList.drop i)[0]?=some b:=by rw [hl];rfl
   rwa [ag9,am6]at this
  have hi:i < x.length:=by
   rw [aZ];obtain⟨h,_⟩:=aa1.mp hb;exact h
  have hd:x.cps.toList.drop (i+1)=l:=by
   rw [←ak8,hl];rfl
  have e1:(⟨#[c]⟩:Str).length=1:=rfl;show(forIn (i::List.range' (i+1) (l.length+1)) (acc,fr) _:Id _).run.fst.toList=_;rw [af5];unfold StrLaws.occBody
  by_cases hc:b=c
  ·rw [if_pos ⟨⟨⟨by show acc.size < lim;omega,hf⟩,by rw [e1];omega⟩,((StrLaws.subAt_one x c i).mpr (by rw [hb,hc])).2⟩]
   show(forIn (List.range' (i+1) (l.length+1)) (acc.push i,i+1) (StrLaws.occBody x ⟨#[c]⟩ x.length lim):Id _).run.fst.toList=_;rw [j0 x c lim l (i+1) _ _ hd (by rw [Array.size_push];omega) (aa8 _) hm];simp [dj,hc]
  ·rw [if_neg (fun h=>hc (by have:=(StrLaws.subAt_one x c i).mp ⟨h.1.2,h.2⟩;rw [hb]at this;exact Option.some.inj this))]
   show(forIn (List.range' (i+1) (l.length+1)) (acc,fr) (StrLaws.occBody x ⟨#[c]⟩ x.length lim):Id _).run.fst.toList=_;rw [j0 x c lim l (i+1) _ _ hd (by omega) (by omega) hm];simp [dj,hc]
theorem yV(x:Str)(c:Nat):Builtin.Str.occurrences x ⟨#[c]⟩ 0 x.length (x.length+1)=dj c x.cps.toList 0:=by
 rw [StrLaws.occ_eq]
 have e:x.length+1 - 0=x.cps.toList.length+1:=by rw [aZ];rfl
 rw [e];have h:=j0 x c (x.length+1) x.cps.toList 0 #[] 0 rfl (aa8 _) (aa8 _) (aj2 _);rw [h];rfl
theorem gC(x:Str)(c:Nat):∀(l:List Nat) (a j:Nat),a≤j→x.cps.toList.drop j=l→j≤x.length→
  (StrLaws.partsFrom x 1 a (dj c l j)).map (fun z=>z.cps.toList)=match iZ c l with
   | []=>[]
   | p::r=>((x.cps.toList.drop a).take (j - a)++p)::r
 | [],a,j,haj,hl,hj=>by
  have hj':x.length≤j:=by rw [aZ];exact ah6.mp hl
  have e:j=x.length:=by omega
  subst e;simp [dj,iZ,StrLaws.partsFrom,StrLaws.strSub_toList]
 | b::l,a,j,haj,hl,hj=>by
  have hb:x.cps.toList[j]?=some b:=by
   have:(x.cps.toList.drop j)[0]?=some b:=by rw [hl];rfl
   rwa [ag9,am6]at this
  have hi:j < x.length:=by
   rw [aZ];obtain⟨h,_⟩:=aa1.mp hb;exact h
  have hd:x.cps.toList.drop (j+1)=l:=by
   rw [←ak8,hl];rfl
  by_cases hc:b=c
  ·have ih:=gC x c l (j+1) (j+1) (aa8 _) hd hi
   simp only [dj,hc,if_true,StrLaws.partsFrom,ad1,iZ,ae3];rw [ih]
   cases hs:iZ c l with
   | nil=>exact absurd hs (rK c l)
   | cons p r=>simp [StrLaws.strSub_toList]
  ·have ih:=gC x c l a (j+1) (by omega) hd hi
   simp only [dj,hc,if_false,iZ];rw [ih]
   cases hs:iZ c l with
   | nil=>exact absurd hs (rK c l)
   | cons p r=>
    have ht:(x.cps.toList.drop a).take (j+1 - a)=(x.cps.toList.drop a).take (j - a)++[b]:=by
     have e1:j+1 - a=(j - a)+1:=by omega
     rw [e1,ab9,ag9]
     have e2:a+(j - a)=j:=by omega
     rw [e2,hb];rfl
    simp [ht]
theorem xD(c:Nat):∀{l:List Nat},dj c l 0=[]→iZ c l=[l]:=by
 have key:∀(l:List Nat) (i:Nat),dj c l i=[]→iZ c l=[l]:=by
  intro l
  induction l with
  | nil=>intro i _;rfl
  | cons a l ih=>
   intro i h;simp only [dj]at h
   split at h
   ·cases h
   ·rename_i hc
    simp only [iZ,hc,if_false];rw [ih _ h]
 intro l h;exact key l 0 h
theorem fW(x:Str){c:Nat}(hc:c < 256):(Txt.split x ⟨#[c]⟩).map (fun z=>z.cps.toList)=iZ c x.cps.toList:=by
 unfold Txt.split;have e1:(⟨#[c]⟩:Str).length=1:=rfl
 have ek:Builtin.Str.strKind ⟨#[c]⟩=1:=by simp [Builtin.Str.strKind,hc]
 have ek2:1≤Builtin.Str.strKind x:=by unfold Builtin.Str.strKind;split<;>(try split)<;>omega
 rw [e1,ek,decide_eq_false (show ¬Builtin.Str.strKind x < 1 by omega),aj5,yV]
 split
 ·rename_i h
  have h:x.length < 1:=by simpa using h
  have:x.cps.toList=[]:=by
   rw [aZ]at h;exact ag4.mp (by omega)
  rw [ad1,ah9,this];rfl
 ·split
  ·rename_i h
   have h:dj c x.cps.toList 0=[]:=by simpa using h
   rw [xD c h];rfl
  ·rw [StrLaws.partsBetween_eq,gC x c x.cps.toList 0 0 (aa8 _) rfl (ad0 _)]
   cases hs:iZ c x.cps.toList with
   | nil=>exact absurd hs (rK c _)
   | cons p r=>simp
end L2
namespace L2
open PySem PySem.Spec PyProof.Rows
theorem mq:∀(tk:Nat) (xs:List Str),aH (xs.map V.str) (strsFrom tk xs)
 | _,[]=>.nil
 | tk,x::r=>.cons ⟨tk,rfl⟩ (mq (tk+1) r)
theorem l9:∀{xs:List Str} {us:List Value},aH (xs.map V.str) us→StrsAre us xs
 | [],_,.nil=>.nil
 | x::r,_,.cons ⟨t,e⟩ q=>by subst e;exact .cons x t (l9 q)
section
variable {X:Cx}
theorem pf:vf X "str.split" (fun x xs H Q=>∃z c,x=.str z∧xs=[.str ⟨#[c]⟩]∧c < 256∧z.length < sizeLine∧∀p,H p=none→Q (.ref p) (upd H p (.lst ((Txt.split z ⟨#[c]⟩).map V.str)))):=by
 intro pins s σ H x xs v us Q I rx r h;obtain⟨z,c,rfl,rfl,hc,hz,q⟩:=h;obtain⟨t,rfl⟩:=rx;obtain⟨u,rfl,t',rfl⟩:=cN r;have hs:sizeLine=16777216:=sizeLine_eq
 have hlen:(Txt.split z ⟨#[c]⟩).length≤sizeLine:=by
  have h1:(Txt.split z ⟨#[c]⟩).length=(iZ c z.cps.toList).length:=by rw [←fW z hc,aa0]
  have h2:=sU c z.cps.toList;rw [←aZ]at h2;omega
 have fin:∀(its:List Value) (tk:Nat),aH ((Txt.split z ⟨#[c]⟩).map V.str) its→EP X pins σ Q (.ref s.heap.objs.size) { s with toks:=tk,heap:=s.heap.push { cls:=.type "list",data:=.seq its.toArray } }:=fun its tk rv=>
  ⟨.ref s.heap.objs.size,_,I.laid (t':=tk) (o:=.lst ((Txt.split z ⟨#[c]⟩).map V.str)) (fun b ob q=>aa3 _ q) (aa8 _) ⟨by rw [aa0];exact hlen,its,0,rv,aa6 _ rfl⟩,rfl,q _ (I.hok.fresh (aa8 _))⟩
 cases h1:(decide (z.length < (⟨#[c]⟩:Str).length) || decide (Builtin.Str.strKind z < Builtin.Str.strKind ⟨#[c]⟩))with
 | true=>
  have e:Txt.split z ⟨#[c]⟩=[z]:=by unfold Txt.split;rw [if_pos h1]
  rw [e]at fin;exact call_meets F.slot_str_split (typeIs_str _ _ _) F.entry_str_split (F.args_str_split_2 _ _) (meets_str_split_cannot_occur z ⟨#[c]⟩ t t' h1) (fin _ s.toks (.cons ⟨t,rfl⟩ .nil))
 | false=>
  cases hf:(Builtin.Str.occurrences z ⟨#[c]⟩ 0 z.length (z.length+1)).isEmpty with
  | true=>
   have e:Txt.split z ⟨#[c]⟩=[z]:=by unfold Txt.split;rw [if_neg (by rw [h1];exact ab0),if_pos hf]
   rw [e]at fin;exact call_meets F.slot_str_split (typeIs_str _ _ _) F.entry_str_split (F.args_str_split_2 _ _) (meets_str_split_not_found z ⟨#[c]⟩ t t' h1 rfl hf) (fin _ s.toks (.cons ⟨t,rfl⟩ .nil))
  | false=>
   have e:Txt.split z ⟨#[c]⟩=Builtin.Str.partsBetween z (Builtin.Str.occurrences z ⟨#[c]⟩ 0 z.length (z.length+1)) (⟨#[c]⟩:Str).length:=by
    unfold Txt.split;rw [if_neg (by rw [h1];exact ab0),if_neg (by rw [hf];exact ab0)]
   rw [e]at fin hlen;exact call_meets F.slot_str_split (typeIs_str _ _ _) F.entry_str_split (F.args_str_split_2 _ _) (meets_str_split_sep z ⟨#[c]⟩ t t' h1 rfl hf (ah7 hz) hlen) (fin _ _ (mq _ _))
theorem yQ:vf X "str.join" (fun x xs H Q=>∃z p ys,x=.str z∧xs=[.ref p]∧aI X.K H p (ys.map V.str)∧(ys.map (·.length)).sum+ys.length * z.length≤16777216∧Q (.str (Txt.join z ys)) H):=by
 intro pins s σ H x xs v us Q I rx r h;obtain⟨z,p,ys,rfl,rfl,hq,hok,q⟩:=h;obtain⟨t,rfl⟩:=rx;obtain⟨u,rfl,ru⟩:=cN r;cases ru;obtain⟨its,rv,pl,hz⟩:=I.list hq;exact join_list pl.isList (l9 rv) hok fun t' k=>⟨.str _,H,I.tok _,⟨t',rfl⟩,q⟩
theorem wC(K:Frag)(h:X.K=K:=by rfl):vf X "str.join" (fun x xs H Q=>∃z p ys,x=.str z∧xs=[.ref p]∧aI K H p (ys.map V.str)∧(ys.map (·.length)).sum+ys.length * z.length≤16777216∧Q (.str (Txt.join z ys)) H):=h▸yQ
def AN:List V→List V→Bool
 | [],[]=>true
 | x::xs,y::ys=>ud x y && AN xs ys
 | _,_=>false
def nG(K:Frag):R2:=fun x y H Q=>lY x y H Q∨∃a b xs ys,x=.ref a∧y=.ref b∧bf K H a xs∧bf K H b ys∧xs.all cQ=true∧ys.all cQ=true∧Q (.bl (AN xs ys)) H
def nI(K:Frag):R2:=fun x y H Q=>lZ x y H Q∨∃a b xs ys,x=.ref a∧y=.ref b∧bf K H a xs∧bf K H b ys∧xs.all cQ=true∧ys.all cQ=true∧Q (.bl (!AN xs ys)) H
end
theorem zB{K:Frag}{i j:Int}{H:Hp}{Q:VK}:nG K (.int i) (.int j) H Q↔Q (.bl (decide (i=j))) H:=by simp [nG,rEq_ii]
theorem zJ{K:Frag}{i j:Int}{H:Hp}{Q:VK}:nI K (.int i) (.int j) H Q↔Q (.bl (!decide (i=j))) H:=by simp [nI,nJ]
theorem zC{K:Frag}{i j:Str}{H:Hp}{Q:VK}:nG K (.str i) (.str j) H Q↔Q (.bl (decide (i=j))) H:=by simp [nG,nH]
theorem zK{K:Frag}{i j:Str}{H:Hp}{Q:VK}:nI K (.str i) (.str j) H Q↔Q (.bl (!decide (i=j))) H:=by simp [nI,nK]
theorem zA{K:Frag}{i j:Bool}{H:Hp}{Q:VK}:nG K (.bl i) (.bl j) H Q↔Q (.bl (decide (i=j))) H:=by simp [nG,xh]
theorem zI{K:Frag}{i j:Bool}{H:Hp}{Q:VK}:nI K (.bl i) (.bl j) H Q↔Q (.bl (!decide (i=j))) H:=by simp [nI,xk]
end L2
namespace L2
open PySem PySem.Spec PyProof.Rows
def oF(l:List Nat):Bool:=l.all fun c=>decide (c∈[48,49,50,51,52,53,54,55,56,57])
def eO(w:List Nat):List Nat:=if w.head?=some 45 then w.tail else w
def oP(w:List Nat):Bool:=decide (1≤(eO w).length) && (decide ((eO w).length≤40) && (oF (eO w) && (decide ((eO w).head?≠some 48) || decide (w=[48]))))
theorem qR(w:List Nat):oP w=(if eO w=[]∨40 < (eO w).length then false else if oF (eO w)=false then false else(decide ((eO w).head?≠some 48) || decide (w=[48]))):=by
 unfold oP
 split
 ·rename_i h
  rcases h with h | h
  ·rw [h];rfl
  ·have:¬(eO w).length≤40:=by omega
   simp [this]
 ·rename_i h
  have h1:1≤(eO w).length:=by
   cases e:eO w with
   | nil=>exact absurd (Or.inl e) h
   | cons a b=>simp
  have h2:(eO w).length≤40:=by
   have:¬40 < (eO w).length:=fun z=>h (Or.inr z)
   omega
  simp only [h1,h2,decide_true,Bool.true_and]
  split
  ·rename_i h3;rw [h3];rfl
  ·rename_i h3
   have h3:oF (eO w)=true:=by simpa using h3
   rw [h3];rfl
def h7(n:Int):List Nat:=(Str.ofString (toString n)).cps.toList
def dg(m:Nat):List Nat:=(Nat.toDigits 10 m).map Char.toNat
theorem h8(m:Nat):h7 (m:Int)=dg m:=PySem.W.KIN.signs_num m
theorem ic(k:Nat):h7 (-((k+1:Nat):Int))=45::dg (k+1):=by
 have e:toString (-((k+1:Nat):Int))="-" ++ toString (k+1):=rfl;have h:=PySem.W.KIN.signs_num (k+1);unfold h7 dg;rw [←h,e];have e2:toString (((k+1:Nat):Nat):Int)=toString (k+1):=rfl;rw [e2];simp only [PyProof.Rows.signs_ofString,String.toList_append];rfl
theorem iF(m:Nat):∀c∈dg m,48≤c∧c≤57:=by
 intro c hc;obtain⟨ch,hch,e⟩:=ac3.mp hc;have r:=PyProof.Rows.digit_range (Nat.isDigit_of_mem_toDigits (by decide) (by decide) hch);rw [←e];exact r
theorem oC(m:Nat):dg m≠[]:=by
 intro e;have h:=toDigits_len_ge 10 m;rw [List.map_eq_nil_iff.mp e]at h;exact absurd h (by decide)
theorem oE{m:Nat}(h:m < 10):dg m=[m+48]:=by
 unfold dg;rw [Nat.toDigits_of_lt_base h]
 have:∀m,m < 10→(Nat.digitChar m).toNat=m+48:=by decide
 show [(Nat.digitChar m).toNat]=_;rw [this m h]
theorem AL{m:Nat}(h:¬m < 10):dg m=dg (m / 10)++[m % 10+48]:=by
 have hm:m % 10 < 10:=Nat.mod_lt m (by decide);have t:Nat.toDigits 10 (m / 10)++Nat.toDigits 10 (m % 10)=Nat.toDigits 10 (10 * (m / 10)+m % 10):=Nat.toDigits_append_toDigits (by decide) (by omega) hm;rw [Nat.div_add_mod]at t;rw [←oE hm];unfold dg;rw [←t,ab4]
theorem yp(m:Nat)(h0:0 < m):(dg m).head?≠some 48:=by
 induction m using Nat.strongRecOn with
 | _ m ih=>
  by_cases h:m < 10
  ·rw [oE h]
   simp;omega
  ·rw [AL h]
   have:=ih (m / 10) (by omega) (by omega)
   cases hd:dg (m / 10)with
   | nil=>exact absurd hd (oC _)
   | cons a l=>rw [hd]at this;exact this
theorem qC{k m:Nat}(hk:1≤k)(hm:m < 10 ^ k):(dg m).length≤k:=by
 unfold dg;rw [aa0];exact digits10_le hk hm
theorem jZ(n:Int):∀c∈h7 n,c=45∨(48≤c∧c≤57):=by
 intro c hc;rcases am7 n 0 with h | h
 ·obtain⟨k,rfl⟩:∃k:Nat,n = -((k+1:Nat):Int):=⟨n.natAbs - 1,by omega⟩
  rw [ic]at hc;rcases ab6.mp hc with e | e
  ·exact .inl e
  ·exact .inr (iF _ c e)
 ·obtain⟨m,rfl⟩:=af0 h
  rw [h8]at hc;exact .inr (iF _ c hc)
theorem yq(m:Nat):oF (dg m)=true:=by
 unfold oF;rw [aj4];intro c hc;obtain⟨h1,h2⟩:=iF m c hc
 have:c=48∨c=49∨c=50∨c=51∨c=52∨c=53∨c=54∨c=55∨c=56∨c=57:=by omega
 simpa using this
theorem ue(n:Int):eO (h7 n)=dg n.natAbs:=by
 rcases am7 n 0 with h | h
 ·obtain⟨k,rfl⟩:∃k:Nat,n = -((k+1:Nat):Int):=⟨n.natAbs - 1,by omega⟩
  rw [ic]
  have e:(-((k+1:Nat):Int)).natAbs=k+1:=by omega
  rw [e];rfl
 ·obtain⟨m,rfl⟩:=af0 h
  rw [h8];unfold eO;rw [if_neg]
  ·rfl
  ·intro e
   cases hd:dg m with
   | nil=>exact absurd hd (oC _)
   | cons a l=>
    rw [hd]at e
    have:a=45:=by simpa using e
    have:=iF m a (by rw [hd];exact ad4)
    omega
theorem uk{n:Int}(h:n.natAbs < 10 ^ 40):oP (h7 n)=true:=by
 have hl:(dg n.natAbs).length≤40:=qC (by decide) h
 have hl0:1≤(dg n.natAbs).length:=by
  cases hd:dg n.natAbs with
  | nil=>exact absurd hd (oC _)
  | cons a l=>simp
 unfold oP;rw [ue,yq,decide_eq_true hl,decide_eq_true hl0]
 by_cases h0:n=0
 ·subst h0
  decide +kernel
 ·rw [decide_eq_true (yp n.natAbs (by omega))]
  rfl
theorem jY{n:Int}{k:Nat}(hk:1≤k)(h:n.natAbs < 10 ^ k):(h7 n).length≤k+1:=by
 rcases am7 n 0 with h1 | h1
 ·obtain⟨j,rfl⟩:∃k:Nat,n = -((k+1:Nat):Int):=⟨n.natAbs - 1,by omega⟩
  have e:(-((j+1:Nat):Int)).natAbs=j+1:=by omega
  rw [e]at h;rw [ic,ac5]
  have:=qC hk h
  omega
 ·obtain⟨m,rfl⟩:=af0 h1
  rw [h8]
  have:=qC hk (show m < 10 ^ k from h)
  omega
theorem sk{n:Int}(h:n.natAbs < 10 ^ 600):intText? (Str.ofString (toString n))=some n:=by
 have hl:=jY (by decide) h
 have hl2:(Str.ofString (toString n)).length≤4300:=by rw [aZ];exact ac0 hl (by decide)
 rcases am7 n 0 with h1 | h1
 ·obtain⟨k,rfl⟩:∃k:Nat,n = -((k+1:Nat):Int):=⟨n.natAbs - 1,by omega⟩
  rw [PySem.intText_neg (cs:=dg (k+1)) (ic k) (iF _) (oC _) hl2]
  have:=PySem.W.KIN.val_back (k+1)
  unfold dg;rw [this]
 ·obtain⟨m,rfl⟩:=af0 h1
  have e:(Str.ofString (toString ((m:Nat):Int))).cps.toList=dg m:=h8 m;rw [PySem.intText_digits (by rw [e];exact iF _) (by rw [e];exact oC _) hl2,e]
  have:=PySem.W.KIN.val_back m
  unfold dg;rw [this]
def b0(c:Nat):List (List Nat)→List Nat
 | []=>[]
 | p::r=>p++(r.map (c::·)).flatten
theorem lK(c:Nat):∀(l:List Str) (a:Array Nat),(l.foldl (fun acc p=>acc++(⟨#[c]⟩:Str).cps++p.cps) a).toList=a.toList++(l.map (fun p=>c::p.cps.toList)).flatten
 | [],a=>by simp
 | p::l,a=>by
  rw [ad9,lK c l];simp
theorem jP(c:Nat)(ys:List Str):(Txt.join ⟨#[c]⟩ ys).cps.toList=b0 c (ys.map fun z=>z.cps.toList):=by
 unfold Txt.join Builtin.Str.glued
 cases ys with
 | nil=>rfl
 | cons p r=>
  show(r.foldl (fun acc p=>acc++(⟨#[c]⟩:Str).cps++p.cps) p.cps).toList=_;rw [lK];simp [b0,Function.comp_def]
theorem sT(c:Nat):∀(p:List Nat) (l:List Nat),c∉p→iZ c (p++c::l)=p::iZ c l
 | [],l,_=>by simp [iZ]
 | a::p,l,h=>by
  have h1:a≠c:=fun e=>h (by rw [e];exact ad4);have h2:c∉p:=fun e=>h (ad6 _ e);rw [ag6];simp only [iZ,h1,if_false];rw [sT c p l h2]
theorem pY(c:Nat):∀(p:List Nat),c∉p→iZ c p=[p]
 | [],_=>rfl
 | a::p,h=>by
  have h1:a≠c:=fun e=>h (by rw [e];exact ad4);have h2:c∉p:=fun e=>h (ad6 _ e);simp only [iZ,h1,if_false];rw [pY c p h2]
theorem ky(c:Nat):∀(ps:List (List Nat)),ps≠[]→(∀p∈ps,c∉p)→iZ c (b0 c ps)=ps
 | [],h,_=>absurd rfl h
 | [p],_,h=>by
  simp [b0];exact pY c p (h p ad4)
 | p::q::r,_,h=>by
  have ih:=ky c (q::r) (by simp) (fun x hx=>h x (ad6 _ hx))
  have e:b0 c (p::q::r)=p++c::b0 c (q::r):=by simp [b0]
  rw [e,sT c p _ (h p ad4),ih]
end L2
namespace L3
open PySem PySem.Spec PyProof.Rows
theorem fH(l:Bool)(a:Addr)(xs:Array Value):
  Meets (Builtin.«enumerate.__new__» ⟨[.type "enumerate",.ref a],[]⟩) (fun _ R s=>IsSeq l s.heap a xs∧
   R (.ok (.ret (.ref (s.heap.push (itRec l a)).objs.size))) { s with heap:=(s.heap.push (itRec l a)).push { cls:=.type "enumerate",data:=.fields #[.none,.bool false,.ref s.heap.objs.size,rawInt 0,.none,.none] } }):=
 .of_wp fun prog w A R s h=>by
  obtain⟨hp,g,d,tk,os⟩:=s;obtain⟨q1,h⟩:=h;have hsub:=sub_enumerate;have u1:IsSeq l (Shared.heap ⟨hp,g,d,tk,os⟩) a xs:=q1
  have tl:∃o,hp.get? a=some o:=by
   cases l
   ·obtain⟨o,e,_⟩:=(show hp.IsTuple a xs from q1);exact⟨o,e⟩
   ·obtain⟨o,e,_⟩:=(show hp.IsList a xs from q1);exact⟨o,e⟩
  obtain⟨ob,hl⟩:=tl;obtain⟨c,dct,dt,sl⟩:=ob
  wp_walk using AutoSeq1.wpAny_loadPart' hl
  refine wpAny_stack_any fun st=>wpAny_pure ?_
  split
  ·rename_i c _ _ _ _ _
   cases(c == Value.type "enumerate")
   ·wp_walk using AutoSeq1.wpAny_loadPart' hl,fF u1
    exact⟨_,rfl,h⟩
   ·wp_walk using AutoSeq1.wpAny_loadPart' hl,fF u1
    exact⟨_,rfl,h⟩
  ·wp_walk using AutoSeq1.wpAny_loadPart' hl,fF u1
   exact⟨_,rfl,h⟩
section
variable {prog:Program} {w:World} {A:Around} {E:Value→Shared→Prop} {s:Shared}
theorem call_enumerateB{l:Bool}{a:Addr}{xs:Array Value}{Q:Value→Shared→Prop}(hL:IsSeq l s.heap a xs)
  (h:∀h',IsEnum h' (s.heap.objs.size+1) s.heap.objs.size 0 .none→h'.get? s.heap.objs.size=some (itRec l a)→h'.objs.size=s.heap.objs.size+2→
   (∀b o,s.heap.get? b=some o→h'.get? b=some o)→Q (.ref (s.heap.objs.size+1)) { s with heap:=h' }) :
  wpAny (model prog w) A (call (.type "enumerate") [.ref a]) Q E s:=by
 refine callType_new F.called_enumerate (by decide) (F.typeCall_enumerate_1 _) (F.newCall_enumerate_1 _) (fun obj=>F.args_object_init_2 obj _) F.entry_enumerate_new
  (fH l a xs) ⟨hL,?_⟩
 have hz:(s.heap.push (itRec l a)).objs.size=s.heap.objs.size+1:=ae0 ..;show _∧_;rw [hz]
 have he:IsEnum ((s.heap.push (itRec l a)).push
   { cls:=.type "enumerate",data:=.fields #[.none,.bool false,.ref s.heap.objs.size,rawInt 0,.none,.none] }) (s.heap.objs.size+1) s.heap.objs.size 0 .none:=by
  have:=aa6 (s.heap.push (itRec l a))
   (o:={ cls:=.type "enumerate",data:=.fields #[.none,.bool false,.ref s.heap.objs.size,rawInt 0,.none,.none] }) rfl
  rw [hz]at this;exact this
 refine⟨⟨_,he,rfl⟩,h _ he (aa3 _ (aa6 _ rfl)) (by rw [ae0,hz]) fun b o x=>aa3 _ (aa3 _ x)⟩
end
end L3
namespace L2
open PySem PySem.Spec PyProof.Rows
def Dp(K:Frag)(l:Bool)(a:Addr):It:=
 ⟨fun i H=>∃xs x,eu K l H a xs∧xs[i]?=some x,
  fun i H v H'=>∃p x,v=.ref p∧H p=none∧H'=upd H p (.tup [.int i,x])∧∀xs,eu K l H a xs→xs[i]?=some x,
  fun i H=>∃xs,eu K l H a xs∧i=xs.length⟩
theorem rS{P:Program}{w:World}{K:Frag}{elts:List Expr}{kt:Nat}{pt:Pos}(l:Bool)(a z it:Addr)(nd:z≠it):
  jt P w K (.Tuple elts kt pt) (Dp K l a) [z,it] z (fun i h=>(∃old,IsEnum h z it ((i:Nat):Int) old)∧fi l h it a i):=by
 refine⟨by simp,?_,?_,?_,?_,?_⟩
 ·rintro i h ⟨⟨old,qz⟩,u⟩ c hc
  have hc':c=z∨c=it:=by simpa using hc
  rcases hc' with e | e
  ·subst e;exact⟨_,qz,fun v q=>by cases q⟩
  ·subst e
   exact u.obj
 ·rintro i h h' ⟨⟨old,qz⟩,u⟩ k
  exact⟨⟨old,k z (by simp) _ qz⟩,u.at fun o e=>k it (by simp) o e⟩
 ·rintro X hP hw hK hc i pins s σ H E I hf ⟨⟨old,qz⟩,u⟩ ⟨xs,x,q1,hx⟩
  subst hP hw hK;have hh:X.A.in1.handled=none:=I.ok.hd hc;obtain⟨its,r1,p1,z1⟩:=I.seqB q1;have na:a≠it:=I.seqB_ne q1 (hf it (by simp));have nz:a≠z:=I.seqB_ne q1 (hf z (by simp))
  have lx:i < its.toArray.size:=by
   have:=(aa1.mp hx).1
   rw [aa7,←r1.length];exact this
  have hef:z∉[it,a]:=by
   simp only [ab6,ac4,or_false,not_or];exact⟨nd,nz.symm⟩
  refine wpAny_pyNext_enum_itemD (bU (P:=X.prog) (w:=X.w) hh l it a na its.toArray) qz ⟨u,p1⟩ lx nd hef fun v h' tk ev z' s' pr sz kk=>?_;obtain⟨w1,g1,rx⟩:=r1.get hx
  have ev1:v=w1:=by
   have:its[i]?=some v:=by simpa using ev
   rw [g1]at this;exact(Option.some.inj this).symm
  subst ev1;refine⟨_,rfl,wpAny_letOwnedTupleGo_enum (s:={ s with heap:=h',toks:=tk+1 }) z' fun h2 z2 sb=>?_⟩;have fz:s.heap.objs.size≠z:=ad3 (aa5 qz);have Hn:H s.heap.objs.size=none:=I.hok.fresh (aa8 _)
  have kp:∀c o,c∉[z,it]→s.heap.get? c=some o→h2.get? c=some o:=fun c o hc e=>by
   have hc':c≠z∧c≠it:=by simpa [not_or]using hc
   exact(sb.2 c hc'.1).trans (kk c o hc'.1 hc'.2 e)
  have nf:∀{c:Addr} {u:HO},H c=some u→c∉[z,it]:=fun {c u} e hc=>by
   have:=(hf c hc).1
   rw [e]at this;cases this
  have pr2:h2.get? s.heap.objs.size=some { cls:=.type "tuple",data:=.seq #[.int i tk,v] }:=(sb.2 _ fz).trans pr
  have I2:az X pins σ (upd H s.heap.objs.size (.tup [.int i,x])) { s with heap:=h2,toks:=tk+1 }:=by
   refine I.step (g':=s.gens) (d':=s.drawn) (ch:=[z,it]) (fun c hc=>⟨(hf c hc).2.2.2.1,(hf c hc).2.1,(hf c hc).2.2.2.2.1,(hf c hc).2.2.2.2.2⟩) (fun c o _ _ hc e _=>kp c o hc e) (fun c o _ _ hc e _=>⟨o.slots,kp c o hc e⟩)
    (fun c o _ e n=>by rw [ai (ab1 (aa5 e))];exact n) (fun c o hc e=>⟨o,kp c o hc e⟩) (fun c us e=>by rw [ai (aq e Hn)];exact e) (fun c o u e=>by rw [ai (aq e Hn)];exact e)
    (fun c ps e=>⟨#[],by rw [ai (aq e Hn),e];simp⟩) (fun m hm=>?_) (fun c u e=>?_) I.bare
   ·obtain⟨o,es,ep,ho,r⟩:=hm
    exact⟨o,es,ep,kp _ o (fun q=>(hf _ q).2.1 rfl) ho,r⟩
   ·by_cases hcs:c=s.heap.objs.size
    ·subst hcs
     rw [ag]at e;cases e;exact⟨by rw [sizeLine_eq];show 2≤16777216;omega,[.int i tk,v],.cons ⟨_,rfl⟩ (.cons rx .nil),_,pr2,rfl,_,rfl⟩
    ·rw [ai hcs]at e
     refine(I.hok c u e).stay (fun d o hd q=>kp d o ?_ q) (fun d q=>by rw [ai (aq q Hn)];exact q) fun d us q=>by rw [ai (aq q Hn)];exact q
     rcases hd with hd | hd
     ·rw [hd];exact nf e
     ·exact nf hd
  refine⟨.ref s.heap.objs.size,_,I2,rfl,⟨_,x,rfl,Hn,rfl,fun us hu=>by rw [I.seqB_inj hu q1];exact hx⟩,⟨⟨v,?_⟩,?_⟩,fun c hc=>?_⟩
  ·have e:(((i+1:Nat)):Int)=(i:Int)+1:=by omega
   rw [e];exact z2
  ·exact s'.1.at fun o e=>(sb.2 _ nd.symm).trans e
  ·show upd H s.heap.objs.size (.tup [.int i,x]) c=none
   have lt:c < s.heap.objs.size:=by
    have hc':c=z∨c=it:=by simpa using hc
    rcases hc' with e | e
    ·subst e;exact aa5 qz
    ·subst e;obtain⟨o,e,_⟩:=u.obj;exact aa5 e
   rw [ai (ab1 lt)];exact(hf c hc).1
 ·rintro X hP hw hK hc i pins s σ H E I hf ⟨⟨old,qz⟩,u⟩ ⟨xs,q1,hend⟩
  subst hP hw hK;have hh:X.A.in1.handled=none:=I.ok.hd hc;obtain⟨its,r1,p1,z1⟩:=I.seqB q1;have na:a≠it:=I.seqB_ne q1 (hf it (by simp))
  have ei:i=its.toArray.size:=by rw [aa7,←r1.length];exact hend
  subst ei;obtain⟨f0,f1,f2,f3,f4,f5⟩:=hf it (by simp);exact wpAny_pyNext_enum_endD (bU (P:=X.prog) (w:=X.w) hh l it a na its.toArray) qz ⟨u,p1⟩ fun h' k=>⟨rfl,I.turned (t':=s.toks) (fun b o hb e=>k b o hb e) f0 f1 f3 f4 f5⟩
 ·rintro A i s Q E ⟨⟨old,qz⟩,_⟩ h
  exact wpAny_pyIter_enum qz h
def vY(K:Frag)(ta:TA):TI:=fun σ H R=>ta σ H fun vs H1=>∃a,vs=[.ref a]∧∃l,(∃xs,eu K l H1 a xs)∧R (Dp K l a) H1
theorem dW{X:Cx}{elts:List Expr}{kt:Nat}{pt:Pos}{a:Expr}{ta:TA}{p pos:Pos}(hg:Gl X "enumerate")(hm:X.mg "enumerate"=none)(ha:PA X [a] ta)(hs:starEach [a] X.env=[(false,eval a X.env)]:=by rfl):
  PI X (.Tuple elts kt pt) (.Call (.Name "enumerate" p) [a] [] pos) (vY X.K ta):=by
 intro pins s σ H R I h;refine Call_ (cb I hg hm boot_enumerate (PyProof.Rows.callWith_type1 (bz (ha pos pins s σ H _ I h) fun us s1 ⟨vs,H1,I1,r1,q1⟩=>?_) hs rfl));obtain⟨a1,e,l,⟨xs,q1⟩,q⟩:=q1;subst e;obtain⟨u,rfl,e1⟩:=cN r1;cases e1;obtain⟨its1,r1,p1,z1⟩:=I1.seqB q1;refine L3.call_enumerateB p1 fun h' qz qI sz kp=>wpAny_pyIter_enum qz ?_;refine⟨s1.heap.objs.size+1,[s1.heap.objs.size+1,s1.heap.objs.size],_,_,H1,rfl,I1.kept (h':=h') (t':=s1.toks) kp,rS l a1 _ _ (Nat.succ_ne_self _),⟨⟨_,qz⟩,fi.rec qI⟩,fun c hc=>?_,q⟩
 have hc':s1.heap.objs.size≤c:=by
  have:c=s1.heap.objs.size+1∨c=s1.heap.objs.size:=by simpa using hc
  rcases this with e | e<;>(rw [e];first | exact aa8 _ | exact ai0 _ _)
 exact I1.fpOk hc' (I1.hok.fresh hc')
theorem dP{g:TG}{tb:TS}{D:eU}{σ:St}{H:Hp}{K:Frag}{l:Bool}{a:Addr}{us:List V}(Pv:Nat→St→Hp→Prop)(h0:Pv 0 σ H)(hl:∀i σ H,i≤us.length→Pv i σ H→eu K l H a us)
  (hs:∀i x σ H p,us[i]?=some x→Pv i σ H→H p=none→g (.ref p) σ (upd H p (.tup [.int i,x])) fun σ2 H2=>tb { D with nx:=Pv (i+1),ct:=Pv (i+1),bk:=D.nx } σ2 H2) (hd:∀σ H,Pv us.length σ H→D.nx σ H):tw g tb D σ (Dp K l a) H:=by
 refine⟨fun i m σ H=>m=us.length - i∧i≤us.length∧Pv i σ H,⟨us.length,by simp,ad0 _,h0⟩,?_⟩;rintro i m σ H ⟨rfl,hi,p⟩;have q1:=hl i σ H hi p
 by_cases hlt:i < us.length
 ·refine .inr ⟨⟨us,us[i],q1,by simp [hlt]⟩,Pv (i+1),fun σ' H' p'=>⟨us.length - (i+1),by omega,rfl,hlt,p'⟩,fun x H' y=>?_⟩
  obtain⟨pp,u,e,hp,e2,y1⟩:=y;subst e e2;exact hs i u σ H pp (y1 us q1) p hp
 ·have e:i=us.length:=by omega
  subst e;exact .inl ⟨⟨us,q1,rfl⟩,hd σ H p⟩
theorem i3{n:Nat}{js:List Nat}{g:TG}{tt:TT}{te:TE}{σ:St}{H:Hp}{F:List V→Hp→Prop}{K:Frag}{l:Bool}{a:Addr}{us:List V}(Pv:Nat→List V→Hp→Prop)(hk:us.length≤sizeLine)(h0:Pv 0 [] H)(hn:∀i ys H,Pv i ys H→ys.length≤i)(hl:∀i ys H,Pv i ys H→eu K l H a us)
  (hs:∀i x ys H p,us[i]?=some x→Pv i ys H→H p=none→cy n js g tt te σ (.ref p) ys (upd H p (.tup [.int i,x])) (Pv (i+1))) (hd:∀ys H,Pv us.length ys H→F ys H):jo n js g tt te σ F (Dp K l a) H:=by
 refine⟨fun i m ys H=>m=us.length - i∧i≤us.length∧Pv i ys H,⟨us.length,by simp,ad0 _,h0⟩,?_⟩;rintro i m ys H ⟨rfl,hi,p⟩;have q1:=hl i ys H p
 by_cases hlt:i < us.length
 ·refine .inr ⟨⟨us,us[i],q1,by simp [hlt]⟩,ad5 (hn i ys H p) (ab2 hlt hk),Pv (i+1),fun σ' H' p'=>⟨us.length - (i+1),by omega,rfl,hlt,p'⟩,fun x H' y=>?_⟩
  obtain⟨pp,u,e,hp,e2,y1⟩:=y;subst e e2;exact hs i u ys H pp (y1 us q1) p hp
 ·have e:i=us.length:=by omega
  subst e;exact .inl ⟨⟨us,q1,rfl⟩,hd ys H p⟩
structure B6(K:Frag)(x qual:Str)(st:Stmt)(f:Addr)(fd:FuncData)(T:Addr):Prop where
 ex:∃(oc:Value) (od:Option Addr) (kV doc pm:Value) (an:Option Addr) (cdv ct:Value) (osl:Array (Option Value)),
  fd=fnOf x qual (cC st) (bX st) (av st) (.ref T) kV doc pm an cdv ct∧K.lookup f=some ⟨oc,od,.func fd,osl⟩∧codeIn K cdv qual=true
 kp:keepIn K (.ref f)=true
section
variable {P:Program} {w:World} {K:Frag} {mg:Str→Option Value} {base:Heap}
end
section
variable {X:Cx} {k:Nat} {ps:List Str} {sp:Sp} {x:Str} {p pos:Pos} {e:Expr} {es:List Expr} {t:TA} {dvs:List V}
end
theorem B6.binds{K:Frag}{x qual:Str}{st:Stmt}{f T:Addr}{fd:FuncData}{ps:List Str}(F:B6 K x qual st f fd T){o:Obj}{u:Value}{n:Nat}(t:K.lookup T=some o)(d:o.data=.seq #[u] n)
  (h:∀(kV doc pm:Value) (an:Option Addr) (cdv ct:Value) (us:List Value),us.length=ps.length→
   ∃k:Option (Array Value)→Sem (List (Str×Value)),bindArgs (fnOf x qual (cC st) (bX st) (av st) (.ref T) kV doc pm an cdv ct) ⟨us,[]⟩=seqItems? (.ref T) >>= k∧k (some #[u])=pure (ps.zip us)):cu K fd ps []:=by
 obtain⟨oc,od,kV,doc,pm,an,cdv,ct,osl,rfl,lk,hcd⟩:=F.ex;intro s us X hl;rw [ae3]at hl ⊢;obtain⟨k,h1,h2⟩:=h kV doc pm an cdv ct us hl;exact BindsTo.of_defaults (T:=T) rfl (X _ _ t) d h1 h2
end L2
namespace L2
open PySem PySem.Spec PyProof.Rows
def kE(K:Frag)(H:Hp):Nat→V→V→Bool→Prop
 | 0,x,y,b=>(cQ x=true∧cQ y=true∧b=ud x y)∨∃a,x=.ref a∧y=.ref a∧b=true
 | n+1,x,y,b=>kE K H 0 x y b∨∃(a c:Addr) (l:Bool) (xs ys:List V) (e:Nat→Bool),x=.ref a∧y=.ref c∧a≠c∧eu K l H a xs∧eu K l H c ys∧
   (∀j x y,xs[j]?=some x→ys[j]?=some y→kE K H n x y (e j))∧b=((List.range (min xs.length ys.length)).all e && xs.length == ys.length)
theorem kE.flat{K:Frag}{H:Hp}{n:Nat}{x y:V}(fx:cQ x=true)(fy:cQ y=true):kE K H n x y (ud x y):=by
 cases n
 ·unfold kE;exact .inl ⟨fx,fy,rfl⟩
 ·unfold kE;refine .inl ?_;unfold kE;exact .inl ⟨fx,fy,rfl⟩
theorem kE.same{K:Frag}{H:Hp}{n:Nat}{a:Addr}:kE K H n (.ref a) (.ref a) true:=by
 cases n
 ·unfold kE;exact .inr ⟨a,rfl,rfl,rfl⟩
 ·unfold kE;refine .inl ?_;unfold kE;exact .inr ⟨a,rfl,rfl,rfl⟩
section
variable {X:Cx} {pins:List (Addr×Obj)} {σ:St} {H:Hp} {s:Shared}
theorem eT{xs:List V}{us:List Value}(r:aH xs us){j:Nat}(h:j < us.toArray.size):∃x,xs[j]?=some x∧aF x us.toArray[j]:=by
 have l1:=r.length;simp only [aa7]at h
 have hx:j < xs.length:=by omega
 obtain⟨u,e1,r1⟩:=aH.get r (i:=j) (x:=xs[j]) (by simp [hx])
 have g1:us.toArray[j]=u:=by simpa [h]using e1
 exact⟨xs[j],by simp [hx],by rw [g1];exact r1⟩
theorem xq{A:Around}{l:Bool}{a c:Addr}{xs ys:List V}{us vs:List Value}{e:Nat→Bool}(rx:aH xs us)(ry:aH ys vs)(p1:L3.IsSeq l s.heap a us.toArray)(p2:L3.IsSeq l s.heap c vs.toArray)(hu:A.units < cLine)
  (he:∀j (h1:j < us.toArray.size) (h2:j < vs.toArray.size),SeqAt.EqAt A.in1 s us.toArray[j] vs.toArray[j] (e j)):SeqAt.RcAt A s (.ref a) (.ref c) ((List.range (min xs.length ys.length)).all e && xs.length == ys.length):=by
 have s1:us.toArray.size=xs.length:=by rw [aa7,rx.length]
 have s2:vs.toArray.size=ys.length:=by rw [aa7,ry.length]
 cases l
 ·have:=SeqAt.RcAt.tuples (show s.heap.IsTuple a us.toArray from p1) (show s.heap.IsTuple c vs.toArray from p2) hu he
  rw [s1,s2]at this;exact this
 ·by_cases hl:xs.length=ys.length
  ·have:=SeqAt.RcAt.lists (show s.heap.IsList a us.toArray from p1) (show s.heap.IsList c vs.toArray from p2) (by rw [s1,s2,hl]) hu he
   rw [s1]at this;rw [hl,Nat.min_self,beq_self_eq_true,Bool.and_true,←hl];exact this
  ·have:=SeqAt.RcAt.lists_lengths (show s.heap.IsList a us.toArray from p1) (show s.heap.IsList c vs.toArray from p2) (by rw [s1,s2];simpa using hl) hu
   rw [show(xs.length == ys.length)=false by simpa using hl,Bool.and_false];exact this
theorem xr{A:Around}{l:Bool}{a c:Addr}{xs ys:List V}{us vs:List Value}{e:Nat→Bool}(rx:aH xs us)(ry:aH ys vs)(p1:L3.IsSeq l s.heap a us.toArray)(p2:L3.IsSeq l s.heap c vs.toArray)(hu:A.units < cLine)
  (he:∀j (h1:j < us.toArray.size) (h2:j < vs.toArray.size),SeqAt.EqAt A.in1 s us.toArray[j] vs.toArray[j] (e j)):SeqAt.RcNeAt A s (.ref a) (.ref c) (!((List.range (min xs.length ys.length)).all e && xs.length == ys.length)):=by
 have s1:us.toArray.size=xs.length:=by rw [aa7,rx.length]
 have s2:vs.toArray.size=ys.length:=by rw [aa7,ry.length]
 cases l
 ·have:=SeqAt.RcNeAt.tuples (show s.heap.IsTuple a us.toArray from p1) (show s.heap.IsTuple c vs.toArray from p2) hu he
  rw [s1,s2]at this;exact this
 ·by_cases hl:xs.length=ys.length
  ·have:=SeqAt.RcNeAt.lists (show s.heap.IsList a us.toArray from p1) (show s.heap.IsList c vs.toArray from p2) (by rw [s1,s2,hl]) hu he
   rw [s1]at this;rw [hl,Nat.min_self,beq_self_eq_true,Bool.and_true,←hl];exact this
  ·have:=SeqAt.RcNeAt.lists_lengths (show s.heap.IsList a us.toArray from p1) (show s.heap.IsList c vs.toArray from p2) (by rw [s1,s2];simpa using hl) hu
   rw [show(xs.length == ys.length)=false by simpa using hl,Bool.and_false];exact this
theorem kE.at(I:az X pins σ H s):∀{n:Nat} {A:Around} {x y:V} {u v:Value} {b:Bool},A.units+n < cLine→aF x u→aF y v→kE X.K H n x y b→SeqAt.EqAt A s u v b:=by
 have z0:∀{A:Around} {x y:V} {u v:Value} {b:Bool},aF x u→aF y v→kE X.K H 0 x y b→SeqAt.EqAt A s u v b:=by
  intro A x y u v b rx ry h;unfold kE at h;rcases h with⟨fx,fy,rfl⟩ | ⟨a,rfl,rfl,rfl⟩
  ·exact vQ rx ry fx fy
  ·cases rx;cases ry;exact SeqAt.EqAt.same _
 intro n
 induction n with
 | zero=>intro A x y u v b _ rx ry h;exact z0 rx ry h
 | succ n ih=>
  intro A x y u v b hu rx ry h;unfold kE at h;rcases h with h | ⟨a,c,l,xs,ys,e,rfl,rfl,ne,h1,h2,he,rfl⟩
  ·exact z0 rx ry h
  ·cases rx;cases ry
   obtain⟨us,r1,p1,_⟩:=I.seqB h1;obtain⟨vs,r2,p2,_⟩:=I.seqB h2;refine SeqAt.EqAt.of_refs ne (xq r1 r2 p1 p2 (by omega) fun j j1 j2=>?_);obtain⟨x,ex,rx⟩:=eT r1 j1;obtain⟨y,ey,ry⟩:=eT r2 j2;exact ih (A:=A.in1) (by show A.units+1+n < cLine;omega) rx ry (he j x y ex ey)
def xY(K:Frag)(H:Hp)(n:Nat)(x y:V)(b:Bool):Prop:=∃(a c:Addr) (l:Bool) (xs ys:List V) (e:Nat→Bool),x=.ref a∧y=.ref c∧eu K l H a xs∧eu K l H c ys∧
 (∀j x y,xs[j]?=some x→ys[j]?=some y→kE K H n x y (e j))∧b=((List.range (min xs.length ys.length)).all e && xs.length == ys.length)
theorem Be(n:Nat)(hu:X.A.units+n+1 < cLine):bZ X (compareOp .Eq) (fun x y H Q=>∃b,xY X.K H n x y b∧Q (.bl b) H):=by
 intro pins s σ H x y v u Q I rx ry h;obtain⟨b,⟨a,c,l,xs,ys,e,rfl,rfl,h1,h2,he,rfl⟩,q⟩:=h;cases rx;cases ry;obtain⟨us,r1,p1,_⟩:=I.seqB h1;obtain⟨vs,r2,p2,_⟩:=I.seqB h2;refine xq (A:=X.A) r1 r2 p1 p2 (by omega) (fun j j1 j2=>?_) X.prog X.w X.xe _ (aO I q rfl);obtain⟨x,ex,rx⟩:=eT r1 j1;obtain⟨y,ey,ry⟩:=eT r2 j2;exact kE.at I (A:=X.A.in1) (by show X.A.units+1+n < cLine;omega) rx ry (he j x y ex ey)
theorem Bg(n:Nat)(hu:X.A.units+n+1 < cLine):bZ X (compareOp .NotEq) (fun x y H Q=>∃b,xY X.K H n x y b∧Q (.bl (!b)) H):=by
 intro pins s σ H x y v u Q I rx ry h;obtain⟨b,⟨a,c,l,xs,ys,e,rfl,rfl,h1,h2,he,rfl⟩,q⟩:=h;cases rx;cases ry;obtain⟨us,r1,p1,_⟩:=I.seqB h1;obtain⟨vs,r2,p2,_⟩:=I.seqB h2;refine xr (A:=X.A) r1 r2 p1 p2 (by omega) (fun j j1 j2=>?_) X.prog X.w X.xe _ (aO I q rfl);obtain⟨x,ex,rx⟩:=eT r1 j1;obtain⟨y,ey,ry⟩:=eT r2 j2;exact kE.at I (A:=X.A.in1) (by show X.A.units+1+n < cLine;omega) rx ry (he j x y ex ey)
def ik(K:Frag):R2:=fun x y H Q=>lY x y H Q∨∃b,xY K H 4 x y b∧Q (.bl b) H
def gE(K:Frag):R2:=fun x y H Q=>lZ x y H Q∨∃b,xY K H 4 x y b∧Q (.bl (!b)) H
theorem Ct{A:Around}{k:Nat}(hr:bV k A):A.units+4+1 < cLine:=ad5 (Nat.add_le_add_left (by decide:5≤64) _) hr.units
theorem CJ(K:Frag)(hu:X.A.units+4+1 < cLine)(h:X.K=K:=by rfl):bZ X (compareOp .Eq) (ik K):=h▸opEq.or (Be 4 hu)
theorem CQ(K:Frag)(hu:X.A.units+4+1 < cLine)(h:X.K=K:=by rfl):bZ X (compareOp .NotEq) (gE K):=h▸opNe.or (Bg 4 hu)
end
theorem sM{K:Frag}{i j:Int}{H:Hp}{Q:VK}:ik K (.int i) (.int j) H Q↔Q (.bl (decide (i=j))) H:=by simp [ik,rEq_ii,xY]
theorem sO{K:Frag}{i j:Int}{H:Hp}{Q:VK}:gE K (.int i) (.int j) H Q↔Q (.bl (!decide (i=j))) H:=by simp [gE,nJ,xY]
theorem sN{K:Frag}{i j:Str}{H:Hp}{Q:VK}:ik K (.str i) (.str j) H Q↔Q (.bl (decide (i=j))) H:=by simp [ik,nH,xY]
theorem sP{K:Frag}{i j:Str}{H:Hp}{Q:VK}:gE K (.str i) (.str j) H Q↔Q (.bl (!decide (i=j))) H:=by simp [gE,nK,xY]
theorem Ag(K:Frag):vg (ik K)=ik K:=wg (fun _ _ _ _=>sM) (fun _ _ _ _=>sN)
theorem Ai(K:Frag):vh (gE K)=gE K:=wm (fun _ _ _ _=>sO) (fun _ _ _ _=>sP)
theorem AW{K:Frag}{x y:V}{H:Hp}{Q:VK}:vg (ik K) x y H Q↔ik K x y H Q:=by rw [Ag]
theorem AY{K:Frag}{x y:V}{H:Hp}{Q:VK}:vh (gE K) x y H Q↔gE K x y H Q:=by rw [Ai]
theorem DR{X:Cx}(K:Frag)(hu:X.A.units+4+1 < cLine)(h:X.K=K:=by rfl):bZ X (compareOp .Eq) (vg (ik K)):=by rw [Ag];exact CJ K hu h
theorem yU{X:Cx}(K:Frag)(hu:X.A.units+4+1 < cLine)(h:X.K=K:=by rfl):bZ X (compareOp .NotEq) (vh (gE K)):=by rw [Ai];exact CQ K hu h
theorem xY.of_same{K:Frag}{H:Hp}{n:Nat}{a c:Addr}{l:Bool}{xs:List V}(h1:eu K l H a xs)(h2:eu K l H c xs)(hf:∀x∈xs,cQ x=true∨∃p,x=.ref p):xY K H n (.ref a) (.ref c) true:=by
 refine⟨a,c,l,xs,xs,fun _=>true,rfl,rfl,h1,h2,fun j x y hx hy=>?_,?_⟩
 ·rw [hx]at hy
  cases hy;rcases hf x (aa9 hx)with f | ⟨p,rfl⟩
  ·have:=kE.flat (K:=K) (H:=H) (n:=n) f f
   have e:ud x x=true:=by cases x<;>first | rfl | (simp [ud];done) | exact absurd (show false=true from f) ab0
   rw [e]at this;exact this
  ·exact kE.same
 ·simp
theorem uT{K:Frag}{H:Hp}{a c:Addr}{l:Bool}{xs:List V}{Q:VK}(h1:eu K l H a xs)(h2:eu K l H c xs)(hf:∀x∈xs,cQ x=true∨∃p,x=.ref p)(q:Q (.bl false) H):gE K (.ref a) (.ref c) H Q:=.inr ⟨true,.of_same h1 h2 hf,q⟩
end L2
namespace L2
open PySem PySem.Spec PyProof.Rows
structure DF(P:Program)(w:World)(K:Frag)(mg:Str→Option Value)(base:Heap)(k:Nat)(f:Addr)(ps:List Str)(sp:Sp):Prop where
 ex:∃fd:FuncData,aR P w K mg base cO k f fd ps sp∧keepIn K (.ref f)=true∧cu K fd ps []
structure bH(P:Program)(w:World)(K:Frag)(mg:Str→Option Value)(base:Heap)(C:Addr)(m:Str)(k:Nat)(ps:List Str)(sp:Sp):Prop where
 cl:vc K C
 ex:∃(f:Addr) (fd:FuncData),AG K C m f∧aR P w K mg base cO k f fd ps sp∧cu K fd ps []
structure zW(K:Frag)(C:Addr)(m:Str)(f:Addr):Prop where
 rd:PySem.W.readsIn K C (.type "type")=true
 at_:PySem.W.findCls K (.ref C) (.type "type") m=some (.val (.ref f))
 ga:PySem.W.specialIn K (.ref C) "__getattribute__"=some (some (.builtin "type.__getattribute__"))
 kp:keepIn K (.ref f)=true
structure qh(P:Program)(w:World)(K:Frag)(mg:Str→Option Value)(base:Heap)(x m:Str)(k:Nat)(ps:List Str)(sp:Sp):Prop where
 ex:∃(C f:Addr) (fd:FuncData),mg x=some (.ref C)∧zW K C m f∧aR P w K mg base cO k f fd ps sp∧cu K fd ps []
structure my(P:Program)(w:World)(K:Frag)(mg:Str→Option Value)(base:Heap)(x:Str)(C:Addr)(k:Nat)(ps:List Str)(sp:Sp):Prop where
 ex:∃(f:Addr) (fd:FuncData),Mk K C f∧aR P w K mg base cO k f fd ps sp∧mg x=some (.ref C)∧cu K fd ps []
section
variable {P:Program} {w:World} {K:Frag} {mg:Str→Option Value} {base:Heap} {j k:Nat} {ps:List Str} {sp:Sp} {x m:Str} {C f:Addr}
theorem bH.up(d:bH P w K mg base C m j ps sp)(h:j≤k):bH P w K mg base C m k ps sp:=let ⟨f,fd,a,F,c⟩:=d.ex;⟨d.cl,f,fd,a,F.mono h,c⟩
theorem qh.up(d:qh P w K mg base x m j ps sp)(h:j≤k):qh P w K mg base x m k ps sp:=let ⟨C,f,fd,a,b,F,c⟩:=d.ex;⟨C,f,fd,a,b,F.mono h,c⟩
theorem my.up(d:my P w K mg base x C j ps sp)(h:j≤k):my P w K mg base x C k ps sp:=let ⟨f,fd,a,F,b,c⟩:=d.ex;⟨f,fd,a,F.mono h,b,c⟩
end
def rN(P:Program)(w:World)(K:Frag)(mg:Str→Option Value)(base:Heap)(k:Nat)(m:Str)(ta:TE)(t:TA):TE:=fun σ H Q=>ta σ H fun x H1=>∃(a C dx:Addr) (fs:List (Str×V)) (ps:List Str) (sp:Sp),
 x=.ref a∧H1 a=some (.ins C dx fs)∧fs.lookup m=none∧bH P w K mg base C m k ps sp∧t σ H1 fun vs H2=>sp (x::vs) H2 Q E0
def BF(P:Program)(w:World)(K:Frag)(mg:Str→Option Value)(base:Heap)(k:Nat)(tf:TE)(t:TA):TE:=fun σ H Q=>tf σ H fun x H1=>∃(f:Addr) (ps:List Str) (sp:Sp),
 x=.ref f∧DF P w K mg base k f ps sp∧t σ H1 fun vs H2=>sp vs H2 Q E0
section
variable {X:Cx} {k:Nat} {f C:Addr} {fd:FuncData} {ps:List Str} {sp:Sp} {x m:Str} {p pos apos:Pos} {e o:Expr} {es:List Expr} {ta:TE} {t:TA}
theorem dh(P:Program)(w:World)(K:Frag)(mg:Str→Option Value)(base:Heap){pl:Sem Bool}(hr:bV k X.A)(he:PE X o ta)(ha:PA X (e::es) t)(e1:X.prog=P:=by rfl)(e2:X.w=w:=by rfl)(e3:X.K=K:=by rfl)(e4:X.mg=mg:=by rfl)(e5:X.base=base:=by rfl)
  (hst:starEach (e::es) X.env=(false,eval e X.env)::starEach es X.env:=by rfl) (hpl:(backTo pos (starEach es X.env)).any (·.1)=false:=by rfl)
  (ht:eval (.Call (.Attribute o m apos) (e::es) [] pos) X.env=(do
   let ov ←eval o X.env
   standAt apos.atName
   let (f,first) ←holding [ov] (getMethod ov m pl)
   callWith pos f first (backTo pos (starEach (e::es) X.env)) (backToKw pos (keywordEach [] X.env))):=by rfl) :
  PE X (.Call (.Attribute o m apos) (e::es) [] pos) (rN P w K mg base k m ta t):=by
 subst e1 e2 e3 e4 e5;intro pins s σ H Q I h;refine PySem.W.methodCall_KW (pl:=pl) (bz (he pins s σ H _ I h) fun u s1 ⟨x,H1,I1,rx,a,C,dx,fs,ps,sp,ex,ea,l,M,q⟩=>?_) ht;subst ex;obtain rfl:u=Value.ref a:=rx;obtain⟨f,fd,hm,F,hb⟩:=M.ex;refine jJ I1 ea M.cl hm l ?_;refine callWith_K (first:=[.ref a]) (h₀:=X.base) I.ok.mod.kin hm.kp (bz (ha pos pins s1 σ H1 _ I1 q) fun us s2 ⟨vs,H2,I2,r,q2⟩=>⟨I2.kIn,?_⟩) hst hpl;exact nN (us:=.ref a::us) (vs:=.ref a::vs) (dvs:=[]) (E:=E0) F hr hb .nil pE I2 (.cons rfl r) (by rw [ae3];exact q2)
theorem gg(P:Program)(w:World)(K:Frag)(mg:Str→Option Value)(base:Heap){pl:Sem Bool}(hr:bV k X.A)(he:PE X o ta)(e1:X.prog=P:=by rfl)(e2:X.w=w:=by rfl)(e3:X.K=K:=by rfl)(e4:X.mg=mg:=by rfl)(e5:X.base=base:=by rfl)
  (ht:eval (.Call (.Attribute o m apos) [] [] pos) X.env=(do
   let ov ←eval o X.env
   standAt apos.atName
   let (f,first) ←holding [ov] (getMethod ov m pl)
   callWith pos f first (backTo pos (starEach [] X.env)) (backToKw pos (keywordEach [] X.env))):=by rfl) :
  PE X (.Call (.Attribute o m apos) [] [] pos) (rN P w K mg base k m ta xP):=by
 subst e1 e2 e3 e4 e5;intro pins s σ H Q I h;refine PySem.W.methodCall_KW (pl:=pl) (bz (he pins s σ H _ I h) fun u s1 ⟨x,H1,I1,rx,a,C,dx,fs,ps,sp,ex,ea,l,M,q⟩=>?_) ht;subst ex;obtain rfl:u=Value.ref a:=rx;obtain⟨f,fd,hm,F,hb⟩:=M.ex;refine jJ I1 ea M.cl hm l ?_;exact PySem.W.callWith_K0 (first:=[.ref a]) I1.kIn hm.kp (nN (us:=[.ref a]) (vs:=[.ref a]) (dvs:=[]) (E:=E0) F hr hb .nil pE I1 (.cons rfl .nil) q)
theorem wY{pl:Sem Bool}(d:qh X.prog X.w X.K X.mg X.base x m k ps sp)(hr:bV k X.A)(hg:Gl X x)(ha:PA X (e::es) t)(hdb:(x == ("__debug__":Str))=false:=by decide)
  (hst:starEach (e::es) X.env=(false,eval e X.env)::starEach es X.env:=by rfl) (hpl:(backTo pos (starEach es X.env)).any (·.1)=false:=by rfl)
  (ht:eval (.Call (.Attribute (.Name x p) m apos) (e::es) [] pos) X.env=(do
   let ov ←eval (.Name x p) X.env
   standAt apos.atName
   let (f,first) ←holding [ov] (getMethod ov m pl)
   callWith pos f first (backTo pos (starEach (e::es) X.env)) (backToKw pos (keywordEach [] X.env))):=by rfl) :
  PE X (.Call (.Attribute (.Name x p) m apos) (e::es) [] pos) (p5 sp [] E0 t):=by
 obtain⟨C,f,fd,hm,c,F,hb⟩:=d.ex;intro pins s σ H Q I h;refine PySem.W.methodCall_KW (pl:=pl) (gd I hg hm ?_ hdb) ht;refine PySem.W.method_cls I.kIn c.ga (PySem.W.cls_value I.kIn c.rd c.at_ rfl ?_);have I1:=I.tok (s.toks+1);refine callWith_K (first:=[]) (h₀:=X.base) I.ok.mod.kin c.kp (bz (ha pos pins _ σ H _ I1 h) fun us s2 ⟨vs,H2,I2,r,q2⟩=>⟨I2.kIn,?_⟩) hst hpl;exact nN (us:=us) (vs:=vs) F hr hb .nil pE I2 r q2
theorem Ap(d:my X.prog X.w X.K X.mg X.base x C k ps sp)(hr:bV (k+1) X.A)(hg:Gl X x)(ha:PA X (e::es) t)(hdb:(x == ("__debug__":Str))=false:=by decide)
  (he:starEach (e::es) X.env=(false,eval e X.env)::starEach es X.env:=by rfl) (hpl:(backTo pos (starEach es X.env)).any (·.1)=false:=by rfl) :
  PE X (.Call (.Name x p) (e::es) [] pos) (xN C sp [] E0 t):=
 let ⟨_,_,M,F,hm,hb⟩:=d.ex;zj M F hr hg hm hb .nil pE ha hdb he hpl
end
def Cc(K:Frag)(a:Addr)(D:List (Str×V)):Prop:=(a == sysModules)=false∧∃o es ep,K.lookup a=some o∧o.ExactDict∧o.data=.dict es ep∧KTD.Rows aF es.toList D
section
variable {prog:Program} {w:World} {A:Around} {E:Value→Shared→Prop} {s:Shared} {K:Frag} {a:Addr} {D:List (Str×V)} {k:Str} {tk:Tok}
theorem Cc.typeIs(X:K.In s.heap)(T:Cc K a D):s.TypeIs (.ref a) "dict":=let ⟨_,o,_,_,ho,hc,_⟩:=T;⟨o,X _ _ ho,hc.1⟩
end
section
variable {X:Cx}
end
end L2
namespace L2
open PySem PySem.Spec PyProof.Rows
theorem m5{a b:String}:(Str.ofString a=Str.ofString b)↔a=b:=by
 constructor
 ·intro h
  rw [Str.ofString_eq_toList,Str.ofString_eq_toList]at h
  have h1:(a.toList.map Char.toNat)=(b.toList.map Char.toNat):=by
   have:=congrArg (fun s:Str=>s.cps.toList) h
   simpa using this
  have h2:a.toList=b.toList:=by
   refine List.map_inj_right (f:=Char.toNat) (fun x y e=>?_) |>.mp h1
   exact Char.toNat_inj.mp e
  exact String.toList_inj.mp h2
 ·intro h;rw [h]
def CG:Option Int→V
 | none=>.non
 | some i=>.int i
def sA(us:List Int)(v:Int):Int:=us.getD (v - 1).toNat 0
theorem wG{us:List Int}{v:Int}(h1:1≤v)(h2:v≤us.length):iC (us.map V.int) (v - 1)=some (.int (sA us v)):=by
 obtain⟨k,hk⟩:=af0 (show 0≤v - 1 by omega);rw [hk]
 have hl:k < us.length:=by omega
 refine aK ?_;rw [aa4,aa2 hl];simp [sA,hk,List.getD,aa2 hl]
structure aT where
 size:Int
 start:Int
 after:Int→Option (List Int)→List Int→Option Int
 closes:Int→Option (List Int)→Bool
def BV(K:Frag)(H:Hp)(nv:Nat)(b:Option (List Int))(x:V):Prop:=(b=none∧x=.non)∨∃a us,b=some us∧x=.ref a∧bf K H a (us.map V.int)∧us.length=nv
theorem BV.same{K:Frag}{H H':Hp}{nv:Nat}{b:Option (List Int)}{x:V}(s:au H H')(h:BV K H nv b x):BV K H' nv b x:=by
 rcases h with h | ⟨a,us,h1,h2,h3,h4⟩
 ·exact .inl h
 ·exact .inr ⟨a,us,h1,h2,s.tup h3,h4⟩
abbrev Ca:=Addr→Hp→Prop
def Dc(RI:Ca)(v:V):Sp:=fun vs H Q _=>∃r,vs=[.ref r]∧RI r H∧Q v H
def zP(K:Frag)(nv:Nat)(RI:Ca)(S:aT)(G:Int→Prop):Sp:=fun vs H Q _=>∃r m x c b us,vs=[.ref r,.int m,x,.ref c]∧RI r H∧G m∧BV K H nv b x∧bf K H c (us.map V.int)∧us.length=nv∧Q (CG (S.after m b us)) H
def xA(K:Frag)(nv:Nat)(RI:Ca)(S:aT)(G:Int→Prop):Sp:=fun vs H Q _=>∃r m x b,vs=[.ref r,.int m,x]∧RI r H∧G m∧BV K H nv b x∧Q (.bl (S.closes m b)) H
structure yg(P:Program)(w:World)(K:Frag)(mg:Str→Option Value)(base:Heap)(k:Nat)(nv:Nat)(C:Addr)(S:aT)(RI:Ca)(G:Int→Prop):Prop where
 mono:∀r H H',au H H'→RI r H→RI r H'
 ins:∀r H,RI r H→∃dx fs,H r=some (.ins C dx fs)∧fs.lookup (Str.ofString "size")=none∧fs.lookup (Str.ofString "start")=none∧fs.lookup (Str.ofString "after")=none∧fs.lookup (Str.ofString "closes")=none∧fs.lookup (Str.ofString "shown")=none
 g0:G S.start
 gS:∀m b us m',G m→S.after m b us=some m'→G m'
 size:bH P w K mg base C "size" k ["self"] (Dc RI (.int S.size))
 start:bH P w K mg base C "start" k ["self"] (Dc RI (.int S.start))
 after:bH P w K mg base C "after" k ["self","memory","before","column"] (zP K nv RI S G)
 closes:bH P w K mg base C "closes" k ["self","memory","last"] (xA K nv RI S G)
def vv(S:aT)(m:Int)(b:Option (List Int))(i:Nat):List (List Int)→Option Nat
 | []=>if S.closes m b=true then none else some i
 | c::cs=>match S.after m b c with
  | none=>some i
  | some m'=>vv S m' (some c) (i+1) cs
def AE(K:Frag)(H:Hp)(l:Addr)(nv:Nat)(cols:List (List Int)):Prop:=∃ps:List Addr,aI K H l (ps.map V.ref)∧ps.length=cols.length∧∀(i:Nat) (p:Addr) (us:List Int),ps[i]?=some p→cols[i]?=some us→bf K H p (us.map V.int)∧us.length=nv
structure fu(z kind:Str)(ns:List Int):Prop where
 cs:z.cps.toList=b0 32 (kind.cps.toList::ns.map h7)
 nb:∀n∈ns,n.natAbs < 10 ^ 40
 nl:ns.length≤20
 ks:32∉kind.cps.toList
 kl:kind.length≤20
 k0:kind.cps.toList≠[]
theorem mW(n:Int):32∉h7 n:=fun h=>by
 have:=jZ n 32 h
 omega
theorem zS{x y:Str}(h:x.cps.toList=y.cps.toList):x=y:=by
 have:=ix x y
 rw [decide_eq_true h]at this;exact of_decide_eq_true this
theorem cZ:∀{xs ys:List Str},xs.map (fun z=>z.cps.toList)=ys.map (fun z=>z.cps.toList)→xs=ys
 | [],[],_=>rfl
 | [],_::_,h=>by simp at h
 | _::_,[],h=>by simp at h
 | x::xs,y::ys,h=>by
  rw [ad1,ad1]at h
  injection h with h1 h2
  rw [zS h1,cZ h2]
def dR(n:Int):Str:=Str.ofString (toString n)
theorem fu.split{z kind:Str}{ns:List Int}(R:fu z kind ns):Txt.split z ⟨#[32]⟩=kind::ns.map dR:=by
 refine cZ ?_;rw [fW z (by decide),R.cs,ky 32 _ (by simp) (fun p hp=>?_),ad1,ai1]
 ·rfl
 ·rcases ab6.mp hp with rfl | hp
  ·exact R.ks
  ·obtain⟨n,_,rfl⟩:=ac3.mp hp
   exact mW n
theorem iI(c:Nat):∀(ps:List (List Nat)) (m:Nat),(∀p∈ps,p.length≤m)→(b0 c ps).length≤ps.length * (m+1)
 | [],_,_=>by simp [b0]
 | p::ps,m,h=>by
  have h1:=h p (by simp);have h2:=iI c ps m (fun q hq=>h q (by simp [hq]))
  have h3:(b0 c (p::ps)).length≤p.length+1+(b0 c ps).length:=by
   cases ps with
   | nil=>simp [b0]
   | cons q ps=>
    simp [b0,ab3];omega
  rw [ac5,am3];omega
theorem fu.len{z kind:Str}{ns:List Int}(R:fu z kind ns):z.length≤10000:=by
 rw [aZ,R.cs]
 have h:=iI 32 (kind.cps.toList::ns.map h7) 60 (fun p hp=>by
  rcases ab6.mp hp with rfl | hp
  ·have:=R.kl;rw [aZ]at this;omega
  ·obtain⟨n,hn,rfl⟩:=ac3.mp hp
   have:=jY (n:=n) (k:=40) (by decide) (R.nb n hn)
   omega)
 have:=R.nl
 simp only [ac5,aa0]at h;omega
theorem fu.head{z kind:Str}{ns:List Int}(R:fu z kind ns):z.cps.toList.head?=kind.cps.toList.head?:=by
 rw [R.cs]
 cases e:kind.cps.toList with
 | nil=>exact absurd e R.k0
 | cons a l=>
  cases ns with
  | nil=>simp [b0]
  | cons n ns=>simp [b0]
end L2
namespace L2
open PySem PySem.Spec PyProof.Rows
theorem j7{X:Cx}{e:Expr}:PE X e (fun _ _ _=>False):=fun _ _ _ _ _ _ h=>h.elim
theorem tR(xs:List V)(k:Nat):mJ xs (some (k:Int)) none=xs.drop k:=by
 unfold mJ;rw [HT.sIx_nat,HT.sIx_none]
 by_cases h:k≤xs.length
 ·rw [Nat.min_eq_left h,ae6 (by rw [ah8];omega)]
 ·rw [Nat.min_eq_right (by omega),List.drop_of_length_le (aa8 _),List.drop_of_length_le (by omega),List.take_nil]
theorem oN(i:Int):∀D:List Int,Cy (.int i) (D.map V.int)=decide (i∈D)
 | []=>rfl
 | d::D=>by
  have ih:=oN i D
  have e:Cy (.int i) ((d::D).map V.int)=((d == i) || Cy (.int i) (D.map V.int)):=rfl
  rw [e,ih,af9,Bool.or_eq_true,beq_iff_eq,decide_eq_true_eq,decide_eq_true_eq,ab6];exact⟨fun h=>h.imp Eq.symm id,fun h=>h.imp Eq.symm id⟩
theorem aI.at_ins{K:Frag}{H:Hp}{q x C dx:Addr}{fs:List (Str×V)}{xs:List V}{o:HO}(h:aI K H q xs)(hx:H x=some (.ins C dx fs)):aI K (upd H x o) q xs:=by
 rcases h with(h | ⟨u,h⟩) | h
 ·exact .inl (.inl (by rw [ai (hZ h hx (by intro z;cases z))];exact h))
 ·exact .inl (.inr ⟨u,by rw [ai (hZ h hx (by intro z;cases z))];exact h⟩)
 ·exact .inr h
theorem p8{H:Hp}{x l:Addr}{A L B:HO}:upd (upd (upd H x A) l L) x B=upd (upd H l L) x B:=by
 funext b
 unfold upd
 by_cases h:b=x
 ·rw [if_pos h,if_pos h]
 ·rw [if_neg h,if_neg h,if_neg h]
end L2
namespace L2
open PySem PySem.Spec PyProof.Rows
structure ft(K:Frag)(C:Addr)(m qual:Str)(st:Stmt)(f:Addr)(fd:FuncData):Prop where
 me:AG K C m f
 fn:cY K m qual st f fd
theorem methAt_mk{K:Frag}{C:Addr}{m qual:Str}{st:Stmt}{f:Addr}{oc:Value}{od an:Option Addr}{osl:Array (Option Value)}{kV doc pm cdv ct:Value}(a:findIn K (.ref C) m=some (some (.ref f)))(i:isFn K (.ref f)=true)
  (l:K.lookup f=some ⟨oc,od,.func (fnOf m qual (cC st) (bX st) (av st) .none kV doc pm an cdv ct),osl⟩) (c:codeIn K cdv qual=true) (k:keepIn K (.ref f)=true):∃f fd,ft K C m qual st f fd:=
 ⟨f,_,⟨a,i,k⟩,jG l c k⟩
theorem ft.ok{P:Program}{w:World}{K:Frag}{mg:Str→Option Value}{base:Heap}{C:Addr}{m qual:Str}{st:Stmt}{f:Addr}{fd:FuncData}{k:Nat}{ps:List Str}{sp:Sp}(A:ft K C m qual st f fd)(cl:vc K C)(ok:aR P w K mg base cO k f fd ps sp)(b:cu K fd ps []):bH P w K mg base C m k ps sp:=⟨cl,f,fd,A.me,ok,b⟩
structure je(K:Frag)(x m qual:Str)(st:Stmt)(C f:Addr)(fd:FuncData):Prop where
 ns:nsIn K mainGlobals x=some (some (.ref C))
 cm:zW K C m f
 fn:cY K m qual st f fd
theorem cmethAt_mk{K:Frag}{C:Addr}{x m qual:Str}{st:Stmt}{f:Addr}{oc:Value}{od an:Option Addr}{osl:Array (Option Value)}{kV doc pm cdv ct:Value}(n:nsIn K mainGlobals x=some (some (.ref C)))(r:PySem.W.readsIn K C (.type "type")=true)(a:PySem.W.findCls K (.ref C) (.type "type") m=some (.val (.ref f)))
  (g:PySem.W.specialIn K (.ref C) "__getattribute__"=some (some (.builtin "type.__getattribute__")))
  (l:K.lookup f=some ⟨oc,od,.func (fnOf m qual (cC st) (bX st) (av st) .none kV doc pm an cdv ct),osl⟩) (c:codeIn K cdv qual=true) (k:keepIn K (.ref f)=true):∃C f fd,je K x m qual st C f fd:=
 ⟨C,f,_,n,⟨r,a,g,k⟩,jG l c k⟩
theorem je.df{P:Program}{w:World}{K:Frag}{mg:Str→Option Value}{base h:Heap}{x m qual:Str}{st:Stmt}{C f:Addr}{fd:FuncData}{k:Nat}{ps:List Str}{sp:Sp}(A:je K x m qual st C f fd)(X:K.In h)(G:h.Ns mainGlobals mg)(ok:aR P w K mg base cO k f fd ps sp)(b:cu K fd ps []):qh P w K mg base x m k ps sp:=
 ⟨C,f,fd,mg_of X G A.ns,A.cm,ok,b⟩
structure vk(K:Frag)(x qual:Str)(st:Stmt)(C f:Addr)(fd:FuncData):Prop where
 ns:nsIn K mainGlobals x=some (some (.ref C))
 mm:Mk K C f
 fn:cY K "__init__" qual st f fd
theorem mkAt_mk{K:Frag}{C:Addr}{x qual:Str}{st:Stmt}{f:Addr}{oc:Value}{od an:Option Addr}{osl:Array (Option Value)}{kV doc pm cdv ct:Value}(n:nsIn K mainGlobals x=some (some (.ref C)))(mk:PySem.W.makesIn K C=true)(a:findIn K (.ref C) "__init__"=some (some (.ref f)))(i:isFn K (.ref f)=true)(kc:keepIn K (.ref C)=true)
  (l:K.lookup f=some ⟨oc,od,.func (fnOf "__init__" qual (cC st) (bX st) (av st) .none kV doc pm an cdv ct),osl⟩) (c:codeIn K cdv qual=true) (k:keepIn K (.ref f)=true):∃f fd,vk K x qual st C f fd:=
 ⟨f,_,n,⟨mk,a,i,kc⟩,jG l c k⟩
theorem vk.df{P:Program}{w:World}{K:Frag}{mg:Str→Option Value}{base h:Heap}{x qual:Str}{st:Stmt}{C f:Addr}{fd:FuncData}{k:Nat}{ps:List Str}{sp:Sp}(A:vk K x qual st C f fd)(X:K.In h)(G:h.Ns mainGlobals mg)(ok:aR P w K mg base cO k f fd ps sp)(b:cu K fd ps []):my P w K mg base x C k ps sp:=
 ⟨f,fd,A.mm,ok,mg_of X G A.ns,b⟩
theorem ur(c:Nat)(a b:List Nat)(ps:List (List Nat)):b0 c (a::b::ps)=a++c::b0 c (b::ps):=by simp [b0]
theorem pk{n:Int}(h:n.natAbs < 10 ^ 40):(dR n).length≤41:=by
 rw [aZ];exact jY (n:=n) (k:=40) (by decide) h
theorem wH{us:List Int}{v:Int}(h1:0≤v)(h2:v < us.length):iC (us.map V.int) v=some (.int (sA us (v+1))):=by
 have:=wG (us:=us) (v:=v+1) (by omega) (by omega)
 rwa [show v+1 - 1=v by omega]at this
end L2
namespace L2
open PySem PySem.Spec PyProof.Rows
section
variable {X:Cx}
theorem kJ:bq X (.type "str") (fun xs H Q=>∃z,xs=[.str z]∧Q (.str z) H):=by
 intro pins s σ H xs us Q I r h;obtain⟨z,rfl,q⟩:=h;obtain⟨u,rfl,ru⟩:=cN r;obtain⟨t,rfl⟩:=ru;exact P.str_of_str ⟨.str z,H,I,⟨t,rfl⟩,q⟩
def rq:List V→Hp→VK→Prop:=fun xs H Q=>(∃i,xs=[.int i]∧i.natAbs.log2 < 1920∧Q (.str (dR i)) H)∨∃z,xs=[.str z]∧Q (.str z) H
theorem lD:bq X (.type "str") rq:=call_str_int.or kJ
end
theorem Bx{i:Int}{H:Hp}{Q:VK}:rq [.int i] H Q↔i.natAbs.log2 < 1920∧Q (.str (dR i)) H:=by simp [rq]
theorem By{z:Str}{H:Hp}{Q:VK}:rq [.str z] H Q↔Q (.str z) H:=by simp [rq]
end L2
namespace L3
open PySem PySem.Spec PyProof.Rows
section
variable {prog:Program} {w:World} {A:Around} {E:Value→Shared→Prop} {s:Shared}
end
end L3
namespace L2
open PySem PySem.Spec PyProof.Rows
def DN(K:Frag)(n:Nat)(t:yh):TG:=fun v σ H Q=>∃a l xs,v=.ref a∧eu K l H a xs∧xs.length=n∧t xs σ H Q
theorem pQ{K:Frag}{H:Hp}{a:Addr}{i:Int}{D:List Int}{Q:VK}(h:aI K H a (D.map V.int))(q:Q (.bl (!decide (i∈D))) H):gi K (.int i) (.ref a) H Q:=by
 refine .inr ⟨a,_,rfl,.inl h,rfl,?_,?_⟩
 ·rw [am5];exact aj4.mpr fun _ _=>rfl
 ·rw [oN];exact q
theorem tD{α:Type}{xs:List α}{v:α}{n:Nat}(hl:xs.length=n+1)(h:xs[n]?=some v):iC xs (-1)=some v:=by
 unfold iC yG;rw [if_neg (by decide),if_pos (by omega),hl];show xs[((-1:Int)+((n+1:Nat):Int)).toNat]?=some v;rw [show((-1:Int)+((n+1:Nat):Int)).toNat=n by omega];exact h
end L2
namespace L2
open PySem PySem.Spec PyProof.Rows
section
variable {X:Cx} {e st:Expr} {te:TE} {p2 pos:Pos}
def D0(K:Frag)(te ts:TE):TE:=fun σ H Q=>te σ H fun x H1=>ts σ H1 fun y H2=>y=.int (-1)∧∃a xs,x=.ref a∧aI K H2 a xs∧∀p,H2 p=none→Q (.ref p) (upd H2 p (.lst xs.reverse))
end
end L2
namespace L2
open PySem PySem.Spec PyProof.Rows
def eY(B:Nat→Bool)(i:Nat):Nat→Option Nat
 | 0=>none
 | k+1=>if B i=true then some i else eY B (i+1) k
theorem oK(B:Nat→Bool):∀(k i:Nat),eY B i (k+1)=match eY B i k with | some j=>some j | none=>if B (i+k)=true then some (i+k)else none
 | 0,i=>by simp [eY]
 | k+1,i=>by
  have ih:=oK B k (i+1);rw [eY,ih]
  by_cases hb:B i=true
  ·simp [eY,hb]
  ·rw [if_neg hb]
   simp only [eY];rw [if_neg hb,show i+1+k=i+(k+1)by omega]
def sJ(cols:List (List Int)):Nat→Option (List Int)
 | 0=>none
 | i+1=>cols[i]?
structure Walks(S:aT)(cols:List (List Int))(mem:Nat→Int)(B:Nat→Bool):Prop where
 m0:S.start=mem 0
 st:∀(i:Nat) (us:List Int),cols[i]?=some us→S.after (mem i) (sJ cols i) us=if B i=true then none else some (mem (i+1))
theorem Walks.go{S:aT}{cols:List (List Int)}{mem:Nat→Int}{B:Nat→Bool}(h:Walks S cols mem B):∀(k i:Nat),i+k=cols.length→vv S (mem i) (sJ cols i) i (cols.drop i)=match eY B i k with | some j=>some j | none=>if S.closes (mem cols.length) (sJ cols cols.length)=true then none else some cols.length
 | 0,i,e=>by
  have e':i=cols.length:=by omega
  subst e';rw [ag5];rfl
 | k+1,i,e=>by
  have hi:i < cols.length:=by omega
  rw [ae7 hi];simp only [vv,eY];rw [h.st i cols[i] (aa2 hi)]
  by_cases hb:B i=true
  ·rw [if_pos hb,if_pos hb]
  ·rw [if_neg hb,if_neg hb]
   have:=h.go k (i+1) (by omega)
   rw [show sJ cols (i+1)=some cols[i]from aa2 hi]at this;exact this
theorem xu{x kind:Str}{a b:Int}(hx:x.cps.toList=kind.cps.toList++[32])(na:a.natAbs < 10 ^ 40)(nb:b.natAbs < 10 ^ 40)(ks:32∉kind.cps.toList)(kl:kind.length≤20)(k0:kind.cps.toList≠[]):fu (x++dR a++Str.ofString " " ++ dR b) kind [a,b]:=by
 refine⟨?_,fun n hn=>?_,by simp,ks,kl,k0⟩
 ·have e32:(Str.ofString " ").cps.toList=[32]:=by decide +kernel
  have ea:∀u v:Str,(u++v).cps.toList=u.cps.toList++v.cps.toList:=fun u v=>by
   show(u.cps++v.cps).toList=_;rw [Array.toList_append]
  rw [ea,ea,ea,hx,e32];simp only [ad1,ah9,b0];simp;rfl
 ·rcases ab6.mp hn with rfl | hn
  ·exact na
  ·rw [ab7.mp hn];exact nb
def mx(H:Hp)(nv:Nat)(ps:List Addr)(cols:List (List Int)):Prop:=ps.length=cols.length∧∀(i:Nat) (p:Addr) (us:List Int),ps[i]?=some p→cols[i]?=some us→H p=some (.tup (us.map V.int))∧us.length=nv
theorem mx.at{K:Frag}{H:Hp}{nv:Nat}{ps:List Addr}{cols:List (List Int)}(h:mx H nv ps cols):∀(i:Nat) (p:Addr) (us:List Int),ps[i]?=some p→cols[i]?=some us→bf K H p (us.map V.int)∧us.length=nv:=fun i p us e1 e2=>⟨bf.of (h.2 i p us e1 e2).1,(h.2 i p us e1 e2).2⟩
theorem mx.line{K:Frag}{H:Hp}{nv:Nat}{ps:List Addr}{cols:List (List Int)}{l:Addr}(h:mx H nv ps cols)(hl:H l=some (.lst (ps.map V.ref))):AE K H l nv cols:=⟨ps,aI.of hl,h.1,h.at⟩
theorem line_at{K:Frag}{H:Hp}{nv:Nat}{cols:List (List Int)}{ps:List Addr}{l:Addr}{o:Int}(hps:aI K H l (ps.map V.ref))(hpl:ps.length=cols.length)(hpc:∀(i:Nat) (p:Addr) (us:List Int),ps[i]?=some p→cols[i]?=some us→bf K H p (us.map V.int)∧us.length=nv)(o0:0≤o)(o1:o < nv){p:Int}(p0:0≤p)(p1:p < cols.length){Q:VK}(q:Q (.int (sA (cols.getD p.toNat []) (o+1))) H):pM K (.ref l) (.int p) H fun x H1=>pM K x (.int o) H1 Q:=by
 obtain⟨i,rfl⟩:=af0 p0
 have hi:i < cols.length:=by omega
 have e2:cols[i]?=some cols[i]:=aa2 hi;obtain⟨h1,h2⟩:=hpc i _ _ (aa2 (show i < ps.length by omega)) e2;refine bT hps (show iC _ ((i:Nat):Int)=some (.ref ps[i])from aK (by rw [aa4,aa2 (show i < ps.length by omega)];rfl)) ?_;refine eQ h1 (wH o0 (by omega)) ?_;rw [ac8,ad8,e2]at q;exact q
end L2
namespace L3
open PySem PySem.Spec PyProof.Rows L2 HT
section
variable {prog:Program} {w:World} {A:Around} {E:Value→Shared→Prop} {s:Shared}
theorem cat_tup0{t b:Addr}{ws:List Value}{Q:Value→Shared→Prop}(ht:IsTup s.heap t (List.toArray []))(hb:IsTup s.heap b ws.toArray)
  (h1:Q (.ref b) s):wpAny (model prog w) A (binaryOp .Add (.ref t) (.ref b)) Q E s:=by
 obtain⟨⟨cls,dd,data,sl⟩,ho,hc,n,hd⟩:=id ht;obtain⟨⟨cls2,dd2,data2,sl2⟩,ho2,hc2,n2,hd2⟩:=id hb;simp only at hc hd hc2 hd2;subst hc hd hc2 hd2
 exact concat_meets ⟨_,ho,rfl⟩ ⟨_,ho2,rfl⟩ noFill_tuple_add seq_tuple_add PySem.F.slot_tuple_add PySem.F.entry_tuple_add (PySem.F.args_tuple_add_2 _ _)
   (tuple_addW0 t b #[] ws.toArray n n2 dd dd2 sl sl2 (by simp)) ⟨ho,ho2,h1⟩
end
end L3
namespace L2
open PySem PySem.Spec PyProof.Rows
section
variable {X:Cx}
def xg(K:Frag):R2:=fun x y H Q=>∃a b ys,x=.ref a∧y=.ref b∧bf K H a []∧bf K H b ys∧Q (.ref b) H
theorem y9:bZ X (binaryOp .Add) (xg X.K):=by
 intro pins s σ H x y v u Q I rx ry h;obtain⟨a,b,ys,rfl,rfl,ha,hb,q⟩:=h;cases rx;cases ry;obtain⟨its,r1,p1,_⟩:=I.tuple ha;obtain⟨its2,r2,p2,_⟩:=I.tuple hb;cases r1;exact L3.cat_tup0 p1 p2 ⟨.ref b,H,I,rfl,q⟩
def fh(K:Frag):R2:=fun x y H Q=>cR K x y H Q∨xg K x y H Q
theorem Bb(K:Frag)(h:X.K=K:=by rfl):bZ X (binaryOp .Add) (fh K):=by
 subst h;exact opAdd.or y9
end
theorem pJ{K:Frag}{i j:Int}{H:Hp}{Q:VK}:fh K (.int i) (.int j) H Q↔Q (.int (i+j)) H:=by
 simp [fh,kd,xg]
theorem wb(K:Frag):jc (fh K)=fh K:=su fun _ _ _ _=>pJ
theorem yI{K:Frag}{x y:V}{H:Hp}{Q:VK}:jc (fh K) x y H Q↔fh K x y H Q:=by rw [wb]
theorem sD{X:Cx}(K:Frag)(h:X.K=K:=by rfl):bZ X (binaryOp .Add) (jc (fh K)):=by rw [wb];exact Bb K h
theorem pK{K:Frag}{a b:Addr}{xs ys:List V}{H:Hp}{Q:VK}(ha:H a=some (.tup xs))(hb:H b=some (.tup ys))(hz:xs.length+ys.length≤sizeLine)(q:∀p H',au H H'→H' p=some (.tup (xs++ys))→Q (.ref p) H'):fh K (.ref a) (.ref b) H Q:=by
 by_cases hx:xs=[]
 ·subst hx
  exact .inr ⟨a,b,ys,rfl,rfl,bf.of ha,bf.of hb,q b H (au.refl H) hb⟩
 ·refine .inl (.inr (.inr (.inr ⟨a,b,xs,ys,rfl,rfl,bf.of ha,bf.of hb,hx,hz,fun e=>?_,fun _ p hp=>q p _ (ar hp) ag⟩)))
  subst e;exact q a H (au.refl H) (by rw [ae3];exact ha)
end L2
namespace L2
open PySem PySem.Spec PyProof.Rows
def Itd(lo:Int)(n:Nat):It:=⟨fun i _=>i < n,fun i H x H'=>H'=H∧x=.int (lo - i),fun i _=>n≤i⟩
section
variable {X:Cx} {tg:Expr}
def Cv(ta:TA):TI:=fun σ H R=>ta σ H fun vs H1=>∃i j:Int,vs=[.int i,.int j,.int (-1)]∧(-(2 ^ 62)≤i∧i < 2 ^ 62∧-(2 ^ 62)≤j∧j < 2 ^ 62)∧R (Itd i (i - j).toNat) H1
end
theorem gq:∀{ns:List Int} {us:List Value},aH (ns.map V.int) us→∃ps:List (Int×Tok),us=ps.map (fun p=>Value.int p.1 p.2)∧ps.map (·.1)=ns
 | [],_,.nil=>⟨[],rfl,rfl⟩
 | n::ns,_,.cons r t=>by
  obtain⟨ps,e1,e2⟩:=gq t;obtain⟨tk,rfl⟩:=r;exact⟨(n,tk)::ps,by rw [e1];rfl,by rw [←e2];rfl⟩
end L2
namespace L2
open PySem PySem.Spec PyProof.Rows
def eH(c:Nat):Nat→List Nat→List (List Nat)
 | 0,l=>[l]
 | _+1,[]=>[[]]
 | n+1,a::l=>if a=c then []::eH c n l else match eH c (n+1) l with
  | []=>[[a]]
  | p::r=>(a::p)::r
theorem n5(c:Nat):∀n l,eH c n l≠[]
 | 0,l=>by simp [eH]
 | n+1,[]=>by simp [eH]
 | n+1,a::l=>by
  simp only [eH]
  split
  ·simp
  ·split<;>simp
theorem fK(x:Str)(c:Nat):∀(l:List Nat) (n a j:Nat),a≤j→x.cps.toList.drop j=l→j≤x.length→
  (StrLaws.partsFrom x 1 a ((dj c l j).take n)).map (fun z=>z.cps.toList)=match eH c n l with
   | []=>[]
   | p::r=>((x.cps.toList.drop a).take (j - a)++p)::r
 | l,0,a,j,haj,hl,hj=>by
  simp only [List.take_zero,eH,StrLaws.partsFrom,ad1,ah9,StrLaws.strSub_toList];congr 1;rw [ae6 (by rw [ah8,aZ];omega)]
  have:=List.take_append_drop (j - a) (x.cps.toList.drop a)
  rw [ak8,show a+(j - a)=j by omega,hl]at this;exact this.symm
 | [],n+1,a,j,haj,hl,hj=>by
  have hj':x.length≤j:=by rw [aZ];exact ah6.mp hl
  have e:j=x.length:=by omega
  subst e;simp [dj,eH,StrLaws.partsFrom,StrLaws.strSub_toList]
 | b::l,n+1,a,j,haj,hl,hj=>by
  have hb:x.cps.toList[j]?=some b:=by
   have:(x.cps.toList.drop j)[0]?=some b:=by rw [hl];rfl
   rwa [ag9,am6]at this
  have hi:j < x.length:=by
   rw [aZ];obtain⟨h,_⟩:=aa1.mp hb;exact h
  have hd:x.cps.toList.drop (j+1)=l:=by
   rw [←ak8,hl];rfl
  by_cases hc:b=c
  ·have ih:=fK x c l n (j+1) (j+1) (aa8 _) hd hi
   simp only [dj,hc,if_true,List.take_succ_cons,StrLaws.partsFrom,ad1,eH,ae3];rw [ih]
   cases hs:eH c n l with
   | nil=>exact absurd hs (n5 c n l)
   | cons p r=>simp [StrLaws.strSub_toList]
  ·have ih:=fK x c l (n+1) a (j+1) (by omega) hd hi
   simp only [dj,hc,if_false,eH];rw [ih]
   cases hs:eH c (n+1) l with
   | nil=>exact absurd hs (n5 c (n+1) l)
   | cons p r=>
    have ht:(x.cps.toList.drop a).take (j+1 - a)=(x.cps.toList.drop a).take (j - a)++[b]:=by
     have e1:j+1 - a=(j - a)+1:=by omega
     rw [e1,ab9,ag9]
     have e2:a+(j - a)=j:=by omega
     rw [e2,hb];rfl
    simp [ht]
theorem iw(c n:Nat)(rest:List Nat):∀(p:List Nat),c∉p→eH c (n+1) (p++c::rest)=p::eH c n rest
 | [],_=>by simp [eH]
 | a::p,h=>by
  have h1:¬a=c:=fun e=>h (by simp [e]);have ih:=iw c n rest p (fun e=>h (by simp [e]));show eH c (n+1) (a::(p++c::rest))=_;simp only [eH,h1,if_false];rw [ih]
theorem pG(c:Nat)(rest:List Nat):∀(p:List Nat) (i:Nat),dj c (p++c::rest) i≠[]
 | [],i=>by simp [dj]
 | a::p,i=>by
  show dj c (a::(p++c::rest)) i≠[];simp only [dj]
  split
  ·simp
  ·exact pG c rest p (i+1)
def rj(z:Str)(c k:Nat):List Str:=Builtin.Str.partsBetween z ((dj c z.cps.toList 0).take k) 1
theorem nh(z:Str)(c k:Nat):(rj z c k).map (fun y=>y.cps.toList)=eH c k z.cps.toList:=by
 unfold rj;rw [StrLaws.partsBetween_eq,fK z c z.cps.toList k 0 0 (aa8 _) rfl (ad0 _)]
 cases hs:eH c k z.cps.toList with
 | nil=>exact absurd hs (n5 c k _)
 | cons p r=>simp
end L2
namespace L2
open PySem PySem.Spec PyProof.Rows
structure yf(z rest:Str)(t u:Int):Prop where
 cs:z.cps.toList=(Str.ofString "every").cps.toList++32::(h7 t++32::(h7 u++32::rest.cps.toList))
 tb:t.natAbs < 10 ^ 40
 ub:u.natAbs < 10 ^ 40
 rl:rest.length≤10000
theorem yf.split{z rest:Str}{t u:Int}(R:yf z rest t u):rj z 32 3=[Str.ofString "every",dR t,dR u,rest]:=by
 refine cZ ?_;rw [nh,R.cs,iw 32 2 _ _ (by decide +kernel),iw 32 1 _ _ (mW t),iw 32 0 _ _ (mW u)];simp only [eH,ad1,ah9];rfl
theorem yf.pos{z rest:Str}{t u:Int}(R:yf z rest t u):dj 32 z.cps.toList 0≠[]:=by
 rw [R.cs];exact pG 32 _ _ 0
end L2
namespace L2
open PySem PySem.Spec PyProof.Rows
section
variable {X:Cx} {tg:Expr}
end
end L2
namespace L2
open PySem PySem.Spec PyProof.Rows
theorem uc{k:V→Prop}{σ:L2.St}{i:Nat}:(xt σ i k)=(∃v,σ[i]?=some (some v)∧k v):=propext jl
theorem tV{v:V}{k:Int→Prop}:(x5 v k)=(∃i,v=V.int i∧k i):=propext g9
theorem tU{v:V}{k:Bool→Prop}:(zY v k)=(∃i,v=V.bl i∧k i):=propext g8
theorem yr{x y:V}{H:Hp}{Q:VK}:(vg lY x y H Q)=(lY x y H Q):=propext Cz
theorem yt{x y:V}{H:Hp}{Q:VK}:(vh lZ x y H Q)=(lZ x y H Q):=propext CC
theorem lI{K:Frag}{x y:V}{H:Hp}{Q:VK}:(jc (cR K) x y H Q)=(cR K x y H Q):=propext yH
theorem lJ{K:Frag}{x y:V}{H:Hp}{Q:VK}:(oS (du K) x y H Q)=(du K x y H Q):=propext yK
theorem vD{K:Frag}{x y:V}{H:Hp}{Q:VK}:(vg (ik K) x y H Q)=(ik K x y H Q):=propext AW
theorem vE{K:Frag}{x y:V}{H:Hp}{Q:VK}:(vh (gE K) x y H Q)=(gE K x y H Q):=propext AY
theorem tW{K:Frag}{x y:V}{H:Hp}{Q:VK}:(jc (fh K) x y H Q)=(fh K x y H Q):=propext yI
theorem qG{K:Frag}{i j:Int}{H:Hp}{Q:VK}:(cR K (V.int i) (V.int j) H Q)=(Q (V.int (i+j)) H):=propext kd
theorem qH{K:Frag}{i j:Int}{H:Hp}{Q:VK}:(fh K (V.int i) (V.int j) H Q)=(Q (V.int (i+j)) H):=propext pJ
theorem jB{K:Frag}{i j:Str}{H:Hp}{Q:VK}:(cR K (V.str i) (V.str j) H Q)=(i.length+j.length≤sizeLine∧Q (V.str (i++j)) H):=propext xf
theorem qJ{i j:Int}{H:Hp}{Q:VK}:(i7 (V.int i) (V.int j) H Q)=(IntMulOk i j∧Q (V.int (i * j)) H):=propext pN
theorem qK{z:Str}{j:Int}{H:Hp}{Q:VK}:(i7 (V.str z) (V.int j) H Q)=((-1000000≤j∧j≤1000000∧z.length≤16)∧Q (V.str (il z j)) H):=propext pO
theorem qL{K:Frag}{i j:Int}{H:Hp}{Q:VK}:(du K (V.int i) (V.int j) H Q)=(IntMulOk i j∧Q (V.int (i * j)) H):=propext pP
theorem jC{K:Frag}{z:Str}{j:Int}{H:Hp}{Q:VK}:(du K (V.str z) (V.int j) H Q)=((-1000000≤j∧j≤1000000∧z.length≤16)∧Q (V.str (il z j)) H):=propext xj
theorem vM{K:Frag}{z:Str}{lo hi:Option Int}{H:Hp}{Q:VK}:(uV K (V.str z) lo hi H Q)=(z.length≤sizeLine∧Q (V.str (Txt.slice z lo hi)) H):=propext Bt
theorem yu{K:Frag}{z:Str}{i:Int}{H:Hp}{Q:VK}:(pM K (V.str z) (V.int i) H Q)=(z.length≤sizeLine∧∃c,iC z.cps.toList i=some c∧Q (V.str { cps:=#[c] }) H):=propext C5
theorem vG{i j:Int}{H:Hp}{Q:VK}:(lY (V.int i) (V.int j) H Q)=(Q (V.bl (decide (i=j))) H):=propext rEq_ii
theorem vK{i j:Int}{H:Hp}{Q:VK}:(lZ (V.int i) (V.int j) H Q)=(Q (V.bl !decide (i=j)) H):=propext nJ
theorem vH{i j:Str}{H:Hp}{Q:VK}:(lY (V.str i) (V.str j) H Q)=(Q (V.bl (decide (i=j))) H):=propext nH
theorem tY{K:Frag}{i j:Int}{H:Hp}{Q:VK}:(nG K (V.int i) (V.int j) H Q)=(Q (V.bl (decide (i=j))) H):=propext zB
theorem t7{K:Frag}{i j:Int}{H:Hp}{Q:VK}:(nI K (V.int i) (V.int j) H Q)=(Q (V.bl !decide (i=j)) H):=propext zJ
theorem tZ{K:Frag}{i j:Str}{H:Hp}{Q:VK}:(nG K (V.str i) (V.str j) H Q)=(Q (V.bl (decide (i=j))) H):=propext zC
theorem t8{K:Frag}{i j:Str}{H:Hp}{Q:VK}:(nI K (V.str i) (V.str j) H Q)=(Q (V.bl !decide (i=j)) H):=propext zK
theorem tX{K:Frag}{i j:Bool}{H:Hp}{Q:VK}:(nG K (V.bl i) (V.bl j) H Q)=(Q (V.bl (decide (i=j))) H):=propext zA
theorem t6{K:Frag}{i j:Bool}{H:Hp}{Q:VK}:(nI K (V.bl i) (V.bl j) H Q)=(Q (V.bl !decide (i=j)) H):=propext zI
theorem vL{i j:Str}{H:Hp}{Q:VK}:(lZ (V.str i) (V.str j) H Q)=(Q (V.bl !decide (i=j)) H):=propext nK
theorem vF{i j:Bool}{H:Hp}{Q:VK}:(lY (V.bl i) (V.bl j) H Q)=(Q (V.bl (decide (i=j))) H):=propext xh
theorem vJ{i j:Bool}{H:Hp}{Q:VK}:(lZ (V.bl i) (V.bl j) H Q)=(Q (V.bl !decide (i=j)) H):=propext xk
theorem vI{K:Frag}{c:Nat}{z:Str}{H:Hp}{Q:VK}:(xi K (V.str { cps:=#[c] }) (V.str z) H Q)=(Q (V.bl (decide (c∈z.cps.toList))) H):=propext Bm
theorem oG{K:Frag}{c:Nat}{z:Str}{H:Hp}{Q:VK}:(gi K (V.str { cps:=#[c] }) (V.str z) H Q)=(Q (V.bl !decide (c∈z.cps.toList)) H):=propext uU
theorem vO{i:Int}{H:Hp}{Q:VK}:(rq [V.int i] H Q)=(i.natAbs.log2 < 1920∧Q (V.str (dR i)) H):=propext Bx
theorem vP{z:Str}{H:Hp}{Q:VK}:(rq [V.str z] H Q)=(Q (V.str z) H):=propext By
theorem t4{K:Frag}{i j:Int}{H:Hp}{Q:VK}:(ik K (V.int i) (V.int j) H Q)=(Q (V.bl (decide (i=j))) H):=propext sM
theorem t9{K:Frag}{i j:Int}{H:Hp}{Q:VK}:(gE K (V.int i) (V.int j) H Q)=(Q (V.bl !decide (i=j)) H):=propext sO
theorem t5{K:Frag}{i j:Str}{H:Hp}{Q:VK}:(ik K (V.str i) (V.str j) H Q)=(Q (V.bl (decide (i=j))) H):=propext sN
theorem ua{K:Frag}{i j:Str}{H:Hp}{Q:VK}:(gE K (V.str i) (V.str j) H Q)=(Q (V.bl !decide (i=j)) H):=propext sP
theorem vB{K:Frag}{b k:Bool}{H:Hp}:(vo K (V.bl b) H k)=(k=b):=propext TruV_b
theorem yx{K:Frag}{z:Str}{H:Hp}:(Dl K "str" (V.str z) H)=(True):=propext Dm
theorem qE{K:Frag}{i j:Str}{H:Hp}{Q:VK}:jc (cR K) (.str i) (.str j) H Q=(i.length+j.length≤sizeLine∧Q (.str (i++j)) H):=by rw [lI,jB]
theorem qF{K:Frag}{z:Str}{j:Int}{H:Hp}{Q:VK}:oS (du K) (.str z) (.int j) H Q=((-1000000≤j∧j≤1000000∧z.length≤16)∧Q (.str (il z j)) H):=by rw [lJ,jC]
theorem vC{α:Sort u}{p:α→Prop}{a':α}:(∃a,a'=a∧p a)=p a':=propext exists_eq_left'
theorem AM{α:Sort u}{a':α}:(∃a,a'=a)=True:=eq_true ⟨_,rfl⟩
theorem Cn{α:Sort u}{a':α}:(∃a,a=a')=True:=eq_true ⟨_,rfl⟩
theorem Aa{α:Sort u}{p:α→Prop}{a':α}:(∃a,a=a'∧p a)=p a':=propext exists_eq_left
theorem z7{α:Sort u}{p:α→Prop}{b:Prop}:(∃x,b∧p x)=(b∧∃x,p x):=propext exists_and_left
theorem z6{a b c:Prop}:((a∧b)∧c)=(a∧b∧c):=propext and_assoc
theorem z8{α:Sort u}:(∃_:α,False)=False:=eq_false exists_false
theorem Cm{b:Prop}(α:Sort u)[Nonempty α]:(∃_:α,b)=b:=propext (exists_const α)
theorem DM{p:Prop}{x:Decidable p}:(decide p=false)=¬p:=propext decide_eq_false_iff_not
theorem mL{c:TT}{t w:TS}{D:eU}{σ:L2.St}{H:Hp}(h:∀A B:Hp→Prop,(∀H,fY t w D σ H→A H)→(∀H,w D σ H→B H)→c σ H fun b H1=>if b=true then A H1 else B H1):fY (zT c t sY) w D σ H:=h _ _ (fun _ x=>x) fun _ x=>x
theorem lz{t r w:TS}{D:eU}{σ:L2.St}{H:Hp}(h:∀k:L2.St→Hp→Prop,(∀σ H,fY r w D σ H→k σ H)→t { D with nx:=k } σ H):fY (fY t r) w D σ H:=h _ fun _ _ x=>x
theorem lz0{t r:TS}{D:eU}{σ:L2.St}{H:Hp}(h:∀k:L2.St→Hp→Prop,(∀σ H,r D σ H→k σ H)→t { D with nx:=k } σ H):fY t r D σ H:=h _ fun _ _ x=>x
end L2
namespace L2
open PySem PySem.Spec PyProof.Rows
section
variable {prog:Program} {w:World} {A:Around} {R:Result→Shared→Prop} {it al bb:Addr} {items:Array Value} {G:Heap→Prop} {kf:Nat→List Int} {d:Value}
end
section
variable {prog:Program} {w:World} {A:Around} {E:Value→Shared→Prop} {s:Shared}
end
end L2
namespace L2
open PySem PySem.Spec PyProof.Rows
section
variable {prog:Program} {w:World} {A:Around} {E:Value→Shared→Prop} {s:Shared}
theorem oH{R:Result→Shared→Prop}{r:Addr}{a b c:Int}{t u v:Tok}{n:Nat}(hd:A.handled=none)(hr:IsRange s.heap r a b c t u v)(big:Builtin.Range.small a b c=false)(en:Builtin.Range.rangeSize a b c=n)(nl:n≤2 ^ 24)(B:Addr)(res:Value)(e0:Nat)
  (hB:s.heap.get? B=some { cls:=.type "list",data:=.seq #[] e0 })
  (fin:∀h' tk acc e',(∀b o,b≠B→s.heap.get? b=some o→h'.get? b=some o)→h'.get? B=some { cls:=.type "list",dict:=none,data:=.seq acc e',slots:=#[] }→ItemsOf (fun i v=>∃t,v=.int (a+i * c) t) acc n→R (.ok (.ret res)) { s with heap:=h',toks:=tk }) :
  wpAny (model prog w) A.in1 (Builtin.List.listExtendWith (.ref B) (.ref r) res) (fun f s'=>match f with | .done f=>R (.ok f) s' | .again c'=>c'.quiet=true∧codeAny (model prog w) A c' R s') (fun e s'=>R (.error e) s') s:=by
 have nBr:B≠r:=fun e=>by rw [e,hr]at hB;simp at hB
 have Blt:B < s.heap.objs.size:=aa5 hB;have nBJ:B≠s.heap.objs.size:=ab1 Blt;have wk:=(Walks.longrange (prog:=prog) (w:=w) (A:=A.in1) hd s.heap.objs.size a c n).toS
 have run:∀(h:Heap) (e1 tk:Nat),IsLongIter h s.heap.objs.size (a+((0:Nat):Int) * c) ((n:Int) - ((0:Nat):Int)) c→(∀b o,b≠B→s.heap.get? b=some o→h.get? b=some o)→h.get? B=some { cls:=.type "list",data:=.seq #[] e1 }→
   codeAny (model prog w) A (.builtin "list.extend.loop" ⟨[.ref B,.ref s.heap.objs.size,res],[]⟩) R { s with heap:=h,toks:=tk }:=by
  intro h e1 tk ih hk hB1;refine codeAny_extend_loopS wk (by rw [sizeLine_eq];omega) B (fun hm=>nBJ (ab7.mp hm)) res n 0 _ #[] e1 rfl (ad0 _) ih hB1 (ItemsOf.nil _) fun s' acc e' mv hB' hacc=>?_;rw [Moved.eq_with mv];refine fin s'.heap s'.toks acc e' (fun b o hb e=>mv.heap b o (fun hm=>?_) (hk b o hb e)) hB' hacc;rcases ab6.mp hm with z | hm
  ·exact hb z
  ·exact absurd (aa5 e) (by rw [ab7.mp hm];exact af2 _)
 unfold Builtin.List.listExtendWith;refine wpAny_bind (wpAny_typeOf (T:="range") ⟨_,hr,rfl⟩ ?_);simp only [show Builtin.List.listSameRef (.ref B) (.ref r)=false by simp [Builtin.List.listSameRef,nBr],show(Value.type "range" == Value.type "list")=false by decide,show(Value.type "range" == Value.type "tuple")=false by decide,aj5,ac7,if_false];refine wpAny_bind (wpAny_pyIter_longrange hr big ?_);refine wpAny_bind (wpAny_holding (wpAny_hint_range (n:=n) (aa3 _ hr) en nl ?_))
 have it1:IsLongIter (s.heap.push { cls:=.type "longrange_iterator",data:=.fields #[rawInt a,rawInt (Builtin.Range.rangeSize a b c),rawInt c] }) s.heap.objs.size (a+((0:Nat):Int) * c) ((n:Int) - ((0:Nat):Int)) c:=by
  rw [en];simpa using aa6 _ rfl
 have hB1:=aa3 { cls:=.type "longrange_iterator",data:=.fields #[rawInt a,rawInt (Builtin.Range.rangeSize a b c),rawInt c] } hB;refine wpAny_ite_split (fun _=>?_) (fun _=>wpAny_pure ⟨plainId_quiet F.plain_extend_loop _,run _ e0 _ it1 (fun b o _ e=>aa3 _ e) hB1⟩);refine wpAny_bind (wpAny_rule (wpAny_bind ?_))
 show wpAny _ _ (updateSeq B (·.push .none) >>= fun _=>updateSeq B (·.pop)) _ _ _
 refine wpAny_bind (wpAny_updateSeq hB1 rfl ?_)
 have hB2:=ad2 (Obj.mapSeq (·.push Value.none)) hB1 rfl
 refine wpAny_updateSeq (hz:=by seq_fits) hB2 rfl ?_
 have hB3:=ad2 (Obj.mapSeq (·.pop)) hB2 rfl
 refine wpAny_pure ⟨plainId_quiet F.plain_extend_loop _,run _ _ _ ?_ (fun b o hb e=>?_) hB3⟩
 ·exact(ac2 _ _ nBJ).trans ((ac2 _ _ nBJ).trans it1)
 ·exact(ac2 _ _ (Ne.symm hb)).trans ((ac2 _ _ (Ne.symm hb)).trans (aa3 _ e))
theorem jx{Q:Value→Shared→Prop}{r:Addr}{a b c:Int}{t u v:Tok}{n:Nat}(hd:A.handled=none)(hr:IsRange s.heap r a b c t u v)(big:Builtin.Range.small a b c=false)(en:Builtin.Range.rangeSize a b c=n)(nl:n≤2 ^ 24)
  (fin:∀h' tk acc e',(∀b o,s.heap.get? b=some o→h'.get? b=some o)→h'.get? s.heap.objs.size=some { cls:=.type "list",dict:=none,data:=.seq acc e',slots:=#[] }→ItemsOf (fun i v=>∃t,v=.int (a+i * c) t) acc n→Q (.ref s.heap.objs.size) { s with heap:=h',toks:=tk }) :
  wpAny (model prog w) A (call (.type "list") [.ref r]) Q E s:=by
 refine callType_codes (Q₁:=fun ob s1=>ob=.ref s.heap.objs.size∧s1={ s with heap:=s.heap.push { cls:=.type "list",data:=.seq #[] } }) F.called_list (F.typeCall_list_1 _) F.entry_list_init (code_list_new _ ⟨rfl,rfl⟩) fun ob s1 h1=>?_;obtain⟨rfl,rfl⟩:=h1;have hB:(s.heap.push { cls:=.type "list",data:=.seq #[] }).get? s.heap.objs.size=some { cls:=.type "list",data:=.seq #[] }:=aa6 _ rfl;have hr1:IsRange (s.heap.push { cls:=.type "list",data:=.seq #[] }) r a b c t u v:=aa3 _ hr;have nBr:s.heap.objs.size≠r:=(ab1 (aa5 hr)).symm;refine⟨⟨_,hB,rfl⟩,F.args_list_init_2 _ _,?_⟩;show wpAny _ A.in1.in1 (do let old ←Builtin.List.listItems (.ref s.heap.objs.size);Builtin.List.listUpdate (.ref s.heap.objs.size) (fun _=>#[]);letGo old.toList.reverse;Builtin.List.listExtendWith (.ref s.heap.objs.size) (.ref r) .none) _ _ _;refine wpAny_bind ?_;unfold Builtin.List.listItems;refine wpAny_bind (wpAny_seqItems hB rfl (wpAny_pure ?_));show wpAny _ _ (updateSeq s.heap.objs.size (fun _=>#[]) >>= fun _=>letGo (#[]:Array Value).toList.reverse >>= fun _=>Builtin.List.listExtendWith (.ref s.heap.objs.size) (.ref r) .none) _ _ _;refine wpAny_bind (wpAny_updateSeq hB rfl ?_);have hB2:=ad2 (Obj.mapSeq (fun _=>(#[]:Array Value))) hB rfl;refine wpAny_bind (wpAny_letGo ?_);refine oH (A:=A.in1) hd (show IsRange _ r a b c t u v from(ac2 _ _ nBr).trans hr1) big en nl _ .none _ hB2 fun h' tk acc e' hk hB' hacc=>?_;exact⟨rfl,fin h' tk acc e' (fun b o e=>hk b o (ab1 (aa5 e)) ((ac2 _ _ (ab1 (aa5 e)).symm).trans (aa3 _ e))) hB' hacc⟩
end
def intsFrom(a:Int)(n:Nat):List Int:=(List.range n).map fun(i:Nat)=>a+i
theorem kC:∀(ns:List Int) (us:List Value),us.length=ns.length→(∀(j:Nat) v n,us[j]?=some v→ns[j]?=some n→∃t,v=.int n t)→aH (ns.map V.int) us
 | [],[],_,_=>.nil
 | [],_::_,h,_=>by simp at h
 | _::_,[],h,_=>by simp at h
 | n::ns,u::us,h,hv=>by
  obtain⟨t,e⟩:=hv 0 u n rfl rfl;exact .cons ⟨t,e⟩ (kC ns us (by simpa using h) fun j v n e1 e2=>hv (j+1) v n e1 e2)
theorem qA{X:Cx}{pins:List (Addr×Obj)}{σ:St}{H:Hp}{s:Shared}{Q:VK}{r:Addr}{i j:Int}{t u v:Tok}(hc:X.calm=true)(I:az X pins σ H s)(hr:IsRange s.heap r i j 1 t u v)(hl:j - i≤1000)
  (q:∀l,H l=none→Q (.ref l) (upd H l (.lst ((intsFrom i (j - i).toNat).map V.int)))):wpAny (model X.prog X.w) X.A (call (.type "list") [.ref r]) (EP X pins σ Q) X.xe s:=by
 have hs:sizeLine=16777216:=sizeLine_eq
 have en:Builtin.Range.rangeSize i j 1=(((j - i).toNat:Nat):Int):=by rw [rangeSize_one];split<;>omega
 have nl:(j - i).toNat≤2 ^ 24:=by omega
 have fin:∀h' tk acc e',(∀b o,s.heap.get? b=some o→h'.get? b=some o)→h'.get? s.heap.objs.size=some { cls:=.type "list",dict:=none,data:=.seq acc e',slots:=#[] }→ItemsOf (fun k v=>∃t,v=.int (i+k * 1) t) acc (j - i).toNat→EP X pins σ Q (.ref s.heap.objs.size) { s with heap:=h',toks:=tk }:=fun h' tk acc e' hk hB hacc=>by
  have rv:aH ((intsFrom i (j - i).toNat).map V.int) acc.toList:=by
   refine kC _ _ (by simp [intsFrom,hacc.1]) fun k v n e1 e2=>?_;obtain⟨t,rfl⟩:=hacc.2 k v (by simpa using e1)
   have hk:k < (j - i).toNat:=by
    have:=(aa1.mp e2).1
    simpa [intsFrom]using this
   simp only [intsFrom,aa4,ae4 hk]at e2;cases e2;exact⟨t,by rw [Int.mul_one]⟩
  refine⟨.ref s.heap.objs.size,_,I.laid (t':=tk) hk (aa8 _) (show br X.prog X.w _ h' _ (.lst ((intsFrom i (j - i).toNat).map V.int))from⟨by simp [intsFrom];omega,acc.toList,e',rv,hB⟩),rfl,q _ (I.hok.fresh (aa8 _))⟩
 cases hb:Builtin.Range.small i j 1 with
 | true=>exact call_list_range (I.ok.hd hc) hr hb en nl fin
 | false=>exact jx (I.ok.hd hc) hr hb en nl fin
def zU(ta:TA):TE:=fun σ H Q=>ta σ H fun vs H1=>∃i j:Int,vs=[.int i,.int j]∧j - i≤1000∧∀l,H1 l=none→Q (.ref l) (upd H1 l (.lst ((intsFrom i (j - i).toNat).map V.int)))
def sX(ta:TA):TE:=fun σ H Q=>ta σ H fun vs H1=>∃j:Int,vs=[.int j]∧j≤1000∧∀l,H1 l=none→Q (.ref l) (upd H1 l (.lst ((intsFrom 0 j.toNat).map V.int)))
theorem uO{X:Cx}{a:Expr}{ta:TA}{p p2 pos pos2:Pos}(hc:X.calm=true)(hgl:Gl X "list")(hml:X.mg "list"=none)(hg:Gl X "range")(hm:X.mg "range"=none)(ha:PA X [a] ta)(hs:starEach [a] X.env=[(false,eval a X.env)]:=by rfl):
  PE X (.Call (.Name "list" p) [.Call (.Name "range" p2) [a] [] pos2] [] pos) (sX ta):=by
 intro pins s σ H Q I h;refine wpAny_Call_Name_kw (cb I hgl hml boot_list (PyProof.Rows.callWith_type1 ?_ rfl rfl));show wpAny _ _ (spliced ((false,eval (.Call (.Name "range" p2) [a] [] pos2) X.env)::backTo pos (starEach [] X.env))) _ _ s;refine Calls.spliced_cons ?_;refine wpAny_Call_Name_kw (cb I hg hm boot_range (PyProof.Rows.callWith_type1 (bz (ha pos2 pins s σ H _ I h) fun us s1 ⟨vs,H1,I1,r1,q1⟩=>?_) hs rfl));obtain⟨j,e,hl,q⟩:=q1;subst e
 cases r1 with
 | cons r rr=>
  cases rr;obtain⟨t,rfl⟩:=r;refine call_range_1 (Calls.spliced_nil ?_);exact qA hc (I1.kept fun b o e=>aa3 _ e) (IsRange.new ..) (by omega) (by simpa using q)
end L2
namespace XE
open PySem
open Sem (wp)
section
variable {M:Model} {A:Around} {E:Value→Shared→Prop} {s:Shared}
def Tr(h:Heap)(e T:Addr)(cls:Value)(dc:Option Addr)(fl:Value):Prop:=
 ∃oe vs oT ts,h.get? e=some oe∧(oe.cls=cls∧oe.dict=dc)∧oe.data=.fields vs∧vs[1]?=some (.ref T)∧T≠e∧h.get? T=some oT∧oT.data=.fields ts∧ts[3]?=some fl
def D9(h:Heap)(e:Addr)(cls:Value)(dc:Option Addr):Prop:=∃oe vs,h.get? e=some oe∧(oe.cls=cls∧oe.dict=dc)∧oe.data=.fields vs∧vs[1]?=some .none
def On(base:Heap)(l:List Env)(e:Addr)(h:Heap):Prop:=base.StaysIn h∧base.get? e=none∧h.FunFrames base l
theorem Tr.there{h:Heap}{e T:Addr}{cls:Value}{dc:Option Addr}{fl:Value}(x:Tr h e T cls dc fl):∃o vs,h.get? e=some o∧o.cls=cls∧o.dict=dc∧o.data=.fields vs:=
 let ⟨o,vs,_,_,a,b,c,_⟩:=x;⟨o,vs,a,b.1,b.2,c⟩
theorem Tr.tb{h:Heap}{e T:Addr}{cls:Value}{dc:Option Addr}{fl:Value}(x:Tr h e T cls dc fl):∃o vs,h.get? T=some o∧o.data=.fields vs:=
 let ⟨_,_,o,vs,_,_,_,_,_,a,b,_⟩:=x;⟨o,vs,a,b⟩
theorem entry{base:Heap}{env:Env}{outer:List Env}{L e:Addr}{oe:Obj}{vs:Array Value}{head:Value}{hadNext:Bool}{Q:Unit→Shared→Prop}
  (hfr:A.frames=some (env::outer)) (o:On base (env::outer) e s.heap) (hf:env.frame=some L) (he:s.heap.get? e=some oe) (hd:oe.data=.fields vs) (hsz:1 < vs.size)
  (h:∀h' T,s.heap.objs.size≤T→On base (env::outer) e h'→Tr h' e T oe.cls oe.dict (rawInt L)→s.heap.UpToSlots h'→Q () { s with heap:=h' }) :
  wpAny M A (do let a ←frameOf env;let pl ←entryPlaceOf L hadNext;let b ←EntryCells.newEntry head a .none (rawInt L) .none pl;setField (.ref e) 1 b) Q E s:=by
 obtain⟨hkb,hen,hl⟩:=o
 have hene:e∉(env::outer).filterMap (·.frame):=fun hm=>by
  obtain⟨_,o,ho,hnf⟩:=hl.mem hm
  rw [he]at ho;injection ho with ho;subst ho;exact hnf vs hd
 refine wpAny_bind (wpAny_frameOf_fun hfr hl hf fun h₁ hs₁=>?_);refine wpAny_bind (wpAny_entryPlaceOf fun pl hpl=>?_);unfold EntryCells.newEntry newFields;refine wpAny_bind (wpAny_newObj_type ?_ (hpl.sizeOk5 _ _ _ _ _));have he₁:h₁.get? e=some oe:=(hs₁.2.1 e hene).trans he;have kb₁:base.StaysIn h₁:=fun b o hbo=>(hs₁.2.1 b fun hm=>by rw [(hl.mem hm).1]at hbo;cases hbo).trans (hkb b o hbo);generalize hT:({ cls:=.type "traceback",dict:=none,data:=.fields ([head,.ref L,.none,rawInt L,.none]++(if pl.isEmpty then List.replicate 6 Value.none else pl)).toArray }:Obj)=oT;have he₂:=aa3 (h:=h₁) oT he₁;refine wpAny_setField he₂ hd hsz (h _ h₁.objs.size (Nat.le_of_eq hs₁.1.symm) ?_ ?_ ?_)
 all_goals
  have hTe:h₁.objs.size≠e:=ad3 (aa5 he₁)
  have hd₃:=Obj.data_mapFields hd (·.setIfInBounds 1 (Value.ref h₁.objs.size))
  have he₃:=ad2 (Obj.mapFields (·.setIfInBounds 1 (Value.ref h₁.objs.size))) he₂ (Obj.isFreed_of_fields hd₃)
  have keep:∀b o,b≠e→h₁.get? b=some o→((h₁.push oT).update e (Obj.mapFields (·.setIfInBounds 1 (Value.ref h₁.objs.size)))).get? b=some o:=
   fun b o hbe hb=>by
    rw [ac2 _ _ (Ne.symm hbe)];exact aa3 _ hb
  have noRecord:∀b o,s.heap.get? b=some o→(∀vs,o.data≠.fields vs)→b≠e:=fun b o hb hnf q=>by
   rw [q,he]at hb;injection hb with hb;subst hb;exact hnf vs hd
 ·refine⟨fun b o hbo=>keep b o (fun q=>by rw [q,hen]at hbo;cases hbo) (kb₁ b o hbo),hen,hl.of_keeps fun b o hb hnf=>?_⟩
  obtain⟨sl,hs⟩:=hs₁.2.2 b o hb;exact⟨_,keep b _ (noRecord b o hb hnf) hs,rfl⟩
 ·have hT₃:=(ac2 (h₁.push oT) (Obj.mapFields (·.setIfInBounds 1 (Value.ref h₁.objs.size))) (Ne.symm hTe)).trans (aa6 h₁ (by rw [←hT];rfl))
  refine⟨_,_,_,_,he₃,⟨Obj.cls_mapFields _ _,?_⟩,hd₃,by simp [hsz],hTe,hT₃,by rw [←hT],by first | (simp;done) | (rcases hpl with rfl | ⟨_,_,_,_,_,_,_,rfl⟩<;>simp)⟩
  unfold Obj.mapFields
  split<;>rfl
 ·intro b o hb hnf
  obtain⟨sl,hs⟩:=hs₁.2.2 b o hb;exact⟨sl,keep b _ (noRecord b o hb hnf) hs⟩
theorem wI{base:Heap}{env:Env}{outer:List Env}{L e:Addr}{cls:Value}{dc:Option Addr}{Q:Unit→Shared→Prop}
  (hfr:A.frames=some (env::outer)) (hf:env.frame=some L) (o:On base (env::outer) e s.heap) (x:D9 s.heap e cls dc)
  (h:∀h' T,s.heap.objs.size≤T→On base (env::outer) e h'→Tr h' e T cls dc (rawInt L)→s.heap.UpToSlots h'→Q () { s with heap:=h' }):wpAny M A (noteFrame (.ref e) env) Q E s:=by
 obtain⟨oe,vs,he,⟨rfl,rfl⟩,hd,h1⟩:=x;unfold noteFrame;simp only [hf];refine wpAny_bind (wpAny_field he hd h1 ?_);rw [if_neg (by decide)];exact entry hfr o hf he hd (af7.mp h1).1 h
theorem yS{base:Heap}{env:Env}{outer:List Env}{L e T:Addr}{cls:Value}{dc:Option Addr}{Q:Unit→Shared→Prop}
  (hfr:A.frames=some (env::outer)) (hf:env.frame=some L) (o:On base (env::outer) e s.heap) (hnT:base.get? T=none) {fl:Value} (hfl:¬((fl == rawInt L)=true)) (x:Tr s.heap e T cls dc fl)
  (h:∀h' T,s.heap.objs.size≤T→On base (env::outer) e h'→Tr h' e T cls dc (rawInt L)→s.heap.UpToSlots h'→Q () { s with heap:=h' }):wpAny M A (noteFrame (.ref e) env) Q E s:=by
 obtain⟨oe,vs,oT,ts,he,⟨rfl,rfl⟩,hd,h1,hTe,hT,hdT,h3⟩:=x;obtain⟨hkb,hen,hl⟩:=o;unfold noteFrame;simp only [hf];refine wpAny_bind (wpAny_field he hd h1 ?_);rw [if_pos (show(Value.ref T != Value.none)=true from by simp)];refine wpAny_bind (wpAny_field hT hdT h3 ?_);rw [if_neg hfl];refine wpAny_bind (wpAny_setField hT hdT (af7.mp h3).1 ?_)
 have other:∀b,b≠T→(s.heap.update T (Obj.mapFields (·.setIfInBounds 3 Value.none))).get? b=s.heap.get? b:=fun b hb=>ac2 _ _ (Ne.symm hb)
 have noRecord:∀b o,s.heap.get? b=some o→(∀vs,o.data≠.fields vs)→b≠T:=fun b o hb hnf q=>by
  rw [q,hT]at hb;injection hb with hb;subst hb;exact hnf ts hdT
 have hsz:(s.heap.update T (Obj.mapFields (·.setIfInBounds 3 Value.none))).objs.size=s.heap.objs.size:=Heap.size_after_update _ _ _
 exact entry (s:={ s with heap:=s.heap.update T (Obj.mapFields (·.setIfInBounds 3 Value.none)) }) hfr
  ⟨fun b o hbo=>(other b fun q=>by rw [q,hnT]at hbo;cases hbo).trans (hkb b o hbo),hen,hl.of_keeps fun b o hb hnf=>⟨o,(other b (noRecord b o hb hnf)).trans hb,rfl⟩⟩ hf ((other e (Ne.symm hTe)).trans he) hd (af7.mp h1).1
  fun h' T' x0 x1 x2 x3=>h h' T' (hsz▸x0) x1 x2 fun b o hb hnf=>x3 b o ((other b (noRecord b o hb hnf)).trans hb) hnf
theorem uA{env:Env}{L e T:Addr}{cls:Value}{dc:Option Addr}{Q:Unit→Shared→Prop}
  (hf:env.frame=some L) (x:Tr s.heap e T cls dc (rawInt L)) (h:Q () s):wpAny M A (noteFrame (.ref e) env) Q E s:=by
 obtain⟨oe,vs,oT,ts,he,_,hd,h1,hTe,hT,hdT,h3⟩:=x;unfold noteFrame;simp only [hf];refine wpAny_bind (wpAny_field he hd h1 ?_);rw [if_pos (show(Value.ref T != Value.none)=true from by simp)];refine wpAny_bind (wpAny_field hT hdT h3 ?_);rw [if_pos (show(rawInt L == rawInt L)=true from by simp)];exact wpAny_pure h
theorem land{base:Heap}{l:List Env}{e T:Addr}{cls fl:Value}{dc:Option Addr}{Q:Unit→Shared→Prop}(o:On base l e s.heap)(hnT:base.get? T=none)(x:Tr s.heap e T cls dc fl)
  (h:∀h',On base l e h'→Tr h' e T cls dc .none→s.heap.UpToSlots h'→Q () { s with heap:=h' }):wpAny M A (setFlight (.ref e) none) Q E s:=by
 obtain⟨oe,vs,oT,ts,he,hcls,hd,h1,hTe,hT,hdT,h3⟩:=x;obtain⟨hkb,hen,hl⟩:=o;have hsz3:3 < ts.size:=(af7.mp h3).1
 have other:∀b,b≠T→(s.heap.update T (Obj.mapFields (·.setIfInBounds 3 ((none:Option Addr).elim Value.none fun f=>rawInt f)))).get? b=s.heap.get? b:=
  fun b hb=>ac2 _ _ (Ne.symm hb)
 have noRecord:∀b o,s.heap.get? b=some o→(∀vs,o.data≠.fields vs)→b≠T:=fun b o hb hnf q=>by
  rw [q,hT]at hb;injection hb with hb;subst hb;exact hnf ts hdT
 unfold setFlight;refine wpAny_bind (wpAny_field he hd h1 ?_);rw [if_pos (show(Value.ref T != Value.none)=true from by simp)]
 refine wpAny_setField hT hdT hsz3 (h _ ⟨fun b o hbo=>(other b fun q=>by rw [q,hnT]at hbo;cases hbo).trans (hkb b o hbo),hen,
  hl.of_keeps fun b o hb hnf=>⟨o,(other b (noRecord b o hb hnf)).trans hb,rfl⟩⟩ ?_ fun b o hb hnf=>⟨o.slots,(other b (noRecord b o hb hnf)).trans hb⟩)
 exact⟨oe,vs,_,_,(other e (Ne.symm hTe)).trans he,hcls,hd,h1,hTe,ad2 _ hT (Obj.isFreed_of_fields (Obj.data_mapFields hdT _)),Obj.data_mapFields hdT _,by simp [hsz3]⟩
def Out(h:Heap)(e:Addr)(cls:Value)(dc:Option Addr)(ts:List Addr):Prop:=(ts=[]∧D9 h e cls dc)∨∃T fl,ts=[T]∧Tr h e T cls dc fl
theorem note_out{base:Heap}{env:Env}{outer:List Env}{L e:Addr}{cls:Value}{dc:Option Addr}{ts:List Addr}{Q:Unit→Shared→Prop}
  (hfr:A.frames=some (env::outer)) (hf:env.frame=some L) (o:On base (env::outer) e s.heap) (hts:∀T∈ts,base.get? T=none) (x:Out s.heap e cls dc ts)
  (h:∀h' T,(T∈ts∨s.heap.objs.size≤T)→On base (env::outer) e h'→Tr h' e T cls dc (rawInt L)→s.heap.UpToSlots h'→Q () { s with heap:=h' }):wpAny M A (noteFrame (.ref e) env) Q E s:=by
 rcases x with⟨rfl,x⟩ | ⟨T,fl,rfl,x⟩
 ·exact wI hfr hf o x fun h' T a=>h h' T (.inr a)
 ·by_cases hfl:(fl == rawInt L)=true
  ·have e:fl=rawInt L:=by simpa using hfl
   subst e;exact uA hf x (h s.heap T (.inl (.head _)) o x (.refl _))
  ·exact yS hfr hf o (hts T (.head _)) hfl x fun h' T a=>h h' T (.inr a)
theorem mV{base h:Heap}{T:Addr}{ts:List Addr}(k:base.StaysIn h)(hts:∀T∈ts,base.get? T=none)(hT:T∈ts∨h.objs.size≤T):base.get? T=none:=by
 rcases hT with hT | hT
 ·exact hts T hT
 ·cases q:base.get? T with
  | none=>rfl
  | some o=>exact absurd (aa5 (k _ _ q)) (am4.mpr hT)
theorem leave_out{base:Heap}{env:Env}{outer:List Env}{L e:Addr}{cls:Value}{dc:Option Addr}{ts:List Addr}{Q:Unit→Shared→Prop}
  (hfr:A.frames=some (env::outer)) (hf:env.frame=some L) (o:On base (env::outer) e s.heap) (hts:∀T∈ts,base.get? T=none) (x:Out s.heap e cls dc ts)
  (h:∀h' T,(T∈ts∨s.heap.objs.size≤T)→On base outer e h'→Tr h' e T cls dc .none→s.heap.UpToSlots h'→Q () { s with heap:=h' }):wpAny M A (leaving env (.ref e)) Q E s:=by
 unfold leaving;refine wpAny_bind (note_out hfr hf o hts x fun h₁ T hT o1 x1 u1=>?_);refine land (s:={ s with heap:=h₁ }) o1 (mV o.1 hts hT) x1 fun h₂ o2 x2 u2=>?_;obtain⟨a,b,_,_,c⟩:=o2;exact h h₂ T hT ⟨a,b,c⟩ x2 (u1.trans u2)
end
inductive Tail(h:Heap)(no:Str→Prop)(bmB:List Value):List Value→Prop
 | base:Tail h no bmB bmB
 | own {A:Addr} {c0:Value} {dd:Option Addr} {cd:ClassData} {sl:Array (Option Value)} {mA:Str→Option Value} {tl:List Value} :
   h.get? A=some { cls:=c0,dict:=dd,data:=.cls cd,slots:=sl }→h.Ns cd.ns mA→(∀n,no n→mA n=none)→Tail h no bmB tl→Tail h no bmB (.ref A::tl)
theorem Tail.hasType{h:Heap}{no:Str→Prop}{bmB tl:List Value}(T:Tail h no bmB tl){X:String}{b:Bool}(hb:bmB.contains (.type X)=b):tl.contains (.type X)=b:=by
 induction T with
 | base=>exact hb
 | own _ _ _ _ ih=>rw [ah0,ih];rfl
theorem Tail.keeps{h h':Heap}{no:Str→Prop}{bmB tl:List Value}(T:Tail h no bmB tl)(hk:∀b o,h.get? b=some o→h'.get? b=some o):Tail h' no bmB tl:=by
 induction T with
 | base=>exact .base
 | own hA hN hq _ ih=>exact .own (hk _ _ hA) (hN.keeps hk) hq ih
theorem Tail.ot{h:Heap}{no:Str→Prop}{bmB tl:List Value}(T:Tail h no bmB tl)(hi:no "__init__"):OwnTail h bmB tl:=by
 induction T with
 | base=>exact .base
 | own hA hN hq _ ih=>exact .own hA hN (hq _ hi) ih
section
variable {M:Model} {A:Around} {E:Value→Shared→Prop} {h:Heap} {g:Array GenState} {d:Drawn} {t:Nat} {os:OsState}
variable {nm q:Str} {C N:Addr} {bs bm bmB:List Value} {hdct:Bool} {sn:List Str} {sub:List Value} {ab:Bool} {col:Option Bool} {dd:Option Addr} {k0 k1 k2 k3 k5:Option Value} {B newId initId:String} {no:Str→Prop}
theorem Cg{tl:List Value}{n:Str}{y:Option Value}{Q:Option Value→Shared→Prop}(hn:no n)(T:Tail h no bmB tl)(hrest:lookupAlong bmB n=pure y)(hq:Q y ⟨h,g,d,t,os⟩):
  wpAny M A (lookupAlong tl n) Q E ⟨h,g,d,t,os⟩:=by
 induction T with
 | base=>rw [hrest];exact wpAny_pure hq
 | own hA hN hni _ ih=>
  rw [lookupAlong_cons];refine wpAny_bind (wpAny_classOwn_cls hA hN ?_);rw [hni n hn];exact ih
theorem lookup{mN:Str→Option Value}{n:Str}{y:Option Value}{Q:Option Value→Shared→Prop}(hno:no n)
  (hC:h.get? C=some (excClassObj nm q C N bs bm hdct sn sub ab col dd k0 k1 k2 k3 k5 newId)) (hn:h.Ns N mN) (T:Tail h no bmB bm) (hbm:mroOf (.type B)=pure bmB) (hB:typeLookup (.type B) n=pure y)
  (hq:Q (match mN n with | some v=>some v | none=>y) ⟨h,g,d,t,os⟩):wpAny M A (typeLookup (.ref C) n) Q E ⟨h,g,d,t,os⟩:=by
 have hrest:lookupAlong bmB n=pure y:=by rw [typeLookup_eq,hbm]at hB;exact hB
 rw [typeLookup_eq];refine wpAny_bind (wpAny_mroOf_exc hC ?_);rw [lookupAlong_cons];refine wpAny_bind (wpAny_classOwn_exc hC hn ?_)
 cases hv:mN n with
 | some v=>rw [hv]at hq;exact wpAny_pure hq
 | none=>rw [hv]at hq;exact Cg hno T hrest hq
end
section
variable {prog:Program} {w:World} {A:Around} {E:Value→Shared→Prop} {h:Heap} {g:Array GenState} {d:Drawn} {t:Nat} {os:OsState}
variable {nm q:Str} {C N:Addr} {bs bm bmB:List Value} {hdct:Bool} {sn:List Str} {sub:List Value} {ab:Bool} {col:Option Bool} {dd:Option Addr} {k0 k1 k2 k3 k5:Option Value} {B newId initId:String}
theorem made{mN:Str→Option Value}{rest:List Value}{fI:Addr}{oI:Obj}{Q:Fin→Shared→Prop}(F:ExcBaseFacts B newId initId bmB)(T:OwnTail h bmB bm)
  (hC:h.get? C=some (excClassObj nm q C N bs bm hdct sn sub ab col dd k0 k1 k2 k3 k5 newId)) (hn:h.Ns N mN) (hi:mN "__init__"=some (.ref fI)) (hfI:h.get? fI=some oI) (hfc:oI.cls=.type "function")
  (hq:∀h',Heap.MadeExcOf h h' (h.objs.size+1) (.ref C) rest→wpAny (model prog w) A (call (.ref fI) (.ref (h.objs.size+1)::rest)) (fun r s'=>r=.none∧Q (.done (.ret (.ref (h.objs.size+1)))) s') E ⟨h',g,d,t,os⟩)
  (hrest:rest.length≤sizeLine:=by size_fits):wpAny (model prog w) A (Builtin.«type.__call__» ⟨.ref C::rest,[]⟩) Q E ⟨h,g,d,t,os⟩:=by
 repeat (first | with_reducible refine wpAny_loadPart_at hC ?_ | with_reducible refine wpAny_madeBy_exc hC ?_ | wp_step)
 refine codeAny_call_builtin_code (Code.quiet_builtin _ F.quiet) (wpAny_check_new_subU F F.hasB T hC ?_);refine codeAny_exc_new_subU F F.hasB F T hC ?_ hrest;show wpAny _ _ _ _ _ _;generalize ho:({ cls:=.ref C,data:=.fields #[.ref h.objs.size,.none,.none,.none,.bool false,.none] }:Obj)=oe;have hk:∀b o,h.get? b=some o→((h.push { cls:=.type "tuple",data:=.seq rest.toArray }).push oe).get? b=some o:=fun b o e=>aa3 _ (aa3 _ e);have hC₁:=hk _ _ hC;have hn₁:=hn.keeps hk;have T₁:=T.keeps hk
 have hget:((h.push { cls:=.type "tuple",data:=.seq rest.toArray }).push oe).get? (h.objs.size+1)=some oe:=by subst ho;heap_get
 have hoc:oe.cls=.ref C:=by subst ho;rfl
 have hcC:(Value.ref C::bm).contains (.ref C)=true:=by simp
 unfold isInstance
 repeat (first | (with_reducible refine wpAny_loadPart_at hget ?_;rw [hoc]) | (with_reducible refine wpAny_isSubtype_exc hC₁ ?_;rw [hcC]) | wp_step)
 show wpAny _ _ (typeLookup (.ref C) _) _ _ _;refine wpAny_typeLookup_tail hC₁ hn₁ T₁ F.mroIs F.init.lookup ?_;rw [hi];refine wpAny_holding (wpAny_bind ?_);unfold bindSpecial;refine wpAny_bind (wpAny_typeOf (T:="function") ⟨_,hk _ _ hfI,hfc⟩ ?_);rw [if_pos (by decide)];refine wpAny_pure (wpAny_bind (wpAny_mono (hq _ ⟨hk,aj7 (al3 _),h.objs.size,by rw [hget,←ho],aj7 (aa8 _),?_⟩) (fun r s' hr=>?_) fun _ _ x=>x))
 ·exact aa3 _ (Heap.get?_push_at rfl rfl)
 ·obtain⟨rfl,hQ⟩:=hr
  wp_walk
  exact hQ
theorem call_own{mN:Str→Option Value}{rest:List Value}{fI:Addr}{oI:Obj}{Q:Value→Shared→Prop}(F:ExcBaseFacts B newId initId bmB)(T:OwnTail h bmB bm)
  (hC:h.get? C=some (excClassObj nm q C N bs bm hdct sn sub ab col dd k0 k1 k2 k3 k5 newId)) (hn:h.Ns N mN) (hi:mN "__init__"=some (.ref fI)) (hfI:h.get? fI=some oI) (hfc:oI.cls=.type "function")
  (hq:∀h',Heap.MadeExcOf h h' (h.objs.size+1) (.ref C) rest→wpAny (model prog w) (A.under (.builtin "type.__call__" ⟨.ref C::rest,[]⟩)) (call (.ref fI) (.ref (h.objs.size+1)::rest)) (fun r s'=>r=.none∧Q (.ref (h.objs.size+1)) s') E ⟨h',g,d,t,os⟩)
  (hrest:rest.length≤sizeLine:=by size_fits):wpAny (model prog w) A (call (.ref C) rest) Q E ⟨h,g,d,t,os⟩:=by
 have f1:=tc_lookup;have f2:=tc_bind (.ref C);have hT:(⟨h,g,d,t,os⟩:Shared).TypeIs (.ref C) "type":=⟨_,hC,rfl⟩;refine wpAny_call (codeAny_of_tree ?_);show wpAny _ _ (callAny (.ref C) _) _ _ _
 repeat (any_goals (first | assumption | with_reducible refine wpAny_loadPart_at hC ?_ | wp_step))
 refine⟨rfl,?_⟩;refine codeAny_call_builtin_at (Code.quiet_builtin _ (by decide +kernel)) entry_typeCall (wpAny_check_type_call_sub hC (made (hrest:=hrest) F T hC hn hi hfI hfc fun h' hm=>?_));exact hq h' hm
end
section
variable {M:Model} {A:Around} {E:Value→Shared→Prop} {env:Env}
variable {nm q:Str} {C N:Addr} {bs bm:List Value} {hdct:Bool} {sn:List Str} {sub:List Value} {ab:Bool} {col:Option Bool} {dd:Option Addr} {k0 k1 k2 k3 k5:Option Value} {newId:String}
theorem rz{s:Shared}{x:Sem Value}{Q:Flow→Shared→Prop}(hbase:bm.contains (.type "BaseException")=true)(hh:A.handled=none)
  (h:wpAny M A x (fun v s₁=>∃e oe,v=.ref e∧s₁.heap.get? C=some (excClassObj nm q C N bs bm hdct sn sub ab col dd k0 k1 k2 k3 k5 newId)∧
   s₁.heap.get? e=some oe∧oe.cls=.ref C∧(∃vs,oe.data=.fields vs∧vs[1]?=some .none)∧E (.ref e) s₁) E s) :
  wpAny M A (raiseStmt env (some x) none) Q E s:=by
 have hcB:(Value.ref C::bm).contains (.type "BaseException")=true:=by rw [ah0,hbase,Bool.or_true]
 unfold raiseStmt;refine wpAny_bind (wpAny_mono h (fun v s₁ h₁=>?_) fun _ _ x=>x);obtain⟨e,⟨oc,od,odt,osl⟩,rfl,hC,he,hcls,⟨vs,hd,h1⟩,hE⟩:=h₁;cases hcls;cases hd;obtain⟨hp,g,d,tk,os⟩:=s₁
 repeat (first | with_reducible refine wpAny_loadPart_at he ?_ | with_reducible refine wpAny_loadPart_at hC ?_ | (with_reducible refine wpAny_isSubtype_exc hC ?_;rw [hcB]) | wp_step)
 rw [h1]
 repeat wp_step
 exact wpAny_raiseNew_none hh hE
end
section
variable {prog:Program} {w:World} {A:Around} {E:Value→Shared→Prop} {s:Shared} {env:Env}
variable {nm q:Str} {C N:Addr} {bs bm:List Value} {hdct:Bool} {sn:List Str} {sub:List Value} {ab:Bool} {col:Option Bool} {dd:Option Addr} {k0 k1 k2 k3 k5:Option Value} {newId:String}
theorem raise_of{ex:Expr}{pos:Pos}{Q:Flow→Shared→Prop}(hbm:bm.contains (.type "BaseException")=true)(hh:A.handled=none)
  (h:wpAny (model prog w) A (eval ex env) (fun v s₁=>∃e oe,v=.ref e∧s₁.heap.get? C=some (excClassObj nm q C N bs bm hdct sn sub ab col dd k0 k1 k2 k3 k5 newId)∧
   s₁.heap.get? e=some oe∧oe.cls=.ref C∧(∃vs,oe.data=.fields vs∧vs[1]?=some .none)∧E (.ref e) s₁) E s) :
  wpAny (model prog w) A (exec (.Raise (some ex) none pos) env) Q E s:=by
 rw [arm_exec_Raise];simp only [evalOpt,Option.map];exact wpAny_bind (wpAny_standAt (rz hbm hh (wpAny_bind (wpAny_mono h (fun v s₃ h₃=>wpAny_bind (wpAny_standAt (wpAny_pure h₃))) fun _ _ x=>x))))
end
section
open Builtin Builtin.ObjectAttr
variable {prog:Program} {w:World} {A:Around} {E:Value→Shared→Prop} {h:Heap} {g:Array GenState} {d:Drawn} {t:Nat} {os:OsState}
variable {nm q:Str} {C N x:Addr} {bs bm bmB:List Value} {sn:List Str} {sub:List Value} {ab:Bool} {col:Option Bool} {dd:Option Addr} {k0 k1 k2 k3 k5:Option Value} {B newId sa owner:String}
 {mN mA:Str→Option Value} {name:Str} {v:Value} {no:Str→Prop}
theorem pV{self:Value}{what:Str}{tl:List Value}(T:Tail h no bmB tl)(hb:refuseLoop self what bmB=pure ()):refuseLoop self what tl=pure ():=by
 induction T with
 | base=>exact hb
 | own _ _ _ _ ih=>rw [refuseLoop_ref];exact ih
theorem vw{M:Model}{o:Obj}{nameV:Value}{Q:Unit→Shared→Prop}(SF:StoreFacts B bmB sa owner)(T:Tail h no bmB bm)
  (hC:h.get? C=some (excClassObj nm q C N bs bm true sn sub ab col dd k0 k1 k2 k3 k5 newId)) (hx:h.get? x=some o) (hc:o.cls=.ref C) (hq:Q () ⟨h,g,d,t,os⟩) :
  wpAny M A (checkBuiltinCall sa ⟨[.ref x,nameV,v],[]⟩) Q E ⟨h,g,d,t,os⟩:=by
 have hcB:(Value.ref C::bm).contains (.type owner)=true:=by rw [ah0,T.hasType SF.hasOwner,Bool.or_true]
 have ha:=SF.args (.ref x) nameV v;simp only [checkBuiltinCall,SF.kind,SF.split];refine wpAny_bind ?_
 ·unfold isInstance
  repeat (first | (with_reducible refine wpAny_loadPart_at hx ?_;rw [hc]) | (with_reducible refine wpAny_isSubtype_exc hC ?_;rw [hcB]) | wp_step)
  cases hsig:Manifest.signature? sa with
  | none=>exact wpAny_pure hq
  | some sig=>
   simp only [argsOk,hsig]at ha;have h2:Bind.checkArgs sa sig ⟨[.ref x,nameV,v],[]⟩=pure ():=ha;show wpAny M A (Bind.checkArgs sa sig ⟨[.ref x,nameV,v],[]⟩) Q E _;rw [h2];exact wpAny_pure hq
theorem store_first{o:Obj}{Q:Unit→Shared→Prop}(SF:StoreFacts B bmB sa owner)(T:Tail h no bmB bm)(h1:no "__setattr__")(h2:no name)
  (hC:h.get? C=some (excClassObj nm q C N bs bm true sn sub ab col dd k0 k1 k2 k3 k5 newId)) (hn:h.Ns N mN) (hns:mN "__setattr__"=none) (hna:mN name=none)
  (hB:typeLookup (.type B) name=pure none) (hx:h.get? x=some o) (hc:o.cls=.ref C) (hnc:∀c,o.data≠.cls c) (hdn:o.dict=none)
  (hq:∀h' tk',h'.get? x=some { o with dict:=some h.objs.size }→h'.Ns1 h.objs.size (fun y=>if y=name then some v else none)→(∀b ob,b≠x→h.get? b=some ob→h'.get? b=some ob)→h.objs.size < h'.objs.size→Q () ⟨h',g,d,tk',os⟩) :
  wpAny (model prog w) A (setAttr (.ref x) name v) Q E ⟨h,g,d,t,os⟩:=by
 have f3:=SF.slot.bind (.ref x);have hpass:=pV T (SF.passes (.ref x));unfold setAttr callSpecial? specialOf
 repeat (any_goals (first | assumption | (with_reducible refine wpAny_loadPart_at hx ?_;rw [hc]) | (with_reducible refine lookup h1 hC hn T SF.mro SF.slot.lookup ?_;rw [hns]) | wp_step))
 refine codeAny_call_builtin SF.slot.plain SF.entry (vw SF T hC hx hc ?_);unfold Builtin.«object.__setattr__»
 repeat (first | rw [refuse_eq] | (rw [refuseLoop_ref,hpass]) | (with_reducible refine wpAny_loadPart_at hx ?_;rw [hc]) | with_reducible refine wpAny_mroOf_exc hC ?_ | (with_reducible refine lookup h2 hC hn T SF.mro hB ?_;rw [hna]) | wp_step)
 rw [hdn,if_neg (by simp [typeHasDict])]
 split
 ·rename_i hcd
  cases hcd
 split
 ·rename_i c hcd
  exact absurd hcd (hnc c)
 ·have hx₁:(h.push { cls:=.type "dict",data:=.dict #[] }).get? x=some o:=aa3 _ hx
  have hxs:x≠h.objs.size:=ab1 (aa5 hx);refine wpAny_bind (wpAny_alloc' ?_);refine wpAny_bind (wpAny_update' hx₁ ?_);refine wpAny_pure ?_
  have hgd:((h.push { cls:=.type "dict",data:=.dict #[] }).update x fun o=>{ cls:=o.cls,dict:=some h.objs.size,data:=o.data,slots:=o.slots }).get? h.objs.size
    = some { cls:=.type "dict",data:=.dict #[] }:=
   (Heap.get?_update_ne _ _ _ _ hxs.symm).trans (Heap.get?_push_at rfl rfl)
  have hnd:((h.push { cls:=.type "dict",data:=.dict #[] }).update x fun o=>{ cls:=o.cls,dict:=some h.objs.size,data:=o.data,slots:=o.slots }).Ns h.objs.size (fun _=>none):=
   ⟨_,#[],_,hgd,rfl,fun e he=>absurd he (by simp),fun _=>rfl⟩
  show wpAny _ _ (storeInDict h.objs.size (.str name _) name v) _ _ _;unfold storeInDict newKeyGuard;refine wpAny_bind (wpAny_pure (wpAny_bind (wpAny_nsSet1 (Heap.Ns1.of_empty hnd) fun h' hn' hs=>?_)));obtain⟨oD,esD,epD,hoD,hdD,hcD⟩:=hn'.count (Within.cons name v Within.nil);refine wpAny_bind (wpAny_lookBehind hoD (by rw [hdD];exact pastItsLine_dict (ac0 hcD (by rw [ac5,ah1,sizeLine_eq];omega))) ?_)
  wp_walk
  have hx':h'.get? x=some { o with dict:=some h.objs.size }:=?_;refine hq h' _ hx' hn' (fun b ob hbx hb=>?_) (aa5 hoD)
  ·exact(hs.2 b (ab1 (aa5 hb))).trans ((Heap.get?_update_ne _ _ _ _ hbx).trans (aa3 _ hb))
  ·refine(hs.2 x hxs).trans (ad2 _ hx₁ ?_)
   have hfr:=(Heap.get?_some_iff.mp hx).2;obtain⟨oc,od,odt,osl⟩:=o
   cases odt<;>first | rfl | exact hfr
end
section
open Builtin Builtin.ObjectAttr
variable {prog:Program} {w:World} {A:Around} {E:Value→Shared→Prop} {h:Heap} {g:Array GenState} {d:Drawn} {t:Nat} {os:OsState}
variable {nm q:Str} {C N a dx:Addr} {bs bm bmB:List Value} {sn:List Str} {sub:List Value} {ab:Bool} {col:Option Bool} {dd:Option Addr} {k0 k1 k2 k3 k5:Option Value} {B newId:String}
 {mN mA:Str→Option Value} {name:Str} {v:Value} {no:Str→Prop} {o:Obj} {vs:Array Value}
theorem oJ{tk:Tok}{Q:Fin→Shared→Prop}(FB:ExcAttrBase B bmB)(hC:h.get? C=some (excClassObj nm q C N bs bm true sn sub ab col dd k0 k1 k2 k3 k5 newId))(hN:h.Ns N mN)(T:Tail h no bmB bm)(hno:no name)(hna:mN name=none)
  (hB:typeLookup (.type B) name=pure none) (hx:h.get? a=some o) (hc:o.cls=.ref C) (hd:o.data=.fields vs) (hdx:o.dict=some dx) (hns:h.Ns dx mA) (hv:mA name=some v) (hq:Q (.done (.ret v)) ⟨h,g,d,t,os⟩) :
  wpAny (model prog w) A (Builtin.«object.__getattribute__» ⟨[.ref a,.str name tk],[]⟩) Q E ⟨h,g,d,t,os⟩:=by
 unfold Builtin.«object.__getattribute__»
 repeat (first | (with_reducible refine wpAny_loadPart_at hx ?_;rw [hc]) | (with_reducible refine lookup hno hC hN T FB.mro hB ?_;rw [hna]) | wp_step)
 split
 ·rename_i c hcd
  rw [hd]at hcd;cases hcd
 unfold instanceDict
 repeat (first | (with_reducible refine wpAny_loadPart_at hx ?_;rw [hc]) | with_reducible refine wpAny_loadPart_at hC ?_ | wp_step)
 rw [hdx]
 repeat (first | (with_reducible refine wpAny_nsGet hns ?_;rw [hv]) | wp_step)
 exact hq
theorem ox{M:Model}{nameV:Value}{Q:Unit→Shared→Prop}(FB:ExcAttrBase B bmB)(hC:h.get? C=some (excClassObj nm q C N bs bm true sn sub ab col dd k0 k1 k2 k3 k5 newId))(T:Tail h no bmB bm)
  (hx:h.get? a=some o) (hc:o.cls=.ref C) (hq:Q () ⟨h,g,d,t,os⟩):wpAny M A (checkBuiltinCall "BaseException.__getattribute__" ⟨[.ref a,nameV],[]⟩) Q E ⟨h,g,d,t,os⟩:=by
 have hk:builtinKind "BaseException.__getattribute__"=some .slot:=by decide +kernel
 have hsplit:splitId "BaseException.__getattribute__"=some ("BaseException","__getattribute__"):=by decide +kernel
 have hcB:(Value.ref C::bm).contains (.type "BaseException")=true:=by rw [ah0,T.hasType FB.hasBase];rfl
 have ha:=F.args_bexc_ga (.ref a) nameV;simp only [checkBuiltinCall,hk,hsplit];refine wpAny_bind ?_
 ·unfold isInstance
  repeat (first | (with_reducible refine wpAny_loadPart_at hx ?_;rw [hc]) | (with_reducible refine wpAny_isSubtype_exc hC ?_;rw [hcB]) | wp_step)
  exact hq
theorem field_attr{expr:Bool}{Q:Value→Shared→Prop}(FB:ExcAttrBase B bmB)(hC:h.get? C=some (excClassObj nm q C N bs bm true sn sub ab col dd k0 k1 k2 k3 k5 newId))(hN:h.Ns N mN)(T:Tail h no bmB bm)
  (n1:no "__getattribute__") (n2:no "__getattr__") (m1:mN "__getattribute__"=none) (m2:mN "__getattr__"=none) (hno:no name) (hna:mN name=none)
  (hB:typeLookup (.type B) name=pure none) (hx:h.get? a=some o) (hc:o.cls=.ref C) (hd:o.data=.fields vs) (hdx:o.dict=some dx) (hns:h.Ns dx mA) (hv:mA name=some v) (hh:handedOut v=pure v) (hq:Q v ⟨h,g,d,t+1,os⟩) :
  wpAny (model prog w) A (getAttr (.ref a) name expr) Q E ⟨h,g,d,t,os⟩:=by
 have f3:=FB.ga.bind (.ref a)
 have hx0:(expr && onTheHeap (Value.builtin "BaseException.__getattribute__"))=false:=by cases expr<;>rfl
 have hx2:(Value.builtin "BaseException.__getattribute__" == Value.builtin "object.__getattribute__")=false:=by decide +kernel
 have hx1:(onTheHeap (Value.ref C) && Value.builtin "BaseException.__getattribute__" == Value.builtin "object.__getattribute__")=false:=by rw [hx2];rfl
 unfold getAttr getAttrBy
 repeat (any_goals (first | assumption | (with_reducible refine wpAny_loadPart_at hx ?_;rw [hc]) | (with_reducible refine lookup n1 hC hN T FB.mro FB.ga.lookup ?_;rw [m1]) | (with_reducible refine lookup n2 hC hN T FB.mro FB.noGetattr ?_;rw [m2]) | wp_step))
 refine codeAny_call_builtin FB.ga.plain F.entry_bexc_ga (ox FB hC T hx hc (oJ FB hC hN T hno hna hB hx hc hd hdx hns hv ?_))
 repeat (any_goals (first | assumption | wp_step))
end
end XE
namespace L2
open PySem PySem.Spec PyProof.Rows
def XO(C d a:Addr):HO:=.ext fun h=>∃o vs,h.get? a=some o∧o.cls=.ref C∧o.dict=some d∧o.data=.fields vs
def XN(C a:Addr):HO:=.ext fun h=>∃o vs,h.get? a=some o∧o.cls=.ref C∧o.dict=none∧o.data=.fields vs∧vs[1]?=some .none
section
variable {P:Program} {w:World} {H:Hp} {h:Heap} {a C d:Addr}
theorem XO.ok(x:∃o vs,h.get? a=some o∧o.cls=.ref C∧o.dict=some d∧o.data=.fields vs):br P w H h a (XO C d a):=
 ⟨x,let ⟨o,_,e,_⟩:=x;⟨o,e⟩,fun _ _ ⟨o,vs,e,r⟩ k=>⟨o,vs,k o e,r⟩⟩
theorem XN.ok(x:∃o vs,h.get? a=some o∧o.cls=.ref C∧o.dict=none∧o.data=.fields vs∧vs[1]?=some .none):br P w H h a (XN C a):=
 ⟨x,let ⟨o,_,e,_⟩:=x;⟨o,e⟩,fun _ _ ⟨o,vs,e,r⟩ k=>⟨o,vs,k o e,r⟩⟩
theorem XO.of(x:br P w H h a (XO C d a)):∃o vs,h.get? a=some o∧o.cls=.ref C∧o.dict=some d∧o.data=.fields vs:=x.1
theorem XN.of(x:br P w H h a (XN C a)):∃o vs,h.get? a=some o∧o.cls=.ref C∧o.dict=none∧o.data=.fields vs∧vs[1]?=some .none:=x.1
end
structure fj(X:Cx)(pins:List (Addr×Obj))(σ:St)(H:Hp)(s:Shared)(a C d:Addr)(fs:List (Str×V))(ts:List Addr):Prop where
 inv:az X pins σ H s
 xo:H a=some (XO C d a)
 xd:H d=some (.xd fs)
 own:∀T∈ts,BS X pins T∧H T=none∧X.s₀.heap.objs.size≤T
 out:XE.Out s.heap a (.ref C) (some d) ts
def Dr(X:Cx)(E:XK)(e:Value)(s:Shared):Prop:=∃pins σ H a C d fs ts,e=.ref a∧fj X pins σ H s a C d fs ts∧E e (some d) H
section
variable {X:Cx} {pins:List (Addr×Obj)} {σ:St} {H:Hp} {s:Shared} {a C d T:Addr} {fs:List (Str×V)} {ts:List Addr} {fl:Value} {h':Heap}
abbrev vW(X:Cx)(s:Shared)(a:Addr)(ts:List Addr):Heap:=PySem.W.hideAll s.heap (a::ts++kF X.stack)
theorem fj.on(t:fj X pins σ H s a C d fs ts):XE.On (vW X s a ts) X.stack a s.heap:=
 ⟨fun b o q=>PySem.W.of_hideAll _ q,PySem.W.hideAll_none _ (by simp),PySem.W.funFrames_hide t.inv.stack fun env he b hb=>by
  refine ac1 _ ?_
  exact ak6.mpr ⟨env,he,hb⟩⟩
theorem fj.hid(t:fj X pins σ H s a C d fs ts):∀T∈ts,(vW X s a ts).get? T=none:=fun T hT=>PySem.W.hideAll_none _ (by simp [hT])
theorem fj.pass(t:fj X pins σ H s a C d fs ts)(st:(vW X s a ts).StaysIn h')(tr:XE.Tr h' a T (.ref C) (some d) fl)(u:s.heap.UpToSlots h'):
  Un (kF X.stack) ts H H s.heap h'∧gj X.prog X.w H h':=by
 have keepB:∀b o,s.heap.get? b=some o→b≠a→b∉ts→b∉kF X.stack→h'.get? b=some o:=fun b o q h1 h2 h3=>
  st b o (PySem.W.hideAll_get _ q (by simp only [ag6,ab6,ad7];exact fun z=>z.elim h1 fun z=>z.elim h2 h3))
 have fr:∀b o,s.heap.get? b=some o→b∈kF X.stack→∃sl,h'.get? b=some { o with slots:=sl }:=fun b o q hb=>by
  obtain⟨_,o',ho',hd⟩:=t.inv.stack.mem hb;rw [q]at ho';cases ho';exact u b o q hd
 have na:∀b,H b=none→b≠a:=fun b n z=>by rw [z,t.xo]at n;cases n
 refine⟨⟨fun b o q n hb hx=>keepB b o q (na b n) hx hb,fun b o q n hb hx=>fr b o q hb,fun b o q n _=>n,fun b o q hx=>?_,fun _ _ q=>q,fun _ _ _ q=>q,fun b ps q=>⟨#[],by rw [q];simp⟩⟩,fun b o' q=>?_⟩
 ·by_cases h1:b=a
  ·subst h1
   obtain⟨o1,_,e1,_⟩:=tr.there;exact⟨o1,e1⟩
  ·by_cases h2:b∈kF X.stack
   ·obtain⟨sl,e⟩:=fr b o q h2
    exact⟨_,e⟩
   ·exact⟨o,keepB b o q h1 hx h2⟩
 ·by_cases h1:b=a
  ·subst h1
   rw [t.xo]at q;cases q;exact XO.ok tr.there
  ·refine(t.inv.hok b o' q).stay (fun c v hc r=>keepB c v r ?_ ?_ ?_) (fun _ z=>z) fun _ _ z=>z
   ·rcases hc with rfl | hc
    ·exact h1
    ·intro z
     rw [z,t.xo]at hc;cases hc
   ·intro z
    have n:=(t.own c z).2.1;rcases hc with rfl | hc
    ·rw [n]at q;cases q
    ·rw [n]at hc;cases hc
   ·intro z
    have n:=t.inv.stkFree c z;rcases hc with rfl | hc
    ·rw [n]at q;cases q
    ·rw [n]at hc;cases hc
theorem fj.go(t:fj X pins σ H s a C d fs ts)(st:(vW X s a ts).StaysIn h')(tr:XE.Tr h' a T (.ref C) (some d) fl)(u:s.heap.UpToSlots h'):az X pins σ H { s with heap:=h' }:=
 t.inv.call' (s':={ s with heap:=h' }) rfl (t.pass st tr u).1 (t.pass st tr u).2 t.inv.bare fun b hb=>⟨(t.own b hb).1.old,(t.own b hb).1.ne,(t.own b hb).1.cells,(t.own b hb).1.pin⟩
theorem az.ownN(I:az X pins σ H s)(hT:s.heap.objs.size≤T):BS X pins T where
 ne:=ad3 (ab2 I.lt hT)
 old:=.inr (ac0 I.sz hT)
 cells:=fun x c e=>by
  obtain⟨v,o,ho,_⟩:=I.cell x c e;exact ab1 (ab2 (aa5 ho) hT)
 pin:=fun p hp=>ab1 (ab2 (aa5 (I.pin p hp).1) hT)
end
def rW(P:Program)(w:World):qf:=fun outer H s E e s'=>∃a C d fs T H',e=.ref a∧s'.os=s.os∧AllBare s'.gens∧Un (kF outer) [] H H' s.heap s'.heap∧gj P w H' s'.heap∧
 H' a=some (XO C d a)∧H' d=some (.xd fs)∧H' T=none∧s.heap.objs.size≤T∧XE.Tr s'.heap a T (.ref C) (some d) .none∧E e (some d) H'
theorem rW.thr{X:Cx}{pins:List (Addr×Obj)}{σ:St}{H:Hp}{s s':Shared}{E:XK}{e:Value}(I:az X pins σ H s)(x:rW X.prog X.w X.stack H s E e s'):Dr X E e s':=by
 obtain⟨a,C,d,fs,T,H',rfl,os,bare,un,hok,ha,hd,hT,sz,tr,q⟩:=x;refine⟨pins,σ,H',a,C,d,fs,[T],rfl,⟨I.call' os un hok bare (fun b z=>nomatch z),ha,hd,fun T' hT'=>?_,(.inr ⟨T,_,rfl,tr⟩)⟩,q⟩
 obtain rfl:T'=T:=by simpa using hT'
 exact⟨I.ownN sz,hT,ac0 I.sz sz⟩
section
variable {P:Program} {w:World} {K:Frag} {mg:Str→Option Value} {base:Heap} {N:List Str} {qual:Str} {scope:Scope} {f:Addr} {cd:Value} {A:Around} {outer:List Env} {s₀:Shared} {H₀:Hp} {E:XK}
theorem wy{e:Value}{s:Shared}(t:Dr (jA (rW P w) P w K mg base N qual scope f cd A outer s₀ H₀ E) E e s):(jA (rW P w) P w K mg base N qual scope f cd A outer s₀ H₀ E).xe e s:=by
 obtain⟨pins,σ,H,a,C,d,fs,ts,rfl,t,q⟩:=t;show wpAny (model P w) (A.deeper (envOfC qual scope s₀.heap.objs.size f cd)) (leaving (envOfC qual scope s₀.heap.objs.size f cd) (.ref a)) _ _ s;refine XE.leave_out (base:=vW (jA (rW P w) P w K mg base N qual scope f cd A outer s₀ H₀ E) s a ts) t.inv.ok.frames rfl t.on t.hid t.out fun h' T hT o tr u=>?_;have I':=t.go o.1 tr u;have hok:=(t.pass o.1 tr u).2
 have sz:s₀.heap.objs.size≤T∧H T=none:=by
  rcases hT with hT | hT
  ·exact⟨(t.own T hT).2.2,(t.own T hT).2.1⟩
  ·exact⟨ac0 t.inv.sz hT,t.inv.hok.fresh hT⟩
 exact⟨a,C,d,fs,T,H,rfl,I'.os,I'.bare,I'.base,hok,t.xo,t.xd,sz.2,sz.1,tr,q⟩
theorem cY.okX{x qual:Str}{st:Stmt}{f:Addr}{fd:FuncData}{N ps:List Str}{k:Nat}{sp:Sp}(F:cY K x qual st f fd)(S:aB N ps (av st))(len:∀vs H Q E,sp vs H Q E→vs.length=ps.length)
  (hbody:∀(cdv:Value) (A:Around) (outer:List Env) (s:Shared) (H:Hp) (vs:List V) (Q:VK) (E:XK),bV k (A.deeper (envOfC qual (av st) s.heap.objs.size f cdv))→sp vs H Q E→
   ∃t,rY (jA (rW P w) P w K mg base N qual (av st) f cdv A outer s H E) (bX st) t∧t { nx:=fun _ H'=>Q .non H',rt:=Q } (start N vs) H):aR P w K mg base (rW P w) (k+1) f fd ps sp:=by
 obtain⟨oc,od,kV,doc,pm,an,cdv,ct,osl,rfl,lk,hcd⟩:=F.ex;exact Ab lk hcd S len fun A outer s H vs Q E hr hsp=>hbody cdv A outer s H vs Q E hr hsp
end
theorem yT{K:Frag}{h:Heap}{N:Addr}{mg:Str→Option Value}{n:Str}{v:Value}(X:K.In h)(G:h.Ns N mg)(e:nsIn K N n=some (some v)):mg n=some v:=by
 obtain⟨o,es,ep,ho,hd,_,hf⟩:=G;unfold nsIn at e
 split at e
 ·rename_i c d es' n' sl q
  have:=X _ _ q
  rw [ho]at this;cases this;cases hd
  split at e
  ·rename_i en he
   cases e;rw [←hf];unfold nsFind findBy;rw [←Array.find?_toList,he];rfl
  ·split at e<;>cases e
 ·cases e
abbrev yk:List Value:=[.type "ValueError",.type "Exception",.type "BaseException",.type "object"]
structure qm(K:Frag)(C fI:Addr)(no:List Str):Prop where
 cls:∃nm q N bs S sn sub ab col dd k0 k1 k2 k3 k5,K.lookup C=some (excClassObj nm q C N bs (.ref S::yk) true sn sub ab col dd k0 k1 k2 k3 k5 "ValueError.__new__")∧nsOkIn K N=true∧
  nsIn K N "__init__"=some (some (.ref fI))∧(∀n∈no,nsIn K N n=some none)∧
  ∃c0 ds cd sl,K.lookup S=some ⟨c0,ds,.cls cd,sl⟩∧nsOkIn K cd.ns=true∧nsIn K cd.ns "__init__"=some none∧∀n∈no,nsIn K cd.ns n=some none
 kp:keepIn K (.ref C)=true
 fn:isFn K (.ref fI)=true
structure ExH(h:Heap)(C fI:Addr)(no:List Str)(nm q:Str)(N:Addr)(bs:List Value)(S:Addr)(sn:List Str)(sub:List Value)(ab:Bool)(col:Option Bool)(dd:Option Addr)(k0 k1 k2 k3 k5:Option Value)(mN:Str→Option Value):Prop where
 c:h.get? C=some (excClassObj nm q C N bs (.ref S::yk) true sn sub ab col dd k0 k1 k2 k3 k5 "ValueError.__new__")
 n:h.Ns N mN
 i:mN "__init__"=some (.ref fI)
 o:∀n∈no,mN n=none
 t:XE.Tail h (fun n=>n="__init__"∨n∈no) yk (.ref S::yk)
theorem qm.at{K:Frag}{C fI:Addr}{no:List Str}(x:qm K C fI no){h:Heap}(X:K.In h):∃nm q N bs S sn sub ab col dd k0 k1 k2 k3 k5 mN,ExH h C fI no nm q N bs S sn sub ab col dd k0 k1 k2 k3 k5 mN:=by
 obtain⟨nm,q,N,bs,S,sn,sub,ab,col,dd,k0,k1,k2,k3,k5,lk,ok,ii,nn,c0,ds,cd,sl,lS,okS,iS,nS⟩:=x.cls;have hN:h.Ns N (h.nsMap N):=.of_isNs (PySem.W.isNs_of_in X ok);have hS:h.Ns cd.ns (h.nsMap cd.ns):=.of_isNs (PySem.W.isNs_of_in X okS)
 exact⟨nm,q,N,bs,S,sn,sub,ab,col,dd,k0,k1,k2,k3,k5,_,X _ _ lk,hN,yT X hN ii,fun n hn=>PySem.W.ns_none_of X hN (nn n hn),.own (X _ _ lS) hS (fun n hn=>by
  rcases hn with rfl | hn
  ·exact PySem.W.ns_none_of X hS iS
  ·exact PySem.W.ns_none_of X hS (nS n hn)) .base⟩
def XF(C d a:Addr):HO:=.ext fun h=>∃o vs,h.get? a=some o∧o.cls=.ref C∧o.dict=some d∧o.data=.fields vs∧vs[1]?=some .none
section
variable {P:Program} {w:World} {H:Hp} {h:Heap} {a C d:Addr}
theorem XF.ok(x:∃o vs,h.get? a=some o∧o.cls=.ref C∧o.dict=some d∧o.data=.fields vs∧vs[1]?=some .none):br P w H h a (XF C d a):=
 ⟨x,let ⟨o,_,e,_⟩:=x;⟨o,e⟩,fun _ _ ⟨o,vs,e,r⟩ k=>⟨o,vs,k o e,r⟩⟩
theorem XF.of(x:br P w H h a (XF C d a)):∃o vs,h.get? a=some o∧o.cls=.ref C∧o.dict=some d∧o.data=.fields vs∧vs[1]?=some .none:=x.1
end
section
variable {X:Cx} {pins:List (Addr×Obj)} {σ:St} {H:Hp} {s:Shared}
theorem az.trackO{D:Addr}{o:HO}(I:az X pins σ H s)(hn:H D=none)(new:br X.prog X.w (upd H D o) s.heap D o)(w:BS X pins D):az X pins σ (upd H D o) s:=by
 have ne:∀b o,H b=some o→b≠D:=fun b o e=>aq e hn
 refine I.step (h':=s.heap) (g':=s.gens) (d':=s.drawn) (t':=s.toks) (ch:=[D]) (fun b hb=>?_) (fun b o _ _ _ e _=>e) (fun b o _ _ _ e _=>⟨o.slots,e⟩) (fun b o hc _ n=>?_)
  (fun b o _ e=>⟨o,e⟩) (fun b xs e=>?_) (fun b o u e=>?_) (fun b ps e=>⟨#[],?_⟩) (fun _ z=>z) (fun b u e=>?_) I.bare
 ·have e:b=D:=by simpa using hb
  subst e;exact⟨w.old,w.ne,w.cells,w.pin⟩
 ·rw [ai (fun z=>hc (by simp [z]))];exact n
 ·rw [ai (ne _ _ e)];exact e
 ·rw [ai (ne _ _ e)];exact e
 ·rw [ai (ne _ _ e),e];simp
 ·by_cases hb:b=D
  ·subst hb
   rw [ag]at e;cases e;exact new
  ·rw [ai hb]at e
   exact(I.hok b u e).stay (fun c v _ q=>q) (fun c q=>by rw [ai (ne _ _ q)];exact q) fun c xs q=>by rw [ai (ne _ _ q)];exact q
variable {a C d fI:Addr} {no:List Str} {f:Str} {A:Around} {E:Value→Shared→Prop}
theorem zN{y:V}{u:Value}{Q:Unit→Shared→Prop}(I:az X pins σ H s)(e:H a=some (XN C a))(c:qm X.K C fI no)(h1:("__setattr__":Str)∈no)(h2:f∈no)(hB:typeLookup (.type "ValueError") f=pure none)(ry:aF y u)
  (h:∀s' d,H d=none→d≠a→az X pins σ (upd (upd H a (XF C d a)) d (.xd [(f,y)])) s'→Q () s'):wpAny (model X.prog X.w) A (setAttr (.ref a) f u) Q E s:=by
 obtain⟨o,vs,ea,ec,ed,ef,e1⟩:=XN.of (I.hok a _ e);obtain⟨nm,q,N,bs,S,sn,sub,ab,col,dd,k0,k1,k2,k3,k5,mN,x⟩:=c.at I.kIn;obtain⟨hp,g,dr,tk,os⟩:=s;refine XE.store_first PySem.F.store_ValueError x.t (.inr h1) (.inr h2) x.c x.n (x.o _ h1) (x.o _ h2) hB ea ec (fun c z=>by rw [ef]at z;cases z) ed fun h' tk' ha hn hk hz=>?_;have fr:hp.objs.size≤hp.objs.size:=aa8 _;have hdn:H hp.objs.size=none:=I.hok.fresh fr;have hda:hp.objs.size≠a:=ad3 (aa5 ea)
 have I2:az X pins σ (upd H a (XF C hp.objs.size a)) ⟨h',g,dr,tk',os⟩:=
  I.write (t':=tk') (x:=a) (e:=a) (by rw [e];trivial) (.inl rfl) (fun b ob hb q=>hk b ob hb q) ⟨_,ha⟩ (XF.ok ⟨_,vs,ha,ec,rfl,ef,e1⟩)
 refine h _ hp.objs.size hdn hda (I2.trackO (by rw [ai hda];exact hdn) ⟨_,hn,fun z=>?_⟩ ?_)
 ·by_cases hz:z=f
  ·subst hz
   simpa [List.lookup,iB]using ry
  ·have:(z == f)=false:=by simpa using hz
   simp [List.lookup,this,hz,iB]
 ·have w:=I.ownN (T:=hp.objs.size) fr
  exact⟨w.ne,w.old,w.cells,w.pin⟩
theorem yy{b:Bool}{fs:List (Str×V)}{v:V}{Q:Value→Shared→Prop}(I:az X pins σ H s)(e:H a=some (XO C d a))(ed:H d=some (.xd fs))(c:qm X.K C fI no)(h1:("__getattribute__":Str)∈no)(h2:("__getattr__":Str)∈no)(h3:f∈no)
  (hB:typeLookup (.type "ValueError") f=pure none) (l:fs.lookup f=some v) (h:∀u s',az X pins σ H s'→aF v u→Q u s'):wpAny (model X.prog X.w) A (getAttr (.ref a) f b) Q E s:=by
 obtain⟨o,vs,ea,ec,edi,ef⟩:=XO.of (I.hok a _ e);obtain⟨mA,hm,r⟩:=I.hok d _ ed;obtain⟨u,hu,ru⟩:=iB.some_of (v:=v) (o:=mA f) (by rw [←l];exact r f);obtain⟨nm,q,N,bs,S,sn,sub,ab,col,dd,k0,k1,k2,k3,k5,mN,x⟩:=c.at I.kIn;have I':=I.tok (s.toks+1);obtain⟨hp,g,dr,tk,os⟩:=s;exact XE.field_attr PySem.F.attrBase_ValueError x.c x.n x.t (.inr h1) (.inr h2) (x.o _ h1) (x.o _ h2) (.inr h3) (x.o _ h3) hB ea ec ef edi hm.ns hu (PySem.W.handedOut_of (lQ ru)) (h u _ I' ru)
end
theorem Co{K:Frag}{f:Addr}{h:Heap}(e:isFn K (.ref f)=true)(X:K.In h):∃o,h.get? f=some o∧o.cls=.type "function":=by
 have e:(K.lookup f).map (·.cls)=some (.type "function"):=beq_iff_eq.mp e
 cases q:K.lookup f with
 | none=>rw [q]at e;cases e
 | some o=>rw [q]at e;exact⟨o,X _ _ q,Option.some.inj e⟩
def Av(C:Addr)(ta tv:TE)(f:Str):TS:=fun D σ H=>tv σ H fun y H1=>ta σ H1 fun x H2=>∃a,x=.ref a∧H2 a=some (XN C a)∧∀d,H2 d=none→d≠a→D.nx σ (upd (upd H2 a (XF C d a)) d (.xd [(f,y)]))
def xK(C:Addr)(ta:TE)(f:Str):TE:=fun σ H Q=>ta σ H fun x H1=>∃a d fs v,x=.ref a∧H1 a=some (XO C d a)∧H1 d=some (.xd fs)∧fs.lookup f=some v∧Q v H1
def rO(C:Addr)(sp:Sp)(E:XK)(t:TA):TS:=fun _ σ H=>t σ H fun vs H1=>vs.length≤sizeLine∧∀a,H1 a=none→sp (.ref a::vs) (upd H1 a (XN C a)) (fun v H2=>v=.non∧∃d fs,H2 a=some (XF C d a)∧H2 d=some (.xd fs)∧E (.ref a) (some d) (upd H2 a (XO C d a))) E0
section
variable {X:Cx} {C fI:Addr} {no:List Str} {f x:Str} {o e value:Expr} {es:List Expr} {ta tv:TE} {t:TA} {pos pos' np cpos:Pos} {k:Nat} {fd:FuncData} {ps:List Str} {sp:Sp} {E:XK}
theorem zu(c:qm X.K C fI no)(h1:("__setattr__":Str)∈no)(h2:f∈no)(hB:typeLookup (.type "ValueError") f=pure none)(ha:PE X o ta)(hv:PE X value tv)(hs:swapsWith value (some (.Attribute o f pos')) pos.line X.env=pure false):
  PS X (.Assign [.Attribute o f pos'] value pos) (Av C ta tv f):=by
 intro pins s σ H D I h;refine plainObj_wpAny_Assign_Attribute (bz (hv pins s σ H _ I h) fun u s1 ⟨y,H1,I1,ry,q⟩=>bz (ha pins s1 σ H1 _ I1 q) fun ov s2 ⟨x,H2,I2,rx,a,ex,ea,q2⟩=>?_) hs;subst ex;obtain rfl:ov=Value.ref a:=rx;exact zN I2 ea c h1 h2 hB ry fun s3 d hd hda I3=>⟨σ,_,I3,q2 d hd hda⟩
theorem ze(c:qm X.K C fI no)(h1:("__getattribute__":Str)∈no)(h2:("__getattr__":Str)∈no)(h3:f∈no)(hB:typeLookup (.type "ValueError") f=pure none)(he:PE X e ta)(hb:attributeBase e f X.env (eval e X.env)=eval e X.env):PE X (.Attribute e f pos) (xK C ta f):=by
 intro pins s σ H Q I h;refine r6 hb (bz (he pins s σ H _ I h) fun u s1 ⟨x,H1,I1,rx,a,d,fs,v,ex,ea,ed,l,q⟩=>?_);subst ex;obtain rfl:u=Value.ref a:=rx;exact yy I1 ea ed c h1 h2 h3 hB l fun u' s2 I2 ru=>⟨v,H1,I2,ru,q⟩
theorem xa(hc:X.calm=true)(c:qm X.K C fI no)(F:aR X.prog X.w X.K X.mg X.base cO k fI fd ps sp)(hr:bV (k+1) X.A)(hg:Gl X x)(hm:X.mg x=some (.ref C))(hb:cu X.K fd ps [])(hx:∀e s',Dr X E e s'→X.xe e s')
  (ha:PA X (e::es) t) (hdb:(x == ("__debug__":Str))=false:=by decide) (he:starEach (e::es) X.env=(false,eval e X.env)::starEach es X.env:=by rfl) (hpl:(backTo cpos (starEach es X.env)).any (·.1)=false:=by rfl) :
  PS X (.Raise (some (.Call (.Name x np) (e::es) [] cpos)) none pos) (rO C sp E t):=by
 intro pins s σ H D I h;obtain⟨nm,q,N,bs,S,sn,sub,ab,col,dd,k0,k1,k2,k3,k5,lk,_⟩:=c.cls;refine XE.raise_of (C:=C) (nm:=nm) (q:=q) (N:=N) (bs:=bs) (bm:=.ref S::yk) (hdct:=true) (sn:=sn) (sub:=sub) (ab:=ab) (col:=col) (dd:=dd) (k0:=k0) (k1:=k1) (k2:=k2) (k3:=k3) (k5:=k5) (newId:="ValueError.__new__") (by rfl) (I.ok.hd hc) ?_;refine wpAny_Call_Name_kw (gd I hg hm ?_ hdb);refine callWith_K (h₀:=X.base) I.ok.mod.kin c.kp (bz (ha cpos pins s σ H _ I h) fun us s1 ⟨vs,H1,I1,r,hz,q⟩=>⟨I1.kIn,?_⟩) he hpl;obtain⟨nm',q',N',bs',S',sn',sub',ab',col',dd',k0',k1',k2',k3',k5',mN,x1⟩:=c.at I1.kIn;have T1:OwnTail s1.heap yk (.ref S'::yk):=x1.t.ot (.inl rfl)
 have fnI:∃oI,s1.heap.get? fI=some oI∧oI.cls=.type "function":=by
  exact Co c.fn I1.kIn
 obtain⟨oI,hfI,hfc⟩:=fnI;obtain⟨hp,g,dr,tk,os⟩:=s1;show wpAny _ _ (call (.ref C) us) _ _ _;refine XE.call_own PySem.F.excBase_ValueError T1 x1.c x1.n x1.i hfI hfc (fun h' hm=>?_) (by rw [←r.length];exact hz);have hsz:hp.objs.size≤hp.objs.size+1:=al3 _;have hq:=q (hp.objs.size+1) (I1.hok.fresh hsz)
 have I2:az X pins σ (upd H1 (hp.objs.size+1) (XN C (hp.objs.size+1))) ⟨h',g,dr,tk,os⟩:=by
  refine I1.laid (t':=tk) (fun b o q=>hm.keeps b o q) hsz (XN.ok ?_);obtain⟨t,ht,_⟩:=hm.there;exact⟨_,_,ht,rfl,rfl,rfl,rfl⟩
 have r2:aH (V.ref (hp.objs.size+1)::vs) (Value.ref (hp.objs.size+1)::us):=.cons rfl r
 have hl:(Value.ref (hp.objs.size+1)::us++[]).length=ps.length:=by
  rw [ae3,←r2.length];exact F.len _ _ _ _ hq
 refine wpAny_call (codeAny_mono (F.run _ X.stack _ _ ⟨Value.ref (hp.objs.size+1)::us,[]⟩ (Value.ref (hp.objs.size+1)::us) _ _ E0 (hr.make C us []) (I2.env0.make C us []) (by
  have:=hb _ (Value.ref (hp.objs.size+1)::us) I2.kIn hl
  simpa using this) r2 hq) fun r' s' hq'=>?_)
 cases r' with
 | error e=>exact hq'.elim
 | ok fl=>
  cases fl with
  | ret u=>
   obtain⟨v,H',I3,rv,ev,d,fs,ha',hd',hE⟩:=I2.after hq';subst ev;obtain⟨oe,vs',he1,he2,he3,he4,he5⟩:=XF.of (I3.hok _ _ ha');refine⟨rv,_,oe,rfl,I3.kIn _ _ lk,he1,he2,⟨vs',he4,he5⟩,hx _ _ ?_⟩
   have hda:d≠hp.objs.size+1:=fun z=>by rw [z,ha']at hd';cases hd'
   refine⟨pins,σ,upd H' (hp.objs.size+1) (XO C d (hp.objs.size+1)),_,C,d,fs,[],rfl,⟨?_,ag,by rw [ai hda];exact hd',fun _ z=>(nomatch z),(.inl ⟨rfl,oe,vs',he1,⟨he2,he3⟩,he4,he5⟩)⟩,hE⟩;exact I3.write (t':=s'.toks) (h':=s'.heap) (x:=hp.objs.size+1) (e:=hp.objs.size+1) (by rw [ha'];trivial) (.inl rfl) (fun b u _ q=>q) ⟨_,he1⟩ (XO.ok ⟨oe,vs',he1,he2,he3,he4⟩)
  | next=>exact False.elim hq'
  | brk=>exact False.elim hq'
  | cont=>exact False.elim hq'
end
end L2
namespace L2
open PySem PySem.Spec PyProof.Rows
section
variable {X:Cx} {scope:Scope} {own:List Str} {js:List Nat} {tg iter elt:Expr} {ifs:List Expr} {wi:TI} {g:TG} {tt:TT} {te:TE} {pos:Pos}
end
end L2
namespace L2
open PySem PySem.Spec PyProof.Rows
abbrev Cx.held(X:Cx)(e:Value)(E:Value→Shared→Prop):Cx:={ X with A:=X.A.mark (some e),calm:=false,xe:=E }
section
variable {X:Cx} {pins:List (Addr×Obj)} {σ:St} {H:Hp} {s:Shared} {e:Value} {E:Value→Shared→Prop}
theorem Cx.Ok.held(ok:X.Ok)(e:Value)(E:Value→Shared→Prop):(X.held e E).Ok:=
 ⟨ok.mod,ok.kind,ok.glob,ok.blt,ok.above,ok.inj,ok.has,ok.cab,fun z=>(nomatch z),ok.frames,ok.stk,ok.exf,ok.bs,ok.bsz,ok.noex,ok.exfs,ok.funs,ok.frf⟩
theorem az.held(I:az X pins σ H s)(e:Value)(E:Value→Shared→Prop):az (X.held e E) pins σ H s:=⟨I.ok.held e E,I.os,I.bare,I.base,I.loc,I.cell,I.free,I.freeC,I.pin,I.hok,I.len⟩
theorem az.unheld(ok:X.Ok)(I:az (X.held e E) pins σ H s):az X pins σ H s:=⟨ok,I.os,I.bare,I.base,I.loc,I.cell,I.free,I.freeC,I.pin,I.hok,I.len⟩
theorem ug{M:Model}{A:Around}{i:Nat}{x:Str}{pos:Pos}{Q:Unit→Shared→Prop}(I:az X pins σ H s)(hN:X.N.Nodup)(hi:X.N[i]?=some x)(hk:X.env.scope.names.lookup x=some .local)
  (h:∀s',az X pins (σ.set i none) H s'→Q () s'):wpAny M A (do bindName X.env x .none;unbindBehindTheSuite X.env x pos) Q E s:=by
 obtain⟨m,hn,hl⟩:=id I.loc
 have hcls:(X.env.scope.kind == .class || (X.env.scope.kind == .module && X.env.locals != X.env.globals))=false:=by rw [I.ok.kind];rfl
 have hiσ:i < σ.length:=by rw [I.len];exact(aa1.mp hi).1
 obtain⟨oL,_,_,hoL,_⟩:=id hn;refine wpAny_nameGoes_keeps hk hn hcls fun h' v hn' hs=>?_
 have tracked:gj X.prog X.w H h':=fun b ob e=>by
  refine(I.hok b ob e).stay (fun c w' hc q=>(hs.2 c ?_).trans q) (fun _ q=>q) fun _ _ q=>q;rintro rfl;rcases hc with rfl | hc
  ·rw [I.free]at e;cases e
  ·rw [I.free]at hc;cases hc
 have low:∀b o,X.s₀.heap.get? b=some o→h'.get? b=s.heap.get? b:=fun b o e=>hs.2 b (ab1 (ab2 (aa5 e) I.ok.above));refine h _ ⟨I.ok,I.os,I.bare,⟨fun b o e n hb hx=>(low b o e).trans (I.base.keep b o e n hb hx),fun b o e n hb hx=>?_,I.base.free,fun b o e hx=>?_,I.base.tups,I.base.frzs,I.base.tbls⟩,⟨_,hn',fun j y v' e1 e2 e3=>?_⟩,fun y c e=>?_,I.free,I.freeC,fun p hp=>?_,tracked,by simpa using I.len⟩
 ·obtain⟨sl,e1⟩:=I.base.slot b o e n hb hx
  exact⟨sl,(low b o e).trans e1⟩
 ·obtain⟨o',e1⟩:=I.base.there b o e hx
  exact⟨o',(low b o e).trans e1⟩
 ·by_cases hj:j=i
  ·subst hj
   rw [ag7 hiσ]at e2;cases e2
  ·rw [aj8 (Ne.symm hj)]at e2
   obtain⟨u',r',q⟩:=hl j y v' e1 e2 e3;refine⟨u',r',?_⟩;rcases q with⟨k,e⟩ | ⟨k,c,e,z⟩
   ·refine .inl ⟨k,?_⟩
    have:y≠x:=fun e=>hj (jW hN e1 (e▸hi))
    simp [this,e]
   ·exact .inr ⟨k,c,e,z.sameBut hs (I.cne y c e)⟩
 ·obtain⟨w',z⟩:=I.cell y c e
  exact⟨w',z.sameBut hs (I.cne y c e)⟩
 ·obtain⟨e,n,ne,nf,d⟩:=I.pin p hp
  exact⟨(hs.2 p.1 ne).trans e,n,ne,nf,d⟩
end
def zX(X:Cx)(pins:List (Addr×Obj))(σ:St)(E:XK)(e:Value)(s:Shared):Prop:=∃H a C d fs ts,e=.ref a∧fj X pins σ H s a C d fs ts∧E e (some d) H
theorem rW.at_{X:Cx}{pins:List (Addr×Obj)}{σ:St}{H:Hp}{s s':Shared}{E:XK}{e:Value}(I:az X pins σ H s)(x:rW X.prog X.w X.stack H s E e s'):zX X pins σ E e s':=by
 obtain⟨a,C,d,fs,T,H',rfl,os,bare,un,hok,ha,hd,hT,sz,tr,q⟩:=x;refine⟨H',a,C,d,fs,[T],rfl,⟨I.call' os un hok bare (fun b z=>nomatch z),ha,hd,fun T' hT'=>?_,.inr ⟨T,_,rfl,tr⟩⟩,q⟩
 obtain rfl:T'=T:=by simpa using hT'
 exact⟨I.ownN sz,hT,ac0 I.sz sz⟩
section
variable {X:Cx} {pins:List (Addr×Obj)} {σ:St} {H:Hp} {s:Shared} {a C d T L:Addr} {fs:List (Str×V)} {ts:List Addr} {M:Model} {A:Around} {E:Value→Shared→Prop} {Q:Unit→Shared→Prop}
theorem fj.note(t:fj X pins σ H s a C d fs ts)(hst:X.stack=X.env::X.outer)(hfr:X.env.frame=some L)(hA:A.frames=some X.stack)
  (h:∀h' T,fj X pins σ H { s with heap:=h' } a C d fs [T]→Q () { s with heap:=h' }):wpAny M A (noteFrame (.ref a) X.env) Q E s:=by
 have hon:=t.on;rw [hst]at hon hA;refine XE.note_out hA hfr hon t.hid t.out fun h' T hT o tr u=>h h' T ⟨t.go o.1 tr u,t.xo,t.xd,fun T' hT'=>?_,.inr ⟨T,_,rfl,tr⟩⟩
 obtain rfl:T'=T:=by simpa using hT'
 rcases hT with hT | hT
 ·exact t.own _ hT
 ·exact⟨t.inv.ownN hT,t.inv.hok.fresh hT,ac0 t.inv.sz hT⟩
theorem fj.tr(t:fj X pins σ H s a C d fs [T]):∃fl,XE.Tr s.heap a T (.ref C) (some d) fl:=by
 rcases t.out with⟨z,_⟩ | ⟨T',fl',z,tr⟩
 ·cases z
 ·cases z;exact⟨fl',tr⟩
theorem fj.land(t:fj X pins σ H s a C d fs [T])(h:∀h',fj X pins σ H { s with heap:=h' } a C d fs [T]→Q () { s with heap:=h' }):wpAny M A (setFlight (.ref a) none) Q E s:=by
 obtain⟨fl,tr⟩:=t.tr;exact XE.land t.on (t.hid T (.head _)) tr fun h' o tr' u=>h h' ⟨t.go o.1 tr' u,t.xo,t.xd,t.own,.inr ⟨T,_,rfl,tr'⟩⟩
end
section
variable {X:Cx} {k:Nat} {f C fI L:Addr} {fd:FuncData} {ps:List Str} {sp:Sp} {no:List Str} {x y v n r:Str} {p pos cpos np vp hpos rp rn apos spos:Pos} {e:Expr} {es:List Expr} {t:TA} {iv ie ir:Nat}
theorem yn{pins:List (Addr×Obj)}{σ:St}{H:Hp}{s:Shared}{Q:VK}{E:XK}(F:aR X.prog X.w X.K X.mg X.base (rW X.prog X.w) k f fd ps sp)(hr:bV k X.A)(hg:Gl X x)(hm:X.mg x=some (.ref f))(hk:keepIn X.K (.ref f)=true)(hb:cu X.K fd ps [])
  (ha:PA X.nox (e::es) t) (I:az X pins σ H s) (h:t σ H fun vs H1=>sp vs H1 Q E) (hdb:(x == ("__debug__":Str))=false) (he:starEach (e::es) X.env=(false,eval e X.env)::starEach es X.env) (hpl:(backTo pos (starEach es X.env)).any (·.1)=false) :
  wpAny (model X.prog X.w) X.A (eval (.Call (.Name x p) (e::es) [] pos) X.env) (EP X pins σ Q) (zX X pins σ E) s:=by
 refine wpAny_Call_Name_kw (gd I hg hm ?_ hdb);refine callWith_K (h₀:=X.base) I.ok.mod.kin hk (wpAny_mono (ha pos pins s σ H _ (I.wish _) h) (fun us s1 ⟨vs,H1,I1,r,q⟩=>⟨I1.kIn,?_⟩) fun _ _ z=>z.elim) he hpl;have I1:az X pins σ H1 s1:=I1.unwish
 have hl:(us++[]).length=ps.length:=by rw [ae3,←r.length];exact F.len _ _ _ _ q
 refine wpAny_call (codeAny_mono (F.run X.A X.stack s1 H1 ⟨us,[]⟩ us vs Q E hr I1.env0 (by have:=hb s1 us I1.kIn hl;simpa using this) r q) fun r s' hq=>?_)
 cases r with
 | error e=>exact rW.at_ I1 hq
 | ok fl=>
  cases fl with
  | ret u=>exact I1.after hq
  | next=>exact False.elim hq
  | brk=>exact False.elim hq
  | cont=>exact False.elim hq
end
end L2
namespace XE
open PySem
open Sem (wp)
section
variable {prog:Program} {w:World} {A:Around} {E:Value→Shared→Prop} {h:Heap} {g:Array GenState} {d:Drawn} {t:Nat} {os:OsState}
variable {nm q:Str} {C N a:Addr} {bs bm bmB:List Value} {sn:List Str} {sub:List Value} {ab:Bool} {col:Option Bool} {dd:Option Addr} {k0 k1 k2 k3 k5:Option Value} {B newId:String}
 {mN:Str→Option Value} {no:Str→Prop} {o:Obj} {vs:Array Value}
theorem tK{R:Result→Shared→Prop}(T:Tail h no bmB bm)(hob:bmB.contains (.type "object")=true)(hC:h.get? C=some (excClassObj nm q C N bs bm true sn sub ab col dd k0 k1 k2 k3 k5 newId))
  (hx:h.get? a=some o) (hc:o.cls=.ref C) (hq:R (.ok (.ret (.ref C))) ⟨h,g,d,t,os⟩) :
  codeAny (model prog w) A (.call (.builtin "getset_descriptor.__get__") ⟨[.builtin "object.__class__",.ref a,.ref C],[]⟩) R ⟨h,g,d,t,os⟩:=by
 have hT5:(⟨h,g,d,t,os⟩:Shared).TypeIs (.builtin "object.__class__") "getset_descriptor":=F.typeOf_object_class
 have hcB:(Value.ref C::bm).contains (.type (".".intercalate ("object.__class__".cutAt '.').dropLast))=true:=by
  rw [F.owner_object_class,ah0,T.hasType hob];rfl
 refine codeAny_call_builtin F.slot_gs_get.plain F.entry_gs_get (F.slot_gs_get.check _ _ _ _ _ _ _ _ hT5 (F.args_gs_get _ _ _) ?_)
 repeat (any_goals (first | assumption | (with_reducible refine wpAny_loadPart_at hx ?_;rw [hc]) | (with_reducible refine wpAny_isSubtype_exc hC ?_;rw [hcB]) | wp_step))
 refine⟨Code.quiet_builtin _ (by decide +kernel),codeAny_builtin F.entry_object_class ?_⟩
 repeat (any_goals (first | assumption | (with_reducible refine wpAny_loadPart_at hx ?_;rw [hc]) | wp_step))
theorem oy{tk:Tok}{Q:Fin→Shared→Prop}(FB:ExcAttrBase B bmB)(T:Tail h no bmB bm)(hob:bmB.contains (.type "object")=true)(hcl:no "__class__")(hna:mN "__class__"=none)(hlk:typeLookup (.type B) "__class__"=pure (some (.builtin "object.__class__")))
  (hC:h.get? C=some (excClassObj nm q C N bs bm true sn sub ab col dd k0 k1 k2 k3 k5 newId)) (hN:h.Ns N mN) (hx:h.get? a=some o) (hc:o.cls=.ref C) (hq:Q (.done (.ret (.ref C))) ⟨h,g,d,t,os⟩) :
  wpAny (model prog w) A (Builtin.«object.__getattribute__» ⟨[.ref a,.str "__class__" tk],[]⟩) Q E ⟨h,g,d,t,os⟩:=by
 have hT5:(⟨h,g,d,t,os⟩:Shared).TypeIs (.builtin "object.__class__") "getset_descriptor":=F.typeOf_object_class;have f5:=F.typeOf_object_class;have f6:=F.slot_gs_get.lookup;have f7:=F.slot_gs_set.lookup
 repeat (any_goals (first | assumption | (with_reducible refine wpAny_loadPart_at hx ?_;rw [hc]) | (with_reducible refine lookup hcl hC hN T FB.mro hlk ?_;rw [hna]) | wp_step))
 refine tK T hob hC hx hc ?_
 repeat (any_goals (first | assumption | wp_step))
theorem class_attr{Q:Option Value→Shared→Prop}(FB:ExcAttrBase B bmB)(T:Tail h no bmB bm)(hob:bmB.contains (.type "object")=true)(hcl:no "__class__")(hna:mN "__class__"=none)(hlk:typeLookup (.type B) "__class__"=pure (some (.builtin "object.__class__")))
  (n1:no "__getattribute__") (n2:no "__getattr__") (m1:mN "__getattribute__"=none) (m2:mN "__getattr__"=none)
  (hC:h.get? C=some (excClassObj nm q C N bs bm true sn sub ab col dd k0 k1 k2 k3 k5 newId)) (hN:h.Ns N mN) (hx:h.get? a=some o) (hc:o.cls=.ref C) (hq:Q (some (.ref C)) ⟨h,g,d,t+1,os⟩) :
  wpAny (model prog w) A (getAttr? (.ref a) "__class__") Q E ⟨h,g,d,t,os⟩:=by
 have f3:=FB.ga.bind (.ref a)
 have hx2:(Value.builtin "BaseException.__getattribute__" == Value.builtin "object.__getattribute__")=false:=by decide +kernel
 have hx0:(false && onTheHeap (Value.builtin "BaseException.__getattribute__"))=false:=rfl
 have hx1:(onTheHeap (Value.ref C) && Value.builtin "BaseException.__getattribute__" == Value.builtin "object.__getattribute__")=false:=by rw [hx2];rfl
 unfold getAttr? getAttrBy?
 repeat (any_goals (first | assumption | (with_reducible refine wpAny_loadPart_at hx ?_;rw [hc]) | (with_reducible refine lookup n1 hC hN T FB.mro FB.ga.lookup ?_;rw [m1]) | (with_reducible refine lookup n2 hC hN T FB.mro FB.noGetattr ?_;rw [m2]) | wp_step))
 refine codeAny_call_builtin FB.ga.plain F.entry_bexc_ga (ox FB hC T hx hc (oy FB T hob hcl hna hlk hC hN hx hc ?_))
 repeat (any_goals (first | assumption | wp_step))
end
end XE
namespace L2
open PySem PySem.Spec PyProof.Rows
theorem uv:typeLookup (.type "ValueError") "__class__"=pure (some (.builtin "object.__class__")):=by rw [typeLookup_type,builtinLookup_eq_fast];kernel_rfl
theorem oY{K:Frag}{C fI a:Addr}{no:List Str}(c:qm K C fI no)(h1:("__class__":Str)∈no)(h2:("__getattribute__":Str)∈no)(h3:("__getattr__":Str)∈no):
  PySem.W.KitX K (.ref a) (.ref C) (fun h=>∃o,h.get? a=some o∧o.cls=.ref C) where
 ty:=fun M h _ p=>by
  obtain⟨o,e1,e2⟩:=p;exact e2▸(PySem.W.Looks.ld e1).andThen .now
 it:=fun M h X _=>by
  obtain⟨nm,q,N,bs,S,sn,sub,ab,col,dd,k0,k1,k2,k3,k5,mN,x⟩:=c.at X;intro A' Q' E' s' k q;unfold isType loadHead;exact wpAny_bind (wpAny_loadPart (k _ _ x.c) (wpAny_pure q))
 ne:=fun h tp dd' its n sl X ht=>by
  obtain⟨nm,q,N,bs,S,sn,sub,ab,col,dd,k0,k1,k2,k3,k5,mN,x⟩:=c.at X;refine Bool.eq_false_iff.mpr fun q=>?_;cases beq_iff_eq.mp q
  have z:=congrArg (Option.map (·.cls)) (x.c.symm.trans ht)
  exact absurd z (by simp [excClassObj])
 ca:=fun {prog w A E Q s} X p k=>by
  obtain⟨o,e1,e2⟩:=p;obtain⟨nm,q,N,bs,S,sn,sub,ab,col,dd,k0,k1,k2,k3,k5,mN,x⟩:=c.at X;obtain⟨h,g,d,t,os⟩:=s;exact XE.class_attr PySem.F.attrBase_ValueError x.t rfl (.inr h1) (x.o _ h1) uv (.inr h2) (.inr h3) (x.o _ h2) (x.o _ h3) x.c x.n e1 e2 k
def Bn(K:Frag)(C:Addr):List V→Hp→VK→Prop:=fun xs H Q=>∃a d y u b,xs=[.ref a,y]∧H a=some (XO C d a)∧aF y u∧(∀u',aF y u'→u'=u)∧kitOne K (.ref C) u=some b∧Q (.bl b) H
theorem mF{X:Cx}{C fI:Addr}{no:List Str}(K:Frag)(c:qm X.K C fI no)(h1:("__class__":Str)∈no)(h2:("__getattribute__":Str)∈no)(h3:("__getattr__":Str)∈no)(hK:X.K=K:=by rfl):bq X (.builtin "isinstance") (Bn K C):=by
 subst hK;intro pins s σ H xs us Q I r h;obtain⟨a,d,y,u,b,rfl,ha,ry,uy,e,q⟩:=h;obtain⟨u1,u2,rfl,r1,r2⟩:=kA r;cases(show u1=Value.ref a from r1);cases uy u2 r2;obtain⟨o,vs,e1,e2,_⟩:=XO.of (I.hok a _ ha);exact kia_one (oY c h1 h2 h3) I.kIn ⟨o,e1,e2⟩ e (fun z=>nomatch z) fun tk=>⟨.bl b,H,I.tok _,rfl,q⟩
end L2
namespace L2
open PySem PySem.Spec PyProof.Rows
end L2
namespace L2
open PySem PySem.Spec PyProof.Rows
structure vj(P:Program)(w:World)(K:Frag)(mg:Str→Option Value)(base:Heap)(x:Str)(k:Nat)(ps:List Str)(sp:Sp):Prop where
 ex:∃(f:Addr) (fd:FuncData),aR P w K mg base (rW P w) k f fd ps sp∧mg x=some (.ref f)∧keepIn K (.ref f)=true∧cu K fd ps []
structure qj(P:Program)(w:World)(K:Frag)(mg:Str→Option Value)(base:Heap)(x:Str)(C:Addr)(k:Nat)(ps:List Str)(sp:Sp)(no:List Str):Prop where
 ex:∃(fI:Addr) (fd:FuncData),qm K C fI no∧aR P w K mg base cO k fI fd ps sp∧mg x=some (.ref C)∧cu K fd ps []
section
variable {X:Cx} {k j:Nat} {ps qs:List Str} {sp sq:Sp} {x y v n r f:Str} {p pos cpos np vp hpos rp rn apos spos:Pos} {e o value:Expr} {es:List Expr} {ta:TE} {t:TA} {E:XK} {C L:Addr} {no:List Str} {iv ie ir:Nat}
theorem uR(d:qj X.prog X.w X.K X.mg X.base x C k ps sp no)(hc:X.calm=true)(hr:bV (k+1) X.A)(hg:Gl X x)(hx:∀e s',Dr X E e s'→X.xe e s')(ha:PA X (e::es) t)(hdb:(x == ("__debug__":Str))=false:=by decide)
  (he:starEach (e::es) X.env=(false,eval e X.env)::starEach es X.env:=by rfl) (hpl:(backTo cpos (starEach es X.env)).any (·.1)=false:=by rfl):PS X (.Raise (some (.Call (.Name x np) (e::es) [] cpos)) none pos) (rO C sp E t):=
 let ⟨_,_,c,F,hm,hb⟩:=d.ex;xa hc c F hr hg hm hb hx ha hdb he hpl
theorem sF(d:qj X.prog X.w X.K X.mg X.base x C k ps sp no)(h1:("__getattribute__":Str)∈no)(h2:("__getattr__":Str)∈no)(h3:f∈no)(hB:typeLookup (.type "ValueError") f=pure none)(he:PE X e ta)(hb:attributeBase e f X.env (eval e X.env)=eval e X.env):PE X (.Attribute e f pos) (xK C ta f):=
 let ⟨_,_,c,_⟩:=d.ex;ze c h1 h2 h3 hB he hb
theorem lB(K:Frag)(d:qj X.prog X.w X.K X.mg X.base x C k ps sp no)(h1:("__class__":Str)∈no)(h2:("__getattribute__":Str)∈no)(h3:("__getattr__":Str)∈no)(hK:X.K=K:=by rfl):bq X (.builtin "isinstance") (Bn K C):=
 let ⟨_,_,c,_⟩:=d.ex;mF K c h1 h2 h3 hK
end
def zQ(C:Addr)(f:Str):Sp:=fun vs H Q _=>∃a v,vs=[.ref a,v]∧H a=some (XN C a)∧∀d,H d=none→d≠a→Q .non (upd (upd H a (XF C d a)) d (.xd [(f,v)]))
section
variable {X:Cx}
end
end L2
namespace L2
open PySem PySem.Spec PyProof.Rows
section
variable {K:Frag} {C fI S N c:Addr} {nm q f:Str} {bs sub:List Value} {sn:List Str} {ab b:Bool} {col:Option Bool} {dd:Option Addr} {k0 k1 k2 k3 k5:Option Value} {c0:Value} {ds:Option Addr} {cd:ClassData} {sl:Array (Option Value)} {T:String}
theorem sC{cl:Value}{d:Option Addr}{es:Array DictEntry}{n:Nat}{sl:Array (Option Value)}(l:K.lookup N=some ⟨cl,d,.dict es n,sl⟩)(e:(es.toList.all fun e=>match e.key with | .str _ _=>true | _=>false)=true):nsOkIn K N=true:=by
 unfold nsOkIn;rw [l];show es.all _=true;rw [←Array.all_toList];exact e
theorem AO(lk:K.lookup C=some (excClassObj nm q C N bs (.ref S::yk) true sn sub ab col dd k0 k1 k2 k3 k5 "ValueError.__new__"))(ok:nsOkIn K N=true)(ii:nsIn K N "__init__"=some (some (.ref fI)))
  (a1:nsIn K N "__setattr__"=some none) (a2:nsIn K N "__getattribute__"=some none) (a3:nsIn K N "__getattr__"=some none) (a4:nsIn K N "__class__"=some none) (a5:nsIn K N f=some none)
  (lS:K.lookup S=some ⟨c0,ds,.cls cd,sl⟩) (okS:nsOkIn K cd.ns=true) (iS:nsIn K cd.ns "__init__"=some none)
  (b1:nsIn K cd.ns "__setattr__"=some none) (b2:nsIn K cd.ns "__getattribute__"=some none) (b3:nsIn K cd.ns "__getattr__"=some none) (b4:nsIn K cd.ns "__class__"=some none) (b5:nsIn K cd.ns f=some none)
  (kp:keepIn K (.ref C)=true) (fn:isFn K (.ref fI)=true):qm K C fI ["__setattr__","__getattribute__","__getattr__","__class__",f]:=
 ⟨⟨nm,q,N,bs,S,sn,sub,ab,col,dd,k0,k1,k2,k3,k5,lk,ok,ii,fun n hn=>by
   simp only [ab6,ac4,or_false]at hn
   rcases hn with rfl | rfl | rfl | rfl | rfl<;>assumption,c0,ds,cd,sl,lS,okS,iS,fun n hn=>by
   simp only [ab6,ac4,or_false]at hn
   rcases hn with rfl | rfl | rfl | rfl | rfl<;>assumption⟩,kp,fn⟩
theorem exAt_mk{cl cl':Value}{d d':Option Addr}{es es':Array DictEntry}{n n':Nat}{zl zl':Array (Option Value)}{qual:Str}{st:Stmt}{oc:Value}{od an:Option Addr}{osl:Array (Option Value)}{kV doc pm cdv ct:Value}
  (lk:K.lookup C=some (excClassObj nm q C N bs (.ref S::yk) true sn sub ab col dd k0 k1 k2 k3 k5 "ValueError.__new__")) (lN:K.lookup N=some ⟨cl,d,.dict es n,zl⟩) (eN:(es.toList.all fun e=>match e.key with | .str _ _=>true | _=>false)=true) (ii:nsIn K N "__init__"=some (some (.ref fI)))
  (a1:nsIn K N "__setattr__"=some none) (a2:nsIn K N "__getattribute__"=some none) (a3:nsIn K N "__getattr__"=some none) (a4:nsIn K N "__class__"=some none) (a5:nsIn K N f=some none)
  (lS:K.lookup S=some ⟨c0,ds,.cls cd,sl⟩) (lM:K.lookup cd.ns=some ⟨cl',d',.dict es' n',zl'⟩) (eM:(es'.toList.all fun e=>match e.key with | .str _ _=>true | _=>false)=true) (iS:nsIn K cd.ns "__init__"=some none)
  (b1:nsIn K cd.ns "__setattr__"=some none) (b2:nsIn K cd.ns "__getattribute__"=some none) (b3:nsIn K cd.ns "__getattr__"=some none) (b4:nsIn K cd.ns "__class__"=some none) (b5:nsIn K cd.ns f=some none)
  (kp:keepIn K (.ref C)=true) (fn:isFn K (.ref fI)=true)
  (l:K.lookup fI=some ⟨oc,od,.func (fnOf "__init__" qual (cC st) (bX st) (av st) .none kV doc pm an cdv ct),osl⟩) (c:codeIn K cdv qual=true) (k:keepIn K (.ref fI)=true) :
  ∃fI fd,qm K C fI ["__setattr__","__getattribute__","__getattr__","__class__",f]∧cY K "__init__" qual st fI fd:=
 ⟨fI,_,AO lk (sC lN eN) ii a1 a2 a3 a4 a5 lS (sC lM eM) iS b1 b2 b3 b4 b5 kp fn,jG l c k⟩
theorem kit_own{t:Value}(n:(t == .ref c)=false)(h1:PySem.W.isClsIn K c=true)(h2:PySem.W.typeIn K (.ref c)=some (.type "type"))(h3:PySem.W.subIn K t (.ref c)=some b):kitOne K t (.ref c)=some b:=by
 unfold kitOne PySem.W.kitCls;have h1:(PySem.W.clsIn K c).isSome=true:=h1;rw [n,if_neg ab0];simp only [h1,h2,beq_self_eq_true,Bool.and_self,if_true];exact h3
theorem kit_ty{t:Value}(n:(t == .type T)=false)(h1:PySem.W.kitMeta T=true)(h3:PySem.W.subIn K t (.type T)=some b):kitOne K t (.type T)=some b:=by
 unfold kitOne PySem.W.kitCls;rw [n,if_neg ab0];simp only [h1,if_true];exact h3
end
end L2
namespace L2
open PySem PySem.Spec PyProof.Rows
def TJ:=Str→L2.St→Hp→VK→Prop
section
variable {X:Cx} {es:List Expr} {e e1 e2:Expr} {t:TJ} {te:TE} {pos:Pos} {x:Str}
theorem PS.nox{st:Stmt}{t:TS}(h:PS X.nox st t):PS X st t:=fun pins s σ H D I hw=>
 wpAny_mono (h pins s σ H D (I.wish _) hw) (fun f s1 q=>SP.unwish q) fun _ _ z=>z.elim
theorem oO:bZ X (inplaceOp .Mult) (rI IntMulOk fun i j=>.int (i * j)):=CK fun _ _ _ _ _ _ _ hc q=>imul_int q hc
end
end L2
namespace L2
open PySem PySem.Spec PyProof.Rows
theorem u9{P:Program}{w:World}{K:Frag}{tg:Expr}(it:Addr)(lo:Int)(n:Nat):jt P w K tg (tu lo n) [it] it (fun i h=>IsLongIter h it (lo+(i:Nat) * 1) ((n:Int) - (i:Nat)) 1) where
 mem:=by simp
 obj:=fun i h st b hb=>by
  have e:b=it:=by simpa using hb
  subst e
  exact⟨_,st,fun v z=>by
   have z':Data.fields _=Data.cell v:=z
   cases z'⟩
 keep:=fun i h h' st k=>k it (by simp) _ st
 item:=by
  intro X hP hw hK hc i pins s σ H E I hf st hg;subst hP hw hK;obtain⟨f0,f1,f2,f3,f4,f5⟩:=hf it (by simp);have W:=Walks.longrange (prog:=X.prog) (w:=X.w) (I.ok.hd hc) it lo 1 n;refine W.item i s _ _ hg st fun v h' tk hv st' kk=>?_;obtain⟨t,rfl⟩:=hv;have I1:az X pins σ H { s with heap:=h',toks:=tk }:=I.turned (fun b o hb e=>kk b o (by simpa using hb) e) f0 f1 f3 f4 f5;refine⟨_,rfl,lP (s:={ s with heap:=h',toks:=tk }) (n:="longrange_iterator") st' rfl rfl (by decide) ⟨.int (lo+i),H,I1,⟨t,?_⟩,⟨rfl,rfl⟩,st',fun b hb=>(hf b hb).1⟩⟩;rw [Int.mul_one]
 done:=by
  intro X hP hw hK hc i pins s σ H E I hf st hg;subst hP hw hK;obtain⟨f0,f1,f2,f3,f4,f5⟩:=hf it (by simp);exact wpAny_pyNext_long_end (I.ok.hd hc) st (by have:n≤i:=hg;omega) fun h' eb=>⟨rfl,I.turned (t':=s.toks) (fun b o hb e=>eb b o hb e) f0 f1 f3 f4 f5⟩
 self:=fun _ _ _ _ _ st h=>wpAny_pyIter_longiter st h
section
variable {X:Cx} {tg:Expr}
theorem uX{pins:List (Addr×Obj)}{σ:St}{H:Hp}{s:Shared}{R:It→Hp→Prop}{E:Value→Shared→Prop}{lo hi:Int}{t u v:Tok}{tk:Nat}(I:az X pins σ H s)
  (q:R (tu lo (hi - lo).toNat) H):wpAny (model X.prog X.w) X.A (pyIter (.ref s.heap.objs.size)) (B8 X pins σ tg R) E { s with heap:=s.heap.push { cls:=.type "range",data:=.fields #[.int lo t,.int hi u,.int 1 v] },toks:=tk }:=by
 have I1:az X pins σ H { s with heap:=s.heap.push { cls:=.type "range",data:=.fields #[.int lo t,.int hi u,.int 1 v] },toks:=tk }:=I.kept fun b o e=>aa3 _ e
 have e1:lo+((0:Nat):Int) * 1=lo:=by simp
 have e2:(((hi - lo).toNat:Nat):Int) - ((0:Nat):Int)=Builtin.Range.rangeSize lo hi 1:=by rw [rangeSize_one];split<;>omega
 cases hs:Builtin.Range.small lo hi 1 with
 | true=>
  refine wpAny_pyIter_range (IsRange.new ..) hs ?_
  refine⟨(s.heap.push { cls:=.type "range",data:=.fields #[.int lo t,.int hi u,.int 1 v] }).objs.size,[(s.heap.push { cls:=.type "range",data:=.fields #[.int lo t,.int hi u,.int 1 v] }).objs.size],_,_,H,rfl,
   I1.kept (t':=tk) fun b o e=>aa3 _ e,kz _ lo (hi - lo).toNat,?_,fun b hb=>?_,q⟩
  ·show IsRangeIter _ _ (lo+((0:Nat):Int) * 1) ((((hi - lo).toNat:Nat):Int) - ((0:Nat):Int)) 1
   rw [e1,e2];exact aa6 _ rfl
  ·have e:b=(s.heap.push { cls:=.type "range",data:=.fields #[.int lo t,.int hi u,.int 1 v] }).objs.size:=by simpa using hb
   subst e;exact I1.fpOk (aa8 _) (I1.hok.fresh (aa8 _))
 | false=>
  refine wpAny_pyIter_longrange (IsRange.new ..) hs ?_
  refine⟨(s.heap.push { cls:=.type "range",data:=.fields #[.int lo t,.int hi u,.int 1 v] }).objs.size,[(s.heap.push { cls:=.type "range",data:=.fields #[.int lo t,.int hi u,.int 1 v] }).objs.size],_,_,H,rfl,
   I1.kept (t':=tk) fun b o e=>aa3 _ e,u9 _ lo (hi - lo).toNat,?_,fun b hb=>?_,q⟩
  ·show IsLongIter _ _ (lo+((0:Nat):Int) * 1) ((((hi - lo).toNat:Nat):Int) - ((0:Nat):Int)) 1
   rw [e1,e2];exact aa6 _ rfl
  ·have e:b=(s.heap.push { cls:=.type "range",data:=.fields #[.int lo t,.int hi u,.int 1 v] }).objs.size:=by simpa using hb
   subst e;exact I1.fpOk (aa8 _) (I1.hok.fresh (aa8 _))
def v5(ta:TA):TI:=fun σ H R=>ta σ H fun vs H1=>∃i j:Int,vs=[.int i,.int j]∧R (tu i (j - i).toNat) H1
theorem j8{a b:Expr}{ta:TA}{p pos:Pos}(hg:Gl X "range")(hm:X.mg "range"=none)(ha:PA X [a,b] ta)(hs:starEach [a,b] X.env=[(false,eval a X.env),(false,eval b X.env)]:=by rfl)(hs2:starEach [b] X.env=[(false,eval b X.env)]:=by rfl):
  PI X tg (.Call (.Name "range" p) [a,b] [] pos) (v5 ta):=by
 intro pins s σ H R I h;refine Call_ (cb I hg hm boot_range (PyProof.Rows.callWith_type1 (bz (ha pos pins s σ H _ I h) fun us s1 ⟨vs,H1,I1,r1,q1⟩=>?_) (by rw [hs,hs2]) (by rw [hs2];rfl)));obtain⟨i,j,e,q⟩:=q1;subst e
 cases r1 with
 | cons r rr=>
  cases rr with
  | cons r' rr=>
   cases rr;obtain⟨t,rfl⟩:=r;obtain⟨t',rfl⟩:=r';exact call_range_2 (uX I1 q)
end
end L2
namespace L2
open PySem PySem.Spec PyProof.Rows
abbrev Ci(P:Program)(w:World):HeapKind P w (List Int):=tupleKind (intKind P w)
section
variable {P:Program} {w:World}
abbrev vd(P:Program)(w:World)(h:Heap)(c:List Int)(a:Addr):Prop:=IsTupleKey (intKind P w) h c a
def dH(P:Program)(w:World)(h:Heap):Option (List Int)→Value→Prop
 | none,v=>v=.none
 | some c,v=>∃a,v=.ref a∧vd P w h c a
inductive bY(P:Program)(w:World)(h:Heap):List (Option (List Int))→List Value→Prop
 | nil:bY P w h [] []
 | cons {k:Option (List Int)} {v:Value} {ks:List (Option (List Int))} {vs:List Value}:dH P w h k v→bY P w h ks vs→bY P w h (k::ks) (v::vs)
def tq(P:Program)(w:World)(h:Heap)(ks:List (Option (List Int)))(a:Addr):Prop:=∃o items n,h.get? a=some o∧o.cls=.type "tuple"∧o.data=.seq items n∧bY P w h ks items.toList
variable {h h':Heap}
theorem dH.inj{x y:Option (List Int)}{v:Value}(hx:dH P w h x v)(hy:dH P w h y v):x=y:=by
 cases x with
 | none=>
  cases y with
  | none=>rfl
  | some c=>obtain⟨a,e,_⟩:=hy;rw [show v=.none from hx]at e;cases e
 | some c=>
  obtain⟨a,rfl,ha⟩:=hx
  cases y with
  | none=>have hy:Value.ref a=.none:=hy;cases hy
  | some d=>
   obtain⟨b,e,hb⟩:=hy;cases e;rw [ha.inj hb]
theorem bY.inj{x y:List (Option (List Int))}{vs:List Value}(hx:bY P w h x vs)(hy:bY P w h y vs):x=y:=by
 induction hx generalizing y with
 | nil=>cases hy;rfl
 | cons h1 _ ih=>
  cases hy with
  | cons h2 t2=>rw [h1.inj h2,ih t2]
theorem bY.length{x:List (Option (List Int))}{vs:List Value}(hx:bY P w h x vs):x.length=vs.length:=by
 induction hx with
 | nil=>rfl
 | cons _ _ ih=>simp [ih]
theorem dH.imp{k:Option (List Int)}{v:Value}(f:∀c a,vd P w h c a→vd P w h' c a)(x:dH P w h k v):dH P w h' k v:=by
 cases k with
 | none=>exact x
 | some c=>obtain⟨a,e,ha⟩:=x;exact⟨a,e,f c a ha⟩
theorem bY.imp{x:List (Option (List Int))}{vs:List Value}(f:∀c a,vd P w h c a→vd P w h' c a)(hx:bY P w h x vs):bY P w h' x vs:=by
 induction hx with
 | nil=>exact .nil
 | cons h1 _ ih=>exact .cons (h1.imp f) ih
theorem tq.typeIs{s:Shared}{ks:List (Option (List Int))}{a:Addr}(x:tq P w s.heap ks a):s.TypeIs (.ref a) "tuple":=let ⟨o,_,_,ho,hc,_⟩:=x;⟨o,ho,hc⟩
theorem tq.inj{a:Addr}{x y:List (Option (List Int))}(hx:tq P w h x a)(hy:tq P w h y a):x=y:=by
 obtain⟨o,items,n,ho,_,hd,hi⟩:=hx;obtain⟨o',items',n',ho',_,hd',hi'⟩:=hy;obtain rfl:o=o':=Option.some.inj (ho.symm.trans ho');rw [hd]at hd'
 injection hd' with h1 _
 subst h1;exact hi.inj hi'
theorem tq.keeps{ks:List (Option (List Int))}{a d:Addr}{o:Obj}{es ep}(x:tq P w h ks a)(ho:h.get? d=some o)(hd:o.data=.dict es ep)(hs:Heap.SameBut d h h'):tq P w h' ks a:=by
 obtain⟨o',items,n,ho',hc,hd',hi⟩:=x
 have hne:a≠d:=by
  rintro rfl;obtain rfl:o'=o:=Option.some.inj (ho'.symm.trans ho);rw [hd]at hd';exact nomatch hd'
 exact⟨o',items,n,(hs.2 a hne).trans ho',hc,hd',hi.imp fun c b x=>x.keeps ho hd hs⟩
def wF:Int:=reduceHash 0xFCA86420
def jO(P:Program)(w:World):Option (List Int)→Int
 | none=>wF
 | some c=>tupleKeyHash (intKind P w) c
def iH:Option (List Int)→Nat
 | none=>1
 | some c=>c.length+1
def wD(P:Program)(w:World)(ks:List (Option (List Int))):Int:=reduceHash (Builtin.Tuple.tupleHashOf (ks.map (jO P w)))
def qZ(ks:List (Option (List Int))):Nat:=(ks.map iH).sum+1
variable {A:Around} {E:Value→Shared→Prop} {s:Shared}
theorem uq{k:Option (List Int)}{v:Value}{Q:Int→Shared→Prop}(hu:A.units < cLine)(hk:dH P w s.heap k v)(q:Q (jO P w k) { s with toks:=s.toks+iH k }):wpAny (model P w) A (pyHash v) Q E s:=by
 cases k with
 | none=>
  have hk:v=.none:=hk;subst hk;exact PySem.W.pyHash_slot (T:="NoneType") rfl F.slot_NoneType_hash F.entry_NoneType_hash (F.args_NoneType_hash_1 _) (beq_builtin_none _) (.inr hu) (wpAny_bind (wpAny_pure (wpAny_bind (wpAny_mkInt (wpAny_pure ⟨_,_,rfl,q⟩)))))
 | some c=>
  obtain⟨a,rfl,ha⟩:=hk;exact wpAny_pyHash_tuple hu ha q
theorem A6{ks:List (Option (List Int))}{a:Addr}{Q:Int→Shared→Prop}(hu:A.units+1 < cLine)(hk:tq P w s.heap ks a)(q:Q (wD P w ks) { s with toks:=s.toks+qZ ks }):wpAny (model P w) A (pyHash (.ref a)) Q E s:=by
 have hT:=hk.typeIs;obtain⟨o,items,n,ho,_,hd,hi⟩:=hk;refine PySem.W.pyHash_slot (T:="tuple") hT F.slot_tuple_hash F.entry_tuple_hash (F.args_tuple_hash_1 _) (beq_builtin_none _) (.inr (by omega)) ?_;show wpAny _ _ (Builtin.Tuple.tupleItemsOf (.ref a) >>= _) _ _ s;refine wpAny_bind (wpAny_tupleItemsOf ho hd ?_);refine wpAny_bind ?_;rw [←ak9]
 refine wpAny_forIn_list _
  (fun rest (b:Array Int) s'=>∃done left,ks=done++left∧bY P w s.heap left rest∧b.toList=done.map (jO P w)∧s'={ s with toks:=s.toks+(done.map iH).sum })
  _ ?_ ?_ _ _ ⟨[],ks,rfl,hi,rfl,rfl⟩
 ·rintro x rest b s' ⟨done,left,rfl,hl,hb,rfl⟩
  cases hl with
  | @cons k _ ks' _ h1 hl'=>
   refine wpAny_bind (uq (A:=A.in1) (by show A.units+1 < cLine;exact hu) h1 ?_)
   first
    | exact wpAny_pure ⟨done++[k],ks',by simp,hl',by simp [hb],by simp [al9]⟩
    | exact wpAny_bind (wpAny_pure (wpAny_pure ⟨done++[k],ks',by simp,hl',by simp [hb],by simp [al9]⟩))
 ·rintro b s' ⟨done,left,rfl,hl,hb,rfl⟩
  cases hl;rw [ae3]at q;show wpAny _ _ (retInt (Builtin.Tuple.tupleHashOf b.toList)) _ _ _;rw [hb];refine wpAny_bind (wpAny_mkInt (wpAny_pure ⟨_,_,rfl,?_⟩));unfold wD qZ at q;simpa [al9]using q
theorem vd.any{P':Program}{w':World}{c:List Int}{a:Addr}(x:vd P w h c a):vd P' w' h c a:=by
 obtain⟨o,items,n,ho,hc,hd,hi⟩:=x;refine⟨o,items,n,ho,hc,hd,?_⟩;generalize items.toList=vs at hi
 induction hi with
 | nil=>exact .nil
 | cons h1 _ ih=>exact .cons h1 ih
theorem vd.isTuple{c:List Int}{a:Addr}(x:vd P w h c a):∃items,h.IsTuple a items:=by
 obtain⟨o,items,n,ho,hc,hd,_⟩:=x;exact⟨items,o,ho,hc,n,hd⟩
theorem yF{x y:Option (List Int)}{u v:Value}(hu:A.units < cLine)(hx:dH P w s.heap x u)(hy:dH P w s.heap y v):SeqAt.EqAt A s u v (decide (x=y)):=by
 cases x with
 | none=>
  have hx:u=.none:=hx;subst hx
  cases y with
  | none=>
   have hy:v=.none:=hy;subst hy;rw [decide_eq_true rfl];exact SeqAt.EqAt.same _
  | some c=>
   obtain⟨b,rfl,hb⟩:=hy;obtain⟨items,ht⟩:=hb.isTuple;rw [decide_eq_false (fun e=>by cases e)];exact SeqAt.EqAt.none_tuple ht hu
 | some c=>
  obtain⟨a,rfl,ha⟩:=hx
  cases y with
  | none=>
   have hy:v=.none:=hy;subst hy;obtain⟨items,ht⟩:=ha.isTuple;rw [decide_eq_false (fun e=>by cases e)];exact SeqAt.EqAt.tuple_none ht hu
  | some d=>
   obtain⟨b,rfl,hb⟩:=hy
   have e:decide (some c=some d)=decide (c=d):=by
    by_cases h:c=d
    ·rw [h,decide_eq_true rfl,decide_eq_true rfl]
    ·rw [decide_eq_false h,decide_eq_false (fun z=>h (Option.some.inj z))]
   rw [e];exact fun P' w' E Q q=>wpAny_eqBool_tuple hu ha.any hb.any q
theorem bY.at{x:List (Option (List Int))}{vs:List Value}(hx:bY P w h x vs){j:Nat}{v:Value}(e:vs[j]?=some v):∃k,x[j]?=some k∧dH P w h k v:=by
 induction hx generalizing j with
 | nil=>cases e
 | cons h1 _ ih=>
  cases j with
  | zero=>cases e;exact⟨_,rfl,h1⟩
  | succ j=>exact ih e
theorem pe{α:Type}[DecidableEq α]:∀(x y:List α),((List.range (min x.length y.length)).all (fun j=>decide (x[j]?=y[j]?)) && x.length == y.length)=decide (x=y):=by
 intro x y;rw [af9,ag3,aj4,decide_eq_true_iff]
 constructor
 ·rintro⟨h1,h2⟩
  have hl:x.length=y.length:=by simpa using h2
  refine al6 fun j=>?_
  by_cases hj:j < x.length
  ·exact of_decide_eq_true (h1 j (ak5.mpr (by omega)))
  ·rw [ae5 (by omega),ae5 (by omega)]
 ·rintro rfl
  simp
theorem DP{x y:List (Option (List Int))}{a b:Addr}{Q:Bool→Shared→Prop}(hu:A.units+1 < cLine)(hx:tq P w s.heap x a)(hy:tq P w s.heap y b)(q:Q (decide (x=y)) s):wpAny (model P w) A (eqBool (.ref a) (.ref b)) Q E s:=by
 by_cases hab:a=b
 ·subst hab
  obtain rfl:=hx.inj hy;rw [decide_eq_true rfl]at q;exact SeqAt.EqAt.same (.ref a) P w E Q q
 ·obtain⟨oa,xs,na,hoa,hca,hda,hia⟩:=hx
  obtain⟨ob,ys,nb,hob,hcb,hdb,hib⟩:=hy
  have ht:SeqAt.EqAt A s (.ref a) (.ref b) ((List.range (min xs.size ys.size)).all (fun j=>decide (x[j]?=y[j]?)) && xs.size == ys.size):=by
   refine SeqAt.EqAt.of_refs hab (SeqAt.RcAt.tuples ⟨oa,hoa,hca,na,hda⟩ ⟨ob,hob,hcb,nb,hdb⟩ (by omega) fun j j1 j2=>?_);obtain⟨k1,e1,i1⟩:=hia.at (j:=j) (v:=xs[j]) (by simp [j1]);obtain⟨k2,e2,i2⟩:=hib.at (j:=j) (v:=ys[j]) (by simp [j2])
   have e:decide (x[j]?=y[j]?)=decide (k1=k2):=by
    rw [e1,e2]
    by_cases h:k1=k2
    ·rw [h,decide_eq_true rfl,decide_eq_true rfl]
    ·rw [decide_eq_false h,decide_eq_false (fun z=>h (Option.some.inj z))]
   rw [e];exact yF (A:=A.in1) (by show A.units+1 < cLine;exact hu) i1 i2
  have lx:xs.size=x.length:=by rw [hia.length];simp
  have ly:ys.size=y.length:=by rw [hib.length];simp
  rw [lx,ly,pe]at ht;exact ht P w E Q q
theorem ym{n:Nat}{ks:List Int}{a:Addr}{Q:Bool→Shared→Prop}(hk:vd P w s.heap ks a)(q:Q true s):wpAny (model P w) A (eqIsQuiet (n+1) (.ref a)) Q E s:=by
 have hT:=hk.typeIs;obtain⟨o,items,n,ho,_,hd,hi⟩:=hk;unfold eqIsQuiet;refine wpAny_bind (wpAny_specialOf hT F.slot_tuple_eq.lookup ?_);show wpAny _ _ (isInstance (.ref a) (.type "tuple") >>= _) _ _ s;refine wpAny_bind (wpAny_isInstance hT isSubtype_tuple_tuple ?_);simp only [am0,ac7,if_false];refine wpAny_bind (wpAny_seqItems ho hd ?_);refine wpAny_bind ?_;show wpAny _ _ (forIn items _ _) _ _ s;rw [←ak9];refine wpAny_forIn_list _ (fun rest r s'=>r.1=none∧s'=s∧∀v∈rest,carriedByValue v=true) _ ?_ ?_ _ _ ⟨rfl,rfl,hi.byValue⟩
 ·rintro v rest r s' ⟨hr,rfl,hall⟩
  rw [eqIsQuiet_byValue _ (hall v ad4)];refine wpAny_bind (wpAny_pure ?_);simp only [am0,ac7,if_false];exact wpAny_pure ⟨rfl,rfl,fun u hu'=>hall u (ad6 _ hu')⟩
 ·rintro⟨r1,r2⟩ s' ⟨hr,rfl,_⟩
  simp only at hr;subst hr;exact wpAny_pure q
theorem yR{ks:List (Option (List Int))}{a:Addr}{Q:Bool→Shared→Prop}(hk:tq P w s.heap ks a)(q:Q true s):wpAny (model P w) A (eqIsQuiet 8 (.ref a)) Q E s:=by
 have hT:=hk.typeIs;obtain⟨o,items,n,ho,_,hd,hi⟩:=hk;unfold eqIsQuiet;refine wpAny_bind (wpAny_specialOf hT F.slot_tuple_eq.lookup ?_);show wpAny _ _ (isInstance (.ref a) (.type "tuple") >>= _) _ _ s;refine wpAny_bind (wpAny_isInstance hT isSubtype_tuple_tuple ?_);simp only [am0,ac7,if_false];refine wpAny_bind (wpAny_seqItems ho hd ?_);refine wpAny_bind ?_;show wpAny _ _ (forIn items _ _) _ _ s;rw [←ak9];refine wpAny_forIn_list _ (fun rest r s'=>r.1=none∧s'=s∧∃ks',bY P w s.heap ks' rest) _ ?_ ?_ _ _ ⟨rfl,rfl,ks,hi⟩
 ·rintro v rest r s' ⟨hr,rfl,ks',hall⟩
  cases hall with
  | @cons k _ ks2 _ h1 h2=>
   have go:wpAny (model P w) A (eqIsQuiet 7 v) (fun b s2=>b=true∧s2=s') E s':=by
    cases k with
    | none=>
     have h1:v=.none:=h1;subst h1;rw [eqIsQuiet_byValue _ rfl];exact wpAny_pure ⟨rfl,rfl⟩
    | some c=>
     obtain⟨b,rfl,hb⟩:=h1;exact ym (n:=6) hb ⟨rfl,rfl⟩
   refine wpAny_bind (wpAny_mono go (fun b s2 ⟨e1,e2⟩=>?_) fun _ _ x=>x);subst e1 e2;simp only [am0,ac7,if_false];exact wpAny_pure ⟨rfl,rfl,ks2,h2⟩
 ·rintro⟨r1,r2⟩ s' ⟨hr,rfl,_⟩
  simp only at hr;subst hr;exact wpAny_pure q
end
def CF(P:Program)(w:World):HeapKind P w (List (Option (List Int))) where
 is:=tq P w
 hash:=wD P w
 draws:=qZ
 room:=fun A=>A.units+1 < cLine
 inj:=fun hx hy=>hx.inj hy
 keeps:=fun x ho hd hs=>x.keeps ho hd hs
 pyHash:=fun hu hk h=>A6 hu hk h
 eqBool:=fun hu hx hy h=>DP hu hx hy h
 quiet:=fun hk h=>yR hk h
end L2
namespace L2
open PySem PySem.Spec PyProof.Rows
structure KK(P:Program)(w:World)(κ:Type)[DecidableEq κ] where
 knd:HeapKind P w κ
 at_:Hp→κ→Addr→Prop
 same:∀{H H':Hp} {k:κ} {a:Addr},au H H'→at_ H k a→at_ H' k a
 upd_:∀{H:Hp} {k:κ} {a z:Addr} {o:HO},at_ H k a→(∀vs,H z≠some (.tup vs))→at_ (upd H z o) k a
 is_:∀{H:Hp} {h:Heap} {k:κ} {a:Addr},gj P w H h→at_ H k a→knd.is h k a
 room:∀{A:Around},A.units+2 < cLine→knd.room A.in1
def kH{κ:Type}(x:κ×Addr×V)(y:κ×Addr×Value):Prop:=x.1=y.1∧x.2.1=y.2.1∧aF x.2.2 y.2.2
section
variable {P:Program} {w:World} {κ:Type} [DecidableEq κ] (kk:KK P w κ)
def dO(d:Addr)(xs:List (κ×Addr×V)):HO:=.ext fun h=>(d == sysModules)=false∧∃o es ep ys,h.get? d=some o∧o.ExactDict∧o.data=.dict es ep∧es.toList=ys.map (entryOfKey kk.knd)∧Paired kH xs ys
structure aP(H:Hp)(d:Addr)(xs:List (κ×Addr×V)):Prop where
 ob:H d=some (dO kk d xs)
 ks:∀x∈xs,kk.at_ H x.1 x.2.1
 nd:(xs.map (·.1)).Nodup
 sz:xs.length≤100000
def di(xs:List (κ×Addr×V))(k:κ):Option V:=(xs.find? fun x=>decide (x.1=k)).map (·.2.2)
def cP(xs:List (κ×Addr×V))(k:κ)(a:Addr)(v:V):List (κ×Addr×V):=if (di xs k).isSome then xs.map (fun x=>if x.1=k then(x.1,x.2.1,v)else x)else xs++[(k,a,v)]
variable {kk}
theorem aP.same{H H':Hp}{d:Addr}{xs:List (κ×Addr×V)}(h:aP kk H d xs)(s:au H H'):aP kk H' d xs:=⟨s _ _ h.ob,fun x hx=>kk.same s (h.ks x hx),h.nd,h.sz⟩
theorem Paired.len'{α β:Type}{F:α→β→Prop}{l:List α}{m:List β}(h:Paired F l m):l.length=m.length:=Paired.length h
theorem yN{xs:List (κ×Addr×V)}{ys:List (κ×Addr×Value)}(h:Paired kH xs ys):xs.map (·.1)=ys.map (·.1):=by
 induction h with
 | nil=>rfl
 | cons r _ ih=>rw [ad1,ad1,ih,r.1]
theorem mD{xs:List (κ×Addr×V)}{ys:List (κ×Addr×Value)}(h:Paired kH xs ys)(k:κ):(di xs k=none∧atKey ys k=none)∨∃v p,di xs k=some v∧atKey ys k=some p∧aF v p.2:=by
 induction h with
 | nil=>exact .inl ⟨rfl,rfl⟩
 | @cons x y xs ys r _ ih=>
  unfold di atKey at ih ⊢;rw [ak2,ak2,←r.1]
  by_cases hk:x.1=k
  ·rw [decide_eq_true hk]
   exact .inr ⟨_,_,rfl,rfl,r.2.2⟩
  ·rw [decide_eq_false hk]
   exact ih
theorem rM{xs:List (κ×Addr×V)}{ys:List (κ×Addr×Value)}(h:Paired kH xs ys){k:κ}{a:Addr}{v:V}{u:Value}(r:aF v u):Paired kH (cP xs k a v) (storedH ys k a u):=by
 rcases mD h k with⟨h1,h2⟩ | ⟨v',p,h1,h2,_⟩
 ·rw [storedH_new h2]
  unfold cP;rw [h1];show Paired kH (xs++[(k,a,v)]) (ys++[(k,a,u)]);clear h1 h2
  induction h with
  | nil=>exact .cons ⟨rfl,rfl,r⟩ .nil
  | cons r' _ ih=>exact .cons r' ih
 ·rw [storedH_old h2]
  unfold cP;rw [h1];show Paired kH (xs.map _) (ys.map _);clear h1 h2
  induction h with
  | nil=>exact .nil
  | @cons x y xs ys r' _ ih=>
   rw [ad1,ad1];refine .cons ?_ ih;unfold putAt;rw [←r'.1]
   by_cases hk:x.1=k
   ·rw [if_pos hk,if_pos hk]
    exact⟨rfl,r'.2.1,r⟩
   ·rw [if_neg hk,if_neg hk]
    exact r'
variable {X:Cx} {pins:List (Addr×Obj)} {σ:St} {H:Hp} {s:Shared} {d a:Addr} {xs:List (κ×Addr×V)} {k:κ} {A:Around} {E:Value→Shared→Prop}
theorem eX{h:Heap}(ok:gj P w H h)(D:aP kk H d xs):(d == sysModules)=false∧∃ys,h.DictOfH kk.knd d ys∧Paired kH xs ys:=by
 obtain⟨⟨hd,o,es,ep,ys,ho,hx,hda,he,hp⟩,_⟩:=ok d _ D.ob;refine⟨hd,ys,⟨o,es,ep,ho,hx,hda,he,fun y hy=>?_,by rw [←yN hp];exact D.nd⟩,hp⟩
 have:∀(xs:List (κ×Addr×V)) (ys:List (κ×Addr×Value)),Paired kH xs ys→(∀x∈xs,kk.at_ H x.1 x.2.1)→∀y∈ys,kk.at_ H y.1 y.2.1:=by
  intro xs ys h
  induction h with
  | nil=>intro _ y hy;cases hy
  | @cons x y xs ys r _ ih=>
   intro hk y' hy;rcases ab6.mp hy with rfl | hy
   ·have:=hk x (by simp)
    rw [r.1,r.2.1]at this;exact this
   ·exact ih (fun x hx=>hk x (by simp [hx])) y' hy
 exact kk.is_ ok (this xs ys hp D.ks y hy)
theorem az.sysB(I:az X pins σ H s):sysModules < s.heap.objs.size:=Nat.lt_trans (by decide) (I.mod.glob.keeps I.bk).lt
variable {kk':KK X.prog X.w κ}
theorem sf{h':Heap}{t':Nat}{v:V}{u:Value}{ys:List (κ×Addr×Value)}(I:az X pins σ H s)(D:aP kk' H d xs)(hd:(d == sysModules)=false)(hp:Paired kH xs ys)(r:aF v u)(dd:h'.DictOfH kk'.knd d (storedH ys k a u))(hs:Heap.SameBut d s.heap h'):
  az X pins σ (upd H d (dO kk' d (cP xs k a v))) { s with heap:=h',toks:=t' }:=by
 obtain⟨o,es,ep,ho,hx,hda,he,_,_⟩:=dd;refine I.write (x:=d) (e:=d) (by rw [D.ob];trivial) (.inl rfl) (fun b ob hb q=>?_) ⟨o,ho⟩ ⟨⟨hd,o,es,ep,_,ho,hx,hda,he,rM hp r⟩,⟨o,ho⟩,?_⟩
 ·rw [hs.2 b hb]
  exact q
 ·rintro h1 h2 ⟨g1,o',es',ep',ys',ho',r'⟩ keep
  exact⟨g1,o',es',ep',ys',keep _ ho',r'⟩
theorem Ck{v:V}{u:Value}{Q:Unit→Shared→Prop}(hu:X.A.units+2 < cLine)(I:az X pins σ H s)(D:aP kk' H d xs)(hk:kk'.at_ H k a)(r:aF v u)(q:∀s',az X pins σ (upd H d (dO kk' d (cP xs k a v))) s'→Q () s'):
  wpAny (model X.prog X.w) X.A (setItem (.ref d) (.ref a) u) Q E s:=by
 obtain⟨hd,ys,dd,hp⟩:=eX I.hok D
 have hl:ys.length≤sizeLine:=by
  have:=D.sz
  have:=Paired.len' hp
  rw [sizeLine_eq];omega
 exact wpAny_setItem_heap (kk'.room hu) (kk'.is_ I.hok hk) dd (fun h' dd' hs=>q _ (sf I D hd hp r dd' hs)) hl
theorem zZ{Q:Bool→Shared→Prop}(hu:X.A.units+2 < cLine)(I:az X pins σ H s)(D:aP kk' H d xs)(hk:kk'.at_ H k a)(q:∀t,Q (di xs k).isSome { s with toks:=t }):
  wpAny (model X.prog X.w) X.A (contains (.ref d) (.ref a)) Q E s:=by
 obtain⟨hd,ys,dd,hp⟩:=eX I.hok D;unfold contains
 try with_reducible refine wpAny_holding ?_
 refine wpAny_bind (wpAny_specialOf dd.typeIs slot_dict_contains.lookup ?_);show wpAny _ _ (if (some (Value.builtin "dict.__contains__") == some Value.none)=true then _ else _) _ E s;rw [if_neg (by rw [beq_builtin_none];exact ab0)]
 refine wpAny_bind (wpAny_callSpecialUnlessNone?_slot (name:=Str.ofString "__contains__") dd.typeIs slot_dict_contains
  (wpAny_call_entry slot_dict_contains dd.typeIs entry_dict_contains ?_ (args_dict_contains _ _)))
 show wpAny _ _ (dictGet d (.ref a) >>= _) _ _ s;refine wpAny_bind (wpAny_dictGet_heap (kk'.room hu) (kk'.is_ I.hok hk) dd ?_);rcases mD hp k with⟨h1,h2⟩ | ⟨v,p,h1,h2,_⟩
 ·rw [h2]
  rw [h1]at q;show wpAny _ _ (Builtin.Dict.pendingKey? d (.ref a) >>= _) _ _ _;exact wpAny_bind (wpAny_pendingKey_other hd (wpAny_pure ⟨_,rfl,wpAny_truthy_bool (q _)⟩))
 ·rw [h2]
  rw [h1]at q;show wpAny _ _ (ret (.bool true)) _ _ _;exact wpAny_pure ⟨_,rfl,wpAny_truthy_bool (q _)⟩
def zL(kk:KK P w κ):R2:=fun x y H Q=>∃d a k xs,x=.ref a∧y=.ref d∧aP kk H d xs∧kk.at_ H k a∧Q (.bl (!(di xs k).isSome)) H
def C4(kk:KK P w κ):R2:=fun x y H Q=>∃d a k xs,x=.ref a∧y=.ref d∧aP kk H d xs∧kk.at_ H k a∧Q (.bl (di xs k).isSome) H
theorem wV(hu:X.A.units+2 < cLine):bZ X (compareOp .NotIn) (zL kk'):=by
 intro pins s σ H x y v u Q I rx ry h;obtain⟨d,a,k,xs,rfl,rfl,D,hk,q⟩:=h;cases rx;cases ry;show wpAny _ _ (do return Value.bool (!(←contains (.ref d) (.ref a))):Sem Value) _ _ s;exact wpAny_bind (zZ hu I D hk fun t=>wpAny_pure ⟨.bl (!(di xs k).isSome),H,I.tok t,rfl,q⟩)
theorem CL(hu:X.A.units+2 < cLine):bZ X (compareOp .In) (C4 kk'):=by
 intro pins s σ H x y v u Q I rx ry h;obtain⟨d,a,k,xs,rfl,rfl,D,hk,q⟩:=h;cases rx;cases ry;show wpAny _ _ (do return Value.bool (←contains (.ref d) (.ref a)):Sem Value) _ _ s;exact wpAny_bind (zZ hu I D hk fun t=>wpAny_pure ⟨.bl (di xs k).isSome,H,I.tok t,rfl,q⟩)
def DU(kk:KK P w κ):R2:=fun x y H Q=>∃d a k xs v,x=.ref d∧y=.ref a∧aP kk H d xs∧kk.at_ H k a∧di xs k=some v∧Q v H
theorem ixD(hu:X.A.units+2 < cLine):ve X (DU kk'):=by
 intro value slice pins s σ H x y v u Q I rx ry h hs;obtain⟨d,a,k,xs,z,rfl,rfl,D,hk,hv,q⟩:=h;cases rx;cases ry;obtain⟨hd,ys,dd,hp⟩:=eX I.hok D;have hT:s.TypeIs (.ref d) "dict":=dd.typeIs;rcases mD hp k with⟨h1,_⟩ | ⟨v',p,h1,h2,r⟩
 ·rw [h1]at hv;cases hv
 rw [h1]at hv;cases hv;unfold subscriptTail;refine wpAny_bind ?_;rw [getitemInPython_of_ne hT.not_modules];refine wpAny_bind (wpAny_specialOf hT PySem.F.slot_dict_getitem.lookup ?_)
 have fin:wpAny (model X.prog X.w) X.A (subscripted slice false (.ref d) (.ref a)) (fun r s₃=>wpAny (model X.prog X.w) X.A (letTemporaryGo value (.ref d) r >>= fun _=>pure r) (EP X pins σ Q) X.xe s₃) X.xe s:=by
  rw [hs];exact wpAny_operating (wpAny_getItem_heap (kk'.room hu) (kk'.is_ I.hok hk) dd h2 (wpAny_bind (wpAny_letTemporaryGo (wpAny_pure ⟨z,H,I.tok _,r,q⟩))))
 first
  | exact wpAny_pure (wpAny_bind fin)
  | exact wpAny_bind (wpAny_pure (wpAny_bind fin))
  | exact wpAny_bind fin
def C7(kk:KK P w κ):yi:=fun o i v H Q=>∃d a k xs,o=.ref d∧i=.ref a∧aP kk H d xs∧kk.at_ H k a∧Q (upd H d (dO kk d (cP xs k a v)))
theorem BA(hu:X.A.units+2 < cLine):AH X (C7 kk'):=by
 intro pins s σ H o i v ov iv u Q I ro ri rv h;obtain⟨d,a,k,xs,rfl,rfl,D,hk,q⟩:=h;cases ro;cases ri;exact Ck hu I D hk rv fun s' I'=>⟨_,I',q⟩
def Ar(kk:KK P w κ):V→List V→Hp→VK→Prop:=fun x vs H Q=>∃d a k xs,x=.ref d∧vs=[.ref a]∧aP kk H d xs∧kk.at_ H k a∧Q ((di xs k).getD .non) H
theorem yP(hu:X.A.units+2 < cLine):vf X "dict.get" (Ar kk'):=by
 intro pins s σ H x vs v us Q I rx rv h;obtain⟨d,a,k,xs,rfl,rfl,D,hk,q⟩:=h;cases rx;obtain⟨u,rfl,ru⟩:=rv.one;cases ru;obtain⟨hd,ys,dd,hp⟩:=eX I.hok D;refine call_meetsIn PySem.F.slot_dict_get dd.typeIs PySem.F.entry_dict_get (PySem.F.args_dict_get_2 _ _) (meetsH_dict_get kk'.knd d a hd) ⟨kk'.room hu,k,ys,kk'.is_ I.hok hk,dd,?_⟩;rcases mD hp k with⟨h1,h2⟩ | ⟨v',p,h1,h2,r⟩
 ·rw [h1]at q
  rw [h2];exact⟨.non,H,I.tok _,rfl,q⟩
 ·rw [h1]at q
  rw [h2];exact⟨v',H,I.tok _,r,q⟩
def Aw(kk:KK P w κ)(to:TE)(t:TA):TE:=fun σ H Q=>to σ H fun x H1=>(∃d xs,x=.ref d∧aP kk H1 d xs)∧t σ H1 fun vs H2=>Ar kk x vs H2 Q
theorem zg{o e:Expr}{to:TE}{t:TA}{apos cpos:Pos}(hu:X.A.units+2 < cLine)(ho:PE X o to)(ha:PA X [e] t)(hbase:attributeBase o "get" X.env (eval o X.env)=eval o X.env:=by rfl)
  (hfew:((backTo cpos (starEach [e] X.env)).all (fun x=>!x.1) && (backToKw cpos (keywordEach [] X.env)).all (fun x=>x.1.isSome)
   && decide (([e]:List Expr).length+([]:List Keyword).length+(if ([]:List Keyword).isEmpty then 0 else 1) < 30))=true:=by rfl)
  (hline:(apos.endLine == cpos.line)=true:=by rfl) (hs:starEach [e] X.env=(false,eval e X.env)::starEach [] X.env:=by rfl) (hplain:(backTo cpos (starEach [] X.env)).any (·.1)=false:=by rfl) :
  PE X (.Call (.Attribute o "get" apos) [e] [] cpos) (Aw kk' to t):=by
 intro pins s σ H Q I h;refine wpAny_Call_method_late hbase hfew hline rfl (bz (ho pins s σ H _ I h) fun v s1 ⟨x,H1,I1,r1,⟨d,xs,ex,D⟩,q1⟩=>?_);subst ex;cases r1;obtain⟨_,ys,dd,_⟩:=eX I1.hok D;refine⟨"dict","dict.get",PySem.F.plainAttrs_dict,PySem.F.slot_dict_get,PySem.F.type_dict_get,dd.typeIs,fun a e=>?_,?_⟩
 ·cases e
  obtain⟨ob,_,_,h1,h2,_⟩:=dd;exact⟨ob,h1,h2.2.1⟩
 have hA:=ha cpos pins s1 σ H1 _ I1 q1;rw [hs]at hA ⊢
 refine Calls.callWith_builtin (by show(false || (backTo cpos (starEach [] X.env)).any (·.1))=false;rw [hplain]<;>rfl) (Calls.evalArgs_plain ?_)
 exact bz hA fun us s2 ⟨vs,H2,I2,r2,q2⟩=>yP hu pins s2 σ H2 (.ref d) vs _ us Q I2 rfl r2 q2
theorem vz(kk:KK P w κ){h:Heap}(hb:sysModules < h.objs.size){H:Hp}:br P w H (h.push { cls:=.type "dict",data:=.dict #[] }) h.objs.size (dO kk h.objs.size []):=by
 refine⟨⟨beq_eq_false_iff_ne.mpr (Ne.symm (ab1 hb)),_,#[],0,[],aa6 _ rfl,⟨rfl,rfl,rfl⟩,rfl,rfl,.nil⟩,⟨_,aa6 _ rfl⟩,?_⟩;rintro h1 h2 ⟨g1,o',es',ep',ys',ho',r'⟩ keep;exact⟨g1,o',es',ep',ys',keep _ ho',r'⟩
def xO(kk:KK P w κ):TE:=fun _ H Q=>∀p,H p=none→Q (.ref p) (upd H p (dO kk p []))
theorem sG{pos:Pos}:PE X (.Dict [] [] pos) (xO kk'):=fun pins s σ H Q I h=>
 wpAny_Dict_empty ⟨.ref s.heap.objs.size,_,I.laid (a:=s.heap.objs.size) (o:=dO kk' s.heap.objs.size []) (t':=s.toks) (fun _ _ q=>aa3 _ q) (aa8 _) (vz kk' I.sysB),rfl,h _ (I.hok.fresh (aa8 _))⟩
def Ay(kk:KK P w κ)(tk tv:TE):TE:=fun σ H Q=>∀p,H p=none→tk σ (upd H p (dO kk p [])) fun x H1=>tv σ H1 fun v H2=>H2 p=some (dO kk p [])∧∃a k,x=.ref a∧kk.at_ H2 k a∧Q (.ref p) (upd H2 p (dO kk p [(k,a,v)]))
theorem zm{pos:Pos}{e1 e2:Expr}{tk tv:TE}(hu:X.A.units+2 < cLine)(h1:PE X e1 tk)(h2:PE X e2 tv)(hr:∀{B:Around},B.units=X.A.units→kk'.knd.room B):PE X (.Dict [some e1] [e2] pos) (Ay kk' tk tv):=by
 intro pins s σ H Q I h;have hn:=I.hok.fresh (aa8 s.heap.objs.size);have I1:=I.laid (a:=s.heap.objs.size) (o:=dO kk' s.heap.objs.size []) (h':=s.heap.push { cls:=.type "dict",data:=.dict #[] }) (t':=s.toks) (fun _ _ q=>aa3 _ q) (aa8 _) (vz kk' I.sysB);rw [arm_eval_Dict,zip_pairTrees [some e1] [e2] X.env pos rfl rfl,dictDisplay_pairs (pairTrees [some e1] [e2] X.env pos) (by simp [pairTrees]) (by simp [pairTrees])];refine wpAny_bind (wpAny_standAt (wpAny_bind ?_));unfold subDict;refine wpAny_bind (wpAny_alloc ?_);refine wpAny_bind (wpAny_holding ?_);rw [if_pos (by simp [pairTrees])];refine wpAny_bind (pairTrees_cons_walk (bz (h1 pins _ σ _ _ I1 (h _ hn)) fun u s1 ⟨x,H1,I1,rx,q1⟩=>bz (h2 pins s1 σ H1 _ I1 q1) fun w2 s2 ⟨v,H2,I2,rv,hob,a,k,ex,hk,q2⟩=>pairTrees_nil_walk ?_));subst ex;cases rx;have D:aP kk' H2 s.heap.objs.size []:=⟨hob,(fun _ z=>nomatch z),List.nodup_nil,ad0 _⟩;obtain⟨hd,ys,dd,hp⟩:=eX I2.hok D;cases hp;refine wpAny_holding ?_;refine wpAny_bind ?_;rw [af5];refine wpAny_bind (wpAny_bind (wpAny_dictSet_heap (hr rfl) (kk'.is_ I2.hok hk) dd (fun h' dd' hs=>wpAny_pure ?_) (ad0 _)));show wpAny _ _ (forIn [] _ _) _ _ _;rw [ai9];exact wpAny_pure (wpAny_pure (wpAny_pure (wpAny_pure ⟨.ref s.heap.objs.size,_,sf I2 D hd .nil rv dd' hs,rfl,q2⟩)))
end
theorem oQ{P:Program}{w:World}:∀{c:List Int} {its:List Value},aH (c.map V.int) its→ItemsAre (intKind P w) c its
 | [],_,r=>by cases r;exact .nil
 | i::c,_,r=>by
  rw [ad1]at r
  cases r with
  | cons r rr=>
   obtain⟨t,rfl⟩:=r;exact .cons (by show Value.isInt i (.int i t)=true;simp [Value.isInt]) (oQ rr)
theorem v8{P:Program}{w:World}{H:Hp}{h:Heap}{c:List Int}{a:Addr}(ok:gj P w H h)(e:H a=some (.tup (c.map V.int))):vd P w h c a:=by
 obtain⟨_,its,r,o,ho,hc,n,hd⟩:=ok a _ e;exact⟨o,its.toArray,n,ho,hc,hd,oQ (by simpa using r)⟩
def og(P:Program)(w:World):KK P w (List Int) where
 knd:=Ci P w
 at_:=fun H c a=>H a=some (.tup (c.map V.int))
 same:=fun s h=>s _ _ h
 upd_:=fun h hz=>by rw [ai (fun e=>hz _ (by rw [←e];exact h))];exact h
 is_:=fun ok e=>v8 ok e
 room:=fun hu=>by show _+1 < cLine;omega
def jN(H:Hp):Option (List Int)→V→Prop
 | none,v=>v=.non
 | some c,v=>∃a,v=.ref a∧H a=some (.tup (c.map V.int))
def BR(H:Hp):List (Option (List Int))→List V→Prop
 | [],[]=>True
 | k::ks,v::vs=>jN H k v∧BR H ks vs
 | _,_=>False
theorem jN.imp{H H':Hp}{k:Option (List Int)}{v:V}(f:∀a c,H a=some (.tup (List.map V.int c))→H' a=some (.tup (List.map V.int c)))(h:jN H k v):jN H' k v:=by
 cases k with
 | none=>exact h
 | some c=>obtain⟨a,e,ha⟩:=h;exact⟨a,e,f a c ha⟩
theorem BR.imp{H H':Hp}(f:∀a c,H a=some (.tup (List.map V.int c))→H' a=some (.tup (List.map V.int c))):∀{ks:List (Option (List Int))} {vs:List V},BR H ks vs→BR H' ks vs
 | [],[],_=>True.intro
 | _::_,_::_,⟨h1,h2⟩=>⟨h1.imp f,h2.imp f⟩
theorem lR{P:Program}{w:World}{H:Hp}{h:Heap}(ok:gj P w H h):∀{ks:List (Option (List Int))} {vs:List V} {its:List Value},BR H ks vs→aH vs its→bY P w h ks its
 | [],[],_,_,r=>by cases r;exact .nil
 | k::ks,v::vs,_,⟨h1,h2⟩,r=>by
  cases r with
  | cons r rr=>
   refine .cons ?_ (lR ok h2 rr)
   cases k with
   | none=>
    have h1:v=.non:=h1;subst h1;exact r
   | some c=>
    obtain⟨a,rfl,ha⟩:=h1;exact⟨a,r,v8 ok ha⟩
def fk(P:Program)(w:World):KK P w (List (Option (List Int))) where
 knd:=CF P w
 at_:=fun H ks a=>∃vs,H a=some (.tup vs)∧BR H ks vs
 same:=fun s ⟨vs,e,h⟩=>⟨vs,s _ _ e,h.imp fun _ _ z=>s _ _ z⟩
 upd_:=fun {H k a z o} ⟨vs,e,h⟩ hz=>by
  have f:∀b ws,H b=some (.tup ws)→upd H z o b=some (.tup ws):=fun b ws hb=>by rw [ai (fun q=>hz _ (by rw [←q];exact hb))];exact hb
  exact⟨vs,f _ _ e,h.imp fun _ _ q=>f _ _ q⟩
 is_:=fun {H h k a} ok ⟨vs,e,hn⟩=>by
  obtain⟨_,its,r,o,ho,hc,n,hd⟩:=ok a _ e;exact⟨o,its.toArray,n,ho,hc,hd,by simpa using lR ok hn r⟩
 room:=fun hu=>by show _+1+1 < cLine;omega
theorem A7{P:Program}{w:World}{A B:Around}(hu:A.units+2 < cLine)(e:B.units=A.units):(fk P w).knd.room B:=by show B.units+1 < cLine;omega
theorem kG{A:Around}{k:Nat}(hr:bV k A):A.units+2 < cLine:=ad5 (Nat.add_le_add_left (by decide:2≤64) _) hr.units
section
variable {P:Program} {w:World} {κ:Type} [DecidableEq κ] {kk:KK P w κ} {H:Hp} {d a:Addr} {xs:List (κ×Addr×V)} {k:κ} {v:V}
theorem uS:(cP xs k a v).map (·.1)=if (di xs k).isSome then xs.map (·.1)else xs.map (·.1)++[k]:=by
 unfold cP
 split
 ·rw [ai1]
  refine ai4 fun x _=>?_;show(if x.1=k then(x.1,x.2.1,v)else x).1=x.1
  split<;>rfl
 ·rw [ab4];rfl
theorem mC(h:di xs k=none):k∉xs.map (·.1):=by
 intro hm;obtain⟨x,hx,rfl⟩:=ac3.mp hm;unfold di at h
 cases e:xs.find? fun y=>decide (y.1=x.1)with
 | none=>exact absurd (List.find?_eq_none.mp e x hx) (by simp)
 | some y=>rw [e]at h;cases h
theorem aP.put(D:aP kk H d xs)(hk:kk.at_ H k a)(hl:xs.length < 100000):aP kk (upd H d (dO kk d (cP xs k a v))) d (cP xs k a v):=by
 have nt:∀vs,H d≠some (.tup vs):=fun vs e=>by rw [D.ob]at e;cases e
 refine⟨ag,fun x hx=>?_,?_,?_⟩
 ·refine kk.upd_ ?_ nt
  unfold cP at hx
  split at hx
  ·obtain⟨y,hy,rfl⟩:=ac3.mp hx
   have:=D.ks y hy
   show kk.at_ H (if y.1=k then(y.1,y.2.1,v)else y).1 (if y.1=k then(y.1,y.2.1,v)else y).2.1
   split<;>exact this
  ·rcases ad7.mp hx with hx | hx
   ·exact D.ks x hx
   ·rw [ab7.mp hx];exact hk
 ·rw [uS]
  cases e:di xs k with
  | none=>
   show(xs.map (·.1)++[k]).Nodup
   refine al7.mpr ⟨D.nd,by simp,fun x hx y hy=>?_⟩;rw [ab7.mp hy];rintro rfl;exact mC e hx
  | some z=>exact D.nd
 ·unfold cP
  split
  ·rw [aa0];omega
  ·rw [ab3];simp;omega
theorem aP.upd{z:Addr}{o:HO}(D:aP kk H d xs)(hz:d≠z)(nt:∀vs,H z≠some (.tup vs)):aP kk (upd H z o) d xs:=⟨by rw [ai hz];exact D.ob,fun x hx=>kk.upd_ (D.ks x hx) nt,D.nd,D.sz⟩
theorem eW:di (cP xs k a v) k=some v:=by
 unfold cP
 cases e:di xs k with
 | none=>
  show di (xs++[(k,a,v)]) k=some v;unfold di at e ⊢;rw [List.find?_append]
  cases e2:xs.find? fun x=>decide (x.1=k)with
  | some y=>rw [e2]at e;cases e
  | none=>simp
 | some z=>
  show di (xs.map _) k=some v;have e0:=e;unfold di at e0 ⊢;rw [List.find?_map]
  have hf:(fun x:κ×Addr×V=>decide (x.1=k))∘(fun x=>if x.1=k then(x.1,x.2.1,v)else x)=fun x=>decide (x.1=k):=by
   funext x
   show decide ((if x.1=k then(x.1,x.2.1,v)else x).1=k)=decide (x.1=k)
   split<;>rfl
  rw [hf]
  cases e2:xs.find? fun x=>decide (x.1=k)with
  | none=>rw [e2]at e0;cases e0
  | some y=>
   have:y.1=k:=by have:=List.find?_some e2;simpa using this
   show some ((if y.1=k then(y.1,y.2.1,v)else y).2.2)=some v;rw [if_pos this]
theorem dE{k':κ}(h:k'≠k):di (cP xs k a v) k'=di xs k':=by
 unfold cP
 split
 ·unfold di
  rw [List.find?_map]
  have hf:(fun x:κ×Addr×V=>decide (x.1=k'))∘(fun x=>if x.1=k then(x.1,x.2.1,v)else x)=fun x=>decide (x.1=k'):=by
   funext x
   show decide ((if x.1=k then(x.1,x.2.1,v)else x).1=k')=decide (x.1=k')
   split<;>rfl
  rw [hf]
  cases e2:xs.find? fun x=>decide (x.1=k')with
  | none=>rfl
  | some y=>
   have hy:y.1=k':=by have:=List.find?_some e2;simpa using this
   show some ((if y.1=k then(y.1,y.2.1,v)else y).2.2)=some y.2.2;rw [if_neg (by rw [hy];exact h)]
 ·unfold di
  rw [List.find?_append]
  cases e2:xs.find? fun x=>decide (x.1=k')with
  | some y=>rfl
  | none=>
   have:decide (k=k')=false:=decide_eq_false (fun z=>h z.symm)
   simp [this]
end
end L2
namespace L2
open PySem PySem.Spec PyProof.Rows
def u4:List (Option Int)→Option (List Int)
 | []=>some []
 | none::_=>none
 | some x::l=>(u4 l).map (x::·)
theorem l7:∀{l:List (Option Int)} {r:List Int},l=r.map some→u4 l=some r
 | [],[],_=>rfl
 | [],_::_,h=>by cases h
 | x::l,[],h=>by cases h
 | x::l,y::r,h=>by
  rw [ad1]at h;cases h
  show(u4 (r.map some)).map (y::·)=_
  rw [l7 rfl];rfl
theorem l6:∀{l:List (Option Int)} {i:Nat},l[i]?=some none→u4 l=none
 | [],_,h=>by cases h
 | none::_,_,_=>rfl
 | some x::l,0,h=>by cases h
 | some x::l,i+1,h=>by
  show(u4 l).map (x::·)=none
  rw [l6 (l:=l) (i:=i) h];rfl
def nM(Ss:List aT)(ms:List Int)(b:Option (List Int))(c:List Int):List (Option Int):=List.zipWith (fun S m=>S.after m b c) Ss ms
def gf(Ss:List aT)(ms:List Int)(b:Option (List Int))(c:List Int):Option (List Int):=u4 (nM Ss ms b c)
def cc(Ss:List aT)(ms:List Int)(b:Option (List Int)):Bool:=(List.zipWith (fun S m=>S.closes m b) Ss ms).all id
abbrev MS:=Option (List Int)×List Int
def aJ(Ss:List aT)(s:MS)(c:List Int):Option MS:=(gf Ss s.2 s.1 c).map fun ms=>(some c,ms)
def bj(s:MS):List (Option (List Int)):=[s.1,some s.2]
theorem lT{s t:MS}(h:bj s=bj t):s=t:=by
 obtain⟨a,b⟩:=s;obtain⟨c,d⟩:=t;unfold bj at h;simp at h;rw [h.1,h.2]
def cJ(Ss:List aT)(cols:List (List Int))(met:List MS)(s:MS)(xs:List (List Int×Addr×V)):Prop:=
 (∀c∈cols,∀s',aJ Ss s c=some s'→∃j:Nat,met[j]?=some s'∧di xs c=some (.int j))∧(∀c,(c∈cols→aJ Ss s c=none)→di xs c=none)∧xs.map (·.1)=cols.filter fun c=>(aJ Ss s c).isSome
theorem cJ.more{Ss:List aT}{cols:List (List Int)}{met:List MS}{s:MS}{xs:List (List Int×Addr×V)}(h:cJ Ss cols met s xs)(t:List MS):cJ Ss cols (met++t) s xs:=
 ⟨fun c hc s' e=>let ⟨j,h1,h2⟩:=h.1 c hc s' e;⟨j,by rw [ab5 (aa1.mp h1).1];exact h1,h2⟩,h.2⟩
theorem cJ.put{Ss:List aT}{cols:List (List Int)}{met:List MS}{s s':MS}{xs:List (List Int×Addr×V)}{i j:Nat}{c:List Int}{a:Addr}(h:cJ Ss (cols.take i) met s xs)(hc:cols[i]?=some c)(hn:aJ Ss s c=some s')(hj:met[j]?=some s')(hnd:cols.Nodup):cJ Ss (cols.take (i+1)) met s (cP xs c a (.int j)):=by
 have et:cols.take (i+1)=cols.take i++[c]:=by rw [ab9,hc];rfl
 rw [et]
 have hct:c∉cols.take i:=fun hm=>by
  obtain⟨k,hk⟩:=af1 hm
  have hki:k < i:=by
   have:=(aa1.mp hk).1
   rw [ac6]at this;omega
  rw [List.getElem?_take,if_pos hki]at hk;obtain⟨k1,k2⟩:=aa1.mp hk;obtain⟨i1,i2⟩:=aa1.mp hc
  have:=(List.getElem_inj hnd).mp (k2.trans i2.symm)
  omega
 refine⟨?_,?_,?_⟩
 rotate_left
 rotate_left
 ·have h0:=h.2.1 c fun hm=>absurd hm hct
  unfold cP;rw [h0,ai7,←h.2.2];simp [hn]
 ·intro c' hc' t ht
  by_cases e:c'=c
  ·subst e
   rw [hn]at ht;cases ht;exact⟨j,hj,eW⟩
  ·rcases ad7.mp hc' with hc' | hc'
   ·rw [dE e]
    exact h.1 c' hc' t ht
   ·exact absurd (ab7.mp hc') e
 ·intro c' hc'
  have e:c'≠c:=fun e=>by
   have:=hc' (by rw [e];simp)
   rw [e,hn]at this;cases this
  rw [dE e];exact h.2.1 c' fun hm=>hc' (by simp [hm])
theorem cJ.skip{Ss:List aT}{cols:List (List Int)}{met:List MS}{s:MS}{xs:List (List Int×Addr×V)}{i:Nat}{c:List Int}(h:cJ Ss (cols.take i) met s xs)(hc:cols[i]?=some c)(hn:aJ Ss s c=none):cJ Ss (cols.take (i+1)) met s xs:=by
 have et:cols.take (i+1)=cols.take i++[c]:=by rw [ab9,hc];rfl
 rw [et];refine⟨?_,?_,?_⟩
 ·intro c' hc' t ht
  rcases ad7.mp hc' with hc' | hc'
  ·exact h.1 c' hc' t ht
  ·rw [ab7.mp hc',hn]at ht
   cases ht
 ·intro c' hc'
  refine h.2.1 c' fun hm=>hc' (by simp [hm])
 ·rw [ai7,←h.2.2]
  simp [hn]
def gU(met:List MS)(xs:List (List (Option (List Int))×Addr×V)):Prop:=(∀(j:Nat) (s:MS),met[j]?=some s→di xs (bj s)=some (.int j))∧∀k,di xs k≠none→∃s∈met,k=bj s
theorem gU.fresh{met:List MS}{xs:List (List (Option (List Int))×Addr×V)}{s:MS}(h:gU met xs)(e:di xs (bj s)=none):s∉met:=fun hs=>by
 obtain⟨j,hj⟩:=af1 hs;rw [h.1 j s hj]at e;cases e
theorem gU.known{met:List MS}{xs:List (List (Option (List Int))×Addr×V)}{s:MS}(h:gU met xs)(e:di xs (bj s)≠none):∃j:Nat,met[j]?=some s∧di xs (bj s)=some (.int j):=by
 obtain⟨t,ht,e2⟩:=h.2 _ e;cases lT e2;obtain⟨j,hj⟩:=af1 ht;exact⟨j,hj,h.1 j s hj⟩
theorem gU.put{met:List MS}{xs:List (List (Option (List Int))×Addr×V)}{s:MS}{a:Addr}(h:gU met xs)(hs:s∉met):gU (met++[s]) (cP xs (bj s) a (.int met.length)):=by
 constructor
 ·intro j t ht
  by_cases hj:j < met.length
  ·rw [ab5 hj]at ht
   have hne:bj t≠bj s:=fun e=>hs (by rw [←lT e];exact aa9 ht);rw [dE hne];exact h.1 j t ht
  ·rw [ab8 (by omega)]at ht
   have h0:j - met.length=0:=by
    have:=(aa1.mp ht).1
    simp at this;omega
   rw [h0]at ht;cases ht;rw [eW,show j=met.length by omega]
 ·intro k hk
  by_cases e:k=bj s
  ·exact⟨s,by simp,e⟩
  ·rw [dE e]at hk
   obtain⟨t,ht,e2⟩:=h.2 k hk;exact⟨t,by simp [ht],e2⟩
theorem jX{α:Type}[DecidableEq α]:∀(l u:List α),l.Nodup→(∀x∈l,x∈u)→l.length≤u.length
 | [],_,_,_=>ad0 _
 | x::l,u,h,hs=>by
  have hx:=hs x (by simp);have hn:=ag0.mp h
  have:=jX l (u.erase x) hn.2 fun y hy=>(List.mem_erase_of_ne (fun e=>hn.1 (by rw [←e];exact hy))).mpr (hs y (by simp [hy]))
  rw [List.length_erase_of_mem hx]at this
  have:0 < u.length:=List.length_pos_of_mem hx
  rw [ac5];omega
structure rX(Ss:List aT)(cols:List (List Int))(met:List MS):Prop where
 nd:met.Nodup
 st:met[0]?=some (none,Ss.map (·.start))
 sub:∀(i:Nat) (s:MS),met[i]?=some s→0 < i→∃(j:Nat) (t:MS) (c:List Int),j < i∧met[j]?=some t∧c∈cols∧aJ Ss t c=some s
theorem Dn{c:TT}{σ:L2.St}{H:Hp}{X Y:Hp→Prop}(h:∀A B:Hp→Prop,(∀H,X H→A H)→(∀H,Y H→B H)→c σ H fun b H1=>if b=true then A H1 else B H1):c σ H fun b H1=>if b=true then X H1 else Y H1:=h X Y (fun _ x=>x) fun _ x=>x
def om(zs:List Addr)(H H':Hp):Prop:=∀b o,b∉zs→H b=some o→H' b=some o
end L2
namespace L2
open PySem PySem.Spec PyProof.Rows
theorem az.laidN{X:Cx}{pins:List (Addr×Obj)}{σ:St}{H H':Hp}{s:Shared}{h':Heap}{t':Nat}(I:az X pins σ H s)(k:∀b u,s.heap.get? b=some u→h'.get? b=some u)(old:∀b,b < s.heap.objs.size→H' b=H b)
  (new:∀b o,s.heap.objs.size≤b→H' b=some o→br X.prog X.w H' h' b o):az X pins σ H' { s with heap:=h',toks:=t' }:=by
 have sm:∀b o,H b=some o→H' b=some o:=fun b o e=>by rw [old b (I.hok b o e).lt];exact e
 refine I.un ⟨fun b u q _ _ _=>k b u q,fun b u q _ _ _=>⟨u.slots,k b u q⟩,fun b u q n _=>by rw [old b (aa5 q)];exact n,fun b u q _=>⟨u,k b u q⟩,fun b xs q=>sm b _ q,fun b u v q=>sm b _ q,fun b ps q=>⟨#[],by rw [sm b _ q];simp⟩⟩ fun b o e=>?_
 by_cases hb:b < s.heap.objs.size
 ·rw [old b hb]at e
  exact(I.hok b o e).stay (fun c v _ q=>k c v q) (fun c q=>sm c _ q) fun c xs q=>sm c _ q
 ·exact new b o (aj3 hb) e
def ya(h:Heap)(d:Addr)(es:Array DictEntry)(ep:Nat):Prop:=∃o,h.get? d=some o∧o.data=.dict es ep
def fq(h:Heap)(it d:Addr)(i n ep:Nat):Prop:=∃(z ok ov:Value) (f:Bool),h.get? it=some { cls:=.type "dict_itemiterator",data:=.fields #[z,.bool f,.ref d,.int i 0,.int n 0,.int ep 0,ok,ov] }∧((z=.none∧f=false)∨∃a oa,z=rawInt ((a:Nat):Int)∧h.get? a=some oa∧a≠it)
section
variable {P:Program} {w:World} {A:Around} {E:Value→Shared→Prop} {it d:Addr} {es:Array DictEntry} {ep i:Nat}
theorem yE{s:Shared}{Q:Option Value→Shared→Prop}(st:fq s.heap it d i es.size ep)(hd:ya s.heap d es ep)(hi:i < es.size)
  (q:∀h',fq h' it d (i+1) es.size ep→h'.get? s.heap.objs.size=some { cls:=.type "tuple",data:=.seq #[es[i].key,es[i].val] }→h'.objs.size=s.heap.objs.size+1→(∀b o,b≠it→s.heap.get? b=some o→h'.get? b=some o)→Q (some (.ref s.heap.objs.size)) { s with heap:=h' }) :
  wpAny (model P w) A (pyNext (.ref it)) Q E s:=by
 obtain⟨h0,g,dr,tk,os⟩:=s;obtain⟨z,ok,ov,f,hit,own⟩:=st;obtain⟨od,hod,hda⟩:=hd;have ty:Shared.TypeIs ⟨h0,g,dr,tk,os⟩ (.ref it) "dict_itemiterator":=⟨_,hit,rfl⟩;have lit:it < h0.objs.size:=aa5 hit;unfold pyNext;refine wpAny_bind (wpAny_attempt (wpAny_callSpecial?_slot (name:=Str.ofString "__next__") ty PySem.F.slot_dict_itemiterator_next (wpAny_call_entry PySem.F.slot_dict_itemiterator_next ty PySem.F.entry_dict_itemiterator_next (wpAny_bind (wpAny_pure (wpAny_bind (wpAny_bind ?_)))) (PySem.F.args_dict_itemiterator_next_1 _))))
 first | refine wpAny_bind (wpAny_typeNameOfWhole_itemiter ty (wpAny_pure (wpAny_bind (wpAny_fieldsOf hit rfl ?_)))) | refine wpAny_bind (wpAny_typeNameOf_itemiter ty (wpAny_pure (wpAny_bind (wpAny_fieldsOf hit rfl ?_))))
 simp only [show Builtin.Dict_items.ownsTuple "dict_itemiterator"=true by decide,if_true];show wpAny _ _ (if (Value.ref d == Value.none)=true then _ else _) _ _ _;rw [if_neg (by exact ab0)];refine wpAny_bind (wpAny_pure (wpAny_bind (wpAny_dictEntries hod hda ?_)));rw [if_neg (by simp)];refine wpAny_bind (wpAny_pure (wpAny_bind (wpAny_dictEpoch hod hda ?_)));rw [if_neg (by simp)];refine wpAny_pure ?_;simp only [show ¬((i:Int) < 0)by omega,if_false,ad8,Array.getElem?_eq_getElem hi];refine wpAny_bind ?_
 first | refine wpAny_bind (wpAny_typeNameOfWhole_itemiter ty (wpAny_pure (wpAny_bind (wpAny_isOneOf_itemiter ty ?_)))) | refine wpAny_bind (wpAny_typeNameOf_itemiter ty (wpAny_pure (wpAny_bind (wpAny_isOneOf_itemiter ty ?_))))
 show wpAny _ _ (setField (.ref it) 3 (rawInt ((i:Int)+1)) >>= _) _ _ ⟨h0,g,dr,tk,os⟩;refine wpAny_bind (wpAny_setField_rec hit (by simp) fun h1 e1 k1=>?_)
 have e1:h1.get? it=some { cls:=.type "dict_itemiterator",data:=.fields #[z,.bool f,.ref d,.int ((i+1:Nat):Int) 0,.int es.size 0,.int ep 0,ok,ov] }:=by
  rw [show((i+1:Nat):Int)=(i:Int)+1 by omega];simpa [rawInt]using e1
 have k1:Heap.SameBut it h0 h1:=k1;have ty1:Shared.TypeIs ⟨h1,g,dr,tk,os⟩ (.ref it) "dict_itemiterator":=⟨_,e1,rfl⟩;refine wpAny_bind (wpAny_holding (wpAny_bind (wpAny_isOneOf_itemiter ty1 (wpAny_bind (wpAny_isOneOf_itemiter ty1 ?_)))));show wpAny _ _ (Builtin.Dict_items.pairFromOwner (.ref it) 6 es[i].key es[i].val) _ _ ⟨h1,g,dr,tk,os⟩;unfold Builtin.Dict_items.pairFromOwner;refine wpAny_bind (wpAny_newTuple ?_);rw [k1.1];have e2:=aa3 { cls:=.type "tuple",data:=.seq #[es[i].key,es[i].val] } e1
 have t2:(h1.push { cls:=.type "tuple",data:=.seq #[es[i].key,es[i].val] }).get? h0.objs.size=some { cls:=.type "tuple",data:=.seq #[es[i].key,es[i].val] }:=by rw [←k1.1];exact aa6 _ rfl
 have z2:(h1.push { cls:=.type "tuple",data:=.seq #[es[i].key,es[i].val] }).objs.size=h0.objs.size+1:=by rw [ae0,k1.1]
 have k2:∀b o,b≠it→h0.get? b=some o→(h1.push { cls:=.type "tuple",data:=.seq #[es[i].key,es[i].val] }).get? b=some o:=fun b o hb e=>aa3 _ (k1.extBut b o hb e);generalize h1.push { cls:=.type "tuple",data:=.seq #[es[i].key,es[i].val] }=h2 at e2 t2 z2 k2;have fin:∀h3:Heap,fq h3 it d (i+1) es.size ep→Heap.SameBut it h2 h3→Q (some (.ref h0.objs.size)) ⟨h3,g,dr,tk,os⟩:=fun h3 s3 k3=>q h3 s3 (k3.extBut _ _ (ad3 lit) t2) (by show h3.objs.size=_;rw [k3.1,z2]) fun b o hb e=>k3.extBut b o hb (k2 b o hb e);refine wpAny_bind ?_;unfold Builtin.Dict_items.ownedTupleIsFree;rcases own with⟨rfl,rfl⟩ | ⟨a,oa,rfl,ha,hai⟩
 ·refine wpAny_bind (wpAny_field e2 rfl (x:=.none) rfl (wpAny_pure ?_))
  simp only [if_true];refine wpAny_bind (wpAny_field e2 rfl (x:=ok) rfl (wpAny_bind (wpAny_field e2 rfl (x:=ov) rfl (wpAny_bind (wpAny_setField_rec e2 (by simp) fun h3 e3 k3=>wpAny_bind (wpAny_setField_rec e3 (by simp) fun h4 e4 k4=>wpAny_bind (wpAny_setField_rec e4 (by simp) fun h5 e5 k5=>wpAny_bind (wpAny_setField_rec e5 (by simp) fun h6 e6 k6=>wpAny_bind (wpAny_letGo (wpAny_pure (wpAny_pure ⟨_,rfl,wpAny_pure ?_⟩)))))))))));have k3:Heap.SameBut it h2 h3:=k3;have k4:Heap.SameBut it h3 h4:=k4;have k5:Heap.SameBut it h4 h5:=k5;have k6:Heap.SameBut it h5 h6:=k6;have kk:Heap.SameBut it h2 h6:=⟨by rw [k6.1,k5.1,k4.1,k3.1],fun b hb=>by rw [k6.2 b hb,k5.2 b hb,k4.2 b hb,k3.2 b hb]⟩;refine fin h6 ⟨_,_,_,_,e6,.inr ⟨h0.objs.size,_,rfl,kk.extBut _ _ (ad3 lit) t2,ad3 lit⟩⟩ kk
 ·refine wpAny_bind (wpAny_field e2 rfl (x:=rawInt ((a:Nat):Int)) rfl ?_)
  show wpAny _ _ (loadIfAlive ((a:Int).toNat) >>= _) _ _ _;rw [ad8];refine wpAny_bind (PySem.W.kdx_alive (k2 a oa hai ha) ?_);simp only [Option.isNone_some,ac7,if_false];refine wpAny_bind (wpAny_field e2 rfl (x:=.bool f) rfl ?_)
  cases f with
  | true=>
   rw [if_neg (by exact ab0)];refine wpAny_pure ?_;simp only [ac7,if_false];exact wpAny_pure (wpAny_pure ⟨_,rfl,wpAny_pure (fin h2 ⟨_,_,_,_,e2,.inr ⟨a,oa,rfl,k2 a oa hai ha,hai⟩⟩ (Heap.SameBut.refl _ _))⟩)
  | false=>
   rw [if_pos (by rfl)];refine wpAny_bind (wpAny_setField_rec e2 (by simp) fun h3 e3 k3=>wpAny_pure ?_);have k3:Heap.SameBut it h2 h3:=k3;simp only [ac7,if_false];exact wpAny_pure (wpAny_pure ⟨_,rfl,wpAny_pure (fin h3 ⟨_,_,_,_,e3,.inr ⟨a,oa,rfl,k3.extBut _ _ hai (k2 a oa hai ha),hai⟩⟩ k3)⟩)
theorem AR{s:Shared}{Q:Option Value→Shared→Prop}(hh:A.handled=none)(st:fq s.heap it d es.size es.size ep)(hd:ya s.heap d es ep)(q:∀h',Heap.ExtBut it s.heap h'→Q none { s with heap:=h' }):wpAny (model P w) A (pyNext (.ref it)) Q E s:=by
 obtain⟨z,ok,ov,f,hit,_⟩:=st;obtain⟨od,hod,hda⟩:=hd;have ty:s.TypeIs (.ref it) "dict_itemiterator":=⟨_,hit,rfl⟩;unfold pyNext;refine wpAny_bind (wpAny_attempt (wpAny_callSpecial?_slot (name:=Str.ofString "__next__") ty PySem.F.slot_dict_itemiterator_next (wpAny_call_entry PySem.F.slot_dict_itemiterator_next ty PySem.F.entry_dict_itemiterator_next (wpAny_bind (wpAny_pure (wpAny_bind (wpAny_bind ?_)))) (PySem.F.args_dict_itemiterator_next_1 _))))
 first | refine wpAny_bind (wpAny_typeNameOfWhole_itemiter ty (wpAny_pure (wpAny_bind (wpAny_fieldsOf hit rfl ?_)))) | refine wpAny_bind (wpAny_typeNameOf_itemiter ty (wpAny_pure (wpAny_bind (wpAny_fieldsOf hit rfl ?_))))
 simp only [show Builtin.Dict_items.ownsTuple "dict_itemiterator"=true by decide,if_true];show wpAny _ _ (if (Value.ref d == Value.none)=true then _ else _) _ _ _;rw [if_neg (by exact ab0)];refine wpAny_bind (wpAny_pure (wpAny_bind (wpAny_dictEntries hod hda ?_)));rw [if_neg (by simp)];refine wpAny_bind (wpAny_pure (wpAny_bind (wpAny_dictEpoch hod hda ?_)));rw [if_neg (by simp)];refine wpAny_pure ?_;simp only [show ¬((es.size:Int) < 0)by omega,if_false,ad8,Array.getElem?_eq_none (aa8 es.size)];refine wpAny_bind ?_
 first | refine wpAny_bind (wpAny_typeNameOfWhole_itemiter ty (wpAny_pure ?_)) | refine wpAny_bind (wpAny_typeNameOf_itemiter ty (wpAny_pure ?_))
 show wpAny _ _ (setField (.ref it) 2 .none >>= _) _ _ s;refine wpAny_bind (wpAny_setField hit rfl (by simp) ?_);show wpAny _ _ (newExc (.type "StopIteration") [] >>= _) _ _ _;simp only [newExc,newTuple]
 refine wpAny_bind (wpAny_bind (wpAny_newObj_type (wpAny_bind (m:=firstArgMember _ _) (wpAny_of_eq (a:=Value.none) (by first | rfl | (simp only [firstArgMember];rfl)) (wpAny_newObj_type ?_ (by size_fits)))) (by size_fits)))
 simp only [raiseNew];refine wpAny_bind (wpAny_handled ?_);rw [show A.in1.handled=none from hh];refine wpAny_bind (wpAny_pure (wpAny_throw ?_));exact wpAny_bind (wpAny_isInstance (T:="StopIteration") (b:=true) ⟨_,aa6 _ rfl,rfl⟩ isSubtype_stop (wpAny_pure (q _ (((Heap.SameBut.update ..).extBut.push _).push _))))
end
structure tx(es:Array DictEntry)(lo:Addr)(h:Heap)(as:List Addr):Prop where
 rise:as.Pairwise (· < ·)
 above:∀a∈as,lo < a
 at_:∀(j:Nat) (a:Addr),as[j]?=some a→∃e,es[j]?=some e∧h.get? a=some { cls:=.type "tuple",data:=.seq #[e.key,e.val] }
section
variable {P:Program} {w:World} {A:Around} {E:Value→Shared→Prop} {d:Addr} {es:Array DictEntry} {ep:Nat}
theorem ya.keep{h h':Heap}(x:ya h d es ep)(k:∀o,h.get? d=some o→h'.get? d=some o):ya h' d es ep:=by
 obtain⟨o,h1,h2⟩:=x;exact⟨o,k o h1,h2⟩
theorem tx.lt{lo:Addr}{h:Heap}{as:List Addr}(x:tx es lo h as){a:Addr}(ha:a∈as):a < h.objs.size:=by
 obtain⟨j,hj⟩:=List.mem_iff_getElem?.mp ha;obtain⟨_,_,e⟩:=x.at_ j a hj;exact aa5 e
theorem fq.keep{h h':Heap}{it S:Addr}{i n:Nat}(x:fq h it d i n ep)(k:∀b o,b≠S→h.get? b=some o→h'.get? b=some o)(hS:∃o,h'.get? S=some o)(hI:it≠S):fq h' it d i n ep:=by
 obtain⟨z,ok,ov,f,e,r⟩:=x;refine⟨z,ok,ov,f,k _ _ hI e,?_⟩;rcases r with r | ⟨a,oa,r1,r2,r3⟩
 ·exact .inl r
 ·by_cases ha:a=S
  ·subst ha
   obtain⟨o,ho⟩:=hS;exact .inr ⟨a,o,r1,ho,r3⟩
  ·exact .inr ⟨a,oa,r1,k _ _ ha r2,r3⟩
theorem yD{s:Shared}{R:Result→Shared→Prop}{S I:Addr}(hh:A.handled=none)(hSI:S < I)(hSd:d≠S)(hId:d≠I)(hn:es.size≤sizeLine)(res:Value){h1:Heap}
  (q:∀h' tk acc c as,(∀b o,b≠S→b≠I→h1.get? b=some o→h'.get? b=some o)→h'.get? S=some { cls:=.type "list",data:=.seq acc c }→as.length=es.size→tx es I h' as→acc.toList=as.map Value.ref→R (.ok (.ret res)) { s with heap:=h',toks:=tk }) :
  ∀(m i:Nat) (h:Heap) (tk c:Nat) (acc:Array Value) (as:List Addr),i+m=es.size→fq h I d i es.size ep→ya h d es ep→(∀b o,b≠S→b≠I→h1.get? b=some o→h.get? b=some o)→h.get? S=some { cls:=.type "list",data:=.seq acc c }→acc.toList=as.map Value.ref→as.length=i→tx es I h as→
   codeAny (model P w) A (.builtin "list.extend.loop" ⟨[.ref S,.ref I,res],[]⟩) R { s with heap:=h,toks:=tk }:=by
 have hne:S≠I:=ab1 hSI;intro m
 induction m with
 | zero=>
  intro i h tk c acc as hm st hD hk hS ha hl T
  have:i=es.size:=by omega
  subst this;refine codeAny_builtin PySem.F.entry_extend_loop ?_;rw [Around.under_plainId PySem.F.plain_extend_loop _];show wpAny _ A.in1 (pyNext (.ref I) >>= _) _ _ _;refine wpAny_bind (AR (s:={ s with heap:=h,toks:=tk }) (A:=A.in1) hh st hD fun h' he=>wpAny_pure (q h' tk acc c as (fun b o x y e=>he b o y (hk b o x y e)) (he S _ hne hS) hl ⟨T.rise,T.above,fun j a hj=>?_⟩ ha));obtain⟨e,e1,e2⟩:=T.at_ j a hj;exact⟨e,e1,he a _ (ad3 (T.above a (aa9 hj))) e2⟩
 | succ m ih=>
  intro i h tk c acc as hm st hD hk hS ha hl T
  have hi:i < es.size:=by omega
  have hsz:acc.size=i:=by rw [←af6,ha,aa0,hl]
  have hIs:I < h.objs.size:=by
   obtain⟨_,_,_,_,e,_⟩:=st;exact aa5 e
  have hSl:S < h.objs.size:=aa5 hS;refine codeAny_builtin PySem.F.entry_extend_loop ?_;rw [Around.under_plainId PySem.F.plain_extend_loop _];show wpAny _ A.in1 (pyNext (.ref I) >>= _) _ _ _;refine wpAny_bind (yE (s:={ s with heap:=h,toks:=tk }) st hD hi fun h' st' ht hz kp=>?_);dsimp only at ht hz kp ⊢;have hS':=kp S _ hne hS
  have up:∀b o,b≠S→h'.get? b=some o→(h'.update S (Obj.mapSeq (·.push (Value.ref h.objs.size)))).get? b=some o:=fun b o hb e=>(ac2 _ _ (Ne.symm hb)).trans e
  have new:=ad2 (Obj.mapSeq (·.push (Value.ref h.objs.size))) hS' rfl
  show wpAny _ A.in1 (updateSeq S (·.push (Value.ref h.objs.size)) >>= _) _ _ _
  refine wpAny_bind (wpAny_updateSeq hS' rfl (wpAny_pure ⟨plainId_quiet PySem.F.plain_extend_loop _,ih (i+1) _ tk _ (acc.push (Value.ref h.objs.size)) (as++[h.objs.size]) (by omega) (st'.keep up ⟨_,new⟩ (Ne.symm hne)) (hD.keep fun o e=>up d o hSd (kp d o hId e)) (fun b o x y e=>up b o x (kp b o y (hk b o x y e))) new (by rw [Array.toList_push,ha,ab4];rfl) (by rw [ab3,hl];rfl) ⟨?_,?_,?_⟩⟩) (by rw [hsz];omega) (by show(acc.push (Value.ref h.objs.size)).size≤sizeLine+1;rw [Array.size_push,hsz];omega))
  ·exact List.pairwise_append.mpr ⟨T.rise,List.pairwise_singleton _ _,fun a x b y=>by rw [ab7.mp y];exact T.lt x⟩
  ·intro a x
   rcases ad7.mp x with x | x
   ·exact T.above a x
   ·rw [ab7.mp x]
    exact hIs
  ·intro j b hj
   by_cases hjl:j < as.length
   ·rw [ab5 hjl]at hj
    obtain⟨e,e1,e2⟩:=T.at_ j b hj;have hb:=T.above b (aa9 hj);exact⟨e,e1,up b _ (ad3 (Nat.lt_trans hSI hb)) (kp b _ (ad3 hb) e2)⟩
   ·rw [ab8 (aj3 hjl)]at hj
    have h0:j - as.length=0:=by
     have:=(aa1.mp hj).1
     simp at this;omega
    rw [h0]at hj;cases hj
    have ej:j=i:=by omega
    subst ej;exact⟨es[j],Array.getElem?_eq_getElem hi,up _ _ (ad3 hSl) ht⟩
theorem yC{s:Shared}{r:Addr}{Q:Value→Shared→Prop}(hv:s.heap.IsItemsView r d)(hd:ya s.heap d es ep)
  (q:Q (.ref s.heap.objs.size) { s with heap:=s.heap.push { cls:=.type "dict_itemiterator",data:=.fields #[.none,.bool false,.ref d,.int ((0:Nat):Int) 0,.int es.size 0,.int ep 0,.none,.none] } }):wpAny (model P w) A (pyIter (.ref r)) Q E s:=by
 obtain⟨ov,hov,_,hdv⟩:=id hv;obtain⟨od,hod,hda⟩:=hd;refine wpAny_pyIter_slot hv.typeIs PySem.F.slot_dict_items_iter (wpAny_call_entry PySem.F.slot_dict_items_iter hv.typeIs PySem.F.entry_dict_items_iter ?_ (PySem.F.args_dict_items_iter_1 _));unfold Builtin.«dict_items.__iter__»;refine wpAny_bind (wpAny_pure (wpAny_bind ?_));unfold Builtin.Dict_items.dictOf;refine wpAny_bind (wpAny_field hov hdv (x:=.ref d) rfl (wpAny_pure (wpAny_bind ?_)));unfold Builtin.Dict_items.newIterator;refine wpAny_bind (wpAny_dictEntries hod hda (wpAny_bind (wpAny_dictEpoch hod hda ?_)));simp only [show Builtin.Dict_items.ownsTuple "dict_itemiterator"=true by decide,if_true];refine wpAny_newObj_type (wpAny_pure ⟨_,rfl,"dict_itemiterator",_,⟨_,aa6 _ rfl,rfl⟩,PySem.F.slot_dict_itemiterator_next.lookup,?_⟩) (by simp only [sizeOk,Builtin.Dict_items.ownedTupleFields,aa7,ab3,ac5,ah1,sizeLine_eq];omega);simpa [rawInt,Builtin.Dict_items.ownedTupleFields]using q
theorem uo{s:Shared}{r:Addr}{R:Result→Shared→Prop}(hh:A.handled=none)(hv:s.heap.IsItemsView r d)(hd:ya s.heap d es ep)(S:Addr)(hSr:S≠r)(hSd:d≠S)(res:Value)(c0:Nat)(hS:s.heap.get? S=some { cls:=.type "list",data:=.seq #[] c0 })(hn:es.size≤sizeLine)
  (q:∀h' tk acc c as,(∀b o,b≠S→s.heap.get? b=some o→h'.get? b=some o)→h'.get? S=some { cls:=.type "list",data:=.seq acc c }→as.length=es.size→tx es s.heap.objs.size h' as→acc.toList=as.map Value.ref→R (.ok (.ret res)) { s with heap:=h',toks:=tk }) :
  wpAny (model P w) A.in1 (Builtin.List.listExtendWith (.ref S) (.ref r) res) (fun fin s'=>match fin with | .done f=>R (.ok f) s' | .again c'=>c'.quiet=true∧codeAny (model P w) A c' R s') (fun e s'=>R (.error e) s') s:=by
 have hSI:S < s.heap.objs.size:=aa5 hS
 have hdI:d < s.heap.objs.size:=let ⟨_,h,_⟩:=hd;aa5 h
 have go:∀(h:Heap) (c1 tk:Nat),(∀b o,b≠S→(s.heap.push { cls:=.type "dict_itemiterator",data:=.fields #[.none,.bool false,.ref d,.int ((0:Nat):Int) 0,.int es.size 0,.int ep 0,.none,.none] }).get? b=some o→h.get? b=some o)→h.get? S=some { cls:=.type "list",data:=.seq #[] c1 }→codeAny (model P w) A (.builtin "list.extend.loop" ⟨[.ref S,.ref s.heap.objs.size,res],[]⟩) R { s with heap:=h,toks:=tk }:=by
  intro h c1 tk hk h1
  exact yD (s:=s) (h1:=s.heap) hh hSI hSd (ab1 hdI) hn res (fun h' tk' acc c as k' e1 e2 e3 e4=>q h' tk' acc c as (fun b o hb e=>k' b o hb (ab1 (aa5 e)) e) e1 e2 e3 e4)
   es.size 0 h tk c1 #[] [] (Nat.zero_add _) ⟨.none,.none,.none,false,hk _ _ (ad3 hSI) (aa6 _ rfl),.inl ⟨rfl,rfl⟩⟩ (hd.keep fun o e=>hk d o hSd (aa3 _ e)) (fun b o hb _ e=>hk b o hb (aa3 _ e)) h1 rfl rfl ⟨List.Pairwise.nil,(fun _ ha=>nomatch ha),fun j a hj=>(by simp at hj)⟩
 unfold Builtin.List.listExtendWith;refine wpAny_bind (wpAny_typeOf (T:="dict_items") hv.typeIs ?_);simp only [show Builtin.List.listSameRef (.ref S) (.ref r)=false by simp [Builtin.List.listSameRef,hSr],show(Value.type "dict_items" == Value.type "list")=false by decide,show(Value.type "dict_items" == Value.type "tuple")=false by decide,aj5,ac7,if_false];refine wpAny_bind (yC hv hd ?_);have h1:=aa3 { cls:=.type "dict_itemiterator",data:=.fields #[.none,.bool false,.ref d,.int ((0:Nat):Int) 0,.int es.size 0,.int ep 0,.none,.none] } hS;refine wpAny_bind (wpAny_holding (PySem.W.kdx_hint (let ⟨o,ho,hc,_⟩:=hv;⟨o,aa3 _ ho,hc⟩) (wpAny_ite_split (fun _=>?_) (fun _=>wpAny_pure ⟨plainId_quiet PySem.F.plain_extend_loop _,go _ c0 _ (fun b o _ e=>e) h1⟩))));refine wpAny_bind (wpAny_rule (wpAny_bind ?_))
 show wpAny _ _ (updateSeq S (·.push .none) >>= fun _=>updateSeq S (·.pop)) _ _ _
 refine wpAny_bind (wpAny_updateSeq h1 rfl ?_)
 have h2:=ad2 (Obj.mapSeq (·.push Value.none)) h1 rfl
 refine wpAny_updateSeq (hz:=by seq_fits) h2 rfl ?_
 exact wpAny_pure ⟨plainId_quiet PySem.F.plain_extend_loop _,go _ _ _ (fun b o hb e=>(ac2 _ _ (Ne.symm hb)).trans ((ac2 _ _ (Ne.symm hb)).trans e)) (ad2 (Obj.mapSeq (·.pop)) h2 rfl)⟩
theorem qy{s:Shared}{r:Addr}{Q:Value→Shared→Prop}(hh:A.handled=none)(hv:s.heap.IsItemsView r d)(hd:ya s.heap d es ep)(hn:es.size≤sizeLine)
  (q:∀h' tk acc c as,(∀b o,s.heap.get? b=some o→h'.get? b=some o)→h'.get? s.heap.objs.size=some { cls:=.type "list",data:=.seq acc c }→as.length=es.size→tx es s.heap.objs.size h' as→acc.toList=as.map Value.ref→Q (.ref s.heap.objs.size) { s with heap:=h',toks:=tk }) :
  wpAny (model P w) A (call (.type "list") [.ref r]) Q E s:=by
 refine callType_codes (Q₁:=fun obj s1=>obj=.ref s.heap.objs.size∧s1={ s with heap:=s.heap.push { cls:=.type "list",data:=.seq #[] } }) PySem.F.called_list (PySem.F.typeCall_list_1 _) PySem.F.entry_list_init (code_list_new _ ⟨rfl,rfl⟩) fun obj s1 h1=>?_;obtain⟨rfl,rfl⟩:=h1;have hS:(s.heap.push { cls:=.type "list",data:=.seq #[] }).get? s.heap.objs.size=some { cls:=.type "list",data:=.seq #[] }:=aa6 _ rfl
 have lr:r < s.heap.objs.size:=let ⟨_,ho,_⟩:=hv;aa5 ho
 have ld:d < s.heap.objs.size:=let ⟨_,h,_⟩:=hd;aa5 h
 refine⟨⟨_,hS,rfl⟩,PySem.F.args_list_init_2 _ _,?_⟩;show wpAny _ _ (do let old ←Builtin.List.listItems (.ref s.heap.objs.size);Builtin.List.listUpdate (.ref s.heap.objs.size) (fun _=>#[]);letGo old.toList.reverse;Builtin.List.listExtendWith (.ref s.heap.objs.size) (.ref r) .none) _ _ _;refine wpAny_bind ?_;unfold Builtin.List.listItems;refine wpAny_bind (wpAny_seqItems hS rfl (wpAny_pure ?_));show wpAny _ _ (updateSeq s.heap.objs.size (fun _=>#[]) >>= fun _=>letGo (#[]:Array Value).toList.reverse >>= fun _=>Builtin.List.listExtendWith (.ref s.heap.objs.size) (.ref r) .none) _ _ _;refine wpAny_bind (wpAny_updateSeq hS rfl (wpAny_bind (wpAny_letGo ?_)));have old:∀b o,b≠s.heap.objs.size→s.heap.get? b=some o→((s.heap.push { cls:=.type "list",data:=.seq #[] }).update s.heap.objs.size (Obj.mapSeq (fun _=>(#[]:Array Value)))).get? b=some o:=fun b o hb e=>(ac2 _ _ (Ne.symm hb)).trans (aa3 _ e);refine uo (A:=A.in1) hh (let ⟨o,ho,x⟩:=hv;⟨o,old r o (ab1 lr) ho,x⟩) (hd.keep fun o e=>old d o (ab1 ld) e) s.heap.objs.size (ad3 lr) (ab1 ld) .none _ (ad2 (Obj.mapSeq (fun _=>(#[]:Array Value))) hS rfl) hn fun h' tk acc c as k e1 e2 e3 e4=>⟨rfl,q h' tk acc c as (fun b o e=>k b o (ab1 (aa5 e)) (old b o (ab1 (aa5 e)) e)) e1 e2 ⟨e3.rise,fun a ha=>?_,e3.at_⟩ e4⟩;refine ad5 (ah7 ?_) (e3.above a ha);exact aa5 (ad2 (Obj.mapSeq (fun _=>(#[]:Array Value))) hS rfl)
theorem ou{s:Shared}{Q:Value→Shared→Prop}(hsm:(d == sysModules)=false)(hd:s.TypeIs (.ref d) "dict")(q:Q (.ref s.heap.objs.size) { s with heap:=s.heap.push { cls:=.type "dict_items",data:=.fields #[.ref d] } }):wpAny (model P w) A (call (.builtin "dict.items") [.ref d]) Q E s:=by
 refine wpAny_call_entry PySem.F.slot_dict_items hd PySem.F.entry_dict_items ?_ (PySem.F.args_dict_items_1 _);unfold Builtin.«dict.items»;refine wpAny_bind ?_;unfold Builtin.Dict.noArgs;refine wpAny_bind (wpAny_notOrdered_dict hd ?_);show wpAny _ _ (pure d) _ _ s;refine wpAny_pure ?_;show wpAny _ _ (Builtin.Dict.showsAll d >>= _) _ _ s;unfold Builtin.Dict.showsAll;rw [if_neg (by rw [hsm];decide)];exact wpAny_bind (wpAny_pure (wpAny_bind (wpAny_newObj_type (wpAny_pure ⟨_,rfl,q⟩))))
end
section
variable {P:Program} {w:World} {κ:Type} [DecidableEq κ] {X:Cx}
theorem uN{α β:Type}{F:α→β→Prop}{l:List α}{m:List β}(h:Paired F l m):∀(j:Nat) (x:α),l[j]?=some x→∃y,m[j]?=some y∧F x y:=by
 induction h with
 | nil=>intro j x e;cases e
 | cons r _ ih=>
  intro j x e
  cases j with
  | zero=>cases e;exact⟨_,rfl,r⟩
  | succ j=>exact ih j x e
theorem mj:∀as:List Addr,aH (as.map V.ref) (as.map Value.ref)
 | []=>.nil
 | a::as=>.cons rfl (mj as)
def xM(kk:KK P w κ)(to:TE):TE:=fun σ H Q=>to σ H fun x H1=>∃d xs,x=.ref d∧aP kk H1 d xs∧∀(p:Addr) (ts:List Addr) (H2:Hp),H1 p=none→H2 p=some (.lst (ts.map V.ref))→ts.length=xs.length→(∀(j:Nat) (t:Addr) (e:κ×Addr×V),ts[j]?=some t→xs[j]?=some e→H1 t=none∧H2 t=some (.tup [.ref e.2.1,e.2.2]))→au H1 H2→Q (.ref p) H2
variable {kk':KK X.prog X.w κ}
theorem wZ{o:Expr}{to:TE}{p apos cpos pos:Pos}(hc:X.calm=true)(hgl:Gl X "list")(hml:X.mg "list"=none)(ho:PE X o to)(hbase:attributeBase o "items" X.env (eval o X.env)=eval o X.env:=by rfl)(hline:(apos.endLine == cpos.line)=true:=by rfl):
  PE X (.Call (.Name "list" p) [.Call (.Attribute o "items" apos) [] [] cpos] [] pos) (xM kk' to):=by
 intro pins s σ H Q I h;refine wpAny_Call_Name_kw (cb I hgl hml boot_list (PyProof.Rows.callWith_type1 ?_ rfl rfl));show wpAny _ _ (spliced ((false,eval (.Call (.Attribute o "items" apos) [] [] cpos) X.env)::backTo pos (starEach [] X.env))) _ _ s;refine Calls.spliced_cons (wpAny_Call_method0_late hbase hline (bz (ho pins s σ H _ I h) fun v s1 ⟨x,H1,I1,r1,d,xs,ex,D,q1⟩=>?_));subst ex;cases r1;obtain⟨hsm,ys,dd,hp⟩:=eX I1.hok D;have ty:=dd.typeIs;obtain⟨ob,es,ep,ho1,hx1,hda,hes,_,_⟩:=id dd;refine⟨"dict","dict.items",PySem.F.plainAttrs_dict,PySem.F.slot_dict_items,PySem.F.type_dict_items,ty,fun a e=>?_,Calls.callWith_builtin rfl (PySem.evalArgs_none (ou hsm ty (Calls.spliced_nil ?_)))⟩
 ·cases e
  exact⟨ob,ho1,hx1.2.1⟩
 have k1:∀b u,s1.heap.get? b=some u→(s1.heap.push { cls:=.type "dict_items",data:=.fields #[.ref d] }).get? b=some u:=fun b u e=>aa3 _ e;have I2:az X pins σ H1 { s1 with heap:=s1.heap.push { cls:=.type "dict_items",data:=.fields #[.ref d] },toks:=s1.toks }:=I1.kept k1;have lx:xs.length=ys.length:=Paired.len' hp
 have le:es.size=xs.length:=by rw [←af6,hes,aa0,lx]
 have hs:sizeLine=16777216:=sizeLine_eq;have hz:=D.sz;refine qy (s:={ s1 with heap:=s1.heap.push { cls:=.type "dict_items",data:=.fields #[.ref d] } }) (d:=d) (es:=es) (ep:=ep) (I1.ok.hd hc) ⟨_,aa6 _ rfl,rfl,rfl⟩ ⟨ob,k1 _ _ ho1,hda⟩ (by omega) fun h' tk acc c as kp hS hl T hacc=>?_;dsimp only at kp hS T ⊢;generalize hh1:s1.heap.push { cls:=.type "dict_items",data:=.fields #[.ref d] }=h1 at kp hS T I2;have fr:∀b,h1.objs.size≤b→H1 b=none:=fun b hb=>I2.hok.fresh hb;obtain⟨tp,htp⟩:∃tp:Addr→Option HO,tp=fun b=>if b∈as then(xs[as.idxOf b]?).map fun z=>HO.tup [.ref z.2.1,z.2.2]else none:=⟨_,rfl⟩;have nd:as.Nodup:=T.rise.imp fun h=>ab1 h
 have tp1:∀(j:Nat) (t:Addr) (e:κ×Addr×V),as[j]?=some t→xs[j]?=some e→tp t=some (.tup [.ref e.2.1,e.2.2]):=fun j t e e1 e2=>by
  obtain⟨hj,rfl⟩:=aa1.mp e1;rw [htp];show(if as[j]∈as then _ else _)=_;rw [if_pos (ae2 hj),nd.idxOf_getElem j hj,e2];rfl
 have tp2:∀b o,tp b=some o→∃(j:Nat) (e:κ×Addr×V),as[j]?=some b∧xs[j]?=some e∧o=.tup [.ref e.2.1,e.2.2]:=fun b o e=>by
  rw [htp]at e;have e:(if b∈as then(xs[as.idxOf b]?).map fun z=>HO.tup [.ref z.2.1,z.2.2]else none)=some o:=e
  by_cases hb:b∈as
  ·rw [if_pos hb]at e
   have hj:=List.idxOf_lt_length_of_mem hb;refine⟨as.idxOf b,?_⟩;rw [aa2 hj,List.getElem_idxOf hj]
   cases e2:xs[as.idxOf b]? with
   | none=>rw [e2]at e;cases e
   | some z=>rw [e2]at e;exact⟨z,rfl,rfl,(Option.some.inj e).symm⟩
  ·rw [if_neg hb]at e
   cases e
 obtain⟨H2,hH2⟩:∃H2:Hp,H2=fun b=>if b=h1.objs.size then some (.lst (as.map V.ref))else(tp b).or (H1 b):=⟨_,rfl⟩
 have pS:H2 h1.objs.size=some (.lst (as.map V.ref)):=by rw [hH2];simp
 have ab:∀(j:Nat) (t:Addr),as[j]?=some t→h1.objs.size < t:=fun j t e=>T.above t (aa9 e)
 have pT:∀(j:Nat) (t:Addr) (e:κ×Addr×V),as[j]?=some t→xs[j]?=some e→H2 t=some (.tup [.ref e.2.1,e.2.2]):=fun j t e e1 e2=>by
  rw [hH2];show(if t=h1.objs.size then _ else(tp t).or (H1 t))=_;rw [if_neg (ad3 (ab j t e1)),tp1 j t e e1 e2];rfl
 have old:∀b,b < h1.objs.size→H2 b=H1 b:=fun b hb=>by
  rw [hH2];show(if b=h1.objs.size then _ else(tp b).or (H1 b))=_;rw [if_neg (ab1 hb)]
  cases e:tp b with
  | none=>rfl
  | some o=>
   obtain⟨j,_,e1,_⟩:=tp2 b o e
   have:=ab j b e1
   omega
 have I3:=I2.laidN (t':=tk) kp old (fun b o hb e=>by
  rw [hH2]at e;have e:(if b=h1.objs.size then some (HO.lst (as.map V.ref))else(tp b).or (H1 b))=some o:=e
  by_cases hbS:b=h1.objs.size
  ·rw [if_pos hbS]at e
   cases e;subst hbS;exact⟨by rw [aa0];omega,as.map Value.ref,c,mj as,by rw [←hacc];exact hS⟩
  ·rw [if_neg hbS,fr b hb]at e
   cases e2:tp b with
   | none=>rw [e2]at e;cases e
   | some o'=>
    rw [e2]at e;cases e;obtain⟨j,z,g1,g2,rfl⟩:=tp2 b _ e2;obtain⟨en,g3,g4⟩:=T.at_ j b g1;obtain⟨y,g5,g6⟩:=uN hp j z g2
    have g7:en=entryOfKey kk'.knd y:=by
     have:es.toList[j]?=some en:=by rw [Array.getElem?_toList];exact g3
     rw [hes,aa4,g5]at this;exact(Option.some.inj this).symm
    subst g7;refine⟨by show 2≤sizeLine;omega,[.ref y.2.1,y.2.2],.cons (by rw [g6.2.1];rfl) (.cons g6.2.2 .nil),?_⟩
    exact⟨_,g4,rfl,_,rfl⟩)
 exact⟨.ref h1.objs.size,H2,I3,rfl,q1 h1.objs.size as H2 (fr _ (aa8 _)) pS (by omega) (fun j t e e1 e2=>⟨fr _ (ah7 (ab j t e1)),pT j t e e1 e2⟩) fun b o e=>by rw [old b (I2.hok b o e).lt];exact e⟩
end
end L2
namespace L2
open PySem PySem.Spec PyProof.Rows
theorem gn:bootBuiltins "reversed"=some (.type "reversed"):=by decide +kernel
def DG(K:Frag)(a:Addr)(n:Nat):It:=
 ⟨fun i H=>∃xs x,aI K H a xs∧xs.length=n∧i < n∧xs[n - 1 - i]?=some x,fun i H x H'=>H'=H∧∀xs,aI K H a xs→xs[n - 1 - i]?=some x,fun i _=>n≤i⟩
theorem xS{P:Program}{w:World}{K:Frag}{tg:Expr}(a it:Addr)(n:Nat):jt P w K tg (DG K a n) [it] it (fun i h=>i≤n∧h.IsRevIter it a ((n:Int) - 1 - (i:Int))) where
 mem:=by simp
 obj:=fun i h st b hb=>by
  have e:b=it:=by simpa using hb
  subst e;obtain⟨_,o,e,c,d⟩:=st;exact⟨o,e,fun v z=>by rw [d]at z;cases z⟩
 keep:=fun i h h' st k=>⟨st.1,st.2.at fun o e=>k it (by simp) o e⟩
 item:=by
  intro X hP hw hK hc i pins s σ H E I hf st hg;subst hP hw hK;obtain⟨xs,x,hq,hn,hi,hx⟩:=hg;obtain⟨its,rv,p,hz⟩:=I.list hq;obtain⟨u,hu,ru⟩:=rv.get hx;obtain⟨f0,f1,f2,f3,f4,f5⟩:=hf it (by simp);have st1:=st.2;rw [show(n:Int) - 1 - (i:Int)=((n - 1 - i:Nat):Int)by omega]at st1;refine wpAny_pyNext_rev_item st1 p.isList (x:=u) (by simpa using hu) fun h' st' sb=>?_;have I1:az X pins σ H { s with heap:=h' }:=I.turned (t':=s.toks) (fun b o hb e=>(sb.2 b hb).trans e) f0 f1 f3 f4 f5
  have st2:h'.IsRevIter it a ((n:Int) - 1 - ((i+1:Nat):Int)):=by
   rw [show(n:Int) - 1 - ((i+1:Nat):Int)=((n - 1 - i:Nat):Int) - 1 by omega];exact st'
  obtain⟨o,e,c,d⟩:=id st';exact⟨u,rfl,lP (s:={ s with heap:=h' }) e c d (by decide) ⟨x,H,I1,ru,⟨rfl,fun ys hy=>by rw [I.list_inj hy hq];exact hx⟩,⟨hi,st2⟩,fun b hb=>(hf b hb).1⟩⟩
 done:=by
  intro X hP hw hK hc i pins s σ H E I hf st hg;subst hP hw hK;obtain⟨f0,f1,f2,f3,f4,f5⟩:=hf it (by simp);have hg:n≤i:=hg;have st1:=st.2;rw [show(n:Int) - 1 - (i:Int) = -1 by have:=st.1;omega]at st1;exact wpAny_pyNext_rev_end (I.ok.hd hc) st1 fun h' eb=>⟨rfl,I.turned (t':=s.toks) (fun b o hb e=>eb b o hb e) f0 f1 f3 f4 f5⟩
 self:=fun _ _ _ _ _ st h=>wpAny_pyIter_revIter st.2 h
section
variable {X:Cx} {tg:Expr}
def Ad(K:Frag)(ta:TA):TI:=fun σ H R=>ta σ H fun vs H1=>∃a xs,vs=[.ref a]∧aI K H1 a xs∧R (DG K a xs.length) H1
theorem zo(K:Frag){a:Expr}{ta:TA}{p pos:Pos}(hg:Gl X "reversed")(hm:X.mg "reversed"=none)(ha:PA X [a] ta)(hK:X.K=K:=by rfl)(hs:starEach [a] X.env=[(false,eval a X.env)]:=by rfl):
  PI X tg (.Call (.Name "reversed" p) [a] [] pos) (Ad K ta):=by
 subst hK;intro pins s σ H R I h;refine Call_ (cb I hg hm gn (PyProof.Rows.callWith_type1 (bz (ha pos pins s σ H _ I h) fun us s1 ⟨vs,H1,I1,r1,q1⟩=>?_) hs rfl));obtain⟨l,xs,e,hq,q⟩:=q1;subst e;obtain⟨u,rfl,ru⟩:=cN r1;cases ru;obtain⟨its,rv,pl,hz⟩:=I1.list hq;have hl:=rv.length;refine call_reversed_list pl.isList ?_;have I2:az X pins σ H1 { s1 with heap:=s1.heap.push (revObj l ((its.toArray.size:Int) - 1)) }:=I1.kept (t':=s1.toks) fun b o e=>aa3 _ e
 have st:(s1.heap.push (revObj l ((its.toArray.size:Int) - 1))).IsRevIter s1.heap.objs.size l ((xs.length:Int) - 1 - ((0:Nat):Int)):=⟨_,aa6 _ rfl,rfl,by
  rw [show(xs.length:Int) - 1 - ((0:Nat):Int)=(its.toArray.size:Int) - 1 by simp [hl]]
  rfl⟩
 refine wpAny_pyIter_revIter (it:=s1.heap.objs.size) (l:=l) (i:=(xs.length:Int) - 1 - ((0:Nat):Int)) st ?_;refine⟨s1.heap.objs.size,[s1.heap.objs.size],_,_,H1,rfl,I2,xS l s1.heap.objs.size xs.length,⟨ad0 _,st⟩,fun b hb=>?_,q⟩
 have e:b=s1.heap.objs.size:=by simpa using hb
 subst e;exact I1.fpOk (aa8 _) (I1.hok.fresh (aa8 _))
end
theorem wz{g:TG}{tb:TS}{D:eU}{σ:St}{H:Hp}{K:Frag}{a:Addr}{xs:List V}(Pv:Nat→St→Hp→Prop)(h0:Pv 0 σ H)(hl:∀i σ H,i≤xs.length→Pv i σ H→aI K H a xs)
  (hs:∀i x σ H,xs.reverse[i]?=some x→Pv i σ H→g x σ H fun σ2 H2=>tb { D with nx:=Pv (i+1),ct:=Pv (i+1),bk:=D.nx } σ2 H2) (hd:∀σ H,Pv xs.length σ H→D.nx σ H):tw g tb D σ (DG K a xs.length) H:=by
 refine⟨fun i m σ H=>m=xs.length - i∧i≤xs.length∧Pv i σ H,⟨xs.length,by simp,ad0 _,h0⟩,?_⟩;rintro i m σ H ⟨rfl,hi,p⟩
 by_cases hlt:i < xs.length
 ·have ex:xs[xs.length - 1 - i]?=some xs[xs.length - 1 - i]:=aa2 (by omega)
  refine .inr ⟨⟨xs,_,hl i σ H hi p,rfl,hlt,ex⟩,Pv (i+1),fun σ' H' p'=>⟨xs.length - (i+1),by omega,rfl,hlt,p'⟩,fun x H' y=>?_⟩;obtain⟨e,y⟩:=y;subst e
  have:=y xs (hl i σ _ hi p)
  exact hs i x σ _ (by rw [ah2 hlt];exact this) p
 ·have e:i=xs.length:=by omega
  subst e;exact .inl ⟨aa8 _,hd σ H p⟩
theorem ux:typeLookup (.type "list_reverseiterator") "__len__"=pure none:=by rw [typeLookup_type,builtinLookup_eq_fast];kernel_rfl
theorem wA:typeLookup (.type "list_reverseiterator") "__length_hint__"=pure (some (.builtin "list_reverseiterator.__length_hint__")):=by rw [typeLookup_type,builtinLookup_eq_fast];kernel_rfl
section
variable {P:Program} {w:World} {A:Around} {E:Value→Shared→Prop} {s:Shared} {r l:Addr} {items:Array Value}
theorem vX{Q:Bool→Shared→Prop}(ty:s.TypeIs (.ref r) "list_reverseiterator")(q:Q false s):wpAny (model P w) A (Builtin.List.listLengthHint (.ref r)) Q E s:=by
 unfold Builtin.List.listLengthHint;refine wpAny_bind (wpAny_specialOf ty ux ?_)
 wp_delta
 refine wpAny_ite_split (fun h=>absurd h (by decide +kernel)) fun _=>?_;refine wpAny_ite_split (fun h=>absurd h (by decide)) fun _=>?_;refine wpAny_bind (wpAny_specialOf ty wA ?_);generalize hz:("list_reverseiterator.__length_hint__":String)=z
 wp_delta
 rw [show splitId z=some ("list_reverseiterator","__length_hint__")from by subst hz;decide +kernel];subst hz;refine wpAny_bind (wpAny_isInstance (T:="list_reverseiterator") (b:=true) ty (by rw [isSubtype_type];kernel_rfl) (wpAny_ite_split (fun h=>absurd h (by decide)) fun _=>wpAny_ite_split (fun _=>wpAny_ite_split (fun h=>absurd h (by decide +kernel)) fun _=>wpAny_pure q) fun h=>absurd (by decide +kernel) h))
theorem qN{R:Result→Shared→Prop}(hd:A.handled=none)(hr:s.heap.IsRevIter r l ((items.size:Int) - 1 - ((0:Nat):Int)))(hl:s.heap.IsList l items)(hn:items.size≤sizeLine)(B:Addr)(res:Value)(e0:Nat)(nr:B≠r)(nl:B≠l)(hB:s.heap.get? B=some { cls:=.type "list",data:=.seq #[] e0 })
  (fin:∀h' tk acc e',(∀b o,b≠B→b≠r→s.heap.get? b=some o→h'.get? b=some o)→h'.get? B=some { cls:=.type "list",data:=.seq acc e' }→ItemsOf (fun i v=>items[items.size - 1 - i]?=some v) acc items.size→R (.ok (.ret res)) { s with heap:=h',toks:=tk }) :
  wpAny (model P w) A.in1 (Builtin.List.listExtendWith (.ref B) (.ref r) res) (fun f s'=>match f with | .done f=>R (.ok f) s' | .again c'=>c'.quiet=true∧codeAny (model P w) A c' R s') (fun e s'=>R (.error e) s') s:=by
 have lr:l≠r:=fun e=>by
  obtain⟨o,h1,h2,_⟩:=hr;obtain⟨o',g1,g2,_⟩:=hl;rw [e,h1]at g1;cases g1;rw [h2]at g2;simp at g2
 have wk:=(Walks.listRev (prog:=P) (w:=w) (A:=A.in1) hd r l lr items).toS
 have run:∀(h:Heap) (e1 tk:Nat),h.IsRevIter r l ((items.size:Int) - 1 - ((0:Nat):Int))→h.IsList l items→(∀b o,b≠B→s.heap.get? b=some o→h.get? b=some o)→h.get? B=some { cls:=.type "list",data:=.seq #[] e1 }→
   codeAny (model P w) A (.builtin "list.extend.loop" ⟨[.ref B,.ref r,res],[]⟩) R { s with heap:=h,toks:=tk }:=by
  intro h e1 tk i1 i2 hk hB1;refine codeAny_extend_loopS wk hn B (fun hm=>by simp at hm;exact hm.elim nr nl) res items.size 0 _ #[] e1 rfl (ad0 _) ⟨ad0 _,i1,i2⟩ hB1 (ItemsOf.nil _) fun s' acc e' mv hB' hacc=>?_;rw [Moved.eq_with mv];exact fin s'.heap s'.toks acc e' (fun b o hb hb2 e=>mv.heap b o (fun hm=>by simp at hm;exact hm.elim hb hb2) (hk b o hb e)) hB' hacc
 unfold Builtin.List.listExtendWith;refine wpAny_bind (wpAny_typeOf (T:="list_reverseiterator") hr.typeIs ?_);simp only [show Builtin.List.listSameRef (.ref B) (.ref r)=false by simp [Builtin.List.listSameRef,nr],show(Value.type "list_reverseiterator" == Value.type "list")=false by decide,show(Value.type "list_reverseiterator" == Value.type "tuple")=false by decide,aj5,ac7,if_false];refine wpAny_bind (wpAny_pyIter_revIter hr (wpAny_bind (wpAny_holding (vX hr.typeIs (wpAny_ite_split (fun h=>absurd h (by decide)) (fun _=>wpAny_pure ⟨plainId_quiet F.plain_extend_loop _,run _ e0 _ hr hl (fun b o _ e=>e) hB⟩))))))
theorem kI{Q:Value→Shared→Prop}(hd:A.handled=none)(hr:s.heap.IsRevIter r l ((items.size:Int) - 1 - ((0:Nat):Int)))(hl:s.heap.IsList l items)(hn:items.size≤sizeLine)
  (fin:∀h' tk acc e',(∀b o,b≠r→s.heap.get? b=some o→h'.get? b=some o)→h'.get? s.heap.objs.size=some { cls:=.type "list",data:=.seq acc e' }→ItemsOf (fun i v=>items[items.size - 1 - i]?=some v) acc items.size→Q (.ref s.heap.objs.size) { s with heap:=h',toks:=tk }) :
  wpAny (model P w) A (call (.type "list") [.ref r]) Q E s:=by
 refine callType_codes (Q₁:=fun ob s1=>ob=.ref s.heap.objs.size∧s1={ s with heap:=s.heap.push { cls:=.type "list",data:=.seq #[] } }) F.called_list (F.typeCall_list_1 _) F.entry_list_init (code_list_new _ ⟨rfl,rfl⟩) fun ob s1 h1=>?_;obtain⟨rfl,rfl⟩:=h1;have hB:(s.heap.push { cls:=.type "list",data:=.seq #[] }).get? s.heap.objs.size=some { cls:=.type "list",data:=.seq #[] }:=aa6 _ rfl
 have rlt:r < s.heap.objs.size:=let ⟨_,h,_⟩:=hr;aa5 h
 have llt:l < s.heap.objs.size:=let ⟨_,h,_⟩:=hl;aa5 h
 refine⟨⟨_,hB,rfl⟩,F.args_list_init_2 _ _,?_⟩;show wpAny _ A.in1.in1 (do let old ←Builtin.List.listItems (.ref s.heap.objs.size);Builtin.List.listUpdate (.ref s.heap.objs.size) (fun _=>#[]);letGo old.toList.reverse;Builtin.List.listExtendWith (.ref s.heap.objs.size) (.ref r) .none) _ _ _;refine wpAny_bind ?_;unfold Builtin.List.listItems;refine wpAny_bind (wpAny_seqItems hB rfl (wpAny_pure ?_));show wpAny _ _ (updateSeq s.heap.objs.size (fun _=>#[]) >>= fun _=>letGo (#[]:Array Value).toList.reverse >>= fun _=>Builtin.List.listExtendWith (.ref s.heap.objs.size) (.ref r) .none) _ _ _;refine wpAny_bind (wpAny_updateSeq hB rfl (wpAny_bind (wpAny_letGo ?_)));have old:∀b o,b≠s.heap.objs.size→s.heap.get? b=some o→((s.heap.push { cls:=.type "list",data:=.seq #[] }).update s.heap.objs.size (Obj.mapSeq (fun _=>(#[]:Array Value)))).get? b=some o:=fun b o hb e=>(ac2 _ _ (Ne.symm hb)).trans (aa3 _ e);refine qN (A:=A.in1) hd (hr.at fun o e=>old r o (ab1 rlt) e) (hl.at fun o e=>old l o (ab1 llt) e) hn _ .none _ (ad3 rlt) (ad3 llt) (ad2 (Obj.mapSeq (fun _=>(#[]:Array Value))) hB rfl) fun h' tk acc e' hk hB' hacc=>?_;exact⟨rfl,fin h' tk acc e' (fun b o hb e=>hk b o (ab1 (aa5 e)) hb (old b o (ab1 (aa5 e)) e)) hB' hacc⟩
end
section
variable {X:Cx}
theorem va{xs:List V}{us vs:List Value}(h:aH xs us)(hl:vs.length=us.length)(hv:∀(i:Nat) (v:Value),vs[i]?=some v→us[us.length - 1 - i]?=some v):aH xs.reverse vs:=by
 have e:vs=us.reverse:=al6 fun i=>by
  by_cases hi:i < us.length
  ·rw [ah2 hi]
   have:vs[i]?=some vs[i]:=aa2 (by omega)
   rw [this,hv i _ this]
  ·rw [ae5 (by omega),ae5 (by rw [ai5];omega)]
 rw [e];clear e hv hl
 induction h with
 | nil=>exact .nil
 | cons r _ ih=>
  rw [ai8,ai8];exact ih.append (.cons r .nil)
def p6(K:Frag)(ta:TA):TE:=fun σ H Q=>ta σ H fun vs H1=>∃a xs,vs=[.ref a]∧aI K H1 a xs∧∀l,H1 l=none→Q (.ref l) (upd H1 l (.lst xs.reverse))
theorem rk(K:Frag){a:Expr}{ta:TA}{p p2 pos pos2:Pos}(hc:X.calm=true)(hgl:Gl X "list")(hml:X.mg "list"=none)(hg:Gl X "reversed")(hm:X.mg "reversed"=none)(ha:PA X [a] ta)(hK:X.K=K:=by rfl)(hs:starEach [a] X.env=[(false,eval a X.env)]:=by rfl):
  PE X (.Call (.Name "list" p) [.Call (.Name "reversed" p2) [a] [] pos2] [] pos) (p6 K ta):=by
 subst hK;intro pins s σ H Q I h;refine wpAny_Call_Name_kw (cb I hgl hml boot_list (PyProof.Rows.callWith_type1 ?_ rfl rfl));show wpAny _ _ (spliced ((false,eval (.Call (.Name "reversed" p2) [a] [] pos2) X.env)::backTo pos (starEach [] X.env))) _ _ s;refine Calls.spliced_cons (wpAny_Call_Name_kw (cb I hg hm gn (PyProof.Rows.callWith_type1 (bz (ha pos2 pins s σ H _ I h) fun us s1 ⟨vs,H1,I1,r1,l,xs,e,hq,q⟩=>?_) hs rfl)));subst e;obtain⟨u,rfl,ru⟩:=cN r1;cases ru;obtain⟨its,rv,pl,hz⟩:=I1.list hq;have hlen:=rv.length;refine call_reversed_list pl.isList (Calls.spliced_nil ?_);have hkp:∀b o,s1.heap.get? b=some o→(s1.heap.push (revObj l ((its.toArray.size:Int) - 1))).get? b=some o:=fun b o e=>aa3 _ e;refine kI (s:={ s1 with heap:=s1.heap.push (revObj l ((its.toArray.size:Int) - 1)) }) (items:=its.toArray) (l:=l) (I1.ok.hd hc) ⟨_,aa6 _ rfl,rfl,by simp [revObj]⟩ (pl.isList.at fun o e=>hkp l o e) (by simp;omega) fun h' tk acc e' hk hB hacc=>?_;have rlt:∀b o,s1.heap.get? b=some o→h'.get? b=some o:=fun b o e=>hk b o (ab1 (aa5 e)) (hkp b o e);refine⟨.ref (s1.heap.push (revObj l ((its.toArray.size:Int) - 1))).objs.size,_,I1.laid (a:=(s1.heap.push (revObj l ((its.toArray.size:Int) - 1))).objs.size) (t':=tk) rlt (by rw [ae0];omega) (show br X.prog X.w _ h' _ (.lst xs.reverse)from⟨by simp;omega,acc.toList,e',va rv (by rw [af6,hacc.1];simp) fun i v ev=>?_,hB⟩),rfl,q _ (I1.hok.fresh (by rw [ae0];omega))⟩
 have:=hacc.2 i v (by simpa using ev)
 simpa using this
end
end L2
namespace L2
open PySem PySem.Spec PyProof.Rows
theorem i6(f:Nat→Int):∀n:Nat,preSum f n=((List.range n).map f).sum
 | 0=>rfl
 | n+1=>by
  rw [List.range_succ,ab4,List.sum_append];show preSum f n+f n=_;rw [i6 f n];simp
theorem xn(ns:List Int):(List.range ns.length).map (fun(i:Nat)=>ns.getD i 0)=ns:=by
 refine al6 fun i=>?_;rw [aa4]
 by_cases hi:i < ns.length
 ·rw [ae4 hi,aa2 hi]
  simp [hi]
 ·rw [ae5 (by rw [aj0];omega),ae5 (by omega)]
  rfl
theorem lE{X:Cx}(hc:X.calm=true)(K:Frag)(hK:X.K=K:=by rfl):bq X (.builtin "sum") (fun xs H Q=>∃p ns,xs=[.ref p]∧aI K H p (List.map V.int ns)∧Q (.int ns.sum) H):=by
 subst hK;intro pins s σ H xs us Q I r h;obtain⟨p,ns,rfl,hp,q⟩:=h;obtain⟨u,rfl,ru⟩:=cN r;cases ru;obtain⟨its,rv,ht,_⟩:=I.list hp;obtain⟨ps,e1,e2⟩:=gq rv
 have hl:s.heap.IsList p (intItems ps.toArray):=by
  have:=ht.isList
  rw [e1]at this;simpa [intItems]using this
 have hn:ps.length=ns.length:=by rw [←e2,aa0]
 refine call_sum_walkAnyS (iter_intList hl fun s2 e st hfp hlI=>?_);subst e;refine⟨_,_,_,_,_,_,_,fun i=>ns.getD i 0,rfl,(Walks.list (A:=X.A.in1) (I.ok.hd hc) _ p hlI (intItems ps.toArray)).toS,st,hfp,fun i v hv=>?_,fun s' t' hm=>?_⟩
 ·have hv:(intItems ps.toArray)[i]?=some v:=hv
  simp only [intItems,List.map_toArray,List.getElem?_toArray,aa4,Option.map_eq_some_iff]at hv;obtain⟨⟨a,t⟩,ha,rfl⟩:=hv
  have:ns[i]?=some a:=by rw [←e2,aa4,ha];rfl
  exact⟨t,by simp [this]⟩
 ·have hz:(intItems ps.toArray).size=ns.length:=by simp [intItems,hn]
  rw [Moved.eq_with hm,i6,hz,xn];exact⟨.int ns.sum,H,I.kept (t':=s'.toks) fun b o e=>hm.heap b o (fun z=>absurd (aa5 e) (by rw [ab7.mp z];exact af2 _)) (aa3 _ e),⟨t',rfl⟩,q⟩
theorem CM{X:Cx}{P:Program}{w:World}{κ:Type}[DecidableEq κ](kk:KK P w κ){A:Around}{n:Nat}(hr:bV n A)(e:X.A=A:=by rfl)(e1:X.prog=P:=by rfl)(e2:X.w=w:=by rfl):bZ X (compareOp .In) (C4 kk):=by
 subst e e1 e2;exact CL (kG hr)
theorem lX(K:Frag){X:Cx}{a:Expr}{ta:TE}(ha:PE X a ta)(he:∀whole,isTrue a X.env whole=(do let v ←whole;standAt a.pos;holding [v] (truthy v)))(hK:X.K=K:=by rfl):PT X a (fun σ H Q=>ta σ H fun x H'=>∃k,vo K x H' k∧Q k H'):=by
 subst hK;exact a0 ha he
end L2
namespace L2
open PySem PySem.Spec PyProof.Rows
theorem CP(K:Frag){X:Cx}{A:Around}{n:Nat}(hr:bV n A)(e:X.A=A:=by rfl)(hK:X.K=K:=by rfl):bZ X (compareOp .Lt) (C6 K):=by
 subst e hK;exact Bf (ad5 (ai0 _ 2) (kG hr))
theorem iy:∀{as:List Addr} {us:List Value},aH (as.map V.ref) us→us=as.map Value.ref
 | [],_,.nil=>rfl
 | _::_,_,.cons h r=>by
  cases h;rw [iy r];rfl
def As(K:Frag)(C:Addr):List V→Hp→VK→Prop:=fun xs H Q=>∃(a d p:Addr) (cs:List Addr) (b:Bool),xs=[.ref a,.ref p]∧H a=some (XO C d a)∧H p=some (.tup (cs.map V.ref))∧kitAny K (.ref C) (cs.map Value.ref)=some b∧Q (.bl b) H
theorem mE{X:Cx}{C fI:Addr}{no:List Str}(K:Frag)(c:qm X.K C fI no)(h1:("__class__":Str)∈no)(h2:("__getattribute__":Str)∈no)(h3:("__getattr__":Str)∈no)(hK:X.K=K:=by rfl):bq X (.builtin "isinstance") (As K C):=by
 subst hK;intro pins s σ H xs us Q I r h;obtain⟨a,d,p,cs,b,rfl,ha,hp,e,q⟩:=h;obtain⟨u1,u2,rfl,r1,r2⟩:=kA r;cases(show u1=Value.ref a from r1);cases(show u2=Value.ref p from r2);obtain⟨o,vs,e1,e2,_⟩:=XO.of (I.hok a _ ha);obtain⟨its,rv,⟨ot,ht,hc,n,hd⟩,_⟩:=I.tuple (bf.of (K:=X.K) hp);cases iy rv;obtain⟨c0,dd,dt,sl⟩:=ot;dsimp only at hc hd;subst hc hd;exact PySem.W.kia_tup (oY c h1 h2 h3) I.kIn ⟨o,e1,e2⟩ ht e (fun z=>nomatch z) fun tk=>⟨.bl b,H,I.tok _,rfl,q⟩
theorem lC{X:Cx}{x:Str}{C:Addr}{k:Nat}{ps no:List Str}{sp:Sp}(K:Frag)(d:qj X.prog X.w X.K X.mg X.base x C k ps sp no)(h1:("__class__":Str)∈no)(h2:("__getattribute__":Str)∈no)(h3:("__getattr__":Str)∈no)(hK:X.K=K:=by rfl):bq X (.builtin "isinstance") (As K C):=
 let ⟨_,_,c,_⟩:=d.ex;mE K c h1 h2 h3 hK
section
variable {X:Cx} {k j:Nat} {f B C fI L:Addr} {fd:FuncData} {ps qs:List Str} {sp sq:Sp} {no:List Str} {x y n r:Str} {p pos cpos np hpos rp rn apos spos:Pos} {e:Expr} {es:List Expr} {t:TA} {ie ir:Nat}
def AA(ie ir:Nat)(C:Addr)(sp:Sp)(t:TA):TS:=fun D σ H=>t σ H fun vs H1=>sp vs H1 (fun _ H2=>D.nx σ H2)
 (fun x _ H2=>∃a d,x=.ref a∧H2 a=some (XO C d a)∧D.nx (((σ.set ie (some (.ref a))).set ir (some (.ref a))).set ie none) H2)
theorem zx(hc:X.calm=true)(hst:X.stack=X.env::X.outer)(hfr:X.env.frame=some L)(hxm:PySem.W.exmOne X.K (.ref C) (.ref B)=some true)(hgC:Gl X y)(hmC:∃u,X.mg y=some u∧aF (.ref B) u)
  (hN:X.N.Nodup) (hn:X.N[ie]?=some n) (hnl:X.env.scope.names.lookup n=some .local) (hrr:X.N[ir]?=some r) (hrl:AF X.env.scope r) (hfnr:X.fn r=true∨X.env.scope.names.lookup r=some .local)
  (dF:vj X.prog X.w X.K X.mg X.base x k ps sp) (hr:bV k X.A) (hg:Gl X x)
  (ha:PA X.nox (e::es) t) (hdb:(x == ("__debug__":Str))=false:=by decide) (hdy:(y == ("__debug__":Str))=false:=by decide) (hdn:(n == ("__debug__":Str))=false:=by decide) (hdc:(n == ("__classdict__":Str))=false:=by decide)
  (he:starEach (e::es) X.env=(false,eval e X.env)::starEach es X.env:=by rfl) (hpl:(backTo cpos (starEach es X.env)).any (·.1)=false:=by rfl)
  (hs1:swapsWith (.Call (.Name x p) (e::es) [] cpos) none apos.line X.env=pure false:=by rfl) (hs2:swapsWith (.Name n rn) (some (.Name r rp)) spos.line X.env=pure false:=by rfl) (hie:ie≠ir:=by decide) :
  PS X (.Try [.Expr (.Call (.Name x p) (e::es) [] cpos) apos] [.ExceptHandler (some (.Name y np)) (some n) [.Assign [.Name r rp] (.Name n rn) spos] hpos] [] [] pos) (AA ie ir C sp t):=by
 obtain⟨f,fd,F,hm,hk,hb⟩:=dF.ex;obtain⟨uB,hmB,rB⟩:=hmC;cases(show uB=Value.ref B from rB);intro pins s σ H D I h;refine wpAny_Try_except ?_;have hcall:=yn (pos:=cpos) (p:=p) F hr hg hm hk hb ha I h hdb he hpl;refine wpAny_execs_cons (wpAny_Expr_any (wpAny_mono hcall (fun u s1 ⟨w,H1,I1,r1,q1⟩=>wpAny_execs_nil (wpAny_execs_nil ⟨_,H1,I1,q1⟩)) fun e1 s1 t1=>?_) I.quiet hs1);obtain⟨H2,a,C',d,fs,ts,rfl,tS,a',d',e',hx',qD⟩:=t1;cases e';refine tS.note hst hfr I.ok.frames fun h1 T1 t1=>?_;refine t1.land fun h2 t2=>?_;obtain⟨oe,vs,oe1,oe2,_,_⟩:=XO.of (t2.inv.hok a _ hx');refine wpAny_handleBy_cons (codeAny_handlers_test (Calls.Name_function_global t2.inv.ok.kind hgC (Calls.loadGlobal_global (by rw [t2.inv.ok.glob];exact t2.inv.mod.glob.keeps t2.inv.bk) hmB ?_) hdy)) (by intro q;cases q);refine(PySem.W.exm_one (M:=model X.prog X.w) t2.inv.kIn (oe2▸(PySem.W.Looks.ld oe1).andThen .now) hxm).at ?_;refine codeAny_handlers_suite_as ?_;refine t2.land fun h3 t3=>?_
 have hie':ie < σ.length:=by rw [I.len];exact(aa1.mp hn).1
 refine fX t3.inv hN hn (.inl hnl) (v:=.ref a) rfl (fun s4 I4=>?_) (.inr hnl);refine wpAny_execs_cons (wpAny_Assign_Name (wpAny_mono (w4 (X:=X.held (.ref a) fun _ _=>False) (i:=ie) (x:=n) (pos:=rn) hn (.inl hnl) hdn hdc pins s4 _ H2 (fun v H=>v=.ref a∧H=H2) (I4.held _ _) ⟨_,ag7 hie',rfl,rfl⟩) (fun u s5 ⟨w,H5,I5,r5,e5,e6⟩=>?_) fun _ _ z=>z.elim) hs2);subst e5 e6;refine fX (I5.unheld I.ok) hN hrr hrl r5 (fun s6 I6=>wpAny_execs_nil ?_) hfnr;exact ug I6 hN hn hnl fun s7 I7=>⟨_,_,I7,qD⟩
end
theorem vj.calm{P:Program}{w:World}{K:Frag}{mg:Str→Option Value}{base:Heap}{x:Str}{k:Nat}{ps:List Str}{sp sp':Sp}(d:vj P w K mg base x k ps sp)(h:∀vs H Q E,sp' vs H Q E→sp vs H Q fun _ _ _=>False):bN P w K mg base x k ps sp':=by
 obtain⟨f,fd,F,hm,hk,hb⟩:=d.ex;refine⟨f,fd,⟨fun vs H Q E q=>F.len vs H Q _ (h _ _ _ _ q),fun A outer s H args us vs Q E hr he hb hv hs=>codeAny_mono (F.run A outer s H args us vs Q _ hr he hb hv (h _ _ _ _ hs)) fun r s' hq=>?_⟩,hm,hk,hb⟩
 cases r with
 | error e=>
  obtain⟨a,C,d,fs,T,H',_,_,_,_,_,_,_,_,_,_,z⟩:=(show rW P w outer H s (fun _ _ _=>False) e s' from hq);exact z.elim
 | ok fl=>cases fl<;>exact hq
theorem exm_own{K:Frag}{t:Value}{c:Addr}{b:Bool}(h0:PySem.W.subIn K (.ref c) (.type "BaseException")=some true)(h1:PySem.W.isClsIn K c=true)(h2:PySem.W.typeIn K (.ref c)=some (.type "type"))(h3:PySem.W.subIn K t (.ref c)=some b):PySem.W.exmOne K t (.ref c)=some b:=by
 unfold PySem.W.exmOne PySem.W.kitCls;have h1:(PySem.W.clsIn K c).isSome=true:=h1;rw [h0];simp only [h1,h2,beq_self_eq_true,Bool.and_self,if_true];exact h3
end L2
namespace L3
open PySem PySem.Spec PyProof.Rows
section
variable {prog:Program} {w:World} {A:Around} {E:Value→Shared→Prop} {s:Shared} {e z TI TO i1 i2:Addr} {f1 f2:List Addr} {n1 n2 k:Nat} {P1 P2:Nat→Value→Prop} {S1 S2:Nat→Heap→Prop} {a b old:Value}
structure EAp(e z TO i1 i2:Addr)(f1 f2:List Addr):Prop where
 a1:e≠z
 a2:e≠TO
 a3:e≠i1
 a4:e≠i2
 n1:e∉f1
 n2:e∉f2
theorem enZ_next{f0:Value}{b1:Bool}{Q:Value→Shared→Prop}(D1:Draws prog w A.in1 i1 f1 n1 P1 S1)(D2:Draws prog w A.in1 i2 f2 n2 P2 S2)(ap:ZAp z TI TO i1 i2 f1 f2)(ae:EAp e z TO i1 i2 f1 f2)(eI:e≠TI)(he:IsEnum s.heap e z ((k:Nat):Int) old)(qz:gk s.heap z TI TO f0 b1)(hf:iA f0)(qI:IsPair s.heap TI (.ref i1) (.ref i2))(qO:IsPair s.heap TO a b)
  (st1:S1 k s.heap) (st2:S2 k s.heap) (k1:k < n1) (k2:k < n2)
  (hQ:∀x y h' tk,P1 k x→P2 k y→IsEnumOut h' e z ((k:Int)+1) (.ref s.heap.objs.size) (s.heap.objs.size+1)→ZipS h' z TI TO→IsPair h' TI (.ref i1) (.ref i2)→(∃a b,IsPair h' TO a b)→S1 (k+1) h'→S2 (k+1) h'→IsPair h' s.heap.objs.size x y→
   IsPair h' (s.heap.objs.size+1) (.int k tk) (.ref s.heap.objs.size)→(∀c o,c≠e→c≠z→c≠TO→c≠i1→c≠i2→s.heap.get? c=some o→h'.get? c=some o)→Q (.ref (s.heap.objs.size+1)) { s with heap:=h',toks:=tk+1 }) :
  wpAny (model prog w) A (Builtin.«enumerate.__next__» ⟨[.ref e],[]⟩) (fun fin s'=>∃v,fin=.done (.ret v)∧Q v s') E s:=by
 obtain⟨hp,g,d,tk₀,os⟩:=s;show wpAny _ _ (field (.ref e) 2 >>= _) _ _ _;refine wpAny_bind (wpAny_field he rfl (x:=.ref z) rfl ?_);have tz:(⟨hp,g,d,tk₀,os⟩:Shared).TypeIs (.ref z) "zip":=⟨_,qz,rfl⟩;show wpAny _ _ (Builtin.SmallTypes.nextOf (.ref z) >>= _) _ _ _;refine wpAny_bind ?_;unfold Builtin.SmallTypes.nextOf;refine wpAny_bind (wpAny_callSpecial?_slot (name:=Str.ofString "__next__") tz F.slot_zip_next (wpAny_call_entry F.slot_zip_next tz F.entry_zip_next (mw D1 D2 ap qz hf qI qO st1 st2 k1 k2 fun x y h₁ tk p1 p2 z₁ _ I₁ O₁ u1 u2 pr sz₁ kp=>wpAny_pure ?_) (F.args_zip_next_1 _)));replace kp:∀c o,c≠z→c≠TO→c≠i1→c≠i2→hp.get? c=some o→h₁.get? c=some o:=kp;replace sz₁:h₁.objs.size=hp.objs.size+1:=sz₁;replace pr:IsPair h₁ hp.objs.size x y:=pr;have he₁:IsEnum h₁ e z ((k:Nat):Int) old:=kp _ _ ae.a1 ae.a2 ae.a3 ae.a4 he;show wpAny _ _ (field (.ref e) 3 >>= _) _ _ ⟨h₁,g,d,tk,os⟩;refine wpAny_bind (wpAny_field he₁ rfl (x:=rawInt k) rfl ?_);show wpAny _ _ (field (.ref e) 4 >>= _) _ _ ⟨h₁,g,d,tk,os⟩;refine wpAny_bind (wpAny_field he₁ rfl (x:=.none) rfl ?_);show wpAny _ _ (mkInt k >>= _) _ _ ⟨h₁,g,d,tk,os⟩;refine wpAny_bind (wpAny_mkInt ?_);show wpAny _ _ (setField (.ref e) 3 (rawInt ((k:Int)+1)) >>= _) _ _ ⟨h₁,g,d,tk+1,os⟩;refine wpAny_bind (wpAny_setField_rec he₁ (by simp) fun h₂ he₂ hs₂=>?_);replace hs₂:Heap.SameBut e h₁ h₂:=hs₂;replace he₂:IsEnum h₂ e z ((k:Int)+1) old:=he₂;show wpAny _ _ (setField (.ref e) 4 .none >>= _) _ _ ⟨h₂,g,d,tk+1,os⟩;refine wpAny_bind (wpAny_setField_rec he₂ (by simp) fun h₃ he₃ hs₃=>?_);replace hs₃:Heap.SameBut e h₂ h₃:=hs₃;replace he₃:IsEnum h₃ e z ((k:Int)+1) old:=he₃;show wpAny _ _ (newTuple [.int k tk,.ref hp.objs.size] >>= _) _ _ ⟨h₃,g,d,tk+1,os⟩;refine wpAny_bind (wpAny_newTuple ?_);have he₄:IsEnum (h₃.push { cls:=.type "tuple",data:=.seq #[.int k tk,.ref hp.objs.size] }) e z ((k:Int)+1) old:=aa3 _ he₃;generalize hh₄:h₃.push { cls:=.type "tuple",data:=.seq #[.int k tk,.ref hp.objs.size] }=h₄ at he₄
 have hsz:h₃.objs.size=hp.objs.size+1:=by rw [hs₃.1,hs₂.1,sz₁]
 have hel:e < hp.objs.size:=aa5 he
 have ht₄:IsPair h₄ (hp.objs.size+1) (.int k tk) (.ref hp.objs.size):=by rw [←hh₄,←hsz];exact aa6 _ rfl
 have hk₄:∀c o,c≠e→h₁.get? c=some o→h₄.get? c=some o:=fun c o hc hb=>by
  rw [←hh₄];exact aa3 _ (hs₃.extBut c o hc (hs₂.extBut c o hc hb))
 show wpAny _ _ (Builtin.SmallTypes.ownedTupleIsFree (.ref e) >>= _) _ _ ⟨h₄,g,d,tk+1,os⟩;rw [hsz];clear hh₄ he₃ hs₃ he₂ hs₂ hsz h₃ h₂;refine wpAny_bind ?_;unfold Builtin.SmallTypes.ownedTupleIsFree;refine wpAny_bind (wpAny_field he₄ rfl (x:=.none) rfl (wpAny_pure ?_));simp only [if_true];refine wpAny_bind (wpAny_rule ?_);refine wpAny_bind (wpAny_field he₄ rfl (x:=old) rfl ?_);refine wpAny_bind (wpAny_setField_rec he₄ (by simp) fun h₅ he₅ hs₅=>?_);replace hs₅:Heap.SameBut e h₄ h₅:=hs₅;replace he₅:IsEnum h₅ e z ((k:Int)+1) (.ref hp.objs.size):=he₅;show wpAny _ _ (Builtin.SmallTypes.ownedTupleHandOut (.ref e) (.ref (hp.objs.size+1)) >>= _) _ _ ⟨h₅,g,d,tk+1,os⟩;refine wpAny_bind ?_;unfold Builtin.SmallTypes.ownedTupleHandOut;refine wpAny_bind (wpAny_setField_rec he₅ (by simp) fun h₆ he₆ hs₆=>?_);replace hs₆:Heap.SameBut e h₅ h₆:=hs₆;replace he₆:IsEnumOut h₆ e z ((k:Int)+1) (.ref hp.objs.size) (hp.objs.size+1):=he₆;refine wpAny_setField_rec he₆ (by simp) fun h₇ he₇ hs₇=>?_;replace hs₇:Heap.SameBut e h₆ h₇:=hs₇;replace he₇:IsEnumOut h₇ e z ((k:Int)+1) (.ref hp.objs.size) (hp.objs.size+1):=he₇;have up4:∀c o,c≠e→h₄.get? c=some o→h₇.get? c=some o:=fun c o hc y=>hs₇.extBut c o hc (hs₆.extBut c o hc (hs₅.extBut c o hc y));have up:∀c o,c≠e→h₁.get? c=some o→h₇.get? c=some o:=fun c o hc y=>up4 c o hc (hk₄ c o hc y);obtain⟨g0,g1,gz,gh⟩:=z₁;obtain⟨ga,gb,gO⟩:=O₁;refine wpAny_bind (wpAny_letGo (wpAny_pure ⟨_,rfl,hQ x y h₇ tk p1 p2 he₇ ⟨g0,g1,up z _ ae.a1.symm gz,gh⟩ (up TI _ eI.symm I₁) ⟨ga,gb,up TO _ ae.a2.symm gO⟩ (D1.frame _ _ _ u1 fun d hd o y=>up d o (fun q=>ae.n1 (q▸hd)) y) (D2.frame _ _ _ u2 fun d hd o y=>up d o (fun q=>ae.n2 (q▸hd)) y) (up _ _ (ad3 hel) pr) (up4 _ _ (ad3 (ah4 hel)) ht₄) fun c o d0 d1 d2 d3 d4 y=>up c o d0 (kp c o d1 d2 d3 d4 y)⟩))
theorem nextEnZ_end{f0:Value}{b1:Bool}{Q:Option Value→Shared→Prop}(D1:Draws prog w A.in1.in1 i1 f1 n1 P1 S1)(D2:Draws prog w A.in1.in1 i2 f2 n2 P2 S2)(ap:ZAp z TI TO i1 i2 f1 f2)(he:IsEnum s.heap e z ((k:Nat):Int) old)(qz:gk s.heap z TI TO f0 b1)(hf:iA f0)(qI:IsPair s.heap TI (.ref i1) (.ref i2))(qO:IsPair s.heap TO a b)
  (st1:S1 k s.heap) (st2:S2 k s.heap) (kk:k=n1∨(k < n1∧k=n2))
  (hQ:∀h' tk,(∀c o,c≠z→c≠TO→c≠i1→c≠i2→s.heap.get? c=some o→h'.get? c=some o)→Q none { s with heap:=h',toks:=tk }):wpAny (model prog w) A (pyNext (.ref e)) Q E s:=by
 have ty:s.TypeIs (.ref e) "enumerate":=⟨_,he,rfl⟩;have tz:s.TypeIs (.ref z) "zip":=⟨_,qz,rfl⟩;unfold pyNext;refine wpAny_bind (wpAny_attempt (wpAny_callSpecial?_slot (name:=Str.ofString "__next__") ty F.slot_enumerate_next (wpAny_call_entry F.slot_enumerate_next ty F.entry_enumerate_next ?_ (F.args_enumerate_next_1 _))));show wpAny _ _ (field (.ref e) 2 >>= _) _ _ _;refine wpAny_bind (wpAny_field he rfl (x:=.ref z) rfl ?_);show wpAny _ _ (Builtin.SmallTypes.nextOf (.ref z) >>= _) _ _ _;refine wpAny_bind ?_;unfold Builtin.SmallTypes.nextOf;refine wpAny_bind (wpAny_callSpecial?_slot (name:=Str.ofString "__next__") tz F.slot_zip_next (wpAny_call_entry F.slot_zip_next tz F.entry_zip_next (qb D1 D2 ap qz hf qI qO st1 st2 kk fun h' e tk hk he=>?_) (F.args_zip_next_1 _)));obtain⟨oe,hoe,hce⟩:=he;exact wpAny_bind (wpAny_isInstance (T:="StopIteration") (b:=true) ⟨oe,hoe,hce⟩ isSubtype_stop (wpAny_pure (hQ _ _ hk)))
end
theorem gm(z TI TO:Addr):
  Meets (Builtin.«enumerate.__new__» ⟨[.type "enumerate",.ref z],[]⟩) (fun _ R s=>IsZip s.heap z TI TO .none∧
   R (.ok (.ret (.ref s.heap.objs.size))) { s with heap:=s.heap.push { cls:=.type "enumerate",data:=.fields #[.none,.bool false,.ref z,rawInt 0,.none,.none] } }):=
 .of_wp fun prog w A R s h=>by
  obtain⟨hp,g,d,tk,os⟩:=s;obtain⟨q1,h⟩:=h;have hsub:=sub_enumerate;have u1:IsZip (Shared.heap ⟨hp,g,d,tk,os⟩) z TI TO .none:=q1;have hl:hp.get? z=some _:=q1
  wp_walk using AutoSeq1.wpAny_loadPart' hl
  refine wpAny_stack_any fun st=>wpAny_pure ?_
  split
  ·rename_i c _ _ _ _ _
   cases(c == Value.type "enumerate")
   ·wp_walk using AutoSeq1.wpAny_loadPart' hl,wpAny_pyIter_zip u1
    exact⟨_,rfl,h⟩
   ·wp_walk using AutoSeq1.wpAny_loadPart' hl,wpAny_pyIter_zip u1
    exact⟨_,rfl,h⟩
  ·wp_walk using AutoSeq1.wpAny_loadPart' hl,wpAny_pyIter_zip u1
   exact⟨_,rfl,h⟩
theorem call_enumerateZ{prog:Program}{w:World}{A:Around}{E:Value→Shared→Prop}{s:Shared}{z TI TO:Addr}{Q:Value→Shared→Prop}(qz:IsZip s.heap z TI TO .none)
  (h:∀h',IsEnum h' s.heap.objs.size z 0 .none→h'.objs.size=s.heap.objs.size+1→(∀b o,s.heap.get? b=some o→h'.get? b=some o)→Q (.ref s.heap.objs.size) { s with heap:=h' }) :
  wpAny (model prog w) A (call (.type "enumerate") [.ref z]) Q E s:=by
 refine callType_new F.called_enumerate (by decide) (F.typeCall_enumerate_1 _) (F.newCall_enumerate_1 _) (fun obj=>F.args_object_init_2 obj _) F.entry_enumerate_new (gm z TI TO) ⟨qz,?_⟩;show _∧_;have he:IsEnum (s.heap.push { cls:=.type "enumerate",data:=.fields #[.none,.bool false,.ref z,rawInt 0,.none,.none] }) s.heap.objs.size z 0 .none:=aa6 _ rfl;exact⟨⟨_,he,rfl⟩,h _ he (ae0 ..) fun b o x=>aa3 _ x⟩
end L3
namespace L2
open PySem PySem.Spec PyProof.Rows
def AD(K:Frag)(l1 l2:Bool)(a1 a2:Addr):It:=
 ⟨fun i H=>∃xs ys x y,eu K l1 H a1 xs∧eu K l2 H a2 ys∧xs[i]?=some x∧ys[i]?=some y,
  fun i H v H'=>∃p q x y,v=.ref p∧H q=none∧H p=none∧p≠q∧H'=upd (upd H q (.tup [x,y])) p (.tup [.int i,.ref q])∧(∀xs,eu K l1 H a1 xs→xs[i]?=some x)∧∀ys,eu K l2 H a2 ys→ys[i]?=some y,
  fun i H=>∃xs ys,eu K l1 H a1 xs∧eu K l2 H a2 ys∧(i=xs.length∨(i < xs.length∧i=ys.length))⟩
theorem rT{P:Program}{w:World}{K:Frag}{elts:List Expr}{kt:Nat}{pt:Pos}(l1 l2:Bool)(a1 a2 e z TI TO i1 i2:Addr)(nd:[e,z,TI,TO,i1,i2].Nodup):
  jt P w K (.Tuple elts kt pt) (AD K l1 l2 a1 a2) [e,z,TI,TO,i1,i2] e
   (fun i h=>(∃old,IsEnum h e z ((i:Nat):Int) old)∧L3.ZipS h z TI TO∧IsPair h TI (.ref i1) (.ref i2)∧(∃a b,IsPair h TO a b)∧fi l1 h i1 a1 i∧fi l2 h i2 a2 i):=by
 have nd':(e≠z∧e≠TI∧e≠TO∧e≠i1∧e≠i2)∧(z≠TI∧z≠TO∧z≠i1∧z≠i2)∧(TI≠TO∧TI≠i1∧TI≠i2)∧(TO≠i1∧TO≠i2)∧i1≠i2:=by
  simpa [not_or]using nd
 obtain⟨⟨g1,g2,g3,g4,g5⟩,⟨d1,d2,d3,d4⟩,⟨d5,d6,d7⟩,⟨d8,d9⟩,d10⟩:=nd'
 have zap:∀{X:Cx} {pins:List (Addr×Obj)} {σ:St} {H:Hp} {s:Shared} {xs ys:List V},az X pins σ H s→(∀b∈[e,z,TI,TO,i1,i2],iz X pins H b)→eu X.K l1 H a1 xs→eu X.K l2 H a2 ys→L3.ZAp z TI TO i1 i2 [i1,a1] [i2,a2]∧L3.EAp e z TO i1 i2 [i1,a1] [i2,a2]:=fun {X pins σ H s xs ys} I hf q1 q2=>by
  have n1:∀b∈[e,z,TI,TO,i1,i2],a1≠b:=fun b hb=>I.seqB_ne q1 (hf b hb);have n2:∀b∈[e,z,TI,TO,i1,i2],a2≠b:=fun b hb=>I.seqB_ne q2 (hf b hb)
  have k1:∀{b:Addr},b∈[e,z,TI,TO,i1,i2]→b≠i1→b∉[i1,a1]:=fun {b} hb h=>by
   simp only [ab6,ac4,or_false,not_or];exact⟨h,(n1 b hb).symm⟩
  have k2:∀{b:Addr},b∈[e,z,TI,TO,i1,i2]→b≠i2→b∉[i2,a2]:=fun {b} hb h=>by
   simp only [ab6,ac4,or_false,not_or];exact⟨h,(n2 b hb).symm⟩
  exact⟨⟨d1.symm,d2.symm,d5,by simp,by simp,k1 (by simp) d3,k2 (by simp) d4,k1 (by simp) d6,k2 (by simp) d7,k1 (by simp) d8,k2 (by simp) d9,k2 (by simp) d10,k1 (by simp) d10.symm⟩,⟨g1,g3,g4,g5,k1 (by simp) g4,k2 (by simp) g5⟩⟩
 refine⟨by simp,?_,?_,?_,?_,?_⟩
 ·rintro i h ⟨⟨old,qe⟩,⟨f0,b1,qz,_⟩,qI,⟨a,b,qO⟩,u1,u2⟩ c hc
  have hc':c=e∨c=z∨c=TI∨c=TO∨c=i1∨c=i2:=by simpa using hc
  rcases hc' with q | q | q | q | q | q
  ·subst q;exact⟨_,qe,fun v q=>by cases q⟩
  ·subst q;exact⟨_,qz,fun v q=>by cases q⟩
  ·subst q;exact⟨_,qI,fun v q=>by cases q⟩
  ·subst q;exact⟨_,qO,fun v q=>by cases q⟩
  ·subst q;exact u1.obj
  ·subst q;exact u2.obj
 ·rintro i h h' ⟨⟨old,qe⟩,⟨f0,b1,qz,hf⟩,qI,⟨a,b,qO⟩,u1,u2⟩ k
  exact⟨⟨old,k e (by simp) _ qe⟩,⟨f0,b1,k z (by simp) _ qz,hf⟩,k TI (by simp) _ qI,⟨a,b,k TO (by simp) _ qO⟩,u1.at fun o e=>k i1 (by simp) o e,u2.at fun o e=>k i2 (by simp) o e⟩
 ·rintro X hP hw hK hc i pins s σ H E I hf ⟨⟨old,qe⟩,⟨f0,b1,qz,hf0⟩,qI,⟨a,b,qO⟩,u1,u2⟩ ⟨xs,ys,x,y,q1,q2,hx,hy⟩
  subst hP hw hK;have hh:X.A.in1.in1.handled=none:=I.ok.hd hc;obtain⟨its1,r1,p1,z1⟩:=I.seqB q1;obtain⟨its2,r2,p2,z2⟩:=I.seqB q2;have D1:=bU (P:=X.prog) (w:=X.w) hh l1 i1 a1 (I.seqB_ne q1 (hf i1 (by simp))) its1.toArray;have D2:=bU (P:=X.prog) (w:=X.w) hh l2 i2 a2 (I.seqB_ne q2 (hf i2 (by simp))) its2.toArray
  have lx:i < its1.toArray.size:=by
   have:=(aa1.mp hx).1
   rw [aa7,←r1.length];exact this
  have ly:i < its2.toArray.size:=by
   have:=(aa1.mp hy).1
   rw [aa7,←r2.length];exact this
  obtain⟨zp,ea⟩:=zap I hf q1 q2;have ty:s.TypeIs (.ref e) "enumerate":=⟨_,qe,rfl⟩;unfold pyNext;refine wpAny_bind (wpAny_attempt (wpAny_callSpecial?_slot (name:=Str.ofString "__next__") ty F.slot_enumerate_next (wpAny_call_entry F.slot_enumerate_next ty F.entry_enumerate_next (L3.enZ_next D1 D2 zp ea g2 qe qz hf0 qI qO ⟨u1,p1⟩ ⟨u2,p2⟩ lx ly fun v1 v2 h' tk e1 e2 eo zs tI tO s1' s2' pr pt kk=>wpAny_pure ?_) (F.args_enumerate_next_1 _))));obtain⟨w1,y1,rx⟩:=r1.get hx;obtain⟨w2,y2,ry⟩:=r2.get hy
  have ev1:v1=w1:=by
   have:its1[i]?=some v1:=by simpa using e1
   rw [y1]at this;exact(Option.some.inj this).symm
  have ev2:v2=w2:=by
   have:its2[i]?=some v2:=by simpa using e2
   rw [y2]at this;exact(Option.some.inj this).symm
  subst ev1 ev2;refine⟨_,rfl,wpAny_letOwnedTupleGo_enum (s:={ s with heap:=h',toks:=tk+1 }) eo fun h2 ee sb=>?_⟩
  have fl:∀c∈[e,z,TI,TO,i1,i2],c < s.heap.objs.size:=fun c hc=>by
   have hc':c=e∨c=z∨c=TI∨c=TO∨c=i1∨c=i2:=by simpa using hc
   rcases hc' with q | q | q | q | q | q
   ·subst q;exact aa5 qe
   ·subst q;exact aa5 qz
   ·subst q;exact aa5 qI
   ·subst q;exact aa5 qO
   ·subst q;obtain⟨o,q,_⟩:=u1.obj;exact aa5 q
   ·subst q;obtain⟨o,q,_⟩:=u2.obj;exact aa5 q
  have fe:=fl e (by simp);have Hn:H s.heap.objs.size=none:=I.hok.fresh (aa8 _);have Hm:H (s.heap.objs.size+1)=none:=I.hok.fresh (al3 _);have mn:s.heap.objs.size+1≠s.heap.objs.size:=Nat.succ_ne_self _
  have kp:∀c o,c∉[e,z,TI,TO,i1,i2]→s.heap.get? c=some o→h2.get? c=some o:=fun c o hc q=>by
   have hc':c≠e∧c≠z∧c≠TI∧c≠TO∧c≠i1∧c≠i2:=by simpa [not_or]using hc
   exact(sb.2 c hc'.1).trans (kk c o hc'.1 hc'.2.1 hc'.2.2.2.1 hc'.2.2.2.2.1 hc'.2.2.2.2.2 q)
  have nf:∀{c:Addr} {u:HO},H c=some u→c∉[e,z,TI,TO,i1,i2]:=fun {c u} q hc=>by
   have:=(hf c hc).1
   rw [q]at this;cases this
  have up2:∀{c:Addr} {u:HO},H c=some u→upd (upd H s.heap.objs.size (.tup [x,y])) (s.heap.objs.size+1) (.tup [.int i,.ref s.heap.objs.size]) c=some u:=fun {c u} q=>by rw [ai (aq q Hm),ai (aq q Hn)];exact q
  have pr2:IsPair h2 s.heap.objs.size v1 v2:=(sb.2 _ (ad3 fe)).trans pr;have pt2:IsPair h2 (s.heap.objs.size+1) (.int i tk) (.ref s.heap.objs.size):=(sb.2 _ (ad3 (ah4 fe))).trans pt
  have I2:az X pins σ (upd (upd H s.heap.objs.size (.tup [x,y])) (s.heap.objs.size+1) (.tup [.int i,.ref s.heap.objs.size])) { s with heap:=h2,toks:=tk+1 }:=by
   refine I.step (g':=s.gens) (d':=s.drawn) (ch:=[e,z,TI,TO,i1,i2]) (fun c hc=>⟨(hf c hc).2.2.2.1,(hf c hc).2.1,(hf c hc).2.2.2.2.1,(hf c hc).2.2.2.2.2⟩) (fun c o _ _ hc e _=>kp c o hc e) (fun c o _ _ hc e _=>⟨o.slots,kp c o hc e⟩)
    (fun c o _ q n=>by rw [ai (ab1 (ah4 (aa5 q))),ai (ab1 (aa5 q))];exact n) (fun c o hc e=>⟨o,kp c o hc e⟩) (fun c us e=>up2 e) (fun c o u e=>up2 e)
    (fun c ps e=>⟨#[],by rw [up2 e];simp⟩) (fun m hm=>?_) (fun c u q=>?_) I.bare
   ·obtain⟨o,es,ep,ho,r⟩:=hm
    exact⟨o,es,ep,kp _ o (fun q=>(hf _ q).2.1 rfl) ho,r⟩
   ·by_cases hcm:c=s.heap.objs.size+1
    ·subst hcm
     rw [ag]at q;cases q;exact⟨by rw [sizeLine_eq];show 2≤16777216;omega,[.int i tk,.ref s.heap.objs.size],.cons ⟨_,rfl⟩ (.cons rfl .nil),_,pt2,rfl,_,rfl⟩
    ·rw [ai hcm]at q
     by_cases hcs:c=s.heap.objs.size
     ·subst hcs
      rw [ag]at q;cases q;exact⟨by rw [sizeLine_eq];show 2≤16777216;omega,[v1,v2],.cons rx (.cons ry .nil),_,pr2,rfl,_,rfl⟩
     ·rw [ai hcs]at q
      refine(I.hok c u q).stay (fun d o hd q2=>kp d o ?_ q2) (fun d q=>up2 q) fun d us q=>up2 q;rcases hd with hd | hd
      ·rw [hd];exact nf q
      ·exact nf hd
  obtain⟨zf,zb,zq,zh⟩:=zs;obtain⟨oa,ob,oq⟩:=tO;refine⟨.ref (s.heap.objs.size+1),_,I2,rfl,⟨_,_,x,y,rfl,Hn,Hm,mn,rfl,fun us hu=>by rw [I.seqB_inj hu q1];exact hx,fun us hu=>by rw [I.seqB_inj hu q2];exact hy⟩,⟨⟨.ref s.heap.objs.size,?_⟩,⟨zf,zb,(sb.2 _ g1.symm).trans zq,zh⟩,(sb.2 _ g2.symm).trans tI,⟨oa,ob,(sb.2 _ g3.symm).trans oq⟩,s1'.1.at fun o e=>(sb.2 _ g4.symm).trans e,s2'.1.at fun o e=>(sb.2 _ g5.symm).trans e⟩,fun c hc=>?_⟩
  ·have q:(((i+1:Nat)):Int)=(i:Int)+1:=by omega
   rw [q];exact ee
  ·have lt:=fl c hc
   show upd (upd H s.heap.objs.size (.tup [x,y])) (s.heap.objs.size+1) (.tup [.int i,.ref s.heap.objs.size]) c=none;rw [ai (ab1 (ah4 lt)),ai (ab1 lt)];exact(hf c hc).1
 ·rintro X hP hw hK hc i pins s σ H E I hf ⟨⟨old,qe⟩,⟨f0,b1,qz,hf0⟩,qI,⟨a,b,qO⟩,u1,u2⟩ ⟨xs,ys,q1,q2,hend⟩
  subst hP hw hK;have hh:X.A.in1.in1.handled=none:=I.ok.hd hc;obtain⟨its1,r1,p1,z1⟩:=I.seqB q1;obtain⟨its2,r2,p2,z2⟩:=I.seqB q2;have D1:=bU (P:=X.prog) (w:=X.w) hh l1 i1 a1 (I.seqB_ne q1 (hf i1 (by simp))) its1.toArray;have D2:=bU (P:=X.prog) (w:=X.w) hh l2 i2 a2 (I.seqB_ne q2 (hf i2 (by simp))) its2.toArray
  have kk:i=its1.toArray.size∨(i < its1.toArray.size∧i=its2.toArray.size):=by
   rw [aa7,aa7,←r1.length,←r2.length];exact hend
  obtain⟨zp,ea⟩:=zap I hf q1 q2;refine L3.nextEnZ_end D1 D2 zp qe qz hf0 qI qO ⟨u1,p1⟩ ⟨u2,p2⟩ kk fun h' tk k=>⟨rfl,?_⟩
  have nf:∀{c:Addr} {u:HO},H c=some u→c∉[e,z,TI,TO,i1,i2]:=fun {c u} q hc=>by
   have:=(hf c hc).1
   rw [q]at this;cases this
  have kp:∀c o,c∉[e,z,TI,TO,i1,i2]→s.heap.get? c=some o→h'.get? c=some o:=fun c o hc q=>by
   have hc':c≠e∧c≠z∧c≠TI∧c≠TO∧c≠i1∧c≠i2:=by simpa [not_or]using hc
   exact k c o hc'.2.1 hc'.2.2.2.1 hc'.2.2.2.2.1 hc'.2.2.2.2.2 q
  refine I.step (g':=s.gens) (d':=s.drawn) (ch:=[e,z,TI,TO,i1,i2]) (fun c hc=>⟨(hf c hc).2.2.2.1,(hf c hc).2.1,(hf c hc).2.2.2.2.1,(hf c hc).2.2.2.2.2⟩) (fun c o _ _ hc e _=>kp c o hc e) (fun c o _ _ hc e _=>⟨o.slots,kp c o hc e⟩)
    (fun c o _ e n=>n) (fun c o hc e=>⟨o,kp c o hc e⟩) (fun c us e=>e) (fun c o u e=>e) (fun c ps e=>⟨#[],by rw [e];simp⟩) (fun m hm=>?_) (fun c u q=>?_) I.bare
  ·obtain⟨o,es,ep,ho,r⟩:=hm
   exact⟨o,es,ep,kp _ o (fun q=>(hf _ q).2.1 rfl) ho,r⟩
  ·refine(I.hok c u q).stay (fun d o hd q2=>kp d o ?_ q2) (fun d q=>q) fun d us q=>q
   rcases hd with hd | hd
   ·rw [hd];exact nf q
   ·exact nf hd
 ·rintro A i s Q E ⟨⟨old,qe⟩,_⟩ h
  exact wpAny_pyIter_enum qe h
def vZ(K:Frag)(ta:TA):TI:=fun σ H R=>ta σ H fun vs H1=>∃l1 l2 a1 a2,vs=[.ref a1,.ref a2]∧(∃xs,eu K l1 H1 a1 xs)∧(∃ys,eu K l2 H1 a2 ys)∧R (AD K l1 l2 a1 a2) H1
theorem w5{X:Cx}{elts:List Expr}{kt:Nat}{pt:Pos}{a b:Expr}{ta:TA}{p p2 pos pos2:Pos}(hg:Gl X "enumerate")(hm:X.mg "enumerate"=none)(hg2:Gl X "zip")(hm2:X.mg "zip"=none)(ha:PA X [a,b] ta)(hs:starEach [a,b] X.env=[(false,eval a X.env),(false,eval b X.env)]:=by rfl)(hs2:starEach [b] X.env=[(false,eval b X.env)]:=by rfl):
  PI X (.Tuple elts kt pt) (.Call (.Name "enumerate" p) [.Call (.Name "zip" p2) [a,b] [] pos2] [] pos) (vZ X.K ta):=by
 intro pins s σ H R I h;refine Call_ (cb I hg hm boot_enumerate (PyProof.Rows.callWith_type1 ?_ rfl rfl));show wpAny _ _ (spliced ((false,eval (.Call (.Name "zip" p2) [a,b] [] pos2) X.env)::backTo pos (starEach [] X.env))) _ _ s;refine Calls.spliced_cons (wpAny_Call_Name_kw (cb I hg2 hm2 boot_zip (PyProof.Rows.callWith_type1 (bz (ha pos2 pins s σ H _ I h) fun us s1 ⟨vs,H1,I1,r1,q1⟩=>?_) (by rw [hs,hs2]) (by rw [hs2];rfl))));obtain⟨l1,l2,a1,a2,e,⟨xs,q1⟩,⟨ys,q2⟩,q⟩:=q1;subst e;obtain⟨u,u',rfl,e1,e2⟩:=kA r1;cases e1;cases e2;obtain⟨its1,r1,p1,z1⟩:=I1.seqB q1;obtain⟨its2,r2,p2,z2⟩:=I1.seqB q2;refine L3.call_zip p1 p2 fun h' qz qI qO g1 g2 sz kp=>Calls.spliced_nil ?_;refine L3.call_enumerateZ (s:={ s1 with heap:=h' }) qz fun h2 qe sz2 kp2=>wpAny_pyIter_enum qe ?_;have kp3:∀c o,s1.heap.get? c=some o→h2.get? c=some o:=fun c o e=>kp2 c o (kp c o e)
 refine⟨h'.objs.size,[h'.objs.size,s1.heap.objs.size+4,s1.heap.objs.size+2,s1.heap.objs.size+3,s1.heap.objs.size,s1.heap.objs.size+1],_,_,H1,rfl,I1.kept (h':=h2) (t':=s1.toks) kp3,
  rT l1 l2 a1 a2 _ _ _ _ _ _ (by rw [sz];simp),⟨⟨_,qe⟩,⟨_,_,kp2 _ _ qz,.inl rfl⟩,kp2 _ _ qI,⟨_,_,kp2 _ _ qO⟩,fi.rec (kp2 _ _ g1),fi.rec (kp2 _ _ g2)⟩,fun c hc=>?_,q⟩
 have hc':s1.heap.objs.size≤c:=by
  have:c=h'.objs.size∨c=s1.heap.objs.size+4∨c=s1.heap.objs.size+2∨c=s1.heap.objs.size+3∨c=s1.heap.objs.size∨c=s1.heap.objs.size+1:=by simpa using hc
  rcases this with e | e | e | e | e | e<;>(rw [e];first | exact aa8 _ | exact ai0 _ _ | (rw [sz];exact ai0 _ _))
 exact I1.fpOk hc' (I1.hok.fresh hc')
theorem qV{g:TG}{tb:TS}{D:eU}{σ:St}{H:Hp}{K:Frag}{l1 l2:Bool}{a1 a2:Addr}{us vs:List V}(hlen:us.length=vs.length)(Pv:Nat→St→Hp→Prop)(h0:Pv 0 σ H)(hl:∀i σ H,i≤us.length→Pv i σ H→eu K l1 H a1 us∧eu K l2 H a2 vs)
  (hs:∀i x y σ H p q,us[i]?=some x→vs[i]?=some y→Pv i σ H→H q=none→H p=none→p≠q→g (.ref p) σ (upd (upd H q (.tup [x,y])) p (.tup [.int i,.ref q])) fun σ2 H2=>tb { D with nx:=Pv (i+1),ct:=Pv (i+1),bk:=D.nx } σ2 H2) (hd:∀σ H,Pv us.length σ H→D.nx σ H):tw g tb D σ (AD K l1 l2 a1 a2) H:=by
 refine⟨fun i m σ H=>m=us.length - i∧i≤us.length∧Pv i σ H,⟨us.length,by simp,ad0 _,h0⟩,?_⟩;rintro i m σ H ⟨rfl,hi,p⟩;obtain⟨q1,q2⟩:=hl i σ H hi p
 by_cases hlt:i < us.length
 ·refine .inr ⟨⟨us,vs,us[i],vs[i]'(by omega),q1,q2,by simp [hlt],aa2 _⟩,Pv (i+1),fun σ' H' p'=>⟨us.length - (i+1),by omega,rfl,hlt,p'⟩,fun x H' y=>?_⟩
  obtain⟨pp,qq,u,v,e,hq,hp,hne,e2,y1,y2⟩:=y;subst e e2;exact hs i u v σ H pp qq (y1 us q1) (y2 vs q2) p hq hp hne
 ·have e:i=us.length:=by omega
  subst e;exact .inl ⟨⟨us,vs,q1,q2,.inl rfl⟩,hd σ H p⟩
end L2
namespace L2
open PySem PySem.Spec PyProof.Rows
theorem gZ(a v:Value):argsOk "min" ⟨[a],[(Str.ofString "default",v)]⟩:=by unfold argsOk;kernel_rfl
theorem tJ{prog:Program}{w:World}{A:Around}{E:Value→Shared→Prop}{s:Shared}{l:Addr}{d:Value}{Q:Value→Shared→Prop}(hd:A.handled=none)(hil:s.heap.IsList l #[])
  (h0:∀h' tt,(∀b o,s.heap.get? b=some o→h'.get? b=some o)→Q d { s with heap:=h',toks:=tt }):wpAny (model prog w) A (call (.builtin "min") [.ref l] [(Str.ofString "default",d)]) Q E s:=by
 have nm:(toString "min" ++ toString ".loop":String)="min.loop":=by decide
 refine kmk_tree F.kind_min F.plain_min F.entry_min (gZ _ _) ?_;show wpAny _ A.in1 (Builtin.Builtins.bindParams "min" ["key","default"] 0 ⟨[],[(Str.ofString "default",d)]⟩ >>= _) _ _ s;refine wpAny_bind (wpAny_of_eq (show Builtin.Builtins.bindParams "min" ["key","default"] 0 ⟨[],[(Str.ofString "default",d)]⟩=pure [none,some d]from rfl) ?_);refine wpAny_bind (wpAny_pure ?_);refine wpAny_bind (wpAny_pyIter_list hil ?_);refine wpAny_bind (wpAny_newObj_type (?_))
 have llt:l < s.heap.objs.size:=by
  obtain⟨o,ho,_⟩:=hil;exact aa5 ho
 rw [nm];refine wpAny_pure ⟨plainId_quiet F.plain_min_loop _,?_⟩
 have esz:(s.heap.push { cls:=.type "list_iterator",data:=.fields #[.ref l,.int 0 0] }).objs.size=s.heap.objs.size+1:=by simp [Heap.push]
 have kp:∀b o,s.heap.get? b=some o→((s.heap.push { cls:=.type "list_iterator",data:=.fields #[.ref l,.int 0 0] }).push { cls:=.type "list",data:=.seq #[] }).get? b=some o:=fun b o e=>aa3 _ (aa3 _ e);have wk:=Walks.list (prog:=prog) (w:=w) (A:=A.in1) hd s.heap.objs.size l (ab1 llt) #[];refine codeAny_builtin F.entry_min_loop (?_);rw [Around.under_plainId (F.plain_min_loop) _];show wpAny _ A.in1 (seqItems? (.ref (s.heap.push { cls:=.type "list_iterator",data:=.fields #[.ref l,.int 0 0] }).objs.size) >>= _) _ _ _;refine wpAny_bind (wpAny_seqItems (aa6 _ rfl) rfl ?_);show wpAny _ A.in1 (tryCatch (pyNext (.ref s.heap.objs.size)) _ >>= _) _ _ _;refine wpAny_bind (wpAny_tryCatch (wk.done _ _ _ ⟨⟨_,aa3 _ (aa6 _ rfl),rfl,rfl⟩,hil.at fun o e=>kp _ _ e⟩ fun h' tt kk'=>?_));refine wpAny_bind (wpAny_rule (wpAny_pure (?_)));refine h0 h' tt fun b o e=>kk' b o (fun z=>?_) (kp b o e);rw [ab7]at z;exact absurd (aa5 e) (by rw [z];exact af2 _)
def Ax(K:Frag)(t tk:TA):TE:=fun σ H Q=>t σ H fun vs H1=>tk σ H1 fun zs H2=>∃p:Addr,vs=[.ref p]∧zs=[.non]∧aI K H2 p []∧Q .non H2
theorem zk{X:Cx}{e v:Expr}{t tk:TA}{p kp pos:Pos}(K:Frag)(hc:X.calm=true)(hg:Gl X "min")(hm:X.mg "min"=none)(ha:PA X [e] t)(hkw:PK X [⟨some (Str.ofString "default"),v,kp⟩] tk)(hK:X.K=K:=by rfl)(hs:starEach [e] X.env=[(false,eval e X.env)]:=by rfl):
  PE X (.Call (.Name "min" p) [e] [⟨some (Str.ofString "default"),v,kp⟩] pos) (Ax K t tk):=by
 subst hK;intro pins s σ H Q I h;refine wpAny_Call_Name_kw (cb I hg hm boot_min ?_ (by decide) (by decide));refine callWith_kw (bz (ha pos pins s σ H _ I h) fun us s1 ⟨vs,H1,I1,r1,q1⟩=>bz (hkw pos pins s1 σ H1 _ I1 q1) fun ws s2 ⟨zs,H2,I2,r2,q2⟩=>?_) (by rw [hs];rfl) (by rw [hs];rfl);obtain⟨l,rfl,rfl,hl,q⟩:=q2;obtain⟨u,rfl,ru⟩:=cN r1;cases ru;obtain⟨u,rfl,ru⟩:=cN r2;cases ru;show wpAny _ _ (call (.builtin "min") [.ref l] [(Str.ofString "default",.none)]) _ _ s2;obtain⟨its,rv,pl,_⟩:=I2.list hl;cases rv;exact tJ (I2.ok.hd hc) pl.isList fun h' tk kp=>⟨.non,H2,I2.kept (t':=tk) kp,rfl,q⟩
end L2
seal PySem.wpAny
namespace K51
open PySem PyProof.Rows L2
def eS(i:Nat):Stmt:=PySem.Challenge.pw_fourvoices_k51_numbers_without_rules.main.body.getD i (.Pass ⟨0,0,0,0⟩)
abbrev fO:Stmt:=eS 18
theorem sc_is_number:aB ["word","figures"] ["word"] (av fO):=⟨rfl,rfl,rfl,by decide +kernel,rfl,by decide +kernel,by decide +kernel⟩
abbrev cW:Stmt:=dw (eS 32) 0
theorem ip:aB ["self","ranges","rules"] ["self","ranges","rules"] (av cW):=⟨rfl,rfl,rfl,by decide +kernel,rfl,by decide +kernel,by decide +kernel⟩
abbrev fb:Stmt:=eS 33
theorem kW:aB ["column","low","high"] ["column","low","high"] (av fb):=⟨rfl,rfl,rfl,by decide +kernel,rfl,by decide +kernel,by decide +kernel⟩
abbrev iP:Stmt:=eS 34
theorem sc_columns:aB ["score","told","low","high","longer","column"] ["score"] (av iP):=⟨rfl,rfl,rfl,by decide +kernel,rfl,by decide +kernel,by decide +kernel⟩
abbrev kh:Stmt:=eS 35
theorem sc_weight:aB ["score","told","low","high","rule"] ["score"] (av kh):=⟨rfl,rfl,rfl,by decide +kernel,rfl,by decide +kernel,by decide +kernel⟩
abbrev dY:Stmt:=eS 36
theorem sc_not_too_wide:aB ["score","told"] ["score"] (av dY):=⟨rfl,rfl,rfl,by decide +kernel,rfl,by decide +kernel,by decide +kernel⟩
abbrev cX:Stmt:=eS 41
theorem sc_memories_after:aB ["rules","memories","before","column","told","place","rule","memory"] ["rules","memories","before","column"] (av cX):=⟨rfl,rfl,rfl,by decide +kernel,rfl,by decide +kernel,by decide +kernel⟩
abbrev fN:Stmt:=eS 42
theorem nR:aB ["rules","memories","last"] ["rules","memories","last"] (av fN):=⟨rfl,rfl,rfl,by decide +kernel,rfl,by decide +kernel,by decide +kernel⟩
abbrev cM:Stmt:=dw (eS 43) 0
theorem gK:aB ["self"] ["self"] (av cM):=⟨rfl,rfl,rfl,by decide +kernel,rfl,by decide +kernel,by decide +kernel⟩
abbrev fM:Stmt:=dw (eS 43) 2
theorem nQ:aB ["self","state","column"] ["self","state","column"] (av fM):=⟨rfl,rfl,rfl,by decide +kernel,rfl,by decide +kernel,by decide +kernel⟩
abbrev eB:Stmt:=dw (eS 43) 3
theorem ki:aB ["self","state"] ["self","state"] (av eB):=⟨rfl,rfl,rfl,by decide +kernel,rfl,by decide +kernel,by decide +kernel⟩
abbrev dm:Stmt:=dw (eS 43) 4
theorem iR:aB ["self"] ["self"] (av dm):=⟨rfl,rfl,rfl,by decide +kernel,rfl,by decide +kernel,by decide +kernel⟩
abbrev eC:Stmt:=dw (eS 43) 5
theorem kj:aB ["self","state"] ["self","state"] (av eC):=⟨rfl,rfl,rfl,by decide +kernel,rfl,by decide +kernel,by decide +kernel⟩
abbrev cE:Stmt:=dw (eS 44) 0
theorem sc_Machine___init__:aB ["self","score","beginning"] ["self","score"] (av cE):=⟨rfl,rfl,rfl,by decide +kernel,rfl,by decide +kernel,by decide +kernel⟩
abbrev dk:Stmt:=dw (eS 44) 1
theorem sc_Machine_build:aB ["self","met","numbers","steps","rules","last","memories","leads","column","found"] ["self","met","numbers","steps"] (av dk):=⟨rfl,rfl,rfl,by decide +kernel,rfl,by decide +kernel,by decide +kernel⟩
abbrev ke:Stmt:=eS 20
theorem uY:aB ["column","given"] ["column","given"] (av ke):=⟨rfl,rfl,rfl,by decide +kernel,rfl,by decide +kernel,by decide +kernel⟩
abbrev gF:Stmt:=eS 46
theorem sc_agreeing:aB ["machine","given","told","column"] ["machine","given"] (av gF):=⟨rfl,rfl,rfl,by decide +kernel,rfl,by decide +kernel,by decide +kernel⟩
abbrev e7:Stmt:=eS 47
theorem kU:aB ["ways","taken","later"] ["ways","taken","later"] (av e7):=⟨rfl,rfl,rfl,by decide +kernel,rfl,by decide +kernel,by decide +kernel⟩
abbrev dX:Stmt:=eS 48
theorem sc_counts_paper:aB ["machine","pattern","backward","given","taken","later"] ["machine","pattern"] (av dX):=⟨rfl,rfl,rfl,by decide +kernel,rfl,by decide +kernel,by decide +kernel⟩
abbrev gJ:Stmt:=eS 50
theorem sc_numbered:aB ["machine","pattern","paper","number","told","state","left","place","given","column","target","many"] ["machine","pattern","paper","number"] (av gJ):=⟨rfl,rfl,rfl,by decide +kernel,rfl,by decide +kernel,by decide +kernel⟩
abbrev iQ:Stmt:=eS 51
theorem sc_line_at:aB ["machine","pattern","number","paper"] ["machine","pattern","number"] (av iQ):=⟨rfl,rfl,rfl,by decide +kernel,rfl,by decide +kernel,by decide +kernel⟩
abbrev dZ:Stmt:=eS 52
theorem sc_unlike_place:aB ["pattern","line","place","pair"] ["pattern","line"] (av dZ):=⟨rfl,rfl,rfl,by decide +kernel,rfl,by decide +kernel,by decide +kernel⟩
abbrev eF:Stmt:=eS 53
theorem km:aB ["machine","state","given","column"] ["machine","state","given","column"] (av eF):=⟨rfl,rfl,rfl,by decide +kernel,rfl,by decide +kernel,by decide +kernel⟩
abbrev gG:Stmt:=eS 54
theorem sc_ahead_by:aB ["machine","pattern","paper","line","told","state","place","column","later"] ["machine","pattern","paper","line"] (av gG):=⟨rfl,rfl,rfl,by decide +kernel,rfl,by decide +kernel,by decide +kernel⟩
abbrev nO:Stmt:=eS 55
theorem xw:aB ["machine","pattern","line"] ["machine","pattern","line"] (av nO):=⟨rfl,rfl,rfl,by decide +kernel,rfl,by decide +kernel,by decide +kernel⟩
abbrev fS:Stmt:=eS 56
theorem sc_number_of:aB ["machine","pattern","line","place","found"] ["machine","pattern","line"] (av fS):=⟨rfl,rfl,rfl,by decide +kernel,rfl,by decide +kernel,by decide +kernel⟩
abbrev dn:Stmt:=eS 37
theorem sc_first_outside:aB ["low","high","voice","line","place","column"] ["low","high","voice","line"] (av dn):=⟨rfl,rfl,rfl,by decide +kernel,rfl,by decide +kernel,by decide +kernel⟩
abbrev nP:Stmt:=eS 38
theorem sc_fault:aB ["score","line","places"] ["score","line"] (av nP):=⟨rfl,rfl,rfl,by decide +kernel,rfl,by decide +kernel,by decide +kernel⟩
abbrev cq:Stmt:=dw (eS 8) 0
theorem fT:aB ["self","number"] ["self","number"] (av cq):=⟨rfl,rfl,rfl,by decide +kernel,rfl,by decide +kernel,by decide +kernel⟩
abbrev eG:Stmt:=eS 90
theorem sc_voice_range:aB ["row","words","bounds"] ["row"] (av eG):=⟨rfl,rfl,rfl,by decide +kernel,rfl,by decide +kernel,by decide +kernel⟩
abbrev rD:Stmt:=eS 91
theorem sc_read:aB ["text","ranges","rules","number","row","bounds"] ["text"] (av rD):=⟨rfl,rfl,rfl,by decide +kernel,rfl,by decide +kernel,by decide +kernel⟩
abbrev kg:Stmt:=eS 93
theorem uZ:aB ["_law_script","_law_k"] ["_law_script","_law_k"] (av kg):=⟨rfl,rfl,rfl,by decide +kernel,rfl,by decide +kernel,by decide +kernel⟩
abbrev fQ:Stmt:=eS 94
theorem sc_law_draws:aB ["_law_cell","_law_many","_law_digits","_law_rest","_law_seed","_law_found","_law_k"] ["_law_cell","_law_many"] (av fQ):=⟨rfl,rfl,rfl,by decide +kernel,rfl,by decide +kernel,by decide +kernel⟩
abbrev e8:Stmt:=eS 95
theorem sc_law_ranges:aB ["_law_script","_law_most","_law_ways","_law_voices","_law_great","_law_low","_law_far","_law_found","_law_k","_law_wide","_law_first"] ["_law_script","_law_most"] (av e8):=⟨rfl,rfl,rfl,by decide +kernel,rfl,by decide +kernel,by decide +kernel⟩
abbrev gI:Stmt:=eS 98
theorem sc_law_text:aB ["_law_ranges_here","_law_rules","_law_rows"] ["_law_ranges_here","_law_rules"] (av gI):=⟨rfl,rfl,rfl,by decide +kernel,rfl,by decide +kernel,by decide +kernel⟩
abbrev fR:Stmt:=eS 99
theorem nT:aB ["_law_found"] ["_law_found"] (av fR):=⟨rfl,rfl,rfl,by decide +kernel,rfl,by decide +kernel,by decide +kernel⟩
abbrev fP:Stmt:=eS 100
theorem sc_law_cells:aB ["_law_script","_law_start","_law_many","_law_found","_law_k"] ["_law_script","_law_start","_law_many"] (av fP):=⟨rfl,rfl,rfl,by decide +kernel,rfl,by decide +kernel,by decide +kernel⟩
abbrev eD:Stmt:=eS 96
theorem sc_law_columns:aB ["_law_ranges_here","_law_found","_law_low","_law_high","_law_longer","_law_column","_law_note"] ["_law_ranges_here"] (av eD):=⟨rfl,rfl,rfl,by decide +kernel,rfl,by decide +kernel,by decide +kernel⟩
abbrev eE:Stmt:=eS 101
theorem sc_law_refused:aB ["_law_machine","_law_pattern","_law_number","_law_kept","e"] ["_law_machine","_law_pattern","_law_number"] (av eE):=⟨rfl,rfl,rfl,by decide +kernel,rfl,by decide +kernel,by decide +kernel⟩
abbrev gH:Stmt:=eS 102
theorem sc_law_same:aB ["_law_found","_law_line","_law_k"] ["_law_found","_law_line"] (av gH):=⟨rfl,rfl,rfl,by decide +kernel,rfl,by decide +kernel,by decide +kernel⟩
abbrev l5:Stmt:=eS 103
theorem sc_law:aB ["_law_script","_law_ranges_here","_law_some","_law_many","_law_line","_law_due","_law_total","_law_cell","_law_pattern","_law_machine","_law_found","_law_more","_law_number"] ["_law_script"] (av l5):=⟨rfl,rfl,rfl,by decide +kernel,rfl,by decide +kernel,by decide +kernel⟩
structure Txt(mg:Str→Option Value)(aM:Addr):Prop where
 n_len:mg "len"=none
 n_range:mg "range"=none
 n_all:mg "all"=none
 n_min:mg "min"=none
 n_max:mg "max"=none
 n_tuple:mg "tuple"=none
 n_list:mg "list"=none
 n_isinstance:mg "isinstance"=none
 n_bool:mg "bool"=none
 n_int:mg "int"=none
 n_str:mg "str"=none
 n_enumerate:mg "enumerate"=none
 n_zip:mg "zip"=none
 n_sum:mg "sum"=none
 n_reversed:mg "reversed"=none
 n_ValueError:mg "ValueError"=none
 g_FIGURES:∃u,mg "FIGURES"=some u∧aF (.str "0123456789") u
 g_MOST_FIGURES:∃u,mg "MOST_FIGURES"=some u∧aF (.int 40) u
 g_MOST_VOICES:∃u,mg "MOST_VOICES"=some u∧aF (.int 4) u
 g_MOST_RULES:∃u,mg "MOST_RULES"=some u∧aF (.int 12) u
 g_MOST_WEIGHT:∃u,mg "MOST_WEIGHT"=some u∧aF (.int 400) u
 g_START:∃u,mg "START"=some u∧aF (.int 0) u
local macro_rules | `(tactic| walk_at "rd") => `(tactic| (try dsimp only [↓sR, ↓pU, ↓jf, ↓mz, ↓mM, ↓mO, ↓mP, ↓mQ, ↓jh, ↓ji, Dj, CA, jI, jU, oW, oV, we, oR, wq, oU, fY, sY, u6, jH, tC, BY, D7, zT, BK, Az, xJ, Dx, p5, sV, xP, BD, DZ, BI, DY, D6, n6, L2.start, List.map_cons, List.map_nil, List.length_cons, List.length_nil, List.replicate, List.cons_append, List.nil_append, List.set_cons_zero, List.set_cons_succ, sR, pU, jf, mz, mM, mO, mP, mQ, jh, ji]) <;> (try simp only [↓sR, ↓pU, ↓jf, ↓mz, ↓mM, ↓mO, ↓mP, ↓mQ, ↓jh, ↓ji, ↓itD, ↓itN, Dj, CA, jI, jU, oW, oV, we, oR, wq, oU, fY, sY, u6, jH, BL, tC, BY, D7, zT, md, BK, Az, xJ, Dx, p5, sV, xP, BD, DZ, BI, p4, xQ, p7, DY, D6, sZ, n6, DW, DX, AQ, Ac, Cp, pL, rI, rU, L2.start, qG, qH, jB, qE, qF, qJ, qK, qL, jC, vM, yu, vG, vK, vH, tY, t7, tZ, t8, tX, t6, vL, vF, vJ, vI, oG, List.map_cons, List.map_nil, List.length_cons, List.length_nil, List.replicate, List.cons_append, List.nil_append, List.append_nil, List.getElem?_cons_zero, List.getElem?_cons_succ, List.set_cons_zero, List.set_cons_succ, Option.some.injEq, AM, Cn, vC, Aa, z7, V.int.injEq, V.str.injEq, V.bl.injEq, V.ref.injEq, V.ty.injEq, List.cons.injEq, and_true, true_and, Dv, Ae, Af, v5, xI, Aw, xO, Ay, Cv, sX, zU, Ad, p6, xM, Cw, Cu, vY, vZ, rN, DN, vO, vP, Cq, Au, xF, BF, Dg, C8, xN, xE, t4, t9, t5, ua, sW, xH, Df, Int.zero_add, if_true, Bool.false_eq_true, if_false, cσ, List.getD_cons_zero, List.getD_cons_succ, z6, AK, Cj, decide_eq_true_eq, reduceCtorEq, false_and, z8, false_or, or_false, Cm, List.length_map, Di, Dk, Eb, D0, vB, yx, Bool.not_eq_true', DM, ite_not, sR, pU, jf, mz, mM, mO, mP, mQ, jh, ji]) <;> try simp only [uc, tV, tU, yr, yt, lI, lJ, vD, vE, tW, vC, Aa, z7, z6, and_true, true_and, V.int.injEq, V.str.injEq, V.bl.injEq, V.ref.injEq, reduceCtorEq, false_and, z8, false_or, or_false])
local macro_rules | `(tactic| walk_at "flds") => `(tactic| simp only [fG, m5, String.reduceEq, if_false, if_true, List.lookup])
def xC:Sp:=fun vs H Q _=>∃z,vs=[.str z]∧z.length≤10000∧∀H',au H H'→Q (.bl (oP z.cps.toList)) H'
theorem xV{H H':Hp}{q:Addr}{x:HO}(h0:H q=none)(s:au H H'):au H (upd H' q x):=fun b o hb=>by
 rw [ai (aq hb h0)];exact s _ _ hb
def Cb(P:Program)(w:World)(K:Frag)(mg:Str→Option Value)(base:Heap)(nv:Nat)(S:aT)(G:Int→Prop)(r:Addr)(H:Hp):Prop:=∃(C:Addr) (RI:Ca),yg P w K mg base 7 nv C S RI G∧RI r H
structure gr(P:Program)(w:World)(K:Frag)(mg:Str→Option Value)(base:Heap)(nv:Nat)(Ss:List aT)(Gs:List (Int→Prop))(H:Hp)(b:Addr)(rs:List Addr):Prop where
 sq:aI K H b (rs.map V.ref)
 len:rs.length=Ss.length
 gl:Gs.length=Ss.length
 at_:∀(j:Nat) (r:Addr) (S:aT) (G:Int→Prop),rs[j]?=some r→Ss[j]?=some S→Gs[j]?=some G→Cb P w K mg base nv S G r H
theorem gr.same{P:Program}{w:World}{K:Frag}{mg:Str→Option Value}{base:Heap}{nv:Nat}{Ss:List aT}{Gs:List (Int→Prop)}{H H':Hp}{b:Addr}{rs:List Addr}(h:gr P w K mg base nv Ss Gs H b rs)(s:au H H'):gr P w K mg base nv Ss Gs H' b rs:=
 ⟨s.seq h.sq,h.len,h.gl,fun j r S G e1 e2 e3=>let ⟨C,RI,h1,h2⟩:=h.at_ j r S G e1 e2 e3;⟨C,RI,h1,h1.mono _ _ _ s h2⟩⟩
def oj(Gs:List (Int→Prop))(ms:List Int):Prop:=ms.length=Gs.length∧∀(j:Nat) (G:Int→Prop) (m:Int),Gs[j]?=some G→ms[j]?=some m→G m
def gP(P:Program)(w:World)(K:Frag)(mg:Str→Option Value)(base:Heap):Sp:=fun vs H Q _=>∃(rb ma ca:Addr) (bx:V) (nv:Nat) (Ss:List aT) (Gs:List (Int→Prop)) (rs:List Addr) (ms c:List Int) (b:Option (List Int)),vs=[.ref rb,.ref ma,bx,.ref ca]∧
 gr P w K mg base nv Ss Gs H rb rs∧Ss.length≤100∧bf K H ma (ms.map V.int)∧oj Gs ms∧BV K H nv b bx∧bf K H ca (c.map V.int)∧c.length=nv∧(gf Ss ms b c=none→∀H',au H H'→Q .non H')∧∀ms',gf Ss ms b c=some ms'→oj Gs ms'→∀p H',H' p=some (.tup (ms'.map V.int))→H p=none→au H H'→Q (.ref p) H'
def gM(P:Program)(w:World)(K:Frag)(mg:Str→Option Value)(base:Heap):Sp:=fun vs H Q _=>∃(rb ma:Addr) (bx:V) (nv:Nat) (Ss:List aT) (Gs:List (Int→Prop)) (rs:List Addr) (ms:List Int) (b:Option (List Int)),vs=[.ref rb,.ref ma,bx]∧
 gr P w K mg base nv Ss Gs H rb rs∧Ss.length≤100∧bf K H ma (ms.map V.int)∧oj Gs ms∧BV K H nv b bx∧∀H',au H H'→Q (.bl (cc Ss ms b)) H'
section
variable {P:Program} {w:World} {K:Frag} {mg:Str→Option Value} {base:Heap} {aM:Addr}
theorem uI{f:Addr}{fd:FuncData}(F:cY K "is_number" "is_number" fO f fd)(T:Txt mg aM):aR P w K mg base cO 1 f fd ["word"] xC:=by
 refine F.ok sc_is_number (fun vs H Q E h=>?_) (fun cdv A outer s H vs Q E hr h=>?_)
 ·obtain⟨z,rfl,_⟩:=h
  rfl
 obtain⟨z,rfl,hz,k⟩:=h
 refine⟨_,(ah (ay (i:=1) sc_is_number.nd rfl (Or.inl rfl) (fL (a0 (bO K PySem.F.plainAttrs_str PySem.F.slot_str_startswith PySem.F.type_str_startswith kP (pr 0) (aa dS af)) (fun _=>rfl)) (pF (C9 K) (pr 0) (C3 ao) sI) (pr 0)))
 (ah (bL (PW.pt (fg (cz (aN x6 (pr 1) dS (aQ _))) (eZ (cz (aN (o0 Am) (ax (aG K) (by rfl) T.n_len boot_len (aa (pr 1) af)) (eA T.g_MOST_FIGURES) (aQ _)))))) (ak (aC eP)) aY)
 (ah (bL (cL (a0 (ax (eK K rfl) (by rfl) T.n_all boot_all (aa (bP (own:=["sign"]) (js:=[]) rfl (aX K (pr 1)) (aW.of (by rfl)) (fun _ _ _ _ _=>(aw (i:=0) (show List.Nodup (["sign"]:List Str)from by decide +kernel) rfl (Or.inl rfl))) (fun _ _ _ _ _=>bS) (fun _ _ _ _ _=>(dz (CO K) (pr 0) (eA T.g_FIGURES) (by with_unfolding_all rfl)))) af)) (fun _=>rfl))) (ak (aC eP)) aY)
 (ak (aC (Ao (Aq (dz DS (aV (bC K) (pr 1) ao (fun _ _=>rfl)) dS (aQ _)) (ni (dz x6 (pr 0) dS (aQ _)))))))))),?_⟩
 have hs:sizeLine=16777216:=sizeLine_eq
 have c0:(Str.ofString "").cps.toList=[]:=by decide +kernel
 have c45:(Str.ofString "-")=⟨#[45]⟩:=by decide +kernel
 have c48:(Str.ofString "0").cps.toList=[48]:=by decide +kernel
 have cF:(Str.ofString "0123456789").cps.toList=[48,49,50,51,52,53,54,55,56,57]:=by decide +kernel
 refine DL (fun σ H'=>∃y,σ=[some (.str z),some (.str y)]∧H=H'∧y.cps.toList=eO z.cps.toList) ?_ ?_
 ·rintro _ _ ⟨y,rfl,rfl,hy⟩
  have hyl:y.length≤10000:=by
   rw [aZ,hy];rw [aZ]at hz;refine ac0 ?_ hz;unfold eO
   split
   ·rw [List.length_tail];omega
   ·exact aa8 _
  walk_at "rd";have hk:=k;rw [qR,←hy,←aZ]at hk;have q0:=hk H (au.refl H)
  by_cases h1:y=Str.ofString ""
  ·rw [if_pos h1]
   rw [if_pos (Or.inl (by rw [h1,c0]))]at q0;exact q0
  rw [if_neg h1];refine⟨by omega,?_⟩
  by_cases h2:(40:Int) < y.length
  ·rw [if_pos h2]
   rw [if_pos (Or.inr (by omega))]at q0;exact q0
  rw [if_neg h2]
  have h3:¬(y.cps.toList=[]∨40 < y.length):=by
   rintro(e | e)
   ·exact h1 (str_iff.mpr (by rw [e,c0]))
   ·omega
  rw [if_neg h3]at hk;have e0:y.cps.toList≠[]:=fun e=>h3 (Or.inl e);refine zF (tL (fun i ys H'=>ys=(y.cps.toList.take i).map (fun c=>V.bl (decide (c∈[48,49,50,51,52,53,54,55,56,57])))∧H=H') (by omega) ⟨rfl,rfl⟩ ?_ ?_ ?_)
  ·rintro i ys H' ⟨rfl,rfl⟩
   rw [aa0,ac6];omega
  ·rintro i c ys H' hc ⟨rfl,rfl⟩
   walk_at "rd";rw [cF,ab9,hc];simp
  ·rintro ys H' ⟨rfl,rfl⟩ p hp
   rw [aZ,ac9];refine⟨y.cps.toList.map (fun c=>decide (c∈[48,49,50,51,52,53,54,55,56,57])),aI.of (by rw [ag,ai1];rfl),?_⟩
   have ed:(List.map (fun c=>decide (c∈[48,49,50,51,52,53,54,55,56,57])) y.cps.toList).all id=oF y.cps.toList:=by
    unfold oF;rw [am5];rfl
   have q1:=hk _ (ar (o:=.lst ((y.cps.toList.take y.cps.toList.length).map (fun c=>V.bl (decide (c∈[48,49,50,51,52,53,54,55,56,57]))))) hp);rw [ac9]at q1;rw [ed]
   by_cases h4:oF y.cps.toList=false
   ·rw [if_pos h4]
    rw [if_pos h4]at q1;exact q1
   rw [if_neg h4];rw [if_neg h4]at q1;refine⟨by rw [←aZ];omega,?_⟩
   cases hh:y.cps.toList with
   | nil=>exact absurd hh e0
   | cons a l=>
    rw [hh]at q1;refine⟨a,dD rfl,?_⟩
    by_cases ha:a=48
    ·subst ha
     rw [if_pos (str_iff.mpr (by rw [c48])),ix,c48];simpa using q1
    ·rw [if_neg (fun e=>ha (by have:=str_iff.mp e;rw [c48]at this;simpa using this))]
     simpa [ha]using q1
 ·intro u' hu
  walk_at "rd";rw [c45,rL]
  by_cases h1:z.cps.toList.head?=some 45
  ·rw [if_pos (by simpa using h1)]
   exact⟨by omega,hu _ _ ⟨_,rfl,rfl,by rw [rF (by decide)];unfold eO;rw [if_pos h1];simp⟩⟩
  ·rw [if_neg (by simpa using h1)]
   exact hu _ _ ⟨_,rfl,rfl,by unfold eO;rw [if_neg h1]⟩
theorem m8{f:Addr}{fd:FuncData}(F:cY K "memories_after" "memories_after" cX f fd)(T:Txt mg aM):aR P w K mg base cO 8 f fd ["rules","memories","before","column"] (gP P w K mg base):=by
 refine F.ok sc_memories_after (fun vs H Q E h=>?_) (fun cdv A outer s H vs Q E hr h=>?_)
 ·obtain⟨rb,ma,ca,bx,nv,Ss,Gs,rs,ms,c,b,rfl,_⟩:=h
  rfl
 obtain⟨rb,ma,ca,bx,nv,Ss,Gs,rs,ms,c,b,rfl,RM,lS,hma,hM,hb,hc,hcl,k1,k2⟩:=h
 refine⟨_,(ah (ay (i:=4) sc_memories_after.nd rfl (Or.inl rfl) (bA af))
 (ah (bu PassesOwn.never rfl (dW rfl T.n_enumerate (aa (pr 0) af)) (bE K (n:=2) rfl (aD (aw (i:=5) sc_memories_after.nd rfl (Or.inl rfl)) (aD (aw (i:=6) sc_memories_after.nd rfl (Or.inl rfl)) bF)))
 (ah (ay (i:=7) sc_memories_after.nd rfl (Or.inl rfl) (dh P w K mg base hr (pr 6) (aa (aV (bC K) (pr 1) (pr 5) (fun _ _=>rfl)) (aa (pr 2) (aa (pr 3) af)))))
 (ah (bL (cz (aN j5 (pr 7) bR (aQ _))) (ak (aC bR)) aY)
 (ak (bG (bO K PySem.F.plainAttrs_list PySem.F.slot_list_append PySem.F.type_list_append bp (pr 4) (aa (pr 7) af)))))))
 (ak (aC (bc (fw K) (by rfl) T.n_tuple boot_tuple (aa (pr 4) af)))))),?_⟩
 have hs:sizeLine=16777216:=sizeLine_eq;have lr:=RM.len;have lg:=RM.gl;have lm:=hM.1
 have lres:(nM Ss ms b c).length=Ss.length:=by
  unfold nM;rw [List.length_zipWith];omega
 refine aL (fun σ H'=>∃q:Addr,H q=none∧H' q=some (.lst [])∧σ=[some (.ref rb),some (.ref ma),some bx,some (.ref ca),some (.ref q),none,none,none]∧au H H') ?_ ?_
 ·intro u' hu
  walk_at "rd";exact⟨by omega,fun q hq=>hu _ _ ⟨q,hq,ag,rfl,ar hq⟩⟩
 rintro _ H1 ⟨q,hq0,hq1,rfl,s1⟩;refine aL (fun σ H'=>∃(r:List Int) (o5 o6 o7:Option V),nM Ss ms b c=r.map some∧H' q=some (.lst (r.map V.int))∧σ=[some (.ref rb),some (.ref ma),some bx,some (.ref ca),some (.ref q),o5,o6,o7]∧au H H') ?_ ?_
 ·intro u' hu
  walk_at "rd";obtain⟨Pv,hPv⟩:∃Pv:Nat→L2.St→Hp→Prop,Pv=fun i σ H'=>∃(r:List Int) (o5 o6 o7:Option V),(nM Ss ms b c).take i=r.map some∧r.length=i∧H' q=some (.lst (r.map V.int))∧σ=[some (.ref rb),some (.ref ma),some bx,some (.ref ca),some (.ref q),o5,o6,o7]∧au H H':=⟨_,rfl⟩;refine⟨true,⟨_,s1.seq RM.sq⟩,dP (l:=true) (us:=rs.map V.ref) Pv (by rw [hPv];exact⟨[],none,none,none,rfl,rfl,hq1,rfl,s1⟩) (fun i σ H' _ h=>?_) ?_ ?_⟩
  ·rw [hPv]at h
   obtain⟨_,_,_,_,_,_,_,_,s'⟩:=h;exact s'.seq RM.sq
  ·intro i y σ H2 p hx hI hp0
   rw [hPv]at hI;obtain⟨r,o5,o6,o7,hr1,hrl,hq2,rfl,s2⟩:=hI;rw [aa4]at hx
   cases hri:rs[i]? with
   | none=>rw [hri]at hx;cases hx
   | some ra=>
    rw [hri]at hx;cases hx
    have hi:i < Ss.length:=by rw [←lr];exact(aa1.mp hri).1
    obtain⟨S,hS⟩:∃S,Ss[i]?=some S:=⟨_,aa2 hi⟩;obtain⟨G,hG⟩:∃G,Gs[i]?=some G:=⟨_,aa2 (by omega)⟩;obtain⟨m,hm⟩:∃m,ms[i]?=some m:=⟨_,aa2 (by omega)⟩
    have hres:(nM Ss ms b c)[i]?=some (S.after m b c):=by
     unfold nM;rw [aj1,hS,hm]
    have s3:au H (upd H2 p (.tup [.int i,.ref ra])):=s2.upd hp0;have hq3:=(ar (o:=HO.tup [.int i,.ref ra]) hp0) _ _ hq2;have s23:=ar (o:=HO.tup [.int i,.ref ra]) hp0;walk_at "rd";refine⟨_,bf.of ag,rfl,?_⟩;walk_at "rd";generalize upd H2 p (.tup [.int i,.ref ra])=H3 at s3 hq3 s23;obtain⟨C,RI,RO,hRI⟩:=(RM.same s3).at_ i ra S G hri hS hG;obtain⟨dx,fs,hir,z1,z2,z3,z4,z5⟩:=RO.ins ra H3 hRI;refine⟨C,dx,fs,hir,z3,_,_,RO.after,eQ (s3.tup hma) (aK (by rw [aa4,hm];rfl)) ⟨ra,m,bx,ca,b,c,rfl,hRI,hM.2 i G m hG hm,hb.same s3,s3.tup hc,hcl,?_⟩⟩
    cases ha:S.after m b c with
    | none=>
     show if CG none=V.non then _ else _;rw [if_pos (show CG none=V.non from rfl)];exact k1 (l6 (i:=i) (by rw [hres,ha])) _ s3
    | some m'=>
     show if CG (some m')=V.non then _ else _;rw [if_neg (show ¬(CG (some m')=V.non)from fun z=>by cases z)];refine⟨.inl ⟨rfl,_,aI.of hq3⟩,q,_,_,rfl,rfl,hq3,by rw [aa0];omega,?_⟩;rw [hPv];refine⟨r++[m'],_,_,_,?_,by rw [ab3,hrl];rfl,?_,rfl,xV hq0 s3⟩
     ·rw [ab9,hr1,hres,ha,ab4]
      rfl
     ·rw [ag,ab4]
      rfl
  ·intro σ H2 hI
   rw [hPv]at hI;obtain⟨r,o5,o6,o7,hr1,hrl,hq2,rfl,s2⟩:=hI;rw [aa0,lr,←lres,ac9]at hr1;exact hu _ _ ⟨r,o5,o6,o7,hr1,hq2,rfl,s2⟩
 rintro _ H2 ⟨r,o5,o6,o7,hr1,hq2,rfl,s2⟩;walk_at "rd";have hsome:=l7 hr1;refine⟨_,.inl ⟨aI.of hq2,fun p hp=>k2 r hsome ⟨?_,fun j G m' hG hm'=>?_⟩ p _ ag (s2.free hp) (s2.upd hp)⟩⟩
 ·have:=congrArg List.length hr1
  rw [aa0]at this;omega
 ·have hj:j < Gs.length:=(aa1.mp hG).1
  obtain⟨S,hS⟩:∃S,Ss[j]?=some S:=⟨_,aa2 (by omega)⟩;obtain⟨m,hm⟩:∃m,ms[j]?=some m:=⟨_,aa2 (by omega)⟩;obtain⟨ra,hra⟩:∃ra,rs[j]?=some ra:=⟨_,aa2 (by omega)⟩;obtain⟨C,RI,RO,_⟩:=RM.at_ j ra S G hra hS hG
  have hres:(nM Ss ms b c)[j]?=some (S.after m b c):=by
   unfold nM;rw [aj1,hS,hm]
  rw [hr1,aa4,hm']at hres;exact RO.gS m b c m' (hM.2 j G m hG hm) (Option.some.inj hres).symm
theorem m7{f:Addr}{fd:FuncData}(F:cY K "all_close" "all_close" fN f fd)(T:Txt mg aM):aR P w K mg base cO 8 f fd ["rules","memories","last"] (gM P w K mg base):=by
 refine F.ok nR (fun vs H Q E h=>?_) (fun cdv A outer s H vs Q E hr h=>?_)
 ·obtain⟨rb,ma,bx,nv,Ss,Gs,rs,ms,b,rfl,_⟩:=h
  rfl
 obtain⟨rb,ma,bx,nv,Ss,Gs,rs,ms,b,rfl,RM,lS,hma,hM,hb,k⟩:=h;refine⟨_,(ak (aC (ax (eK K rfl) (by rfl) T.n_all boot_all (aa (bP (own:=["rule","memory"]) (js:=[2]) rfl (w6 rfl T.n_zip (aa (pr 0) (aa (pr 1) af))) (aW.of (by rfl)) (fun _ _ _ _ _=>(bE K (n:=2) rfl (aD (aw (i:=0) (show List.Nodup (["rule","memory","last"]:List Str)from by decide +kernel) rfl (Or.inl rfl)) (aD (aw (i:=1) (show List.Nodup (["rule","memory","last"]:List Str)from by decide +kernel) rfl (Or.inl rfl)) bF)))) (fun _ _ _ _ _=>bS) (fun _ _ _ _ _=>(dh P w K mg base hr (pr 0) (aa (pr 1) (aa (pr 2) af))))) af)))),?_⟩;have hs:sizeLine=16777216:=sizeLine_eq;have lr:=RM.len;have lg:=RM.gl;have lm:=hM.1;walk_at "rd";refine⟨true,⟨_,RM.sq⟩,false,⟨_,hma⟩,lG (l1:=true) (l2:=false) (us:=rs.map V.ref) (vs:=ms.map V.int) (fun i ys H'=>ys=((List.zipWith (fun S m=>S.closes m b) Ss ms).take i).map V.bl∧au H H') (by rw [aa0];omega) (by rw [aa0,aa0];omega) ⟨rfl,au.refl _⟩ ?_ ?_ ?_ ?_⟩
 ·rintro i ys H' ⟨rfl,_⟩
  rw [aa0,ac6];omega
 ·rintro i ys H' ⟨rfl,s'⟩
  exact⟨s'.seq RM.sq,s'.tup hma⟩
 ·rintro i x y ys H1 p hx hy ⟨rfl,s1⟩ hp
  rw [aa4]at hx hy
  cases hri:rs[i]? with
  | none=>rw [hri]at hx;cases hx
  | some ra=>
   cases hm:ms[i]? with
   | none=>rw [hm]at hy;cases hy
   | some m=>
    rw [hri]at hx;rw [hm]at hy;cases hx;cases hy
    have hi:i < Ss.length:=by rw [←lr];exact(aa1.mp hri).1
    obtain⟨S,hS⟩:∃S,Ss[i]?=some S:=⟨_,aa2 hi⟩;obtain⟨G,hG⟩:∃G,Gs[i]?=some G:=⟨_,aa2 (by omega)⟩;have s2:au H (upd H1 p (.tup [.ref ra,.int m])):=s1.upd hp;simp only [cy];walk_at "rd";refine⟨_,bf.of ag,rfl,?_⟩;walk_at "rd";generalize upd H1 p (.tup [.ref ra,.int m])=H2 at s2;obtain⟨C,RI,RO,hRI⟩:=(RM.same s2).at_ i ra S G hri hS hG;obtain⟨dx,fs,hir,z1,z2,z3,z4,z5⟩:=RO.ins ra H2 hRI;refine⟨C,dx,fs,hir,z4,_,_,RO.closes,ra,m,bx,b,rfl,hRI,hM.2 i G m hG hm,hb.same s2,?_⟩
    have hz:(List.zipWith (fun S m=>S.closes m b) Ss ms)[i]?=some (S.closes m b):=by rw [aj1,hS,hm]
    refine⟨?_,s2⟩;rw [ab9,hz,ab4];rfl
 ·rintro ys H1 ⟨rfl,s1⟩ p hp
  refine⟨_,aI.of ag,?_⟩;rw [aa0];have e:(List.zipWith (fun S m=>S.closes m b) Ss ms).take rs.length=List.zipWith (fun S m=>S.closes m b) Ss ms:=ae6 (by rw [List.length_zipWith];omega);rw [e];exact k _ (s1.upd hp)
end
structure fm(P:Program)(w:World)(Ss:List aT)(Gs:List (Int→Prop))(cols:List (List Int))(nv:Nat)(U:List MS)(H:Hp)(ma na la wa:Addr)(H':Hp)(met:List MS)(ds:List Addr):Prop where
 mt:∃ps:List Addr,H' ma=some (.lst (ps.map V.ref))∧ps.length=met.length∧∀(j:Nat) (p:Addr) (s:MS),ps[j]?=some p→met[j]?=some s→(fk P w).at_ H' (bj s) p
 nm:∃xs,aP (fk P w) H' na xs∧gU met xs∧xs.length≤met.length
 la_:H' la=some (.lst (ds.map V.ref))
 ld:∀(i:Nat) (d:Addr) (s:MS),ds[i]?=some d→met[i]?=some s→∃xs,aP (og P w) H' d xs∧cJ Ss cols met s xs
 fr:∀d∈ds,H d=none
 wl:H' wa=some (.lst ((met.take ds.length).map fun s=>V.bl (cc Ss s.2 s.1)))
 le:ds.length≤met.length
 mf:rX Ss cols met
 al:∀s∈met,s∈U∧oj Gs s.2∧∀c,s.1=some c→c.length=nv
 sx:om [ma,na,la,wa] H H'
section
variable {P:Program} {w:World} {Ss:List aT} {Gs:List (Int→Prop)} {cols:List (List Int)} {nv:Nat} {U:List MS} {H H' H'':Hp} {ma na la wa:Addr} {met:List MS} {ds:List Addr}
theorem fm.same(B:fm P w Ss Gs cols nv U H ma na la wa H' met ds)(s:au H' H''):fm P w Ss Gs cols nv U H ma na la wa H'' met ds where
 mt:=let ⟨ps,h1,h2,h3⟩:=B.mt;⟨ps,s _ _ h1,h2,fun j p t e1 e2=>(fk P w).same s (h3 j p t e1 e2)⟩
 nm:=let ⟨xs,h1,h2,h3⟩:=B.nm;⟨xs,h1.same s,h2,h3⟩
 la_:=s _ _ B.la_
 ld:=fun i d t e1 e2=>let ⟨xs,h1,h2⟩:=B.ld i d t e1 e2;⟨xs,h1.same s,h2⟩
 fr:=B.fr
 wl:=s _ _ B.wl
 le:=B.le
 mf:=B.mf
 al:=B.al
 sx:=fun b o hb e=>s _ _ (B.sx b o hb e)
theorem fm.upd{z:Addr}{o:HO}(B:fm P w Ss Gs cols nv U H ma na la wa H' met ds)(nt:∀vs,H' z≠some (.tup vs))(h0:H z=none)(n1:z≠ma)(n2:z≠na)(n3:z≠la)(n4:z≠wa)(nd:∀d∈ds,d≠z):fm P w Ss Gs cols nv U H ma na la wa (upd H' z o) met ds where
 mt:=let ⟨ps,h1,h2,h3⟩:=B.mt;⟨ps,by rw [ai n1.symm];exact h1,h2,fun j p t e1 e2=>(fk P w).upd_ (h3 j p t e1 e2) nt⟩
 nm:=let ⟨xs,h1,h2,h3⟩:=B.nm;⟨xs,h1.upd n2.symm nt,h2,h3⟩
 la_:=by rw [ai n3.symm];exact B.la_
 ld:=fun i d t e1 e2=>let ⟨xs,h1,h2⟩:=B.ld i d t e1 e2;⟨xs,h1.upd (nd d (aa9 e1)) nt,h2⟩
 fr:=B.fr
 wl:=by rw [ai n4.symm];exact B.wl
 le:=B.le
 mf:=B.mf
 al:=B.al
 sx:=fun b o' hb e=>by rw [ai (fun q=>by rw [q,h0]at e;cases e)];exact B.sx b o' hb e
theorem fm.put{xs:List (List (Option (List Int))×Addr×V)}{ps:List Addr}{p:Addr}{s' t:MS}{i:Nat}{c:List Int}(B:fm P w Ss Gs cols nv U H ma na la wa H' met ds)(D:aP (fk P w) H' na xs)(hN:gU met xs)(hx:xs.length≤met.length)(h1:H' ma=some (.lst (ps.map V.ref)))(h2:ps.length=met.length)
  (h3:∀(j:Nat) (p:Addr) (s:MS),ps[j]?=some p→met[j]?=some s→(fk P w).at_ H' (bj s) p) (hp:(fk P w).at_ H' (bj s') p) (hnew:s'∉met) (hU:s'∈U) (hM:oj Gs s'.2) (hw:∀c,s'.1=some c→c.length=nv) (hfrom:met[i]?=some t) (hc:c∈cols) (hn:aJ Ss t c=some s')
  (lm:met.length < 100000) (n1:ma≠na) (n3:ma≠la) (n4:ma≠wa) (m3:na≠la) (m4:na≠wa) (hma:H ma≠none) (hna:H na≠none) :
  fm P w Ss Gs cols nv U H ma na la wa (L2.upd (L2.upd H' na (dO (fk P w) na (cP xs (bj s') p (.int met.length)))) ma (.lst (ps.map V.ref++[.ref p]))) (met++[s']) ds:=by
 have ntN:∀vs,H' na≠some (.tup vs):=fun vs e=>by rw [D.ob]at e;cases e
 have ntM:∀vs,(L2.upd H' na (dO (fk P w) na (cP xs (bj s') p (.int met.length)))) ma≠some (.tup vs):=fun vs e=>by rw [ai n1,h1]at e;cases e
 have dM:∀d∈ds,d≠ma:=fun d hd e=>hma (by rw [←e];exact B.fr d hd);have dN:∀d∈ds,d≠na:=fun d hd e=>hna (by rw [←e];exact B.fr d hd);have up2:∀{k:List (Option (List Int))} {a:Addr},(fk P w).at_ H' k a→(fk P w).at_ (L2.upd (L2.upd H' na (dO (fk P w) na (cP xs (bj s') p (.int met.length)))) ma (.lst (ps.map V.ref++[.ref p]))) k a:=fun h=>(fk P w).upd_ ((fk P w).upd_ h ntN) ntM
 have hput:(cP xs (bj s') p (V.int met.length)).length≤met.length+1:=by
  unfold cP
  split
  ·rw [aa0];omega
  ·rw [ab3];simp;omega
 refine⟨⟨ps++[p],by rw [ag,ab4];rfl,by rw [ab3,ab3,h2];rfl,fun j q t e1 e2=>?_⟩,⟨_,(D.put hp (by omega)).upd n1.symm ntM,hN.put hnew,by rw [ab3];exact hput⟩,?_,fun i d t e1 e2=>?_,B.fr,?_,?_,⟨?_,?_,fun i' t' e1 hi=>?_⟩,fun t ht=>?_,fun b o hb e=>?_⟩
 ·by_cases hj:j < ps.length
  ·rw [ab5 hj]at e1
   rw [ab5 (by rw [←h2];exact hj)]at e2;exact up2 (h3 j q t e1 e2)
  ·rw [ab8 (by omega)]at e1
   rw [ab8 (by rw [←h2];omega),←h2]at e2
   have h0:j - ps.length=0:=by
    have:=(aa1.mp e1).1
    simp at this;omega
   rw [h0]at e1 e2;cases e1;cases e2;exact up2 hp
 ·rw [ai n3.symm,ai m3.symm]
  exact B.la_
 ·have hlt:i < met.length:=ab2 (aa1.mp e1).1 B.le
  rw [ab5 hlt]at e2;obtain⟨ys,g1,g2⟩:=B.ld i d t e1 e2;have hd:=aa9 e1;exact⟨ys,(g1.upd (dN d hd) ntN).upd (dM d hd) ntM,g2.more _⟩
 ·rw [ai n4.symm,ai m4.symm,List.take_append_of_le_length B.le]
  exact B.wl
 ·rw [ab3]
  have:=B.le
  omega
 ·refine al7.mpr ⟨B.mf.nd,by simp,fun x hx y hy=>?_⟩
  rw [ab7.mp hy];rintro rfl;exact hnew hx
 ·rw [ab5 (aa1.mp B.mf.st).1]
  exact B.mf.st
 ·by_cases hj:i' < met.length
  ·rw [ab5 hj]at e1
   obtain⟨j,t0,c0,g1,g2,g3,g4⟩:=B.mf.sub i' t' e1 hi;exact⟨j,t0,c0,g1,by rw [ab5 (by omega)];exact g2,g3,g4⟩
  ·rw [ab8 (by omega)]at e1
   have h0:i' - met.length=0:=by
    have:=(aa1.mp e1).1
    simp at this;omega
   rw [h0]at e1;cases e1;have hlt:=(aa1.mp hfrom).1;exact⟨i,t,c,by omega,by rw [ab5 hlt];exact hfrom,hc,hn⟩
 ·rcases ad7.mp ht with ht | ht
  ·exact B.al t ht
  ·rw [ab7.mp ht]
   exact⟨hU,hM,hw⟩
 ·have hb1:b≠ma:=fun q=>hb (by simp [q])
  have hb2:b≠na:=fun q=>hb (by simp [q]);rw [ai hb1,ai hb2];exact B.sx b o hb e
theorem fm.close{dA:Addr}{ys:List (List Int×Addr×V)}{st:MS}{H4:Hp}(B:fm P w Ss Gs cols nv U H ma na la wa H' met ds)(D:aP (og P w) H' dA ys)(L:cJ Ss cols met st ys)(hst:met[ds.length]?=some st)(h0:H dA=none)(n3:ma≠la)(n4:ma≠wa)(m3:na≠la)(m4:na≠wa)(lw:la≠wa)(hla:H la≠none)(hwa:H wa≠none)
  (s:au (L2.upd H' la (.lst (ds.map V.ref++[.ref dA]))) H4):fm P w Ss Gs cols nv U H ma na la wa (L2.upd H4 wa (.lst (((met.take ds.length).map fun s=>V.bl (cc Ss s.2 s.1))++[.bl (cc Ss st.2 st.1)]))) met (ds++[dA]):=by
 have ntL:∀vs,H' la≠some (.tup vs):=fun vs e=>by rw [B.la_]at e;cases e
 have hw4:H4 wa=some (.lst ((met.take ds.length).map fun s=>V.bl (cc Ss s.2 s.1))):=s _ _ (by rw [ai lw.symm];exact B.wl)
 have ntW:∀vs,H4 wa≠some (.tup vs):=fun vs e=>by rw [hw4]at e;cases e
 have dL:∀d∈ds++[dA],d≠la∧d≠wa:=fun d hd=>by
  have:H d=none:=by
   rcases ad7.mp hd with hd | hd
   ·exact B.fr d hd
   ·rw [ab7.mp hd];exact h0
  exact⟨fun e=>hla (by rw [←e];exact this),fun e=>hwa (by rw [←e];exact this)⟩
 have hlt:=(aa1.mp hst).1;have kN:∀{k:List (Option (List Int))} {a:Addr},(fk P w).at_ H' k a→(fk P w).at_ (L2.upd H4 wa (.lst (((met.take ds.length).map fun s=>V.bl (cc Ss s.2 s.1))++[.bl (cc Ss st.2 st.1)]))) k a:=fun h=>(fk P w).upd_ ((fk P w).same s ((fk P w).upd_ h ntL)) ntW;obtain⟨ps,g1,g2,g3⟩:=B.mt;obtain⟨xs,d1,d2,d3⟩:=B.nm;refine⟨⟨ps,by rw [ai n4];exact s _ _ (by rw [ai n3];exact g1),g2,fun j p t e1 e2=>kN (g3 j p t e1 e2)⟩,⟨xs,((d1.upd m3 ntL).same s).upd m4 ntW,d2,d3⟩,?_,fun i d t e1 e2=>?_,fun d hd=>?_,?_,by rw [ab3];simp;omega,B.mf,B.al,fun b o hb e=>?_⟩
 ·rw [ai lw,ab4]
  exact s _ _ ag
 ·have hd:=aa9 e1
  by_cases hi:i < ds.length
  ·rw [ab5 hi]at e1
   obtain⟨zs,q1,q2⟩:=B.ld i d t e1 e2;exact⟨zs,((q1.upd (dL d hd).1 ntL).same s).upd (dL d hd).2 ntW,q2⟩
  ·rw [ab8 (by omega)]at e1
   have h0':i - ds.length=0:=by
    have:=(aa1.mp e1).1
    simp at this;omega
   rw [h0']at e1;cases e1;rw [show i=ds.length by omega,hst]at e2;cases e2;exact⟨ys,((D.upd (dL dA hd).1 ntL).same s).upd (dL dA hd).2 ntW,L⟩
 ·rcases ad7.mp hd with hd | hd
  ·exact B.fr d hd
  ·rw [ab7.mp hd];exact h0
 ·rw [ag,ab3]
  show _=some (HO.lst (List.map _ (List.take (ds.length+1) met)));rw [ab9,hst,ab4];rfl
 ·have hb1:b≠la:=fun q=>hb (by simp [q])
  have hb2:b≠wa:=fun q=>hb (by simp [q]);rw [ai hb2];exact s _ _ (by rw [ai hb1];exact B.sx b o hb e)
end
def bJ(a b:Addr):List (Str×V):=cI "rules" (.ref b) (cI "ranges" (.ref a) [])
structure cv(K:Frag)(C:Addr):Prop where
 cl:vc K C
 n1:NoAttr K C "ranges"
 n2:NoAttr K C "rules"
theorem iK(a b:Addr):(bJ a b).lookup (Str.ofString "ranges")=some (.ref a):=by unfold bJ;walk_at "flds"
theorem hV(a b:Addr):(bJ a b).lookup (Str.ofString "rules")=some (.ref b):=by unfold bJ;walk_at "flds"
def bB(K:Frag)(H:Hp)(a:Addr)(bs:List (Int×Int)):Prop:=∃ts:List Addr,aI K H a (ts.map V.ref)∧ts.length=bs.length∧∀(i:Nat) (t:Addr) (b:Int×Int),ts[i]?=some t→bs[i]?=some b→bf K H t [.int b.1,.int b.2]
theorem bB.same{K:Frag}{H H':Hp}{a:Addr}{bs:List (Int×Int)}(s:au H H')(h:bB K H a bs):bB K H' a bs:=by
 obtain⟨ts,h1,h2,h3⟩:=h;exact⟨ts,s.seq h1,h2,fun i t b e1 e2=>s.tup (h3 i t b e1 e2)⟩
def fZ(b:Int×Int):Int:=b.2 - b.1+1
def vi(bs:List (Int×Int)):Int:=bs.foldl (fun t b=>t * fZ b) 1
theorem nu{α:Type}(f:α→Int):∀(l:List α) (t:Int) (m:Nat),t.natAbs < 2 ^ m→(∀b∈l,(f b).natAbs < 2 ^ 200)→(l.foldl (fun t b=>t * f b) t).natAbs < 2 ^ (m+200 * l.length)
 | [],t,m,h,_=>by simpa using h
 | b::l,t,m,h,hb=>by
  have h1:(t * f b).natAbs < 2 ^ (m+200):=by
   rw [Int.natAbs_mul,Nat.pow_add];exact Nat.mul_lt_mul_of_lt_of_le h (ah7 (hb b (by simp))) (Nat.pow_pos (by decide))
  have:=nu f l (t * f b) (m+200) h1 fun x hx=>hb x (by simp [hx])
  rw [ac5,show m+200 * (l.length+1)=m+200+200 * l.length by omega];exact this
theorem xX{bs:List (Int×Int)}(h:∀b∈bs,(fZ b).natAbs < 2 ^ 200):(vi bs).natAbs < 2 ^ (1+200 * bs.length):=nu fZ bs 1 1 (by decide) h
theorem mT{a b:Int}{m:Nat}(ha:a.natAbs < 2 ^ m)(hb:b.natAbs < 2 ^ 200)(h:m≤100000):IntMulOk a b:=IntMulOk.of_le (m:=m) (n:=200) (intBits_le_iff.mpr ha) (intBits_le_iff.mpr hb) (by omega)
def fV(K:Frag)(C:Addr):Sp:=fun vs H Q _=>∃(x dx a b:Addr) (xs ys:List V),vs=[.ref x,.ref a,.ref b]∧H x=some (.ins C dx [])∧aI K H a xs∧aI K H b ys∧
 ∀p q H',H p=none→H q=none→q≠p→H'=upd (upd (upd H p (.lst xs)) q (.lst ys)) x (.ins C dx (bJ p q))→Q .non H'
def wN(b:Int×Int):Nat:=(b.2 - b.1+1).toNat
def cf(b:Int×Int)(c:List Int):List (List Int):=(List.range (wN b)).map fun(j:Nat)=>c++[b.1+(j:Int)]
def aj(bs:List (Int×Int)):List (List Int):=bs.foldl (fun told b=>told.flatMap (cf b)) [[]]
def gv(bs:List (Int×Int)):Nat:=bs.foldl (fun t b=>t * wN b) 1
theorem jy(bs:List (Int×Int))(b:Int×Int):aj (bs++[b])=(aj bs).flatMap (cf b):=by
 unfold aj;rw [ag1];rfl
theorem hJ(bs:List (Int×Int))(b:Int×Int):gv (bs++[b])=gv bs * wN b:=by
 unfold gv;rw [ag1];rfl
theorem fC{α β:Type}{w:Nat}{f:α→List β}(h:∀x,(f x).length=w):∀l:List α,(l.flatMap f).length=l.length * w
 | []=>by simp
 | x::l=>by rw [ae8,ab3,h,fC h l,ac5,Nat.add_mul,Nat.one_mul,Nat.add_comm]
theorem sj{α β:Type}{w:Nat}{f:α→List β}(hw:0 < w)(h:∀x,(f x).length=w):∀(l:List α) (k:Nat),(l.flatMap f)[k]?=(l[k / w]?).bind fun x=>(f x)[k % w]?
 | [],k=>by simp
 | x::l,k=>by
  rw [ae8]
  by_cases hk:k < w
  ·rw [ab5 (by rw [h];exact hk),Nat.div_eq_of_lt hk,Nat.mod_eq_of_lt hk]
   rfl
  ·rw [ab8 (by rw [h];omega),h,sj hw h l (k - w)]
   have e1:k / w=(k - w) / w+1:=by
    rw [Nat.div_eq_sub_div hw (by omega)]
   have e2:k % w=(k - w) % w:=by rw [Nat.mod_eq_sub_mod (by omega)]
   rw [e1,e2];rfl
theorem eL(b:Int×Int)(c:List Int):(cf b c).length=wN b:=by
 unfold cf;rw [aa0,aj0]
theorem bI(bs:List (Int×Int)):(aj bs).length=gv bs:=by
 have go:∀(bs:List (Int×Int)) (told:List (List Int)),(bs.foldl (fun told b=>told.flatMap (cf b)) told).length=bs.foldl (fun t b=>t * wN b) told.length:=by
  intro bs
  induction bs with
  | nil=>intro told;rfl
  | cons b bs ih=>intro told;rw [ad9,ad9,ih,fC (eL b)]
 exact go bs [[]]
theorem zV{bs:List (Int×Int)}(h:∀b∈bs,b.1≤b.2):vi bs=(gv bs:Int):=by
 have go:∀(bs:List (Int×Int)) (t:Nat),(∀b∈bs,b.1≤b.2)→bs.foldl (fun t b=>t * fZ b) (t:Int)=((bs.foldl (fun t b=>t * wN b) t:Nat):Int):=by
  intro bs
  induction bs with
  | nil=>intro t _;rfl
  | cons b bs ih=>
   intro t hb
   have:=hb b (by simp)
   rw [ad9,ad9,←ih _ fun x hx=>hb x (by simp [hx]),ai6];congr 2;unfold fZ wN;omega
 exact go bs 1 h
theorem mI:∀(bs:List (Int×Int)) (t:Nat),(∀b∈bs,1≤wN b)→t≤bs.foldl (fun t b=>t * wN b) t
 | [],t,_=>aa8 _
 | b::bs,t,h=>ac0 (Nat.le_mul_of_pos_right t (h b (by simp))) (mI bs _ fun x hx=>h x (by simp [hx]))
theorem fB{bs:List (Int×Int)}(h:∀b∈bs,1≤wN b)(i:Nat):1≤gv (bs.take i)∧gv (bs.take i)≤gv bs:=by
 refine⟨mI _ 1 fun b hb=>h b (aj9 hb),?_⟩
 conv=>rhs;unfold gv;rw [←List.take_append_drop i bs,ag1]
 exact mI _ _ fun b hb=>h b (List.mem_of_mem_drop hb)
theorem AB{bs:List (Int×Int)}(h:∀b∈bs,1≤wN b){i:Nat}{b:Int×Int}(hb:bs[i]?=some b):wN b≤gv bs:=by
 have h1:=(fB h (i+1)).2;rw [ab9,hb]at h1;have h2:gv (bs.take i++[b])=gv (bs.take i) * wN b:=hJ _ _;have h3:=(fB h i).1;refine ac0 ?_ h1;show wN b≤gv (bs.take i++[b]);rw [h2];exact Nat.le_mul_of_pos_left _ h3
def gu(H:Hp)(ps:List Addr)(cols:List (List Int)):Prop:=ps.length=cols.length∧∀(i:Nat) (p:Addr) (us:List Int),ps[i]?=some p→cols[i]?=some us→H p=some (.tup (us.map V.int))
def aS(H:Hp)(q:Addr)(cols:List (List Int)):Prop:=∃ps:List Addr,H q=some (.lst (ps.map V.ref))∧gu H ps cols
theorem gu.same{H H':Hp}{ps:List Addr}{cols:List (List Int)}(h:gu H ps cols)(s:au H H'):gu H' ps cols:=⟨h.1,fun i p us e1 e2=>s _ _ (h.2 i p us e1 e2)⟩
theorem gu.upd{H:Hp}{ps:List Addr}{cols:List (List Int)}{z:Addr}{xs ys:List V}(h:gu H ps cols)(hz:H z=some (.lst xs)):gu (upd H z (.lst ys)) ps cols:=⟨h.1,fun i p us e1 e2=>by
 have:=h.2 i p us e1 e2
 rw [ai (hZ this hz (fun e=>by cases e))]
 exact this⟩
theorem gu.append{H:Hp}{ps qs:List Addr}{cols dols:List (List Int)}(h:gu H ps cols)(g:gu H qs dols):gu H (ps++qs) (cols++dols):=by
 refine⟨by rw [ab3,ab3,h.1,g.1],fun i p us e1 e2=>?_⟩
 by_cases hi:i < ps.length
 ·rw [ab5 hi]at e1
  rw [ab5 (by rw [←h.1];exact hi)]at e2;exact h.2 i p us e1 e2
 ·rw [ab8 (by omega)]at e1
  rw [ab8 (by rw [←h.1];omega),←h.1]at e2;exact g.2 _ p us e1 e2
theorem cG(bs:List (Int×Int)):∀c∈aj bs,c.length=bs.length:=by
 have go:∀(bs:List (Int×Int)) (told:List (List Int)) (n:Nat),(∀c∈told,c.length=n)→∀c∈bs.foldl (fun told b=>told.flatMap (cf b)) told,c.length=n+bs.length:=by
  intro bs
  induction bs with
  | nil=>intro told n h c hc;exact h c hc
  | cons b bs ih=>
   intro told n h c hc;rw [ad9]at hc
   have:=ih _ (n+1) (fun c hc=>by
    obtain⟨d,hd,hc⟩:=ai2.mp hc;unfold cf at hc;obtain⟨j,_,rfl⟩:=ac3.mp hc;rw [ab3,h d hd]
    rfl) c hc
   rw [this,ac5];omega
 intro c hc
 have:=go bs [[]] 0 (fun c hc=>by rw [ab7.mp hc];rfl) c hc
 omega
theorem jD{α β:Type}{f:α→List β}:∀{l:List α},l.Nodup→(∀x∈l,(f x).Nodup)→(∀x y z,z∈f x→z∈f y→x=y)→(l.flatMap f).Nodup
 | [],_,_,_=>by simp
 | x::l,h,h1,h2=>by
  have hn:=ag0.mp h;rw [ae8];refine al7.mpr ⟨h1 x (by simp),jD hn.2 (fun y hy=>h1 y (by simp [hy])) h2,fun a ha b hb e=>?_⟩;obtain⟨y,hy,hb⟩:=ai2.mp hb;rw [←e]at hb;rw [h2 x y a ha hb]at hn;exact hn.1 hy
theorem oA(bs:List (Int×Int)):(aj bs).Nodup:=by
 have go:∀(bs:List (Int×Int)) (told:List (List Int)),told.Nodup→(bs.foldl (fun told b=>told.flatMap (cf b)) told).Nodup:=by
  intro bs
  induction bs with
  | nil=>intro told h;exact h
  | cons b bs ih=>
   intro told h;rw [ad9];refine ih _ (jD h (fun c _=>?_) fun x y z hx hy=>?_)
   ·unfold cf
    refine List.pairwise_map.mpr (List.nodup_range.imp fun {i j} hij e=>?_)
    have:=List.append_cancel_left e
    simp at this;omega
   ·unfold cf at hx hy
    obtain⟨i,_,rfl⟩:=ac3.mp hx;obtain⟨j,_,e⟩:=ac3.mp hy
    have:=congrArg List.dropLast e
    simp at this;exact this.symm
 exact go bs [[]] (by simp)
theorem aS.same{H H':Hp}{q:Addr}{cols:List (List Int)}(s:au H H')(h:aS H q cols):aS H' q cols:=by
 obtain⟨ps,h1,h2⟩:=h;exact⟨ps,s _ _ h1,h2.same s⟩
def xB(K:Frag):Sp:=fun vs H Q _=>∃(c:Addr) (us:List Int) (b:Int×Int),vs=[.ref c,.int b.1,.int b.2]∧H c=some (.tup (us.map V.int))∧us.length≤10∧wN b≤400∧∀q H',H q=none→aS H' q (cf b us)→au H H'→Q (.ref q) H'
def fv(P:Program)(w:World)(K:Frag)(mg:Str→Option Value)(base:Heap)(C:Addr)(nv:Nat)(bs:List (Int×Int))(Ss:List aT)(Gs:List (Int→Prop))(x:Addr)(H:Hp):Prop:=∃(dx a b:Addr) (rs:List Addr),H x=some (.ins C dx (bJ a b))∧bB K H a bs∧gr P w K mg base nv Ss Gs H b rs
theorem fv.same{P:Program}{w:World}{K:Frag}{mg:Str→Option Value}{base:Heap}{C:Addr}{nv:Nat}{bs:List (Int×Int)}{Ss:List aT}{Gs:List (Int→Prop)}{x:Addr}{H H':Hp}(h:fv P w K mg base C nv bs Ss Gs x H)(s:au H H'):fv P w K mg base C nv bs Ss Gs x H':=by
 obtain⟨dx,a,b,rs,h1,h2,h3⟩:=h;exact⟨dx,a,b,rs,s _ _ h1,h2.same s,h3.same s⟩
def Ec(bs:List (Int×Int))(Ss:List aT):Int:=Ss.foldl (fun t S=>t * S.size) (vi bs)
def kx(P:Program)(w:World)(K:Frag)(mg:Str→Option Value)(base:Heap)(C:Addr):Sp:=fun vs H Q _=>∃(x:Addr) (nv:Nat) (bs:List (Int×Int)) (Ss:List aT) (Gs:List (Int→Prop)),vs=[.ref x]∧fv P w K mg base C nv bs Ss Gs x H∧bs.length≤100∧Ss.length≤100∧(∀b∈bs,(fZ b).natAbs < 2 ^ 200)∧(∀S∈Ss,(S.size).natAbs < 2 ^ 200)∧Q (.int (Ec bs Ss)) H
def iW(P:Program)(w:World)(K:Frag)(mg:Str→Option Value)(base:Heap)(C:Addr):Sp:=fun vs H Q _=>∃(x:Addr) (nv:Nat) (bs:List (Int×Int)) (Ss:List aT) (Gs:List (Int→Prop)),vs=[.ref x]∧fv P w K mg base C nv bs Ss Gs x H∧bs.length≤100∧Ss.length≤100∧(∀b∈bs,(fZ b).natAbs < 2 ^ 200)∧(∀S∈Ss,(S.size).natAbs < 2 ^ 200)∧Ec bs Ss≤400∧Q (.ref x) H
def eR(K:Frag)(C:Addr):Sp:=fun vs H Q _=>∃(x dx a b:Addr) (bs:List (Int×Int)),vs=[.ref x]∧H x=some (.ins C dx (bJ a b))∧bB K H a bs∧bs.length≤4∧(∀b∈bs,1≤wN b)∧gv bs≤400∧∀q H',H q=none→aS H' q (aj bs)→au H H'→Q (.ref q) H'
def aU(la wa sc:Addr):List (Str×V):=cI "score" (.ref sc) (cI "well" (.ref wa) (cI "leads" (.ref la) []))
structure bM(K:Frag)(C:Addr):Prop where
 cl:vc K C
 n1:NoAttr K C "leads"
 n2:NoAttr K C "well"
 n3:NoAttr K C "score"
theorem dI(a b c:Addr):(aU a b c).lookup (Str.ofString "leads")=some (.ref a):=by unfold aU;walk_at "flds"
theorem sv(a b c:Addr):(aU a b c).lookup (Str.ofString "well")=some (.ref b):=by unfold aU;walk_at "flds"
theorem jV(a b c:Addr):(aU a b c).lookup (Str.ofString "score")=some (.ref c):=by unfold aU;walk_at "flds"
structure qg(Ss:List aT)(cols:List (List Int))(U:List MS):Prop where
 st:(none,Ss.map (·.start))∈U
 cl:∀s∈U,∀c∈cols,∀s',aJ Ss s c=some s'→s'∈U
 sz:U.length≤10000
def i0(P:Program)(w:World)(Ss:List aT)(cols:List (List Int))(la wa:Addr)(H:Hp)(met:List MS):Prop:=∃ds:List Addr,H la=some (.lst (ds.map V.ref))∧ds.length=met.length∧H wa=some (.lst (met.map fun s=>V.bl (cc Ss s.2 s.1)))∧
 ∀(i:Nat) (d:Addr) (s:MS),ds[i]?=some d→met[i]?=some s→∃xs,aP (og P w) H d xs∧cJ Ss cols met s xs
def nW(P:Program)(w:World)(K:Frag)(mg:Str→Option Value)(base:Heap)(C Cs:Addr):Sp:=fun vs H Q _=>∃(x dx ma na sa la wa sc dsc ra rb p0:Addr) (nv:Nat) (Ss:List aT) (Gs:List (Int→Prop)) (rs cs:List Addr) (cols:List (List Int)) (U:List MS) (Hs:Hp),vs=[.ref x,.ref ma,.ref na,.ref sa]∧
 H x=some (.ins C dx (aU la wa sc))∧H sc=some (.ins Cs dsc (bJ ra rb))∧au Hs H∧Hs ma=none∧Hs na=none∧Hs la=none∧Hs wa=none∧gr P w K mg base nv Ss Gs Hs rb rs∧Ss.length≤100∧oj Gs (Ss.map (·.start))∧
 H ma=some (.lst [.ref p0])∧(fk P w).at_ H (bj (none,Ss.map (·.start))) p0∧aP (fk P w) H na [(bj (none,Ss.map (·.start)),p0,.int 0)]∧H la=some (.lst [])∧H wa=some (.lst [])∧ma≠la∧ma≠wa∧la≠wa∧
 H sa=some (.lst (cs.map V.ref))∧sa≠ma∧sa≠la∧sa≠wa∧gu H cs cols∧(∀c∈cols,c.length=nv)∧cols.length≤1000∧cols.Nodup∧qg Ss cols U∧
 ∀met H',rX Ss cols met→(∀s∈met,s∈U)→(∀(s:MS),s∈met→∀c∈cols,∀s',aJ Ss s c=some s'→s'∈met)→i0 P w Ss cols la wa H' met→om [ma,na,la,wa] H H'→Q .non H'
section
variable {P:Program} {w:World} {K:Frag} {mg:Str→Option Value} {base:Heap} {aM:Addr}
theorem kR{f C:Addr}{fd:FuncData}(F:cY K "__init__" "Score.__init__" cW f fd)(T:Txt mg aM)(TC:cv K C):aR P w K mg base cO 1 f fd ["self","ranges","rules"] (fV K C):=by
 refine F.ok ip (fun vs H Q E h=>?_) (fun cdv A outer s H vs Q E hr h=>?_)
 ·obtain⟨x,dx,a,b,xs,ys,rfl,_⟩:=h
  rfl
 obtain⟨x,dx,a,b,xs,ys,rfl,hx,ha,hb,k⟩:=h
 refine⟨_,(ah (j9 (pr 0) (bc (cT K) (by rfl) T.n_list boot_list (aa (pr 1) af)) rfl)
 (ak (j9 (pr 0) (bc (cT K) (by rfl) T.n_list boot_list (aa (pr 2) af)) rfl))),?_⟩
 walk_at "rd";have ln:∀(f:Str) (v:V) (l:List (Str×V)) (n:Nat),l.length≤n→(cI f v l).length≤n+1:=fun f v l n h=>ac0 (de f v l) (am2 h);refine⟨xs,.inl ha,fun p hp=>?_⟩
 have px:p≠x:=fun e=>by subst e;rw [hx]at hp;cases hp
 refine⟨C,dx,[],by rw [ai (Ne.symm px)];exact hx,TC.cl,TC.n1,by decide,ys,.inl (((ar hp).seq hb).at_ins (by rw [ai (Ne.symm px)];exact hx)),fun q hq=>?_⟩
 have qx:q≠x:=fun e=>by subst e;rw [ag]at hq;cases hq
 rw [ai qx]at hq
 have qp:q≠p:=fun e=>by subst e;rw [ag]at hq;cases hq
 rw [ai qp]at hq;refine⟨C,dx,_,by rw [ai (Ne.symm qx),ag],TC.cl,TC.n2,ad5 (ln _ _ _ _ (ad0 0)) (by decide),?_⟩;refine k p q _ hp hq qp ?_;rw [p8];rfl
theorem uL{f C:Addr}{fd:FuncData}(F:cY K "weight" "weight" kh f fd)(T:Txt mg aM)(TC:cv K C):aR P w K mg base cO 8 f fd ["score"] (kx P w K mg base C):=by
 refine F.ok sc_weight (fun vs H Q E h=>?_) (fun cdv A outer s H vs Q E hr h=>?_)
 ·obtain⟨x,nv,bs,Ss,Gs,rfl,_⟩:=h
  rfl
 obtain⟨x,nv,bs,Ss,Gs,rfl,⟨dx,a,b,rs,hx,⟨ts,hts,htl,htc⟩,RM⟩,lb,lr,hwb,hwr,q⟩:=h;have hrs:=RM.sq;have hrl:=RM.len;have lg:=RM.gl
 refine⟨_,(ah (ay (i:=1) sc_weight.nd rfl (Or.inl rfl) ao)
 (ah (bu PassesOwn.never rfl (aX K (bQ (pr 0) rfl)) (bE K (n:=2) rfl (aD (aw (i:=2) sc_weight.nd rfl (Or.inl rfl)) (aD (aw (i:=3) sc_weight.nd rfl (Or.inl rfl)) bF)))
 (ak (zw (nA (i:=1) sc_weight.nd rfl (Or.inl rfl) (aA (dy K) (aA (o0 gB) (pr 3) (pr 2)) ao) (o1 oO)))))
 (ah (bu PassesOwn.never rfl (aX K (bQ (pr 0) rfl)) (aw (i:=4) sc_weight.nd rfl (Or.inl rfl))
 (ak (zw (nA (i:=1) sc_weight.nd rfl (Or.inl rfl) (gg P w K mg base hr (pr 4)) (o1 oO)))))
 (ak (aC (pr 1)))))),?_⟩
 refine aL (fun σ H'=>σ=[some (.ref x),some (.int 1),none,none,none]∧H=H') ?_ ?_
 ·intro u' hu
  walk_at "rd";exact hu _ _ ⟨rfl,rfl⟩
 rintro _ _ ⟨rfl,rfl⟩;refine aL (fun σ H'=>∃o1 o2:Option V,σ=[some (.ref x),some (.int (vi bs)),o1,o2,none]∧H=H') ?_ ?_
 ·intro u' hu
  walk_at "rd";refine⟨C,dx,_,hx,TC.cl,TC.n1,_,iK a b,ba hts (bK (xs:=ts.map V.ref) (fun i σ H'=>∃o1 o2:Option V,σ=[some (.ref x),some (.int (vi (bs.take i))),o1,o2,none]∧H=H') ⟨none,none,rfl,rfl⟩ (fun i σ H' _ z=>by obtain⟨_,_,_,z⟩:=z;exact z▸hts) ?_ ?_)⟩
  ·rintro i y σ H1 hy ⟨o1,o2,rfl,rfl⟩
   rw [aa4]at hy
   cases ht:ts[i]? with
   | none=>rw [ht]at hy;cases hy
   | some t=>
    rw [ht]at hy;cases hy
    have hi:i < bs.length:=by rw [←htl];exact(aa1.mp ht).1
    have hb:bs[i]?=some bs[i]:=aa2 hi
    have e:vi (bs.take (i+1))=vi (bs.take i) * fZ bs[i]:=by
     unfold vi;rw [ab9,hb,ag1];rfl
    walk_at "rd";refine⟨_,htc i t _ ht hb,rfl,?_⟩;walk_at "rd";rw [e];have hw:=hwb _ (ae2 hi);have ht:=xX (bs:=bs.take i) fun b hb=>hwb b (aj9 hb);exact⟨mT ht hw (by rw [ac6];omega),rfl⟩
  ·rintro σ H1 ⟨o1,o2,rfl,rfl⟩
   rw [aa0,htl,ac9];exact hu _ _ ⟨o1,o2,rfl,rfl⟩
 rintro _ _ ⟨o1,o2,rfl,rfl⟩;walk_at "rd";refine⟨C,dx,_,hx,TC.cl,TC.n2,_,hV a b,ba hrs (bK (xs:=rs.map V.ref) (fun i σ H'=>∃o3:Option V,σ=[some (.ref x),some (.int ((Ss.take i).foldl (fun t S=>t * S.size) (vi bs))),o1,o2,o3]∧H=H') ⟨none,rfl,rfl⟩ (fun i σ H' _ z=>by obtain⟨_,_,z⟩:=z;exact z▸hrs) ?_ ?_)⟩
 ·rintro i y σ H1 hy ⟨o3,rfl,rfl⟩
  rw [aa4]at hy
  cases ht:rs[i]? with
  | none=>rw [ht]at hy;cases hy
  | some r=>
   rw [ht]at hy;cases hy
   have hi:i < Ss.length:=by rw [←hrl];exact(aa1.mp ht).1
   have hb:Ss[i]?=some Ss[i]:=aa2 hi;obtain⟨Cr,RI,RB,hri⟩:=RM.at_ i r _ (Gs[i]'(by omega)) ht hb (aa2 (by omega));obtain⟨dr,fr,hir,q1,_⟩:=RB.ins r _ hri;walk_at "rd";refine⟨Cr,dr,fr,hir,q1,_,_,RB.size,r,rfl,hri,?_⟩;walk_at "rd";rw [ab9,hb,ag1];have hw:=hwr _ (ae2 hi);have ht:=nu (fun S:aT=>S.size) (Ss.take i) (vi bs) _ (xX hwb) fun S hS=>hwr S (aj9 hS);exact⟨mT ht hw (by rw [ac6];omega),rfl⟩
 ·rintro σ H1 ⟨o3,rfl,rfl⟩
  rw [aa0,hrl,ac9];walk_at "rd";exact q
theorem jd{f C:Addr}{fd:FuncData}(F:cY K "not_too_wide" "not_too_wide" dY f fd)(T:Txt mg aM)(D_weight:bN P w K mg base "weight" 8 ["score"] (kx P w K mg base C)):aR P w K mg base cO 9 f fd ["score"] (iW P w K mg base C):=by
 refine F.ok sc_not_too_wide (fun vs H Q E h=>?_) (fun cdv A outer s H vs Q E hr h=>?_)
 ·obtain⟨x,nv,bs,Ss,Gs,rfl,_⟩:=h
  rfl
 obtain⟨x,nv,bs,Ss,Gs,rfl,S,lb,lr,hwb,hwr,hle,q⟩:=h
 refine⟨_,(ah (ay (i:=1) sc_not_too_wide.nd rfl (Or.inl rfl) (aE D_weight hr (by rfl) (aa (pr 0) af)))
 (ah (bL (cz (aN (o0 Am) (pr 1) (eA T.g_MOST_WEIGHT) (aQ _))) (ak ij) aY)
 (ak (aC (pr 0))))),?_⟩
 walk_at "rd";refine⟨x,nv,bs,Ss,Gs,rfl,S,lb,lr,hwb,hwr,?_⟩;walk_at "rd";rw [if_neg (by omega)];exact q
theorem kT{f:Addr}{fd:FuncData}(F:cY K "lengthened" "lengthened" fb f fd)(T:Txt mg aM):aR P w K mg base cO 1 f fd ["column","low","high"] (xB K):=by
 refine F.ok kW (fun vs H Q E h=>?_) (fun cdv A outer s H vs Q E hr h=>?_)
 ·obtain⟨c,us,b,rfl,_⟩:=h
  rfl
 obtain⟨c,us,b,rfl,hc,hu,hw,k⟩:=h;refine⟨_,(ak (aC (bP (own:=["note"]) (js:=[0]) rfl (j8 rfl T.n_range (aa (pr 1) (aa (aA (sD K) (pr 2) ao) af))) (aW.of (by rfl)) (fun _ _ _ _ _=>(aw (i:=0) (show List.Nodup (["note","column"]:List Str)from by decide +kernel) rfl (Or.inl rfl))) (fun _ _ _ _ _=>bS) (fun _ _ _ _ _=>(aA (sD K) (pr 1) (dU (aa (pr 0) af))))))),?_⟩;have hs:sizeLine=16777216:=sizeLine_eq;walk_at "rd"
 have ek:(b.2+1 - b.1).toNat=wN b:=by unfold wN;omega
 rw [ek];refine oz (fun i ys H'=>∃ps:List Addr,ys=ps.map V.ref∧ps.length=i∧(∀(j:Nat) (p:Addr),ps[j]?=some p→H' p=some (.tup ((us++[b.1+(j:Int)]).map V.int)))∧au H H') (by omega) ⟨[],rfl,rfl,(fun j p e=>nomatch e),au.refl _⟩ ?_ ?_ ?_
 ·rintro i ys H' ⟨ps,rfl,hl,_⟩
  rw [aa0];omega
 ·rintro i ys H1 hi ⟨ps,rfl,hl,hp,s1⟩
  simp only [cy];walk_at "rd";refine⟨by omega,fun t ht=>?_⟩;have s2:=s1.upd (o:=HO.tup [V.int (b.1+i)]) ht;have ht2:(upd H1 t (HO.tup [V.int (b.1+i)])) t=some (.tup [V.int (b.1+i)]):=ag;have s12:au H1 (upd H1 t (HO.tup [V.int (b.1+i)])):=ar ht;generalize upd H1 t (HO.tup [V.int (b.1+i)])=H2 at s2 ht2 s12;refine pK (s2 _ _ hc) ht2 (by rw [aa0];simp;omega) fun p H3 s3 hp3=>?_;refine⟨ps++[p],by rw [ab4];rfl,by rw [ab3,hl];rfl,fun j p' e=>?_,s2.trans s3⟩
  by_cases hj:j < ps.length
  ·rw [ab5 hj]at e
   exact(s12.trans s3) _ _ (hp j p' e)
  ·rw [ab8 (by omega)]at e
   have ej:j=ps.length:=by
    have:=(aa1.mp e).1
    simp at this;omega
   rw [ej,Nat.sub_self]at e;cases e;rw [hp3,ej,hl,ab4];rfl
 ·rintro ys H1 ⟨ps,rfl,hl,hp,s1⟩ q hq
  refine k q _ (s1.free hq) ⟨ps,ag,by rw [eL];exact hl,fun i p us' e1 e2=>?_⟩ (s1.upd hq)
  have hi:i < wN b:=by rw [←hl];exact(aa1.mp e1).1
  unfold cf at e2;rw [aa4,ae4 hi]at e2;cases e2;exact(ar hq) _ _ (hp i p e1)
theorem q9{f C:Addr}{fd:FuncData}(F:cY K "columns" "columns" iP f fd)(T:Txt mg aM)(TC:cv K C)(D_lengthened:bN P w K mg base "lengthened" 1 ["column","low","high"] (xB K)):aR P w K mg base cO 2 f fd ["score"] (eR K C):=by
 refine F.ok sc_columns (fun vs H Q E h=>?_) (fun cdv A outer s H vs Q E hr h=>?_)
 ·obtain⟨x,dx,a,b,bs,rfl,_⟩:=h
  rfl
 obtain⟨x,dx,a,b,bs,rfl,hx,⟨ts,hts,htl,htc⟩,lb,hw,hc,k⟩:=h
 refine⟨_,(ah (ay (i:=1) sc_columns.nd rfl (Or.inl rfl) (bA (aa (dU af) af)))
 (ah (bu PassesOwn.never rfl (aX K (bQ (pr 0) rfl)) (bE K (n:=2) rfl (aD (aw (i:=2) sc_columns.nd rfl (Or.inl rfl)) (aD (aw (i:=3) sc_columns.nd rfl (Or.inl rfl)) bF)))
 (ah (ay (i:=4) sc_columns.nd rfl (Or.inl rfl) (bA af))
 (ah (bu PassesOwn.never rfl (aX K (pr 1)) (aw (i:=5) sc_columns.nd rfl (Or.inl rfl))
 (ak (bG (bO K PySem.F.plainAttrs_list PySem.F.slot_list_extend PySem.F.type_list_extend lU (pr 4) (aa (aE D_lengthened hr (by rfl) (aa (pr 5) (aa (pr 2) (aa (pr 3) af)))) af)))))
 (ak (ay (i:=1) sc_columns.nd rfl (Or.inl rfl) (pr 4))))))
 (ak (aC (pr 1))))),?_⟩
 have hs:sizeLine=16777216:=sizeLine_eq;refine aL (fun σ H'=>∃q:Addr,H q=none∧aS H' q (aj [])∧σ=[some (.ref x),some (.ref q),none,none,none,none]∧au H H') ?_ ?_
 ·intro u' hu
  walk_at "rd";refine⟨by omega,fun t ht=>⟨by omega,fun q hq=>?_⟩⟩;have s1:=ar (o:=HO.tup []) ht;refine hu _ _ ⟨q,s1.free hq,⟨[t],ag,rfl,fun i p us e1 e2=>?_⟩,rfl,s1.upd hq⟩
  have hi:i=0:=by
   have:=(aa1.mp e1).1
   simp at this;exact this
  subst hi;cases e1;cases e2;exact(ar hq) _ _ ag
 rintro _ H1 ⟨q,hq0,hq1,rfl,s1⟩;refine aL (fun σ H'=>∃(q:Addr) (o2 o3 o4 o5:Option V),H q=none∧aS H' q (aj bs)∧σ=[some (.ref x),some (.ref q),o2,o3,o4,o5]∧au H H') ?_ ?_
 ·intro u' hu
  walk_at "rd";refine⟨C,dx,_,s1 _ _ hx,TC.cl,TC.n1,_,iK a b,ba (s1.seq hts) (bK (xs:=ts.map V.ref) (fun i σ H'=>∃(q:Addr) (o2 o3 o4 o5:Option V),H q=none∧aS H' q (aj (bs.take i))∧σ=[some (.ref x),some (.ref q),o2,o3,o4,o5]∧au H H') ⟨q,none,none,none,none,hq0,hq1,rfl,s1⟩ (fun i σ H' _ h=>?_) ?_ ?_)⟩
  ·obtain⟨_,_,_,_,_,_,_,_,s'⟩:=h
   exact s'.seq hts
  ·rintro i y σ H2 hy ⟨q,o2,o3,o4,o5,hq0,⟨ps,hq2,hpc⟩,rfl,s2⟩
   rw [aa4]at hy
   cases ht:ts[i]? with
   | none=>rw [ht]at hy;cases hy
   | some t=>
    rw [ht]at hy;cases hy
    have hi:i < bs.length:=by rw [←htl];exact(aa1.mp ht).1
    have hb:bs[i]?=some bs[i]:=aa2 hi;walk_at "rd";refine⟨_,s2.tup (htc i t _ ht hb),rfl,?_⟩;walk_at "rd";refine⟨by omega,fun p hp=>?_⟩;have s23:=ar (o:=HO.lst []) hp;have hp3:(upd H2 p (HO.lst [])) p=some (.lst (([]:List Addr).map V.ref)):=ag;have hH3:=hp3;generalize upd H2 p (HO.lst [])=H3 at s23 hp3;have ew:wN bs[i]≤400:=ac0 (AB hw hb) hc
    have en:gv (bs.take (i+1))=gv (bs.take i) * wN bs[i]:=by
     rw [ab9,hb];exact hJ _ _
    have en':=(fB hw (i+1)).2
    have ec:aj (bs.take (i+1))=(aj (bs.take i)).flatMap (cf bs[i]):=by
     rw [ab9,hb];exact jy _ _
    have ewd:=cG (bs.take i);have ecl:=bI (bs.take i);have hpl:=hpc.1;rw [ec];generalize bs[i]=b at *;generalize aj (bs.take i)=cols at *;refine ba (aI.of (s23 _ _ hq2)) (bK (xs:=ps.map V.ref) (fun j σ H'=>∃(o5:Option V) (ps':List Addr),H' p=some (.lst (ps'.map V.ref))∧gu H' ps' ((cols.take j).flatMap (cf b))∧au H2 H'∧σ=[some (V.ref x),some (V.ref q),some (V.int b.1),some (V.int b.2),some (V.ref p),o5]) ⟨o5,[],hp3,⟨rfl,fun i p us e=>nomatch e⟩,s23,rfl⟩ (fun j σ H' _ h=>?_) ?_ ?_)
    ·obtain⟨_,_,_,_,s',_⟩:=h
     exact aI.of (s' _ _ hq2)
    ·rintro j y σ H4 hy ⟨o5,ps',hp4,hT,s24,rfl⟩
     rw [aa4]at hy
     cases hcj:ps[j]? with
     | none=>rw [hcj]at hy;cases hy
     | some c=>
      rw [hcj]at hy;cases hy
      have hj:j < cols.length:=by rw [←hpl];exact(aa1.mp hcj).1
      have hcc:cols[j]?=some cols[j]:=aa2 hj;have hus:=hpc.2 j c _ hcj hcc;have hul:=ewd _ (ae2 hj)
      have estep:(cols.take (j+1)).flatMap (cf b)=(cols.take j).flatMap (cf b)++cf b cols[j]:=by
       rw [ab9,hcc,List.flatMap_append];simp
      rw [estep];generalize cols[j]=us at *;walk_at "rd";refine⟨.inl ⟨rfl,_,aI.of hp4⟩,c,us,b,rfl,s24 _ _ hus,by rw [hul,ac6];omega,ew,fun r H5 hr0 hr5 s45=>?_⟩;obtain⟨rs,hr5,hrT⟩:=hr5;have hp5:=s45 _ _ hp4
      have l1:ps'.length≤400:=by
       rw [hT.1,fC (eL b),ac6];refine ac0 (ag2 _ (am1 _ _)) ?_;rw [ecl,←en];omega
      have l2:rs.length≤400:=by rw [hrT.1,eL];exact ew
      refine⟨p,r,_,_,rfl,rfl,hp5,hr5,by rw [aa0,aa0];omega,some (.ref c),ps' ++ rs,by rw [ag,ab4],((hT.same s45).append hrT).upd hp5,xV hp (s24.trans s45),rfl⟩
    ·rintro σ H4 ⟨o5,ps',hp4,hT,s24,rfl⟩
     rw [aa0,hpl,ac9]at hT;walk_at "rd";exact⟨p,s2.free hp,⟨ps',hp4,hT⟩,rfl,s2.trans s24⟩
  ·rintro σ H2 ⟨q,o2,o3,o4,o5,hq0,hq2,rfl,s2⟩
   rw [aa0,htl,ac9]at hq2;exact hu _ _ ⟨q,o2,o3,o4,o5,hq0,hq2,rfl,s2⟩
 rintro _ H2 ⟨q,o2,o3,o4,o5,hq0,hq2,rfl,s2⟩;walk_at "rd";exact k q H2 hq0 hq2 s2
theorem wK{f C Cs:Addr}{fd:FuncData}(F:cY K "build" "Machine.build" dk f fd)(T:Txt mg aM)(TC:bM K C)(TS:cv K Cs)(D_memories_after:bN P w K mg base "memories_after" 9 ["rules","memories","before","column"] (gP P w K mg base))(D_all_close:bN P w K mg base "all_close" 9 ["rules","memories","last"] (gM P w K mg base)):
  aR P w K mg base cO 10 f fd ["self","met","numbers","steps"] (nW P w K mg base C Cs):=by
 refine F.ok sc_Machine_build (fun vs H Q E h=>?_) (fun cdv A outer s H vs Q E hr h=>?_)
 ·obtain⟨x,dx,ma,na,sa,la,wa,sc,dsc,ra,rb,p0,nv,Ss,Gs,rs,cs,cols,U,Hs,rfl,_⟩:=h
  rfl
 obtain⟨x,dx,ma,na,sa,la,wa,sc,dsc,ra,rb,p0,nv,Ss,Gs,rs,cs,cols,U,Hs,rfl,hx,hsc,sHs,z1,z2,z3,z4,RM,lS,hM0,hma,hp0,hna,hla,hwa,n1,n2,n3,hsa,q1,q2,q3,hT,hcw,hcl,hnd,CU,k⟩:=h
 refine⟨_,(ah (ay (i:=4) sc_Machine_build.nd rfl (Or.inl rfl) (bQ (bQ (pr 0) rfl) rfl))
 (ak (xb PassesOwn.never (cz (aN (o0 wU) (ax (aG K) (by rfl) T.n_len boot_len (aa (bQ (pr 0) rfl) af)) (ax (aG K) (by rfl) T.n_len boot_len (aa (pr 1) af)) (aQ _))) (ah (ay (i:=5) sc_Machine_build.nd rfl (Or.inl rfl) (aV (bC K) (aV (bC K) (pr 1) (ax (aG K) (by rfl) T.n_len boot_len (aa (bQ (pr 0) rfl) af)) (fun _ _=>rfl)) ao (fun _ _=>rfl)))
 (ah (ay (i:=6) sc_Machine_build.nd rfl (Or.inl rfl) (aV (bC K) (aV (bC K) (pr 1) (ax (aG K) (by rfl) T.n_len boot_len (aa (bQ (pr 0) rfl) af)) (fun _ _=>rfl)) ao (fun _ _=>rfl)))
 (ah (ay (i:=7) sc_Machine_build.nd rfl (Or.inl rfl) (sG (kk':=og P w)))
 (ah (bu PassesOwn.never rfl (aX K (pr 3)) (aw (i:=8) sc_Machine_build.nd rfl (Or.inl rfl))
 (ah (ay (i:=9) sc_Machine_build.nd rfl (Or.inl rfl) (dU (aa (pr 8) (aa (aE D_memories_after hr (by rfl) (aa (pr 4) (aa (pr 6) (aa (pr 5) (aa (pr 8) af))))) af))))
 (ah (bL (cz (aN j5 (aV (bC K) (pr 9) ao (fun _ _=>rfl)) bR (aQ _))) (ak pH) aY)
 (ah (bL (cz (aN (wV (kk':=fk P w) (kG hr)) (pr 9) (pr 2) (by with_unfolding_all rfl))) (ah (ny (ax (aG K) (by rfl) T.n_len boot_len (aa (pr 1) af)) (nj (pr 2) (pr 9) (BA (kk':=fk P w) (kG hr))))
 (ak (bG (bO K PySem.F.plainAttrs_list PySem.F.slot_list_append PySem.F.type_list_append bp (pr 1) (aa (pr 9) af))))) aY)
 (ak (ny (aV (ixD (kk':=fk P w) (kG hr)) (pr 2) (pr 9) (fun _ _=>rfl)) (nj (pr 7) (pr 8) (BA (kk':=og P w) (kG hr)))))))))
 (ah (bG (bO K PySem.F.plainAttrs_list PySem.F.slot_list_append PySem.F.type_list_append bp (bQ (pr 0) rfl) (aa (pr 7) af)))
 (ak (bG (bO K PySem.F.plainAttrs_list PySem.F.slot_list_append PySem.F.type_list_append bp (bQ (pr 0) rfl) (aa (aE D_all_close hr (by rfl) (aa (pr 4) (aa (pr 6) (aa (pr 5) af)))) af)))))))))))),?_⟩
 have hs:sizeLine=16777216:=sizeLine_eq;have mna:ma≠na:=hZ hma hna.ob (fun e=>by cases e);have nla:na≠la:=hZ hna.ob hla (fun e=>by cases e);have nwa:na≠wa:=hZ hna.ob hwa (fun e=>by cases e)
 have xm:x∉[ma,na,la,wa]:=fun h=>by
  simp only [ab6,ac4,or_false]at h;rcases h with rfl | rfl | rfl | rfl
  ·rw [hma]at hx;cases hx
  ·rw [hna.ob]at hx;cases hx
  ·rw [hla]at hx;cases hx
  ·rw [hwa]at hx;cases hx
 have sm:sa∉[ma,na,la,wa]:=fun h=>by
  simp only [ab6,ac4,or_false]at h;rcases h with rfl | rfl | rfl | rfl
  ·exact q1 rfl
  ·rw [hna.ob]at hsa;cases hsa
  ·exact q2 rfl
  ·exact q3 rfl
 have tm:∀{a:Addr} {vs:List V},H a=some (.tup vs)→a∉[ma,na,la,wa]:=fun {a vs} e h=>by
  simp only [ab6,ac4,or_false]at h;rcases h with rfl | rfl | rfl | rfl
  ·rw [hma]at e;cases e
  ·rw [hna.ob]at e;cases e
  ·rw [hla]at e;cases e
  ·rw [hwa]at e;cases e
 have toS:∀{H':Hp},om [ma,na,la,wa] H H'→au Hs H':=fun {H'} sx b o e=>by
  refine sx b o (fun h=>?_) (sHs b o e);simp only [ab6,ac4,or_false]at h;rcases h with rfl | rfl | rfl | rfl
  ·rw [z1]at e;cases e
  ·rw [z2]at e;cases e
  ·rw [z3]at e;cases e
  ·rw [z4]at e;cases e
 have lenU:∀{H':Hp} {met:List MS} {ds:List Addr},fm P w Ss Gs cols nv U H ma na la wa H' met ds→met.length≤U.length:=fun B=>jX _ U B.mf.nd fun s hs=>(B.al s hs).1;have szU:=CU.sz;refine aL (fun σ H'=>H=H'∧σ=[some (.ref x),some (.ref ma),some (.ref na),some (.ref sa),some (.ref rb),none,none,none,none,none]) ?_ ?_
 ·intro u' hu
  walk_at "rd";exact⟨C,dx,_,hx,TC.cl,TC.n3,_,jV la wa sc,sc,rfl,Cs,dsc,_,hsc,TS.cl,TS.n2,_,hV ra rb,hu _ _ ⟨rfl,rfl⟩⟩
 rintro _ _ ⟨rfl,rfl⟩;obtain⟨W,hW⟩:∃W:Nat→L2.St→Hp→Prop,W=fun m σ H'=>∃(met:List MS) (ds:List Addr) (o5 o6 o7 o8 o9:Option V),fm P w Ss Gs cols nv U H ma na la wa H' met ds∧m=U.length - ds.length∧σ=[some (.ref x),some (.ref ma),some (.ref na),some (.ref sa),some (.ref rb),o5,o6,o7,o8,o9]:=⟨_,rfl⟩;refine⟨W,⟨U.length,?_⟩,?_⟩
 ·rw [hW]
  refine⟨[(none,Ss.map (·.start))],[],none,none,none,none,none,⟨⟨[p0],hma,rfl,fun j p t e1 e2=>?_⟩,⟨_,hna,⟨fun j t e=>?_,fun k hk=>?_⟩,aa8 _⟩,hla,fun i d t e=>(by cases e),(fun d hd=>by cases hd),hwa,ad0 _,⟨by simp,rfl,fun i t e hi=>?_⟩,fun t ht=>?_,fun b o _ e=>e⟩,rfl,rfl⟩
  ·have hj:j=0:=by
    have:=(aa1.mp e1).1
    simp at this;exact this
   subst hj;cases e1;cases e2;exact hp0
  ·have hj:j=0:=by
    have:=(aa1.mp e).1
    simp at this;exact this
   subst hj;cases e;simp [di]
  ·refine⟨(none,Ss.map (·.start)),by simp,?_⟩
   by_cases e:k=bj (none,Ss.map (·.start))
   ·exact e
   ·refine absurd ?_ hk
    unfold di;rw [ak2,decide_eq_false (fun z=>e z.symm)];rfl
  ·have hj:i=0:=by
    have:=(aa1.mp e).1
    simp at this;exact this
   omega
  ·rw [ab7.mp ht]
   exact⟨CU.st,hM0,fun c e=>by cases e⟩
 intro m σ H1 hI;rw [hW]at hI;obtain⟨met,ds,o5,o6,o7,o8,o9,B,rfl,rfl⟩:=hI;have hx1:=B.sx x _ xm hx;obtain⟨ps,hm1,hpl,hpk⟩:=B.mt;have ltU:=lenU B;refine Dn fun A0 B0 hA hB=>?_;walk_at "rd";refine⟨C,dx,_,hx1,TC.cl,TC.n1,_,dI la wa sc,.inr ⟨_,rfl,_,.inl (aI.of B.la_),_,.inl (aI.of hm1),?_⟩⟩;rw [aa0,aa0,hpl]
 by_cases hlt:(ds.length:Int) < (met.length:Int)
 ·rw [if_pos hlt]
  refine hA _ ?_
  have hlt:ds.length < met.length:=by omega
  obtain⟨st,hst⟩:∃st,met[ds.length]?=some st:=⟨_,aa2 hlt⟩;obtain⟨pp,hpp⟩:∃pp,ps[ds.length]?=some pp:=⟨_,aa2 (by omega)⟩;obtain⟨vs,hv1,hv2⟩:=hpk _ _ _ hpp hst
  obtain⟨bx,mA,rfl,hbx,hmA⟩:∃bx mA,vs=[bx,.ref mA]∧jN H1 st.1 bx∧H1 mA=some (.tup (st.2.map V.int)):=by
   cases vs with
   | nil=>exact hv2.elim
   | cons v1 vs=>
    cases vs with
    | nil=>exact hv2.2.elim
    | cons v2 vs=>
     cases vs with
     | nil=>
      obtain⟨g1,⟨b,e,g2⟩,_⟩:=hv2;exact⟨v1,b,by rw [e],g1,g2⟩
     | cons _ _=>exact hv2.2.2.elim
  obtain⟨hstU,hstM,hstW⟩:=B.al st (aa9 hst)
  have hbv:∀H',au H1 H'→BV K H' nv st.1 bx:=fun H' s'=>by
   cases e:st.1 with
   | none=>
    rw [e]at hbx;exact .inl ⟨rfl,hbx⟩
   | some c=>
    rw [e]at hbx;obtain⟨b,rfl,hb⟩:=hbx;exact .inr ⟨b,c,rfl,rfl,bf.of (s' _ _ hb),hstW c e⟩
  obtain⟨N,hN⟩:∃N:L2.St→Hp→Prop,N=fun σ H'=>∃(met':List MS) (ds':List Addr) (o5 o6 o7 o8 o9:Option V),fm P w Ss Gs cols nv U H ma na la wa H' met' ds'∧ds'.length=ds.length+1∧σ=[some (.ref x),some (.ref ma),some (.ref na),some (.ref sa),some (.ref rb),o5,o6,o7,o8,o9]:=⟨_,rfl⟩;refine⟨N,fun σ' H' h=>?_,?_⟩
  ·rw [hN]at h
   obtain⟨met',ds',o5,o6,o7,o8,o9,B',hl',rfl⟩:=h;refine⟨U.length - ds'.length,by omega,?_⟩;rw [hW];exact⟨met',ds',o5,o6,o7,o8,o9,B',rfl,rfl⟩
  have at1:∀Q',Q' bx H1→pM K (V.ref ma) (V.int ds.length) H1 fun y H2=>pM K y (V.int 0) H2 Q':=fun Q' h'=>bT (aI.of hm1) (aK (by rw [aa4,hpp];rfl)) (eQ (bf.of hv1) (dD rfl) h');have at2:∀Q',Q' (V.ref mA) H1→pM K (V.ref ma) (V.int ds.length) H1 fun y H2=>pM K y (V.int 1) H2 Q':=fun Q' h'=>bT (aI.of hm1) (aK (by rw [aa4,hpp];rfl)) (eQ (bf.of hv1) (show iC _ ((1:Nat):Int)=_ from aK rfl) h');refine aL (fun σ H'=>H1=H'∧σ=[some (.ref x),some (.ref ma),some (.ref na),some (.ref sa),some (.ref rb),some bx,o6,o7,o8,o9]) ?_ ?_
  ·intro u2 kG
   walk_at "rd";refine⟨C,dx,_,hx1,TC.cl,TC.n1,_,dI la wa sc,.inr ⟨_,rfl,_,.inl (aI.of B.la_),?_⟩⟩;rw [aa0];exact at1 _ (kG _ _ ⟨rfl,rfl⟩)
  rintro _ _ ⟨rfl,rfl⟩;refine aL (fun σ H'=>H1=H'∧σ=[some (.ref x),some (.ref ma),some (.ref na),some (.ref sa),some (.ref rb),some bx,some (.ref mA),o7,o8,o9]) ?_ ?_
  ·intro u2 kG
   walk_at "rd";refine⟨C,dx,_,hx1,TC.cl,TC.n1,_,dI la wa sc,.inr ⟨_,rfl,_,.inl (aI.of B.la_),?_⟩⟩;rw [aa0];exact at2 _ (kG _ _ ⟨rfl,rfl⟩)
  rintro _ _ ⟨rfl,rfl⟩;refine aL (fun σ H'=>∃dA:Addr,H1 dA=none∧aP (og P w) H' dA []∧au H1 H'∧σ=[some (.ref x),some (.ref ma),some (.ref na),some (.ref sa),some (.ref rb),some bx,some (.ref mA),some (.ref dA),o8,o9]) ?_ ?_
  ·intro u2 kG
   simp only [fY,u6,xO,jH];walk_at "rd";exact fun p hp=>kG _ _ ⟨p,hp,⟨ag,(fun _ z=>nomatch z),List.nodup_nil,ad0 _⟩,ar hp,rfl⟩
  rintro _ H2 ⟨dA,hd1,hD2,s12,rfl⟩
  have inH:∀{z:Addr},z∈[ma,na,la,wa]→H1 z≠none:=fun {z} h e=>by
   simp only [ab6,ac4,or_false]at h;rcases h with rfl | rfl | rfl | rfl
   ·rw [hm1]at e;cases e
   ·obtain⟨xs,D,_⟩:=B.nm;rw [D.ob]at e;cases e
   ·rw [B.la_]at e;cases e
   ·rw [B.wl]at e;cases e
  have dnot:dA∉[ma,na,la,wa]:=fun h=>inH h hd1
  have hd0:H dA=none:=by
   cases e:H dA with
   | none=>rfl
   | some o=>rw [B.sx dA o dnot e]at hd1;cases hd1
  have dds:∀d∈ds,d≠dA:=fun d hd e=>by
   obtain⟨j,hj⟩:=af1 hd;obtain⟨s',hs'⟩:∃s',met[j]?=some s':=⟨_,aa2 (ab2 (aa1.mp hj).1 B.le)⟩;obtain⟨xs,D,_⟩:=B.ld j d s' hj hs'
   have:=D.ob
   rw [e,hd1]at this;cases this
  have n4:dA≠ma∧dA≠na∧dA≠la∧dA≠wa:=⟨fun e=>dnot (by simp [e]),fun e=>dnot (by simp [e]),fun e=>dnot (by simp [e]),fun e=>dnot (by simp [e])⟩;have tup1:∀{b:Addr} {ws:List V},H b=some (.tup ws)→H2 b=some (.tup ws):=fun e=>s12 _ _ (B.sx _ _ (tm e) e);have B2:=B.same s12;obtain⟨Pv,hPv⟩:∃Pv:Nat→L2.St→Hp→Prop,Pv=fun i σ H'=>∃(met':List MS) (ys:List (List Int×Addr×V)) (o8 o9:Option V),fm P w Ss Gs cols nv U H ma na la wa H' met' ds∧met'[ds.length]?=some st∧aP (og P w) H' dA ys∧cJ Ss (cols.take i) met' st ys∧ys.length≤i∧(∀b ws,H2 b=some (.tup ws)→H' b=some (.tup ws))∧σ=[some (.ref x),some (.ref ma),some (.ref na),some (.ref sa),some (.ref rb),some bx,some (.ref mA),some (.ref dA),o8,o9]:=⟨_,rfl⟩;refine aL (fun σ H'=>Pv cols.length σ H') ?_ ?_
  ·intro u2 kG
   refine lz0 fun k9 hk9=>?_;simp only [sW];walk_at "rd";refine ba (aI.of (B2.sx sa _ sm hsa)) (bK (xs:=cs.map V.ref) Pv (by rw [hPv];exact⟨met,[],o8,o9,B2,hst,hD2,⟨fun c hc=>(by rw [List.take_zero]at hc;cases hc),fun _ _=>rfl,rfl⟩,ad0 _,fun _ _ e=>e,rfl⟩) (fun i σ H' _ h=>?_) ?_ ?_)
   ·rw [hPv]at h
    obtain⟨_,_,_,_,B',_⟩:=h;exact aI.of (B'.sx sa _ sm hsa)
   ·intro i y σ H3 hy hI
    rw [hPv]at hI;obtain⟨met3,ys,o8,o9,B3,hst3,hD3,L3,hyl,keep3,rfl⟩:=hI;rw [aa4]at hy
    cases hci:cs[i]? with
    | none=>rw [hci]at hy;cases hy
    | some ca=>
     rw [hci]at hy;cases hy
     have hi:i < cols.length:=by rw [←hT.1];exact(aa1.mp hci).1
     obtain⟨c,hc⟩:∃c,cols[i]?=some c:=⟨_,aa2 hi⟩;have hcm:=aa9 hc;have hca:=keep3 _ _ (tup1 (hT.2 i ca c hci hc));have hmA3:=keep3 _ _ (s12 _ _ hmA)
     have hbv3:BV K H3 nv st.1 bx:=by
      cases e:st.1 with
      | none=>
       rw [e]at hbx;exact .inl ⟨rfl,hbx⟩
      | some c'=>
       rw [e]at hbx;obtain⟨b,rfl,hb⟩:=hbx;exact .inr ⟨b,c',rfl,rfl,bf.of (keep3 _ _ (s12 _ _ hb)),hstW c' e⟩
     have lU3:=lenU B3;simp only [jH];refine aL (fun σ H'=>∃fA:Addr,((aJ Ss st c=none∧H' fA=some (.tup [.ref ca,.non]))∨∃ms' p,gf Ss st.2 st.1 c=some ms'∧oj Gs ms'∧H' p=some (.tup (ms'.map V.int))∧H' fA=some (.tup [.ref ca,.ref p]))∧au H3 H'∧σ=[some (.ref x),some (.ref ma),some (.ref na),some (.ref sa),some (.ref rb),some bx,some (.ref mA),some (.ref dA),some (.ref ca),some (.ref fA)]) ?_ ?_
     ·intro u3 hu3
      walk_at "rd";refine⟨rb,mA,ca,bx,nv,Ss,Gs,rs,st.2,c,st.1,rfl,RM.same (toS B3.sx),lS,bf.of hmA3,hstM,hbv3,bf.of hca,hcw c hcm,fun hno H4 s34=>⟨by omega,fun fA hfA=>hu3 _ _ ⟨fA,.inl ⟨?_,ag⟩,s34.upd hfA,rfl⟩⟩,fun ms' hms hMs p H4 hp _ s34=>⟨by omega,fun fA hfA=>hu3 _ _ ⟨fA,.inr ⟨ms',p,hms,hMs,(ar hfA) _ _ hp,ag⟩,s34.upd hfA,rfl⟩⟩⟩;unfold aJ;rw [hno];rfl
     rintro _ H4 ⟨fA,hcase,s34,rfl⟩;have B4:=B3.same s34;have hD4:=hD3.same s34;have hca4:=s34 _ _ hca;rcases hcase with⟨hno,hf4⟩ | ⟨ms',p,hms,hMs,hp4,hf4⟩
     ·refine mL fun A1 B1 hA1 hB1=>?_
      walk_at "rd";refine eQ (bf.of hf4) (show iC _ ((1:Nat):Int)=_ from aK rfl) ?_;rw [if_pos rfl];refine hA1 _ ?_;simp only [fY,xI];show Pv (i+1) _ _;rw [hPv];exact⟨met3,ys,_,_,B4,hst3,hD4,L3.skip hc hno,by omega,fun b ws e=>s34 _ _ (keep3 b ws e),rfl⟩
     ·have hnx:aJ Ss st c=some (some c,ms'):=by
       unfold aJ;rw [hms];rfl
      have hkey:(fk P w).at_ H4 (bj (some c,ms')) fA:=⟨_,hf4,⟨ca,rfl,hca4⟩,⟨p,rfl,hp4⟩,True.intro⟩;refine mL fun A1 B1 hA1 hB1=>?_;walk_at "rd";refine eQ (bf.of hf4) (show iC _ ((1:Nat):Int)=_ from aK rfl) ?_;rw [if_neg (fun e=>by cases e)];refine hB1 _ ?_;refine aL (fun σ H'=>∃met5,fm P w Ss Gs cols nv U H ma na la wa H' met5 ds∧met5[ds.length]?=some st∧(some c,ms')∈met5∧aP (og P w) H' dA ys∧cJ Ss (cols.take i) met5 st ys∧(∀b ws,H4 b=some (.tup ws)→H' b=some (.tup ws))∧σ=[some (.ref x),some (.ref ma),some (.ref na),some (.ref sa),some (.ref rb),some bx,some (.ref mA),some (.ref dA),some (.ref ca),some (.ref fA)]) ?_ ?_
      ·intro u3 hu3
       obtain⟨xs,D4,N4,xl⟩:=B4.nm;obtain⟨ps4,g1,g2,g3⟩:=B4.mt;refine mL fun A2 B2' hA2 hB2=>?_;walk_at "rd";refine⟨na,fA,bj (some c,ms'),xs,rfl,rfl,D4,hkey,_,rfl,?_⟩
       cases ea:di xs (bj (some c,ms'))with
       | none=>
        rw [if_pos (show(!(none:Option V).isSome)=true from rfl)];refine hA2 _ (lz fun k7 hk7=>?_);walk_at "rd";refine⟨_,.inl (aI.of g1),na,fA,bj (some c,ms'),xs,rfl,rfl,D4,hkey,?_⟩;rw [aa0,g2];refine hk7 _ _ ?_;walk_at "rd"
        have ntN:∀vs,H4 na≠some (.tup vs):=fun vs e=>by rw [D4.ob]at e;cases e
        have hm4:(L2.upd H4 na (dO (fk P w) na (cP xs (bj (some c,ms')) fA (.int met3.length)))) ma=some (.lst (ps4.map V.ref)):=by rw [ai mna];exact g1
        have ntM:∀vs,(L2.upd H4 na (dO (fk P w) na (cP xs (bj (some c,ms')) fA (.int met3.length)))) ma≠some (.tup vs):=fun vs e=>by rw [hm4]at e;cases e
        have hnew:=N4.fresh ea;have hltm:ds.length < met3.length:=(aa1.mp hst3).1;refine⟨.inl ⟨rfl,_,aI.of hm4⟩,ma,_,_,rfl,rfl,hm4,by rw [aa0];omega,hu3 _ _ ⟨met3++[(some c,ms')],B4.put D4 N4 xl g1 g2 g3 hkey hnew (CU.cl st hstU c hcm _ hnx) hMs (fun c' e=>by cases e;exact hcw c hcm) hst3 hcm hnx (by omega) mna n1 n2 nla nwa (by rw [hma];exact fun e=>by cases e) (by rw [hna.ob];exact fun e=>by cases e),?_,by simp,?_,L3.more _,fun b ws e=>?_,rfl⟩⟩
        ·rw [ab5 hltm]
         exact hst3
        ·exact(hD4.upd n4.2.1 ntN).upd n4.1 ntM
        ·have h1:b≠na:=fun q=>ntN ws (by rw [←q];exact e)
         have h2:b≠ma:=fun q=>by rw [q,g1]at e;cases e
         rw [ai h2,ai h1];exact e
       | some z=>
        rw [if_neg (by simp)];obtain⟨j,hj,_⟩:=N4.known (s:=(some c,ms')) (by rw [ea];exact fun e=>by cases e);exact hB2 _ (hu3 _ _ ⟨met3,B4,hst3,aa9 hj,hD4,L3,fun _ _ e=>e,rfl⟩)
      rintro _ H5 ⟨met5,B5,hst5,hin5,hD5,L5,keep5,rfl⟩;walk_at "rd";obtain⟨xs5,D5,N5,_⟩:=B5.nm;obtain⟨j,hj⟩:=af1 hin5;have hf5:=keep5 _ _ hf4;have hca5:=keep5 _ _ hca4;have hkey5:(fk P w).at_ H5 (bj (some c,ms')) fA:=⟨_,hf5,⟨ca,rfl,hca5⟩,⟨p,rfl,keep5 _ _ hp4⟩,True.intro⟩
      have ntD:∀vs,H5 dA≠some (.tup vs):=fun vs e=>by rw [hD5.ob]at e;cases e
      refine⟨na,fA,_,xs5,.int j,rfl,rfl,D5,hkey5,N5.1 j _ hj,dA,ca,c,ys,rfl,rfl,hD5,hca5,?_⟩;rw [hPv];refine⟨met5,_,_,_,B5.upd ntD hd0 n4.1 n4.2.1 n4.2.2.1 n4.2.2.2 dds,hst5,hD5.put hca5 (by omega),L5.put hc hnx hj hnd,?_,fun b ws e=>?_,rfl⟩
      ·unfold cP
       split
       ·rw [aa0];omega
       ·rw [ab3];simp;omega
      ·have h5:=keep5 _ _ (s34 _ _ (keep3 b ws e))
       rw [ai (fun q=>ntD ws (by rw [←q];exact h5))];exact h5
   ·intro σ H3 hI
    rw [aa0,hT.1]at hI;exact hk9 _ _ (kG _ _ hI)
  intro σ H3 hI;rw [hPv]at hI;obtain⟨met3,ys,o8,o9,B3,hst3,hD3,L3,hyl,keep3,rfl⟩:=hI;rw [ac9]at L3;have hx3:=B3.sx x _ xm hx;have hlt3:ds.length < met3.length:=(aa1.mp hst3).1;have lU3:=lenU B3;refine aL (fun σ H'=>H'=L2.upd H3 la (.lst (ds.map V.ref++[.ref dA]))∧σ=[some (.ref x),some (.ref ma),some (.ref na),some (.ref sa),some (.ref rb),some bx,some (.ref mA),some (.ref dA),o8,o9]) ?_ ?_
  ·intro u2 kG
   walk_at "rd";exact⟨C,dx,_,hx3,TC.cl,TC.n1,_,dI la wa sc,.inl ⟨rfl,_,aI.of B3.la_⟩,la,_,_,rfl,rfl,B3.la_,by rw [aa0];omega,kG _ _ ⟨rfl,rfl⟩⟩
  rintro _ _ ⟨rfl,rfl⟩;walk_at "rd";have xla:x≠la:=fun e=>xm (by simp [e])
  have ntL:∀vs,H3 la≠some (.tup vs):=fun vs e=>by rw [B3.la_]at e;cases e
  have hw3:(L2.upd H3 la (.lst (ds.map V.ref++[.ref dA]))) wa=some (.lst ((met3.take ds.length).map fun s=>V.bl (cc Ss s.2 s.1))):=by rw [ai n3.symm];exact B3.wl
  have sS3:au Hs (L2.upd H3 la (.lst (ds.map V.ref++[.ref dA]))):=xV z3 (toS B3.sx)
  have tk:∀{b:Addr} {ws:List V},H2 b=some (.tup ws)→(L2.upd H3 la (.lst (ds.map V.ref++[.ref dA]))) b=some (.tup ws):=fun {b ws} e=>by
   have h3:=keep3 _ _ e;rw [ai (fun q=>ntL ws (by rw [←q];exact h3))];exact h3
  have hbv3:BV K (L2.upd H3 la (.lst (ds.map V.ref++[.ref dA]))) nv st.1 bx:=by
   cases e:st.1 with
   | none=>
    rw [e]at hbx;exact .inl ⟨rfl,hbx⟩
   | some c'=>
    rw [e]at hbx;obtain⟨b,rfl,hb⟩:=hbx;exact .inr ⟨b,c',rfl,rfl,bf.of (tk (s12 _ _ hb)),hstW c' e⟩
  refine⟨C,dx,_,by rw [ai xla];exact hx3,TC.cl,TC.n2,_,sv la wa sc,.inl ⟨rfl,_,aI.of hw3⟩,rb,mA,bx,nv,Ss,Gs,rs,st.2,st.1,rfl,RM.same sS3,lS,bf.of (tk (s12 _ _ hmA)),hstM,hbv3,fun H4 s4=>⟨wa,_,_,rfl,rfl,s4 _ _ hw3,by rw [aa0,ac6];omega,?_⟩⟩;rw [hN];exact⟨met3,ds++[dA],_,_,_,_,_,B3.close hD3 L3 hst3 hd0 n1 n2 nla nwa n3 (by rw [hla];exact fun e=>by cases e) (by rw [hwa];exact fun e=>by cases e) s4,by rw [ab3];rfl,rfl⟩
 ·rw [if_neg hlt]
  refine hB _ ?_;have le:=B.le
  have e:ds.length=met.length:=by omega
  refine k met H1 B.mf (fun s hs=>(B.al s hs).1) (fun s hs c hc s' hn=>?_) ⟨ds,B.la_,e,?_,B.ld⟩ B.sx
  ·obtain⟨j,hj⟩:=af1 hs
   obtain⟨d,hd⟩:∃d,ds[j]?=some d:=⟨_,aa2 (by rw [e];exact(aa1.mp hj).1)⟩;obtain⟨xs,_,L⟩:=B.ld j d s hd hj;obtain⟨j',g,_⟩:=L.1 c hc s' hn;exact aa9 g
  ·have:=B.wl
   rw [e,ac9]at this;exact this
end
def eV(P:Program)(w:World)(C:Addr)(Ss:List aT)(cols:List (List Int))(met:List MS)(x:Addr)(H:Hp):Prop:=∃dx la wa sc:Addr,H x=some (.ins C dx (aU la wa sc))∧i0 P w Ss cols la wa H met
theorem eV.same{P:Program}{w:World}{C:Addr}{Ss:List aT}{cols:List (List Int)}{met:List MS}{x:Addr}{H H':Hp}(h:eV P w C Ss cols met x H)(s:au H H'):eV P w C Ss cols met x H':=by
 obtain⟨dx,la,wa,sc,h1,ds,h2,h3,h4,h5⟩:=h;exact⟨dx,la,wa,sc,s _ _ h1,ds,s _ _ h2,h3,s _ _ h4,fun i d t e1 e2=>let ⟨xs,g1,g2⟩:=h5 i d t e1 e2;⟨xs,g1.same s,g2⟩⟩
def Dw(P:Program)(w:World)(C:Addr):Sp:=fun vs H Q _=>∃(x:Addr) (Ss:List aT) (cols:List (List Int)) (met:List MS),vs=[.ref x]∧eV P w C Ss cols met x H∧Q (.int met.length) H
def BC(P:Program)(w:World)(C:Addr):Sp:=fun vs H Q _=>∃(x ca:Addr) (Ss:List aT) (cols:List (List Int)) (met:List MS) (i:Nat) (c:List Int) (s:MS),vs=[.ref x,.int i,.ref ca]∧eV P w C Ss cols met x H∧met[i]?=some s∧H ca=some (.tup (c.map V.int))∧
 (∀(j:Nat) s',c∈cols→aJ Ss s c=some s'→met[j]?=some s'→Q (.int j) H)∧((c∈cols→aJ Ss s c=none)→Q .non H)
def rG(P:Program)(w:World)(C:Addr):Sp:=fun vs H Q _=>∃(x:Addr) (Ss:List aT) (cols:List (List Int)) (met:List MS) (i:Nat) (s:MS),vs=[.ref x,.int i]∧eV P w C Ss cols met x H∧met[i]?=some s∧Q (.bl (cc Ss s.2 s.1)) H
def fc(K:Frag)(C:Addr):Sp:=fun vs H Q _=>∃(x dx:Addr),vs=[.ref x]∧H x=some (.ins C dx [])∧∀l w H',H l=none→H w=none→w≠l→H'=upd (upd (upd H l (.lst [])) w (.lst [])) x (.ins C dx (cI "well" (.ref w) (cI "leads" (.ref l) [])))→Q .non H'
def gN(P:Program)(w:World)(K:Frag)(mg:Str→Option Value)(base:Heap)(C Cs:Addr):Sp:=fun vs H Q _=>∃(x dx sc:Addr) (nv:Nat) (bs:List (Int×Int)) (Ss:List aT) (Gs:List (Int→Prop)) (U:List MS) (H0:Hp),vs=[.ref x,.ref sc]∧H x=some (.ins C dx [])∧H0 x=none∧au H0 H∧fv P w K mg base Cs nv bs Ss Gs sc H0∧Ss.length≤100∧
 oj Gs (Ss.map (·.start))∧bs.length=nv∧bs.length≤4∧(∀b∈bs,1≤wN b)∧gv bs≤400∧qg Ss (aj bs) U∧∀met H',rX Ss (aj bs) met→(∀s∈met,s∈U)→(∀(s:MS),s∈met→∀c∈aj bs,∀s',aJ Ss s c=some s'→s'∈met)→(∃dx la wa:Addr,H' x=some (.ins C dx (aU la wa sc))∧i0 P w Ss (aj bs) la wa H' met)→(∀b o,b≠x→H b=some o→H' b=some o)→Q .non H'
section
variable {P:Program} {w:World} {K:Frag} {mg:Str→Option Value} {base:Heap} {aM:Addr}
theorem yY{f C:Addr}{fd:FuncData}(F:cY K "ends" "States.ends" eB f fd)(T:Txt mg aM)(TC:bM K C):aR P w K mg base cO 1 f fd ["self","state"] (rG P w C):=by
 refine F.ok ki (fun vs H Q E h=>?_) (fun cdv A outer s H vs Q E hr h=>?_)
 ·obtain⟨x,Ss,cols,met,i,s,rfl,_⟩:=h
  rfl
 obtain⟨x,Ss,cols,met,i,st,rfl,⟨dx,la,wa,sc,hx,ds,h1,h2,h3,h4⟩,hst,q⟩:=h;refine⟨_,(ak (aC (aV (bC K) (bQ (pr 0) rfl) (pr 1) (fun _ _=>rfl)))),?_⟩;walk_at "rd";exact⟨C,dx,_,hx,TC.cl,TC.n2,_,sv la wa sc,bT (aI.of h3) (aK (by rw [aa4,hst];rfl)) q⟩
theorem j3{f C:Addr}{fd:FuncData}(F:cY K "__init__" "States.__init__" cM f fd)(T:Txt mg aM)(TC:bM K C):aR P w K mg base cO 1 f fd ["self"] (fc K C):=by
 refine F.ok gK (fun vs H Q E h=>?_) (fun cdv A outer s H vs Q E hr h=>?_)
 ·obtain⟨x,dx,rfl,_⟩:=h
  rfl
 obtain⟨x,dx,rfl,hx,k⟩:=h
 refine⟨_,(ah (j9 (pr 0) (bA af) rfl)
 (ak (j9 (pr 0) (bA af) rfl))),?_⟩
 have hs:sizeLine=16777216:=sizeLine_eq;walk_at "rd";have ln:∀(f:Str) (v:V) (l:List (Str×V)) (n:Nat),l.length≤n→(cI f v l).length≤n+1:=fun f v l n h=>ac0 (de f v l) (am2 h);refine⟨by omega,fun l hl=>?_⟩
 have lx:l≠x:=fun e=>by subst e;rw [hx]at hl;cases hl
 refine⟨C,dx,[],by rw [ai (Ne.symm lx)];exact hx,TC.cl,TC.n1,by decide,by omega,fun w' hw=>?_⟩
 have wx:w'≠x:=fun e=>by subst e;rw [ag]at hw;cases hw
 rw [ai wx]at hw
 have wl:w'≠l:=fun e=>by subst e;rw [ag]at hw;cases hw
 rw [ai wl]at hw;refine⟨C,dx,_,by rw [ai (Ne.symm wx),ag],TC.cl,TC.n2,ad5 (ln _ _ _ _ (ad0 0)) (by decide),?_⟩;refine k l w' _ hl hw wl ?_;rw [p8]
theorem CI{f C:Addr}{fd:FuncData}(F:cY K "to" "States.to" fM f fd)(T:Txt mg aM)(TC:bM K C):aR P w K mg base cO 1 f fd ["self","state","column"] (BC P w C):=by
 refine F.ok nQ (fun vs H Q E h=>?_) (fun cdv A outer s H vs Q E hr h=>?_)
 ·obtain⟨x,ca,Ss,cols,met,i,c,s,rfl,_⟩:=h
  rfl
 obtain⟨x,ca,Ss,cols,met,i,c,st,rfl,⟨dx,la,wa,sc,hx,ds,h1,h2,h3,h4⟩,hst,hc,q1,q2⟩:=h;refine⟨_,(ak (aC (zg (kk':=og P w) (kG hr) (aV (bC K) (bQ (pr 0) rfl) (pr 1) (fun _ _=>rfl)) (aa (pr 2) af)))),?_⟩;walk_at "rd";obtain⟨d,hd⟩:∃d,ds[i]?=some d:=⟨_,aa2 (by rw [h2];exact(aa1.mp hst).1)⟩;obtain⟨xs,D,L⟩:=h4 i d st hd hst;refine⟨C,dx,_,hx,TC.cl,TC.n1,_,dI la wa sc,bT (aI.of h1) (aK (by rw [aa4,hd];rfl)) ?_⟩;refine⟨⟨d,rfl,xs,D⟩,d,ca,c,xs,rfl,rfl,D,hc,?_⟩
 by_cases hcc:c∈cols
 ·cases hn:aJ Ss st c with
  | none=>
   rw [L.2.1 c fun _=>hn];exact q2 fun _=>hn
  | some s'=>
   obtain⟨j,hj,ha⟩:=L.1 c hcc s' hn;rw [ha];exact q1 j s' hcc hn hj
 ·rw [L.2.1 c fun h=>absurd h hcc]
  exact q2 fun h=>absurd h hcc
theorem m6{f C Cs:Addr}{fd:FuncData}(F:cY K "__init__" "Machine.__init__" cE f fd)(T:Txt mg aM)(TC:bM K C)(TS:cv K Cs)(DC_States___init__:qh P w K mg base "States" "__init__" 10 ["self"] (fc K C))(D_columns:bN P w K mg base "columns" 10 ["score"] (eR K Cs))(M_build:bH P w K mg base C "build" 10 ["self","met","numbers","steps"] (nW P w K mg base C Cs)):
  aR P w K mg base cO 11 f fd ["self","score"] (gN P w K mg base C Cs):=by
 refine F.ok sc_Machine___init__ (fun vs H Q E h=>?_) (fun cdv A outer s H vs Q E hr h=>?_)
 ·obtain⟨x,dx,sc,nv,bs,Ss,Gs,U,H0,rfl,_⟩:=h
  rfl
 obtain⟨x,dx,sc,nv,bs,Ss,Gs,U,H0,rfl,hx,hx0,s0,⟨dsc,ra,rb,rs,hsc,RA,RM⟩,lS,hM0,hnv,lb,hw,hc,CU,k⟩:=h
 refine⟨_,(ah (bG (wY DC_States___init__ hr (by rfl) (aa (pr 0) af)))
 (ah (j9 (pr 0) (pr 1) rfl)
 (ah (ay (i:=2) sc_Machine___init__.nd rfl (Or.inl rfl) (dU (aa bR (aa (bc (fw K) (by rfl) T.n_tuple boot_tuple (aa (bP (own:=["rule"]) (js:=[]) rfl (aX K (bQ (pr 1) rfl)) (aW.of (by rfl)) (fun _ _ _ _ _=>(aw (i:=0) (show List.Nodup (["rule"]:List Str)from by decide +kernel) rfl (Or.inl rfl))) (fun _ _ _ _ _=>bS) (fun _ _ _ _ _=>(gg P w K mg base hr (pr 0)))) af)) af))))
 (ak (bG (dh P w K mg base hr (pr 0) (aa (bA (aa (pr 2) af)) (aa (zm (kk':=fk P w) (kG hr) (pr 2) (eA T.g_START) (A7 (kG hr))) (aa (aE D_columns hr (by rfl) (aa (pr 1) af)) af))))))))),?_⟩
 have hs:sizeLine=16777216:=sizeLine_eq
 have scx:sc≠x:=fun e=>by rw [e,hx0]at hsc;cases hsc
 refine aL (fun σ H'=>∃la wa:Addr,H la=none∧H wa=none∧wa≠la∧H'=upd (upd (upd H la (.lst [])) wa (.lst [])) x (.ins C dx (cI "well" (.ref wa) (cI "leads" (.ref la) [])))∧σ=[some (.ref x),some (.ref sc),none]) ?_ ?_
 ·intro u' hu
  walk_at "rd";exact⟨x,dx,rfl,hx,fun l w' H' hl hw' hne e=>hu _ _ ⟨l,w',hl,hw',hne,e,rfl⟩⟩
 rintro _ H1 ⟨la,wa,hla,hwa,nwl,eH1,rfl⟩
 have hx1:H1 x=some (.ins C dx (cI "well" (.ref wa) (cI "leads" (.ref la) []))):=by rw [eH1,ag]
 refine aL (fun σ H'=>H'=upd H1 x (.ins C dx (aU la wa sc))∧σ=[some (.ref x),some (.ref sc),none]) ?_ ?_
 ·intro u' hu
  walk_at "rd";have ln:∀(f:Str) (v:V) (l:List (Str×V)) (n:Nat),l.length≤n→(cI f v l).length≤n+1:=fun f v l n h=>ac0 (de f v l) (am2 h);exact⟨C,dx,_,hx1,TC.cl,TC.n3,ad5 (ln _ _ _ _ (ln _ _ _ _ (ad0 0))) (by decide),hu _ _ ⟨rfl,rfl⟩⟩
 rintro _ H2 ⟨eH2,rfl⟩
 have lax:la≠x:=fun e=>by rw [e,hx]at hla;cases hla
 have wax:wa≠x:=fun e=>by rw [e,hx]at hwa;cases hwa
 have e2:H2=upd (upd (upd H la (.lst [])) wa (.lst [])) x (.ins C dx (aU la wa sc)):=by rw [eH2,eH1,td]
 have hx2:H2 x=some (.ins C dx (aU la wa sc)):=by rw [e2,ag]
 have hla2:H2 la=some (.lst []):=by rw [e2,ai lax,ai nwl.symm,ag]
 have hwa2:H2 wa=some (.lst []):=by rw [e2,ai wax,ag]
 have old2:∀b o,b≠x→H b=some o→H2 b=some o:=fun b o hb e=>by rw [e2,ai hb,ai (aq e hwa),ai (aq e hla)];exact e
 have s02:au H0 H2:=fun b o e=>old2 b o (fun q=>by rw [q,hx0]at e;cases e) (s0 _ _ e)
 have hla0:H0 la=none:=by
  cases e:H0 la with
  | none=>rfl
  | some o=>rw [s0 _ _ e]at hla;cases hla
 have hwa0:H0 wa=none:=by
  cases e:H0 wa with
  | none=>rfl
  | some o=>rw [s0 _ _ e]at hwa;cases hwa
 clear e2 eH2 eH1 hx1;clear H1;have RM2:=RM.same s02
 refine aL (fun σ H'=>∃bg mA:Addr,H' bg=some (.tup [.non,.ref mA])∧H' mA=some (.tup ((Ss.map (·.start)).map V.int))∧au H2 H'∧σ=[some (.ref x),some (.ref sc),some (.ref bg)]) ?_ ?_
 ·intro u' hu
  walk_at "rd";have lr:=RM.len;have lg:=RM.gl
  refine⟨Cs,dsc,_,s02 _ _ hsc,TS.cl,TS.n2,_,hV ra rb,ba RM2.sq (bt (xs:=rs.map V.ref) (fun i ys H'=>ys=((Ss.take i).map (·.start)).map V.int∧H2=H') (by rw [aa0];omega) ⟨rfl,rfl⟩ ?_ ?_ ?_ ?_)⟩
  ·rintro i ys H' ⟨rfl,rfl⟩
   rw [aa0,aa0,ac6];omega
  ·rintro i ys H' ⟨rfl,rfl⟩
   exact RM2.sq
  ·rintro i y ys H' hy ⟨rfl,rfl⟩
   rw [aa4]at hy
   cases hri:rs[i]? with
   | none=>rw [hri]at hy;cases hy
   | some r=>
    rw [hri]at hy;cases hy
    have hi:i < Ss.length:=by rw [←lr];exact(aa1.mp hri).1
    obtain⟨S,hS⟩:∃S,Ss[i]?=some S:=⟨_,aa2 hi⟩;obtain⟨G,hG⟩:∃G,Gs[i]?=some G:=⟨_,aa2 (by omega)⟩;obtain⟨Cr,RI,RO,hRI⟩:=RM2.at_ i r S G hri hS hG;obtain⟨dr,fs,hir,z1,z2,z3,z4,z5⟩:=RO.ins r H2 hRI;simp only [cy];walk_at "rd";refine⟨Cr,dr,fs,hir,z2,_,_,RO.start.up (by decide),r,rfl,hRI,?_⟩;rw [ab9,hS,ab4,ab4];exact⟨rfl,rfl⟩
  ·rintro ys H' ⟨rfl,rfl⟩ p hp
   rw [aa0,lr,ac9];refine⟨_,.inl ⟨aI.of ag,fun l hl=>⟨by omega,fun bg hbg=>hu _ _ ⟨bg,l,ag,(ar hbg) _ _ ag,((ar hp).upd hl).upd hbg,rfl⟩⟩⟩⟩
 rintro _ H3 ⟨bg,mA,hbg,hmA,s23,rfl⟩;walk_at "rd";have hx3:=s23 _ _ hx2;have s03:=s02.trans s23;refine⟨C,dx,_,hx3,by unfold aU;walk_at "flds",_,_,M_build,by omega,fun ma hma na hna=>?_⟩;have hna3:H3 na=none:=(ar hma).free hna
 have nma:na≠ma:=fun e=>by rw [e,ag]at hna;cases hna
 have hk4:(fk P w).at_ (upd (upd H3 ma (.lst [.ref bg])) na (dO (fk P w) na [])) (bj (none,Ss.map (·.start))) bg:=⟨_,(ar hna) _ _ ((ar hma) _ _ hbg),rfl,⟨mA,rfl,(ar hna) _ _ ((ar hma) _ _ hmA)⟩,True.intro⟩
 refine⟨ag,_,hk4,?_⟩;rw [td]
 have s35:au H3 (upd (upd H3 ma (.lst [.ref bg])) na (dO (fk P w) na [(bj (none,Ss.map (·.start)),bg,.int 0)])):=(ar hma).upd hna
 have hma5:(upd (upd H3 ma (.lst [.ref bg])) na (dO (fk P w) na [(bj (none,Ss.map (·.start)),bg,.int 0)])) ma=some (.lst [.ref bg]):=by rw [ai nma.symm,ag]
 have hna5:(upd (upd H3 ma (.lst [.ref bg])) na (dO (fk P w) na [(bj (none,Ss.map (·.start)),bg,.int 0)])) na=some (dO (fk P w) na [(bj (none,Ss.map (·.start)),bg,.int 0)]):=ag
 refine(fun(key:∀H5:Hp,au H3 H5→H5 ma=some (.lst [.ref bg])→H5 na=some (dO (fk P w) na [(bj (none,Ss.map (·.start)),bg,.int 0)])→eR K Cs [V.ref sc] H5 _ _)=>key _ s35 hma5 hna5) ?_
 clear s35 hma5 hna5;intro H5 s35 hma5 hna5;have s05:=s03.trans s35;refine⟨sc,dsc,ra,rb,bs,rfl,s05 _ _ hsc,RA.same s05,lb,hw,hc,fun sa H6 hsa0 hC6 s56=>?_⟩;obtain⟨cs,hsa,hT⟩:=hC6;have s06:=s05.trans s56;have s36:=s35.trans s56
 have fr0:∀{z:Addr},H3 z=none→H0 z=none:=fun {z} h=>by
  cases e:H0 z with
  | none=>rfl
  | some o=>rw [s03 _ _ e]at h;cases h
 have hla3:=s23 _ _ hla2;have hwa3:=s23 _ _ hwa2
 refine⟨x,dx,ma,na,sa,la,wa,sc,dsc,ra,rb,bg,nv,Ss,Gs,rs,cs,aj bs,U,H0,rfl,s36 _ _ hx3,s06 _ _ hsc,s06,fr0 hma,fr0 hna3,hla0,hwa0,RM,lS,hM0,s56 _ _ hma5,⟨_,s36 _ _ hbg,rfl,⟨mA,rfl,s36 _ _ hmA⟩,True.intro⟩,
  ⟨s56 _ _ hna5,fun y hy=>?_,by simp,by simp⟩,s36 _ _ hla3,s36 _ _ hwa3,(aq hla3 hma).symm,(aq hwa3 hma).symm,nwl.symm,hsa,(aq hma5 hsa0).symm,(aq (s35 _ _ hla3) hsa0).symm,(aq (s35 _ _ hwa3) hsa0).symm,hT,fun c hcc=>by rw [cG bs c hcc,hnv],by rw [bI];omega,oA bs,CU,fun met H' mf sub cl mb sx=>k met H' mf sub cl ⟨dx,la,wa,?_,mb⟩ fun b o hb e=>?_⟩
 ·rw [ab7.mp hy]
  exact⟨_,s36 _ _ hbg,rfl,⟨mA,rfl,s36 _ _ hmA⟩,True.intro⟩
 ·refine sx x _ (fun h=>?_) (s36 _ _ hx3)
  simp only [ab6,ac4,or_false]at h;rcases h with e | e | e | e
  ·exact aq hx3 hma e
  ·exact aq hx3 hna3 e
  ·exact lax e.symm
  ·exact wax e.symm
 ·have h3:=s23 _ _ (old2 b o hb e)
  refine sx b o (fun h=>?_) (s36 _ _ h3);simp only [ab6,ac4,or_false]at h;rcases h with q | q | q | q
  ·exact aq h3 hma q
  ·exact aq h3 hna3 q
  ·exact aq e hla q
  ·exact aq e hwa q
end
theorem pZ{c:Nat}(hc:c < 256){ws:List Str}(h:ws≠[])(hn:∀z∈ws,c∉z.cps.toList):Txt.split (Txt.join ⟨#[c]⟩ ws) ⟨#[c]⟩=ws:=by
 refine cZ ?_;rw [fW _ hc,jP,ky c _ (by simpa using h) (fun p hp=>?_)];obtain⟨z,hz,rfl⟩:=ac3.mp hp;exact hn z hz
def n0(K:Frag):Sp:=fun vs H Q _=>∃row:Str,vs=[.str row]∧row.length≤20000∧((∃lo hi:Int,fu row (Str.ofString "voice") [lo,hi]∧lo≤hi∧∀p H',H' p=some (.tup [.int lo,.int hi])→au H H'→Q (.ref p) H')∨∃w0 ws,Txt.split row ⟨#[32]⟩=w0::ws∧w0≠Str.ofString "voice"∧∀H',au H H'→Q .non H')
def nY(P:Program)(w:World)(K:Frag)(mg:Str→Option Value)(base:Heap)(C:Addr):Sp:=fun vs H Q _=>∃(text:Str) (bs:List (Int×Int)) (vr:Int×Int→Str),vs=[.str text]∧text.length≤1000000∧Txt.split text ⟨#[10]⟩=bs.map vr∧1≤bs.length∧bs.length≤4∧
 (∀b∈bs,fu (vr b) (Str.ofString "voice") [b.1,b.2]∧b.1≤b.2∧(fZ b).natAbs < 2 ^ 200)∧vi bs≤400∧∀x H',fv P w K mg base C bs.length bs [] [] x H'→au H H'→Q (.ref x) H'
section
variable {P:Program} {w:World} {K:Frag} {mg:Str→Option Value} {base:Heap} {aM:Addr}
theorem j4{f:Addr}{fd:FuncData}(F:cY K "voice_range" "voice_range" eG f fd)(T:Txt mg aM)(D_is_number:bN P w K mg base "is_number" 1 ["word"] xC):aR P w K mg base cO 2 f fd ["row"] (n0 K):=by
 refine F.ok sc_voice_range (fun vs H Q E h=>?_) (fun cdv A outer s H vs Q E hr h=>?_)
 ·obtain⟨row,rfl,_⟩:=h
  rfl
 obtain⟨row,rfl,hl,h⟩:=h
 refine⟨_,(ah (ay (i:=1) sc_voice_range.nd rfl (Or.inl rfl) (bO K PySem.F.plainAttrs_str PySem.F.slot_str_split PySem.F.type_str_split pf (pr 0) (aa dS af)))
 (ah (bL (PW.pt (fg (cz (aN DS (ax (aG K) (by rfl) T.n_len boot_len (aa (pr 1) af)) ao (aQ _))) (fg (cz (aN DS (aV (bC K) (pr 1) ao (fun _ _=>rfl)) dS (aQ _))) (eZ (cL (a0 (ax (eK K rfl) (by rfl) T.n_all boot_all (aa (bP (own:=["word"]) (js:=[]) rfl (aX K (pF (C9 K) (pr 1) (C3 ao) sI)) (aW.of (by rfl)) (fun _ _ _ _ _=>(aw (i:=0) (show List.Nodup (["word"]:List Str)from by decide +kernel) rfl (Or.inl rfl))) (fun _ _ _ _ _=>bS) (fun _ _ _ _ _=>(aE D_is_number hr (by rfl) (aa (pr 0) af)))) af)) (fun _=>rfl))))))) (ak (aC bR)) aY)
 (ah (ay (i:=2) sc_voice_range.nd rfl (Or.inl rfl) (dU (aa (bc (gc) (by rfl) T.n_int boot_int (aa (aV (bC K) (pr 1) ao (fun _ _=>rfl)) af)) (aa (bc (gc) (by rfl) T.n_int boot_int (aa (aV (bC K) (pr 1) ao (fun _ _=>rfl)) af)) af))))
 (ak (aC (fL (cz (aN (o0 sE) (aV (bC K) (pr 2) ao (fun _ _=>rfl)) (aV (bC K) (pr 2) ao (fun _ _=>rfl)) (aQ _))) (pr 2) bR)))))),?_⟩
 have hs:sizeLine=16777216:=sizeLine_eq;refine aL (fun σ H'=>∃p:Addr,H' p=some (.lst ((Txt.split row ⟨#[32]⟩).map V.str))∧σ=[some (.str row),some (.ref p),none]∧au H H') ?_ ?_
 ·intro u' hu
  walk_at "rd";exact⟨32,by decide +kernel,by decide,by omega,fun p hp=>hu _ _ ⟨p,ag,rfl,ar hp⟩⟩
 rintro _ H1 ⟨p,hp1,rfl,s1⟩;rcases h with⟨lo,hi,RI,hle,q⟩ | ⟨w0,ws,hsp,hw0,q⟩
 ·rw [RI.split]at hp1
  have b1:=RI.nb lo (by simp);have b2:=RI.nb hi (by simp);have nlen:∀n:Int,n.natAbs < 10 ^ 40→(dR n).length≤41:=fun n h=>pk h;refine aL (fun σ H'=>σ=[some (.str row),some (.ref p),none]∧au H1 H') ?_ ?_
  ·intro u' hu
   walk_at "rd";refine⟨_,.inl (aI.of hp1),?_⟩;rw [if_pos (by simp)];refine bT (aI.of hp1) (dD rfl) ?_;walk_at "rd";refine Bs (aI.of hp1) fun q2 hq2=>?_;rw [show(some (1:Int))=some ((1:Nat):Int)from rfl,tR];show Bo _ _ _ _;have s2:au H1 (upd H1 q2 (.lst (([lo,hi].map dR).map V.str))):=ar hq2;refine ba (xs:=([lo,hi].map dR).map V.str) (aI.of ag) (bt (xs:=([lo,hi].map dR).map V.str) (fun i ys H'=>ys=(List.replicate i true).map V.bl∧au (upd H1 q2 (.lst (([lo,hi].map dR).map V.str))) H') (by simp;omega) ⟨rfl,au.refl _⟩ ?_ ?_ ?_ ?_)
   ·rintro i ys H' ⟨rfl,sm⟩
    simp
   ·rintro i ys H' ⟨rfl,sm⟩
    exact sm.seq (aI.of ag)
   ·rintro i x ys H' hx ⟨rfl,sm⟩
    obtain⟨n,hn,rfl⟩:∃n∈[lo,hi],x=.str (dR n):=by
     have:=aa9 hx
     simp only [ai1,ac3,Function.comp_apply]at this;obtain⟨n,hn,e⟩:=this;exact⟨n,hn,e.symm⟩
    walk_at "rd";refine⟨dR n,rfl,?_,fun H1 s1=>⟨?_,sm.trans s1⟩⟩
    ·have:=nlen n (RI.nb n hn)
     omega
    ·show _=(List.replicate (i+1) true).map V.bl
     rw [show(dR n).cps.toList=h7 n from rfl,uk (RI.nb n hn),ak0,ab4];rfl
   rintro ys H2 ⟨rfl,sm⟩ p1 hp1';refine⟨_,aI.of ag,?_⟩;rw [show(List.replicate (([lo,hi].map dR).map V.str).length true).all id=true by simp];walk_at "rd";exact hu _ _ ⟨rfl,(s2.trans sm).upd hp1'⟩
  rintro _ H2 ⟨rfl,s12⟩;have hp2:=s12 _ _ hp1;refine aL (fun σ H'=>∃t:Addr,H' t=some (.tup [.int lo,.int hi])∧σ=[some (.str row),some (.ref p),some (.ref t)]∧au H2 H') ?_ ?_
  ·intro u' hu
   walk_at "rd";refine bT (aI.of hp2) (show iC _ ((1:Nat):Int)=_ from aK rfl) ?_;walk_at "rd";refine⟨lo,sk (ab2 b1 (Nat.pow_le_pow_right (by decide) (by decide))),by have:=nlen lo b1;omega,bT (aI.of hp2) (show iC _ ((2:Nat):Int)=_ from aK rfl) ?_⟩;walk_at "rd";exact⟨hi,sk (ab2 b2 (Nat.pow_le_pow_right (by decide) (by decide))),by have:=nlen hi b2;omega,by omega,fun t ht=>hu _ _ ⟨t,ag,rfl,ar ht⟩⟩
  rintro _ H3 ⟨t,ht,rfl,s23⟩;walk_at "rd";refine eQ (bf.of ht) (dD rfl) (eQ (bf.of ht) (show iC _ ((1:Nat):Int)=_ from aK rfl) ?_);walk_at "rd";rw [if_pos hle];exact q t _ ht ((s1.trans s12).trans s23)
 ·rw [hsp]at hp1
  walk_at "rd";refine⟨_,.inl (aI.of hp1),?_⟩
  by_cases h3:(((w0::ws).map V.str).length:Int)=3
  ·rw [if_pos h3]
   refine bT (aI.of hp1) (dD rfl) ?_;walk_at "rd";rw [if_neg hw0];exact q _ s1
  ·rw [if_neg h3]
   exact q _ s1
theorem y3{f C:Addr}{fd:FuncData}(F:cY K "read" "read" rD f fd)(T:Txt mg aM)(TC:cv K C)(D_voice_range:bN P w K mg base "voice_range" 10 ["row"] (n0 K))(DM_Score:my P w K mg base "Score" C 9 ["self","ranges","rules"] (fV K C))(D_not_too_wide:bN P w K mg base "not_too_wide" 10 ["score"] (iW P w K mg base C)):aR P w K mg base cO 11 f fd ["text"] (nY P w K mg base C):=by
 refine F.ok sc_read (fun vs H Q E h=>?_) (fun cdv A outer s H vs Q E hr h=>?_)
 ·obtain⟨text,bs,vr,rfl,_⟩:=h
  rfl
 obtain⟨text,bs,vr,rfl,htl,hsp,nv1,nv4,hb,hwt,q1⟩:=h
 refine⟨_,(ah (ay (i:=1) sc_read.nd rfl (Or.inl rfl) (bA af))
 (ah (ay (i:=2) sc_read.nd rfl (Or.inl rfl) (bA af))
 (ah (bu PassesOwn.never rfl (dW rfl T.n_enumerate (aa (bO K PySem.F.plainAttrs_str PySem.F.slot_str_split PySem.F.type_str_split pf (pr 0) (aa dS af)) af)) (bE K (n:=2) rfl (aD (aw (i:=3) sc_read.nd rfl (Or.inl rfl)) (aD (aw (i:=4) sc_read.nd rfl (Or.inl rfl)) bF)))
 (ah (ay (i:=5) sc_read.nd rfl (Or.inl rfl) (aE D_voice_range hr (by rfl) (aa (pr 4) af)))
 (ak (bL (PW.pt (nE (cz (aN jk (pr 5) bR (aQ _))) (nE (cz (aN (o0 wU) (ax (aG K) (by rfl) T.n_len boot_len (aa (pr 1) af)) (eA T.g_MOST_VOICES) (aQ _))) (nF (cz (aN x6 (ax (aG K) (by rfl) T.n_len boot_len (aa (pr 2) af)) ao (aQ _))))))) (ak (bG (bO K PySem.F.plainAttrs_list PySem.F.slot_list_append PySem.F.type_list_append bp (pr 1) (aa (pr 5) af)))) (ak (bL (PW.pt (fg (cz (aN x6 (ax (aG K) (by rfl) T.n_len boot_len (aa (pr 1) af)) ao (aQ _))) (eZ (cz (aN x6 (ax (aG K) (by rfl) T.n_len boot_len (aa (pr 2) af)) (eA T.g_MOST_RULES) (aQ _)))))) (ak ij) (ak (bG (bO K PySem.F.plainAttrs_list PySem.F.slot_list_append PySem.F.type_list_append bp (pr 2) (aa j7 af))))))))))
 (ak (aC (aE D_not_too_wide hr (by rfl) (aa (Ap DM_Score hr (by rfl) (aa (pr 1) (aa (pr 2) af))) af))))))),?_⟩
 have hs:sizeLine=16777216:=sizeLine_eq;refine aL (fun σ H'=>∃ra:Addr,H ra=none∧H' ra=some (.lst (([]:List Addr).map V.ref))∧σ=[some (.str text),some (.ref ra),none,none,none,none]∧au H H') ?_ ?_
 ·intro u' hu
  walk_at "rd";exact⟨by omega,fun p hp=>hu _ _ ⟨p,hp,ag,rfl,ar hp⟩⟩
 rintro _ H1 ⟨ra,hra,hra1,rfl,s1⟩;refine aL (fun σ H'=>∃ru:Addr,H ru=none∧ru≠ra∧H' ru=some (.lst (([]:List Addr).map V.ref))∧H' ra=some (.lst (([]:List Addr).map V.ref))∧σ=[some (.str text),some (.ref ra),some (.ref ru),none,none,none]∧au H H') ?_ ?_
 ·intro u' hu
  walk_at "rd";exact⟨by omega,fun p hp=>hu _ _ ⟨p,s1.free hp,(aq hra1 hp).symm,ag,(ar hp) _ _ hra1,rfl,s1.upd hp⟩⟩
 clear hra1 s1;rintro _ H2 ⟨ru,hru,rra,hru2,hra2,rfl,s2⟩;refine aL (fun σ H'=>∃(ts rs:List Addr) (o3 o4 o5:Option V),σ=[some (.str text),some (.ref ra),some (.ref ru),o3,o4,o5]∧ts.length=bs.length∧rs=[]∧H' ra=some (.lst (ts.map V.ref))∧H' ru=some (.lst (rs.map V.ref))∧(∀(j:Nat) (t:Addr) (b:Int×Int),ts[j]?=some t→bs[j]?=some b→H' t=some (.tup [.int b.1,.int b.2]))∧au H H') ?_ ?_
 ·intro u' hu
  walk_at "rd";refine⟨10,by decide +kernel,by decide,by omega,fun sp hsp0=>?_⟩;rw [hsp];have s3:au H2 (upd H2 sp (.lst ((bs.map vr).map V.str))):=ar hsp0;have nsa:sp≠ra:=(aq hra2 hsp0).symm;have nsu:sp≠ru:=(aq hru2 hsp0).symm;obtain⟨Pv,hPv⟩:∃Pv:Nat→L2.St→Hp→Prop,Pv=fun i σ H'=>∃(ts rs:List Addr) (o3 o4 o5:Option V),σ=[some (.str text),some (.ref ra),some (.ref ru),o3,o4,o5]∧ts.length=min i bs.length∧rs=[]∧H' ra=some (.lst (ts.map V.ref))∧H' ru=some (.lst (rs.map V.ref))∧H' sp=some (.lst ((bs.map vr).map V.str))∧(∀(j:Nat) (t:Addr) (b:Int×Int),ts[j]?=some t→bs[j]?=some b→H' t=some (.tup [.int b.1,.int b.2]))∧au H H':=⟨_,rfl⟩
  refine⟨true,⟨_,aI.of ag⟩,dP (l:=true) (us:=(bs.map vr).map V.str) Pv
   (by rw [hPv];exact⟨[],[],none,none,none,rfl,by simp,rfl,s3 _ _ hra2,s3 _ _ hru2,ag,fun j t b e=>(by cases e),s2.trans s3⟩) (fun i σ H' _ h=>by rw [hPv]at h;obtain⟨_,_,_,_,_,_,_,_,_,_,h,_⟩:=h;exact aI.of h) ?_ ?_⟩
  ·rintro i y σ H4 p hx hI hp0
   have hI':=hI;rw [hPv]at hI';clear hI;obtain⟨ts,rs,o3,o4,o5,rfl,tl,rfl,ha4,hu4,hs4,ht4,s4⟩:=hI'
   have hi:i < bs.length:=by have:=(aa1.mp hx).1;simpa using this
   rw [aa4]at hx;have sp5:au H4 (upd H4 p (.tup [.int i,y])):=ar hp0;have hp5:(upd H4 p (.tup [.int i,y])) p=some (.tup [.int i,y]):=ag;have hv:=hi;have eb:bs[i]?=some bs[i]:=aa2 hv;obtain⟨hrow,hle,_⟩:=hb _ (ae2 hv);rw [aa4,eb]at hx;cases hx;walk_at "rd";refine⟨_,bf.of hp5,rfl,?_⟩;walk_at "rd";generalize upd H4 p (.tup [.int i,.str (vr bs[i])])=H5 at sp5 hp5;refine⟨vr bs[i],rfl,by have:=hrow.len;omega,.inl ⟨_,_,hrow,hle,fun t H6 ht6 s56=>?_⟩⟩;have s46:=sp5.trans s56;walk_at "rd";refine⟨_,.inl (aI.of (s46 _ _ ha4)),?_⟩;rw [if_pos (by rw [aa0];omega)];refine⟨_,.inl (aI.of (s46 _ _ hu4)),?_⟩;rw [if_pos (by rfl)];have ha6:=s46 _ _ ha4;refine⟨.inl ⟨rfl,_,aI.of ha6⟩,ra,_,_,rfl,rfl,ha6,by rw [aa0];omega,?_⟩;rw [hPv];refine⟨ts++[t],[],_,_,_,rfl,by simp;omega,rfl,by rw [ag,ab4];rfl,by rw [ai rra];exact s46 _ _ hu4,by rw [ai nsa];exact s46 _ _ hs4,fun j t' b' e1 e2=>?_,fun c u hc=>?_⟩
   ·by_cases hj:j < ts.length
    ·rw [ab5 hj]at e1
     have:=s46 _ _ (ht4 j t' b' e1 e2)
     rw [ai (hZ this ha6 (fun e=>by cases e))];exact this
    ·rw [ab8 (by omega)]at e1
     have ej:j=ts.length:=by
      have:=(aa1.mp e1).1
      simp at this;omega
     rw [ej,Nat.sub_self]at e1;cases e1;rw [show j=i by omega,eb]at e2;cases e2;rw [ai (hZ ht6 ha6 (fun e=>by cases e))];exact ht6
   ·rw [ai (aq hc hra)]
    exact(s4.trans s46) _ _ hc
  ·intro σ H4 hI
   rw [hPv]at hI;obtain⟨ts,rs,o3,o4,o5,rfl,tl,rfl,ha4,hu4,hs4,ht4,s4⟩:=hI;rw [aa0,aa0]at tl;exact hu _ _ ⟨ts,[],o3,o4,o5,rfl,by omega,rfl,ha4,hu4,ht4,s4⟩
 clear hra2 hru2 s2;clear H2;rintro _ H2 ⟨ts,rs,o3,o4,o5,rfl,tl,rfl,ha2,kG,ht2,s2⟩;walk_at "rd";intro x dx hx hdx dxx;have s3:au H2 (upd (upd H2 dx (.own x)) x (.ins C dx [])):=(ar hdx).upd (by rw [ai dxx.symm];exact hx);refine⟨x,dx,ra,ru,ts.map V.ref,[],rfl,ag,s3.seq (aI.of ha2),s3.seq (aI.of kG),fun p q' H' hp hq hqp e=>⟨rfl,?_⟩⟩
 have px:p≠x:=fun e=>by subst e;rw [ag]at hp;cases hp
 have qx:q'≠x:=fun e=>by subst e;rw [ag]at hq;cases hq
 have s4:au H2 H':=fun c u hc=>by
  have h3:=s3 _ _ hc;have cx:c≠x:=aq hc hx;rw [e,ai cx,ai (aq h3 hq),ai (aq h3 hp)];exact h3
 have SA:fv P w K mg base C bs.length bs [] [] x H':=⟨dx,p,q',[],by rw [e,ag],⟨ts,aI.of (by rw [e,ai px,ai hqp.symm,ag]),tl,fun i t b e1 e2=>bf.of (s4 _ _ (ht2 i t b e1 e2))⟩,⟨aI.of (by rw [e,ai qx,ag];rfl),rfl,rfl,fun j r S G e1=>(by cases e1)⟩⟩;exact⟨x,bs.length,bs,[],[],rfl,SA,by omega,by simp,fun b hb'=>(hb b hb').2.2,fun S hS=>(by cases hS),hwt,q1 x H' SA (s2.trans s4)⟩
end
def yW:Option Int→V
 | none=>.non
 | some i=>.int i
def dC(us:List Int)(ws:List (Option Int)):Bool:=(us.zip ws).all fun p=>decide (p.2=none) || decide (p.2=some p.1)
def eh(K:Frag):Sp:=fun vs H Q _=>∃(a b:Addr) (us:List Int) (ws:List (Option Int)),vs=[.ref a,.ref b]∧bf K H a (us.map V.int)∧bf K H b (ws.map yW)∧us.length=ws.length∧us.length≤100∧∀H',au H H'→Q (.bl (dC us ws)) H'
theorem i0.same{P:Program}{w:World}{Ss:List aT}{cols:List (List Int)}{la wa:Addr}{H H':Hp}{met:List MS}(h:i0 P w Ss cols la wa H met)(s:au H H'):i0 P w Ss cols la wa H' met:=by
 obtain⟨ds,h2,h3,h4,h5⟩:=h;exact⟨ds,s _ _ h2,h3,s _ _ h4,fun i d t e1 e2=>let ⟨xs,g1,g2⟩:=h5 i d t e1 e2;⟨xs,g1.same s,g2⟩⟩
def dq(P:Program)(w:World)(K:Frag)(C Cs:Addr)(bs:List (Int×Int))(Ss:List aT)(met:List MS)(x:Addr)(H:Hp):Prop:=∃dx la wa sc dsc ra rb:Addr,H x=some (.ins C dx (aU la wa sc))∧i0 P w Ss (aj bs) la wa H met∧H sc=some (.ins Cs dsc (bJ ra rb))∧bB K H ra bs
theorem dq.same{P:Program}{w:World}{K:Frag}{C Cs:Addr}{bs:List (Int×Int)}{Ss:List aT}{met:List MS}{x:Addr}{H H':Hp}(h:dq P w K C Cs bs Ss met x H)(s:au H H'):dq P w K C Cs bs Ss met x H':=by
 obtain⟨dx,la,wa,sc,dsc,ra,rb,h1,h2,h3,h4⟩:=h;exact⟨dx,la,wa,sc,dsc,ra,rb,s _ _ h1,h2.same s,s _ _ h3,h4.same s⟩
theorem dq.at_{P:Program}{w:World}{K:Frag}{C Cs:Addr}{bs:List (Int×Int)}{Ss:List aT}{met:List MS}{x:Addr}{H:Hp}(h:dq P w K C Cs bs Ss met x H):eV P w C Ss (aj bs) met x H:=by
 obtain⟨dx,la,wa,sc,dsc,ra,rb,h1,h2,h3,h4⟩:=h;exact⟨dx,la,wa,sc,h1,h2⟩
def ku(P:Program)(w:World)(C:Addr):Sp:=fun vs H Q _=>∃(x:Addr) (Ss:List aT) (cols:List (List Int)) (met:List MS),vs=[.ref x]∧eV P w C Ss cols met x H∧met.length≤1000∧∀l H',H l=none→H' l=some (.lst ((intsFrom 0 met.length).map V.int))→au H H'→Q (.ref l) H'
structure ju(Ss:List aT)(cols:List (List Int))(met:List MS)(s:MS)(L:List (List Int×Nat)):Prop where
 ks:L.map (·.1)=cols.filter fun c=>(aJ Ss s c).isSome
 to:∀e∈L,∃s',aJ Ss s e.1=some s'∧met[e.2]?=some s'
def vq(H:Hp)(p:Addr)(L:List (List Int×Nat)):Prop:=∃ts:List Addr,H p=some (.lst (ts.map V.ref))∧ts.length=L.length∧∀(j:Nat) (t:Addr) (e:List Int×Nat),ts[j]?=some t→L[j]?=some e→∃a,H t=some (.tup [.ref a,.int e.2])∧H a=some (.tup (e.1.map V.int))
def kv(P:Program)(w:World)(C:Addr):Sp:=fun vs H Q _=>∃(x:Addr) (Ss:List aT) (cols:List (List Int)) (met:List MS) (i:Nat) (s:MS),vs=[.ref x,.int i]∧eV P w C Ss cols met x H∧met[i]?=some s∧∀p L H',H p=none→vq H' p L→ju Ss cols met s L→au H H'→Q (.ref p) H'
theorem AI{κ:Type}[DecidableEq κ]{xs:List (κ×Addr×V)}(nd:(xs.map (·.1)).Nodup){e:κ×Addr×V}(he:e∈xs):di xs e.1=some e.2.2:=by
 unfold di
 induction xs with
 | nil=>cases he
 | cons x xs ih=>
  rw [ad1]at nd;have hn:=ag0.mp nd;rw [ak2]
  by_cases hx:x.1=e.1
  ·rw [decide_eq_true hx]
   rcases ab6.mp he with rfl | he
   ·rfl
   ·exact absurd (ac3.mpr ⟨e,he,hx.symm⟩) hn.1
  ·rw [decide_eq_false hx]
   rcases ab6.mp he with rfl | he
   ·exact absurd rfl hx
   ·exact ih hn.2 he
def vN:V→Nat
 | .int j=>j.toNat
 | _=>0
def gL(P:Program)(w:World)(K:Frag)(C Cs:Addr):Sp:=fun vs H Q _=>∃(x g:Addr) (bs:List (Int×Int)) (Ss:List aT) (met:List MS) (ws:List (Option Int)),vs=[.ref x,.ref g]∧dq P w K C Cs bs Ss met x H∧bf K H g (ws.map yW)∧ws.length=bs.length∧bs.length≤4∧(∀b∈bs,1≤wN b)∧gv bs≤400∧
 ∀p xs H',H p=none→aP (og P w) H' p xs→(∀c,(di xs c).isSome=true↔c∈aj bs∧dC c ws=true)→au H H'→Q (.ref p) H'
def fU(P:Program)(w:World)(K:Frag):Sp:=fun vs H Q _=>∃(y t l:Addr) (L:List (List Int×Nat)) (xs:List (List Int×Addr×V)) (rs:List Int),vs=[.ref y,.ref t,.ref l]∧vq H y L∧L.length≤1000∧aP (og P w) H t xs∧H l=some (.lst (rs.map V.int))∧(∀e∈L,e.2 < rs.length)∧∀H',au H H'→Q (.int ((L.filter fun e=>(di xs e.1).isSome).map fun e=>rs.getD e.2 0).sum) H'
def cj(Ss:List aT)(cols:List (List Int)):List (List (Option Int))→MS→Int
 | [],s=>if cc Ss s.2 s.1 then 1 else 0
 | g::gs,s=>((cols.filter fun c=>dC c g && (aJ Ss s c).isSome).map fun c=>match aJ Ss s c with | some s'=>cj Ss cols gs s' | none=>0).sum
def eJ(K:Frag)(H:Hp)(p:Addr)(pats:List (List (Option Int))):Prop:=∃gs:List Addr,aI K H p (gs.map V.ref)∧gs.length=pats.length∧∀(i:Nat) (g:Addr) (ws:List (Option Int)),gs[i]?=some g→pats[i]?=some ws→bf K H g (ws.map yW)
theorem eJ.same{K:Frag}{H H':Hp}{p:Addr}{pats:List (List (Option Int))}(h:eJ K H p pats)(s:au H H'):eJ K H' p pats:=by
 obtain⟨gs,h1,h2,h3⟩:=h;exact⟨gs,s.seq h1,h2,fun i g ws e1 e2=>s.tup (h3 i g ws e1 e2)⟩
def cD(Ss:List aT)(cols:List (List Int))(met:List MS)(gs:List (List (Option Int))):List Int:=met.map (cj Ss cols gs)
def cK(H:Hp)(p:Addr)(rows:List (List Int)):Prop:=∃qs:List Addr,H p=some (.lst (qs.map V.ref))∧qs.length=rows.length∧∀(i:Nat) (q:Addr) (r:List Int),qs[i]?=some q→rows[i]?=some r→H q=some (.lst (r.map V.int))
structure i8(Ss:List aT)(bs:List (Int×Int))(met:List MS):Prop where
 lb:bs.length≤4
 wd:∀b∈bs,1≤wN b
 cn:gv bs≤400
 ml:met.length≤1000
def jn(P:Program)(w:World)(K:Frag)(C Cs:Addr):Sp:=fun vs H Q _=>∃(x pt:Addr) (bs:List (Int×Int)) (Ss:List aT) (met:List MS) (pats:List (List (Option Int))),vs=[.ref x,.ref pt]∧dq P w K C Cs bs Ss met x H∧i8 Ss bs met∧eJ K H pt pats∧(∀ws∈pats,ws.length=bs.length)∧pats.length≤1000∧
 ∀p H',H p=none→cK H' p ((List.range (pats.length+1)).map fun(i:Nat)=>cD Ss (aj bs) met (pats.drop i))→au H H'→Q (.ref p) H'
def BX(P:Program)(w:World)(K:Frag)(C Cs:Addr):Sp:=fun vs H Q _=>∃(x pt:Addr) (bs:List (Int×Int)) (Ss:List aT) (met:List MS) (pats:List (List (Option Int))) (s0:MS),vs=[.ref x,.ref pt]∧dq P w K C Cs bs Ss met x H∧i8 Ss bs met∧eJ K H pt pats∧(∀ws∈pats,ws.length=bs.length)∧pats.length≤1000∧met[0]?=some s0∧∀H',au H H'→Q (.int (cj Ss (aj bs) pats s0)) H'
section
variable {P:Program} {w:World} {K:Frag} {mg:Str→Option Value} {base:Heap} {aM:Addr}
theorem uF{f:Addr}{fd:FuncData}(F:cY K "agrees" "agrees" ke f fd)(T:Txt mg aM):aR P w K mg base cO 1 f fd ["column","given"] (eh K):=by
 refine F.ok uY (fun vs H Q E h=>?_) (fun cdv A outer s H vs Q E hr h=>?_)
 ·obtain⟨a,b,us,ws,rfl,_⟩:=h
  rfl
 obtain⟨a,b,us,ws,rfl,ha,hb,hl,hn,k⟩:=h;refine⟨_,(ak (aC (ax (eK K rfl) (by rfl) T.n_all boot_all (aa (bP (own:=["note","wanted"]) (js:=[]) rfl (w6 rfl T.n_zip (aa (pr 0) (aa (pr 1) af))) (aW.of (by rfl)) (fun _ _ _ _ _=>(bE K (n:=2) rfl (aD (aw (i:=0) (show List.Nodup (["note","wanted"]:List Str)from by decide +kernel) rfl (Or.inl rfl)) (aD (aw (i:=1) (show List.Nodup (["note","wanted"]:List Str)from by decide +kernel) rfl (Or.inl rfl)) bF)))) (fun _ _ _ _ _=>bS) (fun _ _ _ _ _=>(Ao (Aq (dz j5 (pr 1) bR (aQ _)) (ni (dz x6 (pr 1) (pr 0) (aQ _))))))) af)))),?_⟩;have hs:sizeLine=16777216:=sizeLine_eq;walk_at "rd";refine⟨false,⟨_,ha⟩,false,⟨_,hb⟩,?_⟩
 refine lG (us:=us.map V.int) (vs:=ws.map yW) (fun i ys H'=>ys=(((us.zip ws).take i).map fun p=>decide (p.2=none) || decide (p.2=some p.1)).map V.bl∧au H H') (by rw [aa0];omega) (by rw [aa0,aa0,hl]) ⟨rfl,au.refl H⟩ ?_ ?_ ?_ ?_
 ·rintro i ys H' ⟨rfl,sm⟩
  rw [aa0,aa0,ac6];omega
 ·rintro i ys H' ⟨rfl,sm⟩
  exact⟨sm.tup ha,sm.tup hb⟩
 ·rintro i x y ys H' p hx hy ⟨rfl,sm⟩ hp
  rw [aa4]at hx hy
  cases hu:us[i]? with
  | none=>rw [hu]at hx;cases hx
  | some n=>
   cases hw:ws[i]? with
   | none=>rw [hw]at hy;cases hy
   | some o=>
    rw [hu]at hx;rw [hw]at hy;cases hx;cases hy;walk_at "rd";refine⟨_,bf.of ag,rfl,_,_,rfl,_,_,rfl,rfl,?_⟩;have hz:(us.zip ws)[i]?=some (n,o):=List.getElem?_zip_eq_some.mpr ⟨hu,hw⟩
    have et:(us.zip ws).take (i+1)=(us.zip ws).take i++[(n,o)]:=by rw [ab9,hz];rfl
    rw [et,ab4,ab4]
    cases o with
    | none=>
     rw [if_pos (show yW none=V.non from rfl)];exact⟨rfl,sm.upd hp⟩
    | some m=>
     rw [if_neg (fun e=>by cases e)];refine rEq_ii.mpr ⟨?_,sm.upd hp⟩;simp
 ·rintro ys H' ⟨rfl,sm⟩ p hp
  refine⟨_,aI.of ag,?_⟩;rw [aa0,am5,ae6 (by rw [List.length_zip];omega)];exact k _ (sm.upd hp)
theorem uK{f C:Addr}{fd:FuncData}(F:cY K "states" "States.states" dm f fd)(T:Txt mg aM)(TC:bM K C):aR P w K mg base cO 1 f fd ["self"] (ku P w C):=by
 refine F.ok iR (fun vs H Q E h=>?_) (fun cdv A outer s H vs Q E hr h=>?_)
 ·obtain⟨x,Ss,cols,met,rfl,_⟩:=h
  rfl
 obtain⟨x,Ss,cols,met,rfl,⟨dx,la,wa,sc,hx,ds,h1,h2,h3,h4⟩,ml,k⟩:=h;refine⟨_,(ak (aC (uO rfl (by rfl) T.n_list (by rfl) T.n_range (aa (ax (aG K) (by rfl) T.n_len boot_len (aa (bQ (pr 0) rfl) af)) af)))),?_⟩;walk_at "rd";refine⟨C,dx,_,hx,TC.cl,TC.n1,_,dI la wa sc,?_⟩;exact .inr ⟨la,rfl,_,.inl (aI.of h1),by rw [aa0,h2];omega,fun l hl=>k l _ hl (by rw [ag,aa0,h2,ad8]) (ar hl)⟩
theorem y6{f C:Addr}{fd:FuncData}(F:cY K "ways" "States.ways" eC f fd)(T:Txt mg aM)(TC:bM K C):aR P w K mg base cO 1 f fd ["self","state"] (kv P w C):=by
 refine F.ok kj (fun vs H Q E h=>?_) (fun cdv A outer s H vs Q E hr h=>?_)
 ·obtain⟨x,Ss,cols,met,i,s,rfl,_⟩:=h
  rfl
 obtain⟨x,Ss,cols,met,i,st,rfl,⟨dx,la,wa,sc,hx,ds,h1,h2,h3,h4⟩,hst,k⟩:=h;refine⟨_,(ak (aC (wZ (kk':=og P w) rfl (by rfl) T.n_list (aV (bC K) (bQ (pr 0) rfl) (pr 1) (fun _ _=>rfl))))),?_⟩;walk_at "rd";obtain⟨d,hd⟩:∃d,ds[i]?=some d:=⟨_,aa2 (by rw [h2];exact(aa1.mp hst).1)⟩;obtain⟨xs,D,Lk⟩:=h4 i d st hd hst;refine⟨C,dx,_,hx,TC.cl,TC.n1,_,dI la wa sc,bT (aI.of h1) (aK (by rw [aa4,hd];rfl)) ?_⟩;refine⟨d,rfl,xs,D,fun p ts H2 hp0 hp2 tl ht s2=>?_⟩
 have val:∀e∈xs,∃(j:Nat) (s':MS),e.2.2=.int j∧aJ Ss st e.1=some s'∧met[j]?=some s':=fun e he=>by
  have hk:e.1∈cols.filter fun c=>(aJ Ss st c).isSome:=by rw [←Lk.2.2];exact ac3.mpr ⟨e,he,rfl⟩
  obtain⟨hc,hn⟩:=af4.mp hk;obtain⟨s',hs'⟩:=Option.isSome_iff_exists.mp hn;obtain⟨j,g1,g2⟩:=Lk.1 e.1 hc s' hs';rw [AI D.nd he]at g2;exact⟨j,s',Option.some.inj g2,hs',g1⟩
 refine k p (xs.map fun e=>(e.1,vN e.2.2)) H2 hp0 ⟨ts,hp2,by rw [tl,aa0],fun j t e e1 e2=>?_⟩ ⟨by rw [ai1,←Lk.2.2];rfl,fun e he=>?_⟩ s2
 ·rw [aa4]at e2
  cases hx2:xs[j]? with
  | none=>rw [hx2]at e2;cases e2
  | some z=>
   rw [hx2]at e2;cases e2;have hz:=aa9 hx2;obtain⟨j',s',v1,v2,v3⟩:=val z hz;refine⟨z.2.1,?_,s2 _ _ (D.ks z hz)⟩
   have:=(ht j t z e1 hx2).2
   rw [v1]at this;show H2 t=some (.tup [.ref z.2.1,.int ((vN z.2.2:Nat):Int)]);rw [v1];exact this
 ·obtain⟨z,hz,rfl⟩:=ac3.mp he
  obtain⟨j',s',v1,v2,v3⟩:=val z hz;exact⟨s',v2,by show met[vN z.2.2]?=_;rw [v1];exact v3⟩
theorem pz{f C Cs:Addr}{fd:FuncData}(F:cY K "agreeing" "agreeing" gF f fd)(T:Txt mg aM)(TC:bM K C)(TS:cv K Cs)(D_columns:bN P w K mg base "columns" 3 ["score"] (eR K Cs))(D_agrees:bN P w K mg base "agrees" 3 ["column","given"] (eh K)):aR P w K mg base cO 4 f fd ["machine","given"] (gL P w K C Cs):=by
 refine F.ok sc_agreeing (fun vs H Q E h=>?_) (fun cdv A outer s H vs Q E hr h=>?_)
 ·obtain⟨x,g,bs,Ss,met,ws,rfl,_⟩:=h
  rfl
 obtain⟨x,g,bs,Ss,met,ws,rfl,MX,hg,hl,lb,hw,hc,k⟩:=h
 refine⟨_,(ah (ay (i:=2) sc_agreeing.nd rfl (Or.inl rfl) (sG (kk':=og P w)))
 (ah (bu PassesOwn.never rfl (aX K (aE D_columns hr (by rfl) (aa (bQ (pr 0) rfl) af))) (aw (i:=3) sc_agreeing.nd rfl (Or.inl rfl))
 (ak (bL (a0 (aE D_agrees hr (by rfl) (aa (pr 3) (aa (pr 1) af))) (fun _=>rfl)) (ak (ny eP (nj (pr 2) (pr 3) (BA (kk':=og P w) (kG hr))))) aY)))
 (ak (aC (pr 2))))),?_⟩
 have hs:sizeLine=16777216:=sizeLine_eq;refine aL (fun σ H'=>∃p:Addr,H p=none∧aP (og P w) H' p []∧σ=[some (.ref x),some (.ref g),some (.ref p),none]∧au H H') ?_ ?_
 ·intro u' hu
  walk_at "rd";exact fun p hp=>hu _ _ ⟨p,hp,⟨ag,(fun _ h=>nomatch h),List.nodup_nil,ad0 _⟩,rfl,ar hp⟩
 rintro _ H1 ⟨p,hp,D1,rfl,s1⟩;obtain⟨dx,la,wa,sc,dsc,ra,rb,hx,MB,hsc,RA⟩:=MX.same s1;refine aL (fun σ H'=>∃(xs:List (List Int×Addr×V)) (o3:Option V),aP (og P w) H' p xs∧(∀c,(di xs c).isSome=true↔c∈aj bs∧dC c ws=true)∧σ=[some (.ref x),some (.ref g),some (.ref p),o3]∧au H H') ?_ ?_
 ·intro u' hu
  walk_at "rd";refine⟨C,dx,_,hx,TC.cl,TC.n3,_,jV la wa sc,sc,dsc,ra,rb,bs,rfl,hsc,RA,lb,hw,hc,fun q H2 hq0 hC s2=>?_⟩;obtain⟨ps,hq,hT⟩:=hC;have cl:=bI bs;have D2:=D1.same s2;obtain⟨Pv,hPv⟩:∃Pv:Nat→L2.St→Hp→Prop,Pv=fun i σ H'=>∃(xs:List (List Int×Addr×V)) (o3:Option V),aP (og P w) H' p xs∧xs.length≤i∧(∀c,(di xs c).isSome=true↔c∈(aj bs).take i∧dC c ws=true)∧om [p] H2 H'∧σ=[some (.ref x),some (.ref g),some (.ref p),o3]:=⟨_,rfl⟩
  have nq:q∉[p]:=by
   rw [ab7];exact(aq D1.ob hq0).symm
  refine ba (aI.of hq) (bK (xs:=ps.map V.ref) Pv (by rw [hPv];exact⟨[],none,D2,ad0 _,fun c=>by simp [di],fun _ _ _ e=>e,rfl⟩) (fun i σ H' _ h=>by rw [hPv]at h;obtain⟨_,_,_,_,_,sx,_⟩:=h;exact aI.of (sx q _ nq hq)) ?_ ?_)
  ·rintro i y σ H3 hy hI
   rw [hPv]at hI;obtain⟨xs,o3,D3,xl,hxs,sx,rfl⟩:=hI;rw [aa4]at hy
   cases hpi:ps[i]? with
   | none=>rw [hpi]at hy;cases hy
   | some ca=>
    rw [hpi]at hy;cases hy
    have hi:i < (aj bs).length:=by rw [←hT.1];exact(aa1.mp hpi).1
    obtain⟨c,hci⟩:∃c,(aj bs)[i]?=some c:=⟨_,aa2 hi⟩;have hca:=hT.2 i ca c hpi hci
    have nca:ca∉[p]:=by
     rw [ab7];exact hZ hca D2.ob (fun e=>by cases e)
    have hca3:=sx ca _ nca hca
    have et:(aj bs).take (i+1)=(aj bs).take i++[c]:=by rw [ab9,hci];rfl
    have cw:=cG bs c (aa9 hci);have s03:au H H3:=fun b o e=>sx b o (by rw [ab7];exact aq e hp) (s2 _ _ (s1 _ _ e));have hg3:bf K H3 g (ws.map yW):=s03.tup hg;walk_at "rd";refine⟨ca,g,c,ws,rfl,bf.of hca3,hg3,by omega,by omega,fun H4 s4=>⟨_,rfl,?_⟩⟩;have D4:=D3.same s4;have sx4:om [p] H2 H4:=fun b o hb e=>s4 _ _ (sx b o hb e)
    by_cases hag:dC c ws=true
    ·rw [if_pos hag]
     refine⟨p,ca,c,xs,rfl,rfl,D4,s4 _ _ hca3,?_⟩;rw [hPv];refine⟨_,_,D4.put (s4 _ _ hca3) (by omega),?_,fun c'=>?_,fun b o hb e=>?_,rfl⟩
     ·unfold cP
      split
      ·rw [aa0]
       omega
      ·rw [ab3]
       simp;omega
     ·rw [et]
      by_cases e:c'=c
      ·subst e
       rw [eW];simp [hag]
      ·rw [dE e,hxs c',ad7,ab7]
       simp [e]
     ·rw [ab7]at hb
      rw [ai hb];exact sx4 b o (by rw [ab7];exact hb) e
    ·rw [if_neg hag,hPv]
     refine⟨xs,_,D4,by omega,fun c'=>?_,sx4,rfl⟩;rw [et,hxs c',ad7,ab7]
     constructor
     ·rintro⟨h1,h2⟩
      exact⟨.inl h1,h2⟩
     ·rintro⟨h1 | h1,h2⟩
      ·exact⟨h1,h2⟩
      ·rw [h1]at h2
       exact absurd h2 hag
  ·rintro σ H3 hI
   rw [hPv]at hI;obtain⟨xs,o3,D3,xl,hxs,sx,rfl⟩:=hI;rw [aa0,hT.1,ac9]at hxs;refine hu _ _ ⟨xs,o3,D3,hxs,rfl,fun b o e=>sx b o ?_ (s2 _ _ (s1 _ _ e))⟩;rw [ab7];exact aq e hp
 rintro _ H2 ⟨xs,o3,D2,hxs,rfl,s2⟩;walk_at "rd";exact k p xs H2 hp D2 hxs s2
end
theorem fE(n:Nat):(L2.intsFrom 0 n).length=n:=by simp [L2.intsFrom]
theorem so{n i:Nat}{y:V}(h:((L2.intsFrom 0 n).map V.int)[i]?=some y):i < n∧y=.int (i:Int):=by
 have hi:i < n:=by
  have:=(aa1.mp h).1
  rw [aa0,fE]at this;exact this
 refine⟨hi,?_⟩;rw [L2.intsFrom,aa4,aa4,ae4 hi]at h
 have:=Option.some.inj h
 rw [←this];show V.int (0+(i:Int))=_;rw [Int.zero_add]
theorem cK.same{H H':Hp}{p:Addr}{rows:List (List Int)}(h:cK H p rows)(s:au H H'):cK H' p rows:=by
 obtain⟨qs,h1,h2,h3⟩:=h;exact⟨qs,s _ _ h1,h2,fun i q r e1 e2=>s _ _ (h3 i q r e1 e2)⟩
theorem cK.put{H:Hp}{b p:Addr}{rows:List (List Int)}{r:List Int}(h:cK H b rows)(hp:H p=some (.lst (r.map V.int)))(hpb:p≠b):∃xs:List V,H b=some (.lst xs)∧xs.length=rows.length∧cK (upd H b (.lst (xs++[.ref p]))) b (rows++[r]):=by
 obtain⟨qs,h1,h2,h3⟩:=h;refine⟨qs.map V.ref,h1,by rw [aa0,h2],qs++[p],by rw [ag,ab4];rfl,by rw [ab3,ab3,h2];rfl,fun i q r' e1 e2=>?_⟩
 by_cases hi:i < qs.length
 ·rw [ab5 hi]at e1
  rw [ab5 (by rw [←h2];exact hi)]at e2;have h4:=h3 i q r' e1 e2;rw [ai (fun e=>?_)]
  ·exact h4
  ·rw [e,h1]at h4
   cases qs with
   | nil=>cases e1
   | cons z zs=>
    cases r' with
    | nil=>cases h4
    | cons a as=>cases h4
 ·rw [ab8 (by omega)]at e1
  rw [ab8 (by omega),←h2]at e2
  have h0:i - qs.length=0:=by
   have:=(aa1.mp e1).1
   simp at this;omega
  rw [h0]at e1 e2;cases e1;cases e2;rw [ai hpb];exact hp
theorem tN{Ss:List aT}{cols:List (List Int)}{met:List MS}{s:MS}{L:List (List Int×Nat)}{xs:List (List Int×Addr×V)}{g:List (Option Int)}{gs:List (List (Option Int))}(W:ju Ss cols met s L)(hx:∀c,(di xs c).isSome=true↔c∈cols∧dC c g=true):
  ((L.filter fun e=>(di xs e.1).isSome).map fun e=>(cD Ss cols met gs).getD e.2 0).sum=cj Ss cols (g::gs) s:=by
 have e1:((L.filter fun e=>(di xs e.1).isSome).map fun e=>(cD Ss cols met gs).getD e.2 0)=((L.filter fun e=>(di xs e.1).isSome).map Prod.fst).map fun c=>match aJ Ss s c with | some s'=>cj Ss cols gs s' | none=>0:=by
  rw [ai1];refine ai4 fun e he=>?_;obtain⟨s',h1,h2⟩:=W.to e (af4.mp he).1
  show(cD Ss cols met gs).getD e.2 0=match aJ Ss s e.1 with | some s'=>cj Ss cols gs s' | none=>0
  rw [h1];unfold cD;rw [ac8,aa4,h2];rfl
 have e2:(L.filter fun e=>(di xs e.1).isSome).map Prod.fst=cols.filter fun c=>dC c g && (aJ Ss s c).isSome:=by
  have:(L.map Prod.fst).filter (fun c=>(di xs c).isSome)=(L.filter fun e=>(di xs e.1).isSome).map Prod.fst:=by rw [an0];rfl
  rw [←this,W.ks,al0];refine al8 fun c hc=>?_;congr 1
  have:=hx c
  cases h1:(di xs c).isSome<;>cases h2:dC c g<;>simp_all
 rw [e1,e2];rfl
section
variable {P:Program} {w:World} {K:Frag} {mg:Str→Option Value} {base:Heap} {aM:Addr}
theorem kS{f:Addr}{fd:FuncData}(F:cY K "counted_on" "counted_on" e7 f fd)(T:Txt mg aM):aR P w K mg base cO 3 f fd ["ways","taken","later"] (fU P w K):=by
 refine F.ok kU (fun vs H Q E h=>?_) (fun cdv A outer s H vs Q E hr h=>?_)
 ·obtain⟨y,t,l,L,xs,rs,rfl,_⟩:=h
  rfl
 obtain⟨y,t,l,L,xs,rs,rfl,⟨ts,hy,tl,ht⟩,lL,D,hl,hlt,k⟩:=h;refine⟨_,(ak (aC (ax (lE rfl K) (by rfl) T.n_sum boot_sum (aa (bP (own:=["column","state"]) (js:=[1,2]) rfl (aX K (pr 0)) (aW.of (by rfl)) (fun _ _ _ _ _=>(bE K (n:=2) rfl (aD (aw (i:=0) (show List.Nodup (["column","state","taken","later"]:List Str)from by decide +kernel) rfl (Or.inl rfl)) (aD (aw (i:=1) (show List.Nodup (["column","state","taken","later"]:List Str)from by decide +kernel) rfl (Or.inl rfl)) bF)))) (fun _ _ _ _ _=>nB (cz (aN (CM (og P w) hr) (pr 0) (pr 2) (by with_unfolding_all rfl)))) (fun _ _ _ _ _=>(aV (bC K) (pr 3) (pr 1) (fun _ _=>rfl)))) af)))),?_⟩;have hs:sizeLine=16777216:=sizeLine_eq;walk_at "rd";refine ba (aI.of hy) (bt (xs:=ts.map V.ref) (fun i ys H'=>ys=(((L.take i).filter fun e=>(di xs e.1).isSome).map fun e=>rs.getD e.2 0).map V.int∧H=H') (by rw [aa0];omega) ⟨rfl,rfl⟩ ?_ ?_ ?_ ?_)
 ·rintro i ys H' ⟨rfl,rfl⟩
  rw [aa0,aa0];exact ac0 (ae9 _ _) (by rw [ac6];omega)
 ·rintro i ys H' ⟨rfl,rfl⟩
  exact aI.of hy
 ·rintro i v ys H' hv ⟨rfl,rfl⟩
  rw [aa4]at hv
  cases hti:ts[i]? with
  | none=>rw [hti]at hv;cases hv
  | some tt=>
   rw [hti]at hv;cases hv;obtain⟨e,he⟩:∃e,L[i]?=some e:=⟨_,aa2 (by rw [←tl];exact(aa1.mp hti).1)⟩;obtain⟨a,h1,h2⟩:=ht i tt e hti he
   have et:L.take (i+1)=L.take i++[e]:=by rw [ab9,he];rfl
   simp only [cy];walk_at "rd";refine⟨_,bf.of h1,rfl,_,_,rfl,_,_,rfl,rfl,t,a,e.1,xs,rfl,rfl,D,h2,_,rfl,?_⟩;rw [et,ai7,ab4,ab4]
   by_cases hin:(di xs e.1).isSome=true
   ·rw [if_pos hin]
    have he2:=hlt e (aa9 he);have e2:rs[e.2]?=some rs[e.2]:=aa2 he2;refine bT (aI.of hl) (aK (by rw [aa4,e2];rfl)) ⟨?_,rfl⟩;rw [ai3,if_pos hin];simp [e2]
   ·rw [if_neg hin]
    refine⟨?_,rfl⟩;rw [ai3,if_neg hin];simp
 ·rintro ys H' ⟨rfl,rfl⟩ p hp
  rw [aa0,tl,ac9];exact⟨_,aI.of ag,k _ (ar hp)⟩
theorem wO{f C Cs:Addr}{fd:FuncData}(F:cY K "counts_paper" "counts_paper" dX f fd)(T:Txt mg aM)(TC:bM K C)(D_agreeing:bN P w K mg base "agreeing" 4 ["machine","given"] (gL P w K C Cs))(D_counted_on:bN P w K mg base "counted_on" 4 ["ways","taken","later"] (fU P w K))(M_states:bH P w K mg base C "states" 4 ["self"] (ku P w C))(M_ways:bH P w K mg base C "ways" 4 ["self","state"] (kv P w C))(M_ends:bH P w K mg base C "ends" 4 ["self","state"] (rG P w C)):aR P w K mg base cO 5 f fd ["machine","pattern"] (jn P w K C Cs):=by
 refine F.ok sc_counts_paper (fun vs H Q E h=>?_) (fun cdv A outer s H vs Q E hr h=>?_)
 ·obtain⟨x,pt,bs,Ss,met,pats,rfl,_⟩:=h
  rfl
 obtain⟨x,pt,bs,Ss,met,pats,rfl,MX,MC,PA,hpl,lp,k⟩:=h
 refine⟨_,(ah (ay (i:=2) sc_counts_paper.nd rfl (Or.inl rfl) (bA (aa (bP (own:=["state"]) (js:=[0]) rfl (aX K (gg P w K mg base hr (pr 0))) (aW.of (by rfl)) (fun _ _ _ _ _=>(aw (i:=0) (show List.Nodup (["state","machine"]:List Str)from by decide +kernel) rfl (Or.inl rfl))) (fun _ _ _ _ _=>bS) (fun _ _ _ _ _=>(fL (lX K (dh P w K mg base hr (pr 1) (aa (pr 0) af)) (fun _=>rfl)) ao ao))) af)))
 (ah (bu PassesOwn.never rfl (zo K (by rfl) T.n_reversed (aa (pr 1) af)) (aw (i:=3) sc_counts_paper.nd rfl (Or.inl rfl))
 (ah (ay (i:=4) sc_counts_paper.nd rfl (Or.inr rfl) (aE D_agreeing hr (by rfl) (aa (pr 0) (aa (pr 3) af))))
 (ah (ay (i:=5) sc_counts_paper.nd rfl (Or.inr rfl) (aV (bC K) (pr 2) (sH (u1 n8) ao) (fun _ _=>rfl)))
 (ak (bG (bO K PySem.F.plainAttrs_list PySem.F.slot_list_append PySem.F.type_list_append bp (pr 2) (aa (bP (own:=["state"]) (js:=[0,4,5]) rfl (aX K (gg P w K mg base hr (pr 0))) (aW.of (by rfl)) (fun _ _ _ _ _=>(aw (i:=0) (show List.Nodup (["state","machine","taken","later"]:List Str)from by decide +kernel) rfl (Or.inl rfl))) (fun _ _ _ _ _=>bS) (fun _ _ _ _ _=>(aE D_counted_on hr (by rfl) (aa (dh P w K mg base hr (pr 1) (aa (pr 0) af)) (aa (pr 2) (aa (pr 3) af)))))) af)))))))
 (ak (aC (rk K rfl (by rfl) T.n_list (by rfl) T.n_reversed (aa (pr 2) af)))))),?_⟩
 have hs:sizeLine=16777216:=sizeLine_eq;have ml:=MC.ml;have cl:=bI bs;have cn:=MC.cn;refine aL (fun σ H'=>∃bw:Addr,H bw=none∧cK H' bw [cD Ss (aj bs) met []]∧σ=[some (.ref x),some (.ref pt),some (.ref bw),none,none,none]∧au H H') ?_ ?_
 ·intro u' hu
  walk_at "rd";obtain⟨dx,la,wa,sc,hx,MB⟩:=MX.at_;refine⟨C,dx,_,hx,by unfold aU;walk_at "flds",_,_,M_states,x,Ss,aj bs,met,rfl,MX.at_,ml,fun l H1 hl0 hl s1=>ba (aI.of hl) (bt (xs:=(L2.intsFrom 0 met.length).map V.int) (fun i ys H'=>ys=((met.take i).map (cj Ss (aj bs) [])).map V.int∧H1=H') (by rw [aa0,fE];omega) ⟨rfl,rfl⟩ ?_ ?_ ?_ ?_)⟩
  ·rintro i ys H' ⟨rfl,rfl⟩
   rw [aa0,aa0,ac6];omega
  ·rintro i ys H' ⟨rfl,rfl⟩
   exact aI.of hl
  ·rintro i y ys H' hy ⟨rfl,rfl⟩
   obtain⟨hi,rfl⟩:=so hy;obtain⟨st,hst⟩:∃st,met[i]?=some st:=⟨_,aa2 hi⟩;simp only [cy];walk_at "rd";refine⟨C,dx,_,s1 _ _ hx,by unfold aU;walk_at "flds",_,_,M_ends,x,Ss,aj bs,met,i,st,rfl,MX.at_.same s1,hst,_,rfl,?_⟩;rw [ab9,hst,ab4,ab4]
   cases hcl:cc Ss st.2 st.1 with
   | true=>
    rw [if_pos rfl];exact⟨by simp [cj,hcl],rfl⟩
   | false=>
    rw [if_neg (by decide)];exact⟨by simp [cj,hcl],rfl⟩
  ·rintro ys H' ⟨rfl,rfl⟩ p hp
   rw [aa0,fE,ac9];refine⟨by omega,fun b hb=>hu _ _ ⟨b,s1.free ((ar hp).free hb),⟨[p],ag,rfl,fun i q r e1 e2=>?_⟩,rfl,(s1.upd hp).upd hb⟩⟩
   have hi:i=0:=by
    have:=(aa1.mp e1).1
    simp at this;exact this
   subst hi;cases e1;cases e2;exact(ar hb) _ _ ag
 rintro _ H1 ⟨bw,hbw,R1,rfl,s1⟩;refine aL (fun σ H'=>∃o3 o4 o5:Option V,cK H' bw ((List.range (pats.length+1)).map fun(k:Nat)=>cD Ss (aj bs) met (pats.drop (pats.length - k)))∧σ=[some (.ref x),some (.ref pt),some (.ref bw),o3,o4,o5]∧au H H') ?_ ?_
 ·intro u' hu
  walk_at "rd";obtain⟨gs,hgs,gl,hg⟩:=PA;obtain⟨Pv,hPv⟩:∃Pv:Nat→L2.St→Hp→Prop,Pv=fun i σ H'=>∃o3 o4 o5:Option V,cK H' bw ((List.range (i+1)).map fun(k:Nat)=>cD Ss (aj bs) met (pats.drop (pats.length - k)))∧σ=[some (.ref x),some (.ref pt),some (.ref bw),o3,o4,o5]∧au H H':=⟨_,rfl⟩;refine⟨_,s1.seq hgs,wz (xs:=gs.map V.ref) Pv (by rw [hPv];exact⟨none,none,none,by simpa using R1,rfl,s1⟩) (fun i σ H' _ h=>by rw [hPv]at h;obtain⟨_,_,_,_,_,h⟩:=h;exact h.seq hgs) ?_ ?_⟩
  ·rintro i y σ H2 hy hI
   rw [hPv]at hI;obtain⟨o3,o4,o5,R2,rfl,s2⟩:=hI
   have hi:i < pats.length:=by
    have:=(aa1.mp hy).1
    rw [ai5,aa0]at this;omega
   rw [ah2 (by rw [aa0];omega),aa0,aa4,gl]at hy
   cases hgi:gs[pats.length - 1 - i]? with
   | none=>rw [hgi]at hy;cases hy
   | some g=>
    rw [hgi]at hy;cases hy;obtain⟨ws,hws⟩:∃ws,pats[pats.length - 1 - i]?=some ws:=⟨_,aa2 (by omega)⟩;have hwl:=hpl ws (aa9 hws);have hgt:=hg _ g ws hgi hws
    have ed:pats.drop (pats.length - (i+1))=ws::pats.drop (pats.length - i):=by
     rw [show pats.length - (i+1)=pats.length - 1 - i by omega,ae7 (by omega),show pats.length - 1 - i+1=pats.length - i by omega];rw [aa2 (by omega)]at hws;rw [Option.some.inj hws]
    walk_at "rd";refine⟨x,g,bs,Ss,met,ws,rfl,MX.same s2,s2.tup hgt,hwl,MC.lb,MC.wd,MC.cn,fun tk xs H3 htk D3 hxs s3=>?_⟩;obtain⟨qs,hb3,ql,hq3⟩:=R2.same s3
    have ql1:qs.length=i+1:=by rw [ql];simp
    obtain⟨lt,hlt⟩:∃lt,qs[i]?=some lt:=⟨_,aa2 (by omega)⟩;have hlt3:=hq3 i lt (cD Ss (aj bs) met (pats.drop (pats.length - i))) hlt (by simp);have s23:=s2.trans s3;walk_at "rd";refine bT (aI.of hb3) (tD (n:=i) (by rw [aa0,ql1]) (by rw [aa4,hlt];rfl)) ?_;obtain⟨dx,la,wa,sc,hx,MB⟩:=(MX.same s23).at_;refine⟨.inl ⟨rfl,_,aI.of hb3⟩,C,dx,_,hx,by unfold aU;walk_at "flds",_,_,M_states,x,Ss,aj bs,met,rfl,(MX.same s23).at_,ml,fun l H4 hl0 hl s4=>ba (aI.of hl) (bt (xs:=(L2.intsFrom 0 met.length).map V.int) (fun j ys H'=>ys=((met.take j).map (cj Ss (aj bs) (ws::pats.drop (pats.length - i)))).map V.int∧au H4 H') (by rw [aa0,fE];omega) ⟨rfl,au.refl _⟩ ?_ ?_ ?_ ?_)⟩
    ·rintro j ys H' ⟨rfl,sm⟩
     rw [aa0,aa0,ac6];omega
    ·rintro j ys H' ⟨rfl,sm⟩
     exact sm.seq (aI.of hl)
    ·rintro j y ys H5 hy ⟨rfl,s5⟩
     obtain⟨hj,rfl⟩:=so hy;obtain⟨st,hst⟩:∃st,met[j]?=some st:=⟨_,aa2 hj⟩;have s35:=s4.trans s5;simp only [cy];walk_at "rd";refine⟨C,dx,_,s35 _ _ hx,by unfold aU;walk_at "flds",_,_,M_ways,x,Ss,aj bs,met,j,st,rfl,(MX.same (s23.trans s35)).at_,hst,fun yw L H6 _ hW6 W s6=>?_⟩
     have hLl:L.length≤1000:=by
      have h1:L.length=(L.map Prod.fst).length:=by rw [aa0]
      have h2:=congrArg List.length W.ks;have h3:=ae9 (fun c=>(aJ Ss st c).isSome) (aj bs)
      have h4:L.length=(List.filter (fun c=>(aJ Ss st c).isSome) (aj bs)).length:=by rw [←h2,aa0]
      omega
     refine⟨yw,tk,lt,L,xs,cD Ss (aj bs) met (pats.drop (pats.length - i)),rfl,hW6,hLl,D3.same (s35.trans s6),(s35.trans s6) _ _ hlt3,fun e he=>?_,fun H7 s7=>⟨?_,(s5.trans s6).trans s7⟩⟩
     ·obtain⟨s',_,h2⟩:=W.to e he
      unfold cD;rw [aa0];exact(aa1.mp h2).1
     ·rw [tN W hxs,ab9,hst,ab4,ab4]
      rfl
    ·rintro ys H5 ⟨rfl,s5⟩ p hp
     rw [aa0,fE,ac9];have s35:=s4.trans s5;have R5:cK (upd H5 p (.lst ((met.map (cj Ss (aj bs) (ws::pats.drop (pats.length - i)))).map V.int))) bw ((List.range (i+1)).map fun(k:Nat)=>cD Ss (aj bs) met (pats.drop (pats.length - k))):=(R2.same (s3.trans s35)).same (ar hp)
     have hbp:p≠bw:=fun e=>by
      have:=s35 _ _ hb3
      rw [←e,hp]at this;cases this
     obtain⟨zs,g1,g2,g3⟩:=R5.put (r:=met.map (cj Ss (aj bs) (ws::pats.drop (pats.length - i)))) ag hbp;refine⟨bw,zs,_,rfl,rfl,g1,by rw [g2];simp;omega,?_⟩;rw [hPv];refine⟨_,_,_,?_,rfl,xV hbw ((s23.trans s35).upd hp)⟩;rw [List.range_succ,ab4,ad1,ah9,ed];exact g3
  ·rintro σ H3 hI
   rw [hPv]at hI;obtain⟨o3,o4,o5,R2,rfl,s2⟩:=hI;rw [aa0,gl]at R2;exact hu _ _ ⟨o3,o4,o5,R2,rfl,s2⟩
 rintro _ H2 ⟨o3,o4,o5,⟨qs,hb2,ql,hq2⟩,rfl,s2⟩;walk_at "rd"
 have ql1:qs.length=pats.length+1:=by rw [ql];simp
 refine⟨_,aI.of hb2,fun l hl=>k l _ (s2.free hl) ⟨qs.reverse,by rw [ag,List.map_reverse],by rw [ai5,ql];simp,fun i q r e1 e2=>?_⟩ (s2.upd hl)⟩
 have hi:i < pats.length+1:=by
  have:=(aa1.mp e1).1
  rw [ai5]at this;omega
 rw [ah2 (by omega),ql1]at e1;rw [aa4,ae4 hi]at e2;cases e2
 have:=hq2 (pats.length+1 - 1 - i) q (cD Ss (aj bs) met (pats.drop i)) e1 (by
  rw [aa4,ae4 (by omega)];show some (cD Ss (aj bs) met (pats.drop (pats.length - (pats.length+1 - 1 - i))))=_
  rw [show pats.length - (pats.length+1 - 1 - i)=i by omega])
 exact(ar hl) _ _ this
end
def Dt(ns:List Int)(k:Int):Int:=ns.getD k.toNat 0
def xy(K:Frag):Sp:=fun vs H Q _=>∃(a:Addr) (ns:List Int) (k:Int),vs=[.ref a,.int k]∧aI K H a (ns.map V.int)∧0≤k∧k≤1000∧Q (.int (Dt ns k)) H
def jm:Sp:=fun vs H Q _=>∃(c:Int) (n:Nat),vs=[.int c,.int n]∧n≤200∧∀(q:Addr) (ys:List Int) H',ys.length=n→(∀y∈ys,0≤y∧y < 399999)→H q=none→H' q=some (.lst (ys.map V.int))→au H H'→Q (.ref q) H'
def lW(b:Int×Int):List Int:=[b.1,b.2]
def A8(b:Int×Int):Prop:=b.1≤b.2∧b.1.natAbs≤10 ^ 36∧b.2 - b.1 < 12
theorem A8.big{b:Int×Int}(h:A8 b):b.1≤b.2∧b.1.natAbs < 10 ^ 40∧b.2.natAbs < 10 ^ 40∧(fZ b).natAbs < 2 ^ 200∧1≤wN b:=by
 obtain⟨h1,h2,h3⟩:=h
 have e36:(10:Nat) ^ 36=1000000000000000000000000000000000000:=by decide +kernel
 have e40:(10:Nat) ^ 40=10000000000000000000000000000000000000000:=by decide +kernel
 have e2:(2:Nat) ^ 200=1606938044258990275541962092341162602522202993782792835301376:=by decide +kernel
 rw [e36]at h2;rw [e40,e2];unfold fZ wN;omega
theorem aS.ranges{K:Frag}{H:Hp}{q:Addr}{bs:List (Int×Int)}(h:aS H q (bs.map lW)):bB K H q bs:=by
 obtain⟨ps,h1,h2,h3⟩:=h;refine⟨ps,aI.of h1,by rw [h2,aa0],fun i t b e1 e2=>bf.of (h3 i t (lW b) e1 (by rw [aa4,e2];rfl))⟩
theorem aS.at_{H:Hp}{q:Addr}{cols:List (List Int)}(h:aS H q cols):H q=some (.lst (h.choose.map V.ref)):=h.choose_spec.1
theorem aS.put{H:Hp}{q t:Addr}{cols:List (List Int)}{us:List Int}(h:aS H q cols)(ht:H t=none):∃xs:List V,(upd H t (.tup (us.map V.int))) q=some (.lst xs)∧xs.length=cols.length∧aS (upd (upd H t (.tup (us.map V.int))) q (.lst (xs++[.ref t]))) q (cols++[us]):=by
 obtain⟨ps,h1,h2⟩:=h;have hq:=(ar ht (o:=HO.tup (us.map V.int))) _ _ h1;refine⟨ps.map V.ref,hq,by rw [aa0,h2.1],ps++[t],by rw [ag,ab4];rfl,?_⟩;refine((h2.same (ar ht)).append ⟨rfl,fun i p us' e1 e2=>?_⟩).upd hq
 have hi:i=0:=by
  have:=(aa1.mp e1).1
  simp at this;exact this
 subst hi;cases e1;cases e2;exact ag
theorem iO{K:Frag}{H:Hp}{a:Addr}{xs:List V}{i:Int}{Q:VK}(h:aI K H a xs)(h0:0≤i)(h1:i < xs.length)(q:∀v∈xs,xs[i.toNat]?=some v→Q v H):pM K (.ref a) (.int i) H Q:=by
 obtain⟨m,rfl⟩:∃m:Nat,i=m:=⟨i.toNat,by omega⟩;have e:xs[m]?=some xs[m]:=aa2 (by omega);exact bT h (aK e) (q _ (ae2 _) (by rw [ad8];exact e))
def kr(K:Frag):Sp:=fun vs H Q _=>∃(a:Addr) (ns:List Int) (most:Nat),vs=[.ref a,.int most]∧aI K H a (ns.map V.int)∧1≤most∧most≤400∧∀(q:Addr) (bs:List (Int×Int)) H',1≤bs.length→bs.length≤4→(∀b∈bs,A8 b)→gv bs≤most→H q=none→aS H' q (bs.map lW)→au H H'→Q (.ref q) H'
theorem oX{c d:Nat}(hne:d≠c):∀ps:List (List Nat),(∀p∈ps,d∉p)→d∉b0 c ps
 | [],_=>by simp [b0]
 | [p],h=>by simpa [b0]using h p (by simp)
 | p::q::ps,h=>by
  rw [ur];intro hd;rcases ad7.mp hd with hd | hd
  ·exact h p (by simp) hd
  ·rcases ab6.mp hd with hd | hd
   ·exact hne hd
   ·exact oX hne (q::ps) (fun x hx=>h x (by simp [hx])) hd
theorem uC(n:Int):10∉h7 n:=fun h=>by
 have:=jZ n 10 h
 omega
theorem rC{z kind:Str}{ns:List Int}(R:fu z kind ns)(hk:10∉kind.cps.toList):10∉z.cps.toList:=by
 rw [R.cs];refine oX (by decide) _ fun p hp=>?_;rcases ab6.mp hp with rfl | hp
 ·exact hk
 ·obtain⟨n,_,rfl⟩:=ac3.mp hp
  exact uC n
theorem l3{v m:Int}(hv:v.natAbs < 10 ^ 40)(hm:m.natAbs < 10 ^ 40):fu (Str.ofString "voice " ++ dR v++Str.ofString " " ++ dR m) (Str.ofString "voice") [v,m]:=
 xu (by decide +kernel) hv hm (by decide +kernel) (by decide +kernel) (by decide +kernel)
def kZ(b:Int×Int):Str:=Str.ofString "voice " ++ dR b.1++Str.ofString " " ++ dR b.2
theorem f9(a b:Str):(a++b).length=a.length+b.length:=by
 show(a.cps++b.cps).size=a.cps.size+b.cps.size;exact al5
theorem jj{n:Int}(h:n.natAbs < 10 ^ 40):(dR n).length≤41:=pk h
theorem sy{n:Int}(h:n.natAbs < 10 ^ 40):n.natAbs.log2 < 1920:=by
 by_cases h0:n.natAbs=0
 ·rw [h0];decide
 ·exact(Nat.log2_lt h0).mpr (ab2 h (by decide +kernel))
theorem qa{b:Int×Int}(h1:b.1.natAbs < 10 ^ 40)(h2:b.2.natAbs < 10 ^ 40):(kZ b).length≤89:=by
 have e1:(Str.ofString "voice ").length=6:=by decide +kernel
 have e2:(Str.ofString " ").length=1:=by decide +kernel
 have:=jj h1
 have:=jj h2
 unfold kZ;rw [f9,f9,f9];omega
def mh(rows:List Str):Str:=Txt.join (Str.ofString "\n") rows
theorem Al:Str.ofString "\n"=⟨#[10]⟩:=by decide +kernel
theorem rP{rows:List Str}(h:∀z∈rows,10∉z.cps.toList)(h1:rows≠[]):Txt.split (mh rows) ⟨#[10]⟩=rows:=by
 unfold mh;rw [Al];exact pZ (by decide) h1 h
theorem xR{rows:List Str}(h1:∀z∈rows,z.length≤20000)(h2:rows.length≤20):(mh rows).length≤1000000:=by
 unfold mh;rw [Al,aZ,jP]
 have:=iI 10 (rows.map fun z=>z.cps.toList) 20000 (fun p hp=>by
  obtain⟨y,hy,rfl⟩:=ac3.mp hp;rw [←aZ]
  exact h1 y hy)
 rw [aa0]at this
 have:=ag2 (20000+1) h2
 omega
def qr(bs:List (Int×Int))(us:List Int):Prop:=us.length=bs.length∧∀(i:Nat) (b:Int×Int) (u:Int),bs[i]?=some b→us[i]?=some u→b.1≤u∧u≤b.2
theorem qr.nil:qr [] []:=⟨rfl,fun i b u e=>nomatch e⟩
theorem qr.cons_iff{b:Int×Int}{bs:List (Int×Int)}{u:Int}{us:List Int}:qr (b::bs) (u::us)↔(b.1≤u∧u≤b.2)∧qr bs us:=by
 constructor
 ·rintro⟨h1,h2⟩
  refine⟨h2 0 b u rfl rfl,by simpa using h1,fun i b' u' e1 e2=>h2 (i+1) b' u' e1 e2⟩
 ·rintro⟨h1,h2,h3⟩
  refine⟨by simpa using h2,fun i b' u' e1 e2=>?_⟩
  cases i with
  | zero=>cases e1;cases e2;exact h1
  | succ i=>exact h3 i b' u' e1 e2
theorem colsF_iff{bs:List (Int×Int)}{us:List Int}:us∈aj bs↔qr bs us:=by
 have go:∀(bs:List (Int×Int)) (told:List (List Int)) (c:List Int),c∈bs.foldl (fun told b=>told.flatMap (cf b)) told↔∃p∈told,∃us,qr bs us∧c=p++us:=by
  intro bs
  induction bs with
  | nil=>
   intro told c
   constructor
   ·intro h
    exact⟨c,h,[],qr.nil,by simp⟩
   ·rintro⟨p,hp,us,⟨h1,_⟩,rfl⟩
    rw [ag4.mp h1,ae3];exact hp
  | cons b bs ih=>
   intro told c;rw [ad9,ih]
   constructor
   ·rintro⟨p,hp,us,hus,rfl⟩
    obtain⟨d,hd,hp⟩:=ai2.mp hp;unfold cf at hp;obtain⟨j,hj,rfl⟩:=ac3.mp hp;have hj:j < wN b:=ak5.mp hj;refine⟨d,hd,(b.1+(j:Int))::us,qr.cons_iff.mpr ⟨?_,hus⟩,by simp⟩;unfold wN at hj;omega
   ·rintro⟨p,hp,us,hus,rfl⟩
    cases us with
    | nil=>cases hus.1
    | cons u us=>
     obtain⟨⟨h1,h2⟩,h3⟩:=qr.cons_iff.mp hus;refine⟨p++[u],ai2.mpr ⟨p,hp,?_⟩,us,h3,by simp⟩;unfold cf;refine ac3.mpr ⟨(u - b.1).toNat,ak5.mpr ?_,?_⟩
     ·unfold wN
      omega
     ·rw [show b.1+((u - b.1).toNat:Int)=u by omega]
 unfold aj;rw [go]
 constructor
 ·rintro⟨p,hp,us',h,rfl⟩
  rw [ab7.mp hp];exact h
 ·intro h
  exact⟨[],by simp,us,h,rfl⟩
def iu:Sp:=fun vs H Q _=>∃i:Int,vs=[.int i]∧Q (.bl true) H
def nX(K:Frag):Sp:=fun vs H Q _=>∃(a:Addr) (ns:List Int) (st n:Nat),vs=[.ref a,.int st,.int n]∧aI K H a (ns.map V.int)∧ns.length≤63∧st≤100∧n≤200∧∀(q:Addr) (ys:List Int) H',ys.length=n→H q=none→H' q=some (.lst (ys.map V.int))→au H H'→Q (.ref q) H'
def De(K:Frag):Sp:=fun vs H Q _=>∃(a wa:Addr) (bs:List (Int×Int)) (ys:List Int),vs=[.ref a,.ref wa]∧bB K H a bs∧aI K H wa (ys.map V.int)∧bs.length≤ys.length∧bs.length≤4∧(∀b∈bs,b.1≤b.2)∧∀(p:Addr) (us:List Int) H',qr bs us→H' p=some (.tup (us.map V.int))→au H H'→Q (.ref p) H'
def Ea(K:Frag):Sp:=fun vs H Q _=>∃(ca a:Addr) (bs:List (Int×Int)) (us:List Int) (y:Int),vs=[.ref ca,.ref a,.int y]∧H ca=some (.tup (us.map V.int))∧us.length=bs.length∧bB K H a bs∧1≤bs.length∧bs.length≤4∧0≤y∧∀(p:Addr) (us':List Int) H',¬qr bs us'→H' p=some (.tup (us'.map V.int))→au H H'→Q (.ref p) H'
def nZ(K:Frag):Sp:=fun vs H Q _=>∃(a r:Addr) (bs:List (Int×Int)),vs=[.ref a,.ref r]∧bB K H a bs∧aI K H r []∧bs.length≤4∧(∀b∈bs,b.1.natAbs < 10 ^ 40∧b.2.natAbs < 10 ^ 40)∧∀H',au H H'→Q (.str (mh (bs.map kZ))) H'
section
variable {P:Program} {w:World} {K:Frag} {mg:Str→Option Value} {base:Heap} {aM:Addr}
theorem CH{f:Addr}{fd:FuncData}(F:cY K "_law_at" "_law_at" kg f fd)(T:Txt mg aM):aR P w K mg base cO 1 f fd ["_law_script","_law_k"] (xy K):=by
 refine F.ok uZ (fun vs H Q E h=>?_) (fun cdv A outer s H vs Q E hr h=>?_)
 ·obtain⟨a,ns,k,rfl,_⟩:=h
  rfl
 obtain⟨a,ns,k,rfl,hS,h0,h1,q⟩:=h
 refine⟨_,(ah (bL (cz (aN (o0 wU) (pr 1) (ax (aG K) (by rfl) T.n_len boot_len (aa (pr 0) af)) (aQ _))) (ak (aC (aV (bC K) (pr 0) (pr 1) (fun _ _=>rfl)))) aY)
 (ak (aC ao))),?_⟩
 walk_at "rd";refine⟨_,.inl hS,?_⟩;obtain⟨m,rfl⟩:∃m:Nat,k=m:=⟨k.toNat,by omega⟩;unfold Dt at q;rw [ad8,ac8]at q;rw [aa0]
 by_cases hk:(m:Int) < (ns.length:Int)
 ·rw [if_pos hk]
  have e:ns[m]?=some ns[m]:=aa2 (by omega);rw [e]at q;exact bT hS (aK (by rw [aa4,e];rfl)) q
 ·rw [if_neg hk]
  rw [ae5 (by omega)]at q;exact q
theorem wM{f:Addr}{fd:FuncData}(F:cY K "_law_draws" "_law_draws" fQ f fd)(T:Txt mg aM):aR P w K mg base cO 1 f fd ["_law_cell","_law_many"] jm:=by
 refine F.ok sc_law_draws (fun vs H Q E h=>?_) (fun cdv A outer s H vs Q E hr h=>?_)
 ·obtain⟨c,n,rfl,_⟩:=h
  rfl
 obtain⟨c,n,rfl,hn,q⟩:=h
 refine⟨_,(ah (ay (i:=2) sc_law_draws.nd rfl (Or.inl rfl) (dz x6 (aA (o1 bW) (aA (o1 da) (pr 0) ao) ao) ao (aQ _)))
 (ah (ay (i:=3) sc_law_draws.nd rfl (Or.inl rfl) (aA (o1 da) (pr 0) ao))
 (ah (ay (i:=4) sc_law_draws.nd rfl (Or.inl rfl) (aA (dy K) (aA (o1 bW) (pr 0) ao) ao))
 (ah (ay (i:=5) sc_law_draws.nd rfl (Or.inl rfl) (bA af))
 (ah (bu PassesOwn.never rfl (uP rfl T.n_range (aa ao (aa (aA (dy K) (pr 1) ao) af))) (aw (i:=6) sc_law_draws.nd rfl (Or.inl rfl))
 (ak (bL (PW.pt (nE (a0 (pr 2) (fun _=>rfl)) (nF (cz (aN (wW K) (pr 3) (bA (aa ao (aa (sH (u1 n8) ao) af))) (by with_unfolding_all rfl)))))) (ah (bG (bO K PySem.F.plainAttrs_list PySem.F.slot_list_append PySem.F.type_list_append bp (pr 5) (aa (aA (o1 bW) (pr 3) ao) af)))
 (ak (ay (i:=3) sc_law_draws.nd rfl (Or.inl rfl) (aA (o1 da) (pr 3) ao)))) (ah (ay (i:=4) sc_law_draws.nd rfl (Or.inl rfl) (aA (dy K) (aA (o1 bW) (aA (mZ K) (aA (o1 bW) (aA (dy K) (aA (mZ K) (pr 4) ao) (pr 6)) ao) (aA (dy K) (pr 4) (aA (mZ K) ao (pr 6)))) ao) ao))
 (ak (bG (bO K PySem.F.plainAttrs_list PySem.F.slot_list_append PySem.F.type_list_append bp (pr 5) (aa (aA (o1 da) (pr 4) ao) af))))))))
 (ak (aC (pr 5)))))))),?_⟩
 have hs:sizeLine=16777216:=sizeLine_eq;refine aL (fun σ H'=>∃b:Bool,σ=[some (.int c),some (.int n),some (.bl b),none,none,none,none]∧H=H') ?_ ?_
 ·intro u' hu
  walk_at "rd";exact⟨⟨by decide,by decide⟩,by decide,hu _ _ ⟨_,rfl,rfl⟩⟩
 rintro _ _ ⟨b,rfl,rfl⟩;refine aL (fun σ H'=>∃r:Int,σ=[some (.int c),some (.int n),some (.bl b),some (.int r),none,none,none]∧H=H') ?_ ?_
 ·intro u' hu
  walk_at "rd";exact⟨⟨by decide,by decide⟩,hu _ _ ⟨_,rfl,rfl⟩⟩
 rintro _ _ ⟨r,rfl,rfl⟩;refine aL (fun σ H'=>∃sd:Int,1≤sd∧sd≤1999993∧σ=[some (.int c),some (.int n),some (.bl b),some (.int r),some (.int sd),none,none]∧H=H') ?_ ?_
 ·intro u' hu
  walk_at "rd";exact⟨by decide,hu _ _ ⟨_,by omega,by omega,rfl,rfl⟩⟩
 rintro _ _ ⟨sd,d1,d2,rfl,rfl⟩;refine aL (fun σ H'=>∃p:Addr,H p=none∧H' p=some (.lst (([]:List Int).map V.int))∧σ=[some (.int c),some (.int n),some (.bl b),some (.int r),some (.int sd),some (.ref p),none]∧au H H') ?_ ?_
 ·intro u' hu
  walk_at "rd";exact⟨by omega,fun p hp=>hu _ _ ⟨p,hp,ag,rfl,ar hp⟩⟩
 rintro _ H1 ⟨p,hp,hp1,rfl,s1⟩;refine aL (fun σ H'=>∃(ys:List Int) (r sd:Int) (o6:Option V),ys.length=n∧(∀y∈ys,0≤y∧y < 399999)∧H' p=some (.lst (ys.map V.int))∧σ=[some (.int c),some (.int n),some (.bl b),some (.int r),some (.int sd),some (.ref p),o6]∧au H H') ?_ ?_
 ·intro u' hu
  walk_at "rd";obtain⟨Pv,hPv⟩:∃Pv:Nat→L2.St→Hp→Prop,Pv=fun i σ H'=>∃(ys:List Int) (r sd:Int) (o6:Option V),ys.length=i∧(∀y∈ys,0≤y∧y < 399999)∧1≤sd∧sd≤1999993∧H' p=some (.lst (ys.map V.int))∧σ=[some (.int c),some (.int n),some (.bl b),some (.int r),some (.int sd),some (.ref p),o6]∧au H H':=⟨_,rfl⟩;refine⟨by omega,by omega,by omega,by omega,dQ Pv (by rw [hPv];exact⟨[],r,sd,none,rfl,(fun _ h=>nomatch h),d1,d2,hp1,rfl,s1⟩) ?_ ?_⟩
  ·clear s1 hp1 d1 d2
   clear r sd H1;rintro i σ H1 hi hI;rw [hPv]at hI;obtain⟨ys,r,sd,o6,hl,hy,d1,d2,hp1,rfl,s1⟩:=hI;walk_at "rd"
   have app:∀{x:Int} {H2:Hp} {r' sd':Int},0≤x→x < 399999→1≤sd'→sd'≤1999993→au H H2→Pv (i+1) [some (.int c),some (.int n),some (.bl b),some (.int r'),some (.int sd'),some (.ref p),some (.int (1+i))] (upd H2 p (.lst (ys.map V.int++[.int x]))):=fun {x H2 r' sd'} x0 x1 e1 e2 s2=>by
    rw [hPv];refine⟨ys++[x],r',sd',_,by rw [ab3,hl];rfl,fun y h=>?_,e1,e2,by rw [ag,ab4];rfl,rfl,xV hp s2⟩;rcases ad7.mp h with h | h
    ·exact hy y h
    ·rw [ab7.mp h]
     exact⟨x0,x1⟩
   have e2:(2:Nat) ^ 21=2097152:=by decide
   have k1:IntMulOk ((sd * 69069+(1+(i:Int))) % 1999993) (sd+3 * (1+(i:Int))):=IntMulOk.of_le (m:=21) (n:=21) (intBits_le_iff.mpr (by rw [e2];omega)) (intBits_le_iff.mpr (by rw [e2];omega)) (by decide);have m0:=ak3 ((sd * 69069+(1+(i:Int))) % 1999993 * (sd+3 * (1+(i:Int)))) (show(1999993:Int)≠0 by decide);have m1:=al1 ((sd * 69069+(1+(i:Int))) % 1999993 * (sd+3 * (1+(i:Int)))) (show(0:Int) < 1999993 by decide);generalize(sd * 69069+(1+(i:Int))) % 1999993 * (sd+3 * (1+(i:Int))) % 1999993=sd' at m0 m1
   by_cases hb:b=true
   ·rw [if_pos hb]
    refine⟨by omega,fun z hz=>pQ (D:=[0,-1]) (aI.of ag) ⟨_,rfl,?_⟩⟩;have hp2:=(ar hz (o:=HO.lst [V.int 0,V.int (-1)])) _ _ hp1;have s2:=s1.upd hz (o:=HO.lst [V.int 0,V.int (-1)])
    by_cases hr:r∈[0,-1]
    ·rw [if_neg (by simp [hr])]
     refine⟨.of_right (by decide),by decide,.of_left (by decide),k1,by decide,.inl ⟨rfl,_,aI.of hp2⟩,⟨by decide,by decide⟩,p,_,_,rfl,rfl,hp2,by rw [aa0];omega,app (by omega) (by omega) (by omega) (by omega) s2⟩
    ·rw [if_pos (by simp [hr])]
     exact⟨.inl ⟨rfl,_,aI.of hp2⟩,by decide,p,_,_,rfl,rfl,hp2,by rw [aa0];omega,⟨by decide,by decide⟩,app (by omega) (by omega) d1 d2 s2⟩
   ·rw [if_neg hb]
    refine⟨.of_right (by decide),by decide,.of_left (by decide),k1,by decide,.inl ⟨rfl,_,aI.of hp1⟩,⟨by decide,by decide⟩,p,_,_,rfl,rfl,hp1,by rw [aa0];omega,app (by omega) (by omega) (by omega) (by omega) s1⟩
  ·rintro σ H3 hI
   rw [hPv]at hI;obtain⟨ys,r,sd,o6,hl,hy,_,_,hp1,rfl,s1⟩:=hI;exact hu _ _ ⟨ys,r,sd,o6,by omega,hy,hp1,rfl,s1⟩
 rintro _ H2 ⟨ys,r,sd,o6,hl,hy,hp2,rfl,s2⟩;walk_at "rd";exact q p ys H2 hl hy hp hp2 s2
theorem uJ{f:Addr}{fd:FuncData}(F:cY K "_law_ranges" "_law_ranges" e8 f fd)(T:Txt mg aM)(D_law_at:bN P w K mg base "_law_at" 1 ["_law_script","_law_k"] (xy K))(D_law_draws:bN P w K mg base "_law_draws" 1 ["_law_cell","_law_many"] jm):aR P w K mg base cO 2 f fd ["_law_script","_law_most"] (kr K):=by
 refine F.ok sc_law_ranges (fun vs H Q E h=>?_) (fun cdv A outer s H vs Q E hr h=>?_)
 ·obtain⟨a,ns,most,rfl,_⟩:=h
  rfl
 obtain⟨a,ns,most,rfl,hS,m1,m2,k⟩:=h
 refine⟨_,(ah (ay (i:=2) sc_law_ranges.nd rfl (Or.inl rfl) (aE D_law_draws hr (by rfl) (aa (aE D_law_at hr (by rfl) (aa (pr 0) (aa ao af))) (aa ao af))))
 (ah (ay (i:=3) sc_law_ranges.nd rfl (Or.inl rfl) (aV (bC K) (bA (lV (vs:=[.int (1),.int (1),.int (2),.int (2),.int (2),.int (3),.int (4),.int (1)]) rfl)) (aA (o1 bW) (aE D_law_at hr (by rfl) (aa (pr 0) (aa ao af))) ao) (fun _ _=>rfl)))
 (ah (ay (i:=4) sc_law_ranges.nd rfl (Or.inl rfl) (aA (o1 bW) (aA (o1 da) (aE D_law_at hr (by rfl) (aa (pr 0) (aa ao af))) ao) (aA (o1 ng) ao ao)))
 (ah (ay (i:=5) sc_law_ranges.nd rfl (Or.inl rfl) (aV (bC K) (bA (aa ao (aa ao (aa (sH (u1 n8) ao) (aa (aA (o1 bW) (pr 4) (aA (o1 ng) ao ao)) (aa (aA (o0 gB) ao (pr 4)) af)))))) (aA (o1 bW) (aE D_law_at hr (by rfl) (aa (pr 0) (aa ao af))) ao) (fun _ _=>rfl)))
 (ah (ay (i:=6) sc_law_ranges.nd rfl (Or.inl rfl) (aV (bC K) (bA (aa ao (aa ao (aa ao (aa (aA (o1 bW) (aA (o1 da) (aE D_law_at hr (by rfl) (aa (pr 0) (aa ao af))) ao) (aA (o1 ng) ao ao)) af))))) (aA (o1 bW) (aE D_law_at hr (by rfl) (aa (pr 0) (aa ao af))) ao) (fun _ _=>rfl)))
 (ah (ay (i:=7) sc_law_ranges.nd rfl (Or.inl rfl) (bA af))
 (ah (bu PassesOwn.never rfl (iN rfl T.n_range (aa (pr 3) af)) (aw (i:=8) sc_law_ranges.nd rfl (Or.inl rfl))
 (ah (ay (i:=9) sc_law_ranges.nd rfl (Or.inl rfl) (aA (dy K) ao (aA (o1 bW) (aV (bC K) (pr 2) (aA (dy K) ao (pr 8)) (fun _ _=>rfl)) (ax (iD rfl) (by rfl) T.n_min boot_min (aa (pr 1) (aa (aA (dy K) ao (aA (mZ K) ao (bc (gc) (by rfl) T.n_int boot_int (aa (dz x6 (pr 3) ao (aQ _)) af)))) af))))))
 (ah (ay (i:=10) sc_law_ranges.nd rfl (Or.inl rfl) (aA (o0 gB) (aA (dy K) (aA (dy K) (pr 5) (aA (mZ K) (pr 8) (pr 6))) (aA (o1 bW) (aA (o1 da) (aV (bC K) (pr 2) (aA (dy K) ao (pr 8)) (fun _ _=>rfl)) ao) ao)) ao))
 (ah (bG (bO K PySem.F.plainAttrs_list PySem.F.slot_list_append PySem.F.type_list_append bp (pr 7) (aa (dU (aa (pr 10) (aa (aA (o0 gB) (aA (dy K) (pr 10) (pr 9)) ao) af))) af)))
 (ak (ay (i:=1) sc_law_ranges.nd rfl (Or.inl rfl) (aA (o1 da) (pr 1) (pr 9))))))))
 (ak (aC (pr 7)))))))))),?_⟩
 have hs:sizeLine=16777216:=sizeLine_eq;refine aL (fun σ H'=>∃(wa:Addr) (ys:List Int),ys.length=6∧(∀y∈ys,0≤y∧y < 399999)∧H' wa=some (.lst (ys.map V.int))∧σ=[some (.ref a),some (.int most),some (.ref wa),none,none,none,none,none,none,none,none]∧au H H') ?_ ?_
 ·intro u' hu
  walk_at "rd";exact⟨a,ns,0,rfl,hS,by decide,by decide,_,6,rfl,by decide,fun q ys H' hl hy _ hq s1=>hu _ _ ⟨q,ys,hl,hy,hq,rfl,s1⟩⟩
 rintro _ H1 ⟨wa,ys,yl,hy,hw,rfl,s1⟩;refine aL (fun σ H'=>∃v:Int,1≤v∧v≤4∧σ=[some (.ref a),some (.int most),some (.ref wa),some (.int v),none,none,none,none,none,none,none]∧au H1 H') ?_ ?_
 ·intro u' hu
  walk_at "rd";refine⟨by omega,fun p hp=>⟨a,ns,0,rfl,(s1.upd hp).seq hS,by decide,by decide,_,rfl,by decide,iO (aI.of ag) (by omega) (by simp;omega) fun v hv _=>?_⟩⟩;simp only [ab6,ac4,or_false]at hv
  rcases hv with rfl | rfl | rfl | rfl | rfl | rfl | rfl | rfl<;>exact hu _ _ ⟨_,by decide,by decide,rfl,ar hp⟩
 rintro _ H2 ⟨v,v1,v4,rfl,s2⟩;have s02:=s1.trans s2;refine aL (fun σ H'=>∃g:Int,0≤g∧g < 100000000000000000000000000000000000∧σ=[some (.ref a),some (.int most),some (.ref wa),some (.int v),some (.int g),none,none,none,none,none,none]∧H2=H') ?_ ?_
 ·intro u' hu
  walk_at "rd"
  have e35:(10:Int) ^ Int.toNat 35=100000000000000000000000000000000000:=by decide +kernel
  refine⟨a,ns,1,rfl,s02.seq hS,by decide,by decide,_,rfl,⟨by decide,by decide⟩,⟨by decide,by decide,by decide⟩,?_⟩;rw [e35];exact⟨by decide,hu _ _ ⟨_,by omega,by omega,rfl,rfl⟩⟩
 rintro _ _ ⟨g,g0,g1,rfl,rfl⟩;refine aL (fun σ H'=>∃lo:Int,lo.natAbs < 100000000000000000000000000000000000∧σ=[some (.ref a),some (.int most),some (.ref wa),some (.int v),some (.int g),some (.int lo),none,none,none,none,none]∧au H1 H') ?_ ?_
 ·intro u' hu
  walk_at "rd"
  have e9:(10:Int) ^ Int.toNat 9=1000000000:=by decide +kernel
  rw [e9];refine⟨⟨by decide,by decide,by decide⟩,by decide,by omega,fun p hp=>⟨a,ns,1,rfl,(s02.upd hp).seq hS,by decide,by decide,_,rfl,by decide,iO (aI.of ag) (by omega) (by simp;omega) fun v hv _=>?_⟩⟩;simp only [ab6,ac4,or_false]at hv
  rcases hv with rfl | rfl | rfl | rfl | rfl<;>exact hu _ _ ⟨_,by omega,rfl,s2.upd hp⟩
 clear s02 s2;clear H2;rintro _ H2 ⟨lo,hlo,rfl,s2⟩;have s02:=s1.trans s2;refine aL (fun σ H'=>∃fr:Int,0≤fr∧fr≤100000000000000000000∧σ=[some (.ref a),some (.int most),some (.ref wa),some (.int v),some (.int g),some (.int lo),some (.int fr),none,none,none,none]∧au H1 H') ?_ ?_
 ·intro u' hu
  walk_at "rd"
  have e20:(10:Int) ^ Int.toNat 20=100000000000000000000:=by decide +kernel
  rw [e20];refine⟨a,ns,2,rfl,s02.seq hS,by decide,by decide,_,rfl,⟨by decide,by decide⟩,⟨by decide,by decide,by decide⟩,by decide,by omega,fun p hp=>⟨a,ns,2,rfl,(s02.upd hp).seq hS,by decide,by decide,_,rfl,by decide,iO (aI.of ag) (by omega) (by simp;omega) fun v hv _=>?_⟩⟩;simp only [ab6,ac4,or_false]at hv
  rcases hv with rfl | rfl | rfl | rfl<;>exact hu _ _ ⟨_,by omega,by omega,rfl,s2.upd hp⟩
 clear s02 s2;clear H2;rintro _ H2 ⟨fr,f0,f1,rfl,s2⟩;refine aL (fun σ H'=>∃q:Addr,H1 q=none∧H' q=some (.lst (([]:List Addr).map V.ref))∧σ=[some (.ref a),some (.int most),some (.ref wa),some (.int v),some (.int g),some (.int lo),some (.int fr),some (.ref q),none,none,none]∧au H1 H') ?_ ?_
 ·intro u' hu
  walk_at "rd";exact⟨by omega,fun q hq=>hu _ _ ⟨q,s2.free hq,ag,rfl,s2.upd hq⟩⟩
 clear s2;clear H2;rintro _ H2 ⟨q,hq1,hq2,rfl,s2⟩;have hq0:H q=none:=s1.free hq1;refine aL (fun σ H'=>∃(bs:List (Int×Int)) (o1 o8 o9 o10:Option V),1≤bs.length∧bs.length≤4∧(∀b∈bs,A8 b)∧gv bs≤most∧aS H' q (bs.map lW)∧σ=[some (.ref a),o1,some (.ref wa),some (.int v),some (.int g),some (.int lo),some (.int fr),some (.ref q),o8,o9,o10]∧au H1 H') ?_ ?_
 ·intro u' hu
  walk_at "rd";obtain⟨Pv,hPv⟩:∃Pv:Nat→L2.St→Hp→Prop,Pv=fun i σ H'=>∃(bs:List (Int×Int)) (m:Nat) (o8 o9 o10:Option V),bs.length=i∧(∀b∈bs,A8 b)∧1≤m∧gv bs * m≤most∧aS H' q (bs.map lW)∧σ=[some (.ref a),some (.int m),some (.ref wa),some (.int v),some (.int g),some (.int lo),some (.int fr),some (.ref q),o8,o9,o10]∧au H1 H':=⟨_,rfl⟩;refine⟨by omega,by omega,dQ Pv (by rw [hPv];exact⟨[],most,none,none,none,rfl,(fun _ h=>nomatch h),m1,by show 1 * most≤most;omega,⟨[],hq2,rfl,fun i p us e=>nomatch e⟩,rfl,s2⟩) ?_ ?_⟩
  ·rintro i σ H3 hi hI
   rw [hPv]at hI;obtain⟨bs,m,o8,o9,o10,hl,hb,hm,hc,hC,rfl,s3⟩:=hI
   have hi4:(i:Int)≤3:=by omega
   walk_at "rd";have hw3:=s3 _ _ hw
   have hc1:1≤gv bs:=by
    have:=(fB (bs:=bs) (fun b h=>(hb b h).big.2.2.2.2) bs.length).1
    rwa [ac9]at this
   have hm4:m≤400:=ac0 (ac0 (Nat.le_mul_of_pos_left m hc1) hc) m2;refine iO (aI.of hw3) (by omega) (by rw [aa0];omega) fun y hyv _=>?_;obtain⟨y,hyy,rfl⟩:=ac3.mp hyv;clear hyv;obtain⟨y0,y1⟩:=hy y hyy;obtain⟨d,hd⟩:∃d:Int,d=if (6+6 * if v=1 then 1 else 0) < (m:Int)then 6+6 * (if v=1 then 1 else 0)else(m:Int):=⟨_,rfl⟩
   have d1:1≤d:=by rw [hd];split<;>split<;>omega
   have d2:d≤m:=by rw [hd];split<;>omega
   have d3:d≤12:=by rw [hd];split<;>split<;>omega
   rw [←hd];have r0:=ak3 y (show d≠0 by omega);have r1:=al1 y (show 0 < d by omega);obtain⟨wd,hwd⟩:∃wd:Nat,1+y % d=wd:=⟨(1+y % d).toNat,by omega⟩
   have w1:1≤wd:=by omega
   have w2:wd≤12:=by omega
   have w3:wd≤m:=by omega
   refine⟨.of_left (by decide),_,rfl,by omega,IntMulOk.of_le (m:=10) (n:=80) (intBits_le_iff.mpr (by omega)) (intBits_le_iff.mpr (ad5 (m:=100000000000000000000) (by omega) (by decide +kernel))) (by decide),iO (aI.of hw3) (by omega) (by rw [aa0];omega) fun y2 hyv _=>?_⟩;obtain⟨y2,hyy2,rfl⟩:=ac3.mp hyv;clear hyv;obtain⟨z0,z1⟩:=hy y2 hyy2;have p0:0≤(i:Int) * fr:=Int.mul_nonneg (by omega) f0;have p1:(i:Int) * fr≤3 * 100000000000000000000:=Int.mul_le_mul hi4 f1 f0 (by decide);obtain⟨x,hx⟩:∃x:Int,x=lo+(i:Int) * fr+y2 / 12 % 7 - 3:=⟨_,rfl⟩
   have x36:x.natAbs≤10 ^ 36:=by
    have e36:(10:Nat) ^ 36=1000000000000000000000000000000000000:=by decide +kernel
    rw [e36];omega
   refine⟨_,rfl,⟨by decide,by decide⟩,by decide,.inl ⟨rfl,_,aI.of hC.at_⟩,by omega,fun p hp=>?_⟩;rw [←hx,hwd];obtain⟨xs,hx1,hx2,hx3⟩:=hC.put (us:=lW (x,x+wd - 1)) hp;refine⟨q,_,_,rfl,rfl,hx1,by rw [hx2,aa0];omega,⟨by omega,by omega⟩,?_⟩;rw [hPv];have em:(m:Int) / (wd:Int)=((m / wd:Nat):Int):=rfl;rw [em];refine⟨bs++[(x,x+wd - 1)],m / wd,_,_,_,by rw [ab3,hl];rfl,fun b hb'=>?_,Nat.div_pos w3 w1,?_,?_,rfl,?_⟩
   ·rcases ad7.mp hb' with hb' | hb'
    ·exact hb b hb'
    ·rw [ab7.mp hb']
     unfold A8;show x≤x+wd - 1∧x.natAbs≤_∧x+wd - 1 - x < 12;exact⟨by omega,x36,by omega⟩
   ·rw [hJ]
    have ew:wN (x,x+(wd:Int) - 1)=wd:=by
     unfold wN;show(x+(wd:Int) - 1 - x+1).toNat=wd;omega
    rw [ew,Nat.mul_assoc];exact ac0 (Nat.mul_le_mul_left _ (Nat.mul_div_le m wd)) hc
   ·rw [ab4]
    exact hx3
   ·exact xV hq1 (s3.upd hp)
  ·rintro σ H3 hI
   rw [hPv]at hI;obtain⟨bs,m,o8,o9,o10,hl,hb,hm,hc,hC,rfl,s3⟩:=hI;exact hu _ _ ⟨bs,_,o8,o9,o10,by omega,by omega,hb,ac0 (Nat.le_mul_of_pos_right _ hm) hc,hC,rfl,s3⟩
 rintro _ H3 ⟨bs,o1,o8,o9,o10,l1,l4,hb,hc,hC,rfl,s3⟩;walk_at "rd";exact k q bs H3 l1 l4 hb hc hq0 hC (s1.trans s3)
theorem wQ{f:Addr}{fd:FuncData}(F:cY K "_law_text" "_law_text" gI f fd)(T:Txt mg aM):aR P w K mg base cO 1 f fd ["_law_ranges_here","_law_rules"] (nZ K):=by
 refine F.ok sc_law_text (fun vs H Q E h=>?_) (fun cdv A outer s H vs Q E hr h=>?_)
 ·obtain⟨a,r,bs,rfl,_⟩:=h
  rfl
 obtain⟨a,r,bs,rfl,⟨ts,hts,htl,htc⟩,hr0,lb,hb,k⟩:=h
 refine⟨_,(ah (gD (i:=2) sc_law_text.nd rfl (Or.inl rfl) (own:=["_law_low","_law_high"]) (js:=[]) rfl (aX K (pr 0)) (aW.of (by rfl)) (fun _ _ _ _ _=>(bE K (n:=2) rfl (aD (aw (i:=0) (show List.Nodup (["_law_low","_law_high"]:List Str)from by decide +kernel) rfl (Or.inl rfl)) (aD (aw (i:=1) (show List.Nodup (["_law_low","_law_high"]:List Str)from by decide +kernel) rfl (Or.inl rfl)) bF)))) (fun _ _ _ _ _=>bS) (fun _ _ _ _ _=>(aA (dy K) (aA (dy K) (aA (dy K) dS (bc (lD) (by rfl) T.n_str boot_str (aa (pr 0) af))) dS) (bc (lD) (by rfl) T.n_str boot_str (aa (pr 1) af)))) rfl)
 (ak (aC (bO K PySem.F.plainAttrs_str PySem.F.slot_str_join PySem.F.type_str_join (wC K) dS (aa (aA (dy K) (pr 2) (bP (own:=["_law_rule"]) (js:=[]) rfl (aX K (pr 1)) (aW.of (by rfl)) (fun _ _ _ _ _=>(aw (i:=0) (show List.Nodup (["_law_rule"]:List Str)from by decide +kernel) rfl (Or.inl rfl))) (fun _ _ _ _ _=>bS) (fun _ _ _ _ _=>j7))) af))))),?_⟩
 have hs:sizeLine=16777216:=sizeLine_eq;refine aL (fun σ H'=>∃q:Addr,H q=none∧H' q=some (.lst ((bs.map kZ).map V.str))∧σ=[some (.ref a),some (.ref r),some (.ref q)]∧au H H') ?_ ?_
 ·intro u' hu
  walk_at "rd";refine ba hts (bt (xs:=ts.map V.ref) (fun i ys H'=>ys=((bs.take i).map kZ).map V.str∧H=H') (by rw [aa0];omega) ⟨rfl,rfl⟩ ?_ ?_ ?_ ?_)
  ·rintro i ys H' ⟨rfl,rfl⟩
   rw [aa0,aa0,ac6];omega
  ·rintro i ys H' ⟨rfl,rfl⟩
   exact hts
  ·rintro i y ys H' hy ⟨rfl,rfl⟩
   rw [aa4]at hy
   cases ht:ts[i]? with
   | none=>rw [ht]at hy;cases hy
   | some t=>
    rw [ht]at hy;cases hy
    have hi:i < bs.length:=by rw [←htl];exact(aa1.mp ht).1
    have hbi:bs[i]?=some bs[i]:=aa2 hi;simp only [cy];walk_at "rd";refine⟨_,htc i t _ ht hbi,rfl,?_⟩;walk_at "rd";obtain⟨n1,n2⟩:=hb _ (ae2 hi)
    have e1:(Str.ofString "voice ").length=6:=by decide +kernel
    have e2:(Str.ofString " ").length=1:=by decide +kernel
    have:=jj n1
    have:=jj n2
    refine⟨sy n1,by omega,by rw [f9];omega,sy n2,by rw [f9,f9];omega,?_⟩;rw [ab9,hbi,ab4,ab4];rfl
  ·rintro ys H' ⟨rfl,rfl⟩ q hq
   rw [aa0,htl,ac9];exact hu _ _ ⟨q,hq,ag,rfl,ar hq⟩
 rintro _ H1 ⟨q,hq0,hq1,rfl,s1⟩;walk_at "rd";refine ba (s1.seq hr0) (bt (xs:=[]) (fun i ys H'=>i=0∧ys=[]∧H1=H') (by simp) ⟨rfl,rfl,rfl⟩ ?_ ?_ ?_ ?_)
 ·rintro i ys H' ⟨rfl,rfl,rfl⟩
  exact aa8 _
 ·rintro i ys H' ⟨rfl,rfl,rfl⟩
  exact s1.seq hr0
 ·rintro i x ys H' hx _
  cases hx
 rintro ys H' ⟨_,rfl,rfl⟩ p hp;have pq:q≠p:=aq hq1 hp;refine xc (xs:=(bs.map kZ).map V.str) (zs:=[]) (by rw [ai pq];exact hq1) ag (by simp;omega) fun z hz=>⟨z,rfl,bs.map kZ,aI.of (by rw [ag,ae3]),?_,k _ ((s1.upd hp).upd hz)⟩
 have h1:=StrLaws.sumLen_le (B:=20000) (bs.map kZ) (fun z hz=>by
  obtain⟨b,hb',rfl⟩:=ac3.mp hz
  have:=qa (hb b hb').1 (hb b hb').2
  omega)
 have e1:(Str.ofString "\n").length=1:=by decide +kernel
 rw [aa0]at h1 ⊢;rw [e1]
 have:=ag2 20000 lb
 omega
theorem wR{f:Addr}{fd:FuncData}(F:cY K "_law_whole" "_law_whole" fR f fd)(T:Txt mg aM):aR P w K mg base cO 1 f fd ["_law_found"] iu:=by
 refine F.ok nT (fun vs H Q E h=>?_) (fun cdv A outer s H vs Q E hr h=>?_)
 ·obtain⟨i,rfl,_⟩:=h
  rfl
 obtain⟨i,rfl,q⟩:=h;refine⟨_,(ak (aC (An (wX (ax (dv K) (by rfl) T.n_isinstance boot_isinstance (aa (pr 0) (aa (ig (v:=.ty "int") (by rfl) T.n_int boot_int rfl) af))) (ni (C1 (Bi (ax (dv K) (by rfl) T.n_isinstance boot_isinstance (aa (pr 0) (aa (ig (v:=.ty "bool") (by rfl) T.n_bool boot_bool rfl) af)))))))))),?_⟩;walk_at "rd";refine⟨_,.int _,true,rfl,?_⟩;rw [if_pos rfl];exact⟨_,.int _,false,rfl,q⟩
theorem wL{f:Addr}{fd:FuncData}(F:cY K "_law_cells" "_law_cells" fP f fd)(T:Txt mg aM)(D_law_at:bN P w K mg base "_law_at" 1 ["_law_script","_law_k"] (xy K))(D_law_draws:bN P w K mg base "_law_draws" 1 ["_law_cell","_law_many"] jm):aR P w K mg base cO 2 f fd ["_law_script","_law_start","_law_many"] (nX K):=by
 refine F.ok sc_law_cells (fun vs H Q E h=>?_) (fun cdv A outer s H vs Q E hr h=>?_)
 ·obtain⟨a,ns,st,n,rfl,_⟩:=h
  rfl
 obtain⟨a,ns,st,n,rfl,hS,ln,lst,hn,k⟩:=h
 refine⟨_,(ah (ay (i:=3) sc_law_cells.nd rfl (Or.inl rfl) (aE D_law_draws hr (by rfl) (aa (aE D_law_at hr (by rfl) (aa (pr 0) (aa (pr 1) af))) (aa (pr 2) af))))
 (ah (bu PassesOwn.never rfl (iN rfl T.n_range (aa (ax (iD rfl) (by rfl) T.n_min boot_min (aa (pr 2) (aa (ax (tH rfl) (by rfl) T.n_max boot_max (aa ao (aa (aA (o0 gB) (aA (o0 gB) (ax (aG K) (by rfl) T.n_len boot_len (aa (pr 0) af)) (pr 1)) ao) af))) af))) af)) (aw (i:=4) sc_law_cells.nd rfl (Or.inl rfl))
 (ak (ny (aV (bC K) (pr 0) (aA (dy K) (aA (dy K) (pr 1) ao) (pr 4)) (fun _ _=>rfl)) (nj (pr 3) (pr 4) xx))))
 (ak (aC (pr 3))))),?_⟩
 have hs:sizeLine=16777216:=sizeLine_eq;refine aL (fun σ H'=>∃(q:Addr) (ys:List Int),ys.length=n∧H q=none∧H' q=some (.lst (ys.map V.int))∧σ=[some (.ref a),some (.int st),some (.int n),some (.ref q),none]∧au H H') ?_ ?_
 ·intro u' hu
  walk_at "rd";exact⟨a,ns,st,rfl,hS,by omega,by omega,_,n,rfl,hn,fun q ys H' hl hy hq hq' s1=>hu _ _ ⟨q,ys,hl,hq,hq',rfl,s1⟩⟩
 rintro _ H1 ⟨q,ys,hl,hq0,hq1,rfl,s1⟩;refine aL (fun σ H'=>∃(ys:List Int) (o4:Option V),ys.length=n∧H' q=some (.lst (ys.map V.int))∧σ=[some (.ref a),some (.int st),some (.int n),some (.ref q),o4]∧au H H') ?_ ?_
 ·intro u' hu
  walk_at "rd";refine⟨_,.inl (s1.seq hS),?_⟩;rw [aa0];obtain⟨M,hM⟩:∃M:Int,M=if (if (ns.length:Int) - (st:Int) - 1 > 0 then(ns.length:Int) - (st:Int) - 1 else 0) < (n:Int)then if (ns.length:Int) - (st:Int) - 1 > 0 then(ns.length:Int) - (st:Int) - 1 else 0 else(n:Int):=⟨_,rfl⟩
  have hM1:0≤M∧M≤n∧(0 < M→M≤(ns.length:Int) - (st:Int) - 1):=by
   rw [hM]
   split<;>split<;>omega
  rw [←hM];obtain⟨Pv,hPv⟩:∃Pv:Nat→L2.St→Hp→Prop,Pv=fun i σ H'=>∃(ys:List Int) (o4:Option V),ys.length=n∧H' q=some (.lst (ys.map V.int))∧σ=[some (.ref a),some (.int st),some (.int n),some (.ref q),o4]∧au H H':=⟨_,rfl⟩;refine⟨by omega,by omega,dQ Pv (by rw [hPv];exact⟨ys,none,hl,hq1,rfl,s1⟩) ?_ ?_⟩
  ·rintro i σ H3 hi hI
   rw [hPv]at hI;obtain⟨zs,o4,zl,hq3,rfl,s3⟩:=hI;walk_at "rd";refine iO (s3.seq hS) (by omega) (by rw [aa0];omega) fun v hv _=>?_;obtain⟨c,_,rfl⟩:=ac3.mp hv;refine⟨_,hq3,i,?_,?_⟩
   ·unfold yG
    rw [aa0,if_pos (by omega),if_pos (by omega),ad8]
   rw [hPv];refine⟨zs.set i c,_,by rw [List.length_set,zl],by rw [ag,List.map_set],rfl,xV hq0 s3⟩
  ·rintro σ H3 hI
   rw [hPv]at hI;obtain⟨zs,o4,zl,hq3,rfl,s3⟩:=hI;exact hu _ _ ⟨zs,o4,zl,hq3,rfl,s3⟩
 rintro _ H2 ⟨ys,o4,hl,hq2,rfl,s2⟩;walk_at "rd";exact k q ys H2 hl hq0 hq2 s2
end
def bo(Ss:List aT)(cols:List (List Int)):List (List (Option Int))→MS→List (List (List Int))
 | [],s=>if cc Ss s.2 s.1 then [[]]else []
 | g::gs,s=>(cols.filter fun c=>dC c g && (aJ Ss s c).isSome).flatMap fun c=>match aJ Ss s c with | some s'=>(bo Ss cols gs s').map (c::·) | none=>[]
theorem p3{α β:Type}{f:α→Int}{h:α→List β}:∀(l:List α),(∀x∈l,f x=((h x).length:Int))→(l.map f).sum=((l.flatMap h).length:Int)
 | [],_=>rfl
 | x::l,e=>by
  rw [ad1,List.sum_cons,ae8,ab3,e x (by simp),p3 l fun y hy=>e y (by simp [hy])];omega
theorem dB(Ss:List aT)(cols:List (List Int)):∀(gs:List (List (Option Int))) (s:MS),cj Ss cols gs s=((bo Ss cols gs s).length:Int)
 | [],s=>by
  unfold cj bo
  split<;>rfl
 | g::gs,s=>by
  unfold cj bo;refine p3 _ fun c hc=>?_
  cases aJ Ss s c with
  | none=>rfl
  | some s'=>
   show cj Ss cols gs s'=_;rw [dB Ss cols gs s',aa0]
def kD(Ss:List aT)(cols:List (List Int))(met:List MS)(g:List (Option Int))(gs:List (List (Option Int)))(e:List Int×Nat):List (List (List Int)):=if dC e.1 g=true then(match met[e.2]? with | some s'=>bo Ss cols gs s' | none=>[]).map (e.1::·)else []
theorem i5{α β:Type}(p:α→Bool)(f:α→List β):∀l:List α,(l.filter p).flatMap f=l.flatMap fun x=>if p x=true then f x else []
 | []=>rfl
 | x::l=>by
  rw [ai3,ae8,←i5 p f l]
  cases p x with
  | true=>rw [if_pos rfl,if_pos rfl,ae8]
  | false=>rw [if_neg (by decide),if_neg (by decide)];rfl
theorem gw{α β:Type}{f h:α→List β}:∀{l:List α},(∀x∈l,f x=h x)→l.flatMap f=l.flatMap h
 | [],_=>rfl
 | x::l,e=>by rw [ae8,ae8,e x (by simp),gw fun y hy=>e y (by simp [hy])]
theorem qU{Ss:List aT}{cols:List (List Int)}{met:List MS}{s:MS}{L:List (List Int×Nat)}{g:List (Option Int)}{gs:List (List (Option Int))}(W:ju Ss cols met s L):bo Ss cols (g::gs) s=L.flatMap (kD Ss cols met g gs):=by
 have e2:(cols.filter fun c=>dC c g && (aJ Ss s c).isSome)=(L.map (·.1)).filter fun c=>dC c g:=by rw [W.ks,al0]
 show(cols.filter fun c=>dC c g && (aJ Ss s c).isSome).flatMap _=_;rw [e2,an0,List.flatMap_map,i5];refine gw fun e he=>?_;obtain⟨s',h1,h2⟩:=W.to e he;unfold kD;show(if dC e.1 g=true then _ else _)=_;rw [h2,h1]
theorem vb{Ss:List aT}{cols:List (List Int)}{met:List MS}{g:List (Option Int)}{gs:List (List (Option Int))}{e:List Int×Nat}{R:List (List (List Int))}{k:Nat}{l:List (List Int)}(h:(kD Ss cols met g gs e++R)[k]?=some l):
  (k < (kD Ss cols met g gs e).length→∃s' l',met[e.2]?=some s'∧l=e.1::l'∧(bo Ss cols gs s')[k]?=some l')∧(¬k < (kD Ss cols met g gs e).length→R[k - (kD Ss cols met g gs e).length]?=some l):=by
 refine⟨fun hk=>?_,fun hk=>?_⟩
 ·rw [ab5 hk]at h
  unfold kD at h
  split at h
  ·rw [aa4]at h
   cases hm:met[e.2]? with
   | none=>rw [hm]at h;cases h
   | some s'=>
    rw [hm]at h
    cases hl:(bo Ss cols gs s')[k]? with
    | none=>rw [show(match some s' with | some s'=>bo Ss cols gs s' | none=>[])=bo Ss cols gs s' from rfl,hl]at h;cases h
    | some l'=>
     rw [show(match some s' with | some s'=>bo Ss cols gs s' | none=>[])=bo Ss cols gs s' from rfl,hl]at h
     exact⟨s',l',rfl,(Option.some.inj h).symm,hl⟩
  ·cases h
 ·rw [ab8 (aj3 hk)]at h
  exact h
theorem xW{Ss:List aT}{cols:List (List Int)}{met:List MS}{g:List (Option Int)}{gs:List (List (Option Int))}{e:List Int×Nat}{s':MS}(h:met[e.2]?=some s'):((kD Ss cols met g gs e).length:Int)=if dC e.1 g=true then cj Ss cols gs s' else 0:=by
 unfold kD
 split
 ·rw [h,aa0,dB]
 ·rfl
theorem aS.add{H:Hp}{q a:Addr}{cols:List (List Int)}{us:List Int}(h:aS H q cols)(ha:H a=some (.tup (us.map V.int))):∃xs:List V,H q=some (.lst xs)∧xs.length=cols.length∧aS (upd H q (.lst (xs++[.ref a]))) q (cols++[us]):=by
 obtain⟨ps,h1,h2⟩:=h;refine⟨ps.map V.ref,h1,by rw [aa0,h2.1],ps++[a],by rw [ag,ab4];rfl,?_⟩;refine(h2.append ⟨rfl,fun i p us' e1 e2=>?_⟩).upd h1
 have hi:i=0:=by
  have:=(aa1.mp e1).1
  simp at this;exact this
 subst hi;cases e1;cases e2;exact ha
theorem tT{α:Type}{l:List α}{i:Nat}{c:α}{r:List α}(h:l.drop i=c::r):l.take (i+1)=l.take i++[c]∧l.drop (i+1)=r:=by
 have hi:l[i]?=some c:=by rw [←List.head?_drop,h];rfl
 refine⟨by rw [ab9,hi];rfl,?_⟩;rw [←List.tail_drop,h];rfl
theorem uu{Ss:List aT}{cols:List (List Int)}{s:MS}{k:Nat}{l:List (List Int)}(h:(bo Ss cols [] s)[k]?=some l):l=[]:=by
 unfold bo at h
 split at h
 ·cases k with
  | zero=>exact(Option.some.inj h).symm
  | succ k=>cases h
 ·cases h
def cg(Ss:List aT)(cols:List (List Int)):List (List (Option Int))→MS→List (List Int)→Int
 | g::gs,s,c::line=>((cols.filter fun d=>HT.lexLt d c && (dC d g && (aJ Ss s d).isSome)).map fun d=>match aJ Ss s d with | some s'=>cj Ss cols gs s' | none=>0).sum+(match (if c∈cols then aJ Ss s c else none)with | some s'=>if dC c g=true then cg Ss cols gs s' line else 0 | none=>0)
 | _,_,_=>0
def gR(P:Program)(w:World)(K:Frag)(C Cs:Addr):Sp:=fun vs H Q _=>∃(x pt pp:Addr) (bs:List (Int×Int)) (Ss:List aT) (met:List MS) (pats:List (List (Option Int))) (s0:MS) (k:Nat) (line:List (List Int)),vs=[.ref x,.ref pt,.ref pp,.int k]∧dq P w K C Cs bs Ss met x H∧i8 Ss bs met∧eJ K H pt pats∧(∀ws∈pats,ws.length=bs.length)∧pats.length≤1000∧
 cK H pp ((List.range (pats.length+1)).map fun(i:Nat)=>cD Ss (aj bs) met (pats.drop i))∧met[0]?=some s0∧(bo Ss (aj bs) pats s0)[k]?=some line∧∀q H',H q=none→aS H' q line→au H H'→Q (.ref q) H'
def vn(C:Addr)(f:Str)(v:Int)(H:Hp)(a d:Addr):Prop:=H a=some (XO C d a)∧H d=some (.xd [(f,.int v)])
def iq(P:Program)(w:World)(K:Frag)(C Cs Ce:Addr):Sp:=fun vs H Q E=>∃(x pt:Addr) (bs:List (Int×Int)) (Ss:List aT) (met:List MS) (pats:List (List (Option Int))) (s0:MS) (k:Int),vs=[.ref x,.ref pt,.int k]∧dq P w K C Cs bs Ss met x H∧i8 Ss bs met∧eJ K H pt pats∧(∀ws∈pats,ws.length=bs.length)∧pats.length≤1000∧met[0]?=some s0∧
 (∀(j:Nat) line,k=j→(bo Ss (aj bs) pats s0)[j]?=some line→∀q H',H q=none→aS H' q line→au H H'→Q (.ref q) H')∧(¬(0≤k∧k < cj Ss (aj bs) pats s0)→∀a d H',vn Ce "number" k H' a d→au H H'→E (.ref a) (some d) H')
def kq(P:Program)(w:World)(K:Frag)(C Cs:Addr):Sp:=fun vs H Q _=>∃(x g ca:Addr) (bs:List (Int×Int)) (Ss:List aT) (met:List MS) (i:Nat) (s:MS) (ws:List (Option Int)) (c:List Int),vs=[.ref x,.int i,.ref g,.ref ca]∧dq P w K C Cs bs Ss met x H∧i8 Ss bs met∧met[i]?=some s∧bf K H g (ws.map yW)∧ws.length=bs.length∧H ca=some (.tup (c.map V.int))∧
 ∀q L H',H q=none→ju Ss (aj bs) met s L→H' q=some (.lst ((L.filter fun e=>HT.lexLt e.1 c && dC e.1 ws).map fun e=>V.int e.2))→au H H'→Q (.ref q) H'
def iU(P:Program)(w:World)(K:Frag)(C Cs:Addr):Sp:=fun vs H Q _=>∃(x pt pp la:Addr) (bs:List (Int×Int)) (Ss:List aT) (met:List MS) (pats:List (List (Option Int))) (s0:MS) (line:List (List Int)),vs=[.ref x,.ref pt,.ref pp,.ref la]∧dq P w K C Cs bs Ss met x H∧i8 Ss bs met∧eJ K H pt pats∧(∀ws∈pats,ws.length=bs.length)∧pats.length≤1000∧
 cK H pp ((List.range (pats.length+1)).map fun(i:Nat)=>cD Ss (aj bs) met (pats.drop i))∧met[0]?=some s0∧aS H la line∧line.length=pats.length∧(∀c∈line,c.length=bs.length)∧∀H',au H H'→Q (.int (cg Ss (aj bs) pats s0 line)) H'
def nV(P:Program)(w:World)(K:Frag)(C Cs:Addr):Sp:=fun vs H Q _=>∃(x pt la:Addr) (bs:List (Int×Int)) (Ss:List aT) (met:List MS) (pats:List (List (Option Int))) (s0:MS) (line:List (List Int)),vs=[.ref x,.ref pt,.ref la]∧dq P w K C Cs bs Ss met x H∧i8 Ss bs met∧eJ K H pt pats∧(∀ws∈pats,ws.length=bs.length)∧pats.length≤1000∧met[0]?=some s0∧aS H la line∧line.length=pats.length∧(∀c∈line,c.length=bs.length)∧∀H',au H H'→Q (.int (cg Ss (aj bs) pats s0 line)) H'
def iY(K:Frag):Sp:=fun vs H Q _=>∃(pt la:Addr) (pats:List (List (Option Int))) (line:List (List Int)),vs=[.ref pt,.ref la]∧eJ K H pt pats∧aS H la line∧line.length=pats.length∧(∀(i:Nat) (c:List Int) (g:List (Option Int)),line[i]?=some c→pats[i]?=some g→dC c g=true∧c.length=g.length∧c.length≤100)∧∀H',au H H'→Q .non H'
section
variable {P:Program} {w:World} {K:Frag} {mg:Str→Option Value} {base:Heap} {aM:Addr}
theorem pB{f C Cs:Addr}{fd:FuncData}(F:cY K "numbered" "numbered" gJ f fd)(T:Txt mg aM)(TC:bM K C)(D_agrees:bN P w K mg base "agrees" 4 ["column","given"] (eh K))(M_ways:bH P w K mg base C "ways" 4 ["self","state"] (kv P w C)):aR P w K mg base cO 5 f fd ["machine","pattern","paper","number"] (gR P w K C Cs):=by
 refine F.ok sc_numbered (fun vs H Q E h=>?_) (fun cdv A outer s H vs Q E hr h=>?_)
 ·obtain⟨x,pt,pp,bs,Ss,met,pats,s0,k,line,rfl,_⟩:=h
  rfl
 obtain⟨x,pt,pp,bs,Ss,met,pats,s0,k,line,rfl,MX,MC,PA,hpl,lp,RA,h0,hk,kQ⟩:=h
 refine⟨_,(ah (ay (i:=4) sc_numbered.nd rfl (Or.inl rfl) (bA af))
 (ah (ay (i:=5) sc_numbered.nd rfl (Or.inl rfl) (eA T.g_START))
 (ah (ay (i:=6) sc_numbered.nd rfl (Or.inl rfl) (pr 3))
 (ah (bu PassesOwn.never rfl (dW rfl T.n_enumerate (aa (pr 1) af)) (bE K (n:=2) rfl (aD (aw (i:=7) sc_numbered.nd rfl (Or.inl rfl)) (aD (aw (i:=8) sc_numbered.nd rfl (Or.inl rfl)) bF)))
 (ak (bu PassesOwn.never rfl (aX K (dh P w K mg base hr (pr 0) (aa (pr 5) af))) (bE K (n:=2) rfl (aD (aw (i:=9) sc_numbered.nd rfl (Or.inl rfl)) (aD (aw (i:=10) sc_numbered.nd rfl (Or.inl rfl)) bF)))
 (ah (ay (i:=11) sc_numbered.nd rfl (Or.inl rfl) (fL (a0 (aE D_agrees hr (by rfl) (aa (pr 9) (aa (pr 8) af))) (fun _=>rfl)) (aV (bC K) (aV (bC K) (pr 2) (aA (dy K) (pr 7) ao) (fun _ _=>rfl)) (pr 10) (fun _ _=>rfl)) ao))
 (ah (bL (cz (aN (o0 wU) (pr 6) (pr 11) (aQ _))) (ah (bG (bO K PySem.F.plainAttrs_list PySem.F.slot_list_append PySem.F.type_list_append bp (pr 4) (aa (pr 9) af)))
 (ah (ay (i:=5) sc_numbered.nd rfl (Or.inl rfl) (pr 10))
 (ak w9))) aY)
 (ak (zw (nA (i:=6) sc_numbered.nd rfl (Or.inl rfl) (pr 11) (o0 yB)))))))))
 (ak (aC (pr 4))))))),?_⟩
 have hs:sizeLine=16777216:=sizeLine_eq;have cl:=bI bs;have cn:=MC.cn;refine aL (fun σ H'=>∃q:Addr,H q=none∧aS H' q []∧σ=[some (.ref x),some (.ref pt),some (.ref pp),some (.int k),some (.ref q),none,none,none,none,none,none,none]∧au H H') ?_ ?_
 ·intro u' hu
  walk_at "rd";exact⟨by omega,fun q hq=>hu _ _ ⟨q,hq,⟨[],ag,rfl,fun i p us e=>nomatch e⟩,rfl,ar hq⟩⟩
 rintro _ H1 ⟨q,hq0,CN1,rfl,s1⟩;refine aL (fun σ H'=>σ=[some (.ref x),some (.ref pt),some (.ref pp),some (.int k),some (.ref q),some (.int (0:Nat)),none,none,none,none,none,none]∧H1=H') ?_ ?_
 ·intro u' hu
  walk_at "rd";exact hu _ _ ⟨rfl,rfl⟩
 rintro _ _ ⟨rfl,rfl⟩;refine aL (fun σ H'=>σ=[some (.ref x),some (.ref pt),some (.ref pp),some (.int k),some (.ref q),some (.int (0:Nat)),some (.int k),none,none,none,none,none]∧H1=H') ?_ ?_
 ·intro u' hu
  walk_at "rd";exact hu _ _ ⟨rfl,rfl⟩
 rintro _ _ ⟨rfl,rfl⟩;refine aL (fun σ H'=>∃o5 o6 o7 o8 o9 o10 o11:Option V,aS H' q line∧σ=[some (.ref x),some (.ref pt),some (.ref pp),some (.int k),some (.ref q),o5,o6,o7,o8,o9,o10,o11]∧au H H') ?_ ?_
 ·intro u' hu
  walk_at "rd";obtain⟨gs,hgs,gl,hg⟩:=PA;obtain⟨qs,hpp,ql,hq⟩:=RA;rw [aa0,aj0]at ql;obtain⟨Pv,hPv⟩:∃Pv:Nat→L2.St→Hp→Prop,Pv=fun i σ H'=>∃(j kk:Nat) (st:MS) (o7 o8 o9 o10 o11:Option V),met[j]?=some st∧(bo Ss (aj bs) (pats.drop i) st)[kk]?=some (line.drop i)∧aS H' q (line.take i)∧σ=[some (.ref x),some (.ref pt),some (.ref pp),some (.int k),some (.ref q),some (.int j),some (.int kk),o7,o8,o9,o10,o11]∧au H H':=⟨_,rfl⟩;refine⟨true,⟨_,s1.seq hgs⟩,dP (l:=true) (us:=gs.map V.ref) Pv (by rw [hPv];exact⟨0,k,s0,none,none,none,none,none,h0,hk,CN1,rfl,s1⟩) (fun i σ H' _ h=>by rw [hPv]at h;obtain⟨_,_,_,_,_,_,_,_,_,_,_,_,h⟩:=h;exact h.seq hgs) ?_ ?_⟩
  ·rintro i y σ H2 p hy hI hp0
   rw [hPv]at hI;obtain⟨j,kk,st,o7,o8,o9,o10,o11,hj,hkk,CN2,rfl,s2⟩:=hI
   obtain⟨g,hgi,rfl⟩:∃g,gs[i]?=some g∧y=.ref g:=by
    rw [aa4]at hy
    cases hc:gs[i]? with
    | none=>rw [hc]at hy;cases hy
    | some c=>rw [hc]at hy;exact⟨c,rfl,(Option.some.inj hy).symm⟩
   have hi:i < pats.length:=by have:=(aa1.mp hgi).1;omega
   obtain⟨ws,hws⟩:∃ws,pats[i]?=some ws:=⟨_,aa2 hi⟩;have hwl:=hpl ws (aa9 hws);have hgt:=hg i g ws hgi hws
   have ed:pats.drop i=ws::pats.drop (i+1):=by
    rw [ae7 hi];rw [aa2 hi]at hws;rw [Option.some.inj hws]
   have s3:au H (upd H2 p (.tup [.int i,.ref g])):=s2.upd hp0;have CN3:=CN2.same (ar hp0 (o:=HO.tup [.int i,.ref g]));walk_at "rd";refine⟨_,bf.of ag,rfl,?_⟩;walk_at "rd";generalize upd H2 p (.tup [.int i,.ref g])=H3 at s3 CN3;obtain⟨dx,la,wa,sc,hx,MB⟩:=(MX.same s3).at_;refine⟨C,dx,_,hx,by unfold aU;walk_at "flds",_,_,M_ways,x,Ss,aj bs,met,j,st,rfl,(MX.same s3).at_,hj,fun yw L H4 hyw0 hW4 W s4=>?_⟩
   have hLl:L.length≤1000:=by
    have h2:=congrArg List.length W.ks;have h3:=ae9 (fun c=>(aJ Ss st c).isSome) (aj bs);rw [aa0]at h2;omega
   rw [ed,qU W]at hkk;obtain⟨ts,hts,tl,ht⟩:=hW4;have s34:=s3.trans s4;obtain⟨Pw,hPw⟩:∃Pw:Nat→L2.St→Hp→Prop,Pw=fun m σ H'=>∃(kk:Nat) (o9 o10 o11:Option V),((L.drop m).flatMap (kD Ss (aj bs) met ws (pats.drop (i+1))))[kk]?=some (line.drop i)∧σ=[some (.ref x),some (.ref pt),some (.ref pp),some (.int k),some (.ref q),some (.int j),some (.int kk),some (.int i),some (.ref g),o9,o10,o11]∧au H4 H':=⟨_,rfl⟩;refine ba (aI.of hts) (bK (xs:=ts.map V.ref) Pw (by rw [hPw];exact⟨kk,o9,o10,o11,hkk,rfl,au.refl _⟩) (fun m σ H' _ h=>by rw [hPw]at h;obtain⟨_,_,_,_,_,_,h⟩:=h;exact aI.of (h _ _ hts)) ?_ ?_)
   ·rintro m y σ H5 hy hI
    rw [hPw]at hI;obtain⟨kk,o9,o10,o11,hkk,rfl,s5⟩:=hI;rw [aa4]at hy
    cases htm:ts[m]? with
    | none=>rw [htm]at hy;cases hy
    | some tt=>
     rw [htm]at hy;cases hy
     have hm:m < L.length:=by rw [←tl];exact(aa1.mp htm).1
     obtain⟨e,he⟩:∃e,L[m]?=some e:=⟨_,aa2 hm⟩;obtain⟨a,g1,g2⟩:=ht m tt e htm he;obtain⟨s',n1,n2⟩:=W.to e (aa9 he)
     have ew:e.1.length=bs.length:=by
      have hc:e.1∈(aj bs).filter fun c=>(aJ Ss st c).isSome:=by rw [←W.ks];exact ac3.mpr ⟨e,aa9 he,rfl⟩
      exact cG bs _ (af4.mp hc).1
     have lb:=MC.lb
     have edL:L.drop m=e::L.drop (m+1):=by
      rw [ae7 hm];rw [aa2 hm]at he;rw [Option.some.inj he]
     rw [edL,ae8]at hkk;obtain⟨st1,st2⟩:=vb hkk;have wl:=xW (Ss:=Ss) (cols:=aj bs) (g:=ws) (gs:=pats.drop (i+1)) n2;generalize(kD Ss (aj bs) met ws (pats.drop (i+1)) e).length=many at st1 st2 wl;have s45:=s34.trans s5;obtain⟨lt,hlt'⟩:∃lt,qs[i+1]?=some lt:=⟨_,aa2 (by omega)⟩;have hrow:=hq (i+1) lt (cD Ss (aj bs) met (pats.drop (i+1))) hlt' (by rw [aa4,ae4 (by omega)];rfl)
     have hat:(cD Ss (aj bs) met (pats.drop (i+1)))[e.2]?=some (cj Ss (aj bs) (pats.drop (i+1)) s'):=by
      unfold cD;rw [aa4,n2];rfl
     walk_at "rd";refine⟨_,bf.of (s5 _ _ g1),rfl,_,_,rfl,_,_,rfl,rfl,a,g,e.1,ws,rfl,bf.of (s5 _ _ g2),s45.tup hgt,by rw [ew,hwl],by omega,fun H6 s6=>⟨_,TruV_b.mpr rfl,?_⟩⟩;have s46:=s45.trans s6
     by_cases hag:dC e.1 ws=true
     ·rw [if_pos hag]at wl ⊢
      rw [show((i:Int)+1)=((i+1:Nat):Int)by omega];refine bT (aI.of (s46 _ _ hpp)) (aK (by rw [aa4,hlt'];rfl)) (bT (aI.of (s46 _ _ hrow)) (aK (by rw [aa4,hat];rfl)) ⟨_,rfl,?_⟩);rw [←wl]
      by_cases hlt:(kk:Int) < (many:Int)
      ·rw [if_pos hlt]
       obtain⟨s2',l',m1,l1,l2⟩:=st1 (by omega);cases n2.symm.trans m1;obtain⟨xs,c1,c2,c3⟩:=(CN3.same ((s4.trans s5).trans s6)).add ((s5.trans s6) _ _ g2)
       have c2':xs.length≤i:=by rw [c2,ac6];omega
       refine⟨.inl ⟨rfl,_,aI.of c1⟩,q,xs,_,rfl,rfl,c1,by omega,?_⟩;show Pv (i+1) _ _;obtain⟨d1,d2⟩:=tT l1;rw [hPv];exact⟨e.2,kk,s',_,_,_,_,_,n2,by rw [d2];exact l2,by rw [d1];exact c3,rfl,xV hq0 s46⟩
      ·rw [if_neg hlt]
       refine⟨_,rfl,?_⟩;rw [hPw];exact⟨kk - many,_,_,_,st2 (by omega),by rw [show(kk:Int) - (many:Int)=((kk - many:Nat):Int)by omega],s5.trans s6⟩
     ·rw [if_neg hag]at wl ⊢
      obtain rfl:many=0:=by omega
      rw [if_neg (by omega),hPw];exact⟨kk - 0,_,_,_,st2 (by omega),by rw [Int.sub_zero,Nat.sub_zero],s5.trans s6⟩
   ·rintro σ H5 hI
    rw [hPw]at hI;obtain⟨kk,o9,o10,o11,hkk,rfl,s5⟩:=hI;rw [aa0,tl,ag5]at hkk;cases hkk
  ·rintro σ H2 hI
   rw [hPv]at hI;obtain⟨j,kk,st,o7,o8,o9,o10,o11,hj,hkk,CN2,rfl,s2⟩:=hI;rw [aa0,gl]at hkk CN2;rw [ag5]at hkk;have hn:=uu hkk
   have:line.take pats.length=line:=ae6 (ah6.mp hn)
   rw [this]at CN2;exact hu _ _ ⟨_,_,_,_,_,_,_,CN2,rfl,s2⟩
 rintro _ H2 ⟨o5,o6,o7,o8,o9,o10,o11,CN2,rfl,s2⟩;walk_at "rd";exact kQ q H2 hq0 CN2 s2
end
theorem gA:typeLookup (.type "ValueError") "number"=pure none:=by rw [typeLookup_type,builtinLookup_eq_fast];kernel_rfl
abbrev DQ:List Str:=["__setattr__","__getattribute__","__getattr__","__class__","number"]
theorem qS{Ss:List aT}{cols:List (List Int)}{met:List MS}{s:MS}{L:List (List Int×Nat)}{g:List (Option Int)}{gs:List (List (Option Int))}{c:List Int}(W:ju Ss cols met s L):
  ((L.filter fun e=>HT.lexLt e.1 c && dC e.1 g).map fun e=>(cD Ss cols met gs).getD e.2 0).sum=((cols.filter fun d=>HT.lexLt d c && (dC d g && (aJ Ss s d).isSome)).map fun d=>match aJ Ss s d with | some s'=>cj Ss cols gs s' | none=>0).sum:=by
 have e1:((L.filter fun e=>HT.lexLt e.1 c && dC e.1 g).map fun e=>(cD Ss cols met gs).getD e.2 0)=((L.filter fun e=>HT.lexLt e.1 c && dC e.1 g).map Prod.fst).map fun d=>match aJ Ss s d with | some s'=>cj Ss cols gs s' | none=>0:=by
  rw [ai1];refine ai4 fun e he=>?_;obtain⟨s',h1,h2⟩:=W.to e (af4.mp he).1
  show(cD Ss cols met gs).getD e.2 0=match aJ Ss s e.1 with | some s'=>cj Ss cols gs s' | none=>0
  rw [h1];unfold cD;rw [ac8,aa4,h2];rfl
 have e2:(L.filter fun e=>HT.lexLt e.1 c && dC e.1 g).map Prod.fst=cols.filter fun d=>HT.lexLt d c && (dC d g && (aJ Ss s d).isSome):=by
  have:(L.map Prod.fst).filter (fun d=>HT.lexLt d c && dC d g)=(L.filter fun e=>HT.lexLt e.1 c && dC e.1 g).map Prod.fst:=by rw [an0];rfl
  rw [←this,W.ks,al0];refine al8 fun d _=>?_;rw [Bool.and_assoc]
 rw [e1,e2]
section
variable {P:Program} {w:World} {K:Frag} {mg:Str→Option Value} {base:Heap} {aM:Addr}
theorem uH{f C Cs:Addr}{fd:FuncData}(F:cY K "lesser_ways" "lesser_ways" eF f fd)(T:Txt mg aM)(TC:bM K C)(D_agrees:bN P w K mg base "agrees" 3 ["column","given"] (eh K))(M_ways:bH P w K mg base C "ways" 3 ["self","state"] (kv P w C)):aR P w K mg base cO 4 f fd ["machine","state","given","column"] (kq P w K C Cs):=by
 refine F.ok km (fun vs H Q E h=>?_) (fun cdv A outer s H vs Q E hr h=>?_)
 ·obtain⟨x,g,ca,bs,Ss,met,i,st,ws,c,rfl,_⟩:=h
  rfl
 obtain⟨x,g,ca,bs,Ss,met,i,st,ws,c,rfl,MX,MC,hst,hg,hwl,hc,kQ⟩:=h;refine⟨_,(ak (aC (bP (own:=["lesser","target"]) (js:=[2,3]) rfl (aX K (dh P w K mg base hr (pr 0) (aa (pr 1) af))) (aW.of (by rfl)) (fun _ _ _ _ _=>(bE K (n:=2) rfl (aD (aw (i:=0) (show List.Nodup (["lesser","target","given","column"]:List Str)from by decide +kernel) rfl (Or.inl rfl)) (aD (aw (i:=1) (show List.Nodup (["lesser","target","given","column"]:List Str)from by decide +kernel) rfl (Or.inl rfl)) bF)))) (fun _ _ _ _ _=>nB (PW.pt (nE (cz (aN (CP K hr) (pr 0) (pr 3) (aQ _))) (nF (lX K (aE D_agrees hr (by rfl) (aa (pr 0) (aa (pr 2) af))) (fun _=>rfl)))))) (fun _ _ _ _ _=>(pr 1))))),?_⟩;have hs:sizeLine=16777216:=sizeLine_eq;have cl:=bI bs;have cn:=MC.cn;have lb:=MC.lb;walk_at "rd";obtain⟨dx,la,wa,sc,hx,MB⟩:=MX.at_;refine⟨C,dx,_,hx,by unfold aU;walk_at "flds",_,_,M_ways,x,Ss,aj bs,met,i,st,rfl,MX.at_,hst,fun yw L H4 hyw0 hW4 W s4=>?_⟩
 have hLl:L.length≤1000:=by
  have h2:=congrArg List.length W.ks;have h3:=ae9 (fun c=>(aJ Ss st c).isSome) (aj bs);rw [aa0]at h2;omega
 obtain⟨ts,hts,tl,ht⟩:=hW4;refine ba (aI.of hts) (bt (xs:=ts.map V.ref) (fun m ys H'=>ys=((L.take m).filter fun e=>HT.lexLt e.1 c && dC e.1 ws).map (fun e=>V.int e.2)∧au H4 H') (by rw [aa0];omega) ⟨rfl,au.refl _⟩ ?_ ?_ ?_ ?_)
 ·rintro m ys H' ⟨rfl,_⟩
  rw [aa0];exact ac0 (ae9 _ _) (by rw [ac6];omega)
 ·rintro m ys H' ⟨rfl,sm⟩
  exact aI.of (sm _ _ hts)
 ·rintro m v ys H5 hv ⟨rfl,s5⟩
  rw [aa4]at hv
  cases htm:ts[m]? with
  | none=>rw [htm]at hv;cases hv
  | some tt=>
   rw [htm]at hv;cases hv;obtain⟨e,he⟩:∃e,L[m]?=some e:=⟨_,aa2 (by rw [←tl];exact(aa1.mp htm).1)⟩;obtain⟨a,g1,g2⟩:=ht m tt e htm he
   have ew:e.1.length=bs.length:=by
    have hc:e.1∈(aj bs).filter fun c=>(aJ Ss st c).isSome:=by rw [←W.ks];exact ac3.mpr ⟨e,aa9 he,rfl⟩
    exact cG bs _ (af4.mp hc).1
   have et:L.take (m+1)=L.take m++[e]:=by rw [ab9,he];rfl
   have s45:=s4.trans s5;rw [et,ai7,ab4];simp only [cy];walk_at "rd";refine⟨_,bf.of (s5 _ _ g1),rfl,_,_,rfl,_,_,rfl,rfl,?_⟩;refine⟨a,ca,e.1,c,rfl,rfl,bf.of (s5 _ _ g2),bf.of (s45 _ _ hc),_,rfl,?_⟩
   cases hlx:HT.lexLt e.1 c with
   | true=>
    rw [if_pos rfl];refine⟨a,g,e.1,ws,rfl,bf.of (s5 _ _ g2),s45.tup hg,by rw [ew,hwl],by omega,fun H6 s6=>⟨_,TruV_b.mpr rfl,?_⟩⟩
    cases hag:dC e.1 ws with
    | true=>
     rw [if_pos rfl];exact⟨by simp [hlx,hag],s5.trans s6⟩
    | false=>
     rw [if_neg (by decide)];exact⟨by simp [hlx,hag],s5.trans s6⟩
   | false=>
    rw [if_neg (by decide)];exact⟨by simp [hlx],s5⟩
 ·rintro ys H5 ⟨rfl,s5⟩ p hp
  rw [aa0,tl,ac9];exact kQ p L _ (s4.free (s5.free hp)) W ag ((s4.trans s5).upd hp)
theorem pA{f C Cs:Addr}{fd:FuncData}(F:cY K "ahead_by" "ahead_by" gG f fd)(T:Txt mg aM)(TC:bM K C)(D_lesser_ways:bN P w K mg base "lesser_ways" 4 ["machine","state","given","column"] (kq P w K C Cs))(D_agrees:bN P w K mg base "agrees" 4 ["column","given"] (eh K))(M_to:bH P w K mg base C "to" 4 ["self","state","column"] (BC P w C)):aR P w K mg base cO 5 f fd ["machine","pattern","paper","line"] (iU P w K C Cs):=by
 refine F.ok sc_ahead_by (fun vs H Q E h=>?_) (fun cdv A outer s H vs Q E hr h=>?_)
 ·obtain⟨x,pt,pp,la,bs,Ss,met,pats,s0,line,rfl,_⟩:=h
  rfl
 obtain⟨x,pt,pp,la,bs,Ss,met,pats,s0,line,rfl,MX,MC,PA,hpl,lp,RA,h0,CN,hll,hlw,kQ⟩:=h
 refine⟨_,(ah (ay (i:=4) sc_ahead_by.nd rfl (Or.inl rfl) ao)
 (ah (ay (i:=5) sc_ahead_by.nd rfl (Or.inl rfl) (eA T.g_START))
 (ah (bu PassesOwn.never rfl (dW rfl T.n_enumerate (aa (pr 3) af)) (bE K (n:=2) rfl (aD (aw (i:=6) sc_ahead_by.nd rfl (Or.inl rfl)) (aD (aw (i:=7) sc_ahead_by.nd rfl (Or.inl rfl)) bF)))
 (ah (ay (i:=8) sc_ahead_by.nd rfl (Or.inr rfl) (aV (bC K) (pr 2) (aA (dy K) (pr 6) ao) (fun _ _=>rfl)))
 (ah (zw (nA (i:=4) sc_ahead_by.nd rfl (Or.inl rfl) (ax (lE rfl K) (by rfl) T.n_sum boot_sum (aa (bP (own:=["target"]) (js:=[8]) rfl (aX K (aE D_lesser_ways hr (by rfl) (aa (pr 0) (aa (pr 5) (aa (aV (bC K) (pr 1) (pr 6) (fun _ _=>rfl)) (aa (pr 7) af)))))) (aW.of (by rfl)) (fun _ _ _ _ _=>(aw (i:=0) (show List.Nodup (["target","later"]:List Str)from by decide +kernel) rfl (Or.inl rfl))) (fun _ _ _ _ _=>bS) (fun _ _ _ _ _=>(aV (bC K) (pr 1) (pr 0) (fun _ _=>rfl)))) af)) (o0 yA)))
 (ah (ay (i:=5) sc_ahead_by.nd rfl (Or.inl rfl) (dh P w K mg base hr (pr 0) (aa (pr 5) (aa (pr 7) af))))
 (ak (bL (PW.pt (fg (cz (aN j5 (pr 5) bR (aQ _))) (eZ (cL (a0 (aE D_agrees hr (by rfl) (aa (pr 7) (aa (aV (bC K) (pr 1) (pr 6) (fun _ _=>rfl)) af))) (fun _=>rfl)))))) (ak (aC (pr 4))) aY))))))
 (ak (aC (pr 4)))))),?_⟩
 have hs:sizeLine=16777216:=sizeLine_eq;have cl:=bI bs;have cn:=MC.cn;have lb:=MC.lb;refine aL (fun σ H'=>σ=[some (.ref x),some (.ref pt),some (.ref pp),some (.ref la),some (.int 0),none,none,none,none]∧H=H') ?_ ?_
 ·intro u' hu
  walk_at "rd";exact hu _ _ ⟨rfl,rfl⟩
 rintro _ _ ⟨rfl,rfl⟩;refine aL (fun σ H'=>σ=[some (.ref x),some (.ref pt),some (.ref pp),some (.ref la),some (.int 0),some (.int (0:Nat)),none,none,none]∧H=H') ?_ ?_
 ·intro u' hu
  walk_at "rd";exact hu _ _ ⟨rfl,rfl⟩
 rintro _ _ ⟨rfl,rfl⟩;refine aL (fun σ H'=>∃o5 o6 o7 o8:Option V,σ=[some (.ref x),some (.ref pt),some (.ref pp),some (.ref la),some (.int (cg Ss (aj bs) pats s0 line)),o5,o6,o7,o8]∧au H H') ?_ ?_
 ·intro u' hu
  walk_at "rd";obtain⟨gs,hgs,gl,hg⟩:=PA;obtain⟨ls,hls,ll,hlt⟩:=CN;obtain⟨qs,hpp,ql,hq⟩:=RA;rw [aa0,aj0]at ql;obtain⟨Pv,hPv⟩:∃Pv:Nat→L2.St→Hp→Prop,Pv=fun i σ H'=>∃(t:Int) (j:Nat) (st:MS) (o6 o7 o8:Option V),met[j]?=some st∧t+cg Ss (aj bs) (pats.drop i) st (line.drop i)=cg Ss (aj bs) pats s0 line∧σ=[some (.ref x),some (.ref pt),some (.ref pp),some (.ref la),some (.int t),some (.int j),o6,o7,o8]∧au H H':=⟨_,rfl⟩;refine⟨true,⟨_,aI.of hls⟩,dP (l:=true) (us:=ls.map V.ref) Pv (by rw [hPv];exact⟨0,0,s0,none,none,none,h0,Int.zero_add _,rfl,au.refl _⟩) (fun i σ H' _ h=>by rw [hPv]at h;obtain⟨_,_,_,_,_,_,_,_,_,h⟩:=h;exact aI.of (h _ _ hls)) ?_ ?_⟩
  ·rintro i y σ H2 p hy hI hp0
   rw [hPv]at hI;obtain⟨t,j,st,o6,o7,o8,hj,ht,rfl,s2⟩:=hI
   obtain⟨ca,hci,rfl⟩:∃g,ls[i]?=some g∧y=.ref g:=by
    rw [aa4]at hy
    cases hc:ls[i]? with
    | none=>rw [hc]at hy;cases hy
    | some c=>rw [hc]at hy;exact⟨c,rfl,(Option.some.inj hy).symm⟩
   have hi:i < line.length:=by have:=(aa1.mp hci).1;omega
   obtain⟨c,hc⟩:∃c,line[i]?=some c:=⟨_,aa2 hi⟩;obtain⟨ws,hws⟩:∃ws,pats[i]?=some ws:=⟨_,aa2 (by omega)⟩;obtain⟨g,hgi⟩:∃g,gs[i]?=some g:=⟨_,aa2 (by omega)⟩;obtain⟨lt,hlt'⟩:∃lt,qs[i+1]?=some lt:=⟨_,aa2 (by omega)⟩;have hwl:=hpl ws (aa9 hws);have hcl:=hlw c (aa9 hc);have hgt:=hg i g ws hgi hws;have hct:=hlt i ca c hci hc;have hrow:=hq (i+1) lt (cD Ss (aj bs) met (pats.drop (i+1))) hlt' (by rw [aa4,ae4 (by omega)];rfl)
   have ed:pats.drop i=ws::pats.drop (i+1):=by
    rw [ae7 (by omega)];rw [aa2 (by omega)]at hws;rw [Option.some.inj hws]
   have el:line.drop i=c::line.drop (i+1):=by
    rw [ae7 hi];rw [aa2 hi]at hc;rw [Option.some.inj hc]
   rw [ed,el]at ht
   have ht:t+(((aj bs).filter fun d=>HT.lexLt d c && (dC d ws && (aJ Ss st d).isSome)).map fun d=>match aJ Ss st d with | some s'=>cj Ss (aj bs) (pats.drop (i+1)) s' | none=>0).sum+(match (if c∈aj bs then aJ Ss st c else none)with | some s'=>if dC c ws=true then cg Ss (aj bs) (pats.drop (i+1)) s' (line.drop (i+1))else 0 | none=>0)=cg Ss (aj bs) pats s0 line:=by
    rw [Int.add_assoc];exact ht
   have s3:au H (upd H2 p (.tup [.int i,.ref ca])):=s2.upd hp0;walk_at "rd";refine⟨_,bf.of ag,rfl,?_⟩;walk_at "rd";generalize upd H2 p (.tup [.int i,.ref ca])=H3 at s3;rw [show((i:Int)+1)=((i+1:Nat):Int)by omega];refine bT (aI.of (s3 _ _ hpp)) (aK (by rw [aa4,hlt'];rfl)) (bT (s3.seq hgs) (aK (by rw [aa4,hgi];rfl)) ⟨x,g,ca,bs,Ss,met,j,st,ws,c,rfl,MX.same s3,MC,hj,s3.tup hgt,hwl,s3 _ _ hct,fun lq L H4 hlq0 W hlq s4=>?_⟩);have hsum:=qS (g:=ws) (gs:=pats.drop (i+1)) (c:=c) W;have s34:=s3.trans s4
   have hto:∀e∈L.filter (fun e=>HT.lexLt e.1 c && dC e.1 ws),e.2 < met.length:=fun e he=>by
    obtain⟨s',_,h2⟩:=W.to e (af4.mp he).1;exact(aa1.mp h2).1
   have hLl:(L.filter fun e=>HT.lexLt e.1 c && dC e.1 ws).length≤1000:=by
    have h1:=ae9 (fun e:List Int×Nat=>HT.lexLt e.1 c && dC e.1 ws) L;have h2:=congrArg List.length W.ks;have h3:=ae9 (fun c=>(aJ Ss st c).isSome) (aj bs);rw [aa0]at h2;omega
   rw [←hsum]at ht;clear hsum;generalize(L.filter fun e=>HT.lexLt e.1 c && dC e.1 ws)=F at hlq hto hLl ht
   have hrl:(cD Ss (aj bs) met (pats.drop (i+1))).length=met.length:=by unfold cD;rw [aa0]
   generalize cD Ss (aj bs) met (pats.drop (i+1))=rs at hrow hrl ht;refine ba (aI.of hlq) (bt (xs:=F.map fun e=>V.int e.2) (fun m ys H'=>ys=((F.take m).map fun e=>rs.getD e.2 0).map V.int∧H4=H') (by rw [aa0];omega) ⟨rfl,rfl⟩ ?_ ?_ ?_ ?_)
   ·rintro m ys H' ⟨rfl,_⟩
    rw [aa0,aa0,ac6];omega
   ·rintro m ys H' ⟨rfl,rfl⟩
    exact aI.of hlq
   ·rintro m v ys H5 hv ⟨rfl,rfl⟩
    rw [aa4]at hv
    cases he:F[m]? with
    | none=>rw [he]at hv;cases hv
    | some e=>
     rw [he]at hv;cases hv
     have hlt2:e.2 < rs.length:=by rw [hrl];exact hto e (aa9 he)
     have er:rs[e.2]?=some rs[e.2]:=aa2 hlt2;simp only [cy];walk_at "rd";refine bT (aI.of (s34 _ _ hrow)) (aK (by rw [aa4,er];rfl)) ⟨?_,rfl⟩;rw [ab9,he,ab4,ab4];simp [er]
   ·rintro ys H5 ⟨rfl,rfl⟩ q hq0
    rw [aa0,ac9];have s5:=s34.upd hq0 (o:=HO.lst ((F.map fun e=>rs.getD e.2 0).map V.int));refine⟨_,aI.of ag,?_⟩;generalize(F.map fun e=>rs.getD e.2 0).sum=S at ht;generalize upd H4 q (HO.lst ((F.map fun e=>rs.getD e.2 0).map V.int))=H6 at s5;obtain⟨dx,la',wa,sc,hx,MB⟩:=(MX.same s5).at_;refine⟨C,dx,_,hx,by unfold aU;walk_at "flds",_,_,M_to,x,ca,Ss,aj bs,met,j,c,st,rfl,(MX.same s5).at_,hj,s5 _ _ hct,fun j' s' hcc hn hm=>?_,fun hno=>?_⟩
    ·rw [if_pos hcc,hn]at ht
     rw [if_neg (fun e=>by cases e)];refine bT (s5.seq hgs) (aK (by rw [aa4,hgi];rfl)) ⟨ca,g,c,ws,rfl,bf.of (s5 _ _ hct),s5.tup hgt,by rw [hcl,hwl],by omega,fun H7 s7=>⟨_,TruV_b.mpr rfl,?_⟩⟩
     cases hag:dC c ws with
     | true=>
      rw [if_neg (by decide),hPv];rw [hag]at ht;exact⟨t+S,j',s',_,_,_,hm,ht,rfl,s5.trans s7⟩
     | false=>
      rw [if_pos rfl];rw [hag]at ht;have ht:t+S+0=cg Ss (aj bs) pats s0 line:=ht;rw [Int.add_zero]at ht;rw [ht];exact kQ _ (s5.trans s7)
    ·show(if V.non=V.non then _ else _)
     rw [if_pos rfl]
     have hnn:(if c∈aj bs then aJ Ss st c else none)=none:=by
      split
      ·rename_i hcc
       exact hno hcc
      ·rfl
     rw [hnn]at ht;have ht:t+S+0=cg Ss (aj bs) pats s0 line:=ht;rw [Int.add_zero]at ht;rw [ht];exact kQ _ s5
  ·rintro σ H2 hI
   rw [hPv]at hI;obtain⟨t,j,st,o6,o7,o8,hj,ht,rfl,s2⟩:=hI;rw [aa0,ll,ag5,hll,ag5]at ht;have ht:t+0=cg Ss (aj bs) pats s0 line:=ht;rw [Int.add_zero]at ht;rw [ht];exact hu _ _ ⟨_,_,_,_,rfl,s2⟩
 rintro _ H1 ⟨o5,o6,o7,o8,rfl,s1⟩;walk_at "rd";exact kQ _ s1
theorem wJ{f C Cs:Addr}{fd:FuncData}(F:cY K "ahead" "ahead" nO f fd)(T:Txt mg aM)(D_counts_paper:bN P w K mg base "counts_paper" 5 ["machine","pattern"] (jn P w K C Cs))(D_ahead_by:bN P w K mg base "ahead_by" 5 ["machine","pattern","paper","line"] (iU P w K C Cs)):aR P w K mg base cO 6 f fd ["machine","pattern","line"] (nV P w K C Cs):=by
 refine F.ok xw (fun vs H Q E h=>?_) (fun cdv A outer s H vs Q E hr h=>?_)
 ·obtain⟨x,pt,la,bs,Ss,met,pats,s0,line,rfl,_⟩:=h
  rfl
 obtain⟨x,pt,la,bs,Ss,met,pats,s0,line,rfl,MX,MC,PA,hpl,lp,h0,CN,hll,hlw,kQ⟩:=h;refine⟨_,(ak (aC (aE D_ahead_by hr (by rfl) (aa (pr 0) (aa (pr 1) (aa (aE D_counts_paper hr (by rfl) (aa (pr 0) (aa (pr 1) af))) (aa (pr 2) af))))))),?_⟩;walk_at "rd";exact⟨x,pt,bs,Ss,met,pats,rfl,MX,MC,PA,hpl,lp,fun p H' hp0 R s1=>⟨x,pt,p,la,bs,Ss,met,pats,s0,line,rfl,MX.same s1,MC,PA.same s1,hpl,lp,R,h0,CN.same s1,hll,hlw,fun H2 s2=>kQ _ (s1.trans s2)⟩⟩
theorem rf{f C Cs Ce:Addr}{fd:FuncData}(F:cY K "line_at" "line_at" iQ f fd)(T:Txt mg aM)(DE_NoNumber:qj P w K mg base "NoNumber" Ce 4 ["self","number"] (zQ Ce "number") DQ)(D_counts_paper:bN P w K mg base "counts_paper" 5 ["machine","pattern"] (jn P w K C Cs))(D_numbered:bN P w K mg base "numbered" 5 ["machine","pattern","paper","number"] (gR P w K C Cs)):aR P w K mg base (rW P w) 6 f fd ["machine","pattern","number"] (iq P w K C Cs Ce):=by
 refine F.okX sc_line_at (fun vs H Q E h=>?_) (fun cdv A outer s H vs Q E hr h=>?_)
 ·obtain⟨x,pt,bs,Ss,met,pats,s0,k,rfl,_⟩:=h
  rfl
 obtain⟨x,pt,bs,Ss,met,pats,s0,k,rfl,MX,MC,PA,hpl,lp,h0,k1,k2⟩:=h
 refine⟨_,(ah (ay (i:=3) sc_line_at.nd rfl (Or.inl rfl) (aE D_counts_paper hr (by rfl) (aa (pr 0) (aa (pr 1) af))))
 (ah (bL (cL (cz (pI (o0 sE) (o0 wU) ao (pr 2) (aV (bC K) (aV (bC K) (pr 3) ao (fun _ _=>rfl)) (eA T.g_START) (fun _ _=>rfl))))) (ak (uR DE_NoNumber rfl hr (by rfl) (fun _ _=>wy) (aa (pr 2) af))) aY)
 (ak (aC (aE D_numbered hr (by rfl) (aa (pr 0) (aa (pr 1) (aa (pr 3) (aa (pr 2) af))))))))),?_⟩
 refine aL (fun σ H'=>∃pp:Addr,cK H' pp ((List.range (pats.length+1)).map fun(i:Nat)=>cD Ss (aj bs) met (pats.drop i))∧σ=[some (.ref x),some (.ref pt),some (.int k),some (.ref pp)]∧au H H') ?_ ?_
 ·intro u' hu
  walk_at "rd";exact⟨x,pt,bs,Ss,met,pats,rfl,MX,MC,PA,hpl,lp,fun p H' hp0 R s1=>hu _ _ ⟨p,R,rfl,s1⟩⟩
 rintro _ H1 ⟨pp,R,rfl,s1⟩;obtain⟨qs,hp,ql,hq⟩:=id R;obtain⟨q0,hq0⟩:∃q,qs[0]?=some q:=⟨_,aa2 (by rw [ql];simp)⟩;have hr0:=hq 0 q0 (cD Ss (aj bs) met pats) hq0 (by simp)
 have row0:(cD Ss (aj bs) met pats)[0]?=some (cj Ss (aj bs) pats s0):=by
  unfold cD;rw [aa4,h0];rfl
 refine mL fun A0 B0 hA hB=>?_
 have bad:¬(0≤k∧k < cj Ss (aj bs) pats s0)→A0 H1:=fun hb=>hA _ (by
  simp only [fY,rO];walk_at "rd";refine⟨by rw [sizeLine_eq];decide,fun a ha=>⟨a,.int k,rfl,ag,fun d hd hda=>⟨rfl,d,by rw [ai (Ne.symm hda)];exact ag,_,ag,?_⟩⟩⟩
  have had:H1 d=none:=by
   rw [ai hda]at hd;exact hd
  refine k2 hb a d _ ⟨ag,by rw [ai hda,ag]⟩ fun c o hc=>?_;have ca:c≠a:=aq (s1 _ _ hc) ha;have cd:c≠d:=aq (s1 _ _ hc) had;rw [ai ca,ai cd,ai ca,ai ca]
  exact s1 _ _ hc)
 walk_at "rd"
 by_cases h1:0≤k
 ·rw [if_pos h1]
  refine bT (aI.of hp) (show iC _ ((0:Nat):Int)=_ from aK (by rw [aa4,hq0];rfl)) (bT (aI.of hr0) (show iC _ ((0:Nat):Int)=_ from aK (by rw [aa4,row0];rfl)) ⟨_,rfl,?_⟩)
  by_cases h2:k < cj Ss (aj bs) pats s0
  ·rw [if_pos h2]
   refine hB _ ?_;walk_at "rd";obtain⟨j,rfl⟩:∃j:Nat,k=j:=⟨k.toNat,by omega⟩
   have hj:j < (bo Ss (aj bs) pats s0).length:=by
    rw [dB]at h2;omega
   have hl:(bo Ss (aj bs) pats s0)[j]?=some (bo Ss (aj bs) pats s0)[j]:=aa2 hj;exact⟨x,pt,pp,bs,Ss,met,pats,s0,j,_,rfl,MX.same s1,MC,PA.same s1,hpl,lp,R,h0,hl,fun q H' hq CN s2=>k1 j _ rfl hl q H' (s1.free hq) CN (s1.trans s2)⟩
  ·rw [if_neg h2]
   exact bad fun h=>h2 h.2
 ·rw [if_neg h1]
  exact bad fun h=>h1 h.1
theorem pw{f C:Addr}{fd:FuncData}(F:cY K "__init__" "NoNumber.__init__" cq f fd)(TX:qm K C f DQ):aR P w K mg base cO 1 f fd ["self","number"] (zQ C "number"):=by
 refine F.ok fT (fun vs H Q E h=>?_) (fun cdv A outer s H vs Q E hr h=>?_)
 ·obtain⟨a,v,rfl,_⟩:=h
  rfl
 obtain⟨a,v,rfl,ha,k⟩:=h;refine⟨_,(ak (zu TX (by decide +kernel) (by decide +kernel) gA (pr 0) (pr 1) rfl)),?_⟩;walk_at "rd";simp only [Av];walk_at "rd";exact⟨ha,fun d hd hda=>k d hd hda⟩
theorem rh{f:Addr}{fd:FuncData}(F:cY K "unlike_place" "unlike_place" dZ f fd)(T:Txt mg aM)(D_agrees:bN P w K mg base "agrees" 1 ["column","given"] (eh K)):aR P w K mg base cO 2 f fd ["pattern","line"] (iY K):=by
 refine F.ok sc_unlike_place (fun vs H Q E h=>?_) (fun cdv A outer s H vs Q E hr h=>?_)
 ·obtain⟨pt,la,pats,line,rfl,_⟩:=h
  rfl
 obtain⟨pt,la,pats,line,rfl,⟨gs,hgs,gl,hg⟩,⟨ls,hls,ll,hlt⟩,hll,hag,kQ⟩:=h
 refine⟨_,(ah (bu PassesOwn.never rfl (w5 rfl T.n_enumerate rfl T.n_zip (aa (pr 1) (aa (pr 0) af))) (bE K (n:=2) rfl (aD (aw (i:=2) sc_unlike_place.nd rfl (Or.inl rfl)) (aD (aw (i:=3) sc_unlike_place.nd rfl (Or.inl rfl)) bF)))
 (ak (bL (cL (a0 (aE D_agrees hr (by rfl) (aa (aV (bC K) (pr 3) ao (fun _ _=>rfl)) (aa (aV (bC K) (pr 3) ao (fun _ _=>rfl)) af))) (fun _=>rfl))) (ak (aC (pr 2))) aY)))
 (ak (aC (fL (cz (aN x6 (ax (aG K) (by rfl) T.n_len boot_len (aa (pr 0) af)) (ax (aG K) (by rfl) T.n_len boot_len (aa (pr 1) af)) (aQ _))) bR (ax (iD rfl) (by rfl) T.n_min boot_min (aa (ax (aG K) (by rfl) T.n_len boot_len (aa (pr 0) af)) (aa (ax (aG K) (by rfl) T.n_len boot_len (aa (pr 1) af)) af))))))),?_⟩
 have hs:sizeLine=16777216:=sizeLine_eq;refine aL (fun σ H'=>∃o2 o3:Option V,σ=[some (.ref pt),some (.ref la),o2,o3]∧au H H') ?_ ?_
 ·intro u' hu
  walk_at "rd";refine⟨true,⟨_,aI.of hls⟩,true,⟨_,hgs⟩,qV (l1:=true) (l2:=true) (us:=ls.map V.ref) (vs:=gs.map V.ref) (by rw [aa0,aa0,ll,gl,hll]) (fun i σ H'=>∃o2 o3:Option V,σ=[some (.ref pt),some (.ref la),o2,o3]∧au H H') ⟨none,none,rfl,au.refl _⟩ (fun i σ H' _ h=>by obtain⟨_,_,_,sm⟩:=h;exact⟨aI.of (sm _ _ hls),sm.seq hgs⟩) ?_ ?_⟩
  ·rintro i y z σ H1 p q hy hz ⟨o2,o3,rfl,s1⟩ hq0 hp0 hpq
   rw [aa4]at hy hz
   cases hli:ls[i]? with
   | none=>rw [hli]at hy;cases hy
   | some ca=>
    cases hgi:gs[i]? with
    | none=>rw [hgi]at hz;cases hz
    | some g=>
     rw [hli]at hy;rw [hgi]at hz;cases hy;cases hz
     have hi:i < line.length:=by have:=(aa1.mp hli).1;omega
     obtain⟨c,hc⟩:∃c,line[i]?=some c:=⟨_,aa2 hi⟩;obtain⟨ws,hws⟩:∃ws,pats[i]?=some ws:=⟨_,aa2 (by omega)⟩;obtain⟨a1,a2,a3⟩:=hag i c ws hc hws;have s2:au H (upd (upd H1 q (.tup [.ref ca,.ref g])) p (.tup [.int i,.ref q])):=(s1.upd hq0).upd (by rw [ai hpq];exact hp0)
     have hq2:(upd (upd H1 q (.tup [.ref ca,.ref g])) p (.tup [.int i,.ref q])) q=some (.tup [.ref ca,.ref g]):=by rw [ai hpq.symm,ag]
     walk_at "rd";refine⟨_,bf.of ag,rfl,?_⟩;walk_at "rd";generalize upd (upd H1 q (.tup [.ref ca,.ref g])) p (.tup [.int i,.ref q])=H2 at s2 hq2;refine eQ (bf.of hq2) (dD rfl) (eQ (bf.of hq2) (show iC _ ((1:Nat):Int)=_ from aK rfl) ⟨ca,g,c,ws,rfl,bf.of (s2 _ _ (hlt i ca c hli hc)),s2.tup (hg i g ws hgi hws),a2,a3,fun H3 s3=>⟨_,TruV_b.mpr rfl,?_⟩⟩);rw [a1,if_neg (by decide)];exact s2.trans s3
  ·rintro σ H1 ⟨o2,o3,rfl,s1⟩
   exact hu _ _ ⟨o2,o3,rfl,s1⟩
 rintro _ H1 ⟨o2,o3,rfl,s1⟩;walk_at "rd";refine⟨_,.inl (s1.seq hgs),_,.inl (aI.of (s1 _ _ hls)),?_⟩;rw [aa0,aa0,gl,ll,hll,if_pos rfl];exact kQ _ s1
end
theorem jT:∀a:List Int,HT.lexLt a a=false
 | []=>rfl
 | x::a=>by rw [HT.lexLt_cons,if_pos rfl];exact jT a
theorem pb:∀{a b:List Int},HT.lexLt a b=true→HT.lexLt b a=false
 | [],[],h=>by cases h
 | [],_::_,_=>rfl
 | _::_,[],h=>by cases h
 | x::a,y::b,h=>by
  rw [HT.lexLt_cons]at h ⊢
  by_cases e:x=y
  ·rw [if_pos e]at h
   rw [if_pos e.symm];exact pb h
  ·rw [if_neg e]at h
   rw [if_neg (fun q=>e q.symm)]
   have:=of_decide_eq_true h
   exact decide_eq_false (by omega)
theorem jS:∀{a b:List Int} (u v:List Int),a.length=b.length→HT.lexLt a b=true→HT.lexLt (a++u) (b++v)=true
 | [],[],_,_,_,h=>by cases h
 | [],_::_,_,_,hl,_=>by cases hl
 | _::_,[],_,_,hl,_=>by cases hl
 | x::a,y::b,u,v,hl,h=>by
  rw [ag6,ag6,HT.lexLt_cons];rw [HT.lexLt_cons]at h
  by_cases e:x=y
  ·rw [if_pos e]at h ⊢
   exact jS u v (by simpa using hl) h
  ·rw [if_neg e]at h ⊢
   exact h
theorem pd:∀(a:List Int) {x y:Int},x < y→HT.lexLt (a++[x]) (a++[y])=true
 | [],x,y,h=>by
  show HT.lexLt [x] [y]=true;rw [HT.lexLt_cons,if_neg (by omega)];exact decide_eq_true h
 | z::a,x,y,h=>by
  rw [ag6,ag6,HT.lexLt_cons,if_pos rfl];exact pd a h
abbrev vm(l:List (List Int)):Prop:=l.Pairwise fun a b=>HT.lexLt a b=true
theorem tP(bs:List (Int×Int)):vm (aj bs):=by
 have go:∀(bs:List (Int×Int)) (told:List (List Int)) (n:Nat),(∀c∈told,c.length=n)→vm told→vm (bs.foldl (fun told b=>told.flatMap (cf b)) told):=by
  intro bs
  induction bs with
  | nil=>intro told n _ h;exact h
  | cons b bs ih=>
   intro told n hl h;rw [ad9];refine ih _ (n+1) (fun c hc=>?_) ?_
   ·obtain⟨d,hd,hc⟩:=ai2.mp hc
    unfold cf at hc;obtain⟨j,_,rfl⟩:=ac3.mp hc;rw [ab3,hl d hd];rfl
   ·refine List.pairwise_flatMap.mpr ⟨fun c _=>?_,?_⟩
    ·unfold cf
     refine List.pairwise_map.mpr (List.pairwise_lt_range.imp fun {i j} hij=>pd c ?_);omega
    ·refine h.imp_of_mem fun {c d} hc hd hcd x hx y hy=>?_
     unfold cf at hx hy;obtain⟨i,_,rfl⟩:=ac3.mp hx;obtain⟨j,_,rfl⟩:=ac3.mp hy;exact jS _ _ (by rw [hl c hc,hl d hd]) hcd
 exact go bs [[]] 0 (fun c hc=>by rw [ab7.mp hc];rfl) (List.pairwise_singleton ..)
theorem l0:∀{l:List (List Int)} {i:Nat} {c:List Int},vm l→l[i]?=some c→(l.filter fun d=>HT.lexLt d c).length=i
 | [],_,_,_,h=>by cases h
 | x::l,0,c,hr,h=>by
  cases h;have hr:=List.pairwise_cons.mp hr;rw [ai3,if_neg (by rw [jT];decide)]
  have:(l.filter fun d=>HT.lexLt d x)=[]:=List.filter_eq_nil_iff.mpr fun d hd=>by rw [pb (hr.1 d hd)];decide
  rw [this];rfl
 | x::l,i+1,c,hr,h=>by
  have hr:=List.pairwise_cons.mp hr;have h:l[i]?=some c:=h;rw [ai3,if_pos (hr.1 c (aa9 h)),ac5,l0 hr.2 h]
abbrev dG(m:Nat):List (Option Int):=List.replicate m none
theorem gX:∀(c:List Int) (m:Nat),dC c (dG m)=true
 | [],m=>by unfold dC;simp
 | u::c,0=>rfl
 | u::c,m+1=>by
  have:=gX c m
  unfold dC at this ⊢;rw [show dG (m+1)=none::dG m from rfl,ak7,aj6,this];rfl
def qw(cols:List (List Int)):Nat→List (List (List Int))
 | 0=>[[]]
 | n+1=>cols.flatMap fun c=>(qw cols n).map (c::·)
theorem gy(cols:List (List Int))(m:Nat):∀(n:Nat) (s:MS),bo [] cols (List.replicate n (dG m)) s=qw cols n
 | 0,s=>rfl
 | n+1,s=>by
  show(cols.filter fun c=>dC c (dG m) && (aJ [] s c).isSome).flatMap _=_;rw [List.filter_eq_self.mpr fun c _=>by rw [gX];rfl]
  exact gw fun c _=>by
   show(bo [] cols (List.replicate n (dG m)) (some c,[])).map (c::·)=_
   rw [gy cols m n]
theorem jw(cols:List (List Int)):∀n:Nat,(qw cols n).length=cols.length ^ n
 | 0=>rfl
 | n+1=>by
  show(cols.flatMap fun c=>(qw cols n).map (c::·)).length=_
  rw [fC (w:=cols.length ^ n) (fun c=>by rw [aa0,jw cols n]),am8,ag8]
def ck(B:Nat)(ds:List Nat):Nat:=ds.foldl (fun t d=>t * B+d) 0
theorem mX(B:Nat):∀(ds:List Nat) (t:Nat),ds.foldl (fun t d=>t * B+d) t=t * B ^ ds.length+ck B ds
 | [],t=>by simp [ck]
 | d::ds,t=>by
  unfold ck;rw [ad9,ad9,mX B ds,mX B ds (0 * B+d),ac5,am8];rw [Nat.add_mul,Nat.zero_mul,Nat.zero_add,Nat.mul_assoc,ag8 B,al9]
theorem iM(B d:Nat)(ds:List Nat):ck B (d::ds)=d * B ^ ds.length+ck B ds:=by
 conv=>lhs;unfold ck
 rw [ad9,mX];simp
theorem uD(B d:Nat)(ds:List Nat):ck B (ds++[d])=ck B ds * B+d:=by
 unfold ck;rw [ag1];rfl
theorem mY{B:Nat}:∀{ds:List Nat},(∀d∈ds,d < B)→ck B ds < B ^ ds.length
 | [],_=>by simp [ck]
 | d::ds,h=>by
  rw [iM,ac5,am8];have h1:=mY (B:=B) (ds:=ds) fun x hx=>h x (by simp [hx]);have h2:=h d (by simp)
  calc d * B ^ ds.length+ck B ds < d * B ^ ds.length+B ^ ds.length:=by omega
   _=(d+1) * B ^ ds.length:=by rw [Nat.add_mul,Nat.one_mul]
   _≤B * B ^ ds.length:=ag2 _ h2
   _=B ^ ds.length * B:=ag8 _ _
def cH(cols:List (List Int))(ds:List Nat):List (List Int):=ds.map fun d=>cols.getD d []
theorem rZ{cols:List (List Int)}:∀{ds:List Nat},(∀d∈ds,d < cols.length)→(qw cols ds.length)[ck cols.length ds]?=some (cH cols ds)
 | [],_=>rfl
 | d::ds,h=>by
  have h1:=mY (B:=cols.length) (ds:=ds) fun x hx=>h x (by simp [hx]);have h2:=h d (by simp);have h3:=rZ (cols:=cols) (ds:=ds) fun x hx=>h x (by simp [hx]);have hp:0 < cols.length ^ ds.length:=Nat.pow_pos (by omega)
  show(cols.flatMap fun c=>(qw cols ds.length).map (c::·))[ck cols.length (d::ds)]?=_
  rw [sj hp (fun c=>by rw [aa0,jw]),iM,ag8 d,Nat.mul_add_div hp,Nat.div_eq_of_lt h1,Nat.mul_add_mod,Nat.mod_eq_of_lt h1,am6,aa2 h2]
  show((qw cols ds.length).map (cols[d]::·))[ck cols.length ds]?=_
  rw [aa4,h3];show some (cols[d]::cH cols ds)=some (cH cols (d::ds));unfold cH;rw [ad1,ac8,aa2 h2];rfl
theorem lH(cols:List (List Int))(m n:Nat)(s:MS):cj [] cols (List.replicate n (dG m)) s=((cols.length ^ n:Nat):Int):=by rw [dB,gy,jw]
theorem jv{cols:List (List Int)}(hr:vm cols)(m:Nat):∀{ds:List Nat} (s:MS),(∀d∈ds,d < cols.length)→cg [] cols (List.replicate ds.length (dG m)) s (cH cols ds)=((ck cols.length ds:Nat):Int)
 | [],s,_=>rfl
 | d::ds,s,h=>by
  have h2:=h d (by simp);have hd:cols[d]?=some cols[d]:=aa2 h2
  have eg:cols.getD d []=cols[d]:=by rw [ac8,hd];rfl
  have h3:=jv hr m (ds:=ds) (some cols[d],[]) fun x hx=>h x (by simp [hx])
  show((cols.filter fun e=>HT.lexLt e (cols.getD d []) && (dC e (dG m) && (aJ [] s e).isSome)).map fun e=>match aJ [] s e with | some s'=>cj [] cols (List.replicate ds.length (dG m)) s' | none=>0).sum+(match (if cols.getD d []∈cols then aJ [] s (cols.getD d [])else none)with | some s'=>if dC (cols.getD d []) (dG m)=true then cg [] cols (List.replicate ds.length (dG m)) s' (cH cols ds)else 0 | none=>0)=_
  rw [eg,if_pos (ae2 h2)];show _+(if dC cols[d] (dG m)=true then cg [] cols (List.replicate ds.length (dG m)) (some cols[d],[]) (cH cols ds)else 0)=_;rw [if_pos (gX _ _),h3,iM]
  have e1:(cols.filter fun e=>HT.lexLt e cols[d] && (dC e (dG m) && (aJ [] s e).isSome))=cols.filter fun e=>HT.lexLt e cols[d]:=al8 fun e _=>by
   rw [gX];show(_ && (true && true))=_;simp
  rw [e1]
  have e2:(cols.filter fun e=>HT.lexLt e cols[d]).map (fun e=>match aJ [] s e with | some s'=>cj [] cols (List.replicate ds.length (dG m)) s' | none=>0)=List.replicate d ((cols.length ^ ds.length:Nat):Int):=by
   have hl:=l0 hr hd
   have:List.replicate d ((cols.length ^ ds.length:Nat):Int)=(cols.filter fun e=>HT.lexLt e cols[d]).map fun _=>((cols.length ^ ds.length:Nat):Int):=by rw [List.map_const',hl]
   rw [this];exact ai4 fun e _=>lH cols m ds.length (some e,[])
  rw [e2]
  have rep:∀(n:Nat) (t:Int),(List.replicate n t).sum=(n:Int) * t:=by
   intro n t
   induction n with
   | zero=>simp
   | succ n ih=>
    rw [ae1,List.sum_cons,ih];rw [show((n+1:Nat):Int)=(n:Int)+1 by omega,Int.add_mul];omega
  rw [rep,Int.natCast_add,ai6]
def jq(P:Program)(w:World)(K:Frag)(C Cs:Addr)(bs:List (Int×Int))(met:List MS)(x:Addr)(H:Hp):Prop:=∃dx la wa sc dsc ra rb:Addr,H x=some (.ins C dx (aU la wa sc))∧i0 P w [] (aj bs) la wa H met∧H sc=some (.ins Cs dsc (bJ ra rb))∧bB K H ra bs∧aI K H rb []
theorem jq.x{P:Program}{w:World}{K:Frag}{C Cs:Addr}{bs:List (Int×Int)}{met:List MS}{x:Addr}{H:Hp}(h:jq P w K C Cs bs met x H):dq P w K C Cs bs [] met x H:=by
 obtain⟨dx,la,wa,sc,dsc,ra,rb,h1,h2,h3,h4,_⟩:=h;exact⟨dx,la,wa,sc,dsc,ra,rb,h1,h2,h3,h4⟩
theorem jq.same{P:Program}{w:World}{K:Frag}{C Cs:Addr}{bs:List (Int×Int)}{met:List MS}{x:Addr}{H H':Hp}(h:jq P w K C Cs bs met x H)(s:au H H'):jq P w K C Cs bs met x H':=by
 obtain⟨dx,la,wa,sc,dsc,ra,rb,h1,h2,h3,h4,h5⟩:=h;exact⟨dx,la,wa,sc,dsc,ra,rb,s _ _ h1,h2.same s,s _ _ h3,h4.same s,s.seq h5⟩
def gT(K:Frag):Sp:=fun vs H Q _=>∃(l:Addr) (lo hi:Int) (v:Nat) (line:List (List Int)),vs=[.int lo,.int hi,.int v,.ref l]∧aS H l line∧(∀c∈line,∃n,c[v]?=some n∧lo≤n∧n≤hi)∧∀H',au H H'→Q .non H'
def ko(K:Frag)(Cs:Addr):Sp:=fun vs H Q _=>∃(sc l dsc ra rb:Addr) (bs:List (Int×Int)) (line:List (List Int)),vs=[.ref sc,.ref l]∧H sc=some (.ins Cs dsc (bJ ra rb))∧bB K H ra bs∧aI K H rb []∧bs.length≤4∧aS H l line∧(∀c∈line,qr bs c)∧∀H',au H H'→Q .non H'
def gQ(P:Program)(w:World)(K:Frag)(C Cs:Addr):Sp:=fun vs H Q _=>∃(x pt la:Addr) (bs:List (Int×Int)) (met:List MS) (pats:List (List (Option Int))) (s0:MS) (line:List (List Int)),vs=[.ref x,.ref pt,.ref la]∧jq P w K C Cs bs met x H∧i8 [] bs met∧eJ K H pt pats∧(∀ws∈pats,ws.length=bs.length)∧pats.length≤1000∧met[0]?=some s0∧aS H la line∧line.length=pats.length∧(∀c∈line,qr bs c)∧(∀(i:Nat) (c:List Int) (g:List (Option Int)),line[i]?=some c→pats[i]?=some g→dC c g=true)∧∀H',au H H'→Q (.int (cg [] (aj bs) pats s0 line)) H'
section
variable {P:Program} {w:World} {K:Frag} {mg:Str→Option Value} {base:Heap} {aM:Addr}
theorem pC{f:Addr}{fd:FuncData}(F:cY K "first_outside" "first_outside" dn f fd)(T:Txt mg aM):aR P w K mg base cO 1 f fd ["low","high","voice","line"] (gT K):=by
 refine F.ok sc_first_outside (fun vs H Q E h=>?_) (fun cdv A outer s H vs Q E hr h=>?_)
 ·obtain⟨l,lo,hi,v,line,rfl,_⟩:=h
  rfl
 obtain⟨l,lo,hi,v,line,rfl,⟨ps,hps,hpl,hpc⟩,hv,q⟩:=h
 refine⟨_,(ah (bu PassesOwn.never rfl (dW rfl T.n_enumerate (aa (pr 3) af)) (bE K (n:=2) rfl (aD (aw (i:=4) sc_first_outside.nd rfl (Or.inl rfl)) (aD (aw (i:=5) sc_first_outside.nd rfl (Or.inl rfl)) bF)))
 (ak (bL (cL (cz (pI (o0 sE) (o0 sE) (pr 0) (aV (bC K) (pr 5) (pr 2) (fun _ _=>rfl)) (pr 1)))) (ak (aC (pr 4))) aY)))
 (ak (aC bR))),?_⟩
 have hs:sizeLine=16777216:=sizeLine_eq;walk_at "rd";refine⟨true,⟨_,aI.of hps⟩,dP (l:=true) (us:=ps.map V.ref) (fun i σ H'=>∃(o o':Option V),σ=[some (.int lo),some (.int hi),some (.int v),some (.ref l),o,o']∧au H H') ⟨none,none,rfl,au.refl _⟩ (fun i σ H' _ h=>by obtain⟨_,_,_,sm⟩:=h;exact aI.of (sm _ _ hps)) ?_ ?_⟩
 ·rintro i y σ H1 p hx ⟨o,o',rfl,sm⟩ hp0
  obtain⟨c,hc0,rfl⟩:∃c,ps[i]?=some c∧y=.ref c:=by
   rw [aa4]at hx
   cases hc:ps[i]? with
   | none=>rw [hc]at hx;cases hx
   | some c=>rw [hc]at hx;exact⟨c,rfl,(Option.some.inj hx).symm⟩
  have hi':i < line.length:=by have:=(aa1.mp hc0).1;omega
  have hu:line[i]?=some line[i]:=aa2 hi';have hct:=hpc i c _ hc0 hu;obtain⟨n,hn,n1,n2⟩:=hv _ (ae2 hi');have s2:au H (upd H1 p (.tup [.int i,.ref c])):=sm.upd hp0;walk_at "rd";refine⟨_,bf.of ag,rfl,?_⟩;walk_at "rd";generalize upd H1 p (.tup [.int i,.ref c])=H2 at s2;refine eQ (bf.of (s2 _ _ hct)) (aK (by rw [aa4,hn];rfl)) ?_;walk_at "rd";rw [if_pos n1,if_pos n2];exact s2
 ·rintro σ H1 ⟨o,o',rfl,sm⟩
  walk_at "rd";exact q _ sm
theorem uG{f Cs:Addr}{fd:FuncData}(F:cY K "fault" "fault" nP f fd)(T:Txt mg aM)(TS:cv K Cs)(D_first_outside:bN P w K mg base "first_outside" 1 ["low","high","voice","line"] (gT K)):aR P w K mg base cO 2 f fd ["score","line"] (ko K Cs):=by
 refine F.ok sc_fault (fun vs H Q E h=>?_) (fun cdv A outer s H vs Q E hr h=>?_)
 ·obtain⟨sc,l,dsc,ra,rb,bs,line,rfl,_⟩:=h
  rfl
 obtain⟨sc,l,dsc,ra,rb,bs,line,rfl,hsc,⟨ts,hts,htl,htc⟩,hrb,lb,CN,hin,q⟩:=h
 refine⟨_,(ah (gD (i:=2) sc_fault.nd rfl (Or.inl rfl) (own:=["voice","bounds"]) (js:=[1]) rfl (dW rfl T.n_enumerate (aa (bQ (pr 0) rfl) af)) (aW.of (by rfl)) (fun _ _ _ _ _=>(bE K (n:=2) rfl (aD (aw (i:=0) (show List.Nodup (["voice","bounds","line"]:List Str)from by decide +kernel) rfl (Or.inl rfl)) (aD (aw (i:=1) (show List.Nodup (["voice","bounds","line"]:List Str)from by decide +kernel) rfl (Or.inl rfl)) bF)))) (fun _ _ _ _ _=>bS) (fun _ _ _ _ _=>(aE D_first_outside hr (by rfl) (aa (aV (bC K) (pr 1) ao (fun _ _=>rfl)) (aa (aV (bC K) (pr 1) ao (fun _ _=>rfl)) (aa (pr 0) (aa (pr 2) af)))))) rfl)
 (ah (bG (bO K PySem.F.plainAttrs_list PySem.F.slot_list_extend PySem.F.type_list_extend lU (pr 2) (aa (bP (own:=["rule"]) (js:=[1]) rfl (aX K (bQ (pr 0) rfl)) (aW.of (by rfl)) (fun _ _ _ _ _=>(aw (i:=0) (show List.Nodup (["rule","line"]:List Str)from by decide +kernel) rfl (Or.inl rfl))) (fun _ _ _ _ _=>bS) (fun _ _ _ _ _=>j7)) af)))
 (ak (aC (zk K rfl (by rfl) T.n_min (aa (bP (own:=["row","place"]) (js:=[]) rfl (dW rfl T.n_enumerate (aa (pr 2) af)) (aW.of (by rfl)) (fun _ _ _ _ _=>(bE K (n:=2) rfl (aD (aw (i:=0) (show List.Nodup (["row","place"]:List Str)from by decide +kernel) rfl (Or.inl rfl)) (aD (aw (i:=1) (show List.Nodup (["row","place"]:List Str)from by decide +kernel) rfl (Or.inl rfl)) bF)))) (fun _ _ _ _ _=>nB (cz (aN jk (pr 1) bR (aQ _)))) (fun _ _ _ _ _=>(dU (aa (pr 1) (aa (pr 0) af))))) af) (zr bR Bl)))))),?_⟩
 have hs:sizeLine=16777216:=sizeLine_eq;refine aL (fun σ H'=>∃pl:Addr,H pl=none∧H' pl=some (.lst (List.replicate bs.length V.non))∧σ=[some (.ref sc),some (.ref l),some (.ref pl)]∧au H H') ?_ ?_
 ·intro u' hu
  walk_at "rd";refine⟨Cs,dsc,_,hsc,TS.cl,TS.n1,_,iK ra rb,?_⟩;walk_at "rd";refine⟨true,⟨_,hts⟩,i3 (l:=true) (us:=ts.map V.ref) (fun i ys H'=>ys=List.replicate i V.non∧au H H') (by rw [aa0];omega) ⟨rfl,au.refl _⟩ (fun i ys H' h=>by obtain⟨rfl,_⟩:=h;simp) (fun i ys H' h=>h.2.seq hts) ?_ ?_⟩
  ·rintro i y ys H1 p hy ⟨rfl,sm⟩ hp0
   obtain⟨t,ht0,rfl⟩:∃t,ts[i]?=some t∧y=.ref t:=by
    rw [aa4]at hy
    cases hc:ts[i]? with
    | none=>rw [hc]at hy;cases hy
    | some c=>rw [hc]at hy;exact⟨c,rfl,(Option.some.inj hy).symm⟩
   have hi:i < bs.length:=by have:=(aa1.mp ht0).1;omega
   have eb:bs[i]?=some bs[i]:=aa2 hi;have htt:=htc i t _ ht0 eb;have s2:au H (upd H1 p (.tup [.int i,.ref t])):=sm.upd hp0;walk_at "rd";refine⟨_,bf.of ag,rfl,?_⟩;walk_at "rd";generalize upd H1 p (.tup [.int i,.ref t])=H2 at s2;refine eQ (s2.tup htt) (dD rfl) (eQ (s2.tup htt) (show iC _ ((1:Nat):Int)=_ from aK rfl) ⟨l,_,_,i,line,rfl,CN.same s2,fun c hc=>?_,fun H3 s3=>⟨?_,s2.trans s3⟩⟩)
   ·have hI:=hin c hc
    have hl:i < c.length:=by rw [hI.1];exact hi
    exact⟨c[i],aa2 hl,hI.2 i _ _ eb (aa2 hl)⟩
   ·rw [←ae1,ak0]
  ·rintro ys H1 ⟨rfl,sm⟩ p hp
   rw [aa0,htl];exact hu _ _ ⟨p,sm.free hp,ag,rfl,sm.upd hp⟩
 rintro _ H1 ⟨pl,hpl,hpl1,rfl,s1⟩;refine aL (fun σ H'=>H' pl=some (.lst (List.replicate bs.length V.non))∧σ=[some (.ref sc),some (.ref l),some (.ref pl)]∧au H H') ?_ ?_
 ·intro u' hu
  walk_at "rd";refine⟨.inl ⟨rfl,_,aI.of hpl1⟩,Cs,dsc,_,s1 _ _ hsc,TS.cl,TS.n2,_,hV ra rb,?_⟩;refine ba (s1.seq hrb) (bt (xs:=[]) (fun i ys H'=>ys=[]∧H1=H') (by simp) ⟨rfl,rfl⟩ (fun i ys H' h=>by obtain⟨rfl,_⟩:=h;simp) (fun i ys H' h=>by obtain⟨_,rfl⟩:=h;exact s1.seq hrb) ?_ ?_)
  ·rintro i y ys H2 hy
   cases hy
  ·rintro ys H2 ⟨rfl,rfl⟩ p hp
   have hpl2:=(ar (o:=.lst []) hp) _ _ hpl1;refine⟨pl,p,_,_,rfl,rfl,hpl2,ag,by simp;omega,hu _ _ ⟨?_,rfl,xV hpl (s1.upd hp)⟩⟩;rw [ag,ae3]
 clear hpl1 s1;clear H1;rintro _ H1 ⟨hpl1,rfl,s1⟩;walk_at "rd";simp only [Ax];walk_at "rd";refine⟨true,⟨_,aI.of hpl1⟩,i3 (l:=true) (us:=List.replicate bs.length V.non) (fun i ys H'=>ys=[]∧au H1 H') (by simp;omega) ⟨rfl,au.refl _⟩ (fun i ys H' h=>by obtain⟨rfl,_⟩:=h;simp) (fun i ys H' h=>h.2.seq (aI.of hpl1)) ?_ ?_⟩
 ·rintro i y ys H2 p hy ⟨rfl,sm⟩ hp0
  obtain rfl:y=V.non:=(al2.mp (aa9 hy)).2;walk_at "rd";refine⟨_,bf.of ag,rfl,?_⟩;walk_at "rd";exact sm.upd hp0
 ·rintro ys H2 ⟨rfl,sm⟩ p hp
  exact⟨aI.of ag,q _ (s1.trans (sm.upd hp))⟩
theorem m9{f C Cs:Addr}{fd:FuncData}(F:cY K "number_of" "number_of" fS f fd)(T:Txt mg aM)(TC:bM K C)(D_unlike_place:bN P w K mg base "unlike_place" 6 ["pattern","line"] (iY K))(D_fault:bN P w K mg base "fault" 6 ["score","line"] (ko K Cs))(D_ahead:bN P w K mg base "ahead" 6 ["machine","pattern","line"] (nV P w K C Cs)):aR P w K mg base cO 7 f fd ["machine","pattern","line"] (gQ P w K C Cs):=by
 refine F.ok sc_number_of (fun vs H Q E h=>?_) (fun cdv A outer s H vs Q E hr h=>?_)
 ·obtain⟨x,pt,la,bs,met,pats,s0,line,rfl,_⟩:=h
  rfl
 obtain⟨x,pt,la,bs,met,pats,s0,line,rfl,ME,MC,PA,hpl,lp,h0,CN,hll,hin,hag,kQ⟩:=h
 refine⟨_,(ah (ay (i:=3) sc_number_of.nd rfl (Or.inl rfl) (aE D_unlike_place hr (by rfl) (aa (pr 1) (aa (pr 2) af))))
 (ah (bL (cz (aN jk (pr 3) bR (aQ _))) (ak ij) aY)
 (ah (ay (i:=4) sc_number_of.nd rfl (Or.inl rfl) (aE D_fault hr (by rfl) (aa (bQ (pr 0) rfl) (aa (pr 2) af))))
 (ah (bL (cz (aN jk (pr 4) bR (aQ _))) (ak ij) aY)
 (ak (aC (aE D_ahead hr (by rfl) (aa (pr 0) (aa (pr 1) (aa (pr 2) af)))))))))),?_⟩
 have lb:=MC.lb;refine aL (fun σ H'=>σ=[some (.ref x),some (.ref pt),some (.ref la),some .non,none]∧au H H') ?_ ?_
 ·intro u' hu
  walk_at "rd";refine⟨pt,la,pats,line,rfl,PA,CN,hll,fun i c g e1 e2=>⟨hag i c g e1 e2,?_,?_⟩,fun H' s1=>hu _ _ ⟨rfl,s1⟩⟩
  ·rw [(hin c (aa9 e1)).1,hpl g (aa9 e2)]
  ·rw [(hin c (aa9 e1)).1]
   omega
 rintro _ H1 ⟨rfl,s1⟩;refine aL (fun σ H'=>σ=[some (.ref x),some (.ref pt),some (.ref la),some .non,none]∧H1=H') ?_ ?_
 ·intro u' hu
  walk_at "rd";exact hu _ _ ⟨rfl,rfl⟩
 rintro _ _ ⟨rfl,rfl⟩;refine aL (fun σ H'=>σ=[some (.ref x),some (.ref pt),some (.ref la),some .non,some .non]∧au H H') ?_ ?_
 ·intro u' hu
  walk_at "rd";obtain⟨dx,la',wa,sc,dsc,ra,rb,h1,h2,h3,h4,h5⟩:=ME.same s1;exact⟨C,dx,_,h1,TC.cl,TC.n3,_,jV la' wa sc,sc,la,dsc,ra,rb,bs,line,rfl,h3,h4,h5,lb,CN.same s1,hin,fun H' s2=>hu _ _ ⟨rfl,s1.trans s2⟩⟩
 rintro _ H2 ⟨rfl,s2⟩;refine aL (fun σ H'=>σ=[some (.ref x),some (.ref pt),some (.ref la),some .non,some .non]∧H2=H') ?_ ?_
 ·intro u' hu
  walk_at "rd";exact hu _ _ ⟨rfl,rfl⟩
 rintro _ _ ⟨rfl,rfl⟩;walk_at "rd";exact⟨x,pt,la,bs,[],met,pats,s0,line,rfl,(ME.same s2).x,MC,PA.same s2,hpl,lp,h0,CN.same s2,hll,fun c hc=>(hin c hc).1,fun H' s3=>kQ _ (s2.trans s3)⟩
end
def rH(K:Frag):Sp:=fun vs H Q _=>∃(a:Addr) (bs:List (Int×Int)),vs=[.ref a]∧bB K H a bs∧bs.length≤4∧(∀b∈bs,1≤wN b)∧gv bs≤400∧∀q H',H q=none→aS H' q (aj bs)→au H H'→Q (.ref q) H'
theorem ja:bootBuiltins "ValueError"=some (.type "ValueError"):=PyProof.Rows.Boot.«ValueError»
structure Cd(mg:Str→Option Value)(aM:Addr)(K:Frag)(C cS c1 c2 c3 c4 c5 c6 c7 c8 c9 cA cB:Addr):Prop extends Txt mg aM where
 c_ScoreError:∃u,mg "ScoreError"=some u∧aF (.ref cS) u
 c_NoNumber:∃u,mg "NoNumber"=some u∧aF (.ref C) u
 c_Apart:∃u,mg "Apart"=some u∧aF (.ref c1) u
 c_BadLine:∃u,mg "BadLine"=some u∧aF (.ref c2) u
 c_BadRow:∃u,mg "BadRow"=some u∧aF (.ref c3) u
 c_Crowded:∃u,mg "Crowded"=some u∧aF (.ref c4) u
 c_Endless:∃u,mg "Endless"=some u∧aF (.ref c5) u
 c_NoLine:∃u,mg "NoLine"=some u∧aF (.ref c6) u
 c_NoName:∃u,mg "NoName"=some u∧aF (.ref c7) u
 c_NoRow:∃u,mg "NoRow"=some u∧aF (.ref c8) u
 c_TooWide:∃u,mg "TooWide"=some u∧aF (.ref c9) u
 c_Unfit:∃u,mg "Unfit"=some u∧aF (.ref cA) u
 c_Unlike:∃u,mg "Unlike"=some u∧aF (.ref cB) u
 x_ScoreError:PySem.W.exmOne K (.ref C) (.ref cS)=some true
 kV:kitOne K (.ref C) (.type "ValueError")=some true
 ka:kitAny K (.ref C) [.ref c1,.ref c2,.ref c3,.ref c4,.ref c5,.ref c6]=some false
 kb:kitAny K (.ref C) [.ref c7,.ref c8,.ref c9,.ref cA,.ref cB]=some false
def i9(H:Hp)(p:Addr)(n:Nat)(gs:List Addr)(pats:List (List (Option Int))):Prop:=H p=some (.lst (gs.map V.ref))∧gs.length=pats.length∧∀(i:Nat) (g:Addr) (ws:List (Option Int)),gs[i]?=some g→pats[i]?=some ws→H g=some (.tup (ws.map yW))∧ws.length=n
theorem i9.same{H H':Hp}{p:Addr}{n:Nat}{gs:List Addr}{pats:List (List (Option Int))}(h:i9 H p n gs pats)(s:au H H'):i9 H' p n gs pats:=⟨s _ _ h.1,h.2.1,fun i g ws e1 e2=>⟨s _ _ (h.2.2 i g ws e1 e2).1,(h.2.2 i g ws e1 e2).2⟩⟩
theorem i9.pat{K:Frag}{H:Hp}{p:Addr}{n:Nat}{gs:List Addr}{pats:List (List (Option Int))}(h:i9 H p n gs pats):eJ K H p pats:=⟨gs,aI.of h.1,h.2.1,fun i g ws e1 e2=>bf.of (h.2.2 i g ws e1 e2).1⟩
theorem i9.wide{H:Hp}{p:Addr}{n:Nat}{gs:List Addr}{pats:List (List (Option Int))}(h:i9 H p n gs pats):∀ws∈pats,ws.length=n:=fun ws hw=>by
 obtain⟨i,hi⟩:=af1 hw;obtain⟨g,hg⟩:∃g,gs[i]?=some g:=⟨_,aa2 (by rw [h.2.1];exact(aa1.mp hi).1)⟩;exact(h.2.2 i g ws hg hi).2
theorem i9.move{H:Hp}{p q:Addr}{n:Nat}{gs:List Addr}{pats:List (List (Option Int))}(h:i9 H p n gs pats)(hq:H q=none):i9 (upd H q (.lst (gs.map V.ref))) q n gs pats:=⟨ag,h.2.1,fun i g ws e1 e2=>⟨(ar hq) _ _ (h.2.2 i g ws e1 e2).1,(h.2.2 i g ws e1 e2).2⟩⟩
def iX(P:Program)(w:World)(K:Frag)(C Cs:Addr):Sp:=fun vs H Q _=>∃(x pt:Addr) (bs:List (Int×Int)) (Ss:List aT) (met:List MS) (pats:List (List (Option Int))) (s0:MS) (k:Int) (gs:List Addr),vs=[.ref x,.ref pt,.int k]∧dq P w K C Cs bs Ss met x H∧i8 Ss bs met∧i9 H pt bs.length gs pats∧pats.length≤1000∧met[0]?=some s0∧¬(0≤k∧k < cj Ss (aj bs) pats s0)∧∀H',au H H'→Q (.bl true) H'
def rJ(K:Frag):Sp:=fun vs H Q _=>∃(a b:Addr) (line:List (List Int)),vs=[.ref a,.ref b]∧aS H a line∧aS H b line∧line.length≤1000∧(∀c∈line,c.length≤100)∧∀H',au H H'→Q (.bl true) H'
section
variable {P:Program} {w:World} {K:Frag} {mg:Str→Option Value} {base:Heap} {aM:Addr}
theorem yZ{f:Addr}{fd:FuncData}(F:cY K "_law_columns" "_law_columns" eD f fd)(T:Txt mg aM):aR P w K mg base cO 1 f fd ["_law_ranges_here"] (rH K):=by
 refine F.ok sc_law_columns (fun vs H Q E h=>?_) (fun cdv A outer s H vs Q E hr h=>?_)
 ·obtain⟨a,bs,rfl,_⟩:=h
  rfl
 obtain⟨a,bs,rfl,⟨ts,hts,htl,htc⟩,lb,hw,hc,k⟩:=h
 refine⟨_,(ah (ay (i:=1) sc_law_columns.nd rfl (Or.inl rfl) (bA (aa (dU af) af)))
 (ah (bu PassesOwn.never rfl (aX K (pr 0)) (bE K (n:=2) rfl (aD (aw (i:=2) sc_law_columns.nd rfl (Or.inl rfl)) (aD (aw (i:=3) sc_law_columns.nd rfl (Or.inl rfl)) bF)))
 (ah (ay (i:=4) sc_law_columns.nd rfl (Or.inl rfl) (bA af))
 (ah (bu PassesOwn.never rfl (aX K (pr 1)) (aw (i:=5) sc_law_columns.nd rfl (Or.inl rfl))
 (ak (bu PassesOwn.never rfl (j8 rfl T.n_range (aa (pr 2) (aa (aA (sD K) (pr 3) ao) af))) (aw (i:=6) sc_law_columns.nd rfl (Or.inl rfl))
 (ak (bG (bO K PySem.F.plainAttrs_list PySem.F.slot_list_append PySem.F.type_list_append bp (pr 4) (aa (aA (sD K) (pr 5) (dU (aa (pr 6) af))) af)))))))
 (ak (ay (i:=1) sc_law_columns.nd rfl (Or.inl rfl) (pr 4))))))
 (ak (aC (pr 1))))),?_⟩
 have hs:sizeLine=16777216:=sizeLine_eq;refine aL (fun σ H'=>∃q:Addr,H q=none∧aS H' q (aj [])∧σ=[some (.ref a),some (.ref q),none,none,none,none,none]∧au H H') ?_ ?_
 ·intro u' hu
  walk_at "rd";refine⟨by omega,fun t ht=>⟨by omega,fun q hq=>?_⟩⟩;have s1:=ar (o:=HO.tup []) ht;refine hu _ _ ⟨q,s1.free hq,⟨[t],ag,rfl,fun i p us e1 e2=>?_⟩,rfl,s1.upd hq⟩
  have hi:i=0:=by
   have:=(aa1.mp e1).1
   simp at this;exact this
  subst hi;cases e1;cases e2;exact(ar hq) _ _ ag
 rintro _ H1 ⟨q,hq0,hq1,rfl,s1⟩;refine aL (fun σ H'=>∃(q:Addr) (o2 o3 o4 o5 o6:Option V),H q=none∧aS H' q (aj bs)∧σ=[some (.ref a),some (.ref q),o2,o3,o4,o5,o6]∧au H H') ?_ ?_
 ·intro u' hu
  walk_at "rd";refine ba (s1.seq hts) (bK (xs:=ts.map V.ref) (fun i σ H'=>∃(q:Addr) (o2 o3 o4 o5 o6:Option V),H q=none∧aS H' q (aj (bs.take i))∧σ=[some (.ref a),some (.ref q),o2,o3,o4,o5,o6]∧au H H') ⟨q,none,none,none,none,none,hq0,hq1,rfl,s1⟩ (fun i σ H' _ h=>?_) ?_ ?_)
  ·obtain⟨_,_,_,_,_,_,_,_,_,s'⟩:=h
   exact s'.seq hts
  ·rintro i y σ H2 hy ⟨q,o2,o3,o4,o5,o6,hq0,⟨ps,hq2,hpc⟩,rfl,s2⟩
   rw [aa4]at hy
   cases ht:ts[i]? with
   | none=>rw [ht]at hy;cases hy
   | some t=>
    rw [ht]at hy;cases hy
    have hi:i < bs.length:=by rw [←htl];exact(aa1.mp ht).1
    have hb:bs[i]?=some bs[i]:=aa2 hi;walk_at "rd";refine⟨_,s2.tup (htc i t _ ht hb),rfl,?_⟩;walk_at "rd";refine⟨by omega,fun p hp=>?_⟩;have s23:=ar (o:=HO.lst []) hp;have hp3:(upd H2 p (HO.lst [])) p=some (.lst (([]:List Addr).map V.ref)):=ag;generalize upd H2 p (HO.lst [])=H3 at s23 hp3;have ew:wN bs[i]≤400:=ac0 (AB hw hb) hc
    have en:gv (bs.take (i+1))=gv (bs.take i) * wN bs[i]:=by
     rw [ab9,hb];exact hJ _ _
    have en':=(fB hw (i+1)).2
    have ec:aj (bs.take (i+1))=(aj (bs.take i)).flatMap (cf bs[i]):=by
     rw [ab9,hb];exact jy _ _
    have ewd:=cG (bs.take i);have ecl:=bI (bs.take i);have hpl:=hpc.1;rw [ec];generalize bs[i]=b at *;generalize aj (bs.take i)=cols at *;obtain⟨Pv,hPv⟩:∃Pv:Nat→L2.St→Hp→Prop,Pv=fun j σ H'=>∃(o5 o6:Option V) (ps':List Addr),H' p=some (.lst (ps'.map V.ref))∧gu H' ps' ((cols.take j).flatMap (cf b))∧au H2 H'∧σ=[some (V.ref a),some (V.ref q),some (V.int b.1),some (V.int b.2),some (V.ref p),o5,o6]:=⟨_,rfl⟩;refine ba (aI.of (s23 _ _ hq2)) (bK (xs:=ps.map V.ref) Pv (by rw [hPv];exact⟨o5,o6,[],hp3,⟨rfl,fun i p us e=>nomatch e⟩,s23,rfl⟩) (fun j σ H' _ h=>?_) ?_ ?_)
    ·rw [hPv]at h
     obtain⟨_,_,_,_,_,s',_⟩:=h;exact aI.of (s' _ _ hq2)
    ·rintro j y σ H4 hy hI
     rw [hPv]at hI;obtain⟨o5,o6,ps',hp4,hT,s24,rfl⟩:=hI;rw [aa4]at hy
     cases hcj:ps[j]? with
     | none=>rw [hcj]at hy;cases hy
     | some c=>
      rw [hcj]at hy;cases hy
      have hj:j < cols.length:=by rw [←hpl];exact(aa1.mp hcj).1
      have hcc:cols[j]?=some cols[j]:=aa2 hj;have hus:=hpc.2 j c _ hcj hcc;have hul:=ewd _ (ae2 hj)
      have estep:(cols.take (j+1)).flatMap (cf b)=(cols.take j).flatMap (cf b)++cf b cols[j]:=by
       rw [ab9,hcc,List.flatMap_append];simp
      have l1:((cols.take j).flatMap (cf b)).length≤400:=by
       rw [fC (eL b),ac6];refine ac0 (ag2 _ (am1 _ _)) ?_;rw [ecl,←en];omega
      generalize cols[j]=us at *;generalize(cols.take j).flatMap (cf b)=done1 at *;walk_at "rd"
      have ek:(b.2+1 - b.1).toNat=wN b:=by unfold wN;omega
      rw [ek];refine dQ (fun m σ H'=>∃(o6:Option V) (ps':List Addr),H' p=some (.lst (ps'.map V.ref))∧gu H' ps' (done1++(cf b us).take m)∧au H2 H'∧σ=[some (V.ref a),some (V.ref q),some (V.int b.1),some (V.int b.2),some (V.ref p),some (.ref c),o6]) ⟨o6,ps',hp4,by simpa using hT,s24,rfl⟩ ?_ ?_
      ·rintro m σ H5 hm ⟨o6,ps',hp5,hT5,s25,rfl⟩
       have hx:(cf b us)[m]?=some (us++[b.1+(m:Int)]):=by
        unfold cf;rw [aa4,ae4 hm];rfl
       walk_at "rd";refine⟨.inl ⟨rfl,_,aI.of hp5⟩,by omega,fun t ht=>?_⟩;have s56:=ar (o:=HO.tup [V.int (b.1+(m:Int))]) ht;have ht2:(upd H5 t (HO.tup [V.int (b.1+(m:Int))])) t=some (.tup [V.int (b.1+(m:Int))]):=ag;generalize upd H5 t (HO.tup [V.int (b.1+(m:Int))])=H6 at s56 ht2;refine pK ((s25.trans s56) _ _ hus) ht2 (by rw [aa0,hul,ac6];simp;omega) fun z H7 s7 hz7=>?_;have s57:=s56.trans s7;have hp7:=s57 _ _ hp5
       have hz:H7 z=some (.tup ((us++[b.1+(m:Int)]).map V.int)):=by rw [hz7,ab4];rfl
       have ll:ps'.length≤800:=by
        rw [hT5.1,ab3,ac6];omega
       refine⟨p,_,_,rfl,rfl,hp7,by rw [aa0];omega,some (.int (b.1+(m:Int))),ps' ++ [z],by rw [ag,ab4];rfl,?_,xV hp (s25.trans s57),rfl⟩;rw [ab9,hx,←al4];refine((hT5.same s57).append ⟨rfl,fun i p us' e1 e2=>?_⟩).upd hp7
       have hi:i=0:=by
        have:=(aa1.mp e1).1
        simp at this;exact this
       subst hi;cases e1;cases e2;exact hz
      ·rintro σ H5 ⟨o6,ps',hp5,hT5,s25,rfl⟩
       rw [hPv];refine⟨_,_,ps',hp5,?_,s25,rfl⟩;rw [estep];rw [ae6 (by rw [eL];omega)]at hT5;exact hT5
    ·rintro σ H4 hI
     rw [hPv]at hI;obtain⟨o5,o6,ps',hp4,hT,s24,rfl⟩:=hI;rw [aa0,hpl,ac9]at hT;walk_at "rd";exact⟨p,s2.free hp,⟨ps',hp4,hT⟩,rfl,s2.trans s24⟩
  ·rintro σ H2 ⟨q,o2,o3,o4,o5,o6,hq0,hq2,rfl,s2⟩
   rw [aa0,htl,ac9]at hq2;exact hu _ _ ⟨q,o2,o3,o4,o5,o6,hq0,hq2,rfl,s2⟩
 rintro _ H2 ⟨q,o2,o3,o4,o5,o6,hq0,hq2,rfl,s2⟩;walk_at "rd";exact k q H2 hq0 hq2 s2
theorem y4{f:Addr}{fd:FuncData}(F:cY K "_law_same" "_law_same" gH f fd)(T:Txt mg aM)(D_law_whole:bN P w K mg base "_law_whole" 1 ["_law_found"] iu):aR P w K mg base cO 2 f fd ["_law_found","_law_line"] (rJ K):=by
 refine F.ok sc_law_same (fun vs H Q E h=>?_) (fun cdv A outer s H vs Q E hr h=>?_)
 ·obtain⟨a,b,line,rfl,_⟩:=h
  rfl
 obtain⟨a,b,line,rfl,⟨ps,hps,hpl,hpc⟩,⟨rs,hrs,hrl,hrc⟩,ll,lw,kQ⟩:=h
 refine⟨_,(ah (bL (PW.pt (fg (cL (a0 (ax (dv K) (by rfl) T.n_isinstance boot_isinstance (aa (pr 0) (aa (ig (v:=.ty "list") (by rfl) T.n_list boot_list rfl) af))) (fun _=>rfl))) (eZ (cz (aN (yU K (Ct hr)) (ax (aG K) (by rfl) T.n_len boot_len (aa (pr 0) af)) (ax (aG K) (by rfl) T.n_len boot_len (aa (pr 1) af)) (aQ _)))))) (ak (aC eP)) aY)
 (ah (bu PassesOwn.never rfl (iN rfl T.n_range (aa (ax (aG K) (by rfl) T.n_len boot_len (aa (pr 1) af)) af)) (aw (i:=2) sc_law_same.nd rfl (Or.inl rfl))
 (ah (bL (PW.pt (fg (cL (a0 (ax (dv K) (by rfl) T.n_isinstance boot_isinstance (aa (aV (bC K) (pr 0) (pr 2) (fun _ _=>rfl)) (aa (ig (v:=.ty "tuple") (by rfl) T.n_tuple boot_tuple rfl) af))) (fun _=>rfl))) (eZ (cz (aN (yU K (Ct hr)) (ax (aG K) (by rfl) T.n_len boot_len (aa (aV (bC K) (pr 0) (pr 2) (fun _ _=>rfl)) af)) (ax (aG K) (by rfl) T.n_len boot_len (aa (aV (bC K) (pr 1) (pr 2) (fun _ _=>rfl)) af)) (aQ _)))))) (ak (aC eP)) aY)
 (ak (bL (PW.pt (fg (cL (a0 (ax (eK K rfl) (by rfl) T.n_all boot_all (aa (bP (own:=["_law_note"]) (js:=[]) rfl (aX K (aV (bC K) (pr 0) (pr 2) (fun _ _=>rfl))) (aW.of (by rfl)) (fun _ _ _ _ _=>(aw (i:=0) (show List.Nodup (["_law_note"]:List Str)from by decide +kernel) rfl (Or.inl rfl))) (fun _ _ _ _ _=>bS) (fun _ _ _ _ _=>(aE D_law_whole hr (by rfl) (aa (pr 0) af)))) af)) (fun _=>rfl))) (eZ (cz (aN (yU K (Ct hr)) (aV (bC K) (pr 0) (pr 2) (fun _ _=>rfl)) (aV (bC K) (pr 1) (pr 2) (fun _ _=>rfl)) (aQ _)))))) (ak (aC eP)) aY))))
 (ak (aC eP)))),?_⟩
 have hs:sizeLine=16777216:=sizeLine_eq;refine aL (fun σ H'=>σ=[some (.ref a),some (.ref b),none]∧H=H') ?_ ?_
 ·intro u' hu
  walk_at "rd";refine⟨_,.lst hps,true,rfl,?_⟩;rw [if_neg (by decide)];refine⟨_,.inl (aI.of hps),_,.inl (aI.of hrs),?_⟩;rw [aa0,aa0,hpl,hrl,if_pos rfl];exact hu _ _ ⟨rfl,rfl⟩
 rintro _ _ ⟨rfl,rfl⟩;refine aL (fun σ H'=>∃o2:Option V,σ=[some (.ref a),some (.ref b),o2]∧au H H') ?_ ?_
 ·intro u' hu
  walk_at "rd";refine⟨_,.inl (aI.of hrs),?_⟩;rw [aa0,hrl];refine⟨by omega,by omega,dQ (fun i σ H'=>∃o2:Option V,σ=[some (.ref a),some (.ref b),o2]∧au H H') ⟨none,rfl,au.refl _⟩ ?_ ?_⟩
  ·rintro i σ H1 hi ⟨o2,rfl,s1⟩
   have hi:i < line.length:=by omega
   have hc:line[i]?=some line[i]:=aa2 hi;have hp:ps[i]?=some ps[i]:=aa2 (by omega);have hr':rs[i]?=some rs[i]:=aa2 (by omega);have h1:=hpc i _ _ hp hc;have h2:=hrc i _ _ hr' hc;have lc:=lw _ (ae2 hi);generalize line[i]=c at h1 h2 lc;generalize ps[i]=pa at hp h1;generalize rs[i]=ra at hr' h2;have ia:∀{H':Hp} {R:VK},au H H'→R (.ref pa) H'→pM K (V.ref a) (V.int (i:Int)) H' R:=fun {H' R} s r=>bT (aI.of (s _ _ hps)) (aK (by rw [aa4,hp];rfl)) r;have ib:∀{H':Hp} {R:VK},au H H'→R (.ref ra) H'→pM K (V.ref b) (V.int (i:Int)) H' R:=fun {H' R} s r=>bT (aI.of (s _ _ hrs)) (aK (by rw [aa4,hr'];rfl)) r;walk_at "rd";refine ia s1 ⟨_,.tup (s1 _ _ h1),true,rfl,?_⟩;rw [if_neg (by decide)];refine ia s1 (.inr ⟨pa,rfl,_,.inr (bf.of (s1 _ _ h1)),ib s1 (.inr ⟨ra,rfl,_,.inr (bf.of (s1 _ _ h2)),?_⟩)⟩);rw [if_pos rfl];refine ia s1 (zG (bf.of (s1 _ _ h1)) (tM (xs:=c.map V.int) (fun m ys H'=>ys=(List.replicate m true).map V.bl∧H1=H') (by rw [aa0];omega) ⟨rfl,rfl⟩ ?_ ?_ ?_ ?_))
   ·rintro m ys H' ⟨rfl,rfl⟩
    simp
   ·rintro m ys H' ⟨rfl,rfl⟩
    exact bf.of (s1 _ _ h1)
   ·rintro m v ys H' hv ⟨rfl,rfl⟩
    obtain⟨n,_,rfl⟩:=ac3.mp (aa9 hv);simp only [cy];walk_at "rd";refine⟨n,rfl,?_,rfl⟩;show _=(List.replicate (m+1) true).map V.bl;rw [ak0,ab4];rfl
   ·rintro ys H' ⟨rfl,rfl⟩ p hp0
    refine⟨_,aI.of ag,?_⟩;rw [if_neg (by simp)];have s2:=s1.upd hp0 (o:=HO.lst ((List.replicate (c.map V.int).length true).map V.bl));refine ia s2 (ib s2 (uT (l:=false) (bf.of (s2 _ _ h1)) (bf.of (s2 _ _ h2)) (fun x hx=>?_) ⟨_,rfl,?_⟩))
    ·obtain⟨n,_,rfl⟩:=ac3.mp hx
     exact .inl rfl
    ·rw [if_neg (by decide)]
     exact s2
  ·rintro σ H1 ⟨o2,rfl,s1⟩
   exact hu _ _ ⟨o2,rfl,s1⟩
 rintro _ H1 ⟨o2,rfl,s1⟩;walk_at "rd";exact kQ _ s1
theorem rg{f C Cs Ce cS c1 c2 c3 c4 c5 c6 c7 c8 c9 cA cB:Addr}{fd:FuncData}(F:cY K "_law_refused" "_law_refused" eE f fd)(T:Cd mg aM K Ce cS c1 c2 c3 c4 c5 c6 c7 c8 c9 cA cB)(DE_NoNumber:qj P w K mg base "NoNumber" Ce 4 ["self","number"] (zQ Ce "number") DQ)(DX_line_at:vj P w K mg base "line_at" 6 ["machine","pattern","number"] (iq P w K C Cs Ce))(D_law_whole:bN P w K mg base "_law_whole" 6 ["_law_found"] iu):aR P w K mg base cO 7 f fd ["_law_machine","_law_pattern","_law_number"] (iX P w K C Cs):=by
 refine F.ok sc_law_refused (fun vs H Q E h=>?_) (fun cdv A outer s H vs Q E hr h=>?_)
 ·obtain⟨x,pt,bs,Ss,met,pats,s0,k,gs,rfl,_⟩:=h
  rfl
 obtain⟨x,pt,bs,Ss,met,pats,s0,k,gs,rfl,MX,MC,PN,lp,h0,hk,kQ⟩:=h
 refine⟨_,(ah (ay (i:=3) sc_law_refused.nd rfl (Or.inl rfl) bR)
 (ah (zx (ie:=4) (ir:=3) rfl rfl rfl T.x_ScoreError (by rfl) T.c_ScoreError sc_law_refused.nd rfl rfl rfl (Or.inl rfl) (Or.inl rfl) DX_line_at hr (by rfl) (aa (pr 0) (aa (bc (cT K) (by rfl) T.n_list boot_list (aa (pr 1) af)) (aa (pr 2) af))))
 (ah (bL (PW.pt (fg (cz (aN j5 (pr 3) bR (aQ _))) (fg (cL (a0 (ax (lB K DE_NoNumber (by decide +kernel) (by decide +kernel) (by decide +kernel)) (by rfl) T.n_isinstance boot_isinstance (aa (pr 3) (aa (eA T.c_NoNumber) af))) (fun _=>rfl))) (eZ (cL (a0 (ax (lB K DE_NoNumber (by decide +kernel) (by decide +kernel) (by decide +kernel)) (by rfl) T.n_isinstance boot_isinstance (aa (pr 3) (aa (ig (v:=.ty "ValueError") (by rfl) T.n_ValueError ja rfl) af))) (fun _=>rfl))))))) (ak (aC eP)) aY)
 (ah (bL (a0 (ax (lC K DE_NoNumber (by decide +kernel) (by decide +kernel) (by decide +kernel)) (by rfl) T.n_isinstance boot_isinstance (aa (pr 3) (aa (dU (aa (eA T.c_Apart) (aa (eA T.c_BadLine) (aa (eA T.c_BadRow) (aa (eA T.c_Crowded) (aa (eA T.c_Endless) (aa (eA T.c_NoLine) af))))))) af))) (fun _=>rfl)) (ak (aC eP)) aY)
 (ah (bL (a0 (ax (lC K DE_NoNumber (by decide +kernel) (by decide +kernel) (by decide +kernel)) (by rfl) T.n_isinstance boot_isinstance (aa (pr 3) (aa (dU (aa (eA T.c_NoName) (aa (eA T.c_NoRow) (aa (eA T.c_TooWide) (aa (eA T.c_Unfit) (aa (eA T.c_Unlike) af)))))) af))) (fun _=>rfl)) (ak (aC eP)) aY)
 (ak (aC (An (wX (aE D_law_whole hr (by rfl) (aa (sF DE_NoNumber (by decide +kernel) (by decide +kernel) (by decide +kernel) gA (pr 3) rfl) af)) (ni (dz x6 (sF DE_NoNumber (by decide +kernel) (by decide +kernel) (by decide +kernel) gA (pr 3) rfl) (pr 2) (aQ _)))))))))))),?_⟩
 have hs:sizeLine=16777216:=sizeLine_eq;refine aL (fun σ H'=>σ=[some (.ref x),some (.ref pt),some (.int k),some .non,none]∧H=H') ?_ ?_
 ·intro u' hu
  walk_at "rd";exact hu _ _ ⟨rfl,rfl⟩
 rintro _ _ ⟨rfl,rfl⟩;refine aL (fun σ H'=>∃a d:Addr,vn Ce "number" k H' a d∧σ=[some (.ref x),some (.ref pt),some (.int k),some (.ref a),none]∧au H H') ?_ ?_
 ·intro u' hu
  simp only [fY,AA];walk_at "rd";refine⟨_,.inl (aI.of PN.1),fun l hl=>⟨x,l,bs,Ss,met,pats,s0,k,rfl,MX.same (ar hl),MC,(PN.move hl).pat,PN.wide,lp,h0,fun j line e hj=>?_,fun _ a d H2 hth s2=>⟨a,rfl,d,hth.1,hu _ _ ⟨a,d,hth,rfl,(ar hl).trans s2⟩⟩⟩⟩;refine absurd ⟨by omega,?_⟩ hk
  have:=(aa1.mp hj).1
  rw [dB];omega
 rintro _ H1 ⟨a,d,⟨ha,hd⟩,rfl,s1⟩;have isi:∀{c:V} {u:Value} {b:Bool} {Q':VK},aF c u→(∀u',aF c u'→u'=u)→kitOne K (.ref Ce) u=some b→Q' (.bl b) H1→Bn K Ce [.ref a,c] H1 Q':=fun {c u b Q'} r1 r2 e q=>⟨a,d,_,_,_,rfl,ha,r1,r2,e,q⟩;refine aL (fun σ H'=>σ=[some (.ref x),some (.ref pt),some (.int k),some (.ref a),none]∧H1=H') ?_ ?_
 ·intro u' hu
  walk_at "rd";refine isi rfl (fun u' h=>h) (by unfold kitOne;simp) ⟨true,TruV_b.mpr rfl,?_⟩;rw [if_neg (by decide)];refine isi rfl (fun u' h=>h) T.kV ⟨true,TruV_b.mpr rfl,?_⟩;rw [if_neg (by decide)];exact hu _ _ ⟨rfl,rfl⟩
 rintro _ _ ⟨rfl,rfl⟩;refine aL (fun σ H'=>σ=[some (.ref x),some (.ref pt),some (.int k),some (.ref a),none]∧au H1 H') ?_ ?_
 ·intro u' hu
  walk_at "rd";refine⟨by omega,fun p hp=>⟨a,d,p,[c1,c2,c3,c4,c5,c6],false,rfl,(ar hp) _ _ ha,ag,T.ka,false,TruV_b.mpr rfl,?_⟩⟩;rw [if_neg (by decide)];exact hu _ _ ⟨rfl,ar hp⟩
 rintro _ H2 ⟨rfl,s2⟩;refine aL (fun σ H'=>σ=[some (.ref x),some (.ref pt),some (.int k),some (.ref a),none]∧au H1 H') ?_ ?_
 ·intro u' hu
  walk_at "rd";refine⟨by omega,fun p hp=>⟨a,d,p,[c7,c8,c9,cA,cB],false,rfl,(ar hp) _ _ (s2 _ _ ha),ag,T.kb,false,TruV_b.mpr rfl,?_⟩⟩;rw [if_neg (by decide)];exact hu _ _ ⟨rfl,s2.upd hp⟩
 rintro _ H3 ⟨rfl,s3⟩;walk_at "rd";have fld:∀{Q':VK},Q' (.int k) H3→xK Ce (Dj 3) (Str.ofString "number") [some (.ref x),some (.ref pt),some (.int k),some (.ref a),none] H3 Q':=fun {Q'} q'=>⟨a,d,_,_,rfl,s3 _ _ ha,s3 _ _ hd,by simp [List.lookup],q'⟩;refine fld ⟨_,rfl,true,rfl,?_⟩;rw [if_pos rfl];refine fld (rEq_ii.mpr ?_);rw [decide_eq_true rfl];exact kQ _ (s1.trans s3)
end
def jF(bs:List (Int×Int)):List MS:=(none,[])::(aj bs).map fun c=>(some c,[])
theorem oM{bs:List (Int×Int)}(h:gv bs≤400):qg [] (aj bs) (jF bs):=by
 refine⟨by simp [jF],fun s _ c hc s' e=>?_,?_⟩
 ·cases e
  exact ad6 _ (ac3.mpr ⟨c,hc,rfl⟩)
 ·unfold jF
  rw [ac5,aa0,bI];omega
theorem uh{bs:List (Int×Int)}{met:List MS}(m:rX [] (aj bs) met)(h:∀s∈met,s∈jF bs):1≤met.length∧met.length≤gv bs+1:=by
 refine⟨?_,?_⟩
 ·have:=(aa1.mp m.st).1
  omega
 ·have:=jX met (jF bs) m.nd h
  unfold jF at this;rw [ac5,aa0,bI]at this;exact this
def sS(K:Frag):Sp:=fun vs H Q _=>∃(a:Addr) (ns:List Int),vs=[.ref a]∧aI K H a (ns.map V.int)∧(∀x∈ns,x.natAbs < 2 ^ GB)∧ns.length≤63∧∀H',Q (.bl true) H'
def iV(P:Program)(w:World)(K:Frag)(C Cs:Addr):Sp:=fun vs H Q _=>∃(x pt:Addr) (bs:List (Int×Int)) (Ss:List aT) (met:List MS) (pats:List (List (Option Int))) (s0:MS) (j:Nat) (line:List (List Int)),vs=[.ref x,.ref pt,.int j]∧dq P w K C Cs bs Ss met x H∧i8 Ss bs met∧eJ K H pt pats∧(∀ws∈pats,ws.length=bs.length)∧pats.length≤1000∧met[0]?=some s0∧(bo Ss (aj bs) pats s0)[j]?=some line∧∀q H',H q=none→aS H' q line→au H H'→Q (.ref q) H'
theorem yO{P:Program}{w:World}{K:Frag}{C Cs Ce:Addr}(vs:List V)(H:Hp)(Q:VK)(E:XK)(h:iV P w K C Cs vs H Q E):iq P w K C Cs Ce vs H Q fun _ _ _=>False:=by
 obtain⟨x,pt,bs,Ss,met,pats,s0,j,line,rfl,MX,MC,PA,hpl,lp,h0,hj,k⟩:=h;refine⟨x,pt,bs,Ss,met,pats,s0,j,rfl,MX,MC,PA,hpl,lp,h0,fun j' line' e hj'=>?_,fun hb=>absurd ⟨by omega,?_⟩ hb⟩
 ·obtain rfl:j=j':=by omega
  rw [hj]at hj';cases hj';exact k
 ·have:=(aa1.mp hj).1
  rw [dB];omega
theorem uQ{B n:Nat}(h:B≤512):B ^ n≤2 ^ (9 * n):=by
 rw [Nat.pow_mul];exact Nat.pow_le_pow_left h n
theorem qT(cols:List (List Int))(ds:List Nat)(d:Nat):cH cols (ds++[d])=cH cols ds++[cols.getD d []]:=by
 unfold cH;rw [ab4];rfl
section
variable {P:Program} {w:World} {K:Frag} {mg:Str→Option Value} {base:Heap} {aM:Addr}
theorem A9{f C Cs:Addr}{fd:FuncData}(F:cY K "law" "law" l5 f fd)(T:Txt mg aM)(TC:bM K C)(TS:cv K Cs)(D_law_at:bN P w K mg base "_law_at" 12 ["_law_script","_law_k"] (xy K))(D_law_ranges:bN P w K mg base "_law_ranges" 12 ["_law_script","_law_most"] (kr K))(D_law_columns:bN P w K mg base "_law_columns" 12 ["_law_ranges_here"] (rH K))(D_law_text:bN P w K mg base "_law_text" 12 ["_law_ranges_here","_law_rules"] (nZ K))(D_read:bN P w K mg base "read" 12 ["text"] (nY P w K mg base Cs))
  (DM_Machine:my P w K mg base "Machine" C 11 ["self","score"] (gN P w K mg base C Cs)) (D_law_whole:bN P w K mg base "_law_whole" 12 ["_law_found"] iu) (D_law_cells:bN P w K mg base "_law_cells" 12 ["_law_script","_law_start","_law_many"] (nX K)) (D_number_of:bN P w K mg base "number_of" 12 ["machine","pattern","line"] (gQ P w K C Cs)) (D_line_at:bN P w K mg base "line_at" 12 ["machine","pattern","number"] (iV P w K C Cs)) (D_law_same:bN P w K mg base "_law_same" 12 ["_law_found","_law_line"] (rJ K)) (D_law_refused:bN P w K mg base "_law_refused" 12 ["_law_machine","_law_pattern","_law_number"] (iX P w K C Cs)):aR P w K mg base cO 13 f fd ["_law_script"] (sS K):=by
 refine F.ok sc_law (fun vs H Q E h=>?_) (fun cdv A outer s H vs Q E hr h=>?_)
 ·obtain⟨a,ns,rfl,_⟩:=h
  rfl
 obtain⟨a,ns,rfl,hS,hB,ln,k⟩:=h
 refine⟨_,(ah (ay (i:=1) sc_law.nd rfl (Or.inr rfl) (aE D_law_ranges hr (by rfl) (aa (pr 0) (aa ao af))))
 (ah (ay (i:=2) sc_law.nd rfl (Or.inl rfl) (aE D_law_columns hr (by rfl) (aa (pr 1) af)))
 (ah (ay (i:=3) sc_law.nd rfl (Or.inl rfl) (aA (dy K) (aA (o1 bW) (aE D_law_at hr (by rfl) (aa (pr 0) (aa ao af))) ao) (aA (mZ K) ao (bc (gc) (by rfl) T.n_int boot_int (aa (dz (DR K (Ct hr)) (aA (o1 bW) (aA (o1 da) (aE D_law_at hr (by rfl) (aa (pr 0) (aa ao af))) ao) ao) ao (aQ _)) af)))))
 (ah (ay (i:=4) sc_law.nd rfl (Or.inl rfl) (bA af))
 (ah (ay (i:=5) sc_law.nd rfl (Or.inl rfl) ao)
 (ah (ay (i:=6) sc_law.nd rfl (Or.inl rfl) ao)
 (ah (bu PassesOwn.never rfl (aX K (aE D_law_cells hr (by rfl) (aa (pr 0) (aa ao (aa (pr 3) af))))) (aw (i:=7) sc_law.nd rfl (Or.inl rfl))
 (ah (bG (bO K PySem.F.plainAttrs_list PySem.F.slot_list_append PySem.F.type_list_append bp (pr 4) (aa (aV (bC K) (pr 2) (aA (o1 bW) (pr 7) (ax (aG K) (by rfl) T.n_len boot_len (aa (pr 2) af))) (fun _ _=>rfl)) af)))
 (ah (ay (i:=5) sc_law.nd rfl (Or.inl rfl) (aA (dy K) (aA (mZ K) (pr 5) (ax (aG K) (by rfl) T.n_len boot_len (aa (pr 2) af))) (aA (o1 bW) (pr 7) (ax (aG K) (by rfl) T.n_len boot_len (aa (pr 2) af)))))
 (ak (ay (i:=6) sc_law.nd rfl (Or.inl rfl) (aA (mZ K) (pr 6) (ax (aG K) (by rfl) T.n_len boot_len (aa (pr 2) af))))))))
 (ah (gD (i:=8) sc_law.nd rfl (Or.inl rfl) (own:=["_law_column"]) (js:=[1]) rfl (aX K (pr 4)) (aW.of (by rfl)) (fun _ _ _ _ _=>(aw (i:=0) (show List.Nodup (["_law_column","_law_ranges_here"]:List Str)from by decide +kernel) rfl (Or.inl rfl))) (fun _ _ _ _ _=>bS) (fun _ _ _ _ _=>(bc (fw K) (by rfl) T.n_tuple boot_tuple (aa (aA (mZ K) (bA (aa bR af)) (ax (aG K) (by rfl) T.n_len boot_len (aa (pr 1) af))) af))) rfl)
 (ah (ay (i:=9) sc_law.nd rfl (Or.inl rfl) (Ap DM_Machine hr (by rfl) (aa (aE D_read hr (by rfl) (aa (aE D_law_text hr (by rfl) (aa (pr 1) (aa (bA af) af))) af)) af)))
 (ah (ay (i:=10) sc_law.nd rfl (Or.inl rfl) (aE D_number_of hr (by rfl) (aa (pr 9) (aa (bc (cT K) (by rfl) T.n_list boot_list (aa (pr 8) af)) (aa (bc (cT K) (by rfl) T.n_list boot_list (aa (pr 4) af)) af)))))
 (ah (bL (PW.pt (fg (cL (a0 (aE D_law_whole hr (by rfl) (aa (pr 10) af)) (fun _=>rfl))) (fg (cz (aN (yU K (Ct hr)) (pr 10) (pr 5) (aQ _))) (eZ (cL (a0 (aE D_law_same hr (by rfl) (aa (aE D_line_at hr (by rfl) (aa (pr 9) (aa (bc (cT K) (by rfl) T.n_list boot_list (aa (pr 8) af)) (aa (pr 5) af)))) (aa (pr 4) af))) (fun _=>rfl))))))) (ak (aC eP)) aY)
 (ah (ay (i:=11) sc_law.nd rfl (Or.inl rfl) (aA (o1 bW) (aA (o1 da) (aE D_law_at hr (by rfl) (aa (pr 0) (aa ao af))) ao) (aA (o1 ng) ao ao)))
 (ah (bu PassesOwn.never rfl (aX K (bA (aa (pr 6) (aa (aA (dy K) (pr 6) (pr 11)) (aa (aA (o0 gB) (sH (u1 n8) ao) (pr 11)) af))))) (aw (i:=12) sc_law.nd rfl (Or.inl rfl))
 (ak (bL (cL (a0 (aE D_law_refused hr (by rfl) (aa (pr 9) (aa (pr 8) (aa (pr 12) af)))) (fun _=>rfl))) (ak (aC eP)) aY)))
 (ak (aC (aE D_law_same hr (by rfl) (aa (aE D_line_at hr (by rfl) (aa (pr 9) (aa (pr 8) (aa (pr 5) af)))) (aa (pr 4) af)))))))))))))))))),?_⟩
 have hs:sizeLine=16777216:=sizeLine_eq;refine aL (fun σ H'=>∃(q:Addr) (bs:List (Int×Int)),1≤bs.length∧bs.length≤4∧(∀b∈bs,A8 b)∧gv bs≤6∧bB K H' q bs∧σ=[some (.ref a),some (.ref q),none,none,none,none,none,none,none,none,none,none,none]∧au H H') ?_ ?_
 ·intro u' hu
  walk_at "rd";exact⟨a,ns,6,rfl,hS,by decide,by decide,fun q bs H1 l1 l4 hb hc hq hC s1=>hu _ _ ⟨q,bs,l1,l4,hb,hc,hC.ranges,rfl,s1⟩⟩
 rintro _ H1 ⟨q,bs,l1,l4,hb,hc,RA,rfl,s1⟩;have hbb:∀b∈bs,b.1.natAbs < 10 ^ 40∧b.2.natAbs < 10 ^ 40:=fun b h=>⟨(hb b h).big.2.1,(hb b h).big.2.2.1⟩;have hw1:∀b∈bs,1≤wN b:=fun b h=>(hb b h).big.2.2.2.2;have hwt:vi bs=(gv bs:Int):=zV fun b h=>(hb b h).1;have cl:=bI bs;have c1:1≤gv bs:=mI bs 1 hw1;have MC0:∀{met:List MS},met.length≤1000→i8 [] bs met:=fun h=>⟨l4,hw1,by omega,h⟩;refine aL (fun σ H'=>∃sm:Addr,aS H' sm (aj bs)∧σ=[some (.ref a),some (.ref q),some (.ref sm),none,none,none,none,none,none,none,none,none,none]∧au H1 H') ?_ ?_
 ·intro u' hu
  walk_at "rd";exact⟨q,bs,rfl,RA,l4,hw1,by omega,fun sm H2 _ CN s2=>hu _ _ ⟨sm,CN,rfl,s2⟩⟩
 rintro _ H2 ⟨sm,CS,rfl,s2⟩;refine aL (fun σ H'=>∃n:Nat,n≤100∧σ=[some (.ref a),some (.ref q),some (.ref sm),some (.int n),none,none,none,none,none,none,none,none,none]∧H2=H') ?_ ?_
 ·intro u' hu
  walk_at "rd"
  refine⟨a,ns,3,rfl,(s1.trans s2).seq hS,by decide,by decide,_,rfl,by decide,a,ns,3,rfl,(s1.trans s2).seq hS,by decide,by decide,_,rfl,⟨by decide,by decide⟩,by decide,.of_left (by decide),hu _ _ ⟨(Dt ns 3 % 20+81 * if Dt ns 3 / 20 % 6=4 then 1 else 0).toNat,by split<;>omega,?_,rfl⟩⟩
  rw [Int.toNat_of_nonneg (by split<;>omega)]
 rintro _ _ ⟨n,hn,rfl,rfl⟩;refine aL (fun σ H'=>∃p:Addr,H2 p=none∧aS H' p []∧σ=[some (.ref a),some (.ref q),some (.ref sm),some (.int n),some (.ref p),none,none,none,none,none,none,none,none]∧au H2 H') ?_ ?_
 ·intro u' hu
  walk_at "rd";exact⟨by omega,fun p hp=>hu _ _ ⟨p,hp,⟨[],ag,rfl,fun i p us e=>nomatch e⟩,rfl,ar hp⟩⟩
 rintro _ H3 ⟨p,hp2,CN3,rfl,s3⟩;refine aL (fun σ H'=>σ=[some (.ref a),some (.ref q),some (.ref sm),some (.int n),some (.ref p),some (.int ((0:Nat):Int)),none,none,none,none,none,none,none]∧H3=H') ?_ ?_
 ·intro u' hu
  walk_at "rd";exact hu _ _ ⟨rfl,rfl⟩
 rintro _ _ ⟨rfl,rfl⟩;refine aL (fun σ H'=>σ=[some (.ref a),some (.ref q),some (.ref sm),some (.int n),some (.ref p),some (.int ((0:Nat):Int)),some (.int ((1:Nat):Int)),none,none,none,none,none,none]∧H3=H') ?_ ?_
 ·intro u' hu
  walk_at "rd";exact hu _ _ ⟨rfl,rfl⟩
 rintro _ _ ⟨rfl,rfl⟩;refine aL (fun σ H'=>∃(ds:List Nat) (o7:Option V),ds.length≤100∧(∀d∈ds,d < (aj bs).length)∧aS H' p (cH (aj bs) ds)∧σ=[some (.ref a),some (.ref q),some (.ref sm),some (.int n),some (.ref p),some (.int (ck (aj bs).length ds:Nat)),some (.int ((aj bs).length ^ ds.length:Nat)),o7,none,none,none,none,none]∧au H2 H') ?_ ?_
 ·intro u' hu
  walk_at "rd";refine⟨a,ns,4,n,rfl,((s1.trans s2).trans s3).seq hS,ln,by decide,by omega,fun ce cs H4 cl4 hce0 hce s4=>?_⟩;obtain⟨ss,hsm,hsT⟩:=CS;obtain⟨Pv,hPv⟩:∃Pv:Nat→L2.St→Hp→Prop,Pv=fun i σ H'=>∃(ds:List Nat) (o7:Option V),ds.length=i∧(∀d∈ds,d < (aj bs).length)∧aS H' p (cH (aj bs) ds)∧H' ce=some (.lst (cs.map V.int))∧σ=[some (.ref a),some (.ref q),some (.ref sm),some (.int n),some (.ref p),some (.int (ck (aj bs).length ds:Nat)),some (.int ((aj bs).length ^ ds.length:Nat)),o7,none,none,none,none,none]∧au H2 H':=⟨_,rfl⟩;refine ba (aI.of hce) (bK (xs:=cs.map V.int) Pv (by rw [hPv];exact⟨[],none,rfl,(fun d hd=>nomatch hd),CN3.same s4,hce,rfl,s3.trans s4⟩) (fun i σ H' _ h=>by rw [hPv]at h;obtain⟨_,_,_,_,_,h,_⟩:=h;exact aI.of h) ?_ ?_)
  ·rintro i y σ H5 hy hI
   have hi:i < n:=by
    have:=(aa1.mp hy).1
    rw [aa0]at this;omega
   rw [hPv]at hI;obtain⟨ds,o7,dl,hd,CN5,hce5,rfl,s5⟩:=hI;obtain⟨c,_,rfl⟩:∃c∈cs,V.int c=y:=ac3.mp (aa9 hy);have hs5:H5 sm=some (.lst (ss.map V.ref)):=s5 _ _ hsm;have ssl:ss.length=(aj bs).length:=hsT.1;have r0:=ak3 c (show((aj bs).length:Int)≠0 by omega);have r1:=al1 c (show 0 < ((aj bs).length:Int)by omega);obtain⟨m,hm⟩:∃m:Nat,c % ((aj bs).length:Int)=m:=⟨(c % ((aj bs).length:Int)).toNat,by omega⟩
   have hm1:m < (aj bs).length:=by omega
   have em:(aj bs)[m]?=some (aj bs)[m]:=aa2 hm1;obtain⟨z,es⟩:∃z,ss[m]?=some z:=⟨_,aa2 (by omega)⟩;have ht2:=hsT.2 m _ _ es em
   have eg:(aj bs).getD m []=(aj bs)[m]:=by rw [ac8,em];rfl
   have hds:∀d∈ds++[m],d < (aj bs).length:=fun d h=>by
    rcases ad7.mp h with h | h
    ·exact hd d h
    ·rw [ab7.mp h];exact hm1
   have nb:(aj bs).length ^ ds.length≤2 ^ (9 * ds.length):=uQ (by omega);have nl:=mY hd;have p9:2 ^ (9 * ds.length) < 2 ^ 1000:=Nat.pow_lt_pow_right (by decide) (by omega);have m1:IntMulOk ((ck (aj bs).length ds:Nat):Int) ((aj bs).length:Int):=mT (m:=1000) (by rw [Int.natAbs_natCast];omega) (ad5 (m:=400) (by omega) (by decide +kernel)) (by decide);have m2:IntMulOk (((aj bs).length ^ ds.length:Nat):Int) ((aj bs).length:Int):=mT (m:=1000) (by rw [Int.natAbs_natCast];omega) (ad5 (m:=400) (by omega) (by decide +kernel)) (by decide);obtain⟨xs,x1,x2,x3⟩:=CN5.add (s5 _ _ ht2)
   have nps:sm≠p:=fun e=>by rw [e,hp2]at hsm;cases hsm
   have ncp:ce≠p:=fun e=>by
    obtain⟨zs,hz,_⟩:=CN3;rw [e,hz]at hce0;cases hce0
   have hs6:(upd H5 p (.lst (xs++[.ref z]))) sm=some (.lst (ss.map V.ref)):=by rw [ai nps];exact hs5
   have hx2:xs.length≤100:=by
    rw [x2];unfold cH;rw [aa0];omega
   walk_at "rd";refine⟨.inl ⟨rfl,_,aI.of x1⟩,_,.inl (aI.of hs5),?_⟩;rw [aa0,ssl,hm];refine⟨by omega,bT (aI.of hs5) (aK (by rw [aa4,es];rfl)) ⟨p,xs,_,rfl,rfl,x1,by omega,_,.inl (aI.of hs6),?_⟩⟩;rw [aa0,ssl];refine⟨m1,_,.inl (aI.of hs6),?_⟩;rw [aa0,ssl,hm];refine⟨by omega,_,.inl (aI.of hs6),?_⟩;rw [aa0,ssl];refine⟨m2,?_⟩;rw [hPv];refine⟨ds++[m],some (.int c),by rw [ab3,dl];rfl,hds,?_,by rw [ai ncp];exact hce5,?_,xV hp2 s5⟩
   ·rw [qT,eg]
    exact x3
   ·rw [uD,ab3,List.length_singleton,am8,Int.natCast_add,ai6,ai6]
  ·rintro σ H5 hI
   rw [hPv]at hI;obtain⟨ds,o7,dl,hd,CN5,_,rfl,s5⟩:=hI;rw [aa0]at dl;exact hu _ _ ⟨ds,o7,by omega,hd,CN5,rfl,s5⟩
 clear CN3 s3;clear H3;rintro _ H3 ⟨ds,o7,dl,hd,CN3,rfl,s3⟩
 have hll:(cH (aj bs) ds).length=ds.length:=by unfold cH;rw [aa0]
 refine aL (fun σ H'=>∃(pt:Addr) (gs:List Addr),i9 H' pt bs.length gs (List.replicate ds.length (dG bs.length))∧σ=[some (.ref a),some (.ref q),some (.ref sm),some (.int n),some (.ref p),some (.int (ck (aj bs).length ds:Nat)),some (.int ((aj bs).length ^ ds.length:Nat)),o7,some (.ref pt),none,none,none,none]∧au H3 H') ?_ ?_
 ·intro u' hu
  walk_at "rd";obtain⟨ls,hls,lsl,hlt⟩:=CN3;refine ba (aI.of hls) (bt (xs:=ls.map V.ref) (fun i ys H'=>∃gs:List Addr,ys=gs.map V.ref∧gs.length=i∧(∀(j:Nat) (g:Addr),gs[j]?=some g→H' g=some (.tup ((dG bs.length).map yW)))∧au H3 H') (by rw [aa0];omega) ⟨[],rfl,rfl,(fun j g e=>nomatch e),au.refl _⟩ ?_ ?_ ?_ ?_)
  ·rintro i ys H' ⟨gs,rfl,hl,_⟩
   rw [aa0];omega
  ·rintro i ys H' ⟨gs,rfl,hl,_,s4⟩
   exact aI.of (s4 _ _ hls)
  ·rintro i v ys H4 hv ⟨gs,rfl,hl,hg,s4⟩
   simp only [cy];walk_at "rd";refine⟨by omega,fun p1 hp1=>?_⟩;obtain⟨ts,hts,htl,htc⟩:=RA.same (((s2.trans s3).trans s4).upd hp1 (o:=HO.lst [V.non]));refine⟨_,.inl hts,?_⟩;rw [aa0,htl];refine zH ag (by omega) (by omega) (by rw [ad8];simp;omega) fun p2 hp2=>⟨p2,rfl,_,.inl ⟨aI.of ag,fun l hl'=>?_⟩⟩;have s5:=((ar hp1 (o:=HO.lst [V.non])).upd hp2 (o:=HO.lst (List.replicate (bs.length:Int).toNat [V.non]).flatten)).upd hl' (o:=HO.tup (List.replicate (bs.length:Int).toNat [V.non]).flatten);refine⟨gs++[l],by rw [ab4];rfl,by rw [ab3,hl];rfl,fun j g e=>?_,s4.trans s5⟩
   by_cases hj:j < gs.length
   ·rw [ab5 hj]at e
    exact s5 _ _ (hg j g e)
   ·rw [ab8 (by omega)]at e
    have h0:j - gs.length=0:=by
     have:=(aa1.mp e).1
     simp at this;omega
    rw [h0]at e;cases e;rw [ag,ad8,List.map_replicate];show some (HO.tup (List.replicate bs.length [V.non]).flatten)=some (HO.tup (List.replicate bs.length V.non));rw [List.flatten_replicate_singleton]
  ·rintro ys H4 ⟨gs,rfl,hl,hg,s4⟩ pt hpt
   rw [aa0,lsl,hll]at hl;refine hu _ _ ⟨pt,gs,⟨ag,by rw [hl,af8],fun i g ws e1 e2=>?_⟩,rfl,s4.upd hpt⟩;obtain rfl:=(al2.mp (aa9 e2)).2;exact⟨(ar hpt) _ _ (hg i g e1),by simp⟩
 rintro _ H4 ⟨pt,gs,P4,rfl,s4⟩;have CN4:=CN3.same s4
 have lp:(List.replicate ds.length (dG bs.length)).length≤1000:=by rw [af8];omega
 refine aL (fun σ H'=>∃(x:Addr) (met:List MS),met[0]?=some (none,[])∧i8 [] bs met∧jq P w K C Cs bs met x H'∧σ=[some (.ref a),some (.ref q),some (.ref sm),some (.int n),some (.ref p),some (.int (ck (aj bs).length ds:Nat)),some (.int ((aj bs).length ^ ds.length:Nat)),o7,some (.ref pt),some (.ref x),none,none,none]∧au H4 H') ?_ ?_
 ·intro u' hu
  walk_at "rd";refine⟨by omega,fun r hr0=>⟨q,r,bs,rfl,(RA.same ((s2.trans s3).trans s4)).same (ar hr0),aI.of ag,l4,hbb,fun H5 s5=>?_⟩⟩;have s45:=(ar hr0 (o:=HO.lst [])).trans s5;refine⟨mh (bs.map kZ),bs,kZ,rfl,xR (fun z hz=>?_) (by rw [aa0];omega),rP (fun z hz=>?_) (fun e=>?_),l1,l4,fun b h=>⟨l3 (hbb b h).1 (hbb b h).2,(hb b h).1,(hb b h).big.2.2.2.1⟩,by rw [hwt];omega,fun sc H6 SM s6=>?_⟩
  ·obtain⟨b,hb',rfl⟩:=ac3.mp hz
   have:=qa (hbb b hb').1 (hbb b hb').2
   omega
  ·obtain⟨b,hb',rfl⟩:=ac3.mp hz
   exact rC (l3 (hbb b hb').1 (hbb b hb').2) (by decide +kernel)
  ·have:=congrArg List.length e
   rw [aa0,ah1]at this;omega
  walk_at "rd";intro x dx hx hdx dxx;have s67:au H6 (upd (upd H6 dx (.own x)) x (.ins C dx [])):=(ar hdx).upd (by rw [ai dxx.symm];exact hx);refine⟨x,dx,sc,bs.length,bs,[],[],jF bs,H6,rfl,ag,hx,s67,SM,by simp,⟨rfl,fun j G m e=>nomatch e⟩,rfl,l4,hw1,by omega,oM (by omega),fun met H' mf sub cl ma old=>⟨rfl,hu _ _ ⟨x,met,mf.st,MC0 ?_,?_,rfl,fun b o e=>?_⟩⟩⟩
  ·have:=(uh mf sub).2
   omega
  ·obtain⟨dx',la,wa,hx',MB⟩:=ma
   have s6':au H6 H':=fun b o e=>old b o (aq e hx) (s67 _ _ e);obtain⟨dsc,ra,rb,rs,g1,g2,g3⟩:=SM.same s6';obtain rfl:rs=[]:=ag4.mp g3.len;exact⟨dx',la,wa,sc,dsc,ra,rb,hx',MB,g1,g2,g3.sq⟩
  ·have e3:=(s45.trans s6) _ _ e
   exact old b o (aq e3 hx) (s67 _ _ e3)
 rintro _ H5 ⟨x,met,hm0,MC,ME,rfl,s5⟩;have P5:=P4.same s5;have CN5:=CN4.same s5
 have hin:∀c∈cH (aj bs) ds,qr bs c:=fun c hc=>by
  unfold cH at hc;obtain⟨d,hd',rfl⟩:=ac3.mp hc;have e:(aj bs)[d]?=some ((aj bs)[d]'(hd d hd')):=aa2 (hd d hd');rw [ac8,e];exact colsF_iff.mp (ae2 _)
 have hat:=rZ (cols:=aj bs) hd;have hah:cg [] (aj bs) (List.replicate ds.length (dG bs.length)) (none,[]) (cH (aj bs) ds)=((ck (aj bs).length ds:Nat):Int):=jv (tP bs) bs.length (none,[]) hd
 have hli:(bo [] (aj bs) (List.replicate ds.length (dG bs.length)) (none,[]))[ck (aj bs).length ds]?=some (cH (aj bs) ds):=by rw [gy];exact hat
 have hcn:cj [] (aj bs) (List.replicate ds.length (dG bs.length)) (none,[])=(((aj bs).length ^ ds.length:Nat):Int):=lH _ _ _ _
 have lw:∀c∈cH (aj bs) ds,c.length≤100:=fun c hc=>by rw [(hin c hc).1];omega
 have copyC:∀{H':Hp} {z l:Addr} {line:List (List Int)} {xs:List V},aS H' z line→H' z=some (.lst xs)→H' l=none→aS (upd H' l (.lst xs)) l line:=fun {H' z l line xs} CN hz hl=>by
  obtain⟨ps,h1,h2⟩:=CN;rw [h1]at hz;cases hz;exact⟨ps,ag,h2.same (ar hl)⟩
 refine aL (fun σ H'=>σ=[some (.ref a),some (.ref q),some (.ref sm),some (.int n),some (.ref p),some (.int (ck (aj bs).length ds:Nat)),some (.int ((aj bs).length ^ ds.length:Nat)),o7,some (.ref pt),some (.ref x),some (.int (ck (aj bs).length ds:Nat)),none,none]∧au H5 H') ?_ ?_
 ·intro u' hu
  walk_at "rd";refine⟨_,.inl (aI.of P5.1),fun l hl=>?_⟩;have s6:=ar hl (o:=HO.lst (gs.map V.ref));have P6:=P5.move hl;obtain⟨ls,hls,lsT⟩:=CN5.same s6;refine⟨_,.inl (aI.of hls),fun l2 hl2=>?_⟩;have s7:=s6.upd hl2 (o:=HO.lst (ls.map V.ref));refine⟨x,l,l2,bs,met,_,_,_,rfl,ME.same s7,MC,(P6.same (ar hl2)).pat,P6.wide,lp,hm0,⟨ls,ag,lsT.same (ar hl2)⟩,by rw [hll,af8],hin,fun i c g e1 e2=>?_,fun H8 s8=>?_⟩
  ·obtain rfl:=(al2.mp (aa9 e2)).2
   exact gX c _
  ·rw [hah]
   exact hu _ _ ⟨rfl,s7.trans s8⟩
 rintro _ H6 ⟨rfl,s6⟩;have P6:=P5.same s6;have CN6:=CN5.same s6;refine aL (fun σ H'=>σ=[some (.ref a),some (.ref q),some (.ref sm),some (.int n),some (.ref p),some (.int (ck (aj bs).length ds:Nat)),some (.int ((aj bs).length ^ ds.length:Nat)),o7,some (.ref pt),some (.ref x),some (.int (ck (aj bs).length ds:Nat)),none,none]∧au H5 H') ?_ ?_
 ·intro u' hu
  walk_at "rd";refine⟨_,rfl,true,TruV_b.mpr rfl,?_⟩;rw [if_neg (by decide)];refine⟨_,.inl (aI.of P6.1),fun l hl=>?_⟩;have s7:=s6.upd hl (o:=HO.lst (gs.map V.ref));refine⟨x,l,bs,[],met,_,_,_,_,rfl,(ME.same s7).x,MC,(P6.move hl).pat,P6.wide,lp,hm0,hli,fun z H8 _ CZ s8=>⟨z,p,_,rfl,CZ,(CN5.same s7).same s8,by rw [hll];omega,lw,fun H9 s9=>⟨true,TruV_b.mpr rfl,?_⟩⟩⟩;rw [if_neg (by decide)];exact hu _ _ ⟨rfl,(s7.trans s8).trans s9⟩
 rintro _ H7 ⟨rfl,s7⟩;have P7:=P5.same s7;have CN7:=CN5.same s7;have ME7:=ME.same s7;refine aL (fun σ H'=>∃mo:Int,0≤mo∧σ=[some (.ref a),some (.ref q),some (.ref sm),some (.int n),some (.ref p),some (.int (ck (aj bs).length ds:Nat)),some (.int ((aj bs).length ^ ds.length:Nat)),o7,some (.ref pt),some (.ref x),some (.int (ck (aj bs).length ds:Nat)),some (.int mo),none]∧H7=H') ?_ ?_
 ·intro u' hu
  walk_at "rd";refine⟨a,ns,3,rfl,(((((s1.trans s2).trans s3).trans s4).trans s5).trans s7).seq hS,by decide,by decide,_,rfl,⟨by decide,by decide⟩,⟨by decide,by decide,by decide⟩,by decide,hu _ _ ⟨_,ak3 _ (by decide),rfl,rfl⟩⟩
 rintro _ _ ⟨mo,hmo,rfl,rfl⟩;refine aL (fun σ H'=>∃o12:Option V,σ=[some (.ref a),some (.ref q),some (.ref sm),some (.int n),some (.ref p),some (.int (ck (aj bs).length ds:Nat)),some (.int ((aj bs).length ^ ds.length:Nat)),o7,some (.ref pt),some (.ref x),some (.int (ck (aj bs).length ds:Nat)),some (.int mo),o12]∧au H7 H') ?_ ?_
 ·intro u' hu
  walk_at "rd";refine⟨by omega,fun tl htl=>?_⟩
  have hlist:∀z∈[(((aj bs).length ^ ds.length:Nat):Int),(((aj bs).length ^ ds.length:Nat):Int)+mo,-1 - mo],¬(0≤z∧z < cj [] (aj bs) (List.replicate ds.length (dG bs.length)) (none,[])):=fun z hz h=>by
   rw [hcn]at h;simp only [ab6,ac4,or_false]at hz
   rcases hz with rfl | rfl | rfl<;>omega
  refine ba (aI.of ag) (bK (xs:=[(((aj bs).length ^ ds.length:Nat):Int),(((aj bs).length ^ ds.length:Nat):Int)+mo,-1 - mo].map V.int) (fun i σ H'=>∃o12:Option V,σ=[some (.ref a),some (.ref q),some (.ref sm),some (.int n),some (.ref p),some (.int (ck (aj bs).length ds:Nat)),some (.int ((aj bs).length ^ ds.length:Nat)),o7,some (.ref pt),some (.ref x),some (.int (ck (aj bs).length ds:Nat)),some (.int mo),o12]∧au H7 H'∧H' tl=some (.lst ([(((aj bs).length ^ ds.length:Nat):Int),(((aj bs).length ^ ds.length:Nat):Int)+mo,-1 - mo].map V.int))) ⟨none,rfl,ar htl,ag⟩ (fun i σ H' _ h=>by obtain⟨_,_,_,h⟩:=h;exact aI.of h) ?_ ?_)
  ·rintro i y σ H8 hy ⟨o12,rfl,s8,htl8⟩
   obtain⟨z,hz,rfl⟩:=ac3.mp (aa9 hy);walk_at "rd";refine⟨x,pt,bs,[],met,_,_,z,gs,rfl,(ME7.same s8).x,MC,P7.same s8,lp,hm0,hlist z hz,fun H9 s9=>⟨true,TruV_b.mpr rfl,?_⟩⟩;rw [if_neg (by decide)];exact⟨s8.trans s9,s9 _ _ htl8⟩
  ·rintro σ H8 ⟨o12,rfl,s8,_⟩
   exact hu _ _ ⟨o12,rfl,s8⟩
 rintro _ H8 ⟨o12,rfl,s8⟩;walk_at "rd";exact⟨x,pt,bs,[],met,_,_,_,_,rfl,(ME7.same s8).x,MC,(P7.same s8).pat,P7.wide,lp,hm0,hli,fun z H9 _ CZ s9=>⟨z,p,_,rfl,CZ,(CN7.same s8).same s9,by rw [hll];omega,lw,fun H10 s10=>k _⟩⟩
end
theorem x8{us:List Value}(hl:us.length=1):∃x0,us=[x0]:=match us,hl with | [x0],_=>⟨x0,rfl⟩
theorem tj{us:List Value}(hl:us.length=2):∃x0 x1,us=[x0,x1]:=match us,hl with | [x0,x1],_=>⟨x0,x1,rfl⟩
theorem x9{us:List Value}(hl:us.length=3):∃x0 x1 x2,us=[x0,x1,x2]:=match us,hl with | [x0,x1,x2],_=>⟨x0,x1,x2,rfl⟩
theorem BZ{us:List Value}(hl:us.length=4):∃x0 x1 x2 x3,us=[x0,x1,x2,x3]:=match us,hl with | [x0,x1,x2,x3],_=>⟨x0,x1,x2,x3,rfl⟩
theorem all_mk{l:PySem.W.OpenLaw}{w:World}{K:Frag}{h:Heap}{mg:Str→Option Value}{fa:Addr}{Zac:Addr}{Zas:Addr}{Zag:Addr}{Zah:Addr}{Zai:Addr}{Zaj:Addr}{Zak:Addr}{Zal:Addr}{Zam:Addr}{Zan:Addr}{Zao:Addr}{Zap:Addr}{Zaq:Addr}{Zab:Addr}{Zaa:Addr}(X:K.In h)(G:h.Ns mainGlobals mg)(hfa:mg "law"=some (.ref fa))
  (Zar:nsIn K mainGlobals "NoNumber"=some (some (.ref Zac)))
  (Zat:nsIn K mainGlobals "ScoreError"=some (some (.ref Zas)))
  (Zau:nsIn K mainGlobals "Apart"=some (some (.ref Zag)))
  (Zav:nsIn K mainGlobals "BadLine"=some (some (.ref Zah)))
  (Zaw:nsIn K mainGlobals "BadRow"=some (some (.ref Zai)))
  (Zax:nsIn K mainGlobals "Crowded"=some (some (.ref Zaj)))
  (Zay:nsIn K mainGlobals "Endless"=some (some (.ref Zak)))
  (Zaz:nsIn K mainGlobals "NoLine"=some (some (.ref Zal)))
  (Za0:nsIn K mainGlobals "NoName"=some (some (.ref Zam)))
  (Za1:nsIn K mainGlobals "NoRow"=some (some (.ref Zan)))
  (Za2:nsIn K mainGlobals "TooWide"=some (some (.ref Zao)))
  (Za3:nsIn K mainGlobals "Unfit"=some (some (.ref Zap)))
  (Za4:nsIn K mainGlobals "Unlike"=some (some (.ref Zaq)))
  (Zcs:nsIn K mainGlobals "Score"=some (some (.ref Zab)))
  (Zae:cv K Zab)
  (Zct:nsIn K mainGlobals "Machine"=some (some (.ref Zaa)))
  (Zad:bM K Zaa)
  (Za5:∃f fd,qm K Zac f ["__setattr__","__getattribute__","__getattr__","__class__","number"]∧cY K "__init__" "NoNumber.__init__" cq f fd)
  (Za6:PySem.W.exmOne K (.ref Zac) (.ref Zas)=some true)
  (Za7:kitOne K (.ref Zac) (.type "ValueError")=some true)
  (Za8:kitOne K (.ref Zac) (.ref Zag)=some false)
  (Za9:kitOne K (.ref Zac) (.ref Zah)=some false)
  (Zba:kitOne K (.ref Zac) (.ref Zai)=some false)
  (Zbb:kitOne K (.ref Zac) (.ref Zaj)=some false)
  (Zbc:kitOne K (.ref Zac) (.ref Zak)=some false)
  (Zbd:kitOne K (.ref Zac) (.ref Zal)=some false)
  (Zbe:kitOne K (.ref Zac) (.ref Zam)=some false)
  (Zbf:kitOne K (.ref Zac) (.ref Zan)=some false)
  (Zbg:kitOne K (.ref Zac) (.ref Zao)=some false)
  (Zbh:kitOne K (.ref Zac) (.ref Zap)=some false)
  (Zbi:kitOne K (.ref Zac) (.ref Zaq)=some false)
  (Zbj:∃f fd,bh K "is_number" fO f fd)
  (Zbk:∃f fd,vk K "Score" "Score.__init__" cW Zab f fd)
  (Zbl:∃f fd,bh K "lengthened" fb f fd)
  (Zbm:∃f fd,bh K "columns" iP f fd)
  (Zbn:∃f fd,bh K "weight" kh f fd)
  (Zbo:∃f fd,bh K "not_too_wide" dY f fd)
  (Zbp:∃f fd,bh K "memories_after" cX f fd)
  (Zbq:∃f fd,bh K "all_close" fN f fd)
  (Zbr:∃C f fd,je K "States" "__init__" "States.__init__" cM C f fd)
  (Zbs:∃f fd,ft K Zaa "to" "States.to" fM f fd)
  (Zbt:∃f fd,ft K Zaa "ends" "States.ends" eB f fd)
  (Zbu:∃f fd,ft K Zaa "states" "States.states" dm f fd)
  (Zbv:∃f fd,ft K Zaa "ways" "States.ways" eC f fd)
  (Zbw:∃f fd,ft K Zaa "build" "Machine.build" dk f fd)
  (Zbx:∃f fd,vk K "Machine" "Machine.__init__" cE Zaa f fd)
  (Zby:∃f fd,bh K "voice_range" eG f fd)
  (Zbz:∃f fd,bh K "read" rD f fd)
  (Zb0:∃f fd,bh K "_law_at" kg f fd)
  (Zb1:∃f fd,bh K "_law_draws" fQ f fd)
  (Zb2:∃f fd,bh K "_law_ranges" e8 f fd)
  (Zb3:∃f fd,bh K "_law_text" gI f fd)
  (Zb4:∃f fd,bh K "_law_whole" fR f fd)
  (Zb5:∃f fd,bh K "_law_cells" fP f fd)
  (Zb6:∃f fd,bh K "agrees" ke f fd)
  (Zb7:∃f fd,bh K "agreeing" gF f fd)
  (Zb8:∃f fd,bh K "counted_on" e7 f fd)
  (Zb9:∃f fd,bh K "counts_paper" dX f fd)
  (Zca:∃f fd,bh K "numbered" gJ f fd)
  (Zcb:∃f fd,bh K "line_at" iQ f fd)
  (Zcc:∃f fd,bh K "lesser_ways" eF f fd)
  (Zcd:∃f fd,bh K "ahead_by" gG f fd)
  (Zce:∃f fd,bh K "ahead" nO f fd)
  (Zcf:∃f fd,bh K "unlike_place" dZ f fd)
  (Zcg:∃f fd,bh K "first_outside" dn f fd)
  (Zch:∃f fd,bh K "fault" nP f fd)
  (Zci:∃f fd,bh K "number_of" fS f fd)
  (Zcj:∃f fd,bh K "_law_columns" eD f fd)
  (Zck:∃f fd,bh K "_law_refused" eE f fd)
  (Zcl:∃f fd,bh K "_law_same" gH f fd)
  (z_len:nsIn K mainGlobals "len"=some none)
  (z_range:nsIn K mainGlobals "range"=some none)
  (z_all:nsIn K mainGlobals "all"=some none)
  (z_min:nsIn K mainGlobals "min"=some none)
  (z_max:nsIn K mainGlobals "max"=some none)
  (z_tuple:nsIn K mainGlobals "tuple"=some none)
  (z_list:nsIn K mainGlobals "list"=some none)
  (z_isinstance:nsIn K mainGlobals "isinstance"=some none)
  (z_bool:nsIn K mainGlobals "bool"=some none)
  (z_int:nsIn K mainGlobals "int"=some none)
  (z_str:nsIn K mainGlobals "str"=some none)
  (z_enumerate:nsIn K mainGlobals "enumerate"=some none)
  (z_zip:nsIn K mainGlobals "zip"=some none)
  (z_sum:nsIn K mainGlobals "sum"=some none)
  (z_reversed:nsIn K mainGlobals "reversed"=some none)
  (z_ValueError:nsIn K mainGlobals "ValueError"=some none)
  (g_FIGURES:∃u,nsIn K mainGlobals "FIGURES"=some (some u)∧aF (.str "0123456789") u)
  (g_MOST_FIGURES:∃u,nsIn K mainGlobals "MOST_FIGURES"=some (some u)∧aF (.int 40) u)
  (g_MOST_VOICES:∃u,nsIn K mainGlobals "MOST_VOICES"=some (some u)∧aF (.int 4) u)
  (g_MOST_RULES:∃u,nsIn K mainGlobals "MOST_RULES"=some (some u)∧aF (.int 12) u)
  (g_MOST_WEIGHT:∃u,nsIn K mainGlobals "MOST_WEIGHT"=some (some u)∧aF (.int 400) u)
  (g_START:∃u,nsIn K mainGlobals "START"=some (some u)∧aF (.int 0) u)
  (Zcm:∃f fd,bh K "law" l5 f fd)
  :∃fd:FuncData,(∀(s:Shared) (v:Value),BindsTo s fd ⟨[v],[]⟩ [("_law_script",v)])∧∀base:Heap,K.In base→base.Ns mainGlobals mg→aR l.prog w K mg base cO 13 fa fd ["_law_script"] (sS K):=by
 obtain⟨Zf6,Zf7,Zcn⟩:=Zcm;obtain⟨Ze6,Ze7,Zcu,Zcv⟩:=Za5;obtain⟨Zf8,Zf9,Zcw⟩:=Zbj;have Zcx:=Zcw.fn;obtain⟨Zga,Zgb,Zcy⟩:=Zbk;have Zcz:=Zcy.fn;obtain⟨Zgc,Zgd,Zc0⟩:=Zbl;have Zc1:=Zc0.fn;obtain⟨Zge,Zgf,Zc2⟩:=Zbm;have Zc3:=Zc2.fn;obtain⟨Zgg,Zgh,Zc4⟩:=Zbn;have Zc5:=Zc4.fn;obtain⟨Zgi,Zgj,Zc6⟩:=Zbo;have Zc7:=Zc6.fn;obtain⟨Zgk,Zgl,Zc8⟩:=Zbp;have Zc9:=Zc8.fn;obtain⟨Zgm,Zgn,Zda⟩:=Zbq;have Zdb:=Zda.fn;obtain⟨Zgo,Zgp,Zgq,Zdc⟩:=Zbr;have Zdd:=Zdc.fn;obtain⟨Zgr,Zgs,Zde⟩:=Zbs;have Zdf:=Zde.fn;obtain⟨Zgt,Zgu,Zdg⟩:=Zbt;have Zdh:=Zdg.fn;obtain⟨Zgv,Zgw,Zdi⟩:=Zbu;have Zdj:=Zdi.fn;obtain⟨Zgx,Zgy,Zdk⟩:=Zbv;have Zdl:=Zdk.fn;obtain⟨Zgz,Zg0,Zdm⟩:=Zbw;have Zdn:=Zdm.fn;obtain⟨Zg1,Zg2,Zdo⟩:=Zbx;have Zdp:=Zdo.fn
 obtain⟨Zg3,Zg4,Zdq⟩:=Zby
 have Zdr:=Zdq.fn;obtain⟨Zg5,Zg6,Zds⟩:=Zbz;have Zdt:=Zds.fn;obtain⟨Zg7,Zg8,Zdu⟩:=Zb0;have Zdv:=Zdu.fn;obtain⟨Zg9,Zha,Zdw⟩:=Zb1;have Zdx:=Zdw.fn;obtain⟨Zhb,Zhc,Zdy⟩:=Zb2;have Zdz:=Zdy.fn;obtain⟨Zhd,Zhe,Zd0⟩:=Zb3;have Zd1:=Zd0.fn;obtain⟨Zhf,Zhg,Zd2⟩:=Zb4;have Zd3:=Zd2.fn;obtain⟨Zhh,Zhi,Zd4⟩:=Zb5;have Zd5:=Zd4.fn;obtain⟨Zhj,Zhk,Zd6⟩:=Zb6;have Zd7:=Zd6.fn;obtain⟨Zhl,Zhm,Zd8⟩:=Zb7;have Zd9:=Zd8.fn;obtain⟨Zhn,Zho,Zea⟩:=Zb8;have Zeb:=Zea.fn;obtain⟨Zhp,Zhq,Zec⟩:=Zb9;have Zed:=Zec.fn;obtain⟨Zhr,Zhs,Zee⟩:=Zca;have Zef:=Zee.fn;obtain⟨Ze8,Ze9,Zeg⟩:=Zcb;have Zco:=Zeg.fn;obtain⟨Zht,Zhu,Zeh⟩:=Zcc;have Zei:=Zeh.fn;obtain⟨Zhv,Zhw,Zej⟩:=Zcd;have Zek:=Zej.fn;obtain⟨Zhx,Zhy,Zel⟩:=Zce;have Zem:=Zel.fn;obtain⟨Zhz,Zh0,Zen⟩:=Zcf;have Zeo:=Zen.fn;obtain⟨Zh1,Zh2,Zep⟩:=Zcg;have Zeq:=Zep.fn;obtain⟨Zh3,Zh4,Zer⟩:=Zch;have Zes:=Zer.fn;obtain⟨Zh5,Zh6,Zet⟩:=Zci;have Zeu:=Zet.fn;obtain⟨Zh7,Zh8,Zev⟩:=Zcj;have Zew:=Zev.fn;obtain⟨Zh9,Zia,Zex⟩:=Zck;have Zey:=Zex.fn;obtain⟨Zib,Zic,Zez⟩:=Zcl;have Ze0:=Zez.fn;obtain⟨u_FIGURES,g_FIGURES,r_FIGURES⟩:=g_FIGURES;obtain⟨u_MOST_FIGURES,g_MOST_FIGURES,r_MOST_FIGURES⟩:=g_MOST_FIGURES;obtain⟨u_MOST_VOICES,g_MOST_VOICES,r_MOST_VOICES⟩:=g_MOST_VOICES;obtain⟨u_MOST_RULES,g_MOST_RULES,r_MOST_RULES⟩:=g_MOST_RULES;obtain⟨u_MOST_WEIGHT,g_MOST_WEIGHT,r_MOST_WEIGHT⟩:=g_MOST_WEIGHT;obtain⟨u_START,g_START,r_START⟩:=g_START;have e:=hfa.symm.trans (mg_of X G Zcn.ns);cases e;have T:Txt mg 0:={ n_len:=mg_none_of X G z_len,n_range:=mg_none_of X G z_range,n_all:=mg_none_of X G z_all,n_min:=mg_none_of X G z_min,n_max:=mg_none_of X G z_max,n_tuple:=mg_none_of X G z_tuple,n_list:=mg_none_of X G z_list,n_isinstance:=mg_none_of X G z_isinstance,n_bool:=mg_none_of X G z_bool,n_int:=mg_none_of X G z_int,n_str:=mg_none_of X G z_str,n_enumerate:=mg_none_of X G z_enumerate,n_zip:=mg_none_of X G z_zip,n_sum:=mg_none_of X G z_sum,n_reversed:=mg_none_of X G z_reversed,n_ValueError:=mg_none_of X G z_ValueError,g_FIGURES:=⟨_,mg_of X G g_FIGURES,r_FIGURES⟩,g_MOST_FIGURES:=⟨_,mg_of X G g_MOST_FIGURES,r_MOST_FIGURES⟩,g_MOST_VOICES:=⟨_,mg_of X G g_MOST_VOICES,r_MOST_VOICES⟩,g_MOST_RULES:=⟨_,mg_of X G g_MOST_RULES,r_MOST_RULES⟩,g_MOST_WEIGHT:=⟨_,mg_of X G g_MOST_WEIGHT,r_MOST_WEIGHT⟩,g_START:=⟨_,mg_of X G g_START,r_START⟩ };obtain⟨oc,od,kV,doc,pm,an,cdv,ct,osl,rfl,lk,hcd⟩:=Zcn.fn.ex;refine⟨fnOf "law" "law" (cC l5) (bX l5) (av l5) .none kV doc pm an cdv ct,fun s v=>.of_eq rfl,fun base _ _=>?_⟩;have Ze1:qj l.prog w K mg base "NoNumber" Zac 4 ["self","number"] (zQ Zac "number") ["__setattr__","__getattribute__","__getattr__","__class__","number"]:=⟨Ze6,Ze7,Zcu,(pw Zcv Zcu).mono (by decide),mg_of X G Zar,Zcv.binds (fun _ _ _ _ _ _ us hl=>by obtain⟨_,_,rfl⟩:=tj hl;rfl)⟩
 have ka:kitAny K (.ref Zac) [.ref Zag,.ref Zah,.ref Zai,.ref Zaj,.ref Zak,.ref Zal]=some false:=by simp only [kitAny,Za8,Za9,Zba,Zbb,Zbc,Zbd]
 have kb:kitAny K (.ref Zac) [.ref Zam,.ref Zan,.ref Zao,.ref Zap,.ref Zaq]=some false:=by simp only [kitAny,Zbe,Zbf,Zbg,Zbh,Zbi]
 have TX:Cd mg 0 K Zac Zas Zag Zah Zai Zaj Zak Zal Zam Zan Zao Zap Zaq:={ T with c_ScoreError:=⟨_,mg_of X G Zat,rfl⟩,c_NoNumber:=⟨_,mg_of X G Zar,rfl⟩,c_Apart:=⟨_,mg_of X G Zau,rfl⟩,c_BadLine:=⟨_,mg_of X G Zav,rfl⟩,c_BadRow:=⟨_,mg_of X G Zaw,rfl⟩,c_Crowded:=⟨_,mg_of X G Zax,rfl⟩,c_Endless:=⟨_,mg_of X G Zay,rfl⟩,c_NoLine:=⟨_,mg_of X G Zaz,rfl⟩,c_NoName:=⟨_,mg_of X G Za0,rfl⟩,c_NoRow:=⟨_,mg_of X G Za1,rfl⟩,c_TooWide:=⟨_,mg_of X G Za2,rfl⟩,c_Unfit:=⟨_,mg_of X G Za3,rfl⟩,c_Unlike:=⟨_,mg_of X G Za4,rfl⟩,x_ScoreError:=Za6,kV:=Za7,ka:=ka,kb:=kb };have Zfa:bN l.prog w K mg base "is_number" 1 ["word"] xC:=Zcw.df X G (uI Zcx T) (Zcx.binds (fun _ _ _ _ _ _ us hl=>by obtain⟨_,rfl⟩:=x8 hl;rfl));have Zfb:my l.prog w K mg base "Score" Zab 1 ["self","ranges","rules"] (fV K Zab):=Zcy.df X G (kR Zcz T Zae) (Zcz.binds (fun _ _ _ _ _ _ us hl=>by obtain⟨_,_,_,rfl⟩:=x9 hl;rfl));have Zfc:bN l.prog w K mg base "lengthened" 1 ["column","low","high"] (xB K):=Zc0.df X G (kT Zc1 T) (Zc1.binds (fun _ _ _ _ _ _ us hl=>by obtain⟨_,_,_,rfl⟩:=x9 hl;rfl));have Ze2:bN l.prog w K mg base "columns" 2 ["score"] (eR K Zab):=Zc2.df X G (q9 Zc3 T Zae Zfc) (Zc3.binds (fun _ _ _ _ _ _ us hl=>by obtain⟨_,rfl⟩:=x8 hl;rfl));have Zfd:bN l.prog w K mg base "weight" 8 ["score"] (kx l.prog w K mg base Zab):=Zc4.df X G (uL Zc5 T Zae) (Zc5.binds (fun _ _ _ _ _ _ us hl=>by obtain⟨_,rfl⟩:=x8 hl;rfl));have Zfe:bN l.prog w K mg base "not_too_wide" 9 ["score"] (iW l.prog w K mg base Zab):=Zc6.df X G (jd Zc7 T Zfd) (Zc7.binds (fun _ _ _ _ _ _ us hl=>by obtain⟨_,rfl⟩:=x8 hl;rfl));have Zff:bN l.prog w K mg base "memories_after" 8 ["rules","memories","before","column"] (gP l.prog w K mg base):=Zc8.df X G (m8 Zc9 T) (Zc9.binds (fun _ _ _ _ _ _ us hl=>by obtain⟨_,_,_,_,rfl⟩:=BZ hl;rfl));have Zfg:bN l.prog w K mg base "all_close" 8 ["rules","memories","last"] (gM l.prog w K mg base):=Zda.df X G (m7 Zdb T) (Zdb.binds (fun _ _ _ _ _ _ us hl=>by obtain⟨_,_,_,rfl⟩:=x9 hl;rfl));have Zfh:qh l.prog w K mg base "States" "__init__" 1 ["self"] (fc K Zaa):=Zdc.df X G (j3 Zdd T Zad) (Zdd.binds (fun _ _ _ _ _ _ us hl=>by obtain⟨_,rfl⟩:=x8 hl;rfl));have Zfi:bH l.prog w K mg base Zaa "to" 1 ["self","state","column"] (BC l.prog w Zaa):=Zde.ok Zad.cl (CI Zdf T Zad) (Zdf.binds (fun _ _ _ _ _ _ us hl=>by obtain⟨_,_,_,rfl⟩:=x9 hl;rfl));have Zfj:bH l.prog w K mg base Zaa "ends" 1 ["self","state"] (rG l.prog w Zaa):=Zdg.ok Zad.cl (yY Zdh T Zad) (Zdh.binds (fun _ _ _ _ _ _ us hl=>by obtain⟨_,_,rfl⟩:=tj hl;rfl));have Zfk:bH l.prog w K mg base Zaa "states" 1 ["self"] (ku l.prog w Zaa):=Zdi.ok Zad.cl (uK Zdj T Zad) (Zdj.binds (fun _ _ _ _ _ _ us hl=>by obtain⟨_,rfl⟩:=x8 hl;rfl));have Zcp:bH l.prog w K mg base Zaa "ways" 1 ["self","state"] (kv l.prog w Zaa):=Zdk.ok Zad.cl (y6 Zdl T Zad) (Zdl.binds (fun _ _ _ _ _ _ us hl=>by obtain⟨_,_,rfl⟩:=tj hl;rfl));have Zfl:bH l.prog w K mg base Zaa "build" 10 ["self","met","numbers","steps"] (nW l.prog w K mg base Zaa Zab):=Zdm.ok Zad.cl (wK Zdn T Zad Zae (Zff.up (by decide)) (Zfg.up (by decide))) (Zdn.binds (fun _ _ _ _ _ _ us hl=>by obtain⟨_,_,_,_,rfl⟩:=BZ hl;rfl));have Zfm:my l.prog w K mg base "Machine" Zaa 11 ["self","score"] (gN l.prog w K mg base Zaa Zab):=Zdo.df X G (m6 Zdp T Zad Zae (Zfh.up (by decide)) (Ze2.up (by decide)) Zfl) (Zdp.binds (fun _ _ _ _ _ _ us hl=>by obtain⟨_,_,rfl⟩:=tj hl;rfl));have Zfn:bN l.prog w K mg base "voice_range" 2 ["row"] (n0 K):=Zdq.df X G (j4 Zdr T Zfa) (Zdr.binds (fun _ _ _ _ _ _ us hl=>by obtain⟨_,rfl⟩:=x8 hl;rfl));have Zfo:bN l.prog w K mg base "read" 11 ["text"] (nY l.prog w K mg base Zab):=Zds.df X G (y3 Zdt T Zae (Zfn.up (by decide)) (Zfb.up (by decide)) (Zfe.up (by decide))) (Zdt.binds (fun _ _ _ _ _ _ us hl=>by obtain⟨_,rfl⟩:=x8 hl;rfl));have Zcq:bN l.prog w K mg base "_law_at" 1 ["_law_script","_law_k"] (xy K):=Zdu.df X G (CH Zdv T) (Zdv.binds (fun _ _ _ _ _ _ us hl=>by obtain⟨_,_,rfl⟩:=tj hl;rfl));have Ze3:bN l.prog w K mg base "_law_draws" 1 ["_law_cell","_law_many"] jm:=Zdw.df X G (wM Zdx T) (Zdx.binds (fun _ _ _ _ _ _ us hl=>by obtain⟨_,_,rfl⟩:=tj hl;rfl));have Zfp:bN l.prog w K mg base "_law_ranges" 2 ["_law_script","_law_most"] (kr K):=Zdy.df X G (uJ Zdz T Zcq Ze3) (Zdz.binds (fun _ _ _ _ _ _ us hl=>by obtain⟨_,_,rfl⟩:=tj hl;rfl));have Zfq:bN l.prog w K mg base "_law_text" 1 ["_law_ranges_here","_law_rules"] (nZ K):=Zd0.df X G (wQ Zd1 T) (Zd1.binds (fun _ _ _ _ _ _ us hl=>by obtain⟨_,_,rfl⟩:=tj hl;rfl));have Zcr:bN l.prog w K mg base "_law_whole" 1 ["_law_found"] iu:=Zd2.df X G (wR Zd3 T) (Zd3.binds (fun _ _ _ _ _ _ us hl=>by obtain⟨_,rfl⟩:=x8 hl;rfl));have Zfr:bN l.prog w K mg base "_law_cells" 2 ["_law_script","_law_start","_law_many"] (nX K):=Zd4.df X G (wL Zd5 T Zcq Ze3) (Zd5.binds (fun _ _ _ _ _ _ us hl=>by obtain⟨_,_,_,rfl⟩:=x9 hl;rfl));have Zaf:bN l.prog w K mg base "agrees" 1 ["column","given"] (eh K):=Zd6.df X G (uF Zd7 T) (Zd7.binds (fun _ _ _ _ _ _ us hl=>by obtain⟨_,_,rfl⟩:=tj hl;rfl));have Zfs:bN l.prog w K mg base "agreeing" 4 ["machine","given"] (gL l.prog w K Zaa Zab):=Zd8.df X G (pz Zd9 T Zad Zae (Ze2.up (by decide)) (Zaf.up (by decide))) (Zd9.binds (fun _ _ _ _ _ _ us hl=>by obtain⟨_,_,rfl⟩:=tj hl;rfl));have Zft:bN l.prog w K mg base "counted_on" 3 ["ways","taken","later"] (fU l.prog w K):=Zea.df X G (kS Zeb T) (Zeb.binds (fun _ _ _ _ _ _ us hl=>by obtain⟨_,_,_,rfl⟩:=x9 hl;rfl));have Ze4:bN l.prog w K mg base "counts_paper" 5 ["machine","pattern"] (jn l.prog w K Zaa Zab):=Zec.df X G (wO Zed T Zad Zfs (Zft.up (by decide)) (Zfk.up (by decide)) (Zcp.up (by decide)) (Zfj.up (by decide))) (Zed.binds (fun _ _ _ _ _ _ us hl=>by obtain⟨_,_,rfl⟩:=tj hl;rfl));have Zfu:bN l.prog w K mg base "numbered" 5 ["machine","pattern","paper","number"] (gR l.prog w K Zaa Zab):=Zee.df X G (pB Zef T Zad (Zaf.up (by decide)) (Zcp.up (by decide))) (Zef.binds (fun _ _ _ _ _ _ us hl=>by obtain⟨_,_,_,_,rfl⟩:=BZ hl;rfl));have Ze5:vj l.prog w K mg base "line_at" 6 ["machine","pattern","number"] (iq l.prog w K Zaa Zab Zac):=⟨Ze8,Ze9,rf Zco T Ze1 Ze4 Zfu,mg_of X G Zeg.ns,Zco.kp,Zco.binds (fun _ _ _ _ _ _ us hl=>by obtain⟨_,_,_,rfl⟩:=x9 hl;rfl)⟩;have Zfv:bN l.prog w K mg base "line_at" 6 ["machine","pattern","number"] (iV l.prog w K Zaa Zab):=Ze5.calm yO;have Zfw:bN l.prog w K mg base "lesser_ways" 4 ["machine","state","given","column"] (kq l.prog w K Zaa Zab):=Zeh.df X G (uH Zei T Zad (Zaf.up (by decide)) (Zcp.up (by decide))) (Zei.binds (fun _ _ _ _ _ _ us hl=>by obtain⟨_,_,_,_,rfl⟩:=BZ hl;rfl));have Zfx:bN l.prog w K mg base "ahead_by" 5 ["machine","pattern","paper","line"] (iU l.prog w K Zaa Zab):=Zej.df X G (pA Zek T Zad Zfw (Zaf.up (by decide)) (Zfi.up (by decide))) (Zek.binds (fun _ _ _ _ _ _ us hl=>by obtain⟨_,_,_,_,rfl⟩:=BZ hl;rfl));have Zfy:bN l.prog w K mg base "ahead" 6 ["machine","pattern","line"] (nV l.prog w K Zaa Zab):=Zel.df X G (wJ Zem T Ze4 Zfx) (Zem.binds (fun _ _ _ _ _ _ us hl=>by obtain⟨_,_,_,rfl⟩:=x9 hl;rfl));have Zfz:bN l.prog w K mg base "unlike_place" 2 ["pattern","line"] (iY K):=Zen.df X G (rh Zeo T Zaf) (Zeo.binds (fun _ _ _ _ _ _ us hl=>by obtain⟨_,_,rfl⟩:=tj hl;rfl));have Zf0:bN l.prog w K mg base "first_outside" 1 ["low","high","voice","line"] (gT K):=Zep.df X G (pC Zeq T) (Zeq.binds (fun _ _ _ _ _ _ us hl=>by obtain⟨_,_,_,_,rfl⟩:=BZ hl;rfl));have Zf1:bN l.prog w K mg base "fault" 2 ["score","line"] (ko K Zab):=Zer.df X G (uG Zes T Zae Zf0) (Zes.binds (fun _ _ _ _ _ _ us hl=>by obtain⟨_,_,rfl⟩:=tj hl;rfl));have Zf2:bN l.prog w K mg base "number_of" 7 ["machine","pattern","line"] (gQ l.prog w K Zaa Zab):=Zet.df X G (m9 Zeu T Zad (Zfz.up (by decide)) (Zf1.up (by decide)) Zfy) (Zeu.binds (fun _ _ _ _ _ _ us hl=>by obtain⟨_,_,_,rfl⟩:=x9 hl;rfl));have Zf3:bN l.prog w K mg base "_law_columns" 1 ["_law_ranges_here"] (rH K):=Zev.df X G (yZ Zew T) (Zew.binds (fun _ _ _ _ _ _ us hl=>by obtain⟨_,rfl⟩:=x8 hl;rfl));have Zf4:bN l.prog w K mg base "_law_refused" 7 ["_law_machine","_law_pattern","_law_number"] (iX l.prog w K Zaa Zab):=Zex.df X G (rg Zey TX Ze1 Ze5 (Zcr.up (by decide))) (Zey.binds (fun _ _ _ _ _ _ us hl=>by obtain⟨_,_,_,rfl⟩:=x9 hl;rfl));have Zf5:bN l.prog w K mg base "_law_same" 2 ["_law_found","_law_line"] (rJ K):=Zez.df X G (y4 Ze0 T Zcr) (Ze0.binds (fun _ _ _ _ _ _ us hl=>by obtain⟨_,_,rfl⟩:=tj hl;rfl));exact A9 Zcn.fn T Zad Zae (Zcq.up (by decide)) (Zfp.up (by decide)) (Zf3.up (by decide)) (Zfq.up (by decide)) (Zfo.up (by decide)) Zfm (Zcr.up (by decide)) (Zfr.up (by decide)) (Zf2.up (by decide)) (Zfv.up (by decide)) (Zf5.up (by decide)) (Zf4.up (by decide))
theorem walk{l:PySem.W.OpenLaw}{q:Program}{loose:List Str}{XP:(Str→Option Value)→Heap→Prop}{YP:World→Heap→Prop}{d:DefRec}{K:Params→Frag}(hn:l.most=some 63)(hdf:d.params.defaults=[])
  (hY:∀(w:World) (h:Heap),YP w h→(K w.params).In h)
  (F:∀(w:World) (mg:Str→Option Value) (fa:Addr) (h:Heap),(K w.params).In h→h.Ns mainGlobals mg→mg d.name=some (.ref fa)→
   ∃fd:FuncData,(∀(s:Shared) (u:Value),BindsTo s fd ⟨[u],[]⟩ [("_law_script",u)])∧∀base:Heap,(K w.params).In base→base.Ns mainGlobals mg→aR l.prog w (K w.params) mg base cO 13 fa fd ["_law_script"] (sS (K w.params))) :
  PySem.W.WalkO q loose XP YP l.row.toRowW d [] (fun f vs=>PySem.call f vs):=
 L2.walk_ofB (n:=63) (k:=13) (x:="_law_script") (CX:=fun _=>cO) (sp:=fun w=>sS (K w.params)) hn (by decide) hdf ⟨rfl,by decide,by decide⟩ hY F (fun _ _ a ns hl hb _ hS=>⟨a,ns,rfl,hS,hb,hl,fun _=>rfl⟩) fun _ _ _ _ _ z=>z
end K51
namespace PySem.W.Fast
def tw16637691995242943488:=0
def tw7456407818343371840:=0
def tw12608994639650138904:=0
def tw5688135686905137280:=0
def tw18112675654623405122:=0
def tw4811730262801907872:=0
def tw8888006289761944718:=0
def tw16748586867634878624:=0
def tw13244344369502469280:=0
def tw5847307818737507520:=0
def tw8633455099875706080:=0
def tw16888531916040843803:=0
def tw13229389862917613824:=0
def tw5948616478152377600:=0
def tw5404739443934552320:=0
def tw11870932478489621452:=0
def tw10869085252371431712:=0
def tw7618157534894936769:=0
def tw7071458980923266336:=0
def tw9195544379328038145:=0
def tw2853676682316104000:=0
def tw5546620048493272389:=0
def tw14832718594384276864:=0
def tw8058175449647255861:=0
def tw8837906194281404832:=0
def tw13477480682899713609:=0
def tw460979468808566176:=0
def tw10687564512754196896:=0
def tw4951951925134716320:=0
def tw13956530126118499776:=0
def tw13238974638642763232:=0
def tw7152108972495644128:=0
def tw15620698136185499104:=0
def tw12020787600675874374:=0
def tw13745202497929224704:=0
def tw5678371598293123584:=0
def tw14077830261463424810:=0
def tw1547777610216982048:=0
def tw10362413947999907360:=0
def tw4529626925696945266:=0
def tw13903382957871929308:=0
def tw14534871474712749664:=0
def tw9146629154911180749:=0
def tw18383152696085468832:=0
def tw15817094095489405600:=0
def tw15012822272717627665:=0
def tw12414693930681231040:=0
def tw15715404369002919227:=0
def tw9973172760694045440:=0
def tw4842217797218582272:=0
def tw2999736616202494720:=0
def tw1837095684839815775:=0
def tw12447003789663280928:=0
def tw2538658711418572426:=0
def tw10075603766402344245:=0
def tw17061783411307393617:=0
def tw10169702958860106592:=0
def tw3075583152487455616:=0
def tw14450625243452251573:=0
def tw1550924034430344396:=0
def tw11671660343940639189:=0
def tw10128704910513599424:=0
def tw10091207590955220928:=0
def tw17291946023850604512:=0
def tw6387586416970977276:=0
def tw1754756008655264339:=0
def tw4281151022703924289:=0
def tw16209324299910680421:=0
def tw5934748352923765857:=0
def tw10880667973057858863:=0
def tw6152643268410231905:=0
def tw2245131613199669377:=0
def tw16539784542899417419:=0
def tw15254176170746874017:=0
def tw14497041124404017069:=0
def tw8656983784338969881:=0
def tw5376744456762596690:=0
def tw6655436493546629313:=0
def tw739385759410855286:=0
def tw14454207770396756554:=0
def tw16141430538405542081:=0
def tw9605865812561121:=0
def tw15157799397347829985:=0
def tw14225576835180765373:=0
def tw12076157540698521857:=0
def tw14389738732758909721:=0
def tw9286327680068198689:=0
def tw15536494573615994145:=0
def tw196346183630414113:=0
def tw1160309690895422785:=0
def tw18025793146415651921:=0
def tw12687199153056990561:=0
def tw3665437665461160289:=0
def tw12368771157226083681:=0
def tw11115539586400514205:=0
def tw16807373156646911622:=0
def tw14239754658907725217:=0
def tw16992007920853107863:=0
def tw11527576454349638049:=0
def tw9642345451498206625:=0
def tw2484268407132882369:=0
def tw474875604113229003:=0
def tw10836658321201828853:=0
def tw312135197519622625:=0
def tw15469300338130900449:=0
def tw5806870446182313692:=0
def tw450755258001532314:=0
def tw13800646251307588129:=0
def tw2237751093872170844:=0
def tw8002563943114641596:=0
def tw12272808385632544353:=0
def tw7522969963543511649:=0
def tw17231833632015041786:=0
def tw16103593364058553985:=0
def tw12738786238912292481:=0
def tw10511031861877928918:=0
def tw15278607498696261293:=0
def tw16557997762799391685:=0
def tw3296367871744395937:=0
def tw12604448782122233569:=0
def tw5602630063696701153:=0
def tw3716314891088074715:=0
def tw15927679552012368781:=0
def tw12666461446022522212:=0
def tw231579926947323487:=0
def tw8760210257292423302:=0
def tw3044290402191719948:=0
def tw16498373177691182945:=0
def tw16131608633596678017:=0
def tw18395415477067340673:=0
def tw12816309051719864534:=0
def tw14831667003814686416:=0
def tw17288175312726060408:=0
def tw438938470890124225:=0
def tw17836457594922739305:=0
def tw12955945468472041784:=0
def tw13166954799965635271:=0
def tw3335912045844754868:=0
def tw16527378859280491435:=0
def tw2993233821533124258:=0
def tw15142603584552509506:=0
def tw17558201168311732290:=0
def tw9182571264988638306:=0
def tw10556398507667774594:=0
def tw8128891538327474338:=0
def tw9807858909590926652:=0
def tw7635759165055976587:=0
def tw345320930353727682:=0
def tw13358142893314305218:=0
def tw4976166418920654612:=0
def tw16369944122708733154:=0
def tw6574511393150755042:=0
def tw8737903641270173177:=0
def tw6587361997172076802:=0
def tw13389412626101700930:=0
def tw1744024726645554610:=0
def tw14079826000358344989:=0
def tw12559552325929106754:=0
def tw5174997455695956468:=0
def tw14429042548915634440:=0
def tw6943547312248083135:=0
def tw10352306483235363517:=0
def tw15522353736935549689:=0
def tw2736907036678332557:=0
def tw17481813313213451714:=0
def tw11066740402809470088:=0
def tw12433388772710680034:=0
def tw17053283063857113683:=0
def tw16636053015779618274:=0
def tw13133892130495705662:=0
def tw2512860575780539906:=0
def tw16709575650061310466:=0
def tw7515161849982095906:=0
def tw6951734591264879170:=0
def tw7091421381593919812:=0
def tw15146337407751337570:=0
def tw6827021157227942498:=0
def tw17141757016668542704:=0
def tw15051463221421349506:=0
def tw367569959932131970:=0
def tw9793009249329298082:=0
def tw1771420205872246434:=0
def tw18411599233630361460:=0
def tw17200767417919367340:=0
def tw7718865516851683010:=0
def tw42878846190834402:=0
def tw16273652980733706978:=0
def tw13076384138141598794:=0
def tw14836073481579156226:=0
def tw8461452810272209024:=0
def tw5747777478818474320:=0
def tw2408319712194395938:=0
def tw14788647709068354370:=0
def tw15915669412460229442:=0
def tw13407407306986949474:=0
def tw15211273369038916235:=0
def tw14726810189083170690:=0
def tw17173155976396130178:=0
def tw7164515708358797218:=0
def tw13026093494048159955:=0
def tw7924369184150836194:=0
def tw2625757489651963874:=0
def tw17904685579346696162:=0
def tw7166175642111564770:=0
def tw2413932940482738146:=0
def tw4867151510141370338:=0
def tw16292256349534009347:=0
def tw7965483644571851811:=0
def tw5338975385506644593:=0
def tw14609136416374357059:=0
def tw13286164737346401209:=0
def tw5123672972494984237:=0
def tw13089625605720841347:=0
def tw7513319781837611139:=0
def tw952448700816794755:=0
def tw5517818472253336739:=0
def tw10107543911473289379:=0
def tw16820908284267955395:=0
def tw16734601393445084396:=0
def tw3640300310359633123:=0
def tw12398635131386892547:=0
def tw10586529901027678499:=0
def tw15585147337784796913:=0
def tw6563034546261725007:=0
def tw3862575891518408067:=0
def tw4454736493454674800:=0
def tw15443118335539002631:=0
def tw7346059296669748708:=0
def tw10820369649792937322:=0
def tw17369933795173397840:=0
def tw5942715287794017699:=0
def tw9430253865723357635:=0
def tw6338969432662515292:=0
def tw8045821498822402714:=0
def tw13184233455207208419:=0
def tw14311299150949428771:=0
def tw16785659298593126979:=0
def tw9105456948142368323:=0
def tw8829789510481506883:=0
def tw2969557576389174883:=0
def tw7114830867423895509:=0
def tw1670934207037600355:=0
def tw3431759035538871939:=0
def tw2883127724657885827:=0
def tw7389518529653956227:=0
def tw12054106888361454275:=0
def tw5091928205321452227:=0
def tw18216154548570749682:=0
def tw5373768668938229717:=0
def tw10896522385432707989:=0
def tw2880797806124575459:=0
def tw4100251774035282597:=0
def tw12161643543736741603:=0
def tw14600045900003459843:=0
def tw15951884975652200:=0
def tw2491976448319333160:=0
def tw2881313557077514037:=0
def tw9946926956670832419:=0
def tw12122056993288325955:=0
def tw10787010059152969715:=0
def tw16902836932725988335:=0
def tw4061784100189905763:=0
def tw844435153097742179:=0
def tw5084679352921382059:=0
def tw6478401275737244547:=0
def tw6936850224688009091:=0
def tw15654127099993120517:=0
def tw11977809575592922019:=0
def tw14352225231079620093:=0
def tw8162774163311982499:=0
def tw933232591769768886:=0
def tw4307918877401448387:=0
def tw14004347507380786200:=0
def tw9161556600262279355:=0
def tw17440757878830373892:=0
def tw11075177325366726660:=0
def tw17624189514188873732:=0
def tw9924103203790782500:=0
def tw13849883358242484155:=0
def tw6843425748453849156:=0
def tw18331500806674013355:=0
def tw6898701639998446003:=0
def tw2536003724131393061:=0
def tw17310651700529118340:=0
def tw9595872310285137028:=0
def tw3528399681659348494:=0
def tw14469484739084475620:=0
def tw8397181925158155524:=0
def tw1908261497335194916:=0
def tw5383074086104158500:=0
def tw4129847154185187515:=0
def tw8562287336223560145:=0
def tw114728974072985924:=0
def tw5044879517456843076:=0
def tw5655439995443351908:=0
def tw927745805947825508:=0
def tw12300280386925721956:=0
def tw844976351188301188:=0
def tw33613899671091588:=0
def tw3454329807992778116:=0
def tw5416133188291426692:=0
def tw4618148616444312964:=0
def tw3151615410400351562:=0
def tw15645017172298033259:=0
def tw13964093903638111249:=0
def tw9752039388626256420:=0
def tw4771163688883505136:=0
def tw798981783930607204:=0
def tw14646570333641840228:=0
def tw10616437973112901607:=0
def tw2490791097316336292:=0
def tw1968276915291066084:=0
def tw1814041700222907108:=0
def tw3492098884628136676:=0
def tw2609214100667441041:=0
def tw1658692656969151268:=0
def tw7149808525074037279:=0
def tw11238472629594403652:=0
def tw5980189235398965060:=0
def tw13096137549233590237:=0
def tw16945161593534513551:=0
def tw16886720372322178916:=0
def tw14306793764464340836:=0
def tw310132393146517380:=0
def tw8091153198159620996:=0
def tw1257817093008454532:=0
def tw13258353138531344292:=0
def tw1129649694048195556:=0
def tw8666494571225109476:=0
def tw11707557097886641124:=0
def tw6281565593295984327:=0
def tw8078196570490634212:=0
def tw16300753266499406853:=0
def tw6995753742631847162:=0
def tw17287923521676669994:=0
def tw5114439463259505678:=0
def tw11052877560666425413:=0
def tw18256806788623631493:=0
def tw4871382828237292677:=0
def tw4134319116500443359:=0
def tw15659138230848957573:=0
def tw3690608832206787103:=0
def tw18136990058579773211:=0
def tw17779197590772737502:=0
def tw16980805156827980760:=0
def tw9839883112807751151:=0
def tw7861322593492040410:=0
def tw8823809463516784508:=0
def tw3540045909298090623:=0
def tw6511098945638942949:=0
def tw14193439301877779685:=0
def tw10450928956603540112:=0
def tw10989490144451955973:=0
def tw13542928929076279557:=0
def tw1439054368566462789:=0
def tw8454806224516498789:=0
def tw2584253395766005093:=0
def tw5295790595014728277:=0
def tw8209796817017094789:=0
def tw4445934749141653925:=0
def tw493920583290173893:=0
def tw15324349050551057753:=0
def tw4853271842917273906:=0
def tw10058410168893545061:=0
def tw13493058185549285989:=0
def tw5526510127208034949:=0
def tw10458896589600907941:=0
def tw10847606722274839237:=0
def tw9460520704059101519:=0
def tw11856142838225886053:=0
def tw7576094718977308517:=0
def tw359932144766620549:=0
def tw6400471889542038697:=0
def tw8206791133176800165:=0
def tw15772436227385899941:=0
def tw13665622790159057829:=0
def tw10811791397028749221:=0
def tw14253235352246362053:=0
def tw2482464016749871045:=0
def tw14086542730295236937:=0
def tw5738173170938544284:=0
def tw8634018432081303558:=0
def tw11219748769878263846:=0
def tw2030421550551068710:=0
def tw17606562156578654861:=0
def tw8480322755699158086:=0
def tw16389398280963769446:=0
def tw685084765694762150:=0
def tw3419956874116415686:=0
def tw6516223468868618190:=0
def tw17471588974450528486:=0
def tw14344258919330657068:=0
def tw8292395897405699659:=0
def tw13671855127668092747:=0
def tw3215105982369986854:=0
def tw16457336772561898822:=0
def tw15376987823380042054:=0
def tw4710733063582007622:=0
def tw7150380744849998150:=0
def tw2971705370743489862:=0
def tw11135735827232722278:=0
def tw17829233655361277286:=0
def tw1937267670479744904:=0
def tw16783461473792216690:=0
def tw9843260951584529689:=0
def tw1065644550407022950:=0
def tw13747105834320377275:=0
def tw8195359944596521340:=0
def tw1462725547819941286:=0
def tw12669130433557287334:=0
def tw844688359211657522:=0
def tw4369824706204506392:=0
def tw8687475162883676614:=0
def tw8239451906982564338:=0
def tw15359877652165513390:=0
def tw3905752148834045446:=0
def tw8846311445464896070:=0
def tw5569507304372021232:=0
def tw1290641759596439708:=0
def tw14945768078944780535:=0
def tw6020127851688145574:=0
def tw961150151054479014:=0
def tw12856396798233337510:=0
def tw3826996351009818310:=0
def tw6837993995565986534:=0
def tw12640632568420367110:=0
def tw12296821282352987910:=0
def tw4758438049238786854:=0
def tw15680058863789958635:=0
def tw10180725443454340934:=0
def tw1590402415529900588:=0
def tw11826834300232477606:=0
def tw1721030559409812390:=0
def tw9392159001560496038:=0
def tw17777461707539506086:=0
def tw6179737381110087590:=0
def tw11156509508790717490:=0
def tw12362026010099704663:=0
def tw12749066701892047846:=0
def tw10403330546938286087:=0
def tw16683749186274668808:=0
def tw9389527477764598823:=0
def tw11282104550522069780:=0
def tw4143095603342318327:=0
def tw10514946989812849302:=0
def tw9013640802211868281:=0
def tw12739125082316645639:=0
def tw13001091900213223565:=0
def tw12490298613437912555:=0
def tw17495623539902273863:=0
def tw12926790685400140408:=0
def tw2739665306051193191:=0
def tw12513039384981143943:=0
def tw7310256314284293511:=0
def tw8708746841964901753:=0
def tw5929285859133598171:=0
def tw8908456510396171719:=0
def tw7224662979224373703:=0
def tw8857649539291574056:=0
def tw12237425484366514517:=0
def tw8896911698910301106:=0
def tw16137162990123578160:=0
def tw16381377301403208808:=0
def tw13463724767674977767:=0
def tw14109223417344771471:=0
def tw11508956667812595228:=0
def tw10049988787389733479:=0
def tw1831129448369367655:=0
def tw14476851184710738187:=0
def tw9199290900307129063:=0
def tw17700044632775775405:=0
def tw8668332248904538887:=0
def tw5446313683443096327:=0
def tw13731938838271223559:=0
def tw1929673485908658099:=0
def tw18112604300904018345:=0
def tw12332202749481662311:=0
def tw15853501373577633834:=0
def tw11116488608784436103:=0
def tw6470662505241960722:=0
def tw13146097687421405095:=0
def tw2536476055310785693:=0
def tw3379115621440611731:=0
def tw1179778430573335134:=0
def tw15592355877654817098:=0
def tw9431345670608043016:=0
def tw6755810725782798344:=0
def tw5272255498973207828:=0
def tw11006064923096158248:=0
def tw3177829509998117110:=0
def tw18075785124590247702:=0
def tw11595410840234737768:=0
def tw4515117339761892456:=0
def tw18292399013200193640:=0
def tw15691882913152887944:=0
def tw4929334381534308473:=0
def tw16531573708764588200:=0
def tw179789283745457431:=0
def tw15882639310328152296:=0
def tw13305688114091378920:=0
def tw683243308633384440:=0
def tw16912820690959503833:=0
def tw6823376182344601021:=0
def tw1158368129256172628:=0
def tw3596790513152231389:=0
def tw13464145907010786600:=0
def tw7457241990855990600:=0
def tw9507177279457470824:=0
def tw11816468911904108904:=0
def tw13389303583440087642:=0
def tw9143724441685309800:=0
def tw15269505791920820920:=0
def tw1096497960337919644:=0
def tw7817779859496768904:=0
def tw1558334976788472200:=0
def tw355147201823829416:=0
def tw7531442873593961928:=0
def tw14264671212145977395:=0
def tw8495873284193286266:=0
def tw4962764517934372011:=0
def tw5405667245543684552:=0
def tw17277402906602042569:=0
def tw491087905808758312:=0
def tw17739278669401696957:=0
def tw3971658239471848040:=0
def tw4450617731539724626:=0
def tw12892499127501433448:=0
def tw14059820848191160764:=0
def tw10533410721124230792:=0
def tw4995168110490688074:=0
def tw7995377055331947176:=0
def tw8565496156844157372:=0
def tw9172691597706884808:=0
def tw12224026843650074106:=0
def tw2455815042011088648:=0
def tw17817587220525744794:=0
def tw6655495716896318248:=0
def tw15100416547936529192:=0
def tw1755572768604514152:=0
def tw116661935460129169:=0
def tw2176784292524227464:=0
def tw1801981488631195592:=0
def tw434402043857930413:=0
def tw15256255744045885101:=0
def tw11847417658924039948:=0
def tw2721832755885033448:=0
def tw487049225117871898:=0
def tw13191117125549188105:=0
def tw13020211991237837865:=0
def tw17077270352303142953:=0
def tw4299593630539225161:=0
def tw2457987286570806777:=0
def tw14237580364250568841:=0
def tw12347867477842194633:=0
def tw7040046579628668105:=0
def tw12500701795535869161:=0
def tw18297866790754083049:=0
def tw17599776123651960331:=0
def tw11090245865968344329:=0
def tw14901032432577691945:=0
def tw1815027983002129705:=0
def tw13048382821446788425:=0
def tw4738635973175856319:=0
def tw14179552940455165705:=0
def tw8014034387325601129:=0
def tw783074953409022313:=0
def tw17548233896401936777:=0
def tw940367302726356858:=0
def tw15948320518405871001:=0
def tw16972787534889938345:=0
def tw4536867635498155433:=0
def tw1609920518610163145:=0
def tw15405322885826848201:=0
def tw5050782169548712669:=0
def tw12589703014266013193:=0
def tw9673222021277817359:=0
def tw11013786289562632508:=0
def tw15994509750070661673:=0
def tw10420145121247840841:=0
def tw14349736814265355849:=0
def tw11603050142994096858:=0
def tw15142983109756115561:=0
def tw11321754343106162995:=0
def tw7361693846012340524:=0
def tw11710231163705501321:=0
def tw11122931061236574194:=0
def tw15750628698847169161:=0
def tw13378538726139698857:=0
def tw7136887150991029961:=0
def tw2092422274294716235:=0
def tw7689027344977742569:=0
def tw14398200601158737901:=0
def tw9521752760882718285:=0
def tw14044425907844773673:=0
def tw6892172928070325065:=0
def tw8459193939610370985:=0
def tw4331854605871582121:=0
def tw12300576383541717133:=0
def tw11230006234953446377:=0
def tw4771878185426268335:=0
def tw10550758917670457418:=0
def tw5291974758175843434:=0
def tw12982641945773688938:=0
def tw12881043383136087146:=0
def tw5050257139392941131:=0
def tw16620051066318686346:=0
def tw6303693075258051793:=0
def tw4020262921096189098:=0
def tw17889985764949522602:=0
def tw9209101513271442602:=0
def tw4188142713805410104:=0
def tw18081013954453472490:=0
def tw9435468780088250250:=0
def tw16447060497048582831:=0
def tw7074921657014180138:=0
def tw1986591229715742607:=0
def tw3932342810672279795:=0
def tw12812651260141682058:=0
def tw17181927595605752234:=0
def tw13978214526050030523:=0
def tw17024087320915148757:=0
def tw3194208833752974607:=0
def tw3809830956208749034:=0
def tw14302738012234451791:=0
def tw956996062636999548:=0
def tw12879307505505135178:=0
def tw6948664533058331440:=0
def tw17726063030973338282:=0
def tw203830389299272362:=0
def tw12007955534803275986:=0
def tw14135415839629239806:=0
def tw2793610606572645066:=0
def tw1639568880391744234:=0
def tw10828949545287089930:=0
def tw18017002312341844746:=0
def tw12914909366998697738:=0
def tw15537019995570067242:=0
def tw16866542731409461034:=0
def tw15095614085655445622:=0
def tw15169094179958999342:=0
def tw12332056367880406234:=0
def tw17210337938158515614:=0
def tw5632877847250731313:=0
def tw11211231151778189258:=0
def tw305892035742589403:=0
def tw367058804148867185:=0
def tw14935004387609299979:=0
def tw4700473477043379019:=0
def tw4605158797622151211:=0
def tw5298041833520743467:=0
def tw12584074911160400568:=0
def tw15835755526181429526:=0
def tw15940375222629488715:=0
def tw13949366604350935420:=0
def tw6723755990401202315:=0
def tw14947473457121414679:=0
def tw12596352408292518059:=0
def tw10974541856148191403:=0
def tw16883297175084291935:=0
def tw2421023447719152788:=0
def tw501430897764168907:=0
def tw535096728047304939:=0
def tw4130680287173216523:=0
def tw13099313661014677771:=0
def tw54645608666562859:=0
def tw12625522264836363480:=0
def tw17641653851139367211:=0
def tw8888929258762726699:=0
def tw12630869528465927467:=0
def tw16126110288788804939:=0
def tw6449816095274811755:=0
def tw574468853742687595:=0
def tw2272609397290199403:=0
def tw10643253142091330923:=0
def tw15756121003457357195:=0
def tw6583231608251523499:=0
def tw7597366662125331883:=0
def tw3994615453534398891:=0
def tw7177310141588764075:=0
def tw428324078679255792:=0
def tw17358641083622509902:=0
def tw10993347176378961419:=0
def tw17474952688441572907:=0
def tw1405005831458475766:=0
def tw7942395186837159499:=0
def tw3727908517614411742:=0
def tw8405572020498931371:=0
def tw18092689827882070699:=0
def tw4491991086602047318:=0
def tw16097286195762868155:=0
def tw15172049664376870667:=0
def tw7655975349199774507:=0
def tw14321981337705687851:=0
def tw4520338081239897931:=0
def tw4862109840339568685:=0
def tw15896814717619615627:=0
def tw9469223394087613661:=0
def tw7014936348582811476:=0
def tw15706339206067027883:=0
def tw1997162325058030539:=0
def tw12664439277545210827:=0
def tw14504303750514642781:=0
def tw889650223095669055:=0
def tw6359829891499509485:=0
def tw132462325620625069:=0
def tw6467941678148447404:=0
def tw5462642890977646796:=0
def tw4543154277613381836:=0
def tw4365624037078149171:=0
def tw2436320156064211212:=0
def tw10801390081877570860:=0
def tw12606067051242071340:=0
def tw168532822255928782:=0
def tw10226793840452447611:=0
def tw17154919490356205661:=0
def tw15966884962142912972:=0
def tw14926853282298832332:=0
def tw6373214434971193176:=0
def tw1794665212355304908:=0
def tw1207383695489378796:=0
def tw6703893088379965932:=0
def tw1439735152938840588:=0
def tw5889759092429223468:=0
def tw7121817895099533900:=0
def tw10584271720882712466:=0
def tw8696017147908035212:=0
def tw3856998724798003286:=0
def tw9163489788757911212:=0
def tw7886779817048329438:=0
def tw9918623660176816319:=0
def tw56806091729130168:=0
def tw8319459003675250444:=0
def tw11633455219343127308:=0
def tw9918712936590485244:=0
def tw2386512010137247628:=0
def tw3286910303386972076:=0
def tw7225942107024432076:=0
def tw7433630966387599308:=0
def tw4528082571944231949:=0
def tw10412273092816369526:=0
def tw6796415044231023790:=0
def tw14786040615947764781:=0
def tw8846949797747047469:=0
def tw9564334037674804301:=0
def tw783892790999512109:=0
def tw11375681785347888269:=0
def tw15820110988457003312:=0
def tw7716591807242279541:=0
def tw8705891178689176695:=0
def tw11459324865248924412:=0
def tw10136577127044358285:=0
def tw6576084997331879085:=0
def tw11700227056509525371:=0
def tw4534691379263158477:=0
def tw6341983785619804365:=0
def tw4931761986495046861:=0
def tw10090151632980556119:=0
def tw16837537534568568077:=0
def tw906531390979396269:=0
def tw14355174464729363757:=0
def tw12629499863792722009:=0
def tw5005885090425484110:=0
def tw3237443586653330358:=0
def tw8090445021438360941:=0
def tw78626877984722285:=0
def tw2310140796630897303:=0
def tw1543872888466019725:=0
def tw10995907189459205581:=0
def tw1074789004746397853:=0
def tw4584186760672396973:=0
def tw7480306006161928717:=0
def tw14619300497700951545:=0
def tw2711728735952636602:=0
def tw4954143653617922416:=0
def tw13073742602340883053:=0
def tw6964810975788010838:=0
def tw15991208457057316599:=0
def tw7713255692772737773:=0
def tw6420204297786917613:=0
def tw8494356842476936941:=0
def tw17690788572306241936:=0
def tw6159993008921425042:=0
def tw449532440568605549:=0
def tw5857200049466603373:=0
def tw17009051250671826829:=0
def tw3511846677484797884:=0
def tw1273946158962784173:=0
def tw6752922604961436374:=0
def tw5794674992825747405:=0
def tw10826719244811597399:=0
def tw6846942256372923373:=0
def tw7782290883021439002:=0
def tw17731779228130836461:=0
def tw1547171701874444986:=0
def tw3823154085032110158:=0
def tw3829607050137842766:=0
def tw12909412542900093916:=0
def tw10331191165852111899:=0
def tw8011689155786303662:=0
def tw11343783232212781463:=0
def tw16338240984614688952:=0
def tw13048078294755764558:=0
def tw4794599163193275758:=0
def tw4316799806736884282:=0
def tw15056528706113868854:=0
def tw13239581258960674254:=0
def tw1643638328384821502:=0
def tw10807037338441706990:=0
def tw5112786212282210862:=0
def tw3875228338197449262:=0
def tw12801500581142648366:=0
def tw9190468709340022967:=0
def tw1214300965863827022:=0
def tw7849746009098705270:=0
def tw438135933576087572:=0
def tw6162218610544351535:=0
def tw6811074239088196570:=0
def tw9678296076083115769:=0
def tw16375848293469343342:=0
def tw14285232360562681454:=0
def tw6236728735764542900:=0
def tw813266901551000238:=0
def tw2707362377490286286:=0
def tw7293181637080705742:=0
def tw12310942947870895898:=0
def tw10450863987226178454:=0
def tw18099431313860231982:=0
def tw17502151400377898798:=0
def tw10933205818575789902:=0
def tw3700584269323961940:=0
def tw8035097321769010940:=0
def tw16082655501700799926:=0
def tw6321777827939769339:=0
def tw22701865195071438:=0
def tw4752125710426556213:=0
def tw8661658750380039150:=0
def tw12872453386255264274:=0
def tw6479085845935135087:=0
def tw6681669554633678333:=0
def tw1826875958807859448:=0
def tw11225433687959236210:=0
def tw4909089741423641494:=0
def tw14501022903809100123:=0
def tw3138374823132541363:=0
def tw16317639663058203928:=0
def tw5006087378197428152:=0
def tw9040631818945511791:=0
def tw1410023869029582255:=0
def tw15211159559645555830:=0
def tw5471248823233693103:=0
def tw9577430063478218191:=0
def tw12073557393876517855:=0
def tw4340735136979863252:=0
def tw2454893006743073295:=0
def tw7925438822433200687:=0
def tw13263102941554449967:=0
def tw16712421853411561007:=0
def tw9923170021486894612:=0
def tw11191425762401997551:=0
def tw12553248395589779215:=0
def tw18289803292740249596:=0
def tw15438022634130575215:=0
def tw17076549024149571768:=0
def tw6426302787296709519:=0
def tw17132171254059474902:=0
def tw4976865680844115481:=0
def tw10746361682351004606:=0
def tw1185899554590084497:=0
def tw3154654071632856304:=0
def tw2098544932765311551:=0
def tw15626073640648629758:=0
def tw9367141350291735024:=0
def tw6225714824364253680:=0
def tw12326426725726692912:=0
def tw467253587829298779:=0
def tw16901175882692282992:=0
def tw16527345368536085595:=0
def tw5420544351073204211:=0
def tw8229516679114940211:=0
def tw84381824571853584:=0
def tw15187363123527395892:=0
def tw4183300284401195092:=0
def tw7844326650397704912:=0
def tw16838484884700034768:=0
def tw9040809308564123408:=0
def tw10256033171831617469:=0
def tw1004727001943613360:=0
def tw5645800394729954069:=0
def tw15366872210400676816:=0
def tw1243626029859262302:=0
def tw3049564736201355248:=0
def tw530829025136537584:=0
def tw12642170874575679537:=0
def tw58586751065335889:=0
def tw9344944066768576853:=0
def tw11540777975475586289:=0
def tw8027538333637334257:=0
def tw13677011761341750199:=0
def tw10012441482946994867:=0
def tw10743559002673128721:=0
def tw5701473525031045457:=0
def tw7837967274657165649:=0
def tw2497046206112733755:=0
def tw14801305799654343957:=0
def tw3204627476160884375:=0
def tw4653190660339297342:=0
def tw6594921456239263898:=0
def tw6882261044800647958:=0
def tw17821401386665078193:=0
def tw5385341643074838033:=0
def tw3056068337107529233:=0
def tw17538242394634603057:=0
def tw13556991725626803423:=0
def tw3069266433455741596:=0
def tw5622126586325549211:=0
def tw14287319544863376177:=0
def tw6903036824217338705:=0
def tw7387156584178401336:=0
def tw5425153311244359633:=0
def tw4903715848209034258:=0
def tw3263616928877292594:=0
def tw2634986071045832442:=0
def tw3343541046580177970:=0
def tw6607613525124499570:=0
def tw4874111600792173714:=0
def tw16711455096204346680:=0
def tw11611365441381962994:=0
def tw13603925152093351799:=0
def tw10459795454262757365:=0
def tw10213990230004913947:=0
def tw158255444292442971:=0
def tw5129986029095945714:=0
def tw13510560641976596018:=0
def tw17435820343617526354:=0
def tw6587603563273960311:=0
def tw18329994416047031922:=0
def tw4517257348677580434:=0
def tw11518809592949627538:=0
def tw8836764992410354354:=0
def tw2075942979305574226:=0
def tw1665232217922078578:=0
def tw6980581649630505495:=0
def tw4916398295362500466:=0
def tw8530819599368617842:=0
def tw4162495979815372690:=0
def tw8040329866402311187:=0
def tw447235424436143123:=0
def tw17666904047647415348:=0
def tw3626589474042627903:=0
def tw865740678587332691:=0
def tw6421663982971227251:=0
def tw8384073944895325563:=0
def tw4742819924397610099:=0
def tw16620580720564990131:=0
def tw11780341277029929171:=0
def tw9681322233134790867:=0
def tw4835912387985191155:=0
def tw5448296306843327967:=0
def tw6481824732398473555:=0
def tw5946982133881183157:=0
def tw16689524247960100924:=0
def tw6848949124257389971:=0
def tw4538706184572660147:=0
def tw9973871561300287646:=0
def tw976573932852501011:=0
def tw615264796166820116:=0
def tw8612167068335837912:=0
def tw15678030537861010099:=0
def tw1208471019093569235:=0
def tw6882849408555646682:=0
def tw6944067149838098227:=0
def tw2089930280482331544:=0
def tw6999598303490188147:=0
def tw4920601314173519763:=0
def tw17606197960433816377:=0
def tw7558258400684609588:=0
def tw11067456133667408948:=0
def tw16502890807276728510:=0
def tw15834998371910809652:=0
def tw2069918664623276116:=0
def tw2078773202472930420:=0
def tw1910135309297587316:=0
def tw6405794498175699702:=0
def tw5791313661378009300:=0
def tw3938450132409918615:=0
def tw5989789184814248758:=0
def tw912449306352895348:=0
def tw14403088171879160444:=0
def tw6942646509863420404:=0
def tw2944567047359755796:=0
def tw3382271575117933140:=0
def tw14619592599560924756:=0
def tw10897437353898332376:=0
def tw2686544877943409887:=0
def tw10132026557752349300:=0
def tw18184619368163918516:=0
def tw16055680185611803380:=0
def tw11193297874625118996:=0
def tw14649283294051177598:=0
def tw10144510339699038004:=0
def tw4648718177701063476:=0
def tw425819135900780372:=0
def tw1560347636792753012:=0
def tw15042692952660246420:=0
def tw6058552852104155060:=0
def tw13569390635644605143:=0
def tw3290496767515959252:=0
def tw1662394809191978267:=0
def tw8696506225679081207:=0
def tw9435121799196691477:=0
def tw16691105974699621630:=0
def tw8905141016518952053:=0
def tw17108687587502991477:=0
def tw15079478312750668021:=0
def tw9582639604154175733:=0
def tw7908440130215433493:=0
def tw8346585823930062010:=0
def tw899369547053956343:=0
def tw4551556986954229173:=0
def tw344392411339355573:=0
def tw13973200780945251829:=0
def tw17833730084174114325:=0
def tw14719553828906677527:=0
def tw12517368583567741343:=0
def tw14337600668796680093:=0
def tw15400129565180536248:=0
def tw209841042929235573:=0
def tw12393268657606380181:=0
def tw16073930344982493854:=0
def tw260550315454810044:=0
def tw15730264468158565598:=0
def tw2440467069602192085:=0
def tw3475363754830680821:=0
def tw6102009737226490495:=0
def tw1850997404141696789:=0
def tw1162639549053933429:=0
def tw11503595662112541341:=0
def tw4852795974687404981:=0
def tw16757060090437705528:=0
def tw9365561629866896470:=0
def tw1270002273213225406:=0
def tw14155769658074665110:=0
def tw17024634305815001238:=0
def tw9539314484593548438:=0
def tw8265816447271235798:=0
def tw14174483559555772662:=0
def tw1451541672696464630:=0
def tw10162128936631591158:=0
def tw5805861839812247830:=0
def tw3232713942379265302:=0
def tw2234554410120381750:=0
def tw13091952297119849782:=0
def tw3168871173898665631:=0
def tw18311596070093296022:=0
def tw12319127383665292726:=0
def tw10772265892068085174:=0
def tw11708459728450481884:=0
def tw4489759177882741591:=0
def tw1324229922554866230:=0
def tw17945580046415647350:=0
def tw7596162108036725885:=0
def tw6059791372623573782:=0
def tw14753998985264957719:=0
def tw1282802515515341686:=0
def tw5140087154257108886:=0
def tw12381721311745401750:=0
def tw6092209076253483926:=0
def tw10516932080503993270:=0
def tw5536509686965319606:=0
def tw10524348989766184918:=0
def tw17167976343979312286:=0
def tw12351234475333690487:=0
def tw15288946810822921370:=0
def tw12556853253238033591:=0
def tw8859548929895054551:=0
def tw10917116637416202877:=0
def tw17903524346077425943:=0
def tw11957094202999391511:=0
def tw8314194798246711421:=0
def tw11905367432659730935:=0
def tw15852308262434965111:=0
def tw13046689668727867031:=0
def tw17832980099129659007:=0
def tw6736190994689640087:=0
def tw11362652666924180151:=0
def tw5177522282720214711:=0
def tw7284301148495169207:=0
def tw16632091490361489111:=0
def tw2782157311025028919:=0
def tw6877321620809018270:=0
def tw16914587214607610679:=0
def tw606783632847341375:=0
def tw12097201706097722231:=0
def tw1404838201143542647:=0
def tw16997220396995588539:=0
def tw6196413291744821721:=0
def tw6383474459752767672:=0
def tw9622910906363221946:=0
def tw4667108606240179416:=0
def tw5994018541362807967:=0
def tw8107475431202879704:=0
def tw398319584854227288:=0
def tw11207377244471325016:=0
def tw17767338949397084700:=0
def tw8031687181861479832:=0
def tw12036937843984920984:=0
def tw14884236707966836606:=0
def tw12997804019695839839:=0
def tw17444362144823209496:=0
def tw8819321155902063806:=0
def tw4751731635029139193:=0
def tw5133334391110655704:=0
def tw18376565685865703613:=0
def tw24057344862035292:=0
def tw7920569829836038653:=0
def tw2657210743788747897:=0
def tw8696812539933680761:=0
def tw2277203250140426972:=0
def tw2445859408161981753:=0
def tw17165906640101221241:=0
def tw16787136242953608665:=0
def tw13652296459697111545:=0
def tw13157046630416927709:=0
def tw3031825698092877369:=0
def tw11891411616979236473:=0
def tw2234421287207568089:=0
def tw2608124627203925721:=0
def tw13502654974720749401:=0
def tw18097239305321223065:=0
def tw1222409350473386367:=0
def tw9493370956950046589:=0
def tw6970013797523715098:=0
def tw14582111553471579868:=0
def tw3774559061457743066:=0
def tw17947486696563653914:=0
def tw9621517047182501245:=0
def tw2069514304726377755:=0
def tw2184284004261039482:=0
def tw9583179511197740442:=0
def tw4632902272221767421:=0
def tw12953780380392907871:=0
def tw2766288171598323162:=0
def tw3128989241069056474:=0
def tw7793158113162755230:=0
def tw9489492130389093882:=0
def tw4471889293546957245:=0
def tw17655281836549791803:=0
def tw13659543720236704764:=0
def tw2053579000703478586:=0
def tw7248463080417667930:=0
def tw12957918093666213754:=0
def tw5636568284038034298:=0
def tw11102792942755308767:=0
def tw7384469520371543195:=0
def tw16460996103516784191:=0
def tw11948784469876147903:=0
def tw9003412008370857565:=0
def tw5102505656978424155:=0
def tw5222977030599041563:=0
def tw15085958563059710653:=0
def tw13848977761344874043:=0
def tw6202718052164757051:=0
def tw10732225007734340381:=0
def tw13630741141019117179:=0
def tw17789369389659690715:=0
def tw3305399519199846109:=0
def tw5084195624878799835:=0
def tw4184795283641862139:=0
def tw16415137221849249438:=0
def tw8092272782048797212:=0
def tw15559011841628683966:=0
def tw5998701828358042908:=0
def tw18428599422170237308:=0
def tw7037180210620904828:=0
def tw3136477689405451676:=0
def tw1020667503189936604:=0
def tw7844971814917723676:=0
def tw4160628830080527389:=0
def tw12729324070764292639:=0
def tw3001554818945001693:=0
def tw1896717381224425757:=0
def tw4267470065264202141:=0
def tw16405343671583320829:=0
def tw14236558547438177053:=0
def tw9566947556333566877:=0
def tw4866414038941000734:=0
def tw3056881972880312542:=0
def tw4442814776527795711:=0
def tw12053801729932205790:=0
def tw1961690293968953246:=0
def tw17592188281683903711:=0
def tw16639049125738922239:=0
def tw6526539763974227231:=0
def tw2106078268313480575:=0
def tw4597952783842581919:=0
def tw9896792530490221983:=0
def tw15029118535333214815:=0
def tw14367017211409737663:=0
end PySem.W.Fast
local macro_rules | `(tactic| walk_at "h0") => `(tactic| (refine' L2.defAt_mk ?a ?l ?c ?k; (case a=>k_is); (case l=>k_is); (case c=>k_is); (case k=>k_is)))
local macro_rules | `(tactic| walk_at "h1") => `(tactic| (refine' L2.kit_own ?a ?b ?c ?d; (case a=>rfl); (case b=>k_is); (case c=>k_is); (case d=>k_is)))
local macro_rules | `(tactic| walk_at "h2") => `(tactic| (refine' L2.const_mk ?e ?r; (case e=>k_is); (case r=>exact⟨_,by with_unfolding_all rfl⟩)))
local macro_rules | `(tactic| walk_at "h3") => `(tactic| (refine' L2.methAt_mk ?a ?i ?l ?c ?k; (case a=>k_is); (case i=>k_is); (case l=>k_is); (case c=>k_is); (case k=>k_is)))
open PySem PySem.W PyProof.Rows
set_option maxRecDepth 100000 in
set_option maxHeartbeats 0 in
theorem PySem.Challenge.cw_fourvoices_k51_numbers_without_rules_holds : PySem.Challenge.rw_fourvoices_k51_numbers_without_rules.Holds := by
 w_on;o_law;k_head;(case hw=>w_witness2)
 k_fill
 refine K51.walk (l:=PySem.Challenge.rw_fourvoices_k51_numbers_without_rules) rfl rfl (fun w h Y=>PySem.W.kIn_of Y) ?F
 case F=>
  intro w mg fa h KX G hmg;refine' K51.all_mk KX G hmg ?Zar ?Zat ?Zau ?Zav ?Zaw ?Zax ?Zay ?Zaz ?Za0 ?Za1 ?Za2 ?Za3 ?Za4 ?Zcs ?Zae ?Zct ?Zad ?Za5 ?Za6 ?Za7 ?Za8 ?Za9 ?Zba ?Zbb ?Zbc ?Zbd ?Zbe ?Zbf ?Zbg ?Zbh ?Zbi ?Zbj ?Zbk ?Zbl ?Zbm ?Zbn ?Zbo ?Zbp ?Zbq ?Zbr ?Zbs ?Zbt ?Zbu ?Zbv ?Zbw ?Zbx ?Zby ?Zbz ?Zb0 ?Zb1 ?Zb2 ?Zb3 ?Zb4 ?Zb5 ?Zb6 ?Zb7 ?Zb8 ?Zb9 ?Zca ?Zcb ?Zcc ?Zcd ?Zce ?Zcf ?Zcg ?Zch ?Zci ?Zcj ?Zck ?Zcl ?z_len ?z_range ?z_all ?z_min ?z_max ?z_tuple ?z_list ?z_isinstance ?z_bool ?z_int ?z_str ?z_enumerate ?z_zip ?z_sum ?z_reversed ?z_ValueError ?g_FIGURES ?g_MOST_FIGURES ?g_MOST_VOICES ?g_MOST_RULES ?g_MOST_WEIGHT ?g_START ?Zcm
  (case Zar=>k_is)
  (case Zat=>k_is)
  (case Zau=>k_is)
  (case Zav=>k_is)
  (case Zaw=>k_is)
  (case Zax=>k_is)
  (case Zay=>k_is)
  (case Zaz=>k_is)
  (case Za0=>k_is)
  (case Za1=>k_is)
  (case Za2=>k_is)
  (case Za3=>k_is)
  (case Za4=>k_is)
  (case Zcs=>k_is)
  (case Zae=>(refine'⟨⟨?a_14,?b_14,?c_14,?d_14⟩,?f0_14,?f1_14⟩;(case a_14=>k_is);(case b_14=>k_is);(case c_14=>k_is);(case d_14=>k_is);(case f0_14=>delta L2.NoAttr;k_is);(case f1_14=>delta L2.NoAttr;k_is)))
  (case Zct=>k_is)
  (case Zad=>(refine'⟨⟨?a_16,?b_16,?c_16,?d_16⟩,?f0_16,?f1_16,?f2_16⟩;(case a_16=>k_is);(case b_16=>k_is);(case c_16=>k_is);(case d_16=>k_is);(case f0_16=>delta L2.NoAttr;k_is);(case f1_16=>delta L2.NoAttr;k_is);(case f2_16=>delta L2.NoAttr;k_is)))
  (case Za5=>(refine' L2.exAt_mk ?lk_17 ?ln_17 ?en_17 ?ii_17 ?aa_17 ?ab_17 ?ac_17 ?ad_17 ?ae_17 ?ls_17 ?lm_17 ?em_17 ?is_17 ?ba_17 ?bb_17 ?bc_17 ?bd_17 ?be_17 ?kp_17 ?fn_17 ?l_17 ?c_17 ?k_17;(case lk_17=>k_is);(case ln_17=>k_is);(case en_17=>rfl);(case ii_17=>k_is);(case aa_17=>k_is);(case ab_17=>k_is);(case ac_17=>k_is);(case ad_17=>k_is);(case ae_17=>k_is);(case ls_17=>k_is);(case lm_17=>k_is);(case em_17=>rfl);(case is_17=>k_is);(case ba_17=>k_is);(case bb_17=>k_is);(case bc_17=>k_is);(case bd_17=>k_is);(case be_17=>k_is);(case kp_17=>k_is);(case fn_17=>k_is);(case l_17=>k_is);(case c_17=>k_is);(case k_17=>k_is)))
  (case Za6=>(refine' L2.exm_own ?a_18 ?b_18 ?c_18 ?d_18;(case a_18=>k_is);(case b_18=>k_is);(case c_18=>k_is);(case d_18=>k_is)))
  (case Za7=>(refine' L2.kit_ty ?a_19 ?b_19 ?d_19;(case a_19=>rfl);(case b_19=>rfl);(case d_19=>k_is)))
  (case Za8=>walk_at "h1")
  (case Za9=>walk_at "h1")
  (case Zba=>walk_at "h1")
  (case Zbb=>walk_at "h1")
  (case Zbc=>walk_at "h1")
  (case Zbd=>walk_at "h1")
  (case Zbe=>walk_at "h1")
  (case Zbf=>walk_at "h1")
  (case Zbg=>walk_at "h1")
  (case Zbh=>walk_at "h1")
  (case Zbi=>walk_at "h1")
  (case Zbj=>walk_at "h0")
  (case Zbk=>(refine' L2.mkAt_mk ?n_32 ?m_32 ?a_32 ?i_32 ?kc_32 ?l_32 ?c_32 ?k_32;(case n_32=>k_is);(case m_32=>k_is);(case a_32=>k_is);(case i_32=>k_is);(case kc_32=>k_is);(case l_32=>k_is);(case c_32=>k_is);(case k_32=>k_is)))
  (case Zbl=>walk_at "h0")
  (case Zbm=>walk_at "h0")
  (case Zbn=>walk_at "h0")
  (case Zbo=>walk_at "h0")
  (case Zbp=>walk_at "h0")
  (case Zbq=>walk_at "h0")
  (case Zbr=>(refine' L2.cmethAt_mk ?n_39 ?r_39 ?a_39 ?g_39 ?l_39 ?c_39 ?k_39;(case n_39=>k_is);(case r_39=>k_is);(case a_39=>k_is);(case g_39=>k_is);(case l_39=>k_is);(case c_39=>k_is);(case k_39=>k_is)))
  (case Zbs=>walk_at "h3")
  (case Zbt=>walk_at "h3")
  (case Zbu=>walk_at "h3")
  (case Zbv=>walk_at "h3")
  (case Zbw=>walk_at "h3")
  (case Zbx=>(refine' L2.mkAt_mk ?n_45 ?m_45 ?a_45 ?i_45 ?kc_45 ?l_45 ?c_45 ?k_45;(case n_45=>k_is);(case m_45=>k_is);(case a_45=>k_is);(case i_45=>k_is);(case kc_45=>k_is);(case l_45=>k_is);(case c_45=>k_is);(case k_45=>k_is)))
  (case Zby=>walk_at "h0")
  (case Zbz=>walk_at "h0")
  (case Zb0=>walk_at "h0")
  (case Zb1=>walk_at "h0")
  (case Zb2=>walk_at "h0")
  (case Zb3=>walk_at "h0")
  (case Zb4=>walk_at "h0")
  (case Zb5=>walk_at "h0")
  (case Zb6=>walk_at "h0")
  (case Zb7=>walk_at "h0")
  (case Zb8=>walk_at "h0")
  (case Zb9=>walk_at "h0")
  (case Zca=>walk_at "h0")
  (case Zcb=>walk_at "h0")
  (case Zcc=>walk_at "h0")
  (case Zcd=>walk_at "h0")
  (case Zce=>walk_at "h0")
  (case Zcf=>walk_at "h0")
  (case Zcg=>walk_at "h0")
  (case Zch=>walk_at "h0")
  (case Zci=>walk_at "h0")
  (case Zcj=>walk_at "h0")
  (case Zck=>walk_at "h0")
  (case Zcl=>walk_at "h0")
  (case z_len=>k_is)
  (case z_range=>k_is)
  (case z_all=>k_is)
  (case z_min=>k_is)
  (case z_max=>k_is)
  (case z_tuple=>k_is)
  (case z_list=>k_is)
  (case z_isinstance=>k_is)
  (case z_bool=>k_is)
  (case z_int=>k_is)
  (case z_str=>k_is)
  (case z_enumerate=>k_is)
  (case z_zip=>k_is)
  (case z_sum=>k_is)
  (case z_reversed=>k_is)
  (case z_ValueError=>k_is)
  (case g_FIGURES=>walk_at "h2")
  (case g_MOST_FIGURES=>walk_at "h2")
  (case g_MOST_VOICES=>walk_at "h2")
  (case g_MOST_RULES=>walk_at "h2")
  (case g_MOST_WEIGHT=>walk_at "h2")
  (case g_START=>walk_at "h2")
  (case Zcm=>walk_at "h0")
