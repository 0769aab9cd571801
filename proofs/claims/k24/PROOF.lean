import PyProof.Rows.All
import Wide.All
import OpenK.AllK
import Wide.FinOn
import Lean
import PyProof.EqAt
import PyProof.EqKinds
import PyProof.TupleCall
import KE.KTab
import KE.KRevSl
import PyProof.Rows.Range3
import PyProof.WalkInts
import PyProof.Rows.StrSplitMax
import KE.KMinKey
import PyProof.LongRange
import PyProof.ListRange
import PyProof.ExcClass3
import PyProof.InstStore
import PyProof.StationsW
import PyProof.ExcQuiet
import PyProof.RulesTry
import PyProof.ExcArgsOwn
import PyProof.DictRoadsH
import Wide.Seal
import KE.KRevIter
import PyProof.SumAny
import KE.KTryMore
import PyProof.SeqI3
import PyProof.DictTable
import PySem.Challenge.RW_fourvoices_k24_two_scores_joined
set_option Elab.async false
set_option linter.all false
set_option maxRecDepth 100000
abbrev aa0:=@List.length_map
abbrev aa1:=@List.getElem?_eq_getElem
abbrev aa2:=@List.getElem?_eq_some_iff
abbrev aa3:=@PySem.Heap.get?_push_of_some
abbrev aa4:=@Bool.false_ne_true
abbrev aa5:=@Nat.lt_of_lt_of_le
abbrev aa6:=@List.mem_cons
abbrev aa7:=@Nat.le_refl
abbrev aa8:=@List.getElem?_map
abbrev aa9:=@List.size_toArray
abbrev ab0:=@List.getElem?_append_right
abbrev ab1:=@List.mem_append_right
abbrev ab2:=@PySem.Heap.lt_size
abbrev ab3:=@List.getElem?_append_left
abbrev ab4:=@List.length_append
abbrev ab5:=@Nat.ne_of_lt
abbrev ab6:=@Nat.lt_of_le_of_lt
abbrev ab7:=@List.map_append
abbrev ab8:=@Nat.le_trans
abbrev ab9:=@PySem.Heap.get?_push_size
abbrev ac0:=@Nat.zero_le
abbrev ac1:=@List.mem_append
abbrev ac2:=@List.length_cons
abbrev ac3:=@List.mem_cons_self
abbrev ac4:=@PySem.Heap.get?_update_other
abbrev ac5:=@List.take_add_one
abbrev ac6:=@List.length_take
abbrev ac7:=@List.mem_map
abbrev ac8:=@List.getElem_mem
abbrev ac9:=@List.mem_cons_of_mem
abbrev ad0:=@List.take_length
abbrev ad1:=@List.mem_of_getElem?
abbrev ad2:=@List.map_cons
abbrev ad3:=@List.mem_singleton
abbrev ad4:=@List.getD_eq_getElem?_getD
abbrev ad5:=@List.replicate_succ
abbrev ad6:=@Bool.false_eq_true
abbrev ad7:=@Array.getElem?_eq_some_iff
abbrev ad8:=@PySem.Heap.get?_update_self
abbrev ad9:=@Nat.sub_self
abbrev ae0:=@Int.eq_ofNat_of_zero_le
abbrev ae1:=@Nat.succ_le_succ
abbrev ae2:=@List.length_zipWith
abbrev ae3:=@List.drop_eq_getElem_cons
abbrev ae4:=@List.lookup_cons
abbrev ae5:=@List.getElem?_drop
abbrev ae6:=@List.mem_append_left
abbrev ae7:=@Nat.pow_le_pow_right
abbrev ae8:=@List.length_eq_zero_iff
abbrev ae9:=@List.foldl_append
abbrev af0:=@Bool.eq_iff_iff
abbrev af1:=@List.length_nil
abbrev af2:=@List.append_nil
abbrev af3:=@Option.map_some
abbrev af4:=@Array.toList_append
abbrev af5:=@Nat.lt_irrefl
abbrev af6:=@List.length_drop
abbrev af7:=@Nat.ne_of_gt
abbrev af8:=@List.append_assoc
abbrev af9:=@Nat.lt_succ_self
abbrev ag0:=@Bool.and_eq_true
abbrev ag1:=@List.drop_length
abbrev ag2:=@List.not_mem_nil
abbrev ag3:=@List.getElem?_cons_succ
abbrev ag4:=@List.contains_cons
abbrev ag5:=@Bool.or_eq_true
abbrev ag6:=@Int.toNat_natCast
abbrev ag7:=@List.flatten_cons
abbrev ag8:=@Nat.lt_succ_of_lt
abbrev ag9:=@PySem.Heap.size_push
abbrev ah0:=@List.drop_eq_nil_iff
abbrev ah1:=@List.cons_append
abbrev ah2:=@Nat.min_self
abbrev ah3:=@List.foldl_cons
abbrev ah4:=@List.forIn_cons
abbrev ah5:=@Int.emod_lt_of_pos
abbrev ah6:=@Nat.le_of_lt
abbrev ah7:=@List.getElem?_set_self
abbrev ah8:=@List.map_nil
abbrev ah9:=@List.take_of_length_le
abbrev ai0:=@List.drop_drop
abbrev ai1:=@List.map_map
abbrev ai2:=@List.drop_of_length_le
abbrev ai3:=@List.getElem?_eq_none
abbrev ai4:=@List.all_eq_true
abbrev ai5:=@PySem.Heap.get?_none_of_le
abbrev ai6:=@List.getElem?_set_ne
abbrev ai7:=@Nat.le_succ
abbrev ai8:=@List.nodup_cons
abbrev ai9:=@Int.emod_nonneg
abbrev aj0:=@List.filterMap_cons
abbrev aj1:=@Array.length_toList
abbrev aj2:=@Nat.mul_comm
abbrev aj3:=@List.all_map
abbrev aj4:=@Nat.zero_add
abbrev aj5:=@List.mem_filterMap
abbrev aj6:=@Int.fdiv_eq_ediv_of_nonneg
abbrev aj7:=@Int.fmod_eq_emod_of_nonneg
abbrev aj8:=@Array.size_append
abbrev aj9:=@List.length_range
abbrev ak0:=@List.all_cons
abbrev ak1:=@Nat.min_eq_right
abbrev ak2:=@Nat.succ_mul
abbrev ak3:=@Nat.not_lt
abbrev ak4:=@Nat.add_zero
abbrev ak5:=@Int.lt_or_le
abbrev ak6:=@List.of_mem_zip
abbrev ak7:=@Nat.min_eq_left
open PySem.W (instObj Frag findIn isFn emptyDict keepIn kitOne kia_one callWith_K fnOf codeIn nsIn mg_of nsOkIn exmOne mg_none_of)
namespace L2
open PySem PySem.Spec PyProof.Rows
abbrev rb:=Sum Int Str
def BJ:rb→Value→Bool
 | .inl k,v=>Value.isInt k v
 | .inr x,v=>Value.isStrOf x v
def EU(w:World):rb→Int
 | .inl k=>hashInt k
 | .inr x=>hashStr w x
theorem cP:∀{k:rb} {v:Value},BJ k v=true→(∃i t,k=Sum.inl i∧v=Value.int i t)∨(∃x t,k=Sum.inr x∧v=Value.str x t)
 | .inl i,v,h=>by
  obtain⟨t,e⟩:=Value.isInt_shape (k:=i) (v:=v) h;exact .inl ⟨i,t,rfl,e⟩
 | .inr x,v,h=>by
  obtain⟨t,e⟩:=Value.isStrOf_shape (x:=x) (v:=v) h;exact .inr ⟨x,t,rfl,e⟩
theorem Cv(a b:Int):decide ((Sum.inl a:rb)=Sum.inl b)=(a == b):=by
 by_cases e:a=b
 ·subst e;simp
 ·have h:¬(Sum.inl a:rb)=Sum.inl b:=fun q=>e (Sum.inl.inj q)
  rw [decide_eq_false h];exact(beq_eq_false_iff_ne.mpr e).symm
theorem CA(a b:Str):decide ((Sum.inr a:rb)=Sum.inr b)=decide (a=b):=by
 by_cases e:a=b
 ·subst e;simp
 ·have h:¬(Sum.inr a:rb)=Sum.inr b:=fun q=>e (Sum.inr.inj q)
  rw [decide_eq_false h,decide_eq_false e]
theorem Cy(a:Int)(b:Str):decide ((Sum.inl a:rb)=Sum.inr b)=false:=decide_eq_false (fun q=>nomatch q)
theorem Cz(a:Str)(b:Int):decide ((Sum.inr a:rb)=Sum.inl b)=false:=decide_eq_false (fun q=>nomatch q)
def p9(prog:Program)(w:World):PySem.KeyKind prog w rb where
 is:=BJ
 hash:=EU w
 inj:=fun v a b ha hb=>by
  rcases cP ha with⟨i,t,rfl,rfl⟩ | ⟨x,t,rfl,rfl⟩
  ·rcases cP hb with⟨j,u,rfl,e⟩ | ⟨y,u,rfl,e⟩
   ·injection e with e1 _;rw [e1]
   ·exact nomatch e
  ·rcases cP hb with⟨j,u,rfl,e⟩ | ⟨y,u,rfl,e⟩
   ·exact nomatch e
   ·injection e with e1 _;rw [e1]
 byValue:=fun k v h=>by
  rcases cP h with⟨i,t,rfl,rfl⟩ | ⟨x,t,rfl,rfl⟩<;>rfl
 pyHash:=fun hv h=>by
  rcases cP hv with⟨i,t,rfl,rfl⟩ | ⟨x,t,rfl,rfl⟩
  ·exact wpAny_pyHash_int h
  ·exact wpAny_pyHash_str h
 eqBool:=fun hu hv h=>by
  rcases cP hu with⟨i,t,rfl,rfl⟩ | ⟨x,t,rfl,rfl⟩
  ·rcases cP hv with⟨j,u,rfl,rfl⟩ | ⟨y,u,rfl,rfl⟩
   ·rw [Cv]at h;exact wpAny_eqBool_int h
   ·rw [Cy]at h;exact SeqAt.EqAt.int_str i t y u _ _ _ _ h
  ·rcases cP hv with⟨j,u,rfl,rfl⟩ | ⟨y,u,rfl,rfl⟩
   ·rw [Cz]at h;exact SeqAt.EqAt.str_int x t j u _ _ _ _ h
   ·rw [CA]at h;exact wpAny_eqBool_str h
 «strs»:=fun k x t v h=>by
  rcases cP h with⟨i,u,rfl,e⟩ | ⟨y,u,rfl,e⟩
  ·exact nomatch e
  ·injection e with e1 _
   subst e1
   cases v<;>rfl
end L2
namespace L2
open PySem PySem.Spec PyProof.Rows
inductive V where
 | non | bl (b:Bool) | int (i:Int) | str (x:Str) | byt (b:Array UInt8) | flt (b:UInt64) | ref (a:Addr) | ty (n:String)
 deriving DecidableEq
def aN:V→Value→Prop
 | .non,u=>u=Value.none
 | .bl b,u=>u=Value.bool b
 | .int i,u=>∃t,u=Value.int i t
 | .str x,u=>∃t,u=Value.str x t
 | .byt b,u=>∃t,u=Value.bytes b t
 | .flt b,u=>∃t,u=Value.float b t
 | .ref a,u=>u=Value.ref a
 | .ty n,u=>u=Value.type n
abbrev aV:List V→List Value→Prop:=Paired aN
theorem aV.length{xs:List V}{us:List Value}(r:aV xs us):xs.length=us.length:=Paired.length r
theorem aV.get:∀{xs:List V} {us:List Value} {i:Nat} {x:V},aV xs us→xs[i]?=some x→∃u,us[i]?=some u∧aN x u
 | _,_,_,_,.nil,e=>by simp at e
 | _,_,0,_,.cons r _,e=>by simp at e;subst e;exact⟨_,rfl,r⟩
 | _,_,i+1,x,.cons _ t,e=>by
  obtain⟨u,h1,h2⟩:=aV.get (i:=i) (x:=x) t (by simpa using e);exact⟨u,by simpa using h1,h2⟩
theorem aV.append:∀{xs ys:List V} {us ws:List Value},aV xs us→aV ys ws→aV (xs++ys) (us++ws)
 | _,_,_,_,.nil,s=>s
 | _,_,_,_,.cons r t,s=>.cons r (aV.append t s)
theorem aV.take:∀{xs:List V} {us:List Value} (n:Nat),aV xs us→aV (xs.take n) (us.take n)
 | _,_,0,_=>.nil
 | _,_,_+1,.nil=>.nil
 | _,_,n+1,.cons r t=>.cons r (aV.take n t)
theorem aV.drop:∀{xs:List V} {us:List Value} (n:Nat),aV xs us→aV (xs.drop n) (us.drop n)
 | _,_,0,r=>r
 | _,_,_+1,.nil=>.nil
 | _,_,n+1,.cons _ t=>aV.drop n t
def kh:Option V→Option Value→Prop
 | some v,some u=>aN v u
 | none,none=>True
 | _,_=>False
def KV{κ:Type}:List (κ×V)→List (κ×Value)→Prop:=Paired fun(p:κ×V) (q:κ×Value)=>p.1=q.1∧aN p.2 q.2
def kV:rb→V
 | .inl i=>.int i
 | .inr x=>.str x
inductive HO where
 | lst (xs:List V)
 | tup (xs:List V)
 | dK (kvs:List (rb×V)) | dT (kvs:List (List rb×V))
 | set (S:Int→Bool) (n:Nat)
 | ins (C dx:Addr) (fs:List (Str×V))
 | own (x:Addr)
 | xd (fs:List (Str×V))
 | met (f x:Addr)
 | rng (lo hi:Int)
 | frz (o:Obj) (u:HO)
 | tbl (ps:Array Value)
 | ext (φ:Heap→Prop)
abbrev Hp:=Addr→Option HO
def upd(H:Hp)(a:Addr)(o:HO):Hp:=fun b=>if b=a then some o else H b
theorem ag{H:Hp}{a:Addr}{o:HO}:upd H a o a=some o:=by unfold upd;rw [if_pos rfl]
theorem ak{H:Hp}{a b:Addr}{o:HO}(h:b≠a):upd H a o b=H b:=by unfold upd;rw [if_neg h]
theorem cn{H:Hp}{a:Addr}{o u:HO}:upd (upd H a o) a u=upd H a u:=by
 funext b;unfold upd;split<;>rfl
theorem ft{H:Hp}{a b:Addr}{o u:HO}(h:H a=some o)(h':H b=some u)(d:o≠u):a≠b:=by
 intro e;subst e;rw [h]at h';exact d (Option.some.inj h')
theorem ar{H:Hp}{a b:Addr}{o:HO}(h:H a=some o)(h':H b=none):a≠b:=by
 intro e;subst e;rw [h]at h';cases h'
section
variable (P:Program) (w:World)
def di(H:Hp)(h:Heap)(a:Addr):HO→Prop
 | .lst xs=>xs.length≤sizeLine∧∃(its:List Value) (n:Nat),aV xs its∧h.get? a=some { cls:=.type "list",data:=.seq its.toArray n }
 | .tup xs=>xs.length≤sizeLine∧∃its:List Value,aV xs its∧IsTup h a its.toArray
 | .dK kvs=>kvs.length≤sizeLine∧(a == sysModules)=false∧∃vs,KV kvs vs∧h.DictOf (p9 P w) a vs
 | .dT kvs=>kvs.length≤sizeLine∧(a == sysModules)=false∧∃xs:List (List rb×Addr×Value),
   Paired (fun(p:List rb×V) (q:List rb×Addr×Value)=>p.1=q.1∧H q.2.1=some (.tup (p.1.map kV))∧aN p.2 q.2.2) kvs xs∧
   ∃o es ep,h.get? a=some o∧o.ExactDict∧o.data=.dict es ep∧es.toList=xs.map (entryOfKey (tupleKind (p9 P w)))∧(xs.map (·.1)).Nodup
 | .set S n=>h.SetOf (intKind P w) a S n
 | .ins C dx fs=>H dx=some (.own a)∧fs.length≤1000∧dx≠a∧h.get? a=some (instObj C dx)∧
   ∃mA,h.Ns1 dx mA∧(∀f,kh (fs.lookup f) (mA f))∧PySem.Within mA (fs.map (·.1))
 | .own _=>∃o,h.get? a=some o
 | .xd fs=>∃mA,h.Ns1 a mA∧∀f,kh (fs.lookup f) (mA f)
 | .rng lo hi=>∃t u v,h.get? a=some { cls:=.type "range",data:=.fields #[.int lo t,.int hi u,.int 1 v] }
 | .frz o u=>h.get? a=some o∧di H h a u
 | .tbl ps=>h.get? a=some { cls:=.none,data:=.fields ps }
 | .met f x=>h.get? a=some (PySem.W.methodObj (.ref f) (.ref x))
 | .ext φ=>φ h∧(∃o,h.get? a=some o)∧∀h1 h2:Heap,φ h1→(∀o,h1.get? a=some o→h2.get? a=some o)→φ h2
def i6(H:Hp)(h:Heap):Prop:=∀a o,H a=some o→di P w H h a o
end
section
variable {P:Program} {w:World} {H H':Hp} {h h':Heap} {a:Addr} {o:HO}
theorem di.lt(x:di P w H h a o):a < h.objs.size:=by
 cases o with
 | lst xs=>obtain⟨_,_,_,_,e⟩:=x;exact ab2 e
 | tup xs=>obtain⟨_,_,_,p⟩:=x;exact p.lt
 | dK kvs=>obtain⟨_,_,_,_,o,_,_,e,_⟩:=x;exact ab2 e
 | dT kvs=>obtain⟨_,_,_,_,o,_,_,e,_⟩:=x;exact ab2 e
 | set S n=>obtain⟨o,_,_,_,e,_⟩:=x;exact ab2 e
 | ins C dx fs=>obtain⟨_,_,_,e,_⟩:=x;exact ab2 e
 | own y=>obtain⟨_,e⟩:=x;exact ab2 e
 | xd fs=>obtain⟨_,⟨_,_,_,e,_⟩,_⟩:=x;exact ab2 e
 | rng lo hi=>obtain⟨_,_,_,e⟩:=x;exact ab2 e
 | frz ob u=>obtain⟨e,_⟩:=x;exact ab2 e
 | tbl ps=>exact ab2 (show h.get? a=some _ from x)
 | met f y=>exact ab2 (show h.get? a=some _ from x)
 | ext φ=>obtain⟨_,⟨_,e⟩,_⟩:=x;exact ab2 e
theorem Paired.mapP{α β:Type}{F G:α→β→Prop}:∀{l₁:List α} {l₂:List β},Paired F l₁ l₂→(∀a b,F a b→G a b)→Paired G l₁ l₂
 | _,_,.nil,_=>.nil
 | _,_,.cons r t,f=>.cons (f _ _ r) (Paired.mapP t f)
theorem di.stay(x:di P w H h a o)(k:∀b u,(b=a∨H b=some (.own a))→h.get? b=some u→h'.get? b=some u)
  (ho:∀b,H b=some (.own a)→H' b=some (.own a)) (ht:∀b xs,H b=some (.tup xs)→H' b=some (.tup xs)):di P w H' h' a o:=by
 induction o with
 | lst xs=>obtain⟨z,its,n,r,e⟩:=x;exact⟨z,its,n,r,k _ _ (.inl rfl) e⟩
 | tup xs=>obtain⟨z,its,r,ob,e,c⟩:=x;exact⟨z,its,r,ob,k _ _ (.inl rfl) e,c⟩
 | dK kvs=>obtain⟨z,y,vs,r,ob,es,ep,e,c⟩:=x;exact⟨z,y,vs,r,ob,es,ep,k _ _ (.inl rfl) e,c⟩
 | dT kvs=>
  obtain⟨z,y,xs,r,ob,es,ep,e,c⟩:=x;exact⟨z,y,xs,Paired.mapP r fun p q z=>⟨z.1,ht _ _ z.2.1,z.2.2⟩,ob,es,ep,k _ _ (.inl rfl) e,c⟩
 | set S n=>obtain⟨ob,es,ep,t,e,c⟩:=x;exact⟨ob,es,ep,t,k _ _ (.inl rfl) e,c⟩
 | ins C dx fs=>
  obtain⟨d,z,ne,e,mA,⟨od,es,ep,e2,c⟩,r⟩:=x;exact⟨ho _ d,z,ne,k _ _ (.inl rfl) e,mA,⟨od,es,ep,k _ _ (.inr d) e2,c⟩,r⟩
 | own y=>obtain⟨ob,e⟩:=x;exact⟨ob,k _ _ (.inl rfl) e⟩
 | xd fs=>obtain⟨mA,⟨od,es,ep,e,c⟩,r⟩:=x;exact⟨mA,⟨od,es,ep,k _ _ (.inl rfl) e,c⟩,r⟩
 | rng lo hi=>obtain⟨t,u,v,e⟩:=x;exact⟨t,u,v,k _ _ (.inl rfl) e⟩
 | frz ob u ih=>obtain⟨e,q⟩:=x;exact⟨k _ _ (.inl rfl) e,ih q⟩
 | tbl ps=>
  have e:h.get? a=some { cls:=.none,data:=.fields ps }:=x;show h'.get? a=some { cls:=.none,data:=.fields ps };exact k a _ (.inl rfl) e
 | met f y=>
  have e:h.get? a=some (PySem.W.methodObj (.ref f) (.ref y)):=x;show h'.get? a=some (PySem.W.methodObj (.ref f) (.ref y));exact k a _ (.inl rfl) e
 | ext φ=>obtain⟨p,⟨o,e⟩,st⟩:=x;exact⟨st _ _ p fun o q=>k _ _ (.inl rfl) q,⟨o,k _ _ (.inl rfl) e⟩,st⟩
theorem i6.lt(x:i6 P w H h)(e:H a=some o):a < h.objs.size:=(x a o e).lt
theorem i6.fresh(x:i6 P w H h)(e:h.objs.size≤a):H a=none:=by
 cases q:H a with
 | none=>rfl
 | some u=>exact absurd (aa5 (x.lt q) e) (af5 _)
theorem i6.kept(x:i6 P w H h)(k:∀b u,h.get? b=some u→h'.get? b=some u):i6 P w H h':=fun a o e=>
 (x a o e).stay (fun b u _ q=>k b u q) (fun _ q=>q) fun _ _ q=>q
theorem i6.laid(x:i6 P w H h)(k:∀b u,h.get? b=some u→h'.get? b=some u)(hp:h.objs.size≤a)(new:di P w (upd H a o) h' a o):i6 P w (upd H a o) h':=fun b u e=>by
 have hn:=x.fresh hp
 by_cases hb:b=a
 ·subst hb;rw [ag]at e;cases e;exact new
 ·rw [ak hb]at e
  exact(x b u e).stay (fun c v _ q=>k c v q) (fun c q=>by rw [ak (ar q hn)];exact q) fun c xs q=>by rw [ak (ar q hn)];exact q
end
def Rd(H:Hp)(a:Addr)(u:HO):Prop:=H a=some u∨∃o,H a=some (.frz o u)
theorem Rd.ok{P:Program}{w:World}{H:Hp}{h:Heap}{a:Addr}{u:HO}(r:Rd H a u)(x:i6 P w H h):di P w H h a u:=by
 rcases r with r | ⟨o,r⟩
 ·exact x a u r
 ·obtain⟨_,q⟩:=x a _ r
  exact q
def Eu:Option HO→Prop
 | some (.lst _)=>True
 | some (.dK _)=>True
 | some (.dT _)=>True
 | some (.set _ _)=>True
 | some (.ins _ _ _)=>True
 | some (.ext _)=>True
 | _=>False
section
variable {P:Program} {w:World} {H:Hp} {h h':Heap} {x e:Addr} {o':HO}
theorem i6.write(ok:i6 P w H h)(mu:Eu (H x))(he:e=x∨H e=some (.own x))(k:∀b u,b≠e→h.get? b=some u→h'.get? b=some u)(heo:∃u,h'.get? e=some u)
  (new:di P w (upd H x o') h' x o'):i6 P w (upd H x o') h':=fun b u q=>by
 have nown:∀c y,H c=some (.own y)→c≠x:=fun c y r z=>by subst z;rw [r]at mu;exact mu
 have ntup:∀c xs,H c=some (.tup xs)→c≠x:=fun c xs r z=>by subst z;rw [r]at mu;exact mu
 by_cases hb:b=x
 ·subst hb;rw [ag]at q;cases q;exact new
 ·rw [ak hb]at q
  by_cases hbe:b=e
  ·have q':H b=some (.own x):=by
    rcases he with z | z
    ·exact absurd (hbe.trans z) hb
    ·rw [hbe];exact z
   rw [q]at q';cases q';obtain⟨v,hv⟩:=heo;exact⟨v,by rw [hbe];exact hv⟩
  ·refine(ok b u q).stay (fun c v hc r=>k c v ?_ r) (fun c r=>by rw [ak (nown c b r)];exact r) fun c xs r=>by rw [ak (ntup c xs r)];exact r
   rcases hc with rfl | hc
   ·exact hbe
   ·rintro rfl
    rcases he with z | z
    ·exact nown c b hc z
    ·rw [hc]at z;cases z;exact hb rfl
end
structure Un(fs ex:List Addr)(H H':Hp)(h h':Heap):Prop where
 keep:∀b o,h.get? b=some o→H b=none→b∉fs→b∉ex→h'.get? b=some o
 slot:∀b o,h.get? b=some o→H b=none→b∈fs→b∉ex→∃sl,h'.get? b=some { o with slots:=sl }
 free:∀b o,h.get? b=some o→H b=none→b∉ex→H' b=none
 there:∀b o,h.get? b=some o→b∉ex→∃o',h'.get? b=some o'
 tups:∀b xs,H b=some (.tup xs)→H' b=some (.tup xs)
 frzs:∀b o u,H b=some (.frz o u)→H' b=some (.frz o u)
 tbls:∀b ps,H b=some (.tbl ps)→∃more,H' b=some (.tbl (ps++more))
section
variable {fs fs' ex ex':List Addr} {H H1 H2:Hp} {h h1 h2 h':Heap} {a x e:Addr} {o:HO}
theorem Un.any(u:Un fs ex H H1 h h1){b:Addr}{ob:Obj}(q:h.get? b=some ob)(n:H b=none)(hx:b∉ex):∃sl,h1.get? b=some { ob with slots:=sl }:=by
 by_cases hb:b∈fs
 ·exact u.slot b ob q n hb hx
 ·exact⟨ob.slots,u.keep b ob q n hb hx⟩
theorem Un.kept(k:∀b u,h.get? b=some u→h'.get? b=some u):Un fs ex H H h h':=
 ⟨fun b ob q _ _ _=>k b ob q,fun b ob q _ _ _=>⟨ob.slots,k b ob q⟩,fun _ _ _ n _=>n,fun b ob q _=>⟨ob,k b ob q⟩,fun _ _ q=>q,fun _ _ _ q=>q,fun _ ps q=>⟨#[],by rw [q];simp⟩⟩
theorem Un.refl:Un fs ex H H h h:=Un.kept fun _ _ q=>q
theorem Un.laid(k:∀b u,h.get? b=some u→h'.get? b=some u)(hp:h.objs.size≤a)(hn:H a=none):Un fs ex H (upd H a o) h h' where
 keep:=fun b u q _ _ _=>k b u q
 slot:=fun b u q _ _ _=>⟨u.slots,k b u q⟩
 free:=fun b u q n _=>by rw [ak (ab5 (aa5 (ab2 q) hp))];exact n
 there:=fun b u q _=>⟨u,k b u q⟩
 tups:=fun b xs q=>by rw [ak (ar q hn)];exact q
 frzs:=fun b u xs q=>by rw [ak (ar q hn)];exact q
 tbls:=fun b ps q=>⟨#[],by rw [ak (ar q hn),q];simp⟩
theorem Un.write(mu:Eu (H x))(he:e=x∨H e=some (.own x))(k:∀b u,b≠e→h.get? b=some u→h'.get? b=some u)(heo:∃u,h'.get? e=some u):Un fs ex H (upd H x o) h h':=by
 have hx:∀b,H b=none→b≠x:=fun b n z=>by subst z;rw [n]at mu;exact mu
 have hb:∀b,H b=none→b≠e:=fun b n z=>by
  subst z;rcases he with r | r
  ·exact hx b n r
  ·rw [n]at r;cases r
 have hm:∀b u,H b=some u→¬Eu (some u)→b≠x:=fun b u q nm z=>by subst z;rw [q]at mu;exact nm mu
 refine⟨fun b u q n _ _=>k b u (hb b n) q,fun b u q n _ _=>⟨u.slots,k b u (hb b n) q⟩,fun b u q n _=>by rw [ak (hx b n)];exact n,fun b u q _=>?_,
  fun b xs q=>by rw [ak (hm b _ q fun z=>z)];exact q,fun b u xs q=>by rw [ak (hm b _ q fun z=>z)];exact q,fun b ps q=>⟨#[],by rw [ak (hm b _ q fun z=>z),q];simp⟩⟩
 by_cases hbe:b=e
 ·subst hbe;exact heo
 ·exact⟨u,k b u hbe q⟩
end
def EC(h:Heap)(H:Hp):List Addr:=(List.range h.objs.size).filter fun a=>(H a).isSome
def p0(h:Heap)(H:Hp):Heap:=PySem.W.hideAll h (EC h H)
theorem wH(h:Heap)(H:Hp):(p0 h H).objs.size=h.objs.size:=PySem.W.hideAll_size _ _
theorem yj{h:Heap}{H:Hp}{b:Addr}{o:Obj}(e:h.get? b=some o)(n:H b=none):(p0 h H).get? b=some o:=
 PySem.W.hideAll_get _ e fun hm=>by
  have q:(H b).isSome=true:=(List.mem_filter.mp hm).2;rw [n]at q;simp at q
theorem AB{h:Heap}{H:Hp}{b:Addr}{o:Obj}(e:(p0 h H).get? b=some o):h.get? b=some o∧H b=none:=by
 have e':h.get? b=some o:=PySem.W.of_hideAll (EC h H) e;refine⟨e',?_⟩
 cases q:H b with
 | none=>rfl
 | some x=>
  have hm:b∈EC h H:=List.mem_filter.mpr ⟨List.mem_range.mpr (ab2 e'),by simp [q]⟩;have z:(p0 h H).get? b=none:=PySem.W.hideAll_none (EC h H) hm;rw [z]at e;cases e
def z6(g h:Heap)(L:Addr):List (Addr×Obj):=(List.range h.objs.size).filterMap fun a=>if a=L∨(g.get? a).isSome=true then none else(h.get? a).map fun o=>(a,o)
def rest(g h:Heap)(L d:Addr):List (Addr×Obj):=(z6 g h L).filter fun p=>decide (p.1≠d)
end L2
namespace L2
open PySem PySem.Spec PyProof.Rows
structure Mod(K:Frag)(mg:Str→Option Value)(base:Heap):Prop where
 kin:K.In base
 glob:base.Ns mainGlobals mg
 blt:∃mb,base.Ns builtinsNs mb∧∀x:Str,x≠"__name__"→mb x=bootBuiltins x
 nolimit:base.NoLimit
structure Cx where
 prog:Program
 w:World
 K:Frag
 mg:Str→Option Value
 base:Heap
 A:Around
 N:List Str
 s₀:Shared
 H₀:Hp
 env:Env
 outer:List Env
 stack:List Env
 ex:List Addr
 fn:Str→Bool
 calm:Bool
 pn:List (Addr×Obj)
 xe:Value→Shared→Prop
def mh(l:List Env):List Addr:=l.filterMap (·.frame)
abbrev Cx.fs(X:Cx):List Addr:=mh X.outer
def Dz(sc:Scope)(x:Str):Prop:=sc.names.lookup x=some .local∨sc.names.lookup x=some .cell∨sc.names.lookup x=some .free
def BZ(sc:Scope)(x:Str):Prop:=sc.names.lookup x=some .local∨sc.names.lookup x=some .cell
def EF(env:Env)(h:Heap)(m:Str→Option Value)(x:Str)(u:Value):Prop:=
 (env.kindOf x=some .local∧m x=some u)∨((env.kindOf x=some .cell∨env.kindOf x=some .free)∧∃c,env.cells.lookup x=some c∧h.IsCell c (some u))
structure Cx.Ok(X:Cx):Prop where
 mod:Mod X.K X.mg X.base
 kind:X.env.scope.kind=.function
 glob:X.env.globals=mainGlobals
 blt:X.env.builtins=builtinsNs
 above:X.s₀.heap.objs.size≤X.env.locals
 inj:∀x y c,X.env.cells.lookup x=some c→X.env.cells.lookup y=some c→x=y
 has:∀x,(X.env.kindOf x=some .cell∨X.env.kindOf x=some .free)→∃c,X.env.cells.lookup x=some c
 cab:∀x c,X.fn x=true→X.env.cells.lookup x=some c→X.s₀.heap.objs.size≤c
 hd:X.calm=true→X.A.handled=none
 frames:X.A.frames=some X.stack
 stk:X.stack=X.outer∨(X.stack=X.env::X.outer∧X.env.frame=some X.env.locals)
 exf:∀b∈X.ex,b≠X.env.locals∧∀x c,X.env.cells.lookup x=some c→c≠b
 bs:∀b o,X.base.get? b=some o→X.s₀.heap.get? b=some o∧X.H₀ b=none
 bsz:X.base.objs.size≤X.s₀.heap.objs.size
 noex:∀b o,X.base.get? b=some o→b∉X.ex
 exfs:∀b∈X.ex,b∉X.fs
 funs:X.s₀.heap.FunFrames X.base X.outer
 frf:∀b∈X.fs,X.H₀ b=none
structure aK(X:Cx)(pins:List (Addr×Obj))(σ:List (Option V))(H:Hp)(s:Shared):Prop where
 ok:X.Ok
 os:s.os=X.s₀.os
 bare:AllBare s.gens
 base:Un X.fs X.ex X.H₀ H X.s₀.heap s.heap
 loc:∃m,s.heap.Ns X.env.locals m∧∀(i:Nat) (x:Str) (v:V),X.N[i]?=some x→σ[i]?=some (some v)→Dz X.env.scope x→∃u,aN v u∧EF X.env s.heap m x u
 cell:∀x c,X.env.cells.lookup x=some c→∃v,s.heap.IsCell c v
 free:H X.env.locals=none
 freeC:∀x c,X.env.cells.lookup x=some c→H c=none
 pin:∀p∈X.pn++pins,s.heap.get? p.1=some p.2∧H p.1=none∧p.1≠X.env.locals∧p.1∉X.fs∧∀v,p.2.data≠.cell v
 hok:i6 X.prog X.w H s.heap
 len:σ.length=X.N.length
section
variable {X:Cx} {pins:List (Addr×Obj)} {σ:List (Option V)} {H H':Hp} {s:Shared} {h':Heap}
theorem Cx.Ok.nofr(ok:X.Ok){b:Addr}{o:Obj}(e:X.base.get? b=some o):b∉X.fs:=fun hb=>by
 have:=(ok.funs.mem hb).1
 rw [e]at this;cases this
theorem aK.bs(I:aK X pins σ H s):∀b o,X.base.get? b=some o→s.heap.get? b=some o∧H b=none:=fun b o e=>
 ⟨I.base.keep b o (I.ok.bs b o e).1 (I.ok.bs b o e).2 (I.ok.nofr e) (I.ok.noex b o e),I.base.free b o (I.ok.bs b o e).1 (I.ok.bs b o e).2 (I.ok.noex b o e)⟩
theorem aK.bk(I:aK X pins σ H s):∀b o,X.base.get? b=some o→s.heap.get? b=some o:=fun b o e=>(I.bs b o e).1
theorem aK.mod(I:aK X pins σ H s):Mod X.K X.mg X.base:=I.ok.mod
theorem aK.kIn(I:aK X pins σ H s):X.K.In s.heap:=I.ok.mod.kin.keeps I.bk
theorem aK.lt(I:aK X pins σ H s):X.env.locals < s.heap.objs.size:=let ⟨_,hn,_⟩:=I.loc;hn.lt
theorem aK.sz(I:aK X pins σ H s):X.s₀.heap.objs.size≤s.heap.objs.size:=ab8 I.ok.above (ah6 I.lt)
theorem aK.nofs(I:aK X pins σ H s){a:Addr}(h:s.heap.objs.size≤a):a∉X.fs:=fun hb=>by
 obtain⟨_,o,ho,_⟩:=I.ok.funs.mem hb;exact absurd (aa5 (ab2 ho) (ab8 I.sz h)) (af5 _)
theorem aK.cne(I:aK X pins σ H s):∀x c,X.env.cells.lookup x=some c→c≠X.env.locals:=fun x c e z=>by
 obtain⟨v,o,ho,hd⟩:=I.cell x c e;obtain⟨m,⟨o',es,ep,ho',hd',_⟩,_⟩:=I.loc;rw [z,ho']at ho;cases ho;rw [hd']at hd;cases hd
theorem aK.funs(I:aK X pins σ H s):s.heap.FunFrames X.base X.outer:=by
 have all:∀(l:List Env),(∀b∈mh l,b∈X.fs)→X.s₀.heap.FunFrames X.base l→s.heap.FunFrames X.base l:=by
  intro l
  induction l with
  | nil=>intro _ _;trivial
  | cons env r ih=>
   intro hs hl;obtain⟨hk,⟨L,o,hf,hn,ho,hd⟩,hr⟩:=hl;have hL:L∈X.fs:=hs L (by unfold mh;rw [aj0,hf];exact ac3);obtain⟨sl,e⟩:=I.base.slot L o ho (I.ok.frf L hL) hL fun z=>I.ok.exfs L z hL;exact⟨hk,⟨L,_,hf,hn,e,hd⟩,ih (fun b hb=>hs b (by unfold mh;rw [aj0,hf];exact ac9 _ hb)) hr⟩
 exact all X.outer (fun _ hb=>hb) I.ok.funs
theorem aK.stack(I:aK X pins σ H s):s.heap.FunFrames X.base X.stack:=by
 rcases I.ok.stk with e | ⟨e,hf⟩
 ·rw [e];exact I.funs
 ·rw [e]
  obtain⟨m,hn,_⟩:=I.loc;refine .cons (by rw [I.ok.kind];decide) hf hn ?_ I.funs;exact ai5 (ab8 I.ok.bsz I.ok.above)
theorem aK.stkSub(I:aK X pins σ H s):∀b∈mh X.stack,b∈X.env.locals::X.fs:=fun b hb=>by
 rcases I.ok.stk with e | ⟨e,hf⟩
 ·rw [e]at hb;exact ac9 _ hb
 ·rw [e]at hb
  unfold mh at hb;rw [aj0,hf]at hb;exact hb
theorem aK.stkFree(I:aK X pins σ H s):∀b∈mh X.stack,H b=none:=fun b hb=>by
 rcases aa6.mp (I.stkSub b hb)with e | hb
 ·rw [e];exact I.free
 ·obtain⟨_,o,ho,_⟩:=I.ok.funs.mem hb
  exact I.base.free b o ho (I.ok.frf b hb) fun z=>I.ok.exfs b z hb
theorem aK.step{g':Array GenState}{t':Nat}{d':Drawn}{ch:List Addr}(I:aK X pins σ H s)
  (hch:∀b∈ch,(b∈X.ex∨X.s₀.heap.objs.size≤b)∧b≠X.env.locals∧(∀x c,X.env.cells.lookup x=some c→c≠b)∧∀p∈X.pn++pins,p.1≠b)
  (keep:∀b o,b≠X.env.locals→b∉X.fs→b∉ch→s.heap.get? b=some o→H b=none→h'.get? b=some o)
  (slot:∀b o,b≠X.env.locals→b∈X.fs→b∉ch→s.heap.get? b=some o→H b=none→∃sl,h'.get? b=some { o with slots:=sl }) (free:∀b o,b∉ch→s.heap.get? b=some o→H b=none→H' b=none)
  (there:∀b o,b∉ch→s.heap.get? b=some o→∃o',h'.get? b=some o')
  (tups:∀b xs,H b=some (.tup xs)→H' b=some (.tup xs)) (frzs:∀b o u,H b=some (.frz o u)→H' b=some (.frz o u)) (tbls:∀b ps,H b=some (.tbl ps)→∃more,H' b=some (.tbl (ps++more)))
  (ns:∀m,s.heap.Ns X.env.locals m→h'.Ns X.env.locals m) (hok:i6 X.prog X.w H' h') (hg:AllBare g') :
  aK X pins σ H' { s with heap:=h',gens:=g',drawn:=d',toks:=t' }:=by
 have neL:∀b o,X.s₀.heap.get? b=some o→b≠X.env.locals:=fun b o e=>ab5 (aa5 (ab2 e) I.ok.above)
 have neC:∀b o,X.s₀.heap.get? b=some o→b∉X.ex→b∉ch:=fun b o e hx hb=>by
  rcases(hch b hb).1 with z | z
  ·exact hx z
  ·exact absurd (aa5 (ab2 e) z) (af5 _)
 have cellK:∀x c,X.env.cells.lookup x=some c→∀v,s.heap.IsCell c v→h'.IsCell c v:=fun x c e v ⟨o,ho,hd⟩=>by
  have nch:c∉ch:=fun z=>(hch c z).2.2.1 x c e rfl
  by_cases hc:c∈X.fs
  ·obtain⟨sl,q⟩:=slot c o (I.cne x c e) hc nch ho (I.freeC x c e)
   exact⟨_,q,hd⟩
  ·exact⟨o,keep c o (I.cne x c e) hc nch ho (I.freeC x c e),hd⟩
 refine⟨I.ok,I.os,hg,⟨fun b o e n hb hx=>?_,fun b o e n hb hx=>?_,fun b o e n hx=>?_,fun b o e hx=>?_,fun b xs e=>tups b xs (I.base.tups b xs e),fun b o xs e=>frzs b o xs (I.base.frzs b o xs e),fun b ps e=>?_⟩,?_,fun x c e=>?_,?_,fun x c e=>?_,fun p hp=>?_,hok,I.len⟩
 ·exact keep b o (neL b o e) hb (neC b o e hx) (I.base.keep b o e n hb hx) (I.base.free b o e n hx)
 ·obtain⟨sl,e1⟩:=I.base.slot b o e n hb hx
  obtain⟨sl',e2⟩:=slot b _ (neL b o e) hb (neC b o e hx) e1 (I.base.free b o e n hx);exact⟨sl',e2⟩
 ·obtain⟨o',e1⟩:=I.base.there b o e hx
  exact free b o' (neC b o e hx) e1 (I.base.free b o e n hx)
 ·obtain⟨o',e1⟩:=I.base.there b o e hx
  exact there b o' (neC b o e hx) e1
 ·obtain⟨m1,e1⟩:=I.base.tbls b ps e
  obtain⟨m2,e2⟩:=tbls b _ e1;exact⟨m1++m2,by rw [e2,Array.append_assoc]⟩
 ·obtain⟨m,hn,hl⟩:=I.loc
  refine⟨m,ns m hn,fun i x v e1 e2 e3=>?_⟩;obtain⟨u,r,l⟩:=hl i x v e1 e2 e3;refine⟨u,r,?_⟩;rcases l with l | ⟨k,c,e,z⟩
  ·exact .inl l
  ·exact .inr ⟨k,c,e,cellK x c e _ z⟩
 ·obtain⟨v,z⟩:=I.cell x c e
  exact⟨v,cellK x c e v z⟩
 ·obtain⟨m,⟨o,_,_,ho,_⟩,_⟩:=I.loc
  exact free _ o (fun z=>(hch _ z).2.1 rfl) ho I.free
 ·obtain⟨v,o,ho,hd⟩:=I.cell x c e
  exact free c o (fun z=>(hch c z).2.2.1 x c e rfl) ho (I.freeC x c e)
 ·obtain⟨e,n,ne,nf,d⟩:=I.pin p hp
  have nch:p.1∉ch:=fun z=>(hch p.1 z).2.2.2 p hp rfl;exact⟨keep p.1 p.2 ne nf nch e n,free p.1 p.2 nch e n,ne,nf,d⟩
theorem aK.un{t':Nat}(I:aK X pins σ H s)(u:Un X.fs [] H H' s.heap h')(hok:i6 X.prog X.w H' h'):aK X pins σ H' { s with heap:=h',toks:=t' }:=by
 obtain⟨m,⟨o,es,ep,ho,r⟩,_⟩:=id I.loc;obtain⟨sl,hL⟩:=u.any ho I.free (by simp)
 exact I.step (g':=s.gens) (d':=s.drawn) (ch:=[]) (fun _ z=>nomatch z) (fun b o _ hb _ e n=>u.keep b o e n hb (by simp)) (fun b o _ hb _ e n=>u.slot b o e n hb (by simp)) (fun b o _ e n=>u.free b o e n (by simp)) (fun b o _ e=>u.there b o e (by simp)) u.tups u.frzs u.tbls (fun m' hm=>by
  obtain⟨o',es',ep',ho',r'⟩:=hm;rw [ho]at ho';cases ho'
  exact⟨_,es',ep',hL,r'⟩) hok I.bare
theorem aK.call{g':Array GenState}{t':Nat}{d':Drawn}{ch:List Addr}(I:aK X pins σ H s)(u:Un (mh X.stack) ch H H' s.heap h')(hok:i6 X.prog X.w H' h')(hg:AllBare g')
  (hch:∀b∈ch,(b∈X.ex∨X.s₀.heap.objs.size≤b)∧b≠X.env.locals∧(∀x c,X.env.cells.lookup x=some c→c≠b)∧∀p∈X.pn++pins,p.1≠b) :
  aK X pins σ H' { s with heap:=h',gens:=g',drawn:=d',toks:=t' }:=by
 obtain⟨m,⟨o,es,ep,ho,r⟩,_⟩:=id I.loc;obtain⟨sl,hL⟩:=u.any ho I.free fun z=>(hch _ z).2.1 rfl
 exact I.step (ch:=ch) hch (fun b o hL hb hc e n=>u.keep b o e n (fun z=>(aa6.mp (I.stkSub b z)).elim hL hb) hc) (fun b o _ _ hc e n=>u.any e n hc) (fun b o hc e n=>u.free b o e n hc) (fun b o hc e=>u.there b o e hc) u.tups u.frzs u.tbls (fun m' hm=>by
  obtain⟨o',es',ep',ho',r'⟩:=hm;rw [ho]at ho';cases ho'
  exact⟨_,es',ep',hL,r'⟩) hok hg
theorem aK.turned{t':Nat}{it:Addr}(I:aK X pins σ H s)(k:∀b o,b≠it→s.heap.get? b=some o→h'.get? b=some o)(hn:H it=none)(hL:it≠X.env.locals)
  (h1:it∈X.ex∨X.s₀.heap.objs.size≤it) (h2:∀x c,X.env.cells.lookup x=some c→c≠it) (h3:∀p∈X.pn++pins,p.1≠it):aK X pins σ H { s with heap:=h',toks:=t' }:=by
 have nit:∀b u,H b=some u→b≠it:=fun b u e z=>by rw [z,hn]at e;cases e
 refine I.step (g':=s.gens) (d':=s.drawn) (ch:=[it]) (fun b hb=>?_) (fun b o _ _ hc e _=>k b o (fun z=>hc (by simp [z])) e) (fun b o _ _ hc e _=>⟨o.slots,k b o (fun z=>hc (by simp [z])) e⟩) (fun _ _ _ _ n=>n)
  (fun b o hc e=>⟨o,k b o (fun z=>hc (by simp [z])) e⟩) (fun _ _ e=>e) (fun _ _ _ e=>e) (fun b ps e=>⟨#[],by rw [e];simp⟩) (fun m hm=>?_) (fun b u e=>?_) I.bare
 ·have e:b=it:=by simpa using hb
  subst e;exact⟨h1,hL,h2,h3⟩
 ·obtain⟨o,es,ep,ho,r⟩:=hm
  exact⟨o,es,ep,k _ o (Ne.symm hL) ho,r⟩
 ·refine(I.hok b u e).stay (fun c v hc q=>k c v ?_ q) (fun _ q=>q) fun _ _ q=>q
  rcases hc with z | z
  ·rw [z];exact nit b u e
  ·exact nit c _ z
theorem aK.tok(I:aK X pins σ H s)(t:Nat):aK X pins σ H { s with toks:=t }:=I.un (h':=s.heap) (t':=t) Un.refl I.hok
theorem aK.kept{t':Nat}(I:aK X pins σ H s)(k:∀b u,s.heap.get? b=some u→h'.get? b=some u):aK X pins σ H { s with heap:=h',toks:=t' }:=I.un (Un.kept k) (I.hok.kept k)
theorem aK.laid{a:Addr}{o:HO}{t':Nat}(I:aK X pins σ H s)(k:∀b u,s.heap.get? b=some u→h'.get? b=some u)(hp:s.heap.objs.size≤a)(new:di X.prog X.w (upd H a o) h' a o):
  aK X pins σ (upd H a o) { s with heap:=h',toks:=t' }:=I.un (Un.laid k hp (I.hok.fresh hp)) (I.hok.laid k hp new)
theorem aK.write{x e:Addr}{o:HO}{t':Nat}(I:aK X pins σ H s)(mu:Eu (H x))(he:e=x∨H e=some (.own x))(k:∀b u,b≠e→s.heap.get? b=some u→h'.get? b=some u)(heo:∃u,h'.get? e=some u)
  (new:di X.prog X.w (upd H x o) h' x o):aK X pins σ (upd H x o) { s with heap:=h',toks:=t' }:=I.un (Un.write mu he k heo) (I.hok.write mu he k heo new)
theorem aK.pins_of{pins':List (Addr×Obj)}(I:aK X pins σ H s)(h:∀p∈pins',s.heap.get? p.1=some p.2∧H p.1=none∧p.1≠X.env.locals∧p.1∉X.fs∧∀v,p.2.data≠.cell v):aK X pins' σ H s:=
 ⟨I.ok,I.os,I.bare,I.base,I.loc,I.cell,I.free,I.freeC,fun p hp=>(ac1.mp hp).elim (fun z=>I.pin p (ae6 _ z)) (h p),I.hok,I.len⟩
theorem mZ{N:List Str}(hN:N.Nodup){i j:Nat}{x:Str}(a:N[i]?=some x)(b:N[j]?=some x):i=j:=by
 obtain⟨h1,e1⟩:=aa2.mp a;obtain⟨h2,e2⟩:=aa2.mp b;exact(List.getElem_inj hN).mp (e1.trans e2.symm)
theorem pI{M:Model}{A:Around}{E:Value→Shared→Prop}{i:Nat}{x:Str}{v:V}{u:Value}{Q:Unit→Shared→Prop}(I:aK X pins σ H s)(hN:X.N.Nodup)(hi:X.N[i]?=some x)(hx:BZ X.env.scope x)(r:aN v u)
  (h:∀s',aK X pins (σ.set i (some v)) H s'→(∃a,Heap.SameBut a s.heap s'.heap∧(a=X.env.locals∨X.env.cells.lookup x=some a))→Q () s') (hf:X.fn x=true∨X.env.scope.names.lookup x=some .local:=by first | exact .inl rfl | exact .inr rfl | assumption):wpAny M A (storeName X.env x u) Q E s:=by
 obtain⟨m,hn,hl⟩:=id I.loc
 have hcls:(X.env.scope.kind == .class || (X.env.scope.kind == .module && X.env.locals != X.env.globals))=false:=by rw [I.ok.kind];rfl
 have hiσ:i < σ.length:=by rw [I.len];exact(aa2.mp hi).1
 have cne:=I.cne
 have tracked:∀{a:Addr} {h':Heap},(∃o,s.heap.get? a=some o∧H a=none)→Heap.SameBut a s.heap h'→i6 X.prog X.w H h':=fun {a h'} ha hs b ob e=>by
  obtain⟨_,_,hfree⟩:=ha;refine(I.hok b ob e).stay (fun c w' hc q=>(hs.2 c ?_).trans q) (fun _ q=>q) fun _ _ q=>q;rintro rfl;rcases hc with rfl | hc
  ·rw [hfree]at e;cases e
  ·rw [hfree]at hc;cases hc
 rcases hx with hk | hk
 ·refine wpAny_storeName_local hk hn (fun h' hn' hs=>?_) hcls
  obtain⟨oL,_,_,hoL,_⟩:=id hn;refine h _ ⟨I.ok,I.os,I.bare,⟨fun b o e n hb hx=>?_,fun b o e n hb hx=>?_,I.base.free,fun b o e hx=>?_,I.base.tups,I.base.frzs,I.base.tbls⟩,⟨_,hn',fun j y v' e1 e2 e3=>?_⟩,fun y c e=>?_,I.free,I.freeC,fun p hp=>?_,tracked ⟨oL,hoL,I.free⟩ hs,by simpa using I.len⟩ ⟨_,hs,.inl rfl⟩
  ·exact(hs.2 b (ab5 (aa5 (ab2 e) I.ok.above))).trans (I.base.keep b o e n hb hx)
  ·obtain⟨sl,e1⟩:=I.base.slot b o e n hb hx
   exact⟨sl,(hs.2 b (ab5 (aa5 (ab2 e) I.ok.above))).trans e1⟩
  ·obtain⟨o',e1⟩:=I.base.there b o e hx
   exact⟨o',(hs.2 b (ab5 (aa5 (ab2 e) I.ok.above))).trans e1⟩
  ·by_cases hj:j=i
   ·subst hj
    rw [hi]at e1;cases e1;rw [ah7 hiσ]at e2;cases e2;exact⟨u,r,.inl ⟨hk,by simp⟩⟩
   ·rw [ai6 (Ne.symm hj)]at e2
    obtain⟨u',r',q⟩:=hl j y v' e1 e2 e3;refine⟨u',r',?_⟩;rcases q with⟨k,e⟩ | ⟨k,c,e,z⟩
    ·refine .inl ⟨k,?_⟩
     have:y≠x:=fun e=>hj (mZ hN e1 (e▸hi))
     simp [this,e]
    ·exact .inr ⟨k,c,e,z.sameBut hs (cne y c e)⟩
  ·obtain⟨w',z⟩:=I.cell y c e
   exact⟨w',z.sameBut hs (cne y c e)⟩
  ·obtain⟨e,n,ne,nf,d⟩:=I.pin p hp
   exact⟨(hs.2 p.1 ne).trans e,n,ne,nf,d⟩
 ·have hfn:X.fn x=true:=by
   rcases hf with z | z
   ·exact z
   ·rw [z]at hk;cases hk
  obtain⟨c,hc⟩:=I.ok.has x (.inl hk);obtain⟨w',z⟩:=I.cell x c hc;refine wpAny_storeName_cell I.ok.kind hk hc z (fun h' hc' hs=>?_);obtain⟨oc,hoc,hocd⟩:=id z;refine h { s with heap:=h' } ⟨I.ok,I.os,I.bare,⟨fun b o e n hb hx=>?_,fun b o e n hb hx=>?_,I.base.free,fun b o e hx=>?_,I.base.tups,I.base.frzs,I.base.tbls⟩,⟨m,hn.sameBut hs (Ne.symm (cne x c hc)),fun j y v' e1 e2 e3=>?_⟩,fun y c' e=>?_,I.free,I.freeC,fun p hp=>?_,tracked ⟨oc,hoc,I.freeC x c hc⟩ hs,by simpa using I.len⟩ ⟨c,hs,.inr hc⟩
  ·exact(hs.2 b (ab5 (aa5 (ab2 e) (I.ok.cab x c hfn hc)))).trans (I.base.keep b o e n hb hx)
  ·obtain⟨sl,e1⟩:=I.base.slot b o e n hb hx
   exact⟨sl,(hs.2 b (ab5 (aa5 (ab2 e) (I.ok.cab x c hfn hc)))).trans e1⟩
  ·obtain⟨o',e1⟩:=I.base.there b o e hx
   exact⟨o',(hs.2 b (ab5 (aa5 (ab2 e) (I.ok.cab x c hfn hc)))).trans e1⟩
  ·by_cases hj:j=i
   ·subst hj
    rw [hi]at e1;cases e1;rw [ah7 hiσ]at e2;cases e2;exact⟨u,r,.inr ⟨.inl hk,c,hc,hc'⟩⟩
   ·rw [ai6 (Ne.symm hj)]at e2
    obtain⟨u',r',q⟩:=hl j y v' e1 e2 e3;refine⟨u',r',?_⟩;rcases q with q | ⟨k,c',e,z'⟩
    ·exact .inl q
    ·refine .inr ⟨k,c',e,z'.sameBut hs ?_⟩
     rintro rfl;exact hj (mZ hN e1 (I.ok.inj _ _ _ e hc▸hi))
  ·by_cases hcc:c'=c
   ·subst hcc;exact⟨_,hc'⟩
   ·obtain⟨w2,z2⟩:=I.cell y c' e
    exact⟨w2,z2.sameBut hs hcc⟩
  ·obtain⟨e,n,ne,nf,d⟩:=I.pin p hp
   refine⟨(hs.2 p.1 ?_).trans e,n,ne,nf,d⟩;intro q;rw [q,hoc]at e;have q':oc=p.2:=Option.some.inj e;exact d w' (by rw [←q'];exact hocd)
theorem eZ{M:Model}{A:Around}{E:Value→Shared→Prop}{i:Nat}{x:Str}{v:V}{u:Value}{Q:Unit→Shared→Prop}(I:aK X pins σ H s)(hN:X.N.Nodup)(hi:X.N[i]?=some x)(hx:BZ X.env.scope x)(r:aN v u)
  (h:∀s',aK X pins (σ.set i (some v)) H s'→Q () s') (hf:X.fn x=true∨X.env.scope.names.lookup x=some .local:=by first | exact .inl rfl | exact .inr rfl | assumption):wpAny M A (storeName X.env x u) Q E s:=
 pI I hN hi hx r (fun s' I' _=>h s' I') hf
theorem aK.call'{s':Shared}{ch:List Addr}(I:aK X pins σ H s)(ho:s'.os=s.os)(u:Un (mh X.stack) ch H H' s.heap s'.heap)(hok:i6 X.prog X.w H' s'.heap)(hg:AllBare s'.gens)
  (hch:∀b∈ch,(b∈X.ex∨X.s₀.heap.objs.size≤b)∧b≠X.env.locals∧(∀x c,X.env.cells.lookup x=some c→c≠b)∧∀p∈X.pn++pins,p.1≠b):aK X pins σ H' s':=by
 obtain⟨h',g',d',t',o'⟩:=s';have e:o'=s.os:=ho;subst e;exact I.call (g':=g') (t':=t') (d':=d') u hok hg hch
end
abbrev XK:=Value→Option Addr→Hp→Prop
abbrev St:=List (Option V)
abbrev VK:=V→Hp→Prop
abbrev TE:=St→Hp→VK→Prop
abbrev TT:=St→Hp→(Bool→Hp→Prop)→Prop
abbrev TA:=St→Hp→(List V→Hp→Prop)→Prop
structure e9 where
 nx:St→Hp→Prop
 rt:VK
 bk:St→Hp→Prop:=fun _ _=>False
 ct:St→Hp→Prop:=fun _ _=>False
abbrev TS:=e9→St→Hp→Prop
def EP(X:Cx)(pins:List (Addr×Obj))(σ:St)(Q:VK)(u:Value)(s':Shared):Prop:=∃v H',aK X pins σ H' s'∧aN v u∧Q v H'
def TP(X:Cx)(pins:List (Addr×Obj))(σ:St)(Q:Bool→Hp→Prop)(b:Bool)(s':Shared):Prop:=∃H',aK X pins σ H' s'∧Q b H'
def AP(X:Cx)(pins:List (Addr×Obj))(σ:St)(Q:List V→Hp→Prop)(us:List Value)(s':Shared):Prop:=∃vs H',aK X pins σ H' s'∧aV vs us∧Q vs H'
def SP(X:Cx)(pins:List (Addr×Obj))(D:e9)(f:Flow)(s':Shared):Prop:=
 match f with
 | .next=>∃σ' H',aK X pins σ' H' s'∧D.nx σ' H'
 | .brk=>∃σ' H',aK X pins σ' H' s'∧D.bk σ' H'
 | .cont=>∃σ' H',aK X pins σ' H' s'∧D.ct σ' H'
 | .ret u=>∃v σ' H',aK X pins σ' H' s'∧aN v u∧D.rt v H'
def PE(X:Cx)(e:Expr)(t:TE):Prop:=
 ∀(pins:List (Addr×Obj)) (s:Shared) (σ:St) (H:Hp) (Q:VK),aK X pins σ H s→t σ H Q→wpAny (model X.prog X.w) X.A (eval e X.env) (EP X pins σ Q) X.xe s
def PT(X:Cx)(e:Expr)(t:TT):Prop:=
 ∀(pins:List (Addr×Obj)) (s:Shared) (σ:St) (H:Hp) (Q:Bool→Hp→Prop),aK X pins σ H s→t σ H Q→wpAny (model X.prog X.w) X.A (isTrue e X.env (eval e X.env)) (TP X pins σ Q) X.xe s
def PW(X:Cx)(e:Expr)(t:TT):Prop:=
 ∀(whole:Sem Value) (pins:List (Addr×Obj)) (s:Shared) (σ:St) (H:Hp) (Q:Bool→Hp→Prop),aK X pins σ H s→t σ H Q→wpAny (model X.prog X.w) X.A (isTrue e X.env whole) (TP X pins σ Q) X.xe s
theorem PW.pt{X:Cx}{e:Expr}{t:TT}(h:PW X e t):PT X e t:=h _
def PA(X:Cx)(es:List Expr)(t:TA):Prop:=
 ∀(pos:Pos) (pins:List (Addr×Obj)) (s:Shared) (σ:St) (H:Hp) (Q:List V→Hp→Prop),aK X pins σ H s→t σ H Q→wpAny (model X.prog X.w) X.A (spliced (backTo pos (starEach es X.env))) (AP X pins σ Q) X.xe s
def PS(X:Cx)(st:Stmt)(t:TS):Prop:=
 ∀(pins:List (Addr×Obj)) (s:Shared) (σ:St) (H:Hp) (D:e9),aK X pins σ H s→t D σ H→wpAny (model X.prog X.w) X.A (exec st X.env) (SP X pins D) X.xe s
def tw(X:Cx)(st:List Stmt)(t:TS):Prop:=
 ∀(pins:List (Addr×Obj)) (s:Shared) (σ:St) (H:Hp) (D:e9),aK X pins σ H s→t D σ H→wpAny (model X.prog X.w) X.A (execs st X.env) (SP X pins D) X.xe s
theorem cZ{α:Type}{t:Sem α}{Q Q':α→Shared→Prop}{M:Model}{A:Around}{E:Value→Shared→Prop}{s:Shared}(h:wpAny M A t Q E s)(hQ:∀a s,Q a s→Q' a s):wpAny M A t Q' E s:=wpAny_mono h hQ fun _ _ x=>x
end L2
namespace L2
open PySem PySem.Spec PyProof.Rows
section
variable {X:Cx}
theorem bin{a b:Expr}{ta tb:TE}(ha:PE X a ta)(hb:PE X b tb){pins:List (Addr×Obj)}{s:Shared}{σ:St}{H:Hp}{R:V→V→Hp→Prop}(I:aK X pins σ H s)(h:ta σ H fun x H1=>tb σ H1 fun y H2=>R x y H2)
  {α:Type} {Q:α→Shared→Prop} {f:Value→Value→Sem α}
  (hf:∀v u s2 x y H2,aK X pins σ H2 s2→aN x v→aN y u→R x y H2→wpAny (model X.prog X.w) X.A (f v u) Q X.xe s2) :
  wpAny (model X.prog X.w) X.A (eval a X.env) (fun v s₁=>wpAny (model X.prog X.w) X.A (eval b X.env) (fun u s₂=>wpAny (model X.prog X.w) X.A (f v u) Q X.xe s₂) X.xe s₁) X.xe s:=by
 refine cZ (ha pins s σ H _ I h) fun v s1 ⟨x,H1,I1,r1,q1⟩=>?_;refine cZ (hb pins s1 σ H1 _ I1 q1) fun u s2 ⟨y,H2,I2,r2,q2⟩=>?_;exact hf v u s2 x y H2 I2 r1 r2 q2
def Bp(i:Nat):TE:=fun σ H Q=>∃v,σ[i]?=some (some v)∧Q v H
def tC(v:V):TE:=fun _ H Q=>Q v H
theorem yX{i:Nat}{x:Str}{pos:Pos}(hN:X.N[i]?=some x)(hv:Dz X.env.scope x)(hd:(x == ("__debug__":Str))=false:=by decide)(hcd:(x == ("__classdict__":Str))=false:=by decide):PE X (.Name x pos) (Bp i):=by
 intro pins s σ H Q I h;obtain⟨v,e,h⟩:=h;obtain⟨m,hn,hl⟩:=I.loc;obtain⟨u,r,l⟩:=hl i x v hN e hv;have fin:EP X pins σ Q u s:=⟨v,H,I,r,h⟩;rcases l with⟨hk,hm⟩ | ⟨hk,c,hc,hcell⟩
 ·exact wpAny_Name (wpAny_loadName_local I.ok.kind hk hn hm fin) hd
 ·rcases hk with hk | hk
  ·exact wpAny_Name (wpAny_loadName_cell I.ok.kind hk hc hcell fin) hd
  ·exact wpAny_Name (wpAny_loadName_free I.ok.kind hk hc hcell fin hcd) hd
theorem aj{i j pos}:PE X (.Constant (.int i) j pos) (tC (.int i)):=fun _ _ _ H _ I h=>wpAny_Constant_int ⟨.int i,H,I.tok _,⟨_,rfl⟩,h⟩
theorem jP{b j pos}:PE X (.Constant (.bool b) j pos) (tC (.bl b)):=fun _ _ _ H _ I h=>Constant_bool ⟨.bl b,H,I,rfl,h⟩
theorem aR{j pos}:PE X (.Constant .none j pos) (tC .non):=fun _ _ _ H _ I h=>Constant_none ⟨.non,H,I,rfl,h⟩
theorem aZ{x j pos}:PE X (.Constant (.str x) j pos) (tC (.str x)):=fun _ _ _ H _ I h=>Calls.Constant_str ⟨.str x,H,I.tok _,⟨_,rfl⟩,h⟩
def Gl(X:Cx)(x:Str):Prop:=X.env.kindOf x=some .globalImplicit
theorem iL{E:Value→Shared→Prop}{pins:List (Addr×Obj)}{s:Shared}{σ:St}{H:Hp}{x:Str}{u:Value}{pos:Pos}{Q:Value→Shared→Prop}(I:aK X pins σ H s)(hg:Gl X x)(hm:X.mg x=some u)(h:Q u s)
  (hd:(x == ("__debug__":Str))=false:=by decide):wpAny (model X.prog X.w) X.A (eval (.Name x pos) X.env) Q E s:=
 Calls.Name_function_global I.ok.kind hg (Calls.loadGlobal_global (by rw [I.ok.glob];exact I.mod.glob.keeps I.bk) hm h) hd
theorem i8{E:Value→Shared→Prop}{pins:List (Addr×Obj)}{s:Shared}{σ:St}{H:Hp}{x:Str}{u:Value}{pos:Pos}{Q:Value→Shared→Prop}(I:aK X pins σ H s)(hg:Gl X x)(hm:X.mg x=none)(hv:bootBuiltins x=some u)(h:Q u s)
  (hn:x≠"__name__":=by decide) (hd:(x == ("__debug__":Str))=false:=by decide):wpAny (model X.prog X.w) X.A (eval (.Name x pos) X.env) Q E s:=by
 obtain⟨mb,h1,h2⟩:=I.mod.blt;exact Calls.Name_function_global I.ok.kind hg (Calls.loadGlobal_builtin (by rw [I.ok.glob];exact I.mod.glob.keeps I.bk) hm (by rw [I.ok.blt];exact h1.keeps I.bk) ((h2 x hn).trans hv) h) hd
theorem AS{x:Str}{v:V}{u:Value}{pos:Pos}(hg:Gl X x)(hm:X.mg x=some u)(r:aN v u)(hd:(x == ("__debug__":Str))=false:=by decide):PE X (.Name x pos) (tC v):=
 fun _ _ _ H _ I h=>iL I hg hm ⟨v,H,I,r,h⟩ hd
theorem vw{x:Str}{v:V}{u:Value}{pos:Pos}(hg:Gl X x)(hm:X.mg x=none)(hv:bootBuiltins x=some u)(r:aN v u)(hn:x≠"__name__":=by decide)(hd:(x == ("__debug__":Str))=false:=by decide):PE X (.Name x pos) (tC v):=
 fun _ _ _ H _ I h=>i8 I hg hm hv ⟨v,H,I,r,h⟩ hn hd
variable {a b:Expr} {ta tb:TE} {pos:Pos}
variable {tA tB':TT} {rest:List Expr}
def Dg(t u:TT):TT:=fun σ H Q=>t σ H fun c H1=>if c=true then u σ H1 Q else Q false H1
def E6(t u:TT):TT:=fun σ H Q=>t σ H fun c H1=>if c=true then Q true H1 else u σ H1 Q
def Dj(t:TT):TT:=fun σ H Q=>t σ H fun c H1=>Q (!c) H1
theorem gI(ha:PT X a tA):PW X (.BoolOp .And [a] pos) tA:=by
 intro wh pins s σ H Q I h;refine isTrue_and (cZ (ha pins s σ H Q I h) fun c s1 e=>?_)
 cases c with
 | true=>exact isTrue_and_nil e
 | false=>exact e
theorem cM(ha:PT X a tA):PW X (.BoolOp .Or [a] pos) tA:=by
 intro wh pins s σ H Q I h;refine isTrue_or (cZ (ha pins s σ H Q I h) fun c s1 e=>?_)
 cases c with
 | false=>exact isTrue_or_nil e
 | true=>exact e
theorem ik(ha:PT X a tA)(hb:PW X (.BoolOp .And (b::rest) pos) tB'):PW X (.BoolOp .And (a::b::rest) pos) (Dg tA tB'):=by
 intro wh pins s σ H Q I h;refine isTrue_and (cZ (ha pins s σ H _ I h) fun c s1 ⟨H1,I1,q1⟩=>?_)
 cases c with
 | true=>exact hb wh pins s1 σ H1 Q I1 q1
 | false=>exact⟨H1,I1,q1⟩
theorem de(ha:PT X a tA)(hb:PW X (.BoolOp .Or (b::rest) pos) tB'):PW X (.BoolOp .Or (a::b::rest) pos) (E6 tA tB'):=by
 intro wh pins s σ H Q I h;refine isTrue_or (cZ (ha pins s σ H _ I h) fun c s1 ⟨H1,I1,q1⟩=>?_)
 cases c with
 | true=>exact⟨H1,I1,q1⟩
 | false=>exact hb wh pins s1 σ H1 Q I1 q1
theorem dv(ha:PT X a tA):PT X (.UnaryOp .Not a pos) (Dj tA):=by
 intro pins s σ H Q I h;exact isTrue_not (ha pins s σ H (fun c H1=>Q (!c) H1) I h)
def tm(ta tb:TE):TE:=fun σ H Q=>ta σ H fun x H1=>∃c,x=.bl c∧if c=true then tb σ H1 Q else Q (.bl false) H1
def zG(ta tb:TE):TE:=fun σ H Q=>ta σ H fun x H1=>∃c,x=.bl c∧if c=true then Q (.bl true) H1 else tb σ H1 Q
def En(ta:TE):TE:=fun σ H Q=>ta σ H fun x H1=>∃c,x=.bl c∧Q (.bl (!c)) H1
theorem yW{op}{t:TE}(h:PE X a t):PE X (.BoolOp op [a] pos) t:=fun pins s σ H Q I hw=>BoolOp_one (h pins s σ H Q I hw)
theorem yR(ha:PE X a ta)(hb:PE X (.BoolOp .And (b::rest) pos) tb):PE X (.BoolOp .And (a::b::rest) pos) (tm ta tb):=by
 intro pins s σ H Q I h;refine BoolOp_and (cZ (ha pins s σ H _ I h) fun v s1 ⟨x,H1,I1,r1,q1⟩=>?_);obtain⟨c,rfl,q1⟩:=q1;cases r1;refine wpAny_truthy_bool ?_
 cases c with
 | true=>exact hb pins s1 σ H1 Q I1 q1
 | false=>exact⟨.bl false,H1,I1,rfl,q1⟩
theorem Ec(ha:PE X a ta)(hb:PE X (.BoolOp .Or (b::rest) pos) tb):PE X (.BoolOp .Or (a::b::rest) pos) (zG ta tb):=by
 intro pins s σ H Q I h;refine BoolOp_or (cZ (ha pins s σ H _ I h) fun v s1 ⟨x,H1,I1,r1,q1⟩=>?_);obtain⟨c,rfl,q1⟩:=q1;cases r1;refine wpAny_truthy_bool ?_
 cases c with
 | false=>exact hb pins s1 σ H1 Q I1 q1
 | true=>exact⟨.bl true,H1,I1,rfl,q1⟩
def E5(t:TT)(ta tb:TE):TE:=fun σ H Q=>t σ H fun c H1=>if c=true then ta σ H1 Q else tb σ H1 Q
theorem dm{c:Expr}(hc:PT X c tA)(ha:PE X a ta)(hb:PE X b tb):PE X (.IfExp c a b pos) (E5 tA ta tb):=by
 intro pins s σ H Q I h;refine wpAny_IfExp (cZ (hc pins s σ H _ I h) fun d s1 ⟨H1,I1,q1⟩=>?_)
 cases d with
 | true=>exact ha pins s1 σ H1 Q I1 q1
 | false=>exact hb pins s1 σ H1 Q I1 q1
end
end L2
namespace L2
open PySem PySem.Spec PyProof.Rows
def aT(K:Frag)(H:Hp)(a:Addr)(xs:List V):Prop:=
 Rd H a (.lst xs)∨
  ∃(o:Obj) (its:Array Value) (n:Nat),K.lookup a=some o∧o.cls=.type "list"∧o.dict=none∧o.data=.seq its n∧its.size≤sizeLine∧aV xs its.toList
def cD(K:Frag)(H:Hp)(a:Addr)(xs:List V):Prop:=
 Rd H a (.tup xs)∨
  ∃(o:Obj) (its:Array Value) (n:Nat),K.lookup a=some o∧o.cls=.type "tuple"∧o.data=.seq its n∧its.size≤sizeLine∧aV xs its.toList
def EK:Value→Option V
 | .none=>some .non
 | .bool b=>some (.bl b)
 | .int i _=>some (.int i)
 | .str x _=>some (.str x)
 | .bytes b _=>some (.byt b)
 | .float b _=>some (.flt b)
 | .ref a=>some (.ref a)
 | .type n=>some (.ty n)
 | _=>none
theorem aN.abs{x:V}{u:Value}(r:aN x u):EK u=some x:=by
 cases x with
 | non=>cases r;rfl
 | bl _=>cases r;rfl
 | int _=>obtain⟨t,rfl⟩:=r;rfl
 | str _=>obtain⟨t,rfl⟩:=r;rfl
 | byt _=>obtain⟨t,rfl⟩:=r;rfl
 | flt _=>obtain⟨t,rfl⟩:=r;rfl
 | ref _=>cases r;rfl
 | ty _=>cases r;rfl
theorem aN.inj{x y:V}{u:Value}(r:aN x u)(q:aN y u):x=y:=Option.some.inj (r.abs.symm.trans q.abs)
theorem aV.inj:∀{xs ys:List V} {us:List Value},aV xs us→aV ys us→xs=ys
 | _,_,_,.nil,.nil=>rfl
 | _,_,_,.cons r t,.cons r' t'=>by rw [r.inj r',aV.inj t t']
section
variable {X:Cx} {pins:List (Addr×Obj)} {σ:St} {H:Hp} {s:Shared} {a:Addr} {xs ys:List V}
theorem aT.of{K:Frag}(h:H a=some (.lst xs)):aT K H a xs:=.inl (.inl h)
theorem cD.of{K:Frag}(h:H a=some (.tup xs)):cD K H a xs:=.inl (.inl h)
theorem aK.list(I:aK X pins σ H s)(h:aT X.K H a xs):∃its:List Value,aV xs its∧PlainL s.heap a its.toArray∧xs.length≤sizeLine:=by
 rcases h with h | ⟨o,its,n,hk,hc,hd,hs,hz,r⟩
 ·obtain⟨z,its,n,r,e⟩:=h.ok I.hok
  exact⟨its,r,⟨_,n,e,rfl,rfl,rfl⟩,z⟩
 ·refine⟨its.toList,r,⟨o,n,I.kIn a o hk,hc,hd,by simpa using hs⟩,?_⟩
  have e:=r.length;simp only [aj1]at e;omega
theorem aK.tuple(I:aK X pins σ H s)(h:cD X.K H a xs):∃its:List Value,aV xs its∧IsTup s.heap a its.toArray∧xs.length≤sizeLine:=by
 rcases h with h | ⟨o,its,n,hk,hc,hs,hz,r⟩
 ·obtain⟨z,its,r,p⟩:=h.ok I.hok
  exact⟨its,r,p,z⟩
 ·refine⟨its.toList,r,⟨o,I.kIn a o hk,hc,n,by simpa using hs⟩,?_⟩
  have e:=r.length;simp only [aj1]at e;omega
theorem aK.list_inj(I:aK X pins σ H s)(h:aT X.K H a xs)(h':aT X.K H a ys):xs=ys:=by
 obtain⟨its,r,⟨o,n,e,_,_,d⟩,_⟩:=I.list h;obtain⟨its',r',⟨o',n',e',_,_,d'⟩,_⟩:=I.list h';rw [e]at e';cases e';rw [d]at d'
 injection d' with d1 _
 have:its=its':=by simpa using congrArg Array.toList d1
 subst this;exact r.inj r'
theorem aK.tuple_inj(I:aK X pins σ H s)(h:cD X.K H a xs)(h':cD X.K H a ys):xs=ys:=by
 obtain⟨its,r,⟨o,e,_,n,d⟩,_⟩:=I.tuple h;obtain⟨its',r',⟨o',e',_,n',d'⟩,_⟩:=I.tuple h';rw [e]at e';cases e';rw [d]at d'
 injection d' with d1 _
 have:its=its':=by simpa using congrArg Array.toList d1
 subst this;exact r.inj r'
end
abbrev Cx.wish(X:Cx)(E:Value→Shared→Prop):Cx:={ X with xe:=E }
abbrev Cx.nox(X:Cx):Cx:=X.wish fun _ _=>False
theorem Cx.Ok.wish{X:Cx}(ok:X.Ok)(E:Value→Shared→Prop):(X.wish E).Ok:=
 ⟨ok.mod,ok.kind,ok.glob,ok.blt,ok.above,ok.inj,ok.has,ok.cab,ok.hd,ok.frames,ok.stk,ok.exf,ok.bs,ok.bsz,ok.noex,ok.exfs,ok.funs,ok.frf⟩
theorem Cx.Ok.unwish{X:Cx}{E:Value→Shared→Prop}(ok:(X.wish E).Ok):X.Ok:=
 ⟨ok.mod,ok.kind,ok.glob,ok.blt,ok.above,ok.inj,ok.has,ok.cab,ok.hd,ok.frames,ok.stk,ok.exf,ok.bs,ok.bsz,ok.noex,ok.exfs,ok.funs,ok.frf⟩
section
variable {X:Cx} {pins:List (Addr×Obj)} {σ:St} {H:Hp} {s:Shared} {E:Value→Shared→Prop}
theorem aK.wish(I:aK X pins σ H s)(E:Value→Shared→Prop):aK (X.wish E) pins σ H s:=⟨I.ok.wish E,I.os,I.bare,I.base,I.loc,I.cell,I.free,I.freeC,I.pin,I.hok,I.len⟩
theorem aK.unwish(I:aK (X.wish E) pins σ H s):aK X pins σ H s:=⟨I.ok.unwish,I.os,I.bare,I.base,I.loc,I.cell,I.free,I.freeC,I.pin,I.hok,I.len⟩
theorem SP.unwish{D:e9}{f:Flow}{s':Shared}(h:SP (X.wish E) pins D f s'):SP X pins D f s':=by
 cases f with
 | next=>obtain⟨σ',H',I,q⟩:=h;exact⟨σ',H',I.unwish,q⟩
 | brk=>obtain⟨σ',H',I,q⟩:=h;exact⟨σ',H',I.unwish,q⟩
 | cont=>obtain⟨σ',H',I,q⟩:=h;exact⟨σ',H',I.unwish,q⟩
 | ret u=>obtain⟨v,σ',H',I,r,q⟩:=h;exact⟨v,σ',H',I.unwish,r,q⟩
theorem PE.nox{e:Expr}{t:TE}(h:PE X.nox e t):PE X e t:=fun pins s σ H Q I hw=>
 wpAny_mono (h pins s σ H Q (I.wish _) hw) (fun _ _ ⟨v,H',I',r,q⟩=>⟨v,H',I'.unwish,r,q⟩) fun _ _ z=>False.elim z
theorem PT.nox{e:Expr}{t:TT}(h:PT X.nox e t):PT X e t:=fun pins s σ H Q I hw=>
 wpAny_mono (h pins s σ H Q (I.wish _) hw) (fun _ _ ⟨H',I',q⟩=>⟨H',I'.unwish,q⟩) fun _ _ z=>False.elim z
theorem tw.nox{st:List Stmt}{t:TS}(h:tw X.nox st t):tw X st t:=fun pins s σ H D I hw=>
 wpAny_mono (h pins s σ H D (I.wish _) hw) (fun _ _ q=>q.unwish) fun _ _ z=>False.elim z
end
section
variable {X:Cx} {st:Stmt} {rest:List Stmt} {t u:TS} {e:Expr} {te:TE} {pos:Pos}
def vN:TS:=fun D σ H=>D.nx σ H
def gB(t u:TS):TS:=fun D σ H=>t { D with nx:=u D } σ H
theorem aJ:tw X [] vN:=fun _ _ σ H _ I h=>wpAny_execs_nil ⟨σ,H,I,h⟩
theorem ai(h1:PS X st t)(h2:tw X rest u):tw X (st::rest) (gB t u):=by
 intro pins s σ H D I h;refine wpAny_execs_cons (cZ (h1 pins s σ H { D with nx:=u D } I h) fun f s1 q=>?_)
 cases f with
 | next=>
  obtain⟨σ',H',I',q⟩:=q;exact h2 pins s1 σ' H' D I' q
 | ret v=>exact q
 | brk=>exact q
 | cont=>exact q
theorem ao(h1:PS X st t):tw X [st] t:=by
 intro pins s σ H D I h;refine wpAny_execs_cons (cZ (h1 pins s σ H D I h) fun f s1 q=>?_)
 cases f with
 | next=>exact wpAny_execs_nil q
 | ret v=>exact q
 | brk=>exact q
 | cont=>exact q
theorem aK.quiet{pins:List (Addr×Obj)}{σ:St}{H:Hp}{s:Shared}(I:aK X pins σ H s):interactive X.env=false:=by simp [interactive,I.ok.kind]
def zB(te:TE):TS:=fun D σ H=>te σ H fun _ H1=>D.nx σ H1
theorem bY(he:PE X e te)(hs:swapsWith e none pos.line X.env=pure false:=by rfl):PS X (.Expr e pos) (zB te):=by
 intro pins s σ H D I h;exact wpAny_Expr_any (cZ (he pins s σ H _ I h) fun v s1 ⟨x,H1,I1,r1,q1⟩=>⟨σ,H1,I1,q1⟩) I.quiet hs
def Dm(te:TE):TS:=fun D σ H=>te σ H D.rt
theorem ax(he:PE X e te):PS X (.Return (some e) pos) (Dm te):=by
 intro pins s σ H D I h;exact wpAny_Return_some (cZ (he pins s σ H _ I h) fun v s1 ⟨x,H1,I1,r1,q1⟩=>⟨x,σ,H1,I1,r1,q1⟩)
def BR:TS:=fun D _ H=>D.rt .non H
def zC(c:TT)(t u:TS):TS:=fun D σ H=>c σ H fun b H1=>if b=true then t D σ H1 else u D σ H1
theorem br{c:Expr}{a b:List Stmt}{tc:TT}(hc:PT X c tc)(ha:tw X a t)(hb:tw X b u):PS X (.If c a b pos) (zC tc t u):=by
 intro pins s σ H D I h;refine wpAny_If (cZ (hc pins s σ H _ I h) fun d s1 ⟨H1,I1,q1⟩=>?_)
 cases d with
 | true=>exact ha pins s1 σ H1 D I1 q1
 | false=>exact hb pins s1 σ H1 D I1 q1
def Di:TS:=fun _ _ _=>False
theorem nr:PS X st Di:=fun _ _ _ _ _ _ h=>h.elim
end
abbrev TG:=V→St→Hp→(St→Hp→Prop)→Prop
abbrev zY:=List V→St→Hp→(St→Hp→Prop)→Prop
def PG(X:Cx)(target:Expr)(t:TG):Prop:=
 ∀(pins:List (Addr×Obj)) (s:Shared) (σ:St) (H:Hp) (v:V) (u:Value) (Q:St→Hp→Prop),aK X pins σ H s→aN v u→t v σ H Q→
  wpAny (model X.prog X.w) X.A (assign target X.env u) (fun _ s'=>∃σ' H',aK X pins σ' H' s'∧Q σ' H') X.xe s
def Dx(X:Cx)(ts:List Expr)(t:zY):Prop:=
 ∀(pins:List (Addr×Obj)) (s:Shared) (σ:St) (H:Hp) (vs:List V) (us:List Value) (Q:St→Hp→Prop),aK X pins σ H s→aV vs us→t vs σ H Q→
  wpAny (model X.prog X.w) X.A (assignInOrder ((assignEach ts X.env).map (·.2)) us) (fun _ s'=>∃σ' H',aK X pins σ' H' s'∧Q σ' H') X.xe s
abbrev EI:=V→V→V→Hp→(Hp→Prop)→Prop
abbrev Ds:=V→V→Hp→VK→Prop
def PIp(X:Cx)(op:Operator)(t:Ds):Prop:=
 ∀(pins:List (Addr×Obj)) (s:Shared) (σ:St) (H:Hp) (x y:V) (v u:Value) (Q:VK),aK X pins σ H s→aN x v→aN y u→t x y H Q→
  wpAny (model X.prog X.w) X.A (inplaceOp op v u) (EP X pins σ Q) X.xe s
section
variable {X:Cx} {pos:Pos}
def rQ(i:Nat):TG:=fun v σ H Q=>Q (σ.set i (some v)) H
theorem aF{i:Nat}{x:Str}(hN:X.N.Nodup)(hi:X.N[i]?=some x)(hx:BZ X.env.scope x)(hf:X.fn x=true∨X.env.scope.names.lookup x=some .local:=by first | exact .inl rfl | exact .inr rfl | assumption):PG X (.Name x pos) (rQ i):=by
 intro pins s σ H v u Q I r h;exact wpAny_assign_Name (eZ I hN hi hx r (fun s' I'=>⟨_,H,I',h⟩) hf)
def DG:zY:=fun vs σ H Q=>vs=[]∧Q σ H
def BA(t:TG)(u:zY):zY:=fun vs σ H Q=>∃v r,vs=v::r∧t v σ H fun σ' H'=>u r σ' H' Q
theorem cj:Dx X [] DG:=by
 intro pins s σ H vs us Q I r h;obtain⟨e,h⟩:=h;subst e;cases r;exact assignInOrder_nil ⟨σ,H,I,h⟩
theorem aL{e:Expr}{es:List Expr}{t:TG}{u:zY}(h1:PG X e t)(h2:Dx X es u)
  (hs:(assignEach (e::es) X.env).map (·.2)=assign e X.env::(assignEach es X.env).map (·.2):=by rfl):Dx X (e::es) (BA t u):=by
 intro pins s σ H vs us Q I r h;obtain⟨v,vr,e1,h⟩:=h;subst e1
 cases r with
 | cons r rr=>
  rw [hs];refine assignInOrder_cons (cZ (h1 pins s σ H _ _ _ I r h) fun _ s1 ⟨σ1,H1,I1,q1⟩=>?_);exact h2 pins s1 σ1 H1 _ _ Q I1 rr q1
def Cg(K:Frag)(n:Nat)(t:zY):TG:=fun v σ H Q=>∃a xs,v=.ref a∧cD K H a xs∧xs.length=n∧t xs σ H Q
theorem CN{es:List Expr}{k:Nat}{t:zY}{n:Nat}(hc:X.calm=true)(h:Dx X es t)
  (hn:(assignEach es X.env).length=n:=by rfl) (hst:(assignEach es X.env).findIdx? (·.1)=none:=by rfl):PG X (.Tuple es k pos) (Cg X.K n t):=by
 intro pins s σ H v u Q I r hw;obtain⟨a,xs,e1,hq,hl,hw⟩:=hw;subst e1;cases r;obtain⟨its,rv,ht,hz⟩:=I.tuple hq;refine assign_Tuple_tuple (I.ok.hd hc) ht (by simp [hn,←hl,rv.length]) hst fun h' hx=>?_;have I1:aK X pins σ H { s with heap:=h' }:=I.kept (t':=s.toks) fun b o e=>hx b o (ab5 (ab2 e)) e;exact h pins _ σ H xs _ Q I1 (by simpa using rv) hw
def ES(to ti:TE)(t:EI):TG:=fun v σ H Q=>to σ H fun o H1=>ti σ H1 fun i H2=>t o i v H2 fun H3=>Q σ H3
def zx(te:TE)(g:TG):TS:=fun D σ H=>te σ H fun x H1=>g x σ H1 D.nx
theorem nq{tg e:Expr}{te:TE}{g:TG}(he:PE X e te)(hg:PG X tg g)(hs:swapsWithSole [tg] e pos.line X.env=pure false:=by rfl)(hw:swappedStores [tg] e X.env=pure none:=by rfl)
  (h1:(assignEach [tg] X.env).map (·.2)=[assign tg X.env]:=by rfl):PS X (.Assign [tg] e pos) (zx te g):=by
 intro pins s σ H D I h;refine wpAny_Assign_stores (cZ (he pins s σ H _ I h) fun v s1 ⟨x,H1,I1,r1,q1⟩=>?_) hs hw;rw [h1];exact cZ (hg pins s1 σ H1 x v _ I1 r1 q1) fun _ s2 q=>q
theorem aD{i:Nat}{x:Str}{e:Expr}{te:TE}{pos':Pos}(hN:X.N.Nodup)(hi:X.N[i]?=some x)(hx:BZ X.env.scope x)(he:PE X e te)(hs:swapsWith e (some (.Name x pos')) pos.line X.env=pure false:=by rfl)(hf:X.fn x=true∨X.env.scope.names.lookup x=some .local:=by first | exact .inl rfl | exact .inr rfl | assumption):
  PS X (.Assign [.Name x pos'] e pos) (zx te (rQ i)):=by
 intro pins s σ H D I h;refine wpAny_Assign_Name (cZ (he pins s σ H _ I h) fun v s1 ⟨y,H1,I1,r1,q1⟩=>?_) hs;exact eZ I1 hN hi hx r1 (fun s2 I2=>⟨_,H1,I2,q1⟩) hf
def zy(i:Nat)(te:TE)(ti:Ds):TS:=fun D σ H=>∃x,σ[i]?=some (some x)∧te σ H fun y H1=>ti x y H1 fun z H2=>D.nx (σ.set i (some z)) H2
theorem y3{i:Nat}{x:Str}{e:Expr}{te:TE}{op:Operator}{ti:Ds}{pos':Pos}(hN:X.N.Nodup)(hi:X.N[i]?=some x)(hx:BZ X.env.scope x)(he:PE X e te)(ho:PIp X op ti)(hf:X.fn x=true∨X.env.scope.names.lookup x=some .local:=by first | exact .inl rfl | exact .inr rfl | assumption):
  PS X (.AugAssign (.Name x pos') op e pos) (zy i te ti):=by
 intro pins s σ H D I h;obtain⟨v,e1,h⟩:=h;obtain⟨m,hn,hl⟩:=I.loc
 have vis:Dz X.env.scope x:=by rcases hx with k | k;exact .inl k;exact .inr (.inl k)
 obtain⟨u,r,l⟩:=hl i x v hi e1 vis;refine wpAny_AugAssign_Name ?_
 have go:wpAny (model X.prog X.w) X.A (eval e X.env) (fun w s₂=>wpAny (model X.prog X.w) X.A (inplaceOp op u w) (fun r s₃=>wpAny (model X.prog X.w) X.A (storeName X.env x r) (fun _=>SP X pins D .next) X.xe s₃) X.xe s₂) X.xe s:=by
  refine cZ (he pins s σ H _ I h) fun w s1 ⟨y,H1,I1,r1,q1⟩=>?_;refine cZ (ho pins s1 σ H1 v y u w _ I1 r r1 q1) fun z s2 ⟨zv,H2,I2,r2,q2⟩=>?_;exact eZ I2 hN hi hx r2 (fun s3 I3=>⟨_,H2,I3,q2⟩) hf
 rcases l with⟨hk,hm⟩ | ⟨hk,c,hc,hcell⟩
 ·exact wpAny_loadName_local I.ok.kind hk hn hm go
 ·rcases hk with hk | hk
  ·exact wpAny_loadName_cell I.ok.kind hk hc hcell go
  ·rcases hx with k | k
   ·have:X.env.scope.names.lookup x=some .free:=hk
    rw [k]at this;cases this
   ·have:X.env.scope.names.lookup x=some .free:=hk
    rw [k]at this;cases this
end
section
variable {X:Cx} {pos:Pos}
def Dn(c:TT)(tb:TS):TS:=fun D σ H=>∃W:Nat→St→Hp→Prop,(∃m,W m σ H)∧∀m σ H,W m σ H→
 c σ H fun b H1=>if b=true then ∃N:St→Hp→Prop,(∀σ' H',N σ' H'→∃m',m' < m∧W m' σ' H')∧tb { D with nx:=N,ct:=N,bk:=D.nx } σ H1 else D.nx σ H1
theorem y6{c:Expr}{body:List Stmt}{tc:TT}{tb:TS}(hp:PassesOwn (model X.prog X.w) X.A X.env X.xe)(hc:PT X c tc)(hb:tw X body tb):PS X (.While c body [] pos) (Dn tc tb):=by
 intro pins s σ H D I h;obtain⟨W,⟨m0,w0⟩,turn⟩:=h;refine wpAny_While (codeAny_whileLoop (fun n s'=>∃σ' H',aK X pins σ' H' s'∧W n σ' H') ?_ m0 ⟨σ,H,I,w0⟩);rintro n s1 ⟨σ1,H1,I1,w1⟩;refine wpAny_passesOwn hp (cZ (hc pins s1 σ1 H1 _ I1 (turn n σ1 H1 w1)) fun b s2 ⟨H2,I2,q2⟩=>?_)
 cases b with
 | true=>
  obtain⟨N,hN,q2⟩:=q2;rw [if_pos rfl];refine wpAny_passesOwn hp (cZ (hb pins s2 σ1 H2 _ I2 q2) fun f s3 q3=>?_)
  cases f with
  | next=>
   obtain⟨σ3,H3,I3,n3⟩:=q3;obtain⟨m',hm,w3⟩:=hN σ3 H3 n3;exact⟨m',hm,σ3,H3,I3,w3⟩
  | cont=>
   obtain⟨σ3,H3,I3,n3⟩:=q3;obtain⟨m',hm,w3⟩:=hN σ3 H3 n3;exact⟨m',hm,σ3,H3,I3,w3⟩
  | brk=>exact q3
  | ret v=>exact q3
 | false=>
  rw [if_neg aa4];exact wpAny_execs_nil ⟨σ1,H2,I2,q2⟩
end
structure It where
 go:Nat→Hp→Prop
 yld:Nat→Hp→V→Hp→Prop
 stop:Nat→Hp→Prop
def kg(X:Cx)(pins:List (Addr×Obj))(H:Hp)(b:Addr):Prop:=
 H b=none∧b≠X.env.locals∧b∉X.fs∧(b∈X.ex∨X.s₀.heap.objs.size≤b)∧(∀x c,X.env.cells.lookup x=some c→c≠b)∧∀p∈X.pn++pins,p.1≠b
theorem aK.fpOk{X:Cx}{pins:List (Addr×Obj)}{σ:St}{H H':Hp}{s:Shared}{b:Addr}(I:aK X pins σ H s)(hb:s.heap.objs.size≤b)(hn:H' b=none):kg X pins H' b:=by
 refine⟨hn,af7 (aa5 I.lt hb),I.nofs hb,.inr (ab8 I.sz hb),fun x c e z=>?_,fun p hp z=>?_⟩
 ·obtain⟨v,q⟩:=I.cell x c e
  exact absurd (aa5 q.lt (by rw [z];exact hb)) (af5 _)
 ·exact absurd (aa5 (ab2 (I.pin p hp).1) (by rw [z];exact hb)) (af5 _)
structure rj(P:Program)(w:World)(K:Frag)(tg:Expr)(J:It)(fp:List Addr)(it:Addr)(tn:Nat→Heap→Prop):Prop where
 mem:it∈fp
 obj:∀i h,tn i h→∀b∈fp,∃o,h.get? b=some o∧∀v,o.data≠.cell v
 keep:∀i h h',tn i h→(∀b∈fp,∀o,h.get? b=some o→h'.get? b=some o)→tn i h'
 item:∀(X:Cx),X.prog=P→X.w=w→X.K=K→X.calm=true→∀(i:Nat) (pins:List (Addr×Obj)) (s:Shared) (σ:St) (H:Hp) (E:Value→Shared→Prop),aK X pins σ H s→(∀b∈fp,kg X pins H b)→tn i s.heap→J.go i H→
  wpAny (model P w) X.A (pyNext (.ref it)) (fun r s1=>∃u,r=some u∧
   wpAny (model P w) X.A (letOwnedTupleGo tg (.ref it) u) (fun _ s2=>∃x H',aK X pins σ H' s2∧aN x u∧J.yld i H x H'∧tn (i+1) s2.heap∧∀b∈fp,H' b=none) E s1) E s
 done:∀(X:Cx),X.prog=P→X.w=w→X.K=K→X.calm=true→∀(i:Nat) (pins:List (Addr×Obj)) (s:Shared) (σ:St) (H:Hp) (E:Value→Shared→Prop),aK X pins σ H s→(∀b∈fp,kg X pins H b)→tn i s.heap→J.stop i H→
  wpAny (model P w) X.A (pyNext (.ref it)) (fun r s1=>r=none∧aK X pins σ H s1) E s
 self:∀(A:Around) (i:Nat) (s:Shared) (Q:Value→Shared→Prop) (E:Value→Shared→Prop),tn i s.heap→Q (.ref it) s→wpAny (model P w) A (pyIter (.ref it)) Q E s
abbrev TI:=St→Hp→(It→Hp→Prop)→Prop
def Ew(X:Cx)(pins:List (Addr×Obj))(σ:St)(tg:Expr)(R:It→Hp→Prop)(itv:Value)(s2:Shared):Prop:=
 ∃(it:Addr) (fp:List Addr) (tn:Nat→Heap→Prop) (J:It) (H':Hp),itv=.ref it∧aK X pins σ H' s2∧rj X.prog X.w X.K tg J fp it tn∧tn 0 s2.heap∧(∀b∈fp,kg X pins H' b)∧R J H'
def PI(X:Cx)(tg iter:Expr)(wi:TI):Prop:=
 ∀(pins:List (Addr×Obj)) (s:Shared) (σ:St) (H:Hp) (R:It→Hp→Prop),aK X pins σ H s→wi σ H R→
  wpAny (model X.prog X.w) X.A (eval iter X.env) (fun v s1=>wpAny (model X.prog X.w) X.A (pyIter v) (Ew X pins σ tg R) X.xe s1) X.xe s
theorem vn{M:Model}{A:Around}{E:Value→Shared→Prop}{s:Shared}{tg:Expr}{it:Addr}{u:Value}{o:Obj}{n:String}{vs:Array Value}{Q:Unit→Shared→Prop}(ho:s.heap.get? it=some o)(hc:o.cls=.type n)(hd:o.data=.fields vs)
  (hn:["enumerate","zip","dict_itemiterator","dict_reverseitemiterator","odict_iterator","itertools.zip_longest","itertools.pairwise"].contains n=false) (hQ:Q () s):wpAny M A (letOwnedTupleGo tg (.ref it) u) Q E s:=by
 unfold letOwnedTupleGo
 cases tg<;>first
  | exact wpAny_pure hQ
  | (cases u<;>first | exact wpAny_pure hQ | (refine wpAny_bind (wpAny_load ho ?_);rw [hc,hd];show wpAny M A (if (["enumerate","zip","dict_itemiterator","dict_reverseitemiterator","odict_iterator","itertools.zip_longest","itertools.pairwise"].contains n && vs[0]? == some (rawInt _))=true then _ else _) Q E s;rw [if_neg (by intro h;rw [hn,Bool.false_and]at h;cases h)];exact wpAny_pure hQ))
def xD(K:Frag)(a:Addr):It:=
 ⟨fun i H=>∃xs x,aT K H a xs∧xs[i]?=some x,fun i H x H'=>H'=H∧∀xs,aT K H a xs→xs[i]?=some x,fun i H=>∃xs,aT K H a xs∧xs.length≤i⟩
def EE(K:Frag)(a:Addr):It:=
 ⟨fun i H=>∃xs x,cD K H a xs∧xs[i]?=some x,fun i H x H'=>H'=H∧∀xs,cD K H a xs→xs[i]?=some x,fun i H=>∃xs,cD K H a xs∧xs.length≤i⟩
def xE(lo:Int)(n:Nat):It:=⟨fun i _=>i < n,fun i H x H'=>H'=H∧x=.int (lo+i),fun i _=>n≤i⟩
theorem xu{P:Program}{w:World}{K:Frag}{tg:Expr}(a it:Addr):rj P w K tg (xD K a) [it] it (fun i h=>h.IsListIter it a i) where
 mem:=by simp
 obj:=fun i h st b hb=>by
  have e:b=it:=by simpa using hb
  subst e;obtain⟨o,e,c,d⟩:=st;exact⟨o,e,fun v z=>by rw [d]at z;cases z⟩
 keep:=fun i h h' st k=>st.at fun o e=>k it (by simp) o e
 item:=by
  intro X hP hw hK hc i pins s σ H E I hf st hg;subst hP hw hK;obtain⟨xs,x,hq,hx⟩:=hg;obtain⟨its,rv,p,hz⟩:=I.list hq;obtain⟨u,hu,ru⟩:=rv.get hx;obtain⟨f0,f1,f2,f3,f4,f5⟩:=hf it (by simp);refine wpAny_pyNext_list_item st p.isList (x:=u) (by simpa using hu) fun h' st' sb=>?_;have I1:aK X pins σ H { s with heap:=h' }:=I.turned (t':=s.toks) (fun b o hb e=>(sb.2 b hb).trans e) f0 f1 f3 f4 f5;obtain⟨o,e,c,d⟩:=id st';exact⟨u,rfl,vn (s:={ s with heap:=h' }) e c d (by decide) ⟨x,H,I1,ru,⟨rfl,fun ys hy=>by rw [I.list_inj hy hq];exact hx⟩,st',fun b hb=>(hf b hb).1⟩⟩
 done:=by
  intro X hP hw hK hc i pins s σ H E I hf st hg;subst hP hw hK;obtain⟨xs,hq,hx⟩:=hg;obtain⟨its,rv,p,hz⟩:=I.list hq;obtain⟨f0,f1,f2,f3,f4,f5⟩:=hf it (by simp);have hl:=rv.length;exact wpAny_pyNext_list_end (I.ok.hd hc) st p.isList (by simp;omega) fun h' eb=>⟨rfl,I.turned (t':=s.toks) (fun b o hb e=>eb b o hb e) f0 f1 f3 f4 f5⟩
 self:=fun _ _ _ _ _ st h=>wpAny_pyIter_listiter st h
theorem u4{P:Program}{w:World}{K:Frag}{tg:Expr}(a it:Addr):rj P w K tg (EE K a) [it] it (fun i h=>h.IsTupleIter it a i) where
 mem:=by simp
 obj:=fun i h st b hb=>by
  have e:b=it:=by simpa using hb
  subst e;obtain⟨o,e,c,d⟩:=st;exact⟨o,e,fun v z=>by rw [d]at z;cases z⟩
 keep:=fun i h h' st k=>st.at fun o e=>k it (by simp) o e
 item:=by
  intro X hP hw hK hc i pins s σ H E I hf st hg;subst hP hw hK;obtain⟨xs,x,hq,hx⟩:=hg;obtain⟨its,rv,p,hz⟩:=I.tuple hq;obtain⟨u,hu,ru⟩:=rv.get hx;obtain⟨f0,f1,f2,f3,f4,f5⟩:=hf it (by simp);refine wpAny_pyNext_tuple_item st (show s.heap.IsTuple a its.toArray from p) (x:=u) (by simpa using hu) fun h' st' sb=>?_;have I1:aK X pins σ H { s with heap:=h' }:=I.turned (t':=s.toks) (fun b o hb e=>(sb.2 b hb).trans e) f0 f1 f3 f4 f5;obtain⟨o,e,c,d⟩:=id st';exact⟨u,rfl,vn (s:={ s with heap:=h' }) e c d (by decide) ⟨x,H,I1,ru,⟨rfl,fun ys hy=>by rw [I.tuple_inj hy hq];exact hx⟩,st',fun b hb=>(hf b hb).1⟩⟩
 done:=by
  intro X hP hw hK hc i pins s σ H E I hf st hg;subst hP hw hK;obtain⟨xs,hq,hx⟩:=hg;obtain⟨its,rv,p,hz⟩:=I.tuple hq;obtain⟨f0,f1,f2,f3,f4,f5⟩:=hf it (by simp);have hl:=rv.length;exact wpAny_pyNext_tuple_end (I.ok.hd hc) st (show s.heap.IsTuple a its.toArray from p) (by simp;omega) fun h' eb=>⟨rfl,I.turned (t':=s.toks) (fun b o hb e=>eb b o hb e) f0 f1 f3 f4 f5⟩
 self:=fun _ _ _ _ _ st h=>wpAny_pyIter_tupleiter st h
theorem uZ{P:Program}{w:World}{K:Frag}{tg:Expr}(it:Addr)(lo:Int)(n:Nat):rj P w K tg (xE lo n) [it] it (fun i h=>IsRangeIter h it (lo+(i:Nat) * 1) ((n:Int) - (i:Nat)) 1) where
 mem:=by simp
 obj:=fun i h st b hb=>by
  have e:b=it:=by simpa using hb
  subst e
  exact⟨_,st,fun v z=>by
   have z':Data.fields _=Data.cell v:=z
   cases z'⟩
 keep:=fun i h h' st k=>k it (by simp) _ st
 item:=by
  intro X hP hw hK hc i pins s σ H E I hf st hg;subst hP hw hK;obtain⟨f0,f1,f2,f3,f4,f5⟩:=hf it (by simp);have W:=Walks.range (prog:=X.prog) (w:=X.w) (I.ok.hd hc) it lo 1 n;refine W.item i s _ _ hg st fun v h' tk hv st' kk=>?_;obtain⟨t,rfl⟩:=hv;have I1:aK X pins σ H { s with heap:=h',toks:=tk }:=I.turned (fun b o hb e=>kk b o (by simpa using hb) e) f0 f1 f3 f4 f5;refine⟨_,rfl,vn (s:={ s with heap:=h',toks:=tk }) (n:="range_iterator") st' rfl rfl (by decide) ⟨.int (lo+i),H,I1,⟨t,?_⟩,⟨rfl,rfl⟩,st',fun b hb=>(hf b hb).1⟩⟩;rw [Int.mul_one]
 done:=by
  intro X hP hw hK hc i pins s σ H E I hf st hg;subst hP hw hK;obtain⟨f0,f1,f2,f3,f4,f5⟩:=hf it (by simp);exact wpAny_pyNext_range_end (I.ok.hd hc) st (by have:n≤i:=hg;omega) fun h' eb=>⟨rfl,I.turned (t':=s.toks) (fun b o hb e=>eb b o hb e) f0 f1 f3 f4 f5⟩
 self:=fun _ _ _ _ _ st h=>wpAny_pyIter_rangeiter st h
end L2
namespace L2
open PySem PySem.Spec PyProof.Rows
section
variable {X:Cx} {tg:Expr}
theorem sN{pins:List (Addr×Obj)}{σ:St}{H:Hp}{s:Shared}{R:It→Hp→Prop}{E:Value→Shared→Prop}{lo hi:Int}{t u v:Tok}{tk:Nat}(I:aK X pins σ H s)(h1:-(2 ^ 62)≤lo)(h2:lo < 2 ^ 62)(h3:-(2 ^ 62)≤hi)(h4:hi < 2 ^ 62)
  (q:R (xE lo (hi - lo).toNat) H):wpAny (model X.prog X.w) X.A (pyIter (.ref s.heap.objs.size)) (Ew X pins σ tg R) E { s with heap:=s.heap.push { cls:=.type "range",data:=.fields #[.int lo t,.int hi u,.int 1 v] },toks:=tk }:=by
 refine wpAny_pyIter_range (IsRange.new ..) (small_one h1 h2 h3 h4) ?_;have I1:aK X pins σ H { s with heap:=s.heap.push { cls:=.type "range",data:=.fields #[.int lo t,.int hi u,.int 1 v] },toks:=tk }:=I.kept fun b o e=>aa3 _ e
 refine⟨(s.heap.push { cls:=.type "range",data:=.fields #[.int lo t,.int hi u,.int 1 v] }).objs.size,[(s.heap.push { cls:=.type "range",data:=.fields #[.int lo t,.int hi u,.int 1 v] }).objs.size],_,_,H,rfl,
  I1.kept (t':=tk) fun b o e=>aa3 _ e,uZ _ lo (hi - lo).toNat,?_,fun b hb=>?_,q⟩
 ·have e1:lo+((0:Nat):Int) * 1=lo:=by simp
  have e2:(((hi - lo).toNat:Nat):Int) - ((0:Nat):Int)=Builtin.Range.rangeSize lo hi 1:=by rw [rangeSize_one];split<;>omega
  show IsRangeIter _ _ (lo+((0:Nat):Int) * 1) ((((hi - lo).toNat:Nat):Int) - ((0:Nat):Int)) 1;rw [e1,e2];exact ab9 _ rfl
 ·have e:b=(s.heap.push { cls:=.type "range",data:=.fields #[.int lo t,.int hi u,.int 1 v] }).objs.size:=by simpa using hb
  subst e;exact I1.fpOk (aa7 _) (I1.hok.fresh (aa7 _))
def BB(ta:TA):TI:=fun σ H R=>ta σ H fun vs H1=>∃j:Int,vs=[.int j]∧-(2 ^ 62)≤j∧j < 2 ^ 62∧R (xE 0 j.toNat) H1
def BC(ta:TA):TI:=fun σ H R=>ta σ H fun vs H1=>∃i j:Int,vs=[.int i,.int j]∧(-(2 ^ 62)≤i∧i < 2 ^ 62∧-(2 ^ 62)≤j∧j < 2 ^ 62)∧R (xE i (j - i).toNat) H1
theorem iP{a:Expr}{ta:TA}{p pos:Pos}(hg:Gl X "range")(hm:X.mg "range"=none)(ha:PA X [a] ta)(hs:starEach [a] X.env=[(false,eval a X.env)]:=by rfl):PI X tg (.Call (.Name "range" p) [a] [] pos) (BB ta):=by
 intro pins s σ H R I h;refine Call_ (i8 I hg hm boot_range (PyProof.Rows.callWith_type1 (cZ (ha pos pins s σ H _ I h) fun us s1 ⟨vs,H1,I1,r1,q1⟩=>?_) hs rfl));obtain⟨j,e,q1,q2,q⟩:=q1;subst e
 cases r1 with
 | cons r rr=>
  cases rr;obtain⟨t,rfl⟩:=r;exact call_range_1 (sN I1 (by omega) (by omega) q1 q2 (by simpa using q))
theorem w6{a b:Expr}{ta:TA}{p pos:Pos}(hg:Gl X "range")(hm:X.mg "range"=none)(ha:PA X [a,b] ta)(hs:starEach [a,b] X.env=[(false,eval a X.env),(false,eval b X.env)]:=by rfl)(hs2:starEach [b] X.env=[(false,eval b X.env)]:=by rfl):
  PI X tg (.Call (.Name "range" p) [a,b] [] pos) (BC ta):=by
 intro pins s σ H R I h;refine Call_ (i8 I hg hm boot_range (PyProof.Rows.callWith_type1 (cZ (ha pos pins s σ H _ I h) fun us s1 ⟨vs,H1,I1,r1,q1⟩=>?_) (by rw [hs,hs2]) (by rw [hs2];rfl)));obtain⟨i,j,e,⟨q1,q2,q3,q4⟩,q⟩:=q1;subst e
 cases r1 with
 | cons r rr=>
  cases rr with
  | cons r' rr=>
   cases rr;obtain⟨t,rfl⟩:=r;obtain⟨t',rfl⟩:=r';exact call_range_2 (sN I1 q1 q2 q3 q4 q)
def El(wi:TI)(g:TG)(tb:TS):TS:=fun D σ H=>wi σ H fun J H1=>∃W:Nat→Nat→St→Hp→Prop,(∃m,W 0 m σ H1)∧∀i m σ H,W i m σ H→
 (J.stop i H∧D.nx σ H)∨(J.go i H∧∃N:St→Hp→Prop,(∀σ' H',N σ' H'→∃m',m' < m∧W (i+1) m' σ' H')∧∀x H',J.yld i H x H'→g x σ H' fun σ2 H2=>tb { D with nx:=N,ct:=N,bk:=D.nx } σ2 H2)
def qF(fp:List Addr)(h:Heap):List (Addr×Obj):=fp.filterMap fun b=>(h.get? b).map fun o=>(b,o)
theorem cW{fp:List Addr}{h:Heap}{b:Addr}{o:Obj}(hb:b∈fp)(e:h.get? b=some o):(b,o)∈qF fp h:=aj5.mpr ⟨b,hb,by rw [e];rfl⟩
theorem wV{fp:List Addr}{h:Heap}{p:Addr×Obj}(hp:p∈qF fp h):p.1∈fp∧h.get? p.1=some p.2:=by
 obtain⟨b,hb,e⟩:=aj5.mp hp
 cases q:h.get? b with
 | none=>rw [q]at e;cases e
 | some o=>
  rw [q]at e;have e':(b,o)=p:=Option.some.inj e;subst e';exact⟨hb,q⟩
theorem aK.pinned{pins:List (Addr×Obj)}{σ:St}{H:Hp}{s:Shared}{fp:List Addr}(I:aK X pins σ H s)(hf:∀b∈fp,kg X pins H b)(ho:∀b∈fp,∃o,s.heap.get? b=some o∧∀v,o.data≠.cell v):aK X (pins++qF fp s.heap) σ H s:=
 I.pins_of fun p hp=>(ac1.mp hp).elim (fun z=>I.pin p (ab1 _ z)) fun z=>by
  obtain⟨hb,e⟩:=wV z;obtain⟨f0,f1,f2,_⟩:=hf p.1 hb;obtain⟨o,e',d⟩:=ho p.1 hb;rw [e]at e';cases e';exact⟨e,f0,f1,f2,d⟩
theorem aK.unpinned{pins pl:List (Addr×Obj)}{σ:St}{H:Hp}{s:Shared}(I:aK X (pins++pl) σ H s):aK X pins σ H s:=I.pins_of fun p hp=>I.pin p (ab1 _ (ae6 _ hp))
theorem d3{iter:Expr}{body:List Stmt}{wi:TI}{g:TG}{tb:TS}{pos:Pos}(hp:PassesOwn (model X.prog X.w) X.A X.env X.xe)(hc:X.calm=true)(hi:PI X tg iter wi)(hg:PG X tg g)(hb:tw X body tb)
  (hs:∀x,foldedSetIterable iter X.env x=pure x:=by intro _;rfl):PS X (.For tg iter body [] pos) (El wi g tb):=by
 intro pins s σ H D I h;refine wpAny_For (cZ (hi pins s σ H _ I h) fun v s1 h1=>cZ h1 fun itv s2 h2=>?_) hs;obtain⟨it,fp,tn,J,H2,e,I2,T,st2,f2,W,⟨m0,w0⟩,turn⟩:=h2;subst e;have stat:∀{H':Hp},(∀b∈fp,H' b=none)→∀b∈fp,kg X pins H' b:=fun hn b hb=>⟨hn b hb,(f2 b hb).2⟩;refine codeAny_forLoop_any (fun n s'=>∃i σ' H',aK X pins σ' H' s'∧tn i s'.heap∧(∀b∈fp,H' b=none)∧W i n σ' H') ?_ m0 ⟨0,σ,H2,I2,st2,fun b hb=>(f2 b hb).1,w0⟩;rintro n s3 ⟨i,σ3,H3,I3,st3,fr3,w3⟩;rcases turn i n σ3 H3 w3 with⟨stop,qn⟩ | ⟨go,N,hN,step⟩
 ·refine wpAny_passesOwn hp (cZ (T.done X rfl rfl rfl hc i pins s3 σ3 H3 X.xe I3 (stat fr3) st3 stop) fun r s4 ⟨hr,I4⟩=>?_)
  subst hr;exact wpAny_execs_nil ⟨σ3,H3,I4,qn⟩
 ·refine wpAny_passesOwn hp (cZ (T.item X rfl rfl rfl hc i pins s3 σ3 H3 X.xe I3 (stat fr3) st3 go) fun r s4 ⟨u,hr,h4⟩=>?_)
  subst hr;refine wpAny_passesOwn hp (cZ h4 fun _ s5 ⟨x,H5,I5,r5,y5,st5,fr5⟩=>?_);have I5':=I5.pinned (stat fr5) (T.obj _ _ st5);refine wpAny_passesOwn hp (cZ (hg _ s5 σ3 H5 x u _ I5' r5 (step x H5 y5)) fun _ s6 ⟨σ6,H6,I6,q6⟩=>?_);refine wpAny_passesOwn hp (cZ (hb _ s6 σ6 H6 _ I6 q6) fun f s7 q7=>?_)
  have again:∀{σ7:St} {H7:Hp},aK X (pins++qF fp s5.heap) σ7 H7 s7→N σ7 H7→∃m,m < n∧∃i σ' H',aK X pins σ' H' s7∧tn i s7.heap∧(∀b∈fp,H' b=none)∧W i m σ' H':=fun {σ7 H7} I7 n7=>by
   obtain⟨m',hm,w7⟩:=hN σ7 H7 n7;refine⟨m',hm,i+1,σ7,H7,I7.unpinned,T.keep _ _ _ st5 fun b hb o e=>(I7.pin (b,o) (ab1 _ (ab1 _ (cW hb e)))).1,fun b hb=>?_,w7⟩;obtain⟨o,e,d⟩:=T.obj _ _ st5 b hb;exact(I7.pin (b,o) (ab1 _ (ab1 _ (cW hb e)))).2.1
  cases f with
  | next=>obtain⟨σ7,H7,I7,n7⟩:=q7;exact again I7 n7
  | cont=>obtain⟨σ7,H7,I7,n7⟩:=q7;exact again I7 n7
  | brk=>obtain⟨σ7,H7,I7,q7⟩:=q7;exact⟨σ7,H7,I7.unpinned,q7⟩
  | ret v=>obtain⟨x7,σ7,H7,I7,r7,q7⟩:=q7;exact⟨x7,σ7,H7,I7.unpinned,r7,q7⟩
end
theorem yg{K:Frag}{a:Addr}{xs:List V}{g:TG}{tb:TS}{D:e9}{σ:St}{H:Hp}(Pv:Nat→St→Hp→Prop)(h0:Pv 0 σ H)(hl:∀i σ H,i≤xs.length→Pv i σ H→aT K H a xs)
  (hs:∀i x σ H,xs[i]?=some x→Pv i σ H→g x σ H fun σ2 H2=>tb { D with nx:=Pv (i+1),ct:=Pv (i+1),bk:=D.nx } σ2 H2) (hd:∀σ H,Pv xs.length σ H→D.nx σ H) :
  ∃W:Nat→Nat→St→Hp→Prop,(∃m,W 0 m σ H)∧∀i m σ H,W i m σ H→
   ((xD K a).stop i H∧D.nx σ H)∨((xD K a).go i H∧∃N:St→Hp→Prop,(∀σ' H',N σ' H'→∃m',m' < m∧W (i+1) m' σ' H')∧∀x H',(xD K a).yld i H x H'→g x σ H' fun σ2 H2=>tb { D with nx:=N,ct:=N,bk:=D.nx } σ2 H2):=by
 refine⟨fun i m σ H=>m=xs.length - i∧i≤xs.length∧Pv i σ H,⟨xs.length,by simp,ac0 _,h0⟩,?_⟩;rintro i m σ H ⟨rfl,hi,p⟩;have q:=hl i σ H hi p
 by_cases hlt:i < xs.length
 ·refine .inr ⟨⟨xs,xs[i],q,by simp [hlt]⟩,Pv (i+1),fun σ' H' p'=>⟨xs.length - (i+1),by omega,rfl,hlt,p'⟩,fun x H' y=>?_⟩
  obtain⟨e,y⟩:=y;subst e;exact hs i x σ _ (y xs q) p
 ·have e:i=xs.length:=by omega
  subst e;exact .inl ⟨⟨xs,q,aa7 _⟩,hd σ H p⟩
theorem wF{lo:Int}{n:Nat}{g:TG}{tb:TS}{D:e9}{σ:St}{H:Hp}(Pv:Nat→St→Hp→Prop)(h0:Pv 0 σ H)
  (hs:∀i σ H,i < n→Pv i σ H→g (.int (lo+i)) σ H fun σ2 H2=>tb { D with nx:=Pv (i+1),ct:=Pv (i+1),bk:=D.nx } σ2 H2) (hd:∀σ H,Pv n σ H→D.nx σ H) :
  ∃W:Nat→Nat→St→Hp→Prop,(∃m,W 0 m σ H)∧∀i m σ H,W i m σ H→
   ((xE lo n).stop i H∧D.nx σ H)∨((xE lo n).go i H∧∃N:St→Hp→Prop,(∀σ' H',N σ' H'→∃m',m' < m∧W (i+1) m' σ' H')∧∀x H',(xE lo n).yld i H x H'→g x σ H' fun σ2 H2=>tb { D with nx:=N,ct:=N,bk:=D.nx } σ2 H2):=by
 refine⟨fun i m σ H=>m=n - i∧i≤n∧Pv i σ H,⟨n,by simp,ac0 _,h0⟩,?_⟩;rintro i m σ H ⟨rfl,hi,p⟩
 by_cases hlt:i < n
 ·refine .inr ⟨hlt,Pv (i+1),fun σ' H' p'=>⟨n - (i+1),by omega,rfl,hlt,p'⟩,fun x H' y=>?_⟩
  obtain⟨e,y⟩:=y;subst e y;exact hs i σ _ hlt p
 ·have e:i=n:=by omega
  subst e;exact .inl ⟨aa7 _,hd σ H p⟩
end L2
namespace L2
open PySem PySem.Spec PyProof.Rows
abbrev R2:=V→V→Hp→VK→Prop
def dY(X:Cx)(f:Value→Value→Sem Value)(r:R2):Prop:=
 ∀(pins:List (Addr×Obj)) (s:Shared) (σ:St) (H:Hp) (x y:V) (v u:Value) (Q:VK),aK X pins σ H s→aN x v→aN y u→r x y H Q→
  wpAny (model X.prog X.w) X.A (f v u) (EP X pins σ Q) X.xe s
def Ff(X:Cx)(f:Value→Sem Value)(r:V→Hp→VK→Prop):Prop:=
 ∀(pins:List (Addr×Obj)) (s:Shared) (σ:St) (H:Hp) (x:V) (v:Value) (Q:VK),aK X pins σ H s→aN x v→r x H Q→
  wpAny (model X.prog X.w) X.A (f v) (EP X pins σ Q) X.xe s
def cz(X:Cx)(f:Value)(r:List V→Hp→VK→Prop):Prop:=
 ∀(pins:List (Addr×Obj)) (s:Shared) (σ:St) (H:Hp) (xs:List V) (us:List Value) (Q:VK),aK X pins σ H s→aV xs us→r xs H Q→
  wpAny (model X.prog X.w) X.A (call f us) (EP X pins σ Q) X.xe s
def EJ(X:Cx)(r:V→Hp→(Bool→Hp→Prop)→Prop):Prop:=
 ∀(pins:List (Addr×Obj)) (s:Shared) (σ:St) (H:Hp) (x:V) (v:Value) (Q:Bool→Hp→Prop),aK X pins σ H s→aN x v→r x H Q→
  wpAny (model X.prog X.w) X.A (truthy v) (TP X pins σ Q) X.xe s
def Dk(r:R2)(ta tb:TE):TE:=fun σ H Q=>ta σ H fun x H1=>tb σ H1 fun y H2=>r x y H2 Q
def Fj(r:V→Hp→VK→Prop)(ta:TE):TE:=fun σ H Q=>ta σ H fun x H1=>r x H1 Q
def rI(C:Int→Int→Prop)(g:Int→Int→V):R2:=fun x y H Q=>∃i j,x=.int i∧y=.int j∧C i j∧Q (g i j) H
def tD(g:Int→Int→V):R2:=fun x y H Q=>∃i j,x=.int i∧y=.int j∧Q (g i j) H
def rU(g:Int→V):V→Hp→VK→Prop:=fun x H Q=>∃i,x=.int i∧Q (g i) H
section
variable {X:Cx} {a b c:Expr} {ta tb tc:TE} {pos:Pos}
theorem z7(ha:PE X a ta)(hb:PE X b tb){pins:List (Addr×Obj)}{s:Shared}{σ:St}{H:Hp}{R:V→V→Hp→Prop}(I:aK X pins σ H s)
  (h:ta σ H fun x H1=>tb σ H1 fun y H2=>R x y H2) {Q:Value→Shared→Prop} {f:Value→Value→Sem Value}
  (hf:∀v u s2 x y H2,aK X pins σ H2 s2→aN x v→aN y u→R x y H2→wpAny (model X.prog X.w) X.A (f v u) Q X.xe s2) :
  wpAny (model X.prog X.w) X.A (eval a X.env) (fun v s₁=>wpAny (model X.prog X.w) X.A (eval b X.env) (fun u s₂=>wpAny (model X.prog X.w) X.A (f v u) Q X.xe s₂) X.xe s₁) X.xe s:=by
 refine cZ (ha pins s σ H _ I h) fun v s1 ⟨x,H1,I1,r1,q1⟩=>?_;refine cZ (hb pins s1 σ H1 _ I1 q1) fun u s2 ⟨y,H2,I2,r2,q2⟩=>?_;exact hf v u s2 x y H2 I2 r1 r2 q2
theorem aw{op:Operator}{r:R2}(ho:dY X (binaryOp op) r)(ha:PE X a ta)(hb:PE X b tb):PE X (.BinOp a op b pos) (Dk r ta tb):=by
 intro pins s σ H Q I h;exact wpAny_BinOp (z7 ha hb I h fun v u s2 x y H2 I2 rx ry q=>ho pins s2 σ H2 x y v u Q I2 rx ry q)
theorem D1{f:Value→Value→Sem Value}{C:Int→Int→Prop}{g:Int→Int→Int}
  (rule:∀(i j:Int) (t u:Tok) (s:Shared) (Q:Value→Shared→Prop) (E:Value→Shared→Prop),C i j→Q (.int (g i j) s.toks) { s with toks:=s.toks+1 }→wpAny (model X.prog X.w) X.A (f (.int i t) (.int j u)) Q E s) :
  dY X f (rI C fun i j=>.int (g i j)):=by
 intro pins s σ H x y v u Q I rx ry h;obtain⟨i,j,rfl,rfl,hc,q⟩:=h;obtain⟨t,rfl⟩:=rx;obtain⟨t',rfl⟩:=ry;exact rule i j t t' s _ _ hc ⟨.int (g i j),H,I.tok _,⟨_,rfl⟩,q⟩
theorem D2{f:Value→Value→Sem Value}{g:Int→Int→Int}
  (rule:∀(i j:Int) (t u:Tok) (s:Shared) (Q:Value→Shared→Prop) (E:Value→Shared→Prop),Q (.int (g i j) s.toks) { s with toks:=s.toks+1 }→wpAny (model X.prog X.w) X.A (f (.int i t) (.int j u)) Q E s) :
  dY X f (tD fun i j=>.int (g i j)):=by
 intro pins s σ H x y v u Q I rx ry h;obtain⟨i,j,rfl,rfl,q⟩:=h;obtain⟨t,rfl⟩:=rx;obtain⟨t',rfl⟩:=ry;exact rule i j t t' s _ _ ⟨.int (g i j),H,I.tok _,⟨_,rfl⟩,q⟩
theorem AK{f:Value→Value→Sem Value}{g:Int→Int→Bool}
  (rule:∀(i j:Int) (t u:Tok) (s:Shared) (Q:Value→Shared→Prop) (E:Value→Shared→Prop),Q (.bool (g i j)) s→wpAny (model X.prog X.w) X.A (f (.int i t) (.int j u)) Q E s) :
  dY X f (tD fun i j=>.bl (g i j)):=by
 intro pins s σ H x y v u Q I rx ry h;obtain⟨i,j,rfl,rfl,q⟩:=h;obtain⟨t,rfl⟩:=rx;obtain⟨t',rfl⟩:=ry;exact rule i j t t' s _ _ ⟨.bl (g i j),H,I,rfl,q⟩
def Dv(i j:Int):Prop:=0 < j∧j < 1073741824
def ED(i j:Int):Prop:=0≤j∧j≤1000000∧i.natAbs < 2 ^ 64
def BW(i j:Int):Prop:=(-(2 ^ 64) < i∧i < 2 ^ 64)∨(-(2 ^ 64) < j∧j < 2 ^ 64)
theorem BW.ok{i j:Int}(h:BW i j):IntMulOk i j:=by
 rcases h with⟨h1,h2⟩ | ⟨h1,h2⟩
 ·exact .of_left (intBits_le_64 h1 h2)
 ·exact .of_right (intBits_le_64 h1 h2)
theorem op_add:dY X (binaryOp .Add) (tD fun i j=>.int (i+j)):=D2 fun _ _ _ _ _ _ _ q=>add_int q
theorem dZ:dY X (binaryOp .Sub) (tD fun i j=>.int (i - j)):=D2 fun _ _ _ _ _ _ _ q=>sub_int q
theorem du:dY X (binaryOp .FloorDiv) (rI Dv fun i j=>.int (i / j)):=D1 fun i j _ _ _ _ _ hc q=>by
 have h1:(0:Int) < j:=hc.1;have h2:j < 1073741824:=hc.2;exact floordiv_int (by omega) (by rw [aj6 i (by omega)];exact q) (.inl (PyProof.noPylong_small (by omega)))
theorem cE:dY X (binaryOp .Mod) (rI (fun _ j=>0 < j) fun i j=>.int (i % j)):=D1 fun i j _ _ _ _ _ hc q=>by
 have h1:(0:Int) < j:=hc;exact mod_int' (by omega) (by rw [aj7 i (by omega)];exact q)
theorem yQ:dY X (binaryOp .Pow) (rI ED fun i j=>.int (i ^ j.toNat)):=D1 fun _ _ _ _ _ _ _ hc q=>pow_int_small hc.1 hc.2.1 hc.2.2 q
theorem vo:dY X (inplaceOp .Mult) (rI BW fun i j=>.int (i * j)):=D1 fun _ _ _ _ _ _ _ hc q=>imul_int q hc.ok
end
def sW:V→V→Bool
 | .non,.non=>true | .non,.int _=>true | .int _,.non=>true | .non,.bl _=>true | .bl _,.non=>true | .non,.str _=>true | .str _,.non=>true
 | .int _,.int _=>true | .bl _,.bl _=>true | .str _,.str _=>true | .byt _,.byt _=>true
 | .int _,.str _=>true | .str _,.int _=>true | .bl _,.str _=>true | .str _,.bl _=>true
 | _,_=>false
def pE:R2:=fun x y H Q=>sW x y=true∧Q (.bl (decide (x=y))) H
def pF:R2:=fun x y H Q=>sW x y=true∧Q (.bl (!decide (x=y))) H
theorem vh{i j:Int}:decide (V.int i=V.int j)=(i == j):=by
 rw [af0];simp
theorem xN{i j:Bool}:decide (V.bl i=V.bl j)=(i == j):=by
 rw [af0];simp
theorem vk{i j:Str}:decide (V.str i=V.str j)=(i == j):=by
 rw [af0];simp
theorem vg{i j:Array UInt8}:decide (V.byt i=V.byt j)=(i.toList == j.toList):=by
 rw [af0];cases i;cases j;simp
section
variable {X:Cx} {a b c:Expr} {ta tb tc:TE} {pos:Pos}
theorem bt{pins:List (Addr×Obj)}{σ:St}{H:Hp}{s:Shared}{Q:VK}{k k':Bool}(I:aK X pins σ H s)(q:Q (.bl k) H)(e:k=k'):EP X pins σ Q (.bool k') s:=by
 subst e;exact⟨.bl k,H,I,rfl,q⟩
theorem D6:dY X (compareOp .Eq) pE:=by
 intro pins s σ H x y v u Q I rx ry h;obtain⟨hs,q⟩:=h
 cases x with
 | non=>
  cases rx
  cases y with
  | non=>cases ry;exact PySem.EqNone.eq_none_none (bt I q (by simp))
  | bl j=>cases ry;exact PySem.EqNone.eq_none_bool (bt I q (by simp))
  | int j=>obtain⟨t',rfl⟩:=ry;exact PySem.EqNone.eq_none_int (bt I q (by simp))
  | str j=>obtain⟨t',rfl⟩:=ry;exact PySem.EqNone.eq_none_str (bt I q (by simp))
  | _=>exact absurd (show false=true from hs) aa4
 | bl i=>
  cases rx
  cases y with
  | non=>cases ry;exact PySem.EqNone.eq_bool_none (bt I q (by simp))
  | bl j=>cases ry;exact eq_bool (bt I q xN)
  | str j=>obtain⟨t',rfl⟩:=ry;exact PySem.EqMixed.eq_bool_str (bt I q (by simp))
  | _=>exact absurd (show false=true from hs) aa4
 | int i=>
  obtain⟨t,rfl⟩:=rx
  cases y with
  | non=>cases ry;exact PySem.EqNone.eq_int_none (bt I q (by simp))
  | int j=>obtain⟨t',rfl⟩:=ry;exact eq_int (bt I q vh)
  | str j=>obtain⟨t',rfl⟩:=ry;exact PySem.EqMixed.eq_int_str (bt I q (by simp))
  | _=>exact absurd (show false=true from hs) aa4
 | str i=>
  obtain⟨t,rfl⟩:=rx
  cases y with
  | non=>cases ry;exact PySem.EqNone.eq_str_none (bt I q (by simp))
  | bl j=>cases ry;exact PySem.EqMixed.eq_str_bool (bt I q (by simp))
  | int j=>obtain⟨t',rfl⟩:=ry;exact PySem.EqMixed.eq_str_int (bt I q (by simp))
  | str j=>obtain⟨t',rfl⟩:=ry;exact eq_str (bt I q vk)
  | _=>exact absurd (show false=true from hs) aa4
 | byt i=>
  obtain⟨t,rfl⟩:=rx
  cases y with
  | byt j=>obtain⟨t',rfl⟩:=ry;exact PySem.W.eq_bytes (bt I q vg)
  | _=>exact absurd (show false=true from hs) aa4
 | _=>cases y<;>exact absurd (show false=true from hs) aa4
theorem D8:dY X (compareOp .NotEq) pF:=by
 intro pins s σ H x y v u Q I rx ry h;obtain⟨hs,q⟩:=h
 cases x with
 | non=>
  cases rx
  cases y with
  | non=>cases ry;exact PySem.EqNone.ne_none_none (bt I q (by simp))
  | bl j=>cases ry;exact PySem.EqNone.ne_none_bool (bt I q (by simp))
  | int j=>obtain⟨t',rfl⟩:=ry;exact PySem.EqNone.ne_none_int (bt I q (by simp))
  | str j=>obtain⟨t',rfl⟩:=ry;exact PySem.EqNone.ne_none_str (bt I q (by simp))
  | _=>exact absurd (show false=true from hs) aa4
 | bl i=>
  cases rx
  cases y with
  | non=>cases ry;exact PySem.EqNone.ne_bool_none (bt I q (by simp))
  | bl j=>cases ry;exact ne_bool (bt I q (congrArg not xN))
  | str j=>obtain⟨t',rfl⟩:=ry;exact PySem.EqMixed.ne_bool_str (bt I q (by simp))
  | _=>exact absurd (show false=true from hs) aa4
 | int i=>
  obtain⟨t,rfl⟩:=rx
  cases y with
  | non=>cases ry;exact PySem.EqNone.ne_int_none (bt I q (by simp))
  | int j=>obtain⟨t',rfl⟩:=ry;exact ne_int (bt I q (congrArg not vh))
  | str j=>obtain⟨t',rfl⟩:=ry;exact PySem.EqMixed.ne_int_str (bt I q (by simp))
  | _=>exact absurd (show false=true from hs) aa4
 | str i=>
  obtain⟨t,rfl⟩:=rx
  cases y with
  | non=>cases ry;exact PySem.EqNone.ne_str_none (bt I q (by simp))
  | bl j=>cases ry;exact PySem.EqMixed.ne_str_bool (bt I q (by simp))
  | int j=>obtain⟨t',rfl⟩:=ry;exact PySem.EqMixed.ne_str_int (bt I q (by simp))
  | str j=>obtain⟨t',rfl⟩:=ry;exact ne_str (bt I q (congrArg not vk))
  | _=>exact absurd (show false=true from hs) aa4
 | byt i=>
  obtain⟨t,rfl⟩:=rx
  cases y with
  | byt j=>obtain⟨t',rfl⟩:=ry;exact PySem.W.ne_bytes (bt I q (congrArg not vg))
  | _=>exact absurd (show false=true from hs) aa4
 | _=>cases y<;>exact absurd (show false=true from hs) aa4
theorem D7:dY X (compareOp .Lt) (tD fun i j=>.bl (decide (i < j))):=AK fun _ _ _ _ _ _ _ q=>lt_int q
theorem ib:dY X (compareOp .LtE) (tD fun i j=>.bl (decide (i≤j))):=AK fun _ _ _ _ _ _ _ q=>le_int q
theorem lO:dY X (compareOp .Gt) (tD fun i j=>.bl (decide (j < i))):=AK fun _ _ _ _ _ _ _ q=>gt_int q
theorem yP:dY X (compareOp .GtE) (tD fun i j=>.bl (decide (j≤i))):=AK fun _ _ _ _ _ _ _ q=>ge_int q
theorem op_in_str:dY X (compareOp .In) (fun x y H Q=>∃i j,x=.str i∧y=.str j∧Q (.bl (!(Builtin.Str.occurrences j i 0 j.length 1).isEmpty)) H):=by
 intro pins s σ H x y v u Q I rx ry h;obtain⟨i,j,rfl,rfl,q⟩:=h;obtain⟨t,rfl⟩:=rx;obtain⟨t',rfl⟩:=ry;exact in_str (bt I q rfl)
theorem fc:dY X (compareOp .Is) (fun x y H Q=>y=.non∧Q (.bl (decide (x=.non))) H):=by
 intro pins s σ H x y v u Q I rx ry h;obtain⟨rfl,q⟩:=h;cases ry;refine is_none_gen (bt I q ?_)
 cases x<;>first
  | (cases rx;rfl)
  | (obtain⟨t,rfl⟩:=rx;rfl)
theorem jO:dY X (compareOp .IsNot) (fun x y H Q=>y=.non∧Q (.bl (!decide (x=.non))) H):=by
 intro pins s σ H x y v u Q I rx ry h;obtain⟨rfl,q⟩:=h;cases ry;refine isnot_none_gen (bt I q ?_)
 cases x<;>first
  | (cases rx;rfl)
  | (obtain⟨t,rfl⟩:=rx;rfl)
theorem op_notin_str:dY X (compareOp .NotIn) (fun x y H Q=>∃i j,x=.str i∧y=.str j∧Q (.bl (!(!(Builtin.Str.occurrences j i 0 j.length 1).isEmpty))) H):=by
 intro pins s σ H x y v u Q I rx ry h;obtain⟨i,j,rfl,rfl,q⟩:=h;obtain⟨t,rfl⟩:=rx;obtain⟨t',rfl⟩:=ry;exact notIn_str (bt I q rfl)
theorem dY.or{f:Value→Value→Sem Value}{r r':R2}(h:dY X f r)(h':dY X f r'):dY X f (fun x y H Q=>r x y H Q∨r' x y H Q):=by
 intro pins s σ H x y v u Q I rx ry q;rcases q with q | q
 ·exact h pins s σ H x y v u Q I rx ry q
 ·exact h' pins s σ H x y v u Q I rx ry q
theorem aE(b:Expr){op:CmpOp}(h:op≠.In:=by decide)(h2:op≠.NotIn:=by decide):behindInMarks op b=false:=by
 have e1:(op == CmpOp.In)=false:=by cases op<;>first | rfl | exact absurd rfl h
 have e2:(op == CmpOp.NotIn)=false:=by cases op<;>first | rfl | exact absurd rfl h2
 cases b<;>simp [behindInMarks,e1,e2]
theorem gG{op:CmpOp}{r:R2}(ho:dY X (compareOp op) r)(ha:PE X a ta)(hb:PE X b tb)(hm:behindInMarks op b=false):PE X (.Compare a [op] [b] pos) (Dk r ta tb):=by
 intro pins s σ H Q I h;exact wpAny_Compare1 (z7 ha hb I h fun v u s2 x y H2 I2 rx ry q=>ho pins s2 σ H2 x y v u Q I2 rx ry q) hm
def pK(t:TE):TT:=fun σ H Q=>t σ H fun x H'=>∃k,x=.bl k∧Q k H'
theorem az{op:CmpOp}{r:R2}(ho:dY X (compareOp op) r)(ha:PE X a ta)(hb:PE X b tb)(hm:behindInMarks op b=false):PT X (.Compare a [op] [b] pos) (pK (Dk r ta tb)):=by
 intro pins s σ H Q I h
 refine wpAny_isTrue_Compare1 (cZ (ha pins s σ H _ I h) fun v s1 ⟨x,H1,I1,r1,q1⟩=>cZ (hb pins s1 σ H1 _ I1 q1) fun u s2 ⟨y,H2,I2,r2,q2⟩=>
  cZ (ho pins s2 σ H2 x y v u _ I2 r1 r2 q2) fun c s3 ⟨z,H3,I3,r3,k,e,q3⟩=>?_) hm
 subst e;cases r3;exact wpAny_truthy_bool ⟨H3,I3,q3⟩
def uS(r r':R2)(ta tb tc:TE):TE:=fun σ H Q=>ta σ H fun x H1=>tb σ H1 fun y H2=>r x y H2 fun z H3=>∃k,z=.bl k∧
 (if k=true then tc σ H3 fun w' H4=>r' y w' H4 Q else Q (.bl false) H3)
theorem sD{op op':CmpOp}{r r':R2}(ho:dY X (compareOp op) r)(ho':dY X (compareOp op') r')(ha:PE X a ta)(hb:PE X b tb)(hc:PE X c tc)
  (hm:lastMarks [op,op'] [b,c]=false:=by with_unfolding_all rfl):PE X (.Compare a [op,op'] [b,c] pos) (uS r r' ta tb tc):=by
 intro pins s σ H Q I h
 refine Compare_chain (cZ (ha pins s σ H _ I h) fun v s1 ⟨x,H1,I1,r1,q1⟩=>chain_link (cZ (hb pins s1 σ H1 _ I1 q1) fun u s2 ⟨y,H2,I2,r2,q2⟩=>
  cZ (ho pins s2 σ H2 x y v u _ I2 r1 r2 q2) fun d s3 ⟨z,H3,I3,r3,k,e,q3⟩=>?_)) hm
 subst e;cases r3;refine wpAny_truthy_bool ?_
 cases k with
 | false=>exact ite_ff ⟨.bl false,H3,I3,rfl,q3⟩
 | true=>exact ite_tt (chain_last (cZ (hc pins s3 σ H3 _ I3 q3) fun w' s4 ⟨z',H4,I4,r4,q4⟩=>ho' pins s4 σ H4 y z' u w' Q I4 r2 r4 q4))
theorem sG{op op':CmpOp}{r r':R2}(ho:dY X (compareOp op) r)(ho':dY X (compareOp op') r')(ha:PE X a ta)(hb:PE X b tb)(hc:PE X c tc)
  (hm:lastMarks [op,op'] [b,c]=false:=by with_unfolding_all rfl):PT X (.Compare a [op,op'] [b,c] pos) (pK (uS r r' ta tb tc)):=by
 intro pins s σ H Q I h
 refine isTrue_chain (cZ (ha pins s σ H _ I h) fun v s1 ⟨x,H1,I1,r1,q1⟩=>test_link (cZ (hb pins s1 σ H1 _ I1 q1) fun u s2 ⟨y,H2,I2,r2,q2⟩=>
  cZ (ho pins s2 σ H2 x y v u _ I2 r1 r2 q2) fun d s3 ⟨z,H3,I3,r3,k,e,q3⟩=>?_)) hm
 subst e;cases r3;refine wpAny_truthy_bool ?_
 cases k with
 | false=>
  obtain⟨k',e',q'⟩:=q3;cases e';exact ite_ff ⟨H3,I3,q'⟩
 | true=>
  refine ite_tt (test_last (cZ (hc pins s3 σ H3 _ I3 q3) fun w' s4 ⟨z',H4,I4,r4,q4⟩=>cZ (ho' pins s4 σ H4 y z' u w' _ I4 r2 r4 q4) fun d' s5 ⟨z2,H5,I5,r5,k2,e2,q5⟩=>?_));subst e2;cases r5;exact wpAny_truthy_bool ⟨H5,I5,q5⟩
def zZ(K:Frag)(x:V)(H:Hp)(k:Bool):Prop:=
 match x with
 | .non=>k=false
 | .bl b=>k=b
 | .int i=>k=(i != 0)
 | .str y=>y.length≤sizeLine∧k=((y.length:Int) != 0)
 | .byt y=>y.size≤sizeLine∧k=((y.size:Int) != 0)
 | .ref p=>(∃xs,aT K H p xs∧k=!xs.isEmpty)∨(∃xs,cD K H p xs∧k=!xs.isEmpty)∨∃kvs,H p=some (.dK kvs)∧k=!kvs.isEmpty
 | _=>False
theorem tW{κ:Type}{kvs:List (κ×V)}{vs:List (κ×Value)}(r:KV kvs vs):(!vs.isEmpty)=!kvs.isEmpty:=by
 cases r<;>rfl
theorem mR{xs:List V}{its:List Value}(r:aV xs its):(!its.toArray.isEmpty)=!xs.isEmpty:=by
 cases r<;>simp
theorem kD:(sizeLine:Nat) < 2 ^ 63:=by rw [sizeLine_eq];decide
theorem Dp:EJ X (fun x H Q=>∃k,zZ X.K x H k∧Q k H):=by
 intro pins s σ H x v Q I rx h;obtain⟨k,e,q⟩:=h;have hl:=kD;have hs:sizeLine=16777216:=sizeLine_eq
 cases x with
 | non=>
  cases rx;have e':k=false:=e;subst e';exact truthy_none ⟨H,I,q⟩
 | bl b=>
  cases rx;have e':k=b:=e;subst e';exact wpAny_truthy_bool ⟨H,I,q⟩
 | int i=>
  obtain⟨t,rfl⟩:=rx;have e':k=(i != 0):=e;subst e';exact PySem.P.truthy_int ⟨H,I,q⟩
 | str y=>
  obtain⟨t,rfl⟩:=rx;obtain⟨hy,e'⟩:y.length≤sizeLine∧k=((y.length:Int) != 0):=e;subst e';exact PySem.P.truthy_str (by omega) ⟨H,I.tok _,q⟩
 | byt y=>
  obtain⟨t,rfl⟩:=rx;obtain⟨hy,e'⟩:y.size≤sizeLine∧k=((y.size:Int) != 0):=e;subst e';exact PySem.W.truthy_bytes (by omega) ⟨H,I.tok _,q⟩
 | ref p=>
  cases rx;have e':(∃xs,aT X.K H p xs∧k=!xs.isEmpty)∨(∃xs,cD X.K H p xs∧k=!xs.isEmpty)∨∃kvs,H p=some (.dK kvs)∧k=!kvs.isEmpty:=e;rcases e' with⟨xs,hx,e'⟩ | ⟨xs,hx,e'⟩ | ⟨kvs,hx,e'⟩
  ·subst e'
   obtain⟨its,r,pl,hz⟩:=I.list hx;have hlen:=r.length;exact wpAny_truthy_list pl.isList (by simp only [aa9];omega) ⟨H,I.tok _,by rw [mR r];exact q⟩
  ·subst e'
   obtain⟨its,r,pl,hz⟩:=I.tuple hx;have hlen:=r.length;exact truthy_tuple pl (by simp only [aa9];omega) ⟨H,I.tok _,by rw [mR r];exact q⟩
  ·subst e'
   obtain⟨hz,hS,vs,r,m⟩:kvs.length≤sizeLine∧(p == sysModules)=false∧∃vs,KV kvs vs∧s.heap.DictOf (p9 X.prog X.w) p vs:=I.hok p _ hx;have hlen:kvs.length=vs.length:=Paired.length r;exact wpAny_truthy_dict hS m (by omega) ⟨H,I.tok _,by rw [tW r];exact q⟩
 | _=>exact(show False from e).elim
theorem bE(ha:PE X a ta)(he:∀whole,isTrue a X.env whole=(do let v ←whole;standAt a.pos;holding [v] (truthy v))):
  PT X a (fun σ H Q=>ta σ H fun x H'=>∃k,zZ X.K x H' k∧Q k H'):=by
 intro pins s σ H Q I h;exact isTrue_plain (cZ (ha pins s σ H _ I h) fun v s1 ⟨x,H1,I1,r1,q1⟩=>Dp pins s1 σ H1 x v Q I1 r1 q1) (he _)
theorem op_add_str:dY X (binaryOp .Add) (fun x y H Q=>∃i j,x=.str i∧y=.str j∧i.length+j.length≤sizeLine∧Q (.str (i++j)) H):=by
 intro pins s σ H x y v u Q I rx ry h;obtain⟨i,j,rfl,rfl,hz,q⟩:=h;obtain⟨t,rfl⟩:=rx;obtain⟨t',rfl⟩:=ry;exact add_str (fun t' tk=>⟨.str (i++j),H,I.tok _,⟨_,rfl⟩,q⟩) hz
theorem eF{x:V}{us:List Value}(r:aV [x] us):∃u,us=[u]∧aN x u:=by
 cases r with
 | cons r1 r2=>cases r2;exact⟨_,rfl,r1⟩
theorem pL{x y:V}{us:List Value}(r:aV [x,y] us):∃u w',us=[u,w']∧aN x u∧aN y w':=by
 cases r with
 | cons r1 r2=>
  cases r2 with
  | cons r3 r4=>cases r4;exact⟨_,_,rfl,r1,r3⟩
theorem mH:cz X (.builtin "abs") (fun xs H Q=>∃i,xs=[.int i]∧Q (.int (if i < 0 then -i else i)) H):=by
 intro pins s σ H xs us Q I r h;obtain⟨i,rfl,q⟩:=h;obtain⟨u,rfl,t,rfl⟩:=eF r;exact call_abs_int fun u tk=>⟨.int (if i < 0 then -i else i),H,I.tok _,⟨_,rfl⟩,q⟩
theorem oY(hc:X.calm=true):cz X (.builtin "max") (fun xs H Q=>∃i j,xs=[.int i,.int j]∧Q (.int (if j > i then j else i)) H):=by
 intro pins s σ H xs us Q I r h;obtain⟨i,j,rfl,q⟩:=h;obtain⟨u,w',rfl,⟨t,rfl⟩,⟨t',rfl⟩⟩:=pL r;refine max_two_ints (I.ok.hd hc) fun h' tk k=>⟨_,H,I.kept k,?_,q⟩
 by_cases hj:j > i
 ·rw [if_pos hj,if_pos hj];exact⟨_,rfl⟩
 ·rw [if_neg hj,if_neg hj];exact⟨_,rfl⟩
theorem km(hc:X.calm=true):cz X (.builtin "min") (fun xs H Q=>∃i j,xs=[.int i,.int j]∧Q (.int (if j < i then j else i)) H):=by
 intro pins s σ H xs us Q I r h;obtain⟨i,j,rfl,q⟩:=h;obtain⟨u,w',rfl,⟨t,rfl⟩,⟨t',rfl⟩⟩:=pL r;refine min_two_ints (I.ok.hd hc) fun h' tk k=>⟨_,H,I.kept k,?_,q⟩
 by_cases hj:j < i
 ·rw [if_pos hj,if_pos hj];exact⟨_,rfl⟩
 ·rw [if_neg hj,if_neg hj];exact⟨_,rfl⟩
theorem vU:cz X (.type "int") (fun xs H Q=>(∃i,xs=[.int i]∧Q (.int i) H)∨∃k,xs=[.bl k]∧Q (.int (if k then 1 else 0)) H):=by
 intro pins s σ H xs us Q I r h;rcases h with⟨i,rfl,q⟩ | ⟨k,rfl,q⟩
 ·obtain⟨u,rfl,t,rfl⟩:=eF r
  exact call_int_int ⟨.int i,H,I,⟨_,rfl⟩,q⟩
 ·obtain⟨u,rfl,r1⟩:=eF r
  cases r1;exact call_int_bool ⟨.int (if k then 1 else 0),H,I.tok _,⟨_,rfl⟩,q⟩
theorem call_str_int:cz X (.type "str") (fun xs H Q=>∃i,xs=[.int i]∧i.natAbs.log2 < 1920∧Q (.str (toString i)) H):=by
 intro pins s σ H xs us Q I r h;obtain⟨i,rfl,hz,q⟩:=h;obtain⟨u,rfl,t,rfl⟩:=eF r;exact PySem.P.str_of_int hz ⟨.str _,H,I.tok _,⟨_,rfl⟩,q⟩
theorem lG:cz X (.builtin "divmod") (fun xs H Q=>∃i j,xs=[.int i,.int j]∧Dv i j∧∀p,H p=none→Q (.ref p) (upd H p (.tup [.int (i / j),.int (i % j)]))):=by
 intro pins s σ H xs us Q I r h;obtain⟨i,j,rfl,⟨h1,h2⟩,q⟩:=h;obtain⟨u,w',rfl,⟨t,rfl⟩,⟨t',rfl⟩⟩:=pL r;refine divmod_int (by omega) ?_ (.inl (PyProof.noPylong_small (by omega)));rw [aj6 i (by omega),aj7 i (by omega)];have hn:H s.heap.objs.size=none:=I.hok.fresh (aa7 _);refine⟨.ref s.heap.objs.size,_,?_,rfl,q _ hn⟩;refine I.laid (fun b o e=>aa3 _ e) (aa7 _) ⟨by simp only [ac2,af1];rw [sizeLine_eq];decide,[.int (i / j) s.toks,.int (i % j) (s.toks+1)],.cons ⟨_,rfl⟩ (.cons ⟨_,rfl⟩ .nil),?_⟩;exact⟨_,ab9 s.heap rfl,rfl,0,rfl⟩
end
end L2
namespace L2
open PySem PySem.Spec PyProof.Rows
structure tG(h:Heap)(x dx C:Addr)(mA:Str→Option Value):Prop where
 obj:h.get? x=some (instObj C dx)
 ns:h.Ns1 dx mA
 ne:dx≠x
theorem wL{h:Heap}{dx:Addr}{mA:Str→Option Value}(n:h.Ns1 dx mA):∃od,h.get? dx=some od∧∀name,PySem.W.lookIn name od=some (mA name):=by
 obtain⟨o,es,ep,ho,hd,hk,_,hm⟩:=n;refine⟨o,ho,fun name=>?_⟩;have e:=hm name;unfold nsFind findBy at e;rw [←Array.find?_toList]at e;unfold PySem.W.lookIn;rw [hd];dsimp only
 split
 ·rename_i y q
  rw [q]at e;exact congrArg some e
 ·rename_i q
  rw [q]at e
  have a:es.toList.any (·.refKey)=false:=by
   rw [List.any_eq_false];intro y hy;obtain⟨z,t,hkey⟩:=hk y (Array.mem_toList_iff.mp hy);simp [DictEntry.refKey,hkey]
  have a':¬es.toList.any (·.refKey)=true:=by rw [a];exact aa4
  rw [if_neg a'];exact congrArg some e
theorem tG.look{h:Heap}{x dx C:Addr}{mA:Str→Option Value}(I:tG h x dx C mA):∃od,PySem.W.InstAt h x (instObj C dx) C (some od)∧∀name,PySem.W.lookIn name od=some (mA name):=
 let ⟨od,ho,hl⟩:=wL I.ns
 ⟨od,⟨I.obj,rfl,rfl,ho⟩,hl⟩
section
variable {prog:Program} {w:World} {A:Around} {E:Value→Shared→Prop} {s:Shared} {K:Frag} {x dx C f:Addr} {mA:Str→Option Value} {name:Str} {v:Value}
theorem Aj{expr:Bool}{Q:Value→Shared→Prop}(X:K.In s.heap)(I:tG s.heap x dx C mA)(hg:PySem.W.plainGet K C name=true)(hh:PySem.W.hasDictIn K C=true)
  (ha:findIn K (.ref C) name=some none) (hv:mA name=some v) (hv':PySem.W.handedIn v=true) (h:Q v { s with toks:=s.toks+1 }) :
  wpAny (model prog w) A (getAttr (.ref x) name expr) Q E s:=by
 obtain⟨od,J,hl⟩:=I.look;exact PySem.W.get_value X J (PySem.W.plainGet_of hg).1 (PySem.W.findObj_own hh ha rfl (by rw [hl,hv])) hv' h
theorem yh{pl:Sem Bool}{Q:Value×List Value→Shared→Prop}(X:K.In s.heap)(I:tG s.heap x dx C mA)(hg:PySem.W.plainGet K C name=true)
  (hf:findIn K (.ref C) name=some (some (.ref f))) (ht:isFn K (.ref f)=true) (hv:mA name=none) (h:Q (.ref f,[.ref x]) s) :
  wpAny (model prog w) A (getMethod (.ref x) name pl) Q E s:=by
 obtain⟨od,J,hl⟩:=I.look
 exact PySem.W.method_fn X J (PySem.W.plainGet_of hg).1 (PySem.W.plainGet_of hg).2 hf (beq_iff_eq.mp ht) (by show(PySem.W.lookIn name od).map (·.isSome)=some false;rw [hl,hv];rfl) h
theorem Bm{ns:List Str}{Q:Unit→Shared→Prop}(X:K.In s.heap)(I:tG s.heap x dx C mA)
  (hs:findIn K (.ref C) "__setattr__"=some (some (.builtin "object.__setattr__"))) (hp:PySem.W.plainOver K C=true) (ht:PySem.W.takerIn K C name=some none) (hh:PySem.W.hasDictIn K C=true)
  (hw:PySem.Within mA ns) (hsz:ns.length≤sizeLine)
  (h:∀h',tG h' x dx C (fun y=>if y=name then some v else mA y)→Heap.SameBut dx s.heap h'→Q () { s with heap:=h',toks:=s.toks+2 }) :
  wpAny (model prog w) A (setAttr (.ref x) name v) Q E s:=by
 obtain⟨od,J,hl⟩:=I.look;refine PySem.W.set_plain X J hs (PySem.W.osa_open (s:={ s with toks:=s.toks+1 }) (r:=none) X J hp ht fun b=>?_);obtain⟨cd,hc,hd'⟩:=PySem.W.any_some hh;have hx:s.heap.get? x=some ⟨.ref C,some dx,.plain,#[]⟩:=I.obj;refine wpAny_bind (wpAny_pure (wpAny_bind (wpAny_bind (wpAny_loadPart hx (wpAny_bind (PySem.W.Looks.here (s:={ s with toks:=s.toks+1 }) (PySem.W.looks_clsIn X hc) ?_))))));rw [hd'];refine wpAny_pure (a:=some dx) (wpAny_bind (wpAny_pure (wpAny_bind ?_)));refine wpAny_nsSet1 (s:={ s with toks:=s.toks+1 }) I.ns fun h' hn2 hs2=>?_;obtain⟨oD,esD,epD,hoD,hdD,hcD⟩:=hn2.count (PySem.Within.cons name v hw);refine wpAny_bind (wpAny_lookBehind hoD (by rw [hdD];exact pastItsLine_dict (ab8 hcD (by rw [ac2];omega))) ?_);exact wpAny_pure (h _ ⟨(hs2.2 _ (Ne.symm I.ne)).trans I.obj,hn2,I.ne⟩ hs2)
theorem yD{R:Result→Shared→Prop}{vs:List Value}{kw:List (Str×Value)}(X:K.In s.heap)(hm:PySem.W.makesIn K C=true)
  (hi:findIn K (.ref C) "__init__"=some (some (.ref f))) (hf:PySem.W.typeIn K (.ref f)=some (.type "function"))
  (h:codeAny (model prog w) (A.under (.builtin "type.__call__" ⟨.ref C::vs,kw⟩)) (.call (.ref f) ⟨.ref (s.heap.objs.size+1)::vs,kw⟩) (PySem.W.InitBack (s.heap.objs.size+1) R)
   { s with heap:=(s.heap.push emptyDict).push (instObj C s.heap.objs.size) }) :
  codeAny (model prog w) A (.call (.ref C) ⟨vs,kw⟩) R s:=by
 obtain⟨hh,g,d,t,os⟩:=s;exact PySem.W.make_core (PySem.W.makes_of X hm) (PySem.W.looks_findIn X hi) (fun self=>PySem.W.bind_fn X self hf) (.inl rfl) h
end
def bO(f:Str)(v:V):List (Str×V)→List (Str×V)
 | []=>[(f,v)]
 | (g,x)::r=>if g=f then(g,v)::r else(g,x)::bO f v r
theorem hV(f g:Str)(v:V):∀fs:List (Str×V),(bO f v fs).lookup g=if g=f then some v else fs.lookup g
 | []=>by
  show List.lookup g [(f,v)]=_
  by_cases h:g=f
  ·have hb:(g == f)=true:=beq_iff_eq.mpr h
   simp only [List.lookup,hb,if_pos h]
  ·have hb:(g == f)=false:=beq_eq_false_iff_ne.mpr h
   simp only [List.lookup,hb,if_neg h]
 | (k,x)::r=>by
  have ih:=hV f g v r;rw [show bO f v ((k,x)::r)=(if k=f then(k,v)::r else(k,x)::bO f v r)from rfl]
  by_cases hk:k=f
  ·rw [if_pos hk]
   by_cases h:g=k
   ·have hb:(g == k)=true:=beq_iff_eq.mpr h
    simp only [List.lookup,hb,if_pos (h.trans hk)]
   ·have hb:(g == k)=false:=beq_eq_false_iff_ne.mpr h
    simp only [List.lookup,hb,if_neg (fun e:g=f=>h (e.trans hk.symm))]
  ·rw [if_neg hk]
   by_cases h:g=k
   ·have hb:(g == k)=true:=beq_iff_eq.mpr h
    simp only [List.lookup,hb,if_neg (fun e:g=f=>hk (h.symm.trans e))]
   ·have hb:(g == k)=false:=beq_eq_false_iff_ne.mpr h
    simp only [List.lookup,hb];exact ih
theorem kz(f:Str)(v:V):∀fs:List (Str×V),f∈(bO f v fs).map (·.1)∧∀g,g∈fs.map (·.1)→g∈(bO f v fs).map (·.1)
 | []=>⟨by simp [bO],fun g h=>by simp at h⟩
 | (k,x)::r=>by
  obtain⟨i1,i2⟩:=kz f v r;rw [show bO f v ((k,x)::r)=(if k=f then(k,v)::r else(k,x)::bO f v r)from rfl]
  by_cases hk:k=f
  ·rw [if_pos hk]
   subst hk;exact⟨by simp,fun g h=>by simpa using h⟩
  ·rw [if_neg hk]
   refine⟨?_,fun g h=>?_⟩
   ·rw [ad2]
    exact ac9 _ i1
   ·rw [ad2]at h ⊢
    rcases aa6.mp h with e | e
    ·exact aa6.mpr (.inl e)
    ·exact ac9 _ (i2 g e)
theorem bT(f:Str)(v:V):∀fs:List (Str×V),(bO f v fs).length≤fs.length+1
 | []=>by simp [bO]
 | (k,x)::r=>by
  have ih:=bT f v r;rw [show bO f v ((k,x)::r)=(if k=f then(k,v)::r else(k,x)::bO f v r)from rfl]
  by_cases hk:k=f
  ·rw [if_pos hk,ac2,ac2];omega
  ·rw [if_neg hk,ac2,ac2];omega
theorem kh.some_of{v:V}{o:Option Value}(r:kh (some v) o):∃u,o=some u∧aN v u:=by
 cases o with
 | none=>exact(show False from r).elim
 | some u=>exact⟨u,rfl,r⟩
theorem kh.none_of{o:Option Value}(r:kh none o):o=none:=by
 cases o with
 | none=>rfl
 | some u=>exact(show False from r).elim
theorem pk{v:V}{u:Value}(r:aN v u):PySem.W.handedIn u=true:=by
 cases v with
 | non=>cases(show u=Value.none from r);rfl
 | bl b=>cases(show u=Value.bool b from r);rfl
 | int i=>obtain⟨t,e⟩:=(show ∃t,u=Value.int i t from r);cases e;rfl
 | str x=>obtain⟨t,e⟩:=(show ∃t,u=Value.str x t from r);cases e;rfl
 | byt b=>obtain⟨t,e⟩:=(show ∃t,u=Value.bytes b t from r);cases e;rfl
 | flt b=>obtain⟨t,e⟩:=(show ∃t,u=Value.float b t from r);cases e;rfl
 | ref a=>cases(show u=Value.ref a from r);rfl
 | ty n=>cases(show u=Value.type n from r);rfl
section
variable {P:Program} {w:World} {H H':Hp} {h h':Heap} {a C dx:Addr} {fs fs':List (Str×V)}
theorem mi(hok:i6 P w H h)(e:H a=some (.ins C dx fs)):∃mA,tG h a dx C mA∧(∀f,kh (fs.lookup f) (mA f))∧PySem.Within mA (fs.map (·.1))∧fs.length≤1000∧H dx=some (.own a):=by
 obtain⟨d,z,ne,ob,mA,n,r,q⟩:=(show di P w H h a (.ins C dx fs)from hok a _ e);exact⟨mA,⟨ob,n,ne⟩,r,q,z,d⟩
end
structure nT(K:Frag)(C:Addr):Prop where
 pg:PySem.W.plainGet K C Str.empty=true
 hd:PySem.W.hasDictIn K C=true
 po:PySem.W.plainOver K C=true
 sa:findIn K (.ref C) "__setattr__"=some (some (.builtin "object.__setattr__"))
theorem nT.get{K:Frag}{C:Addr}(c:nT K C)(f:Str):PySem.W.plainGet K C f=true:=c.pg
def NoAttr(K:Frag)(C:Addr)(f:Str):Prop:=findIn K (.ref C) f=some none
theorem NoAttr.taker{K:Frag}{C:Addr}{f:Str}(n:NoAttr K C f):PySem.W.takerIn K C f=some none:=by
 unfold PySem.W.takerIn;rw [show findIn K (.ref C) f=some none from n];rfl
structure B3(K:Frag)(C:Addr)(m:Str)(f:Addr):Prop where
 at_:findIn K (.ref C) m=some (some (.ref f))
 fn:isFn K (.ref f)=true
 kp:keepIn K (.ref f)=true
section
variable {X:Cx} {pins:List (Addr×Obj)} {σ:St} {H:Hp} {s:Shared} {a C dx:Addr} {fs:List (Str×V)} {f:Str} {v:V} {A:Around} {E:Value→Shared→Prop}
theorem tV{b:Bool}{Q:Value→Shared→Prop}(I:aK X pins σ H s)(e:H a=some (.ins C dx fs))(c:nT X.K C)(n:NoAttr X.K C f)(l:fs.lookup f=some v)
  (h:∀u s',aK X pins σ H s'→aN v u→Q u s'):wpAny (model X.prog X.w) A (getAttr (.ref a) f b) Q E s:=by
 obtain⟨mA,O,r,_,_,_⟩:=mi I.hok e;obtain⟨u,hu,ru⟩:=kh.some_of (v:=v) (o:=mA f) (by rw [←l];exact r f);exact Aj I.kIn O (c.get f) c.hd n hu (pk ru) (h u _ (I.tok _) ru)
theorem mO{m:Str}{g:Addr}{pl:Sem Bool}{Q:Value×List Value→Shared→Prop}(I:aK X pins σ H s)(e:H a=some (.ins C dx fs))(c:nT X.K C)(k:B3 X.K C m g)(l:fs.lookup m=none)
  (h:Q (.ref g,[.ref a]) s):wpAny (model X.prog X.w) A (getMethod (.ref a) m pl) Q E s:=by
 obtain⟨mA,O,r,_,_,_⟩:=mi I.hok e;have hn:mA m=none:=kh.none_of (by rw [←l];exact r m);exact yh I.kIn O (c.get m) k.at_ k.fn hn h
theorem uD{y:V}{u:Value}{Q:Unit→Shared→Prop}(I:aK X pins σ H s)(e:H a=some (.ins C dx fs))(c:nT X.K C)(n:NoAttr X.K C f)(hl:fs.length < 1000)(ry:aN y u)
  (h:∀s',aK X pins σ (upd H a (.ins C dx (bO f y fs))) s'→Q () s'):wpAny (model X.prog X.w) A (setAttr (.ref a) f u) Q E s:=by
 obtain⟨mA,O,r,wi,_,ho⟩:=mi I.hok e
 have hz:(fs.map (·.1)).length≤sizeLine:=by rw [aa0,sizeLine_eq];omega
 refine Bm I.kIn O c.sa c.po n.taker c.hd wi hz fun h' O' sb=>h _ ?_
 have hd:∃o,h'.get? dx=some o:=let ⟨o,_,_,e',_⟩:=O'.ns;⟨o,e'⟩
 refine I.write (x:=a) (e:=dx) (by rw [e];exact True.intro) (.inr ho) (fun b q hb z=>(sb.2 b hb).trans z) hd ?_;refine⟨by rw [ak O.ne];exact ho,?_,O.ne,O'.obj,_,O'.ns,fun g=>?_,fun g hg=>?_⟩
 ·have:=bT f y fs;omega
 ·show kh ((bO f y fs).lookup g) (if g=f then some u else mA g)
  rw [hV]
  by_cases q:g=f
  ·rw [if_pos q,if_pos q];exact ry
  ·rw [if_neg q,if_neg q];exact r g
 ·by_cases q:g=f
  ·rw [q];exact(kz f y fs).1
  ·refine(kz f y fs).2 g (wi g fun z=>hg ?_)
   show(if g=f then some u else mA g)=none;rw [if_neg q];exact z
theorem aK.made(I:aK X pins σ H s):aK X pins σ (upd (upd H s.heap.objs.size (.own (s.heap.objs.size+1))) (s.heap.objs.size+1) (.ins C s.heap.objs.size []))
  { s with heap:=(s.heap.push emptyDict).push (instObj C s.heap.objs.size) }:=by
 have e1:(s.heap.push emptyDict).get? s.heap.objs.size=some emptyDict:=ab9 s.heap rfl
 have e2:((s.heap.push emptyDict).push (instObj C s.heap.objs.size)).get? (s.heap.objs.size+1)=some (instObj C s.heap.objs.size):=by
  have:=ab9 (s.heap.push emptyDict) (o:=instObj C s.heap.objs.size) rfl
  rwa [ag9]at this
 have e3:(s.heap.push emptyDict).Ns s.heap.objs.size (fun _=>none):=⟨emptyDict,#[],_,e1,rfl,(fun e he=>absurd he (by simp)),fun _=>rfl⟩;have I1:=I.laid (a:=s.heap.objs.size) (o:=.own (s.heap.objs.size+1)) (h':=s.heap.push emptyDict) (t':=s.toks) (fun b u q=>aa3 _ q) (aa7 _) ⟨_,e1⟩;refine I1.laid (a:=s.heap.objs.size+1) (o:=.ins C s.heap.objs.size []) (t':=s.toks) (fun b u q=>aa3 _ q) (Nat.le_of_eq (ag9 _ _)) ?_;have ne:s.heap.objs.size≠s.heap.objs.size+1:=ab5 (af9 _);refine⟨by rw [ak ne,ag],ac0 _,ne,e2,fun _=>none,(Heap.Ns1.of_empty e3).at fun o q=>aa3 _ q,fun _=>True.intro,fun y hy=>absurd rfl hy⟩
theorem vd{prog:Program}{w:World}{env:Env}{e:Expr}{f:Str}{pos:Pos}{s:Shared}{Q:Value→Shared→Prop}(hb:attributeBase e f env (eval e env)=eval e env)
  (h:wpAny (model prog w) A (eval e env) (fun o s₁=>wpAny (model prog w) A (getAttr o f true) Q E s₁) E s):wpAny (model prog w) A (eval (.Attribute e f pos) env) Q E s:=
 Attribute_any_ h (by rw [arm_eval_Attribute,hb])
end
def Ek(K:Frag)(ta:TE)(f:Str):TE:=fun σ H Q=>ta σ H fun x H1=>∃a C dx fs v,x=.ref a∧H1 a=some (.ins C dx fs)∧nT K C∧NoAttr K C f∧fs.lookup f=some v∧Q v H1
def Ei(K:Frag)(ta tv:TE)(f:Str):TS:=fun D σ H=>tv σ H fun y H1=>ta σ H1 fun x H2=>∃a C dx fs,x=.ref a∧H2 a=some (.ins C dx fs)∧nT K C∧NoAttr K C f∧fs.length < 1000∧
 D.nx σ (upd H2 a (.ins C dx (bO f y fs)))
section
variable {X:Cx} {o e value:Expr} {f:Str} {pos pos' tpos:Pos} {ta tv:TE}
theorem aY(he:PE X e ta)(hb:attributeBase e f X.env (eval e X.env)=eval e X.env):PE X (.Attribute e f pos) (Ek X.K ta f):=by
 intro pins s σ H Q I h;refine vd hb (cZ (he pins s σ H _ I h) fun u s1 ⟨x,H1,I1,rx,a,C,dx,fs,v,ex,ea,c,n,l,q⟩=>?_);subst ex;obtain rfl:u=Value.ref a:=rx;exact tV I1 ea c n l fun u' s2 I2 ru=>⟨v,H1,I2,ru,q⟩
theorem bU(ha:PE X o ta)(hv:PE X value tv)(hs:swapsWith value (some (.Attribute o f pos')) pos.line X.env=pure false):PS X (.Assign [.Attribute o f pos'] value pos) (Ei X.K ta tv f):=by
 intro pins s σ H D I h;refine plainObj_wpAny_Assign_Attribute (cZ (hv pins s σ H _ I h) fun u s1 ⟨y,H1,I1,ry,q⟩=>cZ (ha pins s1 σ H1 _ I1 q) fun ov s2 ⟨x,H2,I2,rx,a,C,dx,fs,ex,ea,c,n,l,q2⟩=>?_) hs;subst ex;obtain rfl:ov=Value.ref a:=rx;exact uD I2 ea c n l ry fun s3 I3=>⟨σ,_,I3,q2⟩
end
section
variable {X:Cx} {pins:List (Addr×Obj)} {σ:St} {H:Hp} {s:Shared} {A:Around} {E:Value→Shared→Prop} {Q:Value→Shared→Prop} {c:Value} {b:Bool}
inductive jz(K:Frag)(H:Hp):V→Value→Prop where
 | non:jz K H .non (.type "NoneType")
 | bl (x:Bool):jz K H (.bl x) (.type "bool")
 | int (i:Int):jz K H (.int i) (.type "int")
 | str (x:Str):jz K H (.str x) (.type "str")
 | flt (x:UInt64):jz K H (.flt x) (.type "float")
 | lst {a:Addr} {xs:List V} (e:H a=some (.lst xs)):jz K H (.ref a) (.type "list")
 | frz {a:Addr} {o:Obj} {xs:List V} (e:H a=some (.frz o (.lst xs))):jz K H (.ref a) (.type "list")
 | tup {a:Addr} {xs:List V} (e:H a=some (.tup xs)):jz K H (.ref a) (.type "tuple")
 | dK {a:Addr} {kvs:List (rb×V)} (e:H a=some (.dK kvs)):jz K H (.ref a) (.type "dict")
 | dT {a:Addr} {kvs:List (List rb×V)} (e:H a=some (.dT kvs)):jz K H (.ref a) (.type "dict")
 | ins {a C dx:Addr} {fs:List (Str×V)} (e:H a=some (.ins C dx fs)) (cl:nT K C) (ha:findIn K (.ref C) "__class__"=some (some (.builtin "object.__class__")))
   (hn:PySem.W.specialIn K (.builtin "object.__class__") "__get__"=some (some (.builtin "getset_descriptor.__get__"))) (htk:PySem.W.takesIn K (.builtin "object.__class__")=some true)
   (hm:PySem.W.mroIn K C (.type "object")=some true):jz K H (.ref a) (.ref C)
theorem wJ{x:V}{u t:Value}(I:aK X pins σ H s)(rx:aN x u)(ty:jz X.K H x t)(e:kitOne X.K t c=some b)(h:∀tk,Q (.bool b) { s with toks:=tk }):
  wpAny (model X.prog X.w) A (call (.builtin "isinstance") [u,c]) Q E s:=by
 cases ty with
 | non=>cases(show u=Value.none from rx);exact kia_one PySem.W.kitx_none I.kIn True.intro e (fun z=>nomatch z) h
 | bl y=>cases(show u=Value.bool y from rx);exact kia_one PySem.W.kitx_bool I.kIn True.intro e (fun z=>nomatch z) h
 | int i=>obtain⟨t,q⟩:=(show ∃t,u=Value.int i t from rx);cases q;exact kia_one PySem.W.kitx_int I.kIn True.intro e (fun z=>nomatch z) h
 | str y=>obtain⟨t,q⟩:=(show ∃t,u=Value.str y t from rx);cases q;exact kia_one PySem.W.kitx_str I.kIn True.intro e (fun z=>nomatch z) h
 | flt y=>obtain⟨t,q⟩:=(show ∃t,u=Value.float y t from rx);cases q;exact kia_one PySem.W.kitx_float I.kIn True.intro e (fun z=>nomatch z) h
 | @lst a xs ea=>
  cases(show u=Value.ref a from rx);obtain⟨_,_,n,_,h1⟩:=(show di X.prog X.w H s.heap a (.lst xs)from I.hok a _ ea);exact kia_one PySem.W.kitx_list I.kIn ⟨_,h1,rfl⟩ e (fun z=>nomatch z) h
 | @frz a ob xs ea=>
  cases(show u=Value.ref a from rx);obtain⟨_,_,_,n,_,h1⟩:=(show di X.prog X.w H s.heap a (.frz ob (.lst xs))from I.hok a _ ea);exact kia_one PySem.W.kitx_list I.kIn ⟨_,h1,rfl⟩ e (fun z=>nomatch z) h
 | @tup a xs ea=>
  cases(show u=Value.ref a from rx);obtain⟨_,_,_,p⟩:=(show di X.prog X.w H s.heap a (.tup xs)from I.hok a _ ea);obtain⟨o,h1,h2,_⟩:=p;exact kia_one PySem.W.kitx_tuple I.kIn ⟨o,h1,h2⟩ e (fun z=>nomatch z) h
 | @dK a kvs ea=>
  cases(show u=Value.ref a from rx);obtain⟨_,_,vs,_,p⟩:=(show di X.prog X.w H s.heap a (.dK kvs)from I.hok a _ ea);obtain⟨o,es,ep,h1,h2,_⟩:=p;exact kia_one PySem.W.kitx_dict I.kIn ⟨o,h1,h2.1⟩ e (fun z=>nomatch z) h
 | @dT a kvs ea=>
  cases(show u=Value.ref a from rx);obtain⟨_,_,xs,_,o,es,ep,h1,h2,_⟩:=(show di X.prog X.w H s.heap a (.dT kvs)from I.hok a _ ea);exact kia_one PySem.W.kitx_dict I.kIn ⟨o,h1,h2.1⟩ e (fun z=>nomatch z) h
 | @ins a C dx fs ea cl ha hn htk hm=>
  cases(show u=Value.ref a from rx);obtain⟨mA,O,_⟩:=mi I.hok ea;obtain⟨od,J,_⟩:=O.look;exact kia_one (PySem.W.kitx_own (cl.get _) cl.hd ha hn htk hm) I.kIn J e (fun z=>nomatch z) h
end
end L2
namespace L2
open PySem PySem.Spec PyProof.Rows
structure dn(k:Nat)(A:Around):Prop where
 hd:A.handled=none
 dp:A.depth+3 * k+5 < recursionLimit
 un:A.units+16 * k+200 < cLine
theorem dn.mono{j k:Nat}{A:Around}(r:dn k A)(h:j≤k):dn j A:=⟨r.hd,by have:=r.dp;omega,by have:=r.un;omega⟩
theorem dn.deeper{k:Nat}{A:Around}(r:dn (k+1) A)(env:Env):dn k (A.deeper env):=
 ⟨r.hd,by have:=r.dp;show A.depth+1+3 * k+5 < _;omega,by have:=r.un;show A.units+3+16 * k+200 < _;omega⟩
theorem tZ{A:Around}{C:Addr}{us:List Value}{kw:List (Str×Value)}:(A.under (.builtin "type.__call__" ⟨.ref C::us,kw⟩)).depth=A.depth+1:=by
 first | rfl | simp [Around.under,Code.weight,Code.isCreation,Code.isGuard,Code.isCaller,Code.frames,Code.isFrame,guardIds]
theorem t4{A:Around}{C:Addr}{us:List Value}{kw:List (Str×Value)}:(A.under (.builtin "type.__call__" ⟨.ref C::us,kw⟩)).units=A.units+1:=by
 first | rfl | simp [Around.under,Code.cUnits,Code.frames,Code.isFrame]
theorem dn.make{k:Nat}{A:Around}(r:dn (k+1) A)(C:Addr)(us:List Value)(kw:List (Str×Value)):dn k (A.under (.builtin "type.__call__" ⟨.ref C::us,kw⟩)):=
 ⟨r.hd,by have:=r.dp;rw [tZ];omega,by have:=r.un;rw [t4];omega⟩
theorem dn.depth{k:Nat}{A:Around}(r:dn k A):A.depth < recursionLimit:=by have:=r.dp;omega
theorem dn.units{k:Nat}{A:Around}(r:dn k A):A.units+64 < cLine:=by have:=r.un;omega
def zF:TA:=fun _ H Q=>Q [] H
def vM(ta:TE)(tr:TA):TA:=fun σ H Q=>ta σ H fun x H1=>tr σ H1 fun xs H2=>Q (x::xs) H2
section
variable {X:Cx} {e:Expr} {es:List Expr} {te:TE} {t:TA} {pos:Pos}
theorem ah:PA X [] zF:=fun _ _ _ _ H Q I h=>Calls.spliced_nil ⟨[],H,I,.nil,h⟩
theorem af(ha:PE X e te)(hr:PA X es t)(hs:starEach (e::es) X.env=(false,eval e X.env)::starEach es X.env:=by rfl):PA X (e::es) (vM te t):=by
 intro pos pins s σ H Q I h;rw [hs];show wpAny _ _ (spliced ((false,eval e X.env)::backTo pos (starEach es X.env))) _ _ s;refine Calls.spliced_cons (cZ (ha pins s σ H _ I h) fun u s1 ⟨x,H1,I1,r1,q1⟩=>?_);exact cZ (hr pos pins s1 σ H1 _ I1 q1) fun us s2 ⟨xs,H2,I2,r2,q2⟩=>⟨x::xs,H2,I2,.cons r1 r2,q2⟩
def Eo(t:TA):TE:=fun σ H Q=>t σ H fun xs H1=>xs.length≤sizeLine∧∀p,H1 p=none→Q (.ref p) (upd H1 p (.tup xs))
def Em(t:TA):TE:=fun σ H Q=>t σ H fun xs H1=>xs.length≤sizeLine∧∀p,H1 p=none→Q (.ref p) (upd H1 p (.lst xs))
theorem cH{x1}(h:PA X es t):PE X (.Tuple es x1 pos) (Eo t):=by
 intro pins s σ H Q I hq;refine wpAny_Tuple_spliced (cZ (h pos pins s σ H _ I hq) fun us s1 ⟨xs,H1,I1,r,z,q⟩=>⟨by rw [←r.length];exact z,?_⟩);have hf:H1 s1.heap.objs.size=none:=I1.hok.fresh (aa7 _);refine⟨.ref s1.heap.objs.size,upd H1 s1.heap.objs.size (.tup xs),I1.laid (t':=s1.toks) (fun b u e=>aa3 _ e) (aa7 _) ?_,rfl,q _ hf⟩;exact⟨z,us,r,⟨_,ab9 _ rfl,rfl,_,rfl⟩⟩
theorem d0(h:PA X es t):PE X (.List es pos) (Em t):=by
 intro pins s σ H Q I hq;refine wpAny_List_spliced (cZ (h pos pins s σ H _ I hq) fun us s1 ⟨xs,H1,I1,r,z,q⟩=>⟨by rw [←r.length];exact z,?_⟩);have hf:H1 s1.heap.objs.size=none:=I1.hok.fresh (aa7 _);refine⟨.ref s1.heap.objs.size,upd H1 s1.heap.objs.size (.lst xs),I1.laid (t':=s1.toks) (fun b u e=>aa3 _ e) (aa7 _) ?_,rfl,q _ hf⟩;exact⟨z,us,0,r,ab9 _ rfl⟩
end
abbrev Sp:=List V→Hp→VK→XK→Prop
abbrev rg:=List Env→Hp→Shared→XK→Value→Shared→Prop
structure tF(P:Program)(w:World)(K:Frag)(mg:Str→Option Value)(base:Heap)(A:Around)(outer:List Env)(s:Shared)(H:Hp):Prop where
 frames:A.frames=some outer
 mod:Mod K mg base
 bs:∀b o,base.get? b=some o→s.heap.get? b=some o∧H b=none
 bsz:base.objs.size≤s.heap.objs.size
 funs:s.heap.FunFrames base outer
 frf:∀b∈mh outer,H b=none
 hok:i6 P w H s.heap
 bare:AllBare s.gens
def CE(outer:List Env)(P:Program)(w:World)(H:Hp)(s:Shared)(Q:VK)(u:Value)(s':Shared):Prop:=
 ∃v H',s'.os=s.os∧AllBare s'.gens∧Un (mh outer) [] H H' s.heap s'.heap∧i6 P w H' s'.heap∧aN v u∧Q v H'
def CR(CX:rg)(outer:List Env)(P:Program)(w:World)(H:Hp)(s:Shared)(Q:VK)(E:XK)(r:Result)(s':Shared):Prop:=
 match r with
 | .ok (.ret u)=>CE outer P w H s Q u s'
 | .ok _=>False
 | .error e=>CX outer H s E e s'
structure aH(P:Program)(w:World)(K:Frag)(mg:Str→Option Value)(base:Heap)(CX:rg)(k:Nat)(f:Addr)(fd:FuncData)(ps:List Str)(sp:Sp):Prop where
 len:∀vs H Q E,sp vs H Q E→vs.length=ps.length
 run:∀(A:Around) (outer:List Env) (s:Shared) (H:Hp) (args:Args) (us:List Value) (vs:List V) (Q:VK) (E:XK),dn k A→tF P w K mg base A outer s H→BindsTo s fd args (ps.zip us)→aV vs us→sp vs H Q E→
  codeAny (model P w) A (.call (.ref f) args) (CR CX outer P w H s Q E) s
theorem aH.mono{P:Program}{w:World}{K:Frag}{mg:Str→Option Value}{base:Heap}{CX:rg}{j k:Nat}{f:Addr}{fd:FuncData}{ps:List Str}{sp:Sp}(F:aH P w K mg base CX j f fd ps sp)(h:j≤k):
  aH P w K mg base CX k f fd ps sp:=⟨F.len,fun A outer s H args us vs Q E hr=>F.run A outer s H args us vs Q E (hr.mono h)⟩
theorem aH.imp{P:Program}{w:World}{K:Frag}{mg:Str→Option Value}{base:Heap}{CX:rg}{k:Nat}{f:Addr}{fd:FuncData}{ps:List Str}{sp sp':Sp}(F:aH P w K mg base CX k f fd ps sp)
  (h:∀vs H Q E,sp' vs H Q E→sp vs H Q E):aH P w K mg base CX k f fd ps sp':=
 ⟨fun vs H Q E q=>F.len vs H Q E (h _ _ _ _ q),fun A outer s H args us vs Q E hr he hb hv hs=>F.run A outer s H args us vs Q E hr he hb hv (h _ _ _ _ hs)⟩
theorem tF.make{P:Program}{w:World}{K:Frag}{mg:Str→Option Value}{base:Heap}{A:Around}{outer:List Env}{s:Shared}{H:Hp}(e:tF P w K mg base A outer s H)(C:Addr)(us:List Value)(kw:List (Str×Value)):
  tF P w K mg base (A.under (.builtin "type.__call__" ⟨.ref C::us,kw⟩)) outer s H:=⟨by first | exact e.frames | (simpa [Around.under,Code.envs,Code.isFrame,pushEnvs]using e.frames),e.mod,e.bs,e.bsz,e.funs,e.frf,e.hok,e.bare⟩
section
variable {X:Cx} {pins:List (Addr×Obj)} {σ:St} {H:Hp} {s s':Shared}
theorem aK.env0(I:aK X pins σ H s):tF X.prog X.w X.K X.mg X.base X.A X.stack s H:=
 ⟨I.ok.frames,I.ok.mod,I.bs,ab8 I.ok.bsz I.sz,I.stack,I.stkFree,I.hok,I.bare⟩
theorem aK.after{Q:VK}{u:Value}(I:aK X pins σ H s)(h:CE X.stack X.prog X.w H s Q u s'):EP X pins σ Q u s':=by
 obtain⟨v,H',os,bare,un,hok,r,q⟩:=h;obtain⟨hh,g,d,t,os'⟩:=s';obtain rfl:os'=s.os:=os;exact⟨v,H',I.call (h':=hh) (g':=g) (d':=d) (t':=t) (ch:=[]) un hok bare (fun b z=>absurd z (by simp)),r,q⟩
end
def nP(sp:Sp)(dvs:List V)(E:XK)(t:TA):TE:=fun σ H Q=>t σ H fun vs H1=>sp (vs++dvs) H1 Q E
def zE(C:Addr)(sp:Sp)(dvs:List V)(E:XK)(t:TA):TE:=fun σ H Q=>t σ H fun vs H1=>∀x dx,H1 x=none→H1 dx=none→dx≠x→
 sp (.ref x::(vs++dvs)) (upd (upd H1 dx (.own x)) x (.ins C dx [])) (fun v H2=>v=.non∧Q (.ref x) H2) E
def dF(K:Frag)(fd:FuncData)(ps:List Str)(ds:List Value):Prop:=
 ∀(s:Shared) (us:List Value),K.In s.heap→(us++ds).length=ps.length→BindsTo s fd ⟨us,[]⟩ (ps.zip (us++ds))
theorem dF.all{K:Frag}{fd:FuncData}{ps:List Str}(h:∀us:List Value,us.length=ps.length→bindArgs fd ⟨us,[]⟩=pure (ps.zip us)):dF K fd ps []:=fun s us _ hl=>by
 rw [af2]at hl ⊢;exact .of_eq (h us hl)
def hG(CX:rg)(X:Cx)(E:XK):Prop:=∀(pins:List (Addr×Obj)) (σ:St) (H:Hp) (s:Shared) (e:Value) (s':Shared),aK X pins σ H s→CX X.stack H s E e s'→X.xe e s'
section
variable {X:Cx} {CX:rg} {k:Nat} {f C:Addr} {fd:FuncData} {ps:List Str} {sp:Sp} {dvs:List V} {ds:List Value} {E:XK} {x m:Str} {p pos apos:Pos} {e o:Expr} {es:List Expr} {ta:TE} {t:TA}
theorem ny{pins:List (Addr×Obj)}{σ:St}{H:Hp}{s:Shared}{Q:VK}{us:List Value}{vs:List V}(F:aH X.prog X.w X.K X.mg X.base CX k f fd ps sp)(hr:dn k X.A)(hb:dF X.K fd ps ds)(hd:aV dvs ds)(hx:hG CX X E)
  (I:aK X pins σ H s) (r:aV vs us) (h:sp (vs++dvs) H Q E):wpAny (model X.prog X.w) X.A (call (.ref f) us) (EP X pins σ Q) X.xe s:=by
 have r2:aV (vs++dvs) (us++ds):=r.append hd
 have hl:(us++ds).length=ps.length:=by rw [←r2.length];exact F.len _ _ _ _ h
 refine wpAny_call (codeAny_mono (F.run X.A X.stack s H ⟨us,[]⟩ (us++ds) (vs++dvs) Q E hr I.env0 (hb s us I.kIn hl) r2 h) fun r s' hq=>?_)
 cases r with
 | error e=>exact hx pins σ H s e s' I hq
 | ok fl=>
  cases fl with
  | ret u=>exact I.after hq
  | next=>exact False.elim hq
  | brk=>exact False.elim hq
  | cont=>exact False.elim hq
theorem qy(F:aH X.prog X.w X.K X.mg X.base CX k f fd ps sp)(hr:dn k X.A)(hg:Gl X x)(hm:X.mg x=some (.ref f))(hk:keepIn X.K (.ref f)=true)(hb:dF X.K fd ps ds)(hd:aV dvs ds)(hx:hG CX X E)
  (ha:PA X (e::es) t) (hdb:(x == ("__debug__":Str))=false:=by decide) (he:starEach (e::es) X.env=(false,eval e X.env)::starEach es X.env:=by rfl) (hpl:(backTo pos (starEach es X.env)).any (·.1)=false:=by rfl) :
  PE X (.Call (.Name x p) (e::es) [] pos) (nP sp dvs E t):=by
 intro pins s σ H Q I h;refine wpAny_Call_Name_kw (iL I hg hm ?_ hdb);refine callWith_K (h₀:=X.base) I.ok.mod.kin hk (cZ (ha pos pins s σ H _ I h) fun us s1 ⟨vs,H1,I1,r,q⟩=>⟨I1.kIn,?_⟩) he hpl;exact ny F hr hb hd hx I1 r q
structure Mk(K:Frag)(C f:Addr):Prop where
 makes:PySem.W.makesIn K C=true
 init:findIn K (.ref C) "__init__"=some (some (.ref f))
 fn:isFn K (.ref f)=true
 kp:keepIn K (.ref C)=true
theorem zj{pins:List (Addr×Obj)}{σ:St}{H:Hp}{s:Shared}{Q:VK}{us:List Value}{vs:List V}(M:Mk X.K C f)(F:aH X.prog X.w X.K X.mg X.base CX k f fd ps sp)(hr:dn (k+1) X.A)(hb:dF X.K fd ps ds)(hd:aV dvs ds)
  (hx:hG CX X E) (I:aK X pins σ H s) (r:aV vs us)
  (h:∀x dx,H x=none→H dx=none→dx≠x→sp (.ref x::(vs++dvs)) (upd (upd H dx (.own x)) x (.ins C dx [])) (fun v H2=>v=.non∧Q (.ref x) H2) E) :
  wpAny (model X.prog X.w) X.A (call (.ref C) us) (EP X pins σ Q) X.xe s:=by
 have hq:=h (s.heap.objs.size+1) s.heap.objs.size (I.hok.fresh (ai7 _)) (I.hok.fresh (aa7 _)) (ab5 (af9 _));have I2:=aK.made (C:=C) I;have r2:aV (V.ref (s.heap.objs.size+1)::(vs++dvs)) (Value.ref (s.heap.objs.size+1)::(us++ds)):=.cons rfl (r.append hd)
 have hl:(Value.ref (s.heap.objs.size+1)::us++ds).length=ps.length:=by
  have e:=r2.length;rw [F.len _ _ _ _ hq]at e;exact e.symm
 refine wpAny_call (yD (f:=f) I.kIn M.makes M.init (beq_iff_eq.mp M.fn) (codeAny_mono (F.run _ X.stack _ _ ⟨Value.ref (s.heap.objs.size+1)::us,[]⟩ (Value.ref (s.heap.objs.size+1)::(us++ds)) _ _ E (hr.make C us [])
  (I2.env0.make C us []) (hb _ (Value.ref (s.heap.objs.size+1)::us) I2.kIn hl) r2 hq) fun r s' hq'=>?_))
 cases r with
 | error e=>exact hx pins σ _ _ e s' I2 hq'
 | ok fl=>
  cases fl with
  | ret u=>
   obtain⟨v,H',I3,rv,ev,q3⟩:=I2.after hq';subst ev;exact⟨rv,⟨V.ref (s.heap.objs.size+1),H',I3,rfl,q3⟩⟩
  | next=>exact False.elim hq'
  | brk=>exact False.elim hq'
  | cont=>exact False.elim hq'
theorem AU(M:Mk X.K C f)(F:aH X.prog X.w X.K X.mg X.base CX k f fd ps sp)(hr:dn (k+1) X.A)(hg:Gl X x)(hm:X.mg x=some (.ref C))(hb:dF X.K fd ps ds)(hd:aV dvs ds)(hx:hG CX X E)
  (ha:PA X (e::es) t) (hdb:(x == ("__debug__":Str))=false:=by decide) (he:starEach (e::es) X.env=(false,eval e X.env)::starEach es X.env:=by rfl) (hpl:(backTo pos (starEach es X.env)).any (·.1)=false:=by rfl) :
  PE X (.Call (.Name x p) (e::es) [] pos) (zE C sp dvs E t):=by
 intro pins s σ H Q I h;refine wpAny_Call_Name_kw (iL I hg hm ?_ hdb);refine callWith_K (h₀:=X.base) I.ok.mod.kin M.kp (cZ (ha pos pins s σ H _ I h) fun us s1 ⟨vs,H1,I1,r,q⟩=>⟨I1.kIn,?_⟩) he hpl;exact zj M F hr hb hd hx I1 r q
end
def PK(X:Cx)(kws:List Keyword)(t:TA):Prop:=
 ∀(pos:Pos) (pins:List (Addr×Obj)) (s:Shared) (σ:St) (H:Hp) (Q:List V→Hp→Prop),aK X pins σ H s→t σ H Q→wpAny (model X.prog X.w) X.A (evalAll ((backToKw pos (keywordEach kws X.env)).map (·.2))) (AP X pins σ Q) X.xe s
section
variable {X:Cx} {CX:rg} {k:Nat} {f C:Addr} {fd:FuncData} {ps ks:List Str} {sp:Sp} {E:XK} {x m:Str} {p pos apos kpos:Pos} {e o:Expr} {es:List Expr} {kws:List Keyword} {te ta:TE} {t tk:TA} {nm:Option Str}
theorem CS:PK X [] zF:=fun _ _ _ _ H Q I h=>wpAny_evalAll_nil ⟨[],H,I,.nil,h⟩
theorem AW(ha:PE X e te)(hr:PK X kws t):PK X (⟨nm,e,kpos⟩::kws) (vM te t):=by
 intro pos pins s σ H Q I h
 show wpAny _ _ (evalAll ((do let v ←eval e X.env;standAt pos;pure v)::(backToKw pos (keywordEach kws X.env)).map (·.2))) _ _ s
 refine wpAny_evalAll_cons (wpAny_bind (cZ (ha pins s σ H _ I h) fun u s1 ⟨x,H1,I1,r1,q1⟩=>wpAny_bind (wpAny_standAt (wpAny_pure ?_))));exact cZ (hr pos pins s1 σ H1 _ I1 q1) fun us s2 ⟨xs,H2,I2,r2,q2⟩=>⟨x::xs,H2,I2,.cons r1 r2,q2⟩
variable {g:List Value→List Value→List Value} {gV:List V→List V→List V}
end
structure ay(N P:List Str)(sc:Scope):Prop where
 kind:sc.kind=.function
 co:sc.isCoroutine=false
 gen:sc.isGenerator=false
 nd:N.Nodup
 pre:N.take P.length=P
 par:∀x∈P,sc.names.lookup x=some .local∨sc.names.lookup x=some .cell
 nofree:∀y∈sc.names,y.2≠.free
theorem oX{kindOf:Str→Option NameKind}{x:Str}:∀{binds:List (Str×Value)} {m:Str→Option Value},(∀v,(x,v)∉binds)→bindL kindOf binds m x=m x
 | [],_,_=>rfl
 | (n,v)::r,m,h=>by
  unfold bindL;rw [oX fun w hw=>h w (ac9 _ hw)]
  split
  ·have:x≠n:=by rintro rfl;exact h v ac3
   simp [this]
  ·rfl
theorem oV{kindOf:Str→Option NameKind}{x:Str}:∀{binds:List (Str×Value)} {m:Str→Option Value},(∀v,(x,v)∉binds)→bindC kindOf binds m x=m x
 | [],_,_=>rfl
 | (n,v)::r,m,h=>by
  unfold bindC;rw [oV fun w hw=>h w (ac9 _ hw)]
  split
  ·rfl
  ·have:x≠n:=by rintro rfl;exact h v ac3
   simp [this]
theorem oW{kindOf:Str→Option NameKind}{x:Str}{v:Value}:∀{P:List Str} {vs:List Value} {i:Nat} {m:Str→Option Value},P.Nodup→P[i]?=some x→vs[i]?=some v→kindOf x=some .local→
  bindL kindOf (P.zip vs) m x=some v
 | [],_,_,_,_,h,_,_=>by simp at h
 | _::_,[],_,_,_,_,h,_=>by simp at h
 | p::P,w::vs,0,m,nd,h1,h2,hk=>by
  simp at h1 h2;subst h1;subst h2;show bindL kindOf ((p,w)::P.zip vs) m p=_;unfold bindL;rw [oX fun v hv=>(ai8.mp nd).1 (ak6 hv).1,if_pos hk];simp
 | p::P,w::vs,i+1,m,nd,h1,h2,hk=>by
  show bindL kindOf ((p,w)::P.zip vs) m x=_;unfold bindL;exact oW (i:=i) (ai8.mp nd).2 (by simpa using h1) (by simpa using h2) hk
theorem oU{kindOf:Str→Option NameKind}{x:Str}{v:Value}:∀{P:List Str} {vs:List Value} {i:Nat} {m:Str→Option Value},P.Nodup→P[i]?=some x→vs[i]?=some v→kindOf x≠some .local→
  bindC kindOf (P.zip vs) m x=some v
 | [],_,_,_,_,h,_,_=>by simp at h
 | _::_,[],_,_,_,_,h,_=>by simp at h
 | p::P,w::vs,0,m,nd,h1,h2,hk=>by
  simp at h1 h2;subst h1;subst h2;show bindC kindOf ((p,w)::P.zip vs) m p=_;unfold bindC;rw [oV fun v hv=>(ai8.mp nd).1 (ak6 hv).1,if_neg hk];simp
 | p::P,w::vs,i+1,m,nd,h1,h2,hk=>by
  show bindC kindOf ((p,w)::P.zip vs) m x=_;unfold bindC;exact oU (i:=i) (ai8.mp nd).2 (by simpa using h1) (by simpa using h2) hk
def start(N:List Str)(vs:List V):St:=vs.map some++List.replicate (N.length - vs.length) none
def kr(CX:rg)(P:Program)(w:World)(K:Frag)(mg:Str→Option Value)(base:Heap)(N:List Str)(qual:Str)(scope:Scope)(f:Addr)(cd:Value)(A:Around)(outer:List Env)(s:Shared)(H:Hp)(E:XK):Cx where
 prog:=P
 w:=w
 K:=K
 mg:=mg
 base:=base
 A:=A.deeper (envOfC qual scope s.heap.objs.size f cd)
 N:=N
 s₀:=s
 H₀:=H
 env:=envOfC qual scope s.heap.objs.size f cd
 outer:=outer
 stack:=envOfC qual scope s.heap.objs.size f cd::outer
 ex:=[]
 calm:=true
 fn:=fun _=>true
 pn:=[]
 xe:=fun e s'=>wpAny (model P w) (A.deeper (envOfC qual scope s.heap.objs.size f cd)) (leaving (envOfC qual scope s.heap.objs.size f cd) e) (fun _ s''=>CX outer H s E e s'') (fun e' s''=>CX outer H s E e' s'') s'
theorem rD{sc:Scope}{n:Nat}{x:Str}(h:sc.names.lookup x=some .cell):∃c,(cellsFrom n sc.names []).lookup x=some c:=by
 have q:=PySem.W.cellsFrom_some sc.names n [] (.inl h);exact Option.isSome_iff_exists.mp q
theorem wI{CX:rg}{P:Program}{w:World}{K:Frag}{mg:Str→Option Value}{base:Heap}{N ps:List Str}{qual:Str}{scope:Scope}{f:Addr}{cd:Value}{A:Around}{outer:List Env}{s s1:Shared}{H:Hp}{E:XK}{us:List Value}{vs:List V}
  (S:ay N ps scope) (hd:A.handled=none) (e0:tF P w K mg base A outer s H) (hl:vs.length=ps.length) (r:aV vs us)
  (x:InCallC s s.heap.objs.size (bindL (envOfC qual scope s.heap.objs.size f cd).kindOf (ps.zip us) fun _=>none) (cellsFrom (s.heap.objs.size+1) scope.names []) (bindC (envOfC qual scope s.heap.objs.size f cd).kindOf (ps.zip us) fun _=>none) s1) :
  aK (kr CX P w K mg base N qual scope f cd A outer s H E) [] (start N vs) H s1:=by
 have hpl:ps.length≤N.length:=by have:=congrArg List.length S.pre;rw [ac6]at this;omega
 obtain⟨h1,tk,rfl,hk⟩:=x.done;have zR:∀b:Addr,b∉(kr CX P w K mg base N qual scope f cd A outer s H E).ex:=fun b z=>absurd (show b∈([]:List Addr)from z) (by simp)
 refine⟨⟨e0.mod,S.kind,rfl,rfl,aa7 _,fun y z c h1 h2=>?_,fun y hy=>?_,fun y c _ h=>?_,fun _=>hd,Around.frames_deeper e0.frames,.inr ⟨rfl,rfl⟩,fun b z=>absurd z (zR b),e0.bs,e0.bsz,fun b _ _=>zR b,fun b z=>absurd z (zR b),e0.funs,e0.frf⟩,
  rfl,e0.bare,Un.kept hk,⟨_,x.toInCall.ns,fun i y v h1 h2 h3=>?_⟩,fun y c h=>⟨_,x.cell y c h⟩,e0.hok.fresh (aa7 _),fun y c h=>?_,fun p hp=>absurd (show p∈([]:List (Addr×Obj))from hp) (by simp),e0.hok.kept hk,?_⟩
 ·exact name_of_addr x.apart (PySem.mem_of_lookup h1) (PySem.mem_of_lookup h2)
 ·have hy:scope.names.lookup y=some .cell∨scope.names.lookup y=some .free:=hy
  rcases hy with hy | hy
  ·exact rD hy
  ·exact absurd rfl (S.nofree _ (PySem.mem_of_lookup hy))
 ·exact ah6 (x.above y c (PySem.mem_of_lookup h))
 ·have hi:i < vs.length:=by
   unfold start at h2
   by_cases hi:i < vs.length
   ·exact hi
   ·rw [ab0 (by simpa using hi)]at h2
    rw [List.getElem?_replicate]at h2
    split at h2<;>cases h2
  have ha:vs[i]?=some v:=by
   unfold start at h2;rw [ab3 (by simpa using hi),aa8]at h2
   cases e:vs[i]? with
   | none=>rw [e]at h2;cases h2
   | some a=>rw [e]at h2;cases h2;rfl
  obtain⟨u,hu,rv⟩:=r.get ha
  have hp:ps[i]?=some y:=by
   rw [←S.pre,List.getElem?_take_of_lt (by omega)];exact h1
  have ndP:ps.Nodup:=by rw [←S.pre];exact S.nd.sublist (List.take_sublist _ _)
  refine⟨u,rv,?_⟩;rcases S.par y (ad1 hp)with k | k
  ·exact .inl ⟨k,oW ndP hp hu k⟩
  ·obtain⟨c,e⟩:=rD (n:=s.heap.objs.size+1) k
   refine .inr ⟨.inl k,c,e,?_⟩;have q:=x.cell y c e;rw [oU ndP hp hu (by show scope.names.lookup y≠_;rw [k];decide)]at q;exact q
 ·exact e0.hok.fresh (ah6 (x.above y c (PySem.mem_of_lookup h)))
 ·unfold start
  show _=N.length;rw [ab4,aa0,List.length_replicate];omega
theorem yf{CX:rg}{P:Program}{w:World}{K:Frag}{mg:Str→Option Value}{base:Heap}{k:Nat}{f:Addr}{name qual:Str}{params:Arguments}{body:List Stmt}{scope:Scope}{dV kV doc pm cdv ct oc:Value}{an od:Option Addr}
  {osl:Array (Option Value)} {N ps:List Str} {sp:Sp} (lk:K.lookup f=some ⟨oc,od,.func (fnOf name qual params body scope dV kV doc pm an cdv ct),osl⟩) (hcd:codeIn K cdv qual=true) (S:ay N ps scope)
  (len:∀vs H Q E,sp vs H Q E→vs.length=ps.length)
  (hbody:∀(A:Around) (outer:List Env) (s:Shared) (H:Hp) (vs:List V) (Q:VK) (E:XK),dn k (A.deeper (envOfC qual scope s.heap.objs.size f cdv))→sp vs H Q E→
   ∃t,tw (kr CX P w K mg base N qual scope f cdv A outer s H E) body t∧t { nx:=fun _ H'=>Q .non H',rt:=Q } (start N vs) H) :
  aH P w K mg base CX (k+1) f (fnOf name qual params body scope dV kV doc pm an cdv ct) ps sp:=by
 refine⟨len,fun A outer s H args us vs Q E hr e0 hb r hsp=>?_⟩;have hl:=len _ _ _ _ hsp;have KX:K.In s.heap:=e0.mod.kin.keeps fun b o e=>(e0.bs b o e).1;have lim:s.heap.NoLimit:=e0.mod.nolimit.keeps fun b o e=>(e0.bs b o e).1
 have hkind:∀y∈ps.zip us,scope.names.lookup y.1=some .local∨(scope.names.lookup y.1=some .cell∧((cellsFrom (s.heap.objs.size+1) scope.names []).lookup y.1).isSome=true):=fun⟨n,v⟩ hy=>by
  rcases S.par n (ak6 hy).1 with q | q
  ·exact .inl q
  ·exact .inr ⟨q,PySem.W.cellsFrom_some _ _ _ (.inl q)⟩
 refine codeAny_call_function hr.depth (KX _ _ lk) rfl S.co S.gen rfl (PySem.W.codeRec_of KX hcd) (hb _ _ _ _ ?_);refine wpAny_newFunctionEnv_cells S.kind hkind fun env he s1 x=>?_;subst he;refine⟨lim.keeps x.toInCall.keep,codeAny_func ?_⟩;obtain⟨t,ht,hq⟩:=hbody A outer s H vs Q E (hr.deeper _) hsp;have I:aK (kr CX P w K mg base N qual scope f cdv A outer s H E) [] (start N vs) H s1:=wI S hr.hd e0 hl r x;refine wpAny_mono (ht [] s1 (start N vs) H _ I hq) (fun fl s' hs=>?_) fun e s' hs=>hs
 have fin:∀{σ':St} {H':Hp} {v:V} {u:Value},aK (kr CX P w K mg base N qual scope f cdv A outer s H E) [] σ' H' s'→aN v u→Q v H'→CE outer P w H s Q u s':=
  fun {σ' H' v u} J rv q=>⟨v,H',J.os,J.bare,J.base,J.hok,rv,q⟩
 cases fl with
 | ret u=>
  obtain⟨v,σ',H',J,rv,q⟩:=hs;exact fin J rv q
 | next=>
  obtain⟨σ',H',J,q⟩:=hs;exact fin (v:=V.non) (u:=Value.none) J rfl q
 | brk=>
  obtain⟨_,_,_,q⟩:=hs;exact False.elim q
 | cont=>
  obtain⟨_,_,_,q⟩:=hs;exact False.elim q
end L2
namespace L2
open PySem PySem.Spec PyProof.Rows
section
variable {X:Cx} {x:Str} {p pos:Pos} {e:Expr} {es:List Expr} {t:TA} {id T:String} {r:List V→Hp→VK→Prop}
def EA(r:List V→Hp→VK→Prop)(t:TA):TE:=fun σ H Q=>t σ H fun vs H1=>r vs H1 Q
theorem aB(hc:cz X (.builtin id) r)(hg:Gl X x)(hm:X.mg x=none)(hv:bootBuiltins x=some (.builtin id))(ha:PA X (e::es) t)(hn:x≠"__name__":=by decide)(hdb:(x == ("__debug__":Str))=false:=by decide)
  (he:starEach (e::es) X.env=(false,eval e X.env)::starEach es X.env:=by rfl) (hpl:(backTo pos (starEach es X.env)).any (·.1)=false:=by rfl):PE X (.Call (.Name x p) (e::es) [] pos) (EA r t):=by
 intro pins s σ H Q I h;refine wpAny_Call_Name_kw (i8 I hg hm hv ?_ hn hdb);exact PyProof.Rows.callWith_builtin1 (cZ (ha pos pins s σ H _ I h) fun us s1 ⟨vs,H1,I1,r1,q1⟩=>hc pins s1 σ H1 vs us Q I1 r1 q1) he hpl
theorem aW(hc:cz X (.type T) r)(hg:Gl X x)(hm:X.mg x=none)(hv:bootBuiltins x=some (.type T))(ha:PA X (e::es) t)(hn:x≠"__name__":=by decide)(hdb:(x == ("__debug__":Str))=false:=by decide)
  (he:starEach (e::es) X.env=(false,eval e X.env)::starEach es X.env:=by rfl) (hpl:(backTo pos (starEach es X.env)).any (·.1)=false:=by rfl):PE X (.Call (.Name x p) (e::es) [] pos) (EA r t):=by
 intro pins s σ H Q I h;refine wpAny_Call_Name_kw (i8 I hg hm hv ?_ hn hdb);exact PyProof.Rows.callWith_type1 (cZ (ha pos pins s σ H _ I h) fun us s1 ⟨vs,H1,I1,r1,q1⟩=>hc pins s1 σ H1 vs us Q I1 r1 q1) he hpl
end
end L2
namespace HT
open PySem PyProof.Rows
def lexLt:List Int→List Int→Bool
 | [],[]=>false
 | [],_::_=>true
 | _::_,[]=>false
 | x::xs,y::ys=>if x=y then lexLt xs ys else decide (x < y)
theorem tY(x y:Int)(xs ys:List Int):lexLt (x::xs) (y::ys)=if x=y then lexLt xs ys else decide (x < y):=rfl
theorem n6:lexLt [] []=false:=rfl
theorem mW(y:Int)(ys:List Int):lexLt [] (y::ys)=true:=rfl
theorem mV(x:Int)(xs:List Int):lexLt (x::xs) []=false:=rfl
theorem yb(A:Around)(s:Shared)(a:Int)(t:Tok)(c:Int)(u:Tok):∃e,SeqAt.EqAt A s (.int a t) (.int c u) e∧(e=true↔a=c):=
 ⟨(a == c),SeqAt.EqAt.int_int a t c u,by simp⟩
theorem zc(A:Around)(s:Shared)(a:Int)(t:Tok)(c:Int)(u:Tok)(prog:Program)(w:World)(E:Value→Shared→Prop)(Q:Value→Shared→Prop)(h:Q (.bool (decide (a < c))) s):
  wpAny (model prog w) A (richCompare .Lt (.int a t) (.int c u)) Q E s:=
 (PyProof.Rows.lt_int h:wpAny (model prog w) A (compareOp .Lt (.int a t) (.int c u)) Q E s)
section
open PySem.SeqAt
open PySem.AutoSeq1 (wpAny_loadPart')
open PySem.MeetsSeq PySem.MeetsSeq2 PySem.MeetsSeq3
theorem oR(l b:Addr)(items items2:Array Value)(n n2:Nat)(dd dd2:Option Addr)(sl sl2:Array (Option Value))(ns ms:List Int)(hi:IntsAre items.toList ns)(hj:IntsAre items2.toList ms):
  Meets (Builtin.«tuple.__lt__» ⟨[.ref l,.ref b],[]⟩)
   (fun _ R s=>s.heap.get? l=some { cls:=.type "tuple",dict:=dd,data:=.seq items n,slots:=sl }∧s.heap.get? b=some { cls:=.type "tuple",dict:=dd2,data:=.seq items2 n2,slots:=sl2 }∧
    R (.ok (.ret (.bool (lexLt ns ms)))) s):=
 .of_wp fun prog w A R s h=>by
  obtain⟨hp,g,d,tk,os⟩:=s;obtain⟨hl,hb,h⟩:=h;have f2:=AutoSeq1.sub_tuple_tuple
  have z1:items.size=ns.length:=by rw [←hi.length];simp
  have z2:items2.size=ms.length:=by rw [←hj.length];simp
  wp_walk using wpAny_loadPart' hl,wpAny_loadPart' hb,wpAny_forIn_list _ (fun rest b s'=>b.1=none∧s'=⟨hp,g,d,tk,os⟩∧∃(vs ws:List Value) (ns' ms':List Int),rest=vs.zip ws∧
   IntsAre vs ns'∧IntsAre ws ms'∧ns'.length+items2.size=ms'.length+items.size∧R (.ok (.ret (.bool (lexLt ns' ms')))) ⟨hp,g,d,tk,os⟩) _
  case turn=>
   rintro⟨y,x⟩ rest b s' ⟨hb',rfl,vs,ws,ns',ms',hz,hvi,hwi,hlen,hR⟩
   cases hvi with
   | nil=>rw [List.zip_nil_left]at hz;cases hz
   | cons a t hvi'=>
    cases hwi with
    | nil=>rw [List.zip_nil_right]at hz;cases hz
    | cons c u hwi'=>
     rw [List.zip_cons_cons]at hz
     injection hz with hyx hrest
     injection hyx with hy hx
     subst hy hx;rw [tY]at hR;simp only [ac2]at hlen;obtain⟨e,he,hiff⟩:=yb A.in1 ⟨hp,g,d,tk,os⟩ a t c u;refine wpAny_bind (he prog w _ _ ?_)
     cases e with
     | true=>
      rw [if_pos (hiff.mp rfl)]at hR
      wp_walk
      exact⟨rfl,rfl,_,_,_,_,hrest,hvi',hwi',by omega,hR⟩
     | false=>
      rw [if_neg (fun q=>absurd (hiff.mpr q) aa4)]at hR;have hri:=zc A.in1 ⟨hp,g,d,tk,os⟩ a t c u prog w
      wp_walk using hri
      exact⟨_,rfl,by simpa using hR⟩
  case fin=>
   rintro⟨b1,b2⟩ s' ⟨hb',rfl,vs,ws,ns',ms',hz,hvi,hwi,hlen,hR⟩;simp only at hb';subst hb'
   have hv:lexLt ns' ms'=decide (items.size < items2.size):=by
    cases hvi with
    | nil=>
     cases hwi with
     | nil=>
      simp only [af1]at hlen;rw [n6];exact(decide_eq_false (by omega)).symm
     | cons c u hw=>
      simp only [af1,ac2]at hlen;rw [mW];exact(decide_eq_true (by omega)).symm
    | cons a t hv=>
     cases hwi with
     | nil=>
      simp only [af1,ac2]at hlen;rw [mV];exact(decide_eq_false (by omega)).symm
     | cons c u hw=>
      rw [List.zip_cons_cons]at hz;cases hz
   rw [hv]at hR
   wp_walk
   exact⟨_,rfl,by simpa [Builtin.Tuple.tupleCompareSizes]using hR⟩
  case h=>
   exact⟨rfl,rfl,items.toList,items2.toList,ns,ms,rfl,hi,hj,by omega,h⟩
end
section
variable {prog:Program} {w:World} {A:Around} {E:Value→Shared→Prop} {s:Shared}
theorem lt_tupInts{l b:Addr}{items items2:Array Value}{ns ms:List Int}{Q:Value→Shared→Prop}(hl:IsTup s.heap l items)(hb:IsTup s.heap b items2)(hi:IntsAre items.toList ns)(hj:IntsAre items2.toList ms)
  (hu:A.units < cLine) (h:Q (.bool (lexLt ns ms)) s):wpAny (model prog w) A (compareOp .Lt (.ref l) (.ref b)) Q E s:=by
 obtain⟨⟨cls,dd,data,sl⟩,ho,hc,n,hd⟩:=id hl;obtain⟨⟨cls2,dd2,data2,sl2⟩,ho2,hc2,n2,hd2⟩:=id hb;simp only at hc hd hc2 hd2;subst hc hd hc2 hd2
 exact richCompare_meets_room (op:=.Lt) ⟨_,ho,rfl⟩ ⟨_,ho2,rfl⟩ PySem.F.slot_tuple_lt PySem.F.entry_tuple_lt (PySem.F.args_tuple_lt_2 _ _) (oR l b items items2 n n2 dd dd2 sl sl2 ns ms hi hj)
  ⟨ho,ho2,show Value.bool (lexLt ns ms)≠Value.notImplemented∧Q (.bool (lexLt ns ms)) s from⟨(fun x=>nomatch x),h⟩⟩ hu
theorem cat_tup{t b:Addr}{vs ws:List Value}{Q:Value→Shared→Prop}(ht:IsTup s.heap t vs.toArray)(hb:IsTup s.heap b ws.toArray)(hv:vs≠[])
  (h1:ws=[]→Q (.ref t) s) (h2:ws≠[]→Q (.ref s.heap.objs.size) { s with heap:=s.heap.push { cls:=.type "tuple",data:=.seq (vs++ws).toArray } })
  (hsz:vs.length+ws.length≤sizeLine):wpAny (model prog w) A (binaryOp .Add (.ref t) (.ref b)) Q E s:=by
 obtain⟨⟨cls,dd,data,sl⟩,ho,hc,n,hd⟩:=id ht;obtain⟨⟨cls2,dd2,data2,sl2⟩,ho2,hc2,n2,hd2⟩:=id hb;simp only at hc hd hc2 hd2;subst hc hd hc2 hd2
 have e:vs.toArray++ws.toArray=(vs++ws).toArray:=by simp
 by_cases hw:ws=[]
 ·exact concat_meets ⟨_,ho,rfl⟩ ⟨_,ho2,rfl⟩ noFill_tuple_add seq_tuple_add PySem.F.slot_tuple_add PySem.F.entry_tuple_add (PySem.F.args_tuple_add_2 _ _)
   (tuple_addW1 t b vs.toArray ws.toArray n n2 dd dd2 sl sl2 (by simpa using hv) (by simp [hw])) ⟨ho,ho2,h1 hw⟩
 ·refine concat_meets ⟨_,ho,rfl⟩ ⟨_,ho2,rfl⟩ noFill_tuple_add seq_tuple_add PySem.F.slot_tuple_add PySem.F.entry_tuple_add (PySem.F.args_tuple_add_2 _ _)
   (tuple_addW2 t b vs.toArray ws.toArray n n2 dd dd2 sl sl2 (by simpa using hv) (by simpa using hw) (by rw [aa9,aa9];exact hsz)) ⟨ho,ho2,?_⟩
  rw [e];exact h2 hw
def sIx(n d:Nat):Option Int→Nat
 | none=>d
 | some v=>if v < 0 then(v+(n:Int)).toNat else min v.toNat n
theorem sIx_none(n d:Nat):sIx n d none=d:=rfl
theorem sIx_nat(n d k:Nat):sIx n d (some (k:Int))=min k n:=by
 show(if (k:Int) < 0 then((k:Int)+(n:Int)).toNat else min (k:Int).toNat n)=min k n;rw [if_neg (by omega),ag6]
theorem C7(n d:Nat)(hd:d≤n)(o:Option Int):sIx n d o≤n:=by
 cases o with
 | none=>exact hd
 | some v=>
  show(if v < 0 then(v+(n:Int)).toNat else min v.toNat n)≤n
  by_cases hv:v < 0
  ·rw [if_pos hv];omega
  ·rw [if_neg hv];exact Nat.min_le_right _ _
theorem ve(v:Int)(n d:Nat):(if v < 0 then max (v+(n:Int)) 0 else min v (n:Int))=((sIx n d (some v):Nat):Int):=by
 show(if v < 0 then max (v+(n:Int)) 0 else min v (n:Int))=(((if v < 0 then(v+(n:Int)).toNat else min v.toNat n):Nat):Int)
 by_cases hv:v < 0
 ·simp only [if_pos hv];omega
 ·simp only [if_neg hv];omega
theorem tH(lo hi:Option Int)(n:Nat):Builtin.Slice.sliceAdjust lo hi 1 (n:Int)=(((sIx n 0 lo:Nat):Int),((sIx n n hi:Nat):Int)):=by
 have h1:¬((1:Int) < 0):=by omega
 unfold Builtin.Slice.sliceAdjust;simp only [h1,if_false];refine Prod.ext ?_ ?_
 ·cases lo with
  | none=>rfl
  | some v=>exact ve v n 0
 ·cases hi with
  | none=>rfl
  | some v=>exact ve v n n
theorem uk(i j:Nat):Builtin.Slice.slicePlaces (i:Int) (j:Int) 1=j - i:=by
 unfold Builtin.Slice.slicePlaces
 have h1:(1:Int) > 0:=by omega
 simp only [h1,if_true,Int.ediv_one]
 split<;>omega
theorem nJ{v:Value}{o:Option Int}{Q:Option Int→Shared→Prop}(p:IsPart v o)(h:Q o s):wpAny (model prog w) A (Builtin.Slice.slicePartIndex v) Q E s:=by
 cases p with
 | none=>exact slicePart_none h
 | int i t=>exact slicePart_int h
theorem lh{sl:Addr}{vl vu:Value}{lo hi:Option Int}{n:Nat}{Q:Int×Int×Nat→Shared→Prop}(hs:s.heap.IsSliceOf sl vl vu .none)(pl:IsPart vl lo)(pu:IsPart vu hi)
  (h:Q (((sIx n 0 lo:Nat):Int),1,sIx n n hi - sIx n 0 lo) s):wpAny (model prog w) A (Builtin.Slice.sliceApplied (.ref sl) (pure (n:Int))) Q E s:=by
 obtain⟨os,hos,hcs,hds⟩:=id hs;unfold Builtin.Slice.sliceApplied Builtin.Slice.sliceFields;refine wpAny_bind (wpAny_bind (wpAny_field hos hds (x:=vl) rfl (wpAny_bind (wpAny_field hos hds (x:=vu) rfl (wpAny_bind (wpAny_field hos hds (x:=.none) rfl (wpAny_pure ?_)))))));refine wpAny_bind (slicePart_none ?_);show wpAny _ _ (if ((1:Int) == 0)=true then _ else _) _ _ s;rw [if_neg (by decide)];refine wpAny_bind (nJ pl (wpAny_bind (nJ pu (wpAny_bind (wpAny_pure ?_)))))
 show wpAny _ _ (match Builtin.Slice.sliceAdjust lo hi 1 (n:Int)with | (lo,hi)=>pure (lo,(1:Int),Builtin.Slice.slicePlaces lo hi 1)) _ _ s
 rw [tH lo hi n];show wpAny _ _ (pure (((sIx n 0 lo:Nat):Int),(1:Int),Builtin.Slice.slicePlaces ((sIx n 0 lo:Nat):Int) ((sIx n n hi:Nat):Int) 1)) _ _ s;rw [uk];exact wpAny_pure h
theorem yY(xs:Array Value)(i k:Nat):((List.range k).filterMap fun(m:Nat)=>xs[((i:Int)+(m:Int) * 1).toNat]?).toArray=((xs.toList.drop i).take k).toArray:=by
 have e:(fun(m:Nat)=>xs[((i:Int)+(m:Int) * 1).toNat]?)=fun m=>xs[i+m]?:=by
  funext m
  have:((i:Int)+(m:Int) * 1).toNat=i+m:=by omega
  rw [this]
 rw [e]
 have:=pick_run xs i k
 rw [List.filterMap_map]at this;have e2:((fun x=>xs[x]?)∘fun x=>i+x)=fun m=>xs[i+m]?:=rfl;rw [e2]at this;rw [this]
theorem getItem_tuple_cut{t sl:Addr}{items:Array Value}{vl vu:Value}{lo hi:Option Int}{Q:Value→Shared→Prop}(ht:IsTup s.heap t items)(hs:s.heap.IsSliceOf sl vl vu .none)(pl:IsPart vl lo)(pu:IsPart vu hi)
  (hw:¬(sIx items.size 0 lo=0∧sIx items.size items.size hi=items.size))
  (h:Q (.ref s.heap.objs.size) { s with heap:=s.heap.push { cls:=.type "tuple",data:=.seq ((items.toList.drop (sIx items.size 0 lo)).take (sIx items.size items.size hi - sIx items.size 0 lo)).toArray } })
  (hsz:items.size≤sizeLine):wpAny (model prog w) A (getItem (.ref t) (.ref sl)) Q E s:=by
 have htake:sizeOk (.seq ((items.toList.drop (sIx items.size 0 lo)).take (sIx items.size items.size hi - sIx items.size 0 lo)).toArray):=by
  show((items.toList.drop (sIx items.size 0 lo)).take (sIx items.size items.size hi - sIx items.size 0 lo)).toArray.size≤sizeLine;rw [aa9,ac6,af6,aj1];omega
 have hj:sIx items.size items.size hi≤items.size:=C7 _ _ (aa7 _) hi;obtain⟨os,hos,hcs,hds⟩:=id hs;have hTs:s.TypeIs (.ref sl) "slice":=⟨os,hos,hcs⟩;unfold getItem
 try with_reducible refine wpAny_holding ?_
 first | refine wpAny_bind (wpAny_pure ?_) | skip
 refine wpAny_bind (wpAny_sequenceKey ht.typeIs (by decide) ?_)
 refine wpAny_bind (wpAny_callSpecial?_slot (name:=Str.ofString "__getitem__") ht.typeIs PyProof.Rows.slot_tuple_getitem
  (wpAny_call_entry PyProof.Rows.slot_tuple_getitem ht.typeIs entry_tuple_getitem ?_ (args_tuple_getitem _ _)))
 show wpAny _ _ (Builtin.Tuple.tupleItemsOf (.ref t) >>= _) _ _ s;refine wpAny_bind (tupleItemsOf_ ht ?_);refine wpAny_bind (wpAny_typeOf hTs ?_);rw [if_pos (by decide)];refine wpAny_bind (lh hs pl pu ?_)
 have hno:¬((((sIx items.size 0 lo:Nat):Int) == 0 && (1:Int) == 1 && (sIx items.size items.size hi - sIx items.size 0 lo) == items.size)=true):=by
  intro q;rw [ag0,ag0]at q;have q1:((sIx items.size 0 lo:Nat):Int)=0:=eq_of_beq q.1.1;have q2:sIx items.size items.size hi - sIx items.size 0 lo=items.size:=eq_of_beq q.2;exact hw ⟨by omega,by omega⟩
 show wpAny _ _ (if (((sIx items.size 0 lo:Nat):Int) == 0 && (1:Int) == 1 && (sIx items.size items.size hi - sIx items.size 0 lo) == items.size)=true then _ else _) _ _ s;rw [if_neg hno,yY]
 first
  | exact wpAny_bind (m:=Builtin.Tuple.tupleExact _) (wpAny_newObj_type (wpAny_pure ⟨_,rfl,wpAny_pure h⟩) htake)
  | exact wpAny_bind (m:=Builtin.Tuple.tupleExact _) (wpAny_newObj_type (wpAny_bind (wpAny_pure (wpAny_pure ⟨_,rfl,wpAny_pure h⟩))) htake)
  | exact wpAny_bind (wpAny_bind (m:=Builtin.Tuple.tupleExact _) (wpAny_newObj_type (wpAny_pure (wpAny_pure ⟨_,rfl,wpAny_pure h⟩)) htake))
  | exact wpAny_bind (wpAny_bind (m:=Builtin.Tuple.tupleExact _) (wpAny_newObj_type (wpAny_pure ⟨_,rfl,wpAny_pure h⟩) htake))
end
end HT
namespace L2
open PySem PySem.Spec PyProof.Rows
abbrev TO:=St→Hp→(Option Int→Hp→Prop)→Prop
def PO(X:Cx)(e:Option Expr)(t:TO):Prop:=
 ∀(pins:List (Addr×Obj)) (s:Shared) (σ:St) (H:Hp) (Q:Option Int→Hp→Prop),aK X pins σ H s→t σ H Q→
  wpAny (model X.prog X.w) X.A (evalPart e X.env) (fun u s'=>∃o H',aK X pins σ H' s'∧IsPart u o∧Q o H') X.xe s
def qZ:TO:=fun _ H Q=>Q none H
def vP(t:TE):TO:=fun σ H Q=>t σ H fun x H1=>∃i,x=.int i∧Q (some i) H1
theorem i7{ns:List Int}:∀{us:List Value},aV (ns.map V.int) us→IntsAre us ns:=by
 induction ns with
 | nil=>intro us r;rw [ah8]at r;cases r;exact .nil
 | cons n ns ih=>
  intro us r;rw [ad2]at r
  cases r with
  | cons r1 r2=>
   obtain⟨t,e⟩:=r1;subst e;exact .cons n t (ih r2)
section
variable {X:Cx} {e:Expr} {te:TE} {lo hi:Option Expr} {tl th:TO} {pos p2:Pos}
theorem cQ:PO X none qZ:=by
 intro pins s σ H Q I h;rw [evalPart_none];exact wpAny_pure ⟨none,H,I,.none,h⟩
theorem AX(h:PE X e te):PO X (some e) (vP te):=by
 intro pins s σ H Q I hw;rw [evalPart_some];refine cZ (h pins s σ H _ I hw) fun u s1 ⟨x,H1,I1,r1,q1⟩=>?_;obtain⟨i,rfl,q⟩:=q1;obtain⟨t,rfl⟩:=r1;exact⟨some i,H1,I1,.int i t,q⟩
def zN(X:Cx)(r:V→Option Int→Option Int→Hp→VK→Prop):Prop:=
 ∀(pins:List (Addr×Obj)) (s:Shared) (σ:St) (H:Hp) (x:V) (v vl vu:Value) (lo hi:Option Int) (sl:Addr) (Q:VK),aK X pins σ H s→aN x v→s.heap.IsSliceOf sl vl vu .none→IsPart vl lo→IsPart vu hi→r x lo hi H Q→
  ∃T id,typeLookup (.type T) "__getitem__"=pure (some (.builtin id))∧s.TypeIs v T∧wpAny (model X.prog X.w) X.A (getItem v (.ref sl)) (EP X pins σ Q) X.xe s
theorem zN.or{r r':V→Option Int→Option Int→Hp→VK→Prop}(h:zN X r)(h':zN X r'):zN X (fun x lo hi H Q=>r x lo hi H Q∨r' x lo hi H Q):=by
 intro pins s σ H x v vl vu lo hi sl Q I rx hs pl pu q;rcases q with q | q
 ·exact h pins s σ H x v vl vu lo hi sl Q I rx hs pl pu q
 ·exact h' pins s σ H x v vl vu lo hi sl Q I rx hs pl pu q
def E8(r:V→Option Int→Option Int→Hp→VK→Prop)(te:TE)(tl th:TO):TE:=fun σ H Q=>te σ H fun x H1=>tl σ H1 fun l H2=>th σ H2 fun u H3=>r x l u H3 Q
theorem bQ{r:V→Option Int→Option Int→Hp→VK→Prop}(hr:zN X r)(he:PE X e te)(hl:PO X lo tl)(hu:PO X hi th):PE X (.Subscript e (.Slice lo hi none p2) pos) (E8 r te tl th):=by
 intro pins s σ H Q I h;refine Subscript_ (cZ (he pins s σ H _ I h) fun v s1 ⟨x,H1,I1,r1,q1⟩=>?_);refine wpAny_Slice (cZ (hl pins s1 σ H1 _ I1 q1) fun vl s2 ⟨l,H2,I2,pl,q2⟩=>cZ (hu pins s2 σ H2 _ I2 q2) fun vu s3 ⟨u,H3,I3,pu,q3⟩=>?_);rw [evalPart_none];refine wpAny_pure ?_;have I4:aK X pins σ H3 { s3 with heap:=s3.heap.push { cls:=.type "slice",data:=.fields #[vl,vu,.none] } }:=I3.kept (t':=s3.toks) fun b ob q=>aa3 _ q;obtain⟨T,id,hT,ht,hg⟩:=hr pins { s3 with heap:=s3.heap.push { cls:=.type "slice",data:=.fields #[vl,vu,.none] } } σ H3 x v vl vu l u s3.heap.objs.size Q I4 r1 (Heap.IsSliceOf.new ..) pl pu q3;show wpAny (model X.prog X.w) X.A (subscriptTail e (.Slice lo hi none p2) v (.ref s3.heap.objs.size)) (EP X pins σ Q) X.xe { s3 with heap:=s3.heap.push { cls:=.type "slice",data:=.fields #[vl,vu,.none] } };exact tail_any (ops:=[.ref s3.heap.objs.size,v]) ht hT hg (by with_unfolding_all rfl)
def ko(xs:List V)(lo hi:Option Int):List V:=(xs.drop (HT.sIx xs.length 0 lo)).take (HT.sIx xs.length xs.length hi - HT.sIx xs.length 0 lo)
theorem lK(xs:List V)(lo hi:Option Int):(ko xs lo hi).length≤xs.length:=by
 unfold ko;rw [ac6,af6];omega
def C4(K:Frag):V→Option Int→Option Int→Hp→VK→Prop:=fun x lo hi H Q=>∃a xs,x=.ref a∧cD K H a xs∧
 ¬(HT.sIx xs.length 0 lo=0∧HT.sIx xs.length xs.length hi=xs.length)∧∀p,H p=none→Q (.ref p) (upd H p (.tup (ko xs lo hi)))
theorem sl_tup:zN X (C4 X.K):=by
 intro pins s σ H x v vl vu lo hi sl Q I rx hs pl pu h;obtain⟨a,xs,rfl,hx,hw,q⟩:=h;cases rx;obtain⟨its,r,ht,hz⟩:=I.tuple hx
 have hlen:its.toArray.size=xs.length:=by rw [aa9];exact r.length.symm
 refine⟨"tuple",_,PyProof.Rows.slot_tuple_getitem.lookup,ht.typeIs,?_⟩;refine HT.getItem_tuple_cut ht hs pl pu (by rw [hlen];exact hw) ?_ (by rw [hlen];exact hz);rw [hlen];refine⟨.ref s.heap.objs.size,_,I.laid (t':=s.toks) (o:=.tup (ko xs lo hi)) (fun b ob q=>aa3 _ q) (aa7 _) ?_,rfl,q _ (I.hok.fresh (aa7 _))⟩;exact⟨ab8 (lK xs lo hi) hz,_,(r.drop (HT.sIx xs.length 0 lo)).take (HT.sIx xs.length xs.length hi - HT.sIx xs.length 0 lo),IsTup.new _ _⟩
def Eg(K:Frag):R2:=fun x y H Q=>∃a b ns ms,x=.ref a∧y=.ref b∧cD K H a (ns.map V.int)∧cD K H b (ms.map V.int)∧Q (.bl (HT.lexLt ns ms)) H
theorem CK(hu:X.A.units < cLine):dY X (compareOp .Lt) (Eg X.K):=by
 intro pins s σ H x y v u Q I rx ry h;obtain⟨a,b,ns,ms,rfl,rfl,ha,hb,q⟩:=h;cases rx;cases ry;obtain⟨its,r1,p1,_⟩:=I.tuple ha;obtain⟨its2,r2,p2,_⟩:=I.tuple hb;have i1:IntsAre its.toArray.toList ns:=i7 r1;have i2:IntsAre its2.toArray.toList ms:=i7 r2;exact HT.lt_tupInts p1 p2 i1 i2 hu ⟨.bl (HT.lexLt ns ms),H,I,rfl,q⟩
def vx(K:Frag):R2:=fun x y H Q=>∃a b xs ys,x=.ref a∧y=.ref b∧cD K H a xs∧cD K H b ys∧xs≠[]∧xs.length+ys.length≤sizeLine∧
 (ys=[]→Q (.ref a) H)∧(ys≠[]→∀p,H p=none→Q (.ref p) (upd H p (.tup (xs++ys))))
theorem aV.nil_iff{xs:List V}{us:List Value}(r:aV xs us):us=[]↔xs=[]:=by
 cases r with
 | nil=>simp
 | cons _ _=>simp
theorem AM:dY X (binaryOp .Add) (vx X.K):=by
 intro pins s σ H x y v u Q I rx ry h;obtain⟨a,b,xs,ys,rfl,rfl,ha,hb,hx,hz,q1,q2⟩:=h;cases rx;cases ry;obtain⟨its,r1,p1,_⟩:=I.tuple ha;obtain⟨its2,r2,p2,_⟩:=I.tuple hb;refine HT.cat_tup p1 p2 (fun z=>hx (r1.nil_iff.mp z)) (fun z=>⟨.ref a,H,I,rfl,q1 (r2.nil_iff.mp z)⟩) (fun z=>?_) (by rw [←r1.length,←r2.length];exact hz);refine⟨.ref s.heap.objs.size,_,I.laid (t':=s.toks) (o:=.tup (xs++ys)) (fun b ob q=>aa3 _ q) (aa7 _) ?_,rfl,q2 (fun w=>z (r2.nil_iff.mpr w)) _ (I.hok.fresh (aa7 _))⟩;exact⟨by rw [ab4];exact hz,_,r1.append r2,IsTup.new _ _⟩
end
end L2
namespace L2
open PySem PySem.Spec PyProof.Rows
def Cm(n:Nat)(i:Int):Option Nat:=if 0≤i then(if i < n then some i.toNat else none)else if -(n:Int)≤i then some (i+n).toNat else none
def fm{α:Type}(xs:List α)(i:Int):Option α:=(Cm xs.length i).bind fun j=>xs[j]?
theorem Al{n:Nat}{i:Int}{j:Nat}(h:Cm n i=some j):seqIndex? i n=some j∧j < n∧-(n:Int)≤i∧i < n:=by
 unfold Cm at h
 by_cases h0:0≤i
 ·rw [if_pos h0]at h
  by_cases h1:i < n
  ·rw [if_pos h1]at h
   have e:i.toNat=j:=Option.some.inj h;exact⟨by rw [seqIndex_of h0 h1,e],by omega,by omega,h1⟩
  ·rw [if_neg h1]at h;cases h
 ·rw [if_neg h0]at h
  by_cases h1:-(n:Int)≤i
  ·rw [if_pos h1]at h
   have e:(i+n).toNat=j:=Option.some.inj h;exact⟨by rw [seqIndex_neg (by omega) h1,e],by omega,h1,by omega⟩
  ·rw [if_neg h1]at h;cases h
theorem pU{α:Type}{xs:List α}{i:Int}{v:α}(h:fm xs i=some v):∃j,seqIndex? i xs.length=some j∧xs[j]?=some v∧j < xs.length∧-(xs.length:Int)≤i∧i < xs.length:=by
 unfold fm at h
 cases e:Cm xs.length i with
 | none=>rw [e]at h;cases h
 | some j=>
  rw [e]at h;obtain⟨h1,h2,h3,h4⟩:=Al e;exact⟨j,h1,h,h2,h3,h4⟩
theorem aO{α:Type}{xs:List α}{j:Nat}{v:α}(h:xs[j]?=some v):fm xs (j:Int)=some v:=by
 have hj:j < xs.length:=(aa2.mp h).1
 have e:Cm xs.length (j:Int)=some j:=by
  unfold Cm;rw [if_pos (by omega),if_pos (by omega)];simp
 unfold fm;rw [e];exact h
def va(b:Expr):Prop:=∀o i,subscripted b false o i=operate [o,i] (getItem o i)
def xF(X:Cx)(r:R2):Prop:=
 ∀(value slice:Expr) (pins:List (Addr×Obj)) (s:Shared) (σ:St) (H:Hp) (x y:V) (v u:Value) (Q:VK),aK X pins σ H s→aN x v→aN y u→r x y H Q→
  subscripted slice false v u=operate [v,u] (getItem v u)→wpAny (model X.prog X.w) X.A (subscriptTail value slice v u) (EP X pins σ Q) X.xe s
def xw(X:Cx)(id:String)(r:V→List V→Hp→VK→Prop):Prop:=
 ∀(pins:List (Addr×Obj)) (s:Shared) (σ:St) (H:Hp) (x:V) (xs:List V) (v:Value) (us:List Value) (Q:VK),aK X pins σ H s→aN x v→aV xs us→r x xs H Q→
  wpAny (model X.prog X.w) X.A (call (.builtin id) (v::us)) (EP X pins σ Q) X.xe s
section
variable {X:Cx} {a b:Expr} {ta tb:TE} {pos:Pos}
theorem xF.or{r r':R2}(h:xF X r)(h':xF X r'):xF X (fun x y H Q=>r x y H Q∨r' x y H Q):=by
 intro value slice pins s σ H x y v u Q I rx ry q hs;rcases q with q | q
 ·exact h value slice pins s σ H x y v u Q I rx ry q hs
 ·exact h' value slice pins s σ H x y v u Q I rx ry q hs
theorem xw.or{id:String}{r r':V→List V→Hp→VK→Prop}(h:xw X id r)(h':xw X id r'):xw X id (fun x xs H Q=>r x xs H Q∨r' x xs H Q):=by
 intro pins s σ H x xs v us Q I rx rs q;rcases q with q | q
 ·exact h pins s σ H x xs v us Q I rx rs q
 ·exact h' pins s σ H x xs v us Q I rx rs q
theorem aU{r:R2}(hr:xF X r)(ha:PE X a ta)(hb:PE X b tb)(hs:va b):PE X (.Subscript a b pos) (Dk r ta tb):=by
 intro pins s σ H Q I h;exact Subscript_ (z7 ha hb I h fun v u s2 x y H2 I2 rx ry q=>hr a b pins s2 σ H2 x y v u Q I2 rx ry q (hs _ _))
def CW(K:Frag):R2:=fun x y H Q=>∃p xs i v,x=.ref p∧y=.int i∧aT K H p xs∧fm xs i=some v∧Q v H
def CZ(K:Frag):R2:=fun x y H Q=>∃p xs i v,x=.ref p∧y=.int i∧cD K H p xs∧fm xs i=some v∧Q v H
def CY:R2:=fun x y H Q=>∃z i c,x=.str z∧y=.int i∧z.length≤sizeLine∧fm z.cps.toList i=some c∧Q (.str ⟨#[c]⟩) H
theorem ix_list:xF X (CW X.K):=by
 intro value slice pins s σ H x y v u Q I rx ry h hs;obtain⟨p,xs,i,z,rfl,rfl,hq,he,q⟩:=h;cases rx;obtain⟨t,rfl⟩:=ry;obtain⟨its,r,pl,hz⟩:=I.list hq;obtain⟨j,h1,h2,h3,h4,h5⟩:=pU he;obtain⟨w,ew,rw'⟩:=r.get h2;have hl:=r.length;have hn:=kD;have fin:EP X pins σ Q w s:=⟨z,H,I,rw',q⟩
 by_cases h0:0≤i
 ·have hj:i.toNat=j:=by
   rw [seqIndex_of h0 h5]at h1;exact Option.some.inj h1
  exact item_listR pl.isList h0 (by omega) (by rw [hj];simpa using ew) fin hs
 ·have hj:(i+(its.toArray.size:Int)).toNat=j:=by
   rw [seqIndex_neg (by omega) h4]at h1;rw [aa9,←hl];exact Option.some.inj h1
  exact subscriptTail_builtinR (x:=w) pl.isList.typeIs slot_list_getitem.lookup
   (wpAny_getItem_list_neg (Q:=fun r s'=>r=w∧EP X pins σ Q r s') pl.isList (by omega) (by rw [aa9]<;>omega) (by omega) (by rw [hj];simpa using ew) ⟨rfl,fin⟩) hs
theorem ix_tup:xF X (CZ X.K):=by
 intro value slice pins s σ H x y v u Q I rx ry h hs;obtain⟨p,xs,i,z,rfl,rfl,hq,he,q⟩:=h;cases rx;obtain⟨t,rfl⟩:=ry;obtain⟨its,r,pl,hz⟩:=I.tuple hq;obtain⟨j,h1,h2,h3,h4,h5⟩:=pU he;obtain⟨w,ew,rw'⟩:=r.get h2;have hl:=r.length;have hn:=kD;have fin:EP X pins σ Q w s:=⟨z,H,I,rw',q⟩
 exact subscriptTail_builtinR (x:=w) pl.typeIs slot_tuple_getitem.lookup
  (getItem_tuple (j:=j) (Q:=fun r s'=>r=w∧EP X pins σ Q r s') pl (by omega) (by omega) (by rw [aa9,←hl];exact h1) (by simpa using ew) ⟨rfl,fin⟩) hs
theorem Cp:xF X CY:=by
 intro value slice pins s σ H x y v u Q I rx ry h hs;obtain⟨z,i,c,rfl,rfl,hz,he,q⟩:=h;obtain⟨t,rfl⟩:=rx;obtain⟨t',rfl⟩:=ry;obtain⟨j,h1,h2,h3,h4,h5⟩:=pU he
 have hl:z.cps.toList.length=z.length:=by simp [Str.length]
 rw [hl]at h1 h4 h5;have hn:=kD
 exact tail_any (typeIs_str s z t) slot_str_getitem.lookup (getItem_str (c:=c) (by
  have e1:decide (i < -(2 ^ 63:Int))=false:=decide_eq_false (by omega);have e2:decide (i≥2 ^ 63)=false:=decide_eq_false (by omega)
  rw [e1,e2,Bool.or_false]) (by rw [h1];simpa using h2) ⟨.str ⟨#[c]⟩,H,I.tok _,⟨_,rfl⟩,q⟩) hs
def Bd(K:Frag):R2:=fun x y H Q=>CW K x y H Q∨CZ K x y H Q∨CY x y H Q
theorem Co:xF X (Bd X.K):=ix_list.or (ix_tup.or Cp)
def Eh:V→V→V→Hp→(Hp→Prop)→Prop:=fun o i v H Q=>∃p xs k j,o=.ref p∧i=.int k∧H p=some (.lst xs)∧Cm xs.length k=some j∧Q (upd H p (.lst (xs.set j v)))
theorem qW(lo hi:Option Int)(n:Nat):(sliceBounds lo hi none n).1=((HT.sIx n 0 lo:Nat):Int)∧(sliceBounds lo hi none n).2.1=((HT.sIx n n hi:Nat):Int)∧(sliceBounds lo hi none n).2.2=1:=by
 refine⟨?_,?_,rfl⟩
 ·cases lo with
  | none=>simp [sliceBounds,HT.sIx]
  | some i=>
   simp only [sliceBounds,HT.sIx,Option.getD_none,show(1:Int) > 0 by decide,if_true]
   by_cases h:i < 0
   ·simp only [h,if_true]<;>omega
   ·simp only [h,if_false]<;>omega
 ·cases hi with
  | none=>simp [sliceBounds,HT.sIx]
  | some i=>
   simp only [sliceBounds,HT.sIx,Option.getD_none,show(1:Int) > 0 by decide,if_true]
   by_cases h:i < 0
   ·simp only [h,if_true]<;>omega
   ·simp only [h,if_false]<;>omega
theorem oQ(its:List Value)(lo hi:Option Int):slicePick its.toArray lo hi none=((its.drop (HT.sIx its.length 0 lo)).take (HT.sIx its.length its.length hi - HT.sIx its.length 0 lo)).toArray:=by
 obtain⟨h1,h2,h3⟩:=qW lo hi its.toArray.size;unfold slicePick;rw [h1,h2,h3]
 simp only [sliceRange_one,pick_run,aa9]<;>rfl
def C2(K:Frag):V→Option Int→Option Int→Hp→VK→Prop:=fun x lo hi H Q=>∃a xs,x=.ref a∧aT K H a xs∧∀p,H p=none→Q (.ref p) (upd H p (.lst (ko xs lo hi)))
theorem sl_list:zN X (C2 X.K):=by
 intro pins s σ H x v vl vu lo hi sl Q I rx hs pl pu h;obtain⟨a,xs,rfl,hx,q⟩:=h;cases rx;obtain⟨its,r,ht,hz⟩:=I.list hx;have hlen:=r.length;refine⟨"list",_,slot_list_getitem.lookup,ht.isList.typeIs,?_⟩
 refine wpAny_getItem_list_slice ht.isList hs pl pu .none (by simp) ?_ (by rw [aa9]<;>omega)
 rw [oQ,←hlen];refine⟨.ref s.heap.objs.size,_,I.laid (t':=s.toks) (o:=.lst (ko xs lo hi)) (fun b ob q=>aa3 _ q) (aa7 _) ?_,rfl,q _ (I.hok.fresh (aa7 _))⟩;exact⟨ab8 (lK xs lo hi) hz,_,0,(r.drop (HT.sIx xs.length 0 lo)).take (HT.sIx xs.length xs.length hi - HT.sIx xs.length 0 lo),ab9 _ rfl⟩
def eo:V→Bool
 | .non=>true
 | .bl _=>true
 | .int _=>true
 | .str _=>true
 | _=>false
def wB:V→V→Bool
 | .non,.non=>true
 | .bl a,.bl b=>a == b
 | .bl a,.int b=>(if a then 1 else 0) == b
 | .int a,.bl b=>a == (if b then 1 else 0)
 | .int a,.int b=>a == b
 | .str a,.str b=>a == b
 | _,_=>false
theorem ya{A:Around}{s:Shared}{y x:V}{u v:Value}(ry:aN y u)(rx:aN x v)(fy:eo y=true)(fx:eo x=true):SeqAt.EqAt A s u v (wB y x):=by
 cases y with
 | non=>
  cases ry
  cases x with
  | non=>cases rx;exact SeqAt.EqAt.same _
  | bl b=>cases rx;exact SeqAt.EqAt.none_bool b
  | int b=>obtain⟨t,rfl⟩:=rx;exact SeqAt.EqAt.none_int b t
  | str b=>obtain⟨t,rfl⟩:=rx;exact SeqAt.EqAt.none_str b t
  | _=>exact absurd (show false=true from fx) aa4
 | bl a=>
  cases ry
  cases x with
  | non=>cases rx;exact SeqAt.EqAt.bool_none a
  | bl b=>cases rx;exact SeqAt.EqAt.bool_bool a b
  | int b=>obtain⟨t,rfl⟩:=rx;exact SeqAt.EqAt.bool_int a b t
  | str b=>obtain⟨t,rfl⟩:=rx;exact SeqAt.EqAt.bool_str a b t
  | _=>exact absurd (show false=true from fx) aa4
 | int a=>
  obtain⟨t',rfl⟩:=ry
  cases x with
  | non=>cases rx;exact SeqAt.EqAt.int_none a t'
  | bl b=>cases rx;exact SeqAt.EqAt.int_bool a t' b
  | int b=>obtain⟨t,rfl⟩:=rx;exact SeqAt.EqAt.int_int a t' b t
  | str b=>obtain⟨t,rfl⟩:=rx;exact SeqAt.EqAt.int_str a t' b t
  | _=>exact absurd (show false=true from fx) aa4
 | str a=>
  obtain⟨t',rfl⟩:=ry
  cases x with
  | non=>cases rx;exact SeqAt.EqAt.str_none a t'
  | bl b=>cases rx;exact SeqAt.EqAt.str_bool a t' b
  | int b=>obtain⟨t,rfl⟩:=rx;exact SeqAt.EqAt.str_int a t' b t
  | str b=>obtain⟨t,rfl⟩:=rx;exact SeqAt.EqAt.str_str a t' b t
  | _=>exact absurd (show false=true from fx) aa4
 | _=>exact absurd (show false=true from fy) aa4
def tU(x:V)(u:Value):Bool:=match u with
 | .none=>wB .non x
 | .bool b=>wB (.bl b) x
 | .int i _=>wB (.int i) x
 | .str z _=>wB (.str z) x
 | _=>false
theorem yc{x y:V}{u:Value}(r:aN y u)(f:eo y=true):tU x u=wB y x:=by
 cases y with
 | non=>cases r;rfl
 | bl b=>cases r;rfl
 | int i=>obtain⟨t,rfl⟩:=r;rfl
 | str z=>obtain⟨t,rfl⟩:=r;rfl
 | _=>exact absurd (show false=true from f) aa4
theorem jA{x:V}:∀{xs:List V} {us:List Value},aV xs us→xs.all eo=true→us.any (tU x)=xs.any fun y=>wB y x
 | _,_,.nil,_=>rfl
 | y::xs,u::us,.cons r t,f=>by
  rw [ak0,ag0]at f;rw [List.any_cons,List.any_cons,yc r f.1,jA t f.2]
theorem hZ{A:Around}{s:Shared}{x:V}{v:Value}(rx:aN x v)(fx:eo x=true):∀{xs:List V} {us:List Value},aV xs us→xs.all eo=true→∀u∈us,SeqAt.EqAt A s u v (tU x u)
 | _,_,.nil,_=>fun u hu=>by cases hu
 | y::xs,u::us,.cons r t,f=>fun u' hu=>by
  rw [ak0,ag0]at f;rcases aa6.mp hu with rfl | hu
  ·rw [yc r f.1];exact ya r rx f.1 fx
  ·exact hZ rx fx t f.2 u' hu
def BD(x:V)(xs:List V):Bool:=xs.any fun y=>wB y x
def Du(K:Frag)(neg:Bool):R2:=fun x y H Q=>∃p xs,y=.ref p∧(aT K H p xs∨cD K H p xs)∧eo x=true∧xs.all eo=true∧Q (.bl (if neg then !BD x xs else BD x xs)) H
theorem w5:dY X (compareOp .In) (Du X.K false):=by
 intro pins s σ H x y v u Q I rx ry h;obtain⟨p,xs,rfl,hq,fx,fs,q⟩:=h;cases ry;rcases hq with hq | hq
 ·obtain⟨its,r,pl,hz⟩:=I.list hq
  refine SeqAt.in_listAt (tU x) pl.isList (fun w hw=>hZ rx fx r fs w (by simpa using hw)) ⟨.bl _,H,I,rfl,?_⟩;rw [show its.toArray.any (tU x)=its.any (tU x)by simp,jA r fs];exact q
 ·obtain⟨its,r,pl,hz⟩:=I.tuple hq
  refine SeqAt.in_tupleAt (tU x) pl (fun w hw=>hZ rx fx r fs w (by simpa using hw)) ⟨.bl _,H,I,rfl,?_⟩;rw [show its.toArray.any (tU x)=its.any (tU x)by simp,jA r fs];exact q
theorem qu:dY X (compareOp .NotIn) (Du X.K true):=by
 intro pins s σ H x y v u Q I rx ry h;obtain⟨p,xs,rfl,hq,fx,fs,q⟩:=h;cases ry;rcases hq with hq | hq
 ·obtain⟨its,r,pl,hz⟩:=I.list hq
  refine SeqAt.notIn_listAt (tU x) pl.isList (fun w hw=>hZ rx fx r fs w (by simpa using hw)) ⟨.bl _,H,I,rfl,?_⟩;rw [show its.toArray.any (tU x)=its.any (tU x)by simp,jA r fs];exact q
 ·obtain⟨its,r,pl,hz⟩:=I.tuple hq
  refine SeqAt.notIn_tupleAt (tU x) pl (fun w hw=>hZ rx fx r fs w (by simpa using hw)) ⟨.bl _,H,I,rfl,?_⟩;rw [show its.toArray.any (tU x)=its.any (tU x)by simp,jA r fs];exact q
theorem pX:cz X (.builtin "len") (fun xs H Q=>∃p ys,xs=[.ref p]∧(aT X.K H p ys∨cD X.K H p ys)∧Q (.int ys.length) H):=by
 intro pins s σ H xs us Q I r h;obtain⟨p,ys,rfl,hq,q⟩:=h;obtain⟨u,rfl,rx⟩:=eF r;cases rx;have hn:=kD;rcases hq with hq | hq
 ·obtain⟨its,r',pl,hz⟩:=I.list hq
  have hlen:=r'.length
  exact Calls.call_len_list pl.isList (by simp only [aa9]<;>omega) ⟨.int ys.length,H,I.tok _,⟨s.toks+1,by rw [aa9,hlen]⟩,q⟩
 ·obtain⟨its,r',pl,hz⟩:=I.tuple hq
  have hlen:=r'.length
  exact len_tuple pl (by simp only [aa9]<;>omega) ⟨.int ys.length,H,I.tok _,⟨s.toks+1,by rw [aa9,hlen]⟩,q⟩
theorem call_len_str:cz X (.builtin "len") (fun xs H Q=>∃z,xs=[.str z]∧z.length≤sizeLine∧Q (.int z.length) H):=by
 intro pins s σ H xs us Q I r h;obtain⟨z,rfl,hz,q⟩:=h;obtain⟨u,rfl,t,rfl⟩:=eF r;have hn:=kD;exact len_str (by omega) ⟨.int z.length,H,I.tok _,⟨_,rfl⟩,q⟩
theorem cz.or{f:Value}{r r':List V→Hp→VK→Prop}(h:cz X f r)(h':cz X f r'):cz X f (fun xs H Q=>r xs H Q∨r' xs H Q):=by
 intro pins s σ H xs us Q I rs q;rcases q with q | q
 ·exact h pins s σ H xs us Q I rs q
 ·exact h' pins s σ H xs us Q I rs q
theorem pY:cz X (.type "list") (fun xs H Q=>∃p ys,xs=[.ref p]∧(aT X.K H p ys∨cD X.K H p ys)∧∀l,H l=none→Q (.ref l) (upd H l (.lst ys))):=by
 intro pins s σ H xs us Q I r h;obtain⟨p,ys,rfl,hq,q⟩:=h;obtain⟨u,rfl,rx⟩:=eF r;cases rx
 have fin:∀(its:List Value),aV ys its→ys.length≤sizeLine→∀(h':Heap) (c':Nat),(∀b o',s.heap.get? b=some o'→h'.get? b=some o')→
   h'.get? s.heap.objs.size=some { cls:=.type "list",dict:=none,data:=.seq its.toArray c',slots:=#[] }→EP X pins σ Q (.ref s.heap.objs.size) { s with heap:=h' }:=fun its r' hz h' c' kp e=>
  ⟨.ref s.heap.objs.size,_,I.laid (t':=s.toks) kp (aa7 _) (show di X.prog X.w _ h' _ (.lst ys)from⟨hz,its,c',r',e⟩),rfl,q _ (I.hok.fresh (aa7 _))⟩
 rcases hq with hq | hq
 ·obtain⟨its,r',pl,hz⟩:=I.list hq
  have hlen:=r'.length;obtain⟨o,ho,hc,n,hd⟩:=pl.isList
  exact call_list_seq p (.inl rfl) ho hc hd (fun h' c' kp e=>fin its r' hz h' c' kp e) (by simp only [aa9]<;>omega)
 ·obtain⟨its,r',pl,hz⟩:=I.tuple hq
  have hlen:=r'.length;obtain⟨o,ho,hc,n,hd⟩:=pl
  exact call_list_seq p (.inr rfl) ho hc hd (fun h' c' kp e=>fin its r' hz h' c' kp e) (by simp only [aa9]<;>omega)
theorem nZ:cz X (.type "tuple") (fun xs H Q=>∃p ys,xs=[.ref p]∧((aT X.K H p ys∧∀l,H l=none→Q (.ref l) (upd H l (.tup ys)))∨(cD X.K H p ys∧Q (.ref p) H))):=by
 intro pins s σ H xs us Q I r h;obtain⟨p,ys,rfl,h⟩:=h;obtain⟨u,rfl,rx⟩:=eF r;cases rx;rcases h with⟨hq,q⟩ | ⟨hq,q⟩
 ·obtain⟨its,r',pl,hz⟩:=I.list hq
  have hlen:=r'.length
  refine call_tuple_list pl.isList (fun h' kp=>?_) (by simp only [aa9]<;>omega)
  have I1:aK X pins σ H { s with heap:=h' }:=I.kept (t':=s.toks) kp
  have I2:aK X pins σ (upd H h'.objs.size (.tup ys)) { s with heap:=h'.push { cls:=.type "tuple",data:=.seq its.toArray } }:=
   I1.laid (t':=s.toks) (fun b o e=>aa3 _ e) (aa7 _) (show di X.prog X.w _ _ _ (.tup ys)from⟨hz,its,r',IsTup.new _ _⟩)
  exact⟨.ref h'.objs.size,_,I2,rfl,q _ (I1.hok.fresh (aa7 _))⟩
 ·obtain⟨its,r',pl,hz⟩:=I.tuple hq
  exact call_tuple_same pl ⟨.ref p,H,I,rfl,q⟩
def Ep(K:Frag)(T:String)(x:V)(H:Hp):Prop:=match x with
 | .str _=>T="str"
 | .int _=>T="int"
 | .ref p=>(T="list"∧∃xs,aT K H p xs)∨(T="tuple"∧∃o,K.lookup p=some o∧o.cls=.type "tuple"∧o.dict=none)∨
   (T="dict"∧((∃kvs,H p=some (.dK kvs))∨∃kvs,H p=some (.dT kvs)))∨(T="set"∧∃S n,H p=some (.set S n))
 | _=>False
theorem Dq{pins:List (Addr×Obj)}{σ:St}{H:Hp}{s:Shared}{T:String}{x:V}{v:Value}(I:aK X pins σ H s)(r:aN x v)(ty:Ep X.K T x H):
  s.TypeIs v T∧∀a,v=.ref a→∃ob,s.heap.get? a=some ob∧ob.dict=none:=by
 cases x with
 | str z=>
  obtain⟨t,rfl⟩:=r;cases(show T="str" from ty);exact⟨typeIs_str s z t,fun _ e=>nomatch e⟩
 | int i=>
  obtain⟨t,rfl⟩:=r;cases(show T="int" from ty);exact⟨typeIs_int s i t,fun _ e=>nomatch e⟩
 | ref p=>
  cases r;rcases ty with⟨rfl,xs,hq⟩ | ⟨rfl,o,hk,hc,hd⟩ | ⟨rfl,hk⟩ | ⟨rfl,S,n,hk⟩
  ·obtain⟨its,_,pl,_⟩:=I.list hq
   refine⟨pl.isList.typeIs,fun a e=>?_⟩;cases e;obtain⟨o,n,e,c,hd,_⟩:=pl;exact⟨o,e,hd⟩
  ·refine⟨⟨o,I.kIn p o hk,hc⟩,fun a e=>?_⟩
   cases e;exact⟨o,I.kIn _ o hk,hd⟩
  ·have z:∃o,s.heap.get? p=some o∧o.ExactDict:=by
    rcases hk with⟨kvs,hk⟩ | ⟨kvs,hk⟩
    ·obtain⟨_,_,_,_,o,_,_,e,ex,_⟩:=I.hok p _ hk
     exact⟨o,e,ex⟩
    ·obtain⟨_,_,_,_,o,_,_,e,ex,_⟩:=I.hok p _ hk
     exact⟨o,e,ex⟩
   obtain⟨o,e,ex⟩:=z;refine⟨⟨o,e,ex.1⟩,fun a e2=>?_⟩;cases e2;exact⟨o,e,ex.2.1⟩
  ·obtain⟨o,_,_,_,e,ex,_⟩:=I.hok p _ hk
   refine⟨⟨o,e,ex.1⟩,fun a e2=>?_⟩;cases e2;exact⟨o,e,ex.2.1⟩
 | _=>exact False.elim ty
def E4(K:Frag)(T:String)(r:V→List V→Hp→VK→Prop)(to:TE):TE:=fun σ H Q=>to σ H fun x H1=>Ep K T x H1∧r x [] H1 Q
def E3(K:Frag)(T:String)(r:V→List V→Hp→VK→Prop)(to:TE)(t:TA):TE:=fun σ H Q=>to σ H fun x H1=>Ep K T x H1∧t σ H1 fun xs H2=>r x xs H2 Q
variable {o e:Expr} {es:List Expr} {to:TE} {t:TA} {name:Str} {apos cpos:Pos} {T id:String} {r:V→List V→Hp→VK→Prop}
theorem Ea(pa:PlainAttrs T)(slot:Slot T name id)(hty:typeOf (.builtin id)=pure (.type "method_descriptor"))(hm:xw X id r)(ho:PE X o to)(ha:PA X (e::es) t)
  (hbase:attributeBase o name X.env (eval o X.env)=eval o X.env:=by rfl)
  (hfew:((backTo cpos (starEach (e::es) X.env)).all (fun x=>!x.1) && (backToKw cpos (keywordEach [] X.env)).all (fun x=>x.1.isSome)
   && decide ((e::es).length+([]:List Keyword).length+(if ([]:List Keyword).isEmpty then 0 else 1) < 30))=true:=by rfl)
  (hline:(apos.endLine == cpos.line)=true:=by rfl) (hs:starEach (e::es) X.env=(false,eval e X.env)::starEach es X.env:=by rfl) (hplain:(backTo cpos (starEach es X.env)).any (·.1)=false:=by rfl) :
  PE X (.Call (.Attribute o name apos) (e::es) [] cpos) (E3 X.K T r to t):=by
 intro pins s σ H Q I h;refine wpAny_Call_method_late hbase hfew hline rfl (cZ (ho pins s σ H _ I h) fun v s1 ⟨x,H1,I1,r1,ty,q1⟩=>?_);obtain⟨h1,h2⟩:=Dq I1 r1 ty;refine⟨T,id,pa,slot,hty,h1,h2,?_⟩;have hA:=ha cpos pins s1 σ H1 _ I1 q1;rw [hs]at hA ⊢
 refine Calls.callWith_builtin (by show(false || (backTo cpos (starEach es X.env)).any (·.1))=false;rw [hplain]<;>rfl) (Calls.evalArgs_plain ?_)
 exact cZ hA fun us s2 ⟨vs,H2,I2,r2,q2⟩=>hm pins s2 σ H2 x vs v us Q I2 r1 r2 q2
end
end L2
namespace L2
open PySem PySem.Spec PyProof.Rows
def EG(X:Cx)(id:String)(r:V→List V→Hp→VK→Prop):Prop:=
 ∀(pins:List (Addr×Obj)) (s:Shared) (σ:St) (H:Hp) (x:V) (xs:List V) (v:Value) (us:List Value) (Q:VK),aK X pins σ H s→aN x v→aV xs us→r x xs H Q→
  wpAny (model X.prog X.w) X.A (call (.builtin id) (v::us)) (EP X pins σ Q) X.xe s
theorem aV.one:∀{x:V} {us:List Value},aV [x] us→∃u,us=[u]∧aN x u
 | _,_,.cons r .nil=>⟨_,rfl,r⟩
theorem aV.zero:∀{us:List Value},aV [] us→us=[]
 | _,.nil=>rfl
theorem aV.reverse{xs:List V}{us:List Value}(h:aV xs us):aV xs.reverse us.reverse:=by
 induction h with
 | nil=>exact .nil
 | cons r t ih=>rw [List.reverse_cons,List.reverse_cons];exact aV.append ih (.cons r .nil)
theorem aV.rep{xs:List V}{us:List Value}(h:aV xs us):∀k:Nat,aV (List.replicate k xs).flatten (List.replicate k us).flatten
 | 0=>.nil
 | k+1=>by
  rw [ad5,ad5,ag7,ag7];exact aV.append h (aV.rep h k)
theorem kv(its:List Value):∀(k:Nat) (acc:List Value),
  List.foldl (fun x1 x2=>x1++x2) acc.toArray (List.replicate k its.toArray)=(acc++(List.replicate k its).flatten).toArray
 | 0,acc=>by simp
 | k+1,acc=>by
  have e:acc.toArray++its.toArray=(acc++its).toArray:=by simp
  have e2:(acc++its)++(List.replicate k its).flatten=acc++(List.replicate (k+1) its).flatten:=by
   rw [ad5,ag7,af8]
  rw [←e2,←kv its k (acc++its),←e,ad5,ah3]
section
variable {X:Cx} {pins:List (Addr×Obj)} {σ:St} {H:Hp} {s:Shared} {l b:Addr} {xs ys zs:List V}
theorem aK.lset{its its':List Value}{n:Nat}{f:Array Value→Array Value}{t':Nat}(I:aK X pins σ H s)(hH:H l=some (.lst xs))
  (e:s.heap.get? l=some { cls:=.type "list",data:=.seq its.toArray n }) (hf:f its.toArray=its'.toArray) (hv:aV ys its') (hz:ys.length≤sizeLine) :
  aK X pins σ (upd H l (.lst ys)) { s with heap:=s.heap.update l (Obj.mapSeq f),toks:=t' }:=by
 have q:=PySem.IsL.update e f;rw [hf]at q;refine I.write (x:=l) (e:=l) (by rw [hH];exact trivial) (.inl rfl) (fun b' u hb hu=>(ac4 s.heap (Obj.mapSeq f) (Ne.symm hb)).trans hu) ⟨_,q⟩ ?_;exact⟨hz,its',_,hv,q⟩
theorem aK.lnew{its:List Value}{t':Nat}(I:aK X pins σ H s)(hv:aV ys its)(hz:ys.length≤sizeLine):
  aK X pins σ (upd H s.heap.objs.size (.lst ys)) { s with heap:=s.heap.push { cls:=.type "list",data:=.seq its.toArray },toks:=t' }:=
 I.laid (fun _ _ q=>aa3 _ q) (aa7 _) ⟨hz,its,0,hv,ab9 _ rfl⟩
theorem aK.fresh(I:aK X pins σ H s):H s.heap.objs.size=none:=I.hok.fresh (aa7 _)
theorem aK.lstM(I:aK X pins σ H s)(hH:H l=some (.lst xs)):xs.length≤sizeLine∧∃(its:List Value) (n:Nat),aV xs its∧xs.length=its.length∧s.heap.get? l=some { cls:=.type "list",data:=.seq its.toArray n }:=by
 obtain⟨z,its,n,r,e⟩:=I.hok l _ hH;exact⟨z,its,n,r,r.length,e⟩
theorem sj{n:Nat}(h:n≤sizeLine):Builtin.List.listTooLong n=false:=by
 unfold Builtin.List.listTooLong;exact decide_eq_false (by omega)
end
section
variable {X:Cx}
def A5:V→List V→Hp→VK→Prop:=fun x vs H Q=>∃l xs y,x=.ref l∧vs=[y]∧H l=some (.lst xs)∧xs.length < sizeLine∧Q .non (upd H l (.lst (xs++[y])))
theorem dW:EG X "list.append" A5:=by
 intro pins s σ H x vs v us Q I rx rv h;obtain⟨l,xs,y,rfl,rfl,hH,hz,q⟩:=h;cases rx;obtain⟨u,rfl,ru⟩:=rv.one;obtain⟨z,its,n,r,hl,e⟩:=I.lstM hH;refine call_meets F.slot_list_append ⟨_,e,rfl⟩ F.entry_list_append (F.args_list_append_2 _ _) (PySem.list_append l its.toArray n u (by rw [aa9];omega)) ⟨e,?_⟩;refine⟨.non,_,I.lset (its':=its++[u]) hH e (by simp) (r.append (.cons ru .nil)) ?_,rfl,q⟩;rw [ab4,List.length_singleton];omega
def Bb:V→List V→Hp→VK→Prop:=fun x vs H Q=>∃l b xs zs,x=.ref l∧vs=[.ref b]∧H l=some (.lst xs)∧H b=some (.lst zs)∧xs.length+zs.length≤sizeLine∧Q .non (upd H l (.lst (xs++zs)))
theorem kF:EG X "list.extend" Bb:=by
 intro pins s σ H x vs v us Q I rx rv h;obtain⟨l,b,xs,zs,rfl,rfl,hH,hB,hz,q⟩:=h;cases rx;obtain⟨u,rfl,ru⟩:=rv.one;cases ru;obtain⟨z,its,n,r,hl,e⟩:=I.lstM hH;obtain⟨z2,its2,n2,r2,hl2,e2⟩:=I.lstM hB
 have hsz:its.toArray.size+its2.toArray.size≤sizeLine:=by rw [aa9,aa9];omega
 have hlong:¬(!its.toArray.isEmpty && Builtin.List.listTooLong (its.toArray.size+its2.toArray.size))=true:=by
  rw [sj hsz,Bool.and_false];exact aa4
 refine call_meets F.slot_list_extend ⟨_,e,rfl⟩ F.entry_list_extend (F.args_list_extend_2 _ _)
  (AutoSeq1.list_extend_list_list_0 l its.toArray n b its2.toArray n2 hlong (by rw [aa9];omega) (by omega)) ⟨e,e2,?_⟩
 refine⟨.non,_,I.lset (its':=its++its2) hH e (by simp) (r.append r2) ?_,rfl,q⟩;rw [ab4];omega
def A6:R2:=fun x y H Q=>∃l b xs zs,x=.ref l∧y=.ref b∧H l=some (.lst xs)∧H b=some (.lst zs)∧xs.length+zs.length≤sizeLine∧∀p,H p=none→Q (.ref p) (upd H p (.lst (xs++zs)))
theorem op_cat:dY X (binaryOp .Add) A6:=by
 intro pins s σ H x y v u Q I rx ry h;obtain⟨l,b,xs,zs,rfl,rfl,hH,hB,hz,q⟩:=h;cases rx;cases ry;obtain⟨z,its,n,r,hl,e⟩:=I.lstM hH;obtain⟨z2,its2,n2,r2,hl2,e2⟩:=I.lstM hB;refine PySem.P.add_list e e2 ?_ (by rw [aa9,aa9];omega)
 have ea:its.toArray++its2.toArray=(its++its2).toArray:=by simp
 rw [ea];exact⟨.ref _,_,I.lnew (t':=s.toks) (r.append r2) (by rw [ab4];omega),rfl,q _ I.fresh⟩
def Bh:R2:=fun x y H Q=>∃l k xs,x=.ref l∧y=.int k∧H l=some (.lst xs)∧-(2 ^ 63)≤k∧k < 2 ^ 63∧xs.length * k.toNat≤sizeLine∧
 ∀p,H p=none→Q (.ref p) (upd H p (.lst (List.replicate k.toNat xs).flatten))
theorem p8{α:Type}(xs:List α)(k:Nat):(List.replicate k xs).flatten.length=k * xs.length:=by
 induction k with
 | zero=>simp
 | succ k ih=>rw [ad5,ag7,ab4,ih,ak2,Nat.add_comm]
theorem CM:dY X (binaryOp .Mult) Bh:=by
 intro pins s σ H x y v u Q I rx ry h;obtain⟨l,k,xs,rfl,rfl,hH,h1,h2,hz,q⟩:=h;cases rx;obtain⟨t,rfl⟩:=ry;obtain⟨z,its,n,r,hl,e⟩:=I.lstM hH
 have hlen:its.toArray.size * k.toNat≤sizeLine:=by rw [aa9,←hl];exact hz
 have hcap:¬its.toArray.size * k.toNat > (2 ^ 63 - 1) / 8:=by
  have:(sizeLine:Nat)≤(2 ^ 63 - 1) / 8:=by decide
  omega
 have hfit:¬(!Builtin.List.listFitsIndex k)=true:=by
  rw [fitsIndex_both h1 h2];exact aa4
 have hlong:¬Builtin.List.listTooLong (its.toArray.size * k.toNat)=true:=by
  rw [sj hlen];exact aa4
 have hnew:List.foldl (fun x1 x2=>x1++x2) #[] (List.replicate (if its.toArray.isEmpty=true then 0 else k.toNat) its.toArray)=(List.replicate k.toNat its).flatten.toArray:=by
  have f0:∀m:Nat,List.foldl (fun x1 x2=>x1++x2) #[] (List.replicate m its.toArray)=(List.replicate m its).flatten.toArray:=fun m=>by
   have:=kv its m []
   rw [List.nil_append]at this;exact this
  rw [f0]
  cases its with
  | nil=>simp
  | cons a r'=>rw [if_neg (by simp)]
 refine wpAny_binaryOp_repeat_ref (T:="list") (U:="int") (by decide) ⟨_,e,rfl⟩ (fun s'=>typeIs_int s' k t) noFill_list_mul F.fills_int_mul F.slot_int_rmul repeat_list F.slot_int_index.lookup
  (call_meets F.slot_int_rmul (typeIs_int s k t) F.entry_int_rmul (F.args_int_rmul_2 _ _) (int___rmul___int_list k t l its.toArray n)
   ⟨e,rfl,⟨_,e,rfl⟩,call_meets F.slot_list_mul ⟨_,e,rfl⟩ F.entry_list_mul (F.args_list_mul_2 _ _) (AutoListH.list___mul___list_int_3 l its.toArray n k t hfit hcap hlong) ⟨e,?_⟩⟩)
 rw [hnew];exact⟨.ref _,_,I.lnew (t':=s.toks) (r.rep k.toNat) (by rw [p8,aj2];exact hz),rfl,q _ I.fresh⟩
end
section
variable {prog:Program} {w:World} {A:Around} {E:Value→Shared→Prop} {s:Shared}
set_option maxRecDepth 100000 in
end
section
variable {X:Cx}
end
end L2
namespace Att
open PySem PySem.W PySem.Calls PyProof.Rows
theorem lV{P:Params}{h:Heap}:∀(ns:List Int) (vs:List Value),WellAll P h vs (ns.map WData.int)→IntsAre vs ns:=by
 intro ns
 induction ns with
 | nil=>
  intro vs w;rw [ah8]at w;cases w;exact .nil
 | cons n ns ih=>
  intro vs w;rw [ad2]at w
  cases w with
  | cons a b=>
   cases a;exact .cons _ _ (ih _ b)
theorem script_of{l:OpenLaw}{n:Nat}(hn:l.most=some n){P:Params}{h:Heap}{args:List WData}{vals:List Value}
  (hpre:l.row.toRowW.claim.pre args=true) (hwl:WellAll P h vals args) :
  ∃a vs ns,vals=[Value.ref a]∧args=[WData.list (ns.map WData.int)]∧h.get? a=some { cls:=.type "list",data:=.seq vs.toArray }∧IntsAre vs ns∧ns.length≤n:=by
 have hsh:WShape.hasAll [] args [.list .int]=true:=(pre_splitW hpre).1;have hc:l.pre.holds [] { args:=args }=true:=(pre_splitW hpre).2;obtain⟨d,r,rfl,h1,h2⟩:=hasAllW_cons hsh;obtain rfl:=hasAllW_nil h2;obtain⟨xs,rfl,h3⟩:=hasW_list h1;obtain⟨ns,rfl⟩:=items_int h3
 have hlen:ns.length≤n:=by
  unfold OpenLaw.pre at hc
  have h4:(WTm.not (.lt (.lit (.int (n:Int))) (.len (.arg 0)))).holds [] { args:=[.list (ns.map .int)] }=true:=by
   have h4:=(holds_andW hc).1;rw [hn]at h4;exact h4
  have h5:=condW_of h4 (w_not (w_lt w_lit (w_len_list (w_arg rfl))));rw [aa0]at h5;refine Nat.le_of_not_lt fun q=>?_
  have q':(n:Int) < ((ns.length:Nat):Int):=by omega
  first
   | (rw [decide_eq_true q']at h5;exact absurd h5 (by decide))
   | (simp at h5;omega)
 cases hwl with
 | cons w1 w2=>
  cases w2
  cases w1 with
  | list ho hall=>exact⟨_,_,ns,rfl,rfl,ho,lV ns _ hall,hlen⟩
theorem post_true(l:OpenLaw)(args:List WData):l.row.toRowW.claim.post args (.bool true) args=true:=
 postW_of (r:=l.row.toRowW) (X:=(true == true))
  (show WShape.has [] (.bool true) .bool=true by first | rfl | decide | simp [WShape.has,WShape.arms,WShape.armsAll])
  (show(WTm.eq .res (.lit (.bool true))).value [] { args:=args,res:=some (.bool true),after:=args }=some (.bool (true == true))from w_eq_bool (w_res rfl) w_lit) rfl
theorem attach_call{l:OpenLaw}{n:Nat}{q:Program}{loose:List Str}{XP:(Str→Option Value)→Heap→Prop}{YP:World→Heap→Prop}{d:DefRec}
  (hn:l.most=some n) (hdf:d.params.defaults=[])
  (call:∀(w:World) (s₀ s₁:Shared) (mg mb:Str→Option Value) (fa:Addr) (o:Obj) (pm cd doc:Value) (a:Addr) (vs:List Value) (ns:List Int),
   Ground q loose [] XP w s₀ mg mb s₁.heap→YP w s₁.heap→
   s₁.heap.get? fa=some o→o.data=.func (docDef d.name d.params d.body d.scope pm cd doc)→s₁.heap.CodeRec cd d.name→mg d.name=some (.ref fa)→
   s₁.heap.get? a=some { cls:=.type "list",data:=.seq vs.toArray }→IntsAre vs ns→ns.length≤n→s₁.gens=#[]→
   codeAny (model l.prog w) callerA (.call (.ref fa) ⟨[.ref a],[]⟩) (fun r s'=>r=.ok (.ret (.bool true))∧OldK s₁.heap s'.heap∧s'.os=s₁.os∧AllBare s'.gens) s₁) :
  WalkO q loose XP YP l.row.toRowW d [] (fun f vs=>PySem.call f vs):=by
 intro w s₀ s₁ mg mb G Y fa o pm cd doc dV kV ho hd hcd hD hmg hg args vals as hpre hlay hrd hwl hlo;obtain rfl:dV=.none:=Dflts.none hD hdf;obtain rfl:kV=.none:=Dflts.noKw hD;obtain⟨a,vs,ns,rfl,rfl,hobj,hints,hlen⟩:=script_of hn hpre hwl;refine enter_call (codeAny_mono (call w s₀ s₁ mg mb fa o pm cd doc a vs ns G Y ho (fd_plain hd) hcd hmg hobj hints hlen hg) fun r s' hq=>?_);obtain⟨rfl,h2,h3,h4⟩:=hq;exact⟨.inl ⟨.bool true,.bool true,[],rfl,fun _=>rfl,.bool true,post_true l _,fun _=>⟨List.Pairwise.nil,fun _ hm=>(nomatch hm)⟩⟩,h2,h3,h4⟩
section
variable {prog:Program} {w:World} {A:Around} {E:Value→Shared→Prop} {s:Shared} {K:Frag}
end
end Att
namespace L2
open PySem PySem.Spec PyProof.Rows
theorem pM:∀{vs:List Value} {ns:List Int},IntsAre vs ns→aV (ns.map V.int) vs
 | _,_,.nil=>.nil
 | _,_,.cons n t h=>.cons ⟨t,rfl⟩ (pM h)
def zX(H:Hp):Prop:=∀b,H b=none∨∃o xs,H b=some (.frz o (.lst xs))
theorem r9{P:Program}{w:World}{K:Frag}{mg mb:Str→Option Value}{CX:rg}{k:Nat}{fa a:Addr}{fd:FuncData}{x:Str}{sp:Sp}{s₁:Shared}{vs:List Value}{ns:List Int}
  (KX:K.In s₁.heap) (hns:s₁.heap.Ns mainGlobals mg) (hb:s₁.heap.Ns builtinsNs mb) (hbb:∀x:Str,x≠"__name__"→mb x=bootBuiltins x) (hlim:s₁.heap.NoLimit) (hg:s₁.gens=#[])
  (ha:s₁.heap.get? a=some { cls:=.type "list",data:=.seq vs.toArray }) (hi:IntsAre vs ns) (hl:ns.length≤sizeLine) (hr:dn k callerA)
  (F:∀base:Heap,K.In base→base.Ns mainGlobals mg→aH P w K mg base CX k fa fd [x] sp) (hbind:∀(s:Shared) (u:Value),BindsTo s fd ⟨[u],[]⟩ [(x,u)])
  (hsp:∀H:Hp,zX H→aT K H a (ns.map V.int)→sp [.ref a] H (fun v _=>v=.bl true) fun _ _ _=>False)
  (hCX:∀H e s',CX [] H s₁ (fun _ _ _=>False) e s'→False) :
  codeAny (model P w) callerA (.call (.ref fa) ⟨[.ref a],[]⟩) (fun r s'=>r=.ok (.ret (.bool true))∧OldK s₁.heap s'.heap∧s'.os=s₁.os∧AllBare s'.gens) s₁:=by
 have rv:=pM hi;have lenV:=hi.length
 have core:∀H:Hp,zX H→aT K H a (ns.map V.int)→i6 P w H s₁.heap→(∀b,H b≠none→b=a)→(H a≠none→K.lookup a=none)→
   codeAny (model P w) callerA (.call (.ref fa) ⟨[.ref a],[]⟩) (fun r s'=>r=.ok (.ret (.bool true))∧OldK s₁.heap s'.heap∧s'.os=s₁.os∧AllBare s'.gens) s₁:=by
  intro H hO hS hok hA hK;have base_of:∀{b:Addr} {o:Obj},s₁.heap.get? b=some o→H b=none→(p0 s₁.heap H).get? b=some o:=fun e n=>yj e n
  have zR:∀{b:Addr} {o:Obj} {es:Array DictEntry} {ep:Nat},s₁.heap.get? b=some o→o.data=.dict es ep→H b=none:=fun {b o es ep} e d=>by
   cases q:H b with
   | none=>rfl
   | some u=>
    have e':b=a:=hA b (by rw [q];simp);subst e';rw [ha]at e;cases e;have d':Data.seq vs.toArray _=Data.dict es ep:=d;cases d'
  have nsK:∀{b:Addr} {m:Str→Option Value},s₁.heap.Ns b m→(p0 s₁.heap H).Ns b m:=fun {b m} ⟨o,es,ep,e,d,r⟩=>⟨o,es,ep,base_of e (zR e d),d,r⟩
  have hKb:K.In (p0 s₁.heap H):=fun b o e=>base_of (KX b o e) (by
   cases q:H b with
   | none=>rfl
   | some u=>
    have e':b=a:=hA b (by rw [q];simp);subst e'
    rw [hK (by rw [q];simp)]at e;cases e)
  have hM:Mod K mg (p0 s₁.heap H):=⟨hKb,nsK hns,⟨mb,nsK hb,hbb⟩,let ⟨mc,h1,h2⟩:=hlim;⟨mc,nsK h1,h2⟩⟩;have e0:tF P w K mg (p0 s₁.heap H) callerA [] s₁ H:=⟨rfl,hM,fun b o e=>AB e,Nat.le_of_eq (wH _ _),trivial,fun b hb=>absurd (show b∈([]:List Addr)from hb) (by simp),hok,.of_eq hg⟩;refine codeAny_mono ((F _ hKb (nsK hns)).run callerA [] s₁ H ⟨[.ref a],[]⟩ [.ref a] [.ref a] _ _ hr e0 (hbind s₁ (.ref a)) (.cons rfl .nil) (hsp H hO hS)) fun r s' h=>?_
  cases r with
  | error e=>exact(hCX H e s' h).elim
  | ok fl=>
   cases fl with
   | next=>exact False.elim h
   | brk=>exact False.elim h
   | cont=>exact False.elim h
   | ret u=>
    obtain⟨v,H',os,bare,un,hok',r',q⟩:=h;have q':v=.bl true:=q;subst q';obtain rfl:u=Value.bool true:=r';refine⟨rfl,OldK.of_keep fun b o e=>?_,os,bare⟩
    cases q:H b with
    | none=>exact un.keep b o e q (by intro z;exact absurd (show b∈([]:List Addr)from z) (by simp)) (by simp)
    | some u=>
     rcases hO b with z | ⟨ob,xs,z⟩
     ·rw [q]at z;cases z
     ·have z2:=un.frzs b ob _ z
      obtain⟨e1,_⟩:=hok b _ z;obtain⟨e2,_⟩:=hok' b _ z2;rw [e]at e1;cases e1;exact e2
 cases hk:K.lookup a with
 | some o=>
  have e:=KX a o hk;rw [ha]at e;cases e;refine core (fun _=>none) (fun _=>.inl rfl) (.inr ⟨_,vs.toArray,_,hk,rfl,rfl,rfl,by rw [aa9,lenV];exact hl,by simpa using rv⟩) (fun b u z=>by have z':(none:Option HO)=some u:=z;cases z') (fun b z=>absurd rfl z) fun z=>absurd rfl z
 | none=>
  refine core (fun b=>if b=a then some (.frz { cls:=.type "list",data:=.seq vs.toArray } (.lst (ns.map V.int)))else none) (fun b=>?_) (.inl (.inr ⟨{ cls:=.type "list",data:=.seq vs.toArray },if_pos rfl⟩)) (fun b u z=>?_) (fun b z=>?_) fun _=>hk
  ·by_cases hb:b=a
   ·exact .inr ⟨_,_,if_pos hb⟩
   ·exact .inl (if_neg hb)
  ·by_cases hb:b=a
   ·have z':=(if_pos hb).symm.trans z
    cases z';subst hb;exact⟨ha,by rw [aa0];exact hl,vs,_,rv,ha⟩
   ·have z':=(if_neg hb).symm.trans z
    cases z'
  ·by_cases hb:b=a
   ·exact hb
   ·exact absurd (if_neg hb) z
end L2
namespace L2
open PySem PySem.Spec PyProof.Rows
abbrev KOf{K:Frag}{h:Heap}(_:K.In h):Frag:=K
theorem walk_of{l:PySem.W.OpenLaw}{n k:Nat}{q:Program}{loose:List Str}{XP:(Str→Option Value)→Heap→Prop}{YP:World→Heap→Prop}{d:DefRec}{K:Params→Frag}{CX:World→rg}{sp:World→Sp}{x:Str}
  (hn:l.most=some n) (hn2:n≤sizeLine) (hdf:d.params.defaults=[]) (hr:dn k callerA)
  (hY:∀(w:World) (h:Heap),YP w h→(K w.params).In h)
  (F:∀(w:World) (mg:Str→Option Value) (fa:Addr) (h:Heap),(K w.params).In h→h.Ns mainGlobals mg→mg d.name=some (.ref fa)→
   ∃fd:FuncData,(∀(s:Shared) (u:Value),BindsTo s fd ⟨[u],[]⟩ [(x,u)])∧
    ∀base:Heap,(K w.params).In base→base.Ns mainGlobals mg→aH l.prog w (K w.params) mg base (CX w) k fa fd [x] (sp w))
  (hsp:∀(w:World) (H:Hp) (a:Addr) (ns:List Int),ns.length≤n→zX H→aT (K w.params) H a (ns.map V.int)→sp w [.ref a] H (fun v _=>v=.bl true) fun _ _ _=>False)
  (hCX:∀(w:World) (H:Hp) (s:Shared) (e:Value) (s':Shared),CX w [] H s (fun _ _ _=>False) e s'→False) :
  PySem.W.WalkO q loose XP YP l.row.toRowW d [] (fun f vs=>PySem.call f vs):=by
 refine Att.attach_call hn hdf fun w s₀ s₁ mg mb fa o pm cd doc a vs ns G Y ho hd hcd hmg hobj hints hlen hg=>?_;have KX:=hY w _ Y;obtain⟨fd,hb,hF⟩:=F w mg fa _ KX G.T.g hmg;exact r9 KX G.T.g G.T.b G.T.builtins G.T.nolimit hg hobj hints (ab8 hlen hn2) hr hF hb (fun H hO hS=>hsp w H a ns hlen hO hS) fun H e s'=>hCX w H s₁ e s'
end L2
namespace L2
open PySem PySem.Spec PyProof.Rows
def bh(s:Stmt)(j:Nat):Stmt:=match s with
 | .ClassDef _ _ _ body _ _ _ _ _ _ _=>body.getD j (.Pass ⟨0,0,0,0⟩)
 | _=>.Pass ⟨0,0,0,0⟩
def dC(s:Stmt):Arguments:=match s with
 | .FunctionDef _ a _ _ _ _ _ _ _ _=>a
 | _=>{ posonlyargs:=[],args:=[],vararg:=none,kwonlyargs:=[],kw_defaults:=[],kwarg:=none,defaults:=[] }
def cO(s:Stmt):List Stmt:=match s with
 | .FunctionDef _ _ b _ _ _ _ _ _ _=>b
 | _=>[]
def aq(s:Stmt):Scope:=match s with
 | .FunctionDef _ _ _ _ _ _ sc _ _ _=>sc
 | _=>{ kind:=.function,names:=[],isGenerator:=false,isCoroutine:=false }
abbrev cb:rg:=fun _ _ _ _ _ _=>False
abbrev E0:XK:=fun _ _ _=>False
theorem nh{X:Cx}:hG cb X E0:=fun _ _ _ _ _ _ _ h=>h.elim
structure cT(K:Frag)(x qual:Str)(st:Stmt)(f:Addr)(fd:FuncData):Prop where
 ex:∃(oc:Value) (od:Option Addr) (kV doc pm:Value) (an:Option Addr) (cdv ct:Value) (osl:Array (Option Value)),
  fd=fnOf x qual (dC st) (cO st) (aq st) .none kV doc pm an cdv ct∧K.lookup f=some ⟨oc,od,.func fd,osl⟩∧codeIn K cdv qual=true
 kp:keepIn K (.ref f)=true
section
variable {P:Program} {w:World} {K:Frag} {mg:Str→Option Value} {base:Heap}
theorem cT.ok{x qual:Str}{st:Stmt}{f:Addr}{fd:FuncData}{N ps:List Str}{k:Nat}{sp:Sp}(F:cT K x qual st f fd)(S:ay N ps (aq st))(len:∀vs H Q E,sp vs H Q E→vs.length=ps.length)
  (hbody:∀(cdv:Value) (A:Around) (outer:List Env) (s:Shared) (H:Hp) (vs:List V) (Q:VK) (E:XK),dn k (A.deeper (envOfC qual (aq st) s.heap.objs.size f cdv))→sp vs H Q E→
   ∃t,tw (kr cb P w K mg base N qual (aq st) f cdv A outer s H E).nox (cO st) t∧t { nx:=fun _ H'=>Q .non H',rt:=Q } (start N vs) H):aH P w K mg base cb (k+1) f fd ps sp:=by
 obtain⟨oc,od,kV,doc,pm,an,cdv,ct,osl,rfl,lk,hcd⟩:=F.ex;refine yf lk hcd S len fun A outer s H vs Q E hr hsp=>?_;obtain⟨t,h,q⟩:=hbody cdv A outer s H vs Q E hr hsp;exact⟨t,h.nox,q⟩
theorem cT.binds{x qual:Str}{st:Stmt}{f:Addr}{fd:FuncData}{ps:List Str}(F:cT K x qual st f fd)
  (h:∀(kV doc pm:Value) (an:Option Addr) (cdv ct:Value) (us:List Value),us.length=ps.length→bindArgs (fnOf x qual (dC st) (cO st) (aq st) .none kV doc pm an cdv ct) ⟨us,[]⟩=pure (ps.zip us)):dF K fd ps []:=by
 obtain⟨oc,od,kV,doc,pm,an,cdv,ct,osl,rfl,lk,hcd⟩:=F.ex;exact .all (h kV doc pm an cdv ct)
theorem fun_mk{x qual:Str}{st:Stmt}{f:Addr}{oc:Value}{od an:Option Addr}{osl:Array (Option Value)}{kV doc pm cdv ct:Value}(l:K.lookup f=some ⟨oc,od,.func (fnOf x qual (dC st) (cO st) (aq st) .none kV doc pm an cdv ct),osl⟩)
  (c:codeIn K cdv qual=true) (k:keepIn K (.ref f)=true):cT K x qual st f (fnOf x qual (dC st) (cO st) (aq st) .none kV doc pm an cdv ct):=⟨⟨oc,od,kV,doc,pm,an,cdv,ct,osl,rfl,l,c⟩,k⟩
end
section
variable {X:Cx}
theorem pv(i:Nat){x:Str}{pos:Pos}(hN:X.N[i]?=some x:=by rfl)(hv:Dz X.env.scope x:=by first | exact Or.inl rfl | exact Or.inr (Or.inl rfl) | exact Or.inr (Or.inr rfl))(hd:(x == ("__debug__":Str))=false:=by decide)
  (hcd:(x == ("__classdict__":Str))=false:=by decide):PE X (.Name x pos) (Bp i):=yX hN hv hd hcd
end
def au(H H':Hp):Prop:=∀b o,H b=some o→H' b=some o
theorem au.refl(H:Hp):au H H:=fun _ _ h=>h
theorem au.trans{H H1 H2:Hp}(a:au H H1)(b:au H1 H2):au H H2:=fun c o h=>b c o (a c o h)
theorem au.free{H H':Hp}(e:au H H'){l:Addr}(h:H' l=Option.none):H l=Option.none:=by
 cases q:H l with
 | none=>rfl
 | some o=>
  rw [e l o q]at h;cases h
theorem au.seq{K:Frag}{H H':Hp}{a:Addr}{xs:List V}(e:au H H')(h:aT K H a xs):aT K H' a xs:=by
 rcases h with(h | ⟨o,h⟩) | h
 ·exact .inl (.inl (e _ _ h))
 ·exact .inl (.inr ⟨o,e _ _ h⟩)
 ·exact .inr h
end L2
namespace GM
def stirSt(c p:Int):Nat→Int×Int
 | 0=>(0,(c % 998244341+7919 * p) % 998244353+3)
 | i+1=>((stirSt c p i).1 * 998244353+((stirSt c p i).2 % 4099 * 240007+(stirSt c p i).2 / 4099 * 89+1201 * (i:Int)+11) % 998244353,
   ((stirSt c p i).2 % 4099 * 240007+(stirSt c p i).2 / 4099 * 89+1201 * (i:Int)+11) % 998244353)
def stirF(c p:Int):Int:=(stirSt c p 4).1
theorem lC(c p:Int):∀i:Nat,0≤(stirSt c p i).1∧(stirSt c p i).1+1≤998244353 ^ i
 | 0=>⟨Int.le_refl _,Int.le_refl _⟩
 | i+1=>by
  obtain⟨h1,h2⟩:=lC c p i;have h3:=ai9 ((stirSt c p i).2 % 4099 * 240007+(stirSt c p i).2 / 4099 * 89+1201 * (i:Int)+11) (show(998244353:Int)≠0 by decide);have h4:=ah5 ((stirSt c p i).2 % 4099 * 240007+(stirSt c p i).2 / 4099 * 89+1201 * (i:Int)+11) (show(0:Int) < 998244353 by decide);have e:(998244353:Int) ^ (i+1)=998244353 ^ i * 998244353:=Int.pow_succ ..;simp only [stirSt];rw [e];generalize((stirSt c p i).2 % 4099 * 240007+(stirSt c p i).2 / 4099 * 89+1201 * (i:Int)+11) % 998244353=r at h3 h4;generalize(stirSt c p i).1=f at h1 h2;generalize(998244353:Int) ^ i=q at h2;omega
theorem tj(c p:Int):0≤stirF c p:=(lC c p 4).1
theorem zw(c p:Int):stirF c p < 2 ^ 128:=by
 have h:=(lC c p 4).2
 have e:(998244353:Int) ^ 4≤2 ^ 128:=by decide
 unfold stirF;omega
def powGo:Nat→Int→Int→Int
 | 0,p,_=>p
 | f+1,p,a=>if p≤a then powGo f (p * 1000000) a else p
theorem kJ:∀(f:Nat) (p a:Int),0 < p→0 < powGo f p a
 | 0,_,_,h=>h
 | f+1,p,a,h=>by
  simp only [powGo]
  split
  ·exact kJ f _ a (by omega)
  ·exact h
theorem sF:∀(f:Nat) (p a b:Int),p≤b→a * 1000000≤b→powGo f p a≤b
 | 0,_,_,_,h,_=>h
 | f+1,p,a,b,h,h'=>by
  simp only [powGo]
  split
  ·exact sF f _ a b (by omega) h'
  ·exact h
def absI(c:Int):Int:=if c < 0 then -c else c
theorem vc(c:Int):0≤absI c:=by unfold absI;split<;>omega
theorem rk(c:Int):absI c=c.natAbs:=by unfold absI;split<;>omega
def powF(c:Int):Int:=powGo ((absI c).toNat+1) 1 (absI c)
def gotF(ns:List Int)(p:Int):Int:=match ns[p.toNat]? with
 | none=>0
 | some c=>absI c+powF c * stirF (absI c) p
theorem Ak(ns:List Int)(p:Int):0≤gotF ns p:=by
 unfold gotF
 split
 ·exact Int.le_refl _
 ·have h1:=vc ‹Int›
  have h2:=Int.mul_nonneg (Int.le_of_lt (kJ ((absI ‹Int›).toNat+1) 1 (absI ‹Int›) (by decide))) (tj (absI ‹Int›) p);unfold powF;omega
theorem powF_lt{n:Nat}{c:Int}(h:c.natAbs < 2 ^ n):(powF c).natAbs < 2 ^ (n+21):=by
 have ha:=vc c
 have hA:absI c < (2:Int) ^ n:=by
  rw [rk]
  exact_mod_cast h
 have hn:(1:Int)≤2 ^ n:=by
  have:1≤2 ^ n:=Nat.one_le_two_pow
  exact_mod_cast this
 have hp:powF c≤2 ^ n * 1000000:=sF _ 1 (absI c) _ (by omega) (by omega);have hp0:0 < powF c:=kJ _ _ _ (by decide);have e:(2:Int) ^ (n+21)=2 ^ n * 2 ^ 21:=Int.pow_add ..
 have e2:(2:Int) ^ 21=2097152:=by decide
 have key:powF c < 2 ^ (n+21):=by
  rw [e,e2];generalize(2:Int) ^ n=q at hA hn hp;omega
 have:((powF c).natAbs:Int) < ((2 ^ (n+21):Nat):Int):=by
  rw [Int.natAbs_of_nonneg (Int.le_of_lt hp0)]
  exact_mod_cast key
 exact_mod_cast this
theorem stirF_natAbs(c p:Int):(stirF c p).natAbs < 2 ^ 128:=by
 have h:=zw c p;have h0:=tj c p
 have:((stirF c p).natAbs:Int) < ((2 ^ 128:Nat):Int):=by
  rw [Int.natAbs_of_nonneg h0]
  exact_mod_cast h
 exact_mod_cast this
theorem powGo_stop{f:Nat}{p a:Int}(h:¬p≤a):powGo f p a=p:=by
 cases f with
 | zero=>rfl
 | succ f=>simp only [powGo];rw [if_neg h]
def cellsF(ns:List Int)(lo hi:Int):List Int:=(List.range ((if (ns.length:Int) < hi then(ns.length:Int)else hi) - lo).toNat).map fun(i:Nat)=>gotF ns (lo+i)
theorem cellsF_nn{ns:List Int}{lo hi x:Int}(h:x∈cellsF ns lo hi):0≤x:=by
 obtain⟨i,_,rfl⟩:=ac7.mp h;exact Ak _ _
end GM
set_option maxHeartbeats 4000000
namespace L2
open PySem PySem.Spec PyProof.Rows
def fq(cells:List (Str×Addr)):List (Str×NameKind)→List (Str×Addr)→List (Str×Addr)
 | [],cs=>cs
 | (n,k)::r,cs=>fq cells r (if k == .free then(n,(cells.lookup n).getD 0)::cs else cs)
theorem f9{scope:Scope}{env:Env}(h:∀y∈scope.names,y.2=.free→∃c,env.cells.lookup y.1=some c):closureFor scope env=pure (fq env.cells scope.names []):=by
 simp only [closureFor];generalize scope.names=l at h ⊢
 have key:∀(l:List (Str×NameKind)) (cs:List (Str×Addr)),(∀y∈l,y.2=.free→∃c,env.cells.lookup y.1=some c)→
   (forIn l cs (fun(x:Str×NameKind) (r:List (Str×Addr))=>(if (x.snd == NameKind.free)=true then(do let a ←cellOf env x.fst;pure (ForInStep.yield ((x.fst,a)::r)))else pure (ForInStep.yield r):Sem (ForInStep (List (Str×Addr))))):Sem (List (Str×Addr)))=pure (fq env.cells l cs):=by
  intro l
  induction l with
  | nil=>intro cs _;rfl
  | cons x r ih=>
   intro cs h;obtain⟨n,k⟩:=x;have hr:∀y∈r,y.2=.free→∃c,env.cells.lookup y.1=some c:=fun y hy=>h y (ac9 _ hy);rw [ah4]
   by_cases hk:k=.free
   ·subst hk
    obtain⟨c,hc⟩:=h (n,.free) ac3 rfl
    have e:cellOf env n=pure c:=by unfold cellOf;rw [show env.cells.lookup n=some c from hc]
    simp only [beq_self_eq_true,if_true,e];show(forIn r ((n,c)::cs) _:Sem _)=_;rw [ih _ hr];simp only [fq,beq_self_eq_true,if_true];rw [show env.cells.lookup n=some c from hc];rfl
   ·have hb:(k == NameKind.free)=false:=by simpa using hk
    simp only [hb,ad6,if_false];show(forIn r cs _:Sem _)=_;rw [ih _ hr];simp only [fq,hb,ad6,if_false]
 rw [key l [] h];rfl
theorem oZ{cells:List (Str×Addr)}:∀{l:List (Str×NameKind)} {cs:List (Str×Addr)} {x:Str} {c:Addr},(∀y∈l,y.2=.free→∃c,cells.lookup y.1=some c)→
  (∀x c,cs.lookup x=some c→cells.lookup x=some c)→(fq cells l cs).lookup x=some c→cells.lookup x=some c
 | [],_,_,_,_,hs,e=>hs _ _ e
 | (n,k)::r,cs,x,c,h,hs,e=>by
  refine oZ (l:=r) (fun y hy=>h y (ac9 _ hy)) ?_ e;intro z d
  by_cases hk:k=.free
  ·subst hk
   obtain⟨c',hc'⟩:=h (n,.free) ac3 rfl;have hc'':cells.lookup n=some c':=hc';simp only [beq_self_eq_true,if_true,ae4,hc'',Option.getD_some]
   cases hz:z == n with
   | true=>
    have:z=n:=by simpa using hz
    subst this;intro q;cases q;exact hc''
   | false=>exact hs z d
  ·have hb:(k == NameKind.free)=false:=by simpa using hk
   simp only [hb,ad6,if_false];exact hs z d
theorem kn{cells:List (Str×Addr)}:∀{l:List (Str×NameKind)} {cs:List (Str×Addr)} {x:Str},((x,NameKind.free)∈l∨∃c,cs.lookup x=some c)→∃c,(fq cells l cs).lookup x=some c
 | [],_,_,h=>by
  rcases h with h | h
  ·cases h
  ·exact h
 | (n,k)::r,cs,x,h=>by
  refine kn (l:=r) ?_;rcases h with h | ⟨c,h⟩
  ·rcases aa6.mp h with e | h
   ·cases e
    refine .inr ⟨(cells.lookup n).getD 0,?_⟩;simp only [beq_self_eq_true,if_true,ae4]
   ·exact .inl h
  ·by_cases hk:k=.free
   ·subst hk
    simp only [beq_self_eq_true,if_true,ae4]
    cases hz:x == n with
    | true=>exact .inr ⟨_,rfl⟩
    | false=>exact .inr ⟨c,h⟩
   ·have hb:(k == NameKind.free)=false:=by simpa using hk
    simp only [hb,ad6,if_false];exact .inr ⟨c,h⟩
theorem fE{env:Env}:∀{names:List (Str×NameKind)} {x:Str},
  (names.map fun(n,k)=>if (k == NameKind.free && env.scope.kind == .function && env.kindOf n == some .cell)then(n,NameKind.cell)else(n,k)).lookup x =
   (names.lookup x).map fun k=>if (k == NameKind.free && env.scope.kind == .function && env.kindOf x == some .cell)then NameKind.cell else k
 | [],_=>rfl
 | (n,k)::r,x=>by
  have ih:=@fE env r x;show List.lookup x ((if (k == NameKind.free && env.scope.kind == .function && env.kindOf n == some .cell)=true then(n,NameKind.cell)else(n,k))::_)=_
  cases hx:x == n with
  | true=>
   have e:x=n:=by simpa using hx
   subst e
   by_cases hc:(k == NameKind.free && env.scope.kind == .function && env.kindOf x == some .cell)=true
   ·rw [if_pos hc];simp only [ae4,hx,af3];rw [if_pos hc]
   ·rw [if_neg hc];simp only [ae4,hx,af3];rw [if_neg hc]
  | false=>
   by_cases hc:(k == NameKind.free && env.scope.kind == .function && env.kindOf n == some .cell)=true
   ·rw [if_pos hc];simp only [ae4,hx];exact ih
   ·rw [if_neg hc];simp only [ae4,hx];exact ih
theorem mem_of_lookup{κ ν:Type}[BEq κ][LawfulBEq κ]:∀{l:List (κ×ν)} {x:κ} {v:ν},l.lookup x=some v→(x,v)∈l
 | [],_,_,h=>by cases h
 | (n,k)::r,x,v,h=>by
  rw [ae4]at h
  cases hx:x == n with
  | true=>
   rw [hx]at h
   have e:x=n:=by simpa using hx
   cases h;rw [e];exact ac3
  | false=>
   rw [hx]at h;exact ac9 _ (mem_of_lookup h)
structure bG(X:Cx)(scope:Scope)(js:List Nat):Prop where
 kind:scope.kind=.function
 cell:∀y∈scope.names,y.2≠.cell
 names:∀y∈scope.names,y.2=.local→scope.names.lookup y.1=some .local
 free:∀y∈scope.names,y.2=.free→X.env.kindOf y.1=some .cell∨X.env.kindOf y.1=some .free
 js:∀j∈js,scope.names.lookup (X.N.getD j "")=some .free
def vf(out:Scope)(N:List Str)(scope:Scope)(js:List Nat):Bool:=
 (scope.kind == .function) && scope.names.all (fun y=>y.2 != .cell) && scope.names.all (fun y=>y.2 != .local || scope.names.lookup y.1 == some .local) &&
  scope.names.all (fun y=>y.2 != .free || (out.names.lookup y.1 == some .cell || out.names.lookup y.1 == some .free)) && js.all fun j=>scope.names.lookup (N.getD j "") == some .free
theorem bG.of{X:Cx}{scope:Scope}{js:List Nat}(h:vf X.env.scope X.N scope js=true):bG X scope js:=by
 simp only [vf,ag0,ai4]at h;obtain⟨⟨⟨⟨h1,h2⟩,h3⟩,h4⟩,h5⟩:=h;refine⟨by simpa using h1,fun y hy=>by simpa using h2 y hy,fun y hy e=>?_,fun y hy e=>?_,fun j hj=>by simpa using h5 j hj⟩
 ·have:=h3 y hy
  rw [e]at this;simpa using this
 ·have:=h4 y hy
  rw [e]at this;simpa [Env.kindOf]using this
def gb(X:Cx)(scope:Scope)(own:List Str)(js:List Nat)(C:Addr)(s:Shared)(H:Hp)(ex:List Addr)(pn:List (Addr×Obj))(E:Value→Shared→Prop):Cx where
 prog:=X.prog
 w:=X.w
 K:=X.K
 mg:=X.mg
 base:=X.base
 A:=X.A
 N:=own++js.map fun j=>X.N.getD j ""
 s₀:=s
 H₀:=H
 env:=compEnvC scope (fq X.env.cells scope.names []) C X.env
 outer:=X.stack
 stack:=X.stack
 ex:=ex
 fn:=fun _=>false
 calm:=X.calm
 pn:=pn
 xe:=E
def cσ(n:Nat)(js:List Nat)(σ:St):St:=List.replicate n none++js.map fun j=>σ.getD j none
section
variable {X:Cx} {pins:List (Addr×Obj)} {σ:St} {H H':Hp} {s:Shared} {scope:Scope} {own:List Str} {js:List Nat} {C:Addr} {fp:List Addr} {E:Value→Shared→Prop}
theorem bG.clos(ok:bG X scope js)(I:aK X pins σ H s):∀y∈scope.names,y.2=.free→∃c,X.env.cells.lookup y.1=some c:=fun y hy e=>I.ok.has y.1 (ok.free y hy e)
theorem bG.sub(ok:bG X scope js)(I:aK X pins σ H s){x:Str}{c:Addr}(e:(fq X.env.cells scope.names []).lookup x=some c):X.env.cells.lookup x=some c:=
 oZ (ok.clos I) (fun _ _ z=>by cases z) e
theorem bG.kindOf(ok:bG X scope js){cl:List (Str×Addr)}{x:Str}(h:(compEnvC scope cl C X.env).kindOf x=some .cell∨(compEnvC scope cl C X.env).kindOf x=some .free):(x,NameKind.free)∈scope.names:=by
 have e:(compEnvC scope cl C X.env).kindOf x=(scope.names.lookup x).map fun k=>if (k == NameKind.free && X.env.scope.kind == .function && X.env.kindOf x == some .cell)then NameKind.cell else k:=fE;rw [e]at h
 cases q:scope.names.lookup x with
 | none=>rw [q]at h;simp at h
 | some k=>
  have hm:=mem_of_lookup q
  by_cases hk:k=.free
  ·subst hk;exact hm
  ·have hb:(k == NameKind.free)=false:=by simpa using hk
   rw [q]at h;simp only [af3,hb,Bool.false_and,ad6,if_false]at h;rcases h with h | h
   ·exact absurd (Option.some.inj h) (ok.cell _ hm)
   ·exact absurd (Option.some.inj h) hk
theorem bG.isFree(ok:bG X scope js){cl:List (Str×Addr)}{x:Str}(h:scope.names.lookup x=some .free):(compEnvC scope cl C X.env).kindOf x=some .cell∨(compEnvC scope cl C X.env).kindOf x=some .free:=by
 have e:(compEnvC scope cl C X.env).kindOf x=(scope.names.lookup x).map fun k=>if (k == NameKind.free && X.env.scope.kind == .function && X.env.kindOf x == some .cell)then NameKind.cell else k:=fE;rw [e,h];simp only [af3]
 split
 ·exact .inl rfl
 ·exact .inr rfl
theorem Ab(ok:bG X scope js)(I:aK X pins σ H s)(hC:s.heap.objs.size≤C)(f:∀b∈fp,kg X pins H b)(fo:∀b∈fp,∃o,s.heap.get? b=some o):(gb X scope own js C s H fp (X.pn++pins) E).Ok where
 mod:=I.ok.mod
 kind:=ok.kind
 glob:=I.ok.glob
 blt:=I.ok.blt
 above:=hC
 inj:=fun x y c e1 e2=>I.ok.inj x y c (ok.sub I e1) (ok.sub I e2)
 has:=fun x h=>kn (.inl (ok.kindOf h))
 cab:=fun x c h=>nomatch (show false=true from h)
 hd:=I.ok.hd
 frames:=I.ok.frames
 stk:=.inl rfl
 exf:=fun b hb=>by
  obtain⟨o,e⟩:=fo b hb;obtain⟨_,_,_,_,f4,_⟩:=f b hb;exact⟨ab5 (aa5 (ab2 e) hC),fun x c q=>f4 x c (ok.sub I q)⟩
 bs:=I.bs
 bsz:=ab8 I.ok.bsz I.sz
 noex:=fun b o e hb=>by
  obtain⟨_,_,_,f3,_,_⟩:=f b hb;rcases f3 with z | z
  ·exact I.ok.noex b o e z
  ·exact absurd (aa5 (ab2 e) (ab8 I.ok.bsz z)) (af5 _)
 exfs:=fun b hb hs=>by
  obtain⟨_,f1,f2,_,_,_⟩:=f b hb;rcases aa6.mp (I.stkSub b hs)with e | e
  ·exact f1 e
  ·exact f2 e
 funs:=I.stack
 frf:=I.stkFree
theorem rT{s':Shared}{pins':List (Addr×Obj)}{m:Str→Option Value}(ok:bG X scope js)(I:aK X pins σ H s)(hC:s.heap.objs.size≤C)(f:∀b∈fp,kg X pins H b)(fo:∀b∈fp,∃o,s.heap.get? b=some o)
  (hos:s'.os=s.os) (hg:AllBare s'.gens) (u:Un (mh X.stack) fp H H' s.heap s'.heap) (hn:s'.heap.Ns C m) (hok:i6 X.prog X.w H' s'.heap) (hCf:H' C=none)
  (hp:∀p∈pins',s'.heap.get? p.1=some p.2∧H' p.1=none∧p.1≠C∧p.1∉mh X.stack∧∀v,p.2.data≠.cell v) :
  aK (gb X scope own js C s H fp (X.pn++pins) E) pins' (cσ own.length js σ) H' s':=by
 have Ok:=Ab (own:=own) (E:=E) ok I hC f fo
 have cellAt:∀x c,X.env.cells.lookup x=some c→∀v,s.heap.IsCell c v→s'.heap.IsCell c v:=fun x c e v ⟨o,ho,hd⟩=>by
  have nx:c∉fp:=fun z=>by
   obtain⟨_,_,_,_,f4,_⟩:=f c z;exact f4 x c e rfl
  obtain⟨sl,q⟩:=u.any ho (I.freeC x c e) nx;exact⟨_,q,hd⟩
 refine⟨Ok,hos,hg,u,⟨m,hn,?_⟩,?_,hCf,?_,?_,hok,?_⟩
 ·intro i x v e1 e2 _
  have e1':(own++js.map fun j=>X.N.getD j "")[i]?=some x:=e1;have e2':(List.replicate own.length none++js.map fun j=>σ.getD j none)[i]?=some (some v):=e2
  by_cases hi:i < own.length
  ·rw [ab3 (by simpa using hi),List.getElem?_replicate]at e2'
   split at e2'<;>cases e2'
  ·rw [ab0 (by omega),aa8]at e1'
   rw [ab0 (by simpa using ak3.mp hi),aa8,List.length_replicate]at e2'
   cases hj:js[i - own.length]? with
   | none=>rw [hj]at e1';cases e1'
   | some j=>
    rw [hj]at e1' e2';have ex:X.N.getD j ""=x:=Option.some.inj e1';have ev:σ.getD j none=some v:=Option.some.inj e2';have hjm:j∈js:=ad1 hj
    have hjl:j < σ.length:=by
     apply Classical.byContradiction;intro h;rw [ad4,ai3 (ak3.mp h)]at ev;cases ev
    have hσ:σ[j]?=some (some v):=by
     rw [ad4,aa1 hjl]at ev;rw [aa1 hjl];exact congrArg some ev
    have hNl:j < X.N.length:=by rw [←I.len];exact hjl
    have hN:X.N[j]?=some x:=by
     rw [ad4,aa1 hNl]at ex;rw [aa1 hNl];exact congrArg some ex
    have hfr:scope.names.lookup x=some .free:=by rw [←ex];exact ok.js j hjm
    have hk:=ok.free _ (mem_of_lookup hfr) rfl;obtain⟨m0,_,hl⟩:=I.loc;obtain⟨w',r,l⟩:=hl j x v hN hσ (.inr hk);refine⟨w',r,?_⟩;rcases l with⟨hk',_⟩ | ⟨_,c,hc,hz⟩
    ·have hk'':X.env.kindOf x=some .local:=hk'
     rcases hk with q | q
     ·exact absurd (hk''.symm.trans q) (by intro z;cases z)
     ·exact absurd (hk''.symm.trans q) (by intro z;cases z)
    ·obtain⟨c',hc'⟩:∃c',(fq X.env.cells scope.names []).lookup x=some c':=kn (.inl (mem_of_lookup hfr))
     have e:=ok.sub I hc';rw [hc]at e;cases e;exact .inr ⟨ok.isFree hfr,c,hc',cellAt x c hc _ hz⟩
 ·intro x c e
  obtain⟨v,z⟩:=I.cell x c (ok.sub I e);exact⟨v,cellAt x c (ok.sub I e) v z⟩
 ·intro x c e
  obtain⟨v,o,ho,_⟩:=I.cell x c (ok.sub I e);refine u.free c o ho (I.freeC x c (ok.sub I e)) fun z=>?_;obtain⟨_,_,_,_,f4,_⟩:=f c z;exact f4 x c (ok.sub I e) rfl
 ·intro p hpm
  rcases ac1.mp hpm with h | h
  ·have h':p∈X.pn++pins:=h
   obtain⟨e,n,ne,nf,d⟩:=I.pin p h'
   have nfr:p.1∉mh X.stack:=fun z=>by
    rcases aa6.mp (I.stkSub _ z)with q | q
    ·exact ne q
    ·exact nf q
   have nex:p.1∉fp:=fun z=>by
    obtain⟨_,_,_,_,_,f5⟩:=f p.1 z;exact f5 p h' rfl
   exact⟨u.keep p.1 p.2 e n nfr nex,u.free p.1 p.2 e n nex,ab5 (aa5 (ab2 e) hC),nfr,d⟩
  ·exact hp p h
 ·show(List.replicate own.length none++js.map fun j=>σ.getD j none).length=(own++js.map fun j=>X.N.getD j "").length
  simp
theorem aK.track{D:Addr}{ys:List V}{its:List Value}{n:Nat}(I:aK X pins σ H s)(hn:H D=none)(ho:s.heap.get? D=some { cls:=.type "list",data:=.seq its.toArray n })(r:aV ys its)(hz:ys.length≤sizeLine)
  (h1:D∈X.ex∨X.s₀.heap.objs.size≤D) (hL:D≠X.env.locals) (h2:∀x c,X.env.cells.lookup x=some c→c≠D) (h3:∀p∈X.pn++pins,p.1≠D):aK X pins σ (upd H D (.lst ys)) s:=by
 have ne:∀b o,H b=some o→b≠D:=fun b o e=>ar e hn
 refine I.step (h':=s.heap) (g':=s.gens) (d':=s.drawn) (t':=s.toks) (ch:=[D]) (fun b hb=>?_) (fun b o _ _ _ e _=>e) (fun b o _ _ _ e _=>⟨o.slots,e⟩) (fun b o hc _ n=>?_)
  (fun b o _ e=>⟨o,e⟩) (fun b xs e=>?_) (fun b o u e=>?_) (fun b ps e=>⟨#[],?_⟩) (fun _ z=>z) (fun b u e=>?_) I.bare
 ·have e:b=D:=by simpa using hb
  subst e;exact⟨h1,hL,h2,h3⟩
 ·rw [ak (fun z=>hc (by simp [z]))];exact n
 ·rw [ak (ne _ _ e)];exact e
 ·rw [ak (ne _ _ e)];exact e
 ·rw [ak (ne _ _ e),e];simp
 ·by_cases hb:b=D
  ·subst hb
   rw [ag]at e;cases e;exact⟨hz,its,n,r,ho⟩
  ·rw [ak hb]at e
   exact(I.hok b u e).stay (fun c v _ q=>q) (fun c q=>by rw [ak (ne _ _ q)];exact q) fun c xs q=>by rw [ak (ne _ _ q)];exact q
end
structure Bt(X:Cx)(pins:List (Addr×Obj))(C:Addr):Prop where
 ne:C≠X.env.locals
 old:C∈X.ex∨X.s₀.heap.objs.size≤C
 cells:∀x c,X.env.cells.lookup x=some c→c≠C
 pin:∀p∈X.pn++pins,p.1≠C
theorem Bt.go{X:Cx}{pins:List (Addr×Obj)}{C:Addr}{σ:St}{H:Hp}{s:Shared}{h':Heap}(o:Bt X pins C)(I:aK X pins σ H s)(hn:H C=none)(sb:Heap.SameBut C s.heap h'):aK X pins σ H { s with heap:=h' }:=
 I.turned (t':=s.toks) (fun b q hb e=>(sb.2 b hb).trans e) hn o.ne o.old o.cells o.pin
section
variable {prog:Program} {w:World} {A:Around} {R:Result→Shared→Prop} {s:Shared}
theorem lJ{elt target iter:Expr}{ifs:List Expr}{scope:Scope}{pos:Pos}{it acc:Value}{env:Env}(I:Nat→Shared→Prop)
  (turn:∀n s,I n s→wpAny (model prog w) A (pyNext it) (fun r s₁=>match r with
   | none=>R (.ok .next) s₁
   | some v=>wpAny (model prog w) A (letOwnedTupleGo target it v) (fun _ s₁'=>wpAny (model prog w) A (assign target env v) (fun _ s₂=>
     wpAny (model prog w) A (forIn ifs true fun c r=>if r=true then do let ok ←isTrue c env (eval c env);pure (ForInStep.yield ok)else pure (ForInStep.yield r)) (fun ok s₃=>
      if ok=true then wpAny (model prog w) A (eval elt env) (fun x s₄=>
       wpAny (model prog w) A (call (.builtin "list.append") [acc,x]) (fun _ s₅=>∃m,m < n∧I m s₅) (notedBy (model prog w) A env fun e s'=>R (.error e) s') s₄) (notedBy (model prog w) A env fun e s'=>R (.error e) s') s₃
      else ∃m,m < n∧I m s₃) (notedBy (model prog w) A env fun e s'=>R (.error e) s') s₂) (notedBy (model prog w) A env fun e s'=>R (.error e) s') s₁') (notedBy (model prog w) A env fun e s'=>R (.error e) s') s₁)
    (notedBy (model prog w) A env fun e s'=>R (.error e) s') s)
  (n:Nat) (h:I n s) :
  codeAny (model prog w) A (.compLoop (.ListComp elt [⟨target,iter,ifs,0⟩] scope pos) 0 it acc env) R s:=by
 refine codeAny_loop rfl I (fun n s hI=>?_) n h;show wpAny _ A ((compTurn (.ListComp elt [⟨target,iter,ifs,0⟩] scope pos) 0 it acc env).onRaise (fun x=>do noteFrame x env;theTreesLotGoes x)) _ _ s;refine wpAny_noted ?_;rw [compTurn_list];refine wpAny_bind (wpAny_standAt (wpAny_bind (wpAny_mono (turn n s hI) (fun r s₁ h₁=>?_) fun _ _ h'=>h')))
 cases r with
 | none=>exact wpAny_pure h₁
 | some v=>
  refine wpAny_bind (wpAny_mono h₁ (fun _ s₁' h₁'=>?_) fun _ _ h'=>h');refine wpAny_bind (wpAny_mono h₁' (fun _ s₂ h₂=>wpAny_bind (wpAny_mono h₂ (fun ok s₃ h₃=>?_) fun _ _ h'=>h')) fun _ _ h'=>h')
  cases ok with
  | false=>exact wpAny_pure ⟨rfl,h₃⟩
  | true=>
   exact wpAny_bind (wpAny_bind (wpAny_mono h₃ (fun x s₄ h₄=>wpAny_bind (wpAny_mono h₄ (fun _ s₅ h₅=>wpAny_pure (wpAny_pure ⟨rfl,h₅⟩)) fun _ _ h'=>h')) fun _ _ h'=>h'))
end
def B4(X:Cx)(ifs:List Expr)(t:TT):Prop:=
 ∀(pins:List (Addr×Obj)) (s:Shared) (σ:St) (H:Hp) (Q:Bool→Hp→Prop),aK X pins σ H s→t σ H Q→
  wpAny (model X.prog X.w) X.A (forIn ifs true fun c r=>if r=true then do let ok ←isTrue c X.env (eval c X.env);pure (ForInStep.yield ok)else pure (ForInStep.yield r)) (TP X pins σ Q) X.xe s
def Ej:TT:=fun _ H Q=>Q true H
theorem dE{X:Cx}:B4 X [] Ej:=fun pins s σ H Q I h=>wpAny_tests_nil ⟨H,I,h⟩
theorem A3{X:Cx}{c:Expr}{t:TT}(h:PT X c t):B4 X [c] t:=fun pins s σ H Q I q=>wpAny_tests_one (h pins s σ H Q I q)
def Dh(n:Nat)(js:List Nat)(wi:TI)(g:TG)(tt:TT)(te:TE)(σ:St)(H:Hp)(F:List V→Hp→Prop):Prop:=wi σ H fun J H1=>∃W:Nat→Nat→List V→Hp→Prop,(∃m,W 0 m [] H1)∧∀i m ys H,W i m ys H→
 (J.stop i H∧F ys H)∨
 (J.go i H∧ys.length < sizeLine∧∃N:List V→Hp→Prop,(∀ys' H',N ys' H'→∃m',m' < m∧W (i+1) m' ys' H')∧∀x H',J.yld i H x H'→g x (cσ n js σ) H' fun σ2 H2=>tt σ2 H2 fun b H3=>if b=true then te σ2 H3 fun y H4=>N (ys++[y]) H4 else N ys H3)
def vL(n:Nat)(js:List Nat)(wi:TI)(g:TG)(tt:TT)(te:TE):TE:=fun σ H Q=>Dh n js wi g tt te σ H fun ys H=>∀p,H p=none→Q (.ref p) (upd H p (.lst ys))
section
variable {X:Cx} {scope:Scope} {own:List Str} {js:List Nat} {tg iter elt:Expr} {ifs:List Expr} {wi:TI} {g:TG} {tt:TT} {te:TE} {pos:Pos}
abbrev fW:Value→Shared→Prop:=fun _ _=>False
theorem mJ{pins:List (Addr×Obj)}{σ:St}{H2:Hp}{s2:Shared}{it:Addr}{fp:List Addr}{tn:Nat→Heap→Prop}{J:It}{F:List V→Hp→Prop}{RR:Value→Addr→Result→Shared→Prop}{E:Value→Shared→Prop}
  (hc:X.calm=true) (ok:bG X scope js)
  (hg:∀C s H ex pn,PG (gb X scope own js C s H ex pn fW) tg g) (ht:∀C s H ex pn,B4 (gb X scope own js C s H ex pn fW) ifs tt) (he:∀C s H ex pn,PE (gb X scope own js C s H ex pn fW) elt te)
  (I2:aK X pins σ H2 s2) (T:rj X.prog X.w X.K tg J fp it tn) (st2:tn 0 s2.heap) (f2:∀b∈fp,kg X pins H2 b) {W:Nat→Nat→List V→Hp→Prop} {m0:Nat} (w0:W 0 m0 [] H2)
  (turn:∀i m ys H,W i m ys H→(J.stop i H∧F ys H)∨
   (J.go i H∧ys.length < sizeLine∧∃N:List V→Hp→Prop,(∀ys' H',N ys' H'→∃m',m' < m∧W (i+1) m' ys' H')∧∀x H',J.yld i H x H'→g x (cσ own.length js σ) H' fun σ2 H2=>tt σ2 H2 fun b H3=>if b=true then te σ2 H3 fun y H4=>N (ys++[y]) H4 else N ys H3))
  (hRR:∀(D C:Addr) (s':Shared) (H':Hp) (ys:List V) (m:Str→Option Value),F ys H'→H' D=none→aK X pins σ (upd H' D (.lst ys)) s'→s'.heap.Ns C m→
   Bt X pins C→(upd H' D (.lst ys)) C=none→RR (.ref D) C (.ok .next) s') :
  wpAny (model X.prog X.w) X.A (newList []) (fun acc s₃=>wpAny (model X.prog X.w) X.A (newFunctionEnv scope X.env.globals (fq X.env.cells scope.names []) [] X.env.qual none .none (some X.env)) (fun cenv s₄=>
   codeAny (model X.prog X.w) X.A (.compStart (.ListComp elt [⟨tg,iter,ifs,0⟩] scope pos) 0 (.ref it) acc { cenv with scope:=relabel scope X.env }) (RR acc cenv.locals) s₄) E s₃) E s2:=by
 refine wpAny_newObj_type (wpAny_newFunctionEnv ok.cell (by intro y hy;simp at hy) (fun h₁ hns₁ hsb₁=>?_) ok.kind);dsimp only at hns₁ hsb₁ ⊢;generalize hP:s2.heap.push { cls:=.type "list",dict:=none,data:=.seq ([]:List Value).toArray }=P2 at hns₁ hsb₁ ⊢
 have hC:P2.objs.size=s2.heap.objs.size+1:=by rw [←hP,ag9]
 have hDC:s2.heap.objs.size≠P2.objs.size:=by rw [hC];exact ab5 (af9 _)
 have hCle:s2.heap.objs.size≤P2.objs.size:=by rw [hC];exact ai7 _
 have below:∀b,b < s2.heap.objs.size→b≠P2.objs.size∧b≠s2.heap.objs.size:=fun b hb=>⟨by rw [hC];exact ab5 (ag8 hb),ab5 hb⟩;have old:∀b o,s2.heap.get? b=some o→h₁.get? b=some o:=fun b o e=>hsb₁.extBut b o (below b (ab2 e)).1 (aa3 _ (hP▸aa3 _ e));have hacc:h₁.get? s2.heap.objs.size=some { cls:=.type "list",data:=.seq ([]:List Value).toArray 0 }:=hsb₁.extBut _ _ hDC (aa3 _ (hP▸ab9 _ rfl));generalize hDe:s2.heap.objs.size=D at hacc hDC hCle hC below;generalize hCe:P2.objs.size=C at hns₁ hsb₁ hDC hCle hC below ⊢
 have fo:∀b∈fp,∃o,s2.heap.get? b=some o:=fun b hb=>let ⟨o,e,_⟩:=T.obj _ _ st2 b hb;⟨o,e⟩
 have fD:∀b∈fp,b≠D∧b≠C:=fun b hb=>by
  obtain⟨o,e⟩:=fo b hb
  have:=below b (hDe▸ab2 e)
  exact⟨this.2,this.1⟩
 have H2C:H2 C=none:=I2.hok.fresh (by rw [hDe];exact hCle);have H2D:H2 D=none:=I2.hok.fresh (by rw [hDe];exact aa7 _)
 have stkD:D∉mh X.stack:=fun z=>by
  have h1:=I2.nofs (a:=D) (by rw [hDe];exact aa7 _);rcases aa6.mp (I2.stkSub _ z)with q | q
  ·have:=I2.lt
   rw [←q,hDe]at this;exact af5 _ this
  ·exact h1 q
 have neLoc:D≠X.env.locals∧C≠X.env.locals:=by
  have h1:=I2.lt;rw [hDe]at h1;exact⟨af7 h1,af7 (aa5 h1 hCle)⟩
 have cellLt:∀x c,X.env.cells.lookup x=some c→c < D:=fun x c e=>by
  obtain⟨v,z⟩:=I2.cell x c e;rw [←hDe];exact z.lt
 have pinLt:∀p∈X.pn++pins,p.1 < D:=fun p hp=>by rw [←hDe];exact ab2 (I2.pin p hp).1
 have hs0:X.s₀.heap.objs.size≤D:=by rw [←hDe];exact I2.sz
 have start:∀{s':Shared} {H':Hp} {m:Str→Option Value} {o:Obj},s'.os=s2.os→AllBare s'.gens→Un (mh X.stack) fp H2 H' s2.heap s'.heap→s'.heap.Ns C m→i6 X.prog X.w H' s'.heap→H' C=none→s'.heap.get? D=some o→H' D=none→(∀v,o.data≠.cell v)→
   aK (gb X scope own js C s2 H2 fp (X.pn++pins) fW) [(D,o)] (cσ own.length js σ) H' s':=fun {s' H' m o} a1 a2 a3 a4 a5 a6 a7 a8 a9=>
  rT ok I2 (by rw [hDe];exact hCle) f2 fo a1 a2 a3 a4 a5 a6 fun p hp=>by
   have e:p=(D,o):=by simpa using hp
   subst e;exact⟨a7,a8,hDC,stkD,a9⟩
 have fpC:∀{H':Hp} {o:Obj},(∀b∈fp,H' b=none)→∀b∈fp,kg (gb X scope own js C s2 H2 fp (X.pn++pins) fW) [(D,o)] H' b:=fun {H' o} hn b hb=>by
  obtain⟨_,q1,q2,q3,q4,q5⟩:=f2 b hb;refine⟨hn b hb,(fD b hb).2,fun z=>?_,.inl hb,fun x c e=>q4 x c (ok.sub I2 e),fun p hp=>?_⟩
  ·rcases aa6.mp (I2.stkSub b z)with e | e
   ·exact q1 e
   ·exact q2 e
  ·rcases ac1.mp hp with h | h
   ·exact q5 p h
   ·have e:p=(D,o):=by simpa using h
    subst e;exact(fD b hb).1.symm
 have nocell:∀(its:Array Value) (n:Nat) (v:Option Value),({ cls:=.type "list",data:=.seq its n }:Obj).data≠.cell v:=fun _ _ _ z=>by cases z
 have loop:∀s₃:Shared,s₃={ s2 with heap:=h₁,toks:=s2.toks+([]:List (Str×Value)).length }→
   codeAny (model X.prog X.w) X.A (.compLoop (.ListComp elt [⟨tg,iter,ifs,0⟩] scope pos) 0 (.ref it) (.ref D) (compEnvC scope (fq X.env.cells scope.names []) C X.env)) (RR (.ref D) C) s₃:=by
  rintro s₃ rfl
  refine lJ (fun n s'=>∃i ys its k H',aK (gb X scope own js C s2 H2 fp (X.pn++pins) fW) [(D,{ cls:=.type "list",data:=.seq (its:List Value).toArray k })] (cσ own.length js σ) H' s'∧tn i s'.heap∧(∀b∈fp,H' b=none)∧
   W i n ys H'∧aV ys its∧ys.length≤sizeLine) ?_ m0 ⟨0,[],[],0,H2,start rfl I2.bare (Un.kept old) hns₁ (I2.hok.kept old) H2C hacc H2D (nocell _ _),T.keep _ _ _ st2 (fun b _ o e=>old b o e),fun b hb=>(f2 b hb).1,w0,.nil,ac0 _⟩
  rintro n s3 ⟨i,ys,its,k,H3,I3,st3,fr3,w3,rv,hz⟩;rcases turn i n ys H3 w3 with⟨stop,q⟩ | ⟨go,hlt,N,hN,step⟩
  ·refine wpAny_mono (T.done (gb X scope own js C s2 H2 fp (X.pn++pins) fW) rfl rfl rfl hc i _ s3 _ H3 fW I3 (fpC fr3) st3 stop) (fun r s4 ⟨hr,I4⟩=>?_) fun _ _ f=>f.elim
   subst hr;obtain⟨zD,nD,_⟩:=I4.pin (D,_) (ab1 _ ac3);obtain⟨m,hm,_⟩:=I4.loc;have I5:aK X pins σ H3 s4:=I2.call' I4.os I4.base I4.hok I4.bare fun b hb=>⟨(f2 b hb).2.2.2.1,(f2 b hb).2.1,(f2 b hb).2.2.2.2.1,(f2 b hb).2.2.2.2.2⟩;have I6:aK X pins σ (upd H3 D (.lst ys)) s4:=I5.track nD zD rv hz (.inr hs0) neLoc.1 (fun x c e=>ab5 (cellLt x c e)) fun p hp=>ab5 (pinLt p hp);have nC:H3 C=none:=I4.free;exact hRR D C s4 H3 ys m q nD I6 hm ⟨neLoc.2,.inr (ab8 hs0 hCle),fun x c e=>ab5 (aa5 (cellLt x c e) hCle),fun p hp=>ab5 (aa5 (pinLt p hp) hCle)⟩ (by rw [ak (Ne.symm hDC)];exact nC)
  ·refine wpAny_mono (T.item (gb X scope own js C s2 H2 fp (X.pn++pins) fW) rfl rfl rfl hc i _ s3 _ H3 fW I3 (fpC fr3) st3 go) (fun r s4 ⟨u,hr,h4⟩=>?_) fun _ _ f=>f.elim
   subst hr;refine wpAny_mono h4 (fun _ s5 ⟨x,H5,I5,r5,y5,st5,fr5⟩=>?_) fun _ _ f=>f.elim;have I5':=I5.pinned (fpC fr5) (T.obj _ _ st5);refine wpAny_mono (hg _ _ _ _ _ _ s5 _ H5 x u _ I5' r5 (step x H5 y5)) (fun _ s6 ⟨σ6,H6,I6,q6⟩=>?_) fun _ _ f=>f.elim;refine wpAny_mono (ht _ _ _ _ _ _ s6 σ6 H6 _ I6 q6) (fun b s7 ⟨H7,I7,q7⟩=>?_) fun _ _ f=>f.elim
   have back:∀{s8:Shared} {H8:Hp} {m':Nat} {ys':List V} {its':List Value} {k':Nat},aK (gb X scope own js C s2 H2 fp (X.pn++pins) fW) [] σ6 H8 s8→s8.heap.get? D=some { cls:=.type "list",data:=.seq its'.toArray k' }→H8 D=none→
     (∀b∈fp,∀o,s5.heap.get? b=some o→s8.heap.get? b=some o)→(∀b∈fp,H8 b=none)→W (i+1) m' ys' H8→aV ys' its'→ys'.length≤sizeLine→
     ∃i ys its k H',aK (gb X scope own js C s2 H2 fp (X.pn++pins) fW) [(D,{ cls:=.type "list",data:=.seq (its:List Value).toArray k })] (cσ own.length js σ) H' s8∧tn i s8.heap∧(∀b∈fp,H' b=none)∧W i m' ys H'∧aV ys its∧ys.length≤sizeLine:=
    fun {s8 H8 m' ys' its' k'} J zD nD kf fr w' rv' hz'=>by
     obtain⟨m,hm,_⟩:=J.loc;exact⟨i+1,ys',its',k',H8,start J.os J.bare J.base hm J.hok J.free zD nD (nocell _ _),T.keep _ _ _ st5 kf,fr,w',rv',hz'⟩
   cases b with
   | false=>
    rw [if_neg aa4];rw [if_neg aa4]at q7;obtain⟨m',hm',w'⟩:=hN _ _ q7;have pD:=I7.pin (D,_) (ab1 _ (ae6 _ ac3));refine⟨m',hm',back (I7.pins_of (pins':=[]) fun p hp=>nomatch hp) pD.1 pD.2.1 (fun b hb o e=>(I7.pin (b,o) (ab1 _ (ab1 _ (cW hb e)))).1) (fun b hb=>?_) w' rv hz⟩;obtain⟨o,e,_⟩:=T.obj _ _ st5 b hb;exact(I7.pin (b,o) (ab1 _ (ab1 _ (cW hb e)))).2.1
   | true=>
    rw [if_pos rfl];rw [if_pos rfl]at q7;refine wpAny_mono (he _ _ _ _ _ _ s7 σ6 H7 _ I7 q7) (fun yv s8 ⟨y,H8,I8,r8,q8⟩=>?_) fun _ _ f=>f.elim;obtain⟨m',hm',w'⟩:=hN _ _ q8;have pD:=I8.pin (D,_) (ab1 _ (ae6 _ ac3));refine append_at (hsz:=by rw [aa9,←rv.length];exact hz) pD.1 fun h9 sb9 z9=>?_;have I8':aK (gb X scope own js C s2 H2 fp (X.pn++pins) fW) [] σ6 H8 s8:=I8.pins_of fun p hp=>nomatch hp
    have I9:aK (gb X scope own js C s2 H2 fp (X.pn++pins) fW) [] σ6 H8 { s8 with heap:=h9 }:=I8'.turned (t':=s8.toks) (it:=D) (fun b o hb e=>(sb9.2 b hb).trans e) pD.2.1 hDC (.inr (by show s2.heap.objs.size≤D;rw [hDe];exact aa7 _))
     (fun x c e=>ab5 (cellLt x c (ok.sub I2 e))) fun p hp=>by
      rcases ac1.mp hp with h | h
      ·exact ab5 (pinLt p h)
      ·cases h
    refine⟨m',hm',back (its':=its++[yv]) (k':=k+1) I9 (by rw [z9];simp) pD.2.1 (fun b hb o e=>(sb9.2 b (fD b hb).1).trans (I8.pin (b,o) (ab1 _ (ab1 _ (cW hb e)))).1) (fun b hb=>?_) w' (rv.append (.cons r8 .nil)) (by simp;omega)⟩;obtain⟨o,e,_⟩:=T.obj _ _ st5 b hb;exact(I8.pin (b,o) (ab1 _ (ab1 _ (cW hb e)))).2.1
 exact codeAny_compStart_list (loop _ rfl) (T.self X.A 0 _ _ _ (T.keep _ _ _ st2 (fun b _ o e=>old b o e)) (loop _ rfl))
theorem eu(hc:X.calm=true)(hi:PI X tg iter wi)(ok:bG X scope js)
  (hg:∀C s H ex pn,PG (gb X scope own js C s H ex pn fW) tg g) (ht:∀C s H ex pn,B4 (gb X scope own js C s H ex pn fW) ifs tt) (he:∀C s H ex pn,PE (gb X scope own js C s H ex pn fW) elt te)
  (hs:∀x,foldedSetIterable iter X.env x=pure x:=by intro _;rfl):PE X (.ListComp elt [⟨tg,iter,ifs,0⟩] scope pos) (vL own.length js wi g tt te):=by
 intro pins s σ H Q I h;rw [eval_ListComp];refine wpAny_comprehension_free (use:=none) rfl hs (f9 (ok.clos I)) ok.kind ok.names (cZ (hi pins s σ H _ I h) fun v s1 h1=>cZ h1 fun itv s2 h2=>?_);obtain⟨it,fp,tn,J,H2,e,I2,T,st2,f2,W,⟨m0,w0⟩,turn⟩:=h2;subst e;refine mJ (RR:=fun acc C=>compPost (model X.prog X.w) X.A X.xe none (EP X pins σ Q) acc C) hc ok hg ht he I2 T st2 f2 w0 turn ?_;intro D C s' H' ys m q nD I6 hm o nC;exact⟨m,hm,fun h' sb=>⟨.ref D,_,o.go I6 nC sb,rfl,q D nD⟩⟩
theorem jd{i:Nat}{x:Str}{py spos:Pos}(hN:X.N.Nodup)(hix:X.N[i]?=some x)(hx:BZ X.env.scope x)(hc:X.calm=true)(hi:PI X tg iter wi)(ok:bG X scope js)
  (hg:∀C s H ex pn,PG (gb X scope own js C s H ex pn fW) tg g) (ht:∀C s H ex pn,B4 (gb X scope own js C s H ex pn fW) ifs tt) (he:∀C s H ex pn,PE (gb X scope own js C s H ex pn fW) elt te)
  (hsw:swapsWith (.ListComp elt [⟨tg,iter,ifs,0⟩] scope pos) (some (.Name x py)) spos.line X.env=pure true)
  (hf:X.fn x=true∨X.env.scope.names.lookup x=some .local:=by first | exact .inl rfl | exact .inr rfl | assumption)
  (hs:∀x,foldedSetIterable iter X.env x=pure x:=by intro _;rfl):PS X (.Assign [.Name x py] (.ListComp elt [⟨tg,iter,ifs,0⟩] scope pos) spos) (zx (vL own.length js wi g tt te) (rQ i)):=by
 intro pins s σ H Dd I h;rw [exec_Assign_Name_used _ _ _ _ hsw];refine wpAny_bind (wpAny_standAt (wpAny_bind ?_));show wpAny _ X.A (do let _ ←comprehension (.ListComp elt [⟨tg,iter,ifs,0⟩] scope pos) scope X.env _ (newList []) false (eval iter X.env) (some (assign (.Name x py) X.env))) _ _ s
 refine wpAny_bind (wpAny_mono (wpAny_comprehension_free (use:=some (assign (.Name x py) X.env)) (Q:=fun _ s'=>SP X pins Dd .next s') rfl hs (f9 (ok.clos I)) ok.kind ok.names
  (cZ (hi pins s σ H _ I h) fun v s1 h1=>cZ h1 fun itv s2 h2=>?_)) (fun _ s' hq=>wpAny_pure (wpAny_pure hq)) fun _ _ e=>e)
 obtain⟨it,fp,tn,J,H2,e,I2,T,st2,f2,W,⟨m0,w0⟩,turn⟩:=h2;subst e;refine mJ (RR:=fun acc C=>compPost (model X.prog X.w) X.A X.xe (some (assign (.Name x py) X.env)) (fun _ s'=>SP X pins Dd .next s') acc C) hc ok hg ht he I2 T st2 f2 w0 turn ?_;intro D C s' H' ys m q nD I6 hm o nC;show wpAny _ X.A (assign (.Name x py) X.env (.ref D)) _ _ _;refine wpAny_assign_Name (pI I6 hN hix hx (v:=.ref D) rfl (fun s2' I7 ⟨a,sa,ha⟩=>?_) hf)
 have hCa:C≠a:=by
  rcases ha with e | e
  ·rw [e];exact o.ne
  ·exact fun z=>o.cells x a e z.symm
 exact⟨m,hm.sameBut sa hCa,fun h' sb=>⟨_,_,o.go I7 nC sb,q D nD⟩⟩
end
end L2
namespace L2
open PySem PySem.Spec PyProof.Rows
def zV(X:Cx)(tg:Expr)(r:V→Hp→(It→Hp→Prop)→Prop):Prop:=
 ∀(pins:List (Addr×Obj)) (s:Shared) (σ:St) (H:Hp) (x:V) (v:Value) (R:It→Hp→Prop),aK X pins σ H s→aN x v→r x H R→
  wpAny (model X.prog X.w) X.A (pyIter v) (Ew X pins σ tg R) X.xe s
def zW(z:Str):It:=⟨fun i _=>i < z.length,fun i H x H'=>H'=H∧∃c,z.cps[i]?=some c∧x=.str ⟨#[c]⟩,fun i _=>i=z.length⟩
theorem pN{P:Program}{w:World}{A:Around}(hh:A.handled=none)(I:Addr)(z:Str)(t:Tok){ty:String}(hty:ty="str_ascii_iterator"∨ty="str_iterator"):
  Walks P w A I [I] [I] z.cps.size (SignAt z) (fun i h=>h.IsStrIter I ty z t i):=by
 rcases hty with e | e
 ·subst e;exact Walks.strAscii hh I z t
 ·subst e;exact Walks.strWide hh I z t
theorem zI{P:Program}{w:World}{K:Frag}{tg:Expr}(z:Str)(t:Tok)(it:Addr){ty:String}(hty:ty="str_ascii_iterator"∨ty="str_iterator"):
  rj P w K tg (zW z) [it] it (fun i h=>h.IsStrIter it ty z t i) where
 mem:=by simp
 obj:=fun i h st b hb=>by
  have e:b=it:=by simpa using hb
  subst e;obtain⟨o,e,c,d⟩:=st;exact⟨o,e,fun v z=>by rw [d]at z;cases z⟩
 keep:=fun i h h' st k=>by
  obtain⟨o,e,r⟩:=st;exact⟨o,k it (by simp) o e,r⟩
 item:=by
  intro X hP hw hK hc i pins s σ H E I hf st hg;subst hP hw hK;obtain⟨f0,f1,f2,f3,f4,f5⟩:=hf it (by simp);refine(pN (I.ok.hd hc) it z t hty).item i s _ _ hg st fun v h' tk hv st' kk=>?_;obtain⟨c,u,hcz,rfl⟩:=hv;have I1:aK X pins σ H { s with heap:=h',toks:=tk }:=I.turned (fun b o hb e=>kk b o (by simpa using hb) e) f0 f1 f3 f4 f5;obtain⟨o,e,cl,d⟩:=id st'
  refine⟨_,rfl,vn (s:={ s with heap:=h',toks:=tk }) (n:=ty) e cl d (by rcases hty with q | q<;>(subst q;decide)) ⟨.str ⟨#[c]⟩,H,I1,⟨u,rfl⟩,⟨rfl,c,hcz,rfl⟩,st',fun b hb=>(hf b hb).1⟩⟩
 done:=by
  intro X hP hw hK hc i pins s σ H E I hf st hg;subst hP hw hK;obtain⟨f0,f1,f2,f3,f4,f5⟩:=hf it (by simp);have e:i=z.length:=hg;subst e;exact(pN (I.ok.hd hc) it z t hty).done s _ _ st fun h' tk kk=>⟨rfl,I.turned (fun b o hb e=>kk b o (by simpa using hb) e) f0 f1 f3 f4 f5⟩
 self:=fun A i s Q E st h=>by
  rcases hty with e | e
  ·subst e;exact wpAny_pyIter_striter_ascii st h
  ·subst e;exact wpAny_pyIter_striter_wide st h
section
variable {X:Cx} {tg:Expr}
theorem zV.or{r r':V→Hp→(It→Hp→Prop)→Prop}(h:zV X tg r)(h':zV X tg r'):zV X tg (fun x H R=>r x H R∨r' x H R):=by
 intro pins s σ H x v R I rx q;rcases q with q | q
 ·exact h pins s σ H x v R I rx q
 ·exact h' pins s σ H x v R I rx q
theorem it_list:zV X tg (fun x H R=>∃a,x=.ref a∧(∃xs,aT X.K H a xs)∧R (xD X.K a) H):=by
 intro pins s1 σ H1 x v R I1 r1 q1;obtain⟨a,e,⟨xs,hq⟩,q⟩:=q1;subst e;cases r1;obtain⟨its,rv,p,hz⟩:=I1.list hq;refine wpAny_pyIter_list p.isList ?_;refine⟨s1.heap.objs.size,[s1.heap.objs.size],_,_,H1,rfl,I1.kept (t':=s1.toks) fun b o e=>aa3 _ e,xu a _,⟨_,ab9 _ rfl,rfl,rfl⟩,fun b hb=>?_,q⟩
 have e:b=s1.heap.objs.size:=by simpa using hb
 subst e;exact I1.fpOk (aa7 _) (I1.hok.fresh (aa7 _))
theorem it_tup:zV X tg (fun x H R=>∃a,x=.ref a∧(∃xs,cD X.K H a xs)∧R (EE X.K a) H):=by
 intro pins s1 σ H1 x v R I1 r1 q1;obtain⟨a,e,⟨xs,hq⟩,q⟩:=q1;subst e;cases r1;obtain⟨its,rv,p,hz⟩:=I1.tuple hq;refine wpAny_pyIter_tuple (show s1.heap.IsTuple a its.toArray from p) ?_;refine⟨s1.heap.objs.size,[s1.heap.objs.size],_,_,H1,rfl,I1.kept (t':=s1.toks) fun b o e=>aa3 _ e,u4 a _,⟨_,ab9 _ rfl,rfl,rfl⟩,fun b hb=>?_,q⟩
 have e:b=s1.heap.objs.size:=by simpa using hb
 subst e;exact I1.fpOk (aa7 _) (I1.hok.fresh (aa7 _))
theorem Cj:zV X tg (fun x H R=>∃z,x=.str z∧R (zW z) H):=by
 intro pins s1 σ H1 x v R I1 r1 q1;obtain⟨z,e,q⟩:=q1;subst e;obtain⟨t,rfl⟩:=r1
 have fin:∀(o:Obj) (ty:String),(ty="str_ascii_iterator"∨ty="str_iterator")→(s1.heap.push o).IsStrIter s1.heap.objs.size ty z t 0→Ew X pins σ tg R (.ref s1.heap.objs.size) { s1 with heap:=s1.heap.push o }:=fun o ty hty st=>by
  refine⟨s1.heap.objs.size,[s1.heap.objs.size],_,_,H1,rfl,I1.kept (t':=s1.toks) fun b o e=>aa3 _ e,zI z t _ hty,st,fun b hb=>?_,q⟩
  have e:b=s1.heap.objs.size:=by simpa using hb
  subst e;exact I1.fpOk (aa7 _) (I1.hok.fresh (aa7 _))
 cases ha:z.cps.all (· < 128)
 ·exact wpAny_pyIter_wide ha (fin _ _ (.inr rfl) ⟨_,ab9 _ rfl,rfl,rfl⟩)
 ·exact wpAny_pyIter_ascii ha (fin _ _ (.inl rfl) ⟨_,ab9 _ rfl,rfl,rfl⟩)
def zT(K:Frag):V→Hp→(It→Hp→Prop)→Prop:=fun x H R=>(∃a,x=.ref a∧(∃xs,aT K H a xs)∧R (xD K a) H)∨(∃a,x=.ref a∧(∃xs,cD K H a xs)∧R (EE K a) H)∨∃z,x=.str z∧R (zW z) H
theorem itA:zV X tg (zT X.K):=it_list.or (it_tup.or Cj)
def Ez(r:V→Hp→(It→Hp→Prop)→Prop)(tl:TE):TI:=fun σ H R=>tl σ H fun x H1=>r x H1 R
theorem Ed{l:Expr}{tl:TE}{r:V→Hp→(It→Hp→Prop)→Prop}(hr:zV X tg r)(hl:PE X l tl):PI X tg l (Ez r tl):=by
 intro pins s σ H R I h;exact cZ (hl pins s σ H _ I h) fun v s1 ⟨x,H1,I1,r1,q1⟩=>hr pins s1 σ H1 x v R I1 r1 q1
theorem CP{l:Expr}{tl:TE}(hl:PE X l tl):PI X tg l (Ez (zT X.K) tl):=Ed itA hl
theorem bZ{K:Frag}{H:Hp}{a:Addr}{xs:List V}{R:It→Hp→Prop}(h:aT K H a xs)(q:R (xD K a) H):zT K (.ref a) H R:=.inl ⟨a,rfl,⟨xs,h⟩,q⟩
theorem Bc{K:Frag}{H:Hp}{z:Str}{R:It→Hp→Prop}(q:R (zW z) H):zT K (.str z) H R:=.inr (.inr ⟨z,rfl,q⟩)
end
theorem Ey{z:Str}{g:TG}{tb:TS}{D:e9}{σ:St}{H:Hp}(Pv:Nat→St→Hp→Prop)(h0:Pv 0 σ H)
  (hs:∀i c σ H,z.cps.toList[i]?=some c→Pv i σ H→g (.str ⟨#[c]⟩) σ H fun σ2 H2=>tb { D with nx:=Pv (i+1),ct:=Pv (i+1),bk:=D.nx } σ2 H2) (hd:∀σ H,Pv z.length σ H→D.nx σ H) :
  ∃W:Nat→Nat→St→Hp→Prop,(∃m,W 0 m σ H)∧∀i m σ H,W i m σ H→
   ((zW z).stop i H∧D.nx σ H)∨((zW z).go i H∧∃N:St→Hp→Prop,(∀σ' H',N σ' H'→∃m',m' < m∧W (i+1) m' σ' H')∧∀x H',(zW z).yld i H x H'→g x σ H' fun σ2 H2=>tb { D with nx:=N,ct:=N,bk:=D.nx } σ2 H2):=by
 refine⟨fun i m σ H=>m=z.length - i∧i≤z.length∧Pv i σ H,⟨z.length,by simp,ac0 _,h0⟩,?_⟩;rintro i m σ H ⟨rfl,hi,p⟩
 by_cases hlt:i < z.length
 ·refine .inr ⟨hlt,Pv (i+1),fun σ' H' p'=>⟨z.length - (i+1),by omega,rfl,hlt,p'⟩,fun x H' y=>?_⟩
  obtain⟨e,c,hc,e2⟩:=y;subst e e2;exact hs i c σ _ (by simpa using hc) p
 ·have e:i=z.length:=by omega
  subst e;exact .inl ⟨rfl,hd σ H p⟩
section
variable {n:Nat} {js:List Nat} {g:TG} {tt:TT} {te:TE} {σ:St} {H:Hp} {F:List V→Hp→Prop}
abbrev u7(J:It)(n:Nat)(js:List Nat)(g:TG)(tt:TT)(te:TE)(σ:St)(H:Hp)(F:List V→Hp→Prop):Prop:=
 ∃W:Nat→Nat→List V→Hp→Prop,(∃m,W 0 m [] H)∧∀i m ys H,W i m ys H→(J.stop i H∧F ys H)∨
  (J.go i H∧ys.length < sizeLine∧∃N:List V→Hp→Prop,(∀ys' H',N ys' H'→∃m',m' < m∧W (i+1) m' ys' H')∧∀x H',J.yld i H x H'→g x (cσ n js σ) H' fun σ2 H2=>tt σ2 H2 fun b H3=>if b=true then te σ2 H3 fun y H4=>N (ys++[y]) H4 else N ys H3)
abbrev jD(n:Nat)(js:List Nat)(g:TG)(tt:TT)(te:TE)(σ:St)(x:V)(ys:List V)(H:Hp)(N:List V→Hp→Prop):Prop:=
 g x (cσ n js σ) H fun σ2 H2=>tt σ2 H2 fun b H3=>if b=true then te σ2 H3 fun y H4=>N (ys++[y]) H4 else N ys H3
theorem tK{lo:Int}{k:Nat}(Pv:Nat→List V→Hp→Prop)(hk:k≤sizeLine)(h0:Pv 0 [] H)(hn:∀i ys H,Pv i ys H→ys.length≤i)
  (hs:∀i ys H,i < k→Pv i ys H→jD n js g tt te σ (.int (lo+i)) ys H (Pv (i+1))) (hd:∀ys H,Pv k ys H→F ys H):u7 (xE lo k) n js g tt te σ H F:=by
 refine⟨fun i m ys H=>m=k - i∧i≤k∧Pv i ys H,⟨k,by simp,ac0 _,h0⟩,?_⟩;rintro i m ys H ⟨rfl,hi,p⟩
 by_cases hlt:i < k
 ·refine .inr ⟨hlt,ab6 (hn i ys H p) (aa5 hlt hk),Pv (i+1),fun σ' H' p'=>⟨k - (i+1),by omega,rfl,hlt,p'⟩,fun x H' y=>?_⟩
  obtain⟨e,y⟩:=y;subst e y;exact hs i ys _ hlt p
 ·have e:i=k:=by omega
  subst e;exact .inl ⟨aa7 _,hd ys H p⟩
theorem v7{K:Frag}{a:Addr}{xs:List V}(Pv:Nat→List V→Hp→Prop)(hk:xs.length≤sizeLine)(h0:Pv 0 [] H)(hn:∀i ys H,Pv i ys H→ys.length≤i)(hl:∀i ys H,Pv i ys H→aT K H a xs)
  (hs:∀i x ys H,xs[i]?=some x→Pv i ys H→jD n js g tt te σ x ys H (Pv (i+1))) (hd:∀ys H,Pv xs.length ys H→F ys H):u7 (xD K a) n js g tt te σ H F:=by
 refine⟨fun i m ys H=>m=xs.length - i∧i≤xs.length∧Pv i ys H,⟨xs.length,by simp,ac0 _,h0⟩,?_⟩;rintro i m ys H ⟨rfl,hi,p⟩;have q:=hl i ys H p
 by_cases hlt:i < xs.length
 ·refine .inr ⟨⟨xs,xs[i],q,by simp [hlt]⟩,ab6 (hn i ys H p) (aa5 hlt hk),Pv (i+1),fun σ' H' p'=>⟨xs.length - (i+1),by omega,rfl,hlt,p'⟩,fun x H' y=>?_⟩
  obtain⟨e,y⟩:=y;subst e;exact hs i x ys _ (y xs q) p
 ·have e:i=xs.length:=by omega
  subst e;exact .inl ⟨⟨xs,q,aa7 _⟩,hd ys H p⟩
theorem xK{z:Str}(Pv:Nat→List V→Hp→Prop)(hk:z.length≤sizeLine)(h0:Pv 0 [] H)(hn:∀i ys H,Pv i ys H→ys.length≤i)
  (hs:∀i c ys H,z.cps.toList[i]?=some c→Pv i ys H→jD n js g tt te σ (.str ⟨#[c]⟩) ys H (Pv (i+1))) (hd:∀ys H,Pv z.length ys H→F ys H):u7 (zW z) n js g tt te σ H F:=by
 refine⟨fun i m ys H=>m=z.length - i∧i≤z.length∧Pv i ys H,⟨z.length,by simp,ac0 _,h0⟩,?_⟩;rintro i m ys H ⟨rfl,hi,p⟩
 by_cases hlt:i < z.length
 ·refine .inr ⟨hlt,ab6 (hn i ys H p) (aa5 hlt hk),Pv (i+1),fun σ' H' p'=>⟨z.length - (i+1),by omega,rfl,hlt,p'⟩,fun x H' y=>?_⟩
  obtain⟨e,c,hc,e2⟩:=y;subst e e2;exact hs i c ys _ (by simpa using hc) p
 ·have e:i=z.length:=by omega
  subst e;exact .inl ⟨rfl,hd ys H p⟩
end
theorem xl(xs:Array Nat):∀(n:Nat) (acc:Array Nat),((List.replicate n xs).foldl (· ++ ·) acc).size=acc.size+n * xs.size
 | 0,acc=>by simp
 | n+1,acc=>by
  rw [ad5,ah3,xl xs n,aj8,ak2];omega
theorem pj(xs:Array Nat):∀(n:Nat) (acc:Array Nat),((List.replicate n xs).foldl (· ++ ·) acc).toList=acc.toList++(List.replicate n xs.toList).flatten
 | 0,acc=>by simp
 | n+1,acc=>by
  rw [ad5,ah3,pj xs n,ad5,ag7,af4,af8]
def jS(z:Str)(k:Int):Str:=if k < 1 then Str.empty else if (k == 1 || z.length == 0)=true then z else⟨(List.replicate k.toNat z.cps).foldl (· ++ ·) #[]⟩
theorem uq(z:Str)(k:Int):(jS z k).cps.toList=(List.replicate k.toNat z.cps.toList).flatten:=by
 unfold jS
 split
 ·have e:k.toNat=0:=by omega
  rw [e];rfl
 ·split
  ·rename_i h1 h2
   rw [ag5]at h2;rcases h2 with h2 | h2
   ·have e:k=1:=by simpa using h2
    subst e;simp
   ·have e:z.cps.size=0:=by simpa [Str.length]using h2
    have e2:z.cps.toList=[]:=by
     rw [←ae8];simpa using e
    rw [e2];simp
  ·simpa using pj z.cps k.toNat #[]
theorem sQ(z:Str)(k:Int):(jS z k).length=k.toNat * z.length:=by
 have e:(jS z k).length=(jS z k).cps.toList.length:=by simp [Str.length]
 rw [e,uq,p8];simp [Str.length]
section
variable {X:Cx} {a b c:Expr} {ta tb tc:TE} {pos:Pos}
theorem op_mulB:dY X (binaryOp .Mult) (rI IntMulOk fun i j=>.int (i * j)):=D1 fun _ _ _ _ _ _ _ hc q=>mul_int q hc
theorem op_mul_str:dY X (binaryOp .Mult) (fun x y H Q=>∃z k,x=.str z∧y=.int k∧(-1000000≤k∧k≤1000000∧z.length≤16)∧Q (.str (jS z k)) H):=by
 intro pins s σ H x y v u Q I rx ry h;obtain⟨z,k,rfl,rfl,⟨h2,h1,h3⟩,q⟩:=h;obtain⟨t,rfl⟩:=rx;obtain⟨t',rfl⟩:=ry;have hs:sizeLine=16777216:=sizeLine_eq;have hl:=sQ z k;have hb:z.length * k.toNat≤16 * 1000000:=Nat.mul_le_mul h3 (by omega);rw [aj2]at hl;have fin:∀t' tk,EP X pins σ Q (.str (jS z k) t') { s with toks:=tk }:=fun t' tk=>⟨.str _,H,I.tok _,⟨t',rfl⟩,q⟩;refine P.mul_str ?_ (fun h4 h5=>?_) (fun h4 h5=>?_) ?_
 ·have e1:¬k < -(2 ^ 63:Int):=by omega
  have e2:¬k≥2 ^ 63:=by omega
  rw [decide_eq_false e1,decide_eq_false e2];rfl
 ·have h6:(16:Int)≤(2 ^ 63 - 1) / k:=by
   rw [Int.le_ediv_iff_mul_le (by omega)];omega
  omega
 ·unfold Builtin.Str.tooLong
  exact decide_eq_false (by omega)
 ·unfold jS at fin hl
  by_cases h4:k < 1
  ·rw [if_pos h4]at fin ⊢
   exact⟨by decide,fin _ _⟩
  ·rw [if_neg h4]at fin hl ⊢
   by_cases h5:(k == 1 || z.length == 0)=true
   ·rw [if_pos h5]at fin ⊢
    exact fin t s.toks
   ·rw [if_neg h5]at fin hl ⊢
    exact⟨by omega,fin _ _⟩
def lP:R2:=fun x y H Q=>rI IntMulOk (fun i j=>.int (i * j)) x y H Q∨(∃z k,x=.str z∧y=.int k∧(-1000000≤k∧k≤1000000∧z.length≤16)∧Q (.str (jS z k)) H)∨Bh x y H Q
theorem opMul:dY X (binaryOp .Mult) lP:=op_mulB.or (op_mul_str.or CM)
theorem sI{i j:Int}{H:Hp}{Q:VK}:lP (.int i) (.int j) H Q↔IntMulOk i j∧Q (.int (i * j)) H:=by
 simp [lP,rI,Bh]
theorem sJ{z:Str}{j:Int}{H:Hp}{Q:VK}:lP (.str z) (.int j) H Q↔(-1000000≤j∧j≤1000000∧z.length≤16)∧Q (.str (jS z j)) H:=by
 simp [lP,rI,Bh]
def eE(K:Frag):R2:=fun x y H Q=>tD (fun i j=>.int (i+j)) x y H Q∨(∃i j,x=.str i∧y=.str j∧i.length+j.length≤sizeLine∧Q (.str (i++j)) H)∨A6 x y H Q∨vx K x y H Q
theorem DZ:dY X (binaryOp .Add) (eE X.K):=op_add.or (op_add_str.or (op_cat.or AM))
theorem nu{K:Frag}{i j:Int}{H:Hp}{Q:VK}:eE K (.int i) (.int j) H Q↔Q (.int (i+j)) H:=by
 simp [eE,tD,A6,vx]
theorem y7{K:Frag}{i j:Str}{H:Hp}{Q:VK}:eE K (.str i) (.str j) H Q↔i.length+j.length≤sizeLine∧Q (.str (i++j)) H:=by
 simp [eE,tD,A6,vx]
theorem il{K:Frag}{l b:Addr}{xs zs:List V}{H:Hp}{Q:VK}(h1:H l=some (.lst xs))(h2:H b=some (.lst zs))(hz:xs.length+zs.length≤sizeLine)(q:∀p,H p=none→Q (.ref p) (upd H p (.lst (xs++zs)))):eE K (.ref l) (.ref b) H Q:=
 .inr (.inr (.inl ⟨l,b,xs,zs,rfl,rfl,h1,h2,hz,q⟩))
def C3:V→Option Int→Option Int→Hp→VK→Prop:=fun x lo hi H Q=>∃z,x=.str z∧z.length≤sizeLine∧Q (.str (Txt.slice z lo hi)) H
theorem C9:zN X C3:=by
 intro pins s σ H x v vl vu lo hi sl Q I rx hs pl pu h;obtain⟨z,rfl,hz,q⟩:=h;obtain⟨t,rfl⟩:=rx;have fin:∀t' tk,EP X pins σ Q (.str (Txt.slice z lo hi) t') { s with toks:=tk }:=fun t' tk=>⟨.str _,H,I.tok _,⟨t',rfl⟩,q⟩;refine⟨"str",_,F.slot_str_getitem.lookup,typeIs_str _ _ _,?_⟩
 cases pl with
 | none=>cases pu with
  | none=>exact wpAny_getItem_str_slice (l:=none) (u:=none) (st:=none) hs rfl (post_val_or_str ⟨ab8 (Txt.slice_le z _ _) hz,fun t' k=>fin t' k⟩)
  | int j u=>exact wpAny_getItem_str_slice (l:=none) (u:=some (j,u)) (st:=none) hs rfl (post_val_or_str ⟨ab8 (Txt.slice_le z _ _) hz,fun t' k=>fin t' k⟩)
 | int i u=>cases pu with
  | none=>exact wpAny_getItem_str_slice (l:=some (i,u)) (u:=none) (st:=none) hs rfl (post_val_or_str ⟨ab8 (Txt.slice_le z _ _) hz,fun t' k=>fin t' k⟩)
  | int j u'=>exact wpAny_getItem_str_slice (l:=some (i,u)) (u:=some (j,u')) (st:=none) hs rfl (post_val_or_str ⟨ab8 (Txt.slice_le z _ _) hz,fun t' k=>fin t' k⟩)
def xb(K:Frag):V→Option Int→Option Int→Hp→VK→Prop:=fun x lo hi H Q=>C2 K x lo hi H Q∨C4 K x lo hi H Q∨C3 x lo hi H Q
theorem slA:zN X (xb X.K):=sl_list.or (sl_tup.or C9)
theorem C0{K:Frag}{z:Str}{lo hi:Option Int}{H:Hp}{Q:VK}:xb K (.str z) lo hi H Q↔z.length≤sizeLine∧Q (.str (Txt.slice z lo hi)) H:=by
 simp [xb,C2,C4,C3]
theorem dP{K:Frag}{a:Addr}{xs:List V}{lo hi:Option Int}{H:Hp}{Q:VK}(h:aT K H a xs)(q:∀p,H p=none→Q (.ref p) (upd H p (.lst (ko xs lo hi)))):xb K (.ref a) lo hi H Q:=.inl ⟨a,xs,rfl,h,q⟩
theorem ixA:xF X (Bd X.K):=Co
theorem Ef{K:Frag}{z:Str}{i:Int}{H:Hp}{Q:VK}:Bd K (.str z) (.int i) H Q↔z.length≤sizeLine∧∃c,fm z.cps.toList i=some c∧Q (.str ⟨#[c]⟩) H:=by
 simp [Bd,CW,CZ,CY]
theorem bH{K:Frag}{p:Addr}{xs:List V}{i:Int}{v:V}{H:Hp}{Q:VK}(h:aT K H p xs)(hv:fm xs i=some v)(q:Q v H):Bd K (.ref p) (.int i) H Q:=.inl ⟨p,xs,i,v,rfl,rfl,h,hv,q⟩
theorem dN{K:Frag}{p:Addr}{xs:List V}{i:Int}{v:V}{H:Hp}{Q:VK}(h:cD K H p xs)(hv:fm xs i=some v)(q:Q v H):Bd K (.ref p) (.int i) H Q:=.inr (.inl ⟨p,xs,i,v,rfl,rfl,h,hv,q⟩)
theorem opEq:dY X (compareOp .Eq) pE:=D6
theorem opNe:dY X (compareOp .NotEq) pF:=D8
theorem qr:dY X (compareOp .Lt) (tD fun i j=>.bl (decide (i < j))):=D7
theorem rEq_ii{i j:Int}{H:Hp}{Q:VK}:pE (.int i) (.int j) H Q↔Q (.bl (decide (i=j))) H:=by simp [pE,sW]
theorem qM{i j:Int}{H:Hp}{Q:VK}:pF (.int i) (.int j) H Q↔Q (.bl (!decide (i=j))) H:=by simp [pF,sW]
theorem qK{i j:Str}{H:Hp}{Q:VK}:pE (.str i) (.str j) H Q↔Q (.bl (decide (i=j))) H:=by simp [pE,sW]
theorem qN{i j:Str}{H:Hp}{Q:VK}:pF (.str i) (.str j) H Q↔Q (.bl (!decide (i=j))) H:=by simp [pF,sW]
theorem y8{i j:Bool}{H:Hp}{Q:VK}:pE (.bl i) (.bl j) H Q↔Q (.bl (decide (i=j))) H:=by simp [pE,sW]
theorem zb{i j:Bool}{H:Hp}{Q:VK}:pF (.bl i) (.bl j) H Q↔Q (.bl (!decide (i=j))) H:=by simp [pF,sW]
def w8(K:Frag):R2:=fun x y H Q=>(∃i j,x=.str i∧y=.str j∧Q (.bl (!(Builtin.Str.occurrences j i 0 j.length 1).isEmpty)) H)∨Du K false x y H Q
def iR(K:Frag):R2:=fun x y H Q=>(∃i j,x=.str i∧y=.str j∧Q (.bl (!(!(Builtin.Str.occurrences j i 0 j.length 1).isEmpty))) H)∨Du K true x y H Q
theorem EZ:dY X (compareOp .In) (w8 X.K):=op_in_str.or w5
theorem AL:dY X (compareOp .NotIn) (iR X.K):=op_notin_str.or qu
theorem CU{K:Frag}{c:Nat}{z:Str}{H:Hp}{Q:VK}:w8 K (.str ⟨#[c]⟩) (.str z) H Q↔Q (.bl (decide (c∈z.cps.toList))) H:=by
 simp [w8,Du,StrLaws.found_one]
theorem xa{K:Frag}{c:Nat}{z:Str}{H:Hp}{Q:VK}:iR K (.str ⟨#[c]⟩) (.str z) H Q↔Q (.bl (!decide (c∈z.cps.toList))) H:=by
 have e':(Builtin.Str.occurrences z ⟨#[c]⟩ 0 z.length 1).isEmpty=!decide (c∈z.cps.toList):=by
  rw [←StrLaws.found_one z c,Bool.not_not]
 simp [iR,Du,e']
theorem vV:cz X (.builtin "len") (fun xs H Q=>(∃z,xs=[.str z]∧z.length≤sizeLine∧Q (.int z.length) H)∨∃p ys,xs=[.ref p]∧(aT X.K H p ys∨cD X.K H p ys)∧Q (.int ys.length) H):=call_len_str.or pX
theorem call_int_text:cz X (.type "int") (fun xs H Q=>∃z n,xs=[.str z]∧intText? z=some n∧z.length≤640∧Q (.int n) H):=by
 intro pins s σ H xs us Q I r h;obtain⟨z,n,rfl,hn,hl,q⟩:=h;obtain⟨u,rfl,ru⟩:=eF r;obtain⟨t,rfl⟩:=ru;exact PySem.W.KIN.call_text hn hl ⟨.int n,H,I.tok _,⟨_,rfl⟩,q⟩
theorem gu:cz X (.type "int") (fun xs H Q=>(∃z n,xs=[.str z]∧intText? z=some n∧z.length≤640∧Q (.int n) H)∨((∃i,xs=[.int i]∧Q (.int i) H)∨∃k,xs=[.bl k]∧Q (.int (if k then 1 else 0)) H)):=call_int_text.or vU
theorem gc:xw X "str.startswith" (fun x xs H Q=>∃z y,x=.str z∧xs=[.str y]∧Q (.bl (Txt.startswith z y)) H):=by
 intro pins s σ H x xs v us Q I rx r h;obtain⟨z,y,rfl,rfl,q⟩:=h;obtain⟨t,rfl⟩:=rx;obtain⟨u,rfl,t',rfl⟩:=eF r;exact SC.startswith ⟨.bl _,H,I,rfl,q⟩
theorem rA:cz X (.builtin "isinstance") (fun xs H Q=>∃x n t b,xs=[x,.ty n]∧jz X.K H x t∧kitOne X.K t (.type n)=some b∧Q (.bl b) H):=by
 intro pins s σ H xs us Q I r h;obtain⟨x,n,t,b,rfl,ty,e,q⟩:=h;obtain⟨u,w',rfl,ru,rw'⟩:=pL r;cases rw';exact wJ I ru ty e fun tk=>⟨.bl b,H,I.tok _,rfl,q⟩
theorem nR:∀{bs:List Bool} {us:List Value},aV (bs.map V.bl) us→us=bs.map Value.bool
 | [],_,.nil=>rfl
 | b::bs,_,.cons r t=>by
  have e:_=Value.bool b:=r;rw [ad2,e,nR t]
theorem xc(bs:List Bool):(List.range bs.length).all (fun i=>bs.getD i true)=bs.all id:=by
 induction bs with
 | nil=>rfl
 | cons b bs ih=>
  rw [ac2,List.range_succ_eq_map,ak0,aj3,ak0,←ih];rfl
theorem vT(hc:X.calm=true):cz X (.builtin "all") (fun xs H Q=>∃(p:Addr) (bs:List Bool),xs=[.ref p]∧aT X.K H p (bs.map V.bl)∧Q (.bl (bs.all id)) H):=by
 intro pins s σ H xs us Q I r h;obtain⟨p,bs,rfl,hq,q⟩:=h;obtain⟨u,rfl,ru⟩:=eF r;cases ru;obtain⟨its,rv,pl,hz⟩:=I.list hq;have e:=nR rv;subst e;have hh:X.A.in1.handled=none:=I.ok.hd hc;refine call_all_walk (wpAny_pyIter_list pl.isList ⟨s.heap.objs.size,[s.heap.objs.size,p],[s.heap.objs.size],_,_,_,fun i=>bs.getD i true,rfl,Walks.list hh _ p ?_ _,⟨⟨_,ab9 _ rfl,rfl,rfl⟩,pl.isList.push _⟩,?_,fun h' tk hk=>?_⟩)
 ·obtain⟨o,n,e,_⟩:=pl
  exact ab5 (ab2 e)
 ·intro i v s' Q' E' hv hQ'
  have hv':(bs.map Value.bool)[i]?=some v:=by simpa using hv
  rw [aa8]at hv'
  cases hb:bs[i]? with
  | none=>rw [hb]at hv';cases hv'
  | some b=>
   rw [hb]at hv';cases hv';have hQ2:Q' (bs.getD i true) s':=hQ';rw [ad4,hb]at hQ2;exact wpAny_truthy_bool hQ2
 ·refine⟨.bl (bs.all id),H,I.kept (h':=h') (t':=tk) fun b o e=>hk b o ?_ (aa3 _ e),?_,q⟩
  ·intro z
   have z':b=s.heap.objs.size:=by simpa using z
   exact absurd (ab2 e) (by rw [z'];exact af5 _)
  ·show Value.bool _=Value.bool _
   rw [←xc];simp
theorem d6{x:Str}{v:V}{pos:Pos}(h:∃u,X.mg x=some u∧aN v u)(hg:Gl X x:=by rfl)(hd:(x == ("__debug__":Str))=false:=by decide):PE X (.Name x pos) (tC v):=
 let ⟨_,hm,r⟩:=h;AS hg hm r hd
end
structure cJ(P:Program)(w:World)(K:Frag)(mg:Str→Option Value)(base:Heap)(x:Str)(k:Nat)(ps:List Str)(sp:Sp):Prop where
 ex:∃(f:Addr) (fd:FuncData),aH P w K mg base cb k f fd ps sp∧mg x=some (.ref f)∧keepIn K (.ref f)=true∧dF K fd ps []
section
variable {X:Cx} {k:Nat} {ps:List Str} {sp:Sp} {x:Str} {p pos:Pos} {e:Expr} {es:List Expr} {t:TA}
theorem aC(d:cJ X.prog X.w X.K X.mg X.base x k ps sp)(hr:dn k X.A)(hg:Gl X x)(ha:PA X (e::es) t)(hdb:(x == ("__debug__":Str))=false:=by decide)
  (he:starEach (e::es) X.env=(false,eval e X.env)::starEach es X.env:=by rfl) (hpl:(backTo pos (starEach es X.env)).any (·.1)=false:=by rfl):PE X (.Call (.Name x p) (e::es) [] pos) (nP sp [] E0 t):=
 let ⟨_,_,F,hm,hk,hb⟩:=d.ex;qy F hr hg hm hk hb .nil nh ha hdb he hpl
end
end L2
namespace L3
open PySem PySem.Spec PyProof.Rows
section
variable {prog:Program} {w:World} {A:Around} {E:Value→Shared→Prop} {s:Shared}
theorem qa{it t:Addr}{i:Nat}{its:Array Value}{x:Value}{Q:Value→Shared→Prop}(qi:s.heap.IsTupleIter it t i)(qt:s.heap.IsTuple t its)(qx:its[i]?=some x)
  (hQ:∀h',h'.IsTupleIter it t (i+1)→Heap.SameBut it s.heap h'→Q x { s with heap:=h' }):wpAny (model prog w) A (Builtin.SmallTypes.nextOf (.ref it)) Q E s:=by
 obtain⟨oi,qo,qc,qd⟩:=id qi;obtain⟨ot,qot,_,nt,qdt⟩:=qt;unfold Builtin.SmallTypes.nextOf;refine wpAny_bind (wpAny_callSpecial?_slot (name:=Str.ofString "__next__") qi.typeIs F.slot_tuple_iterator_next (wpAny_call_entry F.slot_tuple_iterator_next qi.typeIs F.entry_tuple_iterator_next ?_ (F.args_tuple_iterator_next_1 _)));show wpAny _ _ (field (.ref it) 0 >>= _) _ _ s;refine wpAny_bind (wpAny_field qo qd (x:=.ref t) rfl ?_);show wpAny _ _ (if (Value.ref t == Value.none)=true then _ else _) _ _ s;rw [if_neg (show ¬((Value.ref t == Value.none)=true)from aa4)];show wpAny _ _ (field (.ref it) 1 >>= _) _ _ s;refine wpAny_bind (wpAny_field qo qd (x:=.int i 0) rfl ?_);show wpAny _ _ (seqItems? (.ref t) >>= _) _ _ s;refine wpAny_bind (wpAny_seqItems qot qdt ?_);simp only [ag6,qx];refine wpAny_bind (wpAny_setField qo qd (by simp) (wpAny_pure ⟨x,rfl,wpAny_pure (hQ _ ?_ (Heap.SameBut.update ..))⟩));exact⟨_,ad8 _ qo (Obj.isFreed_of_fields (Obj.data_mapFields qd _)),(Obj.cls_mapFields ..).trans qc,by rw [Obj.data_mapFields qd];simp [rawInt]⟩
theorem si{it t:Addr}{i:Nat}{its:Array Value}{Q:Value→Shared→Prop}(hh:A.handled=none)(qi:s.heap.IsTupleIter it t i)(qt:s.heap.IsTuple t its)(qx:its[i]?=none)
  (hE:∀h' e,Heap.ExtBut it s.heap h'→(∃o,h'.get? e=some o∧o.cls=.type "StopIteration")→E (.ref e) { s with heap:=h' }):wpAny (model prog w) A (Builtin.SmallTypes.nextOf (.ref it)) Q E s:=by
 obtain⟨oi,qo,qc,qd⟩:=id qi;obtain⟨ot,qot,_,nt,qdt⟩:=qt;unfold Builtin.SmallTypes.nextOf;refine wpAny_bind (wpAny_callSpecial?_slot (name:=Str.ofString "__next__") qi.typeIs F.slot_tuple_iterator_next (wpAny_call_entry F.slot_tuple_iterator_next qi.typeIs F.entry_tuple_iterator_next ?_ (F.args_tuple_iterator_next_1 _)));show wpAny _ _ (field (.ref it) 0 >>= _) _ _ s;refine wpAny_bind (wpAny_field qo qd (x:=.ref t) rfl ?_);show wpAny _ _ (if (Value.ref t == Value.none)=true then _ else _) _ _ s;rw [if_neg (show ¬((Value.ref t == Value.none)=true)from aa4)];show wpAny _ _ (field (.ref it) 1 >>= _) _ _ s;refine wpAny_bind (wpAny_field qo qd (x:=.int i 0) rfl ?_);show wpAny _ _ (seqItems? (.ref t) >>= _) _ _ s;refine wpAny_bind (wpAny_seqItems qot qdt ?_);simp only [ag6,qx];refine wpAny_bind (wpAny_rule (wpAny_bind (wpAny_setField qo qd (by simp) ?_)));show wpAny _ _ (newExc (.type "StopIteration") [] >>= _) _ _ _;refine wpAny_bind ?_;simp only [newExc,newTuple]
 refine wpAny_bind (wpAny_newObj_type ?_ (by size_fits));refine wpAny_bind (m:=firstArgMember _ _) (wpAny_of_eq (a:=Value.none) (by first | rfl | (simp only [firstArgMember];rfl)) ?_)
 refine wpAny_newObj_type ?_ (by size_fits);simp only [raiseNew];refine wpAny_bind (wpAny_handled ?_)
 first | rw [show A.in1.handled=none from hh] | rw [hh]
 exact wpAny_bind (wpAny_pure (wpAny_throw (hE _ _ (((Heap.SameBut.update ..).extBut.push _).push _) ⟨_,ab9 _ rfl,rfl⟩)))
end
theorem draws_tuple{prog:Program}{w:World}{A:Around}(hh:A.handled=none)(it t:Addr)(hne:t≠it)(its:Array Value):
  Draws prog w A it [it,t] its.size (fun i v=>its[i]?=some v) (fun i h=>h.IsTupleIter it t i∧h.IsTuple t its) where
 live:=fun _ _ st=>let ⟨o,ho,_⟩:=st.1;⟨o,ho⟩
 frame:=fun _ _ _ st hk=>⟨st.1.at fun o e=>hk it (by simp) o e,let ⟨o,ho,r⟩:=st.2;⟨o,hk t (by simp) o ho,r⟩⟩
 item:=fun i s Q E hi st hQ=>qa st.1 st.2 (x:=its[i]) (by simp [hi]) fun h' qi qs=>hQ _ h' s.toks (by simp [hi]) ⟨qi,st.2.extBut qs.extBut hne⟩ qs
 done:=fun s Q E st hE=>si hh st.1 st.2 (by simp) hE
section
variable {prog:Program} {w:World} {A:Around} {E:Value→Shared→Prop} {s:Shared} {z TI TO i1 i2:Addr} {f1 f2:List Addr} {n1 n2 k:Nat} {P1 P2:Nat→Value→Prop} {S1 S2:Nat→Heap→Prop} {a b:Value}
end
def itRec(l:Bool)(a:Addr):Obj:={ cls:=.type (if l then "list_iterator" else "tuple_iterator"),data:=.fields #[.ref a,.int 0 0] }
def IsSeq(l:Bool)(h:Heap)(a:Addr)(xs:Array Value):Prop:=if l=true then h.IsList a xs else h.IsTuple a xs
theorem IsSeq.push{l:Bool}{h:Heap}{a:Addr}{xs:Array Value}(q:IsSeq l h a xs)(o:Obj):IsSeq l (h.push o) a xs:=by
 cases l
 ·exact Heap.IsTuple.push (show h.IsTuple a xs from q) o
 ·exact Heap.IsList.push (show h.IsList a xs from q) o
theorem mS{prog:Program}{w:World}{A:Around}{E:Value→Shared→Prop}{s:Shared}{l:Bool}{a:Addr}{xs:Array Value}{Q:Value→Shared→Prop}(q:IsSeq l s.heap a xs)(h:Q (.ref s.heap.objs.size) { s with heap:=s.heap.push (itRec l a) }):wpAny (model prog w) A (pyIter (.ref a)) Q E s:=by
 cases l
 ·exact wpAny_pyIter_tuple (show s.heap.IsTuple a xs from q) h
 ·exact wpAny_pyIter_list (show s.heap.IsList a xs from q) h
section
variable {prog:Program} {w:World} {A:Around} {E:Value→Shared→Prop} {s:Shared}
end
end L3
namespace L2
open PySem PySem.Spec PyProof.Rows
def jy(K:Frag)(l:Bool)(H:Hp)(a:Addr)(xs:List V):Prop:=if l=true then aT K H a xs else cD K H a xs
def nX(l:Bool)(h:Heap)(it a:Addr)(i:Nat):Prop:=if l=true then h.IsListIter it a i else h.IsTupleIter it a i
theorem nX.at{l:Bool}{h h':Heap}{it a:Addr}{i:Nat}(x:nX l h it a i)(e:∀o,h.get? it=some o→h'.get? it=some o):nX l h' it a i:=by
 cases l
 ·exact Heap.IsTupleIter.at (show h.IsTupleIter it a i from x) e
 ·exact Heap.IsListIter.at (show h.IsListIter it a i from x) e
theorem nX.rec{l:Bool}{h:Heap}{it a:Addr}(e:h.get? it=some (L3.itRec l a)):nX l h it a 0:=by
 cases l
 ·exact⟨_,e,rfl,rfl⟩
 ·exact⟨_,e,rfl,rfl⟩
theorem nX.obj{l:Bool}{h:Heap}{it a:Addr}{i:Nat}(x:nX l h it a i):∃o,h.get? it=some o∧∀v,o.data≠.cell v:=by
 cases l
 ·obtain⟨o,e,_,d⟩:=(show h.IsTupleIter it a i from x)
  exact⟨o,e,fun v z=>by rw [d]at z;cases z⟩
 ·obtain⟨o,e,_,d⟩:=(show h.IsListIter it a i from x)
  exact⟨o,e,fun v z=>by rw [d]at z;cases z⟩
theorem pb{P:Program}{w:World}{A:Around}(hh:A.handled=none)(l:Bool)(it a:Addr)(hne:a≠it)(its:Array Value):
  Draws P w A it [it,a] its.size (fun i v=>its[i]?=some v) (fun i h=>nX l h it a i∧L3.IsSeq l h a its):=by
 cases l
 ·exact L3.draws_tuple hh it a hne its
 ·exact Draws.list hh it a hne its
theorem aK.seqB{X:Cx}{pins:List (Addr×Obj)}{σ:St}{H:Hp}{s:Shared}{l:Bool}{a:Addr}{xs:List V}(I:aK X pins σ H s)(h:jy X.K l H a xs):∃its:List Value,aV xs its∧L3.IsSeq l s.heap a its.toArray∧xs.length≤sizeLine:=by
 cases l
 ·obtain⟨its,r,p,z⟩:=I.tuple (show cD X.K H a xs from h)
  exact⟨its,r,p,z⟩
 ·obtain⟨its,r,p,z⟩:=I.list (show aT X.K H a xs from h)
  exact⟨its,r,p.isList,z⟩
theorem aK.seqB_inj{X:Cx}{pins:List (Addr×Obj)}{σ:St}{H:Hp}{s:Shared}{l:Bool}{a:Addr}{xs ys:List V}(I:aK X pins σ H s)(h:jy X.K l H a xs)(h':jy X.K l H a ys):xs=ys:=by
 cases l
 ·exact I.tuple_inj (show cD X.K H a xs from h) h'
 ·exact I.list_inj (show aT X.K H a xs from h) h'
theorem aK.seqB_ne{X:Cx}{pins:List (Addr×Obj)}{σ:St}{H:Hp}{s:Shared}{l:Bool}{a b:Addr}{xs:List V}(I:aK X pins σ H s)(h:jy X.K l H a xs)(f:kg X pins H b):a≠b:=by
 obtain⟨f0,_,_,f3,_,_⟩:=f
 have tr:∀{o:HO},Rd H a o→a≠b:=fun {o} r=>by
  rcases r with r | ⟨_,r⟩
  ·exact ar r f0
  ·exact ar r f0
 have kb:∀{o:Obj},X.K.lookup a=some o→a≠b:=fun {o} hk=>by
  have hb:=I.ok.mod.kin a o hk;rcases f3 with z | z
  ·exact fun q=>I.ok.noex a o hb (q▸z)
  ·exact ab5 (aa5 (ab2 hb) (ab8 I.ok.bsz z))
 cases l
 ·rcases(show cD X.K H a xs from h)with h | ⟨o,_,_,hk,_⟩
  ·exact tr h
  ·exact kb hk
 ·rcases(show aT X.K H a xs from h)with h | ⟨o,_,_,hk,_⟩
  ·exact tr h
  ·exact kb hk
def Itz(K:Frag)(l1 l2:Bool)(a1 a2:Addr):It:=
 ⟨fun i H=>∃xs ys x y,jy K l1 H a1 xs∧jy K l2 H a2 ys∧xs[i]?=some x∧ys[i]?=some y,
  fun i H v H'=>∃p x y,v=.ref p∧H p=none∧H'=upd H p (.tup [x,y])∧(∀xs,jy K l1 H a1 xs→xs[i]?=some x)∧∀ys,jy K l2 H a2 ys→ys[i]?=some y,
  fun i H=>∃xs ys,jy K l1 H a1 xs∧jy K l2 H a2 ys∧(i=xs.length∨(i < xs.length∧i=ys.length))⟩
def ET(K:Frag)(ta:TA):TI:=fun σ H R=>ta σ H fun vs H1=>∃l1 l2 a1 a2,vs=[.ref a1,.ref a2]∧(∃xs,jy K l1 H1 a1 xs)∧(∃ys,jy K l2 H1 a2 ys)∧R (Itz K l1 l2 a1 a2) H1
end L2
namespace L2
open PySem PySem.Spec PyProof.Rows
def Ite(K:Frag)(a:Addr):It:=
 ⟨fun i H=>∃xs x,aT K H a xs∧xs[i]?=some x,
  fun i H v H'=>∃p x,v=.ref p∧H p=none∧H'=upd H p (.tup [.int i,x])∧∀xs,aT K H a xs→xs[i]?=some x,
  fun i H=>∃xs,aT K H a xs∧i=xs.length⟩
def DH(K:Frag)(ta:TA):TI:=fun σ H R=>ta σ H fun vs H1=>∃a,vs=[.ref a]∧(∃xs,aT K H1 a xs)∧R (Ite K a) H1
end L2
namespace L2
open PySem PySem.W PySem.Spec PySem.Calls PyProof.Rows
def GB:Nat:=1048576
theorem jF:∀{ns:List Int},WData.weightAll (ns.map WData.int)≤2 ^ 20→∀x∈ns,x.natAbs < 2 ^ GB
 | [],_,_,h=>nomatch h
 | n::ns,hw,x,h=>by
  have e:WData.weightAll ((n::ns).map WData.int)=(if n == 0 then 0 else n.natAbs.log2+1)+1+WData.weightAll (ns.map WData.int):=by
   simp only [ad2,WData.weightAll,WData.weight]
  rw [e]at hw;rcases aa6.mp h with rfl | h
  ·by_cases h0:x=0
   ·subst h0;exact Nat.two_pow_pos _
   ·have hb:(x == 0)=false:=by simpa using h0
    rw [hb]at hw
    have hl:x.natAbs.log2 < GB:=by
     have:(2:Nat) ^ 20=GB:=by decide
     rw [←this];simp only [ad6,if_false]at hw;omega
    exact(Nat.log2_lt (by omega)).mp hl
  ·exact jF (ns:=ns) (by omega) x h
theorem xf{ns:List Int}(h:WData.layableAll [WData.list (ns.map WData.int)]=true):∀x∈ns,x.natAbs < 2 ^ GB:=by
 have h1:=(layableW_iff.mp (layableW_arg h _ ac3)).2.2;exact jF (by simpa only [WData.weight]using h1)
theorem walk_ofB{l:PySem.W.OpenLaw}{n k:Nat}{q:Program}{loose:List Str}{XP:(Str→Option Value)→Heap→Prop}{YP:World→Heap→Prop}{d:DefRec}{K:Params→Frag}{CX:World→rg}{sp:World→Sp}{x:Str}
  (hn:l.most=some n) (hn2:n≤sizeLine) (hdf:d.params.defaults=[]) (hr:dn k callerA)
  (hY:∀(w:World) (h:Heap),YP w h→(K w.params).In h)
  (F:∀(w:World) (mg:Str→Option Value) (fa:Addr) (h:Heap),(K w.params).In h→h.Ns mainGlobals mg→mg d.name=some (.ref fa)→
   ∃fd:FuncData,(∀(s:Shared) (u:Value),BindsTo s fd ⟨[u],[]⟩ [(x,u)])∧∀base:Heap,(K w.params).In base→base.Ns mainGlobals mg→aH l.prog w (K w.params) mg base (CX w) k fa fd [x] (sp w))
  (hsp:∀(w:World) (H:Hp) (a:Addr) (ns:List Int),ns.length≤n→(∀x∈ns,x.natAbs < 2 ^ GB)→zX H→aT (K w.params) H a (ns.map V.int)→sp w [.ref a] H (fun v _=>v=.bl true) fun _ _ _=>False)
  (hCX:∀(w:World) (H:Hp) (s:Shared) (e:Value) (s':Shared),CX w [] H s (fun _ _ _=>False) e s'→False) :
  PySem.W.WalkO q loose XP YP l.row.toRowW d [] (fun f vs=>PySem.call f vs):=by
 intro w s₀ s₁ mg mb G Y fa o pm cd doc dV kV ho hd hcd hD hmg hg args vals as hpre hlay hrd hwl hlo;obtain rfl:dV=.none:=Dflts.none hD hdf;obtain rfl:kV=.none:=Dflts.noKw hD;obtain⟨a,vs,ns,rfl,rfl,hobj,hints,hlen⟩:=Att.script_of hn hpre hwl;have KX:=hY w _ Y;obtain⟨fd,hb,hF⟩:=F w mg fa _ KX G.T.g hmg;refine enter_call (codeAny_mono (r9 KX G.T.g G.T.b G.T.builtins G.T.nolimit hg hobj hints (ab8 hlen hn2) hr hF hb (fun H hO hS=>hsp w H a ns hlen (xf hlay) hO hS) fun H e s'=>hCX w H s₁ e s') fun r s' hq=>?_);obtain⟨rfl,h2,h3,h4⟩:=hq;exact⟨.inl ⟨.bool true,.bool true,[],rfl,fun _=>rfl,.bool true,Att.post_true l _,fun _=>⟨List.Pairwise.nil,fun _ hm=>(nomatch hm)⟩⟩,h2,h3,h4⟩
structure bF(K:Frag)(x:Str)(st:Stmt)(f:Addr)(fd:FuncData):Prop where
 ns:nsIn K mainGlobals x=some (some (.ref f))
 fn:cT K x x st f fd
theorem defAt_mk{K:Frag}{x:Str}{st:Stmt}{f:Addr}{oc:Value}{od an:Option Addr}{osl:Array (Option Value)}{kV doc pm cdv ct:Value}(a:nsIn K mainGlobals x=some (some (.ref f)))
  (l:K.lookup f=some ⟨oc,od,.func (fnOf x x (dC st) (cO st) (aq st) .none kV doc pm an cdv ct),osl⟩) (c:codeIn K cdv x=true) (k:keepIn K (.ref f)=true):∃f fd,bF K x st f fd:=
 ⟨f,_,a,fun_mk l c k⟩
theorem bF.df{P:Program}{w:World}{K:Frag}{mg:Str→Option Value}{base h:Heap}{x:Str}{st:Stmt}{f:Addr}{fd:FuncData}{k:Nat}{ps:List Str}{sp:Sp}(A:bF K x st f fd)(X:K.In h)(G:h.Ns mainGlobals mg)
  (ok:aH P w K mg base cb k f fd ps sp) (b:dF K fd ps []):cJ P w K mg base x k ps sp:=⟨f,fd,ok,mg_of X G A.ns,A.fn.kp,b⟩
end L2
namespace L2
open PySem PySem.Spec PyProof.Rows
def xH(g:TG)(tb:TS)(D:e9)(σ:St)(J:It)(H:Hp):Prop:=∃W:Nat→Nat→St→Hp→Prop,(∃m,W 0 m σ H)∧∀i m σ H,W i m σ H→
 (J.stop i H∧D.nx σ H)∨(J.go i H∧∃N:St→Hp→Prop,(∀σ' H',N σ' H'→∃m',m' < m∧W (i+1) m' σ' H')∧∀x H',J.yld i H x H'→g x σ H' fun σ2 H2=>tb { D with nx:=N,ct:=N,bk:=D.nx } σ2 H2)
theorem Bo(wi:TI)(g:TG)(tb:TS)(D:e9)(σ:St)(H:Hp):El wi g tb D σ H=wi σ H (fun J H1=>xH g tb D σ J H1):=rfl
def rf(n:Nat)(js:List Nat)(g:TG)(tt:TT)(te:TE)(σ:St)(F:List V→Hp→Prop)(J:It)(H:Hp):Prop:=u7 J n js g tt te σ H F
theorem zA(n:Nat)(js:List Nat)(wi:TI)(g:TG)(tt:TT)(te:TE)(σ:St)(H:Hp)(Q:VK):
  vL n js wi g tt te σ H Q=wi σ H (fun J H1=>rf n js g tt te σ (fun ys H2=>∀p,H2 p=none→Q (.ref p) (upd H2 p (.lst ys))) J H1):=rfl
section
variable {g:TG} {tb:TS} {D:e9} {σ:St} {H:Hp} {K:Frag} {a:Addr} {xs:List V}
theorem dU(Pv:Nat→St→Hp→Prop)(h0:Pv 0 σ H)(hl:∀i σ H,i≤xs.length→Pv i σ H→aT K H a xs)
  (hs:∀i x σ H,xs[i]?=some x→Pv i σ H→g x σ H fun σ2 H2=>tb { D with nx:=Pv (i+1),ct:=Pv (i+1),bk:=D.nx } σ2 H2) (hd:∀σ H,Pv xs.length σ H→D.nx σ H):xH g tb D σ (xD K a) H:=yg Pv h0 hl hs hd
theorem i9{lo:Int}{n:Nat}(Pv:Nat→St→Hp→Prop)(h0:Pv 0 σ H)
  (hs:∀i σ H,i < n→Pv i σ H→g (.int (lo+i)) σ H fun σ2 H2=>tb { D with nx:=Pv (i+1),ct:=Pv (i+1),bk:=D.nx } σ2 H2) (hd:∀σ H,Pv n σ H→D.nx σ H):xH g tb D σ (xE lo n) H:=wF Pv h0 hs hd
theorem wM(h:aT K H a [])(hd:D.nx σ H):xH g tb D σ (xD K a) H:=⟨fun i m σ' H'=>i=0∧σ'=σ∧H'=H,⟨0,rfl,rfl,rfl⟩,by
 rintro i m σ' H' ⟨rfl,rfl,rfl⟩
 exact .inl ⟨⟨[],h,aa7 _⟩,hd⟩⟩
end
section
variable {n:Nat} {js:List Nat} {g:TG} {tt:TT} {te:TE} {σ:St} {H:Hp} {F:List V→Hp→Prop} {K:Frag} {a:Addr} {xs:List V}
theorem lI{lo:Int}{k:Nat}(Pv:Nat→List V→Hp→Prop)(hk:k≤sizeLine)(h0:Pv 0 [] H)(hn:∀i ys H,Pv i ys H→ys.length≤i)
  (hs:∀i ys H,i < k→Pv i ys H→jD n js g tt te σ (.int (lo+i)) ys H (Pv (i+1))) (hd:∀ys H,Pv k ys H→F ys H):rf n js g tt te σ F (xE lo k) H:=tK Pv hk h0 hn hs hd
theorem cU(Pv:Nat→List V→Hp→Prop)(hk:xs.length≤sizeLine)(h0:Pv 0 [] H)(hn:∀i ys H,Pv i ys H→ys.length≤i)(hl:∀i ys H,Pv i ys H→aT K H a xs)
  (hs:∀i x ys H,xs[i]?=some x→Pv i ys H→jD n js g tt te σ x ys H (Pv (i+1))) (hd:∀ys H,Pv xs.length ys H→F ys H):rf n js g tt te σ F (xD K a) H:=v7 Pv hk h0 hn hl hs hd
theorem v5{z:Str}(Pv:Nat→List V→Hp→Prop)(hk:z.length≤sizeLine)(h0:Pv 0 [] H)(hn:∀i ys H,Pv i ys H→ys.length≤i)
  (hs:∀i c ys H,z.cps.toList[i]?=some c→Pv i ys H→jD n js g tt te σ (.str ⟨#[c]⟩) ys H (Pv (i+1))) (hd:∀ys H,Pv z.length ys H→F ys H):rf n js g tt te σ F (zW z) H:=xK Pv hk h0 hn hs hd
end
theorem B8{CX:rg}{P:Program}{w:World}{K:Frag}{mg:Str→Option Value}{base:Heap}{N:List Str}{qual:Str}{scope:Scope}{f:Addr}{cd:Value}{A:Around}{outer:List Env}{s:Shared}{H:Hp}{E:XK}:(kr CX P w K mg base N qual scope f cd A outer s H E).K=K:=rfl
theorem DB{X:Cx}{scope:Scope}{own:List Str}{js:List Nat}{C:Addr}{s:Shared}{H:Hp}{ex:List Addr}{pn:List (Addr×Obj)}{E:Value→Shared→Prop}:(gb X scope own js C s H ex pn E).K=X.K:=rfl
theorem xM(xs:List V){p:Int}(hp:0≤p):ko xs (some p) (some (p+1))=match xs[p.toNat]? with | none=>[] | some x=>[x]:=by
 unfold ko;obtain⟨k,rfl⟩:=ae0 hp
 have e1:((k:Int)+1)=((k+1:Nat):Int):=by omega
 rw [e1,HT.sIx_nat,HT.sIx_nat,ag6]
 by_cases h:k < xs.length
 ·rw [aa1 h,ak7 (by omega),ak7 (by omega),ae3 h,show k+1 - k=1 by omega]
  rfl
 ·rw [ai3 (by omega),ak1 (by omega),ak1 (by omega),ad9]
  rfl
theorem av{H:Hp}{q:Addr}{o:HO}(h:H q=none):au H (upd H q o):=fun b o' e=>by rw [ak (ar e h)];exact e
theorem au.upd{H H1:Hp}{q:Addr}{o:HO}(s:au H H1)(h:H1 q=none):au H (upd H1 q o):=s.trans (av h)
theorem au.tup{K:Frag}{H H':Hp}{a:Addr}{xs:List V}(e:au H H')(h:cD K H a xs):cD K H' a xs:=by
 rcases h with h | h
 ·rcases h with h | ⟨o,h⟩
  ·exact .inl (.inl (e _ _ h))
  ·exact .inl (.inr ⟨o,e _ _ h⟩)
 ·exact .inr h
end L2
namespace L2
open PySem PySem.Spec PyProof.Rows
theorem bg(z:Str):z.length=z.cps.toList.length:=by simp [Str.length]
theorem uE{z:Str}{i:Int}(h:0≤i):(Txt.slice z (some i) none).cps.toList=z.cps.toList.drop i.toNat:=by
 by_cases hi:i≤z.cps.toList.length
 ·rw [show Txt.slice z (some i) none=StrLaws.sliceText z (some i) none from rfl,StrLaws.sliceText_from ⟨h,hi⟩]
  show((z.cps.toList.drop i.toNat).take _)=_
  skip
  exact ah9 (by rw [af6];omega)
 ·have e:Builtin.Str.strSliceIndices (some i) none 1 z.length=Builtin.Str.strSliceIndices (some (z.length:Int)) none 1 z.length:=sliceIdx_lo_beyond z.length (by rw [bg];omega)
  have e2:Txt.slice z (some i) none=Txt.slice z (some (z.length:Int)) none:=by unfold Txt.slice;rw [e]
  rw [e2,show Txt.slice z (some (z.length:Int)) none=StrLaws.sliceText z (some (z.length:Int)) none from rfl,StrLaws.sliceText_from ⟨by omega,by rw [bg];omega⟩];show((z.cps.toList.drop _).take _)=_;rw [bg,ag6,ag1,List.take_nil,List.drop_eq_nil_of_le (by omega)]
theorem uQ(z:Str)(c:Nat):Txt.startswith z ⟨#[c]⟩=decide (z.cps.toList.head?=some c):=by
 obtain⟨⟨l⟩⟩:=z
 unfold Txt.startswith
 rw [StrLaws.subAt_eq]
 cases l with
 | nil=>simp [Str.length]
 | cons a l=>
  simp [Str.length];rw [af0];simp
theorem ke(x y:Str):decide (x=y)=decide (x.cps.toList=y.cps.toList):=by
 by_cases h:x=y
 ·subst h;simp
 ·rw [decide_eq_false h]
  symm
  apply decide_eq_false;intro e;apply h;obtain⟨⟨a⟩⟩:=x;obtain⟨⟨b⟩⟩:=y;simp at e;subst e;rfl
theorem bD(x y:Str):(x++y).cps.toList=x.cps.toList++y.cps.toList:=by
 show(x.cps++y.cps).toList=_;rw [af4]
theorem bw{α:Type}{xs:List α}{v:α}(h:xs.head?=some v):fm xs 0=some v:=by
 cases xs with
 | nil=>cases h
 | cons a l=>cases h;exact aO (j:=0) rfl
section
variable {X:Cx}
end
end L2
namespace L2
open PySem PySem.Spec PyProof.Rows
section
variable {X:Cx}
theorem CH(K:Frag)(h:X.K=K:=by rfl):dY X (binaryOp .Add) (eE K):=h▸DZ
theorem sA(K:Frag)(h:X.K=K:=by rfl):dY X (compareOp .In) (w8 K):=h▸EZ
theorem yO(K:Frag)(h:X.K=K:=by rfl):dY X (compareOp .NotIn) (iR K):=h▸AL
theorem g6(K:Frag)(h:X.K=K:=by rfl):zN X (xb K):=h▸slA
theorem bJ(K:Frag)(h:X.K=K:=by rfl):xF X (Bd K):=h▸ixA
theorem bX(K:Frag){tg l:Expr}{tl:TE}(hl:PE X l tl)(h:X.K=K:=by rfl):PI X tg l (Ez (zT K) tl):=h▸CP hl
theorem aP(K:Frag)(h:X.K=K:=by rfl):cz X (.builtin "len") (fun xs H Q=>(∃z,xs=[.str z]∧z.length≤sizeLine∧Q (.int z.length) H)∨∃p ys,xs=[.ref p]∧(aT K H p ys∨cD K H p ys)∧Q (.int ys.length) H):=h▸vV
theorem pV(K:Frag)(h:X.K=K:=by rfl):cz X (.builtin "isinstance") (fun xs H Q=>∃x n t b,xs=[x,.ty n]∧jz K H x t∧kitOne K t (.type n)=some b∧Q (.bl b) H):=h▸rA
theorem iI(K:Frag)(hc:X.calm=true)(h:X.K=K:=by rfl):cz X (.builtin "all") (fun xs H Q=>∃(p:Addr) (bs:List Bool),xs=[.ref p]∧aT K H p (bs.map V.bl)∧Q (.bl (bs.all id)) H):=h▸vT hc
theorem rC(K:Frag)(h:X.K=K:=by rfl):cz X (.type "tuple") (fun xs H Q=>∃p ys,xs=[.ref p]∧((aT K H p ys∧∀l,H l=none→Q (.ref l) (upd H l (.tup ys)))∨(cD K H p ys∧Q (.ref p) H))):=h▸nZ
theorem d5(K:Frag)(h:X.K=K:=by rfl):cz X (.type "list") (fun xs H Q=>∃p ys,xs=[.ref p]∧(aT K H p ys∨cD K H p ys)∧∀l,H l=none→Q (.ref l) (upd H l (.lst ys))):=h▸pY
theorem cg(K:Frag){es:List Expr}{k:Nat}{t:zY}{n:Nat}{pos:Pos}(hc:X.calm=true)(h:Dx X es t)(hK:X.K=K:=by rfl)
  (hn:(assignEach es X.env).length=n:=by rfl) (hst:(assignEach es X.env).findIdx? (·.1)=none:=by rfl):PG X (.Tuple es k pos) (Cg K n t):=hK▸CN hc h hn hst
theorem cG(K:Frag){o e:Expr}{es:List Expr}{to:TE}{t:TA}{name:Str}{apos cpos:Pos}{T id:String}{r:V→List V→Hp→VK→Prop}(pa:PlainAttrs T)(slot:Slot T name id)(hty:typeOf (.builtin id)=pure (.type "method_descriptor"))(hm:xw X id r)(ho:PE X o to)(ha:PA X (e::es) t)(hK:X.K=K:=by rfl)
  (hbase:attributeBase o name X.env (eval o X.env)=eval o X.env:=by rfl)
  (hfew:((backTo cpos (starEach (e::es) X.env)).all (fun x=>!x.1) && (backToKw cpos (keywordEach [] X.env)).all (fun x=>x.1.isSome)
   && decide ((e::es).length+([]:List Keyword).length+(if ([]:List Keyword).isEmpty then 0 else 1) < 30))=true:=by rfl)
  (hline:(apos.endLine == cpos.line)=true:=by rfl) (hs:starEach (e::es) X.env=(false,eval e X.env)::starEach es X.env:=by rfl) (hplain:(backTo cpos (starEach es X.env)).any (·.1)=false:=by rfl) :
  PE X (.Call (.Attribute o name apos) (e::es) [] cpos) (E3 K T r to t):=hK▸Ea pa slot hty hm ho ha hbase hfew hline hs hplain
def tVs(vs:List V):TA:=fun _ H Q=>Q vs H
end
def E2:Option V→(V→Prop)→Prop
 | some v,k=>k v
 | none,_=>False
def zf:St→Nat→(V→Prop)→Prop
 | [],_,_=>False
 | o::_,0,k=>E2 o k
 | _::σ,i+1,k=>zf σ i k
theorem vD{v:V}{σ:St}{k:V→Prop}:zf (some v::σ) 0 k=k v:=rfl
theorem sO{o:Option V}{σ:St}{i:Nat}{k:V→Prop}:zf (o::σ) (i+1) k=zf σ i k:=rfl
theorem mv{k:V→Prop}:∀{σ:St} {i:Nat},zf σ i k↔∃v,σ[i]?=some (some v)∧k v
 | [],i=>by simp [zf]
 | some v::σ,0=>by simp [zf,E2]
 | none::σ,0=>by simp [zf,E2]
 | o::σ,i+1=>by rw [sO,mv];simp
def EB(i:Nat):TE:=fun σ H Q=>zf σ i fun v=>Q v H
theorem Dl(i:Nat):EB i=Bp i:=by
 funext σ H Q
 exact propext mv
def zP:V→(Int→Prop)→Prop
 | .int i,k=>k i
 | _,_=>False
theorem mf{i:Int}{k:Int→Prop}:zP (.int i) k=k i:=rfl
theorem jB{v:V}{k:Int→Prop}:zP v k↔∃i,v=.int i∧k i:=by cases v<;>simp [zP]
def Bv:V→(Bool→Prop)→Prop
 | .bl i,k=>k i
 | _,_=>False
theorem pT{i:Bool}{k:Bool→Prop}:Bv (.bl i) k=k i:=rfl
theorem md{v:V}{k:Bool→Prop}:Bv v k↔∃i,v=.bl i∧k i:=by cases v<;>simp [Bv]
def DN(g:Int→Int→V):R2:=fun x y H Q=>zP x fun i=>zP y fun j=>Q (g i j) H
def jI(C:Int→Int→Prop)(g:Int→Int→V):R2:=fun x y H Q=>zP x fun i=>zP y fun j=>C i j∧Q (g i j) H
def jU(g:Int→V):V→Hp→VK→Prop:=fun x H Q=>zP x fun i=>Q (g i) H
def rZ(t:TE):TT:=fun σ H Q=>t σ H fun x H1=>Bv x fun k=>Q k H1
def rY(t:TE):TO:=fun σ H Q=>t σ H fun x H1=>zP x fun i=>Q (some i) H1
def yq(i:Nat)(te:TE)(ti:Ds):TS:=fun D σ H=>zf σ i fun x=>te σ H fun y H1=>ti x y H1 fun z H2=>D.nx (σ.set i (some z)) H2
def rW(ta tb:TE):TE:=fun σ H Q=>ta σ H fun x H1=>Bv x fun c=>if c=true then tb σ H1 Q else Q (.bl false) H1
def yw(ta tb:TE):TE:=fun σ H Q=>ta σ H fun x H1=>Bv x fun c=>if c=true then Q (.bl true) H1 else tb σ H1 Q
def BI(ta:TE):TE:=fun σ H Q=>ta σ H fun x H1=>Bv x fun c=>Q (.bl (!c)) H1
theorem Ao(i:Nat)(te:TE)(ti:Ds):yq i te ti=zy i te ti:=by
 funext D σ H
 unfold yq zy;simp only [mv]
theorem yp(ta tb:TE):rW ta tb=tm ta tb:=by
 funext σ H Q
 unfold rW tm;simp only [md]
theorem Ar(ta tb:TE):yw ta tb=zG ta tb:=by
 funext σ H Q
 unfold yw zG;simp only [md]
theorem Ct(g:Int→Int→V):DN g=tD g:=by
 funext x y H Q
 unfold DN tD;simp only [jB,exists_and_left]
theorem DO(C:Int→Int→Prop)(g:Int→Int→V):jI C g=rI C g:=by
 funext x y H Q
 unfold jI rI;simp only [jB,exists_and_left]
theorem DS(g:Int→V):jU g=rU g:=by
 funext x H Q
 unfold jU rU;simp only [jB]
theorem yy(t:TE):rZ t=pK t:=by
 funext σ H Q
 unfold rZ pK;simp only [md]
theorem yx(t:TE):rY t=vP t:=by
 funext σ H Q
 unfold rY vP;simp only [jB]
def xx(r:R2):R2
 | .int i,.int j,H,Q=>Q (.bl (decide (i=j))) H
 | .str i,.str j,H,Q=>Q (.bl (decide (i=j))) H
 | x,y,H,Q=>r x y H Q
def xy(r:R2):R2
 | .int i,.int j,H,Q=>Q (.bl (!decide (i=j))) H
 | .str i,.str j,H,Q=>Q (.bl (!decide (i=j))) H
 | x,y,H,Q=>r x y H Q
def mT(r:R2):R2
 | .int i,.int j,H,Q=>Q (.int (i+j)) H
 | x,y,H,Q=>r x y H Q
def rX(r:R2):R2
 | .int i,.int j,H,Q=>IntMulOk i j∧Q (.int (i * j)) H
 | x,y,H,Q=>r x y H Q
theorem p4{r:R2}{i j:Int}{H:Hp}{Q:VK}:xx r (.int i) (.int j) H Q=Q (.bl (decide (i=j))) H:=rfl
theorem p5{r:R2}{i j:Str}{H:Hp}{Q:VK}:xx r (.str i) (.str j) H Q=Q (.bl (decide (i=j))) H:=rfl
theorem p6{r:R2}{i j:Int}{H:Hp}{Q:VK}:xy r (.int i) (.int j) H Q=Q (.bl (!decide (i=j))) H:=rfl
theorem p7{r:R2}{i j:Str}{H:Hp}{Q:VK}:xy r (.str i) (.str j) H Q=Q (.bl (!decide (i=j))) H:=rfl
theorem mn{r:R2}{i j:Int}{H:Hp}{Q:VK}:mT r (.int i) (.int j) H Q=Q (.int (i+j)) H:=rfl
theorem mq{r:R2}{i j:Int}{H:Hp}{Q:VK}:rX r (.int i) (.int j) H Q=(IntMulOk i j∧Q (.int (i * j)) H):=rfl
theorem yr{r:R2}(h1:∀i j H Q,r (.int i) (.int j) H Q↔Q (.bl (decide (i=j))) H)(h2:∀i j H Q,r (.str i) (.str j) H Q↔Q (.bl (decide (i=j))) H):xx r=r:=by
 funext x y H Q
 unfold xx
 split
 ·exact propext (h1 _ _ _ _).symm
 ·exact propext (h2 _ _ _ _).symm
 ·rfl
theorem yu{r:R2}(h1:∀i j H Q,r (.int i) (.int j) H Q↔Q (.bl (!decide (i=j))) H)(h2:∀i j H Q,r (.str i) (.str j) H Q↔Q (.bl (!decide (i=j))) H):xy r=r:=by
 funext x y H Q
 unfold xy
 split
 ·exact propext (h1 _ _ _ _).symm
 ·exact propext (h2 _ _ _ _).symm
 ·rfl
theorem vq{r:R2}(h1:∀i j H Q,r (.int i) (.int j) H Q↔Q (.int (i+j)) H):mT r=r:=by
 funext x y H Q
 unfold mT
 split
 ·exact propext (h1 _ _ _ _).symm
 ·rfl
theorem Aq{r:R2}(h1:∀i j H Q,r (.int i) (.int j) H Q↔IntMulOk i j∧Q (.int (i * j)) H):rX r=r:=by
 funext x y H Q
 unfold rX
 split
 ·exact propext (h1 _ _ _ _).symm
 ·rfl
theorem BF:xx pE=pE:=yr (fun _ _ _ _=>rEq_ii) (fun _ _ _ _=>qK)
theorem BH:xy pF=pF:=yu (fun _ _ _ _=>qM) (fun _ _ _ _=>qN)
theorem yo(K:Frag):mT (eE K)=eE K:=vq fun _ _ _ _=>nu
theorem DL{x y:V}{H:Hp}{Q:VK}:xx pE x y H Q↔pE x y H Q:=by rw [BF]
theorem DP{x y:V}{H:Hp}{Q:VK}:xy pF x y H Q↔pF x y H Q:=by rw [BH]
theorem Am{K:Frag}{x y:V}{H:Hp}{Q:VK}:mT (eE K) x y H Q↔eE K x y H Q:=by rw [yo]
section
variable {X:Cx}
theorem pr(i:Nat){x:Str}{pos:Pos}(hN:X.N[i]?=some x:=by rfl)(hv:Dz X.env.scope x:=by first | exact Or.inl rfl | exact Or.inr (Or.inl rfl) | exact Or.inr (Or.inr rfl))(hd:(x == ("__debug__":Str))=false:=by decide)
  (hcd:(x == ("__classdict__":Str))=false:=by decide):PE X (.Name x pos) (EB i):=by
 rw [Dl];exact yX hN hv hd hcd
theorem o0{f:Value→Value→Sem Value}{g:Int→Int→V}(h:dY X f (tD g)):dY X f (DN g):=by rw [Ct];exact h
theorem o1{f:Value→Value→Sem Value}{C:Int→Int→Prop}{g:Int→Int→V}(h:dY X f (rI C g)):dY X f (jI C g):=by rw [DO];exact h
theorem u1{f:Value→Sem Value}{g:Int→V}(h:Ff X f (rU g)):Ff X f (jU g):=by rw [DS];exact h
theorem sr:dY X (compareOp .Eq) (xx pE):=by rw [BF];exact opEq
theorem zS:dY X (compareOp .NotEq) (xy pF):=by rw [BH];exact opNe
theorem bq(K:Frag)(h:X.K=K:=by rfl):dY X (binaryOp .Add) (mT (eE K)):=by rw [yo];exact CH K h
theorem bp{e:Expr}{t:TE}(h:PT X e (pK t)):PT X e (rZ t):=by rw [yy];exact h
theorem Ee{st:Stmt}{i:Nat}{te:TE}{ti:Ds}(h:PS X st (zy i te ti)):PS X st (yq i te ti):=by rw [Ao];exact h
theorem BL{e:Expr}{ta tb:TE}(h:PE X e (tm ta tb)):PE X e (rW ta tb):=by rw [yp];exact h
theorem Eb{e:Expr}{ta tb:TE}(h:PE X e (zG ta tb)):PE X e (yw ta tb):=by rw [Ar];exact h
theorem gH{e:Expr}{t:TE}(h:PE X e t):PO X (some e) (rY t):=by rw [yx];exact AX h
end
theorem itN{p:Prop}[d:Decidable p]{A B:Prop}:(if (!decide p)=true then A else B)=(if p then B else A):=by
 by_cases h:p<;>simp [h]
theorem itD{p:Prop}[d:Decidable p]{A B:Prop}:(if decide p=true then A else B)=(if p then A else B):=by
 by_cases h:p<;>simp [h]
theorem EM{t u:TS}{D:e9}{σ:St}{H:Hp}(C:St→Hp→Prop)(h2:∀σ H,C σ H→u D σ H)(h1:∀u':TS,(∀σ H,C σ H→u' D σ H)→gB t u' D σ H):gB t u D σ H:=h1 u h2
theorem EN{t u:TS}{D:e9}{σ:St}{H:Hp}(C:St→Hp→Prop)(h1:∀u':TS,(∀σ H,C σ H→u' D σ H)→gB t u' D σ H)(h2:∀σ H,C σ H→u D σ H):gB t u D σ H:=h1 u h2
theorem bo{t u:TS}{D:e9}{σ:St}{H:Hp}(C:St→Hp→Prop)(h1:∀u':TS,(∀σ H,C σ H→u' D σ H)→gB t u' D σ H)(h2:∀R:TS,(∀σ H,u D σ H→R D σ H)→∀σ H,C σ H→R D σ H):gB t u D σ H:=h1 u (h2 u fun _ _ z=>z)
theorem cJ.up{P:Program}{w:World}{K:Frag}{mg:Str→Option Value}{base:Heap}{x:Str}{j k:Nat}{ps:List Str}{sp:Sp}(d:cJ P w K mg base x j ps sp)(h:j≤k):cJ P w K mg base x k ps sp:=
 let ⟨f,fd,F,r⟩:=d.ex;⟨f,fd,F.mono h,r⟩
theorem const_mk{K:Frag}{x:Str}{v:V}{u:Value}(e:nsIn K mainGlobals x=some (some u))(r:aN v u):∃u,nsIn K mainGlobals x=some (some u)∧aN v u:=⟨u,e,r⟩
theorem TruV_b{K:Frag}{b k:Bool}{H:Hp}:zZ K (.bl b) H k↔k=b:=Iff.rfl
theorem Er{K:Frag}{z:Str}{H:Hp}:Ep K "str" (.str z) H↔True:=⟨fun _=>trivial,fun _=>rfl⟩
theorem str_iff{x y:Str}:x=y↔x.cps.toList=y.cps.toList:=by
 constructor
 ·intro e;rw [e]
 ·intro e
  obtain⟨⟨a⟩⟩:=x;obtain⟨⟨b⟩⟩:=y;simp at e;subst e;rfl
end L2
namespace L2
open PySem PySem.Spec PyProof.Rows
open AutoSeq1 (wpAny_loadPart')
theorem kG:fillsNumberSlot (.type "tuple") "mul"=pure false:=
 PySem.fillsNumberSlot_seq (id:="tuple.__mul__") (r:=some (.builtin "tuple.__rmul__")) F.slot_tuple_mul.lookup (by decide +kernel) F.slot_tuple_rmul.lookup (by decide +kernel)
theorem qO:seqRepeat? (.type "tuple")=pure (some (.builtin "tuple.__mul__")):=by
 unfold seqRepeat?;rw [PySem.seqSlot_of (T:="tuple") (name:="__mul__") (id:="tuple.__mul__") F.slot_tuple_mul.lookup (by decide +kernel),PySem.seqSlot_of (T:="tuple") (name:="__rmul__") (id:="tuple.__rmul__") F.slot_tuple_rmul.lookup (by decide +kernel)];rfl
theorem mQ(a:Int)(t:Tok)(l:Addr)(items:Array Value)(n:Nat)(dd:Option Addr)(sl:Array (Option Value)):
  Meets (Builtin.«int.__rmul__» ⟨[.int a t,.ref l],[]⟩) (fun _ R s=>s.heap.get? l=some { cls:=.type "tuple",dict:=dd,data:=.seq items n,slots:=sl }∧R (.ok (.ret Value.notImplemented)) s):=
 .of_wp fun prog w A R s h=>by obtain⟨hp,g,d,tk,os⟩:=s;obtain⟨hl,h⟩:=h;wp_walk;exact⟨_,rfl,h⟩
theorem uW(l:Addr)(items:Array Value)(n:Nat)(dd:Option Addr)(sl:Array (Option Value))(u:Tok):
  Meets (Builtin.«tuple.__mul__» ⟨[.ref l,.int 1 u],[]⟩) (fun _ R s=>s.heap.get? l=some { cls:=.type "tuple",dict:=dd,data:=.seq items n,slots:=sl }∧R (.ok (.ret (Value.ref l))) s):=
 .of_wp fun prog w A R s h=>by
  obtain⟨hp,g,d,tk,os⟩:=s;obtain⟨hl,h⟩:=h;have hT:Shared.TypeIs ⟨hp,g,d,tk,os⟩ (.ref l) "tuple":=⟨_,hl,rfl⟩
  wp_walk using wpAny_loadPart' hl,wpAny_typeOf hT
  exact⟨_,rfl,h⟩
theorem mM{α:Type}(xs:Array α):∀(n:Nat) (acc:Array α),((List.replicate n xs).foldl (· ++ ·) acc).size=acc.size+n * xs.size
 | 0,acc=>by simp
 | n+1,acc=>by
  rw [ad5,ah3,mM xs n,aj8,ak2];omega
theorem uX(l:Addr)(items:Array Value)(n:Nat)(dd:Option Addr)(sl:Array (Option Value))(x:Int)(u:Tok)(h1:1 < x)(h2:x < 1000000)(h0:items.isEmpty=false)(hz:items.size * x.toNat≤sizeLine):
  Meets (Builtin.«tuple.__mul__» ⟨[.ref l,.int x u],[]⟩) (fun _ R s=>s.heap.get? l=some { cls:=.type "tuple",dict:=dd,data:=.seq items n,slots:=sl }∧R (.ok (.ret (Value.ref s.heap.objs.size))) { s with heap:=s.heap.push { cls:=Value.type "tuple",data:=Data.seq ((List.replicate x.toNat items).foldl (· ++ ·) #[]) } }):=
 .of_wp fun prog w A R s h=>by
  obtain⟨hp,g,d,tk,os⟩:=s;obtain⟨hl,h⟩:=h;have hT:Shared.TypeIs ⟨hp,g,d,tk,os⟩ (.ref l) "tuple":=⟨_,hl,rfl⟩
  wp_walk using wpAny_loadPart' hl,wpAny_typeOf hT
  refine wpAny_ite_false (by rw [decide_eq_false (show ¬x < -2 ^ 63 by omega),decide_eq_false (show ¬x≥2 ^ 63 by omega)];rfl) ?_
  wp_walk using wpAny_loadPart' hl,wpAny_typeOf hT
  refine wpAny_ite_false (by rw [h0];simp;omega) ?_;refine wpAny_ite_false (by rw [h0];simp;omega) ?_
  have e:(items.size:Int) * x=((items.size * x.toNat:Nat):Int):=by rw [Int.natCast_mul,Int.toNat_of_nonneg (by omega)]
  have hs:sizeLine=16777216:=sizeLine_eq;refine wpAny_ite_false (decide_eq_false (by rw [e];omega)) ?_
  have hm:¬((items.size:Int) * x > (sizeLine:Int)):=by rw [e];exact_mod_cast ak3.mpr hz
  refine wpAny_ite_false (by unfold Builtin.Tuple.tupleTooMany;exact decide_eq_false (fun z=>hm (of_decide_eq_true z))) ?_
  have hf:(List.foldl (fun x1 x2=>x1++x2) #[] (List.replicate x.toNat items)).size≤sizeLine:=by
   rw [mM,Array.size_empty,aj4,aj2];exact hz
  wp_walk using wpAny_loadPart' hl,wpAny_typeOf hT
  refine wpAny_ite_false (decide_eq_false (ak3.mpr hf)) ?_
  wp_walk
  exact⟨_,rfl,h⟩
def vC(K:Frag):R2:=fun x y H Q=>∃l k xs,x=.ref l∧y=.int k∧cD K H l xs∧1≤k∧k < 1000000∧xs≠[]∧xs.length * k.toNat≤sizeLine∧
 (k=1→Q (.ref l) H)∧∀p,H p=none→Q (.ref p) (upd H p (.tup (List.replicate k.toNat xs).flatten))
section
variable {X:Cx}
theorem AN:dY X (binaryOp .Mult) (vC X.K):=by
 intro pins s σ H x y v u Q I rx ry h;obtain⟨l,k,xs,rfl,rfl,hH,h1,h2,hx,hz,q1,q⟩:=h;cases rx;obtain⟨t,rfl⟩:=ry;obtain⟨its,r,p,hl⟩:=I.tuple hH;obtain⟨⟨cls,dd,data,sl⟩,ho,hc,n,hd⟩:=id p;simp only at hc hd;subst hc hd
 have hlen:its.toArray.size * k.toNat≤sizeLine:=by rw [aa9,←r.length];exact hz
 refine wpAny_binaryOp_repeat_ref (T:="tuple") (U:="int") (by decide) ⟨_,ho,rfl⟩ (fun s'=>typeIs_int s' k t) kG F.fills_int_mul F.slot_int_rmul qO F.slot_int_index.lookup
  (call_meets F.slot_int_rmul (typeIs_int s k t) F.entry_int_rmul (F.args_int_rmul_2 _ _) (mQ k t l its.toArray n dd sl) ⟨ho,rfl,⟨_,ho,rfl⟩,?_⟩)
 by_cases hk:k=1
 ·subst hk
  exact call_meets F.slot_tuple_mul ⟨_,ho,rfl⟩ F.entry_tuple_mul (F.args_tuple_mul_2 _ _) (uW l its.toArray n dd sl t) ⟨ho,.ref l,H,I,rfl,q1 rfl⟩
 ·have hne:its.toArray.isEmpty=false:=by
   cases its with
   | nil=>exact absurd (r.nil_iff.mp rfl) hx
   | cons a b=>rfl
  refine call_meets F.slot_tuple_mul ⟨_,ho,rfl⟩ F.entry_tuple_mul (F.args_tuple_mul_2 _ _) (uX l its.toArray n dd sl k t (by omega) h2 hne hlen) ⟨ho,?_⟩
  have hnew:List.foldl (fun x1 x2=>x1++x2) #[] (List.replicate k.toNat its.toArray)=(List.replicate k.toNat its).flatten.toArray:=by
   have:=kv its k.toNat []
   rw [List.nil_append]at this;exact this
  refine⟨.ref s.heap.objs.size,_,I.laid (t':=s.toks) (o:=.tup (List.replicate k.toNat xs).flatten) (fun b ob q=>aa3 _ q) (aa7 _) ?_,rfl,q _ (I.hok.fresh (aa7 _))⟩;rw [hnew];exact⟨by rw [p8,aj2];exact hz,_,r.rep k.toNat,IsTup.new _ _⟩
def fH(K:Frag):R2:=fun x y H Q=>lP x y H Q∨vC K x y H Q
theorem CI(K:Frag)(h:X.K=K:=by rfl):dY X (binaryOp .Mult) (fH K):=h▸opMul.or AN
theorem sL{K:Frag}{i j:Int}{H:Hp}{Q:VK}:fH K (.int i) (.int j) H Q↔IntMulOk i j∧Q (.int (i * j)) H:=by
 simp [fH,sI,vC]
theorem za{K:Frag}{z:Str}{j:Int}{H:Hp}{Q:VK}:fH K (.str z) (.int j) H Q↔(-1000000≤j∧j≤1000000∧z.length≤16)∧Q (.str (jS z j)) H:=by
 simp [fH,sJ,vC]
theorem yt(K:Frag):rX (fH K)=fH K:=Aq fun _ _ _ _=>sL
theorem Ap{K:Frag}{x y:V}{H:Hp}{Q:VK}:rX (fH K) x y H Q↔fH K x y H Q:=by rw [yt]
theorem lX(K:Frag)(h:X.K=K:=by rfl):dY X (binaryOp .Mult) (rX (fH K)):=by rw [yt];exact CI K h
end
end L2
namespace L2
open PySem PySem.Spec PyProof.Rows
def lB(c:Nat):List Nat→List (List Nat)
 | []=>[[]]
 | a::l=>if a=c then []::lB c l else match lB c l with
  | []=>[[a]]
  | p::r=>(a::p)::r
theorem uJ(c:Nat):∀l,lB c l≠[]
 | []=>by simp [lB]
 | a::l=>by
  simp only [lB]
  split
  ·simp
  ·split<;>simp
theorem vK(c:Nat):∀l,(lB c l).length≤l.length+1
 | []=>by simp [lB]
 | a::l=>by
  have h:=vK c l;simp only [lB]
  split
  ·simp;omega
  ·split
   ·simp
   ·rename_i p r e
    rw [e]at h;simp at h ⊢;omega
def d2(c:Nat):List Nat→Nat→List Nat
 | [],_=>[]
 | b::l,i=>if b=c then i::d2 c l (i+1)else d2 c l (i+1)
theorem m5(x:Str)(c:Nat)(lim:Nat):∀(l:List Nat) (i:Nat) (acc:Array Nat) (fr:Nat),x.cps.toList.drop i=l→acc.size≤i→fr≤i→x.length < lim→
  (forIn (List.range' i (l.length+1)) (acc,fr) (StrLaws.occBody x ⟨#[c]⟩ x.length lim)).run.fst.toList=acc.toList++d2 c l i
 | [],i,acc,fr,hl,ha,hf,hm=>by
  have hi:x.length≤i:=by
   rw [bg];exact ah0.mp hl
  show(forIn [i] (acc,fr) _:Id _).run.fst.toList=_;rw [ah4];unfold StrLaws.occBody;rw [if_neg (by intro h;have:=h.1.2;have e1:(⟨#[c]⟩:Str).length=1:=rfl;rw [e1]at this;omega)];show acc.toList=_;simp [d2]
 | b::l,i,acc,fr,hl,ha,hf,hm=>by
  have hb:x.cps.toList[i]?=some b:=by
   have:(x.cps.toList.drop i)[0]?=some b:=by rw [hl];rfl
   rwa [ae5,ak4]at this
  have hi:i < x.length:=by
   rw [bg];obtain⟨h,_⟩:=aa2.mp hb;exact h
  have hd:x.cps.toList.drop (i+1)=l:=by
   rw [←ai0,hl];rfl
  have e1:(⟨#[c]⟩:Str).length=1:=rfl;show(forIn (i::List.range' (i+1) (l.length+1)) (acc,fr) _:Id _).run.fst.toList=_;rw [ah4];unfold StrLaws.occBody
  by_cases hc:b=c
  ·rw [if_pos ⟨⟨⟨by show acc.size < lim;omega,hf⟩,by rw [e1];omega⟩,((StrLaws.subAt_one x c i).mpr (by rw [hb,hc])).2⟩]
   show(forIn (List.range' (i+1) (l.length+1)) (acc.push i,i+1) (StrLaws.occBody x ⟨#[c]⟩ x.length lim):Id _).run.fst.toList=_;rw [m5 x c lim l (i+1) _ _ hd (by rw [Array.size_push];omega) (aa7 _) hm];simp [d2,hc]
  ·rw [if_neg (fun h=>hc (by have:=(StrLaws.subAt_one x c i).mp ⟨h.1.2,h.2⟩;rw [hb]at this;exact Option.some.inj this))]
   show(forIn (List.range' (i+1) (l.length+1)) (acc,fr) (StrLaws.occBody x ⟨#[c]⟩ x.length lim):Id _).run.fst.toList=_;rw [m5 x c lim l (i+1) _ _ hd (by omega) (by omega) hm];simp [d2,hc]
theorem Ay(x:Str)(c:Nat):Builtin.Str.occurrences x ⟨#[c]⟩ 0 x.length (x.length+1)=d2 c x.cps.toList 0:=by
 rw [StrLaws.occ_eq]
 have e:x.length+1 - 0=x.cps.toList.length+1:=by rw [bg];rfl
 rw [e];have h:=m5 x c (x.length+1) x.cps.toList 0 #[] 0 rfl (aa7 _) (aa7 _) (af9 _);rw [h];rfl
theorem jb(x:Str)(c:Nat):∀(l:List Nat) (a j:Nat),a≤j→x.cps.toList.drop j=l→j≤x.length→
  (StrLaws.partsFrom x 1 a (d2 c l j)).map (fun z=>z.cps.toList)=match lB c l with
   | []=>[]
   | p::r=>((x.cps.toList.drop a).take (j - a)++p)::r
 | [],a,j,haj,hl,hj=>by
  have hj':x.length≤j:=by rw [bg];exact ah0.mp hl
  have e:j=x.length:=by omega
  subst e;simp [d2,lB,StrLaws.partsFrom,StrLaws.strSub_toList]
 | b::l,a,j,haj,hl,hj=>by
  have hb:x.cps.toList[j]?=some b:=by
   have:(x.cps.toList.drop j)[0]?=some b:=by rw [hl];rfl
   rwa [ae5,ak4]at this
  have hi:j < x.length:=by
   rw [bg];obtain⟨h,_⟩:=aa2.mp hb;exact h
  have hd:x.cps.toList.drop (j+1)=l:=by
   rw [←ai0,hl];rfl
  by_cases hc:b=c
  ·have ih:=jb x c l (j+1) (j+1) (aa7 _) hd hi
   simp only [d2,hc,if_true,StrLaws.partsFrom,ad2,lB,af2];rw [ih]
   cases hs:lB c l with
   | nil=>exact absurd hs (uJ c l)
   | cons p r=>simp [StrLaws.strSub_toList]
  ·have ih:=jb x c l a (j+1) (by omega) hd hi
   simp only [d2,hc,if_false,lB];rw [ih]
   cases hs:lB c l with
   | nil=>exact absurd hs (uJ c l)
   | cons p r=>
    have ht:(x.cps.toList.drop a).take (j+1 - a)=(x.cps.toList.drop a).take (j - a)++[b]:=by
     have e1:j+1 - a=(j - a)+1:=by omega
     rw [e1,ac5,ae5]
     have e2:a+(j - a)=j:=by omega
     rw [e2,hb];rfl
    simp [ht]
theorem zu(c:Nat):∀{l:List Nat},d2 c l 0=[]→lB c l=[l]:=by
 have key:∀(l:List Nat) (i:Nat),d2 c l i=[]→lB c l=[l]:=by
  intro l
  induction l with
  | nil=>intro i _;rfl
  | cons a l ih=>
   intro i h;simp only [d2]at h
   split at h
   ·cases h
   ·rename_i hc
    simp only [lB,hc,if_false];rw [ih _ h]
 intro l h;exact key l 0 h
theorem iF(x:Str){c:Nat}(hc:c < 256):(Txt.split x ⟨#[c]⟩).map (fun z=>z.cps.toList)=lB c x.cps.toList:=by
 unfold Txt.split;have e1:(⟨#[c]⟩:Str).length=1:=rfl
 have ek:Builtin.Str.strKind ⟨#[c]⟩=1:=by simp [Builtin.Str.strKind,hc]
 have ek2:1≤Builtin.Str.strKind x:=by unfold Builtin.Str.strKind;split<;>(try split)<;>omega
 rw [e1,ek,decide_eq_false (show ¬Builtin.Str.strKind x < 1 by omega),Bool.or_false,Ay]
 split
 ·rename_i h
  have h:x.length < 1:=by simpa using h
  have:x.cps.toList=[]:=by
   rw [bg]at h;exact ae8.mp (by omega)
  rw [ad2,ah8,this];rfl
 ·split
  ·rename_i h
   have h:d2 c x.cps.toList 0=[]:=by simpa using h
   rw [zu c h];rfl
  ·rw [StrLaws.partsBetween_eq,jb x c x.cps.toList 0 0 (aa7 _) rfl (ac0 _)]
   cases hs:lB c x.cps.toList with
   | nil=>exact absurd hs (uJ c _)
   | cons p r=>simp
end L2
namespace L2
open PySem PySem.Spec PyProof.Rows
theorem lE:∀(tk:Nat) (xs:List Str),aV (xs.map V.str) (strsFrom tk xs)
 | _,[]=>.nil
 | tk,x::r=>.cons ⟨tk,rfl⟩ (lE (tk+1) r)
theorem pJ:∀{xs:List Str} {us:List Value},aV (xs.map V.str) us→StrsAre us xs
 | [],_,.nil=>.nil
 | x::r,_,.cons ⟨t,e⟩ q=>by subst e;exact .cons x t (pJ q)
section
variable {X:Cx}
theorem jJ:xw X "str.split" (fun x xs H Q=>∃z c,x=.str z∧xs=[.str ⟨#[c]⟩]∧c < 256∧z.length < sizeLine∧∀p,H p=none→Q (.ref p) (upd H p (.lst ((Txt.split z ⟨#[c]⟩).map V.str)))):=by
 intro pins s σ H x xs v us Q I rx r h;obtain⟨z,c,rfl,rfl,hc,hz,q⟩:=h;obtain⟨t,rfl⟩:=rx;obtain⟨u,rfl,t',rfl⟩:=eF r;have hs:sizeLine=16777216:=sizeLine_eq
 have hlen:(Txt.split z ⟨#[c]⟩).length≤sizeLine:=by
  have h1:(Txt.split z ⟨#[c]⟩).length=(lB c z.cps.toList).length:=by rw [←iF z hc,aa0]
  have h2:=vK c z.cps.toList;rw [←bg]at h2;omega
 have fin:∀(its:List Value) (tk:Nat),aV ((Txt.split z ⟨#[c]⟩).map V.str) its→EP X pins σ Q (.ref s.heap.objs.size) { s with toks:=tk,heap:=s.heap.push { cls:=.type "list",data:=.seq its.toArray } }:=fun its tk rv=>
  ⟨.ref s.heap.objs.size,_,I.laid (t':=tk) (o:=.lst ((Txt.split z ⟨#[c]⟩).map V.str)) (fun b ob q=>aa3 _ q) (aa7 _) ⟨by rw [aa0];exact hlen,its,0,rv,ab9 _ rfl⟩,rfl,q _ (I.hok.fresh (aa7 _))⟩
 cases h1:(decide (z.length < (⟨#[c]⟩:Str).length) || decide (Builtin.Str.strKind z < Builtin.Str.strKind ⟨#[c]⟩))with
 | true=>
  have e:Txt.split z ⟨#[c]⟩=[z]:=by unfold Txt.split;rw [if_pos h1]
  rw [e]at fin;exact call_meets F.slot_str_split (typeIs_str _ _ _) F.entry_str_split (F.args_str_split_2 _ _) (meets_str_split_cannot_occur z ⟨#[c]⟩ t t' h1) (fin _ s.toks (.cons ⟨t,rfl⟩ .nil))
 | false=>
  cases hf:(Builtin.Str.occurrences z ⟨#[c]⟩ 0 z.length (z.length+1)).isEmpty with
  | true=>
   have e:Txt.split z ⟨#[c]⟩=[z]:=by unfold Txt.split;rw [if_neg (by rw [h1];exact aa4),if_pos hf]
   rw [e]at fin;exact call_meets F.slot_str_split (typeIs_str _ _ _) F.entry_str_split (F.args_str_split_2 _ _) (meets_str_split_not_found z ⟨#[c]⟩ t t' h1 rfl hf) (fin _ s.toks (.cons ⟨t,rfl⟩ .nil))
  | false=>
   have e:Txt.split z ⟨#[c]⟩=Builtin.Str.partsBetween z (Builtin.Str.occurrences z ⟨#[c]⟩ 0 z.length (z.length+1)) (⟨#[c]⟩:Str).length:=by
    unfold Txt.split;rw [if_neg (by rw [h1];exact aa4),if_neg (by rw [hf];exact aa4)]
   rw [e]at fin hlen;exact call_meets F.slot_str_split (typeIs_str _ _ _) F.entry_str_split (F.args_str_split_2 _ _) (meets_str_split_sep z ⟨#[c]⟩ t t' h1 rfl hf (ah6 hz) hlen) (fin _ _ (lE _ _))
theorem Au:xw X "str.join" (fun x xs H Q=>∃z p ys,x=.str z∧xs=[.ref p]∧aT X.K H p (ys.map V.str)∧(ys.map (·.length)).sum+ys.length * z.length≤16777216∧Q (.str (Txt.join z ys)) H):=by
 intro pins s σ H x xs v us Q I rx r h;obtain⟨z,p,ys,rfl,rfl,hq,hok,q⟩:=h;obtain⟨t,rfl⟩:=rx;obtain⟨u,rfl,ru⟩:=eF r;cases ru;obtain⟨its,rv,pl,hz⟩:=I.list hq;exact join_list pl.isList (pJ rv) hok fun t' k=>⟨.str _,H,I.tok _,⟨t',rfl⟩,q⟩
theorem sg(K:Frag)(h:X.K=K:=by rfl):xw X "str.join" (fun x xs H Q=>∃z p ys,x=.str z∧xs=[.ref p]∧aT K H p (ys.map V.str)∧(ys.map (·.length)).sum+ys.length * z.length≤16777216∧Q (.str (Txt.join z ys)) H):=h▸Au
def Ce:List V→List V→Bool
 | [],[]=>true
 | x::xs,y::ys=>wB x y && Ce xs ys
 | _,_=>false
def qJ(K:Frag):R2:=fun x y H Q=>pE x y H Q∨∃a b xs ys,x=.ref a∧y=.ref b∧cD K H a xs∧cD K H b ys∧xs.all eo=true∧ys.all eo=true∧Q (.bl (Ce xs ys)) H
def qL(K:Frag):R2:=fun x y H Q=>pF x y H Q∨∃a b xs ys,x=.ref a∧y=.ref b∧cD K H a xs∧cD K H b ys∧xs.all eo=true∧ys.all eo=true∧Q (.bl (!Ce xs ys)) H
end
theorem A9{K:Frag}{i j:Int}{H:Hp}{Q:VK}:qJ K (.int i) (.int j) H Q↔Q (.bl (decide (i=j))) H:=by simp [qJ,rEq_ii]
theorem Bf{K:Frag}{i j:Int}{H:Hp}{Q:VK}:qL K (.int i) (.int j) H Q↔Q (.bl (!decide (i=j))) H:=by simp [qL,qM]
theorem Ba{K:Frag}{i j:Str}{H:Hp}{Q:VK}:qJ K (.str i) (.str j) H Q↔Q (.bl (decide (i=j))) H:=by simp [qJ,qK]
theorem Bg{K:Frag}{i j:Str}{H:Hp}{Q:VK}:qL K (.str i) (.str j) H Q↔Q (.bl (!decide (i=j))) H:=by simp [qL,qN]
theorem A8{K:Frag}{i j:Bool}{H:Hp}{Q:VK}:qJ K (.bl i) (.bl j) H Q↔Q (.bl (decide (i=j))) H:=by simp [qJ,y8]
theorem Be{K:Frag}{i j:Bool}{H:Hp}{Q:VK}:qL K (.bl i) (.bl j) H Q↔Q (.bl (!decide (i=j))) H:=by simp [qL,zb]
end L2
namespace L2
open PySem PySem.Spec PyProof.Rows
def rK(l:List Nat):Bool:=l.all fun c=>decide (c∈[48,49,50,51,52,53,54,55,56,57])
def gv(w:List Nat):List Nat:=if w.head?=some 45 then w.tail else w
def rV(w:List Nat):Bool:=decide (1≤(gv w).length) && (decide ((gv w).length≤40) && (rK (gv w) && (decide ((gv w).head?≠some 48) || decide (w=[48]))))
theorem tX(w:List Nat):rV w=(if gv w=[]∨40 < (gv w).length then false else if rK (gv w)=false then false else(decide ((gv w).head?≠some 48) || decide (w=[48]))):=by
 unfold rV
 split
 ·rename_i h
  rcases h with h | h
  ·rw [h];rfl
  ·have:¬(gv w).length≤40:=by omega
   simp [this]
 ·rename_i h
  have h1:1≤(gv w).length:=by
   cases e:gv w with
   | nil=>exact absurd (Or.inl e) h
   | cons a b=>simp
  have h2:(gv w).length≤40:=by
   have:¬40 < (gv w).length:=fun z=>h (Or.inr z)
   omega
  simp only [h1,h2,decide_true,Bool.true_and]
  split
  ·rename_i h3;rw [h3];rfl
  ·rename_i h3
   have h3:rK (gv w)=true:=by simpa using h3
   rw [h3];rfl
def gF(n:Int):List Nat:=(Str.ofString (toString n)).cps.toList
def dg(m:Nat):List Nat:=(Nat.toDigits 10 m).map Char.toNat
theorem jK(m:Nat):gF (m:Int)=dg m:=PySem.W.KIN.signs_num m
theorem jL(k:Nat):gF (-((k+1:Nat):Int))=45::dg (k+1):=by
 have e:toString (-((k+1:Nat):Int))="-" ++ toString (k+1):=rfl;have h:=PySem.W.KIN.signs_num (k+1);unfold gF dg;rw [←h,e];have e2:toString (((k+1:Nat):Nat):Int)=toString (k+1):=rfl;rw [e2];simp only [PyProof.Rows.signs_ofString,String.toList_append];rfl
theorem ku(m:Nat):∀c∈dg m,48≤c∧c≤57:=by
 intro c hc;obtain⟨ch,hch,e⟩:=ac7.mp hc;have r:=PyProof.Rows.digit_range (Nat.isDigit_of_mem_toDigits (by decide) (by decide) hch);rw [←e];exact r
theorem rH(m:Nat):dg m≠[]:=by
 intro e;have h:=toDigits_len_ge 10 m;rw [List.map_eq_nil_iff.mp e]at h;exact absurd h (by decide)
theorem rJ{m:Nat}(h:m < 10):dg m=[m+48]:=by
 unfold dg;rw [Nat.toDigits_of_lt_base h]
 have:∀m,m < 10→(Nat.digitChar m).toNat=m+48:=by decide
 show [(Nat.digitChar m).toNat]=_;rw [this m h]
theorem B9{m:Nat}(h:¬m < 10):dg m=dg (m / 10)++[m % 10+48]:=by
 have hm:m % 10 < 10:=Nat.mod_lt m (by decide);have t:Nat.toDigits 10 (m / 10)++Nat.toDigits 10 (m % 10)=Nat.toDigits 10 (10 * (m / 10)+m % 10):=Nat.toDigits_append_toDigits (by decide) (by omega) hm;rw [Nat.div_add_mod]at t;rw [←rJ hm];unfold dg;rw [←t,ab7]
theorem Ac(m:Nat)(h0:0 < m):(dg m).head?≠some 48:=by
 induction m using Nat.strongRecOn with
 | _ m ih=>
  by_cases h:m < 10
  ·rw [rJ h]
   simp;omega
  ·rw [B9 h]
   have:=ih (m / 10) (by omega) (by omega)
   cases hd:dg (m / 10)with
   | nil=>exact absurd hd (rH _)
   | cons a l=>rw [hd]at this;exact this
theorem tL{k m:Nat}(hk:1≤k)(hm:m < 10 ^ k):(dg m).length≤k:=by
 unfold dg;rw [aa0];exact digits10_le hk hm
theorem m4(n:Int):∀c∈gF n,c=45∨(48≤c∧c≤57):=by
 intro c hc;rcases ak5 n 0 with h | h
 ·obtain⟨k,rfl⟩:∃k:Nat,n = -((k+1:Nat):Int):=⟨n.natAbs - 1,by omega⟩
  rw [jL]at hc;rcases aa6.mp hc with e | e
  ·exact .inl e
  ·exact .inr (ku _ c e)
 ·obtain⟨m,rfl⟩:=ae0 h
  rw [jK]at hc;exact .inr (ku _ c hc)
theorem Ad(m:Nat):rK (dg m)=true:=by
 unfold rK;rw [ai4];intro c hc;obtain⟨h1,h2⟩:=ku m c hc
 have:c=48∨c=49∨c=50∨c=51∨c=52∨c=53∨c=54∨c=55∨c=56∨c=57:=by omega
 simpa using this
theorem wD(n:Int):gv (gF n)=dg n.natAbs:=by
 rcases ak5 n 0 with h | h
 ·obtain⟨k,rfl⟩:∃k:Nat,n = -((k+1:Nat):Int):=⟨n.natAbs - 1,by omega⟩
  rw [jL]
  have e:(-((k+1:Nat):Int)).natAbs=k+1:=by omega
  rw [e];rfl
 ·obtain⟨m,rfl⟩:=ae0 h
  rw [jK];unfold gv;rw [if_neg]
  ·rfl
  ·intro e
   cases hd:dg m with
   | nil=>exact absurd hd (rH _)
   | cons a l=>
    rw [hd]at e
    have:a=45:=by simpa using e
    have:=ku m a (by rw [hd];exact ac3)
    omega
theorem kx{n:Int}(h:n.natAbs < 10 ^ 40):rV (gF n)=true:=by
 have hl:(dg n.natAbs).length≤40:=tL (by decide) h
 have hl0:1≤(dg n.natAbs).length:=by
  cases hd:dg n.natAbs with
  | nil=>exact absurd hd (rH _)
  | cons a l=>simp
 unfold rV;rw [wD,Ad,decide_eq_true hl,decide_eq_true hl0]
 by_cases h0:n=0
 ·subst h0
  decide +kernel
 ·rw [decide_eq_true (Ac n.natAbs (by omega))]
  rfl
theorem fF{n:Int}{k:Nat}(hk:1≤k)(h:n.natAbs < 10 ^ k):(gF n).length≤k+1:=by
 rcases ak5 n 0 with h1 | h1
 ·obtain⟨j,rfl⟩:∃k:Nat,n = -((k+1:Nat):Int):=⟨n.natAbs - 1,by omega⟩
  have e:(-((j+1:Nat):Int)).natAbs=j+1:=by omega
  rw [e]at h;rw [jL,ac2]
  have:=tL hk h
  omega
 ·obtain⟨m,rfl⟩:=ae0 h1
  rw [jK]
  have:=tL hk (show m < 10 ^ k from h)
  omega
theorem mj{n:Int}(h:n.natAbs < 10 ^ 600):intText? (Str.ofString (toString n))=some n:=by
 have hl:=fF (by decide) h
 have hl2:(Str.ofString (toString n)).length≤4300:=by rw [bg];exact ab8 hl (by decide)
 rcases ak5 n 0 with h1 | h1
 ·obtain⟨k,rfl⟩:∃k:Nat,n = -((k+1:Nat):Int):=⟨n.natAbs - 1,by omega⟩
  rw [PySem.intText_neg (cs:=dg (k+1)) (jL k) (ku _) (rH _) hl2]
  have:=PySem.W.KIN.val_back (k+1)
  unfold dg;rw [this]
 ·obtain⟨m,rfl⟩:=ae0 h1
  have e:(Str.ofString (toString ((m:Nat):Int))).cps.toList=dg m:=jK m;rw [PySem.intText_digits (by rw [e];exact ku _) (by rw [e];exact rH _) hl2,e]
  have:=PySem.W.KIN.val_back m
  unfold dg;rw [this]
def dI(c:Nat):List (List Nat)→List Nat
 | []=>[]
 | p::r=>p++(r.map (c::·)).flatten
theorem ph(c:Nat):∀(l:List Str) (a:Array Nat),(l.foldl (fun acc p=>acc++(⟨#[c]⟩:Str).cps++p.cps) a).toList=a.toList++(l.map (fun p=>c::p.cps.toList)).flatten
 | [],a=>by simp
 | p::l,a=>by
  rw [ah3,ph c l];simp
theorem dJ(c:Nat)(ys:List Str):(Txt.join ⟨#[c]⟩ ys).cps.toList=dI c (ys.map fun z=>z.cps.toList):=by
 unfold Txt.join Builtin.Str.glued
 cases ys with
 | nil=>rfl
 | cons p r=>
  show(r.foldl (fun acc p=>acc++(⟨#[c]⟩:Str).cps++p.cps) p.cps).toList=_;rw [ph];simp [dI,Function.comp_def]
theorem vJ(c:Nat):∀(p:List Nat) (l:List Nat),c∉p→lB c (p++c::l)=p::lB c l
 | [],l,_=>by simp [lB]
 | a::p,l,h=>by
  have h1:a≠c:=fun e=>h (by rw [e];exact ac3);have h2:c∉p:=fun e=>h (ac9 _ e);rw [ah1];simp only [lB,h1,if_false];rw [vJ c p l h2]
theorem td(c:Nat):∀(p:List Nat),c∉p→lB c p=[p]
 | [],_=>rfl
 | a::p,h=>by
  have h1:a≠c:=fun e=>h (by rw [e];exact ac3);have h2:c∉p:=fun e=>h (ac9 _ e);simp only [lB,h1,if_false];rw [td c p h2]
theorem nO(c:Nat):∀(ps:List (List Nat)),ps≠[]→(∀p∈ps,c∉p)→lB c (dI c ps)=ps
 | [],h,_=>absurd rfl h
 | [p],_,h=>by
  simp [dI];exact td c p (h p ac3)
 | p::q::r,_,h=>by
  have ih:=nO c (q::r) (by simp) (fun x hx=>h x (ac9 _ hx))
  have e:dI c (p::q::r)=p++c::dI c (q::r):=by simp [dI]
  rw [e,vJ c p _ (h p ac3),ih]
end L2
namespace L3
open PySem PySem.Spec PyProof.Rows
theorem hW(l:Bool)(a:Addr)(xs:Array Value):
  Meets (Builtin.«enumerate.__new__» ⟨[.type "enumerate",.ref a],[]⟩) (fun _ R s=>IsSeq l s.heap a xs∧
   R (.ok (.ret (.ref (s.heap.push (itRec l a)).objs.size))) { s with heap:=(s.heap.push (itRec l a)).push { cls:=.type "enumerate",data:=.fields #[.none,.bool false,.ref s.heap.objs.size,rawInt 0,.none,.none] } }):=
 .of_wp fun prog w A R s h=>by
  obtain⟨hp,g,d,tk,os⟩:=s;obtain⟨q1,h⟩:=h;have hsub:=sub_enumerate;have u1:IsSeq l (Shared.heap ⟨hp,g,d,tk,os⟩) a xs:=q1
  have tl:∃o,hp.get? a=some o:=by
   cases l
   ·obtain⟨o,e,_⟩:=(show hp.IsTuple a xs from q1);exact⟨o,e⟩
   ·obtain⟨o,e,_⟩:=(show hp.IsList a xs from q1);exact⟨o,e⟩
  obtain⟨ob,hl⟩:=tl;obtain⟨c,dct,dt,sl⟩:=ob
  wp_walk using AutoSeq1.wpAny_loadPart' hl
  refine wpAny_stack_any fun st=>wpAny_pure ?_
  split
  ·rename_i c _ _ _ _ _
   cases(c == Value.type "enumerate")
   ·wp_walk using AutoSeq1.wpAny_loadPart' hl,mS u1
    exact⟨_,rfl,h⟩
   ·wp_walk using AutoSeq1.wpAny_loadPart' hl,mS u1
    exact⟨_,rfl,h⟩
  ·wp_walk using AutoSeq1.wpAny_loadPart' hl,mS u1
   exact⟨_,rfl,h⟩
section
variable {prog:Program} {w:World} {A:Around} {E:Value→Shared→Prop} {s:Shared}
theorem call_enumerateB{l:Bool}{a:Addr}{xs:Array Value}{Q:Value→Shared→Prop}(hL:IsSeq l s.heap a xs)
  (h:∀h',IsEnum h' (s.heap.objs.size+1) s.heap.objs.size 0 .none→h'.get? s.heap.objs.size=some (itRec l a)→h'.objs.size=s.heap.objs.size+2→
   (∀b o,s.heap.get? b=some o→h'.get? b=some o)→Q (.ref (s.heap.objs.size+1)) { s with heap:=h' }) :
  wpAny (model prog w) A (call (.type "enumerate") [.ref a]) Q E s:=by
 refine callType_new F.called_enumerate (by decide) (F.typeCall_enumerate_1 _) (F.newCall_enumerate_1 _) (fun obj=>F.args_object_init_2 obj _) F.entry_enumerate_new
  (hW l a xs) ⟨hL,?_⟩
 have hz:(s.heap.push (itRec l a)).objs.size=s.heap.objs.size+1:=ag9 ..;show _∧_;rw [hz]
 have he:IsEnum ((s.heap.push (itRec l a)).push
   { cls:=.type "enumerate",data:=.fields #[.none,.bool false,.ref s.heap.objs.size,rawInt 0,.none,.none] }) (s.heap.objs.size+1) s.heap.objs.size 0 .none:=by
  have:=ab9 (s.heap.push (itRec l a))
   (o:={ cls:=.type "enumerate",data:=.fields #[.none,.bool false,.ref s.heap.objs.size,rawInt 0,.none,.none] }) rfl
  rw [hz]at this;exact this
 refine⟨⟨_,he,rfl⟩,h _ he (aa3 _ (ab9 _ rfl)) (by rw [ag9,hz]) fun b o x=>aa3 _ (aa3 _ x)⟩
end
end L3
namespace L2
open PySem PySem.Spec PyProof.Rows
def Et(K:Frag)(l:Bool)(a:Addr):It:=
 ⟨fun i H=>∃xs x,jy K l H a xs∧xs[i]?=some x,
  fun i H v H'=>∃p x,v=.ref p∧H p=none∧H'=upd H p (.tup [.int i,x])∧∀xs,jy K l H a xs→xs[i]?=some x,
  fun i H=>∃xs,jy K l H a xs∧i=xs.length⟩
theorem uY{P:Program}{w:World}{K:Frag}{elts:List Expr}{kt:Nat}{pt:Pos}(l:Bool)(a z it:Addr)(nd:z≠it):
  rj P w K (.Tuple elts kt pt) (Et K l a) [z,it] z (fun i h=>(∃old,IsEnum h z it ((i:Nat):Int) old)∧nX l h it a i):=by
 refine⟨by simp,?_,?_,?_,?_,?_⟩
 ·rintro i h ⟨⟨old,qz⟩,u⟩ c hc
  have hc':c=z∨c=it:=by simpa using hc
  rcases hc' with e | e
  ·subst e;exact⟨_,qz,fun v q=>by cases q⟩
  ·subst e
   exact u.obj
 ·rintro i h h' ⟨⟨old,qz⟩,u⟩ k
  exact⟨⟨old,k z (by simp) _ qz⟩,u.at fun o e=>k it (by simp) o e⟩
 ·rintro X hP hw hK hc i pins s σ H E I hf ⟨⟨old,qz⟩,u⟩ ⟨xs,x,q1,hx⟩
  subst hP hw hK;have hh:X.A.in1.handled=none:=I.ok.hd hc;obtain⟨its,r1,p1,z1⟩:=I.seqB q1;have na:a≠it:=I.seqB_ne q1 (hf it (by simp));have nz:a≠z:=I.seqB_ne q1 (hf z (by simp))
  have lx:i < its.toArray.size:=by
   have:=(aa2.mp hx).1
   rw [aa9,←r1.length];exact this
  have hef:z∉[it,a]:=by
   simp only [aa6,ag2,or_false,not_or];exact⟨nd,nz.symm⟩
  refine wpAny_pyNext_enum_itemD (pb (P:=X.prog) (w:=X.w) hh l it a na its.toArray) qz ⟨u,p1⟩ lx nd hef fun v h' tk ev z' s' pr sz kk=>?_;obtain⟨w1,g1,rx⟩:=r1.get hx
  have ev1:v=w1:=by
   have:its[i]?=some v:=by simpa using ev
   rw [g1]at this;exact(Option.some.inj this).symm
  subst ev1;refine⟨_,rfl,wpAny_letOwnedTupleGo_enum (s:={ s with heap:=h',toks:=tk+1 }) z' fun h2 z2 sb=>?_⟩;have fz:s.heap.objs.size≠z:=af7 (ab2 qz);have Hn:H s.heap.objs.size=none:=I.hok.fresh (aa7 _)
  have kp:∀c o,c∉[z,it]→s.heap.get? c=some o→h2.get? c=some o:=fun c o hc e=>by
   have hc':c≠z∧c≠it:=by simpa [not_or]using hc
   exact(sb.2 c hc'.1).trans (kk c o hc'.1 hc'.2 e)
  have nf:∀{c:Addr} {u:HO},H c=some u→c∉[z,it]:=fun {c u} e hc=>by
   have:=(hf c hc).1
   rw [e]at this;cases this
  have pr2:h2.get? s.heap.objs.size=some { cls:=.type "tuple",data:=.seq #[.int i tk,v] }:=(sb.2 _ fz).trans pr
  have I2:aK X pins σ (upd H s.heap.objs.size (.tup [.int i,x])) { s with heap:=h2,toks:=tk+1 }:=by
   refine I.step (g':=s.gens) (d':=s.drawn) (ch:=[z,it]) (fun c hc=>⟨(hf c hc).2.2.2.1,(hf c hc).2.1,(hf c hc).2.2.2.2.1,(hf c hc).2.2.2.2.2⟩) (fun c o _ _ hc e _=>kp c o hc e) (fun c o _ _ hc e _=>⟨o.slots,kp c o hc e⟩)
    (fun c o _ e n=>by rw [ak (ab5 (ab2 e))];exact n) (fun c o hc e=>⟨o,kp c o hc e⟩) (fun c us e=>by rw [ak (ar e Hn)];exact e) (fun c o u e=>by rw [ak (ar e Hn)];exact e)
    (fun c ps e=>⟨#[],by rw [ak (ar e Hn),e];simp⟩) (fun m hm=>?_) (fun c u e=>?_) I.bare
   ·obtain⟨o,es,ep,ho,r⟩:=hm
    exact⟨o,es,ep,kp _ o (fun q=>(hf _ q).2.1 rfl) ho,r⟩
   ·by_cases hcs:c=s.heap.objs.size
    ·subst hcs
     rw [ag]at e;cases e;exact⟨by rw [sizeLine_eq];show 2≤16777216;omega,[.int i tk,v],.cons ⟨_,rfl⟩ (.cons rx .nil),_,pr2,rfl,_,rfl⟩
    ·rw [ak hcs]at e
     refine(I.hok c u e).stay (fun d o hd q=>kp d o ?_ q) (fun d q=>by rw [ak (ar q Hn)];exact q) fun d us q=>by rw [ak (ar q Hn)];exact q
     rcases hd with hd | hd
     ·rw [hd];exact nf e
     ·exact nf hd
  refine⟨.ref s.heap.objs.size,_,I2,rfl,⟨_,x,rfl,Hn,rfl,fun us hu=>by rw [I.seqB_inj hu q1];exact hx⟩,⟨⟨v,?_⟩,?_⟩,fun c hc=>?_⟩
  ·have e:(((i+1:Nat)):Int)=(i:Int)+1:=by omega
   rw [e];exact z2
  ·exact s'.1.at fun o e=>(sb.2 _ nd.symm).trans e
  ·show upd H s.heap.objs.size (.tup [.int i,x]) c=none
   have lt:c < s.heap.objs.size:=by
    have hc':c=z∨c=it:=by simpa using hc
    rcases hc' with e | e
    ·subst e;exact ab2 qz
    ·subst e;obtain⟨o,e,_⟩:=u.obj;exact ab2 e
   rw [ak (ab5 lt)];exact(hf c hc).1
 ·rintro X hP hw hK hc i pins s σ H E I hf ⟨⟨old,qz⟩,u⟩ ⟨xs,q1,hend⟩
  subst hP hw hK;have hh:X.A.in1.handled=none:=I.ok.hd hc;obtain⟨its,r1,p1,z1⟩:=I.seqB q1;have na:a≠it:=I.seqB_ne q1 (hf it (by simp))
  have ei:i=its.toArray.size:=by rw [aa9,←r1.length];exact hend
  subst ei;obtain⟨f0,f1,f2,f3,f4,f5⟩:=hf it (by simp);exact wpAny_pyNext_enum_endD (pb (P:=X.prog) (w:=X.w) hh l it a na its.toArray) qz ⟨u,p1⟩ fun h' k=>⟨rfl,I.turned (t':=s.toks) (fun b o hb e=>k b o hb e) f0 f1 f3 f4 f5⟩
 ·rintro A i s Q E ⟨⟨old,qz⟩,_⟩ h
  exact wpAny_pyIter_enum qz h
def ym(K:Frag)(ta:TA):TI:=fun σ H R=>ta σ H fun vs H1=>∃a,vs=[.ref a]∧∃l,(∃xs,jy K l H1 a xs)∧R (Et K l a) H1
theorem gy{X:Cx}{elts:List Expr}{kt:Nat}{pt:Pos}{a:Expr}{ta:TA}{p pos:Pos}(hg:Gl X "enumerate")(hm:X.mg "enumerate"=none)(ha:PA X [a] ta)(hs:starEach [a] X.env=[(false,eval a X.env)]:=by rfl):
  PI X (.Tuple elts kt pt) (.Call (.Name "enumerate" p) [a] [] pos) (ym X.K ta):=by
 intro pins s σ H R I h;refine Call_ (i8 I hg hm boot_enumerate (PyProof.Rows.callWith_type1 (cZ (ha pos pins s σ H _ I h) fun us s1 ⟨vs,H1,I1,r1,q1⟩=>?_) hs rfl));obtain⟨a1,e,l,⟨xs,q1⟩,q⟩:=q1;subst e;obtain⟨u,rfl,e1⟩:=eF r1;cases e1;obtain⟨its1,r1,p1,z1⟩:=I1.seqB q1;refine L3.call_enumerateB p1 fun h' qz qI sz kp=>wpAny_pyIter_enum qz ?_;refine⟨s1.heap.objs.size+1,[s1.heap.objs.size+1,s1.heap.objs.size],_,_,H1,rfl,I1.kept (h':=h') (t':=s1.toks) kp,uY l a1 _ _ (Nat.succ_ne_self _),⟨⟨_,qz⟩,nX.rec qI⟩,fun c hc=>?_,q⟩
 have hc':s1.heap.objs.size≤c:=by
  have:c=s1.heap.objs.size+1∨c=s1.heap.objs.size:=by simpa using hc
  rcases this with e | e<;>(rw [e];first | exact aa7 _ | exact Nat.le_add_right _ _)
 exact I1.fpOk hc' (I1.hok.fresh hc')
theorem gE{g:TG}{tb:TS}{D:e9}{σ:St}{H:Hp}{K:Frag}{l:Bool}{a:Addr}{us:List V}(Pv:Nat→St→Hp→Prop)(h0:Pv 0 σ H)(hl:∀i σ H,i≤us.length→Pv i σ H→jy K l H a us)
  (hs:∀i x σ H p,us[i]?=some x→Pv i σ H→H p=none→g (.ref p) σ (upd H p (.tup [.int i,x])) fun σ2 H2=>tb { D with nx:=Pv (i+1),ct:=Pv (i+1),bk:=D.nx } σ2 H2) (hd:∀σ H,Pv us.length σ H→D.nx σ H):xH g tb D σ (Et K l a) H:=by
 refine⟨fun i m σ H=>m=us.length - i∧i≤us.length∧Pv i σ H,⟨us.length,by simp,ac0 _,h0⟩,?_⟩;rintro i m σ H ⟨rfl,hi,p⟩;have q1:=hl i σ H hi p
 by_cases hlt:i < us.length
 ·refine .inr ⟨⟨us,us[i],q1,by simp [hlt]⟩,Pv (i+1),fun σ' H' p'=>⟨us.length - (i+1),by omega,rfl,hlt,p'⟩,fun x H' y=>?_⟩
  obtain⟨pp,u,e,hp,e2,y1⟩:=y;subst e e2;exact hs i u σ H pp (y1 us q1) p hp
 ·have e:i=us.length:=by omega
  subst e;exact .inl ⟨⟨us,q1,rfl⟩,hd σ H p⟩
theorem lH{n:Nat}{js:List Nat}{g:TG}{tt:TT}{te:TE}{σ:St}{H:Hp}{F:List V→Hp→Prop}{K:Frag}{l:Bool}{a:Addr}{us:List V}(Pv:Nat→List V→Hp→Prop)(hk:us.length≤sizeLine)(h0:Pv 0 [] H)(hn:∀i ys H,Pv i ys H→ys.length≤i)(hl:∀i ys H,Pv i ys H→jy K l H a us)
  (hs:∀i x ys H p,us[i]?=some x→Pv i ys H→H p=none→jD n js g tt te σ (.ref p) ys (upd H p (.tup [.int i,x])) (Pv (i+1))) (hd:∀ys H,Pv us.length ys H→F ys H):rf n js g tt te σ F (Et K l a) H:=by
 refine⟨fun i m ys H=>m=us.length - i∧i≤us.length∧Pv i ys H,⟨us.length,by simp,ac0 _,h0⟩,?_⟩;rintro i m ys H ⟨rfl,hi,p⟩;have q1:=hl i ys H p
 by_cases hlt:i < us.length
 ·refine .inr ⟨⟨us,us[i],q1,by simp [hlt]⟩,ab6 (hn i ys H p) (aa5 hlt hk),Pv (i+1),fun σ' H' p'=>⟨us.length - (i+1),by omega,rfl,hlt,p'⟩,fun x H' y=>?_⟩
  obtain⟨pp,u,e,hp,e2,y1⟩:=y;subst e e2;exact hs i u ys H pp (y1 us q1) p hp
 ·have e:i=us.length:=by omega
  subst e;exact .inl ⟨⟨us,q1,rfl⟩,hd ys H p⟩
structure pP(K:Frag)(x qual:Str)(st:Stmt)(f:Addr)(fd:FuncData)(T:Addr):Prop where
 ex:∃(oc:Value) (od:Option Addr) (kV doc pm:Value) (an:Option Addr) (cdv ct:Value) (osl:Array (Option Value)),
  fd=fnOf x qual (dC st) (cO st) (aq st) (.ref T) kV doc pm an cdv ct∧K.lookup f=some ⟨oc,od,.func fd,osl⟩∧codeIn K cdv qual=true
 kp:keepIn K (.ref f)=true
section
variable {P:Program} {w:World} {K:Frag} {mg:Str→Option Value} {base:Heap}
theorem pP.ok{x qual:Str}{st:Stmt}{f:Addr}{fd:FuncData}{T:Addr}{N ps:List Str}{k:Nat}{sp:Sp}(F:pP K x qual st f fd T)(S:ay N ps (aq st))(len:∀vs H Q E,sp vs H Q E→vs.length=ps.length)
  (hbody:∀(cdv:Value) (A:Around) (outer:List Env) (s:Shared) (H:Hp) (vs:List V) (Q:VK) (E:XK),dn k (A.deeper (envOfC qual (aq st) s.heap.objs.size f cdv))→sp vs H Q E→
   ∃t,tw (kr cb P w K mg base N qual (aq st) f cdv A outer s H E).nox (cO st) t∧t { nx:=fun _ H'=>Q .non H',rt:=Q } (start N vs) H):aH P w K mg base cb (k+1) f fd ps sp:=by
 obtain⟨oc,od,kV,doc,pm,an,cdv,ct,osl,rfl,lk,hcd⟩:=F.ex;refine yf lk hcd S len fun A outer s H vs Q E hr hsp=>?_;obtain⟨t,h,q⟩:=hbody cdv A outer s H vs Q E hr hsp;exact⟨t,h.nox,q⟩
end
structure BX(P:Program)(w:World)(K:Frag)(mg:Str→Option Value)(base:Heap)(x:Str)(k:Nat)(ps:List Str)(sp:Sp)(dvs:List V):Prop where
 ex:∃(f:Addr) (fd:FuncData) (ds:List Value),aH P w K mg base cb k f fd ps sp∧mg x=some (.ref f)∧keepIn K (.ref f)=true∧dF K fd ps ds∧aV dvs ds
section
variable {X:Cx} {k:Nat} {ps:List Str} {sp:Sp} {x:Str} {p pos:Pos} {e:Expr} {es:List Expr} {t:TA} {dvs:List V}
theorem AO(d:BX X.prog X.w X.K X.mg X.base x k ps sp dvs)(hr:dn k X.A)(hg:Gl X x)(ha:PA X (e::es) t)(hdb:(x == ("__debug__":Str))=false:=by decide)
  (he:starEach (e::es) X.env=(false,eval e X.env)::starEach es X.env:=by rfl) (hpl:(backTo pos (starEach es X.env)).any (·.1)=false:=by rfl):PE X (.Call (.Name x p) (e::es) [] pos) (nP sp dvs E0 t):=
 let ⟨_,_,_,F,hm,hk,hb,hd⟩:=d.ex;qy F hr hg hm hk hb hd nh ha hdb he hpl
end
structure xB(K:Frag)(x:Str)(st:Stmt)(f:Addr)(fd:FuncData)(u:Value):Prop where
 ns:nsIn K mainGlobals x=some (some (.ref f))
 fn:∃(T:Addr) (o:Obj) (n:Nat),pP K x x st f fd T∧K.lookup T=some o∧o.data=.seq #[u] n
theorem pP.binds{K:Frag}{x qual:Str}{st:Stmt}{f T:Addr}{fd:FuncData}{ps:List Str}(F:pP K x qual st f fd T){o:Obj}{u:Value}{n:Nat}(t:K.lookup T=some o)(d:o.data=.seq #[u] n)
  (h:∀(kV doc pm:Value) (an:Option Addr) (cdv ct:Value) (us:List Value),us.length=ps.length→
   ∃k:Option (Array Value)→Sem (List (Str×Value)),bindArgs (fnOf x qual (dC st) (cO st) (aq st) (.ref T) kV doc pm an cdv ct) ⟨us,[]⟩=seqItems? (.ref T) >>= k∧k (some #[u])=pure (ps.zip us)):dF K fd ps []:=by
 obtain⟨oc,od,kV,doc,pm,an,cdv,ct,osl,rfl,lk,hcd⟩:=F.ex;intro s us X hl;rw [af2]at hl ⊢;obtain⟨k,h1,h2⟩:=h kV doc pm an cdv ct us hl;exact BindsTo.of_defaults (T:=T) rfl (X _ _ t) d h1 h2
theorem pP.bindsD{K:Frag}{x qual:Str}{st:Stmt}{f T:Addr}{fd:FuncData}{ps:List Str}(F:pP K x qual st f fd T){o:Obj}{u:Value}{n:Nat}(t:K.lookup T=some o)(d:o.data=.seq #[u] n)
  (h:∀(kV doc pm:Value) (an:Option Addr) (cdv ct:Value) (us:List Value),us.length+1=ps.length→
   ∃k:Option (Array Value)→Sem (List (Str×Value)),bindArgs (fnOf x qual (dC st) (cO st) (aq st) (.ref T) kV doc pm an cdv ct) ⟨us,[]⟩=seqItems? (.ref T) >>= k∧k (some #[u])=pure (ps.zip (us++[u]))):dF K fd ps [u]:=by
 obtain⟨oc,od,kV,doc,pm,an,cdv,ct,osl,rfl,lk,hcd⟩:=F.ex;intro s us X hl;obtain⟨k,h1,h2⟩:=h kV doc pm an cdv ct us (by rw [←hl,ab4];rfl);exact BindsTo.of_defaults (T:=T) rfl (X _ _ t) d h1 h2
end L2
namespace L2
open PySem PySem.Spec PyProof.Rows
def nU(K:Frag)(H:Hp):Nat→V→V→Bool→Prop
 | 0,x,y,b=>(eo x=true∧eo y=true∧b=wB x y)∨∃a,x=.ref a∧y=.ref a∧b=true
 | n+1,x,y,b=>nU K H 0 x y b∨∃(a c:Addr) (l:Bool) (xs ys:List V) (e:Nat→Bool),x=.ref a∧y=.ref c∧a≠c∧jy K l H a xs∧jy K l H c ys∧
   (∀j x y,xs[j]?=some x→ys[j]?=some y→nU K H n x y (e j))∧b=((List.range (min xs.length ys.length)).all e && xs.length == ys.length)
theorem nU.flat{K:Frag}{H:Hp}{n:Nat}{x y:V}(fx:eo x=true)(fy:eo y=true):nU K H n x y (wB x y):=by
 cases n
 ·unfold nU;exact .inl ⟨fx,fy,rfl⟩
 ·unfold nU;refine .inl ?_;unfold nU;exact .inl ⟨fx,fy,rfl⟩
theorem nU.same{K:Frag}{H:Hp}{n:Nat}{a:Addr}:nU K H n (.ref a) (.ref a) true:=by
 cases n
 ·unfold nU;exact .inr ⟨a,rfl,rfl,rfl⟩
 ·unfold nU;refine .inl ?_;unfold nU;exact .inr ⟨a,rfl,rfl,rfl⟩
section
variable {X:Cx} {pins:List (Addr×Obj)} {σ:St} {H:Hp} {s:Shared}
theorem gC{xs:List V}{us:List Value}(r:aV xs us){j:Nat}(h:j < us.toArray.size):∃x,xs[j]?=some x∧aN x us.toArray[j]:=by
 have l1:=r.length;simp only [aa9]at h
 have hx:j < xs.length:=by omega
 obtain⟨u,e1,r1⟩:=aV.get r (i:=j) (x:=xs[j]) (by simp [hx])
 have g1:us.toArray[j]=u:=by simpa [h]using e1
 exact⟨xs[j],by simp [hx],by rw [g1];exact r1⟩
theorem zd{A:Around}{l:Bool}{a c:Addr}{xs ys:List V}{us vs:List Value}{e:Nat→Bool}(rx:aV xs us)(ry:aV ys vs)(p1:L3.IsSeq l s.heap a us.toArray)(p2:L3.IsSeq l s.heap c vs.toArray)(hu:A.units < cLine)
  (he:∀j (h1:j < us.toArray.size) (h2:j < vs.toArray.size),SeqAt.EqAt A.in1 s us.toArray[j] vs.toArray[j] (e j)):SeqAt.RcAt A s (.ref a) (.ref c) ((List.range (min xs.length ys.length)).all e && xs.length == ys.length):=by
 have s1:us.toArray.size=xs.length:=by rw [aa9,rx.length]
 have s2:vs.toArray.size=ys.length:=by rw [aa9,ry.length]
 cases l
 ·have:=SeqAt.RcAt.tuples (show s.heap.IsTuple a us.toArray from p1) (show s.heap.IsTuple c vs.toArray from p2) hu he
  rw [s1,s2]at this;exact this
 ·by_cases hl:xs.length=ys.length
  ·have:=SeqAt.RcAt.lists (show s.heap.IsList a us.toArray from p1) (show s.heap.IsList c vs.toArray from p2) (by rw [s1,s2,hl]) hu he
   rw [s1]at this;rw [hl,ah2,beq_self_eq_true,Bool.and_true,←hl];exact this
  ·have:=SeqAt.RcAt.lists_lengths (show s.heap.IsList a us.toArray from p1) (show s.heap.IsList c vs.toArray from p2) (by rw [s1,s2];simpa using hl) hu
   rw [show(xs.length == ys.length)=false by simpa using hl,Bool.and_false];exact this
theorem ze{A:Around}{l:Bool}{a c:Addr}{xs ys:List V}{us vs:List Value}{e:Nat→Bool}(rx:aV xs us)(ry:aV ys vs)(p1:L3.IsSeq l s.heap a us.toArray)(p2:L3.IsSeq l s.heap c vs.toArray)(hu:A.units < cLine)
  (he:∀j (h1:j < us.toArray.size) (h2:j < vs.toArray.size),SeqAt.EqAt A.in1 s us.toArray[j] vs.toArray[j] (e j)):SeqAt.RcNeAt A s (.ref a) (.ref c) (!((List.range (min xs.length ys.length)).all e && xs.length == ys.length)):=by
 have s1:us.toArray.size=xs.length:=by rw [aa9,rx.length]
 have s2:vs.toArray.size=ys.length:=by rw [aa9,ry.length]
 cases l
 ·have:=SeqAt.RcNeAt.tuples (show s.heap.IsTuple a us.toArray from p1) (show s.heap.IsTuple c vs.toArray from p2) hu he
  rw [s1,s2]at this;exact this
 ·by_cases hl:xs.length=ys.length
  ·have:=SeqAt.RcNeAt.lists (show s.heap.IsList a us.toArray from p1) (show s.heap.IsList c vs.toArray from p2) (by rw [s1,s2,hl]) hu he
   rw [s1]at this;rw [hl,ah2,beq_self_eq_true,Bool.and_true,←hl];exact this
  ·have:=SeqAt.RcNeAt.lists_lengths (show s.heap.IsList a us.toArray from p1) (show s.heap.IsList c vs.toArray from p2) (by rw [s1,s2];simpa using hl) hu
   rw [show(xs.length == ys.length)=false by simpa using hl,Bool.and_false];exact this
theorem nU.at(I:aK X pins σ H s):∀{n:Nat} {A:Around} {x y:V} {u v:Value} {b:Bool},A.units+n < cLine→aN x u→aN y v→nU X.K H n x y b→SeqAt.EqAt A s u v b:=by
 have z0:∀{A:Around} {x y:V} {u v:Value} {b:Bool},aN x u→aN y v→nU X.K H 0 x y b→SeqAt.EqAt A s u v b:=by
  intro A x y u v b rx ry h;unfold nU at h;rcases h with⟨fx,fy,rfl⟩ | ⟨a,rfl,rfl,rfl⟩
  ·exact ya rx ry fx fy
  ·cases rx;cases ry;exact SeqAt.EqAt.same _
 intro n
 induction n with
 | zero=>intro A x y u v b _ rx ry h;exact z0 rx ry h
 | succ n ih=>
  intro A x y u v b hu rx ry h;unfold nU at h;rcases h with h | ⟨a,c,l,xs,ys,e,rfl,rfl,ne,h1,h2,he,rfl⟩
  ·exact z0 rx ry h
  ·cases rx;cases ry
   obtain⟨us,r1,p1,_⟩:=I.seqB h1;obtain⟨vs,r2,p2,_⟩:=I.seqB h2;refine SeqAt.EqAt.of_refs ne (zd r1 r2 p1 p2 (by omega) fun j j1 j2=>?_);obtain⟨x,ex,rx⟩:=gC r1 j1;obtain⟨y,ey,ry⟩:=gC r2 j2;exact ih (A:=A.in1) (by show A.units+1+n < cLine;omega) rx ry (he j x y ex ey)
def zM(K:Frag)(H:Hp)(n:Nat)(x y:V)(b:Bool):Prop:=∃(a c:Addr) (l:Bool) (xs ys:List V) (e:Nat→Bool),x=.ref a∧y=.ref c∧jy K l H a xs∧jy K l H c ys∧
 (∀j x y,xs[j]?=some x→ys[j]?=some y→nU K H n x y (e j))∧b=((List.range (min xs.length ys.length)).all e && xs.length == ys.length)
theorem CJ(n:Nat)(hu:X.A.units+n+1 < cLine):dY X (compareOp .Eq) (fun x y H Q=>∃b,zM X.K H n x y b∧Q (.bl b) H):=by
 intro pins s σ H x y v u Q I rx ry h;obtain⟨b,⟨a,c,l,xs,ys,e,rfl,rfl,h1,h2,he,rfl⟩,q⟩:=h;cases rx;cases ry;obtain⟨us,r1,p1,_⟩:=I.seqB h1;obtain⟨vs,r2,p2,_⟩:=I.seqB h2;refine zd (A:=X.A) r1 r2 p1 p2 (by omega) (fun j j1 j2=>?_) X.prog X.w X.xe _ (bt I q rfl);obtain⟨x,ex,rx⟩:=gC r1 j1;obtain⟨y,ey,ry⟩:=gC r2 j2;exact nU.at I (A:=X.A.in1) (by show X.A.units+1+n < cLine;omega) rx ry (he j x y ex ey)
theorem CL(n:Nat)(hu:X.A.units+n+1 < cLine):dY X (compareOp .NotEq) (fun x y H Q=>∃b,zM X.K H n x y b∧Q (.bl (!b)) H):=by
 intro pins s σ H x y v u Q I rx ry h;obtain⟨b,⟨a,c,l,xs,ys,e,rfl,rfl,h1,h2,he,rfl⟩,q⟩:=h;cases rx;cases ry;obtain⟨us,r1,p1,_⟩:=I.seqB h1;obtain⟨vs,r2,p2,_⟩:=I.seqB h2;refine ze (A:=X.A) r1 r2 p1 p2 (by omega) (fun j j1 j2=>?_) X.prog X.w X.xe _ (bt I q rfl);obtain⟨x,ex,rx⟩:=gC r1 j1;obtain⟨y,ey,ry⟩:=gC r2 j2;exact nU.at I (A:=X.A.in1) (by show X.A.units+1+n < cLine;omega) rx ry (he j x y ex ey)
def iW(K:Frag):R2:=fun x y H Q=>pE x y H Q∨∃b,zM K H 4 x y b∧Q (.bl b) H
def iX(K:Frag):R2:=fun x y H Q=>pF x y H Q∨∃b,zM K H 4 x y b∧Q (.bl (!b)) H
theorem zQ{A:Around}{k:Nat}(hr:dn k A):A.units+4+1 < cLine:=ab6 (Nat.add_le_add_left (by decide:5≤64) _) hr.units
theorem D0(K:Frag)(hu:X.A.units+4+1 < cLine)(h:X.K=K:=by rfl):dY X (compareOp .Eq) (iW K):=h▸opEq.or (CJ 4 hu)
theorem D5(K:Frag)(hu:X.A.units+4+1 < cLine)(h:X.K=K:=by rfl):dY X (compareOp .NotEq) (iX K):=h▸opNe.or (CL 4 hu)
end
theorem vy{K:Frag}{i j:Int}{H:Hp}{Q:VK}:iW K (.int i) (.int j) H Q↔Q (.bl (decide (i=j))) H:=by simp [iW,rEq_ii,zM]
theorem vA{K:Frag}{i j:Int}{H:Hp}{Q:VK}:iX K (.int i) (.int j) H Q↔Q (.bl (!decide (i=j))) H:=by simp [iX,qM,zM]
theorem vz{K:Frag}{i j:Str}{H:Hp}{Q:VK}:iW K (.str i) (.str j) H Q↔Q (.bl (decide (i=j))) H:=by simp [iW,qK,zM]
theorem vB{K:Frag}{i j:Str}{H:Hp}{Q:VK}:iX K (.str i) (.str j) H Q↔Q (.bl (!decide (i=j))) H:=by simp [iX,qN,zM]
theorem BE(K:Frag):xx (iW K)=iW K:=yr (fun _ _ _ _=>vy) (fun _ _ _ _=>vz)
theorem BG(K:Frag):xy (iX K)=iX K:=yu (fun _ _ _ _=>vA) (fun _ _ _ _=>vB)
theorem Cs{K:Frag}{x y:V}{H:Hp}{Q:VK}:xx (iW K) x y H Q↔iW K x y H Q:=by rw [BE]
theorem Cu{K:Frag}{x y:V}{H:Hp}{Q:VK}:xy (iX K) x y H Q↔iX K x y H Q:=by rw [BG]
theorem DV{X:Cx}(K:Frag)(hu:X.A.units+4+1 < cLine)(h:X.K=K:=by rfl):dY X (compareOp .Eq) (xx (iW K)):=by rw [BE];exact D0 K hu h
theorem t6{X:Cx}(K:Frag)(hu:X.A.units+4+1 < cLine)(h:X.K=K:=by rfl):dY X (compareOp .NotEq) (xy (iX K)):=by rw [BG];exact D5 K hu h
theorem zM.of_same{K:Frag}{H:Hp}{n:Nat}{a c:Addr}{l:Bool}{xs:List V}(h1:jy K l H a xs)(h2:jy K l H c xs)(hf:∀x∈xs,eo x=true∨∃p,x=.ref p):zM K H n (.ref a) (.ref c) true:=by
 refine⟨a,c,l,xs,xs,fun _=>true,rfl,rfl,h1,h2,fun j x y hx hy=>?_,?_⟩
 ·rw [hx]at hy
  cases hy;rcases hf x (ad1 hx)with f | ⟨p,rfl⟩
  ·have:=nU.flat (K:=K) (H:=H) (n:=n) f f
   have e:wB x x=true:=by cases x<;>first | rfl | (simp [wB];done) | exact absurd (show false=true from f) aa4
   rw [e]at this;exact this
  ·exact nU.same
 ·simp
theorem kK{K:Frag}{H:Hp}{a c:Addr}{l:Bool}{xs:List V}{Q:VK}(h1:jy K l H a xs)(h2:jy K l H c xs)(hf:∀x∈xs,eo x=true∨∃p,x=.ref p)(q:Q (.bl true) H):iW K (.ref a) (.ref c) H Q:=.inr ⟨true,.of_same h1 h2 hf,q⟩
theorem w9{K:Frag}{H:Hp}{a c:Addr}{l:Bool}{xs:List V}{Q:VK}(h1:jy K l H a xs)(h2:jy K l H c xs)(hf:∀x∈xs,eo x=true∨∃p,x=.ref p)(q:Q (.bl false) H):iX K (.ref a) (.ref c) H Q:=.inr ⟨true,.of_same h1 h2 hf,q⟩
end L2
namespace L2
open PySem PySem.Spec PyProof.Rows
structure fR(P:Program)(w:World)(K:Frag)(mg:Str→Option Value)(base:Heap)(k:Nat)(f:Addr)(ps:List Str)(sp:Sp):Prop where
 ex:∃fd:FuncData,aH P w K mg base cb k f fd ps sp∧keepIn K (.ref f)=true∧dF K fd ps []
structure aA(P:Program)(w:World)(K:Frag)(mg:Str→Option Value)(base:Heap)(C:Addr)(m:Str)(k:Nat)(ps:List Str)(sp:Sp):Prop where
 cl:nT K C
 ex:∃(f:Addr) (fd:FuncData),B3 K C m f∧aH P w K mg base cb k f fd ps sp∧dF K fd ps []
structure Bq(K:Frag)(C:Addr)(m:Str)(f:Addr):Prop where
 rd:PySem.W.readsIn K C (.type "type")=true
 at_:PySem.W.findCls K (.ref C) (.type "type") m=some (.val (.ref f))
 ga:PySem.W.specialIn K (.ref C) "__getattribute__"=some (some (.builtin "type.__getattribute__"))
 kp:keepIn K (.ref f)=true
structure mE(P:Program)(w:World)(K:Frag)(mg:Str→Option Value)(base:Heap)(x m:Str)(k:Nat)(ps:List Str)(sp:Sp):Prop where
 ex:∃(C f:Addr) (fd:FuncData),mg x=some (.ref C)∧Bq K C m f∧aH P w K mg base cb k f fd ps sp∧dF K fd ps []
structure e7(P:Program)(w:World)(K:Frag)(mg:Str→Option Value)(base:Heap)(x:Str)(C:Addr)(k:Nat)(ps:List Str)(sp:Sp):Prop where
 ex:∃(f:Addr) (fd:FuncData),Mk K C f∧aH P w K mg base cb k f fd ps sp∧mg x=some (.ref C)∧dF K fd ps []
section
variable {P:Program} {w:World} {K:Frag} {mg:Str→Option Value} {base:Heap} {j k:Nat} {ps:List Str} {sp:Sp} {x m:Str} {C f:Addr}
theorem fR.up(d:fR P w K mg base j f ps sp)(h:j≤k):fR P w K mg base k f ps sp:=let ⟨fd,F,b,c⟩:=d.ex;⟨fd,F.mono h,b,c⟩
theorem aA.up(d:aA P w K mg base C m j ps sp)(h:j≤k):aA P w K mg base C m k ps sp:=let ⟨f,fd,a,F,c⟩:=d.ex;⟨d.cl,f,fd,a,F.mono h,c⟩
theorem e7.up(d:e7 P w K mg base x C j ps sp)(h:j≤k):e7 P w K mg base x C k ps sp:=let ⟨f,fd,a,F,b,c⟩:=d.ex;⟨f,fd,a,F.mono h,b,c⟩
theorem aA.imp{sp':Sp}(d:aA P w K mg base C m k ps sp)(h:∀vs H Q E,sp' vs H Q E→sp vs H Q E):aA P w K mg base C m k ps sp':=let ⟨f,fd,a,F,c⟩:=d.ex;⟨d.cl,f,fd,a,F.imp h,c⟩
end
def uT(P:Program)(w:World)(K:Frag)(mg:Str→Option Value)(base:Heap)(k:Nat)(m:Str)(ta:TE)(t:TA):TE:=fun σ H Q=>ta σ H fun x H1=>∃(a C dx:Addr) (fs:List (Str×V)) (ps:List Str) (sp:Sp),
 x=.ref a∧H1 a=some (.ins C dx fs)∧fs.lookup m=none∧aA P w K mg base C m k ps sp∧t σ H1 fun vs H2=>sp (x::vs) H2 Q E0
def zz(P:Program)(w:World)(K:Frag)(mg:Str→Option Value)(base:Heap)(k:Nat)(tf:TE)(t:TA):TE:=fun σ H Q=>tf σ H fun x H1=>∃(f:Addr) (ps:List Str) (sp:Sp),
 x=.ref f∧fR P w K mg base k f ps sp∧t σ H1 fun vs H2=>sp vs H2 Q E0
section
variable {X:Cx} {k:Nat} {f C:Addr} {fd:FuncData} {ps:List Str} {sp:Sp} {x m:Str} {p pos apos:Pos} {e o:Expr} {es:List Expr} {ta:TE} {t:TA}
theorem nj(P:Program)(w:World)(K:Frag)(mg:Str→Option Value)(base:Heap){pl:Sem Bool}(hr:dn k X.A)(he:PE X o ta)(ha:PA X (e::es) t)(e1:X.prog=P:=by rfl)(e2:X.w=w:=by rfl)(e3:X.K=K:=by rfl)(e4:X.mg=mg:=by rfl)(e5:X.base=base:=by rfl)
  (hst:starEach (e::es) X.env=(false,eval e X.env)::starEach es X.env:=by rfl) (hpl:(backTo pos (starEach es X.env)).any (·.1)=false:=by rfl)
  (ht:eval (.Call (.Attribute o m apos) (e::es) [] pos) X.env=(do
   let ov ←eval o X.env
   standAt apos.atName
   let (f,first) ←holding [ov] (getMethod ov m pl)
   callWith pos f first (backTo pos (starEach (e::es) X.env)) (backToKw pos (keywordEach [] X.env))):=by rfl) :
  PE X (.Call (.Attribute o m apos) (e::es) [] pos) (uT P w K mg base k m ta t):=by
 subst e1 e2 e3 e4 e5;intro pins s σ H Q I h;refine PySem.W.methodCall_KW (pl:=pl) (cZ (he pins s σ H _ I h) fun u s1 ⟨x,H1,I1,rx,a,C,dx,fs,ps,sp,ex,ea,l,M,q⟩=>?_) ht;subst ex;obtain rfl:u=Value.ref a:=rx;obtain⟨f,fd,hm,F,hb⟩:=M.ex;refine mO I1 ea M.cl hm l ?_;refine callWith_K (first:=[.ref a]) (h₀:=X.base) I.ok.mod.kin hm.kp (cZ (ha pos pins s1 σ H1 _ I1 q) fun us s2 ⟨vs,H2,I2,r,q2⟩=>⟨I2.kIn,?_⟩) hst hpl;exact ny (us:=.ref a::us) (vs:=.ref a::vs) (dvs:=[]) (E:=E0) F hr hb .nil nh I2 (.cons rfl r) (by rw [af2];exact q2)
theorem iO(P:Program)(w:World)(K:Frag)(mg:Str→Option Value)(base:Heap){pl:Sem Bool}(hr:dn k X.A)(he:PE X o ta)(e1:X.prog=P:=by rfl)(e2:X.w=w:=by rfl)(e3:X.K=K:=by rfl)(e4:X.mg=mg:=by rfl)(e5:X.base=base:=by rfl)
  (ht:eval (.Call (.Attribute o m apos) [] [] pos) X.env=(do
   let ov ←eval o X.env
   standAt apos.atName
   let (f,first) ←holding [ov] (getMethod ov m pl)
   callWith pos f first (backTo pos (starEach [] X.env)) (backToKw pos (keywordEach [] X.env))):=by rfl) :
  PE X (.Call (.Attribute o m apos) [] [] pos) (uT P w K mg base k m ta zF):=by
 subst e1 e2 e3 e4 e5;intro pins s σ H Q I h;refine PySem.W.methodCall_KW (pl:=pl) (cZ (he pins s σ H _ I h) fun u s1 ⟨x,H1,I1,rx,a,C,dx,fs,ps,sp,ex,ea,l,M,q⟩=>?_) ht;subst ex;obtain rfl:u=Value.ref a:=rx;obtain⟨f,fd,hm,F,hb⟩:=M.ex;refine mO I1 ea M.cl hm l ?_;exact PySem.W.callWith_K0 (first:=[.ref a]) I1.kIn hm.kp (ny (us:=[.ref a]) (vs:=[.ref a]) (dvs:=[]) (E:=E0) F hr hb .nil nh I1 (.cons rfl .nil) q)
theorem yS(P:Program)(w:World)(K:Frag)(mg:Str→Option Value)(base:Heap)(hr:dn k X.A)(he:PE X o ta)(ha:PA X (e::es) t)(e1:X.prog=P:=by rfl)(e2:X.w=w:=by rfl)(e3:X.K=K:=by rfl)(e4:X.mg=mg:=by rfl)(e5:X.base=base:=by rfl)
  (hst:starEach (e::es) X.env=(false,eval e X.env)::starEach es X.env:=by rfl) (hpl:(backTo pos (starEach es X.env)).any (·.1)=false:=by rfl)
  (hev:eval (.Call o (e::es) [] pos) X.env=(do callWith pos (←eval o X.env) [] (backTo pos (starEach (e::es) X.env)) (backToKw pos (keywordEach [] X.env))):=by rfl) :
  PE X (.Call o (e::es) [] pos) (zz P w K mg base k ta t):=by
 subst e1 e2 e3 e4 e5;intro pins s σ H Q I h;refine Call_ (cZ (he pins s σ H _ I h) fun u s1 ⟨x,H1,I1,rx,f,ps,sp,ex,M,q⟩=>?_) hev;subst ex;obtain rfl:u=Value.ref f:=rx;obtain⟨fd,F,hk,hb⟩:=M.ex;refine callWith_K (h₀:=X.base) I.ok.mod.kin hk (cZ (ha pos pins s1 σ H1 _ I1 q) fun us s2 ⟨vs,H2,I2,r,q2⟩=>⟨I2.kIn,?_⟩) hst hpl;exact ny (us:=us) (vs:=vs) (dvs:=[]) (E:=E0) F hr hb .nil nh I2 r (by rw [af2];exact q2)
theorem eV{pl:Sem Bool}(d:mE X.prog X.w X.K X.mg X.base x m k ps sp)(hr:dn k X.A)(hg:Gl X x)(ha:PA X (e::es) t)(hdb:(x == ("__debug__":Str))=false:=by decide)
  (hst:starEach (e::es) X.env=(false,eval e X.env)::starEach es X.env:=by rfl) (hpl:(backTo pos (starEach es X.env)).any (·.1)=false:=by rfl)
  (ht:eval (.Call (.Attribute (.Name x p) m apos) (e::es) [] pos) X.env=(do
   let ov ←eval (.Name x p) X.env
   standAt apos.atName
   let (f,first) ←holding [ov] (getMethod ov m pl)
   callWith pos f first (backTo pos (starEach (e::es) X.env)) (backToKw pos (keywordEach [] X.env))):=by rfl) :
  PE X (.Call (.Attribute (.Name x p) m apos) (e::es) [] pos) (nP sp [] E0 t):=by
 obtain⟨C,f,fd,hm,c,F,hb⟩:=d.ex;intro pins s σ H Q I h;refine PySem.W.methodCall_KW (pl:=pl) (iL I hg hm ?_ hdb) ht;refine PySem.W.method_cls I.kIn c.ga (PySem.W.cls_value I.kIn c.rd c.at_ rfl ?_);have I1:=I.tok (s.toks+1);refine callWith_K (first:=[]) (h₀:=X.base) I.ok.mod.kin c.kp (cZ (ha pos pins _ σ H _ I1 h) fun us s2 ⟨vs,H2,I2,r,q2⟩=>⟨I2.kIn,?_⟩) hst hpl;exact ny (us:=us) (vs:=vs) F hr hb .nil nh I2 r q2
theorem ij(d:e7 X.prog X.w X.K X.mg X.base x C k ps sp)(hr:dn (k+1) X.A)(hg:Gl X x)(ha:PA X (e::es) t)(hdb:(x == ("__debug__":Str))=false:=by decide)
  (he:starEach (e::es) X.env=(false,eval e X.env)::starEach es X.env:=by rfl) (hpl:(backTo pos (starEach es X.env)).any (·.1)=false:=by rfl) :
  PE X (.Call (.Name x p) (e::es) [] pos) (zE C sp [] E0 t):=
 let ⟨_,_,M,F,hm,hb⟩:=d.ex;AU M F hr hg hm hb .nil nh ha hdb he hpl
end
def ki(K:Frag)(a:Addr)(D:List (Str×V)):Prop:=(a == sysModules)=false∧∃o es ep,K.lookup a=some o∧o.ExactDict∧o.data=.dict es ep∧KTD.Rows aN es.toList D
section
variable {prog:Program} {w:World} {A:Around} {E:Value→Shared→Prop} {s:Shared} {K:Frag} {a:Addr} {D:List (Str×V)} {k:Str} {tk:Tok}
theorem ki.typeIs(X:K.In s.heap)(T:ki K a D):s.TypeIs (.ref a) "dict":=let ⟨_,o,_,_,ho,hc,_⟩:=T;⟨o,X _ _ ho,hc.1⟩
theorem lL{Q:Option Value→Shared→Prop}(X:K.In s.heap)(T:ki K a D)(h1:∀d v,KTD.datumAt k D=some d→aN d v→Q (some v) { s with toks:=s.toks+1 })(h2:KTD.datumAt k D=none→Q none { s with toks:=s.toks+1 }):
  wpAny (model prog w) A (dictGet a (.str k tk)) Q E s:=by
 obtain⟨_,o,es,ep,ho,hc,hd,hr⟩:=T;have ho:=X _ _ ho;unfold dictGet
 try with_reducible refine wpAny_holding ?_
 refine wpAny_bind (wpAny_pyHash_str (wpAny_bind (KTD.kt_dictFind_strs (s:={ s with toks:=s.toks+1 }) ho hd (by obtain⟨l⟩:=es;simpa using hr.exact) ?_)))
 have hq:Q (findBy (fun k v=>v.isStr k) es k) { s with toks:=s.toks+1 }:=by
  have hf:findBy (fun k v=>v.isStr k) es k=(es.toList.find? fun e=>e.key.isStr k).map (·.val):=by
   obtain⟨l⟩:=es;simp [findBy]
  rw [hf]
  cases hat:KTD.datumAt k D with
  | some d=>obtain⟨v,hv,hfl⟩:=hr.find_some hat;rw [hv];exact h1 d v hat hfl
  | none=>rw [hr.find_none hat];exact h2 hat
 rw [findBy_of_findIdx?]at hq
 cases hi:es.findIdx? fun e=>e.key.isStr k with
 | none=>rw [hi]at hq;exact wpAny_pure hq
 | some i=>rw [hi]at hq;exact wpAny_bind (wpAny_dictEntries (s:={ s with toks:=s.toks+1 }) ho hd (wpAny_pure hq))
theorem wU{Q:Value→Shared→Prop}(X:K.In s.heap)(T:ki K a D)(h:Q (.bool (!(KTD.datumAt k D).isSome)) { s with toks:=s.toks+1 }):wpAny (model prog w) A (compareOp .NotIn (.str k tk) (.ref a)) Q E s:=by
 have ty:=T.typeIs X;show wpAny _ _ (do return .bool (!(←contains (.ref a) (.str k tk)))) Q E s;refine wpAny_bind ?_;unfold contains
 try with_reducible refine wpAny_holding ?_
 refine wpAny_bind (wpAny_specialOf ty F.slot_dict_contains.lookup ?_);show wpAny _ _ (if (some (Value.builtin "dict.__contains__") == some Value.none)=true then _ else _) _ E s;rw [if_neg (by rw [beq_builtin_none];exact aa4)]
 refine wpAny_bind (wpAny_callSpecialUnlessNone?_slot (name:=Str.ofString "__contains__") ty F.slot_dict_contains
  (wpAny_call_entry F.slot_dict_contains ty F.entry_dict_contains ?_ (F.args_dict_contains_2 _ _)))
 show wpAny _ _ (dictGet a (.str k tk) >>= _) _ _ s;refine wpAny_bind (lL X T (fun d v ha _=>?_) fun hn=>?_)
 ·rw [ha]at h
  show wpAny _ _ (ret (.bool true)) _ _ _;exact wpAny_pure ⟨_,rfl,wpAny_truthy_bool (wpAny_pure h)⟩
 ·rw [hn]at h
  show wpAny _ _ (Builtin.Dict.pendingKey? a (.str k tk) >>= _) _ _ _;exact wpAny_bind (wpAny_pendingKey_other T.1 (wpAny_pure ⟨_,rfl,wpAny_truthy_bool (wpAny_pure h)⟩))
theorem yn{value slice:Expr}{v:V}{Q:Value→Shared→Prop}(X:K.In s.heap)(T:ki K a D)(hv:KTD.datumAt k D=some v)(h:∀u,aN v u→Q u { s with toks:=s.toks+1 })
  (hs:subscripted slice false (.ref a) (.str k tk)=operate [.ref a,.str k tk] (getItem (.ref a) (.str k tk))) (hg:∀r,letTemporaryGo value (.ref a) r=pure ()) :
  wpAny (model prog w) A (subscriptTail value slice (.ref a) (.str k tk)) Q E s:=by
 have ty:=T.typeIs X;refine subscriptTail_builtin ty F.slot_dict_getitem.lookup ?_ hs hg;unfold getItem
 try with_reducible refine wpAny_holding ?_
 refine wpAny_bind (wpAny_sequenceKey ty (by decide) ?_)
 refine wpAny_bind (wpAny_callSpecial?_slot (name:=Str.ofString "__getitem__") ty F.slot_dict_getitem
  (wpAny_call_entry F.slot_dict_getitem ty F.entry_dict_getitem ?_ (F.args_dict_getitem_2 _ _)))
 show wpAny _ _ (dictGet a (.str k tk) >>= _) _ _ s;refine wpAny_bind (lL X T (fun d v' ha hr=>?_) fun hn=>?_)
 ·rw [hv]at ha
  cases ha;exact wpAny_pure ⟨v',rfl,wpAny_pure (h v' hr)⟩
 ·rw [hv]at hn;cases hn
end
section
variable {X:Cx}
theorem uj(K:Frag)(h:X.K=K:=by rfl):dY X (compareOp .NotIn) (fun x y H Q=>∃k a D,x=.str k∧y=.ref a∧ki K a D∧Q (.bl (!(KTD.datumAt k D).isSome)) H):=by
 subst h;intro pins s σ H x y v u Q I rx ry h;obtain⟨k,a,D,rfl,rfl,T,q⟩:=h;obtain⟨t,rfl⟩:=rx;cases ry;exact wU I.kIn T ⟨.bl _,H,I.tok _,rfl,q⟩
theorem yU(K:Frag){x:Str}{p pos:Pos}{b:Expr}{ta tb:TE}(ha:PE X (.Name x p) ta)(hb:PE X b tb)(hs:va b)(hg:∀v r,letTemporaryGo (.Name x p) v r=pure ():=by intro _ _;with_unfolding_all rfl)(h:X.K=K:=by rfl):
  PE X (.Subscript (.Name x p) b pos) (Dk (fun x y H Q=>∃k a D v,x=.str k∧False∨x=.ref a∧y=.str k∧ki K a D∧KTD.datumAt k D=some v∧Q v H) ta tb):=by
 subst h;intro pins s σ H Q I h;refine Subscript_ (z7 ha hb I h fun v u s2 x y H2 I2 rx ry q=>?_);obtain⟨k,a,D,z,q⟩:=q;rcases q with q | ⟨rfl,rfl,T,hv,q⟩
 ·exact q.2.elim
 cases rx;obtain⟨t,rfl⟩:=ry;exact yn I2.kIn T hv (fun u ru=>⟨z,H2,I2.tok _,ru,q⟩) (hs _ _) (hg _)
end
end L2
namespace L2
open PySem PySem.Spec PyProof.Rows
theorem qe{a b:String}:(Str.ofString a=Str.ofString b)↔a=b:=by
 constructor
 ·intro h
  rw [Str.ofString_eq_toList,Str.ofString_eq_toList]at h
  have h1:(a.toList.map Char.toNat)=(b.toList.map Char.toNat):=by
   have:=congrArg (fun s:Str=>s.cps.toList) h
   simpa using this
  have h2:a.toList=b.toList:=by
   refine List.map_inj_right (f:=Char.toNat) (fun x y e=>?_) |>.mp h1
   exact Char.toNat_inj.mp e
  exact String.toList_inj.mp h2
 ·intro h;rw [h]
def Az:Option Int→V
 | none=>.non
 | some i=>.int i
def aS(us:List Int)(v:Int):Int:=us.getD (v - 1).toNat 0
theorem sk{us:List Int}{v:Int}(h1:1≤v)(h2:v≤us.length):fm (us.map V.int) (v - 1)=some (.int (aS us v)):=by
 obtain⟨k,hk⟩:=ae0 (show 0≤v - 1 by omega);rw [hk]
 have hl:k < us.length:=by omega
 refine aO ?_;rw [aa8,aa1 hl];simp [aS,hk,List.getD,aa1 hl]
structure fb where
 size:Int
 start:Int
 after:Int→Option (List Int)→List Int→Option Int
 closes:Int→Option (List Int)→Bool
def BV(K:Frag)(H:Hp)(nv:Nat)(b:Option (List Int))(x:V):Prop:=(b=none∧x=.non)∨∃a us,b=some us∧x=.ref a∧cD K H a (us.map V.int)∧us.length=nv
theorem BV.same{K:Frag}{H H':Hp}{nv:Nat}{b:Option (List Int)}{x:V}(s:au H H')(h:BV K H nv b x):BV K H' nv b x:=by
 rcases h with h | ⟨a,us,h1,h2,h3,h4⟩
 ·exact .inl h
 ·exact .inr ⟨a,us,h1,h2,s.tup h3,h4⟩
abbrev ju:=Addr→Hp→Prop
def l8(RI:ju)(v:V):Sp:=fun vs H Q _=>∃r,vs=[.ref r]∧RI r H∧Q v H
def bK(K:Frag)(nv:Nat)(RI:ju)(S:fb)(G:Int→Prop):Sp:=fun vs H Q _=>∃r m x c b us,vs=[.ref r,.int m,x,.ref c]∧RI r H∧G m∧BV K H nv b x∧cD K H c (us.map V.int)∧us.length=nv∧Q (Az (S.after m b us)) H
def fO(K:Frag)(nv:Nat)(RI:ju)(S:fb)(G:Int→Prop):Sp:=fun vs H Q _=>∃r m x b,vs=[.ref r,.int m,x]∧RI r H∧G m∧BV K H nv b x∧Q (.bl (S.closes m b)) H
structure bz(P:Program)(w:World)(K:Frag)(mg:Str→Option Value)(base:Heap)(k:Nat)(nv:Nat)(C:Addr)(S:fb)(RI:ju)(G:Int→Prop):Prop where
 mono:∀r H H',au H H'→RI r H→RI r H'
 ins:∀r H,RI r H→∃dx fs,H r=some (.ins C dx fs)∧fs.lookup (Str.ofString "size")=none∧fs.lookup (Str.ofString "start")=none∧fs.lookup (Str.ofString "after")=none∧fs.lookup (Str.ofString "closes")=none∧fs.lookup (Str.ofString "shown")=none
 g0:G S.start
 gS:∀m b us m',G m→S.after m b us=some m'→G m'
 size:aA P w K mg base C "size" k ["self"] (l8 RI (.int S.size))
 start:aA P w K mg base C "start" k ["self"] (l8 RI (.int S.start))
 after:aA P w K mg base C "after" k ["self","memory","before","column"] (bK K nv RI S G)
 closes:aA P w K mg base C "closes" k ["self","memory","last"] (fO K nv RI S G)
theorem bz.up{P:Program}{w:World}{K:Frag}{mg:Str→Option Value}{base:Heap}{j k nv:Nat}{C:Addr}{S:fb}{RI:ju}{G:Int→Prop}(R:bz P w K mg base j nv C S RI G)(h:j≤k):bz P w K mg base k nv C S RI G:=
 ⟨R.mono,R.ins,R.g0,R.gS,R.size.up h,R.start.up h,R.after.up h,R.closes.up h⟩
def jC(S:fb)(m:Int)(b:Option (List Int))(i:Nat):List (List Int)→Option Nat
 | []=>if S.closes m b=true then none else some i
 | c::cs=>match S.after m b c with
  | none=>some i
  | some m'=>jC S m' (some c) (i+1) cs
def brk(S:fb)(cols:List (List Int)):Option Int:=(jC S S.start none 0 cols).map fun(n:Nat)=>(n:Int)
def dX(K:Frag)(H:Hp)(l:Addr)(nv:Nat)(cols:List (List Int)):Prop:=∃ps:List Addr,aT K H l (ps.map V.ref)∧ps.length=cols.length∧∀(i:Nat) (p:Addr) (us:List Int),ps[i]?=some p→cols[i]?=some us→cD K H p (us.map V.int)∧us.length=nv
theorem dX.same{K:Frag}{H H':Hp}{l:Addr}{nv:Nat}{cols:List (List Int)}(s:au H H')(h:dX K H l nv cols):dX K H' l nv cols:=by
 obtain⟨ps,h1,h2,h3⟩:=h;exact⟨ps,s.seq h1,h2,fun i p us a b=>⟨s.tup (h3 i p us a b).1,(h3 i p us a b).2⟩⟩
def nK(P:Program)(w:World)(K:Frag)(mg:Str→Option Value)(base:Heap)(k:Nat):Sp:=fun vs H Q _=>∃(r l:Addr) (nv:Nat) (C:Addr) (S:fb) (RI:ju) (G:Int→Prop) (cols:List (List Int)),
 vs=[.ref r,.ref l]∧bz P w K mg base k nv C S RI G∧RI r H∧dX K H l nv cols∧cols.length≤1000∧∀H',au H H'→Q (Az (brk S cols)) H'
structure fB(z kind:Str)(ns:List Int):Prop where
 cs:z.cps.toList=dI 32 (kind.cps.toList::ns.map gF)
 nb:∀n∈ns,n.natAbs < 10 ^ 40
 nl:ns.length≤20
 ks:32∉kind.cps.toList
 kl:kind.length≤20
 k0:kind.cps.toList≠[]
theorem mr(n:Int):32∉gF n:=fun h=>by
 have:=m4 n 32 h
 omega
theorem Bn{x y:Str}(h:x.cps.toList=y.cps.toList):x=y:=by
 have:=ke x y
 rw [decide_eq_true h]at this;exact of_decide_eq_true this
theorem eU:∀{xs ys:List Str},xs.map (fun z=>z.cps.toList)=ys.map (fun z=>z.cps.toList)→xs=ys
 | [],[],_=>rfl
 | [],_::_,h=>by simp at h
 | _::_,[],h=>by simp at h
 | x::xs,y::ys,h=>by
  rw [ad2,ad2]at h
  injection h with h1 h2
  rw [Bn h1,eU h2]
def aG(n:Int):Str:=Str.ofString (toString n)
theorem fB.split{z kind:Str}{ns:List Int}(R:fB z kind ns):Txt.split z ⟨#[32]⟩=kind::ns.map aG:=by
 refine eU ?_;rw [iF z (by decide),R.cs,nO 32 _ (by simp) (fun p hp=>?_),ad2,ai1]
 ·rfl
 ·rcases aa6.mp hp with rfl | hp
  ·exact R.ks
  ·obtain⟨n,_,rfl⟩:=ac7.mp hp
   exact mr n
theorem iJ(c:Nat):∀(ps:List (List Nat)) (m:Nat),(∀p∈ps,p.length≤m)→(dI c ps).length≤ps.length * (m+1)
 | [],_,_=>by simp [dI]
 | p::ps,m,h=>by
  have h1:=h p (by simp);have h2:=iJ c ps m (fun q hq=>h q (by simp [hq]))
  have h3:(dI c (p::ps)).length≤p.length+1+(dI c ps).length:=by
   cases ps with
   | nil=>simp [dI]
   | cons q ps=>
    simp [dI,ab4];omega
  rw [ac2,ak2];omega
theorem fB.len{z kind:Str}{ns:List Int}(R:fB z kind ns):z.length≤10000:=by
 rw [bg,R.cs]
 have h:=iJ 32 (kind.cps.toList::ns.map gF) 60 (fun p hp=>by
  rcases aa6.mp hp with rfl | hp
  ·have:=R.kl;rw [bg]at this;omega
  ·obtain⟨n,hn,rfl⟩:=ac7.mp hp
   have:=fF (n:=n) (k:=40) (by decide) (R.nb n hn)
   omega)
 have:=R.nl
 simp only [ac2,aa0]at h;omega
theorem uP(z y:Str){c:Nat}(hy:y.cps.toList.head?=some c)(hz:z.cps.toList.head?≠some c):Txt.startswith z y=false:=by
 obtain⟨⟨l⟩⟩:=z;obtain⟨⟨m⟩⟩:=y
 unfold Txt.startswith
 rw [StrLaws.subAt_eq]
 cases m with
 | nil=>simp at hy
 | cons b m=>
  cases l with
  | nil=>simp [Str.length]
  | cons a l=>
   simp at hy hz;subst hy;simp [Str.length];intro _ h;exact absurd h hz
theorem fB.head{z kind:Str}{ns:List Int}(R:fB z kind ns):z.cps.toList.head?=kind.cps.toList.head?:=by
 rw [R.cs]
 cases e:kind.cps.toList with
 | nil=>exact absurd e R.k0
 | cons a l=>
  cases ns with
  | nil=>simp [dI]
  | cons n ns=>simp [dI]
end L2
namespace L2
open PySem PySem.Spec PyProof.Rows
theorem yV{X:Cx}{e:Expr}:PE X e (fun _ _ _=>False):=fun _ _ _ _ _ _ h=>h.elim
theorem ee(xs:List V)(k:Nat):ko xs (some (k:Int)) none=xs.drop k:=by
 unfold ko;rw [HT.sIx_nat,HT.sIx_none]
 by_cases h:k≤xs.length
 ·rw [ak7 h,ah9 (by rw [af6];omega)]
 ·rw [ak1 (by omega),ai2 (aa7 _),ai2 (by omega),List.take_nil]
theorem fS(xs:List V)(k:Nat):ko xs none (some (k:Int))=xs.take k:=by
 unfold ko HT.sIx
 have e:¬((k:Int) < 0):=by omega
 simp [e]
theorem rS(i:Int):∀D:List Int,BD (.int i) (D.map V.int)=decide (i∈D)
 | []=>rfl
 | d::D=>by
  have ih:=rS i D
  have e:BD (.int i) ((d::D).map V.int)=((d == i) || BD (.int i) (D.map V.int)):=rfl
  rw [e,ih,af0,ag5,beq_iff_eq,decide_eq_true_eq,decide_eq_true_eq,aa6];exact⟨fun h=>h.imp Eq.symm id,fun h=>h.imp Eq.symm id⟩
theorem jR{K:Frag}{H:Hp}{a:Addr}{i:Int}{D:List Int}{Q:VK}(h:aT K H a (D.map V.int))(q:Q (.bl (decide (i∈D))) H):w8 K (.int i) (.ref a) H Q:=by
 refine .inr ⟨a,_,rfl,.inl h,rfl,?_,?_⟩
 ·rw [aj3];exact ai4.mpr fun _ _=>rfl
 ·rw [rS];exact q
theorem aT.at_ins{K:Frag}{H:Hp}{q x C dx:Addr}{fs:List (Str×V)}{xs:List V}{o:HO}(h:aT K H q xs)(hx:H x=some (.ins C dx fs)):aT K (upd H x o) q xs:=by
 rcases h with(h | ⟨u,h⟩) | h
 ·exact .inl (.inl (by rw [ak (ft h hx (by intro z;cases z))];exact h))
 ·exact .inl (.inr ⟨u,by rw [ak (ft h hx (by intro z;cases z))];exact h⟩)
 ·exact .inr h
theorem iG{H:Hp}{x l:Addr}{A L B:HO}:upd (upd (upd H x A) l L) x B=upd (upd H l L) x B:=by
 funext b
 unfold upd
 by_cases h:b=x
 ·rw [if_pos h,if_pos h]
 ·rw [if_neg h,if_neg h,if_neg h]
end L2
namespace L2
open PySem PySem.Spec PyProof.Rows
structure aX(K:Frag)(C:Addr)(m qual:Str)(st:Stmt)(f:Addr)(fd:FuncData):Prop where
 me:B3 K C m f
 fn:cT K m qual st f fd
theorem methAt_mk{K:Frag}{C:Addr}{m qual:Str}{st:Stmt}{f:Addr}{oc:Value}{od an:Option Addr}{osl:Array (Option Value)}{kV doc pm cdv ct:Value}(a:findIn K (.ref C) m=some (some (.ref f)))(i:isFn K (.ref f)=true)
  (l:K.lookup f=some ⟨oc,od,.func (fnOf m qual (dC st) (cO st) (aq st) .none kV doc pm an cdv ct),osl⟩) (c:codeIn K cdv qual=true) (k:keepIn K (.ref f)=true):∃f fd,aX K C m qual st f fd:=
 ⟨f,_,⟨a,i,k⟩,fun_mk l c k⟩
theorem aX.ok{P:Program}{w:World}{K:Frag}{mg:Str→Option Value}{base:Heap}{C:Addr}{m qual:Str}{st:Stmt}{f:Addr}{fd:FuncData}{k:Nat}{ps:List Str}{sp:Sp}(A:aX K C m qual st f fd)(cl:nT K C)(ok:aH P w K mg base cb k f fd ps sp)(b:dF K fd ps []):aA P w K mg base C m k ps sp:=⟨cl,f,fd,A.me,ok,b⟩
structure l9(K:Frag)(x m qual:Str)(st:Stmt)(C f:Addr)(fd:FuncData):Prop where
 ns:nsIn K mainGlobals x=some (some (.ref C))
 cm:Bq K C m f
 fn:cT K m qual st f fd
theorem cmethAt_mk{K:Frag}{C:Addr}{x m qual:Str}{st:Stmt}{f:Addr}{oc:Value}{od an:Option Addr}{osl:Array (Option Value)}{kV doc pm cdv ct:Value}(n:nsIn K mainGlobals x=some (some (.ref C)))(r:PySem.W.readsIn K C (.type "type")=true)(a:PySem.W.findCls K (.ref C) (.type "type") m=some (.val (.ref f)))
  (g:PySem.W.specialIn K (.ref C) "__getattribute__"=some (some (.builtin "type.__getattribute__")))
  (l:K.lookup f=some ⟨oc,od,.func (fnOf m qual (dC st) (cO st) (aq st) .none kV doc pm an cdv ct),osl⟩) (c:codeIn K cdv qual=true) (k:keepIn K (.ref f)=true):∃C f fd,l9 K x m qual st C f fd:=
 ⟨C,f,_,n,⟨r,a,g,k⟩,fun_mk l c k⟩
theorem l9.df{P:Program}{w:World}{K:Frag}{mg:Str→Option Value}{base h:Heap}{x m qual:Str}{st:Stmt}{C f:Addr}{fd:FuncData}{k:Nat}{ps:List Str}{sp:Sp}(A:l9 K x m qual st C f fd)(X:K.In h)(G:h.Ns mainGlobals mg)(ok:aH P w K mg base cb k f fd ps sp)(b:dF K fd ps []):mE P w K mg base x m k ps sp:=
 ⟨C,f,fd,mg_of X G A.ns,A.cm,ok,b⟩
structure lR(K:Frag)(x qual:Str)(st:Stmt)(C f:Addr)(fd:FuncData):Prop where
 ns:nsIn K mainGlobals x=some (some (.ref C))
 mm:Mk K C f
 fn:cT K "__init__" qual st f fd
theorem mkAt_mk{K:Frag}{C:Addr}{x qual:Str}{st:Stmt}{f:Addr}{oc:Value}{od an:Option Addr}{osl:Array (Option Value)}{kV doc pm cdv ct:Value}(n:nsIn K mainGlobals x=some (some (.ref C)))(mk:PySem.W.makesIn K C=true)(a:findIn K (.ref C) "__init__"=some (some (.ref f)))(i:isFn K (.ref f)=true)(kc:keepIn K (.ref C)=true)
  (l:K.lookup f=some ⟨oc,od,.func (fnOf "__init__" qual (dC st) (cO st) (aq st) .none kV doc pm an cdv ct),osl⟩) (c:codeIn K cdv qual=true) (k:keepIn K (.ref f)=true):∃f fd,lR K x qual st C f fd:=
 ⟨f,_,n,⟨mk,a,i,kc⟩,fun_mk l c k⟩
theorem lR.df{P:Program}{w:World}{K:Frag}{mg:Str→Option Value}{base h:Heap}{x qual:Str}{st:Stmt}{C f:Addr}{fd:FuncData}{k:Nat}{ps:List Str}{sp:Sp}(A:lR K x qual st C f fd)(X:K.In h)(G:h.Ns mainGlobals mg)(ok:aH P w K mg base cb k f fd ps sp)(b:dF K fd ps []):e7 P w K mg base x C k ps sp:=
 ⟨f,fd,A.mm,ok,mg_of X G A.ns,b⟩
theorem ky(c:Nat)(a b:List Nat)(ps:List (List Nat)):dI c (a::b::ps)=a++c::dI c (b::ps):=by simp [dI]
theorem fG{n:Int}(h:n.natAbs < 10 ^ 40):(aG n).length≤41:=by
 rw [bg];exact fF (n:=n) (k:=40) (by decide) h
theorem yG{us:List Int}{v:Int}(h1:0≤v)(h2:v < us.length):fm (us.map V.int) v=some (.int (aS us (v+1))):=by
 have:=sk (us:=us) (v:=v+1) (by omega) (by omega)
 rwa [show v+1 - 1=v by omega]at this
theorem rowsR{e:DictEntry}{x:Str}{t:Tok}{f:Addr}{es:List DictEntry}{D:List (Str×V)}(h1:e.key=.str x t)(h2:e.val=.ref f)(r:KTD.Rows aN es D):KTD.Rows aN (e::es) ((x,V.ref f)::D):=.cons h1 h2 r
theorem tab_mk{K:Frag}{a:Addr}{o:Obj}{es:Array DictEntry}{ep:Nat}{D:List (Str×V)}(l:K.lookup a=some o)(s:(a == sysModules)=false)(x:o.cls=.type "dict")(y:o.dict=none)(z:o.slots=#[])(d:o.data=.dict es ep)(r:KTD.Rows aN es.toList D):ki K a D:=⟨s,o,es,ep,l,⟨x,y,z⟩,d,r⟩
theorem defAtD_mk2{K:Frag}{x:Str}{st:Stmt}{f T:Addr}{oc:Value}{od an:Option Addr}{osl:Array (Option Value)}{kV doc pm cdv ct u:Value}{o:Obj}{n:Nat}{v:V}(a:nsIn K mainGlobals x=some (some (.ref f)))
  (l:K.lookup f=some ⟨oc,od,.func (fnOf x x (dC st) (cO st) (aq st) (.ref T) kV doc pm an cdv ct),osl⟩) (c:codeIn K cdv x=true) (k:keepIn K (.ref f)=true)
  (t:K.lookup T=some o) (d:o.data=.seq #[u] n) (r:aN v u):∃f fd u,xB K x st f fd u∧aN v u:=
 ⟨f,_,u,⟨a,T,o,n,⟨⟨oc,od,kV,doc,pm,an,cdv,ct,osl,rfl,l,c⟩,k⟩,t,d⟩,r⟩
end L2
namespace L2
open PySem PySem.Spec PyProof.Rows
section
variable {X:Cx}
theorem nY:cz X (.type "str") (fun xs H Q=>∃z,xs=[.str z]∧Q (.str z) H):=by
 intro pins s σ H xs us Q I r h;obtain⟨z,rfl,q⟩:=h;obtain⟨u,rfl,ru⟩:=eF r;obtain⟨t,rfl⟩:=ru;exact P.str_of_str ⟨.str z,H,I,⟨t,rfl⟩,q⟩
def um:List V→Hp→VK→Prop:=fun xs H Q=>(∃i,xs=[.int i]∧i.natAbs.log2 < 1920∧Q (.str (aG i)) H)∨∃z,xs=[.str z]∧Q (.str z) H
theorem cN:cz X (.type "str") um:=call_str_int.or nY
end
theorem C5{i:Int}{H:Hp}{Q:VK}:um [.int i] H Q↔i.natAbs.log2 < 1920∧Q (.str (aG i)) H:=by simp [um]
theorem C6{z:Str}{H:Hp}{Q:VK}:um [.str z] H Q↔Q (.str z) H:=by simp [um]
theorem zi{kind:Str}{ns:List Int}(nb:∀n∈ns,n.natAbs < 10 ^ 40)(nl:ns.length≤20)(ks:32∉kind.cps.toList)(kl:kind.length≤20)(k0:kind.cps.toList≠[]):fB (Txt.join (Str.ofString " ") (kind::ns.map aG)) kind ns:=by
 have e32:(Str.ofString " ")=⟨#[32]⟩:=by decide +kernel
 refine⟨?_,nb,nl,ks,kl,k0⟩;rw [e32,dJ,ad2,ai1];rfl
theorem dX.sub{K:Frag}{H:Hp}{l q:Addr}{nv:Nat}{cols:List (List Int)}{ps:List Addr}(hpl:ps.length=cols.length)(hpc:∀(i:Nat) (p:Addr) (us:List Int),ps[i]?=some p→cols[i]?=some us→cD K H p (us.map V.int)∧us.length=nv)(a b:Nat)(hq:aT K H q (((ps.drop a).take b).map V.ref)):dX K H q nv ((cols.drop a).take b):=by
 refine⟨_,hq,by rw [ac6,ac6,af6,af6,hpl],fun i p us e1 e2=>?_⟩;rw [List.getElem?_take]at e1 e2
 split at e1
 ·rename_i hib
  rw [if_pos hib]at e2;rw [ae5]at e1 e2;exact hpc _ p us e1 e2
 ·cases e1
end L2
namespace L3
open PySem PySem.Spec PyProof.Rows
section
variable {prog:Program} {w:World} {A:Around} {E:Value→Shared→Prop} {s:Shared}
end
end L3
namespace L2
open PySem PySem.Spec PyProof.Rows
def ER(K:Frag)(n:Nat)(t:zY):TG:=fun v σ H Q=>∃a l xs,v=.ref a∧jy K l H a xs∧xs.length=n∧t xs σ H Q
end L2
namespace L2
open PySem PySem.Spec PyProof.Rows
section
variable {X:Cx} {e st:Expr} {te:TE} {p2 pos:Pos}
def E7(K:Frag)(te ts:TE):TE:=fun σ H Q=>te σ H fun x H1=>ts σ H1 fun y H2=>y=.int (-1)∧∃a xs,x=.ref a∧aT K H2 a xs∧∀p,H2 p=none→Q (.ref p) (upd H2 p (.lst xs.reverse))
end
end L2
namespace L2
open PySem PySem.Spec PyProof.Rows
def bP(B:Nat→Bool)(i:Nat):Nat→Option Nat
 | 0=>none
 | k+1=>if B i=true then some i else bP B (i+1) k
theorem rN(B:Nat→Bool):∀(k i:Nat),bP B i (k+1)=match bP B i k with | some j=>some j | none=>if B (i+k)=true then some (i+k)else none
 | 0,i=>by simp [bP]
 | k+1,i=>by
  have ih:=rN B k (i+1);rw [bP,ih]
  by_cases hb:B i=true
  ·simp [bP,hb]
  ·rw [if_neg hb]
   simp only [bP];rw [if_neg hb,show i+1+k=i+(k+1)by omega]
def nk(cols:List (List Int)):Nat→Option (List Int)
 | 0=>none
 | i+1=>cols[i]?
structure Walks(S:fb)(cols:List (List Int))(mem:Nat→Int)(B:Nat→Bool):Prop where
 m0:S.start=mem 0
 st:∀(i:Nat) (us:List Int),cols[i]?=some us→S.after (mem i) (nk cols i) us=if B i=true then none else some (mem (i+1))
theorem Walks.go{S:fb}{cols:List (List Int)}{mem:Nat→Int}{B:Nat→Bool}(h:Walks S cols mem B):∀(k i:Nat),i+k=cols.length→jC S (mem i) (nk cols i) i (cols.drop i)=match bP B i k with | some j=>some j | none=>if S.closes (mem cols.length) (nk cols cols.length)=true then none else some cols.length
 | 0,i,e=>by
  have e':i=cols.length:=by omega
  subst e';rw [ag1];rfl
 | k+1,i,e=>by
  have hi:i < cols.length:=by omega
  rw [ae3 hi];simp only [jC,bP];rw [h.st i cols[i] (aa1 hi)]
  by_cases hb:B i=true
  ·rw [if_pos hb,if_pos hb]
  ·rw [if_neg hb,if_neg hb]
   have:=h.go k (i+1) (by omega)
   rw [show nk cols (i+1)=some cols[i]from aa1 hi]at this;exact this
def DC(B:Nat→Bool)(n:Nat)(cl:Bool):Option Int:=match bP B 0 n with | some j=>some (j:Int) | none=>if cl=true then none else some (n:Int)
theorem Walks.brk{S:fb}{cols:List (List Int)}{mem:Nat→Int}{B:Nat→Bool}(h:Walks S cols mem B):brk S cols=DC B cols.length (S.closes (mem cols.length) (nk cols cols.length)):=by
 have:=h.go cols.length 0 (by omega)
 unfold L2.brk DC;rw [h.m0];rw [show nk cols 0=none from rfl,List.drop_zero]at this;rw [this]
 cases bP B 0 cols.length with
 | some j=>rfl
 | none=>
  simp only
  by_cases hc:S.closes (mem cols.length) (nk cols cols.length)=true
  ·rw [if_pos hc,if_pos hc];rfl
  ·rw [if_neg hc,if_neg hc];rfl
theorem zg{x kind:Str}{a b:Int}(hx:x.cps.toList=kind.cps.toList++[32])(na:a.natAbs < 10 ^ 40)(nb:b.natAbs < 10 ^ 40)(ks:32∉kind.cps.toList)(kl:kind.length≤20)(k0:kind.cps.toList≠[]):fB (x++aG a++Str.ofString " " ++ aG b) kind [a,b]:=by
 refine⟨?_,fun n hn=>?_,by simp,ks,kl,k0⟩
 ·have e32:(Str.ofString " ").cps.toList=[32]:=by decide +kernel
  have ea:∀u v:Str,(u++v).cps.toList=u.cps.toList++v.cps.toList:=fun u v=>by
   show(u.cps++v.cps).toList=_;rw [af4]
  rw [ea,ea,ea,hx,e32];simp only [ad2,ah8,dI];simp;rfl
 ·rcases aa6.mp hn with rfl | hn
  ·exact na
  ·rw [ad3.mp hn];exact nb
def pO(H:Hp)(nv:Nat)(ps:List Addr)(cols:List (List Int)):Prop:=ps.length=cols.length∧∀(i:Nat) (p:Addr) (us:List Int),ps[i]?=some p→cols[i]?=some us→H p=some (.tup (us.map V.int))∧us.length=nv
theorem pO.at{K:Frag}{H:Hp}{nv:Nat}{ps:List Addr}{cols:List (List Int)}(h:pO H nv ps cols):∀(i:Nat) (p:Addr) (us:List Int),ps[i]?=some p→cols[i]?=some us→cD K H p (us.map V.int)∧us.length=nv:=fun i p us e1 e2=>⟨cD.of (h.2 i p us e1 e2).1,(h.2 i p us e1 e2).2⟩
theorem pO.line{K:Frag}{H:Hp}{nv:Nat}{ps:List Addr}{cols:List (List Int)}{l:Addr}(h:pO H nv ps cols)(hl:H l=some (.lst (ps.map V.ref))):dX K H l nv cols:=⟨ps,aT.of hl,h.1,h.at⟩
end L2
namespace L3
open PySem PySem.Spec PyProof.Rows L2 HT
section
variable {prog:Program} {w:World} {A:Around} {E:Value→Shared→Prop} {s:Shared}
end
end L3
namespace L2
open PySem PySem.Spec PyProof.Rows
section
variable {X:Cx}
def BM(K:Frag):R2:=fun x y H Q=>∃a b ys,x=.ref a∧y=.ref b∧cD K H a []∧cD K H b ys∧Q (.ref b) H
def jQ(K:Frag):R2:=fun x y H Q=>eE K x y H Q∨BM K x y H Q
end
theorem sH{K:Frag}{i j:Int}{H:Hp}{Q:VK}:jQ K (.int i) (.int j) H Q↔Q (.int (i+j)) H:=by
 simp [jQ,nu,BM]
theorem Cq(K:Frag):mT (jQ K)=jQ K:=vq fun _ _ _ _=>sH
theorem An{K:Frag}{x y:V}{H:Hp}{Q:VK}:mT (jQ K) x y H Q↔jQ K x y H Q:=by rw [Cq]
end L2
namespace L2
open PySem PySem.Spec PyProof.Rows
def Itd(lo:Int)(n:Nat):It:=⟨fun i _=>i < n,fun i H x H'=>H'=H∧x=.int (lo - i),fun i _=>n≤i⟩
section
variable {X:Cx} {tg:Expr}
def DI(ta:TA):TI:=fun σ H R=>ta σ H fun vs H1=>∃i j:Int,vs=[.int i,.int j,.int (-1)]∧(-(2 ^ 62)≤i∧i < 2 ^ 62∧-(2 ^ 62)≤j∧j < 2 ^ 62)∧R (Itd i (i - j).toNat) H1
end
theorem i4:∀{ns:List Int} {us:List Value},aV (ns.map V.int) us→∃ps:List (Int×Tok),us=ps.map (fun p=>Value.int p.1 p.2)∧ps.map (·.1)=ns
 | [],_,.nil=>⟨[],rfl,rfl⟩
 | n::ns,_,.cons r t=>by
  obtain⟨ps,e1,e2⟩:=i4 t;obtain⟨tk,rfl⟩:=r;exact⟨(n,tk)::ps,by rw [e1];rfl,by rw [←e2];rfl⟩
theorem vX{X:Cx}(hc:X.calm=true)(K:Frag)(hK:X.K=K:=by rfl):cz X (.builtin "min") (fun xs H Q=>∃p ns,xs=[.ref p]∧aT K H p (List.map V.int ns)∧ns≠[]∧∀i∈ns,Q (.int i) H):=by
 subst hK;intro pins s σ H xs us Q I r h;obtain⟨p,ns,rfl,hp,hne,q⟩:=h;obtain⟨u,rfl,ru⟩:=eF r;cases ru;obtain⟨its,rv,ht,_⟩:=I.list hp;obtain⟨ps,e1,e2⟩:=i4 rv
 have hl:s.heap.IsList p (intItems ps.toArray):=by
  have:=ht.isList
  rw [e1]at this;simpa [intItems]using this
 refine min_intList (I.ok.hd hc) hl (by
  rw [aa9]
  have:ps.length=ns.length:=by rw [←e2,aa0]
  have:ns.length≠0:=fun z=>hne (ae8.mp z)
  omega) fun v h' tk hv hk=>?_
 simp only [intItems,List.map_toArray,List.getElem?_toArray,aa8,Option.map_eq_some_iff]at hv;obtain⟨⟨a,t⟩,ha,rfl⟩:=hv;refine⟨.int a,H,I.kept (t':=tk) fun b o e=>hk b o e,⟨t,rfl⟩,q a ?_⟩;rw [←e2];exact List.mem_map_of_mem (f:=fun p:Int×Tok=>p.1) (ad1 ha)
end L2
namespace L2
open PySem PySem.Spec PyProof.Rows
def gq(c:Nat):Nat→List Nat→List (List Nat)
 | 0,l=>[l]
 | _+1,[]=>[[]]
 | n+1,a::l=>if a=c then []::gq c n l else match gq c (n+1) l with
  | []=>[[a]]
  | p::r=>(a::p)::r
theorem qY(c:Nat):∀n l,gq c n l≠[]
 | 0,l=>by simp [gq]
 | n+1,[]=>by simp [gq]
 | n+1,a::l=>by
  simp only [gq]
  split
  ·simp
  ·split<;>simp
theorem iN(x:Str)(c:Nat)(lim:Nat):∀(l:List Nat) (i:Nat) (acc:Array Nat) (fr:Nat),x.cps.toList.drop i=l→fr≤i→
  (forIn (List.range' i (l.length+1)) (acc,fr) (StrLaws.occBody x ⟨#[c]⟩ x.length lim)).run.fst.toList=acc.toList++(d2 c l i).take (lim - acc.size)
 | [],i,acc,fr,hl,hf=>by
  have hi:x.length≤i:=by
   rw [bg];exact ah0.mp hl
  show(forIn [i] (acc,fr) _:Id _).run.fst.toList=_;rw [ah4];unfold StrLaws.occBody;rw [if_neg (by intro h;have:=h.1.2;have e1:(⟨#[c]⟩:Str).length=1:=rfl;rw [e1]at this;omega)];show acc.toList=_;simp [d2]
 | b::l,i,acc,fr,hl,hf=>by
  have hb:x.cps.toList[i]?=some b:=by
   have:(x.cps.toList.drop i)[0]?=some b:=by rw [hl];rfl
   rwa [ae5,ak4]at this
  have hi:i < x.length:=by
   rw [bg];obtain⟨h,_⟩:=aa2.mp hb;exact h
  have hd:x.cps.toList.drop (i+1)=l:=by
   rw [←ai0,hl];rfl
  have e1:(⟨#[c]⟩:Str).length=1:=rfl;show(forIn (i::List.range' (i+1) (l.length+1)) (acc,fr) _:Id _).run.fst.toList=_;rw [ah4];unfold StrLaws.occBody
  by_cases hc:b=c
  ·by_cases hs:acc.size < lim
   ·rw [if_pos ⟨⟨⟨hs,hf⟩,by rw [e1];omega⟩,((StrLaws.subAt_one x c i).mpr (by rw [hb,hc])).2⟩]
    show(forIn (List.range' (i+1) (l.length+1)) (acc.push i,i+1) (StrLaws.occBody x ⟨#[c]⟩ x.length lim):Id _).run.fst.toList=_;rw [iN x c lim l (i+1) _ _ hd (aa7 _),Array.size_push];simp only [d2,hc,if_true];rw [show lim - acc.size=(lim - (acc.size+1))+1 by omega,List.take_succ_cons];simp
   ·rw [if_neg (fun h=>hs h.1.1.1)]
    show(forIn (List.range' (i+1) (l.length+1)) (acc,fr) (StrLaws.occBody x ⟨#[c]⟩ x.length lim):Id _).run.fst.toList=_;rw [iN x c lim l (i+1) _ _ hd (by omega)];rw [show lim - acc.size=0 by omega];simp
  ·rw [if_neg (fun h=>hc (by have:=(StrLaws.subAt_one x c i).mp ⟨h.1.2,h.2⟩;rw [hb]at this;exact Option.some.inj this))]
   show(forIn (List.range' (i+1) (l.length+1)) (acc,fr) (StrLaws.occBody x ⟨#[c]⟩ x.length lim):Id _).run.fst.toList=_;rw [iN x c lim l (i+1) _ _ hd (by omega)];simp [d2,hc]
theorem yI(x:Str)(c n:Nat):Builtin.Str.occurrences x ⟨#[c]⟩ 0 x.length n=(d2 c x.cps.toList 0).take n:=by
 rw [StrLaws.occ_eq]
 have e:x.length+1 - 0=x.cps.toList.length+1:=by rw [bg];rfl
 rw [e];have h:=iN x c n x.cps.toList 0 #[] 0 rfl (aa7 _);rw [h];rfl
theorem ig(x:Str)(c:Nat):∀(l:List Nat) (n a j:Nat),a≤j→x.cps.toList.drop j=l→j≤x.length→
  (StrLaws.partsFrom x 1 a ((d2 c l j).take n)).map (fun z=>z.cps.toList)=match gq c n l with
   | []=>[]
   | p::r=>((x.cps.toList.drop a).take (j - a)++p)::r
 | l,0,a,j,haj,hl,hj=>by
  simp only [List.take_zero,gq,StrLaws.partsFrom,ad2,ah8,StrLaws.strSub_toList];congr 1;rw [ah9 (by rw [af6,bg];omega)]
  have:=List.take_append_drop (j - a) (x.cps.toList.drop a)
  rw [ai0,show a+(j - a)=j by omega,hl]at this;exact this.symm
 | [],n+1,a,j,haj,hl,hj=>by
  have hj':x.length≤j:=by rw [bg];exact ah0.mp hl
  have e:j=x.length:=by omega
  subst e;simp [d2,gq,StrLaws.partsFrom,StrLaws.strSub_toList]
 | b::l,n+1,a,j,haj,hl,hj=>by
  have hb:x.cps.toList[j]?=some b:=by
   have:(x.cps.toList.drop j)[0]?=some b:=by rw [hl];rfl
   rwa [ae5,ak4]at this
  have hi:j < x.length:=by
   rw [bg];obtain⟨h,_⟩:=aa2.mp hb;exact h
  have hd:x.cps.toList.drop (j+1)=l:=by
   rw [←ai0,hl];rfl
  by_cases hc:b=c
  ·have ih:=ig x c l n (j+1) (j+1) (aa7 _) hd hi
   simp only [d2,hc,if_true,List.take_succ_cons,StrLaws.partsFrom,ad2,gq,af2];rw [ih]
   cases hs:gq c n l with
   | nil=>exact absurd hs (qY c n l)
   | cons p r=>simp [StrLaws.strSub_toList]
  ·have ih:=ig x c l (n+1) a (j+1) (by omega) hd hi
   simp only [d2,hc,if_false,gq];rw [ih]
   cases hs:gq c (n+1) l with
   | nil=>exact absurd hs (qY c (n+1) l)
   | cons p r=>
    have ht:(x.cps.toList.drop a).take (j+1 - a)=(x.cps.toList.drop a).take (j - a)++[b]:=by
     have e1:j+1 - a=(j - a)+1:=by omega
     rw [e1,ac5,ae5]
     have e2:a+(j - a)=j:=by omega
     rw [e2,hb];rfl
    simp [ht]
theorem j9(c n:Nat)(rest:List Nat):∀(p:List Nat),c∉p→gq c (n+1) (p++c::rest)=p::gq c n rest
 | [],_=>by simp [gq]
 | a::p,h=>by
  have h1:¬a=c:=fun e=>h (by simp [e]);have ih:=j9 c n rest p (fun e=>h (by simp [e]));show gq c (n+1) (a::(p++c::rest))=_;simp only [gq,h1,if_false];rw [ih]
theorem sE(c:Nat)(rest:List Nat):∀(p:List Nat) (i:Nat),d2 c (p++c::rest) i≠[]
 | [],i=>by simp [d2]
 | a::p,i=>by
  show d2 c (a::(p++c::rest)) i≠[];simp only [d2]
  split
  ·simp
  ·exact sE c rest p (i+1)
def ic(z:Str)(c k:Nat):List Str:=Builtin.Str.partsBetween z ((d2 c z.cps.toList 0).take k) 1
theorem qw(z:Str)(c k:Nat):(ic z c k).map (fun y=>y.cps.toList)=gq c k z.cps.toList:=by
 unfold ic;rw [StrLaws.partsBetween_eq,ig z c z.cps.toList k 0 0 (aa7 _) rfl (ac0 _)]
 cases hs:gq c k z.cps.toList with
 | nil=>exact absurd hs (qY c k _)
 | cons p r=>simp
theorem wQ{X:Cx}:xw X "str.split" (fun x xs H Q=>∃z c k,x=.str z∧xs=[.str ⟨#[c]⟩,.int k]∧c < 256∧0 < k∧k < 2 ^ 30∧d2 c z.cps.toList 0≠[]∧z.length < sizeLine∧(ic z c k.toNat).length≤sizeLine∧∀p,H p=none→Q (.ref p) (upd H p (.lst ((ic z c k.toNat).map V.str)))):=by
 intro pins s σ H x xs v us Q I rx r h;obtain⟨z,c,k,rfl,rfl,hc,k0,k1,hne,hz,hlen,q⟩:=h;obtain⟨t,rfl⟩:=rx;obtain⟨u,u2,rfl,⟨t',rfl⟩,⟨t2,rfl⟩⟩:=pL r
 have ek:Builtin.Str.strKind ⟨#[c]⟩=1:=by simp [Builtin.Str.strKind,hc]
 have ek2:1≤Builtin.Str.strKind z:=by unfold Builtin.Str.strKind;split<;>(try split)<;>omega
 have hzl:1≤z.length:=by
  rw [bg]
  cases hz':z.cps.toList with
  | nil=>rw [hz']at hne;exact absurd rfl hne
  | cons a l=>simp
 have h1:(decide (z.length < (⟨#[c]⟩:Str).length) || decide (Builtin.Str.strKind z < Builtin.Str.strKind ⟨#[c]⟩))=false:=by
  rw [ek];have e1:(⟨#[c]⟩:Str).length=1:=rfl;rw [e1,decide_eq_false (by omega),decide_eq_false (by omega)];rfl
 have hk:(decide (k < -(2 ^ 63:Int)) || decide (k≥2 ^ 63))=false:=by
  rw [decide_eq_false (by omega),decide_eq_false (by omega)];rfl
 have el:Builtin.Str.occurrences z ⟨#[c]⟩ 0 z.length (PySem.limitOf z k)=(d2 c z.cps.toList 0).take k.toNat:=by
  rw [yI];unfold PySem.limitOf;rw [if_neg (by omega)]
 have hf:(Builtin.Str.occurrences z ⟨#[c]⟩ 0 z.length (PySem.limitOf z k)).isEmpty=false:=by
  rw [el]
  cases hp:d2 c z.cps.toList 0 with
  | nil=>exact absurd hp hne
  | cons a l=>rw [show k.toNat=(k.toNat - 1)+1 by omega];rfl
 have ep:Builtin.Str.partsBetween z (Builtin.Str.occurrences z ⟨#[c]⟩ 0 z.length (PySem.limitOf z k)) (⟨#[c]⟩:Str).length=ic z c k.toNat:=by rw [el];rfl
 have fin:∀(its:List Value) (tk:Nat),aV ((ic z c k.toNat).map V.str) its→EP X pins σ Q (.ref s.heap.objs.size) { s with toks:=tk,heap:=s.heap.push { cls:=.type "list",data:=.seq its.toArray } }:=fun its tk rv=>
  ⟨.ref s.heap.objs.size,_,I.laid (t':=tk) (o:=.lst ((ic z c k.toNat).map V.str)) (fun b ob q=>aa3 _ q) (aa7 _) ⟨by rw [aa0];exact hlen,its,0,rv,ab9 _ rfl⟩,rfl,q _ (I.hok.fresh (aa7 _))⟩
 rw [←ep]at fin hlen;exact call_meets F.slot_str_split (typeIs_str _ _ _) F.entry_str_split (F.args_str_split_3 _ _ _) (meets_str_split_sep_max z ⟨#[c]⟩ k t t' t2 hk h1 rfl hf (ah6 hz) hlen) (fin _ _ (lE _ _))
end L2
namespace L2
open PySem PySem.Spec PyProof.Rows
def xG(K:Frag)(a:Addr)(xs:List V):Prop:=∃(o:Obj) (its:Array Value) (n:Nat),K.lookup a=some o∧o.cls=.type "tuple"∧o.data=.seq its n∧its.size≤sizeLine∧aV xs its.toList
theorem xG.at{K:Frag}{a:Addr}{xs:List V}(h:xG K a xs)(H:Hp):cD K H a xs:=.inr h
theorem ktup_mk{K:Frag}{a:Addr}{o:Obj}{its:Array Value}{n:Nat}{xs:List V}(l:K.lookup a=some o)(x:o.cls=.type "tuple")(d:o.data=.seq its n)(z:its.size≤sizeLine)(r:aV xs its.toList):xG K a xs:=⟨o,its,n,l,x,d,z,r⟩
theorem uR(z y:Str){rest:List Nat}(h:z.cps.toList=y.cps.toList++rest):Txt.startswith z y=true:=by
 obtain⟨⟨l⟩⟩:=z;obtain⟨⟨m⟩⟩:=y;simp at h;subst h
 unfold Txt.startswith
 rw [StrLaws.subAt_eq];simp [Str.length]
structure mF(z rest:Str)(t u:Int):Prop where
 cs:z.cps.toList=(Str.ofString "every").cps.toList++32::(gF t++32::(gF u++32::rest.cps.toList))
 tb:t.natAbs < 10 ^ 40
 ub:u.natAbs < 10 ^ 40
 rl:rest.length≤10000
theorem mF.split{z rest:Str}{t u:Int}(R:mF z rest t u):ic z 32 3=[Str.ofString "every",aG t,aG u,rest]:=by
 refine eU ?_;rw [qw,R.cs,j9 32 2 _ _ (by decide +kernel),j9 32 1 _ _ (mr t),j9 32 0 _ _ (mr u)];simp only [gq,ad2,ah8];rfl
theorem mF.pos{z rest:Str}{t u:Int}(R:mF z rest t u):d2 32 z.cps.toList 0≠[]:=by
 rw [R.cs];exact sE 32 _ _ 0
theorem mF.len{z rest:Str}{t u:Int}(R:mF z rest t u):z.length≤20000:=by
 rw [bg,R.cs];have h1:=fF (n:=t) (k:=40) (by decide) R.tb;have h2:=fF (n:=u) (k:=40) (by decide) R.ub;have h3:=R.rl;rw [bg]at h3
 have h4:(Str.ofString "every").cps.toList.length=5:=by decide +kernel
 simp only [ab4,ac2];omega
theorem mF.starts{z rest:Str}{t u:Int}(R:mF z rest t u):Txt.startswith z (Str.ofString "every ")=true:=by
 refine uR z _ (rest:=gF t++32::(gF u++32::rest.cps.toList)) ?_;rw [R.cs,show(Str.ofString "every ").cps.toList=(Str.ofString "every").cps.toList++[32]by decide +kernel,af8];rfl
theorem sM{K:Frag}{H:Hp}{a:Addr}{z:Str}{ws:List Str}{Q:VK}(h:cD K H a (ws.map V.str))(q:Q (.bl (!decide (z∈ws))) H):iR K (.str z) (.ref a) H Q:=by
 have e:∀ws:List Str,BD (.str z) (ws.map V.str)=decide (z∈ws):=by
  intro ws
  induction ws with
  | nil=>rfl
  | cons d D ih=>
   have e:BD (.str z) ((d::D).map V.str)=((d == z) || BD (.str z) (D.map V.str)):=rfl
   rw [e,ih,af0,ag5,beq_iff_eq,decide_eq_true_eq,decide_eq_true_eq,aa6];exact⟨fun h=>h.imp Eq.symm id,fun h=>h.imp Eq.symm id⟩
 refine .inr ⟨a,_,rfl,.inr h,rfl,?_,?_⟩
 ·rw [aj3];exact ai4.mpr fun _ _=>rfl
 ·rw [e];exact q
end L2
namespace L2
open PySem PySem.Spec PyProof.Rows
section
variable {X:Cx} {tg:Expr}
end
end L2
namespace L2
open PySem PySem.Spec PyProof.Rows
theorem wz{k:V→Prop}{σ:L2.St}{i:Nat}:(zf σ i k)=(∃v,σ[i]?=some (some v)∧k v):=propext mv
theorem wb{v:V}{k:Int→Prop}:(zP v k)=(∃i,v=V.int i∧k i):=propext jB
theorem wa{v:V}{k:Bool→Prop}:(Bv v k)=(∃i,v=V.bl i∧k i):=propext md
theorem Ae{x y:V}{H:Hp}{Q:VK}:(xx pE x y H Q)=(pE x y H Q):=propext DL
theorem Af{x y:V}{H:Hp}{Q:VK}:(xy pF x y H Q)=(pF x y H Q):=propext DP
theorem pd{K:Frag}{x y:V}{H:Hp}{Q:VK}:(mT (eE K) x y H Q)=(eE K x y H Q):=propext Am
theorem pe{K:Frag}{x y:V}{H:Hp}{Q:VK}:(rX (fH K) x y H Q)=(fH K x y H Q):=propext Ap
theorem xQ{K:Frag}{x y:V}{H:Hp}{Q:VK}:(xx (iW K) x y H Q)=(iW K x y H Q):=propext Cs
theorem xR{K:Frag}{x y:V}{H:Hp}{Q:VK}:(xy (iX K) x y H Q)=(iX K x y H Q):=propext Cu
theorem wc{K:Frag}{x y:V}{H:Hp}{Q:VK}:(mT (jQ K) x y H Q)=(jQ K x y H Q):=propext An
theorem tO{K:Frag}{i j:Int}{H:Hp}{Q:VK}:(eE K (V.int i) (V.int j) H Q)=(Q (V.int (i+j)) H):=propext nu
theorem tP{K:Frag}{i j:Int}{H:Hp}{Q:VK}:(jQ K (V.int i) (V.int j) H Q)=(Q (V.int (i+j)) H):=propext sH
theorem mK{K:Frag}{i j:Str}{H:Hp}{Q:VK}:(eE K (V.str i) (V.str j) H Q)=(i.length+j.length≤sizeLine∧Q (V.str (i++j)) H):=propext y7
theorem tQ{i j:Int}{H:Hp}{Q:VK}:(lP (V.int i) (V.int j) H Q)=(IntMulOk i j∧Q (V.int (i * j)) H):=propext sI
theorem tR{z:Str}{j:Int}{H:Hp}{Q:VK}:(lP (V.str z) (V.int j) H Q)=((-1000000≤j∧j≤1000000∧z.length≤16)∧Q (V.str (jS z j)) H):=propext sJ
theorem tT{K:Frag}{i j:Int}{H:Hp}{Q:VK}:(fH K (V.int i) (V.int j) H Q)=(IntMulOk i j∧Q (V.int (i * j)) H):=propext sL
theorem mL{K:Frag}{z:Str}{j:Int}{H:Hp}{Q:VK}:(fH K (V.str z) (V.int j) H Q)=((-1000000≤j∧j≤1000000∧z.length≤16)∧Q (V.str (jS z j)) H):=propext za
theorem xZ{K:Frag}{z:Str}{lo hi:Option Int}{H:Hp}{Q:VK}:(xb K (V.str z) lo hi H Q)=(z.length≤sizeLine∧Q (V.str (Txt.slice z lo hi)) H):=propext C0
theorem Ag{K:Frag}{z:Str}{i:Int}{H:Hp}{Q:VK}:(Bd K (V.str z) (V.int i) H Q)=(z.length≤sizeLine∧∃c,fm z.cps.toList i=some c∧Q (V.str { cps:=#[c] }) H):=propext Ef
theorem xT{i j:Int}{H:Hp}{Q:VK}:(pE (V.int i) (V.int j) H Q)=(Q (V.bl (decide (i=j))) H):=propext rEq_ii
theorem xX{i j:Int}{H:Hp}{Q:VK}:(pF (V.int i) (V.int j) H Q)=(Q (V.bl !decide (i=j)) H):=propext qM
theorem xU{i j:Str}{H:Hp}{Q:VK}:(pE (V.str i) (V.str j) H Q)=(Q (V.bl (decide (i=j))) H):=propext qK
theorem we{K:Frag}{i j:Int}{H:Hp}{Q:VK}:(qJ K (V.int i) (V.int j) H Q)=(Q (V.bl (decide (i=j))) H):=propext A9
theorem wq{K:Frag}{i j:Int}{H:Hp}{Q:VK}:(qL K (V.int i) (V.int j) H Q)=(Q (V.bl !decide (i=j)) H):=propext Bf
theorem wg{K:Frag}{i j:Str}{H:Hp}{Q:VK}:(qJ K (V.str i) (V.str j) H Q)=(Q (V.bl (decide (i=j))) H):=propext Ba
theorem wu{K:Frag}{i j:Str}{H:Hp}{Q:VK}:(qL K (V.str i) (V.str j) H Q)=(Q (V.bl !decide (i=j)) H):=propext Bg
theorem wd{K:Frag}{i j:Bool}{H:Hp}{Q:VK}:(qJ K (V.bl i) (V.bl j) H Q)=(Q (V.bl (decide (i=j))) H):=propext A8
theorem wo{K:Frag}{i j:Bool}{H:Hp}{Q:VK}:(qL K (V.bl i) (V.bl j) H Q)=(Q (V.bl !decide (i=j)) H):=propext Be
theorem xY{i j:Str}{H:Hp}{Q:VK}:(pF (V.str i) (V.str j) H Q)=(Q (V.bl !decide (i=j)) H):=propext qN
theorem xS{i j:Bool}{H:Hp}{Q:VK}:(pE (V.bl i) (V.bl j) H Q)=(Q (V.bl (decide (i=j))) H):=propext y8
theorem xW{i j:Bool}{H:Hp}{Q:VK}:(pF (V.bl i) (V.bl j) H Q)=(Q (V.bl !decide (i=j)) H):=propext zb
theorem xV{K:Frag}{c:Nat}{z:Str}{H:Hp}{Q:VK}:(w8 K (V.str { cps:=#[c] }) (V.str z) H Q)=(Q (V.bl (decide (c∈z.cps.toList))) H):=propext CU
theorem rL{K:Frag}{c:Nat}{z:Str}{H:Hp}{Q:VK}:(iR K (V.str { cps:=#[c] }) (V.str z) H Q)=(Q (V.bl !decide (c∈z.cps.toList)) H):=propext xa
theorem x8{i:Int}{H:Hp}{Q:VK}:(um [V.int i] H Q)=(i.natAbs.log2 < 1920∧Q (V.str (aG i)) H):=propext C5
theorem x9{z:Str}{H:Hp}{Q:VK}:(um [V.str z] H Q)=(Q (V.str z) H):=propext C6
theorem wj{K:Frag}{i j:Int}{H:Hp}{Q:VK}:(iW K (V.int i) (V.int j) H Q)=(Q (V.bl (decide (i=j))) H):=propext vy
theorem wx{K:Frag}{i j:Int}{H:Hp}{Q:VK}:(iX K (V.int i) (V.int j) H Q)=(Q (V.bl !decide (i=j)) H):=propext vA
theorem wm{K:Frag}{i j:Str}{H:Hp}{Q:VK}:(iW K (V.str i) (V.str j) H Q)=(Q (V.bl (decide (i=j))) H):=propext vz
theorem wy{K:Frag}{i j:Str}{H:Hp}{Q:VK}:(iX K (V.str i) (V.str j) H Q)=(Q (V.bl !decide (i=j)) H):=propext vB
theorem xO{K:Frag}{b k:Bool}{H:Hp}:(zZ K (V.bl b) H k)=(k=b):=propext TruV_b
theorem Ah{K:Frag}{z:Str}{H:Hp}:(Ep K "str" (V.str z) H)=(True):=propext Er
theorem tM{K:Frag}{i j:Str}{H:Hp}{Q:VK}:mT (eE K) (.str i) (.str j) H Q=(i.length+j.length≤sizeLine∧Q (.str (i++j)) H):=by rw [pd,mK]
theorem tN{K:Frag}{z:Str}{j:Int}{H:Hp}{Q:VK}:rX (fH K) (.str z) (.int j) H Q=((-1000000≤j∧j≤1000000∧z.length≤16)∧Q (.str (jS z j)) H):=by rw [pe,mL]
theorem xP{α:Sort u}{p:α→Prop}{a':α}:(∃a,a'=a∧p a)=p a':=propext exists_eq_left'
theorem Cd{α:Sort u}{a':α}:(∃a,a'=a)=True:=eq_true ⟨_,rfl⟩
theorem DE{α:Sort u}{a':α}:(∃a,a=a')=True:=eq_true ⟨_,rfl⟩
theorem Bz{α:Sort u}{p:α→Prop}{a':α}:(∃a,a=a'∧p a)=p a':=propext exists_eq_left
theorem Bx{α:Sort u}{p:α→Prop}{b:Prop}:(∃x,b∧p x)=(b∧∃x,p x):=propext exists_and_left
theorem Bw{a b c:Prop}:((a∧b)∧c)=(a∧b∧c):=propext and_assoc
theorem By{α:Sort u}:(∃_:α,False)=False:=eq_false exists_false
theorem DD{b:Prop}(α:Sort u)[Nonempty α]:(∃_:α,b)=b:=propext (exists_const α)
theorem EO{p:Prop}{x:Decidable p}:(decide p=false)=¬p:=propext decide_eq_false_iff_not
theorem DJ{c:TT}{t u w:TS}{D:e9}{σ:L2.St}{H:Hp}(h:∀A B:Hp→Prop,(∀H,gB t w D σ H→A H)→(∀H,gB u w D σ H→B H)→c σ H fun b H1=>if b=true then A H1 else B H1):gB (zC c t u) w D σ H:=h _ _ (fun _ x=>x) fun _ x=>x
theorem gD{c:TT}{t w:TS}{D:e9}{σ:L2.St}{H:Hp}(h:∀A B:Hp→Prop,(∀H,gB t w D σ H→A H)→(∀H,w D σ H→B H)→c σ H fun b H1=>if b=true then A H1 else B H1):gB (zC c t vN) w D σ H:=h _ _ (fun _ x=>x) fun _ x=>x
theorem EV{t r:TS}{D:e9}{σ:L2.St}{H:Hp}(h:∀k:L2.St→Hp→Prop,(∀σ H,r D σ H→k σ H)→t { D with nx:=k } σ H):gB t r D σ H:=h _ fun _ _ x=>x
end L2
namespace L2
open PySem PySem.Spec PyProof.Rows
theorem kj(a v:Value):argsOk "min" ⟨[a],[(Str.ofString "default",v)]⟩:=by unfold argsOk;kernel_rfl
def tJ(kf:Nat→List Int)(i j:Nat):Bool:=HT.lexLt (kf i) (kf j)
section
variable {prog:Program} {w:World} {A:Around} {R:Result→Shared→Prop} {it al bb:Addr} {items:Array Value} {G:Heap→Prop} {kf:Nat→List Int} {d:Value}
theorem wN(hd:A.handled=none)(hal:al≠it)(hbi:bb≠it)(hba:bb≠al)(gk:∀h h',G h→(∀b o,b≠it→b≠bb→h.get? b=some o→h'.get? b=some o)→G h')
  (cm:∀(i j:Nat) (vi vj:Value) (s:Shared) (Q:Value→Shared→Prop) (E:Value→Shared→Prop),items[i]?=some vi→items[j]?=some vj→G s.heap→Q (.bool (tJ kf i j)) s→wpAny (model prog w) A.in1 (richCompare .Lt vi vj) Q E s) :
  ∀(k j:Nat) (s:Shared) (v0:Value) (c0:Nat),items.size - (j+1)=k→j+1≤items.size→(s.heap.IsListIter it al (j+1)∧s.heap.IsList al items)→items[argBest (tJ kf) j]?=some v0→G s.heap→
   s.heap.get? bb=some { cls:=.type "list",dict:=none,data:=.seq #[v0,v0] c0,slots:=#[] }→
   (∀v h' tt,items[argBest (tJ kf) (items.size - 1)]?=some v→(∀b o,b≠it→b≠bb→s.heap.get? b=some o→h'.get? b=some o)→R (.ok (.ret v)) { s with heap:=h',toks:=tt })→
   codeAny (model prog w) A (.builtin "min.loop" ⟨[.ref it,.none,.ref bb],[(Str.ofString "default",d)]⟩) R s:=by
 have nm:(toString "min" ++ toString ".loop":String)="min.loop":=by decide
 have wk:=Walks.list (prog:=prog) (w:=w) (A:=A.in1) hd it al hal items
 have hbw:bb∉[it]:=by simpa using hbi
 have ns:∀{b:Addr},b≠it→b∉[it]:=fun h=>by simpa using h
 intro k
 induction k with
 | zero=>
  intro j s v0 c0 ek ej at0 pv0 g hbb fin
  have jn:j+1=items.size:=by omega
  refine codeAny_builtin F.entry_min_loop (?_);rw [Around.under_plainId (F.plain_min_loop) _];show wpAny _ A.in1 (seqItems? (.ref bb) >>= _) _ _ s;refine wpAny_bind (wpAny_seqItems hbb rfl ?_);show wpAny _ A.in1 (tryCatch (pyNext (.ref it)) _ >>= _) _ _ s;refine wpAny_bind (wpAny_tryCatch (wk.done s _ _ (jn▸at0) fun h' tt kk'=>?_));have hbb':=kk' bb _ hbw hbb;show wpAny _ A.in1 (updateSeq bb (fun _=>#[]) >>= _) _ _ _;refine wpAny_bind ?_;refine wpAny_updateSeq hbb' rfl (wpAny_bind (wpAny_letGo (wpAny_pure (?_))));refine fin v0 _ tt (by rw [←jn];exact pv0) fun b o ni nb e=>(ac4 _ _ (Ne.symm nb)).trans (kk' b o (ns ni) e)
 | succ k rec0=>
  intro j s v0 c0 ek ej at0 pv0 g hbb fin
  have jlt:j+1 < items.size:=by omega
  refine codeAny_builtin F.entry_min_loop (?_);rw [Around.under_plainId (F.plain_min_loop) _];show wpAny _ A.in1 (seqItems? (.ref bb) >>= _) _ _ s;refine wpAny_bind (wpAny_seqItems hbb rfl ?_);show wpAny _ A.in1 (tryCatch (pyNext (.ref it)) _ >>= _) _ _ s;refine wpAny_bind (wpAny_tryCatch (wk.item (j+1) s _ _ jlt at0 fun v h' tt pv at1 kk'=>?_));have hbb':=kk' bb _ hbw hbb;have g':G h':=gk _ _ g fun b o ni _ e=>kk' b o (ns ni) e;show wpAny _ A.in1 (tryCatch (holding [v,v] (richCompare .Lt v v0 >>= _)) _ >>= _) _ _ _;refine wpAny_bind (wpAny_tryCatch (wpAny_holding (wpAny_bind (cm (j+1) (argBest (tJ kf) j) v v0 _ _ _ pv pv0 g' ?_))));refine wpAny_bind (wpAny_holding (wpAny_truthy_bool (?_)));refine wpAny_bind (wpAny_letGo (wpAny_pure (?_)))
  cases eb:tJ kf (j+1) (argBest (tJ kf) j)with
  | true=>
   simp only [if_true];refine wpAny_bind ?_;refine wpAny_updateSeq hbb' rfl (wpAny_bind (wpAny_letGo (?_)));rw [nm]
   refine wpAny_pure ⟨plainId_quiet F.plain_min_loop _,rec0 (j+1) _ v _ (by omega) jlt (wk.frame _ _ _ at1 fun b bf o e=>?_) (by simp only [argBest,eb,if_true];exact pv) (gk _ _ g' fun b o _ nb e=>(ac4 _ _ (Ne.symm nb)).trans e) (ad8 _ hbb' rfl)
    fun v' h2 tt2 pv' kk2=>?_⟩
   ·exact(ac4 _ _ (fun h:bb=b=>by subst h;simp at bf;exact bf.elim hbi hba)).trans e
   ·exact fin v' h2 tt2 pv' fun b o ni nb e=>kk2 b o ni nb ((ac4 _ _ (Ne.symm nb)).trans (kk' b o (ns ni) e))
  | false=>
   simp only [if_false,ad6];refine wpAny_bind (wpAny_letGo (?_));rw [nm];refine wpAny_pure ⟨plainId_quiet F.plain_min_loop _,rec0 (j+1) _ v0 c0 (by omega) jlt at1 (by simp only [argBest,eb,ad6,if_false];exact pv0) g' hbb' fun v' h2 tt2 pv' kk2=>?_⟩;exact fin v' h2 tt2 pv' fun b o ni nb e=>kk2 b o ni nb (kk' b o (ns ni) e)
theorem lW(hd:A.handled=none)(hal:al≠it)(hbi:bb≠it)(hba:bb≠al)(gk:∀h h',G h→(∀b o,b≠it→b≠bb→h.get? b=some o→h'.get? b=some o)→G h')
  (cm:∀(i j:Nat) (vi vj:Value) (s:Shared) (Q:Value→Shared→Prop) (E:Value→Shared→Prop),items[i]?=some vi→items[j]?=some vj→G s.heap→Q (.bool (tJ kf i j)) s→wpAny (model prog w) A.in1 (richCompare .Lt vi vj) Q E s)
  {s:Shared} {c0:Nat} (at0:s.heap.IsListIter it al 0∧s.heap.IsList al items) (g:G s.heap) (hbb:s.heap.get? bb=some { cls:=.type "list",dict:=none,data:=.seq #[] c0,slots:=#[] })
  (h0:items.size=0→∀h' tt,(∀b o,b≠it→b≠bb→s.heap.get? b=some o→h'.get? b=some o)→R (.ok (.ret d)) { s with heap:=h',toks:=tt })
  (fin:0 < items.size→∀v h' tt,items[argBest (tJ kf) (items.size - 1)]?=some v→(∀b o,b≠it→b≠bb→s.heap.get? b=some o→h'.get? b=some o)→R (.ok (.ret v)) { s with heap:=h',toks:=tt }) :
  codeAny (model prog w) A (.builtin "min.loop" ⟨[.ref it,.none,.ref bb],[(Str.ofString "default",d)]⟩) R s:=by
 have nm:(toString "min" ++ toString ".loop":String)="min.loop":=by decide
 have wk:=Walks.list (prog:=prog) (w:=w) (A:=A.in1) hd it al hal items
 have hbw:bb∉[it]:=by simpa using hbi
 have ns:∀{b:Addr},b≠it→b∉[it]:=fun h=>by simpa using h
 refine codeAny_builtin F.entry_min_loop (?_);rw [Around.under_plainId (F.plain_min_loop) _];show wpAny _ A.in1 (seqItems? (.ref bb) >>= _) _ _ s;refine wpAny_bind (wpAny_seqItems hbb rfl ?_);show wpAny _ A.in1 (tryCatch (pyNext (.ref it)) _ >>= _) _ _ s
 by_cases n0:0 < items.size
 ·refine wpAny_bind (wpAny_tryCatch (wk.item 0 s _ _ n0 at0 fun v h' tt pv at1 kk'=>?_))
  have hbb':=kk' bb _ hbw hbb;show wpAny _ A.in1 (updateSeq bb (fun _=>#[v,v]) >>= _) _ _ _;refine wpAny_bind ?_;refine wpAny_updateSeq hbb' rfl ?_;rw [nm];refine wpAny_pure ⟨plainId_quiet F.plain_min_loop _,wN hd hal hbi hba gk cm _ 0 _ v _ rfl n0 (wk.frame _ _ _ at1 fun b bf o e=>?_) pv (gk _ _ (gk _ _ g fun b o ni _ e=>kk' b o (ns ni) e) fun b o _ nb e=>(ac4 _ _ (Ne.symm nb)).trans e) (ad8 _ hbb' rfl) fun v' h2 tt2 pv' kk2=>?_⟩
  ·exact(ac4 _ _ (fun h:bb=b=>by subst h;simp at bf;exact bf.elim hbi hba)).trans e
  ·exact fin n0 v' h2 tt2 pv' fun b o ni nb e=>kk2 b o ni nb ((ac4 _ _ (Ne.symm nb)).trans (kk' b o (ns ni) e))
 ·have e0:items.size=0:=by omega
  refine wpAny_bind (wpAny_tryCatch (wk.done s _ _ (by rw [e0];exact at0) fun h' tt kk'=>?_));refine wpAny_bind (wpAny_rule (wpAny_pure (?_)));exact h0 e0 h' tt fun b o ni _ e=>kk' b o (ns ni) e
end
section
variable {prog:Program} {w:World} {A:Around} {E:Value→Shared→Prop} {s:Shared}
theorem vW{l:Addr}{items:Array Value}{kf:Nat→List Int}{G:Heap→Prop}{d:Value}{Q:Value→Shared→Prop}(hd:A.handled=none)(hil:s.heap.IsList l items)
  (gk:∀it bb h h',s.heap.objs.size≤it→s.heap.objs.size≤bb→G h→(∀b o,b≠it→b≠bb→h.get? b=some o→h'.get? b=some o)→G h') (g:G s.heap)
  (cm:∀(i j:Nat) (vi vj:Value) (s:Shared) (Q:Value→Shared→Prop) (E:Value→Shared→Prop),items[i]?=some vi→items[j]?=some vj→G s.heap→Q (.bool (tJ kf i j)) s→wpAny (model prog w) A.in1 (richCompare .Lt vi vj) Q E s)
  (h0:items.size=0→∀h' tt,(∀b o,s.heap.get? b=some o→h'.get? b=some o)→Q d { s with heap:=h',toks:=tt })
  (fin:0 < items.size→∀v h' tt,items[argBest (tJ kf) (items.size - 1)]?=some v→(∀b o,s.heap.get? b=some o→h'.get? b=some o)→Q v { s with heap:=h',toks:=tt }) :
  wpAny (model prog w) A (call (.builtin "min") [.ref l] [(Str.ofString "default",d)]) Q E s:=by
 have nm:(toString "min" ++ toString ".loop":String)="min.loop":=by decide
 refine kmk_tree F.kind_min F.plain_min F.entry_min (kj _ _) ?_;show wpAny _ A.in1 (Builtin.Builtins.bindParams "min" ["key","default"] 0 ⟨[],[(Str.ofString "default",d)]⟩ >>= _) _ _ s;refine wpAny_bind (wpAny_of_eq (show Builtin.Builtins.bindParams "min" ["key","default"] 0 ⟨[],[(Str.ofString "default",d)]⟩=pure [none,some d]from rfl) ?_);refine wpAny_bind (wpAny_pure ?_);refine wpAny_bind (wpAny_pyIter_list hil ?_);refine wpAny_bind (wpAny_newObj_type (?_))
 have llt:l < s.heap.objs.size:=by
  obtain⟨o,ho,_⟩:=hil;exact ab2 ho
 rw [nm];refine wpAny_pure ⟨plainId_quiet F.plain_min_loop _,?_⟩
 have esz:(s.heap.push { cls:=.type "list_iterator",data:=.fields #[.ref l,.int 0 0] }).objs.size=s.heap.objs.size+1:=by simp [Heap.push]
 have kp:∀b o,s.heap.get? b=some o→((s.heap.push { cls:=.type "list_iterator",data:=.fields #[.ref l,.int 0 0] }).push { cls:=.type "list",data:=.seq #[] }).get? b=some o:=fun b o e=>aa3 _ (aa3 _ e)
 refine lW (it:=s.heap.objs.size) (al:=l) (bb:=(s.heap.push { cls:=.type "list_iterator",data:=.fields #[.ref l,.int 0 0] }).objs.size) (items:=items) (G:=G) (kf:=kf) hd (ab5 llt) (by rw [esz];exact Nat.succ_ne_self _) (by rw [esz];exact(ab5 (ag8 llt)).symm) (fun h h' g k=>gk _ _ h h' (aa7 _) (by rw [esz];exact ai7 _) g k) cm
  ⟨⟨_,aa3 _ (ab9 _ rfl),rfl,rfl⟩,hil.at fun o e=>kp _ _ e⟩ (gk _ _ _ _ (aa7 _) (aa7 _) g fun b o _ _ e=>kp b o e) (ab9 _ rfl) (fun e h' tt k=>h0 e h' tt fun b o eb=>?_) (fun n0 v h' tt hv k=>fin n0 v h' tt hv fun b o eb=>?_)
 ·have:=ab2 eb
  exact k b o (ab5 this) (by rw [esz];exact ab5 (ag8 this)) (kp b o eb)
 ·have:=ab2 eb
  exact k b o (ab5 this) (by rw [esz];exact ab5 (ag8 this)) (kp b o eb)
end
def n8(a b:Int×Int):Bool:=decide (a.1 < b.1) || (decide (a.1=b.1) && decide (a.2 < b.2))
theorem pz(a b c d:Int):HT.lexLt [a,b] [c,d]=n8 (a,b) (c,d):=by
 simp only [HT.lexLt,n8]
 by_cases h:a=c
 ·subst h
  by_cases h2:b=d
  ·subst h2;simp
  ·simp [h2]
 ·simp [h]
theorem rq(ks:List (Int×Int))(kf:Nat→List Int)(hk:∀i k,ks[i]?=some k→kf i=[k.1,k.2]):∀n,n < ks.length→∃k,ks[argBest (tJ kf) n]?=some k∧∀j k',j≤n→ks[j]?=some k'→n8 k' k=false
 | 0,h=>by
  refine⟨ks[0],aa1 h,fun j k' hj e=>?_⟩
  obtain rfl:j=0:=by omega
  rw [aa1 h]at e;cases e;simp [n8]
 | n+1,h=>by
  obtain⟨k,h1,h2⟩:=rq ks kf hk n (by omega);have e1:ks[n+1]?=some ks[n+1]:=aa1 h
  have hb:tJ kf (n+1) (argBest (tJ kf) n)=n8 ks[n+1] k:=by
   show HT.lexLt (kf (n+1)) (kf (argBest (tJ kf) n))=_;rw [hk _ _ e1,hk _ _ h1,pz]
  cases hl:n8 ks[n+1] k with
  | true=>
   refine⟨ks[n+1],by simp only [argBest,hb,hl,if_true];exact e1,fun j k' hj e=>?_⟩
   by_cases hjn:j=n+1
   ·subst hjn
    rw [e1]at e;cases e;simp [n8]
   ·have:=h2 j k' (by omega) e
    unfold n8 at this hl ⊢;simp only [ag5,ag0,decide_eq_true_eq,Bool.or_eq_false_iff,Bool.and_eq_false_iff,decide_eq_false_iff_not]at this hl ⊢;omega
  | false=>
   refine⟨k,by simp only [argBest,hb,hl,ad6,if_false];exact h1,fun j k' hj e=>?_⟩
   by_cases hjn:j=n+1
   ·subst hjn
    rw [e1]at e;cases e;exact hl
   ·exact h2 j k' (by omega) e
def BP(K:Frag)(t tk:TA):TE:=fun σ H Q=>t σ H fun vs H1=>tk σ H1 fun zs H2=>∃(p:Addr) (ts:List Addr) (ks:List (Int×Int)),vs=[.ref p]∧zs=[.non]∧aT K H2 p (ts.map V.ref)∧ts.length=ks.length∧(∀(i:Nat) (t:Addr) (k:Int×Int),ts[i]?=some t→ks[i]?=some k→cD K H2 t [.int k.1,.int k.2])∧
 (ks=[]→Q .non H2)∧∀(i:Nat) (t:Addr) (k:Int×Int),ts[i]?=some t→ks[i]?=some k→(∀k'∈ks,n8 k' k=false)→Q (.ref t) H2
theorem AV{X:Cx}{e v:Expr}{t tk:TA}{p kp pos:Pos}(K:Frag)(hu:X.A.units+4+1 < cLine)(hc:X.calm=true)(hg:Gl X "min")(hm:X.mg "min"=none)(ha:PA X [e] t)(hkw:PK X [⟨some (Str.ofString "default"),v,kp⟩] tk)(hK:X.K=K:=by rfl)(hs:starEach [e] X.env=[(false,eval e X.env)]:=by rfl):
  PE X (.Call (.Name "min" p) [e] [⟨some (Str.ofString "default"),v,kp⟩] pos) (BP K t tk):=by
 subst hK;intro pins s σ H Q I h;refine wpAny_Call_Name_kw (i8 I hg hm boot_min ?_ (by decide) (by decide));refine callWith_kw (cZ (ha pos pins s σ H _ I h) fun us s1 ⟨vs,H1,I1,r1,q1⟩=>cZ (hkw pos pins s1 σ H1 _ I1 q1) fun ws s2 ⟨zs,H2,I2,r2,q2⟩=>?_) (by rw [hs];rfl) (by rw [hs];rfl);obtain⟨l,ts,ks,rfl,rfl,hl,htl,htc,q0,qn⟩:=q2;obtain⟨u,rfl,ru⟩:=eF r1;cases ru;obtain⟨u,rfl,ru⟩:=eF r2;cases ru;show wpAny _ _ (call (.builtin "min") [.ref l] [(Str.ofString "default",.none)]) _ _ s2;obtain⟨its,rv,pl,_⟩:=I2.list hl;have hil:=pl.isList;have hlen:=rv.length;rw [aa0]at hlen
 have tup:∀(i:Nat) (t:Addr) (k:Int×Int),ts[i]?=some t→ks[i]?=some k→∃vs:List Value,IsTup s2.heap t vs.toArray∧IntsAre vs [k.1,k.2]:=fun i t k e1 e2=>by
  obtain⟨vs,r,p,_⟩:=I2.tuple (htc i t k e1 e2);exact⟨vs,p,i7 (ns:=[k.1,k.2]) r⟩
 have tlt:∀(i:Nat) (t:Addr) (k:Int×Int),ts[i]?=some t→ks[i]?=some k→t < s2.heap.objs.size:=fun i t k e1 e2=>by
  obtain⟨vs,⟨o,ho,_⟩,_⟩:=tup i t k e1 e2;exact ab2 ho
 have at':∀(i:Nat) (v:Value),its.toArray[i]?=some v→∃t k,ts[i]?=some t∧ks[i]?=some k∧v=.ref t:=fun i v hv=>by
  have hi:i < its.length:=by
   have:=(ad7.mp hv).1
   simpa using this
  have e1:ts[i]?=some (ts[i]'(by omega)):=aa1 (by omega);have e2:ks[i]?=some (ks[i]'(by omega)):=aa1 (by omega);obtain⟨u,h1,h2⟩:=rv.get (i:=i) (x:=.ref (ts[i]'(by omega))) (by rw [aa8,e1];rfl);rw [List.getElem?_toArray,h1]at hv;cases hv;cases h2;exact⟨_,_,e1,e2,rfl⟩
 have hkf:∀(i:Nat) (k:Int×Int),ks[i]?=some k→(fun i=>match ks[i]? with | some k=>[k.1,k.2] | none=>[]) i=[k.1,k.2]:=fun i k e=>by
  simp only [e]
 refine vW (kf:=fun i=>match ks[i]? with | some k=>[k.1,k.2] | none=>[]) (G:=fun h=>∀(i:Nat) (t:Addr) (k:Int×Int),ts[i]?=some t→ks[i]?=some k→∃vs:List Value,IsTup h t vs.toArray∧IntsAre vs [k.1,k.2]) (I2.ok.hd hc) hil ?_ tup ?_ ?_ ?_
 ·intro J S h h' hJ hS g k i t kk e1 e2
  obtain⟨vs,⟨o,ho,hr⟩,hv⟩:=g i t kk e1 e2
  have:=tlt i t kk e1 e2
  exact⟨vs,⟨o,k t o (ab5 (aa5 this hJ)) (ab5 (aa5 this hS)) ho,hr⟩,hv⟩
 ·intro i j vi vj s Q E hi hj g q
  obtain⟨t,k,e1,e2,rfl⟩:=at' i vi hi;obtain⟨t',k',e1',e2',rfl⟩:=at' j vj hj;obtain⟨vs,p,hv⟩:=g i t k e1 e2;obtain⟨vs',p',hv'⟩:=g j t' k' e1' e2';unfold tJ at q;rw [hkf i k e2,hkf j k' e2']at q;exact HT.lt_tupInts (A:=X.A.in1) p p' hv hv' (by show X.A.units+1 < cLine;omega) q
 ·intro h0 h' tk kp
  rw [aa9]at h0;exact⟨.non,H2,I2.kept (t':=tk) kp,rfl,q0 (ae8.mp (by omega))⟩
 ·intro hn v h' tk hv kp
  rw [aa9]at hn hv;obtain⟨k0,h1,h2⟩:=rq ks _ hkf (its.length - 1) (by omega);obtain⟨t,k,e1,e2,rfl⟩:=at' _ v hv;rw [h1]at e2;cases e2;refine⟨.ref t,H2,I2.kept (t':=tk) kp,rfl,qn _ t k0 e1 h1 fun k' hk'=>?_⟩;obtain⟨j,hj,rfl⟩:=List.getElem_of_mem hk';exact h2 j _ (by omega) (aa1 hj)
end L2
namespace L2
open PySem PySem.Spec PyProof.Rows
section
variable {prog:Program} {w:World} {A:Around} {E:Value→Shared→Prop} {s:Shared}
end
end L2
namespace XE
open PySem
open Sem (wp)
section
variable {M:Model} {A:Around} {E:Value→Shared→Prop} {s:Shared}
def Tr(h:Heap)(e T:Addr)(cls:Value)(dc:Option Addr)(fl:Value):Prop:=
 ∃oe vs oT ts,h.get? e=some oe∧(oe.cls=cls∧oe.dict=dc)∧oe.data=.fields vs∧vs[1]?=some (.ref T)∧T≠e∧h.get? T=some oT∧oT.data=.fields ts∧ts[3]?=some fl
def Fd(h:Heap)(e:Addr)(cls:Value)(dc:Option Addr):Prop:=∃oe vs,h.get? e=some oe∧(oe.cls=cls∧oe.dict=dc)∧oe.data=.fields vs∧vs[1]?=some .none
def On(base:Heap)(l:List Env)(e:Addr)(h:Heap):Prop:=base.StaysIn h∧base.get? e=none∧h.FunFrames base l
theorem Tr.there{h:Heap}{e T:Addr}{cls:Value}{dc:Option Addr}{fl:Value}(x:Tr h e T cls dc fl):∃o vs,h.get? e=some o∧o.cls=cls∧o.dict=dc∧o.data=.fields vs:=
 let ⟨o,vs,_,_,a,b,c,_⟩:=x;⟨o,vs,a,b.1,b.2,c⟩
theorem Tr.tb{h:Heap}{e T:Addr}{cls:Value}{dc:Option Addr}{fl:Value}(x:Tr h e T cls dc fl):∃o vs,h.get? T=some o∧o.data=.fields vs:=
 let ⟨_,_,o,vs,_,_,_,_,_,a,b,_⟩:=x;⟨o,vs,a,b⟩
theorem entry{base:Heap}{env:Env}{outer:List Env}{L e:Addr}{oe:Obj}{vs:Array Value}{head:Value}{hadNext:Bool}{Q:Unit→Shared→Prop}
  (hfr:A.frames=some (env::outer)) (o:On base (env::outer) e s.heap) (hf:env.frame=some L) (he:s.heap.get? e=some oe) (hd:oe.data=.fields vs) (hsz:1 < vs.size)
  (h:∀h' T,s.heap.objs.size≤T→On base (env::outer) e h'→Tr h' e T oe.cls oe.dict (rawInt L)→s.heap.UpToSlots h'→Q () { s with heap:=h' }) :
  wpAny M A (do let a ←frameOf env;let pl ←entryPlaceOf L hadNext;let b ←EntryCells.newEntry head a .none (rawInt L) .none pl;setField (.ref e) 1 b) Q E s:=by
 obtain⟨hkb,hen,hl⟩:=o
 have hene:e∉(env::outer).filterMap (·.frame):=fun hm=>by
  obtain⟨_,o,ho,hnf⟩:=hl.mem hm
  rw [he]at ho;injection ho with ho;subst ho;exact hnf vs hd
 refine wpAny_bind (wpAny_frameOf_fun hfr hl hf fun h₁ hs₁=>?_);refine wpAny_bind (wpAny_entryPlaceOf fun pl hpl=>?_);unfold EntryCells.newEntry newFields;refine wpAny_bind (wpAny_newObj_type ?_ (hpl.sizeOk5 _ _ _ _ _));have he₁:h₁.get? e=some oe:=(hs₁.2.1 e hene).trans he;have kb₁:base.StaysIn h₁:=fun b o hbo=>(hs₁.2.1 b fun hm=>by rw [(hl.mem hm).1]at hbo;cases hbo).trans (hkb b o hbo);generalize hT:({ cls:=.type "traceback",dict:=none,data:=.fields ([head,.ref L,.none,rawInt L,.none]++(if pl.isEmpty then List.replicate 6 Value.none else pl)).toArray }:Obj)=oT;have he₂:=aa3 (h:=h₁) oT he₁;refine wpAny_setField he₂ hd hsz (h _ h₁.objs.size (Nat.le_of_eq hs₁.1.symm) ?_ ?_ ?_)
 all_goals
  have hTe:h₁.objs.size≠e:=af7 (ab2 he₁)
  have hd₃:=Obj.data_mapFields hd (·.setIfInBounds 1 (Value.ref h₁.objs.size))
  have he₃:=ad8 (Obj.mapFields (·.setIfInBounds 1 (Value.ref h₁.objs.size))) he₂ (Obj.isFreed_of_fields hd₃)
  have keep:∀b o,b≠e→h₁.get? b=some o→((h₁.push oT).update e (Obj.mapFields (·.setIfInBounds 1 (Value.ref h₁.objs.size)))).get? b=some o:=
   fun b o hbe hb=>by
    rw [ac4 _ _ (Ne.symm hbe)];exact aa3 _ hb
  have noRecord:∀b o,s.heap.get? b=some o→(∀vs,o.data≠.fields vs)→b≠e:=fun b o hb hnf q=>by
   rw [q,he]at hb;injection hb with hb;subst hb;exact hnf vs hd
 ·refine⟨fun b o hbo=>keep b o (fun q=>by rw [q,hen]at hbo;cases hbo) (kb₁ b o hbo),hen,hl.of_keeps fun b o hb hnf=>?_⟩
  obtain⟨sl,hs⟩:=hs₁.2.2 b o hb;exact⟨_,keep b _ (noRecord b o hb hnf) hs,rfl⟩
 ·have hT₃:=(ac4 (h₁.push oT) (Obj.mapFields (·.setIfInBounds 1 (Value.ref h₁.objs.size))) (Ne.symm hTe)).trans (ab9 h₁ (by rw [←hT];rfl))
  refine⟨_,_,_,_,he₃,⟨Obj.cls_mapFields _ _,?_⟩,hd₃,by simp [hsz],hTe,hT₃,by rw [←hT],by first | (simp;done) | (rcases hpl with rfl | ⟨_,_,_,_,_,_,_,rfl⟩<;>simp)⟩
  unfold Obj.mapFields
  split<;>rfl
 ·intro b o hb hnf
  obtain⟨sl,hs⟩:=hs₁.2.2 b o hb;exact⟨sl,keep b _ (noRecord b o hb hnf) hs⟩
theorem yH{base:Heap}{env:Env}{outer:List Env}{L e:Addr}{cls:Value}{dc:Option Addr}{Q:Unit→Shared→Prop}
  (hfr:A.frames=some (env::outer)) (hf:env.frame=some L) (o:On base (env::outer) e s.heap) (x:Fd s.heap e cls dc)
  (h:∀h' T,s.heap.objs.size≤T→On base (env::outer) e h'→Tr h' e T cls dc (rawInt L)→s.heap.UpToSlots h'→Q () { s with heap:=h' }):wpAny M A (noteFrame (.ref e) env) Q E s:=by
 obtain⟨oe,vs,he,⟨rfl,rfl⟩,hd,h1⟩:=x;unfold noteFrame;simp only [hf];refine wpAny_bind (wpAny_field he hd h1 ?_);rw [if_neg (by decide)];exact entry hfr o hf he hd (ad7.mp h1).1 h
theorem Av{base:Heap}{env:Env}{outer:List Env}{L e T:Addr}{cls:Value}{dc:Option Addr}{Q:Unit→Shared→Prop}
  (hfr:A.frames=some (env::outer)) (hf:env.frame=some L) (o:On base (env::outer) e s.heap) (hnT:base.get? T=none) {fl:Value} (hfl:¬((fl == rawInt L)=true)) (x:Tr s.heap e T cls dc fl)
  (h:∀h' T,s.heap.objs.size≤T→On base (env::outer) e h'→Tr h' e T cls dc (rawInt L)→s.heap.UpToSlots h'→Q () { s with heap:=h' }):wpAny M A (noteFrame (.ref e) env) Q E s:=by
 obtain⟨oe,vs,oT,ts,he,⟨rfl,rfl⟩,hd,h1,hTe,hT,hdT,h3⟩:=x;obtain⟨hkb,hen,hl⟩:=o;unfold noteFrame;simp only [hf];refine wpAny_bind (wpAny_field he hd h1 ?_);rw [if_pos (show(Value.ref T != Value.none)=true from by simp)];refine wpAny_bind (wpAny_field hT hdT h3 ?_);rw [if_neg hfl];refine wpAny_bind (wpAny_setField hT hdT (ad7.mp h3).1 ?_)
 have other:∀b,b≠T→(s.heap.update T (Obj.mapFields (·.setIfInBounds 3 Value.none))).get? b=s.heap.get? b:=fun b hb=>ac4 _ _ (Ne.symm hb)
 have noRecord:∀b o,s.heap.get? b=some o→(∀vs,o.data≠.fields vs)→b≠T:=fun b o hb hnf q=>by
  rw [q,hT]at hb;injection hb with hb;subst hb;exact hnf ts hdT
 have hsz:(s.heap.update T (Obj.mapFields (·.setIfInBounds 3 Value.none))).objs.size=s.heap.objs.size:=Heap.size_after_update _ _ _
 exact entry (s:={ s with heap:=s.heap.update T (Obj.mapFields (·.setIfInBounds 3 Value.none)) }) hfr
  ⟨fun b o hbo=>(other b fun q=>by rw [q,hnT]at hbo;cases hbo).trans (hkb b o hbo),hen,hl.of_keeps fun b o hb hnf=>⟨o,(other b (noRecord b o hb hnf)).trans hb,rfl⟩⟩ hf ((other e (Ne.symm hTe)).trans he) hd (ad7.mp h1).1
  fun h' T' x0 x1 x2 x3=>h h' T' (hsz▸x0) x1 x2 fun b o hb hnf=>x3 b o ((other b (noRecord b o hb hnf)).trans hb) hnf
theorem wR{env:Env}{L e T:Addr}{cls:Value}{dc:Option Addr}{Q:Unit→Shared→Prop}
  (hf:env.frame=some L) (x:Tr s.heap e T cls dc (rawInt L)) (h:Q () s):wpAny M A (noteFrame (.ref e) env) Q E s:=by
 obtain⟨oe,vs,oT,ts,he,_,hd,h1,hTe,hT,hdT,h3⟩:=x;unfold noteFrame;simp only [hf];refine wpAny_bind (wpAny_field he hd h1 ?_);rw [if_pos (show(Value.ref T != Value.none)=true from by simp)];refine wpAny_bind (wpAny_field hT hdT h3 ?_);rw [if_pos (show(rawInt L == rawInt L)=true from by simp)];exact wpAny_pure h
theorem land{base:Heap}{l:List Env}{e T:Addr}{cls fl:Value}{dc:Option Addr}{Q:Unit→Shared→Prop}(o:On base l e s.heap)(hnT:base.get? T=none)(x:Tr s.heap e T cls dc fl)
  (h:∀h',On base l e h'→Tr h' e T cls dc .none→s.heap.UpToSlots h'→Q () { s with heap:=h' }):wpAny M A (setFlight (.ref e) none) Q E s:=by
 obtain⟨oe,vs,oT,ts,he,hcls,hd,h1,hTe,hT,hdT,h3⟩:=x;obtain⟨hkb,hen,hl⟩:=o;have hsz3:3 < ts.size:=(ad7.mp h3).1
 have other:∀b,b≠T→(s.heap.update T (Obj.mapFields (·.setIfInBounds 3 ((none:Option Addr).elim Value.none fun f=>rawInt f)))).get? b=s.heap.get? b:=
  fun b hb=>ac4 _ _ (Ne.symm hb)
 have noRecord:∀b o,s.heap.get? b=some o→(∀vs,o.data≠.fields vs)→b≠T:=fun b o hb hnf q=>by
  rw [q,hT]at hb;injection hb with hb;subst hb;exact hnf ts hdT
 unfold setFlight;refine wpAny_bind (wpAny_field he hd h1 ?_);rw [if_pos (show(Value.ref T != Value.none)=true from by simp)]
 refine wpAny_setField hT hdT hsz3 (h _ ⟨fun b o hbo=>(other b fun q=>by rw [q,hnT]at hbo;cases hbo).trans (hkb b o hbo),hen,
  hl.of_keeps fun b o hb hnf=>⟨o,(other b (noRecord b o hb hnf)).trans hb,rfl⟩⟩ ?_ fun b o hb hnf=>⟨o.slots,(other b (noRecord b o hb hnf)).trans hb⟩)
 exact⟨oe,vs,_,_,(other e (Ne.symm hTe)).trans he,hcls,hd,h1,hTe,ad8 _ hT (Obj.isFreed_of_fields (Obj.data_mapFields hdT _)),Obj.data_mapFields hdT _,by simp [hsz3]⟩
def Out(h:Heap)(e:Addr)(cls:Value)(dc:Option Addr)(ts:List Addr):Prop:=(ts=[]∧Fd h e cls dc)∨∃T fl,ts=[T]∧Tr h e T cls dc fl
theorem note_out{base:Heap}{env:Env}{outer:List Env}{L e:Addr}{cls:Value}{dc:Option Addr}{ts:List Addr}{Q:Unit→Shared→Prop}
  (hfr:A.frames=some (env::outer)) (hf:env.frame=some L) (o:On base (env::outer) e s.heap) (hts:∀T∈ts,base.get? T=none) (x:Out s.heap e cls dc ts)
  (h:∀h' T,(T∈ts∨s.heap.objs.size≤T)→On base (env::outer) e h'→Tr h' e T cls dc (rawInt L)→s.heap.UpToSlots h'→Q () { s with heap:=h' }):wpAny M A (noteFrame (.ref e) env) Q E s:=by
 rcases x with⟨rfl,x⟩ | ⟨T,fl,rfl,x⟩
 ·exact yH hfr hf o x fun h' T a=>h h' T (.inr a)
 ·by_cases hfl:(fl == rawInt L)=true
  ·have e:fl=rawInt L:=by simpa using hfl
   subst e;exact wR hf x (h s.heap T (.inl (.head _)) o x (.refl _))
  ·exact Av hfr hf o (hts T (.head _)) hfl x fun h' T a=>h h' T (.inr a)
theorem note_same{env env':Env}(hf:env'.frame=env.frame)(e:Value):noteFrame e env'=noteFrame e env:=by
 unfold noteFrame frameOf;rw [hf]
theorem pass_on{base:Heap}{l:List Env}{e T:Addr}{cls fl:Value}{dc:Option Addr}{what:String}{env:Env}{α:Type}{Q:α→Shared→Prop}(o:On base l e s.heap)(hnT:base.get? T=none)(x:Tr s.heap e T cls dc fl)
  (h:∀h' fl',On base l e h'→Tr h' e T cls dc fl'→s.heap.UpToSlots h'→E (.ref e) { s with heap:=h' }):wpAny M A (passOn what (.ref e) env) Q E s:=by
 obtain⟨oe,vs,oT,ts,he,hcls,hd,h1,hTe,hT,hdT,h3⟩:=x;obtain⟨hkb,hen,hl⟩:=o;have hsz3:3 < ts.size:=(ad7.mp h3).1
 have noRecord:∀b o,s.heap.get? b=some o→(∀vs,o.data≠.fields vs)→b≠T:=fun b o hb hnf q=>by
  rw [q,hT]at hb;injection hb with hb;subst hb;exact hnf ts hdT
 unfold passOn;refine wpAny_bind (wpAny_field he hd h1 ?_);rw [if_neg (by simp)];unfold setFlight;refine wpAny_bind (wpAny_bind (wpAny_field he hd h1 ?_));rw [if_pos (show(Value.ref T != Value.none)=true from by simp)];generalize env.frame.elim Value.none (fun f=>rawInt f)=fl'
 have other:∀b,b≠T→(s.heap.update T (Obj.mapFields (·.setIfInBounds 3 fl'))).get? b=s.heap.get? b:=
  fun b hb=>ac4 _ _ (Ne.symm hb)
 refine wpAny_setField hT hdT hsz3 (wpAny_throw (h _ fl' ⟨fun b o hbo=>(other b fun q=>by rw [q,hnT]at hbo;cases hbo).trans (hkb b o hbo),hen,
  hl.of_keeps fun b o hb hnf=>⟨o,(other b (noRecord b o hb hnf)).trans hb,rfl⟩⟩ ?_ fun b o hb hnf=>⟨o.slots,(other b (noRecord b o hb hnf)).trans hb⟩))
 exact⟨oe,vs,_,_,(other e (Ne.symm hTe)).trans he,hcls,hd,h1,hTe,ad8 _ hT (Obj.isFreed_of_fields (Obj.data_mapFields hdT _)),Obj.data_mapFields hdT _,by simp [hsz3]⟩
theorem qb{base h:Heap}{T:Addr}{ts:List Addr}(k:base.StaysIn h)(hts:∀T∈ts,base.get? T=none)(hT:T∈ts∨h.objs.size≤T):base.get? T=none:=by
 rcases hT with hT | hT
 ·exact hts T hT
 ·cases q:base.get? T with
  | none=>rfl
  | some o=>exact absurd (ab2 (k _ _ q)) (ak3.mpr hT)
theorem leave_out{base:Heap}{env:Env}{outer:List Env}{L e:Addr}{cls:Value}{dc:Option Addr}{ts:List Addr}{Q:Unit→Shared→Prop}
  (hfr:A.frames=some (env::outer)) (hf:env.frame=some L) (o:On base (env::outer) e s.heap) (hts:∀T∈ts,base.get? T=none) (x:Out s.heap e cls dc ts)
  (h:∀h' T,(T∈ts∨s.heap.objs.size≤T)→On base outer e h'→Tr h' e T cls dc .none→s.heap.UpToSlots h'→Q () { s with heap:=h' }):wpAny M A (leaving env (.ref e)) Q E s:=by
 unfold leaving;refine wpAny_bind (note_out hfr hf o hts x fun h₁ T hT o1 x1 u1=>?_);refine land (s:={ s with heap:=h₁ }) o1 (qb o.1 hts hT) x1 fun h₂ o2 x2 u2=>?_;obtain⟨a,b,_,_,c⟩:=o2;exact h h₂ T hT ⟨a,b,c⟩ x2 (u1.trans u2)
end
inductive Tail(h:Heap)(no:Str→Prop)(bmB:List Value):List Value→Prop
 | base:Tail h no bmB bmB
 | own {A:Addr} {c0:Value} {dd:Option Addr} {cd:ClassData} {sl:Array (Option Value)} {mA:Str→Option Value} {tl:List Value} :
   h.get? A=some { cls:=c0,dict:=dd,data:=.cls cd,slots:=sl }→h.Ns cd.ns mA→(∀n,no n→mA n=none)→Tail h no bmB tl→Tail h no bmB (.ref A::tl)
theorem Tail.hasType{h:Heap}{no:Str→Prop}{bmB tl:List Value}(T:Tail h no bmB tl){X:String}{b:Bool}(hb:bmB.contains (.type X)=b):tl.contains (.type X)=b:=by
 induction T with
 | base=>exact hb
 | own _ _ _ _ ih=>rw [ag4,ih];rfl
theorem Tail.ot{h:Heap}{no:Str→Prop}{bmB tl:List Value}(T:Tail h no bmB tl)(hi:no "__init__"):OwnTail h bmB tl:=by
 induction T with
 | base=>exact .base
 | own hA hN hq _ ih=>exact .own hA hN (hq _ hi) ih
section
variable {M:Model} {A:Around} {E:Value→Shared→Prop} {h:Heap} {g:Array GenState} {d:Drawn} {t:Nat} {os:OsState}
variable {nm q:Str} {C N:Addr} {bs bm bmB:List Value} {hdct:Bool} {sn:List Str} {sub:List Value} {ab:Bool} {col:Option Bool} {dd:Option Addr} {k0 k1 k2 k3 k5:Option Value} {B newId initId:String} {no:Str→Prop}
theorem DA{tl:List Value}{n:Str}{y:Option Value}{Q:Option Value→Shared→Prop}(hn:no n)(T:Tail h no bmB tl)(hrest:lookupAlong bmB n=pure y)(hq:Q y ⟨h,g,d,t,os⟩):
  wpAny M A (lookupAlong tl n) Q E ⟨h,g,d,t,os⟩:=by
 induction T with
 | base=>rw [hrest];exact wpAny_pure hq
 | own hA hN hni _ ih=>
  rw [lookupAlong_cons];refine wpAny_bind (wpAny_classOwn_cls hA hN ?_);rw [hni n hn];exact ih
theorem lookup{mN:Str→Option Value}{n:Str}{y:Option Value}{Q:Option Value→Shared→Prop}(hno:no n)
  (hC:h.get? C=some (excClassObj nm q C N bs bm hdct sn sub ab col dd k0 k1 k2 k3 k5 newId)) (hn:h.Ns N mN) (T:Tail h no bmB bm) (hbm:mroOf (.type B)=pure bmB) (hB:typeLookup (.type B) n=pure y)
  (hq:Q (match mN n with | some v=>some v | none=>y) ⟨h,g,d,t,os⟩):wpAny M A (typeLookup (.ref C) n) Q E ⟨h,g,d,t,os⟩:=by
 have hrest:lookupAlong bmB n=pure y:=by rw [typeLookup_eq,hbm]at hB;exact hB
 rw [typeLookup_eq];refine wpAny_bind (wpAny_mroOf_exc hC ?_);rw [lookupAlong_cons];refine wpAny_bind (wpAny_classOwn_exc hC hn ?_)
 cases hv:mN n with
 | some v=>rw [hv]at hq;exact wpAny_pure hq
 | none=>rw [hv]at hq;exact DA hno T hrest hq
end
section
variable {prog:Program} {w:World} {A:Around} {E:Value→Shared→Prop} {h:Heap} {g:Array GenState} {d:Drawn} {t:Nat} {os:OsState}
variable {nm q:Str} {C N:Addr} {bs bm bmB:List Value} {hdct:Bool} {sn:List Str} {sub:List Value} {ab:Bool} {col:Option Bool} {dd:Option Addr} {k0 k1 k2 k3 k5:Option Value} {B newId initId:String}
theorem made{mN:Str→Option Value}{rest:List Value}{fI:Addr}{oI:Obj}{Q:Fin→Shared→Prop}(F:ExcBaseFacts B newId initId bmB)(T:OwnTail h bmB bm)
  (hC:h.get? C=some (excClassObj nm q C N bs bm hdct sn sub ab col dd k0 k1 k2 k3 k5 newId)) (hn:h.Ns N mN) (hi:mN "__init__"=some (.ref fI)) (hfI:h.get? fI=some oI) (hfc:oI.cls=.type "function")
  (hq:∀h',Heap.MadeExcOf h h' (h.objs.size+1) (.ref C) rest→wpAny (model prog w) A (call (.ref fI) (.ref (h.objs.size+1)::rest)) (fun r s'=>r=.none∧Q (.done (.ret (.ref (h.objs.size+1)))) s') E ⟨h',g,d,t,os⟩)
  (hrest:rest.length≤sizeLine:=by size_fits):wpAny (model prog w) A (Builtin.«type.__call__» ⟨.ref C::rest,[]⟩) Q E ⟨h,g,d,t,os⟩:=by
 repeat (first | with_reducible refine wpAny_loadPart_at hC ?_ | with_reducible refine wpAny_madeBy_exc hC ?_ | wp_step)
 refine codeAny_call_builtin_code (Code.quiet_builtin _ F.quiet) (wpAny_check_new_subU F F.hasB T hC ?_);refine codeAny_exc_new_subU F F.hasB F T hC ?_ hrest;show wpAny _ _ _ _ _ _;generalize ho:({ cls:=.ref C,data:=.fields #[.ref h.objs.size,.none,.none,.none,.bool false,.none] }:Obj)=oe;have hk:∀b o,h.get? b=some o→((h.push { cls:=.type "tuple",data:=.seq rest.toArray }).push oe).get? b=some o:=fun b o e=>aa3 _ (aa3 _ e);have hC₁:=hk _ _ hC;have hn₁:=hn.keeps hk;have T₁:=T.keeps hk
 have hget:((h.push { cls:=.type "tuple",data:=.seq rest.toArray }).push oe).get? (h.objs.size+1)=some oe:=by subst ho;heap_get
 have hoc:oe.cls=.ref C:=by subst ho;rfl
 have hcC:(Value.ref C::bm).contains (.ref C)=true:=by simp
 unfold isInstance
 repeat (first | (with_reducible refine wpAny_loadPart_at hget ?_;rw [hoc]) | (with_reducible refine wpAny_isSubtype_exc hC₁ ?_;rw [hcC]) | wp_step)
 show wpAny _ _ (typeLookup (.ref C) _) _ _ _;refine wpAny_typeLookup_tail hC₁ hn₁ T₁ F.mroIs F.init.lookup ?_;rw [hi];refine wpAny_holding (wpAny_bind ?_);unfold bindSpecial;refine wpAny_bind (wpAny_typeOf (T:="function") ⟨_,hk _ _ hfI,hfc⟩ ?_);rw [if_pos (by decide)];refine wpAny_pure (wpAny_bind (wpAny_mono (hq _ ⟨hk,ai5 (ai7 _),h.objs.size,by rw [hget,←ho],ai5 (aa7 _),?_⟩) (fun r s' hr=>?_) fun _ _ x=>x))
 ·exact aa3 _ (Heap.get?_push_at rfl rfl)
 ·obtain⟨rfl,hQ⟩:=hr
  wp_walk
  exact hQ
theorem call_own{mN:Str→Option Value}{rest:List Value}{fI:Addr}{oI:Obj}{Q:Value→Shared→Prop}(F:ExcBaseFacts B newId initId bmB)(T:OwnTail h bmB bm)
  (hC:h.get? C=some (excClassObj nm q C N bs bm hdct sn sub ab col dd k0 k1 k2 k3 k5 newId)) (hn:h.Ns N mN) (hi:mN "__init__"=some (.ref fI)) (hfI:h.get? fI=some oI) (hfc:oI.cls=.type "function")
  (hq:∀h',Heap.MadeExcOf h h' (h.objs.size+1) (.ref C) rest→wpAny (model prog w) (A.under (.builtin "type.__call__" ⟨.ref C::rest,[]⟩)) (call (.ref fI) (.ref (h.objs.size+1)::rest)) (fun r s'=>r=.none∧Q (.ref (h.objs.size+1)) s') E ⟨h',g,d,t,os⟩)
  (hrest:rest.length≤sizeLine:=by size_fits):wpAny (model prog w) A (call (.ref C) rest) Q E ⟨h,g,d,t,os⟩:=by
 have f1:=tc_lookup;have f2:=tc_bind (.ref C);have hT:(⟨h,g,d,t,os⟩:Shared).TypeIs (.ref C) "type":=⟨_,hC,rfl⟩;refine wpAny_call (codeAny_of_tree ?_);show wpAny _ _ (callAny (.ref C) _) _ _ _
 repeat (any_goals (first | assumption | with_reducible refine wpAny_loadPart_at hC ?_ | wp_step))
 refine⟨rfl,?_⟩;refine codeAny_call_builtin_at (Code.quiet_builtin _ (by decide +kernel)) entry_typeCall (wpAny_check_type_call_sub hC (made (hrest:=hrest) F T hC hn hi hfI hfc fun h' hm=>?_));exact hq h' hm
end
section
variable {M:Model} {A:Around} {E:Value→Shared→Prop} {env:Env}
variable {nm q:Str} {C N:Addr} {bs bm:List Value} {hdct:Bool} {sn:List Str} {sub:List Value} {ab:Bool} {col:Option Bool} {dd:Option Addr} {k0 k1 k2 k3 k5:Option Value} {newId:String}
theorem uo{s:Shared}{x:Sem Value}{Q:Flow→Shared→Prop}(hbase:bm.contains (.type "BaseException")=true)(hh:A.handled=none)
  (h:wpAny M A x (fun v s₁=>∃e oe,v=.ref e∧s₁.heap.get? C=some (excClassObj nm q C N bs bm hdct sn sub ab col dd k0 k1 k2 k3 k5 newId)∧
   s₁.heap.get? e=some oe∧oe.cls=.ref C∧(∃vs,oe.data=.fields vs∧vs[1]?=some .none)∧E (.ref e) s₁) E s) :
  wpAny M A (raiseStmt env (some x) none) Q E s:=by
 have hcB:(Value.ref C::bm).contains (.type "BaseException")=true:=by rw [ag4,hbase,Bool.or_true]
 unfold raiseStmt;refine wpAny_bind (wpAny_mono h (fun v s₁ h₁=>?_) fun _ _ x=>x);obtain⟨e,⟨oc,od,odt,osl⟩,rfl,hC,he,hcls,⟨vs,hd,h1⟩,hE⟩:=h₁;cases hcls;cases hd;obtain⟨hp,g,d,tk,os⟩:=s₁
 repeat (first | with_reducible refine wpAny_loadPart_at he ?_ | with_reducible refine wpAny_loadPart_at hC ?_ | (with_reducible refine wpAny_isSubtype_exc hC ?_;rw [hcB]) | wp_step)
 rw [h1]
 repeat wp_step
 exact wpAny_raiseNew_none hh hE
end
section
variable {prog:Program} {w:World} {A:Around} {E:Value→Shared→Prop} {s:Shared} {env:Env}
variable {nm q:Str} {C N:Addr} {bs bm:List Value} {hdct:Bool} {sn:List Str} {sub:List Value} {ab:Bool} {col:Option Bool} {dd:Option Addr} {k0 k1 k2 k3 k5:Option Value} {newId:String}
theorem raise_of{ex:Expr}{pos:Pos}{Q:Flow→Shared→Prop}(hbm:bm.contains (.type "BaseException")=true)(hh:A.handled=none)
  (h:wpAny (model prog w) A (eval ex env) (fun v s₁=>∃e oe,v=.ref e∧s₁.heap.get? C=some (excClassObj nm q C N bs bm hdct sn sub ab col dd k0 k1 k2 k3 k5 newId)∧
   s₁.heap.get? e=some oe∧oe.cls=.ref C∧(∃vs,oe.data=.fields vs∧vs[1]?=some .none)∧E (.ref e) s₁) E s) :
  wpAny (model prog w) A (exec (.Raise (some ex) none pos) env) Q E s:=by
 rw [arm_exec_Raise];simp only [evalOpt,Option.map];exact wpAny_bind (wpAny_standAt (uo hbm hh (wpAny_bind (wpAny_mono h (fun v s₃ h₃=>wpAny_bind (wpAny_standAt (wpAny_pure h₃))) fun _ _ x=>x))))
end
section
open Builtin Builtin.ObjectAttr
variable {prog:Program} {w:World} {A:Around} {E:Value→Shared→Prop} {h:Heap} {g:Array GenState} {d:Drawn} {t:Nat} {os:OsState}
variable {nm q:Str} {C N x:Addr} {bs bm bmB:List Value} {sn:List Str} {sub:List Value} {ab:Bool} {col:Option Bool} {dd:Option Addr} {k0 k1 k2 k3 k5:Option Value} {B newId sa owner:String}
 {mN mA:Str→Option Value} {name:Str} {v:Value} {no:Str→Prop}
theorem sP{self:Value}{what:Str}{tl:List Value}(T:Tail h no bmB tl)(hb:refuseLoop self what bmB=pure ()):refuseLoop self what tl=pure ():=by
 induction T with
 | base=>exact hb
 | own _ _ _ _ ih=>rw [refuseLoop_ref];exact ih
theorem xJ{M:Model}{o:Obj}{nameV:Value}{Q:Unit→Shared→Prop}(SF:StoreFacts B bmB sa owner)(T:Tail h no bmB bm)
  (hC:h.get? C=some (excClassObj nm q C N bs bm true sn sub ab col dd k0 k1 k2 k3 k5 newId)) (hx:h.get? x=some o) (hc:o.cls=.ref C) (hq:Q () ⟨h,g,d,t,os⟩) :
  wpAny M A (checkBuiltinCall sa ⟨[.ref x,nameV,v],[]⟩) Q E ⟨h,g,d,t,os⟩:=by
 have hcB:(Value.ref C::bm).contains (.type owner)=true:=by rw [ag4,T.hasType SF.hasOwner,Bool.or_true]
 have ha:=SF.args (.ref x) nameV v;simp only [checkBuiltinCall,SF.kind,SF.split];refine wpAny_bind ?_
 ·unfold isInstance
  repeat (first | (with_reducible refine wpAny_loadPart_at hx ?_;rw [hc]) | (with_reducible refine wpAny_isSubtype_exc hC ?_;rw [hcB]) | wp_step)
  cases hsig:Manifest.signature? sa with
  | none=>exact wpAny_pure hq
  | some sig=>
   simp only [argsOk,hsig]at ha;have h2:Bind.checkArgs sa sig ⟨[.ref x,nameV,v],[]⟩=pure ():=ha;show wpAny M A (Bind.checkArgs sa sig ⟨[.ref x,nameV,v],[]⟩) Q E _;rw [h2];exact wpAny_pure hq
theorem store_first{o:Obj}{Q:Unit→Shared→Prop}(SF:StoreFacts B bmB sa owner)(T:Tail h no bmB bm)(h1:no "__setattr__")(h2:no name)
  (hC:h.get? C=some (excClassObj nm q C N bs bm true sn sub ab col dd k0 k1 k2 k3 k5 newId)) (hn:h.Ns N mN) (hns:mN "__setattr__"=none) (hna:mN name=none)
  (hB:typeLookup (.type B) name=pure none) (hx:h.get? x=some o) (hc:o.cls=.ref C) (hnc:∀c,o.data≠.cls c) (hdn:o.dict=none)
  (hq:∀h' tk',h'.get? x=some { o with dict:=some h.objs.size }→h'.Ns1 h.objs.size (fun y=>if y=name then some v else none)→(∀b ob,b≠x→h.get? b=some ob→h'.get? b=some ob)→h.objs.size < h'.objs.size→Q () ⟨h',g,d,tk',os⟩) :
  wpAny (model prog w) A (setAttr (.ref x) name v) Q E ⟨h,g,d,t,os⟩:=by
 have f3:=SF.slot.bind (.ref x);have hpass:=sP T (SF.passes (.ref x));unfold setAttr callSpecial? specialOf
 repeat (any_goals (first | assumption | (with_reducible refine wpAny_loadPart_at hx ?_;rw [hc]) | (with_reducible refine lookup h1 hC hn T SF.mro SF.slot.lookup ?_;rw [hns]) | wp_step))
 refine codeAny_call_builtin SF.slot.plain SF.entry (xJ SF T hC hx hc ?_);unfold Builtin.«object.__setattr__»
 repeat (first | rw [refuse_eq] | (rw [refuseLoop_ref,hpass]) | (with_reducible refine wpAny_loadPart_at hx ?_;rw [hc]) | with_reducible refine wpAny_mroOf_exc hC ?_ | (with_reducible refine lookup h2 hC hn T SF.mro hB ?_;rw [hna]) | wp_step)
 rw [hdn,if_neg (by simp [typeHasDict])]
 split
 ·rename_i hcd
  cases hcd
 split
 ·rename_i c hcd
  exact absurd hcd (hnc c)
 ·have hx₁:(h.push { cls:=.type "dict",data:=.dict #[] }).get? x=some o:=aa3 _ hx
  have hxs:x≠h.objs.size:=ab5 (ab2 hx);refine wpAny_bind (wpAny_alloc' ?_);refine wpAny_bind (wpAny_update' hx₁ ?_);refine wpAny_pure ?_
  have hgd:((h.push { cls:=.type "dict",data:=.dict #[] }).update x fun o=>{ cls:=o.cls,dict:=some h.objs.size,data:=o.data,slots:=o.slots }).get? h.objs.size
    = some { cls:=.type "dict",data:=.dict #[] }:=
   (Heap.get?_update_ne _ _ _ _ hxs.symm).trans (Heap.get?_push_at rfl rfl)
  have hnd:((h.push { cls:=.type "dict",data:=.dict #[] }).update x fun o=>{ cls:=o.cls,dict:=some h.objs.size,data:=o.data,slots:=o.slots }).Ns h.objs.size (fun _=>none):=
   ⟨_,#[],_,hgd,rfl,fun e he=>absurd he (by simp),fun _=>rfl⟩
  show wpAny _ _ (storeInDict h.objs.size (.str name _) name v) _ _ _;unfold storeInDict newKeyGuard;refine wpAny_bind (wpAny_pure (wpAny_bind (wpAny_nsSet1 (Heap.Ns1.of_empty hnd) fun h' hn' hs=>?_)));obtain⟨oD,esD,epD,hoD,hdD,hcD⟩:=hn'.count (Within.cons name v Within.nil);refine wpAny_bind (wpAny_lookBehind hoD (by rw [hdD];exact pastItsLine_dict (ab8 hcD (by rw [ac2,af1,sizeLine_eq];omega))) ?_)
  wp_walk
  have hx':h'.get? x=some { o with dict:=some h.objs.size }:=?_;refine hq h' _ hx' hn' (fun b ob hbx hb=>?_) (ab2 hoD)
  ·exact(hs.2 b (ab5 (ab2 hb))).trans ((Heap.get?_update_ne _ _ _ _ hbx).trans (aa3 _ hb))
  ·refine(hs.2 x hxs).trans (ad8 _ hx₁ ?_)
   have hfr:=(Heap.get?_some_iff.mp hx).2;obtain⟨oc,od,odt,osl⟩:=o
   cases odt<;>first | rfl | exact hfr
end
section
open Builtin Builtin.ObjectAttr
variable {prog:Program} {w:World} {A:Around} {E:Value→Shared→Prop} {h:Heap} {g:Array GenState} {d:Drawn} {t:Nat} {os:OsState}
variable {nm q:Str} {C N a dx:Addr} {bs bm bmB:List Value} {sn:List Str} {sub:List Value} {ab:Bool} {col:Option Bool} {dd:Option Addr} {k0 k1 k2 k3 k5:Option Value} {B newId:String}
 {mN mA:Str→Option Value} {name:Str} {v:Value} {no:Str→Prop} {o:Obj} {vs:Array Value}
theorem rM{tk:Tok}{Q:Fin→Shared→Prop}(FB:ExcAttrBase B bmB)(hC:h.get? C=some (excClassObj nm q C N bs bm true sn sub ab col dd k0 k1 k2 k3 k5 newId))(hN:h.Ns N mN)(T:Tail h no bmB bm)(hno:no name)(hna:mN name=none)
  (hB:typeLookup (.type B) name=pure none) (hx:h.get? a=some o) (hc:o.cls=.ref C) (hd:o.data=.fields vs) (hdx:o.dict=some dx) (hns:h.Ns dx mA) (hv:mA name=some v) (hq:Q (.done (.ret v)) ⟨h,g,d,t,os⟩) :
  wpAny (model prog w) A (Builtin.«object.__getattribute__» ⟨[.ref a,.str name tk],[]⟩) Q E ⟨h,g,d,t,os⟩:=by
 unfold Builtin.«object.__getattribute__»
 repeat (first | (with_reducible refine wpAny_loadPart_at hx ?_;rw [hc]) | (with_reducible refine lookup hno hC hN T FB.mro hB ?_;rw [hna]) | wp_step)
 split
 ·rename_i c hcd
  rw [hd]at hcd;cases hcd
 unfold instanceDict
 repeat (first | (with_reducible refine wpAny_loadPart_at hx ?_;rw [hc]) | with_reducible refine wpAny_loadPart_at hC ?_ | wp_step)
 rw [hdx]
 repeat (first | (with_reducible refine wpAny_nsGet hns ?_;rw [hv]) | wp_step)
 exact hq
theorem rE{M:Model}{nameV:Value}{Q:Unit→Shared→Prop}(FB:ExcAttrBase B bmB)(hC:h.get? C=some (excClassObj nm q C N bs bm true sn sub ab col dd k0 k1 k2 k3 k5 newId))(T:Tail h no bmB bm)
  (hx:h.get? a=some o) (hc:o.cls=.ref C) (hq:Q () ⟨h,g,d,t,os⟩):wpAny M A (checkBuiltinCall "BaseException.__getattribute__" ⟨[.ref a,nameV],[]⟩) Q E ⟨h,g,d,t,os⟩:=by
 have hk:builtinKind "BaseException.__getattribute__"=some .slot:=by decide +kernel
 have hsplit:splitId "BaseException.__getattribute__"=some ("BaseException","__getattribute__"):=by decide +kernel
 have hcB:(Value.ref C::bm).contains (.type "BaseException")=true:=by rw [ag4,T.hasType FB.hasBase];rfl
 have ha:=F.args_bexc_ga (.ref a) nameV;simp only [checkBuiltinCall,hk,hsplit];refine wpAny_bind ?_
 ·unfold isInstance
  repeat (first | (with_reducible refine wpAny_loadPart_at hx ?_;rw [hc]) | (with_reducible refine wpAny_isSubtype_exc hC ?_;rw [hcB]) | wp_step)
  exact hq
theorem field_attr{expr:Bool}{Q:Value→Shared→Prop}(FB:ExcAttrBase B bmB)(hC:h.get? C=some (excClassObj nm q C N bs bm true sn sub ab col dd k0 k1 k2 k3 k5 newId))(hN:h.Ns N mN)(T:Tail h no bmB bm)
  (n1:no "__getattribute__") (n2:no "__getattr__") (m1:mN "__getattribute__"=none) (m2:mN "__getattr__"=none) (hno:no name) (hna:mN name=none)
  (hB:typeLookup (.type B) name=pure none) (hx:h.get? a=some o) (hc:o.cls=.ref C) (hd:o.data=.fields vs) (hdx:o.dict=some dx) (hns:h.Ns dx mA) (hv:mA name=some v) (hh:handedOut v=pure v) (hq:Q v ⟨h,g,d,t+1,os⟩) :
  wpAny (model prog w) A (getAttr (.ref a) name expr) Q E ⟨h,g,d,t,os⟩:=by
 have f3:=FB.ga.bind (.ref a)
 have hx0:(expr && onTheHeap (Value.builtin "BaseException.__getattribute__"))=false:=by cases expr<;>rfl
 have hx2:(Value.builtin "BaseException.__getattribute__" == Value.builtin "object.__getattribute__")=false:=by decide +kernel
 have hx1:(onTheHeap (Value.ref C) && Value.builtin "BaseException.__getattribute__" == Value.builtin "object.__getattribute__")=false:=by rw [hx2];rfl
 unfold getAttr getAttrBy
 repeat (any_goals (first | assumption | (with_reducible refine wpAny_loadPart_at hx ?_;rw [hc]) | (with_reducible refine lookup n1 hC hN T FB.mro FB.ga.lookup ?_;rw [m1]) | (with_reducible refine lookup n2 hC hN T FB.mro FB.noGetattr ?_;rw [m2]) | wp_step))
 refine codeAny_call_builtin FB.ga.plain F.entry_bexc_ga (rE FB hC T hx hc (rM FB hC hN T hno hna hB hx hc hd hdx hns hv ?_))
 repeat (any_goals (first | assumption | wp_step))
end
end XE
namespace L2
open PySem PySem.Spec PyProof.Rows
def XO(C d a:Addr):HO:=.ext fun h=>∃o vs,h.get? a=some o∧o.cls=.ref C∧o.dict=some d∧o.data=.fields vs
def XN(C a:Addr):HO:=.ext fun h=>∃o vs,h.get? a=some o∧o.cls=.ref C∧o.dict=none∧o.data=.fields vs∧vs[1]?=some .none
section
variable {P:Program} {w:World} {H:Hp} {h:Heap} {a C d:Addr}
theorem XO.ok(x:∃o vs,h.get? a=some o∧o.cls=.ref C∧o.dict=some d∧o.data=.fields vs):di P w H h a (XO C d a):=
 ⟨x,let ⟨o,_,e,_⟩:=x;⟨o,e⟩,fun _ _ ⟨o,vs,e,r⟩ k=>⟨o,vs,k o e,r⟩⟩
theorem XN.ok(x:∃o vs,h.get? a=some o∧o.cls=.ref C∧o.dict=none∧o.data=.fields vs∧vs[1]?=some .none):di P w H h a (XN C a):=
 ⟨x,let ⟨o,_,e,_⟩:=x;⟨o,e⟩,fun _ _ ⟨o,vs,e,r⟩ k=>⟨o,vs,k o e,r⟩⟩
theorem XO.of(x:di P w H h a (XO C d a)):∃o vs,h.get? a=some o∧o.cls=.ref C∧o.dict=some d∧o.data=.fields vs:=x.1
theorem XN.of(x:di P w H h a (XN C a)):∃o vs,h.get? a=some o∧o.cls=.ref C∧o.dict=none∧o.data=.fields vs∧vs[1]?=some .none:=x.1
end
structure fZ(X:Cx)(pins:List (Addr×Obj))(σ:St)(H:Hp)(s:Shared)(a C d:Addr)(fs:List (Str×V))(ts:List Addr):Prop where
 inv:aK X pins σ H s
 xo:H a=some (XO C d a)
 xd:H d=some (.xd fs)
 own:∀T∈ts,Bt X pins T∧H T=none∧X.s₀.heap.objs.size≤T
 out:XE.Out s.heap a (.ref C) (some d) ts
def Bu(X:Cx)(E:XK)(e:Value)(s:Shared):Prop:=∃pins σ H a C d fs ts,e=.ref a∧fZ X pins σ H s a C d fs ts∧E e (some d) H
section
variable {X:Cx} {pins:List (Addr×Obj)} {σ:St} {H:Hp} {s:Shared} {a C d T:Addr} {fs:List (Str×V)} {ts:List Addr} {fl:Value} {h':Heap}
abbrev yk(X:Cx)(s:Shared)(a:Addr)(ts:List Addr):Heap:=PySem.W.hideAll s.heap (a::ts++mh X.stack)
theorem fZ.on(t:fZ X pins σ H s a C d fs ts):XE.On (yk X s a ts) X.stack a s.heap:=
 ⟨fun b o q=>PySem.W.of_hideAll _ q,PySem.W.hideAll_none _ (by simp),PySem.W.funFrames_hide t.inv.stack fun env he b hb=>by
  refine ab1 _ ?_
  exact aj5.mpr ⟨env,he,hb⟩⟩
theorem fZ.hid(t:fZ X pins σ H s a C d fs ts):∀T∈ts,(yk X s a ts).get? T=none:=fun T hT=>PySem.W.hideAll_none _ (by simp [hT])
theorem fZ.pass(t:fZ X pins σ H s a C d fs ts)(st:(yk X s a ts).StaysIn h')(tr:XE.Tr h' a T (.ref C) (some d) fl)(u:s.heap.UpToSlots h'):
  Un (mh X.stack) ts H H s.heap h'∧i6 X.prog X.w H h':=by
 have keepB:∀b o,s.heap.get? b=some o→b≠a→b∉ts→b∉mh X.stack→h'.get? b=some o:=fun b o q h1 h2 h3=>
  st b o (PySem.W.hideAll_get _ q (by simp only [ah1,aa6,ac1];exact fun z=>z.elim h1 fun z=>z.elim h2 h3))
 have fr:∀b o,s.heap.get? b=some o→b∈mh X.stack→∃sl,h'.get? b=some { o with slots:=sl }:=fun b o q hb=>by
  obtain⟨_,o',ho',hd⟩:=t.inv.stack.mem hb;rw [q]at ho';cases ho';exact u b o q hd
 have na:∀b,H b=none→b≠a:=fun b n z=>by rw [z,t.xo]at n;cases n
 refine⟨⟨fun b o q n hb hx=>keepB b o q (na b n) hx hb,fun b o q n hb hx=>fr b o q hb,fun b o q n _=>n,fun b o q hx=>?_,fun _ _ q=>q,fun _ _ _ q=>q,fun b ps q=>⟨#[],by rw [q];simp⟩⟩,fun b o' q=>?_⟩
 ·by_cases h1:b=a
  ·subst h1
   obtain⟨o1,_,e1,_⟩:=tr.there;exact⟨o1,e1⟩
  ·by_cases h2:b∈mh X.stack
   ·obtain⟨sl,e⟩:=fr b o q h2
    exact⟨_,e⟩
   ·exact⟨o,keepB b o q h1 hx h2⟩
 ·by_cases h1:b=a
  ·subst h1
   rw [t.xo]at q;cases q;exact XO.ok tr.there
  ·refine(t.inv.hok b o' q).stay (fun c v hc r=>keepB c v r ?_ ?_ ?_) (fun _ z=>z) fun _ _ z=>z
   ·rcases hc with rfl | hc
    ·exact h1
    ·intro z
     rw [z,t.xo]at hc;cases hc
   ·intro z
    have n:=(t.own c z).2.1;rcases hc with rfl | hc
    ·rw [n]at q;cases q
    ·rw [n]at hc;cases hc
   ·intro z
    have n:=t.inv.stkFree c z;rcases hc with rfl | hc
    ·rw [n]at q;cases q
    ·rw [n]at hc;cases hc
theorem fZ.go(t:fZ X pins σ H s a C d fs ts)(st:(yk X s a ts).StaysIn h')(tr:XE.Tr h' a T (.ref C) (some d) fl)(u:s.heap.UpToSlots h'):aK X pins σ H { s with heap:=h' }:=
 t.inv.call' (s':={ s with heap:=h' }) rfl (t.pass st tr u).1 (t.pass st tr u).2 t.inv.bare fun b hb=>⟨(t.own b hb).1.old,(t.own b hb).1.ne,(t.own b hb).1.cells,(t.own b hb).1.pin⟩
theorem aK.ownN(I:aK X pins σ H s)(hT:s.heap.objs.size≤T):Bt X pins T where
 ne:=af7 (aa5 I.lt hT)
 old:=.inr (ab8 I.sz hT)
 cells:=fun x c e=>by
  obtain⟨v,o,ho,_⟩:=I.cell x c e;exact ab5 (aa5 (ab2 ho) hT)
 pin:=fun p hp=>ab5 (aa5 (ab2 (I.pin p hp).1) hT)
end
def mD(P:Program)(w:World):rg:=fun outer H s E e s'=>∃a C d fs T H',e=.ref a∧s'.os=s.os∧AllBare s'.gens∧Un (mh outer) [] H H' s.heap s'.heap∧i6 P w H' s'.heap∧
 H' a=some (XO C d a)∧H' d=some (.xd fs)∧H' T=none∧s.heap.objs.size≤T∧XE.Tr s'.heap a T (.ref C) (some d) .none∧E e (some d) H'
theorem mD.thr{X:Cx}{pins:List (Addr×Obj)}{σ:St}{H:Hp}{s s':Shared}{E:XK}{e:Value}(I:aK X pins σ H s)(x:mD X.prog X.w X.stack H s E e s'):Bu X E e s':=by
 obtain⟨a,C,d,fs,T,H',rfl,os,bare,un,hok,ha,hd,hT,sz,tr,q⟩:=x;refine⟨pins,σ,H',a,C,d,fs,[T],rfl,⟨I.call' os un hok bare (fun b z=>nomatch z),ha,hd,fun T' hT'=>?_,(.inr ⟨T,_,rfl,tr⟩)⟩,q⟩
 obtain rfl:T'=T:=by simpa using hT'
 exact⟨I.ownN sz,hT,ab8 I.sz sz⟩
section
variable {P:Program} {w:World} {K:Frag} {mg:Str→Option Value} {base:Heap} {N:List Str} {qual:Str} {scope:Scope} {f:Addr} {cd:Value} {A:Around} {outer:List Env} {s₀:Shared} {H₀:Hp} {E:XK}
theorem gw{e:Value}{s:Shared}(t:Bu (kr (mD P w) P w K mg base N qual scope f cd A outer s₀ H₀ E) E e s):(kr (mD P w) P w K mg base N qual scope f cd A outer s₀ H₀ E).xe e s:=by
 obtain⟨pins,σ,H,a,C,d,fs,ts,rfl,t,q⟩:=t;show wpAny (model P w) (A.deeper (envOfC qual scope s₀.heap.objs.size f cd)) (leaving (envOfC qual scope s₀.heap.objs.size f cd) (.ref a)) _ _ s;refine XE.leave_out (base:=yk (kr (mD P w) P w K mg base N qual scope f cd A outer s₀ H₀ E) s a ts) t.inv.ok.frames rfl t.on t.hid t.out fun h' T hT o tr u=>?_;have I':=t.go o.1 tr u;have hok:=(t.pass o.1 tr u).2
 have sz:s₀.heap.objs.size≤T∧H T=none:=by
  rcases hT with hT | hT
  ·exact⟨(t.own T hT).2.2,(t.own T hT).2.1⟩
  ·exact⟨ab8 t.inv.sz hT,t.inv.hok.fresh hT⟩
 exact⟨a,C,d,fs,T,H,rfl,I'.os,I'.bare,I'.base,hok,t.xo,t.xd,sz.2,sz.1,tr,q⟩
theorem BK:hG (mD P w) (kr (mD P w) P w K mg base N qual scope f cd A outer s₀ H₀ E) E:=fun _ _ _ _ _ _ I c=>gw (mD.thr I c)
theorem cT.okX{x qual:Str}{st:Stmt}{f:Addr}{fd:FuncData}{N ps:List Str}{k:Nat}{sp:Sp}(F:cT K x qual st f fd)(S:ay N ps (aq st))(len:∀vs H Q E,sp vs H Q E→vs.length=ps.length)
  (hbody:∀(cdv:Value) (A:Around) (outer:List Env) (s:Shared) (H:Hp) (vs:List V) (Q:VK) (E:XK),dn k (A.deeper (envOfC qual (aq st) s.heap.objs.size f cdv))→sp vs H Q E→
   ∃t,tw (kr (mD P w) P w K mg base N qual (aq st) f cdv A outer s H E) (cO st) t∧t { nx:=fun _ H'=>Q .non H',rt:=Q } (start N vs) H):aH P w K mg base (mD P w) (k+1) f fd ps sp:=by
 obtain⟨oc,od,kV,doc,pm,an,cdv,ct,osl,rfl,lk,hcd⟩:=F.ex;exact yf lk hcd S len fun A outer s H vs Q E hr hsp=>hbody cdv A outer s H vs Q E hr hsp
end
theorem Aw{K:Frag}{h:Heap}{N:Addr}{mg:Str→Option Value}{n:Str}{v:Value}(X:K.In h)(G:h.Ns N mg)(e:nsIn K N n=some (some v)):mg n=some v:=by
 obtain⟨o,es,ep,ho,hd,_,hf⟩:=G;unfold nsIn at e
 split at e
 ·rename_i c d es' n' sl q
  have:=X _ _ q
  rw [ho]at this;cases this;cases hd
  split at e
  ·rename_i en he
   cases e;rw [←hf];unfold nsFind findBy;rw [←Array.find?_toList,he];rfl
  ·split at e<;>cases e
 ·cases e
abbrev z8:List Value:=[.type "ValueError",.type "Exception",.type "BaseException",.type "object"]
structure q9(K:Frag)(C fI:Addr)(no:List Str):Prop where
 cls:∃nm q N bs S sn sub ab col dd k0 k1 k2 k3 k5,K.lookup C=some (excClassObj nm q C N bs (.ref S::z8) true sn sub ab col dd k0 k1 k2 k3 k5 "ValueError.__new__")∧nsOkIn K N=true∧
  nsIn K N "__init__"=some (some (.ref fI))∧(∀n∈no,nsIn K N n=some none)∧
  ∃c0 ds cd sl,K.lookup S=some ⟨c0,ds,.cls cd,sl⟩∧nsOkIn K cd.ns=true∧nsIn K cd.ns "__init__"=some none∧∀n∈no,nsIn K cd.ns n=some none
 kp:keepIn K (.ref C)=true
 fn:isFn K (.ref fI)=true
structure ExH(h:Heap)(C fI:Addr)(no:List Str)(nm q:Str)(N:Addr)(bs:List Value)(S:Addr)(sn:List Str)(sub:List Value)(ab:Bool)(col:Option Bool)(dd:Option Addr)(k0 k1 k2 k3 k5:Option Value)(mN:Str→Option Value):Prop where
 c:h.get? C=some (excClassObj nm q C N bs (.ref S::z8) true sn sub ab col dd k0 k1 k2 k3 k5 "ValueError.__new__")
 n:h.Ns N mN
 i:mN "__init__"=some (.ref fI)
 o:∀n∈no,mN n=none
 t:XE.Tail h (fun n=>n="__init__"∨n∈no) z8 (.ref S::z8)
theorem q9.at{K:Frag}{C fI:Addr}{no:List Str}(x:q9 K C fI no){h:Heap}(X:K.In h):∃nm q N bs S sn sub ab col dd k0 k1 k2 k3 k5 mN,ExH h C fI no nm q N bs S sn sub ab col dd k0 k1 k2 k3 k5 mN:=by
 obtain⟨nm,q,N,bs,S,sn,sub,ab,col,dd,k0,k1,k2,k3,k5,lk,ok,ii,nn,c0,ds,cd,sl,lS,okS,iS,nS⟩:=x.cls;have hN:h.Ns N (h.nsMap N):=.of_isNs (PySem.W.isNs_of_in X ok);have hS:h.Ns cd.ns (h.nsMap cd.ns):=.of_isNs (PySem.W.isNs_of_in X okS)
 exact⟨nm,q,N,bs,S,sn,sub,ab,col,dd,k0,k1,k2,k3,k5,_,X _ _ lk,hN,Aw X hN ii,fun n hn=>PySem.W.ns_none_of X hN (nn n hn),.own (X _ _ lS) hS (fun n hn=>by
  rcases hn with rfl | hn
  ·exact PySem.W.ns_none_of X hS iS
  ·exact PySem.W.ns_none_of X hS (nS n hn)) .base⟩
def XF(C d a:Addr):HO:=.ext fun h=>∃o vs,h.get? a=some o∧o.cls=.ref C∧o.dict=some d∧o.data=.fields vs∧vs[1]?=some .none
section
variable {P:Program} {w:World} {H:Hp} {h:Heap} {a C d:Addr}
theorem XF.ok(x:∃o vs,h.get? a=some o∧o.cls=.ref C∧o.dict=some d∧o.data=.fields vs∧vs[1]?=some .none):di P w H h a (XF C d a):=
 ⟨x,let ⟨o,_,e,_⟩:=x;⟨o,e⟩,fun _ _ ⟨o,vs,e,r⟩ k=>⟨o,vs,k o e,r⟩⟩
theorem XF.of(x:di P w H h a (XF C d a)):∃o vs,h.get? a=some o∧o.cls=.ref C∧o.dict=some d∧o.data=.fields vs∧vs[1]?=some .none:=x.1
end
section
variable {X:Cx} {pins:List (Addr×Obj)} {σ:St} {H:Hp} {s:Shared}
theorem aK.trackO{D:Addr}{o:HO}(I:aK X pins σ H s)(hn:H D=none)(new:di X.prog X.w (upd H D o) s.heap D o)(w:Bt X pins D):aK X pins σ (upd H D o) s:=by
 have ne:∀b o,H b=some o→b≠D:=fun b o e=>ar e hn
 refine I.step (h':=s.heap) (g':=s.gens) (d':=s.drawn) (t':=s.toks) (ch:=[D]) (fun b hb=>?_) (fun b o _ _ _ e _=>e) (fun b o _ _ _ e _=>⟨o.slots,e⟩) (fun b o hc _ n=>?_)
  (fun b o _ e=>⟨o,e⟩) (fun b xs e=>?_) (fun b o u e=>?_) (fun b ps e=>⟨#[],?_⟩) (fun _ z=>z) (fun b u e=>?_) I.bare
 ·have e:b=D:=by simpa using hb
  subst e;exact⟨w.old,w.ne,w.cells,w.pin⟩
 ·rw [ak (fun z=>hc (by simp [z]))];exact n
 ·rw [ak (ne _ _ e)];exact e
 ·rw [ak (ne _ _ e)];exact e
 ·rw [ak (ne _ _ e),e];simp
 ·by_cases hb:b=D
  ·subst hb
   rw [ag]at e;cases e;exact new
  ·rw [ak hb]at e
   exact(I.hok b u e).stay (fun c v _ q=>q) (fun c q=>by rw [ak (ne _ _ q)];exact q) fun c xs q=>by rw [ak (ne _ _ q)];exact q
variable {a C d fI:Addr} {no:List Str} {f:Str} {A:Around} {E:Value→Shared→Prop}
theorem Bl{y:V}{u:Value}{Q:Unit→Shared→Prop}(I:aK X pins σ H s)(e:H a=some (XN C a))(c:q9 X.K C fI no)(h1:("__setattr__":Str)∈no)(h2:f∈no)(hB:typeLookup (.type "ValueError") f=pure none)(ry:aN y u)
  (h:∀s' d,H d=none→d≠a→aK X pins σ (upd (upd H a (XF C d a)) d (.xd [(f,y)])) s'→Q () s'):wpAny (model X.prog X.w) A (setAttr (.ref a) f u) Q E s:=by
 obtain⟨o,vs,ea,ec,ed,ef,e1⟩:=XN.of (I.hok a _ e);obtain⟨nm,q,N,bs,S,sn,sub,ab,col,dd,k0,k1,k2,k3,k5,mN,x⟩:=c.at I.kIn;obtain⟨hp,g,dr,tk,os⟩:=s;refine XE.store_first PySem.F.store_ValueError x.t (.inr h1) (.inr h2) x.c x.n (x.o _ h1) (x.o _ h2) hB ea ec (fun c z=>by rw [ef]at z;cases z) ed fun h' tk' ha hn hk hz=>?_;have fr:hp.objs.size≤hp.objs.size:=aa7 _;have hdn:H hp.objs.size=none:=I.hok.fresh fr;have hda:hp.objs.size≠a:=af7 (ab2 ea)
 have I2:aK X pins σ (upd H a (XF C hp.objs.size a)) ⟨h',g,dr,tk',os⟩:=
  I.write (t':=tk') (x:=a) (e:=a) (by rw [e];trivial) (.inl rfl) (fun b ob hb q=>hk b ob hb q) ⟨_,ha⟩ (XF.ok ⟨_,vs,ha,ec,rfl,ef,e1⟩)
 refine h _ hp.objs.size hdn hda (I2.trackO (by rw [ak hda];exact hdn) ⟨_,hn,fun z=>?_⟩ ?_)
 ·by_cases hz:z=f
  ·subst hz
   simpa [List.lookup,kh]using ry
  ·have:(z == f)=false:=by simpa using hz
   simp [List.lookup,this,hz,kh]
 ·have w:=I.ownN (T:=hp.objs.size) fr
  exact⟨w.ne,w.old,w.cells,w.pin⟩
theorem Ai{b:Bool}{fs:List (Str×V)}{v:V}{Q:Value→Shared→Prop}(I:aK X pins σ H s)(e:H a=some (XO C d a))(ed:H d=some (.xd fs))(c:q9 X.K C fI no)(h1:("__getattribute__":Str)∈no)(h2:("__getattr__":Str)∈no)(h3:f∈no)
  (hB:typeLookup (.type "ValueError") f=pure none) (l:fs.lookup f=some v) (h:∀u s',aK X pins σ H s'→aN v u→Q u s'):wpAny (model X.prog X.w) A (getAttr (.ref a) f b) Q E s:=by
 obtain⟨o,vs,ea,ec,edi,ef⟩:=XO.of (I.hok a _ e);obtain⟨mA,hm,r⟩:=I.hok d _ ed;obtain⟨u,hu,ru⟩:=kh.some_of (v:=v) (o:=mA f) (by rw [←l];exact r f);obtain⟨nm,q,N,bs,S,sn,sub,ab,col,dd,k0,k1,k2,k3,k5,mN,x⟩:=c.at I.kIn;have I':=I.tok (s.toks+1);obtain⟨hp,g,dr,tk,os⟩:=s;exact XE.field_attr PySem.F.attrBase_ValueError x.c x.n x.t (.inr h1) (.inr h2) (x.o _ h1) (x.o _ h2) (.inr h3) (x.o _ h3) hB ea ec ef edi hm.ns hu (PySem.W.handedOut_of (pk ru)) (h u _ I' ru)
end
theorem DF{K:Frag}{f:Addr}{h:Heap}(e:isFn K (.ref f)=true)(X:K.In h):∃o,h.get? f=some o∧o.cls=.type "function":=by
 have e:(K.lookup f).map (·.cls)=some (.type "function"):=beq_iff_eq.mp e
 cases q:K.lookup f with
 | none=>rw [q]at e;cases e
 | some o=>rw [q]at e;exact⟨o,X _ _ q,Option.some.inj e⟩
def vF(C:Addr)(ta tv:TE)(f:Str):TS:=fun D σ H=>tv σ H fun y H1=>ta σ H1 fun x H2=>∃a,x=.ref a∧H2 a=some (XN C a)∧∀d,H2 d=none→d≠a→D.nx σ (upd (upd H2 a (XF C d a)) d (.xd [(f,y)]))
def BN(C:Addr)(ta:TE)(f:Str):TE:=fun σ H Q=>ta σ H fun x H1=>∃a d fs v,x=.ref a∧H1 a=some (XO C d a)∧H1 d=some (.xd fs)∧fs.lookup f=some v∧Q v H1
def lD(C:Addr)(sp:Sp)(E:XK)(t:TA):TS:=fun _ σ H=>t σ H fun vs H1=>vs.length≤sizeLine∧∀a,H1 a=none→sp (.ref a::vs) (upd H1 a (XN C a)) (fun v H2=>v=.non∧∃d fs,H2 a=some (XF C d a)∧H2 d=some (.xd fs)∧E (.ref a) (some d) (upd H2 a (XO C d a))) E0
section
variable {X:Cx} {C fI:Addr} {no:List Str} {f x:Str} {o e value:Expr} {es:List Expr} {ta tv:TE} {t:TA} {pos pos' np cpos:Pos} {k:Nat} {fd:FuncData} {ps:List Str} {sp:Sp} {E:XK}
theorem qH(c:q9 X.K C fI no)(h1:("__setattr__":Str)∈no)(h2:f∈no)(hB:typeLookup (.type "ValueError") f=pure none)(ha:PE X o ta)(hv:PE X value tv)(hs:swapsWith value (some (.Attribute o f pos')) pos.line X.env=pure false):
  PS X (.Assign [.Attribute o f pos'] value pos) (vF C ta tv f):=by
 intro pins s σ H D I h;refine plainObj_wpAny_Assign_Attribute (cZ (hv pins s σ H _ I h) fun u s1 ⟨y,H1,I1,ry,q⟩=>cZ (ha pins s1 σ H1 _ I1 q) fun ov s2 ⟨x,H2,I2,rx,a,ex,ea,q2⟩=>?_) hs;subst ex;obtain rfl:ov=Value.ref a:=rx;exact Bl I2 ea c h1 h2 hB ry fun s3 d hd hda I3=>⟨σ,_,I3,q2 d hd hda⟩
theorem AQ(c:q9 X.K C fI no)(h1:("__getattribute__":Str)∈no)(h2:("__getattr__":Str)∈no)(h3:f∈no)(hB:typeLookup (.type "ValueError") f=pure none)(he:PE X e ta)(hb:attributeBase e f X.env (eval e X.env)=eval e X.env):PE X (.Attribute e f pos) (BN C ta f):=by
 intro pins s σ H Q I h;refine vd hb (cZ (he pins s σ H _ I h) fun u s1 ⟨x,H1,I1,rx,a,d,fs,v,ex,ea,ed,l,q⟩=>?_);subst ex;obtain rfl:u=Value.ref a:=rx;exact Ai I1 ea ed c h1 h2 h3 hB l fun u' s2 I2 ru=>⟨v,H1,I2,ru,q⟩
theorem y4(hc:X.calm=true)(c:q9 X.K C fI no)(F:aH X.prog X.w X.K X.mg X.base cb k fI fd ps sp)(hr:dn (k+1) X.A)(hg:Gl X x)(hm:X.mg x=some (.ref C))(hb:dF X.K fd ps [])(hx:∀e s',Bu X E e s'→X.xe e s')
  (ha:PA X (e::es) t) (hdb:(x == ("__debug__":Str))=false:=by decide) (he:starEach (e::es) X.env=(false,eval e X.env)::starEach es X.env:=by rfl) (hpl:(backTo cpos (starEach es X.env)).any (·.1)=false:=by rfl) :
  PS X (.Raise (some (.Call (.Name x np) (e::es) [] cpos)) none pos) (lD C sp E t):=by
 intro pins s σ H D I h;obtain⟨nm,q,N,bs,S,sn,sub,ab,col,dd,k0,k1,k2,k3,k5,lk,_⟩:=c.cls;refine XE.raise_of (C:=C) (nm:=nm) (q:=q) (N:=N) (bs:=bs) (bm:=.ref S::z8) (hdct:=true) (sn:=sn) (sub:=sub) (ab:=ab) (col:=col) (dd:=dd) (k0:=k0) (k1:=k1) (k2:=k2) (k3:=k3) (k5:=k5) (newId:="ValueError.__new__") (by rfl) (I.ok.hd hc) ?_;refine wpAny_Call_Name_kw (iL I hg hm ?_ hdb);refine callWith_K (h₀:=X.base) I.ok.mod.kin c.kp (cZ (ha cpos pins s σ H _ I h) fun us s1 ⟨vs,H1,I1,r,hz,q⟩=>⟨I1.kIn,?_⟩) he hpl;obtain⟨nm',q',N',bs',S',sn',sub',ab',col',dd',k0',k1',k2',k3',k5',mN,x1⟩:=c.at I1.kIn;have T1:OwnTail s1.heap z8 (.ref S'::z8):=x1.t.ot (.inl rfl)
 have fnI:∃oI,s1.heap.get? fI=some oI∧oI.cls=.type "function":=by
  exact DF c.fn I1.kIn
 obtain⟨oI,hfI,hfc⟩:=fnI;obtain⟨hp,g,dr,tk,os⟩:=s1;show wpAny _ _ (call (.ref C) us) _ _ _;refine XE.call_own PySem.F.excBase_ValueError T1 x1.c x1.n x1.i hfI hfc (fun h' hm=>?_) (by rw [←r.length];exact hz);have hsz:hp.objs.size≤hp.objs.size+1:=ai7 _;have hq:=q (hp.objs.size+1) (I1.hok.fresh hsz)
 have I2:aK X pins σ (upd H1 (hp.objs.size+1) (XN C (hp.objs.size+1))) ⟨h',g,dr,tk,os⟩:=by
  refine I1.laid (t':=tk) (fun b o q=>hm.keeps b o q) hsz (XN.ok ?_);obtain⟨t,ht,_⟩:=hm.there;exact⟨_,_,ht,rfl,rfl,rfl,rfl⟩
 have r2:aV (V.ref (hp.objs.size+1)::vs) (Value.ref (hp.objs.size+1)::us):=.cons rfl r
 have hl:(Value.ref (hp.objs.size+1)::us++[]).length=ps.length:=by
  rw [af2,←r2.length];exact F.len _ _ _ _ hq
 refine wpAny_call (codeAny_mono (F.run _ X.stack _ _ ⟨Value.ref (hp.objs.size+1)::us,[]⟩ (Value.ref (hp.objs.size+1)::us) _ _ E0 (hr.make C us []) (I2.env0.make C us []) (by
  have:=hb _ (Value.ref (hp.objs.size+1)::us) I2.kIn hl
  simpa using this) r2 hq) fun r' s' hq'=>?_)
 cases r' with
 | error e=>exact hq'.elim
 | ok fl=>
  cases fl with
  | ret u=>
   obtain⟨v,H',I3,rv,ev,d,fs,ha',hd',hE⟩:=I2.after hq';subst ev;obtain⟨oe,vs',he1,he2,he3,he4,he5⟩:=XF.of (I3.hok _ _ ha');refine⟨rv,_,oe,rfl,I3.kIn _ _ lk,he1,he2,⟨vs',he4,he5⟩,hx _ _ ?_⟩
   have hda:d≠hp.objs.size+1:=fun z=>by rw [z,ha']at hd';cases hd'
   refine⟨pins,σ,upd H' (hp.objs.size+1) (XO C d (hp.objs.size+1)),_,C,d,fs,[],rfl,⟨?_,ag,by rw [ak hda];exact hd',fun _ z=>(nomatch z),(.inl ⟨rfl,oe,vs',he1,⟨he2,he3⟩,he4,he5⟩)⟩,hE⟩;exact I3.write (t':=s'.toks) (h':=s'.heap) (x:=hp.objs.size+1) (e:=hp.objs.size+1) (by rw [ha'];trivial) (.inl rfl) (fun b u _ q=>q) ⟨_,he1⟩ (XO.ok ⟨oe,vs',he1,he2,he3,he4⟩)
  | next=>exact False.elim hq'
  | brk=>exact False.elim hq'
  | cont=>exact False.elim hq'
end
end L2
namespace L2
open PySem PySem.Spec PyProof.Rows
section
variable {X:Cx} {scope:Scope} {own:List Str} {js:List Nat} {tg iter elt:Expr} {ifs:List Expr} {wi:TI} {g:TG} {tt:TT} {te:TE} {pos:Pos}
theorem rG{pins:List (Addr×Obj)}{σ:St}{H2:Hp}{s2:Shared}{it:Addr}{fp:List Addr}{tn:Nat→Heap→Prop}{J:It}{F:List V→Hp→Prop}{RR:Value→Addr→Result→Shared→Prop}{E:Value→Shared→Prop}{EX:XK}
  (hst:X.stack=X.env::X.outer) {L:Addr} (hfr:X.env.frame=some L) (hc:X.calm=true) (ok:bG X scope js)
  (hg:∀C s H ex pn,PG (gb X scope own js C s H ex pn fW) tg g) (ht:∀C s H ex pn,B4 (gb X scope own js C s H ex pn fW) ifs tt) (he:∀C s H ex pn,PE (gb X scope own js C s H ex pn (Bu (gb X scope own js C s H ex pn fW) EX)) elt te)
  (I2:aK X pins σ H2 s2) (T:rj X.prog X.w X.K tg J fp it tn) (st2:tn 0 s2.heap) (f2:∀b∈fp,kg X pins H2 b) {W:Nat→Nat→List V→Hp→Prop} {m0:Nat} (w0:W 0 m0 [] H2)
  (turn:∀i m ys H,W i m ys H→(J.stop i H∧F ys H)∨
   (J.go i H∧ys.length < sizeLine∧∃N:List V→Hp→Prop,(∀ys' H',N ys' H'→∃m',m' < m∧W (i+1) m' ys' H')∧∀x H',J.yld i H x H'→g x (cσ own.length js σ) H' fun σ2 H2=>tt σ2 H2 fun b H3=>if b=true then te σ2 H3 fun y H4=>N (ys++[y]) H4 else N ys H3))
  (hRR:∀(D C:Addr) (s':Shared) (H':Hp) (ys:List V) (m:Str→Option Value),F ys H'→H' D=none→aK X pins σ (upd H' D (.lst ys)) s'→s'.heap.Ns C m→
   Bt X pins C→(upd H' D (.lst ys)) C=none→RR (.ref D) C (.ok .next) s')
  (hRE:∀(D C:Addr) (s':Shared) (H':Hp) (a Cc d T:Addr) (fs:List (Str×V)) (m:Str→Option Value),fZ X pins σ H' s' a Cc d fs [T]→EX (.ref a) (some d) H'→s'.heap.Ns C m→Bt X pins C→H' C=none→RR (.ref D) C (.error (.ref a)) s') :
  wpAny (model X.prog X.w) X.A (newList []) (fun acc s₃=>wpAny (model X.prog X.w) X.A (newFunctionEnv scope X.env.globals (fq X.env.cells scope.names []) [] X.env.qual none .none (some X.env)) (fun cenv s₄=>
   codeAny (model X.prog X.w) X.A (.compStart (.ListComp elt [⟨tg,iter,ifs,0⟩] scope pos) 0 (.ref it) acc { cenv with scope:=relabel scope X.env }) (RR acc cenv.locals) s₄) E s₃) E s2:=by
 refine wpAny_newObj_type (wpAny_newFunctionEnv ok.cell (by intro y hy;simp at hy) (fun h₁ hns₁ hsb₁=>?_) ok.kind);dsimp only at hns₁ hsb₁ ⊢;generalize hP:s2.heap.push { cls:=.type "list",dict:=none,data:=.seq ([]:List Value).toArray }=P2 at hns₁ hsb₁ ⊢
 have hC:P2.objs.size=s2.heap.objs.size+1:=by rw [←hP,ag9]
 have hDC:s2.heap.objs.size≠P2.objs.size:=by rw [hC];exact ab5 (af9 _)
 have hCle:s2.heap.objs.size≤P2.objs.size:=by rw [hC];exact ai7 _
 have below:∀b,b < s2.heap.objs.size→b≠P2.objs.size∧b≠s2.heap.objs.size:=fun b hb=>⟨by rw [hC];exact ab5 (ag8 hb),ab5 hb⟩;have old:∀b o,s2.heap.get? b=some o→h₁.get? b=some o:=fun b o e=>hsb₁.extBut b o (below b (ab2 e)).1 (aa3 _ (hP▸aa3 _ e));have hacc:h₁.get? s2.heap.objs.size=some { cls:=.type "list",data:=.seq ([]:List Value).toArray 0 }:=hsb₁.extBut _ _ hDC (aa3 _ (hP▸ab9 _ rfl));generalize hDe:s2.heap.objs.size=D at hacc hDC hCle hC below;generalize hCe:P2.objs.size=C at hns₁ hsb₁ hDC hCle hC below ⊢
 have fo:∀b∈fp,∃o,s2.heap.get? b=some o:=fun b hb=>let ⟨o,e,_⟩:=T.obj _ _ st2 b hb;⟨o,e⟩
 have fD:∀b∈fp,b≠D∧b≠C:=fun b hb=>by
  obtain⟨o,e⟩:=fo b hb
  have:=below b (hDe▸ab2 e)
  exact⟨this.2,this.1⟩
 have H2C:H2 C=none:=I2.hok.fresh (by rw [hDe];exact hCle);have H2D:H2 D=none:=I2.hok.fresh (by rw [hDe];exact aa7 _)
 have stkD:D∉mh X.stack:=fun z=>by
  have h1:=I2.nofs (a:=D) (by rw [hDe];exact aa7 _);rcases aa6.mp (I2.stkSub _ z)with q | q
  ·have:=I2.lt
   rw [←q,hDe]at this;exact af5 _ this
  ·exact h1 q
 have neLoc:D≠X.env.locals∧C≠X.env.locals:=by
  have h1:=I2.lt;rw [hDe]at h1;exact⟨af7 h1,af7 (aa5 h1 hCle)⟩
 have cellLt:∀x c,X.env.cells.lookup x=some c→c < D:=fun x c e=>by
  obtain⟨v,z⟩:=I2.cell x c e;rw [←hDe];exact z.lt
 have pinLt:∀p∈X.pn++pins,p.1 < D:=fun p hp=>by rw [←hDe];exact ab2 (I2.pin p hp).1
 have hs0:X.s₀.heap.objs.size≤D:=by rw [←hDe];exact I2.sz
 have start:∀{s':Shared} {H':Hp} {m:Str→Option Value} {o:Obj},s'.os=s2.os→AllBare s'.gens→Un (mh X.stack) fp H2 H' s2.heap s'.heap→s'.heap.Ns C m→i6 X.prog X.w H' s'.heap→H' C=none→s'.heap.get? D=some o→H' D=none→(∀v,o.data≠.cell v)→
   aK (gb X scope own js C s2 H2 fp (X.pn++pins) fW) [(D,o)] (cσ own.length js σ) H' s':=fun {s' H' m o} a1 a2 a3 a4 a5 a6 a7 a8 a9=>
  rT ok I2 (by rw [hDe];exact hCle) f2 fo a1 a2 a3 a4 a5 a6 fun p hp=>by
   have e:p=(D,o):=by simpa using hp
   subst e;exact⟨a7,a8,hDC,stkD,a9⟩
 have fpC:∀{H':Hp} {o:Obj},(∀b∈fp,H' b=none)→∀b∈fp,kg (gb X scope own js C s2 H2 fp (X.pn++pins) fW) [(D,o)] H' b:=fun {H' o} hn b hb=>by
  obtain⟨_,q1,q2,q3,q4,q5⟩:=f2 b hb;refine⟨hn b hb,(fD b hb).2,fun z=>?_,.inl hb,fun x c e=>q4 x c (ok.sub I2 e),fun p hp=>?_⟩
  ·rcases aa6.mp (I2.stkSub b z)with e | e
   ·exact q1 e
   ·exact q2 e
  ·rcases ac1.mp hp with h | h
   ·exact q5 p h
   ·have e:p=(D,o):=by simpa using h
    subst e;exact(fD b hb).1.symm
 have nocell:∀(its:Array Value) (n:Nat) (v:Option Value),({ cls:=.type "list",data:=.seq its n }:Obj).data≠.cell v:=fun _ _ _ z=>by cases z
 have loop:∀s₃:Shared,s₃={ s2 with heap:=h₁,toks:=s2.toks+([]:List (Str×Value)).length }→
   codeAny (model X.prog X.w) X.A (.compLoop (.ListComp elt [⟨tg,iter,ifs,0⟩] scope pos) 0 (.ref it) (.ref D) (compEnvC scope (fq X.env.cells scope.names []) C X.env)) (RR (.ref D) C) s₃:=by
  rintro s₃ rfl
  refine lJ (fun n s'=>∃i ys its k H',aK (gb X scope own js C s2 H2 fp (X.pn++pins) fW) [(D,{ cls:=.type "list",data:=.seq (its:List Value).toArray k })] (cσ own.length js σ) H' s'∧tn i s'.heap∧(∀b∈fp,H' b=none)∧
   W i n ys H'∧aV ys its∧ys.length≤sizeLine) ?_ m0 ⟨0,[],[],0,H2,start rfl I2.bare (Un.kept old) hns₁ (I2.hok.kept old) H2C hacc H2D (nocell _ _),T.keep _ _ _ st2 (fun b _ o e=>old b o e),fun b hb=>(f2 b hb).1,w0,.nil,ac0 _⟩
  rintro n s3 ⟨i,ys,its,k,H3,I3,st3,fr3,w3,rv,hz⟩;rcases turn i n ys H3 w3 with⟨stop,q⟩ | ⟨go,hlt,N,hN,step⟩
  ·refine wpAny_mono (T.done (gb X scope own js C s2 H2 fp (X.pn++pins) fW) rfl rfl rfl hc i _ s3 _ H3 fW I3 (fpC fr3) st3 stop) (fun r s4 ⟨hr,I4⟩=>?_) fun _ _ f=>f.elim
   subst hr;obtain⟨zD,nD,_⟩:=I4.pin (D,_) (ab1 _ ac3);obtain⟨m,hm,_⟩:=I4.loc;have I5:aK X pins σ H3 s4:=I2.call' I4.os I4.base I4.hok I4.bare fun b hb=>⟨(f2 b hb).2.2.2.1,(f2 b hb).2.1,(f2 b hb).2.2.2.2.1,(f2 b hb).2.2.2.2.2⟩;have I6:aK X pins σ (upd H3 D (.lst ys)) s4:=I5.track nD zD rv hz (.inr hs0) neLoc.1 (fun x c e=>ab5 (cellLt x c e)) fun p hp=>ab5 (pinLt p hp);have nC:H3 C=none:=I4.free;exact hRR D C s4 H3 ys m q nD I6 hm ⟨neLoc.2,.inr (ab8 hs0 hCle),fun x c e=>ab5 (aa5 (cellLt x c e) hCle),fun p hp=>ab5 (aa5 (pinLt p hp) hCle)⟩ (by rw [ak (Ne.symm hDC)];exact nC)
  ·refine wpAny_mono (T.item (gb X scope own js C s2 H2 fp (X.pn++pins) fW) rfl rfl rfl hc i _ s3 _ H3 fW I3 (fpC fr3) st3 go) (fun r s4 ⟨u,hr,h4⟩=>?_) fun _ _ f=>f.elim
   subst hr;refine wpAny_mono h4 (fun _ s5 ⟨x,H5,I5,r5,y5,st5,fr5⟩=>?_) fun _ _ f=>f.elim;have I5':=I5.pinned (fpC fr5) (T.obj _ _ st5);refine wpAny_mono (hg _ _ _ _ _ _ s5 _ H5 x u _ I5' r5 (step x H5 y5)) (fun _ s6 ⟨σ6,H6,I6,q6⟩=>?_) fun _ _ f=>f.elim;refine wpAny_mono (ht _ _ _ _ _ _ s6 σ6 H6 _ I6 q6) (fun b s7 ⟨H7,I7,q7⟩=>?_) fun _ _ f=>f.elim
   have back:∀{s8:Shared} {H8:Hp} {m':Nat} {ys':List V} {its':List Value} {k':Nat},aK (gb X scope own js C s2 H2 fp (X.pn++pins) fW) [] σ6 H8 s8→s8.heap.get? D=some { cls:=.type "list",data:=.seq its'.toArray k' }→H8 D=none→
     (∀b∈fp,∀o,s5.heap.get? b=some o→s8.heap.get? b=some o)→(∀b∈fp,H8 b=none)→W (i+1) m' ys' H8→aV ys' its'→ys'.length≤sizeLine→
     ∃i ys its k H',aK (gb X scope own js C s2 H2 fp (X.pn++pins) fW) [(D,{ cls:=.type "list",data:=.seq (its:List Value).toArray k })] (cσ own.length js σ) H' s8∧tn i s8.heap∧(∀b∈fp,H' b=none)∧W i m' ys H'∧aV ys its∧ys.length≤sizeLine:=
    fun {s8 H8 m' ys' its' k'} J zD nD kf fr w' rv' hz'=>by
     obtain⟨m,hm,_⟩:=J.loc;exact⟨i+1,ys',its',k',H8,start J.os J.bare J.base hm J.hok J.free zD nD (nocell _ _),T.keep _ _ _ st5 kf,fr,w',rv',hz'⟩
   cases b with
   | false=>
    rw [if_neg aa4];rw [if_neg aa4]at q7;obtain⟨m',hm',w'⟩:=hN _ _ q7;have pD:=I7.pin (D,_) (ab1 _ (ae6 _ ac3));refine⟨m',hm',back (I7.pins_of (pins':=[]) fun p hp=>nomatch hp) pD.1 pD.2.1 (fun b hb o e=>(I7.pin (b,o) (ab1 _ (ab1 _ (cW hb e)))).1) (fun b hb=>?_) w' rv hz⟩;obtain⟨o,e,_⟩:=T.obj _ _ st5 b hb;exact(I7.pin (b,o) (ab1 _ (ab1 _ (cW hb e)))).2.1
   | true=>
    rw [if_pos rfl];rw [if_pos rfl]at q7;refine wpAny_mono (he C s2 H2 fp (X.pn++pins) _ s7 σ6 H7 _ (I7.wish _) q7) (fun yv s8 ⟨y,H8,I8,r8,q8⟩=>?_) fun e8 s8 t8=>?_
    rotate_left
    ·obtain⟨pins',σ',H',a,Cc,d,fs,ts,rfl,tS,qE⟩:=t8
     show wpAny (model X.prog X.w) X.A (noteFrame (.ref a) (compEnvC scope (fq X.env.cells scope.names []) C X.env)) _ _ s8;rw [XE.note_same (env:=X.env) (env':=compEnvC scope (fq X.env.cells scope.names []) C X.env) rfl]
     have hA:X.A.frames=some (X.env::X.outer):=by rw [←hst];exact I2.ok.frames
     have hon:=tS.on;rw [show(gb X scope own js C s2 H2 fp (X.pn++pins) fW).stack=X.env::X.outer from hst]at hon;refine XE.note_out hA hfr hon tS.hid tS.out fun h' T hT o tr u=>?_;have I':=tS.go o.1 tr u;have IX:aK X pins σ H' { s8 with heap:=h' }:=I2.call' I'.os I'.base I'.hok I'.bare fun b hb=>⟨(f2 b hb).2.2.2.1,(f2 b hb).2.1,(f2 b hb).2.2.2.2.1,(f2 b hb).2.2.2.2.2⟩;obtain⟨m,hm,_⟩:=I'.loc
     have hTs:s2.heap.objs.size≤T∧H' T=none:=by
      rcases hT with hT | hT
      ·exact⟨(tS.own T hT).2.2,(tS.own T hT).2.1⟩
      ·exact⟨ab8 tS.inv.sz hT,tS.inv.hok.fresh hT⟩
     refine hRE D C _ H' a Cc d T fs m ⟨IX,tS.xo,tS.xd,fun T' hT'=>?_,.inr ⟨T,_,rfl,tr⟩⟩ qE hm ⟨neLoc.2,.inr (ab8 hs0 hCle),fun x c e=>ab5 (aa5 (cellLt x c e) hCle),fun p hp=>ab5 (aa5 (pinLt p hp) hCle)⟩ I'.free
     obtain rfl:T'=T:=by simpa using hT'
     exact⟨I2.ownN hTs.1,hTs.2,ab8 I2.sz hTs.1⟩
    have I8:aK (gb X scope own js C s2 H2 fp (X.pn++pins) fW) _ σ6 H8 s8:=I8.wish fW;obtain⟨m',hm',w'⟩:=hN _ _ q8;have pD:=I8.pin (D,_) (ab1 _ (ae6 _ ac3));refine append_at (hsz:=by rw [aa9,←rv.length];exact hz) pD.1 fun h9 sb9 z9=>?_;have I8':aK (gb X scope own js C s2 H2 fp (X.pn++pins) fW) [] σ6 H8 s8:=I8.pins_of fun p hp=>nomatch hp
    have I9:aK (gb X scope own js C s2 H2 fp (X.pn++pins) fW) [] σ6 H8 { s8 with heap:=h9 }:=I8'.turned (t':=s8.toks) (it:=D) (fun b o hb e=>(sb9.2 b hb).trans e) pD.2.1 hDC (.inr (by show s2.heap.objs.size≤D;rw [hDe];exact aa7 _))
     (fun x c e=>ab5 (cellLt x c (ok.sub I2 e))) fun p hp=>by
      rcases ac1.mp hp with h | h
      ·exact ab5 (pinLt p h)
      ·cases h
    refine⟨m',hm',back (its':=its++[yv]) (k':=k+1) I9 (by rw [z9];simp) pD.2.1 (fun b hb o e=>(sb9.2 b (fD b hb).1).trans (I8.pin (b,o) (ab1 _ (ab1 _ (cW hb e)))).1) (fun b hb=>?_) w' (rv.append (.cons r8 .nil)) (by simp;omega)⟩;obtain⟨o,e,_⟩:=T.obj _ _ st5 b hb;exact(I8.pin (b,o) (ab1 _ (ab1 _ (cW hb e)))).2.1
 exact codeAny_compStart_list (loop _ rfl) (T.self X.A 0 _ _ _ (T.keep _ _ _ st2 (fun b _ o e=>old b o e)) (loop _ rfl))
theorem yT{E:XK}{L:Addr}(hst:X.stack=X.env::X.outer)(hfr:X.env.frame=some L)(hx:∀e s',Bu X E e s'→X.xe e s')(hc:X.calm=true)(hi:PI X tg iter wi)(ok:bG X scope js)
  (hg:∀C s H ex pn,PG (gb X scope own js C s H ex pn fW) tg g) (ht:∀C s H ex pn,B4 (gb X scope own js C s H ex pn fW) ifs tt) (he:∀C s H ex pn,PE (gb X scope own js C s H ex pn (Bu (gb X scope own js C s H ex pn fW) E)) elt te)
  (hs:∀x,foldedSetIterable iter X.env x=pure x:=by intro _;rfl):PE X (.ListComp elt [⟨tg,iter,ifs,0⟩] scope pos) (vL own.length js wi g tt te):=by
 intro pins s σ H Q I h;rw [eval_ListComp];refine wpAny_comprehension_free (use:=none) rfl hs (f9 (ok.clos I)) ok.kind ok.names (cZ (hi pins s σ H _ I h) fun v s1 h1=>cZ h1 fun itv s2 h2=>?_);obtain⟨it,fp,tn,J,H2,e,I2,T,st2,f2,W,⟨m0,w0⟩,turn⟩:=h2;subst e;refine rG (EX:=E) (RR:=fun acc C=>compPost (model X.prog X.w) X.A X.xe none (EP X pins σ Q) acc C) hst hfr hc ok hg ht he I2 T st2 f2 w0 turn ?_ ?_
 ·intro D C s' H' ys m q nD I6 hm o nC
  exact⟨m,hm,fun h' sb=>⟨.ref D,_,o.go I6 nC sb,rfl,q D nD⟩⟩
 ·intro D C s' H' a Cc d T fs m tS qE hm o nC
  refine⟨m,hm,fun h' sb cenv _=>?_⟩;have I3:aK X pins σ H' { s' with heap:=h' }:=o.go tS.inv nC sb
  have ha:a≠C:=fun z=>by rw [←z,tS.xo]at nC;cases nC
  obtain⟨fl',tr⟩:∃fl',XE.Tr s'.heap a T (.ref Cc) (some d) fl':=by
   rcases tS.out with⟨z,_⟩ | ⟨T',fl',z,tr⟩
   ·cases z
   ·cases z;exact⟨fl',tr⟩
  have hT:T≠C:=fun z=>by
   obtain⟨oT,vs,e1,e2⟩:=tr.tb;obtain⟨o',es,ep,e3,e4,_⟩:=hm;rw [z,e3]at e1;cases e1;rw [e4]at e2;cases e2
  have tr':XE.Tr h' a T (.ref Cc) (some d) fl':=by
   obtain⟨oe,vs,oT,ts,x1,x2,x3,x4,x5,x6,x7⟩:=tr;exact⟨oe,vs,oT,ts,(sb.2 a ha).trans x1,x2,x3,x4,x5,(sb.2 T hT).trans x6,x7⟩
  have t3:fZ X pins σ H' { s' with heap:=h' } a Cc d fs [T]:=⟨I3,tS.xo,tS.xd,tS.own,.inr ⟨T,_,rfl,tr'⟩⟩;refine XE.pass_on t3.on (t3.hid T (.head _)) tr' fun h2 fl2 on2 tr2 u2=>hx _ _ ?_;exact⟨pins,σ,H',a,Cc,d,fs,[T],rfl,⟨t3.go on2.1 tr2 u2,tS.xo,tS.xd,tS.own,.inr ⟨T,_,rfl,tr2⟩⟩,qE⟩
theorem D9{E:XK}{C:Addr}{s:Shared}{H:Hp}{ex:List Addr}{pn:List (Addr×Obj)}:hG (mD X.prog X.w) (gb X scope own js C s H ex pn (Bu (gb X scope own js C s H ex pn fW) E)) E:=
 fun _ _ _ _ _ _ I c=>mD.thr (X:=gb X scope own js C s H ex pn fW) (I.wish fW) c
end
end L2
namespace L2
open PySem PySem.Spec PyProof.Rows
abbrev Cx.held(X:Cx)(e:Value)(E:Value→Shared→Prop):Cx:={ X with A:=X.A.mark (some e),calm:=false,xe:=E }
section
variable {X:Cx} {pins:List (Addr×Obj)} {σ:St} {H:Hp} {s:Shared} {e:Value} {E:Value→Shared→Prop}
theorem Cx.Ok.held(ok:X.Ok)(e:Value)(E:Value→Shared→Prop):(X.held e E).Ok:=
 ⟨ok.mod,ok.kind,ok.glob,ok.blt,ok.above,ok.inj,ok.has,ok.cab,fun z=>(nomatch z),ok.frames,ok.stk,ok.exf,ok.bs,ok.bsz,ok.noex,ok.exfs,ok.funs,ok.frf⟩
theorem aK.held(I:aK X pins σ H s)(e:Value)(E:Value→Shared→Prop):aK (X.held e E) pins σ H s:=⟨I.ok.held e E,I.os,I.bare,I.base,I.loc,I.cell,I.free,I.freeC,I.pin,I.hok,I.len⟩
theorem aK.unheld(ok:X.Ok)(I:aK (X.held e E) pins σ H s):aK X pins σ H s:=⟨ok,I.os,I.bare,I.base,I.loc,I.cell,I.free,I.freeC,I.pin,I.hok,I.len⟩
theorem wG{M:Model}{A:Around}{i:Nat}{x:Str}{pos:Pos}{Q:Unit→Shared→Prop}(I:aK X pins σ H s)(hN:X.N.Nodup)(hi:X.N[i]?=some x)(hk:X.env.scope.names.lookup x=some .local)
  (h:∀s',aK X pins (σ.set i none) H s'→Q () s'):wpAny M A (do bindName X.env x .none;unbindBehindTheSuite X.env x pos) Q E s:=by
 obtain⟨m,hn,hl⟩:=id I.loc
 have hcls:(X.env.scope.kind == .class || (X.env.scope.kind == .module && X.env.locals != X.env.globals))=false:=by rw [I.ok.kind];rfl
 have hiσ:i < σ.length:=by rw [I.len];exact(aa2.mp hi).1
 obtain⟨oL,_,_,hoL,_⟩:=id hn;refine wpAny_nameGoes_keeps hk hn hcls fun h' v hn' hs=>?_
 have tracked:i6 X.prog X.w H h':=fun b ob e=>by
  refine(I.hok b ob e).stay (fun c w' hc q=>(hs.2 c ?_).trans q) (fun _ q=>q) fun _ _ q=>q;rintro rfl;rcases hc with rfl | hc
  ·rw [I.free]at e;cases e
  ·rw [I.free]at hc;cases hc
 have low:∀b o,X.s₀.heap.get? b=some o→h'.get? b=s.heap.get? b:=fun b o e=>hs.2 b (ab5 (aa5 (ab2 e) I.ok.above));refine h _ ⟨I.ok,I.os,I.bare,⟨fun b o e n hb hx=>(low b o e).trans (I.base.keep b o e n hb hx),fun b o e n hb hx=>?_,I.base.free,fun b o e hx=>?_,I.base.tups,I.base.frzs,I.base.tbls⟩,⟨_,hn',fun j y v' e1 e2 e3=>?_⟩,fun y c e=>?_,I.free,I.freeC,fun p hp=>?_,tracked,by simpa using I.len⟩
 ·obtain⟨sl,e1⟩:=I.base.slot b o e n hb hx
  exact⟨sl,(low b o e).trans e1⟩
 ·obtain⟨o',e1⟩:=I.base.there b o e hx
  exact⟨o',(low b o e).trans e1⟩
 ·by_cases hj:j=i
  ·subst hj
   rw [ah7 hiσ]at e2;cases e2
  ·rw [ai6 (Ne.symm hj)]at e2
   obtain⟨u',r',q⟩:=hl j y v' e1 e2 e3;refine⟨u',r',?_⟩;rcases q with⟨k,e⟩ | ⟨k,c,e,z⟩
   ·refine .inl ⟨k,?_⟩
    have:y≠x:=fun e=>hj (mZ hN e1 (e▸hi))
    simp [this,e]
   ·exact .inr ⟨k,c,e,z.sameBut hs (I.cne y c e)⟩
 ·obtain⟨w',z⟩:=I.cell y c e
  exact⟨w',z.sameBut hs (I.cne y c e)⟩
 ·obtain⟨e,n,ne,nf,d⟩:=I.pin p hp
  exact⟨(hs.2 p.1 ne).trans e,n,ne,nf,d⟩
end
def vb(X:Cx)(pins:List (Addr×Obj))(σ:St)(E:XK)(e:Value)(s:Shared):Prop:=∃H a C d fs ts,e=.ref a∧fZ X pins σ H s a C d fs ts∧E e (some d) H
theorem mD.at_{X:Cx}{pins:List (Addr×Obj)}{σ:St}{H:Hp}{s s':Shared}{E:XK}{e:Value}(I:aK X pins σ H s)(x:mD X.prog X.w X.stack H s E e s'):vb X pins σ E e s':=by
 obtain⟨a,C,d,fs,T,H',rfl,os,bare,un,hok,ha,hd,hT,sz,tr,q⟩:=x;refine⟨H',a,C,d,fs,[T],rfl,⟨I.call' os un hok bare (fun b z=>nomatch z),ha,hd,fun T' hT'=>?_,.inr ⟨T,_,rfl,tr⟩⟩,q⟩
 obtain rfl:T'=T:=by simpa using hT'
 exact⟨I.ownN sz,hT,ab8 I.sz sz⟩
section
variable {X:Cx} {pins:List (Addr×Obj)} {σ:St} {H:Hp} {s:Shared} {a C d T L:Addr} {fs:List (Str×V)} {ts:List Addr} {M:Model} {A:Around} {E:Value→Shared→Prop} {Q:Unit→Shared→Prop}
theorem fZ.note(t:fZ X pins σ H s a C d fs ts)(hst:X.stack=X.env::X.outer)(hfr:X.env.frame=some L)(hA:A.frames=some X.stack)
  (h:∀h' T,fZ X pins σ H { s with heap:=h' } a C d fs [T]→Q () { s with heap:=h' }):wpAny M A (noteFrame (.ref a) X.env) Q E s:=by
 have hon:=t.on;rw [hst]at hon hA;refine XE.note_out hA hfr hon t.hid t.out fun h' T hT o tr u=>h h' T ⟨t.go o.1 tr u,t.xo,t.xd,fun T' hT'=>?_,.inr ⟨T,_,rfl,tr⟩⟩
 obtain rfl:T'=T:=by simpa using hT'
 rcases hT with hT | hT
 ·exact t.own _ hT
 ·exact⟨t.inv.ownN hT,t.inv.hok.fresh hT,ab8 t.inv.sz hT⟩
theorem fZ.tr(t:fZ X pins σ H s a C d fs [T]):∃fl,XE.Tr s.heap a T (.ref C) (some d) fl:=by
 rcases t.out with⟨z,_⟩ | ⟨T',fl',z,tr⟩
 ·cases z
 ·cases z;exact⟨fl',tr⟩
theorem fZ.land(t:fZ X pins σ H s a C d fs [T])(h:∀h',fZ X pins σ H { s with heap:=h' } a C d fs [T]→Q () { s with heap:=h' }):wpAny M A (setFlight (.ref a) none) Q E s:=by
 obtain⟨fl,tr⟩:=t.tr;exact XE.land t.on (t.hid T (.head _)) tr fun h' o tr' u=>h h' ⟨t.go o.1 tr' u,t.xo,t.xd,t.own,.inr ⟨T,_,rfl,tr'⟩⟩
end
section
variable {X:Cx} {k:Nat} {f C fI L:Addr} {fd:FuncData} {ps:List Str} {sp:Sp} {no:List Str} {x y v n r:Str} {p pos cpos np vp hpos rp rn apos spos:Pos} {e:Expr} {es:List Expr} {t:TA} {iv ie ir:Nat}
theorem Aa{pins:List (Addr×Obj)}{σ:St}{H:Hp}{s:Shared}{Q:VK}{E:XK}(F:aH X.prog X.w X.K X.mg X.base (mD X.prog X.w) k f fd ps sp)(hr:dn k X.A)(hg:Gl X x)(hm:X.mg x=some (.ref f))(hk:keepIn X.K (.ref f)=true)(hb:dF X.K fd ps [])
  (ha:PA X.nox (e::es) t) (I:aK X pins σ H s) (h:t σ H fun vs H1=>sp vs H1 Q E) (hdb:(x == ("__debug__":Str))=false) (he:starEach (e::es) X.env=(false,eval e X.env)::starEach es X.env) (hpl:(backTo pos (starEach es X.env)).any (·.1)=false) :
  wpAny (model X.prog X.w) X.A (eval (.Call (.Name x p) (e::es) [] pos) X.env) (EP X pins σ Q) (vb X pins σ E) s:=by
 refine wpAny_Call_Name_kw (iL I hg hm ?_ hdb);refine callWith_K (h₀:=X.base) I.ok.mod.kin hk (wpAny_mono (ha pos pins s σ H _ (I.wish _) h) (fun us s1 ⟨vs,H1,I1,r,q⟩=>⟨I1.kIn,?_⟩) fun _ _ z=>z.elim) he hpl;have I1:aK X pins σ H1 s1:=I1.unwish
 have hl:(us++[]).length=ps.length:=by rw [af2,←r.length];exact F.len _ _ _ _ q
 refine wpAny_call (codeAny_mono (F.run X.A X.stack s1 H1 ⟨us,[]⟩ us vs Q E hr I1.env0 (by have:=hb s1 us I1.kIn hl;simpa using this) r q) fun r s' hq=>?_)
 cases r with
 | error e=>exact mD.at_ I1 hq
 | ok fl=>
  cases fl with
  | ret u=>exact I1.after hq
  | next=>exact False.elim hq
  | brk=>exact False.elim hq
  | cont=>exact False.elim hq
end
end L2
namespace XE
open PySem
open Sem (wp)
section
variable {prog:Program} {w:World} {A:Around} {E:Value→Shared→Prop} {h:Heap} {g:Array GenState} {d:Drawn} {t:Nat} {os:OsState}
variable {nm q:Str} {C N a:Addr} {bs bm bmB:List Value} {sn:List Str} {sub:List Value} {ab:Bool} {col:Option Bool} {dd:Option Addr} {k0 k1 k2 k3 k5:Option Value} {B newId:String}
 {mN:Str→Option Value} {no:Str→Prop} {o:Obj} {vs:Array Value}
theorem vZ{R:Result→Shared→Prop}(T:Tail h no bmB bm)(hob:bmB.contains (.type "object")=true)(hC:h.get? C=some (excClassObj nm q C N bs bm true sn sub ab col dd k0 k1 k2 k3 k5 newId))
  (hx:h.get? a=some o) (hc:o.cls=.ref C) (hq:R (.ok (.ret (.ref C))) ⟨h,g,d,t,os⟩) :
  codeAny (model prog w) A (.call (.builtin "getset_descriptor.__get__") ⟨[.builtin "object.__class__",.ref a,.ref C],[]⟩) R ⟨h,g,d,t,os⟩:=by
 have hT5:(⟨h,g,d,t,os⟩:Shared).TypeIs (.builtin "object.__class__") "getset_descriptor":=F.typeOf_object_class
 have hcB:(Value.ref C::bm).contains (.type (".".intercalate ("object.__class__".cutAt '.').dropLast))=true:=by
  rw [F.owner_object_class,ag4,T.hasType hob];rfl
 refine codeAny_call_builtin F.slot_gs_get.plain F.entry_gs_get (F.slot_gs_get.check _ _ _ _ _ _ _ _ hT5 (F.args_gs_get _ _ _) ?_)
 repeat (any_goals (first | assumption | (with_reducible refine wpAny_loadPart_at hx ?_;rw [hc]) | (with_reducible refine wpAny_isSubtype_exc hC ?_;rw [hcB]) | wp_step))
 refine⟨Code.quiet_builtin _ (by decide +kernel),codeAny_builtin F.entry_object_class ?_⟩
 repeat (any_goals (first | assumption | (with_reducible refine wpAny_loadPart_at hx ?_;rw [hc]) | wp_step))
theorem rF{tk:Tok}{Q:Fin→Shared→Prop}(FB:ExcAttrBase B bmB)(T:Tail h no bmB bm)(hob:bmB.contains (.type "object")=true)(hcl:no "__class__")(hna:mN "__class__"=none)(hlk:typeLookup (.type B) "__class__"=pure (some (.builtin "object.__class__")))
  (hC:h.get? C=some (excClassObj nm q C N bs bm true sn sub ab col dd k0 k1 k2 k3 k5 newId)) (hN:h.Ns N mN) (hx:h.get? a=some o) (hc:o.cls=.ref C) (hq:Q (.done (.ret (.ref C))) ⟨h,g,d,t,os⟩) :
  wpAny (model prog w) A (Builtin.«object.__getattribute__» ⟨[.ref a,.str "__class__" tk],[]⟩) Q E ⟨h,g,d,t,os⟩:=by
 have hT5:(⟨h,g,d,t,os⟩:Shared).TypeIs (.builtin "object.__class__") "getset_descriptor":=F.typeOf_object_class;have f5:=F.typeOf_object_class;have f6:=F.slot_gs_get.lookup;have f7:=F.slot_gs_set.lookup
 repeat (any_goals (first | assumption | (with_reducible refine wpAny_loadPart_at hx ?_;rw [hc]) | (with_reducible refine lookup hcl hC hN T FB.mro hlk ?_;rw [hna]) | wp_step))
 refine vZ T hob hC hx hc ?_
 repeat (any_goals (first | assumption | wp_step))
theorem class_attr{Q:Option Value→Shared→Prop}(FB:ExcAttrBase B bmB)(T:Tail h no bmB bm)(hob:bmB.contains (.type "object")=true)(hcl:no "__class__")(hna:mN "__class__"=none)(hlk:typeLookup (.type B) "__class__"=pure (some (.builtin "object.__class__")))
  (n1:no "__getattribute__") (n2:no "__getattr__") (m1:mN "__getattribute__"=none) (m2:mN "__getattr__"=none)
  (hC:h.get? C=some (excClassObj nm q C N bs bm true sn sub ab col dd k0 k1 k2 k3 k5 newId)) (hN:h.Ns N mN) (hx:h.get? a=some o) (hc:o.cls=.ref C) (hq:Q (some (.ref C)) ⟨h,g,d,t+1,os⟩) :
  wpAny (model prog w) A (getAttr? (.ref a) "__class__") Q E ⟨h,g,d,t,os⟩:=by
 have f3:=FB.ga.bind (.ref a)
 have hx2:(Value.builtin "BaseException.__getattribute__" == Value.builtin "object.__getattribute__")=false:=by decide +kernel
 have hx0:(false && onTheHeap (Value.builtin "BaseException.__getattribute__"))=false:=rfl
 have hx1:(onTheHeap (Value.ref C) && Value.builtin "BaseException.__getattribute__" == Value.builtin "object.__getattribute__")=false:=by rw [hx2];rfl
 unfold getAttr? getAttrBy?
 repeat (any_goals (first | assumption | (with_reducible refine wpAny_loadPart_at hx ?_;rw [hc]) | (with_reducible refine lookup n1 hC hN T FB.mro FB.ga.lookup ?_;rw [m1]) | (with_reducible refine lookup n2 hC hN T FB.mro FB.noGetattr ?_;rw [m2]) | wp_step))
 refine codeAny_call_builtin FB.ga.plain F.entry_bexc_ga (rE FB hC T hx hc (rF FB T hob hcl hna hlk hC hN hx hc ?_))
 repeat (any_goals (first | assumption | wp_step))
end
end XE
namespace L2
open PySem PySem.Spec PyProof.Rows
theorem wK:typeLookup (.type "ValueError") "__class__"=pure (some (.builtin "object.__class__")):=by rw [typeLookup_type,builtinLookup_eq_fast];kernel_rfl
theorem yC{K:Frag}{C fI a:Addr}{no:List Str}(c:q9 K C fI no)(h1:("__class__":Str)∈no)(h2:("__getattribute__":Str)∈no)(h3:("__getattr__":Str)∈no):
  PySem.W.KitX K (.ref a) (.ref C) (fun h=>∃o,h.get? a=some o∧o.cls=.ref C) where
 ty:=fun M h _ p=>by
  obtain⟨o,e1,e2⟩:=p;exact e2▸(PySem.W.Looks.ld e1).andThen .now
 it:=fun M h X _=>by
  obtain⟨nm,q,N,bs,S,sn,sub,ab,col,dd,k0,k1,k2,k3,k5,mN,x⟩:=c.at X;intro A' Q' E' s' k q;unfold isType loadHead;exact wpAny_bind (wpAny_loadPart (k _ _ x.c) (wpAny_pure q))
 ne:=fun h tp dd' its n sl X ht=>by
  obtain⟨nm,q,N,bs,S,sn,sub,ab,col,dd,k0,k1,k2,k3,k5,mN,x⟩:=c.at X;refine Bool.eq_false_iff.mpr fun q=>?_;cases beq_iff_eq.mp q
  have z:=congrArg (Option.map (·.cls)) (x.c.symm.trans ht)
  exact absurd z (by simp [excClassObj])
 ca:=fun {prog w A E Q s} X p k=>by
  obtain⟨o,e1,e2⟩:=p;obtain⟨nm,q,N,bs,S,sn,sub,ab,col,dd,k0,k1,k2,k3,k5,mN,x⟩:=c.at X;obtain⟨h,g,d,t,os⟩:=s;exact XE.class_attr PySem.F.attrBase_ValueError x.t rfl (.inr h1) (x.o _ h1) wK (.inr h2) (.inr h3) (x.o _ h2) (x.o _ h3) x.c x.n e1 e2 k
def CV(K:Frag)(C:Addr):List V→Hp→VK→Prop:=fun xs H Q=>∃a d y u b,xs=[.ref a,y]∧H a=some (XO C d a)∧aN y u∧(∀u',aN y u'→u'=u)∧kitOne K (.ref C) u=some b∧Q (.bl b) H
theorem pW{X:Cx}{C fI:Addr}{no:List Str}(K:Frag)(c:q9 X.K C fI no)(h1:("__class__":Str)∈no)(h2:("__getattribute__":Str)∈no)(h3:("__getattr__":Str)∈no)(hK:X.K=K:=by rfl):cz X (.builtin "isinstance") (CV K C):=by
 subst hK;intro pins s σ H xs us Q I r h;obtain⟨a,d,y,u,b,rfl,ha,ry,uy,e,q⟩:=h;obtain⟨u1,u2,rfl,r1,r2⟩:=pL r;cases(show u1=Value.ref a from r1);cases uy u2 r2;obtain⟨o,vs,e1,e2,_⟩:=XO.of (I.hok a _ ha);exact kia_one (yC c h1 h2 h3) I.kIn ⟨o,e1,e2⟩ e (fun z=>nomatch z) fun tk=>⟨.bl b,H,I.tok _,rfl,q⟩
end L2
namespace L2
open PySem PySem.Spec PyProof.Rows
end L2
namespace L2
open PySem PySem.Spec PyProof.Rows
structure i5(P:Program)(w:World)(K:Frag)(mg:Str→Option Value)(base:Heap)(x:Str)(k:Nat)(ps:List Str)(sp:Sp):Prop where
 ex:∃(f:Addr) (fd:FuncData),aH P w K mg base (mD P w) k f fd ps sp∧mg x=some (.ref f)∧keepIn K (.ref f)=true∧dF K fd ps []
structure g9(P:Program)(w:World)(K:Frag)(mg:Str→Option Value)(base:Heap)(x:Str)(C:Addr)(k:Nat)(ps:List Str)(sp:Sp)(no:List Str):Prop where
 ex:∃(fI:Addr) (fd:FuncData),q9 K C fI no∧aH P w K mg base cb k fI fd ps sp∧mg x=some (.ref C)∧dF K fd ps []
section
variable {X:Cx} {k j:Nat} {ps qs:List Str} {sp sq:Sp} {x y v n r f:Str} {p pos cpos np vp hpos rp rn apos spos:Pos} {e o value:Expr} {es:List Expr} {ta:TE} {t:TA} {E:XK} {C L:Addr} {no:List Str} {iv ie ir:Nat}
theorem qA(d:i5 X.prog X.w X.K X.mg X.base x k ps sp)(hr:dn k X.A)(hg:Gl X x)(hx:hG (mD X.prog X.w) X E)(ha:PA X (e::es) t)(hdb:(x == ("__debug__":Str))=false:=by decide)
  (he:starEach (e::es) X.env=(false,eval e X.env)::starEach es X.env:=by rfl) (hpl:(backTo pos (starEach es X.env)).any (·.1)=false:=by rfl):PE X (.Call (.Name x p) (e::es) [] pos) (nP sp [] E t):=
 let ⟨_,_,F,hm,hk,hb⟩:=d.ex;qy F hr hg hm hk hb .nil hx ha hdb he hpl
theorem iQ(d:g9 X.prog X.w X.K X.mg X.base x C k ps sp no)(hc:X.calm=true)(hr:dn (k+1) X.A)(hg:Gl X x)(hx:∀e s',Bu X E e s'→X.xe e s')(ha:PA X (e::es) t)(hdb:(x == ("__debug__":Str))=false:=by decide)
  (he:starEach (e::es) X.env=(false,eval e X.env)::starEach es X.env:=by rfl) (hpl:(backTo cpos (starEach es X.env)).any (·.1)=false:=by rfl):PS X (.Raise (some (.Call (.Name x np) (e::es) [] cpos)) none pos) (lD C sp E t):=
 let ⟨_,_,c,F,hm,hb⟩:=d.ex;y4 hc c F hr hg hm hb hx ha hdb he hpl
theorem qB(d:g9 X.prog X.w X.K X.mg X.base x C k ps sp no)(h1:("__getattribute__":Str)∈no)(h2:("__getattr__":Str)∈no)(h3:f∈no)(hB:typeLookup (.type "ValueError") f=pure none)(he:PE X e ta)(hb:attributeBase e f X.env (eval e X.env)=eval e X.env):PE X (.Attribute e f pos) (BN C ta f):=
 let ⟨_,_,c,_⟩:=d.ex;AQ c h1 h2 h3 hB he hb
theorem bV(K:Frag)(d:g9 X.prog X.w X.K X.mg X.base x C k ps sp no)(h1:("__class__":Str)∈no)(h2:("__getattribute__":Str)∈no)(h3:("__getattr__":Str)∈no)(hK:X.K=K:=by rfl):cz X (.builtin "isinstance") (CV K C):=
 let ⟨_,_,c,_⟩:=d.ex;pW K c h1 h2 h3 hK
end
def lA(C:Addr)(f:Str):Sp:=fun vs H Q _=>∃a v,vs=[.ref a,v]∧H a=some (XN C a)∧∀d,H d=none→d≠a→Q .non (upd (upd H a (XF C d a)) d (.xd [(f,v)]))
section
variable {X:Cx}
end
end L2
namespace L2
open PySem PySem.Spec PyProof.Rows
section
variable {K:Frag} {C fI S N c:Addr} {nm q f:Str} {bs sub:List Value} {sn:List Str} {ab b:Bool} {col:Option Bool} {dd:Option Addr} {k0 k1 k2 k3 k5:Option Value} {c0:Value} {ds:Option Addr} {cd:ClassData} {sl:Array (Option Value)} {T:String}
theorem vv{cl:Value}{d:Option Addr}{es:Array DictEntry}{n:Nat}{sl:Array (Option Value)}(l:K.lookup N=some ⟨cl,d,.dict es n,sl⟩)(e:(es.toList.all fun e=>match e.key with | .str _ _=>true | _=>false)=true):nsOkIn K N=true:=by
 unfold nsOkIn;rw [l];show es.all _=true;rw [←Array.all_toList];exact e
theorem Cf(lk:K.lookup C=some (excClassObj nm q C N bs (.ref S::z8) true sn sub ab col dd k0 k1 k2 k3 k5 "ValueError.__new__"))(ok:nsOkIn K N=true)(ii:nsIn K N "__init__"=some (some (.ref fI)))
  (a1:nsIn K N "__setattr__"=some none) (a2:nsIn K N "__getattribute__"=some none) (a3:nsIn K N "__getattr__"=some none) (a4:nsIn K N "__class__"=some none) (a5:nsIn K N f=some none)
  (lS:K.lookup S=some ⟨c0,ds,.cls cd,sl⟩) (okS:nsOkIn K cd.ns=true) (iS:nsIn K cd.ns "__init__"=some none)
  (b1:nsIn K cd.ns "__setattr__"=some none) (b2:nsIn K cd.ns "__getattribute__"=some none) (b3:nsIn K cd.ns "__getattr__"=some none) (b4:nsIn K cd.ns "__class__"=some none) (b5:nsIn K cd.ns f=some none)
  (kp:keepIn K (.ref C)=true) (fn:isFn K (.ref fI)=true):q9 K C fI ["__setattr__","__getattribute__","__getattr__","__class__",f]:=
 ⟨⟨nm,q,N,bs,S,sn,sub,ab,col,dd,k0,k1,k2,k3,k5,lk,ok,ii,fun n hn=>by
   simp only [aa6,ag2,or_false]at hn
   rcases hn with rfl | rfl | rfl | rfl | rfl<;>assumption,c0,ds,cd,sl,lS,okS,iS,fun n hn=>by
   simp only [aa6,ag2,or_false]at hn
   rcases hn with rfl | rfl | rfl | rfl | rfl<;>assumption⟩,kp,fn⟩
theorem exAt_mk{cl cl':Value}{d d':Option Addr}{es es':Array DictEntry}{n n':Nat}{zl zl':Array (Option Value)}{qual:Str}{st:Stmt}{oc:Value}{od an:Option Addr}{osl:Array (Option Value)}{kV doc pm cdv ct:Value}
  (lk:K.lookup C=some (excClassObj nm q C N bs (.ref S::z8) true sn sub ab col dd k0 k1 k2 k3 k5 "ValueError.__new__")) (lN:K.lookup N=some ⟨cl,d,.dict es n,zl⟩) (eN:(es.toList.all fun e=>match e.key with | .str _ _=>true | _=>false)=true) (ii:nsIn K N "__init__"=some (some (.ref fI)))
  (a1:nsIn K N "__setattr__"=some none) (a2:nsIn K N "__getattribute__"=some none) (a3:nsIn K N "__getattr__"=some none) (a4:nsIn K N "__class__"=some none) (a5:nsIn K N f=some none)
  (lS:K.lookup S=some ⟨c0,ds,.cls cd,sl⟩) (lM:K.lookup cd.ns=some ⟨cl',d',.dict es' n',zl'⟩) (eM:(es'.toList.all fun e=>match e.key with | .str _ _=>true | _=>false)=true) (iS:nsIn K cd.ns "__init__"=some none)
  (b1:nsIn K cd.ns "__setattr__"=some none) (b2:nsIn K cd.ns "__getattribute__"=some none) (b3:nsIn K cd.ns "__getattr__"=some none) (b4:nsIn K cd.ns "__class__"=some none) (b5:nsIn K cd.ns f=some none)
  (kp:keepIn K (.ref C)=true) (fn:isFn K (.ref fI)=true)
  (l:K.lookup fI=some ⟨oc,od,.func (fnOf "__init__" qual (dC st) (cO st) (aq st) .none kV doc pm an cdv ct),osl⟩) (c:codeIn K cdv qual=true) (k:keepIn K (.ref fI)=true) :
  ∃fI fd,q9 K C fI ["__setattr__","__getattribute__","__getattr__","__class__",f]∧cT K "__init__" qual st fI fd:=
 ⟨fI,_,Cf lk (vv lN eN) ii a1 a2 a3 a4 a5 lS (vv lM eM) iS b1 b2 b3 b4 b5 kp fn,fun_mk l c k⟩
theorem kit_own{t:Value}(n:(t == .ref c)=false)(h1:PySem.W.isClsIn K c=true)(h2:PySem.W.typeIn K (.ref c)=some (.type "type"))(h3:PySem.W.subIn K t (.ref c)=some b):kitOne K t (.ref c)=some b:=by
 unfold kitOne PySem.W.kitCls;have h1:(PySem.W.clsIn K c).isSome=true:=h1;rw [n,if_neg aa4];simp only [h1,h2,beq_self_eq_true,Bool.and_self,if_true];exact h3
theorem kit_ty{t:Value}(n:(t == .type T)=false)(h1:PySem.W.kitMeta T=true)(h3:PySem.W.subIn K t (.type T)=some b):kitOne K t (.type T)=some b:=by
 unfold kitOne PySem.W.kitCls;rw [n,if_neg aa4];simp only [h1,if_true];exact h3
end
end L2
namespace L2
open PySem PySem.Spec PyProof.Rows
def TJ:=Str→L2.St→Hp→VK→Prop
def PJ(X:Cx)(es:List Expr)(t:TJ):Prop:=∀(pins:List (Addr×Obj)) (s:Shared) (σ:St) (H:Hp) (acc:Str) (Q:VK),aK X pins σ H s→t acc σ H Q→wpAny (model X.prog X.w) X.A (joinParts acc (evalEach es X.env)) (EP X pins σ Q) X.xe s
def DQ:TJ:=fun acc σ H Q=>acc.length≤sizeLine∧Q (.str acc) H
def DR(x:Str)(t:TJ):TJ:=fun acc σ H Q=>(acc++x).length≤sizeLine∧t (acc++x) σ H Q
def DM(te:TE)(t:TJ):TJ:=fun acc σ H Q=>te σ H fun v H1=>∃i,v=.int i∧i.natAbs.log2 < 1920∧(acc++aG i).length≤sizeLine∧t (acc++aG i) σ H1 Q
def Fi(t:TJ):TE:=fun σ H Q=>t Str.empty σ H Q
section
variable {X:Cx} {es:List Expr} {e e1 e2:Expr} {t:TJ} {te:TE} {pos:Pos} {x:Str}
theorem CQ:PJ X [] DQ:=fun pins s σ H acc Q I h=>PyProof.Rows.joinParts_nil ⟨.str acc,H,I.tok _,⟨_,rfl⟩,h.2⟩ h.1
theorem y2{j}(ht:PJ X es t):PJ X (.Constant (.str x) j pos::es) (DR x t):=fun pins s σ H acc Q I h=>by
 show wpAny _ _ (joinParts acc (eval (.Constant (.str x) j pos) X.env::evalEach es X.env)) _ _ s;exact PyProof.Rows.joinParts_cons (Calls.Constant_str ⟨h.1,ht pins _ σ H _ Q (I.tok _) h.2⟩)
theorem yZ(he:PE X e te)(ht:PJ X es t):PJ X (.FormattedValue e (-1) none pos::es) (DM te t):=fun pins s σ H acc Q I h=>by
 show wpAny _ _ (joinParts acc (eval (.FormattedValue e (-1) none pos) X.env::evalEach es X.env)) _ _ s;refine PyProof.Rows.joinParts_cons (PyProof.Rows.FormattedValue_plain (cZ (he pins s σ H _ I h) fun u s1 ⟨v,H1,I1,r1,i,ei,hb,hz,q⟩=>?_));subst ei;obtain⟨tk,rfl⟩:=r1;exact PyProof.Rows.formatField_int_small hb ⟨hz,ht pins _ σ H1 _ Q (I1.tok _) q⟩
theorem AR(h:PJ X (e1::e2::es) t):PE X (.JoinedStr (e1::e2::es) pos) (Fi t):=fun pins s σ H Q I q=>PyProof.Rows.JoinedStr_many (h pins s σ H Str.empty Q I q)
theorem PS.nox{st:Stmt}{t:TS}(h:PS X.nox st t):PS X st t:=fun pins s σ H D I hw=>
 wpAny_mono (h pins s σ H D (I.wish _) hw) (fun f s1 q=>SP.unwish q) fun _ _ z=>z.elim
end
end L2
namespace L2
open PySem PySem.Spec PyProof.Rows
section
variable {X:Cx} {tg:Expr}
def Ci(ta:TA):TI:=fun σ H R=>ta σ H fun vs H1=>∃i j:Int,vs=[.int i,.int j]∧R (xE i (j - i).toNat) H1
end
theorem i5.up{P:Program}{w:World}{K:Frag}{mg:Str→Option Value}{base:Heap}{x:Str}{j k:Nat}{ps:List Str}{sp:Sp}(d:i5 P w K mg base x j ps sp)(h:j≤k):i5 P w K mg base x k ps sp:=
 let ⟨f,fd,F,r⟩:=d.ex;⟨f,fd,F.mono h,r⟩
theorem g9.up{P:Program}{w:World}{K:Frag}{mg:Str→Option Value}{base:Heap}{x:Str}{C:Addr}{j k:Nat}{ps:List Str}{sp:Sp}{no:List Str}(d:g9 P w K mg base x C j ps sp no)(h:j≤k):g9 P w K mg base x C k ps sp no:=
 let ⟨f,fd,e,F,r⟩:=d.ex;⟨f,fd,e,F.mono h,r⟩
end L2
namespace L2
open PySem PySem.Spec PyProof.Rows
section
variable {P:Program} {w:World}
abbrev IsC(P:Program)(w:World)(h:Heap)(c:List Int)(a:Addr):Prop:=IsTupleKey (intKind P w) h c a
def Ck(P:Program)(w:World)(h:Heap):Option (List Int)→Value→Prop
 | none,v=>v=.none
 | some c,v=>∃a,v=.ref a∧IsC P w h c a
inductive pQ(P:Program)(w:World)(h:Heap):List (Option (List Int))→List Value→Prop
 | nil:pQ P w h [] []
 | cons {k:Option (List Int)} {v:Value} {ks:List (Option (List Int))} {vs:List Value}:Ck P w h k v→pQ P w h ks vs→pQ P w h (k::ks) (v::vs)
def Fc(P:Program)(w:World)(h:Heap)(ks:List (Option (List Int)))(a:Addr):Prop:=∃o items n,h.get? a=some o∧o.cls=.type "tuple"∧o.data=.seq items n∧pQ P w h ks items.toList
variable {h h':Heap}
theorem Fc.typeIs{s:Shared}{ks:List (Option (List Int))}{a:Addr}(x:Fc P w s.heap ks a):s.TypeIs (.ref a) "tuple":=let ⟨o,_,_,ho,hc,_⟩:=x;⟨o,ho,hc⟩
variable {A:Around} {E:Value→Shared→Prop} {s:Shared}
end
end L2
namespace L2
open PySem PySem.Spec PyProof.Rows
structure KK(P:Program)(w:World)(κ:Type)[DecidableEq κ] where
 knd:HeapKind P w κ
 at_:Hp→κ→Addr→Prop
 same:∀{H H':Hp} {k:κ} {a:Addr},au H H'→at_ H k a→at_ H' k a
 upd_:∀{H:Hp} {k:κ} {a z:Addr} {o:HO},at_ H k a→(∀vs,H z≠some (.tup vs))→at_ (upd H z o) k a
 is_:∀{H:Hp} {h:Heap} {k:κ} {a:Addr},i6 P w H h→at_ H k a→knd.is h k a
 room:∀{A:Around},A.units+2 < cLine→knd.room A.in1
def EH{κ:Type}(x:κ×Addr×V)(y:κ×Addr×Value):Prop:=x.1=y.1∧x.2.1=y.2.1∧aN x.2.2 y.2.2
section
variable {P:Program} {w:World} {κ:Type} [DecidableEq κ] (kk:KK P w κ)
def dO(d:Addr)(xs:List (κ×Addr×V)):HO:=.ext fun h=>(d == sysModules)=false∧∃o es ep ys,h.get? d=some o∧o.ExactDict∧o.data=.dict es ep∧es.toList=ys.map (entryOfKey kk.knd)∧Paired EH xs ys
structure tE(H:Hp)(d:Addr)(xs:List (κ×Addr×V)):Prop where
 ob:H d=some (dO kk d xs)
 ks:∀x∈xs,kk.at_ H x.1 x.2.1
 nd:(xs.map (·.1)).Nodup
 sz:xs.length≤100000
def EL(xs:List (κ×Addr×V))(k:κ):Option V:=(xs.find? fun x=>decide (x.1=k)).map (·.2.2)
variable {kk}
variable {X:Cx} {pins:List (Addr×Obj)} {σ:St} {H:Hp} {s:Shared} {d a:Addr} {xs:List (κ×Addr×V)} {k:κ} {A:Around} {E:Value→Shared→Prop}
variable {kk':KK X.prog X.w κ}
end
theorem yl{A:Around}{k:Nat}(hr:dn k A):A.units+2 < cLine:=ab6 (Nat.add_le_add_left (by decide:2≤64) _) hr.units
section
variable {P:Program} {w:World} {κ:Type} [DecidableEq κ] {kk:KK P w κ} {H:Hp} {d a:Addr} {xs:List (κ×Addr×V)} {k:κ} {v:V}
theorem tE.upd{z:Addr}{o:HO}(D:tE kk H d xs)(hz:d≠z)(nt:∀vs,H z≠some (.tup vs)):tE kk (upd H z o) d xs:=⟨by rw [ak hz];exact D.ob,fun x hx=>kk.upd_ (D.ks x hx) nt,D.nd,D.sz⟩
end
end L2
namespace L2
open PySem PySem.Spec PyProof.Rows
abbrev MS:=Option (List Int)×List Int
def yA(s:MS):List (Option (List Int)):=[s.1,some s.2]
def Bs(met:List MS)(xs:List (List (Option (List Int))×Addr×V)):Prop:=(∀(j:Nat) (s:MS),met[j]?=some s→EL xs (yA s)=some (.int j))∧∀k,EL xs k≠none→∃s∈met,k=yA s
theorem Bs.fresh{met:List MS}{xs:List (List (Option (List Int))×Addr×V)}{s:MS}(h:Bs met xs)(e:EL xs (yA s)=none):s∉met:=fun hs=>by
 obtain⟨j,hj⟩:=List.getElem?_of_mem hs;rw [h.1 j s hj]at e;cases e
end L2
namespace L2
open PySem PySem.Spec PyProof.Rows
section
variable {P:Program} {w:World} {A:Around} {E:Value→Shared→Prop} {it d:Addr} {es:Array DictEntry} {ep i:Nat}
end
section
variable {P:Program} {w:World} {A:Around} {E:Value→Shared→Prop} {d:Addr} {es:Array DictEntry} {ep:Nat}
end
section
variable {P:Program} {w:World} {κ:Type} [DecidableEq κ] {X:Cx}
variable {kk':KK X.prog X.w κ}
end
end L2
namespace L2
open PySem PySem.Spec PyProof.Rows
section
variable {X:Cx} {tg:Expr}
end
section
variable {P:Program} {w:World} {A:Around} {E:Value→Shared→Prop} {s:Shared} {r l:Addr} {items:Array Value}
end
section
variable {X:Cx}
end
end L2
namespace L2
open PySem PySem.Spec PyProof.Rows
end L2
namespace L2
open PySem PySem.Spec PyProof.Rows
theorem D3(K:Frag){X:Cx}{A:Around}{n:Nat}(hr:dn n A)(e:X.A=A:=by rfl)(hK:X.K=K:=by rfl):dY X (compareOp .Lt) (Eg K):=by
 subst e hK;exact CK (ab6 (Nat.le_add_right _ 2) (yl hr))
section
variable {X:Cx} {k j:Nat} {f B C fI L:Addr} {fd:FuncData} {ps qs:List Str} {sp sq:Sp} {no:List Str} {x y n r:Str} {p pos cpos np hpos rp rn apos spos:Pos} {e:Expr} {es:List Expr} {t:TA} {ie ir:Nat}
end
theorem i5.calm{P:Program}{w:World}{K:Frag}{mg:Str→Option Value}{base:Heap}{x:Str}{k:Nat}{ps:List Str}{sp sp':Sp}(d:i5 P w K mg base x k ps sp)(h:∀vs H Q E,sp' vs H Q E→sp vs H Q fun _ _ _=>False):cJ P w K mg base x k ps sp':=by
 obtain⟨f,fd,F,hm,hk,hb⟩:=d.ex;refine⟨f,fd,⟨fun vs H Q E q=>F.len vs H Q _ (h _ _ _ _ q),fun A outer s H args us vs Q E hr he hb hv hs=>codeAny_mono (F.run A outer s H args us vs Q _ hr he hb hv (h _ _ _ _ hs)) fun r s' hq=>?_⟩,hm,hk,hb⟩
 cases r with
 | error e=>
  obtain⟨a,C,d,fs,T,H',_,_,_,_,_,_,_,_,_,_,z⟩:=(show mD P w outer H s (fun _ _ _=>False) e s' from hq);exact z.elim
 | ok fl=>cases fl<;>exact hq
theorem exm_own{K:Frag}{t:Value}{c:Addr}{b:Bool}(h0:PySem.W.subIn K (.ref c) (.type "BaseException")=some true)(h1:PySem.W.isClsIn K c=true)(h2:PySem.W.typeIn K (.ref c)=some (.type "type"))(h3:PySem.W.subIn K t (.ref c)=some b):exmOne K t (.ref c)=some b:=by
 unfold exmOne PySem.W.kitCls;have h1:(PySem.W.clsIn K c).isSome=true:=h1;rw [h0];simp only [h1,h2,beq_self_eq_true,Bool.and_self,if_true];exact h3
end L2
namespace L3
open PySem PySem.Spec PyProof.Rows
section
variable {prog:Program} {w:World} {A:Around} {E:Value→Shared→Prop} {s:Shared} {e z TI TO i1 i2:Addr} {f1 f2:List Addr} {n1 n2 k:Nat} {P1 P2:Nat→Value→Prop} {S1 S2:Nat→Heap→Prop} {a b old:Value}
end
end L3
namespace L2
open PySem PySem.Spec PyProof.Rows
end L2
namespace L2
open PySem PySem.Spec PyProof.Rows
end L2
namespace L2
open PySem PySem.Spec PyProof.Rows
abbrev Ex:=VK→XK→St→Hp→Prop
abbrev TX:=e9→XK→St→Hp→Prop
def Fe(X:Cx)(e:Expr)(t:Ex):Prop:=
 ∀(pins:List (Addr×Obj)) (s:Shared) (σ:St) (H:Hp) (Q:VK) (E:XK),aK X pins σ H s→t Q E σ H→wpAny (model X.prog X.w) X.A (eval e X.env) (EP X pins σ Q) (vb X pins σ E) s
def PX(X:Cx)(st:Stmt)(t:TX):Prop:=
 ∀(pins:List (Addr×Obj)) (s:Shared) (σ:St) (H:Hp) (D:e9) (E:XK),aK X pins σ H s→t D E σ H→wpAny (model X.prog X.w) X.A (exec st X.env) (SP X pins D) (vb X pins σ E) s
section
variable {X:Cx} {k:Nat} {ps ks:List Str} {sp:Sp} {x v:Str} {p pos vp cpos:Pos} {e c:Expr} {es:List Expr} {kws:List Keyword} {t:TA} {tk:TA} {dvs:List V} {gV:List V→List V→List V} {iv:Nat}
def u6(sp:Sp)(dvs:List V)(t:TA):Ex:=fun Q E σ H=>t σ H fun vs H1=>sp (vs++dvs) H1 Q E
def Es(iv:Nat)(t:Ex):TX:=fun D E σ H=>t (fun u H2=>D.nx (σ.set iv (some u)) H2) E σ H
theorem CT{te:Ex}(hN:X.N.Nodup)(hv:X.N[iv]?=some v)(hvl:BZ X.env.scope v)(hfnv:X.fn v=true∨X.env.scope.names.lookup v=some .local)(he:Fe X e te)
  (hs1:swapsWith e (some (.Name v vp)) pos.line X.env=pure false:=by rfl):PX X (.Assign [.Name v vp] e pos) (Es iv te):=by
 intro pins s σ H D E I h;refine wpAny_Assign_Name (wpAny_mono (he pins s σ H _ E I h) (fun u s1 ⟨w,H1,I1,r1,q1⟩=>?_) fun _ _ z=>z) hs1;exact eZ I1 hN hv hvl r1 (fun s2 I2=>⟨_,H1,I2,q1⟩) hfnv
end
section
variable {X:Cx} {B C L:Addr} {y n r:Str} {pos np hpos rp rn spos:Pos} {st:Stmt} {t:TX} {ie ir:Nat}
end
end L2
namespace L2
open PySem PySem.Spec PyProof.Rows
end L2
namespace L2
open PySem PySem.Spec PyProof.Rows
section
variable {X:Cx}
end
end L2
namespace L2
open PySem PySem.Spec PyProof.Rows
end L2
namespace L2
open PySem PySem.Spec PyProof.Rows
abbrev TH:=e9→Addr→Addr→Addr→St→Hp→Prop
def PH(X:Cx)(hs:List ExceptHandler)(th:TH):Prop:=
 ∀(pins:List (Addr×Obj)) (s:Shared) (σ:St) (H:Hp) (a C C' d d':Addr) (fs:List (Str×V)) (T:Addr) (D:e9),fZ X pins σ H s a C' d' fs [T]→H a=some (XO C d a)→th D C a d σ H→wpAny (model X.prog X.w) X.A (handleBy (.ref a) X.env hs) (SP X pins D) X.xe s
def vO:TH:=fun _ _ _ _ _ _=>False
section
variable {X:Cx}
theorem CO:PH X [] vO:=fun _ _ _ _ _ _ _ _ _ _ _ _ _ _ z=>z.elim
def vm(ie:Nat)(D:e9):e9:={ nx:=fun σ' H'=>D.nx (σ'.set ie none) H',rt:=fun _ _=>False,bk:=fun _ _=>False,ct:=fun _ _=>False }
def BO(K:Frag)(ie:Nat)(B:Addr)(tb:TS)(tr:TH):TH:=fun D C a d σ H=>∃b,exmOne K (.ref C) (.ref B)=some b∧if b=true then tb (vm ie D) (σ.set ie (some (.ref a))) H else tr D C a d σ H
theorem qC{B:Addr}{ie:Nat}{y n:Str}{np hpos:Pos}{b0:Stmt}{body:List Stmt}{rest:List ExceptHandler}{tb:TS}{tr:TH}(K:Frag)(hgC:Gl X y)(hmC:∃u,X.mg y=some u∧aN (.ref B) u)(hN:X.N.Nodup)(hn:X.N[ie]?=some n)(hnl:X.env.scope.names.lookup n=some .local)
  (hb:∀a,tw (X.held (.ref a) fun _ _=>False) (b0::body) tb) (hr:PH X rest tr) (hdy:(y == ("__debug__":Str))=false:=by decide) (hK:X.K=K:=by rfl):PH X (.ExceptHandler (some (.Name y np)) (some n) (b0::body) hpos::rest) (BO K ie B tb tr):=by
 subst hK;obtain⟨uB,hmB,rB⟩:=hmC;cases(show uB=Value.ref B from rB);intro pins s σ H a C C' d d' fs T D t2 hx' ⟨b,hxm,q⟩;obtain⟨oe,vs,oe1,oe2,_,_⟩:=XO.of (t2.inv.hok a _ hx');refine wpAny_handleBy_cons (codeAny_handlers_test (Calls.Name_function_global t2.inv.ok.kind hgC (Calls.loadGlobal_global (by rw [t2.inv.ok.glob];exact t2.inv.mod.glob.keeps t2.inv.bk) hmB ?_) hdy)) (by intro q;cases q);refine(PySem.W.exm_one (M:=model X.prog X.w) t2.inv.kIn (oe2▸(PySem.W.Looks.ld oe1).andThen .now) hxm).at ?_
 cases b with
 | false=>exact hr pins _ σ H a C C' d d' fs T D t2 hx' q
 | true=>
  have q:tb (vm ie D) (σ.set ie (some (.ref a))) H:=q;refine codeAny_handlers_suite_as ?_;refine t2.land fun h3 t3=>?_;refine eZ t3.inv hN hn (.inl hnl) (v:=.ref a) rfl (fun s4 I4=>?_) (.inr hnl);refine wpAny_mono (hb a pins s4 _ H (vm ie D) (I4.held _ _) q) (fun f s5 q5=>?_) fun _ _ z=>z.elim
  cases f with
  | next=>
   obtain⟨σ5,H5,I5,q5⟩:=q5;exact wG (I5.unheld t2.inv.ok) hN hn hnl fun s7 I7=>⟨_,_,I7,q5⟩
  | brk=>obtain⟨_,_,_,z⟩:=q5;exact z.elim
  | cont=>obtain⟨_,_,_,z⟩:=q5;exact z.elim
  | ret u=>obtain⟨_,_,_,_,_,z⟩:=q5;exact z.elim
def BS(t:TX)(th:TH):TS:=fun D σ H=>t D (fun x _ H2=>∃C a d,x=.ref a∧H2 a=some (XO C d a)∧th D C a d σ H2) σ H
theorem AZ{L:Addr}{st:Stmt}{h0:ExceptHandler}{hs:List ExceptHandler}{t:TX}{th:TH}{pos:Pos}(hst:X.stack=X.env::X.outer)(hfr:X.env.frame=some L)(hb:PX X st t)(hh:PH X (h0::hs) th):PS X (.Try [st] (h0::hs) [] [] pos) (BS t th):=by
 intro pins s σ H D I h;refine wpAny_Try_except ?_;refine wpAny_execs_cons (wpAny_mono (hb pins s σ H D _ I h) (fun f s1 q1=>?_) fun e1 s1 t1=>?_)
 ·cases f with
  | next=>exact wpAny_execs_nil (wpAny_execs_nil q1)
  | brk=>exact q1
  | cont=>exact q1
  | ret u=>exact q1
 obtain⟨H2,a,C',d',fs,ts,rfl,tS,C,a',d,e',hx',qD⟩:=t1;cases e';refine tS.note hst hfr I.ok.frames fun h1 T1 t1=>?_;refine t1.land fun h2 t2=>?_;exact hh pins _ σ H2 a C C' d d' fs T1 D t2 hx' qD
theorem A4{k:Nat}{ps:List Str}{sp:Sp}{x:Str}{p cpos:Pos}{e:Expr}{es:List Expr}{t:TA}(d:i5 X.prog X.w X.K X.mg X.base x k ps sp)(hr:dn k X.A)(hg:Gl X x)(ha:PA X.nox (e::es) t)(hdb:(x == ("__debug__":Str))=false:=by decide)
  (he:starEach (e::es) X.env=(false,eval e X.env)::starEach es X.env:=by rfl) (hpl:(backTo cpos (starEach es X.env)).any (·.1)=false:=by rfl):Fe X (.Call (.Name x p) (e::es) [] cpos) (u6 sp [] t):=by
 obtain⟨f,fd,F,hm,hk,hb⟩:=d.ex;intro pins s σ H Q E I h;exact Aa (pos:=cpos) (p:=p) F hr hg hm hk hb ha I (by unfold u6 at h;simpa using h) hdb he hpl
end
end L2
namespace L2
open PySem PySem.Spec PyProof.Rows
def A7:V→List V→Hp→VK→Prop:=fun x vs H Q=>∃l bs c,x=.ref l∧vs=[.bl c]∧H l=some (.lst (List.map V.bl bs))∧Q (.int ((bs.countP fun n=>n == c:Nat):Int)) H
def Fg(c:Bool):Value→Bool
 | .bool k=>k == c
 | _=>false
theorem o9(c:Bool):∀{bs:List Bool} {us:List Value},aV (bs.map V.bl) us→us.countP (Fg c)=bs.countP fun n=>n == c
 | [],_,.nil=>rfl
 | n::ns,_,.cons r t=>by
  cases r;rw [List.countP_cons,List.countP_cons,o9 c t];rfl
theorem As{bs:List Bool}:∀{us:List Value},aV (bs.map V.bl) us→∀u∈us,∃k,u=.bool k:=by
 induction bs with
 | nil=>intro us r u hu;cases r;cases hu
 | cons n ns ih=>
  intro us r u hu
  cases r with
  | cons r t=>
   cases r;rcases aa6.mp hu with rfl | hu
   ·exact⟨_,rfl⟩
   ·exact ih t u hu
theorem wO{X:Cx}:EG X "list.count" A7:=by
 intro pins s σ H x vs v us Q I rx rv h;obtain⟨l,ns,c,rfl,rfl,hH,q⟩:=h;cases rx;obtain⟨u,rfl,ru⟩:=rv.one;cases ru;obtain⟨z,its,n,r,hl,e⟩:=I.lstM hH;refine call_meets F.slot_list_count ⟨_,e,rfl⟩ F.entry_list_count (F.args_list_count_2 _ _) (SeqAt.list_countAt l its.toArray n none #[] (.bool c) (Fg c)) ⟨e,fun y hy=>?_,?_⟩
 ·obtain⟨k,rfl⟩:=As r y (by simpa using hy)
  exact SeqAt.EqAt.bool_bool k c
 ·refine⟨.int _,H,I.tok _,⟨_,rfl⟩,?_⟩
  rw [show its.toArray.toList=its from rfl,o9 c r];exact q
end L2
namespace L2
open PySem PyProof PyProof.Rows
def BQ(i j k:Nat)(ta:TA):TS:=fun D σ H=>ta σ H fun vs H1=>∃v w z,vs=[v,w,z]∧D.nx (((σ.set k (some z)).set j (some w)).set i (some v)) H1
theorem AY{X:Cx}{pos:Pos}{i j k:Nat}{x y n:Str}{a b c:Expr}{ta:TA}{px py pn pt:Pos}{kt k2 pt2}(hc:X.calm=true)(hN:X.N.Nodup)(hi:X.N[i]?=some x)(hj:X.N[j]?=some y)(hk:X.N[k]?=some n)
  (hx:X.env.scope.names.lookup x=some .local) (hy:X.env.scope.names.lookup y=some .local) (hn:X.env.scope.names.lookup n=some .local) (ha:PA X [a,b,c] ta)
  (hw:swappedStores [.Tuple [.Name x px,.Name y py,.Name n pn] kt pt] (.Tuple [a,b,c] k2 pt2) X.env=pure (some [x,y,n]))
  (hs:swapsWithSole [.Tuple [.Name x px,.Name y py,.Name n pn] kt pt] (.Tuple [a,b,c] k2 pt2) pos.line X.env=pure false:=by rfl) :
  PS X (.Assign [.Tuple [.Name x px,.Name y py,.Name n pn] kt pt] (.Tuple [a,b,c] k2 pt2) pos) (BQ i j k ta):=by
 intro pins s σ H D I h;rw [exec_Assign_arm];refine wpAny_bind (wpAny_standAt ?_);rw [hs];refine wpAny_bind (wpAny_pure ?_);rw [if_neg (by decide)];refine wpAny_bind (Tuple_ (cZ (ha _ pins s σ H _ I h) fun us s1 ⟨vs,H1,I1,r1,q1⟩=>?_));obtain⟨v,w,z,e1,q1⟩:=q1;subst e1
 obtain⟨u1,u2,u3,rfl,rv,rw',rz⟩:∃u1 u2 u3,us=[u1,u2,u3]∧aN v u1∧aN w u2∧aN z u3:=by
  cases r1 with
  | cons p q=>
   cases q with
   | cons p' q'=>
    cases q' with
    | cons p'' q''=>
     cases q'';exact⟨_,_,_,rfl,p,p',p''⟩
 refine wpAny_newObj_type ?_ (by show 3≤sizeLine;decide);have I2:aK X pins σ H1 { s1 with heap:=s1.heap.push { cls:=.type "tuple",data:=.seq [u1,u2,u3].toArray } }:=I1.kept (t':=s1.toks) fun b o e=>aa3 _ e;rw [hw];refine wpAny_bind (wpAny_pure ?_);show wpAny (model X.prog X.w) X.A (do rule "assign.swapped-stores";let items ←unpackItems (.ref s1.heap.objs.size) 3 none;assignInOrder [fun v=>bindName X.env n v,fun v=>bindName X.env y v,fun v=>bindName X.env x v] items.reverse;pure Flow.next) _ _ _;refine wpAny_bind (wpAny_rule (wpAny_bind (unpackItems_tuple (items:=#[u1,u2,u3]) (I.ok.hd hc) (IsTup.new s1.heap _) fun h' hx'=>?_)));have I3:=I2.kept (h':=h') (t':=s1.toks) fun b o e=>hx' b o (ab5 (ab2 e)) e;show wpAny _ _ (assignInOrder [fun v=>bindName X.env n v,fun v=>bindName X.env y v,fun v=>bindName X.env x v] [u3,u2,u1] >>= fun _=>pure Flow.next) _ _ _;refine wpAny_bind (assignInOrder_cons (wpAny_bindName (eZ I3 hN hk (.inl hn) rz (fun s2 I4=>?_) (.inr hn))));refine assignInOrder_cons (wpAny_bindName (eZ I4 hN hj (.inl hy) rw' (fun s3 I5=>?_) (.inr hy)));refine assignInOrder_cons (wpAny_bindName (eZ I5 hN hi (.inl hx) rv (fun s4 I6=>assignInOrder_nil (wpAny_pure ?_)) (.inr hx)));exact⟨_,H1,I6,q1⟩
end L2
seal PySem.wpAny
namespace K24
open PySem PyProof.Rows L2
def dB(i:Nat):Stmt:=PySem.Challenge.pw_fourvoices_k24_two_scores_joined.main.body.getD i (.Pass ⟨0,0,0,0⟩)
abbrev kR:Stmt:=dB 15
theorem uA:ay ["column","voice"] ["column","voice"] (aq kR):=⟨rfl,rfl,rfl,by decide +kernel,rfl,by decide +kernel,by decide +kernel⟩
abbrev uv:Stmt:=dB 16
theorem Bk:ay ["column","first","second"] ["column","first","second"] (aq uv):=⟨rfl,rfl,rfl,by decide +kernel,rfl,by decide +kernel,by decide +kernel⟩
abbrev ur:Stmt:=dB 31
theorem Bj:ay ["before","column","voice"] ["before","column","voice"] (aq ur):=⟨rfl,rfl,rfl,by decide +kernel,rfl,by decide +kernel,by decide +kernel⟩
abbrev fh:Stmt:=bh (dB 17) 0
theorem kY:ay ["self","row"] ["self","row"] (aq fh):=⟨rfl,rfl,rfl,by decide +kernel,rfl,by decide +kernel,by decide +kernel⟩
abbrev eg:Stmt:=bh (dB 17) 1
theorem qU:ay ["self"] ["self"] (aq eg):=⟨rfl,rfl,rfl,by decide +kernel,rfl,by decide +kernel,by decide +kernel⟩
abbrev ck:Stmt:=bh (dB 17) 2
theorem oM:ay ["self"] ["self"] (aq ck):=⟨rfl,rfl,rfl,by decide +kernel,rfl,by decide +kernel,by decide +kernel⟩
abbrev qP:Stmt:=bh (dB 17) 3
theorem zU:ay ["self","memory","before","column"] ["self","memory","before","column"] (aq qP):=⟨rfl,rfl,rfl,by decide +kernel,rfl,by decide +kernel,by decide +kernel⟩
abbrev cv:Stmt:=bh (dB 17) 4
theorem nH:ay ["self","memory","last"] ["self","memory","last"] (aq cv):=⟨rfl,rfl,rfl,by decide +kernel,rfl,by decide +kernel,by decide +kernel⟩
abbrev fi:Stmt:=bh (dB 18) 0
theorem kZ:ay ["self","row","first","second","numbers"] ["self","row","first","second","numbers"] (aq fi):=⟨rfl,rfl,rfl,by decide +kernel,rfl,by decide +kernel,by decide +kernel⟩
abbrev gO:Stmt:=bh (dB 18) 1
theorem oN:ay ["self","memory","before","column"] ["self","memory","before","column"] (aq gO):=⟨rfl,rfl,rfl,by decide +kernel,rfl,by decide +kernel,by decide +kernel⟩
abbrev eK:Stmt:=bh (dB 19) 0
theorem jW:ay ["self","row","first","second","hours","numbers"] ["self","row","first","second","hours","numbers"] (aq eK):=⟨rfl,rfl,rfl,by decide +kernel,rfl,by decide +kernel,by decide +kernel⟩
abbrev gg:Stmt:=bh (dB 19) 1
theorem nF:ay ["self","memory","before","column"] ["self","memory","before","column"] (aq gg):=⟨rfl,rfl,rfl,by decide +kernel,rfl,by decide +kernel,by decide +kernel⟩
abbrev fg:Stmt:=bh (dB 32) 0
theorem kX:ay ["self","row","voice","numbers"] ["self","row","voice","numbers"] (aq fg):=⟨rfl,rfl,rfl,by decide +kernel,rfl,by decide +kernel,by decide +kernel⟩
abbrev gN:Stmt:=bh (dB 32) 1
theorem oJ:ay ["self","memory","before","column"] ["self","memory","before","column"] (aq gN):=⟨rfl,rfl,rfl,by decide +kernel,rfl,by decide +kernel,by decide +kernel⟩
abbrev eI:Stmt:=bh (dB 33) 0
theorem jT:ay ["self","row","first","second","numbers"] ["self","row","first","second","numbers"] (aq eI):=⟨rfl,rfl,rfl,by decide +kernel,rfl,by decide +kernel,by decide +kernel⟩
abbrev gd:Stmt:=bh (dB 33) 1
theorem sc_Alike_after:ay ["self","memory","before","column","now"] ["self","memory","before","column"] (aq gd):=⟨rfl,rfl,rfl,by decide +kernel,rfl,by decide +kernel,by decide +kernel⟩
abbrev fe:Stmt:=bh (dB 34) 0
theorem kU:ay ["self","row","voice","widest"] ["self","row","voice","widest"] (aq fe):=⟨rfl,rfl,rfl,by decide +kernel,rfl,by decide +kernel,by decide +kernel⟩
abbrev ip:Stmt:=bh (dB 34) 1
theorem qS:ay ["self"] ["self"] (aq ip):=⟨rfl,rfl,rfl,by decide +kernel,rfl,by decide +kernel,by decide +kernel⟩
abbrev gK:Stmt:=bh (dB 34) 2
theorem oF:ay ["self"] ["self"] (aq gK):=⟨rfl,rfl,rfl,by decide +kernel,rfl,by decide +kernel,by decide +kernel⟩
abbrev gJ:Stmt:=bh (dB 34) 3
theorem sc_Back_after:ay ["self","memory","before","column","step"] ["self","memory","before","column"] (aq gJ):=⟨rfl,rfl,rfl,by decide +kernel,rfl,by decide +kernel,by decide +kernel⟩
abbrev gf:Stmt:=bh (dB 34) 4
theorem nE:ay ["self","memory","last"] ["self","memory","last"] (aq gf):=⟨rfl,rfl,rfl,by decide +kernel,rfl,by decide +kernel,by decide +kernel⟩
abbrev ff:Stmt:=bh (dB 24) 0
theorem kW:ay ["self","row","voice","most"] ["self","row","voice","most"] (aq ff):=⟨rfl,rfl,rfl,by decide +kernel,rfl,by decide +kernel,by decide +kernel⟩
abbrev iq:Stmt:=bh (dB 24) 1
theorem qT:ay ["self"] ["self"] (aq iq):=⟨rfl,rfl,rfl,by decide +kernel,rfl,by decide +kernel,by decide +kernel⟩
abbrev gM:Stmt:=bh (dB 24) 2
theorem oH:ay ["self","memory","before","column"] ["self","memory","before","column"] (aq gM):=⟨rfl,rfl,rfl,by decide +kernel,rfl,by decide +kernel,by decide +kernel⟩
abbrev eP:Stmt:=bh (dB 25) 0
theorem jZ:ay ["self","row","voice","note","fewest","most"] ["self","row","voice","note","fewest","most"] (aq eP):=⟨rfl,rfl,rfl,by decide +kernel,rfl,by decide +kernel,by decide +kernel⟩
abbrev gP:Stmt:=bh (dB 25) 1
theorem oO:ay ["self"] ["self"] (aq gP):=⟨rfl,rfl,rfl,by decide +kernel,rfl,by decide +kernel,by decide +kernel⟩
abbrev gi:Stmt:=bh (dB 25) 2
theorem nI:ay ["self","memory","before","column"] ["self","memory","before","column"] (aq gi):=⟨rfl,rfl,rfl,by decide +kernel,rfl,by decide +kernel,by decide +kernel⟩
abbrev fJ:Stmt:=bh (dB 25) 3
theorem l7:ay ["self","memory","last"] ["self","memory","last"] (aq fJ):=⟨rfl,rfl,rfl,by decide +kernel,rfl,by decide +kernel,by decide +kernel⟩
abbrev eL:Stmt:=bh (dB 26) 0
theorem jX:ay ["self","row","turns","turn","inner"] ["self","row","turns","turn","inner"] (aq eL):=⟨rfl,rfl,rfl,by decide +kernel,rfl,by decide +kernel,by decide +kernel⟩
abbrev gL:Stmt:=bh (dB 26) 1
theorem oG:ay ["self"] ["self"] (aq gL):=⟨rfl,rfl,rfl,by decide +kernel,rfl,by decide +kernel,by decide +kernel⟩
abbrev gh:Stmt:=bh (dB 26) 2
theorem nG:ay ["self","memory","before","column"] ["self","memory","before","column"] (aq gh):=⟨rfl,rfl,rfl,by decide +kernel,rfl,by decide +kernel,by decide +kernel⟩
abbrev iu:Stmt:=dB 22
theorem sc_broken_at:ay ["rule","line","memory","before","place","column"] ["rule","line"] (aq iu):=⟨rfl,rfl,rfl,by decide +kernel,rfl,by decide +kernel,by decide +kernel⟩
abbrev iw:Stmt:=dB 38
theorem sc_is_number:ay ["word","figures"] ["word"] (aq iw):=⟨rfl,rfl,rfl,by decide +kernel,rfl,by decide +kernel,by decide +kernel⟩
abbrev gQ:Stmt:=dB 42
theorem oP:ay ["numbers","voices"] ["numbers","voices"] (aq gQ):=⟨rfl,rfl,rfl,by decide +kernel,rfl,by decide +kernel,by decide +kernel⟩
abbrev jg:Stmt:=dB 43
theorem sT:ay ["numbers","ahead"] ["numbers","ahead"] (aq jg):=⟨rfl,rfl,rfl,by decide +kernel,rfl,by decide +kernel,by decide +kernel⟩
abbrev kT:Stmt:=dB 44
theorem uC:ay ["row","numbers","voices"] ["row","numbers","voices"] (aq kT):=⟨rfl,rfl,rfl,by decide +kernel,rfl,by decide +kernel,by decide +kernel⟩
abbrev jf:Stmt:=dB 45
theorem sS:ay ["row","numbers","voices"] ["row","numbers","voices"] (aq jf):=⟨rfl,rfl,rfl,by decide +kernel,rfl,by decide +kernel,by decide +kernel⟩
abbrev kQ:Stmt:=dB 46
theorem uz:ay ["row","numbers","voices"] ["row","numbers","voices"] (aq kQ):=⟨rfl,rfl,rfl,by decide +kernel,rfl,by decide +kernel,by decide +kernel⟩
abbrev je:Stmt:=dB 47
theorem sR:ay ["row","numbers","voices"] ["row","numbers","voices"] (aq je):=⟨rfl,rfl,rfl,by decide +kernel,rfl,by decide +kernel,by decide +kernel⟩
abbrev kL:Stmt:=dB 48
theorem uw:ay ["row","numbers","voices"] ["row","numbers","voices"] (aq kL):=⟨rfl,rfl,rfl,by decide +kernel,rfl,by decide +kernel,by decide +kernel⟩
abbrev kM:Stmt:=dB 49
theorem ux:ay ["row","numbers","voices"] ["row","numbers","voices"] (aq kM):=⟨rfl,rfl,rfl,by decide +kernel,rfl,by decide +kernel,by decide +kernel⟩
abbrev jl:Stmt:=dB 50
theorem sV:ay ["row","numbers","voices"] ["row","numbers","voices"] (aq jl):=⟨rfl,rfl,rfl,by decide +kernel,rfl,by decide +kernel,by decide +kernel⟩
abbrev gW:Stmt:=dB 54
theorem sc_plain_rule:ay ["row","voices","words"] ["row","voices"] (aq gW):=⟨rfl,rfl,rfl,by decide +kernel,rfl,by decide +kernel,by decide +kernel⟩
abbrev gR:Stmt:=dB 55
theorem sc_every_rule:ay ["row","voices","words","turns","turn","inner"] ["row","voices"] (aq gR):=⟨rfl,rfl,rfl,by decide +kernel,rfl,by decide +kernel,by decide +kernel⟩
abbrev fT:Stmt:=dB 56
theorem sc_read_rule:ay ["text","voices","row","rule"] ["text","voices","row"] (aq fT):=⟨rfl,rfl,rfl,by decide +kernel,rfl,by decide +kernel,by decide +kernel⟩
abbrev bS:Stmt:=bh (dB 17) 5
theorem oK:ay ["self"] ["self"] (aq bS):=⟨rfl,rfl,rfl,by decide +kernel,rfl,by decide +kernel,by decide +kernel⟩
abbrev d8:Stmt:=bh (dB 4) 0
theorem iZ:ay ["self","weight"] ["self","weight"] (aq d8):=⟨rfl,rfl,rfl,by decide +kernel,rfl,by decide +kernel,by decide +kernel⟩
abbrev eJ:Stmt:=bh (dB 5) 0
theorem jV:ay ["self","voice"] ["self","voice"] (aq eJ):=⟨rfl,rfl,rfl,by decide +kernel,rfl,by decide +kernel,by decide +kernel⟩
abbrev d7:Stmt:=bh (dB 6) 0
theorem iY:ay ["self","many"] ["self","many"] (aq d7):=⟨rfl,rfl,rfl,by decide +kernel,rfl,by decide +kernel,by decide +kernel⟩
abbrev eO:Stmt:=bh (dB 59) 0
theorem jY:ay ["self","ranges","rules"] ["self","ranges","rules"] (aq eO):=⟨rfl,rfl,rfl,by decide +kernel,rfl,by decide +kernel,by decide +kernel⟩
abbrev nB:Stmt:=dB 60
theorem sc_weight:ay ["score","told","low","high","rule"] ["score"] (aq nB):=⟨rfl,rfl,rfl,by decide +kernel,rfl,by decide +kernel,by decide +kernel⟩
abbrev fM:Stmt:=dB 61
theorem sc_not_too_wide:ay ["score","told"] ["score"] (aq fM):=⟨rfl,rfl,rfl,by decide +kernel,rfl,by decide +kernel,by decide +kernel⟩
abbrev fk:Stmt:=dB 62
theorem sc_first_outside:ay ["low","high","voice","line","place","column"] ["low","high","voice","line"] (aq fk):=⟨rfl,rfl,rfl,by decide +kernel,rfl,by decide +kernel,by decide +kernel⟩
abbrev qQ:Stmt:=dB 63
theorem sc_fault:ay ["score","line","places"] ["score","line"] (aq qQ):=⟨rfl,rfl,rfl,by decide +kernel,rfl,by decide +kernel,by decide +kernel⟩
abbrev gp:Stmt:=dB 67
theorem sc_voice_range:ay ["row","words","bounds"] ["row"] (aq gp):=⟨rfl,rfl,rfl,by decide +kernel,rfl,by decide +kernel,by decide +kernel⟩
abbrev uu:Stmt:=dB 68
theorem sc_read:ay ["text","ranges","rules","number","row","bounds"] ["text"] (aq uu):=⟨rfl,rfl,rfl,by decide +kernel,rfl,by decide +kernel,by decide +kernel⟩
abbrev qR:Stmt:=dB 69
theorem sc_shown:ay ["score","rows"] ["score"] (aq qR):=⟨rfl,rfl,rfl,by decide +kernel,rfl,by decide +kernel,by decide +kernel⟩
abbrev fK:Stmt:=dB 71
theorem sc_common_range:ay ["one","other","voice","bounds"] ["one","other","voice"] (aq fK):=⟨rfl,rfl,rfl,by decide +kernel,rfl,by decide +kernel,by decide +kernel⟩
abbrev fj:Stmt:=dB 72
theorem lg:ay ["one","other"] ["one","other"] (aq fj):=⟨rfl,rfl,rfl,by decide +kernel,rfl,by decide +kernel,by decide +kernel⟩
abbrev nA:Stmt:=dB 73
theorem sc_joined:ay ["one","other","ranges","rules"] ["one","other"] (aq nA):=⟨rfl,rfl,rfl,by decide +kernel,rfl,by decide +kernel,by decide +kernel⟩
abbrev gn:Stmt:=dB 75
theorem sc_law_stirred:ay ["_law_cell","_law_place","_law_found","_law_rest","_law_turn","_law_upper","_law_lower"] ["_law_cell","_law_place"] (aq gn):=⟨rfl,rfl,rfl,by decide +kernel,rfl,by decide +kernel,by decide +kernel⟩
abbrev kO:Stmt:=dB 76
theorem sc_law_got:ay ["_law_script","_law_place","_law_cell","_law_power"] ["_law_script","_law_place"] (aq kO):=⟨rfl,rfl,rfl,by decide +kernel,rfl,by decide +kernel,by decide +kernel⟩
abbrev ix:Stmt:=dB 77
theorem qV:ay ["_law_script","_law_first","_law_last"] ["_law_script","_law_first","_law_last"] (aq ix):=⟨rfl,rfl,rfl,by decide +kernel,rfl,by decide +kernel,by decide +kernel⟩
abbrev gU:Stmt:=dB 78
theorem sc_law_ranges:ay ["_law_script","_law_far","_law_ones","_law_others","_law_k","_law_cell","_law_low"] ["_law_script"] (aq gU):=⟨rfl,rfl,rfl,by decide +kernel,rfl,by decide +kernel,by decide +kernel⟩
abbrev jj:Stmt:=dB 79
theorem sc_law_rule:ay ["_law_cell","_law_voices","_law_a","_law_b","_law_many","_law_some","_law_kind","_law_words"] ["_law_cell","_law_voices"] (aq jj):=⟨rfl,rfl,rfl,by decide +kernel,rfl,by decide +kernel,by decide +kernel⟩
abbrev iy:Stmt:=dB 80
theorem sc_law_rules:ay ["_law_cells_here","_law_ranges_here","_law_heavy","_law_low","_law_high","_law_found","_law_cell","_law_row","_law_size"] ["_law_cells_here","_law_ranges_here"] (aq iy):=⟨rfl,rfl,rfl,by decide +kernel,rfl,by decide +kernel,by decide +kernel⟩
abbrev jk:Stmt:=dB 81
theorem sc_law_text:ay ["_law_ranges_here","_law_rules_here","_law_rows"] ["_law_ranges_here","_law_rules_here"] (aq jk):=⟨rfl,rfl,rfl,by decide +kernel,rfl,by decide +kernel,by decide +kernel⟩
abbrev kP:Stmt:=dB 82
theorem sc_law_met:ay ["_law_ones","_law_others","_law_found","_law_k"] ["_law_ones","_law_others"] (aq kP):=⟨rfl,rfl,rfl,by decide +kernel,rfl,by decide +kernel,by decide +kernel⟩
abbrev kN:Stmt:=dB 83
theorem sc_law_due:ay ["_law_ones","_law_others","_law_rules_here","_law_heavy","_law_k","_law_pair","_law_row","_law_size"] ["_law_ones","_law_others","_law_rules_here"] (aq kN):=⟨rfl,rfl,rfl,by decide +kernel,rfl,by decide +kernel,by decide +kernel⟩
abbrev fL:Stmt:=dB 84
theorem sc_law_one_kind:ay ["_law_e","_law_found"] ["_law_e"] (aq fL):=⟨rfl,rfl,rfl,by decide +kernel,rfl,by decide +kernel,by decide +kernel⟩
abbrev gT:Stmt:=dB 85
theorem sc_law_joined:ay ["_law_one","_law_other","_law_found","_law_refusal","_law_caught","_law_number","_law_e"] ["_law_one","_law_other"] (aq gT):=⟨rfl,rfl,rfl,by decide +kernel,rfl,by decide +kernel,by decide +kernel⟩
abbrev gj:Stmt:=dB 86
theorem sc_law_earlier:ay ["_law_one","_law_other","_law_voices","_law_many"] ["_law_one","_law_other","_law_voices","_law_many"] (aq gj):=⟨rfl,rfl,rfl,by decide +kernel,rfl,by decide +kernel,by decide +kernel⟩
abbrev ji:Stmt:=dB 87
theorem sU:ay ["_law_ranges_here","_law_rules_here"] ["_law_ranges_here","_law_rules_here"] (aq ji):=⟨rfl,rfl,rfl,by decide +kernel,rfl,by decide +kernel,by decide +kernel⟩
abbrev jh:Stmt:=dB 88
theorem sc_law_line:ay ["_law_script","_law_ones","_law_line_here","_law_cell","_law_column","_law_low","_law_high","_law_note"] ["_law_script","_law_ones"] (aq jh):=⟨rfl,rfl,rfl,by decide +kernel,rfl,by decide +kernel,by decide +kernel⟩
abbrev pG:Stmt:=dB 89
theorem sc_law:ay ["_law_script","_law_ones","_law_others","_law_many","_law_first","_law_second","_law_one","_law_other","_law_found","_law_refused","_law_due_here","_law_made_here","_law_line_here","_law_told","_law_late"] ["_law_script"] (aq pG):=⟨rfl,rfl,rfl,by decide +kernel,rfl,by decide +kernel,by decide +kernel⟩
structure Txt(mg:Str→Option Value)(aM:Addr):Prop where
 n_len:mg "len"=none
 n_range:mg "range"=none
 n_all:mg "all"=none
 n_min:mg "min"=none
 n_max:mg "max"=none
 n_abs:mg "abs"=none
 n_tuple:mg "tuple"=none
 n_list:mg "list"=none
 n_isinstance:mg "isinstance"=none
 n_bool:mg "bool"=none
 n_int:mg "int"=none
 n_str:mg "str"=none
 n_divmod:mg "divmod"=none
 n_enumerate:mg "enumerate"=none
 n_ValueError:mg "ValueError"=none
 g_FIGURES:∃u,mg "FIGURES"=some u∧aN (.str "0123456789") u
 g_MOST_FIGURES:∃u,mg "MOST_FIGURES"=some u∧aN (.int 40) u
 g_MOST_VOICES:∃u,mg "MOST_VOICES"=some u∧aN (.int 4) u
 g_MOST_RULES:∃u,mg "MOST_RULES"=some u∧aN (.int 12) u
 g_MOST_WEIGHT:∃u,mg "MOST_WEIGHT"=some u∧aN (.int 400) u
 g_MOST_NUMBERS:∃u,mg "MOST_NUMBERS"=some u∧aN (.int 12) u
 g_NO_LEAP:∃u,mg "NO_LEAP"=some u∧aN (.int 0) u
 g_LEAP_UP:∃u,mg "LEAP_UP"=some u∧aN (.int 1) u
 g_LEAP_DOWN:∃u,mg "LEAP_DOWN"=some u∧aN (.int 2) u
 g_MAKERS:∃u,mg "MAKERS"=some u∧aN (.ref aM) u
structure Dy(mg:Str→Option Value)(aM aI:Addr):Prop extends Txt mg aM where
 g_INNER_KINDS:∃u,mg "INNER_KINDS"=some u∧aN (.ref aI) u
local macro_rules | `(tactic| walk_at "rd") => `(tactic| (try dsimp only [↓vD, ↓sO, ↓mf, ↓pT, ↓p4, ↓p5, ↓p6, ↓p7, ↓mn, ↓mq, EB, DN, jI, jU, rZ, rY, yq, rW, yw, BI, gB, vN, zx, rQ, tC, Dk, Fj, zC, Dm, BR, zB, EA, nP, vM, zF, Dg, E6, Dj, E5, E8, qZ, L2.start, List.map_cons, List.map_nil, List.length_cons, List.length_nil, List.replicate, List.cons_append, List.nil_append, List.set_cons_zero, List.set_cons_succ, vD, sO, mf, pT, p4, p5, p6, p7, mn, mq]) <;> (try simp only [↓vD, ↓sO, ↓mf, ↓pT, ↓p4, ↓p5, ↓p6, ↓p7, ↓mn, ↓mq, ↓itD, ↓itN, EB, DN, jI, jU, rZ, rY, yq, rW, yw, BI, gB, vN, zx, rQ, Bp, tC, Dk, Fj, zC, pK, Dm, BR, zB, EA, nP, vM, zF, Dg, E6, Dj, tm, zG, En, E5, E8, vP, qZ, E3, E4, Cg, BA, DG, tD, rI, rU, L2.start, tO, tP, mK, tM, tN, tQ, tR, tT, mL, xZ, Ag, xT, xX, xU, we, wq, wg, wu, wd, wo, xY, xS, xW, xV, rL, List.map_cons, List.map_nil, List.length_cons, List.length_nil, List.replicate, List.cons_append, List.nil_append, List.append_nil, List.getElem?_cons_zero, List.getElem?_cons_succ, List.set_cons_zero, List.set_cons_succ, Option.some.injEq, Cd, DE, xP, Bz, Bx, V.int.injEq, V.str.injEq, V.bl.injEq, V.ref.injEq, V.ty.injEq, List.cons.injEq, and_true, true_and, Ez, BB, BC, Ci, Fi, DR, DM, DQ, DI, ET, DH, ym, uT, ER, x8, x9, ES, Eh, uS, zz, Ek, Ei, zE, zy, wj, wx, wm, wy, Bo, zA, Ej, Int.zero_add, if_true, Bool.false_eq_true, if_false, cσ, List.getD_cons_zero, List.getD_cons_succ, Bw, B8, DB, decide_eq_true_eq, reduceCtorEq, false_and, By, false_or, or_false, DD, List.length_map, Em, Eo, tVs, E7, xO, Ah, Bool.not_eq_true', EO, ite_not, vD, sO, mf, pT, p4, p5, p6, p7, mn, mq]) <;> try simp only [wz, wb, wa, Ae, Af, pd, pe, xQ, xR, wc, xP, Bz, Bx, Bw, and_true, true_and, V.int.injEq, V.str.injEq, V.bl.injEq, V.ref.injEq, reduceCtorEq, false_and, By, false_or, or_false])
local macro_rules | `(tactic| walk_at "flds") => `(tactic| simp only [hV, qe, String.reduceEq, if_false, if_true, List.lookup])
def pH:Sp:=fun vs H Q _=>∃z,vs=[.str z]∧z.length≤10000∧∀H',au H H'→Q (.bl (rV z.cps.toList)) H'
def gz(K:Frag):Sp:=fun vs H Q _=>∃(c:Addr) (v:Int) (us:List Int),vs=[.ref c,.int v]∧cD K H c (us.map V.int)∧1≤v∧v≤us.length∧Q (.int (aS us v)) H
def nM(K:Frag):Sp:=fun vs H Q _=>∃(c:Addr) (a b:Int) (us:List Int),vs=[.ref c,.int a,.int b]∧cD K H c (us.map V.int)∧1≤a∧a≤us.length∧1≤b∧b≤us.length∧Q (.int (aS us b - aS us a)) H
def cY(K:Frag):Sp:=fun vs H Q _=>∃(x C dx:Addr) (fs:List (Str×V)) (row:Str),vs=[.ref x,.str row]∧H x=some (.ins C dx fs)∧nT K C∧NoAttr K C "row"∧fs.length < 100∧Q .non (upd H x (.ins C dx (bO "row" (.str row) fs)))
def bI(n:Nat)(v:List V→V):Sp:=fun vs H Q _=>vs.length=n∧Q (v vs) H
def cK(K:Frag):Sp:=fun vs H Q _=>∃(r C dx:Addr) (fs:List (Str×V)) (row:Str),vs=[.ref r]∧H r=some (.ins C dx fs)∧nT K C∧NoAttr K C "row"∧fs.lookup (Str.ofString "row")=some (.str row)∧Q (.str row) H
def Fh(vs:List V):V:=vs.getD 1 .non
def fw(K:Frag):Sp:=fun vs H Q _=>∃(q:Addr) (xs:List V) (j:Int),vs=[.ref q,.int j]∧aT K H q xs∧Q (.bl (decide (1≤(xs.length:Int) - j) && decide ((xs.length:Int) - j≤12))) H
def cR(K:Frag):Sp:=fun vs H Q _=>∃(q:Addr) (ns:List Int) (nv:Int),vs=[.ref q,.int nv]∧aT K H q (ns.map V.int)∧ns.length≤1000∧∀H',au H H'→Q (.bl (ns.all fun n=>decide (1≤n) && decide (n≤nv))) H'
def j7(P:Program)(w:World)(K:Frag)(mg:Str→Option Value)(base:Heap)(aM:Addr)(k:Nat):Sp:=fun vs H Q _=>∃(row kind:Str) (ns:List Int) (nv:Int) (D:List (Str×V)) (f:Addr) (sp:Sp) (Res:V→Hp→Prop),vs=[.str row,.int nv]∧fB row kind ns∧ki K aM D∧KTD.datumAt kind D=some (.ref f)∧
 fR P w K mg base k f ["row","numbers","voices"] sp∧(∀q H' Q',au H H'→H' q=some (.lst (ns.map V.int))→(∀v H'',Res v H''→Q' v H'')→sp [.str row,.ref q,.int nv] H' Q' E0)∧∀v H',Res v H'→Q v H'
def zr(P:Program)(w:World)(K:Frag)(mg:Str→Option Value)(base:Heap)(aM:Addr)(k:Nat):Sp:=fun vs H Q _=>∃(row kind:Str) (ns:List Int) (nv z:Int) (D:List (Str×V)) (f:Addr) (sp:Sp) (Res:V→Hp→Prop),vs=[.str row,.int nv,.int z]∧fB row kind ns∧kind.cps.toList.head?≠some 101∧ki K aM D∧KTD.datumAt kind D=some (.ref f)∧
 fR P w K mg base k f ["row","numbers","voices"] sp∧(∀q H' Q',au H H'→H' q=some (.lst (ns.map V.int))→(∀v H'',Res v H''→Q' v H'')→sp [.str row,.ref q,.int nv] H' Q' E0)∧∀v H',Res v H'→v≠.non∧Q v H'
def dH(row:Str)(x1 x2:Int)(n:Addr):List (Str×V):=bO "numbers" (.ref n) (bO "second" (.int x2) (bO "first" (.int x1) (bO "row" (.str row) [])))
def fY(C:Addr)(row:Str)(x1 x2:Int)(D:List Int):ju:=fun r H=>∃(dx n:Addr),H r=some (.ins C dx (dH row x1 x2 n))∧H n=some (.lst (D.map V.int))
structure jx(K:Frag)(C:Addr):Prop where
 cl:nT K C
 n1:NoAttr K C "row"
 n2:NoAttr K C "first"
 n3:NoAttr K C "second"
 n4:NoAttr K C "numbers"
def jr(K:Frag)(C:Addr):Sp:=fun vs H Q _=>∃(x dx q:Addr) (row:Str) (x1 x2:Int) (D:List Int),vs=[.ref x,.str row,.int x1,.int x2,.ref q]∧H x=some (.ins C dx [])∧aT K H q (D.map V.int)∧D.length≤20∧
 ∀n H',H n=none→H'=upd (upd H n (.lst (D.map V.int))) x (.ins C dx (dH row x1 x2 n))→Q .non H'
def j8(K:Frag)(C:Addr):Sp:=fun vs H Q _=>∃(q:Addr) (row:Str) (x1 x2:Int) (D:List Int) (nv:Int),vs=[.str row,.ref q,.int nv]∧aT K H q ((x1::x2::D).map V.int)∧1≤x1∧x1≤nv∧1≤x2∧x2≤nv∧1≤D.length∧D.length≤12∧
 ∀r H',au H H'→fY C row x1 x2 D r H'→Q (.ref r) H'
def fV(a b:Int)(D:List Int):fb:=⟨1,0,fun m _ us=>if aS us b - aS us a∈D then some m else none,fun _ _=>true⟩
def cy(row:Str)(x1 x2 x3:Int)(n:Addr):List (Str×V):=bO "numbers" (.ref n) (bO "hours" (.int x3) (bO "second" (.int x2) (bO "first" (.int x1) (bO "row" (.str row) []))))
def eT(C:Addr)(row:Str)(x1 x2 x3:Int)(D:List Int):ju:=fun r H=>∃(dx n:Addr),H r=some (.ins C dx (cy row x1 x2 x3 n))∧H n=some (.lst (D.map V.int))
structure g8(K:Frag)(C:Addr):Prop where
 cl:nT K C
 n1:NoAttr K C "row"
 n2:NoAttr K C "first"
 n3:NoAttr K C "second"
 n4:NoAttr K C "hours"
 n5:NoAttr K C "numbers"
def iB(K:Frag)(C:Addr):Sp:=fun vs H Q _=>∃(x dx q:Addr) (row:Str) (x1 x2 x3:Int) (D:List Int),vs=[.ref x,.str row,.int x1,.int x2,.int x3,.ref q]∧H x=some (.ins C dx [])∧aT K H q (D.map V.int)∧D.length≤20∧
 ∀n H',H n=none→H'=upd (upd H n (.lst (D.map V.int))) x (.ins C dx (cy row x1 x2 x3 n))→Q .non H'
def iU(K:Frag)(C:Addr):Sp:=fun vs H Q _=>∃(q:Addr) (row:Str) (x1 x2 x3:Int) (D:List Int) (nv:Int),vs=[.str row,.ref q,.int nv]∧aT K H q ((x1::x2::x3::D).map V.int)∧1≤x1∧x1≤nv∧1≤x2∧x2≤nv∧1≤x3∧1≤D.length∧D.length≤12∧
 ∀r H',au H H'→eT C row x1 x2 x3 D r H'→Q (.ref r) H'
def eW(x1 x2 x3:Int)(D:List Int):fb:=⟨1,0,fun m _ us=>if (aS us x2 - aS us x1) % x3∈D then some m else none,fun _ _=>true⟩
def et(row:Str)(x1:Int)(n:Addr):List (Str×V):=bO "numbers" (.ref n) (bO "voice" (.int x1) (bO "row" (.str row) []))
def fX(C:Addr)(row:Str)(x1:Int)(D:List Int):ju:=fun r H=>∃(dx n:Addr),H r=some (.ins C dx (et row x1 n))∧H n=some (.lst (D.map V.int))
structure jw(K:Frag)(C:Addr):Prop where
 cl:nT K C
 n1:NoAttr K C "row"
 n2:NoAttr K C "voice"
 n3:NoAttr K C "numbers"
def jq(K:Frag)(C:Addr):Sp:=fun vs H Q _=>∃(x dx q:Addr) (row:Str) (x1:Int) (D:List Int),vs=[.ref x,.str row,.int x1,.ref q]∧H x=some (.ins C dx [])∧aT K H q (D.map V.int)∧D.length≤20∧
 ∀n H',H n=none→H'=upd (upd H n (.lst (D.map V.int))) x (.ins C dx (et row x1 n))→Q .non H'
def j6(K:Frag)(C:Addr):Sp:=fun vs H Q _=>∃(q:Addr) (row:Str) (x1:Int) (D:List Int) (nv:Int),vs=[.str row,.ref q,.int nv]∧aT K H q ((x1::D).map V.int)∧1≤x1∧x1≤nv∧1≤D.length∧D.length≤12∧
 ∀r H',au H H'→fX C row x1 D r H'→Q (.ref r) H'
def gX(x1:Int)(D:List Int):fb:=⟨1,0,fun m b us=>match b with | none=>some m | some bs=>if aS us x1 - aS bs x1∈D then some m else none,fun _ _=>true⟩
def j5(K:Frag):Sp:=fun vs H Q _=>∃(b c:Addr) (v:Int) (bs us:List Int),vs=[.ref b,.ref c,.int v]∧cD K H b (bs.map V.int)∧cD K H c (us.map V.int)∧1≤v∧v≤bs.length∧v≤us.length∧Q (.int (aS us v - aS bs v)) H
def dj(row:Str)(x1 x2:Int)(n:Addr):List (Str×V):=bO "numbers" (.ref n) (bO "second" (.int x2) (bO "first" (.int x1) (bO "row" (.str row) [])))
def eS(C:Addr)(row:Str)(x1 x2:Int)(D:List Int):ju:=fun r H=>∃(dx n:Addr),H r=some (.ins C dx (dj row x1 x2 n))∧H n=some (.lst (D.map V.int))
structure g7(K:Frag)(C:Addr):Prop where
 cl:nT K C
 n1:NoAttr K C "row"
 n2:NoAttr K C "first"
 n3:NoAttr K C "second"
 n4:NoAttr K C "numbers"
def iA(K:Frag)(C:Addr):Sp:=fun vs H Q _=>∃(x dx q:Addr) (row:Str) (x1 x2:Int) (D:List Int),vs=[.ref x,.str row,.int x1,.int x2,.ref q]∧H x=some (.ins C dx [])∧aT K H q (D.map V.int)∧D.length≤20∧
 ∀n H',H n=none→H'=upd (upd H n (.lst (D.map V.int))) x (.ins C dx (dj row x1 x2 n))→Q .non H'
def iT(K:Frag)(C:Addr):Sp:=fun vs H Q _=>∃(q:Addr) (row:Str) (x1 x2:Int) (D:List Int) (nv:Int),vs=[.str row,.ref q,.int nv]∧aT K H q ((x1::x2::D).map V.int)∧1≤x1∧x1≤nv∧1≤x2∧x2≤nv∧1≤D.length∧D.length≤12∧
 ∀r H',au H H'→eS C row x1 x2 D r H'→Q (.ref r) H'
def fN(x1 x2:Int)(D:List Int):fb:=⟨1,0,fun m b us=>match b with | none=>some m | some bs=>if aS us x1 - aS bs x1=0 then some m else if aS us x2 - aS us x1=aS bs x2 - aS bs x1∧aS us x2 - aS us x1∈D then none else some m,fun _ _=>true⟩
def er(row:Str)(x1 x2:Int):List (Str×V):=(bO "widest" (.int x2) (bO "voice" (.int x1) (bO "row" (.str row) [])))
def eG(C:Addr)(row:Str)(x1 x2:Int):ju:=fun r H=>∃(dx:Addr),H r=some (.ins C dx (er row x1 x2))
structure jv(K:Frag)(C:Addr):Prop where
 cl:nT K C
 n1:NoAttr K C "row"
 n2:NoAttr K C "voice"
 n3:NoAttr K C "widest"
def jm(K:Frag)(C:Addr):Sp:=fun vs H Q _=>∃(x dx:Addr) (row:Str) (x1 x2:Int),vs=[.ref x,.str row,.int x1,.int x2]∧H x=some (.ins C dx [])∧Q .non (upd H x (.ins C dx (er row x1 x2)))
def j0(K:Frag)(C:Addr):Sp:=fun vs H Q _=>∃(q:Addr) (row:Str) (x1 x2:Int) (nv:Int),vs=[.str row,.ref q,.int nv]∧aT K H q ([x1,x2].map V.int)∧1≤x1∧x1≤nv∧0≤x2∧
 ∀r H',au H H'→eG C row x1 x2 r H'→Q (.ref r) H'
def ez(x1 x2:Int):fb:=⟨3,0,fun m b us=>match b with | none=>some 0 | some bs=>if (m=1∧0≤aS us x1 - aS bs x1)∨(m=2∧aS us x1 - aS bs x1≤0)then none else if aS us x1 - aS bs x1 > x2 then some 1 else if aS us x1 - aS bs x1 < 0 - x2 then some 2 else some 0,fun m _=>decide (m=0)⟩
def dG(row:Str)(x1 x2:Int):List (Str×V):=(bO "most" (.int x2) (bO "voice" (.int x1) (bO "row" (.str row) [])))
def eH(C:Addr)(row:Str)(x1 x2:Int):ju:=fun r H=>∃(dx:Addr),H r=some (.ins C dx (dG row x1 x2))
structure iH(K:Frag)(C:Addr):Prop where
 cl:nT K C
 n1:NoAttr K C "row"
 n2:NoAttr K C "voice"
 n3:NoAttr K C "most"
def jo(K:Frag)(C:Addr):Sp:=fun vs H Q _=>∃(x dx:Addr) (row:Str) (x1 x2:Int),vs=[.ref x,.str row,.int x1,.int x2]∧H x=some (.ins C dx [])∧Q .non (upd H x (.ins C dx (dG row x1 x2)))
def j3(K:Frag)(C:Addr):Sp:=fun vs H Q _=>∃(q:Addr) (row:Str) (x1 x2:Int) (nv:Int),vs=[.str row,.ref q,.int nv]∧aT K H q ([x1,x2].map V.int)∧1≤x1∧x1≤nv∧1≤x2∧
 ∀r H',au H H'→eH C row x1 x2 r H'→Q (.ref r) H'
def fU(x1 x2:Int):fb:=⟨x2,0,fun m b us=>match b with | none=>some 0 | some bs=>if aS bs x1=aS us x1 then(if m+1 < x2 then some (m+1)else none)else some 0,fun _ _=>true⟩
def pB(x2 m:Int):Prop:=0≤m∧m < x2
def bR(row:Str)(x1 x2 x3 x4:Int):List (Str×V):=(bO "most" (.int x4) (bO "fewest" (.int x3) (bO "note" (.int x2) (bO "voice" (.int x1) (bO "row" (.str row) [])))))
def dh(C:Addr)(row:Str)(x1 x2 x3 x4:Int):ju:=fun r H=>∃(dx:Addr),H r=some (.ins C dx (bR row x1 x2 x3 x4))
structure fA(K:Frag)(C:Addr):Prop where
 cl:nT K C
 n1:NoAttr K C "row"
 n2:NoAttr K C "voice"
 n3:NoAttr K C "note"
 n4:NoAttr K C "fewest"
 n5:NoAttr K C "most"
def iE(K:Frag)(C:Addr):Sp:=fun vs H Q _=>∃(x dx:Addr) (row:Str) (x1 x2 x3 x4:Int),vs=[.ref x,.str row,.int x1,.int x2,.int x3,.int x4]∧H x=some (.ins C dx [])∧Q .non (upd H x (.ins C dx (bR row x1 x2 x3 x4)))
def iV(K:Frag)(C:Addr):Sp:=fun vs H Q _=>∃(q:Addr) (row:Str) (x1 x2 x3 x4:Int) (nv:Int),vs=[.str row,.ref q,.int nv]∧aT K H q ([x1,x2,x3,x4].map V.int)∧1≤x1∧x1≤nv∧0≤x3∧0≤x4∧
 ∀r H',au H H'→dh C row x1 x2 x3 x4 r H'→Q (.ref r) H'
def dR(x1 x2 x3 x4:Int):fb:=⟨x4+1,0,fun m _ us=>if aS us x1=x2 then(if m < x4 then some (m+1)else none)else some m,fun m _=>decide (m≥x3)⟩
def jH(x4 m:Int):Prop:=0≤m∧m≤x4
def bW(row:Str)(t u:Int)(ri:Addr):List (Str×V):=bO "inner" (.ref ri) (bO "turn" (.int u) (bO "turns" (.int t) (bO "row" (.str row) [])))
def d4(C:Addr)(row:Str)(t u:Int)(RIn:ju):ju:=fun r H=>∃(dx ri:Addr),H r=some (.ins C dx (bW row t u ri))∧RIn ri H
structure gr(K:Frag)(C:Addr):Prop where
 cl:nT K C
 n1:NoAttr K C "row"
 n2:NoAttr K C "turns"
 n3:NoAttr K C "turn"
 n4:NoAttr K C "inner"
def iC(K:Frag)(C:Addr):Sp:=fun vs H Q _=>∃(x dx ri:Addr) (row:Str) (t u:Int),vs=[.ref x,.str row,.int t,.int u,.ref ri]∧H x=some (.ins C dx [])∧Q .non (upd H x (.ins C dx (bW row t u ri)))
def eX(t u:Int)(S:fb):fb:=⟨t,0,fun m b us=>if m=u then(if S.after S.start b us=none then none else some ((m+1) % t))else some ((m+1) % t),fun _ _=>true⟩
def mY(t m:Int):Prop:=0≤m∧m < t
def my(P:Program)(w:World)(K:Frag)(mg:Str→Option Value)(base:Heap)(aM C:Addr)(k:Nat):Sp:=fun vs H Q _=>∃(row rest kind:Str) (t u:Int) (ns:List Int) (nv:Int) (D:List (Str×V)) (f:Addr) (sp:Sp) (RIn:ju),vs=[.str row,.int nv]∧mF row rest t u∧fB rest kind ns∧(kind=Str.ofString "span"∨kind=Str.ofString "clock")∧0≤u∧u < t∧ki K aM D∧KTD.datumAt kind D=some (.ref f)∧
 fR P w K mg base k f ["row","numbers","voices"] sp∧(∀q H' Q',au H H'→H' q=some (.lst (ns.map V.int))→(∀ri H'',au H H''→RIn ri H''→Q' (.ref ri) H'')→sp [.str rest,.ref q,.int nv] H' Q' E0)∧(∀r H H',au H H'→RIn r H→RIn r H')∧∀r H',au H H'→d4 C row t u RIn r H'→Q (.ref r) H'
def vI(P:Program)(w:World)(K:Frag)(mg:Str→Option Value)(base:Heap)(aM C:Addr)(k:Nat):Sp:=fun vs H Q E=>∃(row:Str) (nv z:Int),vs=[.str row,.int nv,.int z]∧(∃rest t u,mF row rest t u)∧my P w K mg base aM C k [.str row,.int nv] H (fun v H'=>v≠.non∧Q v H') E
def ly:Sp:=fun vs H Q _=>∃c p,vs=[.int c,.int p]∧∀H',au H H'→Q (.int (GM.stirF c p)) H'
def sZ(K:Frag):Sp:=fun vs H Q _=>∃a ns p,vs=[.ref a,.int p]∧aT K H a (ns.map V.int)∧(∀x∈ns,x.natAbs < 2 ^ GB)∧0≤p∧p≤1000∧∀H',au H H'→Q (.int (GM.gotF ns p)) H'
def mx(K:Frag):Sp:=fun vs H Q _=>∃a ns lo hi,vs=[.ref a,.int lo,.int hi]∧aT K H a (ns.map V.int)∧(∀x∈ns,x.natAbs < 2 ^ GB)∧ns.length≤63∧0≤lo∧lo≤100∧0≤hi∧hi≤100∧
 ∀q H',H' q=some (.lst ((GM.cellsF ns lo hi).map V.int))→au H H'→Q (.ref q) H'
section
variable {P:Program} {w:World} {K:Frag} {mg:Str→Option Value} {base:Heap} {aM:Addr}
theorem wX{f:Addr}{fd:FuncData}(F:cT K "is_number" "is_number" iw f fd)(T:Txt mg aM):aH P w K mg base cb 1 f fd ["word"] pH:=by
 refine F.ok sc_is_number (fun vs H Q E h=>?_) (fun cdv A outer s H vs Q E hr h=>?_)
 ·obtain⟨z,rfl,_⟩:=h
  rfl
 obtain⟨z,rfl,hz,k⟩:=h
 refine⟨_,(ai (aD (i:=1) sc_is_number.nd rfl (Or.inl rfl) (dm (bE (cG K PySem.F.plainAttrs_str PySem.F.slot_str_startswith PySem.F.type_str_startswith gc (pr 0) (af aZ ah)) (fun _=>rfl)) (bQ (g6 K) (pr 0) (gH aj) cQ) (pr 0)))
 (ai (br (PW.pt (de (bp (az sr (pr 1) aZ (aE _))) (cM (bp (az (o0 lO) (aB (aP K) (by rfl) T.n_len boot_len (af (pr 1) ah)) (d6 T.g_MOST_FIGURES) (aE _)))))) (ao (ax jP)) aJ)
 (ai (br (dv (bE (aB (iI K rfl) (by rfl) T.n_all boot_all (af (eu (own:=["sign"]) (js:=[]) rfl (bX K (pr 1)) (bG.of (by rfl)) (fun _ _ _ _ _=>(aF (i:=0) (show List.Nodup (["sign"]:List Str)from by decide +kernel) rfl (Or.inl rfl))) (fun _ _ _ _ _=>dE) (fun _ _ _ _ _=>(gG (sA K) (pr 0) (d6 T.g_FIGURES) (by with_unfolding_all rfl)))) ah)) (fun _=>rfl))) (ao (ax jP)) aJ)
 (ao (ax (Eb (Ec (gG zS (aU (bJ K) (pr 1) aj (fun _ _=>rfl)) aZ (aE _)) (yW (gG sr (pr 0) aZ (aE _)))))))))),?_⟩
 have hs:sizeLine=16777216:=sizeLine_eq
 have c0:(Str.ofString "").cps.toList=[]:=by decide +kernel
 have c45:(Str.ofString "-")=⟨#[45]⟩:=by decide +kernel
 have c48:(Str.ofString "0").cps.toList=[48]:=by decide +kernel
 have cF:(Str.ofString "0123456789").cps.toList=[48,49,50,51,52,53,54,55,56,57]:=by decide +kernel
 refine EM (fun σ H'=>∃y,σ=[some (.str z),some (.str y)]∧H=H'∧y.cps.toList=gv z.cps.toList) ?_ ?_
 ·rintro _ _ ⟨y,rfl,rfl,hy⟩
  have hyl:y.length≤10000:=by
   rw [bg,hy];rw [bg]at hz;refine ab8 ?_ hz;unfold gv
   split
   ·rw [List.length_tail];omega
   ·exact aa7 _
  walk_at "rd";have hk:=k;rw [tX,←hy,←bg]at hk;have q0:=hk H (au.refl H)
  by_cases h1:y=Str.ofString ""
  ·rw [if_pos h1]
   rw [if_pos (Or.inl (by rw [h1,c0]))]at q0;exact q0
  rw [if_neg h1];refine⟨by omega,?_⟩
  by_cases h2:(40:Int) < y.length
  ·rw [if_pos h2]
   rw [if_pos (Or.inr (by omega))]at q0;exact q0
  rw [if_neg h2]
  have h3:¬(y.cps.toList=[]∨40 < y.length):=by
   rintro(e | e)
   ·exact h1 (str_iff.mpr (by rw [e,c0]))
   ·omega
  rw [if_neg h3]at hk;have e0:y.cps.toList≠[]:=fun e=>h3 (Or.inl e);refine Bc (v5 (fun i ys H'=>ys=(y.cps.toList.take i).map (fun c=>V.bl (decide (c∈[48,49,50,51,52,53,54,55,56,57])))∧H=H') (by omega) ⟨rfl,rfl⟩ ?_ ?_ ?_)
  ·rintro i ys H' ⟨rfl,rfl⟩
   rw [aa0,ac6];omega
  ·rintro i c ys H' hc ⟨rfl,rfl⟩
   walk_at "rd";rw [cF,ac5,hc];simp
  ·rintro ys H' ⟨rfl,rfl⟩ p hp
   rw [bg,ad0];refine⟨y.cps.toList.map (fun c=>decide (c∈[48,49,50,51,52,53,54,55,56,57])),aT.of (by rw [ag,ai1];rfl),?_⟩
   have ed:(List.map (fun c=>decide (c∈[48,49,50,51,52,53,54,55,56,57])) y.cps.toList).all id=rK y.cps.toList:=by
    unfold rK;rw [aj3];rfl
   have q1:=hk _ (av (o:=.lst ((y.cps.toList.take y.cps.toList.length).map (fun c=>V.bl (decide (c∈[48,49,50,51,52,53,54,55,56,57]))))) hp);rw [ad0]at q1;rw [ed]
   by_cases h4:rK y.cps.toList=false
   ·rw [if_pos h4]
    rw [if_pos h4]at q1;exact q1
   rw [if_neg h4];rw [if_neg h4]at q1;refine⟨by rw [←bg];omega,?_⟩
   cases hh:y.cps.toList with
   | nil=>exact absurd hh e0
   | cons a l=>
    rw [hh]at q1;refine⟨a,bw rfl,?_⟩
    by_cases ha:a=48
    ·subst ha
     rw [if_pos (str_iff.mpr (by rw [c48])),ke,c48];simpa using q1
    ·rw [if_neg (fun e=>ha (by have:=str_iff.mp e;rw [c48]at this;simpa using this))]
     simpa [ha]using q1
 ·intro u' hu
  walk_at "rd";rw [c45,uQ]
  by_cases h1:z.cps.toList.head?=some 45
  ·rw [if_pos (by simpa using h1)]
   exact⟨by omega,hu _ _ ⟨_,rfl,rfl,by rw [uE (by decide)];unfold gv;rw [if_pos h1];simp⟩⟩
  ·rw [if_neg (by simpa using h1)]
   exact hu _ _ ⟨_,rfl,rfl,by unfold gv;rw [if_neg h1]⟩
theorem ug{f:Addr}{fd:FuncData}(F:cT K "note_in" "note_in" kR f fd):aH P w K mg base cb 1 f fd ["column","voice"] (gz K):=by
 refine F.ok uA (fun vs H Q E h=>?_) (fun cdv A outer s H vs Q E hr h=>?_)
 ·obtain⟨c,v,us,rfl,_⟩:=h
  rfl
 obtain⟨c,v,us,rfl,hc,h1,h2,k⟩:=h;refine⟨_,(ao (ax (aU (bJ K) (pr 0) (aw (o0 dZ) (pr 1) aj) (fun _ _=>rfl)))),?_⟩;walk_at "rd";exact dN hc (sk h1 h2) k
theorem AJ{f:Addr}{fd:FuncData}(F:cT K "span" "span" uv f fd)(D_note_in:cJ P w K mg base "note_in" 1 ["column","voice"] (gz K)):aH P w K mg base cb 2 f fd ["column","first","second"] (nM K):=by
 refine F.ok Bk (fun vs H Q E h=>?_) (fun cdv A outer s H vs Q E hr h=>?_)
 ·obtain⟨c,a,b,us,rfl,_⟩:=h
  rfl
 obtain⟨c,a,b,us,rfl,hc,h1,h2,h3,h4,k⟩:=h;refine⟨_,(ao (ax (aw (o0 dZ) (aC D_note_in hr (by rfl) (af (pr 0) (af (pr 2) ah))) (aC D_note_in hr (by rfl) (af (pr 0) (af (pr 1) ah)))))),?_⟩;walk_at "rd";refine⟨c,b,us,rfl,hc,h3,h4,c,a,us,rfl,hc,h1,h2,?_⟩;walk_at "rd";exact k
theorem ql{f:Addr}{fd:FuncData}(F:cT K "__init__" "Rule.__init__" fh f fd):aH P w K mg base cb 1 f fd ["self","row"] (cY K):=by
 refine F.ok kY (fun vs H Q E h=>?_) (fun cdv A outer s H vs Q E hr h=>?_)
 ·obtain⟨x,C,dx,fs,row,rfl,_⟩:=h
  rfl
 obtain⟨x,C,dx,fs,row,rfl,hx,cl,na,hl,k⟩:=h;refine⟨_,(ao (bU (pr 0) (pr 1) rfl)),?_⟩;walk_at "rd";exact⟨C,dx,fs,hx,cl,na,by omega,k⟩
theorem fu{f:Addr}{fd:FuncData}(F:cT K "size" "Rule.size" eg f fd):aH P w K mg base cb 1 f fd ["self"] (bI 1 fun _=>.int 1):=by
 refine F.ok qU (fun vs H Q E h=>h.1) (fun cdv A outer s H vs Q E hr h=>?_);obtain⟨hl,k⟩:=h
 match vs,hl with
 | [a],_=>
 refine⟨_,(ao (ax aj)),?_⟩;walk_at "rd";exact k
theorem cX{f:Addr}{fd:FuncData}(F:cT K "start" "Rule.start" ck f fd):aH P w K mg base cb 1 f fd ["self"] (bI 1 fun _=>.int 0):=by
 refine F.ok oM (fun vs H Q E h=>h.1) (fun cdv A outer s H vs Q E hr h=>?_);obtain⟨hl,k⟩:=h
 match vs,hl with
 | [a],_=>
 refine⟨_,(ao (ax aj)),?_⟩;walk_at "rd";exact k
theorem dk{f:Addr}{fd:FuncData}(F:cT K "closes" "Rule.closes" cv f fd):aH P w K mg base cb 1 f fd ["self","memory","last"] (bI 3 fun _=>.bl true):=by
 refine F.ok nH (fun vs H Q E h=>h.1) (fun cdv A outer s H vs Q E hr h=>?_);obtain⟨hl,k⟩:=h
 match vs,hl with
 | [a,b,c],_=>
 refine⟨_,(ao (ax jP)),?_⟩;walk_at "rd";exact k
theorem cu{f:Addr}{fd:FuncData}(F:cT K "shown" "Rule.shown" bS f fd):aH P w K mg base cb 1 f fd ["self"] (cK K):=by
 refine F.ok oK (fun vs H Q E h=>?_) (fun cdv A outer s H vs Q E hr h=>?_)
 ·obtain⟨r,C,dx,fs,row,rfl,_⟩:=h
  rfl
 obtain⟨r,C,dx,fs,row,rfl,h1,h2,h3,h4,q⟩:=h;refine⟨_,(ao (ax (aY (pr 0) rfl))),?_⟩;walk_at "rd";exact⟨C,dx,fs,h1,h2,h3,_,h4,q⟩
theorem sx{f:Addr}{fd:FuncData}(F:cT K "has_list" "has_list" jg f fd)(T:Txt mg aM):aH P w K mg base cb 1 f fd ["numbers","ahead"] (fw K):=by
 refine F.ok sT (fun vs H Q E h=>?_) (fun cdv A outer s H vs Q E hr h=>?_)
 ·obtain⟨q,xs,j,rfl,_⟩:=h
  rfl
 obtain⟨q,xs,j,rfl,hq,k⟩:=h;refine⟨_,(ao (ax (sD (o0 ib) (o0 ib) aj (aw (o0 dZ) (aB (aP K) (by rfl) T.n_len boot_len (af (pr 0) ah)) (pr 1)) (d6 T.g_MOST_NUMBERS)))),?_⟩;walk_at "rd";refine⟨xs,.inl hq,?_⟩;walk_at "rd"
 by_cases h1:(1:Int)≤(xs.length:Int) - j
 ·rw [if_pos h1]
  rw [decide_eq_true h1,Bool.true_and]at k;exact k
 ·rw [if_neg h1]
  rw [decide_eq_false h1,Bool.false_and]at k;exact k
theorem oz{f:Addr}{fd:FuncData}(F:cT K "are_voices" "are_voices" gQ f fd)(T:Txt mg aM):aH P w K mg base cb 1 f fd ["numbers","voices"] (cR K):=by
 refine F.ok oP (fun vs H Q E h=>?_) (fun cdv A outer s H vs Q E hr h=>?_)
 ·obtain⟨q,ns,nv,rfl,_⟩:=h
  rfl
 obtain⟨q,ns,nv,rfl,hq,hl,k⟩:=h;refine⟨_,(ao (ax (aB (iI K rfl) (by rfl) T.n_all boot_all (af (eu (own:=["number"]) (js:=[1]) rfl (bX K (pr 0)) (bG.of (by rfl)) (fun _ _ _ _ _=>(aF (i:=0) (show List.Nodup (["number","voices"]:List Str)from by decide +kernel) rfl (Or.inl rfl))) (fun _ _ _ _ _=>dE) (fun _ _ _ _ _=>(sD (o0 ib) (o0 ib) aj (pr 0) (pr 1)))) ah)))),?_⟩;walk_at "rd";have hs:sizeLine=16777216:=sizeLine_eq;refine bZ hq (cU (xs:=ns.map V.int) (fun i ys H'=>ys=((ns.take i).map fun n=>decide (1≤n) && decide (n≤nv)).map V.bl∧H=H') (by rw [aa0];omega) ⟨rfl,rfl⟩ ?_ ?_ ?_ ?_)
 ·rintro i ys H' ⟨rfl,rfl⟩
  rw [aa0,aa0,ac6];omega
 ·rintro i ys H' ⟨rfl,rfl⟩
  exact hq
 ·rintro i x ys H' hx ⟨rfl,rfl⟩
  rw [aa8]at hx
  cases hn:ns[i]? with
  | none=>rw [hn]at hx;cases hx
  | some n=>
   rw [hn]at hx;cases hx;walk_at "rd";rw [ac5,hn]
   by_cases h1:(1:Int)≤n
   ·rw [if_pos h1]
    simp [h1]
   ·rw [if_neg h1]
    simp [h1]
 ·rintro ys H' ⟨rfl,rfl⟩ p hp
  refine⟨_,aT.of ag,?_⟩;rw [aj3,aa0,ad0];exact k _ (av hp)
theorem oB{f:Addr}{fd:FuncData}(F:cT K "plain_rule" "plain_rule" gW f fd)(T:Txt mg aM)(D_is_number:cJ P w K mg base "is_number" 7 ["word"] pH):aH P w K mg base cb 8 f fd ["row","voices"] (j7 P w K mg base aM 7):=by
 refine F.ok sc_plain_rule (fun vs H Q E h=>?_) (fun cdv A outer s H vs Q E hr h=>?_)
 ·obtain⟨row,kind,ns,nv,D,f,sp,Res,rfl,_⟩:=h
  rfl
 obtain⟨row,kind,ns,nv,D,g,sp,Res,rfl,R,tab,hg,fn,k,kq⟩:=h
 refine⟨_,(ai (aD (i:=2) sc_plain_rule.nd rfl (Or.inl rfl) (cG K PySem.F.plainAttrs_str PySem.F.slot_str_split PySem.F.type_str_split jJ (pr 0) (af aZ ah)))
 (ai (br (PW.pt (de (bp (az (uj K) (aU (bJ K) (pr 2) aj (fun _ _=>rfl)) (d6 T.g_MAKERS) (by with_unfolding_all rfl))) (cM (dv (bE (aB (iI K rfl) (by rfl) T.n_all boot_all (af (eu (own:=["word"]) (js:=[]) rfl (bX K (bQ (g6 K) (pr 2) (gH aj) cQ)) (bG.of (by rfl)) (fun _ _ _ _ _=>(aF (i:=0) (show List.Nodup (["word"]:List Str)from by decide +kernel) rfl (Or.inl rfl))) (fun _ _ _ _ _=>dE) (fun _ _ _ _ _=>(aC D_is_number hr (by rfl) (af (pr 0) ah)))) ah)) (fun _=>rfl)))))) (ao (ax aR)) aJ)
 (ao (ax (yS P w K mg base hr (yU K (d6 T.g_MAKERS) (aU (bJ K) (pr 2) aj (fun _ _=>rfl)) (fun _ _=>rfl)) (af (pr 0) (af (eu (own:=["word"]) (js:=[]) rfl (bX K (bQ (g6 K) (pr 2) (gH aj) cQ)) (bG.of (by rfl)) (fun _ _ _ _ _=>(aF (i:=0) (show List.Nodup (["word"]:List Str)from by decide +kernel) rfl (Or.inl rfl))) (fun _ _ _ _ _=>dE) (fun _ _ _ _ _=>(aW (gu) (by rfl) T.n_int boot_int (af (pr 0) ah)))) (af (pr 1) ah)))))))),?_⟩
 walk_at "rd";have hs:sizeLine=16777216:=sizeLine_eq;have hl:=R.len;have hnl:=R.nl;refine⟨32,by decide +kernel,by decide,by omega,fun p hp=>?_⟩;rw [R.split];have sp0:au H (upd H p (.lst ((kind::ns.map aG).map V.str))):=av hp;generalize hH0:upd H p (.lst ((kind::ns.map aG).map V.str))=H0 at sp0
 have hp0:H0 p=some (.lst ((kind::ns.map aG).map V.str)):=by rw [←hH0,ag]
 refine bH (aT.of hp0) (bw rfl) ⟨kind,rfl,D,tab,?_⟩;rw [hg];walk_at "rd";refine dP (aT.of hp0) fun q hq=>?_;rw [show(some (1:Int))=some ((1:Nat):Int)from rfl,ee];show zT _ _ _ _;have s1:au H0 (upd H0 q (.lst ((ns.map aG).map V.str))):=av hq;refine bZ (xs:=(ns.map aG).map V.str) (aT.of ag) (cU (xs:=(ns.map aG).map V.str) (fun i ys H'=>ys=(List.replicate i true).map V.bl∧au (upd H0 q (.lst ((ns.map aG).map V.str))) H') (by simp;omega) ⟨rfl,au.refl _⟩ ?_ ?_ ?_ ?_)
 ·rintro i ys H' ⟨rfl,sm⟩
  simp
 ·rintro i ys H' ⟨rfl,sm⟩
  exact sm.seq (aT.of ag)
 ·rintro i x ys H' hx ⟨rfl,sm⟩
  obtain⟨n,hn,rfl⟩:∃n∈ns,x=.str (aG n):=by
   have:=ad1 hx
   simp only [ai1,ac7,Function.comp_apply]at this;obtain⟨n,hn,e⟩:=this;exact⟨n,hn,e.symm⟩
  walk_at "rd";refine⟨aG n,rfl,?_,fun H1 s1=>⟨?_,sm.trans s1⟩⟩
  ·rw [bg]
   have:=fF (n:=n) (k:=40) (by decide) (R.nb n hn)
   show(gF n).length≤_;omega
  ·show _=(List.replicate (i+1) true).map V.bl
   rw [show(aG n).cps.toList=gF n from rfl,kx (R.nb n hn),List.replicate_succ',ab7];rfl
 rintro ys H1 ⟨rfl,sm⟩ p1 hp1;simp only [aa0];refine⟨_,aT.of ag,?_⟩;rw [show(List.replicate ns.length true).all id=true by simp];walk_at "rd";have s2:au H0 (upd H1 p1 (.lst ((List.replicate ns.length true).map V.bl))):=(s1.trans sm).upd hp1;generalize upd H1 p1 (.lst ((List.replicate ns.length true).map V.bl))=H2 at s2;have hp2:=s2 _ _ hp0;refine bH (aT.of hp2) (bw rfl) ⟨kind,rfl,D,tab,_,hg,g,rfl,_,_,fn,?_⟩;refine dP (aT.of hp2) fun q2 hq2=>?_;rw [ee];show zT _ _ _ _;have s3:au H0 (upd H2 q2 (.lst ((ns.map aG).map V.str))):=s2.upd hq2;refine bZ (xs:=(ns.map aG).map V.str) (aT.of ag) (cU (xs:=(ns.map aG).map V.str) (fun i ys H'=>ys=(ns.take i).map V.int∧upd H2 q2 (.lst ((ns.map aG).map V.str))=H') (by simp;omega) ⟨rfl,rfl⟩ ?_ ?_ ?_ ?_)
 ·rintro i ys H' ⟨rfl,rfl⟩
  rw [aa0,ac6];omega
 ·rintro i ys H' ⟨rfl,rfl⟩
  exact aT.of ag
 ·rintro i x ys H' hx ⟨rfl,rfl⟩
  cases hn:ns[i]? with
  | none=>rw [aa8,aa8,hn]at hx;cases hx
  | some n=>
   rw [aa8,aa8,hn]at hx;cases hx;have hb:=R.nb n (ad1 hn);walk_at "rd";refine⟨n,mj (aa5 hb (ae7 (by decide) (by decide))),?_,?_⟩
   ·rw [bg]
    have:=fF (n:=n) (k:=40) (by decide) hb
    show(gF n).length≤_;omega
   ·rw [ac5,hn,ab7]
    rfl
 rintro ys H3 ⟨rfl,rfl⟩ p3 hp3;refine k p3 _ _ (sp0.trans (s3.upd hp3)) ?_ kq;rw [ag,aa0,aa0,ad0]
theorem qm{f C:Addr}{fd:FuncData}(F:cT K "__init__" "Span.__init__" fi f fd)(T:Txt mg aM)(TC:jx K C)(DC_Rule___init__:mE P w K mg base "Rule" "__init__" 1 ["self","row"] (cY K)):aH P w K mg base cb 2 f fd ["self","row","first","second","numbers"] (jr K C):=by
 refine F.ok kZ (fun vs H Q E h=>?_) (fun cdv A outer s H vs Q E hr h=>?_)
 ·obtain⟨x,dx,q,row,x1,x2,D,rfl,_⟩:=h
  rfl
 obtain⟨x,dx,q,row,x1,x2,D,rfl,hx,hq,hl,k⟩:=h
 refine⟨_,(ai (bY (eV DC_Rule___init__ hr (by rfl) (af (pr 0) (af (pr 1) ah))))
 (ai (bU (pr 0) (pr 2) rfl)
 (ai (bU (pr 0) (pr 3) rfl)
 (ao (bU (pr 0) (aW (d5 K) (by rfl) T.n_list boot_list (af (pr 4) ah)) rfl))))),?_⟩
 walk_at "rd";have ln:∀(f:Str) (v:V) (l:List (Str×V)) (n:Nat),l.length≤n→(bO f v l).length≤n+1:=fun f v l n h=>ab8 (bT f v l) (ae1 h);refine⟨x,C,dx,[],row,rfl,hx,TC.cl,TC.n1,by decide,?_⟩;refine⟨C,dx,_,ag,TC.cl,TC.n2,ab6 (ln _ _ _ _ (ac0 0)) (by decide),C,dx,_,ag,TC.cl,TC.n3,ab6 (ln _ _ _ _ (ln _ _ _ _ (ac0 0))) (by decide),D.map V.int,.inl (((hq.at_ins hx).at_ins ag).at_ins ag),fun n hn=>?_⟩
 have nx:n≠x:=fun e=>by subst e;rw [ag]at hn;cases hn
 rw [ak nx,ak nx,ak nx]at hn;refine⟨C,dx,_,by rw [ak (Ne.symm nx),ag],TC.cl,TC.n4,ab6 (ln _ _ _ _ (ln _ _ _ _ (ln _ _ _ _ (ac0 0)))) (by decide),?_⟩;refine k n _ hn ?_;rw [cn,cn,iG];rfl
theorem uh{f C:Addr}{fd:FuncData}(F:cT K "span_of" "span_of" kT f fd)(T:Txt mg aM)(D_has_list:cJ P w K mg base "has_list" 3 ["numbers","ahead"] (fw K))(D_are_voices:cJ P w K mg base "are_voices" 3 ["numbers","voices"] (cR K))(DM_Span:e7 P w K mg base "Span" C 2 ["self","row","first","second","numbers"] (jr K C)):aH P w K mg base cb 4 f fd ["row","numbers","voices"] (j8 K C):=by
 refine F.ok uC (fun vs H Q E h=>?_) (fun cdv A outer s H vs Q E hr h=>?_)
 ·obtain⟨q,row,x1,x2,D,nv,rfl,_⟩:=h
  rfl
 obtain⟨q,row,x1,x2,D,nv,rfl,hq,x1_1,x1_2,x2_1,x2_2,l1,l2,k⟩:=h
 refine⟨_,(ai (br (PW.pt (de (dv (bE (aC D_has_list hr (by rfl) (af (pr 1) (af aj ah))) (fun _=>rfl))) (cM (dv (bE (aC D_are_voices hr (by rfl) (af (bQ (g6 K) (pr 1) cQ (gH aj)) (af (pr 2) ah))) (fun _=>rfl)))))) (ao (ax aR)) aJ)
 (ao (ax (ij DM_Span hr (by rfl) (af (pr 0) (af (aU (bJ K) (pr 1) aj (fun _ _=>rfl)) (af (aU (bJ K) (pr 1) aj (fun _ _=>rfl)) (af (bQ (g6 K) (pr 1) (gH aj) cQ) ah)))))))),?_⟩
 walk_at "rd";have hs:sizeLine=16777216:=sizeLine_eq;refine⟨q,_,2,rfl,hq,?_⟩;rw [show(decide (1≤(((x1::x2::D).map V.int).length:Int) - 2) && decide ((((x1::x2::D).map V.int).length:Int) - 2≤12))=true by simp;omega];walk_at "rd";refine dP hq fun q1 hq1=>?_;rw [show(some (2:Int))=some ((2:Nat):Int)from rfl,fS];have s1:au H (upd H q1 (.lst ((((x1::x2::D).map V.int)).take 2))):=av hq1;refine⟨q1,[x1,x2],nv,rfl,aT.of ag,by simp,fun H1 s2=>?_⟩;rw [show([x1,x2].all fun n=>decide (1≤n) && decide (n≤nv))=true by simp;omega];walk_at "rd";have s3:=s1.trans s2;have hq3:=s3.seq hq;refine bH hq3 (bw rfl) (bH hq3 (show fm _ ((1:Nat):Int)=_ from aO rfl) (dP hq3 fun q2 hq2=>?_));rw [ee];show ∀x dx:Addr,_;intro x dx hx hdx hne;have s4:au H (upd H1 q2 (.lst (((x1::x2::D).map V.int).drop 2))):=s3.upd hq2;have hq2':(upd H1 q2 (.lst (((x1::x2::D).map V.int).drop 2))) q2=some (.lst (D.map V.int)):=ag;generalize upd H1 q2 (.lst (((x1::x2::D).map V.int).drop 2))=H2 at s4 hx hdx hq2';have s5:au H (upd (upd H2 dx (.own x)) x (.ins C dx [])):=(s4.upd hdx).upd (by rw [ak (Ne.symm hne)];exact hx)
 have hq5:(upd (upd H2 dx (.own x)) x (.ins C dx [])) q2=some (.lst (D.map V.int)):=by
  rw [ak (ar hq2' hx),ak (ar hq2' hdx)];exact hq2'
 refine⟨x,dx,q2,row,x1,x2,D,rfl,ag,aT.of hq5,by omega,fun n H3 hn e=>⟨rfl,?_⟩⟩;subst e
 have nx:n≠x:=fun z=>by subst z;rw [ag]at hn;cases hn
 refine k x _ ?_ ⟨dx,n,ag,by rw [ak nx,ag]⟩;intro c o hc;have n1:c≠x:=ar (s4 _ _ hc) hx;rw [ak n1,ak (ar (s5 _ _ hc) hn)];exact s5 _ _ hc
theorem ow{f C:Addr}{fd:FuncData}{row:Str}{a b:Int}{D:List Int}{nv:Nat}(F:cT K "after" "Span.after" gO f fd)(T:Txt mg aM)(TC:jx K C)(ha:1≤a∧a≤nv)(hb:1≤b∧b≤nv)(D_span:cJ P w K mg base "span" 2 ["column","first","second"] (nM K)):aH P w K mg base cb 3 f fd ["self","memory","before","column"] (bK K nv (fY C row a b D) (fV a b D) fun _=>True):=by
 refine F.ok oN (fun vs H Q E h=>?_) (fun cdv A outer s H vs Q E hr h=>?_)
 ·obtain⟨r,m,x,c,bb,us,rfl,_⟩:=h
  rfl
 obtain⟨r,m,x,c,bb,us,rfl,⟨dx,n,hr1,hn⟩,_,hbv,hc,hu,k⟩:=h;refine⟨_,(ao (ax (dm (bp (az (sA K) (aC D_span hr (by rfl) (af (pr 3) (af (aY (pr 0) rfl) (af (aY (pr 0) rfl) ah)))) (aY (pr 0) rfl) (by with_unfolding_all rfl))) (pr 1) aR))),?_⟩;walk_at "rd"
 have l1:(dH row a b n).lookup (Str.ofString "first")=some (.int a):=by unfold dH;walk_at "flds"
 have l2:(dH row a b n).lookup (Str.ofString "second")=some (.int b):=by unfold dH;walk_at "flds"
 have l3:(dH row a b n).lookup (Str.ofString "numbers")=some (.ref n):=by unfold dH;walk_at "flds"
 refine⟨C,dx,_,hr1,TC.cl,TC.n2,_,l1,C,dx,_,hr1,TC.cl,TC.n3,_,l2,c,a,b,us,rfl,hc,ha.1,by rw [hu];exact ha.2,hb.1,by rw [hu];exact hb.2,C,dx,_,hr1,TC.cl,TC.n4,_,l3,jR (aT.of hn) ⟨_,rfl,?_⟩⟩
 by_cases h:aS us b - aS us a∈D
 ·rw [if_pos (decide_eq_true h)]
  simp only [fV]at k;rw [if_pos h]at k;exact k
 ·rw [if_neg (by rw [decide_eq_false h];exact aa4)]
  simp only [fV]at k;rw [if_neg h]at k;exact k
theorem zt{lv:Nat}{C:Addr}{row:Str}{a b:Int}{D:List Int}{nv:Nat}(TC:jx K C)(h1:aA P w K mg base C "size" lv ["self"] (bI 1 fun _=>.int 1))(h2:aA P w K mg base C "start" lv ["self"] (bI 1 fun _=>.int 0))(h3:aA P w K mg base C "closes" lv ["self","memory","last"] (bI 3 fun _=>.bl true))
  (h4:aA P w K mg base C "after" lv ["self","memory","before","column"] (bK K nv (fY C row a b D) (fV a b D) fun _=>True)):bz P w K mg base lv nv C (fV a b D) (fY C row a b D) (fun _=>True):=by
 refine⟨fun r H H' s h=>?_,fun r H h=>?_,trivial,fun _ _ _ _ _ _=>trivial,h1.imp ?_,h2.imp ?_,h4,h3.imp ?_⟩
 ·obtain⟨dx,n,e1,e2⟩:=h
  exact⟨dx,n,s _ _ e1,s _ _ e2⟩
 ·obtain⟨dx,n,e1,e2⟩:=h
  refine⟨dx,_,e1,?_,?_,?_,?_,?_⟩<;>(unfold dH;walk_at "flds")
 ·rintro vs H Q E ⟨r,rfl,_,q⟩
  exact⟨rfl,q⟩
 ·rintro vs H Q E ⟨r,rfl,_,q⟩
  exact⟨rfl,q⟩
 ·rintro vs H Q E ⟨r,m,x,b,rfl,_,_,_,q⟩
  exact⟨rfl,q⟩
theorem oh{f C:Addr}{fd:FuncData}(F:cT K "__init__" "Clock.__init__" eK f fd)(T:Txt mg aM)(TC:g8 K C)(DC_Rule___init__:mE P w K mg base "Rule" "__init__" 1 ["self","row"] (cY K)):aH P w K mg base cb 2 f fd ["self","row","first","second","hours","numbers"] (iB K C):=by
 refine F.ok jW (fun vs H Q E h=>?_) (fun cdv A outer s H vs Q E hr h=>?_)
 ·obtain⟨x,dx,q,row,x1,x2,x3,D,rfl,_⟩:=h
  rfl
 obtain⟨x,dx,q,row,x1,x2,x3,D,rfl,hx,hq,hl,k⟩:=h
 refine⟨_,(ai (bY (eV DC_Rule___init__ hr (by rfl) (af (pr 0) (af (pr 1) ah))))
 (ai (bU (pr 0) (pr 2) rfl)
 (ai (bU (pr 0) (pr 3) rfl)
 (ai (bU (pr 0) (pr 4) rfl)
 (ao (bU (pr 0) (aW (d5 K) (by rfl) T.n_list boot_list (af (pr 5) ah)) rfl)))))),?_⟩
 walk_at "rd";have ln:∀(f:Str) (v:V) (l:List (Str×V)) (n:Nat),l.length≤n→(bO f v l).length≤n+1:=fun f v l n h=>ab8 (bT f v l) (ae1 h);refine⟨x,C,dx,[],row,rfl,hx,TC.cl,TC.n1,by decide,?_⟩;refine⟨C,dx,_,ag,TC.cl,TC.n2,ab6 (ln _ _ _ _ (ac0 0)) (by decide),C,dx,_,ag,TC.cl,TC.n3,ab6 (ln _ _ _ _ (ln _ _ _ _ (ac0 0))) (by decide),C,dx,_,ag,TC.cl,TC.n4,ab6 (ln _ _ _ _ (ln _ _ _ _ (ln _ _ _ _ (ac0 0)))) (by decide),D.map V.int,.inl ((((hq.at_ins hx).at_ins ag).at_ins ag).at_ins ag),fun n hn=>?_⟩
 have nx:n≠x:=fun e=>by subst e;rw [ag]at hn;cases hn
 rw [ak nx,ak nx,ak nx,ak nx]at hn;refine⟨C,dx,_,by rw [ak (Ne.symm nx),ag],TC.cl,TC.n5,ab6 (ln _ _ _ _ (ln _ _ _ _ (ln _ _ _ _ (ln _ _ _ _ (ac0 0))))) (by decide),?_⟩;refine k n _ hn ?_;rw [cn,cn,cn,iG];rfl
theorem sv{f C:Addr}{fd:FuncData}(F:cT K "clock_of" "clock_of" jf f fd)(T:Txt mg aM)(D_has_list:cJ P w K mg base "has_list" 3 ["numbers","ahead"] (fw K))(D_are_voices:cJ P w K mg base "are_voices" 3 ["numbers","voices"] (cR K))(DM_Clock:e7 P w K mg base "Clock" C 2 ["self","row","first","second","hours","numbers"] (iB K C)):aH P w K mg base cb 4 f fd ["row","numbers","voices"] (iU K C):=by
 refine F.ok sS (fun vs H Q E h=>?_) (fun cdv A outer s H vs Q E hr h=>?_)
 ·obtain⟨q,row,x1,x2,x3,D,nv,rfl,_⟩:=h
  rfl
 obtain⟨q,row,x1,x2,x3,D,nv,rfl,hq,x1_1,x1_2,x2_1,x2_2,p3,l1,l2,k⟩:=h
 refine⟨_,(ai (br (PW.pt (de (dv (bE (aC D_has_list hr (by rfl) (af (pr 1) (af aj ah))) (fun _=>rfl))) (de (dv (bE (aC D_are_voices hr (by rfl) (af (bQ (g6 K) (pr 1) cQ (gH aj)) (af (pr 2) ah))) (fun _=>rfl))) (cM (bp (az (o0 qr) (aU (bJ K) (pr 1) aj (fun _ _=>rfl)) aj (aE _))))))) (ao (ax aR)) aJ)
 (ao (ax (ij DM_Clock hr (by rfl) (af (pr 0) (af (aU (bJ K) (pr 1) aj (fun _ _=>rfl)) (af (aU (bJ K) (pr 1) aj (fun _ _=>rfl)) (af (aU (bJ K) (pr 1) aj (fun _ _=>rfl)) (af (bQ (g6 K) (pr 1) (gH aj) cQ) ah))))))))),?_⟩
 walk_at "rd";have hs:sizeLine=16777216:=sizeLine_eq;refine⟨q,_,3,rfl,hq,?_⟩;rw [show(decide (1≤(((x1::x2::x3::D).map V.int).length:Int) - 3) && decide ((((x1::x2::x3::D).map V.int).length:Int) - 3≤12))=true by simp;omega];walk_at "rd";refine dP hq fun q1 hq1=>?_;rw [show(some (2:Int))=some ((2:Nat):Int)from rfl,fS];have s1:au H (upd H q1 (.lst ((((x1::x2::x3::D).map V.int)).take 2))):=av hq1;refine⟨q1,[x1,x2],nv,rfl,aT.of ag,by simp,fun H1 s2=>?_⟩;rw [show([x1,x2].all fun n=>decide (1≤n) && decide (n≤nv))=true by simp;omega];walk_at "rd";have s3:=s1.trans s2;have hq3:=s3.seq hq;refine bH hq3 (show fm _ ((2:Nat):Int)=_ from aO rfl) ?_;walk_at "rd";rw [if_neg (show ¬(x3 < 1)by omega)];refine bH hq3 (bw rfl) (bH hq3 (show fm _ ((1:Nat):Int)=_ from aO rfl) (bH hq3 (show fm _ ((2:Nat):Int)=_ from aO rfl) (dP hq3 fun q2 hq2=>?_)));rw [show(some (3:Int))=some ((3:Nat):Int)from rfl,ee];show ∀x dx:Addr,_;intro x dx hx hdx hne;have s4:au H (upd H1 q2 (.lst (((x1::x2::x3::D).map V.int).drop 3))):=s3.upd hq2;have hq2':(upd H1 q2 (.lst (((x1::x2::x3::D).map V.int).drop 3))) q2=some (.lst (D.map V.int)):=ag;generalize upd H1 q2 (.lst (((x1::x2::x3::D).map V.int).drop 3))=H2 at s4 hx hdx hq2';have s5:au H (upd (upd H2 dx (.own x)) x (.ins C dx [])):=(s4.upd hdx).upd (by rw [ak (Ne.symm hne)];exact hx)
 have hq5:(upd (upd H2 dx (.own x)) x (.ins C dx [])) q2=some (.lst (D.map V.int)):=by
  rw [ak (ar hq2' hx),ak (ar hq2' hdx)];exact hq2'
 refine⟨x,dx,q2,row,x1,x2,x3,D,rfl,ag,aT.of hq5,by omega,fun n H3 hn e=>⟨rfl,?_⟩⟩;subst e
 have nx:n≠x:=fun z=>by subst z;rw [ag]at hn;cases hn
 refine k x _ ?_ ⟨dx,n,ag,by rw [ak nx,ag]⟩;intro c o hc;have n1:c≠x:=ar (s4 _ _ hc) hx;rw [ak n1,ak (ar (s5 _ _ hc) hn)];exact s5 _ _ hc
theorem m8{f C:Addr}{fd:FuncData}{row:Str}{x1 x2 x3:Int}{D:List Int}{nv:Nat}(F:cT K "after" "Clock.after" gg f fd)(T:Txt mg aM)(TC:g8 K C)(ha:1≤x1∧x1≤nv)(hb:1≤x2∧x2≤nv)(h3:1≤x3)(D_span:cJ P w K mg base "span" 2 ["column","first","second"] (nM K)):aH P w K mg base cb 3 f fd ["self","memory","before","column"] (bK K nv (eT C row x1 x2 x3 D) (eW x1 x2 x3 D) fun _=>True):=by
 refine F.ok nF (fun vs H Q E h=>?_) (fun cdv A outer s H vs Q E hr h=>?_)
 ·obtain⟨r,m,x,c,bb,us,rfl,_⟩:=h
  rfl
 obtain⟨r,m,x,c,bb,us,rfl,⟨dx,n,hr1,hn⟩,_,hbv,hc,hu,k⟩:=h;refine⟨_,(ao (ax (dm (bp (az (sA K) (aw (o1 cE) (aC D_span hr (by rfl) (af (pr 3) (af (aY (pr 0) rfl) (af (aY (pr 0) rfl) ah)))) (aY (pr 0) rfl)) (aY (pr 0) rfl) (by with_unfolding_all rfl))) (pr 1) aR))),?_⟩;walk_at "rd"
 have l1:(cy row x1 x2 x3 n).lookup (Str.ofString "first")=some (.int x1):=by unfold cy;walk_at "flds"
 have l2:(cy row x1 x2 x3 n).lookup (Str.ofString "second")=some (.int x2):=by unfold cy;walk_at "flds"
 have l3:(cy row x1 x2 x3 n).lookup (Str.ofString "hours")=some (.int x3):=by unfold cy;walk_at "flds"
 have l4:(cy row x1 x2 x3 n).lookup (Str.ofString "numbers")=some (.ref n):=by unfold cy;walk_at "flds"
 refine⟨C,dx,_,hr1,TC.cl,TC.n2,_,l1,C,dx,_,hr1,TC.cl,TC.n3,_,l2,c,x1,x2,us,rfl,hc,ha.1,by rw [hu];exact ha.2,hb.1,by rw [hu];exact hb.2,C,dx,_,hr1,TC.cl,TC.n4,_,l3,?_⟩;walk_at "rd";refine⟨by omega,C,dx,_,hr1,TC.cl,TC.n5,_,l4,jR (aT.of hn) ⟨_,rfl,?_⟩⟩
 by_cases h:(aS us x2 - aS us x1) % x3∈D
 ·rw [if_pos (decide_eq_true h)]
  simp only [eW]at k;rw [if_pos h]at k;exact k
 ·rw [if_neg (by rw [decide_eq_false h];exact aa4)]
  simp only [eW]at k;rw [if_neg h]at k;exact k
theorem v3{lv:Nat}{C:Addr}{row:Str}{x1 x2 x3:Int}{D:List Int}{nv:Nat}(TC:g8 K C)(h1:aA P w K mg base C "size" lv ["self"] (bI 1 fun _=>.int 1))(h2:aA P w K mg base C "start" lv ["self"] (bI 1 fun _=>.int 0))(h3:aA P w K mg base C "closes" lv ["self","memory","last"] (bI 3 fun _=>.bl true))
  (h4:aA P w K mg base C "after" lv ["self","memory","before","column"] (bK K nv (eT C row x1 x2 x3 D) (eW x1 x2 x3 D) fun _=>True)):bz P w K mg base lv nv C (eW x1 x2 x3 D) (eT C row x1 x2 x3 D) (fun _=>True):=by
 refine⟨fun r H H' s h=>?_,fun r H h=>?_,trivial,fun _ _ _ _ _ _=>trivial,h1.imp ?_,h2.imp ?_,h4,h3.imp ?_⟩
 ·obtain⟨dx,n,e1,e2⟩:=h
  exact⟨dx,n,s _ _ e1,s _ _ e2⟩
 ·obtain⟨dx,n,e1,e2⟩:=h
  refine⟨dx,_,e1,?_,?_,?_,?_,?_⟩<;>(unfold cy;walk_at "flds")
 ·rintro vs H Q E ⟨r,rfl,_,q⟩
  exact⟨rfl,q⟩
 ·rintro vs H Q E ⟨r,rfl,_,q⟩
  exact⟨rfl,q⟩
 ·rintro vs H Q E ⟨r,m,x,b,rfl,_,_,_,q⟩
  exact⟨rfl,q⟩
theorem qk{f C:Addr}{fd:FuncData}(F:cT K "__init__" "Move.__init__" fg f fd)(T:Txt mg aM)(TC:jw K C)(DC_Rule___init__:mE P w K mg base "Rule" "__init__" 1 ["self","row"] (cY K)):aH P w K mg base cb 2 f fd ["self","row","voice","numbers"] (jq K C):=by
 refine F.ok kX (fun vs H Q E h=>?_) (fun cdv A outer s H vs Q E hr h=>?_)
 ·obtain⟨x,dx,q,row,x1,D,rfl,_⟩:=h
  rfl
 obtain⟨x,dx,q,row,x1,D,rfl,hx,hq,hl,k⟩:=h
 refine⟨_,(ai (bY (eV DC_Rule___init__ hr (by rfl) (af (pr 0) (af (pr 1) ah))))
 (ai (bU (pr 0) (pr 2) rfl)
 (ao (bU (pr 0) (aW (d5 K) (by rfl) T.n_list boot_list (af (pr 3) ah)) rfl)))),?_⟩
 walk_at "rd";have ln:∀(f:Str) (v:V) (l:List (Str×V)) (n:Nat),l.length≤n→(bO f v l).length≤n+1:=fun f v l n h=>ab8 (bT f v l) (ae1 h);refine⟨x,C,dx,[],row,rfl,hx,TC.cl,TC.n1,by decide,?_⟩;refine⟨C,dx,_,ag,TC.cl,TC.n2,ab6 (ln _ _ _ _ (ac0 0)) (by decide),D.map V.int,.inl ((hq.at_ins hx).at_ins ag),fun n hn=>?_⟩
 have nx:n≠x:=fun e=>by subst e;rw [ag]at hn;cases hn
 rw [ak nx,ak nx]at hn;refine⟨C,dx,_,by rw [ak (Ne.symm nx),ag],TC.cl,TC.n3,ab6 (ln _ _ _ _ (ln _ _ _ _ (ac0 0))) (by decide),?_⟩;refine k n _ hn ?_;rw [cn,iG];rfl
theorem uf{f C:Addr}{fd:FuncData}(F:cT K "move_of" "move_of" kQ f fd)(T:Txt mg aM)(D_has_list:cJ P w K mg base "has_list" 3 ["numbers","ahead"] (fw K))(D_are_voices:cJ P w K mg base "are_voices" 3 ["numbers","voices"] (cR K))(DM_Move:e7 P w K mg base "Move" C 2 ["self","row","voice","numbers"] (jq K C)):aH P w K mg base cb 4 f fd ["row","numbers","voices"] (j6 K C):=by
 refine F.ok uz (fun vs H Q E h=>?_) (fun cdv A outer s H vs Q E hr h=>?_)
 ·obtain⟨q,row,x1,D,nv,rfl,_⟩:=h
  rfl
 obtain⟨q,row,x1,D,nv,rfl,hq,x1_1,x1_2,l1,l2,k⟩:=h
 refine⟨_,(ai (br (PW.pt (de (dv (bE (aC D_has_list hr (by rfl) (af (pr 1) (af aj ah))) (fun _=>rfl))) (cM (dv (bE (aC D_are_voices hr (by rfl) (af (bQ (g6 K) (pr 1) cQ (gH aj)) (af (pr 2) ah))) (fun _=>rfl)))))) (ao (ax aR)) aJ)
 (ao (ax (ij DM_Move hr (by rfl) (af (pr 0) (af (aU (bJ K) (pr 1) aj (fun _ _=>rfl)) (af (bQ (g6 K) (pr 1) (gH aj) cQ) ah))))))),?_⟩
 walk_at "rd";have hs:sizeLine=16777216:=sizeLine_eq;refine⟨q,_,1,rfl,hq,?_⟩;rw [show(decide (1≤(((x1::D).map V.int).length:Int) - 1) && decide ((((x1::D).map V.int).length:Int) - 1≤12))=true by simp;omega];walk_at "rd";refine dP hq fun q1 hq1=>?_;rw [show(some (1:Int))=some ((1:Nat):Int)from rfl,fS];have s1:au H (upd H q1 (.lst ((((x1::D).map V.int)).take 1))):=av hq1;refine⟨q1,[x1],nv,rfl,aT.of ag,by simp,fun H1 s2=>?_⟩;rw [show([x1].all fun n=>decide (1≤n) && decide (n≤nv))=true by simp;omega];walk_at "rd";have s3:=s1.trans s2;have hq3:=s3.seq hq;refine bH hq3 (bw rfl) (dP hq3 fun q2 hq2=>?_);rw [ee];show ∀x dx:Addr,_;intro x dx hx hdx hne;have s4:au H (upd H1 q2 (.lst (((x1::D).map V.int).drop 1))):=s3.upd hq2;have hq2':(upd H1 q2 (.lst (((x1::D).map V.int).drop 1))) q2=some (.lst (D.map V.int)):=ag;generalize upd H1 q2 (.lst (((x1::D).map V.int).drop 1))=H2 at s4 hx hdx hq2';have s5:au H (upd (upd H2 dx (.own x)) x (.ins C dx [])):=(s4.upd hdx).upd (by rw [ak (Ne.symm hne)];exact hx)
 have hq5:(upd (upd H2 dx (.own x)) x (.ins C dx [])) q2=some (.lst (D.map V.int)):=by
  rw [ak (ar hq2' hx),ak (ar hq2' hdx)];exact hq2'
 refine⟨x,dx,q2,row,x1,D,rfl,ag,aT.of hq5,by omega,fun n H3 hn e=>⟨rfl,?_⟩⟩;subst e
 have nx:n≠x:=fun z=>by subst z;rw [ag]at hn;cases hn
 refine k x _ ?_ ⟨dx,n,ag,by rw [ak nx,ag]⟩;intro c o hc;have n1:c≠x:=ar (s4 _ _ hc) hx;rw [ak n1,ak (ar (s5 _ _ hc) hn)];exact s5 _ _ hc
theorem AG{f:Addr}{fd:FuncData}(F:cT K "move" "move" ur f fd)(D_note_in:cJ P w K mg base "note_in" 1 ["column","voice"] (gz K)):aH P w K mg base cb 2 f fd ["before","column","voice"] (j5 K):=by
 refine F.ok Bj (fun vs H Q E h=>?_) (fun cdv A outer s H vs Q E hr h=>?_)
 ·obtain⟨b,c,v,bs,us,rfl,_⟩:=h
  rfl
 obtain⟨b,c,v,bs,us,rfl,hb,hc,h1,h2,h3,k⟩:=h;refine⟨_,(ao (ax (aw (o0 dZ) (aC D_note_in hr (by rfl) (af (pr 1) (af (pr 2) ah))) (aC D_note_in hr (by rfl) (af (pr 0) (af (pr 2) ah)))))),?_⟩;walk_at "rd";refine⟨c,v,us,rfl,hc,h1,h3,b,v,bs,rfl,hb,h1,h2,?_⟩;walk_at "rd";exact k
theorem oq{f C:Addr}{fd:FuncData}{row:Str}{x1:Int}{D:List Int}{nv:Nat}(F:cT K "after" "Move.after" gN f fd)(T:Txt mg aM)(TC:jw K C)(ha:1≤x1∧x1≤nv)(D_move:cJ P w K mg base "move" 2 ["before","column","voice"] (j5 K)):aH P w K mg base cb 3 f fd ["self","memory","before","column"] (bK K nv (fX C row x1 D) (gX x1 D) fun _=>True):=by
 refine F.ok oJ (fun vs H Q E h=>?_) (fun cdv A outer s H vs Q E hr h=>?_)
 ·obtain⟨r,m,x,c,bb,us,rfl,_⟩:=h
  rfl
 obtain⟨r,m,x,c,bb,us,rfl,⟨dx,n,hr1,hn⟩,_,hbv,hc,hu,k⟩:=h;refine⟨_,(ao (ax (dm (PW.pt (de (bp (az fc (pr 2) aR (aE _))) (cM (bp (az (sA K) (aC D_move hr (by rfl) (af (pr 2) (af (pr 3) (af (aY (pr 0) rfl) ah)))) (aY (pr 0) rfl) (by with_unfolding_all rfl)))))) (pr 1) aR))),?_⟩;walk_at "rd"
 have l1:(et row x1 n).lookup (Str.ofString "voice")=some (.int x1):=by unfold et;walk_at "flds"
 have l2:(et row x1 n).lookup (Str.ofString "numbers")=some (.ref n):=by unfold et;walk_at "flds"
 rcases hbv with⟨rfl,rfl⟩ | ⟨a,bs,rfl,rfl,hba,hbl⟩
 ·rw [if_pos rfl]
  exact k
 rw [if_neg (fun z=>by cases z)];refine⟨C,dx,_,hr1,TC.cl,TC.n2,_,l1,a,c,x1,bs,us,rfl,hba,hc,ha.1,by rw [hbl];exact ha.2,by rw [hu];exact ha.2,C,dx,_,hr1,TC.cl,TC.n3,_,l2,jR (aT.of hn) ⟨_,rfl,?_⟩⟩;simp only [gX]at k
 by_cases h:aS us x1 - aS bs x1∈D
 ·rw [if_pos (decide_eq_true h)]
  rw [if_pos h]at k;exact k
 ·rw [if_neg (by rw [decide_eq_false h];exact aa4)]
  rw [if_neg h]at k;exact k
theorem yE{C:Addr}{row:Str}{x1:Int}{D:List Int}{nv:Nat}(TC:jw K C)(h1:aA P w K mg base C "size" 7 ["self"] (bI 1 fun _=>.int 1))(h2:aA P w K mg base C "start" 7 ["self"] (bI 1 fun _=>.int 0))(h3:aA P w K mg base C "closes" 7 ["self","memory","last"] (bI 3 fun _=>.bl true))
  (h4:aA P w K mg base C "after" 7 ["self","memory","before","column"] (bK K nv (fX C row x1 D) (gX x1 D) fun _=>True)):bz P w K mg base 7 nv C (gX x1 D) (fX C row x1 D) (fun _=>True):=by
 refine⟨fun r H H' s h=>?_,fun r H h=>?_,trivial,fun _ _ _ _ _ _=>trivial,h1.imp ?_,h2.imp ?_,h4,h3.imp ?_⟩
 ·obtain⟨dx,n,e1,e2⟩:=h
  exact⟨dx,n,s _ _ e1,s _ _ e2⟩
 ·obtain⟨dx,n,e1,e2⟩:=h
  refine⟨dx,_,e1,?_,?_,?_,?_,?_⟩<;>(unfold et;walk_at "flds")
 ·rintro vs H Q E ⟨r,rfl,_,q⟩
  exact⟨rfl,q⟩
 ·rintro vs H Q E ⟨r,rfl,_,q⟩
  exact⟨rfl,q⟩
 ·rintro vs H Q E ⟨r,m,x,b,rfl,_,_,_,q⟩
  exact⟨rfl,q⟩
theorem n9{f C:Addr}{fd:FuncData}(F:cT K "__init__" "Alike.__init__" eI f fd)(T:Txt mg aM)(TC:g7 K C)(DC_Rule___init__:mE P w K mg base "Rule" "__init__" 1 ["self","row"] (cY K)):aH P w K mg base cb 2 f fd ["self","row","first","second","numbers"] (iA K C):=by
 refine F.ok jT (fun vs H Q E h=>?_) (fun cdv A outer s H vs Q E hr h=>?_)
 ·obtain⟨x,dx,q,row,x1,x2,D,rfl,_⟩:=h
  rfl
 obtain⟨x,dx,q,row,x1,x2,D,rfl,hx,hq,hl,k⟩:=h
 refine⟨_,(ai (bY (eV DC_Rule___init__ hr (by rfl) (af (pr 0) (af (pr 1) ah))))
 (ai (bU (pr 0) (pr 2) rfl)
 (ai (bU (pr 0) (pr 3) rfl)
 (ao (bU (pr 0) (aW (d5 K) (by rfl) T.n_list boot_list (af (pr 4) ah)) rfl))))),?_⟩
 walk_at "rd";have ln:∀(f:Str) (v:V) (l:List (Str×V)) (n:Nat),l.length≤n→(bO f v l).length≤n+1:=fun f v l n h=>ab8 (bT f v l) (ae1 h);refine⟨x,C,dx,[],row,rfl,hx,TC.cl,TC.n1,by decide,?_⟩;refine⟨C,dx,_,ag,TC.cl,TC.n2,ab6 (ln _ _ _ _ (ac0 0)) (by decide),C,dx,_,ag,TC.cl,TC.n3,ab6 (ln _ _ _ _ (ln _ _ _ _ (ac0 0))) (by decide),D.map V.int,.inl (((hq.at_ins hx).at_ins ag).at_ins ag),fun n hn=>?_⟩
 have nx:n≠x:=fun e=>by subst e;rw [ag]at hn;cases hn
 rw [ak nx,ak nx,ak nx]at hn;refine⟨C,dx,_,by rw [ak (Ne.symm nx),ag],TC.cl,TC.n4,ab6 (ln _ _ _ _ (ln _ _ _ _ (ln _ _ _ _ (ac0 0)))) (by decide),?_⟩;refine k n _ hn ?_;rw [cn,cn,iG];rfl
theorem su{f C:Addr}{fd:FuncData}(F:cT K "alike_of" "alike_of" je f fd)(T:Txt mg aM)(D_has_list:cJ P w K mg base "has_list" 3 ["numbers","ahead"] (fw K))(D_are_voices:cJ P w K mg base "are_voices" 3 ["numbers","voices"] (cR K))(DM_Alike:e7 P w K mg base "Alike" C 2 ["self","row","first","second","numbers"] (iA K C)):aH P w K mg base cb 4 f fd ["row","numbers","voices"] (iT K C):=by
 refine F.ok sR (fun vs H Q E h=>?_) (fun cdv A outer s H vs Q E hr h=>?_)
 ·obtain⟨q,row,x1,x2,D,nv,rfl,_⟩:=h
  rfl
 obtain⟨q,row,x1,x2,D,nv,rfl,hq,x1_1,x1_2,x2_1,x2_2,l1,l2,k⟩:=h
 refine⟨_,(ai (br (PW.pt (de (dv (bE (aC D_has_list hr (by rfl) (af (pr 1) (af aj ah))) (fun _=>rfl))) (cM (dv (bE (aC D_are_voices hr (by rfl) (af (bQ (g6 K) (pr 1) cQ (gH aj)) (af (pr 2) ah))) (fun _=>rfl)))))) (ao (ax aR)) aJ)
 (ao (ax (ij DM_Alike hr (by rfl) (af (pr 0) (af (aU (bJ K) (pr 1) aj (fun _ _=>rfl)) (af (aU (bJ K) (pr 1) aj (fun _ _=>rfl)) (af (bQ (g6 K) (pr 1) (gH aj) cQ) ah)))))))),?_⟩
 walk_at "rd";have hs:sizeLine=16777216:=sizeLine_eq;refine⟨q,_,2,rfl,hq,?_⟩;rw [show(decide (1≤(((x1::x2::D).map V.int).length:Int) - 2) && decide ((((x1::x2::D).map V.int).length:Int) - 2≤12))=true by simp;omega];walk_at "rd";refine dP hq fun q1 hq1=>?_;rw [show(some (2:Int))=some ((2:Nat):Int)from rfl,fS];have s1:au H (upd H q1 (.lst ((((x1::x2::D).map V.int)).take 2))):=av hq1;refine⟨q1,[x1,x2],nv,rfl,aT.of ag,by simp,fun H1 s2=>?_⟩;rw [show([x1,x2].all fun n=>decide (1≤n) && decide (n≤nv))=true by simp;omega];walk_at "rd";have s3:=s1.trans s2;have hq3:=s3.seq hq;refine bH hq3 (bw rfl) (bH hq3 (show fm _ ((1:Nat):Int)=_ from aO rfl) (dP hq3 fun q2 hq2=>?_));rw [ee];show ∀x dx:Addr,_;intro x dx hx hdx hne;have s4:au H (upd H1 q2 (.lst (((x1::x2::D).map V.int).drop 2))):=s3.upd hq2;have hq2':(upd H1 q2 (.lst (((x1::x2::D).map V.int).drop 2))) q2=some (.lst (D.map V.int)):=ag;generalize upd H1 q2 (.lst (((x1::x2::D).map V.int).drop 2))=H2 at s4 hx hdx hq2';have s5:au H (upd (upd H2 dx (.own x)) x (.ins C dx [])):=(s4.upd hdx).upd (by rw [ak (Ne.symm hne)];exact hx)
 have hq5:(upd (upd H2 dx (.own x)) x (.ins C dx [])) q2=some (.lst (D.map V.int)):=by
  rw [ak (ar hq2' hx),ak (ar hq2' hdx)];exact hq2'
 refine⟨x,dx,q2,row,x1,x2,D,rfl,ag,aT.of hq5,by omega,fun n H3 hn e=>⟨rfl,?_⟩⟩;subst e
 have nx:n≠x:=fun z=>by subst z;rw [ag]at hn;cases hn
 refine k x _ ?_ ⟨dx,n,ag,by rw [ak nx,ag]⟩;intro c o hc;have n1:c≠x:=ar (s4 _ _ hc) hx;rw [ak n1,ak (ar (s5 _ _ hc) hn)];exact s5 _ _ hc
theorem m6{f C:Addr}{fd:FuncData}{row:Str}{x1 x2:Int}{D:List Int}{nv:Nat}(F:cT K "after" "Alike.after" gd f fd)(T:Txt mg aM)(TC:g7 K C)(ha:1≤x1∧x1≤nv)(hb:1≤x2∧x2≤nv)(D_move:cJ P w K mg base "move" 2 ["before","column","voice"] (j5 K))(D_span:cJ P w K mg base "span" 2 ["column","first","second"] (nM K)):aH P w K mg base cb 3 f fd ["self","memory","before","column"] (bK K nv (eS C row x1 x2 D) (fN x1 x2 D) fun _=>True):=by
 refine F.ok sc_Alike_after (fun vs H Q E h=>?_) (fun cdv A outer s H vs Q E hr h=>?_)
 ·obtain⟨r,m,x,c,bb,us,rfl,_⟩:=h
  rfl
 obtain⟨r,m,x,c,bb,us,rfl,⟨dx,n,hr1,hn⟩,_,hbv,hc,hu,k⟩:=h
 refine⟨_,(ai (br (PW.pt (de (bp (az fc (pr 2) aR (aE _))) (cM (bp (az sr (aC D_move hr (by rfl) (af (pr 2) (af (pr 3) (af (aY (pr 0) rfl) ah)))) aj (aE _)))))) (ao (ax (pr 1))) aJ)
 (ai (aD (i:=4) sc_Alike_after.nd rfl (Or.inl rfl) (aC D_span hr (by rfl) (af (pr 3) (af (aY (pr 0) rfl) (af (aY (pr 0) rfl) ah)))))
 (ao (ax (dm (PW.pt (ik (bp (az sr (pr 4) (aC D_span hr (by rfl) (af (pr 2) (af (aY (pr 0) rfl) (af (aY (pr 0) rfl) ah)))) (aE _))) (gI (bp (az (sA K) (pr 4) (aY (pr 0) rfl) (by with_unfolding_all rfl)))))) aR (pr 1)))))),?_⟩
 refine DJ fun A0 B0 hA hB=>?_;walk_at "rd"
 have l1:(dj row x1 x2 n).lookup (Str.ofString "first")=some (.int x1):=by unfold dj;walk_at "flds"
 have l2:(dj row x1 x2 n).lookup (Str.ofString "second")=some (.int x2):=by unfold dj;walk_at "flds"
 have l3:(dj row x1 x2 n).lookup (Str.ofString "numbers")=some (.ref n):=by unfold dj;walk_at "flds"
 rcases hbv with⟨rfl,rfl⟩ | ⟨a,bs,rfl,rfl,hba,hbl⟩
 ·rw [if_pos rfl]
  exact hA _ k
 rw [if_neg (fun z=>by cases z)];have a1:=ha.1;have a2:=ha.2;have b1:=hb.1;have b2:=hb.2;refine⟨C,dx,_,hr1,TC.cl,TC.n2,_,l1,a,c,x1,bs,us,rfl,hba,hc,a1,by omega,by omega,?_⟩;walk_at "rd";simp only [fN]at k
 by_cases h0:aS us x1 - aS bs x1=0
 ·rw [if_pos h0]
  rw [if_pos h0]at k;exact hA _ k
 rw [if_neg h0];rw [if_neg h0]at k;refine hB _ ?_;walk_at "rd";refine⟨C,dx,_,hr1,TC.cl,TC.n2,_,l1,C,dx,_,hr1,TC.cl,TC.n3,_,l2,c,x1,x2,us,rfl,hc,a1,by omega,b1,by omega,?_⟩;refine⟨C,dx,_,hr1,TC.cl,TC.n2,_,l1,C,dx,_,hr1,TC.cl,TC.n3,_,l2,a,x1,x2,bs,rfl,hba,a1,by omega,b1,by omega,?_⟩;walk_at "rd"
 by_cases h1:aS us x2 - aS us x1=aS bs x2 - aS bs x1
 ·rw [if_pos h1]
  refine⟨C,dx,_,hr1,TC.cl,TC.n4,_,l3,jR (aT.of hn) ⟨_,rfl,?_⟩⟩
  by_cases h:aS us x2 - aS us x1∈D
  ·rw [if_pos (decide_eq_true h)]
   rw [if_pos ⟨h1,h⟩]at k;exact k
  ·rw [if_neg (by rw [decide_eq_false h];exact aa4)]
   rw [if_neg (fun z=>h z.2)]at k;exact k
 ·rw [if_neg h1]
  rw [if_neg (fun z=>h1 z.1)]at k;exact k
theorem vS{C:Addr}{row:Str}{x1 x2:Int}{D:List Int}{nv:Nat}(TC:g7 K C)(h1:aA P w K mg base C "size" 7 ["self"] (bI 1 fun _=>.int 1))(h2:aA P w K mg base C "start" 7 ["self"] (bI 1 fun _=>.int 0))(h3:aA P w K mg base C "closes" 7 ["self","memory","last"] (bI 3 fun _=>.bl true))
  (h4:aA P w K mg base C "after" 7 ["self","memory","before","column"] (bK K nv (eS C row x1 x2 D) (fN x1 x2 D) fun _=>True)):bz P w K mg base 7 nv C (fN x1 x2 D) (eS C row x1 x2 D) (fun _=>True):=by
 refine⟨fun r H H' s h=>?_,fun r H h=>?_,trivial,fun _ _ _ _ _ _=>trivial,h1.imp ?_,h2.imp ?_,h4,h3.imp ?_⟩
 ·obtain⟨dx,n,e1,e2⟩:=h
  exact⟨dx,n,s _ _ e1,s _ _ e2⟩
 ·obtain⟨dx,n,e1,e2⟩:=h
  refine⟨dx,_,e1,?_,?_,?_,?_,?_⟩<;>(unfold dj;walk_at "flds")
 ·rintro vs H Q E ⟨r,rfl,_,q⟩
  exact⟨rfl,q⟩
 ·rintro vs H Q E ⟨r,rfl,_,q⟩
  exact⟨rfl,q⟩
 ·rintro vs H Q E ⟨r,m,x,b,rfl,_,_,_,q⟩
  exact⟨rfl,q⟩
theorem qf{f C:Addr}{fd:FuncData}(F:cT K "__init__" "Back.__init__" fe f fd)(T:Txt mg aM)(TC:jv K C)(DC_Rule___init__:mE P w K mg base "Rule" "__init__" 1 ["self","row"] (cY K)):aH P w K mg base cb 2 f fd ["self","row","voice","widest"] (jm K C):=by
 refine F.ok kU (fun vs H Q E h=>?_) (fun cdv A outer s H vs Q E hr h=>?_)
 ·obtain⟨x,dx,row,x1,x2,rfl,_⟩:=h
  rfl
 obtain⟨x,dx,row,x1,x2,rfl,hx,k⟩:=h
 refine⟨_,(ai (bY (eV DC_Rule___init__ hr (by rfl) (af (pr 0) (af (pr 1) ah))))
 (ai (bU (pr 0) (pr 2) rfl)
 (ao (bU (pr 0) (pr 3) rfl)))),?_⟩
 walk_at "rd";have ln:∀(f:Str) (v:V) (l:List (Str×V)) (n:Nat),l.length≤n→(bO f v l).length≤n+1:=fun f v l n h=>ab8 (bT f v l) (ae1 h);refine⟨x,C,dx,[],row,rfl,hx,TC.cl,TC.n1,by decide,?_⟩;refine⟨C,dx,_,ag,TC.cl,TC.n2,ab6 (ln _ _ _ _ (ac0 0)) (by decide),C,dx,_,ag,TC.cl,TC.n3,ab6 (ln _ _ _ _ (ln _ _ _ _ (ac0 0))) (by decide),?_⟩;rw [cn,cn];exact k
theorem uc{f C:Addr}{fd:FuncData}(F:cT K "back_of" "back_of" kL f fd)(T:Txt mg aM)(D_are_voices:cJ P w K mg base "are_voices" 3 ["numbers","voices"] (cR K))(DM_Back:e7 P w K mg base "Back" C 2 ["self","row","voice","widest"] (jm K C)):aH P w K mg base cb 4 f fd ["row","numbers","voices"] (j0 K C):=by
 refine F.ok uw (fun vs H Q E h=>?_) (fun cdv A outer s H vs Q E hr h=>?_)
 ·obtain⟨q,row,x1,x2,nv,rfl,_⟩:=h
  rfl
 obtain⟨q,row,x1,x2,nv,rfl,hq,b1,b2,b3,k⟩:=h
 refine⟨_,(ai (br (PW.pt (de (bp (az zS (aB (aP K) (by rfl) T.n_len boot_len (af (pr 1) ah)) aj (aE _))) (de (dv (bE (aC D_are_voices hr (by rfl) (af (bQ (g6 K) (pr 1) cQ (gH aj)) (af (pr 2) ah))) (fun _=>rfl))) (cM (bp (az (o0 qr) (aU (bJ K) (pr 1) aj (fun _ _=>rfl)) aj (aE _))))))) (ao (ax aR)) aJ)
 (ao (ax (ij DM_Back hr (by rfl) (af (pr 0) (af (aU (bJ K) (pr 1) aj (fun _ _=>rfl)) (af (aU (bJ K) (pr 1) aj (fun _ _=>rfl)) ah))))))),?_⟩
 walk_at "rd";have hs:sizeLine=16777216:=sizeLine_eq;refine⟨_,.inl hq,?_⟩;walk_at "rd";rw [if_pos (show(((0:Nat)+1+1:Nat):Int)=2 from rfl)];refine dP hq fun q1 hq1=>?_;rw [show(some (1:Int))=some ((1:Nat):Int)from rfl,fS];have s1:au H (upd H q1 (.lst (([x1,x2].map V.int).take 1))):=av hq1;refine⟨q1,[x1],nv,rfl,aT.of ag,by simp,fun H1 s2=>?_⟩;rw [show([x1].all fun n=>decide (1≤n) && decide (n≤nv))=true by simp;omega];walk_at "rd";have s3:=s1.trans s2;have hq3:=s3.seq hq;refine bH hq3 (show fm _ ((1:Nat):Int)=_ from aO rfl) ?_;walk_at "rd";rw [if_neg (show ¬(x2 < 0)by omega)];refine bH hq3 (bw rfl) (bH hq3 (show fm _ ((1:Nat):Int)=_ from aO rfl) ?_);show ∀x dx:Addr,_;intro x dx hx hdx hne;have s5:au H (upd (upd H1 dx (.own x)) x (.ins C dx [])):=(s3.upd hdx).upd (by rw [ak (Ne.symm hne)];exact hx);refine⟨x,dx,row,x1,x2,rfl,ag,rfl,?_⟩;refine k x _ ?_ ⟨dx,ag⟩;intro c o hc;rw [ak (ar (s3 _ _ hc) hx)];exact s5 _ _ hc
theorem qg{f:Addr}{fd:FuncData}(F:cT K "size" "Back.size" ip f fd):aH P w K mg base cb 1 f fd ["self"] (bI 1 fun _=>.int 3):=by
 refine F.ok qS (fun vs H Q E h=>h.1) (fun cdv A outer s H vs Q E hr h=>?_);obtain⟨hl,k⟩:=h
 match vs,hl with
 | [a],_=>
 refine⟨_,(ao (ax aj)),?_⟩;walk_at "rd";exact k
theorem og{f:Addr}{fd:FuncData}(F:cT K "start" "Back.start" gK f fd)(T:Txt mg aM):aH P w K mg base cb 1 f fd ["self"] (bI 1 fun _=>.int 0):=by
 refine F.ok oF (fun vs H Q E h=>h.1) (fun cdv A outer s H vs Q E hr h=>?_);obtain⟨hl,k⟩:=h
 match vs,hl with
 | [a],_=>
 refine⟨_,(ao (ax (d6 T.g_NO_LEAP))),?_⟩;walk_at "rd";exact k
def jG(m:Int):Prop:=0≤m∧m≤2
theorem m7{f C:Addr}{fd:FuncData}{row:Str}{x1 x2:Int}{nv:Nat}(F:cT K "closes" "Back.closes" gf f fd)(T:Txt mg aM):aH P w K mg base cb 1 f fd ["self","memory","last"] (fO K nv (eG C row x1 x2) (ez x1 x2) jG):=by
 refine F.ok nE (fun vs H Q E h=>?_) (fun cdv A outer s H vs Q E hr h=>?_)
 ·obtain⟨r,m,x,bb,rfl,_⟩:=h
  rfl
 obtain⟨r,m,x,bb,rfl,_,_,_,k⟩:=h;refine⟨_,(ao (ax (gG sr (pr 1) (d6 T.g_NO_LEAP) (aE _)))),?_⟩;walk_at "rd";exact k
theorem oa{f C:Addr}{fd:FuncData}{row:Str}{x1 x2:Int}{nv:Nat}(F:cT K "after" "Back.after" gJ f fd)(T:Txt mg aM)(TC:jv K C)(ha:1≤x1∧x1≤nv)(D_move:cJ P w K mg base "move" 2 ["before","column","voice"] (j5 K)):aH P w K mg base cb 3 f fd ["self","memory","before","column"] (bK K nv (eG C row x1 x2) (ez x1 x2) jG):=by
 refine F.ok sc_Back_after (fun vs H Q E h=>?_) (fun cdv A outer s H vs Q E hr h=>?_)
 ·obtain⟨r,m,x,c,bb,us,rfl,_⟩:=h
  rfl
 obtain⟨r,m,x,c,bb,us,rfl,⟨dx,hr1⟩,_,hbv,hc,hu,k⟩:=h
 refine⟨_,(ai (br (bp (az fc (pr 2) aR (aE _))) (ao (ax (d6 T.g_NO_LEAP))) aJ)
 (ai (aD (i:=4) sc_Back_after.nd rfl (Or.inl rfl) (aC D_move hr (by rfl) (af (pr 2) (af (pr 3) (af (aY (pr 0) rfl) ah)))))
 (ai (br (PW.pt (de (PW.pt (ik (bp (az sr (pr 1) (d6 T.g_LEAP_UP) (aE _))) (gI (bp (az (o0 yP) (pr 4) aj (aE _)))))) (cM (PW.pt (ik (bp (az sr (pr 1) (d6 T.g_LEAP_DOWN) (aE _))) (gI (bp (az (o0 ib) (pr 4) aj (aE _))))))))) (ao (ax aR)) aJ)
 (ai (br (bp (az (o0 lO) (pr 4) (aY (pr 0) rfl) (aE _))) (ao (ax (d6 T.g_LEAP_UP))) aJ)
 (ao (ax (dm (bp (az (o0 qr) (pr 4) (aw (o0 dZ) aj (aY (pr 0) rfl)) (aE _))) (d6 T.g_LEAP_DOWN) (d6 T.g_NO_LEAP)))))))),?_⟩
 have l1:(er row x1 x2).lookup (Str.ofString "voice")=some (.int x1):=by unfold er;walk_at "flds"
 have l2:(er row x1 x2).lookup (Str.ofString "widest")=some (.int x2):=by unfold er;walk_at "flds"
 refine gD fun A0 B0 hA0 hB0=>?_;walk_at "rd";rcases hbv with⟨rfl,rfl⟩ | ⟨a,bs,rfl,rfl,hba,hbl⟩
 ·rw [if_pos rfl]
  exact hA0 _ k
 rw [if_neg (fun z=>by cases z)];refine hB0 _ (EV fun k1 hk1=>?_);walk_at "rd";refine⟨C,dx,_,hr1,TC.cl,TC.n2,_,l1,a,c,x1,bs,us,rfl,hba,hc,ha.1,by rw [hbl];exact ha.2,by rw [hu];exact ha.2,?_⟩;simp only [ez]at k;generalize aS us x1 - aS bs x1=stp at k ⊢;refine hk1 _ _ (gD fun A1 B1 hA1 hB1=>?_);walk_at "rd"
 by_cases hB:(m=1∧0≤stp)∨(m=2∧stp≤0)
 ·rw [if_pos hB]at k
  rcases hB with⟨h1,h2⟩ | ⟨h1,h2⟩
  ·rw [if_pos h1,if_pos h2]
   exact hA1 _ k
  ·rw [if_neg (show ¬(m=1)by omega),if_pos h1,if_pos h2]
   exact hA1 _ k
 rw [if_neg hB]at k
 have hb1:B1 H:=by
  refine hB1 _ (gD fun A2 B2 hA2 hB2=>?_);walk_at "rd";refine⟨C,dx,_,hr1,TC.cl,TC.n3,_,l2,_,rfl,?_⟩
  by_cases h3:x2 < stp
  ·rw [if_pos h3]
   rw [if_pos (show stp > x2 from h3)]at k;exact hA2 _ k
  rw [if_neg h3];rw [if_neg (show ¬(stp > x2)from h3)]at k;refine hB2 _ ?_;walk_at "rd";refine⟨C,dx,_,hr1,TC.cl,TC.n3,_,l2,_,rfl,?_⟩
  by_cases h4:stp < 0 - x2
  ·rw [if_pos h4]
   rw [if_pos h4]at k;exact k
  ·rw [if_neg h4]
   rw [if_neg h4]at k;exact k
 by_cases h1:m=1
 ·rw [if_pos h1,if_neg (fun z=>hB (.inl ⟨h1,z⟩)),if_neg (show ¬(m=2)by omega)]
  exact hb1
 rw [if_neg h1]
 by_cases h2:m=2
 ·rw [if_pos h2,if_neg (fun z=>hB (.inr ⟨h2,z⟩))]
  exact hb1
 rw [if_neg h2];exact hb1
theorem xI{C:Addr}{row:Str}{x1 x2:Int}{nv:Nat}(TC:jv K C)(h1:aA P w K mg base C "size" 7 ["self"] (bI 1 fun _=>.int 3))(h2:aA P w K mg base C "start" 7 ["self"] (bI 1 fun _=>.int 0))(h3:aA P w K mg base C "closes" 7 ["self","memory","last"] (fO K nv (eG C row x1 x2) (ez x1 x2) jG))
  (h4:aA P w K mg base C "after" 7 ["self","memory","before","column"] (bK K nv (eG C row x1 x2) (ez x1 x2) jG)):bz P w K mg base 7 nv C (ez x1 x2) (eG C row x1 x2) jG:=by
 refine⟨fun r H H' s h=>?_,fun r H h=>?_,⟨show(0:Int)≤0 by decide,show(0:Int)≤2 by decide⟩,fun m b us m' _ e=>?_,h1.imp ?_,h2.imp ?_,h4,h3⟩
 ·obtain⟨dx,e1⟩:=h
  exact⟨dx,s _ _ e1⟩
 ·obtain⟨dx,e1⟩:=h
  refine⟨dx,_,e1,?_,?_,?_,?_,?_⟩<;>(unfold er;walk_at "flds")
 ·simp only [ez]at e
  cases b with
  | none=>cases e;exact⟨by decide,by decide⟩
  | some bs=>
   simp only at e
   split at e
   ·cases e
   split at e
   ·cases e;exact⟨by decide,by decide⟩
   split at e
   ·cases e;exact⟨by decide,by decide⟩
   ·cases e;exact⟨by decide,by decide⟩
 ·rintro vs H Q E ⟨r,rfl,_,q⟩
  exact⟨rfl,q⟩
 ·rintro vs H Q E ⟨r,rfl,_,q⟩
  exact⟨rfl,q⟩
theorem qh{f C:Addr}{fd:FuncData}(F:cT K "__init__" "Held.__init__" ff f fd)(T:Txt mg aM)(TC:iH K C)(DC_Rule___init__:mE P w K mg base "Rule" "__init__" 1 ["self","row"] (cY K)):aH P w K mg base cb 2 f fd ["self","row","voice","most"] (jo K C):=by
 refine F.ok kW (fun vs H Q E h=>?_) (fun cdv A outer s H vs Q E hr h=>?_)
 ·obtain⟨x,dx,row,x1,x2,rfl,_⟩:=h
  rfl
 obtain⟨x,dx,row,x1,x2,rfl,hx,k⟩:=h
 refine⟨_,(ai (bY (eV DC_Rule___init__ hr (by rfl) (af (pr 0) (af (pr 1) ah))))
 (ai (bU (pr 0) (pr 2) rfl)
 (ao (bU (pr 0) (pr 3) rfl)))),?_⟩
 walk_at "rd";have ln:∀(f:Str) (v:V) (l:List (Str×V)) (n:Nat),l.length≤n→(bO f v l).length≤n+1:=fun f v l n h=>ab8 (bT f v l) (ae1 h);refine⟨x,C,dx,[],row,rfl,hx,TC.cl,TC.n1,by decide,?_⟩;refine⟨C,dx,_,ag,TC.cl,TC.n2,ab6 (ln _ _ _ _ (ac0 0)) (by decide),C,dx,_,ag,TC.cl,TC.n3,ab6 (ln _ _ _ _ (ln _ _ _ _ (ac0 0))) (by decide),?_⟩;rw [cn,cn];exact k
theorem ue{f C:Addr}{fd:FuncData}(F:cT K "held_of" "held_of" kM f fd)(T:Txt mg aM)(D_are_voices:cJ P w K mg base "are_voices" 3 ["numbers","voices"] (cR K))(DM_Held:e7 P w K mg base "Held" C 2 ["self","row","voice","most"] (jo K C)):aH P w K mg base cb 4 f fd ["row","numbers","voices"] (j3 K C):=by
 refine F.ok ux (fun vs H Q E h=>?_) (fun cdv A outer s H vs Q E hr h=>?_)
 ·obtain⟨q,row,x1,x2,nv,rfl,_⟩:=h
  rfl
 obtain⟨q,row,x1,x2,nv,rfl,hq,b1,b2,b3,k⟩:=h
 refine⟨_,(ai (br (PW.pt (de (bp (az zS (aB (aP K) (by rfl) T.n_len boot_len (af (pr 1) ah)) aj (aE _))) (de (dv (bE (aC D_are_voices hr (by rfl) (af (bQ (g6 K) (pr 1) cQ (gH aj)) (af (pr 2) ah))) (fun _=>rfl))) (cM (bp (az (o0 qr) (aU (bJ K) (pr 1) aj (fun _ _=>rfl)) aj (aE _))))))) (ao (ax aR)) aJ)
 (ao (ax (ij DM_Held hr (by rfl) (af (pr 0) (af (aU (bJ K) (pr 1) aj (fun _ _=>rfl)) (af (aU (bJ K) (pr 1) aj (fun _ _=>rfl)) ah))))))),?_⟩
 walk_at "rd";have hs:sizeLine=16777216:=sizeLine_eq;refine⟨_,.inl hq,?_⟩;walk_at "rd";rw [if_pos (show(((0:Nat)+1+1:Nat):Int)=2 from rfl)];refine dP hq fun q1 hq1=>?_;rw [show(some (1:Int))=some ((1:Nat):Int)from rfl,fS];have s1:au H (upd H q1 (.lst (([x1,x2].map V.int).take 1))):=av hq1;refine⟨q1,[x1],nv,rfl,aT.of ag,by simp,fun H1 s2=>?_⟩;rw [show([x1].all fun n=>decide (1≤n) && decide (n≤nv))=true by simp;omega];walk_at "rd";have s3:=s1.trans s2;have hq3:=s3.seq hq;refine bH hq3 (show fm _ ((1:Nat):Int)=_ from aO rfl) ?_;walk_at "rd";rw [if_neg (show ¬(x2 < 1)by omega)];refine bH hq3 (bw rfl) (bH hq3 (show fm _ ((1:Nat):Int)=_ from aO rfl) ?_);show ∀x dx:Addr,_;intro x dx hx hdx hne;have s5:au H (upd (upd H1 dx (.own x)) x (.ins C dx [])):=(s3.upd hdx).upd (by rw [ak (Ne.symm hne)];exact hx);refine⟨x,dx,row,x1,x2,rfl,ag,rfl,?_⟩;refine k x _ ?_ ⟨dx,ag⟩;intro c o hc;rw [ak (ar (s3 _ _ hc) hx)];exact s5 _ _ hc
theorem qj{f C:Addr}{fd:FuncData}{row:Str}{x1 x2:Int}(F:cT K "size" "Held.size" iq f fd)(TC:iH K C):aH P w K mg base cb 1 f fd ["self"] (l8 (eH C row x1 x2) (.int x2)):=by
 refine F.ok qT (fun vs H Q E h=>?_) (fun cdv A outer s H vs Q E hr h=>?_)
 ·obtain⟨r,rfl,_⟩:=h
  rfl
 obtain⟨r,rfl,⟨dx,hr1⟩,k⟩:=h;refine⟨_,(ao (ax (aY (pr 0) rfl))),?_⟩;walk_at "rd"
 have l2:(dG row x1 x2).lookup (Str.ofString "most")=some (.int x2):=by unfold dG;walk_at "flds"
 exact⟨C,dx,_,hr1,TC.cl,TC.n3,_,l2,k⟩
theorem oo{f C:Addr}{fd:FuncData}{row:Str}{x1 x2:Int}{nv:Nat}(F:cT K "after" "Held.after" gM f fd)(T:Txt mg aM)(TC:iH K C)(ha:1≤x1∧x1≤nv)(D_note_in:cJ P w K mg base "note_in" 2 ["column","voice"] (gz K)):aH P w K mg base cb 3 f fd ["self","memory","before","column"] (bK K nv (eH C row x1 x2) (fU x1 x2) (pB x2)):=by
 refine F.ok oH (fun vs H Q E h=>?_) (fun cdv A outer s H vs Q E hr h=>?_)
 ·obtain⟨r,m,x,c,bb,us,rfl,_⟩:=h
  rfl
 obtain⟨r,m,x,c,bb,us,rfl,⟨dx,hr1⟩,_,hbv,hc,hu,k⟩:=h
 refine⟨_,(ai (br (PW.pt (de (bp (az fc (pr 2) aR (aE _))) (cM (bp (az zS (aC D_note_in hr (by rfl) (af (pr 2) (af (aY (pr 0) rfl) ah))) (aC D_note_in hr (by rfl) (af (pr 3) (af (aY (pr 0) rfl) ah))) (aE _)))))) (ao (ax aj)) aJ)
 (ao (ax (dm (bp (az (o0 qr) (aw (bq K) (pr 1) aj) (aY (pr 0) rfl) (aE _))) (aw (bq K) (pr 1) aj) aR)))),?_⟩
 walk_at "rd"
 have l1:(dG row x1 x2).lookup (Str.ofString "voice")=some (.int x1):=by unfold dG;walk_at "flds"
 have l2:(dG row x1 x2).lookup (Str.ofString "most")=some (.int x2):=by unfold dG;walk_at "flds"
 rcases hbv with⟨rfl,rfl⟩ | ⟨a,bs,rfl,rfl,hba,hbl⟩
 ·rw [if_pos rfl]
  exact k
 rw [if_neg (fun z=>by cases z)];refine⟨C,dx,_,hr1,TC.cl,TC.n2,_,l1,a,x1,bs,rfl,hba,ha.1,by rw [hbl];exact ha.2,C,dx,_,hr1,TC.cl,TC.n2,_,l1,c,x1,us,rfl,hc,ha.1,by rw [hu];exact ha.2,?_⟩;walk_at "rd";simp only [fU]at k
 by_cases h:aS bs x1=aS us x1
 ·rw [if_pos h]
  rw [if_pos h]at k;refine⟨C,dx,_,hr1,TC.cl,TC.n3,_,l2,_,rfl,?_⟩
  by_cases h2:m+1 < x2
  ·rw [if_pos h2]
   rw [if_pos h2]at k;exact k
  ·rw [if_neg h2]
   rw [if_neg h2]at k;exact k
 ·rw [if_neg h]
  rw [if_neg h]at k;exact k
theorem yi{C:Addr}{row:Str}{x1 x2:Int}{nv:Nat}(h0:1≤x2)(TC:iH K C)(h1:aA P w K mg base C "size" 7 ["self"] (l8 (eH C row x1 x2) (.int x2)))(h2:aA P w K mg base C "start" 7 ["self"] (bI 1 fun _=>.int 0))(h3:aA P w K mg base C "closes" 7 ["self","memory","last"] (bI 3 fun _=>.bl true))
  (h4:aA P w K mg base C "after" 7 ["self","memory","before","column"] (bK K nv (eH C row x1 x2) (fU x1 x2) (pB x2))):bz P w K mg base 7 nv C (fU x1 x2) (eH C row x1 x2) (pB x2):=by
 refine⟨fun r H H' s h=>?_,fun r H h=>?_,⟨show(0:Int)≤0 by decide,show(0:Int) < x2 by omega⟩,fun m b us m' hm e=>?_,h1,h2.imp ?_,h4,h3.imp ?_⟩
 ·obtain⟨dx,e1⟩:=h
  exact⟨dx,s _ _ e1⟩
 ·obtain⟨dx,e1⟩:=h
  refine⟨dx,_,e1,?_,?_,?_,?_,?_⟩<;>(unfold dG;walk_at "flds")
 ·simp only [fU]at e
  obtain⟨m0,m1⟩:=hm
  cases b with
  | none=>cases e;exact⟨by decide,by omega⟩
  | some bs=>
   simp only at e
   split at e
   ·split at e
    ·cases e;exact⟨by omega,by omega⟩
    ·cases e
   ·cases e;exact⟨by decide,by omega⟩
 ·rintro vs H Q E ⟨r,rfl,_,q⟩
  exact⟨rfl,q⟩
 ·rintro vs H Q E ⟨r,m,x,b,rfl,_,_,_,q⟩
  exact⟨rfl,q⟩
theorem ox{f C:Addr}{fd:FuncData}(F:cT K "__init__" "Times.__init__" eP f fd)(T:Txt mg aM)(TC:fA K C)(DC_Rule___init__:mE P w K mg base "Rule" "__init__" 1 ["self","row"] (cY K)):aH P w K mg base cb 2 f fd ["self","row","voice","note","fewest","most"] (iE K C):=by
 refine F.ok jZ (fun vs H Q E h=>?_) (fun cdv A outer s H vs Q E hr h=>?_)
 ·obtain⟨x,dx,row,x1,x2,x3,x4,rfl,_⟩:=h
  rfl
 obtain⟨x,dx,row,x1,x2,x3,x4,rfl,hx,k⟩:=h
 refine⟨_,(ai (bY (eV DC_Rule___init__ hr (by rfl) (af (pr 0) (af (pr 1) ah))))
 (ai (bU (pr 0) (pr 2) rfl)
 (ai (bU (pr 0) (pr 3) rfl)
 (ai (bU (pr 0) (pr 4) rfl)
 (ao (bU (pr 0) (pr 5) rfl)))))),?_⟩
 walk_at "rd";have ln:∀(f:Str) (v:V) (l:List (Str×V)) (n:Nat),l.length≤n→(bO f v l).length≤n+1:=fun f v l n h=>ab8 (bT f v l) (ae1 h);refine⟨x,C,dx,[],row,rfl,hx,TC.cl,TC.n1,by decide,?_⟩;refine⟨C,dx,_,ag,TC.cl,TC.n2,ab6 (ln _ _ _ _ (ac0 0)) (by decide),C,dx,_,ag,TC.cl,TC.n3,ab6 (ln _ _ _ _ (ln _ _ _ _ (ac0 0))) (by decide),C,dx,_,ag,TC.cl,TC.n4,ab6 (ln _ _ _ _ (ln _ _ _ _ (ln _ _ _ _ (ac0 0)))) (by decide),C,dx,_,ag,TC.cl,TC.n5,ab6 (ln _ _ _ _ (ln _ _ _ _ (ln _ _ _ _ (ln _ _ _ _ (ac0 0))))) (by decide),?_⟩;rw [cn,cn,cn,cn];exact k
theorem sy{f C:Addr}{fd:FuncData}(F:cT K "times_of" "times_of" jl f fd)(T:Txt mg aM)(D_are_voices:cJ P w K mg base "are_voices" 3 ["numbers","voices"] (cR K))(DM_Times:e7 P w K mg base "Times" C 2 ["self","row","voice","note","fewest","most"] (iE K C)):aH P w K mg base cb 4 f fd ["row","numbers","voices"] (iV K C):=by
 refine F.ok sV (fun vs H Q E h=>?_) (fun cdv A outer s H vs Q E hr h=>?_)
 ·obtain⟨q,row,x1,x2,x3,x4,nv,rfl,_⟩:=h
  rfl
 obtain⟨q,row,x1,x2,x3,x4,nv,rfl,hq,b1,b2,b3,b4,k⟩:=h
 refine⟨_,(ai (br (PW.pt (de (bp (az zS (aB (aP K) (by rfl) T.n_len boot_len (af (pr 1) ah)) aj (aE _))) (de (dv (bE (aC D_are_voices hr (by rfl) (af (bQ (g6 K) (pr 1) cQ (gH aj)) (af (pr 2) ah))) (fun _=>rfl))) (cM (bp (az (o0 qr) (aB (vX rfl K) (by rfl) T.n_min boot_min (af (bQ (g6 K) (pr 1) (gH aj) cQ) ah)) aj (aE _))))))) (ao (ax aR)) aJ)
 (ao (ax (ij DM_Times hr (by rfl) (af (pr 0) (af (aU (bJ K) (pr 1) aj (fun _ _=>rfl)) (af (aU (bJ K) (pr 1) aj (fun _ _=>rfl)) (af (aU (bJ K) (pr 1) aj (fun _ _=>rfl)) (af (aU (bJ K) (pr 1) aj (fun _ _=>rfl)) ah))))))))),?_⟩
 walk_at "rd";have hs:sizeLine=16777216:=sizeLine_eq;refine⟨_,.inl hq,?_⟩;walk_at "rd";rw [if_pos (show(((0:Nat)+1+1+1+1:Nat):Int)=4 from rfl)];refine dP hq fun q1 hq1=>?_;rw [show(some (1:Int))=some ((1:Nat):Int)from rfl,fS];have s1:au H (upd H q1 (.lst (([x1,x2,x3,x4].map V.int).take 1))):=av hq1;refine⟨q1,[x1],nv,rfl,aT.of ag,by simp,fun H1 s2=>?_⟩;rw [show([x1].all fun n=>decide (1≤n) && decide (n≤nv))=true by simp;omega];walk_at "rd";have s3:=s1.trans s2;have hq3:=s3.seq hq;refine dP hq3 fun q4 hq4=>?_;rw [show(some (2:Int))=some ((2:Nat):Int)from rfl,ee];have s4:au H (upd H1 q4 (.lst (([x1,x2,x3,x4].map V.int).drop 2))):=s3.upd hq4;have hm:(upd H1 q4 (.lst (([x1,x2,x3,x4].map V.int).drop 2))) q4=some (.lst ([x3,x4].map V.int)):=ag;generalize upd H1 q4 (.lst (([x1,x2,x3,x4].map V.int).drop 2))=H2 at s4 hm;refine⟨q4,rfl,[x3,x4],aT.of hm,by simp,fun i hi=>?_⟩
 have hi0:0≤i:=by
  rcases aa6.mp hi with rfl | hi
  ·exact b3
  ·rw [ad3.mp hi];exact b4
 walk_at "rd";rw [if_neg (show ¬(i < 0)by omega)];have hq5:=s4.seq hq;refine bH hq5 (bw rfl) (bH hq5 (show fm _ ((1:Nat):Int)=_ from aO rfl) (bH hq5 (show fm _ ((2:Nat):Int)=_ from aO rfl) (bH hq5 (show fm _ ((3:Nat):Int)=_ from aO rfl) ?_)));show ∀x dx:Addr,_;intro x dx hx hdx hne;have s5:au H (upd (upd H2 dx (.own x)) x (.ins C dx [])):=(s4.upd hdx).upd (by rw [ak (Ne.symm hne)];exact hx);refine⟨x,dx,row,x1,x2,x3,x4,rfl,ag,rfl,?_⟩;refine k x _ ?_ ⟨dx,ag⟩;intro c o hc;rw [ak (ar (s4 _ _ hc) hx)];exact s5 _ _ hc
theorem oy{f C:Addr}{fd:FuncData}{row:Str}{x1 x2 x3 x4:Int}(F:cT K "size" "Times.size" gP f fd)(TC:fA K C):aH P w K mg base cb 1 f fd ["self"] (l8 (dh C row x1 x2 x3 x4) (.int (x4+1))):=by
 refine F.ok oO (fun vs H Q E h=>?_) (fun cdv A outer s H vs Q E hr h=>?_)
 ·obtain⟨r,rfl,_⟩:=h
  rfl
 obtain⟨r,rfl,⟨dx,hr1⟩,k⟩:=h;refine⟨_,(ao (ax (aw (bq K) (aY (pr 0) rfl) aj))),?_⟩;walk_at "rd"
 have l5:(bR row x1 x2 x3 x4).lookup (Str.ofString "most")=some (.int x4):=by unfold bR;walk_at "flds"
 refine⟨C,dx,_,hr1,TC.cl,TC.n5,_,l5,?_⟩;walk_at "rd";exact k
theorem lZ{f C:Addr}{fd:FuncData}{row:Str}{x1 x2 x3 x4:Int}{nv:Nat}(F:cT K "closes" "Times.closes" fJ f fd)(TC:fA K C):aH P w K mg base cb 1 f fd ["self","memory","last"] (fO K nv (dh C row x1 x2 x3 x4) (dR x1 x2 x3 x4) (jH x4)):=by
 refine F.ok l7 (fun vs H Q E h=>?_) (fun cdv A outer s H vs Q E hr h=>?_)
 ·obtain⟨r,m,x,bb,rfl,_⟩:=h
  rfl
 obtain⟨r,m,x,bb,rfl,⟨dx,hr1⟩,_,_,k⟩:=h;refine⟨_,(ao (ax (gG (o0 yP) (pr 1) (aY (pr 0) rfl) (aE _)))),?_⟩;walk_at "rd"
 have l4:(bR row x1 x2 x3 x4).lookup (Str.ofString "fewest")=some (.int x3):=by unfold bR;walk_at "flds"
 refine⟨C,dx,_,hr1,TC.cl,TC.n4,_,l4,?_⟩;walk_at "rd";exact k
theorem nc{f C:Addr}{fd:FuncData}{row:Str}{x1 x2 x3 x4:Int}{nv:Nat}(F:cT K "after" "Times.after" gi f fd)(T:Txt mg aM)(TC:fA K C)(ha:1≤x1∧x1≤nv)(D_note_in:cJ P w K mg base "note_in" 2 ["column","voice"] (gz K)):aH P w K mg base cb 3 f fd ["self","memory","before","column"] (bK K nv (dh C row x1 x2 x3 x4) (dR x1 x2 x3 x4) (jH x4)):=by
 refine F.ok nI (fun vs H Q E h=>?_) (fun cdv A outer s H vs Q E hr h=>?_)
 ·obtain⟨r,m,x,c,bb,us,rfl,_⟩:=h
  rfl
 obtain⟨r,m,x,c,bb,us,rfl,⟨dx,hr1⟩,_,hbv,hc,hu,k⟩:=h
 refine⟨_,(ai (br (bp (az zS (aC D_note_in hr (by rfl) (af (pr 3) (af (aY (pr 0) rfl) ah))) (aY (pr 0) rfl) (aE _))) (ao (ax (pr 1))) aJ)
 (ao (ax (dm (bp (az (o0 qr) (pr 1) (aY (pr 0) rfl) (aE _))) (aw (bq K) (pr 1) aj) aR)))),?_⟩
 walk_at "rd"
 have l1:(bR row x1 x2 x3 x4).lookup (Str.ofString "voice")=some (.int x1):=by unfold bR;walk_at "flds"
 have l2:(bR row x1 x2 x3 x4).lookup (Str.ofString "note")=some (.int x2):=by unfold bR;walk_at "flds"
 have l5:(bR row x1 x2 x3 x4).lookup (Str.ofString "most")=some (.int x4):=by unfold bR;walk_at "flds"
 refine⟨C,dx,_,hr1,TC.cl,TC.n2,_,l1,c,x1,us,rfl,hc,ha.1,by rw [hu];exact ha.2,C,dx,_,hr1,TC.cl,TC.n3,_,l2,?_⟩;walk_at "rd";simp only [dR]at k
 by_cases h:aS us x1=x2
 ·rw [if_pos h]
  rw [if_pos h]at k;refine⟨C,dx,_,hr1,TC.cl,TC.n5,_,l5,_,rfl,?_⟩
  by_cases h2:m < x4
  ·rw [if_pos h2]
   rw [if_pos h2]at k;exact k
  ·rw [if_neg h2]
   rw [if_neg h2]at k;exact k
 ·rw [if_neg h]
  rw [if_neg h]at k;exact k
theorem xt{C:Addr}{row:Str}{x1 x2 x3 x4:Int}{nv:Nat}(h0:0≤x4)(TC:fA K C)(h1:aA P w K mg base C "size" 7 ["self"] (l8 (dh C row x1 x2 x3 x4) (.int (x4+1))))(h2:aA P w K mg base C "start" 7 ["self"] (bI 1 fun _=>.int 0))(h3:aA P w K mg base C "closes" 7 ["self","memory","last"] (fO K nv (dh C row x1 x2 x3 x4) (dR x1 x2 x3 x4) (jH x4)))
  (h4:aA P w K mg base C "after" 7 ["self","memory","before","column"] (bK K nv (dh C row x1 x2 x3 x4) (dR x1 x2 x3 x4) (jH x4))):bz P w K mg base 7 nv C (dR x1 x2 x3 x4) (dh C row x1 x2 x3 x4) (jH x4):=by
 refine⟨fun r H H' s h=>?_,fun r H h=>?_,⟨show(0:Int)≤0 by decide,show(0:Int)≤x4 by omega⟩,fun m b us m' hm e=>?_,h1,h2.imp ?_,h4,h3⟩
 ·obtain⟨dx,e1⟩:=h
  exact⟨dx,s _ _ e1⟩
 ·obtain⟨dx,e1⟩:=h
  refine⟨dx,_,e1,?_,?_,?_,?_,?_⟩<;>(unfold bR;walk_at "flds")
 ·simp only [dR]at e
  obtain⟨m0,m1⟩:=hm
  split at e
  ·split at e
   ·cases e;exact⟨by omega,by omega⟩
   ·cases e
  ·cases e;exact⟨m0,m1⟩
 ·rintro vs H Q E ⟨r,rfl,_,q⟩
  exact⟨rfl,q⟩
theorem oj{f C:Addr}{fd:FuncData}(F:cT K "__init__" "Every.__init__" eL f fd)(T:Txt mg aM)(TC:gr K C)(DC_Rule___init__:mE P w K mg base "Rule" "__init__" 1 ["self","row"] (cY K)):aH P w K mg base cb 2 f fd ["self","row","turns","turn","inner"] (iC K C):=by
 refine F.ok jX (fun vs H Q E h=>?_) (fun cdv A outer s H vs Q E hr h=>?_)
 ·obtain⟨x,dx,ri,row,t,u,rfl,_⟩:=h
  rfl
 obtain⟨x,dx,ri,row,t,u,rfl,hx,k⟩:=h
 refine⟨_,(ai (bY (eV DC_Rule___init__ hr (by rfl) (af (pr 0) (af (pr 1) ah))))
 (ai (bU (pr 0) (pr 2) rfl)
 (ai (bU (pr 0) (pr 3) rfl)
 (ao (bU (pr 0) (pr 4) rfl))))),?_⟩
 walk_at "rd";have ln:∀(f:Str) (v:V) (l:List (Str×V)) (n:Nat),l.length≤n→(bO f v l).length≤n+1:=fun f v l n h=>ab8 (bT f v l) (ae1 h);refine⟨x,C,dx,[],row,rfl,hx,TC.cl,TC.n1,by decide,?_⟩;refine⟨C,dx,_,ag,TC.cl,TC.n2,ab6 (ln _ _ _ _ (ac0 0)) (by decide),C,dx,_,ag,TC.cl,TC.n3,ab6 (ln _ _ _ _ (ln _ _ _ _ (ac0 0))) (by decide),C,dx,_,ag,TC.cl,TC.n4,ab6 (ln _ _ _ _ (ln _ _ _ _ (ln _ _ _ _ (ac0 0)))) (by decide),?_⟩;rw [cn,cn,cn];exact k
theorem om{f C:Addr}{fd:FuncData}{row:Str}{t u:Int}{RIn:ju}(F:cT K "size" "Every.size" gL f fd)(TC:gr K C):aH P w K mg base cb 1 f fd ["self"] (l8 (d4 C row t u RIn) (.int t)):=by
 refine F.ok oG (fun vs H Q E h=>?_) (fun cdv A outer s H vs Q E hr h=>?_)
 ·obtain⟨r,rfl,_⟩:=h
  rfl
 obtain⟨r,rfl,⟨dx,ri,hr1,_⟩,k⟩:=h;refine⟨_,(ao (ax (aY (pr 0) rfl))),?_⟩;walk_at "rd"
 have l2:(bW row t u ri).lookup (Str.ofString "turns")=some (.int t):=by unfold bW;walk_at "flds"
 exact⟨C,dx,_,hr1,TC.cl,TC.n2,_,l2,k⟩
theorem m9{f C Cn:Addr}{fd:FuncData}{row:Str}{t u:Int}{nv:Nat}{S:fb}{RIn:ju}{G:Int→Prop}(F:cT K "after" "Every.after" gh f fd)(T:Txt mg aM)(TC:gr K C)(ht:0 < t)(R:bz P w K mg base 4 nv Cn S RIn G):aH P w K mg base cb 5 f fd ["self","memory","before","column"] (bK K nv (d4 C row t u RIn) (eX t u S) (mY t)):=by
 refine F.ok nG (fun vs H Q E h=>?_) (fun cdv A outer s H vs Q E hr h=>?_)
 ·obtain⟨r,m,x,c,bb,us,rfl,_⟩:=h
  rfl
 obtain⟨r,m,x,c,bb,us,rfl,⟨dx,ri,hr1,hin⟩,_,hbv,hc,hu,k⟩:=h
 refine⟨_,(ai (br (PW.pt (ik (bp (az sr (pr 1) (aY (pr 0) rfl) (aE _))) (gI (bp (az fc (nj P w K mg base hr (aY (pr 0) rfl) (af (iO P w K mg base hr (aY (pr 0) rfl)) (af (pr 2) (af (pr 3) ah)))) aR (aE _)))))) (ao (ax aR)) aJ)
 (ao (ax (aw (o1 cE) (aw (bq K) (pr 1) aj) (aY (pr 0) rfl))))),?_⟩
 walk_at "rd"
 have l2:(bW row t u ri).lookup (Str.ofString "turns")=some (.int t):=by unfold bW;walk_at "flds"
 have l3:(bW row t u ri).lookup (Str.ofString "turn")=some (.int u):=by unfold bW;walk_at "flds"
 have l4:(bW row t u ri).lookup (Str.ofString "inner")=some (.ref ri):=by unfold bW;walk_at "flds"
 refine⟨C,dx,_,hr1,TC.cl,TC.n3,_,l3,?_⟩;walk_at "rd";obtain⟨dx2,fs,hir,q1,q2,q3,q4,q5⟩:=R.ins ri H hin;simp only [eX]at k
 by_cases hm:m=u
 ·rw [if_pos hm]
  rw [if_pos hm]at k;refine⟨C,dx,_,hr1,TC.cl,TC.n4,_,l4,ri,rfl,Cn,dx2,fs,hir,q3,_,_,R.after,C,dx,_,hr1,TC.cl,TC.n4,_,l4,ri,rfl,Cn,dx2,fs,hir,q2,_,_,R.start,ri,rfl,hin,ri,_,x,c,bb,us,rfl,hin,R.g0,hbv,hc,hu,?_⟩
  cases ha:S.after S.start bb us with
  | none=>
   rw [if_pos (show Az none=V.non from rfl)];rw [ha,if_pos rfl]at k;exact k
  | some m'=>
   rw [if_neg (show ¬(Az (some m')=V.non)from fun z=>by cases z)];rw [ha,if_neg (fun z=>by cases z)]at k;exact⟨C,dx,_,hr1,TC.cl,TC.n2,_,l2,_,rfl,ht,k⟩
 ·rw [if_neg hm]
  rw [if_neg hm]at k;exact⟨C,dx,_,hr1,TC.cl,TC.n2,_,l2,_,rfl,ht,k⟩
theorem wC{C Cn:Addr}{row:Str}{t u:Int}{nv:Nat}{S:fb}{RIn:ju}{G:Int→Prop}(ht:0 < t)(TC:gr K C)(R:bz P w K mg base 4 nv Cn S RIn G)(h1:aA P w K mg base C "size" 7 ["self"] (l8 (d4 C row t u RIn) (.int t)))(h2:aA P w K mg base C "start" 7 ["self"] (bI 1 fun _=>.int 0))(h3:aA P w K mg base C "closes" 7 ["self","memory","last"] (bI 3 fun _=>.bl true))
  (h4:aA P w K mg base C "after" 7 ["self","memory","before","column"] (bK K nv (d4 C row t u RIn) (eX t u S) (mY t))):bz P w K mg base 7 nv C (eX t u S) (d4 C row t u RIn) (mY t):=by
 refine⟨fun r H H' s h=>?_,fun r H h=>?_,⟨show(0:Int)≤0 by decide,show(0:Int) < t by omega⟩,fun m b us m' hm e=>?_,h1,h2.imp ?_,h4,h3.imp ?_⟩
 ·obtain⟨dx,ri,e1,e2⟩:=h
  exact⟨dx,ri,s _ _ e1,R.mono _ _ _ s e2⟩
 ·obtain⟨dx,ri,e1,e2⟩:=h
  refine⟨dx,_,e1,?_,?_,?_,?_,?_⟩<;>(unfold bW;walk_at "flds")
 ·simp only [eX]at e
  have hb:mY t ((m+1) % t):=⟨ai9 _ (by omega),ah5 _ ht⟩
  split at e
  ·split at e
   ·cases e
   ·cases e;exact hb
  ·cases e;exact hb
 ·rintro vs H Q E ⟨r,rfl,_,q⟩
  exact⟨rfl,q⟩
 ·rintro vs H Q E ⟨r,m,x,b,rfl,_,_,_,q⟩
  exact⟨rfl,q⟩
theorem oA{f C aI:Addr}{fd:FuncData}(F:cT K "every_rule" "every_rule" gR f fd)(T:Dy mg aM aI)(hI:xG K aI [.str "span",.str "clock"])(D_is_number:cJ P w K mg base "is_number" 8 ["word"] pH)(D_plain_rule:cJ P w K mg base "plain_rule" 8 ["row","voices"] (j7 P w K mg base aM 7))(DM_Every:e7 P w K mg base "Every" C 7 ["self","row","turns","turn","inner"] (iC K C)):aH P w K mg base cb 9 f fd ["row","voices"] (my P w K mg base aM C 7):=by
 refine F.ok sc_every_rule (fun vs H Q E h=>?_) (fun cdv A outer s H vs Q E hr h=>?_)
 ·obtain⟨row,rest,kind,t,u,ns,nv,D,g,sp,RIn,rfl,_⟩:=h
  rfl
 obtain⟨row,rest,kind,t,u,ns,nv,D,g,sp,RIn,rfl,RE,R,hkd,u0,u1,tab,hg,fn,k,mono,kq⟩:=h
 refine⟨_,(ai (aD (i:=2) sc_every_rule.nd rfl (Or.inl rfl) (cG K PySem.F.plainAttrs_str PySem.F.slot_str_split PySem.F.type_str_split wQ (pr 0) (af aZ (af aj ah))))
 (ai (br (PW.pt (de (bp (az zS (aB (aP K) (by rfl) T.n_len boot_len (af (pr 2) ah)) aj (aE _))) (de (dv (bE (aC D_is_number hr (by rfl) (af (aU (bJ K) (pr 2) aj (fun _ _=>rfl)) ah)) (fun _=>rfl))) (cM (dv (bE (aC D_is_number hr (by rfl) (af (aU (bJ K) (pr 2) aj (fun _ _=>rfl)) ah)) (fun _=>rfl))))))) (ao (ax aR)) aJ)
 (ai (aD (i:=3) sc_every_rule.nd rfl (Or.inl rfl) (aW (gu) (by rfl) T.n_int boot_int (af (aU (bJ K) (pr 2) aj (fun _ _=>rfl)) ah)))
 (ai (aD (i:=4) sc_every_rule.nd rfl (Or.inl rfl) (aW (gu) (by rfl) T.n_int boot_int (af (aU (bJ K) (pr 2) aj (fun _ _=>rfl)) ah)))
 (ai (br (PW.pt (de (dv (bp (sG (o0 ib) (o0 qr) aj (pr 4) (pr 3)))) (cM (bp (az (yO K) (aU (bJ K) (cG K PySem.F.plainAttrs_str PySem.F.slot_str_split PySem.F.type_str_split jJ (aU (bJ K) (pr 2) aj (fun _ _=>rfl)) (af aZ ah)) aj (fun _ _=>rfl)) (d6 T.g_INNER_KINDS) (by with_unfolding_all rfl)))))) (ao (ax aR)) aJ)
 (ai (aD (i:=5) sc_every_rule.nd rfl (Or.inl rfl) (aC D_plain_rule hr (by rfl) (af (aU (bJ K) (pr 2) aj (fun _ _=>rfl)) (af (pr 1) ah))))
 (ao (ax (dm (bp (az fc (pr 5) aR (aE _))) aR (ij DM_Every hr (by rfl) (af (pr 0) (af (pr 3) (af (pr 4) (af (pr 5) ah)))))))))))))),?_⟩
 have hs:sizeLine=16777216:=sizeLine_eq;have hl:=RE.len;refine bo (fun σ H'=>∃p:Addr,H' p=some (.lst ([Str.ofString "every",aG t,aG u,rest].map V.str))∧σ=[some (.str row),some (.int nv),some (.ref p),none,none,none]∧au H H') ?_ ?_
 ·intro u' hu
  walk_at "rd";refine⟨32,by decide +kernel,by decide,by decide,by decide,RE.pos,by omega,?_,fun p hp=>?_⟩
  ·rw [show Int.toNat 3=3 from rfl,RE.split];show 4≤_;omega
  ·rw [show Int.toNat 3=3 from rfl,RE.split]
   exact hu _ _ ⟨p,ag,rfl,av hp⟩
 intro Ω ω;rintro _ H0 ⟨p,hp0,rfl,s0⟩;have a0:aT K H0 p ([Str.ofString "every",aG t,aG u,rest].map V.str):=aT.of hp0
 have num:∀{n:Int} {H1:Hp} {Q':VK},n.natAbs < 10 ^ 40→(∀H',au H1 H'→Q' (.bl true) H')→pH [.str (aG n)] H1 Q' E0:=fun {n H1 Q'} hn hq=>by
  refine⟨aG n,rfl,?_,fun H' s'=>?_⟩
  ·have:=fG hn;omega
  ·rw [show(aG n).cps.toList=gF n from rfl,kx hn]
   exact hq H' s'
 refine ω _ _ ?_;refine bo (fun σ H'=>σ=[some (.str row),some (.int nv),some (.ref p),none,none,none]∧au H0 H') ?_ ?_
 ·intro u' hu
  walk_at "rd";refine⟨_,.inl a0,?_⟩;walk_at "rd";rw [if_pos (show(((0:Nat)+1+1+1+1:Nat):Int)=4 from rfl)];refine bH a0 (show fm _ ((1:Nat):Int)=_ from aO rfl) (num RE.tb fun H1 s1=>?_);walk_at "rd";refine bH (s1.seq a0) (show fm _ ((2:Nat):Int)=_ from aO rfl) (num RE.ub fun H2 s2=>?_);walk_at "rd";exact hu _ _ ⟨rfl,s1.trans s2⟩
 clear a0;intro Ω ω;rintro _ H1 ⟨rfl,s01⟩;have s1:=s0.trans s01;have a1:aT K H1 p ([Str.ofString "every",aG t,aG u,rest].map V.str):=aT.of (s01 _ _ hp0);have int':∀{n:Int},n.natAbs < 10 ^ 40→intText? (aG n)=some n∧(aG n).length≤640:=fun {n} hn=>⟨mj (aa5 hn (ae7 (by decide) (by decide))),by have:=fG hn;omega⟩;refine ω _ _ ?_;refine bo (fun σ H'=>σ=[some (.str row),some (.int nv),some (.ref p),some (.int t),none,none]∧H1=H') ?_ ?_
 ·intro u' hu
  walk_at "rd";refine bH a1 (show fm _ ((1:Nat):Int)=_ from aO rfl) ?_;walk_at "rd";exact⟨t,(int' RE.tb).1,(int' RE.tb).2,hu _ _ ⟨rfl,rfl⟩⟩
 intro Ω ω;rintro _ _ ⟨rfl,rfl⟩;refine ω _ _ ?_;refine bo (fun σ H'=>σ=[some (.str row),some (.int nv),some (.ref p),some (.int t),some (.int u),none]∧H1=H') ?_ ?_
 ·intro u' hu
  walk_at "rd";refine bH a1 (show fm _ ((2:Nat):Int)=_ from aO rfl) ?_;walk_at "rd";exact⟨u,(int' RE.ub).1,(int' RE.ub).2,hu _ _ ⟨rfl,rfl⟩⟩
 intro Ω ω;rintro _ _ ⟨rfl,rfl⟩;have hrl:=RE.rl;refine ω _ _ ?_;refine bo (fun σ H'=>σ=[some (.str row),some (.int nv),some (.ref p),some (.int t),some (.int u),none]∧au H1 H') ?_ ?_
 ·intro u' hu
  walk_at "rd";rw [if_pos u0,if_pos u1];refine bH a1 (show fm _ ((3:Nat):Int)=_ from aO rfl) ?_;walk_at "rd";refine⟨32,by decide +kernel,by decide,by omega,fun p1 hp1=>?_⟩;rw [R.split];have s':au H1 (upd H1 p1 (.lst ((kind::ns.map aG).map V.str))):=av hp1;refine bH (aT.of ag) (bw rfl) (sM (ws:=[Str.ofString "span",Str.ofString "clock"]) (hI.at _) ⟨_,rfl,?_⟩)
  rw [decide_eq_true (show kind∈[Str.ofString "span",Str.ofString "clock"]by rcases hkd with rfl | rfl<;>simp),if_neg (by exact aa4)]
  exact hu _ _ ⟨rfl,s'⟩
 intro Ω ω;rintro _ H2 ⟨rfl,s12⟩;have s2:=s1.trans s12;have a2:aT K H2 p ([Str.ofString "every",aG t,aG u,rest].map V.str):=s12.seq a1;refine ω _ _ ?_;refine bo (fun σ H'=>∃ri:Addr,RIn ri H'∧σ=[some (.str row),some (.int nv),some (.ref p),some (.int t),some (.int u),some (.ref ri)]∧au H H') ?_ ?_
 ·intro u' hu
  walk_at "rd";refine bH a2 (show fm _ ((3:Nat):Int)=_ from aO rfl) ?_;refine⟨rest,kind,ns,nv,D,g,sp,fun v H''=>∃ri,v=.ref ri∧au H H''∧RIn ri H'',rfl,R,tab,hg,fn,fun q H' Q' sm hq hres=>k q H' Q' (s2.trans sm) hq fun ri H'' s'' hri=>hres _ _ ⟨ri,rfl,s'',hri⟩,?_⟩;rintro v H' ⟨ri,rfl,s',hri⟩;exact hu _ _ ⟨ri,hri,rfl,s'⟩
 intro Ω ω;rintro _ H3 ⟨ri,hri,rfl,s3⟩;refine ω _ _ ?_;walk_at "rd";show ∀x dx:Addr,_;intro x dx hx hdx hne;have s5:au H (upd (upd H3 dx (.own x)) x (.ins C dx [])):=(s3.upd hdx).upd (by rw [ak (Ne.symm hne)];exact hx)
 have s35:au H3 (upd (upd (upd H3 dx (.own x)) x (.ins C dx [])) x (.ins C dx (bW row t u ri))):=fun c o hc=>by
  have n1:c≠x:=ar hc hx;rw [ak n1,ak n1,ak (ar hc hdx)];exact hc
 refine⟨x,dx,ri,row,t,u,rfl,ag,rfl,?_⟩;exact kq x _ (s3.trans s35) ⟨dx,ri,ag,mono _ _ _ s35 hri⟩
theorem oC{f C T0:Addr}{fd:FuncData}(F:pP K "read_rule" "read_rule" fT f fd T0)(T:Txt mg aM)(D_plain_rule:cJ P w K mg base "plain_rule" 9 ["row","voices"] (j7 P w K mg base aM 7))(D_every_rule:cJ P w K mg base "every_rule" 9 ["row","voices"] (my P w K mg base aM C 7)):aH P w K mg base cb 10 f fd ["text","voices","row"] (vI P w K mg base aM C 7):=by
 refine F.ok sc_read_rule (fun vs H Q E h=>?_) (fun cdv A outer s H vs Q E hr h=>?_)
 ·obtain⟨row,nv,z,rfl,_⟩:=h
  rfl
 obtain⟨row,nv,z,rfl,⟨rest,t,u,RE⟩,k⟩:=h
 refine⟨_,(ai (aD (i:=3) sc_read_rule.nd rfl (Or.inl rfl) (dm (bE (cG K PySem.F.plainAttrs_str PySem.F.slot_str_startswith PySem.F.type_str_startswith gc (pr 0) (af aZ ah)) (fun _=>rfl)) (aC D_every_rule hr (by rfl) (af (pr 0) (af (pr 1) ah))) (aC D_plain_rule hr (by rfl) (af (pr 0) (af (pr 1) ah)))))
 (ai (br (bp (az fc (pr 3) aR (aE _))) (ao nr) aJ)
 (ao (ax (pr 3))))),?_⟩
 walk_at "rd";rw [RE.starts,if_pos rfl];obtain⟨row',rest',kind,t',u',ns,nv',D,g,sp,RIn,e,k⟩:=k;refine⟨row',rest',kind,t',u',ns,nv',D,g,sp,RIn,e,?_⟩;obtain⟨k1,k2,k3,k4,k5,k6,k7,k8,k9,k10,k11⟩:=k;refine⟨k1,k2,k3,k4,k5,k6,k7,k8,k9,k10,fun r H' s' hr=>?_⟩;obtain⟨hn,q⟩:=k11 r H' s' hr;rw [if_neg hn];exact q
theorem qq{f:Addr}{fd:FuncData}(F:cT K "broken_at" "broken_at" iu f fd)(T:Txt mg aM):aH P w K mg base cb 8 f fd ["rule","line"] (nK P w K mg base 7):=by
 refine F.ok sc_broken_at (fun vs H Q E h=>?_) (fun cdv A outer s H vs Q E hr h=>?_)
 ·obtain⟨r,l,nv,C,S,RI,G,cols,rfl,_⟩:=h
  rfl
 obtain⟨r,l,nv,C,S,RI,G,cols,rfl,R,hri,hL,hcl,k⟩:=h
 refine⟨_,(ai (aD (i:=2) sc_broken_at.nd rfl (Or.inl rfl) (iO P w K mg base hr (pr 0)))
 (ai (aD (i:=3) sc_broken_at.nd rfl (Or.inl rfl) aR)
 (ai (d3 PassesOwn.never rfl (gy rfl T.n_enumerate (af (pr 1) ah)) (cg K (n:=2) rfl (aL (aF (i:=4) sc_broken_at.nd rfl (Or.inl rfl)) (aL (aF (i:=5) sc_broken_at.nd rfl (Or.inl rfl)) cj)))
 (ai (aD (i:=2) sc_broken_at.nd rfl (Or.inl rfl) (nj P w K mg base hr (pr 0) (af (pr 2) (af (pr 3) (af (pr 5) ah)))))
 (ai (br (bp (az fc (pr 2) aR (aE _))) (ao (ax (pr 4))) aJ)
 (ao (aD (i:=3) sc_broken_at.nd rfl (Or.inl rfl) (pr 5))))))
 (ao (ax (dm (bE (nj P w K mg base hr (pr 0) (af (pr 2) (af (pr 3) ah))) (fun _=>rfl)) aR (aB (aP K) (by rfl) T.n_len boot_len (af (pr 1) ah)))))))),?_⟩
 have hs:sizeLine=16777216:=sizeLine_eq;walk_at "rd";obtain⟨dx,fs,hir,q1,q2,q3,q4,q5⟩:=R.ins r H hri;refine⟨C,dx,fs,hir,q2,_,_,R.start,r,rfl,hri,?_⟩;obtain⟨ps,hps,hpl,hpc⟩:=hL;obtain⟨Pv,hPv⟩:∃Pv:Nat→L2.St→Hp→Prop,Pv=fun i σ H'=>∃(m:Int) (bx:V) (b:Option (List Int)) (o o':Option V),σ=[some (.ref r),some (.ref l),some (.int m),some bx,o,o']∧au H H'∧G m∧BV K H' nv b bx∧jC S S.start none 0 cols=jC S m b i (cols.drop i):=⟨_,rfl⟩;refine⟨true,⟨_,hps⟩,gE (l:=true) (us:=ps.map V.ref) Pv (by rw [hPv];exact⟨S.start,.non,none,none,none,rfl,au.refl H,R.g0,.inl ⟨rfl,rfl⟩,rfl⟩) (fun i σ H' _ h=>by rw [hPv]at h;obtain⟨m,bx,b,o,o',_,sm,_⟩:=h;exact sm.seq hps) ?_ ?_⟩
 ·intro i y σ H1 p hx hI hp0
  have hI':=hI;rw [hPv]at hI';clear hI;obtain⟨m,bx,b,o,o',rfl,sm,gm,hb,e⟩:=hI'
  obtain⟨c,hc0,rfl⟩:∃c,ps[i]?=some c∧y=.ref c:=by
   rw [aa8]at hx
   cases hc:ps[i]? with
   | none=>rw [hc]at hx;cases hx
   | some c=>rw [hc]at hx;exact⟨c,rfl,(Option.some.inj hx).symm⟩
  have hi:i < cols.length:=by have:=(aa2.mp hc0).1;omega
  have hu:cols[i]?=some cols[i]:=aa1 hi;obtain⟨hct,hcl'⟩:=hpc i c _ hc0 hu;have s2:au H (upd H1 p (.tup [.int i,.ref c])):=sm.upd hp0;have hb2:BV K (upd H1 p (.tup [.int i,.ref c])) nv b bx:=hb.same (av hp0);walk_at "rd";refine⟨_,cD.of ag,rfl,?_⟩;walk_at "rd";generalize upd H1 p (.tup [.int i,.ref c])=H2 at s2 hb2;have hri2:=R.mono r _ _ s2 hri;obtain⟨dx2,fs2,hir2,z1,z2,z3,z4,z5⟩:=R.ins r H2 hri2;refine⟨C,dx2,fs2,hir2,z3,_,_,R.after,r,m,bx,c,b,_,rfl,hri2,gm,hb2,s2.tup hct,hcl',?_⟩;have ed:cols.drop i=cols[i]::cols.drop (i+1):=(ae3 hi);rw [ed]at e;simp only [jC]at e
  cases ha:S.after m b cols[i]with
  | none=>
   rw [ha]at e;simp only at e;show if Az none=V.non then _ else _;rw [if_pos (show Az none=V.non from rfl)];have hk:=k H2 s2;unfold brk at hk;rw [e]at hk;exact hk
  | some m'=>
   rw [ha]at e;simp only at e
   have hne:¬(Az (some m')=V.non):=fun z=>by cases z
   show if Az (some m')=V.non then _ else _;rw [if_neg hne];rw [hPv];exact⟨m',_,some cols[i],_,_,rfl,s2,R.gS _ _ _ _ gm ha,.inr ⟨c,_,rfl,rfl,s2.tup hct,hcl'⟩,e⟩
 ·intro σ H1 hI
  rw [hPv]at hI;obtain⟨m,bx,b,o,o',rfl,sm,gm,hb,e⟩:=hI;walk_at "rd";have hri2:=R.mono r _ _ sm hri;obtain⟨dx2,fs2,hir2,z1,z2,z3,z4,z5⟩:=R.ins r H1 hri2;refine⟨C,dx2,fs2,hir2,z4,_,_,R.closes,r,m,bx,b,rfl,hri2,gm,hb,?_⟩;walk_at "rd";have hk:=k H1 sm;unfold brk at hk;rw [e,aa0,hpl,ai2 (aa7 _)]at hk;simp only [jC]at hk
  by_cases hc:S.closes m b=true
  ·rw [if_pos hc]
   rw [if_pos hc]at hk;exact hk
  ·rw [if_neg hc]
   rw [if_neg hc]at hk;refine⟨_,.inl (sm.seq hps),?_⟩;rw [aa0,hpl];exact hk
theorem ui{f:Addr}{fd:FuncData}(F:cT K "_law_stirred" "_law_stirred" gn f fd)(T:Txt mg aM):aH P w K mg base cb 1 f fd ["_law_cell","_law_place"] ly:=by
 refine F.ok sc_law_stirred (fun vs H Q E h=>?_) (fun cdv A outer s H vs Q E hr h=>?_)
 ·obtain⟨c,p,rfl,_⟩:=h
  rfl
 obtain⟨c,p,rfl,k⟩:=h
 refine⟨_,(ai (aD (i:=2) sc_law_stirred.nd rfl (Or.inl rfl) aj)
 (ai (aD (i:=3) sc_law_stirred.nd rfl (Or.inl rfl) (aw (bq K) (aw (o1 cE) (aw (bq K) (aw (o1 cE) (pr 0) aj) (aw (lX K) aj (pr 1))) aj) aj))
 (ai (d3 PassesOwn.never rfl (iP rfl T.n_range (af aj ah)) (aF (i:=4) sc_law_stirred.nd rfl (Or.inl rfl))
 (ai (nq (aB (lG) (by rfl) T.n_divmod boot_divmod (af (pr 3) (af aj ah))) (cg K (n:=2) rfl (aL (aF (i:=5) sc_law_stirred.nd rfl (Or.inl rfl)) (aL (aF (i:=6) sc_law_stirred.nd rfl (Or.inl rfl)) cj))))
 (ai (aD (i:=3) sc_law_stirred.nd rfl (Or.inl rfl) (aw (o1 cE) (aw (bq K) (aw (bq K) (aw (bq K) (aw (lX K) (pr 6) aj) (aw (lX K) (pr 5) aj)) (aw (lX K) aj (pr 4))) aj) aj))
 (ao (aD (i:=2) sc_law_stirred.nd rfl (Or.inl rfl) (aw (bq K) (aw (lX K) (pr 2) aj) (pr 3)))))))
 (ao (ax (pr 2)))))),?_⟩
 walk_at "rd";refine⟨by decide,.of_left (by decide),by decide,by decide,by decide,?_⟩;refine i9 (n:=4) (fun i σ H'=>∃o4 o5 o6,σ=[some (.int c),some (.int p),some (.int (GM.stirSt c p i).1),some (.int (GM.stirSt c p i).2),o4,o5,o6]∧au H H') ⟨none,none,none,rfl,au.refl H⟩ ?_ ?_
 ·rintro i σ H1 hi ⟨o4,o5,o6,rfl,sm⟩
  walk_at "rd";refine⟨⟨by decide,by decide⟩,fun q hq=>⟨_,cD.of ag,rfl,?_⟩⟩;walk_at "rd";refine⟨.of_right (by decide),.of_right (by decide),.of_left (by decide),by decide,.of_right (by decide),?_⟩;exact⟨rfl,rfl,sm.upd hq⟩
 ·rintro σ H1 ⟨o4,o5,o6,rfl,sm⟩
  walk_at "rd";exact k _ sm
theorem CD{f:Addr}{fd:FuncData}(F:cT K "_law_got" "_law_got" kO f fd)(T:Txt mg aM)(D_law_stirred:cJ P w K mg base "_law_stirred" 1 ["_law_cell","_law_place"] ly):aH P w K mg base cb 2 f fd ["_law_script","_law_place"] (sZ K):=by
 refine F.ok sc_law_got (fun vs H Q E h=>?_) (fun cdv A outer s H vs Q E hr h=>?_)
 ·obtain⟨a,ns,p,rfl,_⟩:=h
  rfl
 obtain⟨a,ns,p,rfl,hS,hB,hp0,hp1,k⟩:=h
 refine⟨_,(ai (d3 PassesOwn.never rfl (bX K (bQ (g6 K) (pr 0) (gH (pr 1)) (gH (aw (bq K) (pr 1) aj)))) (aF (i:=2) sc_law_got.nd rfl (Or.inl rfl))
 (ai (aD (i:=3) sc_law_got.nd rfl (Or.inl rfl) aj)
 (ai (y6 PassesOwn.never (bp (az (o0 ib) (pr 3) (aB (mH) (by rfl) T.n_abs boot_abs (af (pr 2) ah)) (aE _))) (ao (aD (i:=3) sc_law_got.nd rfl (Or.inl rfl) (aw (lX K) (pr 3) (aw (o1 yQ) aj aj)))))
 (ao (ax (aw (bq K) (aB (mH) (by rfl) T.n_abs boot_abs (af (pr 2) ah)) (aw (lX K) (pr 3) (aC D_law_stirred hr (by rfl) (af (aB (mH) (by rfl) T.n_abs boot_abs (af (pr 2) ah)) (af (pr 1) ah))))))))))
 (ao (ax aj))),?_⟩
 walk_at "rd";refine dP hS fun q hq=>?_;show zT _ _ _ _;rw [xM _ hp0,aa8]
 cases hc:ns[p.toNat]? with
 | none=>
  refine bZ (aT.of ag) (wM (aT.of ag) ?_);walk_at "rd"
  have e:GM.gotF ns p=0:=by unfold GM.gotF;rw [hc]
  rw [←e];exact k _ (av hq)
 | some c=>
  have e:GM.gotF ns p=GM.absI c+GM.powF c * GM.stirF (GM.absI c) p:=by unfold GM.gotF;rw [hc]
  have hcB:=hB c (ad1 hc);refine bZ (aT.of ag) (dU (xs:=[.int c]) (fun i σ H'=>i=0∧σ=[some (.ref a),some (.int p),none,none]∧H'=upd H q (.lst [.int c])) ⟨rfl,rfl,rfl⟩ (fun i σ H' _ h=>by rw [h.2.2];exact aT.of ag) ?_ (fun σ H' h=>by cases h.1));rintro i x σ H' hx ⟨rfl,rfl,rfl⟩;cases hx;walk_at "rd";refine⟨fun m σ H'=>∃pw,σ=[some (.ref a),some (.int p),some (.int c),some (.int pw)]∧au H H'∧0 < pw∧GM.absI c < pw+m∧GM.powGo m pw (GM.absI c)=GM.powF c,⟨(GM.absI c).toNat+1,1,rfl,av hq,by decide,by omega,rfl⟩,?_⟩;rintro m σ H' ⟨pw,rfl,sm,h0,h1,h2⟩;walk_at "rd";have ea:(if c < 0 then -c else c)=GM.absI c:=rfl;rw [ea]
  by_cases hle:pw≤GM.absI c
  ·rw [if_pos hle]
   obtain⟨m',rfl⟩:∃m',m=m' + 1:=⟨m - 1,by omega⟩;refine⟨fun σ' H'=>σ'=[some (.ref a),some (.int p),some (.int c),some (.int (pw * 1000000))]∧au H H',?_,?_⟩
   ·rintro σ' H'' ⟨rfl,sm'⟩
    refine⟨m',af9 _,pw * 1000000,rfl,sm',by omega,by omega,?_⟩;rw [←h2];simp only [GM.powGo];rw [if_pos hle]
   ·walk_at "rd"
    exact⟨⟨by decide,by decide,by decide⟩,.of_right (by decide),rfl,sm⟩
  ·rw [if_neg hle]
   rw [GM.powGo_stop hle]at h2;subst h2;walk_at "rd";refine⟨_,_,rfl,fun H2 s2=>?_⟩;walk_at "rd";refine⟨.of_le (intBits_le_iff.mpr (GM.powF_lt hcB)) (intBits_le_iff.mpr (GM.stirF_natAbs _ _)) (by decide),?_⟩;rw [←e];exact k _ (sm.trans s2)
theorem yK{f:Addr}{fd:FuncData}(F:cT K "_law_cells" "_law_cells" ix f fd)(T:Txt mg aM)(D_law_got:cJ P w K mg base "_law_got" 2 ["_law_script","_law_place"] (sZ K)):aH P w K mg base cb 3 f fd ["_law_script","_law_first","_law_last"] (mx K):=by
 refine F.ok qV (fun vs H Q E h=>?_) (fun cdv A outer s H vs Q E hr h=>?_)
 ·obtain⟨a,ns,lo,hi,rfl,_⟩:=h
  rfl
 obtain⟨a,ns,lo,hi,rfl,hS,hB,hn,h1,h2,h3,h4,k⟩:=h;refine⟨_,(ao (ax (eu (own:=["_law_k"]) (js:=[0]) rfl (w6 rfl T.n_range (af (pr 1) (af (aB (km rfl) (by rfl) T.n_min boot_min (af (pr 2) (af (aB (aP K) (by rfl) T.n_len boot_len (af (pr 0) ah)) ah))) ah))) (bG.of (by rfl)) (fun _ _ _ _ _=>(aF (i:=0) (show List.Nodup (["_law_k","_law_script"]:List Str)from by decide +kernel) rfl (Or.inl rfl))) (fun _ _ _ _ _=>dE) (fun _ _ _ _ _=>(aC D_law_got hr (by rfl) (af (pr 1) (af (pr 0) ah))))))),?_⟩;walk_at "rd";refine⟨_,.inl hS,?_⟩;walk_at "rd"
 have hb:0≤(if (ns.length:Int) < hi then(ns.length:Int)else hi)∧(if (ns.length:Int) < hi then(ns.length:Int)else hi)≤100:=by split<;>omega
 have hs:sizeLine=16777216:=sizeLine_eq;refine⟨by omega,by omega,by omega,by omega,lI (fun i ys H'=>ys=((List.range i).map fun(j:Nat)=>V.int (GM.gotF ns (lo+j)))∧au H H') (by omega) ⟨rfl,au.refl _⟩ (fun i ys H' h=>by rw [h.1];simp) ?_ ?_⟩
 ·rintro i ys H1 hi ⟨rfl,sm⟩
  walk_at "rd";refine⟨a,ns,lo+i,rfl,sm.seq hS,hB,by omega,by omega,fun H2 s2=>?_⟩;exact⟨by rw [List.range_succ,ab7];rfl,sm.trans s2⟩
 ·rintro ys H1 ⟨rfl,sm⟩ q hq
  exact k q _ (by rw [ag];unfold GM.cellsF;rw [ai1];rfl) (sm.upd hq)
end
inductive gs where
 | span (o t:Int) (D:List Int)
 | clock (o t h:Int) (D:List Int)
 | move (o:Int) (D:List Int)
 | alike (o t:Int) (D:List Int)
 | back (o far:Int)
 | held (o most:Int)
 | times (o nt lw hg:Int)
def xg:gs→fb
 | .span o t D=>fV (o+1) (t+1) D
 | .clock o t h D=>eW (o+1) (t+1) h D
 | .move o D=>gX (o+1) D
 | .alike o t D=>fN (o+1) (t+1) D
 | .back o far=>ez (o+1) far
 | .held o most=>fU (o+1) most
 | .times o nt lw hg=>dR (o+1) nt lw hg
def CB:gs→Int→Prop
 | .back _ _=>jG
 | .held _ most=>pB most
 | .times _ _ _ hg=>jH hg
 | _=>fun _=>True
def rR(nv:Nat):gs→Prop
 | .span o t _=>0≤o∧o < nv∧0≤t∧t < nv
 | .clock o t h _=>0≤o∧o < nv∧0≤t∧t < nv∧1≤h
 | .move o _=>0≤o∧o < nv
 | .alike o t _=>0≤o∧o < nv∧0≤t∧t < nv
 | .back o far=>0≤o∧o < nv∧0≤far
 | .held o most=>0≤o∧o < nv∧1≤most
 | .times o _ _ hg=>0≤o∧o < nv∧0≤hg
inductive aQ where
 | plain (R:gs)
 | every (m a:Int) (R:gs)
def DK:gs→Prop
 | .span _ _ _=>True
 | .clock _ _ _ _=>True
 | _=>False
def mP(nv:Nat):aQ→Prop
 | .plain R=>rR nv R
 | .every m a R=>rR nv R∧DK R∧1≤m∧0≤a∧a < m
theorem pZ{P:Program}{w:World}{K:Frag}{mg:Str→Option Value}{base:Heap}{CX:rg}{k:Nat}{f:Addr}{fd:FuncData}{ps:List Str}{sp sp':Sp}(F:aH P w K mg base CX k f fd ps sp)(G:aH P w K mg base CX k f fd ps sp'):aH P w K mg base CX k f fd ps (fun vs H Q E=>sp vs H Q E∨sp' vs H Q E):=
 ⟨fun vs H Q E q=>q.elim (F.len vs H Q E) (G.len vs H Q E),fun A outer s H args us vs Q E hr he hb hv hs=>hs.elim (F.run A outer s H args us vs Q E hr he hb hv) (G.run A outer s H args us vs Q E hr he hb hv)⟩
def fP:aQ→Int
 | .plain R=>(xg R).size
 | .every m _ _=>m
def sX:aQ→fb
 | .plain R=>xg R
 | .every m a R=>eX m a (xg R)
def Fb:aQ→Int→Prop
 | .plain R=>CB R
 | .every m _ _=>mY m
theorem C8(R:aQ):(sX R).size=fP R:=by
 cases R<;>rfl
def da:gs→Str
 | .span _ _ _=>"span"
 | .clock _ _ _ _=>"clock"
 | .move _ _=>"move"
 | .alike _ _ _=>"alike"
 | .back _ _=>"back"
 | .held _ _=>"held"
 | .times _ _ _ _=>"times"
def dM:gs→List Int
 | .span o t D=>(o+1)::(t+1)::D
 | .clock o t h D=>(o+1)::(t+1)::h::D
 | .move o D=>(o+1)::D
 | .alike o t D=>(o+1)::(t+1)::D
 | .back o far=>[o+1,far]
 | .held o most=>[o+1,most]
 | .times o nt lw hg=>[o+1,nt,lw,hg]
def se:gs→Prop
 | .span _ _ D=>1≤D.length∧D.length≤12
 | .clock _ _ _ D=>1≤D.length∧D.length≤12
 | .move _ D=>1≤D.length∧D.length≤12
 | .alike _ _ D=>1≤D.length∧D.length≤12
 | .times _ _ lw _=>0≤lw
 | _=>True
def DU(R:gs):Prop:=(∀n∈dM R,n.natAbs < 10 ^ 40)∧se R
def t7:aQ→Prop
 | .plain R=>DU R
 | .every m a R=>DU R∧m.natAbs < 10 ^ 40∧a.natAbs < 10 ^ 40
theorem so{R:gs}(h:DU R):(dM R).length≤20:=by
 have hl:=h.2
 cases R<;>simp only [dM,se,ac2,af1]at hl ⊢<;>omega
def bN:aQ→Str
 | .plain R=>Txt.join (Str.ofString " ") (da R::(dM R).map aG)
 | .every m a R=>Txt.join (Str.ofString " ") (Str.ofString "every"::aG m::aG a::da R::(dM R).map aG)
def pR(P:Program)(w:World)(K:Frag)(mg:Str→Option Value)(base:Heap)(C:Addr)(RI:ju)(row:Str):Prop:=aA P w K mg base C "shown" 7 ["self"] (l8 RI (.str row))∧∀r H,RI r H→∃dx fs,H r=some (.ins C dx fs)∧fs.lookup (Str.ofString "shown")=none
theorem iz{P:Program}{w:World}{K:Frag}{mg:Str→Option Value}{base:Heap}{C:Addr}{RI:ju}{row:Str}(cl:nT K C)(na:NoAttr K C "row")(h:aA P w K mg base C "shown" 7 ["self"] (cK K))(ins:∀r H,RI r H→∃dx fs,H r=some (.ins C dx fs)∧fs.lookup (Str.ofString "shown")=none∧fs.lookup (Str.ofString "row")=some (.str row)):pR P w K mg base C RI row:=
 ⟨h.imp (by
  rintro vs H Q E ⟨r,rfl,x,q⟩;obtain⟨dx,fs,a,b,c⟩:=ins r H x
  exact⟨r,C,dx,fs,row,rfl,a,cl,na,c,q⟩),fun r H x=>let ⟨dx,fs,a,b,_⟩:=ins r H x;⟨dx,fs,a,b⟩⟩
theorem mX:typeLookup (.type "ValueError") "weight"=pure none:=by rw [typeLookup_type,builtinLookup_eq_fast];kernel_rfl
theorem pA:typeLookup (.type "ValueError") "voice"=pure none:=by rw [typeLookup_type,builtinLookup_eq_fast];kernel_rfl
theorem sf:typeLookup (.type "ValueError") "many"=pure none:=by rw [typeLookup_type,builtinLookup_eq_fast];kernel_rfl
abbrev EY:List Str:=["__setattr__","__getattribute__","__getattr__","__class__","weight"]
abbrev zR:List Str:=["__setattr__","__getattribute__","__getattr__","__class__","voice"]
abbrev EW:List Str:=["__setattr__","__getattribute__","__getattr__","__class__","many"]
def fv(a b:Addr):List (Str×V):=bO "rules" (.ref b) (bO "ranges" (.ref a) [])
structure dw(K:Frag)(C:Addr):Prop where
 cl:nT K C
 n1:NoAttr K C "ranges"
 n2:NoAttr K C "rules"
def eY(K:Frag)(C:Addr):Sp:=fun vs H Q _=>∃(x dx a b:Addr) (xs ys:List V),vs=[.ref x,.ref a,.ref b]∧H x=some (.ins C dx [])∧aT K H a xs∧aT K H b ys∧
 ∀p q H',H p=none→H q=none→q≠p→H'=upd (upd (upd H p (.lst xs)) q (.lst ys)) x (.ins C dx (fv p q))→Q .non H'
def bu(K:Frag)(H:Hp)(a:Addr)(bs:List (Int×Int)):Prop:=∃ts:List Addr,aT K H a (ts.map V.ref)∧ts.length=bs.length∧∀(i:Nat) (t:Addr) (b:Int×Int),ts[i]?=some t→bs[i]?=some b→cD K H t [.int b.1,.int b.2]
theorem bu.same{K:Frag}{H H':Hp}{a:Addr}{bs:List (Int×Int)}(s:au H H')(h:bu K H a bs):bu K H' a bs:=by
 obtain⟨ts,h1,h2,h3⟩:=h;exact⟨ts,s.seq h1,h2,fun i t b e1 e2=>s.tup (h3 i t b e1 e2)⟩
section
variable {P:Program} {w:World} {K:Frag} {mg:Str→Option Value} {base:Heap} {aM:Addr}
def mG(RI:ju):Prop:=∀(r:Addr) (H:Hp) (z:Addr) (xs:List Addr) (ys:List V),RI r H→H z=some (.lst (xs.map V.ref))→RI r (upd H z (.lst ys))
def fC(P:Program)(w:World)(K:Frag)(mg:Str→Option Value)(base:Heap)(nv:Nat)(R:aQ)(r:Addr)(H:Hp):Prop:=∃(C:Addr) (RI:ju),bz P w K mg base 7 nv C (sX R) RI (Fb R)∧mG RI∧pR P w K mg base C RI (bN R)∧RI r H
theorem fC.same{nv:Nat}{R:aQ}{r:Addr}{H H':Hp}(s:au H H')(h:fC P w K mg base nv R r H):fC P w K mg base nv R r H':=by
 obtain⟨C,RI,h1,h0,h9,h2⟩:=h;exact⟨C,RI,h1,h0,h9,h1.mono _ _ _ s h2⟩
theorem fC.stab{nv:Nat}{R:aQ}{r z:Addr}{H:Hp}{xs:List Addr}{ys:List V}(h:fC P w K mg base nv R r H)(hz:H z=some (.lst (xs.map V.ref))):fC P w K mg base nv R r (upd H z (.lst ys)):=by
 obtain⟨C,RI,h1,h0,h9,h2⟩:=h;exact⟨C,RI,h1,h0,h9,h0 _ _ _ _ _ h2 hz⟩
def ma(P:Program)(w:World)(K:Frag)(mg:Str→Option Value)(base:Heap)(nv:Nat)(H:Hp)(b:Addr)(Rs:List aQ):Prop:=∃rs:List Addr,H b=some (.lst (rs.map V.ref))∧rs.length=Rs.length∧∀(j:Nat) (r:Addr) (R:aQ),rs[j]?=some r→Rs[j]?=some R→fC P w K mg base nv R r H
theorem ma.same{nv:Nat}{H H':Hp}{b:Addr}{Rs:List aQ}(s:au H H')(h:ma P w K mg base nv H b Rs):ma P w K mg base nv H' b Rs:=by
 obtain⟨rs,h1,h2,h3⟩:=h;exact⟨rs,s _ _ h1,h2,fun j r R e1 e2=>(h3 j r R e1 e2).same s⟩
def bj(P:Program)(w:World)(K:Frag)(mg:Str→Option Value)(base:Heap)(C:Addr)(nv:Nat)(bs:List (Int×Int))(Rs:List aQ)(x:Addr)(H:Hp):Prop:=∃(dx a b:Addr),H x=some (.ins C dx (fv a b))∧bu K H a bs∧ma P w K mg base nv H b Rs
theorem bj.same{C:Addr}{nv:Nat}{bs:List (Int×Int)}{Rs:List aQ}{x:Addr}{H H':Hp}(s:au H H')(h:bj P w K mg base C nv bs Rs x H):bj P w K mg base C nv bs Rs x H':=by
 obtain⟨dx,a,b,h1,h2,h3⟩:=h;exact⟨dx,a,b,s _ _ h1,h2.same s,h3.same s⟩
def cI(b:Int×Int):Int:=b.2 - b.1+1
def jt(bs:List (Int×Int)):Int:=bs.foldl (fun t b=>t * cI b) 1
def eD(bs:List (Int×Int))(Rs:List aQ):Int:=Rs.foldl (fun t R=>t * fP R) (jt bs)
def nN(P:Program)(w:World)(K:Frag)(mg:Str→Option Value)(base:Heap):Sp:=fun vs H Q _=>∃(x C:Addr) (nv:Nat) (bs:List (Int×Int)) (Rs:List aQ),vs=[.ref x]∧dw K C∧bj P w K mg base C nv bs Rs x H∧(∀b∈bs,(cI b).natAbs < 2 ^ 60)∧(∀R∈Rs,(fP R).natAbs < 2 ^ 60)∧Q (.int (eD bs Rs)) H
def lp(P:Program)(w:World)(K:Frag)(mg:Str→Option Value)(base:Heap):Sp:=fun vs H Q _=>∃(x C:Addr) (nv:Nat) (bs:List (Int×Int)) (Rs:List aQ),vs=[.ref x]∧dw K C∧bj P w K mg base C nv bs Rs x H∧(∀b∈bs,(cI b).natAbs < 2 ^ 60)∧(∀R∈Rs,(fP R).natAbs < 2 ^ 60)∧eD bs Rs≤400∧Q (.ref x) H
def B6(C:Addr)(wt:Int)(H:Hp)(a d:Addr):Prop:=H a=some (XO C d a)∧H d=some (.xd [("weight",.int wt)])
def gY(P:Program)(w:World)(K:Frag)(mg:Str→Option Value)(base:Heap)(C':Addr):Sp:=fun vs H Q E=>∃(x C:Addr) (nv:Nat) (bs:List (Int×Int)) (Rs:List aQ),vs=[.ref x]∧dw K C∧bj P w K mg base C nv bs Rs x H∧(∀b∈bs,(cI b).natAbs < 2 ^ 60)∧(∀R∈Rs,(fP R).natAbs < 2 ^ 60)∧(eD bs Rs≤400→Q (.ref x) H)∧(400 < eD bs Rs→∀a d H',B6 C' (eD bs Rs) H' a d→au H H'→E (.ref a) (some d) H')
theorem yF{C':Addr}:∀vs H Q E,lp P w K mg base vs H Q E→gY P w K mg base C' vs H Q fun _ _ _=>False:=fun vs H Q E ⟨x,C,nv,bs,Rs,h1,h2,h3,h4,h5,h6,h7⟩=>⟨x,C,nv,bs,Rs,h1,h2,h3,h4,h5,fun _=>h7,fun h=>absurd h (by omega)⟩
theorem gx(a b:Addr):(fv a b).lookup (Str.ofString "ranges")=some (.ref a):=by unfold fv;walk_at "flds"
theorem hU(a b:Addr):(fv a b).lookup (Str.ofString "rules")=some (.ref b):=by unfold fv;walk_at "flds"
theorem ou{f C:Addr}{fd:FuncData}(F:cT K "__init__" "Score.__init__" eO f fd)(T:Txt mg aM)(TC:dw K C):aH P w K mg base cb 1 f fd ["self","ranges","rules"] (eY K C):=by
 refine F.ok jY (fun vs H Q E h=>?_) (fun cdv A outer s H vs Q E hr h=>?_)
 ·obtain⟨x,dx,a,b,xs,ys,rfl,_⟩:=h
  rfl
 obtain⟨x,dx,a,b,xs,ys,rfl,hx,ha,hb,k⟩:=h
 refine⟨_,(ai (bU (pr 0) (aW (d5 K) (by rfl) T.n_list boot_list (af (pr 1) ah)) rfl)
 (ao (bU (pr 0) (aW (d5 K) (by rfl) T.n_list boot_list (af (pr 2) ah)) rfl))),?_⟩
 walk_at "rd";have ln:∀(f:Str) (v:V) (l:List (Str×V)) (n:Nat),l.length≤n→(bO f v l).length≤n+1:=fun f v l n h=>ab8 (bT f v l) (ae1 h);refine⟨xs,.inl ha,fun p hp=>?_⟩
 have px:p≠x:=fun e=>by subst e;rw [hx]at hp;cases hp
 refine⟨C,dx,[],by rw [ak (Ne.symm px)];exact hx,TC.cl,TC.n1,by decide,ys,.inl (((av hp).seq hb).at_ins (by rw [ak (Ne.symm px)];exact hx)),fun q hq=>?_⟩
 have qx:q≠x:=fun e=>by subst e;rw [ag]at hq;cases hq
 rw [ak qx]at hq
 have qp:q≠p:=fun e=>by subst e;rw [ag]at hq;cases hq
 rw [ak qp]at hq;refine⟨C,dx,_,by rw [ak (Ne.symm qx),ag],TC.cl,TC.n2,ab6 (ln _ _ _ _ (ac0 0)) (by decide),?_⟩;refine k p q _ hp hq qp ?_;rw [iG];rfl
theorem w4{f:Addr}{fd:FuncData}(F:cT K "weight" "weight" nB f fd)(T:Txt mg aM):aH P w K mg base cb 8 f fd ["score"] (nN P w K mg base):=by
 refine F.ok sc_weight (fun vs H Q E h=>?_) (fun cdv A outer s H vs Q E hr h=>?_)
 ·obtain⟨x,C,nv,bs,Rs,rfl,_⟩:=h
  rfl
 obtain⟨x,C,nv,bs,Rs,rfl,TC,⟨dx,a,b,hx,⟨ts,hts,htl,htc⟩,⟨rs,hrs,hrl,hrc⟩⟩,hwb,hwr,q⟩:=h;have hrs:=aT.of (K:=K) hrs
 refine⟨_,(ai (aD (i:=1) sc_weight.nd rfl (Or.inl rfl) aj)
 (ai (d3 PassesOwn.never rfl (bX K (aY (pr 0) rfl)) (cg K (n:=2) rfl (aL (aF (i:=2) sc_weight.nd rfl (Or.inl rfl)) (aL (aF (i:=3) sc_weight.nd rfl (Or.inl rfl)) cj)))
 (ao (Ee (y3 (i:=1) sc_weight.nd rfl (Or.inl rfl) (aw (bq K) (aw (o0 dZ) (pr 3) (pr 2)) aj) (o1 vo)))))
 (ai (d3 PassesOwn.never rfl (bX K (aY (pr 0) rfl)) (aF (i:=4) sc_weight.nd rfl (Or.inl rfl))
 (ao (Ee (y3 (i:=1) sc_weight.nd rfl (Or.inl rfl) (iO P w K mg base hr (pr 4)) (o1 vo)))))
 (ao (ax (pr 1)))))),?_⟩
 refine bo (fun σ H'=>σ=[some (.ref x),some (.int 1),none,none,none]∧H=H') ?_ ?_
 ·intro u' hu
  walk_at "rd";exact hu _ _ ⟨rfl,rfl⟩
 intro Ω ω;rintro _ _ ⟨rfl,rfl⟩;refine ω _ _ ?_;refine bo (fun σ H'=>∃o1 o2:Option V,σ=[some (.ref x),some (.int (jt bs)),o1,o2,none]∧H=H') ?_ ?_
 ·intro u' hu
  walk_at "rd";refine⟨C,dx,_,hx,TC.cl,TC.n1,_,gx a b,bZ hts (dU (xs:=ts.map V.ref) (fun i σ H'=>∃o1 o2:Option V,σ=[some (.ref x),some (.int (jt (bs.take i))),o1,o2,none]∧H=H') ⟨none,none,rfl,rfl⟩ (fun i σ H' _ z=>by obtain⟨_,_,_,z⟩:=z;exact z▸hts) ?_ ?_)⟩
  ·rintro i y σ H1 hy ⟨o1,o2,rfl,rfl⟩
   rw [aa8]at hy
   cases ht:ts[i]? with
   | none=>rw [ht]at hy;cases hy
   | some t=>
    rw [ht]at hy;cases hy
    have hi:i < bs.length:=by rw [←htl];exact(aa2.mp ht).1
    have hb:bs[i]?=some bs[i]:=aa1 hi
    have e:jt (bs.take (i+1))=jt (bs.take i) * cI bs[i]:=by
     unfold jt;rw [ac5,hb,ae9];rfl
    walk_at "rd";refine⟨_,htc i t _ ht hb,rfl,?_⟩;walk_at "rd";rw [e];have hw:=hwb _ (ac8 hi);unfold cI at hw ⊢;exact⟨.inr ⟨by omega,by omega⟩,rfl⟩
  ·rintro σ H1 ⟨o1,o2,rfl,rfl⟩
   rw [aa0,htl,ad0];exact hu _ _ ⟨o1,o2,rfl,rfl⟩
 intro Ω ω;rintro _ _ ⟨o1,o2,rfl,rfl⟩;refine ω _ _ ?_;walk_at "rd";refine⟨C,dx,_,hx,TC.cl,TC.n2,_,hU a b,bZ hrs (dU (xs:=rs.map V.ref) (fun i σ H'=>∃o3:Option V,σ=[some (.ref x),some (.int ((Rs.take i).foldl (fun t R=>t * fP R) (jt bs))),o1,o2,o3]∧H=H') ⟨none,rfl,rfl⟩ (fun i σ H' _ z=>by obtain⟨_,_,z⟩:=z;exact z▸hrs) ?_ ?_)⟩
 ·rintro i y σ H1 hy ⟨o3,rfl,rfl⟩
  rw [aa8]at hy
  cases ht:rs[i]? with
  | none=>rw [ht]at hy;cases hy
  | some r=>
   rw [ht]at hy;cases hy
   have hi:i < Rs.length:=by rw [←hrl];exact(aa2.mp ht).1
   have hb:Rs[i]?=some Rs[i]:=aa1 hi;obtain⟨Cr,RI,RB,_,_,hri⟩:=hrc i r _ ht hb;obtain⟨dr,fr,hir,q1,_⟩:=RB.ins r _ hri;walk_at "rd";refine⟨Cr,dr,fr,hir,q1,_,_,RB.size,r,rfl,hri,?_⟩;walk_at "rd";rw [ac5,hb,ae9,C8];have hw:=hwr _ (ac8 hi);exact⟨.inr ⟨by omega,by omega⟩,rfl⟩
 ·rintro σ H1 ⟨o3,rfl,rfl⟩
  rw [aa0,hrl,ad0];walk_at "rd";exact q
theorem l6{f C':Addr}{fd:FuncData}(F:cT K "not_too_wide" "not_too_wide" fM f fd)(T:Txt mg aM)(D_weight:cJ P w K mg base "weight" 8 ["score"] (nN P w K mg base))(DE_TooWide:g9 P w K mg base "TooWide" C' 7 ["self","weight"] (lA C' "weight") EY):aH P w K mg base (mD P w) 9 f fd ["score"] (gY P w K mg base C'):=by
 refine F.okX sc_not_too_wide (fun vs H Q E h=>?_) (fun cdv A outer s H vs Q E hr h=>?_)
 ·obtain⟨x,C,nv,bs,Rs,rfl,_⟩:=h
  rfl
 obtain⟨x,C,nv,bs,Rs,rfl,TC,S,hwb,hwr,q1,q2⟩:=h
 refine⟨_,(ai (aD (i:=1) sc_not_too_wide.nd rfl (Or.inl rfl) (aC D_weight hr (by rfl) (af (pr 0) ah)))
 (ai (br (bp (az (o0 lO) (pr 1) (d6 T.g_MOST_WEIGHT) (aE _))) (ao (iQ DE_TooWide rfl hr (by rfl) (fun _ _=>gw) (af (pr 1) ah))) aJ)
 (ao (ax (pr 0))))),?_⟩
 have hs:sizeLine=16777216:=sizeLine_eq;refine bo (fun σ H'=>H=H'∧σ=[some (.ref x),some (.int (eD bs Rs))]) ?_ ?_
 ·intro u' hu
  walk_at "rd";exact⟨x,C,nv,bs,Rs,rfl,TC,S,hwb,hwr,hu _ _ ⟨rfl,rfl⟩⟩
 intro Ω ω;rintro _ _ ⟨rfl,rfl⟩;refine ω _ _ ?_;refine gD fun A0 B0 hA hB=>?_;walk_at "rd"
 by_cases h:400 < eD bs Rs
 ·rw [if_pos h]
  refine hA _ ?_;simp only [gB,lD];walk_at "rd";refine⟨by omega,fun a ha=>⟨a,.int _,rfl,ag,fun d hd hda=>⟨rfl,d,by rw [ak (Ne.symm hda)];exact ag,_,ag,?_⟩⟩⟩
  have had:H d=none:=by
   rw [ak hda]at hd;exact hd
  refine q2 h a d _ ⟨ag,by rw [ak hda,ag]⟩ fun c o hc=>?_;have ca:c≠a:=ar hc ha;have cd:c≠d:=ar hc had;rw [ak ca,ak cd,ak ca,ak ca];exact hc
 ·rw [if_neg h]
  refine hB _ ?_;walk_at "rd";exact q1 (by omega)
end
def Dw(P:Program)(w:World)(K:Frag)(mg:Str→Option Value)(base:Heap)(Dt:List (Str×V))(nv:Nat)(R:gs):Prop:=∃(f C:Addr) (sp:Sp) (RI:Str→ju),KTD.datumAt (da R) Dt=some (.ref f)∧fR P w K mg base 7 f ["row","numbers","voices"] sp∧
 (∀(row:Str) (q:Addr) (H':Hp) (Q':VK),H' q=some (.lst ((dM R).map V.int))→(∀r H'',au H' H''→RI row r H''→Q' (.ref r) H'')→sp [.str row,.ref q,.int nv] H' Q' E0)∧
 (∀row,bz P w K mg base 7 nv C (xg R) (RI row) (CB R))∧(DK R→∀row,bz P w K mg base 4 nv C (xg R) (RI row) (CB R))∧(∀row,mG (RI row))∧∀row,pR P w K mg base C (RI row) row
section
variable {P:Program} {w:World} {K:Frag} {mg:Str→Option Value} {base:Heap} {aM:Addr}
theorem oE{f T0:Addr}{fd:FuncData}(F:pP K "read_rule" "read_rule" fT f fd T0)(T:Txt mg aM)(D_plain_rule:cJ P w K mg base "plain_rule" 9 ["row","voices"] (j7 P w K mg base aM 7)):aH P w K mg base cb 10 f fd ["text","voices","row"] (zr P w K mg base aM 7):=by
 refine F.ok sc_read_rule (fun vs H Q E h=>?_) (fun cdv A outer s H vs Q E hr h=>?_)
 ·obtain⟨row,kind,ns,nv,z,D,g,sp,Res,rfl,_⟩:=h
  rfl
 obtain⟨row,kind,ns,nv,z,D,g,sp,Res,rfl,R,hk,tab,hg,fn,k,kq⟩:=h
 refine⟨_,(ai (aD (i:=3) sc_read_rule.nd rfl (Or.inl rfl) (dm (bE (cG K PySem.F.plainAttrs_str PySem.F.slot_str_startswith PySem.F.type_str_startswith gc (pr 0) (af aZ ah)) (fun _=>rfl)) yV (aC D_plain_rule hr (by rfl) (af (pr 0) (af (pr 1) ah)))))
 (ai (br (bp (az fc (pr 3) aR (aE _))) (ao nr) aJ)
 (ao (ax (pr 3))))),?_⟩
 walk_at "rd";rw [uP row _ (c:=101) (by decide +kernel) (by rw [R.head];exact hk),if_neg aa4];refine⟨row,kind,ns,nv,D,g,sp,Res,rfl,R,tab,hg,fn,k,fun v H' hv=>?_⟩;obtain⟨hn,q⟩:=kq v H' hv;rw [if_neg hn];exact q
theorem ml{H:Hp}{n z:Addr}{D:List Int}{xs:List Addr}(hD:1≤D.length)(hn:H n=some (.lst (D.map V.int)))(hz:H z=some (.lst (xs.map V.ref))):n≠z:=fun e=>by
 subst e;rw [hn]at hz
 cases D with
 | nil=>simp at hD
 | cons d D=>
  cases xs with
  | nil=>cases hz
  | cons x xs=>cases hz
theorem xr{C:Addr}{row:Str}{x1 x2:Int}{D:List Int}(hD:1≤D.length):mG (fY C row x1 x2 D):=fun r H z zs ys h hz=>by
 obtain⟨dx,n,h1,h2⟩:=h;exact⟨dx,n,by rw [ak (ft h1 hz (fun e=>by cases e))];exact h1,by rw [ak (ml hD h2 hz)];exact h2⟩
theorem uM{C:Addr}{row:Str}{x1 x2 x3:Int}{D:List Int}(hD:1≤D.length):mG (eT C row x1 x2 x3 D):=fun r H z zs ys h hz=>by
 obtain⟨dx,n,h1,h2⟩:=h;exact⟨dx,n,by rw [ak (ft h1 hz (fun e=>by cases e))];exact h1,by rw [ak (ml hD h2 hz)];exact h2⟩
theorem xq{C:Addr}{row:Str}{x1:Int}{D:List Int}(hD:1≤D.length):mG (fX C row x1 D):=fun r H z zs ys h hz=>by
 obtain⟨dx,n,h1,h2⟩:=h;exact⟨dx,n,by rw [ak (ft h1 hz (fun e=>by cases e))];exact h1,by rw [ak (ml hD h2 hz)];exact h2⟩
theorem uL{C:Addr}{row:Str}{x1 x2:Int}{D:List Int}(hD:1≤D.length):mG (eS C row x1 x2 D):=fun r H z zs ys h hz=>by
 obtain⟨dx,n,h1,h2⟩:=h;exact⟨dx,n,by rw [ak (ft h1 hz (fun e=>by cases e))];exact h1,by rw [ak (ml hD h2 hz)];exact h2⟩
theorem xm{C:Addr}{row:Str}{x1 x2:Int}:mG (eG C row x1 x2):=fun r H z zs ys h hz=>by
 obtain⟨dx,h1⟩:=h;exact⟨dx,by rw [ak (ft h1 hz (fun e=>by cases e))];exact h1⟩
theorem xp{C:Addr}{row:Str}{x1 x2:Int}:mG (eH C row x1 x2):=fun r H z zs ys h hz=>by
 obtain⟨dx,h1⟩:=h;exact⟨dx,by rw [ak (ft h1 hz (fun e=>by cases e))];exact h1⟩
theorem uO{C:Addr}{row:Str}{x1 x2 x3 x4:Int}:mG (dh C row x1 x2 x3 x4):=fun r H z zs ys h hz=>by
 obtain⟨dx,h1⟩:=h;exact⟨dx,by rw [ak (ft h1 hz (fun e=>by cases e))];exact h1⟩
theorem uN{C:Addr}{row:Str}{t u:Int}{RIn:ju}(h:mG RIn):mG (d4 C row t u RIn):=fun r H z zs ys hr hz=>by
 obtain⟨dx,ri,h1,h2⟩:=hr;exact⟨dx,ri,by rw [ak (ft h1 hz (fun e=>by cases e))];exact h1,h _ _ _ _ _ h2 hz⟩
theorem DT{Dt:List (Str×V)}{f_span C_Span:Addr}{f_clock C_Clock:Addr}{f_move C_Move:Addr}{f_alike C_Alike:Addr}{f_back C_Back:Addr}{f_held C_Held:Addr}{f_times C_Times:Addr}
  (hd_span:KTD.datumAt ("span":Str) Dt=some (.ref f_span)) (fn_span:fR P w K mg base 7 f_span ["row","numbers","voices"] (j8 K C_Span)) (RO_span:∀(row:Str) (x1 x2:Int) (D:List Int) (nv:Nat),(1≤x1∧x1≤nv)→(1≤x2∧x2≤nv)→bz P w K mg base 4 nv C_Span (fV x1 x2 D) (fY C_Span row x1 x2 D) fun _=>True) (SH_span:∀(row:Str) (x1 x2:Int) (D:List Int),pR P w K mg base C_Span (fY C_Span row x1 x2 D) row)
  (hd_clock:KTD.datumAt ("clock":Str) Dt=some (.ref f_clock)) (fn_clock:fR P w K mg base 7 f_clock ["row","numbers","voices"] (iU K C_Clock)) (RO_clock:∀(row:Str) (x1 x2 x3:Int) (D:List Int) (nv:Nat),(1≤x1∧x1≤nv)→(1≤x2∧x2≤nv)→1≤x3→bz P w K mg base 4 nv C_Clock (eW x1 x2 x3 D) (eT C_Clock row x1 x2 x3 D) fun _=>True) (SH_clock:∀(row:Str) (x1 x2 x3:Int) (D:List Int),pR P w K mg base C_Clock (eT C_Clock row x1 x2 x3 D) row)
  (hd_move:KTD.datumAt ("move":Str) Dt=some (.ref f_move)) (fn_move:fR P w K mg base 7 f_move ["row","numbers","voices"] (j6 K C_Move)) (RO_move:∀(row:Str) (x1:Int) (D:List Int) (nv:Nat),(1≤x1∧x1≤nv)→bz P w K mg base 7 nv C_Move (gX x1 D) (fX C_Move row x1 D) fun _=>True) (SH_move:∀(row:Str) (x1:Int) (D:List Int),pR P w K mg base C_Move (fX C_Move row x1 D) row)
  (hd_alike:KTD.datumAt ("alike":Str) Dt=some (.ref f_alike)) (fn_alike:fR P w K mg base 7 f_alike ["row","numbers","voices"] (iT K C_Alike)) (RO_alike:∀(row:Str) (x1 x2:Int) (D:List Int) (nv:Nat),(1≤x1∧x1≤nv)→(1≤x2∧x2≤nv)→bz P w K mg base 7 nv C_Alike (fN x1 x2 D) (eS C_Alike row x1 x2 D) fun _=>True) (SH_alike:∀(row:Str) (x1 x2:Int) (D:List Int),pR P w K mg base C_Alike (eS C_Alike row x1 x2 D) row)
  (hd_back:KTD.datumAt ("back":Str) Dt=some (.ref f_back)) (fn_back:fR P w K mg base 7 f_back ["row","numbers","voices"] (j0 K C_Back)) (RO_back:∀(row:Str) (x1 x2:Int) (nv:Nat),(1≤x1∧x1≤nv)→0≤x2→bz P w K mg base 7 nv C_Back (ez x1 x2) (eG C_Back row x1 x2) jG) (SH_back:∀(row:Str) (x1 x2:Int),pR P w K mg base C_Back (eG C_Back row x1 x2) row)
  (hd_held:KTD.datumAt ("held":Str) Dt=some (.ref f_held)) (fn_held:fR P w K mg base 7 f_held ["row","numbers","voices"] (j3 K C_Held)) (RO_held:∀(row:Str) (x1 x2:Int) (nv:Nat),(1≤x1∧x1≤nv)→1≤x2→bz P w K mg base 7 nv C_Held (fU x1 x2) (eH C_Held row x1 x2) (pB x2)) (SH_held:∀(row:Str) (x1 x2:Int),pR P w K mg base C_Held (eH C_Held row x1 x2) row)
  (hd_times:KTD.datumAt ("times":Str) Dt=some (.ref f_times)) (fn_times:fR P w K mg base 7 f_times ["row","numbers","voices"] (iV K C_Times)) (RO_times:∀(row:Str) (x1 x2 x3 x4:Int) (nv:Nat),(1≤x1∧x1≤nv)→0≤x4→bz P w K mg base 7 nv C_Times (dR x1 x2 x3 x4) (dh C_Times row x1 x2 x3 x4) (jH x4)) (SH_times:∀(row:Str) (x1 x2 x3 x4:Int),pR P w K mg base C_Times (dh C_Times row x1 x2 x3 x4) row)
  (nv:Nat) (R:gs) (hg:rR nv R) (hl:se R):Dw P w K mg base Dt nv R:=by
 cases R with
 | span o t D=>
  obtain⟨o0,o1,t0,t1⟩:=hg;exact⟨f_span,C_Span,_,fun row=>fY C_Span row (o+1) (t+1) D,hd_span,fn_span,fun row q H' Q' hq k=>⟨q,row,(o+1),(t+1),D,nv,rfl,aT.of hq,by omega,by omega,by omega,by omega,hl.1,hl.2,k⟩,fun row=>(RO_span row (o+1) (t+1) D nv ⟨by omega,by omega⟩ ⟨by omega,by omega⟩).up (by decide),fun _ row=>RO_span row (o+1) (t+1) D nv ⟨by omega,by omega⟩ ⟨by omega,by omega⟩,fun row=>xr (D:=D) hl.1,fun row=>SH_span row (o+1) (t+1) D⟩
 | clock o t h D=>
  obtain⟨o0,o1,t0,t1,h1⟩:=hg;exact⟨f_clock,C_Clock,_,fun row=>eT C_Clock row (o+1) (t+1) h D,hd_clock,fn_clock,fun row q H' Q' hq k=>⟨q,row,(o+1),(t+1),h,D,nv,rfl,aT.of hq,by omega,by omega,by omega,by omega,h1,hl.1,hl.2,k⟩,fun row=>(RO_clock row (o+1) (t+1) h D nv ⟨by omega,by omega⟩ ⟨by omega,by omega⟩ h1).up (by decide),fun _ row=>RO_clock row (o+1) (t+1) h D nv ⟨by omega,by omega⟩ ⟨by omega,by omega⟩ h1,fun row=>uM (D:=D) hl.1,fun row=>SH_clock row (o+1) (t+1) h D⟩
 | move o D=>
  obtain⟨o0,o1⟩:=hg;exact⟨f_move,C_Move,_,fun row=>fX C_Move row (o+1) D,hd_move,fn_move,fun row q H' Q' hq k=>⟨q,row,(o+1),D,nv,rfl,aT.of hq,by omega,by omega,hl.1,hl.2,k⟩,fun row=>RO_move row (o+1) D nv ⟨by omega,by omega⟩,fun z=>z.elim,fun row=>xq (D:=D) hl.1,fun row=>SH_move row (o+1) D⟩
 | alike o t D=>
  obtain⟨o0,o1,t0,t1⟩:=hg;exact⟨f_alike,C_Alike,_,fun row=>eS C_Alike row (o+1) (t+1) D,hd_alike,fn_alike,fun row q H' Q' hq k=>⟨q,row,(o+1),(t+1),D,nv,rfl,aT.of hq,by omega,by omega,by omega,by omega,hl.1,hl.2,k⟩,fun row=>RO_alike row (o+1) (t+1) D nv ⟨by omega,by omega⟩ ⟨by omega,by omega⟩,fun z=>z.elim,fun row=>uL (D:=D) hl.1,fun row=>SH_alike row (o+1) (t+1) D⟩
 | back o far=>
  obtain⟨o0,o1,f0⟩:=hg;exact⟨f_back,C_Back,_,fun row=>eG C_Back row (o+1) far,hd_back,fn_back,fun row q H' Q' hq k=>⟨q,row,(o+1),far,nv,rfl,aT.of hq,by omega,by omega,f0,k⟩,fun row=>RO_back row (o+1) far nv ⟨by omega,by omega⟩ f0,fun z=>z.elim,fun row=>xm,fun row=>SH_back row (o+1) far⟩
 | held o most=>
  obtain⟨o0,o1,f0⟩:=hg;exact⟨f_held,C_Held,_,fun row=>eH C_Held row (o+1) most,hd_held,fn_held,fun row q H' Q' hq k=>⟨q,row,(o+1),most,nv,rfl,aT.of hq,by omega,by omega,f0,k⟩,fun row=>RO_held row (o+1) most nv ⟨by omega,by omega⟩ f0,fun z=>z.elim,fun row=>xp,fun row=>SH_held row (o+1) most⟩
 | times o nt lw hgh=>
  obtain⟨o0,o1,f0⟩:=hg;exact⟨f_times,C_Times,_,fun row=>dh C_Times row (o+1) nt lw hgh,hd_times,fn_times,fun row q H' Q' hq k=>⟨q,row,(o+1),nt,lw,hgh,nv,rfl,aT.of hq,by omega,by omega,hl,f0,k⟩,fun row=>RO_times row (o+1) nt lw hgh nv ⟨by omega,by omega⟩ f0,fun z=>z.elim,fun row=>uO,fun row=>SH_times row (o+1) nt lw hgh⟩
theorem iK(R:gs):(da R).length≤20∧32∉(da R).cps.toList∧(da R).cps.toList≠[]∧(da R).cps.toList.head?≠some 101:=by
 cases R with
 | span _ _ _=>exact show(Str.ofString "span").length≤20∧32∉(Str.ofString "span").cps.toList∧(Str.ofString "span").cps.toList≠[]∧(Str.ofString "span").cps.toList.head?≠some 101 from⟨by decide +kernel,by decide +kernel,by decide +kernel,by decide +kernel⟩
 | clock _ _ _ _=>exact show(Str.ofString "clock").length≤20∧32∉(Str.ofString "clock").cps.toList∧(Str.ofString "clock").cps.toList≠[]∧(Str.ofString "clock").cps.toList.head?≠some 101 from⟨by decide +kernel,by decide +kernel,by decide +kernel,by decide +kernel⟩
 | move _ _=>exact show(Str.ofString "move").length≤20∧32∉(Str.ofString "move").cps.toList∧(Str.ofString "move").cps.toList≠[]∧(Str.ofString "move").cps.toList.head?≠some 101 from⟨by decide +kernel,by decide +kernel,by decide +kernel,by decide +kernel⟩
 | alike _ _ _=>exact show(Str.ofString "alike").length≤20∧32∉(Str.ofString "alike").cps.toList∧(Str.ofString "alike").cps.toList≠[]∧(Str.ofString "alike").cps.toList.head?≠some 101 from⟨by decide +kernel,by decide +kernel,by decide +kernel,by decide +kernel⟩
 | back _ _=>exact show(Str.ofString "back").length≤20∧32∉(Str.ofString "back").cps.toList∧(Str.ofString "back").cps.toList≠[]∧(Str.ofString "back").cps.toList.head?≠some 101 from⟨by decide +kernel,by decide +kernel,by decide +kernel,by decide +kernel⟩
 | held _ _=>exact show(Str.ofString "held").length≤20∧32∉(Str.ofString "held").cps.toList∧(Str.ofString "held").cps.toList≠[]∧(Str.ofString "held").cps.toList.head?≠some 101 from⟨by decide +kernel,by decide +kernel,by decide +kernel,by decide +kernel⟩
 | times _ _ _ _=>exact show(Str.ofString "times").length≤20∧32∉(Str.ofString "times").cps.toList∧(Str.ofString "times").cps.toList≠[]∧(Str.ofString "times").cps.toList.head?≠some 101 from⟨by decide +kernel,by decide +kernel,by decide +kernel,by decide +kernel⟩
theorem mw{R:gs}(h:DU R):fB (Txt.join (Str.ofString " ") (da R::(dM R).map aG)) (da R) (dM R):=zi h.1 (so h) (iK R).2.1 (iK R).1 (iK R).2.2.1
theorem Bi{R:gs}{m a:Int}(h:DU R)(hm:m.natAbs < 10 ^ 40)(ha:a.natAbs < 10 ^ 40):mF (bN (.every m a R)) (Txt.join (Str.ofString " ") (da R::(dM R).map aG)) m a:=by
 have e32:(Str.ofString " ")=⟨#[32]⟩:=by decide +kernel
 refine⟨?_,hm,ha,(mw h).len⟩;show(Txt.join (Str.ofString " ") (Str.ofString "every"::aG m::aG a::da R::(dM R).map aG)).cps.toList=_;rw [e32,dJ,dJ];simp only [ad2];rw [ky,ky,ky];rfl
def gA(P:Program)(w:World)(K:Frag)(mg:Str→Option Value)(base:Heap):Sp:=fun vs H Q _=>∃(z:Int) (R:aQ) (nv:Nat),vs=[.str (bN R),.int nv,.int z]∧mP nv R∧t7 R∧∀(r:Addr) H',fC P w K mg base nv R r H'→au H H'→Q (.ref r) H'
theorem wY{f CE:Addr}{fd:FuncData}{Dt:List (Str×V)}(F:aH P w K mg base cb 10 f fd ["text","voices","row"] (zr P w K mg base aM 7))(G:aH P w K mg base cb 10 f fd ["text","voices","row"] (vI P w K mg base aM CE 7))(tab:ki K aM Dt)(MD:∀(nv:Nat) (R:gs),rR nv R→se R→Dw P w K mg base Dt nv R)
  (RO:∀(row:Str) (t u:Int) (nv:Nat) (Cn:Addr) (S:fb) (RIn:ju) (G:Int→Prop),0 < t→bz P w K mg base 4 nv Cn S RIn G→bz P w K mg base 7 nv CE (eX t u S) (d4 CE row t u RIn) (mY t)) (SHE:∀(row:Str) (t u:Int) (RIn:ju),pR P w K mg base CE (d4 CE row t u RIn) row) :
  aH P w K mg base cb 10 f fd ["text","voices","row"] (gA P w K mg base):=by
 refine(pZ F G).imp fun vs H Q E h=>?_;obtain⟨z,R,nv,rfl,hg,ho,q⟩:=h
 cases R with
 | plain R=>
  obtain⟨f,C,sp,RI,hd,fn,mk,ro,_,sb,sh⟩:=MD nv R hg ho.2;refine .inl ⟨_,da R,dM R,nv,z,Dt,f,sp,fun v H'=>∃r,v=.ref r∧au H H'∧RI (bN (.plain R)) r H',rfl,mw ho,(iK R).2.2.2,tab,hd,fn,fun q H' Q' s hq k=>mk _ q H' Q' hq fun r H'' s' hr=>k _ _ ⟨r,rfl,s.trans s',hr⟩,?_⟩;rintro v H' ⟨r,rfl,s,hr⟩;exact⟨fun z=>(by cases z),q r H' ⟨C,RI (bN (.plain R)),ro _,sb _,sh _,hr⟩ s⟩
 | every m a R=>
  obtain⟨hg,hin,m1,a0,a1⟩:=hg;obtain⟨ho,hm,ha⟩:=ho;obtain⟨f,C,sp,RI,hd,fn,mk,_,ro,sb,_⟩:=MD nv R hg ho.2
  have hk:da R=Str.ofString "span"∨da R=Str.ofString "clock":=by
   cases R with
   | span o t D=>exact .inl rfl
   | clock o t h D=>exact .inr rfl
   | _=>exact hin.elim
  have re:=Bi ho hm ha;have r4:=ro hin (Txt.join (Str.ofString " ") (da R::(dM R).map aG));refine .inr ⟨_,nv,z,rfl,⟨_,_,_,re⟩,_,_,da R,m,a,dM R,nv,Dt,f,sp,RI (Txt.join (Str.ofString " ") (da R::(dM R).map aG)),rfl,re,mw ho,hk,a0,a1,tab,hd,fn,fun q H' Q' s hq k=>mk _ q H' Q' hq fun r H'' s' hr=>k _ _ (s.trans s') hr,r4.mono,fun r H' s hr=>⟨fun z=>(by cases z),q r H' ⟨CE,_,RO _ m a nv C _ _ _ (by omega) r4,uN (sb _),SHE _ m a _,hr⟩ s⟩⟩
end
theorem lQ{c:Nat}(hc:c < 256){ws:List Str}(h:ws≠[])(hn:∀z∈ws,c∉z.cps.toList):Txt.split (Txt.join ⟨#[c]⟩ ws) ⟨#[c]⟩=ws:=by
 refine eU ?_;rw [iF _ hc,dJ,nO c _ (by simpa using h) (fun p hp=>?_)];obtain⟨z,hz,rfl⟩:=ac7.mp hp;exact hn z hz
def qX(K:Frag):Sp:=fun vs H Q _=>∃row:Str,vs=[.str row]∧row.length≤10000∧((∃lo hi:Int,fB row (Str.ofString "voice") [lo,hi]∧lo≤hi∧∀p H',H' p=some (.tup [.int lo,.int hi])→au H H'→Q (.ref p) H')∨∃w0 ws,Txt.split row ⟨#[32]⟩=w0::ws∧w0≠Str.ofString "voice"∧∀H',au H H'→Q .non H')
def mB(P:Program)(w:World)(K:Frag)(mg:Str→Option Value)(base:Heap)(C:Addr):Sp:=fun vs H Q _=>∃(text:Str) (bs:List (Int×Int)) (vr:Int×Int→Str) (Rs:List aQ),vs=[.str text]∧text.length≤1000000∧Txt.split text ⟨#[10]⟩=bs.map vr++Rs.map bN∧1≤bs.length∧bs.length≤4∧Rs.length≤12∧
 (∀b∈bs,fB (vr b) (Str.ofString "voice") [b.1,b.2]∧b.1≤b.2∧(cI b).natAbs < 2 ^ 60)∧(∀R∈Rs,mP bs.length R∧t7 R∧(fP R).natAbs < 2 ^ 60)∧eD bs Rs≤400∧∀x H',bj P w K mg base C bs.length bs Rs x H'→au H H'→Q (.ref x) H'
theorem gZ(R:aQ)(h:t7 R):(bN R).length≤10000∧∃w0 ws,Txt.split (bN R) ⟨#[32]⟩=w0::ws∧w0≠Str.ofString "voice":=by
 cases R with
 | plain R=>
  have hr:=mw h;refine⟨hr.len,da R,(dM R).map aG,hr.split,?_⟩
  cases R with
  | span _ _ _=>exact show Str.ofString "span"≠Str.ofString "voice" by decide +kernel
  | clock _ _ _ _=>exact show Str.ofString "clock"≠Str.ofString "voice" by decide +kernel
  | move _ _=>exact show Str.ofString "move"≠Str.ofString "voice" by decide +kernel
  | alike _ _ _=>exact show Str.ofString "alike"≠Str.ofString "voice" by decide +kernel
  | back _ _=>exact show Str.ofString "back"≠Str.ofString "voice" by decide +kernel
  | held _ _=>exact show Str.ofString "held"≠Str.ofString "voice" by decide +kernel
  | times _ _ _ _=>exact show Str.ofString "times"≠Str.ofString "voice" by decide +kernel
 | every m a R=>
  obtain⟨h,hm,ha⟩:=h
  have e32:(Str.ofString " ")=⟨#[32]⟩:=by decide +kernel
  have nn:∀n:Int,32∉(aG n).cps.toList:=fun n=>mr n
  have hw:∀z∈(Str.ofString "every"::aG m::aG a::da R::(dM R).map aG),32∉z.cps.toList:=fun z hz=>by
   rcases aa6.mp hz with rfl | hz
   ·decide +kernel
   rcases aa6.mp hz with rfl | hz
   ·exact nn m
   rcases aa6.mp hz with rfl | hz
   ·exact nn a
   rcases aa6.mp hz with rfl | hz
   ·exact(iK R).2.1
   ·obtain⟨n,_,rfl⟩:=ac7.mp hz
    exact nn n
  refine⟨?_,Str.ofString "every",aG m::aG a::da R::(dM R).map aG,?_,by decide +kernel⟩
  ·show(Txt.join (Str.ofString " ") (Str.ofString "every"::aG m::aG a::da R::(dM R).map aG)).length≤10000
   rw [bg,e32,dJ]
   have hl:=iJ 32 ((Str.ofString "every"::aG m::aG a::da R::(dM R).map aG).map fun z=>z.cps.toList) 60 (fun p hp=>by
    obtain⟨z,hz,rfl⟩:=ac7.mp hp;rw [←bg];rcases aa6.mp hz with rfl | hz
    ·decide +kernel
    rcases aa6.mp hz with rfl | hz
    ·have:=fG hm;omega
    rcases aa6.mp hz with rfl | hz
    ·have:=fG ha;omega
    rcases aa6.mp hz with rfl | hz
    ·have:=(iK R).1;omega
    ·obtain⟨n,hn,rfl⟩:=ac7.mp hz
     have:=fG (h.1 n hn);omega)
   have:=so h
   simp only [aa0,ac2]at hl;omega
  ·show Txt.split (Txt.join (Str.ofString " ") (Str.ofString "every"::aG m::aG a::da R::(dM R).map aG)) ⟨#[32]⟩=_
   rw [e32];exact lQ (by decide) (by simp) hw
section
variable {P:Program} {w:World} {K:Frag} {mg:Str→Option Value} {base:Heap} {aM:Addr}
theorem ng{f:Addr}{fd:FuncData}(F:cT K "voice_range" "voice_range" gp f fd)(T:Txt mg aM)(D_is_number:cJ P w K mg base "is_number" 1 ["word"] pH):aH P w K mg base cb 2 f fd ["row"] (qX K):=by
 refine F.ok sc_voice_range (fun vs H Q E h=>?_) (fun cdv A outer s H vs Q E hr h=>?_)
 ·obtain⟨row,rfl,_⟩:=h
  rfl
 obtain⟨row,rfl,hl,h⟩:=h
 refine⟨_,(ai (aD (i:=1) sc_voice_range.nd rfl (Or.inl rfl) (cG K PySem.F.plainAttrs_str PySem.F.slot_str_split PySem.F.type_str_split jJ (pr 0) (af aZ ah)))
 (ai (br (PW.pt (de (bp (az zS (aB (aP K) (by rfl) T.n_len boot_len (af (pr 1) ah)) aj (aE _))) (de (bp (az zS (aU (bJ K) (pr 1) aj (fun _ _=>rfl)) aZ (aE _))) (cM (dv (bE (aB (iI K rfl) (by rfl) T.n_all boot_all (af (eu (own:=["word"]) (js:=[]) rfl (bX K (bQ (g6 K) (pr 1) (gH aj) cQ)) (bG.of (by rfl)) (fun _ _ _ _ _=>(aF (i:=0) (show List.Nodup (["word"]:List Str)from by decide +kernel) rfl (Or.inl rfl))) (fun _ _ _ _ _=>dE) (fun _ _ _ _ _=>(aC D_is_number hr (by rfl) (af (pr 0) ah)))) ah)) (fun _=>rfl))))))) (ao (ax aR)) aJ)
 (ai (aD (i:=2) sc_voice_range.nd rfl (Or.inl rfl) (cH (af (aW (gu) (by rfl) T.n_int boot_int (af (aU (bJ K) (pr 1) aj (fun _ _=>rfl)) ah)) (af (aW (gu) (by rfl) T.n_int boot_int (af (aU (bJ K) (pr 1) aj (fun _ _=>rfl)) ah)) ah))))
 (ao (ax (dm (bp (az (o0 ib) (aU (bJ K) (pr 2) aj (fun _ _=>rfl)) (aU (bJ K) (pr 2) aj (fun _ _=>rfl)) (aE _))) (pr 2) aR)))))),?_⟩
 have hs:sizeLine=16777216:=sizeLine_eq;refine bo (fun σ H'=>∃p:Addr,H' p=some (.lst ((Txt.split row ⟨#[32]⟩).map V.str))∧σ=[some (.str row),some (.ref p),none]∧au H H') ?_ ?_
 ·intro u' hu
  walk_at "rd";exact⟨32,by decide +kernel,by decide,by omega,fun p hp=>hu _ _ ⟨p,ag,rfl,av hp⟩⟩
 intro Ω ω;rintro _ H1 ⟨p,hp1,rfl,s1⟩;refine ω _ _ ?_;rcases h with⟨lo,hi,RI,hle,q⟩ | ⟨w0,ws,hsp,hw0,q⟩
 ·rw [RI.split]at hp1
  have b1:=RI.nb lo (by simp);have b2:=RI.nb hi (by simp);have nlen:∀n:Int,n.natAbs < 10 ^ 40→(aG n).length≤41:=fun n h=>fG h;refine bo (fun σ H'=>σ=[some (.str row),some (.ref p),none]∧au H1 H') ?_ ?_
  ·intro u' hu
   walk_at "rd";refine⟨_,.inl (aT.of hp1),?_⟩;rw [if_pos (by simp)];refine bH (aT.of hp1) (bw rfl) ?_;walk_at "rd";refine dP (aT.of hp1) fun q2 hq2=>?_;rw [show(some (1:Int))=some ((1:Nat):Int)from rfl,ee];show zT _ _ _ _;have s2:au H1 (upd H1 q2 (.lst (([lo,hi].map aG).map V.str))):=av hq2;refine bZ (xs:=([lo,hi].map aG).map V.str) (aT.of ag) (cU (xs:=([lo,hi].map aG).map V.str) (fun i ys H'=>ys=(List.replicate i true).map V.bl∧au (upd H1 q2 (.lst (([lo,hi].map aG).map V.str))) H') (by simp;omega) ⟨rfl,au.refl _⟩ ?_ ?_ ?_ ?_)
   ·rintro i ys H' ⟨rfl,sm⟩
    simp
   ·rintro i ys H' ⟨rfl,sm⟩
    exact sm.seq (aT.of ag)
   ·rintro i x ys H' hx ⟨rfl,sm⟩
    obtain⟨n,hn,rfl⟩:∃n∈[lo,hi],x=.str (aG n):=by
     have:=ad1 hx
     simp only [ai1,ac7,Function.comp_apply]at this;obtain⟨n,hn,e⟩:=this;exact⟨n,hn,e.symm⟩
    walk_at "rd";refine⟨aG n,rfl,?_,fun H1 s1=>⟨?_,sm.trans s1⟩⟩
    ·have:=nlen n (RI.nb n hn)
     omega
    ·show _=(List.replicate (i+1) true).map V.bl
     rw [show(aG n).cps.toList=gF n from rfl,kx (RI.nb n hn),List.replicate_succ',ab7];rfl
   rintro ys H2 ⟨rfl,sm⟩ p1 hp1';refine⟨_,aT.of ag,?_⟩;rw [show(List.replicate (([lo,hi].map aG).map V.str).length true).all id=true by simp];walk_at "rd";exact hu _ _ ⟨rfl,(s2.trans sm).upd hp1'⟩
  intro Ω ω;rintro _ H2 ⟨rfl,s12⟩;have hp2:=s12 _ _ hp1;refine ω _ _ ?_;refine bo (fun σ H'=>∃t:Addr,H' t=some (.tup [.int lo,.int hi])∧σ=[some (.str row),some (.ref p),some (.ref t)]∧au H2 H') ?_ ?_
  ·intro u' hu
   walk_at "rd";refine bH (aT.of hp2) (show fm _ ((1:Nat):Int)=_ from aO rfl) ?_;walk_at "rd";refine⟨lo,mj (aa5 b1 (ae7 (by decide) (by decide))),by have:=nlen lo b1;omega,bH (aT.of hp2) (show fm _ ((2:Nat):Int)=_ from aO rfl) ?_⟩;walk_at "rd";exact⟨hi,mj (aa5 b2 (ae7 (by decide) (by decide))),by have:=nlen hi b2;omega,by omega,fun t ht=>hu _ _ ⟨t,ag,rfl,av ht⟩⟩
  intro Ω ω;rintro _ H3 ⟨t,ht,rfl,s23⟩;refine ω _ _ ?_;walk_at "rd";refine dN (cD.of ht) (bw rfl) (dN (cD.of ht) (show fm _ ((1:Nat):Int)=_ from aO rfl) ?_);walk_at "rd";rw [if_pos hle];exact q t _ ht ((s1.trans s12).trans s23)
 ·rw [hsp]at hp1
  walk_at "rd";refine⟨_,.inl (aT.of hp1),?_⟩
  by_cases h3:(((w0::ws).map V.str).length:Int)=3
  ·rw [if_pos h3]
   refine bH (aT.of hp1) (bw rfl) ?_;walk_at "rd";rw [if_neg hw0];exact q _ s1
  ·rw [if_neg h3]
   exact q _ s1
end
section
variable {P:Program} {w:World} {K:Frag} {mg:Str→Option Value} {base:Heap} {aM:Addr}
theorem E1{g:TG}{x:V}{σ:L2.St}{H:Hp}{tb:TS}{D:e9}(h:∀B:L2.St→Hp→Prop,(∀σ H,tb D σ H→B σ H)→g x σ H B):g x σ H fun σ2 H2=>tb D σ2 H2:=h _ fun _ _ z=>z
theorem AH{f C:Addr}{fd:FuncData}(F:cT K "read" "read" uu f fd)(T:Txt mg aM)(TC:dw K C)(D_voice_range:cJ P w K mg base "voice_range" 10 ["row"] (qX K))(D_read_rule:cJ P w K mg base "read_rule" 10 ["text","voices","row"] (gA P w K mg base))(DM_Score:e7 P w K mg base "Score" C 9 ["self","ranges","rules"] (eY K C))(D_not_too_wide:cJ P w K mg base "not_too_wide" 10 ["score"] (lp P w K mg base)):aH P w K mg base cb 11 f fd ["text"] (mB P w K mg base C):=by
 refine F.ok sc_read (fun vs H Q E h=>?_) (fun cdv A outer s H vs Q E hr h=>?_)
 ·obtain⟨text,bs,vr,Rs,rfl,_⟩:=h
  rfl
 obtain⟨text,bs,vr,Rs,rfl,htl,hsp,nv1,nv4,rl,hb,hR,hwt,q⟩:=h
 refine⟨_,(ai (aD (i:=1) sc_read.nd rfl (Or.inl rfl) (d0 ah))
 (ai (aD (i:=2) sc_read.nd rfl (Or.inl rfl) (d0 ah))
 (ai (d3 PassesOwn.never rfl (gy rfl T.n_enumerate (af (cG K PySem.F.plainAttrs_str PySem.F.slot_str_split PySem.F.type_str_split jJ (pr 0) (af aZ ah)) ah)) (cg K (n:=2) rfl (aL (aF (i:=3) sc_read.nd rfl (Or.inl rfl)) (aL (aF (i:=4) sc_read.nd rfl (Or.inl rfl)) cj)))
 (ai (aD (i:=5) sc_read.nd rfl (Or.inl rfl) (aC D_voice_range hr (by rfl) (af (pr 4) ah)))
 (ao (br (PW.pt (ik (bp (az jO (pr 5) aR (aE _))) (ik (bp (az (o0 qr) (aB (aP K) (by rfl) T.n_len boot_len (af (pr 1) ah)) (d6 T.g_MOST_VOICES) (aE _))) (gI (bp (az sr (aB (aP K) (by rfl) T.n_len boot_len (af (pr 2) ah)) aj (aE _))))))) (ao (bY (cG K PySem.F.plainAttrs_list PySem.F.slot_list_append PySem.F.type_list_append dW (pr 1) (af (pr 5) ah)))) (ao (br (PW.pt (de (bp (az sr (aB (aP K) (by rfl) T.n_len boot_len (af (pr 1) ah)) aj (aE _))) (cM (bp (az sr (aB (aP K) (by rfl) T.n_len boot_len (af (pr 2) ah)) (d6 T.g_MOST_RULES) (aE _)))))) (ao nr) (ao (bY (cG K PySem.F.plainAttrs_list PySem.F.slot_list_append PySem.F.type_list_append dW (pr 2) (af (aC D_read_rule hr (by rfl) (af (pr 4) (af (aB (aP K) (by rfl) T.n_len boot_len (af (pr 1) ah)) (af (pr 3) ah)))) ah))))))))))
 (ao (ax (aC D_not_too_wide hr (by rfl) (af (ij DM_Score hr (by rfl) (af (pr 1) (af (pr 2) ah))) ah))))))),?_⟩
 have hs:sizeLine=16777216:=sizeLine_eq;refine bo (fun σ H'=>∃ra:Addr,H ra=none∧H' ra=some (.lst (([]:List Addr).map V.ref))∧σ=[some (.str text),some (.ref ra),none,none,none,none]∧au H H') ?_ ?_
 ·intro u' hu
  walk_at "rd";exact⟨by omega,fun p hp=>hu _ _ ⟨p,hp,ag,rfl,av hp⟩⟩
 intro Ω ω;rintro _ H1 ⟨ra,hra,hra1,rfl,s1⟩;refine ω _ _ ?_;refine bo (fun σ H'=>∃ru:Addr,H ru=none∧ru≠ra∧H' ru=some (.lst (([]:List Addr).map V.ref))∧H' ra=some (.lst (([]:List Addr).map V.ref))∧σ=[some (.str text),some (.ref ra),some (.ref ru),none,none,none]∧au H H') ?_ ?_
 ·intro u' hu
  walk_at "rd";exact⟨by omega,fun p hp=>hu _ _ ⟨p,s1.free hp,(ar hra1 hp).symm,ag,(av hp) _ _ hra1,rfl,s1.upd hp⟩⟩
 clear hra1 s1;intro Ω ω;rintro _ H2 ⟨ru,hru,rra,hru2,hra2,rfl,s2⟩;refine ω _ _ ?_;refine bo (fun σ H'=>∃(ts rs:List Addr) (o3 o4 o5:Option V),σ=[some (.str text),some (.ref ra),some (.ref ru),o3,o4,o5]∧ts.length=bs.length∧rs.length=Rs.length∧H' ra=some (.lst (ts.map V.ref))∧H' ru=some (.lst (rs.map V.ref))∧(∀(j:Nat) (t:Addr) (b:Int×Int),ts[j]?=some t→bs[j]?=some b→H' t=some (.tup [.int b.1,.int b.2]))∧(∀(j:Nat) (r:Addr) (R:aQ),rs[j]?=some r→Rs[j]?=some R→fC P w K mg base bs.length R r H')∧au H H') ?_ ?_
 ·intro u' hu
  walk_at "rd";refine⟨10,by decide +kernel,by decide,by omega,fun sp hsp0=>?_⟩;rw [hsp];have s3:au H2 (upd H2 sp (.lst ((bs.map vr++Rs.map bN).map V.str))):=av hsp0;have nsa:sp≠ra:=(ar hra2 hsp0).symm;have nsu:sp≠ru:=(ar hru2 hsp0).symm;obtain⟨Pv,hPv⟩:∃Pv:Nat→L2.St→Hp→Prop,Pv=fun i σ H'=>∃(ts rs:List Addr) (o3 o4 o5:Option V),σ=[some (.str text),some (.ref ra),some (.ref ru),o3,o4,o5]∧ts.length=min i bs.length∧rs.length=i - bs.length∧H' ra=some (.lst (ts.map V.ref))∧H' ru=some (.lst (rs.map V.ref))∧H' sp=some (.lst ((bs.map vr++Rs.map bN).map V.str))∧(∀(j:Nat) (t:Addr) (b:Int×Int),ts[j]?=some t→bs[j]?=some b→H' t=some (.tup [.int b.1,.int b.2]))∧(∀(j:Nat) (r:Addr) (R:aQ),rs[j]?=some r→Rs[j]?=some R→fC P w K mg base bs.length R r H')∧au H H':=⟨_,rfl⟩
  refine⟨true,⟨_,aT.of ag⟩,gE (l:=true) (us:=(bs.map vr++Rs.map bN).map V.str) Pv
   (by rw [hPv];exact⟨[],[],none,none,none,rfl,by simp,by simp,s3 _ _ hra2,s3 _ _ hru2,ag,fun j t b e=>(by cases e),fun j r R e=>(by cases e),s2.trans s3⟩) (fun i σ H' _ h=>by rw [hPv]at h;obtain⟨_,_,_,_,_,_,_,_,_,_,h,_⟩:=h;exact aT.of h) ?_ ?_⟩
  ·rintro i y σ H4 p hx hI hp0
   have hI':=hI;rw [hPv]at hI';clear hI;obtain⟨ts,rs,o3,o4,o5,rfl,tl,rsl,ha4,hu4,hs4,ht4,hr4,s4⟩:=hI'
   have hi:i < bs.length+Rs.length:=by have:=(aa2.mp hx).1;simpa using this
   rw [aa8]at hx;have sp5:au H4 (upd H4 p (.tup [.int i,y])):=av hp0;have hp5:(upd H4 p (.tup [.int i,y])) p=some (.tup [.int i,y]):=ag;refine E1 fun B hB=>?_
   by_cases hv:i < bs.length
   ·-- a voice's row
    have eb:bs[i]?=some bs[i]:=aa1 hv;obtain⟨hrow,hle,_⟩:=hb _ (ac8 hv);rw [ab3 (by simpa using hv),aa8,eb]at hx;cases hx;walk_at "rd";refine⟨_,cD.of hp5,rfl,?_⟩;walk_at "rd";refine hB _ _ (EV fun kk hkk=>?_);walk_at "rd";generalize upd H4 p (.tup [.int i,.str (vr bs[i])])=H5 at sp5 hp5;refine⟨vr bs[i],rfl,hrow.len,.inl ⟨_,_,hrow,hle,fun t H6 ht6 s56=>?_⟩⟩;have s46:=sp5.trans s56;refine hkk _ _ ?_;walk_at "rd";refine⟨_,.inl (aT.of (s46 _ _ ha4)),?_⟩;rw [if_pos (by rw [aa0];omega)];refine⟨_,.inl (aT.of (s46 _ _ hu4)),?_⟩;rw [if_pos (by rw [aa0];omega)];have ha6:=s46 _ _ ha4;refine⟨.inl ⟨rfl,_,aT.of ha6⟩,ra,_,_,rfl,rfl,ha6,by rw [aa0];omega,?_⟩;have rs0:rs=[]:=ae8.mp (by omega);subst rs0;rw [hPv];refine⟨ts++[t],[],_,_,_,rfl,by simp;omega,by simp;omega,by rw [ag,ab7];rfl,by rw [ak rra];exact s46 _ _ hu4,by rw [ak nsa];exact s46 _ _ hs4,fun j t' b' e1 e2=>?_,fun j r R e=>(by cases e),fun c u hc=>?_⟩
    ·by_cases hj:j < ts.length
     ·rw [ab3 hj]at e1
      have:=s46 _ _ (ht4 j t' b' e1 e2)
      rw [ak (ft this ha6 (fun e=>by cases e))];exact this
     ·rw [ab0 (by omega)]at e1
      have ej:j=ts.length:=by
       have:=(aa2.mp e1).1
       simp at this;omega
      rw [ej,ad9]at e1;cases e1;rw [show j=i by omega,eb]at e2;cases e2;rw [ak (ft ht6 ha6 (fun e=>by cases e))];exact ht6
    ·rw [ak (ar hc hra)]
     exact(s4.trans s46) _ _ hc
   ·-- a rule's row
    have hk:i - bs.length < Rs.length:=by omega
    have eR:Rs[i - bs.length]?=some (Rs[i - bs.length]'hk):=aa1 hk;obtain⟨hgd,hok,_⟩:=hR _ (ac8 hk);obtain⟨hlen,w0,ws,hsw,hw0⟩:=gZ _ hok;rw [ab0 (by simpa using hv),aa0,aa8,eR]at hx;cases hx;walk_at "rd";refine⟨_,cD.of hp5,rfl,?_⟩;walk_at "rd";refine hB _ _ (EV fun kk hkk=>?_);walk_at "rd";generalize upd H4 p (.tup [.int i,.str (bN (Rs[i - bs.length]'hk))])=H5 at sp5 hp5;refine⟨_,rfl,hlen,.inr ⟨w0,ws,hsw,hw0,fun H6 s56=>?_⟩⟩;have s46:=sp5.trans s56;refine hkk _ _ ?_;walk_at "rd";refine⟨_,.inl (aT.of (s46 _ _ ha4)),?_⟩;rw [if_neg (by rw [aa0];omega)];refine⟨_,.inl (aT.of (s46 _ _ hu4)),?_⟩;rw [if_neg (by rw [aa0];omega)];refine⟨.inl ⟨rfl,_,aT.of (s46 _ _ hu4)⟩,_,.inl (aT.of (s46 _ _ ha4)),?_⟩;rw [aa0,show ts.length=bs.length by omega];refine⟨i,_,bs.length,rfl,hgd,hok,fun r H7 hr7 s67=>?_⟩;have s47:=s46.trans s67;have hu7:=s47 _ _ hu4;refine⟨ru,_,_,rfl,rfl,hu7,by rw [aa0];omega,?_⟩;rw [hPv];refine⟨ts,rs++[r],_,_,_,rfl,by omega,by simp;omega,by rw [ak rra.symm];exact s47 _ _ ha4,by rw [ag,ab7];rfl,by rw [ak nsu];exact s47 _ _ hs4,fun j t' b' e1 e2=>?_,fun j r' R' e1 e2=>?_,fun c u hc=>?_⟩
    ·have:=s47 _ _ (ht4 j t' b' e1 e2)
     rw [ak (ft this hu7 (fun e=>by cases e))];exact this
    ·by_cases hj:j < rs.length
     ·rw [ab3 hj]at e1
      exact((hr4 j r' R' e1 e2).same s47).stab hu7
     ·rw [ab0 (by omega)]at e1
      have ej:j=rs.length:=by
       have:=(aa2.mp e1).1
       simp at this;omega
      rw [ej,ad9]at e1;cases e1;rw [show j=i - bs.length by omega,eR]at e2;cases e2;exact hr7.stab hu7
    ·rw [ak (ar hc hru)]
     exact(s4.trans s47) _ _ hc
  ·intro σ H4 hI
   rw [hPv]at hI;obtain⟨ts,rs,o3,o4,o5,rfl,tl,rsl,ha4,hu4,hs4,ht4,hr4,s4⟩:=hI;rw [aa0,ab4,aa0,aa0]at tl rsl;exact hu _ _ ⟨ts,rs,o3,o4,o5,rfl,by omega,by omega,ha4,hu4,ht4,hr4,s4⟩
 clear hra2 hru2 s2;clear H2;intro Ω ω;rintro _ H2 ⟨ts,rs,o3,o4,o5,rfl,tl,rsl,ha2,yl,ht2,hr2,s2⟩;refine ω _ _ ?_;walk_at "rd";intro x dx hx hdx dxx;have s3:au H2 (upd (upd H2 dx (.own x)) x (.ins C dx [])):=(av hdx).upd (by rw [ak dxx.symm];exact hx);refine⟨x,dx,ra,ru,ts.map V.ref,rs.map V.ref,rfl,ag,s3.seq (aT.of ha2),s3.seq (aT.of yl),fun p q' H' hp hq hqp e=>⟨rfl,?_⟩⟩
 have px:p≠x:=fun e=>by subst e;rw [ag]at hp;cases hp
 have qx:q'≠x:=fun e=>by subst e;rw [ag]at hq;cases hq
 have s4:au H2 H':=fun c u hc=>by
  have h3:=s3 _ _ hc;have cx:c≠x:=ar hc hx;rw [e,ak cx,ak (ar h3 hq),ak (ar h3 hp)];exact h3
 have SA:bj P w K mg base C bs.length bs Rs x H':=⟨dx,p,q',by rw [e,ag],⟨ts,aT.of (by rw [e,ak px,ak hqp.symm,ag]),tl,fun i t b e1 e2=>cD.of (s4 _ _ (ht2 i t b e1 e2))⟩,⟨rs,(by rw [e,ak qx,ag]),rsl,fun j r R e1 e2=>(hr2 j r R e1 e2).same s4⟩⟩;exact⟨x,C,bs.length,bs,Rs,rfl,TC,SA,fun b hb'=>(hb b hb').2.2,fun R hR'=>(hR R hR').2.2,hwt,q x H' SA (s2.trans s4)⟩
end
def sC(bs:List (Int×Int))(cols:List (List Int))(v i:Nat):Bool:=let n:=aS (cols.getD i []) ((v:Int)+1);let b:=bs.getD v (0,0);!(decide (b.1≤n) && decide (n≤b.2))
def jc(bs:List (Int×Int))(cols:List (List Int))(v:Nat):Option Nat:=bP (sC bs cols v) 0 cols.length
def kI(cols:List (List Int))(R:aQ):Option Nat:=jC (sX R) (sX R).start none 0 cols
def tx:Option Nat→V
 | none=>.non
 | some n=>.int n
theorem AA(o:Option Nat):tx o=Az (o.map fun(n:Nat)=>(n:Int)):=by cases o<;>rfl
def places(bs:List (Int×Int))(Rs:List aQ)(cols:List (List Int)):List (Option Nat):=(List.range bs.length).map (jc bs cols)++Rs.map (kI cols)
def bM:Nat→List (Option Nat)→List (Int×Int)
 | _,[]=>[]
 | i,none::l=>bM (i+1) l
 | i,some p::l=>((p:Int),(i:Int))::bM (i+1) l
def lu(K:Frag):Sp:=fun vs H Q _=>∃(l:Addr) (lo hi:Int) (v nv:Nat) (cols:List (List Int)),vs=[.int lo,.int hi,.int v,.ref l]∧dX K H l nv cols∧v < nv∧∀H',au H H'→Q (tx (bP (fun i=>!(decide (lo≤aS (cols.getD i []) ((v:Int)+1)) && decide (aS (cols.getD i []) ((v:Int)+1)≤hi))) 0 cols.length)) H'
def mz(P:Program)(w:World)(K:Frag)(mg:Str→Option Value)(base:Heap):Sp:=fun vs H Q _=>∃(x C l:Addr) (bs:List (Int×Int)) (Rs:List aQ) (cols:List (List Int)),vs=[.ref x,.ref l]∧dw K C∧bj P w K mg base C bs.length bs Rs x H∧dX K H l bs.length cols∧cols.length≤63∧bs.length≤4∧Rs.length≤12∧
 (bM 0 (places bs Rs cols)=[]→∀H',au H H'→Q .non H')∧∀(t:Addr) (k:Int×Int) H',k∈bM 0 (places bs Rs cols)→(∀k'∈bM 0 (places bs Rs cols),n8 k' k=false)→H' t=some (.tup [.int k.1,.int k.2])→au H H'→Q (.ref t) H'
section
variable {P:Program} {w:World} {K:Frag} {mg:Str→Option Value} {base:Heap} {aM:Addr}
theorem kH{f:Addr}{fd:FuncData}(F:cT K "first_outside" "first_outside" fk f fd)(T:Txt mg aM):aH P w K mg base cb 1 f fd ["low","high","voice","line"] (lu K):=by
 refine F.ok sc_first_outside (fun vs H Q E h=>?_) (fun cdv A outer s H vs Q E hr h=>?_)
 ·obtain⟨l,lo,hi,v,nv,cols,rfl,_⟩:=h
  rfl
 obtain⟨l,lo,hi,v,nv,cols,rfl,⟨ps,hps,hpl,hpc⟩,hv,q⟩:=h
 refine⟨_,(ai (d3 PassesOwn.never rfl (gy rfl T.n_enumerate (af (pr 3) ah)) (cg K (n:=2) rfl (aL (aF (i:=4) sc_first_outside.nd rfl (Or.inl rfl)) (aL (aF (i:=5) sc_first_outside.nd rfl (Or.inl rfl)) cj)))
 (ao (br (dv (bp (sG (o0 ib) (o0 ib) (pr 0) (aU (bJ K) (pr 5) (pr 2) (fun _ _=>rfl)) (pr 1)))) (ao (ax (pr 4))) aJ)))
 (ao (ax aR))),?_⟩
 have hs:sizeLine=16777216:=sizeLine_eq;walk_at "rd";generalize hB:(fun i=>!(decide (lo≤aS (cols.getD i []) ((v:Int)+1)) && decide (aS (cols.getD i []) ((v:Int)+1)≤hi)))=B at q;refine⟨true,⟨_,hps⟩,gE (l:=true) (us:=ps.map V.ref) (fun i σ H'=>∃(o o':Option V),σ=[some (.int lo),some (.int hi),some (.int v),some (.ref l),o,o']∧au H H'∧bP B 0 cols.length=bP B i (cols.length - i)) ⟨none,none,rfl,au.refl _,rfl⟩ (fun i σ H' _ h=>by obtain⟨_,_,_,sm,_⟩:=h;exact sm.seq hps) ?_ ?_⟩
 ·rintro i y σ H1 p hx ⟨o,o',rfl,sm,e⟩ hp0
  obtain⟨c,hc0,rfl⟩:∃c,ps[i]?=some c∧y=.ref c:=by
   rw [aa8]at hx
   cases hc:ps[i]? with
   | none=>rw [hc]at hx;cases hx
   | some c=>rw [hc]at hx;exact⟨c,rfl,(Option.some.inj hx).symm⟩
  have hi':i < cols.length:=by have:=(aa2.mp hc0).1;omega
  have hu:cols[i]?=some cols[i]:=aa1 hi';obtain⟨hct,hcl'⟩:=hpc i c _ hc0 hu;have s2:au H (upd H1 p (.tup [.int i,.ref c])):=sm.upd hp0
  have hgd:cols.getD i []=cols[i]:=by rw [ad4,hu];rfl
  have eB:B i=!(decide (lo≤aS cols[i] ((v:Int)+1)) && decide (aS cols[i] ((v:Int)+1)≤hi)):=by rw [←hB];show(!(decide (lo≤aS (cols.getD i []) ((v:Int)+1)) && decide (aS (cols.getD i []) ((v:Int)+1)≤hi)))=_;rw [hgd]
  rw [show cols.length - i=cols.length - (i+1)+1 by omega,bP]at e;walk_at "rd";refine⟨_,cD.of ag,rfl,?_⟩;walk_at "rd";generalize upd H1 p (.tup [.int i,.ref c])=H2 at s2;refine dN (s2.tup hct) (yG (by omega) (by omega)) ?_;walk_at "rd"
  by_cases h1:lo≤aS cols[i] ((v:Int)+1)
  ·rw [if_pos h1]
   by_cases h2:aS cols[i] ((v:Int)+1)≤hi
   ·rw [if_pos h2]
    rw [decide_eq_true h1,decide_eq_true h2]at eB;rw [if_neg (by rw [eB];exact aa4)]at e;exact⟨s2,e⟩
   ·rw [if_neg h2]
    rw [decide_eq_true h1,decide_eq_false h2]at eB;rw [if_pos (by rw [eB];rfl)]at e;have q':=q _ s2;rw [e]at q';exact q'
  ·rw [if_neg h1]
   rw [decide_eq_false h1]at eB;rw [if_pos (by rw [eB];rfl)]at e;have q':=q _ s2;rw [e]at q';exact q'
 ·rintro σ H1 ⟨o,o',rfl,sm,e⟩
  walk_at "rd";rw [aa0,hpl,ad9,bP]at e;have q':=q _ sm;rw [e]at q';exact q'
theorem ja:∀(l:List (Option Nat)) (n:Nat) (x:Option Nat),bM n (l++[x])=bM n l++(match x with | none=>[] | some p=>[((p:Int),((n+l.length:Nat):Int))])
 | [],n,none=>rfl
 | [],n,some p=>by simp [bM]
 | none::l,n,x=>by
  rw [ah1,bM,bM,ja l (n+1) x,ac2,show n+1+l.length=n+(l.length+1)by omega]
 | some q::l,n,x=>by
  rw [ah1,bM,bM,ja l (n+1) x,ac2,show n+1+l.length=n+(l.length+1)by omega,ah1]
theorem yL{f:Addr}{fd:FuncData}(F:cT K "fault" "fault" qQ f fd)(T:Txt mg aM)(D_first_outside:cJ P w K mg base "first_outside" 8 ["low","high","voice","line"] (lu K))(D_broken_at:cJ P w K mg base "broken_at" 8 ["rule","line"] (nK P w K mg base 7)):aH P w K mg base cb 9 f fd ["score","line"] (mz P w K mg base):=by
 refine F.ok sc_fault (fun vs H Q E h=>?_) (fun cdv A outer s H vs Q E hr h=>?_)
 ·obtain⟨x,C,l,bs,Rs,cols,rfl,_⟩:=h
  rfl
 obtain⟨x,C,l,bs,Rs,cols,rfl,TC,⟨dx,a,b,hx,⟨ts,hts,htl,htc⟩,⟨rs,hrs,hrl,hrc⟩⟩,LL,hcl,nv4,rl,q0,qn⟩:=h;have hrs:=aT.of (K:=K) hrs
 refine⟨_,(ai (jd (i:=2) sc_fault.nd rfl (Or.inl rfl) (own:=["voice","bounds"]) (js:=[1]) rfl (gy rfl T.n_enumerate (af (aY (pr 0) rfl) ah)) (bG.of (by rfl)) (fun _ _ _ _ _=>(cg K (n:=2) rfl (aL (aF (i:=0) (show List.Nodup (["voice","bounds","line"]:List Str)from by decide +kernel) rfl (Or.inl rfl)) (aL (aF (i:=1) (show List.Nodup (["voice","bounds","line"]:List Str)from by decide +kernel) rfl (Or.inl rfl)) cj)))) (fun _ _ _ _ _=>dE) (fun _ _ _ _ _=>(aC D_first_outside hr (by rfl) (af (aU (bJ K) (pr 1) aj (fun _ _=>rfl)) (af (aU (bJ K) (pr 1) aj (fun _ _=>rfl)) (af (pr 0) (af (pr 2) ah)))))) rfl)
 (ai (bY (cG K PySem.F.plainAttrs_list PySem.F.slot_list_extend PySem.F.type_list_extend kF (pr 2) (af (eu (own:=["rule"]) (js:=[1]) rfl (bX K (aY (pr 0) rfl)) (bG.of (by rfl)) (fun _ _ _ _ _=>(aF (i:=0) (show List.Nodup (["rule","line"]:List Str)from by decide +kernel) rfl (Or.inl rfl))) (fun _ _ _ _ _=>dE) (fun _ _ _ _ _=>(aC D_broken_at hr (by rfl) (af (pr 0) (af (pr 1) ah))))) ah)))
 (ao (ax (AV K (zQ hr) rfl (by rfl) T.n_min (af (eu (own:=["row","place"]) (js:=[]) rfl (gy rfl T.n_enumerate (af (pr 2) ah)) (bG.of (by rfl)) (fun _ _ _ _ _=>(cg K (n:=2) rfl (aL (aF (i:=0) (show List.Nodup (["row","place"]:List Str)from by decide +kernel) rfl (Or.inl rfl)) (aL (aF (i:=1) (show List.Nodup (["row","place"]:List Str)from by decide +kernel) rfl (Or.inl rfl)) cj)))) (fun _ _ _ _ _=>A3 (bp (az jO (pr 1) aR (aE _)))) (fun _ _ _ _ _=>(cH (af (pr 1) (af (pr 0) ah))))) ah) (AW aR CS)))))),?_⟩
 have hs:sizeLine=16777216:=sizeLine_eq;refine bo (fun σ H'=>∃pl:Addr,H pl=none∧H' pl=some (.lst (((List.range bs.length).map (jc bs cols)).map tx))∧σ=[some (.ref x),some (.ref l),some (.ref pl)]∧au H H') ?_ ?_
 ·intro u' hu
  walk_at "rd";refine⟨C,dx,_,hx,TC.cl,TC.n1,_,gx a b,?_⟩;walk_at "rd";refine⟨true,⟨_,hts⟩,lH (l:=true) (us:=ts.map V.ref) (fun i ys H'=>ys=((List.range i).map (jc bs cols)).map tx∧au H H') (by rw [aa0];omega) ⟨rfl,au.refl _⟩ (fun i ys H' h=>by obtain⟨rfl,_⟩:=h;simp) (fun i ys H' h=>h.2.seq hts) ?_ ?_⟩
  ·rintro i y ys H1 p hy ⟨rfl,sm⟩ hp0
   obtain⟨t,ht0,rfl⟩:∃t,ts[i]?=some t∧y=.ref t:=by
    rw [aa8]at hy
    cases hc:ts[i]? with
    | none=>rw [hc]at hy;cases hy
    | some c=>rw [hc]at hy;exact⟨c,rfl,(Option.some.inj hy).symm⟩
   have hi:i < bs.length:=by have:=(aa2.mp ht0).1;omega
   have eb:bs[i]?=some bs[i]:=aa1 hi;have htt:=htc i t _ ht0 eb;have s2:au H (upd H1 p (.tup [.int i,.ref t])):=sm.upd hp0;walk_at "rd";refine⟨_,cD.of ag,rfl,?_⟩;walk_at "rd";generalize upd H1 p (.tup [.int i,.ref t])=H2 at s2;refine dN (s2.tup htt) (bw rfl) (dN (s2.tup htt) (show fm _ ((1:Nat):Int)=_ from aO rfl) ⟨l,_,_,i,bs.length,cols,rfl,LL.same s2,hi,fun H3 s3=>⟨?_,s2.trans s3⟩⟩);rw [List.range_succ,ab7,ab7]
   have ep:jc bs cols i=bP (fun j=>!(decide (bs[i].1≤aS (cols.getD j []) ((i:Int)+1)) && decide (aS (cols.getD j []) ((i:Int)+1)≤bs[i].2))) 0 cols.length:=by
    have hg:bs.getD i (0,0)=bs[i]:=by rw [ad4,eb];rfl
    unfold jc sC;rw [hg]
   rw [←ep];rfl
  ·rintro ys H1 ⟨rfl,sm⟩ p hp
   rw [aa0,htl];exact hu _ _ ⟨p,sm.free hp,ag,rfl,sm.upd hp⟩
 intro Ω ω;rintro _ H1 ⟨pl,hpl,hpl1,rfl,s1⟩;refine ω _ _ ?_;refine bo (fun σ H'=>H' pl=some (.lst ((places bs Rs cols).map tx))∧σ=[some (.ref x),some (.ref l),some (.ref pl)]∧au H H') ?_ ?_
 ·intro u' hu
  walk_at "rd";refine⟨.inl ⟨rfl,_,aT.of hpl1⟩,C,dx,_,s1 _ _ hx,TC.cl,TC.n2,_,hU a b,?_⟩;refine bZ (s1.seq hrs) (cU (xs:=rs.map V.ref) (fun i ys H'=>ys=((Rs.take i).map (kI cols)).map tx∧au H1 H') (by rw [aa0];omega) ⟨rfl,au.refl _⟩ (fun i ys H' h=>by obtain⟨rfl,_⟩:=h;simp;omega) (fun i ys H' h=>(s1.trans h.2).seq hrs) ?_ ?_)
  ·rintro i y ys H2 hy ⟨rfl,sm⟩
   obtain⟨r,hr0,rfl⟩:∃r,rs[i]?=some r∧y=.ref r:=by
    rw [aa8]at hy
    cases hc:rs[i]? with
    | none=>rw [hc]at hy;cases hy
    | some c=>rw [hc]at hy;exact⟨c,rfl,(Option.some.inj hy).symm⟩
   have hi:i < Rs.length:=by have:=(aa2.mp hr0).1;omega
   have eR:Rs[i]?=some Rs[i]:=aa1 hi;obtain⟨Cr,RI,RB,_,_,hri⟩:=hrc i r _ hr0 eR;walk_at "rd";refine⟨r,l,bs.length,Cr,sX Rs[i],RI,Fb Rs[i],cols,rfl,RB,RB.mono _ _ _ (s1.trans sm) hri,LL.same (s1.trans sm),by omega,fun H3 s3=>⟨?_,sm.trans s3⟩⟩;rw [ac5,eR,ab7,ab7];show _=_++[tx (kI cols Rs[i])];rw [AA];rfl
  ·rintro ys H2 ⟨rfl,sm⟩ p hp
   rw [aa0,hrl,ad0];have s2:=(s1.trans sm).upd (o:=.lst ((Rs.map (kI cols)).map tx)) hp;have hpl2:=(av (o:=.lst ((Rs.map (kI cols)).map tx)) hp) _ _ (sm _ _ hpl1);refine⟨pl,p,_,_,rfl,rfl,hpl2,ag,by simp;omega,hu _ _ ⟨?_,rfl,fun c u hc=>?_⟩⟩
   ·rw [ag,←ab7]
    rfl
   ·rw [ak (ar hc hpl)]
    exact s2 _ _ hc
 clear hpl1 s1;clear H1;intro Ω ω;rintro _ H1 ⟨hpl1,rfl,s1⟩
 have hlen:(places bs Rs cols).length=bs.length+Rs.length:=by simp [places]
 generalize places bs Rs cols=L at hpl1 q0 qn hlen;refine ω _ _ ?_;walk_at "rd";simp only [BP];walk_at "rd";refine⟨true,⟨_,aT.of hpl1⟩,lH (l:=true) (us:=L.map tx) (fun i ys H'=>∃ts':List Addr,ys=ts'.map V.ref∧ts'.length=(bM 0 (L.take i)).length∧ts'.length≤i∧(∀(j:Nat) (t:Addr) (k:Int×Int),ts'[j]?=some t→(bM 0 (L.take i))[j]?=some k→H' t=some (.tup [.int k.1,.int k.2]))∧au H1 H') (by rw [aa0];omega) ⟨[],rfl,rfl,aa7 _,fun j t k e=>(by cases e),au.refl _⟩ (fun i ys H' h=>by obtain⟨ts',rfl,_,h,_⟩:=h;rw [aa0];exact h) (fun i ys H' h=>by obtain⟨_,_,_,_,_,h⟩:=h;exact h.seq (aT.of hpl1)) ?_ ?_⟩
 ·rintro i y ys H2 p hy ⟨ts',rfl,h1,h2,h3,sm⟩ hp0
  obtain⟨z,hz0,rfl⟩:∃z,L[i]?=some z∧y=tx z:=by
   rw [aa8]at hy
   cases hc:L[i]? with
   | none=>rw [hc]at hy;cases hy
   | some c=>rw [hc]at hy;exact⟨c,rfl,(Option.some.inj hy).symm⟩
  have hi:i < L.length:=(aa2.mp hz0).1
  have ht:L.take (i+1)=L.take i++[z]:=by rw [ac5,hz0];rfl
  have hll:(L.take i).length=i:=by rw [ac6];omega
  have hsn:=ja (L.take i) 0 z;rw [←ht,hll,aj4]at hsn;have s2:au H1 (upd H2 p (.tup [.int i,tx z])):=sm.upd hp0;have s12:au H2 (upd H2 p (.tup [.int i,tx z])):=av hp0;walk_at "rd";refine⟨_,cD.of ag,rfl,?_⟩;walk_at "rd";generalize upd H2 p (.tup [.int i,tx z])=H3 at s2 s12
  cases z with
  | none=>
   rw [if_pos (show tx none=V.non from rfl)]
   have hsn':bM 0 (L.take (i+1))=bM 0 (L.take i):=by rw [hsn];simp
   rw [hsn'];exact⟨ts',rfl,h1,by omega,fun j t k e1 e2=>s12 _ _ (h3 j t k e1 e2),s2⟩
  | some n=>
   rw [if_neg (show ¬(tx (some n)=V.non)from fun z=>by cases z)];have hsn':bM 0 (L.take (i+1))=bM 0 (L.take i)++[((n:Int),(i:Int))]:=hsn;rw [hsn'];refine⟨by omega,fun p2 hp2=>⟨ts' ++ [p2],by rw [ab7];rfl,by simp [h1],by simp;omega,fun j t k e1 e2=>?_,s2.upd hp2⟩⟩
   by_cases hj:j < ts'.length
   ·rw [ab3 hj]at e1
    rw [ab3 (by omega)]at e2;exact(av hp2) _ _ (s12 _ _ (h3 j t k e1 e2))
   ·rw [ab0 (by omega)]at e1 e2
    have ej:j=ts'.length:=by
     have:=(aa2.mp e1).1
     simp at this;omega
    rw [ej,ad9]at e1;rw [ej,h1,ad9]at e2;cases e1;cases e2;exact ag
 ·rintro ys H2 ⟨ts',rfl,h1,h2,h3,sm⟩ p hp
  rw [aa0,ad0]at h1 h3;have sp:=sm.upd (o:=.lst (ts'.map V.ref)) hp;refine⟨ts',aT.of ag,bM 0 L,h1,fun j t k e1 e2=>cD.of ((av hp) _ _ (h3 j t k e1 e2)),fun e0=>q0 e0 _ (s1.trans sp),fun j t k e1 e2 hm=>qn t k _ (ad1 e2) hm ((av hp) _ _ (h3 j t k e1 e2)) (s1.trans sp)⟩
end
def lF(b:Int×Int):Str:=Str.ofString "voice " ++ aG b.1++Str.ofString " " ++ aG b.2
def dQ(bs:List (Int×Int))(Rs:List aQ):List Str:=bs.map lF++Rs.map bN
def fQ(bs:List (Int×Int))(Rs:List aQ):Str:=Txt.join (Str.ofString "\n") (dQ bs Rs)
theorem cf(a b:Str):(a++b).length=a.length+b.length:=by
 show(a.cps++b.cps).size=a.cps.size+b.cps.size;exact aj8
theorem dq{n:Int}(h:n.natAbs < 10 ^ 40):(aG n).length≤41:=fG h
theorem dD{n:Int}(h:n.natAbs < 10 ^ 40):n.natAbs.log2 < 1920:=by
 by_cases h0:n.natAbs=0
 ·rw [h0];decide
 ·exact(Nat.log2_lt h0).mpr (aa5 h (by decide +kernel))
theorem wA(z:Str):Str.empty++z=z:=str_iff.mpr (by rw [bD];rfl)
theorem tu{b:Int×Int}(h1:b.1.natAbs < 10 ^ 40)(h2:b.2.natAbs < 10 ^ 40):(lF b).length≤89:=by
 have e1:(Str.ofString "voice ").length=6:=by decide +kernel
 have e2:(Str.ofString " ").length=1:=by decide +kernel
 have:=dq h1
 have:=dq h2
 unfold lF;rw [cf,cf,cf];omega
def iD(P:Program)(w:World)(K:Frag)(mg:Str→Option Value)(base:Heap):Sp:=fun vs H Q _=>∃(x C:Addr) (nv:Nat) (bs:List (Int×Int)) (Rs:List aQ),vs=[.ref x]∧dw K C∧bj P w K mg base C nv bs Rs x H∧bs.length≤4∧Rs.length≤12∧(∀b∈bs,b.1.natAbs < 10 ^ 40∧b.2.natAbs < 10 ^ 40)∧(∀R∈Rs,(bN R).length≤20000)∧∀H',au H H'→Q (.str (fQ bs Rs)) H'
theorem BU{H H':Hp}{q:Addr}{x:HO}(h0:H q=none)(s:au H H'):au H (upd H' q x):=fun b o hb=>by
 rw [ak (ar hb h0)];exact s _ _ hb
section
variable {P:Program} {w:World} {K:Frag} {mg:Str→Option Value} {base:Heap} {aM:Addr}
theorem yM{f:Addr}{fd:FuncData}(F:cT K "shown" "shown" qR f fd)(T:Txt mg aM):aH P w K mg base cb 8 f fd ["score"] (iD P w K mg base):=by
 refine F.ok sc_shown (fun vs H Q E h=>?_) (fun cdv A outer s H vs Q E hr h=>?_)
 ·obtain⟨x,C,nv,bs,Rs,rfl,_⟩:=h
  rfl
 obtain⟨x,C,nv,bs,Rs,rfl,TC,⟨dx,a,b,hx,⟨ts,hts,htl,htc⟩,⟨rs,hrs,hrl,hrc⟩⟩,lb,lr,hb,hR,k⟩:=h;have hrs:=aT.of (K:=K) hrs
 refine⟨_,(ai (jd (i:=1) sc_shown.nd rfl (Or.inl rfl) (own:=["low","high"]) (js:=[]) rfl (bX K (aY (pr 0) rfl)) (bG.of (by rfl)) (fun _ _ _ _ _=>(cg K (n:=2) rfl (aL (aF (i:=0) (show List.Nodup (["low","high"]:List Str)from by decide +kernel) rfl (Or.inl rfl)) (aL (aF (i:=1) (show List.Nodup (["low","high"]:List Str)from by decide +kernel) rfl (Or.inl rfl)) cj)))) (fun _ _ _ _ _=>dE) (fun _ _ _ _ _=>(AR (y2 (yZ (pr 0) (y2 (yZ (pr 1) CQ)))))) rfl)
 (ai (bY (cG K PySem.F.plainAttrs_list PySem.F.slot_list_extend PySem.F.type_list_extend kF (pr 1) (af (eu (own:=["rule"]) (js:=[]) rfl (bX K (aY (pr 0) rfl)) (bG.of (by rfl)) (fun _ _ _ _ _=>(aF (i:=0) (show List.Nodup (["rule"]:List Str)from by decide +kernel) rfl (Or.inl rfl))) (fun _ _ _ _ _=>dE) (fun _ _ _ _ _=>(iO P w K mg base hr (pr 0)))) ah)))
 (ao (ax (cG K PySem.F.plainAttrs_str PySem.F.slot_str_join PySem.F.type_str_join (sg K) aZ (af (pr 1) ah)))))),?_⟩
 have hs:sizeLine=16777216:=sizeLine_eq;refine bo (fun σ H'=>∃q:Addr,H q=none∧H' q=some (.lst ((bs.map lF).map V.str))∧σ=[some (.ref x),some (.ref q)]∧au H H') ?_ ?_
 ·intro u' hu
  walk_at "rd";refine⟨C,dx,_,hx,TC.cl,TC.n1,_,gx a b,bZ hts (cU (xs:=ts.map V.ref) (fun i ys H'=>ys=((bs.take i).map lF).map V.str∧H=H') (by rw [aa0];omega) ⟨rfl,rfl⟩ ?_ ?_ ?_ ?_)⟩
  ·rintro i ys H' ⟨rfl,rfl⟩
   rw [aa0,aa0,ac6];omega
  ·rintro i ys H' ⟨rfl,rfl⟩
   exact hts
  ·rintro i y ys H' hy ⟨rfl,rfl⟩
   rw [aa8]at hy
   cases ht:ts[i]? with
   | none=>rw [ht]at hy;cases hy
   | some t=>
    rw [ht]at hy;cases hy
    have hi:i < bs.length:=by rw [←htl];exact(aa2.mp ht).1
    have hbi:bs[i]?=some bs[i]:=aa1 hi;simp only [jD];walk_at "rd";refine⟨_,htc i t _ ht hbi,rfl,?_⟩;walk_at "rd";obtain⟨n1,n2⟩:=hb _ (ac8 hi);rw [wA]
    have e1:(Str.ofString "voice ").length=6:=by decide +kernel
    have e2:(Str.ofString " ").length=1:=by decide +kernel
    have:=dq n1
    have:=dq n2
    refine⟨by omega,dD n1,by rw [cf];omega,by rw [cf,cf];omega,dD n2,by rw [cf,cf,cf];omega,by rw [cf,cf,cf];omega,?_⟩;rw [ac5,hbi,ab7,ab7];rfl
  ·rintro ys H' ⟨rfl,rfl⟩ q hq
   rw [aa0,htl,ad0];exact hu _ _ ⟨q,hq,ag,rfl,av hq⟩
 intro Ω ω;rintro _ H1 ⟨q,hq0,hq1,rfl,s1⟩;refine ω _ _ ?_;refine bo (fun σ H'=>H' q=some (.lst ((dQ bs Rs).map V.str))∧σ=[some (.ref x),some (.ref q)]∧au H H') ?_ ?_
 ·intro u' hu
  walk_at "rd";refine⟨.inl ⟨rfl,_,aT.of hq1⟩,C,dx,_,s1 _ _ hx,TC.cl,TC.n2,_,hU a b,bZ (s1.seq hrs) (cU (xs:=rs.map V.ref) (fun i ys H'=>ys=((Rs.take i).map bN).map V.str∧H1=H') (by rw [aa0];omega) ⟨rfl,rfl⟩ ?_ ?_ ?_ ?_)⟩
  ·rintro i ys H' ⟨rfl,rfl⟩
   rw [aa0,aa0,ac6];omega
  ·rintro i ys H' ⟨rfl,rfl⟩
   exact s1.seq hrs
  ·rintro i y ys H' hy ⟨rfl,rfl⟩
   rw [aa8]at hy
   cases ht:rs[i]? with
   | none=>rw [ht]at hy;cases hy
   | some r=>
    rw [ht]at hy;cases hy
    have hi:i < Rs.length:=by rw [←hrl];exact(aa2.mp ht).1
    have hRi:Rs[i]?=some Rs[i]:=aa1 hi;obtain⟨Cr,RI,_,_,⟨m2,hins⟩,hri⟩:=(hrc i r _ ht hRi).same s1;obtain⟨dr,fr,hir,q2⟩:=hins r _ hri;simp only [jD];walk_at "rd";refine⟨Cr,dr,fr,hir,q2,_,_,m2,r,rfl,hri,?_⟩;rw [ac5,hRi,ab7,ab7];exact⟨rfl,rfl⟩
  ·rintro ys H' ⟨rfl,rfl⟩ p hp
   rw [aa0,hrl,ad0];have pq:q≠p:=ar hq1 hp;refine⟨q,p,_,_,rfl,rfl,by rw [ak pq];exact hq1,ag,by simp;omega,hu _ _ ⟨?_,rfl,BU hq0 (s1.upd hp)⟩⟩;rw [ag];unfold dQ;rw [ab7]
 intro Ω ω;rintro _ H2 ⟨hq2,rfl,s2⟩;refine ω _ _ ?_;walk_at "rd";refine⟨dQ bs Rs,aT.of hq2,?_,k _ s2⟩
 have hl:∀z∈dQ bs Rs,z.length≤20000:=fun z hz=>by
  rcases ac1.mp hz with hz | hz
  ·obtain⟨b,hb',rfl⟩:=ac7.mp hz
   have:=tu (hb b hb').1 (hb b hb').2
   omega
  ·obtain⟨R,hR',rfl⟩:=ac7.mp hz
   exact hR R hR'
 have h1:=StrLaws.sumLen_le (B:=20000) (dQ bs Rs) hl
 have e1:(Str.ofString "\n").length=1:=by decide +kernel
 have l16:(dQ bs Rs).length≤16:=by
  unfold dQ;rw [ab4,aa0,aa0];omega
 rw [e1]
 have:=Nat.mul_le_mul_right 20000 l16
 omega
theorem ua{f C:Addr}{fd:FuncData}(F:cT K "__init__" "TooWide.__init__" d8 f fd)(TX:q9 K C f EY):aH P w K mg base cb 1 f fd ["self","weight"] (lA C "weight"):=by
 refine F.ok iZ (fun vs H Q E h=>?_) (fun cdv A outer s H vs Q E hr h=>?_)
 ·obtain⟨a,v,rfl,_⟩:=h
  rfl
 obtain⟨a,v,rfl,ha,k⟩:=h;refine⟨_,(ao (qH TX (by simp) (by simp) mX (pr 0) (pr 1) rfl)),?_⟩;walk_at "rd";simp only [vF];walk_at "rd";exact⟨ha,fun d hd hda=>k d hd hda⟩
theorem yJ{f C:Addr}{fd:FuncData}(F:cT K "__init__" "Apart.__init__" eJ f fd)(TX:q9 K C f zR):aH P w K mg base cb 1 f fd ["self","voice"] (lA C "voice"):=by
 refine F.ok jV (fun vs H Q E h=>?_) (fun cdv A outer s H vs Q E hr h=>?_)
 ·obtain⟨a,v,rfl,_⟩:=h
  rfl
 obtain⟨a,v,rfl,ha,k⟩:=h;refine⟨_,(ao (qH TX (by simp) (by simp) pA (pr 0) (pr 1) rfl)),?_⟩;walk_at "rd";simp only [vF];walk_at "rd";exact⟨ha,fun d hd hda=>k d hd hda⟩
theorem t9{f C:Addr}{fd:FuncData}(F:cT K "__init__" "Crowded.__init__" d7 f fd)(TX:q9 K C f EW):aH P w K mg base cb 1 f fd ["self","many"] (lA C "many"):=by
 refine F.ok iY (fun vs H Q E h=>?_) (fun cdv A outer s H vs Q E hr h=>?_)
 ·obtain⟨a,v,rfl,_⟩:=h
  rfl
 obtain⟨a,v,rfl,ha,k⟩:=h;refine⟨_,(ao (qH TX (by simp) (by simp) sf (pr 0) (pr 1) rfl)),?_⟩;walk_at "rd";simp only [vF];walk_at "rd";exact⟨ha,fun d hd hda=>k d hd hda⟩
end
def zO(C:Addr)(f:Str)(n:Int)(H:Hp)(a d:Addr):Prop:=H a=some (XO C d a)∧H d=some (.xd [(f,.int n)])
def dA(b c:Int×Int):Int×Int:=(if c.1 > b.1 then c.1 else b.1,if c.2 < b.2 then c.2 else b.2)
def tI:List (Int×Int)→List (Int×Int)→Nat→Option Nat
 | b::bs,c::cs,n=>if (dA b c).2 < (dA b c).1 then some (n+1)else tI bs cs (n+1)
 | _,_,_=>none
def bL(bs cs:List (Int×Int)):List (Int×Int):=List.zipWith dA bs cs
theorem rm{bs cs:List (Int×Int)}{i n:Nat}(h1:i < bs.length)(h2:i < cs.length):tI (bs.drop i) (cs.drop i) n=if (dA bs[i] cs[i]).2 < (dA bs[i] cs[i]).1 then some (n+1)else tI (bs.drop (i+1)) (cs.drop (i+1)) (n+1):=by
 rw [ae3 h1,ae3 h2];rfl
theorem iM{bs cs:List (Int×Int)}{i:Nat}(h1:i < bs.length)(h2:i < cs.length):(bL bs cs)[i]?=some (dA bs[i] cs[i]):=by
 unfold bL;rw [List.getElem?_zipWith,aa1 h1,aa1 h2]
theorem pC{bs cs:List (Int×Int)}{i:Nat}(h1:i < bs.length)(h2:i < cs.length):(bL bs cs).take (i+1)=(bL bs cs).take i++[dA bs[i] cs[i]]:=by
 rw [ac5,iM h1 h2];rfl
theorem pS:∀(bs cs:List (Int×Int)) (n:Nat),tI bs cs n=none→(∀b∈bs,(cI b).natAbs < 2 ^ 50)→∀m∈bL bs cs,m.1≤m.2∧(cI m).natAbs < 2 ^ 60
 | [],cs,n,_,_,m,hm=>by simp [bL]at hm
 | b::bs,[],n,_,_,m,hm=>by simp [bL]at hm
 | b::bs,c::cs,n,h,hb,m,hm=>by
  unfold tI at h
  split at h
  ·cases h
  ·rename_i hc
   rcases aa6.mp (show m∈dA b c::bL bs cs from hm)with rfl | hm
   ·have h1:=hb b (by simp)
    have a1:b.1≤(dA b c).1:=by unfold dA;dsimp only;split<;>omega
    have a2:(dA b c).2≤b.2:=by unfold dA;dsimp only;split<;>omega
    unfold cI at h1 ⊢;omega
   ·exact pS bs cs (n+1) h (fun b hb'=>hb b (by simp [hb'])) m hm
def Dc(K:Frag)(C:Addr):Sp:=fun vs H Q E=>∃(p q:Addr) (b c:Int×Int) (n:Int),vs=[.ref p,.ref q,.int n]∧cD K H p [.int b.1,.int b.2]∧cD K H q [.int c.1,.int c.2]∧(¬(dA b c).2 < (dA b c).1→∀t H',H' t=some (.tup [.int (dA b c).1,.int (dA b c).2])→au H H'→Q (.ref t) H')∧((dA b c).2 < (dA b c).1→∀a d H',zO C "voice" n H' a d→au H H'→E (.ref a) (some d) H')
def zq(K:Frag)(C:Addr):Sp:=fun vs H Q E=>∃(a b:Addr) (bs cs:List (Int×Int)),vs=[.ref a,.ref b]∧bu K H a bs∧bu K H b cs∧bs.length≤4∧cs.length≤4∧(bs.length≠cs.length→∀a d H',zO C "voice" 0 H' a d→au H H'→E (.ref a) (some d) H')∧
 (bs.length=cs.length→(∀n:Nat,tI bs cs 0=some n→∀a d H',zO C "voice" n H' a d→au H H'→E (.ref a) (some d) H')∧(tI bs cs 0=none→∀p H',bu K H' p (bL bs cs)→au H H'→Q (.ref p) H'))
section
variable {P:Program} {w:World} {K:Frag} {mg:Str→Option Value} {base:Heap} {aM:Addr}
theorem DW{f C:Addr}{fd:FuncData}(F:cT K "common_range" "common_range" fK f fd)(T:Txt mg aM)(DE_Apart:g9 P w K mg base "Apart" C 7 ["self","voice"] (lA C "voice") zR):aH P w K mg base (mD P w) 9 f fd ["one","other","voice"] (Dc K C):=by
 refine F.okX sc_common_range (fun vs H Q E h=>?_) (fun cdv A outer s H vs Q E hr h=>?_)
 ·obtain⟨p,q,b,c,n,rfl,_⟩:=h
  rfl
 obtain⟨p,q,b,c,n,rfl,hp,hq,k1,k2⟩:=h
 refine⟨_,(ai (aD (i:=3) sc_common_range.nd rfl (Or.inl rfl) (cH (af (aB (oY rfl) (by rfl) T.n_max boot_max (af (aU (bJ K) (pr 0) aj (fun _ _=>rfl)) (af (aU (bJ K) (pr 1) aj (fun _ _=>rfl)) ah))) (af (aB (km rfl) (by rfl) T.n_min boot_min (af (aU (bJ K) (pr 0) aj (fun _ _=>rfl)) (af (aU (bJ K) (pr 1) aj (fun _ _=>rfl)) ah))) ah))))
 (ai (br (bp (az (o0 lO) (aU (bJ K) (pr 3) aj (fun _ _=>rfl)) (aU (bJ K) (pr 3) aj (fun _ _=>rfl)) (aE _))) (ao (iQ DE_Apart rfl hr (by rfl) (fun _ _=>gw) (af (pr 2) ah))) aJ)
 (ao (ax (pr 3))))),?_⟩
 have hs:sizeLine=16777216:=sizeLine_eq;refine bo (fun σ H'=>∃t,H' t=some (.tup [.int (dA b c).1,.int (dA b c).2])∧σ=[some (.ref p),some (.ref q),some (.int n),some (.ref t)]∧au H H') ?_ ?_
 ·intro u' hu
  walk_at "rd";refine dN hp (bw rfl) (dN hq (bw rfl) ?_);walk_at "rd";refine dN hp (show fm _ ((1:Nat):Int)=_ from aO rfl) (dN hq (show fm _ ((1:Nat):Int)=_ from aO rfl) ?_);walk_at "rd";exact⟨by omega,fun t ht=>hu _ _ ⟨t,ag,rfl,av ht⟩⟩
 intro Ω ω;rintro _ H1 ⟨t,ht,rfl,s1⟩;refine ω _ _ ?_;refine gD fun A0 B0 hA hB=>?_;walk_at "rd";refine dN (cD.of ht) (bw rfl) (dN (cD.of ht) (show fm _ ((1:Nat):Int)=_ from aO rfl) ?_);walk_at "rd"
 by_cases h:(dA b c).2 < (dA b c).1
 ·rw [if_pos h]
  refine hA _ ?_;simp only [gB,lD];walk_at "rd";refine⟨by omega,fun a ha=>⟨a,.int n,rfl,ag,fun d hd hda=>⟨rfl,d,by rw [ak (Ne.symm hda)];exact ag,_,ag,?_⟩⟩⟩
  have had:H1 d=none:=by
   rw [ak hda]at hd;exact hd
  refine k2 h a d _ ⟨ag,by rw [ak hda,ag]⟩ fun c o hc=>?_;have hc:=s1 _ _ hc;have ca:c≠a:=ar hc ha;have cd:c≠d:=ar hc had;rw [ak ca,ak cd,ak ca,ak ca];exact hc
 ·rw [if_neg h]
  refine hB _ ?_;walk_at "rd";exact k1 h t _ ht s1
theorem CC{f C:Addr}{fd:FuncData}(F:cT K "common_ranges" "common_ranges" fj f fd)(T:Txt mg aM)(DE_Apart:g9 P w K mg base "Apart" C 8 ["self","voice"] (lA C "voice") zR)(DX_common_range:i5 P w K mg base "common_range" 9 ["one","other","voice"] (Dc K C)):aH P w K mg base (mD P w) 10 f fd ["one","other"] (zq K C):=by
 refine F.okX lg (fun vs H Q E h=>?_) (fun cdv A outer s H vs Q E hr h=>?_)
 ·obtain⟨a,b,bs,cs,rfl,_⟩:=h
  rfl
 obtain⟨a,b,bs,cs,rfl,ha,hb,l1,l2,k1,k2⟩:=h;obtain⟨ts,hts,htl,htc⟩:=ha;obtain⟨us,hus,hul,huc⟩:=hb
 refine⟨_,(ai (br (bp (az zS (aB (aP K) (by rfl) T.n_len boot_len (af (pr 0) ah)) (aB (aP K) (by rfl) T.n_len boot_len (af (pr 1) ah)) (aE _))) (ao (iQ DE_Apart rfl hr (by rfl) (fun _ _=>gw) (af aj ah))) aJ)
 (ao (ax (yT (own:=["place"]) (js:=[0,1]) rfl rfl (fun _ _=>gw) rfl (iP rfl T.n_range (af (aB (aP K) (by rfl) T.n_len boot_len (af (pr 0) ah)) ah)) (bG.of (by rfl)) (fun _ _ _ _ _=>(aF (i:=0) (show List.Nodup (["place","one","other"]:List Str)from by decide +kernel) rfl (Or.inl rfl))) (fun _ _ _ _ _=>dE) (fun _ _ _ _ _=>(qA DX_common_range hr (by rfl) D9 (af (aU (bJ K) (pr 1) (pr 0) (fun _ _=>rfl)) (af (aU (bJ K) (pr 2) (pr 0) (fun _ _=>rfl)) (af (aw (bq K) (pr 0) aj) ah))))))))),?_⟩
 have hs:sizeLine=16777216:=sizeLine_eq;refine gD fun A0 B0 hA hB=>?_;walk_at "rd";refine⟨_,.inl hts,_,.inl hus,?_⟩;rw [aa0,aa0,htl,hul]
 by_cases h:bs.length=cs.length
 rotate_left
 ·rw [if_neg (by omega)]
  refine hA _ ?_;simp only [gB,lD];walk_at "rd";refine⟨by omega,fun a ha=>⟨a,.int 0,rfl,ag,fun d hd hda=>⟨rfl,d,by rw [ak (Ne.symm hda)];exact ag,_,ag,?_⟩⟩⟩
  have had:H d=none:=by
   rw [ak hda]at hd;exact hd
  refine k1 h a d _ ⟨ag,by rw [ak hda,ag]⟩ fun c o hc=>?_;have ca:c≠a:=ar hc ha;have cd:c≠d:=ar hc had;rw [ak ca,ak cd,ak ca,ak ca];exact hc
 rw [if_pos (by omega)];refine hB _ ?_;obtain⟨k2,k3⟩:=k2 h;walk_at "rd";refine⟨_,.inl hts,?_⟩;rw [aa0,htl];refine⟨by omega,by omega,?_⟩;rw [show((bs.length:Int)).toNat=bs.length from rfl];refine lI (fun i ys H'=>∃vs:List Addr,ys=vs.map V.ref∧vs.length=i∧tI bs cs 0=tI (bs.drop i) (cs.drop i) i∧(∀(j:Nat) (t:Addr) (m:Int×Int),vs[j]?=some t→(bL bs cs)[j]?=some m→H' t=some (.tup [.int m.1,.int m.2]))∧au H H') (by omega) ⟨[],rfl,rfl,rfl,fun j t m e=>(by cases e),au.refl _⟩ (fun i ys H' h=>by obtain⟨vs,rfl,h2,_⟩:=h;rw [aa0,h2];exact aa7 _) ?_ ?_
 ·rintro i ys H1 hi ⟨vs,rfl,hvl,hap,hv,sm⟩
  have hi2:i < cs.length:=by omega
  rw [rm hi hi2]at hap;have t1:ts[i]?=some ts[i]:=aa1 (by omega);have t2:us[i]?=some us[i]:=aa1 (by omega);have b1:bs[i]?=some bs[i]:=aa1 hi;have b2:cs[i]?=some cs[i]:=aa1 hi2;have x1:=sm.tup (htc i _ _ t1 b1);have x2:=sm.tup (huc i _ _ t2 b2);have em:=iM hi hi2;walk_at "rd";refine bH (sm.seq hts) (aO (by rw [aa8,t1];rfl)) (bH (sm.seq hus) (aO (by rw [aa8,t2];rfl)) ?_);walk_at "rd";refine⟨ts[i],us[i],bs[i],cs[i],_,rfl,x1,x2,fun hn t H2 ht s2=>?_,fun hy a d H2 hx s2=>?_⟩
  ·rw [if_neg hn]at hap
   refine⟨vs++[t],by rw [ab7];rfl,by rw [ab4,hvl];rfl,hap,fun j t' m e1 e2=>?_,sm.trans s2⟩
   by_cases hj:j < vs.length
   ·rw [ab3 hj]at e1
    exact s2 _ _ (hv j t' m e1 e2)
   ·rw [ab0 (by omega)]at e1
    have ej:j=vs.length:=by
     have:=(aa2.mp e1).1
     simp at this;omega
    rw [ej,ad9]at e1;cases e1;rw [ej,hvl,em]at e2;cases e2;exact ht
  ·rw [if_pos hy]at hap
   exact k2 _ hap a d H2 hx (sm.trans s2)
 ·rintro ys H1 ⟨vs,rfl,hvl,hap,hv,sm⟩ p hp
  have e0:tI bs cs 0=none:=by
   rw [hap,ag1,h,ag1];rfl
  have s2:au H1 (upd H1 p (.lst (vs.map V.ref))):=av hp;exact k3 e0 p _ ⟨vs,aT.of ag,by rw [hvl];unfold bL;rw [ae2,←h,ah2],fun j t m e1 e2=>cD.of (s2 _ _ (hv j t m e1 e2))⟩ (sm.trans s2)
end
inductive Oc where
 | apart (n:Nat)
 | crowded (n:Nat)
 | wide (n:Int)
 | ok
def eC(bs cs:List (Int×Int))(Rs:List aQ):Oc:=
 if bs.length=cs.length then(match tI bs cs 0 with | some n=>.apart n | none=>if 12 < Rs.length then .crowded Rs.length else if 400 < eD (bL bs cs) Rs then .wide (eD (bL bs cs) Rs)else .ok)else .apart 0
def lY(bs:List (Int×Int)):Prop:=1≤bs.length∧bs.length≤4∧∀b∈bs,b.1≤b.2∧(cI b).natAbs < 2 ^ 50∧b.1.natAbs < 10 ^ 40∧b.2.natAbs < 10 ^ 40
def jN(nv:Nat)(Rs:List aQ):Prop:=Rs.length≤12∧∀R∈Rs,mP nv R∧t7 R∧(fP R).natAbs < 2 ^ 60
def j4(P:Program)(w:World)(K:Frag)(mg:Str→Option Value)(base:Heap)(C Ca Cc Cw:Addr):Sp:=fun vs H Q E=>∃(x y:Addr) (bs cs:List (Int×Int)) (Rs Ss:List aQ),vs=[.ref x,.ref y]∧bj P w K mg base C bs.length bs Rs x H∧bj P w K mg base C cs.length cs Ss y H∧lY bs∧lY cs∧jN bs.length Rs∧jN cs.length Ss∧
 (∀n,eC bs cs (Rs++Ss)=.apart n→∀a d H',zO Ca "voice" n H' a d→au H H'→E (.ref a) (some d) H')∧(∀n,eC bs cs (Rs++Ss)=.crowded n→∀a d H',zO Cc "many" n H' a d→au H H'→E (.ref a) (some d) H')∧(∀n,eC bs cs (Rs++Ss)=.wide n→∀a d H',zO Cw "weight" n H' a d→au H H'→E (.ref a) (some d) H')∧
 (eC bs cs (Rs++Ss)=.ok→∀z H',bj P w K mg base C bs.length (bL bs cs) (Rs++Ss) z H'→au H H'→Q (.ref z) H')
section
variable {P:Program} {w:World} {K:Frag} {mg:Str→Option Value} {base:Heap} {aM:Addr}
theorem wW{f C Ca Cc Cw:Addr}{fd:FuncData}(F:cT K "joined" "joined" nA f fd)(T:Txt mg aM)(TC:dw K C)(DE_Crowded:g9 P w K mg base "Crowded" Cc 9 ["self","many"] (lA Cc "many") EW)(DX_common_ranges:i5 P w K mg base "common_ranges" 10 ["one","other"] (zq K Ca))(DM_Score:e7 P w K mg base "Score" C 9 ["self","ranges","rules"] (eY K C))(DX_not_too_wide:i5 P w K mg base "not_too_wide" 10 ["score"] (gY P w K mg base Cw)):aH P w K mg base (mD P w) 11 f fd ["one","other"] (j4 P w K mg base C Ca Cc Cw):=by
 refine F.okX sc_joined (fun vs H Q E h=>?_) (fun cdv A outer s H vs Q E hr h=>?_)
 ·obtain⟨x,y,bs,cs,Rs,Ss,rfl,_⟩:=h
  rfl
 obtain⟨x,y,bs,cs,Rs,Ss,rfl,⟨dx,a1,b1,hx,hr1,hR1⟩,⟨dy,a2,b2,hy,hr2,hR2⟩,okb,okc,okr,oks,ka,kc,kw,kq⟩:=h
 refine⟨_,(ai (aD (i:=2) sc_joined.nd rfl (Or.inl rfl) (qA DX_common_ranges hr (by rfl) BK (af (aY (pr 0) rfl) (af (aY (pr 1) rfl) ah))))
 (ai (aD (i:=3) sc_joined.nd rfl (Or.inl rfl) (aw (bq K) (aY (pr 0) rfl) (aY (pr 1) rfl)))
 (ai (br (bp (az (o0 lO) (aB (aP K) (by rfl) T.n_len boot_len (af (pr 3) ah)) (d6 T.g_MOST_RULES) (aE _))) (ao (iQ DE_Crowded rfl hr (by rfl) (fun _ _=>gw) (af (aB (aP K) (by rfl) T.n_len boot_len (af (pr 3) ah)) ah))) aJ)
 (ao (ax (qA DX_not_too_wide hr (by rfl) BK (af (ij DM_Score hr (by rfl) (af (pr 2) (af (pr 3) ah))) ah))))))),?_⟩
 have hs:sizeLine=16777216:=sizeLine_eq;refine bo (fun σ H'=>bs.length=cs.length∧tI bs cs 0=none∧∃p,bu K H' p (bL bs cs)∧σ=[some (.ref x),some (.ref y),some (.ref p),none]∧au H H') ?_ ?_
 ·intro u' hu
  walk_at "rd";refine⟨C,dx,_,hx,TC.cl,TC.n1,_,gx a1 b1,C,dy,_,hy,TC.cl,TC.n1,_,gx a2 b2,?_⟩;refine⟨a1,a2,bs,cs,rfl,hr1,hr2,okb.2.1,okc.2.1,fun hne a d H' hX s'=>ka 0 (if_neg hne) a d H' hX s',fun heq=>⟨fun n hn a d H' hX s'=>ka n ?_ a d H' hX s',fun hn p H' hp s'=>hu _ _ ⟨heq,hn,p,hp,rfl,s'⟩⟩⟩;unfold eC;rw [if_pos heq,hn]
 intro Ω ω;rintro _ H1 ⟨heq,hap,p,hp,rfl,s1⟩
 have e1:eC bs cs (Rs++Ss)=if 12 < (Rs++Ss).length then .crowded (Rs++Ss).length else if 400 < eD (bL bs cs) (Rs++Ss)then .wide (eD (bL bs cs) (Rs++Ss))else .ok:=by
  unfold eC;rw [if_pos heq,hap]
 obtain⟨rs,hrs,hrl,hrc⟩:=hR1;obtain⟨ss,hss,hsl,hsc⟩:=hR2;refine ω _ _ ?_;refine bo (fun σ H'=>∃q,H' q=some (.lst ((rs++ss).map V.ref))∧σ=[some (.ref x),some (.ref y),some (.ref p),some (.ref q)]∧au H1 H') ?_ ?_
 ·intro u' hu
  walk_at "rd";refine⟨C,dx,_,s1 _ _ hx,TC.cl,TC.n2,_,hU a1 b1,C,dy,_,s1 _ _ hy,TC.cl,TC.n2,_,hU a2 b2,?_⟩;have l1:=okr.1;have l2:=oks.1;exact il (s1 _ _ hrs) (s1 _ _ hss) (by rw [aa0,aa0];omega) fun q hq=>hu _ _ ⟨q,by rw [ag,ab7],rfl,av hq⟩
 intro Ω ω;rintro _ H2 ⟨q,hq,rfl,s2⟩;have s12:=s1.trans s2
 have hl:(rs++ss).length=(Rs++Ss).length:=by rw [ab4,ab4,hrl,hsl]
 refine ω _ _ ?_;refine bo (fun σ H'=>(Rs++Ss).length≤12∧σ=[some (.ref x),some (.ref y),some (.ref p),some (.ref q)]∧H2=H') ?_ ?_
 ·intro u' hu
  refine gD fun A0 B0 hA hB=>?_;walk_at "rd";refine⟨_,.inl (aT.of hq),?_⟩;rw [aa0,hl]
  by_cases h:12 < (Rs++Ss).length
  ·rw [if_pos (by omega)]
   refine hA _ ?_;simp only [gB,lD];walk_at "rd";refine⟨_,.inl (aT.of hq),?_⟩;rw [aa0,hl];refine⟨by omega,fun a ha=>⟨a,.int (Rs++Ss).length,rfl,ag,fun d hd hda=>⟨rfl,d,by rw [ak (Ne.symm hda)];exact ag,_,ag,?_⟩⟩⟩
   have had:H2 d=none:=by
    rw [ak hda]at hd;exact hd
   refine kc (Rs++Ss).length (by rw [e1,if_pos h]) a d _ ⟨ag,by rw [ak hda,ag]⟩ fun c o hc=>?_;have hc:=s12 _ _ hc;have ca:c≠a:=ar hc ha;have cd:c≠d:=ar hc had;rw [ak ca,ak cd,ak ca,ak ca];exact hc
  ·rw [if_neg (by omega)]
   refine hB _ ?_;walk_at "rd";exact hu _ _ ⟨by omega,rfl,rfl⟩
 intro Ω ω;rintro _ _ ⟨h12,rfl,rfl⟩;rw [if_neg (by omega)]at e1;obtain⟨ts,hts,htl,htc⟩:=hp.same s2;refine ω _ _ ?_;walk_at "rd";intro z dz hz hdz dzz;have s5:au H2 (upd (upd H2 dz (.own z)) z (.ins C dz [])):=(av hdz).upd (by rw [ak dzz.symm];exact hz);refine⟨z,dz,p,q,ts.map V.ref,(rs++ss).map V.ref,rfl,ag,s5.seq hts,s5.seq (aT.of hq),fun p' q' H' hp' hq' hqp e=>⟨rfl,?_⟩⟩
 have px:p'≠z:=fun e=>by subst e;rw [ag]at hp';cases hp'
 have qx:q'≠z:=fun e=>by subst e;rw [ag]at hq';cases hq'
 have s6:au H2 H':=fun c u hc=>by
  have h3:=s5 _ _ hc;have cx:c≠z:=ar hc hz;rw [e,ak cx,ak (ar h3 hq'),ak (ar h3 hp')];exact h3
 have s16:=s12.trans s6
 have SA:bj P w K mg base C bs.length (bL bs cs) (Rs++Ss) z H':=by
  refine⟨dz,p',q',by rw [e,ag],⟨ts,aT.of (by rw [e,ak px,ak hqp.symm,ag]),htl,fun i t b e1 e2=>s6.tup (htc i t b e1 e2)⟩,⟨rs++ss,by rw [e,ak qx,ag],hl,fun j r R e1 e2=>?_⟩⟩
  by_cases hj:j < rs.length
  ·rw [ab3 hj]at e1
   rw [ab3 (by omega)]at e2;exact(hrc j r R e1 e2).same s16
  ·rw [ab0 (by omega)]at e1
   rw [ab0 (by omega),←hrl]at e2;rw [heq];exact(hsc _ r R e1 e2).same s16
 refine⟨z,C,bs.length,bL bs cs,Rs++Ss,rfl,TC,SA,fun b hb=>(pS bs cs 0 hap (fun b hb=>(okb.2.2 b hb).2.1) b hb).2,fun R hR=>(ac1.mp hR).elim (fun h=>(okr.2 R h).2.2) (fun h=>(oks.2 R h).2.2),fun h=>kq (by rw [e1,if_neg (by omega)]) z H' SA s16,fun h a d H5 hw s7=>kw _ (by rw [e1,if_pos h]) a d H5 hw (s16.trans s7)⟩
end
theorem lU:bootBuiltins "ValueError"=some (.type "ValueError"):=PyProof.Rows.Boot.«ValueError»
structure B5(mg:Str→Option Value)(aM:Addr)(cS c1 c2 c3 c4 c5 c6 c7 c8 c9 cA cB cC:Addr):Prop extends Txt mg aM where
 c_ScoreError:∃u,mg "ScoreError"=some u∧aN (.ref cS) u
 c_BadRow:∃u,mg "BadRow"=some u∧aN (.ref c1) u
 c_BadLine:∃u,mg "BadLine"=some u∧aN (.ref c2) u
 c_TooWide:∃u,mg "TooWide"=some u∧aN (.ref c3) u
 c_Apart:∃u,mg "Apart"=some u∧aN (.ref c4) u
 c_Crowded:∃u,mg "Crowded"=some u∧aN (.ref c5) u
 c_NoNumber:∃u,mg "NoNumber"=some u∧aN (.ref c6) u
 c_Unlike:∃u,mg "Unlike"=some u∧aN (.ref c7) u
 c_Unfit:∃u,mg "Unfit"=some u∧aN (.ref c8) u
 c_NoLine:∃u,mg "NoLine"=some u∧aN (.ref c9) u
 c_NoName:∃u,mg "NoName"=some u∧aN (.ref cA) u
 c_Endless:∃u,mg "Endless"=some u∧aN (.ref cB) u
 c_NoRow:∃u,mg "NoRow"=some u∧aN (.ref cC) u
structure u9(K:Frag)(C cS c1 c2 c3 c4 c5 c6 c7 c8 c9 cA cB cC:Addr):Prop where
 kS:kitOne K (.ref C) (.ref cS)=some true
 kV:kitOne K (.ref C) (.type "ValueError")=some true
 ex:∃b1 b2 b3 b4 b5 b6 b7 b8 b9 bA bB bC:Bool,kitOne K (.ref C) (.ref c1)=some b1∧kitOne K (.ref C) (.ref c2)=some b2∧kitOne K (.ref C) (.ref c3)=some b3∧kitOne K (.ref C) (.ref c4)=some b4∧kitOne K (.ref C) (.ref c5)=some b5∧kitOne K (.ref C) (.ref c6)=some b6∧kitOne K (.ref C) (.ref c7)=some b7∧kitOne K (.ref C) (.ref c8)=some b8∧kitOne K (.ref C) (.ref c9)=some b9∧kitOne K (.ref C) (.ref cA)=some bA∧kitOne K (.ref C) (.ref cB)=some bB∧kitOne K (.ref C) (.ref cC)=some bC∧[b1,b2,b3,b4,b5,b6,b7,b8,b9,bA,bB,bC].countP (fun n=>n == true)=1
def eQ(C:Addr)(fl:Str):Sp:=fun vs H Q _=>∃(a d:Addr) (n:Int),vs=[.ref a]∧zO C fl n H a d∧∀H',au H H'→Q (.bl true) H'
structure Br(K:Frag)(cw ca cc:Addr):Prop where
 xaa:exmOne K (.ref ca) (.ref ca)=some true
 xca:exmOne K (.ref cc) (.ref ca)=some false
 xcc:exmOne K (.ref cc) (.ref cc)=some true
 xwa:exmOne K (.ref cw) (.ref ca)=some false
 xwc:exmOne K (.ref cw) (.ref cc)=some false
 xww:exmOne K (.ref cw) (.ref cw)=some true
def De(P:Program)(w:World)(K:Frag)(mg:Str→Option Value)(base:Heap)(C:Addr):Sp:=fun vs H Q _=>∃(x y:Addr) (bs cs:List (Int×Int)) (Rs Ss:List aQ),vs=[.ref x,.ref y]∧bj P w K mg base C bs.length bs Rs x H∧bj P w K mg base C cs.length cs Ss y H∧lY bs∧lY cs∧jN bs.length Rs∧jN cs.length Ss∧
 (∀n,eC bs cs (Rs++Ss)=.apart n→∀p t H',H' p=some (.tup [.non,.ref t])→H' t=some (.tup [.str "apart",.int n])→au H H'→Q (.ref p) H')∧(∀n,eC bs cs (Rs++Ss)=.crowded n→∀p t H',H' p=some (.tup [.non,.ref t])→H' t=some (.tup [.str "crowded",.int n])→au H H'→Q (.ref p) H')∧(∀n,eC bs cs (Rs++Ss)=.wide n→∀p t H',H' p=some (.tup [.non,.ref t])→H' t=some (.tup [.str "wide",.int n])→au H H'→Q (.ref p) H')∧
 (eC bs cs (Rs++Ss)=.ok→∀p z H',H' p=some (.tup [.ref z,.non])→bj P w K mg base C bs.length (bL bs cs) (Rs++Ss) z H'→au H H'→Q (.ref p) H')
section
variable {P:Program} {w:World} {K:Frag} {mg:Str→Option Value} {base:Heap} {aM:Addr}
theorem ia{f C cS c1 c2 c3 c4 c5 c6 c7 c8 c9 cA cB cC:Addr}{fd:FuncData}{xn fl:Str}{ps:List Str}{sp:Sp}(F:cT K "_law_one_kind" "_law_one_kind" fL f fd)(T:B5 mg aM cS c1 c2 c3 c4 c5 c6 c7 c8 c9 cA cB cC)(O:u9 K C cS c1 c2 c3 c4 c5 c6 c7 c8 c9 cA cB cC)(DE_Apart:g9 P w K mg base xn C 7 ps sp ["__setattr__","__getattribute__","__getattr__","__class__",fl]):aH P w K mg base cb 8 f fd ["_law_e"] (eQ C fl):=by
 refine F.ok sc_law_one_kind (fun vs H Q E h=>?_) (fun cdv A outer s H vs Q E hr h=>?_)
 ·obtain⟨a,d,n,rfl,_⟩:=h
  rfl
 obtain⟨a,d,n,rfl,⟨ha,hd⟩,k⟩:=h
 refine⟨_,(ai (aD (i:=1) sc_law_one_kind.nd rfl (Or.inl rfl) (d0 (af (aB (bV K DE_Apart (by simp) (by simp) (by simp)) (by rfl) T.n_isinstance boot_isinstance (af (pr 0) (af (d6 T.c_BadRow) ah))) (af (aB (bV K DE_Apart (by simp) (by simp) (by simp)) (by rfl) T.n_isinstance boot_isinstance (af (pr 0) (af (d6 T.c_BadLine) ah))) (af (aB (bV K DE_Apart (by simp) (by simp) (by simp)) (by rfl) T.n_isinstance boot_isinstance (af (pr 0) (af (d6 T.c_TooWide) ah))) (af (aB (bV K DE_Apart (by simp) (by simp) (by simp)) (by rfl) T.n_isinstance boot_isinstance (af (pr 0) (af (d6 T.c_Apart) ah))) ah))))))
 (ai (aD (i:=1) sc_law_one_kind.nd rfl (Or.inl rfl) (aw (bq K) (pr 1) (d0 (af (aB (bV K DE_Apart (by simp) (by simp) (by simp)) (by rfl) T.n_isinstance boot_isinstance (af (pr 0) (af (d6 T.c_Crowded) ah))) (af (aB (bV K DE_Apart (by simp) (by simp) (by simp)) (by rfl) T.n_isinstance boot_isinstance (af (pr 0) (af (d6 T.c_NoNumber) ah))) (af (aB (bV K DE_Apart (by simp) (by simp) (by simp)) (by rfl) T.n_isinstance boot_isinstance (af (pr 0) (af (d6 T.c_Unlike) ah))) (af (aB (bV K DE_Apart (by simp) (by simp) (by simp)) (by rfl) T.n_isinstance boot_isinstance (af (pr 0) (af (d6 T.c_Unfit) ah))) ah)))))))
 (ai (aD (i:=1) sc_law_one_kind.nd rfl (Or.inl rfl) (aw (bq K) (pr 1) (d0 (af (aB (bV K DE_Apart (by simp) (by simp) (by simp)) (by rfl) T.n_isinstance boot_isinstance (af (pr 0) (af (d6 T.c_NoLine) ah))) (af (aB (bV K DE_Apart (by simp) (by simp) (by simp)) (by rfl) T.n_isinstance boot_isinstance (af (pr 0) (af (d6 T.c_NoName) ah))) (af (aB (bV K DE_Apart (by simp) (by simp) (by simp)) (by rfl) T.n_isinstance boot_isinstance (af (pr 0) (af (d6 T.c_Endless) ah))) (af (aB (bV K DE_Apart (by simp) (by simp) (by simp)) (by rfl) T.n_isinstance boot_isinstance (af (pr 0) (af (d6 T.c_NoRow) ah))) ah)))))))
 (ao (ax (BL (yR (gG sr (cG K PySem.F.plainAttrs_list PySem.F.slot_list_count PySem.F.type_list_count wO (pr 1) (af jP ah)) aj (aE _)) (BL (yR (aB (bV K DE_Apart (by simp) (by simp) (by simp)) (by rfl) T.n_isinstance boot_isinstance (af (pr 0) (af (d6 T.c_ScoreError) ah))) (yW (aB (bV K DE_Apart (by simp) (by simp) (by simp)) (by rfl) T.n_isinstance boot_isinstance (af (pr 0) (af (vw (v:=.ty "ValueError") (by rfl) T.n_ValueError lU rfl) ah))))))))))))),?_⟩
 have hs:sizeLine=16777216:=sizeLine_eq;have isi:∀{c:Addr} {b:Bool} {H':Hp} {Q':VK},au H H'→kitOne K (.ref C) (.ref c)=some b→Q' (.bl b) H'→CV K C [.ref a,.ref c] H' Q':=fun {c b H' Q'} s e q=>⟨a,d,_,_,_,rfl,s _ _ ha,rfl,fun u' h=>h,e,q⟩;obtain⟨b1,b2,b3,b4,b5,b6,b7,b8,b9,bA,bB,bC,k1,k2,k3,k4,k5,k6,k7,k8,k9,kA,kB,kC,hcount⟩:=O.ex;refine bo (fun σ H'=>∃p:Addr,H' p=some (.lst ([b1,b2,b3,b4].map V.bl))∧σ=[some (.ref a),some (.ref p)]∧au H H') ?_ ?_
 ·intro u' hu
  walk_at "rd";exact isi (au.refl H) k1 (isi (au.refl H) k2 (isi (au.refl H) k3 (isi (au.refl H) k4 (⟨by omega,fun p hp=>hu _ _ ⟨p,ag,rfl,av hp⟩⟩))))
 intro Ω ω;rintro _ H1 ⟨p,hp,rfl,s1⟩;refine ω _ _ ?_;refine bo (fun σ H'=>∃p:Addr,H' p=some (.lst ([b1,b2,b3,b4,b5,b6,b7,b8].map V.bl))∧σ=[some (.ref a),some (.ref p)]∧au H H') ?_ ?_
 ·intro u' hu
  walk_at "rd";refine isi s1 k5 (isi s1 k6 (isi s1 k7 (isi s1 k8 (⟨by omega,fun p1 hp1=>?_⟩))));refine il ((av hp1) _ _ hp) ag (by simp;omega) fun p2 hp2=>?_;exact hu _ _ ⟨p2,ag,rfl,(s1.upd hp1).upd hp2⟩
 intro Ω ω;rintro _ H2 ⟨p2,hp2,rfl,s2⟩;refine ω _ _ ?_;refine bo (fun σ H'=>∃p:Addr,H' p=some (.lst ([b1,b2,b3,b4,b5,b6,b7,b8,b9,bA,bB,bC].map V.bl))∧σ=[some (.ref a),some (.ref p)]∧au H H') ?_ ?_
 ·intro u' hu
  walk_at "rd";refine isi s2 k9 (isi s2 kA (isi s2 kB (isi s2 kC (⟨by omega,fun p1 hp1=>?_⟩))));refine il ((av hp1) _ _ hp2) ag (by simp;omega) fun p3 hp3=>?_;exact hu _ _ ⟨p3,ag,rfl,(s2.upd hp1).upd hp3⟩
 intro Ω ω;rintro _ H3 ⟨p3,hp3,rfl,s3⟩;refine ω _ _ ?_;walk_at "rd";refine⟨.inl ⟨rfl,_,aT.of hp3⟩,p3,_,true,rfl,rfl,hp3,rEq_ii.mpr ⟨_,rfl,?_⟩⟩;rw [hcount,if_pos (by decide)];refine isi s3 O.kS ⟨_,rfl,?_⟩;rw [if_pos rfl];exact⟨a,d,_,_,_,rfl,s3 _ _ ha,rfl,fun u' h=>h,O.kV,k _ s3⟩
theorem DX{f C cS c1 c2 c3 c4 c5 c6 c7 c8 c9 cA cB cC:Addr}{fd:FuncData}(F:cT K "_law_joined" "_law_joined" gT f fd)(T:B5 mg aM cS c1 c2 c3 c4 c5 c6 c7 c8 c9 cA cB cC)(XX:Br K c3 c4 c5)(DE_Apart:g9 P w K mg base "Apart" c4 7 ["self","voice"] (lA c4 "voice") zR)(DE_Crowded:g9 P w K mg base "Crowded" c5 7 ["self","many"] (lA c5 "many") EW)(DE_TooWide:g9 P w K mg base "TooWide" c3 7 ["self","weight"] (lA c3 "weight") EY)
  (D_law_one_kind:cJ P w K mg base "_law_one_kind" 11 ["_law_e"] (fun vs H Q E=>eQ c4 "voice" vs H Q E∨eQ c5 "many" vs H Q E∨eQ c3 "weight" vs H Q E)) (DX_joined:i5 P w K mg base "joined" 11 ["one","other"] (j4 P w K mg base C c4 c5 c3)):aH P w K mg base cb 12 f fd ["_law_one","_law_other"] (De P w K mg base C):=by
 refine F.ok sc_law_joined (fun vs H Q E h=>?_) (fun cdv A outer s H vs Q E hr h=>?_)
 ·obtain⟨x,y,bs,cs,Rs,Ss,rfl,_⟩:=h
  rfl
 obtain⟨x,y,bs,cs,Rs,Ss,rfl,S1,S2,okb,okc,okr,oks,ka,kc,kw,kq⟩:=h
 refine⟨_,(ai (aD (i:=2) sc_law_joined.nd rfl (Or.inl rfl) aR)
 (ai (aD (i:=3) sc_law_joined.nd rfl (Or.inl rfl) aR)
 (ai (aD (i:=4) sc_law_joined.nd rfl (Or.inl rfl) aR)
 (ai (aD (i:=5) sc_law_joined.nd rfl (Or.inl rfl) aj)
 (ai (AZ rfl rfl (CT (iv:=2) sc_law_joined.nd rfl (Or.inl rfl) (Or.inl rfl) (A4 DX_joined hr (by rfl) (af (pr 0) (af (pr 1) ah)))) (qC (ie:=6) K (by rfl) T.c_Apart sc_law_joined.nd rfl rfl (fun _=>(ai (aD (i:=4) sc_law_joined.nd rfl (Or.inl rfl) (pr 6))
 (ai (aD (i:=3) sc_law_joined.nd rfl (Or.inl rfl) aZ)
 (ao (aD (i:=5) sc_law_joined.nd rfl (Or.inl rfl) (qB DE_Apart (by simp) (by simp) (by simp) pA (pr 6) rfl)))))) (qC (ie:=6) K (by rfl) T.c_Crowded sc_law_joined.nd rfl rfl (fun _=>(ai (aD (i:=4) sc_law_joined.nd rfl (Or.inl rfl) (pr 6))
 (ai (aD (i:=3) sc_law_joined.nd rfl (Or.inl rfl) aZ)
 (ao (aD (i:=5) sc_law_joined.nd rfl (Or.inl rfl) (qB DE_Crowded (by simp) (by simp) (by simp) sf (pr 6) rfl)))))) (qC (ie:=6) K (by rfl) T.c_TooWide sc_law_joined.nd rfl rfl (fun _=>(ai (aD (i:=4) sc_law_joined.nd rfl (Or.inl rfl) (pr 6))
 (ai (aD (i:=3) sc_law_joined.nd rfl (Or.inl rfl) aZ)
 (ao (aD (i:=5) sc_law_joined.nd rfl (Or.inl rfl) (qB DE_TooWide (by simp) (by simp) (by simp) mX (pr 6) rfl)))))) CO))))
 (ai (br (bp (az fc (pr 3) aR (aE _))) (ao (ax (cH (af (pr 2) (af aR ah))))) aJ)
 (ai (br (PW.pt (de (dv (bE (aC D_law_one_kind hr (by rfl) (af (pr 4) ah)) (fun _=>rfl))) (cM (bE (aB (pV K) (by rfl) T.n_isinstance boot_isinstance (af (pr 5) (af (vw (v:=.ty "bool") (by rfl) T.n_bool boot_bool rfl) ah))) (fun _=>rfl))))) (ao (ax (cH (af aR (af aR ah))))) aJ)
 (ao (ax (cH (af aR (af (cH (af (pr 3) (af (pr 5) ah))) ah)))))))))))),?_⟩
 have hs:sizeLine=16777216:=sizeLine_eq;refine bo (fun σ H'=>σ=[some (.ref x),some (.ref y),some .non,none,none,none,none]∧H=H') ?_ ?_
 ·intro u' hu
  walk_at "rd";exact hu _ _ ⟨rfl,rfl⟩
 intro Ω ω;rintro _ _ ⟨rfl,rfl⟩;refine ω _ _ ?_;refine bo (fun σ H'=>σ=[some (.ref x),some (.ref y),some .non,some .non,none,none,none]∧H=H') ?_ ?_
 ·intro u' hu
  walk_at "rd";exact hu _ _ ⟨rfl,rfl⟩
 intro Ω ω;rintro _ _ ⟨rfl,rfl⟩;refine ω _ _ ?_;refine bo (fun σ H'=>σ=[some (.ref x),some (.ref y),some .non,some .non,some .non,none,none]∧H=H') ?_ ?_
 ·intro u' hu
  walk_at "rd";exact hu _ _ ⟨rfl,rfl⟩
 intro Ω ω;rintro _ _ ⟨rfl,rfl⟩;refine ω _ _ ?_;refine bo (fun σ H'=>σ=[some (.ref x),some (.ref y),some .non,some .non,some .non,some (.int 0),none]∧H=H') ?_ ?_
 ·intro u' hu
  walk_at "rd";exact hu _ _ ⟨rfl,rfl⟩
 intro Ω ω;rintro _ _ ⟨rfl,rfl⟩;refine ω _ _ ?_;refine EN (fun σ H'=>au H H'∧((∃(n:Nat) (a d:Addr),eC bs cs (Rs++Ss)=.apart n∧zO c4 "voice" n H' a d∧σ=[some (.ref x),some (.ref y),some .non,some (.str (Str.ofString "apart")),some (.ref a),some (.int n),none])∨(∃(n:Nat) (a d:Addr),eC bs cs (Rs++Ss)=.crowded n∧zO c5 "many" n H' a d∧σ=[some (.ref x),some (.ref y),some .non,some (.str (Str.ofString "crowded")),some (.ref a),some (.int n),none])∨(∃(n:Int) (a d:Addr),eC bs cs (Rs++Ss)=.wide n∧zO c3 "weight" n H' a d∧σ=[some (.ref x),some (.ref y),some .non,some (.str (Str.ofString "wide")),some (.ref a),some (.int n),none])∨(∃z,eC bs cs (Rs++Ss)=.ok∧bj P w K mg base C bs.length (bL bs cs) (Rs++Ss) z H'∧σ=[some (.ref x),some (.ref y),some (.ref z),some .non,some .non,some (.int 0),none]))) ?_ ?_
 ·intro u' hu
  simp only [gB,BS,Es,u6,BO,vO];walk_at "rd";simp only [vm];refine⟨x,y,bs,cs,Rs,Ss,rfl,S1,S2,okb,okc,okr,oks,fun n hn a d H' hX s'=>⟨c4,a,rfl,d,hX.1,true,XX.xaa,?_⟩,fun n hn a d H' hX s'=>⟨c5,a,rfl,d,hX.1,false,XX.xca,?_⟩,fun n hn a d H' hX s'=>⟨c3,a,rfl,d,hX.1,false,XX.xwa,?_⟩,fun hn z H' hz s'=>hu _ _ ⟨s',.inr (.inr (.inr ⟨z,hn,hz,rfl⟩))⟩⟩
  ·rw [if_pos rfl]
   exact⟨a,d,_,.int n,rfl,hX.1,hX.2,by simp [List.lookup],hu _ _ ⟨s',.inl ⟨n,a,d,hn,hX,rfl⟩⟩⟩
  ·rw [if_neg aa4]
   refine⟨true,XX.xcc,?_⟩;rw [if_pos rfl];exact⟨a,d,_,.int n,rfl,hX.1,hX.2,by simp [List.lookup],hu _ _ ⟨s',.inr (.inl ⟨n,a,d,hn,hX,rfl⟩)⟩⟩
  ·rw [if_neg aa4]
   refine⟨false,XX.xwc,?_⟩;rw [if_neg aa4];refine⟨true,XX.xww,?_⟩;rw [if_pos rfl];exact⟨a,d,_,.int n,rfl,hX.1,hX.2,by simp [List.lookup],hu _ _ ⟨s',.inr (.inr (.inl ⟨n,a,d,hn,hX,rfl⟩))⟩⟩
 rintro _ H1 ⟨s1,(⟨n,a,d,hn,hX,rfl⟩ | ⟨n,a,d,hn,hX,rfl⟩ | ⟨n,a,d,hn,hX,rfl⟩ | ⟨z,hn,hz,rfl⟩)⟩
 ·walk_at "rd"
  refine .inl ⟨a,d,_,rfl,hX,fun H2 s2=>⟨true,TruV_b.mpr rfl,?_⟩⟩;rw [if_neg (by decide)];refine⟨_,.int _,false,rfl,?_⟩;rw [if_neg (by decide)];refine⟨by omega,fun t ht=>⟨by omega,fun p hp=>ka n hn p t _ ag ((av hp) _ _ ag) (((s1.trans s2).upd ht).upd hp)⟩⟩
 ·walk_at "rd"
  refine .inr (.inl ⟨a,d,_,rfl,hX,fun H2 s2=>⟨true,TruV_b.mpr rfl,?_⟩⟩);rw [if_neg (by decide)];refine⟨_,.int _,false,rfl,?_⟩;rw [if_neg (by decide)];refine⟨by omega,fun t ht=>⟨by omega,fun p hp=>kc n hn p t _ ag ((av hp) _ _ ag) (((s1.trans s2).upd ht).upd hp)⟩⟩
 ·walk_at "rd"
  refine .inr (.inr ⟨a,d,_,rfl,hX,fun H2 s2=>⟨true,TruV_b.mpr rfl,?_⟩⟩);rw [if_neg (by decide)];refine⟨_,.int _,false,rfl,?_⟩;rw [if_neg (by decide)];refine⟨by omega,fun t ht=>⟨by omega,fun p hp=>kw n hn p t _ ag ((av hp) _ _ ag) (((s1.trans s2).upd ht).upd hp)⟩⟩
 ·walk_at "rd"
  exact⟨by omega,fun p hp=>kq hn p z _ ag (hz.same (av hp)) (s1.upd hp)⟩
end
def cL(K:Frag)(H:Hp)(q:Addr)(Rs:List aQ):Prop:=∃ps:List Addr,H q=some (.lst (ps.map V.ref))∧ps.length=Rs.length∧∀(i:Nat) (p:Addr) (R:aQ),ps[i]?=some p→Rs[i]?=some R→H p=some (.tup [.str (bN R),.int (fP R)])
theorem cL.same{K:Frag}{H H':Hp}{q:Addr}{Rs:List aQ}(s:au H H')(h:cL K H q Rs):cL K H' q Rs:=by
 obtain⟨ps,h1,h2,h3⟩:=h;exact⟨ps,s _ _ h1,h2,fun i p R e1 e2=>s _ _ (h3 i p R e1 e2)⟩
def vH(K:Frag):Sp:=fun vs H Q _=>∃(a b:Addr) (bs cs:List (Int×Int)),vs=[.ref a,.ref b]∧bu K H a bs∧bu K H b cs∧bs.length=cs.length∧bs.length≤4∧∀q H',bu K H' q (bL bs cs)→au H H'→Q (.ref q) H'
def uF(K:Frag):Sp:=fun vs H Q _=>∃(a b q:Addr) (bs cs:List (Int×Int)) (Rs:List aQ),vs=[.ref a,.ref b,.ref q]∧bu K H a bs∧bu K H b cs∧cL K H q Rs∧lY bs∧lY cs∧Rs.length≤30∧(∀R∈Rs,(fP R).natAbs < 2 ^ 60)∧
 (∀n,eC bs cs Rs=.apart n→∀t H',H' t=some (.tup [.str "apart",.int n])→au H H'→Q (.ref t) H')∧(∀n,eC bs cs Rs=.crowded n→∀t H',H' t=some (.tup [.str "crowded",.int n])→au H H'→Q (.ref t) H')∧(∀n,eC bs cs Rs=.wide n→∀t H',H' t=some (.tup [.str "wide",.int n])→au H H'→Q (.ref t) H')∧(eC bs cs Rs=.ok→∀H',au H H'→Q .non H')
section
variable {P:Program} {w:World} {K:Frag} {mg:Str→Option Value} {base:Heap} {aM:Addr}
theorem CG{f:Addr}{fd:FuncData}(F:cT K "_law_met" "_law_met" kP f fd)(T:Txt mg aM):aH P w K mg base cb 1 f fd ["_law_ones","_law_others"] (vH K):=by
 refine F.ok sc_law_met (fun vs H Q E h=>?_) (fun cdv A outer s H vs Q E hr h=>?_)
 ·obtain⟨a,b,bs,cs,rfl,_⟩:=h
  rfl
 obtain⟨a,b,bs,cs,rfl,⟨ts,hts,htl,htc⟩,⟨us,hus,hul,huc⟩,heq,l4,k⟩:=h
 refine⟨_,(ai (aD (i:=2) sc_law_met.nd rfl (Or.inl rfl) (d0 ah))
 (ai (d3 PassesOwn.never rfl (iP rfl T.n_range (af (aB (aP K) (by rfl) T.n_len boot_len (af (pr 0) ah)) ah)) (aF (i:=3) sc_law_met.nd rfl (Or.inl rfl))
 (ao (bY (cG K PySem.F.plainAttrs_list PySem.F.slot_list_append PySem.F.type_list_append dW (pr 2) (af (cH (af (aB (oY rfl) (by rfl) T.n_max boot_max (af (aU (bJ K) (aU (bJ K) (pr 0) (pr 3) (fun _ _=>rfl)) aj (fun _ _=>rfl)) (af (aU (bJ K) (aU (bJ K) (pr 1) (pr 3) (fun _ _=>rfl)) aj (fun _ _=>rfl)) ah))) (af (aB (km rfl) (by rfl) T.n_min boot_min (af (aU (bJ K) (aU (bJ K) (pr 0) (pr 3) (fun _ _=>rfl)) aj (fun _ _=>rfl)) (af (aU (bJ K) (aU (bJ K) (pr 1) (pr 3) (fun _ _=>rfl)) aj (fun _ _=>rfl)) ah))) ah))) ah)))))
 (ao (ax (pr 2))))),?_⟩
 have hs:sizeLine=16777216:=sizeLine_eq;refine bo (fun σ H'=>∃q:Addr,H q=none∧H' q=some (.lst (([]:List Addr).map V.ref))∧σ=[some (.ref a),some (.ref b),some (.ref q),none]∧au H H') ?_ ?_
 ·intro u' hu
  walk_at "rd";exact⟨by omega,fun q hq=>hu _ _ ⟨q,hq,ag,rfl,av hq⟩⟩
 intro Ω ω;rintro _ H1 ⟨q,hq0,hq1,rfl,s1⟩;obtain⟨Pv,hPv⟩:∃Pv:Nat→L2.St→Hp→Prop,Pv=fun i σ H'=>∃(vs:List Addr) (o3:Option V),vs.length=i∧H' q=some (.lst (vs.map V.ref))∧(∀(j:Nat) (t:Addr) (m:Int×Int),vs[j]?=some t→(bL bs cs)[j]?=some m→H' t=some (.tup [.int m.1,.int m.2]))∧σ=[some (.ref a),some (.ref b),some (.ref q),o3]∧au H H':=⟨_,rfl⟩;refine ω _ _ ?_;refine bo (Pv bs.length) ?_ ?_
 ·intro u' hu
  walk_at "rd";refine⟨_,.inl (s1.seq hts),?_⟩;rw [aa0,htl];refine⟨by omega,by omega,?_⟩;rw [show((bs.length:Int)).toNat=bs.length from rfl];refine i9 Pv (by rw [hPv];exact⟨[],none,rfl,hq1,fun j t m e=>(by cases e),rfl,s1⟩) ?_ (fun σ H' h=>hu _ _ h);rintro i σ H2 hi hI;rw [hPv]at hI;obtain⟨vs,o3,hvl,hq2,hv,rfl,s2⟩:=hI
  have hi2:i < cs.length:=by omega
  have t1:ts[i]?=some ts[i]:=aa1 (by omega);have t2:us[i]?=some us[i]:=aa1 (by omega);have x1:=s2.tup (htc i _ _ t1 (aa1 hi));have x2:=s2.tup (huc i _ _ t2 (aa1 hi2));have i1:fm (ts.map V.ref) ((i:Nat):Int)=some (.ref ts[i]):=aO (by rw [aa8,t1];rfl);have i2:fm (us.map V.ref) ((i:Nat):Int)=some (.ref us[i]):=aO (by rw [aa8,t2];rfl);have em:=iM hi hi2;walk_at "rd";refine⟨.inl ⟨rfl,_,aT.of hq2⟩,bH (s2.seq hts) i1 (dN x1 (bw rfl) (bH (s2.seq hus) i2 (dN x2 (bw rfl) ?_)))⟩;walk_at "rd";refine bH (s2.seq hts) i1 (dN x1 (show fm _ ((1:Nat):Int)=_ from aO rfl) (bH (s2.seq hus) i2 (dN x2 (show fm _ ((1:Nat):Int)=_ from aO rfl) ?_)));walk_at "rd";refine⟨by omega,fun t ht=>?_⟩;have st:au H2 (upd H2 t (.tup [.int (dA bs[i] cs[i]).1,.int (dA bs[i] cs[i]).2])):=av ht;refine⟨q,_,_,rfl,rfl,st _ _ hq2,by rw [aa0];omega,?_⟩;rw [hPv];refine⟨vs++[t],some (.int i),by rw [ab4,hvl];rfl,by rw [ag,ab7];rfl,fun j t' m e1 e2=>?_,rfl,fun c o hc=>?_⟩
  ·by_cases hj:j < vs.length
   ·rw [ab3 hj]at e1
    have:=st _ _ (hv j t' m e1 e2)
    rw [ak (ft this (st _ _ hq2) (fun e=>by cases e))];exact this
   ·rw [ab0 (by omega)]at e1
    have ej:j=vs.length:=by
     have:=(aa2.mp e1).1
     simp at this;omega
    rw [ej,ad9]at e1;cases e1;rw [ej,hvl,em]at e2;cases e2;rw [ak (ar hq2 ht).symm];exact ag
  ·rw [ak (ar hc hq0)]
   exact st _ _ (s2 _ _ hc)
 intro Ω ω;intro σ H2 hI;rw [hPv]at hI;obtain⟨vs,o3,hvl,hq2,hv,rfl,s2⟩:=hI;refine ω _ _ ?_;walk_at "rd";exact k q _ ⟨vs,aT.of hq2,by rw [hvl];unfold bL;rw [ae2,←heq,ah2],fun j t m e1 e2=>cD.of (hv j t m e1 e2)⟩ s2
end
theorem qG{α:Type}(f:α→Int):∀(l:List α) (t:Int) (m:Nat),t.natAbs < 2 ^ m→(∀b∈l,(f b).natAbs < 2 ^ 200)→(l.foldl (fun t b=>t * f b) t).natAbs < 2 ^ (m+200 * l.length)
 | [],t,m,h,_=>by simpa using h
 | b::l,t,m,h,hb=>by
  have h1:(t * f b).natAbs < 2 ^ (m+200):=by
   rw [Int.natAbs_mul,Nat.pow_add];exact Nat.mul_lt_mul_of_lt_of_le h (ah6 (hb b (by simp))) (Nat.pow_pos (by decide))
  have:=qG f l (t * f b) (m+200) h1 fun x hx=>hb x (by simp [hx])
  rw [ac2,show m+200 * (l.length+1)=m+200+200 * l.length by omega];exact this
theorem u5{bs:List (Int×Int)}(h:∀b∈bs,(cI b).natAbs < 2 ^ 200):(jt bs).natAbs < 2 ^ (1+200 * bs.length):=qG cI bs 1 1 (by decide) h
theorem t5{a b:Int}{m:Nat}(ha:a.natAbs < 2 ^ m)(hb:b.natAbs < 2 ^ 200)(h:m≤100000):IntMulOk a b:=IntMulOk.of_le (m:=m) (n:=200) (intBits_le_iff.mpr ha) (intBits_le_iff.mpr hb) (by omega)
theorem tq{a:Int}(h:a.natAbs < 2 ^ 60):a.natAbs < 2 ^ 200:=Nat.lt_trans h (by decide +kernel)
theorem zK{b c:Int×Int}(h:¬(dA b c).2 < (dA b c).1)(hb:(cI b).natAbs < 2 ^ 50):((dA b c).2 - (dA b c).1+1).natAbs < 2 ^ 60:=by
 have a1:b.1≤(dA b c).1:=by unfold dA;dsimp only;split<;>omega
 have a2:(dA b c).2≤b.2:=by unfold dA;dsimp only;split<;>omega
 unfold cI at hb;omega
section
variable {P:Program} {w:World} {K:Frag} {mg:Str→Option Value} {base:Heap} {aM:Addr}
theorem AD{f:Addr}{fd:FuncData}(F:cT K "_law_due" "_law_due" kN f fd)(T:Txt mg aM)(D_law_met:cJ P w K mg base "_law_met" 1 ["_law_ones","_law_others"] (vH K)):aH P w K mg base cb 2 f fd ["_law_ones","_law_others","_law_rules_here"] (uF K):=by
 refine F.ok sc_law_due (fun vs H Q E h=>?_) (fun cdv A outer s H vs Q E hr h=>?_)
 ·obtain⟨a,b,q,bs,cs,Rs,rfl,_⟩:=h
  rfl
 obtain⟨a,b,q,bs,cs,Rs,rfl,hr1,hr2,hR,okb,okc,l30,hsz,ka,kc,kw,kq⟩:=h
 refine⟨_,(ai (br (bp (az (t6 K (zQ hr)) (aB (aP K) (by rfl) T.n_len boot_len (af (pr 0) ah)) (aB (aP K) (by rfl) T.n_len boot_len (af (pr 1) ah)) (aE _))) (ao (ax (cH (af aZ (af aj ah))))) aJ)
 (ai (aD (i:=3) sc_law_due.nd rfl (Or.inl rfl) aj)
 (ai (d3 PassesOwn.never rfl (gy rfl T.n_enumerate (af (aC D_law_met hr (by rfl) (af (pr 0) (af (pr 1) ah))) ah)) (cg K (n:=2) rfl (aL (aF (i:=4) sc_law_due.nd rfl (Or.inl rfl)) (aL (aF (i:=5) sc_law_due.nd rfl (Or.inl rfl)) cj)))
 (ai (br (bp (az (o0 lO) (aU (bJ K) (pr 5) aj (fun _ _=>rfl)) (aU (bJ K) (pr 5) aj (fun _ _=>rfl)) (aE _))) (ao (ax (cH (af aZ (af (aw (bq K) (pr 4) aj) ah))))) aJ)
 (ao (aD (i:=3) sc_law_due.nd rfl (Or.inl rfl) (aw (lX K) (pr 3) (aw (bq K) (aw (o0 dZ) (aU (bJ K) (pr 5) aj (fun _ _=>rfl)) (aU (bJ K) (pr 5) aj (fun _ _=>rfl))) aj))))))
 (ai (br (bp (az (o0 lO) (aB (aP K) (by rfl) T.n_len boot_len (af (pr 2) ah)) aj (aE _))) (ao (ax (cH (af aZ (af (aB (aP K) (by rfl) T.n_len boot_len (af (pr 2) ah)) ah))))) aJ)
 (ai (d3 PassesOwn.never rfl (bX K (pr 2)) (cg K (n:=2) rfl (aL (aF (i:=6) sc_law_due.nd rfl (Or.inl rfl)) (aL (aF (i:=7) sc_law_due.nd rfl (Or.inl rfl)) cj)))
 (ao (aD (i:=3) sc_law_due.nd rfl (Or.inl rfl) (aw (lX K) (pr 3) (pr 7)))))
 (ai (br (bp (az (o0 lO) (pr 3) aj (aE _))) (ao (ax (cH (af aZ (af (pr 3) ah))))) aJ)
 (ao (ax aR)))))))),?_⟩
 have hs:sizeLine=16777216:=sizeLine_eq;obtain⟨rs,hrs,hrl,hrc⟩:=hR;refine bo (fun σ H'=>bs.length=cs.length∧σ=[some (.ref a),some (.ref b),some (.ref q),none,none,none,none,none]∧H=H') ?_ ?_
 ·intro u' hu
  obtain⟨ts,hts,htl,_⟩:=hr1;obtain⟨us,hus,hul,_⟩:=hr2;walk_at "rd";refine⟨_,.inl hts,_,.inl hus,?_⟩;rw [aa0,aa0,htl,hul];walk_at "rd"
  by_cases h:bs.length=cs.length
  ·rw [if_pos (by omega)]
   exact hu _ _ ⟨h,rfl,rfl⟩
  ·rw [if_neg (by omega)]
   exact⟨by omega,fun t ht=>ka 0 (if_neg h) t _ ag (av ht)⟩
 intro Ω ω;rintro _ _ ⟨heq,rfl,rfl⟩;refine ω _ _ ?_;refine bo (fun σ H'=>σ=[some (.ref a),some (.ref b),some (.ref q),some (.int 1),none,none,none,none]∧H=H') ?_ ?_
 ·intro u' hu
  walk_at "rd";exact hu _ _ ⟨rfl,rfl⟩
 intro Ω ω;rintro _ _ ⟨rfl,rfl⟩;refine ω _ _ ?_;refine bo (fun σ H'=>∃o4 o5,tI bs cs 0=none∧σ=[some (.ref a),some (.ref b),some (.ref q),some (.int (jt (bL bs cs))),o4,o5,none,none]∧au H H') ?_ ?_
 ·intro u' hu
  walk_at "rd";refine⟨a,b,bs,cs,rfl,hr1,hr2,heq,okb.2.1,fun q2 H1 hq2 s1=>?_⟩;obtain⟨ts,hts,htl,htc⟩:=hq2
  have hml:(bL bs cs).length=bs.length:=by unfold bL;rw [ae2,←heq,ah2]
  obtain⟨Pv,hPv⟩:∃Pv:Nat→L2.St→Hp→Prop,Pv=fun i σ H'=>∃o4 o5,tI bs cs 0=tI (bs.drop i) (cs.drop i) i∧(∀m∈(bL bs cs).take i,(cI m).natAbs < 2 ^ 60)∧σ=[some (.ref a),some (.ref b),some (.ref q),some (.int (jt ((bL bs cs).take i))),o4,o5,none,none]∧au H1 H':=⟨_,rfl⟩;refine⟨q2,rfl,true,⟨_,hts⟩,gE (l:=true) (us:=ts.map V.ref) Pv (by rw [hPv];exact⟨none,none,rfl,fun m hm=>(by simp at hm),rfl,au.refl _⟩) (fun i σ H' _ h=>by rw [hPv]at h;obtain⟨_,_,_,_,_,h⟩:=h;exact h.seq hts) ?_ ?_⟩
  ·rintro i y σ H2 p hx hI hp0
   rw [hPv]at hI;obtain⟨o4,o5,hap,hwm,rfl,s2⟩:=hI;have b4:=okb.2.1
   have hi:i < bs.length:=by have:=(aa2.mp hx).1;rw [aa0]at this;omega
   have hi2:i < cs.length:=by omega
   have t1:ts[i]?=some ts[i]:=aa1 (by omega);rw [aa8,t1]at hx;cases hx;rw [rm hi hi2]at hap;have s3:au H1 (upd H2 p (.tup [.int i,.ref ts[i]])):=s2.upd hp0;have hp3:(upd H2 p (.tup [.int i,.ref ts[i]])) p=some (.tup [.int i,.ref ts[i]]):=ag;generalize upd H2 p (.tup [.int i,.ref ts[i]])=H3 at s3 hp3;have x1:=s3.tup (htc i _ _ t1 (iM hi hi2));have j1:∀m:Int×Int,fm [V.int m.1,V.int m.2] ((1:Nat):Int)=some (.int m.2):=fun m=>aO rfl
   have ew:jt ((bL bs cs).take (i+1))=jt ((bL bs cs).take i) * ((dA bs[i] cs[i]).2 - (dA bs[i] cs[i]).1+1):=by
    rw [pC hi hi2];unfold jt;rw [ae9];rfl
   walk_at "rd";refine⟨_,cD.of hp3,rfl,?_⟩;walk_at "rd";refine dN x1 (bw rfl) (dN x1 (j1 _) ?_);walk_at "rd"
   by_cases h:(dA bs[i] cs[i]).2 < (dA bs[i] cs[i]).1
   ·rw [if_pos h]
    rw [if_pos h]at hap;refine⟨by omega,fun t ht=>ka (i+1) ?_ t _ ag ((s1.trans s3).upd ht)⟩;unfold eC;rw [if_pos heq,hap]
   ·rw [if_neg h]
    rw [if_neg h]at hap;refine dN x1 (j1 _) (dN x1 (bw rfl) ?_);walk_at "rd";have hw:=zK h (okb.2.2 _ (ac8 hi)).2.1;refine⟨t5 (u5 (bs:=(bL bs cs).take i) ?_) (tq hw) (by rw [ac6];omega),?_⟩
    ·exact fun m hm=>tq (hwm m hm)
    rw [hPv];refine⟨_,_,hap,fun m hm=>?_,by rw [ew],s3⟩;rw [pC hi hi2]at hm;rcases ac1.mp hm with hm | hm
    ·exact hwm m hm
    ·rw [ad3.mp hm]
     exact hw
  ·intro σ H2 hI
   rw [hPv]at hI;obtain⟨o4,o5,hap,_,rfl,s2⟩:=hI;rw [aa0,htl,hml,ag1,heq,ag1]at hap;refine hu _ _ ⟨o4,o5,hap,?_,s1.trans s2⟩;rw [aa0,htl,ad0]
 intro Ω ω;rintro _ H1 ⟨o4,o5,hap,rfl,s1⟩
 have e1:eC bs cs Rs=if 12 < Rs.length then .crowded Rs.length else if 400 < eD (bL bs cs) Rs then .wide (eD (bL bs cs) Rs)else .ok:=by
  unfold eC;rw [if_pos heq,hap]
 have hq1:=aT.of (K:=K) (s1 _ _ hrs);refine ω _ _ ?_;refine bo (fun σ H'=>¬12 < Rs.length∧σ=[some (.ref a),some (.ref b),some (.ref q),some (.int (jt (bL bs cs))),o4,o5,none,none]∧H1=H') ?_ ?_
 ·intro u' hu
  refine gD fun A0 B0 hA hB=>?_;walk_at "rd";refine⟨_,.inl hq1,?_⟩;rw [aa0,hrl]
  by_cases h:12 < Rs.length
  ·rw [if_pos (by omega)]
   refine hA _ ?_;walk_at "rd";refine⟨_,.inl hq1,?_⟩;rw [aa0,hrl];exact⟨by omega,fun t ht=>kc _ (by rw [e1,if_pos h]) t _ ag (s1.upd ht)⟩
  ·rw [if_neg (by omega)]
   exact hB _ (hu _ _ ⟨h,rfl,rfl⟩)
 intro Ω ω;rintro _ _ ⟨h12,rfl,rfl⟩;rw [if_neg h12]at e1;refine ω _ _ ?_;refine bo (fun σ H'=>∃o6 o7,σ=[some (.ref a),some (.ref b),some (.ref q),some (.int (eD (bL bs cs) Rs)),o4,o5,o6,o7]∧H1=H') ?_ ?_
 ·intro u' hu
  walk_at "rd";refine bZ hq1 (dU (xs:=rs.map V.ref) (fun i σ H'=>∃o6 o7,σ=[some (.ref a),some (.ref b),some (.ref q),some (.int ((Rs.take i).foldl (fun t R=>t * fP R) (jt (bL bs cs)))),o4,o5,o6,o7]∧H1=H') ⟨none,none,rfl,rfl⟩ (fun i σ H' _ z=>by obtain⟨_,_,_,z⟩:=z;exact z▸hq1) ?_ ?_)
  ·rintro i y σ H2 hy ⟨o6,o7,rfl,rfl⟩
   rw [aa8]at hy
   cases ht:rs[i]? with
   | none=>rw [ht]at hy;cases hy
   | some r=>
    rw [ht]at hy;cases hy
    have hi:i < Rs.length:=by rw [←hrl];exact(aa2.mp ht).1
    have hb:Rs[i]?=some Rs[i]:=aa1 hi;walk_at "rd";refine⟨_,cD.of (s1 _ _ (hrc i r _ ht hb)),rfl,?_⟩;walk_at "rd";rw [ac5,hb,ae9];have hw:=hsz _ (ac8 hi);have hpr:=qG fP (Rs.take i) (jt (bL bs cs)) _ (u5 fun m hm=>tq (pS bs cs 0 hap (fun b hb=>(okb.2.2 b hb).2.1) m hm).2) fun R hR=>tq (hsz R (List.mem_of_mem_take hR))
    have hml:(bL bs cs).length≤4:=by unfold bL;rw [ae2];have:=okb.2.1;omega
    exact⟨t5 hpr (tq hw) (by rw [ac6];omega),rfl⟩
  ·rintro σ H2 ⟨o6,o7,rfl,rfl⟩
   refine hu _ _ ⟨o6,o7,?_,rfl⟩;rw [aa0,hrl,ad0];rfl
 intro Ω ω;rintro _ _ ⟨o6,o7,rfl,rfl⟩;refine ω _ _ ?_;walk_at "rd"
 by_cases h:400 < eD (bL bs cs) Rs
 ·rw [if_pos h]
  exact⟨by omega,fun t ht=>kw _ (by rw [e1,if_pos h]) t _ ag (s1.upd ht)⟩
 ·rw [if_neg h]
  exact kq (by rw [e1,if_neg h]) _ s1
end
def g4(K:Frag)(H:Hp)(v:V)(o:Option (Int×Int)):Prop:=(o=none∧v=.non)∨∃t p,o=some p∧v=.ref t∧cD K H t [.int p.1,.int p.2]
theorem g4.same{K:Frag}{H H':Hp}{v:V}{o:Option (Int×Int)}(s:au H H')(h:g4 K H v o):g4 K H' v o:=h.imp id fun⟨t,p,h1,h2,h3⟩=>⟨t,p,h1,h2,s.tup h3⟩
def eA(nv m:Int)(p:Int×Int):Int×Int:=if nv≤p.2 then(p.1,p.2+m)else p
def vt(a b:Option (Int×Int)):Option (Int×Int):=match a,b with
 | none,b=>b
 | some a,none=>some a
 | some a,some b=>if n8 b a=true then some b else some a
def lj(K:Frag):Sp:=fun vs H Q _=>∃(v1 v2:V) (o1 o2:Option (Int×Int)) (nv m:Int),vs=[v1,v2,.int nv,.int m]∧g4 K H v1 o1∧g4 K H v2 o2∧∀v H',g4 K H' v (vt o1 (o2.map (eA nv m)))→au H H'→Q v H'
section
variable {P:Program} {w:World} {K:Frag} {mg:Str→Option Value} {base:Heap} {aM:Addr}
theorem ud{f:Addr}{fd:FuncData}(F:cT K "_law_earlier" "_law_earlier" gj f fd)(T:Txt mg aM):aH P w K mg base cb 1 f fd ["_law_one","_law_other","_law_voices","_law_many"] (lj K):=by
 refine F.ok sc_law_earlier (fun vs H Q E h=>?_) (fun cdv A outer s H vs Q E hr h=>?_)
 ·obtain⟨v1,v2,o1,o2,nv,m,rfl,_⟩:=h
  rfl
 obtain⟨v1,v2,o1,o2,nv,m,rfl,h1,h2,k⟩:=h
 refine⟨_,(ai (br (PW.pt (ik (bp (az jO (pr 1) aR (aE _))) (gI (bp (az (o0 yP) (aU (bJ K) (pr 1) aj (fun _ _=>rfl)) (pr 2) (aE _)))))) (ao (aD (i:=1) sc_law_earlier.nd rfl (Or.inl rfl) (cH (af (aU (bJ K) (pr 1) aj (fun _ _=>rfl)) (af (aw (bq K) (aU (bJ K) (pr 1) aj (fun _ _=>rfl)) (pr 3)) ah))))) aJ)
 (ai (br (PW.pt (de (bp (az fc (pr 0) aR (aE _))) (cM (PW.pt (ik (bp (az jO (pr 1) aR (aE _))) (gI (bp (az (D3 K hr) (pr 1) (pr 0) (aE _))))))))) (ao (ax (pr 1))) aJ)
 (ao (ax (pr 0))))),?_⟩
 have hs:sizeLine=16777216:=sizeLine_eq;refine bo (fun σ H'=>∃v,g4 K H' v (o2.map (eA nv m))∧σ=[some v1,some v,some (.int nv),some (.int m)]∧au H H') ?_ ?_
 ·intro u' hu
  rcases h2 with⟨rfl,rfl⟩ | ⟨t,p,rfl,rfl,ht⟩
  ·walk_at "rd"
   exact hu _ _ ⟨.non,.inl ⟨rfl,rfl⟩,rfl,au.refl _⟩
  ·walk_at "rd"
   refine dN ht (show fm _ ((1:Nat):Int)=_ from aO rfl) ?_;walk_at "rd"
   by_cases h:nv≤p.2
   ·rw [if_pos h]
    refine dN ht (bw rfl) (dN ht (show fm _ ((1:Nat):Int)=_ from aO rfl) ?_);walk_at "rd";exact⟨by omega,fun t' ht'=>hu _ _ ⟨.ref t',.inr ⟨t',(p.1,p.2+m),by rw [af3,show eA nv m p=(p.1,p.2+m)from if_pos h],rfl,cD.of ag⟩,rfl,av ht'⟩⟩
   ·rw [if_neg h]
    exact hu _ _ ⟨.ref t,.inr ⟨t,p,by rw [af3,show eA nv m p=p from if_neg h],rfl,ht⟩,rfl,au.refl _⟩
 intro Ω ω;rintro _ H1 ⟨v,hv,rfl,s1⟩;generalize o2.map (eA nv m)=o at hv k;refine ω _ _ ?_;rcases h1.same s1 with⟨rfl,rfl⟩ | ⟨t,p,rfl,rfl,ht⟩
 ·walk_at "rd"
  exact k v _ hv s1
 rcases hv with⟨rfl,rfl⟩ | ⟨t',p',rfl,rfl,ht'⟩
 ·walk_at "rd"
  exact k _ _ (.inr ⟨t,p,rfl,rfl,ht⟩) s1
 walk_at "rd";have el:HT.lexLt [p'.1,p'.2] [p.1,p.2]=n8 p' p:=pz _ _ _ _;refine⟨t',t,[p'.1,p'.2],[p.1,p.2],rfl,rfl,ht',ht,_,rfl,?_⟩;rw [el]
 by_cases h:n8 p' p=true
 ·rw [if_pos h]
  exact k _ _ (.inr ⟨t',p',if_pos h,rfl,ht'⟩) s1
 ·rw [if_neg h]
  exact k _ _ (.inr ⟨t,p,if_neg h,rfl,ht⟩) s1
end
def mC(K:Frag):Sp:=fun vs H Q _=>∃(a q:Addr) (bs:List (Int×Int)) (Rs:List aQ),vs=[.ref a,.ref q]∧bu K H a bs∧cL K H q Rs∧bs.length≤10∧Rs.length≤30∧(∀b∈bs,b.1.natAbs < 10 ^ 40∧b.2.natAbs < 10 ^ 40)∧(∀R∈Rs,(bN R).length≤20000)∧∀H',au H H'→Q (.str (fQ bs Rs)) H'
section
variable {P:Program} {w:World} {K:Frag} {mg:Str→Option Value} {base:Heap} {aM:Addr}
theorem yN{f:Addr}{fd:FuncData}(F:cT K "_law_text" "_law_text" jk f fd)(T:Txt mg aM):aH P w K mg base cb 1 f fd ["_law_ranges_here","_law_rules_here"] (mC K):=by
 refine F.ok sc_law_text (fun vs H Q E h=>?_) (fun cdv A outer s H vs Q E hr h=>?_)
 ·obtain⟨a,q,bs,Rs,rfl,_⟩:=h
  rfl
 obtain⟨a,q,bs,Rs,rfl,⟨ts,hts,htl,htc⟩,⟨rs,hrs,hrl,hrc⟩,lb,lr,hb,hR,k⟩:=h
 refine⟨_,(ai (jd (i:=2) sc_law_text.nd rfl (Or.inl rfl) (own:=["_law_low","_law_high"]) (js:=[]) rfl (bX K (pr 0)) (bG.of (by rfl)) (fun _ _ _ _ _=>(cg K (n:=2) rfl (aL (aF (i:=0) (show List.Nodup (["_law_low","_law_high"]:List Str)from by decide +kernel) rfl (Or.inl rfl)) (aL (aF (i:=1) (show List.Nodup (["_law_low","_law_high"]:List Str)from by decide +kernel) rfl (Or.inl rfl)) cj)))) (fun _ _ _ _ _=>dE) (fun _ _ _ _ _=>(aw (bq K) (aw (bq K) (aw (bq K) aZ (aW (cN) (by rfl) T.n_str boot_str (af (pr 0) ah))) aZ) (aW (cN) (by rfl) T.n_str boot_str (af (pr 1) ah)))) rfl)
 (ai (bY (cG K PySem.F.plainAttrs_list PySem.F.slot_list_extend PySem.F.type_list_extend kF (pr 2) (af (eu (own:=["_law_row","_law_size"]) (js:=[]) rfl (bX K (pr 1)) (bG.of (by rfl)) (fun _ _ _ _ _=>(cg K (n:=2) rfl (aL (aF (i:=0) (show List.Nodup (["_law_row","_law_size"]:List Str)from by decide +kernel) rfl (Or.inl rfl)) (aL (aF (i:=1) (show List.Nodup (["_law_row","_law_size"]:List Str)from by decide +kernel) rfl (Or.inl rfl)) cj)))) (fun _ _ _ _ _=>dE) (fun _ _ _ _ _=>(pr 0))) ah)))
 (ao (ax (cG K PySem.F.plainAttrs_str PySem.F.slot_str_join PySem.F.type_str_join (sg K) aZ (af (pr 2) ah)))))),?_⟩
 have hs:sizeLine=16777216:=sizeLine_eq;refine bo (fun σ H'=>∃p:Addr,H p=none∧H' p=some (.lst ((bs.map lF).map V.str))∧σ=[some (.ref a),some (.ref q),some (.ref p)]∧au H H') ?_ ?_
 ·intro u' hu
  walk_at "rd";refine bZ hts (cU (xs:=ts.map V.ref) (fun i ys H'=>ys=((bs.take i).map lF).map V.str∧H=H') (by rw [aa0];omega) ⟨rfl,rfl⟩ ?_ ?_ ?_ ?_)
  ·rintro i ys H' ⟨rfl,rfl⟩
   rw [aa0,aa0,ac6];omega
  ·rintro i ys H' ⟨rfl,rfl⟩
   exact hts
  ·rintro i y ys H' hy ⟨rfl,rfl⟩
   rw [aa8]at hy
   cases ht:ts[i]? with
   | none=>rw [ht]at hy;cases hy
   | some t=>
    rw [ht]at hy;cases hy
    have hi:i < bs.length:=by rw [←htl];exact(aa2.mp ht).1
    have hbi:bs[i]?=some bs[i]:=aa1 hi;walk_at "rd";refine⟨_,htc i t _ ht hbi,rfl,?_⟩;walk_at "rd";obtain⟨n1,n2⟩:=hb _ (ac8 hi)
    have e1:(Str.ofString "voice ").length=6:=by decide +kernel
    have e2:(Str.ofString " ").length=1:=by decide +kernel
    have:=dq n1
    have:=dq n2
    refine⟨dD n1,by omega,by rw [cf];omega,dD n2,by rw [cf,cf];omega,?_⟩;rw [ac5,hbi,ab7,ab7];rfl
  ·rintro ys H' ⟨rfl,rfl⟩ p hp
   rw [aa0,htl,ad0];exact hu _ _ ⟨p,hp,ag,rfl,av hp⟩
 intro Ω ω;rintro _ H1 ⟨p,hp0,hp1,rfl,s1⟩;refine ω _ _ ?_;refine bo (fun σ H'=>H' p=some (.lst ((dQ bs Rs).map V.str))∧σ=[some (.ref a),some (.ref q),some (.ref p)]∧au H H') ?_ ?_
 ·intro u' hu
  have hq1:=aT.of (K:=K) (s1 _ _ hrs);walk_at "rd";refine⟨.inl ⟨rfl,_,aT.of hp1⟩,bZ hq1 (cU (xs:=rs.map V.ref) (fun i ys H'=>ys=((Rs.take i).map bN).map V.str∧H1=H') (by rw [aa0];omega) ⟨rfl,rfl⟩ ?_ ?_ ?_ ?_)⟩
  ·rintro i ys H' ⟨rfl,rfl⟩
   rw [aa0,aa0,ac6];omega
  ·rintro i ys H' ⟨rfl,rfl⟩
   exact hq1
  ·rintro i y ys H' hy ⟨rfl,rfl⟩
   rw [aa8]at hy
   cases ht:rs[i]? with
   | none=>rw [ht]at hy;cases hy
   | some r=>
    rw [ht]at hy;cases hy
    have hi:i < Rs.length:=by rw [←hrl];exact(aa2.mp ht).1
    have hRi:Rs[i]?=some Rs[i]:=aa1 hi;walk_at "rd";refine⟨_,cD.of (s1 _ _ (hrc i r _ ht hRi)),rfl,?_⟩;walk_at "rd";rw [ac5,hRi,ab7,ab7];rfl
  ·rintro ys H' ⟨rfl,rfl⟩ p2 hp2
   rw [aa0,hrl,ad0];have pq:p≠p2:=ar hp1 hp2;refine⟨p,p2,_,_,rfl,rfl,by rw [ak pq];exact hp1,ag,by simp;omega,hu _ _ ⟨?_,rfl,BU hp0 (s1.upd hp2)⟩⟩;rw [ag];unfold dQ;rw [ab7]
 intro Ω ω;rintro _ H2 ⟨hp2,rfl,s2⟩;refine ω _ _ ?_;walk_at "rd";refine⟨dQ bs Rs,aT.of hp2,?_,k _ s2⟩
 have hl:∀z∈dQ bs Rs,z.length≤20000:=fun z hz=>by
  rcases ac1.mp hz with hz | hz
  ·obtain⟨b,hb',rfl⟩:=ac7.mp hz
   have:=tu (hb b hb').1 (hb b hb').2
   omega
  ·obtain⟨R,hR',rfl⟩:=ac7.mp hz
   exact hR R hR'
 have h1:=StrLaws.sumLen_le (B:=20000) (dQ bs Rs) hl
 have e1:(Str.ofString "\n").length=1:=by decide +kernel
 have l16:(dQ bs Rs).length≤40:=by
  unfold dQ;rw [ab4,aa0,aa0];omega
 rw [e1]
 have:=Nat.mul_le_mul_right 20000 l16
 omega
end
theorem B7{a b:Str}{m n:Nat}(ha:a.length≤m)(hb:b.length≤n):(a++b).length≤m+n:=by rw [cf];exact Nat.add_le_add ha hb
local macro_rules | `(tactic| walk_at "ln") => `(tactic| ((try simp only [← cf]); apply Nat.le_trans; (focus (repeat' first | with_reducible assumption | exact Nat.le_of_eq (by with_reducible assumption) | apply B7)); decide))
theorem n40:(10:Nat) ^ 40=10000000000000000000000000000000000000000:=by decide +kernel
def tl(ws:List (List Nat)):List Nat:=(ws.map (32::·)).flatten
theorem uV(a b:List (List Nat)):tl (a++b)=tl a++tl b:=by
 unfold tl;rw [ab7,List.flatten_append]
def g5(z:Str)(ws:List Str):Prop:=z.cps.toList=tl (ws.map fun y=>y.cps.toList)
def dS(z k:Str)(ws:List Str):Prop:=z.cps.toList=k.cps.toList++tl (ws.map fun y=>y.cps.toList)
theorem dS.app{z k y:Str}{ws us:List Str}(h:dS z k ws)(g:g5 y us):dS (z++y) k (ws++us):=by
 unfold dS g5 at *;rw [bD,h,g,ab7,uV,af8]
theorem dS.start(k:Str):dS k k []:=by
 unfold dS;simp [tl]
theorem g5.app{z y:Str}{ws us:List Str}(h:g5 z ws)(g:g5 y us):g5 (z++y) (ws++us):=by
 unfold g5 at *;rw [bD,h,g,ab7,uV]
theorem nQ(n:Int):g5 (Str.ofString " " ++ aG n) [aG n]:=by
 unfold g5;rw [bD,show(Str.ofString " ").cps.toList=[32]by decide +kernel];simp [tl]
theorem dS.num{z k:Str}{ws:List Str}(h:dS z k ws)(n:Int):dS (z++Str.ofString " " ++ aG n) k (ws++[aG n]):=by
 have:=h.app (nQ n)
 unfold dS at *;rw [←this,bD,bD,bD,bD,af8]
theorem dS.num0{z k:Str}{ws:List Str}(h:dS z k ws)(n:Int):dS (z++Str.ofString " 0 " ++ aG n) k (ws++[aG 0,aG n]):=by
 unfold dS at *;rw [bD,bD,h,show(Str.ofString " 0 ").cps.toList=32::(aG 0).cps.toList++[32]by decide +kernel,ab7,uV];simp [tl]
theorem yd(n:Int):dS (Str.ofString "every " ++ aG n) (Str.ofString "every") [aG n]:=by
 unfold dS;rw [bD,show(Str.ofString "every ").cps.toList=(Str.ofString "every").cps.toList++[32]by decide +kernel];simp [tl]
theorem zh{z k:Str}{ws:List Str}(h:dS z k ws):Txt.join (Str.ofString " ") (k::ws)=z:=by
 refine str_iff.mpr ?_;rw [show Str.ofString " "=⟨#[32]⟩by decide +kernel,dJ,show z.cps.toList=_ from h];rfl
def uI:Sp:=fun vs H Q _=>∃(c:Int) (nv:Nat),vs=[.int c,.int nv]∧0≤c∧1≤nv∧nv≤4∧∀t R H',H' t=some (.tup [.str (bN R),.int (fP R)])→mP nv R→t7 R→1≤fP R→fP R≤3→au H H'→Q (.ref t) H'
section
variable {P:Program} {w:World} {K:Frag} {mg:Str→Option Value} {base:Heap} {aM:Addr}
def Dr(n:Int):Prop:=n.natAbs < 10 ^ 40
theorem AI{f:Addr}{fd:FuncData}(F:cT K "_law_rule" "_law_rule" jj f fd)(T:Txt mg aM):aH P w K mg base cb 1 f fd ["_law_cell","_law_voices"] uI:=by
 refine F.ok sc_law_rule (fun vs H Q E h=>?_) (fun cdv A outer s H vs Q E hr h=>?_)
 ·obtain⟨c,nv,rfl,_⟩:=h
  rfl
 obtain⟨c,nv,rfl,c0,n1,n4,k⟩:=h
 refine⟨_,(ai (aD (i:=2) sc_law_rule.nd rfl (Or.inl rfl) (aw (bq K) aZ (aW (cN) (by rfl) T.n_str boot_str (af (aw (bq K) aj (aw (o1 cE) (aw (o1 du) (pr 0) aj) (pr 1))) ah))))
 (ai (aD (i:=3) sc_law_rule.nd rfl (Or.inl rfl) (aw (bq K) aZ (aW (cN) (by rfl) T.n_str boot_str (af (aw (bq K) aj (aw (o1 cE) (aw (o1 du) (pr 0) aj) (pr 1))) ah))))
 (ai (aD (i:=4) sc_law_rule.nd rfl (Or.inl rfl) (aw (o1 cE) (aw (o1 du) (pr 0) aj) aj))
 (ai (aD (i:=5) sc_law_rule.nd rfl (Or.inl rfl) (aw (bq K) (aw (bq K) (aw (bq K) (aw (bq K) aZ (aW (cN) (by rfl) T.n_str boot_str (af (aw (o0 dZ) (aw (o1 cE) (aw (o1 du) (pr 0) aj) aj) aj) ah))) aZ) (aW (cN) (by rfl) T.n_str boot_str (af (aw (o0 dZ) (aw (o1 cE) (aw (o1 du) (pr 0) aj) aj) aj) ah))) aZ))
 (ai (aD (i:=6) sc_law_rule.nd rfl (Or.inl rfl) (aw (o1 cE) (pr 0) aj))
 (ai (br (bp (az sr (pr 6) aj (aE _))) (ao (ax (cH (af (aw (bq K) (aw (bq K) (aw (bq K) aZ (pr 2)) aZ) (aW (cN) (by rfl) T.n_str boot_str (af (pr 4) ah))) (af aj ah))))) aJ)
 (ai (br (bp (az sr (pr 6) aj (aE _))) (ao (ax (cH (af (aw (bq K) (aw (bq K) (aw (bq K) aZ (pr 2)) aZ) (aW (cN) (by rfl) T.n_str boot_str (af (aw (bq K) aj (pr 4)) ah))) (af (aw (bq K) aj (pr 4)) ah))))) aJ)
 (ai (br (bp (az sr (pr 6) aj (aE _))) (ao (ax (cH (af (aw (bq K) (aw (bq K) (aw (bq K) (aw (bq K) (aw (bq K) aZ (pr 2)) aZ) (aW (cN) (by rfl) T.n_str boot_str (af (aw (o0 dZ) (aw (o1 cE) (aw (o1 du) (pr 0) aj) aj) aj) ah))) aZ) (aW (cN) (by rfl) T.n_str boot_str (af (pr 4) ah))) (af (aw (bq K) (pr 4) aj) ah))))) aJ)
 (ai (br (bp (az sr (pr 6) aj (aE _))) (ao (ax (cH (af (aw (bq K) (aw (bq K) (aw (bq K) (aw (bq K) (aw (bq K) (aw (bq K) (aw (bq K) aZ (aW (cN) (by rfl) T.n_str boot_str (af (aw (bq K) aj (pr 4)) ah))) aZ) (aW (cN) (by rfl) T.n_str boot_str (af (pr 4) ah))) aZ) (pr 2)) (pr 3)) (pr 5)) (af (aw (bq K) aj (pr 4)) ah))))) aJ)
 (ai (aD (i:=7) sc_law_rule.nd rfl (Or.inl rfl) (d0 (af (aw (bq K) aZ (pr 2)) (af (aw (bq K) (aw (bq K) aZ (pr 2)) (pr 3)) (af (aw (bq K) (aw (bq K) aZ (pr 2)) (pr 3)) (af (aw (bq K) (aw (bq K) (aw (bq K) aZ (pr 2)) (pr 3)) aZ) ah))))))
 (ao (ax (cH (af (aw (bq K) (aU (bJ K) (pr 7) (aw (o0 dZ) (pr 6) aj) (fun _ _=>rfl)) (pr 5)) (af aj ah))))))))))))))),?_⟩
 have hs:sizeLine=16777216:=sizeLine_eq;have e40:=n40
 have o1:(Str.ofString " ").length=1:=by decide +kernel
 refine bo (fun σ H'=>∃a:Int,1≤a∧a≤nv∧σ=[some (.int c),some (.int nv),some (.str (Str.ofString " " ++ aG a)),none,none,none,none,none]∧H=H') ?_ ?_
 ·intro u' hu
  walk_at "rd";have y0:=ai9 (c / 8) (show(nv:Int)≠0 by omega);have y1:=ah5 (c / 8) (show 0 < (nv:Int)by omega)
  have hb:(1+c / 8 % nv).natAbs < 10 ^ 40:=by omega
  have:=dq hb
  exact⟨⟨by decide,by decide⟩,by omega,dD hb,by omega,hu _ _ ⟨_,by omega,by omega,rfl,rfl⟩⟩
 intro Ω ω;rintro _ _ ⟨a,a1,a2,rfl,rfl⟩;refine ω _ _ ?_;refine bo (fun σ H'=>∃b:Int,1≤b∧b≤nv∧σ=[some (.int c),some (.int nv),some (.str (Str.ofString " " ++ aG a)),some (.str (Str.ofString " " ++ aG b)),none,none,none,none]∧H=H') ?_ ?_
 ·intro u' hu
  walk_at "rd";have y0:=ai9 (c / 24) (show(nv:Int)≠0 by omega);have y1:=ah5 (c / 24) (show 0 < (nv:Int)by omega)
  have hb:(1+c / 24 % nv).natAbs < 10 ^ 40:=by omega
  have:=dq hb
  exact⟨⟨by decide,by decide⟩,by omega,dD hb,by omega,hu _ _ ⟨_,by omega,by omega,rfl,rfl⟩⟩
 intro Ω ω;rintro _ _ ⟨b,b1,b2,rfl,rfl⟩;refine ω _ _ ?_;refine bo (fun σ H'=>∃m:Int,0≤m∧m≤2∧σ=[some (.int c),some (.int nv),some (.str (Str.ofString " " ++ aG a)),some (.str (Str.ofString " " ++ aG b)),some (.int m),none,none,none]∧H=H') ?_ ?_
 ·intro u' hu
  walk_at "rd";exact⟨⟨by decide,by decide⟩,by decide,hu _ _ ⟨_,by omega,by omega,rfl,rfl⟩⟩
 intro Ω ω;rintro _ _ ⟨m,m0,m2,rfl,rfl⟩;refine ω _ _ ?_;refine bo (fun σ H'=>∃(z:Str) (s1 s2:Int),g5 z ([s1,s2,0,1].map aG)∧s1.natAbs < 10 ^ 40∧s2.natAbs < 10 ^ 40∧z.length≤200∧σ=[some (.int c),some (.int nv),some (.str (Str.ofString " " ++ aG a)),some (.str (Str.ofString " " ++ aG b)),some (.int m),some (.str z),none,none]∧H=H') ?_ ?_
 ·intro u' hu
  walk_at "rd"
  have t01:g5 (Str.ofString " 0 1") ([0,1].map aG):=by unfold g5;decide +kernel
  have l01:(Str.ofString " 0 1").length=4:=by decide +kernel
  have h1:(c / 216 % 5 - 2).natAbs < 10 ^ 40:=by omega
  have h2:(c / 1080 % 5 - 2).natAbs < 10 ^ 40:=by omega
  generalize c / 216 % 5 - 2=s1 at h1;generalize c / 1080 % 5 - 2=s2 at h2;have q1:=dq h1;have q2:=dq h2
  have tt:g5 (Str.ofString " " ++ aG s1++Str.ofString " " ++ aG s2++Str.ofString " 0 1") ([s1,s2,0,1].map aG):=by
   have:=((nQ s1).app (nQ s2)).app t01
   unfold g5 at this ⊢;rw [show([s1,s2,0,1].map aG)=[aG s1]++[aG s2]++[0,1].map aG from rfl,←this,bD,bD,bD,bD,bD,bD,bD,bD];simp only [af8]
  exact⟨⟨by decide,by decide⟩,by decide,dD h1,(by walk_at "ln"),(by walk_at "ln"),⟨by decide,by decide⟩,by decide,dD h2,(by walk_at "ln"),(by walk_at "ln"),hu _ _ ⟨_,s1,s2,tt,h1,h2,(by walk_at "ln"),rfl,rfl⟩⟩
 intro Ω ω;rintro _ _ ⟨z,s1,s2,tz,h1,h2,lz,rfl,rfl⟩;refine ω _ _ ?_;refine bo (fun σ H'=>∃kd:Int,0≤kd∧kd < 8∧σ=[some (.int c),some (.int nv),some (.str (Str.ofString " " ++ aG a)),some (.str (Str.ofString " " ++ aG b)),some (.int m),some (.str z),some (.int kd),none]∧H=H') ?_ ?_
 ·intro u' hu
  walk_at "rd";exact⟨by decide,hu _ _ ⟨_,by omega,by omega,rfl,rfl⟩⟩
 intro Ω ω;rintro _ _ ⟨kd,kd0,kd8,rfl,rfl⟩;have ta:=nQ a;have tb:=nQ b
 have ha:a.natAbs < 10 ^ 40:=by omega
 have hb:b.natAbs < 10 ^ 40:=by omega
 have hm:m.natAbs < 10 ^ 40:=by omega
 have hm1:(1+m).natAbs < 10 ^ 40:=by omega
 have lm:=dq hm;have lm1:=dq hm1
 have la:(Str.ofString " " ++ aG a).length≤42:=by rw [cf];have:=dq ha;omega
 have lb:(Str.ofString " " ++ aG b).length≤42:=by rw [cf];have:=dq hb;omega
 have ea:a - 1+1=a:=by omega
 have eb:b - 1+1=b:=by omega
 replace h1:Dr s1:=h1;replace h2:Dr s2:=h2;replace ha:Dr a:=ha;replace hb:Dr b:=hb;replace hm:Dr m:=hm;replace hm1:Dr (1+m):=hm1;generalize Str.ofString " " ++ aG a=A1 at ta la;generalize Str.ofString " " ++ aG b=B1 at tb lb
 have D4:∀n∈[s1,s2,0,1],n.natAbs < 10 ^ 40:=fun n hn=>by
  rcases aa6.mp hn with rfl | hn
  ·exact h1
  rcases aa6.mp hn with rfl | hn
  ·exact h2
  rcases aa6.mp hn with rfl | hn
  ·decide
  rw [ad3.mp hn];decide
 have fin:∀(R:gs) (y:Str) (ws:List Int) (sz:Int) (t:Addr) (H':Hp),dS y (da R) (ws.map aG)→dM R=ws→rR nv R→(∀n∈ws,n.natAbs < 10 ^ 40)→se R→(xg R).size=sz→1≤sz→sz≤3→H' t=some (.tup [.str y,.int sz])→au H H'→Q (.ref t) H':=fun R y ws sz t H' hK hn hg hw hl hz z1 z3 ht s'=>by
  have e:bN (.plain R)=y:=by
   show Txt.join (Str.ofString " ") (da R::(dM R).map aG)=y;rw [hn];exact zh hK
  subst hz;exact k t (.plain R) H' (by rw [e];exact ht) hg ⟨by rw [hn];exact hw,hl⟩ z1 z3 s'
 refine ω _ _ ?_;refine bo (fun σ H'=>kd≠0∧σ=[some (.int c),some (.int nv),some (.str A1),some (.str B1),some (.int m),some (.str z),some (.int kd),none]∧H=H') ?_ ?_
 ·intro u' hu
  have lk:(Str.ofString "back").length=4:=by decide +kernel
  walk_at "rd"
  by_cases hk:kd=0
  rotate_left
  ·rw [if_neg hk]
   exact hu _ _ ⟨hk,rfl,rfl⟩
  rw [if_pos hk];refine⟨(by walk_at "ln"),(by walk_at "ln"),dD hm,(by walk_at "ln"),by omega,fun t ht=>?_⟩
  exact fin (.back (a - 1) m) _ [a,m] 3 t _ (show dS _ (Str.ofString "back") ([a,m].map aG)from((dS.start _).app ta).num m) (by show [a - 1+1,m]=_;rw [ea]) ⟨by omega,by omega,m0⟩ (fun n hn=>by rcases aa6.mp hn with rfl | hn;exact ha;rw [ad3.mp hn];exact hm) trivial rfl (by decide) (by decide) ag (av ht)
 intro Ω ω;rintro _ _ ⟨nk0,rfl,rfl⟩;refine ω _ _ ?_;refine bo (fun σ H'=>kd≠1∧σ=[some (.int c),some (.int nv),some (.str A1),some (.str B1),some (.int m),some (.str z),some (.int kd),none]∧H=H') ?_ ?_
 ·intro u' hu
  have lk:(Str.ofString "held").length=4:=by decide +kernel
  walk_at "rd"
  by_cases hk:kd=1
  rotate_left
  ·rw [if_neg hk]
   exact hu _ _ ⟨hk,rfl,rfl⟩
  rw [if_pos hk];refine⟨(by walk_at "ln"),(by walk_at "ln"),dD hm1,(by walk_at "ln"),by omega,fun t ht=>?_⟩
  exact fin (.held (a - 1) (1+m)) _ [a,1+m] (1+m) t _ (show dS _ (Str.ofString "held") ([a,1+m].map aG)from((dS.start _).app ta).num (1+m)) (by show [a - 1+1,1+m]=_;rw [ea]) ⟨by omega,by omega,by omega⟩ (fun n hn=>by rcases aa6.mp hn with rfl | hn;exact ha;rw [ad3.mp hn];exact hm1) trivial rfl (by omega) (by omega) ag (av ht)
 intro Ω ω;rintro _ _ ⟨nk1,rfl,rfl⟩;refine ω _ _ ?_;refine bo (fun σ H'=>kd≠2∧σ=[some (.int c),some (.int nv),some (.str A1),some (.str B1),some (.int m),some (.str z),some (.int kd),none]∧H=H') ?_ ?_
 ·intro u' hu
  have lk:(Str.ofString "times").length=5:=by decide +kernel
  have l0:(Str.ofString " 0 ").length=3:=by decide +kernel
  walk_at "rd"
  by_cases hk:kd=2
  rotate_left
  ·rw [if_neg hk]
   exact hu _ _ ⟨hk,rfl,rfl⟩
  rw [if_pos hk]
  have hx:(c / 216 % 41 - 20).natAbs < 10 ^ 40:=by omega
  generalize c / 216 % 41 - 20=x at hx;have lx:=dq hx;refine⟨(by walk_at "ln"),(by walk_at "ln"),⟨by decide,by decide⟩,by decide,dD hx,(by walk_at "ln"),(by walk_at "ln"),dD hm,(by walk_at "ln"),by omega,fun t ht=>?_⟩
  exact fin (.times (a - 1) x 0 m) _ [a,x,0,m] (m+1) t _ (show dS _ (Str.ofString "times") ([a,x,0,m].map aG)from(((dS.start _).app ta).num x).num0 m) (by show [a - 1+1,x,0,m]=_;rw [ea]) ⟨by omega,by omega,m0⟩ (fun n hn=>by rcases aa6.mp hn with rfl | hn;exact ha;rcases aa6.mp hn with rfl | hn;exact hx;rcases aa6.mp hn with rfl | hn;decide;rw [ad3.mp hn];exact hm) (show(0:Int)≤0 by decide) rfl (by omega) (by omega) ag (av ht)
 intro Ω ω;rintro _ _ ⟨nk2,rfl,rfl⟩;refine ω _ _ ?_;refine bo (fun σ H'=>kd≠3∧σ=[some (.int c),some (.int nv),some (.str A1),some (.str B1),some (.int m),some (.str z),some (.int kd),none]∧H=H') ?_ ?_
 ·intro u' hu
  have lk:(Str.ofString "every ").length=6:=by decide +kernel
  have lsp:(Str.ofString " span").length=5:=by decide +kernel
  have tsp:g5 (Str.ofString " span") [Str.ofString "span"]:=by unfold g5;decide +kernel
  walk_at "rd"
  by_cases hk:kd=3
  rotate_left
  ·rw [if_neg hk]
   exact hu _ _ ⟨hk,rfl,rfl⟩
  rw [if_pos hk];refine⟨dD hm1,(by walk_at "ln"),(by walk_at "ln"),dD hm,(by walk_at "ln"),(by walk_at "ln"),(by walk_at "ln"),(by walk_at "ln"),(by walk_at "ln"),by omega,fun t ht=>?_⟩;have e:bN (.every (1+m) m (.span (a - 1) (b - 1) [s1,s2,0,1]))=_:=zh (show dS _ (Str.ofString "every") (aG (1+m)::aG m::Str.ofString "span"::((a - 1+1)::(b - 1+1)::[s1,s2,0,1]).map aG)from by rw [ea,eb];exact(((((yd (1+m)).num m).app tsp).app ta).app tb).app tz);refine k t (.every (1+m) m (.span (a - 1) (b - 1) [s1,s2,0,1])) _ (by rw [e];exact ag) ⟨⟨by omega,by omega,by omega,by omega⟩,trivial,by omega,m0,by omega⟩ ⟨⟨fun n hn=>?_,show 1≤4 by decide,show 4≤12 by decide⟩,hm1,hm⟩ (show 1≤1+m by omega) (show 1+m≤3 by omega) (av ht);have hn:n∈(a - 1+1)::(b - 1+1)::[s1,s2,0,1]:=hn;rw [ea,eb]at hn;rcases aa6.mp hn with rfl | hn
  ·exact ha
  rcases aa6.mp hn with rfl | hn
  ·exact hb
  ·exact D4 n hn
 intro Ω ω;rintro _ _ ⟨nk3,rfl,rfl⟩
 have lmv:(Str.ofString "move").length=4:=by decide +kernel
 have lsp:(Str.ofString "span").length=4:=by decide +kernel
 have lal:(Str.ofString "alike").length=5:=by decide +kernel
 have lcl:(Str.ofString "clock").length=5:=by decide +kernel
 have l3:(Str.ofString " 3").length=2:=by decide +kernel
 have t3:g5 (Str.ofString " 3") [aG 3]:=by unfold g5;decide +kernel
 have m1:∀n∈a::[s1,s2,0,1],n.natAbs < 10 ^ 40:=fun n hn=>by
  rcases aa6.mp hn with rfl | hn
  ·exact ha
  ·exact D4 n hn
 have m2':∀n∈a::b::[s1,s2,0,1],n.natAbs < 10 ^ 40:=fun n hn=>by
  rcases aa6.mp hn with rfl | hn
  ·exact ha
  rcases aa6.mp hn with rfl | hn
  ·exact hb
  ·exact D4 n hn
 have m3:∀n∈a::b::3::[s1,s2,0,1],n.natAbs < 10 ^ 40:=fun n hn=>by
  rcases aa6.mp hn with rfl | hn
  ·exact ha
  rcases aa6.mp hn with rfl | hn
  ·exact hb
  rcases aa6.mp hn with rfl | hn
  ·decide
  ·exact D4 n hn
 refine ω _ _ ?_;walk_at "rd";refine⟨(by walk_at "ln"),(by walk_at "ln"),(by walk_at "ln"),(by walk_at "ln"),(by walk_at "ln"),(by walk_at "ln"),(by walk_at "ln"),(by walk_at "ln"),by omega,fun p hp=>?_⟩
 have h4:kd=4∨kd=5∨kd=6∨kd=7:=by omega
 rcases h4 with rfl | rfl | rfl | rfl
 ·refine bH (aT.of ag) (show fm _ ((0:Nat):Int)=_ from aO rfl) ?_
  walk_at "rd";refine⟨(by walk_at "ln"),by omega,fun t ht=>?_⟩;exact fin (.move (a - 1) [s1,s2,0,1]) _ (a::[s1,s2,0,1]) 1 t _ (show dS _ (Str.ofString "move") ((a::[s1,s2,0,1]).map aG)from((dS.start _).app ta).app tz) (by show(a - 1+1)::[s1,s2,0,1]=_;rw [ea]) ⟨by omega,by omega⟩ m1 ⟨show 1≤4 by decide,show 4≤12 by decide⟩ rfl (by decide) (by decide) ag ((av hp).upd ht)
 ·refine bH (aT.of ag) (show fm _ ((1:Nat):Int)=_ from aO rfl) ?_
  walk_at "rd";refine⟨(by walk_at "ln"),by omega,fun t ht=>?_⟩;exact fin (.span (a - 1) (b - 1) [s1,s2,0,1]) _ (a::b::[s1,s2,0,1]) 1 t _ (show dS _ (Str.ofString "span") ((a::b::[s1,s2,0,1]).map aG)from(((dS.start _).app ta).app tb).app tz) (by show(a - 1+1)::(b - 1+1)::[s1,s2,0,1]=_;rw [ea,eb]) ⟨by omega,by omega,by omega,by omega⟩ m2' ⟨show 1≤4 by decide,show 4≤12 by decide⟩ rfl (by decide) (by decide) ag ((av hp).upd ht)
 ·refine bH (aT.of ag) (show fm _ ((2:Nat):Int)=_ from aO rfl) ?_
  walk_at "rd";refine⟨(by walk_at "ln"),by omega,fun t ht=>?_⟩;exact fin (.alike (a - 1) (b - 1) [s1,s2,0,1]) _ (a::b::[s1,s2,0,1]) 1 t _ (show dS _ (Str.ofString "alike") ((a::b::[s1,s2,0,1]).map aG)from(((dS.start _).app ta).app tb).app tz) (by show(a - 1+1)::(b - 1+1)::[s1,s2,0,1]=_;rw [ea,eb]) ⟨by omega,by omega,by omega,by omega⟩ m2' ⟨show 1≤4 by decide,show 4≤12 by decide⟩ rfl (by decide) (by decide) ag ((av hp).upd ht)
 ·refine bH (aT.of ag) (show fm _ ((3:Nat):Int)=_ from aO rfl) ?_
  walk_at "rd";refine⟨(by walk_at "ln"),by omega,fun t ht=>?_⟩;exact fin (.clock (a - 1) (b - 1) 3 [s1,s2,0,1]) _ (a::b::3::[s1,s2,0,1]) 1 t _ (show dS _ (Str.ofString "clock") ((a::b::3::[s1,s2,0,1]).map aG)from((((dS.start _).app ta).app tb).app t3).app tz) (by show(a - 1+1)::(b - 1+1)::3::[s1,s2,0,1]=_;rw [ea,eb]) ⟨by omega,by omega,by omega,by omega,by decide⟩ m3 ⟨show 1≤4 by decide,show 4≤12 by decide⟩ rfl (by decide) (by decide) ag ((av hp).upd ht)
end
theorem cL.put{K:Frag}{H:Hp}{q t:Addr}{Rs:List aQ}{R:aQ}(h:cL K H q Rs)(ht:H t=some (.tup [.str (bN R),.int (fP R)])):∃xs:List V,H q=some (.lst xs)∧xs.length=Rs.length∧cL K (upd H q (.lst (xs++[.ref t]))) q (Rs++[R]):=by
 obtain⟨ps,h1,h2,h3⟩:=h;refine⟨ps.map V.ref,h1,by rw [aa0,h2],ps++[t],by rw [ag,ab7];rfl,by rw [ab4,ab4,h2];rfl,fun i p S e1 e2=>?_⟩
 by_cases hi:i < ps.length
 ·rw [ab3 hi]at e1
  rw [ab3 (by omega)]at e2
  have:=h3 i p S e1 e2
  rw [ak (ft this h1 (fun e=>by cases e))];exact this
 ·rw [ab0 (by omega)]at e1
  rw [ab0 (by omega)]at e2
  have ei:i=ps.length:=by
   have:=(aa2.mp e1).1
   simp at this;omega
  rw [ei,ad9]at e1;rw [ei,h2,ad9]at e2;cases e1;cases e2;rw [ak (ft ht h1 (fun e=>by cases e))];exact ht
def nL(K:Frag):Sp:=fun vs H Q _=>∃(l a:Addr) (ns:List Int) (bs:List (Int×Int)),vs=[.ref l,.ref a]∧aT K H l (ns.map V.int)∧(∀n∈ns,0≤n)∧ns.length≤12∧bu K H a bs∧lY bs∧0≤jt bs∧jt bs≤400∧∀q Rs H',H q=none→cL K H' q Rs→jN bs.length Rs→eD bs Rs≤400→au H H'→Q (.ref q) H'
section
variable {P:Program} {w:World} {K:Frag} {mg:Str→Option Value} {base:Heap} {aM:Addr}
theorem wZ{f:Addr}{fd:FuncData}(F:cT K "_law_rules" "_law_rules" iy f fd)(T:Txt mg aM)(D_law_rule:cJ P w K mg base "_law_rule" 1 ["_law_cell","_law_voices"] uI):aH P w K mg base cb 2 f fd ["_law_cells_here","_law_ranges_here"] (nL K):=by
 refine F.ok sc_law_rules (fun vs H Q E h=>?_) (fun cdv A outer s H vs Q E hr h=>?_)
 ·obtain⟨l,a,ns,bs,rfl,_⟩:=h
  rfl
 obtain⟨l,a,ns,bs,rfl,hl,hn0,hn12,⟨ts,hts,htl,htc⟩,okb,w0,w400,k⟩:=h
 refine⟨_,(ai (aD (i:=2) sc_law_rules.nd rfl (Or.inl rfl) aj)
 (ai (d3 PassesOwn.never rfl (bX K (pr 1)) (cg K (n:=2) rfl (aL (aF (i:=3) sc_law_rules.nd rfl (Or.inl rfl)) (aL (aF (i:=4) sc_law_rules.nd rfl (Or.inl rfl)) cj)))
 (ao (aD (i:=2) sc_law_rules.nd rfl (Or.inl rfl) (aw (lX K) (pr 2) (aw (bq K) (aw (o0 dZ) (pr 4) (pr 3)) aj)))))
 (ai (aD (i:=5) sc_law_rules.nd rfl (Or.inl rfl) (d0 ah))
 (ai (d3 PassesOwn.never rfl (bX K (pr 0)) (aF (i:=6) sc_law_rules.nd rfl (Or.inl rfl))
 (ai (nq (aC D_law_rule hr (by rfl) (af (pr 6) (af (aB (aP K) (by rfl) T.n_len boot_len (af (pr 1) ah)) ah))) (cg K (n:=2) rfl (aL (aF (i:=7) sc_law_rules.nd rfl (Or.inl rfl)) (aL (aF (i:=8) sc_law_rules.nd rfl (Or.inl rfl)) cj))))
 (ao (br (bp (az (o0 ib) (aw (lX K) (pr 2) (pr 8)) aj (aE _))) (ai (aD (i:=2) sc_law_rules.nd rfl (Or.inl rfl) (aw (lX K) (pr 2) (pr 8)))
 (ao (bY (cG K PySem.F.plainAttrs_list PySem.F.slot_list_append PySem.F.type_list_append dW (pr 5) (af (cH (af (pr 7) (af (pr 8) ah))) ah))))) aJ))))
 (ao (ax (pr 5))))))),?_⟩
 have hs:sizeLine=16777216:=sizeLine_eq;have b4:=okb.2.1;refine bo (fun σ H'=>σ=[some (.ref l),some (.ref a),some (.int 1),none,none,none,none,none,none]∧H=H') ?_ ?_
 ·intro u' hu
  walk_at "rd";exact hu _ _ ⟨rfl,rfl⟩
 intro Ω ω;rintro _ _ ⟨rfl,rfl⟩;refine ω _ _ ?_;refine bo (fun σ H'=>∃o3 o4,σ=[some (.ref l),some (.ref a),some (.int (jt bs)),o3,o4,none,none,none,none]∧H=H') ?_ ?_
 ·intro u' hu
  walk_at "rd";refine bZ hts (dU (xs:=ts.map V.ref) (fun i σ H'=>∃o3 o4,σ=[some (.ref l),some (.ref a),some (.int (jt (bs.take i))),o3,o4,none,none,none,none]∧H=H') ⟨none,none,rfl,rfl⟩ (fun i σ H' _ z=>by obtain⟨_,_,_,z⟩:=z;exact z▸hts) ?_ ?_)
  ·rintro i y σ H1 hy ⟨o3,o4,rfl,rfl⟩
   rw [aa8]at hy
   cases ht:ts[i]? with
   | none=>rw [ht]at hy;cases hy
   | some t=>
    rw [ht]at hy;cases hy
    have hi:i < bs.length:=by rw [←htl];exact(aa2.mp ht).1
    have hb:bs[i]?=some bs[i]:=aa1 hi
    have e:jt (bs.take (i+1))=jt (bs.take i) * cI bs[i]:=by
     unfold jt;rw [ac5,hb,ae9];rfl
    walk_at "rd";refine⟨_,htc i t _ ht hb,rfl,?_⟩;walk_at "rd";rw [e];have t50:∀{x:Int},x.natAbs < 2 ^ 50→x.natAbs < 2 ^ 200:=fun h=>Nat.lt_trans h (by decide +kernel);have hw:=t50 (okb.2.2 _ (ac8 hi)).2.1;have hp:=u5 (bs:=bs.take i) fun b hb=>t50 (okb.2.2 b (List.mem_of_mem_take hb)).2.1;exact⟨t5 hp hw (by rw [ac6];omega),rfl⟩
  ·rintro σ H1 ⟨o3,o4,rfl,rfl⟩
   refine hu _ _ ⟨o3,o4,?_,rfl⟩;rw [aa0,htl,ad0]
 intro Ω ω;rintro _ _ ⟨o3,o4,rfl,rfl⟩;refine ω _ _ ?_;refine bo (fun σ H'=>∃q,H q=none∧cL K H' q []∧σ=[some (.ref l),some (.ref a),some (.int (jt bs)),o3,o4,some (.ref q),none,none,none]∧au H H') ?_ ?_
 ·intro u' hu
  walk_at "rd";exact⟨by omega,fun q hq=>hu _ _ ⟨q,hq,⟨[],ag,rfl,fun i p R e=>(by cases e)⟩,rfl,av hq⟩⟩
 intro Ω ω;rintro _ H1 ⟨q,hq0,hq1,rfl,s1⟩;obtain⟨Pv,hPv⟩:∃Pv:Nat→L2.St→Hp→Prop,Pv=fun i σ H'=>∃(Rs:List aQ) (o6 o7 o8:Option V),Rs.length≤i∧cL K H' q Rs∧(∀R∈Rs,mP bs.length R∧t7 R∧(fP R).natAbs < 2 ^ 60)∧0≤eD bs Rs∧eD bs Rs≤400∧σ=[some (.ref l),some (.ref a),some (.int (eD bs Rs)),o3,o4,some (.ref q),o6,o7,o8]∧au H H':=⟨_,rfl⟩;refine ω _ _ ?_;refine bo (Pv ns.length) ?_ ?_
 ·intro u' hu
  walk_at "rd";refine bZ (s1.seq hl) (dU (xs:=ns.map V.int) Pv (by rw [hPv];exact⟨[],none,none,none,aa7 _,hq1,fun R h=>(by cases h),w0,w400,rfl,s1⟩) (fun i σ H' _ z=>by rw [hPv]at z;obtain⟨_,_,_,_,_,_,_,_,_,_,z⟩:=z;exact z.seq hl) ?_ ?_)
  ·rintro i y σ H2 hy hI
   rw [hPv]at hI;obtain⟨Rs,o6,o7,o8,hRl,hRT,hok,h0,h400,rfl,s2⟩:=hI
   have hi:i < ns.length:=by have:=(aa2.mp hy).1;rw [aa0]at this;exact this
   rw [aa8,aa1 hi]at hy;cases hy;walk_at "rd";refine⟨_,.inl (s2.seq hts),?_⟩;rw [aa0,htl];refine⟨ns[i],bs.length,rfl,hn0 _ (ac8 hi),okb.1,b4,fun t R H3 ht hg ho z1 z3 s3=>?_⟩;walk_at "rd";refine⟨_,cD.of ht,rfl,?_⟩;walk_at "rd";have mok:IntMulOk (eD bs Rs) (fP R):=IntMulOk.of_le (m:=20) (n:=20) (intBits_le_iff.mpr (by omega)) (intBits_le_iff.mpr (by omega)) (by decide)
   have ew:eD bs (Rs++[R])=eD bs Rs * fP R:=by
    unfold eD;rw [ae9];rfl
   have s23:=s2.trans s3;refine⟨mok,?_⟩
   by_cases h:eD bs Rs * fP R≤400
   ·rw [if_pos h]
    have hR3:=hRT.same s3;obtain⟨pq,hq3,_⟩:=id hR3;refine⟨mok,.inl ⟨rfl,_,aT.of hq3⟩,by omega,fun p hp=>?_⟩;obtain⟨xs,hx1,hx2,hx3⟩:=(hR3.same (av hp)).put (R:=R) ag;refine⟨q,xs,_,rfl,rfl,hx1,by omega,?_⟩;rw [hPv];refine⟨Rs++[R],_,_,_,by rw [ab4];simp only [ac2,af1];omega,hx3,fun S hS=>?_,by rw [ew];exact Int.mul_nonneg h0 (by omega),by rw [ew];exact h,by rw [ew],fun b o hb=>?_⟩
    ·rcases ac1.mp hS with hS | hS
     ·exact hok S hS
     ·rw [ad3.mp hS]
      exact⟨hg,ho,by omega⟩
    ·have hb3:=s23 _ _ hb
     rw [ak (ar hb hq0),ak (ar hb3 hp)];exact hb3
   ·rw [if_neg h,hPv]
    exact⟨Rs,_,_,_,by omega,hRT.same s3,hok,h0,h400,rfl,s23⟩
  ·intro σ H2 hI
   rw [aa0]at hI;exact hu _ _ hI
 intro Ω ω;intro σ H2 hI;rw [hPv]at hI;obtain⟨Rs,o6,o7,o8,hRl,hRT,hok,h0,h400,rfl,s2⟩:=hI;refine ω _ _ ?_;walk_at "rd";exact k q Rs _ hq0 hRT ⟨by omega,hok⟩ h400 s2
end
def uH(P:Program)(w:World)(K:Frag)(mg:Str→Option Value)(base:Heap)(C:Addr):Sp:=fun vs H Q _=>∃(a q:Addr) (bs:List (Int×Int)) (Rs:List aQ),vs=[.ref a,.ref q]∧bu K H a bs∧cL K H q Rs∧lY bs∧jN bs.length Rs∧∀x H',bj P w K mg base C bs.length bs Rs x H'→au H H'→Q (.ref x) H'
section
variable {P:Program} {w:World} {K:Frag} {mg:Str→Option Value} {base:Heap} {aM:Addr}
theorem AF{f C:Addr}{fd:FuncData}(F:cT K "_law_made" "_law_made" ji f fd)(T:Txt mg aM)(DM_Score:e7 P w K mg base "Score" C 9 ["self","ranges","rules"] (eY K C))(DD_read_rule:BX P w K mg base "read_rule" 10 ["text","voices","row"] (gA P w K mg base) [.int 0]):aH P w K mg base cb 11 f fd ["_law_ranges_here","_law_rules_here"] (uH P w K mg base C):=by
 refine F.ok sU (fun vs H Q E h=>?_) (fun cdv A outer s H vs Q E hr h=>?_)
 ·obtain⟨a,q,bs,Rs,rfl,_⟩:=h
  rfl
 obtain⟨a,q,bs,Rs,rfl,⟨ts,hts,htl,htc⟩,⟨ps,hps,hpl,hpc⟩,okb,okr,k⟩:=h;refine⟨_,(ao (ax (ij DM_Score hr (by rfl) (af (aW (d5 K) (by rfl) T.n_list boot_list (af (pr 0) ah)) (af (eu (own:=["_law_row","_law_size"]) (js:=[0]) rfl (bX K (pr 1)) (bG.of (by rfl)) (fun _ _ _ _ _=>(cg K (n:=2) rfl (aL (aF (i:=0) (show List.Nodup (["_law_row","_law_size","_law_ranges_here"]:List Str)from by decide +kernel) rfl (Or.inl rfl)) (aL (aF (i:=1) (show List.Nodup (["_law_row","_law_size","_law_ranges_here"]:List Str)from by decide +kernel) rfl (Or.inl rfl)) cj)))) (fun _ _ _ _ _=>dE) (fun _ _ _ _ _=>(AO DD_read_rule hr (by rfl) (af (pr 0) (af (aB (aP K) (by rfl) T.n_len boot_len (af (pr 2) ah)) ah))))) ah))))),?_⟩;have hs:sizeLine=16777216:=sizeLine_eq;have r12:=okr.1;walk_at "rd";refine⟨_,.inl hts,fun l0 hl0=>?_⟩;have s1:au H (upd H l0 (.lst (ts.map V.ref))):=av hl0;have e1:(upd H l0 (.lst (ts.map V.ref))) l0=some (.lst (ts.map V.ref)):=ag;generalize upd H l0 (.lst (ts.map V.ref))=H1 at s1 e1;have hq1:=aT.of (K:=K) (s1 _ _ hps);refine bZ hq1 (cU (xs:=ps.map V.ref) (fun i ys H'=>∃rs:List Addr,ys=rs.map V.ref∧rs.length=i∧(∀(j:Nat) (r:Addr) (R:aQ),rs[j]?=some r→Rs[j]?=some R→fC P w K mg base bs.length R r H')∧au H1 H') (by rw [aa0];omega) ⟨[],rfl,rfl,fun j r R e=>(by cases e),au.refl _⟩ ?_ ?_ ?_ ?_)
 ·rintro i ys H' ⟨rs,rfl,h,_⟩
  rw [aa0];omega
 ·rintro i ys H' ⟨rs,rfl,h,_,sm⟩
  exact sm.seq hq1
 ·rintro i y ys H2 hy ⟨rs,rfl,hrl,hrc,sm⟩
  rw [aa8]at hy
  cases ht:ps[i]? with
  | none=>rw [ht]at hy;cases hy
  | some p=>
   rw [ht]at hy;cases hy
   have hi:i < Rs.length:=by rw [←hpl];exact(aa2.mp ht).1
   have hRi:Rs[i]?=some Rs[i]:=aa1 hi;have hok:=okr.2 _ (ac8 hi);walk_at "rd";refine⟨_,cD.of (sm _ _ (s1 _ _ (hpc i p _ ht hRi))),rfl,?_⟩;walk_at "rd";refine⟨_,.inl ((s1.trans sm).seq hts),?_⟩;rw [aa0,htl];refine⟨0,Rs[i],bs.length,rfl,hok.1,hok.2.1,fun r H3 hr3 s3=>?_⟩;refine⟨rs++[r],by rw [ab7];rfl,by rw [ab4,hrl];rfl,fun j r' R' e1 e2=>?_,sm.trans s3⟩
   by_cases hj:j < rs.length
   ·rw [ab3 hj]at e1
    exact(hrc j r' R' e1 e2).same s3
   ·rw [ab0 (by omega)]at e1
    have ej:j=rs.length:=by
     have:=(aa2.mp e1).1
     simp at this;omega
    rw [ej,ad9]at e1;cases e1;rw [ej,hrl,hRi]at e2;cases e2;exact hr3
 ·rintro ys H2 ⟨rs,rfl,hrl,hrc,sm⟩ p2 hp2
  rw [aa0,hpl]at hrl;have s3:au H2 (upd H2 p2 (.lst (rs.map V.ref))):=av hp2;have e3:(upd H2 p2 (.lst (rs.map V.ref))) p2=some (.lst (rs.map V.ref)):=ag;generalize upd H2 p2 (.lst (rs.map V.ref))=H3 at s3 e3;have s13:=sm.trans s3;have s03:=s1.trans s13;walk_at "rd";intro z dz hz hdz dzz;have s5:au H3 (upd (upd H3 dz (.own z)) z (.ins C dz [])):=(av hdz).upd (by rw [ak dzz.symm];exact hz);refine⟨z,dz,l0,p2,ts.map V.ref,rs.map V.ref,rfl,ag,s5.seq (aT.of (s13 _ _ e1)),s5.seq (aT.of e3),fun p' q' H' hp' hq' hqp e=>⟨rfl,?_⟩⟩
  have px:p'≠z:=fun e=>by subst e;rw [ag]at hp';cases hp'
  have qx:q'≠z:=fun e=>by subst e;rw [ag]at hq';cases hq'
  have s6:au H3 H':=fun c u hc=>by
   have h3:=s5 _ _ hc;have cx:c≠z:=ar hc hz;rw [e,ak cx,ak (ar h3 hq'),ak (ar h3 hp')];exact h3
  exact k z H' ⟨dz,p',q',by rw [e,ag],⟨ts,aT.of (by rw [e,ak px,ak hqp.symm,ag]),htl,fun i t b e1 e2=>(s03.trans s6).tup (htc i t b e1 e2)⟩,⟨rs,by rw [e,ak qx,ag],hrl,fun j r R e1 e2=>(hrc j r R e1 e2).same (s3.trans s6)⟩⟩ (s03.trans s6)
end
def uG(K:Frag):Sp:=fun vs H Q _=>∃(sc a:Addr) (ns:List Int) (bs:List (Int×Int)),vs=[.ref sc,.ref a]∧aT K H sc (ns.map V.int)∧(∀x∈ns,x.natAbs < 2 ^ GB)∧ns.length≤63∧bu K H a bs∧lY bs∧(∀b∈bs,cI b < 1000)∧∀q cols H',dX K H' q bs.length cols→cols.length≤63→H q=none→au H H'→Q (.ref q) H'
theorem vY(ns:List Int)(hn:ns.length≤63):(GM.cellsF ns 30 50).length≤63:=by
 unfold GM.cellsF;rw [aa0,aj9]
 split<;>omega
section
variable {P:Program} {w:World} {K:Frag} {mg:Str→Option Value} {base:Heap} {aM:Addr}
theorem AE{f:Addr}{fd:FuncData}(F:cT K "_law_line" "_law_line" jh f fd)(T:Txt mg aM)(D_law_cells:cJ P w K mg base "_law_cells" 3 ["_law_script","_law_first","_law_last"] (mx K)):aH P w K mg base cb 4 f fd ["_law_script","_law_ones"] (uG K):=by
 refine F.ok sc_law_line (fun vs H Q E h=>?_) (fun cdv A outer s H vs Q E hr h=>?_)
 ·obtain⟨sc,a,ns,bs,rfl,_⟩:=h
  rfl
 obtain⟨sc,a,ns,bs,rfl,hS,hB,hn,⟨ts,hts,htl,htc⟩,okb,hbw,k⟩:=h
 refine⟨_,(ai (aD (i:=2) sc_law_line.nd rfl (Or.inl rfl) (d0 ah))
 (ai (d3 PassesOwn.never rfl (bX K (aC D_law_cells hr (by rfl) (af (pr 0) (af aj (af aj ah))))) (aF (i:=3) sc_law_line.nd rfl (Or.inl rfl))
 (ai (aD (i:=4) sc_law_line.nd rfl (Or.inl rfl) (d0 ah))
 (ai (d3 PassesOwn.never rfl (bX K (pr 1)) (cg K (n:=2) rfl (aL (aF (i:=5) sc_law_line.nd rfl (Or.inl rfl)) (aL (aF (i:=6) sc_law_line.nd rfl (Or.inl rfl)) cj)))
 (ai (nq (aB (lG) (by rfl) T.n_divmod boot_divmod (af (pr 3) (af (aw (bq K) (aw (o0 dZ) (pr 6) (pr 5)) aj) ah))) (cg K (n:=2) rfl (aL (aF (i:=3) sc_law_line.nd rfl (Or.inl rfl)) (aL (aF (i:=7) sc_law_line.nd rfl (Or.inl rfl)) cj))))
 (ao (bY (cG K PySem.F.plainAttrs_list PySem.F.slot_list_append PySem.F.type_list_append dW (pr 4) (af (aw (o0 dZ) (aw (bq K) (pr 5) (pr 7)) aj) ah))))))
 (ao (bY (cG K PySem.F.plainAttrs_list PySem.F.slot_list_append PySem.F.type_list_append dW (pr 2) (af (aW (rC K) (by rfl) T.n_tuple boot_tuple (af (pr 4) ah)) ah)))))))
 (ao (ax (pr 2))))),?_⟩
 have hs:sizeLine=16777216:=sizeLine_eq;refine bo (fun σ H'=>∃q,H q=none∧H' q=some (.lst (([]:List Addr).map V.ref))∧σ=[some (.ref sc),some (.ref a),some (.ref q),none,none,none,none,none]∧au H H') ?_ ?_
 ·intro u' hu
  walk_at "rd";exact⟨by omega,fun q hq=>hu _ _ ⟨q,hq,ag,rfl,av hq⟩⟩
 intro Ω ω;rintro _ H1 ⟨q,hq0,hq1,rfl,s1⟩;obtain⟨Pv,hPv⟩:∃Pv:Nat→L2.St→Hp→Prop,Pv=fun i σ H'=>∃(ps:List Addr) (cols:List (List Int)) (o3 o4 o5 o6 o7:Option V),ps.length=cols.length∧cols.length=i∧H' q=some (.lst (ps.map V.ref))∧(∀(j:Nat) (p:Addr) (us:List Int),ps[j]?=some p→cols[j]?=some us→H' p=some (.tup (us.map V.int))∧us.length=bs.length)∧σ=[some (.ref sc),some (.ref a),some (.ref q),o3,o4,o5,o6,o7]∧au H H':=⟨_,rfl⟩;refine ω _ _ ?_;refine bo (fun σ H'=>∃n,n≤63∧Pv n σ H') ?_ ?_
 ·intro u' hu
  walk_at "rd";refine⟨sc,ns,30,50,rfl,s1.seq hS,hB,hn,by decide,by decide,by decide,by decide,fun c1 H2 hc1 s2=>?_⟩;show zT _ _ _ _;have hcl:(GM.cellsF ns 30 50).length≤63:=vY ns hn;generalize GM.cellsF ns 30 50=cl at hc1 hcl;refine bZ (aT.of hc1) (dU (xs:=cl.map V.int) (fun i σ H'=>Pv i σ H'∧H' c1=some (.lst (cl.map V.int))) ⟨by rw [hPv];exact⟨[],[],none,none,none,none,none,rfl,rfl,s2 _ _ hq1,fun j p us e=>(by cases e),rfl,s1.trans s2⟩,hc1⟩ (fun i σ H' _ z=>aT.of z.2) ?_ ?_)
  ·rintro i y σ H3 hy ⟨hI,hc3⟩
   rw [hPv]at hI;obtain⟨ps,cols,o3,o4,o5,o6,o7,h1,h2,h3,h4,rfl,s3⟩:=hI
   have hi63:i < 63:=by have:=(aa2.mp hy).1;rw [aa0]at this;omega
   have cq:c1≠q:=fun e=>by
    rw [e,h3]at hc3
    have e2:ps.map V.ref=cl.map V.int:=by injection hc3 with e;injection e
    rw [←e2,ai3 (by rw [aa0];omega)]at hy;cases hy
   obtain⟨n,rfl⟩:∃n:Int,y=.int n:=by
    obtain⟨n,_,e⟩:=ac7.mp (ad1 hy);exact⟨n,e.symm⟩
   clear hy;walk_at "rd";refine⟨by omega,fun p hp=>?_⟩;have s4:au H3 (upd H3 p (.lst [])):=av hp;obtain⟨Pw,hPw⟩:∃Pw:Nat→L2.St→Hp→Prop,Pw=fun j σ H'=>∃(us:List Int) (n:Int) (o5 o6 o7:Option V),us.length=j∧H' p=some (.lst (us.map V.int))∧σ=[some (.ref sc),some (.ref a),some (.ref q),some (.int n),some (.ref p),o5,o6,o7]∧au H3 H':=⟨_,rfl⟩;refine bZ ((s3.trans s4).seq hts) (dU (xs:=ts.map V.ref) Pw (by rw [hPw];exact⟨[],n,_,_,_,rfl,ag,rfl,s4⟩) (fun j σ H' _ z=>by rw [hPw]at z;obtain⟨_,_,_,_,_,_,_,_,z⟩:=z;exact(s3.trans z).seq hts) ?_ ?_)
   ·intro j y σ H5 hy hI
    rw [hPw]at hI;obtain⟨us,n',o5',o6',o7',ul,hp5,rfl,s5⟩:=hI;rw [aa8]at hy
    cases ht:ts[j]? with
    | none=>rw [ht]at hy;cases hy
    | some t=>
     rw [ht]at hy;cases hy
     have hj:j < bs.length:=by rw [←htl];exact(aa2.mp ht).1
     have b4:=okb.2.1;have hb:bs[j]?=some bs[j]:=aa1 hj;have x1:=(s3.trans s5).tup (htc j t _ ht hb);have w1:=hbw _ (ac8 hj);have w2:=(okb.2.2 _ (ac8 hj)).1;generalize bs[j]=b at x1 w1 w2;unfold cI at w1;walk_at "rd";refine⟨_,x1,rfl,?_⟩;walk_at "rd";refine⟨⟨by omega,by omega⟩,fun p1 hp1=>?_⟩;have e1:(upd H5 p1 (.tup [.int (n' / (b.2 - b.1+5)),.int (n' % (b.2 - b.1+5))])) p1=some (.tup [.int (n' / (b.2 - b.1+5)),.int (n' % (b.2 - b.1+5))]):=ag;have s6:au H5 (upd H5 p1 (.tup [.int (n' / (b.2 - b.1+5)),.int (n' % (b.2 - b.1+5))])):=av hp1;generalize upd H5 p1 (.tup [.int (n' / (b.2 - b.1+5)),.int (n' % (b.2 - b.1+5))])=H6 at e1 s6;have hp6:=s6 _ _ hp5;refine⟨_,cD.of e1,rfl,_,_,rfl,_,_,rfl,rfl,.inl ⟨rfl,_,aT.of hp6⟩,?_⟩;walk_at "rd";refine⟨p,_,_,rfl,rfl,hp6,by rw [aa0];omega,?_⟩;rw [hPw];exact⟨us++[b.1+n' % (b.2 - b.1+5) - 2],_,_,_,_,by rw [ab4,ul];rfl,by rw [ag,ab7];rfl,rfl,BU hp (s5.trans s6)⟩
   ·intro σ H5 hI
    rw [hPw]at hI;obtain⟨us,n',o5',o6',o7',ul,hp5,rfl,s5⟩:=hI;rw [aa0,htl]at ul;walk_at "rd";have hq5:=s5 _ _ h3;refine⟨.inl ⟨rfl,_,aT.of hq5⟩,_,.inl ⟨aT.of hp5,fun l hl=>?_⟩⟩;have s6:au H5 (upd H5 l (.tup (us.map V.int))):=av hl;have e6:(upd H5 l (.tup (us.map V.int))) l=some (.tup (us.map V.int)):=ag;generalize upd H5 l (.tup (us.map V.int))=H6 at s6 e6;have s36:=s5.trans s6;have hq6:=s36 _ _ h3;refine⟨q,_,_,rfl,rfl,hq6,by rw [aa0];omega,?_,by rw [ak cq];exact s36 _ _ hc3⟩;rw [hPv]
    have lq:l≠q:=fun e=>by rw [e]at hl;rw [hl]at hq5;cases hq5
    refine⟨ps++[l],cols++[us],_,_,_,_,_,by rw [ab4,ab4,h1];rfl,by rw [ab4,h2];rfl,by rw [ag,ab7];rfl,fun j p' us' e1 e2=>?_,rfl,BU hq0 (s3.trans s36)⟩
    by_cases hj:j < ps.length
    ·rw [ab3 hj]at e1
     rw [ab3 (by omega)]at e2;obtain⟨g1,g2⟩:=h4 j p' us' e1 e2
     have pq:p'≠q:=fun e=>by rw [e,h3]at g1;cases g1
     exact⟨by rw [ak pq];exact s36 _ _ g1,g2⟩
    ·rw [ab0 (by omega)]at e1
     rw [ab0 (by omega),←h1]at e2
     have ej:j=ps.length:=by
      have:=(aa2.mp e1).1
      simp at this;omega
     rw [ej,ad9]at e1 e2;cases e1;cases e2;exact⟨by rw [ak lq];exact e6,ul⟩
  ·rintro σ H3 ⟨hI,_⟩
   exact hu _ _ ⟨_,by rw [aa0];exact hcl,hI⟩
 intro Ω ω;rintro σ H2 ⟨n,hn63,hI⟩;rw [hPv]at hI;obtain⟨ps,cols,o3,o4,o5,o6,o7,h1,h2,h3,h4,rfl,s2⟩:=hI;refine ω _ _ ?_;walk_at "rd";exact k q cols _ ⟨ps,aT.of h3,h1,fun i p us e1 e2=>⟨cD.of (h4 i p us e1 e2).1,(h4 i p us e1 e2).2⟩⟩ (by omega) hq0 s2
end
def lT(H:Hp)(q:Addr)(bs:List (Int×Int)):Prop:=∃ts:List Addr,H q=some (.lst (ts.map V.ref))∧ts.length=bs.length∧∀(i:Nat) (t:Addr) (b:Int×Int),ts[i]?=some t→bs[i]?=some b→H t=some (.tup [.int b.1,.int b.2])
theorem lT.nil{H:Hp}{q:Addr}(h:H q=some (.lst [])):lT H q []:=⟨[],h,rfl,fun i t b e=>(by cases e)⟩
theorem lT.ranges{K:Frag}{H:Hp}{q:Addr}{bs:List (Int×Int)}(h:lT H q bs):bu K H q bs:=by
 obtain⟨ts,h1,h2,h3⟩:=h;exact⟨ts,aT.of h1,h2,fun i t b e1 e2=>cD.of (h3 i t b e1 e2)⟩
theorem lT.same{H H':Hp}{q:Addr}{bs:List (Int×Int)}(h:lT H q bs)(s:au H H'):lT H' q bs:=by
 obtain⟨ts,h1,h2,h3⟩:=h;exact⟨ts,s _ _ h1,h2,fun i t b e1 e2=>s _ _ (h3 i t b e1 e2)⟩
theorem lT.lst{H:Hp}{q:Addr}{bs:List (Int×Int)}(h:lT H q bs):∃xs,H q=some (.lst xs)∧xs.length=bs.length:=by
 obtain⟨ts,h1,h2,_⟩:=h;exact⟨_,h1,by rw [aa0,h2]⟩
theorem lT.put{H:Hp}{q t:Addr}{bs:List (Int×Int)}{b:Int×Int}{xs:List V}(h:lT H q bs)(ht:H t=some (.tup [.int b.1,.int b.2]))(hx:H q=some (.lst xs)):lT (upd H q (.lst (xs++[.ref t]))) q (bs++[b]):=by
 obtain⟨ts,h1,h2,h3⟩:=h;rw [h1]at hx
 have ex:xs=ts.map V.ref:=by injection hx with e;injection e with e;exact e.symm
 subst ex
 have ne:∀{t':Addr} {ys:List V},H t'=some (.tup ys)→t'≠q:=fun {t' ys} e1 e2=>by rw [e2,h1]at e1;cases e1
 refine⟨ts++[t],by rw [ag,ab7];rfl,by rw [ab4,ab4,h2];rfl,fun i t' b' e1 e2=>?_⟩
 by_cases hi:i < ts.length
 ·rw [ab3 hi]at e1
  rw [ab3 (by omega)]at e2
  have:=h3 i t' b' e1 e2
  rw [ak (ne this)];exact this
 ·rw [ab0 (by omega)]at e1
  rw [ab0 (by omega),←h2]at e2
  have ei:i=ts.length:=by
   have:=(aa2.mp e1).1
   simp at this;omega
  rw [ei,ad9]at e1 e2;cases e1;cases e2;rw [ak (ne ht)];exact ht
theorem lT.keep{H:Hp}{q p:Addr}{bs:List (Int×Int)}{xs ys:List V}(h:lT H q bs)(hp:H p=some (.lst xs))(pq:q≠p):lT (upd H p (.lst ys)) q bs:=by
 obtain⟨ts,h1,h2,h3⟩:=h;refine⟨ts,by rw [ak pq];exact h1,h2,fun i t b e1 e2=>?_⟩
 have:=h3 i t b e1 e2
 rw [ak (fun e=>by rw [e,hp]at this;cases this)];exact this
theorem y9{K:Frag}{H:Hp}{a:Addr}{xs:List V}{i:Int}{Q:VK}(h:aT K H a xs)(h0:0≤i)(h1:i < xs.length)(q:∀v∈xs,Q v H):Bd K (.ref a) (.int i) H Q:=by
 obtain⟨m,rfl⟩:∃m:Nat,i=m:=⟨i.toNat,by omega⟩;have e:xs[m]?=some xs[m]:=aa1 (by omega);exact bH h (aO e) (q _ (ac8 _))
def xA(b:Int×Int):Prop:=b.1≤b.2∧b.2 - b.1 < 5∧b.1.natAbs≤100000000000000000099
theorem zL:∀(l:List (Int×Int)) (t:Int) (m:Nat),0≤t→t≤m→(∀b∈l,xA b)→0≤l.foldl (fun t b=>t * cI b) t∧l.foldl (fun t b=>t * cI b) t≤((m * 5 ^ l.length:Nat):Int)
 | [],t,m,h1,h2,_=>⟨h1,by rw [af1,Nat.pow_zero,Nat.mul_one];exact h2⟩
 | b::l,t,m,h1,h2,hb=>by
  obtain⟨b1,b2,_⟩:=hb b (by simp)
  have w0:0≤cI b:=by unfold cI;omega
  have w1:cI b≤5:=by unfold cI;omega
  have:=zL l (t * cI b) (m * 5) (Int.mul_nonneg h1 w0) (Int.le_trans (Int.mul_le_mul h2 w1 w0 (by omega)) (by omega)) fun x hx=>hb x (by simp [hx])
  rw [ac2,Nat.pow_succ,aj2 (5 ^ l.length) 5,←Nat.mul_assoc];exact this
def nV(bs:List (Int×Int)):Prop:=lY bs∧(∀b∈bs,cI b < 1000)∧0≤jt bs∧jt bs≤400
theorem xA.one{b:Int×Int}(h:xA b):(b.1≤b.2∧(cI b).natAbs < 2 ^ 50∧b.1.natAbs < 10 ^ 40∧b.2.natAbs < 10 ^ 40)∧cI b < 1000:=by
 obtain⟨h1,h2,h3⟩:=h
 have e40:(10:Nat) ^ 40=10000000000000000000000000000000000000000:=by decide +kernel
 rw [e40];unfold cI;omega
theorem nV.of{bs:List (Int×Int)}(h1:1≤bs.length)(h3:bs.length≤3)(h:∀b∈bs,xA b):nV bs:=by
 obtain⟨w0,w1⟩:=zL bs 1 1 (by decide) (by decide) h;refine⟨⟨h1,by omega,fun b hb=>(h b hb).one.1⟩,fun b hb=>(h b hb).one.2,w0,Int.le_trans w1 ?_⟩
 have:5 ^ bs.length≤5 ^ 3:=ae7 (by decide) h3
 omega
theorem nV.more{bs:List (Int×Int)}(h3:bs.length≤3)(h:∀b∈bs,xA b):nV (bs++[(0,1)]):=by
 obtain⟨w0,w1⟩:=zL bs 1 1 (by decide) (by decide) h
 have h':∀b∈bs++[(0,1)],xA b:=fun b hb=>(ac1.mp hb).elim (h b) fun hb=>by
  rw [ad3.mp hb];exact⟨by decide,by decide,by decide⟩
 have e:jt (bs++[(0,1)])=jt bs * 2:=by
  unfold jt;rw [ae9];rfl
 have:5 ^ bs.length≤5 ^ 3:=ae7 (by decide) h3
 have w1':jt bs≤((1 * 5 ^ bs.length:Nat):Int):=w1;have w0':0≤jt bs:=w0;refine⟨⟨by simp,by rw [ab4];show _+1≤4;omega,fun b hb=>(h' b hb).one.1⟩,fun b hb=>(h' b hb).one.2,by rw [e];omega,by rw [e];omega⟩
def Df(K:Frag):Sp:=fun vs H Q _=>∃(a:Addr) (ns:List Int),vs=[.ref a]∧aT K H a (ns.map V.int)∧(∀x∈ns,x.natAbs < 2 ^ GB)∧ns.length≤63∧∀(t p q:Addr) (bs cs:List (Int×Int)) H',H' t=some (.tup [.ref p,.ref q])→bu K H' p bs→bu K H' q cs→nV bs→nV cs→au H H'→Q (.ref t) H'
section
variable {P:Program} {w:World} {K:Frag} {mg:Str→Option Value} {base:Heap} {aM:Addr}
theorem DY{f:Addr}{fd:FuncData}(F:cT K "_law_ranges" "_law_ranges" gU f fd)(T:Txt mg aM)(D_law_got:cJ P w K mg base "_law_got" 2 ["_law_script","_law_place"] (sZ K)):aH P w K mg base cb 3 f fd ["_law_script"] (Df K):=by
 refine F.ok sc_law_ranges (fun vs H Q E h=>?_) (fun cdv A outer s H vs Q E hr h=>?_)
 ·obtain⟨a,ns,rfl,_⟩:=h
  rfl
 obtain⟨a,ns,rfl,hS,hB,hn,k⟩:=h
 refine⟨_,(ai (aD (i:=1) sc_law_ranges.nd rfl (Or.inl rfl) (aU (bJ K) (d0 (af aj (af (aw (o1 yQ) aj aj) (af aj (af aj ah))))) (aw (o1 cE) (aw (o1 du) (aC D_law_got hr (by rfl) (af (pr 0) (af aj ah))) aj) aj) (fun _ _=>rfl)))
 (ai (aD (i:=2) sc_law_ranges.nd rfl (Or.inl rfl) (d0 ah))
 (ai (aD (i:=3) sc_law_ranges.nd rfl (Or.inl rfl) (d0 ah))
 (ai (d3 PassesOwn.never rfl (iP rfl T.n_range (af (aw (bq K) aj (aw (o1 cE) (aC D_law_got hr (by rfl) (af (pr 0) (af aj ah))) aj)) ah)) (aF (i:=4) sc_law_ranges.nd rfl (Or.inl rfl))
 (ai (aD (i:=5) sc_law_ranges.nd rfl (Or.inl rfl) (aC D_law_got hr (by rfl) (af (pr 0) (af (aw (bq K) aj (pr 4)) ah))))
 (ai (aD (i:=6) sc_law_ranges.nd rfl (Or.inl rfl) (aw (o0 dZ) (aw (bq K) (pr 1) (aw (o1 cE) (pr 5) aj)) aj))
 (ai (bY (cG K PySem.F.plainAttrs_list PySem.F.slot_list_append PySem.F.type_list_append dW (pr 2) (af (cH (af (pr 6) (af (aw (bq K) (pr 6) (aw (o1 cE) (aw (o1 du) (pr 5) aj) aj)) ah))) ah)))
 (ai (aD (i:=6) sc_law_ranges.nd rfl (Or.inl rfl) (aw (o0 dZ) (aw (bq K) (pr 6) (aw (o1 cE) (aw (o1 du) (pr 5) aj) aj)) aj))
 (ao (bY (cG K PySem.F.plainAttrs_list PySem.F.slot_list_append PySem.F.type_list_append dW (pr 3) (af (cH (af (pr 6) (af (aw (bq K) (pr 6) (aw (o1 cE) (aw (o1 du) (pr 5) aj) aj)) ah))) ah)))))))))
 (ai (br (bp (az sr (aw (o1 cE) (aw (o1 du) (aC D_law_got hr (by rfl) (af (pr 0) (af aj ah))) aj) aj) aj (aE _))) (ao (bY (cG K PySem.F.plainAttrs_list PySem.F.slot_list_append PySem.F.type_list_append dW (aU (bJ K) (d0 (af (pr 2) (af (pr 3) ah))) (aw (o1 cE) (aw (o1 du) (aC D_law_got hr (by rfl) (af (pr 0) (af aj ah))) aj) aj) (fun _ _=>rfl)) (af (cH (af aj (af aj ah))) ah)))) aJ)
 (ao (ax (cH (af (pr 2) (af (pr 3) ah)))))))))),?_⟩
 have hs:sizeLine=16777216:=sizeLine_eq;refine bo (fun σ H'=>∃far:Int,0≤far∧far≤100000000000000000000∧σ=[some (.ref a),some (.int far),none,none,none,none,none]∧au H H') ?_ ?_
 ·intro u' hu
  have e20:(10:Int) ^ Int.toNat 20=100000000000000000000:=by decide +kernel
  walk_at "rd";rw [e20];refine⟨⟨by decide,by decide,by decide⟩,by omega,fun p hp=>⟨a,ns,0,rfl,(av hp).seq hS,hB,by decide,by decide,fun H1 s1=>⟨_,rfl,⟨by decide,by decide⟩,by decide,?_⟩⟩⟩;refine y9 (aT.of (s1 _ _ ag)) (by omega) (by simp;omega) fun v hv=>?_;simp only [aa6,ag2,or_false]at hv
  rcases hv with rfl | rfl | rfl | rfl<;>exact hu _ _ ⟨_,by decide,by decide,rfl,(av hp).trans s1⟩
 intro Ω ω;rintro _ H1 ⟨far,f0,f1,rfl,s1⟩;refine ω _ _ ?_;refine bo (fun σ H'=>∃p:Addr,H p=none∧H' p=some (.lst [])∧σ=[some (.ref a),some (.int far),some (.ref p),none,none,none,none]∧au H H') ?_ ?_
 ·intro u' hu
  walk_at "rd";exact⟨by omega,fun p hp=>hu _ _ ⟨p,s1.free hp,ag,rfl,s1.upd hp⟩⟩
 intro Ω ω;rintro _ H2 ⟨p,hp0,hp2,rfl,s2⟩;refine ω _ _ ?_;refine bo (fun σ H'=>∃q:Addr,p≠q∧H q=none∧H' p=some (.lst [])∧H' q=some (.lst [])∧σ=[some (.ref a),some (.int far),some (.ref p),some (.ref q),none,none,none]∧au H H') ?_ ?_
 ·intro u' hu
  walk_at "rd";exact⟨by omega,fun q hq=>hu _ _ ⟨q,ar hp2 hq,s2.free hq,(av hq) _ _ hp2,ag,rfl,s2.upd hq⟩⟩
 clear s2 hp2 s1;clear H2 H1;intro Ω ω;rintro _ H2 ⟨q,pq,hq0,hp2,hq2,rfl,s2⟩;refine ω _ _ ?_;refine bo (fun σ H'=>∃(bs cs:List (Int×Int)) (o4 o5 o6:Option V),1≤bs.length∧bs.length≤3∧1≤cs.length∧cs.length≤3∧(∀b∈bs,xA b)∧(∀b∈cs,xA b)∧lT H' p bs∧lT H' q cs∧σ=[some (.ref a),some (.int far),some (.ref p),some (.ref q),o4,o5,o6]∧au H H') ?_ ?_
 ·intro u' hu
  walk_at "rd";refine⟨a,ns,0,rfl,s2.seq hS,hB,by decide,by decide,fun H3 s3=>⟨_,rfl,by decide,by omega,by omega,?_⟩⟩;generalize GM.gotF ns 0=g
  have g0:0≤g % 3:=by omega
  have g3:g % 3 < 3:=by omega
  obtain⟨Pv,hPv⟩:∃Pv:Nat→L2.St→Hp→Prop,Pv=fun i σ H'=>∃(bs cs:List (Int×Int)) (o4 o5 o6:Option V),bs.length=i∧cs.length=i∧(∀b∈bs,xA b)∧(∀b∈cs,xA b)∧lT H' p bs∧lT H' q cs∧σ=[some (.ref a),some (.int far),some (.ref p),some (.ref q),o4,o5,o6]∧au H H':=⟨_,rfl⟩;refine i9 Pv (by rw [hPv];exact⟨[],[],none,none,none,rfl,rfl,(fun _ h=>nomatch h),(fun _ h=>nomatch h),lT.nil (s3 _ _ hp2),lT.nil (s3 _ _ hq2),rfl,s2.trans s3⟩) ?_ ?_
  ·clear s3 s2 hp2 hq2
   clear H2 H3;intro i σ H2 hi hI;rw [hPv]at hI;obtain⟨bs,cs,o4,o5,o6,bl,cl,hb,hc,hP,hQ,rfl,s2⟩:=hI
   have i3:i < 3:=by omega
   refine bo (fun σ H'=>∃(o4:Option V) (c:Int),σ=[some (.ref a),some (.int far),some (.ref p),some (.ref q),o4,some (.int c),o6]∧au H2 H') ?_ ?_
   ·intro u2 yl
    walk_at "rd";exact⟨a,ns,_,rfl,s2.seq hS,hB,by omega,by omega,fun H3 s3=>yl _ _ ⟨_,_,rfl,s3⟩⟩
   intro Ω ω;rintro _ H3 ⟨o4,c,rfl,s3⟩;refine ω _ _ ?_;refine bo (fun σ H'=>∃(lo:Int),lo.natAbs≤100000000000000000050∧σ=[some (.ref a),some (.int far),some (.ref p),some (.ref q),o4,some (.int c),some (.int lo)]∧H3=H') ?_ ?_
   ·intro u2 yl
    walk_at "rd";exact⟨by decide,yl _ _ ⟨_,by omega,rfl,rfl⟩⟩
   intro Ω ω;rintro _ _ ⟨lo,hlo,rfl,rfl⟩;have hP3:=hP.same s3;have hQ3:=hQ.same s3;obtain⟨xs,hx,hxl⟩:=hP3.lst;refine ω _ _ ?_;refine bo (fun σ H'=>∃b,xA b∧lT H' p (bs++[b])∧lT H' q cs∧σ=[some (.ref a),some (.int far),some (.ref p),some (.ref q),o4,some (.int c),some (.int lo)]∧au H H') ?_ ?_
   ·intro u2 yl
    walk_at "rd";refine⟨.inl ⟨rfl,_,aT.of hx⟩,⟨by decide,by decide⟩,by decide,by omega,fun t ht=>?_⟩;have e4:(upd H3 t (.tup [.int lo,.int (lo+c / 41 % 5)])) t=some (.tup [.int lo,.int (lo+c / 41 % 5)]):=ag;have s4:au H3 (upd H3 t (.tup [.int lo,.int (lo+c / 41 % 5)])):=av ht;generalize upd H3 t (.tup [.int lo,.int (lo+c / 41 % 5)])=H4 at e4 s4;refine⟨p,xs,_,rfl,rfl,s4 _ _ hx,by omega,yl _ _ ⟨(lo,lo+c / 41 % 5),⟨?_,?_,?_⟩,(hP3.same s4).put e4 (s4 _ _ hx),(hQ3.same s4).keep (s4 _ _ hx) pq.symm,rfl,BU hp0 ((s2.trans s3).trans s4)⟩⟩
    ·show lo≤lo+c / 41 % 5
     omega
    ·show lo+c / 41 % 5 - lo < 5
     omega
    ·show lo.natAbs≤_
     omega
   clear hP3 hQ3 hP hQ hx hxl s3 s2;clear H2 H3 xs;intro Ω ω;rintro _ H3 ⟨b,okb,hP,hQ,rfl,s3⟩;obtain⟨xs,hx,hxl⟩:=hQ.lst;refine ω _ _ ?_;walk_at "rd";refine⟨⟨by decide,by decide⟩,by decide,.inl ⟨rfl,_,aT.of hx⟩,⟨by decide,by decide⟩,by decide,by omega,fun t ht=>?_⟩;obtain⟨lo2,hl2⟩:∃lo2:Int,lo2=lo+c / 205 % 9 - 4:=⟨_,rfl⟩;rw [←hl2];have e4:(upd H3 t (.tup [.int lo2,.int (lo2+c / 1845 % 5)])) t=some (.tup [.int lo2,.int (lo2+c / 1845 % 5)]):=ag;have s4:au H3 (upd H3 t (.tup [.int lo2,.int (lo2+c / 1845 % 5)])):=av ht;generalize upd H3 t (.tup [.int lo2,.int (lo2+c / 1845 % 5)])=H4 at e4 s4;refine⟨q,xs,_,rfl,rfl,s4 _ _ hx,by omega,?_⟩;rw [hPv]
   have okc:xA (lo2,lo2+c / 1845 % 5):=by
    refine⟨?_,?_,?_⟩
    ·show lo2≤lo2+c / 1845 % 5
     omega
    ·show lo2+c / 1845 % 5 - lo2 < 5
     omega
    ·show lo2.natAbs≤_
     omega
   exact⟨bs++[b],cs++[(lo2,lo2+c / 1845 % 5)],_,_,_,by rw [ab4,bl];rfl,by rw [ab4,cl];rfl,fun x hx=>(ac1.mp hx).elim (hb x) fun h=>ad3.mp h▸okb,fun x hx=>(ac1.mp hx).elim (hc x) fun h=>ad3.mp h▸okc,(hP.same s4).keep (s4 _ _ hx) pq,(hQ.same s4).put e4 (s4 _ _ hx),rfl,BU hq0 (s3.trans s4)⟩
  ·intro σ H4 hI
   rw [hPv]at hI;obtain⟨bs,cs,o4,o5,o6,bl,cl,hb,hc,hP,hQ,rfl,s4⟩:=hI;exact hu _ _ ⟨bs,cs,o4,o5,o6,by omega,by omega,by omega,by omega,hb,hc,hP,hQ,rfl,s4⟩
 clear s2 hp2 hq2;clear H2;intro Ω ω;rintro _ H3 ⟨bs,cs,o4,o5,o6,b1,b3,c1,c3,hb,hc,hP,hQ,rfl,s3⟩;refine ω _ _ ?_;refine bo (fun σ H'=>∃(bs cs:List (Int×Int)) (o4 o5 o6:Option V),nV bs∧nV cs∧lT H' p bs∧lT H' q cs∧σ=[some (.ref a),some (.int far),some (.ref p),some (.ref q),o4,o5,o6]∧au H H') ?_ ?_
 ·intro u' hu
  refine gD fun A0 B0 hA hB'=>?_;walk_at "rd";refine⟨a,ns,0,rfl,s3.seq hS,hB,by decide,by decide,fun H4 s4=>⟨_,rfl,⟨by decide,by decide⟩,by decide,?_⟩⟩;generalize GM.gotF ns 0=g
  by_cases h:g / 12 % 8=5
  ·rw [if_pos h]
   refine hA _ ?_;walk_at "rd";refine⟨by omega,fun l hl=>⟨a,ns,0,rfl,((s3.trans s4).upd hl).seq hS,hB,by decide,by decide,fun H5 s5=>⟨_,rfl,⟨by decide,by decide⟩,by decide,?_⟩⟩⟩;have s45:=(av hl).trans s5;refine y9 (aT.of (s5 _ _ ag)) (by omega) (by simp;omega) fun v hv=>?_;have hP5:=(hP.same s4).same s45;have hQ5:=(hQ.same s4).same s45;have s05:=(s3.trans s4).trans s45;clear s45 s5;have l1:=nV.of b1 b3 hb;have l2:=nV.of c1 c3 hc;have m1:=nV.more b3 hb;have m2:=nV.more c3 hc;simp only [aa6,ag2,or_false]at hv;rcases hv with rfl | rfl
   ·obtain⟨xs,hx,hxl⟩:=hP5.lst
    refine⟨.inl ⟨rfl,_,aT.of hx⟩,by omega,fun t ht=>?_⟩;have e4:(upd H5 t (.tup [.int 0,.int 1])) t=some (.tup [.int 0,.int 1]):=ag;have s6:au H5 (upd H5 t (.tup [.int 0,.int 1])):=av ht;generalize upd H5 t (.tup [.int 0,.int 1])=H6 at e4 s6;exact⟨p,xs,_,rfl,rfl,s6 _ _ hx,by omega,hu _ _ ⟨bs++[(0,1)],cs,o4,o5,o6,m1,l2,(hP5.same s6).put (b:=(0,1)) e4 (s6 _ _ hx),(hQ5.same s6).keep (s6 _ _ hx) pq.symm,rfl,BU hp0 (s05.trans s6)⟩⟩
   ·obtain⟨xs,hx,hxl⟩:=hQ5.lst
    refine⟨.inl ⟨rfl,_,aT.of hx⟩,by omega,fun t ht=>?_⟩;have e4:(upd H5 t (.tup [.int 0,.int 1])) t=some (.tup [.int 0,.int 1]):=ag;have s6:au H5 (upd H5 t (.tup [.int 0,.int 1])):=av ht;generalize upd H5 t (.tup [.int 0,.int 1])=H6 at e4 s6;exact⟨q,xs,_,rfl,rfl,s6 _ _ hx,by omega,hu _ _ ⟨bs,cs++[(0,1)],o4,o5,o6,l1,m2,(hP5.same s6).keep (s6 _ _ hx) pq,(hQ5.same s6).put (b:=(0,1)) e4 (s6 _ _ hx),rfl,BU hq0 (s05.trans s6)⟩⟩
  ·rw [if_neg h]
   exact hB' _ (hu _ _ ⟨bs,cs,o4,o5,o6,nV.of b1 b3 hb,nV.of c1 c3 hc,hP.same s4,hQ.same s4,rfl,s3.trans s4⟩)
 intro Ω ω;rintro _ H4 ⟨bs,cs,o4,o5,o6,okb,okc,hP,hQ,rfl,s4⟩;refine ω _ _ ?_;walk_at "rd";exact⟨by omega,fun t ht=>k t p q bs cs _ ag (hP.ranges.same (av ht)) (hQ.ranges.same (av ht)) okb okc (s4.upd ht)⟩
end
theorem ltP_f{a b:Int×Int}:n8 a b=false↔¬(a.1 < b.1∨a.1=b.1∧a.2 < b.2):=by
 unfold n8;simp
theorem ltP_t{a b:Int×Int}:n8 a b=true↔(a.1 < b.1∨a.1=b.1∧a.2 < b.2):=by
 unfold n8;simp
def d9(S:Int×Int→Prop)(o:Option (Int×Int)):Prop:=(o=none∧∀k,¬S k)∨∃k,o=some k∧S k∧∀k',S k'→n8 k' k=false
theorem d9.uniq{S:Int×Int→Prop}{o o':Option (Int×Int)}(h:d9 S o)(h':d9 S o'):o=o':=by
 rcases h with⟨rfl,h⟩ | ⟨k,rfl,h1,h2⟩
 ·rcases h' with⟨rfl,_⟩ | ⟨k',rfl,h1',_⟩
  ·rfl
  ·exact absurd h1' (h _)
 ·rcases h' with⟨rfl,h'⟩ | ⟨k',rfl,h1',h2'⟩
  ·exact absurd h1 (h' _)
  ·have a:=ltP_f.mp (h2 k' h1')
   have b:=ltP_f.mp (h2' k h1)
   have:k=k':=Prod.ext (by omega) (by omega)
   rw [this]
theorem d9.union{S T:Int×Int→Prop}{o o':Option (Int×Int)}(h:d9 S o)(h':d9 T o'):d9 (fun k=>S k∨T k) (vt o o'):=by
 rcases h with⟨rfl,h⟩ | ⟨k,rfl,h1,h2⟩
 ·rcases h' with⟨rfl,h'⟩ | ⟨k',rfl,h1',h2'⟩
  ·exact .inl ⟨rfl,fun k hk=>hk.elim (h k) (h' k)⟩
  ·exact .inr ⟨k',rfl,.inr h1',fun k hk=>hk.elim (fun z=>absurd z (h k)) (h2' k)⟩
 ·rcases h' with⟨rfl,h'⟩ | ⟨k',rfl,h1',h2'⟩
  ·exact .inr ⟨k,rfl,.inl h1,fun x hx=>hx.elim (h2 x) (fun z=>absurd z (h' x))⟩
  ·refine .inr ?_
   by_cases hl:n8 k' k=true
   ·refine⟨k',if_pos hl,.inr h1',fun x hx=>hx.elim (fun z=>?_) (h2' x)⟩
    have:=ltP_t.mp hl
    have:=ltP_f.mp (h2 x z)
    refine ltP_f.mpr ?_;omega
   ·refine⟨k,if_neg hl,.inl h1,fun x hx=>hx.elim (h2 x) (fun z=>?_)⟩
    have:n8 k' k=false:=by simpa using hl
    have:=ltP_f.mp this
    have:=ltP_f.mp (h2' x z)
    refine ltP_f.mpr ?_;omega
theorem d9.more{S U:Int×Int→Prop}{o:Option (Int×Int)}(h:d9 S o)(h1:∀k,S k→U k)(h2:∀k,U k→∃k',S k'∧n8 k k'=false):d9 U o:=by
 rcases h with⟨rfl,h⟩ | ⟨k,rfl,hk,hl⟩
 ·exact .inl ⟨rfl,fun k hk=>by obtain⟨k',z,_⟩:=h2 k hk;exact h k' z⟩
 ·refine .inr ⟨k,rfl,h1 k hk,fun x hx=>?_⟩
  obtain⟨y,hy,e⟩:=h2 x hx
  have:=ltP_f.mp e
  have:=ltP_f.mp (hl y hy)
  refine ltP_f.mpr ?_;omega
theorem d9.shift{S:Int×Int→Prop}{o:Option (Int×Int)}{nv m:Int}(hm:0≤m)(h:d9 S o):d9 (fun k=>∃x,S x∧k=eA nv m x) (o.map (eA nv m)):=by
 rcases h with⟨rfl,h⟩ | ⟨k,rfl,hk,hl⟩
 ·exact .inl ⟨rfl,fun k ⟨x,hx,_⟩=>h x hx⟩
 ·refine .inr ⟨_,rfl,⟨k,hk,rfl⟩,?_⟩
  rintro _ ⟨x,hx,rfl⟩
  have:=ltP_f.mp (hl x hx)
  refine ltP_f.mpr ?_;unfold eA
  split<;>split<;>first | omega | (dsimp only;omega)
theorem kE{k:Int×Int}:∀{l:List (Option Nat)} {n:Nat},k∈bM n l↔∃j q:Nat,l[j]?=some (some q)∧k=((q:Int),((n+j:Nat):Int))
 | [],n=>by simp [bM]
 | none::l,n=>by
  rw [bM,kE]
  constructor
  ·rintro⟨j,q,h1,h2⟩
   exact⟨j+1,q,by rw [ag3];exact h1,by rw [h2,show n+1+j=n+(j+1)by omega]⟩
  ·rintro⟨j,q,h1,h2⟩
   cases j with
   | zero=>cases h1
   | succ j=>exact⟨j,q,by rw [ag3]at h1;exact h1,by rw [h2,show n+1+j=n+(j+1)by omega]⟩
 | some p::l,n=>by
  rw [bM,aa6,kE]
  constructor
  ·rintro(rfl | ⟨j,q,h1,h2⟩)
   ·exact⟨0,p,rfl,rfl⟩
   ·exact⟨j+1,q,by rw [ag3];exact h1,by rw [h2,show n+1+j=n+(j+1)by omega]⟩
  ·rintro⟨j,q,h1,h2⟩
   cases j with
   | zero=>cases h1;exact .inl h2
   | succ j=>exact .inr ⟨j,q,by rw [ag3]at h1;exact h1,by rw [h2,show n+1+j=n+(j+1)by omega]⟩
theorem firstN_iff{B:Nat→Bool}:∀{k i p:Nat},bP B i k=some p↔i≤p∧p < i+k∧B p=true∧∀j,i≤j→j < p→B j=false
 | 0,i,p=>by
  rw [bP]
  constructor
  ·intro h;cases h
  ·rintro⟨h1,h2,_⟩;omega
 | k+1,i,p=>by
  rw [bP]
  by_cases h:B i=true
  ·rw [if_pos h]
   constructor
   ·intro e;cases e;exact⟨aa7 _,by omega,h,fun j h1 h2=>by omega⟩
   ·rintro⟨h1,h2,h3,h4⟩
    by_cases e:i=p
    ·rw [e]
    ·have:=h4 i (aa7 _) (by omega)
     rw [this]at h;cases h
  ·rw [if_neg h,firstN_iff]
   have hf:B i=false:=by simpa using h
   constructor
   ·rintro⟨h1,h2,h3,h4⟩
    refine⟨by omega,by omega,h3,fun j j1 j2=>?_⟩
    by_cases e:j=i
    ·rw [e];exact hf
    ·exact h4 j (by omega) j2
   ·rintro⟨h1,h2,h3,h4⟩
    have:i≠p:=fun e=>by rw [←e]at h3;exact h h3
    exact⟨by omega,by omega,h3,fun j j1 j2=>h4 j (by omega) j2⟩
theorem rO{B:Nat→Bool}:∀{k i p:Nat},i≤p→p < i+k→B p=true→∃q,bP B i k=some q∧q≤p
 | 0,i,p,h1,h2,_=>by omega
 | k+1,i,p,h1,h2,h3=>by
  rw [bP]
  by_cases h:B i=true
  ·exact⟨i,if_pos h,h1⟩
  ·rw [if_neg h]
   have:i≠p:=fun e=>by rw [←e]at h3;exact h h3
   exact rO (by omega) (by omega) h3
theorem ye{B C D:Nat→Bool}{n p:Nat}(hD:∀i,D i=(B i || C i))(h:bP D 0 n=some p):bP B 0 n=some p∨bP C 0 n=some p:=by
 obtain⟨h1,h2,h3,h4⟩:=firstN_iff.mp h
 have hj:∀j,0≤j→j < p→B j=false∧C j=false:=fun j j1 j2=>by
  have:=h4 j j1 j2
  rw [hD]at this;simpa using this
 rw [hD,ag5]at h3;rcases h3 with h3 | h3
 ·exact .inl (firstN_iff.mpr ⟨h1,h2,h3,fun j j1 j2=>(hj j j1 j2).1⟩)
 ·exact .inr (firstN_iff.mpr ⟨h1,h2,h3,fun j j1 j2=>(hj j j1 j2).2⟩)
theorem rP{B D:Nat→Bool}{n p:Nat}(hD:∀i,B i=true→D i=true)(h:bP B 0 n=some p):∃q,bP D 0 n=some q∧q≤p:=by
 obtain⟨h1,h2,h3,_⟩:=firstN_iff.mp h;exact rO h1 h2 (hD _ h3)
theorem qv{bs cs:List (Int×Int)}{cols:List (List Int)}{v:Nat}(h1:v < bs.length)(h2:v < cs.length)(i:Nat):sC (bL bs cs) cols v i=(sC bs cols v i || sC cs cols v i):=by
 unfold sC;simp only [ad4,iM h1 h2,aa1 h1,aa1 h2,Option.getD_some];generalize aS _ _=n;generalize bs[v]=b;generalize cs[v]=c;rw [af0];simp only [dA,ag5,Bool.not_eq_true',Bool.and_eq_false_iff,decide_eq_false_iff_not]
 split<;>split<;>(rw [decide_eq_false_iff_not,decide_eq_false_iff_not];omega)
def BY(bs:List (Int×Int))(Rs:List aQ)(cols:List (List Int))(k:Int×Int):Prop:=(∃v p:Nat,v < bs.length∧jc bs cols v=some p∧k=((p:Int),(v:Int)))∨∃(j p:Nat) (R:aQ),Rs[j]?=some R∧kI cols R=some p∧k=((p:Int),((bs.length+j:Nat):Int))
theorem mem_places{bs:List (Int×Int)}{Rs:List aQ}{cols:List (List Int)}{k:Int×Int}:k∈bM 0 (places bs Rs cols)↔BY bs Rs cols k:=by
 rw [kE];unfold places
 have hl:((List.range bs.length).map (jc bs cols)).length=bs.length:=by rw [aa0,aj9]
 constructor
 ·rintro⟨j,q,h1,rfl⟩
  by_cases hj:j < bs.length
  ·rw [ab3 (by omega),aa8,List.getElem?_range hj]at h1
   exact .inl ⟨j,q,hj,by simpa using h1,by rw [aj4]⟩
  ·rw [ab0 (by omega),hl,aa8]at h1
   cases hR:Rs[j - bs.length]? with
   | none=>rw [hR]at h1;cases h1
   | some R=>
    rw [hR]at h1;exact .inr ⟨j - bs.length,q,R,hR,by simpa using h1,by rw [show 0+j=bs.length+(j - bs.length)by omega]⟩
 ·rintro(⟨v,p,h1,h2,rfl⟩ | ⟨j,p,R,h1,h2,rfl⟩)
  ·exact⟨v,p,by rw [ab3 (by omega),aa8,List.getElem?_range h1,af3,h2],by rw [aj4]⟩
  ·exact⟨bs.length+j,p,by rw [ab0 (by omega),hl,aa8,show bs.length+j - bs.length=j by omega,h1,af3,h2],by rw [aj4]⟩
theorem pf{bs cs:List (Int×Int)}{Rs Ss:List aQ}{cols:List (List Int)}{o1 o2 o:Option (Int×Int)}(hl:bs.length=cs.length)(h1:d9 (BY bs Rs cols) o1)(h2:d9 (BY cs Ss cols) o2)(h:d9 (BY (bL bs cs) (Rs++Ss) cols) o):o=vt o1 (o2.map (eA bs.length Rs.length)):=by
 have hml:(bL bs cs).length=bs.length:=by unfold bL;rw [ae2,←hl,ah2]
 refine d9.uniq (h.more (fun k hk=>?_) (fun k hk=>?_)) (h1.union (h2.shift (Int.natCast_nonneg _)))
 ·rcases hk with⟨v,p,hv,hp,rfl⟩ | ⟨j,p,R,hj,hp,rfl⟩
  ·rw [hml]at hv
   rcases ye (qv hv (by omega)) hp with e | e
   ·exact .inl (.inl ⟨v,p,hv,e,rfl⟩)
   ·refine .inr ⟨_,.inl ⟨v,p,by omega,e,rfl⟩,?_⟩
    unfold eA;rw [if_neg (by dsimp only;omega)]
  ·rw [hml]
   by_cases hr:j < Rs.length
   ·rw [ab3 hr]at hj
    exact .inl (.inr ⟨j,p,R,hj,hp,rfl⟩)
   ·rw [ab0 (by omega)]at hj
    refine .inr ⟨_,.inr ⟨j - Rs.length,p,R,hj,hp,rfl⟩,?_⟩;unfold eA;rw [if_pos (by dsimp only;omega)];exact Prod.ext rfl (by dsimp only;omega)
 ·rcases hk with(⟨v,p,hv,hp,rfl⟩ | ⟨j,p,R,hj,hp,rfl⟩) | ⟨_,⟨v,p,hv,hp,rfl⟩ | ⟨j,p,R,hj,hp,rfl⟩,rfl⟩
  ·obtain⟨q,hq,hle⟩:=rP (D:=sC (bL bs cs) cols v) (fun i hi=>by rw [qv hv (by omega),hi,Bool.true_or]) hp
   exact⟨_,.inl ⟨v,q,by omega,hq,rfl⟩,ltP_f.mpr (by dsimp only;omega)⟩
  ·refine⟨_,.inr ⟨j,p,R,by rw [List.getElem?_append_left (List.getElem?_eq_some_iff.mp hj).1];exact hj,hp,rfl⟩,ltP_f.mpr (by dsimp only;omega)⟩
  ·obtain⟨q,hq,hle⟩:=rP (D:=sC (bL bs cs) cols v) (fun i hi=>by rw [qv (by omega) hv,hi,Bool.or_true]) hp
   refine⟨_,.inl ⟨v,q,by omega,hq,rfl⟩,ltP_f.mpr ?_⟩;unfold eA;rw [if_neg (by dsimp only;omega)];dsimp only;omega
  ·refine⟨_,.inr ⟨Rs.length+j,p,R,by rw [ab0 (by omega),show Rs.length+j - Rs.length=j by omega];exact hj,hp,rfl⟩,ltP_f.mpr ?_⟩
   unfold eA;rw [if_pos (by dsimp only;omega)];dsimp only;omega
theorem vR{b:Int×Int}(h1:b.1.natAbs < 10 ^ 40)(h2:b.2.natAbs < 10 ^ 40):fB (lF b) (Str.ofString "voice") [b.1,b.2]:=zg (by decide +kernel) h1 h2 (by decide +kernel) (by decide +kernel) (by decide +kernel)
theorem yz{c d:Nat}(hne:d≠c):∀ps:List (List Nat),(∀p∈ps,d∉p)→d∉dI c ps
 | [],_=>by simp [dI]
 | p::r,h=>by
  intro hd;rw [dI,ac1,List.mem_flatten]at hd;rcases hd with hd | ⟨l,hl,hd⟩
  ·exact h p (.head _) hd
  ·obtain⟨q,hq,rfl⟩:=ac7.mp hl
   rcases aa6.mp hd with e | e
   ·exact hne e
   ·exact h q (.tail _ hq) e
theorem jM(n:Int):10∉(aG n).cps.toList:=fun h=>by
 have:=m4 n 10 h
 omega
theorem yB(R:gs):10∉(da R).cps.toList:=by
 cases R<;>(simp only [da];decide +kernel)
theorem r0{ws:List Str}(h:∀z∈ws,10∉z.cps.toList):10∉(Txt.join (Str.ofString " ") ws).cps.toList:=by
 rw [show(Str.ofString " ")=⟨#[32]⟩by decide +kernel,dJ];refine yz (by decide) _ fun p hp=>?_;obtain⟨z,hz,rfl⟩:=ac7.mp hp;exact h z hz
theorem uU(R:aQ):10∉(bN R).cps.toList:=by
 have one:∀R:gs,∀z∈da R::(dM R).map aG,10∉z.cps.toList:=fun R z hz=>by
  rcases aa6.mp hz with rfl | hz
  ·exact yB R
  ·obtain⟨n,_,rfl⟩:=ac7.mp hz
   exact jM n
 cases R with
 | plain R=>exact r0 (one R)
 | every m a R=>
  refine r0 fun z hz=>?_;rcases aa6.mp hz with rfl | hz
  ·decide +kernel
  rcases aa6.mp hz with rfl | hz
  ·exact jM m
  rcases aa6.mp hz with rfl | hz
  ·exact jM a
  exact one R z hz
theorem zJ(b:Int×Int):10∉(lF b).cps.toList:=by
 show 10∉((Str.ofString "voice ").cps++(aG b.1).cps++(Str.ofString " ").cps++(aG b.2).cps).toList;rw [af4,af4,af4];intro h;rcases ac1.mp h with h | h
 ·rcases ac1.mp h with h | h
  ·rcases ac1.mp h with h | h
   ·exact absurd h (by decide +kernel)
   ·exact jM _ h
  ·exact absurd h (by decide +kernel)
 ·exact jM _ h
theorem uK{bs:List (Int×Int)}{Rs:List aQ}(h:1≤bs.length):Txt.split (fQ bs Rs) ⟨#[10]⟩=bs.map lF++Rs.map bN:=by
 have h:bs.map lF++Rs.map bN≠[]:=fun e=>by
  rw [List.map_eq_nil_iff.mp (List.append_eq_nil_iff.mp e).1]at h;exact absurd h (by decide)
 unfold fQ dQ;rw [show(Str.ofString "\n")=⟨#[10]⟩by decide +kernel];refine lQ (by decide) h fun z hz=>?_;rcases ac1.mp hz with hz | hz
 ·obtain⟨b,_,rfl⟩:=ac7.mp hz
  exact zJ b
 ·obtain⟨R,_,rfl⟩:=ac7.mp hz
  exact uU R
theorem zH{bs:List (Int×Int)}{Rs:List aQ}(b4:bs.length≤4)(r4:Rs.length≤12)(hb:∀b∈bs,b.1.natAbs < 10 ^ 40∧b.2.natAbs < 10 ^ 40)(hR:∀R∈Rs,t7 R):(fQ bs Rs).length≤1000000:=by
 unfold fQ dQ;rw [bg,show(Str.ofString "\n")=⟨#[10]⟩by decide +kernel,dJ]
 have hl:=iJ 10 ((bs.map lF++Rs.map bN).map fun z=>z.cps.toList) 10000 (fun p hp=>by
  obtain⟨z,hz,rfl⟩:=ac7.mp hp;rw [←bg];rcases ac1.mp hz with hz | hz
  ·obtain⟨b,hb',rfl⟩:=ac7.mp hz
   exact(vR (hb b hb').1 (hb b hb').2).len
  ·obtain⟨R,hR',rfl⟩:=ac7.mp hz
   exact(gZ R (hR R hR')).1)
 simp only [aa0,ab4]at hl;omega
theorem mI(ns:List Int)(lo m:Int)(h0:0≤m)(h:m≤12):(GM.cellsF ns lo (lo+m)).length≤12:=by
 unfold GM.cellsF;rw [aa0,aj9]
 split<;>omega
structure rh(P:Program)(w:World)(K:Frag)(mg:Str→Option Value)(base:Heap)(C p f x:Addr)(bs:List (Int×Int))(Rs:List aQ)(H:Hp):Prop where
 ra:bu K H p bs
 ru:cL K H f Rs
 sc:bj P w K mg base C bs.length bs Rs x H
 ob:nV bs
 os:jN bs.length Rs
theorem cL.same'{K:Frag}{H H':Hp}{q:Addr}{Rs:List aQ}(h:cL K H q Rs)(s:au H H'):cL K H' q Rs:=by
 obtain⟨ps,h1,h2,h3⟩:=h;exact⟨ps,s _ _ h1,h2,fun i p R e1 e2=>s _ _ (h3 i p R e1 e2)⟩
theorem jN.ok{nv:Nat}{Rs:List aQ}(h:jN nv Rs):∀R∈Rs,(bN R).length≤20000:=fun R hR=>ab8 (gZ R (h.2 R hR).2.1).1 (by decide)
theorem nV.num{bs:List (Int×Int)}(h:nV bs):∀b∈bs,b.1.natAbs < 10 ^ 40∧b.2.natAbs < 10 ^ 40:=fun b hb=>(h.1.2.2 b hb).2.2
theorem nV.w60{bs:List (Int×Int)}(h:nV bs):∀b∈bs,(cI b).natAbs < 2 ^ 60:=fun b hb=>Nat.lt_trans (h.1.2.2 b hb).2.1 (by decide)
theorem Ax{bs cs:List (Int×Int)}(h1:∀b∈bs,b.1.natAbs < 10 ^ 40∧b.2.natAbs < 10 ^ 40)(h2:∀b∈cs,b.1.natAbs < 10 ^ 40∧b.2.natAbs < 10 ^ 40):∀m∈bL bs cs,m.1.natAbs < 10 ^ 40∧m.2.natAbs < 10 ^ 40:=fun m hm=>by
 obtain⟨i,hi,e⟩:=List.getElem_of_mem hm
 have hl:i < bs.length∧i < cs.length:=by
  unfold bL at hi;rw [ae2]at hi;omega
 have e':=iM hl.1 hl.2;rw [aa1 hi,e]at e'
 injection e' with e'
 have a:=h1 _ (ac8 hl.1);have b:=h2 _ (ac8 hl.2);rw [e'];unfold dA;dsimp only
 constructor<;>split<;>first | exact a.1 | exact a.2 | exact b.1 | exact b.2
theorem cL.add{K:Frag}{H H':Hp}{f g q:Addr}{Rs Ss:List aQ}{ps qs:List Addr}(h1:ps.length=Rs.length)(h2:∀(i:Nat) (p:Addr) (R:aQ),ps[i]?=some p→Rs[i]?=some R→H p=some (.tup [.str (bN R),.int (fP R)]))(h3:qs.length=Ss.length)(h4:∀(i:Nat) (p:Addr) (R:aQ),qs[i]?=some p→Ss[i]?=some R→H p=some (.tup [.str (bN R),.int (fP R)]))(s:au H H')(h:H' q=some (.lst (ps.map V.ref++qs.map V.ref))):cL K H' q (Rs++Ss):=by
 refine⟨ps++qs,by rw [h,ab7],by rw [ab4,ab4,h1,h3],fun j p R e1 e2=>s _ _ ?_⟩
 by_cases hj:j < ps.length
 ·rw [ab3 hj]at e1
  rw [ab3 (by omega)]at e2;exact h2 j p R e1 e2
 ·rw [ab0 (by omega)]at e1
  rw [ab0 (by omega),←h1]at e2;exact h4 _ p R e1 e2
def xC(H:Hp)(v:V):Oc→Prop
 | .apart n=>∃t,v=.ref t∧H t=some (.tup [.str "apart",.int n])
 | .crowded n=>∃t,v=.ref t∧H t=some (.tup [.str "crowded",.int n])
 | .wide n=>∃t,v=.ref t∧H t=some (.tup [.str "wide",.int n])
 | .ok=>v=.non
theorem xC.same{H H':Hp}{v:V}(s:au H H'):∀{o:Oc},xC H v o→xC H' v o
 | .apart _,⟨t,h1,h2⟩=>⟨t,h1,s _ _ h2⟩
 | .crowded _,⟨t,h1,h2⟩=>⟨t,h1,s _ _ h2⟩
 | .wide _,⟨t,h1,h2⟩=>⟨t,h1,s _ _ h2⟩
 | .ok,h=>h
theorem xC.non{H:Hp}:∀{o:Oc},xC H .non o→o=.ok
 | .apart _,⟨t,h1,_⟩=>nomatch h1
 | .crowded _,⟨t,h1,_⟩=>nomatch h1
 | .wide _,⟨t,h1,_⟩=>nomatch h1
 | .ok,_=>rfl
theorem Cb{bs cs:List (Int×Int)}{Rs:List aQ}(h:eC bs cs Rs=.ok):bs.length=cs.length∧Rs.length≤12:=by
 unfold eC at h
 split at h
 ·rename_i hl
  split at h
  ·cases h
  ·split at h
   ·cases h
   ·exact⟨hl,by omega⟩
 ·cases h
section
variable {P:Program} {w:World} {K:Frag} {mg:Str→Option Value} {base:Heap} {aM:Addr}
theorem rh.same{C p f x:Addr}{bs:List (Int×Int)}{Rs:List aQ}{H H':Hp}(h:rh P w K mg base C p f x bs Rs H)(s:au H H'):rh P w K mg base C p f x bs Rs H':=⟨h.ra.same s,h.ru.same' s,h.sc.same s,h.ob,h.os⟩
theorem xC.eq{H:Hp}{v v':V}{Q:VK}(hn:v'≠.non)(q:Q (.bl true) H):∀{o:Oc},xC H v o→xC H v' o→iW K v v' H Q
 | .apart _,⟨t,h1,h2⟩,⟨t',h3,h4⟩=>by subst h1 h3;exact kK (l:=false) (cD.of h2) (cD.of h4) (fun x hx=>.inl (by simp at hx;rcases hx with rfl | rfl<;>rfl)) q
 | .crowded _,⟨t,h1,h2⟩,⟨t',h3,h4⟩=>by subst h1 h3;exact kK (l:=false) (cD.of h2) (cD.of h4) (fun x hx=>.inl (by simp at hx;rcases hx with rfl | rfl<;>rfl)) q
 | .wide _,⟨t,h1,h2⟩,⟨t',h3,h4⟩=>by subst h1 h3;exact kK (l:=false) (cD.of h2) (cD.of h4) (fun x hx=>.inl (by simp at hx;rcases hx with rfl | rfl<;>rfl)) q
 | .ok,_,h=>absurd h hn
theorem g4.ne{H:Hp}{v v':V}{Q:VK}{o:Option (Int×Int)}(h1:g4 K H v o)(h2:g4 K H v' o)(q:Q (.bl false) H):iX K v v' H Q:=by
 rcases h1 with⟨rfl,rfl⟩ | ⟨t,p,rfl,rfl,h⟩
 ·rcases h2 with⟨_,rfl⟩ | ⟨_,_,e,_⟩
  ·exact .inl ⟨rfl,by simpa using q⟩
  ·cases e
 ·rcases h2 with⟨e,_⟩ | ⟨t',p',e,rfl,h'⟩
  ·cases e
  ·cases e
   exact w9 (l:=false) h h' (fun x hx=>.inl (by simp at hx;rcases hx with rfl | rfl<;>rfl)) q
theorem jE{H:Hp}{x C l:Addr}{bs:List (Int×Int)}{Rs:List aQ}{cols:List (List Int)}{Q:VK}{E}(TC:dw K C)(SA:bj P w K mg base C bs.length bs Rs x H)(LL:dX K H l bs.length cols)(hc:cols.length≤63)(b4:bs.length≤4)(r4:Rs.length≤12)(q:∀v o H',g4 K H' v o→d9 (BY bs Rs cols) o→au H H'→Q v H'):mz P w K mg base [.ref x,.ref l] H Q E:=by
 refine⟨x,C,l,bs,Rs,cols,rfl,TC,SA,LL,hc,b4,r4,fun e H' s=>q _ none _ (.inl ⟨rfl,rfl⟩) (.inl ⟨rfl,fun k hk=>?_⟩) s,fun t k H' hk hm ht s=>q _ (some k) _ (.inr ⟨t,k,rfl,rfl,cD.of ht⟩) (.inr ⟨k,rfl,mem_places.mp hk,fun k' h'=>hm k' (mem_places.mpr h')⟩) s⟩
 have:=mem_places.mpr hk
 rw [e]at this;cases this
theorem sY{H:Hp}{C p f x:Addr}{bs:List (Int×Int)}{Rs:List aQ}{Q:VK}{E}(TC:dw K C)(h:rh P w K mg base C p f x bs Rs H)(q:∀H',au H H'→Q (.str (fQ bs Rs)) H'):iD P w K mg base [.ref x] H Q E:=⟨x,C,bs.length,bs,Rs,rfl,TC,h.sc,h.ob.1.2.1,h.os.1,h.ob.num,h.os.ok,q⟩
theorem vQ{H:Hp}{C p f x:Addr}{bs:List (Int×Int)}{Rs:List aQ}{Q:VK}{E}(h:rh P w K mg base C p f x bs Rs H)(q:∀H',au H H'→Q (.str (fQ bs Rs)) H'):mC K [.ref p,.ref f] H Q E:=⟨p,f,bs,Rs,rfl,h.ra,h.ru,by have:=h.ob.1.2.1;omega,by have:=h.os.1;omega,h.ob.num,h.os.ok,q⟩
theorem vE{H:Hp}{C:Addr}{bs:List (Int×Int)}{Rs:List aQ}{Q:VK}{E}(ob:nV bs)(os:jN bs.length Rs)(hw:eD bs Rs≤400)(q:∀x H',bj P w K mg base C bs.length bs Rs x H'→au H H'→Q (.ref x) H'):mB P w K mg base C [.str (fQ bs Rs)] H Q E:=
 ⟨fQ bs Rs,bs,lF,Rs,rfl,zH ob.1.2.1 os.1 ob.num fun R hR=>(os.2 R hR).2.1,uK ob.1.1,ob.1.1,ob.1.2.1,os.1,fun b hb=>⟨vR (ob.num b hb).1 (ob.num b hb).2,(ob.1.2.2 b hb).1,ob.w60 b hb⟩,os.2,hw,q⟩
def ll(P:Program)(w:World)(K:Frag)(mg:Str→Option Value)(base:Heap)(C:Addr):Sp:=fun vs H Q _=>∃(x y:Addr) (bs cs:List (Int×Int)) (Rs Ss:List aQ),vs=[.ref x,.ref y]∧bj P w K mg base C bs.length bs Rs x H∧bj P w K mg base C cs.length cs Ss y H∧lY bs∧lY cs∧jN bs.length Rs∧jN cs.length Ss∧eC bs cs (Rs++Ss)=.ok∧∀z H',bj P w K mg base C bs.length (bL bs cs) (Rs++Ss) z H'→au H H'→Q (.ref z) H'
theorem r6{C Ca Cc Cw:Addr}:∀vs H Q E,ll P w K mg base C vs H Q E→j4 P w K mg base C Ca Cc Cw vs H Q fun _ _ _=>False:=fun vs H Q E ⟨x,y,bs,cs,Rs,Ss,h1,h2,h3,h4,h5,h6,h7,h8,h9⟩=>⟨x,y,bs,cs,Rs,Ss,h1,h2,h3,h4,h5,h6,h7,fun n e=>(nomatch h8.symm.trans e),fun n e=>(nomatch h8.symm.trans e),fun n e=>(nomatch h8.symm.trans e),fun _=>h9⟩
end
def vG(K:Frag):Sp:=fun vs H Q _=>∃(a:Addr) (ns:List Int),vs=[.ref a]∧aT K H a (ns.map V.int)∧(∀x∈ns,x.natAbs < 2 ^ GB)∧ns.length≤63∧∀H',Q (.bl true) H'
section
variable {P:Program} {w:World} {K:Frag} {mg:Str→Option Value} {base:Heap} {aM:Addr}
theorem CF{f C:Addr}{fd:FuncData}(F:cT K "law" "law" pG f fd)(T:Txt mg aM)(TC:dw K C)
  (D_law_ranges:cJ P w K mg base "_law_ranges" 12 ["_law_script"] (Df K)) (D_law_got:cJ P w K mg base "_law_got" 12 ["_law_script","_law_place"] (sZ K)) (D_law_cells:cJ P w K mg base "_law_cells" 12 ["_law_script","_law_first","_law_last"] (mx K)) (D_law_rules:cJ P w K mg base "_law_rules" 12 ["_law_cells_here","_law_ranges_here"] (nL K)) (D_law_text:cJ P w K mg base "_law_text" 12 ["_law_ranges_here","_law_rules_here"] (mC K)) (D_read:cJ P w K mg base "read" 12 ["text"] (mB P w K mg base C))
  (D_law_joined:cJ P w K mg base "_law_joined" 12 ["_law_one","_law_other"] (De P w K mg base C)) (D_law_due:cJ P w K mg base "_law_due" 12 ["_law_ones","_law_others","_law_rules_here"] (uF K)) (D_shown:cJ P w K mg base "shown" 12 ["score"] (iD P w K mg base)) (D_law_met:cJ P w K mg base "_law_met" 12 ["_law_ones","_law_others"] (vH K)) (D_joined:cJ P w K mg base "joined" 12 ["one","other"] (ll P w K mg base C)) (D_law_made:cJ P w K mg base "_law_made" 12 ["_law_ranges_here","_law_rules_here"] (uH P w K mg base C))
  (D_law_line:cJ P w K mg base "_law_line" 12 ["_law_script","_law_ones"] (uG K)) (D_law_earlier:cJ P w K mg base "_law_earlier" 12 ["_law_one","_law_other","_law_voices","_law_many"] (lj K)) (D_fault:cJ P w K mg base "fault" 12 ["score","line"] (mz P w K mg base)):aH P w K mg base cb 13 f fd ["_law_script"] (vG K):=by
 refine F.ok sc_law (fun vs H Q E h=>?_) (fun cdv A outer s H vs Q E hr h=>?_)
 ·obtain⟨a,ns,rfl,_⟩:=h
  rfl
 obtain⟨l,ns,rfl,hS,hB,hn,k⟩:=h
 refine⟨_,(ai (nq (aC D_law_ranges hr (by rfl) (af (pr 0) ah)) (cg K (n:=2) rfl (aL (aF (i:=1) sc_law.nd rfl (Or.inl rfl)) (aL (aF (i:=2) sc_law.nd rfl (Or.inl rfl)) cj))))
 (ai (aD (i:=3) sc_law.nd rfl (Or.inl rfl) (aw (o1 cE) (aC D_law_got hr (by rfl) (af (pr 0) (af aj ah))) aj))
 (ai (aD (i:=4) sc_law.nd rfl (Or.inl rfl) (aC D_law_rules hr (by rfl) (af (aC D_law_cells hr (by rfl) (af (pr 0) (af aj (af (aw (bq K) aj (pr 3)) ah)))) (af (pr 1) ah))))
 (ai (aD (i:=5) sc_law.nd rfl (Or.inl rfl) (aC D_law_rules hr (by rfl) (af (aC D_law_cells hr (by rfl) (af (pr 0) (af aj (af (aw (bq K) aj (aw (o1 cE) (aw (o1 du) (aC D_law_got hr (by rfl) (af (pr 0) (af aj ah))) aj) aj)) ah)))) (af (pr 2) ah))))
 (ai (aD (i:=6) sc_law.nd rfl (Or.inl rfl) (aC D_read hr (by rfl) (af (aC D_law_text hr (by rfl) (af (pr 1) (af (pr 4) ah))) ah)))
 (ai (aD (i:=7) sc_law.nd rfl (Or.inl rfl) (aC D_read hr (by rfl) (af (aC D_law_text hr (by rfl) (af (pr 2) (af (pr 5) ah))) ah)))
 (ai (br (bp (az (DV K (zQ hr)) (aw (o1 cE) (aw (o1 du) (aC D_law_got hr (by rfl) (af (pr 0) (af aj ah))) aj) aj) aj (aE _))) (ao (AY (i:=2) (j:=5) (k:=7) rfl sc_law.nd rfl rfl rfl rfl rfl rfl (af (pr 1) (af (pr 4) (af (pr 6) ah))) rfl)) aJ)
 (ai (nq (aC D_law_joined hr (by rfl) (af (pr 6) (af (pr 7) ah))) (cg K (n:=2) rfl (aL (aF (i:=8) sc_law.nd rfl (Or.inl rfl)) (aL (aF (i:=9) sc_law.nd rfl (Or.inl rfl)) cj))))
 (ai (aD (i:=10) sc_law.nd rfl (Or.inl rfl) (aC D_law_due hr (by rfl) (af (pr 1) (af (pr 2) (af (aw (bq K) (pr 4) (pr 5)) ah)))))
 (ai (br (PW.pt (de (bp (az (t6 K (zQ hr)) (aC D_shown hr (by rfl) (af (pr 6) ah)) (aC D_law_text hr (by rfl) (af (pr 1) (af (pr 4) ah))) (aE _))) (cM (bp (az (t6 K (zQ hr)) (aC D_shown hr (by rfl) (af (pr 7) ah)) (aC D_law_text hr (by rfl) (af (pr 2) (af (pr 5) ah))) (aE _)))))) (ao (ax jP)) aJ)
 (ai (br (bp (az jO (pr 10) aR (aE _))) (ao (ax (gG (DV K (zQ hr)) (pr 9) (pr 10) (aE _)))) aJ)
 (ai (br (PW.pt (de (bp (az fc (pr 8) aR (aE _))) (cM (bp (az (t6 K (zQ hr)) (aC D_shown hr (by rfl) (af (pr 8) ah)) (aC D_law_text hr (by rfl) (af (aC D_law_met hr (by rfl) (af (pr 1) (af (pr 2) ah))) (af (aw (bq K) (pr 4) (pr 5)) ah))) (aE _)))))) (ao (ax jP)) aJ)
 (ai (aD (i:=11) sc_law.nd rfl (Or.inl rfl) (aC D_joined hr (by rfl) (af (aC D_law_made hr (by rfl) (af (pr 1) (af (pr 4) ah))) (af (aC D_law_made hr (by rfl) (af (pr 2) (af (pr 5) ah))) ah))))
 (ai (br (bp (az (t6 K (zQ hr)) (aC D_shown hr (by rfl) (af (pr 11) ah)) (aC D_shown hr (by rfl) (af (pr 8) ah)) (aE _))) (ao (ax jP)) aJ)
 (ai (aD (i:=12) sc_law.nd rfl (Or.inl rfl) (aC D_law_line hr (by rfl) (af (pr 0) (af (pr 1) ah))))
 (ai (d3 PassesOwn.never rfl (bX K (d0 (af (pr 12) (af (bQ (g6 K) (pr 12) cQ (gH (aw (o1 du) (aB (aP K) (by rfl) T.n_len boot_len (af (pr 12) ah)) aj))) (af (d0 ah) ah))))) (aF (i:=13) sc_law.nd rfl (Or.inl rfl))
 (ai (aD (i:=14) sc_law.nd rfl (Or.inl rfl) (aC D_law_earlier hr (by rfl) (af (aC D_fault hr (by rfl) (af (pr 6) (af (pr 13) ah))) (af (aC D_fault hr (by rfl) (af (pr 7) (af (pr 13) ah))) (af (aB (aP K) (by rfl) T.n_len boot_len (af (pr 1) ah)) (af (aB (aP K) (by rfl) T.n_len boot_len (af (pr 4) ah)) ah))))))
 (ao (br (PW.pt (de (bp (az (t6 K (zQ hr)) (aC D_fault hr (by rfl) (af (pr 8) (af (pr 13) ah))) (pr 14) (aE _))) (cM (bp (az (t6 K (zQ hr)) (aC D_fault hr (by rfl) (af (pr 11) (af (pr 13) ah))) (pr 14) (aE _)))))) (ao (ax jP)) aJ))))
 (ao (ax jP)))))))))))))))))),?_⟩
 have hs:sizeLine=16777216:=sizeLine_eq;refine bo (fun σ H'=>∃(p q:Addr) (bs cs:List (Int×Int)),bu K H' p bs∧bu K H' q cs∧nV bs∧nV cs∧σ=[some (.ref l),some (.ref p),some (.ref q),none,none,none,none,none,none,none,none,none,none,none,none]∧au H H') ?_ ?_
 ·intro u' hu
  walk_at "rd";refine⟨l,ns,rfl,hS,hB,hn,fun t p q bs cs H1 ht h1 h2 h3 h4 s1=>?_⟩;walk_at "rd";exact⟨_,cD.of ht,rfl,_,_,rfl,_,_,rfl,rfl,hu _ _ ⟨p,q,bs,cs,h1,h2,h3,h4,rfl,s1⟩⟩
 intro Ω ω;rintro _ H1 ⟨p,q,bs,cs,hp,hq,okb,okc,rfl,s1⟩;have hS1:=s1.seq hS;clear hS s1;clear H;refine ω _ _ ?_;refine bo (fun σ H'=>∃m:Int,0≤m∧m≤12∧σ=[some (.ref l),some (.ref p),some (.ref q),some (.int m),none,none,none,none,none,none,none,none,none,none,none]∧au H1 H') ?_ ?_
 ·intro u' hu
  walk_at "rd";exact⟨l,ns,5,rfl,hS1,hB,by decide,by decide,fun H2 s2=>⟨_,rfl,by decide,hu _ _ ⟨_,by omega,by omega,rfl,s2⟩⟩⟩
 intro Ω ω;rintro _ H2 ⟨m,m0,m12,rfl,s2⟩;refine ω _ _ ?_;refine bo (fun σ H'=>∃(f:Addr) (Rs:List aQ),cL K H' f Rs∧jN bs.length Rs∧eD bs Rs≤400∧σ=[some (.ref l),some (.ref p),some (.ref q),some (.int m),some (.ref f),none,none,none,none,none,none,none,none,none,none]∧au H1 H') ?_ ?_
 ·intro u' hu
  walk_at "rd";refine⟨l,ns,_,_,rfl,s2.seq hS1,hB,hn,by decide,by decide,by omega,by omega,fun c H3 hc s3=>?_⟩;have s13:=s2.trans s3;exact⟨c,p,_,bs,rfl,aT.of hc,fun n hn=>GM.cellsF_nn hn,mI ns 6 m m0 m12,hp.same s13,okb.1,okb.2.2.1,okb.2.2.2,fun f Rs H4 _ hf ho hw s4=>hu _ _ ⟨f,Rs,hf,ho,hw,rfl,s13.trans s4⟩⟩
 clear s2;clear H2;intro Ω ω;rintro _ H2 ⟨f,Rs,hf,okr,hwr,rfl,s2⟩;refine ω _ _ ?_;refine bo (fun σ H'=>∃(g:Addr) (Ss:List aQ),cL K H' g Ss∧jN cs.length Ss∧eD cs Ss≤400∧σ=[some (.ref l),some (.ref p),some (.ref q),some (.int m),some (.ref f),some (.ref g),none,none,none,none,none,none,none,none,none]∧au H2 H') ?_ ?_
 ·intro u' hu
  walk_at "rd";refine⟨l,ns,5,rfl,s2.seq hS1,hB,by decide,by decide,fun H3 s3=>?_⟩;walk_at "rd";refine⟨⟨by decide,by decide⟩,by decide,l,ns,_,_,rfl,(s2.trans s3).seq hS1,hB,hn,by decide,by decide,by omega,by omega,fun c H4 hc s4=>?_⟩;have s24:=s3.trans s4;exact⟨c,q,_,cs,rfl,aT.of hc,fun n hn=>GM.cellsF_nn hn,mI ns 18 _ (by omega) (by omega),hq.same (s2.trans s24),okc.1,okc.2.2.1,okc.2.2.2,fun g Ss H5 _ hg ho hw s5=>hu _ _ ⟨g,Ss,hg,ho,hw,rfl,s24.trans s5⟩⟩
 intro Ω ω;rintro _ H3 ⟨g,Ss,hg,oks,hws,rfl,s3⟩;have hf3:=hf.same' s3;have hp3:=hp.same (s2.trans s3);have hq3:=hq.same (s2.trans s3);have hS3:=(s2.trans s3).seq hS1;clear hf hp hq hS1 s2 s3;clear H1 H2;refine ω _ _ ?_;refine bo (fun σ H'=>∃x:Addr,bj P w K mg base C bs.length bs Rs x H'∧σ=[some (.ref l),some (.ref p),some (.ref q),some (.int m),some (.ref f),some (.ref g),some (.ref x),none,none,none,none,none,none,none,none]∧au H3 H') ?_ ?_
 ·intro u' hu
  walk_at "rd";exact⟨p,f,bs,Rs,rfl,hp3,hf3,by have:=okb.1.2.1;omega,by have:=okr.1;omega,okb.num,okr.ok,fun H4 s4=>vE okb okr hwr fun x H5 hx s5=>hu _ _ ⟨x,hx,rfl,s4.trans s5⟩⟩
 intro Ω ω;rintro _ H4 ⟨x,hx,rfl,s4⟩;refine ω _ _ ?_;refine bo (fun σ H'=>∃y:Addr,bj P w K mg base C cs.length cs Ss y H'∧σ=[some (.ref l),some (.ref p),some (.ref q),some (.int m),some (.ref f),some (.ref g),some (.ref x),some (.ref y),none,none,none,none,none,none,none]∧au H4 H') ?_ ?_
 ·intro u' hu
  walk_at "rd";exact⟨q,g,cs,Ss,rfl,hq3.same s4,hg.same' s4,by have:=okc.1.2.1;omega,by have:=oks.1;omega,okc.num,oks.ok,fun H5 s5=>vE okc oks hws fun y H6 hy s6=>hu _ _ ⟨y,hy,rfl,s5.trans s6⟩⟩
 intro Ω ω;rintro _ H5 ⟨y,hy,rfl,s5⟩;have s35:=s4.trans s5;have A1:rh P w K mg base C p f x bs Rs H5:=⟨hp3.same s35,hf3.same' s35,hx.same s5,okb,okr⟩;have A2:rh P w K mg base C q g y cs Ss H5:=⟨hq3.same s35,hg.same' s35,hy,okc,oks⟩;have hS5:=s35.seq hS3;clear hp3 hq3 hf3 hg hx hy hS3 s4 s5 s35 okb okc okr oks hwr hws;clear H3 H4;refine ω _ _ ?_;refine bo (fun σ H'=>∃(q g y:Addr) (cs:List (Int×Int)) (Ss:List aQ),rh P w K mg base C q g y cs Ss H'∧σ=[some (.ref l),some (.ref p),some (.ref q),some (.int m),some (.ref f),some (.ref g),some (.ref x),some (.ref y),none,none,none,none,none,none,none]∧au H5 H') ?_ ?_
 ·intro u' hu
  walk_at "rd";refine⟨l,ns,5,rfl,hS5,hB,by decide,by decide,fun H6 s6=>?_⟩;walk_at "rd";refine⟨⟨by decide,by decide⟩,by decide,?_⟩
  by_cases h:GM.gotF ns 5 / 169 % 8=3
  ·rw [if_pos h]
   simp only [BQ];walk_at "rd";exact hu _ _ ⟨p,f,x,bs,Rs,A1.same s6,rfl,s6⟩
  ·rw [if_neg h]
   exact hu _ _ ⟨q,g,y,cs,Ss,A2.same s6,rfl,s6⟩
 clear A2;clear q g y cs Ss;intro Ω ω;rintro _ H6 ⟨q,g,y,cs,Ss,A2,rfl,s6⟩;have C1:=A1.same s6;have hS6:=s6.seq hS5;clear A1 hS5 s6;clear H5;refine ω _ _ ?_;refine bo (fun σ H'=>∃(v8 v9:V),xC H' v9 (eC bs cs (Rs++Ss))∧(eC bs cs (Rs++Ss)=.ok→∃z,v8=.ref z∧bj P w K mg base C bs.length (bL bs cs) (Rs++Ss) z H')∧σ=[some (.ref l),some (.ref p),some (.ref q),some (.int m),some (.ref f),some (.ref g),some (.ref x),some (.ref y),some v8,some v9,none,none,none,none,none]∧au H6 H') ?_ ?_
 ·intro u' hu
  walk_at "rd";refine⟨x,y,bs,cs,Rs,Ss,rfl,C1.sc,A2.sc,C1.ob.1,A2.ob.1,C1.os,A2.os,fun n e t t' H' ht ht' s=>?_,fun n e t t' H' ht ht' s=>?_,fun n e t t' H' ht ht' s=>?_,fun e t z H' ht hz s=>?_⟩
  ·walk_at "rd"
   exact⟨_,cD.of ht,rfl,_,_,rfl,_,_,rfl,rfl,hu _ _ ⟨.non,.ref t',by rw [e];exact⟨t',rfl,ht'⟩,fun e'=>(nomatch e.symm.trans e'),rfl,s⟩⟩
  ·walk_at "rd"
   exact⟨_,cD.of ht,rfl,_,_,rfl,_,_,rfl,rfl,hu _ _ ⟨.non,.ref t',by rw [e];exact⟨t',rfl,ht'⟩,fun e'=>(nomatch e.symm.trans e'),rfl,s⟩⟩
  ·walk_at "rd"
   exact⟨_,cD.of ht,rfl,_,_,rfl,_,_,rfl,rfl,hu _ _ ⟨.non,.ref t',by rw [e];exact⟨t',rfl,ht'⟩,fun e'=>(nomatch e.symm.trans e'),rfl,s⟩⟩
  ·walk_at "rd"
   exact⟨_,cD.of ht,rfl,_,_,rfl,_,_,rfl,rfl,hu _ _ ⟨.ref z,.non,by rw [e];exact rfl,fun _=>⟨z,rfl,hz⟩,rfl,s⟩⟩
 intro Ω ω;rintro _ H7 ⟨v8,v9,hd,hz,rfl,s7⟩;have B2:=A2.same s7;have B1:=C1.same s7;have hS7:=s7.seq hS6;clear A2 C1 hS6 s7;clear H6;obtain⟨ps,hps,hpl,hpc⟩:=id B1.ru;obtain⟨qs,hqs,hql,hqc⟩:=id B2.ru;have r12:=B1.os.1;have s12:=B2.os.1;have tl:∀R∈Rs++Ss,(bN R).length≤20000:=fun R hR=>(ac1.mp hR).elim (B1.os.ok R) (B2.os.ok R);have sl:∀R∈Rs++Ss,(fP R).natAbs < 2 ^ 60:=fun R hR=>(ac1.mp hR).elim (fun h=>(B1.os.2 R h).2.2) (fun h=>(B2.os.2 R h).2.2);refine ω _ _ ?_;refine bo (fun σ H'=>∃(v10:V),xC H' v10 (eC bs cs (Rs++Ss))∧σ=[some (.ref l),some (.ref p),some (.ref q),some (.int m),some (.ref f),some (.ref g),some (.ref x),some (.ref y),some v8,some v9,some v10,none,none,none,none]∧au H7 H') ?_ ?_
 ·intro u' hu
  walk_at "rd";refine il hps hqs (by rw [aa0,aa0];omega) fun q' hq'=>?_;have s8:au H7 (upd H7 q' (.lst (ps.map V.ref++qs.map V.ref))):=av hq';have e8:(upd H7 q' (.lst (ps.map V.ref++qs.map V.ref))) q'=_:=ag;generalize upd H7 q' (.lst (ps.map V.ref++qs.map V.ref))=H8 at s8 e8;refine⟨p,q,q',bs,cs,Rs++Ss,rfl,B1.ra.same s8,B2.ra.same s8,cL.add (f:=f) (g:=g) hpl hpc hql hqc s8 e8,B1.ob.1,B2.ob.1,by rw [ab4];omega,sl,fun n e t H' ht s=>hu _ _ ⟨_,by rw [e];exact⟨t,rfl,ht⟩,rfl,s8.trans s⟩,fun n e t H' ht s=>hu _ _ ⟨_,by rw [e];exact⟨t,rfl,ht⟩,rfl,s8.trans s⟩,fun n e t H' ht s=>hu _ _ ⟨_,by rw [e];exact⟨t,rfl,ht⟩,rfl,s8.trans s⟩,fun e H' s=>hu _ _ ⟨.non,by rw [e];exact rfl,rfl,s8.trans s⟩⟩
 intro Ω ω;rintro _ H8 ⟨v10,hd',rfl,s8⟩;refine ω _ _ ?_;refine bo (fun σ H'=>σ=[some (.ref l),some (.ref p),some (.ref q),some (.int m),some (.ref f),some (.ref g),some (.ref x),some (.ref y),some v8,some v9,some v10,none,none,none,none]∧au H8 H') ?_ ?_
 ·intro u' hu
  walk_at "rd";refine sY TC (B1.same s8) fun H9 s9=>?_;walk_at "rd";refine vQ (B1.same (s8.trans s9)) fun Ha sa=>?_;walk_at "rd";refine sY TC (B2.same ((s8.trans s9).trans sa)) fun Hb sb=>?_;walk_at "rd";refine vQ (B2.same (((s8.trans s9).trans sa).trans sb)) fun Hc sc=>?_;walk_at "rd";exact hu _ _ ⟨rfl,((s9.trans sa).trans sb).trans sc⟩
 intro Ω ω;rintro _ H9 ⟨rfl,s9⟩;have hd9:=hd'.same s9;have s79:=s8.trans s9;clear hd' s8 s9;clear H8;refine ω _ _ ?_;refine bo (fun σ H'=>v10=.non∧σ=[some (.ref l),some (.ref p),some (.ref q),some (.int m),some (.ref f),some (.ref g),some (.ref x),some (.ref y),some v8,some v9,some v10,none,none,none,none]∧H9=H') ?_ ?_
 ·intro u' hu
  walk_at "rd"
  by_cases h:v10=.non
  ·rw [if_pos h]
   exact hu _ _ ⟨h,rfl,rfl⟩
  ·rw [if_neg h]
   exact xC.eq h (k _) (hd.same s79) hd9
 intro Ω ω;rintro _ _ ⟨rfl,rfl,rfl⟩;have ok:=hd9.non;obtain⟨z,rfl,hz7⟩:=hz ok;obtain⟨hbc,l12⟩:=Cb ok
 have hml:(bL bs cs).length=bs.length:=by unfold bL;rw [ae2,←hbc,ah2]
 have b4:=B1.ob.1.2.1;have A1:=B1.same s79;have A2:=B2.same s79;have Z:=hz7.same s79;have hS9:=s79.seq hS7;have hps9:=s79 _ _ hps;have hqs9:=s79 _ _ hqs;have hpc9:=fun i p R e1 e2=>s79 _ _ (hpc i p R e1 e2);have hqc9:=fun i p R e1 e2=>s79 _ _ (hqc i p R e1 e2);have nm:=Ax B1.ob.num B2.ob.num;clear hd9 hd hz hz7 B1 B2 hS7 hps hqs hpc hqc s79;clear H7;have shownZ:∀{Hc:Hp} {Q:VK} {E} {z:Addr},bj P w K mg base C bs.length (bL bs cs) (Rs++Ss) z Hc→(∀H',au Hc H'→Q (.str (fQ (bL bs cs) (Rs++Ss))) H')→iD P w K mg base [.ref z] Hc Q E:=fun {Hc Q E z} hz q=>⟨z,C,bs.length,bL bs cs,Rs++Ss,rfl,TC,hz,by omega,l12,nm,tl,q⟩;refine ω _ _ ?_;refine bo (fun σ H'=>σ=[some (.ref l),some (.ref p),some (.ref q),some (.int m),some (.ref f),some (.ref g),some (.ref x),some (.ref y),some (.ref z),some v9,some .non,none,none,none,none]∧au H9 H') ?_ ?_
 ·intro u' hu
  walk_at "rd";refine shownZ Z fun Ha sa=>?_;walk_at "rd";refine⟨p,q,bs,cs,rfl,A1.ra.same sa,A2.ra.same sa,hbc,b4,fun me Hb hme sb=>?_⟩;walk_at "rd";have sab:=sa.trans sb;refine il (sab _ _ hps9) (sab _ _ hqs9) (by rw [aa0,aa0];omega) fun q' hq'=>?_;have s8:au Hb (upd Hb q' (.lst (ps.map V.ref++qs.map V.ref))):=av hq';have e8:(upd Hb q' (.lst (ps.map V.ref++qs.map V.ref))) q'=_:=ag;generalize upd Hb q' (.lst (ps.map V.ref++qs.map V.ref))=Hc at s8 e8;refine⟨me,q',bL bs cs,Rs++Ss,rfl,hme.same s8,cL.add (f:=f) (g:=g) hpl hpc9 hql hqc9 (sab.trans s8) e8,by omega,by omega,nm,tl,fun Hd sd=>?_⟩;walk_at "rd";exact hu _ _ ⟨rfl,(sab.trans s8).trans sd⟩
 intro Ω ω;rintro _ Ha ⟨rfl,sa⟩;refine ω _ _ ?_;refine bo (fun σ H'=>∃z',bj P w K mg base C bs.length (bL bs cs) (Rs++Ss) z' H'∧σ=[some (.ref l),some (.ref p),some (.ref q),some (.int m),some (.ref f),some (.ref g),some (.ref x),some (.ref y),some (.ref z),some v9,some .non,some (.ref z'),none,none,none]∧au H9 H') ?_ ?_
 ·intro u' hu
  have A1a:=A1.same sa;walk_at "rd";refine⟨p,f,bs,Rs,rfl,A1a.ra,A1a.ru,A1a.ob.1,A1a.os,fun x' Hb hx' sb=>?_⟩;have sab:=sa.trans sb;have A2a:=A2.same sab;walk_at "rd";refine⟨q,g,cs,Ss,rfl,A2a.ra,A2a.ru,A2a.ob.1,A2a.os,fun y' Hc hy' sc=>?_⟩;walk_at "rd";exact⟨x',y',bs,cs,Rs,Ss,rfl,hx'.same sc,hy',A1.ob.1,A2.ob.1,A1.os,A2.os,ok,fun z' Hd hz' sd=>hu _ _ ⟨z',hz',rfl,(sab.trans sc).trans sd⟩⟩
 clear sa;clear Ha;intro Ω ω;rintro _ Ha ⟨z',hz',rfl,sa⟩;refine ω _ _ ?_;refine bo (fun σ H'=>σ=[some (.ref l),some (.ref p),some (.ref q),some (.int m),some (.ref f),some (.ref g),some (.ref x),some (.ref y),some (.ref z),some v9,some .non,some (.ref z'),none,none,none]∧au Ha H') ?_ ?_
 ·intro u' hu
  walk_at "rd";refine shownZ hz' fun Hb sb=>?_;walk_at "rd";refine shownZ (Z.same (sa.trans sb)) fun Hc sc=>?_;walk_at "rd";exact hu _ _ ⟨rfl,sb.trans sc⟩
 intro Ω ω;rintro _ Hb ⟨rfl,sb⟩;have s9b:=sa.trans sb;refine ω _ _ ?_;refine bo (fun σ H'=>∃(li:Addr) (cols:List (List Int)),dX K H' li bs.length cols∧cols.length≤63∧σ=[some (.ref l),some (.ref p),some (.ref q),some (.int m),some (.ref f),some (.ref g),some (.ref x),some (.ref y),some (.ref z),some v9,some .non,some (.ref z'),some (.ref li),none,none]∧au Hb H') ?_ ?_
 ·intro u' hu
  walk_at "rd";exact⟨l,p,ns,bs,rfl,s9b.seq hS9,hB,hn,A1.ra.same s9b,A1.ob.1,A1.ob.2.1,fun li cols Hc hli hcl _ sc=>hu _ _ ⟨li,cols,hli,hcl,rfl,sc⟩⟩
 intro Ω ω;rintro _ Hc ⟨li,cols,⟨ls,hls,hll,hlc⟩,hcl,rfl,sc⟩;have s9c:=s9b.trans sc;have B1:=A1.same s9c;have B2:=A2.same s9c;have Y:=Z.same s9c;have Y':=hz'.same (sb.trans sc);clear A1 A2 Z hz' hS9 hps9 hqs9 hpc9 hqc9 s9b s9c sa sb sc;clear H9 Ha Hb;refine ω _ _ ?_;refine bo (fun σ H'=>True) ?_ ?_
 ·intro u' hu
  walk_at "rd";refine⟨_,.inl hls,⟨by decide,by decide⟩,dP hls fun hf hhf=>?_⟩
  have eh:(((ls.map V.ref).length:Nat):Int) / 2=((cols.length / 2:Nat):Int):=by rw [aa0,hll];rfl
  rw [eh,fS,←List.map_take];have s1:au Hc (upd Hc hf (.lst ((ls.take (cols.length / 2)).map V.ref))):=av hhf;have e1:(upd Hc hf (.lst ((ls.take (cols.length / 2)).map V.ref))) hf=some (.lst ((ls.take (cols.length / 2)).map V.ref)):=ag;generalize upd Hc hf (.lst ((ls.take (cols.length / 2)).map V.ref))=H1 at s1 e1;refine⟨by omega,fun em hem=>?_⟩;have s2:au H1 (upd H1 em (.lst [])):=av hem;have e2:(upd H1 em (.lst [])) em=some (.lst []):=ag;generalize upd H1 em (.lst [])=H2 at s2 e2;refine⟨by omega,fun tt htt=>?_⟩;have s3:au H2 (upd H2 tt (.lst [.ref li,.ref hf,.ref em])):=av htt;have e3:(upd H2 tt (.lst [.ref li,.ref hf,.ref em])) tt=some (.lst [.ref li,.ref hf,.ref em]):=ag;generalize upd H2 tt (.lst [.ref li,.ref hf,.ref em])=H3 at s3 e3;have s13:=(s1.trans s2).trans s3;have hlc3:∀(i:Nat) (p:Addr) (us:List Int),ls[i]?=some p→cols[i]?=some us→cD K H3 p (us.map V.int)∧us.length=bs.length:=fun i p us h1 h2=>⟨s13.tup (hlc i p us h1 h2).1,(hlc i p us h1 h2).2⟩
  have hall:∀v∈[V.ref li,.ref hf,.ref em],∃t cs',v=.ref t∧dX K H3 t bs.length cs'∧cs'.length≤63:=by
   intro v hv;simp only [aa6,ag2,or_false]at hv;rcases hv with rfl | rfl | rfl
   ·exact⟨li,cols,rfl,⟨ls,s13.seq hls,hll,hlc3⟩,hcl⟩
   ·refine⟨hf,(cols.drop 0).take (cols.length / 2),rfl,dX.sub (l:=li) hll hlc3 0 (cols.length / 2) (aT.of (by rw [List.drop_zero];exact(s2.trans s3) _ _ e1)),?_⟩
    rw [List.drop_zero,ac6];omega
   ·exact⟨em,[],rfl,⟨[],aT.of (s3 _ _ e2),rfl,fun i p us e=>(by cases e)⟩,by decide⟩
  have W1:=B1.same s13;have W2:=B2.same s13;have WY:=Y.same s13;have WY':=Y'.same s13;refine bZ (aT.of e3) (dU (xs:=[.ref li,.ref hf,.ref em]) (fun i σ H'=>∃o13 o14:Option V,σ=[some (.ref l),some (.ref p),some (.ref q),some (.int m),some (.ref f),some (.ref g),some (.ref x),some (.ref y),some (.ref z),some v9,some .non,some (.ref z'),some (.ref li),o13,o14]∧au H3 H') ⟨none,none,rfl,au.refl _⟩ (fun i σ H' _ ⟨_,_,_,z⟩=>z.seq (aT.of e3)) ?_ ?_)
  ·clear s1 s2 s3 s13 e1 e2 e3 hhf hem htt hlc3 B1 B2 Y Y' hls hlc
   clear H1 H2 Hc;rintro i v σ H4 hv ⟨o13,o14,rfl,s4⟩;obtain⟨t,cs',rfl,hL,hL63⟩:=hall v (ad1 hv);clear hv hall;obtain⟨ts,hts,htl,_⟩:=id W1.ra;obtain⟨fs,hfs,hfl,_⟩:=id W1.ru
   have hL2:dX K H3 t cs.length cs':=by rw [←hbc];exact hL
   have hL3:dX K H3 t (bL bs cs).length cs':=by rw [hml];exact hL
   have WZ:bj P w K mg base C (bL bs cs).length (bL bs cs) (Rs++Ss) z H3:=by rw [hml];exact WY
   have WZ':bj P w K mg base C (bL bs cs).length (bL bs cs) (Rs++Ss) z' H3:=by rw [hml];exact WY'
   refine bo (fun σ H'=>∃(w14:V) (o1 o2:Option (Int×Int)),g4 K H' w14 (vt o1 (o2.map (eA bs.length Rs.length)))∧d9 (BY bs Rs cs') o1∧d9 (BY cs Ss cs') o2∧σ=[some (.ref l),some (.ref p),some (.ref q),some (.int m),some (.ref f),some (.ref g),some (.ref x),some (.ref y),some (.ref z),some v9,some .non,some (.ref z'),some (.ref li),some (.ref t),some w14]∧au H3 H') ?_ ?_
   ·intro u2 yl
    walk_at "rd";refine jE TC (W1.sc.same s4) (hL.same s4) hL63 b4 r12 fun v1 o1 H5 hv1 ho1 s5=>?_;walk_at "rd";have s45:=s4.trans s5;refine jE TC (W2.sc.same s45) (hL2.same s45) hL63 (by omega) s12 fun v2 o2 H6 hv2 ho2 s6=>?_;walk_at "rd";have s46:=s45.trans s6;refine⟨_,.inl (s46.seq hts),_,.inl (aT.of (s46 _ _ hfs)),?_⟩;rw [aa0,aa0,htl,hfl];exact⟨v1,v2,o1,o2,bs.length,Rs.length,rfl,hv1.same s6,hv2,fun v H7 hv s7=>yl _ _ ⟨v,o1,o2,hv,ho1,ho2,rfl,s46.trans s7⟩⟩
   clear s4;clear H4 o13 o14;intro Ω ω;rintro _ H4 ⟨w14,o1,o2,hw,ho1,ho2,rfl,s4⟩;refine ω _ _ ?_;walk_at "rd";refine jE TC (WZ.same s4) (hL3.same s4) hL63 (by omega) l12 fun v1 o H5 hv1 ho s5=>?_;walk_at "rd";rw [pf hbc ho1 ho2 ho]at hv1;refine hv1.ne (hw.same s5) ?_;walk_at "rd";have s45:=s4.trans s5;refine jE TC (WZ'.same s45) (hL3.same s45) hL63 (by omega) l12 fun v1' o' H6 hv1' ho' s6=>?_;walk_at "rd";rw [pf hbc ho1 ho2 ho']at hv1';refine hv1'.ne (hw.same (s5.trans s6)) ?_;walk_at "rd";exact s45.trans s6
  ·rintro σ H4 ⟨o13,o14,rfl,_⟩
   exact hu _ _ trivial
 intro Ω ω;rintro σ Hd _;refine ω _ _ ?_;walk_at "rd";exact k _
end
theorem mU{K:Frag}{C:Addr}:kitOne K (.ref C) (.ref C)=some true:=by
 unfold kitOne;simp
section
variable {P:Program} {w:World} {K:Frag} {mg:Str→Option Value} {base:Heap}
theorem zp{C:Addr}(TC:jx K C)(h:aA P w K mg base C "shown" 7 ["self"] (cK K))(row:Str)(a b:Int)(D:List Int):pR P w K mg base C (fY C row a b D) row:=iz TC.cl TC.n1 h fun r H ⟨dx,n,x,_⟩=>⟨dx,_,x,by unfold dH;walk_at "flds",by unfold dH;walk_at "flds"⟩
theorem xi{C:Addr}(TC:g8 K C)(h:aA P w K mg base C "shown" 7 ["self"] (cK K))(row:Str)(a b c:Int)(D:List Int):pR P w K mg base C (eT C row a b c D) row:=iz TC.cl TC.n1 h fun r H ⟨dx,n,x,_⟩=>⟨dx,_,x,by unfold cy;walk_at "flds",by unfold cy;walk_at "flds"⟩
theorem zo{C:Addr}(TC:jw K C)(h:aA P w K mg base C "shown" 7 ["self"] (cK K))(row:Str)(a:Int)(D:List Int):pR P w K mg base C (fX C row a D) row:=iz TC.cl TC.n1 h fun r H ⟨dx,n,x,_⟩=>⟨dx,_,x,by unfold et;walk_at "flds",by unfold et;walk_at "flds"⟩
theorem xh{C:Addr}(TC:g7 K C)(h:aA P w K mg base C "shown" 7 ["self"] (cK K))(row:Str)(a b:Int)(D:List Int):pR P w K mg base C (eS C row a b D) row:=iz TC.cl TC.n1 h fun r H ⟨dx,n,x,_⟩=>⟨dx,_,x,by unfold dj;walk_at "flds",by unfold dj;walk_at "flds"⟩
theorem zk{C:Addr}(TC:jv K C)(h:aA P w K mg base C "shown" 7 ["self"] (cK K))(row:Str)(a c:Int):pR P w K mg base C (eG C row a c) row:=iz TC.cl TC.n1 h fun r H ⟨dx,x⟩=>⟨dx,_,x,by unfold er;walk_at "flds",by unfold er;walk_at "flds"⟩
theorem zm{C:Addr}(TC:iH K C)(h:aA P w K mg base C "shown" 7 ["self"] (cK K))(row:Str)(a c:Int):pR P w K mg base C (eH C row a c) row:=iz TC.cl TC.n1 h fun r H ⟨dx,x⟩=>⟨dx,_,x,by unfold dG;walk_at "flds",by unfold dG;walk_at "flds"⟩
theorem xk{C:Addr}(TC:fA K C)(h:aA P w K mg base C "shown" 7 ["self"] (cK K))(row:Str)(a c d e:Int):pR P w K mg base C (dh C row a c d e) row:=iz TC.cl TC.n1 h fun r H ⟨dx,x⟩=>⟨dx,_,x,by unfold bR;walk_at "flds",by unfold bR;walk_at "flds"⟩
theorem xj{C:Addr}(TC:gr K C)(h:aA P w K mg base C "shown" 7 ["self"] (cK K))(row:Str)(t u:Int)(RIn:ju):pR P w K mg base C (d4 C row t u RIn) row:=iz TC.cl TC.n1 h fun r H ⟨dx,n,x,_⟩=>⟨dx,_,x,by unfold bW;walk_at "flds",by unfold bW;walk_at "flds"⟩
end
theorem i0{us:List Value}(hl:us.length=1):∃x0,us=[x0]:=match us,hl with | [x0],_=>⟨x0,rfl⟩
theorem nW{us:List Value}(hl:us.length=2):∃x0 x1,us=[x0,x1]:=match us,hl with | [x0,x1],_=>⟨x0,x1,rfl⟩
theorem oS{us:List Value}(hl:us.length=3):∃x0 x1 x2,us=[x0,x1,x2]:=match us,hl with | [x0,x1,x2],_=>⟨x0,x1,x2,rfl⟩
theorem xv{us:List Value}(hl:us.length=4):∃x0 x1 x2 x3,us=[x0,x1,x2,x3]:=match us,hl with | [x0,x1,x2,x3],_=>⟨x0,x1,x2,x3,rfl⟩
theorem E9{us:List Value}(hl:us.length=5):∃x0 x1 x2 x3 x4,us=[x0,x1,x2,x3,x4]:=match us,hl with | [x0,x1,x2,x3,x4],_=>⟨x0,x1,x2,x3,x4,rfl⟩
theorem Fl{us:List Value}(hl:us.length=6):∃x0 x1 x2 x3 x4 x5,us=[x0,x1,x2,x3,x4,x5]:=match us,hl with | [x0,x1,x2,x3,x4,x5],_=>⟨x0,x1,x2,x3,x4,x5,rfl⟩
theorem all_mk{l:PySem.W.OpenLaw}{w:World}{K:Frag}{h:Heap}{mg:Str→Option Value}{fa:Addr}{Zag:Addr}{Zah:Addr}{Zai:Addr}{Zaj:Addr}{Zae:Addr}{Zaf:Addr}{Zad:Addr}{Zak:Addr}{Zat:Addr}{Zau:Addr}{Zav:Addr}{Zaw:Addr}{Zab:Addr}{Zaa:Addr}{Zac:Addr}{Zax:Addr}{Zay:Addr}{Zaz:Addr}{Za0:Addr}{Za1:Addr}{Za2:Addr}{Za3:Addr}{Za8:Addr}{Zbm:FuncData}{Za9:Addr}{Zbn:FuncData}{Zba:Addr}{Zbo:FuncData}{Zbb:Addr}{Zbp:FuncData}{Zbc:Addr}{Zbq:FuncData}{Zbd:Addr}{Zbr:FuncData}{Zbe:Addr}{Zbs:FuncData}{a_MAKERS:Addr}{D_MAKERS:List (Str×V)}{a_INNER_KINDS:Addr}(X:K.In h)(G:h.Ns mainGlobals mg)(hfa:mg "law"=some (.ref fa))
  (Zgm:nsIn K mainGlobals "Span"=some (some (.ref Zag)))
  (Zao:jx K Zag)
  (Zgn:nsIn K mainGlobals "Clock"=some (some (.ref Zah)))
  (Zap:g8 K Zah)
  (Zgo:nsIn K mainGlobals "Move"=some (some (.ref Zai)))
  (Zaq:jw K Zai)
  (Zgp:nsIn K mainGlobals "Alike"=some (some (.ref Zaj)))
  (Zar:g7 K Zaj)
  (Zgq:nsIn K mainGlobals "Back"=some (some (.ref Zae)))
  (Zas:jv K Zae)
  (Zgr:nsIn K mainGlobals "Held"=some (some (.ref Zaf)))
  (Zam:iH K Zaf)
  (Zgs:nsIn K mainGlobals "Times"=some (some (.ref Zad)))
  (Zal:fA K Zad)
  (Zgt:nsIn K mainGlobals "Every"=some (some (.ref Zak)))
  (Zan:gr K Zak)
  (Zgu:nsIn K mainGlobals "Score"=some (some (.ref Zat)))
  (Za6:dw K Zat)
  (Zbt:nsIn K mainGlobals "ScoreError"=some (some (.ref Zau)))
  (Zbu:nsIn K mainGlobals "BadRow"=some (some (.ref Zav)))
  (Zbv:nsIn K mainGlobals "BadLine"=some (some (.ref Zaw)))
  (Zbf:nsIn K mainGlobals "TooWide"=some (some (.ref Zab)))
  (Zbg:nsIn K mainGlobals "Apart"=some (some (.ref Zaa)))
  (Zbh:nsIn K mainGlobals "Crowded"=some (some (.ref Zac)))
  (Zbw:nsIn K mainGlobals "NoNumber"=some (some (.ref Zax)))
  (Zbx:nsIn K mainGlobals "Unlike"=some (some (.ref Zay)))
  (Zby:nsIn K mainGlobals "Unfit"=some (some (.ref Zaz)))
  (Zbz:nsIn K mainGlobals "NoLine"=some (some (.ref Za0)))
  (Zb0:nsIn K mainGlobals "NoName"=some (some (.ref Za1)))
  (Zb1:nsIn K mainGlobals "Endless"=some (some (.ref Za2)))
  (Zb2:nsIn K mainGlobals "NoRow"=some (some (.ref Za3)))
  (Zb3:∃f fd,q9 K Zab f ["__setattr__","__getattribute__","__getattr__","__class__","weight"]∧cT K "__init__" "TooWide.__init__" d8 f fd)
  (Zb4:∃f fd,q9 K Zaa f ["__setattr__","__getattribute__","__getattr__","__class__","voice"]∧cT K "__init__" "Apart.__init__" eJ f fd)
  (Zb5:∃f fd,q9 K Zac f ["__setattr__","__getattribute__","__getattr__","__class__","many"]∧cT K "__init__" "Crowded.__init__" d7 f fd)
  (Zb6:exmOne K (.ref Zaa) (.ref Zaa)=some true)
  (Zb7:exmOne K (.ref Zac) (.ref Zaa)=some false)
  (Zb8:exmOne K (.ref Zac) (.ref Zac)=some true)
  (Zb9:exmOne K (.ref Zab) (.ref Zaa)=some false)
  (Zca:exmOne K (.ref Zab) (.ref Zac)=some false)
  (Zcb:exmOne K (.ref Zab) (.ref Zab)=some true)
  (Zcc:kitOne K (.ref Zab) (.ref Zau)=some true)
  (Zcd:kitOne K (.ref Zab) (.type "ValueError")=some true)
  (Zce:kitOne K (.ref Zab) (.ref Zav)=some false)
  (Zcf:kitOne K (.ref Zab) (.ref Zaw)=some false)
  (Zcg:kitOne K (.ref Zab) (.ref Zaa)=some false)
  (Zch:kitOne K (.ref Zab) (.ref Zac)=some false)
  (Zci:kitOne K (.ref Zab) (.ref Zax)=some false)
  (Zcj:kitOne K (.ref Zab) (.ref Zay)=some false)
  (Zck:kitOne K (.ref Zab) (.ref Zaz)=some false)
  (Zcl:kitOne K (.ref Zab) (.ref Za0)=some false)
  (Zcm:kitOne K (.ref Zab) (.ref Za1)=some false)
  (Zcn:kitOne K (.ref Zab) (.ref Za2)=some false)
  (Zco:kitOne K (.ref Zab) (.ref Za3)=some false)
  (Zcp:kitOne K (.ref Zaa) (.ref Zau)=some true)
  (Zcq:kitOne K (.ref Zaa) (.type "ValueError")=some true)
  (Zcr:kitOne K (.ref Zaa) (.ref Zav)=some false)
  (Zcs:kitOne K (.ref Zaa) (.ref Zaw)=some false)
  (Zct:kitOne K (.ref Zaa) (.ref Zab)=some false)
  (Zcu:kitOne K (.ref Zaa) (.ref Zac)=some false)
  (Zcv:kitOne K (.ref Zaa) (.ref Zax)=some false)
  (Zcw:kitOne K (.ref Zaa) (.ref Zay)=some false)
  (Zcx:kitOne K (.ref Zaa) (.ref Zaz)=some false)
  (Zcy:kitOne K (.ref Zaa) (.ref Za0)=some false)
  (Zcz:kitOne K (.ref Zaa) (.ref Za1)=some false)
  (Zc0:kitOne K (.ref Zaa) (.ref Za2)=some false)
  (Zc1:kitOne K (.ref Zaa) (.ref Za3)=some false)
  (Zc2:kitOne K (.ref Zac) (.ref Zau)=some true)
  (Zc3:kitOne K (.ref Zac) (.type "ValueError")=some true)
  (Zc4:kitOne K (.ref Zac) (.ref Zav)=some false)
  (Zc5:kitOne K (.ref Zac) (.ref Zaw)=some false)
  (Zc6:kitOne K (.ref Zac) (.ref Zab)=some false)
  (Zc7:kitOne K (.ref Zac) (.ref Zaa)=some false)
  (Zc8:kitOne K (.ref Zac) (.ref Zax)=some false)
  (Zc9:kitOne K (.ref Zac) (.ref Zay)=some false)
  (Zda:kitOne K (.ref Zac) (.ref Zaz)=some false)
  (Zdb:kitOne K (.ref Zac) (.ref Za0)=some false)
  (Zdc:kitOne K (.ref Zac) (.ref Za1)=some false)
  (Zdd:kitOne K (.ref Zac) (.ref Za2)=some false)
  (Zde:kitOne K (.ref Zac) (.ref Za3)=some false)
  (Zdf:∃f fd,bF K "note_in" kR f fd)
  (Zdg:∃f fd,bF K "span" uv f fd)
  (Zdh:∃f fd,bF K "move" ur f fd)
  (Zdi:∃C f fd,l9 K "Rule" "__init__" "Rule.__init__" fh C f fd)
  (Zdj:∃f fd,aX K Zag "size" "Rule.size" eg f fd)
  (Zdk:∃f fd,aX K Zag "start" "Rule.start" ck f fd)
  (Zdl:∃f fd,aX K Zag "closes" "Rule.closes" cv f fd)
  (Zdm:∃f fd,aX K Zah "size" "Rule.size" eg f fd)
  (Zdn:∃f fd,aX K Zah "start" "Rule.start" ck f fd)
  (Zdo:∃f fd,aX K Zah "closes" "Rule.closes" cv f fd)
  (Zdp:∃f fd,aX K Zai "size" "Rule.size" eg f fd)
  (Zdq:∃f fd,aX K Zai "start" "Rule.start" ck f fd)
  (Zdr:∃f fd,aX K Zai "closes" "Rule.closes" cv f fd)
  (Zds:∃f fd,aX K Zaj "size" "Rule.size" eg f fd)
  (Zdt:∃f fd,aX K Zaj "start" "Rule.start" ck f fd)
  (Zdu:∃f fd,aX K Zaj "closes" "Rule.closes" cv f fd)
  (Zdv:∃f fd,aX K Zaf "start" "Rule.start" ck f fd)
  (Zdw:∃f fd,aX K Zaf "closes" "Rule.closes" cv f fd)
  (Zdx:∃f fd,aX K Zad "start" "Rule.start" ck f fd)
  (Zdy:∃f fd,aX K Zak "start" "Rule.start" ck f fd)
  (Zdz:∃f fd,aX K Zak "closes" "Rule.closes" cv f fd)
  (Zd0:∃f fd,aX K Zag "shown" "Rule.shown" bS f fd)
  (Zd1:∃f fd,aX K Zah "shown" "Rule.shown" bS f fd)
  (Zd2:∃f fd,aX K Zai "shown" "Rule.shown" bS f fd)
  (Zd3:∃f fd,aX K Zaj "shown" "Rule.shown" bS f fd)
  (Zd4:∃f fd,aX K Zae "shown" "Rule.shown" bS f fd)
  (Zd5:∃f fd,aX K Zaf "shown" "Rule.shown" bS f fd)
  (Zd6:∃f fd,aX K Zad "shown" "Rule.shown" bS f fd)
  (Zd7:∃f fd,aX K Zak "shown" "Rule.shown" bS f fd)
  (Zd8:∃f fd,aX K Zae "size" "Back.size" ip f fd)
  (Zd9:∃f fd,aX K Zae "start" "Back.start" gK f fd)
  (Zea:∃f fd,aX K Zaf "size" "Held.size" iq f fd)
  (Zeb:∃f fd,aX K Zad "size" "Times.size" gP f fd)
  (Zec:∃f fd,aX K Zak "size" "Every.size" gL f fd)
  (Zed:∃f fd,aX K Zag "after" "Span.after" gO f fd)
  (Zee:∃f fd,aX K Zah "after" "Clock.after" gg f fd)
  (Zef:∃f fd,aX K Zai "after" "Move.after" gN f fd)
  (Zeg:∃f fd,aX K Zaj "after" "Alike.after" gd f fd)
  (Zeh:∃f fd,aX K Zae "closes" "Back.closes" gf f fd)
  (Zei:∃f fd,aX K Zae "after" "Back.after" gJ f fd)
  (Zej:∃f fd,aX K Zaf "after" "Held.after" gM f fd)
  (Zek:∃f fd,aX K Zad "closes" "Times.closes" fJ f fd)
  (Zel:∃f fd,aX K Zad "after" "Times.after" gi f fd)
  (Zem:∃f fd,aX K Zak "after" "Every.after" gh f fd)
  (Zen:∃f fd,lR K "Span" "Span.__init__" fi Zag f fd)
  (Zeo:∃f fd,lR K "Clock" "Clock.__init__" eK Zah f fd)
  (Zep:∃f fd,lR K "Move" "Move.__init__" fg Zai f fd)
  (Zeq:∃f fd,lR K "Alike" "Alike.__init__" eI Zaj f fd)
  (Zer:∃f fd,lR K "Back" "Back.__init__" fe Zae f fd)
  (Zes:∃f fd,lR K "Held" "Held.__init__" ff Zaf f fd)
  (Zet:∃f fd,lR K "Times" "Times.__init__" eP Zad f fd)
  (Zeu:∃f fd,lR K "Every" "Every.__init__" eL Zak f fd)
  (Zev:∃f fd,bF K "is_number" iw f fd)
  (Zew:∃f fd,bF K "has_list" jg f fd)
  (Zex:∃f fd,bF K "are_voices" gQ f fd)
  (Zey:bF K "span_of" kT Za8 Zbm)
  (Zez:bF K "clock_of" jf Za9 Zbn)
  (Ze0:bF K "move_of" kQ Zba Zbo)
  (Ze1:bF K "alike_of" je Zbb Zbp)
  (Ze2:bF K "back_of" kL Zbc Zbq)
  (Ze3:bF K "held_of" kM Zbd Zbr)
  (Ze4:bF K "times_of" jl Zbe Zbs)
  (Ze5:∃f fd,bF K "plain_rule" gW f fd)
  (Ze6:∃f fd,bF K "every_rule" gR f fd)
  (Ze7:∃f fd u,xB K "read_rule" fT f fd u∧aN (.int 0) u)
  (Ze8:∃f fd,bF K "broken_at" iu f fd)
  (Ze9:∃f fd,lR K "Score" "Score.__init__" eO Zat f fd)
  (Zfa:∃f fd,bF K "weight" nB f fd)
  (Zfb:∃f fd,bF K "not_too_wide" fM f fd)
  (Zfc:∃f fd,bF K "first_outside" fk f fd)
  (Zfd:∃f fd,bF K "fault" qQ f fd)
  (Zfe:∃f fd,bF K "voice_range" gp f fd)
  (Zff:∃f fd,bF K "read" uu f fd)
  (Zfg:∃f fd,bF K "shown" qR f fd)
  (Zfh:∃f fd,bF K "common_range" fK f fd)
  (Zfi:∃f fd,bF K "common_ranges" fj f fd)
  (Zfj:∃f fd,bF K "joined" nA f fd)
  (Zfk:∃f fd,bF K "_law_stirred" gn f fd)
  (Zfl:∃f fd,bF K "_law_got" kO f fd)
  (Zfm:∃f fd,bF K "_law_cells" ix f fd)
  (Zfn:∃f fd,bF K "_law_ranges" gU f fd)
  (Zfo:∃f fd,bF K "_law_rule" jj f fd)
  (Zfp:∃f fd,bF K "_law_rules" iy f fd)
  (Zfq:∃f fd,bF K "_law_text" jk f fd)
  (Zfr:∃f fd,bF K "_law_met" kP f fd)
  (Zfs:∃f fd,bF K "_law_due" kN f fd)
  (Zft:∃f fd,bF K "_law_one_kind" fL f fd)
  (Zfu:∃f fd,bF K "_law_joined" gT f fd)
  (Zfv:∃f fd,bF K "_law_earlier" gj f fd)
  (Zfw:∃f fd,bF K "_law_made" ji f fd)
  (Zfx:∃f fd,bF K "_law_line" jh f fd)
  (n_MAKERS:nsIn K mainGlobals "MAKERS"=some (some (.ref a_MAKERS)))
  (t_MAKERS:ki K a_MAKERS D_MAKERS)
  (d_MAKERS_span:KTD.datumAt ("span":Str) D_MAKERS=some (.ref Za8))
  (d_MAKERS_clock:KTD.datumAt ("clock":Str) D_MAKERS=some (.ref Za9))
  (d_MAKERS_move:KTD.datumAt ("move":Str) D_MAKERS=some (.ref Zba))
  (d_MAKERS_alike:KTD.datumAt ("alike":Str) D_MAKERS=some (.ref Zbb))
  (d_MAKERS_back:KTD.datumAt ("back":Str) D_MAKERS=some (.ref Zbc))
  (d_MAKERS_held:KTD.datumAt ("held":Str) D_MAKERS=some (.ref Zbd))
  (d_MAKERS_times:KTD.datumAt ("times":Str) D_MAKERS=some (.ref Zbe))
  (n_INNER_KINDS:nsIn K mainGlobals "INNER_KINDS"=some (some (.ref a_INNER_KINDS)))
  (q_INNER_KINDS:xG K a_INNER_KINDS [.str "span",.str "clock"])
  (z_len:nsIn K mainGlobals "len"=some none)
  (z_range:nsIn K mainGlobals "range"=some none)
  (z_all:nsIn K mainGlobals "all"=some none)
  (z_min:nsIn K mainGlobals "min"=some none)
  (z_max:nsIn K mainGlobals "max"=some none)
  (z_abs:nsIn K mainGlobals "abs"=some none)
  (z_tuple:nsIn K mainGlobals "tuple"=some none)
  (z_list:nsIn K mainGlobals "list"=some none)
  (z_isinstance:nsIn K mainGlobals "isinstance"=some none)
  (z_bool:nsIn K mainGlobals "bool"=some none)
  (z_int:nsIn K mainGlobals "int"=some none)
  (z_str:nsIn K mainGlobals "str"=some none)
  (z_divmod:nsIn K mainGlobals "divmod"=some none)
  (z_enumerate:nsIn K mainGlobals "enumerate"=some none)
  (z_ValueError:nsIn K mainGlobals "ValueError"=some none)
  (g_FIGURES:∃u,nsIn K mainGlobals "FIGURES"=some (some u)∧aN (.str "0123456789") u)
  (g_MOST_FIGURES:∃u,nsIn K mainGlobals "MOST_FIGURES"=some (some u)∧aN (.int 40) u)
  (g_MOST_VOICES:∃u,nsIn K mainGlobals "MOST_VOICES"=some (some u)∧aN (.int 4) u)
  (g_MOST_RULES:∃u,nsIn K mainGlobals "MOST_RULES"=some (some u)∧aN (.int 12) u)
  (g_MOST_WEIGHT:∃u,nsIn K mainGlobals "MOST_WEIGHT"=some (some u)∧aN (.int 400) u)
  (g_MOST_NUMBERS:∃u,nsIn K mainGlobals "MOST_NUMBERS"=some (some u)∧aN (.int 12) u)
  (g_NO_LEAP:∃u,nsIn K mainGlobals "NO_LEAP"=some (some u)∧aN (.int 0) u)
  (g_LEAP_UP:∃u,nsIn K mainGlobals "LEAP_UP"=some (some u)∧aN (.int 1) u)
  (g_LEAP_DOWN:∃u,nsIn K mainGlobals "LEAP_DOWN"=some (some u)∧aN (.int 2) u)
  (Zfy:∃f fd,bF K "law" pG f fd)
  :∃fd:FuncData,(∀(s:Shared) (v:Value),BindsTo s fd ⟨[v],[]⟩ [("_law_script",v)])∧∀base:Heap,K.In base→base.Ns mainGlobals mg→aH l.prog w K mg base cb 13 fa fd ["_law_script"] (vG K):=by
 obtain⟨Zon,Zoo,Zfz⟩:=Zfy;obtain⟨Zlp,Zlq,Zgv,Zgw⟩:=Zb3;obtain⟨Zlr,Zls,Zgx,Zgy⟩:=Zb4;obtain⟨Zlt,Zlu,Zgz,Zg0⟩:=Zb5;obtain⟨Zop,Zoq,Zg1⟩:=Zdf;have Zg2:=Zg1.fn;obtain⟨Zor,Zos,Zg3⟩:=Zdg;have Zg4:=Zg3.fn;obtain⟨Zot,Zou,Zg5⟩:=Zdh;have Zg6:=Zg5.fn;obtain⟨Zov,Zow,Zox,Zg7⟩:=Zdi;have Zg8:=Zg7.fn;obtain⟨Zoy,Zoz,Zg9⟩:=Zdj;have Zha:=Zg9.fn;obtain⟨Zo0,Zo1,Zhb⟩:=Zdk;have Zhc:=Zhb.fn;obtain⟨Zo2,Zo3,Zhd⟩:=Zdl;have Zhe:=Zhd.fn;obtain⟨Zo4,Zo5,Zhf⟩:=Zdm;have Zhg:=Zhf.fn;obtain⟨Zo6,Zo7,Zhh⟩:=Zdn;have Zhi:=Zhh.fn;obtain⟨Zo8,Zo9,Zhj⟩:=Zdo;have Zhk:=Zhj.fn;obtain⟨Zpa,Zpb,Zhl⟩:=Zdp;have Zhm:=Zhl.fn;obtain⟨Zpc,Zpd,Zhn⟩:=Zdq;have Zho:=Zhn.fn;obtain⟨Zpe,Zpf,Zhp⟩:=Zdr;have Zhq:=Zhp.fn;obtain⟨Zpg,Zph,Zhr⟩:=Zds;have Zhs:=Zhr.fn;obtain⟨Zpi,Zpj,Zht⟩:=Zdt;have Zhu:=Zht.fn;obtain⟨Zpk,Zpl,Zhv⟩:=Zdu;have Zhw:=Zhv.fn;obtain⟨Zpm,Zpn,Zhx⟩:=Zdv;have Zhy:=Zhx.fn;obtain⟨Zpo,Zpp,Zhz⟩:=Zdw;have Zh0:=Zhz.fn;obtain⟨Zpq,Zpr,Zh1⟩:=Zdx;have Zh2:=Zh1.fn;obtain⟨Zps,Zpt,Zh3⟩:=Zdy;have Zh4:=Zh3.fn;obtain⟨Zpu,Zpv,Zh5⟩:=Zdz;have Zh6:=Zh5.fn;obtain⟨Zpw,Zpx,Zh7⟩:=Zd0;have Zh8:=Zh7.fn;obtain⟨Zpy,Zpz,Zh9⟩:=Zd1;have Zia:=Zh9.fn;obtain⟨Zp0,Zp1,Zib⟩:=Zd2;have Zic:=Zib.fn;obtain⟨Zp2,Zp3,Zid⟩:=Zd3;have Zie:=Zid.fn;obtain⟨Zp4,Zp5,Zif⟩:=Zd4;have Zig:=Zif.fn;obtain⟨Zp6,Zp7,Zih⟩:=Zd5;have Zii:=Zih.fn;obtain⟨Zp8,Zp9,Zij⟩:=Zd6;have Zik:=Zij.fn;obtain⟨Zqa,Zqb,Zil⟩:=Zd7;have Zim:=Zil.fn;obtain⟨Zqc,Zqd,Zin⟩:=Zd8;have Zio:=Zin.fn;obtain⟨Zqe,Zqf,Zip⟩:=Zd9;have Ziq:=Zip.fn;obtain⟨Zqg,Zqh,Zir⟩:=Zea;have Zis:=Zir.fn;obtain⟨Zqi,Zqj,Zit⟩:=Zeb;have Ziu:=Zit.fn;obtain⟨Zqk,Zql,Ziv⟩:=Zec;have Ziw:=Ziv.fn;obtain⟨Zqm,Zqn,Zix⟩:=Zed;have Ziy:=Zix.fn;obtain⟨Zqo,Zqp,Ziz⟩:=Zee;have Zi0:=Ziz.fn;obtain⟨Zqq,Zqr,Zi1⟩:=Zef;have Zi2:=Zi1.fn;obtain⟨Zqs,Zqt,Zi3⟩:=Zeg;have Zi4:=Zi3.fn;obtain⟨Zqu,Zqv,Zi5⟩:=Zeh;have Zi6:=Zi5.fn;obtain⟨Zqw,Zqx,Zi7⟩:=Zei;have Zi8:=Zi7.fn;obtain⟨Zqy,Zqz,Zi9⟩:=Zej;have Zja:=Zi9.fn;obtain⟨Zq0,Zq1,Zjb⟩:=Zek;have Zjc:=Zjb.fn;obtain⟨Zq2,Zq3,Zjd⟩:=Zel;have Zje:=Zjd.fn;obtain⟨Zq4,Zq5,Zjf⟩:=Zem;have Zjg:=Zjf.fn;obtain⟨Zq6,Zq7,Zjh⟩:=Zen;have Zji:=Zjh.fn;obtain⟨Zq8,Zq9,Zjj⟩:=Zeo;have Zjk:=Zjj.fn;obtain⟨Zra,Zrb,Zjl⟩:=Zep;have Zjm:=Zjl.fn;obtain⟨Zrc,Zrd,Zjn⟩:=Zeq;have Zjo:=Zjn.fn;obtain⟨Zre,Zrf,Zjp⟩:=Zer;have Zjq:=Zjp.fn;obtain⟨Zrg,Zrh,Zjr⟩:=Zes;have Zjs:=Zjr.fn;obtain⟨Zri,Zrj,Zjt⟩:=Zet;have Zju:=Zjt.fn;obtain⟨Zrk,Zrl,Zjv⟩:=Zeu;have Zjw:=Zjv.fn;obtain⟨Zrm,Zrn,Zjx⟩:=Zev;have Zjy:=Zjx.fn;obtain⟨Zro,Zrp,Zjz⟩:=Zew;have Zj0:=Zjz.fn;obtain⟨Zrq,Zrr,Zj1⟩:=Zex;have Zj2:=Zj1.fn;have Zf0:=Zey.fn;have Zf1:=Zez.fn;have Zf2:=Ze0.fn;have Zf3:=Ze1.fn;have Zf4:=Ze2.fn;have Zf5:=Ze3.fn;have Zf6:=Ze4.fn;obtain⟨Zrs,Zrt,Zj3⟩:=Ze5;have Zj4:=Zj3.fn;obtain⟨Zru,Zrv,Zj5⟩:=Ze6;have Zj6:=Zj5.fn;obtain⟨Zf7,Zf8,Zlv,Zf9,Zlw⟩:=Ze7;obtain⟨Zrw,Zrx,Zry,Za7,Zj7,Zj8⟩:=Zf9.fn;obtain⟨Zrz,Zr0,Zj9⟩:=Ze8;have Zka:=Zj9.fn;obtain⟨Zr1,Zr2,Zkb⟩:=Ze9;have Zkc:=Zkb.fn;obtain⟨Zr3,Zr4,Zkd⟩:=Zfa;have Zke:=Zkd.fn;obtain⟨Zlx,Zly,Zkf⟩:=Zfb;have Zga:=Zkf.fn;obtain⟨Zr5,Zr6,Zkg⟩:=Zfc;have Zkh:=Zkg.fn;obtain⟨Zr7,Zr8,Zki⟩:=Zfd;have Zkj:=Zki.fn;obtain⟨Zr9,Zsa,Zkk⟩:=Zfe;have Zkl:=Zkk.fn;obtain⟨Zsb,Zsc,Zkm⟩:=Zff;have Zkn:=Zkm.fn;obtain⟨Zsd,Zse,Zko⟩:=Zfg;have Zkp:=Zko.fn;obtain⟨Zlz,Zl0,Zkq⟩:=Zfh;have Zgb:=Zkq.fn;obtain⟨Zl1,Zl2,Zkr⟩:=Zfi;have Zgc:=Zkr.fn;obtain⟨Zl3,Zl4,Zks⟩:=Zfj;have Zgd:=Zks.fn;obtain⟨Zsf,Zsg,Zkt⟩:=Zfk;have Zku:=Zkt.fn;obtain⟨Zsh,Zsi,Zkv⟩:=Zfl;have Zkw:=Zkv.fn;obtain⟨Zsj,Zsk,Zkx⟩:=Zfm;have Zky:=Zkx.fn;obtain⟨Zsl,Zsm,Zkz⟩:=Zfn;have Zk0:=Zkz.fn;obtain⟨Zsn,Zso,Zk1⟩:=Zfo;have Zk2:=Zk1.fn;obtain⟨Zsp,Zsq,Zk3⟩:=Zfp;have Zk4:=Zk3.fn;obtain⟨Zsr,Zss,Zk5⟩:=Zfq;have Zk6:=Zk5.fn;obtain⟨Zst,Zsu,Zk7⟩:=Zfr;have Zk8:=Zk7.fn;obtain⟨Zsv,Zsw,Zk9⟩:=Zfs;have Zla:=Zk9.fn;obtain⟨Zsx,Zsy,Zlb⟩:=Zft;have Zbi:=Zlb.fn;obtain⟨Zsz,Zs0,Zlc⟩:=Zfu;have Zld:=Zlc.fn;obtain⟨Zs1,Zs2,Zle⟩:=Zfv;have Zlf:=Zle.fn;obtain⟨Zs3,Zs4,Zlg⟩:=Zfw;have Zlh:=Zlg.fn;obtain⟨Zs5,Zs6,Zli⟩:=Zfx;have Zlj:=Zli.fn;obtain⟨u_FIGURES,g_FIGURES,r_FIGURES⟩:=g_FIGURES;obtain⟨u_MOST_FIGURES,g_MOST_FIGURES,r_MOST_FIGURES⟩:=g_MOST_FIGURES;obtain⟨u_MOST_VOICES,g_MOST_VOICES,r_MOST_VOICES⟩:=g_MOST_VOICES;obtain⟨u_MOST_RULES,g_MOST_RULES,r_MOST_RULES⟩:=g_MOST_RULES;obtain⟨u_MOST_WEIGHT,g_MOST_WEIGHT,r_MOST_WEIGHT⟩:=g_MOST_WEIGHT;obtain⟨u_MOST_NUMBERS,g_MOST_NUMBERS,r_MOST_NUMBERS⟩:=g_MOST_NUMBERS;obtain⟨u_NO_LEAP,g_NO_LEAP,r_NO_LEAP⟩:=g_NO_LEAP;obtain⟨u_LEAP_UP,g_LEAP_UP,r_LEAP_UP⟩:=g_LEAP_UP;obtain⟨u_LEAP_DOWN,g_LEAP_DOWN,r_LEAP_DOWN⟩:=g_LEAP_DOWN;have e:=hfa.symm.trans (mg_of X G Zfz.ns);cases e;have T:Txt mg a_MAKERS:={ n_len:=mg_none_of X G z_len,n_range:=mg_none_of X G z_range,n_all:=mg_none_of X G z_all,n_min:=mg_none_of X G z_min,n_max:=mg_none_of X G z_max,n_abs:=mg_none_of X G z_abs,n_tuple:=mg_none_of X G z_tuple,n_list:=mg_none_of X G z_list,n_isinstance:=mg_none_of X G z_isinstance,n_bool:=mg_none_of X G z_bool,n_int:=mg_none_of X G z_int,n_str:=mg_none_of X G z_str,n_divmod:=mg_none_of X G z_divmod,n_enumerate:=mg_none_of X G z_enumerate,n_ValueError:=mg_none_of X G z_ValueError,g_FIGURES:=⟨_,mg_of X G g_FIGURES,r_FIGURES⟩,g_MOST_FIGURES:=⟨_,mg_of X G g_MOST_FIGURES,r_MOST_FIGURES⟩,g_MOST_VOICES:=⟨_,mg_of X G g_MOST_VOICES,r_MOST_VOICES⟩,g_MOST_RULES:=⟨_,mg_of X G g_MOST_RULES,r_MOST_RULES⟩,g_MOST_WEIGHT:=⟨_,mg_of X G g_MOST_WEIGHT,r_MOST_WEIGHT⟩,g_MOST_NUMBERS:=⟨_,mg_of X G g_MOST_NUMBERS,r_MOST_NUMBERS⟩,g_NO_LEAP:=⟨_,mg_of X G g_NO_LEAP,r_NO_LEAP⟩,g_LEAP_UP:=⟨_,mg_of X G g_LEAP_UP,r_LEAP_UP⟩,g_LEAP_DOWN:=⟨_,mg_of X G g_LEAP_DOWN,r_LEAP_DOWN⟩,g_MAKERS:=⟨_,mg_of X G n_MAKERS,rfl⟩ };have TE_INNER_KINDS:Dy mg a_MAKERS a_INNER_KINDS:={ T with g_INNER_KINDS:=⟨_,mg_of X G n_INNER_KINDS,rfl⟩ };obtain⟨oc,od,kV,doc,pm,an,cdv,ct,osl,rfl,lk,hcd⟩:=Zfz.fn.ex;refine⟨fnOf "law" "law" (dC pG) (cO pG) (aq pG) .none kV doc pm an cdv ct,fun s v=>.of_eq rfl,fun base _ _=>?_⟩;have Zge:g9 l.prog w K mg base "TooWide" Zab 7 ["self","weight"] (lA Zab "weight") ["__setattr__","__getattribute__","__getattr__","__class__","weight"]:=⟨Zlp,Zlq,Zgv,(ua Zgw Zgv).mono (by decide),mg_of X G Zbf,Zgw.binds (fun _ _ _ _ _ _ us hl=>by obtain⟨_,_,rfl⟩:=nW hl;rfl)⟩;have Zbj:g9 l.prog w K mg base "Apart" Zaa 7 ["self","voice"] (lA Zaa "voice") ["__setattr__","__getattribute__","__getattr__","__class__","voice"]:=⟨Zlr,Zls,Zgx,(yJ Zgy Zgx).mono (by decide),mg_of X G Zbg,Zgy.binds (fun _ _ _ _ _ _ us hl=>by obtain⟨_,_,rfl⟩:=nW hl;rfl)⟩;have Zgf:g9 l.prog w K mg base "Crowded" Zac 7 ["self","many"] (lA Zac "many") ["__setattr__","__getattribute__","__getattr__","__class__","many"]:=⟨Zlt,Zlu,Zgz,(t9 Zg0 Zgz).mono (by decide),mg_of X G Zbh,Zg0.binds (fun _ _ _ _ _ _ us hl=>by obtain⟨_,_,rfl⟩:=nW hl;rfl)⟩;have Zl5:u9 K Zab Zau Zav Zaw Zab Zaa Zac Zax Zay Zaz Za0 Za1 Za2 Za3:=⟨Zcc,Zcd,_,_,_,_,_,_,_,_,_,_,_,_,Zce,Zcf,mU,Zcg,Zch,Zci,Zcj,Zck,Zcl,Zcm,Zcn,Zco,by decide⟩;have Zl6:u9 K Zaa Zau Zav Zaw Zab Zaa Zac Zax Zay Zaz Za0 Za1 Za2 Za3:=⟨Zcp,Zcq,_,_,_,_,_,_,_,_,_,_,_,_,Zcr,Zcs,Zct,mU,Zcu,Zcv,Zcw,Zcx,Zcy,Zcz,Zc0,Zc1,by decide⟩;have Zl7:u9 K Zac Zau Zav Zaw Zab Zaa Zac Zax Zay Zaz Za0 Za1 Za2 Za3:=⟨Zc2,Zc3,_,_,_,_,_,_,_,_,_,_,_,_,Zc4,Zc5,Zc6,Zc7,mU,Zc8,Zc9,Zda,Zdb,Zdc,Zdd,Zde,by decide⟩;have TX:B5 mg a_MAKERS Zau Zav Zaw Zab Zaa Zac Zax Zay Zaz Za0 Za1 Za2 Za3:={ T with c_ScoreError:=⟨_,mg_of X G Zbt,rfl⟩,c_BadRow:=⟨_,mg_of X G Zbu,rfl⟩,c_BadLine:=⟨_,mg_of X G Zbv,rfl⟩,c_TooWide:=⟨_,mg_of X G Zbf,rfl⟩,c_Apart:=⟨_,mg_of X G Zbg,rfl⟩,c_Crowded:=⟨_,mg_of X G Zbh,rfl⟩,c_NoNumber:=⟨_,mg_of X G Zbw,rfl⟩,c_Unlike:=⟨_,mg_of X G Zbx,rfl⟩,c_Unfit:=⟨_,mg_of X G Zby,rfl⟩,c_NoLine:=⟨_,mg_of X G Zbz,rfl⟩,c_NoName:=⟨_,mg_of X G Zb0,rfl⟩,c_Endless:=⟨_,mg_of X G Zb1,rfl⟩,c_NoRow:=⟨_,mg_of X G Zb2,rfl⟩ };have XX:Br K Zab Zaa Zac:=⟨Zb6,Zb7,Zb8,Zb9,Zca,Zcb⟩;have Zbk:cJ l.prog w K mg base "note_in" 1 ["column","voice"] (gz K):=Zg1.df X G (ug Zg2) (Zg2.binds (fun _ _ _ _ _ _ us hl=>by obtain⟨_,_,rfl⟩:=nW hl;rfl));have Zgg:cJ l.prog w K mg base "span" 2 ["column","first","second"] (nM K):=Zg3.df X G (AJ Zg4 Zbk) (Zg4.binds (fun _ _ _ _ _ _ us hl=>by obtain⟨_,_,_,rfl⟩:=oS hl;rfl));have Zgh:cJ l.prog w K mg base "move" 2 ["before","column","voice"] (j5 K):=Zg5.df X G (AG Zg6 Zbk) (Zg6.binds (fun _ _ _ _ _ _ us hl=>by obtain⟨_,_,_,rfl⟩:=oS hl;rfl));have Za4:mE l.prog w K mg base "Rule" "__init__" 1 ["self","row"] (cY K):=Zg7.df X G (ql Zg8) (Zg8.binds (fun _ _ _ _ _ _ us hl=>by obtain⟨_,_,rfl⟩:=nW hl;rfl));have Zl8:aA l.prog w K mg base Zag "size" 1 ["self"] (bI 1 fun _=>.int 1):=Zg9.ok Zao.cl (fu Zha) (Zha.binds (fun _ _ _ _ _ _ us hl=>by obtain⟨_,rfl⟩:=i0 hl;rfl));have Zl9:aA l.prog w K mg base Zag "start" 1 ["self"] (bI 1 fun _=>.int 0):=Zhb.ok Zao.cl (cX Zhc) (Zhc.binds (fun _ _ _ _ _ _ us hl=>by obtain⟨_,rfl⟩:=i0 hl;rfl));have Zma:aA l.prog w K mg base Zag "closes" 1 ["self","memory","last"] (bI 3 fun _=>.bl true):=Zhd.ok Zao.cl (dk Zhe) (Zhe.binds (fun _ _ _ _ _ _ us hl=>by obtain⟨_,_,_,rfl⟩:=oS hl;rfl));have Zmb:aA l.prog w K mg base Zah "size" 1 ["self"] (bI 1 fun _=>.int 1):=Zhf.ok Zap.cl (fu Zhg) (Zhg.binds (fun _ _ _ _ _ _ us hl=>by obtain⟨_,rfl⟩:=i0 hl;rfl));have Zmc:aA l.prog w K mg base Zah "start" 1 ["self"] (bI 1 fun _=>.int 0):=Zhh.ok Zap.cl (cX Zhi) (Zhi.binds (fun _ _ _ _ _ _ us hl=>by obtain⟨_,rfl⟩:=i0 hl;rfl));have Zmd:aA l.prog w K mg base Zah "closes" 1 ["self","memory","last"] (bI 3 fun _=>.bl true):=Zhj.ok Zap.cl (dk Zhk) (Zhk.binds (fun _ _ _ _ _ _ us hl=>by obtain⟨_,_,_,rfl⟩:=oS hl;rfl));have Zme:aA l.prog w K mg base Zai "size" 1 ["self"] (bI 1 fun _=>.int 1):=Zhl.ok Zaq.cl (fu Zhm) (Zhm.binds (fun _ _ _ _ _ _ us hl=>by obtain⟨_,rfl⟩:=i0 hl;rfl));have Zmf:aA l.prog w K mg base Zai "start" 1 ["self"] (bI 1 fun _=>.int 0):=Zhn.ok Zaq.cl (cX Zho) (Zho.binds (fun _ _ _ _ _ _ us hl=>by obtain⟨_,rfl⟩:=i0 hl;rfl));have Zmg:aA l.prog w K mg base Zai "closes" 1 ["self","memory","last"] (bI 3 fun _=>.bl true):=Zhp.ok Zaq.cl (dk Zhq) (Zhq.binds (fun _ _ _ _ _ _ us hl=>by obtain⟨_,_,_,rfl⟩:=oS hl;rfl));have Zmh:aA l.prog w K mg base Zaj "size" 1 ["self"] (bI 1 fun _=>.int 1):=Zhr.ok Zar.cl (fu Zhs) (Zhs.binds (fun _ _ _ _ _ _ us hl=>by obtain⟨_,rfl⟩:=i0 hl;rfl));have Zmi:aA l.prog w K mg base Zaj "start" 1 ["self"] (bI 1 fun _=>.int 0):=Zht.ok Zar.cl (cX Zhu) (Zhu.binds (fun _ _ _ _ _ _ us hl=>by obtain⟨_,rfl⟩:=i0 hl;rfl));have Zmj:aA l.prog w K mg base Zaj "closes" 1 ["self","memory","last"] (bI 3 fun _=>.bl true):=Zhv.ok Zar.cl (dk Zhw) (Zhw.binds (fun _ _ _ _ _ _ us hl=>by obtain⟨_,_,_,rfl⟩:=oS hl;rfl));have Zmk:aA l.prog w K mg base Zaf "start" 1 ["self"] (bI 1 fun _=>.int 0):=Zhx.ok Zam.cl (cX Zhy) (Zhy.binds (fun _ _ _ _ _ _ us hl=>by obtain⟨_,rfl⟩:=i0 hl;rfl));have Zml:aA l.prog w K mg base Zaf "closes" 1 ["self","memory","last"] (bI 3 fun _=>.bl true):=Zhz.ok Zam.cl (dk Zh0) (Zh0.binds (fun _ _ _ _ _ _ us hl=>by obtain⟨_,_,_,rfl⟩:=oS hl;rfl));have Zmm:aA l.prog w K mg base Zad "start" 1 ["self"] (bI 1 fun _=>.int 0):=Zh1.ok Zal.cl (cX Zh2) (Zh2.binds (fun _ _ _ _ _ _ us hl=>by obtain⟨_,rfl⟩:=i0 hl;rfl));have Zmn:aA l.prog w K mg base Zak "start" 1 ["self"] (bI 1 fun _=>.int 0):=Zh3.ok Zan.cl (cX Zh4) (Zh4.binds (fun _ _ _ _ _ _ us hl=>by obtain⟨_,rfl⟩:=i0 hl;rfl));have Zmo:aA l.prog w K mg base Zak "closes" 1 ["self","memory","last"] (bI 3 fun _=>.bl true):=Zh5.ok Zan.cl (dk Zh6) (Zh6.binds (fun _ _ _ _ _ _ us hl=>by obtain⟨_,_,_,rfl⟩:=oS hl;rfl));have Zmp:aA l.prog w K mg base Zag "shown" 1 ["self"] (cK K):=Zh7.ok Zao.cl (cu Zh8) (Zh8.binds (fun _ _ _ _ _ _ us hl=>by obtain⟨_,rfl⟩:=i0 hl;rfl));have Zmq:aA l.prog w K mg base Zah "shown" 1 ["self"] (cK K):=Zh9.ok Zap.cl (cu Zia) (Zia.binds (fun _ _ _ _ _ _ us hl=>by obtain⟨_,rfl⟩:=i0 hl;rfl));have Zmr:aA l.prog w K mg base Zai "shown" 1 ["self"] (cK K):=Zib.ok Zaq.cl (cu Zic) (Zic.binds (fun _ _ _ _ _ _ us hl=>by obtain⟨_,rfl⟩:=i0 hl;rfl));have Zms:aA l.prog w K mg base Zaj "shown" 1 ["self"] (cK K):=Zid.ok Zar.cl (cu Zie) (Zie.binds (fun _ _ _ _ _ _ us hl=>by obtain⟨_,rfl⟩:=i0 hl;rfl));have Zmt:aA l.prog w K mg base Zae "shown" 1 ["self"] (cK K):=Zif.ok Zas.cl (cu Zig) (Zig.binds (fun _ _ _ _ _ _ us hl=>by obtain⟨_,rfl⟩:=i0 hl;rfl));have Zmu:aA l.prog w K mg base Zaf "shown" 1 ["self"] (cK K):=Zih.ok Zam.cl (cu Zii) (Zii.binds (fun _ _ _ _ _ _ us hl=>by obtain⟨_,rfl⟩:=i0 hl;rfl));have Zmv:aA l.prog w K mg base Zad "shown" 1 ["self"] (cK K):=Zij.ok Zal.cl (cu Zik) (Zik.binds (fun _ _ _ _ _ _ us hl=>by obtain⟨_,rfl⟩:=i0 hl;rfl));have Zmw:aA l.prog w K mg base Zak "shown" 1 ["self"] (cK K):=Zil.ok Zan.cl (cu Zim) (Zim.binds (fun _ _ _ _ _ _ us hl=>by obtain⟨_,rfl⟩:=i0 hl;rfl));have Zmx:aA l.prog w K mg base Zae "size" 1 ["self"] (bI 1 fun _=>.int 3):=Zin.ok Zas.cl (qg Zio) (Zio.binds (fun _ _ _ _ _ _ us hl=>by obtain⟨_,rfl⟩:=i0 hl;rfl));have Zmy:aA l.prog w K mg base Zae "start" 1 ["self"] (bI 1 fun _=>.int 0):=Zip.ok Zas.cl (og Ziq T) (Ziq.binds (fun _ _ _ _ _ _ us hl=>by obtain⟨_,rfl⟩:=i0 hl;rfl));have Zmz:∀(row:Str) (a c:Int),aA l.prog w K mg base Zaf "size" 1 ["self"] (l8 (eH Zaf row a c) (.int c)):=fun row a c=>Zir.ok Zam.cl (qj Zis Zam) (Zis.binds (fun _ _ _ _ _ _ us hl=>by obtain⟨_,rfl⟩:=i0 hl;rfl));have Zm0:∀(row:Str) (a c d e:Int),aA l.prog w K mg base Zad "size" 1 ["self"] (l8 (dh Zad row a c d e) (.int (e+1))):=fun row a c d e=>Zit.ok Zal.cl (oy Ziu Zal) (Ziu.binds (fun _ _ _ _ _ _ us hl=>by obtain⟨_,rfl⟩:=i0 hl;rfl));have Zm1:∀(row:Str) (t u:Int) (RIn:ju),aA l.prog w K mg base Zak "size" 1 ["self"] (l8 (d4 Zak row t u RIn) (.int t)):=fun row t u RIn=>Ziv.ok Zan.cl (om Ziw Zan) (Ziw.binds (fun _ _ _ _ _ _ us hl=>by obtain⟨_,rfl⟩:=i0 hl;rfl));have Zm2:∀(row:Str) (a b:Int) (D:List Int) (nv:Nat) (_:1≤a∧a≤nv) (_:1≤b∧b≤nv),aA l.prog w K mg base Zag "after" 3 ["self","memory","before","column"] (bK K nv (fY Zag row a b D) (fV a b D) fun _=>True):=fun row a b D nv ha hb=>Zix.ok Zao.cl (ow Ziy T Zao ha hb Zgg) (Ziy.binds (fun _ _ _ _ _ _ us hl=>by obtain⟨_,_,_,_,rfl⟩:=xv hl;rfl));have Zm3:∀(row:Str) (a b c:Int) (D:List Int) (nv:Nat) (_:1≤a∧a≤nv) (_:1≤b∧b≤nv) (_:1≤c),aA l.prog w K mg base Zah "after" 3 ["self","memory","before","column"] (bK K nv (eT Zah row a b c D) (eW a b c D) fun _=>True):=fun row a b c D nv ha hb hc=>Ziz.ok Zap.cl (m8 Zi0 T Zap ha hb hc Zgg) (Zi0.binds (fun _ _ _ _ _ _ us hl=>by obtain⟨_,_,_,_,rfl⟩:=xv hl;rfl));have Zm4:∀(row:Str) (a:Int) (D:List Int) (nv:Nat) (_:1≤a∧a≤nv),aA l.prog w K mg base Zai "after" 3 ["self","memory","before","column"] (bK K nv (fX Zai row a D) (gX a D) fun _=>True):=fun row a D nv ha=>Zi1.ok Zaq.cl (oq Zi2 T Zaq ha Zgh) (Zi2.binds (fun _ _ _ _ _ _ us hl=>by obtain⟨_,_,_,_,rfl⟩:=xv hl;rfl));have Zm5:∀(row:Str) (a b:Int) (D:List Int) (nv:Nat) (_:1≤a∧a≤nv) (_:1≤b∧b≤nv),aA l.prog w K mg base Zaj "after" 3 ["self","memory","before","column"] (bK K nv (eS Zaj row a b D) (fN a b D) fun _=>True):=fun row a b D nv ha hb=>Zi3.ok Zar.cl (m6 Zi4 T Zar ha hb Zgh Zgg) (Zi4.binds (fun _ _ _ _ _ _ us hl=>by obtain⟨_,_,_,_,rfl⟩:=xv hl;rfl));have Zm6:∀(row:Str) (a c:Int) (nv:Nat),aA l.prog w K mg base Zae "closes" 1 ["self","memory","last"] (fO K nv (eG Zae row a c) (ez a c) jG):=fun row a c nv=>Zi5.ok Zas.cl (m7 Zi6 T) (Zi6.binds (fun _ _ _ _ _ _ us hl=>by obtain⟨_,_,_,rfl⟩:=oS hl;rfl));have Zm7:∀(row:Str) (a c:Int) (nv:Nat) (_:1≤a∧a≤nv),aA l.prog w K mg base Zae "after" 3 ["self","memory","before","column"] (bK K nv (eG Zae row a c) (ez a c) jG):=fun row a c nv ha=>Zi7.ok Zas.cl (oa Zi8 T Zas ha Zgh) (Zi8.binds (fun _ _ _ _ _ _ us hl=>by obtain⟨_,_,_,_,rfl⟩:=xv hl;rfl));have Zm8:∀(row:Str) (a c:Int) (nv:Nat) (_:1≤a∧a≤nv),aA l.prog w K mg base Zaf "after" 3 ["self","memory","before","column"] (bK K nv (eH Zaf row a c) (fU a c) (pB c)):=fun row a c nv ha=>Zi9.ok Zam.cl (oo Zja T Zam ha (Zbk.up (by decide))) (Zja.binds (fun _ _ _ _ _ _ us hl=>by obtain⟨_,_,_,_,rfl⟩:=xv hl;rfl));have Zm9:∀(row:Str) (a c d e:Int) (nv:Nat),aA l.prog w K mg base Zad "closes" 1 ["self","memory","last"] (fO K nv (dh Zad row a c d e) (dR a c d e) (jH e)):=fun row a c d e nv=>Zjb.ok Zal.cl (lZ Zjc Zal) (Zjc.binds (fun _ _ _ _ _ _ us hl=>by obtain⟨_,_,_,rfl⟩:=oS hl;rfl));have Zna:∀(row:Str) (a c d e:Int) (nv:Nat) (_:1≤a∧a≤nv),aA l.prog w K mg base Zad "after" 3 ["self","memory","before","column"] (bK K nv (dh Zad row a c d e) (dR a c d e) (jH e)):=fun row a c d e nv ha=>Zjd.ok Zal.cl (nc Zje T Zal ha (Zbk.up (by decide))) (Zje.binds (fun _ _ _ _ _ _ us hl=>by obtain⟨_,_,_,_,rfl⟩:=xv hl;rfl));have Znb:∀(row:Str) (t u:Int) (nv:Nat) (Cn:Addr) (S:fb) (RIn:ju) (G:Int→Prop) (_:0 < t) (_:bz l.prog w K mg base 4 nv Cn S RIn G),aA l.prog w K mg base Zak "after" 5 ["self","memory","before","column"] (bK K nv (d4 Zak row t u RIn) (eX t u S) (mY t)):=fun row t u nv Cn S RIn G ht R=>Zjf.ok Zan.cl (m9 Zjg T Zan ht R) (Zjg.binds (fun _ _ _ _ _ _ us hl=>by obtain⟨_,_,_,_,rfl⟩:=xv hl;rfl));have Znc:e7 l.prog w K mg base "Span" Zag 2 ["self","row","first","second","numbers"] (jr K Zag):=Zjh.df X G (qm Zji T Zao Za4) (Zji.binds (fun _ _ _ _ _ _ us hl=>by obtain⟨_,_,_,_,_,rfl⟩:=E9 hl;rfl));have Znd:e7 l.prog w K mg base "Clock" Zah 2 ["self","row","first","second","hours","numbers"] (iB K Zah):=Zjj.df X G (oh Zjk T Zap Za4) (Zjk.binds (fun _ _ _ _ _ _ us hl=>by obtain⟨_,_,_,_,_,_,rfl⟩:=Fl hl;rfl));have Zne:e7 l.prog w K mg base "Move" Zai 2 ["self","row","voice","numbers"] (jq K Zai):=Zjl.df X G (qk Zjm T Zaq Za4) (Zjm.binds (fun _ _ _ _ _ _ us hl=>by obtain⟨_,_,_,_,rfl⟩:=xv hl;rfl));have Znf:e7 l.prog w K mg base "Alike" Zaj 2 ["self","row","first","second","numbers"] (iA K Zaj):=Zjn.df X G (n9 Zjo T Zar Za4) (Zjo.binds (fun _ _ _ _ _ _ us hl=>by obtain⟨_,_,_,_,_,rfl⟩:=E9 hl;rfl));have Zng:e7 l.prog w K mg base "Back" Zae 2 ["self","row","voice","widest"] (jm K Zae):=Zjp.df X G (qf Zjq T Zas Za4) (Zjq.binds (fun _ _ _ _ _ _ us hl=>by obtain⟨_,_,_,_,rfl⟩:=xv hl;rfl));have Znh:e7 l.prog w K mg base "Held" Zaf 2 ["self","row","voice","most"] (jo K Zaf):=Zjr.df X G (qh Zjs T Zam Za4) (Zjs.binds (fun _ _ _ _ _ _ us hl=>by obtain⟨_,_,_,_,rfl⟩:=xv hl;rfl));have Zni:e7 l.prog w K mg base "Times" Zad 2 ["self","row","voice","note","fewest","most"] (iE K Zad):=Zjt.df X G (ox Zju T Zal Za4) (Zju.binds (fun _ _ _ _ _ _ us hl=>by obtain⟨_,_,_,_,_,_,rfl⟩:=Fl hl;rfl));have Znj:e7 l.prog w K mg base "Every" Zak 2 ["self","row","turns","turn","inner"] (iC K Zak):=Zjv.df X G (oj Zjw T Zan Za4) (Zjw.binds (fun _ _ _ _ _ _ us hl=>by obtain⟨_,_,_,_,_,rfl⟩:=E9 hl;rfl));have Zgi:cJ l.prog w K mg base "is_number" 1 ["word"] pH:=Zjx.df X G (wX Zjy T) (Zjy.binds (fun _ _ _ _ _ _ us hl=>by obtain⟨_,rfl⟩:=i0 hl;rfl));have Zbl:cJ l.prog w K mg base "has_list" 1 ["numbers","ahead"] (fw K):=Zjz.df X G (sx Zj0 T) (Zj0.binds (fun _ _ _ _ _ _ us hl=>by obtain⟨_,_,rfl⟩:=nW hl;rfl));have Za5:cJ l.prog w K mg base "are_voices" 1 ["numbers","voices"] (cR K):=Zj1.df X G (oz Zj2 T) (Zj2.binds (fun _ _ _ _ _ _ us hl=>by obtain⟨_,_,rfl⟩:=nW hl;rfl));have Znk:aH l.prog w K mg base cb 4 Za8 Zbm ["row","numbers","voices"] (j8 K Zag):=uh Zf0 T (Zbl.up (by decide)) (Za5.up (by decide)) Znc;have Znl:fR l.prog w K mg base 4 Za8 ["row","numbers","voices"] (j8 K Zag):=⟨Zbm,Znk,Zf0.kp,Zf0.binds (fun _ _ _ _ _ _ us hl=>by obtain⟨_,_,_,rfl⟩:=oS hl;rfl)⟩;have Znm:aH l.prog w K mg base cb 4 Za9 Zbn ["row","numbers","voices"] (iU K Zah):=sv Zf1 T (Zbl.up (by decide)) (Za5.up (by decide)) Znd;have Znn:fR l.prog w K mg base 4 Za9 ["row","numbers","voices"] (iU K Zah):=⟨Zbn,Znm,Zf1.kp,Zf1.binds (fun _ _ _ _ _ _ us hl=>by obtain⟨_,_,_,rfl⟩:=oS hl;rfl)⟩;have Zno:aH l.prog w K mg base cb 4 Zba Zbo ["row","numbers","voices"] (j6 K Zai):=uf Zf2 T (Zbl.up (by decide)) (Za5.up (by decide)) Zne;have Znp:fR l.prog w K mg base 4 Zba ["row","numbers","voices"] (j6 K Zai):=⟨Zbo,Zno,Zf2.kp,Zf2.binds (fun _ _ _ _ _ _ us hl=>by obtain⟨_,_,_,rfl⟩:=oS hl;rfl)⟩;have Znq:aH l.prog w K mg base cb 4 Zbb Zbp ["row","numbers","voices"] (iT K Zaj):=su Zf3 T (Zbl.up (by decide)) (Za5.up (by decide)) Znf;have Znr:fR l.prog w K mg base 4 Zbb ["row","numbers","voices"] (iT K Zaj):=⟨Zbp,Znq,Zf3.kp,Zf3.binds (fun _ _ _ _ _ _ us hl=>by obtain⟨_,_,_,rfl⟩:=oS hl;rfl)⟩;have Zns:aH l.prog w K mg base cb 4 Zbc Zbq ["row","numbers","voices"] (j0 K Zae):=uc Zf4 T (Za5.up (by decide)) Zng;have Znt:fR l.prog w K mg base 4 Zbc ["row","numbers","voices"] (j0 K Zae):=⟨Zbq,Zns,Zf4.kp,Zf4.binds (fun _ _ _ _ _ _ us hl=>by obtain⟨_,_,_,rfl⟩:=oS hl;rfl)⟩;have Znu:aH l.prog w K mg base cb 4 Zbd Zbr ["row","numbers","voices"] (j3 K Zaf):=ue Zf5 T (Za5.up (by decide)) Znh;have Znv:fR l.prog w K mg base 4 Zbd ["row","numbers","voices"] (j3 K Zaf):=⟨Zbr,Znu,Zf5.kp,Zf5.binds (fun _ _ _ _ _ _ us hl=>by obtain⟨_,_,_,rfl⟩:=oS hl;rfl)⟩;have Znw:aH l.prog w K mg base cb 4 Zbe Zbs ["row","numbers","voices"] (iV K Zad):=sy Zf6 T (Za5.up (by decide)) Zni;have Znx:fR l.prog w K mg base 4 Zbe ["row","numbers","voices"] (iV K Zad):=⟨Zbs,Znw,Zf6.kp,Zf6.binds (fun _ _ _ _ _ _ us hl=>by obtain⟨_,_,_,rfl⟩:=oS hl;rfl)⟩;have Zgj:cJ l.prog w K mg base "plain_rule" 8 ["row","voices"] (j7 l.prog w K mg base a_MAKERS 7):=Zj3.df X G (oB Zj4 T (Zgi.up (by decide))) (Zj4.binds (fun _ _ _ _ _ _ us hl=>by obtain⟨_,_,rfl⟩:=nW hl;rfl));have Zny:cJ l.prog w K mg base "every_rule" 9 ["row","voices"] (my l.prog w K mg base a_MAKERS Zak 7):=Zj5.df X G (oA Zj6 TE_INNER_KINDS q_INNER_KINDS (Zgi.up (by decide)) Zgj (Znj.up (by decide))) (Zj6.binds (fun _ _ _ _ _ _ us hl=>by obtain⟨_,_,rfl⟩:=nW hl;rfl));have Zlk:aH l.prog w K mg base cb 10 Zf7 Zf8 ["text","voices","row"] (gA l.prog w K mg base):=wY (oE Za7 T (Zgj.up (by decide))) (oC Za7 T (Zgj.up (by decide)) Zny) t_MAKERS (DT d_MAKERS_span (Znl.up (by decide)) (fun row a b D nv ha hb=>zt Zao (Zl8.up (by decide)) (Zl9.up (by decide)) (Zma.up (by decide)) ((Zm2 row a b D nv ha hb).up (by decide))) (zp Zao (Zmp.up (by decide))) d_MAKERS_clock (Znn.up (by decide)) (fun row a b c D nv ha hb hc=>v3 Zap (Zmb.up (by decide)) (Zmc.up (by decide)) (Zmd.up (by decide)) ((Zm3 row a b c D nv ha hb hc).up (by decide))) (xi Zap (Zmq.up (by decide))) d_MAKERS_move (Znp.up (by decide)) (fun row a D nv ha=>yE Zaq (Zme.up (by decide)) (Zmf.up (by decide)) (Zmg.up (by decide)) ((Zm4 row a D nv ha).up (by decide))) (zo Zaq (Zmr.up (by decide))) d_MAKERS_alike (Znr.up (by decide)) (fun row a b D nv ha hb=>vS Zar (Zmh.up (by decide)) (Zmi.up (by decide)) (Zmj.up (by decide)) ((Zm5 row a b D nv ha hb).up (by decide))) (xh Zar (Zms.up (by decide))) d_MAKERS_back (Znt.up (by decide)) (fun row a c nv ha _=>xI Zas (Zmx.up (by decide)) (Zmy.up (by decide)) ((Zm6 row a c nv).up (by decide)) ((Zm7 row a c nv ha).up (by decide))) (zk Zas (Zmt.up (by decide))) d_MAKERS_held (Znv.up (by decide)) (fun row a c nv ha c1=>yi c1 Zam ((Zmz row a c).up (by decide)) (Zmk.up (by decide)) (Zml.up (by decide)) ((Zm8 row a c nv ha).up (by decide))) (zm Zam (Zmu.up (by decide))) d_MAKERS_times (Znx.up (by decide)) (fun row a c d e nv ha e1=>xt e1 Zal ((Zm0 row a c d e).up (by decide)) (Zmm.up (by decide)) ((Zm9 row a c d e nv).up (by decide)) ((Zna row a c d e nv ha).up (by decide))) (xk Zal (Zmv.up (by decide)))) (fun row t u nv Cn S RIn G ht R=>wC ht Zan R ((Zm1 row t u RIn).up (by decide)) (Zmn.up (by decide)) (Zmo.up (by decide)) ((Znb row t u nv Cn S RIn G ht R).up (by decide))) (xj Zan (Zmw.up (by decide)));have Znz:cJ l.prog w K mg base "read_rule" 10 ["text","voices","row"] (gA l.prog w K mg base):=⟨Zf7,Zf8,Zlk,mg_of X G Zf9.ns,Za7.kp,Za7.binds Zj7 Zj8 fun _ _ _ _ _ _ us hl=>match us,hl with | [_,_,_],_=>⟨_,rfl,rfl⟩⟩;have Zn0:BX l.prog w K mg base "read_rule" 10 ["text","voices","row"] (gA l.prog w K mg base) [(.int 0)]:=⟨Zf7,Zf8,[Zlv],Zlk,mg_of X G Zf9.ns,Za7.kp,Za7.bindsD Zj7 Zj8 fun _ _ _ _ _ _ us hl=>match us,hl with | [_,_],_=>⟨_,rfl,rfl⟩,.cons Zlw .nil⟩;have Zn1:cJ l.prog w K mg base "broken_at" 8 ["rule","line"] (nK l.prog w K mg base 7):=Zj9.df X G (qq Zka T) (Zka.binds (fun _ _ _ _ _ _ us hl=>by obtain⟨_,_,rfl⟩:=nW hl;rfl));have Zgk:e7 l.prog w K mg base "Score" Zat 1 ["self","ranges","rules"] (eY K Zat):=Zkb.df X G (ou Zkc T Za6) (Zkc.binds (fun _ _ _ _ _ _ us hl=>by obtain⟨_,_,_,rfl⟩:=oS hl;rfl));have Zn2:cJ l.prog w K mg base "weight" 8 ["score"] (nN l.prog w K mg base):=Zkd.df X G (w4 Zke T) (Zke.binds (fun _ _ _ _ _ _ us hl=>by obtain⟨_,rfl⟩:=i0 hl;rfl));have Zll:i5 l.prog w K mg base "not_too_wide" 9 ["score"] (gY l.prog w K mg base Zab):=⟨Zlx,Zly,l6 Zga T Zn2 Zge,mg_of X G Zkf.ns,Zga.kp,Zga.binds (fun _ _ _ _ _ _ us hl=>by obtain⟨_,rfl⟩:=i0 hl;rfl)⟩;have Zn3:cJ l.prog w K mg base "not_too_wide" 9 ["score"] (lp l.prog w K mg base):=Zll.calm yF;have Zn4:cJ l.prog w K mg base "first_outside" 1 ["low","high","voice","line"] (lu K):=Zkg.df X G (kH Zkh T) (Zkh.binds (fun _ _ _ _ _ _ us hl=>by obtain⟨_,_,_,_,rfl⟩:=xv hl;rfl));have Zn5:cJ l.prog w K mg base "fault" 9 ["score","line"] (mz l.prog w K mg base):=Zki.df X G (yL Zkj T (Zn4.up (by decide)) Zn1) (Zkj.binds (fun _ _ _ _ _ _ us hl=>by obtain⟨_,_,rfl⟩:=nW hl;rfl));have Zn6:cJ l.prog w K mg base "voice_range" 2 ["row"] (qX K):=Zkk.df X G (ng Zkl T Zgi) (Zkl.binds (fun _ _ _ _ _ _ us hl=>by obtain⟨_,rfl⟩:=i0 hl;rfl));have Zn7:cJ l.prog w K mg base "read" 11 ["text"] (mB l.prog w K mg base Zat):=Zkm.df X G (AH Zkn T Za6 (Zn6.up (by decide)) Znz (Zgk.up (by decide)) (Zn3.up (by decide))) (Zkn.binds (fun _ _ _ _ _ _ us hl=>by obtain⟨_,rfl⟩:=i0 hl;rfl));have Zn8:cJ l.prog w K mg base "shown" 8 ["score"] (iD l.prog w K mg base):=Zko.df X G (yM Zkp T) (Zkp.binds (fun _ _ _ _ _ _ us hl=>by obtain⟨_,rfl⟩:=i0 hl;rfl));have Zn9:i5 l.prog w K mg base "common_range" 9 ["one","other","voice"] (Dc K Zaa):=⟨Zlz,Zl0,DW Zgb T Zbj,mg_of X G Zkq.ns,Zgb.kp,Zgb.binds (fun _ _ _ _ _ _ us hl=>by obtain⟨_,_,_,rfl⟩:=oS hl;rfl)⟩;have Zoa:i5 l.prog w K mg base "common_ranges" 10 ["one","other"] (zq K Zaa):=⟨Zl1,Zl2,CC Zgc T (Zbj.up (by decide)) Zn9,mg_of X G Zkr.ns,Zgc.kp,Zgc.binds (fun _ _ _ _ _ _ us hl=>by obtain⟨_,_,rfl⟩:=nW hl;rfl)⟩;have Zlm:i5 l.prog w K mg base "joined" 11 ["one","other"] (j4 l.prog w K mg base Zat Zaa Zac Zab):=⟨Zl3,Zl4,wW Zgd T Za6 (Zgf.up (by decide)) Zoa (Zgk.up (by decide)) (Zll.up (by decide)),mg_of X G Zks.ns,Zgd.kp,Zgd.binds (fun _ _ _ _ _ _ us hl=>by obtain⟨_,_,rfl⟩:=nW hl;rfl)⟩;have Zob:cJ l.prog w K mg base "joined" 11 ["one","other"] (ll l.prog w K mg base Zat):=Zlm.calm r6;have Zoc:cJ l.prog w K mg base "_law_stirred" 1 ["_law_cell","_law_place"] ly:=Zkt.df X G (ui Zku T) (Zku.binds (fun _ _ _ _ _ _ us hl=>by obtain⟨_,_,rfl⟩:=nW hl;rfl));have Zgl:cJ l.prog w K mg base "_law_got" 2 ["_law_script","_law_place"] (sZ K):=Zkv.df X G (CD Zkw T Zoc) (Zkw.binds (fun _ _ _ _ _ _ us hl=>by obtain⟨_,_,rfl⟩:=nW hl;rfl));have Zln:cJ l.prog w K mg base "_law_cells" 3 ["_law_script","_law_first","_law_last"] (mx K):=Zkx.df X G (yK Zky T Zgl) (Zky.binds (fun _ _ _ _ _ _ us hl=>by obtain⟨_,_,_,rfl⟩:=oS hl;rfl));have Zod:cJ l.prog w K mg base "_law_ranges" 3 ["_law_script"] (Df K):=Zkz.df X G (DY Zk0 T Zgl) (Zk0.binds (fun _ _ _ _ _ _ us hl=>by obtain⟨_,rfl⟩:=i0 hl;rfl));have Zoe:cJ l.prog w K mg base "_law_rule" 1 ["_law_cell","_law_voices"] uI:=Zk1.df X G (AI Zk2 T) (Zk2.binds (fun _ _ _ _ _ _ us hl=>by obtain⟨_,_,rfl⟩:=nW hl;rfl));have Zof:cJ l.prog w K mg base "_law_rules" 2 ["_law_cells_here","_law_ranges_here"] (nL K):=Zk3.df X G (wZ Zk4 T Zoe) (Zk4.binds (fun _ _ _ _ _ _ us hl=>by obtain⟨_,_,rfl⟩:=nW hl;rfl));have Zog:cJ l.prog w K mg base "_law_text" 1 ["_law_ranges_here","_law_rules_here"] (mC K):=Zk5.df X G (yN Zk6 T) (Zk6.binds (fun _ _ _ _ _ _ us hl=>by obtain⟨_,_,rfl⟩:=nW hl;rfl));have Zlo:cJ l.prog w K mg base "_law_met" 1 ["_law_ones","_law_others"] (vH K):=Zk7.df X G (CG Zk8 T) (Zk8.binds (fun _ _ _ _ _ _ us hl=>by obtain⟨_,_,rfl⟩:=nW hl;rfl));have Zoh:cJ l.prog w K mg base "_law_due" 2 ["_law_ones","_law_others","_law_rules_here"] (uF K):=Zk9.df X G (AD Zla T Zlo) (Zla.binds (fun _ _ _ _ _ _ us hl=>by obtain⟨_,_,_,rfl⟩:=oS hl;rfl));have Zoi:cJ l.prog w K mg base "_law_one_kind" 8 ["_law_e"] (fun vs H Q E=>eQ Zaa "voice" vs H Q E∨eQ Zac "many" vs H Q E∨eQ Zab "weight" vs H Q E):=Zlb.df X G (pZ (ia Zbi TX Zl6 Zbj) (pZ (ia Zbi TX Zl7 Zgf) (ia Zbi TX Zl5 Zge))) (Zbi.binds (fun _ _ _ _ _ _ us hl=>by obtain⟨_,rfl⟩:=i0 hl;rfl));have Zoj:cJ l.prog w K mg base "_law_joined" 12 ["_law_one","_law_other"] (De l.prog w K mg base Zat):=Zlc.df X G (DX Zld TX XX Zbj Zgf Zge (Zoi.up (by decide)) Zlm) (Zld.binds (fun _ _ _ _ _ _ us hl=>by obtain⟨_,_,rfl⟩:=nW hl;rfl));have Zok:cJ l.prog w K mg base "_law_earlier" 1 ["_law_one","_law_other","_law_voices","_law_many"] (lj K):=Zle.df X G (ud Zlf T) (Zlf.binds (fun _ _ _ _ _ _ us hl=>by obtain⟨_,_,_,_,rfl⟩:=xv hl;rfl));have Zol:cJ l.prog w K mg base "_law_made" 11 ["_law_ranges_here","_law_rules_here"] (uH l.prog w K mg base Zat):=Zlg.df X G (AF Zlh T (Zgk.up (by decide)) Zn0) (Zlh.binds (fun _ _ _ _ _ _ us hl=>by obtain⟨_,_,rfl⟩:=nW hl;rfl));have Zom:cJ l.prog w K mg base "_law_line" 4 ["_law_script","_law_ones"] (uG K):=Zli.df X G (AE Zlj T Zln) (Zlj.binds (fun _ _ _ _ _ _ us hl=>by obtain⟨_,_,rfl⟩:=nW hl;rfl));exact CF Zfz.fn T Za6 (Zod.up (by decide)) (Zgl.up (by decide)) (Zln.up (by decide)) (Zof.up (by decide)) (Zog.up (by decide)) (Zn7.up (by decide)) Zoj (Zoh.up (by decide)) (Zn8.up (by decide)) (Zlo.up (by decide)) (Zob.up (by decide)) (Zol.up (by decide)) (Zom.up (by decide)) (Zok.up (by decide)) (Zn5.up (by decide))
theorem walk{l:PySem.W.OpenLaw}{q:Program}{loose:List Str}{XP:(Str→Option Value)→Heap→Prop}{YP:World→Heap→Prop}{d:DefRec}{K:Params→Frag}(hn:l.most=some 63)(hdf:d.params.defaults=[])
  (hY:∀(w:World) (h:Heap),YP w h→(K w.params).In h)
  (F:∀(w:World) (mg:Str→Option Value) (fa:Addr) (h:Heap),(K w.params).In h→h.Ns mainGlobals mg→mg d.name=some (.ref fa)→
   ∃fd:FuncData,(∀(s:Shared) (u:Value),BindsTo s fd ⟨[u],[]⟩ [("_law_script",u)])∧∀base:Heap,(K w.params).In base→base.Ns mainGlobals mg→aH l.prog w (K w.params) mg base cb 13 fa fd ["_law_script"] (vG (K w.params))) :
  PySem.W.WalkO q loose XP YP l.row.toRowW d [] (fun f vs=>PySem.call f vs):=
 L2.walk_ofB (n:=63) (k:=13) (x:="_law_script") (CX:=fun _=>cb) (sp:=fun w=>vG (K w.params)) hn (by decide) hdf ⟨rfl,by decide,by decide⟩ hY F (fun _ _ a ns hl hb _ hS=>⟨a,ns,rfl,hS,hb,hl,fun _=>rfl⟩) fun _ _ _ _ _ z=>z
end K24
namespace PySem.W.Fast
def tw10005015905960462808:=0
def tw16078982131993654147:=0
def tw11312798825036337248:=0
def tw3758289949724493952:=0
def tw12294113630818166912:=0
def tw12904070284853109920:=0
def tw5425902291593992384:=0
def tw2509824177690157455:=0
def tw7596102937065464560:=0
def tw6677741088509478990:=0
def tw14485900782726350112:=0
def tw2249717327304376319:=0
def tw3872800292363594996:=0
def tw6625940664229941568:=0
def tw8546132540090454578:=0
def tw3969278114392450432:=0
def tw16169297419671648672:=0
def tw5158806695052176800:=0
def tw16537804049503837149:=0
def tw8389261518507113920:=0
def tw1534317494130304672:=0
def tw5808230562319241316:=0
def tw9886975890057709024:=0
def tw3510926212651076200:=0
def tw13991807281667616861:=0
def tw8907816960491744081:=0
def tw2654374132775558688:=0
def tw12190463394065283616:=0
def tw10055340217857373760:=0
def tw4347692847833547360:=0
def tw12588109068740328784:=0
def tw10707267064024278656:=0
def tw7408361532454353536:=0
def tw9239183328996739712:=0
def tw14580736533031631520:=0
def tw4397082051048983200:=0
def tw4206512803422288430:=0
def tw14861132413162084096:=0
def tw824125586286086766:=0
def tw6255230853615779584:=0
def tw15004344644649803552:=0
def tw15643731873718333216:=0
def tw17248898531898899264:=0
def tw16916551248673711919:=0
def tw11367044510221434720:=0
def tw11134107381221527424:=0
def tw11129249609773163667:=0
def tw12468171010959304576:=0
def tw11679997377592916864:=0
def tw10296220600108446624:=0
def tw296633284924473248:=0
def tw13773731849451508672:=0
def tw13008779003220732864:=0
def tw7966868330209258432:=0
def tw18007782370601334720:=0
def tw13137286493064611873:=0
def tw17064062647436978321:=0
def tw18328663317306887297:=0
def tw1197396571205522561:=0
def tw3974604030469707280:=0
def tw1001776798014424257:=0
def tw134064438003517633:=0
def tw9819771171817961631:=0
def tw1246900125789842657:=0
def tw14719893641782924577:=0
def tw7189223129146814785:=0
def tw3662209375464492385:=0
def tw3701987221192067721:=0
def tw5687840836838925665:=0
def tw2859067526467565921:=0
def tw8254412878335647177:=0
def tw1041002827748976001:=0
def tw16661995893367748001:=0
def tw16357249920246361803:=0
def tw9947005354924154033:=0
def tw18281784715799519628:=0
def tw4541161678528925177:=0
def tw1120316646229585377:=0
def tw9485979688647358269:=0
def tw12895500602889025866:=0
def tw17868401405513712193:=0
def tw5949706648797595918:=0
def tw2883961834250277370:=0
def tw7327163375748162145:=0
def tw10819340335124819553:=0
def tw16883701689854056033:=0
def tw4734479167138929281:=0
def tw12944927190083871368:=0
def tw7510303764056248371:=0
def tw12005622522858648844:=0
def tw4227227433888295220:=0
def tw12969849785997856589:=0
def tw17109388725365067589:=0
def tw592877251280145153:=0
def tw8858532921095656711:=0
def tw17348333102798735137:=0
def tw10802995216683927223:=0
def tw2117077368417476417:=0
def tw16103944408856927096:=0
def tw14981769300701573335:=0
def tw16569457035128530686:=0
def tw1776194893905518509:=0
def tw5786232955569290113:=0
def tw9862389220669261195:=0
def tw8247238034771011485:=0
def tw6665050774080238529:=0
def tw3008189388388090817:=0
def tw7941928579745841089:=0
def tw10546385595079758817:=0
def tw5628496769991720929:=0
def tw3869859579603991521:=0
def tw8900808994699241955:=0
def tw13123042547272262786:=0
def tw3402188628262776599:=0
def tw5285173758703365154:=0
def tw11099299001467934371:=0
def tw4064662567978949698:=0
def tw10351017597531395242:=0
def tw10791241993127598778:=0
def tw10077896796140291202:=0
def tw659562005648668389:=0
def tw12571919504110993634:=0
def tw10229550686853648642:=0
def tw6229064160251884375:=0
def tw8485151186528286425:=0
def tw15165978905137023298:=0
def tw15761905315827873090:=0
def tw2288889113732792570:=0
def tw2528471349261214050:=0
def tw16682117662513247586:=0
def tw16386307701643499938:=0
def tw7606268770176088232:=0
def tw1974703727746037133:=0
def tw6923795714124816834:=0
def tw13306201168733324770:=0
def tw17153813786079225155:=0
def tw9579896734880604674:=0
def tw8899732099047994882:=0
def tw12941608758063624396:=0
def tw1124032499312483190:=0
def tw8791215758399166018:=0
def tw15671734196916062275:=0
def tw6452186598684154598:=0
def tw8720257138763274850:=0
def tw2842366803050311298:=0
def tw18264177176409465474:=0
def tw16641167048826503842:=0
def tw14333459826535504847:=0
def tw12770525264870409626:=0
def tw9068249288497233174:=0
def tw4365247951224840898:=0
def tw3965652360403906409:=0
def tw18182521436600348789:=0
def tw2579811929433499362:=0
def tw16037616268514220732:=0
def tw13883615738635196606:=0
def tw12615743834114817794:=0
def tw9663221601950732066:=0
def tw15120636815599183333:=0
def tw14424619366982997803:=0
def tw1901162760530218462:=0
def tw167506626131809090:=0
def tw11130956551733784418:=0
def tw12293515263226856147:=0
def tw14782104238930055042:=0
def tw18166640955647758630:=0
def tw11383911542325975518:=0
def tw14630106985494451001:=0
def tw12516444445418249:=0
def tw5241353719050291170:=0
def tw712384232239632354:=0
def tw13797870037455587001:=0
def tw8459919222737708035:=0
def tw897443181062566915:=0
def tw7275209510804209699:=0
def tw11778503333238606915:=0
def tw13759536973417010275:=0
def tw11253143913551150179:=0
def tw2021351970407117123:=0
def tw1141035719857508039:=0
def tw1423863806814020687:=0
def tw3859207080502121635:=0
def tw16634334167135719619:=0
def tw8702104803368791235:=0
def tw17176219884024526650:=0
def tw6968805571760505123:=0
def tw5936981091933272053:=0
def tw7065720388122504483:=0
def tw10582932164701485347:=0
def tw10379585586803808796:=0
def tw7687500522351205699:=0
def tw7920537874729836867:=0
def tw13386340420181039459:=0
def tw6283131439761010019:=0
def tw11251459830566843747:=0
def tw1169305204160296291:=0
def tw11133975625786972476:=0
def tw15142421107809863421:=0
def tw14583243128546945443:=0
def tw13474333302975967651:=0
def tw9324290850447198659:=0
def tw9297535426372113859:=0
def tw4831890423718778307:=0
def tw9161124070484322755:=0
def tw5727766202241974755:=0
def tw3889736746616190416:=0
def tw6384569951597826538:=0
def tw15797466178395734026:=0
def tw9952414630876131907:=0
def tw3329050417412262467:=0
def tw4468311205154061891:=0
def tw398412240623898211:=0
def tw10129996935219164771:=0
def tw11068496678531927086:=0
def tw13122643833128601219:=0
def tw2090400124154452661:=0
def tw11216715113657874083:=0
def tw15805218788225533635:=0
def tw10636530659603213050:=0
def tw17120779064497652451:=0
def tw11988870354222006471:=0
def tw7204893633354780669:=0
def tw14439774771809047267:=0
def tw8525112731618713347:=0
def tw12061664431313699:=0
def tw11005680131758717763:=0
def tw14589718151611724643:=0
def tw8175802299758374755:=0
def tw3806817358896154499:=0
def tw14732618108415628163:=0
def tw16558074294866870147:=0
def tw16091857392830685091:=0
def tw6837393689521652699:=0
def tw4124860998910391235:=0
def tw2431766873499618243:=0
def tw14045705949138192782:=0
def tw9826247904137673764:=0
def tw9921738371568676900:=0
def tw3242177948004832324:=0
def tw2710540051133602916:=0
def tw7588956702716208228:=0
def tw5443554621604472429:=0
def tw8132606273384732502:=0
def tw12457145952928127929:=0
def tw12130956812354253245:=0
def tw6549289798516368580:=0
def tw6147672502283372772:=0
def tw8336042346552733988:=0
def tw15958765188192756497:=0
def tw6971677412998397220:=0
def tw4177825044337421604:=0
def tw806596340973171012:=0
def tw2687990442297252946:=0
def tw6040402150447718756:=0
def tw15785110893563538034:=0
def tw4427923725902464356:=0
def tw1045675729133125157:=0
def tw3697094358755001732:=0
def tw13755564707433573828:=0
def tw13997148141839012109:=0
def tw14940115165576060113:=0
def tw6769195077103458970:=0
def tw4070300980962658916:=0
def tw5782538389661363812:=0
def tw3414583382583652996:=0
def tw16971916219315894916:=0
def tw594438547002041226:=0
def tw17990012697776989892:=0
def tw254304338105551556:=0
def tw15814350587862332132:=0
def tw77560140614869438:=0
def tw18360097961087311652:=0
def tw18389555246951486276:=0
def tw17379700607025636164:=0
def tw5918026100294743207:=0
def tw6302244588199357486:=0
def tw10693001645470091446:=0
def tw4578443873418600019:=0
def tw3929956026453005774:=0
def tw16921157000064753701:=0
def tw17334392958749066277:=0
def tw10451053418334928965:=0
def tw9160742326285025349:=0
def tw12086525520785832878:=0
def tw2068520423618804731:=0
def tw17725058825483076709:=0
def tw14253714112981310226:=0
def tw5259690714399946885:=0
def tw10615868464316186036:=0
def tw15403728470109170853:=0
def tw12142560594311798508:=0
def tw2273014191055703237:=0
def tw3176814386900147397:=0
def tw9704844274833359636:=0
def tw9525587807876728005:=0
def tw16518330955616008006:=0
def tw3993232820345830894:=0
def tw11391561955136251109:=0
def tw5115908351049992283:=0
def tw1148889898748577564:=0
def tw11644760410488775941:=0
def tw2641398876079906053:=0
def tw13480354678006866181:=0
def tw4234472101591638277:=0
def tw5934315119900330277:=0
def tw10516189292276101413:=0
def tw6647190917658626341:=0
def tw10716815018941189445:=0
def tw3008795164127736133:=0
def tw4031444062369305631:=0
def tw18198320869845515900:=0
def tw301063040693175120:=0
def tw17603389792375957893:=0
def tw5826317874824364169:=0
def tw9522972010099129765:=0
def tw6612085830459311530:=0
def tw1032114586972741061:=0
def tw8124386492214138345:=0
def tw4672121762623472469:=0
def tw783050402666552837:=0
def tw4898728129228488197:=0
def tw1316200393509824716:=0
def tw13425785530148865387:=0
def tw6798023633453285989:=0
def tw6725469838241479333:=0
def tw4692984338339169625:=0
def tw18285264035693106556:=0
def tw8718289009354976997:=0
def tw17013868898690441957:=0
def tw2148431169055581178:=0
def tw7051599314916512748:=0
def tw7191762669384050501:=0
def tw14881973023098384197:=0
def tw13367641186248480581:=0
def tw116542754238069573:=0
def tw7701595950065855365:=0
def tw2400776235391122309:=0
def tw14005211650872981837:=0
def tw3060446634636811237:=0
def tw7230045302438069044:=0
def tw14875687901688746168:=0
def tw3686968019276872742:=0
def tw8363891803214904341:=0
def tw8674003885984760902:=0
def tw16620042604732367942:=0
def tw14535427003947491760:=0
def tw10301240714914521158:=0
def tw8680460179767079724:=0
def tw14090708812348486539:=0
def tw3244418520466029104:=0
def tw5256579514001078406:=0
def tw4137774201597484166:=0
def tw1582265376429631542:=0
def tw7406538827130731636:=0
def tw17127664179198981558:=0
def tw5442991529421731162:=0
def tw7140724116674964878:=0
def tw2979346606175116614:=0
def tw2758334963174096690:=0
def tw8178002302808760678:=0
def tw17812355140809581227:=0
def tw5067158519113654662:=0
def tw10453096723326687112:=0
def tw15749722150724447622:=0
def tw11063748991142537638:=0
def tw3085162543526259142:=0
def tw863288257769066076:=0
def tw10976819400703257512:=0
def tw8673600025961305866:=0
def tw12848642006689875462:=0
def tw4717203962134148269:=0
def tw8042063244765015789:=0
def tw17635747599341236734:=0
def tw15449926609534225454:=0
def tw17621623028274930410:=0
def tw6633311104045145909:=0
def tw16633075140343920198:=0
def tw8824790808029367756:=0
def tw15149509811176343611:=0
def tw15460206634497278183:=0
def tw992076798886380955:=0
def tw6555671411130884742:=0
def tw7689153898471472774:=0
def tw10957094669786710671:=0
def tw183911599017927694:=0
def tw3539616182540017382:=0
def tw17187761132001265108:=0
def tw12292523254788723494:=0
def tw16551299196060990830:=0
def tw3050099933111223743:=0
def tw6075368514645571462:=0
def tw12031200216928622906:=0
def tw18399537087359941258:=0
def tw4408542762465503775:=0
def tw6810986045129196075:=0
def tw18036536314259275750:=0
def tw14220043283977766886:=0
def tw3625296020739349511:=0
def tw3594274249845826599:=0
def tw5794719294531841095:=0
def tw16912177212348816455:=0
def tw2075588704393836647:=0
def tw3812244178214506873:=0
def tw18027666899693684903:=0
def tw11987916466386746900:=0
def tw12104651844016669927:=0
def tw6890314661846229807:=0
def tw7192170166598917383:=0
def tw17972688386383038759:=0
def tw6948903100771604807:=0
def tw259809616193015985:=0
def tw13131512567841725329:=0
def tw17728478878716112231:=0
def tw2507346378603981489:=0
def tw13497478049565723015:=0
def tw8653319412113699207:=0
def tw15771553657816641019:=0
def tw10426081508572547495:=0
def tw3324737299812485039:=0
def tw10753047866913386195:=0
def tw15189261877304247751:=0
def tw12317451355940044726:=0
def tw1318778891991812583:=0
def tw7241625057113147879:=0
def tw18138001761572943367:=0
def tw16001362470749702044:=0
def tw8230547022948137639:=0
def tw9187143671660381895:=0
def tw17814262911330100935:=0
def tw17374798270355792583:=0
def tw7080461558175098567:=0
def tw14702365435563954670:=0
def tw229989095852903261:=0
def tw11249239567511642684:=0
def tw16138095771363503409:=0
def tw12755165854013915943:=0
def tw4228384499604944702:=0
def tw61303061326822620:=0
def tw1526150657864998128:=0
def tw16850346492591357895:=0
def tw7711794807755950974:=0
def tw7143833781331036168:=0
def tw9795706214510490664:=0
def tw17799935010942782890:=0
def tw11234277814912949320:=0
def tw13022644520048337133:=0
def tw11263078422310661140:=0
def tw18152138629315825482:=0
def tw14798471370522645727:=0
def tw9914736487719232094:=0
def tw10001433062268700078:=0
def tw11632572104513060072:=0
def tw13222486049207927048:=0
def tw6035202540781931848:=0
def tw16927405541697176904:=0
def tw6251599244553616712:=0
def tw11905510894252989800:=0
def tw9102951777053115657:=0
def tw13934883228985589192:=0
def tw2669759771158517224:=0
def tw697086325085692680:=0
def tw157873183137233333:=0
def tw15014195221202389684:=0
def tw2548318952233170733:=0
def tw10054248426920272488:=0
def tw6444193526343277293:=0
def tw1545311051177413692:=0
def tw3420679238923420427:=0
def tw10442133518522055304:=0
def tw16710909652055260808:=0
def tw15190178837017060209:=0
def tw6406943708972831432:=0
def tw4577346467340019415:=0
def tw7342685285726913256:=0
def tw17590988573560596200:=0
def tw3202059594195694344:=0
def tw1424779181847836424:=0
def tw12238073818534169384:=0
def tw15400692287347119912:=0
def tw9103686353932783505:=0
def tw17126754618646982472:=0
def tw7485833222959320141:=0
def tw13725227636962873192:=0
def tw15107743532066757512:=0
def tw10064569602772217736:=0
def tw16744207674983886068:=0
def tw11248956301310215144:=0
def tw11386993465997812712:=0
def tw10631348710323789997:=0
def tw5709454544758679593:=0
def tw434677430893949066:=0
def tw6573184689669342219:=0
def tw10871241484439055866:=0
def tw9334000566845328553:=0
def tw2373694602770236821:=0
def tw17487495888989421929:=0
def tw804291035464948786:=0
def tw13043740391948036521:=0
def tw14495270291716292242:=0
def tw3588586425952947625:=0
def tw15174223639562856905:=0
def tw16601465767602286495:=0
def tw5080614525491644601:=0
def tw5927125456807379497:=0
def tw689416782831130185:=0
def tw3937496009165068905:=0
def tw9833593570716479113:=0
def tw12213989862962304681:=0
def tw6294065587315517097:=0
def tw17918072378943115033:=0
def tw5780404571958918320:=0
def tw1958797230889336441:=0
def tw13695440597137814217:=0
def tw17372835448925276905:=0
def tw17507336310985855753:=0
def tw10869114102446061722:=0
def tw6193163241344693163:=0
def tw1061316718546151273:=0
def tw12440349925419618776:=0
def tw5181513152340922281:=0
def tw4594623588200868809:=0
def tw18264182884522035210:=0
def tw15439896523386040330:=0
def tw4995854089310893682:=0
def tw17046745939363741427:=0
def tw15067642165869848892:=0
def tw14168343377730358417:=0
def tw17527711846234241386:=0
def tw5669390689800886442:=0
def tw4011471424255603115:=0
def tw13536923754528784170:=0
def tw15289257022316548094:=0
def tw2377233816832360650:=0
def tw13836954930591766333:=0
def tw7111983126741045514:=0
def tw452557236436309258:=0
def tw6202258707723310684:=0
def tw1869005042015644158:=0
def tw10750569248763710863:=0
def tw8352143689162827029:=0
def tw9748460459148156298:=0
def tw16352929296653899062:=0
def tw12086782560542796234:=0
def tw7219734257826088426:=0
def tw13772637211425964018:=0
def tw6006431551857740330:=0
def tw14278884365530614346:=0
def tw22120195838863946:=0
def tw9830396901873135242:=0
def tw1265682022841927575:=0
def tw17567695761839897101:=0
def tw17913673139531496106:=0
def tw14801495844598706858:=0
def tw1574921935380781456:=0
def tw15332301121850634300:=0
def tw16423917001268098941:=0
def tw3416417418142723850:=0
def tw15317317822668859441:=0
def tw14715300388882708234:=0
def tw9027110402203803056:=0
def tw3444607598853761998:=0
def tw8307639922753393564:=0
def tw4624771624950679370:=0
def tw1229541451369066410:=0
def tw11310652907343190986:=0
def tw2513359068863076330:=0
def tw12056782268621230523:=0
def tw6131000166509003158:=0
def tw18328999854248133108:=0
def tw15030509262304636939:=0
def tw15310846519587896363:=0
def tw5224238436393489483:=0
def tw15538129420203136249:=0
def tw2167179762368054379:=0
def tw6935067838754685035:=0
def tw13932545177988378763:=0
def tw16219782627067228637:=0
def tw8587576794125512907:=0
def tw18263353387677240523:=0
def tw10399676302019641591:=0
def tw7398467451632190699:=0
def tw1143741463629634140:=0
def tw2547049599467480951:=0
def tw8748752075955780365:=0
def tw11960742818904423691:=0
def tw2359301210930792470:=0
def tw826364010122028506:=0
def tw18132259918112118173:=0
def tw7384789110831825195:=0
def tw13998119708317617327:=0
def tw7555713069170923851:=0
def tw5439317142923699531:=0
def tw7387900103640396139:=0
def tw13237673560656734635:=0
def tw2734355797040339467:=0
def tw2403127268117369976:=0
def tw4209996697100184051:=0
def tw8945683359383958059:=0
def tw11228041522054025072:=0
def tw4471642986436495979:=0
def tw5999291533009372779:=0
def tw13084394776986739307:=0
def tw16612449703808091409:=0
def tw5791377393262569099:=0
def tw8400578944446479449:=0
def tw15822476533004714427:=0
def tw72157718908376779:=0
def tw17978941044300624619:=0
def tw271726646408400651:=0
def tw15894551156905745398:=0
def tw12533791076243470130:=0
def tw3928821213207157783:=0
def tw8843153460408952536:=0
def tw14212544254404994060:=0
def tw7893417832173912560:=0
def tw6422761595442293868:=0
def tw1267552742616910671:=0
def tw13669842229333550284:=0
def tw14626486142248456428:=0
def tw10420488978408353004:=0
def tw677490986433365228:=0
def tw7607704559854702828:=0
def tw17229679409735300332:=0
def tw15207298619461811573:=0
def tw12701736027737069868:=0
def tw16093702865746187564:=0
def tw7984628810822632780:=0
def tw2081113280181660655:=0
def tw15658756667198131870:=0
def tw9727118897316491502:=0
def tw8204043740911308533:=0
def tw4245949191849444377:=0
def tw17886225309248720332:=0
def tw9079021469692286107:=0
def tw4953585008963828268:=0
def tw814250993109436540:=0
def tw14624324950671001164:=0
def tw7405785918810065484:=0
def tw11135578648535677516:=0
def tw10525062997152151768:=0
def tw1477916428100380524:=0
def tw9564648740316473683:=0
def tw13981307691993534156:=0
def tw4060830568097097420:=0
def tw16231337546406185361:=0
def tw3461959194460414700:=0
def tw5984830133779066636:=0
def tw13404162424820863220:=0
def tw11925397066668762892:=0
def tw12320337667455640364:=0
def tw12667831733272279852:=0
def tw14280010644838755148:=0
def tw18215443404193323982:=0
def tw7031663756955380556:=0
def tw4272842192261609292:=0
def tw10392495336145704812:=0
def tw2071775567468000108:=0
def tw4921083915690633755:=0
def tw3800184269584605299:=0
def tw10558388266999762869:=0
def tw8247177222946310485:=0
def tw9358712196293442637:=0
def tw11193231244971127917:=0
def tw6033213922435425389:=0
def tw3521419442321557590:=0
def tw8274781995626707774:=0
def tw7977694535336322258:=0
def tw16598696614570980213:=0
def tw5364343080422322235:=0
def tw2338233334632395053:=0
def tw4198942328274014398:=0
def tw11458856049176686925:=0
def tw14430152917113467120:=0
def tw12117093773391680877:=0
def tw2721327197782936084:=0
def tw7671444572462260180:=0
def tw6366303945120341075:=0
def tw6521963363733348909:=0
def tw16097377948111873645:=0
def tw175949047330754157:=0
def tw12434165419271023064:=0
def tw13202129788714136125:=0
def tw15665519091459109645:=0
def tw3853632403964016397:=0
def tw9510510831260969773:=0
def tw2120442555599558445:=0
def tw12664998952901902350:=0
def tw14017455200118689460:=0
def tw10446091170426431534:=0
def tw17114412160487208279:=0
def tw9907896096888552494:=0
def tw6297989405374104398:=0
def tw15482667049475184988:=0
def tw16099241443328128270:=0
def tw15678503384830477614:=0
def tw16435128462676406606:=0
def tw10095250413655264622:=0
def tw16406981094670287775:=0
def tw7851584486898293134:=0
def tw3906736897200417166:=0
def tw5054946938674473148:=0
def tw5587536257407986094:=0
def tw846626503460604334:=0
def tw15656061199087950286:=0
def tw11980790743114481166:=0
def tw5011082330921947726:=0
def tw7716827356449923317:=0
def tw17298436277995690646:=0
def tw993335494643349102:=0
def tw17290369843089967926:=0
def tw12390416520168904145:=0
def tw2592377264715607790:=0
def tw2909955007549148910:=0
def tw10132998076862135054:=0
def tw10209601130769138478:=0
def tw605328495954680654:=0
def tw15865892166133435246:=0
def tw13822544282109350798:=0
def tw11727881594368094707:=0
def tw11707052213967837070:=0
def tw2532758369122787862:=0
def tw16316663906055055278:=0
def tw1329204139935824814:=0
def tw10310568158985390655:=0
def tw12403052775524196048:=0
def tw7276534923813666831:=0
def tw612271002489514031:=0
def tw16643647216858588303:=0
def tw2076226711476597076:=0
def tw2307017733071176879:=0
def tw2762826681179686063:=0
def tw12700907535479820463:=0
def tw13443943521475392687:=0
def tw261812241241289561:=0
def tw10007368817463463183:=0
def tw6768795081024596318:=0
def tw17162101999447694607:=0
def tw554238848685013263:=0
def tw15917637826110173519:=0
def tw10943947217677858127:=0
def tw13858135427009242479:=0
def tw12755701844042226063:=0
def tw1239516314746462607:=0
def tw11308220074833730169:=0
def tw570712425717718447:=0
def tw4810744676700733306:=0
def tw3224218161602850607:=0
def tw9987425247839269338:=0
def tw3816921173818573455:=0
def tw243291733316305583:=0
def tw8120384893507609263:=0
def tw16363098679320559639:=0
def tw12476177975605133039:=0
def tw1401225915870445327:=0
def tw18346868540601484079:=0
def tw13694780663806936879:=0
def tw11856764532758006833:=0
def tw361919355006481199:=0
def tw626396813146180431:=0
def tw15946961646840047439:=0
def tw9355129930258104175:=0
def tw17407095333382552431:=0
def tw5863620856097953310:=0
def tw4041008913940170703:=0
def tw5937559277020099567:=0
def tw12189930655256054834:=0
def tw2351636156654695256:=0
def tw1989201980896502832:=0
def tw18141304877571524405:=0
def tw4479657460138142235:=0
def tw8542052096273525978:=0
def tw801594742083793104:=0
def tw6281968599830081744:=0
def tw7378454747785173722:=0
def tw6683828555016498544:=0
def tw7374105032345576018:=0
def tw15944382011915527120:=0
def tw5326094712212460016:=0
def tw4531900223426643359:=0
def tw5212068302947806768:=0
def tw6004075408350092880:=0
def tw41329763762048656:=0
def tw7048856997091471766:=0
def tw14794279870869763760:=0
def tw2193965112737830608:=0
def tw6645560029764679954:=0
def tw1745238309746545392:=0
def tw9302953311765622332:=0
def tw16720316601252796144:=0
def tw1001541748931695376:=0
def tw17430026987556738928:=0
def tw12795562271558589908:=0
def tw3142026423694806065:=0
def tw8888995188771186769:=0
def tw2426772760223554641:=0
def tw2606688178250484849:=0
def tw18638875323156593:=0
def tw5005372886691423192:=0
def tw15523986077438843025:=0
def tw12470893378796326097:=0
def tw6519107327723122810:=0
def tw8966433622113126491:=0
def tw11899955253787115761:=0
def tw10109895269985102097:=0
def tw7531597075127563537:=0
def tw15805410565678964017:=0
def tw15457243354848765361:=0
def tw7919336484171053560:=0
def tw6106713641352234481:=0
def tw9569085749263177233:=0
def tw13866300300390075953:=0
def tw7137696104488893041:=0
def tw7349563220091391633:=0
def tw16115592594813548241:=0
def tw17561730132499515958:=0
def tw18344202108682165009:=0
def tw11605076237917926642:=0
def tw247955949881321297:=0
def tw17570460621669676921:=0
def tw15466517068063287281:=0
def tw6297649617268649876:=0
def tw13408166585398894424:=0
def tw2638059200047000626:=0
def tw11725512610783450258:=0
def tw11901182883754155154:=0
def tw17279742669433785522:=0
def tw8802437514122821653:=0
def tw13837064754254594322:=0
def tw11995997305780982034:=0
def tw11464733882966359346:=0
def tw2136082880689707739:=0
def tw9181120904890740534:=0
def tw17055814851732153085:=0
def tw15093018389730754645:=0
def tw13543980525410706930:=0
def tw11552550130569527826:=0
def tw2274951400589986230:=0
def tw4552322832567565938:=0
def tw2079561675421480594:=0
def tw8085536814132476562:=0
def tw12255965780414867186:=0
def tw15736162563337992218:=0
def tw13806908155119298844:=0
def tw12057246897414409010:=0
def tw390887903544219001:=0
def tw17244616940131617854:=0
def tw10698280337316297618:=0
def tw6278715832282846036:=0
def tw11405206110867464146:=0
def tw3467986778415659986:=0
def tw16182435481298055835:=0
def tw14932262270505623603:=0
def tw15441488047687587923:=0
def tw12066683728160839763:=0
def tw7925579619297690739:=0
def tw648282401330339059:=0
def tw1714296955668744856:=0
def tw3301315977883821363:=0
def tw14232125979780692307:=0
def tw15547566696800472980:=0
def tw15642280521889536435:=0
def tw1897555283693626899:=0
def tw3936371492705931827:=0
def tw12229207835205424477:=0
def tw7419655539541903987:=0
def tw2724370127164975795:=0
def tw7304054618943975123:=0
def tw1881023972294656819:=0
def tw18341313247244325683:=0
def tw16141962133772458718:=0
def tw18255109161720543868:=0
def tw14937077967956328307:=0
def tw11325904683773977491:=0
def tw6720475983175576467:=0
def tw17729191060938927003:=0
def tw13629697325647438835:=0
def tw15662031862827809943:=0
def tw14659740628238503060:=0
def tw1043116848376287380:=0
def tw2464954523808396981:=0
def tw3695766435069937590:=0
def tw7971774578655064372:=0
def tw548401651713766171:=0
def tw4909675101898681753:=0
def tw16605348440457696628:=0
def tw6491224138297296766:=0
def tw15479086749421950452:=0
def tw6339515775858442108:=0
def tw1250318812539589140:=0
def tw766901443240720916:=0
def tw12567384170325694004:=0
def tw10459510526514036308:=0
def tw15245721555821268987:=0
def tw16640826906128982708:=0
def tw13693186123605442228:=0
def tw13318471514868534996:=0
def tw10764264391822800692:=0
def tw6223524072761741685:=0
def tw3291736509863468884:=0
def tw16193534391465854932:=0
def tw17127773246631883002:=0
def tw5640266992093734900:=0
def tw2309561281572658197:=0
def tw6883965409656591477:=0
def tw10520142701954662549:=0
def tw11754903299741624501:=0
def tw16594179996388419861:=0
def tw7953246598416988469:=0
def tw10738349610292767029:=0
def tw17139543510016275934:=0
def tw9231694214132320821:=0
def tw13639024792935141658:=0
def tw4932180235390758549:=0
def tw5501340589638594229:=0
def tw2140778905121707000:=0
def tw10969291163074147834:=0
def tw2878245998338959157:=0
def tw17211878423995427669:=0
def tw16115836711703466837:=0
def tw9096439989645273566:=0
def tw15885144777525520245:=0
def tw10759117598407147357:=0
def tw2878209263041347385:=0
def tw3664839028488971286:=0
def tw1847456616599077014:=0
def tw9782509714690084022:=0
def tw9440459302414860598:=0
def tw7568084976271588726:=0
def tw14833642599360604598:=0
def tw797755805255269846:=0
def tw5363522831332913919:=0
def tw671849875580707772:=0
def tw14791008516108889750:=0
def tw9535087731643558519:=0
def tw2099252936730733238:=0
def tw12511006485505514904:=0
def tw1716517020457186714:=0
def tw8856523291302309846:=0
def tw6099980977162148093:=0
def tw10279530285995462679:=0
def tw13663640155001444506:=0
def tw17537184740160405916:=0
def tw2074731430233008413:=0
def tw6839818903322902751:=0
def tw15187853727776609786:=0
def tw5381205580419440921:=0
def tw13238365847049991479:=0
def tw14096430365335896439:=0
def tw5668237163450161724:=0
def tw5550139186137410135:=0
def tw15635173086380946071:=0
def tw12348563861682054903:=0
def tw1601842591357103613:=0
def tw12913959394759760663:=0
def tw8868376291332108604:=0
def tw1651389561454470007:=0
def tw17905999801717173916:=0
def tw11446770969905301399:=0
def tw1859821777240590747:=0
def tw9555282073370051551:=0
def tw10052840342879667384:=0
def tw6405187531211091160:=0
def tw111776908464517368:=0
def tw5641114579591123741:=0
def tw6001738524111293880:=0
def tw14820726198415345882:=0
def tw10682037993277591483:=0
def tw1000447083939021244:=0
def tw5252508083018617918:=0
def tw6285061004101427832:=0
def tw9416923998757100184:=0
def tw5262852732638879133:=0
def tw1012112650635716987:=0
def tw6738624445480269592:=0
def tw2120313314813718586:=0
def tw4287627772766959416:=0
def tw17301749530558280281:=0
def tw2818046490132494361:=0
def tw5347219270283376697:=0
def tw10443591140882992922:=0
def tw3801374081791135961:=0
def tw16364267992148727033:=0
def tw3519244982570879038:=0
def tw6430609210215041433:=0
def tw13092721661462090201:=0
def tw17823094954416992761:=0
def tw5989390027488853497:=0
def tw7085956608054863513:=0
def tw4503045101924779737:=0
def tw5626605718289532697:=0
def tw13152173835700322105:=0
def tw4773654616408919929:=0
def tw6259001675833294749:=0
def tw1985658255326054329:=0
def tw11422457221146915769:=0
def tw8049202945457104253:=0
def tw8336499953694065625:=0
def tw11724825534727767583:=0
def tw9723927607237570906:=0
def tw8445528768993685722:=0
def tw10016426529328449914:=0
def tw17217629716982997275:=0
def tw15040702823971788282:=0
def tw3606494729988159994:=0
def tw2273142223146402618:=0
def tw7002437480744290138:=0
def tw5814336153373874812:=0
def tw130100919983336442:=0
def tw14401760219867148347:=0
def tw11336514378528523419:=0
def tw3898406587176853469:=0
def tw12903151701164843291:=0
def tw14097423141889484347:=0
def tw10348338931812759293:=0
def tw7950283079173101854:=0
def tw9255081372315207515:=0
def tw17729821949414469467:=0
def tw12387366312291141499:=0
def tw988701776516497275:=0
def tw4676504191572562843:=0
def tw5109774438550696859:=0
def tw1783093170714515295:=0
def tw16974202968565697336:=0
def tw3054521973351068764:=0
def tw2256326144839274750:=0
def tw3501859907666859132:=0
def tw3891022806732564286:=0
def tw6256806708853394716:=0
def tw13963919549160430940:=0
def tw11383313919159716734:=0
def tw18277095896313291772:=0
def tw7609800934689517021:=0
def tw221396617667945372:=0
def tw8391040081023815580:=0
def tw7883592990287825884:=0
def tw18147190368964470877:=0
def tw3606063746806246525:=0
def tw1149302063784741822:=0
def tw17835848846558682365:=0
def tw16312836570411604253:=0
def tw11403947234587074877:=0
def tw11419133151025473309:=0
def tw13752554574535954270:=0
def tw8923892519821875101:=0
def tw6900457049958277182:=0
def tw9019478887596571710:=0
def tw13070827731546586270:=0
def tw10618343379294600478:=0
def tw10056441086435170270:=0
def tw3116859827819923006:=0
def tw8662955798482734495:=0
def tw14481965822732447454:=0
def tw6959093555140065407:=0
def tw10318957403145070559:=0
end PySem.W.Fast
local macro_rules | `(tactic| walk_at "h0") => `(tactic| (refine' L2.methAt_mk ?a ?i ?l ?c ?k; (case a=>k_is); (case i=>k_is); (case l=>k_is); (case c=>k_is); (case k=>k_is)))
local macro_rules | `(tactic| walk_at "h1") => `(tactic| (refine' L2.kit_own ?a ?b ?c ?d; (case a=>rfl); (case b=>k_is); (case c=>k_is); (case d=>k_is)))
local macro_rules | `(tactic| walk_at "h2") => `(tactic| (refine' L2.defAt_mk ?a ?l ?c ?k; (case a=>k_is); (case l=>k_is); (case c=>k_is); (case k=>k_is)))
local macro_rules | `(tactic| walk_at "h3") => `(tactic| (refine' L2.mkAt_mk ?n ?m ?a ?i ?kc ?l ?c ?k; (case n=>k_is); (case m=>k_is); (case a=>k_is); (case i=>k_is); (case kc=>k_is); (case l=>k_is); (case c=>k_is); (case k=>k_is)))
local macro_rules | `(tactic| walk_at "h4") => `(tactic| (refine' L2.const_mk ?e ?r; (case e=>k_is); (case r=>exact⟨_,by with_unfolding_all rfl⟩)))
local macro_rules | `(tactic| walk_at "h5") => `(tactic| (refine'⟨?a,L2.fun_mk ?l ?c ?k⟩; (case a=>k_is); (case l=>k_is); (case c=>k_is); (case k=>k_is)))
local macro_rules | `(tactic| walk_at "h6") => `(tactic| (refine' L2.exm_own ?a ?b ?c ?d; (case a=>k_is); (case b=>k_is); (case c=>k_is); (case d=>k_is)))
local macro_rules | `(tactic| walk_at "h7") => `(tactic| (refine'⟨⟨?a,?b,?c,?d⟩,?f0,?f1,?f2,?f3⟩; (case a=>k_is); (case b=>k_is); (case c=>k_is); (case d=>k_is); (case f0=>delta L2.NoAttr;k_is); (case f1=>delta L2.NoAttr;k_is); (case f2=>delta L2.NoAttr;k_is); (case f3=>delta L2.NoAttr;k_is)))
local macro_rules | `(tactic| walk_at "h8") => `(tactic| (refine'⟨⟨?a,?b,?c,?d⟩,?f0,?f1,?f2⟩; (case a=>k_is); (case b=>k_is); (case c=>k_is); (case d=>k_is); (case f0=>delta L2.NoAttr;k_is); (case f1=>delta L2.NoAttr;k_is); (case f2=>delta L2.NoAttr;k_is)))
local macro_rules | `(tactic| walk_at "h9") => `(tactic| (refine' L2.exAt_mk ?lk ?ln ?en ?ii ?aa ?ab ?ac ?ad ?ae ?ls ?lm ?em ?is ?ba ?bb ?bc ?bd ?be ?kp ?fn ?l ?c ?k; (case lk=>k_is); (case ln=>k_is); (case en=>rfl); (case ii=>k_is); (case aa=>k_is); (case ab=>k_is); (case ac=>k_is); (case ad=>k_is); (case ae=>k_is); (case ls=>k_is); (case lm=>k_is); (case em=>rfl); (case is=>k_is); (case ba=>k_is); (case bb=>k_is); (case bc=>k_is); (case bd=>k_is); (case be=>k_is); (case kp=>k_is); (case fn=>k_is); (case l=>k_is); (case c=>k_is); (case k=>k_is)))
local macro_rules | `(tactic| walk_at "h10") => `(tactic| (refine' L2.kit_ty ?a ?b ?d; (case a=>rfl); (case b=>rfl); (case d=>k_is)))
open PySem PySem.W PyProof.Rows
set_option maxRecDepth 100000 in
set_option maxHeartbeats 0 in
theorem PySem.Challenge.cw_fourvoices_k24_two_scores_joined_holds : PySem.Challenge.rw_fourvoices_k24_two_scores_joined.Holds := by
 w_on;o_law;k_head;(case hw=>w_witness2)
 k_fill
 refine K24.walk (l:=PySem.Challenge.rw_fourvoices_k24_two_scores_joined) rfl rfl (fun w h Y=>PySem.W.kIn_of Y) ?F
 case F=>
  intro w mg fa h KX G hmg;refine' K24.all_mk KX G hmg ?Zgm ?Zao ?Zgn ?Zap ?Zgo ?Zaq ?Zgp ?Zar ?Zgq ?Zas ?Zgr ?Zam ?Zgs ?Zal ?Zgt ?Zan ?Zgu ?Za6 ?Zbt ?Zbu ?Zbv ?Zbf ?Zbg ?Zbh ?Zbw ?Zbx ?Zby ?Zbz ?Zb0 ?Zb1 ?Zb2 ?Zb3 ?Zb4 ?Zb5 ?Zb6 ?Zb7 ?Zb8 ?Zb9 ?Zca ?Zcb ?Zcc ?Zcd ?Zce ?Zcf ?Zcg ?Zch ?Zci ?Zcj ?Zck ?Zcl ?Zcm ?Zcn ?Zco ?Zcp ?Zcq ?Zcr ?Zcs ?Zct ?Zcu ?Zcv ?Zcw ?Zcx ?Zcy ?Zcz ?Zc0 ?Zc1 ?Zc2 ?Zc3 ?Zc4 ?Zc5 ?Zc6 ?Zc7 ?Zc8 ?Zc9 ?Zda ?Zdb ?Zdc ?Zdd ?Zde ?Zdf ?Zdg ?Zdh ?Zdi ?Zdj ?Zdk ?Zdl ?Zdm ?Zdn ?Zdo ?Zdp ?Zdq ?Zdr ?Zds ?Zdt ?Zdu ?Zdv ?Zdw ?Zdx ?Zdy ?Zdz ?Zd0 ?Zd1 ?Zd2 ?Zd3 ?Zd4 ?Zd5 ?Zd6 ?Zd7 ?Zd8 ?Zd9 ?Zea ?Zeb ?Zec ?Zed ?Zee ?Zef ?Zeg ?Zeh ?Zei ?Zej ?Zek ?Zel ?Zem ?Zen ?Zeo ?Zep ?Zeq ?Zer ?Zes ?Zet ?Zeu ?Zev ?Zew ?Zex ?Zey ?Zez ?Ze0 ?Ze1 ?Ze2 ?Ze3 ?Ze4 ?Ze5 ?Ze6 ?Ze7 ?Ze8 ?Ze9 ?Zfa ?Zfb ?Zfc ?Zfd ?Zfe ?Zff ?Zfg ?Zfh ?Zfi ?Zfj ?Zfk ?Zfl ?Zfm ?Zfn ?Zfo ?Zfp ?Zfq ?Zfr ?Zfs ?Zft ?Zfu ?Zfv ?Zfw ?Zfx ?n_MAKERS ?t_MAKERS ?d_MAKERS_span ?d_MAKERS_clock ?d_MAKERS_move ?d_MAKERS_alike ?d_MAKERS_back ?d_MAKERS_held ?d_MAKERS_times ?n_INNER_KINDS ?q_INNER_KINDS ?z_len ?z_range ?z_all ?z_min ?z_max ?z_abs ?z_tuple ?z_list ?z_isinstance ?z_bool ?z_int ?z_str ?z_divmod ?z_enumerate ?z_ValueError ?g_FIGURES ?g_MOST_FIGURES ?g_MOST_VOICES ?g_MOST_RULES ?g_MOST_WEIGHT ?g_MOST_NUMBERS ?g_NO_LEAP ?g_LEAP_UP ?g_LEAP_DOWN ?Zfy
  (case Zgm=>k_is)
  (case Zao=>walk_at "h7")
  (case Zgn=>k_is)
  (case Zap=>(refine'⟨⟨?a_3,?b_3,?c_3,?d_3⟩,?f0_3,?f1_3,?f2_3,?f3_3,?f4_3⟩;(case a_3=>k_is);(case b_3=>k_is);(case c_3=>k_is);(case d_3=>k_is);(case f0_3=>delta L2.NoAttr;k_is);(case f1_3=>delta L2.NoAttr;k_is);(case f2_3=>delta L2.NoAttr;k_is);(case f3_3=>delta L2.NoAttr;k_is);(case f4_3=>delta L2.NoAttr;k_is)))
  (case Zgo=>k_is)
  (case Zaq=>walk_at "h8")
  (case Zgp=>k_is)
  (case Zar=>walk_at "h7")
  (case Zgq=>k_is)
  (case Zas=>walk_at "h8")
  (case Zgr=>k_is)
  (case Zam=>walk_at "h8")
  (case Zgs=>k_is)
  (case Zal=>(refine'⟨⟨?a_13,?b_13,?c_13,?d_13⟩,?f0_13,?f1_13,?f2_13,?f3_13,?f4_13⟩;(case a_13=>k_is);(case b_13=>k_is);(case c_13=>k_is);(case d_13=>k_is);(case f0_13=>delta L2.NoAttr;k_is);(case f1_13=>delta L2.NoAttr;k_is);(case f2_13=>delta L2.NoAttr;k_is);(case f3_13=>delta L2.NoAttr;k_is);(case f4_13=>delta L2.NoAttr;k_is)))
  (case Zgt=>k_is)
  (case Zan=>walk_at "h7")
  (case Zgu=>k_is)
  (case Za6=>(refine'⟨⟨?a_17,?b_17,?c_17,?d_17⟩,?f0_17,?f1_17⟩;(case a_17=>k_is);(case b_17=>k_is);(case c_17=>k_is);(case d_17=>k_is);(case f0_17=>delta L2.NoAttr;k_is);(case f1_17=>delta L2.NoAttr;k_is)))
  (case Zbt=>k_is)
  (case Zbu=>k_is)
  (case Zbv=>k_is)
  (case Zbf=>k_is)
  (case Zbg=>k_is)
  (case Zbh=>k_is)
  (case Zbw=>k_is)
  (case Zbx=>k_is)
  (case Zby=>k_is)
  (case Zbz=>k_is)
  (case Zb0=>k_is)
  (case Zb1=>k_is)
  (case Zb2=>k_is)
  (case Zb3=>walk_at "h9")
  (case Zb4=>walk_at "h9")
  (case Zb5=>walk_at "h9")
  (case Zb6=>walk_at "h6")
  (case Zb7=>walk_at "h6")
  (case Zb8=>walk_at "h6")
  (case Zb9=>walk_at "h6")
  (case Zca=>walk_at "h6")
  (case Zcb=>walk_at "h6")
  (case Zcc=>walk_at "h1")
  (case Zcd=>walk_at "h10")
  (case Zce=>walk_at "h1")
  (case Zcf=>walk_at "h1")
  (case Zcg=>walk_at "h1")
  (case Zch=>walk_at "h1")
  (case Zci=>walk_at "h1")
  (case Zcj=>walk_at "h1")
  (case Zck=>walk_at "h1")
  (case Zcl=>walk_at "h1")
  (case Zcm=>walk_at "h1")
  (case Zcn=>walk_at "h1")
  (case Zco=>walk_at "h1")
  (case Zcp=>walk_at "h1")
  (case Zcq=>walk_at "h10")
  (case Zcr=>walk_at "h1")
  (case Zcs=>walk_at "h1")
  (case Zct=>walk_at "h1")
  (case Zcu=>walk_at "h1")
  (case Zcv=>walk_at "h1")
  (case Zcw=>walk_at "h1")
  (case Zcx=>walk_at "h1")
  (case Zcy=>walk_at "h1")
  (case Zcz=>walk_at "h1")
  (case Zc0=>walk_at "h1")
  (case Zc1=>walk_at "h1")
  (case Zc2=>walk_at "h1")
  (case Zc3=>walk_at "h10")
  (case Zc4=>walk_at "h1")
  (case Zc5=>walk_at "h1")
  (case Zc6=>walk_at "h1")
  (case Zc7=>walk_at "h1")
  (case Zc8=>walk_at "h1")
  (case Zc9=>walk_at "h1")
  (case Zda=>walk_at "h1")
  (case Zdb=>walk_at "h1")
  (case Zdc=>walk_at "h1")
  (case Zdd=>walk_at "h1")
  (case Zde=>walk_at "h1")
  (case Zdf=>walk_at "h2")
  (case Zdg=>walk_at "h2")
  (case Zdh=>walk_at "h2")
  (case Zdi=>(refine' L2.cmethAt_mk ?n_82 ?r_82 ?a_82 ?g_82 ?l_82 ?c_82 ?k_82;(case n_82=>k_is);(case r_82=>k_is);(case a_82=>k_is);(case g_82=>k_is);(case l_82=>k_is);(case c_82=>k_is);(case k_82=>k_is)))
  (case Zdj=>walk_at "h0")
  (case Zdk=>walk_at "h0")
  (case Zdl=>walk_at "h0")
  (case Zdm=>walk_at "h0")
  (case Zdn=>walk_at "h0")
  (case Zdo=>walk_at "h0")
  (case Zdp=>walk_at "h0")
  (case Zdq=>walk_at "h0")
  (case Zdr=>walk_at "h0")
  (case Zds=>walk_at "h0")
  (case Zdt=>walk_at "h0")
  (case Zdu=>walk_at "h0")
  (case Zdv=>walk_at "h0")
  (case Zdw=>walk_at "h0")
  (case Zdx=>walk_at "h0")
  (case Zdy=>walk_at "h0")
  (case Zdz=>walk_at "h0")
  (case Zd0=>walk_at "h0")
  (case Zd1=>walk_at "h0")
  (case Zd2=>walk_at "h0")
  (case Zd3=>walk_at "h0")
  (case Zd4=>walk_at "h0")
  (case Zd5=>walk_at "h0")
  (case Zd6=>walk_at "h0")
  (case Zd7=>walk_at "h0")
  (case Zd8=>walk_at "h0")
  (case Zd9=>walk_at "h0")
  (case Zea=>walk_at "h0")
  (case Zeb=>walk_at "h0")
  (case Zec=>walk_at "h0")
  (case Zed=>walk_at "h0")
  (case Zee=>walk_at "h0")
  (case Zef=>walk_at "h0")
  (case Zeg=>walk_at "h0")
  (case Zeh=>walk_at "h0")
  (case Zei=>walk_at "h0")
  (case Zej=>walk_at "h0")
  (case Zek=>walk_at "h0")
  (case Zel=>walk_at "h0")
  (case Zem=>walk_at "h0")
  (case Zen=>walk_at "h3")
  (case Zeo=>walk_at "h3")
  (case Zep=>walk_at "h3")
  (case Zeq=>walk_at "h3")
  (case Zer=>walk_at "h3")
  (case Zes=>walk_at "h3")
  (case Zet=>walk_at "h3")
  (case Zeu=>walk_at "h3")
  (case Zev=>walk_at "h2")
  (case Zew=>walk_at "h2")
  (case Zex=>walk_at "h2")
  (case Zey=>walk_at "h5")
  (case Zez=>walk_at "h5")
  (case Ze0=>walk_at "h5")
  (case Ze1=>walk_at "h5")
  (case Ze2=>walk_at "h5")
  (case Ze3=>walk_at "h5")
  (case Ze4=>walk_at "h5")
  (case Ze5=>walk_at "h2")
  (case Ze6=>walk_at "h2")
  (case Ze7=>(refine' L2.defAtD_mk2 ?a_143 ?l_143 ?c_143 ?k_143 ?t_143 ?d_143 ?r_143;(case a_143=>k_is);(case l_143=>k_is);(case c_143=>k_is);(case k_143=>k_is);(case t_143=>k_is);(case d_143=>rfl);(case r_143=>exact⟨_,rfl⟩)))
  (case Ze8=>walk_at "h2")
  (case Ze9=>walk_at "h3")
  (case Zfa=>walk_at "h2")
  (case Zfb=>walk_at "h2")
  (case Zfc=>walk_at "h2")
  (case Zfd=>walk_at "h2")
  (case Zfe=>walk_at "h2")
  (case Zff=>walk_at "h2")
  (case Zfg=>walk_at "h2")
  (case Zfh=>walk_at "h2")
  (case Zfi=>walk_at "h2")
  (case Zfj=>walk_at "h2")
  (case Zfk=>walk_at "h2")
  (case Zfl=>walk_at "h2")
  (case Zfm=>walk_at "h2")
  (case Zfn=>walk_at "h2")
  (case Zfo=>walk_at "h2")
  (case Zfp=>walk_at "h2")
  (case Zfq=>walk_at "h2")
  (case Zfr=>walk_at "h2")
  (case Zfs=>walk_at "h2")
  (case Zft=>walk_at "h2")
  (case Zfu=>walk_at "h2")
  (case Zfv=>walk_at "h2")
  (case Zfw=>walk_at "h2")
  (case Zfx=>walk_at "h2")
  (case n_MAKERS=>k_is)
  (case t_MAKERS=>(refine' L2.tab_mk ?l_171 ?s_171 ?x_171 ?y_171 ?z_171 ?d_171 ?r_171;(case l_171=>k_is);(case s_171=>rfl);(case x_171=>rfl);(case y_171=>rfl);(case z_171=>rfl);(case d_171=>rfl);(case r_171=>exact(L2.rowsR rfl rfl (L2.rowsR rfl rfl (L2.rowsR rfl rfl (L2.rowsR rfl rfl (L2.rowsR rfl rfl (L2.rowsR rfl rfl (L2.rowsR rfl rfl (L2.rowsR rfl rfl (L2.rowsR rfl rfl .nil))))))))))))
  (case d_MAKERS_span=>with_unfolding_all rfl)
  (case d_MAKERS_clock=>with_unfolding_all rfl)
  (case d_MAKERS_move=>with_unfolding_all rfl)
  (case d_MAKERS_alike=>with_unfolding_all rfl)
  (case d_MAKERS_back=>with_unfolding_all rfl)
  (case d_MAKERS_held=>with_unfolding_all rfl)
  (case d_MAKERS_times=>with_unfolding_all rfl)
  (case n_INNER_KINDS=>k_is)
  (case q_INNER_KINDS=>(refine' L2.ktup_mk ?l_180 ?x_180 ?d_180 ?z_180 ?r_180;(case l_180=>k_is);(case x_180=>rfl);(case d_180=>rfl);(case z_180=>decide);(case r_180=>exact(.cons ⟨_,rfl⟩ (.cons ⟨_,rfl⟩ .nil)))))
  (case z_len=>k_is)
  (case z_range=>k_is)
  (case z_all=>k_is)
  (case z_min=>k_is)
  (case z_max=>k_is)
  (case z_abs=>k_is)
  (case z_tuple=>k_is)
  (case z_list=>k_is)
  (case z_isinstance=>k_is)
  (case z_bool=>k_is)
  (case z_int=>k_is)
  (case z_str=>k_is)
  (case z_divmod=>k_is)
  (case z_enumerate=>k_is)
  (case z_ValueError=>k_is)
  (case g_FIGURES=>walk_at "h4")
  (case g_MOST_FIGURES=>walk_at "h4")
  (case g_MOST_VOICES=>walk_at "h4")
  (case g_MOST_RULES=>walk_at "h4")
  (case g_MOST_WEIGHT=>walk_at "h4")
  (case g_MOST_NUMBERS=>walk_at "h4")
  (case g_NO_LEAP=>walk_at "h4")
  (case g_LEAP_UP=>walk_at "h4")
  (case g_LEAP_DOWN=>walk_at "h4")
  (case Zfy=>walk_at "h2")
