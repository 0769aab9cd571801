import PyProof.Rows.All
import Wide.All
import OpenK.AllK
import Wide.FinOn
import Lean
import PyProof.EqAt
import PyProof.EqKinds
import PyProof.TupleCall
import KE.KTab
import KE.KRevSl
import PyProof.Rows.Range3
import PyProof.WalkInts
import PyProof.Rows.StrSplitMax
import KE.KMinKey
import PyProof.LongRange
import PyProof.ListRange
import PyProof.ExcClass3
import PyProof.InstStore
import PyProof.StationsW
import PyProof.ExcQuiet
import PyProof.RulesTry
import PyProof.ExcArgsOwn
import PyProof.DictRoadsH
import Wide.Seal
import KE.KRevIter
import PyProof.SumAny
import KE.KTryMore
import PySem.Challenge.RW_fourvoices_k62_the_paper_of_prices
set_option compiler.extract_closed false
set_option Elab.async false
set_option linter.all false
set_option maxRecDepth 100000
set_option hygiene false
local macro_rules|`(())=>`(by omega)
local macro_rules|`(∅)=>`(by decide)
local macro_rules|`(⋯)=>`(by rfl)
abbrev aa0:=@PySem.wpAny_bind
abbrev aa1:=@List.length_map
abbrev aa2:=@List.getElem?_eq_getElem
abbrev aa3:=@List.getElem?_eq_some_iff
abbrev aa4:=@PySem.Heap.get?_push_of_some
abbrev aa5:=@List.getElem?_map
abbrev aa6:=@PySem.wpAny_pure
abbrev aa7:=@Nat.le_refl
abbrev aa8:=@PySem.Heap.get?_push_size
abbrev aa9:=@PySem.Heap.lt_size
abbrev ab0:=@List.mem_cons
abbrev ab1:=@List.getElem?_append_left
abbrev ab2:=@List.length_append
abbrev ab3:=@Bool.false_ne_true
abbrev ab4:=@List.size_toArray
abbrev ab5:=@Nat.lt_of_le_of_lt
abbrev ab6:=@Nat.lt_of_lt_of_le
abbrev ab7:=@List.map_append
abbrev ab8:=@List.mem_of_getElem?
abbrev ab9:=@List.getElem?_append_right
abbrev ac0:=@Nat.ne_of_lt
abbrev ac1:=@Nat.zero_le
abbrev ac2:=@Nat.le_trans
abbrev ac3:=@List.mem_singleton
abbrev ac4:=@List.mem_map
abbrev ac5:=@List.take_add_one
abbrev ac6:=@PySem.Heap.get?_update_other
abbrev ac7:=@List.length_cons
abbrev ac8:=@List.forall_mem_cons
abbrev ac9:=@List.mem_append_right
abbrev ad0:=@Bool.false_eq_true
abbrev ad1:=@List.length_take
abbrev ad2:=@List.mem_append
abbrev ad3:=@List.not_mem_nil
abbrev ad4:=@List.take_length
abbrev ad5:=@List.map_cons
abbrev ad6:=@List.mem_cons_self
abbrev ad7:=@Int.emod_lt_of_pos
abbrev ad8:=@List.mem_cons_of_mem
abbrev ad9:=@PySem.Heap.get?_update_self
abbrev ae0:=@List.getElem_mem
abbrev ae1:=@Int.eq_ofNat_of_zero_le
abbrev ae2:=@Int.emod_nonneg
abbrev ae3:=@PySem.wpAny_holding
abbrev ae4:=@PySem.wpAny_truthy_bool
abbrev ae5:=@PySem.wpAny_setField_rec
abbrev ae6:=@PySem.wpAny_field
abbrev ae7:=@Nat.succ_le_succ
abbrev ae8:=@PySem.wpAny_Call_Name_kw
abbrev ae9:=@List.getD_eq_getElem?_getD
abbrev af0:=@PySem.wpAny_seqItems
abbrev af1:=@Nat.ne_of_gt
abbrev af2:=@PySem.Heap.size_push
abbrev af3:=@PySem.wpAny_newObj_type
abbrev af4:=@List.filterMap_cons
abbrev af5:=@List.foldl_cons
abbrev af6:=@PySem.wpAny_call_entry
abbrev af7:=@List.replicate_succ
abbrev af8:=@Int.toNat_natCast
abbrev af9:=@PySem.wpAny_updateSeq
abbrev ag0:=@PySem.wpAny_mono
abbrev ag1:=@List.getElem?_range
abbrev ag2:=@List.forIn_cons
abbrev ag3:=@List.length_eq_zero_iff
abbrev ag4:=@List.foldl_append
abbrev ag5:=@List.append_nil
abbrev ag6:=@List.getElem?_eq_none
abbrev ag7:=@List.lookup_cons
abbrev ag8:=@PySem.wpAny_typeNameOfWhole_itemiter
abbrev ag9:=@Nat.le_of_lt
abbrev ah0:=@List.getElem?_of_mem
abbrev ah1:=@Bool.eq_iff_iff
abbrev ah2:=@PySem.wpAny_ite_split
abbrev ah3:=@Array.length_toList
abbrev ah4:=@Array.toList_append
abbrev ah5:=@Int.le_trans
abbrev ah6:=@List.take_of_length_le
abbrev ah7:=@Nat.lt_irrefl
abbrev ah8:=@PySem.wpAny_letGo
abbrev ah9:=@List.mem_range
abbrev ai0:=@List.getElem?_drop
abbrev ai1:=@PySem.wpAny_typeNameOf_itemiter
abbrev ai2:=@PySem.wpAny_passesOwn
abbrev ai3:=@List.nodup_cons
abbrev ai4:=@PySem.wpAny_specialOf
abbrev ai5:=@Nat.sub_self
abbrev ai6:=@List.map_map
abbrev ai7:=@Bool.and_eq_true
abbrev ai8:=@PySem.wpAny_getItem_str_slice
abbrev ai9:=@List.mem_flatMap
abbrev aj0:=@PySem.wpAny_typeOf
abbrev aj1:=@List.map_nil
abbrev aj2:=@PySem.wpAny_isOneOf_itemiter
abbrev aj3:=@PySem.wpAny_ite_false
abbrev aj4:=@List.getElem?_reverse
abbrev aj5:=@List.filterMap_append
abbrev aj6:=@List.flatten_cons
abbrev aj7:=@List.mem_append_left
abbrev aj8:=@Int.fdiv_eq_ediv_of_nonneg
abbrev aj9:=@Int.fmod_eq_emod_of_nonneg
abbrev ak0:=@List.drop_eq_nil_iff
abbrev ak1:=@Nat.pow_le_pow_right
abbrev ak2:=@List.mem_of_mem_take
abbrev ak3:=@Nat.lt_succ_self
abbrev ak4:=@List.length_drop
abbrev ak5:=@List.all_eq_true
abbrev ak6:=@PySem.wpAny_isInstance
abbrev ak7:=@List.drop_eq_getElem_cons
abbrev ak8:=@List.length_reverse
abbrev ak9:=@Option.map_some
abbrev al0:=@PySem.codeAny_builtin
abbrev al1:=@Int.le_refl
abbrev al2:=@Nat.succ_mul
abbrev al3:=@Nat.lt_succ_of_lt
abbrev al4:=@PySem.wpAny_pyIter_list
abbrev al5:=@List.forIn_nil
abbrev al6:=@List.drop_drop
abbrev al7:=@PySem.wpAny_dictEntries
abbrev al8:=@PySem.wpAny_tryCatch
abbrev al9:=@List.getElem?_zipWith
abbrev am0:=@Nat.not_lt
abbrev am1:=@Nat.min_le_right
abbrev am2:=@Nat.min_eq_right
abbrev am3:=@List.cons_append
abbrev am4:=@PySem.wpAny_standAt
abbrev am5:=@Bool.or_false
abbrev am6:=@Int.natAbs_of_nonneg
abbrev am7:=@PySem.wpAny_updateSeq_pair
abbrev am8:=@List.mem_filter
abbrev am9:=@PySem.wpAny_execs_nil
abbrev an0:=@List.length_nil
abbrev an1:=@Nat.min_eq_left
abbrev an2:=@PySem.wpAny_loadPart'
abbrev an3:=@Int.natCast_mul
abbrev an4:=@List.find?_cons
abbrev an5:=@Int.le_of_lt
abbrev an6:=@List.all_map
abbrev an7:=@Int.natCast_nonneg
abbrev an8:=@PySem.wpAny_rule
abbrev an9:=@Array.forIn_toList
abbrev ao0:=@PySem.wpAny_fieldsOf
abbrev ao1:=@List.append_assoc
abbrev ao2:=@List.nodup_append
abbrev ao3:=@List.flatMap_cons
abbrev ao4:=@List.all_cons
abbrev ao5:=@PySem.wpAny_onRaise
abbrev ao6:=@PySem.wpAny_attempt
abbrev ao7:=@Bool.not_true
abbrev ao8:=@Nat.le_of_not_lt
abbrev ao9:=@PySem.wpAny_forIn_list
abbrev ap0:=@PySem.codeAny_mono
abbrev ap1:=@Nat.mul_comm
abbrev ap2:=@Nat.add_zero
abbrev ap3:=@Int.lt_or_le
abbrev ap4:=@Nat.lt_trans
abbrev ap5:=@Int.add_zero
abbrev ap6:=@List.of_mem_zip
abbrev ap7:=@Bool.or_eq_true
abbrev ap8:=@Array.size_push
abbrev ap9:=@PySem.wpAny_dictEpoch
abbrev aq0:=@Int.mul_one
abbrev aq1:=@Nat.log2_lt
open PySem.W (Frag instObj findIn emptyDict keepIn kia_one fnOf codeIn nsIn mg_of mg_none_of)
theorem Gf{n:Nat}(h:n<=16777216):n<=PySem.sizeLine:=by rw [PySem.sizeLine_eq];exact h
theorem oz2{n c:Nat}(h:n<=c)(k:c<=16777216):n<=PySem.sizeLine:=Gf (ac2 h k)
theorem oz3{n c:Nat}(h:n<=c)(k:c+1<=16777216):n+1<=PySem.sizeLine:=Gf (ac2 (ae7 h) k)
theorem oz5{n c d:Nat}(h:n < d)(j:d<=c)(k:c<=16777216):n < PySem.sizeLine:=ab6 h (oz2 j k)
theorem oe1{a b c:Nat}(h:c < b)(e:a=b):c < a:=e▸h
theorem oe2{a b c:Nat}(h:b<=c)(e:a=b):a<=c:=e▸h
theorem oe3{a b c:Nat}(e:a=b)(h:b<=c)(k:c<=16777216):a<=PySem.sizeLine:=Gf (e▸ac2 h k)
theorem oe4{a b c d:Nat}(e:a=b)(h:b<=c)(k:c<=d):a<=d:=e▸ac2 h k
theorem oe5{a b c:Nat}(e:a=b)(h:c=b):a=c:=e.trans h.symm
theorem oe7{a b c d:Nat}(e:a=b)(f:b=d)(h:c < d):c < a:=e▸f▸h
theorem oi1{a b c:Int}(h:b<=c)(k:a<=b):a<=c:=ah5 k h
theorem oi2{a b c:Int}(h:b<=c)(k:a < b):a < c:=Int.lt_of_lt_of_le k h
theorem oi3{a b:Int}(h:b<=a)(k:0 < b):a≠0:=λe=>Int.not_le.mpr k (e▸h)
theorem on3{a b:Nat}(h:b<=a)(k:0 < b):(0:Int) < a:=Int.ofNat_lt.mpr (ab6 k h)
theorem on4{a b:Nat}(h:b<=a)(k:0 < b):(a:Int)≠0:=λe=>Nat.not_le.mpr k (Int.ofNat.inj e▸h)
theorem on5{n c:Nat}{d:Int}(h:n<=c)(k:(c:Int)<=d):(n:Int)<=d:=ah5 (Int.ofNat_le.mpr h) k
theorem on6{n c:Nat}{d:Int}(h:n<=c)(k:(c:Int) < d):(n:Int) < d:=Int.lt_of_le_of_lt (Int.ofNat_le.mpr h) k
theorem on8(i:Nat){d:Int}(k:d<=0):d<=(i:Int):=ah5 k (an7 i)
theorem oa0{o:Int}(h:0<=o):0 < o+1:=Int.lt_add_one_of_le h
theorem oa1{o:Int}(h:0<=o):1<=o+1:=oa0 h
theorem oa5{o:Int}(h:0<=o):1<=1+o:=Int.le_add_of_nonneg_right h
theorem oa6{o c:Int}(h:o < c):1+o<=c:=by rw [Int.add_comm];exact h
theorem oa8{i n:Nat}(h:i < (n:Int).toNat):i < n:=h
theorem oa9{i n:Nat}(h:i < n):n - i=n - (i+1)+1:=(Nat.succ_pred_eq_of_pos (Nat.sub_pos_of_lt h)).symm
theorem ob0{i n:Nat}(h:i=(n:Int).toNat):i=n:=h
theorem ob2{i n c d:Nat}(h:i < n)(k:n<=c)(e:c<=d):i < d:=ab6 h (ac2 k e)
theorem ob3{i n c d:Nat}(h:i < n)(k:n<=c)(e:c<=d):i<=d:=ag9 (ob2 h k e)
theorem ob6{i n j:Nat}(h:i < n)(k:n=j):i < j:=k▸h
theorem Hc{x c:Int}{m:Nat}(h:0<=x)(k:x<=c)(e:c < (m:Int)):x.natAbs < m:=by omega
theorem oc6{b:Int×Int}:(b.2+1 - b.1).toNat=(b.2 - b.1+1).toNat:=by omega
theorem oc7{x a c:Int}{m:Nat}(h:0<=x)(k:x < a)(j:a<=c)(e:c < (m:Int)):x.natAbs < m:=Hc h (an5 (Int.lt_of_lt_of_le k j)) e
theorem oc8{x a c:Int}{m:Nat}(h:1<=x)(k:x<=a)(j:a<=c)(e:c < (m:Int)):x.natAbs < m:=Hc (ah5 ∅ h) (ah5 k j) e
theorem oc9{x c:Int}{m:Nat}(h:1<=x)(j:x<=c)(e:c < (m:Int)):x.natAbs < m:=Hc (ah5 ∅ h) j e
theorem od5{a b c d:Nat}(h:c < a)(e:a=b)(f:d=b):c < d:=by rw [f,<-e];exact h
theorem od6{a b c d:Nat}(h:a<=c)(k:b<=d)(e:c+d<=16777216):a+b<=PySem.sizeLine:=Gf (ac2 (Nat.add_le_add h k) e)
theorem od8{a b c d:Nat}(e:a=b)(h:b < c)(k:c<=d)(j:d<=16777216):a < PySem.sizeLine:=e▸oz5 h k j
theorem od9{j n:Nat}(h:¬j < n)(k:j - n=0):j=n:=Nat.le_antisymm (Nat.le_of_sub_eq_zero k) (am0.mp h)
theorem oe0{i n m:Nat}(h:¬i < n)(k:i < n+m):i - n < m:=Nat.sub_lt_left_of_lt_add (am0.mp h) k
theorem of3{n c d:Nat}(i:Nat)(k:n<=c)(e:c<=d):min i n<=d:=ac2 (am1 i n) (ac2 k e)
theorem og1{i:Int}{n:Nat}(h:i < n)(k:n<=PySem.sizeLine):i < 2 ^ 63:=by rw [PySem.sizeLine_eq]at k;omega
theorem og2{i:Int}{n:Nat}(h:-(n:Int)<=i)(k:n<=PySem.sizeLine):-2 ^ 63<=i:=by rw [PySem.sizeLine_eq]at k;omega
theorem og3{j c:Int}{m:Nat}(h:0 < j)(k:j < c)(e:c<=(m:Int)):j.natAbs < m:=by omega
theorem oh1{i n m:Nat}(h:i < n)(k:n<=4)(e:4 < m):((i:Int)+1).natAbs < m:=by omega
local macro_rules | `(tactic| omega) => `(tactic| with_reducible first | assumption | exact Nat.le_refl _ | exact Int.le_refl _ | (apply Nat.le_of_lt; assumption) | (apply Int.le_of_lt; assumption) | (apply Nat.not_lt.mp; assumption) | (apply Nat.not_le.mp; assumption) | (apply Int.not_lt.mp; assumption) | (apply Int.not_le.mp; assumption) | (apply Int.ofNat_lt.mpr; assumption) | (apply Int.ofNat_le.mpr; assumption) | (apply Int.ofNat_lt.mp; assumption) | (apply Int.ofNat_le.mp; assumption) | (apply oa8; assumption) | (apply ob0; assumption) | (apply oa9; assumption) | (apply Eq.symm; assumption) | (apply Nat.le_of_eq; assumption) | (apply Int.add_one_le_of_lt; assumption) | (apply oa1; assumption) | (apply oa5; assumption) | (apply oa6; assumption) | (apply Nat.lt_of_succ_lt; assumption) | (apply Nat.sub_succ_lt_self; assumption) | (apply Nat.le_succ_of_le; assumption) | exact Nat.min_le_left _ _ | exact Nat.zero_add _ | exact Nat.succ_add_eq_add_succ _ _ | exact (Int.natCast_succ _).symm | exact Nat.lt_succ_self _ | exact oc6 | (apply Nat.le_trans; assumption; decide) | (apply Nat.lt_of_le_of_lt; assumption; decide) | (apply Nat.lt_of_lt_of_le; assumption; decide) | (apply of3; assumption; decide) | (apply oz3; assumption; decide) | (apply Int.le_trans; assumption; decide) | (apply Int.lt_of_le_of_lt; assumption; decide) | (apply Int.lt_of_lt_of_le; assumption; decide) | (apply oi1; assumption; decide) | (apply oi2; assumption; decide) | (apply oi3; assumption; decide) | (apply on3; assumption; decide) | (apply on4; assumption; decide) | (apply on5; assumption; decide) | (apply on6; assumption; decide) | (apply Gf; decide) | (apply Int.emod_lt_of_pos; decide) | (apply on8; decide) | (apply og1; assumption; assumption) | (apply og2; assumption; assumption) | (apply od9; assumption; assumption) | (apply oe0; assumption; assumption) | (apply oe1; assumption; assumption) | (apply oe2; assumption; assumption) | (apply oe5; assumption; assumption) | (apply ob6; assumption; assumption) | (apply Nat.le_trans; assumption; assumption) | (apply Nat.lt_of_lt_of_le; assumption; assumption) | (apply Nat.lt_of_le_of_lt; assumption; assumption) | (apply Int.le_trans; assumption; assumption) | (apply Int.lt_of_lt_of_le; assumption; assumption) | (apply Int.lt_of_le_of_lt; assumption; assumption) | (apply And.intro; assumption; assumption) | (apply Eq.trans; assumption; assumption) | (apply oe7; assumption; assumption; assumption) | (apply od5; assumption; assumption; assumption) | (apply oc7; assumption; assumption; assumption; decide) | (apply oc8; assumption; assumption; assumption; decide) | (apply od8; assumption; assumption; assumption; decide) | (apply oe3; assumption; assumption; decide) | (apply oe4; assumption; assumption; decide) | (apply ob3; assumption; assumption; decide) | (apply oc9; assumption; assumption; decide) | (apply od6; assumption; assumption; decide) | (apply og3; assumption; assumption; decide) | (apply oh1; assumption; assumption; decide) | decide)
namespace L2
open PySem PySem.Spec PyProof.Rows
variable {A:Around} {C a b dx f:Addr} {E Q:Value->Shared->Prop} {K:Frag} {M:Model} {P:Program} {base h h':Heap} {body:List Stmt} {c e tg:Expr} {ch fp:List Addr} {es:List Expr} {fd:FuncData} {g':Array GenState} {i j k n t':Nat} {kindOf:Str->Option NameKind} {kw:List (Str×Value)} {m x:Str} {mA mg:Str->Option Value} {op:CmpOp} {p pos pos':Pos} {pins:List (Addr×Obj)} {ps:List Str} {s s':Shared} {u:Value} {us:List Value} {w:World}
abbrev tM:=Sum Int Str
def DR:tM->Value->Bool
 | .inl k,v=>Value.isInt k v
 | .inr x,v=>Value.isStrOf x v
def Ha(w:World):tM->Int
 | .inl k=>hashInt k
 | .inr x=>hashStr w x
theorem cO:∀{k:tM} {v:Value},DR k v=true->(∃i t,k=Sum.inl i/\v=Value.int i t)\/(∃x t,k=Sum.inr x/\v=Value.str x t)
 | .inl i,v,h=>by
  obtain⟨t,e⟩:=Value.isInt_shape (k:=i) (v:=v) h;exact .inl ⟨i,t,rfl,e⟩
 | .inr x,v,h=>by
  obtain⟨t,e⟩:=Value.isStrOf_shape (x:=x) (v:=v) h;exact .inr ⟨x,t,rfl,e⟩
theorem Ew(a b:Int):decide ((Sum.inl a:tM)=Sum.inl b)=(a == b):=by
 by_cases e:a=b
 ·subst e;simp
 ·have h:¬(Sum.inl a:tM)=Sum.inl b:=λq=>e (Sum.inl.inj q)
  rw [decide_eq_false h];exact(beq_eq_false_iff_ne.mpr e).symm
theorem Ez(a b:Str):decide ((Sum.inr a:tM)=Sum.inr b)=decide (a=b):=by
 by_cases e:a=b
 ·subst e;simp
 ·have h:¬(Sum.inr a:tM)=Sum.inr b:=λq=>e (Sum.inr.inj q)
  rw [decide_eq_false h,decide_eq_false e]
theorem Ex(a:Int)(b:Str):decide ((Sum.inl a:tM)=Sum.inr b)=false:=decide_eq_false (λq=>nomatch q)
theorem Ey(a:Str)(b:Int):decide ((Sum.inr a:tM)=Sum.inl b)=false:=decide_eq_false (λq=>nomatch q)
def so(prog:Program)(w:World):PySem.KeyKind prog w tM where
 is:=DR
 hash:=Ha w
 inj:=λv a b ha hb=>by
  rcases cO ha with⟨i,t,rfl,rfl⟩ | ⟨x,t,rfl,rfl⟩
  ·rcases cO hb with⟨j,u,rfl,e⟩ | ⟨y,u,rfl,e⟩
   ·injection e with e1 _;rw [e1]
   ·exact nomatch e
  ·rcases cO hb with⟨j,u,rfl,e⟩ | ⟨y,u,rfl,e⟩
   ·exact nomatch e
   ·injection e with e1 _;rw [e1]
 byValue:=λk v h=>by
  rcases cO h with⟨i,t,rfl,rfl⟩ | ⟨x,t,rfl,rfl⟩<;>rfl
 pyHash:=λhv h=>by
  rcases cO hv with⟨i,t,rfl,rfl⟩ | ⟨x,t,rfl,rfl⟩
  ·exact wpAny_pyHash_int h
  ·exact wpAny_pyHash_str h
 eqBool:=λhu hv h=>by
  rcases cO hu with⟨i,t,rfl,rfl⟩ | ⟨x,t,rfl,rfl⟩
  ·rcases cO hv with⟨j,u,rfl,rfl⟩ | ⟨y,u,rfl,rfl⟩
   ·rw [Ew]at h;exact wpAny_eqBool_int h
   ·rw [Ex]at h;exact SeqAt.EqAt.int_str i t y u _ _ _ _ h
  ·rcases cO hv with⟨j,u,rfl,rfl⟩ | ⟨y,u,rfl,rfl⟩
   ·rw [Ey]at h;exact SeqAt.EqAt.str_int x t j u _ _ _ _ h
   ·rw [Ez]at h;exact wpAny_eqBool_str h
 «strs»:=λk x t v h=>by
  rcases cO h with⟨i,u,rfl,e⟩ | ⟨y,u,rfl,e⟩
  ·exact nomatch e
  ·injection e with e1 _
   subst e1
   cases v<;>rfl
inductive V where
 | non | bl (b:Bool) | int (i:Int) | str (x:Str) | byt (b:Array UInt8) | flt (b:UInt64) | ref (a:Addr) | ty (n:String)
 deriving DecidableEq
variable {v y:V} {vs xs:List V}
def aP:V->Value->Prop
 | .non,u=>u=Value.none
 | .bl b,u=>u=Value.bool b
 | .int i,u=>∃t,u=Value.int i t
 | .str x,u=>∃t,u=Value.str x t
 | .byt b,u=>∃t,u=Value.bytes b t
 | .flt b,u=>∃t,u=Value.float b t
 | .ref a,u=>u=Value.ref a
 | .ty n,u=>u=Value.type n
abbrev aU:List V->List Value->Prop:=Paired aP
theorem aU.length(r:aU xs us):xs.length=us.length:=Paired.length r
theorem aU.get:∀{xs:List V} {us:List Value} {i:Nat} {x:V},aU xs us->xs[i]?=some x->∃u,us[i]?=some u/\aP x u
 | _,_,_,_,.nil,e=>by simp at e
 | _,_,0,_,.cons r _,e=>by simp at e;subst e;exact⟨_,rfl,r⟩
 | _,_,i+1,x,.cons _ t,e=>by
  obtain⟨u,h1,h2⟩:=aU.get (i:=i) (x:=x) t (by simpa using e);exact⟨u,by simpa using h1,h2⟩
theorem aU.set{x:V}(r:aP x u):∀{xs:List V} {us:List Value} (i:Nat),aU xs us->aU (xs.set i x) (us.set i u)
 | _,_,_,.nil=>.nil
 | _,_,0,.cons _ t=>.cons r t
 | _,_,i+1,.cons q t=>.cons q (aU.set r i t)
theorem aU.append:∀{xs ys:List V} {us ws:List Value},aU xs us->aU ys ws->aU (xs++ys) (us++ws)
 | _,_,_,_,.nil,s=>s
 | _,_,_,_,.cons r t,s=>.cons r (aU.append t s)
theorem aU.take:∀{xs:List V} {us:List Value} (n:Nat),aU xs us->aU (xs.take n) (us.take n)
 | _,_,0,_=>.nil
 | _,_,_+1,.nil=>.nil
 | _,_,n+1,.cons r t=>.cons r (aU.take n t)
theorem aU.drop:∀{xs:List V} {us:List Value} (n:Nat),aU xs us->aU (xs.drop n) (us.drop n)
 | _,_,0,r=>r
 | _,_,_+1,.nil=>.nil
 | _,_,n+1,.cons _ t=>aU.drop n t
def pI:Option V->Option Value->Prop
 | some v,some u=>aP v u
 | none,none=>True
 | _,_=>False
def KV{κ:Type}:List (κ×V)->List (κ×Value)->Prop:=Paired λ(p:κ×V) (q:κ×Value)=>p.1=q.1/\aP p.2 q.2
def kV:tM->V
 | .inl i=>.int i
 | .inr x=>.str x
inductive HO where
 | lst (xs:List V)
 | tup (xs:List V)
 | dK (kvs:List (tM×V)) | dT (kvs:List (List tM×V))
 | set (S:Int->Bool) (n:Nat)
 | ins (C dx:Addr) (fs:List (Str×V))
 | own (x:Addr)
 | xd (fs:List (Str×V))
 | met (f x:Addr)
 | rng (lo hi:Int)
 | frz (o:Obj) (u:HO)
 | tbl (ps:Array Value)
 | ext (φ:Heap->Prop)
variable {o:HO}
abbrev Hp:=Addr->Option HO
variable {H H':Hp} {R:V->V->Hp->Prop}
def upd(H:Hp)(a:Addr)(o:HO):Hp:=λb=>if b=a then some o else H b
theorem ae:upd H a o a=some o:=by unfold upd;rw [if_pos rfl]
theorem aj(h:b≠a):upd H a o b=H b:=by unfold upd;rw [if_neg h]
theorem bS{u:HO}:upd (upd H a o) a u=upd H a u:=by
 funext b;unfold upd;split<;>rfl
theorem da{u:HO}(h:H a=some o)(h':H b=some u)(d:o≠u):a≠b:=by
 intro e;subst e;rw [h]at h';exact d (Option.some.inj h')
theorem ao(h:H a=some o)(h':H b=none):a≠b:=by
 intro e;subst e;rw [h]at h';cases h'
section
variable (P:Program) (w:World)
def dk(H:Hp)(h:Heap)(a:Addr):HO->Prop
 | .lst xs=>xs.length<=sizeLine/\∃(its:List Value) (n:Nat),aU xs its/\h.get? a=some { cls:=.type "list",data:=.seq its.toArray n }
 | .tup xs=>xs.length<=sizeLine/\∃its:List Value,aU xs its/\IsTup h a its.toArray
 | .dK kvs=>kvs.length<=sizeLine/\(a == sysModules)=false/\∃vs,KV kvs vs/\h.DictOf (so P w) a vs
 | .dT kvs=>kvs.length<=sizeLine/\(a == sysModules)=false/\∃xs:List (List tM×Addr×Value),
   Paired (λ(p:List tM×V) (q:List tM×Addr×Value)=>p.1=q.1/\H q.2.1=some (.tup (p.1.map kV))/\aP p.2 q.2.2) kvs xs/\
   ∃o es ep,h.get? a=some o/\o.ExactDict/\o.data=.dict es ep/\es.toList=xs.map (entryOfKey (tupleKind (so P w)))/\(xs.map (·.1)).Nodup
 | .set S n=>h.SetOf (intKind P w) a S n
 | .ins C dx fs=>H dx=some (.own a)/\fs.length<=1000/\dx≠a/\h.get? a=some (instObj C dx)/\
   ∃mA,h.Ns1 dx mA/\(∀f,pI (fs.lookup f) (mA f))/\PySem.Within mA (fs.map (·.1))
 | .own _=>∃o,h.get? a=some o
 | .xd fs=>∃mA,h.Ns1 a mA/\∀f,pI (fs.lookup f) (mA f)
 | .rng lo hi=>∃t u v,h.get? a=some { cls:=.type "range",data:=.fields #[.int lo t,.int hi u,.int 1 v] }
 | .frz o u=>h.get? a=some o/\dk H h a u
 | .tbl ps=>h.get? a=some { cls:=.none,data:=.fields ps }
 | .met f x=>h.get? a=some (PySem.W.methodObj (.ref f) (.ref x))
 | .ext φ=>φ h/\(∃o,h.get? a=some o)/\∀h1 h2:Heap,φ h1->(∀o,h1.get? a=some o->h2.get? a=some o)->φ h2
def j4(H:Hp)(h:Heap):Prop:=∀a o,H a=some o->dk P w H h a o
end
theorem dk.lt(x:dk P w H h a o):a < h.objs.size:=by
 cases o with
 | lst xs=>obtain⟨_,_,_,_,e⟩:=x;exact aa9 e
 | tup xs=>obtain⟨_,_,_,p⟩:=x;exact p.lt
 | dK kvs=>obtain⟨_,_,_,_,o,_,_,e,_⟩:=x;exact aa9 e
 | dT kvs=>obtain⟨_,_,_,_,o,_,_,e,_⟩:=x;exact aa9 e
 | set S n=>obtain⟨o,_,_,_,e,_⟩:=x;exact aa9 e
 | ins C dx fs=>obtain⟨_,_,_,e,_⟩:=x;exact aa9 e
 | own y=>obtain⟨_,e⟩:=x;exact aa9 e
 | xd fs=>obtain⟨_,⟨_,_,_,e,_⟩,_⟩:=x;exact aa9 e
 | rng lo hi=>obtain⟨_,_,_,e⟩:=x;exact aa9 e
 | frz ob u=>obtain⟨e,_⟩:=x;exact aa9 e
 | tbl ps=>exact aa9 (show h.get? a=some _ from x)
 | met f y=>exact aa9 (show h.get? a=some _ from x)
 | ext φ=>obtain⟨_,⟨_,e⟩,_⟩:=x;exact aa9 e
theorem Paired.mapP{α β:Type}{F G:α->β->Prop}:∀{Yj:List α} {Yk:List β},Paired F Yj Yk->(∀a b,F a b->G a b)->Paired G Yj Yk
 | _,_,.nil,_=>.nil
 | _,_,.cons r t,f=>.cons (f _ _ r) (Paired.mapP t f)
theorem dk.stay(x:dk P w H h a o)(k:∀b u,(b=a\/H b=some (.own a))->h.get? b=some u->h'.get? b=some u)
  (ho:∀b,H b=some (.own a)->H' b=some (.own a)) (ht:∀b xs,H b=some (.tup xs)->H' b=some (.tup xs)):dk P w H' h' a o:=by
 induction o with
 | lst xs=>obtain⟨z,its,n,r,e⟩:=x;exact⟨z,its,n,r,k _ _ (.inl rfl) e⟩
 | tup xs=>obtain⟨z,its,r,ob,e,c⟩:=x;exact⟨z,its,r,ob,k _ _ (.inl rfl) e,c⟩
 | dK kvs=>obtain⟨z,y,vs,r,ob,es,ep,e,c⟩:=x;exact⟨z,y,vs,r,ob,es,ep,k _ _ (.inl rfl) e,c⟩
 | dT kvs=>
  obtain⟨z,y,xs,r,ob,es,ep,e,c⟩:=x;exact⟨z,y,xs,Paired.mapP r λp q z=>⟨z.1,ht _ _ z.2.1,z.2.2⟩,ob,es,ep,k _ _ (.inl rfl) e,c⟩
 | set S n=>obtain⟨ob,es,ep,t,e,c⟩:=x;exact⟨ob,es,ep,t,k _ _ (.inl rfl) e,c⟩
 | ins C dx fs=>
  obtain⟨d,z,ne,e,mA,⟨od,es,ep,e2,c⟩,r⟩:=x;exact⟨ho _ d,z,ne,k _ _ (.inl rfl) e,mA,⟨od,es,ep,k _ _ (.inr d) e2,c⟩,r⟩
 | own y=>obtain⟨ob,e⟩:=x;exact⟨ob,k _ _ (.inl rfl) e⟩
 | xd fs=>obtain⟨mA,⟨od,es,ep,e,c⟩,r⟩:=x;exact⟨mA,⟨od,es,ep,k _ _ (.inl rfl) e,c⟩,r⟩
 | rng lo hi=>obtain⟨t,u,v,e⟩:=x;exact⟨t,u,v,k _ _ (.inl rfl) e⟩
 | frz ob u ih=>obtain⟨e,q⟩:=x;exact⟨k _ _ (.inl rfl) e,ih q⟩
 | tbl ps=>
  have e:h.get? a=some { cls:=.none,data:=.fields ps }:=x;show h'.get? a=some { cls:=.none,data:=.fields ps };exact k a _ (.inl rfl) e
 | met f y=>
  have e:h.get? a=some (PySem.W.methodObj (.ref f) (.ref y)):=x;show h'.get? a=some (PySem.W.methodObj (.ref f) (.ref y));exact k a _ (.inl rfl) e
 | ext φ=>obtain⟨p,⟨o,e⟩,st⟩:=x;exact⟨st _ _ p λo q=>k _ _ (.inl rfl) q,⟨o,k _ _ (.inl rfl) e⟩,st⟩
theorem j4.lt(x:j4 P w H h)(e:H a=some o):a < h.objs.size:=(x a o e).lt
theorem j4.fresh(x:j4 P w H h)(e:h.objs.size<=a):H a=none:=by
 cases q:H a with
 | none=>rfl
 | some u=>exact absurd (ab6 (x.lt q) e) (ah7 _)
theorem j4.kept(x:j4 P w H h)(k:∀b u,h.get? b=some u->h'.get? b=some u):j4 P w H h':=λa o e=>
 (x a o e).stay (λb u _ q=>k b u q) (λ_ q=>q) λ_ _ q=>q
theorem j4.laid(x:j4 P w H h)(k:∀b u,h.get? b=some u->h'.get? b=some u)(hp:h.objs.size<=a)(new:dk P w (upd H a o) h' a o):j4 P w (upd H a o) h':=λb u e=>by
 have hn:=x.fresh hp
 by_cases hb:b=a
 ·subst hb;rw [ae]at e;cases e;exact new
 ·rw [aj hb]at e
  exact(x b u e).stay (λc v _ q=>k c v q) (λc q=>by rw [aj (ao q hn)];exact q) λc xs q=>by rw [aj (ao q hn)];exact q
def Rd(H:Hp)(a:Addr)(u:HO):Prop:=H a=some u\/∃o,H a=some (.frz o u)
theorem Rd.ok{u:HO}(r:Rd H a u)(x:j4 P w H h):dk P w H h a u:=by
 rcases r with r | ⟨o,r⟩
 ·exact x a u r
 ·obtain⟨_,q⟩:=x a _ r
  exact q
def GG:Option HO->Prop
 | some (.lst _)=>True
 | some (.dK _)=>True
 | some (.dT _)=>True
 | some (.set _ _)=>True
 | some (.ins _ _ _)=>True
 | some (.ext _)=>True
 | _=>False
section
variable {x e:Addr} {o':HO}
theorem j4.write(ok:j4 P w H h)(mu:GG (H x))(he:e=x\/H e=some (.own x))(k:∀b u,b≠e->h.get? b=some u->h'.get? b=some u)(heo:∃u,h'.get? e=some u)
  (new:dk P w (upd H x o') h' x o'):j4 P w (upd H x o') h':=λb u q=>by
 have nown:∀c y,H c=some (.own y)->c≠x:=λc y r z=>by subst z;rw [r]at mu;exact mu
 have ntup:∀c xs,H c=some (.tup xs)->c≠x:=λc xs r z=>by subst z;rw [r]at mu;exact mu
 by_cases hb:b=x
 ·subst hb;rw [ae]at q;cases q;exact new
 ·rw [aj hb]at q
  by_cases hbe:b=e
  ·have q':H b=some (.own x):=by
    rcases he with z | z
    ·exact absurd (hbe.trans z) hb
    ·rw [hbe];exact z
   rw [q]at q';cases q';obtain⟨v,hv⟩:=heo;exact⟨v,by rw [hbe];exact hv⟩
  ·refine(ok b u q).stay (λc v hc r=>k c v ?_ r) (λc r=>by rw [aj (nown c b r)];exact r) λc xs r=>by rw [aj (ntup c xs r)];exact r
   rcases hc with rfl | hc
   ·exact hbe
   ·rintro rfl
    rcases he with z | z
    ·exact nown c b hc z
    ·rw [hc]at z;cases z;exact hb rfl
end
structure Un(fs ex:List Addr)(H H':Hp)(h h':Heap):Prop where
 keep:∀b o,h.get? b=some o->H b=none->b∉fs->b∉ex->h'.get? b=some o
 slot:∀b o,h.get? b=some o->H b=none->b∈fs->b∉ex->∃sl,h'.get? b=some { o with slots:=sl }
 free:∀b o,h.get? b=some o->H b=none->b∉ex->H' b=none
 there:∀b o,h.get? b=some o->b∉ex->∃o',h'.get? b=some o'
 tups:∀b xs,H b=some (.tup xs)->H' b=some (.tup xs)
 frzs:∀b o u,H b=some (.frz o u)->H' b=some (.frz o u)
 tbls:∀b ps,H b=some (.tbl ps)->∃more,H' b=some (.tbl (ps++more))
section
variable {fs fs' ex ex':List Addr} {H1 H2:Hp} {h1 h2:Heap} {x e:Addr}
theorem Un.any(u:Un fs ex H H1 h h1){ob:Obj}(q:h.get? b=some ob)(n:H b=none)(hx:b∉ex):∃sl,h1.get? b=some { ob with slots:=sl }:=by
 by_cases hb:b∈fs
 ·exact u.slot b ob q n hb hx
 ·exact⟨ob.slots,u.keep b ob q n hb hx⟩
theorem Un.kept(k:∀b u,h.get? b=some u->h'.get? b=some u):Un fs ex H H h h':=
 ⟨λb ob q _ _ _=>k b ob q,λb ob q _ _ _=>⟨ob.slots,k b ob q⟩,λ_ _ _ n _=>n,λb ob q _=>⟨ob,k b ob q⟩,λ_ _ q=>q,λ_ _ _ q=>q,λ_ ps q=>⟨#[],by rw [q];simp⟩⟩
theorem Un.refl:Un fs ex H H h h:=Un.kept λ_ _ q=>q
theorem Un.laid(k:∀b u,h.get? b=some u->h'.get? b=some u)(hp:h.objs.size<=a)(hn:H a=none):Un fs ex H (upd H a o) h h' where
 keep:=λb u q _ _ _=>k b u q
 slot:=λb u q _ _ _=>⟨u.slots,k b u q⟩
 free:=λb u q n _=>by rw [aj (ac0 (ab6 (aa9 q) hp))];exact n
 there:=λb u q _=>⟨u,k b u q⟩
 tups:=λb xs q=>by rw [aj (ao q hn)];exact q
 frzs:=λb u xs q=>by rw [aj (ao q hn)];exact q
 tbls:=λb ps q=>⟨#[],by rw [aj (ao q hn),q];simp⟩
theorem Un.write(mu:GG (H x))(he:e=x\/H e=some (.own x))(k:∀b u,b≠e->h.get? b=some u->h'.get? b=some u)(heo:∃u,h'.get? e=some u):Un fs ex H (upd H x o) h h':=by
 have hx:∀b,H b=none->b≠x:=λb n z=>by subst z;rw [n]at mu;exact mu
 have hb:∀b,H b=none->b≠e:=λb n z=>by
  subst z;rcases he with r | r
  ·exact hx b n r
  ·rw [n]at r;cases r
 have hm:∀b u,H b=some u->¬GG (some u)->b≠x:=λb u q nm z=>by subst z;rw [q]at mu;exact nm mu
 refine⟨λb u q n _ _=>k b u (hb b n) q,λb u q n _ _=>⟨u.slots,k b u (hb b n) q⟩,λb u q n _=>by rw [aj (hx b n)];exact n,λb u q _=>?_,
  λb xs q=>by rw [aj (hm b _ q λz=>z)];exact q,λb u xs q=>by rw [aj (hm b _ q λz=>z)];exact q,λb ps q=>⟨#[],by rw [aj (hm b _ q λz=>z),q];simp⟩⟩
 by_cases hbe:b=e
 ·subst hbe;exact heo
 ·exact⟨u,k b u hbe q⟩
end
def GO(h:Heap)(H:Hp):List Addr:=(List.range h.objs.size).filter λa=>(H a).isSome
def sd(h:Heap)(H:Hp):Heap:=PySem.W.hideAll h (GO h H)
theorem yt(h:Heap)(H:Hp):(sd h H).objs.size=h.objs.size:=PySem.W.hideAll_size _ _
theorem zY{o:Obj}(e:h.get? b=some o)(n:H b=none):(sd h H).get? b=some o:=
 PySem.W.hideAll_get _ e λhm=>by
  have q:(H b).isSome=true:=(am8.mp hm).2;rw [n]at q;simp at q
theorem CI{o:Obj}(e:(sd h H).get? b=some o):h.get? b=some o/\H b=none:=by
 have e':h.get? b=some o:=PySem.W.of_hideAll (GO h H) e;refine⟨e',?_⟩
 cases q:H b with
 | none=>rfl
 | some x=>
  have hm:b∈GO h H:=am8.mpr ⟨ah9.mpr (aa9 e'),by simp [q]⟩;have z:(sd h H).get? b=none:=PySem.W.hideAll_none (GO h H) hm;rw [z]at e;cases e
structure Mod(K:Frag)(mg:Str->Option Value)(base:Heap):Prop where
 kin:K.In base
 glob:base.Ns mainGlobals mg
 blt:∃mb,base.Ns builtinsNs mb/\∀x:Str,x≠"__name__"->mb x=bootBuiltins x
 nolimit:base.NoLimit
structure Cx where
 prog:Program
 w:World
 K:Frag
 mg:Str->Option Value
 base:Heap
 A:Around
 N:List Str
 Zh:Shared
 Z2:Hp
 env:Env
 outer:List Env
 stack:List Env
 ex:List Addr
 fn:Str->Bool
 calm:Bool
 pn:List (Addr×Obj)
 xe:Value->Shared->Prop
variable {X:Cx}
def vd(l:List Env):List Addr:=l.filterMap (·.frame)
abbrev Cx.fs(X:Cx):List Addr:=vd X.outer
def GH(sc:Scope)(x:Str):Prop:=sc.names.lookup x=some .local\/sc.names.lookup x=some .cell\/sc.names.lookup x=some .free
def Fu(sc:Scope)(x:Str):Prop:=sc.names.lookup x=some .local\/sc.names.lookup x=some .cell
def G2(env:Env)(h:Heap)(m:Str->Option Value)(x:Str)(u:Value):Prop:=
 (env.kindOf x=some .local/\m x=some u)\/((env.kindOf x=some .cell\/env.kindOf x=some .free)/\∃c,env.cells.lookup x=some c/\h.IsCell c (some u))
structure Cx.Ok(X:Cx):Prop where
 mod:Mod X.K X.mg X.base
 kind:X.env.scope.kind=.function
 glob:X.env.globals=mainGlobals
 blt:X.env.builtins=builtinsNs
 above:X.Zh.heap.objs.size<=X.env.locals
 inj:∀x y c,X.env.cells.lookup x=some c->X.env.cells.lookup y=some c->x=y
 has:∀x,(X.env.kindOf x=some .cell\/X.env.kindOf x=some .free)->∃c,X.env.cells.lookup x=some c
 cab:∀x c,X.fn x=true->X.env.cells.lookup x=some c->X.Zh.heap.objs.size<=c
 hd:X.calm=true->X.A.handled=none
 frames:X.A.frames=some X.stack
 stk:X.stack=X.outer\/(X.stack=X.env::X.outer/\X.env.frame=some X.env.locals)
 exf:∀b∈X.ex,b≠X.env.locals/\∀x c,X.env.cells.lookup x=some c->c≠b
 bs:∀b o,X.base.get? b=some o->X.Zh.heap.get? b=some o/\X.Z2 b=none
 bsz:X.base.objs.size<=X.Zh.heap.objs.size
 noex:∀b o,X.base.get? b=some o->b∉X.ex
 exfs:∀b∈X.ex,b∉X.fs
 funs:X.Zh.heap.FunFrames X.base X.outer
 frf:∀b∈X.fs,X.Z2 b=none
structure aK(X:Cx)(pins:List (Addr×Obj))(Z:List (Option V))(H:Hp)(s:Shared):Prop where
 ok:X.Ok
 os:s.os=X.Zh.os
 bare:AllBare s.gens
 base:Un X.fs X.ex X.Z2 H X.Zh.heap s.heap
 loc:∃m,s.heap.Ns X.env.locals m/\∀(i:Nat) (x:Str) (v:V),X.N[i]?=some x->Z[i]?=some (some v)->GH X.env.scope x->∃u,aP v u/\G2 X.env s.heap m x u
 cell:∀x c,X.env.cells.lookup x=some c->∃v,s.heap.IsCell c v
 free:H X.env.locals=none
 freeC:∀x c,X.env.cells.lookup x=some c->H c=none
 pin:∀p∈X.pn++pins,s.heap.get? p.1=some p.2/\H p.1=none/\p.1≠X.env.locals/\p.1∉X.fs/\∀v,p.2.data≠.cell v
 hok:j4 X.prog X.w H s.heap
 len:Z.length=X.N.length
section
variable {Z:List (Option V)}
theorem Cx.Ok.nofr(ok:X.Ok){o:Obj}(e:X.base.get? b=some o):b∉X.fs:=λhb=>by
 have:=(ok.funs.mem hb).1
 rw [e]at this;cases this
theorem aK.bs(I:aK X pins Z H s):∀b o,X.base.get? b=some o->s.heap.get? b=some o/\H b=none:=λb o e=>
 ⟨I.base.keep b o (I.ok.bs b o e).1 (I.ok.bs b o e).2 (I.ok.nofr e) (I.ok.noex b o e),I.base.free b o (I.ok.bs b o e).1 (I.ok.bs b o e).2 (I.ok.noex b o e)⟩
theorem aK.bk(I:aK X pins Z H s):∀b o,X.base.get? b=some o->s.heap.get? b=some o:=λb o e=>(I.bs b o e).1
theorem aK.mod(I:aK X pins Z H s):Mod X.K X.mg X.base:=I.ok.mod
theorem aK.kIn(I:aK X pins Z H s):X.K.In s.heap:=I.ok.mod.kin.keeps I.bk
theorem aK.lt(I:aK X pins Z H s):X.env.locals < s.heap.objs.size:=let ⟨_,hn,_⟩:=I.loc;hn.lt
theorem aK.sz(I:aK X pins Z H s):X.Zh.heap.objs.size<=s.heap.objs.size:=ac2 I.ok.above (ag9 I.lt)
theorem aK.nofs(I:aK X pins Z H s)(h:s.heap.objs.size<=a):a∉X.fs:=λhb=>by
 obtain⟨_,o,ho,_⟩:=I.ok.funs.mem hb;exact absurd (ab6 (aa9 ho) (ac2 I.sz h)) (ah7 _)
theorem aK.cne(I:aK X pins Z H s):∀x c,X.env.cells.lookup x=some c->c≠X.env.locals:=λx c e z=>by
 obtain⟨v,o,ho,hd⟩:=I.cell x c e;obtain⟨m,⟨o',es,ep,ho',hd',_⟩,_⟩:=I.loc;rw [z,ho']at ho;cases ho;rw [hd']at hd;cases hd
theorem aK.funs(I:aK X pins Z H s):s.heap.FunFrames X.base X.outer:=by
 have all:∀(l:List Env),(∀b∈vd l,b∈X.fs)->X.Zh.heap.FunFrames X.base l->s.heap.FunFrames X.base l:=by
  intro l
  induction l with
  | nil=>intro _ _;trivial
  | cons env r ih=>
   rintro hs ⟨hk,⟨L,o,hf,hn,ho,hd⟩,hr⟩;have hL:L∈X.fs:=hs L (by unfold vd;rw [af4,hf];exact ad6);obtain⟨sl,e⟩:=I.base.slot L o ho (I.ok.frf L hL) hL λz=>I.ok.exfs L z hL;exact⟨hk,⟨L,_,hf,hn,e,hd⟩,ih (λb hb=>hs b (by unfold vd;rw [af4,hf];exact ad8 _ hb)) hr⟩
 exact all X.outer (λ_ hb=>hb) I.ok.funs
theorem aK.stack(I:aK X pins Z H s):s.heap.FunFrames X.base X.stack:=by
 rcases I.ok.stk with e | ⟨e,hf⟩
 ·rw [e];exact I.funs
 ·rw [e]
  obtain⟨m,hn,_⟩:=I.loc;refine .cons (by rw [I.ok.kind];decide) hf hn ?_ I.funs;exact Heap.get?_none_of_le (ac2 I.ok.bsz I.ok.above)
theorem aK.stkSub(I:aK X pins Z H s):∀b∈vd X.stack,b∈X.env.locals::X.fs:=λb hb=>by
 rcases I.ok.stk with e | ⟨e,hf⟩
 ·rw [e]at hb;exact ad8 _ hb
 ·rw [e]at hb
  unfold vd at hb;rw [af4,hf]at hb;exact hb
theorem aK.stkFree(I:aK X pins Z H s):∀b∈vd X.stack,H b=none:=λb hb=>by
 rcases ab0.mp (I.stkSub b hb)with e | hb
 ·rw [e];exact I.free
 ·obtain⟨_,o,ho,_⟩:=I.ok.funs.mem hb
  exact I.base.free b o ho (I.ok.frf b hb) λz=>I.ok.exfs b z hb
theorem aK.step{d':Drawn}(I:aK X pins Z H s)
  (hch:∀b∈ch,(b∈X.ex\/X.Zh.heap.objs.size<=b)/\b≠X.env.locals/\(∀x c,X.env.cells.lookup x=some c->c≠b)/\∀p∈X.pn++pins,p.1≠b)
  (keep:∀b o,b≠X.env.locals->b∉X.fs->b∉ch->s.heap.get? b=some o->H b=none->h'.get? b=some o)
  (slot:∀b o,b≠X.env.locals->b∈X.fs->b∉ch->s.heap.get? b=some o->H b=none->∃sl,h'.get? b=some { o with slots:=sl }) (free:∀b o,b∉ch->s.heap.get? b=some o->H b=none->H' b=none)
  (there:∀b o,b∉ch->s.heap.get? b=some o->∃o',h'.get? b=some o')
  (tups:∀b xs,H b=some (.tup xs)->H' b=some (.tup xs)) (frzs:∀b o u,H b=some (.frz o u)->H' b=some (.frz o u)) (tbls:∀b ps,H b=some (.tbl ps)->∃more,H' b=some (.tbl (ps++more)))
  (ns:∀m,s.heap.Ns X.env.locals m->h'.Ns X.env.locals m) (hok:j4 X.prog X.w H' h') (hg:AllBare g') :
  aK X pins Z H' { s with heap:=h',gens:=g',drawn:=d',toks:=t' }:=by
 have neL:∀b o,X.Zh.heap.get? b=some o->b≠X.env.locals:=λb o e=>ac0 (ab6 (aa9 e) I.ok.above)
 have neC:∀b o,X.Zh.heap.get? b=some o->b∉X.ex->b∉ch:=λb o e hx hb=>by
  rcases(hch b hb).1 with z | z
  ·exact hx z
  ·exact absurd (ab6 (aa9 e) z) (ah7 _)
 have cellK:∀x c,X.env.cells.lookup x=some c->∀v,s.heap.IsCell c v->h'.IsCell c v:=λx c e v ⟨o,ho,hd⟩=>by
  have nch:c∉ch:=λz=>(hch c z).2.2.1 x c e rfl
  by_cases hc:c∈X.fs
  ·obtain⟨sl,q⟩:=slot c o (I.cne x c e) hc nch ho (I.freeC x c e)
   exact⟨_,q,hd⟩
  ·exact⟨o,keep c o (I.cne x c e) hc nch ho (I.freeC x c e),hd⟩
 refine⟨I.ok,I.os,hg,⟨λb o e n hb hx=>?_,λb o e n hb hx=>?_,λb o e n hx=>?_,λb o e hx=>?_,λb xs e=>tups b xs (I.base.tups b xs e),λb o xs e=>frzs b o xs (I.base.frzs b o xs e),λb ps e=>?_⟩,?_,λx c e=>?_,?_,λx c e=>?_,λp hp=>?_,hok,I.len⟩
 ·exact keep b o (neL b o e) hb (neC b o e hx) (I.base.keep b o e n hb hx) (I.base.free b o e n hx)
 ·obtain⟨sl,e1⟩:=I.base.slot b o e n hb hx
  obtain⟨sl',e2⟩:=slot b _ (neL b o e) hb (neC b o e hx) e1 (I.base.free b o e n hx);exact⟨sl',e2⟩
 ·obtain⟨o',e1⟩:=I.base.there b o e hx
  exact free b o' (neC b o e hx) e1 (I.base.free b o e n hx)
 ·obtain⟨o',e1⟩:=I.base.there b o e hx
  exact there b o' (neC b o e hx) e1
 ·obtain⟨m1,e1⟩:=I.base.tbls b ps e
  obtain⟨m2,e2⟩:=tbls b _ e1;exact⟨m1++m2,by rw [e2,Array.append_assoc]⟩
 ·obtain⟨m,hn,hl⟩:=I.loc
  refine⟨m,ns m hn,λi x v e1 e2 e3=>?_⟩;obtain⟨u,r,l⟩:=hl i x v e1 e2 e3;refine⟨u,r,?_⟩;rcases l with l | ⟨k,c,e,z⟩
  ·exact .inl l
  ·exact .inr ⟨k,c,e,cellK x c e _ z⟩
 ·obtain⟨v,z⟩:=I.cell x c e
  exact⟨v,cellK x c e v z⟩
 ·obtain⟨m,⟨o,_,_,ho,_⟩,_⟩:=I.loc
  exact free _ o (λz=>(hch _ z).2.1 rfl) ho I.free
 ·obtain⟨v,o,ho,hd⟩:=I.cell x c e
  exact free c o (λz=>(hch c z).2.2.1 x c e rfl) ho (I.freeC x c e)
 ·obtain⟨e,n,ne,nf,d⟩:=I.pin p hp
  have nch:p.1∉ch:=λz=>(hch p.1 z).2.2.2 p hp rfl;exact⟨keep p.1 p.2 ne nf nch e n,free p.1 p.2 nch e n,ne,nf,d⟩
theorem aK.un(I:aK X pins Z H s)(u:Un X.fs [] H H' s.heap h')(hok:j4 X.prog X.w H' h'):aK X pins Z H' { s with heap:=h',toks:=t' }:=by
 obtain⟨m,⟨o,es,ep,ho,r⟩,_⟩:=id I.loc;obtain⟨sl,hL⟩:=u.any ho I.free (by simp)
 exact I.step (g':=s.gens) (d':=s.drawn) (ch:=[]) (λ_ z=>nomatch z) (λb o _ hb _ e n=>u.keep b o e n hb (by simp)) (λb o _ hb _ e n=>u.slot b o e n hb (by simp)) (λb o _ e n=>u.free b o e n (by simp)) (λb o _ e=>u.there b o e (by simp)) u.tups u.frzs u.tbls (λm' hm=>by
  obtain⟨o',es',ep',ho',r'⟩:=hm;rw [ho]at ho';cases ho'
  exact⟨_,es',ep',hL,r'⟩) hok I.bare
theorem aK.call{d':Drawn}(I:aK X pins Z H s)(u:Un (vd X.stack) ch H H' s.heap h')(hok:j4 X.prog X.w H' h')(hg:AllBare g')
  (hch:∀b∈ch,(b∈X.ex\/X.Zh.heap.objs.size<=b)/\b≠X.env.locals/\(∀x c,X.env.cells.lookup x=some c->c≠b)/\∀p∈X.pn++pins,p.1≠b) :
  aK X pins Z H' { s with heap:=h',gens:=g',drawn:=d',toks:=t' }:=by
 obtain⟨m,⟨o,es,ep,ho,r⟩,_⟩:=id I.loc;obtain⟨sl,hL⟩:=u.any ho I.free λz=>(hch _ z).2.1 rfl
 exact I.step (ch:=ch) hch (λb o hL hb hc e n=>u.keep b o e n (λz=>(ab0.mp (I.stkSub b z)).elim hL hb) hc) (λb o _ _ hc e n=>u.any e n hc) (λb o hc e n=>u.free b o e n hc) (λb o hc e=>u.there b o e hc) u.tups u.frzs u.tbls (λm' hm=>by
  obtain⟨o',es',ep',ho',r'⟩:=hm;rw [ho]at ho';cases ho'
  exact⟨_,es',ep',hL,r'⟩) hok hg
theorem aK.turned{it:Addr}(I:aK X pins Z H s)(k:∀b o,b≠it->s.heap.get? b=some o->h'.get? b=some o)(hn:H it=none)(hL:it≠X.env.locals)
  (h1:it∈X.ex\/X.Zh.heap.objs.size<=it) (h2:∀x c,X.env.cells.lookup x=some c->c≠it) (h3:∀p∈X.pn++pins,p.1≠it):aK X pins Z H { s with heap:=h',toks:=t' }:=by
 have nit:∀b u,H b=some u->b≠it:=λb u e z=>by rw [z,hn]at e;cases e
 refine I.step (g':=s.gens) (d':=s.drawn) (ch:=[it]) (λb hb=>?_) (λb o _ _ hc e _=>k b o (λz=>hc (by simp [z])) e) (λb o _ _ hc e _=>⟨o.slots,k b o (λz=>hc (by simp [z])) e⟩) (λ_ _ _ _ n=>n)
  (λb o hc e=>⟨o,k b o (λz=>hc (by simp [z])) e⟩) (λ_ _ e=>e) (λ_ _ _ e=>e) (λb ps e=>⟨#[],by rw [e];simp⟩) (λm hm=>?_) (λb u e=>?_) I.bare
 ·have e:b=it:=by simpa using hb
  subst e;exact⟨h1,hL,h2,h3⟩
 ·obtain⟨o,es,ep,ho,r⟩:=hm
  exact⟨o,es,ep,k _ o (Ne.symm hL) ho,r⟩
 ·refine(I.hok b u e).stay (λc v hc q=>k c v ?_ q) (λ_ q=>q) λ_ _ q=>q
  rcases hc with z | z
  ·rw [z];exact nit b u e
  ·exact nit c _ z
theorem aK.tok(I:aK X pins Z H s)(t:Nat):aK X pins Z H { s with toks:=t }:=I.un (h':=s.heap) (t':=t) Un.refl I.hok
theorem aK.kept(I:aK X pins Z H s)(k:∀b u,s.heap.get? b=some u->h'.get? b=some u):aK X pins Z H { s with heap:=h',toks:=t' }:=I.un (Un.kept k) (I.hok.kept k)
theorem aK.laid(I:aK X pins Z H s)(k:∀b u,s.heap.get? b=some u->h'.get? b=some u)(hp:s.heap.objs.size<=a)(new:dk X.prog X.w (upd H a o) h' a o):
  aK X pins Z (upd H a o) { s with heap:=h',toks:=t' }:=I.un (Un.laid k hp (I.hok.fresh hp)) (I.hok.laid k hp new)
theorem aK.write{x e:Addr}(I:aK X pins Z H s)(mu:GG (H x))(he:e=x\/H e=some (.own x))(k:∀b u,b≠e->s.heap.get? b=some u->h'.get? b=some u)(heo:∃u,h'.get? e=some u)
  (new:dk X.prog X.w (upd H x o) h' x o):aK X pins Z (upd H x o) { s with heap:=h',toks:=t' }:=I.un (Un.write mu he k heo) (I.hok.write mu he k heo new)
theorem aK.pins_of{pins':List (Addr×Obj)}(I:aK X pins Z H s)(h:∀p∈pins',s.heap.get? p.1=some p.2/\H p.1=none/\p.1≠X.env.locals/\p.1∉X.fs/\∀v,p.2.data≠.cell v):aK X pins' Z H s:=
 ⟨I.ok,I.os,I.bare,I.base,I.loc,I.cell,I.free,I.freeC,λp hp=>(ad2.mp hp).elim (λz=>I.pin p (aj7 _ z)) (h p),I.hok,I.len⟩
theorem uu{N:List Str}(hN:N.Nodup)(a:N[i]?=some x)(b:N[j]?=some x):i=j:=by
 obtain⟨h1,e1⟩:=aa3.mp a;obtain⟨h2,e2⟩:=aa3.mp b;exact(List.getElem_inj hN).mp (e1.trans e2.symm)
theorem rF{Q:Unit->Shared->Prop}(I:aK X pins Z H s)(hN:X.N.Nodup)(hi:X.N[i]?=some x)(hx:Fu X.env.scope x)(r:aP v u)
  (h:∀s',aK X pins (Z.set i (some v)) H s'->(∃a,Heap.SameBut a s.heap s'.heap/\(a=X.env.locals\/X.env.cells.lookup x=some a))->Q Unit.unit s') (hf:X.fn x=true\/X.env.scope.names.lookup x=some .local:=by first | exact .inl rfl | exact .inr rfl | assumption):wpAny M A (storeName X.env x u) Q E s:=by
 obtain⟨m,hn,hl⟩:=id I.loc
 have hcls:(X.env.scope.kind == .class || (X.env.scope.kind == .module && X.env.locals != X.env.globals))=false:=by rw [I.ok.kind];rfl
 have Yl:i < Z.length:=by rw [I.len];exact(aa3.mp hi).1
 have cne:=I.cne
 have tracked:∀{a:Addr} {h':Heap},(∃o,s.heap.get? a=some o/\H a=none)->Heap.SameBut a s.heap h'->j4 X.prog X.w H h':=λ{a h'} ha hs b ob e=>by
  obtain⟨_,_,hfree⟩:=ha;refine(I.hok b ob e).stay (λc w' hc q=>(hs.2 c ?_).trans q) (λ_ q=>q) λ_ _ q=>q;rintro rfl;rcases hc with rfl | hc
  ·rw [hfree]at e;cases e
  ·rw [hfree]at hc;cases hc
 rcases hx with hk | hk
 ·refine wpAny_storeName_local hk hn (λh' hn' hs=>?_) hcls
  obtain⟨oL,_,_,hoL,_⟩:=id hn;refine h _ ⟨I.ok,I.os,I.bare,⟨λb o e n hb hx=>?_,λb o e n hb hx=>?_,I.base.free,λb o e hx=>?_,I.base.tups,I.base.frzs,I.base.tbls⟩,⟨_,hn',λj y v' e1 e2 e3=>?_⟩,λy c e=>?_,I.free,I.freeC,λp hp=>?_,tracked ⟨oL,hoL,I.free⟩ hs,by simpa using I.len⟩ ⟨_,hs,.inl rfl⟩
  ·exact(hs.2 b (ac0 (ab6 (aa9 e) I.ok.above))).trans (I.base.keep b o e n hb hx)
  ·obtain⟨sl,e1⟩:=I.base.slot b o e n hb hx
   exact⟨sl,(hs.2 b (ac0 (ab6 (aa9 e) I.ok.above))).trans e1⟩
  ·obtain⟨o',e1⟩:=I.base.there b o e hx
   exact⟨o',(hs.2 b (ac0 (ab6 (aa9 e) I.ok.above))).trans e1⟩
  ·by_cases hj:j=i
   ·subst hj
    rw [hi]at e1;cases e1;rw [List.getElem?_set_self Yl]at e2;cases e2;exact⟨u,r,.inl ⟨hk,by simp⟩⟩
   ·rw [List.getElem?_set_ne (Ne.symm hj)]at e2
    obtain⟨u',r',q⟩:=hl j y v' e1 e2 e3;refine⟨u',r',?_⟩;rcases q with⟨k,e⟩ | ⟨k,c,e,z⟩
    ·refine .inl ⟨k,?_⟩
     have:y≠x:=λe=>hj (uu hN e1 (e▸hi))
     simp [this,e]
    ·exact .inr ⟨k,c,e,z.sameBut hs (cne y c e)⟩
  ·obtain⟨w',z⟩:=I.cell y c e
   exact⟨w',z.sameBut hs (cne y c e)⟩
  ·obtain⟨e,n,ne,nf,d⟩:=I.pin p hp
   exact⟨(hs.2 p.1 ne).trans e,n,ne,nf,d⟩
 ·have hfn:X.fn x=true:=by
   rcases hf with z | z
   ·exact z
   ·rw [z]at hk;cases hk
  obtain⟨c,hc⟩:=I.ok.has x (.inl hk);obtain⟨w',z⟩:=I.cell x c hc;refine wpAny_storeName_cell I.ok.kind hk hc z (λh' hc' hs=>?_);obtain⟨oc,hoc,hocd⟩:=id z;refine h { s with heap:=h' } ⟨I.ok,I.os,I.bare,⟨λb o e n hb hx=>?_,λb o e n hb hx=>?_,I.base.free,λb o e hx=>?_,I.base.tups,I.base.frzs,I.base.tbls⟩,⟨m,hn.sameBut hs (Ne.symm (cne x c hc)),λj y v' e1 e2 e3=>?_⟩,λy c' e=>?_,I.free,I.freeC,λp hp=>?_,tracked ⟨oc,hoc,I.freeC x c hc⟩ hs,by simpa using I.len⟩ ⟨c,hs,.inr hc⟩
  ·exact(hs.2 b (ac0 (ab6 (aa9 e) (I.ok.cab x c hfn hc)))).trans (I.base.keep b o e n hb hx)
  ·obtain⟨sl,e1⟩:=I.base.slot b o e n hb hx
   exact⟨sl,(hs.2 b (ac0 (ab6 (aa9 e) (I.ok.cab x c hfn hc)))).trans e1⟩
  ·obtain⟨o',e1⟩:=I.base.there b o e hx
   exact⟨o',(hs.2 b (ac0 (ab6 (aa9 e) (I.ok.cab x c hfn hc)))).trans e1⟩
  ·by_cases hj:j=i
   ·subst hj
    rw [hi]at e1;cases e1;rw [List.getElem?_set_self Yl]at e2;cases e2;exact⟨u,r,.inr ⟨.inl hk,c,hc,hc'⟩⟩
   ·rw [List.getElem?_set_ne (Ne.symm hj)]at e2
    obtain⟨u',r',q⟩:=hl j y v' e1 e2 e3;refine⟨u',r',?_⟩;rcases q with q | ⟨k,c',e,z'⟩
    ·exact .inl q
    ·refine .inr ⟨k,c',e,z'.sameBut hs ?_⟩
     rintro rfl;exact hj (uu hN e1 (I.ok.inj _ _ _ e hc▸hi))
  ·by_cases hcc:c'=c
   ·subst hcc;exact⟨_,hc'⟩
   ·obtain⟨w2,z2⟩:=I.cell y c' e
    exact⟨w2,z2.sameBut hs hcc⟩
  ·obtain⟨e,n,ne,nf,d⟩:=I.pin p hp
   refine⟨(hs.2 p.1 ?_).trans e,n,ne,nf,d⟩;intro q;rw [q,hoc]at e;have q':oc=p.2:=Option.some.inj e;exact d w' (by rw [<-q'];exact hocd)
theorem pz{Q:Unit->Shared->Prop}(I:aK X pins Z H s)(hN:X.N.Nodup)(hi:X.N[i]?=some x)(hx:Fu X.env.scope x)(r:aP v u)
  (h:∀s',aK X pins (Z.set i (some v)) H s'->Q Unit.unit s') (hf:X.fn x=true\/X.env.scope.names.lookup x=some .local:=by first | exact .inl rfl | exact .inr rfl | assumption):wpAny M A (storeName X.env x u) Q E s:=
 rF I hN hi hx r (λs' I' _=>h s' I') hf
theorem aK.call'(I:aK X pins Z H s)(ho:s'.os=s.os)(u:Un (vd X.stack) ch H H' s.heap s'.heap)(hok:j4 X.prog X.w H' s'.heap)(hg:AllBare s'.gens)
  (hch:∀b∈ch,(b∈X.ex\/X.Zh.heap.objs.size<=b)/\b≠X.env.locals/\(∀x c,X.env.cells.lookup x=some c->c≠b)/\∀p∈X.pn++pins,p.1≠b):aK X pins Z H' s':=by
 obtain⟨h',g',d',t',o'⟩:=s';have e:o'=s.os:=ho;subst e;exact I.call (g':=g') (t':=t') (d':=d') u hok hg hch
end
abbrev XK:=Value->Option Addr->Hp->Prop
abbrev St:=List (Option V)
variable {Z:St}
abbrev VK:=V->Hp->Prop
abbrev TE:=St->Hp->VK->Prop
variable {ta tb te:TE}
abbrev TT:=St->Hp->(Bool->Hp->Prop)->Prop
abbrev TA:=St->Hp->(List V->Hp->Prop)->Prop
variable {t:TA}
structure iS where
 nx:St->Hp->Prop
 rt:VK
 bk:St->Hp->Prop:=λ_ _=>False
 ct:St->Hp->Prop:=λ_ _=>False
variable {D:iS}
abbrev TS:=iS->St->Hp->Prop
def EP(X:Cx)(pins:List (Addr×Obj))(Z:St)(Q:VK)(u:Value)(s':Shared):Prop:=∃v H',aK X pins Z H' s'/\aP v u/\Q v H'
def TP(X:Cx)(pins:List (Addr×Obj))(Z:St)(Q:Bool->Hp->Prop)(b:Bool)(s':Shared):Prop:=∃H',aK X pins Z H' s'/\Q b H'
def AP(X:Cx)(pins:List (Addr×Obj))(Z:St)(Q:List V->Hp->Prop)(us:List Value)(s':Shared):Prop:=∃vs H',aK X pins Z H' s'/\aU vs us/\Q vs H'
def SP(X:Cx)(pins:List (Addr×Obj))(D:iS)(f:Flow)(s':Shared):Prop:=
 match f with
 | .next=>∃Zc H',aK X pins Zc H' s'/\D.nx Zc H'
 | .brk=>∃Zc H',aK X pins Zc H' s'/\D.bk Zc H'
 | .cont=>∃Zc H',aK X pins Zc H' s'/\D.ct Zc H'
 | .ret u=>∃v Zc H',aK X pins Zc H' s'/\aP v u/\D.rt v H'
def PE(X:Cx)(e:Expr)(t:TE):Prop:=
 ∀(pins:List (Addr×Obj)) (s:Shared) (Z:St) (H:Hp) (Q:VK),aK X pins Z H s->t Z H Q->wpAny (model X.prog X.w) X.A (eval e X.env) (EP X pins Z Q) X.xe s
def PT(X:Cx)(e:Expr)(t:TT):Prop:=
 ∀(pins:List (Addr×Obj)) (s:Shared) (Z:St) (H:Hp) (Q:Bool->Hp->Prop),aK X pins Z H s->t Z H Q->wpAny (model X.prog X.w) X.A (isTrue e X.env (eval e X.env)) (TP X pins Z Q) X.xe s
def PW(X:Cx)(e:Expr)(t:TT):Prop:=
 ∀(whole:Sem Value) (pins:List (Addr×Obj)) (s:Shared) (Z:St) (H:Hp) (Q:Bool->Hp->Prop),aK X pins Z H s->t Z H Q->wpAny (model X.prog X.w) X.A (isTrue e X.env whole) (TP X pins Z Q) X.xe s
theorem PW.pt{t:TT}(h:PW X e t):PT X e t:=h _
def PA(X:Cx)(es:List Expr)(t:TA):Prop:=
 ∀(pos:Pos) (pins:List (Addr×Obj)) (s:Shared) (Z:St) (H:Hp) (Q:List V->Hp->Prop),aK X pins Z H s->t Z H Q->wpAny (model X.prog X.w) X.A (spliced (backTo pos (starEach es X.env))) (AP X pins Z Q) X.xe s
def PS(X:Cx)(st:Stmt)(t:TS):Prop:=
 ∀(pins:List (Addr×Obj)) (s:Shared) (Z:St) (H:Hp) (D:iS),aK X pins Z H s->t D Z H->wpAny (model X.prog X.w) X.A (exec st X.env) (SP X pins D) X.xe s
def w8(X:Cx)(st:List Stmt)(t:TS):Prop:=
 ∀(pins:List (Addr×Obj)) (s:Shared) (Z:St) (H:Hp) (D:iS),aK X pins Z H s->t D Z H->wpAny (model X.prog X.w) X.A (execs st X.env) (SP X pins D) X.xe s
theorem cH{α:Type}{t:Sem α}{Q Q':α->Shared->Prop}(h:wpAny M A t Q E s)(hQ:∀a s,Q a s->Q' a s):wpAny M A t Q' E s:=ag0 h hQ λ_ _ x=>x
section
theorem bin{a b:Expr}(ha:PE X a ta)(hb:PE X b tb)(I:aK X pins Z H s)(h:ta Z H λx H1=>tb Z H1 λy H2=>R x y H2)
  {α:Type} {Q:α->Shared->Prop} {f:Value->Value->Sem α}
  (hf:∀v u s2 x y H2,aK X pins Z H2 s2->aP x v->aP y u->R x y H2->wpAny (model X.prog X.w) X.A (f v u) Q X.xe s2) :
  wpAny (model X.prog X.w) X.A (eval a X.env) (λv Zf=>wpAny (model X.prog X.w) X.A (eval b X.env) (λu Zw=>wpAny (model X.prog X.w) X.A (f v u) Q X.xe Zw) X.xe Zf) X.xe s:=by
 refine cH (ha pins s Z H _ I h) λv s1 zq0=>?_;obtain⟨x,H1,I1,r1,q1⟩:=zq0;refine cH (hb pins s1 Z H1 _ I1 q1) λu s2 zq0=>?_;obtain⟨y,H2,I2,r2,q2⟩:=zq0;exact hf v u s2 x y H2 I2 r1 r2 q2
def Fn(i:Nat):TE:=λZ H Q=>∃v,Z[i]?=some (some v)/\Q v H
def tC(v:V):TE:=λ_ H Q=>Q v H
theorem ES(hN:X.N[i]?=some x)(hv:GH X.env.scope x)(hd:(x == ("__debug__":Str))=false:=by decide)(hcd:(x == ("__classdict__":Str))=false:=by decide):PE X (.Name x pos) (Fn i):=by
 rintro pins s Z H Q I ⟨v,e,h⟩;obtain⟨m,hn,hl⟩:=I.loc;obtain⟨u,r,l⟩:=hl i x v hN e hv;have fin:EP X pins Z Q u s:=⟨v,H,I,r,h⟩;rcases l with⟨hk,hm⟩ | ⟨hk,c,hc,hcell⟩
 ·exact wpAny_Name (wpAny_loadName_local I.ok.kind hk hn hm fin) hd
 ·rcases hk with hk | hk
  ·exact wpAny_Name (wpAny_loadName_cell I.ok.kind hk hc hcell fin) hd
  ·exact wpAny_Name (wpAny_loadName_free I.ok.kind hk hc hcell fin hcd) hd
theorem ah{i j pos}:PE X (.Constant (.int i) j pos) (tC (.int i)):=λ_ _ _ H _ I h=>wpAny_Constant_int ⟨.int i,H,I.tok _,⟨_,rfl⟩,h⟩
theorem iK{b j pos}:PE X (.Constant (.bool b) j pos) (tC (.bl b)):=λ_ _ _ H _ I h=>Constant_bool ⟨.bl b,H,I,rfl,h⟩
theorem aH{j pos}:PE X (.Constant .none j pos) (tC .non):=λ_ _ _ H _ I h=>Constant_none ⟨.non,H,I,rfl,h⟩
theorem bO{x j pos}:PE X (.Constant (.str x) j pos) (tC (.str x)):=λ_ _ _ H _ I h=>Calls.Constant_str ⟨.str x,H,I.tok _,⟨_,rfl⟩,h⟩
def Gl(X:Cx)(x:Str):Prop:=X.env.kindOf x=some .globalImplicit
theorem nj(I:aK X pins Z H s)(hg:Gl X x)(hm:X.mg x=some u)(h:Q u s)
  (hd:(x == ("__debug__":Str))=false:=by decide):wpAny (model X.prog X.w) X.A (eval (.Name x pos) X.env) Q E s:=
 Calls.Name_function_global I.ok.kind hg (Calls.loadGlobal_global (by rw [I.ok.glob];exact I.mod.glob.keeps I.bk) hm h) hd
theorem dz(I:aK X pins Z H s)(hg:Gl X x)(hm:X.mg x=none)(hv:bootBuiltins x=some u)(h:Q u s)
  (hn:x≠"__name__":=by decide) (hd:(x == ("__debug__":Str))=false:=by decide):wpAny (model X.prog X.w) X.A (eval (.Name x pos) X.env) Q E s:=by
 obtain⟨mb,h1,h2⟩:=I.mod.blt;exact Calls.Name_function_global I.ok.kind hg (Calls.loadGlobal_builtin (by rw [I.ok.glob];exact I.mod.glob.keeps I.bk) hm (by rw [I.ok.blt];exact h1.keeps I.bk) ((h2 x hn).trans hv) h) hd
theorem C4(hg:Gl X x)(hm:X.mg x=some u)(r:aP v u)(hd:(x == ("__debug__":Str))=false:=by decide):PE X (.Name x pos) (tC v):=
 λ_ _ _ H _ I h=>nj I hg hm ⟨v,H,I,r,h⟩ hd
theorem nu(hg:Gl X x)(hm:X.mg x=none)(hv:bootBuiltins x=some u)(r:aP v u)(hn:x≠"__name__":=by decide)(hd:(x == ("__debug__":Str))=false:=by decide):PE X (.Name x pos) (tC v):=
 λ_ _ _ H _ I h=>dz I hg hm hv ⟨v,H,I,r,h⟩ hn hd
variable {a b:Expr}
variable {tA tB':TT} {rest:List Expr}
def Fd(t u:TT):TT:=λZ H Q=>t Z H λc H1=>if c=true then u Z H1 Q else Q false H1
def Hi(t u:TT):TT:=λZ H Q=>t Z H λc H1=>if c=true then Q true H1 else u Z H1 Q
def Fh(t:TT):TT:=λZ H Q=>t Z H λc H1=>Q (!c) H1
theorem gn(ha:PT X a tA):PW X (.BoolOp .And [a] pos) tA:=by
 intro wh pins s Z H Q I h;refine isTrue_and (cH (ha pins s Z H Q I h) λc s1 e=>?_)
 cases c with
 | true=>exact isTrue_and_nil e
 | false=>exact e
theorem cv(ha:PT X a tA):PW X (.BoolOp .Or [a] pos) tA:=by
 intro wh pins s Z H Q I h;refine isTrue_or (cH (ha pins s Z H Q I h) λc s1 e=>?_)
 cases c with
 | false=>exact isTrue_or_nil e
 | true=>exact e
theorem ic(ha:PT X a tA)(hb:PW X (.BoolOp .And (b::rest) pos) tB'):PW X (.BoolOp .And (a::b::rest) pos) (Fd tA tB'):=by
 intro wh pins s Z H Q I h;refine isTrue_and (cH (ha pins s Z H _ I h) λc s1 zq0=>?_);obtain⟨H1,I1,q1⟩:=zq0
 cases c with
 | true=>exact hb wh pins s1 Z H1 Q I1 q1
 | false=>exact⟨H1,I1,q1⟩
theorem cA(ha:PT X a tA)(hb:PW X (.BoolOp .Or (b::rest) pos) tB'):PW X (.BoolOp .Or (a::b::rest) pos) (Hi tA tB'):=by
 intro wh pins s Z H Q I h;refine isTrue_or (cH (ha pins s Z H _ I h) λc s1 zq0=>?_);obtain⟨H1,I1,q1⟩:=zq0
 cases c with
 | true=>exact⟨H1,I1,q1⟩
 | false=>exact hb wh pins s1 Z H1 Q I1 q1
theorem bX(ha:PT X a tA):PT X (.UnaryOp .Not a pos) (Fh tA):=by
 intro pins s Z H Q I h;exact isTrue_not (ha pins s Z H (λc H1=>Q (!c) H1) I h)
def u7(ta tb:TE):TE:=λZ H Q=>ta Z H λx H1=>∃c,x=.bl c/\if c=true then tb Z H1 Q else Q (.bl false) H1
def BD(ta tb:TE):TE:=λZ H Q=>ta Z H λx H1=>∃c,x=.bl c/\if c=true then Q (.bl true) H1 else tb Z H1 Q
def vb(ta:TE):TE:=λZ H Q=>ta Z H λx H1=>∃c,x=.bl c/\Q (.bl (!c)) H1
theorem vV{op}{t:TE}(h:PE X a t):PE X (.BoolOp op [a] pos) t:=λpins s Z H Q I hw=>BoolOp_one (h pins s Z H Q I hw)
theorem AO(ha:PE X a ta)(hb:PE X (.BoolOp .And (b::rest) pos) tb):PE X (.BoolOp .And (a::b::rest) pos) (u7 ta tb):=by
 intro pins s Z H Q I h;refine BoolOp_and (cH (ha pins s Z H _ I h) λv s1 zq0=>?_);obtain⟨x,H1,I1,r1,c,rfl,q1⟩:=zq0;cases r1;refine ae4 ?_
 cases c with
 | true=>exact hb pins s1 Z H1 Q I1 q1
 | false=>exact⟨.bl false,H1,I1,rfl,q1⟩
theorem DX(ha:PE X a ta)(hb:PE X (.BoolOp .Or (b::rest) pos) tb):PE X (.BoolOp .Or (a::b::rest) pos) (BD ta tb):=by
 intro pins s Z H Q I h;refine BoolOp_or (cH (ha pins s Z H _ I h) λv s1 zq0=>?_);obtain⟨x,H1,I1,r1,c,rfl,q1⟩:=zq0;cases r1;refine ae4 ?_
 cases c with
 | false=>exact hb pins s1 Z H1 Q I1 q1
 | true=>exact⟨.bl true,H1,I1,rfl,q1⟩
theorem ER(ha:PE X a ta):PE X (.UnaryOp .Not a pos) (vb ta):=by
 intro pins s Z H Q I h;refine UnaryOp_ (cH (ha pins s Z H _ I h) λv s1 zq0=>?_);obtain⟨x,H1,I1,r1,c,rfl,q1⟩:=zq0;cases r1;exact not_of (ae4 ⟨.bl (!c),H1,I1,rfl,q1⟩)
def Hh(t:TT)(ta tb:TE):TE:=λZ H Q=>t Z H λc H1=>if c=true then ta Z H1 Q else tb Z H1 Q
theorem cE(hc:PT X c tA)(ha:PE X a ta)(hb:PE X b tb):PE X (.IfExp c a b pos) (Hh tA ta tb):=by
 intro pins s Z H Q I h;refine wpAny_IfExp (cH (hc pins s Z H _ I h) λd s1 zq0=>?_);obtain⟨H1,I1,q1⟩:=zq0
 cases d with
 | true=>exact ha pins s1 Z H1 Q I1 q1
 | false=>exact hb pins s1 Z H1 Q I1 q1
end
def aF(K:Frag)(H:Hp)(a:Addr)(xs:List V):Prop:=
 Rd H a (.lst xs)\/
  ∃(o:Obj) (its:Array Value) (n:Nat),K.lookup a=some o/\o.cls=.type "list"/\o.dict=none/\o.data=.seq its n/\its.size<=sizeLine/\aU xs its.toList
def cT(K:Frag)(H:Hp)(a:Addr)(xs:List V):Prop:=
 Rd H a (.tup xs)\/
  ∃(o:Obj) (its:Array Value) (n:Nat),K.lookup a=some o/\o.cls=.type "tuple"/\o.data=.seq its n/\its.size<=sizeLine/\aU xs its.toList
def G6:Value->Option V
 | .none=>some .non
 | .bool b=>some (.bl b)
 | .int i _=>some (.int i)
 | .str x _=>some (.str x)
 | .bytes b _=>some (.byt b)
 | .float b _=>some (.flt b)
 | .ref a=>some (.ref a)
 | .type n=>some (.ty n)
 | _=>none
theorem aP.abs{x:V}(r:aP x u):G6 u=some x:=by
 cases x with
 | non=>cases r;rfl
 | bl _=>cases r;rfl
 | int _=>obtain⟨t,rfl⟩:=r;rfl
 | str _=>obtain⟨t,rfl⟩:=r;rfl
 | byt _=>obtain⟨t,rfl⟩:=r;rfl
 | flt _=>obtain⟨t,rfl⟩:=r;rfl
 | ref _=>cases r;rfl
 | ty _=>cases r;rfl
theorem aP.inj{x:V}(r:aP x u)(q:aP y u):x=y:=Option.some.inj (r.abs.symm.trans q.abs)
theorem aU.inj:∀{xs ys:List V} {us:List Value},aU xs us->aU ys us->xs=ys
 | _,_,_,.nil,.nil=>rfl
 | _,_,_,.cons r t,.cons r' t'=>by rw [r.inj r',aU.inj t t']
section
variable {ys:List V}
theorem aF.of(h:H a=some (.lst xs)):aF K H a xs:=.inl (.inl h)
theorem cT.of(h:H a=some (.tup xs)):cT K H a xs:=.inl (.inl h)
theorem aK.list(I:aK X pins Z H s)(h:aF X.K H a xs):∃its:List Value,aU xs its/\PlainL s.heap a its.toArray/\xs.length<=sizeLine:=by
 rcases h with h | ⟨o,its,n,hk,hc,hd,hs,hz,r⟩
 ·obtain⟨z,its,n,r,e⟩:=h.ok I.hok
  exact⟨its,r,⟨_,n,e,rfl,rfl,rfl⟩,z⟩
 ·refine⟨its.toList,r,⟨o,n,I.kIn a o hk,hc,hd,by simpa using hs⟩,?_⟩
  have e:=r.length;simp only [ah3]at e;omega
theorem aK.tuple(I:aK X pins Z H s)(h:cT X.K H a xs):∃its:List Value,aU xs its/\IsTup s.heap a its.toArray/\xs.length<=sizeLine:=by
 rcases h with h | ⟨o,its,n,hk,hc,hs,hz,r⟩
 ·obtain⟨z,its,r,p⟩:=h.ok I.hok
  exact⟨its,r,p,z⟩
 ·refine⟨its.toList,r,⟨o,I.kIn a o hk,hc,n,by simpa using hs⟩,?_⟩
  have e:=r.length;simp only [ah3]at e;omega
theorem aK.list_inj(I:aK X pins Z H s)(h:aF X.K H a xs)(h':aF X.K H a ys):xs=ys:=by
 obtain⟨its,r,⟨o,n,e,_,_,d⟩,_⟩:=I.list h;obtain⟨its',r',⟨o',n',e',_,_,d'⟩,_⟩:=I.list h';rw [e]at e';cases e';rw [d]at d'
 injection d' with d1 _
 have:its=its':=by simpa using congrArg Array.toList d1
 subst this;exact r.inj r'
theorem aK.tuple_inj(I:aK X pins Z H s)(h:cT X.K H a xs)(h':cT X.K H a ys):xs=ys:=by
 obtain⟨its,r,⟨o,e,_,n,d⟩,_⟩:=I.tuple h;obtain⟨its',r',⟨o',e',_,n',d'⟩,_⟩:=I.tuple h';rw [e]at e';cases e';rw [d]at d'
 injection d' with d1 _
 have:its=its':=by simpa using congrArg Array.toList d1
 subst this;exact r.inj r'
end
abbrev Cx.wish(X:Cx)(E:Value->Shared->Prop):Cx:={ X with xe:=E }
abbrev Cx.nox(X:Cx):Cx:=X.wish λ_ _=>False
theorem Cx.Ok.wish(ok:X.Ok)(E:Value->Shared->Prop):(X.wish E).Ok:=
 ⟨ok.mod,ok.kind,ok.glob,ok.blt,ok.above,ok.inj,ok.has,ok.cab,ok.hd,ok.frames,ok.stk,ok.exf,ok.bs,ok.bsz,ok.noex,ok.exfs,ok.funs,ok.frf⟩
theorem Cx.Ok.unwish(ok:(X.wish E).Ok):X.Ok:=
 ⟨ok.mod,ok.kind,ok.glob,ok.blt,ok.above,ok.inj,ok.has,ok.cab,ok.hd,ok.frames,ok.stk,ok.exf,ok.bs,ok.bsz,ok.noex,ok.exfs,ok.funs,ok.frf⟩
theorem aK.wish(I:aK X pins Z H s)(E:Value->Shared->Prop):aK (X.wish E) pins Z H s:=⟨I.ok.wish E,I.os,I.bare,I.base,I.loc,I.cell,I.free,I.freeC,I.pin,I.hok,I.len⟩
theorem aK.unwish(I:aK (X.wish E) pins Z H s):aK X pins Z H s:=⟨I.ok.unwish,I.os,I.bare,I.base,I.loc,I.cell,I.free,I.freeC,I.pin,I.hok,I.len⟩
theorem SP.unwish{f:Flow}(h:SP (X.wish E) pins D f s'):SP X pins D f s':=by
 cases f with
 | next=>obtain⟨Zc,H',I,q⟩:=h;exact⟨Zc,H',I.unwish,q⟩
 | brk=>obtain⟨Zc,H',I,q⟩:=h;exact⟨Zc,H',I.unwish,q⟩
 | cont=>obtain⟨Zc,H',I,q⟩:=h;exact⟨Zc,H',I.unwish,q⟩
 | ret u=>obtain⟨v,Zc,H',I,r,q⟩:=h;exact⟨v,Zc,H',I.unwish,r,q⟩
theorem w8.nox{st:List Stmt}{t:TS}(h:w8 X.nox st t):w8 X st t:=λpins s Z H D I hw=>
 ag0 (h pins s Z H D (I.wish _) hw) (λ_ _ q=>q.unwish) λ_ _ z=>False.elim z
section
variable {st:Stmt} {rest:List Stmt} {t u:TS}
def xP:TS:=λD Z H=>D.nx Z H
def jq(t u:TS):TS:=λD Z H=>t { D with nx:=u D } Z H
theorem aB:w8 X [] xP:=λ_ _ Z H _ I h=>am9 ⟨Z,H,I,h⟩
theorem af(h1:PS X st t)(h2:w8 X rest u):w8 X (st::rest) (jq t u):=by
 intro pins s Z H D I h;refine wpAny_execs_cons (cH (h1 pins s Z H { D with nx:=u D } I h) λf s1 q=>?_)
 cases f with
 | next=>
  obtain⟨Zc,H',I',q⟩:=q;exact h2 pins s1 Zc H' D I' q
 | ret v=>exact q
 | brk=>exact q
 | cont=>exact q
theorem ai(h1:PS X st t):w8 X [st] t:=by
 intro pins s Z H D I h;refine wpAny_execs_cons (cH (h1 pins s Z H D I h) λf s1 q=>?_)
 cases f with
 | next=>exact am9 q
 | ret v=>exact q
 | brk=>exact q
 | cont=>exact q
def Bx:TS:=λD Z H=>D.ct Z H
theorem mE:PS X (.Continue pos) Bx:=λ_ _ Z H _ I h=>wpAny_Continue ⟨Z,H,I,h⟩
theorem aK.quiet(I:aK X pins Z H s):interactive X.env=false:=by simp [interactive,I.ok.kind]
def By(te:TE):TS:=λD Z H=>te Z H λ_ H1=>D.nx Z H1
theorem bq(he:PE X e te)(hs:swapsWith e none pos.line X.env=pure false:=by rfl):PS X (.Expr e pos) (By te):=by
 intro pins s Z H D I h;exact wpAny_Expr_any (cH (he pins s Z H _ I h) λv s1 ⟨x,H1,I1,r1,q1⟩=>⟨Z,H1,I1,q1⟩) I.quiet hs
def Fm(te:TE):TS:=λD Z H=>te Z H D.rt
theorem av(he:PE X e te):PS X (.Return (some e) pos) (Fm te):=by
 intro pins s Z H D I h;exact wpAny_Return_some (cH (he pins s Z H _ I h) λv s1 ⟨x,H1,I1,r1,q1⟩=>⟨x,Z,H1,I1,r1,q1⟩)
def D9:TS:=λD _ H=>D.rt .non H
def Bz(c:TT)(t u:TS):TS:=λD Z H=>c Z H λb H1=>if b=true then t D Z H1 else u D Z H1
theorem aS{a b:List Stmt}{tc:TT}(hc:PT X c tc)(ha:w8 X a t)(hb:w8 X b u):PS X (.If c a b pos) (Bz tc t u):=by
 intro pins s Z H D I h;refine wpAny_If (cH (hc pins s Z H _ I h) λd s1 zq0=>?_);obtain⟨H1,I1,q1⟩:=zq0
 cases d with
 | true=>exact ha pins s1 Z H1 D I1 q1
 | false=>exact hb pins s1 Z H1 D I1 q1
def Fg:TS:=λ_ _ _=>False
theorem kH:PS X st Fg:=λ_ _ _ _ _ _ h=>h.elim
end
abbrev TG:=V->St->Hp->(St->Hp->Prop)->Prop
variable {g:TG}
abbrev BX:=List V->St->Hp->(St->Hp->Prop)->Prop
def PG(X:Cx)(target:Expr)(t:TG):Prop:=
 ∀(pins:List (Addr×Obj)) (s:Shared) (Z:St) (H:Hp) (v:V) (u:Value) (Q:St->Hp->Prop),aK X pins Z H s->aP v u->t v Z H Q->
  wpAny (model X.prog X.w) X.A (assign target X.env u) (λ_ s'=>∃Zc H',aK X pins Zc H' s'/\Q Zc H') X.xe s
def FF(X:Cx)(ts:List Expr)(t:BX):Prop:=
 ∀(pins:List (Addr×Obj)) (s:Shared) (Z:St) (H:Hp) (vs:List V) (us:List Value) (Q:St->Hp->Prop),aK X pins Z H s->aU vs us->t vs Z H Q->
  wpAny (model X.prog X.w) X.A (assignInOrder ((assignEach ts X.env).map (·.2)) us) (λ_ s'=>∃Zc H',aK X pins Zc H' s'/\Q Zc H') X.xe s
abbrev BY:=V->V->V->Hp->(Hp->Prop)->Prop
def Ee(X:Cx)(t:BY):Prop:=
 ∀(pins:List (Addr×Obj)) (s:Shared) (Z:St) (H:Hp) (o i v:V) (ov iv u:Value) (Q:Hp->Prop),aK X pins Z H s->aP o ov->aP i iv->aP v u->t o i v H Q->
  wpAny (model X.prog X.w) X.A (setItem ov iv u) (λ_ s'=>∃H',aK X pins Z H' s'/\Q H') X.xe s
abbrev Fw:=V->V->Hp->VK->Prop
def PIp(X:Cx)(op:Operator)(t:Fw):Prop:=
 ∀(pins:List (Addr×Obj)) (s:Shared) (Z:St) (H:Hp) (x y:V) (v u:Value) (Q:VK),aK X pins Z H s->aP x v->aP y u->t x y H Q->
  wpAny (model X.prog X.w) X.A (inplaceOp op v u) (EP X pins Z Q) X.xe s
def iI(i:Nat):TG:=λv Z H Q=>Q (Z.set i (some v)) H
theorem bN(hN:X.N.Nodup)(hi:X.N[i]?=some x)(hx:Fu X.env.scope x)(hf:X.fn x=true\/X.env.scope.names.lookup x=some .local:=by first | exact .inl rfl | exact .inr rfl | assumption):PG X (.Name x pos) (iI i):=by
 intro pins s Z H v u Q I r h;exact wpAny_assign_Name (pz I hN hi hx r (λs' I'=>⟨_,H,I',h⟩) hf)
def FQ:BX:=λvs Z H Q=>vs=[]/\Q Z H
def DH(t:TG)(u:BX):BX:=λvs Z H Q=>∃v r,vs=v::r/\t v Z H λZc H'=>u r Zc H' Q
theorem cS:FF X [] FQ:=by
 rintro pins s Z H vs us Q I r ⟨e,h⟩;subst e;cases r;exact assignInOrder_nil ⟨Z,H,I,h⟩
theorem aO{t:TG}{u:BX}(h1:PG X e t)(h2:FF X es u)
  (hs:(assignEach (e::es) X.env).map (·.2)=assign e X.env::(assignEach es X.env).map (·.2):=by rfl):FF X (e::es) (DH t u):=by
 rintro pins s Z H vs us Q I r ⟨v,vr,e1,h⟩;subst e1
 cases r with
 | cons r rr=>
  rw [hs];refine assignInOrder_cons (cH (h1 pins s Z H _ _ _ I r h) λ_ s1 zq0=>?_);obtain⟨Z3,H1,I1,q1⟩:=zq0;exact h2 pins s1 Z3 H1 _ _ Q I1 rr q1
def El(K:Frag)(n:Nat)(t:BX):TG:=λv Z H Q=>∃a xs,v=.ref a/\cT K H a xs/\xs.length=n/\t xs Z H Q
theorem ET{t:BX}(hc:X.calm=true)(h:FF X es t)
  (hn:(assignEach es X.env).length=n:=by rfl) (hst:(assignEach es X.env).findIdx? (·.1)=none:=by rfl):PG X (.Tuple es k pos) (El X.K n t):=by
 rintro pins s Z H v u Q I r ⟨a,xs,e1,hq,hl,hw⟩;subst e1;cases r;obtain⟨its,rv,ht,hz⟩:=I.tuple hq;refine assign_Tuple_tuple (I.ok.hd hc) ht (by simp [hn,<-hl,rv.length]) hst λh' hx=>?_;have I1:aK X pins Z H { s with heap:=h' }:=I.kept (t':=s.toks) λb o e=>hx b o (ac0 (aa9 e)) e;exact h pins _ Z H xs _ Q I1 (by simpa using rv) hw
def FR(to ti:TE)(t:BY):TG:=λv Z H Q=>to Z H λo H1=>ti Z H1 λi H2=>t o i v H2 λH3=>Q Z H3
theorem sP{o i:Expr}{to ti:TE}{t:BY}(ho:PE X o to)(hi:PE X i ti)(hs:Ee X t)
  (ha:∀v,assign (.Subscript o i pos) X.env v=(do
   let ov <-holding [v] (eval o X.env)
   let iv <-holding [v,ov] (eval i X.env)
   standAt pos
   holding [v,ov,iv] (setItem ov iv v)
   release [v,ov,iv] []):=by intro _;rfl):PG X (.Subscript o i pos) (FR to ti t):=by
 intro pins s Z H v u Q I r h;rw [ha];refine aa0 (ae3 (cH (ho pins s Z H _ I h) λov s1 zq0=>?_));obtain⟨x,H1,I1,r1,q1⟩:=zq0;refine aa0 (ae3 (cH (hi pins s1 Z H1 _ I1 q1) λiv s2 zq0=>?_));obtain⟨y,H2,I2,r2,q2⟩:=zq0;refine aa0 (am4 (aa0 (ae3 (cH (hs pins s2 Z H2 x y v ov iv u _ I2 r1 r2 r q2) λ_ s3 zq0=>?_))));obtain⟨H3,I3,q3⟩:=zq0;exact wpAny_release ⟨Z,H3,I3,q3⟩
def wQ(te:TE)(g:TG):TS:=λD Z H=>te Z H λx H1=>g x Z H1 D.nx
theorem gx(he:PE X e te)(hg:PG X tg g)(hs:swapsWithSole [tg] e pos.line X.env=pure false:=by rfl)(hw:swappedStores [tg] e X.env=pure none:=by rfl)
  (h1:(assignEach [tg] X.env).map (·.2)=[assign tg X.env]:=by rfl):PS X (.Assign [tg] e pos) (wQ te g):=by
 intro pins s Z H D I h;refine wpAny_Assign_stores (cH (he pins s Z H _ I h) λv s1 zq0=>?_) hs hw;obtain⟨x,H1,I1,r1,q1⟩:=zq0;rw [h1];exact cH (hg pins s1 Z H1 x v _ I1 r1 q1) λ_ s2 q=>q
theorem vY(hN:X.N.Nodup)(hi:X.N[i]?=some x)(hx:Fu X.env.scope x)(he:PE X e te)(hs:swapsWith e (some (.Name x pos')) pos.line X.env=pure false:=by rfl)(hf:X.fn x=true\/X.env.scope.names.lookup x=some .local:=by first | exact .inl rfl | exact .inr rfl | assumption):
  PS X (.Assign [.Name x pos'] e pos) (wQ te (iI i)):=by
 intro pins s Z H D I h;refine wpAny_Assign_Name (cH (he pins s Z H _ I h) λv s1 zq0=>?_) hs;obtain⟨y,H1,I1,r1,q1⟩:=zq0;exact pz I1 hN hi hx r1 (λs2 I2=>⟨_,H1,I2,q1⟩) hf
def Bt(i:Nat)(te:TE)(ti:Fw):TS:=λD Z H=>∃x,Z[i]?=some (some x)/\te Z H λy H1=>ti x y H1 λz H2=>D.nx (Z.set i (some z)) H2
theorem vX{op:Operator}{ti:Fw}(hN:X.N.Nodup)(hi:X.N[i]?=some x)(hx:Fu X.env.scope x)(he:PE X e te)(ho:PIp X op ti)(hf:X.fn x=true\/X.env.scope.names.lookup x=some .local:=by first | exact .inl rfl | exact .inr rfl | assumption):
  PS X (.AugAssign (.Name x pos') op e pos) (Bt i te ti):=by
 rintro pins s Z H D I ⟨v,e1,h⟩;obtain⟨m,hn,hl⟩:=I.loc
 have vis:GH X.env.scope x:=by rcases hx with k | k;exact .inl k;exact .inr (.inl k)
 obtain⟨u,r,l⟩:=hl i x v hi e1 vis;refine wpAny_AugAssign_Name ?_
 have go:wpAny (model X.prog X.w) X.A (eval e X.env) (λw Zw=>wpAny (model X.prog X.w) X.A (inplaceOp op u w) (λr Zn=>wpAny (model X.prog X.w) X.A (storeName X.env x r) (λ_=>SP X pins D .next) X.xe Zn) X.xe Zw) X.xe s:=by
  refine cH (he pins s Z H _ I h) λw s1 zq0=>?_;obtain⟨y,H1,I1,r1,q1⟩:=zq0;refine cH (ho pins s1 Z H1 v y u w _ I1 r r1 q1) λz s2 zq0=>?_;obtain⟨zv,H2,I2,r2,q2⟩:=zq0;exact pz I2 hN hi hx r2 (λs3 I3=>⟨_,H2,I3,q2⟩) hf
 rcases l with⟨hk,hm⟩ | ⟨hk,c,hc,hcell⟩
 ·exact wpAny_loadName_local I.ok.kind hk hn hm go
 ·rcases hk with hk | hk
  ·exact wpAny_loadName_cell I.ok.kind hk hc hcell go
  ·rcases hx with k | k
   ·have:X.env.scope.names.lookup x=some .free:=hk
    rw [k]at this;cases this
   ·have:X.env.scope.names.lookup x=some .free:=hk
    rw [k]at this;cases this
def Fo(c:TT)(tb:TS):TS:=λD Z H=>∃W:Nat->St->Hp->Prop,(∃m,W m Z H)/\∀m Z H,W m Z H->
 c Z H λb H1=>if b=true then ∃N:St->Hp->Prop,(∀Zc H',N Zc H'->∃m',m' < m/\W m' Zc H')/\tb { D with nx:=N,ct:=N,bk:=D.nx } Z H1 else D.nx Z H1
theorem uF{tc:TT}{tb:TS}(hp:PassesOwn (model X.prog X.w) X.A X.env X.xe)(hc:PT X c tc)(hb:w8 X body tb):PS X (.While c body [] pos) (Fo tc tb):=by
 rintro pins s Z H D I ⟨W,⟨m0,w0⟩,turn⟩;refine wpAny_While (codeAny_whileLoop (λn s'=>∃Zc H',aK X pins Zc H' s'/\W n Zc H') ?_ m0 ⟨Z,H,I,w0⟩);rintro n s1 ⟨Z3,H1,I1,w1⟩;refine ai2 hp (cH (hc pins s1 Z3 H1 _ I1 (turn n Z3 H1 w1)) λb s2 zq0=>?_);obtain⟨H2,I2,q2⟩:=zq0
 cases b with
 | true=>
  obtain⟨N,hN,q2⟩:=q2;rw [if_pos rfl];refine ai2 hp (cH (hb pins s2 Z3 H2 _ I2 q2) λf s3 q3=>?_)
  cases f with
  | next=>
   obtain⟨Zq,H3,I3,n3⟩:=q3;obtain⟨m',hm,w3⟩:=hN Zq H3 n3;exact⟨m',hm,Zq,H3,I3,w3⟩
  | cont=>
   obtain⟨Zq,H3,I3,n3⟩:=q3;obtain⟨m',hm,w3⟩:=hN Zq H3 n3;exact⟨m',hm,Zq,H3,I3,w3⟩
  | brk=>exact q3
  | ret v=>exact q3
 | false=>
  rw [if_neg ab3];exact am9 ⟨Z3,H2,I2,q2⟩
structure It where
 go:Nat->Hp->Prop
 yld:Nat->Hp->V->Hp->Prop
 stop:Nat->Hp->Prop
def mO(X:Cx)(pins:List (Addr×Obj))(H:Hp)(b:Addr):Prop:=
 H b=none/\b≠X.env.locals/\b∉X.fs/\(b∈X.ex\/X.Zh.heap.objs.size<=b)/\(∀x c,X.env.cells.lookup x=some c->c≠b)/\∀p∈X.pn++pins,p.1≠b
theorem aK.fpOk(I:aK X pins Z H s)(hb:s.heap.objs.size<=b)(hn:H' b=none):mO X pins H' b:=by
 refine⟨hn,af1 (ab6 I.lt hb),I.nofs hb,.inr (ac2 I.sz hb),λx c e z=>?_,λp hp z=>?_⟩
 ·obtain⟨v,q⟩:=I.cell x c e
  exact absurd (ab6 q.lt (by rw [z];exact hb)) (ah7 _)
 ·exact absurd (ab6 (aa9 (I.pin p hp).1) (by rw [z];exact hb)) (ah7 _)
structure pJ(P:Program)(w:World)(K:Frag)(tg:Expr)(J:It)(fp:List Addr)(it:Addr)(tn:Nat->Heap->Prop):Prop where
 mem:it∈fp
 obj:∀i h,tn i h->∀b∈fp,∃o,h.get? b=some o/\∀v,o.data≠.cell v
 keep:∀i h h',tn i h->(∀b∈fp,∀o,h.get? b=some o->h'.get? b=some o)->tn i h'
 item:∀(X:Cx),X.prog=P->X.w=w->X.K=K->X.calm=true->∀(i:Nat) (pins:List (Addr×Obj)) (s:Shared) (Z:St) (H:Hp) (E:Value->Shared->Prop),aK X pins Z H s->(∀b∈fp,mO X pins H b)->tn i s.heap->J.go i H->
  wpAny (model P w) X.A (pyNext (.ref it)) (λr s1=>∃u,r=some u/\
   wpAny (model P w) X.A (letOwnedTupleGo tg (.ref it) u) (λ_ s2=>∃x H',aK X pins Z H' s2/\aP x u/\J.yld i H x H'/\tn (i+1) s2.heap/\∀b∈fp,H' b=none) E s1) E s
 done:∀(X:Cx),X.prog=P->X.w=w->X.K=K->X.calm=true->∀(i:Nat) (pins:List (Addr×Obj)) (s:Shared) (Z:St) (H:Hp) (E:Value->Shared->Prop),aK X pins Z H s->(∀b∈fp,mO X pins H b)->tn i s.heap->J.stop i H->
  wpAny (model P w) X.A (pyNext (.ref it)) (λr s1=>r=none/\aK X pins Z H s1) E s
 self:∀(A:Around) (i:Nat) (s:Shared) (Q:Value->Shared->Prop) (E:Value->Shared->Prop),tn i s.heap->Q (.ref it) s->wpAny (model P w) A (pyIter (.ref it)) Q E s
abbrev TI:=St->Hp->(It->Hp->Prop)->Prop
def FG(X:Cx)(pins:List (Addr×Obj))(Z:St)(tg:Expr)(R:It->Hp->Prop)(itv:Value)(s2:Shared):Prop:=
 ∃(it:Addr) (fp:List Addr) (tn:Nat->Heap->Prop) (J:It) (H':Hp),itv=.ref it/\aK X pins Z H' s2/\pJ X.prog X.w X.K tg J fp it tn/\tn 0 s2.heap/\(∀b∈fp,mO X pins H' b)/\R J H'
def PI(X:Cx)(tg iter:Expr)(wi:TI):Prop:=
 ∀(pins:List (Addr×Obj)) (s:Shared) (Z:St) (H:Hp) (R:It->Hp->Prop),aK X pins Z H s->wi Z H R->
  wpAny (model X.prog X.w) X.A (eval iter X.env) (λv s1=>wpAny (model X.prog X.w) X.A (pyIter v) (FG X pins Z tg R) X.xe s1) X.xe s
theorem qR{it:Addr}{o:Obj}{n:String}{vs:Array Value}{Q:Unit->Shared->Prop}(ho:s.heap.get? it=some o)(hc:o.cls=.type n)(hd:o.data=.fields vs)
  (hn:["enumerate","zip","dict_itemiterator","dict_reverseitemiterator","odict_iterator","itertools.zip_longest","itertools.pairwise"].contains n=false) (hQ:Q Unit.unit s):wpAny M A (letOwnedTupleGo tg (.ref it) u) Q E s:=by
 unfold letOwnedTupleGo
 cases tg<;>first
  | exact aa6 hQ
  | (cases u<;>first | exact aa6 hQ | (refine aa0 (wpAny_load ho ?_);rw [hc,hd];show wpAny M A (if (["enumerate","zip","dict_itemiterator","dict_reverseitemiterator","odict_iterator","itertools.zip_longest","itertools.pairwise"].contains n && vs[0]? == some (rawInt _))=true then _ else _) Q E s;rw [if_neg (by intro h;rw [hn,Bool.false_and]at h;cases h)];exact aa6 hQ))
def zj(K:Frag)(a:Addr):It:=
 ⟨λi H=>∃xs x,aF K H a xs/\xs[i]?=some x,λi H x H'=>H'=H/\∀xs,aF K H a xs->xs[i]?=some x,λi H=>∃xs,aF K H a xs/\xs.length<=i⟩
def GY(K:Frag)(a:Addr):It:=
 ⟨λi H=>∃xs x,cT K H a xs/\xs[i]?=some x,λi H x H'=>H'=H/\∀xs,cT K H a xs->xs[i]?=some x,λi H=>∃xs,cT K H a xs/\xs.length<=i⟩
def xU(lo:Int)(n:Nat):It:=⟨λi _=>i < n,λi H x H'=>H'=H/\x=.int (lo+i),λi _=>n<=i⟩
theorem ze(a it:Addr):pJ P w K tg (zj K a) [it] it (λi h=>h.IsListIter it a i) where
 mem:=by simp
 obj:=λi h st b hb=>by
  have e:b=it:=by simpa using hb
  subst e;obtain⟨o,e,c,d⟩:=st;exact⟨o,e,λv z=>by rw [d]at z;cases z⟩
 keep:=λi h h' st k=>st.at λo e=>k it (by simp) o e
 item:=by
  intro X hP hw hK hc i pins s Z H E I hf st hg;subst hP hw hK;obtain⟨xs,x,hq,hx⟩:=hg;obtain⟨its,rv,p,hz⟩:=I.list hq;obtain⟨u,hu,ru⟩:=rv.get hx;obtain⟨f0,f1,f2,f3,f4,f5⟩:=hf it (by simp);refine wpAny_pyNext_list_item st p.isList (x:=u) (by simpa using hu) λh' st' sb=>?_;have I1:aK X pins Z H { s with heap:=h' }:=I.turned (t':=s.toks) (λb o hb e=>(sb.2 b hb).trans e) f0 f1 f3 f4 f5;obtain⟨o,e,c,d⟩:=id st';exact⟨u,rfl,qR (s:={ s with heap:=h' }) e c d ∅ ⟨x,H,I1,ru,⟨rfl,λys hy=>by rw [I.list_inj hy hq];exact hx⟩,st',λb hb=>(hf b hb).1⟩⟩
 done:=by
  intro X hP hw hK hc i pins s Z H E I hf st hg;subst hP hw hK;obtain⟨xs,hq,hx⟩:=hg;obtain⟨its,rv,p,hz⟩:=I.list hq;obtain⟨f0,f1,f2,f3,f4,f5⟩:=hf it (by simp);have hl:=rv.length;exact wpAny_pyNext_list_end (I.ok.hd hc) st p.isList (by simp;omega) λh' eb=>⟨rfl,I.turned (t':=s.toks) (λb o hb e=>eb b o hb e) f0 f1 f3 f4 f5⟩
 self:=λ_ _ _ _ _ st h=>wpAny_pyIter_listiter st h
theorem wZ(a it:Addr):pJ P w K tg (GY K a) [it] it (λi h=>h.IsTupleIter it a i) where
 mem:=by simp
 obj:=λi h st b hb=>by
  have e:b=it:=by simpa using hb
  subst e;obtain⟨o,e,c,d⟩:=st;exact⟨o,e,λv z=>by rw [d]at z;cases z⟩
 keep:=λi h h' st k=>st.at λo e=>k it (by simp) o e
 item:=by
  intro X hP hw hK hc i pins s Z H E I hf st hg;subst hP hw hK;obtain⟨xs,x,hq,hx⟩:=hg;obtain⟨its,rv,p,hz⟩:=I.tuple hq;obtain⟨u,hu,ru⟩:=rv.get hx;obtain⟨f0,f1,f2,f3,f4,f5⟩:=hf it (by simp);refine wpAny_pyNext_tuple_item st (show s.heap.IsTuple a its.toArray from p) (x:=u) (by simpa using hu) λh' st' sb=>?_;have I1:aK X pins Z H { s with heap:=h' }:=I.turned (t':=s.toks) (λb o hb e=>(sb.2 b hb).trans e) f0 f1 f3 f4 f5;obtain⟨o,e,c,d⟩:=id st';exact⟨u,rfl,qR (s:={ s with heap:=h' }) e c d ∅ ⟨x,H,I1,ru,⟨rfl,λys hy=>by rw [I.tuple_inj hy hq];exact hx⟩,st',λb hb=>(hf b hb).1⟩⟩
 done:=by
  intro X hP hw hK hc i pins s Z H E I hf st hg;subst hP hw hK;obtain⟨xs,hq,hx⟩:=hg;obtain⟨its,rv,p,hz⟩:=I.tuple hq;obtain⟨f0,f1,f2,f3,f4,f5⟩:=hf it (by simp);have hl:=rv.length;exact wpAny_pyNext_tuple_end (I.ok.hd hc) st (show s.heap.IsTuple a its.toArray from p) (by simp;omega) λh' eb=>⟨rfl,I.turned (t':=s.toks) (λb o hb e=>eb b o hb e) f0 f1 f3 f4 f5⟩
 self:=λ_ _ _ _ _ st h=>wpAny_pyIter_tupleiter st h
theorem pB(it:Addr)(lo:Int)(n:Nat):pJ P w K tg (xU lo n) [it] it (λi h=>IsRangeIter h it (lo+(i:Nat) * 1) ((n:Int) - (i:Nat)) 1) where
 mem:=by simp
 obj:=λi h st b hb=>by
  have e:b=it:=by simpa using hb
  subst e
  exact⟨_,st,λv z=>by
   have z':Data.fields _=Data.cell v:=z
   cases z'⟩
 keep:=λi h h' st k=>k it (by simp) _ st
 item:=by
  intro X hP hw hK hc i pins s Z H E I hf st hg;subst hP hw hK;obtain⟨f0,f1,f2,f3,f4,f5⟩:=hf it (by simp);have W:=Walks.range (prog:=X.prog) (w:=X.w) (I.ok.hd hc) it lo 1 n;refine W.item i s _ _ hg st λv h' tk hv st' kk=>?_;obtain⟨t,rfl⟩:=hv;have I1:aK X pins Z H { s with heap:=h',toks:=tk }:=I.turned (λb o hb e=>kk b o (by simpa using hb) e) f0 f1 f3 f4 f5;refine⟨_,rfl,qR (s:={ s with heap:=h',toks:=tk }) (n:="range_iterator") st' rfl rfl ∅ ⟨.int (lo+i),H,I1,⟨t,?_⟩,⟨rfl,rfl⟩,st',λb hb=>(hf b hb).1⟩⟩;rw [aq0]
 done:=by
  intro X hP hw hK hc i pins s Z H E I hf st hg;subst hP hw hK;obtain⟨f0,f1,f2,f3,f4,f5⟩:=hf it (by simp);exact wpAny_pyNext_range_end (I.ok.hd hc) st (by have:n<=i:=hg;omega) λh' eb=>⟨rfl,I.turned (t':=s.toks) (λb o hb e=>eb b o hb e) f0 f1 f3 f4 f5⟩
 self:=λ_ _ _ _ _ st h=>wpAny_pyIter_rangeiter st h
theorem uK{R:It->Hp->Prop}{lo hi:Int}{t u v:Tok}{tk:Nat}(I:aK X pins Z H s)(h1:-(2 ^ 62)<=lo)(h2:lo < 2 ^ 62)(h3:-(2 ^ 62)<=hi)(h4:hi < 2 ^ 62)
  (q:R (xU lo (hi - lo).toNat) H):wpAny (model X.prog X.w) X.A (pyIter (.ref s.heap.objs.size)) (FG X pins Z tg R) E { s with heap:=s.heap.push { cls:=.type "range",data:=.fields #[.int lo t,.int hi u,.int 1 v] },toks:=tk }:=by
 refine wpAny_pyIter_range (IsRange.new ..) (small_one h1 h2 h3 h4) ?_;have I1:aK X pins Z H { s with heap:=s.heap.push { cls:=.type "range",data:=.fields #[.int lo t,.int hi u,.int 1 v] },toks:=tk }:=I.kept λb o e=>aa4 _ e
 refine⟨(s.heap.push { cls:=.type "range",data:=.fields #[.int lo t,.int hi u,.int 1 v] }).objs.size,[(s.heap.push { cls:=.type "range",data:=.fields #[.int lo t,.int hi u,.int 1 v] }).objs.size],_,_,H,rfl,
  I1.kept (t':=tk) λb o e=>aa4 _ e,pB _ lo (hi - lo).toNat,?_,λb hb=>?_,q⟩
 ·have e1:lo+((0:Nat):Int) * 1=lo:=by simp
  have e2:(((hi - lo).toNat:Nat):Int) - ((0:Nat):Int)=Builtin.Range.rangeSize lo hi 1:=by rw [rangeSize_one];split<;>omega
  show IsRangeIter _ _ (lo+((0:Nat):Int) * 1) ((((hi - lo).toNat:Nat):Int) - ((0:Nat):Int)) 1;rw [e1,e2];exact aa8 _ rfl
 ·have e:b=(s.heap.push { cls:=.type "range",data:=.fields #[.int lo t,.int hi u,.int 1 v] }).objs.size:=by simpa using hb
  subst e;exact I1.fpOk (aa7 _) (I1.hok.fresh (aa7 _))
def DJ(ta:TA):TI:=λZ H R=>ta Z H λvs H1=>∃j:Int,vs=[.int j]/\-(2 ^ 62)<=j/\j < 2 ^ 62/\R (xU 0 j.toNat) H1
def DK(ta:TA):TI:=λZ H R=>ta Z H λvs H1=>∃i j:Int,vs=[.int i,.int j]/\(-(2 ^ 62)<=i/\i < 2 ^ 62/\-(2 ^ 62)<=j/\j < 2 ^ 62)/\R (xU i (j - i).toNat) H1
theorem c8{a:Expr}{ta:TA}(hg:Gl X "range")(hm:X.mg "range"=none)(ha:PA X [a] ta)(hs:starEach [a] X.env=[(false,eval a X.env)]:=by rfl):PI X tg (.Call (.Name "range" p) [a] [] pos) (DJ ta):=by
 intro pins s Z H R I h;refine Call_ (dz I hg hm boot_range (PyProof.Rows.callWith_type1 (cH (ha pos pins s Z H _ I h) λus s1 zq0=>?_) hs rfl));obtain⟨vs,H1,I1,r1,j,e,q1,q2,q⟩:=zq0;subst e
 cases r1 with
 | cons r rr=>
  cases rr;obtain⟨t,rfl⟩:=r;exact call_range_1 (uK I1 () () q1 q2 (by simpa using q))
theorem yV{a b:Expr}{ta:TA}(hg:Gl X "range")(hm:X.mg "range"=none)(ha:PA X [a,b] ta)(hs:starEach [a,b] X.env=[(false,eval a X.env),(false,eval b X.env)]:=by rfl)(hs2:starEach [b] X.env=[(false,eval b X.env)]:=by rfl):
  PI X tg (.Call (.Name "range" p) [a,b] [] pos) (DK ta):=by
 intro pins s Z H R I h;refine Call_ (dz I hg hm boot_range (PyProof.Rows.callWith_type1 (cH (ha pos pins s Z H _ I h) λus s1 zq0=>?_) (by rw [hs,hs2]) (by rw [hs2];rfl)));obtain⟨vs,H1,I1,r1,i,j,e,⟨q1,q2,q3,q4⟩,q⟩:=zq0;subst e
 cases r1 with
 | cons r rr=>
  cases rr with
  | cons r' rr=>
   cases rr;obtain⟨t,rfl⟩:=r;obtain⟨t',rfl⟩:=r';exact call_range_2 (uK I1 q1 q2 q3 q4 q)
def Gw(wi:TI)(g:TG)(tb:TS):TS:=λD Z H=>wi Z H λJ H1=>∃W:Nat->Nat->St->Hp->Prop,(∃m,W 0 m Z H1)/\∀i m Z H,W i m Z H->
 (J.stop i H/\D.nx Z H)\/(J.go i H/\∃N:St->Hp->Prop,(∀Zc H',N Zc H'->∃m',m' < m/\W (i+1) m' Zc H')/\∀x H',J.yld i H x H'->g x Z H' λZg H2=>tb { D with nx:=N,ct:=N,bk:=D.nx } Zg H2)
def sQ(fp:List Addr)(h:Heap):List (Addr×Obj):=fp.filterMap λb=>(h.get? b).map λo=>(b,o)
theorem eI{o:Obj}(hb:b∈fp)(e:h.get? b=some o):(b,o)∈sQ fp h:=List.mem_filterMap.mpr ⟨b,hb,by rw [e];rfl⟩
theorem yJ{p:Addr×Obj}(hp:p∈sQ fp h):p.1∈fp/\h.get? p.1=some p.2:=by
 obtain⟨b,hb,e⟩:=List.mem_filterMap.mp hp
 cases q:h.get? b with
 | none=>rw [q]at e;cases e
 | some o=>
  rw [q]at e;have e':(b,o)=p:=Option.some.inj e;subst e';exact⟨hb,q⟩
theorem aK.pinned(I:aK X pins Z H s)(hf:∀b∈fp,mO X pins H b)(ho:∀b∈fp,∃o,s.heap.get? b=some o/\∀v,o.data≠.cell v):aK X (pins++sQ fp s.heap) Z H s:=
 I.pins_of λp hp=>(ad2.mp hp).elim (λz=>I.pin p (ac9 _ z)) λz=>by
  obtain⟨hb,e⟩:=yJ z;obtain⟨f0,f1,f2,_⟩:=hf p.1 hb;obtain⟨o,e',d⟩:=ho p.1 hb;rw [e]at e';cases e';exact⟨e,f0,f1,f2,d⟩
theorem aK.unpinned{pl:List (Addr×Obj)}(I:aK X (pins++pl) Z H s):aK X pins Z H s:=I.pins_of λp hp=>I.pin p (ac9 _ (aj7 _ hp))
theorem bW{iter:Expr}{wi:TI}{tb:TS}(hp:PassesOwn (model X.prog X.w) X.A X.env X.xe)(hc:X.calm=true)(hi:PI X tg iter wi)(hg:PG X tg g)(hb:w8 X body tb)
  (hs:∀x,foldedSetIterable iter X.env x=pure x:=by intro _;rfl):PS X (.For tg iter body [] pos) (Gw wi g tb):=by
 intro pins s Z H D I h;refine wpAny_For (cH (hi pins s Z H _ I h) λv s1 h1=>cH h1 λitv s2 h2=>?_) hs;obtain⟨it,fp,tn,J,H2,e,I2,T,st2,f2,W,⟨m0,w0⟩,turn⟩:=h2;subst e;have stat:∀{H':Hp},(∀b∈fp,H' b=none)->∀b∈fp,mO X pins H' b:=λhn b hb=>⟨hn b hb,(f2 b hb).2⟩;refine codeAny_forLoop_any (λn s'=>∃i Zc H',aK X pins Zc H' s'/\tn i s'.heap/\(∀b∈fp,H' b=none)/\W i n Zc H') ?_ m0 ⟨0,Z,H2,I2,st2,λb hb=>(f2 b hb).1,w0⟩;rintro n s3 ⟨i,Zq,H3,I3,st3,fr3,w3⟩;rcases turn i n Zq H3 w3 with⟨stop,qn⟩ | ⟨go,N,hN,step⟩
 ·refine ai2 hp (cH (T.done X rfl rfl rfl hc i pins s3 Zq H3 X.xe I3 (stat fr3) st3 stop) λr s4 zq0=>?_)
  obtain⟨hr,I4⟩:=zq0;subst hr;exact am9 ⟨Zq,H3,I4,qn⟩
 ·refine ai2 hp (cH (T.item X rfl rfl rfl hc i pins s3 Zq H3 X.xe I3 (stat fr3) st3 go) λr s4 zq0=>?_)
  obtain⟨u,hr,h4⟩:=zq0;subst hr;refine ai2 hp (cH h4 λ_ s5 zq0=>?_);obtain⟨x,H5,I5,r5,y5,st5,fr5⟩:=zq0;have I5':=I5.pinned (stat fr5) (T.obj _ _ st5);refine ai2 hp (cH (hg _ s5 Zq H5 x u _ I5' r5 (step x H5 y5)) λ_ s6 zq0=>?_);obtain⟨Zz,H6,I6,q6⟩:=zq0;refine ai2 hp (cH (hb _ s6 Zz H6 _ I6 q6) λf s7 q7=>?_)
  have again:∀{Zr:St} {H7:Hp},aK X (pins++sQ fp s5.heap) Zr H7 s7->N Zr H7->∃m,m < n/\∃i Zc H',aK X pins Zc H' s7/\tn i s7.heap/\(∀b∈fp,H' b=none)/\W i m Zc H':=λ{Zr H7} I7 n7=>by
   obtain⟨m',hm,w7⟩:=hN Zr H7 n7;refine⟨m',hm,i+1,Zr,H7,I7.unpinned,T.keep _ _ _ st5 λb hb o e=>(I7.pin (b,o) (ac9 _ (ac9 _ (eI hb e)))).1,λb hb=>?_,w7⟩;obtain⟨o,e,d⟩:=T.obj _ _ st5 b hb;exact(I7.pin (b,o) (ac9 _ (ac9 _ (eI hb e)))).2.1
  cases f with
  | next=>obtain⟨Zr,H7,I7,n7⟩:=q7;exact again I7 n7
  | cont=>obtain⟨Zr,H7,I7,n7⟩:=q7;exact again I7 n7
  | brk=>obtain⟨Zr,H7,I7,q7⟩:=q7;exact⟨Zr,H7,I7.unpinned,q7⟩
  | ret v=>obtain⟨x7,Zr,H7,I7,r7,q7⟩:=q7;exact⟨x7,Zr,H7,I7.unpinned,r7,q7⟩
theorem zV{tb:TS}(Pv:Nat->St->Hp->Prop)(h0:Pv 0 Z H)(hl:∀i Z H,i<=xs.length->Pv i Z H->aF K H a xs)
  (hs:∀i x Z H,xs[i]?=some x->Pv i Z H->g x Z H λZg H2=>tb { D with nx:=Pv (i+1),ct:=Pv (i+1),bk:=D.nx } Zg H2) (hd:∀Z H,Pv xs.length Z H->D.nx Z H) :
  ∃W:Nat->Nat->St->Hp->Prop,(∃m,W 0 m Z H)/\∀i m Z H,W i m Z H->
   ((zj K a).stop i H/\D.nx Z H)\/((zj K a).go i H/\∃N:St->Hp->Prop,(∀Zc H',N Zc H'->∃m',m' < m/\W (i+1) m' Zc H')/\∀x H',(zj K a).yld i H x H'->g x Z H' λZg H2=>tb { D with nx:=N,ct:=N,bk:=D.nx } Zg H2):=by
 refine⟨λi m Z H=>m=xs.length - i/\i<=xs.length/\Pv i Z H,⟨xs.length,by simp,ac1 _,h0⟩,?_⟩;rintro i m Z H ⟨rfl,hi,p⟩;have q:=hl i Z H hi p
 by_cases hlt:i < xs.length
 ·refine .inr ⟨⟨xs,xs[i],q,by simp [hlt]⟩,Pv (i+1),λZc H' p'=>⟨xs.length - (i+1),(),rfl,hlt,p'⟩,λx H' y=>?_⟩
  obtain⟨e,y⟩:=y;subst e;exact hs i x Z _ (y xs q) p
 ·have e:i=xs.length:=by omega
  subst e;exact .inl ⟨⟨xs,q,aa7 _⟩,hd Z H p⟩
theorem yq{lo:Int}{tb:TS}(Pv:Nat->St->Hp->Prop)(h0:Pv 0 Z H)
  (hs:∀i Z H,i < n->Pv i Z H->g (.int (lo+i)) Z H λZg H2=>tb { D with nx:=Pv (i+1),ct:=Pv (i+1),bk:=D.nx } Zg H2) (hd:∀Z H,Pv n Z H->D.nx Z H) :
  ∃W:Nat->Nat->St->Hp->Prop,(∃m,W 0 m Z H)/\∀i m Z H,W i m Z H->
   ((xU lo n).stop i H/\D.nx Z H)\/((xU lo n).go i H/\∃N:St->Hp->Prop,(∀Zc H',N Zc H'->∃m',m' < m/\W (i+1) m' Zc H')/\∀x H',(xU lo n).yld i H x H'->g x Z H' λZg H2=>tb { D with nx:=N,ct:=N,bk:=D.nx } Zg H2):=by
 refine⟨λi m Z H=>m=n - i/\i<=n/\Pv i Z H,⟨n,by simp,ac1 _,h0⟩,?_⟩;rintro i m Z H ⟨rfl,hi,p⟩
 by_cases hlt:i < n
 ·refine .inr ⟨hlt,Pv (i+1),λZc H' p'=>⟨n - (i+1),(),rfl,hlt,p'⟩,λx H' y=>?_⟩
  obtain⟨e,y⟩:=y;subst e y;exact hs i Z _ hlt p
 ·have e:i=n:=by omega
  subst e;exact .inl ⟨aa7 _,hd Z H p⟩
abbrev R2:=V->V->Hp->VK->Prop
def dE(X:Cx)(f:Value->Value->Sem Value)(r:R2):Prop:=
 ∀(pins:List (Addr×Obj)) (s:Shared) (Z:St) (H:Hp) (x y:V) (v u:Value) (Q:VK),aK X pins Z H s->aP x v->aP y u->r x y H Q->
  wpAny (model X.prog X.w) X.A (f v u) (EP X pins Z Q) X.xe s
def FK(X:Cx)(f:Value->Sem Value)(r:V->Hp->VK->Prop):Prop:=
 ∀(pins:List (Addr×Obj)) (s:Shared) (Z:St) (H:Hp) (x:V) (v:Value) (Q:VK),aK X pins Z H s->aP x v->r x H Q->
  wpAny (model X.prog X.w) X.A (f v) (EP X pins Z Q) X.xe s
def cM(X:Cx)(f:Value)(r:List V->Hp->VK->Prop):Prop:=
 ∀(pins:List (Addr×Obj)) (s:Shared) (Z:St) (H:Hp) (xs:List V) (us:List Value) (Q:VK),aK X pins Z H s->aU xs us->r xs H Q->
  wpAny (model X.prog X.w) X.A (call f us) (EP X pins Z Q) X.xe s
def G4(X:Cx)(r:V->Hp->(Bool->Hp->Prop)->Prop):Prop:=
 ∀(pins:List (Addr×Obj)) (s:Shared) (Z:St) (H:Hp) (x:V) (v:Value) (Q:Bool->Hp->Prop),aK X pins Z H s->aP x v->r x H Q->
  wpAny (model X.prog X.w) X.A (truthy v) (TP X pins Z Q) X.xe s
def Fi(r:R2)(ta tb:TE):TE:=λZ H Q=>ta Z H λx H1=>tb Z H1 λy H2=>r x y H2 Q
def Hl(r:V->Hp->VK->Prop)(ta:TE):TE:=λZ H Q=>ta Z H λx H1=>r x H1 Q
def rI(C:Int->Int->Prop)(g:Int->Int->V):R2:=λx y H Q=>∃i j,x=.int i/\y=.int j/\C i j/\Q (g i j) H
def uH(g:Int->Int->V):R2:=λx y H Q=>∃i j,x=.int i/\y=.int j/\Q (g i j) H
def rU(g:Int->V):V->Hp->VK->Prop:=λx H Q=>∃i,x=.int i/\Q (g i) H
section
variable {a b:Expr} {tc:TE}
theorem B8(ha:PE X a ta)(hb:PE X b tb)(I:aK X pins Z H s)
  (h:ta Z H λx H1=>tb Z H1 λy H2=>R x y H2) {Q:Value->Shared->Prop} {f:Value->Value->Sem Value}
  (hf:∀v u s2 x y H2,aK X pins Z H2 s2->aP x v->aP y u->R x y H2->wpAny (model X.prog X.w) X.A (f v u) Q X.xe s2) :
  wpAny (model X.prog X.w) X.A (eval a X.env) (λv Zf=>wpAny (model X.prog X.w) X.A (eval b X.env) (λu Zw=>wpAny (model X.prog X.w) X.A (f v u) Q X.xe Zw) X.xe Zf) X.xe s:=by
 refine cH (ha pins s Z H _ I h) λv s1 zq0=>?_;obtain⟨x,H1,I1,r1,q1⟩:=zq0;refine cH (hb pins s1 Z H1 _ I1 q1) λu s2 zq0=>?_;obtain⟨y,H2,I2,r2,q2⟩:=zq0;exact hf v u s2 x y H2 I2 r1 r2 q2
theorem au{op:Operator}{r:R2}(ho:dE X (binaryOp op) r)(ha:PE X a ta)(hb:PE X b tb):PE X (.BinOp a op b pos) (Fi r ta tb):=by
 intro pins s Z H Q I h;exact wpAny_BinOp (B8 ha hb I h λv u s2 x y H2 I2 rx ry q=>ho pins s2 Z H2 x y v u Q I2 rx ry q)
theorem AV{op:UnaryOp}{r:V->Hp->VK->Prop}(ho:FK X (unaryOp op) r)(ha:PE X a ta):PE X (.UnaryOp op a pos) (Hl r ta):=by
 intro pins s Z H Q I h;exact UnaryOp_ (cH (ha pins s Z H _ I h) λv s1 ⟨x,H1,I1,r1,q1⟩=>ho pins s1 Z H1 x v Q I1 r1 q1)
theorem F9{f:Value->Value->Sem Value}{C:Int->Int->Prop}{g:Int->Int->Int}
  (rule:∀(i j:Int) (t u:Tok) (s:Shared) (Q:Value->Shared->Prop) (E:Value->Shared->Prop),C i j->Q (.int (g i j) s.toks) { s with toks:=s.toks+1 }->wpAny (model X.prog X.w) X.A (f (.int i t) (.int j u)) Q E s) :
  dE X f (rI C λi j=>.int (g i j)):=by
 rintro pins s Z H x y v u Q I rx ry ⟨i,j,rfl,rfl,hc,q⟩;obtain⟨t,rfl⟩:=rx;obtain⟨t',rfl⟩:=ry;exact rule i j t t' s _ _ hc ⟨.int (g i j),H,I.tok _,⟨_,rfl⟩,q⟩
theorem EK{f:Value->Value->Sem Value}{g:Int->Int->Int}
  (rule:∀(i j:Int) (t u:Tok) (s:Shared) (Q:Value->Shared->Prop) (E:Value->Shared->Prop),Q (.int (g i j) s.toks) { s with toks:=s.toks+1 }->wpAny (model X.prog X.w) X.A (f (.int i t) (.int j u)) Q E s) :
  dE X f (uH λi j=>.int (g i j)):=by
 rintro pins s Z H x y v u Q I rx ry ⟨i,j,rfl,rfl,q⟩;obtain⟨t,rfl⟩:=rx;obtain⟨t',rfl⟩:=ry;exact rule i j t t' s _ _ ⟨.int (g i j),H,I.tok _,⟨_,rfl⟩,q⟩
theorem CV{f:Value->Value->Sem Value}{g:Int->Int->Bool}
  (rule:∀(i j:Int) (t u:Tok) (s:Shared) (Q:Value->Shared->Prop) (E:Value->Shared->Prop),Q (.bool (g i j)) s->wpAny (model X.prog X.w) X.A (f (.int i t) (.int j u)) Q E s) :
  dE X f (uH λi j=>.bl (g i j)):=by
 rintro pins s Z H x y v u Q I rx ry ⟨i,j,rfl,rfl,q⟩;obtain⟨t,rfl⟩:=rx;obtain⟨t',rfl⟩:=ry;exact rule i j t t' s _ _ ⟨.bl (g i j),H,I,rfl,q⟩
def Fz(i j:Int):Prop:=0 < j/\j < 1073741824
def GV(i j:Int):Prop:=0<=j/\j<=1000000/\i.natAbs < 2 ^ 64
theorem op_add:dE X (binaryOp .Add) (uH λi j=>.int (i+j)):=EK λ_ _ _ _ _ _ _ q=>add_int q
theorem cJ:dE X (binaryOp .Sub) (uH λi j=>.int (i - j)):=EK λ_ _ _ _ _ _ _ q=>sub_int q
theorem bP:dE X (binaryOp .FloorDiv) (rI Fz λi j=>.int (i / j)):=F9 λi j _ _ _ _ _ hc q=>by
 have h1:(0:Int) < j:=hc.1;have h2:j < 1073741824:=hc.2;exact floordiv_int () (by rw [aj8 i ()];exact q) (.inl (PyProof.noPylong_small ()))
theorem bF:dE X (binaryOp .Mod) (rI (λ_ j=>0 < j) λi j=>.int (i % j)):=F9 λi j _ _ _ _ _ hc q=>by
 have h1:(0:Int) < j:=hc;exact mod_int' () (by rw [aj9 i ()];exact q)
theorem jJ:dE X (binaryOp .Pow) (rI GV λi j=>.int (i ^ j.toNat)):=F9 λ_ _ _ _ _ _ _ hc q=>pow_int_small hc.1 hc.2.1 hc.2.2 q
theorem Co:dE X (inplaceOp .Add) (uH λi j=>.int (i+j)):=EK λ_ _ _ _ _ _ _ q=>iadd_int q
theorem unI{f:Value->Sem Value}{g:Int->Int}
  (rule:∀(i:Int) (t:Tok) (s:Shared) (Q:Value->Shared->Prop) (E:Value->Shared->Prop),Q (.int (g i) s.toks) { s with toks:=s.toks+1 }->wpAny (model X.prog X.w) X.A (f (.int i t)) Q E s) :
  FK X f (rU λi=>.int (g i)):=by
 rintro pins s Z H x v Q I rx ⟨i,rfl,q⟩;obtain⟨t,rfl⟩:=rx;exact rule i t s _ _ ⟨.int (g i),H,I.tok _,⟨_,rfl⟩,q⟩
theorem w4:FK X (unaryOp .USub) (rU λi=>.int (-i)):=unI λ_ _ _ _ _ q=>neg_int q
end
def y4:V->V->Bool
 | .non,.non=>true | .non,.int _=>true | .int _,.non=>true | .non,.bl _=>true | .bl _,.non=>true | .non,.str _=>true | .str _,.non=>true
 | .int _,.int _=>true | .bl _,.bl _=>true | .str _,.str _=>true | .byt _,.byt _=>true
 | .int _,.str _=>true | .str _,.int _=>true | .bl _,.str _=>true | .str _,.bl _=>true
 | _,_=>false
def ve:R2:=λx y H Q=>y4 x y=true/\Q (.bl (decide (x=y))) H
def vf:R2:=λx y H Q=>y4 x y=true/\Q (.bl (!decide (x=y))) H
theorem xn{i j:Int}:decide (V.int i=V.int j)=(i == j):=by
 rw [ah1];simp
theorem zH{i j:Bool}:decide (V.bl i=V.bl j)=(i == j):=by
 rw [ah1];simp
theorem xp{i j:Str}:decide (V.str i=V.str j)=(i == j):=by
 rw [ah1];simp
theorem xk{i j:Array UInt8}:decide (V.byt i=V.byt j)=(i.toList == j.toList):=by
 rw [ah1];cases i;cases j;simp
section
variable {a b:Expr} {tc:TE}
theorem bA{Q:VK}{k k':Bool}(I:aK X pins Z H s)(q:Q (.bl k) H)(e:k=k'):EP X pins Z Q (.bool k') s:=by
 subst e;exact⟨.bl k,H,I,rfl,q⟩
theorem Gb:dE X (compareOp .Eq) ve:=by
 rintro pins s Z H x y v u Q I rx ry ⟨hs,q⟩
 cases x with
 | non=>
  cases rx
  cases y with
  | non=>cases ry;exact PySem.EqNone.eq_none_none (bA I q (by simp))
  | bl j=>cases ry;exact PySem.EqNone.eq_none_bool (bA I q (by simp))
  | int j=>obtain⟨t',rfl⟩:=ry;exact PySem.EqNone.eq_none_int (bA I q (by simp))
  | str j=>obtain⟨t',rfl⟩:=ry;exact PySem.EqNone.eq_none_str (bA I q (by simp))
  | _=>exact absurd (show false=true from hs) ab3
 | bl i=>
  cases rx
  cases y with
  | non=>cases ry;exact PySem.EqNone.eq_bool_none (bA I q (by simp))
  | bl j=>cases ry;exact eq_bool (bA I q zH)
  | str j=>obtain⟨t',rfl⟩:=ry;exact PySem.EqMixed.eq_bool_str (bA I q (by simp))
  | _=>exact absurd (show false=true from hs) ab3
 | int i=>
  obtain⟨t,rfl⟩:=rx
  cases y with
  | non=>cases ry;exact PySem.EqNone.eq_int_none (bA I q (by simp))
  | int j=>obtain⟨t',rfl⟩:=ry;exact eq_int (bA I q xn)
  | str j=>obtain⟨t',rfl⟩:=ry;exact PySem.EqMixed.eq_int_str (bA I q (by simp))
  | _=>exact absurd (show false=true from hs) ab3
 | str i=>
  obtain⟨t,rfl⟩:=rx
  cases y with
  | non=>cases ry;exact PySem.EqNone.eq_str_none (bA I q (by simp))
  | bl j=>cases ry;exact PySem.EqMixed.eq_str_bool (bA I q (by simp))
  | int j=>obtain⟨t',rfl⟩:=ry;exact PySem.EqMixed.eq_str_int (bA I q (by simp))
  | str j=>obtain⟨t',rfl⟩:=ry;exact eq_str (bA I q xp)
  | _=>exact absurd (show false=true from hs) ab3
 | byt i=>
  obtain⟨t,rfl⟩:=rx
  cases y with
  | byt j=>obtain⟨t',rfl⟩:=ry;exact PySem.W.eq_bytes (bA I q xk)
  | _=>exact absurd (show false=true from hs) ab3
 | _=>cases y<;>exact absurd (show false=true from hs) ab3
theorem Ge:dE X (compareOp .NotEq) vf:=by
 rintro pins s Z H x y v u Q I rx ry ⟨hs,q⟩
 cases x with
 | non=>
  cases rx
  cases y with
  | non=>cases ry;exact PySem.EqNone.ne_none_none (bA I q (by simp))
  | bl j=>cases ry;exact PySem.EqNone.ne_none_bool (bA I q (by simp))
  | int j=>obtain⟨t',rfl⟩:=ry;exact PySem.EqNone.ne_none_int (bA I q (by simp))
  | str j=>obtain⟨t',rfl⟩:=ry;exact PySem.EqNone.ne_none_str (bA I q (by simp))
  | _=>exact absurd (show false=true from hs) ab3
 | bl i=>
  cases rx
  cases y with
  | non=>cases ry;exact PySem.EqNone.ne_bool_none (bA I q (by simp))
  | bl j=>cases ry;exact ne_bool (bA I q (congrArg not zH))
  | str j=>obtain⟨t',rfl⟩:=ry;exact PySem.EqMixed.ne_bool_str (bA I q (by simp))
  | _=>exact absurd (show false=true from hs) ab3
 | int i=>
  obtain⟨t,rfl⟩:=rx
  cases y with
  | non=>cases ry;exact PySem.EqNone.ne_int_none (bA I q (by simp))
  | int j=>obtain⟨t',rfl⟩:=ry;exact ne_int (bA I q (congrArg not xn))
  | str j=>obtain⟨t',rfl⟩:=ry;exact PySem.EqMixed.ne_int_str (bA I q (by simp))
  | _=>exact absurd (show false=true from hs) ab3
 | str i=>
  obtain⟨t,rfl⟩:=rx
  cases y with
  | non=>cases ry;exact PySem.EqNone.ne_str_none (bA I q (by simp))
  | bl j=>cases ry;exact PySem.EqMixed.ne_str_bool (bA I q (by simp))
  | int j=>obtain⟨t',rfl⟩:=ry;exact PySem.EqMixed.ne_str_int (bA I q (by simp))
  | str j=>obtain⟨t',rfl⟩:=ry;exact ne_str (bA I q (congrArg not xp))
  | _=>exact absurd (show false=true from hs) ab3
 | byt i=>
  obtain⟨t,rfl⟩:=rx
  cases y with
  | byt j=>obtain⟨t',rfl⟩:=ry;exact PySem.W.ne_bytes (bA I q (congrArg not xk))
  | _=>exact absurd (show false=true from hs) ab3
 | _=>cases y<;>exact absurd (show false=true from hs) ab3
theorem Gd:dE X (compareOp .Lt) (uH λi j=>.bl (decide (i < j))):=CV λ_ _ _ _ _ _ _ q=>lt_int q
theorem kG:dE X (compareOp .LtE) (uH λi j=>.bl (decide (i<=j))):=CV λ_ _ _ _ _ _ _ q=>le_int q
theorem uC:dE X (compareOp .Gt) (uH λi j=>.bl (decide (j < i))):=CV λ_ _ _ _ _ _ _ q=>gt_int q
theorem DU:dE X (compareOp .GtE) (uH λi j=>.bl (decide (j<=i))):=CV λ_ _ _ _ _ _ _ q=>ge_int q
theorem op_in_str:dE X (compareOp .In) (λx y H Q=>∃i j,x=.str i/\y=.str j/\Q (.bl (!(Builtin.Str.occurrences j i 0 j.length 1).isEmpty)) H):=by
 rintro pins s Z H x y v u Q I rx ry ⟨i,j,rfl,rfl,q⟩;obtain⟨t,rfl⟩:=rx;obtain⟨t',rfl⟩:=ry;exact in_str (bA I q rfl)
theorem c7:dE X (compareOp .Is) (λx y H Q=>y=.non/\Q (.bl (decide (x=.non))) H):=by
 rintro pins s Z H x y v u Q I rx ry ⟨rfl,q⟩;cases ry;refine is_none_gen (bA I q ?_)
 cases x<;>first
  | (cases rx;rfl)
  | (obtain⟨t,rfl⟩:=rx;rfl)
theorem jw:dE X (compareOp .IsNot) (λx y H Q=>y=.non/\Q (.bl (!decide (x=.non))) H):=by
 rintro pins s Z H x y v u Q I rx ry ⟨rfl,q⟩;cases ry;refine isnot_none_gen (bA I q ?_)
 cases x<;>first
  | (cases rx;rfl)
  | (obtain⟨t,rfl⟩:=rx;rfl)
theorem op_notin_str:dE X (compareOp .NotIn) (λx y H Q=>∃i j,x=.str i/\y=.str j/\Q (.bl (!(!(Builtin.Str.occurrences j i 0 j.length 1).isEmpty))) H):=by
 rintro pins s Z H x y v u Q I rx ry ⟨i,j,rfl,rfl,q⟩;obtain⟨t,rfl⟩:=rx;obtain⟨t',rfl⟩:=ry;exact notIn_str (bA I q rfl)
theorem dE.or{f:Value->Value->Sem Value}{r r':R2}(h:dE X f r)(h':dE X f r'):dE X f (λx y H Q=>r x y H Q\/r' x y H Q):=by
 intro pins s Z H x y v u Q I rx ry q;rcases q with q | q
 ·exact h pins s Z H x y v u Q I rx ry q
 ·exact h' pins s Z H x y v u Q I rx ry q
theorem ay(b:Expr)(h:op≠.In:=by decide)(h2:op≠.NotIn:=by decide):behindInMarks op b=false:=by
 have e1:(op == CmpOp.In)=false:=by cases op<;>first | rfl | exact absurd rfl h
 have e2:(op == CmpOp.NotIn)=false:=by cases op<;>first | rfl | exact absurd rfl h2
 cases b<;>simp [behindInMarks,e1,e2]
theorem fH{r:R2}(ho:dE X (compareOp op) r)(ha:PE X a ta)(hb:PE X b tb)(hm:behindInMarks op b=false):PE X (.Compare a [op] [b] pos) (Fi r ta tb):=by
 intro pins s Z H Q I h;exact wpAny_Compare1 (B8 ha hb I h λv u s2 x y H2 I2 rx ry q=>ho pins s2 Z H2 x y v u Q I2 rx ry q) hm
def rJ(t:TE):TT:=λZ H Q=>t Z H λx H'=>∃k,x=.bl k/\Q k H'
theorem ax{r:R2}(ho:dE X (compareOp op) r)(ha:PE X a ta)(hb:PE X b tb)(hm:behindInMarks op b=false):PT X (.Compare a [op] [b] pos) (rJ (Fi r ta tb)):=by
 intro pins s Z H Q I h
 refine wpAny_isTrue_Compare1 (cH (ha pins s Z H _ I h) λv s1 ⟨x,H1,I1,r1,q1⟩=>cH (hb pins s1 Z H1 _ I1 q1) λu s2 ⟨y,H2,I2,r2,q2⟩=>
  cH (ho pins s2 Z H2 x y v u _ I2 r1 r2 q2) λc s3 ⟨z,H3,I3,r3,k,e,q3⟩=>?_) hm
 subst e;cases r3;exact ae4 ⟨H3,I3,q3⟩
def wR(r r':R2)(ta tb tc:TE):TE:=λZ H Q=>ta Z H λx H1=>tb Z H1 λy H2=>r x y H2 λz H3=>∃k,z=.bl k/\
 (if k=true then tc Z H3 λw' H4=>r' y w' H4 Q else Q (.bl false) H3)
theorem uD{op':CmpOp}{r r':R2}(ho:dE X (compareOp op) r)(ho':dE X (compareOp op') r')(ha:PE X a ta)(hb:PE X b tb)(hc:PE X c tc)
  (hm:lastMarks [op,op'] [b,c]=false:=by with_unfolding_all rfl):PE X (.Compare a [op,op'] [b,c] pos) (wR r r' ta tb tc):=by
 intro pins s Z H Q I h
 refine Compare_chain (cH (ha pins s Z H _ I h) λv s1 ⟨x,H1,I1,r1,q1⟩=>chain_link (cH (hb pins s1 Z H1 _ I1 q1) λu s2 ⟨y,H2,I2,r2,q2⟩=>
  cH (ho pins s2 Z H2 x y v u _ I2 r1 r2 q2) λd s3 ⟨z,H3,I3,r3,k,e,q3⟩=>?_)) hm
 subst e;cases r3;refine ae4 ?_
 cases k with
 | false=>exact ite_ff ⟨.bl false,H3,I3,rfl,q3⟩
 | true=>exact ite_tt (chain_last (cH (hc pins s3 Z H3 _ I3 q3) λw' s4 ⟨z',H4,I4,r4,q4⟩=>ho' pins s4 Z H4 y z' u w' Q I4 r2 r4 q4))
theorem AY{op':CmpOp}{r r':R2}(ho:dE X (compareOp op) r)(ho':dE X (compareOp op') r')(ha:PE X a ta)(hb:PE X b tb)(hc:PE X c tc)
  (hm:lastMarks [op,op'] [b,c]=false:=by with_unfolding_all rfl):PT X (.Compare a [op,op'] [b,c] pos) (rJ (wR r r' ta tb tc)):=by
 intro pins s Z H Q I h
 refine isTrue_chain (cH (ha pins s Z H _ I h) λv s1 ⟨x,H1,I1,r1,q1⟩=>test_link (cH (hb pins s1 Z H1 _ I1 q1) λu s2 ⟨y,H2,I2,r2,q2⟩=>
  cH (ho pins s2 Z H2 x y v u _ I2 r1 r2 q2) λd s3 ⟨z,H3,I3,r3,k,e,q3⟩=>?_)) hm
 subst e;cases r3;refine ae4 ?_
 cases k with
 | false=>
  obtain⟨k',e',q'⟩:=q3;cases e';exact ite_ff ⟨H3,I3,q'⟩
 | true=>
  refine ite_tt (test_last (cH (hc pins s3 Z H3 _ I3 q3) λw' s4 ⟨z',H4,I4,r4,q4⟩=>cH (ho' pins s4 Z H4 y z' u w' _ I4 r2 r4 q4) λd' s5 zq0=>?_));obtain⟨z2,H5,I5,r5,k2,e2,q5⟩:=zq0;subst e2;cases r5;exact ae4 ⟨H5,I5,q5⟩
def zy(K:Frag)(x:V)(H:Hp)(k:Bool):Prop:=
 match x with
 | .non=>k=false
 | .bl b=>k=b
 | .int i=>k=(i != 0)
 | .str y=>y.length<=sizeLine/\k=((y.length:Int) != 0)
 | .byt y=>y.size<=sizeLine/\k=((y.size:Int) != 0)
 | .ref p=>(∃xs,aF K H p xs/\k=!xs.isEmpty)\/(∃xs,cT K H p xs/\k=!xs.isEmpty)\/∃kvs,H p=some (.dK kvs)/\k=!kvs.isEmpty
 | _=>False
theorem vB{κ:Type}{kvs:List (κ×V)}{vs:List (κ×Value)}(r:KV kvs vs):(!vs.isEmpty)=!kvs.isEmpty:=by
 cases r<;>rfl
theorem nR{its:List Value}(r:aU xs its):(!its.toArray.isEmpty)=!xs.isEmpty:=by
 cases r<;>simp
theorem jG:(sizeLine:Nat) < 2 ^ 63:=by rw [sizeLine_eq];decide
theorem Fp:G4 X (λx H Q=>∃k,zy X.K x H k/\Q k H):=by
 rintro pins s Z H x v Q I rx ⟨k,e,q⟩;have hl:=jG;have hs:=sizeLine_eq
 cases x with
 | non=>
  cases rx;have e':k=false:=e;subst e';exact truthy_none ⟨H,I,q⟩
 | bl b=>
  cases rx;have e':k=b:=e;subst e';exact ae4 ⟨H,I,q⟩
 | int i=>
  obtain⟨t,rfl⟩:=rx;have e':k=(i != 0):=e;subst e';exact PySem.P.truthy_int ⟨H,I,q⟩
 | str y=>
  obtain⟨t,rfl⟩:=rx;obtain⟨hy,e'⟩:y.length<=sizeLine/\k=((y.length:Int) != 0):=e;subst e';exact PySem.P.truthy_str () ⟨H,I.tok _,q⟩
 | byt y=>
  obtain⟨t,rfl⟩:=rx;obtain⟨hy,e'⟩:y.size<=sizeLine/\k=((y.size:Int) != 0):=e;subst e';exact PySem.W.truthy_bytes () ⟨H,I.tok _,q⟩
 | ref p=>
  cases rx;have e':(∃xs,aF X.K H p xs/\k=!xs.isEmpty)\/(∃xs,cT X.K H p xs/\k=!xs.isEmpty)\/∃kvs,H p=some (.dK kvs)/\k=!kvs.isEmpty:=e;rcases e' with⟨xs,hx,e'⟩ | ⟨xs,hx,e'⟩ | ⟨kvs,hx,e'⟩
  ·subst e'
   obtain⟨its,r,pl,hz⟩:=I.list hx;have hlen:=r.length;exact wpAny_truthy_list pl.isList (by simp only [ab4];omega) ⟨H,I.tok _,by rw [nR r];exact q⟩
  ·subst e'
   obtain⟨its,r,pl,hz⟩:=I.tuple hx;have hlen:=r.length;exact truthy_tuple pl (by simp only [ab4];omega) ⟨H,I.tok _,by rw [nR r];exact q⟩
  ·subst e'
   obtain⟨hz,hS,vs,r,m⟩:kvs.length<=sizeLine/\(p == sysModules)=false/\∃vs,KV kvs vs/\s.heap.DictOf (so X.prog X.w) p vs:=I.hok p _ hx;have hlen:kvs.length=vs.length:=Paired.length r;exact wpAny_truthy_dict hS m () ⟨H,I.tok _,by rw [vB r];exact q⟩
 | _=>exact(show False from e).elim
theorem aZ(ha:PE X a ta)(he:∀whole,isTrue a X.env whole=(do let v <-whole;standAt a.pos;holding [v] (truthy v))):
  PT X a (λZ H Q=>ta Z H λx H'=>∃k,zy X.K x H' k/\Q k H'):=by
 intro pins s Z H Q I h;exact isTrue_plain (cH (ha pins s Z H _ I h) λv s1 ⟨x,H1,I1,r1,q1⟩=>Fp pins s1 Z H1 x v Q I1 r1 q1) (he _)
theorem op_add_str:dE X (binaryOp .Add) (λx y H Q=>∃i j,x=.str i/\y=.str j/\i.length+j.length<=sizeLine/\Q (.str (i++j)) H):=by
 rintro pins s Z H x y v u Q I rx ry ⟨i,j,rfl,rfl,hz,q⟩;obtain⟨t,rfl⟩:=rx;obtain⟨t',rfl⟩:=ry;exact add_str (λt' tk=>⟨.str (i++j),H,I.tok _,⟨_,rfl⟩,q⟩) hz
theorem dZ{x:V}(r:aU [x] us):∃u,us=[u]/\aP x u:=by
 cases r with
 | cons r1 r2=>cases r2;exact⟨_,rfl,r1⟩
theorem rK{x:V}(r:aU [x,y] us):∃u w',us=[u,w']/\aP x u/\aP y w':=by
 cases r with
 | cons r1 r2=>
  cases r2 with
  | cons r3 r4=>cases r4;exact⟨_,_,rfl,r1,r3⟩
theorem ko:cM X (.builtin "abs") (λxs H Q=>∃i,xs=[.int i]/\Q (.int (if i < 0 then -i else i)) H):=by
 rintro pins s Z H xs us Q I r ⟨i,rfl,q⟩;obtain⟨u,rfl,t,rfl⟩:=dZ r;exact call_abs_int λu tk=>⟨.int (if i < 0 then -i else i),H,I.tok _,⟨_,rfl⟩,q⟩
theorem ya(hc:X.calm=true):cM X (.builtin "min") (λxs H Q=>∃i j,xs=[.int i,.int j]/\Q (.int (if j < i then j else i)) H):=by
 rintro pins s Z H xs us Q I r ⟨i,j,rfl,q⟩;obtain⟨u,w',rfl,⟨t,rfl⟩,⟨t',rfl⟩⟩:=rK r;refine min_two_ints (I.ok.hd hc) λh' tk k=>⟨_,H,I.kept k,?_,q⟩
 by_cases hj:j < i
 ·rw [if_pos hj,if_pos hj];exact⟨_,rfl⟩
 ·rw [if_neg hj,if_neg hj];exact⟨_,rfl⟩
theorem x8:cM X (.type "int") (λxs H Q=>(∃i,xs=[.int i]/\Q (.int i) H)\/∃k,xs=[.bl k]/\Q (.int (if k then 1 else 0)) H):=by
 intro pins s Z H xs us Q I r h;rcases h with⟨i,rfl,q⟩ | ⟨k,rfl,q⟩
 ·obtain⟨u,rfl,t,rfl⟩:=dZ r
  exact call_int_int ⟨.int i,H,I,⟨_,rfl⟩,q⟩
 ·obtain⟨u,rfl,r1⟩:=dZ r
  cases r1;exact call_int_bool ⟨.int (if k then 1 else 0),H,I.tok _,⟨_,rfl⟩,q⟩
theorem call_str_int:cM X (.type "str") (λxs H Q=>∃i,xs=[.int i]/\i.natAbs.log2 < 1920/\Q (.str (toString i)) H):=by
 rintro pins s Z H xs us Q I r ⟨i,rfl,hz,q⟩;obtain⟨u,rfl,t,rfl⟩:=dZ r;exact PySem.P.str_of_int hz ⟨.str _,H,I.tok _,⟨_,rfl⟩,q⟩
theorem iW:cM X (.builtin "divmod") (λxs H Q=>∃i j,xs=[.int i,.int j]/\Fz i j/\∀p,H p=none->Q (.ref p) (upd H p (.tup [.int (i / j),.int (i % j)]))):=by
 rintro pins s Z H xs us Q I r ⟨i,j,rfl,⟨h1,h2⟩,q⟩;obtain⟨u,w',rfl,⟨t,rfl⟩,⟨t',rfl⟩⟩:=rK r;refine divmod_int () ?_ (.inl (PyProof.noPylong_small ()));rw [aj8 i (),aj9 i ()];have hn:H s.heap.objs.size=none:=I.hok.fresh (aa7 _);refine⟨.ref s.heap.objs.size,_,?_,rfl,q _ hn⟩;refine I.laid (λb o e=>aa4 _ e) (aa7 _) ⟨by simp only [ac7,an0];rw [sizeLine_eq];decide,[.int (i / j) s.toks,.int (i % j) (s.toks+1)],.cons ⟨_,rfl⟩ (.cons ⟨_,rfl⟩ .nil),?_⟩;exact⟨_,aa8 s.heap rfl,rfl,0,rfl⟩
end
structure vk(h:Heap)(x dx C:Addr)(mA:Str->Option Value):Prop where
 obj:h.get? x=some (instObj C dx)
 ns:h.Ns1 dx mA
 ne:dx≠x
theorem yA(n:h.Ns1 dx mA):∃od,h.get? dx=some od/\∀name,PySem.W.lookIn name od=some (mA name):=by
 obtain⟨o,es,ep,ho,hd,hk,_,hm⟩:=n;refine⟨o,ho,λname=>?_⟩;have e:=hm name;unfold nsFind findBy at e;rw [<-Array.find?_toList]at e;unfold PySem.W.lookIn;rw [hd];dsimp only
 split
 ·rename_i y q
  rw [q]at e;exact congrArg some e
 ·rename_i q
  rw [q]at e
  have a:es.toList.any (·.refKey)=false:=by
   rw [List.any_eq_false];intro y hy;obtain⟨z,t,hkey⟩:=hk y (Array.mem_toList_iff.mp hy);simp [DictEntry.refKey,hkey]
  have a':¬es.toList.any (·.refKey)=true:=by rw [a];exact ab3
  rw [if_neg a'];exact congrArg some e
theorem vk.look{x:Addr}(I:vk h x dx C mA):∃od,PySem.W.InstAt h x (instObj C dx) C (some od)/\∀name,PySem.W.lookIn name od=some (mA name):=
 let ⟨od,ho,hl⟩:=yA I.ns
 ⟨od,⟨I.obj,rfl,rfl,ho⟩,hl⟩
section
variable {prog:Program} {x:Addr} {name:Str} {v:Value}
theorem Ck{expr:Bool}(X:K.In s.heap)(I:vk s.heap x dx C mA)(hg:PySem.W.plainGet K C name=true)(hh:PySem.W.hasDictIn K C=true)
  (ha:findIn K (.ref C) name=some none) (hv:mA name=some v) (hv':PySem.W.handedIn v=true) (h:Q v { s with toks:=s.toks+1 }) :
  wpAny (model prog w) A (getAttr (.ref x) name expr) Q E s:=by
 obtain⟨od,J,hl⟩:=I.look;exact PySem.W.get_value X J (PySem.W.plainGet_of hg).1 (PySem.W.findObj_own hh ha rfl (by rw [hl,hv])) hv' h
theorem zW{pl:Sem Bool}{Q:Value×List Value->Shared->Prop}(X:K.In s.heap)(I:vk s.heap x dx C mA)(hg:PySem.W.plainGet K C name=true)
  (hf:findIn K (.ref C) name=some (some (.ref f))) (ht:PySem.W.isFn K (.ref f)=true) (hv:mA name=none) (h:Q (.ref f,[.ref x]) s) :
  wpAny (model prog w) A (getMethod (.ref x) name pl) Q E s:=by
 obtain⟨od,J,hl⟩:=I.look
 exact PySem.W.method_fn X J (PySem.W.plainGet_of hg).1 (PySem.W.plainGet_of hg).2 hf (beq_iff_eq.mp ht) (by show(PySem.W.lookIn name od).map (·.isSome)=some false;rw [hl,hv];rfl) h
theorem Du{ns:List Str}{Q:Unit->Shared->Prop}(X:K.In s.heap)(I:vk s.heap x dx C mA)
  (hs:findIn K (.ref C) "__setattr__"=some (some (.builtin "object.__setattr__"))) (hp:PySem.W.plainOver K C=true) (ht:PySem.W.takerIn K C name=some none) (hh:PySem.W.hasDictIn K C=true)
  (hw:PySem.Within mA ns) (hsz:ns.length<=sizeLine)
  (h:∀h',vk h' x dx C (λy=>if y=name then some v else mA y)->Heap.SameBut dx s.heap h'->Q Unit.unit { s with heap:=h',toks:=s.toks+2 }) :
  wpAny (model prog w) A (setAttr (.ref x) name v) Q E s:=by
 obtain⟨od,J,hl⟩:=I.look;refine PySem.W.set_plain X J hs (PySem.W.osa_open (s:={ s with toks:=s.toks+1 }) (r:=none) X J hp ht λb=>?_);obtain⟨cd,hc,hd'⟩:=PySem.W.any_some hh;have hx:s.heap.get? x=some ⟨.ref C,some dx,.plain,#[]⟩:=I.obj;refine aa0 (aa6 (aa0 (aa0 (wpAny_loadPart hx (aa0 (PySem.W.Looks.here (s:={ s with toks:=s.toks+1 }) (PySem.W.looks_clsIn X hc) ?_))))));rw [hd'];refine aa6 (a:=some dx) (aa0 (aa6 (aa0 ?_)));refine wpAny_nsSet1 (s:={ s with toks:=s.toks+1 }) I.ns λh' hn2 hs2=>?_;obtain⟨oD,esD,epD,hoD,hdD,hcD⟩:=hn2.count (PySem.Within.cons name v hw);refine aa0 (wpAny_lookBehind hoD (by rw [hdD];exact pastItsLine_dict (ac2 hcD (by rw [ac7];omega))) ?_);exact aa6 (h _ ⟨(hs2.2 _ (Ne.symm I.ne)).trans I.obj,hn2,I.ne⟩ hs2)
theorem Au{R:Result->Shared->Prop}{vs:List Value}(X:K.In s.heap)(hm:PySem.W.makesIn K C=true)
  (hi:findIn K (.ref C) "__init__"=some (some (.ref f))) (hf:PySem.W.typeIn K (.ref f)=some (.type "function"))
  (h:codeAny (model prog w) (A.under (.builtin "type.__call__" ⟨.ref C::vs,kw⟩)) (.call (.ref f) ⟨.ref (s.heap.objs.size+1)::vs,kw⟩) (PySem.W.InitBack (s.heap.objs.size+1) R)
   { s with heap:=(s.heap.push emptyDict).push (instObj C s.heap.objs.size) }) :
  codeAny (model prog w) A (.call (.ref C) ⟨vs,kw⟩) R s:=by
 obtain⟨hh,g,d,t,os⟩:=s;exact PySem.W.make_core (PySem.W.makes_of X hm) (PySem.W.looks_findIn X hi) (λself=>PySem.W.bind_fn X self hf) (.inl rfl) h
end
def br(f:Str)(v:V):List (Str×V)->List (Str×V)
 | []=>[(f,v)]
 | (g,x)::r=>if g=f then(g,v)::r else(g,x)::br f v r
theorem i0(f g:Str)(v:V):∀fs:List (Str×V),(br f v fs).lookup g=if g=f then some v else fs.lookup g
 | []=>by
  show List.lookup g [(f,v)]=_
  by_cases h:g=f
  ·have hb:(g == f)=true:=beq_iff_eq.mpr h
   simp only [List.lookup,hb,if_pos h]
  ·have hb:(g == f)=false:=beq_eq_false_iff_ne.mpr h
   simp only [List.lookup,hb,if_neg h]
 | (k,x)::r=>by
  have ih:=i0 f g v r;rw [show br f v ((k,x)::r)=(if k=f then(k,v)::r else(k,x)::br f v r)from rfl]
  by_cases hk:k=f
  ·rw [if_pos hk]
   by_cases h:g=k
   ·have hb:(g == k)=true:=beq_iff_eq.mpr h
    simp only [List.lookup,hb,if_pos (h.trans hk)]
   ·have hb:(g == k)=false:=beq_eq_false_iff_ne.mpr h
    simp only [List.lookup,hb,if_neg (λe:g=f=>h (e.trans hk.symm))]
  ·rw [if_neg hk]
   by_cases h:g=k
   ·have hb:(g == k)=true:=beq_iff_eq.mpr h
    simp only [List.lookup,hb,if_neg (λe:g=f=>hk (h.symm.trans e))]
   ·have hb:(g == k)=false:=beq_eq_false_iff_ne.mpr h
    simp only [List.lookup,hb];exact ih
theorem lH(f:Str)(v:V):∀fs:List (Str×V),f∈(br f v fs).map (·.1)/\∀g,g∈fs.map (·.1)->g∈(br f v fs).map (·.1)
 | []=>⟨by simp [br],λg h=>by simp at h⟩
 | (k,x)::r=>by
  obtain⟨i1,i2⟩:=lH f v r;rw [show br f v ((k,x)::r)=(if k=f then(k,v)::r else(k,x)::br f v r)from rfl]
  by_cases hk:k=f
  ·rw [if_pos hk]
   subst hk;exact⟨by simp,λg h=>by simpa using h⟩
  ·rw [if_neg hk]
   refine⟨?_,λg h=>?_⟩
   ·rw [ad5]
    exact ad8 _ i1
   ·rw [ad5]at h |-
    rcases ab0.mp h with e | e
    ·exact ab0.mpr (.inl e)
    ·exact ad8 _ (i2 g e)
theorem bE(f:Str)(v:V):∀fs:List (Str×V),(br f v fs).length<=fs.length+1
 | []=>by simp [br]
 | (k,x)::r=>by
  have ih:=bE f v r;rw [show br f v ((k,x)::r)=(if k=f then(k,v)::r else(k,x)::br f v r)from rfl]
  by_cases hk:k=f
  ·rw [if_pos hk,ac7,ac7];omega
  ·rw [if_neg hk,ac7,ac7];omega
theorem pI.some_of{o:Option Value}(r:pI (some v) o):∃u,o=some u/\aP v u:=by
 cases o with
 | none=>exact(show False from r).elim
 | some u=>exact⟨u,rfl,r⟩
theorem pI.none_of{o:Option Value}(r:pI none o):o=none:=by
 cases o with
 | none=>rfl
 | some u=>exact(show False from r).elim
theorem yr(r:aP v u):PySem.W.handedIn u=true:=by
 cases v with
 | non=>cases(show u=Value.none from r);rfl
 | bl b=>cases(show u=Value.bool b from r);rfl
 | int i=>obtain⟨t,e⟩:=(show ∃t,u=Value.int i t from r);cases e;rfl
 | str x=>obtain⟨t,e⟩:=(show ∃t,u=Value.str x t from r);cases e;rfl
 | byt b=>obtain⟨t,e⟩:=(show ∃t,u=Value.bytes b t from r);cases e;rfl
 | flt b=>obtain⟨t,e⟩:=(show ∃t,u=Value.float b t from r);cases e;rfl
 | ref a=>cases(show u=Value.ref a from r);rfl
 | ty n=>cases(show u=Value.type n from r);rfl
section
variable {fs fs':List (Str×V)}
theorem m9(hok:j4 P w H h)(e:H a=some (.ins C dx fs)):∃mA,vk h a dx C mA/\(∀f,pI (fs.lookup f) (mA f))/\PySem.Within mA (fs.map (·.1))/\fs.length<=1000/\H dx=some (.own a):=by
 obtain⟨d,z,ne,ob,mA,n,r,q⟩:=(show dk P w H h a (.ins C dx fs)from hok a _ e);exact⟨mA,⟨ob,n,ne⟩,r,q,z,d⟩
end
structure vc(K:Frag)(C:Addr):Prop where
 pg:PySem.W.plainGet K C Str.empty=true
 hd:PySem.W.hasDictIn K C=true
 po:PySem.W.plainOver K C=true
 sa:findIn K (.ref C) "__setattr__"=some (some (.builtin "object.__setattr__"))
theorem vc.get(c:vc K C)(f:Str):PySem.W.plainGet K C f=true:=c.pg
def NoAttr(K:Frag)(C:Addr)(f:Str):Prop:=findIn K (.ref C) f=some none
theorem NoAttr.taker{f:Str}(n:NoAttr K C f):PySem.W.takerIn K C f=some none:=by
 unfold PySem.W.takerIn;rw [show findIn K (.ref C) f=some none from n];rfl
structure Ec(K:Frag)(C:Addr)(m:Str)(f:Addr):Prop where
 at_:findIn K (.ref C) m=some (some (.ref f))
 fn:PySem.W.isFn K (.ref f)=true
 kp:keepIn K (.ref f)=true
section
variable {fs:List (Str×V)} {f:Str}
theorem vA{b:Bool}(I:aK X pins Z H s)(e:H a=some (.ins C dx fs))(c:vc X.K C)(n:NoAttr X.K C f)(l:fs.lookup f=some v)
  (h:∀u s',aK X pins Z H s'->aP v u->Q u s'):wpAny (model X.prog X.w) A (getAttr (.ref a) f b) Q E s:=by
 obtain⟨mA,O,r,_,_,_⟩:=m9 I.hok e;obtain⟨u,hu,ru⟩:=pI.some_of (v:=v) (o:=mA f) (by rw [<-l];exact r f);exact Ck I.kIn O (c.get f) c.hd n hu (yr ru) (h u _ (I.tok _) ru)
theorem nP{g:Addr}{pl:Sem Bool}{Q:Value×List Value->Shared->Prop}(I:aK X pins Z H s)(e:H a=some (.ins C dx fs))(c:vc X.K C)(k:Ec X.K C m g)(l:fs.lookup m=none)
  (h:Q (.ref g,[.ref a]) s):wpAny (model X.prog X.w) A (getMethod (.ref a) m pl) Q E s:=by
 obtain⟨mA,O,r,_,_,_⟩:=m9 I.hok e;have hn:mA m=none:=pI.none_of (by rw [<-l];exact r m);exact zW I.kIn O (c.get m) k.at_ k.fn hn h
theorem wt{Q:Unit->Shared->Prop}(I:aK X pins Z H s)(e:H a=some (.ins C dx fs))(c:vc X.K C)(n:NoAttr X.K C f)(hl:fs.length < 1000)(ry:aP y u)
  (h:∀s',aK X pins Z (upd H a (.ins C dx (br f y fs))) s'->Q Unit.unit s'):wpAny (model X.prog X.w) A (setAttr (.ref a) f u) Q E s:=by
 obtain⟨mA,O,r,wi,_,ho⟩:=m9 I.hok e
 have hz:(fs.map (·.1)).length<=sizeLine:=by rw [aa1,sizeLine_eq];omega
 refine Du I.kIn O c.sa c.po n.taker c.hd wi hz λh' O' sb=>h _ ?_
 have hd:∃o,h'.get? dx=some o:=let ⟨o,_,_,e',_⟩:=O'.ns;⟨o,e'⟩
 refine I.write (x:=a) (e:=dx) (by rw [e];exact True.intro) (.inr ho) (λb q hb z=>(sb.2 b hb).trans z) hd ?_;refine⟨by rw [aj O.ne];exact ho,?_,O.ne,O'.obj,_,O'.ns,λg=>?_,λg hg=>?_⟩
 ·have:=bE f y fs;omega
 ·show pI ((br f y fs).lookup g) (if g=f then some u else mA g)
  rw [i0]
  by_cases q:g=f
  ·rw [if_pos q,if_pos q];exact ry
  ·rw [if_neg q,if_neg q];exact r g
 ·by_cases q:g=f
  ·rw [q];exact(lH f y fs).1
  ·refine(lH f y fs).2 g (wi g λz=>hg ?_)
   show(if g=f then some u else mA g)=none;rw [if_neg q];exact z
theorem aK.made(I:aK X pins Z H s):aK X pins Z (upd (upd H s.heap.objs.size (.own (s.heap.objs.size+1))) (s.heap.objs.size+1) (.ins C s.heap.objs.size []))
  { s with heap:=(s.heap.push emptyDict).push (instObj C s.heap.objs.size) }:=by
 have e1:(s.heap.push emptyDict).get? s.heap.objs.size=some emptyDict:=aa8 s.heap rfl
 have e2:((s.heap.push emptyDict).push (instObj C s.heap.objs.size)).get? (s.heap.objs.size+1)=some (instObj C s.heap.objs.size):=by
  have:=aa8 (s.heap.push emptyDict) (o:=instObj C s.heap.objs.size) rfl
  rwa [af2]at this
 have e3:(s.heap.push emptyDict).Ns s.heap.objs.size (λ_=>none):=⟨emptyDict,#[],_,e1,rfl,(λe he=>absurd he (by simp)),λ_=>rfl⟩;have I1:=I.laid (a:=s.heap.objs.size) (o:=.own (s.heap.objs.size+1)) (h':=s.heap.push emptyDict) (t':=s.toks) (λb u q=>aa4 _ q) (aa7 _) ⟨_,e1⟩;refine I1.laid (a:=s.heap.objs.size+1) (o:=.ins C s.heap.objs.size []) (t':=s.toks) (λb u q=>aa4 _ q) (Nat.le_of_eq (af2 _ _)) ?_;have ne:s.heap.objs.size≠s.heap.objs.size+1:=ac0 (ak3 _);refine⟨by rw [aj ne,ae],ac1 _,ne,e2,λ_=>none,(Heap.Ns1.of_empty e3).at λo q=>aa4 _ q,λ_=>True.intro,λy hy=>absurd rfl hy⟩
theorem B7{prog:Program}{env:Env}{f:Str}(hb:attributeBase e f env (eval e env)=eval e env)
  (h:wpAny (model prog w) A (eval e env) (λo Zf=>wpAny (model prog w) A (getAttr o f true) Q E Zf) E s):wpAny (model prog w) A (eval (.Attribute e f pos) env) Q E s:=
 Attribute_any_ h (by rw [arm_eval_Attribute,hb])
end
def Gv(K:Frag)(ta:TE)(f:Str):TE:=λZ H Q=>ta Z H λx H1=>∃a C dx fs v,x=.ref a/\H1 a=some (.ins C dx fs)/\vc K C/\NoAttr K C f/\fs.lookup f=some v/\Q v H1
def Gq(K:Frag)(ta tv:TE)(f:Str):TS:=λD Z H=>tv Z H λy H1=>ta Z H1 λx H2=>∃a C dx fs,x=.ref a/\H2 a=some (.ins C dx fs)/\vc K C/\NoAttr K C f/\fs.length < 1000/\
 D.nx Z (upd H2 a (.ins C dx (br f y fs)))
section
variable {o value:Expr} {f:Str} {tpos:Pos} {tv:TE}
theorem aL(he:PE X e ta)(hb:attributeBase e f X.env (eval e X.env)=eval e X.env):PE X (.Attribute e f pos) (Gv X.K ta f):=by
 intro pins s Z H Q I h;refine B7 hb (cH (he pins s Z H _ I h) λu s1 zq0=>?_);obtain⟨x,H1,I1,rx,a,C,dx,fs,v,ex,ea,c,n,l,q⟩:=zq0;subst ex;obtain rfl:u=Value.ref a:=rx;exact vA I1 ea c n l λu' s2 I2 ru=>⟨v,H1,I2,ru,q⟩
theorem bM(ha:PE X o ta)(hv:PE X value tv)(hs:swapsWith value (some (.Attribute o f pos')) pos.line X.env=pure false):PS X (.Assign [.Attribute o f pos'] value pos) (Gq X.K ta tv f):=by
 intro pins s Z H D I h;refine plainObj_wpAny_Assign_Attribute (cH (hv pins s Z H _ I h) λu s1 ⟨y,H1,I1,ry,q⟩=>cH (ha pins s1 Z H1 _ I1 q) λov s2 zq0=>?_) hs;obtain⟨x,H2,I2,rx,a,C,dx,fs,ex,ea,c,n,l,q2⟩:=zq0;subst ex;obtain rfl:ov=Value.ref a:=rx;exact wt I2 ea c n l ry λs3 I3=>⟨Z,_,I3,q2⟩
end
section
variable {c:Value} {b:Bool}
inductive kh(K:Frag)(H:Hp):V->Value->Prop where
 | non:kh K H .non (.type "NoneType")
 | bl (x:Bool):kh K H (.bl x) (.type "bool")
 | int (i:Int):kh K H (.int i) (.type "int")
 | str (x:Str):kh K H (.str x) (.type "str")
 | flt (x:UInt64):kh K H (.flt x) (.type "float")
 | lst {a:Addr} {xs:List V} (e:H a=some (.lst xs)):kh K H (.ref a) (.type "list")
 | frz {a:Addr} {o:Obj} {xs:List V} (e:H a=some (.frz o (.lst xs))):kh K H (.ref a) (.type "list")
 | tup {a:Addr} {xs:List V} (e:H a=some (.tup xs)):kh K H (.ref a) (.type "tuple")
 | dK {a:Addr} {kvs:List (tM×V)} (e:H a=some (.dK kvs)):kh K H (.ref a) (.type "dict")
 | dT {a:Addr} {kvs:List (List tM×V)} (e:H a=some (.dT kvs)):kh K H (.ref a) (.type "dict")
 | ins {a C dx:Addr} {fs:List (Str×V)} (e:H a=some (.ins C dx fs)) (cl:vc K C) (ha:findIn K (.ref C) "__class__"=some (some (.builtin "object.__class__")))
   (hn:PySem.W.specialIn K (.builtin "object.__class__") "__get__"=some (some (.builtin "getset_descriptor.__get__"))) (htk:PySem.W.takesIn K (.builtin "object.__class__")=some true)
   (hm:PySem.W.mroIn K C (.type "object")=some true):kh K H (.ref a) (.ref C)
theorem yx{x:V}{t:Value}(I:aK X pins Z H s)(rx:aP x u)(ty:kh X.K H x t)(e:PySem.W.kitOne X.K t c=some b)(h:∀tk,Q (.bool b) { s with toks:=tk }):
  wpAny (model X.prog X.w) A (call (.builtin "isinstance") [u,c]) Q E s:=by
 cases ty with
 | non=>cases(show u=Value.none from rx);exact kia_one PySem.W.kitx_none I.kIn True.intro e (λz=>nomatch z) h
 | bl y=>cases(show u=Value.bool y from rx);exact kia_one PySem.W.kitx_bool I.kIn True.intro e (λz=>nomatch z) h
 | int i=>obtain⟨t,q⟩:=(show ∃t,u=Value.int i t from rx);cases q;exact kia_one PySem.W.kitx_int I.kIn True.intro e (λz=>nomatch z) h
 | str y=>obtain⟨t,q⟩:=(show ∃t,u=Value.str y t from rx);cases q;exact kia_one PySem.W.kitx_str I.kIn True.intro e (λz=>nomatch z) h
 | flt y=>obtain⟨t,q⟩:=(show ∃t,u=Value.float y t from rx);cases q;exact kia_one PySem.W.kitx_float I.kIn True.intro e (λz=>nomatch z) h
 | @lst a xs ea=>
  cases(show u=Value.ref a from rx);obtain⟨_,_,n,_,h1⟩:=(show dk X.prog X.w H s.heap a (.lst xs)from I.hok a _ ea);exact kia_one PySem.W.kitx_list I.kIn ⟨_,h1,rfl⟩ e (λz=>nomatch z) h
 | @frz a ob xs ea=>
  cases(show u=Value.ref a from rx);obtain⟨_,_,_,n,_,h1⟩:=(show dk X.prog X.w H s.heap a (.frz ob (.lst xs))from I.hok a _ ea);exact kia_one PySem.W.kitx_list I.kIn ⟨_,h1,rfl⟩ e (λz=>nomatch z) h
 | @tup a xs ea=>
  cases(show u=Value.ref a from rx);obtain⟨_,_,_,p⟩:=(show dk X.prog X.w H s.heap a (.tup xs)from I.hok a _ ea);obtain⟨o,h1,h2,_⟩:=p;exact kia_one PySem.W.kitx_tuple I.kIn ⟨o,h1,h2⟩ e (λz=>nomatch z) h
 | @dK a kvs ea=>
  cases(show u=Value.ref a from rx);obtain⟨_,_,vs,_,p⟩:=(show dk X.prog X.w H s.heap a (.dK kvs)from I.hok a _ ea);obtain⟨o,es,ep,h1,h2,_⟩:=p;exact kia_one PySem.W.kitx_dict I.kIn ⟨o,h1,h2.1⟩ e (λz=>nomatch z) h
 | @dT a kvs ea=>
  cases(show u=Value.ref a from rx);obtain⟨_,_,xs,_,o,es,ep,h1,h2,_⟩:=(show dk X.prog X.w H s.heap a (.dT kvs)from I.hok a _ ea);exact kia_one PySem.W.kitx_dict I.kIn ⟨o,h1,h2.1⟩ e (λz=>nomatch z) h
 | @ins a C dx fs ea cl ha hn htk hm=>
  cases(show u=Value.ref a from rx);obtain⟨mA,O,_⟩:=m9 I.hok ea;obtain⟨od,J,_⟩:=O.look;exact kia_one (PySem.W.kitx_own (cl.get _) cl.hd ha hn htk hm) I.kIn J e (λz=>nomatch z) h
end
structure dv(k:Nat)(A:Around):Prop where
 hd:A.handled=none
 dp:A.depth+3 * k+5 < recursionLimit
 un:A.units+16 * k+200 < cLine
theorem dv.mono(r:dv k A)(h:j<=k):dv j A:=⟨r.hd,by have:=r.dp;omega,by have:=r.un;omega⟩
theorem dv.deeper(r:dv (k+1) A)(env:Env):dv k (A.deeper env):=
 ⟨r.hd,by have:=r.dp;show A.depth+1+3 * k+5 < _;omega,by have:=r.un;show A.units+3+16 * k+200 < _;omega⟩
theorem vE:(A.under (.builtin "type.__call__" ⟨.ref C::us,kw⟩)).depth=A.depth+1:=by
 first | rfl | simp [Around.under,Code.weight,Code.isCreation,Code.isGuard,Code.isCaller,Code.frames,Code.isFrame,guardIds]
theorem vF:(A.under (.builtin "type.__call__" ⟨.ref C::us,kw⟩)).units=A.units+1:=by
 first | rfl | simp [Around.under,Code.cUnits,Code.frames,Code.isFrame]
theorem dv.make(r:dv (k+1) A)(C:Addr)(us:List Value)(kw:List (Str×Value)):dv k (A.under (.builtin "type.__call__" ⟨.ref C::us,kw⟩)):=
 ⟨r.hd,by have:=r.dp;rw [vE];omega,by have:=r.un;rw [vF];omega⟩
theorem dv.depth(r:dv k A):A.depth < recursionLimit:=by have:=r.dp;omega
theorem dv.units(r:dv k A):A.units+64 < cLine:=by have:=r.un;omega
def va:TA:=λ_ H Q=>Q [] H
def pA(ta:TE)(tr:TA):TA:=λZ H Q=>ta Z H λx H1=>tr Z H1 λxs H2=>Q (x::xs) H2
theorem ag:PA X [] va:=λ_ _ _ _ H Q I h=>Calls.spliced_nil ⟨[],H,I,.nil,h⟩
theorem aa(ha:PE X e te)(hr:PA X es t)(hs:starEach (e::es) X.env=(false,eval e X.env)::starEach es X.env:=by rfl):PA X (e::es) (pA te t):=by
 intro pos pins s Z H Q I h;rw [hs];show wpAny _ _ (spliced ((false,eval e X.env)::backTo pos (starEach es X.env))) _ _ s;refine Calls.spliced_cons (cH (ha pins s Z H _ I h) λu s1 zq0=>?_);obtain⟨x,H1,I1,r1,q1⟩:=zq0;exact cH (hr pos pins s1 Z H1 _ I1 q1) λus s2 ⟨xs,H2,I2,r2,q2⟩=>⟨x::xs,H2,I2,.cons r1 r2,q2⟩
def Gy(t:TA):TE:=λZ H Q=>t Z H λxs H1=>xs.length<=sizeLine/\∀p,H1 p=none->Q (.ref p) (upd H1 p (.tup xs))
def Gx(t:TA):TE:=λZ H Q=>t Z H λxs H1=>xs.length<=sizeLine/\∀p,H1 p=none->Q (.ref p) (upd H1 p (.lst xs))
theorem gw{x1}(h:PA X es t):PE X (.Tuple es x1 pos) (Gy t):=by
 intro pins s Z H Q I hq;refine wpAny_Tuple_spliced (cH (h pos pins s Z H _ I hq) λus s1 ⟨xs,H1,I1,r,z,q⟩=>⟨by rw [<-r.length];exact z,?_⟩);have hf:H1 s1.heap.objs.size=none:=I1.hok.fresh (aa7 _);refine⟨.ref s1.heap.objs.size,upd H1 s1.heap.objs.size (.tup xs),I1.laid (t':=s1.toks) (λb u e=>aa4 _ e) (aa7 _) ?_,rfl,q _ hf⟩;exact⟨z,us,r,⟨_,aa8 _ rfl,rfl,_,rfl⟩⟩
theorem bu(h:PA X es t):PE X (.List es pos) (Gx t):=by
 intro pins s Z H Q I hq;refine wpAny_List_spliced (cH (h pos pins s Z H _ I hq) λus s1 ⟨xs,H1,I1,r,z,q⟩=>⟨by rw [<-r.length];exact z,?_⟩);have hf:H1 s1.heap.objs.size=none:=I1.hok.fresh (aa7 _);refine⟨.ref s1.heap.objs.size,upd H1 s1.heap.objs.size (.lst xs),I1.laid (t':=s1.toks) (λb u e=>aa4 _ e) (aa7 _) ?_,rfl,q _ hf⟩;exact⟨z,us,0,r,aa8 _ rfl⟩
abbrev Sp:=List V->Hp->VK->XK->Prop
variable {sp:Sp}
abbrev BM:=List Env->Hp->Shared->XK->Value->Shared->Prop
variable {CX:BM}
structure vh(P:Program)(w:World)(K:Frag)(mg:Str->Option Value)(base:Heap)(A:Around)(outer:List Env)(s:Shared)(H:Hp):Prop where
 frames:A.frames=some outer
 mod:Mod K mg base
 bs:∀b o,base.get? b=some o->s.heap.get? b=some o/\H b=none
 bsz:base.objs.size<=s.heap.objs.size
 funs:s.heap.FunFrames base outer
 frf:∀b∈vd outer,H b=none
 hok:j4 P w H s.heap
 bare:AllBare s.gens
def CE(outer:List Env)(P:Program)(w:World)(H:Hp)(s:Shared)(Q:VK)(u:Value)(s':Shared):Prop:=
 ∃v H',s'.os=s.os/\AllBare s'.gens/\Un (vd outer) [] H H' s.heap s'.heap/\j4 P w H' s'.heap/\aP v u/\Q v H'
def CR(CX:BM)(outer:List Env)(P:Program)(w:World)(H:Hp)(s:Shared)(Q:VK)(E:XK)(r:Result)(s':Shared):Prop:=
 match r with
 | .ok (.ret u)=>CE outer P w H s Q u s'
 | .ok _=>False
 | .error e=>CX outer H s E e s'
structure aG(P:Program)(w:World)(K:Frag)(mg:Str->Option Value)(base:Heap)(CX:BM)(k:Nat)(f:Addr)(fd:FuncData)(ps:List Str)(sp:Sp):Prop where
 len:∀(A:Around) (_:List Env) (_:Shared) vs H Q E,dv k A->sp vs H Q E->vs.length=ps.length
 run:∀(A:Around) (outer:List Env) (s:Shared) (H:Hp) (args:Args) (us:List Value) (vs:List V) (Q:VK) (E:XK),dv k A->vh P w K mg base A outer s H->BindsTo s fd args (ps.zip us)->aU vs us->sp vs H Q E->
  codeAny (model P w) A (.call (.ref f) args) (CR CX outer P w H s Q E) s
theorem aG.mono(F:aG P w K mg base CX j f fd ps sp)(h:j<=k):
  aG P w K mg base CX k f fd ps sp:=⟨λA o s vs H Q E hr=>F.len A o s vs H Q E (hr.mono h),λA outer s H args us vs Q E hr=>F.run A outer s H args us vs Q E (hr.mono h)⟩
theorem aG.imp{sp':Sp}(F:aG P w K mg base CX k f fd ps sp)
  (h:∀vs H Q E,sp' vs H Q E->sp vs H Q E):aG P w K mg base CX k f fd ps sp':=
 ⟨λA o s vs H Q E hr q=>F.len A o s vs H Q E hr (h _ _ _ _ q),λA outer s H args us vs Q E hr he hb hv hs=>F.run A outer s H args us vs Q E hr he hb hv (h _ _ _ _ hs)⟩
theorem vh.make{outer:List Env}(e:vh P w K mg base A outer s H)(C:Addr)(us:List Value)(kw:List (Str×Value)):
  vh P w K mg base (A.under (.builtin "type.__call__" ⟨.ref C::us,kw⟩)) outer s H:=⟨by first | exact e.frames | (simpa [Around.under,Code.envs,Code.isFrame,pushEnvs]using e.frames),e.mod,e.bs,e.bsz,e.funs,e.frf,e.hok,e.bare⟩
theorem aK.env0(I:aK X pins Z H s):vh X.prog X.w X.K X.mg X.base X.A X.stack s H:=
 ⟨I.ok.frames,I.ok.mod,I.bs,ac2 I.ok.bsz I.sz,I.stack,I.stkFree,I.hok,I.bare⟩
theorem aK.after{Q:VK}(I:aK X pins Z H s)(h:CE X.stack X.prog X.w H s Q u s'):EP X pins Z Q u s':=by
 obtain⟨v,H',os,bare,un,hok,r,q⟩:=h;obtain⟨hh,g,d,t,os'⟩:=s';obtain rfl:os'=s.os:=os;exact⟨v,H',I.call (h':=hh) (g':=g) (d':=d) (t':=t) (ch:=[]) un hok bare (λb z=>absurd z (by simp)),r,q⟩
def rH(sp:Sp)(dvs:List V)(E:XK)(t:TA):TE:=λZ H Q=>t Z H λvs H1=>sp (vs++dvs) H1 Q E
def BB(C:Addr)(sp:Sp)(dvs:List V)(E:XK)(t:TA):TE:=λZ H Q=>t Z H λvs H1=>∀x dx,H1 x=none->H1 dx=none->dx≠x->
 sp (.ref x::(vs++dvs)) (upd (upd H1 dx (.own x)) x (.ins C dx [])) (λv H2=>v=.non/\Q (.ref x) H2) E
def dh(K:Frag)(fd:FuncData)(ps:List Str)(ds:List Value):Prop:=
 ∀(s:Shared) (us:List Value),K.In s.heap->(us++ds).length=ps.length->BindsTo s fd ⟨us,[]⟩ (ps.zip (us++ds))
theorem dh.all(h:∀us:List Value,us.length=ps.length->bindArgs fd ⟨us,[]⟩=pure (ps.zip us)):dh K fd ps []:=λs us _ hl=>by
 rw [ag5]at hl |-;exact .of_eq (h us hl)
def nG(CX:BM)(X:Cx)(E:XK):Prop:=∀(pins:List (Addr×Obj)) (Z:St) (H:Hp) (s:Shared) (e:Value) (s':Shared),aK X pins Z H s->CX X.stack H s E e s'->X.xe e s'
section
variable {dvs:List V} {ds:List Value} {E:XK} {apos:Pos} {o:Expr}
theorem oF{Q:VK}(F:aG X.prog X.w X.K X.mg X.base CX k f fd ps sp)(hr:dv k X.A)(hb:dh X.K fd ps ds)(hd:aU dvs ds)(hx:nG CX X E)
  (I:aK X pins Z H s) (r:aU vs us) (h:sp (vs++dvs) H Q E):wpAny (model X.prog X.w) X.A (call (.ref f) us) (EP X pins Z Q) X.xe s:=by
 have r2:aU (vs++dvs) (us++ds):=r.append hd
 have hl:(us++ds).length=ps.length:=by rw [<-r2.length];exact F.len X.A X.stack s _ _ _ _ hr h
 refine wpAny_call (ap0 (F.run X.A X.stack s H ⟨us,[]⟩ (us++ds) (vs++dvs) Q E hr I.env0 (hb s us I.kIn hl) r2 h) λr s' hq=>?_)
 cases r with
 | error e=>exact hx pins Z H s e s' I hq
 | ok fl=>
  cases fl with
  | ret u=>exact I.after hq
  | next=>exact False.elim hq
  | brk=>exact False.elim hq
  | cont=>exact False.elim hq
theorem xx(F:aG X.prog X.w X.K X.mg X.base CX k f fd ps sp)(hr:dv k X.A)(hg:Gl X x)(hm:X.mg x=some (.ref f))(hk:keepIn X.K (.ref f)=true)(hb:dh X.K fd ps ds)(hd:aU dvs ds)(hx:nG CX X E)
  (ha:PA X (e::es) t) (hdb:(x == ("__debug__":Str))=false:=by decide) (he:starEach (e::es) X.env=(false,eval e X.env)::starEach es X.env:=by rfl) (hpl:(backTo pos (starEach es X.env)).any (·.1)=false:=by rfl) :
  PE X (.Call (.Name x p) (e::es) [] pos) (rH sp dvs E t):=by
 intro pins s Z H Q I h;refine ae8 (nj I hg hm ?_ hdb);refine PySem.W.callWith_K (h₀:=X.base) I.ok.mod.kin hk (cH (ha pos pins s Z H _ I h) λus s1 ⟨vs,H1,I1,r,q⟩=>⟨I1.kIn,?_⟩) he hpl;exact oF F hr hb hd hx I1 r q
structure Mk(K:Frag)(C f:Addr):Prop where
 makes:PySem.W.makesIn K C=true
 init:findIn K (.ref C) "__init__"=some (some (.ref f))
 fn:PySem.W.isFn K (.ref f)=true
 kp:keepIn K (.ref C)=true
theorem Bf{Q:VK}(M:Mk X.K C f)(F:aG X.prog X.w X.K X.mg X.base CX k f fd ps sp)(hr:dv (k+1) X.A)(hb:dh X.K fd ps ds)(hd:aU dvs ds)
  (hx:nG CX X E) (I:aK X pins Z H s) (r:aU vs us)
  (h:∀x dx,H x=none->H dx=none->dx≠x->sp (.ref x::(vs++dvs)) (upd (upd H dx (.own x)) x (.ins C dx [])) (λv H2=>v=.non/\Q (.ref x) H2) E) :
  wpAny (model X.prog X.w) X.A (call (.ref C) us) (EP X pins Z Q) X.xe s:=by
 have hq:=h (s.heap.objs.size+1) s.heap.objs.size (I.hok.fresh (Nat.le_succ _)) (I.hok.fresh (aa7 _)) (ac0 (ak3 _));have I2:=aK.made (C:=C) I;have r2:aU (V.ref (s.heap.objs.size+1)::(vs++dvs)) (Value.ref (s.heap.objs.size+1)::(us++ds)):=.cons rfl (r.append hd)
 have hl:(Value.ref (s.heap.objs.size+1)::us++ds).length=ps.length:=by
  have e:=r2.length;rw [F.len _ X.stack s _ _ _ _ (hr.make C us []) hq]at e;exact e.symm
 refine wpAny_call (Au (f:=f) I.kIn M.makes M.init (beq_iff_eq.mp M.fn) (ap0 (F.run _ X.stack _ _ ⟨Value.ref (s.heap.objs.size+1)::us,[]⟩ (Value.ref (s.heap.objs.size+1)::(us++ds)) _ _ E (hr.make C us [])
  (I2.env0.make C us []) (hb _ (Value.ref (s.heap.objs.size+1)::us) I2.kIn hl) r2 hq) λr s' hq'=>?_))
 cases r with
 | error e=>exact hx pins Z _ _ e s' I2 hq'
 | ok fl=>
  cases fl with
  | ret u=>
   obtain⟨v,H',I3,rv,ev,q3⟩:=I2.after hq';subst ev;exact⟨rv,⟨V.ref (s.heap.objs.size+1),H',I3,rfl,q3⟩⟩
  | next=>exact False.elim hq'
  | brk=>exact False.elim hq'
  | cont=>exact False.elim hq'
theorem C5(M:Mk X.K C f)(F:aG X.prog X.w X.K X.mg X.base CX k f fd ps sp)(hr:dv (k+1) X.A)(hg:Gl X x)(hm:X.mg x=some (.ref C))(hb:dh X.K fd ps ds)(hd:aU dvs ds)(hx:nG CX X E)
  (ha:PA X (e::es) t) (hdb:(x == ("__debug__":Str))=false:=by decide) (he:starEach (e::es) X.env=(false,eval e X.env)::starEach es X.env:=by rfl) (hpl:(backTo pos (starEach es X.env)).any (·.1)=false:=by rfl) :
  PE X (.Call (.Name x p) (e::es) [] pos) (BB C sp dvs E t):=by
 intro pins s Z H Q I h;refine ae8 (nj I hg hm ?_ hdb);refine PySem.W.callWith_K (h₀:=X.base) I.ok.mod.kin M.kp (cH (ha pos pins s Z H _ I h) λus s1 ⟨vs,H1,I1,r,q⟩=>⟨I1.kIn,?_⟩) he hpl;exact Bf M F hr hb hd hx I1 r q
end
def PK(X:Cx)(kws:List Keyword)(t:TA):Prop:=
 ∀(pos:Pos) (pins:List (Addr×Obj)) (s:Shared) (Z:St) (H:Hp) (Q:List V->Hp->Prop),aK X pins Z H s->t Z H Q->wpAny (model X.prog X.w) X.A (evalAll ((backToKw pos (keywordEach kws X.env)).map (·.2))) (AP X pins Z Q) X.xe s
section
variable {ks:List Str} {E:XK} {apos kpos:Pos} {o:Expr} {kws:List Keyword} {tk:TA} {nm:Option Str}
theorem EW:PK X [] va:=λ_ _ _ _ H Q I h=>wpAny_evalAll_nil ⟨[],H,I,.nil,h⟩
theorem C9(ha:PE X e te)(hr:PK X kws t):PK X (⟨nm,e,kpos⟩::kws) (pA te t):=by
 intro pos pins s Z H Q I h
 show wpAny _ _ (evalAll ((do let v <-eval e X.env;standAt pos;pure v)::(backToKw pos (keywordEach kws X.env)).map (·.2))) _ _ s
 refine wpAny_evalAll_cons (aa0 (cH (ha pins s Z H _ I h) λu s1 ⟨x,H1,I1,r1,q1⟩=>aa0 (am4 (aa6 ?_))));exact cH (hr pos pins s1 Z H1 _ I1 q1) λus s2 ⟨xs,H2,I2,r2,q2⟩=>⟨x::xs,H2,I2,.cons r1 r2,q2⟩
structure G1(K:Frag)(fd:FuncData)(ps ks:List Str)(g:List Value->List Value->List Value)(gV:List V->List V->List V):Prop where
 to:∀(s:Shared) (us ws:List Value),K.In s.heap->(g us ws).length=ps.length->BindsTo s fd ⟨us,ks.zip ws⟩ (ps.zip (g us ws))
 rel:∀{vs:List V} {us:List Value} {zs:List V} {ws:List Value},aU vs us->aU zs ws->aU (gV vs zs) (g us ws)
variable {g:List Value->List Value->List Value} {gV:List V->List V->List V}
end
structure aw(N P:List Str)(sc:Scope):Prop where
 kind:sc.kind=.function
 co:sc.isCoroutine=false
 gen:sc.isGenerator=false
 nd:N.Nodup
 pre:N.take P.length=P
 par:∀x∈P,sc.names.lookup x=some .local\/sc.names.lookup x=some .cell
 nofree:∀y∈sc.names,y.2≠.free
theorem qM:∀{binds:List (Str×Value)} {m:Str->Option Value},(∀v,(x,v)∉binds)->bindL kindOf binds m x=m x
 | [],_,_=>rfl
 | (n,v)::r,m,h=>by
  unfold bindL;rw [qM λw hw=>h w (ad8 _ hw)]
  split
  ·have:x≠n:=by rintro rfl;exact h v ad6
   simp [this]
  ·rfl
theorem qK:∀{binds:List (Str×Value)} {m:Str->Option Value},(∀v,(x,v)∉binds)->bindC kindOf binds m x=m x
 | [],_,_=>rfl
 | (n,v)::r,m,h=>by
  unfold bindC;rw [qK λw hw=>h w (ad8 _ hw)]
  split
  ·rfl
  ·have:x≠n:=by rintro rfl;exact h v ad6
   simp [this]
theorem qL{kindOf:Str->Option NameKind}{x:Str}{v:Value}:∀{P:List Str} {vs:List Value} {i:Nat} {m:Str->Option Value},P.Nodup->P[i]?=some x->vs[i]?=some v->kindOf x=some .local->
  bindL kindOf (P.zip vs) m x=some v
 | [],_,_,_,_,h,_,_=>by simp at h
 | _::_,[],_,_,_,_,h,_=>by simp at h
 | p::P,w::vs,0,m,nd,h1,h2,hk=>by
  simp at h1 h2;subst h1;subst h2;show bindL kindOf ((p,w)::P.zip vs) m p=_;unfold bindL;rw [qM λv hv=>(ai3.mp nd).1 (ap6 hv).1,if_pos hk];simp
 | p::P,w::vs,i+1,m,nd,h1,h2,hk=>by
  show bindL kindOf ((p,w)::P.zip vs) m x=_;unfold bindL;exact qL (i:=i) (ai3.mp nd).2 (by simpa using h1) (by simpa using h2) hk
theorem qJ{kindOf:Str->Option NameKind}{x:Str}{v:Value}:∀{P:List Str} {vs:List Value} {i:Nat} {m:Str->Option Value},P.Nodup->P[i]?=some x->vs[i]?=some v->kindOf x≠some .local->
  bindC kindOf (P.zip vs) m x=some v
 | [],_,_,_,_,h,_,_=>by simp at h
 | _::_,[],_,_,_,_,h,_=>by simp at h
 | p::P,w::vs,0,m,nd,h1,h2,hk=>by
  simp at h1 h2;subst h1;subst h2;show bindC kindOf ((p,w)::P.zip vs) m p=_;unfold bindC;rw [qK λv hv=>(ai3.mp nd).1 (ap6 hv).1,if_neg hk];simp
 | p::P,w::vs,i+1,m,nd,h1,h2,hk=>by
  show bindC kindOf ((p,w)::P.zip vs) m x=_;unfold bindC;exact qJ (i:=i) (ai3.mp nd).2 (by simpa using h1) (by simpa using h2) hk
def start(N:List Str)(vs:List V):St:=vs.map some++List.replicate (N.length - vs.length) none
def tX(CX:BM)(P:Program)(w:World)(K:Frag)(mg:Str->Option Value)(base:Heap)(N:List Str)(qual:Str)(scope:Scope)(f:Addr)(cd:Value)(A:Around)(outer:List Env)(s:Shared)(H:Hp)(E:XK):Cx where
 prog:=P
 w:=w
 K:=K
 mg:=mg
 base:=base
 A:=A.deeper (envOfC qual scope s.heap.objs.size f cd)
 N:=N
 Zh:=s
 Z2:=H
 env:=envOfC qual scope s.heap.objs.size f cd
 outer:=outer
 stack:=envOfC qual scope s.heap.objs.size f cd::outer
 ex:=[]
 calm:=true
 fn:=λ_=>true
 pn:=[]
 xe:=λe s'=>wpAny (model P w) (A.deeper (envOfC qual scope s.heap.objs.size f cd)) (leaving (envOfC qual scope s.heap.objs.size f cd) e) (λ_ s''=>CX outer H s E e s'') (λe' s''=>CX outer H s E e' s'') s'
theorem tT{sc:Scope}(h:sc.names.lookup x=some .cell):∃c,(cellsFrom n sc.names []).lookup x=some c:=by
 have q:=PySem.W.cellsFrom_some sc.names n [] (.inl h);exact Option.isSome_iff_exists.mp q
theorem yu{N:List Str}{qual:Str}{scope:Scope}{cd:Value}{outer:List Env}{s1:Shared}{E:XK}
  (S:aw N ps scope) (hd:A.handled=none) (e0:vh P w K mg base A outer s H) (hl:vs.length=ps.length) (r:aU vs us)
  (x:InCallC s s.heap.objs.size (bindL (envOfC qual scope s.heap.objs.size f cd).kindOf (ps.zip us) λ_=>none) (cellsFrom (s.heap.objs.size+1) scope.names []) (bindC (envOfC qual scope s.heap.objs.size f cd).kindOf (ps.zip us) λ_=>none) s1) :
  aK (tX CX P w K mg base N qual scope f cd A outer s H E) [] (start N vs) H s1:=by
 have hpl:ps.length<=N.length:=by have:=congrArg List.length S.pre;rw [ad1]at this;omega
 obtain⟨h1,tk,rfl,hk⟩:=x.done;have noA:∀b:Addr,b∉(tX CX P w K mg base N qual scope f cd A outer s H E).ex:=λb z=>absurd (show b∈([]:List Addr)from z) (by simp)
 refine⟨⟨e0.mod,S.kind,rfl,rfl,aa7 _,λy z c h1 h2=>?_,λy hy=>?_,λy c _ h=>?_,λ_=>hd,Around.frames_deeper e0.frames,.inr ⟨rfl,rfl⟩,λb z=>absurd z (noA b),e0.bs,e0.bsz,λb _ _=>noA b,λb z=>absurd z (noA b),e0.funs,e0.frf⟩,
  rfl,e0.bare,Un.kept hk,⟨_,x.toInCall.ns,λi y v h1 h2 h3=>?_⟩,λy c h=>⟨_,x.cell y c h⟩,e0.hok.fresh (aa7 _),λy c h=>?_,λp hp=>absurd (show p∈([]:List (Addr×Obj))from hp) (by simp),e0.hok.kept hk,?_⟩
 ·exact name_of_addr x.apart (PySem.mem_of_lookup h1) (PySem.mem_of_lookup h2)
 ·have hy:scope.names.lookup y=some .cell\/scope.names.lookup y=some .free:=hy
  rcases hy with hy | hy
  ·exact tT hy
  ·exact absurd rfl (S.nofree _ (PySem.mem_of_lookup hy))
 ·exact ag9 (x.above y c (PySem.mem_of_lookup h))
 ·have hi:i < vs.length:=by
   unfold start at h2
   by_cases hi:i < vs.length
   ·exact hi
   ·rw [ab9 (by simpa using hi)]at h2
    rw [List.getElem?_replicate]at h2
    split at h2<;>cases h2
  have ha:vs[i]?=some v:=by
   unfold start at h2;rw [ab1 (by simpa using hi),aa5]at h2
   cases e:vs[i]? with
   | none=>rw [e]at h2;cases h2
   | some a=>rw [e]at h2;cases h2;rfl
  obtain⟨u,hu,rv⟩:=r.get ha
  have hp:ps[i]?=some y:=by
   rw [<-S.pre,List.getElem?_take_of_lt ()];exact h1
  have ndP:ps.Nodup:=by rw [<-S.pre];exact S.nd.sublist (List.take_sublist _ _)
  refine⟨u,rv,?_⟩;rcases S.par y (ab8 hp)with k | k
  ·exact .inl ⟨k,qL ndP hp hu k⟩
  ·obtain⟨c,e⟩:=tT (n:=s.heap.objs.size+1) k
   refine .inr ⟨.inl k,c,e,?_⟩;have q:=x.cell y c e;rw [qJ ndP hp hu (by show scope.names.lookup y≠_;rw [k];decide)]at q;exact q
 ·exact e0.hok.fresh (ag9 (x.above y c (PySem.mem_of_lookup h)))
 ·unfold start
  show _=N.length;rw [ab2,aa1,List.length_replicate];omega
theorem DG{name qual:Str}{params:Arguments}{scope:Scope}{dV kV doc pm cdv ct oc:Value}{an od:Option Addr}
  {osl:Array (Option Value)} {N ps:List Str} {sp:Sp} (lk:K.lookup f=some ⟨oc,od,.func (fnOf name qual params body scope dV kV doc pm an cdv ct),osl⟩) (hcd:codeIn K cdv qual=true) (S:aw N ps scope)
  (len:∀(A:Around) (_:List Env) (_:Shared) vs H Q E,dv (k+1) A->sp vs H Q E->vs.length=ps.length)
  (hbody:∀(A:Around) (outer:List Env) (s:Shared) (H:Hp) (vs:List V) (Q:VK) (E:XK),dv k (A.deeper (envOfC qual scope s.heap.objs.size f cdv))->sp vs H Q E->
   ∃t,w8 (tX CX P w K mg base N qual scope f cdv A outer s H E) body t/\t { nx:=λ_ H'=>Q .non H',rt:=Q } (start N vs) H) :
  aG P w K mg base CX (k+1) f (fnOf name qual params body scope dV kV doc pm an cdv ct) ps sp:=by
 refine⟨len,λA outer s H args us vs Q E hr e0 hb r hsp=>?_⟩;have hl:=len A outer s _ _ _ _ hr hsp;have KX:K.In s.heap:=e0.mod.kin.keeps λb o e=>(e0.bs b o e).1;have lim:s.heap.NoLimit:=e0.mod.nolimit.keeps λb o e=>(e0.bs b o e).1
 have hkind:∀y∈ps.zip us,scope.names.lookup y.1=some .local\/(scope.names.lookup y.1=some .cell/\((cellsFrom (s.heap.objs.size+1) scope.names []).lookup y.1).isSome=true):=λ⟨n,v⟩ hy=>by
  rcases S.par n (ap6 hy).1 with q | q
  ·exact .inl q
  ·exact .inr ⟨q,PySem.W.cellsFrom_some _ _ _ (.inl q)⟩
 refine codeAny_call_function hr.depth (KX _ _ lk) rfl S.co S.gen rfl (PySem.W.codeRec_of KX hcd) (hb _ _ _ _ ?_);refine wpAny_newFunctionEnv_cells S.kind hkind λenv he s1 x=>?_;subst he;refine⟨lim.keeps x.toInCall.keep,codeAny_func ?_⟩;obtain⟨t,ht,hq⟩:=hbody A outer s H vs Q E (hr.deeper _) hsp;have I:aK (tX CX P w K mg base N qual scope f cdv A outer s H E) [] (start N vs) H s1:=yu S hr.hd e0 hl r x;refine ag0 (ht [] s1 (start N vs) H _ I hq) (λfl s' hs=>?_) λe s' hs=>hs
 have fin:∀{Zc:St} {H':Hp} {v:V} {u:Value},aK (tX CX P w K mg base N qual scope f cdv A outer s H E) [] Zc H' s'->aP v u->Q v H'->CE outer P w H s Q u s':=
  λ{Zc H' v u} J rv q=>⟨v,H',J.os,J.bare,J.base,J.hok,rv,q⟩
 cases fl with
 | ret u=>
  obtain⟨v,Zc,H',J,rv,q⟩:=hs;exact fin J rv q
 | next=>
  obtain⟨Zc,H',J,q⟩:=hs;exact fin (v:=V.non) (u:=Value.none) J rfl q
 | brk=>
  obtain⟨_,_,_,q⟩:=hs;exact False.elim q
 | cont=>
  obtain⟨_,_,_,q⟩:=hs;exact False.elim q
section
variable {id T:String} {r:List V->Hp->VK->Prop}
def Fe(r:List V->Hp->VK->Prop)(t:TA):TE:=λZ H Q=>t Z H λvs H1=>r vs H1 Q
theorem aA(hc:cM X (.builtin id) r)(hg:Gl X x)(hm:X.mg x=none)(hv:bootBuiltins x=some (.builtin id))(ha:PA X (e::es) t)(hn:x≠"__name__":=by decide)(hdb:(x == ("__debug__":Str))=false:=by decide)
  (he:starEach (e::es) X.env=(false,eval e X.env)::starEach es X.env:=by rfl) (hpl:(backTo pos (starEach es X.env)).any (·.1)=false:=by rfl):PE X (.Call (.Name x p) (e::es) [] pos) (Fe r t):=by
 intro pins s Z H Q I h;refine ae8 (dz I hg hm hv ?_ hn hdb);exact PyProof.Rows.callWith_builtin1 (cH (ha pos pins s Z H _ I h) λus s1 ⟨vs,H1,I1,r1,q1⟩=>hc pins s1 Z H1 vs us Q I1 r1 q1) he hpl
theorem bo(hc:cM X (.type T) r)(hg:Gl X x)(hm:X.mg x=none)(hv:bootBuiltins x=some (.type T))(ha:PA X (e::es) t)(hn:x≠"__name__":=by decide)(hdb:(x == ("__debug__":Str))=false:=by decide)
  (he:starEach (e::es) X.env=(false,eval e X.env)::starEach es X.env:=by rfl) (hpl:(backTo pos (starEach es X.env)).any (·.1)=false:=by rfl):PE X (.Call (.Name x p) (e::es) [] pos) (Fe r t):=by
 intro pins s Z H Q I h;refine ae8 (dz I hg hm hv ?_ hn hdb);exact PyProof.Rows.callWith_type1 (cH (ha pos pins s Z H _ I h) λus s1 ⟨vs,H1,I1,r1,q1⟩=>hc pins s1 Z H1 vs us Q I1 r1 q1) he hpl
end
end L2
namespace HT
open PySem PyProof.Rows
def lexLt:List Int->List Int->Bool
 | [],[]=>false
 | [],_::_=>true
 | _::_,[]=>false
 | x::xs,y::ys=>if x=y then lexLt xs ys else decide (x < y)
section
open PySem.SeqAt
open PySem.AutoSeq1 (wpAny_loadPart')
open PySem.MeetsSeq PySem.MeetsSeq2 PySem.MeetsSeq3
end
section
variable {prog:Program} {w:World} {A:Around} {E:Value->Shared->Prop} {s:Shared}
theorem cat_tup{t b:Addr}{vs ws:List Value}{Q:Value->Shared->Prop}(ht:IsTup s.heap t vs.toArray)(hb:IsTup s.heap b ws.toArray)(hv:vs≠[])
  (h1:ws=[]->Q (.ref t) s) (h2:ws≠[]->Q (.ref s.heap.objs.size) { s with heap:=s.heap.push { cls:=.type "tuple",data:=.seq (vs++ws).toArray } })
  (hsz:vs.length+ws.length<=sizeLine):wpAny (model prog w) A (binaryOp .Add (.ref t) (.ref b)) Q E s:=by
 obtain⟨⟨cls,dd,data,sl⟩,ho,hc,n,hd⟩:=id ht;obtain⟨⟨cls2,dd2,data2,sl2⟩,ho2,hc2,n2,hd2⟩:=id hb;simp only at hc hd hc2 hd2;subst hc hd hc2 hd2
 have e:vs.toArray++ws.toArray=(vs++ws).toArray:=by simp
 by_cases hw:ws=[]
 ·exact concat_meets ⟨_,ho,rfl⟩ ⟨_,ho2,rfl⟩ noFill_tuple_add seq_tuple_add PySem.F.slot_tuple_add PySem.F.entry_tuple_add (PySem.F.args_tuple_add_2 _ _)
   (tuple_addW1 t b vs.toArray ws.toArray n n2 dd dd2 sl sl2 (by simpa using hv) (by simp [hw])) ⟨ho,ho2,h1 hw⟩
 ·refine concat_meets ⟨_,ho,rfl⟩ ⟨_,ho2,rfl⟩ noFill_tuple_add seq_tuple_add PySem.F.slot_tuple_add PySem.F.entry_tuple_add (PySem.F.args_tuple_add_2 _ _)
   (tuple_addW2 t b vs.toArray ws.toArray n n2 dd dd2 sl sl2 (by simpa using hv) (by simpa using hw) (by rw [ab4,ab4];exact hsz)) ⟨ho,ho2,?_⟩
  rw [e];exact h2 hw
def sIx(n d:Nat):Option Int->Nat
 | none=>d
 | some v=>if v < 0 then(v+(n:Int)).toNat else min v.toNat n
theorem sIx_none(n d:Nat):sIx n d none=d:=rfl
theorem sIx_nat(n d k:Nat):sIx n d (some (k:Int))=min k n:=by
 show(if (k:Int) < 0 then((k:Int)+(n:Int)).toNat else min (k:Int).toNat n)=min k n;rw [if_neg (),af8]
theorem E9(n d:Nat)(hd:d<=n)(o:Option Int):sIx n d o<=n:=by
 cases o with
 | none=>exact hd
 | some v=>
  show(if v < 0 then(v+(n:Int)).toNat else min v.toNat n)<=n
  by_cases hv:v < 0
  ·rw [if_pos hv];omega
  ·rw [if_neg hv];exact am1 _ _
theorem xh(v:Int)(n d:Nat):(if v < 0 then max (v+(n:Int)) 0 else min v (n:Int))=((sIx n d (some v):Nat):Int):=by
 show(if v < 0 then max (v+(n:Int)) 0 else min v (n:Int))=(((if v < 0 then(v+(n:Int)).toNat else min v.toNat n):Nat):Int)
 by_cases hv:v < 0
 ·simp only [if_pos hv];omega
 ·simp only [if_neg hv];omega
theorem vm(lo hi:Option Int)(n:Nat):Builtin.Slice.sliceAdjust lo hi 1 (n:Int)=(((sIx n 0 lo:Nat):Int),((sIx n n hi:Nat):Int)):=by
 have h1:¬((1:Int) < 0):=by omega
 unfold Builtin.Slice.sliceAdjust;simp only [h1,if_false];refine Prod.ext ?_ ?_
 ·cases lo with
  | none=>rfl
  | some v=>exact xh v n 0
 ·cases hi with
  | none=>rfl
  | some v=>exact xh v n n
theorem vW(i j:Nat):Builtin.Slice.slicePlaces (i:Int) (j:Int) 1=j - i:=by
 unfold Builtin.Slice.slicePlaces
 have h1:(1:Int) > 0:=by omega
 simp only [h1,if_true,Int.ediv_one]
 split<;>omega
theorem oS{v:Value}{o:Option Int}{Q:Option Int->Shared->Prop}(p:IsPart v o)(h:Q o s):wpAny (model prog w) A (Builtin.Slice.slicePartIndex v) Q E s:=by
 cases p with
 | none=>exact slicePart_none h
 | int i t=>exact slicePart_int h
theorem l9{sl:Addr}{vl vu:Value}{lo hi:Option Int}{n:Nat}{Q:Int×Int×Nat->Shared->Prop}(hs:s.heap.IsSliceOf sl vl vu .none)(pl:IsPart vl lo)(pu:IsPart vu hi)
  (h:Q (((sIx n 0 lo:Nat):Int),1,sIx n n hi - sIx n 0 lo) s):wpAny (model prog w) A (Builtin.Slice.sliceApplied (.ref sl) (pure (n:Int))) Q E s:=by
 obtain⟨os,hos,hcs,hds⟩:=id hs;unfold Builtin.Slice.sliceApplied Builtin.Slice.sliceFields;refine aa0 (aa0 (ae6 hos hds (x:=vl) rfl (aa0 (ae6 hos hds (x:=vu) rfl (aa0 (ae6 hos hds (x:=.none) rfl (aa6 ?_)))))));refine aa0 (slicePart_none ?_);show wpAny _ _ (if ((1:Int) == 0)=true then _ else _) _ _ s;rw [if_neg ∅];refine aa0 (oS pl (aa0 (oS pu (aa0 (aa6 ?_)))))
 show wpAny _ _ (match Builtin.Slice.sliceAdjust lo hi 1 (n:Int)with | (lo,hi)=>pure (lo,(1:Int),Builtin.Slice.slicePlaces lo hi 1)) _ _ s
 rw [vm lo hi n];show wpAny _ _ (pure (((sIx n 0 lo:Nat):Int),(1:Int),Builtin.Slice.slicePlaces ((sIx n 0 lo:Nat):Int) ((sIx n n hi:Nat):Int) 1)) _ _ s;rw [vW];exact aa6 h
theorem AW(xs:Array Value)(i k:Nat):((List.range k).filterMap λ(m:Nat)=>xs[((i:Int)+(m:Int) * 1).toNat]?).toArray=((xs.toList.drop i).take k).toArray:=by
 have e:(λ(m:Nat)=>xs[((i:Int)+(m:Int) * 1).toNat]?)=λm=>xs[i+m]?:=by
  funext m
  have:((i:Int)+(m:Int) * 1).toNat=i+m:=by omega
  rw [this]
 rw [e]
 have:=pick_run xs i k
 rw [List.filterMap_map]at this;have e2:((λx=>xs[x]?)∘λx=>i+x)=λm=>xs[i+m]?:=rfl;rw [e2]at this;rw [this]
theorem getItem_tuple_cut{t sl:Addr}{items:Array Value}{vl vu:Value}{lo hi:Option Int}{Q:Value->Shared->Prop}(ht:IsTup s.heap t items)(hs:s.heap.IsSliceOf sl vl vu .none)(pl:IsPart vl lo)(pu:IsPart vu hi)
  (hw:¬(sIx items.size 0 lo=0/\sIx items.size items.size hi=items.size))
  (h:Q (.ref s.heap.objs.size) { s with heap:=s.heap.push { cls:=.type "tuple",data:=.seq ((items.toList.drop (sIx items.size 0 lo)).take (sIx items.size items.size hi - sIx items.size 0 lo)).toArray } })
  (hsz:items.size<=sizeLine):wpAny (model prog w) A (getItem (.ref t) (.ref sl)) Q E s:=by
 have htake:sizeOk (.seq ((items.toList.drop (sIx items.size 0 lo)).take (sIx items.size items.size hi - sIx items.size 0 lo)).toArray):=by
  show((items.toList.drop (sIx items.size 0 lo)).take (sIx items.size items.size hi - sIx items.size 0 lo)).toArray.size<=sizeLine;rw [ab4,ad1,ak4,ah3];omega
 have hj:sIx items.size items.size hi<=items.size:=E9 _ _ (aa7 _) hi;obtain⟨os,hos,hcs,hds⟩:=id hs;have hTs:s.TypeIs (.ref sl) "slice":=⟨os,hos,hcs⟩;unfold getItem
 try with_reducible refine ae3 ?_
 first | refine aa0 (aa6 ?_) | skip
 refine aa0 (wpAny_sequenceKey ht.typeIs ∅ ?_)
 refine aa0 (wpAny_callSpecial?_slot (name:=Str.ofString "__getitem__") ht.typeIs PyProof.Rows.slot_tuple_getitem
  (af6 PyProof.Rows.slot_tuple_getitem ht.typeIs entry_tuple_getitem ?_ (args_tuple_getitem _ _)))
 show wpAny _ _ (Builtin.Tuple.tupleItemsOf (.ref t) >>= _) _ _ s;refine aa0 (tupleItemsOf_ ht ?_);refine aa0 (aj0 hTs ?_);rw [if_pos ∅];refine aa0 (l9 hs pl pu ?_)
 have hno:¬((((sIx items.size 0 lo:Nat):Int) == 0 && (1:Int) == 1 && (sIx items.size items.size hi - sIx items.size 0 lo) == items.size)=true):=by
  intro q;rw [ai7,ai7]at q;have q1:((sIx items.size 0 lo:Nat):Int)=0:=eq_of_beq q.1.1;have q2:sIx items.size items.size hi - sIx items.size 0 lo=items.size:=eq_of_beq q.2;exact hw ⟨(),()⟩
 show wpAny _ _ (if (((sIx items.size 0 lo:Nat):Int) == 0 && (1:Int) == 1 && (sIx items.size items.size hi - sIx items.size 0 lo) == items.size)=true then _ else _) _ _ s;rw [if_neg hno,AW]
 first
  | exact aa0 (m:=Builtin.Tuple.tupleExact _) (af3 (aa6 ⟨_,rfl,aa6 h⟩) htake)
  | exact aa0 (m:=Builtin.Tuple.tupleExact _) (af3 (aa0 (aa6 (aa6 ⟨_,rfl,aa6 h⟩))) htake)
  | exact aa0 (aa0 (m:=Builtin.Tuple.tupleExact _) (af3 (aa6 (aa6 ⟨_,rfl,aa6 h⟩)) htake))
  | exact aa0 (aa0 (m:=Builtin.Tuple.tupleExact _) (af3 (aa6 ⟨_,rfl,aa6 h⟩) htake))
end
end HT
namespace L2
open PySem PySem.Spec PyProof.Rows
variable {A:Around} {H:Hp} {X:Cx} {its:List Value} {n:Nat} {pins:List (Addr×Obj)} {r:V->Option Int->Option Int->Hp->VK->Prop} {s:Shared} {v:Value} {x:V} {xs:List V} {α:Type} {Z:St}
abbrev TO:=St->Hp->(Option Int->Hp->Prop)->Prop
def PO(X:Cx)(e:Option Expr)(t:TO):Prop:=
 ∀(pins:List (Addr×Obj)) (s:Shared) (Z:St) (H:Hp) (Q:Option Int->Hp->Prop),aK X pins Z H s->t Z H Q->
  wpAny (model X.prog X.w) X.A (evalPart e X.env) (λu s'=>∃o H',aK X pins Z H' s'/\IsPart u o/\Q o H') X.xe s
def tK:TO:=λ_ H Q=>Q none H
def xQ(t:TE):TO:=λZ H Q=>t Z H λx H1=>∃i,x=.int i/\Q (some i) H1
section
variable {e:Expr} {te:TE} {lo hi:Option Expr} {tl th:TO} {pos p2:Pos}
theorem b0:PO X none tK:=by
 intro pins s Z H Q I h;rw [evalPart_none];exact aa6 ⟨none,H,I,.none,h⟩
theorem Dc(h:PE X e te):PO X (some e) (xQ te):=by
 intro pins s Z H Q I hw;rw [evalPart_some];refine cH (h pins s Z H _ I hw) λu s1 zq0=>?_;obtain⟨x,H1,I1,r1,i,rfl,q⟩:=zq0;obtain⟨t,rfl⟩:=r1;exact⟨some i,H1,I1,.int i t,q⟩
def BN(X:Cx)(r:V->Option Int->Option Int->Hp->VK->Prop):Prop:=
 ∀(pins:List (Addr×Obj)) (s:Shared) (Z:St) (H:Hp) (x:V) (v vl vu:Value) (lo hi:Option Int) (sl:Addr) (Q:VK),aK X pins Z H s->aP x v->s.heap.IsSliceOf sl vl vu .none->IsPart vl lo->IsPart vu hi->r x lo hi H Q->
  ∃T id,typeLookup (.type T) "__getitem__"=pure (some (.builtin id))/\s.TypeIs v T/\wpAny (model X.prog X.w) X.A (getItem v (.ref sl)) (EP X pins Z Q) X.xe s
theorem BN.or{r':V->Option Int->Option Int->Hp->VK->Prop}(h:BN X r)(h':BN X r'):BN X (λx lo hi H Q=>r x lo hi H Q\/r' x lo hi H Q):=by
 intro pins s Z H x v vl vu lo hi sl Q I rx hs pl pu q;rcases q with q | q
 ·exact h pins s Z H x v vl vu lo hi sl Q I rx hs pl pu q
 ·exact h' pins s Z H x v vl vu lo hi sl Q I rx hs pl pu q
def Hk(r:V->Option Int->Option Int->Hp->VK->Prop)(te:TE)(tl th:TO):TE:=λZ H Q=>te Z H λx H1=>tl Z H1 λl H2=>th Z H2 λu H3=>r x l u H3 Q
theorem bK(hr:BN X r)(he:PE X e te)(hl:PO X lo tl)(hu:PO X hi th):PE X (.Subscript e (.Slice lo hi none p2) pos) (Hk r te tl th):=by
 intro pins s Z H Q I h;refine Subscript_ (cH (he pins s Z H _ I h) λv s1 zq0=>?_);obtain⟨x,H1,I1,r1,q1⟩:=zq0;refine wpAny_Slice (cH (hl pins s1 Z H1 _ I1 q1) λvl s2 ⟨l,H2,I2,pl,q2⟩=>cH (hu pins s2 Z H2 _ I2 q2) λvu s3 zq0=>?_);obtain⟨u,H3,I3,pu,q3⟩:=zq0;rw [evalPart_none];refine aa6 ?_;have I4:aK X pins Z H3 { s3 with heap:=s3.heap.push { cls:=.type "slice",data:=.fields #[vl,vu,.none] } }:=I3.kept (t':=s3.toks) λb ob q=>aa4 _ q;obtain⟨T,id,hT,ht,hg⟩:=hr pins { s3 with heap:=s3.heap.push { cls:=.type "slice",data:=.fields #[vl,vu,.none] } } Z H3 x v vl vu l u s3.heap.objs.size Q I4 r1 (Heap.IsSliceOf.new ..) pl pu q3;show wpAny (model X.prog X.w) X.A (subscriptTail e (.Slice lo hi none p2) v (.ref s3.heap.objs.size)) (EP X pins Z Q) X.xe { s3 with heap:=s3.heap.push { cls:=.type "slice",data:=.fields #[vl,vu,.none] } };exact tail_any (ops:=[.ref s3.heap.objs.size,v]) ht hT hg (by with_unfolding_all rfl)
def lB(xs:List V)(lo hi:Option Int):List V:=(xs.drop (HT.sIx xs.length 0 lo)).take (HT.sIx xs.length xs.length hi - HT.sIx xs.length 0 lo)
theorem mB(xs:List V)(lo hi:Option Int):(lB xs lo hi).length<=xs.length:=by
 unfold lB;rw [ad1,ak4];omega
def E7(K:Frag):V->Option Int->Option Int->Hp->VK->Prop:=λx lo hi H Q=>∃a xs,x=.ref a/\cT K H a xs/\
 ¬(HT.sIx xs.length 0 lo=0/\HT.sIx xs.length xs.length hi=xs.length)/\∀p,H p=none->Q (.ref p) (upd H p (.tup (lB xs lo hi)))
theorem sl_tup:BN X (E7 X.K):=by
 rintro pins s Z H x v vl vu lo hi sl Q I rx hs pl pu ⟨a,xs,rfl,hx,hw,q⟩;cases rx;obtain⟨its,r,ht,hz⟩:=I.tuple hx
 have hlen:its.toArray.size=xs.length:=by rw [ab4];exact r.length.symm
 refine⟨"tuple",_,PyProof.Rows.slot_tuple_getitem.lookup,ht.typeIs,?_⟩;refine HT.getItem_tuple_cut ht hs pl pu (by rw [hlen];exact hw) ?_ (by rw [hlen];exact hz);rw [hlen];refine⟨.ref s.heap.objs.size,_,I.laid (t':=s.toks) (o:=.tup (lB xs lo hi)) (λb ob q=>aa4 _ q) (aa7 _) ?_,rfl,q _ (I.hok.fresh (aa7 _))⟩;exact⟨ac2 (mB xs lo hi) hz,_,(r.drop (HT.sIx xs.length 0 lo)).take (HT.sIx xs.length xs.length hi - HT.sIx xs.length 0 lo),IsTup.new _ _⟩
def xB(K:Frag):R2:=λx y H Q=>∃a b xs ys,x=.ref a/\y=.ref b/\cT K H a xs/\cT K H b ys/\xs≠[]/\xs.length+ys.length<=sizeLine/\
 (ys=[]->Q (.ref a) H)/\(ys≠[]->∀p,H p=none->Q (.ref p) (upd H p (.tup (xs++ys))))
theorem aU.nil_iff{us:List Value}(r:aU xs us):us=[]↔xs=[]:=by
 cases r with
 | nil=>simp
 | cons _ _=>simp
theorem CZ:dE X (binaryOp .Add) (xB X.K):=by
 rintro pins s Z H x y v u Q I rx ry ⟨a,b,xs,ys,rfl,rfl,ha,hb,hx,hz,q1,q2⟩;cases rx;cases ry;obtain⟨its,r1,p1,_⟩:=I.tuple ha;obtain⟨its2,r2,p2,_⟩:=I.tuple hb;refine HT.cat_tup p1 p2 (λz=>hx (r1.nil_iff.mp z)) (λz=>⟨.ref a,H,I,rfl,q1 (r2.nil_iff.mp z)⟩) (λz=>?_) (by rw [<-r1.length,<-r2.length];exact hz);refine⟨.ref s.heap.objs.size,_,I.laid (t':=s.toks) (o:=.tup (xs++ys)) (λb ob q=>aa4 _ q) (aa7 _) ?_,rfl,q2 (λw=>z (r2.nil_iff.mpr w)) _ (I.hok.fresh (aa7 _))⟩;exact⟨by rw [ab2];exact hz,_,r1.append r2,IsTup.new _ _⟩
end
def Ac(n:Nat)(i:Int):Option Nat:=if 0<=i then(if i < n then some i.toNat else none)else if -(n:Int)<=i then some (i+n).toNat else none
def fC(xs:List α)(i:Int):Option α:=(Ac xs.length i).bind λj=>xs[j]?
theorem xr{i:Int}{j:Nat}(h:Ac n i=some j):seqIndex? i n=some j/\j < n/\-(n:Int)<=i/\i < n:=by
 unfold Ac at h
 by_cases h0:0<=i
 ·rw [if_pos h0]at h
  by_cases h1:i < n
  ·rw [if_pos h1]at h
   have e:i.toNat=j:=Option.some.inj h;exact⟨by rw [seqIndex_of h0 h1,e],(),(),h1⟩
  ·rw [if_neg h1]at h;cases h
 ·rw [if_neg h0]at h
  by_cases h1:-(n:Int)<=i
  ·rw [if_pos h1]at h
   have e:(i+n).toNat=j:=Option.some.inj h;exact⟨by rw [seqIndex_neg () h1,e],(),h1,()⟩
  ·rw [if_neg h1]at h;cases h
theorem rW{xs:List α}{i:Int}{v:α}(h:fC xs i=some v):∃j,seqIndex? i xs.length=some j/\xs[j]?=some v/\j < xs.length/\-(xs.length:Int)<=i/\i < xs.length:=by
 unfold fC at h
 cases e:Ac xs.length i with
 | none=>rw [e]at h;cases h
 | some j=>
  rw [e]at h;obtain⟨h1,h2,h3,h4⟩:=xr e;exact⟨j,h1,h,h2,h3,h4⟩
theorem aE{xs:List α}{j:Nat}{v:α}(h:xs[j]?=some v):fC xs (j:Int)=some v:=by
 have hj:j < xs.length:=(aa3.mp h).1
 have e:Ac xs.length (j:Int)=some j:=by
  unfold Ac;rw [if_pos (),if_pos ()];simp
 unfold fC;rw [e];exact h
def w9(b:Expr):Prop:=∀o i,subscripted b false o i=operate [o,i] (getItem o i)
def xV(X:Cx)(r:R2):Prop:=
 ∀(value slice:Expr) (pins:List (Addr×Obj)) (s:Shared) (Z:St) (H:Hp) (x y:V) (v u:Value) (Q:VK),aK X pins Z H s->aP x v->aP y u->r x y H Q->
  subscripted slice false v u=operate [v,u] (getItem v u)->wpAny (model X.prog X.w) X.A (subscriptTail value slice v u) (EP X pins Z Q) X.xe s
def BU(X:Cx)(id:String)(r:V->List V->Hp->VK->Prop):Prop:=
 ∀(pins:List (Addr×Obj)) (s:Shared) (Z:St) (H:Hp) (x:V) (xs:List V) (v:Value) (us:List Value) (Q:VK),aK X pins Z H s->aP x v->aU xs us->r x xs H Q->
  wpAny (model X.prog X.w) X.A (call (.builtin id) (v::us)) (EP X pins Z Q) X.xe s
section
variable {a b:Expr} {ta tb:TE} {pos:Pos}
theorem xV.or{r r':R2}(h:xV X r)(h':xV X r'):xV X (λx y H Q=>r x y H Q\/r' x y H Q):=by
 intro value slice pins s Z H x y v u Q I rx ry q hs;rcases q with q | q
 ·exact h value slice pins s Z H x y v u Q I rx ry q hs
 ·exact h' value slice pins s Z H x y v u Q I rx ry q hs
theorem aD{r:R2}(hr:xV X r)(ha:PE X a ta)(hb:PE X b tb)(hs:w9 b):PE X (.Subscript a b pos) (Fi r ta tb):=by
 intro pins s Z H Q I h;exact Subscript_ (B8 ha hb I h λv u s2 x y H2 I2 rx ry q=>hr a b pins s2 Z H2 x y v u Q I2 rx ry q (hs _ _))
def EZ(K:Frag):R2:=λx y H Q=>∃p xs i v,x=.ref p/\y=.int i/\aF K H p xs/\fC xs i=some v/\Q v H
def E2(K:Frag):R2:=λx y H Q=>∃p xs i v,x=.ref p/\y=.int i/\cT K H p xs/\fC xs i=some v/\Q v H
def E1:R2:=λx y H Q=>∃z i c,x=.str z/\y=.int i/\z.length<=sizeLine/\fC z.cps.toList i=some c/\Q (.str ⟨#[c]⟩) H
theorem ix_list:xV X (EZ X.K):=by
 intro value slice pins s Z H x y v u Q I rx ry h hs;obtain⟨p,xs,i,z,rfl,rfl,hq,he,q⟩:=h;cases rx;obtain⟨t,rfl⟩:=ry;obtain⟨its,r,pl,hz⟩:=I.list hq;obtain⟨j,h1,h2,h3,h4,h5⟩:=rW he;obtain⟨w,ew,rw'⟩:=r.get h2;have hl:=r.length;have hn:=jG;have fin:EP X pins Z Q w s:=⟨z,H,I,rw',q⟩
 by_cases h0:0<=i
 ·have hj:i.toNat=j:=by
   rw [seqIndex_of h0 h5]at h1;exact Option.some.inj h1
  exact item_listR pl.isList h0 () (by rw [hj];simpa using ew) fin hs
 ·have hj:(i+(its.toArray.size:Int)).toNat=j:=by
   rw [seqIndex_neg () h4]at h1;rw [ab4,<-hl];exact Option.some.inj h1
  exact subscriptTail_builtinR (x:=w) pl.isList.typeIs slot_list_getitem.lookup
   (wpAny_getItem_list_neg (Q:=λr s'=>r=w/\EP X pins Z Q r s') pl.isList () (by rw [ab4]<;>omega) () (by rw [hj];simpa using ew) ⟨rfl,fin⟩) hs
theorem ix_tup:xV X (E2 X.K):=by
 intro value slice pins s Z H x y v u Q I rx ry h hs;obtain⟨p,xs,i,z,rfl,rfl,hq,he,q⟩:=h;cases rx;obtain⟨t,rfl⟩:=ry;obtain⟨its,r,pl,hz⟩:=I.tuple hq;obtain⟨j,h1,h2,h3,h4,h5⟩:=rW he;obtain⟨w,ew,rw'⟩:=r.get h2;have hl:=r.length;have hn:=jG;have fin:EP X pins Z Q w s:=⟨z,H,I,rw',q⟩
 exact subscriptTail_builtinR (x:=w) pl.typeIs slot_tuple_getitem.lookup
  (getItem_tuple (j:=j) (Q:=λr s'=>r=w/\EP X pins Z Q r s') pl () () (by rw [ab4,<-hl];exact h1) (by simpa using ew) ⟨rfl,fin⟩) hs
theorem Er:xV X E1:=by
 intro value slice pins s Z H x y v u Q I rx ry h hs;obtain⟨z,i,c,rfl,rfl,hz,he,q⟩:=h;obtain⟨t,rfl⟩:=rx;obtain⟨t',rfl⟩:=ry;obtain⟨j,h1,h2,h3,h4,h5⟩:=rW he
 have hl:z.cps.toList.length=z.length:=by simp [Str.length]
 rw [hl]at h1 h4 h5;have hn:=jG
 exact tail_any (typeIs_str s z t) slot_str_getitem.lookup (getItem_str (c:=c) (by
  have e1:decide (i < -(2 ^ 63:Int))=false:=decide_eq_false ();have e2:decide (i>=2 ^ 63)=false:=decide_eq_false ()
  rw [e1,e2,am5]) (by rw [h1];simpa using h2) ⟨.str ⟨#[c]⟩,H,I.tok _,⟨_,rfl⟩,q⟩) hs
def tO(K:Frag):R2:=λx y H Q=>EZ K x y H Q\/E2 K x y H Q\/E1 x y H Q
theorem Ep:xV X (tO X.K):=ix_list.or (ix_tup.or Er)
theorem vG(its:List Value)(n j:Nat)(u:Value):Obj.mapSeq (·.setIfInBounds j u) { cls:=.type "list",data:=.seq its.toArray n }={ cls:=.type "list",data:=.seq (its.set j u).toArray n }:=by
 simp [Obj.mapSeq]
theorem aK.lst{pins:List (Addr×Obj)}{Z:St}{H:Hp}{s:Shared}{p:Addr}{xs:List V}(I:aK X pins Z H s)(h:H p=some (.lst xs)):
  ∃(its:List Value) (n:Nat),aU xs its/\s.heap.get? p=some { cls:=.type "list",data:=.seq its.toArray n }/\xs.length<=sizeLine:=by
 obtain⟨z,its,n,r,e⟩:=I.hok p _ h;exact⟨its,n,r,e,z⟩
theorem aK.lstUpd{p:Addr}{ys:List V}{its':List Value}{n':Nat}{f:Obj->Obj}(I:aK X pins Z H s)(h:H p=some (.lst xs))
  (ho:s.heap.get? p=some { cls:=.type "list",data:=.seq its.toArray n }) (hf:f { cls:=.type "list",data:=.seq its.toArray n }={ cls:=.type "list",data:=.seq its'.toArray n' }) (r:aU ys its') (hz:ys.length<=sizeLine) (t:Nat) :
  aK X pins Z (upd H p (.lst ys)) { s with heap:=s.heap.update p f,toks:=t }:=by
 have e:(s.heap.update p f).get? p=some { cls:=.type "list",data:=.seq its'.toArray n' }:=by
  rw [ad9 f ho (by rw [hf]<;>rfl),hf]
 refine I.write (x:=p) (e:=p) (by rw [h];trivial) (.inl rfl) (λb u hb q=>(ac6 _ _ (Ne.symm hb)).trans q) ⟨_,e⟩ ?_;exact⟨hz,its',n',r,e⟩
def DZ:V->V->V->Hp->(Hp->Prop)->Prop:=λo i v H Q=>∃p xs k j,o=.ref p/\i=.int k/\H p=some (.lst xs)/\Ac xs.length k=some j/\Q (upd H p (.lst (xs.set j v)))
theorem Bg:Ee X DZ:=by
 rintro pins s Z H o i v ov iv u Q I ro ri rv ⟨p,xs,k,j,rfl,rfl,hp,hj,q⟩;cases ro;obtain⟨t,rfl⟩:=ri;obtain⟨its,n,r,ho,hz⟩:=I.lst hp;obtain⟨h1,h2,h3,h4⟩:=xr hj;have hl:=r.length;have hn:=jG
 have I':aK X pins Z (upd H p (.lst (xs.set j v))) { s with heap:=s.heap.update p (Obj.mapSeq (·.setIfInBounds j u)) }:=
  I.lstUpd hp ho (vG its n j u) (r.set rv j) (by rw [List.length_set];exact hz) s.toks
 by_cases h0:0<=k
 ·have hk:k.toNat=j:=by
   rw [seqIndex_of h0 h4]at h1;exact Option.some.inj h1
  exact PySem.W.ki_setAt ho h0 () (by rw [ab4,<-hl];exact h4) (by rw [hk];exact⟨_,I',q⟩)
 ·have hk:(k+(its.toArray.size:Int)).toNat=j:=by
   rw [seqIndex_neg () h3]at h1;rw [ab4,<-hl];exact Option.some.inj h1
  exact PySem.W.ki_setBack ho () (by rw [ab4,<-hl];exact h3) () (by rw [hk];exact⟨_,I',q⟩)
theorem tx(lo hi:Option Int)(n:Nat):(sliceBounds lo hi none n).1=((HT.sIx n 0 lo:Nat):Int)/\(sliceBounds lo hi none n).2.1=((HT.sIx n n hi:Nat):Int)/\(sliceBounds lo hi none n).2.2=1:=by
 refine⟨?_,?_,rfl⟩
 ·cases lo with
  | none=>simp [sliceBounds,HT.sIx]
  | some i=>
   simp only [sliceBounds,HT.sIx,Option.getD_none,show(1:Int) > 0 by decide,if_true]
   by_cases h:i < 0
   ·simp only [h,if_true]<;>omega
   ·simp only [h,if_false]<;>omega
 ·cases hi with
  | none=>simp [sliceBounds,HT.sIx]
  | some i=>
   simp only [sliceBounds,HT.sIx,Option.getD_none,show(1:Int) > 0 by decide,if_true]
   by_cases h:i < 0
   ·simp only [h,if_true]<;>omega
   ·simp only [h,if_false]<;>omega
theorem qE(its:List Value)(lo hi:Option Int):slicePick its.toArray lo hi none=((its.drop (HT.sIx its.length 0 lo)).take (HT.sIx its.length its.length hi - HT.sIx its.length 0 lo)).toArray:=by
 obtain⟨h1,h2,h3⟩:=tx lo hi its.toArray.size;unfold slicePick;rw [h1,h2,h3]
 simp only [sliceRange_one,pick_run,ab4]<;>rfl
def E5(K:Frag):V->Option Int->Option Int->Hp->VK->Prop:=λx lo hi H Q=>∃a xs,x=.ref a/\aF K H a xs/\∀p,H p=none->Q (.ref p) (upd H p (.lst (lB xs lo hi)))
theorem sl_list:BN X (E5 X.K):=by
 rintro pins s Z H x v vl vu lo hi sl Q I rx hs pl pu ⟨a,xs,rfl,hx,q⟩;cases rx;obtain⟨its,r,ht,hz⟩:=I.list hx;have hlen:=r.length;refine⟨"list",_,slot_list_getitem.lookup,ht.isList.typeIs,?_⟩
 refine wpAny_getItem_list_slice ht.isList hs pl pu .none (by simp) ?_ (by rw [ab4]<;>omega)
 rw [qE,<-hlen];refine⟨.ref s.heap.objs.size,_,I.laid (t':=s.toks) (o:=.lst (lB xs lo hi)) (λb ob q=>aa4 _ q) (aa7 _) ?_,rfl,q _ (I.hok.fresh (aa7 _))⟩;exact⟨ac2 (mB xs lo hi) hz,_,0,(r.drop (HT.sIx xs.length 0 lo)).take (HT.sIx xs.length xs.length hi - HT.sIx xs.length 0 lo),aa8 _ rfl⟩
def gm:V->Bool
 | .non=>true
 | .bl _=>true
 | .int _=>true
 | .str _=>true
 | _=>false
def zo:V->V->Bool
 | .non,.non=>true
 | .bl a,.bl b=>a == b
 | .bl a,.int b=>(if a then 1 else 0) == b
 | .int a,.bl b=>a == (if b then 1 else 0)
 | .int a,.int b=>a == b
 | .str a,.str b=>a == b
 | _,_=>false
theorem zT{y:V}{u:Value}(ry:aP y u)(rx:aP x v)(fy:gm y=true)(fx:gm x=true):SeqAt.EqAt A s u v (zo y x):=by
 cases y with
 | non=>
  cases ry
  cases x with
  | non=>cases rx;exact SeqAt.EqAt.same _
  | bl b=>cases rx;exact SeqAt.EqAt.none_bool b
  | int b=>obtain⟨t,rfl⟩:=rx;exact SeqAt.EqAt.none_int b t
  | str b=>obtain⟨t,rfl⟩:=rx;exact SeqAt.EqAt.none_str b t
  | _=>exact absurd (show false=true from fx) ab3
 | bl a=>
  cases ry
  cases x with
  | non=>cases rx;exact SeqAt.EqAt.bool_none a
  | bl b=>cases rx;exact SeqAt.EqAt.bool_bool a b
  | int b=>obtain⟨t,rfl⟩:=rx;exact SeqAt.EqAt.bool_int a b t
  | str b=>obtain⟨t,rfl⟩:=rx;exact SeqAt.EqAt.bool_str a b t
  | _=>exact absurd (show false=true from fx) ab3
 | int a=>
  obtain⟨t',rfl⟩:=ry
  cases x with
  | non=>cases rx;exact SeqAt.EqAt.int_none a t'
  | bl b=>cases rx;exact SeqAt.EqAt.int_bool a t' b
  | int b=>obtain⟨t,rfl⟩:=rx;exact SeqAt.EqAt.int_int a t' b t
  | str b=>obtain⟨t,rfl⟩:=rx;exact SeqAt.EqAt.int_str a t' b t
  | _=>exact absurd (show false=true from fx) ab3
 | str a=>
  obtain⟨t',rfl⟩:=ry
  cases x with
  | non=>cases rx;exact SeqAt.EqAt.str_none a t'
  | bl b=>cases rx;exact SeqAt.EqAt.str_bool a t' b
  | int b=>obtain⟨t,rfl⟩:=rx;exact SeqAt.EqAt.str_int a t' b t
  | str b=>obtain⟨t,rfl⟩:=rx;exact SeqAt.EqAt.str_str a t' b t
  | _=>exact absurd (show false=true from fx) ab3
 | _=>exact absurd (show false=true from fy) ab3
def vy(x:V)(u:Value):Bool:=match u with
 | .none=>zo .non x
 | .bool b=>zo (.bl b) x
 | .int i _=>zo (.int i) x
 | .str z _=>zo (.str z) x
 | _=>false
theorem zU{y:V}{u:Value}(r:aP y u)(f:gm y=true):vy x u=zo y x:=by
 cases y with
 | non=>cases r;rfl
 | bl b=>cases r;rfl
 | int i=>obtain⟨t,rfl⟩:=r;rfl
 | str z=>obtain⟨t,rfl⟩:=r;rfl
 | _=>exact absurd (show false=true from f) ab3
theorem kj:∀{xs:List V} {us:List Value},aU xs us->xs.all gm=true->us.any (vy x)=xs.any λy=>zo y x
 | _,_,.nil,_=>rfl
 | y::xs,u::us,.cons r t,f=>by
  rw [ao4,ai7]at f;rw [List.any_cons,List.any_cons,zU r f.1,kj t f.2]
theorem i5(rx:aP x v)(fx:gm x=true):∀{xs:List V} {us:List Value},aU xs us->xs.all gm=true->∀u∈us,SeqAt.EqAt A s u v (vy x u)
 | _,_,.nil,_=>λu hu=>by cases hu
 | y::xs,u::us,.cons r t,f=>λu' hu=>by
  rw [ao4,ai7]at f;rcases ab0.mp hu with rfl | hu
  ·rw [zU r f.1];exact zT r rx f.1 fx
  ·exact i5 rx fx t f.2 u' hu
def DL(x:V)(xs:List V):Bool:=xs.any λy=>zo y x
def Gk(K:Frag)(neg:Bool):R2:=λx y H Q=>∃p xs,y=.ref p/\(aF K H p xs\/cT K H p xs)/\gm x=true/\xs.all gm=true/\Q (.bl (if neg then !DL x xs else DL x xs)) H
theorem yT:dE X (compareOp .In) (Gk X.K false):=by
 rintro pins s Z H x y v u Q I rx ry ⟨p,xs,rfl,hq,fx,fs,q⟩;cases ry;rcases hq with hq | hq
 ·obtain⟨its,r,pl,hz⟩:=I.list hq
  refine SeqAt.in_listAt (vy x) pl.isList (λw hw=>i5 rx fx r fs w (by simpa using hw)) ⟨.bl _,H,I,rfl,?_⟩;rw [show its.toArray.any (vy x)=its.any (vy x)by simp,kj r fs];exact q
 ·obtain⟨its,r,pl,hz⟩:=I.tuple hq
  refine SeqAt.in_tupleAt (vy x) pl (λw hw=>i5 rx fx r fs w (by simpa using hw)) ⟨.bl _,H,I,rfl,?_⟩;rw [show its.toArray.any (vy x)=its.any (vy x)by simp,kj r fs];exact q
theorem sN:dE X (compareOp .NotIn) (Gk X.K true):=by
 rintro pins s Z H x y v u Q I rx ry ⟨p,xs,rfl,hq,fx,fs,q⟩;cases ry;rcases hq with hq | hq
 ·obtain⟨its,r,pl,hz⟩:=I.list hq
  refine SeqAt.notIn_listAt (vy x) pl.isList (λw hw=>i5 rx fx r fs w (by simpa using hw)) ⟨.bl _,H,I,rfl,?_⟩;rw [show its.toArray.any (vy x)=its.any (vy x)by simp,kj r fs];exact q
 ·obtain⟨its,r,pl,hz⟩:=I.tuple hq
  refine SeqAt.notIn_tupleAt (vy x) pl (λw hw=>i5 rx fx r fs w (by simpa using hw)) ⟨.bl _,H,I,rfl,?_⟩;rw [show its.toArray.any (vy x)=its.any (vy x)by simp,kj r fs];exact q
theorem r6:cM X (.builtin "len") (λxs H Q=>∃p ys,xs=[.ref p]/\(aF X.K H p ys\/cT X.K H p ys)/\Q (.int ys.length) H):=by
 rintro pins s Z H xs us Q I r ⟨p,ys,rfl,hq,q⟩;obtain⟨u,rfl,rx⟩:=dZ r;cases rx;have hn:=jG;rcases hq with hq | hq
 ·obtain⟨its,r',pl,hz⟩:=I.list hq
  have hlen:=r'.length
  exact Calls.call_len_list pl.isList (by simp only [ab4]<;>omega) ⟨.int ys.length,H,I.tok _,⟨s.toks+1,by rw [ab4,hlen]⟩,q⟩
 ·obtain⟨its,r',pl,hz⟩:=I.tuple hq
  have hlen:=r'.length
  exact len_tuple pl (by simp only [ab4]<;>omega) ⟨.int ys.length,H,I.tok _,⟨s.toks+1,by rw [ab4,hlen]⟩,q⟩
theorem call_len_str:cM X (.builtin "len") (λxs H Q=>∃z,xs=[.str z]/\z.length<=sizeLine/\Q (.int z.length) H):=by
 rintro pins s Z H xs us Q I r ⟨z,rfl,hz,q⟩;obtain⟨u,rfl,t,rfl⟩:=dZ r;have hn:=jG;exact len_str () ⟨.int z.length,H,I.tok _,⟨_,rfl⟩,q⟩
theorem cM.or{f:Value}{r r':List V->Hp->VK->Prop}(h:cM X f r)(h':cM X f r'):cM X f (λxs H Q=>r xs H Q\/r' xs H Q):=by
 intro pins s Z H xs us Q I rs q;rcases q with q | q
 ·exact h pins s Z H xs us Q I rs q
 ·exact h' pins s Z H xs us Q I rs q
theorem r9:cM X (.type "list") (λxs H Q=>∃p ys,xs=[.ref p]/\(aF X.K H p ys\/cT X.K H p ys)/\∀l,H l=none->Q (.ref l) (upd H l (.lst ys))):=by
 rintro pins s Z H xs us Q I r ⟨p,ys,rfl,hq,q⟩;obtain⟨u,rfl,rx⟩:=dZ r;cases rx
 have fin:∀(its:List Value),aU ys its->ys.length<=sizeLine->∀(h':Heap) (c':Nat),(∀b o',s.heap.get? b=some o'->h'.get? b=some o')->
   h'.get? s.heap.objs.size=some { cls:=.type "list",dict:=none,data:=.seq its.toArray c',slots:=#[] }->EP X pins Z Q (.ref s.heap.objs.size) { s with heap:=h' }:=λits r' hz h' c' kp e=>
  ⟨.ref s.heap.objs.size,_,I.laid (t':=s.toks) kp (aa7 _) (show dk X.prog X.w _ h' _ (.lst ys)from⟨hz,its,c',r',e⟩),rfl,q _ (I.hok.fresh (aa7 _))⟩
 rcases hq with hq | hq
 ·obtain⟨its,r',pl,hz⟩:=I.list hq
  have hlen:=r'.length;obtain⟨o,ho,hc,n,hd⟩:=pl.isList
  exact call_list_seq p (.inl rfl) ho hc hd (λh' c' kp e=>fin its r' hz h' c' kp e) (by simp only [ab4]<;>omega)
 ·obtain⟨its,r',pl,hz⟩:=I.tuple hq
  have hlen:=r'.length;obtain⟨o,ho,hc,n,hd⟩:=pl
  exact call_list_seq p (.inr rfl) ho hc hd (λh' c' kp e=>fin its r' hz h' c' kp e) (by simp only [ab4]<;>omega)
theorem pM:cM X (.type "tuple") (λxs H Q=>∃p ys,xs=[.ref p]/\((aF X.K H p ys/\∀l,H l=none->Q (.ref l) (upd H l (.tup ys)))\/(cT X.K H p ys/\Q (.ref p) H))):=by
 rintro pins s Z H xs us Q I r ⟨p,ys,rfl,h⟩;obtain⟨u,rfl,rx⟩:=dZ r;cases rx;rcases h with⟨hq,q⟩ | ⟨hq,q⟩
 ·obtain⟨its,r',pl,hz⟩:=I.list hq
  have hlen:=r'.length
  refine call_tuple_list pl.isList (λh' kp=>?_) (by simp only [ab4]<;>omega)
  have I1:aK X pins Z H { s with heap:=h' }:=I.kept (t':=s.toks) kp
  have I2:aK X pins Z (upd H h'.objs.size (.tup ys)) { s with heap:=h'.push { cls:=.type "tuple",data:=.seq its.toArray } }:=
   I1.laid (t':=s.toks) (λb o e=>aa4 _ e) (aa7 _) (show dk X.prog X.w _ _ _ (.tup ys)from⟨hz,its,r',IsTup.new _ _⟩)
  exact⟨.ref h'.objs.size,_,I2,rfl,q _ (I1.hok.fresh (aa7 _))⟩
 ·obtain⟨its,r',pl,hz⟩:=I.tuple hq
  exact call_tuple_same pl ⟨.ref p,H,I,rfl,q⟩
def Gz(K:Frag)(T:String)(x:V)(H:Hp):Prop:=match x with
 | .str _=>T="str"
 | .int _=>T="int"
 | .ref p=>(T="list"/\∃xs,aF K H p xs)\/(T="tuple"/\∃o,K.lookup p=some o/\o.cls=.type "tuple"/\o.dict=none)\/
   (T="dict"/\((∃kvs,H p=some (.dK kvs))\/∃kvs,H p=some (.dT kvs)))\/(T="set"/\∃S n,H p=some (.set S n))
 | _=>False
theorem Fq{T:String}(I:aK X pins Z H s)(r:aP x v)(ty:Gz X.K T x H):
  s.TypeIs v T/\∀a,v=.ref a->∃ob,s.heap.get? a=some ob/\ob.dict=none:=by
 cases x with
 | str z=>
  obtain⟨t,rfl⟩:=r;cases(show T="str" from ty);exact⟨typeIs_str s z t,λ_ e=>nomatch e⟩
 | int i=>
  obtain⟨t,rfl⟩:=r;cases(show T="int" from ty);exact⟨typeIs_int s i t,λ_ e=>nomatch e⟩
 | ref p=>
  cases r;rcases ty with⟨rfl,xs,hq⟩ | ⟨rfl,o,hk,hc,hd⟩ | ⟨rfl,hk⟩ | ⟨rfl,S,n,hk⟩
  ·obtain⟨its,_,pl,_⟩:=I.list hq
   refine⟨pl.isList.typeIs,λa e=>?_⟩;cases e;obtain⟨o,n,e,c,hd,_⟩:=pl;exact⟨o,e,hd⟩
  ·refine⟨⟨o,I.kIn p o hk,hc⟩,λa e=>?_⟩
   cases e;exact⟨o,I.kIn _ o hk,hd⟩
  ·have z:∃o,s.heap.get? p=some o/\o.ExactDict:=by
    rcases hk with⟨kvs,hk⟩ | ⟨kvs,hk⟩
    ·obtain⟨_,_,_,_,o,_,_,e,ex,_⟩:=I.hok p _ hk
     exact⟨o,e,ex⟩
    ·obtain⟨_,_,_,_,o,_,_,e,ex,_⟩:=I.hok p _ hk
     exact⟨o,e,ex⟩
   obtain⟨o,e,ex⟩:=z;refine⟨⟨o,e,ex.1⟩,λa e2=>?_⟩;cases e2;exact⟨o,e,ex.2.1⟩
  ·obtain⟨o,_,_,_,e,ex,_⟩:=I.hok p _ hk
   refine⟨⟨o,e,ex.1⟩,λa e2=>?_⟩;cases e2;exact⟨o,e,ex.2.1⟩
 | _=>exact False.elim ty
def Hg(K:Frag)(T:String)(r:V->List V->Hp->VK->Prop)(to:TE):TE:=λZ H Q=>to Z H λx H1=>Gz K T x H1/\r x [] H1 Q
def Hf(K:Frag)(T:String)(r:V->List V->Hp->VK->Prop)(to:TE)(t:TA):TE:=λZ H Q=>to Z H λx H1=>Gz K T x H1/\t Z H1 λxs H2=>r x xs H2 Q
variable {o e:Expr} {es:List Expr} {to:TE} {t:TA} {name:Str} {apos cpos:Pos} {T id:String} {r:V->List V->Hp->VK->Prop}
theorem Gg(pa:PlainAttrs T)(slot:Slot T name id)(hty:typeOf (.builtin id)=pure (.type "method_descriptor"))(hm:BU X id r)(ho:PE X o to)(ha:PA X (e::es) t)
  (hbase:attributeBase o name X.env (eval o X.env)=eval o X.env:=by rfl)
  (hfew:((backTo cpos (starEach (e::es) X.env)).all (λx=>!x.1) && (backToKw cpos (keywordEach [] X.env)).all (λx=>x.1.isSome)
   && decide ((e::es).length+([]:List Keyword).length+(if ([]:List Keyword).isEmpty then 0 else 1) < 30))=true:=by rfl)
  (hline:(apos.endLine == cpos.line)=true:=by rfl) (hs:starEach (e::es) X.env=(false,eval e X.env)::starEach es X.env:=by rfl) (hplain:(backTo cpos (starEach es X.env)).any (·.1)=false:=by rfl) :
  PE X (.Call (.Attribute o name apos) (e::es) [] cpos) (Hf X.K T r to t):=by
 intro pins s Z H Q I h;refine wpAny_Call_method_late hbase hfew hline rfl (cH (ho pins s Z H _ I h) λv s1 zq0=>?_);obtain⟨x,H1,I1,r1,ty,q1⟩:=zq0;obtain⟨h1,h2⟩:=Fq I1 r1 ty;refine⟨T,id,pa,slot,hty,h1,h2,?_⟩;have hA:=ha cpos pins s1 Z H1 _ I1 q1;rw [hs]at hA |-
 refine Calls.callWith_builtin (by show(false || (backTo cpos (starEach es X.env)).any (·.1))=false;rw [hplain]<;>rfl) (Calls.evalArgs_plain ?_)
 exact cH hA λus s2 ⟨vs,H2,I2,r2,q2⟩=>hm pins s2 Z H2 x vs v us Q I2 r1 r2 q2
end
def Hq(X:Cx)(id:String)(r:V->List V->Hp->VK->Prop):Prop:=
 ∀(pins:List (Addr×Obj)) (s:Shared) (Z:St) (H:Hp) (x:V) (xs:List V) (v:Value) (us:List Value) (Q:VK),aK X pins Z H s->aP x v->aU xs us->r x xs H Q->
  wpAny (model X.prog X.w) X.A (call (.builtin id) (v::us)) (EP X pins Z Q) X.xe s
theorem aU.one:∀{x:V} {us:List Value},aU [x] us->∃u,us=[u]/\aP x u
 | _,_,.cons r .nil=>⟨_,rfl,r⟩
theorem aU.rep{us:List Value}(h:aU xs us):∀k:Nat,aU (List.replicate k xs).flatten (List.replicate k us).flatten
 | 0=>.nil
 | k+1=>by
  rw [af7,af7,aj6,aj6];exact aU.append h (aU.rep h k)
theorem lD(its:List Value):∀(k:Nat) (acc:List Value),
  List.foldl (λx1 x2=>x1++x2) acc.toArray (List.replicate k its.toArray)=(acc++(List.replicate k its).flatten).toArray
 | 0,acc=>by simp
 | k+1,acc=>by
  have e:acc.toArray++its.toArray=(acc++its).toArray:=by simp
  have e2:(acc++its)++(List.replicate k its).flatten=acc++(List.replicate (k+1) its).flatten:=by
   rw [af7,aj6,ao1]
  rw [<-e2,<-lD its k (acc++its),<-e,af7,af5]
section
variable {l b:Addr} {ys zs:List V}
theorem aK.lset{its':List Value}{f:Array Value->Array Value}{t':Nat}(I:aK X pins Z H s)(hH:H l=some (.lst xs))
  (e:s.heap.get? l=some { cls:=.type "list",data:=.seq its.toArray n }) (hf:f its.toArray=its'.toArray) (hv:aU ys its') (hz:ys.length<=sizeLine) :
  aK X pins Z (upd H l (.lst ys)) { s with heap:=s.heap.update l (Obj.mapSeq f),toks:=t' }:=by
 have q:=PySem.IsL.update e f;rw [hf]at q;refine I.write (x:=l) (e:=l) (by rw [hH];exact trivial) (.inl rfl) (λb' u hb hu=>(ac6 s.heap (Obj.mapSeq f) (Ne.symm hb)).trans hu) ⟨_,q⟩ ?_;exact⟨hz,its',_,hv,q⟩
theorem aK.lnew{t':Nat}(I:aK X pins Z H s)(hv:aU ys its)(hz:ys.length<=sizeLine):
  aK X pins Z (upd H s.heap.objs.size (.lst ys)) { s with heap:=s.heap.push { cls:=.type "list",data:=.seq its.toArray },toks:=t' }:=
 I.laid (λ_ _ q=>aa4 _ q) (aa7 _) ⟨hz,its,0,hv,aa8 _ rfl⟩
theorem aK.fresh(I:aK X pins Z H s):H s.heap.objs.size=none:=I.hok.fresh (aa7 _)
theorem aK.lstM(I:aK X pins Z H s)(hH:H l=some (.lst xs)):xs.length<=sizeLine/\∃(its:List Value) (n:Nat),aU xs its/\xs.length=its.length/\s.heap.get? l=some { cls:=.type "list",data:=.seq its.toArray n }:=by
 obtain⟨z,its,n,r,e⟩:=I.hok l _ hH;exact⟨z,its,n,r,r.length,e⟩
theorem uv(h:n<=sizeLine):Builtin.List.listTooLong n=false:=by
 unfold Builtin.List.listTooLong;exact decide_eq_false ()
end
def xA:V->List V->Hp->VK->Prop:=λx vs H Q=>∃l xs y,x=.ref l/\vs=[y]/\H l=some (.lst xs)/\xs.length < sizeLine/\Q .non (upd H l (.lst (xs++[y])))
theorem bT:Hq X "list.append" xA:=by
 rintro pins s Z H x vs v us Q I rx rv ⟨l,xs,y,rfl,rfl,hH,hz,q⟩;cases rx;obtain⟨u,rfl,ru⟩:=rv.one;obtain⟨z,its,n,r,hl,e⟩:=I.lstM hH;refine call_meets F.slot_list_append ⟨_,e,rfl⟩ F.entry_list_append (F.args_list_append_2 _ _) (PySem.list_append l its.toArray n u (by rw [ab4];omega)) ⟨e,?_⟩;refine⟨.non,_,I.lset (its':=its++[u]) hH e (by simp) (r.append (.cons ru .nil)) ?_,rfl,q⟩;rw [ab2,List.length_singleton];omega
def Di:V->List V->Hp->VK->Prop:=λx vs H Q=>∃l b xs zs,x=.ref l/\vs=[.ref b]/\H l=some (.lst xs)/\H b=some (.lst zs)/\xs.length+zs.length<=sizeLine/\Q .non (upd H l (.lst (xs++zs)))
theorem lJ:Hq X "list.extend" Di:=by
 rintro pins s Z H x vs v us Q I rx rv ⟨l,b,xs,zs,rfl,rfl,hH,hB,hz,q⟩;cases rx;obtain⟨u,rfl,ru⟩:=rv.one;cases ru;obtain⟨z,its,n,r,hl,e⟩:=I.lstM hH;obtain⟨z2,its2,n2,r2,hl2,e2⟩:=I.lstM hB
 have hsz:its.toArray.size+its2.toArray.size<=sizeLine:=by rw [ab4,ab4];omega
 have hlong:¬(!its.toArray.isEmpty && Builtin.List.listTooLong (its.toArray.size+its2.toArray.size))=true:=by
  rw [uv hsz,Bool.and_false];exact ab3
 refine call_meets F.slot_list_extend ⟨_,e,rfl⟩ F.entry_list_extend (F.args_list_extend_2 _ _)
  (AutoSeq1.list_extend_list_list_0 l its.toArray n b its2.toArray n2 hlong (by rw [ab4];omega) ()) ⟨e,e2,?_⟩
 refine⟨.non,_,I.lset (its':=its++its2) hH e (by simp) (r.append r2) ?_,rfl,q⟩;rw [ab2];omega
def Df:R2:=λx y H Q=>∃l b xs zs,x=.ref l/\y=.ref b/\H l=some (.lst xs)/\H b=some (.lst zs)/\xs.length+zs.length<=sizeLine/\∀p,H p=none->Q (.ref p) (upd H p (.lst (xs++zs)))
theorem op_cat:dE X (binaryOp .Add) Df:=by
 rintro pins s Z H x y v u Q I rx ry ⟨l,b,xs,zs,rfl,rfl,hH,hB,hz,q⟩;cases rx;cases ry;obtain⟨z,its,n,r,hl,e⟩:=I.lstM hH;obtain⟨z2,its2,n2,r2,hl2,e2⟩:=I.lstM hB;refine PySem.P.add_list e e2 ?_ (by rw [ab4,ab4];omega)
 have ea:its.toArray++its2.toArray=(its++its2).toArray:=by simp
 rw [ea];exact⟨.ref _,_,I.lnew (t':=s.toks) (r.append r2) (by rw [ab2];omega),rfl,q _ I.fresh⟩
def E3:R2:=λx y H Q=>∃l k xs,x=.ref l/\y=.int k/\H l=some (.lst xs)/\-(2 ^ 63)<=k/\k < 2 ^ 63/\xs.length * k.toNat<=sizeLine/\
 ∀p,H p=none->Q (.ref p) (upd H p (.lst (List.replicate k.toNat xs).flatten))
theorem sk(xs:List α)(k:Nat):(List.replicate k xs).flatten.length=k * xs.length:=by
 induction k with
 | zero=>simp
 | succ k ih=>rw [af7,aj6,ab2,ih,al2,Nat.add_comm]
theorem EO:dE X (binaryOp .Mult) E3:=by
 rintro pins s Z H x y v u Q I rx ry ⟨l,k,xs,rfl,rfl,hH,h1,h2,hz,q⟩;cases rx;obtain⟨t,rfl⟩:=ry;obtain⟨z,its,n,r,hl,e⟩:=I.lstM hH
 have hlen:its.toArray.size * k.toNat<=sizeLine:=by rw [ab4,<-hl];exact hz
 have hcap:¬its.toArray.size * k.toNat > (2 ^ 63 - 1) / 8:=by
  have:(sizeLine:Nat)<=(2 ^ 63 - 1) / 8:=by decide
  omega
 have hfit:¬(!Builtin.List.listFitsIndex k)=true:=by
  rw [fitsIndex_both h1 h2];exact ab3
 have hlong:¬Builtin.List.listTooLong (its.toArray.size * k.toNat)=true:=by
  rw [uv hlen];exact ab3
 have hnew:List.foldl (λx1 x2=>x1++x2) #[] (List.replicate (if its.toArray.isEmpty=true then 0 else k.toNat) its.toArray)=(List.replicate k.toNat its).flatten.toArray:=by
  have f0:∀m:Nat,List.foldl (λx1 x2=>x1++x2) #[] (List.replicate m its.toArray)=(List.replicate m its).flatten.toArray:=λm=>by
   have:=lD its m []
   rw [List.nil_append]at this;exact this
  rw [f0]
  cases its with
  | nil=>simp
  | cons a r'=>rw [if_neg (by simp)]
 refine wpAny_binaryOp_repeat_ref (T:="list") (U:="int") ∅ ⟨_,e,rfl⟩ (λs'=>typeIs_int s' k t) noFill_list_mul F.fills_int_mul F.slot_int_rmul repeat_list F.slot_int_index.lookup
  (call_meets F.slot_int_rmul (typeIs_int s k t) F.entry_int_rmul (F.args_int_rmul_2 _ _) (int___rmul___int_list k t l its.toArray n)
   ⟨e,rfl,⟨_,e,rfl⟩,call_meets F.slot_list_mul ⟨_,e,rfl⟩ F.entry_list_mul (F.args_list_mul_2 _ _) (AutoListH.list___mul___list_int_3 l its.toArray n k t hfit hcap hlong) ⟨e,?_⟩⟩)
 rw [hnew];exact⟨.ref _,_,I.lnew (t':=s.toks) (r.rep k.toNat) (by rw [sk,ap1];exact hz),rfl,q _ I.fresh⟩
section
variable {prog:Program} {w:World} {E:Value->Shared->Prop}
set_option maxRecDepth 100000 in
end
end L2
namespace Att
open PySem PySem.W PySem.Calls PyProof.Rows
theorem mQ{P:Params}{h:Heap}:∀(ns:List Int) (vs:List Value),WellAll P h vs (ns.map WData.int)->IntsAre vs ns:=by
 intro ns
 induction ns with
 | nil=>
  intro vs w;rw [aj1]at w;cases w;exact .nil
 | cons n ns ih=>
  intro vs w;rw [ad5]at w
  cases w with
  | cons a b=>
   cases a;exact .cons _ _ (ih _ b)
theorem script_of{l:OpenLaw}{n:Nat}(hn:l.most=some n){P:Params}{h:Heap}{args:List WData}{vals:List Value}
  (hpre:l.row.toRowW.claim.pre args=true) (hwl:WellAll P h vals args) :
  ∃a vs ns,vals=[Value.ref a]/\args=[WData.list (ns.map WData.int)]/\h.get? a=some { cls:=.type "list",data:=.seq vs.toArray }/\IntsAre vs ns/\ns.length<=n:=by
 have hsh:WShape.hasAll [] args [.list .int]=true:=(pre_splitW hpre).1;have hc:l.pre.holds [] { args:=args }=true:=(pre_splitW hpre).2;obtain⟨d,r,rfl,h1,h2⟩:=hasAllW_cons hsh;obtain rfl:=hasAllW_nil h2;obtain⟨xs,rfl,h3⟩:=hasW_list h1;obtain⟨ns,rfl⟩:=items_int h3
 have hlen:ns.length<=n:=by
  unfold OpenLaw.pre at hc
  have h4:(WTm.not (.lt (.lit (.int (n:Int))) (.len (.arg 0)))).holds [] { args:=[.list (ns.map .int)] }=true:=by
   have h4:=(holds_andW hc).1;rw [hn]at h4;exact h4
  have h5:=condW_of h4 (w_not (w_lt w_lit (w_len_list (w_arg rfl))));rw [aa1]at h5;refine ao8 λq=>?_
  have q':(n:Int) < ((ns.length:Nat):Int):=by omega
  first
   | (rw [decide_eq_true q']at h5;exact absurd h5 ∅)
   | (simp at h5;omega)
 cases hwl with
 | cons w1 w2=>
  cases w2
  cases w1 with
  | list ho hall=>exact⟨_,_,ns,rfl,rfl,ho,mQ ns _ hall,hlen⟩
theorem post_true(l:OpenLaw)(args:List WData):l.row.toRowW.claim.post args (.bool true) args=true:=
 postW_of (r:=l.row.toRowW) (X:=(true == true))
  (show WShape.has [] (.bool true) .bool=true by first | rfl | decide | simp [WShape.has,WShape.arms,WShape.armsAll])
  (show(WTm.eq .res (.lit (.bool true))).value [] { args:=args,res:=some (.bool true),after:=args }=some (.bool (true == true))from w_eq_bool (w_res rfl) w_lit) rfl
section
variable {prog:Program} {w:World} {A:Around} {E:Value->Shared->Prop} {s:Shared} {K:Frag}
end
end Att
namespace L2
open PySem PySem.Spec PyProof.Rows
theorem rL:∀{vs:List Value} {ns:List Int},IntsAre vs ns->aU (ns.map V.int) vs
 | _,_,.nil=>.nil
 | _,_,.cons n t h=>.cons ⟨t,rfl⟩ (rL h)
def Ed(H:Hp):Prop:=∀b,H b=none\/∃o xs,H b=some (.frz o (.lst xs))
theorem Aq{P:Program}{w:World}{K:Frag}{mg mb:Str->Option Value}{CX:BM}{k:Nat}{fa a:Addr}{fd:FuncData}{x:Str}{sp:Sp}{Zf:Shared}{vs:List Value}{ns:List Int}
  (KX:K.In Zf.heap) (hns:Zf.heap.Ns mainGlobals mg) (hb:Zf.heap.Ns builtinsNs mb) (hbb:∀x:Str,x≠"__name__"->mb x=bootBuiltins x) (hlim:Zf.heap.NoLimit) (hg:Zf.gens=#[])
  (ha:Zf.heap.get? a=some { cls:=.type "list",data:=.seq vs.toArray }) (hi:IntsAre vs ns) (hl:ns.length<=sizeLine) (hr:dv k callerA)
  (F:∀base:Heap,K.In base->base.Ns mainGlobals mg->aG P w K mg base CX k fa fd [x] sp) (hbind:∀(s:Shared) (u:Value),BindsTo s fd ⟨[u],[]⟩ [(x,u)])
  (hsp:∀H:Hp,Ed H->aF K H a (ns.map V.int)->sp [.ref a] H (λv _=>v=.bl true) λ_ _ _=>False)
  (hCX:∀H e s',CX [] H Zf (λ_ _ _=>False) e s'->False) :
  codeAny (model P w) callerA (.call (.ref fa) ⟨[.ref a],[]⟩) (λr s'=>r=.ok (.ret (.bool true))/\OldK Zf.heap s'.heap/\s'.os=Zf.os/\AllBare s'.gens) Zf:=by
 have rv:=rL hi;have lenV:=hi.length
 have core:∀H:Hp,Ed H->aF K H a (ns.map V.int)->j4 P w H Zf.heap->(∀b,H b≠none->b=a)->(H a≠none->K.lookup a=none)->
   codeAny (model P w) callerA (.call (.ref fa) ⟨[.ref a],[]⟩) (λr s'=>r=.ok (.ret (.bool true))/\OldK Zf.heap s'.heap/\s'.os=Zf.os/\AllBare s'.gens) Zf:=by
  intro H hO hS hok hA hK;have base_of:∀{b:Addr} {o:Obj},Zf.heap.get? b=some o->H b=none->(sd Zf.heap H).get? b=some o:=λe n=>zY e n
  have noA:∀{b:Addr} {o:Obj} {es:Array DictEntry} {ep:Nat},Zf.heap.get? b=some o->o.data=.dict es ep->H b=none:=λ{b o es ep} e d=>by
   cases q:H b with
   | none=>rfl
   | some u=>
    have e':b=a:=hA b (by rw [q];simp);subst e';rw [ha]at e;cases e;have d':Data.seq vs.toArray _=Data.dict es ep:=d;cases d'
  have nsK:∀{b:Addr} {m:Str->Option Value},Zf.heap.Ns b m->(sd Zf.heap H).Ns b m:=λ{b m} ⟨o,es,ep,e,d,r⟩=>⟨o,es,ep,base_of e (noA e d),d,r⟩
  have hKb:K.In (sd Zf.heap H):=λb o e=>base_of (KX b o e) (by
   cases q:H b with
   | none=>rfl
   | some u=>
    have e':b=a:=hA b (by rw [q];simp);subst e'
    rw [hK (by rw [q];simp)]at e;cases e)
  have hM:Mod K mg (sd Zf.heap H):=⟨hKb,nsK hns,⟨mb,nsK hb,hbb⟩,let ⟨mc,h1,h2⟩:=hlim;⟨mc,nsK h1,h2⟩⟩;have e0:vh P w K mg (sd Zf.heap H) callerA [] Zf H:=⟨rfl,hM,λb o e=>CI e,Nat.le_of_eq (yt _ _),trivial,λb hb=>absurd (show b∈([]:List Addr)from hb) (by simp),hok,.of_eq hg⟩;refine ap0 ((F _ hKb (nsK hns)).run callerA [] Zf H ⟨[.ref a],[]⟩ [.ref a] [.ref a] _ _ hr e0 (hbind Zf (.ref a)) (.cons rfl .nil) (hsp H hO hS)) λr s' h=>?_
  cases r with
  | error e=>exact(hCX H e s' h).elim
  | ok fl=>
   cases fl with
   | next=>exact False.elim h
   | brk=>exact False.elim h
   | cont=>exact False.elim h
   | ret u=>
    obtain⟨v,H',os,bare,un,hok',r',q⟩:=h;have q':v=.bl true:=q;subst q';obtain rfl:u=Value.bool true:=r';refine⟨rfl,OldK.of_keep λb o e=>?_,os,bare⟩
    cases q:H b with
    | none=>exact un.keep b o e q (by intro z;exact absurd (show b∈([]:List Addr)from z) (by simp)) (by simp)
    | some u=>
     rcases hO b with z | ⟨ob,xs,z⟩
     ·rw [q]at z;cases z
     ·have z2:=un.frzs b ob _ z
      obtain⟨e1,_⟩:=hok b _ z;obtain⟨e2,_⟩:=hok' b _ z2;rw [e]at e1;cases e1;exact e2
 cases hk:K.lookup a with
 | some o=>
  have e:=KX a o hk;rw [ha]at e;cases e;refine core (λ_=>none) (λ_=>.inl rfl) (.inr ⟨_,vs.toArray,_,hk,rfl,rfl,rfl,by rw [ab4,lenV];exact hl,by simpa using rv⟩) (λb u z=>by have z':(none:Option HO)=some u:=z;cases z') (λb z=>absurd rfl z) λz=>absurd rfl z
 | none=>
  refine core (λb=>if b=a then some (.frz { cls:=.type "list",data:=.seq vs.toArray } (.lst (ns.map V.int)))else none) (λb=>?_) (.inl (.inr ⟨{ cls:=.type "list",data:=.seq vs.toArray },if_pos rfl⟩)) (λb u z=>?_) (λb z=>?_) λ_=>hk
  ·by_cases hb:b=a
   ·exact .inr ⟨_,_,if_pos hb⟩
   ·exact .inl (if_neg hb)
  ·by_cases hb:b=a
   ·have z':=(if_pos hb).symm.trans z
    cases z';subst hb;exact⟨ha,by rw [aa1];exact hl,vs,_,rv,ha⟩
   ·have z':=(if_neg hb).symm.trans z
    cases z'
  ·by_cases hb:b=a
   ·exact hb
   ·exact absurd (if_neg hb) z
abbrev KOf{K:Frag}{h:Heap}(_:K.In h):Frag:=K
end L2
namespace L2
open PySem PySem.Spec PyProof.Rows
variable {H:Hp} {f:Addr} {qual x:Str} {st:Stmt}
def aN(s:Stmt)(j:Nat):Stmt:=match s with
 | .ClassDef _ _ _ body _ _ _ _ _ _ _=>body.getD j (.Pass ⟨0,0,0,0⟩)
 | _=>.Pass ⟨0,0,0,0⟩
def cz(s:Stmt):Arguments:=match s with
 | .FunctionDef _ a _ _ _ _ _ _ _ _=>a
 | _=>{ posonlyargs:=[],args:=[],vararg:=none,kwonlyargs:=[],kw_defaults:=[],kwarg:=none,defaults:=[] }
def bY(s:Stmt):List Stmt:=match s with
 | .FunctionDef _ _ b _ _ _ _ _ _ _=>b
 | _=>[]
def ak(s:Stmt):Scope:=match s with
 | .FunctionDef _ _ _ _ _ _ sc _ _ _=>sc
 | _=>{ kind:=.function,names:=[],isGenerator:=false,isCoroutine:=false }
abbrev bV:BM:=λ_ _ _ _ _ _=>False
abbrev E0:XK:=λ_ _ _=>False
theorem oz{X:Cx}:nG bV X E0:=λ_ _ _ _ _ _ _ h=>h.elim
structure cc(K:Frag)(x qual:Str)(st:Stmt)(f:Addr)(fd:FuncData):Prop where
 ex:∃(oc:Value) (od:Option Addr) (kV doc pm:Value) (an:Option Addr) (cdv ct:Value) (osl:Array (Option Value)),
  fd=fnOf x qual (cz st) (bY st) (ak st) .none kV doc pm an cdv ct/\K.lookup f=some ⟨oc,od,.func fd,osl⟩/\codeIn K cdv qual=true
 kp:keepIn K (.ref f)=true
section
variable {P:Program} {w:World} {K:Frag} {mg:Str->Option Value} {base:Heap}
theorem cc.ok{fd:FuncData}{N ps:List Str}{k:Nat}{sp:Sp}(F:cc K x qual st f fd)(S:aw N ps (ak st))
  (hbody:∀(cdv:Value) (A:Around) (outer:List Env) (s:Shared) (H:Hp) (vs:List V) (Q:VK) (E:XK),dv k (A.deeper (envOfC qual (ak st) s.heap.objs.size f cdv))->sp vs H Q E->
   vs.length=ps.length/\∃t,w8 (tX bV P w K mg base N qual (ak st) f cdv A outer s H E).nox (bY st) t/\t { nx:=λ_ H'=>Q .non H',rt:=Q } (start N vs) H):aG P w K mg base bV (k+1) f fd ps sp:=by
 obtain⟨oc,od,kV,doc,pm,an,cdv,ct,osl,rfl,lk,hcd⟩:=F.ex;refine DG lk hcd S (λA o s vs H Q E hr hsp=>(hbody cdv A o s H vs Q E (hr.deeper _) hsp).1) λA outer s H vs Q E hr hsp=>?_;obtain⟨_,t,h,q⟩:=hbody cdv A outer s H vs Q E hr hsp;exact⟨t,h.nox,q⟩
theorem cc.binds{fd:FuncData}{ps:List Str}(F:cc K x qual st f fd)
  (h:∀(kV doc pm:Value) (an:Option Addr) (cdv ct:Value) (us:List Value),us.length=ps.length->bindArgs (fnOf x qual (cz st) (bY st) (ak st) .none kV doc pm an cdv ct) ⟨us,[]⟩=pure (ps.zip us)):dh K fd ps []:=by
 obtain⟨oc,od,kV,doc,pm,an,cdv,ct,osl,rfl,lk,hcd⟩:=F.ex;exact .all (h kV doc pm an cdv ct)
theorem fun_mk{oc:Value}{od an:Option Addr}{osl:Array (Option Value)}{kV doc pm cdv ct:Value}(l:K.lookup f=some ⟨oc,od,.func (fnOf x qual (cz st) (bY st) (ak st) .none kV doc pm an cdv ct),osl⟩)
  (c:codeIn K cdv qual=true) (k:keepIn K (.ref f)=true):cc K x qual st f (fnOf x qual (cz st) (bY st) (ak st) .none kV doc pm an cdv ct):=⟨⟨oc,od,kV,doc,pm,an,cdv,ct,osl,rfl,l,c⟩,k⟩
end
section
variable {X:Cx}
end
def ar(H H':Hp):Prop:=∀b o,H b=some o->H' b=some o
theorem ar.refl(H:Hp):ar H H:=λ_ _ h=>h
theorem ar.trans{H1 H2:Hp}(a:ar H H1)(b:ar H1 H2):ar H H2:=λc o h=>b c o (a c o h)
theorem ar.free{H':Hp}(e:ar H H'){l:Addr}(h:H' l=Option.none):H l=Option.none:=by
 cases q:H l with
 | none=>rfl
 | some o=>
  rw [e l o q]at h;cases h
theorem ar.seq{K:Frag}{H':Hp}{a:Addr}{xs:List V}(e:ar H H')(h:aF K H a xs):aF K H' a xs:=by
 rcases h with(h | ⟨o,h⟩) | h
 ·exact .inl (.inl (e _ _ h))
 ·exact .inl (.inr ⟨o,e _ _ h⟩)
 ·exact .inr h
end L2
namespace GM
def stirSt(c p:Int):Nat->Int×Int
 | 0=>(0,(c % 998244341+7919 * p) % 998244353+3)
 | i+1=>((stirSt c p i).1 * 998244353+((stirSt c p i).2 % 4099 * 240007+(stirSt c p i).2 / 4099 * 89+1201 * (i:Int)+11) % 998244353,
   ((stirSt c p i).2 % 4099 * 240007+(stirSt c p i).2 / 4099 * 89+1201 * (i:Int)+11) % 998244353)
def stirF(c p:Int):Int:=(stirSt c p 4).1
theorem mr(c p:Int):∀i:Nat,0<=(stirSt c p i).1/\(stirSt c p i).1+1<=998244353 ^ i
 | 0=>⟨al1 _,al1 _⟩
 | i+1=>by
  obtain⟨h1,h2⟩:=mr c p i;have h3:=ae2 ((stirSt c p i).2 % 4099 * 240007+(stirSt c p i).2 / 4099 * 89+1201 * (i:Int)+11) (show(998244353:Int)≠0 by decide);have h4:=ad7 ((stirSt c p i).2 % 4099 * 240007+(stirSt c p i).2 / 4099 * 89+1201 * (i:Int)+11) (show(0:Int) < 998244353 by decide);have e:(998244353:Int) ^ (i+1)=998244353 ^ i * 998244353:=Int.pow_succ ..;simp only [stirSt];rw [e];generalize((stirSt c p i).2 % 4099 * 240007+(stirSt c p i).2 / 4099 * 89+1201 * (i:Int)+11) % 998244353=r at h3 h4;generalize(stirSt c p i).1=f at h1 h2;generalize(998244353:Int) ^ i=q at h2;omega
theorem pq(c p:Int):0<=stirF c p:=(mr c p 4).1
theorem u6(c p:Int):stirF c p < 2 ^ 128:=by
 have h:=(mr c p 4).2
 have e:(998244353:Int) ^ 4<=2 ^ 128:=by decide
 unfold stirF;omega
def powGo:Nat->Int->Int->Int
 | 0,p,_=>p
 | f+1,p,a=>if p<=a then powGo f (p * 1000000) a else p
theorem jx:∀(f:Nat) (p a:Int),0 < p->0 < powGo f p a
 | 0,_,_,h=>h
 | f+1,p,a,h=>by
  simp only [powGo]
  split
  ·exact jx f _ a ()
  ·exact h
theorem oC:∀(f:Nat) (p a b:Int),p<=b->a * 1000000<=b->powGo f p a<=b
 | 0,_,_,_,h,_=>h
 | f+1,p,a,b,h,h'=>by
  simp only [powGo]
  split
  ·exact oC f _ a b () h'
  ·exact h
def absI(c:Int):Int:=if c < 0 then -c else c
theorem rT(c:Int):0<=absI c:=by unfold absI;split<;>omega
theorem mz(c:Int):absI c=c.natAbs:=by unfold absI;split<;>omega
def powF(c:Int):Int:=powGo ((absI c).toNat+1) 1 (absI c)
def gotF(ns:List Int)(p:Int):Int:=match ns[p.toNat]? with
 | none=>0
 | some c=>absI c+powF c * stirF (absI c) p
theorem gotF_nn(ns:List Int)(p:Int):0<=gotF ns p:=by
 unfold gotF
 split
 ·exact al1 _
 ·have h1:=rT ‹Int›
  have h2:=Int.mul_nonneg (an5 (jx ((absI ‹Int›).toNat+1) 1 (absI ‹Int›) ∅)) (pq (absI ‹Int›) p);unfold powF;omega
theorem Ca{n:Nat}{c p:Int}(h:c.natAbs < 2 ^ n):(absI c+powF c * stirF (absI c) p).natAbs < 2 ^ (n+200):=by
 have ha:=rT c
 have hA:absI c < (2:Int) ^ n:=by
  rw [mz]
  exact_mod_cast h
 have hn:(1:Int)<=2 ^ n:=by
  have:1<=2 ^ n:=Nat.one_le_two_pow
  exact_mod_cast this
 have hp:powF c<=2 ^ n * 1000000:=oC _ 1 (absI c) _ () ();have hp0:0 < powF c:=jx _ _ _ ∅;have hs:=u6 (absI c) p;have hs0:=pq (absI c) p;have hm:powF c * stirF (absI c) p<=(2 ^ n * 1000000) * 2 ^ 128:=Int.mul_le_mul hp (an5 hs) hs0 ();have hm0:0<=powF c * stirF (absI c) p:=Int.mul_nonneg (an5 hp0) hs0;have e:(2:Int) ^ (n+200)=2 ^ n * 2 ^ 200:=Int.pow_add ..
 have e2:(2:Int) ^ 200=1606938044258990275541962092341162602522202993782792835301376:=by decide
 have e3:(2:Int) ^ 128=340282366920938463463374607431768211456:=by decide
 have key:absI c+powF c * stirF (absI c) p < 2 ^ (n+200):=by
  rw [e,e2];rw [e3]at hm;generalize(2:Int) ^ n=q at hA hn hm;generalize powF c * stirF (absI c) p=m at hm hm0;omega
 have k0:0<=absI c+powF c * stirF (absI c) p:=by omega
 have:((absI c+powF c * stirF (absI c) p).natAbs:Int) < ((2 ^ (n+200):Nat):Int):=by
  rw [am6 k0]
  exact_mod_cast key
 exact_mod_cast this
theorem powF_lt{n:Nat}{c:Int}(h:c.natAbs < 2 ^ n):(powF c).natAbs < 2 ^ (n+21):=by
 have ha:=rT c
 have hA:absI c < (2:Int) ^ n:=by
  rw [mz]
  exact_mod_cast h
 have hn:(1:Int)<=2 ^ n:=by
  have:1<=2 ^ n:=Nat.one_le_two_pow
  exact_mod_cast this
 have hp:powF c<=2 ^ n * 1000000:=oC _ 1 (absI c) _ () ();have hp0:0 < powF c:=jx _ _ _ ∅;have e:(2:Int) ^ (n+21)=2 ^ n * 2 ^ 21:=Int.pow_add ..
 have e2:(2:Int) ^ 21=2097152:=by decide
 have key:powF c < 2 ^ (n+21):=by
  rw [e,e2];generalize(2:Int) ^ n=q at hA hn hp;omega
 have:((powF c).natAbs:Int) < ((2 ^ (n+21):Nat):Int):=by
  rw [am6 (an5 hp0)]
  exact_mod_cast key
 exact_mod_cast this
theorem stirF_natAbs(c p:Int):(stirF c p).natAbs < 2 ^ 128:=by
 have h:=u6 c p;have h0:=pq c p
 have:((stirF c p).natAbs:Int) < ((2 ^ 128:Nat):Int):=by
  rw [am6 h0]
  exact_mod_cast h
 exact_mod_cast this
theorem powGo_stop{f:Nat}{p a:Int}(h:¬p<=a):powGo f p a=p:=by
 cases f with
 | zero=>rfl
 | succ f=>simp only [powGo];rw [if_neg h]
theorem gotF_lt{n:Nat}{ns:List Int}{p:Int}(h:∀x∈ns,x.natAbs < 2 ^ n):(gotF ns p).natAbs < 2 ^ (n+200):=by
 unfold gotF
 split
 ·exact Nat.two_pow_pos _
 ·rename_i c e
  exact Ca (h c (ab8 e))
def cellsF(ns:List Int)(lo hi:Int):List Int:=(List.range ((if (ns.length:Int) < hi then(ns.length:Int)else hi) - lo).toNat).map λ(i:Nat)=>gotF ns (lo+i)
end GM
set_option maxHeartbeats 4000000
namespace L2
open PySem PySem.Spec PyProof.Rows
variable {E:Value->Shared->Prop} {F:List V->Hp->Prop} {H:Hp} {K:Frag} {Q:VK} {R:It->Hp->Prop} {X:Cx} {a:Addr} {cl:List (Str×Addr)} {env:Env} {g:TG} {i j:Int} {js:List Nat} {pins:List (Addr×Obj)} {pos:Pos} {r:V->Hp->(It->Hp->Prop)->Prop} {s:Shared} {scope:Scope} {tg:Expr} {v:V} {w:World} {x z:Str} {xs:List V} {Z:St}
def iH(cells:List (Str×Addr)):List (Str×NameKind)->List (Str×Addr)->List (Str×Addr)
 | [],cs=>cs
 | (n,k)::r,cs=>iH cells r (if k == .free then(n,(cells.lookup n).getD 0)::cs else cs)
theorem jA(h:∀y∈scope.names,y.2=.free->∃c,env.cells.lookup y.1=some c):closureFor scope env=pure (iH env.cells scope.names []):=by
 simp only [closureFor];generalize scope.names=l at h |-
 have key:∀(l:List (Str×NameKind)) (cs:List (Str×Addr)),(∀y∈l,y.2=.free->∃c,env.cells.lookup y.1=some c)->
   (forIn l cs (λ(x:Str×NameKind) (r:List (Str×Addr))=>(if (x.snd == NameKind.free)=true then(do let a <-cellOf env x.fst;pure (ForInStep.yield ((x.fst,a)::r)))else pure (ForInStep.yield r):Sem (ForInStep (List (Str×Addr))))):Sem (List (Str×Addr)))=pure (iH env.cells l cs):=by
  intro l
  induction l with
  | nil=>intro cs _;rfl
  | cons x r ih=>
   intro cs h;obtain⟨n,k⟩:=x;have hr:∀y∈r,y.2=.free->∃c,env.cells.lookup y.1=some c:=λy hy=>h y (ad8 _ hy);rw [ag2]
   by_cases hk:k=.free
   ·subst hk
    obtain⟨c,hc⟩:=h (n,.free) ad6 rfl
    have e:cellOf env n=pure c:=by unfold cellOf;rw [show env.cells.lookup n=some c from hc]
    simp only [beq_self_eq_true,if_true,e];show(forIn r ((n,c)::cs) _:Sem _)=_;rw [ih _ hr];simp only [iH,beq_self_eq_true,if_true];rw [show env.cells.lookup n=some c from hc];rfl
   ·have hb:(k == NameKind.free)=false:=by simpa using hk
    simp only [hb,ad0,if_false];show(forIn r cs _:Sem _)=_;rw [ih _ hr];simp only [iH,hb,ad0,if_false]
 rw [key l [] h];rfl
theorem qN{cells:List (Str×Addr)}:∀{l:List (Str×NameKind)} {cs:List (Str×Addr)} {x:Str} {c:Addr},(∀y∈l,y.2=.free->∃c,cells.lookup y.1=some c)->
  (∀x c,cs.lookup x=some c->cells.lookup x=some c)->(iH cells l cs).lookup x=some c->cells.lookup x=some c
 | [],_,_,_,_,hs,e=>hs _ _ e
 | (n,k)::r,cs,x,c,h,hs,e=>by
  refine qN (l:=r) (λy hy=>h y (ad8 _ hy)) ?_ e;intro z d
  by_cases hk:k=.free
  ·subst hk
   obtain⟨c',hc'⟩:=h (n,.free) ad6 rfl;have hc'':cells.lookup n=some c':=hc';simp only [beq_self_eq_true,if_true,ag7,hc'',Option.getD_some]
   cases hz:z == n with
   | true=>
    have:z=n:=by simpa using hz
    subst this;intro q;cases q;exact hc''
   | false=>exact hs z d
  ·have hb:(k == NameKind.free)=false:=by simpa using hk
   simp only [hb,ad0,if_false];exact hs z d
theorem lA{cells:List (Str×Addr)}:∀{l:List (Str×NameKind)} {cs:List (Str×Addr)} {x:Str},((x,NameKind.free)∈l\/∃c,cs.lookup x=some c)->∃c,(iH cells l cs).lookup x=some c
 | [],_,_,h=>by
  rcases h with h | h
  ·cases h
  ·exact h
 | (n,k)::r,cs,x,h=>by
  refine lA (l:=r) ?_;rcases h with h | ⟨c,h⟩
  ·rcases ab0.mp h with e | h
   ·cases e
    refine .inr ⟨(cells.lookup n).getD 0,?_⟩;simp only [beq_self_eq_true,if_true,ag7]
   ·exact .inl h
  ·by_cases hk:k=.free
   ·subst hk
    simp only [beq_self_eq_true,if_true,ag7]
    cases hz:x == n with
    | true=>exact .inr ⟨_,rfl⟩
    | false=>exact .inr ⟨c,h⟩
   ·have hb:(k == NameKind.free)=false:=by simpa using hk
    simp only [hb,ad0,if_false];exact .inr ⟨c,h⟩
theorem fW{env:Env}:∀{names:List (Str×NameKind)} {x:Str},
  (names.map λ(n,k)=>if (k == NameKind.free && env.scope.kind == .function && env.kindOf n == some .cell)then(n,NameKind.cell)else(n,k)).lookup x =
   (names.lookup x).map λk=>if (k == NameKind.free && env.scope.kind == .function && env.kindOf x == some .cell)then NameKind.cell else k
 | [],_=>rfl
 | (n,k)::r,x=>by
  have ih:=@fW env r x;show List.lookup x ((if (k == NameKind.free && env.scope.kind == .function && env.kindOf n == some .cell)=true then(n,NameKind.cell)else(n,k))::_)=_
  cases hx:x == n with
  | true=>
   have e:x=n:=by simpa using hx
   subst e
   by_cases hc:(k == NameKind.free && env.scope.kind == .function && env.kindOf x == some .cell)=true
   ·rw [if_pos hc];simp only [ag7,hx,ak9];rw [if_pos hc]
   ·rw [if_neg hc];simp only [ag7,hx,ak9];rw [if_neg hc]
  | false=>
   by_cases hc:(k == NameKind.free && env.scope.kind == .function && env.kindOf n == some .cell)=true
   ·rw [if_pos hc];simp only [ag7,hx];exact ih
   ·rw [if_neg hc];simp only [ag7,hx];exact ih
theorem mem_of_lookup{κ ν:Type}[BEq κ][LawfulBEq κ]:∀{l:List (κ×ν)} {x:κ} {v:ν},l.lookup x=some v->(x,v)∈l
 | [],_,_,h=>by cases h
 | (n,k)::r,x,v,h=>by
  rw [ag7]at h
  cases hx:x == n with
  | true=>
   rw [hx]at h
   have e:x=n:=by simpa using hx
   cases h;rw [e];exact ad6
  | false=>
   rw [hx]at h;exact ad8 _ (mem_of_lookup h)
structure bG(X:Cx)(scope:Scope)(js:List Nat):Prop where
 kind:scope.kind=.function
 cell:∀y∈scope.names,y.2≠.cell
 names:∀y∈scope.names,y.2=.local->scope.names.lookup y.1=some .local
 free:∀y∈scope.names,y.2=.free->X.env.kindOf y.1=some .cell\/X.env.kindOf y.1=some .free
 js:∀j∈js,scope.names.lookup (X.N.getD j "")=some .free
def xi(out:Scope)(N:List Str)(scope:Scope)(js:List Nat):Bool:=
 (scope.kind == .function) && scope.names.all (λy=>y.2 != .cell) && scope.names.all (λy=>y.2 != .local || scope.names.lookup y.1 == some .local) &&
  scope.names.all (λy=>y.2 != .free || (out.names.lookup y.1 == some .cell || out.names.lookup y.1 == some .free)) && js.all λj=>scope.names.lookup (N.getD j "") == some .free
theorem bG.of(h:xi X.env.scope X.N scope js=true):bG X scope js:=by
 simp only [xi,ai7,ak5]at h;obtain⟨⟨⟨⟨h1,h2⟩,h3⟩,h4⟩,h5⟩:=h;refine⟨by simpa using h1,λy hy=>by simpa using h2 y hy,λy hy e=>?_,λy hy e=>?_,λj hj=>by simpa using h5 j hj⟩
 ·have:=h3 y hy
  rw [e]at this;simpa using this
 ·have:=h4 y hy
  rw [e]at this;simpa [Env.kindOf]using this
def pN(X:Cx)(scope:Scope)(own:List Str)(js:List Nat)(C:Addr)(s:Shared)(H:Hp)(ex:List Addr)(pn:List (Addr×Obj))(E:Value->Shared->Prop):Cx where
 prog:=X.prog
 w:=X.w
 K:=X.K
 mg:=X.mg
 base:=X.base
 A:=X.A
 N:=own++js.map λj=>X.N.getD j ""
 Zh:=s
 Z2:=H
 env:=compEnvC scope (iH X.env.cells scope.names []) C X.env
 outer:=X.stack
 stack:=X.stack
 ex:=ex
 fn:=λ_=>false
 calm:=X.calm
 pn:=pn
 xe:=E
def Zs(n:Nat)(js:List Nat)(Z:St):St:=List.replicate n none++js.map λj=>Z.getD j none
section
variable {H':Hp} {own:List Str} {C:Addr} {fp:List Addr}
theorem bG.clos(ok:bG X scope js)(I:aK X pins Z H s):∀y∈scope.names,y.2=.free->∃c,X.env.cells.lookup y.1=some c:=λy hy e=>I.ok.has y.1 (ok.free y hy e)
theorem bG.sub(ok:bG X scope js)(I:aK X pins Z H s){c:Addr}(e:(iH X.env.cells scope.names []).lookup x=some c):X.env.cells.lookup x=some c:=
 qN (ok.clos I) (λ_ _ z=>by cases z) e
theorem bG.kindOf(ok:bG X scope js)(h:(compEnvC scope cl C X.env).kindOf x=some .cell\/(compEnvC scope cl C X.env).kindOf x=some .free):(x,NameKind.free)∈scope.names:=by
 have e:(compEnvC scope cl C X.env).kindOf x=(scope.names.lookup x).map λk=>if (k == NameKind.free && X.env.scope.kind == .function && X.env.kindOf x == some .cell)then NameKind.cell else k:=fW;rw [e]at h
 cases q:scope.names.lookup x with
 | none=>rw [q]at h;simp at h
 | some k=>
  have hm:=mem_of_lookup q
  by_cases hk:k=.free
  ·subst hk;exact hm
  ·have hb:(k == NameKind.free)=false:=by simpa using hk
   rw [q]at h;simp only [ak9,hb,Bool.false_and,ad0,if_false]at h;rcases h with h | h
   ·exact absurd (Option.some.inj h) (ok.cell _ hm)
   ·exact absurd (Option.some.inj h) hk
theorem bG.isFree(ok:bG X scope js)(h:scope.names.lookup x=some .free):(compEnvC scope cl C X.env).kindOf x=some .cell\/(compEnvC scope cl C X.env).kindOf x=some .free:=by
 have e:(compEnvC scope cl C X.env).kindOf x=(scope.names.lookup x).map λk=>if (k == NameKind.free && X.env.scope.kind == .function && X.env.kindOf x == some .cell)then NameKind.cell else k:=fW;rw [e,h];simp only [ak9]
 split
 ·exact .inl rfl
 ·exact .inr rfl
theorem Cb(ok:bG X scope js)(I:aK X pins Z H s)(hC:s.heap.objs.size<=C)(f:∀b∈fp,mO X pins H b)(fo:∀b∈fp,∃o,s.heap.get? b=some o):(pN X scope own js C s H fp (X.pn++pins) E).Ok where
 mod:=I.ok.mod
 kind:=ok.kind
 glob:=I.ok.glob
 blt:=I.ok.blt
 above:=hC
 inj:=λx y c e1 e2=>I.ok.inj x y c (ok.sub I e1) (ok.sub I e2)
 has:=λx h=>lA (.inl (ok.kindOf h))
 cab:=λx c h=>nomatch (show false=true from h)
 hd:=I.ok.hd
 frames:=I.ok.frames
 stk:=.inl rfl
 exf:=λb hb=>by
  obtain⟨o,e⟩:=fo b hb;obtain⟨_,_,_,_,f4,_⟩:=f b hb;exact⟨ac0 (ab6 (aa9 e) hC),λx c q=>f4 x c (ok.sub I q)⟩
 bs:=I.bs
 bsz:=ac2 I.ok.bsz I.sz
 noex:=λb o e hb=>by
  obtain⟨_,_,_,f3,_,_⟩:=f b hb;rcases f3 with z | z
  ·exact I.ok.noex b o e z
  ·exact absurd (ab6 (aa9 e) (ac2 I.ok.bsz z)) (ah7 _)
 exfs:=λb hb hs=>by
  obtain⟨_,f1,f2,_,_,_⟩:=f b hb;rcases ab0.mp (I.stkSub b hs)with e | e
  ·exact f1 e
  ·exact f2 e
 funs:=I.stack
 frf:=I.stkFree
theorem z8{s':Shared}{pins':List (Addr×Obj)}{m:Str->Option Value}(ok:bG X scope js)(I:aK X pins Z H s)(hC:s.heap.objs.size<=C)(f:∀b∈fp,mO X pins H b)(fo:∀b∈fp,∃o,s.heap.get? b=some o)
  (hos:s'.os=s.os) (hg:AllBare s'.gens) (u:Un (vd X.stack) fp H H' s.heap s'.heap) (hn:s'.heap.Ns C m) (hok:j4 X.prog X.w H' s'.heap) (hCf:H' C=none)
  (hp:∀p∈pins',s'.heap.get? p.1=some p.2/\H' p.1=none/\p.1≠C/\p.1∉vd X.stack/\∀v,p.2.data≠.cell v) :
  aK (pN X scope own js C s H fp (X.pn++pins) E) pins' (Zs own.length js Z) H' s':=by
 have Ok:=Cb (own:=own) (E:=E) ok I hC f fo
 have cellAt:∀x c,X.env.cells.lookup x=some c->∀v,s.heap.IsCell c v->s'.heap.IsCell c v:=λx c e v ⟨o,ho,hd⟩=>by
  have nx:c∉fp:=λz=>by
   obtain⟨_,_,_,_,f4,_⟩:=f c z;exact f4 x c e rfl
  obtain⟨sl,q⟩:=u.any ho (I.freeC x c e) nx;exact⟨_,q,hd⟩
 refine⟨Ok,hos,hg,u,⟨m,hn,?_⟩,?_,hCf,?_,?_,hok,?_⟩
 ·intro i x v e1 e2 _
  have e1':(own++js.map λj=>X.N.getD j "")[i]?=some x:=e1;have e2':(List.replicate own.length none++js.map λj=>Z.getD j none)[i]?=some (some v):=e2
  by_cases hi:i < own.length
  ·rw [ab1 (by simpa using hi),List.getElem?_replicate]at e2'
   split at e2'<;>cases e2'
  ·rw [ab9 (),aa5]at e1'
   rw [ab9 (by simpa using am0.mp hi),aa5,List.length_replicate]at e2'
   cases hj:js[i - own.length]? with
   | none=>rw [hj]at e1';cases e1'
   | some j=>
    rw [hj]at e1' e2';have ex:X.N.getD j ""=x:=Option.some.inj e1';have ev:Z.getD j none=some v:=Option.some.inj e2';have hjm:j∈js:=ab8 hj
    have hjl:j < Z.length:=by
     apply Classical.byContradiction;intro h;rw [ae9,ag6 (am0.mp h)]at ev;cases ev
    have Yv:Z[j]?=some (some v):=by
     rw [ae9,aa2 hjl]at ev;rw [aa2 hjl];exact congrArg some ev
    have hNl:j < X.N.length:=by rw [<-I.len];exact hjl
    have hN:X.N[j]?=some x:=by
     rw [ae9,aa2 hNl]at ex;rw [aa2 hNl];exact congrArg some ex
    have hfr:scope.names.lookup x=some .free:=by rw [<-ex];exact ok.js j hjm
    have hk:=ok.free _ (mem_of_lookup hfr) rfl;obtain⟨m0,_,hl⟩:=I.loc;obtain⟨w',r,l⟩:=hl j x v hN Yv (.inr hk);refine⟨w',r,?_⟩;rcases l with⟨hk',_⟩ | ⟨_,c,hc,hz⟩
    ·have hk'':X.env.kindOf x=some .local:=hk'
     rcases hk with q | q
     ·exact absurd (hk''.symm.trans q) (by intro z;cases z)
     ·exact absurd (hk''.symm.trans q) (by intro z;cases z)
    ·obtain⟨c',hc'⟩:∃c',(iH X.env.cells scope.names []).lookup x=some c':=lA (.inl (mem_of_lookup hfr))
     have e:=ok.sub I hc';rw [hc]at e;cases e;exact .inr ⟨ok.isFree hfr,c,hc',cellAt x c hc _ hz⟩
 ·intro x c e
  obtain⟨v,z⟩:=I.cell x c (ok.sub I e);exact⟨v,cellAt x c (ok.sub I e) v z⟩
 ·intro x c e
  obtain⟨v,o,ho,_⟩:=I.cell x c (ok.sub I e);refine u.free c o ho (I.freeC x c (ok.sub I e)) λz=>?_;obtain⟨_,_,_,_,f4,_⟩:=f c z;exact f4 x c (ok.sub I e) rfl
 ·intro p hpm
  rcases ad2.mp hpm with h | h
  ·have h':p∈X.pn++pins:=h
   obtain⟨e,n,ne,nf,d⟩:=I.pin p h'
   have nfr:p.1∉vd X.stack:=λz=>by
    rcases ab0.mp (I.stkSub _ z)with q | q
    ·exact ne q
    ·exact nf q
   have nex:p.1∉fp:=λz=>by
    obtain⟨_,_,_,_,_,f5⟩:=f p.1 z;exact f5 p h' rfl
   exact⟨u.keep p.1 p.2 e n nfr nex,u.free p.1 p.2 e n nex,ac0 (ab6 (aa9 e) hC),nfr,d⟩
  ·exact hp p h
 ·show(List.replicate own.length none++js.map λj=>Z.getD j none).length=(own++js.map λj=>X.N.getD j "").length
  simp
theorem aK.track{D:Addr}{ys:List V}{its:List Value}{n:Nat}(I:aK X pins Z H s)(hn:H D=none)(ho:s.heap.get? D=some { cls:=.type "list",data:=.seq its.toArray n })(r:aU ys its)(hz:ys.length<=sizeLine)
  (h1:D∈X.ex\/X.Zh.heap.objs.size<=D) (hL:D≠X.env.locals) (h2:∀x c,X.env.cells.lookup x=some c->c≠D) (h3:∀p∈X.pn++pins,p.1≠D):aK X pins Z (upd H D (.lst ys)) s:=by
 have ne:∀b o,H b=some o->b≠D:=λb o e=>ao e hn
 refine I.step (h':=s.heap) (g':=s.gens) (d':=s.drawn) (t':=s.toks) (ch:=[D]) (λb hb=>?_) (λb o _ _ _ e _=>e) (λb o _ _ _ e _=>⟨o.slots,e⟩) (λb o hc _ n=>?_)
  (λb o _ e=>⟨o,e⟩) (λb xs e=>?_) (λb o u e=>?_) (λb ps e=>⟨#[],?_⟩) (λ_ z=>z) (λb u e=>?_) I.bare
 ·have e:b=D:=by simpa using hb
  subst e;exact⟨h1,hL,h2,h3⟩
 ·rw [aj (λz=>hc (by simp [z]))];exact n
 ·rw [aj (ne _ _ e)];exact e
 ·rw [aj (ne _ _ e)];exact e
 ·rw [aj (ne _ _ e),e];simp
 ·by_cases hb:b=D
  ·subst hb
   rw [ae]at e;cases e;exact⟨hz,its,n,r,ho⟩
  ·rw [aj hb]at e
   exact(I.hok b u e).stay (λc v _ q=>q) (λc q=>by rw [aj (ne _ _ q)];exact q) λc xs q=>by rw [aj (ne _ _ q)];exact q
end
structure G3(X:Cx)(pins:List (Addr×Obj))(C:Addr):Prop where
 ne:C≠X.env.locals
 old:C∈X.ex\/X.Zh.heap.objs.size<=C
 cells:∀x c,X.env.cells.lookup x=some c->c≠C
 pin:∀p∈X.pn++pins,p.1≠C
theorem G3.go{C:Addr}{h':Heap}(o:G3 X pins C)(I:aK X pins Z H s)(hn:H C=none)(sb:Heap.SameBut C s.heap h'):aK X pins Z H { s with heap:=h' }:=
 I.turned (t':=s.toks) (λb q hb e=>(sb.2 b hb).trans e) hn o.ne o.old o.cells o.pin
section
variable {prog:Program} {A:Around} {R:Result->Shared->Prop}
theorem tW{elt target iter:Expr}{ifs:List Expr}{it acc:Value}(I:Nat->Shared->Prop)
  (turn:∀n s,I n s->wpAny (model prog w) A (pyNext it) (λr Zf=>match r with
   | none=>R (.ok .next) Zf
   | some v=>wpAny (model prog w) A (letOwnedTupleGo target it v) (λ_ Yn=>wpAny (model prog w) A (assign target env v) (λ_ Zw=>
     wpAny (model prog w) A (forIn ifs true λc r=>if r=true then do let ok <-isTrue c env (eval c env);pure (ForInStep.yield ok)else pure (ForInStep.yield r)) (λok Zn=>
      if ok=true then wpAny (model prog w) A (eval elt env) (λx Z9=>
       wpAny (model prog w) A (call (.builtin "list.append") [acc,x]) (λ_ Yo=>∃m,m < n/\I m Yo) (notedBy (model prog w) A env λe s'=>R (.error e) s') Z9) (notedBy (model prog w) A env λe s'=>R (.error e) s') Zn
      else ∃m,m < n/\I m Zn) (notedBy (model prog w) A env λe s'=>R (.error e) s') Zw) (notedBy (model prog w) A env λe s'=>R (.error e) s') Yn) (notedBy (model prog w) A env λe s'=>R (.error e) s') Zf)
    (notedBy (model prog w) A env λe s'=>R (.error e) s') s)
  (n:Nat) (h:I n s) :
  codeAny (model prog w) A (.compLoop (.ListComp elt [⟨target,iter,ifs,0⟩] scope pos) 0 it acc env) R s:=by
 refine codeAny_loop rfl I (λn s hI=>?_) n h;show wpAny _ A ((compTurn (.ListComp elt [⟨target,iter,ifs,0⟩] scope pos) 0 it acc env).onRaise (λx=>do noteFrame x env;theTreesLotGoes x)) _ _ s;refine wpAny_noted ?_;rw [compTurn_list];refine aa0 (am4 (aa0 (ag0 (turn n s hI) (λr Zf Zu=>?_) λ_ _ h'=>h')))
 cases r with
 | none=>exact aa6 Zu
 | some v=>
  refine aa0 (ag0 Zu (λ_ Yn Yw=>?_) λ_ _ h'=>h');refine aa0 (ag0 Yw (λ_ Zw Zt=>aa0 (ag0 Zt (λok Zn Z0=>?_) λ_ _ h'=>h')) λ_ _ h'=>h')
  cases ok with
  | false=>exact aa6 ⟨rfl,Z0⟩
  | true=>
   exact aa0 (aa0 (ag0 Z0 (λx Z9 Zk=>aa0 (ag0 Zk (λ_ Yo Zj=>aa6 (aa6 ⟨rfl,Zj⟩)) λ_ _ h'=>h')) λ_ _ h'=>h'))
end
def FH(X:Cx)(ifs:List Expr)(t:TT):Prop:=
 ∀(pins:List (Addr×Obj)) (s:Shared) (Z:St) (H:Hp) (Q:Bool->Hp->Prop),aK X pins Z H s->t Z H Q->
  wpAny (model X.prog X.w) X.A (forIn ifs true λc r=>if r=true then do let ok <-isTrue c X.env (eval c X.env);pure (ForInStep.yield ok)else pure (ForInStep.yield r)) (TP X pins Z Q) X.xe s
def Bs:TT:=λ_ H Q=>Q true H
theorem cI:FH X [] Bs:=λpins s Z H Q I h=>wpAny_tests_nil ⟨H,I,h⟩
theorem De{c:Expr}{t:TT}(h:PT X c t):FH X [c] t:=λpins s Z H Q I q=>wpAny_tests_one (h pins s Z H Q I q)
def Ff(n:Nat)(js:List Nat)(wi:TI)(g:TG)(tt:TT)(te:TE)(Z:St)(H:Hp)(F:List V->Hp->Prop):Prop:=wi Z H λJ H1=>∃W:Nat->Nat->List V->Hp->Prop,(∃m,W 0 m [] H1)/\∀i m ys H,W i m ys H->
 (J.stop i H/\F ys H)\/
 (J.go i H/\ys.length < sizeLine/\∃N:List V->Hp->Prop,(∀ys' H',N ys' H'->∃m',m' < m/\W (i+1) m' ys' H')/\∀x H',J.yld i H x H'->g x (Zs n js Z) H' λZg H2=>tt Zg H2 λb H3=>if b=true then te Zg H3 λy H4=>N (ys++[y]) H4 else N ys H3)
def Bv(n:Nat)(js:List Nat)(wi:TI)(g:TG)(tt:TT)(te:TE):TE:=λZ H Q=>Ff n js wi g tt te Z H λys H=>∀p,H p=none->Q (.ref p) (upd H p (.lst ys))
section
variable {own:List Str} {iter elt:Expr} {ifs:List Expr} {wi:TI} {tt:TT} {te:TE}
abbrev qH:Value->Shared->Prop:=λ_ _=>False
theorem nM{H2:Hp}{s2:Shared}{it:Addr}{fp:List Addr}{tn:Nat->Heap->Prop}{J:It}{RR:Value->Addr->Result->Shared->Prop}
  (hc:X.calm=true) (ok:bG X scope js)
  (hg:∀C s H ex pn,PG (pN X scope own js C s H ex pn qH) tg g) (ht:∀C s H ex pn,FH (pN X scope own js C s H ex pn qH) ifs tt) (he:∀C s H ex pn,PE (pN X scope own js C s H ex pn qH) elt te)
  (I2:aK X pins Z H2 s2) (T:pJ X.prog X.w X.K tg J fp it tn) (st2:tn 0 s2.heap) (f2:∀b∈fp,mO X pins H2 b) {W:Nat->Nat->List V->Hp->Prop} {m0:Nat} (w0:W 0 m0 [] H2)
  (turn:∀i m ys H,W i m ys H->(J.stop i H/\F ys H)\/
   (J.go i H/\ys.length < sizeLine/\∃N:List V->Hp->Prop,(∀ys' H',N ys' H'->∃m',m' < m/\W (i+1) m' ys' H')/\∀x H',J.yld i H x H'->g x (Zs own.length js Z) H' λZg H2=>tt Zg H2 λb H3=>if b=true then te Zg H3 λy H4=>N (ys++[y]) H4 else N ys H3))
  (hRR:∀(D C:Addr) (s':Shared) (H':Hp) (ys:List V) (m:Str->Option Value),F ys H'->H' D=none->aK X pins Z (upd H' D (.lst ys)) s'->s'.heap.Ns C m->
   G3 X pins C->(upd H' D (.lst ys)) C=none->RR (.ref D) C (.ok .next) s') :
  wpAny (model X.prog X.w) X.A (newList []) (λacc Zn=>wpAny (model X.prog X.w) X.A (newFunctionEnv scope X.env.globals (iH X.env.cells scope.names []) [] X.env.qual none .none (some X.env)) (λcenv Z9=>
   codeAny (model X.prog X.w) X.A (.compStart (.ListComp elt [⟨tg,iter,ifs,0⟩] scope pos) 0 (.ref it) acc { cenv with scope:=relabel scope X.env }) (RR acc cenv.locals) Z9) E Zn) E s2:=by
 refine af3 (wpAny_newFunctionEnv ok.cell (by intro y hy;simp at hy) (λZu Ya Z4=>?_) ok.kind);dsimp only at Ya Z4 |-;generalize hP:s2.heap.push { cls:=.type "list",dict:=none,data:=.seq ([]:List Value).toArray }=P2 at Ya Z4 |-
 have hC:P2.objs.size=s2.heap.objs.size+1:=by rw [<-hP,af2]
 have hDC:s2.heap.objs.size≠P2.objs.size:=by rw [hC];exact ac0 (ak3 _)
 have hCle:s2.heap.objs.size<=P2.objs.size:=by rw [hC];exact Nat.le_succ _
 have below:∀b,b < s2.heap.objs.size->b≠P2.objs.size/\b≠s2.heap.objs.size:=λb hb=>⟨by rw [hC];exact ac0 (al3 hb),ac0 hb⟩;have old:∀b o,s2.heap.get? b=some o->Zu.get? b=some o:=λb o e=>Z4.extBut b o (below b (aa9 e)).1 (aa4 _ (hP▸aa4 _ e));have hacc:Zu.get? s2.heap.objs.size=some { cls:=.type "list",data:=.seq ([]:List Value).toArray 0 }:=Z4.extBut _ _ hDC (aa4 _ (hP▸aa8 _ rfl));generalize hDe:s2.heap.objs.size=D at hacc hDC hCle hC below;generalize hCe:P2.objs.size=C at Ya Z4 hDC hCle hC below |-
 have fo:∀b∈fp,∃o,s2.heap.get? b=some o:=λb hb=>let ⟨o,e,_⟩:=T.obj _ _ st2 b hb;⟨o,e⟩
 have fD:∀b∈fp,b≠D/\b≠C:=λb hb=>by
  obtain⟨o,e⟩:=fo b hb
  have:=below b (hDe▸aa9 e)
  exact⟨this.2,this.1⟩
 have H2C:H2 C=none:=I2.hok.fresh (by rw [hDe];exact hCle);have H2D:H2 D=none:=I2.hok.fresh (by rw [hDe];exact aa7 _)
 have stkD:D∉vd X.stack:=λz=>by
  have h1:=I2.nofs (a:=D) (by rw [hDe];exact aa7 _);rcases ab0.mp (I2.stkSub _ z)with q | q
  ·have:=I2.lt
   rw [<-q,hDe]at this;exact ah7 _ this
  ·exact h1 q
 have neLoc:D≠X.env.locals/\C≠X.env.locals:=by
  have h1:=I2.lt;rw [hDe]at h1;exact⟨af1 h1,af1 (ab6 h1 hCle)⟩
 have cellLt:∀x c,X.env.cells.lookup x=some c->c < D:=λx c e=>by
  obtain⟨v,z⟩:=I2.cell x c e;rw [<-hDe];exact z.lt
 have pinLt:∀p∈X.pn++pins,p.1 < D:=λp hp=>by rw [<-hDe];exact aa9 (I2.pin p hp).1
 have hs0:X.Zh.heap.objs.size<=D:=by rw [<-hDe];exact I2.sz
 have start:∀{s':Shared} {H':Hp} {m:Str->Option Value} {o:Obj},s'.os=s2.os->AllBare s'.gens->Un (vd X.stack) fp H2 H' s2.heap s'.heap->s'.heap.Ns C m->j4 X.prog X.w H' s'.heap->H' C=none->s'.heap.get? D=some o->H' D=none->(∀v,o.data≠.cell v)->
   aK (pN X scope own js C s2 H2 fp (X.pn++pins) qH) [(D,o)] (Zs own.length js Z) H' s':=λ{s' H' m o} a1 a2 a3 a4 a5 a6 a7 a8 a9=>
  z8 ok I2 (by rw [hDe];exact hCle) f2 fo a1 a2 a3 a4 a5 a6 λp hp=>by
   have e:p=(D,o):=by simpa using hp
   subst e;exact⟨a7,a8,hDC,stkD,a9⟩
 have fpC:∀{H':Hp} {o:Obj},(∀b∈fp,H' b=none)->∀b∈fp,mO (pN X scope own js C s2 H2 fp (X.pn++pins) qH) [(D,o)] H' b:=λ{H' o} hn b hb=>by
  obtain⟨_,q1,q2,q3,q4,q5⟩:=f2 b hb;refine⟨hn b hb,(fD b hb).2,λz=>?_,.inl hb,λx c e=>q4 x c (ok.sub I2 e),λp hp=>?_⟩
  ·rcases ab0.mp (I2.stkSub b z)with e | e
   ·exact q1 e
   ·exact q2 e
  ·rcases ad2.mp hp with h | h
   ·exact q5 p h
   ·have e:p=(D,o):=by simpa using h
    subst e;exact(fD b hb).1.symm
 have nocell:∀(its:Array Value) (n:Nat) (v:Option Value),({ cls:=.type "list",data:=.seq its n }:Obj).data≠.cell v:=λ_ _ _ z=>by cases z
 have loop:∀Zn:Shared,Zn={ s2 with heap:=Zu,toks:=s2.toks+([]:List (Str×Value)).length }->
   codeAny (model X.prog X.w) X.A (.compLoop (.ListComp elt [⟨tg,iter,ifs,0⟩] scope pos) 0 (.ref it) (.ref D) (compEnvC scope (iH X.env.cells scope.names []) C X.env)) (RR (.ref D) C) Zn:=by
  rintro Zn rfl
  refine tW (λn s'=>∃i ys its k H',aK (pN X scope own js C s2 H2 fp (X.pn++pins) qH) [(D,{ cls:=.type "list",data:=.seq (its:List Value).toArray k })] (Zs own.length js Z) H' s'/\tn i s'.heap/\(∀b∈fp,H' b=none)/\
   W i n ys H'/\aU ys its/\ys.length<=sizeLine) ?_ m0 ⟨0,[],[],0,H2,start rfl I2.bare (Un.kept old) Ya (I2.hok.kept old) H2C hacc H2D (nocell _ _),T.keep _ _ _ st2 (λb _ o e=>old b o e),λb hb=>(f2 b hb).1,w0,.nil,ac1 _⟩
  rintro n s3 ⟨i,ys,its,k,H3,I3,st3,fr3,w3,rv,hz⟩;rcases turn i n ys H3 w3 with⟨stop,q⟩ | ⟨go,hlt,N,hN,step⟩
  ·refine ag0 (T.done (pN X scope own js C s2 H2 fp (X.pn++pins) qH) rfl rfl rfl hc i _ s3 _ H3 qH I3 (fpC fr3) st3 stop) (λr s4 zq0=>?_) λ_ _ f=>f.elim
   obtain⟨hr,I4⟩:=zq0;subst hr;obtain⟨zD,nD,_⟩:=I4.pin (D,_) (ac9 _ ad6);obtain⟨m,hm,_⟩:=I4.loc;have I5:aK X pins Z H3 s4:=I2.call' I4.os I4.base I4.hok I4.bare λb hb=>⟨(f2 b hb).2.2.2.1,(f2 b hb).2.1,(f2 b hb).2.2.2.2.1,(f2 b hb).2.2.2.2.2⟩;have I6:aK X pins Z (upd H3 D (.lst ys)) s4:=I5.track nD zD rv hz (.inr hs0) neLoc.1 (λx c e=>ac0 (cellLt x c e)) λp hp=>ac0 (pinLt p hp);have nC:H3 C=none:=I4.free;exact hRR D C s4 H3 ys m q nD I6 hm ⟨neLoc.2,.inr (ac2 hs0 hCle),λx c e=>ac0 (ab6 (cellLt x c e) hCle),λp hp=>ac0 (ab6 (pinLt p hp) hCle)⟩ (by rw [aj (Ne.symm hDC)];exact nC)
  ·refine ag0 (T.item (pN X scope own js C s2 H2 fp (X.pn++pins) qH) rfl rfl rfl hc i _ s3 _ H3 qH I3 (fpC fr3) st3 go) (λr s4 zq0=>?_) λ_ _ f=>f.elim
   obtain⟨u,hr,h4⟩:=zq0;subst hr;refine ag0 h4 (λ_ s5 zq0=>?_) λ_ _ f=>f.elim;obtain⟨x,H5,I5,r5,y5,st5,fr5⟩:=zq0;have I5':=I5.pinned (fpC fr5) (T.obj _ _ st5);refine ag0 (hg _ _ _ _ _ _ s5 _ H5 x u _ I5' r5 (step x H5 y5)) (λ_ s6 zq0=>?_) λ_ _ f=>f.elim;obtain⟨Zz,H6,I6,q6⟩:=zq0;refine ag0 (ht _ _ _ _ _ _ s6 Zz H6 _ I6 q6) (λb s7 zq0=>?_) λ_ _ f=>f.elim;obtain⟨H7,I7,q7⟩:=zq0
   have back:∀{s8:Shared} {H8:Hp} {m':Nat} {ys':List V} {its':List Value} {k':Nat},aK (pN X scope own js C s2 H2 fp (X.pn++pins) qH) [] Zz H8 s8->s8.heap.get? D=some { cls:=.type "list",data:=.seq its'.toArray k' }->H8 D=none->
     (∀b∈fp,∀o,s5.heap.get? b=some o->s8.heap.get? b=some o)->(∀b∈fp,H8 b=none)->W (i+1) m' ys' H8->aU ys' its'->ys'.length<=sizeLine->
     ∃i ys its k H',aK (pN X scope own js C s2 H2 fp (X.pn++pins) qH) [(D,{ cls:=.type "list",data:=.seq (its:List Value).toArray k })] (Zs own.length js Z) H' s8/\tn i s8.heap/\(∀b∈fp,H' b=none)/\W i m' ys H'/\aU ys its/\ys.length<=sizeLine:=
    λ{s8 H8 m' ys' its' k'} J zD nD kf fr w' rv' hz'=>by
     obtain⟨m,hm,_⟩:=J.loc;exact⟨i+1,ys',its',k',H8,start J.os J.bare J.base hm J.hok J.free zD nD (nocell _ _),T.keep _ _ _ st5 kf,fr,w',rv',hz'⟩
   cases b with
   | false=>
    rw [if_neg ab3];rw [if_neg ab3]at q7;obtain⟨m',hm',w'⟩:=hN _ _ q7;have pD:=I7.pin (D,_) (ac9 _ (aj7 _ ad6));refine⟨m',hm',back (I7.pins_of (pins':=[]) λp hp=>nomatch hp) pD.1 pD.2.1 (λb hb o e=>(I7.pin (b,o) (ac9 _ (ac9 _ (eI hb e)))).1) (λb hb=>?_) w' rv hz⟩;obtain⟨o,e,_⟩:=T.obj _ _ st5 b hb;exact(I7.pin (b,o) (ac9 _ (ac9 _ (eI hb e)))).2.1
   | true=>
    rw [if_pos rfl];rw [if_pos rfl]at q7;refine ag0 (he _ _ _ _ _ _ s7 Zz H7 _ I7 q7) (λyv s8 zq0=>?_) λ_ _ f=>f.elim;obtain⟨y,H8,I8,r8,q8⟩:=zq0;obtain⟨m',hm',w'⟩:=hN _ _ q8;have pD:=I8.pin (D,_) (ac9 _ (aj7 _ ad6));refine append_at (hsz:=by rw [ab4,<-rv.length];exact hz) pD.1 λh9 sb9 z9=>?_;have I8':aK (pN X scope own js C s2 H2 fp (X.pn++pins) qH) [] Zz H8 s8:=I8.pins_of λp hp=>nomatch hp
    have I9:aK (pN X scope own js C s2 H2 fp (X.pn++pins) qH) [] Zz H8 { s8 with heap:=h9 }:=I8'.turned (t':=s8.toks) (it:=D) (λb o hb e=>(sb9.2 b hb).trans e) pD.2.1 hDC (.inr (by show s2.heap.objs.size<=D;rw [hDe];exact aa7 _))
     (λx c e=>ac0 (cellLt x c (ok.sub I2 e))) λp hp=>by
      rcases ad2.mp hp with h | h
      ·exact ac0 (pinLt p h)
      ·cases h
    refine⟨m',hm',back (its':=its++[yv]) (k':=k+1) I9 (by rw [z9];simp) pD.2.1 (λb hb o e=>(sb9.2 b (fD b hb).1).trans (I8.pin (b,o) (ac9 _ (ac9 _ (eI hb e)))).1) (λb hb=>?_) w' (rv.append (.cons r8 .nil)) (by simp;omega)⟩;obtain⟨o,e,_⟩:=T.obj _ _ st5 b hb;exact(I8.pin (b,o) (ac9 _ (ac9 _ (eI hb e)))).2.1
 exact codeAny_compStart_list (loop _ rfl) (T.self X.A 0 _ _ _ (T.keep _ _ _ st2 (λb _ o e=>old b o e)) (loop _ rfl))
theorem cQ(hc:X.calm=true)(hi:PI X tg iter wi)(ok:bG X scope js)
  (hg:∀C s H ex pn,PG (pN X scope own js C s H ex pn qH) tg g) (ht:∀C s H ex pn,FH (pN X scope own js C s H ex pn qH) ifs tt) (he:∀C s H ex pn,PE (pN X scope own js C s H ex pn qH) elt te)
  (hs:∀x,foldedSetIterable iter X.env x=pure x:=by intro _;rfl):PE X (.ListComp elt [⟨tg,iter,ifs,0⟩] scope pos) (Bv own.length js wi g tt te):=by
 intro pins s Z H Q I h;rw [eval_ListComp];refine wpAny_comprehension_free (use:=none) rfl hs (jA (ok.clos I)) ok.kind ok.names (cH (hi pins s Z H _ I h) λv s1 h1=>cH h1 λitv s2 h2=>?_);obtain⟨it,fp,tn,J,H2,e,I2,T,st2,f2,W,⟨m0,w0⟩,turn⟩:=h2;subst e;refine nM (RR:=λacc C=>compPost (model X.prog X.w) X.A X.xe none (EP X pins Z Q) acc C) hc ok hg ht he I2 T st2 f2 w0 turn ?_;intro D C s' H' ys m q nD I6 hm o nC;exact⟨m,hm,λh' sb=>⟨.ref D,_,o.go I6 nC sb,rfl,q D nD⟩⟩
theorem oE{i:Nat}{py spos:Pos}(hN:X.N.Nodup)(hix:X.N[i]?=some x)(hx:Fu X.env.scope x)(hc:X.calm=true)(hi:PI X tg iter wi)(ok:bG X scope js)
  (hg:∀C s H ex pn,PG (pN X scope own js C s H ex pn qH) tg g) (ht:∀C s H ex pn,FH (pN X scope own js C s H ex pn qH) ifs tt) (he:∀C s H ex pn,PE (pN X scope own js C s H ex pn qH) elt te)
  (hsw:swapsWith (.ListComp elt [⟨tg,iter,ifs,0⟩] scope pos) (some (.Name x py)) spos.line X.env=pure true)
  (hf:X.fn x=true\/X.env.scope.names.lookup x=some .local:=by first | exact .inl rfl | exact .inr rfl | assumption)
  (hs:∀x,foldedSetIterable iter X.env x=pure x:=by intro _;rfl):PS X (.Assign [.Name x py] (.ListComp elt [⟨tg,iter,ifs,0⟩] scope pos) spos) (wQ (Bv own.length js wi g tt te) (iI i)):=by
 intro pins s Z H Dd I h;rw [exec_Assign_Name_used _ _ _ _ hsw];refine aa0 (am4 (aa0 ?_));show wpAny _ X.A (do let _ <-comprehension (.ListComp elt [⟨tg,iter,ifs,0⟩] scope pos) scope X.env _ (newList []) false (eval iter X.env) (some (assign (.Name x py) X.env))) _ _ s
 refine aa0 (ag0 (wpAny_comprehension_free (use:=some (assign (.Name x py) X.env)) (Q:=λ_ s'=>SP X pins Dd .next s') rfl hs (jA (ok.clos I)) ok.kind ok.names
  (cH (hi pins s Z H _ I h) λv s1 h1=>cH h1 λitv s2 h2=>?_)) (λ_ s' hq=>aa6 (aa6 hq)) λ_ _ e=>e)
 obtain⟨it,fp,tn,J,H2,e,I2,T,st2,f2,W,⟨m0,w0⟩,turn⟩:=h2;subst e;refine nM (RR:=λacc C=>compPost (model X.prog X.w) X.A X.xe (some (assign (.Name x py) X.env)) (λ_ s'=>SP X pins Dd .next s') acc C) hc ok hg ht he I2 T st2 f2 w0 turn ?_;intro D C s' H' ys m q nD I6 hm o nC;show wpAny _ X.A (assign (.Name x py) X.env (.ref D)) _ _ _;refine wpAny_assign_Name (rF I6 hN hix hx (v:=.ref D) rfl (λs2' I7 zq0=>?_) hf);obtain⟨a,sa,ha⟩:=zq0
 have hCa:C≠a:=by
  rcases ha with e | e
  ·rw [e];exact o.ne
  ·exact λz=>o.cells x a e z.symm
 exact⟨m,hm.sameBut sa hCa,λh' sb=>⟨_,_,o.go I7 nC sb,q D nD⟩⟩
end
def BR(X:Cx)(tg:Expr)(r:V->Hp->(It->Hp->Prop)->Prop):Prop:=
 ∀(pins:List (Addr×Obj)) (s:Shared) (Z:St) (H:Hp) (x:V) (v:Value) (R:It->Hp->Prop),aK X pins Z H s->aP x v->r x H R->
  wpAny (model X.prog X.w) X.A (pyIter v) (FG X pins Z tg R) X.xe s
def BS(z:Str):It:=⟨λi _=>i < z.length,λi H x H'=>H'=H/\∃c,z.cps[i]?=some c/\x=.str ⟨#[c]⟩,λi _=>i=z.length⟩
theorem rN{P:Program}{A:Around}(hh:A.handled=none)(I:Addr)(z:Str)(t:Tok){ty:String}(hty:ty="str_ascii_iterator"\/ty="str_iterator"):
  Walks P w A I [I] [I] z.cps.size (SignAt z) (λi h=>h.IsStrIter I ty z t i):=by
 rcases hty with e | e
 ·subst e;exact Walks.strAscii hh I z t
 ·subst e;exact Walks.strWide hh I z t
theorem BG{P:Program}(z:Str)(t:Tok)(it:Addr){ty:String}(hty:ty="str_ascii_iterator"\/ty="str_iterator"):
  pJ P w K tg (BS z) [it] it (λi h=>h.IsStrIter it ty z t i) where
 mem:=by simp
 obj:=λi h st b hb=>by
  have e:b=it:=by simpa using hb
  subst e;obtain⟨o,e,c,d⟩:=st;exact⟨o,e,λv z=>by rw [d]at z;cases z⟩
 keep:=λi h h' st k=>by
  obtain⟨o,e,r⟩:=st;exact⟨o,k it (by simp) o e,r⟩
 item:=by
  intro X hP hw hK hc i pins s Z H E I hf st hg;subst hP hw hK;obtain⟨f0,f1,f2,f3,f4,f5⟩:=hf it (by simp);refine(rN (I.ok.hd hc) it z t hty).item i s _ _ hg st λv h' tk hv st' kk=>?_;obtain⟨c,u,hcz,rfl⟩:=hv;have I1:aK X pins Z H { s with heap:=h',toks:=tk }:=I.turned (λb o hb e=>kk b o (by simpa using hb) e) f0 f1 f3 f4 f5;obtain⟨o,e,cl,d⟩:=id st'
  refine⟨_,rfl,qR (s:={ s with heap:=h',toks:=tk }) (n:=ty) e cl d (by rcases hty with q | q<;>(subst q;decide)) ⟨.str ⟨#[c]⟩,H,I1,⟨u,rfl⟩,⟨rfl,c,hcz,rfl⟩,st',λb hb=>(hf b hb).1⟩⟩
 done:=by
  intro X hP hw hK hc i pins s Z H E I hf st hg;subst hP hw hK;obtain⟨f0,f1,f2,f3,f4,f5⟩:=hf it (by simp);have e:i=z.length:=hg;subst e;exact(rN (I.ok.hd hc) it z t hty).done s _ _ st λh' tk kk=>⟨rfl,I.turned (λb o hb e=>kk b o (by simpa using hb) e) f0 f1 f3 f4 f5⟩
 self:=λA i s Q E st h=>by
  rcases hty with e | e
  ·subst e;exact wpAny_pyIter_striter_ascii st h
  ·subst e;exact wpAny_pyIter_striter_wide st h
theorem BR.or{r':V->Hp->(It->Hp->Prop)->Prop}(h:BR X tg r)(h':BR X tg r'):BR X tg (λx H R=>r x H R\/r' x H R):=by
 intro pins s Z H x v R I rx q;rcases q with q | q
 ·exact h pins s Z H x v R I rx q
 ·exact h' pins s Z H x v R I rx q
theorem it_list:BR X tg (λx H R=>∃a,x=.ref a/\(∃xs,aF X.K H a xs)/\R (zj X.K a) H):=by
 rintro pins s1 Z H1 x v R I1 r1 ⟨a,e,⟨xs,hq⟩,q⟩;subst e;cases r1;obtain⟨its,rv,p,hz⟩:=I1.list hq;refine al4 p.isList ?_;refine⟨s1.heap.objs.size,[s1.heap.objs.size],_,_,H1,rfl,I1.kept (t':=s1.toks) λb o e=>aa4 _ e,ze a _,⟨_,aa8 _ rfl,rfl,rfl⟩,λb hb=>?_,q⟩
 have e:b=s1.heap.objs.size:=by simpa using hb
 subst e;exact I1.fpOk (aa7 _) (I1.hok.fresh (aa7 _))
theorem it_tup:BR X tg (λx H R=>∃a,x=.ref a/\(∃xs,cT X.K H a xs)/\R (GY X.K a) H):=by
 rintro pins s1 Z H1 x v R I1 r1 ⟨a,e,⟨xs,hq⟩,q⟩;subst e;cases r1;obtain⟨its,rv,p,hz⟩:=I1.tuple hq;refine wpAny_pyIter_tuple (show s1.heap.IsTuple a its.toArray from p) ?_;refine⟨s1.heap.objs.size,[s1.heap.objs.size],_,_,H1,rfl,I1.kept (t':=s1.toks) λb o e=>aa4 _ e,wZ a _,⟨_,aa8 _ rfl,rfl,rfl⟩,λb hb=>?_,q⟩
 have e:b=s1.heap.objs.size:=by simpa using hb
 subst e;exact I1.fpOk (aa7 _) (I1.hok.fresh (aa7 _))
theorem Eo:BR X tg (λx H R=>∃z,x=.str z/\R (BS z) H):=by
 rintro pins s1 Z H1 x v R I1 r1 ⟨z,e,q⟩;subst e;obtain⟨t,rfl⟩:=r1
 have fin:∀(o:Obj) (ty:String),(ty="str_ascii_iterator"\/ty="str_iterator")->(s1.heap.push o).IsStrIter s1.heap.objs.size ty z t 0->FG X pins Z tg R (.ref s1.heap.objs.size) { s1 with heap:=s1.heap.push o }:=λo ty hty st=>by
  refine⟨s1.heap.objs.size,[s1.heap.objs.size],_,_,H1,rfl,I1.kept (t':=s1.toks) λb o e=>aa4 _ e,BG z t _ hty,st,λb hb=>?_,q⟩
  have e:b=s1.heap.objs.size:=by simpa using hb
  subst e;exact I1.fpOk (aa7 _) (I1.hok.fresh (aa7 _))
 cases ha:z.cps.all (· < 128)
 ·exact wpAny_pyIter_wide ha (fin _ _ (.inr rfl) ⟨_,aa8 _ rfl,rfl,rfl⟩)
 ·exact wpAny_pyIter_ascii ha (fin _ _ (.inl rfl) ⟨_,aa8 _ rfl,rfl,rfl⟩)
def Dj(K:Frag):V->Hp->(It->Hp->Prop)->Prop:=λx H R=>(∃a,x=.ref a/\(∃xs,aF K H a xs)/\R (zj K a) H)\/(∃a,x=.ref a/\(∃xs,cT K H a xs)/\R (GY K a) H)\/∃z,x=.str z/\R (BS z) H
theorem itA:BR X tg (Dj X.K):=it_list.or (it_tup.or Eo)
def GK(r:V->Hp->(It->Hp->Prop)->Prop)(tl:TE):TI:=λZ H R=>tl Z H λx H1=>r x H1 R
theorem Gj{l:Expr}{tl:TE}(hr:BR X tg r)(hl:PE X l tl):PI X tg l (GK r tl):=by
 intro pins s Z H R I h;exact cH (hl pins s Z H _ I h) λv s1 ⟨x,H1,I1,r1,q1⟩=>hr pins s1 Z H1 x v R I1 r1 q1
theorem EU{l:Expr}{tl:TE}(hl:PE X l tl):PI X tg l (GK (Dj X.K) tl):=Gj itA hl
theorem bJ(h:aF K H a xs)(q:R (zj K a) H):Dj K (.ref a) H R:=.inl ⟨a,rfl,⟨xs,h⟩,q⟩
theorem Dk(q:R (BS z) H):Dj K (.str z) H R:=.inr (.inr ⟨z,rfl,q⟩)
theorem GI{tb:TS}{D:iS}(Pv:Nat->St->Hp->Prop)(h0:Pv 0 Z H)
  (hs:∀i c Z H,z.cps.toList[i]?=some c->Pv i Z H->g (.str ⟨#[c]⟩) Z H λZg H2=>tb { D with nx:=Pv (i+1),ct:=Pv (i+1),bk:=D.nx } Zg H2) (hd:∀Z H,Pv z.length Z H->D.nx Z H) :
  ∃W:Nat->Nat->St->Hp->Prop,(∃m,W 0 m Z H)/\∀i m Z H,W i m Z H->
   ((BS z).stop i H/\D.nx Z H)\/((BS z).go i H/\∃N:St->Hp->Prop,(∀Zc H',N Zc H'->∃m',m' < m/\W (i+1) m' Zc H')/\∀x H',(BS z).yld i H x H'->g x Z H' λZg H2=>tb { D with nx:=N,ct:=N,bk:=D.nx } Zg H2):=by
 refine⟨λi m Z H=>m=z.length - i/\i<=z.length/\Pv i Z H,⟨z.length,by simp,ac1 _,h0⟩,?_⟩;rintro i m Z H ⟨rfl,hi,p⟩
 by_cases hlt:i < z.length
 ·refine .inr ⟨hlt,Pv (i+1),λZc H' p'=>⟨z.length - (i+1),(),rfl,hlt,p'⟩,λx H' y=>?_⟩
  obtain⟨e,c,hc,e2⟩:=y;subst e e2;exact hs i c Z _ (by simpa using hc) p
 ·have e:i=z.length:=by omega
  subst e;exact .inl ⟨rfl,hd Z H p⟩
section
variable {n:Nat} {tt:TT} {te:TE}
abbrev w5(J:It)(n:Nat)(js:List Nat)(g:TG)(tt:TT)(te:TE)(Z:St)(H:Hp)(F:List V->Hp->Prop):Prop:=
 ∃W:Nat->Nat->List V->Hp->Prop,(∃m,W 0 m [] H)/\∀i m ys H,W i m ys H->(J.stop i H/\F ys H)\/
  (J.go i H/\ys.length < sizeLine/\∃N:List V->Hp->Prop,(∀ys' H',N ys' H'->∃m',m' < m/\W (i+1) m' ys' H')/\∀x H',J.yld i H x H'->g x (Zs n js Z) H' λZg H2=>tt Zg H2 λb H3=>if b=true then te Zg H3 λy H4=>N (ys++[y]) H4 else N ys H3)
abbrev e7(n:Nat)(js:List Nat)(g:TG)(tt:TT)(te:TE)(Z:St)(x:V)(ys:List V)(H:Hp)(N:List V->Hp->Prop):Prop:=
 g x (Zs n js Z) H λZg H2=>tt Zg H2 λb H3=>if b=true then te Zg H3 λy H4=>N (ys++[y]) H4 else N ys H3
theorem vq{lo:Int}{k:Nat}(Pv:Nat->List V->Hp->Prop)(hk:k<=sizeLine)(h0:Pv 0 [] H)(hn:∀i ys H,Pv i ys H->ys.length<=i)
  (hs:∀i ys H,i < k->Pv i ys H->e7 n js g tt te Z (.int (lo+i)) ys H (Pv (i+1))) (hd:∀ys H,Pv k ys H->F ys H):w5 (xU lo k) n js g tt te Z H F:=by
 refine⟨λi m ys H=>m=k - i/\i<=k/\Pv i ys H,⟨k,by simp,ac1 _,h0⟩,?_⟩;rintro i m ys H ⟨rfl,hi,p⟩
 by_cases hlt:i < k
 ·refine .inr ⟨hlt,ab5 (hn i ys H p) (ab6 hlt hk),Pv (i+1),λZc H' p'=>⟨k - (i+1),(),rfl,hlt,p'⟩,λx H' y=>?_⟩
  obtain⟨e,y⟩:=y;subst e y;exact hs i ys _ hlt p
 ·have e:i=k:=by omega
  subst e;exact .inl ⟨aa7 _,hd ys H p⟩
theorem yh(Pv:Nat->List V->Hp->Prop)(hk:xs.length<=sizeLine)(h0:Pv 0 [] H)(hn:∀i ys H,Pv i ys H->ys.length<=i)(hl:∀i ys H,Pv i ys H->aF K H a xs)
  (hs:∀i x ys H,xs[i]?=some x->Pv i ys H->e7 n js g tt te Z x ys H (Pv (i+1))) (hd:∀ys H,Pv xs.length ys H->F ys H):w5 (zj K a) n js g tt te Z H F:=by
 refine⟨λi m ys H=>m=xs.length - i/\i<=xs.length/\Pv i ys H,⟨xs.length,by simp,ac1 _,h0⟩,?_⟩;rintro i m ys H ⟨rfl,hi,p⟩;have q:=hl i ys H p
 by_cases hlt:i < xs.length
 ·refine .inr ⟨⟨xs,xs[i],q,by simp [hlt]⟩,ab5 (hn i ys H p) (ab6 hlt hk),Pv (i+1),λZc H' p'=>⟨xs.length - (i+1),(),rfl,hlt,p'⟩,λx H' y=>?_⟩
  obtain⟨e,y⟩:=y;subst e;exact hs i x ys _ (y xs q) p
 ·have e:i=xs.length:=by omega
  subst e;exact .inl ⟨⟨xs,q,aa7 _⟩,hd ys H p⟩
theorem zE(Pv:Nat->List V->Hp->Prop)(hk:z.length<=sizeLine)(h0:Pv 0 [] H)(hn:∀i ys H,Pv i ys H->ys.length<=i)
  (hs:∀i c ys H,z.cps.toList[i]?=some c->Pv i ys H->e7 n js g tt te Z (.str ⟨#[c]⟩) ys H (Pv (i+1))) (hd:∀ys H,Pv z.length ys H->F ys H):w5 (BS z) n js g tt te Z H F:=by
 refine⟨λi m ys H=>m=z.length - i/\i<=z.length/\Pv i ys H,⟨z.length,by simp,ac1 _,h0⟩,?_⟩;rintro i m ys H ⟨rfl,hi,p⟩
 by_cases hlt:i < z.length
 ·refine .inr ⟨hlt,ab5 (hn i ys H p) (ab6 hlt hk),Pv (i+1),λZc H' p'=>⟨z.length - (i+1),(),rfl,hlt,p'⟩,λx H' y=>?_⟩
  obtain⟨e,c,hc,e2⟩:=y;subst e e2;exact hs i c ys _ (by simpa using hc) p
 ·have e:i=z.length:=by omega
  subst e;exact .inl ⟨rfl,hd ys H p⟩
end
theorem y7(xs:Array Nat):∀(n:Nat) (acc:Array Nat),((List.replicate n xs).foldl (· ++ ·) acc).size=acc.size+n * xs.size
 | 0,acc=>by simp
 | n+1,acc=>by
  rw [af7,af5,y7 xs n,Array.size_append,al2];omega
theorem qQ(xs:Array Nat):∀(n:Nat) (acc:Array Nat),((List.replicate n xs).foldl (· ++ ·) acc).toList=acc.toList++(List.replicate n xs.toList).flatten
 | 0,acc=>by simp
 | n+1,acc=>by
  rw [af7,af5,qQ xs n,af7,aj6,ah4,ao1]
def sU(z:Str)(k:Int):Str:=if k < 1 then Str.empty else if (k == 1 || z.length == 0)=true then z else⟨(List.replicate k.toNat z.cps).foldl (· ++ ·) #[]⟩
theorem v8(z:Str)(k:Int):(sU z k).cps.toList=(List.replicate k.toNat z.cps.toList).flatten:=by
 unfold sU
 split
 ·have e:k.toNat=0:=by omega
  rw [e];rfl
 ·split
  ·rename_i h1 h2
   rw [ap7]at h2;rcases h2 with h2 | h2
   ·have e:k=1:=by simpa using h2
    subst e;simp
   ·have e:z.cps.size=0:=by simpa [Str.length]using h2
    have e2:z.cps.toList=[]:=by
     rw [<-ag3];simpa using e
    rw [e2];simp
  ·simpa using qQ z.cps k.toNat #[]
theorem uM(z:Str)(k:Int):(sU z k).length=k.toNat * z.length:=by
 have e:(sU z k).length=(sU z k).cps.toList.length:=by simp [Str.length]
 rw [e,v8,sk];simp [Str.length]
section
variable {a b c:Expr} {ta tb tc:TE}
theorem op_mulB:dE X (binaryOp .Mult) (rI IntMulOk λi j=>.int (i * j)):=F9 λ_ _ _ _ _ _ _ hc q=>mul_int q hc
theorem op_mul_str:dE X (binaryOp .Mult) (λx y H Q=>∃z k,x=.str z/\y=.int k/\(-1000000<=k/\k<=1000000/\z.length<=16)/\Q (.str (sU z k)) H):=by
 rintro pins s Z H x y v u Q I rx ry ⟨z,k,rfl,rfl,⟨h2,h1,h3⟩,q⟩;obtain⟨t,rfl⟩:=rx;obtain⟨t',rfl⟩:=ry;have hs:=sizeLine_eq;have hl:=uM z k;have hb:z.length * k.toNat<=16 * 1000000:=Nat.mul_le_mul h3 ();rw [ap1]at hl;have fin:∀t' tk,EP X pins Z Q (.str (sU z k) t') { s with toks:=tk }:=λt' tk=>⟨.str _,H,I.tok _,⟨t',rfl⟩,q⟩;refine P.mul_str ?_ (λh4 h5=>?_) (λh4 h5=>?_) ?_
 ·have e1:¬k < -(2 ^ 63:Int):=by omega
  have e2:¬k>=2 ^ 63:=by omega
  rw [decide_eq_false e1,decide_eq_false e2];rfl
 ·have h6:(16:Int)<=(2 ^ 63 - 1) / k:=by
   rw [Int.le_ediv_iff_mul_le ()];omega
  omega
 ·unfold Builtin.Str.tooLong
  exact decide_eq_false ()
 ·unfold sU at fin hl
  by_cases h4:k < 1
  ·rw [if_pos h4]at fin |-
   exact⟨∅,fin _ _⟩
  ·rw [if_neg h4]at fin hl |-
   by_cases h5:(k == 1 || z.length == 0)=true
   ·rw [if_pos h5]at fin |-
    exact fin t s.toks
   ·rw [if_neg h5]at fin hl |-
    exact⟨(),fin _ _⟩
def xC:R2:=λx y H Q=>rI IntMulOk (λi j=>.int (i * j)) x y H Q\/(∃z k,x=.str z/\y=.int k/\(-1000000<=k/\k<=1000000/\z.length<=16)/\Q (.str (sU z k)) H)\/E3 x y H Q
theorem opMul:dE X (binaryOp .Mult) xC:=op_mulB.or (op_mul_str.or EO)
theorem A6:xC (.int i) (.int j) H Q↔IntMulOk i j/\Q (.int (i * j)) H:=by
 simp [xC,rI,E3]
def eC(K:Frag):R2:=λx y H Q=>uH (λi j=>.int (i+j)) x y H Q\/(∃i j,x=.str i/\y=.str j/\i.length+j.length<=sizeLine/\Q (.str (i++j)) H)\/Df x y H Q\/xB K x y H Q
theorem opAdd:dE X (binaryOp .Add) (eC X.K):=op_add.or (op_add_str.or (op_cat.or CZ))
theorem rAddA_ii:eC K (.int i) (.int j) H Q↔Q (.int (i+j)) H:=by
 simp [eC,uH,Df,xB]
theorem AZ{i j:Str}:eC K (.str i) (.str j) H Q↔i.length+j.length<=sizeLine/\Q (.str (i++j)) H:=by
 simp [eC,uH,Df,xB]
theorem gX{l b:Addr}{zs:List V}(h1:H l=some (.lst xs))(h2:H b=some (.lst zs))(hz:xs.length+zs.length<=sizeLine)(q:∀p,H p=none->Q (.ref p) (upd H p (.lst (xs++zs)))):eC K (.ref l) (.ref b) H Q:=
 .inr (.inr (.inl ⟨l,b,xs,zs,rfl,rfl,h1,h2,hz,q⟩))
def E6:V->Option Int->Option Int->Hp->VK->Prop:=λx lo hi H Q=>∃z,x=.str z/\z.length<=sizeLine/\Q (.str (Txt.slice z lo hi)) H
theorem Fc:BN X E6:=by
 rintro pins s Z H x v vl vu lo hi sl Q I rx hs pl pu ⟨z,rfl,hz,q⟩;obtain⟨t,rfl⟩:=rx;have fin:∀t' tk,EP X pins Z Q (.str (Txt.slice z lo hi) t') { s with toks:=tk }:=λt' tk=>⟨.str _,H,I.tok _,⟨t',rfl⟩,q⟩;refine⟨"str",_,F.slot_str_getitem.lookup,typeIs_str _ _ _,?_⟩
 cases pl with
 | none=>cases pu with
  | none=>exact ai8 (l:=none) (u:=none) (st:=none) hs rfl (post_val_or_str ⟨ac2 (Txt.slice_le z _ _) hz,λt' k=>fin t' k⟩)
  | int j u=>exact ai8 (l:=none) (u:=some (j,u)) (st:=none) hs rfl (post_val_or_str ⟨ac2 (Txt.slice_le z _ _) hz,λt' k=>fin t' k⟩)
 | int i u=>cases pu with
  | none=>exact ai8 (l:=some (i,u)) (u:=none) (st:=none) hs rfl (post_val_or_str ⟨ac2 (Txt.slice_le z _ _) hz,λt' k=>fin t' k⟩)
  | int j u'=>exact ai8 (l:=some (i,u)) (u:=some (j,u')) (st:=none) hs rfl (post_val_or_str ⟨ac2 (Txt.slice_le z _ _) hz,λt' k=>fin t' k⟩)
def yZ(K:Frag):V->Option Int->Option Int->Hp->VK->Prop:=λx lo hi H Q=>E5 K x lo hi H Q\/E7 K x lo hi H Q\/E6 x lo hi H Q
theorem slA:BN X (yZ X.K):=sl_list.or (sl_tup.or Fc)
theorem E4{lo hi:Option Int}:yZ K (.str z) lo hi H Q↔z.length<=sizeLine/\Q (.str (Txt.slice z lo hi)) H:=by
 simp [yZ,E5,E7,E6]
theorem cX{a:Addr}{lo hi:Option Int}(h:aF K H a xs)(q:∀p,H p=none->Q (.ref p) (upd H p (.lst (lB xs lo hi)))):yZ K (.ref a) lo hi H Q:=.inl ⟨a,xs,rfl,h,q⟩
theorem ixA:xV X (tO X.K):=Ep
theorem Gn:tO K (.str z) (.int i) H Q↔z.length<=sizeLine/\∃c,fC z.cps.toList i=some c/\Q (.str ⟨#[c]⟩) H:=by
 simp [tO,EZ,E2,E1]
theorem aR{p:Addr}(h:aF K H p xs)(hv:fC xs i=some v)(q:Q v H):tO K (.ref p) (.int i) H Q:=.inl ⟨p,xs,i,v,rfl,rfl,h,hv,q⟩
theorem eD{p:Addr}(h:cT K H p xs)(hv:fC xs i=some v)(q:Q v H):tO K (.ref p) (.int i) H Q:=.inr (.inl ⟨p,xs,i,v,rfl,rfl,h,hv,q⟩)
theorem opEq:dE X (compareOp .Eq) ve:=Gb
theorem opNe:dE X (compareOp .NotEq) vf:=Ge
theorem kF:dE X (compareOp .Lt) (uH λi j=>.bl (decide (i < j))):=Gd
theorem rEq_ii:ve (.int i) (.int j) H Q↔Q (.bl (decide (i=j))) H:=by simp [ve,y4]
theorem rNe_ii:vf (.int i) (.int j) H Q↔Q (.bl (!decide (i=j))) H:=by simp [vf,y4]
theorem vZ{i j:Str}:ve (.str i) (.str j) H Q↔Q (.bl (decide (i=j))) H:=by simp [ve,y4]
theorem v5{i j:Str}:vf (.str i) (.str j) H Q↔Q (.bl (!decide (i=j))) H:=by simp [vf,y4]
def yY(K:Frag):R2:=λx y H Q=>(∃i j,x=.str i/\y=.str j/\Q (.bl (!(Builtin.Str.occurrences j i 0 j.length 1).isEmpty)) H)\/Gk K false x y H Q
def sT(K:Frag):R2:=λx y H Q=>(∃i j,x=.str i/\y=.str j/\Q (.bl (!(!(Builtin.Str.occurrences j i 0 j.length 1).isEmpty))) H)\/Gk K true x y H Q
theorem Hd:dE X (compareOp .In) (yY X.K):=op_in_str.or yT
theorem CW:dE X (compareOp .NotIn) (sT X.K):=op_notin_str.or sN
theorem EY{c:Nat}:yY K (.str ⟨#[c]⟩) (.str z) H Q↔Q (.bl (decide (c∈z.cps.toList))) H:=by
 simp [yY,Gk,StrLaws.found_one]
theorem x9:cM X (.builtin "len") (λxs H Q=>(∃z,xs=[.str z]/\z.length<=sizeLine/\Q (.int z.length) H)\/∃p ys,xs=[.ref p]/\(aF X.K H p ys\/cT X.K H p ys)/\Q (.int ys.length) H):=call_len_str.or r6
theorem call_int_text:cM X (.type "int") (λxs H Q=>∃z n,xs=[.str z]/\intText? z=some n/\z.length<=640/\Q (.int n) H):=by
 rintro pins s Z H xs us Q I r ⟨z,n,rfl,hn,hl,q⟩;obtain⟨u,rfl,ru⟩:=dZ r;obtain⟨t,rfl⟩:=ru;exact PySem.W.KIN.call_text hn hl ⟨.int n,H,I.tok _,⟨_,rfl⟩,q⟩
theorem fK:cM X (.type "int") (λxs H Q=>(∃z n,xs=[.str z]/\intText? z=some n/\z.length<=640/\Q (.int n) H)\/((∃i,xs=[.int i]/\Q (.int i) H)\/∃k,xs=[.bl k]/\Q (.int (if k then 1 else 0)) H)):=call_int_text.or x8
theorem gu:BU X "str.startswith" (λx xs H Q=>∃z y,x=.str z/\xs=[.str y]/\Q (.bl (Txt.startswith z y)) H):=by
 rintro pins s Z H x xs v us Q I rx r ⟨z,y,rfl,rfl,q⟩;obtain⟨t,rfl⟩:=rx;obtain⟨u,rfl,t',rfl⟩:=dZ r;exact SC.startswith ⟨.bl _,H,I,rfl,q⟩
theorem tR:cM X (.builtin "isinstance") (λxs H Q=>∃x n t b,xs=[x,.ty n]/\kh X.K H x t/\PySem.W.kitOne X.K t (.type n)=some b/\Q (.bl b) H):=by
 rintro pins s Z H xs us Q I r ⟨x,n,t,b,rfl,ty,e,q⟩;obtain⟨u,w',rfl,ru,rw'⟩:=rK r;cases rw';exact yx I ru ty e λtk=>⟨.bl b,H,I.tok _,rfl,q⟩
theorem pC:∀{bs:List Bool} {us:List Value},aU (bs.map V.bl) us->us=bs.map Value.bool
 | [],_,.nil=>rfl
 | b::bs,_,.cons r t=>by
  have e:_=Value.bool b:=r;rw [ad5,e,pC t]
theorem y0(bs:List Bool):(List.range bs.length).all (λi=>bs.getD i true)=bs.all id:=by
 induction bs with
 | nil=>rfl
 | cons b bs ih=>
  rw [ac7,List.range_succ_eq_map,ao4,an6,ao4,<-ih];rfl
theorem x6(hc:X.calm=true):cM X (.builtin "all") (λxs H Q=>∃(p:Addr) (bs:List Bool),xs=[.ref p]/\aF X.K H p (bs.map V.bl)/\Q (.bl (bs.all id)) H):=by
 rintro pins s Z H xs us Q I r ⟨p,bs,rfl,hq,q⟩;obtain⟨u,rfl,ru⟩:=dZ r;cases ru;obtain⟨its,rv,pl,hz⟩:=I.list hq;have e:=pC rv;subst e;have hh:X.A.in1.handled=none:=I.ok.hd hc;refine call_all_walk (al4 pl.isList ⟨s.heap.objs.size,[s.heap.objs.size,p],[s.heap.objs.size],_,_,_,λi=>bs.getD i true,rfl,Walks.list hh _ p ?_ _,⟨⟨_,aa8 _ rfl,rfl,rfl⟩,pl.isList.push _⟩,?_,λh' tk hk=>?_⟩)
 ·obtain⟨o,n,e,_⟩:=pl
  exact ac0 (aa9 e)
 ·intro i v s' Q' E' hv hQ'
  have hv':(bs.map Value.bool)[i]?=some v:=by simpa using hv
  rw [aa5]at hv'
  cases hb:bs[i]? with
  | none=>rw [hb]at hv';cases hv'
  | some b=>
   rw [hb]at hv';cases hv';have hQ2:Q' (bs.getD i true) s':=hQ';rw [ae9,hb]at hQ2;exact ae4 hQ2
 ·refine⟨.bl (bs.all id),H,I.kept (h':=h') (t':=tk) λb o e=>hk b o ?_ (aa4 _ e),?_,q⟩
  ·intro z
   have z':b=s.heap.objs.size:=by simpa using z
   exact absurd (aa9 e) (by rw [z'];exact ah7 _)
  ·show Value.bool _=Value.bool _
   rw [<-y0];simp
theorem iN(h:∃u,X.mg x=some u/\aP v u)(hg:Gl X x:=by rfl)(hd:(x == ("__debug__":Str))=false:=by decide):PE X (.Name x pos) (tC v):=
 let ⟨_,hm,r⟩:=h;C4 hg hm r hd
end
structure cN(P:Program)(w:World)(K:Frag)(mg:Str->Option Value)(base:Heap)(x:Str)(k:Nat)(ps:List Str)(sp:Sp):Prop where
 ex:∃(f:Addr) (fd:FuncData),aG P w K mg base bV k f fd ps sp/\mg x=some (.ref f)/\keepIn K (.ref f)=true/\dh K fd ps []
section
variable {k:Nat} {ps:List Str} {sp:Sp} {p:Pos} {e:Expr} {es:List Expr} {t:TA}
theorem az(d:cN X.prog X.w X.K X.mg X.base x k ps sp)(hr:dv k X.A)(hg:Gl X x)(ha:PA X (e::es) t)(hdb:(x == ("__debug__":Str))=false:=by decide)
  (he:starEach (e::es) X.env=(false,eval e X.env)::starEach es X.env:=by rfl) (hpl:(backTo pos (starEach es X.env)).any (·.1)=false:=by rfl):PE X (.Call (.Name x p) (e::es) [] pos) (rH sp [] E0 t):=
 let ⟨_,_,F,hm,hk,hb⟩:=d.ex;xx F hr hg hm hk hb .nil oz ha hdb he hpl
end
end L2
namespace L3
open PySem PySem.Spec PyProof.Rows
section
variable {prog:Program} {w:World} {A:Around} {E:Value->Shared->Prop} {s:Shared}
theorem sr{it t:Addr}{i:Nat}{its:Array Value}{x:Value}{Q:Value->Shared->Prop}(qi:s.heap.IsTupleIter it t i)(qt:s.heap.IsTuple t its)(qx:its[i]?=some x)
  (hQ:∀h',h'.IsTupleIter it t (i+1)->Heap.SameBut it s.heap h'->Q x { s with heap:=h' }):wpAny (model prog w) A (Builtin.SmallTypes.nextOf (.ref it)) Q E s:=by
 obtain⟨oi,qo,qc,qd⟩:=id qi;obtain⟨ot,qot,_,nt,qdt⟩:=qt;unfold Builtin.SmallTypes.nextOf;refine aa0 (wpAny_callSpecial?_slot (name:=Str.ofString "__next__") qi.typeIs F.slot_tuple_iterator_next (af6 F.slot_tuple_iterator_next qi.typeIs F.entry_tuple_iterator_next ?_ (F.args_tuple_iterator_next_1 _)));show wpAny _ _ (field (.ref it) 0 >>= _) _ _ s;refine aa0 (ae6 qo qd (x:=.ref t) rfl ?_);show wpAny _ _ (if (Value.ref t == Value.none)=true then _ else _) _ _ s;rw [if_neg (show ¬((Value.ref t == Value.none)=true)from ab3)];show wpAny _ _ (field (.ref it) 1 >>= _) _ _ s;refine aa0 (ae6 qo qd (x:=.int i 0) rfl ?_);show wpAny _ _ (seqItems? (.ref t) >>= _) _ _ s;refine aa0 (af0 qot qdt ?_);simp only [af8,qx];refine aa0 (wpAny_setField qo qd (by simp) (aa6 ⟨x,rfl,aa6 (hQ _ ?_ (Heap.SameBut.update ..))⟩));exact⟨_,ad9 _ qo (Obj.isFreed_of_fields (Obj.data_mapFields qd _)),(Obj.cls_mapFields ..).trans qc,by rw [Obj.data_mapFields qd];simp [rawInt]⟩
theorem ur{it t:Addr}{i:Nat}{its:Array Value}{Q:Value->Shared->Prop}(hh:A.handled=none)(qi:s.heap.IsTupleIter it t i)(qt:s.heap.IsTuple t its)(qx:its[i]?=none)
  (hE:∀h' e,Heap.ExtBut it s.heap h'->(∃o,h'.get? e=some o/\o.cls=.type "StopIteration")->E (.ref e) { s with heap:=h' }):wpAny (model prog w) A (Builtin.SmallTypes.nextOf (.ref it)) Q E s:=by
 obtain⟨oi,qo,qc,qd⟩:=id qi;obtain⟨ot,qot,_,nt,qdt⟩:=qt;unfold Builtin.SmallTypes.nextOf;refine aa0 (wpAny_callSpecial?_slot (name:=Str.ofString "__next__") qi.typeIs F.slot_tuple_iterator_next (af6 F.slot_tuple_iterator_next qi.typeIs F.entry_tuple_iterator_next ?_ (F.args_tuple_iterator_next_1 _)));show wpAny _ _ (field (.ref it) 0 >>= _) _ _ s;refine aa0 (ae6 qo qd (x:=.ref t) rfl ?_);show wpAny _ _ (if (Value.ref t == Value.none)=true then _ else _) _ _ s;rw [if_neg (show ¬((Value.ref t == Value.none)=true)from ab3)];show wpAny _ _ (field (.ref it) 1 >>= _) _ _ s;refine aa0 (ae6 qo qd (x:=.int i 0) rfl ?_);show wpAny _ _ (seqItems? (.ref t) >>= _) _ _ s;refine aa0 (af0 qot qdt ?_);simp only [af8,qx];refine aa0 (an8 (aa0 (wpAny_setField qo qd (by simp) ?_)));show wpAny _ _ (newExc (.type "StopIteration") [] >>= _) _ _ _;refine aa0 ?_;simp only [newExc,newTuple]
 refine aa0 (af3 ?_ (by size_fits));refine aa0 (m:=firstArgMember _ _) (wpAny_of_eq (a:=Value.none) (by first | rfl | (simp only [firstArgMember];rfl)) ?_)
 refine af3 ?_ (by size_fits);simp only [raiseNew];refine aa0 (wpAny_handled ?_)
 first | rw [show A.in1.handled=none from hh] | rw [hh]
 exact aa0 (aa6 (wpAny_throw (hE _ _ (((Heap.SameBut.update ..).extBut.push _).push _) ⟨_,aa8 _ rfl,rfl⟩)))
end
theorem draws_tuple{prog:Program}{w:World}{A:Around}(hh:A.handled=none)(it t:Addr)(hne:t≠it)(its:Array Value):
  Draws prog w A it [it,t] its.size (λi v=>its[i]?=some v) (λi h=>h.IsTupleIter it t i/\h.IsTuple t its) where
 live:=λ_ _ st=>let ⟨o,ho,_⟩:=st.1;⟨o,ho⟩
 frame:=λ_ _ _ st hk=>⟨st.1.at λo e=>hk it (by simp) o e,let ⟨o,ho,r⟩:=st.2;⟨o,hk t (by simp) o ho,r⟩⟩
 item:=λi s Q E hi st hQ=>sr st.1 st.2 (x:=its[i]) (by simp [hi]) λh' qi qs=>hQ _ h' s.toks (by simp [hi]) ⟨qi,st.2.extBut qs.extBut hne⟩ qs
 done:=λs Q E st hE=>ur hh st.1 st.2 (by simp) hE
abbrev ki(h:Heap)(z TI TO:Addr)(f0:Value)(b1:Bool):Prop:=h.get? z=some { cls:=.type "zip",dict:=none,data:=.fields #[f0,.bool b1,.bool false,.ref TI,.ref TO],slots:=#[] }
def rP(f0:Value):Prop:=f0=.none\/∃T:Addr,f0=rawInt T
def G5(h:Heap)(z TI TO:Addr):Prop:=∃f0 b1,ki h z TI TO f0 b1/\rP f0
structure ZAp(z TI TO i1 i2:Addr)(f1 f2:List Addr):Prop where
 a1:TI≠z
 a2:TO≠z
 a3:TI≠TO
 m1:i1∈f1
 m2:i2∈f2
 z1:z∉f1
 z2:z∉f2
 t1:TI∉f1
 t2:TI∉f2
 o1:TO∉f1
 o2:TO∉f2
 n1:i1∉f2
 n2:i2∉f1
section
variable {prog:Program} {w:World} {A:Around} {E:Value->Shared->Prop} {s:Shared} {z TI TO i1 i2:Addr} {f1 f2:List Addr} {n1 n2 k:Nat} {P1 P2:Nat->Value->Prop} {S1 S2:Nat->Heap->Prop} {a b:Value}
theorem dw{it c:Addr}{fp:List Addr}{n i:Nat}{P:Nat->Value->Prop}{St:Nat->Heap->Prop}{h h':Heap}(D:Draws prog w A it fp n P St)(st:St i h)(sb:Heap.SameBut c h h')(hc:c∉fp):St i h':=
 D.frame i h h' st λd hd o e=>(sb.2 d λq=>hc (q▸hd)).trans e
theorem zB{M:Model}{c:Addr}{Q:Option Obj->Shared->Prop}(h:Q (s.heap.get? c) s):wpAny M A (loadIfAlive c) Q E s:=λΓ p _=>by
 show Sem.wp M Γ (.loadIfAlive c .pure) _ _ p s;rw [Sem.wp_loadIfAlive];exact h
theorem oy{f0:Value}{b1:Bool}{Q:Bool->Shared->Prop}(qz:ki s.heap z TI TO f0 b1)(hf:rP f0)(h1:Q true s)
  (h2:∀h',f0≠.none->ki h' z TI TO f0 true->Heap.SameBut z s.heap h'->Q false { s with heap:=h' }):wpAny (model prog w) A (Builtin.SmallTypes.ownedTupleIsFree (.ref z)) Q E s:=by
 unfold Builtin.SmallTypes.ownedTupleIsFree;rcases hf with rfl | ⟨T,rfl⟩
 ·exact aa0 (ae6 qz rfl (x:=.none) rfl (aa6 h1))
 ·refine aa0 (ae6 qz rfl (x:=rawInt T) rfl ?_)
  show wpAny _ _ (loadIfAlive ((T:Int)).toNat >>= _) _ _ s;refine aa0 (zB ?_)
  cases s.heap.get? ((T:Int)).toNat with
  | none=>exact aa6 h1
  | some o=>
   show wpAny _ _ (field (.ref z) 1 >>= _) _ _ s;refine aa0 (ae6 qz rfl (x:=.bool b1) rfl ?_)
   cases b1 with
   | true=>exact aa6 (h2 s.heap (λz=>nomatch z) qz (Heap.SameBut.refl ..))
   | false=>
    show wpAny _ _ (setField (.ref z) 1 (.bool true) >>= _) _ _ s;exact aa0 (ae5 qz (by simp) λh' q e=>aa6 (h2 h' (λz=>nomatch z) q e))
theorem zh{f0:Value}{b1:Bool}{Q:Value->Shared->Prop}(D1:Draws prog w A i1 f1 n1 P1 S1)(D2:Draws prog w A i2 f2 n2 P2 S2)(ap:ZAp z TI TO i1 i2 f1 f2)(qz:ki s.heap z TI TO f0 b1)(hf:rP f0)(qI:IsPair s.heap TI (.ref i1) (.ref i2))(qO:IsPair s.heap TO a b)
  (st1:S1 k s.heap) (st2:S2 k s.heap) (k1:k < n1) (k2:k < n2)
  (hQ:∀x y h' tk,P1 k x->P2 k y->G5 h' z TI TO->(f0=.none->IsZip h' z TI TO (rawInt s.heap.objs.size))->IsPair h' TI (.ref i1) (.ref i2)->(∃a b,IsPair h' TO a b)->S1 (k+1) h'->S2 (k+1) h'->IsPair h' s.heap.objs.size x y->h'.objs.size=s.heap.objs.size+1->
   (∀c o,c≠z->c≠TO->c≠i1->c≠i2->s.heap.get? c=some o->h'.get? c=some o)->Q (.ref s.heap.objs.size) { s with heap:=h',toks:=tk }) :
  wpAny (model prog w) A (Builtin.«zip.__next__» ⟨[.ref z],[]⟩) (λfin s'=>∃v,fin=.done (.ret v)/\Q v s') E s:=by
 have c1:i1≠z:=λq=>ap.z1 (q▸ap.m1);have c2:i2≠z:=λq=>ap.z2 (q▸ap.m2);have c3:TO≠i1:=λq=>ap.o1 (q▸ap.m1);have c4:TO≠i2:=λq=>ap.o2 (q▸ap.m2);have c5:TI≠i1:=λq=>ap.t1 (q▸ap.m1);have c6:TI≠i2:=λq=>ap.t2 (q▸ap.m2);show wpAny _ _ (field (.ref z) 2 >>= _) _ _ _;refine aa0 (ae6 qz rfl (x:=.bool false) rfl ?_);show wpAny _ _ (field (.ref z) 3 >>= _) _ _ _;refine aa0 (ae6 qz rfl (x:=.ref TI) rfl ?_);refine aa0 (af0 qI rfl ?_);show wpAny _ _ (Builtin.SmallTypes.ownedTupleIsFree (.ref z) >>= _) _ _ _;refine aa0 (oy qz hf ?_ λh₀ Yp Yq Zv=>?_)
 ·simp only [if_true]
  refine aa0 (an8 ?_);refine aa0 (ae6 qz rfl (x:=.ref TO) rfl ?_);refine aa0 (ae5 qz (by simp) λZu Zx Zo=>?_);replace Zx:ki Zu z TI TO .ellipsis b1:=Zx;refine aa0 ?_;simp only [List.zipIdx_cons,List.zipIdx_nil,ag2,al5];refine aa0 (aa0 (ao5 ?_));show wpAny _ _ (Builtin.SmallTypes.nextOf (.ref i1) >>= _) _ _ _;refine aa0 (D1.item k _ _ _ k1 (dw D1 st1 Zo ap.z1) λx Zt Ye p1 u1 Zi=>aa6 ?_);have Z5:IsPair Zt TO a b:=Zi.extBut _ _ c3 (Zo.extBut _ _ ap.a2 qO);refine aa0 (af0 Z5 rfl ?_);refine aa0 (am7 Z5 λZ0 Yb Zp=>?_);replace Yb:IsPair Z0 TO x b:=Yb;refine aa0 (ah8 (aa6 ?_));refine aa0 (aa0 (ao5 ?_));show wpAny _ _ (Builtin.SmallTypes.nextOf (.ref i2) >>= _) _ _ _;refine aa0 (D2.item k _ _ _ k2 (dw D2 (dw D2 (dw D2 st2 Zo ap.z2) Zi ap.n1) Zp ap.o2) λy Zk Yy p2 u2 Zl=>aa6 ?_);have Yr:IsPair Zk TO x b:=Zl.extBut _ _ c4 Yb;refine aa0 (af0 Yr rfl ?_);refine aa0 (am7 Yr λZj Yc Zy=>?_);replace Yc:IsPair Zj TO x y:=Yc;refine aa0 (ah8 (aa6 (aa6 ?_)));refine aa0 (af0 Yc rfl ?_);refine aa0 (wpAny_newTuple ?_)
  have sz:Zj.objs.size=s.heap.objs.size:=by rw [Zy.1,Zl.1,Zp.1,Zi.1,Zo.1]
  have Ys:ki Zj z TI TO .ellipsis b1:=Zy.extBut _ _ ap.a2.symm (Zl.extBut _ _ c2.symm (Zp.extBut _ _ ap.a2.symm (Zi.extBut _ _ c1.symm Zx)));have Yt:∀c o,c≠z->c≠TO->c≠i1->c≠i2->s.heap.get? c=some o->Zj.get? c=some o:=λc o d1 d2 d3 d4 e=>Zy.extBut _ _ d2 (Zl.extBut _ _ d4 (Zp.extBut _ _ d2 (Zi.extBut _ _ d3 (Zo.extBut _ _ d1 e))));have Yz:S1 (k+1) Zj:=dw D1 (dw D1 (dw D1 u1 Zp ap.o1) Zl ap.n2) Zy ap.o1;have Y0:S2 (k+1) Zj:=dw D2 u2 Zy ap.o2;have zl:z < Zj.objs.size:=aa9 Ys;show wpAny _ _ (Builtin.SmallTypes.ownedTupleHandOut (.ref z) (.ref Zj.objs.size) >>= _) _ _ _;refine aa0 ?_;unfold Builtin.SmallTypes.ownedTupleHandOut;have Y1:ki (Zj.push { cls:=.type "tuple",data:=.seq #[x,y] }) z TI TO .ellipsis b1:=aa4 _ Ys;refine aa0 (ae5 Y1 (by simp) λY2 Yf Yg=>?_);replace Yf:ki Y2 z TI TO (rawInt Zj.objs.size) b1:=Yf;refine ae5 Yf (by simp) λZ6 Z7 Yh=>?_;replace Z7:ki Z6 z TI TO (rawInt Zj.objs.size) false:=Z7;have up:∀c o,c≠z->Zj.get? c=some o->Z6.get? c=some o:=λc o d1 e=>Yh.extBut _ _ d1 (Yg.extBut _ _ d1 (aa4 _ e));have Z8:IsPair Z6 Zj.objs.size x y:=Yh.extBut _ _ (af1 zl) (Yg.extBut _ _ (af1 zl) (aa8 _ rfl))
  have s8:Z6.objs.size=Zj.objs.size+1:=by rw [Yh.1,Yg.1,af2]
  rw [sz]at Z7 Z8 s8;refine aa6 ⟨_,rfl,?_⟩;show Q (.ref Zj.objs.size) _;rw [sz];exact hQ x y Z6 _ p1 p2 ⟨_,_,Z7,.inr ⟨_,rfl⟩⟩ (λ_=>Z7) (up _ _ ap.a1 (Yt _ _ ap.a1 ap.a3 c5 c6 qI)) ⟨_,_,up _ _ ap.a2 Yc⟩ (D1.frame _ _ _ Yz λd hd o e=>up d o (λq=>ap.z1 (q▸hd)) e) (D2.frame _ _ _ Y0 λd hd o e=>up d o (λq=>ap.z2 (q▸hd)) e) Z8 s8 λc o d1 d2 d3 d4 e=>up c o d1 (Yt c o d1 d2 d3 d4 e)
 ·simp only [ad0,if_false]
  refine aa0 ?_;refine wpAny_arrayLoop ?_;simp only [ag2,al5];refine aa0 (aa0 (ae3 ?_));show wpAny _ _ (Builtin.SmallTypes.nextOf (.ref i1) >>= _) _ _ _;refine aa0 (D1.item k _ _ _ k1 (dw D1 st1 Zv ap.z1) λx Zt Ye p1 u1 Zi=>aa6 ?_);refine aa6 ?_;refine aa0 (aa0 (ae3 ?_));show wpAny _ _ (Builtin.SmallTypes.nextOf (.ref i2) >>= _) _ _ _;refine aa0 (D2.item k _ _ _ k2 (dw D2 (dw D2 st2 Zv ap.z2) Zi ap.n1) λy Zk Yy p2 u2 Zl=>aa6 ?_);refine aa6 (aa6 ?_);show wpAny _ _ (newTuple [x,y] >>= _) _ _ _;refine aa0 (wpAny_newTuple ?_)
  have sz:Zk.objs.size=s.heap.objs.size:=by rw [Zl.1,Zi.1,Zv.1]
  have Yd:ki Zk z TI TO f0 true:=Zl.extBut _ _ c2.symm (Zi.extBut _ _ c1.symm Yq);have Yi:∀c o,c≠z->c≠i1->c≠i2->s.heap.get? c=some o->Zk.get? c=some o:=λc o d1 d3 d4 e=>Zl.extBut _ _ d4 (Zi.extBut _ _ d3 (Zv.extBut _ _ d1 e));have up:∀c o,Zk.get? c=some o->(Zk.push { cls:=.type "tuple",data:=.seq #[x,y] }).get? c=some o:=λc o e=>aa4 _ e;have Z8:IsPair (Zk.push { cls:=.type "tuple",data:=.seq #[x,y] }) Zk.objs.size x y:=aa8 _ rfl;have s8:(Zk.push { cls:=.type "tuple",data:=.seq #[x,y] }).objs.size=Zk.objs.size+1:=af2 ..;refine aa6 ⟨_,rfl,?_⟩;show Q (.ref Zk.objs.size) _;rw [sz]at Z8 s8 |-;exact hQ x y _ _ p1 p2 ⟨_,_,up _ _ Yd,hf⟩ (λz=>absurd z Yp) (up _ _ (Yi _ _ ap.a1 c5 c6 qI)) ⟨_,_,up _ _ (Yi _ _ ap.a2 c3 c4 qO)⟩ (D1.frame _ _ _ (dw D1 u1 Zl ap.n2) λd hd o e=>up d o e) (D2.frame _ _ _ u2 λd hd o e=>up d o e) Z8 s8 λc o d1 d2 d3 d4 e=>up c o (Yi c o d1 d3 d4 e)
theorem BL{f0:Value}{b1:Bool}{Q:Fin->Shared->Prop}(D1:Draws prog w A i1 f1 n1 P1 S1)(D2:Draws prog w A i2 f2 n2 P2 S2)(ap:ZAp z TI TO i1 i2 f1 f2)(qz:ki s.heap z TI TO f0 b1)(hf:rP f0)(qI:IsPair s.heap TI (.ref i1) (.ref i2))(qO:IsPair s.heap TO a b)
  (st1:S1 k s.heap) (st2:S2 k s.heap) (kk:k=n1\/(k < n1/\k=n2))
  (hE:∀h' e tk,(∀c o,c≠z->c≠TO->c≠i1->c≠i2->s.heap.get? c=some o->h'.get? c=some o)->(∃o,h'.get? e=some o/\o.cls=.type "StopIteration")->E (.ref e) { s with heap:=h',toks:=tk }) :
  wpAny (model prog w) A (Builtin.«zip.__next__» ⟨[.ref z],[]⟩) Q E s:=by
 have c1:i1≠z:=λq=>ap.z1 (q▸ap.m1);have c2:i2≠z:=λq=>ap.z2 (q▸ap.m2);have c3:TO≠i1:=λq=>ap.o1 (q▸ap.m1);have c4:TO≠i2:=λq=>ap.o2 (q▸ap.m2);show wpAny _ _ (field (.ref z) 2 >>= _) _ _ _;refine aa0 (ae6 qz rfl (x:=.bool false) rfl ?_);show wpAny _ _ (field (.ref z) 3 >>= _) _ _ _;refine aa0 (ae6 qz rfl (x:=.ref TI) rfl ?_);refine aa0 (af0 qI rfl ?_);show wpAny _ _ (Builtin.SmallTypes.ownedTupleIsFree (.ref z) >>= _) _ _ _;refine aa0 (oy qz hf ?_ λh₀ Yp Yq Zv=>?_)
 ·simp only [if_true]
  refine aa0 (an8 ?_);refine aa0 (ae6 qz rfl (x:=.ref TO) rfl ?_);refine aa0 (ae5 qz (by simp) λZu Zx Zo=>?_);replace Zx:ki Zu z TI TO .ellipsis b1:=Zx;refine aa0 ?_;simp only [List.zipIdx_cons,List.zipIdx_nil,ag2,al5];refine aa0 (aa0 (ao5 ?_));show wpAny _ _ (Builtin.SmallTypes.nextOf (.ref i1) >>= _) _ _ _;rcases kk with kk | ⟨k1,kk⟩
  ·subst kk
   refine aa0 (D1.done _ _ _ (dw D1 st1 Zo ap.z1) λZt e Zi he=>?_);obtain⟨oe,hoe,hce⟩:=he;have Yu:ki Zt z TI TO .ellipsis b1:=Zi _ _ c1.symm Zx
   have ez:e≠z:=λq=>by subst q;rw [Yu]at hoe;cases hoe;simp at hce
   exact ae5 Yu (by simp) λZ0 _ Zp=>hE Z0 e _ (λc o d1 _ d3 _ q=>Zp.extBut _ _ d1 (Zi _ _ d3 (Zo.extBut _ _ d1 q))) ⟨oe,Zp.extBut _ _ ez hoe,hce⟩
  ·subst kk
   refine aa0 (D1.item k _ _ _ k1 (dw D1 st1 Zo ap.z1) λx Zt Ye p1 u1 Zi=>aa6 ?_);have Z5:IsPair Zt TO a b:=Zi.extBut _ _ c3 (Zo.extBut _ _ ap.a2 qO);refine aa0 (af0 Z5 rfl ?_);refine aa0 (am7 Z5 λZ0 Yb Zp=>?_);refine aa0 (ah8 (aa6 ?_));refine aa0 (aa0 (ao5 ?_));show wpAny _ _ (Builtin.SmallTypes.nextOf (.ref i2) >>= _) _ _ _;refine aa0 (D2.done _ _ _ (dw D2 (dw D2 (dw D2 st2 Zo ap.z2) Zi ap.n1) Zp ap.o2) λZk e Zl he=>?_);obtain⟨oe,hoe,hce⟩:=he;have Yd:ki Zk z TI TO .ellipsis b1:=Zl _ _ c2.symm (Zp.extBut _ _ ap.a2.symm (Zi.extBut _ _ c1.symm Zx))
   have ez:e≠z:=λq=>by subst q;rw [Yd]at hoe;cases hoe;simp at hce
   exact ae5 Yd (by simp) λZj _ Zy=>hE Zj e _ (λc o d1 d2 d3 d4 q=>Zy.extBut _ _ d1 (Zl _ _ d4 (Zp.extBut _ _ d2 (Zi.extBut _ _ d3 (Zo.extBut _ _ d1 q))))) ⟨oe,Zy.extBut _ _ ez hoe,hce⟩
 ·simp only [ad0,if_false]
  refine aa0 ?_;refine wpAny_arrayLoop ?_;simp only [ag2,al5];refine aa0 (aa0 (ae3 ?_));show wpAny _ _ (Builtin.SmallTypes.nextOf (.ref i1) >>= _) _ _ _;rcases kk with kk | ⟨k1,kk⟩
  ·subst kk
   refine aa0 (D1.done _ _ _ (dw D1 st1 Zv ap.z1) λZt e Zi he=>?_);exact hE Zt e _ (λc o d1 _ d3 _ q=>Zi _ _ d3 (Zv.extBut _ _ d1 q)) he
  ·subst kk
   refine aa0 (D1.item k _ _ _ k1 (dw D1 st1 Zv ap.z1) λx Zt Ye p1 u1 Zi=>aa6 ?_);refine aa6 ?_;refine aa0 (aa0 (ae3 ?_));show wpAny _ _ (Builtin.SmallTypes.nextOf (.ref i2) >>= _) _ _ _;refine aa0 (D2.done _ _ _ (dw D2 (dw D2 st2 Zv ap.z2) Zi ap.n1) λZk e Zl he=>?_);exact hE Zk e _ (λc o d1 d2 d3 d4 q=>Zl _ _ d4 (Zi.extBut _ _ d3 (Zv.extBut _ _ d1 q))) he
theorem nextZip_item{Q:Option Value->Shared->Prop}(D1:Draws prog w A.in1 i1 f1 n1 P1 S1)(D2:Draws prog w A.in1 i2 f2 n2 P2 S2)(ap:ZAp z TI TO i1 i2 f1 f2)(qz:IsZip s.heap z TI TO .none)(qI:IsPair s.heap TI (.ref i1) (.ref i2))(qO:IsPair s.heap TO a b)
  (st1:S1 k s.heap) (st2:S2 k s.heap) (k1:k < n1) (k2:k < n2)
  (hQ:∀x y h' tk,P1 k x->P2 k y->IsZip h' z TI TO (rawInt s.heap.objs.size)->(∃a b,IsPair h' TO a b)->S1 (k+1) h'->S2 (k+1) h'->IsPair h' s.heap.objs.size x y->h'.objs.size=s.heap.objs.size+1->
   (∀c o,c≠z->c≠TO->c≠i1->c≠i2->s.heap.get? c=some o->h'.get? c=some o)->Q (some (.ref s.heap.objs.size)) { s with heap:=h',toks:=tk }):wpAny (model prog w) A (pyNext (.ref z)) Q E s:=by
 have ty:s.TypeIs (.ref z) "zip":=⟨_,qz,rfl⟩;unfold pyNext
 exact aa0 (ao6 (wpAny_callSpecial?_slot (name:=Str.ofString "__next__") ty F.slot_zip_next (af6 F.slot_zip_next ty F.entry_zip_next
   (zh D1 D2 ap qz (.inl rfl) qI qO st1 st2 k1 k2 λx y h' tk b1 b2 b3 b4 b5 b6 b7 b8 b9 b10 b11=>aa6 (hQ x y h' tk b1 b2 (b4 rfl) b6 b7 b8 b9 b10 b11)) (F.args_zip_next_1 _))))
theorem nextZip_end{Q:Option Value->Shared->Prop}(D1:Draws prog w A.in1 i1 f1 n1 P1 S1)(D2:Draws prog w A.in1 i2 f2 n2 P2 S2)(ap:ZAp z TI TO i1 i2 f1 f2)(qz:IsZip s.heap z TI TO .none)(qI:IsPair s.heap TI (.ref i1) (.ref i2))(qO:IsPair s.heap TO a b)
  (st1:S1 k s.heap) (st2:S2 k s.heap) (kk:k=n1\/(k < n1/\k=n2))
  (hQ:∀h' tk,(∀c o,c≠z->c≠TO->c≠i1->c≠i2->s.heap.get? c=some o->h'.get? c=some o)->Q none { s with heap:=h',toks:=tk }):wpAny (model prog w) A (pyNext (.ref z)) Q E s:=by
 have ty:s.TypeIs (.ref z) "zip":=⟨_,qz,rfl⟩;unfold pyNext;refine aa0 (ao6 (wpAny_callSpecial?_slot (name:=Str.ofString "__next__") ty F.slot_zip_next (af6 F.slot_zip_next ty F.entry_zip_next (BL D1 D2 ap qz (.inl rfl) qI qO st1 st2 kk λh' e tk hk he=>?_) (F.args_zip_next_1 _))));obtain⟨oe,hoe,hce⟩:=he;exact aa0 (ak6 (T:="StopIteration") (b:=true) ⟨oe,hoe,hce⟩ isSubtype_stop (aa6 (hQ _ _ hk)))
end
def itRec(l:Bool)(a:Addr):Obj:={ cls:=.type (if l then "list_iterator" else "tuple_iterator"),data:=.fields #[.ref a,.int 0 0] }
def IsSeq(l:Bool)(h:Heap)(a:Addr)(xs:Array Value):Prop:=if l=true then h.IsList a xs else h.IsTuple a xs
theorem IsSeq.push{l:Bool}{h:Heap}{a:Addr}{xs:Array Value}(q:IsSeq l h a xs)(o:Obj):IsSeq l (h.push o) a xs:=by
 cases l
 ·exact Heap.IsTuple.push (show h.IsTuple a xs from q) o
 ·exact Heap.IsList.push (show h.IsList a xs from q) o
theorem iZ{prog:Program}{w:World}{A:Around}{E:Value->Shared->Prop}{s:Shared}{l:Bool}{a:Addr}{xs:Array Value}{Q:Value->Shared->Prop}(q:IsSeq l s.heap a xs)(h:Q (.ref s.heap.objs.size) { s with heap:=s.heap.push (itRec l a) }):wpAny (model prog w) A (pyIter (.ref a)) Q E s:=by
 cases l
 ·exact wpAny_pyIter_tuple (show s.heap.IsTuple a xs from q) h
 ·exact al4 (show s.heap.IsList a xs from q) h
abbrev GQ(h:Heap)(l1:Bool)(a1:Addr):Heap:=h.push (itRec l1 a1)
abbrev GR(h:Heap)(l1 l2:Bool)(a1 a2:Addr):Heap:=(GQ h l1 a1).push (itRec l2 a2)
abbrev GS(h:Heap)(l1 l2:Bool)(a1 a2:Addr):Heap:=(GR h l1 l2 a1 a2).push { cls:=.type "tuple",data:=.seq #[.ref h.objs.size,.ref (GQ h l1 a1).objs.size] }
abbrev GU(h:Heap)(l1 l2:Bool)(a1 a2:Addr):Heap:=(GS h l1 l2 a1 a2).push { cls:=.type "tuple",data:=.seq #[.none,.none] }
abbrev Ft(h:Heap)(l1 l2:Bool)(a1 a2:Addr):Heap:=(GU h l1 l2 a1 a2).push { cls:=.type "zip",data:=.fields #[.none,.bool false,.bool false,.ref (GR h l1 l2 a1 a2).objs.size,.ref (GS h l1 l2 a1 a2).objs.size] }
theorem yD(l1 l2:Bool)(a1 a2:Addr)(xs ys:Array Value):
  Meets (Builtin.«zip.__new__» ⟨[.type "zip",.ref a1,.ref a2],[]⟩) (λ_ R s=>IsSeq l1 s.heap a1 xs/\IsSeq l2 s.heap a2 ys/\R (.ok (.ret (.ref (GU s.heap l1 l2 a1 a2).objs.size))) { s with heap:=Ft s.heap l1 l2 a1 a2 }):=
 .of_wp λprog w A R s h=>by
  obtain⟨hp,g,d,tk,os⟩:=s;obtain⟨q1,q2,h⟩:=h;have hsub:=sub_zip;have u1:IsSeq l1 (Shared.heap ⟨hp,g,d,tk,os⟩) a1 xs:=q1;have u2:IsSeq l2 (Shared.heap ⟨hp.push (itRec l1 a1),g,d,tk,os⟩) a2 ys:=IsSeq.push q2 _
  wp_walk using iZ u1,iZ u2
  exact⟨_,rfl,h⟩
section
variable {prog:Program} {w:World} {A:Around} {E:Value->Shared->Prop} {s:Shared}
theorem call_zip{l1 l2:Bool}{a1 a2:Addr}{xs ys:Array Value}{Q:Value->Shared->Prop}(q1:IsSeq l1 s.heap a1 xs)(q2:IsSeq l2 s.heap a2 ys)
  (h:∀h',IsZip h' (s.heap.objs.size+4) (s.heap.objs.size+2) (s.heap.objs.size+3) .none->IsPair h' (s.heap.objs.size+2) (.ref s.heap.objs.size) (.ref (s.heap.objs.size+1))->
   IsPair h' (s.heap.objs.size+3) .none .none->h'.get? s.heap.objs.size=some (itRec l1 a1)->h'.get? (s.heap.objs.size+1)=some (itRec l2 a2)->h'.objs.size=s.heap.objs.size+5->
   (∀c o,s.heap.get? c=some o->h'.get? c=some o)->Q (.ref (s.heap.objs.size+4)) { s with heap:=h' }):wpAny (model prog w) A (call (.type "zip") [.ref a1,.ref a2]) Q E s:=by
 refine callType_new F.called_zip ∅ (F.typeCall_zip_2 _ _) (F.newCall_zip_2 _ _) (λobj=>F.args_object_init_3 obj _ _) F.entry_zip_new (yD l1 l2 a1 a2 xs ys) ⟨q1,q2,?_⟩;have e1:(GQ s.heap l1 a1).objs.size=s.heap.objs.size+1:=af2 ..
 have e2:(GR s.heap l1 l2 a1 a2).objs.size=s.heap.objs.size+2:=by rw [af2,e1]
 have e3:(GS s.heap l1 l2 a1 a2).objs.size=s.heap.objs.size+3:=by rw [af2,e2]
 have e4:(GU s.heap l1 l2 a1 a2).objs.size=s.heap.objs.size+4:=by rw [af2,e3]
 have e5:(Ft s.heap l1 l2 a1 a2).objs.size=s.heap.objs.size+5:=by rw [af2,e4]
 have g5:(Ft s.heap l1 l2 a1 a2).get? (GU s.heap l1 l2 a1 a2).objs.size=some _:=aa8 _ rfl;have g4:(Ft s.heap l1 l2 a1 a2).get? (GS s.heap l1 l2 a1 a2).objs.size=some _:=aa4 _ (aa8 _ rfl);have g3:(Ft s.heap l1 l2 a1 a2).get? (GR s.heap l1 l2 a1 a2).objs.size=some _:=aa4 _ (aa4 _ (aa8 _ rfl));have g2:(Ft s.heap l1 l2 a1 a2).get? (GQ s.heap l1 a1).objs.size=some (itRec l2 a2):=aa4 _ (aa4 _ (aa4 _ (aa8 _ rfl)));have g1:(Ft s.heap l1 l2 a1 a2).get? s.heap.objs.size=some (itRec l1 a1):=aa4 _ (aa4 _ (aa4 _ (aa4 _ (aa8 _ rfl))));show _/\_;rw [e2,e3,e4]at g5;rw [e1,e2]at g3;rw [e3]at g4;rw [e1]at g2;rw [e4];exact⟨⟨_,g5,rfl⟩,h _ g5 g3 g4 g1 g2 e5 λc o q=>aa4 _ (aa4 _ (aa4 _ (aa4 _ (aa4 _ q))))⟩
end
end L3
namespace L2
open PySem PySem.Spec PyProof.Rows
variable {H:Hp} {X:Cx} {a it:Addr} {h:Heap} {l:Bool} {pins:List (Addr×Obj)} {s:Shared} {xs:List V} {Z:St}
def gP(K:Frag)(l:Bool)(H:Hp)(a:Addr)(xs:List V):Prop:=if l=true then aF K H a xs else cT K H a xs
def ke(l:Bool)(h:Heap)(it a:Addr)(i:Nat):Prop:=if l=true then h.IsListIter it a i else h.IsTupleIter it a i
theorem ke.at{h':Heap}{i:Nat}(x:ke l h it a i)(e:∀o,h.get? it=some o->h'.get? it=some o):ke l h' it a i:=by
 cases l
 ·exact Heap.IsTupleIter.at (show h.IsTupleIter it a i from x) e
 ·exact Heap.IsListIter.at (show h.IsListIter it a i from x) e
theorem ke.rec(e:h.get? it=some (L3.itRec l a)):ke l h it a 0:=by
 cases l
 ·exact⟨_,e,rfl,rfl⟩
 ·exact⟨_,e,rfl,rfl⟩
theorem ke.obj{i:Nat}(x:ke l h it a i):∃o,h.get? it=some o/\∀v,o.data≠.cell v:=by
 cases l
 ·obtain⟨o,e,_,d⟩:=(show h.IsTupleIter it a i from x)
  exact⟨o,e,λv z=>by rw [d]at z;cases z⟩
 ·obtain⟨o,e,_,d⟩:=(show h.IsListIter it a i from x)
  exact⟨o,e,λv z=>by rw [d]at z;cases z⟩
theorem fL{P:Program}{w:World}{A:Around}(hh:A.handled=none)(l:Bool)(it a:Addr)(hne:a≠it)(its:Array Value):
  Draws P w A it [it,a] its.size (λi v=>its[i]?=some v) (λi h=>ke l h it a i/\L3.IsSeq l h a its):=by
 cases l
 ·exact L3.draws_tuple hh it a hne its
 ·exact Draws.list hh it a hne its
theorem aK.seqB(I:aK X pins Z H s)(h:gP X.K l H a xs):∃its:List Value,aU xs its/\L3.IsSeq l s.heap a its.toArray/\xs.length<=sizeLine:=by
 cases l
 ·obtain⟨its,r,p,z⟩:=I.tuple (show cT X.K H a xs from h)
  exact⟨its,r,p,z⟩
 ·obtain⟨its,r,p,z⟩:=I.list (show aF X.K H a xs from h)
  exact⟨its,r,p.isList,z⟩
theorem aK.seqB_inj{ys:List V}(I:aK X pins Z H s)(h:gP X.K l H a xs)(h':gP X.K l H a ys):xs=ys:=by
 cases l
 ·exact I.tuple_inj (show cT X.K H a xs from h) h'
 ·exact I.list_inj (show aF X.K H a xs from h) h'
theorem aK.seqB_ne{b:Addr}(I:aK X pins Z H s)(h:gP X.K l H a xs)(f:mO X pins H b):a≠b:=by
 obtain⟨f0,_,_,f3,_,_⟩:=f
 have tr:∀{o:HO},Rd H a o->a≠b:=λ{o} r=>by
  rcases r with r | ⟨_,r⟩
  ·exact ao r f0
  ·exact ao r f0
 have kb:∀{o:Obj},X.K.lookup a=some o->a≠b:=λ{o} hk=>by
  have hb:=I.ok.mod.kin a o hk;rcases f3 with z | z
  ·exact λq=>I.ok.noex a o hb (q▸z)
  ·exact ac0 (ab6 (aa9 hb) (ac2 I.ok.bsz z))
 cases l
 ·rcases(show cT X.K H a xs from h)with h | ⟨o,_,_,hk,_⟩
  ·exact tr h
  ·exact kb hk
 ·rcases(show aF X.K H a xs from h)with h | ⟨o,_,_,hk,_⟩
  ·exact tr h
  ·exact kb hk
def G0(K:Frag)(l1 l2:Bool)(a1 a2:Addr):It:=
 ⟨λi H=>∃xs ys x y,gP K l1 H a1 xs/\gP K l2 H a2 ys/\xs[i]?=some x/\ys[i]?=some y,
  λi H v H'=>∃p x y,v=.ref p/\H p=none/\H'=upd H p (.tup [x,y])/\(∀xs,gP K l1 H a1 xs->xs[i]?=some x)/\∀ys,gP K l2 H a2 ys->ys[i]?=some y,
  λi H=>∃xs ys,gP K l1 H a1 xs/\gP K l2 H a2 ys/\(i=xs.length\/(i < xs.length/\i=ys.length))⟩
theorem BH{P:Program}{w:World}{K:Frag}{elts:List Expr}{kt:Nat}{pt:Pos}(l1 l2:Bool)(a1 a2 z TI TO i1 i2:Addr)(nd:[z,TI,TO,i1,i2].Nodup):
  pJ P w K (.Tuple elts kt pt) (G0 K l1 l2 a1 a2) [z,TI,TO,i1,i2] z
   (λi h=>IsZip h z TI TO .none/\IsPair h TI (.ref i1) (.ref i2)/\(∃a b,IsPair h TO a b)/\ke l1 h i1 a1 i/\ke l2 h i2 a2 i):=by
 have nd':(z≠TI/\z≠TO/\z≠i1/\z≠i2)/\(TI≠TO/\TI≠i1/\TI≠i2)/\(TO≠i1/\TO≠i2)/\i1≠i2:=by
  simpa [not_or]using nd
 obtain⟨⟨d1,d2,d3,d4⟩,⟨d5,d6,d7⟩,⟨d8,d9⟩,d10⟩:=nd'
 have zap:∀{X:Cx} {pins:List (Addr×Obj)} {Z:St} {H:Hp} {s:Shared} {xs ys:List V},aK X pins Z H s->(∀b∈[z,TI,TO,i1,i2],mO X pins H b)->gP X.K l1 H a1 xs->gP X.K l2 H a2 ys->L3.ZAp z TI TO i1 i2 [i1,a1] [i2,a2]:=λ{X pins Z H s xs ys} I hf q1 q2=>by
  have n1:∀b∈[z,TI,TO,i1,i2],a1≠b:=λb hb=>I.seqB_ne q1 (hf b hb);have n2:∀b∈[z,TI,TO,i1,i2],a2≠b:=λb hb=>I.seqB_ne q2 (hf b hb);refine⟨d1.symm,d2.symm,d5,by simp,by simp,?_,?_,?_,?_,?_,?_,?_,?_⟩
  ·simp only [ab0,ad3,or_false,not_or];exact⟨d3,(n1 z (by simp)).symm⟩
  ·simp only [ab0,ad3,or_false,not_or];exact⟨d4,(n2 z (by simp)).symm⟩
  ·simp only [ab0,ad3,or_false,not_or];exact⟨d6,(n1 TI (by simp)).symm⟩
  ·simp only [ab0,ad3,or_false,not_or];exact⟨d7,(n2 TI (by simp)).symm⟩
  ·simp only [ab0,ad3,or_false,not_or];exact⟨d8,(n1 TO (by simp)).symm⟩
  ·simp only [ab0,ad3,or_false,not_or];exact⟨d9,(n2 TO (by simp)).symm⟩
  ·simp only [ab0,ad3,or_false,not_or];exact⟨d10,(n2 i1 (by simp)).symm⟩
  ·simp only [ab0,ad3,or_false,not_or];exact⟨d10.symm,(n1 i2 (by simp)).symm⟩
 refine⟨by simp,?_,?_,?_,?_,?_⟩
 ·rintro i h ⟨qz,qI,⟨a,b,qO⟩,u1,u2⟩ c hc
  have hc':c=z\/c=TI\/c=TO\/c=i1\/c=i2:=by simpa using hc
  rcases hc' with e | e | e | e | e
  ·subst e;exact⟨_,qz,λv q=>by cases q⟩
  ·subst e;exact⟨_,qI,λv q=>by cases q⟩
  ·subst e;exact⟨_,qO,λv q=>by cases q⟩
  ·subst e;exact u1.obj
  ·subst e;exact u2.obj
 ·rintro i h h' ⟨qz,qI,⟨a,b,qO⟩,u1,u2⟩ k
  exact⟨k z (by simp) _ qz,k TI (by simp) _ qI,⟨a,b,k TO (by simp) _ qO⟩,u1.at λo e=>k i1 (by simp) o e,u2.at λo e=>k i2 (by simp) o e⟩
 ·rintro X hP hw hK hc i pins s Z H E I hf ⟨qz,qI,⟨a,b,qO⟩,u1,u2⟩ ⟨xs,ys,x,y,q1,q2,hx,hy⟩
  subst hP hw hK;have hh:X.A.in1.handled=none:=I.ok.hd hc;obtain⟨its1,r1,p1,z1⟩:=I.seqB q1;obtain⟨its2,r2,p2,z2⟩:=I.seqB q2;have D1:=fL (P:=X.prog) (w:=X.w) hh l1 i1 a1 (I.seqB_ne q1 (hf i1 (by simp))) its1.toArray;have D2:=fL (P:=X.prog) (w:=X.w) hh l2 i2 a2 (I.seqB_ne q2 (hf i2 (by simp))) its2.toArray
  have lx:i < its1.toArray.size:=by
   have:=(aa3.mp hx).1
   rw [ab4,<-r1.length];exact this
  have ly:i < its2.toArray.size:=by
   have:=(aa3.mp hy).1
   rw [ab4,<-r2.length];exact this
  refine L3.nextZip_item D1 D2 (zap I hf q1 q2) qz qI qO ⟨u1,p1⟩ ⟨u2,p2⟩ lx ly λv1 v2 h' tk e1 e2 z' o' s1' s2' pr sz kk=>?_;obtain⟨w1,g1,rx⟩:=r1.get hx;obtain⟨w2,g2,ry⟩:=r2.get hy
  have ev1:v1=w1:=by
   have:its1[i]?=some v1:=by simpa using e1
   rw [g1]at this;exact(Option.some.inj this).symm
  have ev2:v2=w2:=by
   have:its2[i]?=some v2:=by simpa using e2
   rw [g2]at this;exact(Option.some.inj this).symm
  subst ev1 ev2;obtain⟨oa,ob,o'⟩:=o';refine⟨_,rfl,wpAny_letOwnedTupleGo_zip (s:={ s with heap:=h',toks:=tk }) z' λh2 z2' sb=>?_⟩;have fz:s.heap.objs.size≠z:=af1 (aa9 qz);have Hn:H s.heap.objs.size=none:=I.hok.fresh (aa7 _)
  have kp:∀c o,c∉[z,TI,TO,i1,i2]->s.heap.get? c=some o->h2.get? c=some o:=λc o hc e=>by
   have hc':c≠z/\c≠TI/\c≠TO/\c≠i1/\c≠i2:=by simpa [not_or]using hc
   exact(sb.2 c hc'.1).trans (kk c o hc'.1 hc'.2.2.1 hc'.2.2.2.1 hc'.2.2.2.2 e)
  have nf:∀{c:Addr} {u:HO},H c=some u->c∉[z,TI,TO,i1,i2]:=λ{c u} e hc=>by
   have:=(hf c hc).1
   rw [e]at this;cases this
  have pr2:h2.get? s.heap.objs.size=some { cls:=.type "tuple",data:=.seq #[v1,v2] }:=(sb.2 _ fz).trans pr
  have I2:aK X pins Z (upd H s.heap.objs.size (.tup [x,y])) { s with heap:=h2,toks:=tk }:=by
   refine I.step (g':=s.gens) (d':=s.drawn) (ch:=[z,TI,TO,i1,i2]) (λc hc=>⟨(hf c hc).2.2.2.1,(hf c hc).2.1,(hf c hc).2.2.2.2.1,(hf c hc).2.2.2.2.2⟩) (λc o _ _ hc e _=>kp c o hc e) (λc o _ _ hc e _=>⟨o.slots,kp c o hc e⟩)
    (λc o _ e n=>by rw [aj (ac0 (aa9 e))];exact n) (λc o hc e=>⟨o,kp c o hc e⟩) (λc us e=>by rw [aj (ao e Hn)];exact e) (λc o u e=>by rw [aj (ao e Hn)];exact e)
    (λc ps e=>⟨#[],by rw [aj (ao e Hn),e];simp⟩) (λm hm=>?_) (λc u e=>?_) I.bare
   ·obtain⟨o,es,ep,ho,r⟩:=hm
    exact⟨o,es,ep,kp _ o (λq=>(hf _ q).2.1 rfl) ho,r⟩
   ·by_cases hcs:c=s.heap.objs.size
    ·subst hcs
     rw [ae]at e;cases e;exact⟨by rw [sizeLine_eq];show 2<=16777216;omega,[v1,v2],.cons rx (.cons ry .nil),_,pr2,rfl,_,rfl⟩
    ·rw [aj hcs]at e
     refine(I.hok c u e).stay (λd o hd q=>kp d o ?_ q) (λd q=>by rw [aj (ao q Hn)];exact q) λd us q=>by rw [aj (ao q Hn)];exact q
     rcases hd with hd | hd
     ·rw [hd];exact nf e
     ·exact nf hd
  refine⟨.ref s.heap.objs.size,_,I2,rfl,⟨_,x,y,rfl,Hn,rfl,λus hu=>by rw [I.seqB_inj hu q1];exact hx,λus hu=>by rw [I.seqB_inj hu q2];exact hy⟩,⟨z2',?_,⟨oa,ob,?_⟩,?_,?_⟩,λc hc=>?_⟩
  ·exact(sb.2 _ d1.symm).trans (kk TI _ d1.symm d5 d6 d7 qI)
  ·exact(sb.2 _ d2.symm).trans o'
  ·exact s1'.1.at λo e=>(sb.2 _ d3.symm).trans e
  ·exact s2'.1.at λo e=>(sb.2 _ d4.symm).trans e
  ·show upd H s.heap.objs.size (.tup [x,y]) c=none
   have lt:c < s.heap.objs.size:=by
    have hc':c=z\/c=TI\/c=TO\/c=i1\/c=i2:=by simpa using hc
    rcases hc' with e | e | e | e | e
    ·subst e;exact aa9 qz
    ·subst e;exact aa9 qI
    ·subst e;exact aa9 qO
    ·subst e;obtain⟨o,e,_⟩:=u1.obj;exact aa9 e
    ·subst e;obtain⟨o,e,_⟩:=u2.obj;exact aa9 e
   rw [aj (ac0 lt)];exact(hf c hc).1
 ·rintro X hP hw hK hc i pins s Z H E I hf ⟨qz,qI,⟨a,b,qO⟩,u1,u2⟩ ⟨xs,ys,q1,q2,hend⟩
  subst hP hw hK;have hh:X.A.in1.handled=none:=I.ok.hd hc;obtain⟨its1,r1,p1,z1⟩:=I.seqB q1;obtain⟨its2,r2,p2,z2⟩:=I.seqB q2;have D1:=fL (P:=X.prog) (w:=X.w) hh l1 i1 a1 (I.seqB_ne q1 (hf i1 (by simp))) its1.toArray;have D2:=fL (P:=X.prog) (w:=X.w) hh l2 i2 a2 (I.seqB_ne q2 (hf i2 (by simp))) its2.toArray
  have kk:i=its1.toArray.size\/(i < its1.toArray.size/\i=its2.toArray.size):=by
   rw [ab4,ab4,<-r1.length,<-r2.length];exact hend
  refine L3.nextZip_end D1 D2 (zap I hf q1 q2) qz qI qO ⟨u1,p1⟩ ⟨u2,p2⟩ kk λh' tk k=>⟨rfl,?_⟩
  have nf:∀{c:Addr} {u:HO},H c=some u->c∉[z,TI,TO,i1,i2]:=λ{c u} e hc=>by
   have:=(hf c hc).1
   rw [e]at this;cases this
  have kp:∀c o,c∉[z,TI,TO,i1,i2]->s.heap.get? c=some o->h'.get? c=some o:=λc o hc e=>by
   have hc':c≠z/\c≠TI/\c≠TO/\c≠i1/\c≠i2:=by simpa [not_or]using hc
   exact k c o hc'.1 hc'.2.2.1 hc'.2.2.2.1 hc'.2.2.2.2 e
  refine I.step (g':=s.gens) (d':=s.drawn) (ch:=[z,TI,TO,i1,i2]) (λc hc=>⟨(hf c hc).2.2.2.1,(hf c hc).2.1,(hf c hc).2.2.2.2.1,(hf c hc).2.2.2.2.2⟩) (λc o _ _ hc e _=>kp c o hc e) (λc o _ _ hc e _=>⟨o.slots,kp c o hc e⟩)
    (λc o _ e n=>n) (λc o hc e=>⟨o,kp c o hc e⟩) (λc us e=>e) (λc o u e=>e) (λc ps e=>⟨#[],by rw [e];simp⟩) (λm hm=>?_) (λc u e=>?_) I.bare
  ·obtain⟨o,es,ep,ho,r⟩:=hm
   exact⟨o,es,ep,kp _ o (λq=>(hf _ q).2.1 rfl) ho,r⟩
  ·refine(I.hok c u e).stay (λd o hd q=>kp d o ?_ q) (λd q=>q) λd us q=>q
   rcases hd with hd | hd
   ·rw [hd];exact nf e
   ·exact nf hd
 ·rintro A i s Q E ⟨qz,_⟩ h
  exact wpAny_pyIter_zip qz h
def FV(K:Frag)(ta:TA):TI:=λZ H R=>ta Z H λvs H1=>∃l1 l2 a1 a2,vs=[.ref a1,.ref a2]/\(∃xs,gP K l1 H1 a1 xs)/\(∃ys,gP K l2 H1 a2 ys)/\R (G0 K l1 l2 a1 a2) H1
theorem EV{elts:List Expr}{kt:Nat}{pt:Pos}{a b:Expr}{ta:TA}{p pos:Pos}(hg:Gl X "zip")(hm:X.mg "zip"=none)(ha:PA X [a,b] ta)(hs:starEach [a,b] X.env=[(false,eval a X.env),(false,eval b X.env)]:=by rfl)(hs2:starEach [b] X.env=[(false,eval b X.env)]:=by rfl):
  PI X (.Tuple elts kt pt) (.Call (.Name "zip" p) [a,b] [] pos) (FV X.K ta):=by
 intro pins s Z H R I h;refine Call_ (dz I hg hm boot_zip (PyProof.Rows.callWith_type1 (cH (ha pos pins s Z H _ I h) λus s1 zq0=>?_) (by rw [hs,hs2]) (by rw [hs2];rfl)));obtain⟨vs,H1,I1,r1,l1,l2,a1,a2,e,⟨xs,q1⟩,⟨ys,q2⟩,q⟩:=zq0;subst e;obtain⟨u,u',rfl,e1,e2⟩:=rK r1;cases e1;cases e2;obtain⟨its1,r1,p1,z1⟩:=I1.seqB q1;obtain⟨its2,r2,p2,z2⟩:=I1.seqB q2;refine L3.call_zip p1 p2 λh' qz qI qO g1 g2 sz kp=>wpAny_pyIter_zip qz ?_
 refine⟨s1.heap.objs.size+4,[s1.heap.objs.size+4,s1.heap.objs.size+2,s1.heap.objs.size+3,s1.heap.objs.size,s1.heap.objs.size+1],_,_,H1,rfl,I1.kept (h':=h') (t':=s1.toks) kp,
  BH l1 l2 a1 a2 _ _ _ _ _ (by simp),⟨qz,qI,⟨_,_,qO⟩,ke.rec g1,ke.rec g2⟩,λc hc=>?_,q⟩
 have hc':s1.heap.objs.size<=c:=by
  have:c=s1.heap.objs.size+4\/c=s1.heap.objs.size+2\/c=s1.heap.objs.size+3\/c=s1.heap.objs.size\/c=s1.heap.objs.size+1:=by simpa using hc
  rcases this with e | e | e | e | e<;>(rw [e];first | exact aa7 _ | exact Nat.le_add_right _ _)
 exact I1.fpOk hc' (I1.hok.fresh hc')
def Ite(K:Frag)(a:Addr):It:=
 ⟨λi H=>∃xs x,aF K H a xs/\xs[i]?=some x,
  λi H v H'=>∃p x,v=.ref p/\H p=none/\H'=upd H p (.tup [.int i,x])/\∀xs,aF K H a xs->xs[i]?=some x,
  λi H=>∃xs,aF K H a xs/\i=xs.length⟩
def FT(K:Frag)(ta:TA):TI:=λZ H R=>ta Z H λvs H1=>∃a,vs=[.ref a]/\(∃xs,aF K H1 a xs)/\R (Ite K a) H1
end L2
namespace L2
open PySem PySem.W PySem.Spec PySem.Calls PyProof.Rows
variable {x:Str}
def GB:Nat:=1048576
theorem kv:∀{ns:List Int},WData.weightAll (ns.map WData.int)<=2 ^ 20->∀x∈ns,x.natAbs < 2 ^ GB
 | [],_,_,h=>nomatch h
 | n::ns,hw,x,h=>by
  have e:WData.weightAll ((n::ns).map WData.int)=(if n == 0 then 0 else n.natAbs.log2+1)+1+WData.weightAll (ns.map WData.int):=by
   simp only [ad5,WData.weightAll,WData.weight]
  rw [e]at hw;rcases ab0.mp h with rfl | h
  ·by_cases h0:x=0
   ·subst h0;exact Nat.two_pow_pos _
   ·have hb:(x == 0)=false:=by simpa using h0
    rw [hb]at hw
    have hl:x.natAbs.log2 < GB:=by
     have:(2:Nat) ^ 20=GB:=by decide
     rw [<-this];simp only [ad0,if_false]at hw;omega
    exact(aq1 ()).mp hl
  ·exact kv (ns:=ns) () x h
theorem y6{ns:List Int}(h:WData.layableAll [WData.list (ns.map WData.int)]=true):∀x∈ns,x.natAbs < 2 ^ GB:=by
 have h1:=(layableW_iff.mp (layableW_arg h _ ad6)).2.2;exact kv (by simpa only [WData.weight]using h1)
theorem walk_ofB{l:PySem.W.OpenLaw}{n k:Nat}{q:Program}{loose:List Str}{XP:(Str->Option Value)->Heap->Prop}{YP:World->Heap->Prop}{d:DefRec}{K:Params->Frag}{CX:World->BM}{sp:World->Sp}
  (hn:l.most=some n) (hn2:n<=sizeLine) (hdf:d.params.defaults=[]) (hr:dv k callerA)
  (hY:∀(w:World) (h:Heap),YP w h->(K w.params).In h)
  (F:∀(w:World) (mg:Str->Option Value) (fa:Addr) (h:Heap),(K w.params).In h->h.Ns mainGlobals mg->mg d.name=some (.ref fa)->
   ∃fd:FuncData,(∀(s:Shared) (u:Value),BindsTo s fd ⟨[u],[]⟩ [(x,u)])/\∀base:Heap,(K w.params).In base->base.Ns mainGlobals mg->aG l.prog w (K w.params) mg base (CX w) k fa fd [x] (sp w))
  (hsp:∀(w:World) (H:Hp) (a:Addr) (ns:List Int),ns.length<=n->(∀x∈ns,x.natAbs < 2 ^ GB)->Ed H->aF (K w.params) H a (ns.map V.int)->sp w [.ref a] H (λv _=>v=.bl true) λ_ _ _=>False)
  (hCX:∀(w:World) (H:Hp) (s:Shared) (e:Value) (s':Shared),CX w [] H s (λ_ _ _=>False) e s'->False) :
  PySem.W.WalkO q loose XP YP l.row.toRowW d [] (λf vs=>PySem.call f vs):=by
 intro w Zh Zf mg mb G Y fa o pm cd doc dV kV ho hd hcd hD hmg hg args vals as hpre hlay hrd hwl hlo;obtain rfl:dV=.none:=Dflts.none hD hdf;obtain rfl:kV=.none:=Dflts.noKw hD;obtain⟨a,vs,ns,rfl,rfl,hobj,hints,hlen⟩:=Att.script_of hn hpre hwl;have KX:=hY w _ Y;obtain⟨fd,hb,hF⟩:=F w mg fa _ KX G.T.g hmg;refine enter_call (ap0 (Aq KX G.T.g G.T.b G.T.builtins G.T.nolimit hg hobj hints (ac2 hlen hn2) hr hF hb (λH hO hS=>hsp w H a ns hlen (y6 hlay) hO hS) λH e s'=>hCX w H Zf e s') λr s' hq=>?_);obtain⟨rfl,h2,h3,h4⟩:=hq;exact⟨.inl ⟨.bool true,.bool true,[],rfl,λ_=>rfl,.bool true,Att.post_true l _,λ_=>⟨List.Pairwise.nil,λ_ hm=>(nomatch hm)⟩⟩,h2,h3,h4⟩
structure bz(K:Frag)(x:Str)(st:Stmt)(f:Addr)(fd:FuncData):Prop where
 ns:nsIn K mainGlobals x=some (some (.ref f))
 fn:cc K x x st f fd
theorem defAt_mk{K:Frag}{st:Stmt}{f:Addr}{oc:Value}{od an:Option Addr}{osl:Array (Option Value)}{kV doc pm cdv ct:Value}(a:nsIn K mainGlobals x=some (some (.ref f)))
  (l:K.lookup f=some ⟨oc,od,.func (fnOf x x (cz st) (bY st) (ak st) .none kV doc pm an cdv ct),osl⟩) (c:codeIn K cdv x=true) (k:keepIn K (.ref f)=true):∃f fd,bz K x st f fd:=
 ⟨f,_,a,fun_mk l c k⟩
theorem bz.df{P:Program}{w:World}{K:Frag}{mg:Str->Option Value}{base h:Heap}{st:Stmt}{f:Addr}{fd:FuncData}{k:Nat}{ps:List Str}{sp:Sp}(A:bz K x st f fd)(X:K.In h)(G:h.Ns mainGlobals mg)
  (ok:aG P w K mg base bV k f fd ps sp) (b:dh K fd ps []):cN P w K mg base x k ps sp:=⟨f,fd,ok,mg_of X G A.ns,A.fn.kp,b⟩
end L2
namespace L2
open PySem PySem.Spec PyProof.Rows
variable {H:Hp} {K:Frag} {Q:VK} {X:Cx} {a:Addr} {e:Expr} {es:List Expr} {f:Value->Value->Sem Value} {i j:Int} {k n:Nat} {mg:Str->Option Value} {ta:TE} {v x y:V} {xs:List V} {z:Str} {α:Type} {Z:St}
def xW(g:TG)(tb:TS)(D:iS)(Z:St)(J:It)(H:Hp):Prop:=∃W:Nat->Nat->St->Hp->Prop,(∃m,W 0 m Z H)/\∀i m Z H,W i m Z H->
 (J.stop i H/\D.nx Z H)\/(J.go i H/\∃N:St->Hp->Prop,(∀Zc H',N Zc H'->∃m',m' < m/\W (i+1) m' Zc H')/\∀x H',J.yld i H x H'->g x Z H' λZg H2=>tb { D with nx:=N,ct:=N,bk:=D.nx } Zg H2)
theorem xO(wi:TI)(g:TG)(tb:TS)(D:iS)(Z:St)(H:Hp):Gw wi g tb D Z H=wi Z H (λJ H1=>xW g tb D Z J H1):=rfl
def qF(n:Nat)(js:List Nat)(g:TG)(tt:TT)(te:TE)(Z:St)(F:List V->Hp->Prop)(J:It)(H:Hp):Prop:=w5 J n js g tt te Z H F
theorem Bw(n:Nat)(js:List Nat)(wi:TI)(g:TG)(tt:TT)(te:TE)(Z:St)(H:Hp)(Q:VK):
  Bv n js wi g tt te Z H Q=wi Z H (λJ H1=>qF n js g tt te Z (λys H2=>∀p,H2 p=none->Q (.ref p) (upd H2 p (.lst ys))) J H1):=rfl
section
variable {g:TG} {tb:TS} {D:iS}
theorem cq(Pv:Nat->St->Hp->Prop)(h0:Pv 0 Z H)(hl:∀i Z H,i<=xs.length->Pv i Z H->aF K H a xs)
  (hs:∀i x Z H,xs[i]?=some x->Pv i Z H->g x Z H λZg H2=>tb { D with nx:=Pv (i+1),ct:=Pv (i+1),bk:=D.nx } Zg H2) (hd:∀Z H,Pv xs.length Z H->D.nx Z H):xW g tb D Z (zj K a) H:=zV Pv h0 hl hs hd
theorem de{lo:Int}(Pv:Nat->St->Hp->Prop)(h0:Pv 0 Z H)
  (hs:∀i Z H,i < n->Pv i Z H->g (.int (lo+i)) Z H λZg H2=>tb { D with nx:=Pv (i+1),ct:=Pv (i+1),bk:=D.nx } Zg H2) (hd:∀Z H,Pv n Z H->D.nx Z H):xW g tb D Z (xU lo n) H:=yq Pv h0 hs hd
theorem yB(h:aF K H a [])(hd:D.nx Z H):xW g tb D Z (zj K a) H:=⟨λi m Zc H'=>i=0/\Zc=Z/\H'=H,⟨0,rfl,rfl,rfl⟩,by
 rintro i m Zc H' ⟨rfl,rfl,rfl⟩
 exact .inl ⟨⟨[],h,aa7 _⟩,hd⟩⟩
end
section
variable {js:List Nat} {g:TG} {tt:TT} {te:TE} {F:List V->Hp->Prop}
theorem e8{lo:Int}(Pv:Nat->List V->Hp->Prop)(hk:k<=sizeLine)(h0:Pv 0 [] H)(hn:∀i ys H,Pv i ys H->ys.length<=i)
  (hs:∀i ys H,i < k->Pv i ys H->e7 n js g tt te Z (.int (lo+i)) ys H (Pv (i+1))) (hd:∀ys H,Pv k ys H->F ys H):qF n js g tt te Z F (xU lo k) H:=vq Pv hk h0 hn hs hd
theorem cu(Pv:Nat->List V->Hp->Prop)(hk:xs.length<=sizeLine)(h0:Pv 0 [] H)(hn:∀i ys H,Pv i ys H->ys.length<=i)(hl:∀i ys H,Pv i ys H->aF K H a xs)
  (hs:∀i x ys H,xs[i]?=some x->Pv i ys H->e7 n js g tt te Z x ys H (Pv (i+1))) (hd:∀ys H,Pv xs.length ys H->F ys H):qF n js g tt te Z F (zj K a) H:=yh Pv hk h0 hn hl hs hd
theorem ye(Pv:Nat->List V->Hp->Prop)(hk:z.length<=sizeLine)(h0:Pv 0 [] H)(hn:∀i ys H,Pv i ys H->ys.length<=i)
  (hs:∀i c ys H,z.cps.toList[i]?=some c->Pv i ys H->e7 n js g tt te Z (.str ⟨#[c]⟩) ys H (Pv (i+1))) (hd:∀ys H,Pv z.length ys H->F ys H):qF n js g tt te Z F (BS z) H:=zE Pv hk h0 hn hs hd
theorem yf{l1 l2:Bool}{a1 a2:Addr}{us vs:List V}(Pv:Nat->List V->Hp->Prop)(hk:us.length<=sizeLine)(he:us.length=vs.length)(h0:Pv 0 [] H)(hn:∀i ys H,Pv i ys H->ys.length<=i)(hl:∀i ys H,Pv i ys H->gP K l1 H a1 us/\gP K l2 H a2 vs)
  (hs:∀i x y ys H p,us[i]?=some x->vs[i]?=some y->Pv i ys H->H p=none->e7 n js g tt te Z (.ref p) ys (upd H p (.tup [x,y])) (Pv (i+1))) (hd:∀ys H,Pv us.length ys H->F ys H):qF n js g tt te Z F (G0 K l1 l2 a1 a2) H:=by
 refine⟨λi m ys H=>m=us.length - i/\i<=us.length/\Pv i ys H,⟨us.length,by simp,ac1 _,h0⟩,?_⟩;rintro i m ys H ⟨rfl,hi,p⟩;obtain⟨q1,q2⟩:=hl i ys H p
 by_cases hlt:i < us.length
 ·refine .inr ⟨⟨us,vs,us[i],vs[i],q1,q2,by simp [hlt],by simp [he▸hlt]⟩,ab5 (hn i ys H p) (ab6 hlt hk),Pv (i+1),λZc H' p'=>⟨us.length - (i+1),(),rfl,hlt,p'⟩,λx H' y=>?_⟩
  obtain⟨pp,u,v,e,hp,e2,y1,y2⟩:=y;subst e e2;exact hs i u v ys H pp (y1 us q1) (y2 vs q2) p hp
 ·have e:i=us.length:=by omega
  subst e;exact .inl ⟨⟨us,vs,q1,q2,.inl rfl⟩,hd ys H p⟩
end
theorem Ei{CX:BM}{P:Program}{w:World}{base:Heap}{N:List Str}{qual:Str}{scope:Scope}{f:Addr}{cd:Value}{A:Around}{outer:List Env}{s:Shared}{E:XK}:(tX CX P w K mg base N qual scope f cd A outer s H E).K=K:=rfl
theorem FN{scope:Scope}{own:List Str}{js:List Nat}{C:Addr}{s:Shared}{ex:List Addr}{pn:List (Addr×Obj)}{E:Value->Shared->Prop}:(pN X scope own js C s H ex pn E).K=X.K:=rfl
theorem zF(xs:List V){p:Int}(hp:0<=p):lB xs (some p) (some (p+1))=match xs[p.toNat]? with | none=>[] | some x=>[x]:=by
 unfold lB;obtain⟨k,rfl⟩:=ae1 hp
 have e1:((k:Int)+1)=((k+1:Nat):Int):=by omega
 rw [e1,HT.sIx_nat,HT.sIx_nat,af8]
 by_cases h:k < xs.length
 ·rw [aa2 h,an1 (),an1 (),ak7 h,show k+1 - k=1 by omega]
  rfl
 ·rw [ag6 (),am2 (),am2 (),ai5]
  rfl
theorem Eg{xs:List α}(h0:0<=i)(h1:i < xs.length):∃v,fC xs i=some v/\xs[i.toNat]?=some v:=by
 obtain⟨k,rfl⟩:=ae1 h0
 have hk:k < xs.length:=by omega
 exact⟨xs[k],aE (aa2 hk),by simp [hk]⟩
theorem B6{xs:List α}{c m:Int}(hm:0 < m)(h:m<=xs.length):∃v,fC xs (c % m)=some v:=by
 have h1:=ae2 c (show m≠0 by omega);have h2:=ad7 c hm;obtain⟨v,e,_⟩:=Eg (xs:=xs) h1 ();exact⟨v,e⟩
theorem aq{q:Addr}{o:HO}(h:H q=none):ar H (upd H q o):=λb o' e=>by rw [aj (ao e h)];exact e
theorem ar.upd{H1:Hp}{q:Addr}{o:HO}(s:ar H H1)(h:H1 q=none):ar H (upd H1 q o):=s.trans (aq h)
theorem ar.tup{K:Frag}{H H':Hp}{a:Addr}{xs:List V}(e:ar H H')(h:cT K H a xs):cT K H' a xs:=by
 rcases h with h | h
 ·rcases h with h | ⟨o,h⟩
  ·exact .inl (.inl (e _ _ h))
  ·exact .inl (.inr ⟨o,e _ _ h⟩)
 ·exact .inr h
theorem aY(z:Str):z.length=z.cps.toList.length:=by simp [Str.length]
theorem wu(h:0<=i):(Txt.slice z (some i) none).cps.toList=z.cps.toList.drop i.toNat:=by
 by_cases hi:i<=z.cps.toList.length
 ·rw [show Txt.slice z (some i) none=StrLaws.sliceText z (some i) none from rfl,StrLaws.sliceText_from ⟨h,hi⟩]
  show((z.cps.toList.drop i.toNat).take _)=_
  skip
  exact ah6 (by rw [ak4];omega)
 ·have e:Builtin.Str.strSliceIndices (some i) none 1 z.length=Builtin.Str.strSliceIndices (some (z.length:Int)) none 1 z.length:=sliceIdx_lo_beyond z.length (by rw [aY];omega)
  have e2:Txt.slice z (some i) none=Txt.slice z (some (z.length:Int)) none:=by unfold Txt.slice;rw [e]
  rw [e2,show Txt.slice z (some (z.length:Int)) none=StrLaws.sliceText z (some (z.length:Int)) none from rfl,StrLaws.sliceText_from ⟨(),by rw [aY];omega⟩];show((z.cps.toList.drop _).take _)=_;rw [aY,af8,List.drop_length,List.take_nil,List.drop_eq_nil_of_le ()]
theorem wL(z:Str)(c:Nat):Txt.startswith z ⟨#[c]⟩=decide (z.cps.toList.head?=some c):=by
 obtain⟨⟨l⟩⟩:=z
 unfold Txt.startswith
 rw [StrLaws.subAt_eq]
 cases l with
 | nil=>simp [Str.length]
 | cons a l=>
  simp [Str.length];rw [ah1];simp
theorem kX(x y:Str):decide (x=y)=decide (x.cps.toList=y.cps.toList):=by
 by_cases h:x=y
 ·subst h;simp
 ·rw [decide_eq_false h]
  symm
  apply decide_eq_false;intro e;apply h;obtain⟨⟨a⟩⟩:=x;obtain⟨⟨b⟩⟩:=y;simp at e;subst e;rfl
theorem BZ{xs:List α}{v:α}{P:α->Prop}(h:∀x∈xs,P x)(e:fC xs i=some v):P v:=by
 unfold fC at e
 cases hj:Ac xs.length i with
 | none=>rw [hj]at e;cases e
 | some j=>rw [hj]at e;exact h v (ab8 e)
theorem bC{xs:List α}{v:α}(h:xs.head?=some v):fC xs 0=some v:=by
 cases xs with
 | nil=>cases h
 | cons a l=>cases h;exact aE (j:=0) rfl
theorem EI(K:Frag)(h:X.K=K:=by rfl):dE X (binaryOp .Add) (eC K):=h▸opAdd
theorem ox(K:Frag)(h:X.K=K:=by rfl):dE X (compareOp .In) (yY K):=h▸Hd
theorem AN(K:Frag)(h:X.K=K:=by rfl):dE X (compareOp .NotIn) (sT K):=h▸CW
theorem gf(K:Frag)(h:X.K=K:=by rfl):BN X (yZ K):=h▸slA
theorem aW(K:Frag)(h:X.K=K:=by rfl):xV X (tO K):=h▸ixA
theorem bI(K:Frag){tg l:Expr}{tl:TE}(hl:PE X l tl)(h:X.K=K:=by rfl):PI X tg l (GK (Dj K) tl):=h▸EU hl
theorem aJ(K:Frag)(h:X.K=K:=by rfl):cM X (.builtin "len") (λxs H Q=>(∃z,xs=[.str z]/\z.length<=sizeLine/\Q (.int z.length) H)\/∃p ys,xs=[.ref p]/\(aF K H p ys\/cT K H p ys)/\Q (.int ys.length) H):=h▸x9
theorem fF(K:Frag)(h:X.K=K:=by rfl):cM X (.builtin "isinstance") (λxs H Q=>∃x n t b,xs=[x,.ty n]/\kh K H x t/\PySem.W.kitOne K t (.type n)=some b/\Q (.bl b) H):=h▸tR
theorem gT(K:Frag)(hc:X.calm=true)(h:X.K=K:=by rfl):cM X (.builtin "all") (λxs H Q=>∃(p:Addr) (bs:List Bool),xs=[.ref p]/\aF K H p (bs.map V.bl)/\Q (.bl (bs.all id)) H):=h▸x6 hc
theorem iX(K:Frag)(h:X.K=K:=by rfl):cM X (.type "tuple") (λxs H Q=>∃p ys,xs=[.ref p]/\((aF K H p ys/\∀l,H l=none->Q (.ref l) (upd H l (.tup ys)))\/(cT K H p ys/\Q (.ref p) H))):=h▸pM
theorem cU(K:Frag)(h:X.K=K:=by rfl):cM X (.type "list") (λxs H Q=>∃p ys,xs=[.ref p]/\(aF K H p ys\/cT K H p ys)/\∀l,H l=none->Q (.ref l) (upd H l (.lst ys))):=h▸r9
theorem cR(K:Frag){t:BX}{pos:Pos}(hc:X.calm=true)(h:FF X es t)(hK:X.K=K:=by rfl)
  (hn:(assignEach es X.env).length=n:=by rfl) (hst:(assignEach es X.env).findIdx? (·.1)=none:=by rfl):PG X (.Tuple es k pos) (El K n t):=hK▸ET hc h hn hst
theorem bQ(K:Frag){o:Expr}{to:TE}{t:TA}{name:Str}{apos cpos:Pos}{T id:String}{r:V->List V->Hp->VK->Prop}(pa:PlainAttrs T)(slot:Slot T name id)(hty:typeOf (.builtin id)=pure (.type "method_descriptor"))(hm:BU X id r)(ho:PE X o to)(ha:PA X (e::es) t)(hK:X.K=K:=by rfl)
  (hbase:attributeBase o name X.env (eval o X.env)=eval o X.env:=by rfl)
  (hfew:((backTo cpos (starEach (e::es) X.env)).all (λx=>!x.1) && (backToKw cpos (keywordEach [] X.env)).all (λx=>x.1.isSome)
   && decide ((e::es).length+([]:List Keyword).length+(if ([]:List Keyword).isEmpty then 0 else 1) < 30))=true:=by rfl)
  (hline:(apos.endLine == cpos.line)=true:=by rfl) (hs:starEach (e::es) X.env=(false,eval e X.env)::starEach es X.env:=by rfl) (hplain:(backTo cpos (starEach es X.env)).any (·.1)=false:=by rfl) :
  PE X (.Call (.Attribute o name apos) (e::es) [] cpos) (Hf K T r to t):=hK▸Gg pa slot hty hm ho ha hbase hfew hline hs hplain
def cV:Expr->Option V
 | .Constant (.int i) _ _=>some (.int i)
 | .Constant (.str x) _ _=>some (.str x)
 | .Constant (.bool b) _ _=>some (.bl b)
 | .Constant .none _ _=>some .non
 | _=>none
def Ht(vs:List V):TA:=λ_ H Q=>Q vs H
theorem Gh(h:cV e=some v):PE X e (tC v):=by
 unfold cV at h
 split at h
 ·cases h;exact ah
 ·cases h;exact bO
 ·cases h;exact iK
 ·cases h;exact aH
 ·cases h
theorem Dv(h:cV e=some v):starEach (e::es) X.env=(false,eval e X.env)::starEach es X.env:=by
 unfold cV at h
 split at h<;>first | rfl | cases h
theorem qY:∀{es:List Expr} {vs:List V},es.map cV=vs.map some->PA X es (Ht vs)
 | [],[],_=>ag
 | [],_::_,h=>by cases h
 | _::_,[],h=>by cases h
 | e::es,v::vs,h=>by
  have h1:cV e=some v:=(List.cons.inj h).1;have h2:es.map cV=vs.map some:=(List.cons.inj h).2;exact aa (Gh h1) (qY h2) (Dv h1)
def He:Option V->(V->Prop)->Prop
 | some v,k=>k v
 | none,_=>False
def Bb:St->Nat->(V->Prop)->Prop
 | [],_,_=>False
 | o::_,0,k=>He o k
 | _::Z,i+1,k=>Bb Z i k
theorem rg{k:V->Prop}:Bb (some v::Z) 0 k=k v:=rfl
theorem uL{o:Option V}{i:Nat}{k:V->Prop}:Bb (o::Z) (i+1) k=Bb Z i k:=rfl
theorem ny{k:V->Prop}:∀{Z:St} {i:Nat},Bb Z i k↔∃v,Z[i]?=some (some v)/\k v
 | [],i=>by simp [Bb]
 | some v::Z,0=>by simp [Bb,He]
 | none::Z,0=>by simp [Bb,He]
 | o::Z,i+1=>by rw [uL,ny];simp
def Fj(i:Nat):TE:=λZ H Q=>Bb Z i λv=>Q v H
theorem Fl(i:Nat):Fj i=Fn i:=by
 funext Z H Q
 exact propext ny
def BO:V->(Int->Prop)->Prop
 | .int i,k=>k i
 | _,_=>False
theorem m7{k:Int->Prop}:BO (.int i) k=k i:=rfl
theorem kn{k:Int->Prop}:BO v k↔∃i,v=.int i/\k i:=by cases v<;>simp [BO]
def DB:V->(Bool->Prop)->Prop
 | .bl i,k=>k i
 | _,_=>False
theorem rV{i:Bool}{k:Bool->Prop}:DB (.bl i) k=k i:=rfl
theorem km{k:Bool->Prop}:DB v k↔∃i,v=.bl i/\k i:=by cases v<;>simp [DB]
def FX(g:Int->Int->V):R2:=λx y H Q=>BO x λi=>BO y λj=>Q (g i j) H
def jI(C:Int->Int->Prop)(g:Int->Int->V):R2:=λx y H Q=>BO x λi=>BO y λj=>C i j/\Q (g i j) H
def jU(g:Int->V):V->Hp->VK->Prop:=λx H Q=>BO x λi=>Q (g i) H
def uj(t:TE):TT:=λZ H Q=>t Z H λx H1=>DB x λk=>Q k H1
def ui(t:TE):TO:=λZ H Q=>t Z H λx H1=>BO x λi=>Q (some i) H1
def Ag(i:Nat)(te:TE)(ti:Fw):TS:=λD Z H=>Bb Z i λx=>te Z H λy H1=>ti x y H1 λz H2=>D.nx (Z.set i (some z)) H2
def ug(ta tb:TE):TE:=λZ H Q=>ta Z H λx H1=>DB x λc=>if c=true then tb Z H1 Q else Q (.bl false) H1
def Al(ta tb:TE):TE:=λZ H Q=>ta Z H λx H1=>DB x λc=>if c=true then Q (.bl true) H1 else tb Z H1 Q
def uh(ta:TE):TE:=λZ H Q=>ta Z H λx H1=>DB x λc=>Q (.bl (!c)) H1
theorem Cy(i:Nat)(te:TE)(ti:Fw):Ag i te ti=Bt i te ti:=by
 funext D Z H
 unfold Ag Bt;simp only [ny]
theorem Af(ta tb:TE):ug ta tb=u7 ta tb:=by
 funext Z H Q
 unfold ug u7;simp only [km]
theorem CB(ta tb:TE):Al ta tb=BD ta tb:=by
 funext Z H Q
 unfold Al BD;simp only [km]
theorem Ak(ta:TE):uh ta=vb ta:=by
 funext Z H Q
 unfold uh vb;simp only [km]
theorem Et(g:Int->Int->V):FX g=uH g:=by
 funext x y H Q
 unfold FX uH;simp only [kn,exists_and_left]
theorem FY(C:Int->Int->Prop)(g:Int->Int->V):jI C g=rI C g:=by
 funext x y H Q
 unfold jI rI;simp only [kn,exists_and_left]
theorem F0(g:Int->V):jU g=rU g:=by
 funext x H Q
 unfold jU rU;simp only [kn]
theorem An(t:TE):uj t=rJ t:=by
 funext Z H Q
 unfold uj rJ;simp only [km]
theorem Am(t:TE):ui t=xQ t:=by
 funext Z H Q
 unfold ui xQ;simp only [kn]
def zp(r:R2):R2
 | .int i,.int j,H,Q=>Q (.bl (decide (i=j))) H
 | .str i,.str j,H,Q=>Q (.bl (decide (i=j))) H
 | x,y,H,Q=>r x y H Q
def zr(r:R2):R2
 | .int i,.int j,H,Q=>Q (.bl (!decide (i=j))) H
 | .str i,.str j,H,Q=>Q (.bl (!decide (i=j))) H
 | x,y,H,Q=>r x y H Q
def nU(r:R2):R2
 | .int i,.int j,H,Q=>Q (.int (i+j)) H
 | x,y,H,Q=>r x y H Q
def vD(r:R2):R2
 | .int i,.int j,H,Q=>IntMulOk i j/\Q (.int (i * j)) H
 | x,y,H,Q=>r x y H Q
theorem sg{r:R2}:zp r (.int i) (.int j) H Q=Q (.bl (decide (i=j))) H:=rfl
theorem sh{r:R2}{i j:Str}:zp r (.str i) (.str j) H Q=Q (.bl (decide (i=j))) H:=rfl
theorem si{r:R2}:zr r (.int i) (.int j) H Q=Q (.bl (!decide (i=j))) H:=rfl
theorem sj{r:R2}{i j:Str}:zr r (.str i) (.str j) H Q=Q (.bl (!decide (i=j))) H:=rfl
theorem ng{r:R2}:nU r (.int i) (.int j) H Q=Q (.int (i+j)) H:=rfl
theorem nh{r:R2}:vD r (.int i) (.int j) H Q=(IntMulOk i j/\Q (.int (i * j)) H):=rfl
theorem Ah{r:R2}(h1:∀i j H Q,r (.int i) (.int j) H Q↔Q (.bl (decide (i=j))) H)(h2:∀i j H Q,r (.str i) (.str j) H Q↔Q (.bl (decide (i=j))) H):zp r=r:=by
 funext x y H Q
 unfold zp
 split
 ·exact propext (h1 _ _ _ _).symm
 ·exact propext (h2 _ _ _ _).symm
 ·rfl
theorem Aj{r:R2}(h1:∀i j H Q,r (.int i) (.int j) H Q↔Q (.bl (!decide (i=j))) H)(h2:∀i j H Q,r (.str i) (.str j) H Q↔Q (.bl (!decide (i=j))) H):zr r=r:=by
 funext x y H Q
 unfold zr
 split
 ·exact propext (h1 _ _ _ _).symm
 ·exact propext (h2 _ _ _ _).symm
 ·rfl
theorem xt{r:R2}(h1:∀i j H Q,r (.int i) (.int j) H Q↔Q (.int (i+j)) H):nU r=r:=by
 funext x y H Q
 unfold nU
 split
 ·exact propext (h1 _ _ _ _).symm
 ·rfl
theorem CA{r:R2}(h1:∀i j H Q,r (.int i) (.int j) H Q↔IntMulOk i j/\Q (.int (i * j)) H):vD r=r:=by
 funext x y H Q
 unfold vD
 split
 ·exact propext (h1 _ _ _ _).symm
 ·rfl
theorem DN:zp ve=ve:=Ah (λ_ _ _ _=>rEq_ii) (λ_ _ _ _=>vZ)
theorem DP:zr vf=vf:=Aj (λ_ _ _ _=>rNe_ii) (λ_ _ _ _=>v5)
theorem Ad(K:Frag):nU (eC K)=eC K:=xt λ_ _ _ _=>rAddA_ii
theorem FW:zp ve x y H Q↔ve x y H Q:=by rw [DN]
theorem FZ:zr vf x y H Q↔vf x y H Q:=by rw [DP]
theorem Cv:nU (eC K) x y H Q↔eC K x y H Q:=by rw [Ad]
theorem pr(i:Nat){x:Str}{pos:Pos}(hN:X.N[i]?=some x:=by rfl)(hv:GH X.env.scope x:=by first | exact Or.inl rfl | exact Or.inr (Or.inl rfl) | exact Or.inr (Or.inr rfl))(hd:(x == ("__debug__":Str))=false:=by decide)
  (hcd:(x == ("__classdict__":Str))=false:=by decide):PE X (.Name x pos) (Fj i):=by
 rw [Fl];exact ES hN hv hd hcd
theorem o0{g:Int->Int->V}(h:dE X f (uH g)):dE X f (FX g):=by rw [Et];exact h
theorem o1{C:Int->Int->Prop}{g:Int->Int->V}(h:dE X f (rI C g)):dE X f (jI C g):=by rw [FY];exact h
theorem u1{f:Value->Sem Value}{g:Int->V}(h:FK X f (rU g)):FK X f (jU g):=by rw [F0];exact h
theorem mD:dE X (compareOp .Eq) (zp ve):=by rw [DN];exact opEq
theorem yI:dE X (compareOp .NotEq) (zr vf):=by rw [DP];exact opNe
theorem bL(K:Frag)(h:X.K=K:=by rfl):dE X (binaryOp .Add) (nU (eC K)):=by rw [Ad];exact EI K h
theorem aX{t:TE}(h:PT X e (rJ t)):PT X e (uj t):=by rw [An];exact h
theorem EX{st:Stmt}{i:Nat}{te:TE}{ti:Fw}(h:PS X st (Bt i te ti)):PS X st (Ag i te ti):=by rw [Cy];exact h
theorem DV{tb:TE}(h:PE X e (u7 ta tb)):PE X e (ug ta tb):=by rw [Af];exact h
theorem DW{tb:TE}(h:PE X e (BD ta tb)):PE X e (Al ta tb):=by rw [CB];exact h
theorem Gi(h:PE X e (vb ta)):PE X e (uh ta):=by rw [Ak];exact h
theorem fY{t:TE}(h:PE X e t):PO X (some e) (ui t):=by rw [Am];exact Dc h
theorem itN{p:Prop}[d:Decidable p]{A B:Prop}:(if (!decide p)=true then A else B)=(if p then B else A):=by
 by_cases h:p<;>simp [h]
theorem itD{p:Prop}[d:Decidable p]{A B:Prop}:(if decide p=true then A else B)=(if p then A else B):=by
 by_cases h:p<;>simp [h]
theorem G7{t u:TS}{D:iS}(C:St->Hp->Prop)(h2:∀Z H,C Z H->u D Z H)(h1:∀u':TS,(∀Z H,C Z H->u' D Z H)->jq t u' D Z H):jq t u D Z H:=h1 u h2
theorem G8{t u:TS}{D:iS}{Z:St}{H:Hp}(C:St->Hp->Prop)(h1:∀u':TS,(∀Z H,C Z H->u' D Z H)->jq t u' D Z H)(h2:∀Z H,C Z H->u D Z H):jq t u D Z H:=h1 u h2
theorem aV{t u:TS}{D:iS}{Z:St}{H:Hp}(C:St->Hp->Prop)(h1:∀u':TS,(∀Z H,C Z H->u' D Z H)->jq t u' D Z H)(h2:∀R:TS,(∀Z H,u D Z H->R D Z H)->∀Z H,C Z H->R D Z H):jq t u D Z H:=h1 u (h2 u λ_ _ z=>z)
theorem cN.up{P:Program}{w:World}{base:Heap}{x:Str}{j:Nat}{ps:List Str}{sp:Sp}(d:cN P w K mg base x j ps sp)(h:j<=k):cN P w K mg base x k ps sp:=
 let ⟨f,fd,F,r⟩:=d.ex;⟨f,fd,F.mono h,r⟩
theorem const_mk{x:Str}{u:Value}(e:nsIn K mainGlobals x=some (some u))(r:aP v u):∃u,nsIn K mainGlobals x=some (some u)/\aP v u:=⟨u,e,r⟩
theorem Ef{b k:Bool}:zy K (.bl b) H k↔k=b:=Iff.rfl
theorem GA:Gz K "str" (.str z) H↔True:=⟨λ_=>trivial,λ_=>rfl⟩
theorem str_iff{x y:Str}:x=y↔x.cps.toList=y.cps.toList:=by
 constructor
 ·intro e;rw [e]
 ·intro e
  obtain⟨⟨a⟩⟩:=x;obtain⟨⟨b⟩⟩:=y;simp at e;subst e;rfl
open AutoSeq1 (wpAny_loadPart')
theorem lK:fillsNumberSlot (.type "tuple") "mul"=pure false:=
 PySem.fillsNumberSlot_seq (id:="tuple.__mul__") (r:=some (.builtin "tuple.__rmul__")) F.slot_tuple_mul.lookup (by decide +kernel) F.slot_tuple_rmul.lookup (by decide +kernel)
theorem sV:seqRepeat? (.type "tuple")=pure (some (.builtin "tuple.__mul__")):=by
 unfold seqRepeat?;rw [PySem.seqSlot_of (T:="tuple") (name:="__mul__") (id:="tuple.__mul__") F.slot_tuple_mul.lookup (by decide +kernel),PySem.seqSlot_of (T:="tuple") (name:="__rmul__") (id:="tuple.__rmul__") F.slot_tuple_rmul.lookup (by decide +kernel)];rfl
theorem nQ(a:Int)(t:Tok)(l:Addr)(items:Array Value)(n:Nat)(dd:Option Addr)(sl:Array (Option Value)):
  Meets (Builtin.«int.__rmul__» ⟨[.int a t,.ref l],[]⟩) (λ_ R s=>s.heap.get? l=some { cls:=.type "tuple",dict:=dd,data:=.seq items n,slots:=sl }/\R (.ok (.ret Value.notImplemented)) s):=
 .of_wp λprog w A R s h=>by obtain⟨hp,g,d,tk,os⟩:=s;obtain⟨hl,h⟩:=h;wp_walk;exact⟨_,rfl,h⟩
theorem wW(l:Addr)(items:Array Value)(n:Nat)(dd:Option Addr)(sl:Array (Option Value))(u:Tok):
  Meets (Builtin.«tuple.__mul__» ⟨[.ref l,.int 1 u],[]⟩) (λ_ R s=>s.heap.get? l=some { cls:=.type "tuple",dict:=dd,data:=.seq items n,slots:=sl }/\R (.ok (.ret (Value.ref l))) s):=
 .of_wp λprog w A R s h=>by
  obtain⟨hp,g,d,tk,os⟩:=s;obtain⟨hl,h⟩:=h;have hT:Shared.TypeIs ⟨hp,g,d,tk,os⟩ (.ref l) "tuple":=⟨_,hl,rfl⟩
  wp_walk using an2 hl,aj0 hT
  exact⟨_,rfl,h⟩
theorem nO(xs:Array α):∀(n:Nat) (acc:Array α),((List.replicate n xs).foldl (· ++ ·) acc).size=acc.size+n * xs.size
 | 0,acc=>by simp
 | n+1,acc=>by
  rw [af7,af5,nO xs n,Array.size_append,al2];omega
theorem wX(l:Addr)(items:Array Value)(n:Nat)(dd:Option Addr)(sl:Array (Option Value))(x:Int)(u:Tok)(h1:1 < x)(h2:x < 1000000)(h0:items.isEmpty=false)(hz:items.size * x.toNat<=sizeLine):
  Meets (Builtin.«tuple.__mul__» ⟨[.ref l,.int x u],[]⟩) (λ_ R s=>s.heap.get? l=some { cls:=.type "tuple",dict:=dd,data:=.seq items n,slots:=sl }/\R (.ok (.ret (Value.ref s.heap.objs.size))) { s with heap:=s.heap.push { cls:=Value.type "tuple",data:=Data.seq ((List.replicate x.toNat items).foldl (· ++ ·) #[]) } }):=
 .of_wp λprog w A R s h=>by
  obtain⟨hp,g,d,tk,os⟩:=s;obtain⟨hl,h⟩:=h;have hT:Shared.TypeIs ⟨hp,g,d,tk,os⟩ (.ref l) "tuple":=⟨_,hl,rfl⟩
  wp_walk using an2 hl,aj0 hT
  refine aj3 (by rw [decide_eq_false (show ¬x < -2 ^ 63 by omega),decide_eq_false (show ¬x>=2 ^ 63 by omega)];rfl) ?_
  wp_walk using an2 hl,aj0 hT
  refine aj3 (by rw [h0];simp;omega) ?_;refine aj3 (by rw [h0];simp;omega) ?_
  have e:(items.size:Int) * x=((items.size * x.toNat:Nat):Int):=by rw [an3,Int.toNat_of_nonneg ()]
  have hs:=sizeLine_eq;refine aj3 (decide_eq_false (by rw [e];omega)) ?_
  have hm:¬((items.size:Int) * x > (sizeLine:Int)):=by rw [e];exact_mod_cast am0.mpr hz
  refine aj3 (by unfold Builtin.Tuple.tupleTooMany;exact decide_eq_false (λz=>hm (of_decide_eq_true z))) ?_
  have hf:(List.foldl (λx1 x2=>x1++x2) #[] (List.replicate x.toNat items)).size<=sizeLine:=by
   rw [nO,Array.size_empty,Nat.zero_add,ap1];exact hz
  wp_walk using an2 hl,aj0 hT
  refine aj3 (decide_eq_false (am0.mpr hf)) ?_
  wp_walk
  exact⟨_,rfl,h⟩
def A7(K:Frag):R2:=λx y H Q=>∃l k xs,x=.ref l/\y=.int k/\cT K H l xs/\1<=k/\k < 1000000/\xs≠[]/\xs.length * k.toNat<=sizeLine/\
 (k=1->Q (.ref l) H)/\∀p,H p=none->Q (.ref p) (upd H p (.tup (List.replicate k.toNat xs).flatten))
theorem C0:dE X (binaryOp .Mult) (A7 X.K):=by
 rintro pins s Z H x y v u Q I rx ry ⟨l,k,xs,rfl,rfl,hH,h1,h2,hx,hz,q1,q⟩;cases rx;obtain⟨t,rfl⟩:=ry;obtain⟨its,r,p,hl⟩:=I.tuple hH;obtain⟨⟨cls,dd,data,sl⟩,ho,hc,n,hd⟩:=id p;simp only at hc hd;subst hc hd
 have hlen:its.toArray.size * k.toNat<=sizeLine:=by rw [ab4,<-r.length];exact hz
 refine wpAny_binaryOp_repeat_ref (T:="tuple") (U:="int") ∅ ⟨_,ho,rfl⟩ (λs'=>typeIs_int s' k t) lK F.fills_int_mul F.slot_int_rmul sV F.slot_int_index.lookup
  (call_meets F.slot_int_rmul (typeIs_int s k t) F.entry_int_rmul (F.args_int_rmul_2 _ _) (nQ k t l its.toArray n dd sl) ⟨ho,rfl,⟨_,ho,rfl⟩,?_⟩)
 by_cases hk:k=1
 ·subst hk
  exact call_meets F.slot_tuple_mul ⟨_,ho,rfl⟩ F.entry_tuple_mul (F.args_tuple_mul_2 _ _) (wW l its.toArray n dd sl t) ⟨ho,.ref l,H,I,rfl,q1 rfl⟩
 ·have hne:its.toArray.isEmpty=false:=by
   cases its with
   | nil=>exact absurd (r.nil_iff.mp rfl) hx
   | cons a b=>rfl
  refine call_meets F.slot_tuple_mul ⟨_,ho,rfl⟩ F.entry_tuple_mul (F.args_tuple_mul_2 _ _) (wX l its.toArray n dd sl k t () h2 hne hlen) ⟨ho,?_⟩
  have hnew:List.foldl (λx1 x2=>x1++x2) #[] (List.replicate k.toNat its.toArray)=(List.replicate k.toNat its).flatten.toArray:=by
   have:=lD its k.toNat []
   rw [List.nil_append]at this;exact this
  refine⟨.ref s.heap.objs.size,_,I.laid (t':=s.toks) (o:=.tup (List.replicate k.toNat xs).flatten) (λb ob q=>aa4 _ q) (aa7 _) ?_,rfl,q _ (I.hok.fresh (aa7 _))⟩;rw [hnew];exact⟨by rw [sk,ap1];exact hz,_,r.rep k.toNat,IsTup.new _ _⟩
def i9(K:Frag):R2:=λx y H Q=>xC x y H Q\/A7 K x y H Q
theorem EL(K:Frag)(h:X.K=K:=by rfl):dE X (binaryOp .Mult) (i9 K):=h▸opMul.or C0
theorem uI:i9 K (.int i) (.int j) H Q↔IntMulOk i j/\Q (.int (i * j)) H:=by
 simp [i9,A6,A7]
theorem Ai(K:Frag):vD (i9 K)=i9 K:=CA λ_ _ _ _=>uI
theorem Cz:vD (i9 K) x y H Q↔i9 K x y H Q:=by rw [Ai]
theorem ib(K:Frag)(h:X.K=K:=by rfl):dE X (binaryOp .Mult) (vD (i9 K)):=by rw [Ai];exact EL K h
end L2
namespace L2
open PySem PySem.Spec PyProof.Rows
variable {m:Nat} {n:Int}
def mq(c:Nat):List Nat->List (List Nat)
 | []=>[[]]
 | a::l=>if a=c then []::mq c l else match mq c l with
  | []=>[[a]]
  | p::r=>(a::p)::r
theorem wy(c:Nat):∀l,mq c l≠[]
 | []=>by simp [mq]
 | a::l=>by
  simp only [mq]
  split
  ·simp
  ·split<;>simp
theorem xM(c:Nat):∀l,(mq c l).length<=l.length+1
 | []=>by simp [mq]
 | a::l=>by
  have h:=xM c l;simp only [mq]
  split
  ·simp;omega
  ·split
   ·simp
   ·rename_i p r e
    rw [e]at h;simp at h |-;omega
def dP(c:Nat):List Nat->Nat->List Nat
 | [],_=>[]
 | b::l,i=>if b=c then i::dP c l (i+1)else dP c l (i+1)
theorem n9(x:Str)(c:Nat)(lim:Nat):∀(l:List Nat) (i:Nat) (acc:Array Nat) (fr:Nat),x.cps.toList.drop i=l->acc.size<=i->fr<=i->x.length < lim->
  (forIn (List.range' i (l.length+1)) (acc,fr) (StrLaws.occBody x ⟨#[c]⟩ x.length lim)).run.fst.toList=acc.toList++dP c l i
 | [],i,acc,fr,hl,ha,hf,hm=>by
  have hi:x.length<=i:=by
   rw [aY];exact ak0.mp hl
  show(forIn [i] (acc,fr) _:Id _).run.fst.toList=_;rw [ag2];unfold StrLaws.occBody;rw [if_neg (by intro h;have:=h.1.2;have e1:(⟨#[c]⟩:Str).length=1:=rfl;rw [e1]at this;omega)];show acc.toList=_;simp [dP]
 | b::l,i,acc,fr,hl,ha,hf,hm=>by
  have hb:x.cps.toList[i]?=some b:=by
   have:(x.cps.toList.drop i)[0]?=some b:=by rw [hl];rfl
   rwa [ai0,ap2]at this
  have hi:i < x.length:=by
   rw [aY];obtain⟨h,_⟩:=aa3.mp hb;exact h
  have hd:x.cps.toList.drop (i+1)=l:=by
   rw [<-al6,hl];rfl
  have e1:(⟨#[c]⟩:Str).length=1:=rfl;show(forIn (i::List.range' (i+1) (l.length+1)) (acc,fr) _:Id _).run.fst.toList=_;rw [ag2];unfold StrLaws.occBody
  by_cases hc:b=c
  ·rw [if_pos ⟨⟨⟨by show acc.size < lim;omega,hf⟩,by rw [e1];omega⟩,((StrLaws.subAt_one x c i).mpr (by rw [hb,hc])).2⟩]
   show(forIn (List.range' (i+1) (l.length+1)) (acc.push i,i+1) (StrLaws.occBody x ⟨#[c]⟩ x.length lim):Id _).run.fst.toList=_;rw [n9 x c lim l (i+1) _ _ hd (by rw [ap8];omega) (aa7 _) hm];simp [dP,hc]
  ·rw [if_neg (λh=>hc (by have:=(StrLaws.subAt_one x c i).mp ⟨h.1.2,h.2⟩;rw [hb]at this;exact Option.some.inj this))]
   show(forIn (List.range' (i+1) (l.length+1)) (acc,fr) (StrLaws.occBody x ⟨#[c]⟩ x.length lim):Id _).run.fst.toList=_;rw [n9 x c lim l (i+1) _ _ hd () () hm];simp [dP,hc]
theorem CH(x:Str)(c:Nat):Builtin.Str.occurrences x ⟨#[c]⟩ 0 x.length (x.length+1)=dP c x.cps.toList 0:=by
 rw [StrLaws.occ_eq]
 have e:x.length+1 - 0=x.cps.toList.length+1:=by rw [aY];rfl
 rw [e];have h:=n9 x c (x.length+1) x.cps.toList 0 #[] 0 rfl (aa7 _) (aa7 _) (ak3 _);rw [h];rfl
theorem jK(x:Str)(c:Nat):∀(l:List Nat) (a j:Nat),a<=j->x.cps.toList.drop j=l->j<=x.length->
  (StrLaws.partsFrom x 1 a (dP c l j)).map (λz=>z.cps.toList)=match mq c l with
   | []=>[]
   | p::r=>((x.cps.toList.drop a).take (j - a)++p)::r
 | [],a,j,haj,hl,hj=>by
  have hj':x.length<=j:=by rw [aY];exact ak0.mp hl
  have e:j=x.length:=by omega
  subst e;simp [dP,mq,StrLaws.partsFrom,StrLaws.strSub_toList]
 | b::l,a,j,haj,hl,hj=>by
  have hb:x.cps.toList[j]?=some b:=by
   have:(x.cps.toList.drop j)[0]?=some b:=by rw [hl];rfl
   rwa [ai0,ap2]at this
  have hi:j < x.length:=by
   rw [aY];obtain⟨h,_⟩:=aa3.mp hb;exact h
  have hd:x.cps.toList.drop (j+1)=l:=by
   rw [<-al6,hl];rfl
  by_cases hc:b=c
  ·have ih:=jK x c l (j+1) (j+1) (aa7 _) hd hi
   simp only [dP,hc,if_true,StrLaws.partsFrom,ad5,mq,ag5];rw [ih]
   cases hs:mq c l with
   | nil=>exact absurd hs (wy c l)
   | cons p r=>simp [StrLaws.strSub_toList]
  ·have ih:=jK x c l a (j+1) () hd hi
   simp only [dP,hc,if_false,mq];rw [ih]
   cases hs:mq c l with
   | nil=>exact absurd hs (wy c l)
   | cons p r=>
    have ht:(x.cps.toList.drop a).take (j+1 - a)=(x.cps.toList.drop a).take (j - a)++[b]:=by
     have e1:j+1 - a=(j - a)+1:=by omega
     rw [e1,ac5,ai0]
     have e2:a+(j - a)=j:=by omega
     rw [e2,hb];rfl
    simp [ht]
theorem Bq(c:Nat):∀{l:List Nat},dP c l 0=[]->mq c l=[l]:=by
 have key:∀(l:List Nat) (i:Nat),dP c l i=[]->mq c l=[l]:=by
  intro l
  induction l with
  | nil=>intro i _;rfl
  | cons a l ih=>
   intro i h;simp only [dP]at h
   split at h
   ·cases h
   ·rename_i hc
    simp only [mq,hc,if_false];rw [ih _ h]
 intro l h;exact key l 0 h
theorem jo(x:Str){c:Nat}(hc:c < 256):(Txt.split x ⟨#[c]⟩).map (λz=>z.cps.toList)=mq c x.cps.toList:=by
 unfold Txt.split;have e1:(⟨#[c]⟩:Str).length=1:=rfl
 have ek:Builtin.Str.strKind ⟨#[c]⟩=1:=by simp [Builtin.Str.strKind,hc]
 have ek2:1<=Builtin.Str.strKind x:=by unfold Builtin.Str.strKind;split<;>(try split)<;>omega
 rw [e1,ek,decide_eq_false (show ¬Builtin.Str.strKind x < 1 by omega),am5,CH]
 split
 ·rename_i h
  have h:x.length < 1:=by simpa using h
  have:x.cps.toList=[]:=by
   rw [aY]at h;exact ag3.mp ()
  rw [ad5,aj1,this];rfl
 ·split
  ·rename_i h
   have h:dP c x.cps.toList 0=[]:=by simpa using h
   rw [Bq c h];rfl
  ·rw [StrLaws.partsBetween_eq,jK x c x.cps.toList 0 0 (aa7 _) rfl (ac1 _)]
   cases hs:mq c x.cps.toList with
   | nil=>exact absurd hs (wy c _)
   | cons p r=>simp
theorem mx:∀(tk:Nat) (xs:List Str),aU (xs.map V.str) (strsFrom tk xs)
 | _,[]=>.nil
 | tk,x::r=>.cons ⟨tk,rfl⟩ (mx (tk+1) r)
theorem rG:∀{xs:List Str} {us:List Value},aU (xs.map V.str) us->StrsAre us xs
 | [],_,.nil=>.nil
 | x::r,_,.cons ⟨t,e⟩ q=>by subst e;exact .cons x t (rG q)
section
variable {X:Cx}
theorem kA:BU X "str.split" (λx xs H Q=>∃z c,x=.str z/\xs=[.str ⟨#[c]⟩]/\c < 256/\z.length < sizeLine/\∀p,H p=none->Q (.ref p) (upd H p (.lst ((Txt.split z ⟨#[c]⟩).map V.str)))):=by
 rintro pins s Z H x xs v us Q I rx r ⟨z,c,rfl,rfl,hc,hz,q⟩;obtain⟨t,rfl⟩:=rx;obtain⟨u,rfl,t',rfl⟩:=dZ r;have hs:=sizeLine_eq
 have hlen:(Txt.split z ⟨#[c]⟩).length<=sizeLine:=by
  have h1:(Txt.split z ⟨#[c]⟩).length=(mq c z.cps.toList).length:=by rw [<-jo z hc,aa1]
  have h2:=xM c z.cps.toList;rw [<-aY]at h2;omega
 have fin:∀(its:List Value) (tk:Nat),aU ((Txt.split z ⟨#[c]⟩).map V.str) its->EP X pins Z Q (.ref s.heap.objs.size) { s with toks:=tk,heap:=s.heap.push { cls:=.type "list",data:=.seq its.toArray } }:=λits tk rv=>
  ⟨.ref s.heap.objs.size,_,I.laid (t':=tk) (o:=.lst ((Txt.split z ⟨#[c]⟩).map V.str)) (λb ob q=>aa4 _ q) (aa7 _) ⟨by rw [aa1];exact hlen,its,0,rv,aa8 _ rfl⟩,rfl,q _ (I.hok.fresh (aa7 _))⟩
 cases h1:(decide (z.length < (⟨#[c]⟩:Str).length) || decide (Builtin.Str.strKind z < Builtin.Str.strKind ⟨#[c]⟩))with
 | true=>
  have e:Txt.split z ⟨#[c]⟩=[z]:=by unfold Txt.split;rw [if_pos h1]
  rw [e]at fin;exact call_meets F.slot_str_split (typeIs_str _ _ _) F.entry_str_split (F.args_str_split_2 _ _) (meets_str_split_cannot_occur z ⟨#[c]⟩ t t' h1) (fin _ s.toks (.cons ⟨t,rfl⟩ .nil))
 | false=>
  cases hf:(Builtin.Str.occurrences z ⟨#[c]⟩ 0 z.length (z.length+1)).isEmpty with
  | true=>
   have e:Txt.split z ⟨#[c]⟩=[z]:=by unfold Txt.split;rw [if_neg (by rw [h1];exact ab3),if_pos hf]
   rw [e]at fin;exact call_meets F.slot_str_split (typeIs_str _ _ _) F.entry_str_split (F.args_str_split_2 _ _) (meets_str_split_not_found z ⟨#[c]⟩ t t' h1 rfl hf) (fin _ s.toks (.cons ⟨t,rfl⟩ .nil))
  | false=>
   have e:Txt.split z ⟨#[c]⟩=Builtin.Str.partsBetween z (Builtin.Str.occurrences z ⟨#[c]⟩ 0 z.length (z.length+1)) (⟨#[c]⟩:Str).length:=by
    unfold Txt.split;rw [if_neg (by rw [h1];exact ab3),if_neg (by rw [hf];exact ab3)]
   rw [e]at fin hlen;exact call_meets F.slot_str_split (typeIs_str _ _ _) F.entry_str_split (F.args_str_split_2 _ _) (meets_str_split_sep z ⟨#[c]⟩ t t' h1 rfl hf (ag9 hz) hlen) (fin _ _ (mx _ _))
theorem CF:BU X "str.join" (λx xs H Q=>∃z p ys,x=.str z/\xs=[.ref p]/\aF X.K H p (ys.map V.str)/\(ys.map (·.length)).sum+ys.length * z.length<=16777216/\Q (.str (Txt.join z ys)) H):=by
 rintro pins s Z H x xs v us Q I rx r ⟨z,p,ys,rfl,rfl,hq,hok,q⟩;obtain⟨t,rfl⟩:=rx;obtain⟨u,rfl,ru⟩:=dZ r;cases ru;obtain⟨its,rv,pl,hz⟩:=I.list hq;exact join_list pl.isList (rG rv) hok λt' k=>⟨.str _,H,I.tok _,⟨t',rfl⟩,q⟩
theorem uq(K:Frag)(h:X.K=K:=by rfl):BU X "str.join" (λx xs H Q=>∃z p ys,x=.str z/\xs=[.ref p]/\aF K H p (ys.map V.str)/\(ys.map (·.length)).sum+ys.length * z.length<=16777216/\Q (.str (Txt.join z ys)) H):=h▸CF
end
def t6(l:List Nat):Bool:=l.all λc=>decide (c∈[48,49,50,51,52,53,54,55,56,57])
def gU(w:List Nat):List Nat:=if w.head?=some 45 then w.tail else w
def ue(w:List Nat):Bool:=decide (1<=(gU w).length) && (decide ((gU w).length<=40) && (t6 (gU w) && (decide ((gU w).head?≠some 48) || decide (w=[48]))))
theorem vC(w:List Nat):ue w=(if gU w=[]\/40 < (gU w).length then false else if t6 (gU w)=false then false else(decide ((gU w).head?≠some 48) || decide (w=[48]))):=by
 unfold ue
 split
 ·rename_i h
  rcases h with h | h
  ·rw [h];rfl
  ·have:¬(gU w).length<=40:=by omega
   simp [this]
 ·rename_i h
  have h1:1<=(gU w).length:=by
   cases e:gU w with
   | nil=>exact absurd (Or.inl e) h
   | cons a b=>simp
  have h2:(gU w).length<=40:=by
   have:¬40 < (gU w).length:=λz=>h (Or.inr z)
   omega
  simp only [h1,h2,decide_true,Bool.true_and]
  split
  ·rename_i h3;rw [h3];rfl
  ·rename_i h3
   have h3:t6 (gU w)=true:=by simpa using h3
   rw [h3];rfl
def ia(n:Int):List Nat:=(Str.ofString (toString n)).cps.toList
def dg(m:Nat):List Nat:=(Nat.toDigits 10 m).map Char.toNat
theorem kB(m:Nat):ia (m:Int)=dg m:=PySem.W.KIN.signs_num m
theorem kC(k:Nat):ia (-((k+1:Nat):Int))=45::dg (k+1):=by
 have e:toString (-((k+1:Nat):Int))="-" ++ toString (k+1):=rfl;have h:=PySem.W.KIN.signs_num (k+1);unfold ia dg;rw [<-h,e];have e2:toString (((k+1:Nat):Nat):Int)=toString (k+1):=rfl;rw [e2];simp only [PyProof.Rows.signs_ofString,String.toList_append];rfl
theorem lC(m:Nat):∀c∈dg m,48<=c/\c<=57:=by
 intro c hc;obtain⟨ch,hch,e⟩:=ac4.mp hc;have r:=PyProof.Rows.digit_range (Nat.isDigit_of_mem_toDigits ∅ ∅ hch);rw [<-e];exact r
theorem tY(m:Nat):dg m≠[]:=by
 intro e;have h:=toDigits_len_ge 10 m;rw [List.map_eq_nil_iff.mp e]at h;exact absurd h ∅
theorem tZ(h:m < 10):dg m=[m+48]:=by
 unfold dg;rw [Nat.toDigits_of_lt_base h]
 have:∀m,m < 10->(Nat.digitChar m).toNat=m+48:=by decide
 show [(Nat.digitChar m).toNat]=_;rw [this m h]
theorem Ej(h:¬m < 10):dg m=dg (m / 10)++[m % 10+48]:=by
 have hm:m % 10 < 10:=Nat.mod_lt m ∅;have t:Nat.toDigits 10 (m / 10)++Nat.toDigits 10 (m % 10)=Nat.toDigits 10 (10 * (m / 10)+m % 10):=Nat.toDigits_append_toDigits ∅ () hm;rw [Nat.div_add_mod]at t;rw [<-tZ hm];unfold dg;rw [<-t,ab7]
theorem Cc(m:Nat)(h0:0 < m):(dg m).head?≠some 48:=by
 induction m using Nat.strongRecOn with
 | _ m ih=>
  by_cases h:m < 10
  ·rw [tZ h]
   simp;omega
  ·rw [Ej h]
   have:=ih (m / 10) () ()
   cases hd:dg (m / 10)with
   | nil=>exact absurd hd (tY _)
   | cons a l=>rw [hd]at this;exact this
theorem vt{k:Nat}(hk:1<=k)(hm:m < 10 ^ k):(dg m).length<=k:=by
 unfold dg;rw [aa1];exact digits10_le hk hm
theorem n8(n:Int):∀c∈ia n,c=45\/(48<=c/\c<=57):=by
 intro c hc;rcases ap3 n 0 with h | h
 ·obtain⟨k,rfl⟩:∃k:Nat,n = -((k+1:Nat):Int):=⟨n.natAbs - 1,()⟩
  rw [kC]at hc;rcases ab0.mp hc with e | e
  ·exact .inl e
  ·exact .inr (lC _ c e)
 ·obtain⟨m,rfl⟩:=ae1 h
  rw [kB]at hc;exact .inr (lC _ c hc)
theorem Cd(m:Nat):t6 (dg m)=true:=by
 unfold t6;rw [ak5];intro c hc;obtain⟨h1,h2⟩:=lC m c hc
 have h9:∀k,k < 10->48+k=48\/48+k=49\/48+k=50\/48+k=51\/48+k=52\/48+k=53\/48+k=54\/48+k=55\/48+k=56\/48+k=57:=by decide
 have:=h9 (c - 48) ()
 rw [Nat.add_sub_cancel' h1]at this;simpa using this
theorem yp(n:Int):gU (ia n)=dg n.natAbs:=by
 rcases ap3 n 0 with h | h
 ·obtain⟨k,rfl⟩:∃k:Nat,n = -((k+1:Nat):Int):=⟨n.natAbs - 1,()⟩
  rw [kC]
  have e:(-((k+1:Nat):Int)).natAbs=k+1:=by omega
  rw [e];rfl
 ·obtain⟨m,rfl⟩:=ae1 h
  rw [kB];unfold gU;rw [if_neg]
  ·rfl
  ·intro e
   cases hd:dg m with
   | nil=>exact absurd hd (tY _)
   | cons a l=>
    rw [hd]at e
    have:a=45:=by simpa using e
    have:=lC m a (by rw [hd];exact ad6)
    omega
theorem lE(h:n.natAbs < 10 ^ 40):ue (ia n)=true:=by
 have hl:(dg n.natAbs).length<=40:=vt ∅ h
 have hl0:1<=(dg n.natAbs).length:=by
  cases hd:dg n.natAbs with
  | nil=>exact absurd hd (tY _)
  | cons a l=>simp
 unfold ue;rw [yp,Cd,decide_eq_true hl,decide_eq_true hl0]
 by_cases h0:n=0
 ·subst h0
  decide +kernel
 ·rw [decide_eq_true (Cc n.natAbs ())]
  rfl
theorem fX{k:Nat}(hk:1<=k)(h:n.natAbs < 10 ^ k):(ia n).length<=k+1:=by
 rcases ap3 n 0 with h1 | h1
 ·obtain⟨j,rfl⟩:∃k:Nat,n = -((k+1:Nat):Int):=⟨n.natAbs - 1,()⟩
  have e:(-((j+1:Nat):Int)).natAbs=j+1:=by omega
  rw [e]at h;rw [kC,ac7]
  have:=vt hk h
  omega
 ·obtain⟨m,rfl⟩:=ae1 h1
  rw [kB]
  have:=vt hk (show m < 10 ^ k from h)
  omega
theorem nc(h:n.natAbs < 10 ^ 600):intText? (Str.ofString (toString n))=some n:=by
 have hl:=fX ∅ h
 have hl2:(Str.ofString (toString n)).length<=4300:=by rw [aY];exact ac2 hl ∅
 rcases ap3 n 0 with h1 | h1
 ·obtain⟨k,rfl⟩:∃k:Nat,n = -((k+1:Nat):Int):=⟨n.natAbs - 1,()⟩
  rw [PySem.intText_neg (cs:=dg (k+1)) (kC k) (lC _) (tY _) hl2]
  have:=PySem.W.KIN.val_back (k+1)
  unfold dg;rw [this]
 ·obtain⟨m,rfl⟩:=ae1 h1
  have e:(Str.ofString (toString ((m:Nat):Int))).cps.toList=dg m:=kB m;rw [PySem.intText_digits (by rw [e];exact lC _) (by rw [e];exact tY _) hl2,e]
  have:=PySem.W.KIN.val_back m
  unfold dg;rw [this]
def dy(c:Nat):List (List Nat)->List Nat
 | []=>[]
 | p::r=>p++(r.map (c::·)).flatten
theorem qP(c:Nat):∀(l:List Str) (a:Array Nat),(l.foldl (λacc p=>acc++(⟨#[c]⟩:Str).cps++p.cps) a).toList=a.toList++(l.map (λp=>c::p.cps.toList)).flatten
 | [],a=>by simp
 | p::l,a=>by
  rw [af5,qP c l];simp
theorem dU(c:Nat)(ys:List Str):(Txt.join ⟨#[c]⟩ ys).cps.toList=dy c (ys.map λz=>z.cps.toList):=by
 unfold Txt.join Builtin.Str.glued
 cases ys with
 | nil=>rfl
 | cons p r=>
  show(r.foldl (λacc p=>acc++(⟨#[c]⟩:Str).cps++p.cps) p.cps).toList=_;rw [qP];simp [dy,Function.comp_def]
theorem xK(c:Nat):∀(p:List Nat) (l:List Nat),c∉p->mq c (p++c::l)=p::mq c l
 | [],l,_=>by simp [mq]
 | a::p,l,h=>by
  have h1:a≠c:=λe=>h (by rw [e];exact ad6);have h2:c∉p:=λe=>h (ad8 _ e);rw [am3];simp only [mq,h1,if_false];rw [xK c p l h2]
theorem u5(c:Nat):∀(p:List Nat),c∉p->mq c p=[p]
 | [],_=>rfl
 | a::p,h=>by
  have h1:a≠c:=λe=>h (by rw [e];exact ad6);have h2:c∉p:=λe=>h (ad8 _ e);simp only [mq,h1,if_false];rw [u5 c p h2]
theorem pj(c:Nat):∀(ps:List (List Nat)),ps≠[]->(∀p∈ps,c∉p)->mq c (dy c ps)=ps
 | [],h,_=>absurd rfl h
 | [p],_,h=>by
  simp [dy];exact u5 c p (h p ad6)
 | p::q::r,_,h=>by
  have ih:=pj c (q::r) (by simp) (λx hx=>h x (ad8 _ hx))
  have e:dy c (p::q::r)=p++c::dy c (q::r):=by simp [dy]
  rw [e,xK c p _ (h p ad6),ih]
end L2
namespace L3
open PySem PySem.Spec PyProof.Rows
theorem i4(l:Bool)(a:Addr)(xs:Array Value):
  Meets (Builtin.«enumerate.__new__» ⟨[.type "enumerate",.ref a],[]⟩) (λ_ R s=>IsSeq l s.heap a xs/\
   R (.ok (.ret (.ref (s.heap.push (itRec l a)).objs.size))) { s with heap:=(s.heap.push (itRec l a)).push { cls:=.type "enumerate",data:=.fields #[.none,.bool false,.ref s.heap.objs.size,rawInt 0,.none,.none] } }):=
 .of_wp λprog w A R s h=>by
  obtain⟨hp,g,d,tk,os⟩:=s;obtain⟨q1,h⟩:=h;have hsub:=sub_enumerate;have u1:IsSeq l (Shared.heap ⟨hp,g,d,tk,os⟩) a xs:=q1
  have tl:∃o,hp.get? a=some o:=by
   cases l
   ·obtain⟨o,e,_⟩:=(show hp.IsTuple a xs from q1);exact⟨o,e⟩
   ·obtain⟨o,e,_⟩:=(show hp.IsList a xs from q1);exact⟨o,e⟩
  obtain⟨ob,hl⟩:=tl;obtain⟨c,dct,dt,sl⟩:=ob
  wp_walk using AutoSeq1.wpAny_loadPart' hl
  refine wpAny_stack_any λst=>aa6 ?_
  split
  ·rename_i c _ _ _ _ _
   cases(c == Value.type "enumerate")
   ·wp_walk using AutoSeq1.wpAny_loadPart' hl,iZ u1
    exact⟨_,rfl,h⟩
   ·wp_walk using AutoSeq1.wpAny_loadPart' hl,iZ u1
    exact⟨_,rfl,h⟩
  ·wp_walk using AutoSeq1.wpAny_loadPart' hl,iZ u1
   exact⟨_,rfl,h⟩
section
variable {prog:Program} {w:World} {A:Around} {E:Value->Shared->Prop} {s:Shared}
theorem call_enumerateB{l:Bool}{a:Addr}{xs:Array Value}{Q:Value->Shared->Prop}(hL:IsSeq l s.heap a xs)
  (h:∀h',IsEnum h' (s.heap.objs.size+1) s.heap.objs.size 0 .none->h'.get? s.heap.objs.size=some (itRec l a)->h'.objs.size=s.heap.objs.size+2->
   (∀b o,s.heap.get? b=some o->h'.get? b=some o)->Q (.ref (s.heap.objs.size+1)) { s with heap:=h' }) :
  wpAny (model prog w) A (call (.type "enumerate") [.ref a]) Q E s:=by
 refine callType_new F.called_enumerate ∅ (F.typeCall_enumerate_1 _) (F.newCall_enumerate_1 _) (λobj=>F.args_object_init_2 obj _) F.entry_enumerate_new
  (i4 l a xs) ⟨hL,?_⟩
 have hz:(s.heap.push (itRec l a)).objs.size=s.heap.objs.size+1:=af2 ..;show _/\_;rw [hz]
 have he:IsEnum ((s.heap.push (itRec l a)).push
   { cls:=.type "enumerate",data:=.fields #[.none,.bool false,.ref s.heap.objs.size,rawInt 0,.none,.none] }) (s.heap.objs.size+1) s.heap.objs.size 0 .none:=by
  have:=aa8 (s.heap.push (itRec l a))
   (o:={ cls:=.type "enumerate",data:=.fields #[.none,.bool false,.ref s.heap.objs.size,rawInt 0,.none,.none] }) rfl
  rw [hz]at this;exact this
 refine⟨⟨_,he,rfl⟩,h _ he (aa4 _ (aa8 _ rfl)) (by rw [af2,hz]) λb o x=>aa4 _ (aa4 _ x)⟩
end
end L3
namespace L2
open PySem PySem.Spec PyProof.Rows
variable {A:Around} {C T a c f:Addr} {D:List (Str×V)} {H:Hp} {K:Frag} {P:Program} {Q:VK} {X:Cx} {an od:Option Addr} {base:Heap} {cdv ct doc kV oc pm u:Value} {e:Expr} {fd:FuncData} {i:Int} {j k n:Nat} {kind m qual x z:Str} {l:Bool} {mg:Str->Option Value} {ns:List Int} {o:Obj} {osl:Array (Option Value)} {p pos:Pos} {pl:Sem Bool} {ps:List Str} {sp:Sp} {st:Stmt} {us:List Value} {w:World} {xs:List V} {y:V}
def GX(K:Frag)(l:Bool)(a:Addr):It:=
 ⟨λi H=>∃xs x,gP K l H a xs/\xs[i]?=some x,
  λi H v H'=>∃p x,v=.ref p/\H p=none/\H'=upd H p (.tup [.int i,x])/\∀xs,gP K l H a xs->xs[i]?=some x,
  λi H=>∃xs,gP K l H a xs/\i=xs.length⟩
theorem wY{elts:List Expr}{kt:Nat}{pt:Pos}(l:Bool)(a z it:Addr)(nd:z≠it):
  pJ P w K (.Tuple elts kt pt) (GX K l a) [z,it] z (λi h=>(∃old,IsEnum h z it ((i:Nat):Int) old)/\ke l h it a i):=by
 refine⟨by simp,?_,?_,?_,?_,?_⟩
 ·rintro i h ⟨⟨old,qz⟩,u⟩ c hc
  have hc':c=z\/c=it:=by simpa using hc
  rcases hc' with e | e
  ·subst e;exact⟨_,qz,λv q=>by cases q⟩
  ·subst e
   exact u.obj
 ·rintro i h h' ⟨⟨old,qz⟩,u⟩ k
  exact⟨⟨old,k z (by simp) _ qz⟩,u.at λo e=>k it (by simp) o e⟩
 ·rintro X hP hw hK hc i pins s Z H E I hf ⟨⟨old,qz⟩,u⟩ ⟨xs,x,q1,hx⟩
  subst hP hw hK;have hh:X.A.in1.handled=none:=I.ok.hd hc;obtain⟨its,r1,p1,z1⟩:=I.seqB q1;have na:a≠it:=I.seqB_ne q1 (hf it (by simp));have nz:a≠z:=I.seqB_ne q1 (hf z (by simp))
  have lx:i < its.toArray.size:=by
   have:=(aa3.mp hx).1
   rw [ab4,<-r1.length];exact this
  have hef:z∉[it,a]:=by
   simp only [ab0,ad3,or_false,not_or];exact⟨nd,nz.symm⟩
  refine wpAny_pyNext_enum_itemD (fL (P:=X.prog) (w:=X.w) hh l it a na its.toArray) qz ⟨u,p1⟩ lx nd hef λv h' tk ev z' s' pr sz kk=>?_;obtain⟨w1,g1,rx⟩:=r1.get hx
  have ev1:v=w1:=by
   have:its[i]?=some v:=by simpa using ev
   rw [g1]at this;exact(Option.some.inj this).symm
  subst ev1;refine⟨_,rfl,wpAny_letOwnedTupleGo_enum (s:={ s with heap:=h',toks:=tk+1 }) z' λh2 z2 sb=>?_⟩;have fz:s.heap.objs.size≠z:=af1 (aa9 qz);have Hn:H s.heap.objs.size=none:=I.hok.fresh (aa7 _)
  have kp:∀c o,c∉[z,it]->s.heap.get? c=some o->h2.get? c=some o:=λc o hc e=>by
   have hc':c≠z/\c≠it:=by simpa [not_or]using hc
   exact(sb.2 c hc'.1).trans (kk c o hc'.1 hc'.2 e)
  have nf:∀{c:Addr} {u:HO},H c=some u->c∉[z,it]:=λ{c u} e hc=>by
   have:=(hf c hc).1
   rw [e]at this;cases this
  have pr2:h2.get? s.heap.objs.size=some { cls:=.type "tuple",data:=.seq #[.int i tk,v] }:=(sb.2 _ fz).trans pr
  have I2:aK X pins Z (upd H s.heap.objs.size (.tup [.int i,x])) { s with heap:=h2,toks:=tk+1 }:=by
   refine I.step (g':=s.gens) (d':=s.drawn) (ch:=[z,it]) (λc hc=>⟨(hf c hc).2.2.2.1,(hf c hc).2.1,(hf c hc).2.2.2.2.1,(hf c hc).2.2.2.2.2⟩) (λc o _ _ hc e _=>kp c o hc e) (λc o _ _ hc e _=>⟨o.slots,kp c o hc e⟩)
    (λc o _ e n=>by rw [aj (ac0 (aa9 e))];exact n) (λc o hc e=>⟨o,kp c o hc e⟩) (λc us e=>by rw [aj (ao e Hn)];exact e) (λc o u e=>by rw [aj (ao e Hn)];exact e)
    (λc ps e=>⟨#[],by rw [aj (ao e Hn),e];simp⟩) (λm hm=>?_) (λc u e=>?_) I.bare
   ·obtain⟨o,es,ep,ho,r⟩:=hm
    exact⟨o,es,ep,kp _ o (λq=>(hf _ q).2.1 rfl) ho,r⟩
   ·by_cases hcs:c=s.heap.objs.size
    ·subst hcs
     rw [ae]at e;cases e;exact⟨by rw [sizeLine_eq];show 2<=16777216;omega,[.int i tk,v],.cons ⟨_,rfl⟩ (.cons rx .nil),_,pr2,rfl,_,rfl⟩
    ·rw [aj hcs]at e
     refine(I.hok c u e).stay (λd o hd q=>kp d o ?_ q) (λd q=>by rw [aj (ao q Hn)];exact q) λd us q=>by rw [aj (ao q Hn)];exact q
     rcases hd with hd | hd
     ·rw [hd];exact nf e
     ·exact nf hd
  refine⟨.ref s.heap.objs.size,_,I2,rfl,⟨_,x,rfl,Hn,rfl,λus hu=>by rw [I.seqB_inj hu q1];exact hx⟩,⟨⟨v,?_⟩,?_⟩,λc hc=>?_⟩
  ·have e:(((i+1:Nat)):Int)=(i:Int)+1:=by omega
   rw [e];exact z2
  ·exact s'.1.at λo e=>(sb.2 _ nd.symm).trans e
  ·show upd H s.heap.objs.size (.tup [.int i,x]) c=none
   have lt:c < s.heap.objs.size:=by
    have hc':c=z\/c=it:=by simpa using hc
    rcases hc' with e | e
    ·subst e;exact aa9 qz
    ·subst e;obtain⟨o,e,_⟩:=u.obj;exact aa9 e
   rw [aj (ac0 lt)];exact(hf c hc).1
 ·rintro X hP hw hK hc i pins s Z H E I hf ⟨⟨old,qz⟩,u⟩ ⟨xs,q1,hend⟩
  subst hP hw hK;have hh:X.A.in1.handled=none:=I.ok.hd hc;obtain⟨its,r1,p1,z1⟩:=I.seqB q1;have na:a≠it:=I.seqB_ne q1 (hf it (by simp))
  have ei:i=its.toArray.size:=by rw [ab4,<-r1.length];exact hend
  subst ei;obtain⟨f0,f1,f2,f3,f4,f5⟩:=hf it (by simp);exact wpAny_pyNext_enum_endD (fL (P:=X.prog) (w:=X.w) hh l it a na its.toArray) qz ⟨u,p1⟩ λh' k=>⟨rfl,I.turned (t':=s.toks) (λb o hb e=>k b o hb e) f0 f1 f3 f4 f5⟩
 ·rintro A i s Q E ⟨⟨old,qz⟩,_⟩ h
  exact wpAny_pyIter_enum qz h
def z6(K:Frag)(ta:TA):TI:=λZ H R=>ta Z H λvs H1=>∃a,vs=[.ref a]/\∃l,(∃xs,gP K l H1 a xs)/\R (GX K l a) H1
theorem oA{elts:List Expr}{kt:Nat}{pt:Pos}{a:Expr}{ta:TA}(hg:Gl X "enumerate")(hm:X.mg "enumerate"=none)(ha:PA X [a] ta)(hs:starEach [a] X.env=[(false,eval a X.env)]:=by rfl):
  PI X (.Tuple elts kt pt) (.Call (.Name "enumerate" p) [a] [] pos) (z6 X.K ta):=by
 intro pins s Z H R I h;refine Call_ (dz I hg hm boot_enumerate (PyProof.Rows.callWith_type1 (cH (ha pos pins s Z H _ I h) λus s1 zq0=>?_) hs rfl));obtain⟨vs,H1,I1,r1,a1,e,l,⟨xs,q1⟩,q⟩:=zq0;subst e;obtain⟨u,rfl,e1⟩:=dZ r1;cases e1;obtain⟨its1,r1,p1,z1⟩:=I1.seqB q1;refine L3.call_enumerateB p1 λh' qz qI sz kp=>wpAny_pyIter_enum qz ?_;refine⟨s1.heap.objs.size+1,[s1.heap.objs.size+1,s1.heap.objs.size],_,_,H1,rfl,I1.kept (h':=h') (t':=s1.toks) kp,wY l a1 _ _ (Nat.succ_ne_self _),⟨⟨_,qz⟩,ke.rec qI⟩,λc hc=>?_,q⟩
 have hc':s1.heap.objs.size<=c:=by
  have:c=s1.heap.objs.size+1\/c=s1.heap.objs.size:=by simpa using hc
  rcases this with e | e<;>(rw [e];first | exact aa7 _ | exact Nat.le_add_right _ _)
 exact I1.fpOk hc' (I1.hok.fresh hc')
theorem jH{g:TG}{tb:TS}{D:iS}{Z:St}{us:List V}(Pv:Nat->St->Hp->Prop)(h0:Pv 0 Z H)(hl:∀i Z H,i<=us.length->Pv i Z H->gP K l H a us)
  (hs:∀i x Z H p,us[i]?=some x->Pv i Z H->H p=none->g (.ref p) Z (upd H p (.tup [.int i,x])) λZg H2=>tb { D with nx:=Pv (i+1),ct:=Pv (i+1),bk:=D.nx } Zg H2) (hd:∀Z H,Pv us.length Z H->D.nx Z H):xW g tb D Z (GX K l a) H:=by
 refine⟨λi m Z H=>m=us.length - i/\i<=us.length/\Pv i Z H,⟨us.length,by simp,ac1 _,h0⟩,?_⟩;rintro i m Z H ⟨rfl,hi,p⟩;have q1:=hl i Z H hi p
 by_cases hlt:i < us.length
 ·refine .inr ⟨⟨us,us[i],q1,by simp [hlt]⟩,Pv (i+1),λZc H' p'=>⟨us.length - (i+1),(),rfl,hlt,p'⟩,λx H' y=>?_⟩
  obtain⟨pp,u,e,hp,e2,y1⟩:=y;subst e e2;exact hs i u Z H pp (y1 us q1) p hp
 ·have e:i=us.length:=by omega
  subst e;exact .inl ⟨⟨us,q1,rfl⟩,hd Z H p⟩
structure nE(K:Frag)(x qual:Str)(st:Stmt)(f:Addr)(fd:FuncData)(T:Addr):Prop where
 ex:∃(oc:Value) (od:Option Addr) (kV doc pm:Value) (an:Option Addr) (cdv ct:Value) (osl:Array (Option Value)),
  fd=fnOf x qual (cz st) (bY st) (ak st) (.ref T) kV doc pm an cdv ct/\K.lookup f=some ⟨oc,od,.func fd,osl⟩/\codeIn K cdv qual=true
 kp:keepIn K (.ref f)=true
theorem nE.ok{N:List Str}(F:nE K x qual st f fd T)(S:aw N ps (ak st))
  (hbody:∀(cdv:Value) (A:Around) (outer:List Env) (s:Shared) (H:Hp) (vs:List V) (Q:VK) (E:XK),dv k (A.deeper (envOfC qual (ak st) s.heap.objs.size f cdv))->sp vs H Q E->
   vs.length=ps.length/\∃t,w8 (tX bV P w K mg base N qual (ak st) f cdv A outer s H E).nox (bY st) t/\t { nx:=λ_ H'=>Q .non H',rt:=Q } (start N vs) H):aG P w K mg base bV (k+1) f fd ps sp:=by
 obtain⟨oc,od,kV,doc,pm,an,cdv,ct,osl,rfl,lk,hcd⟩:=F.ex;refine DG lk hcd S (λA o s vs H Q E hr hsp=>(hbody cdv A o s H vs Q E (hr.deeper _) hsp).1) λA outer s H vs Q E hr hsp=>?_;obtain⟨_,t,h,q⟩:=hbody cdv A outer s H vs Q E hr hsp;exact⟨t,h.nox,q⟩
structure tP(P:Program)(w:World)(K:Frag)(mg:Str->Option Value)(base:Heap)(x:Str)(k:Nat)(ps:List Str)(sp:Sp)(dvs:List V):Prop where
 ex:∃(f:Addr) (fd:FuncData) (ds:List Value),aG P w K mg base bV k f fd ps sp/\mg x=some (.ref f)/\keepIn K (.ref f)=true/\dh K fd ps ds/\aU dvs ds
theorem tP.up{dvs:List V}(d:tP P w K mg base x j ps sp dvs)(h:j<=k):tP P w K mg base x k ps sp dvs:=
 let ⟨f,fd,ds,F,a,b,c,e⟩:=d.ex;⟨f,fd,ds,F.mono h,a,b,c,e⟩
section
variable {es:List Expr} {t:TA} {dvs:List V}
theorem C2(d:tP X.prog X.w X.K X.mg X.base x k ps sp dvs)(hr:dv k X.A)(hg:Gl X x)(ha:PA X (e::es) t)(hdb:(x == ("__debug__":Str))=false:=by decide)
  (he:starEach (e::es) X.env=(false,eval e X.env)::starEach es X.env:=by rfl) (hpl:(backTo pos (starEach es X.env)).any (·.1)=false:=by rfl):PE X (.Call (.Name x p) (e::es) [] pos) (rH sp dvs E0 t):=
 let ⟨_,_,_,F,hm,hk,hb,hd⟩:=d.ex;xx F hr hg hm hk hb hd oz ha hdb he hpl
end
structure rO(K:Frag)(x:Str)(st:Stmt)(f:Addr)(fd:FuncData)(u:Value):Prop where
 ns:nsIn K mainGlobals x=some (some (.ref f))
 fn:∃(T:Addr) (o:Obj) (n:Nat),nE K x x st f fd T/\K.lookup T=some o/\o.data=.seq #[u] n
theorem nE.binds(F:nE K x qual st f fd T)(t:K.lookup T=some o)(d:o.data=.seq #[u] n)
  (h:∀(kV doc pm:Value) (an:Option Addr) (cdv ct:Value) (us:List Value),us.length=ps.length->
   ∃k:Option (Array Value)->Sem (List (Str×Value)),bindArgs (fnOf x qual (cz st) (bY st) (ak st) (.ref T) kV doc pm an cdv ct) ⟨us,[]⟩=seqItems? (.ref T) >>= k/\k (some #[u])=pure (ps.zip us)):dh K fd ps []:=by
 obtain⟨oc,od,kV,doc,pm,an,cdv,ct,osl,rfl,lk,hcd⟩:=F.ex;intro s us X hl;rw [ag5]at hl |-;obtain⟨k,h1,h2⟩:=h kV doc pm an cdv ct us hl;exact BindsTo.of_defaults (T:=T) rfl (X _ _ t) d h1 h2
theorem nE.bindsD(F:nE K x qual st f fd T)(t:K.lookup T=some o)(d:o.data=.seq #[u] n)
  (h:∀(kV doc pm:Value) (an:Option Addr) (cdv ct:Value) (us:List Value),us.length+1=ps.length->
   ∃k:Option (Array Value)->Sem (List (Str×Value)),bindArgs (fnOf x qual (cz st) (bY st) (ak st) (.ref T) kV doc pm an cdv ct) ⟨us,[]⟩=seqItems? (.ref T) >>= k/\k (some #[u])=pure (ps.zip (us++[u]))):dh K fd ps [u]:=by
 obtain⟨oc,od,kV,doc,pm,an,cdv,ct,osl,rfl,lk,hcd⟩:=F.ex;intro s us X hl;obtain⟨k,h1,h2⟩:=h kV doc pm an cdv ct us (by rw [<-hl,ab2];rfl);exact BindsTo.of_defaults (T:=T) rfl (X _ _ t) d h1 h2
def pG(K:Frag)(H:Hp):Nat->V->V->Bool->Prop
 | 0,x,y,b=>(gm x=true/\gm y=true/\b=zo x y)\/∃a,x=.ref a/\y=.ref a/\b=true
 | n+1,x,y,b=>pG K H 0 x y b\/∃(a c:Addr) (l:Bool) (xs ys:List V) (e:Nat->Bool),x=.ref a/\y=.ref c/\a≠c/\gP K l H a xs/\gP K l H c ys/\
   (∀j x y,xs[j]?=some x->ys[j]?=some y->pG K H n x y (e j))/\b=((List.range (min xs.length ys.length)).all e && xs.length == ys.length)
theorem pG.flat{x:V}(fx:gm x=true)(fy:gm y=true):pG K H n x y (zo x y):=by
 cases n
 ·unfold pG;exact .inl ⟨fx,fy,rfl⟩
 ·unfold pG;refine .inl ?_;unfold pG;exact .inl ⟨fx,fy,rfl⟩
theorem pG.same:pG K H n (.ref a) (.ref a) true:=by
 cases n
 ·unfold pG;exact .inr ⟨a,rfl,rfl,rfl⟩
 ·unfold pG;refine .inl ?_;unfold pG;exact .inr ⟨a,rfl,rfl,rfl⟩
section
variable {pins:List (Addr×Obj)} {Z:St} {s:Shared}
theorem g8(r:aU xs us)(h:j < us.toArray.size):∃x,xs[j]?=some x/\aP x us.toArray[j]:=by
 have l1:=r.length;simp only [ab4]at h
 have hx:j < xs.length:=by omega
 obtain⟨u,e1,r1⟩:=aU.get r (i:=j) (x:=xs[j]) (by simp [hx])
 have g1:us.toArray[j]=u:=by simpa [h]using e1
 exact⟨xs[j],by simp [hx],by rw [g1];exact r1⟩
theorem A9{ys:List V}{vs:List Value}{e:Nat->Bool}(rx:aU xs us)(ry:aU ys vs)(p1:L3.IsSeq l s.heap a us.toArray)(p2:L3.IsSeq l s.heap c vs.toArray)(hu:A.units < cLine)
  (he:∀j (h1:j < us.toArray.size) (h2:j < vs.toArray.size),SeqAt.EqAt A.in1 s us.toArray[j] vs.toArray[j] (e j)):SeqAt.RcAt A s (.ref a) (.ref c) ((List.range (min xs.length ys.length)).all e && xs.length == ys.length):=by
 have s1:us.toArray.size=xs.length:=by rw [ab4,rx.length]
 have s2:vs.toArray.size=ys.length:=by rw [ab4,ry.length]
 cases l
 ·have:=SeqAt.RcAt.tuples (show s.heap.IsTuple a us.toArray from p1) (show s.heap.IsTuple c vs.toArray from p2) hu he
  rw [s1,s2]at this;exact this
 ·by_cases hl:xs.length=ys.length
  ·have:=SeqAt.RcAt.lists (show s.heap.IsList a us.toArray from p1) (show s.heap.IsList c vs.toArray from p2) (by rw [s1,s2,hl]) hu he
   rw [s1]at this;rw [hl,Nat.min_self,beq_self_eq_true,Bool.and_true,<-hl];exact this
  ·have:=SeqAt.RcAt.lists_lengths (show s.heap.IsList a us.toArray from p1) (show s.heap.IsList c vs.toArray from p2) (by rw [s1,s2];simpa using hl) hu
   rw [show(xs.length == ys.length)=false by simpa using hl,Bool.and_false];exact this
theorem Ba{ys:List V}{vs:List Value}{e:Nat->Bool}(rx:aU xs us)(ry:aU ys vs)(p1:L3.IsSeq l s.heap a us.toArray)(p2:L3.IsSeq l s.heap c vs.toArray)(hu:A.units < cLine)
  (he:∀j (h1:j < us.toArray.size) (h2:j < vs.toArray.size),SeqAt.EqAt A.in1 s us.toArray[j] vs.toArray[j] (e j)):SeqAt.RcNeAt A s (.ref a) (.ref c) (!((List.range (min xs.length ys.length)).all e && xs.length == ys.length)):=by
 have s1:us.toArray.size=xs.length:=by rw [ab4,rx.length]
 have s2:vs.toArray.size=ys.length:=by rw [ab4,ry.length]
 cases l
 ·have:=SeqAt.RcNeAt.tuples (show s.heap.IsTuple a us.toArray from p1) (show s.heap.IsTuple c vs.toArray from p2) hu he
  rw [s1,s2]at this;exact this
 ·by_cases hl:xs.length=ys.length
  ·have:=SeqAt.RcNeAt.lists (show s.heap.IsList a us.toArray from p1) (show s.heap.IsList c vs.toArray from p2) (by rw [s1,s2,hl]) hu he
   rw [s1]at this;rw [hl,Nat.min_self,beq_self_eq_true,Bool.and_true,<-hl];exact this
  ·have:=SeqAt.RcNeAt.lists_lengths (show s.heap.IsList a us.toArray from p1) (show s.heap.IsList c vs.toArray from p2) (by rw [s1,s2];simpa using hl) hu
   rw [show(xs.length == ys.length)=false by simpa using hl,Bool.and_false];exact this
theorem pG.at(I:aK X pins Z H s):∀{n:Nat} {A:Around} {x y:V} {u v:Value} {b:Bool},A.units+n < cLine->aP x u->aP y v->pG X.K H n x y b->SeqAt.EqAt A s u v b:=by
 have z0:∀{A:Around} {x y:V} {u v:Value} {b:Bool},aP x u->aP y v->pG X.K H 0 x y b->SeqAt.EqAt A s u v b:=by
  intro A x y u v b rx ry h;unfold pG at h;rcases h with⟨fx,fy,rfl⟩ | ⟨a,rfl,rfl,rfl⟩
  ·exact zT rx ry fx fy
  ·cases rx;cases ry;exact SeqAt.EqAt.same _
 intro n
 induction n with
 | zero=>intro A x y u v b _ rx ry h;exact z0 rx ry h
 | succ n ih=>
  intro A x y u v b hu rx ry h;unfold pG at h;rcases h with h | ⟨a,c,l,xs,ys,e,rfl,rfl,ne,h1,h2,he,rfl⟩
  ·exact z0 rx ry h
  ·cases rx;cases ry
   obtain⟨us,r1,p1,_⟩:=I.seqB h1;obtain⟨vs,r2,p2,_⟩:=I.seqB h2;refine SeqAt.EqAt.of_refs ne (A9 r1 r2 p1 p2 () λj j1 j2=>?_);obtain⟨x,ex,rx⟩:=g8 r1 j1;obtain⟨y,ey,ry⟩:=g8 r2 j2;exact ih (A:=A.in1) (by show A.units+1+n < cLine;omega) rx ry (he j x y ex ey)
def zu(K:Frag)(H:Hp)(n:Nat)(x y:V)(b:Bool):Prop:=∃(a c:Addr) (l:Bool) (xs ys:List V) (e:Nat->Bool),x=.ref a/\y=.ref c/\gP K l H a xs/\gP K l H c ys/\
 (∀j x y,xs[j]?=some x->ys[j]?=some y->pG K H n x y (e j))/\b=((List.range (min xs.length ys.length)).all e && xs.length == ys.length)
theorem EM(n:Nat)(hu:X.A.units+n+1 < cLine):dE X (compareOp .Eq) (λx y H Q=>∃b,zu X.K H n x y b/\Q (.bl b) H):=by
 rintro pins s Z H x y v u Q I rx ry ⟨b,⟨a,c,l,xs,ys,e,rfl,rfl,h1,h2,he,rfl⟩,q⟩;cases rx;cases ry;obtain⟨us,r1,p1,_⟩:=I.seqB h1;obtain⟨vs,r2,p2,_⟩:=I.seqB h2;refine A9 (A:=X.A) r1 r2 p1 p2 () (λj j1 j2=>?_) X.prog X.w X.xe _ (bA I q rfl);obtain⟨x,ex,rx⟩:=g8 r1 j1;obtain⟨y,ey,ry⟩:=g8 r2 j2;exact pG.at I (A:=X.A.in1) (by show X.A.units+1+n < cLine;omega) rx ry (he j x y ex ey)
theorem EN(n:Nat)(hu:X.A.units+n+1 < cLine):dE X (compareOp .NotEq) (λx y H Q=>∃b,zu X.K H n x y b/\Q (.bl (!b)) H):=by
 rintro pins s Z H x y v u Q I rx ry ⟨b,⟨a,c,l,xs,ys,e,rfl,rfl,h1,h2,he,rfl⟩,q⟩;cases rx;cases ry;obtain⟨us,r1,p1,_⟩:=I.seqB h1;obtain⟨vs,r2,p2,_⟩:=I.seqB h2;refine Ba (A:=X.A) r1 r2 p1 p2 () (λj j1 j2=>?_) X.prog X.w X.xe _ (bA I q rfl);obtain⟨x,ex,rx⟩:=g8 r1 j1;obtain⟨y,ey,ry⟩:=g8 r2 j2;exact pG.at I (A:=X.A.in1) (by show X.A.units+1+n < cLine;omega) rx ry (he j x y ex ey)
def lN(K:Frag):R2:=λx y H Q=>ve x y H Q\/∃b,zu K H 4 x y b/\Q (.bl b) H
def lO(K:Frag):R2:=λx y H Q=>vf x y H Q\/∃b,zu K H 4 x y b/\Q (.bl (!b)) H
theorem GJ(hr:dv k A):A.units+4+1 < cLine:=ab5 (Nat.add_le_add_left (by decide:5<=64) _) hr.units
theorem F8(K:Frag)(hu:X.A.units+4+1 < cLine)(h:X.K=K:=by rfl):dE X (compareOp .Eq) (lN K):=h▸opEq.or (EM 4 hu)
theorem Ga(K:Frag)(hu:X.A.units+4+1 < cLine)(h:X.K=K:=by rfl):dE X (compareOp .NotEq) (lO K):=h▸opNe.or (EN 4 hu)
end
theorem Dg{j:Int}:lN K (.int i) (.int j) H Q↔Q (.bl (decide (i=j))) H:=by simp [lN,rEq_ii,zu]
theorem Dl{j:Int}:lO K (.int i) (.int j) H Q↔Q (.bl (!decide (i=j))) H:=by simp [lO,rNe_ii,zu]
theorem Dh{i j:Str}:lN K (.str i) (.str j) H Q↔Q (.bl (decide (i=j))) H:=by simp [lN,vZ,zu]
theorem Dm{i j:Str}:lO K (.str i) (.str j) H Q↔Q (.bl (!decide (i=j))) H:=by simp [lO,v5,zu]
theorem DM(K:Frag):zp (lN K)=lN K:=Ah (λ_ _ _ _=>Dg) (λ_ _ _ _=>Dh)
theorem DO(K:Frag):zr (lO K)=lO K:=Aj (λ_ _ _ _=>Dl) (λ_ _ _ _=>Dm)
theorem Es{x:V}:zp (lN K) x y H Q↔lN K x y H Q:=by rw [DM]
theorem Eu{x:V}:zr (lO K) x y H Q↔lO K x y H Q:=by rw [DO]
theorem F3(K:Frag)(hu:X.A.units+4+1 < cLine)(h:X.K=K:=by rfl):dE X (compareOp .Eq) (zp (lN K)):=by rw [DM];exact F8 K hu h
theorem F4(K:Frag)(hu:X.A.units+4+1 < cLine)(h:X.K=K:=by rfl):dE X (compareOp .NotEq) (zr (lO K)):=by rw [DO];exact Ga K hu h
theorem zu.of_same(h1:gP K l H a xs)(h2:gP K l H c xs)(hf:∀x∈xs,gm x=true\/∃p,x=.ref p):zu K H n (.ref a) (.ref c) true:=by
 refine⟨a,c,l,xs,xs,λ_=>true,rfl,rfl,h1,h2,λj x y hx hy=>?_,?_⟩
 ·rw [hx]at hy
  cases hy;rcases hf x (ab8 hx)with f | ⟨p,rfl⟩
  ·have:=pG.flat (K:=K) (H:=H) (n:=n) f f
   have e:zo x x=true:=by cases x<;>first | rfl | (simp [zo];done) | exact absurd (show false=true from f) ab3
   rw [e]at this;exact this
  ·exact pG.same
 ·simp
theorem rf(h1:gP K l H a xs)(h2:gP K l H c xs)(hf:∀x∈xs,gm x=true\/∃p,x=.ref p)(q:Q (.bl false) H):lO K (.ref a) (.ref c) H Q:=.inr ⟨true,.of_same h1 h2 hf,q⟩
structure eZ(P:Program)(w:World)(K:Frag)(mg:Str->Option Value)(base:Heap)(k:Nat)(f:Addr)(ps:List Str)(sp:Sp):Prop where
 ex:∃fd:FuncData,aG P w K mg base bV k f fd ps sp/\keepIn K (.ref f)=true/\dh K fd ps []
structure aC(P:Program)(w:World)(K:Frag)(mg:Str->Option Value)(base:Heap)(C:Addr)(m:Str)(k:Nat)(ps:List Str)(sp:Sp):Prop where
 cl:vc K C
 ex:∃(f:Addr) (fd:FuncData),Ec K C m f/\aG P w K mg base bV k f fd ps sp/\dh K fd ps []
structure Dz(K:Frag)(C:Addr)(m:Str)(f:Addr):Prop where
 rd:PySem.W.readsIn K C (.type "type")=true
 at_:PySem.W.findCls K (.ref C) (.type "type") m=some (.val (.ref f))
 ga:PySem.W.specialIn K (.ref C) "__getattribute__"=some (some (.builtin "type.__getattribute__"))
 kp:keepIn K (.ref f)=true
structure iQ(P:Program)(w:World)(K:Frag)(mg:Str->Option Value)(base:Heap)(x m:Str)(k:Nat)(ps:List Str)(sp:Sp):Prop where
 ex:∃(C f:Addr) (fd:FuncData),mg x=some (.ref C)/\Dz K C m f/\aG P w K mg base bV k f fd ps sp/\dh K fd ps []
structure iR(P:Program)(w:World)(K:Frag)(mg:Str->Option Value)(base:Heap)(x:Str)(C:Addr)(k:Nat)(ps:List Str)(sp:Sp):Prop where
 ex:∃(f:Addr) (fd:FuncData),Mk K C f/\aG P w K mg base bV k f fd ps sp/\mg x=some (.ref C)/\dh K fd ps []
theorem eZ.up(d:eZ P w K mg base j f ps sp)(h:j<=k):eZ P w K mg base k f ps sp:=let ⟨fd,F,b,c⟩:=d.ex;⟨fd,F.mono h,b,c⟩
theorem aC.up(d:aC P w K mg base C m j ps sp)(h:j<=k):aC P w K mg base C m k ps sp:=let ⟨f,fd,a,F,c⟩:=d.ex;⟨d.cl,f,fd,a,F.mono h,c⟩
theorem iQ.up(d:iQ P w K mg base x m j ps sp)(h:j<=k):iQ P w K mg base x m k ps sp:=let ⟨C,f,fd,a,b,F,c⟩:=d.ex;⟨C,f,fd,a,b,F.mono h,c⟩
theorem iR.up(d:iR P w K mg base x C j ps sp)(h:j<=k):iR P w K mg base x C k ps sp:=let ⟨f,fd,a,F,b,c⟩:=d.ex;⟨f,fd,a,F.mono h,b,c⟩
theorem aC.imp{sp':Sp}(d:aC P w K mg base C m k ps sp)(h:∀vs H Q E,sp' vs H Q E->sp vs H Q E):aC P w K mg base C m k ps sp':=let ⟨f,fd,a,F,c⟩:=d.ex;⟨d.cl,f,fd,a,F.imp h,c⟩
def wU(P:Program)(w:World)(K:Frag)(mg:Str->Option Value)(base:Heap)(k:Nat)(m:Str)(ta:TE)(t:TA):TE:=λZ H Q=>ta Z H λx H1=>∃(a C dx:Addr) (fs:List (Str×V)) (ps:List Str) (sp:Sp),
 x=.ref a/\H1 a=some (.ins C dx fs)/\fs.lookup m=none/\aC P w K mg base C m k ps sp/\t Z H1 λvs H2=>sp (x::vs) H2 Q E0
def Bu(P:Program)(w:World)(K:Frag)(mg:Str->Option Value)(base:Heap)(k:Nat)(tf:TE)(t:TA):TE:=λZ H Q=>tf Z H λx H1=>∃(f:Addr) (ps:List Str) (sp:Sp),
 x=.ref f/\eZ P w K mg base k f ps sp/\t Z H1 λvs H2=>sp vs H2 Q E0
section
variable {apos:Pos} {o:Expr} {es:List Expr} {ta:TE} {t:TA}
theorem fc(P:Program)(w:World)(K:Frag)(mg:Str->Option Value)(base:Heap)(hr:dv k X.A)(he:PE X o ta)(ha:PA X (e::es) t)(e1:X.prog=P:=by rfl)(e2:X.w=w:=by rfl)(e3:X.K=K:=by rfl)(e4:X.mg=mg:=by rfl)(e5:X.base=base:=by rfl)
  (hst:starEach (e::es) X.env=(false,eval e X.env)::starEach es X.env:=by rfl) (hpl:(backTo pos (starEach es X.env)).any (·.1)=false:=by rfl)
  (ht:eval (.Call (.Attribute o m apos) (e::es) [] pos) X.env=(do
   let ov <-eval o X.env
   standAt apos.atName
   let (f,first) <-holding [ov] (getMethod ov m pl)
   callWith pos f first (backTo pos (starEach (e::es) X.env)) (backToKw pos (keywordEach [] X.env))):=by rfl) :
  PE X (.Call (.Attribute o m apos) (e::es) [] pos) (wU P w K mg base k m ta t):=by
 subst e1 e2 e3 e4 e5;intro pins s Z H Q I h;refine PySem.W.methodCall_KW (pl:=pl) (cH (he pins s Z H _ I h) λu s1 zq0=>?_) ht;obtain⟨x,H1,I1,rx,a,C,dx,fs,ps,sp,ex,ea,l,M,q⟩:=zq0;subst ex;obtain rfl:u=Value.ref a:=rx;obtain⟨f,fd,hm,F,hb⟩:=M.ex;refine nP I1 ea M.cl hm l ?_;refine PySem.W.callWith_K (first:=[.ref a]) (h₀:=X.base) I.ok.mod.kin hm.kp (cH (ha pos pins s1 Z H1 _ I1 q) λus s2 ⟨vs,H2,I2,r,q2⟩=>⟨I2.kIn,?_⟩) hst hpl;exact oF (us:=.ref a::us) (vs:=.ref a::vs) (dvs:=[]) (E:=E0) F hr hb .nil oz I2 (.cons rfl r) (by rw [ag5];exact q2)
theorem dX(P:Program)(w:World)(K:Frag)(mg:Str->Option Value)(base:Heap)(hr:dv k X.A)(he:PE X o ta)(e1:X.prog=P:=by rfl)(e2:X.w=w:=by rfl)(e3:X.K=K:=by rfl)(e4:X.mg=mg:=by rfl)(e5:X.base=base:=by rfl)
  (ht:eval (.Call (.Attribute o m apos) [] [] pos) X.env=(do
   let ov <-eval o X.env
   standAt apos.atName
   let (f,first) <-holding [ov] (getMethod ov m pl)
   callWith pos f first (backTo pos (starEach [] X.env)) (backToKw pos (keywordEach [] X.env))):=by rfl) :
  PE X (.Call (.Attribute o m apos) [] [] pos) (wU P w K mg base k m ta va):=by
 subst e1 e2 e3 e4 e5;intro pins s Z H Q I h;refine PySem.W.methodCall_KW (pl:=pl) (cH (he pins s Z H _ I h) λu s1 zq0=>?_) ht;obtain⟨x,H1,I1,rx,a,C,dx,fs,ps,sp,ex,ea,l,M,q⟩:=zq0;subst ex;obtain rfl:u=Value.ref a:=rx;obtain⟨f,fd,hm,F,hb⟩:=M.ex;refine nP I1 ea M.cl hm l ?_;exact PySem.W.callWith_K0 (first:=[.ref a]) I1.kIn hm.kp (oF (us:=[.ref a]) (vs:=[.ref a]) (dvs:=[]) (E:=E0) F hr hb .nil oz I1 (.cons rfl .nil) q)
theorem AQ(P:Program)(w:World)(K:Frag)(mg:Str->Option Value)(base:Heap)(hr:dv k X.A)(he:PE X o ta)(ha:PA X (e::es) t)(e1:X.prog=P:=by rfl)(e2:X.w=w:=by rfl)(e3:X.K=K:=by rfl)(e4:X.mg=mg:=by rfl)(e5:X.base=base:=by rfl)
  (hst:starEach (e::es) X.env=(false,eval e X.env)::starEach es X.env:=by rfl) (hpl:(backTo pos (starEach es X.env)).any (·.1)=false:=by rfl)
  (hev:eval (.Call o (e::es) [] pos) X.env=(do callWith pos (<-eval o X.env) [] (backTo pos (starEach (e::es) X.env)) (backToKw pos (keywordEach [] X.env))):=by rfl) :
  PE X (.Call o (e::es) [] pos) (Bu P w K mg base k ta t):=by
 subst e1 e2 e3 e4 e5;intro pins s Z H Q I h;refine Call_ (cH (he pins s Z H _ I h) λu s1 zq0=>?_) hev;obtain⟨x,H1,I1,rx,f,ps,sp,ex,M,q⟩:=zq0;subst ex;obtain rfl:u=Value.ref f:=rx;obtain⟨fd,F,hk,hb⟩:=M.ex;refine PySem.W.callWith_K (h₀:=X.base) I.ok.mod.kin hk (cH (ha pos pins s1 Z H1 _ I1 q) λus s2 ⟨vs,H2,I2,r,q2⟩=>⟨I2.kIn,?_⟩) hst hpl;exact oF (us:=us) (vs:=vs) (dvs:=[]) (E:=E0) F hr hb .nil oz I2 r (by rw [ag5];exact q2)
theorem dD(d:iQ X.prog X.w X.K X.mg X.base x m k ps sp)(hr:dv k X.A)(hg:Gl X x)(ha:PA X (e::es) t)(hdb:(x == ("__debug__":Str))=false:=by decide)
  (hst:starEach (e::es) X.env=(false,eval e X.env)::starEach es X.env:=by rfl) (hpl:(backTo pos (starEach es X.env)).any (·.1)=false:=by rfl)
  (ht:eval (.Call (.Attribute (.Name x p) m apos) (e::es) [] pos) X.env=(do
   let ov <-eval (.Name x p) X.env
   standAt apos.atName
   let (f,first) <-holding [ov] (getMethod ov m pl)
   callWith pos f first (backTo pos (starEach (e::es) X.env)) (backToKw pos (keywordEach [] X.env))):=by rfl) :
  PE X (.Call (.Attribute (.Name x p) m apos) (e::es) [] pos) (rH sp [] E0 t):=by
 obtain⟨C,f,fd,hm,c,F,hb⟩:=d.ex;intro pins s Z H Q I h;refine PySem.W.methodCall_KW (pl:=pl) (nj I hg hm ?_ hdb) ht;refine PySem.W.method_cls I.kIn c.ga (PySem.W.cls_value I.kIn c.rd c.at_ rfl ?_);have I1:=I.tok (s.toks+1);refine PySem.W.callWith_K (first:=[]) (h₀:=X.base) I.ok.mod.kin c.kp (cH (ha pos pins _ Z H _ I1 h) λus s2 ⟨vs,H2,I2,r,q2⟩=>⟨I2.kIn,?_⟩) hst hpl;exact oF (us:=us) (vs:=vs) F hr hb .nil oz I2 r q2
theorem iL(d:iR X.prog X.w X.K X.mg X.base x C k ps sp)(hr:dv (k+1) X.A)(hg:Gl X x)(ha:PA X (e::es) t)(hdb:(x == ("__debug__":Str))=false:=by decide)
  (he:starEach (e::es) X.env=(false,eval e X.env)::starEach es X.env:=by rfl) (hpl:(backTo pos (starEach es X.env)).any (·.1)=false:=by rfl) :
  PE X (.Call (.Name x p) (e::es) [] pos) (BB C sp [] E0 t):=
 let ⟨_,_,M,F,hm,hb⟩:=d.ex;C5 M F hr hg hm hb .nil oz ha hdb he hpl
end
def lj(K:Frag)(a:Addr)(D:List (Str×V)):Prop:=(a == sysModules)=false/\∃o es ep,K.lookup a=some o/\o.ExactDict/\o.data=.dict es ep/\KTD.Rows aP es.toList D
section
variable {prog:Program} {E:Value->Shared->Prop} {s:Shared} {k:Str} {tk:Tok}
theorem lj.typeIs(X:K.In s.heap)(T:lj K a D):s.TypeIs (.ref a) "dict":=let ⟨_,o,_,_,ho,hc,_⟩:=T;⟨o,X _ _ ho,hc.1⟩
theorem mC{Q:Option Value->Shared->Prop}(X:K.In s.heap)(T:lj K a D)(h1:∀d v,KTD.datumAt k D=some d->aP d v->Q (some v) { s with toks:=s.toks+1 })(h2:KTD.datumAt k D=none->Q none { s with toks:=s.toks+1 }):
  wpAny (model prog w) A (dictGet a (.str k tk)) Q E s:=by
 obtain⟨_,o,es,ep,ho,hc,hd,hr⟩:=T;have ho:=X _ _ ho;unfold dictGet
 try with_reducible refine ae3 ?_
 refine aa0 (wpAny_pyHash_str (aa0 (KTD.kt_dictFind_strs (s:={ s with toks:=s.toks+1 }) ho hd (by obtain⟨l⟩:=es;simpa using hr.exact) ?_)))
 have hq:Q (findBy (λk v=>v.isStr k) es k) { s with toks:=s.toks+1 }:=by
  have hf:findBy (λk v=>v.isStr k) es k=(es.toList.find? λe=>e.key.isStr k).map (·.val):=by
   obtain⟨l⟩:=es;simp [findBy]
  rw [hf]
  cases hat:KTD.datumAt k D with
  | some d=>obtain⟨v,hv,hfl⟩:=hr.find_some hat;rw [hv];exact h1 d v hat hfl
  | none=>rw [hr.find_none hat];exact h2 hat
 rw [findBy_of_findIdx?]at hq
 cases hi:es.findIdx? λe=>e.key.isStr k with
 | none=>rw [hi]at hq;exact aa6 hq
 | some i=>rw [hi]at hq;exact aa0 (al7 (s:={ s with toks:=s.toks+1 }) ho hd (aa6 hq))
theorem yH{Q:Value->Shared->Prop}(X:K.In s.heap)(T:lj K a D)(h:Q (.bool (!(KTD.datumAt k D).isSome)) { s with toks:=s.toks+1 }):wpAny (model prog w) A (compareOp .NotIn (.str k tk) (.ref a)) Q E s:=by
 have ty:=T.typeIs X;show wpAny _ _ (do return .bool (!(<-contains (.ref a) (.str k tk)))) Q E s;refine aa0 ?_;unfold contains
 try with_reducible refine ae3 ?_
 refine aa0 (ai4 ty F.slot_dict_contains.lookup ?_);show wpAny _ _ (if (some (Value.builtin "dict.__contains__") == some Value.none)=true then _ else _) _ E s;rw [if_neg (by rw [beq_builtin_none];exact ab3)]
 refine aa0 (wpAny_callSpecialUnlessNone?_slot (name:=Str.ofString "__contains__") ty F.slot_dict_contains
  (af6 F.slot_dict_contains ty F.entry_dict_contains ?_ (F.args_dict_contains_2 _ _)))
 show wpAny _ _ (dictGet a (.str k tk) >>= _) _ _ s;refine aa0 (mC X T (λd v ha _=>?_) λhn=>?_)
 ·rw [ha]at h
  show wpAny _ _ (ret (.bool true)) _ _ _;exact aa6 ⟨_,rfl,ae4 (aa6 h)⟩
 ·rw [hn]at h
  show wpAny _ _ (Builtin.Dict.pendingKey? a (.str k tk) >>= _) _ _ _;exact aa0 (wpAny_pendingKey_other T.1 (aa6 ⟨_,rfl,ae4 (aa6 h)⟩))
theorem Ab{value slice:Expr}{v:V}{Q:Value->Shared->Prop}(X:K.In s.heap)(T:lj K a D)(hv:KTD.datumAt k D=some v)(h:∀u,aP v u->Q u { s with toks:=s.toks+1 })
  (hs:subscripted slice false (.ref a) (.str k tk)=operate [.ref a,.str k tk] (getItem (.ref a) (.str k tk))) (hg:∀r,letTemporaryGo value (.ref a) r=pure Unit.unit) :
  wpAny (model prog w) A (subscriptTail value slice (.ref a) (.str k tk)) Q E s:=by
 have ty:=T.typeIs X;refine subscriptTail_builtin ty F.slot_dict_getitem.lookup ?_ hs hg;unfold getItem
 try with_reducible refine ae3 ?_
 refine aa0 (wpAny_sequenceKey ty ∅ ?_)
 refine aa0 (wpAny_callSpecial?_slot (name:=Str.ofString "__getitem__") ty F.slot_dict_getitem
  (af6 F.slot_dict_getitem ty F.entry_dict_getitem ?_ (F.args_dict_getitem_2 _ _)))
 show wpAny _ _ (dictGet a (.str k tk) >>= _) _ _ s;refine aa0 (mC X T (λd v' ha hr=>?_) λhn=>?_)
 ·rw [hv]at ha
  cases ha;exact aa6 ⟨v',rfl,aa6 (h v' hr)⟩
 ·rw [hv]at hn;cases hn
end
theorem vT(K:Frag)(h:X.K=K:=by rfl):dE X (compareOp .NotIn) (λx y H Q=>∃k a D,x=.str k/\y=.ref a/\lj K a D/\Q (.bl (!(KTD.datumAt k D).isSome)) H):=by
 subst h;rintro pins s Z H x y v u Q I rx ry ⟨k,a,D,rfl,rfl,T,q⟩;obtain⟨t,rfl⟩:=rx;cases ry;exact yH I.kIn T ⟨.bl _,H,I.tok _,rfl,q⟩
theorem AS(K:Frag){b:Expr}{ta tb:TE}(ha:PE X (.Name x p) ta)(hb:PE X b tb)(hs:w9 b)(hg:∀v r,letTemporaryGo (.Name x p) v r=pure Unit.unit:=by intro _ _;with_unfolding_all rfl)(h:X.K=K:=by rfl):
  PE X (.Subscript (.Name x p) b pos) (Fi (λx y H Q=>∃k a D v,x=.str k/\False\/x=.ref a/\y=.str k/\lj K a D/\KTD.datumAt k D=some v/\Q v H) ta tb):=by
 subst h;intro pins s Z H Q I h;refine Subscript_ (B8 ha hb I h λv u s2 x y H2 I2 rx ry q=>?_);obtain⟨k,a,D,z,q⟩:=q;rcases q with q | ⟨rfl,rfl,T,hv,q⟩
 ·exact q.2.elim
 cases rx;obtain⟨t,rfl⟩:=ry;exact Ab I2.kIn T hv (λu ru=>⟨z,H2,I2.tok _,ru,q⟩) (hs _ _) (hg _)
theorem su{a b:String}:(Str.ofString a=Str.ofString b)↔a=b:=by
 constructor
 ·intro h
  rw [Str.ofString_eq_toList,Str.ofString_eq_toList]at h
  have h1:(a.toList.map Char.toNat)=(b.toList.map Char.toNat):=by
   have:=congrArg (λs:Str=>s.cps.toList) h
   simpa using this
  have h2:a.toList=b.toList:=by
   refine List.map_inj_right (f:=Char.toNat) (λx y e=>?_) |>.mp h1
   exact Char.toNat_inj.mp e
  exact String.toList_inj.mp h2
 ·intro h;rw [h]
def EE:Option Int->V
 | none=>.non
 | some i=>.int i
def bh(us:List Int)(v:Int):Int:=us.getD (v - 1).toNat 0
theorem AA{us:List Int}{v:Int}(h1:1<=v)(h2:v<=us.length):fC (us.map V.int) (v - 1)=some (.int (bh us v)):=by
 obtain⟨k,hk⟩:=ae1 (show 0<=v - 1 by omega);rw [hk]
 have hl:k < us.length:=by omega
 refine aE ?_;rw [aa5,aa2 hl];simp [bh,hk,List.getD,aa2 hl]
structure bU where
 size:Int
 start:Int
 after:Int->Option (List Int)->List Int->Option Int
 closes:Int->Option (List Int)->Bool
def BV(K:Frag)(H:Hp)(nv:Nat)(b:Option (List Int))(x:V):Prop:=(b=none/\x=.non)\/∃a us,b=some us/\x=.ref a/\cT K H a (us.map V.int)/\us.length=nv
theorem BV.same{H':Hp}{nv:Nat}{b:Option (List Int)}{x:V}(s:ar H H')(h:BV K H nv b x):BV K H' nv b x:=by
 rcases h with h | ⟨a,us,h1,h2,h3,h4⟩
 ·exact .inl h
 ·exact .inr ⟨a,us,h1,h2,s.tup h3,h4⟩
abbrev mP:=Addr->Hp->Prop
def pd(RI:mP)(v:V):Sp:=λvs H Q _=>∃r,vs=[.ref r]/\RI r H/\Q v H
def bB(K:Frag)(nv:Nat)(RI:mP)(S:bU)(G:Int->Prop):Sp:=λvs H Q _=>∃r m x c b us,vs=[.ref r,.int m,x,.ref c]/\RI r H/\G m/\BV K H nv b x/\cT K H c (us.map V.int)/\us.length=nv/\Q (EE (S.after m b us)) H
def dR(K:Frag)(nv:Nat)(RI:mP)(S:bU)(G:Int->Prop):Sp:=λvs H Q _=>∃r m x b,vs=[.ref r,.int m,x]/\RI r H/\G m/\BV K H nv b x/\Q (.bl (S.closes m b)) H
structure bp(P:Program)(w:World)(K:Frag)(mg:Str->Option Value)(base:Heap)(k:Nat)(nv:Nat)(C:Addr)(S:bU)(RI:mP)(G:Int->Prop):Prop where
 mono:∀r H H',ar H H'->RI r H->RI r H'
 ins:∀r H,RI r H->∃dx fs,H r=some (.ins C dx fs)/\fs.lookup (Str.ofString "size")=none/\fs.lookup (Str.ofString "start")=none/\fs.lookup (Str.ofString "after")=none/\fs.lookup (Str.ofString "closes")=none/\fs.lookup (Str.ofString "shown")=none
 g0:G S.start
 gS:∀m b us m',G m->S.after m b us=some m'->G m'
 size:aC P w K mg base C "size" k ["self"] (pd RI (.int S.size))
 start:aC P w K mg base C "start" k ["self"] (pd RI (.int S.start))
 after:aC P w K mg base C "after" k ["self","memory","before","column"] (bB K nv RI S G)
 closes:aC P w K mg base C "closes" k ["self","memory","last"] (dR K nv RI S G)
theorem bp.up{nv:Nat}{S:bU}{RI:mP}{G:Int->Prop}(R:bp P w K mg base j nv C S RI G)(h:j<=k):bp P w K mg base k nv C S RI G:=
 ⟨R.mono,R.ins,R.g0,R.gS,R.size.up h,R.start.up h,R.after.up h,R.closes.up h⟩
structure fQ(z kind:Str)(ns:List Int):Prop where
 cs:z.cps.toList=dy 32 (kind.cps.toList::ns.map ia)
 nb:∀n∈ns,n.natAbs < 10 ^ 40
 nl:ns.length<=20
 ks:32∉kind.cps.toList
 kl:kind.length<=20
 k0:kind.cps.toList≠[]
theorem nk(n:Int):32∉ia n:=λh=>by
 have:=n8 n 32 h
 omega
theorem Dw{y:Str}(h:x.cps.toList=y.cps.toList):x=y:=by
 have:=kX x y
 rw [decide_eq_true h]at this;exact of_decide_eq_true this
theorem eV:∀{xs ys:List Str},xs.map (λz=>z.cps.toList)=ys.map (λz=>z.cps.toList)->xs=ys
 | [],[],_=>rfl
 | [],_::_,h=>by simp at h
 | _::_,[],h=>by simp at h
 | x::xs,y::ys,h=>by
  rw [ad5,ad5]at h
  injection h with h1 h2
  rw [Dw h1,eV h2]
def ba(n:Int):Str:=Str.ofString (toString n)
theorem fQ.split(R:fQ z kind ns):Txt.split z ⟨#[32]⟩=kind::ns.map ba:=by
 refine eV ?_;rw [jo z ∅,R.cs,pj 32 _ (by simp) (λp hp=>?_),ad5,ai6]
 ·rfl
 ·rcases ab0.mp hp with rfl | hp
  ·exact R.ks
  ·obtain⟨n,_,rfl⟩:=ac4.mp hp
   exact nk n
theorem ju(c:Nat):∀(ps:List (List Nat)) (m:Nat),(∀p∈ps,p.length<=m)->(dy c ps).length<=ps.length * (m+1)
 | [],_,_=>by simp [dy]
 | p::ps,m,h=>by
  have h1:=h p (by simp);have h2:=ju c ps m (λq hq=>h q (by simp [hq]))
  have h3:(dy c (p::ps)).length<=p.length+1+(dy c ps).length:=by
   cases ps with
   | nil=>simp [dy]
   | cons q ps=>
    simp [dy,ab2];omega
  rw [ac7,al2];omega
theorem fQ.len(R:fQ z kind ns):z.length<=10000:=by
 rw [aY,R.cs]
 have h:=ju 32 (kind.cps.toList::ns.map ia) 60 (λp hp=>by
  rcases ab0.mp hp with rfl | hp
  ·have:=R.kl;rw [aY]at this;omega
  ·obtain⟨n,hn,rfl⟩:=ac4.mp hp
   have:=fX (n:=n) (k:=40) ∅ (R.nb n hn)
   omega)
 have:=R.nl
 simp only [ac7,aa1]at h;omega
theorem wK(z y:Str){c:Nat}(hy:y.cps.toList.head?=some c)(hz:z.cps.toList.head?≠some c):Txt.startswith z y=false:=by
 obtain⟨⟨l⟩⟩:=z;obtain⟨⟨m⟩⟩:=y
 unfold Txt.startswith
 rw [StrLaws.subAt_eq]
 cases m with
 | nil=>simp at hy
 | cons b m=>
  cases l with
  | nil=>simp [Str.length]
  | cons a l=>
   simp at hy hz;subst hy;simp [Str.length];intro _ h;exact absurd h hz
theorem fQ.head(R:fQ z kind ns):z.cps.toList.head?=kind.cps.toList.head?:=by
 rw [R.cs]
 cases e:kind.cps.toList with
 | nil=>exact absurd e R.k0
 | cons a l=>
  cases ns with
  | nil=>simp [dy]
  | cons n ns=>simp [dy]
theorem AU:PE X e (λ_ _ _=>False):=λ_ _ _ _ _ _ h=>h.elim
theorem di(xs:List V)(k:Nat):lB xs (some (k:Int)) none=xs.drop k:=by
 unfold lB;rw [HT.sIx_nat,HT.sIx_none]
 by_cases h:k<=xs.length
 ·rw [an1 h,ah6 (by rw [ak4];omega)]
 ·rw [am2 (),List.drop_of_length_le (aa7 _),List.drop_of_length_le (),List.take_nil]
theorem eU(xs:List V)(k:Nat):lB xs none (some (k:Int))=xs.take k:=by
 unfold lB HT.sIx
 have e:¬((k:Int) < 0):=by omega
 simp [e]
theorem t9(i:Int):∀D:List Int,DL (.int i) (D.map V.int)=decide (i∈D)
 | []=>rfl
 | d::D=>by
  have ih:=t9 i D
  have e:DL (.int i) ((d::D).map V.int)=((d == i) || DL (.int i) (D.map V.int)):=rfl
  rw [e,ih,ah1,ap7,beq_iff_eq,decide_eq_true_eq,decide_eq_true_eq,ab0];exact⟨λh=>h.imp Eq.symm id,λh=>h.imp Eq.symm id⟩
theorem gY{D:List Int}(h:aF K H a (D.map V.int))(q:Q (.bl (decide (i∈D))) H):yY K (.int i) (.ref a) H Q:=by
 refine .inr ⟨a,_,rfl,.inl h,rfl,?_,?_⟩
 ·rw [an6];exact ak5.mpr λ_ _=>rfl
 ·rw [t9];exact q
theorem aF.at_ins{q x dx:Addr}{fs:List (Str×V)}{o:HO}(h:aF K H q xs)(hx:H x=some (.ins C dx fs)):aF K (upd H x o) q xs:=by
 rcases h with(h | ⟨u,h⟩) | h
 ·exact .inl (.inl (by rw [aj (da h hx (by intro z;cases z))];exact h))
 ·exact .inl (.inr ⟨u,by rw [aj (da h hx (by intro z;cases z))];exact h⟩)
 ·exact .inr h
theorem fj{x l:Addr}{A L B:HO}:upd (upd (upd H x A) l L) x B=upd (upd H l L) x B:=by
 funext b
 unfold upd
 by_cases h:b=x
 ·rw [if_pos h,if_pos h]
 ·rw [if_neg h,if_neg h,if_neg h]
structure aT(K:Frag)(C:Addr)(m qual:Str)(st:Stmt)(f:Addr)(fd:FuncData):Prop where
 me:Ec K C m f
 fn:cc K m qual st f fd
theorem methAt_mk(a:findIn K (.ref C) m=some (some (.ref f)))(i:PySem.W.isFn K (.ref f)=true)
  (l:K.lookup f=some ⟨oc,od,.func (fnOf m qual (cz st) (bY st) (ak st) .none kV doc pm an cdv ct),osl⟩) (c:codeIn K cdv qual=true) (k:keepIn K (.ref f)=true):∃f fd,aT K C m qual st f fd:=
 ⟨f,_,⟨a,i,k⟩,fun_mk l c k⟩
theorem aT.ok(A:aT K C m qual st f fd)(cl:vc K C)(ok:aG P w K mg base bV k f fd ps sp)(b:dh K fd ps []):aC P w K mg base C m k ps sp:=⟨cl,f,fd,A.me,ok,b⟩
structure j5(K:Frag)(x m qual:Str)(st:Stmt)(C f:Addr)(fd:FuncData):Prop where
 ns:nsIn K mainGlobals x=some (some (.ref C))
 cm:Dz K C m f
 fn:cc K m qual st f fd
theorem cmethAt_mk(n:nsIn K mainGlobals x=some (some (.ref C)))(r:PySem.W.readsIn K C (.type "type")=true)(a:PySem.W.findCls K (.ref C) (.type "type") m=some (.val (.ref f)))
  (g:PySem.W.specialIn K (.ref C) "__getattribute__"=some (some (.builtin "type.__getattribute__")))
  (l:K.lookup f=some ⟨oc,od,.func (fnOf m qual (cz st) (bY st) (ak st) .none kV doc pm an cdv ct),osl⟩) (c:codeIn K cdv qual=true) (k:keepIn K (.ref f)=true):∃C f fd,j5 K x m qual st C f fd:=
 ⟨C,f,_,n,⟨r,a,g,k⟩,fun_mk l c k⟩
theorem j5.df{h:Heap}(A:j5 K x m qual st C f fd)(X:K.In h)(G:h.Ns mainGlobals mg)(ok:aG P w K mg base bV k f fd ps sp)(b:dh K fd ps []):iQ P w K mg base x m k ps sp:=
 ⟨C,f,fd,mg_of X G A.ns,A.cm,ok,b⟩
structure jC(K:Frag)(x qual:Str)(st:Stmt)(C f:Addr)(fd:FuncData):Prop where
 ns:nsIn K mainGlobals x=some (some (.ref C))
 mm:Mk K C f
 fn:cc K "__init__" qual st f fd
theorem mkAt_mk(n:nsIn K mainGlobals x=some (some (.ref C)))(mk:PySem.W.makesIn K C=true)(a:findIn K (.ref C) "__init__"=some (some (.ref f)))(i:PySem.W.isFn K (.ref f)=true)(kc:keepIn K (.ref C)=true)
  (l:K.lookup f=some ⟨oc,od,.func (fnOf "__init__" qual (cz st) (bY st) (ak st) .none kV doc pm an cdv ct),osl⟩) (c:codeIn K cdv qual=true) (k:keepIn K (.ref f)=true):∃f fd,jC K x qual st C f fd:=
 ⟨f,_,n,⟨mk,a,i,kc⟩,fun_mk l c k⟩
theorem jC.df{h:Heap}(A:jC K x qual st C f fd)(X:K.In h)(G:h.Ns mainGlobals mg)(ok:aG P w K mg base bV k f fd ps sp)(b:dh K fd ps []):iR P w K mg base x C k ps sp:=
 ⟨f,fd,A.mm,ok,mg_of X G A.ns,b⟩
theorem lG(c:Nat)(a b:List Nat)(ps:List (List Nat)):dy c (a::b::ps)=a++c::dy c (b::ps):=by simp [dy]
theorem Dx{n:Int}(h:n.natAbs < 10 ^ 40):n.natAbs.log2 < 1920:=by
 by_cases h0:n.natAbs=0
 ·rw [h0];decide
 ·exact(aq1 h0).mpr (ab6 h (by decide +kernel))
theorem dC{n:Int}(h:n.natAbs < 10 ^ 40):(ba n).length<=41:=by
 rw [aY];exact fX (n:=n) (k:=40) ∅ h
theorem mw:∀(ys:List Str) (m:Nat),(∀y∈ys,y.length<=m)->(ys.map (·.length)).sum<=ys.length * m
 | [],_,_=>by simp
 | y::ys,m,h=>by
  have h1:=h y (by simp);have h2:=mw ys m (λz hz=>h z (by simp [hz]));rw [ad5,List.sum_cons,ac7,al2];omega
theorem rowsR{e:DictEntry}{t:Tok}{es:List DictEntry}(h1:e.key=.str x t)(h2:e.val=.ref f)(r:KTD.Rows aP es D):KTD.Rows aP (e::es) ((x,V.ref f)::D):=.cons h1 h2 r
theorem tab_mk{es:Array DictEntry}{ep:Nat}(l:K.lookup a=some o)(s:(a == sysModules)=false)(x:o.cls=.type "dict")(y:o.dict=none)(z:o.slots=#[])(d:o.data=.dict es ep)(r:KTD.Rows aP es.toList D):lj K a D:=⟨s,o,es,ep,l,⟨x,y,z⟩,d,r⟩
theorem defAtD_mk2{v:V}(a:nsIn K mainGlobals x=some (some (.ref f)))
  (l:K.lookup f=some ⟨oc,od,.func (fnOf x x (cz st) (bY st) (ak st) (.ref T) kV doc pm an cdv ct),osl⟩) (c:codeIn K cdv x=true) (k:keepIn K (.ref f)=true)
  (t:K.lookup T=some o) (d:o.data=.seq #[u] n) (r:aP v u):∃f fd u,rO K x st f fd u/\aP v u:=
 ⟨f,_,u,⟨a,T,o,n,⟨⟨oc,od,kV,doc,pm,an,cdv,ct,osl,rfl,l,c⟩,k⟩,t,d⟩,r⟩
theorem pL:cM X (.type "str") (λxs H Q=>∃z,xs=[.str z]/\Q (.str z) H):=by
 rintro pins s Z H xs us Q I r ⟨z,rfl,q⟩;obtain⟨u,rfl,ru⟩:=dZ r;obtain⟨t,rfl⟩:=ru;exact P.str_of_str ⟨.str z,H,I,⟨t,rfl⟩,q⟩
def v7:List V->Hp->VK->Prop:=λxs H Q=>(∃i,xs=[.int i]/\i.natAbs.log2 < 1920/\Q (.str (ba i)) H)\/∃z,xs=[.str z]/\Q (.str z) H
theorem lu:cM X (.type "str") v7:=call_str_int.or pL
theorem A8:v7 [.int i] H Q↔i.natAbs.log2 < 1920/\Q (.str (ba i)) H:=by simp [v7]
theorem E8:v7 [.str z] H Q↔Q (.str z) H:=by simp [v7]
theorem Bd(nb:∀n∈ns,n.natAbs < 10 ^ 40)(nl:ns.length<=20)(ks:32∉kind.cps.toList)(kl:kind.length<=20)(k0:kind.cps.toList≠[]):fQ (Txt.join (Str.ofString " ") (kind::ns.map ba)) kind ns:=by
 have e32:(Str.ofString " ")=⟨#[32]⟩:=by decide +kernel
 refine⟨?_,nb,nl,ks,kl,k0⟩;rw [e32,dU,ad5,ai6];rfl
end L2
namespace L3
open PySem PySem.Spec PyProof.Rows
section
variable {prog:Program} {w:World} {A:Around} {E:Value->Shared->Prop} {s:Shared}
end
end L3
namespace L2
open PySem PySem.Spec PyProof.Rows
def G9(K:Frag)(n:Nat)(t:BX):TG:=λv Z H Q=>∃a l xs,v=.ref a/\gP K l H a xs/\xs.length=n/\t xs Z H Q
theorem BQ{K:Frag}{H:Hp}{n:Nat}{a c:Addr}{l:Bool}{xs:List V}(h1:gP K l H a xs)(h2:gP K l H c []):zu K H n (.ref a) (.ref c) (xs.length == 0):=by
 refine⟨a,c,l,xs,[],λ_=>true,rfl,rfl,h1,h2,λj x y _ hy=>(by simp at hy),?_⟩;simp
theorem A5{K:Frag}{H:Hp}{a c:Addr}{l:Bool}{xs:List V}{Q:VK}(h1:gP K l H a xs)(h2:gP K l H c [])(q:Q (.bl (xs.length == 0)) H):lN K (.ref a) (.ref c) H Q:=.inr ⟨_,BQ h1 h2,q⟩
theorem lq{α:Type}{xs:List α}{v:α}{n:Nat}(hl:xs.length=n+1)(h:xs[n]?=some v):fC xs (-1)=some v:=by
 unfold fC Ac;rw [if_neg ∅,if_pos (),hl];show xs[((-1:Int)+((n+1:Nat):Int)).toNat]?=some v;rw [show((-1:Int)+((n+1:Nat):Int)).toNat=n by omega];exact h
section
variable {X:Cx} {e st:Expr} {te:TE} {p2 pos:Pos}
def Hj(K:Frag)(te ts:TE):TE:=λZ H Q=>te Z H λx H1=>ts Z H1 λy H2=>y=.int (-1)/\∃a xs,x=.ref a/\aF K H2 a xs/\∀p,H2 p=none->Q (.ref p) (upd H2 p (.lst xs.reverse))
end
theorem Bc{x kind:Str}{a b:Int}(hx:x.cps.toList=kind.cps.toList++[32])(na:a.natAbs < 10 ^ 40)(nb:b.natAbs < 10 ^ 40)(ks:32∉kind.cps.toList)(kl:kind.length<=20)(k0:kind.cps.toList≠[]):fQ (x++ba a++Str.ofString " " ++ ba b) kind [a,b]:=by
 refine⟨?_,λn hn=>?_,by simp,ks,kl,k0⟩
 ·have e32:(Str.ofString " ").cps.toList=[32]:=by decide +kernel
  have ea:∀u v:Str,(u++v).cps.toList=u.cps.toList++v.cps.toList:=λu v=>by
   show(u.cps++v.cps).toList=_;rw [ah4]
  rw [ea,ea,ea,hx,e32];simp only [ad5,aj1,dy];simp;rfl
 ·rcases ab0.mp hn with rfl | hn
  ·exact na
  ·rw [ac3.mp hn];exact nb
end L2
namespace L3
open PySem PySem.Spec PyProof.Rows L2 HT
section
variable {prog:Program} {w:World} {A:Around} {E:Value->Shared->Prop} {s:Shared}
theorem cat_tup0{t b:Addr}{ws:List Value}{Q:Value->Shared->Prop}(ht:IsTup s.heap t (List.toArray []))(hb:IsTup s.heap b ws.toArray)
  (h1:Q (.ref b) s):wpAny (model prog w) A (binaryOp .Add (.ref t) (.ref b)) Q E s:=by
 obtain⟨⟨cls,dd,data,sl⟩,ho,hc,n,hd⟩:=id ht;obtain⟨⟨cls2,dd2,data2,sl2⟩,ho2,hc2,n2,hd2⟩:=id hb;simp only at hc hd hc2 hd2;subst hc hd hc2 hd2
 exact concat_meets ⟨_,ho,rfl⟩ ⟨_,ho2,rfl⟩ noFill_tuple_add seq_tuple_add PySem.F.slot_tuple_add PySem.F.entry_tuple_add (PySem.F.args_tuple_add_2 _ _)
   (tuple_addW0 t b #[] ws.toArray n n2 dd dd2 sl sl2 (by simp)) ⟨ho,ho2,h1⟩
end
end L3
namespace L2
open PySem PySem.Spec PyProof.Rows
variable {A:Around} {D:iS} {E:Value->Shared->Prop} {H:Hp} {K:Frag} {Q:VK} {R:Result->Shared->Prop} {X:Cx} {a r:Addr} {i j t u:Int} {kf:Nat->List Int} {n:Nat} {prog:Program} {rest z:Str} {s:Shared} {v:Tok} {w:World} {x y:V} {xs:List V}
def A4(K:Frag):R2:=λx y H Q=>∃a b ys,x=.ref a/\y=.ref b/\cT K H a []/\cT K H b ys/\Q (.ref b) H
theorem CY:dE X (binaryOp .Add) (A4 X.K):=by
 rintro pins s Z H x y v u Q I rx ry ⟨a,b,ys,rfl,rfl,ha,hb,q⟩;cases rx;cases ry;obtain⟨its,r1,p1,_⟩:=I.tuple ha;obtain⟨its2,r2,p2,_⟩:=I.tuple hb;cases r1;exact L3.cat_tup0 p1 p2 ⟨.ref b,H,I,rfl,q⟩
def i8(K:Frag):R2:=λx y H Q=>eC K x y H Q\/A4 K x y H Q
theorem EJ(K:Frag)(h:X.K=K:=by rfl):dE X (binaryOp .Add) (i8 K):=by
 subst h;exact opAdd.or CY
theorem A3{K:Frag}:i8 K (.int i) (.int j) H Q↔Q (.int (i+j)) H:=by
 simp [i8,rAddA_ii,A4]
theorem Ae(K:Frag):nU (i8 K)=i8 K:=xt λ_ _ _ _=>A3
theorem Cw{K:Frag}:nU (i8 K) x y H Q↔i8 K x y H Q:=by rw [Ae]
theorem xw(K:Frag)(h:X.K=K:=by rfl):dE X (binaryOp .Add) (nU (i8 K)):=by rw [Ae];exact EJ K h
theorem uG{K:Frag}{b:Addr}{ys:List V}(ha:H a=some (.tup xs))(hb:H b=some (.tup ys))(hz:xs.length+ys.length<=sizeLine)(q:∀p H',ar H H'->H' p=some (.tup (xs++ys))->Q (.ref p) H'):i8 K (.ref a) (.ref b) H Q:=by
 by_cases hx:xs=[]
 ·subst hx
  exact .inr ⟨a,b,ys,rfl,rfl,cT.of ha,cT.of hb,q b H (ar.refl H) hb⟩
 ·refine .inl (.inr (.inr (.inr ⟨a,b,xs,ys,rfl,rfl,cT.of ha,cT.of hb,hx,hz,λe=>?_,λ_ p hp=>q p _ (aq hp) ae⟩)))
  subst e;exact q a H (ar.refl H) (by rw [ag5];exact ha)
def Itd(lo:Int)(n:Nat):It:=⟨λi _=>i < n,λi H x H'=>H'=H/\x=.int (lo - i),λi _=>n<=i⟩
section
variable {tg:Expr}
def FU(ta:TA):TI:=λZ H R=>ta Z H λvs H1=>∃i j:Int,vs=[.int i,.int j,.int (-1)]/\(-(2 ^ 62)<=i/\i < 2 ^ 62/\-(2 ^ 62)<=j/\j < 2 ^ 62)/\R (Itd i (i - j).toNat) H1
end
theorem gN:∀{ns:List Int} {us:List Value},aU (ns.map V.int) us->∃ps:List (Int×Tok),us=ps.map (λp=>Value.int p.1 p.2)/\ps.map (·.1)=ns
 | [],_,.nil=>⟨[],rfl,rfl⟩
 | n::ns,_,.cons r t=>by
  obtain⟨ps,e1,e2⟩:=gN t;obtain⟨tk,rfl⟩:=r;exact⟨(n,tk)::ps,by rw [e1];rfl,by rw [<-e2];rfl⟩
theorem yc(hc:X.calm=true)(K:Frag)(hK:X.K=K:=by rfl):cM X (.builtin "min") (λxs H Q=>∃p ns,xs=[.ref p]/\aF K H p (List.map V.int ns)/\ns≠[]/\∀i∈ns,Q (.int i) H):=by
 subst hK;rintro pins s Z H xs us Q I r ⟨p,ns,rfl,hp,hne,q⟩;obtain⟨u,rfl,ru⟩:=dZ r;cases ru;obtain⟨its,rv,ht,_⟩:=I.list hp;obtain⟨ps,e1,e2⟩:=gN rv
 have hl:s.heap.IsList p (intItems ps.toArray):=by
  have:=ht.isList
  rw [e1]at this;simpa [intItems]using this
 refine min_intList (I.ok.hd hc) hl (by
  rw [ab4]
  have:ps.length=ns.length:=by rw [<-e2,aa1]
  have:ns.length≠0:=λz=>hne (ag3.mp z)
  omega) λv h' tk hv hk=>?_
 simp only [intItems,List.map_toArray,List.getElem?_toArray,aa5,Option.map_eq_some_iff]at hv;obtain⟨⟨a,t⟩,ha,rfl⟩:=hv;refine⟨.int a,H,I.kept (t':=tk) λb o e=>hk b o e,⟨t,rfl⟩,q a ?_⟩;rw [<-e2];exact List.mem_map_of_mem (f:=λp:Int×Tok=>p.1) (ab8 ha)
def gM(c:Nat):Nat->List Nat->List (List Nat)
 | 0,l=>[l]
 | _+1,[]=>[[]]
 | n+1,a::l=>if a=c then []::gM c n l else match gM c (n+1) l with
  | []=>[[a]]
  | p::r=>(a::p)::r
theorem tI(c:Nat):∀n l,gM c n l≠[]
 | 0,l=>by simp [gM]
 | n+1,[]=>by simp [gM]
 | n+1,a::l=>by
  simp only [gM]
  split
  ·simp
  ·split<;>simp
theorem jv(x:Str)(c:Nat)(lim:Nat):∀(l:List Nat) (i:Nat) (acc:Array Nat) (fr:Nat),x.cps.toList.drop i=l->fr<=i->
  (forIn (List.range' i (l.length+1)) (acc,fr) (StrLaws.occBody x ⟨#[c]⟩ x.length lim)).run.fst.toList=acc.toList++(dP c l i).take (lim - acc.size)
 | [],i,acc,fr,hl,hf=>by
  have hi:x.length<=i:=by
   rw [aY];exact ak0.mp hl
  show(forIn [i] (acc,fr) _:Id _).run.fst.toList=_;rw [ag2];unfold StrLaws.occBody;rw [if_neg (by intro h;have:=h.1.2;have e1:(⟨#[c]⟩:Str).length=1:=rfl;rw [e1]at this;omega)];show acc.toList=_;simp [dP]
 | b::l,i,acc,fr,hl,hf=>by
  have hb:x.cps.toList[i]?=some b:=by
   have:(x.cps.toList.drop i)[0]?=some b:=by rw [hl];rfl
   rwa [ai0,ap2]at this
  have hi:i < x.length:=by
   rw [aY];obtain⟨h,_⟩:=aa3.mp hb;exact h
  have hd:x.cps.toList.drop (i+1)=l:=by
   rw [<-al6,hl];rfl
  have e1:(⟨#[c]⟩:Str).length=1:=rfl;show(forIn (i::List.range' (i+1) (l.length+1)) (acc,fr) _:Id _).run.fst.toList=_;rw [ag2];unfold StrLaws.occBody
  by_cases hc:b=c
  ·by_cases hs:acc.size < lim
   ·rw [if_pos ⟨⟨⟨hs,hf⟩,by rw [e1];omega⟩,((StrLaws.subAt_one x c i).mpr (by rw [hb,hc])).2⟩]
    show(forIn (List.range' (i+1) (l.length+1)) (acc.push i,i+1) (StrLaws.occBody x ⟨#[c]⟩ x.length lim):Id _).run.fst.toList=_;rw [jv x c lim l (i+1) _ _ hd (aa7 _),ap8];simp only [dP,hc,if_true];rw [show lim - acc.size=(lim - (acc.size+1))+1 by omega,List.take_succ_cons];simp
   ·rw [if_neg (λh=>hs h.1.1.1)]
    show(forIn (List.range' (i+1) (l.length+1)) (acc,fr) (StrLaws.occBody x ⟨#[c]⟩ x.length lim):Id _).run.fst.toList=_;rw [jv x c lim l (i+1) _ _ hd ()];rw [show lim - acc.size=0 by omega];simp
  ·rw [if_neg (λh=>hc (by have:=(StrLaws.subAt_one x c i).mp ⟨h.1.2,h.2⟩;rw [hb]at this;exact Option.some.inj this))]
   show(forIn (List.range' (i+1) (l.length+1)) (acc,fr) (StrLaws.occBody x ⟨#[c]⟩ x.length lim):Id _).run.fst.toList=_;rw [jv x c lim l (i+1) _ _ hd ()];simp [dP,hc]
theorem AB(x:Str)(c n:Nat):Builtin.Str.occurrences x ⟨#[c]⟩ 0 x.length n=(dP c x.cps.toList 0).take n:=by
 rw [StrLaws.occ_eq]
 have e:x.length+1 - 0=x.cps.toList.length+1:=by rw [aY];rfl
 rw [e];have h:=jv x c n x.cps.toList 0 #[] 0 rfl (aa7 _);rw [h];rfl
theorem i7(x:Str)(c:Nat):∀(l:List Nat) (n a j:Nat),a<=j->x.cps.toList.drop j=l->j<=x.length->
  (StrLaws.partsFrom x 1 a ((dP c l j).take n)).map (λz=>z.cps.toList)=match gM c n l with
   | []=>[]
   | p::r=>((x.cps.toList.drop a).take (j - a)++p)::r
 | l,0,a,j,haj,hl,hj=>by
  simp only [List.take_zero,gM,StrLaws.partsFrom,ad5,aj1,StrLaws.strSub_toList];congr 1;rw [ah6 (by rw [ak4,aY];omega)]
  have:=List.take_append_drop (j - a) (x.cps.toList.drop a)
  rw [al6,show a+(j - a)=j by omega,hl]at this;exact this.symm
 | [],n+1,a,j,haj,hl,hj=>by
  have hj':x.length<=j:=by rw [aY];exact ak0.mp hl
  have e:j=x.length:=by omega
  subst e;simp [dP,gM,StrLaws.partsFrom,StrLaws.strSub_toList]
 | b::l,n+1,a,j,haj,hl,hj=>by
  have hb:x.cps.toList[j]?=some b:=by
   have:(x.cps.toList.drop j)[0]?=some b:=by rw [hl];rfl
   rwa [ai0,ap2]at this
  have hi:j < x.length:=by
   rw [aY];obtain⟨h,_⟩:=aa3.mp hb;exact h
  have hd:x.cps.toList.drop (j+1)=l:=by
   rw [<-al6,hl];rfl
  by_cases hc:b=c
  ·have ih:=i7 x c l n (j+1) (j+1) (aa7 _) hd hi
   simp only [dP,hc,if_true,List.take_succ_cons,StrLaws.partsFrom,ad5,gM,ag5];rw [ih]
   cases hs:gM c n l with
   | nil=>exact absurd hs (tI c n l)
   | cons p r=>simp [StrLaws.strSub_toList]
  ·have ih:=i7 x c l (n+1) a (j+1) () hd hi
   simp only [dP,hc,if_false,gM];rw [ih]
   cases hs:gM c (n+1) l with
   | nil=>exact absurd hs (tI c (n+1) l)
   | cons p r=>
    have ht:(x.cps.toList.drop a).take (j+1 - a)=(x.cps.toList.drop a).take (j - a)++[b]:=by
     have e1:j+1 - a=(j - a)+1:=by omega
     rw [e1,ac5,ai0]
     have e2:a+(j - a)=j:=by omega
     rw [e2,hb];rfl
    simp [ht]
theorem kW(c n:Nat)(rest:List Nat):∀(p:List Nat),c∉p->gM c (n+1) (p++c::rest)=p::gM c n rest
 | [],_=>by simp [gM]
 | a::p,h=>by
  have h1:¬a=c:=λe=>h (by simp [e]);have ih:=kW c n rest p (λe=>h (by simp [e]));show gM c (n+1) (a::(p++c::rest))=_;simp only [gM,h1,if_false];rw [ih]
theorem uE(c:Nat)(rest:List Nat):∀(p:List Nat) (i:Nat),dP c (p++c::rest) i≠[]
 | [],i=>by simp [dP]
 | a::p,i=>by
  show dP c (a::(p++c::rest)) i≠[];simp only [dP]
  split
  ·simp
  ·exact uE c rest p (i+1)
def i6(z:Str)(c k:Nat):List Str:=Builtin.Str.partsBetween z ((dP c z.cps.toList 0).take k) 1
theorem sO(z:Str)(c k:Nat):(i6 z c k).map (λy=>y.cps.toList)=gM c k z.cps.toList:=by
 unfold i6;rw [StrLaws.partsBetween_eq,i7 z c z.cps.toList k 0 0 (aa7 _) rfl (ac1 _)]
 cases hs:gM c k z.cps.toList with
 | nil=>exact absurd hs (tI c k _)
 | cons p r=>simp
theorem yF:BU X "str.split" (λx xs H Q=>∃z c k,x=.str z/\xs=[.str ⟨#[c]⟩,.int k]/\c < 256/\0 < k/\k < 2 ^ 30/\dP c z.cps.toList 0≠[]/\z.length < sizeLine/\(i6 z c k.toNat).length<=sizeLine/\∀p,H p=none->Q (.ref p) (upd H p (.lst ((i6 z c k.toNat).map V.str)))):=by
 rintro pins s Z H x xs v us Q I rx r ⟨z,c,k,rfl,rfl,hc,k0,k1,hne,hz,hlen,q⟩;obtain⟨t,rfl⟩:=rx;obtain⟨u,u2,rfl,⟨t',rfl⟩,⟨t2,rfl⟩⟩:=rK r
 have ek:Builtin.Str.strKind ⟨#[c]⟩=1:=by simp [Builtin.Str.strKind,hc]
 have ek2:1<=Builtin.Str.strKind z:=by unfold Builtin.Str.strKind;split<;>(try split)<;>omega
 have hzl:1<=z.length:=by
  rw [aY]
  cases hz':z.cps.toList with
  | nil=>rw [hz']at hne;exact absurd rfl hne
  | cons a l=>simp
 have h1:(decide (z.length < (⟨#[c]⟩:Str).length) || decide (Builtin.Str.strKind z < Builtin.Str.strKind ⟨#[c]⟩))=false:=by
  rw [ek];have e1:(⟨#[c]⟩:Str).length=1:=rfl;rw [e1,decide_eq_false (),decide_eq_false ()];rfl
 have hk:(decide (k < -(2 ^ 63:Int)) || decide (k>=2 ^ 63))=false:=by
  rw [decide_eq_false (),decide_eq_false ()];rfl
 have el:Builtin.Str.occurrences z ⟨#[c]⟩ 0 z.length (PySem.limitOf z k)=(dP c z.cps.toList 0).take k.toNat:=by
  rw [AB];unfold PySem.limitOf;rw [if_neg ()]
 have hf:(Builtin.Str.occurrences z ⟨#[c]⟩ 0 z.length (PySem.limitOf z k)).isEmpty=false:=by
  rw [el]
  cases hp:dP c z.cps.toList 0 with
  | nil=>exact absurd hp hne
  | cons a l=>rw [show k.toNat=(k.toNat - 1)+1 by omega];rfl
 have ep:Builtin.Str.partsBetween z (Builtin.Str.occurrences z ⟨#[c]⟩ 0 z.length (PySem.limitOf z k)) (⟨#[c]⟩:Str).length=i6 z c k.toNat:=by rw [el];rfl
 have fin:∀(its:List Value) (tk:Nat),aU ((i6 z c k.toNat).map V.str) its->EP X pins Z Q (.ref s.heap.objs.size) { s with toks:=tk,heap:=s.heap.push { cls:=.type "list",data:=.seq its.toArray } }:=λits tk rv=>
  ⟨.ref s.heap.objs.size,_,I.laid (t':=tk) (o:=.lst ((i6 z c k.toNat).map V.str)) (λb ob q=>aa4 _ q) (aa7 _) ⟨by rw [aa1];exact hlen,its,0,rv,aa8 _ rfl⟩,rfl,q _ (I.hok.fresh (aa7 _))⟩
 rw [<-ep]at fin hlen;exact call_meets F.slot_str_split (typeIs_str _ _ _) F.entry_str_split (F.args_str_split_3 _ _ _) (meets_str_split_sep_max z ⟨#[c]⟩ k t t' t2 hk h1 rfl hf (ag9 hz) hlen) (fin _ _ (mx _ _))
def zw(K:Frag)(a:Addr)(xs:List V):Prop:=∃(o:Obj) (its:Array Value) (n:Nat),K.lookup a=some o/\o.cls=.type "tuple"/\o.data=.seq its n/\its.size<=sizeLine/\aU xs its.toList
theorem zw.at{K:Frag}(h:zw K a xs)(H:Hp):cT K H a xs:=.inr h
theorem ktup_mk{K:Frag}{o:Obj}{its:Array Value}(l:K.lookup a=some o)(x:o.cls=.type "tuple")(d:o.data=.seq its n)(z:its.size<=sizeLine)(r:aU xs its.toList):zw K a xs:=⟨o,its,n,l,x,d,z,r⟩
theorem wM(z y:Str){rest:List Nat}(h:z.cps.toList=y.cps.toList++rest):Txt.startswith z y=true:=by
 obtain⟨⟨l⟩⟩:=z;obtain⟨⟨m⟩⟩:=y;simp at h;subst h
 unfold Txt.startswith
 rw [StrLaws.subAt_eq];simp [Str.length]
structure nH(z rest:Str)(t u:Int):Prop where
 cs:z.cps.toList=(Str.ofString "every").cps.toList++32::(ia t++32::(ia u++32::rest.cps.toList))
 tb:t.natAbs < 10 ^ 40
 ub:u.natAbs < 10 ^ 40
 rl:rest.length<=10000
theorem nH.split(R:nH z rest t u):i6 z 32 3=[Str.ofString "every",ba t,ba u,rest]:=by
 refine eV ?_;rw [sO,R.cs,kW 32 2 _ _ (by decide +kernel),kW 32 1 _ _ (nk t),kW 32 0 _ _ (nk u)];simp only [gM,ad5,aj1];rfl
theorem nH.pos(R:nH z rest t u):dP 32 z.cps.toList 0≠[]:=by
 rw [R.cs];exact uE 32 _ _ 0
theorem nH.len(R:nH z rest t u):z.length<=20000:=by
 rw [aY,R.cs];have h1:=fX (n:=t) (k:=40) ∅ R.tb;have h2:=fX (n:=u) (k:=40) ∅ R.ub;have h3:=R.rl;rw [aY]at h3
 have h4:(Str.ofString "every").cps.toList.length=5:=by decide +kernel
 simp only [ab2,ac7];omega
theorem nH.starts(R:nH z rest t u):Txt.startswith z (Str.ofString "every ")=true:=by
 refine wM z _ (rest:=ia t++32::(ia u++32::rest.cps.toList)) ?_;rw [R.cs,show(Str.ofString "every ").cps.toList=(Str.ofString "every").cps.toList++[32]by decide +kernel,ao1];rfl
def g9:V->Str
 | .str z=>z
 | .int n=>ba n
 | _=>Str.ofString ""
def tQ(x:V):Prop:=(∃z,x=.str z)\/∃n:Int,x=.int n/\n.natAbs < 10 ^ 40
theorem tU{K:Frag}{Z:St}{F:List V->Hp->Prop}{q:Addr}(h:aF K H q xs)(hw:∀x∈xs,tQ x)(nl:xs.length<=100)(hd:F ((xs.map g9).map V.str) H):
  qF (0+1) [] (iI 0) Bs (Fe v7 (pA (Fj 0) va)) Z F (zj K q) H:=by
 have hs:=sizeLine_eq;refine cu (xs:=xs) (λi ys H'=>ys=((xs.map g9).take i).map V.str/\H=H') () ⟨rfl,rfl⟩ ?_ ?_ ?_ ?_
 ·rintro i ys H' ⟨rfl,rfl⟩
  rw [aa1,ad1];omega
 ·rintro i ys H' ⟨rfl,rfl⟩
  exact h
 ·rintro i x ys H' hx ⟨rfl,rfl⟩
  have fin:∀v:Str,g9 x=v->((xs.map g9).take i).map V.str++[V.str v]=((xs.map g9).take (i+1)).map V.str:=λv e=>by
   rw [ac5,aa5,hx,ab7,<-e];rfl
  rcases hw x (ab8 hx)with⟨z,rfl⟩ | ⟨n,rfl,hn⟩
  ·simp only [e7,Fe,pA,Fj,rg,va,iI,Bs,Zs,List.getElem?_cons_zero,List.set_cons_zero,Option.some.injEq,exists_eq_left',E8,List.replicate,am3,aj1,if_true]
   exact⟨fin _ rfl,trivial⟩
  ·simp only [e7,Fe,pA,Fj,rg,va,iI,Bs,Zs,List.getElem?_cons_zero,List.set_cons_zero,Option.some.injEq,exists_eq_left',A8,List.replicate,am3,aj1,if_true]
   exact⟨Dx hn,fin _ rfl,trivial⟩
 ·rintro ys H' ⟨rfl,rfl⟩
  rw [ah6 (by simp)];exact hd
theorem uJ{K:Frag}{ws:List Str}(h:cT K H a (ws.map V.str))(q:Q (.bl (!decide (z∈ws))) H):sT K (.str z) (.ref a) H Q:=by
 have e:∀ws:List Str,DL (.str z) (ws.map V.str)=decide (z∈ws):=by
  intro ws
  induction ws with
  | nil=>rfl
  | cons d D ih=>
   have e:DL (.str z) ((d::D).map V.str)=((d == z) || DL (.str z) (D.map V.str)):=rfl
   rw [e,ih,ah1,ap7,beq_iff_eq,decide_eq_true_eq,decide_eq_true_eq,ab0];exact⟨λh=>h.imp Eq.symm id,λh=>h.imp Eq.symm id⟩
 refine .inr ⟨a,_,rfl,.inr h,rfl,?_,?_⟩
 ·rw [an6];exact ak5.mpr λ_ _=>rfl
 ·rw [e];exact q
section
variable {tg:Expr}
end
theorem yn{k:V->Prop}{Z:L2.St}{i:Nat}:(Bb Z i k)=(∃v,Z[i]?=some (some v)/\k v):=propext ny
theorem yj{v:V}{k:Int->Prop}:(BO v k)=(∃i,v=V.int i/\k i):=propext kn
theorem yi{v:V}{k:Bool->Prop}:(DB v k)=(∃i,v=V.bl i/\k i):=propext km
theorem Ce:(zp ve x y H Q)=(ve x y H Q):=propext FW
theorem Cf:(zr vf x y H Q)=(vf x y H Q):=propext FZ
theorem yk:(nU (eC K) x y H Q)=(eC K x y H Q):=propext Cv
theorem ym:(vD (i9 K) x y H Q)=(i9 K x y H Q):=propext Cz
theorem zK:(zp (lN K) x y H Q)=(lN K x y H Q):=propext Es
theorem zL:(zr (lO K) x y H Q)=(lO K x y H Q):=propext Eu
theorem yl:(nU (i8 K) x y H Q)=(i8 K x y H Q):=propext Cw
theorem vv:(eC K (V.int i) (V.int j) H Q)=(Q (V.int (i+j)) H):=propext rAddA_ii
theorem vw{i j:Str}:(eC K (V.str i) (V.str j) H Q)=(i.length+j.length<=sizeLine/\Q (V.str (i++j)) H):=propext AZ
theorem vx:(i9 K (V.int i) (V.int j) H Q)=(IntMulOk i j/\Q (V.int (i * j)) H):=propext uI
theorem zR{lo hi:Option Int}:(yZ K (V.str z) lo hi H Q)=(z.length<=sizeLine/\Q (V.str (Txt.slice z lo hi)) H):=propext E4
theorem Cg:(tO K (V.str z) (V.int i) H Q)=(z.length<=sizeLine/\∃c,fC z.cps.toList i=some c/\Q (V.str { cps:=#[c] }) H):=propext Gn
theorem zM:(ve (V.int i) (V.int j) H Q)=(Q (V.bl (decide (i=j))) H):=propext rEq_ii
theorem zP:(vf (V.int i) (V.int j) H Q)=(Q (V.bl !decide (i=j)) H):=propext rNe_ii
theorem zN{i j:Str}:(ve (V.str i) (V.str j) H Q)=(Q (V.bl (decide (i=j))) H):=propext vZ
theorem zQ{i j:Str}:(vf (V.str i) (V.str j) H Q)=(Q (V.bl !decide (i=j)) H):=propext v5
theorem zO{c:Nat}:(yY K (V.str { cps:=#[c] }) (V.str z) H Q)=(Q (V.bl (decide (c∈z.cps.toList))) H):=propext EY
theorem zS:(v7 [V.int i] H Q)=(i.natAbs.log2 < 1920/\Q (V.str (ba i)) H):=propext A8
theorem zI{b k:Bool}:(zy K (V.bl b) H k)=(k=b):=propext Ef
theorem Ci:(Gz K "str" (V.str z) H)=(True):=propext GA
theorem zJ{α:Sort u}{p:α->Prop}{a':α}:(∃a,a'=a/\p a)=p a':=propext exists_eq_left'
theorem Ek{α:Sort u}{a':α}:(∃a,a'=a)=True:=eq_true ⟨_,rfl⟩
theorem DF{α:Sort u}{p:α->Prop}{a':α}:(∃a,a=a'/\p a)=p a':=propext exists_eq_left
theorem DD{α:Sort u}{p:α->Prop}{b:Prop}:(∃x,b/\p x)=(b/\∃x,p x):=propext exists_and_left
theorem DC{a b c:Prop}:((a/\b)/\c)=(a/\b/\c):=propext and_assoc
theorem DE{α:Sort u}:(∃_:α,False)=False:=eq_false exists_false
theorem jF{c:TT}{t w:TS}{Z:L2.St}(h:∀A B:Hp->Prop,(∀H,jq t w D Z H->A H)->(∀H,w D Z H->B H)->c Z H λb H1=>if b=true then A H1 else B H1):jq (Bz c t xP) w D Z H:=h _ _ (λ_ x=>x) λ_ x=>x
theorem lz{t r w:TS}{Z:L2.St}(h:∀k:L2.St->Hp->Prop,(∀Z H,jq r w D Z H->k Z H)->t { D with nx:=k } Z H):jq (jq t r) w D Z H:=h _ λ_ _ x=>x
theorem iJ{t r:TS}{Z:L2.St}(h:∀k:L2.St->Hp->Prop,(∀Z H,r D Z H->k Z H)->t { D with nx:=k } Z H):jq t r D Z H:=h _ λ_ _ x=>x
theorem ll(a v:Value):argsOk "min" ⟨[a],[(Str.ofString "default",v)]⟩:=by unfold argsOk;kernel_rfl
def zm(kf:Nat->List Int)(i j:Nat):Bool:=HT.lexLt (kf i) (kf j)
section
variable {it al bb:Addr} {items:Array Value} {G:Heap->Prop} {d:Value}
theorem yE(hd:A.handled=none)(hal:al≠it)(hbi:bb≠it)(hba:bb≠al)(gk:∀h h',G h->(∀b o,b≠it->b≠bb->h.get? b=some o->h'.get? b=some o)->G h')
  (cm:∀(i j:Nat) (vi vj:Value) (s:Shared) (Q:Value->Shared->Prop) (E:Value->Shared->Prop),items[i]?=some vi->items[j]?=some vj->G s.heap->Q (.bool (zm kf i j)) s->wpAny (model prog w) A.in1 (richCompare .Lt vi vj) Q E s) :
  ∀(k j:Nat) (s:Shared) (v0:Value) (c0:Nat),items.size - (j+1)=k->j+1<=items.size->(s.heap.IsListIter it al (j+1)/\s.heap.IsList al items)->items[argBest (zm kf) j]?=some v0->G s.heap->
   s.heap.get? bb=some { cls:=.type "list",dict:=none,data:=.seq #[v0,v0] c0,slots:=#[] }->
   (∀v h' tt,items[argBest (zm kf) (items.size - 1)]?=some v->(∀b o,b≠it->b≠bb->s.heap.get? b=some o->h'.get? b=some o)->R (.ok (.ret v)) { s with heap:=h',toks:=tt })->
   codeAny (model prog w) A (.builtin "min.loop" ⟨[.ref it,.none,.ref bb],[(Str.ofString "default",d)]⟩) R s:=by
 have nm:(toString "min" ++ toString ".loop":String)="min.loop":=by decide
 have wk:=Walks.list (prog:=prog) (w:=w) (A:=A.in1) hd it al hal items
 have hbw:bb∉[it]:=by simpa using hbi
 have ns:∀{b:Addr},b≠it->b∉[it]:=λh=>by simpa using h
 intro k
 induction k with
 | zero=>
  intro j s v0 c0 ek ej at0 pv0 g hbb fin
  have jn:j+1=items.size:=by omega
  refine al0 F.entry_min_loop (?_);rw [Around.under_plainId (F.plain_min_loop) _];show wpAny _ A.in1 (seqItems? (.ref bb) >>= _) _ _ s;refine aa0 (af0 hbb rfl ?_);show wpAny _ A.in1 (tryCatch (pyNext (.ref it)) _ >>= _) _ _ s;refine aa0 (al8 (wk.done s _ _ (jn▸at0) λh' tt kk'=>?_));have hbb':=kk' bb _ hbw hbb;show wpAny _ A.in1 (updateSeq bb (λ_=>#[]) >>= _) _ _ _;refine aa0 ?_;refine af9 hbb' rfl (aa0 (ah8 (aa6 (?_))));refine fin v0 _ tt (by rw [<-jn];exact pv0) λb o ni nb e=>(ac6 _ _ (Ne.symm nb)).trans (kk' b o (ns ni) e)
 | succ k rec0=>
  intro j s v0 c0 ek ej at0 pv0 g hbb fin
  have jlt:j+1 < items.size:=by omega
  refine al0 F.entry_min_loop (?_);rw [Around.under_plainId (F.plain_min_loop) _];show wpAny _ A.in1 (seqItems? (.ref bb) >>= _) _ _ s;refine aa0 (af0 hbb rfl ?_);show wpAny _ A.in1 (tryCatch (pyNext (.ref it)) _ >>= _) _ _ s;refine aa0 (al8 (wk.item (j+1) s _ _ jlt at0 λv h' tt pv at1 kk'=>?_));have hbb':=kk' bb _ hbw hbb;have g':G h':=gk _ _ g λb o ni _ e=>kk' b o (ns ni) e;show wpAny _ A.in1 (tryCatch (holding [v,v] (richCompare .Lt v v0 >>= _)) _ >>= _) _ _ _;refine aa0 (al8 (ae3 (aa0 (cm (j+1) (argBest (zm kf) j) v v0 _ _ _ pv pv0 g' ?_))));refine aa0 (ae3 (ae4 (?_)));refine aa0 (ah8 (aa6 (?_)))
  cases eb:zm kf (j+1) (argBest (zm kf) j)with
  | true=>
   simp only [if_true];refine aa0 ?_;refine af9 hbb' rfl (aa0 (ah8 (?_)));rw [nm]
   refine aa6 ⟨plainId_quiet F.plain_min_loop _,rec0 (j+1) _ v _ () jlt (wk.frame _ _ _ at1 λb bf o e=>?_) (by simp only [argBest,eb,if_true];exact pv) (gk _ _ g' λb o _ nb e=>(ac6 _ _ (Ne.symm nb)).trans e) (ad9 _ hbb' rfl)
    λv' h2 tt2 pv' kk2=>?_⟩
   ·exact(ac6 _ _ (λh:bb=b=>by subst h;simp at bf;exact bf.elim hbi hba)).trans e
   ·exact fin v' h2 tt2 pv' λb o ni nb e=>kk2 b o ni nb ((ac6 _ _ (Ne.symm nb)).trans (kk' b o (ns ni) e))
  | false=>
   simp only [if_false,ad0];refine aa0 (ah8 (?_));rw [nm];refine aa6 ⟨plainId_quiet F.plain_min_loop _,rec0 (j+1) _ v0 c0 () jlt at1 (by simp only [argBest,eb,ad0,if_false];exact pv0) g' hbb' λv' h2 tt2 pv' kk2=>?_⟩;exact fin v' h2 tt2 pv' λb o ni nb e=>kk2 b o ni nb (kk' b o (ns ni) e)
theorem mR(hd:A.handled=none)(hal:al≠it)(hbi:bb≠it)(hba:bb≠al)(gk:∀h h',G h->(∀b o,b≠it->b≠bb->h.get? b=some o->h'.get? b=some o)->G h')
  (cm:∀(i j:Nat) (vi vj:Value) (s:Shared) (Q:Value->Shared->Prop) (E:Value->Shared->Prop),items[i]?=some vi->items[j]?=some vj->G s.heap->Q (.bool (zm kf i j)) s->wpAny (model prog w) A.in1 (richCompare .Lt vi vj) Q E s)
  {s:Shared} {c0:Nat} (at0:s.heap.IsListIter it al 0/\s.heap.IsList al items) (g:G s.heap) (hbb:s.heap.get? bb=some { cls:=.type "list",dict:=none,data:=.seq #[] c0,slots:=#[] })
  (h0:items.size=0->∀h' tt,(∀b o,b≠it->b≠bb->s.heap.get? b=some o->h'.get? b=some o)->R (.ok (.ret d)) { s with heap:=h',toks:=tt })
  (fin:0 < items.size->∀v h' tt,items[argBest (zm kf) (items.size - 1)]?=some v->(∀b o,b≠it->b≠bb->s.heap.get? b=some o->h'.get? b=some o)->R (.ok (.ret v)) { s with heap:=h',toks:=tt }) :
  codeAny (model prog w) A (.builtin "min.loop" ⟨[.ref it,.none,.ref bb],[(Str.ofString "default",d)]⟩) R s:=by
 have nm:(toString "min" ++ toString ".loop":String)="min.loop":=by decide
 have wk:=Walks.list (prog:=prog) (w:=w) (A:=A.in1) hd it al hal items
 have hbw:bb∉[it]:=by simpa using hbi
 have ns:∀{b:Addr},b≠it->b∉[it]:=λh=>by simpa using h
 refine al0 F.entry_min_loop (?_);rw [Around.under_plainId (F.plain_min_loop) _];show wpAny _ A.in1 (seqItems? (.ref bb) >>= _) _ _ s;refine aa0 (af0 hbb rfl ?_);show wpAny _ A.in1 (tryCatch (pyNext (.ref it)) _ >>= _) _ _ s
 by_cases n0:0 < items.size
 ·refine aa0 (al8 (wk.item 0 s _ _ n0 at0 λv h' tt pv at1 kk'=>?_))
  have hbb':=kk' bb _ hbw hbb;show wpAny _ A.in1 (updateSeq bb (λ_=>#[v,v]) >>= _) _ _ _;refine aa0 ?_;refine af9 hbb' rfl ?_;rw [nm];refine aa6 ⟨plainId_quiet F.plain_min_loop _,yE hd hal hbi hba gk cm _ 0 _ v _ rfl n0 (wk.frame _ _ _ at1 λb bf o e=>?_) pv (gk _ _ (gk _ _ g λb o ni _ e=>kk' b o (ns ni) e) λb o _ nb e=>(ac6 _ _ (Ne.symm nb)).trans e) (ad9 _ hbb' rfl) λv' h2 tt2 pv' kk2=>?_⟩
  ·exact(ac6 _ _ (λh:bb=b=>by subst h;simp at bf;exact bf.elim hbi hba)).trans e
  ·exact fin n0 v' h2 tt2 pv' λb o ni nb e=>kk2 b o ni nb ((ac6 _ _ (Ne.symm nb)).trans (kk' b o (ns ni) e))
 ·have e0:items.size=0:=by omega
  refine aa0 (al8 (wk.done s _ _ (by rw [e0];exact at0) λh' tt kk'=>?_));refine aa0 (an8 (aa6 (?_)));exact h0 e0 h' tt λb o ni _ e=>kk' b o (ns ni) e
end
theorem yb{l:Addr}{items:Array Value}{G:Heap->Prop}{d:Value}{Q:Value->Shared->Prop}(hd:A.handled=none)(hil:s.heap.IsList l items)
  (gk:∀it bb h h',s.heap.objs.size<=it->s.heap.objs.size<=bb->G h->(∀b o,b≠it->b≠bb->h.get? b=some o->h'.get? b=some o)->G h') (g:G s.heap)
  (cm:∀(i j:Nat) (vi vj:Value) (s:Shared) (Q:Value->Shared->Prop) (E:Value->Shared->Prop),items[i]?=some vi->items[j]?=some vj->G s.heap->Q (.bool (zm kf i j)) s->wpAny (model prog w) A.in1 (richCompare .Lt vi vj) Q E s)
  (h0:items.size=0->∀h' tt,(∀b o,s.heap.get? b=some o->h'.get? b=some o)->Q d { s with heap:=h',toks:=tt })
  (fin:0 < items.size->∀v h' tt,items[argBest (zm kf) (items.size - 1)]?=some v->(∀b o,s.heap.get? b=some o->h'.get? b=some o)->Q v { s with heap:=h',toks:=tt }) :
  wpAny (model prog w) A (call (.builtin "min") [.ref l] [(Str.ofString "default",d)]) Q E s:=by
 have nm:(toString "min" ++ toString ".loop":String)="min.loop":=by decide
 refine kmk_tree F.kind_min F.plain_min F.entry_min (ll _ _) ?_;show wpAny _ A.in1 (Builtin.Builtins.bindParams "min" ["key","default"] 0 ⟨[],[(Str.ofString "default",d)]⟩ >>= _) _ _ s;refine aa0 (wpAny_of_eq (show Builtin.Builtins.bindParams "min" ["key","default"] 0 ⟨[],[(Str.ofString "default",d)]⟩=pure [none,some d]from rfl) ?_);refine aa0 (aa6 ?_);refine aa0 (al4 hil ?_);refine aa0 (af3 (?_))
 have llt:l < s.heap.objs.size:=by
  obtain⟨o,ho,_⟩:=hil;exact aa9 ho
 rw [nm];refine aa6 ⟨plainId_quiet F.plain_min_loop _,?_⟩
 have esz:(s.heap.push { cls:=.type "list_iterator",data:=.fields #[.ref l,.int 0 0] }).objs.size=s.heap.objs.size+1:=by simp [Heap.push]
 have kp:∀b o,s.heap.get? b=some o->((s.heap.push { cls:=.type "list_iterator",data:=.fields #[.ref l,.int 0 0] }).push { cls:=.type "list",data:=.seq #[] }).get? b=some o:=λb o e=>aa4 _ (aa4 _ e)
 refine mR (it:=s.heap.objs.size) (al:=l) (bb:=(s.heap.push { cls:=.type "list_iterator",data:=.fields #[.ref l,.int 0 0] }).objs.size) (items:=items) (G:=G) (kf:=kf) hd (ac0 llt) (by rw [esz];exact Nat.succ_ne_self _) (by rw [esz];exact(ac0 (al3 llt)).symm) (λh h' g k=>gk _ _ h h' (aa7 _) (by rw [esz];exact Nat.le_succ _) g k) cm
  ⟨⟨_,aa4 _ (aa8 _ rfl),rfl,rfl⟩,hil.at λo e=>kp _ _ e⟩ (gk _ _ _ _ (aa7 _) (aa7 _) g λb o _ _ e=>kp b o e) (aa8 _ rfl) (λe h' tt k=>h0 e h' tt λb o eb=>?_) (λn0 v h' tt hv k=>fin n0 v h' tt hv λb o eb=>?_)
 ·have:=aa9 eb
  exact k b o (ac0 this) (by rw [esz];exact ac0 (al3 this)) (kp b o eb)
 ·have:=aa9 eb
  exact k b o (ac0 this) (by rw [esz];exact ac0 (al3 this)) (kp b o eb)
theorem t7{a b c:Int}{t u:Tok}(hd:A.handled=none)(hr:IsRange s.heap r a b c t u v)(big:Builtin.Range.small a b c=false)(en:Builtin.Range.rangeSize a b c=n)(nl:n<=2 ^ 24)(B:Addr)(res:Value)(e0:Nat)
  (hB:s.heap.get? B=some { cls:=.type "list",data:=.seq #[] e0 })
  (fin:∀h' tk acc e',(∀b o,b≠B->s.heap.get? b=some o->h'.get? b=some o)->h'.get? B=some { cls:=.type "list",dict:=none,data:=.seq acc e',slots:=#[] }->ItemsOf (λi v=>∃t,v=.int (a+i * c) t) acc n->R (.ok (.ret res)) { s with heap:=h',toks:=tk }) :
  wpAny (model prog w) A.in1 (Builtin.List.listExtendWith (.ref B) (.ref r) res) (λf s'=>match f with | .done f=>R (.ok f) s' | .again c'=>c'.quiet=true/\codeAny (model prog w) A c' R s') (λe s'=>R (.error e) s') s:=by
 have nBr:B≠r:=λe=>by rw [e,hr]at hB;simp at hB
 have Blt:B < s.heap.objs.size:=aa9 hB;have nBJ:B≠s.heap.objs.size:=ac0 Blt;have wk:=(Walks.longrange (prog:=prog) (w:=w) (A:=A.in1) hd s.heap.objs.size a c n).toS
 have run:∀(h:Heap) (e1 tk:Nat),IsLongIter h s.heap.objs.size (a+((0:Nat):Int) * c) ((n:Int) - ((0:Nat):Int)) c->(∀b o,b≠B->s.heap.get? b=some o->h.get? b=some o)->h.get? B=some { cls:=.type "list",data:=.seq #[] e1 }->
   codeAny (model prog w) A (.builtin "list.extend.loop" ⟨[.ref B,.ref s.heap.objs.size,res],[]⟩) R { s with heap:=h,toks:=tk }:=by
  intro h e1 tk ih hk hB1;refine codeAny_extend_loopS wk (by rw [sizeLine_eq];omega) B (λhm=>nBJ (ac3.mp hm)) res n 0 _ #[] e1 rfl (ac1 _) ih hB1 (ItemsOf.nil _) λs' acc e' mv hB' hacc=>?_;rw [Moved.eq_with mv];refine fin s'.heap s'.toks acc e' (λb o hb e=>mv.heap b o (λhm=>?_) (hk b o hb e)) hB' hacc;rcases ab0.mp hm with z | hm
  ·exact hb z
  ·exact absurd (aa9 e) (by rw [ac3.mp hm];exact ah7 _)
 unfold Builtin.List.listExtendWith;refine aa0 (aj0 (T:="range") ⟨_,hr,rfl⟩ ?_);simp only [show Builtin.List.listSameRef (.ref B) (.ref r)=false by simp [Builtin.List.listSameRef,nBr],show(Value.type "range" == Value.type "list")=false by decide,show(Value.type "range" == Value.type "tuple")=false by decide,am5,ad0,if_false];refine aa0 (wpAny_pyIter_longrange hr big ?_);refine aa0 (ae3 (wpAny_hint_range (n:=n) (aa4 _ hr) en nl ?_))
 have it1:IsLongIter (s.heap.push { cls:=.type "longrange_iterator",data:=.fields #[rawInt a,rawInt (Builtin.Range.rangeSize a b c),rawInt c] }) s.heap.objs.size (a+((0:Nat):Int) * c) ((n:Int) - ((0:Nat):Int)) c:=by
  rw [en];simpa using aa8 _ rfl
 have hB1:=aa4 { cls:=.type "longrange_iterator",data:=.fields #[rawInt a,rawInt (Builtin.Range.rangeSize a b c),rawInt c] } hB;refine ah2 (λ_=>?_) (λ_=>aa6 ⟨plainId_quiet F.plain_extend_loop _,run _ e0 _ it1 (λb o _ e=>aa4 _ e) hB1⟩);refine aa0 (an8 (aa0 ?_))
 show wpAny _ _ (updateSeq B (·.push .none) >>= λ_=>updateSeq B (·.pop)) _ _ _
 refine aa0 (af9 hB1 rfl ?_)
 have hB2:=ad9 (Obj.mapSeq (·.push Value.none)) hB1 rfl
 refine af9 (hz:=by seq_fits) hB2 rfl ?_
 have hB3:=ad9 (Obj.mapSeq (·.pop)) hB2 rfl
 refine aa6 ⟨plainId_quiet F.plain_extend_loop _,run _ _ _ ?_ (λb o hb e=>?_) hB3⟩
 ·exact(ac6 _ _ nBJ).trans ((ac6 _ _ nBJ).trans it1)
 ·exact(ac6 _ _ (Ne.symm hb)).trans ((ac6 _ _ (Ne.symm hb)).trans (aa4 _ e))
theorem nJ{Q:Value->Shared->Prop}{a b c:Int}{t u:Tok}(hd:A.handled=none)(hr:IsRange s.heap r a b c t u v)(big:Builtin.Range.small a b c=false)(en:Builtin.Range.rangeSize a b c=n)(nl:n<=2 ^ 24)
  (fin:∀h' tk acc e',(∀b o,s.heap.get? b=some o->h'.get? b=some o)->h'.get? s.heap.objs.size=some { cls:=.type "list",dict:=none,data:=.seq acc e',slots:=#[] }->ItemsOf (λi v=>∃t,v=.int (a+i * c) t) acc n->Q (.ref s.heap.objs.size) { s with heap:=h',toks:=tk }) :
  wpAny (model prog w) A (call (.type "list") [.ref r]) Q E s:=by
 refine callType_codes (Q₁:=λob s1=>ob=.ref s.heap.objs.size/\s1={ s with heap:=s.heap.push { cls:=.type "list",data:=.seq #[] } }) F.called_list (F.typeCall_list_1 _) F.entry_list_init (code_list_new _ ⟨rfl,rfl⟩) λob s1 h1=>?_;obtain⟨rfl,rfl⟩:=h1;have hB:(s.heap.push { cls:=.type "list",data:=.seq #[] }).get? s.heap.objs.size=some { cls:=.type "list",data:=.seq #[] }:=aa8 _ rfl;have hr1:IsRange (s.heap.push { cls:=.type "list",data:=.seq #[] }) r a b c t u v:=aa4 _ hr;have nBr:s.heap.objs.size≠r:=(ac0 (aa9 hr)).symm;refine⟨⟨_,hB,rfl⟩,F.args_list_init_2 _ _,?_⟩;show wpAny _ A.in1.in1 (do let old <-Builtin.List.listItems (.ref s.heap.objs.size);Builtin.List.listUpdate (.ref s.heap.objs.size) (λ_=>#[]);letGo old.toList.reverse;Builtin.List.listExtendWith (.ref s.heap.objs.size) (.ref r) .none) _ _ _;refine aa0 ?_;unfold Builtin.List.listItems;refine aa0 (af0 hB rfl (aa6 ?_));show wpAny _ _ (updateSeq s.heap.objs.size (λ_=>#[]) >>= λ_=>letGo (#[]:Array Value).toList.reverse >>= λ_=>Builtin.List.listExtendWith (.ref s.heap.objs.size) (.ref r) .none) _ _ _;refine aa0 (af9 hB rfl ?_);have hB2:=ad9 (Obj.mapSeq (λ_=>(#[]:Array Value))) hB rfl;refine aa0 (ah8 ?_);refine t7 (A:=A.in1) hd (show IsRange _ r a b c t u v from(ac6 _ _ nBr).trans hr1) big en nl _ .none _ hB2 λh' tk acc e' hk hB' hacc=>?_;exact⟨rfl,fin h' tk acc e' (λb o e=>hk b o (ac0 (aa9 e)) ((ac6 _ _ (ac0 (aa9 e)).symm).trans (aa4 _ e))) hB' hacc⟩
def intsFrom(a:Int)(n:Nat):List Int:=(List.range n).map λ(i:Nat)=>a+i
theorem pE:∀(ns:List Int) (us:List Value),us.length=ns.length->(∀(j:Nat) v n,us[j]?=some v->ns[j]?=some n->∃t,v=.int n t)->aU (ns.map V.int) us
 | [],[],_,_=>.nil
 | [],_::_,h,_=>by simp at h
 | _::_,[],h,_=>by simp at h
 | n::ns,u::us,h,hv=>by
  obtain⟨t,e⟩:=hv 0 u n rfl rfl;exact .cons ⟨t,e⟩ (pE ns us (by simpa using h) λj v n e1 e2=>hv (j+1) v n e1 e2)
theorem nI{pins:List (Addr×Obj)}{Z:St}{t u:Tok}(hc:X.calm=true)(I:aK X pins Z H s)(hr:IsRange s.heap r i j 1 t u v)(hl:j - i<=1000)
  (q:∀l,H l=none->Q (.ref l) (upd H l (.lst ((intsFrom i (j - i).toNat).map V.int)))):wpAny (model X.prog X.w) X.A (call (.type "list") [.ref r]) (EP X pins Z Q) X.xe s:=by
 have hs:=sizeLine_eq
 have en:Builtin.Range.rangeSize i j 1=(((j - i).toNat:Nat):Int):=by rw [rangeSize_one];split<;>omega
 have nl:(j - i).toNat<=2 ^ 24:=by omega
 have fin:∀h' tk acc e',(∀b o,s.heap.get? b=some o->h'.get? b=some o)->h'.get? s.heap.objs.size=some { cls:=.type "list",dict:=none,data:=.seq acc e',slots:=#[] }->ItemsOf (λk v=>∃t,v=.int (i+k * 1) t) acc (j - i).toNat->EP X pins Z Q (.ref s.heap.objs.size) { s with heap:=h',toks:=tk }:=λh' tk acc e' hk hB hacc=>by
  have rv:aU ((intsFrom i (j - i).toNat).map V.int) acc.toList:=by
   refine pE _ _ (by simp [intsFrom,hacc.1]) λk v n e1 e2=>?_;obtain⟨t,rfl⟩:=hacc.2 k v (by simpa using e1)
   have hk:k < (j - i).toNat:=by
    have:=(aa3.mp e2).1
    simpa [intsFrom]using this
   simp only [intsFrom,aa5,ag1 hk]at e2;cases e2;exact⟨t,by rw [aq0]⟩
  refine⟨.ref s.heap.objs.size,_,I.laid (t':=tk) hk (aa7 _) (show dk X.prog X.w _ h' _ (.lst ((intsFrom i (j - i).toNat).map V.int))from⟨by simp [intsFrom];omega,acc.toList,e',rv,hB⟩),rfl,q _ (I.hok.fresh (aa7 _))⟩
 cases hb:Builtin.Range.small i j 1 with
 | true=>exact call_list_range (I.ok.hd hc) hr hb en nl fin
 | false=>exact nJ (I.ok.hd hc) hr hb en nl fin
def kY(ta:TA):TE:=λZ H Q=>ta Z H λvs H1=>∃i j:Int,vs=[.int i,.int j]/\j - i<=1000/\∀l,H1 l=none->Q (.ref l) (upd H1 l (.lst ((intsFrom i (j - i).toNat).map V.int)))
def tJ(ta:TA):TE:=λZ H Q=>ta Z H λvs H1=>∃j:Int,vs=[.int j]/\j<=1000/\∀l,H1 l=none->Q (.ref l) (upd H1 l (.lst ((intsFrom 0 j.toNat).map V.int)))
theorem lM{a b:Expr}{ta:TA}{p p2 pos pos2:Pos}(hc:X.calm=true)(hgl:Gl X "list")(hml:X.mg "list"=none)(hg:Gl X "range")(hm:X.mg "range"=none)(ha:PA X [a,b] ta)(hs:starEach [a,b] X.env=[(false,eval a X.env),(false,eval b X.env)]:=by rfl)(hs2:starEach [b] X.env=[(false,eval b X.env)]:=by rfl):
  PE X (.Call (.Name "list" p) [.Call (.Name "range" p2) [a,b] [] pos2] [] pos) (kY ta):=by
 intro pins s Z H Q I h;refine ae8 (dz I hgl hml boot_list (PyProof.Rows.callWith_type1 ?_ rfl rfl));show wpAny _ _ (spliced ((false,eval (.Call (.Name "range" p2) [a,b] [] pos2) X.env)::backTo pos (starEach [] X.env))) _ _ s;refine Calls.spliced_cons ?_;refine ae8 (dz I hg hm boot_range (PyProof.Rows.callWith_type1 (cH (ha pos2 pins s Z H _ I h) λus s1 zq0=>?_) (by rw [hs,hs2]) (by rw [hs2];rfl)));obtain⟨vs,H1,I1,r1,i,j,e,hl,q⟩:=zq0;subst e
 cases r1 with
 | cons r rr=>
  cases rr with
  | cons r' rr=>
   cases rr;obtain⟨t,rfl⟩:=r;obtain⟨t',rfl⟩:=r';refine call_range_2 (Calls.spliced_nil ?_);exact nI hc (I1.kept λb o e=>aa4 _ e) (IsRange.new ..) hl q
theorem qZ{a:Expr}{ta:TA}{p p2 pos pos2:Pos}(hc:X.calm=true)(hgl:Gl X "list")(hml:X.mg "list"=none)(hg:Gl X "range")(hm:X.mg "range"=none)(ha:PA X [a] ta)(hs:starEach [a] X.env=[(false,eval a X.env)]:=by rfl):
  PE X (.Call (.Name "list" p) [.Call (.Name "range" p2) [a] [] pos2] [] pos) (tJ ta):=by
 intro pins s Z H Q I h;refine ae8 (dz I hgl hml boot_list (PyProof.Rows.callWith_type1 ?_ rfl rfl));show wpAny _ _ (spliced ((false,eval (.Call (.Name "range" p2) [a] [] pos2) X.env)::backTo pos (starEach [] X.env))) _ _ s;refine Calls.spliced_cons ?_;refine ae8 (dz I hg hm boot_range (PyProof.Rows.callWith_type1 (cH (ha pos2 pins s Z H _ I h) λus s1 zq0=>?_) hs rfl));obtain⟨vs,H1,I1,r1,j,e,hl,q⟩:=zq0;subst e
 cases r1 with
 | cons r rr=>
  cases rr;obtain⟨t,rfl⟩:=r;refine call_range_1 (Calls.spliced_nil ?_);exact nI hc (I1.kept λb o e=>aa4 _ e) (IsRange.new ..) () (by simpa using q)
end L2
namespace XE
open PySem
open Sem (wp)
section
variable {M:Model} {A:Around} {E:Value->Shared->Prop} {s:Shared}
end
section
variable {M:Model} {A:Around} {E:Value->Shared->Prop} {h:Heap} {g:Array GenState} {d:Drawn} {t:Nat} {os:OsState}
variable {nm q:Str} {C N:Addr} {bs bm bmB:List Value} {hdct:Bool} {sn:List Str} {sub:List Value} {ab:Bool} {col:Option Bool} {dd:Option Addr} {k0 k1 k2 k3 k5:Option Value} {B newId initId:String} {no:Str->Prop}
end
section
variable {prog:Program} {w:World} {A:Around} {E:Value->Shared->Prop} {h:Heap} {g:Array GenState} {d:Drawn} {t:Nat} {os:OsState}
variable {nm q:Str} {C N:Addr} {bs bm bmB:List Value} {hdct:Bool} {sn:List Str} {sub:List Value} {ab:Bool} {col:Option Bool} {dd:Option Addr} {k0 k1 k2 k3 k5:Option Value} {B newId initId:String}
end
section
variable {M:Model} {A:Around} {E:Value->Shared->Prop} {env:Env}
variable {nm q:Str} {C N:Addr} {bs bm:List Value} {hdct:Bool} {sn:List Str} {sub:List Value} {ab:Bool} {col:Option Bool} {dd:Option Addr} {k0 k1 k2 k3 k5:Option Value} {newId:String}
end
section
variable {prog:Program} {w:World} {A:Around} {E:Value->Shared->Prop} {s:Shared} {env:Env}
variable {nm q:Str} {C N:Addr} {bs bm:List Value} {hdct:Bool} {sn:List Str} {sub:List Value} {ab:Bool} {col:Option Bool} {dd:Option Addr} {k0 k1 k2 k3 k5:Option Value} {newId:String}
end
section
open Builtin Builtin.ObjectAttr
variable {prog:Program} {w:World} {A:Around} {E:Value->Shared->Prop} {h:Heap} {g:Array GenState} {d:Drawn} {t:Nat} {os:OsState}
variable {nm q:Str} {C N x:Addr} {bs bm bmB:List Value} {sn:List Str} {sub:List Value} {ab:Bool} {col:Option Bool} {dd:Option Addr} {k0 k1 k2 k3 k5:Option Value} {B newId sa owner:String}
 {mN mA:Str->Option Value} {name:Str} {v:Value} {no:Str->Prop}
end
section
open Builtin Builtin.ObjectAttr
variable {prog:Program} {w:World} {A:Around} {E:Value->Shared->Prop} {h:Heap} {g:Array GenState} {d:Drawn} {t:Nat} {os:OsState}
variable {nm q:Str} {C N a dx:Addr} {bs bm bmB:List Value} {sn:List Str} {sub:List Value} {ab:Bool} {col:Option Bool} {dd:Option Addr} {k0 k1 k2 k3 k5:Option Value} {B newId:String}
 {mN mA:Str->Option Value} {name:Str} {v:Value} {no:Str->Prop} {o:Obj} {vs:Array Value}
end
end XE
namespace L2
open PySem PySem.Spec PyProof.Rows
variable {A:Around} {C a d fI:Addr} {E:Value->Shared->Prop} {H:Hp} {P:Program} {X:Cx} {fs:List (Str×V)} {no:List Str} {pins:List (Addr×Obj)} {pos:Pos} {s:Shared} {w:World} {Z:St}
section
variable {h:Heap}
end
section
variable {T:Addr} {ts:List Addr} {fl:Value} {h':Heap}
end
section
variable {K:Frag} {mg:Str->Option Value} {base:Heap} {N:List Str} {qual:Str} {scope:Scope} {f:Addr} {cd:Value} {outer:List Env} {Zh:Shared} {Z2:Hp} {E:XK}
end
section
variable {h:Heap}
end
section
variable {f:Str}
end
section
variable {f x:Str} {o e value:Expr} {es:List Expr} {ta tv:TE} {t:TA} {pos' np cpos:Pos} {k:Nat} {fd:FuncData} {ps:List Str} {sp:Sp} {E:XK}
end
section
variable {scope:Scope} {own:List Str} {js:List Nat} {tg iter elt:Expr} {ifs:List Expr} {wi:TI} {g:TG} {tt:TT} {te:TE}
end
section
variable {e:Value}
end
section
variable {T L:Addr} {ts:List Addr} {M:Model} {Q:Unit->Shared->Prop}
end
section
variable {k:Nat} {f L:Addr} {fd:FuncData} {ps:List Str} {sp:Sp} {x y v n r:Str} {p cpos np vp hpos rp rn apos spos:Pos} {e:Expr} {es:List Expr} {t:TA} {iv ie ir:Nat}
end
end L2
namespace XE
open PySem
open Sem (wp)
section
variable {prog:Program} {w:World} {A:Around} {E:Value->Shared->Prop} {h:Heap} {g:Array GenState} {d:Drawn} {t:Nat} {os:OsState}
variable {nm q:Str} {C N a:Addr} {bs bm bmB:List Value} {sn:List Str} {sub:List Value} {ab:Bool} {col:Option Bool} {dd:Option Addr} {k0 k1 k2 k3 k5:Option Value} {B newId:String}
 {mN:Str->Option Value} {no:Str->Prop} {o:Obj} {vs:Array Value}
end
end XE
namespace L2
open PySem PySem.Spec PyProof.Rows
variable {A:Around} {C S a d r:Addr} {E:Value->Shared->Prop} {H H':Hp} {K:Frag} {P:Program} {Q:Bool->Shared->Prop} {R:Result->Shared->Prop} {Ss:List bU} {X:Cx} {apos cpos p pos:Pos} {c:List Int} {cols:List (List Int)} {e o tg:Expr} {es:List Expr} {h h':Heap} {i j k:Nat} {ks x y:List (Option (List Int))} {pins:List (Addr×Obj)} {s:Shared} {t ta:TA} {u v:Value} {vs:List Value} {w:World} {xs:List (List Int×Addr×V)} {α κ:Type} {Z:St}
section
variable {ps qs:List Str} {sp sq:Sp} {x y v n r f:Str} {np vp hpos rp rn spos:Pos} {value:Expr} {ta:TE} {E:XK} {L:Addr} {no:List Str} {iv ie ir:Nat}
end
section
variable {fI N c:Addr} {nm q f:Str} {bs sub:List Value} {sn:List Str} {ab b:Bool} {col:Option Bool} {dd:Option Addr} {k0 k1 k2 k3 k5:Option Value} {c0:Value} {ds:Option Addr} {cd:ClassData} {sl:Array (Option Value)} {T:String}
end
def TJ:=Str->L2.St->Hp->VK->Prop
section
variable {e1 e2:Expr} {t:TJ} {te:TE} {x:Str}
theorem ud:dE X (inplaceOp .Mult) (rI IntMulOk λi j=>.int (i * j)):=F9 λ_ _ _ _ _ _ _ hc q=>imul_int q hc
end
theorem zf(it:Addr)(lo:Int)(n:Nat):pJ P w K tg (xU lo n) [it] it (λi h=>IsLongIter h it (lo+(i:Nat) * 1) ((n:Int) - (i:Nat)) 1) where
 mem:=by simp
 obj:=λi h st b hb=>by
  have e:b=it:=by simpa using hb
  subst e
  exact⟨_,st,λv z=>by
   have z':Data.fields _=Data.cell v:=z
   cases z'⟩
 keep:=λi h h' st k=>k it (by simp) _ st
 item:=by
  intro X hP hw hK hc i pins s Z H E I hf st hg;subst hP hw hK;obtain⟨f0,f1,f2,f3,f4,f5⟩:=hf it (by simp);have W:=Walks.longrange (prog:=X.prog) (w:=X.w) (I.ok.hd hc) it lo 1 n;refine W.item i s _ _ hg st λv h' tk hv st' kk=>?_;obtain⟨t,rfl⟩:=hv;have I1:aK X pins Z H { s with heap:=h',toks:=tk }:=I.turned (λb o hb e=>kk b o (by simpa using hb) e) f0 f1 f3 f4 f5;refine⟨_,rfl,qR (s:={ s with heap:=h',toks:=tk }) (n:="longrange_iterator") st' rfl rfl ∅ ⟨.int (lo+i),H,I1,⟨t,?_⟩,⟨rfl,rfl⟩,st',λb hb=>(hf b hb).1⟩⟩;rw [aq0]
 done:=by
  intro X hP hw hK hc i pins s Z H E I hf st hg;subst hP hw hK;obtain⟨f0,f1,f2,f3,f4,f5⟩:=hf it (by simp);exact wpAny_pyNext_long_end (I.ok.hd hc) st (by have:n<=i:=hg;omega) λh' eb=>⟨rfl,I.turned (t':=s.toks) (λb o hb e=>eb b o hb e) f0 f1 f3 f4 f5⟩
 self:=λ_ _ _ _ _ st h=>wpAny_pyIter_longiter st h
theorem y3{R:It->Hp->Prop}{lo hi:Int}{t u v:Tok}{tk:Nat}(I:aK X pins Z H s)
  (q:R (xU lo (hi - lo).toNat) H):wpAny (model X.prog X.w) X.A (pyIter (.ref s.heap.objs.size)) (FG X pins Z tg R) E { s with heap:=s.heap.push { cls:=.type "range",data:=.fields #[.int lo t,.int hi u,.int 1 v] },toks:=tk }:=by
 have I1:aK X pins Z H { s with heap:=s.heap.push { cls:=.type "range",data:=.fields #[.int lo t,.int hi u,.int 1 v] },toks:=tk }:=I.kept λb o e=>aa4 _ e
 have e1:lo+((0:Nat):Int) * 1=lo:=by simp
 have e2:(((hi - lo).toNat:Nat):Int) - ((0:Nat):Int)=Builtin.Range.rangeSize lo hi 1:=by rw [rangeSize_one];split<;>omega
 cases hs:Builtin.Range.small lo hi 1 with
 | true=>
  refine wpAny_pyIter_range (IsRange.new ..) hs ?_
  refine⟨(s.heap.push { cls:=.type "range",data:=.fields #[.int lo t,.int hi u,.int 1 v] }).objs.size,[(s.heap.push { cls:=.type "range",data:=.fields #[.int lo t,.int hi u,.int 1 v] }).objs.size],_,_,H,rfl,
   I1.kept (t':=tk) λb o e=>aa4 _ e,pB _ lo (hi - lo).toNat,?_,λb hb=>?_,q⟩
  ·show IsRangeIter _ _ (lo+((0:Nat):Int) * 1) ((((hi - lo).toNat:Nat):Int) - ((0:Nat):Int)) 1
   rw [e1,e2];exact aa8 _ rfl
  ·have e:b=(s.heap.push { cls:=.type "range",data:=.fields #[.int lo t,.int hi u,.int 1 v] }).objs.size:=by simpa using hb
   subst e;exact I1.fpOk (aa7 _) (I1.hok.fresh (aa7 _))
 | false=>
  refine wpAny_pyIter_longrange (IsRange.new ..) hs ?_
  refine⟨(s.heap.push { cls:=.type "range",data:=.fields #[.int lo t,.int hi u,.int 1 v] }).objs.size,[(s.heap.push { cls:=.type "range",data:=.fields #[.int lo t,.int hi u,.int 1 v] }).objs.size],_,_,H,rfl,
   I1.kept (t':=tk) λb o e=>aa4 _ e,zf _ lo (hi - lo).toNat,?_,λb hb=>?_,q⟩
  ·show IsLongIter _ _ (lo+((0:Nat):Int) * 1) ((((hi - lo).toNat:Nat):Int) - ((0:Nat):Int)) 1
   rw [e1,e2];exact aa8 _ rfl
  ·have e:b=(s.heap.push { cls:=.type "range",data:=.fields #[.int lo t,.int hi u,.int 1 v] }).objs.size:=by simpa using hb
   subst e;exact I1.fpOk (aa7 _) (I1.hok.fresh (aa7 _))
def z7(ta:TA):TI:=λZ H R=>ta Z H λvs H1=>∃i j:Int,vs=[.int i,.int j]/\R (xU i (j - i).toNat) H1
theorem oB{a b:Expr}(hg:Gl X "range")(hm:X.mg "range"=none)(ha:PA X [a,b] ta)(hs:starEach [a,b] X.env=[(false,eval a X.env),(false,eval b X.env)]:=by rfl)(hs2:starEach [b] X.env=[(false,eval b X.env)]:=by rfl):
  PI X tg (.Call (.Name "range" p) [a,b] [] pos) (z7 ta):=by
 intro pins s Z H R I h;refine Call_ (dz I hg hm boot_range (PyProof.Rows.callWith_type1 (cH (ha pos pins s Z H _ I h) λus s1 zq0=>?_) (by rw [hs,hs2]) (by rw [hs2];rfl)));obtain⟨vs,H1,I1,r1,i,j,e,q⟩:=zq0;subst e
 cases r1 with
 | cons r rr=>
  cases rr with
  | cons r' rr=>
   cases rr;obtain⟨t,rfl⟩:=r;obtain⟨t',rfl⟩:=r';exact call_range_2 (y3 I1 q)
abbrev FL(P:Program)(w:World):HeapKind P w (List Int):=tupleKind (intKind P w)
abbrev zi(P:Program)(w:World)(h:Heap)(c:List Int)(a:Addr):Prop:=IsTupleKey (intKind P w) h c a
def fV(P:Program)(w:World)(h:Heap):Option (List Int)->Value->Prop
 | none,v=>v=.none
 | some c,v=>∃a,v=.ref a/\zi P w h c a
inductive du(P:Program)(w:World)(h:Heap):List (Option (List Int))->List Value->Prop
 | nil:du P w h [] []
 | cons {k:Option (List Int)} {v:Value} {ks:List (Option (List Int))} {vs:List Value}:fV P w h k v->du P w h ks vs->du P w h (k::ks) (v::vs)
def xT(P:Program)(w:World)(h:Heap)(ks:List (Option (List Int)))(a:Addr):Prop:=∃o items n,h.get? a=some o/\o.cls=.type "tuple"/\o.data=.seq items n/\du P w h ks items.toList
theorem fV.inj{x y:Option (List Int)}(hx:fV P w h x v)(hy:fV P w h y v):x=y:=by
 cases x with
 | none=>
  cases y with
  | none=>rfl
  | some c=>obtain⟨a,e,_⟩:=hy;rw [show v=.none from hx]at e;cases e
 | some c=>
  obtain⟨a,rfl,ha⟩:=hx
  cases y with
  | none=>have hy:Value.ref a=.none:=hy;cases hy
  | some d=>
   obtain⟨b,e,hb⟩:=hy;cases e;rw [ha.inj hb]
theorem du.inj(hx:du P w h x vs)(hy:du P w h y vs):x=y:=by
 induction hx generalizing y with
 | nil=>cases hy;rfl
 | cons h1 _ ih=>
  cases hy with
  | cons h2 t2=>rw [h1.inj h2,ih t2]
theorem du.length(hx:du P w h x vs):x.length=vs.length:=by
 induction hx with
 | nil=>rfl
 | cons _ _ ih=>simp [ih]
theorem fV.imp{k:Option (List Int)}(f:∀c a,zi P w h c a->zi P w h' c a)(x:fV P w h k v):fV P w h' k v:=by
 cases k with
 | none=>exact x
 | some c=>obtain⟨a,e,ha⟩:=x;exact⟨a,e,f c a ha⟩
theorem du.imp(f:∀c a,zi P w h c a->zi P w h' c a)(hx:du P w h x vs):du P w h' x vs:=by
 induction hx with
 | nil=>exact .nil
 | cons h1 _ ih=>exact .cons (h1.imp f) ih
theorem xT.typeIs(x:xT P w s.heap ks a):s.TypeIs (.ref a) "tuple":=let ⟨o,_,_,ho,hc,_⟩:=x;⟨o,ho,hc⟩
theorem xT.inj(hx:xT P w h x a)(hy:xT P w h y a):x=y:=by
 obtain⟨o,items,n,ho,_,hd,hi⟩:=hx;obtain⟨o',items',n',ho',_,hd',hi'⟩:=hy;obtain rfl:o=o':=Option.some.inj (ho.symm.trans ho');rw [hd]at hd'
 injection hd' with h1 _
 subst h1;exact hi.inj hi'
theorem xT.keeps{o:Obj}{es ep}(x:xT P w h ks a)(ho:h.get? d=some o)(hd:o.data=.dict es ep)(hs:Heap.SameBut d h h'):xT P w h' ks a:=by
 obtain⟨o',items,n,ho',hc,hd',hi⟩:=x
 have hne:a≠d:=by
  rintro rfl;obtain rfl:o'=o:=Option.some.inj (ho'.symm.trans ho);rw [hd]at hd';exact nomatch hd'
 exact⟨o',items,n,(hs.2 a hne).trans ho',hc,hd',hi.imp λc b x=>x.keeps ho hd hs⟩
def Az:Int:=reduceHash 0xFCA86420
def nT(P:Program)(w:World):Option (List Int)->Int
 | none=>Az
 | some c=>tupleKeyHash (intKind P w) c
def lF:Option (List Int)->Nat
 | none=>1
 | some c=>c.length+1
def Ay(P:Program)(w:World)(ks:List (Option (List Int))):Int:=reduceHash (Builtin.Tuple.tupleHashOf (ks.map (nT P w)))
def vH(ks:List (Option (List Int))):Nat:=(ks.map lF).sum+1
theorem yz{k:Option (List Int)}{Q:Int->Shared->Prop}(hu:A.units < cLine)(hk:fV P w s.heap k v)(q:Q (nT P w k) { s with toks:=s.toks+lF k }):wpAny (model P w) A (pyHash v) Q E s:=by
 cases k with
 | none=>
  have hk:v=.none:=hk;subst hk;exact PySem.W.pyHash_slot (T:="NoneType") rfl F.slot_NoneType_hash F.entry_NoneType_hash (F.args_NoneType_hash_1 _) (beq_builtin_none _) (.inr hu) (aa0 (aa6 (aa0 (wpAny_mkInt (aa6 ⟨_,_,rfl,q⟩)))))
 | some c=>
  obtain⟨a,rfl,ha⟩:=hk;exact wpAny_pyHash_tuple hu ha q
theorem EC{Q:Int->Shared->Prop}(hu:A.units+1 < cLine)(hk:xT P w s.heap ks a)(q:Q (Ay P w ks) { s with toks:=s.toks+vH ks }):wpAny (model P w) A (pyHash (.ref a)) Q E s:=by
 have hT:=hk.typeIs;obtain⟨o,items,n,ho,_,hd,hi⟩:=hk;refine PySem.W.pyHash_slot (T:="tuple") hT F.slot_tuple_hash F.entry_tuple_hash (F.args_tuple_hash_1 _) (beq_builtin_none _) (.inr ()) ?_;show wpAny _ _ (Builtin.Tuple.tupleItemsOf (.ref a) >>= _) _ _ s;refine aa0 (wpAny_tupleItemsOf ho hd ?_);refine aa0 ?_;rw [<-an9]
 refine ao9 _
  (λrest (b:Array Int) s'=>∃done left,ks=done++left/\du P w s.heap left rest/\b.toList=done.map (nT P w)/\s'={ s with toks:=s.toks+(done.map lF).sum })
  _ ?_ ?_ _ _ ⟨[],ks,rfl,hi,rfl,rfl⟩
 ·rintro x rest b s' ⟨done,left,rfl,hl,hb,rfl⟩
  cases hl with
  | @cons k _ ks' _ h1 hl'=>
   refine aa0 (yz (A:=A.in1) (by show A.units+1 < cLine;exact hu) h1 ?_)
   first
    | exact aa6 ⟨done++[k],ks',by simp,hl',by simp [hb],by simp [Nat.add_assoc]⟩
    | exact aa0 (aa6 (aa6 ⟨done++[k],ks',by simp,hl',by simp [hb],by simp [Nat.add_assoc]⟩))
 ·rintro b s' ⟨done,left,rfl,hl,hb,rfl⟩
  cases hl;rw [ag5]at q;show wpAny _ _ (retInt (Builtin.Tuple.tupleHashOf b.toList)) _ _ _;rw [hb];refine aa0 (wpAny_mkInt (aa6 ⟨_,_,rfl,?_⟩));unfold Ay vH at q;simpa [Nat.add_assoc]using q
theorem zi.any{P':Program}{w':World}(x:zi P w h c a):zi P' w' h c a:=by
 obtain⟨o,items,n,ho,hc,hd,hi⟩:=x;refine⟨o,items,n,ho,hc,hd,?_⟩;generalize items.toList=vs at hi
 induction hi with
 | nil=>exact .nil
 | cons h1 _ ih=>exact .cons h1 ih
theorem zi.isTuple(x:zi P w h c a):∃items,h.IsTuple a items:=by
 obtain⟨o,items,n,ho,hc,hd,_⟩:=x;exact⟨items,o,ho,hc,n,hd⟩
theorem Cu{x y:Option (List Int)}(hu:A.units < cLine)(hx:fV P w s.heap x u)(hy:fV P w s.heap y v):SeqAt.EqAt A s u v (decide (x=y)):=by
 cases x with
 | none=>
  have hx:u=.none:=hx;subst hx
  cases y with
  | none=>
   have hy:v=.none:=hy;subst hy;rw [decide_eq_true rfl];exact SeqAt.EqAt.same _
  | some c=>
   obtain⟨b,rfl,hb⟩:=hy;obtain⟨items,ht⟩:=hb.isTuple;rw [decide_eq_false (λe=>by cases e)];exact SeqAt.EqAt.none_tuple ht hu
 | some c=>
  obtain⟨a,rfl,ha⟩:=hx
  cases y with
  | none=>
   have hy:v=.none:=hy;subst hy;obtain⟨items,ht⟩:=ha.isTuple;rw [decide_eq_false (λe=>by cases e)];exact SeqAt.EqAt.tuple_none ht hu
  | some d=>
   obtain⟨b,rfl,hb⟩:=hy
   have e:decide (some c=some d)=decide (c=d):=by
    by_cases h:c=d
    ·rw [h,decide_eq_true rfl,decide_eq_true rfl]
    ·rw [decide_eq_false h,decide_eq_false (λz=>h (Option.some.inj z))]
   rw [e];exact λP' w' E Q q=>wpAny_eqBool_tuple hu ha.any hb.any q
theorem du.at(hx:du P w h x vs)(e:vs[j]?=some v):∃k,x[j]?=some k/\fV P w h k v:=by
 induction hx generalizing j with
 | nil=>cases e
 | cons h1 _ ih=>
  cases j with
  | zero=>cases e;exact⟨_,rfl,h1⟩
  | succ j=>exact ih e
theorem um[DecidableEq α]:∀(x y:List α),((List.range (min x.length y.length)).all (λj=>decide (x[j]?=y[j]?)) && x.length == y.length)=decide (x=y):=by
 intro x y;rw [ah1,ai7,ak5,decide_eq_true_iff]
 constructor
 ·rintro⟨h1,h2⟩
  have hl:x.length=y.length:=by simpa using h2
  refine List.ext_getElem? λj=>?_
  by_cases hj:j < x.length
  ·exact of_decide_eq_true (h1 j (ah9.mpr ()))
  ·rw [ag6 (),ag6 ()]
 ·rintro rfl
  simp
theorem Hb{b:Addr}(hu:A.units+1 < cLine)(hx:xT P w s.heap x a)(hy:xT P w s.heap y b)(q:Q (decide (x=y)) s):wpAny (model P w) A (eqBool (.ref a) (.ref b)) Q E s:=by
 by_cases hab:a=b
 ·subst hab
  obtain rfl:=hx.inj hy;rw [decide_eq_true rfl]at q;exact SeqAt.EqAt.same (.ref a) P w E Q q
 ·obtain⟨oa,xs,na,hoa,hca,hda,hia⟩:=hx
  obtain⟨ob,ys,nb,hob,hcb,hdb,hib⟩:=hy
  have ht:SeqAt.EqAt A s (.ref a) (.ref b) ((List.range (min xs.size ys.size)).all (λj=>decide (x[j]?=y[j]?)) && xs.size == ys.size):=by
   refine SeqAt.EqAt.of_refs hab (SeqAt.RcAt.tuples ⟨oa,hoa,hca,na,hda⟩ ⟨ob,hob,hcb,nb,hdb⟩ () λj j1 j2=>?_);obtain⟨k1,e1,i1⟩:=hia.at (j:=j) (v:=xs[j]) (by simp [j1]);obtain⟨k2,e2,i2⟩:=hib.at (j:=j) (v:=ys[j]) (by simp [j2])
   have e:decide (x[j]?=y[j]?)=decide (k1=k2):=by
    rw [e1,e2]
    by_cases h:k1=k2
    ·rw [h,decide_eq_true rfl,decide_eq_true rfl]
    ·rw [decide_eq_false h,decide_eq_false (λz=>h (Option.some.inj z))]
   rw [e];exact Cu (A:=A.in1) (by show A.units+1 < cLine;exact hu) i1 i2
  have lx:xs.size=x.length:=by rw [hia.length];simp
  have ly:ys.size=y.length:=by rw [hib.length];simp
  rw [lx,ly,um]at ht;exact ht P w E Q q
theorem B9{n:Nat}{ks:List Int}(hk:zi P w s.heap ks a)(q:Q true s):wpAny (model P w) A (eqIsQuiet (n+1) (.ref a)) Q E s:=by
 have hT:=hk.typeIs;obtain⟨o,items,n,ho,_,hd,hi⟩:=hk;unfold eqIsQuiet;refine aa0 (ai4 hT F.slot_tuple_eq.lookup ?_);show wpAny _ _ (isInstance (.ref a) (.type "tuple") >>= _) _ _ s;refine aa0 (ak6 hT isSubtype_tuple_tuple ?_);simp only [ao7,ad0,if_false];refine aa0 (af0 ho hd ?_);refine aa0 ?_;show wpAny _ _ (forIn items _ _) _ _ s;rw [<-an9];refine ao9 _ (λrest r s'=>r.1=none/\s'=s/\∀v∈rest,carriedByValue v=true) _ ?_ ?_ _ _ ⟨rfl,rfl,hi.byValue⟩
 ·rintro v rest r s' ⟨hr,rfl,hall⟩
  rw [eqIsQuiet_byValue _ (hall v ad6)];refine aa0 (aa6 ?_);simp only [ao7,ad0,if_false];exact aa6 ⟨rfl,rfl,λu hu'=>hall u (ad8 _ hu')⟩
 ·rintro⟨r1,r2⟩ s' ⟨hr,rfl,_⟩
  simp only at hr;subst hr;exact aa6 q
theorem CG(hk:xT P w s.heap ks a)(q:Q true s):wpAny (model P w) A (eqIsQuiet 8 (.ref a)) Q E s:=by
 have hT:=hk.typeIs;obtain⟨o,items,n,ho,_,hd,hi⟩:=hk;unfold eqIsQuiet;refine aa0 (ai4 hT F.slot_tuple_eq.lookup ?_);show wpAny _ _ (isInstance (.ref a) (.type "tuple") >>= _) _ _ s;refine aa0 (ak6 hT isSubtype_tuple_tuple ?_);simp only [ao7,ad0,if_false];refine aa0 (af0 ho hd ?_);refine aa0 ?_;show wpAny _ _ (forIn items _ _) _ _ s;rw [<-an9];refine ao9 _ (λrest r s'=>r.1=none/\s'=s/\∃ks',du P w s.heap ks' rest) _ ?_ ?_ _ _ ⟨rfl,rfl,ks,hi⟩
 ·rintro v rest r s' ⟨hr,rfl,ks',hall⟩
  cases hall with
  | @cons k _ ks2 _ h1 h2=>
   have go:wpAny (model P w) A (eqIsQuiet 7 v) (λb s2=>b=true/\s2=s') E s':=by
    cases k with
    | none=>
     have h1:v=.none:=h1;subst h1;rw [eqIsQuiet_byValue _ rfl];exact aa6 ⟨rfl,rfl⟩
    | some c=>
     obtain⟨b,rfl,hb⟩:=h1;exact B9 (n:=6) hb ⟨rfl,rfl⟩
   refine aa0 (ag0 go (λb s2 zq0=>?_) λ_ _ x=>x);obtain⟨e1,e2⟩:=zq0;subst e1 e2;simp only [ao7,ad0,if_false];exact aa6 ⟨rfl,rfl,ks2,h2⟩
 ·rintro⟨r1,r2⟩ s' ⟨hr,rfl,_⟩
  simp only at hr;subst hr;exact aa6 q
def F2(P:Program)(w:World):HeapKind P w (List (Option (List Int))) where
 is:=xT P w
 hash:=Ay P w
 draws:=vH
 room:=λA=>A.units+1 < cLine
 inj:=λhx hy=>hx.inj hy
 keeps:=λx ho hd hs=>x.keeps ho hd hs
 pyHash:=λhu hk h=>EC hu hk h
 eqBool:=λhu hx hy h=>Hb hu hx hy h
 quiet:=λhk h=>CG hk h
structure KK(P:Program)(w:World)(κ:Type)[DecidableEq κ] where
 knd:HeapKind P w κ
 at_:Hp->κ->Addr->Prop
 same:∀{H H':Hp} {k:κ} {a:Addr},ar H H'->at_ H k a->at_ H' k a
 upd_:∀{H:Hp} {k:κ} {a z:Addr} {o:HO},at_ H k a->(∀vs,H z≠some (.tup vs))->at_ (upd H z o) k a
 is_:∀{H:Hp} {h:Heap} {k:κ} {a:Addr},j4 P w H h->at_ H k a->knd.is h k a
 room:∀{A:Around},A.units+2 < cLine->knd.room A.in1
def pH(x:κ×Addr×V)(y:κ×Addr×Value):Prop:=x.1=y.1/\x.2.1=y.2.1/\aP x.2.2 y.2.2
section
variable [DecidableEq κ] (kk:KK P w κ)
def dO(d:Addr)(xs:List (κ×Addr×V)):HO:=.ext λh=>(d == sysModules)=false/\∃o es ep ys,h.get? d=some o/\o.ExactDict/\o.data=.dict es ep/\es.toList=ys.map (entryOfKey kk.knd)/\Paired pH xs ys
structure bH(H:Hp)(d:Addr)(xs:List (κ×Addr×V)):Prop where
 ob:H d=some (dO kk d xs)
 ks:∀x∈xs,kk.at_ H x.1 x.2.1
 nd:(xs.map (·.1)).Nodup
 sz:xs.length<=100000
def hV(xs:List (κ×Addr×V))(k:κ):Option V:=(xs.find? λx=>decide (x.1=k)).map (·.2.2)
def eB(xs:List (κ×Addr×V))(k:κ)(a:Addr)(v:V):List (κ×Addr×V):=if (hV xs k).isSome then xs.map (λx=>if x.1=k then(x.1,x.2.1,v)else x)else xs++[(k,a,v)]
variable {kk}
theorem bH.same{xs:List (κ×Addr×V)}(h:bH kk H d xs)(s:ar H H'):bH kk H' d xs:=⟨s _ _ h.ob,λx hx=>kk.same s (h.ks x hx),h.nd,h.sz⟩
theorem Paired.len'{β:Type}{F:α->β->Prop}{l:List α}{m:List β}(h:Paired F l m):l.length=m.length:=Paired.length h
theorem CC{xs:List (κ×Addr×V)}{ys:List (κ×Addr×Value)}(h:Paired pH xs ys):xs.map (·.1)=ys.map (·.1):=by
 induction h with
 | nil=>rfl
 | cons r _ ih=>rw [ad5,ad5,ih,r.1]
theorem rY{xs:List (κ×Addr×V)}{ys:List (κ×Addr×Value)}(h:Paired pH xs ys)(k:κ):(hV xs k=none/\atKey ys k=none)\/∃v p,hV xs k=some v/\atKey ys k=some p/\aP v p.2:=by
 induction h with
 | nil=>exact .inl ⟨rfl,rfl⟩
 | @cons x y xs ys r _ ih=>
  unfold hV atKey at ih |-;rw [an4,an4,<-r.1]
  by_cases hk:x.1=k
  ·rw [decide_eq_true hk]
   exact .inr ⟨_,_,rfl,rfl,r.2.2⟩
  ·rw [decide_eq_false hk]
   exact ih
theorem wO{xs:List (κ×Addr×V)}{ys:List (κ×Addr×Value)}(h:Paired pH xs ys){k:κ}{v:V}(r:aP v u):Paired pH (eB xs k a v) (storedH ys k a u):=by
 rcases rY h k with⟨h1,h2⟩ | ⟨v',p,h1,h2,_⟩
 ·rw [storedH_new h2]
  unfold eB;rw [h1];show Paired pH (xs++[(k,a,v)]) (ys++[(k,a,u)]);clear h1 h2
  induction h with
  | nil=>exact .cons ⟨rfl,rfl,r⟩ .nil
  | cons r' _ ih=>exact .cons r' ih
 ·rw [storedH_old h2]
  unfold eB;rw [h1];show Paired pH (xs.map _) (ys.map _);clear h1 h2
  induction h with
  | nil=>exact .nil
  | @cons x y xs ys r' _ ih=>
   rw [ad5,ad5];refine .cons ?_ ih;unfold putAt;rw [<-r'.1]
   by_cases hk:x.1=k
   ·rw [if_pos hk,if_pos hk]
    exact⟨rfl,r'.2.1,r⟩
   ·rw [if_neg hk,if_neg hk]
    exact r'
variable {xs:List (κ×Addr×V)} {k:κ}
theorem hZ(ok:j4 P w H h)(D:bH kk H d xs):(d == sysModules)=false/\∃ys,h.DictOfH kk.knd d ys/\Paired pH xs ys:=by
 obtain⟨⟨hd,o,es,ep,ys,ho,hx,hda,he,hp⟩,_⟩:=ok d _ D.ob;refine⟨hd,ys,⟨o,es,ep,ho,hx,hda,he,λy hy=>?_,by rw [<-CC hp];exact D.nd⟩,hp⟩
 have:∀(xs:List (κ×Addr×V)) (ys:List (κ×Addr×Value)),Paired pH xs ys->(∀x∈xs,kk.at_ H x.1 x.2.1)->∀y∈ys,kk.at_ H y.1 y.2.1:=by
  intro xs ys h
  induction h with
  | nil=>intro _ y hy;cases hy
  | @cons x y xs ys r _ ih=>
   intro hk y' hy;rcases ab0.mp hy with rfl | hy
   ·have:=hk x (by simp)
    rw [r.1,r.2.1]at this;exact this
   ·exact ih (λx hx=>hk x (by simp [hx])) y' hy
 exact kk.is_ ok (this xs ys hp D.ks y hy)
theorem aK.sysB(I:aK X pins Z H s):sysModules < s.heap.objs.size:=ap4 ∅ (I.mod.glob.keeps I.bk).lt
variable {kk':KK X.prog X.w κ}
theorem xj{t':Nat}{v:V}{ys:List (κ×Addr×Value)}(I:aK X pins Z H s)(D:bH kk' H d xs)(hd:(d == sysModules)=false)(hp:Paired pH xs ys)(r:aP v u)(dd:h'.DictOfH kk'.knd d (storedH ys k a u))(hs:Heap.SameBut d s.heap h'):
  aK X pins Z (upd H d (dO kk' d (eB xs k a v))) { s with heap:=h',toks:=t' }:=by
 obtain⟨o,es,ep,ho,hx,hda,he,_,_⟩:=dd;refine I.write (x:=d) (e:=d) (by rw [D.ob];trivial) (.inl rfl) (λb ob hb q=>?_) ⟨o,ho⟩ ⟨⟨hd,o,es,ep,_,ho,hx,hda,he,wO hp r⟩,⟨o,ho⟩,?_⟩
 ·rw [hs.2 b hb]
  exact q
 ·rintro h1 h2 ⟨g1,o',es',ep',ys',ho',r'⟩ keep
  exact⟨g1,o',es',ep',ys',keep _ ho',r'⟩
theorem FP{v:V}{Q:Unit->Shared->Prop}(hu:X.A.units+2 < cLine)(I:aK X pins Z H s)(D:bH kk' H d xs)(hk:kk'.at_ H k a)(r:aP v u)(q:∀s',aK X pins Z (upd H d (dO kk' d (eB xs k a v))) s'->Q Unit.unit s'):
  wpAny (model X.prog X.w) X.A (setItem (.ref d) (.ref a) u) Q E s:=by
 obtain⟨hd,ys,dd,hp⟩:=hZ I.hok D
 have hl:ys.length<=sizeLine:=by
  have:=D.sz
  have:=Paired.len' hp
  rw [sizeLine_eq];omega
 exact wpAny_setItem_heap (kk'.room hu) (kk'.is_ I.hok hk) dd (λh' dd' hs=>q _ (xj I D hd hp r dd' hs)) hl
theorem FO(hu:X.A.units+2 < cLine)(I:aK X pins Z H s)(D:bH kk' H d xs)(hk:kk'.at_ H k a)(q:∀t,Q (hV xs k).isSome { s with toks:=t }):
  wpAny (model X.prog X.w) X.A (contains (.ref d) (.ref a)) Q E s:=by
 obtain⟨hd,ys,dd,hp⟩:=hZ I.hok D;unfold contains
 try with_reducible refine ae3 ?_
 refine aa0 (ai4 dd.typeIs slot_dict_contains.lookup ?_);show wpAny _ _ (if (some (Value.builtin "dict.__contains__") == some Value.none)=true then _ else _) _ E s;rw [if_neg (by rw [beq_builtin_none];exact ab3)]
 refine aa0 (wpAny_callSpecialUnlessNone?_slot (name:=Str.ofString "__contains__") dd.typeIs slot_dict_contains
  (af6 slot_dict_contains dd.typeIs entry_dict_contains ?_ (args_dict_contains _ _)))
 show wpAny _ _ (dictGet d (.ref a) >>= _) _ _ s;refine aa0 (wpAny_dictGet_heap (kk'.room hu) (kk'.is_ I.hok hk) dd ?_);rcases rY hp k with⟨h1,h2⟩ | ⟨v,p,h1,h2,_⟩
 ·rw [h2]
  rw [h1]at q;show wpAny _ _ (Builtin.Dict.pendingKey? d (.ref a) >>= _) _ _ _;exact aa0 (wpAny_pendingKey_other hd (aa6 ⟨_,rfl,ae4 (q _)⟩))
 ·rw [h2]
  rw [h1]at q;show wpAny _ _ (ret (.bool true)) _ _ _;exact aa6 ⟨_,rfl,ae4 (q _)⟩
def Dn(kk:KK P w κ):R2:=λx y H Q=>∃d a k xs,x=.ref a/\y=.ref d/\bH kk H d xs/\kk.at_ H k a/\Q (.bl (!(hV xs k).isSome)) H
theorem AM(hu:X.A.units+2 < cLine):dE X (compareOp .NotIn) (Dn kk'):=by
 rintro pins s Z H x y v u Q I rx ry ⟨d,a,k,xs,rfl,rfl,D,hk,q⟩;cases rx;cases ry;show wpAny _ _ (do return Value.bool (!(<-contains (.ref d) (.ref a))):Sem Value) _ _ s;exact aa0 (FO hu I D hk λt=>aa6 ⟨.bl (!(hV xs k).isSome),H,I.tok t,rfl,q⟩)
def Gm(kk:KK P w κ):R2:=λx y H Q=>∃d a k xs v,x=.ref d/\y=.ref a/\bH kk H d xs/\kk.at_ H k a/\hV xs k=some v/\Q v H
theorem Hr(hu:X.A.units+2 < cLine):xV X (Gm kk'):=by
 intro value slice pins s Z H x y v u Q I rx ry h hs;obtain⟨d,a,k,xs,z,rfl,rfl,D,hk,hv,q⟩:=h;cases rx;cases ry;obtain⟨hd,ys,dd,hp⟩:=hZ I.hok D;have hT:s.TypeIs (.ref d) "dict":=dd.typeIs;rcases rY hp k with⟨h1,_⟩ | ⟨v',p,h1,h2,r⟩
 ·rw [h1]at hv;cases hv
 rw [h1]at hv;cases hv;unfold subscriptTail;refine aa0 ?_;rw [getitemInPython_of_ne hT.not_modules];refine aa0 (ai4 hT PySem.F.slot_dict_getitem.lookup ?_)
 have fin:wpAny (model X.prog X.w) X.A (subscripted slice false (.ref d) (.ref a)) (λr Zn=>wpAny (model X.prog X.w) X.A (letTemporaryGo value (.ref d) r >>= λ_=>pure r) (EP X pins Z Q) X.xe Zn) X.xe s:=by
  rw [hs];exact wpAny_operating (wpAny_getItem_heap (kk'.room hu) (kk'.is_ I.hok hk) dd h2 (aa0 (wpAny_letTemporaryGo (aa6 ⟨z,H,I.tok _,r,q⟩))))
 first
  | exact aa6 (aa0 fin)
  | exact aa0 (aa6 (aa0 fin))
  | exact aa0 fin
def Gp(kk:KK P w κ):BY:=λo i v H Q=>∃d a k xs,o=.ref d/\i=.ref a/\bH kk H d xs/\kk.at_ H k a/\Q (upd H d (dO kk d (eB xs k a v)))
theorem Fb(hu:X.A.units+2 < cLine):Ee X (Gp kk'):=by
 rintro pins s Z H o i v ov iv u Q I ro ri rv ⟨d,a,k,xs,rfl,rfl,D,hk,q⟩;cases ro;cases ri;exact FP hu I D hk rv λs' I'=>⟨_,I',q⟩
def DY(kk:KK P w κ):V->List V->Hp->VK->Prop:=λx vs H Q=>∃d a k xs,x=.ref d/\vs=[.ref a]/\bH kk H d xs/\kk.at_ H k a/\Q ((hV xs k).getD .non) H
theorem CD(hu:X.A.units+2 < cLine):BU X "dict.get" (DY kk'):=by
 rintro pins s Z H x vs v us Q I rx rv ⟨d,a,k,xs,rfl,rfl,D,hk,q⟩;cases rx;obtain⟨u,rfl,ru⟩:=rv.one;cases ru;obtain⟨hd,ys,dd,hp⟩:=hZ I.hok D;refine call_meetsIn PySem.F.slot_dict_get dd.typeIs PySem.F.entry_dict_get (PySem.F.args_dict_get_2 _ _) (meetsH_dict_get kk'.knd d a hd) ⟨kk'.room hu,k,ys,kk'.is_ I.hok hk,dd,?_⟩;rcases rY hp k with⟨h1,h2⟩ | ⟨v',p,h1,h2,r⟩
 ·rw [h1]at q
  rw [h2];exact⟨.non,H,I.tok _,rfl,q⟩
 ·rw [h1]at q
  rw [h2];exact⟨v',H,I.tok _,r,q⟩
def D6(kk:KK P w κ)(to:TE)(t:TA):TE:=λZ H Q=>to Z H λx H1=>(∃d xs,x=.ref d/\bH kk H1 d xs)/\t Z H1 λvs H2=>DY kk x vs H2 Q
theorem C3{to:TE}(hu:X.A.units+2 < cLine)(ho:PE X o to)(ha:PA X [e] t)(hbase:attributeBase o "get" X.env (eval o X.env)=eval o X.env:=by rfl)
  (hfew:((backTo cpos (starEach [e] X.env)).all (λx=>!x.1) && (backToKw cpos (keywordEach [] X.env)).all (λx=>x.1.isSome)
   && decide (([e]:List Expr).length+([]:List Keyword).length+(if ([]:List Keyword).isEmpty then 0 else 1) < 30))=true:=by rfl)
  (hline:(apos.endLine == cpos.line)=true:=by rfl) (hs:starEach [e] X.env=(false,eval e X.env)::starEach [] X.env:=by rfl) (hplain:(backTo cpos (starEach [] X.env)).any (·.1)=false:=by rfl) :
  PE X (.Call (.Attribute o "get" apos) [e] [] cpos) (D6 kk' to t):=by
 intro pins s Z H Q I h;refine wpAny_Call_method_late hbase hfew hline rfl (cH (ho pins s Z H _ I h) λv s1 zq0=>?_);obtain⟨x,H1,I1,r1,⟨d,xs,ex,D⟩,q1⟩:=zq0;subst ex;cases r1;obtain⟨_,ys,dd,_⟩:=hZ I1.hok D;refine⟨"dict","dict.get",PySem.F.plainAttrs_dict,PySem.F.slot_dict_get,PySem.F.type_dict_get,dd.typeIs,λa e=>?_,?_⟩
 ·cases e
  obtain⟨ob,_,_,h1,h2,_⟩:=dd;exact⟨ob,h1,h2.2.1⟩
 have hA:=ha cpos pins s1 Z H1 _ I1 q1;rw [hs]at hA |-
 refine Calls.callWith_builtin (by show(false || (backTo cpos (starEach [] X.env)).any (·.1))=false;rw [hplain]<;>rfl) (Calls.evalArgs_plain ?_)
 exact cH hA λus s2 ⟨vs,H2,I2,r2,q2⟩=>CD hu pins s2 Z H2 (.ref d) vs _ us Q I2 rfl r2 q2
theorem zG(kk:KK P w κ)(hb:sysModules < h.objs.size):dk P w H (h.push { cls:=.type "dict",data:=.dict #[] }) h.objs.size (dO kk h.objs.size []):=by
 refine⟨⟨beq_eq_false_iff_ne.mpr (Ne.symm (ac0 hb)),_,#[],0,[],aa8 _ rfl,⟨rfl,rfl,rfl⟩,rfl,rfl,.nil⟩,⟨_,aa8 _ rfl⟩,?_⟩;rintro h1 h2 ⟨g1,o',es',ep',ys',ho',r'⟩ keep;exact⟨g1,o',es',ep',ys',keep _ ho',r'⟩
def BC(kk:KK P w κ):TE:=λ_ H Q=>∀p,H p=none->Q (.ref p) (upd H p (dO kk p []))
theorem xy:PE X (.Dict [] [] pos) (BC kk'):=λpins s Z H Q I h=>
 wpAny_Dict_empty ⟨.ref s.heap.objs.size,_,I.laid (a:=s.heap.objs.size) (o:=dO kk' s.heap.objs.size []) (t':=s.toks) (λ_ _ q=>aa4 _ q) (aa7 _) (zG kk' I.sysB),rfl,h _ (I.hok.fresh (aa7 _))⟩
def D8(kk:KK P w κ)(tk tv:TE):TE:=λZ H Q=>∀p,H p=none->tk Z (upd H p (dO kk p [])) λx H1=>tv Z H1 λv H2=>H2 p=some (dO kk p [])/\∃a k,x=.ref a/\kk.at_ H2 k a/\Q (.ref p) (upd H2 p (dO kk p [(k,a,v)]))
theorem C7{e1 e2:Expr}{tk tv:TE}(hu:X.A.units+2 < cLine)(h1:PE X e1 tk)(h2:PE X e2 tv)(hr:∀{B:Around},B.units=X.A.units->kk'.knd.room B):PE X (.Dict [some e1] [e2] pos) (D8 kk' tk tv):=by
 intro pins s Z H Q I h;have hn:=I.hok.fresh (aa7 s.heap.objs.size);have I1:=I.laid (a:=s.heap.objs.size) (o:=dO kk' s.heap.objs.size []) (h':=s.heap.push { cls:=.type "dict",data:=.dict #[] }) (t':=s.toks) (λ_ _ q=>aa4 _ q) (aa7 _) (zG kk' I.sysB);rw [arm_eval_Dict,zip_pairTrees [some e1] [e2] X.env pos rfl rfl,dictDisplay_pairs (pairTrees [some e1] [e2] X.env pos) (by simp [pairTrees]) (by simp [pairTrees])];refine aa0 (am4 (aa0 ?_));unfold subDict;refine aa0 (wpAny_alloc ?_);refine aa0 (ae3 ?_);rw [if_pos (by simp [pairTrees])];refine aa0 (pairTrees_cons_walk (cH (h1 pins _ Z _ _ I1 (h _ hn)) λu s1 ⟨x,H1,I1,rx,q1⟩=>cH (h2 pins s1 Z H1 _ I1 q1) λw2 s2 ⟨v,H2,I2,rv,hob,a,k,ex,hk,q2⟩=>pairTrees_nil_walk ?_));subst ex;cases rx;have D:bH kk' H2 s.heap.objs.size []:=⟨hob,(λ_ z=>nomatch z),List.nodup_nil,ac1 _⟩;obtain⟨hd,ys,dd,hp⟩:=hZ I2.hok D;cases hp;refine ae3 ?_;refine aa0 ?_;rw [ag2];refine aa0 (aa0 (wpAny_dictSet_heap (hr rfl) (kk'.is_ I2.hok hk) dd (λh' dd' hs=>aa6 ?_) (ac1 _)));show wpAny _ _ (forIn [] _ _) _ _ _;rw [al5];exact aa6 (aa6 (aa6 (aa6 ⟨.ref s.heap.objs.size,_,xj I2 D hd .nil rv dd' hs,rfl,q2⟩)))
end
theorem uf:∀{c:List Int} {its:List Value},aU (c.map V.int) its->ItemsAre (intKind P w) c its
 | [],_,r=>by cases r;exact .nil
 | i::c,_,r=>by
  rw [ad5]at r
  cases r with
  | cons r rr=>
   obtain⟨t,rfl⟩:=r;exact .cons (by show Value.isInt i (.int i t)=true;simp [Value.isInt]) (uf rr)
theorem Aa(ok:j4 P w H h)(e:H a=some (.tup (c.map V.int))):zi P w h c a:=by
 obtain⟨_,its,r,o,ho,hc,n,hd⟩:=ok a _ e;exact⟨o,its.toArray,n,ho,hc,hd,uf (by simpa using r)⟩
def tN(P:Program)(w:World):KK P w (List Int) where
 knd:=FL P w
 at_:=λH c a=>H a=some (.tup (c.map V.int))
 same:=λs h=>s _ _ h
 upd_:=λh hz=>by rw [aj (λe=>hz _ (by rw [<-e];exact h))];exact h
 is_:=λok e=>Aa ok e
 room:=λhu=>by show _+1 < cLine;omega
def nS(H:Hp):Option (List Int)->V->Prop
 | none,v=>v=.non
 | some c,v=>∃a,v=.ref a/\H a=some (.tup (c.map V.int))
def Fv(H:Hp):List (Option (List Int))->List V->Prop
 | [],[]=>True
 | k::ks,v::vs=>nS H k v/\Fv H ks vs
 | _,_=>False
theorem nS.imp{k:Option (List Int)}{v:V}(f:∀a c,H a=some (.tup (List.map V.int c))->H' a=some (.tup (List.map V.int c)))(h:nS H k v):nS H' k v:=by
 cases k with
 | none=>exact h
 | some c=>obtain⟨a,e,ha⟩:=h;exact⟨a,e,f a c ha⟩
theorem Fv.imp(f:∀a c,H a=some (.tup (List.map V.int c))->H' a=some (.tup (List.map V.int c))):∀{ks:List (Option (List Int))} {vs:List V},Fv H ks vs->Fv H' ks vs
 | [],[],_=>True.intro
 | _::_,_::_,⟨h1,h2⟩=>⟨h1.imp f,h2.imp f⟩
theorem qT(ok:j4 P w H h):∀{ks:List (Option (List Int))} {vs:List V} {its:List Value},Fv H ks vs->aU vs its->du P w h ks its
 | [],[],_,_,r=>by cases r;exact .nil
 | k::ks,v::vs,_,⟨h1,h2⟩,r=>by
  cases r with
  | cons r rr=>
   refine .cons ?_ (qT ok h2 rr)
   cases k with
   | none=>
    have h1:v=.non:=h1;subst h1;exact r
   | some c=>
    obtain⟨a,rfl,ha⟩:=h1;exact⟨a,r,Aa ok ha⟩
def iM(P:Program)(w:World):KK P w (List (Option (List Int))) where
 knd:=F2 P w
 at_:=λH ks a=>∃vs,H a=some (.tup vs)/\Fv H ks vs
 same:=λs ⟨vs,e,h⟩=>⟨vs,s _ _ e,h.imp λ_ _ z=>s _ _ z⟩
 upd_:=λ{H k a z o} ⟨vs,e,h⟩ hz=>by
  have f:∀b ws,H b=some (.tup ws)->upd H z o b=some (.tup ws):=λb ws hb=>by rw [aj (λq=>hz _ (by rw [<-q];exact hb))];exact hb
  exact⟨vs,f _ _ e,h.imp λ_ _ q=>f _ _ q⟩
 is_:=λ{H h k a} ok ⟨vs,e,hn⟩=>by
  obtain⟨_,its,r,o,ho,hc,n,hd⟩:=ok a _ e;exact⟨o,its.toArray,n,ho,hc,hd,by simpa using qT ok hn r⟩
 room:=λhu=>by show _+1+1 < cLine;omega
theorem ED{B:Around}(hu:A.units+2 < cLine)(e:B.units=A.units):(iM P w).knd.room B:=by show B.units+1 < cLine;omega
theorem fE(hr:dv k A):A.units+2 < cLine:=ab5 (Nat.add_le_add_left (by decide:2<=64) _) hr.units
section
variable [DecidableEq κ] {kk:KK P w κ} {xs:List (κ×Addr×V)} {k:κ} {v:V}
theorem yX:(eB xs k a v).map (·.1)=if (hV xs k).isSome then xs.map (·.1)else xs.map (·.1)++[k]:=by
 unfold eB
 split
 ·rw [ai6]
  refine List.map_congr_left λx _=>?_;show(if x.1=k then(x.1,x.2.1,v)else x).1=x.1
  split<;>rfl
 ·rw [ab7];rfl
theorem rX(h:hV xs k=none):k∉xs.map (·.1):=by
 intro hm;obtain⟨x,hx,rfl⟩:=ac4.mp hm;unfold hV at h
 cases e:xs.find? λy=>decide (y.1=x.1)with
 | none=>exact absurd (List.find?_eq_none.mp e x hx) (by simp)
 | some y=>rw [e]at h;cases h
theorem bH.put(D:bH kk H d xs)(hk:kk.at_ H k a)(hl:xs.length < 100000):bH kk (upd H d (dO kk d (eB xs k a v))) d (eB xs k a v):=by
 have nt:∀vs,H d≠some (.tup vs):=λvs e=>by rw [D.ob]at e;cases e
 refine⟨ae,λx hx=>?_,?_,?_⟩
 ·refine kk.upd_ ?_ nt
  unfold eB at hx
  split at hx
  ·obtain⟨y,hy,rfl⟩:=ac4.mp hx
   have:=D.ks y hy
   show kk.at_ H (if y.1=k then(y.1,y.2.1,v)else y).1 (if y.1=k then(y.1,y.2.1,v)else y).2.1
   split<;>exact this
  ·rcases ad2.mp hx with hx | hx
   ·exact D.ks x hx
   ·rw [ac3.mp hx];exact hk
 ·rw [yX]
  cases e:hV xs k with
  | none=>
   show(xs.map (·.1)++[k]).Nodup
   refine ao2.mpr ⟨D.nd,by simp,λx hx y hy=>?_⟩;rw [ac3.mp hy];rintro rfl;exact rX e hx
  | some z=>exact D.nd
 ·unfold eB
  split
  ·rw [aa1];omega
  ·rw [ab2];simp;omega
theorem bH.upd{z:Addr}{o:HO}(D:bH kk H d xs)(hz:d≠z)(nt:∀vs,H z≠some (.tup vs)):bH kk (upd H z o) d xs:=⟨by rw [aj hz];exact D.ob,λx hx=>kk.upd_ (D.ks x hx) nt,D.nd,D.sz⟩
theorem hX:hV (eB xs k a v) k=some v:=by
 unfold eB
 cases e:hV xs k with
 | none=>
  show hV (xs++[(k,a,v)]) k=some v;unfold hV at e |-;rw [List.find?_append]
  cases e2:xs.find? λx=>decide (x.1=k)with
  | some y=>rw [e2]at e;cases e
  | none=>simp
 | some z=>
  show hV (xs.map _) k=some v;have e0:=e;unfold hV at e0 |-;rw [List.find?_map]
  have hf:(λx:κ×Addr×V=>decide (x.1=k))∘(λx=>if x.1=k then(x.1,x.2.1,v)else x)=λx=>decide (x.1=k):=by
   funext x
   show decide ((if x.1=k then(x.1,x.2.1,v)else x).1=k)=decide (x.1=k)
   split<;>rfl
  rw [hf]
  cases e2:xs.find? λx=>decide (x.1=k)with
  | none=>rw [e2]at e0;cases e0
  | some y=>
   have:y.1=k:=by have:=List.find?_some e2;simpa using this
   show some ((if y.1=k then(y.1,y.2.1,v)else y).2.2)=some v;rw [if_pos this]
theorem fR{k':κ}(h:k'≠k):hV (eB xs k a v) k'=hV xs k':=by
 unfold eB
 split
 ·unfold hV
  rw [List.find?_map]
  have hf:(λx:κ×Addr×V=>decide (x.1=k'))∘(λx=>if x.1=k then(x.1,x.2.1,v)else x)=λx=>decide (x.1=k'):=by
   funext x
   show decide ((if x.1=k then(x.1,x.2.1,v)else x).1=k')=decide (x.1=k')
   split<;>rfl
  rw [hf]
  cases e2:xs.find? λx=>decide (x.1=k')with
  | none=>rfl
  | some y=>
   have hy:y.1=k':=by have:=List.find?_some e2;simpa using this
   show some ((if y.1=k then(y.1,y.2.1,v)else y).2.2)=some y.2.2;rw [if_neg (by rw [hy];exact h)]
 ·unfold hV
  rw [List.find?_append]
  cases e2:xs.find? λx=>decide (x.1=k')with
  | some y=>rfl
  | none=>
   have:decide (k=k')=false:=decide_eq_false (λz=>h z.symm)
   simp [this]
end
def tw:List (Option Int)->Option (List Int)
 | []=>some []
 | none::_=>none
 | some x::l=>(tw l).map (x::·)
theorem rq:∀{l:List (Option Int)} {r:List Int},l=r.map some->tw l=some r
 | [],[],_=>rfl
 | [],_::_,h=>by cases h
 | x::l,[],h=>by cases h
 | x::l,y::r,h=>by
  rw [ad5]at h;cases h
  show(tw (r.map some)).map (y::·)=_
  rw [rq rfl];rfl
theorem rm:∀{l:List (Option Int)} {i:Nat},l[i]?=some none->tw l=none
 | [],_,h=>by cases h
 | none::_,_,_=>rfl
 | some x::l,0,h=>by cases h
 | some x::l,i+1,h=>by
  show(tw l).map (x::·)=none
  rw [rm (l:=l) (i:=i) h];rfl
def mV(Ss:List bU)(ms:List Int)(b:Option (List Int))(c:List Int):List (Option Int):=List.zipWith (λS m=>S.after m b c) Ss ms
def fM(Ss:List bU)(ms:List Int)(b:Option (List Int))(c:List Int):Option (List Int):=tw (mV Ss ms b c)
def dG(Ss:List bU)(ms:List Int)(b:Option (List Int)):Bool:=(List.zipWith (λS m=>S.closes m b) Ss ms).all id
abbrev MS:=Option (List Int)×List Int
variable {met:List MS}
def cC(Ss:List bU)(s:MS)(c:List Int):Option MS:=(fM Ss s.2 s.1 c).map λms=>(some c,ms)
def cg(s:MS):List (Option (List Int)):=[s.1,some s.2]
theorem qU{s t:MS}(h:cg s=cg t):s=t:=by
 obtain⟨a,b⟩:=s;obtain⟨c,d⟩:=t;unfold cg at h;simp at h;rw [h.1,h.2]
def ef(Ss:List bU)(cols:List (List Int))(met:List MS)(s:MS)(xs:List (List Int×Addr×V)):Prop:=
 (∀c∈cols,∀s',cC Ss s c=some s'->∃j:Nat,met[j]?=some s'/\hV xs c=some (.int j))/\(∀c,(c∈cols->cC Ss s c=none)->hV xs c=none)/\xs.map (·.1)=cols.filter λc=>(cC Ss s c).isSome
theorem ef.more{s:MS}(h:ef Ss cols met s xs)(t:List MS):ef Ss cols (met++t) s xs:=
 ⟨λc hc s' e=>let ⟨j,h1,h2⟩:=h.1 c hc s' e;⟨j,by rw [ab1 (aa3.mp h1).1];exact h1,h2⟩,h.2⟩
theorem ef.put{s s':MS}(h:ef Ss (cols.take i) met s xs)(hc:cols[i]?=some c)(hn:cC Ss s c=some s')(hj:met[j]?=some s')(hnd:cols.Nodup):ef Ss (cols.take (i+1)) met s (eB xs c a (.int j)):=by
 have et:cols.take (i+1)=cols.take i++[c]:=by rw [ac5,hc];rfl
 rw [et]
 have hct:c∉cols.take i:=λhm=>by
  obtain⟨k,hk⟩:=ah0 hm
  have hki:k < i:=by
   have:=(aa3.mp hk).1
   rw [ad1]at this;omega
  rw [List.getElem?_take,if_pos hki]at hk;obtain⟨k1,k2⟩:=aa3.mp hk;obtain⟨i1,i2⟩:=aa3.mp hc
  have:=(List.getElem_inj hnd).mp (k2.trans i2.symm)
  omega
 refine⟨?_,?_,?_⟩
 rotate_left
 rotate_left
 ·have h0:=h.2.1 c λhm=>absurd hm hct
  unfold eB;rw [h0,List.filter_append,<-h.2.2];simp [hn]
 ·intro c' hc' t ht
  by_cases e:c'=c
  ·subst e
   rw [hn]at ht;cases ht;exact⟨j,hj,hX⟩
  ·rcases ad2.mp hc' with hc' | hc'
   ·rw [fR e]
    exact h.1 c' hc' t ht
   ·exact absurd (ac3.mp hc') e
 ·intro c' hc'
  have e:c'≠c:=λe=>by
   have:=hc' (by rw [e];simp)
   rw [e,hn]at this;cases this
  rw [fR e];exact h.2.1 c' λhm=>hc' (by simp [hm])
theorem ef.skip{s:MS}(h:ef Ss (cols.take i) met s xs)(hc:cols[i]?=some c)(hn:cC Ss s c=none):ef Ss (cols.take (i+1)) met s xs:=by
 have et:cols.take (i+1)=cols.take i++[c]:=by rw [ac5,hc];rfl
 rw [et];refine⟨?_,?_,?_⟩
 ·intro c' hc' t ht
  rcases ad2.mp hc' with hc' | hc'
  ·exact h.1 c' hc' t ht
  ·rw [ac3.mp hc',hn]at ht
   cases ht
 ·intro c' hc'
  refine h.2.1 c' λhm=>hc' (by simp [hm])
 ·rw [List.filter_append,<-h.2.2]
  simp [hn]
def kg(met:List MS)(xs:List (List (Option (List Int))×Addr×V)):Prop:=(∀(j:Nat) (s:MS),met[j]?=some s->hV xs (cg s)=some (.int j))/\∀k,hV xs k≠none->∃s∈met,k=cg s
theorem kg.fresh{xs:List (List (Option (List Int))×Addr×V)}{s:MS}(h:kg met xs)(e:hV xs (cg s)=none):s∉met:=λhs=>by
 obtain⟨j,hj⟩:=ah0 hs;rw [h.1 j s hj]at e;cases e
theorem kg.known{xs:List (List (Option (List Int))×Addr×V)}{s:MS}(h:kg met xs)(e:hV xs (cg s)≠none):∃j:Nat,met[j]?=some s/\hV xs (cg s)=some (.int j):=by
 obtain⟨t,ht,e2⟩:=h.2 _ e;cases qU e2;obtain⟨j,hj⟩:=ah0 ht;exact⟨j,hj,h.1 j s hj⟩
theorem kg.put{xs:List (List (Option (List Int))×Addr×V)}{s:MS}(h:kg met xs)(hs:s∉met):kg (met++[s]) (eB xs (cg s) a (.int met.length)):=by
 constructor
 ·intro j t ht
  by_cases hj:j < met.length
  ·rw [ab1 hj]at ht
   have hne:cg t≠cg s:=λe=>hs (by rw [<-qU e];exact ab8 ht);rw [fR hne];exact h.1 j t ht
  ·rw [ab9 ()]at ht
   have h0:j - met.length=0:=by
    have:=(aa3.mp ht).1
    simp at this;omega
   rw [h0]at ht;cases ht;rw [hX,show j=met.length by omega]
 ·intro k hk
  by_cases e:k=cg s
  ·exact⟨s,by simp,e⟩
  ·rw [fR e]at hk
   obtain⟨t,ht,e2⟩:=h.2 k hk;exact⟨t,by simp [ht],e2⟩
theorem n6[DecidableEq α]:∀(l u:List α),l.Nodup->(∀x∈l,x∈u)->l.length<=u.length
 | [],_,_,_=>ac1 _
 | x::l,u,h,hs=>by
  have hx:=hs x (by simp);have hn:=ai3.mp h
  have:=n6 l (u.erase x) hn.2 λy hy=>(List.mem_erase_of_ne (λe=>hn.1 (by rw [<-e];exact hy))).mpr (hs y (by simp [hy]))
  rw [List.length_erase_of_mem hx]at this
  have:0 < u.length:=List.length_pos_of_mem hx
  rw [ac7];omega
structure w6(Ss:List bU)(cols:List (List Int))(met:List MS):Prop where
 nd:met.Nodup
 st:met[0]?=some (none,Ss.map (·.start))
 sub:∀(i:Nat) (s:MS),met[i]?=some s->0 < i->∃(j:Nat) (t:MS) (c:List Int),j < i/\met[j]?=some t/\c∈cols/\cC Ss t c=some s
theorem GF{c:TT}{Z:L2.St}{X Y:Hp->Prop}(h:∀A B:Hp->Prop,(∀H,X H->A H)->(∀H,Y H->B H)->c Z H λb H1=>if b=true then A H1 else B H1):c Z H λb H1=>if b=true then X H1 else Y H1:=h X Y (λ_ x=>x) λ_ x=>x
def xg(zs:List Addr)(H H':Hp):Prop:=∀b o,b∉zs->H b=some o->H' b=some o
theorem aK.laidN{t':Nat}(I:aK X pins Z H s)(k:∀b u,s.heap.get? b=some u->h'.get? b=some u)(old:∀b,b < s.heap.objs.size->H' b=H b)
  (new:∀b o,s.heap.objs.size<=b->H' b=some o->dk X.prog X.w H' h' b o):aK X pins Z H' { s with heap:=h',toks:=t' }:=by
 have sm:∀b o,H b=some o->H' b=some o:=λb o e=>by rw [old b (I.hok b o e).lt];exact e
 refine I.un ⟨λb u q _ _ _=>k b u q,λb u q _ _ _=>⟨u.slots,k b u q⟩,λb u q n _=>by rw [old b (aa9 q)];exact n,λb u q _=>⟨u,k b u q⟩,λb xs q=>sm b _ q,λb u v q=>sm b _ q,λb ps q=>⟨#[],by rw [sm b _ q];simp⟩⟩ λb o e=>?_
 by_cases hb:b < s.heap.objs.size
 ·rw [old b hb]at e
  exact(I.hok b o e).stay (λc v _ q=>k c v q) (λc q=>sm c _ q) λc xs q=>sm c _ q
 ·exact new b o (ao8 hb) e
def BP(h:Heap)(d:Addr)(es:Array DictEntry)(ep:Nat):Prop:=∃o,h.get? d=some o/\o.data=.dict es ep
def iT(h:Heap)(it d:Addr)(i n ep:Nat):Prop:=∃(z ok ov:Value) (f:Bool),h.get? it=some { cls:=.type "dict_itemiterator",data:=.fields #[z,.bool f,.ref d,.int i 0,.int n 0,.int ep 0,ok,ov] }/\((z=.none/\f=false)\/∃a oa,z=rawInt ((a:Nat):Int)/\h.get? a=some oa/\a≠it)
section
variable {it:Addr} {es:Array DictEntry} {ep:Nat}
theorem Ct{Q:Option Value->Shared->Prop}(st:iT s.heap it d i es.size ep)(hd:BP s.heap d es ep)(hi:i < es.size)
  (q:∀h',iT h' it d (i+1) es.size ep->h'.get? s.heap.objs.size=some { cls:=.type "tuple",data:=.seq #[es[i].key,es[i].val] }->h'.objs.size=s.heap.objs.size+1->(∀b o,b≠it->s.heap.get? b=some o->h'.get? b=some o)->Q (some (.ref s.heap.objs.size)) { s with heap:=h' }) :
  wpAny (model P w) A (pyNext (.ref it)) Q E s:=by
 obtain⟨h0,g,dr,tk,os⟩:=s;obtain⟨z,ok,ov,f,hit,own⟩:=st;obtain⟨od,hod,hda⟩:=hd;have ty:Shared.TypeIs ⟨h0,g,dr,tk,os⟩ (.ref it) "dict_itemiterator":=⟨_,hit,rfl⟩;have lit:it < h0.objs.size:=aa9 hit;unfold pyNext;refine aa0 (ao6 (wpAny_callSpecial?_slot (name:=Str.ofString "__next__") ty PySem.F.slot_dict_itemiterator_next (af6 PySem.F.slot_dict_itemiterator_next ty PySem.F.entry_dict_itemiterator_next (aa0 (aa6 (aa0 (aa0 ?_)))) (PySem.F.args_dict_itemiterator_next_1 _))))
 first | refine aa0 (ag8 ty (aa6 (aa0 (ao0 hit rfl ?_)))) | refine aa0 (ai1 ty (aa6 (aa0 (ao0 hit rfl ?_))))
 simp only [show Builtin.Dict_items.ownsTuple "dict_itemiterator"=true by decide,if_true];show wpAny _ _ (if (Value.ref d == Value.none)=true then _ else _) _ _ _;rw [if_neg (by exact ab3)];refine aa0 (aa6 (aa0 (al7 hod hda ?_)));rw [if_neg (by simp)];refine aa0 (aa6 (aa0 (ap9 hod hda ?_)));rw [if_neg (by simp)];refine aa6 ?_;simp only [show ¬((i:Int) < 0)by omega,if_false,af8,Array.getElem?_eq_getElem hi];refine aa0 ?_
 first | refine aa0 (ag8 ty (aa6 (aa0 (aj2 ty ?_)))) | refine aa0 (ai1 ty (aa6 (aa0 (aj2 ty ?_))))
 show wpAny _ _ (setField (.ref it) 3 (rawInt ((i:Int)+1)) >>= _) _ _ ⟨h0,g,dr,tk,os⟩;refine aa0 (ae5 hit (by simp) λh1 e1 k1=>?_)
 have e1:h1.get? it=some { cls:=.type "dict_itemiterator",data:=.fields #[z,.bool f,.ref d,.int ((i+1:Nat):Int) 0,.int es.size 0,.int ep 0,ok,ov] }:=by
  rw [show((i+1:Nat):Int)=(i:Int)+1 by omega];simpa [rawInt]using e1
 have k1:Heap.SameBut it h0 h1:=k1;have ty1:Shared.TypeIs ⟨h1,g,dr,tk,os⟩ (.ref it) "dict_itemiterator":=⟨_,e1,rfl⟩;refine aa0 (ae3 (aa0 (aj2 ty1 (aa0 (aj2 ty1 ?_)))));show wpAny _ _ (Builtin.Dict_items.pairFromOwner (.ref it) 6 es[i].key es[i].val) _ _ ⟨h1,g,dr,tk,os⟩;unfold Builtin.Dict_items.pairFromOwner;refine aa0 (wpAny_newTuple ?_);rw [k1.1];have e2:=aa4 { cls:=.type "tuple",data:=.seq #[es[i].key,es[i].val] } e1
 have t2:(h1.push { cls:=.type "tuple",data:=.seq #[es[i].key,es[i].val] }).get? h0.objs.size=some { cls:=.type "tuple",data:=.seq #[es[i].key,es[i].val] }:=by rw [<-k1.1];exact aa8 _ rfl
 have z2:(h1.push { cls:=.type "tuple",data:=.seq #[es[i].key,es[i].val] }).objs.size=h0.objs.size+1:=by rw [af2,k1.1]
 have k2:∀b o,b≠it->h0.get? b=some o->(h1.push { cls:=.type "tuple",data:=.seq #[es[i].key,es[i].val] }).get? b=some o:=λb o hb e=>aa4 _ (k1.extBut b o hb e);generalize h1.push { cls:=.type "tuple",data:=.seq #[es[i].key,es[i].val] }=h2 at e2 t2 z2 k2;have fin:∀h3:Heap,iT h3 it d (i+1) es.size ep->Heap.SameBut it h2 h3->Q (some (.ref h0.objs.size)) ⟨h3,g,dr,tk,os⟩:=λh3 s3 k3=>q h3 s3 (k3.extBut _ _ (af1 lit) t2) (by show h3.objs.size=_;rw [k3.1,z2]) λb o hb e=>k3.extBut b o hb (k2 b o hb e);refine aa0 ?_;unfold Builtin.Dict_items.ownedTupleIsFree;rcases own with⟨rfl,rfl⟩ | ⟨a,oa,rfl,ha,hai⟩
 ·refine aa0 (ae6 e2 rfl (x:=.none) rfl (aa6 ?_))
  simp only [if_true];refine aa0 (ae6 e2 rfl (x:=ok) rfl (aa0 (ae6 e2 rfl (x:=ov) rfl (aa0 (ae5 e2 (by simp) λh3 e3 k3=>aa0 (ae5 e3 (by simp) λh4 e4 k4=>aa0 (ae5 e4 (by simp) λh5 e5 k5=>aa0 (ae5 e5 (by simp) λh6 e6 k6=>aa0 (ah8 (aa6 (aa6 ⟨_,rfl,aa6 ?_⟩)))))))))));have k3:Heap.SameBut it h2 h3:=k3;have k4:Heap.SameBut it h3 h4:=k4;have k5:Heap.SameBut it h4 h5:=k5;have k6:Heap.SameBut it h5 h6:=k6;have kk:Heap.SameBut it h2 h6:=⟨by rw [k6.1,k5.1,k4.1,k3.1],λb hb=>by rw [k6.2 b hb,k5.2 b hb,k4.2 b hb,k3.2 b hb]⟩;refine fin h6 ⟨_,_,_,_,e6,.inr ⟨h0.objs.size,_,rfl,kk.extBut _ _ (af1 lit) t2,af1 lit⟩⟩ kk
 ·refine aa0 (ae6 e2 rfl (x:=rawInt ((a:Nat):Int)) rfl ?_)
  show wpAny _ _ (loadIfAlive ((a:Int).toNat) >>= _) _ _ _;rw [af8];refine aa0 (PySem.W.kdx_alive (k2 a oa hai ha) ?_);simp only [Option.isNone_some,ad0,if_false];refine aa0 (ae6 e2 rfl (x:=.bool f) rfl ?_)
  cases f with
  | true=>
   rw [if_neg (by exact ab3)];refine aa6 ?_;simp only [ad0,if_false];exact aa6 (aa6 ⟨_,rfl,aa6 (fin h2 ⟨_,_,_,_,e2,.inr ⟨a,oa,rfl,k2 a oa hai ha,hai⟩⟩ (Heap.SameBut.refl _ _))⟩)
  | false=>
   rw [if_pos ⋯];refine aa0 (ae5 e2 (by simp) λh3 e3 k3=>aa6 ?_);have k3:Heap.SameBut it h2 h3:=k3;simp only [ad0,if_false];exact aa6 (aa6 ⟨_,rfl,aa6 (fin h3 ⟨_,_,_,_,e3,.inr ⟨a,oa,rfl,k3.extBut _ _ hai (k2 a oa hai ha),hai⟩⟩ k3)⟩)
theorem En{Q:Option Value->Shared->Prop}(hh:A.handled=none)(st:iT s.heap it d es.size es.size ep)(hd:BP s.heap d es ep)(q:∀h',Heap.ExtBut it s.heap h'->Q none { s with heap:=h' }):wpAny (model P w) A (pyNext (.ref it)) Q E s:=by
 obtain⟨z,ok,ov,f,hit,_⟩:=st;obtain⟨od,hod,hda⟩:=hd;have ty:s.TypeIs (.ref it) "dict_itemiterator":=⟨_,hit,rfl⟩;unfold pyNext;refine aa0 (ao6 (wpAny_callSpecial?_slot (name:=Str.ofString "__next__") ty PySem.F.slot_dict_itemiterator_next (af6 PySem.F.slot_dict_itemiterator_next ty PySem.F.entry_dict_itemiterator_next (aa0 (aa6 (aa0 (aa0 ?_)))) (PySem.F.args_dict_itemiterator_next_1 _))))
 first | refine aa0 (ag8 ty (aa6 (aa0 (ao0 hit rfl ?_)))) | refine aa0 (ai1 ty (aa6 (aa0 (ao0 hit rfl ?_))))
 simp only [show Builtin.Dict_items.ownsTuple "dict_itemiterator"=true by decide,if_true];show wpAny _ _ (if (Value.ref d == Value.none)=true then _ else _) _ _ _;rw [if_neg (by exact ab3)];refine aa0 (aa6 (aa0 (al7 hod hda ?_)));rw [if_neg (by simp)];refine aa0 (aa6 (aa0 (ap9 hod hda ?_)));rw [if_neg (by simp)];refine aa6 ?_;simp only [show ¬((es.size:Int) < 0)by omega,if_false,af8,Array.getElem?_eq_none (aa7 es.size)];refine aa0 ?_
 first | refine aa0 (ag8 ty (aa6 ?_)) | refine aa0 (ai1 ty (aa6 ?_))
 show wpAny _ _ (setField (.ref it) 2 .none >>= _) _ _ s;refine aa0 (wpAny_setField hit rfl (by simp) ?_);show wpAny _ _ (newExc (.type "StopIteration") [] >>= _) _ _ _;simp only [newExc,newTuple]
 refine aa0 (aa0 (af3 (aa0 (m:=firstArgMember _ _) (wpAny_of_eq (a:=Value.none) (by first | rfl | (simp only [firstArgMember];rfl)) (af3 ?_ (by size_fits)))) (by size_fits)))
 simp only [raiseNew];refine aa0 (wpAny_handled ?_);rw [show A.in1.handled=none from hh];refine aa0 (aa6 (wpAny_throw ?_));exact aa0 (ak6 (T:="StopIteration") (b:=true) ⟨_,aa8 _ rfl,rfl⟩ isSubtype_stop (aa6 (q _ (((Heap.SameBut.update ..).extBut.push _).push _))))
end
structure xX(es:Array DictEntry)(lo:Addr)(h:Heap)(as:List Addr):Prop where
 rise:as.Pairwise (· < ·)
 above:∀a∈as,lo < a
 at_:∀(j:Nat) (a:Addr),as[j]?=some a->∃e,es[j]?=some e/\h.get? a=some { cls:=.type "tuple",data:=.seq #[e.key,e.val] }
section
variable {es:Array DictEntry} {ep:Nat}
theorem BP.keep(x:BP h d es ep)(k:∀o,h.get? d=some o->h'.get? d=some o):BP h' d es ep:=by
 obtain⟨o,h1,h2⟩:=x;exact⟨o,k o h1,h2⟩
theorem xX.lt{lo:Addr}{as:List Addr}(x:xX es lo h as)(ha:a∈as):a < h.objs.size:=by
 obtain⟨j,hj⟩:=List.mem_iff_getElem?.mp ha;obtain⟨_,_,e⟩:=x.at_ j a hj;exact aa9 e
theorem iT.keep{it:Addr}{n:Nat}(x:iT h it d i n ep)(k:∀b o,b≠S->h.get? b=some o->h'.get? b=some o)(hS:∃o,h'.get? S=some o)(hI:it≠S):iT h' it d i n ep:=by
 obtain⟨z,ok,ov,f,e,r⟩:=x;refine⟨z,ok,ov,f,k _ _ hI e,?_⟩;rcases r with r | ⟨a,oa,r1,r2,r3⟩
 ·exact .inl r
 ·by_cases ha:a=S
  ·subst ha
   obtain⟨o,ho⟩:=hS;exact .inr ⟨a,o,r1,ho,r3⟩
  ·exact .inr ⟨a,oa,r1,k _ _ ha r2,r3⟩
theorem Cq{I:Addr}(hh:A.handled=none)(hSI:S < I)(hSd:d≠S)(hId:d≠I)(hn:es.size<=sizeLine)(res:Value){h1:Heap}
  (q:∀h' tk acc c as,(∀b o,b≠S->b≠I->h1.get? b=some o->h'.get? b=some o)->h'.get? S=some { cls:=.type "list",data:=.seq acc c }->as.length=es.size->xX es I h' as->acc.toList=as.map Value.ref->R (.ok (.ret res)) { s with heap:=h',toks:=tk }) :
  ∀(m i:Nat) (h:Heap) (tk c:Nat) (acc:Array Value) (as:List Addr),i+m=es.size->iT h I d i es.size ep->BP h d es ep->(∀b o,b≠S->b≠I->h1.get? b=some o->h.get? b=some o)->h.get? S=some { cls:=.type "list",data:=.seq acc c }->acc.toList=as.map Value.ref->as.length=i->xX es I h as->
   codeAny (model P w) A (.builtin "list.extend.loop" ⟨[.ref S,.ref I,res],[]⟩) R { s with heap:=h,toks:=tk }:=by
 have hne:S≠I:=ac0 hSI;intro m
 induction m with
 | zero=>
  intro i h tk c acc as hm st hD hk hS ha hl T
  have:i=es.size:=by omega
  subst this;refine al0 PySem.F.entry_extend_loop ?_;rw [Around.under_plainId PySem.F.plain_extend_loop _];show wpAny _ A.in1 (pyNext (.ref I) >>= _) _ _ _;refine aa0 (En (s:={ s with heap:=h,toks:=tk }) (A:=A.in1) hh st hD λh' he=>aa6 (q h' tk acc c as (λb o x y e=>he b o y (hk b o x y e)) (he S _ hne hS) hl ⟨T.rise,T.above,λj a hj=>?_⟩ ha));obtain⟨e,e1,e2⟩:=T.at_ j a hj;exact⟨e,e1,he a _ (af1 (T.above a (ab8 hj))) e2⟩
 | succ m ih=>
  intro i h tk c acc as hm st hD hk hS ha hl T
  have hi:i < es.size:=by omega
  have hsz:acc.size=i:=by rw [<-ah3,ha,aa1,hl]
  have hIs:I < h.objs.size:=by
   obtain⟨_,_,_,_,e,_⟩:=st;exact aa9 e
  have hSl:S < h.objs.size:=aa9 hS;refine al0 PySem.F.entry_extend_loop ?_;rw [Around.under_plainId PySem.F.plain_extend_loop _];show wpAny _ A.in1 (pyNext (.ref I) >>= _) _ _ _;refine aa0 (Ct (s:={ s with heap:=h,toks:=tk }) st hD hi λh' st' ht hz kp=>?_);dsimp only at ht hz kp |-;have hS':=kp S _ hne hS
  have up:∀b o,b≠S->h'.get? b=some o->(h'.update S (Obj.mapSeq (·.push (Value.ref h.objs.size)))).get? b=some o:=λb o hb e=>(ac6 _ _ (Ne.symm hb)).trans e
  have new:=ad9 (Obj.mapSeq (·.push (Value.ref h.objs.size))) hS' rfl
  show wpAny _ A.in1 (updateSeq S (·.push (Value.ref h.objs.size)) >>= _) _ _ _
  refine aa0 (af9 hS' rfl (aa6 ⟨plainId_quiet PySem.F.plain_extend_loop _,ih (i+1) _ tk _ (acc.push (Value.ref h.objs.size)) (as++[h.objs.size]) () (st'.keep up ⟨_,new⟩ (Ne.symm hne)) (hD.keep λo e=>up d o hSd (kp d o hId e)) (λb o x y e=>up b o x (kp b o y (hk b o x y e))) new (by rw [Array.toList_push,ha,ab7];rfl) (by rw [ab2,hl];rfl) ⟨?_,?_,?_⟩⟩) (by rw [hsz];omega) (by show(acc.push (Value.ref h.objs.size)).size<=sizeLine+1;rw [ap8,hsz];omega))
  ·exact List.pairwise_append.mpr ⟨T.rise,List.pairwise_singleton _ _,λa x b y=>by rw [ac3.mp y];exact T.lt x⟩
  ·intro a x
   rcases ad2.mp x with x | x
   ·exact T.above a x
   ·rw [ac3.mp x]
    exact hIs
  ·intro j b hj
   by_cases hjl:j < as.length
   ·rw [ab1 hjl]at hj
    obtain⟨e,e1,e2⟩:=T.at_ j b hj;have hb:=T.above b (ab8 hj);exact⟨e,e1,up b _ (af1 (ap4 hSI hb)) (kp b _ (af1 hb) e2)⟩
   ·rw [ab9 (ao8 hjl)]at hj
    have h0:j - as.length=0:=by
     have:=(aa3.mp hj).1
     simp at this;omega
    rw [h0]at hj;cases hj
    have ej:j=i:=by omega
    subst ej;exact⟨es[j],Array.getElem?_eq_getElem hi,up _ _ (af1 hSl) ht⟩
theorem Cp{Q:Value->Shared->Prop}(hv:s.heap.IsItemsView r d)(hd:BP s.heap d es ep)
  (q:Q (.ref s.heap.objs.size) { s with heap:=s.heap.push { cls:=.type "dict_itemiterator",data:=.fields #[.none,.bool false,.ref d,.int ((0:Nat):Int) 0,.int es.size 0,.int ep 0,.none,.none] } }):wpAny (model P w) A (pyIter (.ref r)) Q E s:=by
 obtain⟨ov,hov,_,hdv⟩:=id hv;obtain⟨od,hod,hda⟩:=hd;refine wpAny_pyIter_slot hv.typeIs PySem.F.slot_dict_items_iter (af6 PySem.F.slot_dict_items_iter hv.typeIs PySem.F.entry_dict_items_iter ?_ (PySem.F.args_dict_items_iter_1 _));unfold Builtin.«dict_items.__iter__»;refine aa0 (aa6 (aa0 ?_));unfold Builtin.Dict_items.dictOf;refine aa0 (ae6 hov hdv (x:=.ref d) rfl (aa6 (aa0 ?_)));unfold Builtin.Dict_items.newIterator;refine aa0 (al7 hod hda (aa0 (ap9 hod hda ?_)));simp only [show Builtin.Dict_items.ownsTuple "dict_itemiterator"=true by decide,if_true];refine af3 (aa6 ⟨_,rfl,"dict_itemiterator",_,⟨_,aa8 _ rfl,rfl⟩,PySem.F.slot_dict_itemiterator_next.lookup,?_⟩) (by simp only [sizeOk,Builtin.Dict_items.ownedTupleFields,ab4,ab2,ac7,an0,sizeLine_eq];omega);simpa [rawInt,Builtin.Dict_items.ownedTupleFields]using q
theorem yy(hh:A.handled=none)(hv:s.heap.IsItemsView r d)(hd:BP s.heap d es ep)(S:Addr)(hSr:S≠r)(hSd:d≠S)(res:Value)(c0:Nat)(hS:s.heap.get? S=some { cls:=.type "list",data:=.seq #[] c0 })(hn:es.size<=sizeLine)
  (q:∀h' tk acc c as,(∀b o,b≠S->s.heap.get? b=some o->h'.get? b=some o)->h'.get? S=some { cls:=.type "list",data:=.seq acc c }->as.length=es.size->xX es s.heap.objs.size h' as->acc.toList=as.map Value.ref->R (.ok (.ret res)) { s with heap:=h',toks:=tk }) :
  wpAny (model P w) A.in1 (Builtin.List.listExtendWith (.ref S) (.ref r) res) (λfin s'=>match fin with | .done f=>R (.ok f) s' | .again c'=>c'.quiet=true/\codeAny (model P w) A c' R s') (λe s'=>R (.error e) s') s:=by
 have hSI:S < s.heap.objs.size:=aa9 hS
 have hdI:d < s.heap.objs.size:=let ⟨_,h,_⟩:=hd;aa9 h
 have go:∀(h:Heap) (c1 tk:Nat),(∀b o,b≠S->(s.heap.push { cls:=.type "dict_itemiterator",data:=.fields #[.none,.bool false,.ref d,.int ((0:Nat):Int) 0,.int es.size 0,.int ep 0,.none,.none] }).get? b=some o->h.get? b=some o)->h.get? S=some { cls:=.type "list",data:=.seq #[] c1 }->codeAny (model P w) A (.builtin "list.extend.loop" ⟨[.ref S,.ref s.heap.objs.size,res],[]⟩) R { s with heap:=h,toks:=tk }:=by
  intro h c1 tk hk h1
  exact Cq (s:=s) (h1:=s.heap) hh hSI hSd (ac0 hdI) hn res (λh' tk' acc c as k' e1 e2 e3 e4=>q h' tk' acc c as (λb o hb e=>k' b o hb (ac0 (aa9 e)) e) e1 e2 e3 e4)
   es.size 0 h tk c1 #[] [] (Nat.zero_add _) ⟨.none,.none,.none,false,hk _ _ (af1 hSI) (aa8 _ rfl),.inl ⟨rfl,rfl⟩⟩ (hd.keep λo e=>hk d o hSd (aa4 _ e)) (λb o hb _ e=>hk b o hb (aa4 _ e)) h1 rfl rfl ⟨List.Pairwise.nil,(λ_ ha=>nomatch ha),λj a hj=>(by simp at hj)⟩
 unfold Builtin.List.listExtendWith;refine aa0 (aj0 (T:="dict_items") hv.typeIs ?_);simp only [show Builtin.List.listSameRef (.ref S) (.ref r)=false by simp [Builtin.List.listSameRef,hSr],show(Value.type "dict_items" == Value.type "list")=false by decide,show(Value.type "dict_items" == Value.type "tuple")=false by decide,am5,ad0,if_false];refine aa0 (Cp hv hd ?_);have h1:=aa4 { cls:=.type "dict_itemiterator",data:=.fields #[.none,.bool false,.ref d,.int ((0:Nat):Int) 0,.int es.size 0,.int ep 0,.none,.none] } hS;refine aa0 (ae3 (PySem.W.kdx_hint (let ⟨o,ho,hc,_⟩:=hv;⟨o,aa4 _ ho,hc⟩) (ah2 (λ_=>?_) (λ_=>aa6 ⟨plainId_quiet PySem.F.plain_extend_loop _,go _ c0 _ (λb o _ e=>e) h1⟩))));refine aa0 (an8 (aa0 ?_))
 show wpAny _ _ (updateSeq S (·.push .none) >>= λ_=>updateSeq S (·.pop)) _ _ _
 refine aa0 (af9 h1 rfl ?_)
 have h2:=ad9 (Obj.mapSeq (·.push Value.none)) h1 rfl
 refine af9 (hz:=by seq_fits) h2 rfl ?_
 exact aa6 ⟨plainId_quiet PySem.F.plain_extend_loop _,go _ _ _ (λb o hb e=>(ac6 _ _ (Ne.symm hb)).trans ((ac6 _ _ (Ne.symm hb)).trans e)) (ad9 (Obj.mapSeq (·.pop)) h2 rfl)⟩
theorem vn{Q:Value->Shared->Prop}(hh:A.handled=none)(hv:s.heap.IsItemsView r d)(hd:BP s.heap d es ep)(hn:es.size<=sizeLine)
  (q:∀h' tk acc c as,(∀b o,s.heap.get? b=some o->h'.get? b=some o)->h'.get? s.heap.objs.size=some { cls:=.type "list",data:=.seq acc c }->as.length=es.size->xX es s.heap.objs.size h' as->acc.toList=as.map Value.ref->Q (.ref s.heap.objs.size) { s with heap:=h',toks:=tk }) :
  wpAny (model P w) A (call (.type "list") [.ref r]) Q E s:=by
 refine callType_codes (Q₁:=λobj s1=>obj=.ref s.heap.objs.size/\s1={ s with heap:=s.heap.push { cls:=.type "list",data:=.seq #[] } }) PySem.F.called_list (PySem.F.typeCall_list_1 _) PySem.F.entry_list_init (code_list_new _ ⟨rfl,rfl⟩) λobj s1 h1=>?_;obtain⟨rfl,rfl⟩:=h1;have hS:(s.heap.push { cls:=.type "list",data:=.seq #[] }).get? s.heap.objs.size=some { cls:=.type "list",data:=.seq #[] }:=aa8 _ rfl
 have lr:r < s.heap.objs.size:=let ⟨_,ho,_⟩:=hv;aa9 ho
 have ld:d < s.heap.objs.size:=let ⟨_,h,_⟩:=hd;aa9 h
 refine⟨⟨_,hS,rfl⟩,PySem.F.args_list_init_2 _ _,?_⟩;show wpAny _ _ (do let old <-Builtin.List.listItems (.ref s.heap.objs.size);Builtin.List.listUpdate (.ref s.heap.objs.size) (λ_=>#[]);letGo old.toList.reverse;Builtin.List.listExtendWith (.ref s.heap.objs.size) (.ref r) .none) _ _ _;refine aa0 ?_;unfold Builtin.List.listItems;refine aa0 (af0 hS rfl (aa6 ?_));show wpAny _ _ (updateSeq s.heap.objs.size (λ_=>#[]) >>= λ_=>letGo (#[]:Array Value).toList.reverse >>= λ_=>Builtin.List.listExtendWith (.ref s.heap.objs.size) (.ref r) .none) _ _ _;refine aa0 (af9 hS rfl (aa0 (ah8 ?_)));have old:∀b o,b≠s.heap.objs.size->s.heap.get? b=some o->((s.heap.push { cls:=.type "list",data:=.seq #[] }).update s.heap.objs.size (Obj.mapSeq (λ_=>(#[]:Array Value)))).get? b=some o:=λb o hb e=>(ac6 _ _ (Ne.symm hb)).trans (aa4 _ e);refine yy (A:=A.in1) hh (let ⟨o,ho,x⟩:=hv;⟨o,old r o (ac0 lr) ho,x⟩) (hd.keep λo e=>old d o (ac0 ld) e) s.heap.objs.size (af1 lr) (ac0 ld) .none _ (ad9 (Obj.mapSeq (λ_=>(#[]:Array Value))) hS rfl) hn λh' tk acc c as k e1 e2 e3 e4=>⟨rfl,q h' tk acc c as (λb o e=>k b o (ac0 (aa9 e)) (old b o (ac0 (aa9 e)) e)) e1 e2 ⟨e3.rise,λa ha=>?_,e3.at_⟩ e4⟩;refine ab5 (ag9 ?_) (e3.above a ha);exact aa9 (ad9 (Obj.mapSeq (λ_=>(#[]:Array Value))) hS rfl)
theorem tS{Q:Value->Shared->Prop}(hsm:(d == sysModules)=false)(hd:s.TypeIs (.ref d) "dict")(q:Q (.ref s.heap.objs.size) { s with heap:=s.heap.push { cls:=.type "dict_items",data:=.fields #[.ref d] } }):wpAny (model P w) A (call (.builtin "dict.items") [.ref d]) Q E s:=by
 refine af6 PySem.F.slot_dict_items hd PySem.F.entry_dict_items ?_ (PySem.F.args_dict_items_1 _);unfold Builtin.«dict.items»;refine aa0 ?_;unfold Builtin.Dict.noArgs;refine aa0 (wpAny_notOrdered_dict hd ?_);show wpAny _ _ (pure d) _ _ s;refine aa6 ?_;show wpAny _ _ (Builtin.Dict.showsAll d >>= _) _ _ s;unfold Builtin.Dict.showsAll;rw [if_neg (by rw [hsm];decide)];exact aa0 (aa6 (aa0 (af3 (aa6 ⟨_,rfl,q⟩))))
end
section
variable [DecidableEq κ]
theorem yU{β:Type}{F:α->β->Prop}{l:List α}{m:List β}(h:Paired F l m):∀(j:Nat) (x:α),l[j]?=some x->∃y,m[j]?=some y/\F x y:=by
 induction h with
 | nil=>intro j x e;cases e
 | cons r _ ih=>
  intro j x e
  cases j with
  | zero=>cases e;exact⟨_,rfl,r⟩
  | succ j=>exact ih j x e
theorem rM:∀as:List Addr,aU (as.map V.ref) (as.map Value.ref)
 | []=>.nil
 | a::as=>.cons rfl (rM as)
def BA(kk:KK P w κ)(to:TE):TE:=λZ H Q=>to Z H λx H1=>∃d xs,x=.ref d/\bH kk H1 d xs/\∀(p:Addr) (ts:List Addr) (H2:Hp),H1 p=none->H2 p=some (.lst (ts.map V.ref))->ts.length=xs.length->(∀(j:Nat) (t:Addr) (e:κ×Addr×V),ts[j]?=some t->xs[j]?=some e->H1 t=none/\H2 t=some (.tup [.ref e.2.1,e.2.2]))->ar H1 H2->Q (.ref p) H2
variable {kk':KK X.prog X.w κ}
theorem AR{to:TE}(hc:X.calm=true)(hgl:Gl X "list")(hml:X.mg "list"=none)(ho:PE X o to)(hbase:attributeBase o "items" X.env (eval o X.env)=eval o X.env:=by rfl)(hline:(apos.endLine == cpos.line)=true:=by rfl):
  PE X (.Call (.Name "list" p) [.Call (.Attribute o "items" apos) [] [] cpos] [] pos) (BA kk' to):=by
 intro pins s Z H Q I h;refine ae8 (dz I hgl hml boot_list (PyProof.Rows.callWith_type1 ?_ rfl rfl));show wpAny _ _ (spliced ((false,eval (.Call (.Attribute o "items" apos) [] [] cpos) X.env)::backTo pos (starEach [] X.env))) _ _ s;refine Calls.spliced_cons (wpAny_Call_method0_late hbase hline (cH (ho pins s Z H _ I h) λv s1 zq0=>?_));obtain⟨x,H1,I1,r1,d,xs,ex,D,q1⟩:=zq0;subst ex;cases r1;obtain⟨hsm,ys,dd,hp⟩:=hZ I1.hok D;have ty:=dd.typeIs;obtain⟨ob,es,ep,ho1,hx1,hda,hes,_,_⟩:=id dd;refine⟨"dict","dict.items",PySem.F.plainAttrs_dict,PySem.F.slot_dict_items,PySem.F.type_dict_items,ty,λa e=>?_,Calls.callWith_builtin rfl (PySem.evalArgs_none (tS hsm ty (Calls.spliced_nil ?_)))⟩
 ·cases e
  exact⟨ob,ho1,hx1.2.1⟩
 have k1:∀b u,s1.heap.get? b=some u->(s1.heap.push { cls:=.type "dict_items",data:=.fields #[.ref d] }).get? b=some u:=λb u e=>aa4 _ e;have I2:aK X pins Z H1 { s1 with heap:=s1.heap.push { cls:=.type "dict_items",data:=.fields #[.ref d] },toks:=s1.toks }:=I1.kept k1;have lx:xs.length=ys.length:=Paired.len' hp
 have le:es.size=xs.length:=by rw [<-ah3,hes,aa1,lx]
 have hs:=sizeLine_eq;have hz:=D.sz;refine vn (s:={ s1 with heap:=s1.heap.push { cls:=.type "dict_items",data:=.fields #[.ref d] } }) (d:=d) (es:=es) (ep:=ep) (I1.ok.hd hc) ⟨_,aa8 _ rfl,rfl,rfl⟩ ⟨ob,k1 _ _ ho1,hda⟩ () λh' tk acc c as kp hS hl T hacc=>?_;dsimp only at kp hS T |-;generalize hh1:s1.heap.push { cls:=.type "dict_items",data:=.fields #[.ref d] }=h1 at kp hS T I2;have fr:∀b,h1.objs.size<=b->H1 b=none:=λb hb=>I2.hok.fresh hb;obtain⟨tp,htp⟩:∃tp:Addr->Option HO,tp=λb=>if b∈as then(xs[as.idxOf b]?).map λz=>HO.tup [.ref z.2.1,z.2.2]else none:=⟨_,rfl⟩;have nd:as.Nodup:=T.rise.imp λh=>ac0 h
 have tp1:∀(j:Nat) (t:Addr) (e:κ×Addr×V),as[j]?=some t->xs[j]?=some e->tp t=some (.tup [.ref e.2.1,e.2.2]):=λj t e e1 e2=>by
  obtain⟨hj,rfl⟩:=aa3.mp e1;rw [htp];show(if as[j]∈as then _ else _)=_;rw [if_pos (ae0 hj),nd.idxOf_getElem j hj,e2];rfl
 have tp2:∀b o,tp b=some o->∃(j:Nat) (e:κ×Addr×V),as[j]?=some b/\xs[j]?=some e/\o=.tup [.ref e.2.1,e.2.2]:=λb o e=>by
  rw [htp]at e;have e:(if b∈as then(xs[as.idxOf b]?).map λz=>HO.tup [.ref z.2.1,z.2.2]else none)=some o:=e
  by_cases hb:b∈as
  ·rw [if_pos hb]at e
   have hj:=List.idxOf_lt_length_of_mem hb;refine⟨as.idxOf b,?_⟩;rw [aa2 hj,List.getElem_idxOf hj]
   cases e2:xs[as.idxOf b]? with
   | none=>rw [e2]at e;cases e
   | some z=>rw [e2]at e;exact⟨z,rfl,rfl,(Option.some.inj e).symm⟩
  ·rw [if_neg hb]at e
   cases e
 obtain⟨H2,hH2⟩:∃H2:Hp,H2=λb=>if b=h1.objs.size then some (.lst (as.map V.ref))else(tp b).or (H1 b):=⟨_,rfl⟩
 have pS:H2 h1.objs.size=some (.lst (as.map V.ref)):=by rw [hH2];simp
 have ab:∀(j:Nat) (t:Addr),as[j]?=some t->h1.objs.size < t:=λj t e=>T.above t (ab8 e)
 have pT:∀(j:Nat) (t:Addr) (e:κ×Addr×V),as[j]?=some t->xs[j]?=some e->H2 t=some (.tup [.ref e.2.1,e.2.2]):=λj t e e1 e2=>by
  rw [hH2];show(if t=h1.objs.size then _ else(tp t).or (H1 t))=_;rw [if_neg (af1 (ab j t e1)),tp1 j t e e1 e2];rfl
 have old:∀b,b < h1.objs.size->H2 b=H1 b:=λb hb=>by
  rw [hH2];show(if b=h1.objs.size then _ else(tp b).or (H1 b))=_;rw [if_neg (ac0 hb)]
  cases e:tp b with
  | none=>rfl
  | some o=>
   obtain⟨j,_,e1,_⟩:=tp2 b o e
   have:=ab j b e1
   omega
 have I3:=I2.laidN (t':=tk) kp old (λb o hb e=>by
  rw [hH2]at e;have e:(if b=h1.objs.size then some (HO.lst (as.map V.ref))else(tp b).or (H1 b))=some o:=e
  by_cases hbS:b=h1.objs.size
  ·rw [if_pos hbS]at e
   cases e;subst hbS;exact⟨by rw [aa1];omega,as.map Value.ref,c,rM as,by rw [<-hacc];exact hS⟩
  ·rw [if_neg hbS,fr b hb]at e
   cases e2:tp b with
   | none=>rw [e2]at e;cases e
   | some o'=>
    rw [e2]at e;cases e;obtain⟨j,z,g1,g2,rfl⟩:=tp2 b _ e2;obtain⟨en,g3,g4⟩:=T.at_ j b g1;obtain⟨y,g5,g6⟩:=yU hp j z g2
    have g7:en=entryOfKey kk'.knd y:=by
     have:es.toList[j]?=some en:=by rw [Array.getElem?_toList];exact g3
     rw [hes,aa5,g5]at this;exact(Option.some.inj this).symm
    subst g7;refine⟨by show 2<=sizeLine;omega,[.ref y.2.1,y.2.2],.cons (by rw [g6.2.1];rfl) (.cons g6.2.2 .nil),?_⟩
    exact⟨_,g4,rfl,_,rfl⟩)
 exact⟨.ref h1.objs.size,H2,I3,rfl,q1 h1.objs.size as H2 (fr _ (aa7 _)) pS () (λj t e e1 e2=>⟨fr _ (ag9 (ab j t e1)),pT j t e e1 e2⟩) λb o e=>by rw [old b (I2.hok b o e).lt];exact e⟩
end
theorem jz:bootBuiltins "reversed"=some (.type "reversed"):=by decide +kernel
def GZ(K:Frag)(a:Addr)(n:Nat):It:=
 ⟨λi H=>∃xs x,aF K H a xs/\xs.length=n/\i < n/\xs[n - 1 - i]?=some x,λi H x H'=>H'=H/\∀xs,aF K H a xs->xs[n - 1 - i]?=some x,λi _=>n<=i⟩
theorem BF(a it:Addr)(n:Nat):pJ P w K tg (GZ K a n) [it] it (λi h=>i<=n/\h.IsRevIter it a ((n:Int) - 1 - (i:Int))) where
 mem:=by simp
 obj:=λi h st b hb=>by
  have e:b=it:=by simpa using hb
  subst e;obtain⟨_,o,e,c,d⟩:=st;exact⟨o,e,λv z=>by rw [d]at z;cases z⟩
 keep:=λi h h' st k=>⟨st.1,st.2.at λo e=>k it (by simp) o e⟩
 item:=by
  intro X hP hw hK hc i pins s Z H E I hf st hg;subst hP hw hK;obtain⟨xs,x,hq,hn,hi,hx⟩:=hg;obtain⟨its,rv,p,hz⟩:=I.list hq;obtain⟨u,hu,ru⟩:=rv.get hx;obtain⟨f0,f1,f2,f3,f4,f5⟩:=hf it (by simp);have st1:=st.2;rw [show(n:Int) - 1 - (i:Int)=((n - 1 - i:Nat):Int)by omega]at st1;refine wpAny_pyNext_rev_item st1 p.isList (x:=u) (by simpa using hu) λh' st' sb=>?_;have I1:aK X pins Z H { s with heap:=h' }:=I.turned (t':=s.toks) (λb o hb e=>(sb.2 b hb).trans e) f0 f1 f3 f4 f5
  have st2:h'.IsRevIter it a ((n:Int) - 1 - ((i+1:Nat):Int)):=by
   rw [show(n:Int) - 1 - ((i+1:Nat):Int)=((n - 1 - i:Nat):Int) - 1 by omega];exact st'
  obtain⟨o,e,c,d⟩:=id st';exact⟨u,rfl,qR (s:={ s with heap:=h' }) e c d ∅ ⟨x,H,I1,ru,⟨rfl,λys hy=>by rw [I.list_inj hy hq];exact hx⟩,⟨hi,st2⟩,λb hb=>(hf b hb).1⟩⟩
 done:=by
  intro X hP hw hK hc i pins s Z H E I hf st hg;subst hP hw hK;obtain⟨f0,f1,f2,f3,f4,f5⟩:=hf it (by simp);have hg:n<=i:=hg;have st1:=st.2;rw [show(n:Int) - 1 - (i:Int) = -1 by have:=st.1;omega]at st1;exact wpAny_pyNext_rev_end (I.ok.hd hc) st1 λh' eb=>⟨rfl,I.turned (t':=s.toks) (λb o hb e=>eb b o hb e) f0 f1 f3 f4 f5⟩
 self:=λ_ _ _ _ _ st h=>wpAny_pyIter_revIter st.2 h
def DI(K:Frag)(ta:TA):TI:=λZ H R=>ta Z H λvs H1=>∃a xs,vs=[.ref a]/\aF K H1 a xs/\R (GZ K a xs.length) H1
theorem C8(K:Frag){a:Expr}(hg:Gl X "reversed")(hm:X.mg "reversed"=none)(ha:PA X [a] ta)(hK:X.K=K:=by rfl)(hs:starEach [a] X.env=[(false,eval a X.env)]:=by rfl):
  PI X tg (.Call (.Name "reversed" p) [a] [] pos) (DI K ta):=by
 subst hK;intro pins s Z H R I h;refine Call_ (dz I hg hm jz (PyProof.Rows.callWith_type1 (cH (ha pos pins s Z H _ I h) λus s1 zq0=>?_) hs rfl));obtain⟨vs,H1,I1,r1,l,xs,e,hq,q⟩:=zq0;subst e;obtain⟨u,rfl,ru⟩:=dZ r1;cases ru;obtain⟨its,rv,pl,hz⟩:=I1.list hq;have hl:=rv.length;refine call_reversed_list pl.isList ?_;have I2:aK X pins Z H1 { s1 with heap:=s1.heap.push (revObj l ((its.toArray.size:Int) - 1)) }:=I1.kept (t':=s1.toks) λb o e=>aa4 _ e
 have st:(s1.heap.push (revObj l ((its.toArray.size:Int) - 1))).IsRevIter s1.heap.objs.size l ((xs.length:Int) - 1 - ((0:Nat):Int)):=⟨_,aa8 _ rfl,rfl,by
  rw [show(xs.length:Int) - 1 - ((0:Nat):Int)=(its.toArray.size:Int) - 1 by simp [hl]]
  rfl⟩
 refine wpAny_pyIter_revIter (it:=s1.heap.objs.size) (l:=l) (i:=(xs.length:Int) - 1 - ((0:Nat):Int)) st ?_;refine⟨s1.heap.objs.size,[s1.heap.objs.size],_,_,H1,rfl,I2,BF l s1.heap.objs.size xs.length,⟨ac1 _,st⟩,λb hb=>?_,q⟩
 have e:b=s1.heap.objs.size:=by simpa using hb
 subst e;exact I1.fpOk (aa7 _) (I1.hok.fresh (aa7 _))
theorem Ar{g:TG}{tb:TS}{D:iS}{xs:List V}(Pv:Nat->St->Hp->Prop)(h0:Pv 0 Z H)(hl:∀i Z H,i<=xs.length->Pv i Z H->aF K H a xs)
  (hs:∀i x Z H,xs.reverse[i]?=some x->Pv i Z H->g x Z H λZg H2=>tb { D with nx:=Pv (i+1),ct:=Pv (i+1),bk:=D.nx } Zg H2) (hd:∀Z H,Pv xs.length Z H->D.nx Z H):xW g tb D Z (GZ K a xs.length) H:=by
 refine⟨λi m Z H=>m=xs.length - i/\i<=xs.length/\Pv i Z H,⟨xs.length,by simp,ac1 _,h0⟩,?_⟩;rintro i m Z H ⟨rfl,hi,p⟩
 by_cases hlt:i < xs.length
 ·have ex:xs[xs.length - 1 - i]?=some xs[xs.length - 1 - i]:=aa2 ()
  refine .inr ⟨⟨xs,_,hl i Z H hi p,rfl,hlt,ex⟩,Pv (i+1),λZc H' p'=>⟨xs.length - (i+1),(),rfl,hlt,p'⟩,λx H' y=>?_⟩;obtain⟨e,y⟩:=y;subst e
  have:=y xs (hl i Z _ hi p)
  exact hs i x Z _ (by rw [aj4 hlt];exact this) p
 ·have e:i=xs.length:=by omega
  subst e;exact .inl ⟨aa7 _,hd Z H p⟩
theorem yC:typeLookup (.type "list_reverseiterator") "__len__"=pure none:=by rw [typeLookup_type,builtinLookup_eq_fast];kernel_rfl
theorem As:typeLookup (.type "list_reverseiterator") "__length_hint__"=pure (some (.builtin "list_reverseiterator.__length_hint__")):=by rw [typeLookup_type,builtinLookup_eq_fast];kernel_rfl
section
variable {l:Addr} {items:Array Value}
theorem zZ(ty:s.TypeIs (.ref r) "list_reverseiterator")(q:Q false s):wpAny (model P w) A (Builtin.List.listLengthHint (.ref r)) Q E s:=by
 unfold Builtin.List.listLengthHint;refine aa0 (ai4 ty yC ?_)
 wp_delta
 refine ah2 (λh=>absurd h (by decide +kernel)) λ_=>?_;refine ah2 (λh=>absurd h ∅) λ_=>?_;refine aa0 (ai4 ty As ?_);generalize hz:("list_reverseiterator.__length_hint__":String)=z
 wp_delta
 rw [show splitId z=some ("list_reverseiterator","__length_hint__")from by subst hz;decide +kernel];subst hz;refine aa0 (ak6 (T:="list_reverseiterator") (b:=true) ty (by rw [isSubtype_type];kernel_rfl) (ah2 (λh=>absurd h ∅) λ_=>ah2 (λ_=>ah2 (λh=>absurd h (by decide +kernel)) λ_=>aa6 q) λh=>absurd (by decide +kernel) h))
theorem vz(hd:A.handled=none)(hr:s.heap.IsRevIter r l ((items.size:Int) - 1 - ((0:Nat):Int)))(hl:s.heap.IsList l items)(hn:items.size<=sizeLine)(B:Addr)(res:Value)(e0:Nat)(nr:B≠r)(nl:B≠l)(hB:s.heap.get? B=some { cls:=.type "list",data:=.seq #[] e0 })
  (fin:∀h' tk acc e',(∀b o,b≠B->b≠r->s.heap.get? b=some o->h'.get? b=some o)->h'.get? B=some { cls:=.type "list",data:=.seq acc e' }->ItemsOf (λi v=>items[items.size - 1 - i]?=some v) acc items.size->R (.ok (.ret res)) { s with heap:=h',toks:=tk }) :
  wpAny (model P w) A.in1 (Builtin.List.listExtendWith (.ref B) (.ref r) res) (λf s'=>match f with | .done f=>R (.ok f) s' | .again c'=>c'.quiet=true/\codeAny (model P w) A c' R s') (λe s'=>R (.error e) s') s:=by
 have lr:l≠r:=λe=>by
  obtain⟨o,h1,h2,_⟩:=hr;obtain⟨o',g1,g2,_⟩:=hl;rw [e,h1]at g1;cases g1;rw [h2]at g2;simp at g2
 have wk:=(Walks.listRev (prog:=P) (w:=w) (A:=A.in1) hd r l lr items).toS
 have run:∀(h:Heap) (e1 tk:Nat),h.IsRevIter r l ((items.size:Int) - 1 - ((0:Nat):Int))->h.IsList l items->(∀b o,b≠B->s.heap.get? b=some o->h.get? b=some o)->h.get? B=some { cls:=.type "list",data:=.seq #[] e1 }->
   codeAny (model P w) A (.builtin "list.extend.loop" ⟨[.ref B,.ref r,res],[]⟩) R { s with heap:=h,toks:=tk }:=by
  intro h e1 tk i1 i2 hk hB1;refine codeAny_extend_loopS wk hn B (λhm=>by simp at hm;exact hm.elim nr nl) res items.size 0 _ #[] e1 rfl (ac1 _) ⟨ac1 _,i1,i2⟩ hB1 (ItemsOf.nil _) λs' acc e' mv hB' hacc=>?_;rw [Moved.eq_with mv];exact fin s'.heap s'.toks acc e' (λb o hb hb2 e=>mv.heap b o (λhm=>by simp at hm;exact hm.elim hb hb2) (hk b o hb e)) hB' hacc
 unfold Builtin.List.listExtendWith;refine aa0 (aj0 (T:="list_reverseiterator") hr.typeIs ?_);simp only [show Builtin.List.listSameRef (.ref B) (.ref r)=false by simp [Builtin.List.listSameRef,nr],show(Value.type "list_reverseiterator" == Value.type "list")=false by decide,show(Value.type "list_reverseiterator" == Value.type "tuple")=false by decide,am5,ad0,if_false];refine aa0 (wpAny_pyIter_revIter hr (aa0 (ae3 (zZ hr.typeIs (ah2 (λh=>absurd h ∅) (λ_=>aa6 ⟨plainId_quiet F.plain_extend_loop _,run _ e0 _ hr hl (λb o _ e=>e) hB⟩))))))
theorem pK{Q:Value->Shared->Prop}(hd:A.handled=none)(hr:s.heap.IsRevIter r l ((items.size:Int) - 1 - ((0:Nat):Int)))(hl:s.heap.IsList l items)(hn:items.size<=sizeLine)
  (fin:∀h' tk acc e',(∀b o,b≠r->s.heap.get? b=some o->h'.get? b=some o)->h'.get? s.heap.objs.size=some { cls:=.type "list",data:=.seq acc e' }->ItemsOf (λi v=>items[items.size - 1 - i]?=some v) acc items.size->Q (.ref s.heap.objs.size) { s with heap:=h',toks:=tk }) :
  wpAny (model P w) A (call (.type "list") [.ref r]) Q E s:=by
 refine callType_codes (Q₁:=λob s1=>ob=.ref s.heap.objs.size/\s1={ s with heap:=s.heap.push { cls:=.type "list",data:=.seq #[] } }) F.called_list (F.typeCall_list_1 _) F.entry_list_init (code_list_new _ ⟨rfl,rfl⟩) λob s1 h1=>?_;obtain⟨rfl,rfl⟩:=h1;have hB:(s.heap.push { cls:=.type "list",data:=.seq #[] }).get? s.heap.objs.size=some { cls:=.type "list",data:=.seq #[] }:=aa8 _ rfl
 have rlt:r < s.heap.objs.size:=let ⟨_,h,_⟩:=hr;aa9 h
 have llt:l < s.heap.objs.size:=let ⟨_,h,_⟩:=hl;aa9 h
 refine⟨⟨_,hB,rfl⟩,F.args_list_init_2 _ _,?_⟩;show wpAny _ A.in1.in1 (do let old <-Builtin.List.listItems (.ref s.heap.objs.size);Builtin.List.listUpdate (.ref s.heap.objs.size) (λ_=>#[]);letGo old.toList.reverse;Builtin.List.listExtendWith (.ref s.heap.objs.size) (.ref r) .none) _ _ _;refine aa0 ?_;unfold Builtin.List.listItems;refine aa0 (af0 hB rfl (aa6 ?_));show wpAny _ _ (updateSeq s.heap.objs.size (λ_=>#[]) >>= λ_=>letGo (#[]:Array Value).toList.reverse >>= λ_=>Builtin.List.listExtendWith (.ref s.heap.objs.size) (.ref r) .none) _ _ _;refine aa0 (af9 hB rfl (aa0 (ah8 ?_)));have old:∀b o,b≠s.heap.objs.size->s.heap.get? b=some o->((s.heap.push { cls:=.type "list",data:=.seq #[] }).update s.heap.objs.size (Obj.mapSeq (λ_=>(#[]:Array Value)))).get? b=some o:=λb o hb e=>(ac6 _ _ (Ne.symm hb)).trans (aa4 _ e);refine vz (A:=A.in1) hd (hr.at λo e=>old r o (ac0 rlt) e) (hl.at λo e=>old l o (ac0 llt) e) hn _ .none _ (af1 rlt) (af1 llt) (ad9 (Obj.mapSeq (λ_=>(#[]:Array Value))) hB rfl) λh' tk acc e' hk hB' hacc=>?_;exact⟨rfl,fin h' tk acc e' (λb o hb e=>hk b o (ac0 (aa9 e)) hb (old b o (ac0 (aa9 e)) e)) hB' hacc⟩
end
theorem zg{xs:List V}{us:List Value}(h:aU xs us)(hl:vs.length=us.length)(hv:∀(i:Nat) (v:Value),vs[i]?=some v->us[us.length - 1 - i]?=some v):aU xs.reverse vs:=by
 have e:vs=us.reverse:=List.ext_getElem? λi=>by
  by_cases hi:i < us.length
  ·rw [aj4 hi]
   have:vs[i]?=some vs[i]:=aa2 ()
   rw [this,hv i _ this]
  ·rw [ag6 (),ag6 (by rw [ak8];omega)]
 rw [e];clear e hv hl
 induction h with
 | nil=>exact .nil
 | cons r _ ih=>
  rw [List.reverse_cons,List.reverse_cons];exact ih.append (.cons r .nil)
def u9(K:Frag)(ta:TA):TE:=λZ H Q=>ta Z H λvs H1=>∃a xs,vs=[.ref a]/\aF K H1 a xs/\∀l,H1 l=none->Q (.ref l) (upd H1 l (.lst xs.reverse))
theorem vU(K:Frag){a:Expr}{p2 pos2:Pos}(hc:X.calm=true)(hgl:Gl X "list")(hml:X.mg "list"=none)(hg:Gl X "reversed")(hm:X.mg "reversed"=none)(ha:PA X [a] ta)(hK:X.K=K:=by rfl)(hs:starEach [a] X.env=[(false,eval a X.env)]:=by rfl):
  PE X (.Call (.Name "list" p) [.Call (.Name "reversed" p2) [a] [] pos2] [] pos) (u9 K ta):=by
 subst hK;intro pins s Z H Q I h;refine ae8 (dz I hgl hml boot_list (PyProof.Rows.callWith_type1 ?_ rfl rfl));show wpAny _ _ (spliced ((false,eval (.Call (.Name "reversed" p2) [a] [] pos2) X.env)::backTo pos (starEach [] X.env))) _ _ s;refine Calls.spliced_cons (ae8 (dz I hg hm jz (PyProof.Rows.callWith_type1 (cH (ha pos2 pins s Z H _ I h) λus s1 zq0=>?_) hs rfl)));obtain⟨vs,H1,I1,r1,l,xs,e,hq,q⟩:=zq0;subst e;obtain⟨u,rfl,ru⟩:=dZ r1;cases ru;obtain⟨its,rv,pl,hz⟩:=I1.list hq;have hlen:=rv.length;refine call_reversed_list pl.isList (Calls.spliced_nil ?_);have hkp:∀b o,s1.heap.get? b=some o->(s1.heap.push (revObj l ((its.toArray.size:Int) - 1))).get? b=some o:=λb o e=>aa4 _ e;refine pK (s:={ s1 with heap:=s1.heap.push (revObj l ((its.toArray.size:Int) - 1)) }) (items:=its.toArray) (l:=l) (I1.ok.hd hc) ⟨_,aa8 _ rfl,rfl,by simp [revObj]⟩ (pl.isList.at λo e=>hkp l o e) (by simp;omega) λh' tk acc e' hk hB hacc=>?_;have rlt:∀b o,s1.heap.get? b=some o->h'.get? b=some o:=λb o e=>hk b o (ac0 (aa9 e)) (hkp b o e);refine⟨.ref (s1.heap.push (revObj l ((its.toArray.size:Int) - 1))).objs.size,_,I1.laid (a:=(s1.heap.push (revObj l ((its.toArray.size:Int) - 1))).objs.size) (t':=tk) rlt (by rw [af2];omega) (show dk X.prog X.w _ h' _ (.lst xs.reverse)from⟨by simp;omega,acc.toList,e',zg rv (by rw [ah3,hacc.1];simp) λi v ev=>?_,hB⟩),rfl,q _ (I1.hok.fresh (by rw [af2];omega))⟩
 have:=hacc.2 i v (by simpa using ev)
 simpa using this
theorem yW(K:Frag){a:Expr}{ta:TE}(ha:PE X a ta)(he:∀whole,isTrue a X.env whole=(do let v <-whole;standAt a.pos;holding [v] (truthy v)))(hK:X.K=K:=by rfl):PT X a (λZ H Q=>ta Z H λx H'=>∃k,zy K x H' k/\Q k H'):=by
 subst hK;exact aZ ha he
section
variable {f B fI L:Addr} {fd:FuncData} {ps qs:List Str} {sp sq:Sp} {no:List Str} {x y n r:Str} {np hpos rp rn spos:Pos} {ie ir:Nat}
end
end L2
namespace L3
open PySem PySem.Spec PyProof.Rows
section
variable {prog:Program} {w:World} {A:Around} {E:Value->Shared->Prop} {s:Shared} {e z TI TO i1 i2:Addr} {f1 f2:List Addr} {n1 n2 k:Nat} {P1 P2:Nat->Value->Prop} {S1 S2:Nat->Heap->Prop} {a b old:Value}
end
end L3
namespace L2
open PySem PySem.Spec PyProof.Rows
variable {K:Frag} {X:Cx} {f:Addr} {fd:FuncData} {p0 p1 p2 p3 qual x:Str} {st:Stmt} {α:Type}
def GW(K:Frag)(l1 l2:Bool)(a1 a2:Addr):It:=
 ⟨λi H=>∃xs ys x y,gP K l1 H a1 xs/\gP K l2 H a2 ys/\xs[i]?=some x/\ys[i]?=some y,
  λi H v H'=>∃p q x y,v=.ref p/\H q=none/\H p=none/\p≠q/\H'=upd (upd H q (.tup [x,y])) p (.tup [.int i,.ref q])/\(∀xs,gP K l1 H a1 xs->xs[i]?=some x)/\∀ys,gP K l2 H a2 ys->ys[i]?=some y,
  λi H=>∃xs ys,gP K l1 H a1 xs/\gP K l2 H a2 ys/\(i=xs.length\/(i < xs.length/\i=ys.length))⟩
def Em(K:Frag)(ta:TA):TI:=λZ H R=>ta Z H λvs H1=>∃l1 l2 a1 a2,vs=[.ref a1,.ref a2]/\(∃xs,gP K l1 H1 a1 xs)/\(∃ys,gP K l2 H1 a2 ys)/\R (GW K l1 l2 a1 a2) H1
def D7(K:Frag)(t tk:TA):TE:=λZ H Q=>t Z H λvs H1=>tk Z H1 λzs H2=>∃(p:Addr) (ns:List Int),vs=[.ref p]/\zs=[.non]/\aF K H2 p (ns.map V.int)/\(ns=[]->Q .non H2)/\∀m∈ns,(∀j∈ns,m<=j)->Q (.int m) H2
theorem C6{e v:Expr}{t tk:TA}{p kp pos:Pos}(K:Frag)(hc:X.calm=true)(hg:Gl X "min")(hm:X.mg "min"=none)(ha:PA X [e] t)(hkw:PK X [⟨some (Str.ofString "default"),v,kp⟩] tk)(hK:X.K=K:=by rfl)(hs:starEach [e] X.env=[(false,eval e X.env)]:=by rfl):
  PE X (.Call (.Name "min" p) [e] [⟨some (Str.ofString "default"),v,kp⟩] pos) (D7 K t tk):=by
 subst hK;intro pins s Z H Q I h;refine ae8 (dz I hg hm boot_min ?_ ∅ ∅);refine callWith_kw (cH (ha pos pins s Z H _ I h) λus s1 ⟨vs,H1,I1,r1,q1⟩=>cH (hkw pos pins s1 Z H1 _ I1 q1) λws s2 zq0=>?_) (by rw [hs];rfl) (by rw [hs];rfl);obtain⟨zs,H2,I2,r2,l,ns,rfl,rfl,hl,q0,qn⟩:=zq0;obtain⟨u,rfl,ru⟩:=dZ r1;cases ru;obtain⟨u,rfl,ru⟩:=dZ r2;cases ru;show wpAny _ _ (call (.builtin "min") [.ref l] [(Str.ofString "default",.none)]) _ _ s2;obtain⟨its,rv,pl,_⟩:=I2.list hl;obtain⟨ps,e1,e2⟩:=gN rv;have hil:=pl.isList
 have ei:its.toArray=intItems ps.toArray:=by rw [e1];simp [intItems]
 have el:ps.length=ns.length:=by rw [<-e2,aa1]
 rw [ei]at hil
 have en:∀i,numAt ps.toArray i=ns.getD i 0:=λi=>by
  rw [<-e2];simp [numAt,ae9]
 have eb:(zm λi=>[numAt ps.toArray i])=λi j=>decide (numAt ps.toArray i < numAt ps.toArray j):=by
  funext i j
  by_cases h:numAt ps.toArray i=numAt ps.toArray j<;>simp [zm,HT.lexLt,h]
 refine yb (kf:=λi=>[numAt ps.toArray i]) (G:=λ_=>True) (I2.ok.hd hc) hil (λ_ _ _ _ _ _ _ _=>trivial) trivial (λi j vi vj s Q E hi hj _ q=>?_) (λh0 h' tk kp=>?_) λhn v h' tk hv kp=>?_
 ·rw [eb]at q
  exact CmpOf.ints_lt (P:=λi v=>(intItems ps.toArray)[i]?=some v) (numAt ps.toArray) (λ_ _ h=>intItems_at h) i j vi vj s Q E hi hj q
 ·refine⟨.non,H2,I2.kept (t':=tk) kp,rfl,q0 (ag3.mp ?_)⟩
  simp [intItems]at h0;rw [<-el,h0];rfl
 ·rw [eb]at hv
  simp only [intItems,Array.size_map,ab4]at hn hv;obtain⟨h1,h2⟩:=argBest_lt (numAt ps.toArray) (ps.length - 1);obtain⟨t,rfl⟩:=intItems_at hv;generalize argBest _ _=b at h1 h2 hv |-;refine⟨.int _,H2,I2.kept (t':=tk) kp,⟨t,rfl⟩,qn _ ?_ λj hj=>?_⟩
  ·have hb:b < ns.length:=by omega
   rw [en,ae9,aa2 hb];exact ae0 hb
  ·obtain⟨i,hi,rfl⟩:=List.getElem_of_mem hj
   have:=h2 i ()
   rw [en i,ae9,aa2 hi]at this;exact this
theorem ixE{P:Program}{w:World}{κ:Type}[DecidableEq κ](kk:KK P w κ){A:Around}{n:Nat}(hr:dv n A)(e:X.A=A:=by rfl)(e1:X.prog=P:=by rfl)(e2:X.w=w:=by rfl):xV X (Gm kk):=by
 subst e e1 e2;exact Hr (fE hr)
theorem rZ:cM X (.builtin "divmod") (λxs H Q=>∃i j,xs=[.int i,.int j]/\(0 < j/\j.natAbs < 2 ^ 200)/\∀p,H p=none->Q (.ref p) (upd H p (.tup [.int (i / j),.int (i % j)]))):=by
 rintro pins s Z H xs us Q I r ⟨i,j,rfl,⟨h1,h2⟩,q⟩;obtain⟨u,w',rfl,⟨t,rfl⟩,⟨t',rfl⟩⟩:=rK r;refine divmod_int () ?_ (.inl (PyProof.noPylong_of_log2 (ap4 ((aq1 ()).mpr h2) ∅)));rw [aj8 i (),aj9 i ()];have hn:H s.heap.objs.size=none:=I.hok.fresh (aa7 _);refine⟨.ref s.heap.objs.size,_,?_,rfl,q _ hn⟩;refine I.laid (λb o e=>aa4 _ e) (aa7 _) ⟨by simp only [ac7,an0];rw [sizeLine_eq];decide,[.int (i / j) s.toks,.int (i % j) (s.toks+1)],.cons ⟨_,rfl⟩ (.cons ⟨_,rfl⟩ .nil),?_⟩;exact⟨_,aa8 s.heap rfl,rfl,0,rfl⟩
seal PySem.wpAny
theorem GC{n:Nat}{us:List α}(h:us.length=n+1):∃x r,us=x::r/\r.length=n:=by
 cases us with
 | nil=>cases h
 | cons x r=>exact⟨x,r,rfl,Nat.succ.inj h⟩
theorem Fy{us:List α}(h:us.length=1):∃x,us=[x]:=List.length_eq_one_iff.mp h
theorem Hu{us:List α}(h:us.length=2):∃x0 x1,us=[x0,x1]:=by
 obtain⟨x0,r,rfl,hh⟩:=GC h;obtain⟨x1,rfl⟩:=Fy hh;exact⟨x0,x1,rfl⟩
theorem Hm{us:List α}(h:us.length=3):∃x0 x1 x2,us=[x0,x1,x2]:=by
 obtain⟨x0,r,rfl,hh⟩:=GC h;obtain⟨x1,x2,rfl⟩:=Hu hh;exact⟨x0,x1,x2,rfl⟩
theorem Ho{us:List α}(h:us.length=4):∃x0 x1 x2 x3,us=[x0,x1,x2,x3]:=by
 obtain⟨x0,r,rfl,hh⟩:=GC h;obtain⟨x1,x2,x3,rfl⟩:=Hm hh;exact⟨x0,x1,x2,x3,rfl⟩
theorem Hv{us:List α}(h:us.length=5):∃x0 x1 x2 x3 x4,us=[x0,x1,x2,x3,x4]:=by
 obtain⟨x0,r,rfl,hh⟩:=GC h;obtain⟨x1,x2,x3,x4,rfl⟩:=Ho hh;exact⟨x0,x1,x2,x3,x4,rfl⟩
theorem us6{us:List α}(h:us.length=6):∃x0 x1 x2 x3 x4 x5,us=[x0,x1,x2,x3,x4,x5]:=by
 obtain⟨x0,r,rfl,hh⟩:=GC h;obtain⟨x1,x2,x3,x4,x5,rfl⟩:=Hv hh;exact⟨x0,x1,x2,x3,x4,x5,rfl⟩
theorem cc.b1(F:cc K x qual st f fd)(h:∀kV doc pm an cdv ct x0,bindArgs (fnOf x qual (cz st) (bY st) (ak st) .none kV doc pm an cdv ct) ⟨[x0],[]⟩=pure ([p0].zip [x0]):=by intros;rfl):dh K fd [p0] []:=F.binds λ_ _ _ _ _ _ us hl=>by
 obtain⟨x0,rfl⟩:=Fy hl;exact h ..
theorem cc.b2(F:cc K x qual st f fd)(h:∀kV doc pm an cdv ct x0 x1,bindArgs (fnOf x qual (cz st) (bY st) (ak st) .none kV doc pm an cdv ct) ⟨[x0,x1],[]⟩=pure ([p0,p1].zip [x0,x1]):=by intros;rfl):dh K fd [p0,p1] []:=F.binds λ_ _ _ _ _ _ us hl=>by
 obtain⟨x0,x1,rfl⟩:=Hu hl;exact h ..
theorem cc.b3(F:cc K x qual st f fd)(h:∀kV doc pm an cdv ct x0 x1 x2,bindArgs (fnOf x qual (cz st) (bY st) (ak st) .none kV doc pm an cdv ct) ⟨[x0,x1,x2],[]⟩=pure ([p0,p1,p2].zip [x0,x1,x2]):=by intros;rfl):dh K fd [p0,p1,p2] []:=F.binds λ_ _ _ _ _ _ us hl=>by
 obtain⟨x0,x1,x2,rfl⟩:=Hm hl;exact h ..
theorem cc.b4(F:cc K x qual st f fd)(h:∀kV doc pm an cdv ct x0 x1 x2 x3,bindArgs (fnOf x qual (cz st) (bY st) (ak st) .none kV doc pm an cdv ct) ⟨[x0,x1,x2,x3],[]⟩=pure ([p0,p1,p2,p3].zip [x0,x1,x2,x3]):=by intros;rfl):dh K fd [p0,p1,p2,p3] []:=F.binds λ_ _ _ _ _ _ us hl=>by
 obtain⟨x0,x1,x2,x3,rfl⟩:=Ho hl;exact h ..
theorem cc.b5{p4:Str}(F:cc K x qual st f fd)(h:∀kV doc pm an cdv ct x0 x1 x2 x3 x4,bindArgs (fnOf x qual (cz st) (bY st) (ak st) .none kV doc pm an cdv ct) ⟨[x0,x1,x2,x3,x4],[]⟩=pure ([p0,p1,p2,p3,p4].zip [x0,x1,x2,x3,x4]):=by intros;rfl):dh K fd [p0,p1,p2,p3,p4] []:=F.binds λ_ _ _ _ _ _ us hl=>by
 obtain⟨x0,x1,x2,x3,x4,rfl⟩:=Hv hl;exact h ..
theorem cc.b6{p4 p5:Str}(F:cc K x qual st f fd)(h:∀kV doc pm an cdv ct x0 x1 x2 x3 x4 x5,bindArgs (fnOf x qual (cz st) (bY st) (ak st) .none kV doc pm an cdv ct) ⟨[x0,x1,x2,x3,x4,x5],[]⟩=pure ([p0,p1,p2,p3,p4,p5].zip [x0,x1,x2,x3,x4,x5]):=by intros;rfl):dh K fd [p0,p1,p2,p3,p4,p5] []:=F.binds λ_ _ _ _ _ _ us hl=>by
 obtain⟨x0,x1,x2,x3,x4,x5,rfl⟩:=us6 hl;exact h ..
end L2
namespace K62
local macro_rules|`(~~~$f:ident $a*)=>`($f P w K mg base $a*)|`(~~~$f:ident)=>`($f P w K mg base)
local macro_rules|`(↑$x)=>`(some (.ref $x))
local macro_rules|`(⇑$x)=>`(some (.int $x))
open PySem PyProof.Rows L2
local macro_rules|`(tactic|tm_at "s")=>`(tactic| exact ⟨rfl, rfl, rfl, by decide +kernel, rfl, by decide +kernel, by decide +kernel⟩)
variable {C Cs T0 f p x z:Addr} {D:List Int} {Dt:List (Str×V)} {Gs:List (Int->Prop)} {H H':Hp} {K:Frag} {L:List (List Int×Nat)} {P:Program} {Q:VK} {RIn:mP} {Ss:List bU} {a b m t u x1 x2 x3 x4:Int} {base:Heap} {bs:List (Int×Int)} {cols:List (List Int)} {fd:FuncData} {gs ps:List Addr} {i n nv:Nat} {l:PySem.W.OpenLaw} {met:List MS} {mg:Str->Option Value} {pats rows:List (List (Option Int))} {row:Str} {w:World} {α β:Type}
theorem cW{X:Cx}{x:Str}{e:Expr}{te:TE}{py spos:Pos}(hN:X.N.Nodup)(he:PE X e te)(hix:X.N[i]?=some x:=by rfl)(hx:X.env.scope.names.lookup x=some .local:=by rfl)(hs:swapsWith e (some (.Name x py)) spos.line X.env=pure false:=by rfl):PS X (.Assign [.Name x py] e spos) (wQ te (iI i)):=vY hN hix (.inl hx) he hs (.inr hx)
theorem gd{X:Cx}{x:Str}{pos:Pos}(hN:X.N.Nodup)(hix:X.N[i]?=some x:=by rfl)(hx:X.env.scope.names.lookup x=some .local:=by rfl):PG X (.Name x pos) (iI i):=bN hN hix (.inl hx) (.inr hx)
theorem t40:(10:Nat) ^ 40=10000000000000000000000000000000000000000:=by decide +kernel
variable {aM:Addr}
def cL(i:Nat):Stmt:=PySem.Challenge.pw_fourvoices_k62_the_paper_of_prices.main.body.getD i (.Pass ⟨0,0,0,0⟩)
abbrev lW:Stmt:=cL 6
theorem wo:aw ["column","voice"] ["column","voice"] (ak lW):=by tm_at "s"
abbrev we:Stmt:=cL 7
theorem Ds:aw ["column","first","second"] ["column","first","second"] (ak we):=by tm_at "s"
abbrev v9:Stmt:=cL 39
theorem Dr:aw ["before","column","voice"] ["before","column","voice"] (ak v9):=by tm_at "s"
abbrev fu:Stmt:=aN (cL 8) 0
theorem l6:aw ["self","row"] ["self","row"] (ak fu):=by tm_at "s"
abbrev dc:Stmt:=aN (cL 8) 1
theorem sZ:aw ["self"] ["self"] (ak dc):=by tm_at "s"
abbrev bR:Stmt:=aN (cL 8) 2
theorem qw:aw ["self"] ["self"] (ak bR):=by tm_at "s"
abbrev iq:Stmt:=aN (cL 8) 3
theorem qv:aw ["self","memory","before","column"] ["self","memory","before","column"] (ak iq):=by tm_at "s"
abbrev cb:Stmt:=aN (cL 8) 4
theorem oM:aw ["self","memory","last"] ["self","memory","last"] (ak cb):=by tm_at "s"
abbrev fv:Stmt:=aN (cL 9) 0
theorem l7:aw ["self","row","first","second","numbers"] ["self","row","first","second","numbers"] (ak fv):=by tm_at "s"
abbrev iu:Stmt:=aN (cL 9) 1
theorem qy:aw ["self","memory","before","column"] ["self","memory","before","column"] (ak iu):=by tm_at "s"
abbrev eL:Stmt:=aN (cL 10) 0
theorem kL:aw ["self","row","first","second","hours","numbers"] ["self","row","first","second","hours","numbers"] (ak eL):=by tm_at "s"
abbrev gC:Stmt:=aN (cL 10) 1
theorem oJ:aw ["self","memory","before","column"] ["self","memory","before","column"] (ak gC):=by tm_at "s"
abbrev eK:Stmt:=aN (cL 11) 0
theorem kK:aw ["self","row","voice","notes"] ["self","row","voice","notes"] (ak eK):=by tm_at "s"
abbrev gA:Stmt:=aN (cL 11) 1
theorem oI:aw ["self","memory","before","column"] ["self","memory","before","column"] (ak gA):=by tm_at "s"
abbrev eM:Stmt:=aN (cL 12) 0
theorem kM:aw ["self","row","voice","notes"] ["self","row","voice","notes"] (ak eM):=by tm_at "s"
abbrev fZ:Stmt:=aN (cL 12) 1
theorem mW:aw ["self","memory","last"] ["self","memory","last"] (ak fZ):=by tm_at "s"
abbrev ft:Stmt:=aN (cL 40) 0
theorem l0:aw ["self","row","voice","numbers"] ["self","row","voice","numbers"] (ak ft):=by tm_at "s"
abbrev ip:Stmt:=aN (cL 40) 1
theorem qu:aw ["self","memory","before","column"] ["self","memory","before","column"] (ak ip):=by tm_at "s"
abbrev eJ:Stmt:=aN (cL 41) 0
theorem kJ:aw ["self","row","first","second","numbers"] ["self","row","first","second","numbers"] (ak eJ):=by tm_at "s"
abbrev gy:Stmt:=aN (cL 41) 1
theorem sc_Alike_after:aw ["self","memory","before","column","now"] ["self","memory","before","column"] (ak gy):=by tm_at "s"
abbrev fk:Stmt:=aN (cL 42) 0
theorem lY:aw ["self","row","voice","widest"] ["self","row","voice","widest"] (ak fk):=by tm_at "s"
abbrev ja:Stmt:=aN (cL 42) 1
theorem sX:aw ["self"] ["self"] (ak ja):=by tm_at "s"
abbrev ij:Stmt:=aN (cL 42) 2
theorem qk:aw ["self"] ["self"] (ak ij):=by tm_at "s"
abbrev ig:Stmt:=aN (cL 42) 3
theorem sc_Back_after:aw ["self","memory","before","column","step"] ["self","memory","before","column"] (ak ig):=by tm_at "s"
abbrev gz:Stmt:=aN (cL 42) 4
theorem oH:aw ["self","memory","last"] ["self","memory","last"] (ak gz):=by tm_at "s"
abbrev fm:Stmt:=aN (cL 32) 0
theorem lZ:aw ["self","row","voice","most"] ["self","row","voice","most"] (ak fm):=by tm_at "s"
abbrev jb:Stmt:=aN (cL 32) 1
theorem sY:aw ["self"] ["self"] (ak jb):=by tm_at "s"
abbrev il:Stmt:=aN (cL 32) 2
theorem qq:aw ["self","memory","before","column"] ["self","memory","before","column"] (ak il):=by tm_at "s"
abbrev eP:Stmt:=aN (cL 33) 0
theorem kQ:aw ["self","row","voice","note","fewest","most"] ["self","row","voice","note","fewest","most"] (ak eP):=by tm_at "s"
abbrev iw:Stmt:=aN (cL 33) 1
theorem qA:aw ["self"] ["self"] (ak iw):=by tm_at "s"
abbrev gH:Stmt:=aN (cL 33) 2
theorem oQ:aw ["self","memory","before","column"] ["self","memory","before","column"] (ak gH):=by tm_at "s"
abbrev f6:Stmt:=aN (cL 33) 3
theorem mX:aw ["self","memory","last"] ["self","memory","last"] (ak f6):=by tm_at "s"
abbrev eN:Stmt:=aN (cL 34) 0
theorem kO:aw ["self","row","turns","turn","inner"] ["self","row","turns","turn","inner"] (ak eN):=by tm_at "s"
abbrev ik:Stmt:=aN (cL 34) 1
theorem qm:aw ["self"] ["self"] (ak ik):=by tm_at "s"
abbrev gD:Stmt:=aN (cL 34) 2
theorem oK:aw ["self","memory","before","column"] ["self","memory","before","column"] (ak gD):=by tm_at "s"
abbrev je:Stmt:=cL 46
theorem sc_is_number:aw ["word","figures"] ["word"] (ak je):=by tm_at "s"
abbrev iy:Stmt:=cL 50
theorem qB:aw ["numbers","voices"] ["numbers","voices"] (ak iy):=by tm_at "s"
abbrev jQ:Stmt:=cL 51
theorem uR:aw ["numbers","ahead"] ["numbers","ahead"] (ak jQ):=by tm_at "s"
abbrev lX:Stmt:=cL 52
theorem wq:aw ["row","numbers","voices"] ["row","numbers","voices"] (ak lX):=by tm_at "s"
abbrev jO:Stmt:=cL 53
theorem uP:aw ["row","numbers","voices"] ["row","numbers","voices"] (ak jO):=by tm_at "s"
abbrev lV:Stmt:=cL 54
theorem wm:aw ["row","numbers","voices"] ["row","numbers","voices"] (ak lV):=by tm_at "s"
abbrev jM:Stmt:=cL 55
theorem uN:aw ["row","numbers","voices"] ["row","numbers","voices"] (ak jM):=by tm_at "s"
abbrev lP:Stmt:=cL 56
theorem wg:aw ["row","numbers","voices"] ["row","numbers","voices"] (ak lP):=by tm_at "s"
abbrev lR:Stmt:=cL 57
theorem wj:aw ["row","numbers","voices"] ["row","numbers","voices"] (ak lR):=by tm_at "s"
abbrev jX:Stmt:=cL 58
theorem uU:aw ["row","numbers","voices"] ["row","numbers","voices"] (ak jX):=by tm_at "s"
abbrev jN:Stmt:=cL 59
theorem uO:aw ["row","numbers","voices"] ["row","numbers","voices"] (ak jN):=by tm_at "s"
abbrev jP:Stmt:=cL 60
theorem uQ:aw ["row","numbers","voices"] ["row","numbers","voices"] (ak jP):=by tm_at "s"
abbrev iE:Stmt:=cL 62
theorem sc_plain_rule:aw ["row","voices","words"] ["row","voices"] (ak iE):=by tm_at "s"
abbrev iz:Stmt:=cL 63
theorem sc_every_rule:aw ["row","voices","words","turns","turn","inner"] ["row","voices"] (ak iz):=by tm_at "s"
abbrev gp:Stmt:=cL 64
theorem sc_read_rule:aw ["text","voices","row","rule"] ["text","voices","row"] (ak gp):=by tm_at "s"
abbrev eO:Stmt:=aN (cL 15) 0
theorem kP:aw ["self","ranges","rules"] ["self","ranges","rules"] (ak eO):=by tm_at "s"
abbrev oG:Stmt:=cL 18
theorem sc_weight:aw ["score","told","low","high","rule"] ["score"] (ak oG):=by tm_at "s"
abbrev f7:Stmt:=cL 19
theorem sc_not_too_wide:aw ["score","told"] ["score"] (ak f7):=by tm_at "s"
abbrev gL:Stmt:=cL 68
theorem sc_voice_range:aw ["row","words","bounds"] ["row"] (ak gL):=by tm_at "s"
abbrev wc:Stmt:=cL 69
theorem sc_read:aw ["text","ranges","rules","number","row","bounds"] ["text"] (ak wc):=by tm_at "s"
abbrev iD:Stmt:=cL 16
theorem qD:aw ["column","low","high"] ["column","low","high"] (ak iD):=by tm_at "s"
abbrev lQ:Stmt:=cL 17
theorem sc_columns:aw ["score","told","low","high","longer","column"] ["score"] (ak lQ):=by tm_at "s"
abbrev eQ:Stmt:=cL 27
theorem sc_memories_after:aw ["rules","memories","before","column","told","place","rule","memory"] ["rules","memories","before","column"] (ak eQ):=by tm_at "s"
abbrev jd:Stmt:=cL 28
theorem tj:aw ["rules","memories","last"] ["rules","memories","last"] (ak jd):=by tm_at "s"
abbrev eo:Stmt:=aN (cL 29) 0
theorem jY:aw ["self"] ["self"] (ak eo):=by tm_at "s"
abbrev gF:Stmt:=aN (cL 29) 1
theorem oO:aw ["self"] ["self"] (ak gF):=by tm_at "s"
abbrev jc:Stmt:=aN (cL 29) 2
theorem td:aw ["self","state","column"] ["self","state","column"] (ak jc):=by tm_at "s"
abbrev gE:Stmt:=aN (cL 29) 3
theorem oN:aw ["self","state"] ["self","state"] (ak gE):=by tm_at "s"
abbrev fw:Stmt:=aN (cL 29) 4
theorem l8:aw ["self"] ["self"] (ak fw):=by tm_at "s"
abbrev gG:Stmt:=aN (cL 29) 5
theorem oP:aw ["self","state"] ["self","state"] (ak gG):=by tm_at "s"
abbrev dW:Stmt:=aN (cL 30) 0
theorem sc_Machine___init__:aw ["self","score","beginning"] ["self","score"] (ak dW):=by tm_at "s"
abbrev fq:Stmt:=aN (cL 30) 1
theorem sc_Machine_build:aw ["self","met","numbers","steps","rules","last","memories","leads","column","found"] ["self","met","numbers","steps"] (ak fq):=by tm_at "s"
abbrev sW:Stmt:=cL 21
theorem sc_price:aw ["column","given","prices","told","voice","note"] ["column","given","prices"] (ak sW):=by tm_at "s"
abbrev fB:Stmt:=cL 22
theorem sc_column_prices:aw ["machine","given","prices","told","column"] ["machine","given","prices"] (ak fB):=by tm_at "s"
abbrev gK:Stmt:=cL 23
theorem oR:aw ["ways","costs","later"] ["ways","costs","later"] (ak gK):=by tm_at "s"
abbrev f9:Stmt:=cL 24
theorem sc_prices_paper:aw ["machine","pattern","prices","backward","given","costs","later"] ["machine","pattern","prices"] (ak f9):=by tm_at "s"
abbrev gJ:Stmt:=cL 71
theorem sc_law_stirred:aw ["_law_cell","_law_place","_law_found","_law_rest","_law_turn","_law_upper","_law_lower"] ["_law_cell","_law_place"] (ak gJ):=by tm_at "s"
abbrev lU:Stmt:=cL 72
theorem sc_law_got:aw ["_law_script","_law_place","_law_cell","_law_power"] ["_law_script","_law_place"] (ak lU):=by tm_at "s"
abbrev jf:Stmt:=cL 73
theorem tq:aw ["_law_script","_law_first","_law_last"] ["_law_script","_law_first","_law_last"] (ak jf):=by tm_at "s"
abbrev jV:Stmt:=cL 74
theorem sc_law_some:aw ["_law_values","_law_bits","_law_found","_law_rest","_law_k","_law_taken"] ["_law_values","_law_bits"] (ak jV):=by tm_at "s"
abbrev jk:Stmt:=cL 75
theorem tu:aw ["_law_ranges","_law_a","_law_b"] ["_law_ranges","_law_a","_law_b"] (ak jk):=by tm_at "s"
abbrev iC:Stmt:=cL 76
theorem sc_law_single:aw ["_law_cell","_law_bits","_law_ranges","_law_a","_law_b","_law_beat"] ["_law_cell","_law_bits","_law_ranges"] (ak iC):=by tm_at "s"
abbrev jS:Stmt:=cL 77
theorem sc_law_rule:aw ["_law_cell","_law_bits","_law_ranges","_law_kind","_law_rest","_law_a","_law_low","_law_high","_law_notes","_law_b","_law_beat"] ["_law_cell","_law_bits","_law_ranges"] (ak jS):=by tm_at "s"
abbrev jT:Stmt:=cL 78
theorem uT:aw ["_law_rule_here"] ["_law_rule_here"] (ak jT):=by tm_at "s"
abbrev jj:Stmt:=cL 79
theorem sc_law_score:aw ["_law_script","_law_most","_law_first","_law_many","_law_far","_law_ranges","_law_heavy","_law_k","_law_cell","_law_size_here","_law_low","_law_rules","_law_rule_here"] ["_law_script","_law_most"] (ak jj):=by tm_at "s"
abbrev jW:Stmt:=cL 80
theorem sc_law_text:aw ["_law_ranges","_law_rules","_law_rows"] ["_law_ranges","_law_rules"] (ak jW):=by tm_at "s"
abbrev lT:Stmt:=cL 81
theorem sc_law_all:aw ["_law_ranges","_law_found","_law_low","_law_high","_law_longer","_law_column"] ["_law_ranges"] (ak lT):=by tm_at "s"
abbrev gI:Stmt:=cL 82
theorem sc_law_pattern:aw ["_law_cells_here","_law_ranges","_law_pattern_here","_law_cell","_law_column","_law_low","_law_high","_law_part"] ["_law_cells_here","_law_ranges"] (ak gI):=by tm_at "s"
abbrev iB:Stmt:=cL 83
theorem sc_law_prices:aw ["_law_script","_law_voices","_law_cell","_law_found","_law_rest","_law_k","_law_amount"] ["_law_script","_law_voices"] (ak iB):=by tm_at "s"
abbrev iA:Stmt:=cL 84
theorem qC:aw ["_law_prices_here","_law_voices"] ["_law_prices_here","_law_voices"] (ak iA):=by tm_at "s"
abbrev ji:Stmt:=cL 85
theorem sc_law_price:aw ["_law_column","_law_given","_law_prices_here","_law_total","_law_k"] ["_law_column","_law_given","_law_prices_here"] (ak ji):=by tm_at "s"
abbrev jg:Stmt:=cL 86
theorem sc_law_least:aw ["_law_machine","_law_state","_law_offers","_law_late","_law_found","_law_column","_law_cost","_law_to"] ["_law_machine","_law_state","_law_offers","_law_late"] (ak jg):=by tm_at "s"
abbrev jR:Stmt:=cL 87
theorem uS:aw ["_law_found","_law_due"] ["_law_found","_law_due"] (ak jR):=by tm_at "s"
abbrev jh:Stmt:=cL 88
theorem sc_law_paper:aw ["_law_machine","_law_paper_here","_law_pattern_here","_law_every","_law_prices_here","_law_row","_law_state","_law_place","_law_offers","_law_due"] ["_law_machine","_law_paper_here","_law_pattern_here","_law_every","_law_prices_here"] (ak jh):=by tm_at "s"
abbrev rh:Stmt:=cL 89
theorem sc_law:aw ["_law_script","_law_ranges","_law_rules","_law_machine","_law_pattern_here","_law_prices_here","_law_every","_law_handed","_law_paper_here","_law_some_here","_law_told"] ["_law_script"] (ak rh):=by tm_at "s"
structure Txt(mg:Str->Option Value)(aM:Addr):Prop where
 n_len:mg "len"=none
 n_range:mg "range"=none
 n_all:mg "all"=none
 n_min:mg "min"=none
 n_max:mg "max"=none
 n_abs:mg "abs"=none
 n_tuple:mg "tuple"=none
 n_list:mg "list"=none
 n_isinstance:mg "isinstance"=none
 n_bool:mg "bool"=none
 n_int:mg "int"=none
 n_str:mg "str"=none
 n_divmod:mg "divmod"=none
 n_enumerate:mg "enumerate"=none
 n_zip:mg "zip"=none
 n_reversed:mg "reversed"=none
 g_FIGURES:∃u,mg "FIGURES"=some u/\aP (.str "0123456789") u
 g_MOST_FIGURES:∃u,mg "MOST_FIGURES"=some u/\aP (.int 40) u
 g_MOST_VOICES:∃u,mg "MOST_VOICES"=some u/\aP (.int 4) u
 g_MOST_RULES:∃u,mg "MOST_RULES"=some u/\aP (.int 12) u
 g_MOST_WEIGHT:∃u,mg "MOST_WEIGHT"=some u/\aP (.int 400) u
 g_MOST_NUMBERS:∃u,mg "MOST_NUMBERS"=some u/\aP (.int 12) u
 g_NO_LEAP:∃u,mg "NO_LEAP"=some u/\aP (.int 0) u
 g_LEAP_UP:∃u,mg "LEAP_UP"=some u/\aP (.int 1) u
 g_LEAP_DOWN:∃u,mg "LEAP_DOWN"=some u/\aP (.int 2) u
 g_START:∃u,mg "START"=some u/\aP (.int 0) u
 g_MAKERS:∃u,mg "MAKERS"=some u/\aP (.ref aM) u
structure FJ(mg:Str->Option Value)(aM aI:Addr):Prop extends Txt mg aM where
 g_INNER_KINDS:∃u,mg "INNER_KINDS"=some u/\aP (.ref aI) u
local macro_rules|`(tactic|tm_at "r")=>`(tactic| (try dsimp only [↓rg, ↓uL, ↓m7, ↓rV, ↓sg, ↓sh, ↓si, ↓sj, ↓ng, ↓nh, Fj, FX, jI, jU, uj, ui, Ag, ug, Al, uh, jq, xP, wQ, iI, tC, Fi, Hl, Bz, Fm, D9, By, Fe, rH, pA, va, Fd, Hi, Fh, Hh, Hk, tK, L2.start, List.map_cons, List.map_nil, List.length_cons, List.length_nil, List.replicate, List.cons_append, List.nil_append, List.set_cons_zero, List.set_cons_succ, rg, uL, m7, rV, sg, sh, si, sj, ng, nh]) <;> (try simp only [↓rg, ↓uL, ↓m7, ↓rV, ↓sg, ↓sh, ↓si, ↓sj, ↓ng, ↓nh, ↓itD, ↓itN, Fj, FX, jI, jU, uj, ui, Ag, ug, Al, uh, jq, xP, wQ, iI, Fn, tC, Fi, Hl, Bz, rJ, Fm, D9, By, Fe, rH, pA, va, Fd, Hi, Fh, u7, BD, vb, Hh, Hk, xQ, tK, Hf, Hg, El, DH, FQ, uH, rI, rU, L2.start, vv, vw, vx, zR, Cg, zM, zP, zN, zQ, zO, List.map_cons, List.map_nil, List.length_cons, List.length_nil, List.replicate, List.cons_append, List.nil_append, List.append_nil, List.getElem?_cons_zero, List.getElem?_cons_succ, List.set_cons_zero, List.set_cons_succ, Option.some.injEq, Ek, zJ, DF, DD, V.int.injEq, V.str.injEq, V.bl.injEq, V.ref.injEq, V.ty.injEq, List.cons.injEq, and_true, true_and, GK, DJ, DK, z7, Bx, D6, BC, D8, FU, tJ, kY, DI, u9, BA, FV, FT, z6, Em, wU, G9, zS, FR, DZ, wR, Bu, Gv, Gq, BB, Bt, xO, Bw, Bs, Int.zero_add, if_true, Bool.false_eq_true, if_false, Zs, List.getD_cons_zero, List.getD_cons_succ, DC, Ei, FN, decide_eq_true_eq, reduceCtorEq, false_and, DE, false_or, or_false, List.length_map, Gx, Gy, Ht, Hj, zI, Ci, Bool.not_eq_true', ite_not, rg, uL, m7, rV, sg, sh, si, sj, ng, nh]) <;> try simp only [yn, yj, yi, Ce, Cf, yk, ym, zK, zL, yl, zJ, DF, DD, DC, and_true, true_and, V.int.injEq, V.str.injEq, V.bl.injEq, V.ref.injEq, reduceCtorEq, false_and, DE, false_or, or_false])|`(tactic|tm_at "f")=>`(tactic| simp only [i0, su, String.reduceEq, if_false, if_true, List.lookup])
def rC:Sp:=λvs H Q _=>∃z,vs=[.str z]/\z.length<=10000/\∀H',ar H H'->Q (.bl (ue z.cps.toList)) H'
def fh(K:Frag):Sp:=λvs H Q _=>∃(c:Addr) (v:Int) (us:List Int),vs=[.ref c,.int v]/\cT K H c (us.map V.int)/\1<=v/\v<=us.length/\Q (.int (bh us v)) H
def pe(K:Frag):Sp:=λvs H Q _=>∃(c:Addr) (a b:Int) (us:List Int),vs=[.ref c,.int a,.int b]/\cT K H c (us.map V.int)/\1<=a/\a<=us.length/\1<=b/\b<=us.length/\Q (.int (bh us b - bh us a)) H
def cy(K:Frag):Sp:=λvs H Q _=>∃(x C dx:Addr) (fs:List (Str×V)) (row:Str),vs=[.ref x,.str row]/\H x=some (.ins C dx fs)/\vc K C/\NoAttr K C "row"/\fs.length < 100/\Q .non (upd H x (.ins C dx (br "row" (.str row) fs)))
def cG(n:Nat)(v:List V->V):Sp:=λvs H Q _=>vs.length=n/\Q (v vs) H
def GN(K:Frag):Sp:=λvs H Q _=>∃(r C dx:Addr) (fs:List (Str×V)) (row:Str),vs=[.ref r]/\H r=some (.ins C dx fs)/\vc K C/\NoAttr K C "row"/\fs.lookup (Str.ofString "row")=some (.str row)/\Q (.str row) H
def DQ(vs:List V):V:=vs.getD 1 .non
def dY(K:Frag):Sp:=λvs H Q _=>∃(q:Addr) (xs:List V) (j:Int),vs=[.ref q,.int j]/\aF K H q xs/\Q (.bl (decide (1<=(xs.length:Int) - j) && decide ((xs.length:Int) - j<=12))) H
def ck(K:Frag):Sp:=λvs H Q _=>∃(q:Addr) (ns:List Int) (nv:Int),vs=[.ref q,.int nv]/\aF K H q (ns.map V.int)/\ns.length<=1000/\∀H',ar H H'->Q (.bl (ns.all λn=>decide (1<=n) && decide (n<=nv))) H'
def kT(P:Program)(w:World)(K:Frag)(mg:Str->Option Value)(base:Heap)(aM:Addr)(k:Nat):Sp:=λvs H Q _=>∃(row kind:Str) (ns:List Int) (nv:Int) (D:List (Str×V)) (f:Addr) (sp:Sp) (Res:V->Hp->Prop),vs=[.str row,.int nv]/\fQ row kind ns/\lj K aM D/\KTD.datumAt kind D=↑f/\
 ~~~eZ k f ["row","numbers","voices"] sp/\(∀q H' Q',ar H H'->H' q=some (.lst (ns.map V.int))->(∀v H'',Res v H''->Q' v H'')->sp [.str row,.ref q,.int nv] H' Q' E0)/\∀v H',Res v H'->Q v H'
def Bk(P:Program)(w:World)(K:Frag)(mg:Str->Option Value)(base:Heap)(aM:Addr)(k:Nat):Sp:=λvs H Q _=>∃(row kind:Str) (ns:List Int) (nv z:Int) (D:List (Str×V)) (f:Addr) (sp:Sp) (Res:V->Hp->Prop),vs=[.str row,.int nv,.int z]/\fQ row kind ns/\kind.cps.toList.head?≠some 101/\lj K aM D/\KTD.datumAt kind D=↑f/\
 ~~~eZ k f ["row","numbers","voices"] sp/\(∀q H' Q',ar H H'->H' q=some (.lst (ns.map V.int))->(∀v H'',Res v H''->Q' v H'')->sp [.str row,.ref q,.int nv] H' Q' E0)/\∀v H',Res v H'->v≠.non/\Q v H'
def eh(row:Str)(x1 x2:Int)(n:Addr):List (Str×V):=br "numbers" (.ref n) (br "second" (.int x2) (br "first" (.int x1) (br "row" (.str row) [])))
def iV(C:Addr)(row:Str)(x1 x2:Int)(D:List Int):mP:=λr H=>∃(dx n:Addr),H r=some (.ins C dx (eh row x1 x2 n))/\H n=some (.lst (D.map V.int))
structure zt(K:Frag)(C:Addr)(c1 c2 c3 c4:Str):Prop where
 cl:vc K C
 n1:NoAttr K C c1
 n2:NoAttr K C c2
 n3:NoAttr K C c3
 n4:NoAttr K C c4
abbrev m6(K:Frag)(C:Addr):=zt K C "row" "first" "second" "numbers"
def pf(K:Frag)(C:Addr):Sp:=λvs H Q _=>∃(x dx q:Addr) (row:Str) (x1 x2:Int) (D:List Int),vs=[.ref x,.str row,.int x1,.int x2,.ref q]/\H x=some (.ins C dx [])/\aF K H q (D.map V.int)/\D.length<=20/\
 ∀n H',H n=none->H'=upd (upd H n (.lst (D.map V.int))) x (.ins C dx (eh row x1 x2 n))->Q .non H'
def ph(K:Frag)(C:Addr):Sp:=λvs H Q _=>∃(q:Addr) (row:Str) (x1 x2:Int) (D:List Int) (nv:Int),vs=[.str row,.ref q,.int nv]/\aF K H q ((x1::x2::D).map V.int)/\1<=x1/\x1<=nv/\1<=x2/\x2<=nv/\1<=D.length/\D.length<=12/\
 ∀r H',ar H H'->iV C row x1 x2 D r H'->Q (.ref r) H'
def fJ(a b:Int)(D:List Int):bU:=⟨1,0,λm _ us=>if bh us b - bh us a∈D then some m else none,λ_ _=>true⟩
def cZ(row:Str)(x1 x2 x3:Int)(n:Addr):List (Str×V):=br "numbers" (.ref n) (br "hours" (.int x3) (br "second" (.int x2) (br "first" (.int x1) (br "row" (.str row) []))))
def gi(C:Addr)(row:Str)(x1 x2 x3:Int)(D:List Int):mP:=λr H=>∃(dx n:Addr),H r=some (.ins C dx (cZ row x1 x2 x3 n))/\H n=some (.lst (D.map V.int))
structure DA(K:Frag)(C:Addr)(c1 c2 c3 c4 c5:Str):Prop where
 cl:vc K C
 n1:NoAttr K C c1
 n2:NoAttr K C c2
 n3:NoAttr K C c3
 n4:NoAttr K C c4
 n5:NoAttr K C c5
abbrev j8(K:Frag)(C:Addr):=DA K C "row" "first" "second" "hours" "numbers"
def mH(K:Frag)(C:Addr):Sp:=λvs H Q _=>∃(x dx q:Addr) (row:Str) (x1 x2 x3:Int) (D:List Int),vs=[.ref x,.str row,.int x1,.int x2,.int x3,.ref q]/\H x=some (.ins C dx [])/\aF K H q (D.map V.int)/\D.length<=20/\
 ∀n H',H n=none->H'=upd (upd H n (.lst (D.map V.int))) x (.ins C dx (cZ row x1 x2 x3 n))->Q .non H'
def mi(K:Frag)(C:Addr):Sp:=λvs H Q _=>∃(q:Addr) (row:Str) (x1 x2 x3:Int) (D:List Int) (nv:Int),vs=[.str row,.ref q,.int nv]/\aF K H q ((x1::x2::x3::D).map V.int)/\1<=x1/\x1<=nv/\1<=x2/\x2<=nv/\1<=x3/\1<=D.length/\D.length<=12/\
 ∀r H',ar H H'->gi C row x1 x2 x3 D r H'->Q (.ref r) H'
def eu(x1 x2 x3:Int)(D:List Int):bU:=⟨1,0,λm _ us=>if (bh us x2 - bh us x1) % x3∈D then some m else none,λ_ _=>true⟩
def fU(row:Str)(x1:Int)(n:Addr):List (Str×V):=br "numbers" (.ref n) (br "voice" (.int x1) (br "row" (.str row) []))
def iU(C:Addr)(row:Str)(x1:Int)(D:List Int):mP:=λr H=>∃(dx n:Addr),H r=some (.ins C dx (fU row x1 n))/\H n=some (.lst (D.map V.int))
structure qG(K:Frag)(C:Addr)(c1 c2 c3:Str):Prop where
 cl:vc K C
 n1:NoAttr K C c1
 n2:NoAttr K C c2
 n3:NoAttr K C c3
abbrev m5(K:Frag)(C:Addr):=qG K C "row" "voice" "numbers"
def oY(K:Frag)(C:Addr):Sp:=λvs H Q _=>∃(x dx q:Addr) (row:Str) (x1:Int) (D:List Int),vs=[.ref x,.str row,.int x1,.ref q]/\H x=some (.ins C dx [])/\aF K H q (D.map V.int)/\D.length<=20/\
 ∀n H',H n=none->H'=upd (upd H n (.lst (D.map V.int))) x (.ins C dx (fU row x1 n))->Q .non H'
def oZ(K:Frag)(C:Addr):Sp:=λvs H Q _=>∃(q:Addr) (row:Str) (x1:Int) (D:List Int) (nv:Int),vs=[.str row,.ref q,.int nv]/\aF K H q ((x1::D).map V.int)/\1<=x1/\x1<=nv/\1<=D.length/\D.length<=12/\
 ∀r H',ar H H'->iU C row x1 D r H'->Q (.ref r) H'
def gq(x1:Int)(D:List Int):bU:=⟨1,0,λm b us=>match b with | none=>some m | some bs=>if bh us x1 - bh bs x1∈D then some m else none,λ_ _=>true⟩
def kS(K:Frag):Sp:=λvs H Q _=>∃(b c:Addr) (v:Int) (bs us:List Int),vs=[.ref b,.ref c,.int v]/\cT K H b (bs.map V.int)/\cT K H c (us.map V.int)/\1<=v/\v<=bs.length/\v<=us.length/\Q (.int (bh us v - bh bs v)) H
def dH(row:Str)(x1 x2:Int)(n:Addr):List (Str×V):=br "numbers" (.ref n) (br "second" (.int x2) (br "first" (.int x1) (br "row" (.str row) [])))
def gg(C:Addr)(row:Str)(x1 x2:Int)(D:List Int):mP:=λr H=>∃(dx n:Addr),H r=some (.ins C dx (dH row x1 x2 n))/\H n=some (.lst (D.map V.int))
abbrev j6(K:Frag)(C:Addr):=zt K C "row" "first" "second" "numbers"
def mF(K:Frag)(C:Addr):Sp:=λvs H Q _=>∃(x dx q:Addr) (row:Str) (x1 x2:Int) (D:List Int),vs=[.ref x,.str row,.int x1,.int x2,.ref q]/\H x=some (.ins C dx [])/\aF K H q (D.map V.int)/\D.length<=20/\
 ∀n H',H n=none->H'=upd (upd H n (.lst (D.map V.int))) x (.ins C dx (dH row x1 x2 n))->Q .non H'
def md(K:Frag)(C:Addr):Sp:=λvs H Q _=>∃(q:Addr) (row:Str) (x1 x2:Int) (D:List Int) (nv:Int),vs=[.str row,.ref q,.int nv]/\aF K H q ((x1::x2::D).map V.int)/\1<=x1/\x1<=nv/\1<=x2/\x2<=nv/\1<=D.length/\D.length<=12/\
 ∀r H',ar H H'->gg C row x1 x2 D r H'->Q (.ref r) H'
def fe(x1 x2:Int)(D:List Int):bU:=⟨1,0,λm b us=>match b with | none=>some m | some bs=>if bh us x1 - bh bs x1=0 then some m else if bh us x2 - bh us x1=bh bs x2 - bh bs x1/\bh us x2 - bh us x1∈D then none else some m,λ_ _=>true⟩
def eG(row:Str)(x1:Int)(n:Addr):List (Str×V):=br "notes" (.ref n) (br "voice" (.int x1) (br "row" (.str row) []))
def gh(C:Addr)(row:Str)(x1:Int)(D:List Int):mP:=λr H=>∃(dx n:Addr),H r=some (.ins C dx (eG row x1 n))/\H n=some (.lst (D.map V.int))
abbrev j7(K:Frag)(C:Addr):=qG K C "row" "voice" "notes"
def mG(K:Frag)(C:Addr):Sp:=λvs H Q _=>∃(x dx q:Addr) (row:Str) (x1:Int) (D:List Int),vs=[.ref x,.str row,.int x1,.ref q]/\H x=some (.ins C dx [])/\aF K H q (D.map V.int)/\D.length<=20/\
 ∀n H',H n=none->H'=upd (upd H n (.lst (D.map V.int))) x (.ins C dx (eG row x1 n))->Q .non H'
def mh(K:Frag)(C:Addr):Sp:=λvs H Q _=>∃(q:Addr) (row:Str) (x1:Int) (D:List Int) (nv:Int),vs=[.str row,.ref q,.int nv]/\aF K H q ((x1::D).map V.int)/\1<=x1/\x1<=nv/\1<=D.length/\D.length<=12/\
 ∀r H',ar H H'->gh C row x1 D r H'->Q (.ref r) H'
def fg(x1:Int)(D:List Int):bU:=⟨1,0,λm b us=>match b with | some _=>some m | none=>if bh us x1∈D then some m else none,λ_ _=>true⟩
def eH(row:Str)(x1:Int)(n:Addr):List (Str×V):=br "notes" (.ref n) (br "voice" (.int x1) (br "row" (.str row) []))
def gj(C:Addr)(row:Str)(x1:Int)(D:List Int):mP:=λr H=>∃(dx n:Addr),H r=some (.ins C dx (eH row x1 n))/\H n=some (.lst (D.map V.int))
abbrev j9(K:Frag)(C:Addr):=qG K C "row" "voice" "notes"
def mI(K:Frag)(C:Addr):Sp:=λvs H Q _=>∃(x dx q:Addr) (row:Str) (x1:Int) (D:List Int),vs=[.ref x,.str row,.int x1,.ref q]/\H x=some (.ins C dx [])/\aF K H q (D.map V.int)/\D.length<=20/\
 ∀n H',H n=none->H'=upd (upd H n (.lst (D.map V.int))) x (.ins C dx (eH row x1 n))->Q .non H'
def mj(K:Frag)(C:Addr):Sp:=λvs H Q _=>∃(q:Addr) (row:Str) (x1:Int) (D:List Int) (nv:Int),vs=[.str row,.ref q,.int nv]/\aF K H q ((x1::D).map V.int)/\1<=x1/\x1<=nv/\1<=D.length/\D.length<=12/\
 ∀r H',ar H H'->gj C row x1 D r H'->Q (.ref r) H'
def gb(x1:Int)(D:List Int):bU:=⟨1,0,λm _ _=>some m,λ_ b=>match b with | none=>true | some us=>decide (bh us x1∈D)⟩
def fT(row:Str)(x1 x2:Int):List (Str×V):=(br "widest" (.int x2) (br "voice" (.int x1) (br "row" (.str row) [])))
def fO(C:Addr)(row:Str)(x1 x2:Int):mP:=λr H=>∃(dx:Addr),H r=some (.ins C dx (fT row x1 x2))
abbrev mZ(K:Frag)(C:Addr):=qG K C "row" "voice" "widest"
def oU(K:Frag)(C:Addr):Sp:=λvs H Q _=>∃(x dx:Addr) (row:Str) (x1 x2:Int),vs=[.ref x,.str row,.int x1,.int x2]/\H x=some (.ins C dx [])/\Q .non (upd H x (.ins C dx (fT row x1 x2)))
def oV(K:Frag)(C:Addr):Sp:=λvs H Q _=>∃(q:Addr) (row:Str) (x1 x2:Int) (nv:Int),vs=[.str row,.ref q,.int nv]/\aF K H q ([x1,x2].map V.int)/\1<=x1/\x1<=nv/\0<=x2/\
 ∀r H',ar H H'->fO C row x1 x2 r H'->Q (.ref r) H'
def dS(x1 x2:Int):bU:=⟨3,0,λm b us=>match b with | none=>some 0 | some bs=>if (m=1/\0<=bh us x1 - bh bs x1)\/(m=2/\bh us x1 - bh bs x1<=0)then none else if bh us x1 - bh bs x1 > x2 then some 1 else if bh us x1 - bh bs x1 < 0 - x2 then some 2 else some 0,λm _=>decide (m=0)⟩
def eg(row:Str)(x1 x2:Int):List (Str×V):=(br "most" (.int x2) (br "voice" (.int x1) (br "row" (.str row) [])))
def fP(C:Addr)(row:Str)(x1 x2:Int):mP:=λr H=>∃(dx:Addr),H r=some (.ins C dx (eg row x1 x2))
abbrev ka(K:Frag)(C:Addr):=qG K C "row" "voice" "most"
def oW(K:Frag)(C:Addr):Sp:=λvs H Q _=>∃(x dx:Addr) (row:Str) (x1 x2:Int),vs=[.ref x,.str row,.int x1,.int x2]/\H x=some (.ins C dx [])/\Q .non (upd H x (.ins C dx (eg row x1 x2)))
def oX(K:Frag)(C:Addr):Sp:=λvs H Q _=>∃(q:Addr) (row:Str) (x1 x2:Int) (nv:Int),vs=[.str row,.ref q,.int nv]/\aF K H q ([x1,x2].map V.int)/\1<=x1/\x1<=nv/\1<=x2/\
 ∀r H',ar H H'->fP C row x1 x2 r H'->Q (.ref r) H'
def eX(x1 x2:Int):bU:=⟨x2,0,λm b us=>match b with | none=>some 0 | some bs=>if bh bs x1=bh us x1 then(if m+1 < x2 then some (m+1)else none)else some 0,λ_ _=>true⟩
def qW(x2 m:Int):Prop:=0<=m/\m < x2
def cB(row:Str)(x1 x2 x3 x4:Int):List (Str×V):=(br "most" (.int x4) (br "fewest" (.int x3) (br "note" (.int x2) (br "voice" (.int x1) (br "row" (.str row) [])))))
def dm(C:Addr)(row:Str)(x1 x2 x3 x4:Int):mP:=λr H=>∃(dx:Addr),H r=some (.ins C dx (cB row x1 x2 x3 x4))
abbrev gQ(K:Frag)(C:Addr):=DA K C "row" "voice" "note" "fewest" "most"
def mL(K:Frag)(C:Addr):Sp:=λvs H Q _=>∃(x dx:Addr) (row:Str) (x1 x2 x3 x4:Int),vs=[.ref x,.str row,.int x1,.int x2,.int x3,.int x4]/\H x=some (.ins C dx [])/\Q .non (upd H x (.ins C dx (cB row x1 x2 x3 x4)))
def mn(K:Frag)(C:Addr):Sp:=λvs H Q _=>∃(q:Addr) (row:Str) (x1 x2 x3 x4:Int) (nv:Int),vs=[.str row,.ref q,.int nv]/\aF K H q ([x1,x2,x3,x4].map V.int)/\1<=x1/\x1<=nv/\0<=x3/\0<=x4/\
 ∀r H',ar H H'->dm C row x1 x2 x3 x4 r H'->Q (.ref r) H'
def c9(x1 x2 x3 x4:Int):bU:=⟨x4+1,0,λm _ us=>if bh us x1=x2 then(if m < x4 then some (m+1)else none)else some m,λm _=>decide (m>=x3)⟩
def ky(x4 m:Int):Prop:=0<=m/\m<=x4
def cK(row:Str)(t u:Int)(ri:Addr):List (Str×V):=br "inner" (.ref ri) (br "turn" (.int u) (br "turns" (.int t) (br "row" (.str row) [])))
def eT(C:Addr)(row:Str)(t u:Int)(RIn:mP):mP:=λr H=>∃(dx ri:Addr),H r=some (.ins C dx (cK row t u ri))/\RIn ri H
abbrev iP(K:Frag)(C:Addr):=zt K C "row" "turns" "turn" "inner"
def mJ(K:Frag)(C:Addr):Sp:=λvs H Q _=>∃(x dx ri:Addr) (row:Str) (t u:Int),vs=[.ref x,.str row,.int t,.int u,.ref ri]/\H x=some (.ins C dx [])/\Q .non (upd H x (.ins C dx (cK row t u ri)))
def eA(t u:Int)(S:bU):bU:=⟨t,0,λm b us=>if m=u then(if S.after S.start b us=none then none else some ((m+1) % t))else some ((m+1) % t),λ_ _=>true⟩
def nX(t m:Int):Prop:=0<=m/\m < t
def tF(P:Program)(w:World)(K:Frag)(mg:Str->Option Value)(base:Heap)(aM C:Addr)(k:Nat):Sp:=λvs H Q _=>∃(row rest kind:Str) (t u:Int) (ns:List Int) (nv:Int) (D:List (Str×V)) (f:Addr) (sp:Sp) (RIn:mP),vs=[.str row,.int nv]/\nH row rest t u/\fQ rest kind ns/\(kind=Str.ofString "span"\/kind=Str.ofString "clock")/\0<=u/\u < t/\lj K aM D/\KTD.datumAt kind D=↑f/\
 ~~~eZ k f ["row","numbers","voices"] sp/\(∀q H' Q',ar H H'->H' q=some (.lst (ns.map V.int))->(∀ri H'',ar H H''->RIn ri H''->Q' (.ref ri) H'')->sp [.str rest,.ref q,.int nv] H' Q' E0)/\(∀r H H',ar H H'->RIn r H->RIn r H')/\∀r H',ar H H'->eT C row t u RIn r H'->Q (.ref r) H'
def xH(P:Program)(w:World)(K:Frag)(mg:Str->Option Value)(base:Heap)(aM C:Addr)(k:Nat):Sp:=λvs H Q E=>∃(row:Str) (nv z:Int),vs=[.str row,.int nv,.int z]/\(∃rest t u,nH row rest t u)/\~~~tF aM C k [.str row,.int nv] H (λv H'=>v≠.non/\Q v H') E
def rE:Sp:=λvs H Q _=>∃c p,vs=[.int c,.int p]/\∀H',ar H H'->Q (.int (GM.stirF c p)) H'
def rz(K:Frag):Sp:=λvs H Q _=>∃a ns p,vs=[.ref a,.int p]/\aF K H a (ns.map V.int)/\(∀x∈ns,x.natAbs < 2 ^ GB)/\0<=p/\p<=1000/\∀H',ar H H'->Q (.int (GM.gotF ns p)) H'
def xD(K:Frag):Sp:=λvs H Q _=>∃a ns lo hi,vs=[.ref a,.int lo,.int hi]/\aF K H a (ns.map V.int)/\(∀x∈ns,x.natAbs < 2 ^ GB)/\ns.length<=63/\0<=lo/\lo<=100/\0<=hi/\hi<=100/\
 ∀q H',H' q=some (.lst ((GM.cellsF ns lo hi).map V.int))->ar H H'->Q (.ref q) H'
theorem BI{q:Addr}{x:HO}(h0:H q=none)(s:ar H H'):ar H (upd H' q x):=λb o hb=>by
 rw [aj (ao hb h0)];exact s _ _ hb
def FI(P:Program)(w:World)(K:Frag)(mg:Str->Option Value)(base:Heap)(nv:Nat)(S:bU)(G:Int->Prop)(r:Addr)(H:Hp):Prop:=∃(C:Addr) (RI:mP),~~~bp 7 nv C S RI G/\RI r H
structure jD(P:Program)(w:World)(K:Frag)(mg:Str->Option Value)(base:Heap)(nv:Nat)(Ss:List bU)(Gs:List (Int->Prop))(H:Hp)(b:Addr)(rs:List Addr):Prop where
 sq:aF K H b (rs.map V.ref)
 len:rs.length=Ss.length
 gl:Gs.length=Ss.length
 at_:∀(j:Nat) (r:Addr) (S:bU) (G:Int->Prop),rs[j]?=some r->Ss[j]?=some S->Gs[j]?=some G->~~~FI nv S G r H
theorem jD.same{b:Addr}{rs:List Addr}(h: ~~~jD nv Ss Gs H b rs)(s:ar H H'): ~~~jD nv Ss Gs H' b rs:=
 ⟨s.seq h.sq,h.len,h.gl,λj r S G e1 e2 e3=>let ⟨C,RI,h1,h2⟩:=h.at_ j r S G e1 e2 e3;⟨C,RI,h1,h1.mono _ _ _ s h2⟩⟩
def rQ(Gs:List (Int->Prop))(ms:List Int):Prop:=ms.length=Gs.length/\∀(j:Nat) (G:Int->Prop) (m:Int),Gs[j]?=some G->ms[j]?=some m->G m
inductive j0(P:Program)(w:World)(K:Frag)(mg:Str->Option Value)(base:Heap):Sp
 | mk {vs:List V} {H:Hp} {Q:VK} {E:XK} (rb ma ca:Addr) (bx:V) (nv:Nat) (Ss:List bU) (Gs:List (Int->Prop)) (rs:List Addr) (ms c:List Int) (b:Option (List Int)):vs=[.ref rb,.ref ma,bx,.ref ca]->~~~jD nv Ss Gs H rb rs->Ss.length<=100->cT K H ma (ms.map V.int)->rQ Gs ms->BV K H nv b bx->cT K H ca (c.map V.int)->c.length=nv->(fM Ss ms b c=none->∀H',ar H H'->Q .non H')->(∀ms',fM Ss ms b c=some ms'->rQ Gs ms'->∀p H',H' p=some (.tup (ms'.map V.int))->H p=none->ar H H'->Q (.ref p) H')->~~~j0 vs H Q E
def oT(P:Program)(w:World)(K:Frag)(mg:Str->Option Value)(base:Heap):Sp:=λvs H Q _=>∃(rb ma:Addr) (bx:V) (nv:Nat) (Ss:List bU) (Gs:List (Int->Prop)) (rs:List Addr) (ms:List Int) (b:Option (List Int)),vs=[.ref rb,.ref ma,bx]/\
 ~~~jD nv Ss Gs H rb rs/\Ss.length<=100/\cT K H ma (ms.map V.int)/\rQ Gs ms/\BV K H nv b bx/\∀H',ar H H'->Q (.bl (dG Ss ms b)) H'
theorem yN(F:cc K "is_number" "is_number" je f fd)(T:Txt mg aM): ~~~aG bV 1 f fd ["word"] rC:=by
 refine F.ok sc_is_number λ_ A _ s H vs Q E hr h=>?_;obtain⟨z,rfl,hz,k⟩:=h
 refine⟨rfl,_,(af (cW (i:=1) sc_is_number.nd (cE (aZ (bQ K PySem.F.plainAttrs_str PySem.F.slot_str_startswith PySem.F.type_str_startswith gu (pr 0) (aa bO ag)) (λ_=>rfl)) (bK (gf K) (pr 0) (fY ah) b0) (pr 0)))
 (af (aS (PW.pt (cA (aX (ax mD (pr 1) bO (ay _))) (cv (aX (ax (o0 uC) (aA (aJ K) ⋯ T.n_len boot_len (aa (pr 1) ag)) (iN T.g_MOST_FIGURES) (ay _)))))) (ai (av iK)) aB)
 (af (aS (bX (aZ (aA (gT K rfl) ⋯ T.n_all boot_all (aa (cQ (own:=["sign"]) (js:=[]) rfl (bI K (pr 1)) (bG.of ⋯) (λ_ _ _ _ _=>(bN (i:=0) (show List.Nodup (["sign"]:List Str)from by decide +kernel) rfl (Or.inl rfl))) (λ_ _ _ _ _=>cI) (λ_ _ _ _ _=>(fH (ox K) (pr 0) (iN T.g_FIGURES) (by with_unfolding_all rfl)))) ag)) (λ_=>rfl))) (ai (av iK)) aB)
 (ai (av (DW (DX (fH yI (aD (aW K) (pr 1) ah (λ_ _=>rfl)) bO (ay _)) (vV (fH mD (pr 0) bO (ay _)))))))))),?_⟩
 have hs:=sizeLine_eq
 have c0:(Str.ofString "").cps.toList=[]:=by decide +kernel
 have c45:(Str.ofString "-")=⟨#[45]⟩:=by decide +kernel
 have c48:(Str.ofString "0").cps.toList=[48]:=by decide +kernel
 have cF:(Str.ofString "0123456789").cps.toList=[48,49,50,51,52,53,54,55,56,57]:=by decide +kernel
 refine G7 (λZ H'=>∃y,Z=[some (.str z),some (.str y)]/\H=H'/\y.cps.toList=gU z.cps.toList) ?_ ?_
 ·rintro _ _ ⟨y,rfl,rfl,hy⟩
  have hyl:y.length<=10000:=by
   rw [aY,hy];rw [aY]at hz;refine ac2 ?_ hz;unfold gU
   split
   ·rw [List.length_tail];omega
   ·exact aa7 _
  refine iJ λRk rk=>?_;tm_at "r";have hk:=k;rw [vC,<-hy,<-aY]at hk;have q0:=hk H (ar.refl H)
  by_cases h1:y=Str.ofString ""
  ·rw [if_pos h1]
   rw [if_pos (Or.inl (by rw [h1,c0]))]at q0;exact q0
  rw [if_neg h1];refine⟨(),?_⟩
  by_cases h2:(40:Int) < y.length
  ·rw [if_pos h2]
   rw [if_pos (Or.inr ())]at q0;exact q0
  rw [if_neg h2];refine rk _ _ ?_;tm_at "r"
  have h3:¬(y.cps.toList=[]\/40 < y.length):=by
   rintro(e | e)
   ·exact h1 (str_iff.mpr (by rw [e,c0]))
   ·omega
  rw [if_neg h3]at hk;have e0:y.cps.toList≠[]:=λe=>h3 (Or.inl e);refine Dk (ye (λi ys H'=>ys=(y.cps.toList.take i).map (λc=>V.bl (decide (c∈[48,49,50,51,52,53,54,55,56,57])))/\H=H') () ⟨rfl,rfl⟩ ?_ ?_ ?_)
  ·rintro i ys H' ⟨rfl,rfl⟩
   rw [aa1,ad1];omega
  ·rintro i c ys H' hc ⟨rfl,rfl⟩
   tm_at "r";rw [cF,ac5,hc];simp
  ·rintro ys H' ⟨rfl,rfl⟩ p hp
   rw [aY,ad4];refine⟨y.cps.toList.map (λc=>decide (c∈[48,49,50,51,52,53,54,55,56,57])),aF.of (by rw [ae,ai6];rfl),?_⟩
   have ed:(List.map (λc=>decide (c∈[48,49,50,51,52,53,54,55,56,57])) y.cps.toList).all id=t6 y.cps.toList:=by
    unfold t6;rw [an6];rfl
   have q1:=hk _ (aq (o:=.lst ((y.cps.toList.take y.cps.toList.length).map (λc=>V.bl (decide (c∈[48,49,50,51,52,53,54,55,56,57]))))) hp);rw [ad4]at q1;rw [ed]
   by_cases h4:t6 y.cps.toList=false
   ·rw [if_pos h4]
    rw [if_pos h4]at q1;exact q1
   rw [if_neg h4];rw [if_neg h4]at q1;refine⟨by rw [<-aY];omega,?_⟩
   cases hh:y.cps.toList with
   | nil=>exact absurd hh e0
   | cons a l=>
    rw [hh]at q1;refine⟨a,bC rfl,?_⟩
    by_cases ha:a=48
    ·subst ha
     rw [if_pos (str_iff.mpr (by rw [c48])),kX,c48];simpa using q1
    ·rw [if_neg (λe=>ha (by have:=str_iff.mp e;rw [c48]at this;simpa using this))]
     simpa [ha]using q1
 ·intro u' hu
  tm_at "r";rw [c45,wL]
  by_cases h1:z.cps.toList.head?=some 45
  ·rw [if_pos (by simpa using h1)]
   exact⟨(),hu _ _ ⟨_,rfl,rfl,by rw [wu ∅];unfold gU;rw [if_pos h1];simp⟩⟩
  ·rw [if_neg (by simpa using h1)]
   exact hu _ _ ⟨_,rfl,rfl,by unfold gU;rw [if_neg h1]⟩
theorem vP(F:cc K "note_in" "note_in" lW f fd): ~~~aG bV 1 f fd ["column","voice"] (fh K):=by
 refine F.ok wo λ_ A _ s H vs Q E hr h=>?_;obtain⟨c,v,us,rfl,hc,h1,h2,k⟩:=h;refine⟨rfl,_,(ai (av (aD (aW K) (pr 0) (au (o0 cJ) (pr 1) ah) (λ_ _=>rfl)))),?_⟩;tm_at "r";exact eD hc (AA h1 h2) k
theorem CQ(F:cc K "span" "span" we f fd)(D_note_in: ~~~cN "note_in" 1 ["column","voice"] (fh K)): ~~~aG bV 2 f fd ["column","first","second"] (pe K):=by
 refine F.ok Ds λ_ A _ s H vs Q E hr h=>?_;obtain⟨c,a,b,us,rfl,hc,h1,h2,h3,h4,k⟩:=h;refine⟨rfl,_,(ai (av (au (o0 cJ) (az D_note_in hr ⋯ (aa (pr 0) (aa (pr 2) ag))) (az D_note_in hr ⋯ (aa (pr 0) (aa (pr 1) ag)))))),?_⟩;tm_at "r";refine⟨c,b,us,rfl,hc,h3,h4,c,a,us,rfl,hc,h1,h2,?_⟩;tm_at "r";exact k
theorem sI(F:cc K "__init__" "Rule.__init__" fu f fd): ~~~aG bV 1 f fd ["self","row"] (cy K):=by
 refine F.ok l6 λ_ A _ s H vs Q E hr h=>?_;obtain⟨x,C,dx,fs,row,rfl,hx,cl,na,hl,k⟩:=h;refine⟨rfl,_,(ai (bM (pr 0) (pr 1) rfl)),?_⟩;tm_at "r";exact⟨C,dx,fs,hx,cl,na,(),k⟩
theorem dI(F:cc K "size" "Rule.size" dc f fd): ~~~aG bV 1 f fd ["self"] (cG 1 λ_=>.int 1):=by
 refine F.ok sZ λ_ A _ s H vs Q E hr h=>?_;obtain⟨hl,k⟩:=h;obtain⟨a,rfl⟩:=Fy hl;refine⟨rfl,_,(ai (av ah)),?_⟩;tm_at "r";exact k
theorem bZ(F:cc K "start" "Rule.start" bR f fd): ~~~aG bV 1 f fd ["self"] (cG 1 λ_=>.int 0):=by
 refine F.ok qw λ_ A _ s H vs Q E hr h=>?_;obtain⟨hl,k⟩:=h;obtain⟨a,rfl⟩:=Fy hl;refine⟨rfl,_,(ai (av ah)),?_⟩;tm_at "r";exact k
theorem cD(F:cc K "closes" "Rule.closes" cb f fd): ~~~aG bV 1 f fd ["self","memory","last"] (cG 3 λ_=>.bl true):=by
 refine F.ok oM λ_ A _ s H vs Q E hr h=>?_;obtain⟨hl,k⟩:=h;obtain⟨a,b,c,rfl⟩:=Hm hl;refine⟨rfl,_,(ai (av iK)),?_⟩;tm_at "r";exact k
theorem p6(F:cc K "after" "Rule.after" iq f fd): ~~~aG bV 1 f fd ["self","memory","before","column"] (cG 4 DQ):=by
 refine F.ok qv λ_ A _ s H vs Q E hr h=>?_;obtain⟨hl,k⟩:=h;obtain⟨a,b,c,d,rfl⟩:=Ho hl;refine⟨rfl,_,(ai (av (pr 1))),?_⟩;tm_at "r";exact k
theorem uA(F:cc K "has_list" "has_list" jQ f fd)(T:Txt mg aM): ~~~aG bV 1 f fd ["numbers","ahead"] (dY K):=by
 refine F.ok uR λ_ A _ s H vs Q E hr h=>?_;obtain⟨q,xs,j,rfl,hq,k⟩:=h;refine⟨rfl,_,(ai (av (uD (o0 kG) (o0 kG) ah (au (o0 cJ) (aA (aJ K) ⋯ T.n_len boot_len (aa (pr 0) ag)) (pr 1)) (iN T.g_MOST_NUMBERS)))),?_⟩;tm_at "r";refine⟨xs,.inl hq,?_⟩;tm_at "r"
 by_cases h1:(1:Int)<=(xs.length:Int) - j
 ·rw [if_pos h1]
  rw [decide_eq_true h1,Bool.true_and]at k;exact k
 ·rw [if_neg h1]
  rw [decide_eq_false h1,Bool.false_and]at k;exact k
theorem qb(F:cc K "are_voices" "are_voices" iy f fd)(T:Txt mg aM): ~~~aG bV 1 f fd ["numbers","voices"] (ck K):=by
 refine F.ok qB λ_ A _ s H vs Q E hr h=>?_;obtain⟨q,ns,nv,rfl,hq,hl,k⟩:=h;refine⟨rfl,_,(ai (av (aA (gT K rfl) ⋯ T.n_all boot_all (aa (cQ (own:=["number"]) (js:=[1]) rfl (bI K (pr 0)) (bG.of ⋯) (λ_ _ _ _ _=>(bN (i:=0) (show List.Nodup (["number","voices"]:List Str)from by decide +kernel) rfl (Or.inl rfl))) (λ_ _ _ _ _=>cI) (λ_ _ _ _ _=>(uD (o0 kG) (o0 kG) ah (pr 0) (pr 1)))) ag)))),?_⟩;tm_at "r";have hs:=sizeLine_eq;refine bJ hq (cu (xs:=ns.map V.int) (λi ys H'=>ys=((ns.take i).map λn=>decide (1<=n) && decide (n<=nv)).map V.bl/\H=H') (by rw [aa1];omega) ⟨rfl,rfl⟩ ?_ ?_ ?_ ?_)
 ·rintro i ys H' ⟨rfl,rfl⟩
  rw [aa1,aa1,ad1];omega
 ·rintro i ys H' ⟨rfl,rfl⟩
  exact hq
 ·rintro i x ys H' hx ⟨rfl,rfl⟩
  rw [aa5]at hx
  cases hn:ns[i]? with
  | none=>rw [hn]at hx;cases hx
  | some n=>
   rw [hn]at hx;cases hx;tm_at "r";rw [ac5,hn]
   by_cases h1:(1:Int)<=n
   ·rw [if_pos h1]
    simp [h1]
   ·rw [if_neg h1]
    simp [h1]
 ·rintro ys H' ⟨rfl,rfl⟩ p hp
  refine⟨_,aF.of ae,?_⟩;rw [an6,aa1,ad4];exact k _ (aq hp)
theorem qg(F:cc K "plain_rule" "plain_rule" iE f fd)(T:Txt mg aM)(D_is_number: ~~~cN "is_number" 7 ["word"] rC): ~~~aG bV 8 f fd ["row","voices"] (~~~kT aM 7):=by
 refine F.ok sc_plain_rule λ_ A _ s H vs Q E hr h=>?_;obtain⟨row,kind,ns,nv,D,g,sp,Res,rfl,R,tab,hg,fn,k,kq⟩:=h
 refine⟨rfl,_,(af (cW (i:=2) sc_plain_rule.nd (bQ K PySem.F.plainAttrs_str PySem.F.slot_str_split PySem.F.type_str_split kA (pr 0) (aa bO ag)))
 (af (aS (PW.pt (cA (aX (ax (vT K) (aD (aW K) (pr 2) ah (λ_ _=>rfl)) (iN T.g_MAKERS) (by with_unfolding_all rfl))) (cv (bX (aZ (aA (gT K rfl) ⋯ T.n_all boot_all (aa (cQ (own:=["word"]) (js:=[]) rfl (bI K (bK (gf K) (pr 2) (fY ah) b0)) (bG.of ⋯) (λ_ _ _ _ _=>(bN (i:=0) (show List.Nodup (["word"]:List Str)from by decide +kernel) rfl (Or.inl rfl))) (λ_ _ _ _ _=>cI) (λ_ _ _ _ _=>(az D_is_number hr ⋯ (aa (pr 0) ag)))) ag)) (λ_=>rfl)))))) (ai (av aH)) aB)
 (ai (av (~~~AQ hr (AS K (iN T.g_MAKERS) (aD (aW K) (pr 2) ah (λ_ _=>rfl)) (λ_ _=>rfl)) (aa (pr 0) (aa (cQ (own:=["word"]) (js:=[]) rfl (bI K (bK (gf K) (pr 2) (fY ah) b0)) (bG.of ⋯) (λ_ _ _ _ _=>(bN (i:=0) (show List.Nodup (["word"]:List Str)from by decide +kernel) rfl (Or.inl rfl))) (λ_ _ _ _ _=>cI) (λ_ _ _ _ _=>(bo (fK) ⋯ T.n_int boot_int (aa (pr 0) ag)))) (aa (pr 1) ag)))))))),?_⟩
 refine iJ λRk rk=>?_;tm_at "r";have hs:=sizeLine_eq;have hl:=R.len;have hnl:=R.nl;refine⟨32,by decide +kernel,∅,(),λp hp=>rk _ _ ?_⟩;clear rk Rk;rw [R.split];have sp0:ar H (upd H p (.lst ((kind::ns.map ba).map V.str))):=aq hp;generalize hH0:upd H p (.lst ((kind::ns.map ba).map V.str))=H0 at sp0
 have hp0:H0 p=some (.lst ((kind::ns.map ba).map V.str)):=by rw [<-hH0,ae]
 refine iJ λRk rk=>?_;tm_at "r";refine aR (aF.of hp0) (bC rfl) ⟨kind,rfl,D,tab,?_⟩;rw [hg];tm_at "r";refine cX (aF.of hp0) λq hq=>?_;rw [show(some (1:Int))=some ((1:Nat):Int)from rfl,di];show Dj _ _ _ _;have s1:ar H0 (upd H0 q (.lst ((ns.map ba).map V.str))):=aq hq;refine bJ (xs:=(ns.map ba).map V.str) (aF.of ae) (cu (xs:=(ns.map ba).map V.str) (λi ys H'=>ys=(List.replicate i true).map V.bl/\ar (upd H0 q (.lst ((ns.map ba).map V.str))) H') (by simp;omega) ⟨rfl,ar.refl _⟩ ?_ ?_ ?_ ?_)
 ·rintro i ys H' ⟨rfl,sm⟩
  simp
 ·rintro i ys H' ⟨rfl,sm⟩
  exact sm.seq (aF.of ae)
 ·rintro i x ys H' hx ⟨rfl,sm⟩
  obtain⟨n,hn,rfl⟩:∃n∈ns,x=.str (ba n):=by
   have:=ab8 hx
   simp only [ai6,ac4,Function.comp_apply]at this;obtain⟨n,hn,e⟩:=this;exact⟨n,hn,e.symm⟩
  tm_at "r";refine⟨ba n,rfl,?_,λH1 s1=>⟨?_,sm.trans s1⟩⟩
  ·rw [aY]
   have:=fX (n:=n) (k:=40) ∅ (R.nb n hn)
   show(ia n).length<=_;omega
  ·show _=(List.replicate (i+1) true).map V.bl
   rw [show(ba n).cps.toList=ia n from rfl,lE (R.nb n hn),List.replicate_succ',ab7];rfl
 rintro ys H1 ⟨rfl,sm⟩ p1 hp1;simp only [aa1];refine⟨_,aF.of ae,?_⟩;rw [show(List.replicate ns.length true).all id=true by simp];tm_at "r";refine rk _ _ ?_;tm_at "r";have s2:ar H0 (upd H1 p1 (.lst ((List.replicate ns.length true).map V.bl))):=(s1.trans sm).upd hp1;generalize upd H1 p1 (.lst ((List.replicate ns.length true).map V.bl))=H2 at s2;have hp2:=s2 _ _ hp0;refine aR (aF.of hp2) (bC rfl) ⟨kind,rfl,D,tab,_,hg,g,rfl,_,_,fn,?_⟩;refine cX (aF.of hp2) λq2 hq2=>?_;rw [show(some (1:Int))=some ((1:Nat):Int)from rfl,di];show Dj _ _ _ _;have s3:ar H0 (upd H2 q2 (.lst ((ns.map ba).map V.str))):=s2.upd hq2;refine bJ (xs:=(ns.map ba).map V.str) (aF.of ae) (cu (xs:=(ns.map ba).map V.str) (λi ys H'=>ys=(ns.take i).map V.int/\upd H2 q2 (.lst ((ns.map ba).map V.str))=H') (by simp;omega) ⟨rfl,rfl⟩ ?_ ?_ ?_ ?_)
 ·rintro i ys H' ⟨rfl,rfl⟩
  rw [aa1,ad1];omega
 ·rintro i ys H' ⟨rfl,rfl⟩
  exact aF.of ae
 ·rintro i x ys H' hx ⟨rfl,rfl⟩
  cases hn:ns[i]? with
  | none=>rw [aa5,aa5,hn]at hx;cases hx
  | some n=>
   rw [aa5,aa5,hn]at hx;cases hx;have hb:=R.nb n (ab8 hn);tm_at "r";refine⟨n,nc (ab6 hb (ak1 ∅ ∅)),?_,?_⟩
   ·rw [aY]
    have:=fX (n:=n) (k:=40) ∅ hb
    show(ia n).length<=_;omega
   ·rw [ac5,hn,ab7]
    rfl
 rintro ys H3 ⟨rfl,rfl⟩ p3 hp3;refine k p3 _ _ (sp0.trans (s3.upd hp3)) ?_ kq;rw [ae,aa1,aa1,ad4]
theorem sJ(F:cc K "__init__" "Span.__init__" fv f fd)(T:Txt mg aM)(TC:m6 K C)(DC_Rule___init__: ~~~iQ "Rule" "__init__" 1 ["self","row"] (cy K)): ~~~aG bV 2 f fd ["self","row","first","second","numbers"] (pf K C):=by
 refine F.ok l7 λ_ A _ s H vs Q E hr h=>?_;obtain⟨x,dx,q,row,x1,x2,D,rfl,hx,hq,hl,k⟩:=h
 refine⟨rfl,_,(af (bq (dD DC_Rule___init__ hr ⋯ (aa (pr 0) (aa (pr 1) ag))))
 (af (bM (pr 0) (pr 2) rfl)
 (af (bM (pr 0) (pr 3) rfl)
 (ai (bM (pr 0) (bo (cU K) ⋯ T.n_list boot_list (aa (pr 4) ag)) rfl))))),?_⟩
 refine iJ λRk rk=>?_;tm_at "r";have ln:∀(f:Str) (v:V) (l:List (Str×V)) (n:Nat),l.length<=n->(br f v l).length<=n+1:=λf v l n h=>ac2 (bE f v l) (ae7 h);refine⟨x,C,dx,[],row,rfl,hx,TC.cl,TC.n1,∅,rk _ _ ?_⟩;tm_at "r";refine⟨C,dx,_,ae,TC.cl,TC.n2,ab5 (ln _ _ _ _ (ac1 0)) ∅,C,dx,_,ae,TC.cl,TC.n3,ab5 (ln _ _ _ _ (ln _ _ _ _ (ac1 0))) ∅,D.map V.int,.inl (((hq.at_ins hx).at_ins ae).at_ins ae),λn hn=>?_⟩
 have nx:n≠x:=λe=>by subst e;rw [ae]at hn;cases hn
 rw [aj nx,aj nx,aj nx]at hn;refine⟨C,dx,_,by rw [aj (Ne.symm nx),ae],TC.cl,TC.n4,ab5 (ln _ _ _ _ (ln _ _ _ _ (ln _ _ _ _ (ac1 0)))) ∅,?_⟩;refine k n _ hn ?_;rw [bS,bS,fj];rfl
theorem vR(F:cc K "span_of" "span_of" lX f fd)(T:Txt mg aM)(D_has_list: ~~~cN "has_list" 3 ["numbers","ahead"] (dY K))(D_are_voices: ~~~cN "are_voices" 3 ["numbers","voices"] (ck K))(DM_Span: ~~~iR "Span" C 2 ["self","row","first","second","numbers"] (pf K C)): ~~~aG bV 4 f fd ["row","numbers","voices"] (ph K C):=by
 refine F.ok wq λ_ A _ s H vs Q E hr h=>?_;obtain⟨q,row,x1,x2,D,nv,rfl,hq,x1_1,x1_2,x2_1,x2_2,l1,l2,k⟩:=h
 refine⟨rfl,_,(af (aS (PW.pt (cA (bX (aZ (az D_has_list hr ⋯ (aa (pr 1) (aa ah ag))) (λ_=>rfl))) (cv (bX (aZ (az D_are_voices hr ⋯ (aa (bK (gf K) (pr 1) b0 (fY ah)) (aa (pr 2) ag))) (λ_=>rfl)))))) (ai (av aH)) aB)
 (ai (av (iL DM_Span hr ⋯ (aa (pr 0) (aa (aD (aW K) (pr 1) ah (λ_ _=>rfl)) (aa (aD (aW K) (pr 1) ah (λ_ _=>rfl)) (aa (bK (gf K) (pr 1) (fY ah) b0) ag)))))))),?_⟩
 refine iJ λRk rk=>?_;tm_at "r";have hs:=sizeLine_eq;refine⟨q,_,2,rfl,hq,?_⟩;rw [show(decide (1<=(((x1::x2::D).map V.int).length:Int) - 2) && decide ((((x1::x2::D).map V.int).length:Int) - 2<=12))=true by simp;omega];tm_at "r";refine cX hq λq1 hq1=>?_;rw [show(some (2:Int))=some ((2:Nat):Int)from rfl,eU];have s1:ar H (upd H q1 (.lst ((((x1::x2::D).map V.int)).take 2))):=aq hq1;refine⟨q1,[x1,x2],nv,rfl,aF.of ae,by simp,λH1 s2=>?_⟩;rw [show([x1,x2].all λn=>decide (1<=n) && decide (n<=nv))=true by simp;omega];tm_at "r";refine rk _ _ ?_;tm_at "r";have s3:=s1.trans s2;have hq3:=s3.seq hq;refine aR hq3 (bC rfl) (aR hq3 (show fC _ ((1:Nat):Int)=_ from aE rfl) (cX hq3 λq2 hq2=>?_));rw [show(some (2:Int))=some ((2:Nat):Int)from rfl,di];show ∀x dx:Addr,_;intro x dx hx hdx hne;have s4:ar H (upd H1 q2 (.lst (((x1::x2::D).map V.int).drop 2))):=s3.upd hq2;have hq2':(upd H1 q2 (.lst (((x1::x2::D).map V.int).drop 2))) q2=some (.lst (D.map V.int)):=ae;generalize upd H1 q2 (.lst (((x1::x2::D).map V.int).drop 2))=H2 at s4 hx hdx hq2';have s5:ar H (upd (upd H2 dx (.own x)) x (.ins C dx [])):=(s4.upd hdx).upd (by rw [aj (Ne.symm hne)];exact hx)
 have hq5:(upd (upd H2 dx (.own x)) x (.ins C dx [])) q2=some (.lst (D.map V.int)):=by
  rw [aj (ao hq2' hx),aj (ao hq2' hdx)];exact hq2'
 refine⟨x,dx,q2,row,x1,x2,D,rfl,ae,aF.of hq5,(),λn H3 hn e=>⟨rfl,?_⟩⟩;subst e
 have nx:n≠x:=λz=>by subst z;rw [ae]at hn;cases hn
 refine k x _ ?_ ⟨dx,n,ae,by rw [aj nx,ae]⟩;intro c o hc;have n1:c≠x:=ao (s4 _ _ hc) hx;rw [aj n1,aj (ao (s5 _ _ hc) hn)];exact s5 _ _ hc
theorem p8(F:cc K "after" "Span.after" iu f fd)(T:Txt mg aM)(TC:m6 K C)(ha:1<=a/\a<=nv)(hb:1<=b/\b<=nv)(D_span: ~~~cN "span" 2 ["column","first","second"] (pe K)): ~~~aG bV 3 f fd ["self","memory","before","column"] (bB K nv (iV C row a b D) (fJ a b D) λ_=>True):=by
 refine F.ok qy λ_ A _ s H vs Q E hr h=>?_;obtain⟨r,m,x,c,bb,us,rfl,⟨dx,n,hr1,hn⟩,_,hbv,hc,hu,k⟩:=h;refine⟨rfl,_,(ai (av (cE (aX (ax (ox K) (az D_span hr ⋯ (aa (pr 3) (aa (aL (pr 0) rfl) (aa (aL (pr 0) rfl) ag)))) (aL (pr 0) rfl) (by with_unfolding_all rfl))) (pr 1) aH))),?_⟩;tm_at "r"
 have l1:(eh row a b n).lookup (Str.ofString "first")=⇑a:=by unfold eh;tm_at "f"
 have l2:(eh row a b n).lookup (Str.ofString "second")=⇑b:=by unfold eh;tm_at "f"
 have l3:(eh row a b n).lookup (Str.ofString "numbers")=↑n:=by unfold eh;tm_at "f"
 refine⟨C,dx,_,hr1,TC.cl,TC.n2,_,l1,C,dx,_,hr1,TC.cl,TC.n3,_,l2,c,a,b,us,rfl,hc,ha.1,by rw [hu];exact ha.2,hb.1,by rw [hu];exact hb.2,C,dx,_,hr1,TC.cl,TC.n4,_,l3,gY (aF.of hn) ⟨_,rfl,?_⟩⟩
 by_cases h:bh us b - bh us a∈D
 ·rw [if_pos (decide_eq_true h)]
  simp only [fJ]at k;rw [if_pos h]at k;exact k
 ·rw [if_neg (by rw [decide_eq_false h];exact ab3)]
  simp only [fJ]at k;rw [if_neg h]at k;exact k
theorem Bp{lv:Nat}(TC:m6 K C)(h1: ~~~aC C "size" lv ["self"] (cG 1 λ_=>.int 1))(h2: ~~~aC C "start" lv ["self"] (cG 1 λ_=>.int 0))(h3: ~~~aC C "closes" lv ["self","memory","last"] (cG 3 λ_=>.bl true))
  (h4: ~~~aC C "after" lv ["self","memory","before","column"] (bB K nv (iV C row a b D) (fJ a b D) λ_=>True)): ~~~bp lv nv C (fJ a b D) (iV C row a b D) (λ_=>True):=by
 refine⟨λr H H' s h=>?_,λr H h=>?_,trivial,λ_ _ _ _ _ _=>trivial,h1.imp ?_,h2.imp ?_,h4,h3.imp ?_⟩
 ·obtain⟨dx,n,e1,e2⟩:=h
  exact⟨dx,n,s _ _ e1,s _ _ e2⟩
 ·obtain⟨dx,n,e1,e2⟩:=h
  refine⟨dx,_,e1,?_,?_,?_,?_,?_⟩<;>(unfold eh;tm_at "f")
 ·rintro vs H Q E ⟨r,rfl,_,q⟩
  exact⟨rfl,q⟩
 ·rintro vs H Q E ⟨r,rfl,_,q⟩
  exact⟨rfl,q⟩
 ·rintro vs H Q E ⟨r,m,x,b,rfl,_,_,_,q⟩
  exact⟨rfl,q⟩
theorem pU(F:cc K "__init__" "Clock.__init__" eL f fd)(T:Txt mg aM)(TC:j8 K C)(DC_Rule___init__: ~~~iQ "Rule" "__init__" 1 ["self","row"] (cy K)): ~~~aG bV 2 f fd ["self","row","first","second","hours","numbers"] (mH K C):=by
 refine F.ok kL λ_ A _ s H vs Q E hr h=>?_;obtain⟨x,dx,q,row,x1,x2,x3,D,rfl,hx,hq,hl,k⟩:=h
 refine⟨rfl,_,(af (bq (dD DC_Rule___init__ hr ⋯ (aa (pr 0) (aa (pr 1) ag))))
 (af (bM (pr 0) (pr 2) rfl)
 (af (bM (pr 0) (pr 3) rfl)
 (af (bM (pr 0) (pr 4) rfl)
 (ai (bM (pr 0) (bo (cU K) ⋯ T.n_list boot_list (aa (pr 5) ag)) rfl)))))),?_⟩
 refine iJ λRk rk=>?_;tm_at "r";have ln:∀(f:Str) (v:V) (l:List (Str×V)) (n:Nat),l.length<=n->(br f v l).length<=n+1:=λf v l n h=>ac2 (bE f v l) (ae7 h);refine⟨x,C,dx,[],row,rfl,hx,TC.cl,TC.n1,∅,rk _ _ ?_⟩;tm_at "r";refine⟨C,dx,_,ae,TC.cl,TC.n2,ab5 (ln _ _ _ _ (ac1 0)) ∅,C,dx,_,ae,TC.cl,TC.n3,ab5 (ln _ _ _ _ (ln _ _ _ _ (ac1 0))) ∅,C,dx,_,ae,TC.cl,TC.n4,ab5 (ln _ _ _ _ (ln _ _ _ _ (ln _ _ _ _ (ac1 0)))) ∅,D.map V.int,.inl ((((hq.at_ins hx).at_ins ae).at_ins ae).at_ins ae),λn hn=>?_⟩
 have nx:n≠x:=λe=>by subst e;rw [ae]at hn;cases hn
 rw [aj nx,aj nx,aj nx,aj nx]at hn;refine⟨C,dx,_,by rw [aj (Ne.symm nx),ae],TC.cl,TC.n5,ab5 (ln _ _ _ _ (ln _ _ _ _ (ln _ _ _ _ (ln _ _ _ _ (ac1 0))))) ∅,?_⟩;refine k n _ hn ?_;rw [bS,bS,bS,fj];rfl
theorem uy(F:cc K "clock_of" "clock_of" jO f fd)(T:Txt mg aM)(D_has_list: ~~~cN "has_list" 3 ["numbers","ahead"] (dY K))(D_are_voices: ~~~cN "are_voices" 3 ["numbers","voices"] (ck K))(DM_Clock: ~~~iR "Clock" C 2 ["self","row","first","second","hours","numbers"] (mH K C)): ~~~aG bV 4 f fd ["row","numbers","voices"] (mi K C):=by
 refine F.ok uP λ_ A _ s H vs Q E hr h=>?_;obtain⟨q,row,x1,x2,x3,D,nv,rfl,hq,x1_1,x1_2,x2_1,x2_2,p3,l1,l2,k⟩:=h
 refine⟨rfl,_,(af (aS (PW.pt (cA (bX (aZ (az D_has_list hr ⋯ (aa (pr 1) (aa ah ag))) (λ_=>rfl))) (cA (bX (aZ (az D_are_voices hr ⋯ (aa (bK (gf K) (pr 1) b0 (fY ah)) (aa (pr 2) ag))) (λ_=>rfl))) (cv (aX (ax (o0 kF) (aD (aW K) (pr 1) ah (λ_ _=>rfl)) ah (ay _))))))) (ai (av aH)) aB)
 (ai (av (iL DM_Clock hr ⋯ (aa (pr 0) (aa (aD (aW K) (pr 1) ah (λ_ _=>rfl)) (aa (aD (aW K) (pr 1) ah (λ_ _=>rfl)) (aa (aD (aW K) (pr 1) ah (λ_ _=>rfl)) (aa (bK (gf K) (pr 1) (fY ah) b0) ag))))))))),?_⟩
 refine iJ λRk rk=>?_;tm_at "r";have hs:=sizeLine_eq;refine⟨q,_,3,rfl,hq,?_⟩;rw [show(decide (1<=(((x1::x2::x3::D).map V.int).length:Int) - 3) && decide ((((x1::x2::x3::D).map V.int).length:Int) - 3<=12))=true by simp;omega];tm_at "r";refine cX hq λq1 hq1=>?_;rw [show(some (2:Int))=some ((2:Nat):Int)from rfl,eU];have s1:ar H (upd H q1 (.lst ((((x1::x2::x3::D).map V.int)).take 2))):=aq hq1;refine⟨q1,[x1,x2],nv,rfl,aF.of ae,by simp,λH1 s2=>?_⟩;rw [show([x1,x2].all λn=>decide (1<=n) && decide (n<=nv))=true by simp;omega];tm_at "r";have s3:=s1.trans s2;have hq3:=s3.seq hq;refine aR hq3 (show fC _ ((2:Nat):Int)=_ from aE rfl) ?_;tm_at "r";rw [if_neg (show ¬(x3 < 1)by omega)];refine rk _ _ ?_;tm_at "r";refine aR hq3 (bC rfl) (aR hq3 (show fC _ ((1:Nat):Int)=_ from aE rfl) (aR hq3 (show fC _ ((2:Nat):Int)=_ from aE rfl) (cX hq3 λq2 hq2=>?_)));rw [show(some (3:Int))=some ((3:Nat):Int)from rfl,di];show ∀x dx:Addr,_;intro x dx hx hdx hne;have s4:ar H (upd H1 q2 (.lst (((x1::x2::x3::D).map V.int).drop 3))):=s3.upd hq2;have hq2':(upd H1 q2 (.lst (((x1::x2::x3::D).map V.int).drop 3))) q2=some (.lst (D.map V.int)):=ae;generalize upd H1 q2 (.lst (((x1::x2::x3::D).map V.int).drop 3))=H2 at s4 hx hdx hq2';have s5:ar H (upd (upd H2 dx (.own x)) x (.ins C dx [])):=(s4.upd hdx).upd (by rw [aj (Ne.symm hne)];exact hx)
 have hq5:(upd (upd H2 dx (.own x)) x (.ins C dx [])) q2=some (.lst (D.map V.int)):=by
  rw [aj (ao hq2' hx),aj (ao hq2' hdx)];exact hq2'
 refine⟨x,dx,q2,row,x1,x2,x3,D,rfl,ae,aF.of hq5,(),λn H3 hn e=>⟨rfl,?_⟩⟩;subst e
 have nx:n≠x:=λz=>by subst z;rw [ae]at hn;cases hn
 refine k x _ ?_ ⟨dx,n,ae,by rw [aj nx,ae]⟩;intro c o hc;have n1:c≠x:=ao (s4 _ _ hc) hx;rw [aj n1,aj (ao (s5 _ _ hc) hn)];exact s5 _ _ hc
theorem om(F:cc K "after" "Clock.after" gC f fd)(T:Txt mg aM)(TC:j8 K C)(ha:1<=x1/\x1<=nv)(hb:1<=x2/\x2<=nv)(h3:1<=x3)(D_span: ~~~cN "span" 2 ["column","first","second"] (pe K)): ~~~aG bV 3 f fd ["self","memory","before","column"] (bB K nv (gi C row x1 x2 x3 D) (eu x1 x2 x3 D) λ_=>True):=by
 refine F.ok oJ λ_ A _ s H vs Q E hr h=>?_;obtain⟨r,m,x,c,bb,us,rfl,⟨dx,n,hr1,hn⟩,_,hbv,hc,hu,k⟩:=h;refine⟨rfl,_,(ai (av (cE (aX (ax (ox K) (au (o1 bF) (az D_span hr ⋯ (aa (pr 3) (aa (aL (pr 0) rfl) (aa (aL (pr 0) rfl) ag)))) (aL (pr 0) rfl)) (aL (pr 0) rfl) (by with_unfolding_all rfl))) (pr 1) aH))),?_⟩;tm_at "r"
 have l1:(cZ row x1 x2 x3 n).lookup (Str.ofString "first")=⇑x1:=by unfold cZ;tm_at "f"
 have l2:(cZ row x1 x2 x3 n).lookup (Str.ofString "second")=⇑x2:=by unfold cZ;tm_at "f"
 have l3:(cZ row x1 x2 x3 n).lookup (Str.ofString "hours")=⇑x3:=by unfold cZ;tm_at "f"
 have l4:(cZ row x1 x2 x3 n).lookup (Str.ofString "numbers")=↑n:=by unfold cZ;tm_at "f"
 refine⟨C,dx,_,hr1,TC.cl,TC.n2,_,l1,C,dx,_,hr1,TC.cl,TC.n3,_,l2,c,x1,x2,us,rfl,hc,ha.1,by rw [hu];exact ha.2,hb.1,by rw [hu];exact hb.2,C,dx,_,hr1,TC.cl,TC.n4,_,l3,?_⟩;tm_at "r";refine⟨(),C,dx,_,hr1,TC.cl,TC.n5,_,l4,gY (aF.of hn) ⟨_,rfl,?_⟩⟩
 by_cases h:(bh us x2 - bh us x1) % x3∈D
 ·rw [if_pos (decide_eq_true h)]
  simp only [eu]at k;rw [if_pos h]at k;exact k
 ·rw [if_neg (by rw [decide_eq_false h];exact ab3)]
  simp only [eu]at k;rw [if_neg h]at k;exact k
theorem yd{lv:Nat}(TC:j8 K C)(h1: ~~~aC C "size" lv ["self"] (cG 1 λ_=>.int 1))(h2: ~~~aC C "start" lv ["self"] (cG 1 λ_=>.int 0))(h3: ~~~aC C "closes" lv ["self","memory","last"] (cG 3 λ_=>.bl true))
  (h4: ~~~aC C "after" lv ["self","memory","before","column"] (bB K nv (gi C row x1 x2 x3 D) (eu x1 x2 x3 D) λ_=>True)): ~~~bp lv nv C (eu x1 x2 x3 D) (gi C row x1 x2 x3 D) (λ_=>True):=by
 refine⟨λr H H' s h=>?_,λr H h=>?_,trivial,λ_ _ _ _ _ _=>trivial,h1.imp ?_,h2.imp ?_,h4,h3.imp ?_⟩
 ·obtain⟨dx,n,e1,e2⟩:=h
  exact⟨dx,n,s _ _ e1,s _ _ e2⟩
 ·obtain⟨dx,n,e1,e2⟩:=h
  refine⟨dx,_,e1,?_,?_,?_,?_,?_⟩<;>(unfold cZ;tm_at "f")
 ·rintro vs H Q E ⟨r,rfl,_,q⟩
  exact⟨rfl,q⟩
 ·rintro vs H Q E ⟨r,rfl,_,q⟩
  exact⟨rfl,q⟩
 ·rintro vs H Q E ⟨r,m,x,b,rfl,_,_,_,q⟩
  exact⟨rfl,q⟩
theorem sH(F:cc K "__init__" "Move.__init__" ft f fd)(T:Txt mg aM)(TC:m5 K C)(DC_Rule___init__: ~~~iQ "Rule" "__init__" 1 ["self","row"] (cy K)): ~~~aG bV 2 f fd ["self","row","voice","numbers"] (oY K C):=by
 refine F.ok l0 λ_ A _ s H vs Q E hr h=>?_;obtain⟨x,dx,q,row,x1,D,rfl,hx,hq,hl,k⟩:=h
 refine⟨rfl,_,(af (bq (dD DC_Rule___init__ hr ⋯ (aa (pr 0) (aa (pr 1) ag))))
 (af (bM (pr 0) (pr 2) rfl)
 (ai (bM (pr 0) (bo (cU K) ⋯ T.n_list boot_list (aa (pr 3) ag)) rfl)))),?_⟩
 refine iJ λRk rk=>?_;tm_at "r";have ln:∀(f:Str) (v:V) (l:List (Str×V)) (n:Nat),l.length<=n->(br f v l).length<=n+1:=λf v l n h=>ac2 (bE f v l) (ae7 h);refine⟨x,C,dx,[],row,rfl,hx,TC.cl,TC.n1,∅,rk _ _ ?_⟩;tm_at "r";refine⟨C,dx,_,ae,TC.cl,TC.n2,ab5 (ln _ _ _ _ (ac1 0)) ∅,D.map V.int,.inl ((hq.at_ins hx).at_ins ae),λn hn=>?_⟩
 have nx:n≠x:=λe=>by subst e;rw [ae]at hn;cases hn
 rw [aj nx,aj nx]at hn;refine⟨C,dx,_,by rw [aj (Ne.symm nx),ae],TC.cl,TC.n3,ab5 (ln _ _ _ _ (ln _ _ _ _ (ac1 0))) ∅,?_⟩;refine k n _ hn ?_;rw [bS,fj];rfl
theorem vO(F:cc K "move_of" "move_of" lV f fd)(T:Txt mg aM)(D_has_list: ~~~cN "has_list" 3 ["numbers","ahead"] (dY K))(D_are_voices: ~~~cN "are_voices" 3 ["numbers","voices"] (ck K))(DM_Move: ~~~iR "Move" C 2 ["self","row","voice","numbers"] (oY K C)): ~~~aG bV 4 f fd ["row","numbers","voices"] (oZ K C):=by
 refine F.ok wm λ_ A _ s H vs Q E hr h=>?_;obtain⟨q,row,x1,D,nv,rfl,hq,x1_1,x1_2,l1,l2,k⟩:=h
 refine⟨rfl,_,(af (aS (PW.pt (cA (bX (aZ (az D_has_list hr ⋯ (aa (pr 1) (aa ah ag))) (λ_=>rfl))) (cv (bX (aZ (az D_are_voices hr ⋯ (aa (bK (gf K) (pr 1) b0 (fY ah)) (aa (pr 2) ag))) (λ_=>rfl)))))) (ai (av aH)) aB)
 (ai (av (iL DM_Move hr ⋯ (aa (pr 0) (aa (aD (aW K) (pr 1) ah (λ_ _=>rfl)) (aa (bK (gf K) (pr 1) (fY ah) b0) ag))))))),?_⟩
 refine iJ λRk rk=>?_;tm_at "r";have hs:=sizeLine_eq;refine⟨q,_,1,rfl,hq,?_⟩;rw [show(decide (1<=(((x1::D).map V.int).length:Int) - 1) && decide ((((x1::D).map V.int).length:Int) - 1<=12))=true by simp;omega];tm_at "r";refine cX hq λq1 hq1=>?_;rw [show(some (1:Int))=some ((1:Nat):Int)from rfl,eU];have s1:ar H (upd H q1 (.lst ((((x1::D).map V.int)).take 1))):=aq hq1;refine⟨q1,[x1],nv,rfl,aF.of ae,by simp,λH1 s2=>?_⟩;rw [show([x1].all λn=>decide (1<=n) && decide (n<=nv))=true by simp;omega];tm_at "r";refine rk _ _ ?_;tm_at "r";have s3:=s1.trans s2;have hq3:=s3.seq hq;refine aR hq3 (bC rfl) (cX hq3 λq2 hq2=>?_);rw [show(some (1:Int))=some ((1:Nat):Int)from rfl,di];show ∀x dx:Addr,_;intro x dx hx hdx hne;have s4:ar H (upd H1 q2 (.lst (((x1::D).map V.int).drop 1))):=s3.upd hq2;have hq2':(upd H1 q2 (.lst (((x1::D).map V.int).drop 1))) q2=some (.lst (D.map V.int)):=ae;generalize upd H1 q2 (.lst (((x1::D).map V.int).drop 1))=H2 at s4 hx hdx hq2';have s5:ar H (upd (upd H2 dx (.own x)) x (.ins C dx [])):=(s4.upd hdx).upd (by rw [aj (Ne.symm hne)];exact hx)
 have hq5:(upd (upd H2 dx (.own x)) x (.ins C dx [])) q2=some (.lst (D.map V.int)):=by
  rw [aj (ao hq2' hx),aj (ao hq2' hdx)];exact hq2'
 refine⟨x,dx,q2,row,x1,D,rfl,ae,aF.of hq5,(),λn H3 hn e=>⟨rfl,?_⟩⟩;subst e
 have nx:n≠x:=λz=>by subst z;rw [ae]at hn;cases hn
 refine k x _ ?_ ⟨dx,n,ae,by rw [aj nx,ae]⟩;intro c o hc;have n1:c≠x:=ao (s4 _ _ hc) hx;rw [aj n1,aj (ao (s5 _ _ hc) hn)];exact s5 _ _ hc
theorem CL(F:cc K "move" "move" v9 f fd)(D_note_in: ~~~cN "note_in" 1 ["column","voice"] (fh K)): ~~~aG bV 2 f fd ["before","column","voice"] (kS K):=by
 refine F.ok Dr λ_ A _ s H vs Q E hr h=>?_;obtain⟨b,c,v,bs,us,rfl,hb,hc,h1,h2,h3,k⟩:=h;refine⟨rfl,_,(ai (av (au (o0 cJ) (az D_note_in hr ⋯ (aa (pr 1) (aa (pr 2) ag))) (az D_note_in hr ⋯ (aa (pr 0) (aa (pr 2) ag)))))),?_⟩;tm_at "r";refine⟨c,v,us,rfl,hc,h1,h3,b,v,bs,rfl,hb,h1,h2,?_⟩;tm_at "r";exact k
theorem pZ(F:cc K "after" "Move.after" ip f fd)(T:Txt mg aM)(TC:m5 K C)(ha:1<=x1/\x1<=nv)(D_move: ~~~cN "move" 2 ["before","column","voice"] (kS K)): ~~~aG bV 3 f fd ["self","memory","before","column"] (bB K nv (iU C row x1 D) (gq x1 D) λ_=>True):=by
 refine F.ok qu λ_ A _ s H vs Q E hr h=>?_;obtain⟨r,m,x,c,bb,us,rfl,⟨dx,n,hr1,hn⟩,_,hbv,hc,hu,k⟩:=h;refine⟨rfl,_,(ai (av (cE (PW.pt (cA (aX (ax c7 (pr 2) aH (ay _))) (cv (aX (ax (ox K) (az D_move hr ⋯ (aa (pr 2) (aa (pr 3) (aa (aL (pr 0) rfl) ag)))) (aL (pr 0) rfl) (by with_unfolding_all rfl)))))) (pr 1) aH))),?_⟩;tm_at "r"
 have l1:(fU row x1 n).lookup (Str.ofString "voice")=⇑x1:=by unfold fU;tm_at "f"
 have l2:(fU row x1 n).lookup (Str.ofString "numbers")=↑n:=by unfold fU;tm_at "f"
 rcases hbv with⟨rfl,rfl⟩ | ⟨a,bs,rfl,rfl,hba,hbl⟩
 ·rw [if_pos rfl]
  exact k
 rw [if_neg (λz=>by cases z)];refine⟨C,dx,_,hr1,TC.cl,TC.n2,_,l1,a,c,x1,bs,us,rfl,hba,hc,ha.1,by rw [hbl];exact ha.2,by rw [hu];exact ha.2,C,dx,_,hr1,TC.cl,TC.n3,_,l2,gY (aF.of hn) ⟨_,rfl,?_⟩⟩;simp only [gq]at k
 by_cases h:bh us x1 - bh bs x1∈D
 ·rw [if_pos (decide_eq_true h)]
  rw [if_pos h]at k;exact k
 ·rw [if_neg (by rw [decide_eq_false h];exact ab3)]
  rw [if_neg h]at k;exact k
theorem Aw(TC:m5 K C)(h1: ~~~aC C "size" 7 ["self"] (cG 1 λ_=>.int 1))(h2: ~~~aC C "start" 7 ["self"] (cG 1 λ_=>.int 0))(h3: ~~~aC C "closes" 7 ["self","memory","last"] (cG 3 λ_=>.bl true))
  (h4: ~~~aC C "after" 7 ["self","memory","before","column"] (bB K nv (iU C row x1 D) (gq x1 D) λ_=>True)): ~~~bp 7 nv C (gq x1 D) (iU C row x1 D) (λ_=>True):=by
 refine⟨λr H H' s h=>?_,λr H h=>?_,trivial,λ_ _ _ _ _ _=>trivial,h1.imp ?_,h2.imp ?_,h4,h3.imp ?_⟩
 ·obtain⟨dx,n,e1,e2⟩:=h
  exact⟨dx,n,s _ _ e1,s _ _ e2⟩
 ·obtain⟨dx,n,e1,e2⟩:=h
  refine⟨dx,_,e1,?_,?_,?_,?_,?_⟩<;>(unfold fU;tm_at "f")
 ·rintro vs H Q E ⟨r,rfl,_,q⟩
  exact⟨rfl,q⟩
 ·rintro vs H Q E ⟨r,rfl,_,q⟩
  exact⟨rfl,q⟩
 ·rintro vs H Q E ⟨r,m,x,b,rfl,_,_,_,q⟩
  exact⟨rfl,q⟩
theorem pO(F:cc K "__init__" "Alike.__init__" eJ f fd)(T:Txt mg aM)(TC:j6 K C)(DC_Rule___init__: ~~~iQ "Rule" "__init__" 1 ["self","row"] (cy K)): ~~~aG bV 2 f fd ["self","row","first","second","numbers"] (mF K C):=by
 refine F.ok kJ λ_ A _ s H vs Q E hr h=>?_;obtain⟨x,dx,q,row,x1,x2,D,rfl,hx,hq,hl,k⟩:=h
 refine⟨rfl,_,(af (bq (dD DC_Rule___init__ hr ⋯ (aa (pr 0) (aa (pr 1) ag))))
 (af (bM (pr 0) (pr 2) rfl)
 (af (bM (pr 0) (pr 3) rfl)
 (ai (bM (pr 0) (bo (cU K) ⋯ T.n_list boot_list (aa (pr 4) ag)) rfl))))),?_⟩
 refine iJ λRk rk=>?_;tm_at "r";have ln:∀(f:Str) (v:V) (l:List (Str×V)) (n:Nat),l.length<=n->(br f v l).length<=n+1:=λf v l n h=>ac2 (bE f v l) (ae7 h);refine⟨x,C,dx,[],row,rfl,hx,TC.cl,TC.n1,∅,rk _ _ ?_⟩;tm_at "r";refine⟨C,dx,_,ae,TC.cl,TC.n2,ab5 (ln _ _ _ _ (ac1 0)) ∅,C,dx,_,ae,TC.cl,TC.n3,ab5 (ln _ _ _ _ (ln _ _ _ _ (ac1 0))) ∅,D.map V.int,.inl (((hq.at_ins hx).at_ins ae).at_ins ae),λn hn=>?_⟩
 have nx:n≠x:=λe=>by subst e;rw [ae]at hn;cases hn
 rw [aj nx,aj nx,aj nx]at hn;refine⟨C,dx,_,by rw [aj (Ne.symm nx),ae],TC.cl,TC.n4,ab5 (ln _ _ _ _ (ln _ _ _ _ (ln _ _ _ _ (ac1 0)))) ∅,?_⟩;refine k n _ hn ?_;rw [bS,bS,fj];rfl
theorem uw(F:cc K "alike_of" "alike_of" jM f fd)(T:Txt mg aM)(D_has_list: ~~~cN "has_list" 3 ["numbers","ahead"] (dY K))(D_are_voices: ~~~cN "are_voices" 3 ["numbers","voices"] (ck K))(DM_Alike: ~~~iR "Alike" C 2 ["self","row","first","second","numbers"] (mF K C)): ~~~aG bV 4 f fd ["row","numbers","voices"] (md K C):=by
 refine F.ok uN λ_ A _ s H vs Q E hr h=>?_;obtain⟨q,row,x1,x2,D,nv,rfl,hq,x1_1,x1_2,x2_1,x2_2,l1,l2,k⟩:=h
 refine⟨rfl,_,(af (aS (PW.pt (cA (bX (aZ (az D_has_list hr ⋯ (aa (pr 1) (aa ah ag))) (λ_=>rfl))) (cv (bX (aZ (az D_are_voices hr ⋯ (aa (bK (gf K) (pr 1) b0 (fY ah)) (aa (pr 2) ag))) (λ_=>rfl)))))) (ai (av aH)) aB)
 (ai (av (iL DM_Alike hr ⋯ (aa (pr 0) (aa (aD (aW K) (pr 1) ah (λ_ _=>rfl)) (aa (aD (aW K) (pr 1) ah (λ_ _=>rfl)) (aa (bK (gf K) (pr 1) (fY ah) b0) ag)))))))),?_⟩
 refine iJ λRk rk=>?_;tm_at "r";have hs:=sizeLine_eq;refine⟨q,_,2,rfl,hq,?_⟩;rw [show(decide (1<=(((x1::x2::D).map V.int).length:Int) - 2) && decide ((((x1::x2::D).map V.int).length:Int) - 2<=12))=true by simp;omega];tm_at "r";refine cX hq λq1 hq1=>?_;rw [show(some (2:Int))=some ((2:Nat):Int)from rfl,eU];have s1:ar H (upd H q1 (.lst ((((x1::x2::D).map V.int)).take 2))):=aq hq1;refine⟨q1,[x1,x2],nv,rfl,aF.of ae,by simp,λH1 s2=>?_⟩;rw [show([x1,x2].all λn=>decide (1<=n) && decide (n<=nv))=true by simp;omega];tm_at "r";refine rk _ _ ?_;tm_at "r";have s3:=s1.trans s2;have hq3:=s3.seq hq;refine aR hq3 (bC rfl) (aR hq3 (show fC _ ((1:Nat):Int)=_ from aE rfl) (cX hq3 λq2 hq2=>?_));rw [show(some (2:Int))=some ((2:Nat):Int)from rfl,di];show ∀x dx:Addr,_;intro x dx hx hdx hne;have s4:ar H (upd H1 q2 (.lst (((x1::x2::D).map V.int).drop 2))):=s3.upd hq2;have hq2':(upd H1 q2 (.lst (((x1::x2::D).map V.int).drop 2))) q2=some (.lst (D.map V.int)):=ae;generalize upd H1 q2 (.lst (((x1::x2::D).map V.int).drop 2))=H2 at s4 hx hdx hq2';have s5:ar H (upd (upd H2 dx (.own x)) x (.ins C dx [])):=(s4.upd hdx).upd (by rw [aj (Ne.symm hne)];exact hx)
 have hq5:(upd (upd H2 dx (.own x)) x (.ins C dx [])) q2=some (.lst (D.map V.int)):=by
  rw [aj (ao hq2' hx),aj (ao hq2' hdx)];exact hq2'
 refine⟨x,dx,q2,row,x1,x2,D,rfl,ae,aF.of hq5,(),λn H3 hn e=>⟨rfl,?_⟩⟩;subst e
 have nx:n≠x:=λz=>by subst z;rw [ae]at hn;cases hn
 refine k x _ ?_ ⟨dx,n,ae,by rw [aj nx,ae]⟩;intro c o hc;have n1:c≠x:=ao (s4 _ _ hc) hx;rw [aj n1,aj (ao (s5 _ _ hc) hn)];exact s5 _ _ hc
theorem og(F:cc K "after" "Alike.after" gy f fd)(T:Txt mg aM)(TC:j6 K C)(ha:1<=x1/\x1<=nv)(hb:1<=x2/\x2<=nv)(D_move: ~~~cN "move" 2 ["before","column","voice"] (kS K))(D_span: ~~~cN "span" 2 ["column","first","second"] (pe K)): ~~~aG bV 3 f fd ["self","memory","before","column"] (bB K nv (gg C row x1 x2 D) (fe x1 x2 D) λ_=>True):=by
 refine F.ok sc_Alike_after λ_ A _ s H vs Q E hr h=>?_;obtain⟨r,m,x,c,bb,us,rfl,⟨dx,n,hr1,hn⟩,_,hbv,hc,hu,k⟩:=h
 refine⟨rfl,_,(af (aS (PW.pt (cA (aX (ax c7 (pr 2) aH (ay _))) (cv (aX (ax mD (az D_move hr ⋯ (aa (pr 2) (aa (pr 3) (aa (aL (pr 0) rfl) ag)))) ah (ay _)))))) (ai (av (pr 1))) aB)
 (af (cW (i:=4) sc_Alike_after.nd (az D_span hr ⋯ (aa (pr 3) (aa (aL (pr 0) rfl) (aa (aL (pr 0) rfl) ag)))))
 (ai (av (cE (PW.pt (ic (aX (ax mD (pr 4) (az D_span hr ⋯ (aa (pr 2) (aa (aL (pr 0) rfl) (aa (aL (pr 0) rfl) ag)))) (ay _))) (gn (aX (ax (ox K) (pr 4) (aL (pr 0) rfl) (by with_unfolding_all rfl)))))) aH (pr 1)))))),?_⟩
 refine jF λA0 B0 hA hB=>?_;tm_at "r"
 have l1:(dH row x1 x2 n).lookup (Str.ofString "first")=⇑x1:=by unfold dH;tm_at "f"
 have l2:(dH row x1 x2 n).lookup (Str.ofString "second")=⇑x2:=by unfold dH;tm_at "f"
 have l3:(dH row x1 x2 n).lookup (Str.ofString "numbers")=↑n:=by unfold dH;tm_at "f"
 rcases hbv with⟨rfl,rfl⟩ | ⟨a,bs,rfl,rfl,hba,hbl⟩
 ·rw [if_pos rfl]
  exact hA _ k
 rw [if_neg (λz=>by cases z)];have a1:=ha.1;have a2:=ha.2;have b1:=hb.1;have b2:=hb.2;refine⟨C,dx,_,hr1,TC.cl,TC.n2,_,l1,a,c,x1,bs,us,rfl,hba,hc,a1,(),(),?_⟩;tm_at "r";simp only [fe]at k
 by_cases h0:bh us x1 - bh bs x1=0
 ·rw [if_pos h0]
  rw [if_pos h0]at k;exact hA _ k
 rw [if_neg h0];rw [if_neg h0]at k;refine hB _ (iJ λRk rk=>?_);tm_at "r";refine⟨C,dx,_,hr1,TC.cl,TC.n2,_,l1,C,dx,_,hr1,TC.cl,TC.n3,_,l2,c,x1,x2,us,rfl,hc,a1,(),b1,(),rk _ _ ?_⟩;tm_at "r";refine⟨C,dx,_,hr1,TC.cl,TC.n2,_,l1,C,dx,_,hr1,TC.cl,TC.n3,_,l2,a,x1,x2,bs,rfl,hba,a1,(),b1,(),?_⟩;tm_at "r"
 by_cases h1:bh us x2 - bh us x1=bh bs x2 - bh bs x1
 ·rw [if_pos h1]
  refine⟨C,dx,_,hr1,TC.cl,TC.n4,_,l3,gY (aF.of hn) ⟨_,rfl,?_⟩⟩
  by_cases h:bh us x2 - bh us x1∈D
  ·rw [if_pos (decide_eq_true h)]
   rw [if_pos ⟨h1,h⟩]at k;exact k
  ·rw [if_neg (by rw [decide_eq_false h];exact ab3)]
   rw [if_neg (λz=>h z.2)]at k;exact k
 ·rw [if_neg h1]
  rw [if_neg (λz=>h1 z.1)]at k;exact k
theorem xY(TC:j6 K C)(h1: ~~~aC C "size" 7 ["self"] (cG 1 λ_=>.int 1))(h2: ~~~aC C "start" 7 ["self"] (cG 1 λ_=>.int 0))(h3: ~~~aC C "closes" 7 ["self","memory","last"] (cG 3 λ_=>.bl true))
  (h4: ~~~aC C "after" 7 ["self","memory","before","column"] (bB K nv (gg C row x1 x2 D) (fe x1 x2 D) λ_=>True)): ~~~bp 7 nv C (fe x1 x2 D) (gg C row x1 x2 D) (λ_=>True):=by
 refine⟨λr H H' s h=>?_,λr H h=>?_,trivial,λ_ _ _ _ _ _=>trivial,h1.imp ?_,h2.imp ?_,h4,h3.imp ?_⟩
 ·obtain⟨dx,n,e1,e2⟩:=h
  exact⟨dx,n,s _ _ e1,s _ _ e2⟩
 ·obtain⟨dx,n,e1,e2⟩:=h
  refine⟨dx,_,e1,?_,?_,?_,?_,?_⟩<;>(unfold dH;tm_at "f")
 ·rintro vs H Q E ⟨r,rfl,_,q⟩
  exact⟨rfl,q⟩
 ·rintro vs H Q E ⟨r,rfl,_,q⟩
  exact⟨rfl,q⟩
 ·rintro vs H Q E ⟨r,m,x,b,rfl,_,_,_,q⟩
  exact⟨rfl,q⟩
theorem pR(F:cc K "__init__" "Begin.__init__" eK f fd)(T:Txt mg aM)(TC:j7 K C)(DC_Rule___init__: ~~~iQ "Rule" "__init__" 1 ["self","row"] (cy K)): ~~~aG bV 2 f fd ["self","row","voice","notes"] (mG K C):=by
 refine F.ok kK λ_ A _ s H vs Q E hr h=>?_;obtain⟨x,dx,q,row,x1,D,rfl,hx,hq,hl,k⟩:=h
 refine⟨rfl,_,(af (bq (dD DC_Rule___init__ hr ⋯ (aa (pr 0) (aa (pr 1) ag))))
 (af (bM (pr 0) (pr 2) rfl)
 (ai (bM (pr 0) (bo (cU K) ⋯ T.n_list boot_list (aa (pr 3) ag)) rfl)))),?_⟩
 refine iJ λRk rk=>?_;tm_at "r";have ln:∀(f:Str) (v:V) (l:List (Str×V)) (n:Nat),l.length<=n->(br f v l).length<=n+1:=λf v l n h=>ac2 (bE f v l) (ae7 h);refine⟨x,C,dx,[],row,rfl,hx,TC.cl,TC.n1,∅,rk _ _ ?_⟩;tm_at "r";refine⟨C,dx,_,ae,TC.cl,TC.n2,ab5 (ln _ _ _ _ (ac1 0)) ∅,D.map V.int,.inl ((hq.at_ins hx).at_ins ae),λn hn=>?_⟩
 have nx:n≠x:=λe=>by subst e;rw [ae]at hn;cases hn
 rw [aj nx,aj nx]at hn;refine⟨C,dx,_,by rw [aj (Ne.symm nx),ae],TC.cl,TC.n3,ab5 (ln _ _ _ _ (ln _ _ _ _ (ac1 0))) ∅,?_⟩;refine k n _ hn ?_;rw [bS,fj];rfl
theorem ux(F:cc K "begin_of" "begin_of" jN f fd)(T:Txt mg aM)(D_has_list: ~~~cN "has_list" 3 ["numbers","ahead"] (dY K))(D_are_voices: ~~~cN "are_voices" 3 ["numbers","voices"] (ck K))(DM_Begin: ~~~iR "Begin" C 2 ["self","row","voice","notes"] (mG K C)): ~~~aG bV 4 f fd ["row","numbers","voices"] (mh K C):=by
 refine F.ok uO λ_ A _ s H vs Q E hr h=>?_;obtain⟨q,row,x1,D,nv,rfl,hq,x1_1,x1_2,l1,l2,k⟩:=h
 refine⟨rfl,_,(af (aS (PW.pt (cA (bX (aZ (az D_has_list hr ⋯ (aa (pr 1) (aa ah ag))) (λ_=>rfl))) (cv (bX (aZ (az D_are_voices hr ⋯ (aa (bK (gf K) (pr 1) b0 (fY ah)) (aa (pr 2) ag))) (λ_=>rfl)))))) (ai (av aH)) aB)
 (ai (av (iL DM_Begin hr ⋯ (aa (pr 0) (aa (aD (aW K) (pr 1) ah (λ_ _=>rfl)) (aa (bK (gf K) (pr 1) (fY ah) b0) ag))))))),?_⟩
 refine iJ λRk rk=>?_;tm_at "r";have hs:=sizeLine_eq;refine⟨q,_,1,rfl,hq,?_⟩;rw [show(decide (1<=(((x1::D).map V.int).length:Int) - 1) && decide ((((x1::D).map V.int).length:Int) - 1<=12))=true by simp;omega];tm_at "r";refine cX hq λq1 hq1=>?_;rw [show(some (1:Int))=some ((1:Nat):Int)from rfl,eU];have s1:ar H (upd H q1 (.lst ((((x1::D).map V.int)).take 1))):=aq hq1;refine⟨q1,[x1],nv,rfl,aF.of ae,by simp,λH1 s2=>?_⟩;rw [show([x1].all λn=>decide (1<=n) && decide (n<=nv))=true by simp;omega];tm_at "r";refine rk _ _ ?_;tm_at "r";have s3:=s1.trans s2;have hq3:=s3.seq hq;refine aR hq3 (bC rfl) (cX hq3 λq2 hq2=>?_);rw [show(some (1:Int))=some ((1:Nat):Int)from rfl,di];show ∀x dx:Addr,_;intro x dx hx hdx hne;have s4:ar H (upd H1 q2 (.lst (((x1::D).map V.int).drop 1))):=s3.upd hq2;have hq2':(upd H1 q2 (.lst (((x1::D).map V.int).drop 1))) q2=some (.lst (D.map V.int)):=ae;generalize upd H1 q2 (.lst (((x1::D).map V.int).drop 1))=H2 at s4 hx hdx hq2';have s5:ar H (upd (upd H2 dx (.own x)) x (.ins C dx [])):=(s4.upd hdx).upd (by rw [aj (Ne.symm hne)];exact hx)
 have hq5:(upd (upd H2 dx (.own x)) x (.ins C dx [])) q2=some (.lst (D.map V.int)):=by
  rw [aj (ao hq2' hx),aj (ao hq2' hdx)];exact hq2'
 refine⟨x,dx,q2,row,x1,D,rfl,ae,aF.of hq5,(),λn H3 hn e=>⟨rfl,?_⟩⟩;subst e
 have nx:n≠x:=λz=>by subst z;rw [ae]at hn;cases hn
 refine k x _ ?_ ⟨dx,n,ae,by rw [aj nx,ae]⟩;intro c o hc;have n1:c≠x:=ao (s4 _ _ hc) hx;rw [aj n1,aj (ao (s5 _ _ hc) hn)];exact s5 _ _ hc
theorem oj(F:cc K "after" "Begin.after" gA f fd)(T:Txt mg aM)(TC:j7 K C)(ha:1<=x1/\x1<=nv)(D_note_in: ~~~cN "note_in" 2 ["column","voice"] (fh K)): ~~~aG bV 3 f fd ["self","memory","before","column"] (bB K nv (gh C row x1 D) (fg x1 D) λ_=>True):=by
 refine F.ok oI λ_ A _ s H vs Q E hr h=>?_;obtain⟨r,m,x,c,bb,us,rfl,⟨dx,n,hr1,hn⟩,_,hbv,hc,hu,k⟩:=h;refine⟨rfl,_,(ai (av (cE (PW.pt (cA (aX (ax jw (pr 2) aH (ay _))) (cv (aX (ax (ox K) (az D_note_in hr ⋯ (aa (pr 3) (aa (aL (pr 0) rfl) ag))) (aL (pr 0) rfl) (by with_unfolding_all rfl)))))) (pr 1) aH))),?_⟩;tm_at "r"
 have l1:(eG row x1 n).lookup (Str.ofString "voice")=⇑x1:=by unfold eG;tm_at "f"
 have l2:(eG row x1 n).lookup (Str.ofString "notes")=↑n:=by unfold eG;tm_at "f"
 rcases hbv with⟨rfl,rfl⟩ | ⟨a,bs,rfl,rfl,hba,hbl⟩
 ·rw [if_pos rfl]
  refine⟨C,dx,_,hr1,TC.cl,TC.n2,_,l1,c,x1,us,rfl,hc,ha.1,by rw [hu];exact ha.2,C,dx,_,hr1,TC.cl,TC.n3,_,l2,gY (aF.of hn) ⟨_,rfl,?_⟩⟩;simp only [fg]at k
  by_cases h:bh us x1∈D
  ·rw [if_pos (decide_eq_true h)]
   rw [if_pos h]at k;exact k
  ·rw [if_neg (by rw [decide_eq_false h];exact ab3)]
   rw [if_neg h]at k;exact k
 ·rw [if_neg (by simp)]
  exact k
theorem xZ(TC:j7 K C)(h1: ~~~aC C "size" 7 ["self"] (cG 1 λ_=>.int 1))(h2: ~~~aC C "start" 7 ["self"] (cG 1 λ_=>.int 0))(h3: ~~~aC C "closes" 7 ["self","memory","last"] (cG 3 λ_=>.bl true))
  (h4: ~~~aC C "after" 7 ["self","memory","before","column"] (bB K nv (gh C row x1 D) (fg x1 D) λ_=>True)): ~~~bp 7 nv C (fg x1 D) (gh C row x1 D) (λ_=>True):=by
 refine⟨λr H H' s h=>?_,λr H h=>?_,trivial,λ_ _ _ _ _ _=>trivial,h1.imp ?_,h2.imp ?_,h4,h3.imp ?_⟩
 ·obtain⟨dx,n,e1,e2⟩:=h
  exact⟨dx,n,s _ _ e1,s _ _ e2⟩
 ·obtain⟨dx,n,e1,e2⟩:=h
  refine⟨dx,_,e1,?_,?_,?_,?_,?_⟩<;>(unfold eG;tm_at "f")
 ·rintro vs H Q E ⟨r,rfl,_,q⟩
  exact⟨rfl,q⟩
 ·rintro vs H Q E ⟨r,rfl,_,q⟩
  exact⟨rfl,q⟩
 ·rintro vs H Q E ⟨r,m,x,b,rfl,_,_,_,q⟩
  exact⟨rfl,q⟩
theorem pV(F:cc K "__init__" "Close.__init__" eM f fd)(T:Txt mg aM)(TC:j9 K C)(DC_Rule___init__: ~~~iQ "Rule" "__init__" 1 ["self","row"] (cy K)): ~~~aG bV 2 f fd ["self","row","voice","notes"] (mI K C):=by
 refine F.ok kM λ_ A _ s H vs Q E hr h=>?_;obtain⟨x,dx,q,row,x1,D,rfl,hx,hq,hl,k⟩:=h
 refine⟨rfl,_,(af (bq (dD DC_Rule___init__ hr ⋯ (aa (pr 0) (aa (pr 1) ag))))
 (af (bM (pr 0) (pr 2) rfl)
 (ai (bM (pr 0) (bo (cU K) ⋯ T.n_list boot_list (aa (pr 3) ag)) rfl)))),?_⟩
 refine iJ λRk rk=>?_;tm_at "r";have ln:∀(f:Str) (v:V) (l:List (Str×V)) (n:Nat),l.length<=n->(br f v l).length<=n+1:=λf v l n h=>ac2 (bE f v l) (ae7 h);refine⟨x,C,dx,[],row,rfl,hx,TC.cl,TC.n1,∅,rk _ _ ?_⟩;tm_at "r";refine⟨C,dx,_,ae,TC.cl,TC.n2,ab5 (ln _ _ _ _ (ac1 0)) ∅,D.map V.int,.inl ((hq.at_ins hx).at_ins ae),λn hn=>?_⟩
 have nx:n≠x:=λe=>by subst e;rw [ae]at hn;cases hn
 rw [aj nx,aj nx]at hn;refine⟨C,dx,_,by rw [aj (Ne.symm nx),ae],TC.cl,TC.n3,ab5 (ln _ _ _ _ (ln _ _ _ _ (ac1 0))) ∅,?_⟩;refine k n _ hn ?_;rw [bS,fj];rfl
theorem uz(F:cc K "close_of" "close_of" jP f fd)(T:Txt mg aM)(D_has_list: ~~~cN "has_list" 3 ["numbers","ahead"] (dY K))(D_are_voices: ~~~cN "are_voices" 3 ["numbers","voices"] (ck K))(DM_Close: ~~~iR "Close" C 2 ["self","row","voice","notes"] (mI K C)): ~~~aG bV 4 f fd ["row","numbers","voices"] (mj K C):=by
 refine F.ok uQ λ_ A _ s H vs Q E hr h=>?_;obtain⟨q,row,x1,D,nv,rfl,hq,x1_1,x1_2,l1,l2,k⟩:=h
 refine⟨rfl,_,(af (aS (PW.pt (cA (bX (aZ (az D_has_list hr ⋯ (aa (pr 1) (aa ah ag))) (λ_=>rfl))) (cv (bX (aZ (az D_are_voices hr ⋯ (aa (bK (gf K) (pr 1) b0 (fY ah)) (aa (pr 2) ag))) (λ_=>rfl)))))) (ai (av aH)) aB)
 (ai (av (iL DM_Close hr ⋯ (aa (pr 0) (aa (aD (aW K) (pr 1) ah (λ_ _=>rfl)) (aa (bK (gf K) (pr 1) (fY ah) b0) ag))))))),?_⟩
 refine iJ λRk rk=>?_;tm_at "r";have hs:=sizeLine_eq;refine⟨q,_,1,rfl,hq,?_⟩;rw [show(decide (1<=(((x1::D).map V.int).length:Int) - 1) && decide ((((x1::D).map V.int).length:Int) - 1<=12))=true by simp;omega];tm_at "r";refine cX hq λq1 hq1=>?_;rw [show(some (1:Int))=some ((1:Nat):Int)from rfl,eU];have s1:ar H (upd H q1 (.lst ((((x1::D).map V.int)).take 1))):=aq hq1;refine⟨q1,[x1],nv,rfl,aF.of ae,by simp,λH1 s2=>?_⟩;rw [show([x1].all λn=>decide (1<=n) && decide (n<=nv))=true by simp;omega];tm_at "r";refine rk _ _ ?_;tm_at "r";have s3:=s1.trans s2;have hq3:=s3.seq hq;refine aR hq3 (bC rfl) (cX hq3 λq2 hq2=>?_);rw [show(some (1:Int))=some ((1:Nat):Int)from rfl,di];show ∀x dx:Addr,_;intro x dx hx hdx hne;have s4:ar H (upd H1 q2 (.lst (((x1::D).map V.int).drop 1))):=s3.upd hq2;have hq2':(upd H1 q2 (.lst (((x1::D).map V.int).drop 1))) q2=some (.lst (D.map V.int)):=ae;generalize upd H1 q2 (.lst (((x1::D).map V.int).drop 1))=H2 at s4 hx hdx hq2';have s5:ar H (upd (upd H2 dx (.own x)) x (.ins C dx [])):=(s4.upd hdx).upd (by rw [aj (Ne.symm hne)];exact hx)
 have hq5:(upd (upd H2 dx (.own x)) x (.ins C dx [])) q2=some (.lst (D.map V.int)):=by
  rw [aj (ao hq2' hx),aj (ao hq2' hdx)];exact hq2'
 refine⟨x,dx,q2,row,x1,D,rfl,ae,aF.of hq5,(),λn H3 hn e=>⟨rfl,?_⟩⟩;subst e
 have nx:n≠x:=λz=>by subst z;rw [ae]at hn;cases hn
 refine k x _ ?_ ⟨dx,n,ae,by rw [aj nx,ae]⟩;intro c o hc;have n1:c≠x:=ao (s4 _ _ hc) hx;rw [aj n1,aj (ao (s5 _ _ hc) hn)];exact s5 _ _ hc
theorem mS(F:cc K "closes" "Close.closes" fZ f fd)(T:Txt mg aM)(TC:j9 K C)(ha:1<=x1/\x1<=nv)(D_note_in: ~~~cN "note_in" 2 ["column","voice"] (fh K)): ~~~aG bV 3 f fd ["self","memory","last"] (dR K nv (gj C row x1 D) (gb x1 D) λ_=>True):=by
 refine F.ok mW λ_ A _ s H vs Q E hr h=>?_;obtain⟨r,m,x,bb,rfl,⟨dx,n,hr1,hn⟩,_,hbv,k⟩:=h;refine⟨rfl,_,(ai (av (DW (DX (fH c7 (pr 2) aH (ay _)) (vV (fH (ox K) (az D_note_in hr ⋯ (aa (pr 2) (aa (aL (pr 0) rfl) ag))) (aL (pr 0) rfl) (by with_unfolding_all rfl))))))),?_⟩;tm_at "r"
 have l1:(eH row x1 n).lookup (Str.ofString "voice")=⇑x1:=by unfold eH;tm_at "f"
 have l2:(eH row x1 n).lookup (Str.ofString "notes")=↑n:=by unfold eH;tm_at "f"
 rcases hbv with⟨rfl,rfl⟩ | ⟨a,bs,rfl,rfl,hba,hbl⟩
 ·rw [if_pos rfl]
  exact k
 ·rw [if_neg (by simp)]
  refine⟨C,dx,_,hr1,TC.cl,TC.n2,_,l1,a,x1,bs,rfl,hba,ha.1,by rw [hbl];exact ha.2,C,dx,_,hr1,TC.cl,TC.n3,_,l2,gY (aF.of hn) ?_⟩;exact k
theorem yg(TC:j9 K C)(h1: ~~~aC C "size" 7 ["self"] (cG 1 λ_=>.int 1))(h2: ~~~aC C "start" 7 ["self"] (cG 1 λ_=>.int 0))(h3: ~~~aC C "after" 7 ["self","memory","before","column"] (cG 4 DQ))
  (h4: ~~~aC C "closes" 7 ["self","memory","last"] (dR K nv (gj C row x1 D) (gb x1 D) λ_=>True)): ~~~bp 7 nv C (gb x1 D) (gj C row x1 D) (λ_=>True):=by
 refine⟨λr H H' s h=>?_,λr H h=>?_,trivial,λ_ _ _ _ _ _=>trivial,h1.imp ?_,h2.imp ?_,h3.imp ?_,h4⟩
 ·obtain⟨dx,n,e1,e2⟩:=h
  exact⟨dx,n,s _ _ e1,s _ _ e2⟩
 ·obtain⟨dx,n,e1,e2⟩:=h
  refine⟨dx,_,e1,?_,?_,?_,?_,?_⟩<;>(unfold eH;tm_at "f")
 ·rintro vs H Q E ⟨r,rfl,_,q⟩
  exact⟨rfl,q⟩
 ·rintro vs H Q E ⟨r,rfl,_,q⟩
  exact⟨rfl,q⟩
 ·rintro vs H Q E ⟨r,m,x,c,b,us,rfl,_,_,_,_,_,q⟩
  exact⟨rfl,q⟩
theorem sv(F:cc K "__init__" "Back.__init__" fk f fd)(T:Txt mg aM)(TC:mZ K C)(DC_Rule___init__: ~~~iQ "Rule" "__init__" 1 ["self","row"] (cy K)): ~~~aG bV 2 f fd ["self","row","voice","widest"] (oU K C):=by
 refine F.ok lY λ_ A _ s H vs Q E hr h=>?_;obtain⟨x,dx,row,x1,x2,rfl,hx,k⟩:=h
 refine⟨rfl,_,(af (bq (dD DC_Rule___init__ hr ⋯ (aa (pr 0) (aa (pr 1) ag))))
 (af (bM (pr 0) (pr 2) rfl)
 (ai (bM (pr 0) (pr 3) rfl)))),?_⟩
 refine iJ λRk rk=>?_;tm_at "r";have ln:∀(f:Str) (v:V) (l:List (Str×V)) (n:Nat),l.length<=n->(br f v l).length<=n+1:=λf v l n h=>ac2 (bE f v l) (ae7 h);refine⟨x,C,dx,[],row,rfl,hx,TC.cl,TC.n1,∅,rk _ _ ?_⟩;tm_at "r";refine⟨C,dx,_,ae,TC.cl,TC.n2,ab5 (ln _ _ _ _ (ac1 0)) ∅,C,dx,_,ae,TC.cl,TC.n3,ab5 (ln _ _ _ _ (ln _ _ _ _ (ac1 0))) ∅,?_⟩;rw [bS,bS];exact k
theorem vJ(F:cc K "back_of" "back_of" lP f fd)(T:Txt mg aM)(D_are_voices: ~~~cN "are_voices" 3 ["numbers","voices"] (ck K))(DM_Back: ~~~iR "Back" C 2 ["self","row","voice","widest"] (oU K C)): ~~~aG bV 4 f fd ["row","numbers","voices"] (oV K C):=by
 refine F.ok wg λ_ A _ s H vs Q E hr h=>?_;obtain⟨q,row,x1,x2,nv,rfl,hq,b1,b2,b3,k⟩:=h
 refine⟨rfl,_,(af (aS (PW.pt (cA (aX (ax yI (aA (aJ K) ⋯ T.n_len boot_len (aa (pr 1) ag)) ah (ay _))) (cA (bX (aZ (az D_are_voices hr ⋯ (aa (bK (gf K) (pr 1) b0 (fY ah)) (aa (pr 2) ag))) (λ_=>rfl))) (cv (aX (ax (o0 kF) (aD (aW K) (pr 1) ah (λ_ _=>rfl)) ah (ay _))))))) (ai (av aH)) aB)
 (ai (av (iL DM_Back hr ⋯ (aa (pr 0) (aa (aD (aW K) (pr 1) ah (λ_ _=>rfl)) (aa (aD (aW K) (pr 1) ah (λ_ _=>rfl)) ag))))))),?_⟩
 refine iJ λRk rk=>?_;tm_at "r";have hs:=sizeLine_eq;refine⟨_,.inl hq,?_⟩;tm_at "r";rw [if_pos (show(((0:Nat)+1+1:Nat):Int)=2 from rfl)];refine cX hq λq1 hq1=>?_;rw [show(some (1:Int))=some ((1:Nat):Int)from rfl,eU];have s1:ar H (upd H q1 (.lst (([x1,x2].map V.int).take 1))):=aq hq1;refine⟨q1,[x1],nv,rfl,aF.of ae,by simp,λH1 s2=>?_⟩;rw [show([x1].all λn=>decide (1<=n) && decide (n<=nv))=true by simp;omega];tm_at "r";have s3:=s1.trans s2;have hq3:=s3.seq hq;refine aR hq3 (show fC _ ((1:Nat):Int)=_ from aE rfl) ?_;tm_at "r";rw [if_neg (show ¬(x2 < 0)by omega)];refine rk _ _ ?_;tm_at "r";refine aR hq3 (bC rfl) (aR hq3 (show fC _ ((1:Nat):Int)=_ from aE rfl) ?_);show ∀x dx:Addr,_;intro x dx hx hdx hne;have s5:ar H (upd (upd H1 dx (.own x)) x (.ins C dx [])):=(s3.upd hdx).upd (by rw [aj (Ne.symm hne)];exact hx);refine⟨x,dx,row,x1,x2,rfl,ae,rfl,?_⟩;refine k x _ ?_ ⟨dx,ae⟩;intro c o hc;rw [aj (ao (s3 _ _ hc) hx)];exact s5 _ _ hc
theorem sy(F:cc K "size" "Back.size" ja f fd): ~~~aG bV 1 f fd ["self"] (cG 1 λ_=>.int 3):=by
 refine F.ok sX λ_ A _ s H vs Q E hr h=>?_;obtain⟨hl,k⟩:=h;obtain⟨a,rfl⟩:=Fy hl;refine⟨rfl,_,(ai (av ah)),?_⟩;tm_at "r";exact k
theorem pQ(F:cc K "start" "Back.start" ij f fd)(T:Txt mg aM): ~~~aG bV 1 f fd ["self"] (cG 1 λ_=>.int 0):=by
 refine F.ok qk λ_ A _ s H vs Q E hr h=>?_;obtain⟨hl,k⟩:=h;obtain⟨a,rfl⟩:=Fy hl;refine⟨rfl,_,(ai (av (iN T.g_NO_LEAP))),?_⟩;tm_at "r";exact k
def kx(m:Int):Prop:=0<=m/\m<=2
theorem oh(F:cc K "closes" "Back.closes" gz f fd)(T:Txt mg aM): ~~~aG bV 1 f fd ["self","memory","last"] (dR K nv (fO C row x1 x2) (dS x1 x2) kx):=by
 refine F.ok oH λ_ A _ s H vs Q E hr h=>?_;obtain⟨r,m,x,bb,rfl,_,_,_,k⟩:=h;refine⟨rfl,_,(ai (av (fH mD (pr 1) (iN T.g_NO_LEAP) (ay _)))),?_⟩;tm_at "r";exact k
theorem pP(F:cc K "after" "Back.after" ig f fd)(T:Txt mg aM)(TC:mZ K C)(ha:1<=x1/\x1<=nv)(D_move: ~~~cN "move" 2 ["before","column","voice"] (kS K)): ~~~aG bV 3 f fd ["self","memory","before","column"] (bB K nv (fO C row x1 x2) (dS x1 x2) kx):=by
 refine F.ok sc_Back_after λ_ A _ s H vs Q E hr h=>?_;obtain⟨r,m,x,c,bb,us,rfl,⟨dx,hr1⟩,_,hbv,hc,hu,k⟩:=h
 refine⟨rfl,_,(af (aS (aX (ax c7 (pr 2) aH (ay _))) (ai (av (iN T.g_NO_LEAP))) aB)
 (af (cW (i:=4) sc_Back_after.nd (az D_move hr ⋯ (aa (pr 2) (aa (pr 3) (aa (aL (pr 0) rfl) ag)))))
 (af (aS (PW.pt (cA (PW.pt (ic (aX (ax mD (pr 1) (iN T.g_LEAP_UP) (ay _))) (gn (aX (ax (o0 DU) (pr 4) ah (ay _)))))) (cv (PW.pt (ic (aX (ax mD (pr 1) (iN T.g_LEAP_DOWN) (ay _))) (gn (aX (ax (o0 kG) (pr 4) ah (ay _))))))))) (ai (av aH)) aB)
 (af (aS (aX (ax (o0 uC) (pr 4) (aL (pr 0) rfl) (ay _))) (ai (av (iN T.g_LEAP_UP))) aB)
 (ai (av (cE (aX (ax (o0 kF) (pr 4) (au (o0 cJ) ah (aL (pr 0) rfl)) (ay _))) (iN T.g_LEAP_DOWN) (iN T.g_NO_LEAP)))))))),?_⟩
 have l1:(fT row x1 x2).lookup (Str.ofString "voice")=⇑x1:=by unfold fT;tm_at "f"
 have l2:(fT row x1 x2).lookup (Str.ofString "widest")=⇑x2:=by unfold fT;tm_at "f"
 refine jF λA0 B0 hA0 hB0=>?_;tm_at "r";rcases hbv with⟨rfl,rfl⟩ | ⟨a,bs,rfl,rfl,hba,hbl⟩
 ·rw [if_pos rfl]
  exact hA0 _ k
 rw [if_neg (λz=>by cases z)];refine hB0 _ (iJ λk1 hk1=>?_);tm_at "r";refine⟨C,dx,_,hr1,TC.cl,TC.n2,_,l1,a,c,x1,bs,us,rfl,hba,hc,ha.1,by rw [hbl];exact ha.2,by rw [hu];exact ha.2,?_⟩;simp only [dS]at k;generalize bh us x1 - bh bs x1=stp at k |-;refine hk1 _ _ (jF λA1 B1 hA1 hB1=>?_);tm_at "r"
 by_cases hB:(m=1/\0<=stp)\/(m=2/\stp<=0)
 ·rw [if_pos hB]at k
  rcases hB with⟨h1,h2⟩ | ⟨h1,h2⟩
  ·rw [if_pos h1,if_pos h2]
   exact hA1 _ k
  ·rw [if_neg (show ¬(m=1)by omega),if_pos h1,if_pos h2]
   exact hA1 _ k
 rw [if_neg hB]at k
 have hb1:B1 H:=by
  refine hB1 _ (jF λA2 B2 hA2 hB2=>?_);tm_at "r";refine⟨C,dx,_,hr1,TC.cl,TC.n3,_,l2,_,rfl,?_⟩
  by_cases h3:x2 < stp
  ·rw [if_pos h3]
   rw [if_pos (show stp > x2 from h3)]at k;exact hA2 _ k
  rw [if_neg h3];rw [if_neg (show ¬(stp > x2)from h3)]at k;refine hB2 _ ?_;tm_at "r";refine⟨C,dx,_,hr1,TC.cl,TC.n3,_,l2,_,rfl,?_⟩
  by_cases h4:stp < 0 - x2
  ·rw [if_pos h4]
   rw [if_pos h4]at k;exact k
  ·rw [if_neg h4]
   rw [if_neg h4]at k;exact k
 by_cases h1:m=1
 ·rw [if_pos h1,if_neg (λz=>hB (.inl ⟨h1,z⟩)),if_neg (show ¬(m=2)by omega)]
  exact hb1
 rw [if_neg h1]
 by_cases h2:m=2
 ·rw [if_pos h2,if_neg (λz=>hB (.inr ⟨h2,z⟩))]
  exact hb1
 rw [if_neg h2];exact hb1
theorem zC(TC:mZ K C)(h1: ~~~aC C "size" 7 ["self"] (cG 1 λ_=>.int 3))(h2: ~~~aC C "start" 7 ["self"] (cG 1 λ_=>.int 0))(h3: ~~~aC C "closes" 7 ["self","memory","last"] (dR K nv (fO C row x1 x2) (dS x1 x2) kx))
  (h4: ~~~aC C "after" 7 ["self","memory","before","column"] (bB K nv (fO C row x1 x2) (dS x1 x2) kx)): ~~~bp 7 nv C (dS x1 x2) (fO C row x1 x2) kx:=by
 refine⟨λr H H' s h=>?_,λr H h=>?_,⟨show(0:Int)<=0 by decide,show(0:Int)<=2 by decide⟩,λm b us m' _ e=>?_,h1.imp ?_,h2.imp ?_,h4,h3⟩
 ·obtain⟨dx,e1⟩:=h
  exact⟨dx,s _ _ e1⟩
 ·obtain⟨dx,e1⟩:=h
  refine⟨dx,_,e1,?_,?_,?_,?_,?_⟩<;>(unfold fT;tm_at "f")
 ·simp only [dS]at e
  cases b with
  | none=>cases e;exact⟨∅,∅⟩
  | some bs=>
   simp only at e
   split at e
   ·cases e
   split at e
   ·cases e;exact⟨∅,∅⟩
   split at e
   ·cases e;exact⟨∅,∅⟩
   ·cases e;exact⟨∅,∅⟩
 ·rintro vs H Q E ⟨r,rfl,_,q⟩
  exact⟨rfl,q⟩
 ·rintro vs H Q E ⟨r,rfl,_,q⟩
  exact⟨rfl,q⟩
theorem sE(F:cc K "__init__" "Held.__init__" fm f fd)(T:Txt mg aM)(TC:ka K C)(DC_Rule___init__: ~~~iQ "Rule" "__init__" 1 ["self","row"] (cy K)): ~~~aG bV 2 f fd ["self","row","voice","most"] (oW K C):=by
 refine F.ok lZ λ_ A _ s H vs Q E hr h=>?_;obtain⟨x,dx,row,x1,x2,rfl,hx,k⟩:=h
 refine⟨rfl,_,(af (bq (dD DC_Rule___init__ hr ⋯ (aa (pr 0) (aa (pr 1) ag))))
 (af (bM (pr 0) (pr 2) rfl)
 (ai (bM (pr 0) (pr 3) rfl)))),?_⟩
 refine iJ λRk rk=>?_;tm_at "r";have ln:∀(f:Str) (v:V) (l:List (Str×V)) (n:Nat),l.length<=n->(br f v l).length<=n+1:=λf v l n h=>ac2 (bE f v l) (ae7 h);refine⟨x,C,dx,[],row,rfl,hx,TC.cl,TC.n1,∅,rk _ _ ?_⟩;tm_at "r";refine⟨C,dx,_,ae,TC.cl,TC.n2,ab5 (ln _ _ _ _ (ac1 0)) ∅,C,dx,_,ae,TC.cl,TC.n3,ab5 (ln _ _ _ _ (ln _ _ _ _ (ac1 0))) ∅,?_⟩;rw [bS,bS];exact k
theorem vL(F:cc K "held_of" "held_of" lR f fd)(T:Txt mg aM)(D_are_voices: ~~~cN "are_voices" 3 ["numbers","voices"] (ck K))(DM_Held: ~~~iR "Held" C 2 ["self","row","voice","most"] (oW K C)): ~~~aG bV 4 f fd ["row","numbers","voices"] (oX K C):=by
 refine F.ok wj λ_ A _ s H vs Q E hr h=>?_;obtain⟨q,row,x1,x2,nv,rfl,hq,b1,b2,b3,k⟩:=h
 refine⟨rfl,_,(af (aS (PW.pt (cA (aX (ax yI (aA (aJ K) ⋯ T.n_len boot_len (aa (pr 1) ag)) ah (ay _))) (cA (bX (aZ (az D_are_voices hr ⋯ (aa (bK (gf K) (pr 1) b0 (fY ah)) (aa (pr 2) ag))) (λ_=>rfl))) (cv (aX (ax (o0 kF) (aD (aW K) (pr 1) ah (λ_ _=>rfl)) ah (ay _))))))) (ai (av aH)) aB)
 (ai (av (iL DM_Held hr ⋯ (aa (pr 0) (aa (aD (aW K) (pr 1) ah (λ_ _=>rfl)) (aa (aD (aW K) (pr 1) ah (λ_ _=>rfl)) ag))))))),?_⟩
 refine iJ λRk rk=>?_;tm_at "r";have hs:=sizeLine_eq;refine⟨_,.inl hq,?_⟩;tm_at "r";rw [if_pos (show(((0:Nat)+1+1:Nat):Int)=2 from rfl)];refine cX hq λq1 hq1=>?_;rw [show(some (1:Int))=some ((1:Nat):Int)from rfl,eU];have s1:ar H (upd H q1 (.lst (([x1,x2].map V.int).take 1))):=aq hq1;refine⟨q1,[x1],nv,rfl,aF.of ae,by simp,λH1 s2=>?_⟩;rw [show([x1].all λn=>decide (1<=n) && decide (n<=nv))=true by simp;omega];tm_at "r";have s3:=s1.trans s2;have hq3:=s3.seq hq;refine aR hq3 (show fC _ ((1:Nat):Int)=_ from aE rfl) ?_;tm_at "r";rw [if_neg (show ¬(x2 < 1)by omega)];refine rk _ _ ?_;tm_at "r";refine aR hq3 (bC rfl) (aR hq3 (show fC _ ((1:Nat):Int)=_ from aE rfl) ?_);show ∀x dx:Addr,_;intro x dx hx hdx hne;have s5:ar H (upd (upd H1 dx (.own x)) x (.ins C dx [])):=(s3.upd hdx).upd (by rw [aj (Ne.symm hne)];exact hx);refine⟨x,dx,row,x1,x2,rfl,ae,rfl,?_⟩;refine k x _ ?_ ⟨dx,ae⟩;intro c o hc;rw [aj (ao (s3 _ _ hc) hx)];exact s5 _ _ hc
theorem sF(F:cc K "size" "Held.size" jb f fd)(TC:ka K C): ~~~aG bV 1 f fd ["self"] (pd (fP C row x1 x2) (.int x2)):=by
 refine F.ok sY λ_ A _ s H vs Q E hr h=>?_;obtain⟨r,rfl,⟨dx,hr1⟩,k⟩:=h;refine⟨rfl,_,(ai (av (aL (pr 0) rfl))),?_⟩;tm_at "r"
 have l2:(eg row x1 x2).lookup (Str.ofString "most")=⇑x2:=by unfold eg;tm_at "f"
 exact⟨C,dx,_,hr1,TC.cl,TC.n3,_,l2,k⟩
theorem pY(F:cc K "after" "Held.after" il f fd)(T:Txt mg aM)(TC:ka K C)(ha:1<=x1/\x1<=nv)(D_note_in: ~~~cN "note_in" 2 ["column","voice"] (fh K)): ~~~aG bV 3 f fd ["self","memory","before","column"] (bB K nv (fP C row x1 x2) (eX x1 x2) (qW x2)):=by
 refine F.ok qq λ_ A _ s H vs Q E hr h=>?_;obtain⟨r,m,x,c,bb,us,rfl,⟨dx,hr1⟩,_,hbv,hc,hu,k⟩:=h
 refine⟨rfl,_,(af (aS (PW.pt (cA (aX (ax c7 (pr 2) aH (ay _))) (cv (aX (ax yI (az D_note_in hr ⋯ (aa (pr 2) (aa (aL (pr 0) rfl) ag))) (az D_note_in hr ⋯ (aa (pr 3) (aa (aL (pr 0) rfl) ag))) (ay _)))))) (ai (av ah)) aB)
 (ai (av (cE (aX (ax (o0 kF) (au (bL K) (pr 1) ah) (aL (pr 0) rfl) (ay _))) (au (bL K) (pr 1) ah) aH)))),?_⟩
 refine iJ λRk rk=>?_;tm_at "r"
 have l1:(eg row x1 x2).lookup (Str.ofString "voice")=⇑x1:=by unfold eg;tm_at "f"
 have l2:(eg row x1 x2).lookup (Str.ofString "most")=⇑x2:=by unfold eg;tm_at "f"
 rcases hbv with⟨rfl,rfl⟩ | ⟨a,bs,rfl,rfl,hba,hbl⟩
 ·rw [if_pos rfl]
  exact k
 rw [if_neg (λz=>by cases z)];refine⟨C,dx,_,hr1,TC.cl,TC.n2,_,l1,a,x1,bs,rfl,hba,ha.1,by rw [hbl];exact ha.2,C,dx,_,hr1,TC.cl,TC.n2,_,l1,c,x1,us,rfl,hc,ha.1,by rw [hu];exact ha.2,?_⟩;tm_at "r";simp only [eX]at k
 by_cases h:bh bs x1=bh us x1
 ·rw [if_pos h]
  rw [if_pos h]at k;refine rk _ _ ?_;tm_at "r";refine⟨C,dx,_,hr1,TC.cl,TC.n3,_,l2,_,rfl,?_⟩
  by_cases h2:m+1 < x2
  ·rw [if_pos h2]
   rw [if_pos h2]at k;exact k
  ·rw [if_neg h2]
   rw [if_neg h2]at k;exact k
 ·rw [if_neg h]
  rw [if_neg h]at k;exact k
theorem zX(h0:1<=x2)(TC:ka K C)(h1: ~~~aC C "size" 7 ["self"] (pd (fP C row x1 x2) (.int x2)))(h2: ~~~aC C "start" 7 ["self"] (cG 1 λ_=>.int 0))(h3: ~~~aC C "closes" 7 ["self","memory","last"] (cG 3 λ_=>.bl true))
  (h4: ~~~aC C "after" 7 ["self","memory","before","column"] (bB K nv (fP C row x1 x2) (eX x1 x2) (qW x2))): ~~~bp 7 nv C (eX x1 x2) (fP C row x1 x2) (qW x2):=by
 refine⟨λr H H' s h=>?_,λr H h=>?_,⟨show(0:Int)<=0 by decide,show(0:Int) < x2 by omega⟩,λm b us m' hm e=>?_,h1,h2.imp ?_,h4,h3.imp ?_⟩
 ·obtain⟨dx,e1⟩:=h
  exact⟨dx,s _ _ e1⟩
 ·obtain⟨dx,e1⟩:=h
  refine⟨dx,_,e1,?_,?_,?_,?_,?_⟩<;>(unfold eg;tm_at "f")
 ·simp only [eX]at e
  obtain⟨m0,m1⟩:=hm
  cases b with
  | none=>cases e;exact⟨∅,()⟩
  | some bs=>
   simp only at e
   split at e
   ·split at e
    ·cases e;exact⟨(),()⟩
    ·cases e
   ·cases e;exact⟨∅,()⟩
 ·rintro vs H Q E ⟨r,rfl,_,q⟩
  exact⟨rfl,q⟩
 ·rintro vs H Q E ⟨r,m,x,b,rfl,_,_,_,q⟩
  exact⟨rfl,q⟩
theorem p9(F:cc K "__init__" "Times.__init__" eP f fd)(T:Txt mg aM)(TC:gQ K C)(DC_Rule___init__: ~~~iQ "Rule" "__init__" 1 ["self","row"] (cy K)): ~~~aG bV 2 f fd ["self","row","voice","note","fewest","most"] (mL K C):=by
 refine F.ok kQ λ_ A _ s H vs Q E hr h=>?_;obtain⟨x,dx,row,x1,x2,x3,x4,rfl,hx,k⟩:=h
 refine⟨rfl,_,(af (bq (dD DC_Rule___init__ hr ⋯ (aa (pr 0) (aa (pr 1) ag))))
 (af (bM (pr 0) (pr 2) rfl)
 (af (bM (pr 0) (pr 3) rfl)
 (af (bM (pr 0) (pr 4) rfl)
 (ai (bM (pr 0) (pr 5) rfl)))))),?_⟩
 refine iJ λRk rk=>?_;tm_at "r";have ln:∀(f:Str) (v:V) (l:List (Str×V)) (n:Nat),l.length<=n->(br f v l).length<=n+1:=λf v l n h=>ac2 (bE f v l) (ae7 h);refine⟨x,C,dx,[],row,rfl,hx,TC.cl,TC.n1,∅,rk _ _ ?_⟩;tm_at "r";refine⟨C,dx,_,ae,TC.cl,TC.n2,ab5 (ln _ _ _ _ (ac1 0)) ∅,C,dx,_,ae,TC.cl,TC.n3,ab5 (ln _ _ _ _ (ln _ _ _ _ (ac1 0))) ∅,C,dx,_,ae,TC.cl,TC.n4,ab5 (ln _ _ _ _ (ln _ _ _ _ (ln _ _ _ _ (ac1 0)))) ∅,C,dx,_,ae,TC.cl,TC.n5,ab5 (ln _ _ _ _ (ln _ _ _ _ (ln _ _ _ _ (ln _ _ _ _ (ac1 0))))) ∅,?_⟩;rw [bS,bS,bS,bS];exact k
theorem uB(F:cc K "times_of" "times_of" jX f fd)(T:Txt mg aM)(D_are_voices: ~~~cN "are_voices" 3 ["numbers","voices"] (ck K))(DM_Times: ~~~iR "Times" C 2 ["self","row","voice","note","fewest","most"] (mL K C)): ~~~aG bV 4 f fd ["row","numbers","voices"] (mn K C):=by
 refine F.ok uU λ_ A _ s H vs Q E hr h=>?_;obtain⟨q,row,x1,x2,x3,x4,nv,rfl,hq,b1,b2,b3,b4,k⟩:=h
 refine⟨rfl,_,(af (aS (PW.pt (cA (aX (ax yI (aA (aJ K) ⋯ T.n_len boot_len (aa (pr 1) ag)) ah (ay _))) (cA (bX (aZ (az D_are_voices hr ⋯ (aa (bK (gf K) (pr 1) b0 (fY ah)) (aa (pr 2) ag))) (λ_=>rfl))) (cv (aX (ax (o0 kF) (aA (yc rfl K) ⋯ T.n_min boot_min (aa (bK (gf K) (pr 1) (fY ah) b0) ag)) ah (ay _))))))) (ai (av aH)) aB)
 (ai (av (iL DM_Times hr ⋯ (aa (pr 0) (aa (aD (aW K) (pr 1) ah (λ_ _=>rfl)) (aa (aD (aW K) (pr 1) ah (λ_ _=>rfl)) (aa (aD (aW K) (pr 1) ah (λ_ _=>rfl)) (aa (aD (aW K) (pr 1) ah (λ_ _=>rfl)) ag))))))))),?_⟩
 refine iJ λRk rk=>?_;tm_at "r";have hs:=sizeLine_eq;refine⟨_,.inl hq,?_⟩;tm_at "r";rw [if_pos (show(((0:Nat)+1+1+1+1:Nat):Int)=4 from rfl)];refine cX hq λq1 hq1=>?_;rw [show(some (1:Int))=some ((1:Nat):Int)from rfl,eU];have s1:ar H (upd H q1 (.lst (([x1,x2,x3,x4].map V.int).take 1))):=aq hq1;refine⟨q1,[x1],nv,rfl,aF.of ae,by simp,λH1 s2=>?_⟩;rw [show([x1].all λn=>decide (1<=n) && decide (n<=nv))=true by simp;omega];tm_at "r";have s3:=s1.trans s2;have hq3:=s3.seq hq;refine cX hq3 λq4 hq4=>?_;rw [show(some (2:Int))=some ((2:Nat):Int)from rfl,di];have s4:ar H (upd H1 q4 (.lst (([x1,x2,x3,x4].map V.int).drop 2))):=s3.upd hq4;have hm:(upd H1 q4 (.lst (([x1,x2,x3,x4].map V.int).drop 2))) q4=some (.lst ([x3,x4].map V.int)):=ae;generalize upd H1 q4 (.lst (([x1,x2,x3,x4].map V.int).drop 2))=H2 at s4 hm;refine⟨q4,rfl,[x3,x4],aF.of hm,by simp,λi hi=>?_⟩
 have hi0:0<=i:=by
  rcases ab0.mp hi with rfl | hi
  ·exact b3
  ·rw [ac3.mp hi];exact b4
 tm_at "r";rw [if_neg (show ¬(i < 0)by omega)];refine rk _ _ ?_;tm_at "r";have hq5:=s4.seq hq;refine aR hq5 (bC rfl) (aR hq5 (show fC _ ((1:Nat):Int)=_ from aE rfl) (aR hq5 (show fC _ ((2:Nat):Int)=_ from aE rfl) (aR hq5 (show fC _ ((3:Nat):Int)=_ from aE rfl) ?_)));show ∀x dx:Addr,_;intro x dx hx hdx hne;have s5:ar H (upd (upd H2 dx (.own x)) x (.ins C dx [])):=(s4.upd hdx).upd (by rw [aj (Ne.symm hne)];exact hx);refine⟨x,dx,row,x1,x2,x3,x4,rfl,ae,rfl,?_⟩;refine k x _ ?_ ⟨dx,ae⟩;intro c o hc;rw [aj (ao (s4 _ _ hc) hx)];exact s5 _ _ hc
theorem qa(F:cc K "size" "Times.size" iw f fd)(TC:gQ K C): ~~~aG bV 1 f fd ["self"] (pd (dm C row x1 x2 x3 x4) (.int (x4+1))):=by
 refine F.ok qA λ_ A _ s H vs Q E hr h=>?_;obtain⟨r,rfl,⟨dx,hr1⟩,k⟩:=h;refine⟨rfl,_,(ai (av (au (bL K) (aL (pr 0) rfl) ah))),?_⟩;tm_at "r"
 have l5:(cB row x1 x2 x3 x4).lookup (Str.ofString "most")=⇑x4:=by unfold cB;tm_at "f"
 refine⟨C,dx,_,hr1,TC.cl,TC.n5,_,l5,?_⟩;tm_at "r";exact k
theorem mT(F:cc K "closes" "Times.closes" f6 f fd)(TC:gQ K C): ~~~aG bV 1 f fd ["self","memory","last"] (dR K nv (dm C row x1 x2 x3 x4) (c9 x1 x2 x3 x4) (ky x4)):=by
 refine F.ok mX λ_ A _ s H vs Q E hr h=>?_;obtain⟨r,m,x,bb,rfl,⟨dx,hr1⟩,_,_,k⟩:=h;refine⟨rfl,_,(ai (av (fH (o0 DU) (pr 1) (aL (pr 0) rfl) (ay _)))),?_⟩;tm_at "r"
 have l4:(cB row x1 x2 x3 x4).lookup (Str.ofString "fewest")=⇑x3:=by unfold cB;tm_at "f"
 refine⟨C,dx,_,hr1,TC.cl,TC.n4,_,l4,?_⟩;tm_at "r";exact k
theorem ou(F:cc K "after" "Times.after" gH f fd)(T:Txt mg aM)(TC:gQ K C)(ha:1<=x1/\x1<=nv)(D_note_in: ~~~cN "note_in" 2 ["column","voice"] (fh K)): ~~~aG bV 3 f fd ["self","memory","before","column"] (bB K nv (dm C row x1 x2 x3 x4) (c9 x1 x2 x3 x4) (ky x4)):=by
 refine F.ok oQ λ_ A _ s H vs Q E hr h=>?_;obtain⟨r,m,x,c,bb,us,rfl,⟨dx,hr1⟩,_,hbv,hc,hu,k⟩:=h
 refine⟨rfl,_,(af (aS (aX (ax yI (az D_note_in hr ⋯ (aa (pr 3) (aa (aL (pr 0) rfl) ag))) (aL (pr 0) rfl) (ay _))) (ai (av (pr 1))) aB)
 (ai (av (cE (aX (ax (o0 kF) (pr 1) (aL (pr 0) rfl) (ay _))) (au (bL K) (pr 1) ah) aH)))),?_⟩
 refine iJ λRk rk=>?_;tm_at "r"
 have l1:(cB row x1 x2 x3 x4).lookup (Str.ofString "voice")=⇑x1:=by unfold cB;tm_at "f"
 have l2:(cB row x1 x2 x3 x4).lookup (Str.ofString "note")=⇑x2:=by unfold cB;tm_at "f"
 have l5:(cB row x1 x2 x3 x4).lookup (Str.ofString "most")=⇑x4:=by unfold cB;tm_at "f"
 refine⟨C,dx,_,hr1,TC.cl,TC.n2,_,l1,c,x1,us,rfl,hc,ha.1,by rw [hu];exact ha.2,C,dx,_,hr1,TC.cl,TC.n3,_,l2,?_⟩;tm_at "r";simp only [c9]at k
 by_cases h:bh us x1=x2
 ·rw [if_pos h]
  rw [if_pos h]at k;refine rk _ _ ?_;tm_at "r";refine⟨C,dx,_,hr1,TC.cl,TC.n5,_,l5,_,rfl,?_⟩
  by_cases h2:m < x4
  ·rw [if_pos h2]
   rw [if_pos h2]at k;exact k
  ·rw [if_neg h2]
   rw [if_neg h2]at k;exact k
 ·rw [if_neg h]
  rw [if_neg h]at k;exact k
theorem zd(h0:0<=x4)(TC:gQ K C)(h1: ~~~aC C "size" 7 ["self"] (pd (dm C row x1 x2 x3 x4) (.int (x4+1))))(h2: ~~~aC C "start" 7 ["self"] (cG 1 λ_=>.int 0))(h3: ~~~aC C "closes" 7 ["self","memory","last"] (dR K nv (dm C row x1 x2 x3 x4) (c9 x1 x2 x3 x4) (ky x4)))
  (h4: ~~~aC C "after" 7 ["self","memory","before","column"] (bB K nv (dm C row x1 x2 x3 x4) (c9 x1 x2 x3 x4) (ky x4))): ~~~bp 7 nv C (c9 x1 x2 x3 x4) (dm C row x1 x2 x3 x4) (ky x4):=by
 refine⟨λr H H' s h=>?_,λr H h=>?_,⟨show(0:Int)<=0 by decide,show(0:Int)<=x4 by omega⟩,λm b us m' hm e=>?_,h1,h2.imp ?_,h4,h3⟩
 ·obtain⟨dx,e1⟩:=h
  exact⟨dx,s _ _ e1⟩
 ·obtain⟨dx,e1⟩:=h
  refine⟨dx,_,e1,?_,?_,?_,?_,?_⟩<;>(unfold cB;tm_at "f")
 ·simp only [c9]at e
  obtain⟨m0,m1⟩:=hm
  split at e
  ·split at e
   ·cases e;exact⟨(),()⟩
   ·cases e
  ·cases e;exact⟨m0,m1⟩
 ·rintro vs H Q E ⟨r,rfl,_,q⟩
  exact⟨rfl,q⟩
theorem pW(F:cc K "__init__" "Every.__init__" eN f fd)(T:Txt mg aM)(TC:iP K C)(DC_Rule___init__: ~~~iQ "Rule" "__init__" 1 ["self","row"] (cy K)): ~~~aG bV 2 f fd ["self","row","turns","turn","inner"] (mJ K C):=by
 refine F.ok kO λ_ A _ s H vs Q E hr h=>?_;obtain⟨x,dx,ri,row,t,u,rfl,hx,k⟩:=h
 refine⟨rfl,_,(af (bq (dD DC_Rule___init__ hr ⋯ (aa (pr 0) (aa (pr 1) ag))))
 (af (bM (pr 0) (pr 2) rfl)
 (af (bM (pr 0) (pr 3) rfl)
 (ai (bM (pr 0) (pr 4) rfl))))),?_⟩
 refine iJ λRk rk=>?_;tm_at "r";have ln:∀(f:Str) (v:V) (l:List (Str×V)) (n:Nat),l.length<=n->(br f v l).length<=n+1:=λf v l n h=>ac2 (bE f v l) (ae7 h);refine⟨x,C,dx,[],row,rfl,hx,TC.cl,TC.n1,∅,rk _ _ ?_⟩;tm_at "r";refine⟨C,dx,_,ae,TC.cl,TC.n2,ab5 (ln _ _ _ _ (ac1 0)) ∅,C,dx,_,ae,TC.cl,TC.n3,ab5 (ln _ _ _ _ (ln _ _ _ _ (ac1 0))) ∅,C,dx,_,ae,TC.cl,TC.n4,ab5 (ln _ _ _ _ (ln _ _ _ _ (ln _ _ _ _ (ac1 0)))) ∅,?_⟩;rw [bS,bS,bS];exact k
theorem pX(F:cc K "size" "Every.size" ik f fd)(TC:iP K C): ~~~aG bV 1 f fd ["self"] (pd (eT C row t u RIn) (.int t)):=by
 refine F.ok qm λ_ A _ s H vs Q E hr h=>?_;obtain⟨r,rfl,⟨dx,ri,hr1,_⟩,k⟩:=h;refine⟨rfl,_,(ai (av (aL (pr 0) rfl))),?_⟩;tm_at "r"
 have l2:(cK row t u ri).lookup (Str.ofString "turns")=⇑t:=by unfold cK;tm_at "f"
 exact⟨C,dx,_,hr1,TC.cl,TC.n2,_,l2,k⟩
theorem oo{Cn:Addr}{S:bU}{G:Int->Prop}(F:cc K "after" "Every.after" gD f fd)(T:Txt mg aM)(TC:iP K C)(ht:0 < t)(R: ~~~bp 4 nv Cn S RIn G): ~~~aG bV 5 f fd ["self","memory","before","column"] (bB K nv (eT C row t u RIn) (eA t u S) (nX t)):=by
 refine F.ok oK λ_ A _ s H vs Q E hr h=>?_;obtain⟨r,m,x,c,bb,us,rfl,⟨dx,ri,hr1,hin⟩,_,hbv,hc,hu,k⟩:=h
 refine⟨rfl,_,(af (aS (PW.pt (ic (aX (ax mD (pr 1) (aL (pr 0) rfl) (ay _))) (gn (aX (ax c7 (~~~fc hr (aL (pr 0) rfl) (aa (~~~dX hr (aL (pr 0) rfl)) (aa (pr 2) (aa (pr 3) ag)))) aH (ay _)))))) (ai (av aH)) aB)
 (ai (av (au (o1 bF) (au (bL K) (pr 1) ah) (aL (pr 0) rfl))))),?_⟩
 refine iJ λRk rk=>?_;tm_at "r"
 have l2:(cK row t u ri).lookup (Str.ofString "turns")=⇑t:=by unfold cK;tm_at "f"
 have l3:(cK row t u ri).lookup (Str.ofString "turn")=⇑u:=by unfold cK;tm_at "f"
 have l4:(cK row t u ri).lookup (Str.ofString "inner")=↑ri:=by unfold cK;tm_at "f"
 refine⟨C,dx,_,hr1,TC.cl,TC.n3,_,l3,?_⟩;tm_at "r";obtain⟨dx2,fs,hir,q1,q2,q3,q4,q5⟩:=R.ins ri H hin;simp only [eA]at k
 by_cases hm:m=u
 ·rw [if_pos hm]
  rw [if_pos hm]at k;refine⟨C,dx,_,hr1,TC.cl,TC.n4,_,l4,ri,rfl,Cn,dx2,fs,hir,q3,_,_,R.after,C,dx,_,hr1,TC.cl,TC.n4,_,l4,ri,rfl,Cn,dx2,fs,hir,q2,_,_,R.start,ri,rfl,hin,ri,_,x,c,bb,us,rfl,hin,R.g0,hbv,hc,hu,?_⟩
  cases ha:S.after S.start bb us with
  | none=>
   rw [if_pos (show EE none=V.non from rfl)];rw [ha,if_pos rfl]at k;exact k
  | some m'=>
   rw [if_neg (show ¬(EE (some m')=V.non)from λz=>by cases z)];rw [ha,if_neg (λz=>by cases z)]at k;refine rk _ _ ?_;tm_at "r";exact⟨C,dx,_,hr1,TC.cl,TC.n2,_,l2,_,rfl,ht,k⟩
 ·rw [if_neg hm]
  rw [if_neg hm]at k;refine rk _ _ ?_;tm_at "r";exact⟨C,dx,_,hr1,TC.cl,TC.n2,_,l2,_,rfl,ht,k⟩
theorem yo{Cn:Addr}{S:bU}{G:Int->Prop}(ht:0 < t)(TC:iP K C)(R: ~~~bp 4 nv Cn S RIn G)(h1: ~~~aC C "size" 7 ["self"] (pd (eT C row t u RIn) (.int t)))(h2: ~~~aC C "start" 7 ["self"] (cG 1 λ_=>.int 0))(h3: ~~~aC C "closes" 7 ["self","memory","last"] (cG 3 λ_=>.bl true))
  (h4: ~~~aC C "after" 7 ["self","memory","before","column"] (bB K nv (eT C row t u RIn) (eA t u S) (nX t))): ~~~bp 7 nv C (eA t u S) (eT C row t u RIn) (nX t):=by
 refine⟨λr H H' s h=>?_,λr H h=>?_,⟨show(0:Int)<=0 by decide,show(0:Int) < t by omega⟩,λm b us m' hm e=>?_,h1,h2.imp ?_,h4,h3.imp ?_⟩
 ·obtain⟨dx,ri,e1,e2⟩:=h
  exact⟨dx,ri,s _ _ e1,R.mono _ _ _ s e2⟩
 ·obtain⟨dx,ri,e1,e2⟩:=h
  refine⟨dx,_,e1,?_,?_,?_,?_,?_⟩<;>(unfold cK;tm_at "f")
 ·simp only [eA]at e
  have hb:nX t ((m+1) % t):=⟨ae2 _ (),ad7 _ ht⟩
  split at e
  ·split at e
   ·cases e
   ·cases e;exact hb
  ·cases e;exact hb
 ·rintro vs H Q E ⟨r,rfl,_,q⟩
  exact⟨rfl,q⟩
 ·rintro vs H Q E ⟨r,m,x,b,rfl,_,_,_,q⟩
  exact⟨rfl,q⟩
theorem qe{aI:Addr}(F:cc K "every_rule" "every_rule" iz f fd)(T:FJ mg aM aI)(hI:zw K aI [.str "span",.str "clock"])(D_is_number: ~~~cN "is_number" 8 ["word"] rC)(D_plain_rule: ~~~cN "plain_rule" 8 ["row","voices"] (~~~kT aM 7))(DM_Every: ~~~iR "Every" C 7 ["self","row","turns","turn","inner"] (mJ K C)): ~~~aG bV 9 f fd ["row","voices"] (~~~tF aM C 7):=by
 refine F.ok sc_every_rule λ_ A _ s H vs Q E hr h=>?_;obtain⟨row,rest,kind,t,u,ns,nv,D,g,sp,RIn,rfl,RE,R,hkd,u0,u1,tab,hg,fn,k,mono,kq⟩:=h
 refine⟨rfl,_,(af (cW (i:=2) sc_every_rule.nd (bQ K PySem.F.plainAttrs_str PySem.F.slot_str_split PySem.F.type_str_split yF (pr 0) (aa bO (aa ah ag))))
 (af (aS (PW.pt (cA (aX (ax yI (aA (aJ K) ⋯ T.n_len boot_len (aa (pr 2) ag)) ah (ay _))) (cA (bX (aZ (az D_is_number hr ⋯ (aa (aD (aW K) (pr 2) ah (λ_ _=>rfl)) ag)) (λ_=>rfl))) (cv (bX (aZ (az D_is_number hr ⋯ (aa (aD (aW K) (pr 2) ah (λ_ _=>rfl)) ag)) (λ_=>rfl))))))) (ai (av aH)) aB)
 (af (cW (i:=3) sc_every_rule.nd (bo (fK) ⋯ T.n_int boot_int (aa (aD (aW K) (pr 2) ah (λ_ _=>rfl)) ag)))
 (af (cW (i:=4) sc_every_rule.nd (bo (fK) ⋯ T.n_int boot_int (aa (aD (aW K) (pr 2) ah (λ_ _=>rfl)) ag)))
 (af (aS (PW.pt (cA (bX (aX (AY (o0 kG) (o0 kF) ah (pr 4) (pr 3)))) (cv (aX (ax (AN K) (aD (aW K) (bQ K PySem.F.plainAttrs_str PySem.F.slot_str_split PySem.F.type_str_split kA (aD (aW K) (pr 2) ah (λ_ _=>rfl)) (aa bO ag)) ah (λ_ _=>rfl)) (iN T.g_INNER_KINDS) (by with_unfolding_all rfl)))))) (ai (av aH)) aB)
 (af (cW (i:=5) sc_every_rule.nd (az D_plain_rule hr ⋯ (aa (aD (aW K) (pr 2) ah (λ_ _=>rfl)) (aa (pr 1) ag))))
 (ai (av (cE (aX (ax c7 (pr 5) aH (ay _))) aH (iL DM_Every hr ⋯ (aa (pr 0) (aa (pr 3) (aa (pr 4) (aa (pr 5) ag)))))))))))))),?_⟩
 have hs:=sizeLine_eq;have hl:=RE.len;refine aV (λZ H'=>∃p:Addr,H' p=some (.lst ([Str.ofString "every",ba t,ba u,rest].map V.str))/\Z=[some (.str row),⇑nv,↑p,none,none,none]/\ar H H') ?_ ?_
 ·intro u' hu
  tm_at "r";refine⟨32,by decide +kernel,∅,∅,∅,RE.pos,(),?_,λp hp=>?_⟩
  ·rw [show Int.toNat 3=3 from rfl,RE.split];show 4<=_;omega
  ·rw [show Int.toNat 3=3 from rfl,RE.split]
   exact hu _ _ ⟨p,ae,rfl,aq hp⟩
 rintro Ω ω _ H0 ⟨p,hp0,rfl,s0⟩;have a0:aF K H0 p ([Str.ofString "every",ba t,ba u,rest].map V.str):=aF.of hp0
 have num:∀{n:Int} {H1:Hp} {Q':VK},n.natAbs < 10 ^ 40->(∀H',ar H1 H'->Q' (.bl true) H')->rC [.str (ba n)] H1 Q' E0:=λ{n H1 Q'} hn hq=>by
  refine⟨ba n,rfl,?_,λH' s'=>?_⟩
  ·have:=dC hn;omega
  ·rw [show(ba n).cps.toList=ia n from rfl,lE hn]
   exact hq H' s'
 refine ω _ _ (aV (λZ H'=>Z=[some (.str row),⇑nv,↑p,none,none,none]/\ar H0 H') ?_ ?_)
 ·intro u' hu
  tm_at "r";refine⟨_,.inl a0,?_⟩;tm_at "r";rw [if_pos (show(((0:Nat)+1+1+1+1:Nat):Int)=4 from rfl)];refine aR a0 (show fC _ ((1:Nat):Int)=_ from aE rfl) (num RE.tb λH1 s1=>?_);tm_at "r";refine aR (s1.seq a0) (show fC _ ((2:Nat):Int)=_ from aE rfl) (num RE.ub λH2 s2=>?_);tm_at "r";exact hu _ _ ⟨rfl,s1.trans s2⟩
 clear a0;rintro Ω ω _ H1 ⟨rfl,s01⟩;have s1:=s0.trans s01;have a1:aF K H1 p ([Str.ofString "every",ba t,ba u,rest].map V.str):=aF.of (s01 _ _ hp0);have int':∀{n:Int},n.natAbs < 10 ^ 40->intText? (ba n)=some n/\(ba n).length<=640:=λ{n} hn=>⟨nc (ab6 hn (ak1 ∅ ∅)),by have:=dC hn;omega⟩;refine ω _ _ (aV (λZ H'=>Z=[some (.str row),⇑nv,↑p,⇑t,none,none]/\H1=H') ?_ ?_)
 ·intro u' hu
  tm_at "r";refine aR a1 (show fC _ ((1:Nat):Int)=_ from aE rfl) ?_;tm_at "r";exact⟨t,(int' RE.tb).1,(int' RE.tb).2,hu _ _ ⟨rfl,rfl⟩⟩
 rintro Ω ω _ _ ⟨rfl,rfl⟩;refine ω _ _ (aV (λZ H'=>Z=[some (.str row),⇑nv,↑p,⇑t,⇑u,none]/\H1=H') ?_ ?_)
 ·intro u' hu
  tm_at "r";refine aR a1 (show fC _ ((2:Nat):Int)=_ from aE rfl) ?_;tm_at "r";exact⟨u,(int' RE.ub).1,(int' RE.ub).2,hu _ _ ⟨rfl,rfl⟩⟩
 rintro Ω ω _ _ ⟨rfl,rfl⟩;have hrl:=RE.rl;refine ω _ _ (aV (λZ H'=>Z=[some (.str row),⇑nv,↑p,⇑t,⇑u,none]/\ar H1 H') ?_ ?_)
 ·intro u' hu
  tm_at "r";rw [if_pos u0,if_pos u1];refine aR a1 (show fC _ ((3:Nat):Int)=_ from aE rfl) ?_;tm_at "r";refine⟨32,by decide +kernel,∅,(),λp1 hp1=>?_⟩;rw [R.split];have s':ar H1 (upd H1 p1 (.lst ((kind::ns.map ba).map V.str))):=aq hp1;refine aR (aF.of ae) (bC rfl) (uJ (ws:=[Str.ofString "span",Str.ofString "clock"]) (hI.at _) ⟨_,rfl,?_⟩)
  rw [decide_eq_true (show kind∈[Str.ofString "span",Str.ofString "clock"]by rcases hkd with rfl | rfl<;>simp),if_neg (by exact ab3)]
  exact hu _ _ ⟨rfl,s'⟩
 rintro Ω ω _ H2 ⟨rfl,s12⟩;have s2:=s1.trans s12;have a2:aF K H2 p ([Str.ofString "every",ba t,ba u,rest].map V.str):=s12.seq a1;refine ω _ _ (aV (λZ H'=>∃ri:Addr,RIn ri H'/\Z=[some (.str row),⇑nv,↑p,⇑t,⇑u,↑ri]/\ar H H') ?_ ?_)
 ·intro u' hu
  tm_at "r";refine aR a2 (show fC _ ((3:Nat):Int)=_ from aE rfl) ?_;refine⟨rest,kind,ns,nv,D,g,sp,λv H''=>∃ri,v=.ref ri/\ar H H''/\RIn ri H'',rfl,R,tab,hg,fn,λq H' Q' sm hq hres=>k q H' Q' (s2.trans sm) hq λri H'' s'' hri=>hres _ _ ⟨ri,rfl,s'',hri⟩,?_⟩;rintro v H' ⟨ri,rfl,s',hri⟩;exact hu _ _ ⟨ri,hri,rfl,s'⟩
 rintro Ω ω _ H3 ⟨ri,hri,rfl,s3⟩;refine ω _ _ ?_;tm_at "r";show ∀x dx:Addr,_;intro x dx hx hdx hne;have s5:ar H (upd (upd H3 dx (.own x)) x (.ins C dx [])):=(s3.upd hdx).upd (by rw [aj (Ne.symm hne)];exact hx)
 have s35:ar H3 (upd (upd (upd H3 dx (.own x)) x (.ins C dx [])) x (.ins C dx (cK row t u ri))):=λc o hc=>by
  have n1:c≠x:=ao hc hx;rw [aj n1,aj n1,aj (ao hc hdx)];exact hc
 refine⟨x,dx,ri,row,t,u,rfl,ae,rfl,?_⟩;exact kq x _ (s3.trans s35) ⟨dx,ri,ae,mono _ _ _ s35 hri⟩
theorem qh(F:nE K "read_rule" "read_rule" gp f fd T0)(T:Txt mg aM)(D_plain_rule: ~~~cN "plain_rule" 9 ["row","voices"] (~~~kT aM 7))(D_every_rule: ~~~cN "every_rule" 9 ["row","voices"] (~~~tF aM C 7)): ~~~aG bV 10 f fd ["text","voices","row"] (~~~xH aM C 7):=by
 refine F.ok sc_read_rule λ_ A _ s H vs Q E hr h=>?_;obtain⟨row,nv,z,rfl,⟨rest,t,u,RE⟩,k⟩:=h
 refine⟨rfl,_,(af (cW (i:=3) sc_read_rule.nd (cE (aZ (bQ K PySem.F.plainAttrs_str PySem.F.slot_str_startswith PySem.F.type_str_startswith gu (pr 0) (aa bO ag)) (λ_=>rfl)) (az D_every_rule hr ⋯ (aa (pr 0) (aa (pr 1) ag))) (az D_plain_rule hr ⋯ (aa (pr 0) (aa (pr 1) ag)))))
 (af (aS (aX (ax c7 (pr 3) aH (ay _))) (ai kH) aB)
 (ai (av (pr 3))))),?_⟩
 tm_at "r";rw [RE.starts,if_pos rfl];obtain⟨row',rest',kind,t',u',ns,nv',D,g,sp,RIn,e,k⟩:=k;refine⟨row',rest',kind,t',u',ns,nv',D,g,sp,RIn,e,?_⟩;obtain⟨k1,k2,k3,k4,k5,k6,k7,k8,k9,k10,k11⟩:=k;refine⟨k1,k2,k3,k4,k5,k6,k7,k8,k9,k10,λr H' s' hr=>?_⟩;obtain⟨hn,q⟩:=k11 r H' s' hr;rw [if_neg hn];exact q
theorem vS(F:cc K "_law_stirred" "_law_stirred" gJ f fd)(T:Txt mg aM): ~~~aG bV 1 f fd ["_law_cell","_law_place"] rE:=by
 refine F.ok sc_law_stirred λ_ A _ s H vs Q E hr h=>?_;obtain⟨c,p,rfl,k⟩:=h
 refine⟨rfl,_,(af (cW (i:=2) sc_law_stirred.nd ah)
 (af (cW (i:=3) sc_law_stirred.nd (au (bL K) (au (o1 bF) (au (bL K) (au (o1 bF) (pr 0) ah) (au (ib K) ah (pr 1))) ah) ah))
 (af (bW PassesOwn.never rfl (c8 rfl T.n_range (aa ah ag)) (gd (i:=4) sc_law_stirred.nd)
 (af (gx (aA (iW) ⋯ T.n_divmod boot_divmod (aa (pr 3) (aa ah ag))) (cR K (n:=2) rfl (aO (gd (i:=5) sc_law_stirred.nd) (aO (gd (i:=6) sc_law_stirred.nd) cS))))
 (af (cW (i:=3) sc_law_stirred.nd (au (o1 bF) (au (bL K) (au (bL K) (au (bL K) (au (ib K) (pr 6) ah) (au (ib K) (pr 5) ah)) (au (ib K) ah (pr 4))) ah) ah))
 (ai (cW (i:=2) sc_law_stirred.nd (au (bL K) (au (ib K) (pr 2) ah) (pr 3)))))))
 (ai (av (pr 2)))))),?_⟩
 tm_at "r";refine⟨∅,.of_left ∅,∅,∅,∅,?_⟩;refine de (n:=4) (λi Z H'=>∃o4 o5 o6,Z=[⇑c,⇑p,some (.int (GM.stirSt c p i).1),some (.int (GM.stirSt c p i).2),o4,o5,o6]/\ar H H') ⟨none,none,none,rfl,ar.refl H⟩ ?_ ?_
 ·rintro i Z H1 hi ⟨o4,o5,o6,rfl,sm⟩
  refine iJ λRk rk=>?_;tm_at "r";refine⟨⟨∅,∅⟩,λq hq=>⟨_,cT.of ae,rfl,?_⟩⟩;tm_at "r";refine rk _ _ ?_;tm_at "r";refine⟨.of_right ∅,.of_right ∅,.of_left ∅,∅,.of_right ∅,?_⟩;exact⟨rfl,rfl,sm.upd hq⟩
 ·rintro Z H1 ⟨o4,o5,o6,rfl,sm⟩
  tm_at "r";exact k _ sm
theorem EG(F:cc K "_law_got" "_law_got" lU f fd)(T:Txt mg aM)(D_law_stirred: ~~~cN "_law_stirred" 1 ["_law_cell","_law_place"] rE): ~~~aG bV 2 f fd ["_law_script","_law_place"] (rz K):=by
 refine F.ok sc_law_got λ_ A _ s H vs Q E hr h=>?_;obtain⟨a,ns,p,rfl,hS,hB,hp0,hp1,k⟩:=h
 refine⟨rfl,_,(af (bW PassesOwn.never rfl (bI K (bK (gf K) (pr 0) (fY (pr 1)) (fY (au (bL K) (pr 1) ah)))) (gd (i:=2) sc_law_got.nd)
 (af (cW (i:=3) sc_law_got.nd ah)
 (af (uF PassesOwn.never (aX (ax (o0 kG) (pr 3) (aA (ko) ⋯ T.n_abs boot_abs (aa (pr 2) ag)) (ay _))) (ai (cW (i:=3) sc_law_got.nd (au (ib K) (pr 3) (au (o1 jJ) ah ah)))))
 (ai (av (au (bL K) (aA (ko) ⋯ T.n_abs boot_abs (aa (pr 2) ag)) (au (ib K) (pr 3) (az D_law_stirred hr ⋯ (aa (aA (ko) ⋯ T.n_abs boot_abs (aa (pr 2) ag)) (aa (pr 1) ag))))))))))
 (ai (av ah))),?_⟩
 tm_at "r";refine cX hS λq hq=>?_;show Dj _ _ _ _;rw [zF _ hp0,aa5]
 cases hc:ns[p.toNat]? with
 | none=>
  refine bJ (aF.of ae) (yB (aF.of ae) ?_);tm_at "r"
  have e:GM.gotF ns p=0:=by unfold GM.gotF;rw [hc]
  rw [<-e];exact k _ (aq hq)
 | some c=>
  have e:GM.gotF ns p=GM.absI c+GM.powF c * GM.stirF (GM.absI c) p:=by unfold GM.gotF;rw [hc]
  have hcB:=hB c (ab8 hc);refine bJ (aF.of ae) (cq (xs:=[.int c]) (λi Z H'=>i=0/\Z=[↑a,⇑p,none,none]/\H'=upd H q (.lst [.int c])) ⟨rfl,rfl,rfl⟩ (λi Z H' _ h=>by rw [h.2.2];exact aF.of ae) ?_ (λZ H' h=>by cases h.1));rintro i x Z H' hx ⟨rfl,rfl,rfl⟩;cases hx;tm_at "r";refine⟨λm Z H'=>∃pw,Z=[↑a,⇑p,⇑c,⇑pw]/\ar H H'/\0 < pw/\GM.absI c < pw+m/\GM.powGo m pw (GM.absI c)=GM.powF c,⟨(GM.absI c).toNat+1,1,rfl,aq hq,∅,(),rfl⟩,?_⟩;rintro m Z H' ⟨pw,rfl,sm,h0,h1,h2⟩;tm_at "r";have ea:(if c < 0 then -c else c)=GM.absI c:=rfl;rw [ea]
  by_cases hle:pw<=GM.absI c
  ·rw [if_pos hle]
   obtain⟨m',rfl⟩:∃m',m=m' + 1:=⟨m - 1,()⟩;refine⟨λZc H'=>Zc=[↑a,⇑p,⇑c,⇑(pw * 1000000)]/\ar H H',?_,?_⟩
   ·rintro Zc H'' ⟨rfl,sm'⟩
    refine⟨m',ak3 _,pw * 1000000,rfl,sm',(),(),?_⟩;rw [<-h2];simp only [GM.powGo];rw [if_pos hle]
   ·tm_at "r"
    exact⟨⟨∅,∅,∅⟩,.of_right ∅,rfl,sm⟩
  ·rw [if_neg hle]
   rw [GM.powGo_stop hle]at h2;subst h2;tm_at "r";refine⟨_,_,rfl,λH2 s2=>?_⟩;tm_at "r";refine⟨.of_le (intBits_le_iff.mpr (GM.powF_lt hcB)) (intBits_le_iff.mpr (GM.stirF_natAbs _ _)) ∅,?_⟩;rw [<-e];exact k _ (sm.trans s2)
theorem AF(F:cc K "_law_cells" "_law_cells" jf f fd)(T:Txt mg aM)(D_law_got: ~~~cN "_law_got" 2 ["_law_script","_law_place"] (rz K)): ~~~aG bV 3 f fd ["_law_script","_law_first","_law_last"] (xD K):=by
 refine F.ok tq λ_ A _ s H vs Q E hr h=>?_;obtain⟨a,ns,lo,hi,rfl,hS,hB,hn,h1,h2,h3,h4,k⟩:=h;refine⟨rfl,_,(ai (av (cQ (own:=["_law_k"]) (js:=[0]) rfl (yV rfl T.n_range (aa (pr 1) (aa (aA (ya rfl) ⋯ T.n_min boot_min (aa (pr 2) (aa (aA (aJ K) ⋯ T.n_len boot_len (aa (pr 0) ag)) ag))) ag))) (bG.of ⋯) (λ_ _ _ _ _=>(bN (i:=0) (show List.Nodup (["_law_k","_law_script"]:List Str)from by decide +kernel) rfl (Or.inl rfl))) (λ_ _ _ _ _=>cI) (λ_ _ _ _ _=>(az D_law_got hr ⋯ (aa (pr 1) (aa (pr 0) ag))))))),?_⟩;tm_at "r";refine⟨_,.inl hS,?_⟩;tm_at "r"
 have hb:0<=(if (ns.length:Int) < hi then(ns.length:Int)else hi)/\(if (ns.length:Int) < hi then(ns.length:Int)else hi)<=100:=by split<;>omega
 have hs:=sizeLine_eq;refine⟨(),(),(),(),e8 (λi ys H'=>ys=((List.range i).map λ(j:Nat)=>V.int (GM.gotF ns (lo+j)))/\ar H H') () ⟨rfl,ar.refl _⟩ (λi ys H' h=>by rw [h.1];simp) ?_ ?_⟩
 ·rintro i ys H1 hi ⟨rfl,sm⟩
  tm_at "r";refine⟨a,ns,lo+i,rfl,sm.seq hS,hB,(),(),λH2 s2=>?_⟩;exact⟨by rw [List.range_succ,ab7];rfl,sm.trans s2⟩
 ·rintro ys H1 ⟨rfl,sm⟩ q hq
  exact k q _ (by rw [ae];unfold GM.cellsF;rw [ai6];rfl) (sm.upd hq)
theorem sM(F:cc K "memories_after" "memories_after" eQ f fd)(T:Txt mg aM): ~~~aG bV 8 f fd ["rules","memories","before","column"] (~~~j0):=by
 refine F.ok sc_memories_after λ_ A _ s H vs Q E hr h=>?_;obtain⟨rb,ma,ca,bx,nv,Ss,Gs,rs,ms,c,b,rfl,RM,lS,hma,hM,hb,hc,hcl,k1,k2⟩:=h
 refine⟨rfl,_,(af (cW (i:=4) sc_memories_after.nd (bu ag))
 (af (bW PassesOwn.never rfl (oA rfl T.n_enumerate (aa (pr 0) ag)) (cR K (n:=2) rfl (aO (gd (i:=5) sc_memories_after.nd) (aO (gd (i:=6) sc_memories_after.nd) cS)))
 (af (cW (i:=7) sc_memories_after.nd (~~~fc hr (pr 6) (aa (aD (aW K) (pr 1) (pr 5) (λ_ _=>rfl)) (aa (pr 2) (aa (pr 3) ag)))))
 (af (aS (aX (ax c7 (pr 7) aH (ay _))) (ai (av aH)) aB)
 (ai (bq (bQ K PySem.F.plainAttrs_list PySem.F.slot_list_append PySem.F.type_list_append bT (pr 4) (aa (pr 7) ag)))))))
 (ai (av (bo (iX K) ⋯ T.n_tuple boot_tuple (aa (pr 4) ag)))))),?_⟩
 have hs:=sizeLine_eq;have lr:=RM.len;have lg:=RM.gl;have lm:=hM.1
 have lres:(mV Ss ms b c).length=Ss.length:=by
  unfold mV;rw [List.length_zipWith];omega
 refine aV (λZ H'=>∃q:Addr,H q=none/\H' q=some (.lst [])/\Z=[↑rb,↑ma,some bx,↑ca,↑q,none,none,none]/\ar H H') ?_ ?_
 ·intro u' hu
  tm_at "r";exact⟨(),λq hq=>hu _ _ ⟨q,hq,ae,rfl,aq hq⟩⟩
 rintro Ω ω _ H1 ⟨q,hq0,hq1,rfl,s1⟩;refine ω _ _ (aV (λZ H'=>∃(r:List Int) (o5 o6 o7:Option V),mV Ss ms b c=r.map some/\H' q=some (.lst (r.map V.int))/\Z=[↑rb,↑ma,some bx,↑ca,↑q,o5,o6,o7]/\ar H H') ?_ ?_)
 ·intro u' hu
  tm_at "r";obtain⟨Pv,hPv⟩:∃Pv:Nat->L2.St->Hp->Prop,Pv=λi Z H'=>∃(r:List Int) (o5 o6 o7:Option V),(mV Ss ms b c).take i=r.map some/\r.length=i/\H' q=some (.lst (r.map V.int))/\Z=[↑rb,↑ma,some bx,↑ca,↑q,o5,o6,o7]/\ar H H':=⟨_,rfl⟩;refine⟨true,⟨_,s1.seq RM.sq⟩,jH (l:=true) (us:=rs.map V.ref) Pv (by rw [hPv];exact⟨[],none,none,none,rfl,rfl,hq1,rfl,s1⟩) (λi Z H' _ h=>?_) ?_ ?_⟩
  ·rw [hPv]at h
   obtain⟨_,_,_,_,_,_,_,_,s'⟩:=h;exact s'.seq RM.sq
  ·intro i y Z H2 p hx hI hp0
   rw [hPv]at hI;obtain⟨r,o5,o6,o7,hr1,hrl,hq2,rfl,s2⟩:=hI;rw [aa5]at hx
   cases hri:rs[i]? with
   | none=>rw [hri]at hx;cases hx
   | some ra=>
    rw [hri]at hx;cases hx
    have hi:i < Ss.length:=by rw [<-lr];exact(aa3.mp hri).1
    obtain⟨S,hS⟩:∃S,Ss[i]?=some S:=⟨_,aa2 hi⟩;obtain⟨G,hG⟩:∃G,Gs[i]?=some G:=⟨_,aa2 ()⟩;obtain⟨m,hm⟩:∃m,ms[i]?=some m:=⟨_,aa2 ()⟩
    have hres:(mV Ss ms b c)[i]?=some (S.after m b c):=by
     unfold mV;rw [al9,hS,hm]
    have s3:ar H (upd H2 p (.tup [.int i,.ref ra])):=s2.upd hp0;have hq3:=(aq (o:=HO.tup [.int i,.ref ra]) hp0) _ _ hq2;have s23:=aq (o:=HO.tup [.int i,.ref ra]) hp0;tm_at "r";refine⟨_,cT.of ae,rfl,?_⟩;tm_at "r";generalize upd H2 p (.tup [.int i,.ref ra])=H3 at s3 hq3 s23;obtain⟨C,RI,RO,hRI⟩:=(RM.same s3).at_ i ra S G hri hS hG;obtain⟨dx,fs,hir,z1,z2,z3,z4,z5⟩:=RO.ins ra H3 hRI;refine⟨C,dx,fs,hir,z3,_,_,RO.after,eD (s3.tup hma) (aE (by rw [aa5,hm];rfl)) ⟨ra,m,bx,ca,b,c,rfl,hRI,hM.2 i G m hG hm,hb.same s3,s3.tup hc,hcl,?_⟩⟩
    cases ha:S.after m b c with
    | none=>
     show if EE none=V.non then _ else _;rw [if_pos (show EE none=V.non from rfl)];exact k1 (rm (i:=i) (by rw [hres,ha])) _ s3
    | some m'=>
     show if EE (some m')=V.non then _ else _;rw [if_neg (show ¬(EE (some m')=V.non)from λz=>by cases z)];refine⟨.inl ⟨rfl,_,aF.of hq3⟩,q,_,_,rfl,rfl,hq3,by rw [aa1];omega,?_⟩;rw [hPv];refine⟨r++[m'],_,_,_,?_,by rw [ab2,hrl];rfl,?_,rfl,BI hq0 s3⟩
     ·rw [ac5,hr1,hres,ha,ab7]
      rfl
     ·rw [ae,ab7]
      rfl
  ·intro Z H2 hI
   rw [hPv]at hI;obtain⟨r,o5,o6,o7,hr1,hrl,hq2,rfl,s2⟩:=hI;rw [aa1,lr,<-lres,ad4]at hr1;exact hu _ _ ⟨r,o5,o6,o7,hr1,hq2,rfl,s2⟩
 rintro Ω ω _ H2 ⟨r,o5,o6,o7,hr1,hq2,rfl,s2⟩;refine ω _ _ ?_;tm_at "r";have hsome:=rq hr1;refine⟨_,.inl ⟨aF.of hq2,λp hp=>k2 r hsome ⟨?_,λj G m' hG hm'=>?_⟩ p _ ae (s2.free hp) (s2.upd hp)⟩⟩
 ·have:=congrArg List.length hr1
  rw [aa1]at this;omega
 ·have hj:j < Gs.length:=(aa3.mp hG).1
  obtain⟨S,hS⟩:∃S,Ss[j]?=some S:=⟨_,aa2 ()⟩;obtain⟨m,hm⟩:∃m,ms[j]?=some m:=⟨_,aa2 ()⟩;obtain⟨ra,hra⟩:∃ra,rs[j]?=some ra:=⟨_,aa2 ()⟩;obtain⟨C,RI,RO,_⟩:=RM.at_ j ra S G hra hS hG
  have hres:(mV Ss ms b c)[j]?=some (S.after m b c):=by
   unfold mV;rw [al9,hS,hm]
  rw [hr1,aa5,hm']at hres;exact RO.gS m b c m' (hM.2 j G m hG hm) (Option.some.inj hres).symm
theorem sL(F:cc K "all_close" "all_close" jd f fd)(T:Txt mg aM): ~~~aG bV 8 f fd ["rules","memories","last"] (~~~oT):=by
 refine F.ok tj λ_ A _ s H vs Q E hr h=>?_;obtain⟨rb,ma,bx,nv,Ss,Gs,rs,ms,b,rfl,RM,lS,hma,hM,hb,k⟩:=h;refine⟨rfl,_,(ai (av (aA (gT K rfl) ⋯ T.n_all boot_all (aa (cQ (own:=["rule","memory"]) (js:=[2]) rfl (EV rfl T.n_zip (aa (pr 0) (aa (pr 1) ag))) (bG.of ⋯) (λ_ _ _ _ _=>(cR K (n:=2) rfl (aO (bN (i:=0) (show List.Nodup (["rule","memory","last"]:List Str)from by decide +kernel) rfl (Or.inl rfl)) (aO (bN (i:=1) (show List.Nodup (["rule","memory","last"]:List Str)from by decide +kernel) rfl (Or.inl rfl)) cS)))) (λ_ _ _ _ _=>cI) (λ_ _ _ _ _=>(~~~fc hr (pr 0) (aa (pr 1) (aa (pr 2) ag))))) ag)))),?_⟩;have hs:=sizeLine_eq;have lr:=RM.len;have lg:=RM.gl;have lm:=hM.1;tm_at "r";refine⟨true,⟨_,RM.sq⟩,false,⟨_,hma⟩,yf (l1:=true) (l2:=false) (us:=rs.map V.ref) (vs:=ms.map V.int) (λi ys H'=>ys=((List.zipWith (λS m=>S.closes m b) Ss ms).take i).map V.bl/\ar H H') (by rw [aa1];omega) (by rw [aa1,aa1];omega) ⟨rfl,ar.refl _⟩ ?_ ?_ ?_ ?_⟩
 ·rintro i ys H' ⟨rfl,_⟩
  rw [aa1,ad1];omega
 ·rintro i ys H' ⟨rfl,s'⟩
  exact⟨s'.seq RM.sq,s'.tup hma⟩
 ·rintro i x y ys H1 p hx hy ⟨rfl,s1⟩ hp
  rw [aa5]at hx hy
  cases hri:rs[i]? with
  | none=>rw [hri]at hx;cases hx
  | some ra=>
   cases hm:ms[i]? with
   | none=>rw [hm]at hy;cases hy
   | some m=>
    rw [hri]at hx;rw [hm]at hy;cases hx;cases hy
    have hi:i < Ss.length:=by rw [<-lr];exact(aa3.mp hri).1
    obtain⟨S,hS⟩:∃S,Ss[i]?=some S:=⟨_,aa2 hi⟩;obtain⟨G,hG⟩:∃G,Gs[i]?=some G:=⟨_,aa2 ()⟩;have s2:ar H (upd H1 p (.tup [.ref ra,.int m])):=s1.upd hp;simp only [e7];tm_at "r";refine⟨_,cT.of ae,rfl,?_⟩;tm_at "r";generalize upd H1 p (.tup [.ref ra,.int m])=H2 at s2;obtain⟨C,RI,RO,hRI⟩:=(RM.same s2).at_ i ra S G hri hS hG;obtain⟨dx,fs,hir,z1,z2,z3,z4,z5⟩:=RO.ins ra H2 hRI;refine⟨C,dx,fs,hir,z4,_,_,RO.closes,ra,m,bx,b,rfl,hRI,hM.2 i G m hG hm,hb.same s2,?_⟩
    have hz:(List.zipWith (λS m=>S.closes m b) Ss ms)[i]?=some (S.closes m b):=by rw [al9,hS,hm]
    refine⟨?_,s2⟩;rw [ac5,hz,ab7];rfl
 ·rintro ys H1 ⟨rfl,s1⟩ p hp
  refine⟨_,aF.of ae,?_⟩;rw [aa1];have e:(List.zipWith (λS m=>S.closes m b) Ss ms).take rs.length=List.zipWith (λS m=>S.closes m b) Ss ms:=ah6 (by rw [List.length_zipWith];omega);rw [e];exact k _ (s1.upd hp)
structure iO(P:Program)(w:World)(Ss:List bU)(Gs:List (Int->Prop))(cols:List (List Int))(nv:Nat)(U:List MS)(H:Hp)(ma na la wa:Addr)(H':Hp)(met:List MS)(ds:List Addr):Prop where
 mt:∃ps:List Addr,H' ma=some (.lst (ps.map V.ref))/\ps.length=met.length/\∀(j:Nat) (p:Addr) (s:MS),ps[j]?=some p->met[j]?=some s->(iM P w).at_ H' (cg s) p
 nm:∃xs,bH (iM P w) H' na xs/\kg met xs/\xs.length<=met.length
 la_:H' la=some (.lst (ds.map V.ref))
 ld:∀(i:Nat) (d:Addr) (s:MS),ds[i]?=some d->met[i]?=some s->∃xs,bH (tN P w) H' d xs/\ef Ss cols met s xs
 fr:∀d∈ds,H d=none
 wl:H' wa=some (.lst ((met.take ds.length).map λs=>V.bl (dG Ss s.2 s.1)))
 le:ds.length<=met.length
 mf:w6 Ss cols met
 al:∀s∈met,s∈U/\rQ Gs s.2/\∀c,s.1=some c->c.length=nv
 sx:xg [ma,na,la,wa] H H'
section
variable {U:List MS} {H'':Hp} {ma na la wa:Addr} {ds:List Addr}
theorem iO.same(B:iO P w Ss Gs cols nv U H ma na la wa H' met ds)(s:ar H' H''):iO P w Ss Gs cols nv U H ma na la wa H'' met ds where
 mt:=let ⟨ps,h1,h2,h3⟩:=B.mt;⟨ps,s _ _ h1,h2,λj p t e1 e2=>(iM P w).same s (h3 j p t e1 e2)⟩
 nm:=let ⟨xs,h1,h2,h3⟩:=B.nm;⟨xs,h1.same s,h2,h3⟩
 la_:=s _ _ B.la_
 ld:=λi d t e1 e2=>let ⟨xs,h1,h2⟩:=B.ld i d t e1 e2;⟨xs,h1.same s,h2⟩
 fr:=B.fr
 wl:=s _ _ B.wl
 le:=B.le
 mf:=B.mf
 al:=B.al
 sx:=λb o hb e=>s _ _ (B.sx b o hb e)
theorem iO.upd{o:HO}(B:iO P w Ss Gs cols nv U H ma na la wa H' met ds)(nt:∀vs,H' z≠some (.tup vs))(h0:H z=none)(n1:z≠ma)(n2:z≠na)(n3:z≠la)(n4:z≠wa)(nd:∀d∈ds,d≠z):iO P w Ss Gs cols nv U H ma na la wa (upd H' z o) met ds where
 mt:=let ⟨ps,h1,h2,h3⟩:=B.mt;⟨ps,by rw [aj n1.symm];exact h1,h2,λj p t e1 e2=>(iM P w).upd_ (h3 j p t e1 e2) nt⟩
 nm:=let ⟨xs,h1,h2,h3⟩:=B.nm;⟨xs,h1.upd n2.symm nt,h2,h3⟩
 la_:=by rw [aj n3.symm];exact B.la_
 ld:=λi d t e1 e2=>let ⟨xs,h1,h2⟩:=B.ld i d t e1 e2;⟨xs,h1.upd (nd d (ab8 e1)) nt,h2⟩
 fr:=B.fr
 wl:=by rw [aj n4.symm];exact B.wl
 le:=B.le
 mf:=B.mf
 al:=B.al
 sx:=λb o' hb e=>by rw [aj (λq=>by rw [q,h0]at e;cases e)];exact B.sx b o' hb e
theorem iO.put{xs:List (List (Option (List Int))×Addr×V)}{s' t:MS}{c:List Int}(B:iO P w Ss Gs cols nv U H ma na la wa H' met ds)(D:bH (iM P w) H' na xs)(hN:kg met xs)(hx:xs.length<=met.length)(h1:H' ma=some (.lst (ps.map V.ref)))(h2:ps.length=met.length)
  (h3:∀(j:Nat) (p:Addr) (s:MS),ps[j]?=some p->met[j]?=some s->(iM P w).at_ H' (cg s) p) (hp:(iM P w).at_ H' (cg s') p) (hnew:s'∉met) (hU:s'∈U) (hM:rQ Gs s'.2) (hw:∀c,s'.1=some c->c.length=nv) (hfrom:met[i]?=some t) (hc:c∈cols) (hn:cC Ss t c=some s')
  (lm:met.length < 100000) (n1:ma≠na) (n3:ma≠la) (n4:ma≠wa) (m3:na≠la) (m4:na≠wa) (hma:H ma≠none) (hna:H na≠none) :
  iO P w Ss Gs cols nv U H ma na la wa (L2.upd (L2.upd H' na (dO (iM P w) na (eB xs (cg s') p (.int met.length)))) ma (.lst (ps.map V.ref++[.ref p]))) (met++[s']) ds:=by
 have ntN:∀vs,H' na≠some (.tup vs):=λvs e=>by rw [D.ob]at e;cases e
 have ntM:∀vs,(L2.upd H' na (dO (iM P w) na (eB xs (cg s') p (.int met.length)))) ma≠some (.tup vs):=λvs e=>by rw [aj n1,h1]at e;cases e
 have dM:∀d∈ds,d≠ma:=λd hd e=>hma (by rw [<-e];exact B.fr d hd);have dN:∀d∈ds,d≠na:=λd hd e=>hna (by rw [<-e];exact B.fr d hd);have up2:∀{k:List (Option (List Int))} {a:Addr},(iM P w).at_ H' k a->(iM P w).at_ (L2.upd (L2.upd H' na (dO (iM P w) na (eB xs (cg s') p (.int met.length)))) ma (.lst (ps.map V.ref++[.ref p]))) k a:=λh=>(iM P w).upd_ ((iM P w).upd_ h ntN) ntM
 have hput:(eB xs (cg s') p (V.int met.length)).length<=met.length+1:=by
  unfold eB
  split
  ·rw [aa1];omega
  ·rw [ab2];simp;omega
 refine⟨⟨ps++[p],by rw [ae,ab7];rfl,by rw [ab2,ab2,h2];rfl,λj q t e1 e2=>?_⟩,⟨_,(D.put hp ()).upd n1.symm ntM,hN.put hnew,by rw [ab2];exact hput⟩,?_,λi d t e1 e2=>?_,B.fr,?_,?_,⟨?_,?_,λi' t' e1 hi=>?_⟩,λt ht=>?_,λb o hb e=>?_⟩
 ·by_cases hj:j < ps.length
  ·rw [ab1 hj]at e1
   rw [ab1 (by rw [<-h2];exact hj)]at e2;exact up2 (h3 j q t e1 e2)
  ·rw [ab9 ()]at e1
   rw [ab9 (by rw [<-h2];omega),<-h2]at e2
   have h0:j - ps.length=0:=by
    have:=(aa3.mp e1).1
    simp at this;omega
   rw [h0]at e1 e2;cases e1;cases e2;exact up2 hp
 ·rw [aj n3.symm,aj m3.symm]
  exact B.la_
 ·have hlt:i < met.length:=ab6 (aa3.mp e1).1 B.le
  rw [ab1 hlt]at e2;obtain⟨ys,g1,g2⟩:=B.ld i d t e1 e2;have hd:=ab8 e1;exact⟨ys,(g1.upd (dN d hd) ntN).upd (dM d hd) ntM,g2.more _⟩
 ·rw [aj n4.symm,aj m4.symm,List.take_append_of_le_length B.le]
  exact B.wl
 ·rw [ab2]
  have:=B.le
  omega
 ·refine ao2.mpr ⟨B.mf.nd,by simp,λx hx y hy=>?_⟩
  rw [ac3.mp hy];rintro rfl;exact hnew hx
 ·rw [ab1 (aa3.mp B.mf.st).1]
  exact B.mf.st
 ·by_cases hj:i' < met.length
  ·rw [ab1 hj]at e1
   obtain⟨j,t0,c0,g1,g2,g3,g4⟩:=B.mf.sub i' t' e1 hi;exact⟨j,t0,c0,g1,by rw [ab1 ()];exact g2,g3,g4⟩
  ·rw [ab9 ()]at e1
   have h0:i' - met.length=0:=by
    have:=(aa3.mp e1).1
    simp at this;omega
   rw [h0]at e1;cases e1;have hlt:=(aa3.mp hfrom).1;exact⟨i,t,c,(),by rw [ab1 hlt];exact hfrom,hc,hn⟩
 ·rcases ad2.mp ht with ht | ht
  ·exact B.al t ht
  ·rw [ac3.mp ht]
   exact⟨hU,hM,hw⟩
 ·have hb1:b≠ma:=λq=>hb (by simp [q])
  have hb2:b≠na:=λq=>hb (by simp [q]);rw [aj hb1,aj hb2];exact B.sx b o hb e
theorem iO.close{dA:Addr}{ys:List (List Int×Addr×V)}{st:MS}{H4:Hp}(B:iO P w Ss Gs cols nv U H ma na la wa H' met ds)(D:bH (tN P w) H' dA ys)(L:ef Ss cols met st ys)(hst:met[ds.length]?=some st)(h0:H dA=none)(n3:ma≠la)(n4:ma≠wa)(m3:na≠la)(m4:na≠wa)(lw:la≠wa)(hla:H la≠none)(hwa:H wa≠none)
  (s:ar (L2.upd H' la (.lst (ds.map V.ref++[.ref dA]))) H4):iO P w Ss Gs cols nv U H ma na la wa (L2.upd H4 wa (.lst (((met.take ds.length).map λs=>V.bl (dG Ss s.2 s.1))++[.bl (dG Ss st.2 st.1)]))) met (ds++[dA]):=by
 have ntL:∀vs,H' la≠some (.tup vs):=λvs e=>by rw [B.la_]at e;cases e
 have hw4:H4 wa=some (.lst ((met.take ds.length).map λs=>V.bl (dG Ss s.2 s.1))):=s _ _ (by rw [aj lw.symm];exact B.wl)
 have ntW:∀vs,H4 wa≠some (.tup vs):=λvs e=>by rw [hw4]at e;cases e
 have dL:∀d∈ds++[dA],d≠la/\d≠wa:=λd hd=>by
  have:H d=none:=by
   rcases ad2.mp hd with hd | hd
   ·exact B.fr d hd
   ·rw [ac3.mp hd];exact h0
  exact⟨λe=>hla (by rw [<-e];exact this),λe=>hwa (by rw [<-e];exact this)⟩
 have hlt:=(aa3.mp hst).1;have kN:∀{k:List (Option (List Int))} {a:Addr},(iM P w).at_ H' k a->(iM P w).at_ (L2.upd H4 wa (.lst (((met.take ds.length).map λs=>V.bl (dG Ss s.2 s.1))++[.bl (dG Ss st.2 st.1)]))) k a:=λh=>(iM P w).upd_ ((iM P w).same s ((iM P w).upd_ h ntL)) ntW;obtain⟨ps,g1,g2,g3⟩:=B.mt;obtain⟨xs,d1,d2,d3⟩:=B.nm;refine⟨⟨ps,by rw [aj n4];exact s _ _ (by rw [aj n3];exact g1),g2,λj p t e1 e2=>kN (g3 j p t e1 e2)⟩,⟨xs,((d1.upd m3 ntL).same s).upd m4 ntW,d2,d3⟩,?_,λi d t e1 e2=>?_,λd hd=>?_,?_,by rw [ab2];simp;omega,B.mf,B.al,λb o hb e=>?_⟩
 ·rw [aj lw,ab7]
  exact s _ _ ae
 ·have hd:=ab8 e1
  by_cases hi:i < ds.length
  ·rw [ab1 hi]at e1
   obtain⟨zs,q1,q2⟩:=B.ld i d t e1 e2;exact⟨zs,((q1.upd (dL d hd).1 ntL).same s).upd (dL d hd).2 ntW,q2⟩
  ·rw [ab9 ()]at e1
   have h0':i - ds.length=0:=by
    have:=(aa3.mp e1).1
    simp at this;omega
   rw [h0']at e1;cases e1;rw [show i=ds.length by omega,hst]at e2;cases e2;exact⟨ys,((D.upd (dL dA hd).1 ntL).same s).upd (dL dA hd).2 ntW,L⟩
 ·rcases ad2.mp hd with hd | hd
  ·exact B.fr d hd
  ·rw [ac3.mp hd];exact h0
 ·rw [ae,ab2]
  show _=some (HO.lst (List.map _ (List.take (ds.length+1) met)));rw [ac5,hst,ab7];rfl
 ·have hb1:b≠la:=λq=>hb (by simp [q])
  have hb2:b≠wa:=λq=>hb (by simp [q]);rw [aj hb2];exact s _ _ (by rw [aj hb1];exact B.sx b o hb e)
end
def dj(a b:Addr):List (Str×V):=br "rules" (.ref b) (br "ranges" (.ref a) [])
structure FA(K:Frag)(C:Addr)(c1 c2:Str):Prop where
 cl:vc K C
 n1:NoAttr K C c1
 n2:NoAttr K C c2
abbrev eY(K:Frag)(C:Addr):=FA K C "ranges" "rules"
theorem qV(a b:Addr):(dj a b).lookup (Str.ofString "ranges")=↑a:=by unfold dj;tm_at "f"
theorem nW(a b:Addr):(dj a b).lookup (Str.ofString "rules")=↑b:=by unfold dj;tm_at "f"
def cf(K:Frag)(H:Hp)(a:Addr)(bs:List (Int×Int)):Prop:=∃ts:List Addr,aF K H a (ts.map V.ref)/\ts.length=bs.length/\∀(i:Nat) (t:Addr) (b:Int×Int),ts[i]?=some t->bs[i]?=some b->cT K H t [.int b.1,.int b.2]
theorem cf.same{a:Addr}(s:ar H H')(h:cf K H a bs):cf K H' a bs:=by
 obtain⟨ts,h1,h2,h3⟩:=h;exact⟨ts,s.seq h1,h2,λi t b e1 e2=>s.tup (h3 i t b e1 e2)⟩
def dJ(b:Int×Int):Int:=b.2 - b.1+1
def mY(bs:List (Int×Int)):Int:=bs.foldl (λt b=>t * dJ b) 1
theorem sR(f:α->Int):∀(l:List α) (t:Int) (m:Nat),t.natAbs < 2 ^ m->(∀b∈l,(f b).natAbs < 2 ^ 200)->(l.foldl (λt b=>t * f b) t).natAbs < 2 ^ (m+200 * l.length)
 | [],t,m,h,_=>by simpa using h
 | b::l,t,m,h,hb=>by
  have h1:(t * f b).natAbs < 2 ^ (m+200):=by
   rw [Int.natAbs_mul,Nat.pow_add];exact Nat.mul_lt_mul_of_lt_of_le h (ag9 (hb b (by simp))) (Nat.pow_pos ∅)
  have:=sR f l (t * f b) (m+200) h1 λx hx=>hb x (by simp [hx])
  rw [ac7,show m+200 * (l.length+1)=m+200+200 * l.length by omega];exact this
theorem BK(h:∀b∈bs,(dJ b).natAbs < 2 ^ 200):(mY bs).natAbs < 2 ^ (1+200 * bs.length):=sR dJ bs 1 1 ∅ h
theorem Ax{m:Nat}(ha:a.natAbs < 2 ^ m)(hb:b.natAbs < 2 ^ 200)(h:m<=100000):IntMulOk a b:=IntMulOk.of_le (m:=m) (n:=200) (intBits_le_iff.mpr ha) (intBits_le_iff.mpr hb) ()
def mK(K:Frag)(C:Addr):Sp:=λvs H Q _=>∃(x dx a b:Addr) (xs ys:List V),vs=[.ref x,.ref a,.ref b]/\H x=some (.ins C dx [])/\aF K H a xs/\aF K H b ys/\
 ∀p q H',H p=none->H q=none->q≠p->H'=upd (upd (upd H p (.lst xs)) q (.lst ys)) x (.ins C dx (dj p q))->Q .non H'
def wN(b:Int×Int):Nat:=(b.2 - b.1+1).toNat
def fG(b:Int×Int)(c:List Int):List (List Int):=(List.range (wN b)).map λ(j:Nat)=>c++[b.1+(j:Int)]
def aQ(bs:List (Int×Int)):List (List Int):=bs.foldl (λtold b=>told.flatMap (fG b)) [[]]
def m8(bs:List (Int×Int)):Nat:=bs.foldl (λt b=>t * wN b) 1
theorem nL(bs:List (Int×Int))(b:Int×Int):aQ (bs++[b])=(aQ bs).flatMap (fG b):=by
 unfold aQ;rw [ag4];rfl
theorem nK(bs:List (Int×Int))(b:Int×Int):m8 (bs++[b])=m8 bs * wN b:=by
 unfold m8;rw [ag4];rfl
theorem ku{w:Nat}{f:α->List β}(h:∀x,(f x).length=w):∀l:List α,(l.flatMap f).length=l.length * w
 | []=>by simp
 | x::l=>by rw [ao3,ab2,h,ku h l,ac7,Nat.add_mul,Nat.one_mul,Nat.add_comm]
theorem fS(b:Int×Int)(c:List Int):(fG b c).length=wN b:=by
 unfold fG;rw [aa1,List.length_range]
theorem eE(bs:List (Int×Int)):(aQ bs).length=m8 bs:=by
 have go:∀(bs:List (Int×Int)) (told:List (List Int)),(bs.foldl (λtold b=>told.flatMap (fG b)) told).length=bs.foldl (λt b=>t * wN b) told.length:=by
  intro bs
  induction bs with
  | nil=>intro told;rfl
  | cons b bs ih=>intro told;rw [af5,af5,ih,ku (fS b)]
 exact go bs [[]]
theorem xR(h:∀b∈bs,b.1<=b.2):mY bs=(m8 bs:Int):=by
 have go:∀(bs:List (Int×Int)) (t:Nat),(∀b∈bs,b.1<=b.2)->bs.foldl (λt b=>t * dJ b) (t:Int)=((bs.foldl (λt b=>t * wN b) t:Nat):Int):=by
  intro bs
  induction bs with
  | nil=>intro t _;rfl
  | cons b bs ih=>
   intro t hb
   have:=hb b (by simp)
   rw [af5,af5,<-ih _ λx hx=>hb x (by simp [hx]),an3];congr 2;unfold dJ wN;omega
 exact go bs 1 h
theorem vo:∀(bs:List (Int×Int)) (t:Nat),(∀b∈bs,1<=wN b)->t<=bs.foldl (λt b=>t * wN b) t
 | [],t,_=>aa7 _
 | b::bs,t,h=>ac2 (Nat.le_mul_of_pos_right t (h b (by simp))) (vo bs _ λx hx=>h x (by simp [hx]))
theorem kr(h:∀b∈bs,1<=wN b)(i:Nat):1<=m8 (bs.take i)/\m8 (bs.take i)<=m8 bs:=by
 refine⟨vo _ 1 λb hb=>h b (ak2 hb),?_⟩
 conv=>rhs;unfold m8;rw [<-List.take_append_drop i bs,ag4]
 exact vo _ _ λb hb=>h b (List.mem_of_mem_drop hb)
theorem Eb(h:∀b∈bs,1<=wN b){b:Int×Int}(hb:bs[i]?=some b):wN b<=m8 bs:=by
 have h1:=(kr h (i+1)).2;rw [ac5,hb]at h1;have h2:m8 (bs.take i++[b])=m8 (bs.take i) * wN b:=nK _ _;have h3:=(kr h i).1;refine ac2 ?_ h1;show wN b<=m8 (bs.take i++[b]);rw [h2];exact Nat.le_mul_of_pos_left _ h3
def jE(H:Hp)(ps:List Addr)(cols:List (List Int)):Prop:=ps.length=cols.length/\∀(i:Nat) (p:Addr) (us:List Int),ps[i]?=some p->cols[i]?=some us->H p=some (.tup (us.map V.int))
def gR(H:Hp)(q:Addr)(cols:List (List Int)):Prop:=∃ps:List Addr,H q=some (.lst (ps.map V.ref))/\jE H ps cols
theorem jE.same(h:jE H ps cols)(s:ar H H'):jE H' ps cols:=⟨h.1,λi p us e1 e2=>s _ _ (h.2 i p us e1 e2)⟩
theorem jE.upd{xs ys:List V}(h:jE H ps cols)(hz:H z=some (.lst xs)):jE (upd H z (.lst ys)) ps cols:=⟨h.1,λi p us e1 e2=>by
 have:=h.2 i p us e1 e2
 rw [aj (da this hz (λe=>by cases e))]
 exact this⟩
theorem jE.append{qs:List Addr}{dols:List (List Int)}(h:jE H ps cols)(g:jE H qs dols):jE H (ps++qs) (cols++dols):=by
 refine⟨by rw [ab2,ab2,h.1,g.1],λi p us e1 e2=>?_⟩
 by_cases hi:i < ps.length
 ·rw [ab1 hi]at e1
  rw [ab1 (by rw [<-h.1];exact hi)]at e2;exact h.2 i p us e1 e2
 ·rw [ab9 ()]at e1
  rw [ab9 (by rw [<-h.1];omega),<-h.1]at e2;exact g.2 _ p us e1 e2
theorem e9(bs:List (Int×Int)):∀c∈aQ bs,c.length=bs.length:=by
 have go:∀(bs:List (Int×Int)) (told:List (List Int)) (n:Nat),(∀c∈told,c.length=n)->∀c∈bs.foldl (λtold b=>told.flatMap (fG b)) told,c.length=n+bs.length:=by
  intro bs
  induction bs with
  | nil=>intro told n h c hc;exact h c hc
  | cons b bs ih=>
   intro told n h c hc;rw [af5]at hc
   have:=ih _ (n+1) (λc hc=>by
    obtain⟨d,hd,hc⟩:=ai9.mp hc;unfold fG at hc;obtain⟨j,_,rfl⟩:=ac4.mp hc;rw [ab2,h d hd]
    rfl) c hc
   rw [this,ac7];omega
 intro c hc
 have:=go bs [[]] 0 (λc hc=>by rw [ac3.mp hc];rfl) c hc
 omega
theorem nN{f:α->List β}:∀{l:List α},l.Nodup->(∀x∈l,(f x).Nodup)->(∀x y z,z∈f x->z∈f y->x=y)->(l.flatMap f).Nodup
 | [],_,_,_=>by simp
 | x::l,h,h1,h2=>by
  have hn:=ai3.mp h;rw [ao3];refine ao2.mpr ⟨h1 x (by simp),nN hn.2 (λy hy=>h1 y (by simp [hy])) h2,λa ha b hb e=>?_⟩;obtain⟨y,hy,hb⟩:=ai9.mp hb;rw [<-e]at hb;rw [h2 x y a ha hb]at hn;exact hn.1 hy
theorem tV(bs:List (Int×Int)):(aQ bs).Nodup:=by
 have go:∀(bs:List (Int×Int)) (told:List (List Int)),told.Nodup->(bs.foldl (λtold b=>told.flatMap (fG b)) told).Nodup:=by
  intro bs
  induction bs with
  | nil=>intro told h;exact h
  | cons b bs ih=>
   intro told h;rw [af5];refine ih _ (nN h (λc _=>?_) λx y z hx hy=>?_)
   ·unfold fG
    refine List.pairwise_map.mpr (List.nodup_range.imp λ{i j} hij e=>?_)
    have:=List.append_cancel_left e
    simp at this;omega
   ·unfold fG at hx hy
    obtain⟨i,_,rfl⟩:=ac4.mp hx;obtain⟨j,_,e⟩:=ac4.mp hy
    have:=congrArg List.dropLast e
    simp at this;exact this.symm
 exact go bs [[]] (by simp)
def D0(K:Frag):Sp:=λvs H Q _=>∃(c:Addr) (us:List Int) (b:Int×Int),vs=[.ref c,.int b.1,.int b.2]/\H c=some (.tup (us.map V.int))/\us.length<=10/\wN b<=400/\∀q H',H q=none->gR H' q (fG b us)->ar H H'->Q (.ref q) H'
def rR(P:Program)(w:World)(K:Frag)(mg:Str->Option Value)(base:Heap)(C:Addr)(nv:Nat)(bs:List (Int×Int))(Ss:List bU)(Gs:List (Int->Prop))(x:Addr)(H:Hp):Prop:=∃(dx a b:Addr) (rs:List Addr),H x=some (.ins C dx (dj a b))/\cf K H a bs/\~~~jD nv Ss Gs H b rs
def GP(bs:List (Int×Int))(Ss:List bU):Int:=Ss.foldl (λt S=>t * S.size) (mY bs)
def u4(P:Program)(w:World)(K:Frag)(mg:Str->Option Value)(base:Heap)(C:Addr):Sp:=λvs H Q _=>∃(x:Addr) (nv:Nat) (bs:List (Int×Int)) (Ss:List bU) (Gs:List (Int->Prop)),vs=[.ref x]/\~~~rR C nv bs Ss Gs x H/\bs.length<=100/\Ss.length<=100/\(∀b∈bs,(dJ b).natAbs < 2 ^ 200)/\(∀S∈Ss,(S.size).natAbs < 2 ^ 200)/\Q (.int (GP bs Ss)) H
def rB(P:Program)(w:World)(K:Frag)(mg:Str->Option Value)(base:Heap)(C:Addr):Sp:=λvs H Q _=>∃(x:Addr) (nv:Nat) (bs:List (Int×Int)) (Ss:List bU) (Gs:List (Int->Prop)),vs=[.ref x]/\~~~rR C nv bs Ss Gs x H/\bs.length<=100/\Ss.length<=100/\(∀b∈bs,(dJ b).natAbs < 2 ^ 200)/\(∀S∈Ss,(S.size).natAbs < 2 ^ 200)/\GP bs Ss<=400/\Q (.ref x) H
def gZ(K:Frag)(C:Addr):Sp:=λvs H Q _=>∃(x dx a b:Addr) (bs:List (Int×Int)),vs=[.ref x]/\H x=some (.ins C dx (dj a b))/\cf K H a bs/\bs.length<=4/\(∀b∈bs,1<=wN b)/\m8 bs<=400/\∀q H',H q=none->gR H' q (aQ bs)->ar H H'->Q (.ref q) H'
def bD(la wa sc:Addr):List (Str×V):=br "score" (.ref sc) (br "well" (.ref wa) (br "leads" (.ref la) []))
abbrev dF(K:Frag)(C:Addr):=qG K C "leads" "well" "score"
theorem fb(a b c:Addr):(bD a b c).lookup (Str.ofString "leads")=↑a:=by unfold bD;tm_at "f"
theorem xv(a b c:Addr):(bD a b c).lookup (Str.ofString "well")=↑b:=by unfold bD;tm_at "f"
theorem uo(a b c:Addr):(bD a b c).lookup (Str.ofString "score")=↑c:=by unfold bD;tm_at "f"
structure vg(Ss:List bU)(cols:List (List Int))(U:List MS):Prop where
 st:(none,Ss.map (·.start))∈U
 cl:∀s∈U,∀c∈cols,∀s',cC Ss s c=some s'->s'∈U
 sz:U.length<=10000
def nF(P:Program)(w:World)(Ss:List bU)(cols:List (List Int))(la wa:Addr)(H:Hp)(met:List MS):Prop:=∃ds:List Addr,H la=some (.lst (ds.map V.ref))/\ds.length=met.length/\H wa=some (.lst (met.map λs=>V.bl (dG Ss s.2 s.1)))/\
 ∀(i:Nat) (d:Addr) (s:MS),ds[i]?=some d->met[i]?=some s->∃xs,bH (tN P w) H d xs/\ef Ss cols met s xs
inductive tD(P:Program)(w:World)(K:Frag)(mg:Str->Option Value)(base:Heap)(C Cs:Addr):Sp
 | mk {vs:List V} {H:Hp} {Q:VK} {E:XK} (x dx ma na sa la wa sc dsc ra rb p0:Addr) (nv:Nat) (Ss:List bU) (Gs:List (Int->Prop)) (rs cs:List Addr) (cols:List (List Int)) (U:List MS) (Hs:Hp):vs=[.ref x,.ref ma,.ref na,.ref sa]->H x=some (.ins C dx (bD la wa sc))->H sc=some (.ins Cs dsc (dj ra rb))->ar Hs H->Hs ma=none->Hs na=none->Hs la=none->Hs wa=none->~~~jD nv Ss Gs Hs rb rs->Ss.length<=100->rQ Gs (Ss.map (·.start))->H ma=some (.lst [.ref p0])->(iM P w).at_ H (cg (none,Ss.map (·.start))) p0->bH (iM P w) H na [(cg (none,Ss.map (·.start)),p0,.int 0)]->H la=some (.lst [])->H wa=some (.lst [])->ma≠la->ma≠wa->la≠wa->H sa=some (.lst (cs.map V.ref))->sa≠ma->sa≠la->sa≠wa->jE H cs cols->(∀c∈cols,c.length=nv)->cols.length<=1000->cols.Nodup->vg Ss cols U->(∀met H',w6 Ss cols met->(∀s∈met,s∈U)->(∀(s:MS),s∈met->∀c∈cols,∀s',cC Ss s c=some s'->s'∈met)->nF P w Ss cols la wa H' met->xg [ma,na,la,wa] H H'->Q .non H')->~~~tD C Cs vs H Q E
theorem p7(F:cc K "__init__" "Score.__init__" eO f fd)(T:Txt mg aM)(TC:eY K C): ~~~aG bV 1 f fd ["self","ranges","rules"] (mK K C):=by
 refine F.ok kP λ_ A _ s H vs Q E hr h=>?_;obtain⟨x,dx,a,b,xs,ys,rfl,hx,ha,hb,k⟩:=h
 refine⟨rfl,_,(af (bM (pr 0) (bo (cU K) ⋯ T.n_list boot_list (aa (pr 1) ag)) rfl)
 (ai (bM (pr 0) (bo (cU K) ⋯ T.n_list boot_list (aa (pr 2) ag)) rfl))),?_⟩
 refine iJ λRk rk=>?_;tm_at "r";have ln:∀(f:Str) (v:V) (l:List (Str×V)) (n:Nat),l.length<=n->(br f v l).length<=n+1:=λf v l n h=>ac2 (bE f v l) (ae7 h);refine⟨xs,.inl ha,λp hp=>?_⟩
 have px:p≠x:=λe=>by subst e;rw [hx]at hp;cases hp
 refine⟨C,dx,[],by rw [aj (Ne.symm px)];exact hx,TC.cl,TC.n1,∅,rk _ _ ?_⟩;tm_at "r";refine⟨ys,.inl (((aq hp).seq hb).at_ins (by rw [aj (Ne.symm px)];exact hx)),λq hq=>?_⟩
 have qx:q≠x:=λe=>by subst e;rw [ae]at hq;cases hq
 rw [aj qx]at hq
 have qp:q≠p:=λe=>by subst e;rw [ae]at hq;cases hq
 rw [aj qp]at hq;refine⟨C,dx,_,by rw [aj (Ne.symm qx),ae],TC.cl,TC.n2,ab5 (ln _ _ _ _ (ac1 0)) ∅,?_⟩;refine k p q _ hp hq qp ?_;rw [fj];rfl
theorem yS(F:cc K "weight" "weight" oG f fd)(T:Txt mg aM)(TC:eY K C): ~~~aG bV 8 f fd ["score"] (~~~u4 C):=by
 refine F.ok sc_weight λ_ A _ s H vs Q E hr h=>?_;obtain⟨x,nv,bs,Ss,Gs,rfl,⟨dx,a,b,rs,hx,⟨ts,hts,htl,htc⟩,RM⟩,lb,lr,hwb,hwr,q⟩:=h;have hrs:=RM.sq;have hrl:=RM.len;have lg:=RM.gl
 refine⟨rfl,_,(af (cW (i:=1) sc_weight.nd ah)
 (af (bW PassesOwn.never rfl (bI K (aL (pr 0) rfl)) (cR K (n:=2) rfl (aO (gd (i:=2) sc_weight.nd) (aO (gd (i:=3) sc_weight.nd) cS)))
 (ai (EX (vX (i:=1) sc_weight.nd rfl (Or.inl rfl) (au (bL K) (au (o0 cJ) (pr 3) (pr 2)) ah) (o1 ud)))))
 (af (bW PassesOwn.never rfl (bI K (aL (pr 0) rfl)) (gd (i:=4) sc_weight.nd)
 (ai (EX (vX (i:=1) sc_weight.nd rfl (Or.inl rfl) (~~~dX hr (pr 4)) (o1 ud)))))
 (ai (av (pr 1)))))),?_⟩
 refine aV (λZ H'=>Z=[↑x,some (.int 1),none,none,none]/\H=H') ?_ ?_
 ·intro u' hu
  tm_at "r";exact hu _ _ ⟨rfl,rfl⟩
 rintro Ω ω _ _ ⟨rfl,rfl⟩;refine ω _ _ (aV (λZ H'=>∃o1 o2:Option V,Z=[↑x,⇑(mY bs),o1,o2,none]/\H=H') ?_ ?_)
 ·intro u' hu
  tm_at "r";refine⟨C,dx,_,hx,TC.cl,TC.n1,_,qV a b,bJ hts (cq (xs:=ts.map V.ref) (λi Z H'=>∃o1 o2:Option V,Z=[↑x,some (.int (mY (bs.take i))),o1,o2,none]/\H=H') ⟨none,none,rfl,rfl⟩ (λi Z H' _ z=>by obtain⟨_,_,_,z⟩:=z;exact z▸hts) ?_ ?_)⟩
  ·rintro i y Z H1 hy ⟨o1,o2,rfl,rfl⟩
   rw [aa5]at hy
   cases ht:ts[i]? with
   | none=>rw [ht]at hy;cases hy
   | some t=>
    rw [ht]at hy;cases hy
    have hi:i < bs.length:=by rw [<-htl];exact(aa3.mp ht).1
    have hb:bs[i]?=some bs[i]:=aa2 hi
    have e:mY (bs.take (i+1))=mY (bs.take i) * dJ bs[i]:=by
     unfold mY;rw [ac5,hb,ag4];rfl
    tm_at "r";refine⟨_,htc i t _ ht hb,rfl,?_⟩;tm_at "r";rw [e];have hw:=hwb _ (ae0 hi);have ht:=BK (bs:=bs.take i) λb hb=>hwb b (ak2 hb);exact⟨Ax ht hw (by rw [ad1];omega),rfl⟩
  ·rintro Z H1 ⟨o1,o2,rfl,rfl⟩
   rw [aa1,htl,ad4];exact hu _ _ ⟨o1,o2,rfl,rfl⟩
 rintro Ω ω _ _ ⟨o1,o2,rfl,rfl⟩;refine ω _ _ ?_;tm_at "r";refine⟨C,dx,_,hx,TC.cl,TC.n2,_,nW a b,bJ hrs (cq (xs:=rs.map V.ref) (λi Z H'=>∃o3:Option V,Z=[↑x,some (.int ((Ss.take i).foldl (λt S=>t * S.size) (mY bs))),o1,o2,o3]/\H=H') ⟨none,rfl,rfl⟩ (λi Z H' _ z=>by obtain⟨_,_,z⟩:=z;exact z▸hrs) ?_ ?_)⟩
 ·rintro i y Z H1 hy ⟨o3,rfl,rfl⟩
  rw [aa5]at hy
  cases ht:rs[i]? with
  | none=>rw [ht]at hy;cases hy
  | some r=>
   rw [ht]at hy;cases hy
   have hi:i < Ss.length:=by rw [<-hrl];exact(aa3.mp ht).1
   have hb:Ss[i]?=some Ss[i]:=aa2 hi;obtain⟨Cr,RI,RB,hri⟩:=RM.at_ i r _ (Gs[i]'()) ht hb (aa2 ());obtain⟨dr,fr,hir,q1,_⟩:=RB.ins r _ hri;tm_at "r";refine⟨Cr,dr,fr,hir,q1,_,_,RB.size,r,rfl,hri,?_⟩;tm_at "r";rw [ac5,hb,ag4];have hw:=hwr _ (ae0 hi);have ht:=sR (λS:bU=>S.size) (Ss.take i) (mY bs) _ (BK hwb) λS hS=>hwr S (ak2 hS);exact⟨Ax ht hw (by rw [ad1];omega),rfl⟩
 ·rintro Z H1 ⟨o3,rfl,rfl⟩
  rw [aa1,hrl,ad4];tm_at "r";exact q
theorem mU(F:cc K "not_too_wide" "not_too_wide" f7 f fd)(T:Txt mg aM)(D_weight: ~~~cN "weight" 8 ["score"] (~~~u4 C)): ~~~aG bV 9 f fd ["score"] (~~~rB C):=by
 refine F.ok sc_not_too_wide λ_ A _ s H vs Q E hr h=>?_;obtain⟨x,nv,bs,Ss,Gs,rfl,S,lb,lr,hwb,hwr,hle,q⟩:=h
 refine⟨rfl,_,(af (cW (i:=1) sc_not_too_wide.nd (az D_weight hr ⋯ (aa (pr 0) ag)))
 (af (aS (aX (ax (o0 uC) (pr 1) (iN T.g_MOST_WEIGHT) (ay _))) (ai kH) aB)
 (ai (av (pr 0))))),?_⟩
 tm_at "r";refine⟨x,nv,bs,Ss,Gs,rfl,S,lb,lr,hwb,hwr,?_⟩;tm_at "r";rw [if_neg ()];exact q
theorem qf(F:cc K "lengthened" "lengthened" iD f fd)(T:Txt mg aM): ~~~aG bV 1 f fd ["column","low","high"] (D0 K):=by
 refine F.ok qD λ_ A _ s H vs Q E hr h=>?_;obtain⟨c,us,b,rfl,hc,hu,hw,k⟩:=h;refine⟨rfl,_,(ai (av (cQ (own:=["note"]) (js:=[0]) rfl (oB rfl T.n_range (aa (pr 1) (aa (au (xw K) (pr 2) ah) ag))) (bG.of ⋯) (λ_ _ _ _ _=>(bN (i:=0) (show List.Nodup (["note","column"]:List Str)from by decide +kernel) rfl (Or.inl rfl))) (λ_ _ _ _ _=>cI) (λ_ _ _ _ _=>(au (xw K) (pr 1) (gw (aa (pr 0) ag))))))),?_⟩;have hs:=sizeLine_eq;tm_at "r"
 have ek:(b.2+1 - b.1).toNat=wN b:=by unfold wN;omega
 rw [ek];refine e8 (λi ys H'=>∃ps:List Addr,ys=ps.map V.ref/\ps.length=i/\(∀(j:Nat) (p:Addr),ps[j]?=some p->H' p=some (.tup ((us++[b.1+(j:Int)]).map V.int)))/\ar H H') () ⟨[],rfl,rfl,(λj p e=>nomatch e),ar.refl _⟩ ?_ ?_ ?_
 ·rintro i ys H' ⟨ps,rfl,hl,_⟩
  rw [aa1];omega
 ·rintro i ys H1 hi ⟨ps,rfl,hl,hp,s1⟩
  simp only [e7];tm_at "r";refine⟨(),λt ht=>?_⟩;have s2:=s1.upd (o:=HO.tup [V.int (b.1+i)]) ht;have ht2:(upd H1 t (HO.tup [V.int (b.1+i)])) t=some (.tup [V.int (b.1+i)]):=ae;have s12:ar H1 (upd H1 t (HO.tup [V.int (b.1+i)])):=aq ht;generalize upd H1 t (HO.tup [V.int (b.1+i)])=H2 at s2 ht2 s12;refine uG (s2 _ _ hc) ht2 (by rw [aa1];simp;omega) λp H3 s3 hp3=>?_;refine⟨ps++[p],by rw [ab7];rfl,by rw [ab2,hl];rfl,λj p' e=>?_,s2.trans s3⟩
  by_cases hj:j < ps.length
  ·rw [ab1 hj]at e
   exact(s12.trans s3) _ _ (hp j p' e)
  ·rw [ab9 ()]at e
   have ej:j=ps.length:=by
    have:=(aa3.mp e).1
    simp at this;omega
   rw [ej,ai5]at e;cases e;rw [hp3,ej,hl,ab7];rfl
 ·rintro ys H1 ⟨ps,rfl,hl,hp,s1⟩ q hq
  refine k q _ (s1.free hq) ⟨ps,ae,by rw [fS];exact hl,λi p us' e1 e2=>?_⟩ (s1.upd hq)
  have hi:i < wN b:=by rw [<-hl];exact(aa3.mp e1).1
  unfold fG at e2;rw [aa5,ag1 hi]at e2;cases e2;exact(aq hq) _ _ (hp i p e1)
theorem vK(F:cc K "columns" "columns" lQ f fd)(T:Txt mg aM)(TC:eY K C)(D_lengthened: ~~~cN "lengthened" 1 ["column","low","high"] (D0 K)): ~~~aG bV 2 f fd ["score"] (gZ K C):=by
 refine F.ok sc_columns λ_ A _ s H vs Q E hr h=>?_;obtain⟨x,dx,a,b,bs,rfl,hx,⟨ts,hts,htl,htc⟩,lb,hw,hc,k⟩:=h
 refine⟨rfl,_,(af (cW (i:=1) sc_columns.nd (bu (aa (gw ag) ag)))
 (af (bW PassesOwn.never rfl (bI K (aL (pr 0) rfl)) (cR K (n:=2) rfl (aO (gd (i:=2) sc_columns.nd) (aO (gd (i:=3) sc_columns.nd) cS)))
 (af (cW (i:=4) sc_columns.nd (bu ag))
 (af (bW PassesOwn.never rfl (bI K (pr 1)) (gd (i:=5) sc_columns.nd)
 (ai (bq (bQ K PySem.F.plainAttrs_list PySem.F.slot_list_extend PySem.F.type_list_extend lJ (pr 4) (aa (az D_lengthened hr ⋯ (aa (pr 5) (aa (pr 2) (aa (pr 3) ag)))) ag)))))
 (ai (cW (i:=1) sc_columns.nd (pr 4))))))
 (ai (av (pr 1))))),?_⟩
 have hs:=sizeLine_eq;refine aV (λZ H'=>∃q:Addr,H q=none/\gR H' q (aQ [])/\Z=[↑x,↑q,none,none,none,none]/\ar H H') ?_ ?_
 ·intro u' hu
  tm_at "r";refine⟨(),λt ht=>⟨(),λq hq=>?_⟩⟩;have s1:=aq (o:=HO.tup []) ht;refine hu _ _ ⟨q,s1.free hq,⟨[t],ae,rfl,λi p us e1 e2=>?_⟩,rfl,s1.upd hq⟩
  have hi:i=0:=by
   have:=(aa3.mp e1).1
   simp at this;exact this
  subst hi;cases e1;cases e2;exact(aq hq) _ _ ae
 rintro Ω ω _ H1 ⟨q,hq0,hq1,rfl,s1⟩;refine ω _ _ (aV (λZ H'=>∃(q:Addr) (o2 o3 o4 o5:Option V),H q=none/\gR H' q (aQ bs)/\Z=[↑x,↑q,o2,o3,o4,o5]/\ar H H') ?_ ?_)
 ·intro u' hu
  tm_at "r";refine⟨C,dx,_,s1 _ _ hx,TC.cl,TC.n1,_,qV a b,bJ (s1.seq hts) (cq (xs:=ts.map V.ref) (λi Z H'=>∃(q:Addr) (o2 o3 o4 o5:Option V),H q=none/\gR H' q (aQ (bs.take i))/\Z=[↑x,↑q,o2,o3,o4,o5]/\ar H H') ⟨q,none,none,none,none,hq0,hq1,rfl,s1⟩ (λi Z H' _ h=>?_) ?_ ?_)⟩
  ·obtain⟨_,_,_,_,_,_,_,_,s'⟩:=h
   exact s'.seq hts
  ·rintro i y Z H2 hy ⟨q,o2,o3,o4,o5,hq0,⟨ps,hq2,hpc⟩,rfl,s2⟩
   rw [aa5]at hy
   cases ht:ts[i]? with
   | none=>rw [ht]at hy;cases hy
   | some t=>
    rw [ht]at hy;cases hy
    have hi:i < bs.length:=by rw [<-htl];exact(aa3.mp ht).1
    have hb:bs[i]?=some bs[i]:=aa2 hi;tm_at "r";refine⟨_,s2.tup (htc i t _ ht hb),rfl,?_⟩;tm_at "r";refine⟨(),λp hp=>?_⟩;have s23:=aq (o:=HO.lst []) hp;have hp3:(upd H2 p (HO.lst [])) p=some (.lst (([]:List Addr).map V.ref)):=ae;have hH3:=hp3;generalize upd H2 p (HO.lst [])=H3 at s23 hp3;have ew:wN bs[i]<=400:=ac2 (Eb hw hb) hc
    have en:m8 (bs.take (i+1))=m8 (bs.take i) * wN bs[i]:=by
     rw [ac5,hb];exact nK _ _
    have en':=(kr hw (i+1)).2
    have ec:aQ (bs.take (i+1))=(aQ (bs.take i)).flatMap (fG bs[i]):=by
     rw [ac5,hb];exact nL _ _
    have ewd:=e9 (bs.take i);have ecl:=eE (bs.take i);have hpl:=hpc.1;rw [ec];generalize bs[i]=b at *;generalize aQ (bs.take i)=cols at *;refine bJ (aF.of (s23 _ _ hq2)) (cq (xs:=ps.map V.ref) (λj Z H'=>∃(o5:Option V) (ps':List Addr),H' p=some (.lst (ps'.map V.ref))/\jE H' ps' ((cols.take j).flatMap (fG b))/\ar H2 H'/\Z=[some (V.ref x),some (V.ref q),some (V.int b.1),some (V.int b.2),some (V.ref p),o5]) ⟨o5,[],hp3,⟨rfl,λi p us e=>nomatch e⟩,s23,rfl⟩ (λj Z H' _ h=>?_) ?_ ?_)
    ·obtain⟨_,_,_,_,s',_⟩:=h
     exact aF.of (s' _ _ hq2)
    ·rintro j y Z H4 hy ⟨o5,ps',hp4,hT,s24,rfl⟩
     rw [aa5]at hy
     cases hcj:ps[j]? with
     | none=>rw [hcj]at hy;cases hy
     | some c=>
      rw [hcj]at hy;cases hy
      have hj:j < cols.length:=by rw [<-hpl];exact(aa3.mp hcj).1
      have hcc:cols[j]?=some cols[j]:=aa2 hj;have hus:=hpc.2 j c _ hcj hcc;have hul:=ewd _ (ae0 hj)
      have estep:(cols.take (j+1)).flatMap (fG b)=(cols.take j).flatMap (fG b)++fG b cols[j]:=by
       rw [ac5,hcc,List.flatMap_append];simp
      rw [estep];generalize cols[j]=us at *;tm_at "r";refine⟨.inl ⟨rfl,_,aF.of hp4⟩,c,us,b,rfl,s24 _ _ hus,by rw [hul,ad1];omega,ew,λr H5 hr0 hr5 s45=>?_⟩;obtain⟨rs,hr5,hrT⟩:=hr5;have hp5:=s45 _ _ hp4
      have l1:ps'.length<=400:=by
       rw [hT.1,ku (fS b),ad1];refine ac2 (Nat.mul_le_mul_right _ (am1 _ _)) ?_;rw [ecl,<-en];omega
      have l2:rs.length<=400:=by rw [hrT.1,fS];exact ew
      refine⟨p,r,_,_,rfl,rfl,hp5,hr5,by rw [aa1,aa1];omega,↑c,ps' ++ rs,by rw [ae,ab7],((hT.same s45).append hrT).upd hp5,BI hp (s24.trans s45),rfl⟩
    ·rintro Z H4 ⟨o5,ps',hp4,hT,s24,rfl⟩
     rw [aa1,hpl,ad4]at hT;tm_at "r";exact⟨p,s2.free hp,⟨ps',hp4,hT⟩,rfl,s2.trans s24⟩
  ·rintro Z H2 ⟨q,o2,o3,o4,o5,hq0,hq2,rfl,s2⟩
   rw [aa1,htl,ad4]at hq2;exact hu _ _ ⟨q,o2,o3,o4,o5,hq0,hq2,rfl,s2⟩
 rintro Ω ω _ H2 ⟨q,o2,o3,o4,o5,hq0,hq2,rfl,s2⟩;refine ω _ _ ?_;tm_at "r";exact k q H2 hq0 hq2 s2
theorem AE(F:cc K "build" "Machine.build" fq f fd)(T:Txt mg aM)(TC:dF K C)(TS:eY K Cs)(D_memories_after: ~~~cN "memories_after" 9 ["rules","memories","before","column"] (~~~j0))(D_all_close: ~~~cN "all_close" 9 ["rules","memories","last"] (~~~oT)):
  ~~~aG bV 10 f fd ["self","met","numbers","steps"] (~~~tD C Cs):=by
 refine F.ok sc_Machine_build λ_ A _ s H vs Q E hr h=>?_;obtain⟨x,dx,ma,na,sa,la,wa,sc,dsc,ra,rb,p0,nv,Ss,Gs,rs,cs,cols,U,Hs,rfl,hx,hsc,sHs,z1,z2,z3,z4,RM,lS,hM0,hma,hp0,hna,hla,hwa,n1,n2,n3,hsa,q1,q2,q3,hT,hcw,hcl,hnd,CU,k⟩:=h
 refine⟨rfl,_,(af (cW (i:=4) sc_Machine_build.nd (aL (aL (pr 0) rfl) rfl))
 (ai (uF PassesOwn.never (aX (ax (o0 kF) (aA (aJ K) ⋯ T.n_len boot_len (aa (aL (pr 0) rfl) ag)) (aA (aJ K) ⋯ T.n_len boot_len (aa (pr 1) ag)) (ay _))) (af (cW (i:=5) sc_Machine_build.nd (aD (aW K) (aD (aW K) (pr 1) (aA (aJ K) ⋯ T.n_len boot_len (aa (aL (pr 0) rfl) ag)) (λ_ _=>rfl)) ah (λ_ _=>rfl)))
 (af (cW (i:=6) sc_Machine_build.nd (aD (aW K) (aD (aW K) (pr 1) (aA (aJ K) ⋯ T.n_len boot_len (aa (aL (pr 0) rfl) ag)) (λ_ _=>rfl)) ah (λ_ _=>rfl)))
 (af (cW (i:=7) sc_Machine_build.nd (xy (kk':=tN P w)))
 (af (bW PassesOwn.never rfl (bI K (pr 3)) (gd (i:=8) sc_Machine_build.nd)
 (af (cW (i:=9) sc_Machine_build.nd (gw (aa (pr 8) (aa (az D_memories_after hr ⋯ (aa (pr 4) (aa (pr 6) (aa (pr 5) (aa (pr 8) ag))))) ag))))
 (af (aS (aX (ax c7 (aD (aW K) (pr 9) ah (λ_ _=>rfl)) aH (ay _))) (ai mE) aB)
 (af (aS (aX (ax (AM (kk':=iM P w) (fE hr)) (pr 9) (pr 2) (by with_unfolding_all rfl))) (af (gx (aA (aJ K) ⋯ T.n_len boot_len (aa (pr 1) ag)) (sP (pr 2) (pr 9) (Fb (kk':=iM P w) (fE hr))))
 (ai (bq (bQ K PySem.F.plainAttrs_list PySem.F.slot_list_append PySem.F.type_list_append bT (pr 1) (aa (pr 9) ag))))) aB)
 (ai (gx (aD (Hr (kk':=iM P w) (fE hr)) (pr 2) (pr 9) (λ_ _=>rfl)) (sP (pr 7) (pr 8) (Fb (kk':=tN P w) (fE hr)))))))))
 (af (bq (bQ K PySem.F.plainAttrs_list PySem.F.slot_list_append PySem.F.type_list_append bT (aL (pr 0) rfl) (aa (pr 7) ag)))
 (ai (bq (bQ K PySem.F.plainAttrs_list PySem.F.slot_list_append PySem.F.type_list_append bT (aL (pr 0) rfl) (aa (az D_all_close hr ⋯ (aa (pr 4) (aa (pr 6) (aa (pr 5) ag)))) ag)))))))))))),?_⟩
 have hs:=sizeLine_eq;have mna:ma≠na:=da hma hna.ob (λe=>by cases e);have nla:na≠la:=da hna.ob hla (λe=>by cases e);have nwa:na≠wa:=da hna.ob hwa (λe=>by cases e)
 have xm:x∉[ma,na,la,wa]:=λh=>by
  simp only [ab0,ad3,or_false]at h;rcases h with rfl | rfl | rfl | rfl
  ·rw [hma]at hx;cases hx
  ·rw [hna.ob]at hx;cases hx
  ·rw [hla]at hx;cases hx
  ·rw [hwa]at hx;cases hx
 have sm:sa∉[ma,na,la,wa]:=λh=>by
  simp only [ab0,ad3,or_false]at h;rcases h with rfl | rfl | rfl | rfl
  ·exact q1 rfl
  ·rw [hna.ob]at hsa;cases hsa
  ·exact q2 rfl
  ·exact q3 rfl
 have tm:∀{a:Addr} {vs:List V},H a=some (.tup vs)->a∉[ma,na,la,wa]:=λ{a vs} e h=>by
  simp only [ab0,ad3,or_false]at h;rcases h with rfl | rfl | rfl | rfl
  ·rw [hma]at e;cases e
  ·rw [hna.ob]at e;cases e
  ·rw [hla]at e;cases e
  ·rw [hwa]at e;cases e
 have toS:∀{H':Hp},xg [ma,na,la,wa] H H'->ar Hs H':=λ{H'} sx b o e=>by
  refine sx b o (λh=>?_) (sHs b o e);simp only [ab0,ad3,or_false]at h;rcases h with rfl | rfl | rfl | rfl
  ·rw [z1]at e;cases e
  ·rw [z2]at e;cases e
  ·rw [z3]at e;cases e
  ·rw [z4]at e;cases e
 have lenU:∀{H':Hp} {met:List MS} {ds:List Addr},iO P w Ss Gs cols nv U H ma na la wa H' met ds->met.length<=U.length:=λB=>n6 _ U B.mf.nd λs hs=>(B.al s hs).1;have szU:=CU.sz;refine aV (λZ H'=>H=H'/\Z=[↑x,↑ma,↑na,↑sa,↑rb,none,none,none,none,none]) ?_ ?_
 ·intro u' hu
  tm_at "r";exact⟨C,dx,_,hx,TC.cl,TC.n3,_,uo la wa sc,sc,rfl,Cs,dsc,_,hsc,TS.cl,TS.n2,_,nW ra rb,hu _ _ ⟨rfl,rfl⟩⟩
 rintro Ω ω _ _ ⟨rfl,rfl⟩;obtain⟨W,hW⟩:∃W:Nat->L2.St->Hp->Prop,W=λm Z H'=>∃(met:List MS) (ds:List Addr) (o5 o6 o7 o8 o9:Option V),iO P w Ss Gs cols nv U H ma na la wa H' met ds/\m=U.length - ds.length/\Z=[↑x,↑ma,↑na,↑sa,↑rb,o5,o6,o7,o8,o9]:=⟨_,rfl⟩;refine ω _ _ ?_;refine⟨W,⟨U.length,?_⟩,?_⟩
 ·rw [hW]
  refine⟨[(none,Ss.map (·.start))],[],none,none,none,none,none,⟨⟨[p0],hma,rfl,λj p t e1 e2=>?_⟩,⟨_,hna,⟨λj t e=>?_,λk hk=>?_⟩,aa7 _⟩,hla,λi d t e=>(by cases e),(λd hd=>by cases hd),hwa,ac1 _,⟨by simp,rfl,λi t e hi=>?_⟩,λt ht=>?_,λb o _ e=>e⟩,rfl,rfl⟩
  ·have hj:j=0:=by
    have:=(aa3.mp e1).1
    simp at this;exact this
   subst hj;cases e1;cases e2;exact hp0
  ·have hj:j=0:=by
    have:=(aa3.mp e).1
    simp at this;exact this
   subst hj;cases e;simp [hV]
  ·refine⟨(none,Ss.map (·.start)),by simp,?_⟩
   by_cases e:k=cg (none,Ss.map (·.start))
   ·exact e
   ·refine absurd ?_ hk
    unfold hV;rw [an4,decide_eq_false (λz=>e z.symm)];rfl
  ·have hj:i=0:=by
    have:=(aa3.mp e).1
    simp at this;exact this
   omega
  ·rw [ac3.mp ht]
   exact⟨CU.st,hM0,λc e=>by cases e⟩
 intro m Z H1 hI;rw [hW]at hI;obtain⟨met,ds,o5,o6,o7,o8,o9,B,rfl,rfl⟩:=hI;have hx1:=B.sx x _ xm hx;obtain⟨ps,hm1,hpl,hpk⟩:=B.mt;have ltU:=lenU B;refine GF λA0 B0 hA hB=>?_;tm_at "r";refine⟨C,dx,_,hx1,TC.cl,TC.n1,_,fb la wa sc,.inr ⟨_,rfl,_,.inl (aF.of B.la_),_,.inl (aF.of hm1),?_⟩⟩;rw [aa1,aa1,hpl]
 by_cases hlt:(ds.length:Int) < (met.length:Int)
 ·rw [if_pos hlt]
  refine hA _ ?_
  have hlt:ds.length < met.length:=by omega
  obtain⟨st,hst⟩:∃st,met[ds.length]?=some st:=⟨_,aa2 hlt⟩;obtain⟨pp,hpp⟩:∃pp,ps[ds.length]?=some pp:=⟨_,aa2 ()⟩;obtain⟨vs,hv1,hv2⟩:=hpk _ _ _ hpp hst
  obtain⟨bx,mA,rfl,hbx,hmA⟩:∃bx mA,vs=[bx,.ref mA]/\nS H1 st.1 bx/\H1 mA=some (.tup (st.2.map V.int)):=by
   cases vs with
   | nil=>exact hv2.elim
   | cons v1 vs=>
    cases vs with
    | nil=>exact hv2.2.elim
    | cons v2 vs=>
     cases vs with
     | nil=>
      obtain⟨g1,⟨b,e,g2⟩,_⟩:=hv2;exact⟨v1,b,by rw [e],g1,g2⟩
     | cons _ _=>exact hv2.2.2.elim
  obtain⟨hstU,hstM,hstW⟩:=B.al st (ab8 hst)
  have hbv:∀H',ar H1 H'->BV K H' nv st.1 bx:=λH' s'=>by
   cases e:st.1 with
   | none=>
    rw [e]at hbx;exact .inl ⟨rfl,hbx⟩
   | some c=>
    rw [e]at hbx;obtain⟨b,rfl,hb⟩:=hbx;exact .inr ⟨b,c,rfl,rfl,cT.of (s' _ _ hb),hstW c e⟩
  obtain⟨N,hN⟩:∃N:L2.St->Hp->Prop,N=λZ H'=>∃(met':List MS) (ds':List Addr) (o5 o6 o7 o8 o9:Option V),iO P w Ss Gs cols nv U H ma na la wa H' met' ds'/\ds'.length=ds.length+1/\Z=[↑x,↑ma,↑na,↑sa,↑rb,o5,o6,o7,o8,o9]:=⟨_,rfl⟩;refine⟨N,λZc H' h=>?_,?_⟩
  ·rw [hN]at h
   obtain⟨met',ds',o5,o6,o7,o8,o9,B',hl',rfl⟩:=h;refine⟨U.length - ds'.length,(),?_⟩;rw [hW];exact⟨met',ds',o5,o6,o7,o8,o9,B',rfl,rfl⟩
  have at1:∀Q',Q' bx H1->tO K (V.ref ma) (V.int ds.length) H1 λy H2=>tO K y (V.int 0) H2 Q':=λQ' h'=>aR (aF.of hm1) (aE (by rw [aa5,hpp];rfl)) (eD (cT.of hv1) (bC rfl) h');have at2:∀Q',Q' (V.ref mA) H1->tO K (V.ref ma) (V.int ds.length) H1 λy H2=>tO K y (V.int 1) H2 Q':=λQ' h'=>aR (aF.of hm1) (aE (by rw [aa5,hpp];rfl)) (eD (cT.of hv1) (show fC _ ((1:Nat):Int)=_ from aE rfl) h');refine aV (λZ H'=>H1=H'/\Z=[↑x,↑ma,↑na,↑sa,↑rb,some bx,o6,o7,o8,o9]) ?_ ?_
  ·intro u2 fE
   tm_at "r";refine⟨C,dx,_,hx1,TC.cl,TC.n1,_,fb la wa sc,.inr ⟨_,rfl,_,.inl (aF.of B.la_),?_⟩⟩;rw [aa1];exact at1 _ (fE _ _ ⟨rfl,rfl⟩)
  rintro Ω ω _ _ ⟨rfl,rfl⟩;refine ω _ _ (aV (λZ H'=>H1=H'/\Z=[↑x,↑ma,↑na,↑sa,↑rb,some bx,↑mA,o7,o8,o9]) ?_ ?_)
  ·intro u2 fE
   tm_at "r";refine⟨C,dx,_,hx1,TC.cl,TC.n1,_,fb la wa sc,.inr ⟨_,rfl,_,.inl (aF.of B.la_),?_⟩⟩;rw [aa1];exact at2 _ (fE _ _ ⟨rfl,rfl⟩)
  rintro Ω ω _ _ ⟨rfl,rfl⟩;refine ω _ _ (aV (λZ H'=>∃dA:Addr,H1 dA=none/\bH (tN P w) H' dA []/\ar H1 H'/\Z=[↑x,↑ma,↑na,↑sa,↑rb,some bx,↑mA,↑dA,o8,o9]) ?_ ?_)
  ·intro u2 fE
   simp only [jq,wQ,BC,iI];tm_at "r";exact λp hp=>fE _ _ ⟨p,hp,⟨ae,(λ_ z=>nomatch z),List.nodup_nil,ac1 _⟩,aq hp,rfl⟩
  rintro Ω ω _ H2 ⟨dA,hd1,hD2,s12,rfl⟩
  have inH:∀{z:Addr},z∈[ma,na,la,wa]->H1 z≠none:=λ{z} h e=>by
   simp only [ab0,ad3,or_false]at h;rcases h with rfl | rfl | rfl | rfl
   ·rw [hm1]at e;cases e
   ·obtain⟨xs,D,_⟩:=B.nm;rw [D.ob]at e;cases e
   ·rw [B.la_]at e;cases e
   ·rw [B.wl]at e;cases e
  have dnot:dA∉[ma,na,la,wa]:=λh=>inH h hd1
  have hd0:H dA=none:=by
   cases e:H dA with
   | none=>rfl
   | some o=>rw [B.sx dA o dnot e]at hd1;cases hd1
  have dds:∀d∈ds,d≠dA:=λd hd e=>by
   obtain⟨j,hj⟩:=ah0 hd;obtain⟨s',hs'⟩:∃s',met[j]?=some s':=⟨_,aa2 (ab6 (aa3.mp hj).1 B.le)⟩;obtain⟨xs,D,_⟩:=B.ld j d s' hj hs'
   have:=D.ob
   rw [e,hd1]at this;cases this
  have n4:dA≠ma/\dA≠na/\dA≠la/\dA≠wa:=⟨λe=>dnot (by simp [e]),λe=>dnot (by simp [e]),λe=>dnot (by simp [e]),λe=>dnot (by simp [e])⟩;have tup1:∀{b:Addr} {ws:List V},H b=some (.tup ws)->H2 b=some (.tup ws):=λe=>s12 _ _ (B.sx _ _ (tm e) e);have B2:=B.same s12;obtain⟨Pv,hPv⟩:∃Pv:Nat->L2.St->Hp->Prop,Pv=λi Z H'=>∃(met':List MS) (ys:List (List Int×Addr×V)) (o8 o9:Option V),iO P w Ss Gs cols nv U H ma na la wa H' met' ds/\met'[ds.length]?=some st/\bH (tN P w) H' dA ys/\ef Ss (cols.take i) met' st ys/\ys.length<=i/\(∀b ws,H2 b=some (.tup ws)->H' b=some (.tup ws))/\Z=[↑x,↑ma,↑na,↑sa,↑rb,some bx,↑mA,↑dA,o8,o9]:=⟨_,rfl⟩;refine ω _ _ (aV (λZ H'=>Pv cols.length Z H') ?_ ?_)
  ·intro u2 fE
   refine iJ λk9 hk9=>?_;simp only [xO];tm_at "r";refine bJ (aF.of (B2.sx sa _ sm hsa)) (cq (xs:=cs.map V.ref) Pv (by rw [hPv];exact⟨met,[],o8,o9,B2,hst,hD2,⟨λc hc=>(by rw [List.take_zero]at hc;cases hc),λ_ _=>rfl,rfl⟩,ac1 _,λ_ _ e=>e,rfl⟩) (λi Z H' _ h=>?_) ?_ ?_)
   ·rw [hPv]at h
    obtain⟨_,_,_,_,B',_⟩:=h;exact aF.of (B'.sx sa _ sm hsa)
   ·intro i y Z H3 hy hI
    rw [hPv]at hI;obtain⟨met3,ys,o8,o9,B3,hst3,hD3,L3,hyl,keep3,rfl⟩:=hI;rw [aa5]at hy
    cases hci:cs[i]? with
    | none=>rw [hci]at hy;cases hy
    | some ca=>
     rw [hci]at hy;cases hy
     have hi:i < cols.length:=by rw [<-hT.1];exact(aa3.mp hci).1
     obtain⟨c,hc⟩:∃c,cols[i]?=some c:=⟨_,aa2 hi⟩;have hcm:=ab8 hc;have hca:=keep3 _ _ (tup1 (hT.2 i ca c hci hc));have hmA3:=keep3 _ _ (s12 _ _ hmA)
     have hbv3:BV K H3 nv st.1 bx:=by
      cases e:st.1 with
      | none=>
       rw [e]at hbx;exact .inl ⟨rfl,hbx⟩
      | some c'=>
       rw [e]at hbx;obtain⟨b,rfl,hb⟩:=hbx;exact .inr ⟨b,c',rfl,rfl,cT.of (keep3 _ _ (s12 _ _ hb)),hstW c' e⟩
     have lU3:=lenU B3;simp only [iI];refine aV (λZ H'=>∃fA:Addr,((cC Ss st c=none/\H' fA=some (.tup [.ref ca,.non]))\/∃ms' p,fM Ss st.2 st.1 c=some ms'/\rQ Gs ms'/\H' p=some (.tup (ms'.map V.int))/\H' fA=some (.tup [.ref ca,.ref p]))/\ar H3 H'/\Z=[↑x,↑ma,↑na,↑sa,↑rb,some bx,↑mA,↑dA,↑ca,↑fA]) ?_ ?_
     ·intro u3 hu3
      tm_at "r";refine⟨rb,mA,ca,bx,nv,Ss,Gs,rs,st.2,c,st.1,rfl,RM.same (toS B3.sx),lS,cT.of hmA3,hstM,hbv3,cT.of hca,hcw c hcm,λhno H4 s34=>⟨(),λfA hfA=>hu3 _ _ ⟨fA,.inl ⟨?_,ae⟩,s34.upd hfA,rfl⟩⟩,λms' hms hMs p H4 hp _ s34=>⟨(),λfA hfA=>hu3 _ _ ⟨fA,.inr ⟨ms',p,hms,hMs,(aq hfA) _ _ hp,ae⟩,s34.upd hfA,rfl⟩⟩⟩;unfold cC;rw [hno];rfl
     rintro Ω ω _ H4 ⟨fA,hcase,s34,rfl⟩;have B4:=B3.same s34;have hD4:=hD3.same s34;have hca4:=s34 _ _ hca;refine ω _ _ ?_;rcases hcase with⟨hno,hf4⟩ | ⟨ms',p,hms,hMs,hp4,hf4⟩
     ·refine jF λA1 B1 hA1 hB1=>?_
      tm_at "r";refine eD (cT.of hf4) (show fC _ ((1:Nat):Int)=_ from aE rfl) ?_;rw [if_pos rfl];refine hA1 _ ?_;simp only [jq,Bx];show Pv (i+1) _ _;rw [hPv];exact⟨met3,ys,_,_,B4,hst3,hD4,L3.skip hc hno,(),λb ws e=>s34 _ _ (keep3 b ws e),rfl⟩
     ·have hnx:cC Ss st c=some (some c,ms'):=by
       unfold cC;rw [hms];rfl
      have hkey:(iM P w).at_ H4 (cg (some c,ms')) fA:=⟨_,hf4,⟨ca,rfl,hca4⟩,⟨p,rfl,hp4⟩,True.intro⟩;refine jF λA1 B1 hA1 hB1=>?_;tm_at "r";refine eD (cT.of hf4) (show fC _ ((1:Nat):Int)=_ from aE rfl) ?_;rw [if_neg (λe=>by cases e)];refine hB1 _ ?_;refine aV (λZ H'=>∃met5,iO P w Ss Gs cols nv U H ma na la wa H' met5 ds/\met5[ds.length]?=some st/\(some c,ms')∈met5/\bH (tN P w) H' dA ys/\ef Ss (cols.take i) met5 st ys/\(∀b ws,H4 b=some (.tup ws)->H' b=some (.tup ws))/\Z=[↑x,↑ma,↑na,↑sa,↑rb,some bx,↑mA,↑dA,↑ca,↑fA]) ?_ ?_
      ·intro u3 hu3
       obtain⟨xs,D4,N4,xl⟩:=B4.nm;obtain⟨ps4,g1,g2,g3⟩:=B4.mt;refine jF λA2 B2' hA2 hB2=>?_;tm_at "r";refine⟨na,fA,cg (some c,ms'),xs,rfl,rfl,D4,hkey,_,rfl,?_⟩
       cases ea:hV xs (cg (some c,ms'))with
       | none=>
        rw [if_pos (show(!(none:Option V).isSome)=true from rfl)];refine hA2 _ (lz λk7 hk7=>?_);tm_at "r";refine⟨_,.inl (aF.of g1),na,fA,cg (some c,ms'),xs,rfl,rfl,D4,hkey,?_⟩;rw [aa1,g2];refine hk7 _ _ ?_;tm_at "r"
        have ntN:∀vs,H4 na≠some (.tup vs):=λvs e=>by rw [D4.ob]at e;cases e
        have hm4:(L2.upd H4 na (dO (iM P w) na (eB xs (cg (some c,ms')) fA (.int met3.length)))) ma=some (.lst (ps4.map V.ref)):=by rw [aj mna];exact g1
        have ntM:∀vs,(L2.upd H4 na (dO (iM P w) na (eB xs (cg (some c,ms')) fA (.int met3.length)))) ma≠some (.tup vs):=λvs e=>by rw [hm4]at e;cases e
        have hnew:=N4.fresh ea;have hltm:ds.length < met3.length:=(aa3.mp hst3).1;refine⟨.inl ⟨rfl,_,aF.of hm4⟩,ma,_,_,rfl,rfl,hm4,by rw [aa1];omega,hu3 _ _ ⟨met3++[(some c,ms')],B4.put D4 N4 xl g1 g2 g3 hkey hnew (CU.cl st hstU c hcm _ hnx) hMs (λc' e=>by cases e;exact hcw c hcm) hst3 hcm hnx () mna n1 n2 nla nwa (by rw [hma];exact λe=>by cases e) (by rw [hna.ob];exact λe=>by cases e),?_,by simp,?_,L3.more _,λb ws e=>?_,rfl⟩⟩
        ·rw [ab1 hltm]
         exact hst3
        ·exact(hD4.upd n4.2.1 ntN).upd n4.1 ntM
        ·have h1:b≠na:=λq=>ntN ws (by rw [<-q];exact e)
         have h2:b≠ma:=λq=>by rw [q,g1]at e;cases e
         rw [aj h2,aj h1];exact e
       | some z=>
        rw [if_neg (by simp)];obtain⟨j,hj,_⟩:=N4.known (s:=(some c,ms')) (by rw [ea];exact λe=>by cases e);exact hB2 _ (hu3 _ _ ⟨met3,B4,hst3,ab8 hj,hD4,L3,λ_ _ e=>e,rfl⟩)
      rintro Ω ω _ H5 ⟨met5,B5,hst5,hin5,hD5,L5,keep5,rfl⟩;refine ω _ _ ?_;tm_at "r";obtain⟨xs5,D5,N5,_⟩:=B5.nm;obtain⟨j,hj⟩:=ah0 hin5;have hf5:=keep5 _ _ hf4;have hca5:=keep5 _ _ hca4;have hkey5:(iM P w).at_ H5 (cg (some c,ms')) fA:=⟨_,hf5,⟨ca,rfl,hca5⟩,⟨p,rfl,keep5 _ _ hp4⟩,True.intro⟩
      have ntD:∀vs,H5 dA≠some (.tup vs):=λvs e=>by rw [hD5.ob]at e;cases e
      refine⟨na,fA,_,xs5,.int j,rfl,rfl,D5,hkey5,N5.1 j _ hj,dA,ca,c,ys,rfl,rfl,hD5,hca5,?_⟩;rw [hPv];refine⟨met5,_,_,_,B5.upd ntD hd0 n4.1 n4.2.1 n4.2.2.1 n4.2.2.2 dds,hst5,hD5.put hca5 (),L5.put hc hnx hj hnd,?_,λb ws e=>?_,rfl⟩
      ·unfold eB
       split
       ·rw [aa1];omega
       ·rw [ab2];simp;omega
      ·have h5:=keep5 _ _ (s34 _ _ (keep3 b ws e))
       rw [aj (λq=>ntD ws (by rw [<-q];exact h5))];exact h5
   ·intro Z H3 hI
    rw [aa1,hT.1]at hI;exact hk9 _ _ (fE _ _ hI)
  intro Ω ω;intro Z H3 hI;rw [hPv]at hI;obtain⟨met3,ys,o8,o9,B3,hst3,hD3,L3,hyl,keep3,rfl⟩:=hI;rw [ad4]at L3;have hx3:=B3.sx x _ xm hx;have hlt3:ds.length < met3.length:=(aa3.mp hst3).1;have lU3:=lenU B3;refine ω _ _ (aV (λZ H'=>H'=L2.upd H3 la (.lst (ds.map V.ref++[.ref dA]))/\Z=[↑x,↑ma,↑na,↑sa,↑rb,some bx,↑mA,↑dA,o8,o9]) ?_ ?_)
  ·intro u2 fE
   tm_at "r";exact⟨C,dx,_,hx3,TC.cl,TC.n1,_,fb la wa sc,.inl ⟨rfl,_,aF.of B3.la_⟩,la,_,_,rfl,rfl,B3.la_,by rw [aa1];omega,fE _ _ ⟨rfl,rfl⟩⟩
  rintro Ω ω _ _ ⟨rfl,rfl⟩;refine ω _ _ ?_;tm_at "r";have xla:x≠la:=λe=>xm (by simp [e])
  have ntL:∀vs,H3 la≠some (.tup vs):=λvs e=>by rw [B3.la_]at e;cases e
  have hw3:(L2.upd H3 la (.lst (ds.map V.ref++[.ref dA]))) wa=some (.lst ((met3.take ds.length).map λs=>V.bl (dG Ss s.2 s.1))):=by rw [aj n3.symm];exact B3.wl
  have sS3:ar Hs (L2.upd H3 la (.lst (ds.map V.ref++[.ref dA]))):=BI z3 (toS B3.sx)
  have tk:∀{b:Addr} {ws:List V},H2 b=some (.tup ws)->(L2.upd H3 la (.lst (ds.map V.ref++[.ref dA]))) b=some (.tup ws):=λ{b ws} e=>by
   have h3:=keep3 _ _ e;rw [aj (λq=>ntL ws (by rw [<-q];exact h3))];exact h3
  have hbv3:BV K (L2.upd H3 la (.lst (ds.map V.ref++[.ref dA]))) nv st.1 bx:=by
   cases e:st.1 with
   | none=>
    rw [e]at hbx;exact .inl ⟨rfl,hbx⟩
   | some c'=>
    rw [e]at hbx;obtain⟨b,rfl,hb⟩:=hbx;exact .inr ⟨b,c',rfl,rfl,cT.of (tk (s12 _ _ hb)),hstW c' e⟩
  refine⟨C,dx,_,by rw [aj xla];exact hx3,TC.cl,TC.n2,_,xv la wa sc,.inl ⟨rfl,_,aF.of hw3⟩,rb,mA,bx,nv,Ss,Gs,rs,st.2,st.1,rfl,RM.same sS3,lS,cT.of (tk (s12 _ _ hmA)),hstM,hbv3,λH4 s4=>⟨wa,_,_,rfl,rfl,s4 _ _ hw3,by rw [aa1,ad1];omega,?_⟩⟩;rw [hN];exact⟨met3,ds++[dA],_,_,_,_,_,B3.close hD3 L3 hst3 hd0 n1 n2 nla nwa n3 (by rw [hla];exact λe=>by cases e) (by rw [hwa];exact λe=>by cases e) s4,by rw [ab2];rfl,rfl⟩
 ·rw [if_neg hlt]
  refine hB _ ?_;have le:=B.le
  have e:ds.length=met.length:=by omega
  refine k met H1 B.mf (λs hs=>(B.al s hs).1) (λs hs c hc s' hn=>?_) ⟨ds,B.la_,e,?_,B.ld⟩ B.sx
  ·obtain⟨j,hj⟩:=ah0 hs
   obtain⟨d,hd⟩:∃d,ds[j]?=some d:=⟨_,aa2 (by rw [e];exact(aa3.mp hj).1)⟩;obtain⟨xs,_,L⟩:=B.ld j d s hd hj;obtain⟨j',g,_⟩:=L.1 c hc s' hn;exact ab8 g
  ·have:=B.wl
   rw [e,ad4]at this;exact this
def fN(P:Program)(w:World)(C:Addr)(Ss:List bU)(cols:List (List Int))(met:List MS)(x:Addr)(H:Hp):Prop:=∃dx la wa sc:Addr,H x=some (.ins C dx (bD la wa sc))/\nF P w Ss cols la wa H met
theorem fN.same(h:fN P w C Ss cols met x H)(s:ar H H'):fN P w C Ss cols met x H':=by
 obtain⟨dx,la,wa,sc,h1,ds,h2,h3,h4,h5⟩:=h;exact⟨dx,la,wa,sc,s _ _ h1,ds,s _ _ h2,h3,s _ _ h4,λi d t e1 e2=>let ⟨xs,g1,g2⟩:=h5 i d t e1 e2;⟨xs,g1.same s,g2⟩⟩
def xG(P:Program)(w:World)(C:Addr):Sp:=λvs H Q _=>∃(x:Addr) (Ss:List bU) (cols:List (List Int)) (met:List MS),vs=[.ref x]/\fN P w C Ss cols met x H/\Q (.int met.length) H
def Gu(P:Program)(w:World)(C:Addr):Sp:=λvs H Q _=>∃(x ca:Addr) (Ss:List bU) (cols:List (List Int)) (met:List MS) (i:Nat) (c:List Int) (s:MS),vs=[.ref x,.int i,.ref ca]/\fN P w C Ss cols met x H/\met[i]?=some s/\H ca=some (.tup (c.map V.int))/\
 (∀(j:Nat) s',c∈cols->cC Ss s c=some s'->met[j]?=some s'->Q (.int j) H)/\((c∈cols->cC Ss s c=none)->Q .non H)
def tE(P:Program)(w:World)(C:Addr):Sp:=λvs H Q _=>∃(x:Addr) (Ss:List bU) (cols:List (List Int)) (met:List MS) (i:Nat) (s:MS),vs=[.ref x,.int i]/\fN P w C Ss cols met x H/\met[i]?=some s/\Q (.bl (dG Ss s.2 s.1)) H
def kU(K:Frag)(C:Addr):Sp:=λvs H Q _=>∃(x dx:Addr),vs=[.ref x]/\H x=some (.ins C dx [])/\∀l w H',H l=none->H w=none->w≠l->H'=upd (upd (upd H l (.lst [])) w (.lst [])) x (.ins C dx (br "well" (.ref w) (br "leads" (.ref l) [])))->Q .non H'
inductive jZ(P:Program)(w:World)(K:Frag)(mg:Str->Option Value)(base:Heap)(C Cs:Addr):Sp
 | mk {vs:List V} {H:Hp} {Q:VK} {E:XK} (x dx sc:Addr) (nv:Nat) (bs:List (Int×Int)) (Ss:List bU) (Gs:List (Int->Prop)) (U:List MS) (H0:Hp):vs=[.ref x,.ref sc]->H x=some (.ins C dx [])->H0 x=none->ar H0 H->~~~rR Cs nv bs Ss Gs sc H0->Ss.length<=100->rQ Gs (Ss.map (·.start))->bs.length=nv->bs.length<=4->(∀b∈bs,1<=wN b)->m8 bs<=400->vg Ss (aQ bs) U->(∀met H',w6 Ss (aQ bs) met->(∀s∈met,s∈U)->(∀(s:MS),s∈met->∀c∈aQ bs,∀s',cC Ss s c=some s'->s'∈met)->(∃dx la wa:Addr,H' x=some (.ins C dx (bD la wa sc))/\nF P w Ss (aQ bs) la wa H' met)->(∀b o,b≠x->H b=some o->H' b=some o)->Q .non H')->~~~jZ C Cs vs H Q E
theorem CJ(F:cc K "ends" "States.ends" gE f fd)(T:Txt mg aM)(TC:dF K C): ~~~aG bV 1 f fd ["self","state"] (tE P w C):=by
 refine F.ok oN λ_ A _ s H vs Q E hr h=>?_;obtain⟨x,Ss,cols,met,i,st,rfl,⟨dx,la,wa,sc,hx,ds,h1,h2,h3,h4⟩,hst,q⟩:=h;refine⟨rfl,_,(ai (av (aD (aW K) (aL (pr 0) rfl) (pr 1) (λ_ _=>rfl)))),?_⟩;tm_at "r";exact⟨C,dx,_,hx,TC.cl,TC.n2,_,xv la wa sc,aR (aF.of h3) (aE (by rw [aa5,hst];rfl)) q⟩
theorem oq(F:cc K "__init__" "States.__init__" eo f fd)(T:Txt mg aM)(TC:dF K C): ~~~aG bV 1 f fd ["self"] (kU K C):=by
 refine F.ok jY λ_ A _ s H vs Q E hr h=>?_;obtain⟨x,dx,rfl,hx,k⟩:=h
 refine⟨rfl,_,(af (bM (pr 0) (bu ag) rfl)
 (ai (bM (pr 0) (bu ag) rfl))),?_⟩
 have hs:=sizeLine_eq;tm_at "r";have ln:∀(f:Str) (v:V) (l:List (Str×V)) (n:Nat),l.length<=n->(br f v l).length<=n+1:=λf v l n h=>ac2 (bE f v l) (ae7 h);refine⟨(),λl hl=>?_⟩
 have lx:l≠x:=λe=>by subst e;rw [hx]at hl;cases hl
 refine⟨C,dx,[],by rw [aj (Ne.symm lx)];exact hx,TC.cl,TC.n1,∅,(),λw' hw=>?_⟩
 have wx:w'≠x:=λe=>by subst e;rw [ae]at hw;cases hw
 rw [aj wx]at hw
 have wl:w'≠l:=λe=>by subst e;rw [ae]at hw;cases hw
 rw [aj wl]at hw;refine⟨C,dx,_,by rw [aj (Ne.symm wx),ae],TC.cl,TC.n2,ab5 (ln _ _ _ _ (ac1 0)) ∅,?_⟩;refine k l w' _ hl hw wl ?_;rw [fj]
theorem AH(F:cc K "size" "States.size" gF f fd)(T:Txt mg aM)(TC:dF K C): ~~~aG bV 1 f fd ["self"] (xG P w C):=by
 refine F.ok oO λ_ A _ s H vs Q E hr h=>?_;obtain⟨x,Ss,cols,met,rfl,⟨dx,la,wa,sc,hx,ds,h1,h2,_⟩,q⟩:=h;refine⟨rfl,_,(ai (av (aA (aJ K) ⋯ T.n_len boot_len (aa (aL (pr 0) rfl) ag)))),?_⟩;tm_at "r";refine⟨C,dx,_,hx,TC.cl,TC.n1,_,fb la wa sc,.inr ⟨_,rfl,_,.inl (aF.of h1),?_⟩⟩;rw [aa1,h2];exact q
theorem F7(F:cc K "to" "States.to" jc f fd)(T:Txt mg aM)(TC:dF K C): ~~~aG bV 1 f fd ["self","state","column"] (Gu P w C):=by
 refine F.ok td λ_ A _ s H vs Q E hr h=>?_;obtain⟨x,ca,Ss,cols,met,i,c,st,rfl,⟨dx,la,wa,sc,hx,ds,h1,h2,h3,h4⟩,hst,hc,q1,q2⟩:=h;refine⟨rfl,_,(ai (av (C3 (kk':=tN P w) (fE hr) (aD (aW K) (aL (pr 0) rfl) (pr 1) (λ_ _=>rfl)) (aa (pr 2) ag)))),?_⟩;tm_at "r";obtain⟨d,hd⟩:∃d,ds[i]?=some d:=⟨_,aa2 (by rw [h2];exact(aa3.mp hst).1)⟩;obtain⟨xs,D,L⟩:=h4 i d st hd hst;refine⟨C,dx,_,hx,TC.cl,TC.n1,_,fb la wa sc,aR (aF.of h1) (aE (by rw [aa5,hd];rfl)) ?_⟩;refine⟨⟨d,rfl,xs,D⟩,d,ca,c,xs,rfl,rfl,D,hc,?_⟩
 by_cases hcc:c∈cols
 ·cases hn:cC Ss st c with
  | none=>
   rw [L.2.1 c λ_=>hn];exact q2 λ_=>hn
  | some s'=>
   obtain⟨j,hj,ha⟩:=L.1 c hcc s' hn;rw [ha];exact q1 j s' hcc hn hj
 ·rw [L.2.1 c λh=>absurd h hcc]
  exact q2 λh=>absurd h hcc
theorem sG(F:cc K "__init__" "Machine.__init__" dW f fd)(T:Txt mg aM)(TC:dF K C)(TS:eY K Cs)(DC_States___init__: ~~~iQ "States" "__init__" 10 ["self"] (kU K C))(D_columns: ~~~cN "columns" 10 ["score"] (gZ K Cs))(M_build: ~~~aC C "build" 10 ["self","met","numbers","steps"] (~~~tD C Cs)):
  ~~~aG bV 11 f fd ["self","score"] (~~~jZ C Cs):=by
 refine F.ok sc_Machine___init__ λ_ A _ s H vs Q E hr h=>?_;obtain⟨x,dx,sc,nv,bs,Ss,Gs,U,H0,rfl,hx,hx0,s0,⟨dsc,ra,rb,rs,hsc,RA,RM⟩,lS,hM0,hnv,lb,hw,hc,CU,k⟩:=h
 refine⟨rfl,_,(af (bq (dD DC_States___init__ hr ⋯ (aa (pr 0) ag)))
 (af (bM (pr 0) (pr 1) rfl)
 (af (cW (i:=2) sc_Machine___init__.nd (gw (aa aH (aa (bo (iX K) ⋯ T.n_tuple boot_tuple (aa (cQ (own:=["rule"]) (js:=[]) rfl (bI K (aL (pr 1) rfl)) (bG.of ⋯) (λ_ _ _ _ _=>(bN (i:=0) (show List.Nodup (["rule"]:List Str)from by decide +kernel) rfl (Or.inl rfl))) (λ_ _ _ _ _=>cI) (λ_ _ _ _ _=>(~~~dX hr (pr 0)))) ag)) ag))))
 (ai (bq (~~~fc hr (pr 0) (aa (bu (aa (pr 2) ag)) (aa (C7 (kk':=iM P w) (fE hr) (pr 2) (iN T.g_START) (ED (fE hr))) (aa (az D_columns hr ⋯ (aa (pr 1) ag)) ag))))))))),?_⟩
 have hs:=sizeLine_eq
 have scx:sc≠x:=λe=>by rw [e,hx0]at hsc;cases hsc
 refine aV (λZ H'=>∃la wa:Addr,H la=none/\H wa=none/\wa≠la/\H'=upd (upd (upd H la (.lst [])) wa (.lst [])) x (.ins C dx (br "well" (.ref wa) (br "leads" (.ref la) [])))/\Z=[↑x,↑sc,none]) ?_ ?_
 ·intro u' hu
  tm_at "r";exact⟨x,dx,rfl,hx,λl w' H' hl hw' hne e=>hu _ _ ⟨l,w',hl,hw',hne,e,rfl⟩⟩
 rintro Ω ω _ H1 ⟨la,wa,hla,hwa,nwl,eH1,rfl⟩
 have hx1:H1 x=some (.ins C dx (br "well" (.ref wa) (br "leads" (.ref la) []))):=by rw [eH1,ae]
 refine ω _ _ (aV (λZ H'=>H'=upd H1 x (.ins C dx (bD la wa sc))/\Z=[↑x,↑sc,none]) ?_ ?_)
 ·intro u' hu
  tm_at "r";have ln:∀(f:Str) (v:V) (l:List (Str×V)) (n:Nat),l.length<=n->(br f v l).length<=n+1:=λf v l n h=>ac2 (bE f v l) (ae7 h);exact⟨C,dx,_,hx1,TC.cl,TC.n3,ab5 (ln _ _ _ _ (ln _ _ _ _ (ac1 0))) ∅,hu _ _ ⟨rfl,rfl⟩⟩
 rintro Ω ω _ H2 ⟨eH2,rfl⟩
 have lax:la≠x:=λe=>by rw [e,hx]at hla;cases hla
 have wax:wa≠x:=λe=>by rw [e,hx]at hwa;cases hwa
 have e2:H2=upd (upd (upd H la (.lst [])) wa (.lst [])) x (.ins C dx (bD la wa sc)):=by rw [eH2,eH1,bS]
 have hx2:H2 x=some (.ins C dx (bD la wa sc)):=by rw [e2,ae]
 have hla2:H2 la=some (.lst []):=by rw [e2,aj lax,aj nwl.symm,ae]
 have hwa2:H2 wa=some (.lst []):=by rw [e2,aj wax,ae]
 have old2:∀b o,b≠x->H b=some o->H2 b=some o:=λb o hb e=>by rw [e2,aj hb,aj (ao e hwa),aj (ao e hla)];exact e
 have s02:ar H0 H2:=λb o e=>old2 b o (λq=>by rw [q,hx0]at e;cases e) (s0 _ _ e)
 have hla0:H0 la=none:=by
  cases e:H0 la with
  | none=>rfl
  | some o=>rw [s0 _ _ e]at hla;cases hla
 have hwa0:H0 wa=none:=by
  cases e:H0 wa with
  | none=>rfl
  | some o=>rw [s0 _ _ e]at hwa;cases hwa
 clear e2 eH2 eH1 hx1;clear H1;have RM2:=RM.same s02
 refine ω _ _ (aV (λZ H'=>∃bg mA:Addr,H' bg=some (.tup [.non,.ref mA])/\H' mA=some (.tup ((Ss.map (·.start)).map V.int))/\ar H2 H'/\Z=[↑x,↑sc,↑bg]) ?_ ?_)
 ·intro u' hu
  tm_at "r";have lr:=RM.len;have lg:=RM.gl
  refine⟨Cs,dsc,_,s02 _ _ hsc,TS.cl,TS.n2,_,nW ra rb,bJ RM2.sq (cu (xs:=rs.map V.ref) (λi ys H'=>ys=((Ss.take i).map (·.start)).map V.int/\H2=H') (by rw [aa1];omega) ⟨rfl,rfl⟩ ?_ ?_ ?_ ?_)⟩
  ·rintro i ys H' ⟨rfl,rfl⟩
   rw [aa1,aa1,ad1];omega
  ·rintro i ys H' ⟨rfl,rfl⟩
   exact RM2.sq
  ·rintro i y ys H' hy ⟨rfl,rfl⟩
   rw [aa5]at hy
   cases hri:rs[i]? with
   | none=>rw [hri]at hy;cases hy
   | some r=>
    rw [hri]at hy;cases hy
    have hi:i < Ss.length:=by rw [<-lr];exact(aa3.mp hri).1
    obtain⟨S,hS⟩:∃S,Ss[i]?=some S:=⟨_,aa2 hi⟩;obtain⟨G,hG⟩:∃G,Gs[i]?=some G:=⟨_,aa2 ()⟩;obtain⟨Cr,RI,RO,hRI⟩:=RM2.at_ i r S G hri hS hG;obtain⟨dr,fs,hir,z1,z2,z3,z4,z5⟩:=RO.ins r H2 hRI;simp only [e7];tm_at "r";refine⟨Cr,dr,fs,hir,z2,_,_,RO.start.up ∅,r,rfl,hRI,?_⟩;rw [ac5,hS,ab7,ab7];exact⟨rfl,rfl⟩
  ·rintro ys H' ⟨rfl,rfl⟩ p hp
   rw [aa1,lr,ad4];refine⟨_,.inl ⟨aF.of ae,λl hl=>⟨(),λbg hbg=>hu _ _ ⟨bg,l,ae,(aq hbg) _ _ ae,((aq hp).upd hl).upd hbg,rfl⟩⟩⟩⟩
 rintro Ω ω _ H3 ⟨bg,mA,hbg,hmA,s23,rfl⟩;refine ω _ _ ?_;tm_at "r";have hx3:=s23 _ _ hx2;have s03:=s02.trans s23;refine⟨C,dx,_,hx3,by unfold bD;tm_at "f",_,_,M_build,(),λma hma na hna=>?_⟩;have hna3:H3 na=none:=(aq hma).free hna
 have nma:na≠ma:=λe=>by rw [e,ae]at hna;cases hna
 have hk4:(iM P w).at_ (upd (upd H3 ma (.lst [.ref bg])) na (dO (iM P w) na [])) (cg (none,Ss.map (·.start))) bg:=⟨_,(aq hna) _ _ ((aq hma) _ _ hbg),rfl,⟨mA,rfl,(aq hna) _ _ ((aq hma) _ _ hmA)⟩,True.intro⟩
 refine⟨ae,_,hk4,?_⟩;rw [bS]
 have s35:ar H3 (upd (upd H3 ma (.lst [.ref bg])) na (dO (iM P w) na [(cg (none,Ss.map (·.start)),bg,.int 0)])):=(aq hma).upd hna
 have hma5:(upd (upd H3 ma (.lst [.ref bg])) na (dO (iM P w) na [(cg (none,Ss.map (·.start)),bg,.int 0)])) ma=some (.lst [.ref bg]):=by rw [aj nma.symm,ae]
 have hna5:(upd (upd H3 ma (.lst [.ref bg])) na (dO (iM P w) na [(cg (none,Ss.map (·.start)),bg,.int 0)])) na=some (dO (iM P w) na [(cg (none,Ss.map (·.start)),bg,.int 0)]):=ae
 refine(λ(key:∀H5:Hp,ar H3 H5->H5 ma=some (.lst [.ref bg])->H5 na=some (dO (iM P w) na [(cg (none,Ss.map (·.start)),bg,.int 0)])->gZ K Cs [V.ref sc] H5 _ _)=>key _ s35 hma5 hna5) ?_
 clear s35 hma5 hna5;intro H5 s35 hma5 hna5;have s05:=s03.trans s35;refine⟨sc,dsc,ra,rb,bs,rfl,s05 _ _ hsc,RA.same s05,lb,hw,hc,λsa H6 hsa0 hC6 s56=>?_⟩;obtain⟨cs,hsa,hT⟩:=hC6;have s06:=s05.trans s56;have s36:=s35.trans s56
 have fr0:∀{z:Addr},H3 z=none->H0 z=none:=λ{z} h=>by
  cases e:H0 z with
  | none=>rfl
  | some o=>rw [s03 _ _ e]at h;cases h
 have hla3:=s23 _ _ hla2;have hwa3:=s23 _ _ hwa2
 refine⟨x,dx,ma,na,sa,la,wa,sc,dsc,ra,rb,bg,nv,Ss,Gs,rs,cs,aQ bs,U,H0,rfl,s36 _ _ hx3,s06 _ _ hsc,s06,fr0 hma,fr0 hna3,hla0,hwa0,RM,lS,hM0,s56 _ _ hma5,⟨_,s36 _ _ hbg,rfl,⟨mA,rfl,s36 _ _ hmA⟩,True.intro⟩,
  ⟨s56 _ _ hna5,λy hy=>?_,by simp,by simp⟩,s36 _ _ hla3,s36 _ _ hwa3,(ao hla3 hma).symm,(ao hwa3 hma).symm,nwl.symm,hsa,(ao hma5 hsa0).symm,(ao (s35 _ _ hla3) hsa0).symm,(ao (s35 _ _ hwa3) hsa0).symm,hT,λc hcc=>by rw [e9 bs c hcc,hnv],by rw [eE];omega,tV bs,CU,λmet H' mf sub cl mb sx=>k met H' mf sub cl ⟨dx,la,wa,?_,mb⟩ λb o hb e=>?_⟩
 ·rw [ac3.mp hy]
  exact⟨_,s36 _ _ hbg,rfl,⟨mA,rfl,s36 _ _ hmA⟩,True.intro⟩
 ·refine sx x _ (λh=>?_) (s36 _ _ hx3)
  simp only [ab0,ad3,or_false]at h;rcases h with e | e | e | e
  ·exact ao hx3 hma e
  ·exact ao hx3 hna3 e
  ·exact lax e.symm
  ·exact wax e.symm
 ·have h3:=s23 _ _ (old2 b o hb e)
  refine sx b o (λh=>?_) (s36 _ _ h3);simp only [ab0,ad3,or_false]at h;rcases h with q | q | q | q
  ·exact ao h3 hma q
  ·exact ao h3 hna3 q
  ·exact ao e hla q
  ·exact ao e hwa q
inductive gc where
 | span (o t:Int) (D:List Int)
 | clock (o t h:Int) (D:List Int)
 | move (o:Int) (D:List Int)
 | alike (o t:Int) (D:List Int)
 | back (o dw:Int)
 | held (o most:Int)
 | times (o nt lw hg:Int)
 | begin (o:Int) (D:List Int)
 | close (o:Int) (D:List Int)
variable {R:gc}
def uV:gc->bU
 | .span o t D=>fJ (o+1) (t+1) D
 | .clock o t h D=>eu (o+1) (t+1) h D
 | .move o D=>gq (o+1) D
 | .alike o t D=>fe (o+1) (t+1) D
 | .back o dw=>dS (o+1) dw
 | .held o most=>eX (o+1) most
 | .times o nt lw hg=>c9 (o+1) nt lw hg
 | .begin o D=>fg (o+1) D
 | .close o D=>gb (o+1) D
def EA:gc->Int->Prop
 | .back _ _=>kx
 | .held _ most=>qW most
 | .times _ _ _ hg=>ky hg
 | _=>λ_=>True
def qS(nv:Nat):gc->Prop
 | .span o t _=>0<=o/\o < nv/\0<=t/\t < nv
 | .clock o t h _=>0<=o/\o < nv/\0<=t/\t < nv/\1<=h
 | .move o _=>0<=o/\o < nv
 | .alike o t _=>0<=o/\o < nv/\0<=t/\t < nv
 | .back o dw=>0<=o/\o < nv/\0<=dw
 | .held o most=>0<=o/\o < nv/\1<=most
 | .times o _ _ hg=>0<=o/\o < nv/\0<=hg
 | .begin o _=>0<=o/\o < nv
 | .close o _=>0<=o/\o < nv
def jL:gc->List V
 | .span o t D=>.str "span"::((o+1)::(t+1)::D).map V.int
 | .clock o t h D=>.str "clock"::((o+1)::(t+1)::h::D).map V.int
 | .move o D=>.str "move"::((o+1)::D).map V.int
 | .alike o t D=>.str "alike"::((o+1)::(t+1)::D).map V.int
 | .back o dw=>.str "back"::[o+1,dw].map V.int
 | .held o most=>.str "held"::[o+1,most].map V.int
 | .times o nt lw hg=>.str "times"::[o+1,nt,lw,hg].map V.int
 | .begin o D=>.str "begin"::((o+1)::D).map V.int
 | .close o D=>.str "close"::((o+1)::D).map V.int
inductive bc where
 | plain (R:gc)
 | every (m a:Int) (R:gc)
def Cm:gc->Prop
 | .span _ _ _=>True
 | .clock _ _ _ _=>True
 | _=>False
def dQ:bc->List V
 | .plain R=>jL R
 | .every m a R=>.str "every" :: .int m :: .int a::jL R
def iY(nv:Nat):bc->Prop
 | .plain R=>qS nv R
 | .every m a R=>qS nv R/\Cm R/\1<=m/\0<=a/\a < m
theorem Cj{CX:BM}{k:Nat}{ps:List Str}{sp sp':Sp}(F: ~~~aG CX k f fd ps sp)(G: ~~~aG CX k f fd ps sp'): ~~~aG CX k f fd ps (λvs H Q E=>sp vs H Q E\/sp' vs H Q E):=
 ⟨λA o s vs H Q E hr q=>q.elim (F.len A o s vs H Q E hr) (G.len A o s vs H Q E hr),λA outer s H args us vs Q E hr he hb hv hs=>hs.elim (F.run A outer s H args us vs Q E hr he hb hv) (G.run A outer s H args us vs Q E hr he hb hv)⟩
def eS:bc->Int
 | .plain R=>(uV R).size
 | .every m _ _=>m
def cj:bc->bU
 | .plain R=>uV R
 | .every m a R=>eA m a (uV R)
def FC:bc->Int->Prop
 | .plain R=>EA R
 | .every m _ _=>nX m
theorem Bh(R:bc):(cj R).size=eS R:=by
 cases R<;>rfl
def cP:gc->Str
 | .span _ _ _=>"span"
 | .clock _ _ _ _=>"clock"
 | .move _ _=>"move"
 | .alike _ _ _=>"alike"
 | .back _ _=>"back"
 | .held _ _=>"held"
 | .times _ _ _ _=>"times"
 | .begin _ _=>"begin"
 | .close _ _=>"close"
def dq:gc->List Int
 | .span o t D=>(o+1)::(t+1)::D
 | .clock o t h D=>(o+1)::(t+1)::h::D
 | .move o D=>(o+1)::D
 | .alike o t D=>(o+1)::(t+1)::D
 | .back o dw=>[o+1,dw]
 | .held o most=>[o+1,most]
 | .times o nt lw hg=>[o+1,nt,lw,hg]
 | .begin o D=>(o+1)::D
 | .close o D=>(o+1)::D
theorem kI(R:gc):jL R=.str (cP R)::(dq R).map V.int:=by
 cases R<;>rfl
def xu:gc->Prop
 | .span _ _ D=>1<=D.length/\D.length<=12
 | .clock _ _ _ D=>1<=D.length/\D.length<=12
 | .move _ D=>1<=D.length/\D.length<=12
 | .alike _ _ D=>1<=D.length/\D.length<=12
 | .times _ _ lw _=>0<=lw
 | .begin _ D=>1<=D.length/\D.length<=12
 | .close _ D=>1<=D.length/\D.length<=12
 | _=>True
def DS(R:gc):Prop:=(∀n∈dq R,n.natAbs < 10 ^ 40)/\xu R
def vI:bc->Prop
 | .plain R=>DS R
 | .every m a R=>DS R/\m.natAbs < 10 ^ 40/\a.natAbs < 10 ^ 40
theorem kE(h:DS R):(dq R).length<=20:=by
 have hl:=h.2
 cases R<;>simp only [dq,xu,ac7,an0]at hl |-<;>omega
def lh(RI:mP):Prop:=∀(r:Addr) (H:Hp) (z:Addr) (xs:List Addr) (ys:List V),RI r H->H z=some (.lst (xs.map V.ref))->RI r (upd H z (.lst ys))
def gr(P:Program)(w:World)(K:Frag)(mg:Str->Option Value)(base:Heap)(nv:Nat)(R:bc)(r:Addr)(H:Hp):Prop:=∃(C:Addr) (RI:mP),~~~bp 7 nv C (cj R) RI (FC R)/\lh RI/\RI r H
theorem gr.same{R:bc}{r:Addr}(s:ar H H')(h: ~~~gr nv R r H): ~~~gr nv R r H':=by
 obtain⟨C,RI,h1,h0,h2⟩:=h;exact⟨C,RI,h1,h0,h1.mono _ _ _ s h2⟩
theorem gr.stab{R:bc}{r:Addr}{xs:List Addr}{ys:List V}(h: ~~~gr nv R r H)(hz:H z=some (.lst (xs.map V.ref))): ~~~gr nv R r (upd H z (.lst ys)):=by
 obtain⟨C,RI,h1,h0,h2⟩:=h;exact⟨C,RI,h1,h0,h0 _ _ _ _ _ h2 hz⟩
def BW(P:Program)(w:World)(K:Frag)(mg:Str->Option Value)(base:Heap)(nv:Nat)(H:Hp)(b:Addr)(Rs:List bc):Prop:=∃rs:List Addr,aF K H b (rs.map V.ref)/\rs.length=Rs.length/\∀(j:Nat) (r:Addr) (R:bc),rs[j]?=some r->Rs[j]?=some R->~~~gr nv R r H
def jr(P:Program)(w:World)(K:Frag)(mg:Str->Option Value)(base:Heap)(C:Addr)(nv:Nat)(bs:List (Int×Int))(Rs:List bc)(x:Addr)(H:Hp):Prop:=∃(dx a b:Addr),H x=some (.ins C dx (dj a b))/\cf K H a bs/\~~~BW nv H b Rs
def gO(bs:List (Int×Int))(Rs:List bc):Int:=Rs.foldl (λt R=>t * eS R) (mY bs)
def pb(P:Program)(w:World)(K:Frag)(mg:Str->Option Value)(base:Heap)(C:Addr):Sp:=λvs H Q _=>∃(x:Addr) (nv:Nat) (bs:List (Int×Int)) (Rs:List bc),vs=[.ref x]/\~~~jr C nv bs Rs x H/\bs.length<=100/\Rs.length<=100/\(∀b∈bs,(dJ b).natAbs < 2 ^ 60)/\(∀R∈Rs,(eS R).natAbs < 2 ^ 60)/\gO bs Rs<=400/\Q (.ref x) H
theorem jr.toM{Rs:List bc}(h: ~~~jr C nv bs Rs x H): ~~~rR C nv bs (Rs.map cj) (Rs.map FC) x H:=by
 obtain⟨dx,a,b,h1,h2,rs,h3,h4,h5⟩:=h;refine⟨dx,a,b,rs,h1,h2,⟨h3,by rw [aa1,h4],by rw [aa1,aa1],λj r S G e1 e2 e3=>?_⟩⟩;rw [aa5]at e2 e3
 cases hR:Rs[j]? with
 | none=>rw [hR]at e2;cases e2
 | some R=>
  rw [hR]at e2 e3;cases e2;cases e3;obtain⟨C,RI,g1,_,g2⟩:=h5 j r R e1 hR;exact⟨C,RI,g1,g2⟩
theorem Fs(bs:List (Int×Int))(Rs:List bc):GP bs (Rs.map cj)=gO bs Rs:=by
 unfold GP gO;rw [List.foldl_map];simp only [Bh]
theorem Ea(h:a.natAbs < 2 ^ 60):a.natAbs < 2 ^ 200:=ap4 h (by decide +kernel)
theorem yG:∀vs H Q E,~~~pb C vs H Q E->~~~rB C vs H Q E:=λvs H Q E zq=>by
 obtain⟨x,nv,bs,Rs,h1,h3,l1,l2,h4,h5,h6,h7⟩:=zq
 exact⟨x,nv,bs,Rs.map cj,Rs.map FC,h1,h3.toM,l1,by rw [aa1];exact l2,λb hb=>Ea (h4 b hb),λS hS=>by
  obtain⟨R,hR,rfl⟩:=ac4.mp hS;rw [Bh]
  exact Ea (h5 R hR),by rw [Fs];exact h6,h7⟩
def FE(P:Program)(w:World)(K:Frag)(mg:Str->Option Value)(base:Heap)(Dt:List (Str×V))(nv:Nat)(R:gc):Prop:=∃(f C:Addr) (sp:Sp) (RI:Str->mP),KTD.datumAt (cP R) Dt=↑f/\~~~eZ 7 f ["row","numbers","voices"] sp/\
 (∀(row:Str) (q:Addr) (H':Hp) (Q':VK),H' q=some (.lst ((dq R).map V.int))->(∀r H'',ar H' H''->RI row r H''->Q' (.ref r) H'')->sp [.str row,.ref q,.int nv] H' Q' E0)/\
 (∀row,~~~bp 7 nv C (uV R) (RI row) (EA R))/\(Cm R->∀row,~~~bp 4 nv C (uV R) (RI row) (EA R))/\∀row,lh (RI row)
theorem qj(F:nE K "read_rule" "read_rule" gp f fd T0)(T:Txt mg aM)(D_plain_rule: ~~~cN "plain_rule" 9 ["row","voices"] (~~~kT aM 7)): ~~~aG bV 10 f fd ["text","voices","row"] (~~~Bk aM 7):=by
 refine F.ok sc_read_rule λ_ A _ s H vs Q E hr h=>?_;obtain⟨row,kind,ns,nv,z,D,g,sp,Res,rfl,R,hk,tab,hg,fn,k,kq⟩:=h
 refine⟨rfl,_,(af (cW (i:=3) sc_read_rule.nd (cE (aZ (bQ K PySem.F.plainAttrs_str PySem.F.slot_str_startswith PySem.F.type_str_startswith gu (pr 0) (aa bO ag)) (λ_=>rfl)) AU (az D_plain_rule hr ⋯ (aa (pr 0) (aa (pr 1) ag)))))
 (af (aS (aX (ax c7 (pr 3) aH (ay _))) (ai kH) aB)
 (ai (av (pr 3))))),?_⟩
 tm_at "r";rw [wK row _ (c:=101) (by decide +kernel) (by rw [R.head];exact hk),if_neg ab3];refine⟨row,kind,ns,nv,D,g,sp,Res,rfl,R,tab,hg,fn,k,λv H' hv=>?_⟩;obtain⟨hn,q⟩:=kq v H' hv;rw [if_neg hn];exact q
theorem jt{n:Addr}{xs:List Addr}(hD:1<=D.length)(hn:H n=some (.lst (D.map V.int)))(hz:H z=some (.lst (xs.map V.ref))):n≠z:=λe=>by
 subst e;rw [hn]at hz
 cases D with
 | nil=>simp at hD
 | cons d D=>
  cases xs with
  | nil=>cases hz
  | cons x xs=>cases hz
theorem zc(hD:1<=D.length):lh (iV C row x1 x2 D):=λr H z zs ys h hz=>by
 obtain⟨dx,n,h1,h2⟩:=h;exact⟨dx,n,by rw [aj (da h1 hz (λe=>by cases e))];exact h1,by rw [aj (jt hD h2 hz)];exact h2⟩
theorem wD(hD:1<=D.length):lh (gi C row x1 x2 x3 D):=λr H z zs ys h hz=>by
 obtain⟨dx,n,h1,h2⟩:=h;exact⟨dx,n,by rw [aj (da h1 hz (λe=>by cases e))];exact h1,by rw [aj (jt hD h2 hz)];exact h2⟩
theorem zb(hD:1<=D.length):lh (iU C row x1 D):=λr H z zs ys h hz=>by
 obtain⟨dx,n,h1,h2⟩:=h;exact⟨dx,n,by rw [aj (da h1 hz (λe=>by cases e))];exact h1,by rw [aj (jt hD h2 hz)];exact h2⟩
theorem wB(hD:1<=D.length):lh (gg C row x1 x2 D):=λr H z zs ys h hz=>by
 obtain⟨dx,n,h1,h2⟩:=h;exact⟨dx,n,by rw [aj (da h1 hz (λe=>by cases e))];exact h1,by rw [aj (jt hD h2 hz)];exact h2⟩
theorem y9:lh (fO C row x1 x2):=λr H z zs ys h hz=>by
 obtain⟨dx,h1⟩:=h;exact⟨dx,by rw [aj (da h1 hz (λe=>by cases e))];exact h1⟩
theorem za:lh (fP C row x1 x2):=λr H z zs ys h hz=>by
 obtain⟨dx,h1⟩:=h;exact⟨dx,by rw [aj (da h1 hz (λe=>by cases e))];exact h1⟩
theorem wH:lh (dm C row x1 x2 x3 x4):=λr H z zs ys h hz=>by
 obtain⟨dx,h1⟩:=h;exact⟨dx,by rw [aj (da h1 hz (λe=>by cases e))];exact h1⟩
theorem wC(hD:1<=D.length):lh (gh C row x1 D):=λr H z zs ys h hz=>by
 obtain⟨dx,n,h1,h2⟩:=h;exact⟨dx,n,by rw [aj (da h1 hz (λe=>by cases e))];exact h1,by rw [aj (jt hD h2 hz)];exact h2⟩
theorem wF(hD:1<=D.length):lh (gj C row x1 D):=λr H z zs ys h hz=>by
 obtain⟨dx,n,h1,h2⟩:=h;exact⟨dx,n,by rw [aj (da h1 hz (λe=>by cases e))];exact h1,by rw [aj (jt hD h2 hz)];exact h2⟩
theorem wG(h:lh RIn):lh (eT C row t u RIn):=λr H z zs ys hr hz=>by
 obtain⟨dx,ri,h1,h2⟩:=hr;exact⟨dx,ri,by rw [aj (da h1 hz (λe=>by cases e))];exact h1,h _ _ _ _ _ h2 hz⟩
theorem F1{f_span C_Span:Addr}{f_clock C_Clock:Addr}{f_move C_Move:Addr}{f_alike C_Alike:Addr}{f_back C_Back:Addr}{f_held C_Held:Addr}{f_times C_Times:Addr}{f_begin C_Begin:Addr}{f_close C_Close:Addr}
  (hd_span:KTD.datumAt ("span":Str) Dt=↑f_span) (fn_span: ~~~eZ 7 f_span ["row","numbers","voices"] (ph K C_Span)) (RO_span:∀(row:Str) (x1 x2:Int) (D:List Int) (nv:Nat),(1<=x1/\x1<=nv)->(1<=x2/\x2<=nv)->~~~bp 4 nv C_Span (fJ x1 x2 D) (iV C_Span row x1 x2 D) λ_=>True)
  (hd_clock:KTD.datumAt ("clock":Str) Dt=↑f_clock) (fn_clock: ~~~eZ 7 f_clock ["row","numbers","voices"] (mi K C_Clock)) (RO_clock:∀(row:Str) (x1 x2 x3:Int) (D:List Int) (nv:Nat),(1<=x1/\x1<=nv)->(1<=x2/\x2<=nv)->1<=x3->~~~bp 4 nv C_Clock (eu x1 x2 x3 D) (gi C_Clock row x1 x2 x3 D) λ_=>True)
  (hd_move:KTD.datumAt ("move":Str) Dt=↑f_move) (fn_move: ~~~eZ 7 f_move ["row","numbers","voices"] (oZ K C_Move)) (RO_move:∀(row:Str) (x1:Int) (D:List Int) (nv:Nat),(1<=x1/\x1<=nv)->~~~bp 7 nv C_Move (gq x1 D) (iU C_Move row x1 D) λ_=>True)
  (hd_alike:KTD.datumAt ("alike":Str) Dt=↑f_alike) (fn_alike: ~~~eZ 7 f_alike ["row","numbers","voices"] (md K C_Alike)) (RO_alike:∀(row:Str) (x1 x2:Int) (D:List Int) (nv:Nat),(1<=x1/\x1<=nv)->(1<=x2/\x2<=nv)->~~~bp 7 nv C_Alike (fe x1 x2 D) (gg C_Alike row x1 x2 D) λ_=>True)
  (hd_back:KTD.datumAt ("back":Str) Dt=↑f_back) (fn_back: ~~~eZ 7 f_back ["row","numbers","voices"] (oV K C_Back)) (RO_back:∀(row:Str) (x1 x2:Int) (nv:Nat),(1<=x1/\x1<=nv)->0<=x2->~~~bp 7 nv C_Back (dS x1 x2) (fO C_Back row x1 x2) kx)
  (hd_held:KTD.datumAt ("held":Str) Dt=↑f_held) (fn_held: ~~~eZ 7 f_held ["row","numbers","voices"] (oX K C_Held)) (RO_held:∀(row:Str) (x1 x2:Int) (nv:Nat),(1<=x1/\x1<=nv)->1<=x2->~~~bp 7 nv C_Held (eX x1 x2) (fP C_Held row x1 x2) (qW x2))
  (hd_times:KTD.datumAt ("times":Str) Dt=↑f_times) (fn_times: ~~~eZ 7 f_times ["row","numbers","voices"] (mn K C_Times)) (RO_times:∀(row:Str) (x1 x2 x3 x4:Int) (nv:Nat),(1<=x1/\x1<=nv)->0<=x4->~~~bp 7 nv C_Times (c9 x1 x2 x3 x4) (dm C_Times row x1 x2 x3 x4) (ky x4))
  (hd_begin:KTD.datumAt ("begin":Str) Dt=↑f_begin) (fn_begin: ~~~eZ 7 f_begin ["row","numbers","voices"] (mh K C_Begin)) (RO_begin:∀(row:Str) (x1:Int) (D:List Int) (nv:Nat),(1<=x1/\x1<=nv)->~~~bp 7 nv C_Begin (fg x1 D) (gh C_Begin row x1 D) λ_=>True)
  (hd_close:KTD.datumAt ("close":Str) Dt=↑f_close) (fn_close: ~~~eZ 7 f_close ["row","numbers","voices"] (mj K C_Close)) (RO_close:∀(row:Str) (x1:Int) (D:List Int) (nv:Nat),(1<=x1/\x1<=nv)->~~~bp 7 nv C_Close (gb x1 D) (gj C_Close row x1 D) λ_=>True)
  (nv:Nat) (R:gc) (hg:qS nv R) (hl:xu R): ~~~FE Dt nv R:=by
 cases R with
 | span o t D=>
  obtain⟨o0,o1,t0,t1⟩:=hg;exact⟨f_span,C_Span,_,λrow=>iV C_Span row (o+1) (t+1) D,hd_span,fn_span,λrow q H' Q' hq k=>⟨q,row,(o+1),(t+1),D,nv,rfl,aF.of hq,(),(),(),(),hl.1,hl.2,k⟩,λrow=>(RO_span row (o+1) (t+1) D nv ⟨(),()⟩ ⟨(),()⟩).up ∅,λ_ row=>RO_span row (o+1) (t+1) D nv ⟨(),()⟩ ⟨(),()⟩,λrow=>zc (D:=D) hl.1⟩
 | clock o t h D=>
  obtain⟨o0,o1,t0,t1,h1⟩:=hg;exact⟨f_clock,C_Clock,_,λrow=>gi C_Clock row (o+1) (t+1) h D,hd_clock,fn_clock,λrow q H' Q' hq k=>⟨q,row,(o+1),(t+1),h,D,nv,rfl,aF.of hq,(),(),(),(),h1,hl.1,hl.2,k⟩,λrow=>(RO_clock row (o+1) (t+1) h D nv ⟨(),()⟩ ⟨(),()⟩ h1).up ∅,λ_ row=>RO_clock row (o+1) (t+1) h D nv ⟨(),()⟩ ⟨(),()⟩ h1,λrow=>wD (D:=D) hl.1⟩
 | move o D=>
  obtain⟨o0,o1⟩:=hg;exact⟨f_move,C_Move,_,λrow=>iU C_Move row (o+1) D,hd_move,fn_move,λrow q H' Q' hq k=>⟨q,row,(o+1),D,nv,rfl,aF.of hq,(),(),hl.1,hl.2,k⟩,λrow=>RO_move row (o+1) D nv ⟨(),()⟩,λz=>z.elim,λrow=>zb (D:=D) hl.1⟩
 | alike o t D=>
  obtain⟨o0,o1,t0,t1⟩:=hg;exact⟨f_alike,C_Alike,_,λrow=>gg C_Alike row (o+1) (t+1) D,hd_alike,fn_alike,λrow q H' Q' hq k=>⟨q,row,(o+1),(t+1),D,nv,rfl,aF.of hq,(),(),(),(),hl.1,hl.2,k⟩,λrow=>RO_alike row (o+1) (t+1) D nv ⟨(),()⟩ ⟨(),()⟩,λz=>z.elim,λrow=>wB (D:=D) hl.1⟩
 | back o dw=>
  obtain⟨o0,o1,f0⟩:=hg;exact⟨f_back,C_Back,_,λrow=>fO C_Back row (o+1) dw,hd_back,fn_back,λrow q H' Q' hq k=>⟨q,row,(o+1),dw,nv,rfl,aF.of hq,(),(),f0,k⟩,λrow=>RO_back row (o+1) dw nv ⟨(),()⟩ f0,λz=>z.elim,λrow=>y9⟩
 | held o most=>
  obtain⟨o0,o1,f0⟩:=hg;exact⟨f_held,C_Held,_,λrow=>fP C_Held row (o+1) most,hd_held,fn_held,λrow q H' Q' hq k=>⟨q,row,(o+1),most,nv,rfl,aF.of hq,(),(),f0,k⟩,λrow=>RO_held row (o+1) most nv ⟨(),()⟩ f0,λz=>z.elim,λrow=>za⟩
 | times o nt lw hgh=>
  obtain⟨o0,o1,f0⟩:=hg;exact⟨f_times,C_Times,_,λrow=>dm C_Times row (o+1) nt lw hgh,hd_times,fn_times,λrow q H' Q' hq k=>⟨q,row,(o+1),nt,lw,hgh,nv,rfl,aF.of hq,(),(),hl,f0,k⟩,λrow=>RO_times row (o+1) nt lw hgh nv ⟨(),()⟩ f0,λz=>z.elim,λrow=>wH⟩
 | begin o D=>
  obtain⟨o0,o1⟩:=hg;exact⟨f_begin,C_Begin,_,λrow=>gh C_Begin row (o+1) D,hd_begin,fn_begin,λrow q H' Q' hq k=>⟨q,row,(o+1),D,nv,rfl,aF.of hq,(),(),hl.1,hl.2,k⟩,λrow=>RO_begin row (o+1) D nv ⟨(),()⟩,λz=>z.elim,λrow=>wC (D:=D) hl.1⟩
 | close o D=>
  obtain⟨o0,o1⟩:=hg;exact⟨f_close,C_Close,_,λrow=>gj C_Close row (o+1) D,hd_close,fn_close,λrow q H' Q' hq k=>⟨q,row,(o+1),D,nv,rfl,aF.of hq,(),(),hl.1,hl.2,k⟩,λrow=>RO_close row (o+1) D nv ⟨(),()⟩,λz=>z.elim,λrow=>wF (D:=D) hl.1⟩
def cY:bc->Str
 | .plain R=>Txt.join (Str.ofString " ") (cP R::(dq R).map ba)
 | .every m a R=>Txt.join (Str.ofString " ") (Str.ofString "every"::ba m::ba a::cP R::(dq R).map ba)
theorem h8(R:gc):(cP R).length<=20/\32∉(cP R).cps.toList/\(cP R).cps.toList≠[]/\(cP R).cps.toList.head?≠some 101:=by
 cases R with
 | span _ _ _=>exact show(Str.ofString "span").length<=20/\32∉(Str.ofString "span").cps.toList/\(Str.ofString "span").cps.toList≠[]/\(Str.ofString "span").cps.toList.head?≠some 101 from⟨by decide +kernel,by decide +kernel,by decide +kernel,by decide +kernel⟩
 | clock _ _ _ _=>exact show(Str.ofString "clock").length<=20/\32∉(Str.ofString "clock").cps.toList/\(Str.ofString "clock").cps.toList≠[]/\(Str.ofString "clock").cps.toList.head?≠some 101 from⟨by decide +kernel,by decide +kernel,by decide +kernel,by decide +kernel⟩
 | move _ _=>exact show(Str.ofString "move").length<=20/\32∉(Str.ofString "move").cps.toList/\(Str.ofString "move").cps.toList≠[]/\(Str.ofString "move").cps.toList.head?≠some 101 from⟨by decide +kernel,by decide +kernel,by decide +kernel,by decide +kernel⟩
 | alike _ _ _=>exact show(Str.ofString "alike").length<=20/\32∉(Str.ofString "alike").cps.toList/\(Str.ofString "alike").cps.toList≠[]/\(Str.ofString "alike").cps.toList.head?≠some 101 from⟨by decide +kernel,by decide +kernel,by decide +kernel,by decide +kernel⟩
 | back _ _=>exact show(Str.ofString "back").length<=20/\32∉(Str.ofString "back").cps.toList/\(Str.ofString "back").cps.toList≠[]/\(Str.ofString "back").cps.toList.head?≠some 101 from⟨by decide +kernel,by decide +kernel,by decide +kernel,by decide +kernel⟩
 | held _ _=>exact show(Str.ofString "held").length<=20/\32∉(Str.ofString "held").cps.toList/\(Str.ofString "held").cps.toList≠[]/\(Str.ofString "held").cps.toList.head?≠some 101 from⟨by decide +kernel,by decide +kernel,by decide +kernel,by decide +kernel⟩
 | times _ _ _ _=>exact show(Str.ofString "times").length<=20/\32∉(Str.ofString "times").cps.toList/\(Str.ofString "times").cps.toList≠[]/\(Str.ofString "times").cps.toList.head?≠some 101 from⟨by decide +kernel,by decide +kernel,by decide +kernel,by decide +kernel⟩
 | begin _ _=>exact show(Str.ofString "begin").length<=20/\32∉(Str.ofString "begin").cps.toList/\(Str.ofString "begin").cps.toList≠[]/\(Str.ofString "begin").cps.toList.head?≠some 101 from⟨by decide +kernel,by decide +kernel,by decide +kernel,by decide +kernel⟩
 | close _ _=>exact show(Str.ofString "close").length<=20/\32∉(Str.ofString "close").cps.toList/\(Str.ofString "close").cps.toList≠[]/\(Str.ofString "close").cps.toList.head?≠some 101 from⟨by decide +kernel,by decide +kernel,by decide +kernel,by decide +kernel⟩
theorem nA(h:DS R):fQ (Txt.join (Str.ofString " ") (cP R::(dq R).map ba)) (cP R) (dq R):=Bd h.1 (kE h) (h8 R).2.1 (h8 R).1 (h8 R).2.2.1
theorem Dq(h:DS R)(hm:m.natAbs < 10 ^ 40)(ha:a.natAbs < 10 ^ 40):nH (cY (.every m a R)) (Txt.join (Str.ofString " ") (cP R::(dq R).map ba)) m a:=by
 have e32:(Str.ofString " ")=⟨#[32]⟩:=by decide +kernel
 refine⟨?_,hm,ha,(nA h).len⟩;show(Txt.join (Str.ofString " ") (Str.ofString "every"::ba m::ba a::cP R::(dq R).map ba)).cps.toList=_;rw [e32,dU,dU];simp only [ad5];rw [lG,lG,lG];rfl
def jm(P:Program)(w:World)(K:Frag)(mg:Str->Option Value)(base:Heap):Sp:=λvs H Q _=>∃(z:Int) (R:bc) (nv:Nat),vs=[.str (cY R),.int nv,.int z]/\iY nv R/\vI R/\∀(r:Addr) H',~~~gr nv R r H'->ar H H'->Q (.ref r) H'
theorem yP{CE:Addr}(F: ~~~aG bV 10 f fd ["text","voices","row"] (~~~Bk aM 7))(G: ~~~aG bV 10 f fd ["text","voices","row"] (~~~xH aM CE 7))(tab:lj K aM Dt)(MD:∀(nv:Nat) (R:gc),qS nv R->xu R->~~~FE Dt nv R)
  (RO:∀(row:Str) (t u:Int) (nv:Nat) (Cn:Addr) (S:bU) (RIn:mP) (G:Int->Prop),0 < t->~~~bp 4 nv Cn S RIn G->~~~bp 7 nv CE (eA t u S) (eT CE row t u RIn) (nX t)) :
  ~~~aG bV 10 f fd ["text","voices","row"] (~~~jm):=by
 refine(Cj F G).imp λvs H Q E h=>?_;obtain⟨z,R,nv,rfl,hg,ho,q⟩:=h
 cases R with
 | plain R=>
  obtain⟨f,C,sp,RI,hd,fn,mk,ro,_,sb⟩:=MD nv R hg ho.2;refine .inl ⟨_,cP R,dq R,nv,z,Dt,f,sp,λv H'=>∃r,v=.ref r/\ar H H'/\RI (cY (.plain R)) r H',rfl,nA ho,(h8 R).2.2.2,tab,hd,fn,λq H' Q' s hq k=>mk _ q H' Q' hq λr H'' s' hr=>k _ _ ⟨r,rfl,s.trans s',hr⟩,?_⟩;rintro v H' ⟨r,rfl,s,hr⟩;exact⟨λz=>(by cases z),q r H' ⟨C,RI (cY (.plain R)),ro _,sb _,hr⟩ s⟩
 | every m a R=>
  obtain⟨hg,hin,m1,a0,a1⟩:=hg;obtain⟨ho,hm,ha⟩:=ho;obtain⟨f,C,sp,RI,hd,fn,mk,_,ro,sb⟩:=MD nv R hg ho.2
  have hk:cP R=Str.ofString "span"\/cP R=Str.ofString "clock":=by
   cases R with
   | span o t D=>exact .inl rfl
   | clock o t h D=>exact .inr rfl
   | _=>exact hin.elim
  have re:=Dq ho hm ha;have r4:=ro hin (Txt.join (Str.ofString " ") (cP R::(dq R).map ba));refine .inr ⟨_,nv,z,rfl,⟨_,_,_,re⟩,_,_,cP R,m,a,dq R,nv,Dt,f,sp,RI (Txt.join (Str.ofString " ") (cP R::(dq R).map ba)),rfl,re,nA ho,hk,a0,a1,tab,hd,fn,λq H' Q' s hq k=>mk _ q H' Q' hq λr H'' s' hr=>k _ _ (s.trans s') hr,r4.mono,λr H' s hr=>⟨λz=>(by cases z),q r H' ⟨CE,_,RO _ m a nv C _ _ _ () r4,wG (sb _),hr⟩ s⟩⟩
theorem mM{c:Nat}(hc:c < 256){ws:List Str}(h:ws≠[])(hn:∀z∈ws,c∉z.cps.toList):Txt.split (Txt.join ⟨#[c]⟩ ws) ⟨#[c]⟩=ws:=by
 refine eV ?_;rw [jo _ hc,dU,pj c _ (by simpa using h) (λp hp=>?_)];obtain⟨z,hz,rfl⟩:=ac4.mp hp;exact hn z hz
def xJ(K:Frag):Sp:=λvs H Q _=>∃row:Str,vs=[.str row]/\row.length<=10000/\((∃lo hi:Int,fQ row (Str.ofString "voice") [lo,hi]/\lo<=hi/\∀p H',H' p=some (.tup [.int lo,.int hi])->ar H H'->Q (.ref p) H')\/∃w0 ws,Txt.split row ⟨#[32]⟩=w0::ws/\w0≠Str.ofString "voice"/\∀H',ar H H'->Q .non H')
def tG(P:Program)(w:World)(K:Frag)(mg:Str->Option Value)(base:Heap)(C:Addr):Sp:=λvs H Q _=>∃(text:Str) (bs:List (Int×Int)) (vr:Int×Int->Str) (Rs:List bc),vs=[.str text]/\text.length<=1000000/\Txt.split text ⟨#[10]⟩=bs.map vr++Rs.map cY/\1<=bs.length/\bs.length<=4/\Rs.length<=12/\
 (∀b∈bs,fQ (vr b) (Str.ofString "voice") [b.1,b.2]/\b.1<=b.2/\(dJ b).natAbs < 2 ^ 60)/\(∀R∈Rs,iY bs.length R/\vI R/\(eS R).natAbs < 2 ^ 60)/\gO bs Rs<=400/\∀x H',~~~jr C bs.length bs Rs x H'->ar H H'->Q (.ref x) H'
theorem iG(R:bc)(h:vI R):(cY R).length<=10000/\∃w0 ws,Txt.split (cY R) ⟨#[32]⟩=w0::ws/\w0≠Str.ofString "voice":=by
 cases R with
 | plain R=>
  have hr:=nA h;refine⟨hr.len,cP R,(dq R).map ba,hr.split,?_⟩
  cases R with
  | span _ _ _=>exact show Str.ofString "span"≠Str.ofString "voice" by decide +kernel
  | clock _ _ _ _=>exact show Str.ofString "clock"≠Str.ofString "voice" by decide +kernel
  | move _ _=>exact show Str.ofString "move"≠Str.ofString "voice" by decide +kernel
  | alike _ _ _=>exact show Str.ofString "alike"≠Str.ofString "voice" by decide +kernel
  | back _ _=>exact show Str.ofString "back"≠Str.ofString "voice" by decide +kernel
  | held _ _=>exact show Str.ofString "held"≠Str.ofString "voice" by decide +kernel
  | times _ _ _ _=>exact show Str.ofString "times"≠Str.ofString "voice" by decide +kernel
  | begin _ _=>exact show Str.ofString "begin"≠Str.ofString "voice" by decide +kernel
  | close _ _=>exact show Str.ofString "close"≠Str.ofString "voice" by decide +kernel
 | every m a R=>
  obtain⟨h,hm,ha⟩:=h
  have e32:(Str.ofString " ")=⟨#[32]⟩:=by decide +kernel
  have nn:∀n:Int,32∉(ba n).cps.toList:=λn=>nk n
  have hw:∀z∈(Str.ofString "every"::ba m::ba a::cP R::(dq R).map ba),32∉z.cps.toList:=λz hz=>by
   rcases ab0.mp hz with rfl | hz
   ·decide +kernel
   rcases ab0.mp hz with rfl | hz
   ·exact nn m
   rcases ab0.mp hz with rfl | hz
   ·exact nn a
   rcases ab0.mp hz with rfl | hz
   ·exact(h8 R).2.1
   ·obtain⟨n,_,rfl⟩:=ac4.mp hz
    exact nn n
  refine⟨?_,Str.ofString "every",ba m::ba a::cP R::(dq R).map ba,?_,by decide +kernel⟩
  ·show(Txt.join (Str.ofString " ") (Str.ofString "every"::ba m::ba a::cP R::(dq R).map ba)).length<=10000
   rw [aY,e32,dU]
   have hl:=ju 32 ((Str.ofString "every"::ba m::ba a::cP R::(dq R).map ba).map λz=>z.cps.toList) 60 (λp hp=>by
    obtain⟨z,hz,rfl⟩:=ac4.mp hp;rw [<-aY];rcases ab0.mp hz with rfl | hz
    ·decide +kernel
    rcases ab0.mp hz with rfl | hz
    ·have:=dC hm;omega
    rcases ab0.mp hz with rfl | hz
    ·have:=dC ha;omega
    rcases ab0.mp hz with rfl | hz
    ·have:=(h8 R).1;omega
    ·obtain⟨n,hn,rfl⟩:=ac4.mp hz
     have:=dC (h.1 n hn);omega)
   have:=kE h
   simp only [aa1,ac7]at hl;omega
  ·show Txt.split (Txt.join (Str.ofString " ") (Str.ofString "every"::ba m::ba a::cP R::(dq R).map ba)) ⟨#[32]⟩=_
   rw [e32];exact mM ∅ (by simp) hw
theorem ow(F:cc K "voice_range" "voice_range" gL f fd)(T:Txt mg aM)(D_is_number: ~~~cN "is_number" 1 ["word"] rC): ~~~aG bV 2 f fd ["row"] (xJ K):=by
 refine F.ok sc_voice_range λ_ A _ s H vs Q E hr h=>?_;obtain⟨row,rfl,hl,h⟩:=h
 refine⟨rfl,_,(af (cW (i:=1) sc_voice_range.nd (bQ K PySem.F.plainAttrs_str PySem.F.slot_str_split PySem.F.type_str_split kA (pr 0) (aa bO ag)))
 (af (aS (PW.pt (cA (aX (ax yI (aA (aJ K) ⋯ T.n_len boot_len (aa (pr 1) ag)) ah (ay _))) (cA (aX (ax yI (aD (aW K) (pr 1) ah (λ_ _=>rfl)) bO (ay _))) (cv (bX (aZ (aA (gT K rfl) ⋯ T.n_all boot_all (aa (cQ (own:=["word"]) (js:=[]) rfl (bI K (bK (gf K) (pr 1) (fY ah) b0)) (bG.of ⋯) (λ_ _ _ _ _=>(bN (i:=0) (show List.Nodup (["word"]:List Str)from by decide +kernel) rfl (Or.inl rfl))) (λ_ _ _ _ _=>cI) (λ_ _ _ _ _=>(az D_is_number hr ⋯ (aa (pr 0) ag)))) ag)) (λ_=>rfl))))))) (ai (av aH)) aB)
 (af (cW (i:=2) sc_voice_range.nd (gw (aa (bo (fK) ⋯ T.n_int boot_int (aa (aD (aW K) (pr 1) ah (λ_ _=>rfl)) ag)) (aa (bo (fK) ⋯ T.n_int boot_int (aa (aD (aW K) (pr 1) ah (λ_ _=>rfl)) ag)) ag))))
 (ai (av (cE (aX (ax (o0 kG) (aD (aW K) (pr 2) ah (λ_ _=>rfl)) (aD (aW K) (pr 2) ah (λ_ _=>rfl)) (ay _))) (pr 2) aH)))))),?_⟩
 have hs:=sizeLine_eq;refine aV (λZ H'=>∃p:Addr,H' p=some (.lst ((Txt.split row ⟨#[32]⟩).map V.str))/\Z=[some (.str row),↑p,none]/\ar H H') ?_ ?_
 ·intro u' hu
  tm_at "r";exact⟨32,by decide +kernel,∅,(),λp hp=>hu _ _ ⟨p,ae,rfl,aq hp⟩⟩
 rintro Ω ω _ H1 ⟨p,hp1,rfl,s1⟩;refine ω _ _ ?_;rcases h with⟨lo,hi,RI,hle,q⟩ | ⟨w0,ws,hsp,hw0,q⟩
 ·rw [RI.split]at hp1
  have b1:=RI.nb lo (by simp);have b2:=RI.nb hi (by simp);have nlen:∀n:Int,n.natAbs < 10 ^ 40->(ba n).length<=41:=λn h=>dC h;refine aV (λZ H'=>Z=[some (.str row),↑p,none]/\ar H1 H') ?_ ?_
  ·intro u' hu
   tm_at "r";refine⟨_,.inl (aF.of hp1),?_⟩;rw [if_pos (by simp)];refine aR (aF.of hp1) (bC rfl) ?_;tm_at "r";refine cX (aF.of hp1) λq2 hq2=>?_;rw [show(some (1:Int))=some ((1:Nat):Int)from rfl,di];show Dj _ _ _ _;have s2:ar H1 (upd H1 q2 (.lst (([lo,hi].map ba).map V.str))):=aq hq2;refine bJ (xs:=([lo,hi].map ba).map V.str) (aF.of ae) (cu (xs:=([lo,hi].map ba).map V.str) (λi ys H'=>ys=(List.replicate i true).map V.bl/\ar (upd H1 q2 (.lst (([lo,hi].map ba).map V.str))) H') (by simp;omega) ⟨rfl,ar.refl _⟩ ?_ ?_ ?_ ?_)
   ·rintro i ys H' ⟨rfl,sm⟩
    simp
   ·rintro i ys H' ⟨rfl,sm⟩
    exact sm.seq (aF.of ae)
   ·rintro i x ys H' hx ⟨rfl,sm⟩
    obtain⟨n,hn,rfl⟩:∃n∈[lo,hi],x=.str (ba n):=by
     have:=ab8 hx
     simp only [ai6,ac4,Function.comp_apply]at this;obtain⟨n,hn,e⟩:=this;exact⟨n,hn,e.symm⟩
    tm_at "r";refine⟨ba n,rfl,?_,λH1 s1=>⟨?_,sm.trans s1⟩⟩
    ·have:=nlen n (RI.nb n hn)
     omega
    ·show _=(List.replicate (i+1) true).map V.bl
     rw [show(ba n).cps.toList=ia n from rfl,lE (RI.nb n hn),List.replicate_succ',ab7];rfl
   rintro ys H2 ⟨rfl,sm⟩ p1 hp1';refine⟨_,aF.of ae,?_⟩;rw [show(List.replicate (([lo,hi].map ba).map V.str).length true).all id=true by simp];tm_at "r";exact hu _ _ ⟨rfl,(s2.trans sm).upd hp1'⟩
  rintro Ω ω _ H2 ⟨rfl,s12⟩;have hp2:=s12 _ _ hp1;refine ω _ _ (aV (λZ H'=>∃t:Addr,H' t=some (.tup [.int lo,.int hi])/\Z=[some (.str row),↑p,↑t]/\ar H2 H') ?_ ?_)
  ·intro u' hu
   tm_at "r";refine aR (aF.of hp2) (show fC _ ((1:Nat):Int)=_ from aE rfl) ?_;tm_at "r";refine⟨lo,nc (ab6 b1 (ak1 ∅ ∅)),by have:=nlen lo b1;omega,aR (aF.of hp2) (show fC _ ((2:Nat):Int)=_ from aE rfl) ?_⟩;tm_at "r";exact⟨hi,nc (ab6 b2 (ak1 ∅ ∅)),by have:=nlen hi b2;omega,(),λt ht=>hu _ _ ⟨t,ae,rfl,aq ht⟩⟩
  rintro Ω ω _ H3 ⟨t,ht,rfl,s23⟩;refine ω _ _ ?_;tm_at "r";refine eD (cT.of ht) (bC rfl) (eD (cT.of ht) (show fC _ ((1:Nat):Int)=_ from aE rfl) ?_);tm_at "r";rw [if_pos hle];exact q t _ ht ((s1.trans s12).trans s23)
 ·rw [hsp]at hp1
  refine G8 (λ_ _=>False) ?_ ?_
  ·intro u' hu
   tm_at "r";refine⟨_,.inl (aF.of hp1),?_⟩
   by_cases h3:(((w0::ws).map V.str).length:Int)=3
   ·rw [if_pos h3]
    refine aR (aF.of hp1) (bC rfl) ?_;tm_at "r";rw [if_neg hw0];exact q _ s1
   ·rw [if_neg h3]
    exact q _ s1
  rintro _ _ ⟨⟩
theorem se{c:TT}{t u:TS}{D:iS}{Z:L2.St}(h:∀A B:Hp->Prop,(∀H,t D Z H->A H)->(∀H,u D Z H->B H)->c Z H λb H1=>if b=true then A H1 else B H1):Bz c t u D Z H:=h _ _ (λ_ x=>x) λ_ x=>x
theorem C1{g:TG}{x:V}{Z:L2.St}{tb:TS}{D:iS}(h:∀B:L2.St->Hp->Prop,(∀Z H,tb D Z H->B Z H)->g x Z H B):g x Z H λZg H2=>tb D Zg H2:=h _ λ_ _ z=>z
theorem CM(F:cc K "read" "read" wc f fd)(T:Txt mg aM)(TC:eY K C)(D_voice_range: ~~~cN "voice_range" 10 ["row"] (xJ K))(D_read_rule: ~~~cN "read_rule" 10 ["text","voices","row"] (~~~jm))(DM_Score: ~~~iR "Score" C 9 ["self","ranges","rules"] (mK K C))(D_not_too_wide: ~~~cN "not_too_wide" 10 ["score"] (~~~pb C)): ~~~aG bV 11 f fd ["text"] (~~~tG C):=by
 refine F.ok sc_read λ_ A _ s H vs Q E hr h=>?_;obtain⟨text,bs,vr,Rs,rfl,htl,hsp,nv1,nv4,rl,hb,hR,hwt,q⟩:=h
 refine⟨rfl,_,(af (cW (i:=1) sc_read.nd (bu ag))
 (af (cW (i:=2) sc_read.nd (bu ag))
 (af (bW PassesOwn.never rfl (oA rfl T.n_enumerate (aa (bQ K PySem.F.plainAttrs_str PySem.F.slot_str_split PySem.F.type_str_split kA (pr 0) (aa bO ag)) ag)) (cR K (n:=2) rfl (aO (gd (i:=3) sc_read.nd) (aO (gd (i:=4) sc_read.nd) cS)))
 (af (cW (i:=5) sc_read.nd (az D_voice_range hr ⋯ (aa (pr 4) ag)))
 (ai (aS (PW.pt (ic (aX (ax jw (pr 5) aH (ay _))) (ic (aX (ax (o0 kF) (aA (aJ K) ⋯ T.n_len boot_len (aa (pr 1) ag)) (iN T.g_MOST_VOICES) (ay _))) (gn (aX (ax mD (aA (aJ K) ⋯ T.n_len boot_len (aa (pr 2) ag)) ah (ay _))))))) (ai (bq (bQ K PySem.F.plainAttrs_list PySem.F.slot_list_append PySem.F.type_list_append bT (pr 1) (aa (pr 5) ag)))) (ai (aS (PW.pt (cA (aX (ax mD (aA (aJ K) ⋯ T.n_len boot_len (aa (pr 1) ag)) ah (ay _))) (cv (aX (ax mD (aA (aJ K) ⋯ T.n_len boot_len (aa (pr 2) ag)) (iN T.g_MOST_RULES) (ay _)))))) (ai kH) (ai (bq (bQ K PySem.F.plainAttrs_list PySem.F.slot_list_append PySem.F.type_list_append bT (pr 2) (aa (az D_read_rule hr ⋯ (aa (pr 4) (aa (aA (aJ K) ⋯ T.n_len boot_len (aa (pr 1) ag)) (aa (pr 3) ag)))) ag))))))))))
 (ai (av (az D_not_too_wide hr ⋯ (aa (iL DM_Score hr ⋯ (aa (pr 1) (aa (pr 2) ag))) ag))))))),?_⟩
 have hs:=sizeLine_eq;refine aV (λZ H'=>∃ra:Addr,H ra=none/\H' ra=some (.lst (([]:List Addr).map V.ref))/\Z=[some (.str text),↑ra,none,none,none,none]/\ar H H') ?_ ?_
 ·intro u' hu
  tm_at "r";exact⟨(),λp hp=>hu _ _ ⟨p,hp,ae,rfl,aq hp⟩⟩
 rintro Ω ω _ H1 ⟨ra,hra,hra1,rfl,s1⟩;refine ω _ _ (aV (λZ H'=>∃ru:Addr,H ru=none/\ru≠ra/\H' ru=some (.lst (([]:List Addr).map V.ref))/\H' ra=some (.lst (([]:List Addr).map V.ref))/\Z=[some (.str text),↑ra,↑ru,none,none,none]/\ar H H') ?_ ?_)
 ·intro u' hu
  tm_at "r";exact⟨(),λp hp=>hu _ _ ⟨p,s1.free hp,(ao hra1 hp).symm,ae,(aq hp) _ _ hra1,rfl,s1.upd hp⟩⟩
 clear hra1 s1;rintro Ω ω _ H2 ⟨ru,hru,rra,hru2,hra2,rfl,s2⟩;refine ω _ _ (aV (λZ H'=>∃(ts rs:List Addr) (o3 o4 o5:Option V),Z=[some (.str text),↑ra,↑ru,o3,o4,o5]/\ts.length=bs.length/\rs.length=Rs.length/\H' ra=some (.lst (ts.map V.ref))/\H' ru=some (.lst (rs.map V.ref))/\(∀(j:Nat) (t:Addr) (b:Int×Int),ts[j]?=some t->bs[j]?=some b->H' t=some (.tup [.int b.1,.int b.2]))/\(∀(j:Nat) (r:Addr) (R:bc),rs[j]?=some r->Rs[j]?=some R->~~~gr bs.length R r H')/\ar H H') ?_ ?_)
 ·intro u' hu
  tm_at "r";refine⟨10,by decide +kernel,∅,(),λsp hsp0=>?_⟩;rw [hsp];have s3:ar H2 (upd H2 sp (.lst ((bs.map vr++Rs.map cY).map V.str))):=aq hsp0;have nsa:sp≠ra:=(ao hra2 hsp0).symm;have nsu:sp≠ru:=(ao hru2 hsp0).symm;obtain⟨Pv,hPv⟩:∃Pv:Nat->L2.St->Hp->Prop,Pv=λi Z H'=>∃(ts rs:List Addr) (o3 o4 o5:Option V),Z=[some (.str text),↑ra,↑ru,o3,o4,o5]/\ts.length=min i bs.length/\rs.length=i - bs.length/\H' ra=some (.lst (ts.map V.ref))/\H' ru=some (.lst (rs.map V.ref))/\H' sp=some (.lst ((bs.map vr++Rs.map cY).map V.str))/\(∀(j:Nat) (t:Addr) (b:Int×Int),ts[j]?=some t->bs[j]?=some b->H' t=some (.tup [.int b.1,.int b.2]))/\(∀(j:Nat) (r:Addr) (R:bc),rs[j]?=some r->Rs[j]?=some R->~~~gr bs.length R r H')/\ar H H':=⟨_,rfl⟩
  refine⟨true,⟨_,aF.of ae⟩,jH (l:=true) (us:=(bs.map vr++Rs.map cY).map V.str) Pv
   (by rw [hPv];exact⟨[],[],none,none,none,rfl,by simp,by simp,s3 _ _ hra2,s3 _ _ hru2,ae,λj t b e=>(by cases e),λj r R e=>(by cases e),s2.trans s3⟩) (λi Z H' _ h=>by rw [hPv]at h;obtain⟨_,_,_,_,_,_,_,_,_,_,h,_⟩:=h;exact aF.of h) ?_ ?_⟩
  ·rintro i y Z H4 p hx hI hp0
   have hI':=hI;rw [hPv]at hI';clear hI;obtain⟨ts,rs,o3,o4,o5,rfl,tl,rsl,ha4,hu4,hs4,ht4,hr4,s4⟩:=hI'
   have hi:i < bs.length+Rs.length:=by have:=(aa3.mp hx).1;simpa using this
   rw [aa5]at hx;have sp5:ar H4 (upd H4 p (.tup [.int i,y])):=aq hp0;have hp5:(upd H4 p (.tup [.int i,y])) p=some (.tup [.int i,y]):=ae;refine C1 λB hB=>?_
   by_cases hv:i < bs.length
   ·-- a voice's row
    have eb:bs[i]?=some bs[i]:=aa2 hv;obtain⟨hrow,hle,_⟩:=hb _ (ae0 hv);rw [an1 (ag9 hv)]at tl;rw [Nat.sub_eq_zero_of_le (ag9 hv)]at rsl;rw [ab1 (by simpa using hv),aa5,eb]at hx;cases hx;tm_at "r";refine⟨_,cT.of hp5,rfl,?_⟩;tm_at "r";refine hB _ _ (iJ λkk hkk=>?_);tm_at "r";generalize upd H4 p (.tup [.int i,.str (vr bs[i])])=H5 at sp5 hp5;refine⟨vr bs[i],rfl,hrow.len,.inl ⟨_,_,hrow,hle,λt H6 ht6 s56=>?_⟩⟩;have s46:=sp5.trans s56;refine hkk _ _ (se λA1 B1 hA1 hB1=>?_);tm_at "r";refine⟨_,.inl (aF.of (s46 _ _ ha4)),?_⟩;rw [if_pos (by rw [aa1];omega)];refine⟨_,.inl (aF.of (s46 _ _ hu4)),?_⟩;rw [if_pos (by rw [aa1];omega)];refine hA1 _ ?_;tm_at "r";have ha6:=s46 _ _ ha4;refine⟨.inl ⟨rfl,_,aF.of ha6⟩,ra,_,_,rfl,rfl,ha6,by rw [aa1];omega,?_⟩;have rs0:rs=[]:=ag3.mp ();subst rs0;rw [hPv];refine⟨ts++[t],[],_,_,_,rfl,by simp;omega,by simp;omega,by rw [ae,ab7];rfl,by rw [aj rra];exact s46 _ _ hu4,by rw [aj nsa];exact s46 _ _ hs4,λj t' b' e1 e2=>?_,λj r R e=>(by cases e),λc u hc=>?_⟩
    ·by_cases hj:j < ts.length
     ·rw [ab1 hj]at e1
      have:=s46 _ _ (ht4 j t' b' e1 e2)
      rw [aj (da this ha6 (λe=>by cases e))];exact this
     ·rw [ab9 ()]at e1
      have ej:j=ts.length:=by
       have:=(aa3.mp e1).1
       simp at this;omega
      rw [ej,ai5]at e1;cases e1;rw [show j=i by omega,eb]at e2;cases e2;rw [aj (da ht6 ha6 (λe=>by cases e))];exact ht6
    ·rw [aj (ao hc hra)]
     exact(s4.trans s46) _ _ hc
   ·-- a rule's row
    have hk:i - bs.length < Rs.length:=by omega
    rw [am2 (am0.mp hv)]at tl;have eR:Rs[i - bs.length]?=some (Rs[i - bs.length]'hk):=aa2 hk;obtain⟨hgd,hok,_⟩:=hR _ (ae0 hk);obtain⟨hlen,w0,ws,hsw,hw0⟩:=iG _ hok;rw [ab9 (by simpa using hv),aa1,aa5,eR]at hx;cases hx;tm_at "r";refine⟨_,cT.of hp5,rfl,?_⟩;tm_at "r";refine hB _ _ (iJ λkk hkk=>?_);tm_at "r";generalize upd H4 p (.tup [.int i,.str (cY (Rs[i - bs.length]'hk))])=H5 at sp5 hp5;refine⟨_,rfl,hlen,.inr ⟨w0,ws,hsw,hw0,λH6 s56=>?_⟩⟩;have s46:=sp5.trans s56;refine hkk _ _ (se λA1 B1 hA1 hB1=>?_);tm_at "r";refine hB1 _ (se λA2 B2 hA2 hB2=>?_);tm_at "r";refine⟨_,.inl (aF.of (s46 _ _ ha4)),?_⟩;rw [if_neg (by rw [aa1];omega)];refine⟨_,.inl (aF.of (s46 _ _ hu4)),?_⟩;rw [if_neg (by rw [aa1];omega)];refine hB2 _ ?_;tm_at "r";refine⟨.inl ⟨rfl,_,aF.of (s46 _ _ hu4)⟩,_,.inl (aF.of (s46 _ _ ha4)),?_⟩;rw [aa1,show ts.length=bs.length by omega];refine⟨i,_,bs.length,rfl,hgd,hok,λr H7 hr7 s67=>?_⟩;have s47:=s46.trans s67;have hu7:=s47 _ _ hu4;refine⟨ru,_,_,rfl,rfl,hu7,by rw [aa1];omega,?_⟩;rw [hPv];refine⟨ts,rs++[r],_,_,_,rfl,(),by simp;omega,by rw [aj rra.symm];exact s47 _ _ ha4,by rw [ae,ab7];rfl,by rw [aj nsu];exact s47 _ _ hs4,λj t' b' e1 e2=>?_,λj r' R' e1 e2=>?_,λc u hc=>?_⟩
    ·have:=s47 _ _ (ht4 j t' b' e1 e2)
     rw [aj (da this hu7 (λe=>by cases e))];exact this
    ·by_cases hj:j < rs.length
     ·rw [ab1 hj]at e1
      exact((hr4 j r' R' e1 e2).same s47).stab hu7
     ·rw [ab9 ()]at e1
      have ej:j=rs.length:=by
       have:=(aa3.mp e1).1
       simp at this;omega
      rw [ej,ai5]at e1;cases e1;rw [show j=i - bs.length by omega,eR]at e2;cases e2;exact hr7.stab hu7
    ·rw [aj (ao hc hru)]
     exact(s4.trans s47) _ _ hc
  ·intro Z H4 hI
   rw [hPv]at hI;obtain⟨ts,rs,o3,o4,o5,rfl,tl,rsl,ha4,hu4,hs4,ht4,hr4,s4⟩:=hI;rw [aa1,ab2,aa1,aa1]at tl rsl;exact hu _ _ ⟨ts,rs,o3,o4,o5,rfl,(),(),ha4,hu4,ht4,hr4,s4⟩
 clear hra2 hru2 s2;clear H2;rintro Ω ω _ H2 ⟨ts,rs,o3,o4,o5,rfl,tl,rsl,ha2,fE,ht2,hr2,s2⟩;refine ω _ _ ?_;tm_at "r";intro x dx hx hdx dxx;have s3:ar H2 (upd (upd H2 dx (.own x)) x (.ins C dx [])):=(aq hdx).upd (by rw [aj dxx.symm];exact hx);refine⟨x,dx,ra,ru,ts.map V.ref,rs.map V.ref,rfl,ae,s3.seq (aF.of ha2),s3.seq (aF.of fE),λp q' H' hp hq hqp e=>⟨rfl,?_⟩⟩
 have px:p≠x:=λe=>by subst e;rw [ae]at hp;cases hp
 have qx:q'≠x:=λe=>by subst e;rw [ae]at hq;cases hq
 have s4:ar H2 H':=λc u hc=>by
  have h3:=s3 _ _ hc;have cx:c≠x:=ao hc hx;rw [e,aj cx,aj (ao h3 hq),aj (ao h3 hp)];exact h3
 have SA: ~~~jr C bs.length bs Rs x H':=⟨dx,p,q',by rw [e,ae],⟨ts,aF.of (by rw [e,aj px,aj hqp.symm,ae]),tl,λi t b e1 e2=>cT.of (s4 _ _ (ht2 i t b e1 e2))⟩,⟨rs,aF.of (by rw [e,aj qx,ae]),rsl,λj r R e1 e2=>(hr2 j r R e1 e2).same s4⟩⟩;exact⟨x,bs.length,bs,Rs,rfl,SA,(),(),λb hb'=>(hb b hb').2.2,λR hR'=>(hR R hR').2.2,hwt,q x H' SA (s2.trans s4)⟩
def DT(bs:List (Int×Int)):Prop:=∃dw:Int,0<=dw/\dw<=10 ^ 20/\∀b∈bs,dw - 50<=b.1/\b.1<=dw+50/\b.1<=b.2/\b.2<=b.1+4
def Bm(K:Frag):Sp:=λvs H Q _=>∃(w:Addr) (R:bc),vs=[.ref w]/\aF K H w (dQ R)/\Q (.int (eS R)) H
def tH(K:Frag):Sp:=λvs H Q _=>∃(l:Addr) (ns:List Int) (bits:Int),vs=[.ref l,.int bits]/\aF K H l (ns.map V.int)/\1<=ns.length/\ns.length<=1000/\∀(p:Addr) (D:List Int) H',1<=D.length->D.length<=12->(∀d∈D,d∈ns)->H' p=some (.lst (D.map V.int))->ar H H'->Q (.ref p) H'
def nB(K:Frag):Sp:=λvs H Q _=>∃(a:Addr) (bs:List (Int×Int)) (i j:Nat),vs=[.ref a,.int i,.int j]/\cf K H a bs/\DT bs/\i < bs.length/\j < bs.length/\∀(p:Addr) (ns:List Int) H',1<=ns.length->ns.length<=1000->(∀n∈ns,n.natAbs<=1000)->H' p=some (.lst (ns.map V.int))->ar H H'->Q (.ref p) H'
theorem cf.ix{a:Addr}(h:cf K H a bs)(hi:i < bs.length)(q:∀t,cT K H t [.int (bs[i]).1,.int (bs[i]).2]->Q (.ref t) H):tO K (.ref a) (.int (i:Int)) H Q:=by
 obtain⟨ts,h1,h2,h3⟩:=h;have e1:ts[i]?=some (ts[i]'()):=aa2 ();exact aR h1 (aE (by rw [aa5,e1];rfl)) (q _ (h3 i _ _ e1 (aa2 hi)))
theorem CO(F:cc K "_law_size" "_law_size" jT f fd)(T:Txt mg aM): ~~~aG bV 1 f fd ["_law_rule_here"] (Bm K):=by
 refine F.ok uT λ_ A _ s H vs Q E hr h=>?_;obtain⟨w,R,rfl,hw,q⟩:=h
 refine⟨rfl,_,(af (aS (aX (ax mD (aD (aW K) (pr 0) ah (λ_ _=>rfl)) bO (ay _))) (ai (av ah)) aB)
 (af (aS (aX (ax mD (aD (aW K) (pr 0) ah (λ_ _=>rfl)) bO (ay _))) (ai (av (aD (aW K) (pr 0) ah (λ_ _=>rfl)))) aB)
 (af (aS (aX (ax mD (aD (aW K) (pr 0) ah (λ_ _=>rfl)) bO (ay _))) (ai (av (au (bL K) (aD (aW K) (pr 0) ah (λ_ _=>rfl)) ah))) aB)
 (af (aS (aX (ax mD (aD (aW K) (pr 0) ah (λ_ _=>rfl)) bO (ay _))) (ai (av (aD (aW K) (pr 0) ah (λ_ _=>rfl)))) aB)
 (ai (av ah)))))),?_⟩
 have ixw:∀{k:Nat} {x:V} {Q':VK},(dQ R)[k]?=some x->Q' x H->tO K (.ref w) (.int (k:Int)) H Q':=λhx hq=>aR hw (aE hx) hq
 cases R with
 | every m a R=>
  tm_at "r";refine ixw (k:=0) rfl ?_;tm_at "r";rw [if_neg (by decide +kernel)];refine ixw (k:=0) rfl ?_;tm_at "r";rw [if_neg (by decide +kernel)];refine ixw (k:=0) rfl ?_;tm_at "r";rw [if_neg (by decide +kernel)];refine ixw (k:=0) rfl ?_;tm_at "r";exact ixw (k:=1) rfl q
 | plain R=>
  cases R with
  | back o dw=>
   tm_at "r";refine ixw (k:=0) rfl ?_;tm_at "r";exact q
  | held o most=>
   tm_at "r";refine ixw (k:=0) rfl ?_;tm_at "r";rw [if_neg (by decide +kernel)];refine ixw (k:=0) rfl ?_;tm_at "r";exact ixw (k:=2) rfl q
  | times o nt lw hgh=>
   tm_at "r";refine ixw (k:=0) rfl ?_;tm_at "r";rw [if_neg (by decide +kernel)];refine ixw (k:=0) rfl ?_;tm_at "r";rw [if_neg (by decide +kernel)];refine ixw (k:=0) rfl ?_;tm_at "r";refine ixw (k:=4) rfl ?_;tm_at "r";exact q
  | _=>
   tm_at "r";refine ixw (k:=0) rfl ?_;tm_at "r";rw [if_neg (by decide +kernel)];refine ixw (k:=0) rfl ?_;tm_at "r";rw [if_neg (by decide +kernel)];refine ixw (k:=0) rfl ?_;tm_at "r";rw [if_neg (by decide +kernel)];refine ixw (k:=0) rfl ?_;tm_at "r";rw [if_neg (by decide +kernel)];exact q
theorem AK(F:cc K "_law_spans" "_law_spans" jk f fd)(T:Txt mg aM): ~~~aG bV 1 f fd ["_law_ranges","_law_a","_law_b"] (nB K):=by
 refine F.ok tu λ_ A _ s H vs Q E hr h=>?_;obtain⟨a,bs,i,j,rfl,hR,⟨dw,f0,f1,hb⟩,hi,hj,q⟩:=h;refine⟨rfl,_,(ai (av (lM rfl ⋯ T.n_list ⋯ T.n_range (aa (au (o0 cJ) (aD (aW K) (aD (aW K) (pr 0) (pr 2) (λ_ _=>rfl)) ah (λ_ _=>rfl)) (aD (aW K) (aD (aW K) (pr 0) (pr 1) (λ_ _=>rfl)) ah (λ_ _=>rfl))) (aa (au (bL K) (au (o0 cJ) (aD (aW K) (aD (aW K) (pr 0) (pr 2) (λ_ _=>rfl)) ah (λ_ _=>rfl)) (aD (aW K) (aD (aW K) (pr 0) (pr 1) (λ_ _=>rfl)) ah (λ_ _=>rfl))) ah) ag))))),?_⟩;have bi:=hb _ (ae0 hi);have bj:=hb _ (ae0 hj);tm_at "r"
 try simp only [kY]
 tm_at "r";have at1:∀(xs:List V) (x:V),xs[1]?=some x->fC xs 1=some x:=λxs x e=>show fC xs ((1:Nat):Int)=_ from aE e;refine hR.ix hj λt ht=>eD ht (bC rfl) (hR.ix hi λt2 ht2=>eD ht2 (at1 _ _ rfl) ?_);tm_at "r";refine hR.ix hj λt ht=>eD ht (at1 _ _ rfl) (hR.ix hi λt2 ht2=>eD ht2 (bC rfl) ?_);tm_at "r";refine⟨(),λp hp=>q p _ _ ?_ ?_ ?_ ae (aq hp)⟩
 ·simp [L2.intsFrom];omega
 ·simp [L2.intsFrom];omega
 ·intro n hn
  simp only [L2.intsFrom,ac4,ah9]at hn;obtain⟨k,hk,rfl⟩:=hn;omega
def uY(K:Frag):Sp:=λvs H Q _=>∃(a:Addr) (bs:List (Int×Int)) (c bits:Int),vs=[.int c,.int bits,.ref a]/\cf K H a bs/\DT bs/\1<=bs.length/\bs.length<=4/\∀(p:Addr) (R:gc) H',Cm R->qS bs.length R->DS R->H' p=some (.lst (jL R))->ar H H'->Q (.ref p) H'
theorem CP(F:cc K "_law_some" "_law_some" jV f fd)(T:Txt mg aM): ~~~aG bV 1 f fd ["_law_values","_law_bits"] (tH K):=by
 refine F.ok sc_law_some λ_ A _ s H vs Q E hr h=>?_;obtain⟨l,ns,bits,rfl,hS,n1,n2,q⟩:=h
 refine⟨rfl,_,(af (cW (i:=2) sc_law_some.nd (bu ag))
 (af (cW (i:=3) sc_law_some.nd (au (o1 bP) (pr 1) ah))
 (af (bW PassesOwn.never rfl (c8 rfl T.n_range (aa (aA (aJ K) ⋯ T.n_len boot_len (aa (pr 0) ag)) ag)) (gd (i:=4) sc_law_some.nd)
 (af (gx (aA (iW) ⋯ T.n_divmod boot_divmod (aa (pr 3) (aa ah ag))) (cR K (n:=2) rfl (aO (gd (i:=3) sc_law_some.nd) (aO (gd (i:=5) sc_law_some.nd) cS))))
 (af (aS (aX (ax (F3 K (GJ hr)) (au (o1 bF) (pr 1) ah) ah (ay _))) (ai (cW (i:=5) sc_law_some.nd (au (o1 bF) (au (o1 bP) (au (ib K) (au (o1 bF) (au (o1 bP) (pr 1) ah) ah) (au (bL K) (au (bL K) (au (ib K) (pr 4) (pr 4)) (au (ib K) ah (pr 4))) ah)) ah) ah))) aB)
 (ai (aS (aX (ax (o0 uC) (pr 5) ah (ay _))) (ai (bq (bQ K PySem.F.plainAttrs_list PySem.F.slot_list_append PySem.F.type_list_append bT (pr 2) (aa (aD (aW K) (pr 0) (pr 4) (λ_ _=>rfl)) ag)))) aB)))))
 (af (aS (aX (ax (F3 K (GJ hr)) (pr 2) (bu ag) (ay _))) (ai (av (bu (aa (aD (aW K) (pr 0) ah (λ_ _=>rfl)) ag)))) aB)
 (ai (av (bK (gf K) (pr 2) b0 (fY ah)))))))),?_⟩
 have hs:=sizeLine_eq;refine aV (λZ H'=>∃fo:Addr,H fo=none/\H' fo=some (.lst (([]:List Int).map V.int))/\Z=[↑l,⇑bits,↑fo,none,none,none]/\ar H H') ?_ ?_
 ·intro u' hu
  tm_at "r";exact⟨(),λp hp=>hu _ _ ⟨p,hp,ae,rfl,aq hp⟩⟩
 rintro Ω ω _ H1 ⟨fo,hfo,hfo1,rfl,s1⟩;refine ω _ _ (aV (λZ H'=>Z=[↑l,⇑bits,↑fo,⇑(bits / 2),none,none]/\H1=H') ?_ ?_)
 ·intro u' hu
  tm_at "r";exact⟨⟨∅,∅⟩,hu _ _ ⟨rfl,rfl⟩⟩
 rintro Ω ω _ _ ⟨rfl,rfl⟩;refine ω _ _ (aV (λZ H'=>∃(D:List Int) (r:Int) (o4 o5:Option V),Z=[↑l,⇑bits,↑fo,⇑r,o4,o5]/\H' fo=some (.lst (D.map V.int))/\D.length<=ns.length/\(∀d∈D,d∈ns)/\ar H H') ?_ ?_)
 ·intro u' hu
  tm_at "r";refine⟨_,.inl (s1.seq hS),(),by rw [aa1];omega,?_⟩;rw [aa1];refine de (λi Z H'=>∃(D:List Int) (r:Int) (o4 o5:Option V),Z=[↑l,⇑bits,↑fo,⇑r,o4,o5]/\H' fo=some (.lst (D.map V.int))/\D.length<=i/\(∀d∈D,d∈ns)/\ar H H') ⟨[],_,none,none,rfl,hfo1,aa7 _,λ_ z=>(by cases z),s1⟩ ?_ ?_
  ·rintro i Z H2 hi ⟨D,r,o4,o5,rfl,hf2,dl,dn,s2⟩
   have hi':i < ns.length:=by omega
   refine aV (λZ H'=>∃r' tk:Int,Z=[↑l,⇑bits,↑fo,⇑r',⇑i,⇑tk]/\ar H2 H') ?_ ?_
   ·intro u' hu
    tm_at "r";refine⟨⟨∅,∅⟩,λp hp=>⟨_,cT.of ae,rfl,?_⟩⟩;tm_at "r";exact hu _ _ ⟨_,_,rfl,aq hp⟩
   rintro Ω ω _ H3 ⟨r',tk,rfl,s23⟩;have s3:=s2.trans s23;have hf3:=s23 _ _ hf2;refine ω _ _ (aV (λZ H'=>∃tk:Int,Z=[↑l,⇑bits,↑fo,⇑r',⇑i,⇑tk]/\H3=H') ?_ ?_)
   ·intro u' hu
    tm_at "r";refine⟨∅,?_⟩
    by_cases hb:bits % 2=1
    ·rw [if_pos hb]
     have i3:(i:Int) < 1001:=by omega
     exact⟨⟨∅,∅⟩,∅,.of_left (intBits_le_iff.mpr ()),.of_left ∅,.of_left (intBits_le_iff.mpr ()),⟨∅,∅⟩,∅,hu _ _ ⟨_,rfl,rfl⟩⟩
    ·rw [if_neg hb]
     exact hu _ _ ⟨_,rfl,rfl⟩
   clear tk;rintro Ω ω _ _ ⟨tk,rfl,rfl⟩;refine ω _ _ ?_;tm_at "r"
   by_cases ht:(0:Int) < tk
   ·rw [if_pos ht]
    have e1:ns[i]?=some ns[i]:=aa2 hi';refine⟨.inl ⟨rfl,_,aF.of hf3⟩,aR (s3.seq hS) (aE (by rw [aa5,e1];rfl)) ⟨fo,_,_,rfl,rfl,hf3,by rw [aa1];omega,D++[ns[i]],?_⟩⟩;refine⟨by rw [ae,ab7];rfl,by simp;omega,λd hd=>?_,λc u hc=>?_⟩
    ·rcases ad2.mp hd with h | h
     ·exact dn d h
     ·rw [ac3.mp h];exact ae0 hi'
    ·rw [aj (ao hc hfo)]
     exact s3 _ _ hc
   ·rw [if_neg ht]
    exact⟨D,hf3,(),dn,s3⟩
  ·rintro Z H2 ⟨D,r,o4,o5,rfl,hf2,dl,dn,s2⟩
   exact hu _ _ ⟨D,r,o4,o5,rfl,hf2,(),dn,s2⟩
 clear hfo1 s1;clear H1;rintro Ω ω _ H1 ⟨D,r,o4,o5,rfl,hf1,dl,dn,s1⟩;refine ω _ _ (aV (λZ H'=>1<=D.length/\Z=[↑l,⇑bits,↑fo,⇑r,o4,o5]/\ar H1 H') ?_ ?_)
 ·intro u' hu
  tm_at "r";refine⟨(),λp hp=>?_⟩;have s2:ar H1 (upd H1 p (.lst [])):=aq hp;refine A5 (l:=true) (aF.of (s2 _ _ hf1)) (aF.of ae) ⟨_,rfl,?_⟩
  by_cases h0:D.length=0
  ·rw [if_pos (by simp [h0])]
   have e1:ns[0]?=some (ns[0]'()):=aa2 ();refine aR ((s1.trans s2).seq hS) (bC (by rw [List.head?_map,List.head?_eq_getElem?,e1];rfl)) ?_;tm_at "r";exact⟨(),λp2 hp2=>q p2 [ns[0]'()] _ (by simp) (by simp) (λd hd=>by rw [ac3.mp hd];exact ae0 _) ae ((s1.trans s2).upd hp2)⟩
  ·rw [if_neg (by simp [h0])]
   exact hu _ _ ⟨(),rfl,s2⟩
 rintro Ω ω _ H2 ⟨d1,rfl,s12⟩;refine ω _ _ ?_;tm_at "r";refine cX (aF.of (s12 _ _ hf1)) λp hp=>?_;rw [show(some (12:Int))=some ((12:Nat):Int)from rfl,eU,<-List.map_take];exact q p (D.take 12) _ (by rw [ad1];omega) (by rw [ad1];omega) (λd hd=>dn d (ak2 hd)) ae ((s1.trans s12).upd hp)
theorem yQ(F:cc K "_law_single" "_law_single" iC f fd)(T:Txt mg aM)(D_law_some: ~~~cN "_law_some" 1 ["_law_values","_law_bits"] (tH K))(D_law_spans: ~~~cN "_law_spans" 1 ["_law_ranges","_law_a","_law_b"] (nB K)): ~~~aG bV 2 f fd ["_law_cell","_law_bits","_law_ranges"] (uY K):=by
 refine F.ok sc_law_single λ_ A _ s H vs Q E hr h=>?_;obtain⟨a,bs,c,bits,rfl,hR,hok,b1,b4,q⟩:=h
 refine⟨rfl,_,(af (cW (i:=3) sc_law_single.nd (au (o1 bF) (pr 0) (aA (aJ K) ⋯ T.n_len boot_len (aa (pr 2) ag))))
 (af (cW (i:=4) sc_law_single.nd (au (o1 bF) (au (o1 bP) (pr 0) ah) (aA (aJ K) ⋯ T.n_len boot_len (aa (pr 2) ag))))
 (af (aS (aX (ax mD (au (o1 bF) (au (o1 bP) (pr 0) ah) ah) ah (ay _))) (ai (av (au (bL K) (bu (aa bO (aa (au (bL K) (pr 3) ah) (aa (au (bL K) (pr 4) ah) ag)))) (az D_law_some hr ⋯ (aa (az D_law_spans hr ⋯ (aa (pr 2) (aa (pr 3) (aa (pr 4) ag)))) (aa (pr 1) ag)))))) aB)
 (af (cW (i:=5) sc_law_single.nd (au (bL K) ah (au (o1 bF) (au (o1 bP) (pr 0) ah) ah)))
 (ai (av (au (bL K) (bu (aa bO (aa (au (bL K) (pr 3) ah) (aa (au (bL K) (pr 4) ah) (aa (pr 5) ag))))) (az D_law_some hr ⋯ (aa (qZ rfl ⋯ T.n_list ⋯ T.n_range (aa (pr 5) ag)) (aa (pr 1) ag)))))))))),?_⟩
 have hs:=sizeLine_eq
 have ln:∀{Q':Nat->Prop} {H':Hp},ar H H'->Q' bs.length->∃xs:List V,(aF K H' a xs\/cT K H' a xs)/\Q' xs.length:=λ{Q' H'} sm hq=>by
  obtain⟨ts,h1,h2,_⟩:=hR;exact⟨_,.inl (sm.seq h1),by rw [aa1,h2];exact hq⟩
 refine aV (λZ H'=>∃i:Nat,i < bs.length/\Z=[⇑c,⇑bits,↑a,⇑i,none,none]/\H=H') ?_ ?_
 ·intro u' hu
  tm_at "r";obtain⟨ts,h1,h2,_⟩:=hR;refine⟨_,.inl h1,?_⟩;rw [aa1,h2];have m0:=ae2 c (show((bs.length:Nat):Int)≠0 by omega);have m1:=ad7 c (show(0:Int) < (bs.length:Nat)by omega);obtain⟨i,hi⟩:=ae1 m0;rw [hi]at m1 |-;exact⟨(),hu _ _ ⟨i,(),rfl,rfl⟩⟩
 rintro Ω ω _ _ ⟨i,hi,rfl,rfl⟩;refine ω _ _ (aV (λZ H'=>∃j:Nat,j < bs.length/\Z=[⇑c,⇑bits,↑a,⇑i,⇑j,none]/\H=H') ?_ ?_)
 ·intro u' hu
  tm_at "r";obtain⟨ts,h1,h2,_⟩:=hR;refine⟨⟨∅,∅⟩,_,.inl h1,?_⟩;rw [aa1,h2];have m0:=ae2 (c / 3) (show((bs.length:Nat):Int)≠0 by omega);have m1:=ad7 (c / 3) (show(0:Int) < (bs.length:Nat)by omega);obtain⟨j,hj⟩:=ae1 m0;rw [hj]at m1 |-;exact⟨(),hu _ _ ⟨j,(),rfl,rfl⟩⟩
 rintro Ω ω _ _ ⟨j,hj,rfl,rfl⟩;refine ω _ _ (aV (λZ H'=>Z=[⇑c,⇑bits,↑a,⇑i,⇑j,none]/\H=H') ?_ ?_)
 ·intro u' hu
  tm_at "r";refine⟨⟨∅,∅⟩,∅,?_⟩
  by_cases h0:c / 9 % 2=0
  ·rw [if_pos h0]
   refine⟨(),λp hp=>?_⟩;have sp:ar H (upd H p (.lst [.str (Str.ofString "span"),.int (i+1),.int (j+1)])):=aq hp;have hp1:(upd H p (.lst [.str (Str.ofString "span"),.int (i+1),.int (j+1)])) p=some (.lst [.str (Str.ofString "span"),.int (i+1),.int (j+1)]):=ae;generalize upd H p (.lst [.str (Str.ofString "span"),.int (i+1),.int (j+1)])=H1 at sp hp1;refine⟨a,bs,i,j,rfl,hR.same sp,hok,hi,hj,λp2 ns H2 n1 n2 nb h2 s2=>?_⟩;refine⟨p2,ns,bits,rfl,aF.of h2,n1,n2,λp3 D H3 d1 d2 dn h3 s3=>?_⟩;refine gX ((s2.trans s3) _ _ hp1) h3 (by simp;omega) λp4 hp4=>?_;exact q p4 (.span i j D) _ trivial ⟨(),(),(),()⟩ ⟨ac8.mpr ⟨(),ac8.mpr ⟨(),λd hd=>by have:=nb d (dn d hd);omega⟩⟩,d1,d2⟩ ae ((sp.trans (s2.trans s3)).upd hp4)
  ·rw [if_neg h0]
   exact hu _ _ ⟨rfl,rfl⟩
 rintro Ω ω _ _ ⟨rfl,rfl⟩;refine ω _ _ (aV (λZ H'=>∃bt:Int,1<=bt/\bt<=5/\Z=[⇑c,⇑bits,↑a,⇑i,⇑j,⇑bt]/\H=H') ?_ ?_)
 ·intro u' hu
  tm_at "r";exact⟨⟨∅,∅⟩,∅,hu _ _ ⟨_,(),(),rfl,rfl⟩⟩
 rintro Ω ω _ _ ⟨bt,t1,t5,rfl,rfl⟩;refine ω _ _ ?_;tm_at "r";refine⟨(),λp hp=>?_⟩;have sp:ar H (upd H p (.lst [.str (Str.ofString "clock"),.int (i+1),.int (j+1),.int bt])):=aq hp;have hp1:(upd H p (.lst [.str (Str.ofString "clock"),.int (i+1),.int (j+1),.int bt])) p=some (.lst [.str (Str.ofString "clock"),.int (i+1),.int (j+1),.int bt]):=ae;generalize upd H p (.lst [.str (Str.ofString "clock"),.int (i+1),.int (j+1),.int bt])=H1 at sp hp1
 try simp only [tJ]
 tm_at "r";refine⟨(),λp2 hp2=>?_⟩;have s2:ar H1 (upd H1 p2 (.lst ((L2.intsFrom 0 bt.toNat).map V.int))):=aq hp2;refine⟨p2,L2.intsFrom 0 bt.toNat,bits,rfl,aF.of ae,by simp [L2.intsFrom];omega,by simp [L2.intsFrom];omega,λp3 D H3 d1 d2 dn h3 s3=>?_⟩;refine gX ((s2.trans s3) _ _ hp1) h3 (by simp;omega) λp4 hp4=>?_;refine q p4 (.clock i j bt D) _ trivial ⟨(),(),(),(),t1⟩ ⟨ac8.mpr ⟨(),ac8.mpr ⟨(),ac8.mpr ⟨(),λd hd=>?_⟩⟩⟩,d1,d2⟩ ae ((sp.trans (s2.trans s3)).upd hp4);have hd':=dn d hd;simp only [L2.intsFrom,ac4,ah9]at hd';obtain⟨k,hk,rfl⟩:=hd';omega
def qX(nv:Nat)(R:bc):Prop:=iY nv R/\vI R/\1<=eS R/\eS R<=4
def Bl(K:Frag):Sp:=λvs H Q _=>∃(a:Addr) (bs:List (Int×Int)) (c bits:Int),vs=[.int c,.int bits,.ref a]/\cf K H a bs/\DT bs/\1<=bs.length/\bs.length<=4/\∀(p:Addr) (R:bc) H',qX bs.length R->H' p=some (.lst (dQ R))->ar H H'->Q (.ref p) H'
theorem uc(h:Cm R):eS (.plain R)=1:=by
 cases R with
 | span _ _ _=>rfl
 | clock _ _ _ _=>rfl
 | _=>exact h.elim
theorem GL(x:Int){c:Int}(h:0 < c)(k:c<=4):0<=x % c/\x % c<=3/\(x % c).natAbs < 10 ^ 40:=by
 have a:=ae2 x (show c≠0 by omega);have b:=ad7 x h;exact⟨a,(),()⟩
theorem GD(h:i < 4):((i:Int)+1).natAbs < 10 ^ 40:=by omega
theorem CN(F:cc K "_law_rule" "_law_rule" jS f fd)(T:Txt mg aM)(D_law_single: ~~~cN "_law_single" 2 ["_law_cell","_law_bits","_law_ranges"] (uY K))(D_law_some: ~~~cN "_law_some" 2 ["_law_values","_law_bits"] (tH K))(D_law_spans: ~~~cN "_law_spans" 2 ["_law_ranges","_law_a","_law_b"] (nB K)): ~~~aG bV 3 f fd ["_law_cell","_law_bits","_law_ranges"] (Bl K):=by
 refine F.ok sc_law_rule λ_ A _ s H vs Q E hr h=>?_;obtain⟨a,bs,c,bits,rfl,hR,hok,b1,b4,q⟩:=h
 refine⟨rfl,_,(af (cW (i:=3) sc_law_rule.nd (au (o1 bF) (pr 0) ah))
 (af (cW (i:=4) sc_law_rule.nd (au (o1 bF) (au (o1 bP) (pr 0) ah) (au (o1 jJ) ah ah)))
 (af (cW (i:=5) sc_law_rule.nd (au (o1 bF) (pr 4) (aA (aJ K) ⋯ T.n_len boot_len (aa (pr 2) ag))))
 (af (gx (aD (aW K) (pr 2) (pr 5) (λ_ _=>rfl)) (cR K (n:=2) rfl (aO (gd (i:=6) sc_law_rule.nd) (aO (gd (i:=7) sc_law_rule.nd) cS))))
 (af (cW (i:=8) sc_law_rule.nd (lM rfl ⋯ T.n_list ⋯ T.n_range (aa (pr 6) (aa (au (bL K) (pr 7) ah) ag))))
 (af (aS (aX (ax (o0 kF) (pr 3) ah (ay _))) (ai (av (az D_law_single hr ⋯ (aa (au (bL K) (au (ib K) ah (pr 4)) (pr 3)) (aa (pr 1) (aa (pr 2) ag)))))) aB)
 (af (aS (aX (ax mD (pr 3) ah (ay _))) (ai (av (au (bL K) (bu (aa bO (aa (au (bL K) (pr 5) ah) ag))) (az D_law_some hr ⋯ (aa (lM rfl ⋯ T.n_list ⋯ T.n_range (aa (au (o0 cJ) (pr 6) (pr 7)) (aa (au (bL K) (au (o0 cJ) (pr 7) (pr 6)) ah) ag))) (aa (pr 1) ag)))))) aB)
 (af (aS (aX (ax mD (pr 3) ah (ay _))) (af (cW (i:=9) sc_law_rule.nd (au (o1 bF) (au (o1 bP) (pr 4) ah) (aA (aJ K) ⋯ T.n_len boot_len (aa (pr 2) ag))))
 (ai (av (au (bL K) (bu (aa bO (aa (au (bL K) (pr 5) ah) (aa (au (bL K) (pr 9) ah) ag)))) (az D_law_some hr ⋯ (aa (az D_law_spans hr ⋯ (aa (pr 2) (aa (pr 5) (aa (pr 9) ag)))) (aa (pr 1) ag))))))) aB)
 (af (aS (aX (ax mD (pr 3) ah (ay _))) (ai (av (bu (aa bO (aa (au (bL K) (pr 5) ah) (aa (au (o1 bF) (au (o1 bP) (pr 4) ah) ah) ag)))))) aB)
 (af (aS (aX (ax mD (pr 3) ah (ay _))) (ai (av (bu (aa bO (aa (au (bL K) (pr 5) ah) (aa (au (bL K) ah (au (o1 bF) (au (o1 bP) (pr 4) ah) ah)) ag)))))) aB)
 (af (aS (aX (ax mD (pr 3) ah (ay _))) (ai (av (bu (aa bO (aa (au (bL K) (pr 5) ah) (aa (aD (aW K) (pr 8) (au (o1 bF) (au (o1 bP) (pr 4) ah) (aA (aJ K) ⋯ T.n_len boot_len (aa (pr 8) ag))) (λ_ _=>rfl)) (aa (au (o1 bF) (au (o1 bP) (pr 4) ah) ah) (aa (au (o1 bF) (au (o1 bP) (pr 4) ah) ah) ag)))))))) aB)
 (af (aS (aX (ax mD (pr 3) ah (ay _))) (ai (av (au (bL K) (bu (aa (aD (aW K) (bu (aa bO (aa bO ag))) (au (o1 bF) (au (o1 bP) (pr 4) ah) ah) (λ_ _=>rfl)) (aa (au (bL K) (pr 5) ah) ag))) (az D_law_some hr ⋯ (aa (pr 8) (aa (pr 1) ag)))))) aB)
 (af (cW (i:=10) sc_law_rule.nd (au (bL K) ah (au (o1 bF) (au (o1 bP) (pr 4) ah) ah)))
 (ai (av (au (bL K) (bu (aa bO (aa (pr 10) (aa (au (o1 bF) (au (o1 bP) (pr 4) ah) (pr 10)) ag)))) (az D_law_single hr ⋯ (aa (au (o1 bP) (pr 4) ah) (aa (pr 1) (aa (pr 2) ag)))))))))))))))))))),?_⟩
 have hs:=sizeLine_eq;refine aV (λZ H'=>∃kd:Int,0<=kd/\kd < 9/\Z=[⇑c,⇑bits,↑a,⇑kd,none,none,none,none,none,none,none]/\H=H') ?_ ?_
 ·intro u' hu
  tm_at "r";exact⟨∅,hu _ _ ⟨_,ae2 _ ∅,ad7 _ ∅,rfl,rfl⟩⟩
 rintro Ω ω _ _ ⟨kd,kd0,kd9,rfl,rfl⟩;refine ω _ _ (aV (λZ H'=>∃rs:Int,0<=rs/\rs < 10 ^ 9/\Z=[⇑c,⇑bits,↑a,⇑kd,⇑rs,none,none,none,none,none,none]/\H=H') ?_ ?_)
 ·intro u' hu
  tm_at "r";exact⟨⟨∅,∅⟩,⟨∅,∅,∅⟩,∅,hu _ _ ⟨_,ae2 _ ∅,ad7 _ ∅,rfl,rfl⟩⟩
 rintro Ω ω _ _ ⟨rs,rs0,rs1,rfl,rfl⟩;refine ω _ _ (aV (λZ H'=>∃i:Nat,i < bs.length/\Z=[⇑c,⇑bits,↑a,⇑kd,⇑rs,⇑i,none,none,none,none,none]/\H=H') ?_ ?_)
 ·intro u' hu
  tm_at "r";obtain⟨ts,h1,h2,_⟩:=hR;refine⟨_,.inl h1,?_⟩;rw [aa1,h2];have m0:=ae2 rs (show((bs.length:Nat):Int)≠0 by omega);have m1:=ad7 rs (show(0:Int) < (bs.length:Nat)by omega);obtain⟨i,hi⟩:=ae1 m0;rw [hi]at m1 |-;exact⟨(),hu _ _ ⟨i,(),rfl,rfl⟩⟩
 rintro Ω ω _ _ ⟨i,hi,rfl,rfl⟩;have oi:(0:Int)<=i/\(i:Int) < bs.length:=⟨an7 i,Int.ofNat_lt.mpr hi⟩;have i40:=GD (ab6 hi b4);obtain⟨dw,f0,f1,hbb⟩:=id hok;have bi:=hbb _ (ae0 hi);obtain⟨lo,hlo⟩:∃lo,(bs[i]).1=lo:=⟨_,rfl⟩;obtain⟨hg,hhi⟩:∃hg,(bs[i]).2=hg:=⟨_,rfl⟩;rw [hlo,hhi]at bi;obtain⟨b50,b51,b52,b53⟩:=bi;refine ω _ _ (aV (λZ H'=>Z=[⇑c,⇑bits,↑a,⇑kd,⇑rs,⇑i,⇑lo,⇑hg,none,none,none]/\H=H') ?_ ?_)
 ·intro u' hu
  tm_at "r";refine hR.ix hi λt ht=>⟨t,rfl,_,ht,rfl,?_⟩;rw [hlo,hhi];tm_at "r";exact hu _ _ ⟨rfl,rfl⟩
 rintro Ω ω _ _ ⟨rfl,rfl⟩;refine ω _ _ (aV (λZ H'=>∃(no:Addr) (ns:List Int),1<=ns.length/\ns.length<=5/\(∀n∈ns,n.natAbs<=10 ^ 21)/\H' no=some (.lst (ns.map V.int))/\Z=[⇑c,⇑bits,↑a,⇑kd,⇑rs,⇑i,⇑lo,⇑hg,↑no,none,none]/\ar H H') ?_ ?_)
 ·intro u' hu
  tm_at "r"
  try simp only [kY]
  tm_at "r";refine⟨(),λp hp=>hu _ _ ⟨p,_,?_,?_,λn hn=>?_,ae,rfl,aq hp⟩⟩
  ·simp [L2.intsFrom];omega
  ·simp [L2.intsFrom];omega
  ·simp only [L2.intsFrom,ac4,ah9]at hn
   obtain⟨k,hk,rfl⟩:=hn;omega
 rintro Ω ω _ H1 ⟨no,ns,n1,n4,nb,hno,rfl,s1⟩;have hR1:=hR.same s1;refine ω _ _ (aV (λZ H'=>Z=[⇑c,⇑bits,↑a,⇑kd,⇑rs,⇑i,⇑lo,⇑hg,↑no,none,none]/\H1=H') ?_ ?_)
 ·intro u' hu
  tm_at "r"
  by_cases hk:kd < 2
  ·rw [if_pos hk]
   refine⟨.of_left ∅,?_⟩;exact⟨a,bs,_,bits,rfl,hR1,hok,b1,b4,λp R H2 hin hgd hnb hp s2=>q p (.plain R) _ ⟨hgd,hnb,by rw [uc hin];decide,by rw [uc hin];decide⟩ hp (s1.trans s2)⟩
  ·rw [if_neg hk]
   exact hu _ _ ⟨rfl,rfl⟩
 rintro Ω ω _ _ ⟨rfl,rfl⟩;refine ω _ _ (aV (λZ H'=>Z=[⇑c,⇑bits,↑a,⇑kd,⇑rs,⇑i,⇑lo,⇑hg,↑no,none,none]/\H1=H') ?_ ?_)
 ·intro u' hu
  tm_at "r"
  by_cases hk:kd=2
  ·rw [if_pos hk]
   refine⟨(),λp hp=>?_⟩;have sp:ar H1 (upd H1 p (.lst [.str (Str.ofString "move"),.int (i+1)])):=aq hp;have hp1:(upd H1 p (.lst [.str (Str.ofString "move"),.int (i+1)])) p=some (.lst [.str (Str.ofString "move"),.int (i+1)]):=ae;generalize upd H1 p (.lst [.str (Str.ofString "move"),.int (i+1)])=H2 at sp hp1
   try simp only [kY]
   tm_at "r";refine⟨(),λp2 hp2=>?_⟩;have s2:ar H2 (upd H2 p2 (.lst ((L2.intsFrom (lo - hg) (hg - lo+1 - (lo - hg)).toNat).map V.int))):=aq hp2;refine⟨p2,L2.intsFrom (lo - hg) (hg - lo+1 - (lo - hg)).toNat,bits,rfl,aF.of ae,by simp [L2.intsFrom];omega,by simp [L2.intsFrom];omega,λp3 D H3 d1 d2 dn h3 s3=>?_⟩;refine gX ((s2.trans s3) _ _ hp1) h3 (by simp;omega) λp4 hp4=>?_;refine q p4 (.plain (.move i D)) _ ⟨oi,⟨ac8.mpr ⟨i40,λd hd=>?_⟩,d1,d2⟩,show(1:Int)<=1 by decide,show(1:Int)<=4 by decide⟩ ae ((s1.trans (sp.trans (s2.trans s3))).upd hp4);have hd':=dn d hd;simp only [L2.intsFrom,ac4,ah9]at hd';obtain⟨k,hk,rfl⟩:=hd';omega
  ·rw [if_neg hk]
   exact hu _ _ ⟨rfl,rfl⟩
 rintro Ω ω _ _ ⟨rfl,rfl⟩;refine ω _ _ (aV (λZ H'=>Z=[⇑c,⇑bits,↑a,⇑kd,⇑rs,⇑i,⇑lo,⇑hg,↑no,none,none]/\H1=H') ?_ ?_)
 ·intro u' hu
  tm_at "r"
  by_cases hk:kd=3
  ·rw [if_pos hk]
   refine⟨⟨∅,∅⟩,?_⟩;obtain⟨ts,h1,h2,_⟩:=id hR1;refine⟨_,.inl h1,?_⟩;rw [aa1,h2];have m0:=ae2 (rs / 3) (show((bs.length:Nat):Int)≠0 by omega);have m1:=ad7 (rs / 3) (show(0:Int) < (bs.length:Nat)by omega);obtain⟨j,hj⟩:=ae1 m0;rw [hj]at m1 |-;have jl:j < bs.length:=Int.ofNat_lt.mp m1;refine⟨(),(),λp hp=>?_⟩;have sp:ar H1 (upd H1 p (.lst [.str (Str.ofString "alike"),.int (i+1),.int (j+1)])):=aq hp;have hp1:(upd H1 p (.lst [.str (Str.ofString "alike"),.int (i+1),.int (j+1)])) p=some (.lst [.str (Str.ofString "alike"),.int (i+1),.int (j+1)]):=ae;generalize upd H1 p (.lst [.str (Str.ofString "alike"),.int (i+1),.int (j+1)])=H2 at sp hp1;refine⟨a,bs,i,j,rfl,hR1.same sp,hok,hi,jl,λp2 ms H3 n1 n2 nb h2 s2=>?_⟩;refine⟨p2,ms,bits,rfl,aF.of h2,n1,n2,λp3 D H4 d1 d2 dn h3 s3=>?_⟩;refine gX ((s2.trans s3) _ _ hp1) h3 (by simp;omega) λp4 hp4=>?_;exact q p4 (.plain (.alike i j D)) _ ⟨⟨oi.1,oi.2,an7 j,m1⟩,⟨ac8.mpr ⟨i40,ac8.mpr ⟨GD (ab6 jl b4),λd hd=>ab5 (nb d (dn d hd)) ∅⟩⟩,d1,d2⟩,show(1:Int)<=1 by decide,show(1:Int)<=4 by decide⟩ ae ((s1.trans (sp.trans (s2.trans s3))).upd hp4)
  ·rw [if_neg hk]
   exact hu _ _ ⟨rfl,rfl⟩
 rintro Ω ω _ _ ⟨rfl,rfl⟩;refine ω _ _ (aV (λZ H'=>Z=[⇑c,⇑bits,↑a,⇑kd,⇑rs,⇑i,⇑lo,⇑hg,↑no,none,none]/\H1=H') ?_ ?_)
 ·intro u' hu
  tm_at "r"
  by_cases hk:kd=4
  ·rw [if_pos hk]
   have f3:=GL (rs / 9) (show(0:Int) < 3 by decide) ∅;exact⟨⟨∅,∅⟩,∅,(),λp hp=>q p (.plain (.back i (rs / 9 % 3))) _ ⟨⟨oi.1,oi.2,f3.1⟩,⟨ac8.mpr ⟨i40,ac8.mpr ⟨f3.2.2,λ_ z=>by cases z⟩⟩,trivial⟩,show(1:Int)<=3 by decide,show(3:Int)<=4 by decide⟩ ae (s1.upd hp)⟩
  ·rw [if_neg hk]
   exact hu _ _ ⟨rfl,rfl⟩
 rintro Ω ω _ _ ⟨rfl,rfl⟩;refine ω _ _ (aV (λZ H'=>Z=[⇑c,⇑bits,↑a,⇑kd,⇑rs,⇑i,⇑lo,⇑hg,↑no,none,none]/\H1=H') ?_ ?_)
 ·intro u' hu
  tm_at "r"
  by_cases hk:kd=5
  ·rw [if_pos hk]
   obtain⟨f1,f2,_⟩:=GL (rs / 9) (show(0:Int) < 3 by decide) ∅;generalize rs / 9 % 3=y at f1 f2 |-;exact⟨⟨∅,∅⟩,∅,(),λp hp=>q p (.plain (.held i (1+y))) _ ⟨⟨oi.1,oi.2,()⟩,⟨ac8.mpr ⟨i40,ac8.mpr ⟨(),λ_ z=>by cases z⟩⟩,trivial⟩,show 1<=1+y by omega,show 1+y<=4 by omega⟩ ae (s1.upd hp)⟩
  ·rw [if_neg hk]
   exact hu _ _ ⟨rfl,rfl⟩
 rintro Ω ω _ _ ⟨rfl,rfl⟩;refine ω _ _ (aV (λZ H'=>Z=[⇑c,⇑bits,↑a,⇑kd,⇑rs,⇑i,⇑lo,⇑hg,↑no,none,none]/\H1=H') ?_ ?_)
 ·intro u' hu
  tm_at "r"
  by_cases hk:kd=6
  ·rw [if_pos hk]
   refine⟨⟨∅,∅⟩,_,.inl (aF.of hno),?_⟩;rw [aa1];obtain⟨x,hx⟩:=B6 (xs:=ns.map V.int) (c:=rs / 9) (m:=(ns.length:Int)) () (by simp);obtain⟨n,hn,rfl⟩:=BZ (P:=λx=>∃n∈ns,x=.int n) (λx hx=>by obtain⟨y,hy,rfl⟩:=ac4.mp hx;exact⟨y,hy,rfl⟩) hx;have nbn:=nb n hn;refine⟨(),aR (aF.of hno) hx ?_⟩;have f3:=GL (rs / 36) (show(0:Int) < 3 by decide) ∅;obtain⟨g1,g2,g3⟩:=GL (rs / 108) (show(0:Int) < 4 by decide) ∅;exact⟨⟨∅,∅⟩,∅,⟨∅,∅⟩,∅,(),λp hp=>q p (.plain (.times i n (rs / 36 % 3) (rs / 108 % 4))) _ ⟨⟨oi.1,oi.2,g1⟩,⟨ac8.mpr ⟨i40,ac8.mpr ⟨ab5 nbn ∅,ac8.mpr ⟨f3.2.2,ac8.mpr ⟨g3,λ_ z=>by cases z⟩⟩⟩⟩,f3.1⟩,show 1<=rs / 108 % 4+1 from Int.add_le_add_right g1 1,show rs / 108 % 4+1<=4 from Int.add_le_add_right g2 1⟩ ae (s1.upd hp)⟩
  ·rw [if_neg hk]
   exact hu _ _ ⟨rfl,rfl⟩
 rintro Ω ω _ _ ⟨rfl,rfl⟩;refine ω _ _ (aV (λZ H'=>Z=[⇑c,⇑bits,↑a,⇑kd,⇑rs,⇑i,⇑lo,⇑hg,↑no,none,none]/\H1=H') ?_ ?_)
 ·intro u' hu
  tm_at "r"
  by_cases hk:kd=7
  ·rw [if_pos hk]
   have two:∀(z:Str) (f:gc) (D:List Int) (p2:Addr) (p3:Addr) (H3:Hp),jL f=.str z::((i+1:Int)::D).map V.int->qS bs.length f->DS f->eS (.plain f)=1->ar H1 H3->H3 p2=some (.lst [.str z,.int (i+1)])->H3 p3=some (.lst (D.map V.int))->D.length<=12->eC K (.ref p2) (.ref p3) H3 Q:=λz f D p2 p3 H3 e1 e2 e3 e4 s3 h2 h3 d2=>by
    refine gX h2 h3 (by simp;omega) λp4 hp4=>?_;exact q p4 (.plain f) _ ⟨e2,e3,by rw [e4];decide,by rw [e4];decide⟩ (by rw [ae];show _=some (HO.lst (jL f));rw [e1];rfl) ((s1.trans s3).upd hp4)
   refine⟨(),λp hp=>?_⟩;have sp:ar H1 (upd H1 p (.lst [.str (Str.ofString "begin"),.str (Str.ofString "close")])):=aq hp;have hp1:(upd H1 p (.lst [.str (Str.ofString "begin"),.str (Str.ofString "close")])) p=some (.lst [.str (Str.ofString "begin"),.str (Str.ofString "close")]):=ae;generalize upd H1 p (.lst [.str (Str.ofString "begin"),.str (Str.ofString "close")])=H2 at sp hp1;refine⟨⟨∅,∅⟩,∅,?_⟩;have hno2:=sp _ _ hno
   have h2:rs / 9 % 2=0\/rs / 9 % 2=1:=by omega
   rcases h2 with e | e<;>rw [e]
   ·refine aR (aF.of hp1) (bC rfl) ⟨(),λp2 hp2=>?_⟩
    refine⟨no,ns,bits,rfl,aF.of ((aq hp2) _ _ hno2),n1,(),λp3 D H3 d1 d2 dn h3 s3=>?_⟩;exact two (Str.ofString "begin") (.begin i D) D p2 p3 H3 rfl oi ⟨ac8.mpr ⟨i40,λd hd=>ab5 (nb d (dn d hd)) ∅⟩,d1,d2⟩ rfl ((sp.upd hp2).trans s3) (s3 _ _ ae) h3 d2
   ·refine aR (aF.of hp1) (show fC _ ((1:Nat):Int)=_ from aE rfl) ⟨(),λp2 hp2=>?_⟩
    refine⟨no,ns,bits,rfl,aF.of ((aq hp2) _ _ hno2),n1,(),λp3 D H3 d1 d2 dn h3 s3=>?_⟩;exact two (Str.ofString "close") (.close i D) D p2 p3 H3 rfl oi ⟨ac8.mpr ⟨i40,λd hd=>ab5 (nb d (dn d hd)) ∅⟩,d1,d2⟩ rfl ((sp.upd hp2).trans s3) (s3 _ _ ae) h3 d2
  ·rw [if_neg hk]
   exact hu _ _ ⟨rfl,rfl⟩
 rintro Ω ω _ _ ⟨rfl,rfl⟩;refine ω _ _ (aV (λZ H'=>∃bt:Int,1<=bt/\bt<=3/\Z=[⇑c,⇑bits,↑a,⇑kd,⇑rs,⇑i,⇑lo,⇑hg,↑no,none,⇑bt]/\H1=H') ?_ ?_)
 ·intro u' hu
  tm_at "r";exact⟨⟨∅,∅⟩,∅,hu _ _ ⟨_,(),(),rfl,rfl⟩⟩
 rintro Ω ω _ _ ⟨bt,t1,t3,rfl,rfl⟩;refine ω _ _ ?_;tm_at "r";refine⟨⟨∅,∅⟩,(),(),λp hp=>?_⟩;have m0:=ae2 (rs / 27) (show bt≠0 by omega);have m1:=ad7 (rs / 27) (show 0 < bt by omega);generalize rs / 27 % bt=u at m0 m1 |-;have sp:ar H1 (upd H1 p (.lst [.str (Str.ofString "every"),.int bt,.int u])):=aq hp;have hp1:(upd H1 p (.lst [.str (Str.ofString "every"),.int bt,.int u])) p=some (.lst [.str (Str.ofString "every"),.int bt,.int u]):=ae;generalize upd H1 p (.lst [.str (Str.ofString "every"),.int bt,.int u])=H2 at sp hp1 |-;refine⟨⟨∅,∅⟩,a,bs,_,bits,rfl,hR1.same sp,hok,b1,b4,λp2 R H3 hin hgd hnb hp2 s3=>?_⟩;have hl:=kE hnb;refine gX (s3 _ _ hp1) hp2 (by rw [kI];simp;omega) λp4 hp4=>?_;exact q p4 (.every bt u R) _ ⟨⟨hgd,hin,t1,m0,m1⟩,⟨hnb,(),()⟩,t1,show bt<=4 by omega⟩ ae ((s1.trans (sp.trans s3)).upd hp4)
def kZ(H:Hp)(ru:Addr)(Rs:List bc):Prop:=∃ws:List Addr,H ru=some (.lst (ws.map V.ref))/\ws.length=Rs.length/\∀(j:Nat) (x:Addr) (R:bc),ws[j]?=some x->Rs[j]?=some R->H x=some (.lst (dQ R))
theorem kZ.same{ru:Addr}{Rs:List bc}(s:ar H H')(h:kZ H ru Rs):kZ H' ru Rs:=by
 obtain⟨ws,h1,h2,h3⟩:=h;exact⟨ws,s _ _ h1,h2,λj x R e1 e2=>s _ _ (h3 j x R e1 e2)⟩
theorem Be(R:bc)(ws:List Addr):(HO.lst (dQ R))≠HO.lst (ws.map V.ref):=λe=>by
 have e':dQ R=ws.map V.ref:=by injection e
 cases R with
 | plain R=>
  rw [show dQ (.plain R)=jL R from rfl,kI]at e'
  cases ws with
  | nil=>cases e'
  | cons x ws=>injection e' with e1 _;cases e1
 | every m a R=>
  cases ws with
  | nil=>cases e'
  | cons x ws=>injection e' with e1 _;cases e1
def pF(b:Int×Int):Str:=Str.ofString "voice " ++ ba b.1++Str.ofString " " ++ ba b.2
def j3(bs:List (Int×Int))(Rs:List bc):Str:=Txt.join (Str.ofString "\n") (bs.map pF++Rs.map cY)
def Bn(K:Frag):Sp:=λvs H Q _=>∃(a ru:Addr) (bs:List (Int×Int)) (Rs:List bc),vs=[.ref a,.ref ru]/\cf K H a bs/\bs.length<=4/\(∀b∈bs,b.1.natAbs < 10 ^ 40/\b.2.natAbs < 10 ^ 40)/\kZ H ru Rs/\Rs.length<=4/\(∀R∈Rs,vI R)/\∀H',ar H H'->Q (.str (j3 bs Rs)) H'
theorem tL{b:Int×Int}(h1:b.1.natAbs < 10 ^ 40)(h2:b.2.natAbs < 10 ^ 40):fQ (pF b) (Str.ofString "voice") [b.1,b.2]:=Bc (by decide +kernel) h1 h2 (by decide +kernel) (by decide +kernel) (by decide +kernel)
theorem Dy(R:bc)(ho:vI R):(∀x∈dQ R,tQ x)/\(dQ R).length<=25/\Txt.join (Str.ofString " ") ((dQ R).map g9)=cY R/\∀y∈(dQ R).map g9,y.length<=41:=by
 have wI:∀n:Int,n.natAbs < 10 ^ 40->tQ (.int n):=λn hn=>.inr ⟨n,rfl,hn⟩;have wT:∀z:Str,tQ (.str z):=λz=>.inl ⟨z,rfl⟩
 have one:∀R:gc,DS R->(∀x∈jL R,tQ x)/\(jL R).length<=21/\(jL R).map g9=cP R::(dq R).map ba/\∀y∈cP R::(dq R).map ba,y.length<=41:=λR h=>by
  have hl:=kE h;refine⟨λx hx=>?_,?_,?_,λy hy=>?_⟩
  ·rw [kI]at hx
   rcases ab0.mp hx with rfl | hx
   ·exact wT _
   ·obtain⟨n,hn,rfl⟩:=ac4.mp hx
    exact wI n (h.1 n hn)
  ·rw [kI,ac7,aa1]
   omega
  ·rw [kI,ad5,ai6]
   rfl
  ·rcases ab0.mp hy with rfl | hy
   ·have:=(h8 R).1;omega
   ·obtain⟨n,hn,rfl⟩:=ac4.mp hy
    exact dC (h.1 n hn)
 cases R with
 | plain R=>
  obtain⟨h1,h2,h3,h4⟩:=one R ho;refine⟨h1,?_,?_,?_⟩
  ·show(jL R).length<=25;omega
  ·show Txt.join _ ((jL R).map g9)=_
   rw [h3];rfl
  ·show ∀y∈(jL R).map g9,_
   rw [h3];exact h4
 | every m a R=>
  obtain⟨ho,hm,ha⟩:=ho;obtain⟨h1,h2,h3,h4⟩:=one R ho;have e:(dQ (.every m a R)).map g9=Str.ofString "every"::ba m::ba a::(jL R).map g9:=rfl;refine⟨λx hx=>?_,?_,?_,λy hy=>?_⟩
  ·rcases ab0.mp hx with rfl | hx
   ·exact wT _
   rcases ab0.mp hx with rfl | hx
   ·exact wI _ hm
   rcases ab0.mp hx with rfl | hx
   ·exact wI _ ha
   exact h1 x hx
  ·show(jL R).length+1+1+1<=25;omega
  ·rw [e,h3]
   rfl
  ·rw [e,h3]at hy
   rcases ab0.mp hy with rfl | hy
   ·decide +kernel
   rcases ab0.mp hy with rfl | hy
   ·exact dC hm
   rcases ab0.mp hy with rfl | hy
   ·exact dC ha
   exact h4 y hy
theorem lg{n:Int}(h:n.natAbs < 10 ^ 40):n.natAbs.log2 < 1920:=by
 by_cases h0:n.natAbs=0
 ·rw [h0];decide
 ·exact(aq1 h0).mpr (ab6 h ∅)
theorem CS(F:cc K "_law_text" "_law_text" jW f fd)(T:Txt mg aM): ~~~aG bV 1 f fd ["_law_ranges","_law_rules"] (Bn K):=by
 refine F.ok sc_law_text λ_ A _ s H vs Q E hr h=>?_;obtain⟨a,ru,bs,Rs,rfl,⟨ts,hts,htl,htc⟩,b4,hb,hRw,r4,hRk,q⟩:=h
 refine⟨rfl,_,(af (oE (i:=2) sc_law_text.nd rfl (Or.inl rfl) (own:=["_law_low","_law_high"]) (js:=[]) rfl (bI K (pr 0)) (bG.of ⋯) (λ_ _ _ _ _=>(cR K (n:=2) rfl (aO (bN (i:=0) (show List.Nodup (["_law_low","_law_high"]:List Str)from by decide +kernel) rfl (Or.inl rfl)) (aO (bN (i:=1) (show List.Nodup (["_law_low","_law_high"]:List Str)from by decide +kernel) rfl (Or.inl rfl)) cS)))) (λ_ _ _ _ _=>cI) (λ_ _ _ _ _=>(au (bL K) (au (bL K) (au (bL K) bO (bo (lu) ⋯ T.n_str boot_str (aa (pr 0) ag))) bO) (bo (lu) ⋯ T.n_str boot_str (aa (pr 1) ag)))) rfl)
 (af (bq (bQ K PySem.F.plainAttrs_list PySem.F.slot_list_extend PySem.F.type_list_extend lJ (pr 2) (aa (cQ (own:=["_law_rule_here"]) (js:=[]) rfl (bI K (pr 1)) (bG.of ⋯) (λ_ _ _ _ _=>(bN (i:=0) (show List.Nodup (["_law_rule_here"]:List Str)from by decide +kernel) rfl (Or.inl rfl))) (λ_ _ _ _ _=>cI) (λ_ _ _ _ _=>(bQ K PySem.F.plainAttrs_str PySem.F.slot_str_join PySem.F.type_str_join (uq K) bO (aa (cQ (own:=["_law_word"]) (js:=[]) rfl (bI K (pr 0)) (bG.of ⋯) (λ_ _ _ _ _=>(bN (i:=0) (show List.Nodup (["_law_word"]:List Str)from by decide +kernel) rfl (Or.inl rfl))) (λ_ _ _ _ _=>cI) (λ_ _ _ _ _=>(bo (lu) ⋯ T.n_str boot_str (aa (pr 0) ag)))) ag)))) ag)))
 (ai (av (bQ K PySem.F.plainAttrs_str PySem.F.slot_str_join PySem.F.type_str_join (uq K) bO (aa (pr 2) ag)))))),?_⟩
 have hs:=sizeLine_eq;refine aV (λZ H'=>∃ro:Addr,H ro=none/\H' ro=some (.lst ((bs.map pF).map V.str))/\Z=[↑a,↑ru,↑ro]/\ar H H') ?_ ?_
 ·intro u' hu
  tm_at "r";refine bJ hts (cu (xs:=ts.map V.ref) (λi ys H'=>ys=((bs.take i).map pF).map V.str/\H=H') (by rw [aa1];omega) ⟨rfl,rfl⟩ (λi ys H' h=>by obtain⟨rfl,_⟩:=h;simp;omega) (λi ys H' h=>h.2▸hts) ?_ ?_)
  ·rintro i y ys H1 hy ⟨rfl,rfl⟩
   rw [aa5]at hy
   cases ht:ts[i]? with
   | none=>rw [ht]at hy;cases hy
   | some t=>
    rw [ht]at hy;cases hy
    have hi:i < bs.length:=by rw [<-htl];exact(aa3.mp ht).1
    have eb:bs[i]?=some bs[i]:=aa2 hi;obtain⟨n1,n2⟩:=hb _ (ae0 hi);tm_at "r";refine⟨_,htc i t _ ht eb,rfl,?_⟩;tm_at "r";have l1:=dC n1;have l2:=dC n2
    have lv:(Str.ofString "voice ").length=6:=by decide +kernel
    have lb:(Str.ofString " ").length=1:=by decide +kernel
    have la:∀x y:Str,(x++y).length=x.length+y.length:=λx y=>by
     rw [aY,aY,aY];show(x.cps++y.cps).toList.length=_;rw [ah4,ab2]
    refine⟨lg n1,(),by rw [la];omega,lg n2,by rw [la,la];omega,?_⟩;rw [ac5,eb,ab7,ab7];rfl
  ·rintro ys H1 ⟨rfl,rfl⟩ p hp
   rw [aa1,htl,ad4];exact hu _ _ ⟨p,hp,ae,rfl,aq hp⟩
 rintro Ω ω _ H1 ⟨ro,hro,hro1,rfl,s1⟩;refine ω _ _ (aV (λZ H'=>H' ro=some (.lst ((bs.map pF++Rs.map cY).map V.str))/\Z=[↑a,↑ru,↑ro]/\ar H H') ?_ ?_)
 ·intro u' hu
  obtain⟨ws,hws,hwl,hwc⟩:=hRw.same s1;tm_at "r";refine⟨.inl ⟨rfl,_,aF.of hro1⟩,bJ (aF.of hws) (cu (xs:=ws.map V.ref) (λi ys H'=>ys=((Rs.take i).map cY).map V.str/\ar H1 H') (by rw [aa1];omega) ⟨rfl,ar.refl _⟩ (λi ys H' h=>by obtain⟨rfl,_⟩:=h;simp;omega) (λi ys H' h=>h.2.seq (aF.of hws)) ?_ ?_)⟩
  ·rintro i y ys H2 hy ⟨rfl,sm⟩
   rw [aa5]at hy
   cases ht:ws[i]? with
   | none=>rw [ht]at hy;cases hy
   | some x=>
    rw [ht]at hy;cases hy
    have hi:i < Rs.length:=by rw [<-hwl];exact(aa3.mp ht).1
    have eR:Rs[i]?=some Rs[i]:=aa2 hi;have hx:=sm _ _ (hwc i x _ ht eR);obtain⟨t1,t2,t3,t4⟩:=Dy _ (hRk _ (ae0 hi));tm_at "r";refine bJ (aF.of hx) (tU (xs:=dQ Rs[i]) (aF.of hx) t1 () λp3 hp3=>⟨_,aF.of ae,?_,?_,sm.upd hp3⟩)
    ·have lb:(Str.ofString " ").length=1:=by decide +kernel
     have:=mw ((dQ Rs[i]).map g9) 41 t4
     rw [lb];simp only [aa1]at this |-;omega
    ·rw [t3,ac5,eR,ab7,ab7]
     rfl
  ·rintro ys H2 ⟨rfl,sm⟩ p hp
   rw [aa1,hwl,ad4];have hro2:=(aq (o:=.lst ((Rs.map cY).map V.str)) hp) _ _ (sm _ _ hro1);refine⟨ro,p,_,_,rfl,rfl,hro2,ae,by simp;omega,hu _ _ ⟨by rw [ae,<-ab7],rfl,λc u hc=>?_⟩⟩;rw [aj (ao hc hro)];exact((s1.trans sm).upd hp) _ _ hc
 rintro Ω ω _ H2 ⟨hro2,rfl,s2⟩;refine ω _ _ ?_;tm_at "r";refine⟨_,aF.of hro2,?_,q _ s2⟩
 have ln:(Str.ofString "\n").length=1:=by decide +kernel
 have:=mw (bs.map pF++Rs.map cY) 10000 (λy hy=>by
  rcases ad2.mp hy with h | h
  ·obtain⟨b,hb',rfl⟩:=ac4.mp h
   exact(tL (hb b hb').1 (hb b hb').2).len
  ·obtain⟨R,hR',rfl⟩:=ac4.mp h
   exact(iG R (hRk R hR')).1)
 rw [ln];simp only [ab2,aa1]at this |-;omega
theorem sS{a:Addr}{xs:List V}{i:Int}(h:aF K H a xs)(h0:0<=i)(h1:i < xs.length)(q:∀v∈xs,xs[i.toNat]?=some v->Q v H):tO K (.ref a) (.int i) H Q:=by
 obtain⟨m,rfl⟩:∃m:Nat,i=m:=⟨i.toNat,()⟩;have e:xs[m]?=some xs[m]:=aa2 ();exact aR h (aE e) (q _ (ae0 _) (by rw [af8];exact e))
theorem xS(T:Int):∀(bs:List (Int×Int)) (t:Int),(∀b∈bs,1<=dJ b/\dJ b<=T)->1<=t->1<=bs.foldl (λt b=>t * dJ b) t/\bs.foldl (λt b=>t * dJ b) t<=t * T ^ bs.length
 | [],t,_,h=>⟨h,by simp⟩
 | b::bs,t,hb,h=>by
  obtain⟨h1,h2⟩:=hb b (.head _)
  have g1:1<=t * dJ b:=by
   have:=Int.mul_le_mul h h1 ∅ ()
   omega
  obtain⟨k1,k2⟩:=xS T bs (t * dJ b) (λb' h'=>hb b' (.tail _ h')) g1;refine⟨k1,ah5 k2 ?_⟩;rw [ac7,Int.pow_succ,Int.mul_assoc,Int.mul_comm (T ^ bs.length) T];exact Int.mul_le_mul_of_nonneg_left (Int.mul_le_mul_of_nonneg_right h2 (Int.pow_nonneg ())) ()
def xI(K:Frag):Sp:=λvs H Q _=>∃(l:Addr) (ns:List Int) (most:Int),vs=[.ref l,.int most]/\aF K H l (ns.map V.int)/\(∀x∈ns,x.natAbs < 2 ^ GB)/\27<=most/\most<=400/\∀(t a ru:Addr) (bs:List (Int×Int)) (Rs:List bc) H',H' t=some (.tup [.ref a,.ref ru])->gR H' a (bs.map λb=>[b.1,b.2])->DT bs->1<=bs.length->bs.length<=3->kZ H' ru Rs->(∀R∈Rs,qX bs.length R)->Rs.length<=3->gO bs Rs<=most->ar H H'->Q (.ref t) H'
theorem AJ(F:cc K "_law_score" "_law_score" jj f fd)(T:Txt mg aM)(D_law_got: ~~~cN "_law_got" 3 ["_law_script","_law_place"] (rz K))(D_law_rule: ~~~cN "_law_rule" 3 ["_law_cell","_law_bits","_law_ranges"] (Bl K))(D_law_size: ~~~cN "_law_size" 3 ["_law_rule_here"] (Bm K)): ~~~aG bV 4 f fd ["_law_script","_law_most"] (xI K):=by
 refine F.ok sc_law_score λ_ A _ s H vs Q E hr h=>?_;obtain⟨l,ns,most,rfl,hS,hB,most1,most4,q⟩:=h
 refine⟨rfl,_,(af (cW (i:=2) sc_law_score.nd (az D_law_got hr ⋯ (aa (pr 0) (aa ah ag))))
 (af (cW (i:=3) sc_law_score.nd (aD (aW K) (bu (qY (vs:=[.int (1),.int (2),.int (2),.int (3)]) rfl)) (au (o1 bF) (pr 2) ah) (λ_ _=>rfl)))
 (af (cW (i:=4) sc_law_score.nd (aD (aW K) (bu (aa ah (aa (au (o1 jJ) ah ah) (aa ah (aa ah ag))))) (au (o1 bF) (au (o1 bP) (pr 2) ah) ah) (λ_ _=>rfl)))
 (af (cW (i:=5) sc_law_score.nd (bu ag))
 (af (cW (i:=6) sc_law_score.nd ah)
 (af (bW PassesOwn.never rfl (c8 rfl T.n_range (aa (pr 3) ag)) (gd (i:=7) sc_law_score.nd)
 (af (cW (i:=8) sc_law_score.nd (az D_law_got hr ⋯ (aa (pr 0) (aa (au (bL K) ah (pr 7)) ag))))
 (af (cW (i:=9) sc_law_score.nd (au (bL K) ah (au (o1 bF) (pr 8) (aD (aW K) (bu (aa ah (aa ah (aa ah ag)))) (au (o0 cJ) (pr 3) ah) (λ_ _=>rfl)))))
 (af (cW (i:=10) sc_law_score.nd (au (o0 cJ) (au (bL K) (pr 4) (au (o1 bF) (au (o1 bP) (pr 8) ah) ah)) ah))
 (af (aS (PW.pt (ic (aX (ax (o0 uC) (pr 7) ah (ay _))) (gn (aX (ax mD (au (o1 bF) (au (o1 bP) (pr 8) ah) ah) ah (ay _)))))) (ai (cW (i:=10) sc_law_score.nd (au (o0 cJ) (au (bL K) (aD (aW K) (aD (aW K) (pr 5) ah (λ_ _=>rfl)) ah (λ_ _=>rfl)) (au (o1 bF) (au (o1 bP) (pr 8) ah) ah)) ah))) aB)
 (af (bq (bQ K PySem.F.plainAttrs_list PySem.F.slot_list_append PySem.F.type_list_append bT (pr 5) (aa (gw (aa (pr 10) (aa (au (o0 cJ) (au (bL K) (pr 10) (pr 9)) ah) ag))) ag)))
 (ai (cW (i:=6) sc_law_score.nd (au (ib K) (pr 6) (pr 9))))))))))
 (af (cW (i:=11) sc_law_score.nd (bu ag))
 (af (bW PassesOwn.never rfl (c8 rfl T.n_range (aa (au (o1 bF) (au (o1 bP) (pr 2) ah) ah) ag)) (gd (i:=7) sc_law_score.nd)
 (af (cW (i:=12) sc_law_score.nd (az D_law_rule hr ⋯ (aa (az D_law_got hr ⋯ (aa (pr 0) (aa (au (bL K) ah (au (ib K) ah (pr 7))) ag))) (aa (az D_law_got hr ⋯ (aa (pr 0) (aa (au (bL K) ah (au (ib K) ah (pr 7))) ag))) (aa (pr 5) ag)))))
 (ai (aS (aX (ax (o0 kG) (au (ib K) (pr 6) (az D_law_size hr ⋯ (aa (pr 12) ag))) (pr 1) (ay _))) (af (cW (i:=6) sc_law_score.nd (au (ib K) (pr 6) (az D_law_size hr ⋯ (aa (pr 12) ag))))
 (ai (bq (bQ K PySem.F.plainAttrs_list PySem.F.slot_list_append PySem.F.type_list_append bT (pr 11) (aa (pr 12) ag))))) aB))))
 (ai (av (gw (aa (pr 5) (aa (pr 11) ag))))))))))))),?_⟩
 have hs:=sizeLine_eq;have gt:∀{p:Int} {H':Hp} {Q':VK},ar H H'->0<=p->p<=1000->(∀i H'',ar H H''->ar H' H''->Q' (.int i) H'')->rz K [.ref l,.int p] H' Q' E0:=λ{p H' Q'} s1 h0 h1 q=>⟨l,ns,p,rfl,s1.seq hS,hB,h0,h1,λH'' s2=>q _ H'' (s1.trans s2) s2⟩;have one:∀{xs:List V} {i:Int} {H':Hp} {p:Addr} {Q':VK},0<=i->i < xs.length->H' p=some (.lst xs)->(∀z∈xs,Q' z H')->tO K (.ref p) (.int i) H' Q':=λ{xs i H' p Q'} h0 h1 hp q=>sS (aF.of hp) h0 h1 λz hz _=>q z hz;refine aV (λZ H'=>∃fi:Int,Z=[↑l,⇑most,⇑fi,none,none,none,none,none,none,none,none,none,none]/\ar H H') ?_ ?_
 ·intro u' hu
  tm_at "r";exact gt (ar.refl _) ∅ ∅ λi H1 s1 _=>hu _ _ ⟨i,rfl,s1⟩
 rintro Ω ω _ H1 ⟨fi,rfl,s1⟩;refine ω _ _ (aV (λZ H'=>∃many:Int,(many=1\/many=2\/many=3)/\Z=[↑l,⇑most,⇑fi,⇑many,none,none,none,none,none,none,none,none,none]/\ar H H') ?_ ?_)
 ·intro u' hu
  tm_at "r";refine⟨(),λp hp=>⟨∅,one (ae2 _ ∅) (by have:=ad7 fi (show(0:Int) < 4 by decide);simpa using this) ae λz hz=>?_⟩⟩
  obtain⟨m,rfl,hm⟩:∃m:Int,z=.int m/\(m=1\/m=2\/m=3):=by
   simp only [ab0,ad3,or_false]at hz
   rcases hz with rfl | rfl | rfl | rfl<;>exact⟨_,rfl,∅⟩
  exact hu _ _ ⟨m,hm,rfl,s1.upd hp⟩
 clear s1 H1;rintro Ω ω _ H1 ⟨many,hmany,rfl,s1⟩;refine ω _ _ (aV (λZ H'=>∃dw:Int,0<=dw/\dw<=10 ^ 20/\Z=[↑l,⇑most,⇑fi,⇑many,⇑dw,none,none,none,none,none,none,none,none]/\ar H H') ?_ ?_)
 ·intro u' hu
  tm_at "r";refine⟨⟨∅,∅,∅⟩,(),λp hp=>⟨⟨∅,∅⟩,∅,one (ae2 _ ∅) (by have:=ad7 (fi / 4) (show(0:Int) < 4 by decide);simpa using this) ae λz hz=>?_⟩⟩
  obtain⟨m,rfl,hm⟩:∃m:Int,z=.int m/\0<=m/\m<=10 ^ 20:=by
   simp only [ab0,ad3,or_false]at hz
   rcases hz with rfl | rfl | rfl | rfl<;>exact⟨_,rfl,∅⟩
  exact hu _ _ ⟨m,hm.1,hm.2,rfl,s1.upd hp⟩
 clear s1 H1;rintro Ω ω _ H1 ⟨dw,f0,f1,rfl,s1⟩;refine ω _ _ (aV (λZ H'=>∃a:Addr,H a=none/\H' a=some (.lst (([]:List Addr).map V.ref))/\Z=[↑l,⇑most,⇑fi,⇑many,⇑dw,↑a,none,none,none,none,none,none,none]/\ar H H') ?_ ?_)
 ·intro u' hu
  tm_at "r";exact⟨(),λp hp=>hu _ _ ⟨p,s1.free hp,ae,rfl,s1.upd hp⟩⟩
 clear s1 H1;rintro Ω ω _ H1 ⟨a,ha,ha1,rfl,s1⟩;refine ω _ _ (aV (λZ H'=>Z=[↑l,⇑most,⇑fi,⇑many,⇑dw,↑a,some (.int 1),none,none,none,none,none,none]/\H1=H') ?_ ?_)
 ·intro u' hu
  tm_at "r";exact hu _ _ ⟨rfl,rfl⟩
 rintro Ω ω _ _ ⟨rfl,rfl⟩
 have hm1:1<=many/\many<=3:=by omega
 obtain⟨top_,htop⟩:∃top_:Int,top_=if many=3 then 3 else 5:=⟨_,rfl⟩;obtain⟨Pv,hPv⟩:∃Pv:Nat->L2.St->Hp->Prop,Pv=λi Z H'=>∃(ts:List Addr) (bs:List (Int×Int)) (o7 o8 o9 o10:Option V),ts.length=i/\bs.length=i/\H' a=some (.lst (ts.map V.ref))/\(∀(j:Nat) (t:Addr) (b:Int×Int),ts[j]?=some t->bs[j]?=some b->H' t=some (.tup [.int b.1,.int b.2]))/\(∀b,bs[0]?=some b->dw - 20<=b.1/\b.1<=dw+20)/\(∀b∈bs,dw - 50<=b.1/\b.1<=dw+50/\b.1<=b.2/\b.2<=b.1+(top_ - 1))/\Z=[↑l,⇑most,⇑fi,⇑many,⇑dw,↑a,⇑(mY bs),o7,o8,o9,o10,none,none]/\ar H H':=⟨_,rfl⟩;refine ω _ _ (aV (λZ H'=>Pv many.toNat Z H') ?_ ?_)
 ·intro u' hu
  tm_at "r";refine⟨(),(),de Pv (by rw [hPv];exact⟨[],[],none,none,none,none,rfl,rfl,ha1,λj t b e=>(by cases e),λb e=>(by cases e),λb h=>(nomatch h),rfl,s1⟩) ?_ ?_⟩
  ·clear ha1 s1 H1
   intro i Z H2 hi hI;rw [hPv]at hI;obtain⟨ts,bs,o7,o8,o9,o10,tl,bl,hf2,ht2,hb0,hbb,rfl,s2⟩:=hI;have s2k:=s2;refine aV (λZ H'=>∃c:Int,Z=[↑l,⇑most,⇑fi,⇑many,⇑dw,↑a,⇑(mY bs),⇑i,⇑c,o9,o10,none,none]/\ar H2 H') ?_ ?_
   ·intro u2 fE
    tm_at "r";exact gt s2 () () λc H3 s3 s23=>fE _ _ ⟨c,rfl,s23⟩
   rintro Ω ω _ H3 ⟨c,rfl,s23⟩;refine ω _ _ (aV (λZ H'=>∃z:Int,1<=z/\z<=top_/\Z=[↑l,⇑most,⇑fi,⇑many,⇑dw,↑a,⇑(mY bs),⇑i,⇑c,⇑z,o10,none,none]/\ar H2 H') ?_ ?_)
   ·intro u2 fE
    tm_at "r";refine⟨(),λp hp=>?_⟩;have e3:tO K (.ref p) (.int (many - 1)) (upd H3 p (.lst [.int 5,.int 5,.int 3]))=tO K (.ref p) (.int (many - 1)) (upd H3 p (.lst [.int 5,.int 5,.int 3])):=rfl
    have tp:0 < top_:=by rw [htop];split<;>decide
    have at_:fC [V.int 5,.int 5,.int 3] (many - 1)=⇑top_:=by
     rcases hmany with rfl | rfl | rfl
     ·rw [htop];rfl
     ·rw [htop];rfl
     ·rw [htop];rfl
    have r0:=ae2 c (show top_≠0 by omega);have r1:=ad7 c tp;exact aR (aF.of ae) at_ ⟨_,rfl,tp,fE _ _ ⟨_,(),(),rfl,s23.upd hp⟩⟩
   clear s23 H3;rintro Ω ω _ H3 ⟨z,z1,z5,rfl,s23⟩;have s3:=s2.trans s23;have hf3:=s23 _ _ hf2;refine ω _ _ (aV (λZ H'=>∃lo:Int,dw - 20<=lo/\lo<=dw+20/\Z=[↑l,⇑most,⇑fi,⇑many,⇑dw,↑a,⇑(mY bs),⇑i,⇑c,⇑z,⇑lo,none,none]/\H3=H') ?_ ?_)
   ·intro u2 fE
    tm_at "r";exact⟨⟨∅,∅⟩,∅,fE _ _ ⟨_,(),(),rfl,rfl⟩⟩
   rintro Ω ω _ _ ⟨lo,lo0,lo1,rfl,rfl⟩;refine ω _ _ (aV (λZ H'=>∃lo:Int,dw - 50<=lo/\lo<=dw+50/\(i=0->dw - 20<=lo/\lo<=dw+20)/\Z=[↑l,⇑most,⇑fi,⇑many,⇑dw,↑a,⇑(mY bs),⇑i,⇑c,⇑z,⇑lo,none,none]/\H3=H') ?_ ?_)
   ·intro u2 fE
    have no:=fE _ _ ⟨lo,(),(),λ_=>⟨lo0,lo1⟩,rfl,rfl⟩;tm_at "r"
    by_cases h2:(0:Int) < i
    ·rw [if_pos h2]
     refine⟨⟨∅,∅⟩,∅,?_⟩
     by_cases h1:c / 615 % 2=0
     ·rw [if_pos h1]
      have e1:ts[0]?=some (ts[0]'()):=aa2 ();have e2:bs[0]?=some (bs[0]'()):=aa2 ();have hb:=hb0 _ e2;refine aR (aF.of hf3) (bC (by rw [List.head?_map,List.head?_eq_getElem?,e1];rfl)) (eD (cT.of (s23 _ _ (ht2 0 _ _ e1 e2))) (bC rfl) ?_);tm_at "r";exact⟨⟨∅,∅⟩,∅,fE _ _ ⟨_,(),(),λz=>by omega,rfl,rfl⟩⟩
     ·rw [if_neg h1]
      exact fE _ _ ⟨lo,(),(),λ_=>⟨lo0,lo1⟩,rfl,rfl⟩
    ·rw [if_neg h2]
     exact fE _ _ ⟨lo,(),(),λ_=>⟨lo0,lo1⟩,rfl,rfl⟩
   clear lo0 lo1 lo;rintro Ω ω _ _ ⟨lo,lo0,lo1,lo2,rfl,rfl⟩;refine ω _ _ ?_;tm_at "r";refine⟨.inl ⟨rfl,_,aF.of hf3⟩,(),λt ht=>?_⟩;have st:=aq (o:=.tup [.int lo,.int (lo+z - 1)]) ht;have hf4:=st _ _ hf3
   have tp5:top_<=5:=by rw [htop];split<;>decide
   refine⟨a,_,_,rfl,rfl,hf4,by rw [aa1];omega,.of_right (intBits_le_iff.mpr ()),?_⟩;rw [hPv]
   have ew:mY (bs++[(lo,lo+z - 1)])=mY bs * z:=by
    unfold mY;rw [ag4];show _ * dJ (lo,lo+z - 1)=_;unfold dJ;congr 1;show lo+z - 1 - lo+1=z;omega
   refine⟨ts++[t],bs++[(lo,lo+z - 1)],_,_,_,_,by simp [tl],by simp [bl],by rw [ae,ab7];rfl,λj t' b' e1 e2=>?_,λb' e=>?_,λb' hb'=>?_,by rw [ew],BI ha (s3.trans st)⟩
   ·by_cases hj:j < ts.length
    ·rw [ab1 hj]at e1
     rw [ab1 ()]at e2
     have:=st _ _ (s23 _ _ (ht2 j t' b' e1 e2))
     rw [aj (da this hf4 (λe=>by cases e))];exact this
    ·rw [ab9 ()]at e1 e2
     have ej:j=ts.length:=by
      have:=(aa3.mp e1).1
      simp at this;omega
     rw [ej,ai5]at e1;rw [ej,tl,bl,ai5]at e2;cases e1;cases e2;rw [aj (da (ae (H:=H3) (a:=t)) hf4 (λe=>by cases e))];exact ae
   ·by_cases h0:i=0
    ·have hb0':bs=[]:=ag3.mp ()
     rw [hb0']at e;cases e;exact lo2 h0
    ·rw [ab1 ()]at e
     exact hb0 b' e
   ·rcases ad2.mp hb' with h | h
    ·exact hbb b' h
    ·rw [ac3.mp h]
     exact⟨lo0,lo1,by show lo<=lo+z - 1;omega,by show lo+z - 1<=lo+(top_ - 1);omega⟩
  ·intro Z H' hI
   exact hu _ _ hI
 clear ha1 s1 H1;intro Ω ω;intro Z H2 hI;rw [hPv]at hI;obtain⟨ts,bs,o7,o8,o9,o10,tl,bl,hf2,ht2,hb0,hbb,rfl,s2⟩:=hI
 have tp5:top_<=5:=by rw [htop];split<;>decide
 have wb:∀b∈bs,1<=dJ b/\dJ b<=top_:=λb h=>by
  obtain⟨_,_,h3,h4⟩:=hbb b h;unfold dJ;omega
 have hw:=xS top_ bs 1 wb ∅;have w1:1<=mY bs:=hw.1
 have w2:mY bs<=27:=by
  have h2:mY bs<=1 * top_ ^ bs.length:=hw.2;rw [bl]at h2;rcases hmany with rfl | rfl | rfl
  ·rw [htop]at h2;exact ah5 h2 ∅
  ·rw [htop]at h2;exact ah5 h2 ∅
  ·rw [htop]at h2;exact ah5 h2 ∅
 have b1:1<=bs.length:=by omega
 have b3:bs.length<=3:=by omega
 have hok:DT bs:=⟨dw,f0,f1,λb h=>by obtain⟨h1,h2,h3,h4⟩:=hbb b h;exact⟨h1,h2,h3,()⟩⟩;clear hPv Pv;have RA:cf K H2 a bs:=⟨ts,aF.of hf2,(),λi t b e1 e2=>cT.of (ht2 i t b e1 e2)⟩;refine ω _ _ (aV (λZ H'=>∃ru:Addr,H2 ru=none/\H' ru=some (.lst (([]:List Addr).map V.ref))/\Z=[↑l,⇑most,⇑fi,⇑many,⇑dw,↑a,⇑(mY bs),o7,o8,o9,o10,↑ru,none]/\ar H2 H') ?_ ?_)
 ·intro u' hu
  tm_at "r";exact⟨(),λp hp=>hu _ _ ⟨p,hp,ae,rfl,aq hp⟩⟩
 rintro Ω ω _ H3 ⟨ru,hru,hru1,rfl,s3⟩;obtain⟨Pv,hPv⟩:∃Pv:Nat->L2.St->Hp->Prop,Pv=λi Z H'=>∃(ws:List Addr) (Rs:List bc) (o7 o12:Option V),ws.length=Rs.length/\Rs.length<=i/\1<=gO bs Rs/\gO bs Rs<=most/\(∀R∈Rs,qX bs.length R)/\H' ru=some (.lst (ws.map V.ref))/\(∀(j:Nat) (x:Addr) (R:bc),ws[j]?=some x->Rs[j]?=some R->H' x=some (.lst (dQ R)))/\Z=[↑l,⇑most,⇑fi,⇑many,⇑dw,↑a,⇑(gO bs Rs),o7,o8,o9,o10,↑ru,o12]/\ar H2 H':=⟨_,rfl⟩;refine ω _ _ (aV (λZ H'=>∃i,i<=3/\Pv i Z H') ?_ ?_)
 ·intro u' hu
  tm_at "r";have g0:=ae2 (fi / 16) (show(4:Int)≠0 by decide);have g1:=ad7 (fi / 16) (show(0:Int) < 4 by decide);generalize fi / 16 % 4=g at g0 g1;refine⟨⟨∅,∅⟩,∅,(),(),de Pv (by rw [hPv];exact⟨[],[],o7,none,rfl,aa7 _,w1,show mY bs<=most by omega,λ_ z=>(nomatch z),hru1,λj x R e=>(by cases e),rfl,s3⟩) ?_ ?_⟩
  ·clear hru1 s3 H3
   intro i Z H3 hi hI;rw [hPv]at hI;obtain⟨ws,Rs,o7,o12,wl,rl,t1,t4,hRs,hu3,hw3,rfl,s3⟩:=hI;refine aV (λZ H'=>∃(x:Addr) (R:bc),qX bs.length R/\H' x=some (.lst (dQ R))/\Z=[↑l,⇑most,⇑fi,⇑many,⇑dw,↑a,⇑(gO bs Rs),⇑i,o8,o9,o10,↑ru,↑x]/\ar H3 H') ?_ ?_
   ·intro u2 fE
    tm_at "r";refine⟨.of_left ∅,?_⟩;refine gt (s2.trans s3) () () λc1 H4 s4 s34=>?_;tm_at "r";refine⟨.of_left ∅,?_⟩;refine gt s4 () () λc2 H5 s5 s45=>?_;exact⟨a,bs,c1,c2,rfl,RA.same (s3.trans (s34.trans s45)),hok,b1,(),λx R H6 hr hx s6=>fE _ _ ⟨x,R,hr,hx,rfl,(s34.trans s45).trans s6⟩⟩
   rintro Ω ω _ H4 ⟨x,R,hrow,hx4,rfl,s34⟩;obtain⟨_,_,z1,z4⟩:=id hrow;have s4:=s3.trans s34;have hu4:=s34 _ _ hu3
   have eW:gO bs (Rs++[R])=gO bs Rs * eS R:=by
    unfold gO;rw [ag4];rfl
   refine ω _ _ ?_;tm_at "r";refine⟨x,R,rfl,aF.of hx4,?_⟩;tm_at "r";refine⟨.of_right (intBits_le_iff.mpr ()),?_⟩
   by_cases hw:gO bs Rs * eS R<=most
   ·rw [if_pos hw]
    refine⟨x,R,rfl,aF.of hx4,?_⟩;tm_at "r";refine⟨.of_right (intBits_le_iff.mpr ()),.inl ⟨rfl,_,aF.of hu4⟩,ru,_,_,rfl,rfl,hu4,by rw [aa1];omega,?_⟩;rw [<-eW]
    have hp:1<=gO bs Rs * eS R:=by
     have:=Int.mul_le_mul t1 z1 ∅ ()
     omega
    rw [hPv];refine⟨ws++[x],Rs++[R],_,_,by simp [wl],by simp;omega,by rw [eW];exact hp,by rw [eW];exact hw,λR' hR'=>?_,by rw [ae,ab7];rfl,λj y R' e1 e2=>?_,rfl,λc' u hc=>?_⟩
    ·rcases ad2.mp hR' with h | h
     ·exact hRs R' h
     ·rw [ac3.mp h];exact hrow
    ·by_cases hj:j < ws.length
     ·rw [ab1 hj]at e1
      rw [ab1 ()]at e2;have h:=s34 _ _ (hw3 j y R' e1 e2);rw [aj (da h hu4 (Be R' ws))];exact h
     ·rw [ab9 ()]at e1 e2
      have ej:j=ws.length:=by
       have:=(aa3.mp e1).1
       simp at this;omega
      rw [ej,ai5]at e1;rw [ej,wl,ai5]at e2;cases e1;cases e2;rw [aj (da hx4 hu4 (Be R ws))];exact hx4
    ·rw [aj (ao hc hru)]
     exact s4 _ _ hc
   ·rw [if_neg hw]
    rw [hPv];exact⟨ws,Rs,_,_,wl,(),t1,t4,hRs,hu4,λj y R' e1 e2=>s34 _ _ (hw3 j y R' e1 e2),rfl,s4⟩
  ·intro Z H' hI
   exact hu _ _ ⟨_,(),hI⟩
 rintro Ω ω Z H4 ⟨i,i3,hI⟩;rw [hPv]at hI;obtain⟨ws,Rs,o7,o12,wl,rl,t1,t4,hRs,hu3,hw3,rfl,s4⟩:=hI;refine ω _ _ ?_;tm_at "r";refine⟨(),λt ht=>?_⟩;have st:=aq (o:=.tup [.ref a,.ref ru]) ht
 exact q t a ru bs Rs _ ae ⟨ts,(s4.trans st) _ _ hf2,by rw [aa1];omega,λj p us e1 e2=>by
  rw [aa5]at e2
  cases hb:bs[j]? with
  | none=>rw [hb]at e2;cases e2
  | some b=>
   rw [hb]at e2;cases e2
   exact(s4.trans st) _ _ (ht2 j p b e1 hb)⟩ hok b1 b3 ⟨ws,st _ _ hu3,wl,λj x R e1 e2=>st _ _ (hw3 j x R e1 e2)⟩ hRs () t4 ((s2.trans s4).trans st)
def Bj(K:Frag):Sp:=λvs H Q _=>∃(a:Addr) (bs:List (Int×Int)),vs=[.ref a]/\cf K H a bs/\bs.length<=4/\(∀b∈bs,1<=wN b)/\m8 bs<=400/\∀q H',H q=none->gR H' q (aQ bs)->ar H H'->Q (.ref q) H'
theorem EF(F:cc K "_law_all" "_law_all" lT f fd)(T:Txt mg aM): ~~~aG bV 1 f fd ["_law_ranges"] (Bj K):=by
 refine F.ok sc_law_all λ_ A _ s H vs Q E hr h=>?_;obtain⟨a,bs,rfl,⟨ts,hts,htl,htc⟩,lb,hw,hc,k⟩:=h
 refine⟨rfl,_,(af (cW (i:=1) sc_law_all.nd (bu (aa (gw ag) ag)))
 (af (bW PassesOwn.never rfl (bI K (pr 0)) (cR K (n:=2) rfl (aO (gd (i:=2) sc_law_all.nd) (aO (gd (i:=3) sc_law_all.nd) cS)))
 (af (cW (i:=4) sc_law_all.nd (bu ag))
 (af (bW PassesOwn.never rfl (bI K (pr 1)) (bN (i:=5) sc_law_all.nd rfl (Or.inr rfl))
 (ai (bq (bQ K PySem.F.plainAttrs_list PySem.F.slot_list_extend PySem.F.type_list_extend lJ (pr 4) (aa (cQ (own:=["_law_note"]) (js:=[5]) rfl (oB rfl T.n_range (aa (pr 2) (aa (au (xw K) (pr 3) ah) ag))) (bG.of ⋯) (λ_ _ _ _ _=>(bN (i:=0) (show List.Nodup (["_law_note","_law_column"]:List Str)from by decide +kernel) rfl (Or.inl rfl))) (λ_ _ _ _ _=>cI) (λ_ _ _ _ _=>(au (xw K) (pr 1) (gw (aa (pr 0) ag))))) ag)))))
 (ai (cW (i:=1) sc_law_all.nd (pr 4))))))
 (ai (av (pr 1))))),?_⟩
 have hs:=sizeLine_eq;refine aV (λZ H'=>∃q:Addr,H q=none/\gR H' q (aQ [])/\Z=[↑a,↑q,none,none,none,none]/\ar H H') ?_ ?_
 ·intro u' hu
  tm_at "r";refine⟨(),λt ht=>⟨(),λq hq=>?_⟩⟩;have s1:=aq (o:=HO.tup []) ht;refine hu _ _ ⟨q,s1.free hq,⟨[t],ae,rfl,λi p us e1 e2=>?_⟩,rfl,s1.upd hq⟩
  have hi:i=0:=by
   have:=(aa3.mp e1).1
   simp at this;exact this
  subst hi;cases e1;cases e2;exact(aq hq) _ _ ae
 rintro Ω ω _ H1 ⟨q,hq0,hq1,rfl,s1⟩;refine ω _ _ (aV (λZ H'=>∃(q:Addr) (o2 o3 o4 o5:Option V),H q=none/\gR H' q (aQ bs)/\Z=[↑a,↑q,o2,o3,o4,o5]/\ar H H') ?_ ?_)
 ·intro u' hu
  tm_at "r";refine bJ (s1.seq hts) (cq (xs:=ts.map V.ref) (λi Z H'=>∃(q:Addr) (o2 o3 o4 o5:Option V),H q=none/\gR H' q (aQ (bs.take i))/\Z=[↑a,↑q,o2,o3,o4,o5]/\ar H H') ⟨q,none,none,none,none,hq0,hq1,rfl,s1⟩ (λi Z H' _ h=>?_) ?_ ?_)
  ·obtain⟨_,_,_,_,_,_,_,_,s'⟩:=h
   exact s'.seq hts
  ·rintro i y Z H2 hy ⟨q,o2,o3,o4,o5,hq0,⟨ps,hq2,hpc⟩,rfl,s2⟩
   rw [aa5]at hy
   cases ht:ts[i]? with
   | none=>rw [ht]at hy;cases hy
   | some t=>
    rw [ht]at hy;cases hy
    have hi:i < bs.length:=by rw [<-htl];exact(aa3.mp ht).1
    have hb:bs[i]?=some bs[i]:=aa2 hi;tm_at "r";refine⟨_,s2.tup (htc i t _ ht hb),rfl,?_⟩;tm_at "r";refine⟨(),λp hp=>?_⟩;have s23:=aq (o:=HO.lst []) hp;have hp3:(upd H2 p (HO.lst [])) p=some (.lst (([]:List Addr).map V.ref)):=ae;have hH3:=hp3;generalize upd H2 p (HO.lst [])=H3 at s23 hp3;have ew:wN bs[i]<=400:=ac2 (Eb hw hb) hc
    have en:m8 (bs.take (i+1))=m8 (bs.take i) * wN bs[i]:=by
     rw [ac5,hb];exact nK _ _
    have en':=(kr hw (i+1)).2
    have ec:aQ (bs.take (i+1))=(aQ (bs.take i)).flatMap (fG bs[i]):=by
     rw [ac5,hb];exact nL _ _
    have ewd:=e9 (bs.take i);have ecl:=eE (bs.take i);have hpl:=hpc.1;rw [ec];generalize bs[i]=b at *;generalize aQ (bs.take i)=cols at *;refine bJ (aF.of (s23 _ _ hq2)) (cq (xs:=ps.map V.ref) (λj Z H'=>∃(o5:Option V) (ps':List Addr),H' p=some (.lst (ps'.map V.ref))/\jE H' ps' ((cols.take j).flatMap (fG b))/\ar H2 H'/\Z=[some (V.ref a),some (V.ref q),some (V.int b.1),some (V.int b.2),some (V.ref p),o5]) ⟨o5,[],hp3,⟨rfl,λi p us e=>nomatch e⟩,s23,rfl⟩ (λj Z H' _ h=>?_) ?_ ?_)
    ·obtain⟨_,_,_,_,s',_⟩:=h
     exact aF.of (s' _ _ hq2)
    ·rintro j y Z H4 hy ⟨o5,ps',hp4,hT,s24,rfl⟩
     rw [aa5]at hy
     cases hcj:ps[j]? with
     | none=>rw [hcj]at hy;cases hy
     | some c=>
      rw [hcj]at hy;cases hy
      have hj:j < cols.length:=by rw [<-hpl];exact(aa3.mp hcj).1
      have hcc:cols[j]?=some cols[j]:=aa2 hj;have hus:=hpc.2 j c _ hcj hcc;have hul:=ewd _ (ae0 hj)
      have estep:(cols.take (j+1)).flatMap (fG b)=(cols.take j).flatMap (fG b)++fG b cols[j]:=by
       rw [ac5,hcc,List.flatMap_append];simp
      rw [estep];generalize cols[j]=us at *;tm_at "r";refine⟨.inl ⟨rfl,_,aF.of hp4⟩,?_⟩
      have ek:(b.2+1 - b.1).toNat=wN b:=by unfold wN;omega
      have hl5:us.length<=100:=by rw [hul,ad1];omega
      rw [ek];refine e8 (λm ys H'=>∃rs:List Addr,ys=rs.map V.ref/\rs.length=m/\(∀(j:Nat) (p:Addr),rs[j]?=some p->H' p=some (.tup ((us++[b.1+(j:Int)]).map V.int)))/\ar H4 H') () ⟨[],rfl,rfl,(λj p e=>nomatch e),ar.refl _⟩ ?_ ?_ ?_
      ·rintro m ys H' ⟨rs,rfl,hl,_⟩
       rw [aa1];omega
      ·rintro m ys H5 hm ⟨rs,rfl,hl,hrp,s45⟩
       simp only [e7];tm_at "r";refine⟨(),λt ht=>?_⟩;have s2':=s45.upd (o:=HO.tup [V.int (b.1+m)]) ht;have ht2:(upd H5 t (HO.tup [V.int (b.1+m)])) t=some (.tup [V.int (b.1+m)]):=ae;have s12:ar H5 (upd H5 t (HO.tup [V.int (b.1+m)])):=aq ht;generalize upd H5 t (HO.tup [V.int (b.1+m)])=H6 at s2' ht2 s12;refine uG ((s24.trans s2') _ _ hus) ht2 (by rw [aa1];simp;omega) λz H7 s7 hz7=>?_;refine⟨rs++[z],by rw [ab7];rfl,by rw [ab2,hl];rfl,λj p' e=>?_,s2'.trans s7⟩
       by_cases hj':j < rs.length
       ·rw [ab1 hj']at e
        exact(s12.trans s7) _ _ (hrp j p' e)
       ·rw [ab9 ()]at e
        have ej:j=rs.length:=by
         have:=(aa3.mp e).1
         simp at this;omega
        rw [ej,ai5]at e;cases e;rw [hz7,ej,hl,ab7];rfl
      rintro ys H5 ⟨rs,rfl,hl,hrp,s45⟩ r hr;have s5:=aq (o:=.lst (rs.map V.ref)) hr;have hr5:(upd H5 r (.lst (rs.map V.ref))) r=some (.lst (rs.map V.ref)):=ae
      have hrT:jE (upd H5 r (.lst (rs.map V.ref))) rs (fG b us):=⟨by rw [fS];exact hl,λi p us' e1 e2=>by
       have hi:i < wN b:=by rw [<-hl];exact(aa3.mp e1).1
       unfold fG at e2;rw [aa5,ag1 hi]at e2;cases e2
       exact s5 _ _ (hrp i p e1)⟩
      replace s45:=s45.trans s5;clear s5 hr;generalize upd H5 r (.lst (rs.map V.ref))=H5 at s45 hr5 hrT;have hp5:=s45 _ _ hp4
      have l1:ps'.length<=400:=by
       rw [hT.1,ku (fS b),ad1];refine ac2 (Nat.mul_le_mul_right _ (am1 _ _)) ?_;rw [ecl,<-en];omega
      have l2:rs.length<=400:=by rw [hrT.1,fS];exact ew
      refine⟨p,r,_,_,rfl,rfl,hp5,hr5,by rw [aa1,aa1];omega,↑c,ps' ++ rs,by rw [ae,ab7],((hT.same s45).append hrT).upd hp5,BI hp (s24.trans s45),rfl⟩
    ·rintro Z H4 ⟨o5,ps',hp4,hT,s24,rfl⟩
     rw [aa1,hpl,ad4]at hT;tm_at "r";exact⟨p,s2.free hp,⟨ps',hp4,hT⟩,rfl,s2.trans s24⟩
  ·rintro Z H2 ⟨q,o2,o3,o4,o5,hq0,hq2,rfl,s2⟩
   rw [aa1,htl,ad4]at hq2;exact hu _ _ ⟨q,o2,o3,o4,o5,hq0,hq2,rfl,s2⟩
 rintro Ω ω _ H2 ⟨q,o2,o3,o4,o5,hq0,hq2,rfl,s2⟩;refine ω _ _ ?_;tm_at "r";exact k q H2 hq0 hq2 s2
def gv:Option Int->V
 | none=>.non
 | some i=>.int i
def jy(H:Hp)(p:Addr)(n:Nat)(gs:List Addr)(pats:List (List (Option Int))):Prop:=H p=some (.lst (gs.map V.ref))/\gs.length=pats.length/\∀(i:Nat) (g:Addr) (ws:List (Option Int)),gs[i]?=some g->pats[i]?=some ws->H g=some (.tup (ws.map gv))/\ws.length=n
theorem jy.same(h:jy H p n gs pats)(s:ar H H'):jy H' p n gs pats:=⟨s _ _ h.1,h.2.1,λi g ws e1 e2=>⟨s _ _ (h.2.2 i g ws e1 e2).1,(h.2.2 i g ws e1 e2).2⟩⟩
theorem jy.move{q:Addr}(h:jy H p n gs pats)(hq:H q=none):jy (upd H q (.lst (gs.map V.ref))) q n gs pats:=⟨ae,h.2.1,λi g ws e1 e2=>⟨(aq hq) _ _ (h.2.2 i g ws e1 e2).1,(h.2.2 i g ws e1 e2).2⟩⟩
theorem jy.put{t:Addr}{ws:List (Option Int)}(h:jy H p n gs pats)(ht:H t=some (.tup (ws.map gv)))(hn:ws.length=n):jy (upd H p (.lst (gs.map V.ref++[.ref t]))) p n (gs++[t]) (pats++[ws]):=by
 refine⟨by rw [ae,ab7];rfl,by rw [ab2,ab2,h.2.1];rfl,λi g ws' e1 e2=>?_⟩
 by_cases hi:i < gs.length
 ·rw [ab1 hi]at e1
  rw [ab1 (by rw [<-h.2.1];exact hi)]at e2;obtain⟨h1,h2⟩:=h.2.2 i g ws' e1 e2;rw [aj (da h1 h.1 (λe=>by cases e))];exact⟨h1,h2⟩
 ·rw [ab9 ()]at e1
  rw [ab9 (by rw [<-h.2.1];omega),<-h.2.1]at e2
  have h0:i - gs.length=0:=by
   have:=(aa3.mp e1).1
   simp at this;omega
  rw [h0]at e1 e2;cases e1;cases e2;rw [aj (da ht h.1 (λe=>by cases e))];exact⟨ht,hn⟩
def rD(K:Frag):Sp:=λvs H Q _=>∃(c a:Addr) (cs:List Int) (bs:List (Int×Int)),vs=[.ref c,.ref a]/\aF K H c (cs.map V.int)/\cs.length<=100/\cf K H a bs/\(∀b∈bs,b.1<=b.2/\b.2<=b.1+4)/\bs.length<=4/\∀p gs pats H',jy H' p bs.length gs pats->pats.length=cs.length->H p=none->ar H H'->Q (.ref p) H'
theorem vQ(F:cc K "_law_pattern" "_law_pattern" gI f fd)(T:Txt mg aM): ~~~aG bV 1 f fd ["_law_cells_here","_law_ranges"] (rD K):=by
 refine F.ok sc_law_pattern λ_ A _ s H vs Q E hr h=>?_;obtain⟨c,a,cs,bs,rfl,hc,cl,⟨ts,hts,htl,htc⟩,hb,b4,k⟩:=h
 refine⟨rfl,_,(af (cW (i:=2) sc_law_pattern.nd (bu ag))
 (af (bW PassesOwn.never rfl (bI K (pr 0)) (gd (i:=3) sc_law_pattern.nd)
 (af (cW (i:=4) sc_law_pattern.nd (bu ag))
 (af (bW PassesOwn.never rfl (bI K (pr 1)) (cR K (n:=2) rfl (aO (gd (i:=5) sc_law_pattern.nd) (aO (gd (i:=6) sc_law_pattern.nd) cS)))
 (af (gx (aA (iW) ⋯ T.n_divmod boot_divmod (aa (pr 3) (aa (au (bL K) (au (o0 cJ) (pr 6) (pr 5)) ah) ag))) (cR K (n:=2) rfl (aO (gd (i:=3) sc_law_pattern.nd) (aO (gd (i:=7) sc_law_pattern.nd) cS))))
 (ai (aS (aX (ax (o0 kF) (pr 7) ah (ay _))) (ai (bq (bQ K PySem.F.plainAttrs_list PySem.F.slot_list_append PySem.F.type_list_append bT (pr 4) (aa aH ag)))) (ai (aS (aX (ax (o0 kF) (pr 7) (au (bL K) (au (o0 cJ) (pr 6) (pr 5)) ah) (ay _))) (ai (bq (bQ K PySem.F.plainAttrs_list PySem.F.slot_list_append PySem.F.type_list_append bT (pr 4) (aa (au (o0 cJ) (au (bL K) (pr 5) (pr 7)) ah) ag)))) (ai (bq (bQ K PySem.F.plainAttrs_list PySem.F.slot_list_append PySem.F.type_list_append bT (pr 4) (aa (aD (aW K) (bu (aa (au (o0 cJ) (pr 5) ah) (aa (au (bL K) (pr 6) (au (o1 jJ) ah ah)) ag))) (au (o0 cJ) (au (bL K) (au (o0 cJ) (pr 6) (pr 5)) ah) (pr 7)) (λ_ _=>rfl)) ag))))))))))
 (ai (bq (bQ K PySem.F.plainAttrs_list PySem.F.slot_list_append PySem.F.type_list_append bT (pr 2) (aa (bo (iX K) ⋯ T.n_tuple boot_tuple (aa (pr 4) ag)) ag)))))))
 (ai (av (pr 2))))),?_⟩
 have hs:=sizeLine_eq;refine aV (λZ H'=>∃p:Addr,H p=none/\jy H' p bs.length [] []/\Z=[↑c,↑a,↑p,none,none,none,none,none]/\ar H H') ?_ ?_
 ·intro u' hu
  tm_at "r";exact⟨(),λp hp=>hu _ _ ⟨p,hp,⟨ae,rfl,λi g ws e=>nomatch e⟩,rfl,aq hp⟩⟩
 rintro Ω ω _ H1 ⟨p,hp0,P1,rfl,s1⟩;obtain⟨Pv,hPv⟩:∃Pv:Nat->L2.St->Hp->Prop,Pv=λi Z H'=>∃(gs:List Addr) (pats:List (List (Option Int))) (o3 o4 o5 o6 o7:Option V),pats.length=i/\jy H' p bs.length gs pats/\Z=[↑c,↑a,↑p,o3,o4,o5,o6,o7]/\ar H H':=⟨_,rfl⟩;refine ω _ _ (aV (λZ H'=>Pv cs.length Z H') ?_ ?_)
 ·intro u' hu
  tm_at "r";refine bJ (s1.seq hc) (cq (xs:=cs.map V.int) Pv (by rw [hPv];exact⟨[],[],none,none,none,none,none,rfl,P1,rfl,s1⟩) (λi Z H' _ h=>by rw [hPv]at h;obtain⟨_,_,_,_,_,_,_,_,_,_,s'⟩:=h;exact s'.seq hc) ?_ ?_)
  ·clear P1 s1 H1
   intro i y Z H1 hy hI
   have hi:i < cs.length:=by
    have:=(aa3.mp hy).1
    rw [aa1]at this;exact this
   obtain⟨cell,_,rfl⟩:=ac4.mp (ab8 hy);rw [hPv]at hI;obtain⟨gs,pats,o3,o4,o5,o6,o7,pl,P1,rfl,s1⟩:=hI;refine aV (λZ H'=>∃q:Addr,H1 q=none/\H' q=some (.lst [])/\Z=[↑c,↑a,↑p,⇑cell,↑q,o5,o6,o7]/\ar H1 H') ?_ ?_
   ·intro u2 fE
    tm_at "r";exact⟨(),λq hq=>fE _ _ ⟨q,hq,ae,rfl,aq hq⟩⟩
   rintro Ω ω _ H2 ⟨q,hq0,hq1,rfl,s2⟩;obtain⟨Pw,hPw⟩:∃Pw:Nat->L2.St->Hp->Prop,Pw=λj Z H'=>∃(ws:List (Option Int)) (cell:Int) (o5 o6 o7:Option V),ws.length=j/\H' q=some (.lst (ws.map gv))/\Z=[↑c,↑a,↑p,⇑cell,↑q,o5,o6,o7]/\ar H1 H':=⟨_,rfl⟩;refine ω _ _ (aV (λZ H'=>Pw bs.length Z H') ?_ ?_)
   ·intro u2 fE
    tm_at "r";refine bJ ((s1.trans s2).seq hts) (cq (xs:=ts.map V.ref) Pw (by rw [hPw];exact⟨[],cell,o5,o6,o7,rfl,hq1,rfl,s2⟩) (λi Z H' _ h=>by rw [hPw]at h;obtain⟨_,_,_,_,_,_,_,_,s'⟩:=h;exact(s1.trans s').seq hts) ?_ ?_)
    ·clear hq1 s2 H2
     intro j y Z H2 hy hJ;rw [aa5]at hy
     cases ht:ts[j]? with
     | none=>rw [ht]at hy;cases hy
     | some t=>
      rw [ht]at hy;cases hy
      have hj:j < bs.length:=by rw [<-htl];exact(aa3.mp ht).1
      have tb:=htc j t _ ht (aa2 hj);have hbj:=hb _ (ae0 hj);generalize bs[j]=b at tb hbj;rw [hPw]at hJ;obtain⟨ws,cell,o5,o6,o7,wl,hq1,rfl,s2⟩:=hJ
      have d0:0 < b.2 - b.1+7:=by omega
      have r0:=ae2 cell (show b.2 - b.1+7≠0 by omega);have r1:=ad7 cell d0
      have lw:ws.length<=3:=by omega
      refine C1 λB hB=>?_;tm_at "r";refine⟨_,(s1.trans s2).tup tb,rfl,_,_,rfl,_,_,rfl,rfl,hB _ _ (iJ λRk rk=>?_)⟩;tm_at "r";refine⟨⟨d0,()⟩,λt2 ht2=>⟨_,cT.of ae,rfl,_,_,rfl,_,_,rfl,rfl,rk _ _ ?_⟩⟩;clear rk hB;have s3:=aq (o:=.tup [.int (cell / (b.2 - b.1+7)),.int (cell % (b.2 - b.1+7))]) ht2;have hq3:=s3 _ _ hq1;generalize cell % (b.2 - b.1+7)=r at r0 r1 s3 hq3;generalize cell / (b.2 - b.1+7)=cell2 at s3 hq3;generalize upd H2 t2 (.tup [.int cell2,.int r])=H3 at s3 hq3
      have put:∀(o:Option Int) {H4:Hp} {x y z:V},ar H3 H4->Pw (j+1) [↑c,↑a,↑p,⇑cell2,↑q,some x,some y,some z] (upd H4 q (.lst (ws.map gv++[gv o]))):=λo {H4 x y z} s4=>by
       rw [hPw];exact⟨ws++[o],cell2,_,_,_,by rw [ab2,wl];rfl,by rw [ae,ab7];rfl,rfl,BI hq0 ((s2.trans s3).trans s4)⟩
      refine se λA0 B0 hA0 hB0=>?_;tm_at "r"
      by_cases h2:r < 2
      ·rw [if_pos h2]
       refine hA0 _ ?_;tm_at "r";exact⟨.inl ⟨rfl,_,aF.of hq3⟩,q,_,_,rfl,rfl,hq3,by rw [aa1];omega,put none (ar.refl _)⟩
      ·rw [if_neg h2]
       refine hB0 _ ?_;tm_at "r"
       by_cases h5:r < b.2 - b.1+5
       ·rw [if_pos h5]
        tm_at "r";exact⟨.inl ⟨rfl,_,aF.of hq3⟩,q,_,_,rfl,rfl,hq3,by rw [aa1];omega,put (some _) (ar.refl _)⟩
       ·rw [if_neg h5]
        tm_at "r";refine⟨.inl ⟨rfl,_,aF.of hq3⟩,⟨∅,∅,∅⟩,(),λt3 ht3=>?_⟩;have s4:=aq (o:=.lst [.int (b.1 - 40),.int (b.2+10 ^ Int.toNat 9)]) ht3;refine sS (aF.of ae) () (by simp;omega) λz hz _=>?_
        obtain⟨o,rfl⟩:∃o:Option Int,z=gv o:=by
         simp only [ab0,ad3,or_false]at hz
         rcases hz with rfl | rfl<;>exact⟨some _,rfl⟩
        exact⟨q,_,_,rfl,rfl,s4 _ _ hq3,by rw [aa1];omega,put o s4⟩
    ·intro Z H' hI
     rw [aa1,htl]at hI;exact fE _ _ hI
   clear hq1 s2 H2;intro Ω ω;intro Z H2 hJ;rw [hPw]at hJ;obtain⟨ws,cell,o5,o6,o7,wl,hq1,rfl,s2⟩:=hJ;refine ω _ _ ?_;tm_at "r";have P2:=P1.same s2;refine⟨.inl ⟨rfl,_,aF.of P2.1⟩,_,.inl ⟨aF.of hq1,λt ht=>?_⟩⟩;have st:=aq (o:=.tup (ws.map gv)) ht;refine⟨p,_,_,rfl,rfl,st _ _ P2.1,by rw [aa1,P1.2.1];omega,?_⟩;rw [hPv];exact⟨gs++[t],pats++[ws],_,_,_,_,_,by rw [ab2,pl];rfl,(P2.same st).put ae wl,rfl,BI hp0 ((s1.trans s2).trans st)⟩
  ·intro Z H' hI
   rw [aa1]at hI;exact hu _ _ hI
 clear P1 s1 H1;intro Ω ω;intro Z H1 hI;rw [hPv]at hI;obtain⟨gs,pats,o3,o4,o5,o6,o7,pl,P1,rfl,s1⟩:=hI;refine ω _ _ ?_;tm_at "r";exact k p gs pats H1 P1 pl hp0 s1
def eF(us:List Int)(ws:List (Option Int))(pr:Nat->Int):Nat->Int
 | 0=>0
 | i+1=>eF us ws pr i+(if ws.getD i none≠none/\ws.getD i none≠some (us.getD i 0)then pr i else 0)
def zk(K:Frag)(H:Hp)(n:Nat)(x:V)(pr:Nat->Int):Prop:=(x=.non/\pr=λ_=>1)\/∃(c:Addr) (ps:List Int),x=.ref c/\aF K H c (ps.map V.int)/\ps.length=n/\pr=λi=>ps.getD i 0
def iF(K:Frag):Sp:=λvs H Q _=>∃(a b:Addr) (x:V) (us:List Int) (ws:List (Option Int)) (pr:Nat->Int),vs=[.ref a,.ref b,x]/\cT K H a (us.map V.int)/\cT K H b (ws.map gv)/\us.length=ws.length/\us.length<=100/\zk K H us.length x pr/\
 ∀H',ar H H'->Q (.int (eF us ws pr us.length)) H'
theorem zk.same{x:V}{pr:Nat->Int}(h:zk K H n x pr)(s:ar H H'):zk K H' n x pr:=h.imp id λ⟨c,ps,h1,h2,h3,h4⟩=>⟨c,ps,h1,s.seq h2,h3,h4⟩
theorem AI(F:nE K "price" "price" sW f fd T0)(T:Txt mg aM): ~~~aG bV 1 f fd ["column","given","prices"] (iF K):=by
 refine F.ok sc_price λ_ A _ s H vs Q E hr h=>?_;obtain⟨a,b,x,us,ws,pp,rfl,ha,hb,l1,hn,hp,k⟩:=h
 refine⟨rfl,_,(af (cW (i:=3) sc_price.nd ah)
 (af (bW PassesOwn.never rfl (oA rfl T.n_enumerate (aa (pr 0) ag)) (cR K (n:=2) rfl (aO (gd (i:=4) sc_price.nd) (aO (gd (i:=5) sc_price.nd) cS)))
 (ai (aS (PW.pt (ic (aX (ax jw (aD (aW K) (pr 1) (pr 4) (λ_ _=>rfl)) aH (ay _))) (gn (aX (ax yI (aD (aW K) (pr 1) (pr 4) (λ_ _=>rfl)) (pr 5) (ay _)))))) (ai (EX (vX (i:=3) sc_price.nd rfl (Or.inl rfl) (cE (aX (ax c7 (pr 2) aH (ay _))) ah (aD (aW K) (pr 2) (pr 4) (λ_ _=>rfl))) (o0 Co)))) aB)))
 (ai (av (pr 3))))),?_⟩
 have hs:=sizeLine_eq;tm_at "r";refine⟨false,⟨_,ha⟩,jH (us:=us.map V.int) (λi Z H'=>∃o o',Z=[↑a,↑b,some x,⇑(eF us ws pp i),o,o']/\ar H H') ⟨none,none,rfl,ar.refl H⟩ (λi Z H' _ h=>by obtain⟨o,o',_,sm⟩:=h;exact sm.tup ha) ?_ ?_⟩
 ·rintro i y Z H1 p hx ⟨o,o',rfl,sm⟩ hp0
  have hi:i < us.length:=by have:=(aa3.mp hx).1;rw [aa1]at this;exact this
  have ey:y=.int (us.getD i 0):=by
   rw [aa5,aa2 hi]at hx;simp only [ak9,Option.some.injEq]at hx;rw [<-hx];simp [List.getD,aa2 hi]
  subst ey;refine C1 λB hB=>?_;tm_at "r";refine⟨_,cT.of ae,rfl,?_⟩;tm_at "r";refine hB _ _ ?_;tm_at "r";have s2:ar H (upd H1 p (.tup [.int i,.int (us.getD i 0)])):=sm.upd hp0;have hb2:=s2.tup hb
  have xb:(List.map gv ws)[i]?=some (gv (ws.getD i none)):=by rw [aa5,aa2 ()];simp [List.getD,aa2 (show i < ws.length by omega)]
  simp only [eF];refine eD hb2 (aE xb) ?_
  cases hw:ws.getD i none with
  | none=>
   rw [if_pos (show gv none=V.non from rfl),if_neg (λh=>h.1 rfl),ap5];exact⟨rfl,s2⟩
  | some m=>
   rw [hw]at xb;rw [if_neg (λe=>by cases e)];refine eD hb2 (aE xb) (rNe_ii.mpr ⟨_,rfl,?_⟩)
   by_cases e:m=us.getD i 0
   ·rw [if_neg (by simp [e]),if_neg (λh=>h.2 (by rw [e])),ap5]
    exact⟨rfl,s2⟩
   ·have ec:some m≠none/\some m≠some (us.getD i 0):=⟨λz=>(by cases z),λz=>e (Option.some.inj z)⟩
    rw [if_pos (show(!decide (m=us.getD i 0))=true by rw [decide_eq_false e];rfl)];rcases hp with⟨rfl,rfl⟩ | ⟨c,ps,rfl,hc,lp,rfl⟩
    ·rw [if_pos rfl,if_pos ec]
     exact⟨rfl,s2⟩
    ·rw [if_neg (λe=>by cases e),if_pos ec]
     have xc:(List.map V.int ps)[i]?=⇑(ps.getD i 0):=by rw [aa5,aa2 ()];simp [List.getD,aa2 (show i < ps.length by omega)]
     refine aR (s2.seq hc) (aE xc) ?_;exact⟨_,rfl,rfl,s2⟩
 ·rintro Z H1 ⟨o,o',rfl,sm⟩
  tm_at "r";exact k _ sm
theorem yM(F:cc K "_law_price" "_law_price" ji f fd)(T:Txt mg aM): ~~~aG bV 1 f fd ["_law_column","_law_given","_law_prices_here"] (iF K):=by
 refine F.ok sc_law_price λ_ A _ s H vs Q E hr h=>?_;obtain⟨a,b,x,us,ws,pr',rfl,ha,hb,l1,hn,hp,k⟩:=h
 refine⟨rfl,_,(af (cW (i:=3) sc_law_price.nd ah)
 (af (bW PassesOwn.never rfl (c8 rfl T.n_range (aa (aA (aJ K) ⋯ T.n_len boot_len (aa (pr 0) ag)) ag)) (gd (i:=4) sc_law_price.nd)
 (ai (aS (PW.pt (ic (aX (ax jw (aD (aW K) (pr 1) (pr 4) (λ_ _=>rfl)) aH (ay _))) (gn (aX (ax yI (aD (aW K) (pr 1) (pr 4) (λ_ _=>rfl)) (aD (aW K) (pr 0) (pr 4) (λ_ _=>rfl)) (ay _)))))) (ai (aS (aX (ax c7 (pr 2) aH (ay _))) (ai (cW (i:=3) sc_law_price.nd (au (bL K) (pr 3) ah))) (ai (cW (i:=3) sc_law_price.nd (au (bL K) (pr 3) (aD (aW K) (pr 2) (pr 4) (λ_ _=>rfl))))))) aB)))
 (ai (av (pr 3))))),?_⟩
 have hs:=sizeLine_eq;refine aV (λZ H'=>Z=[↑a,↑b,some x,some (.int 0),none]/\H=H') ?_ ?_
 ·intro u' hu
  tm_at "r";exact hu _ _ ⟨rfl,rfl⟩
 rintro Ω ω _ _ ⟨rfl,rfl⟩;refine ω _ _ ?_;tm_at "r";refine⟨_,.inr ha,?_⟩;rw [aa1];refine⟨(),(),de (λi Z H'=>∃o4:Option V,Z=[↑a,↑b,some x,⇑(eF us ws pr' i),o4]/\H=H') ⟨none,rfl,rfl⟩ ?_ ?_⟩
 ·rintro i Z H1 hi ⟨o4,rfl,rfl⟩
  have hi:i < us.length:=by omega
  have xa:(List.map V.int us)[i]?=⇑(us.getD i 0):=by rw [aa5,aa2 hi];simp [List.getD,aa2 hi]
  have xb:(List.map gv ws)[i]?=some (gv (ws.getD i none)):=by rw [aa5,aa2 ()];simp [List.getD,aa2 (show i < ws.length by omega)]
  simp only [eF];tm_at "r";refine eD hb (aE xb) ?_
  cases hw:ws.getD i none with
  | none=>
   rw [if_pos (show gv none=V.non from rfl),if_neg (λh=>h.1 rfl),ap5];exact⟨rfl,rfl⟩
  | some m=>
   rw [hw]at xb;rw [if_neg (λe=>by cases e)];refine eD hb (aE xb) (eD ha (aE xa) (rNe_ii.mpr ⟨_,rfl,?_⟩))
   by_cases e:m=us.getD i 0
   ·rw [if_neg (by simp [e]),if_neg (λh=>h.2 (by rw [e])),ap5]
    exact⟨rfl,rfl⟩
   ·have ec:some m≠none/\some m≠some (us.getD i 0):=⟨λz=>(by cases z),λz=>e (Option.some.inj z)⟩
    rw [if_pos (show(!decide (m=us.getD i 0))=true by rw [decide_eq_false e];rfl)];rcases hp with⟨rfl,rfl⟩ | ⟨c,ps,rfl,hc,lp,rfl⟩
    ·rw [if_pos rfl,if_pos ec]
     exact⟨rfl,rfl⟩
    ·rw [if_neg (λe=>by cases e),if_pos ec]
     have xc:(List.map V.int ps)[i]?=⇑(ps.getD i 0):=by rw [aa5,aa2 ()];simp [List.getD,aa2 (show i < ps.length by omega)]
     refine aR hc (aE xc) ?_;tm_at "r"
 ·rintro Z H1 ⟨o4,rfl,rfl⟩
  tm_at "r";exact k _ (ar.refl _)
theorem nF.same{la wa:Addr}(h:nF P w Ss cols la wa H met)(s:ar H H'):nF P w Ss cols la wa H' met:=by
 obtain⟨ds,h2,h3,h4,h5⟩:=h;exact⟨ds,s _ _ h2,h3,s _ _ h4,λi d t e1 e2=>let ⟨xs,g1,g2⟩:=h5 i d t e1 e2;⟨xs,g1.same s,g2⟩⟩
def my(P:Program)(w:World)(K:Frag)(C Cs:Addr)(bs:List (Int×Int))(Ss:List bU)(met:List MS)(x:Addr)(H:Hp):Prop:=∃dx la wa sc dsc ra rb:Addr,H x=some (.ins C dx (bD la wa sc))/\nF P w Ss (aQ bs) la wa H met/\H sc=some (.ins Cs dsc (dj ra rb))/\cf K H ra bs
theorem my.same(h:my P w K C Cs bs Ss met x H)(s:ar H H'):my P w K C Cs bs Ss met x H':=by
 obtain⟨dx,la,wa,sc,dsc,ra,rb,h1,h2,h3,h4⟩:=h;exact⟨dx,la,wa,sc,dsc,ra,rb,s _ _ h1,h2.same s,s _ _ h3,h4.same s⟩
theorem my.at_(h:my P w K C Cs bs Ss met x H):fN P w C Ss (aQ bs) met x H:=by
 obtain⟨dx,la,wa,sc,dsc,ra,rb,h1,h2,h3,h4⟩:=h;exact⟨dx,la,wa,sc,h1,h2⟩
def uZ(P:Program)(w:World)(C:Addr):Sp:=λvs H Q _=>∃(x:Addr) (Ss:List bU) (cols:List (List Int)) (met:List MS),vs=[.ref x]/\fN P w C Ss cols met x H/\met.length<=1000/\∀l H',H l=none->H' l=some (.lst ((intsFrom 0 met.length).map V.int))->ar H H'->Q (.ref l) H'
structure rS(Ss:List bU)(cols:List (List Int))(met:List MS)(s:MS)(L:List (List Int×Nat)):Prop where
 ks:L.map (·.1)=cols.filter λc=>(cC Ss s c).isSome
 to:∀e∈L,∃s',cC Ss s e.1=some s'/\met[e.2]?=some s'
def zz(H:Hp)(p:Addr)(L:List (List Int×Nat)):Prop:=∃ts:List Addr,H p=some (.lst (ts.map V.ref))/\ts.length=L.length/\∀(j:Nat) (t:Addr) (e:List Int×Nat),ts[j]?=some t->L[j]?=some e->∃a,H t=some (.tup [.ref a,.int e.2])/\H a=some (.tup (e.1.map V.int))
def Bo(P:Program)(w:World)(C:Addr):Sp:=λvs H Q _=>∃(x:Addr) (Ss:List bU) (cols:List (List Int)) (met:List MS) (i:Nat) (s:MS),vs=[.ref x,.int i]/\fN P w C Ss cols met x H/\met[i]?=some s/\∀p L H',H p=none->zz H' p L->rS Ss cols met s L->ar H H'->Q (.ref p) H'
theorem Eh{κ:Type}[DecidableEq κ]{xs:List (κ×Addr×V)}(nd:(xs.map (·.1)).Nodup){e:κ×Addr×V}(he:e∈xs):hV xs e.1=some e.2.2:=by
 unfold hV
 induction xs with
 | nil=>cases he
 | cons x xs ih=>
  rw [ad5]at nd;have hn:=ai3.mp nd;rw [an4]
  by_cases hx:x.1=e.1
  ·rw [decide_eq_true hx]
   rcases ab0.mp he with rfl | he
   ·rfl
   ·exact absurd (ac4.mpr ⟨e,he,hx.symm⟩) hn.1
  ·rw [decide_eq_false hx]
   rcases ab0.mp he with rfl | he
   ·exact absurd rfl hx
   ·exact ih hn.2 he
def vN:V->Nat
 | .int j=>j.toNat
 | _=>0
def Gr(P:Program)(w:World)(K:Frag)(C Cs:Addr):Sp:=λvs H Q _=>∃(x g:Addr) (pv:V) (bs:List (Int×Int)) (Ss:List bU) (met:List MS) (ws:List (Option Int)) (pr:Nat->Int),vs=[.ref x,.ref g,pv]/\my P w K C Cs bs Ss met x H/\cT K H g (ws.map gv)/\ws.length=bs.length/\bs.length<=4/\(∀b∈bs,1<=wN b)/\m8 bs<=400/\zk K H bs.length pv pr/\
 ∀p xs H',H p=none->bH (tN P w) H' p xs->(∀c∈aQ bs,hV xs c=⇑(eF c ws pr c.length))->ar H H'->Q (.ref p) H'
theorem yR(F:cc K "states" "States.states" fw f fd)(T:Txt mg aM)(TC:dF K C): ~~~aG bV 1 f fd ["self"] (uZ P w C):=by
 refine F.ok l8 λ_ A _ s H vs Q E hr h=>?_;obtain⟨x,Ss,cols,met,rfl,⟨dx,la,wa,sc,hx,ds,h1,h2,h3,h4⟩,ml,k⟩:=h;refine⟨rfl,_,(ai (av (qZ rfl ⋯ T.n_list ⋯ T.n_range (aa (aA (aJ K) ⋯ T.n_len boot_len (aa (aL (pr 0) rfl) ag)) ag)))),?_⟩;tm_at "r";refine⟨C,dx,_,hx,TC.cl,TC.n1,_,fb la wa sc,?_⟩;exact .inr ⟨la,rfl,_,.inl (aF.of h1),by rw [aa1,h2];omega,λl hl=>k l _ hl (by rw [ae,aa1,h2,af8]) (aq hl)⟩
theorem CT(F:cc K "ways" "States.ways" gG f fd)(T:Txt mg aM)(TC:dF K C): ~~~aG bV 1 f fd ["self","state"] (Bo P w C):=by
 refine F.ok oP λ_ A _ s H vs Q E hr h=>?_;obtain⟨x,Ss,cols,met,i,st,rfl,⟨dx,la,wa,sc,hx,ds,h1,h2,h3,h4⟩,hst,k⟩:=h;refine⟨rfl,_,(ai (av (AR (kk':=tN P w) rfl ⋯ T.n_list (aD (aW K) (aL (pr 0) rfl) (pr 1) (λ_ _=>rfl))))),?_⟩;tm_at "r";obtain⟨d,hd⟩:∃d,ds[i]?=some d:=⟨_,aa2 (by rw [h2];exact(aa3.mp hst).1)⟩;obtain⟨xs,D,Lk⟩:=h4 i d st hd hst;refine⟨C,dx,_,hx,TC.cl,TC.n1,_,fb la wa sc,aR (aF.of h1) (aE (by rw [aa5,hd];rfl)) ?_⟩;refine⟨d,rfl,xs,D,λp ts H2 hp0 hp2 tl ht s2=>?_⟩
 have val:∀e∈xs,∃(j:Nat) (s':MS),e.2.2=.int j/\cC Ss st e.1=some s'/\met[j]?=some s':=λe he=>by
  have hk:e.1∈cols.filter λc=>(cC Ss st c).isSome:=by rw [<-Lk.2.2];exact ac4.mpr ⟨e,he,rfl⟩
  obtain⟨hc,hn⟩:=am8.mp hk;obtain⟨s',hs'⟩:=Option.isSome_iff_exists.mp hn;obtain⟨j,g1,g2⟩:=Lk.1 e.1 hc s' hs';rw [Eh D.nd he]at g2;exact⟨j,s',Option.some.inj g2,hs',g1⟩
 refine k p (xs.map λe=>(e.1,vN e.2.2)) H2 hp0 ⟨ts,hp2,by rw [tl,aa1],λj t e e1 e2=>?_⟩ ⟨by rw [ai6,<-Lk.2.2];rfl,λe he=>?_⟩ s2
 ·rw [aa5]at e2
  cases hx2:xs[j]? with
  | none=>rw [hx2]at e2;cases e2
  | some z=>
   rw [hx2]at e2;cases e2;have hz:=ab8 hx2;obtain⟨j',s',v1,v2,v3⟩:=val z hz;refine⟨z.2.1,?_,s2 _ _ (D.ks z hz)⟩
   have:=(ht j t z e1 hx2).2
   rw [v1]at this;show H2 t=some (.tup [.ref z.2.1,.int ((vN z.2.2:Nat):Int)]);rw [v1];exact this
 ·obtain⟨z,hz,rfl⟩:=ac4.mp he
  obtain⟨j',s',v1,v2,v3⟩:=val z hz;exact⟨s',v2,by show met[vN z.2.2]?=_;rw [v1];exact v3⟩
theorem F5(F:cc K "column_prices" "column_prices" fB f fd)(T:Txt mg aM)(TC:dF K C)(TS:eY K Cs)(D_columns: ~~~cN "columns" 3 ["score"] (gZ K Cs))(D_price: ~~~cN "price" 3 ["column","given","prices"] (iF K)): ~~~aG bV 4 f fd ["machine","given","prices"] (Gr P w K C Cs):=by
 refine F.ok sc_column_prices λ_ A _ s H vs Q E hr h=>?_;obtain⟨x,g,pv,bs,Ss,met,ws,pp,rfl,MX,hg,hl,lb,hw,hc,hP,k⟩:=h
 refine⟨rfl,_,(af (cW (i:=3) sc_column_prices.nd (xy (kk':=tN P w)))
 (af (bW PassesOwn.never rfl (bI K (az D_columns hr ⋯ (aa (aL (pr 0) rfl) ag))) (gd (i:=4) sc_column_prices.nd)
 (ai (gx (az D_price hr ⋯ (aa (pr 4) (aa (pr 1) (aa (pr 2) ag)))) (sP (pr 3) (pr 4) (Fb (kk':=tN P w) (fE hr))))))
 (ai (av (pr 3))))),?_⟩
 have hs:=sizeLine_eq;refine aV (λZ H'=>∃p:Addr,H p=none/\bH (tN P w) H' p []/\Z=[↑x,↑g,some pv,↑p,none]/\ar H H') ?_ ?_
 ·intro u' hu
  tm_at "r";exact λp hp=>hu _ _ ⟨p,hp,⟨ae,(λ_ h=>nomatch h),List.nodup_nil,ac1 _⟩,rfl,aq hp⟩
 rintro Ω ω _ H1 ⟨p,hp,D1,rfl,s1⟩;obtain⟨dx,la,wa,sc,dsc,ra,rb,hx,MB,hsc,RA⟩:=MX.same s1;refine ω _ _ (aV (λZ H'=>∃(xs:List (List Int×Addr×V)) (o4:Option V),bH (tN P w) H' p xs/\(∀c∈aQ bs,hV xs c=⇑(eF c ws pp c.length))/\Z=[↑x,↑g,some pv,↑p,o4]/\ar H H') ?_ ?_)
 ·intro u' hu
  tm_at "r";refine⟨C,dx,_,hx,TC.cl,TC.n3,_,uo la wa sc,sc,dsc,ra,rb,bs,rfl,hsc,RA,lb,hw,hc,λq H2 hq0 hC s2=>?_⟩;obtain⟨ps,hq,hT⟩:=hC;have cl:=eE bs;have D2:=D1.same s2;obtain⟨Pv,hPv⟩:∃Pv:Nat->L2.St->Hp->Prop,Pv=λi Z H'=>∃(xs:List (List Int×Addr×V)) (o4:Option V),bH (tN P w) H' p xs/\xs.length<=i/\(∀c∈(aQ bs).take i,hV xs c=⇑(eF c ws pp c.length))/\xg [p] H2 H'/\Z=[↑x,↑g,some pv,↑p,o4]:=⟨_,rfl⟩
  have nq:q∉[p]:=by
   rw [ac3];exact(ao D1.ob hq0).symm
  refine bJ (aF.of hq) (cq (xs:=ps.map V.ref) Pv (by rw [hPv];exact⟨[],none,D2,ac1 _,(λc hc=>nomatch hc),λ_ _ _ e=>e,rfl⟩) (λi Z H' _ h=>by rw [hPv]at h;obtain⟨_,_,_,_,_,sx,_⟩:=h;exact aF.of (sx q _ nq hq)) ?_ ?_)
  ·rintro i y Z H3 hy hI
   rw [hPv]at hI;obtain⟨xs,o4,D3,xl,hxs,sx,rfl⟩:=hI;rw [aa5]at hy
   cases hpi:ps[i]? with
   | none=>rw [hpi]at hy;cases hy
   | some ca=>
    rw [hpi]at hy;cases hy
    have hi:i < (aQ bs).length:=by rw [<-hT.1];exact(aa3.mp hpi).1
    obtain⟨c,hci⟩:∃c,(aQ bs)[i]?=some c:=⟨_,aa2 hi⟩;have hca:=hT.2 i ca c hpi hci
    have nca:ca∉[p]:=by
     rw [ac3];exact da hca D2.ob (λe=>by cases e)
    have hca3:=sx ca _ nca hca
    have et:(aQ bs).take (i+1)=(aQ bs).take i++[c]:=by rw [ac5,hci];rfl
    have cw:=e9 bs c (ab8 hci);have s03:ar H H3:=λb o e=>sx b o (by rw [ac3];exact ao e hp) (s2 _ _ (s1 _ _ e));tm_at "r";refine⟨ca,g,pv,c,ws,pp,rfl,cT.of hca3,s03.tup hg,(),(),by rw [cw];exact hP.same s03,λH4 s4=>?_⟩;have D4:=D3.same s4;refine⟨p,ca,c,xs,rfl,rfl,D4,s4 _ _ hca3,?_⟩;rw [hPv];refine⟨_,_,D4.put (s4 _ _ hca3) (),?_,λc' hc'=>?_,λb o hb e=>?_,rfl⟩
    ·unfold eB
     split
     ·rw [aa1]
      omega
     ·rw [ab2]
      simp;omega
    ·rw [et]at hc'
     by_cases e:c'=c
     ·subst e
      rw [hX]
     ·rw [fR e]
      rcases ad2.mp hc' with h | h
      ·exact hxs c' h
      ·exact absurd (ac3.mp h) e
    ·rw [ac3]at hb
     rw [aj hb];exact s4 _ _ (sx b o (by rw [ac3];exact hb) e)
  ·rintro Z H3 hI
   rw [hPv]at hI;obtain⟨xs,o4,D3,xl,hxs,sx,rfl⟩:=hI;rw [aa1,hT.1,ad4]at hxs;refine hu _ _ ⟨xs,o4,D3,hxs,rfl,λb o e=>sx b o ?_ (s2 _ _ (s1 _ _ e))⟩;rw [ac3];exact ao e hp
 rintro Ω ω _ H2 ⟨xs,o4,D2,hxs,rfl,s2⟩;refine ω _ _ ?_;tm_at "r";exact k p xs H2 hp D2 hxs s2
theorem Av(l:List Int)(x:Int):(l++[x]).min?=some (match l.min? with | none=>x | some m=>if x < m then x else m):=by
 cases l with
 | nil=>rfl
 | cons a l=>
  simp only [am3,List.min?,ag4,af5,List.foldl_nil];congr 1
  split<;>omega
theorem EB{l:List Int}(h1:m∈l)(h2:∀j∈l,m<=j):l.min?=some m:=List.min?_eq_some_iff.mpr ⟨h1,h2⟩
def xF(P:Program)(w:World)(K:Frag):Sp:=λvs H Q _=>∃(y t l:Addr) (L:List (List Int×Nat)) (xs:List (List Int×Addr×V)) (rs:List (Option Int)) (cst:List Int->Int),vs=[.ref y,.ref t,.ref l]/\zz H y L/\L.length<=1000/\bH (tN P w) H t xs/\(∀e∈L,hV xs e.1=⇑(cst e.1))/\H l=some (.lst (rs.map gv))/\(∀e∈L,e.2 < rs.length)/\∀H',ar H H'->Q (gv (L.filterMap λe=>(rs.getD e.2 none).map (cst e.1 + ·)).min?) H'
def q9(Ss:List bU)(cols:List (List Int))(pr:Nat->Int):List (List (Option Int))->MS->Option Int
 | [],s=>if dG Ss s.2 s.1 then some 0 else none
 | g::gs,s=>(cols.filterMap λc=>match cC Ss s c with | some s'=>(q9 Ss cols pr gs s').map (eF c g pr c.length + ·) | none=>none).min?
def ee(Ss:List bU)(cols:List (List Int))(pr:Nat->Int)(met:List MS)(gs:List (List (Option Int))):List (Option Int):=met.map (q9 Ss cols pr gs)
def xf(H0 H:Hp)(p:Addr)(rows:List (List (Option Int))):Prop:=∃qs:List Addr,H p=some (.lst (qs.map V.ref))/\qs.length=rows.length/\∀(i:Nat) (q:Addr) (r:List (Option Int)),qs[i]?=some q->rows[i]?=some r->H0 q=none/\H q=some (.lst (r.map gv))
theorem xf.same{H0:Hp}(h:xf H0 H p rows)(s:ar H H'):xf H0 H' p rows:=by
 obtain⟨qs,h1,h2,h3⟩:=h;exact⟨qs,s _ _ h1,h2,λi q r e1 e2=>⟨(h3 i q r e1 e2).1,s _ _ (h3 i q r e1 e2).2⟩⟩
theorem AL{x y:α}(h:[x][i]?=some y):i=0/\x=y:=by
 cases i with
 | zero=>cases h;exact⟨rfl,rfl⟩
 | succ i=>cases h
theorem xf.put{H0:Hp}{b:Addr}{r:List (Option Int)}(h:xf H0 H b rows)(h0:H0 p=none)(hp:H p=some (.lst (r.map gv)))(hpb:p≠b):∃xs:List V,H b=some (.lst xs)/\xs.length=rows.length/\xf H0 (upd H b (.lst (xs++[.ref p]))) b (rows++[r]):=by
 obtain⟨qs,h1,h2,h3⟩:=h;refine⟨qs.map V.ref,h1,by rw [aa1,h2],qs++[p],by rw [ae,ab7];rfl,by rw [ab2,ab2,h2];rfl,λi q r' e1 e2=>?_⟩
 by_cases hi:i < qs.length
 ·rw [ab1 hi]at e1
  rw [ab1 (by rw [<-h2];exact hi)]at e2;have h4:=h3 i q r' e1 e2;rw [aj (λe=>?_)]
  ·exact h4
  ·rw [e,h1]at h4
   cases qs with
   | nil=>cases e1
   | cons z zs=>rcases r' with _ | ⟨_ | a,as⟩<;>cases h4.2
 ·rw [ab9 ()]at e1
  rw [ab9 (),<-h2]at e2;obtain⟨h0',rfl⟩:=AL e1;obtain⟨_,rfl⟩:=AL e2;rw [aj hpb];exact⟨h0,hp⟩
theorem t8{f g:α->Option β}{l:List α}(h:∀x∈l,f x=g x):l.filterMap f=l.filterMap g:=by
 induction l with
 | nil=>rfl
 | cons a l ih=>rw [af4,af4,h a (ad6 ..),ih λx hx=>h x (ad8 _ hx)]
theorem AX{s:MS}{pr:Nat->Int}{g:List (Option Int)}{gs:List (List (Option Int))}(W:rS Ss cols met s L):
  (L.filterMap λe=>((ee Ss cols pr met gs).getD e.2 none).map (eF e.1 g pr e.1.length + ·)).min?=q9 Ss cols pr (g::gs) s:=by
 simp only [q9];congr 1
 have e1:(L.filterMap λe=>((ee Ss cols pr met gs).getD e.2 none).map (eF e.1 g pr e.1.length + ·))=(L.map (·.1)).filterMap λc=>match cC Ss s c with | some s'=>(q9 Ss cols pr gs s').map (eF c g pr c.length + ·) | none=>none:=by
  rw [List.filterMap_map];refine t8 λe he=>?_;obtain⟨s',h1,h2⟩:=W.to e he
  show _=match cC Ss s e.1 with | some s'=>(q9 Ss cols pr gs s').map (eF e.1 g pr e.1.length + ·) | none=>none
  rw [h1];unfold ee;rw [ae9,aa5,h2];rfl
 rw [e1,W.ks,List.filterMap_filter];refine t8 λc _=>?_
 cases cC Ss s c<;>rfl
theorem AG(F:cc K "least_price" "least_price" gK f fd)(T:Txt mg aM): ~~~aG bV 3 f fd ["ways","costs","later"] (xF P w K):=by
 refine F.ok oR λ_ A _ s H vs Q E hr h=>?_;obtain⟨y,t,l,L,xs,rs,cst,rfl,⟨ts,hy,tl,ht⟩,lL,D,hD,hl,hlt,k⟩:=h;refine⟨rfl,_,(ai (av (C6 K rfl ⋯ T.n_min (aa (cQ (own:=["column","state"]) (js:=[1,2]) rfl (bI K (pr 0)) (bG.of ⋯) (λ_ _ _ _ _=>(cR K (n:=2) rfl (aO (bN (i:=0) (show List.Nodup (["column","state","costs","later"]:List Str)from by decide +kernel) rfl (Or.inl rfl)) (aO (bN (i:=1) (show List.Nodup (["column","state","costs","later"]:List Str)from by decide +kernel) rfl (Or.inl rfl)) cS)))) (λ_ _ _ _ _=>De (aX (ax jw (aD (aW K) (pr 3) (pr 1) (λ_ _=>rfl)) aH (ay _)))) (λ_ _ _ _ _=>(au (bL K) (aD (ixE (tN P w) hr) (pr 2) (pr 0) (λ_ _=>rfl)) (aD (aW K) (pr 3) (pr 1) (λ_ _=>rfl))))) ag) (C9 aH EW)))),?_⟩;have hs:=sizeLine_eq;tm_at "r";simp only [D7];tm_at "r"
 refine bJ (aF.of hy) (cu (xs:=ts.map V.ref) (λi ys H'=>ys=((L.take i).filterMap λe=>(rs.getD e.2 none).map (cst e.1 + ·)).map V.int/\H=H') (by rw [aa1];omega) ⟨rfl,rfl⟩ ?_ ?_ ?_ ?_)
 ·rintro i ys H' ⟨rfl,rfl⟩
  rw [aa1];exact ac2 (List.length_filterMap_le _ _) (by rw [ad1];omega)
 ·rintro i ys H' ⟨rfl,rfl⟩
  exact aF.of hy
 ·rintro i v ys H' hv ⟨rfl,rfl⟩
  rw [aa5]at hv
  cases hti:ts[i]? with
  | none=>rw [hti]at hv;cases hv
  | some tt=>
   rw [hti]at hv;cases hv;obtain⟨e,he⟩:∃e,L[i]?=some e:=⟨_,aa2 (by rw [<-tl];exact(aa3.mp hti).1)⟩;obtain⟨a,h1,h2⟩:=ht i tt e hti he;have hm:=ab8 he
   have et:L.take (i+1)=L.take i++[e]:=by rw [ac5,he];rfl
   have xl:(rs.map gv)[e.2]?=some (gv (rs.getD e.2 none)):=by rw [aa5,aa2 (hlt e hm)];simp [List.getD,aa2 (hlt e hm)]
   simp only [e7];tm_at "r";refine⟨_,cT.of h1,rfl,_,_,rfl,_,_,rfl,rfl,aR (aF.of hl) (aE xl) ?_⟩;rw [et,aj5,ab7]
   cases hw:rs.getD e.2 none with
   | none=>
    rw [if_pos (show gv none=V.non from rfl),af4,hw];exact⟨(ag5 _).symm,rfl⟩
   | some m=>
    rw [hw]at xl;rw [if_neg (λe=>by cases e),af4,hw];exact⟨t,a,e.1,xs,_,rfl,rfl,D,h2,hD e hm,aR (aF.of hl) (aE xl) (rAddA_ii.mpr ⟨rfl,rfl⟩)⟩
 ·rintro ys H' ⟨rfl,rfl⟩ p hp
  rw [aa1,tl,ad4];refine⟨_,aF.of ae,λh0=>?_,λm hm hj=>?_⟩
  ·have:=k _ (aq (o:=.lst ((L.filterMap λe=>(rs.getD e.2 none).map (cst e.1 + ·)).map V.int)) hp)
   rw [h0]at this |-;exact this
  ·have:=k _ (aq (o:=.lst ((L.filterMap λe=>(rs.getD e.2 none).map (cst e.1 + ·)).map V.int)) hp)
   rw [EB hm hj]at this;exact this
theorem gW(n:Nat):(L2.intsFrom 0 n).length=n:=by simp [L2.intsFrom]
theorem xq{y:V}(h:((L2.intsFrom 0 n).map V.int)[i]?=some y):i < n/\y=.int (i:Int):=by
 have hi:i < n:=by
  have:=(aa3.mp h).1
  rw [aa1,gW]at this;exact this
 refine⟨hi,?_⟩;rw [L2.intsFrom,aa5,aa5,ag1 hi]at h
 have:=Option.some.inj h
 rw [<-this];show V.int (0+(i:Int))=_;rw [Int.zero_add]
structure FD(bs:List (Int×Int))(met:List MS):Prop where
 lb:bs.length<=4
 wd:∀b∈bs,1<=wN b
 cn:m8 bs<=400
 ml:met.length<=1000
theorem rS.mem{s:MS}(W:rS Ss cols met s L)(e:List Int×Nat)(he:e∈L):e.1∈cols:=by
 have:e.1∈L.map (·.1):=ac4.mpr ⟨e,he,rfl⟩
 rw [W.ks]at this;exact(am8.mp this).1
def y8(P:Program)(w:World)(K:Frag)(C Cs:Addr):Sp:=λvs H Q _=>∃(x pt:Addr) (pv:V) (bs:List (Int×Int)) (Ss:List bU) (met:List MS) (gs:List Addr) (pats:List (List (Option Int))) (pr:Nat->Int),vs=[.ref x,.ref pt,pv]/\my P w K C Cs bs Ss met x H/\FD bs met/\jy H pt bs.length gs pats/\zk K H bs.length pv pr/\pats.length<=1000/\
 ∀p H',H p=none->xf H H' p ((List.range (pats.length+1)).map λ(i:Nat)=>ee Ss (aQ bs) pr met (pats.drop i))->ar H H'->Q (.ref p) H'
theorem F6(F:nE K "prices_paper" "prices_paper" f9 f fd T0)(T:Txt mg aM)(TC:dF K C)(D_column_prices: ~~~cN "column_prices" 4 ["machine","given","prices"] (Gr P w K C Cs))(D_least_price: ~~~cN "least_price" 4 ["ways","costs","later"] (xF P w K))(M_states: ~~~aC C "states" 4 ["self"] (uZ P w C))(M_ways: ~~~aC C "ways" 4 ["self","state"] (Bo P w C))(M_ends: ~~~aC C "ends" 4 ["self","state"] (tE P w C)): ~~~aG bV 5 f fd ["machine","pattern","prices"] (y8 P w K C Cs):=by
 refine F.ok sc_prices_paper λ_ A _ s H vs Q E hr h=>?_;obtain⟨x,pt,pv,bs,Ss,met,gs,pats,pp,rfl,MX,MC,⟨hgs,gl,hg⟩,hP,lp,k⟩:=h
 refine⟨rfl,_,(af (cW (i:=3) sc_prices_paper.nd (bu (aa (cQ (own:=["state"]) (js:=[0]) rfl (bI K (~~~dX hr (pr 0))) (bG.of ⋯) (λ_ _ _ _ _=>(bN (i:=0) (show List.Nodup (["state","machine"]:List Str)from by decide +kernel) rfl (Or.inl rfl))) (λ_ _ _ _ _=>cI) (λ_ _ _ _ _=>(cE (yW K (~~~fc hr (pr 1) (aa (pr 0) ag)) (λ_=>rfl)) ah aH))) ag)))
 (af (bW PassesOwn.never rfl (C8 K ⋯ T.n_reversed (aa (pr 1) ag)) (gd (i:=4) sc_prices_paper.nd)
 (af (vY (i:=5) sc_prices_paper.nd rfl (Or.inr rfl) (az D_column_prices hr ⋯ (aa (pr 0) (aa (pr 4) (aa (pr 2) ag)))))
 (af (vY (i:=6) sc_prices_paper.nd rfl (Or.inr rfl) (aD (aW K) (pr 3) (AV (u1 w4) ah) (λ_ _=>rfl)))
 (ai (bq (bQ K PySem.F.plainAttrs_list PySem.F.slot_list_append PySem.F.type_list_append bT (pr 3) (aa (cQ (own:=["state"]) (js:=[0,5,6]) rfl (bI K (~~~dX hr (pr 0))) (bG.of ⋯) (λ_ _ _ _ _=>(bN (i:=0) (show List.Nodup (["state","machine","costs","later"]:List Str)from by decide +kernel) rfl (Or.inl rfl))) (λ_ _ _ _ _=>cI) (λ_ _ _ _ _=>(az D_least_price hr ⋯ (aa (~~~fc hr (pr 1) (aa (pr 0) ag)) (aa (pr 2) (aa (pr 3) ag)))))) ag)))))))
 (ai (av (vU K rfl ⋯ T.n_list ⋯ T.n_reversed (aa (pr 3) ag)))))),?_⟩
 have hs:=sizeLine_eq;have ml:=MC.ml;have cl:=eE bs;have cn:=MC.cn;refine aV (λZ H'=>∃bw:Addr,H bw=none/\xf H H' bw [ee Ss (aQ bs) pp met []]/\Z=[↑x,↑pt,some pv,↑bw,none,none,none]/\ar H H') ?_ ?_
 ·intro u' hu
  tm_at "r";obtain⟨dx,la,wa,sc,hx,MB⟩:=MX.at_;refine⟨C,dx,_,hx,by unfold bD;tm_at "f",_,_,M_states,x,Ss,aQ bs,met,rfl,MX.at_,ml,λl H1 hl0 hl s1=>bJ (aF.of hl) (cu (xs:=(L2.intsFrom 0 met.length).map V.int) (λi ys H'=>ys=((met.take i).map (q9 Ss (aQ bs) pp [])).map gv/\H1=H') (by rw [aa1,gW];omega) ⟨rfl,rfl⟩ ?_ ?_ ?_ ?_)⟩
  ·rintro i ys H' ⟨rfl,rfl⟩
   rw [aa1,aa1,ad1];omega
  ·rintro i ys H' ⟨rfl,rfl⟩
   exact aF.of hl
  ·rintro i y ys H' hy ⟨rfl,rfl⟩
   obtain⟨hi,rfl⟩:=xq hy;obtain⟨st,hst⟩:∃st,met[i]?=some st:=⟨_,aa2 hi⟩;simp only [e7];tm_at "r";refine⟨C,dx,_,s1 _ _ hx,by unfold bD;tm_at "f",_,_,M_ends,x,Ss,aQ bs,met,i,st,rfl,MX.at_.same s1,hst,_,rfl,?_⟩;rw [ac5,hst,ab7,ab7]
   cases hcl:dG Ss st.2 st.1 with
   | true=>
    rw [if_pos rfl];exact⟨by simp [q9,hcl,gv],rfl⟩
   | false=>
    rw [if_neg ∅];exact⟨by simp [q9,hcl,gv],rfl⟩
  ·rintro ys H' ⟨rfl,rfl⟩ p hp
   rw [aa1,gW,ad4];refine⟨(),λb hb=>hu _ _ ⟨b,s1.free ((aq hp).free hb),⟨[p],ae,rfl,λi q r e1 e2=>?_⟩,rfl,(s1.upd hp).upd hb⟩⟩;obtain⟨_,rfl⟩:=AL e1;obtain⟨_,rfl⟩:=AL e2;exact⟨s1.free hp,(aq hb) _ _ ae⟩
 rintro Ω ω _ H1 ⟨bw,hbw,R1,rfl,s1⟩;refine ω _ _ (aV (λZ H'=>∃o3 o4 o5:Option V,xf H H' bw ((List.range (pats.length+1)).map λ(k:Nat)=>ee Ss (aQ bs) pp met (pats.drop (pats.length - k)))/\Z=[↑x,↑pt,some pv,↑bw,o3,o4,o5]/\ar H H') ?_ ?_)
 ·intro u' hu
  tm_at "r";obtain⟨Pv,hPv⟩:∃Pv:Nat->L2.St->Hp->Prop,Pv=λi Z H'=>∃o3 o4 o5:Option V,xf H H' bw ((List.range (i+1)).map λ(k:Nat)=>ee Ss (aQ bs) pp met (pats.drop (pats.length - k)))/\Z=[↑x,↑pt,some pv,↑bw,o3,o4,o5]/\ar H H':=⟨_,rfl⟩;refine⟨_,aF.of (s1 _ _ hgs),Ar (xs:=gs.map V.ref) Pv (by rw [hPv];exact⟨none,none,none,by simpa using R1,rfl,s1⟩) (λi Z H' _ h=>by rw [hPv]at h;obtain⟨_,_,_,_,_,h⟩:=h;exact aF.of (h _ _ hgs)) ?_ ?_⟩
  ·rintro i y Z H2 hy hI
   rw [hPv]at hI;obtain⟨o3,o4,o5,R2,rfl,s2⟩:=hI
   have hi:i < pats.length:=by
    have:=(aa3.mp hy).1
    rw [ak8,aa1]at this;omega
   rw [aj4 (by rw [aa1];omega),aa1,aa5,gl]at hy
   cases hgi:gs[pats.length - 1 - i]? with
   | none=>rw [hgi]at hy;cases hy
   | some g=>
    rw [hgi]at hy;cases hy;obtain⟨ws,hws⟩:∃ws,pats[pats.length - 1 - i]?=some ws:=⟨_,aa2 ()⟩;obtain⟨hgt,hwl⟩:=hg _ g ws hgi hws
    have ed:pats.drop (pats.length - (i+1))=ws::pats.drop (pats.length - i):=by
     rw [show pats.length - (i+1)=pats.length - 1 - i by omega,ak7 (),show pats.length - 1 - i+1=pats.length - i by omega];rw [aa2 ()]at hws;rw [Option.some.inj hws]
    tm_at "r";refine⟨x,g,pv,bs,Ss,met,ws,pp,rfl,MX.same s2,cT.of (s2 _ _ hgt),hwl,MC.lb,MC.wd,MC.cn,hP.same s2,λtk xs H3 htk D3 hxs s3=>?_⟩;obtain⟨qs,hb3,ql,hq3⟩:=R2.same s3
    have ql1:qs.length=i+1:=by rw [ql];simp
    obtain⟨lt,hlt⟩:∃lt,qs[i]?=some lt:=⟨_,aa2 ()⟩;have hlt3:=(hq3 i lt (ee Ss (aQ bs) pp met (pats.drop (pats.length - i))) hlt (by simp)).2;have s23:=s2.trans s3;tm_at "r";refine aR (aF.of hb3) (lq (n:=i) (by rw [aa1,ql1]) (by rw [aa5,hlt];rfl)) ?_;obtain⟨dx,la,wa,sc,hx,MB⟩:=(MX.same s23).at_;refine⟨.inl ⟨rfl,_,aF.of hb3⟩,C,dx,_,hx,by unfold bD;tm_at "f",_,_,M_states,x,Ss,aQ bs,met,rfl,(MX.same s23).at_,ml,λl H4 hl0 hl s4=>bJ (aF.of hl) (cu (xs:=(L2.intsFrom 0 met.length).map V.int) (λj ys H'=>ys=((met.take j).map (q9 Ss (aQ bs) pp (ws::pats.drop (pats.length - i)))).map gv/\ar H4 H') (by rw [aa1,gW];omega) ⟨rfl,ar.refl _⟩ ?_ ?_ ?_ ?_)⟩
    ·rintro j ys H' ⟨rfl,sm⟩
     rw [aa1,aa1,ad1];omega
    ·rintro j ys H' ⟨rfl,sm⟩
     exact sm.seq (aF.of hl)
    ·rintro j y ys H5 hy ⟨rfl,s5⟩
     obtain⟨hj,rfl⟩:=xq hy;obtain⟨st,hst⟩:∃st,met[j]?=some st:=⟨_,aa2 hj⟩;have s35:=s4.trans s5;simp only [e7];tm_at "r";refine⟨C,dx,_,s35 _ _ hx,by unfold bD;tm_at "f",_,_,M_ways,x,Ss,aQ bs,met,j,st,rfl,(MX.same (s23.trans s35)).at_,hst,λyw L H6 _ hW6 W s6=>?_⟩
     have hLl:L.length<=1000:=by
      have h2:=congrArg List.length W.ks;have h3:=List.length_filter_le (λc=>(cC Ss st c).isSome) (aQ bs);rw [aa1]at h2;omega
     refine⟨yw,tk,lt,L,xs,ee Ss (aQ bs) pp met (pats.drop (pats.length - i)),λc=>eF c ws pp c.length,rfl,hW6,hLl,D3.same (s35.trans s6),λe he=>hxs e.1 (W.mem e he),(s35.trans s6) _ _ hlt3,λe he=>?_,λH7 s7=>⟨?_,(s5.trans s6).trans s7⟩⟩
     ·obtain⟨s',_,h2⟩:=W.to e he
      unfold ee;rw [aa1];exact(aa3.mp h2).1
     ·rw [AX W,ac5,hst,ab7,ab7]
      rfl
    ·rintro ys H5 ⟨rfl,s5⟩ p hp
     rw [aa1,gW,ad4];have s35:=s4.trans s5;have R5:xf H (upd H5 p (.lst ((met.map (q9 Ss (aQ bs) pp (ws::pats.drop (pats.length - i)))).map gv))) bw ((List.range (i+1)).map λ(k:Nat)=>ee Ss (aQ bs) pp met (pats.drop (pats.length - k))):=(R2.same (s3.trans s35)).same (aq hp)
     have hbp:p≠bw:=λe=>by
      have:=s35 _ _ hb3
      rw [<-e,hp]at this;cases this
     obtain⟨zs,g1,g2,g3⟩:=R5.put (r:=met.map (q9 Ss (aQ bs) pp (ws::pats.drop (pats.length - i)))) (s23.free (s35.free hp)) ae hbp;refine⟨bw,zs,_,rfl,rfl,g1,by rw [g2];simp;omega,?_⟩;rw [hPv];refine⟨_,_,_,?_,rfl,BI hbw ((s23.trans s35).upd hp)⟩;rw [List.range_succ,ab7,ad5,aj1,ed];exact g3
  ·rintro Z H3 hI
   rw [hPv]at hI;obtain⟨o3,o4,o5,R2,rfl,s2⟩:=hI;rw [aa1,gl]at R2;exact hu _ _ ⟨o3,o4,o5,R2,rfl,s2⟩
 rintro Ω ω _ H2 ⟨o3,o4,o5,⟨qs,hb2,ql,hq2⟩,rfl,s2⟩;refine ω _ _ ?_;tm_at "r"
 have ql1:qs.length=pats.length+1:=by rw [ql];simp
 refine⟨_,aF.of hb2,λl hl=>k l _ (s2.free hl) ⟨qs.reverse,by rw [ae,List.map_reverse],by rw [ak8,ql];simp,λi q r e1 e2=>?_⟩ (s2.upd hl)⟩
 have hi:i < pats.length+1:=by
  have:=(aa3.mp e1).1
  rw [ak8]at this;omega
 rw [aj4 (),ql1]at e1;rw [aa5,ag1 hi]at e2;cases e2
 have:=hq2 (pats.length+1 - 1 - i) q (ee Ss (aQ bs) pp met (pats.drop i)) e1 (by
  rw [aa5,ag1 ()];show some (ee Ss (aQ bs) pp met (pats.drop (pats.length - (pats.length+1 - 1 - i))))=_
  rw [show pats.length - (pats.length+1 - 1 - i)=i by omega])
 exact⟨this.1,(aq hl) _ _ this.2⟩
def rA(K:Frag):Sp:=λvs H Q _=>∃(a:Addr) (xs:List Int) (n:Nat),vs=[.ref a,.int n]/\aF K H a (xs.map V.int)/\(∀x∈xs,x.natAbs < 2 ^ GB)/\n<=100/\(∀H',ar H H'->Q .non H')/\∀(c:Addr) (ps:List Int) H',H' c=some (.lst (ps.map V.int))->ps.length=n->H c=none->ar H H'->Q (.ref c) H'
theorem vM(F:cc K "_law_prices" "_law_prices" iB f fd)(T:Txt mg aM)(D_law_got: ~~~cN "_law_got" 3 ["_law_script","_law_place"] (rz K)): ~~~aG bV 4 f fd ["_law_script","_law_voices"] (rA K):=by
 refine F.ok sc_law_prices λ_ A _ s H vs Q E hr h=>?_;obtain⟨a,xs,n,rfl,ha,hx,hn,k1,k2⟩:=h
 refine⟨rfl,_,(af (cW (i:=2) sc_law_prices.nd (aA (ko) ⋯ T.n_abs boot_abs (aa (az D_law_got hr ⋯ (aa (pr 0) (aa ah ag))) ag)))
 (af (aS (aX (ax mD (au (o1 bF) (pr 2) ah) ah (ay _))) (ai (av aH)) aB)
 (af (cW (i:=3) sc_law_prices.nd (bu ag))
 (af (cW (i:=4) sc_law_prices.nd (au (o1 bP) (pr 2) ah))
 (af (bW PassesOwn.never rfl (c8 rfl T.n_range (aa (pr 1) ag)) (gd (i:=5) sc_law_prices.nd)
 (af (gx (aA (rZ) ⋯ T.n_divmod boot_divmod (aa (pr 4) (aa (aD (aW K) (bu (aa ah (aa (au (o1 jJ) ah ah) ag))) (au (o1 bF) (pr 2) ah) (λ_ _=>rfl)) ag))) (cR K (n:=2) rfl (aO (gd (i:=4) sc_law_prices.nd) (aO (gd (i:=6) sc_law_prices.nd) cS))))
 (af (aS (aX (ax mD (au (o1 bF) (pr 2) ah) ah (ay _))) (ai (cW (i:=6) sc_law_prices.nd (au (o1 bF) (au (ib K) (au (o1 bP) (pr 2) (au (bL K) ah (au (ib K) ah (pr 5)))) (au (bL K) (au (ib K) ah (au (o1 jJ) ah ah)) ah)) (au (o1 jJ) ah ah)))) aB)
 (ai (bq (bQ K PySem.F.plainAttrs_list PySem.F.slot_list_append PySem.F.type_list_append bT (pr 3) (aa (pr 6) ag)))))))
 (ai (av (pr 3)))))))),?_⟩
 have hs:=sizeLine_eq;refine aV (λZ H'=>∃c:Int,0<=c/\c.natAbs < 2 ^ (GB+200)/\Z=[↑a,⇑n,⇑c,none,none,none,none]/\ar H H') ?_ ?_
 ·intro u' hu
  tm_at "r";have g0:=GM.gotF_nn xs 13;have gB:=GM.gotF_lt (p:=13) hx;refine⟨a,xs,13,rfl,ha,hx,∅,∅,λH1 sm=>⟨_,rfl,?_⟩⟩;rw [if_neg ()];exact hu _ _ ⟨_,g0,gB,rfl,sm⟩
 rintro Ω ω _ H1 ⟨c,hc,hcB,rfl,s1⟩;refine ω _ _ ?_;refine iJ λRk rk=>?_;tm_at "r";refine⟨∅,?_⟩
 by_cases h4:c % 4=0
 ·rw [if_pos h4]
  exact k1 _ s1
 rw [if_neg h4];refine rk _ _ ?_;clear rk Rk;tm_at "r";refine⟨(),λp hp=>⟨⟨∅,∅⟩,(),(),de (λi Z H'=>∃(ps:List Int) (r:Int) (o5 o6:Option V),ps.length=i/\H' p=some (.lst (ps.map V.int))/\Z=[↑a,⇑n,⇑c,↑p,⇑r,o5,o6]/\ar H H') ⟨[],_,none,none,rfl,ae,rfl,s1.upd hp⟩ ?_ ?_⟩⟩
 ·rintro i Z H2 hi ⟨ps,r,o5,o6,pl,hp2,rfl,s2⟩
  refine iJ λRk rk=>?_;tm_at "r";refine⟨⟨∅,∅,∅⟩,(),λq hq=>⟨∅,sS (aF.of ae) () (by simp;omega) λz hz _=>?_⟩⟩
  obtain⟨d,rfl,d0,dB⟩:∃d:Int,z=.int d/\0 < d/\d.natAbs < 2 ^ 200:=by
   simp only [ab0,ad3,or_false]at hz
   rcases hz with rfl | rfl<;>exact⟨_,rfl,∅,∅⟩
  refine⟨d,rfl,d0,dB,λt ht=>⟨_,cT.of ae,rfl,_,_,rfl,_,_,rfl,rfl,rk _ _ ?_⟩⟩;tm_at "r";refine⟨∅,?_⟩;have s3:=(aq (o:=.lst [.int 10,.int (10 ^ Int.toNat 30)]) hq).upd (o:=.tup [.int (r / d),.int (r % d)]) ht;generalize upd (upd H2 q _) t _=H3 at s3;have hp3:=s3 _ _ hp2;have put:∀v:Int,xA (.ref p) [.int v] H3 λ_ H1=>∃ps:List Int,ps.length=i+1/\H1 p=some (.lst (ps.map V.int))/\ar H H1:=λv=>⟨p,_,_,rfl,rfl,hp3,by rw [aa1];omega,ps++[v],by rw [ab2,pl];rfl,by rw [ae,ab7];rfl,BI (s1.free hp) (s2.trans s3)⟩
  by_cases h3:c % 4=3
  ·rw [if_pos h3]
   have q0:=Int.ediv_nonneg hc (show 0<=4+5 * (i:Int)by omega);have q1:=Int.ediv_le_self (4+5 * (i:Int)) hc;exact⟨.of_left ∅,⟨(),()⟩,⟨∅,∅,∅⟩,.of_left ∅,IntMulOk.of_le (m:=GB+200) (n:=200) (intBits_le_iff.mpr (ab5 () hcB)) (intBits_le_iff.mpr ∅) ∅,⟨∅,∅,∅⟩,∅,.inl ⟨rfl,_,aF.of hp3⟩,put _⟩
  ·rw [if_neg h3]
   exact⟨.inl ⟨rfl,_,aF.of hp3⟩,put _⟩
 ·rintro Z H2 ⟨ps,r,o5,o6,pl,hp2,rfl,s2⟩
  tm_at "r";exact k2 _ _ _ hp2 () (s1.free hp) s2
def uX(K:Frag):Sp:=λvs H Q _=>∃(x:V) (n:Nat) (pr:Nat->Int),vs=[x,.int n]/\zk K H n x pr/\n<=100/\∀(c:Addr) (ps:List Int) H',H' c=some (.lst (ps.map V.int))->ps.length=n->H c=none->ar H H'->Q (.ref c) H'
def Bi:Sp:=λvs H Q _=>∃o:Option Int,vs=[gv o,gv o]/\Q (.bl true) H
def zx(H:Hp)(o:Addr)(cols:List (List Int))(cst:List Int->Int):Prop:=∃ts:List Addr,H o=some (.lst (ts.map V.ref))/\ts.length=cols.length/\∀(j:Nat) (t:Addr) (c:List Int),ts[j]?=some t->cols[j]?=some c->∃a,H t=some (.tup [.ref a,.int (cst c)])/\H a=some (.tup (c.map V.int))
def uW(P:Program)(w:World)(C:Addr):Sp:=λvs H Q _=>∃(x o l:Addr) (i:Nat) (Ss:List bU) (cols:List (List Int)) (met:List MS) (s:MS) (pr:Nat->Int) (g:List (Option Int)) (gs:List (List (Option Int))),vs=[.ref x,.int i,.ref o,.ref l]/\fN P w C Ss cols met x H/\met[i]?=some s/\(∀c∈cols,∀s',cC Ss s c=some s'->s'∈met)/\zx H o cols (λc=>eF c g pr c.length)/\H l=some (.lst ((ee Ss cols pr met gs).map gv))/\∀H',ar H H'->Q (gv (q9 Ss cols pr (g::gs) s)) H'
theorem yO(F:cc K "_law_others" "_law_others" iA f fd)(T:Txt mg aM): ~~~aG bV 1 f fd ["_law_prices_here","_law_voices"] (uX K):=by
 refine F.ok qC λ_ A _ s H vs Q E hr h=>?_;obtain⟨x,n,pp,rfl,hP,hn,k⟩:=h
 refine⟨rfl,_,(af (aS (aX (ax c7 (pr 0) aH (ay _))) (ai (av (cQ (own:=["_law_k"]) (js:=[]) rfl (c8 rfl T.n_range (aa (pr 1) ag)) (bG.of ⋯) (λ_ _ _ _ _=>(bN (i:=0) (show List.Nodup (["_law_k"]:List Str)from by decide +kernel) rfl (Or.inl rfl))) (λ_ _ _ _ _=>cI) (λ_ _ _ _ _=>(au (bL K) ah (pr 0)))))) aB)
 (ai (av (cQ (own:=["_law_k"]) (js:=[0,1]) rfl (c8 rfl T.n_range (aa (pr 1) ag)) (bG.of ⋯) (λ_ _ _ _ _=>(bN (i:=0) (show List.Nodup (["_law_k","_law_prices_here","_law_voices"]:List Str)from by decide +kernel) rfl (Or.inl rfl))) (λ_ _ _ _ _=>cI) (λ_ _ _ _ _=>(au (bL K) (aD (aW K) (pr 1) (au (o0 cJ) (au (o0 cJ) (pr 2) ah) (pr 0)) (λ_ _=>rfl)) ah)))))),?_⟩
 have hs:=sizeLine_eq;tm_at "r";rcases hP with⟨rfl,rfl⟩ | ⟨c,ps,rfl,hc,lp,rfl⟩
 ·rw [if_pos rfl]
  refine⟨(),(),e8 (λi ys H'=>∃ps:List Int,ys=ps.map V.int/\ps.length=i/\H=H') () ⟨[],rfl,rfl,rfl⟩ (λi ys H' h=>by obtain⟨_,rfl,rfl,_⟩:=h;rw [aa1];exact aa7 _) ?_ ?_⟩
  ·rintro i ys H' hi ⟨ps,rfl,rfl,rfl⟩
   tm_at "r";exact⟨ps++[_],by rw [ab7];rfl,by rw [ab2];rfl⟩
  ·rintro ys H' ⟨ps,rfl,pl,rfl⟩ p hp
   exact k p ps _ ae () hp (aq hp)
 ·rw [if_neg (λe=>by cases e)]
  refine⟨(),(),e8 (λi ys H'=>∃ps:List Int,ys=ps.map V.int/\ps.length=i/\H=H') () ⟨[],rfl,rfl,rfl⟩ (λi ys H' h=>by obtain⟨_,rfl,rfl,_⟩:=h;rw [aa1];exact aa7 _) ?_ ?_⟩
  ·rintro i ys H' hi ⟨qs,rfl,rfl,rfl⟩
   tm_at "r";refine sS hc () (by rw [aa1];omega) λv hv _=>?_;obtain⟨m,_,rfl⟩:=ac4.mp hv;tm_at "r";exact⟨qs++[_],by rw [ab7];rfl,by rw [ab2];rfl⟩
  ·rintro ys H' ⟨qs,rfl,pl,rfl⟩ p hp
   exact k p qs _ ae () hp (aq hp)
theorem CK(F:cc K "_law_like" "_law_like" jR f fd)(T:Txt mg aM): ~~~aG bV 1 f fd ["_law_found","_law_due"] Bi:=by
 refine F.ok uS λ_ A _ s H vs Q E hr h=>?_;obtain⟨o,rfl,k⟩:=h
 refine⟨rfl,_,(af (aS (aX (ax c7 (pr 1) aH (ay _))) (ai (av (fH c7 (pr 0) aH (ay _)))) aB)
 (ai (av (DV (AO (aA (fF K) ⋯ T.n_isinstance boot_isinstance (aa (pr 0) (aa (nu (v:=.ty "int") ⋯ T.n_int boot_int rfl) ag))) (DV (AO (Gi (ER (aA (fF K) ⋯ T.n_isinstance boot_isinstance (aa (pr 0) (aa (nu (v:=.ty "bool") ⋯ T.n_bool boot_bool rfl) ag))))) (vV (fH mD (pr 0) (pr 1) (ay _)))))))))),?_⟩
 tm_at "r"
 cases o with
 | none=>
  rw [if_pos (show gv none=V.non from rfl)];exact k
 | some m=>
  rw [if_neg (λe=>by cases e)];refine⟨_,.int _,true,rfl,?_⟩;rw [if_pos rfl];refine⟨_,.int _,false,rfl,?_⟩;rw [if_pos rfl];exact rEq_ii.mpr (by rw [decide_eq_true rfl];exact k)
theorem yK(F:cc K "_law_least" "_law_least" jg f fd)(T:Txt mg aM)(TC:dF K C)(M_to: ~~~aC C "to" 2 ["self","state","column"] (Gu P w C)): ~~~aG bV 3 f fd ["_law_machine","_law_state","_law_offers","_law_late"] (uW P w C):=by
 refine F.ok sc_law_least λ_ A _ s H vs Q E hr h=>?_;obtain⟨x,o,l,i,Ss,cols,met,st,pp,g,gs,rfl,MA,hst,hcl,⟨ts,ho,tl,ht⟩,hl,k⟩:=h
 refine⟨rfl,_,(af (cW (i:=4) sc_law_least.nd aH)
 (af (bW PassesOwn.never rfl (bI K (pr 2)) (cR K (n:=2) rfl (aO (gd (i:=5) sc_law_least.nd) (aO (gd (i:=6) sc_law_least.nd) cS)))
 (af (cW (i:=7) sc_law_least.nd (~~~fc hr (pr 0) (aa (pr 1) (aa (pr 5) ag))))
 (af (aS (PW.pt (cA (aX (ax c7 (pr 7) aH (ay _))) (cv (aX (ax c7 (aD (aW K) (pr 3) (pr 7) (λ_ _=>rfl)) aH (ay _)))))) (ai mE) aB)
 (ai (aS (PW.pt (cA (aX (ax c7 (pr 4) aH (ay _))) (cv (aX (ax (o0 kF) (au (bL K) (pr 6) (aD (aW K) (pr 3) (pr 7) (λ_ _=>rfl))) (pr 4) (ay _)))))) (ai (cW (i:=4) sc_law_least.nd (au (bL K) (pr 6) (aD (aW K) (pr 3) (pr 7) (λ_ _=>rfl))))) aB)))))
 (ai (av (pr 4))))),?_⟩
 have hs:=sizeLine_eq
 obtain⟨ff,hff⟩:∃ff:List Int->Option Int,ff=λc=>match cC Ss st c with | some s'=>(q9 Ss cols pp gs s').map (eF c g pp c.length + ·) | none=>none:=⟨_,rfl⟩
 have ek:q9 Ss cols pp (g::gs) st=(cols.filterMap ff).min?:=by rw [hff];rfl
 obtain⟨Pv,hPv⟩:∃Pv:Nat->L2.St->Hp->Prop,Pv=λj Z H'=>∃o5 o6 o7:Option V,Z=[↑x,⇑i,↑o,↑l,some (gv ((cols.take j).filterMap ff).min?),o5,o6,o7]/\H=H':=⟨_,rfl⟩;tm_at "r";refine bJ (aF.of ho) (cq (xs:=ts.map V.ref) Pv (by rw [hPv];exact⟨none,none,none,rfl,rfl⟩) (λj Z H' _ h=>by rw [hPv]at h;obtain⟨_,_,_,_,rfl⟩:=h;exact aF.of ho) ?_ ?_)
 ·intro j y Z H' hy hI
  rw [hPv]at hI;obtain⟨o5,o6,o7,rfl,rfl⟩:=hI;rw [aa5]at hy
  cases htj:ts[j]? with
  | none=>rw [htj]at hy;cases hy
  | some tt=>
   rw [htj]at hy;cases hy;obtain⟨c,hcj⟩:∃c,cols[j]?=some c:=⟨_,aa2 (by rw [<-tl];exact(aa3.mp htj).1)⟩;obtain⟨a,h1,h2⟩:=ht j tt c htj hcj;have hm:=ab8 hcj
   have et:cols.take (j+1)=cols.take j++[c]:=by rw [ac5,hcj];rfl
   refine C1 λB hB=>?_;tm_at "r";obtain⟨dx,la,wa,sc,hx,_⟩:=id MA;refine⟨_,cT.of h1,rfl,_,_,rfl,_,_,rfl,rfl,hB _ _ (iJ λRk rk=>?_)⟩;tm_at "r";refine⟨C,dx,_,hx,by unfold bD;tm_at "f",_,_,M_to,x,a,Ss,cols,met,i,c,st,rfl,MA,hst,h2,λm s' _ hn hm'=>rk _ _ (iJ λRj rj=>?_),λhn=>rk _ _ (iJ λRj rj=>?_)⟩
   ·tm_at "r"
    have xl:((ee Ss cols pp met gs).map gv)[m]?=some (gv (q9 Ss cols pp gs s')):=by rw [aa5,ee,aa5,hm'];rfl
    have ec:ff c=(q9 Ss cols pp gs s').map (eF c g pp c.length + ·):=by rw [hff];simp only [hn]
    refine aR (aF.of hl) (aE xl) ?_
    cases hv:q9 Ss cols pp gs s' with
    | none=>
     rw [hv]at ec;rw [if_pos (show gv none=V.non from rfl),hPv]
     have e0:(cols.take (j+1)).filterMap ff=(cols.take j).filterMap ff:=by rw [et,aj5,af4,ec];simp
     rw [<-e0];exact⟨_,_,_,rfl,rfl⟩
    | some v=>
     rw [hv]at ec xl
     have put:∀o7,Pv (j+1) [↑x,⇑i,↑o,↑l,some (.int (match ((cols.take j).filterMap ff).min? with | none=>eF c g pp c.length+v | some m=>if eF c g pp c.length+v < m then eF c g pp c.length+v else m)),↑a,⇑(eF c g pp c.length),o7] H:=λo7=>by
      have e0:(cols.take (j+1)).filterMap ff=(cols.take j).filterMap ff++[eF c g pp c.length+v]:=by rw [et,aj5,af4,ec];rfl
      rw [hPv];exact⟨_,_,_,by rw [e0,Av];rfl,rfl⟩
     rw [if_neg (λe=>by cases e)];refine rj _ _ ?_;tm_at "r"
     cases hb:((cols.take j).filterMap ff).min? with
     | none=>
      rw [hb]at put;rw [if_pos (show gv none=V.non from rfl)];exact aR (aF.of hl) (aE xl) (rAddA_ii.mpr (put _))
     | some b=>
      rw [hb]at put;rw [if_neg (λe=>by cases e)];refine aR (aF.of hl) (aE xl) (rAddA_ii.mpr ⟨_,rfl,_,rfl,?_⟩)
      by_cases hlt:eF c g pp c.length+v < b
      ·rw [if_pos hlt]
       simp only [if_pos hlt]at put;exact aR (aF.of hl) (aE xl) (rAddA_ii.mpr (put _))
      ·rw [if_neg hlt]
       simp only [if_neg hlt]at put;exact put _
   ·tm_at "r"
    rw [hPv]
    have e0:(cols.take (j+1)).filterMap ff=(cols.take j).filterMap ff:=by rw [et,aj5,af4,show ff c=none by rw [hff];simp only [hn hm]];simp
    rw [<-e0];exact⟨_,_,_,rfl,rfl⟩
 ·intro Z H' hI
  rw [hPv]at hI;obtain⟨o5,o6,o7,rfl,rfl⟩:=hI;tm_at "r";rw [tl,ad4,<-ek];exact k _ (ar.refl _)
inductive kR(P:Program)(w:World)(K:Frag)(C:Addr):Sp
 | mk {vs:List V} {H:Hp} {Q:VK} {E:XK} (x p pt ev:Addr) (pv:V) (n:Nat) (Ss:List bU) (cols:List (List Int)) (met:List MS) (gs:List Addr) (pats:List (List (Option Int))) (pr:Nat->Int) (H0:Hp):vs=[.ref x,.ref p,.ref pt,.ref ev,pv]->fN P w C Ss cols met x H->(∀(s:MS),s∈met->∀c∈cols,∀s',cC Ss s c=some s'->s'∈met)->met.length<=1000->xf H0 H p ((List.range (pats.length+1)).map λ(i:Nat)=>ee Ss cols pr met (pats.drop i))->jy H pt n gs pats->pats.length<=1000->gR H ev cols->(∀c∈cols,c.length=n)->n<=100->cols.length<=1000->zk K H n pv pr->(∀H',ar H H'->Q (.bl true) H')->kR P w K C vs H Q E
theorem yL(F:cc K "_law_paper" "_law_paper" jh f fd)(T:Txt mg aM)(TC:dF K C)(M_size: ~~~aC C "size" 4 ["self"] (xG P w C))(M_ends: ~~~aC C "ends" 4 ["self","state"] (tE P w C))(D_law_like: ~~~cN "_law_like" 4 ["_law_found","_law_due"] Bi)(D_law_price: ~~~cN "_law_price" 4 ["_law_column","_law_given","_law_prices_here"] (iF K))(D_law_least: ~~~cN "_law_least" 4 ["_law_machine","_law_state","_law_offers","_law_late"] (uW P w C)): ~~~aG bV 5 f fd ["_law_machine","_law_paper_here","_law_pattern_here","_law_every","_law_prices_here"] (kR P w K C):=by
 refine F.ok sc_law_paper λ_ A _ s H vs Q E hr h=>?_;obtain⟨x,p,pt,ev,pv,n,Ss,cols,met,gs,pats,pp,H0,rfl,MA,hcl,ml,⟨qs,hp,ql,hq⟩,⟨hpt,gl,hg⟩,pl,⟨cs,hev,hT⟩,hw,hn,cl,hP,k⟩:=h
 refine⟨rfl,_,(af (aS (PW.pt (cA (bX (aZ (aA (fF K) ⋯ T.n_isinstance boot_isinstance (aa (pr 1) (aa (nu (v:=.ty "list") ⋯ T.n_list boot_list rfl) ag))) (λ_=>rfl))) (cv (aX (ax yI (aA (aJ K) ⋯ T.n_len boot_len (aa (pr 1) ag)) (au (bL K) (aA (aJ K) ⋯ T.n_len boot_len (aa (pr 2) ag)) ah) (ay _)))))) (ai (av iK)) aB)
 (af (bW PassesOwn.never rfl (bI K (pr 1)) (gd (i:=5) sc_law_paper.nd)
 (ai (aS (PW.pt (cA (bX (aZ (aA (fF K) ⋯ T.n_isinstance boot_isinstance (aa (pr 5) (aa (nu (v:=.ty "list") ⋯ T.n_list boot_list rfl) ag))) (λ_=>rfl))) (cv (aX (ax yI (aA (aJ K) ⋯ T.n_len boot_len (aa (pr 5) ag)) (~~~dX hr (pr 0)) (ay _)))))) (ai (av iK)) aB)))
 (af (bW PassesOwn.never rfl (c8 rfl T.n_range (aa (~~~dX hr (pr 0)) ag)) (gd (i:=6) sc_law_paper.nd)
 (ai (aS (bX (aZ (az D_law_like hr ⋯ (aa (aD (aW K) (aD (aW K) (pr 1) (AV (u1 w4) ah) (λ_ _=>rfl)) (pr 6) (λ_ _=>rfl)) (aa (aD (aW K) (bu (aa aH (aa ah ag))) (bo (fK) ⋯ T.n_int boot_int (aa (~~~fc hr (pr 0) (aa (pr 6) ag)) ag)) (λ_ _=>rfl)) ag))) (λ_=>rfl))) (ai (av iK)) aB)))
 (af (bW PassesOwn.never rfl (c8 rfl T.n_range (aa (aA (aJ K) ⋯ T.n_len boot_len (aa (pr 2) ag)) ag)) (bN (i:=7) sc_law_paper.nd rfl (Or.inr rfl))
 (af (oE (i:=8) sc_law_paper.nd rfl (Or.inl rfl) (own:=["_law_column"]) (js:=[2,4,7]) rfl (bI K (pr 3)) (bG.of ⋯) (λ_ _ _ _ _=>(bN (i:=0) (show List.Nodup (["_law_column","_law_pattern_here","_law_prices_here","_law_place"]:List Str)from by decide +kernel) rfl (Or.inl rfl))) (λ_ _ _ _ _=>cI) (λ_ _ _ _ _=>(gw (aa (pr 0) (aa (az D_law_price hr ⋯ (aa (pr 0) (aa (aD (aW K) (pr 1) (pr 3) (λ_ _=>rfl)) (aa (pr 2) ag)))) ag)))) rfl)
 (ai (bW PassesOwn.never rfl (c8 rfl T.n_range (aa (~~~dX hr (pr 0)) ag)) (gd (i:=6) sc_law_paper.nd)
 (af (cW (i:=9) sc_law_paper.nd (az D_law_least hr ⋯ (aa (pr 0) (aa (pr 6) (aa (pr 8) (aa (aD (aW K) (pr 1) (au (bL K) (pr 7) ah) (λ_ _=>rfl)) ag))))))
 (ai (aS (bX (aZ (az D_law_like hr ⋯ (aa (aD (aW K) (aD (aW K) (pr 1) (pr 7) (λ_ _=>rfl)) (pr 6) (λ_ _=>rfl)) (aa (pr 9) ag))) (λ_=>rfl))) (ai (av iK)) aB)))))))
 (ai (av iK)))))),?_⟩
 have hs:=sizeLine_eq;obtain⟨dx,la,wa,sc,hx,_⟩:=id MA
 have qln:qs.length=pats.length+1:=by rw [ql];simp
 have row:∀i,i<=pats.length->∃q,qs[i]?=some q/\H q=some (.lst ((ee Ss cols pp met (pats.drop i)).map gv)):=λi hi=>by
  obtain⟨q,e⟩:∃q,qs[i]?=some q:=⟨_,aa2 ()⟩;exact⟨q,e,(hq i q _ e (by rw [aa5,ag1 ()];rfl)).2⟩
 have rat:∀gs (j:Nat) s,met[j]?=some s->((ee Ss cols pp met gs).map gv)[j]?=some (gv (q9 Ss cols pp gs s)):=λgs j s e=>by
  rw [aa5,ee,aa5,e];rfl
 refine aV (λZ H'=>Z=[↑x,↑p,↑pt,↑ev,some pv,none,none,none,none,none]/\H=H') ?_ ?_
 ·intro u' hu
  tm_at "r";refine⟨_,.lst hp,true,rfl,?_⟩;rw [if_neg ∅];refine⟨_,.inl (aF.of hp),_,.inl (aF.of hpt),?_⟩;rw [if_pos (by rw [aa1,aa1];omega)];exact hu _ _ ⟨rfl,rfl⟩
 rintro Ω ω _ _ ⟨rfl,rfl⟩;refine ω _ _ (aV (λZ H'=>∃o5:Option V,Z=[↑x,↑p,↑pt,↑ev,some pv,o5,none,none,none,none]/\H=H') ?_ ?_)
 ·intro u' hu
  tm_at "r";refine bJ (aF.of hp) (cq (xs:=qs.map V.ref) (λi Z H'=>∃o5:Option V,Z=[↑x,↑p,↑pt,↑ev,some pv,o5,none,none,none,none]/\H=H') ⟨none,rfl,rfl⟩ (λi Z H' _ h=>by obtain⟨_,_,rfl⟩:=h;exact aF.of hp) ?_ λZ H' h=>hu _ _ h);rintro i y Z H' hy ⟨o5,rfl,rfl⟩
  have hi:i < qs.length:=by
   have:=(aa3.mp hy).1
   rw [aa1]at this;exact this
  obtain⟨q,e1,e2⟩:=row i ();rw [aa5,e1]at hy;cases hy;tm_at "r";refine⟨_,.lst e2,true,rfl,?_⟩;rw [if_neg ∅];refine⟨_,.inl (aF.of e2),C,dx,_,hx,by unfold bD;tm_at "f",_,_,M_size,x,Ss,cols,met,rfl,MA,?_⟩;dsimp only;refine rNe_ii.mpr ⟨_,rfl,?_⟩;rw [if_neg (by simp [ee])]
 rintro Ω ω _ _ ⟨o5,rfl,rfl⟩;refine ω _ _ (aV (λZ H'=>∃o6:Option V,Z=[↑x,↑p,↑pt,↑ev,some pv,o5,o6,none,none,none]/\ar H H') ?_ ?_)
 ·intro u' hu
  tm_at "r";refine⟨C,dx,_,hx,by unfold bD;tm_at "f",_,_,M_size,x,Ss,cols,met,rfl,MA,_,rfl,(),(),de (λi Z H'=>∃o6:Option V,Z=[↑x,↑p,↑pt,↑ev,some pv,o5,o6,none,none,none]/\ar H H') ⟨none,rfl,ar.refl _⟩ ?_ λZ H' h=>hu _ _ h⟩;rintro i Z H1 hi ⟨o6,rfl,s1⟩;obtain⟨st,hst⟩:∃st,met[i]?=some st:=⟨_,aa2 ()⟩;obtain⟨q,e1,e2⟩:=row pats.length (aa7 _);tm_at "r";refine aR (aF.of (s1 _ _ hp)) (lq (n:=pats.length) (by rw [aa1,qln]) (by rw [aa5,e1];rfl)) (aR (aF.of (s1 _ _ e2)) (aE (rat _ i st hst)) ?_);refine⟨(),λt ht=>⟨C,dx,_,(s1.upd ht) _ _ hx,by unfold bD;tm_at "f",_,_,M_ends,x,Ss,cols,met,i,st,rfl,MA.same (s1.upd ht),hst,.inr (.inr ⟨_,rfl,?_⟩)⟩⟩;rw [List.drop_length];simp only [q9]
  cases dG Ss st.2 st.1 with
  | true=>exact aR (aF.of ae) (show fC _ (if true=true then 1 else 0)=some (V.int 0)from rfl) ⟨some 0,rfl,_,rfl,by rw [if_neg ∅];exact s1.upd ht⟩
  | false=>exact aR (aF.of ae) (show fC _ (if false=true then 1 else 0)=some V.non from rfl) ⟨none,rfl,_,rfl,by rw [if_neg ∅];exact s1.upd ht⟩
 rintro Ω ω _ H1 ⟨o6,rfl,s1⟩;refine ω _ _ (aV (λZ H'=>∃o6 o7 o8 o9:Option V,Z=[↑x,↑p,↑pt,↑ev,some pv,o5,o6,o7,o8,o9]/\ar H H') ?_ ?_)
 ·intro u' hu
  tm_at "r";refine⟨_,.inl (aF.of (s1 _ _ hpt)),by rw [aa1];omega,by rw [aa1];omega,?_⟩;rw [aa1];refine de (λi Z H'=>∃o6 o7 o8 o9:Option V,Z=[↑x,↑p,↑pt,↑ev,some pv,o5,o6,o7,o8,o9]/\ar H H') ⟨o6,none,none,none,rfl,s1⟩ ?_ λZ H' h=>hu _ _ h;clear s1 H1;rintro i Z H1 hi ⟨o6,o7,o8,o9,rfl,s1⟩
  have hi:i < pats.length:=by omega
  obtain⟨g,hgi⟩:∃g,gs[i]?=some g:=⟨_,aa2 ()⟩;obtain⟨ws,hwi⟩:∃ws,pats[i]?=some ws:=⟨_,aa2 hi⟩;obtain⟨hgt,hwl⟩:=hg i g ws hgi hwi
  have ed:pats.drop i=ws::pats.drop (i+1):=by
   rw [ak7 hi];rw [aa2 hi]at hwi;rw [Option.some.inj hwi]
  refine aV (λZ H'=>∃o:Addr,zx H' o cols (λc=>eF c ws pp c.length)/\Z=[↑x,↑p,↑pt,↑ev,some pv,o5,o6,⇑i,↑o,o9]/\ar H H') ?_ ?_
  ·intro u2 fE
   tm_at "r";refine bJ (aF.of (s1 _ _ hev)) (cu (xs:=cs.map V.ref) (λj ys H'=>∃ts:List Addr,ys=ts.map V.ref/\ts.length=j/\(∀(m:Nat) (t:Addr) (c:List Int),ts[m]?=some t->cols[m]?=some c->∃a,H' t=some (.tup [.ref a,.int (eF c ws pp c.length)])/\H' a=some (.tup (c.map V.int)))/\ar H H') (by rw [aa1,hT.1];omega) ⟨[],rfl,rfl,(λm t c e=>nomatch e),s1⟩ ?_ ?_ ?_ ?_)
   ·rintro j ys H' ⟨ts,rfl,rfl,_⟩
    rw [aa1];exact aa7 _
   ·rintro j ys H' ⟨ts,_,_,_,s'⟩
    exact aF.of (s' _ _ hev)
   ·rintro j y ys H2 hy ⟨ts,rfl,tl,ht,s2⟩
    rw [aa5]at hy
    cases hcj:cs[j]? with
    | none=>rw [hcj]at hy;cases hy
    | some ca=>
     rw [hcj]at hy;cases hy;obtain⟨c,hc⟩:∃c,cols[j]?=some c:=⟨_,aa2 (by rw [<-hT.1];exact(aa3.mp hcj).1)⟩;have hca:=s2 _ _ (hT.2 j ca c hcj hc);have cw:=hw c (ab8 hc);simp only [e7];tm_at "r";refine aR (aF.of (s2 _ _ hpt)) (aE (by rw [aa5,hgi];rfl)) ⟨ca,g,pv,c,ws,pp,rfl,cT.of hca,cT.of (s2 _ _ hgt),(),(),by rw [cw];exact hP.same s2,λH3 s3=>⟨(),λt ht'=>⟨ts++[t],by rw [ab7];rfl,by rw [ab2,tl];rfl,λm t' c' e1 e2=>?_,(s2.trans s3).upd ht'⟩⟩⟩
     by_cases hm:m < ts.length
     ·rw [ab1 hm]at e1
      obtain⟨a,h1,h2⟩:=ht m t' c' e1 e2;exact⟨a,(s3.upd ht') _ _ h1,(s3.upd ht') _ _ h2⟩
     ·rw [ab9 ()]at e1
      obtain⟨h0,rfl⟩:=AL e1;rw [show m=j by omega,hc]at e2;cases e2;exact⟨ca,ae,(s3.upd ht') _ _ hca⟩
   ·rintro ys H2 ⟨ts,rfl,tl,ht,s2⟩ q hq
    rw [aa1,hT.1]at tl;exact fE _ _ ⟨q,⟨ts,ae,tl,λm t c e1 e2=>let ⟨a,h1,h2⟩:=ht m t c e1 e2;⟨a,(aq hq) _ _ h1,(aq hq) _ _ h2⟩⟩,rfl,s2.upd hq⟩
  rintro Ω ω _ H2 ⟨o,hO,rfl,s2⟩;refine ω _ _ ?_;tm_at "r";refine⟨C,dx,_,s2 _ _ hx,by unfold bD;tm_at "f",_,_,M_size,x,Ss,cols,met,rfl,MA.same s2,_,rfl,(),(),de (λj Z H'=>∃o6 o9:Option V,Z=[↑x,↑p,↑pt,↑ev,some pv,o5,o6,⇑i,↑o,o9]/\ar H2 H') ⟨o6,o9,rfl,ar.refl _⟩ ?_ ?_⟩
  ·rintro j Z H3 hj ⟨o6,o9,rfl,s3⟩
   obtain⟨st,hst⟩:∃st,met[j]?=some st:=⟨_,aa2 ()⟩;have s23:=s2.trans s3;tm_at "r";obtain⟨q1,f1,f2⟩:=row (i+1) ();obtain⟨q0,g1,g2⟩:=row i ()
   have hO3:zx H3 o cols (λc=>eF c ws pp c.length):=let ⟨ts,h1,h2,h3⟩:=hO;⟨ts,s3 _ _ h1,h2,λm t c e1 e2=>let ⟨a,h1,h2⟩:=h3 m t c e1 e2;⟨a,s3 _ _ h1,s3 _ _ h2⟩⟩
   refine aR (aF.of (s23 _ _ hp)) (show fC _ (((i+1:Nat)):Int)=_ from aE (by rw [aa5,f1];rfl)) ⟨x,o,q1,j,Ss,cols,met,st,pp,ws,pats.drop (i+1),rfl,MA.same s23,hst,hcl st (ab8 hst),hO3,s23 _ _ f2,λH4 s4=>?_⟩;have s24:=s23.trans s4;exact aR (aF.of (s24 _ _ hp)) (aE (by rw [aa5,g1];rfl)) (aR (aF.of (s24 _ _ g2)) (aE (rat _ j st hst)) ⟨_,by rw [ed],_,rfl,by rw [if_neg ∅];exact s3.trans s4⟩)
  ·rintro Z H3 ⟨o6,o9,rfl,s3⟩
   exact⟨_,_,_,_,rfl,s2.trans s3⟩
 rintro Ω ω _ H2 ⟨o6,o7,o8,o9,rfl,s2⟩;refine ω _ _ ?_;tm_at "r";exact k _ s2
theorem Ao{c d:Nat}(hne:d≠c):∀ps:List (List Nat),(∀p∈ps,d∉p)->d∉dy c ps
 | [],_=>by simp [dy]
 | p::r,h=>by
  intro hd;rw [dy,ad2,List.mem_flatten]at hd;rcases hd with hd | ⟨l,hl,hd⟩
  ·exact h p (.head _) hd
  ·obtain⟨q,hq,rfl⟩:=ac4.mp hl
   rcases ab0.mp hd with e | e
   ·exact hne e
   ·exact h q (.tail _ hq) e
theorem kD(n:Int):10∉(ba n).cps.toList:=λh=>by
 have:=n8 n 10 h
 omega
theorem Ap(R:gc):10∉(cP R).cps.toList:=by
 cases R<;>(simp only [cP];decide +kernel)
theorem uk{ws:List Str}(h:∀z∈ws,10∉z.cps.toList):10∉(Txt.join (Str.ofString " ") ws).cps.toList:=by
 rw [show(Str.ofString " ")=⟨#[32]⟩by decide +kernel,dU];refine Ao ∅ _ λp hp=>?_;obtain⟨z,hz,rfl⟩:=ac4.mp hp;exact h z hz
theorem wV(R:bc):10∉(cY R).cps.toList:=by
 have one:∀R:gc,∀z∈cP R::(dq R).map ba,10∉z.cps.toList:=λR z hz=>by
  rcases ab0.mp hz with rfl | hz
  ·exact Ap R
  ·obtain⟨n,_,rfl⟩:=ac4.mp hz
   exact kD n
 cases R with
 | plain R=>exact uk (one R)
 | every m a R=>
  refine uk λz hz=>?_;rcases ab0.mp hz with rfl | hz
  ·decide +kernel
  rcases ab0.mp hz with rfl | hz
  ·exact kD m
  rcases ab0.mp hz with rfl | hz
  ·exact kD a
  exact one R z hz
theorem BJ(b:Int×Int):10∉(pF b).cps.toList:=by
 show 10∉((Str.ofString "voice ").cps++(ba b.1).cps++(Str.ofString " ").cps++(ba b.2).cps).toList;rw [ah4,ah4,ah4];intro h;rcases ad2.mp h with h | h
 ·rcases ad2.mp h with h | h
  ·rcases ad2.mp h with h | h
   ·exact absurd h (by decide +kernel)
   ·exact kD _ h
  ·exact absurd h (by decide +kernel)
 ·exact kD _ h
theorem wz{Rs:List bc}(h:1<=bs.length):Txt.split (j3 bs Rs) ⟨#[10]⟩=bs.map pF++Rs.map cY:=by
 have h:bs.map pF++Rs.map cY≠[]:=λe=>by
  rw [List.map_eq_nil_iff.mp (List.append_eq_nil_iff.mp e).1]at h;exact absurd h ∅
 unfold j3;rw [show(Str.ofString "\n")=⟨#[10]⟩by decide +kernel];refine mM ∅ h λz hz=>?_;rcases ad2.mp hz with hz | hz
 ·obtain⟨b,_,rfl⟩:=ac4.mp hz
  exact BJ b
 ·obtain⟨R,_,rfl⟩:=ac4.mp hz
  exact wV R
theorem BE{Rs:List bc}(b4:bs.length<=4)(r4:Rs.length<=12)(hb:∀b∈bs,b.1.natAbs < 10 ^ 40/\b.2.natAbs < 10 ^ 40)(hR:∀R∈Rs,vI R):(j3 bs Rs).length<=1000000:=by
 unfold j3;rw [aY,show(Str.ofString "\n")=⟨#[10]⟩by decide +kernel,dU]
 have hl:=ju 10 ((bs.map pF++Rs.map cY).map λz=>z.cps.toList) 10000 (λp hp=>by
  obtain⟨z,hz,rfl⟩:=ac4.mp hp;rw [<-aY];rcases ad2.mp hz with hz | hz
  ·obtain⟨b,hb',rfl⟩:=ac4.mp hz
   exact(tL (hb b hb').1 (hb b hb').2).len
  ·obtain⟨R,hR',rfl⟩:=ac4.mp hz
   exact(iG R (hR R hR')).1)
 simp only [aa1,ab2]at hl;omega
theorem sf{x:Int}{i:Int}(h:x∈L2.intsFrom i n):i<=x/\x < i+n:=by
 obtain⟨j,hj,rfl⟩:=ac4.mp h
 have:=ah9.mp hj
 omega
def jB:List bc->List Int->Prop
 | [],[]=>True
 | R::Rs,m::ms=>(0<=m/\m < eS R)/\jB Rs ms
 | _,_=>False
def kz:List bc->List (List Int)
 | []=>[[]]
 | R::Rs=>(L2.intsFrom 0 (eS R).toNat).flatMap λm=>(kz Rs).map (m::·)
theorem nY:∀{Rs:List bc} {ms:List Int},jB Rs ms->ms∈kz Rs
 | [],[],_=>.head _
 | [],_::_,h=>h.elim
 | _::_,[],h=>h.elim
 | R::Rs,m::ms,⟨⟨h1,h2⟩,h3⟩=>by
  refine ai9.mpr ⟨m,?_,ac4.mpr ⟨ms,nY h3,rfl⟩⟩;unfold L2.intsFrom;exact ac4.mpr ⟨m.toNat,ah9.mpr (),()⟩
theorem ua:∀{Rs:List bc} {ms:List Int},ms∈kz Rs->jB Rs ms
 | [],ms,h=>by
  rw [ac3.mp h];trivial
 | R::Rs,ms,h=>by
  obtain⟨m,hm,h⟩:=ai9.mp h;obtain⟨ms',h',rfl⟩:=ac4.mp h
  have:=sf hm
  exact⟨(),ua h'⟩
theorem nV(f:α->List β)(n:Nat):∀l:List α,(∀a,(f a).length=n)->(l.flatMap f).length=l.length * n
 | [],_=>(Nat.zero_mul _).symm
 | a::l,h=>by
  rw [ao3,ab2,h,nV f n l h,ac7,al2,Nat.add_comm]
theorem lI:∀(Rs:List bc) (a:Int),(∀R∈Rs,1<=eS R)->Rs.foldl (λt R=>t * eS R) a=a * ((kz Rs).length:Int)
 | [],a,_=>(aq0 a).symm
 | R::Rs,a,h=>by
  rw [af5,lI Rs _ λR' h'=>h R' (.tail _ h')];have h1:=h R (.head _)
  show _=a * ((((L2.intsFrom 0 (eS R).toNat).flatMap λm=>(kz Rs).map (m::·)).length:Nat):Int)
  rw [nV _ (kz Rs).length _ λm=>aa1 ..,gW,an3,Int.toNat_of_nonneg (),Int.mul_assoc]
theorem zA{R:bc}{m':Int}{b:Option (List Int)}{us:List Int}(hg:iY nv R)(h:0<=m/\m < eS R)(e:(cj R).after m b us=some m'):0<=m'/\m' < eS R:=by
 cases R with
 | plain R=>
  cases R<;>simp only [cj,uV,fJ,eu,gq,fe,dS,eX,c9,fg,gb]at e
  case back=>(repeat' split at e)<;>cases e<;>exact⟨∅,by show _ < (3:Int);decide⟩
  case held=>obtain⟨_,_,g⟩:=hg;simp only [eS,uV,eX]at h |-;(repeat' split at e)<;>cases e<;>omega
  case times=>simp only [eS,uV,c9]at h |-;(repeat' split at e)<;>cases e<;>omega
  all_goals (repeat' split at e)<;>cases e<;>exact h
 | every t u R=>
  obtain⟨_,_,g,_,_⟩:=hg;have h3:=ae2 (m+1) (show t≠0 by omega);have h4:=ad7 (m+1) (show 0 < t by omega);simp only [cj,eA]at e
  (repeat' split at e)<;>cases e<;>exact⟨h3,h4⟩
theorem nZ{b:Option (List Int)}{us:List Int}:∀{Rs:List bc} {ms ms':List Int},(∀R∈Rs,iY nv R)->jB Rs ms->fM (Rs.map cj) ms b us=some ms'->jB Rs ms'
 | [],[],_,_,_,e=>by cases e;trivial
 | [],_::_,_,_,h,_=>h.elim
 | _::_,[],_,_,h,_=>h.elim
 | R::Rs,m::ms,ms',hg,⟨h1,h2⟩,e=>by
  have e:tw ((cj R).after m b us::mV (Rs.map cj) ms b us)=some ms':=e
  cases ea:(cj R).after m b us with
  | none=>rw [ea]at e;cases e
  | some m1=>
   rw [ea]at e
   have e:(tw (mV (Rs.map cj) ms b us)).map (m1::·)=some ms':=e
   cases er:tw (mV (Rs.map cj) ms b us)with
   | none=>rw [er]at e;cases e
   | some r=>
    rw [er]at e;cases e;exact⟨zA (hg R (.head _)) h1 ea,nZ (λR' h'=>hg R' (.tail _ h')) h2 er⟩
theorem pk:∀{Rs:List bc},(∀R∈Rs,1<=eS R)->jB Rs ((Rs.map cj).map (·.start))
 | [],_=>trivial
 | R::Rs,h=>by
  have e:(cj R).start=0:=by
   cases R with
   | plain R=>cases R<;>rfl
   | every _ _ _=>rfl
  have h1:=h R (.head _);refine⟨?_,pk λR' h'=>h R' (.tail _ h')⟩;show 0<=(cj R).start/\(cj R).start < eS R;rw [e];omega
def Fx(bs:List (Int×Int))(Rs:List bc):List MS:=(none,(Rs.map cj).map (·.start))::(aQ bs).flatMap λc=>(kz Rs).map λms=>(some c,ms)
theorem xN{Rs:List bc}(hb:∀b∈bs,b.1<=b.2)(h:∀R∈Rs,1<=eS R):((Fx bs Rs).length:Int)=gO bs Rs+1:=by
 unfold Fx gO;rw [ac7,nV _ (kz Rs).length _ λm=>aa1 ..,eE,lI Rs _ h,xR hb]
 push_cast
 rfl
theorem wA{Rs:List bc}(hb:∀b∈bs,b.1<=b.2)(hg:∀R∈Rs,iY bs.length R)(h:∀R∈Rs,1<=eS R)(hw:gO bs Rs<=400):vg (Rs.map cj) (aQ bs) (Fx bs Rs):=by
 refine⟨.head _,λs hs c hc s' e=>?_,?_⟩
 ·have hm:jB Rs s.2:=by
   rcases ab0.mp hs with rfl | hs
   ·exact pk h
   ·obtain⟨c',_,hs⟩:=ai9.mp hs
    obtain⟨ms,hms,rfl⟩:=ac4.mp hs;exact ua hms
  unfold cC at e
  cases ea:fM (Rs.map cj) s.2 s.1 c with
  | none=>rw [ea]at e;cases e
  | some ms=>
   rw [ea]at e;cases e;exact .tail _ (ai9.mpr ⟨c,hc,ac4.mpr ⟨ms,nY (nZ hg hm ea),rfl⟩⟩)
 ·have:=xN hb h
  omega
theorem Br{Rs:List bc}(hb:∀b∈bs,b.1<=b.2)(h:∀R∈Rs,1<=eS R)(m:w6 (Rs.map cj) (aQ bs) met)(hU:∀s∈met,s∈Fx bs Rs):1<=met.length/\(met.length:Int)<=gO bs Rs+1:=by
 have h1:=(aa3.mp m.st).1;have h2:=n6 met (Fx bs Rs) m.nd hU;have h3:=xN hb h;exact⟨(),()⟩
theorem wJ{Rs:List bc}(h:∀R∈Rs,iY nv R):rQ (Rs.map FC) ((Rs.map cj).map (·.start)):=by
 refine⟨by rw [aa1,aa1,aa1],λj G m e1 e2=>?_⟩;rw [aa5]at e1 e2;rw [aa5]at e2
 cases hR:Rs[j]? with
 | none=>rw [hR]at e1;cases e1
 | some R=>
  rw [hR]at e1 e2;cases e1;cases e2;have hg:=h R (ab8 hR)
  cases R with
  | plain R=>
   cases R with
   | back o dw=>exact⟨al1 _,by show(0:Int)<=2;decide⟩
   | held o most=>exact⟨al1 _,by show(0:Int) < most;obtain⟨_,_,g⟩:=hg;omega⟩
   | times o nt lw hh=>exact⟨al1 _,by show(0:Int)<=hh;obtain⟨_,_,g⟩:=hg;omega⟩
   | _=>trivial
  | every m a R=>exact⟨al1 _,by show(0:Int) < m;obtain⟨_,_,g,_⟩:=hg;omega⟩
theorem AD(h:DT bs):∀b∈bs,b.1.natAbs < 10 ^ 40/\b.2.natAbs < 10 ^ 40:=λb hb=>by
 have n20:(10:Int) ^ 20=100000000000000000000:=by decide +kernel
 have n40:=t40;obtain⟨dw,h0,h1,h2⟩:=h;obtain⟨g1,g2,g3,g4⟩:=h2 b hb;rw [n20]at h1;rw [n40];omega
theorem Dp{Rs:List bc}{E}(b1:1<=bs.length)(b4:bs.length<=4)(r12:Rs.length<=12)(hb:DT bs)(hR:∀R∈Rs,qX bs.length R)(hw:gO bs Rs<=400)(q:∀x H',~~~jr C bs.length bs Rs x H'->ar H H'->Q (.ref x) H'): ~~~tG C [.str (j3 bs Rs)] H Q E:=by
 have nb:=AD hb;refine⟨j3 bs Rs,bs,pF,Rs,rfl,BE b4 r12 nb λR h=>(hR R h).2.1,wz b1,b1,b4,r12,λb h=>?_,λR h=>⟨(hR R h).1,(hR R h).2.1,?_⟩,hw,q⟩
 ·obtain⟨dw,_,_,h2⟩:=hb
  obtain⟨g1,g2,g3,g4⟩:=h2 b h;refine⟨tL (nb b h).1 (nb b h).2,g3,?_⟩;unfold dJ;omega
 ·obtain⟨_,_,h1,h2⟩:=hR R h
  omega
def xE(K:Frag):Sp:=λvs H Q _=>∃(a:Addr) (ns:List Int),vs=[.ref a]/\aF K H a (ns.map V.int)/\(∀x∈ns,x.natAbs < 2 ^ GB)/\ns.length<=63/\∀H',Q (.bl true) H'
theorem EH(F:cc K "law" "law" rh f fd)(T:Txt mg aM)(D_law_score: ~~~cN "_law_score" 12 ["_law_script","_law_most"] (xI K))(D_law_text: ~~~cN "_law_text" 12 ["_law_ranges","_law_rules"] (Bn K))(D_read: ~~~cN "read" 12 ["text"] (~~~tG Cs))(DM_Machine: ~~~iR "Machine" C 11 ["self","score"] (~~~jZ C Cs))(D_law_cells: ~~~cN "_law_cells" 12 ["_law_script","_law_first","_law_last"] (xD K))(D_law_pattern: ~~~cN "_law_pattern" 12 ["_law_cells_here","_law_ranges"] (rD K))
  (D_law_prices: ~~~cN "_law_prices" 12 ["_law_script","_law_voices"] (rA K)) (D_law_all: ~~~cN "_law_all" 12 ["_law_ranges"] (Bj K)) (D_prices_paper: ~~~cN "prices_paper" 12 ["machine","pattern","prices"] (y8 P w K C Cs)) (DD_prices_paper: ~~~tP "prices_paper" 12 ["machine","pattern","prices"] (y8 P w K C Cs) [.non]) (D_law_paper: ~~~cN "_law_paper" 12 ["_law_machine","_law_paper_here","_law_pattern_here","_law_every","_law_prices_here"] (kR P w K C)) (D_law_others: ~~~cN "_law_others" 12 ["_law_prices_here","_law_voices"] (uX K)): ~~~aG bV 13 f fd ["_law_script"] (xE K):=by
 refine F.ok sc_law λ_ A _ s H vs Q E hr h=>?_;obtain⟨a,ns,rfl,hS,hB,ln,k⟩:=h
 refine⟨rfl,_,(af (gx (az D_law_score hr ⋯ (aa (pr 0) (aa ah ag))) (cR K (n:=2) rfl (aO (gd (i:=1) sc_law.nd) (aO (gd (i:=2) sc_law.nd) cS))))
 (af (cW (i:=3) sc_law.nd (iL DM_Machine hr ⋯ (aa (az D_read hr ⋯ (aa (az D_law_text hr ⋯ (aa (pr 1) (aa (pr 2) ag))) ag)) ag)))
 (af (cW (i:=4) sc_law.nd (az D_law_pattern hr ⋯ (aa (az D_law_cells hr ⋯ (aa (pr 0) (aa ah (aa ah ag)))) (aa (pr 1) ag))))
 (af (cW (i:=5) sc_law.nd (az D_law_prices hr ⋯ (aa (pr 0) (aa (aA (aJ K) ⋯ T.n_len boot_len (aa (pr 1) ag)) ag))))
 (af (cW (i:=6) sc_law.nd (az D_law_all hr ⋯ (aa (pr 1) ag)))
 (af (cW (i:=7) sc_law.nd (bo (cU K) ⋯ T.n_list boot_list (aa (pr 4) ag)))
 (af (aS (aX (ax c7 (pr 5) aH (ay _))) (af (cW (i:=8) sc_law.nd (C2 DD_prices_paper hr ⋯ (aa (pr 3) (aa (pr 7) ag))))
 (ai (aS (bX (aZ (az D_law_paper hr ⋯ (aa (pr 3) (aa (pr 8) (aa (pr 4) (aa (pr 6) (aa aH ag)))))) (λ_=>rfl))) (ai (av iK)) aB))) aB)
 (af (bW PassesOwn.never rfl (bI K (bu (aa (pr 5) (aa (az D_law_others hr ⋯ (aa (pr 5) (aa (aA (aJ K) ⋯ T.n_len boot_len (aa (pr 1) ag)) ag))) (aa (pr 5) ag))))) (gd (i:=9) sc_law.nd)
 (af (cW (i:=10) sc_law.nd (pr 9))
 (af (aS (aX (ax jw (pr 9) aH (ay _))) (ai (cW (i:=10) sc_law.nd (bo (cU K) ⋯ T.n_list boot_list (aa (pr 9) ag)))) aB)
 (af (cW (i:=8) sc_law.nd (az D_prices_paper hr ⋯ (aa (pr 3) (aa (pr 7) (aa (pr 10) ag)))))
 (af (aS (PW.pt (cA (aX (ax (F4 K (GJ hr)) (pr 7) (pr 4) (ay _))) (cA (aX (ax (F4 K (GJ hr)) (pr 10) (pr 9) (ay _))) (cv (bX (aZ (az D_law_paper hr ⋯ (aa (pr 3) (aa (pr 8) (aa (pr 4) (aa (pr 6) (aa (pr 9) ag)))))) (λ_=>rfl))))))) (ai (av iK)) aB)
 (af (gx ah (sP (aD (aW K) (pr 8) (AV (u1 w4) ah) (λ_ _=>rfl)) ah Bg))
 (ai (bq (bQ K PySem.F.plainAttrs_list PySem.F.slot_list_append PySem.F.type_list_append bT (pr 8) (aa (bu ag) ag))))))))))
 (ai (av iK)))))))))),?_⟩
 have hs:=sizeLine_eq;refine aV (λZ H'=>∃(q ru:Addr) (bs:List (Int×Int)) (Rs:List bc),cf K H' q bs/\DT bs/\1<=bs.length/\bs.length<=3/\kZ H' ru Rs/\(∀R∈Rs,qX bs.length R)/\Rs.length<=3/\gO bs Rs<=60/\Z=[↑a,↑q,↑ru,none,none,none,none,none,none,none,none]/\ar H H') ?_ ?_
 ·intro u' hu
  tm_at "r";refine⟨a,ns,60,rfl,hS,hB,∅,∅,λt q ru bs Rs H1 ht hq ho b1 b3 hR hok r3 hw s1=>?_⟩;obtain⟨ts,hq,tl,htt⟩:=hq;refine⟨t,rfl,_,cT.of ht,rfl,_,_,rfl,_,_,rfl,rfl,hu _ _ ⟨q,ru,bs,Rs,⟨ts,aF.of hq,by rw [tl,aa1],λi p b e1 e2=>cT.of (htt i p [b.1,b.2] e1 (by rw [aa5,e2];rfl))⟩,ho,b1,b3,hR,hok,r3,hw,rfl,s1⟩⟩
 rintro Ω ω _ H1 ⟨q,ru,bs,Rs,RA,hO,b1,b3,RT,hok,r3,hwt,rfl,s1⟩
 have hb1:∀b∈bs,b.1<=b.2:=λb h=>let ⟨_,_,_,g⟩:=hO;(g b h).2.2.1
 have hw1:∀b∈bs,1<=wN b:=λb h=>by have:=hb1 b h;unfold wN;omega
 have hbp:∀b∈bs,b.1<=b.2/\b.2<=b.1+4:=λb h=>let ⟨_,_,_,g⟩:=hO;(g b h).2.2
 have hs1:∀R∈Rs,1<=eS R:=λR h=>(hok R h).2.2.1;have hg:∀R∈Rs,iY bs.length R:=λR h=>(hok R h).1
 have hcn:m8 bs<=60:=by
  have e:gO bs Rs=mY bs * ((kz Rs).length:Int):=lI Rs _ hs1
  have:=List.length_pos_of_mem (nY (pk hs1))
  have g:=Nat.le_mul_of_pos_right (m8 bs) this;rw [e,xR hb1,<-an3]at hwt;omega
 refine ω _ _ (aV (λZ H'=>∃(x:Addr) (met:List MS),my P w K C Cs bs (Rs.map cj) met x H'/\(∀(s:MS),s∈met->∀c∈aQ bs,∀s',cC (Rs.map cj) s c=some s'->s'∈met)/\1<=met.length/\met.length<=100/\Z=[↑a,↑q,↑ru,↑x,none,none,none,none,none,none,none]/\ar H1 H') ?_ ?_)
 ·intro u' hu
  tm_at "r";refine⟨q,ru,bs,Rs,rfl,RA,(),AD hO,RT,(),λR h=>(hok R h).2.1,λH2 s2=>?_⟩;refine Dp b1 () () hO hok () λsc H3 SA s3=>?_;tm_at "r";intro x dx hx hdx dxx;have s34:ar H3 (upd (upd H3 dx (.own x)) x (.ins C dx [])):=(aq hdx).upd (by rw [aj dxx.symm];exact hx);refine⟨x,dx,sc,bs.length,bs,Rs.map cj,Rs.map FC,Fx bs Rs,H3,rfl,ae,hx,s34,SA.toM,by rw [aa1];omega,wJ hg,rfl,(),hw1,(),wA hb1 hg hs1 (),λmet H' mf sub cl ma old=>⟨rfl,?_⟩⟩;have s3':ar H3 H':=λb o e=>old b o (ao e hx) (s34 _ _ e);obtain⟨m1,m2⟩:=Br hb1 hs1 mf sub;obtain⟨dx',la,wa,hx',MB⟩:=ma;obtain⟨dsc,ra,rb,hsc,RS,_⟩:=SA;exact hu _ _ ⟨x,met,⟨dx',la,wa,sc,dsc,ra,rb,hx',MB,s3' _ _ hsc,RS.same s3'⟩,cl,m1,(),rfl,(s2.trans s3).trans s3'⟩
 rintro Ω ω _ H2 ⟨x,met,MX,hcl,m1,m2,rfl,s2⟩;have s02:=s1.trans s2;refine ω _ _ (aV (λZ H'=>∃(p:Addr) (gs:List Addr) (pats:List (List (Option Int))),jy H' p bs.length gs pats/\pats.length<=100/\Z=[↑a,↑q,↑ru,↑x,↑p,none,none,none,none,none,none]/\ar H2 H') ?_ ?_)
 ·intro u' hu
  tm_at "r";refine⟨a,ns,14,20,rfl,s02.seq hS,hB,ln,∅,∅,∅,∅,λc H3 hc s3=>?_⟩
  have lc:(GM.cellsF ns 14 20).length<=100:=by unfold GM.cellsF;rw [aa1,List.length_range];omega
  exact⟨c,q,_,bs,rfl,aF.of hc,lc,RA.same (s2.trans s3),hbp,(),λp gs pats H4 hP hl _ s4=>hu _ _ ⟨p,gs,pats,hP,(),rfl,s3.trans s4⟩⟩
 rintro Ω ω _ H3 ⟨p,gs,pats,PN,pl,rfl,s3⟩;refine ω _ _ (aV (λZ H'=>∃(v:V) (pp:Nat->Int),zk K H' bs.length v pp/\Z=[↑a,↑q,↑ru,↑x,↑p,some v,none,none,none,none,none]/\ar H3 H') ?_ ?_)
 ·intro u' hu
  tm_at "r";have RA3:=RA.same (s2.trans s3);obtain⟨ts,hq,tl,_⟩:=id RA3;refine⟨_,.inl hq,?_⟩;rw [aa1,tl];exact⟨a,ns,bs.length,rfl,(s02.trans s3).seq hS,hB,(),λH4 s4=>hu _ _ ⟨_,_,.inl ⟨rfl,rfl⟩,rfl,s4⟩,λc ps H4 hc hl _ s4=>hu _ _ ⟨_,_,.inr ⟨c,ps,rfl,aF.of hc,hl,rfl⟩,rfl,s4⟩⟩
 rintro Ω ω _ H4 ⟨v,pp,PV,rfl,s4⟩;have RA4:=RA.same ((s2.trans s3).trans s4);refine ω _ _ (aV (λZ H'=>∃ev:Addr,gR H' ev (aQ bs)/\Z=[↑a,↑q,↑ru,↑x,↑p,some v,↑ev,none,none,none,none]/\ar H4 H') ?_ ?_)
 ·intro u' hu
  tm_at "r";exact⟨q,bs,rfl,RA4,(),hw1,(),λev H5 _ hE s5=>hu _ _ ⟨ev,hE,rfl,s5⟩⟩
 rintro Ω ω _ H5 ⟨ev,CE,rfl,s5⟩;have s35:=s4.trans s5;refine ω _ _ (aV (λZ H'=>∃h:Addr,jy H' h bs.length gs pats/\Z=[↑a,↑q,↑ru,↑x,↑p,some v,↑ev,↑h,none,none,none]/\ar H5 H') ?_ ?_)
 ·intro u' hu
  have PN5:=PN.same s35;tm_at "r";exact⟨_,.inl (aF.of PN5.1),λh hh=>hu _ _ ⟨h,PN5.move hh,rfl,aq hh⟩⟩
 rintro Ω ω _ H6 ⟨h,PH,rfl,s6⟩;have MX6:=MX.same ((s3.trans s35).trans s6);have PN6:=PN.same (s35.trans s6)
 have CE6:gR H6 ev (aQ bs):=let ⟨ps,h1,h2⟩:=CE;⟨ps,s6 _ _ h1,h2.same s6⟩
 have PV6:=PV.same (s5.trans s6);have RA6:=RA4.same (s5.trans s6);have MC:FD bs met:=⟨(),hw1,(),()⟩;have cl6:=eE bs;clear s1 s2 s3 s4 s5 s6 s02 s35 RA RA4 MX PN CE PV RT hS
 have ask:∀{H7 H8:Hp} {v:V} {pv:Nat->Int} {pa:Addr} {Q:VK},ar H6 H7->ar H7 H8->zk K H7 bs.length v pv->xf H7 H8 pa ((List.range (pats.length+1)).map λ(i:Nat)=>ee (Rs.map cj) (aQ bs) pv met (pats.drop i))->(∀H',ar H8 H'->Q (.bl true) H')->kR P w K C [.ref x,.ref pa,.ref p,.ref ev,v] H8 Q E0:=λ{H7 H8 v pv pa Q} s7 s8 hv hR k'=>
  ⟨x,pa,p,ev,v,bs.length,Rs.map cj,aQ bs,met,gs,pats,pv,H7,rfl,(MX6.same (s7.trans s8)).at_,hcl,(),hR,PN6.same (s7.trans s8),(),let ⟨ps,h1,h2⟩:=CE6;⟨ps,(s7.trans s8) _ _ h1,h2.same (s7.trans s8)⟩,e9 bs,(),(),hv.same s8,k'⟩
 refine ω _ _ (aV (λZ H'=>∃o8:Option V,Z=[↑a,↑q,↑ru,↑x,↑p,some v,↑ev,↑h,o8,none,none]/\ar H6 H') ?_ ?_)
 ·intro u' hu
  tm_at "r"
  by_cases hv:v=V.non
  ·rw [if_pos hv]
   refine⟨x,h,_,bs,_,met,gs,pats,_,rfl,MX6,MC,PH,.inl ⟨rfl,rfl⟩,(),λpa H7 _ hR s7=>ask (ar.refl _) s7 (.inl ⟨rfl,rfl⟩) hR λH8 s8=>⟨true,rfl,?_⟩⟩;rw [if_neg ∅];exact hu _ _ ⟨_,rfl,s7.trans s8⟩
  ·rw [if_neg hv]
   exact hu _ _ ⟨none,rfl,ar.refl _⟩
 rintro Ω ω _ H7 ⟨o8,rfl,s7⟩;refine ω _ _ (aV (λ_ _=>True) ?_ ?_)
 ·intro u' hu
  have RA7:=RA6.same s7;obtain⟨ts,hq,tl,_⟩:=id RA7;tm_at "r";refine⟨_,.inl hq,?_⟩;rw [aa1,tl];refine⟨v,bs.length,pp,rfl,PV6.same s7,(),λc ps H8 hc hl _ s8=>⟨(),λl hl0=>?_⟩⟩;have sl:=aq (o:=.lst [v,.ref c,v]) hl0
  have itm:∀y∈[v,.ref c,v],∃pv,zk K (upd H8 l (.lst [v,.ref c,v])) bs.length y pv:=λy hy=>by
   simp only [ab0,ad3,or_false]at hy;rcases hy with rfl | rfl | rfl
   ·exact⟨_,((PV6.same s7).same s8).same sl⟩
   ·exact⟨_,.inr ⟨c,ps,rfl,aF.of (sl _ _ hc),hl,rfl⟩⟩
   ·exact⟨_,((PV6.same s7).same s8).same sl⟩
  have hl9:(upd H8 l (.lst [v,.ref c,v])) l=some (.lst [v,.ref c,v]):=ae;have s9:=(s7.trans s8).trans sl;generalize upd H8 l (.lst [v,.ref c,v])=H9 at hl9 itm s9;clear sl hl0 hc s8 s7 RA7 hq;obtain⟨Pv,hPv⟩:∃Pv:Nat->L2.St->Hp->Prop,Pv=λi Z H'=>∃o8 o9 o10:Option V,Z=[↑a,↑q,↑ru,↑x,↑p,some v,↑ev,↑h,o8,o9,o10]/\ar H9 H':=⟨_,rfl⟩;refine bJ (aF.of hl9) (cq (xs:=[v,.ref c,v]) Pv (by rw [hPv];exact⟨_,_,_,rfl,ar.refl _⟩) (λi Z H' _ h=>by rw [hPv]at h;obtain⟨_,_,_,_,h⟩:=h;exact aF.of (h _ _ hl9)) ?_ ?_)
  ·intro i y Z HA hy hI
   obtain⟨pv,hy9⟩:=itm y (ab8 hy);rw [hPv]at hI;obtain⟨o8,o9,o10,rfl,sA⟩:=hI;have hyA:=hy9.same sA;refine aV (λZ H'=>Z=[↑a,↑q,↑ru,↑x,↑p,some v,↑ev,↑h,o8,some y,some y]/\HA=H') ?_ ?_
   ·intro u2 fE
    tm_at "r";exact fE _ _ ⟨rfl,rfl⟩
   rintro Ω ω _ _ ⟨rfl,rfl⟩;refine ω _ _ (aV (λZ H'=>∃z:V,zk K H' bs.length z pv/\((y=.non/\z=.non)\/∃(b d:Addr) (ps:List Int),y=.ref b/\z=.ref d/\aF K H' b (ps.map V.int)/\aF K H' d (ps.map V.int))/\Z=[↑a,↑q,↑ru,↑x,↑p,some v,↑ev,↑h,o8,some y,some z]/\ar HA H') ?_ ?_)
   ·intro u2 fE
    rcases id hyA with⟨rfl,_⟩ | ⟨b,ps,rfl,hb,bl,e⟩
    ·tm_at "r"
     exact fE _ _ ⟨_,hyA,.inl ⟨rfl,rfl⟩,rfl,ar.refl _⟩
    ·tm_at "r"
     exact⟨_,.inl hb,λd hd=>fE _ _ ⟨_,.inr ⟨d,ps,rfl,aF.of ae,bl,e⟩,.inr ⟨b,d,ps,rfl,rfl,(aq hd).seq hb,aF.of ae⟩,rfl,aq hd⟩⟩
   rintro Ω ω _ HB ⟨z,hz,hyz,rfl,sB⟩;have s6B:=(s9.trans sA).trans sB;refine ω _ _ (aV (λZ H'=>∃pa:Addr,HB pa=none/\xf HB H' pa ((List.range (pats.length+1)).map λ(i:Nat)=>ee (Rs.map cj) (aQ bs) pv met (pats.drop i))/\Z=[↑a,↑q,↑ru,↑x,↑p,some v,↑ev,↑h,↑pa,some y,some z]/\ar HB H') ?_ ?_)
   ·intro u2 fE
    tm_at "r";exact⟨x,h,z,bs,_,met,gs,pats,pv,rfl,MX6.same s6B,MC,PH.same s6B,hz,(),λpa HC h0 hR sC=>fE _ _ ⟨pa,h0,hR,rfl,sC⟩⟩
   rintro Ω ω _ HC ⟨pa,hpa,hR,rfl,sC⟩;refine ω _ _ (aV (λZ H'=>Z=[↑a,↑q,↑ru,↑x,↑p,some v,↑ev,↑h,↑pa,some y,some z]/\ar HC H') ?_ ?_)
   ·intro u2 fE
    tm_at "r";have s6C:=s6B.trans sC;refine rf (l:=true) (aF.of (PH.same s6C).1) (aF.of (PN6.same s6C).1) (λy hy=>.inr (by obtain⟨p,_,rfl⟩:=ac4.mp hy;exact⟨p,rfl⟩)) ⟨false,rfl,?_⟩;rw [if_neg ∅];rcases hyz with⟨rfl,rfl⟩ | ⟨b,d,ps,rfl,rfl,h1,h2⟩
    ·exact .inl ⟨rfl,false,rfl,by rw [if_neg ∅];exact ask s6B sC (hyA.same sB) hR λHD sD=>⟨true,rfl,by rw [if_neg ∅];exact fE _ _ ⟨rfl,sD⟩⟩⟩
    ·exact rf (l:=true) (sC.seq h2) (sC.seq h1) (λy hy=>.inl (by obtain⟨p,_,rfl⟩:=ac4.mp hy;rfl)) ⟨false,rfl,by rw [if_neg ∅];exact ask s6B sC (hyA.same sB) hR λHD sD=>⟨true,rfl,by rw [if_neg ∅];exact fE _ _ ⟨rfl,sD⟩⟩⟩
   rintro Ω ω _ HD ⟨rfl,sD⟩;have hRD:=hR.same sD;obtain⟨qs,hp1,ql,hq1⟩:=hRD;obtain⟨qr,e1⟩:∃qr,qs[pats.length]?=some qr:=⟨_,aa2 (by rw [ql];simp)⟩;obtain⟨f0,f1⟩:=hq1 pats.length qr (ee (Rs.map cj) (aQ bs) pv met (pats.drop pats.length)) e1 (by rw [aa5,ag1 ()];rfl)
   have rl:1<=(ee (Rs.map cj) (aQ bs) pv met (pats.drop pats.length)).length:=by unfold ee;rw [aa1];exact m1
   have npq:pa≠qr:=λe=>by
    rw [<-e,hp1]at f1;generalize ee (Rs.map cj) (aQ bs) pv met (pats.drop pats.length)=r at f1 rl
    rcases r with _ | ⟨_ | a,as⟩<;>rcases qs with _ | ⟨z,zs⟩<;>first | exact absurd rl ∅ | cases f1
   refine ω _ _ ?_;tm_at "r";refine aR (aF.of hp1) (lq (n:=pats.length) (by rw [aa1,ql];simp) (by rw [aa5,e1];rfl)) ⟨qr,rfl,_,f1,0,?_,?_⟩
   ·show Ac _ 0=some 0
    unfold Ac;rw [if_pos ∅,if_pos (by rw [aa1];omega)];rfl
   have s9D:=sA.trans (sB.trans (sC.trans sD));have s9B:=sA.trans sB
   have f2:(upd HD qr (.lst (((ee (Rs.map cj) (aQ bs) pv met (pats.drop pats.length)).map gv).set 0 (.int 7)))) pa=some (.lst (qs.map V.ref)):=by rw [aj npq];exact hp1
   have s9E:=BI (x:=.lst (((ee (Rs.map cj) (aQ bs) pv met (pats.drop pats.length)).map gv).set 0 (.int 7))) (s9B.free f0) s9D;generalize upd HD qr (.lst (((ee (Rs.map cj) (aQ bs) pv met (pats.drop pats.length)).map gv).set 0 (.int 7)))=HE at f2 s9E;refine⟨.inl ⟨rfl,_,aF.of f2⟩,(),λe he=>⟨pa,_,_,rfl,rfl,(aq he) _ _ f2,by rw [aa1,ql];simp;omega,?_⟩⟩;rw [hPv];exact⟨_,_,_,rfl,BI (s9B.free hpa) (s9E.upd he)⟩
  ·intro Z H' hI
   rw [hPv]at hI;obtain⟨o8,o9,o10,rfl,_⟩:=hI;exact hu _ _ trivial
 rintro Ω ω _ H8 _;refine ω _ _ ?_;tm_at "r";exact k _
theorem all_mk{h:Heap}{fa:Addr}{Zaf:Addr}{Zag:Addr}{Zah:Addr}{Zai:Addr}{Zad:Addr}{Zae:Addr}{Zac:Addr}{Zaj:Addr}{Zak:Addr}{Zal:Addr}{Zam:Addr}{Zaa:Addr}{Za5:Addr}{Zbe:FuncData}{Za6:Addr}{Zbf:FuncData}{Za7:Addr}{Zbg:FuncData}{Za8:Addr}{Zbh:FuncData}{Za9:Addr}{Zbi:FuncData}{Zba:Addr}{Zbj:FuncData}{Zbb:Addr}{Zbk:FuncData}{Zbc:Addr}{Zbl:FuncData}{Zbd:Addr}{Zbm:FuncData}{a_MAKERS:Addr}{D_MAKERS:List (Str×V)}{a_INNER_KINDS:Addr}(X:K.In h)(G:h.Ns mainGlobals mg)(hfa:mg "law"=↑fa)(Zfc:nsIn K mainGlobals "Span"=some (↑Zaf))(Zar:m6 K Zaf)(Zfd:nsIn K mainGlobals "Clock"=some (↑Zag))(Zas:j8 K Zag)(Zfe:nsIn K mainGlobals "Move"=some (↑Zah))(Zat:m5 K Zah)(Zff:nsIn K mainGlobals "Alike"=some (↑Zai))(Zau:j6 K Zai)(Zfg:nsIn K mainGlobals "Back"=some (↑Zad))(Zav:mZ K Zad)(Zfh:nsIn K mainGlobals "Held"=some (↑Zae))(Zao:ka K Zae)(Zfi:nsIn K mainGlobals "Times"=some (↑Zac))(Zan:gQ K Zac)(Zfj:nsIn K mainGlobals "Begin"=some (↑Zaj))(Zaw:j7 K Zaj)(Zfk:nsIn K mainGlobals "Close"=some (↑Zak))(Zax:j9 K Zak)(Zfl:nsIn K mainGlobals "Every"=some (↑Zal))(Zap:iP K Zal)(Zfm:nsIn K mainGlobals "Score"=some (↑Zam))(Zay:eY K Zam)(Zfn:nsIn K mainGlobals "Machine"=some (↑Zaa))(Zab:dF K Zaa):(∃f fd,bz K "note_in" lW f fd)->(∃f fd,bz K "span" we f fd)->(∃f fd,bz K "move" v9 f fd)->(∃C f fd,j5 K "Rule" "__init__" "Rule.__init__" fu C f fd)->(∃f fd,aT K Zaf "size" "Rule.size" dc f fd)->(∃f fd,aT K Zaf "start" "Rule.start" bR f fd)->(∃f fd,aT K Zaf "closes" "Rule.closes" cb f fd)->(∃f fd,aT K Zag "size" "Rule.size" dc f fd)->(∃f fd,aT K Zag "start" "Rule.start" bR f fd)->(∃f fd,aT K Zag "closes" "Rule.closes" cb f fd)->(∃f fd,aT K Zah "size" "Rule.size" dc f fd)->(∃f fd,aT K Zah "start" "Rule.start" bR f fd)->(∃f fd,aT K Zah "closes" "Rule.closes" cb f fd)->(∃f fd,aT K Zai "size" "Rule.size" dc f fd)->(∃f fd,aT K Zai "start" "Rule.start" bR f fd)->(∃f fd,aT K Zai "closes" "Rule.closes" cb f fd)->(∃f fd,aT K Zaj "size" "Rule.size" dc f fd)->(∃f fd,aT K Zaj "start" "Rule.start" bR f fd)->(∃f fd,aT K Zaj "closes" "Rule.closes" cb f fd)->(∃f fd,aT K Zak "size" "Rule.size" dc f fd)->(∃f fd,aT K Zak "start" "Rule.start" bR f fd)->(∃f fd,aT K Zae "start" "Rule.start" bR f fd)->(∃f fd,aT K Zae "closes" "Rule.closes" cb f fd)->(∃f fd,aT K Zac "start" "Rule.start" bR f fd)->(∃f fd,aT K Zal "start" "Rule.start" bR f fd)->(∃f fd,aT K Zal "closes" "Rule.closes" cb f fd)->(∃f fd,aT K Zak "after" "Rule.after" iq f fd)->(∃f fd,aT K Zad "size" "Back.size" ja f fd)->(∃f fd,aT K Zad "start" "Back.start" ij f fd)->(∃f fd,aT K Zae "size" "Held.size" jb f fd)->(∃f fd,aT K Zac "size" "Times.size" iw f fd)->(∃f fd,aT K Zal "size" "Every.size" ik f fd)->(∃f fd,aT K Zaf "after" "Span.after" iu f fd)->(∃f fd,aT K Zag "after" "Clock.after" gC f fd)->(∃f fd,aT K Zah "after" "Move.after" ip f fd)->(∃f fd,aT K Zai "after" "Alike.after" gy f fd)->(∃f fd,aT K Zad "closes" "Back.closes" gz f fd)->(∃f fd,aT K Zad "after" "Back.after" ig f fd)->(∃f fd,aT K Zae "after" "Held.after" il f fd)->(∃f fd,aT K Zac "closes" "Times.closes" f6 f fd)->(∃f fd,aT K Zac "after" "Times.after" gH f fd)->(∃f fd,aT K Zaj "after" "Begin.after" gA f fd)->(∃f fd,aT K Zak "closes" "Close.closes" fZ f fd)->(∃f fd,aT K Zal "after" "Every.after" gD f fd)->(∃f fd,jC K "Span" "Span.__init__" fv Zaf f fd)->(∃f fd,jC K "Clock" "Clock.__init__" eL Zag f fd)->(∃f fd,jC K "Move" "Move.__init__" ft Zah f fd)->(∃f fd,jC K "Alike" "Alike.__init__" eJ Zai f fd)->(∃f fd,jC K "Back" "Back.__init__" fk Zad f fd)->(∃f fd,jC K "Held" "Held.__init__" fm Zae f fd)->(∃f fd,jC K "Times" "Times.__init__" eP Zac f fd)->(∃f fd,jC K "Begin" "Begin.__init__" eK Zaj f fd)->(∃f fd,jC K "Close" "Close.__init__" eM Zak f fd)->(∃f fd,jC K "Every" "Every.__init__" eN Zal f fd)->(∃f fd,bz K "is_number" je f fd)->(∃f fd,bz K "has_list" jQ f fd)->(∃f fd,bz K "are_voices" iy f fd)->bz K "span_of" lX Za5 Zbe->bz K "clock_of" jO Za6 Zbf->bz K "move_of" lV Za7 Zbg->bz K "alike_of" jM Za8 Zbh->bz K "back_of" lP Za9 Zbi->bz K "held_of" lR Zba Zbj->bz K "times_of" jX Zbb Zbk->bz K "begin_of" jN Zbc Zbl->bz K "close_of" jP Zbd Zbm->(∃f fd,bz K "plain_rule" iE f fd)->(∃f fd,bz K "every_rule" iz f fd)->(∃f fd u,rO K "read_rule" gp f fd u/\aP (.int 0) u)->(∃f fd,jC K "Score" "Score.__init__" eO Zam f fd)->(∃f fd,bz K "weight" oG f fd)->(∃f fd,bz K "not_too_wide" f7 f fd)->(∃f fd,bz K "voice_range" gL f fd)->(∃f fd,bz K "read" wc f fd)->(∃f fd,bz K "lengthened" iD f fd)->(∃f fd,bz K "columns" lQ f fd)->(∃f fd,bz K "memories_after" eQ f fd)->(∃f fd,bz K "all_close" jd f fd)->(∃C f fd,j5 K "States" "__init__" "States.__init__" eo C f fd)->(∃f fd,aT K Zaa "size" "States.size" gF f fd)->(∃f fd,aT K Zaa "to" "States.to" jc f fd)->(∃f fd,aT K Zaa "ends" "States.ends" gE f fd)->(∃f fd,aT K Zaa "build" "Machine.build" fq f fd)->(∃f fd,jC K "Machine" "Machine.__init__" dW Zaa f fd)->(∃f fd,aT K Zaa "states" "States.states" fw f fd)->(∃f fd,aT K Zaa "ways" "States.ways" gG f fd)->(∃f fd u,rO K "price" sW f fd u/\aP .non u)->(∃f fd,bz K "column_prices" fB f fd)->(∃f fd,bz K "least_price" gK f fd)->(∃f fd u,rO K "prices_paper" f9 f fd u/\aP .non u)->(∃f fd,bz K "_law_stirred" gJ f fd)->(∃f fd,bz K "_law_got" lU f fd)->(∃f fd,bz K "_law_cells" jf f fd)->(∃f fd,bz K "_law_size" jT f fd)->(∃f fd,bz K "_law_some" jV f fd)->(∃f fd,bz K "_law_spans" jk f fd)->(∃f fd,bz K "_law_single" iC f fd)->(∃f fd,bz K "_law_rule" jS f fd)->(∃f fd,bz K "_law_score" jj f fd)->(∃f fd,bz K "_law_text" jW f fd)->(∃f fd,bz K "_law_all" lT f fd)->(∃f fd,bz K "_law_pattern" gI f fd)->(∃f fd,bz K "_law_prices" iB f fd)->(∃f fd,bz K "_law_others" iA f fd)->(∃f fd,bz K "_law_price" ji f fd)->(∃f fd,bz K "_law_like" jR f fd)->(∃f fd,bz K "_law_least" jg f fd)->(∃f fd,bz K "_law_paper" jh f fd)->nsIn K mainGlobals "MAKERS"=some (↑a_MAKERS)->lj K a_MAKERS D_MAKERS->KTD.datumAt ("span":Str) D_MAKERS=↑Za5->KTD.datumAt ("clock":Str) D_MAKERS=↑Za6->KTD.datumAt ("move":Str) D_MAKERS=↑Za7->KTD.datumAt ("alike":Str) D_MAKERS=↑Za8->KTD.datumAt ("back":Str) D_MAKERS=↑Za9->KTD.datumAt ("held":Str) D_MAKERS=↑Zba->KTD.datumAt ("times":Str) D_MAKERS=↑Zbb->KTD.datumAt ("begin":Str) D_MAKERS=↑Zbc->KTD.datumAt ("close":Str) D_MAKERS=↑Zbd->nsIn K mainGlobals "INNER_KINDS"=some (↑a_INNER_KINDS)->zw K a_INNER_KINDS [.str "span",.str "clock"]->nsIn K mainGlobals "len"=some none->nsIn K mainGlobals "range"=some none->nsIn K mainGlobals "all"=some none->nsIn K mainGlobals "min"=some none->nsIn K mainGlobals "max"=some none->nsIn K mainGlobals "abs"=some none->nsIn K mainGlobals "tuple"=some none->nsIn K mainGlobals "list"=some none->nsIn K mainGlobals "isinstance"=some none->nsIn K mainGlobals "bool"=some none->nsIn K mainGlobals "int"=some none->nsIn K mainGlobals "str"=some none->nsIn K mainGlobals "divmod"=some none->nsIn K mainGlobals "enumerate"=some none->nsIn K mainGlobals "zip"=some none->nsIn K mainGlobals "reversed"=some none->(∃u,nsIn K mainGlobals "FIGURES"=some (some u)/\aP (.str "0123456789") u)->(∃u,nsIn K mainGlobals "MOST_FIGURES"=some (some u)/\aP (.int 40) u)->(∃u,nsIn K mainGlobals "MOST_VOICES"=some (some u)/\aP (.int 4) u)->(∃u,nsIn K mainGlobals "MOST_RULES"=some (some u)/\aP (.int 12) u)->(∃u,nsIn K mainGlobals "MOST_WEIGHT"=some (some u)/\aP (.int 400) u)->(∃u,nsIn K mainGlobals "MOST_NUMBERS"=some (some u)/\aP (.int 12) u)->(∃u,nsIn K mainGlobals "NO_LEAP"=some (some u)/\aP (.int 0) u)->(∃u,nsIn K mainGlobals "LEAP_UP"=some (some u)/\aP (.int 1) u)->(∃u,nsIn K mainGlobals "LEAP_DOWN"=some (some u)/\aP (.int 2) u)->(∃u,nsIn K mainGlobals "START"=some (some u)/\aP (.int 0) u)->(∃f fd,bz K "law" rh f fd)->∃fd:FuncData,(∀(s:Shared) (v:Value),BindsTo s fd ⟨[v],[]⟩ [("_law_script",v)])/\∀base:Heap,K.In base->base.Ns mainGlobals mg->~~~aG bV 13 fa fd ["_law_script"] (xE K):=by
 intro Zbn Zbo Zbp Zbq Zbr Zbs Zbt Zbu Zbv Zbw Zbx Zby Zbz Zb0 Zb1 Zb2 Zb3 Zb4 Zb5 Zb6 Zb7 Zb8 Zb9 Zca Zcb Zcc Zcd Zce Zcf Zcg Zch Zci Zcj Zck Zcl Zcm Zcn Zco Zcp Zcq Zcr Zcs Zct Zcu Zcv Zcw Zcx Zcy Zcz Zc0 Zc1 Zc2 Zc3 Zc4 Zc5 Zc6 Zc7 Zc8 Zc9 Zda Zdb Zdc Zdd Zde Zdf Zdg Zdh Zdi Zdj Zdk Zdl Zdm Zdn Zdo Zdp Zdq Zdr Zds Zdt Zdu Zdv Zdw Zdx Zdy Zdz Zd0 Zd1 Zd2 Zd3 Zd4 Zd5 Zd6 Zd7 Zd8 Zd9 Zea Zeb Zec Zed Zee Zef Zeg Zeh Zei Zej Zek Zel Zem n_MAKERS t_MAKERS d_MAKERS_span d_MAKERS_clock d_MAKERS_move d_MAKERS_alike d_MAKERS_back d_MAKERS_held d_MAKERS_times d_MAKERS_begin d_MAKERS_close n_INNER_KINDS q_INNER_KINDS z_len z_range z_all z_min z_max z_abs z_tuple z_list z_isinstance z_bool z_int z_str z_divmod z_enumerate z_zip z_reversed g_FIGURES g_MOST_FIGURES g_MOST_VOICES g_MOST_RULES g_MOST_WEIGHT g_MOST_NUMBERS g_NO_LEAP g_LEAP_UP g_LEAP_DOWN g_START Zen;rcases Zbn,Zbo,Zbp,Zbq,Zbr,Zbs,Zbt,Zbu,Zbv,Zbw,Zbx,Zbz,Zb0,Zb1,Zb2,Zb3,Zb4,Zb5,Zb6,Zb7,Zb8,Zb9,Zca,Zcb,Zcc,Zcd,Zce,Zcf,Zcg,Zch,Zci,Zcj,Zck,Zcl,Zcm,Zcn,Zco,Zcp,Zcq,Zcr,Zcs,Zct,Zcu,Zcv,Zcw,Zcx,Zcy,Zcz,Zc0,Zc1,Zc2,Zc3,Zc4,Zc5,Zc6,Zc7,Zdh,Zdi,Zdj,Zdk,Zdl,Zdm,Zdn,Zdo,Zdp,Zdq,Zdr,Zds,Zdt,Zdu,Zdv,Zdw,Zdx,Zdy,Zdz,Zd0,Zd1,Zd2,Zd3,Zd4,Zd5,Zd6,Zd7,Zd8,Zd9,Zea,Zeb,Zec,Zed,Zee,Zef,Zeg,Zeh,Zei,Zej,Zek,Zel,Zem,g_FIGURES,g_MOST_FIGURES,g_MOST_VOICES,g_MOST_RULES,g_MOST_WEIGHT,g_MOST_NUMBERS,g_NO_LEAP,g_LEAP_UP,g_LEAP_DOWN,g_START,Zen with⟨⟨_,_,Zfo⟩,⟨_,_,Zfq⟩,⟨_,_,Zfs⟩,⟨_,_,_,Zfu⟩,⟨_,_,Zfw⟩,⟨_,_,Zfy⟩,⟨_,_,Zf0⟩,⟨_,_,Zf2⟩,⟨_,_,Zf4⟩,⟨_,_,Zf6⟩,⟨_,_,Zf8⟩,⟨_,_,Zgc⟩,⟨_,_,Zge⟩,⟨_,_,Zgg⟩,⟨_,_,Zgi⟩,⟨_,_,Zgk⟩,⟨_,_,Zgm⟩,⟨_,_,Zgo⟩,⟨_,_,Zgq⟩,⟨_,_,Zgs⟩,⟨_,_,Zgu⟩,⟨_,_,Zgw⟩,⟨_,_,Zgy⟩,⟨_,_,Zg0⟩,⟨_,_,Zg2⟩,⟨_,_,Zg4⟩,⟨_,_,Zg6⟩,⟨_,_,Zg8⟩,⟨_,_,Zha⟩,⟨_,_,Zhc⟩,⟨_,_,Zhe⟩,⟨_,_,Zhg⟩,⟨_,_,Zhi⟩,⟨_,_,Zhk⟩,⟨_,_,Zhm⟩,⟨_,_,Zho⟩,⟨_,_,Zhq⟩,⟨_,_,Zhs⟩,⟨_,_,Zhu⟩,⟨_,_,Zhw⟩,⟨_,_,Zhy⟩,⟨_,_,Zh0⟩,⟨_,_,Zh2⟩,⟨_,_,Zh4⟩,⟨_,_,Zh6⟩,⟨_,_,Zh8⟩,⟨_,_,Zia⟩,⟨_,_,Zic⟩,⟨_,_,Zie⟩,⟨_,_,Zig⟩,⟨_,_,Zii⟩,⟨_,_,Zik⟩,⟨_,_,Zim⟩,⟨_,_,Zio⟩,⟨_,_,Ziq⟩,⟨_,_,Zis⟩,⟨_,_,Ziu⟩,⟨_,_,Ziw⟩,⟨Zey,Zez,Zld,Ze0,Zle⟩,⟨_,_,Zi0⟩,⟨_,_,Zi2⟩,⟨_,_,Zi4⟩,⟨_,_,Zi6⟩,⟨_,_,Zi8⟩,⟨_,_,Zja⟩,⟨_,_,Zjc⟩,⟨_,_,Zje⟩,⟨_,_,Zjg⟩,⟨_,_,_,Zji⟩,⟨_,_,Zjk⟩,⟨_,_,Zjm⟩,⟨_,_,Zjo⟩,⟨_,_,Zjq⟩,⟨_,_,Zjs⟩,⟨_,_,Zju⟩,⟨_,_,Zjw⟩,⟨Ze1,Ze2,Zlf,Ze3,Zlg⟩,⟨_,_,Zj0⟩,⟨_,_,Zj2⟩,⟨Ze4,Ze5,Zlh,Ze6,Zli⟩,⟨_,_,Zj6⟩,⟨_,_,Zj8⟩,⟨_,_,Zka⟩,⟨_,_,Zkc⟩,⟨_,_,Zke⟩,⟨_,_,Zkg⟩,⟨_,_,Zki⟩,⟨_,_,Zkk⟩,⟨_,_,Zkm⟩,⟨_,_,Zko⟩,⟨_,_,Zkq⟩,⟨_,_,Zks⟩,⟨_,_,Zku⟩,⟨_,_,Zkw⟩,⟨_,_,Zky⟩,⟨_,_,Zk0⟩,⟨_,_,Zk2⟩,⟨_,_,Zk4⟩,⟨_,g_FIGURES,r_FIGURES⟩,⟨_,g_MOST_FIGURES,r_MOST_FIGURES⟩,⟨_,g_MOST_VOICES,r_MOST_VOICES⟩,⟨_,g_MOST_RULES,r_MOST_RULES⟩,⟨_,g_MOST_WEIGHT,r_MOST_WEIGHT⟩,⟨_,g_MOST_NUMBERS,r_MOST_NUMBERS⟩,⟨_,g_NO_LEAP,r_NO_LEAP⟩,⟨_,g_LEAP_UP,r_LEAP_UP⟩,⟨_,g_LEAP_DOWN,r_LEAP_DOWN⟩,⟨_,g_START,r_START⟩,⟨_,_,Zeo⟩⟩;have Zf9:=Zf8.fn
 obtain⟨Zo5,Zo6,Zga⟩:=Zby
 obtain⟨Zrt,Zru,Zrv,Za0,Ziy,Ziz⟩:=Ze0.fn;obtain⟨Zsv,Zsw,Zsx,Za3,Zjy,Zjz⟩:=Ze3.fn;obtain⟨Zs2,Zs3,Zs4,Za4,Zj4,Zj5⟩:=Ze6.fn;have e:=hfa.symm.trans (mg_of X G Zeo.ns);cases e;have T:Txt mg a_MAKERS:={ n_len:=mg_none_of X G z_len,n_range:=mg_none_of X G z_range,n_all:=mg_none_of X G z_all,n_min:=mg_none_of X G z_min,n_max:=mg_none_of X G z_max,n_abs:=mg_none_of X G z_abs,n_tuple:=mg_none_of X G z_tuple,n_list:=mg_none_of X G z_list,n_isinstance:=mg_none_of X G z_isinstance,n_bool:=mg_none_of X G z_bool,n_int:=mg_none_of X G z_int,n_str:=mg_none_of X G z_str,n_divmod:=mg_none_of X G z_divmod,n_enumerate:=mg_none_of X G z_enumerate,n_zip:=mg_none_of X G z_zip,n_reversed:=mg_none_of X G z_reversed,g_FIGURES:=⟨_,mg_of X G g_FIGURES,r_FIGURES⟩,g_MOST_FIGURES:=⟨_,mg_of X G g_MOST_FIGURES,r_MOST_FIGURES⟩,g_MOST_VOICES:=⟨_,mg_of X G g_MOST_VOICES,r_MOST_VOICES⟩,g_MOST_RULES:=⟨_,mg_of X G g_MOST_RULES,r_MOST_RULES⟩,g_MOST_WEIGHT:=⟨_,mg_of X G g_MOST_WEIGHT,r_MOST_WEIGHT⟩,g_MOST_NUMBERS:=⟨_,mg_of X G g_MOST_NUMBERS,r_MOST_NUMBERS⟩,g_NO_LEAP:=⟨_,mg_of X G g_NO_LEAP,r_NO_LEAP⟩,g_LEAP_UP:=⟨_,mg_of X G g_LEAP_UP,r_LEAP_UP⟩,g_LEAP_DOWN:=⟨_,mg_of X G g_LEAP_DOWN,r_LEAP_DOWN⟩,g_START:=⟨_,mg_of X G g_START,r_START⟩,g_MAKERS:=⟨_,mg_of X G n_MAKERS,rfl⟩ };have TE_INNER_KINDS:FJ mg a_MAKERS a_INNER_KINDS:={ T with g_INNER_KINDS:=⟨_,mg_of X G n_INNER_KINDS,rfl⟩ };obtain⟨oc,od,kV,doc,pm,an,cdv,ct,osl,rfl,lk,hcd⟩:=Zeo.fn.ex;refine⟨fnOf "law" "law" (cz rh) (bY rh) (ak rh) .none kV doc pm an cdv ct,λs v=>.of_eq rfl,λbase _ _=>?_⟩;have Za1: ~~~cN _ _ _ _:=Zfo.df X G (vP Zfo.fn) Zfo.fn.b2;have Ze7: ~~~cN _ _ _ _:=Zfq.df X G (CQ Zfq.fn Za1) Zfq.fn.b3;have Ze8: ~~~cN _ _ _ _:=Zfs.df X G (CL Zfs.fn Za1) Zfs.fn.b3;have Zaq: ~~~iQ _ _ _ _ _:=Zfu.df X G (sI Zfu.fn) Zfu.fn.b2;have Zl8:∀(row:Str) (a c:Int),~~~aC Zae "size" 1 ["self"] (pd (fP Zae row a c) (.int c)):=λrow a c=>Zha.ok Zao.cl (sF Zha.fn Zao) Zha.fn.b1;have Zl9:∀(row:Str) (a c d e:Int),~~~aC Zac "size" 1 ["self"] (pd (dm Zac row a c d e) (.int (e+1))):=λrow a c d e=>Zhc.ok Zan.cl (qa Zhc.fn Zan) Zhc.fn.b1;have Zma:∀(row:Str) (t u:Int) (RIn:mP),~~~aC Zal "size" 1 ["self"] (pd (eT Zal row t u RIn) (.int t)):=λrow t u RIn=>Zhe.ok Zap.cl (pX Zhe.fn Zap) Zhe.fn.b1;have Zmb:∀(row:Str) (a b:Int) (D:List Int) (nv:Nat) (_:1<=a/\a<=nv) (_:1<=b/\b<=nv),~~~aC Zaf "after" 3 ["self","memory","before","column"] (bB K nv (iV Zaf row a b D) (fJ a b D) λ_=>True):=λrow a b D nv ha hb=>Zhg.ok Zar.cl (p8 Zhg.fn T Zar ha hb Ze7) Zhg.fn.b4;have Zmc:∀(row:Str) (a b c:Int) (D:List Int) (nv:Nat) (_:1<=a/\a<=nv) (_:1<=b/\b<=nv) (_:1<=c),~~~aC Zag "after" 3 ["self","memory","before","column"] (bB K nv (gi Zag row a b c D) (eu a b c D) λ_=>True):=λrow a b c D nv ha hb hc=>Zhi.ok Zas.cl (om Zhi.fn T Zas ha hb hc Ze7) Zhi.fn.b4;have Zmd:∀(row:Str) (a:Int) (D:List Int) (nv:Nat) (_:1<=a/\a<=nv),~~~aC Zah "after" 3 ["self","memory","before","column"] (bB K nv (iU Zah row a D) (gq a D) λ_=>True):=λrow a D nv ha=>Zhk.ok Zat.cl (pZ Zhk.fn T Zat ha Ze8) Zhk.fn.b4;have Zme:∀(row:Str) (a b:Int) (D:List Int) (nv:Nat) (_:1<=a/\a<=nv) (_:1<=b/\b<=nv),~~~aC Zai "after" 3 ["self","memory","before","column"] (bB K nv (gg Zai row a b D) (fe a b D) λ_=>True):=λrow a b D nv ha hb=>Zhm.ok Zau.cl (og Zhm.fn T Zau ha hb Ze8 Ze7) Zhm.fn.b4;have Zmf:∀(row:Str) (a c:Int) (nv:Nat),~~~aC Zad "closes" 1 ["self","memory","last"] (dR K nv (fO Zad row a c) (dS a c) kx):=λrow a c nv=>Zho.ok Zav.cl (oh Zho.fn T) Zho.fn.b3;have Zmg:∀(row:Str) (a c:Int) (nv:Nat) (_:1<=a/\a<=nv),~~~aC Zad "after" 3 ["self","memory","before","column"] (bB K nv (fO Zad row a c) (dS a c) kx):=λrow a c nv ha=>Zhq.ok Zav.cl (pP Zhq.fn T Zav ha Ze8) Zhq.fn.b4;have Zmh:∀(row:Str) (a c:Int) (nv:Nat) (_:1<=a/\a<=nv),~~~aC Zae "after" 3 ["self","memory","before","column"] (bB K nv (fP Zae row a c) (eX a c) (qW c)):=λrow a c nv ha=>Zhs.ok Zao.cl (pY Zhs.fn T Zao ha (Za1.up ∅)) Zhs.fn.b4;have Zmi:∀(row:Str) (a c d e:Int) (nv:Nat),~~~aC Zac "closes" 1 ["self","memory","last"] (dR K nv (dm Zac row a c d e) (c9 a c d e) (ky e)):=λrow a c d e nv=>Zhu.ok Zan.cl (mT Zhu.fn Zan) Zhu.fn.b3;have Zmj:∀(row:Str) (a c d e:Int) (nv:Nat) (_:1<=a/\a<=nv),~~~aC Zac "after" 3 ["self","memory","before","column"] (bB K nv (dm Zac row a c d e) (c9 a c d e) (ky e)):=λrow a c d e nv ha=>Zhw.ok Zan.cl (ou Zhw.fn T Zan ha (Za1.up ∅)) Zhw.fn.b4;have Zmk:∀(row:Str) (a:Int) (D:List Int) (nv:Nat) (_:1<=a/\a<=nv),~~~aC Zaj "after" 3 ["self","memory","before","column"] (bB K nv (gh Zaj row a D) (fg a D) λ_=>True):=λrow a D nv ha=>Zhy.ok Zaw.cl (oj Zhy.fn T Zaw ha (Za1.up ∅)) Zhy.fn.b4;have Zml:∀(row:Str) (a:Int) (D:List Int) (nv:Nat) (_:1<=a/\a<=nv),~~~aC Zak "closes" 3 ["self","memory","last"] (dR K nv (gj Zak row a D) (gb a D) λ_=>True):=λrow a D nv ha=>Zh0.ok Zax.cl (mS Zh0.fn T Zax ha (Za1.up ∅)) Zh0.fn.b3;have Zmm:∀(row:Str) (t u:Int) (nv:Nat) (Cn:Addr) (S:bU) (RIn:mP) (G:Int->Prop) (_:0 < t) (_: ~~~bp 4 nv Cn S RIn G),~~~aC Zal "after" 5 ["self","memory","before","column"] (bB K nv (eT Zal row t u RIn) (eA t u S) (nX t)):=λrow t u nv Cn S RIn G ht R=>Zh2.ok Zap.cl (oo Zh2.fn T Zap ht R) Zh2.fn.b4;have Ze9: ~~~cN _ _ _ _:=Zio.df X G (yN Zio.fn T) Zio.fn.b1;have Za2: ~~~cN _ _ _ _:=Ziq.df X G (uA Ziq.fn T) Ziq.fn.b2;have Zaz: ~~~cN _ _ _ _:=Zis.df X G (qb Zis.fn T) Zis.fn.b2;have Zmy: ~~~eZ _ _ _ _:=⟨Zbe,(vR Zc8.fn T (Za2.up ∅) (Zaz.up ∅) (Zh4.df X G (sJ Zh4.fn T Zar Zaq) Zh4.fn.b5)),Zc8.fn.kp,Zc8.fn.b3⟩;have Zm0: ~~~eZ _ _ _ _:=⟨Zbf,(uy Zc9.fn T (Za2.up ∅) (Zaz.up ∅) (Zh6.df X G (pU Zh6.fn T Zas Zaq) Zh6.fn.b6)),Zc9.fn.kp,Zc9.fn.b3⟩;have Zm2: ~~~eZ _ _ _ _:=⟨Zbg,(vO Zda.fn T (Za2.up ∅) (Zaz.up ∅) (Zh8.df X G (sH Zh8.fn T Zat Zaq) Zh8.fn.b4)),Zda.fn.kp,Zda.fn.b3⟩;have Zm4: ~~~eZ _ _ _ _:=⟨Zbh,(uw Zdb.fn T (Za2.up ∅) (Zaz.up ∅) (Zia.df X G (pO Zia.fn T Zau Zaq) Zia.fn.b5)),Zdb.fn.kp,Zdb.fn.b3⟩;have Zm6: ~~~eZ _ _ _ _:=⟨Zbi,(vJ Zdc.fn T (Zaz.up ∅) (Zic.df X G (sv Zic.fn T Zav Zaq) Zic.fn.b4)),Zdc.fn.kp,Zdc.fn.b3⟩;have Zm8: ~~~eZ _ _ _ _:=⟨Zbj,(vL Zdd.fn T (Zaz.up ∅) (Zie.df X G (sE Zie.fn T Zao Zaq) Zie.fn.b4)),Zdd.fn.kp,Zdd.fn.b3⟩;have Zna: ~~~eZ _ _ _ _:=⟨Zbk,(uB Zde.fn T (Zaz.up ∅) (Zig.df X G (p9 Zig.fn T Zan Zaq) Zig.fn.b6)),Zde.fn.kp,Zde.fn.b3⟩;have Znc: ~~~eZ _ _ _ _:=⟨Zbl,(ux Zdf.fn T (Za2.up ∅) (Zaz.up ∅) (Zii.df X G (pR Zii.fn T Zaw Zaq) Zii.fn.b4)),Zdf.fn.kp,Zdf.fn.b3⟩;have Zne: ~~~eZ _ _ _ _:=⟨Zbm,(uz Zdg.fn T (Za2.up ∅) (Zaz.up ∅) (Zik.df X G (pV Zik.fn T Zax Zaq) Zik.fn.b4)),Zdg.fn.kp,Zdg.fn.b3⟩;have Zfa: ~~~cN _ _ _ _:=Ziu.df X G (qg Ziu.fn T (Ze9.up ∅)) Ziu.fn.b2;have Zk6: ~~~aG _ _ _ _ _ _:=yP (qj Za0 T (Zfa.up ∅)) (qh Za0 T (Zfa.up ∅) (Ziw.df X G (qe Ziw.fn TE_INNER_KINDS q_INNER_KINDS (Ze9.up ∅) Zfa ((Zim.df X G (pW Zim.fn T Zap Zaq) Zim.fn.b5).up ∅)) Ziw.fn.b2)) t_MAKERS (F1 d_MAKERS_span (Zmy.up ∅) (λrow a b D nv ha hb=>Bp Zar ((Zfw.ok Zar.cl (dI Zfw.fn) Zfw.fn.b1).up ∅) ((Zfy.ok Zar.cl (bZ Zfy.fn) Zfy.fn.b1).up ∅) ((Zf0.ok Zar.cl (cD Zf0.fn) Zf0.fn.b3).up ∅) ((Zmb row a b D nv ha hb).up ∅)) d_MAKERS_clock (Zm0.up ∅) (λrow a b c D nv ha hb hc=>yd Zas ((Zf2.ok Zas.cl (dI Zf2.fn) Zf2.fn.b1).up ∅) ((Zf4.ok Zas.cl (bZ Zf4.fn) Zf4.fn.b1).up ∅) ((Zf6.ok Zas.cl (cD Zf6.fn) Zf6.fn.b3).up ∅) ((Zmc row a b c D nv ha hb hc).up ∅)) d_MAKERS_move (Zm2.up ∅) (λrow a D nv ha=>Aw Zat ((Zf8.ok Zat.cl (dI Zf9) Zf9.b1).up ∅) ((Zga.ok Zat.cl (bZ Zga.fn) Zga.fn.b1).up ∅) ((Zgc.ok Zat.cl (cD Zgc.fn) Zgc.fn.b3).up ∅) ((Zmd row a D nv ha).up ∅)) d_MAKERS_alike (Zm4.up ∅) (λrow a b D nv ha hb=>xY Zau ((Zge.ok Zau.cl (dI Zge.fn) Zge.fn.b1).up ∅) ((Zgg.ok Zau.cl (bZ Zgg.fn) Zgg.fn.b1).up ∅) ((Zgi.ok Zau.cl (cD Zgi.fn) Zgi.fn.b3).up ∅) ((Zme row a b D nv ha hb).up ∅)) d_MAKERS_back (Zm6.up ∅) (λrow a c nv ha _=>zC Zav ((Zg6.ok Zav.cl (sy Zg6.fn) Zg6.fn.b1).up ∅) ((Zg8.ok Zav.cl (pQ Zg8.fn T) Zg8.fn.b1).up ∅) ((Zmf row a c nv).up ∅) ((Zmg row a c nv ha).up ∅)) d_MAKERS_held (Zm8.up ∅) (λrow a c nv ha c1=>zX c1 Zao ((Zl8 row a c).up ∅) ((Zgu.ok Zao.cl (bZ Zgu.fn) Zgu.fn.b1).up ∅) ((Zgw.ok Zao.cl (cD Zgw.fn) Zgw.fn.b3).up ∅) ((Zmh row a c nv ha).up ∅)) d_MAKERS_times (Zna.up ∅) (λrow a c d e nv ha e1=>zd e1 Zan ((Zl9 row a c d e).up ∅) ((Zgy.ok Zan.cl (bZ Zgy.fn) Zgy.fn.b1).up ∅) ((Zmi row a c d e nv).up ∅) ((Zmj row a c d e nv ha).up ∅)) d_MAKERS_begin (Znc.up ∅) (λrow a D nv ha=>xZ Zaw ((Zgk.ok Zaw.cl (dI Zgk.fn) Zgk.fn.b1).up ∅) ((Zgm.ok Zaw.cl (bZ Zgm.fn) Zgm.fn.b1).up ∅) ((Zgo.ok Zaw.cl (cD Zgo.fn) Zgo.fn.b3).up ∅) ((Zmk row a D nv ha).up ∅)) d_MAKERS_close (Zne.up ∅) (λrow a D nv ha=>yg Zax ((Zgq.ok Zax.cl (dI Zgq.fn) Zgq.fn.b1).up ∅) ((Zgs.ok Zax.cl (bZ Zgs.fn) Zgs.fn.b1).up ∅) ((Zg4.ok Zax.cl (p6 Zg4.fn) Zg4.fn.b4).up ∅) ((Zml row a D nv ha).up ∅))) (λrow t u nv Cn S RIn G ht R=>yo ht Zap R ((Zma row t u RIn).up ∅) ((Zg0.ok Zap.cl (bZ Zg0.fn) Zg0.fn.b1).up ∅) ((Zg2.ok Zap.cl (cD Zg2.fn) Zg2.fn.b3).up ∅) ((Zmm row t u nv Cn S RIn G ht R).up ∅));have Zng: ~~~cN _ _ _ _:=⟨Zey,Zez,Zk6,mg_of X G Ze0.ns,Za0.kp,Za0.binds Ziy Ziz λ_ _ _ _ _ _ us hl=>match us,hl with | [_,_,_],_=>⟨_,rfl,rfl⟩⟩;have Zt5: ~~~tP "read_rule" 10 ["text","voices","row"] (~~~jm) [(.int 0)]:=⟨Zey,Zez,[Zld],Zk6,mg_of X G Ze0.ns,Za0.kp,Za0.bindsD Ziy Ziz λ_ _ _ _ _ _ us hl=>match us,hl with | [_,_],_=>⟨_,rfl,rfl⟩,.cons Zle .nil⟩;have Zk7: ~~~cN _ _ _ _:=Zjc.df X G (vK Zjc.fn T Zay (Zja.df X G (qf Zja.fn T) Zja.fn.b3)) Zjc.fn.b1;have Zk8: ~~~aC _ _ _ _ _:=Zjo.ok Zab.cl (CJ Zjo.fn T Zab) Zjo.fn.b2;have Zk9: ~~~aG _ _ _ _ _ _:=AI Za3 T;have Znw: ~~~cN _ _ _ _:=⟨Ze1,Ze2,Zk9,mg_of X G Ze3.ns,Za3.kp,Za3.binds Zjy Zjz λ_ _ _ _ _ _ us hl=>match us,hl with | [_,_,_],_=>⟨_,rfl,rfl⟩⟩;have Zt6: ~~~tP "price" 1 ["column","given","prices"] (iF K) [.non]:=⟨Ze1,Ze2,[Zlf],Zk9,mg_of X G Ze3.ns,Za3.kp,Za3.bindsD Zjy Zjz λ_ _ _ _ _ _ us hl=>match us,hl with | [_,_],_=>⟨_,rfl,rfl⟩,.cons Zlg .nil⟩;have Zla: ~~~aG _ _ _ _ _ _:=F6 Za4 T Zab (Zj0.df X G (F5 Zj0.fn T Zab Zay (Zk7.up ∅) (Znw.up ∅)) Zj0.fn.b3) ((Zj2.df X G (AG Zj2.fn T) Zj2.fn.b3).up ∅) ((Zju.ok Zab.cl (yR Zju.fn T Zab) Zju.fn.b1).up ∅) ((Zjw.ok Zab.cl (CT Zjw.fn T Zab) Zjw.fn.b2).up ∅) (Zk8.up ∅);have Znz: ~~~cN _ _ _ _:=⟨Ze4,Ze5,Zla,mg_of X G Ze6.ns,Za4.kp,Za4.binds Zj4 Zj5 λ_ _ _ _ _ _ us hl=>match us,hl with | [_,_,_],_=>⟨_,rfl,rfl⟩⟩;have Zn0: ~~~tP "prices_paper" 5 ["machine","pattern","prices"] (y8 P w K Zaa Zam) [.non]:=⟨Ze4,Ze5,[Zlh],Zla,mg_of X G Ze6.ns,Za4.kp,Za4.bindsD Zj4 Zj5 λ_ _ _ _ _ _ us hl=>match us,hl with | [_,_],_=>⟨_,rfl,rfl⟩,.cons Zli .nil⟩;have Zfb: ~~~cN _ _ _ _:=Zj8.df X G (EG Zj8.fn T (Zj6.df X G (vS Zj6.fn T) Zj6.fn.b2)) Zj8.fn.b2;have Zlb: ~~~cN _ _ _ _:=Zke.df X G (CP Zke.fn T) Zke.fn.b2;have Zlc: ~~~cN _ _ _ _:=Zkg.df X G (AK Zkg.fn T) Zkg.fn.b3;exact EH Zeo.fn T ((Zkm.df X G (AJ Zkm.fn T (Zfb.up ∅) (Zkk.df X G (CN Zkk.fn T (Zki.df X G (yQ Zki.fn T Zlb Zlc) Zki.fn.b3) (Zlb.up ∅) (Zlc.up ∅)) Zkk.fn.b3) ((Zkc.df X G (CO Zkc.fn T) Zkc.fn.b1).up ∅)) Zkm.fn.b2).up ∅) ((Zko.df X G (CS Zko.fn T) Zko.fn.b2).up ∅) ((Zi8.df X G (CM Zi8.fn T Zay ((Zi6.df X G (ow Zi6.fn T Ze9) Zi6.fn.b1).up ∅) Zng ((Zi0.df X G (p7 Zi0.fn T Zay) Zi0.fn.b3).up ∅) ((Zi4.df X G ((mU Zi4.fn T (Zi2.df X G (yS Zi2.fn T Zay) Zi2.fn.b1)).imp yG) Zi4.fn.b1).up ∅)) Zi8.fn.b1).up ∅) (Zjs.df X G (sG Zjs.fn T Zab Zay ((Zji.df X G (oq Zji.fn T Zab) Zji.fn.b1).up ∅) (Zk7.up ∅) (Zjq.ok Zab.cl (AE Zjq.fn T Zab Zay ((Zje.df X G (sM Zje.fn T) Zje.fn.b4).up ∅) ((Zjg.df X G (sL Zjg.fn T) Zjg.fn.b3).up ∅)) Zjq.fn.b4)) Zjs.fn.b2) ((Zka.df X G (AF Zka.fn T Zfb) Zka.fn.b3).up ∅) ((Zks.df X G (vQ Zks.fn T) Zks.fn.b2).up ∅) ((Zku.df X G (vM Zku.fn T (Zfb.up ∅)) Zku.fn.b2).up ∅) ((Zkq.df X G (EF Zkq.fn T) Zkq.fn.b1).up ∅) (Znz.up ∅) (Zn0.up ∅) ((Zk4.df X G (yL Zk4.fn T Zab ((Zjk.ok Zab.cl (AH Zjk.fn T Zab) Zjk.fn.b1).up ∅) (Zk8.up ∅) ((Zk0.df X G (CK Zk0.fn T) Zk0.fn.b2).up ∅) ((Zky.df X G (yM Zky.fn T) Zky.fn.b3).up ∅) ((Zk2.df X G (yK Zk2.fn T Zab ((Zjm.ok Zab.cl (F7 Zjm.fn T Zab) Zjm.fn.b3).up ∅)) Zk2.fn.b4).up ∅)) Zk4.fn.b5).up ∅) ((Zkw.df X G (yO Zkw.fn T) Zkw.fn.b2).up ∅)
theorem walk{q:Program}{loose:List Str}{XP:(Str->Option Value)->Heap->Prop}{YP:World->Heap->Prop}{d:DefRec}{K:Params->Frag}(hn:l.most=some 63)(hdf:d.params.defaults=[])
  (hY:∀(w:World) (h:Heap),YP w h->(K w.params).In h)
  (F:∀(w:World) (mg:Str->Option Value) (fa:Addr) (h:Heap),(K w.params).In h->h.Ns mainGlobals mg->mg d.name=↑fa->
   ∃fd:FuncData,(∀(s:Shared) (u:Value),BindsTo s fd ⟨[u],[]⟩ [("_law_script",u)])/\∀base:Heap,(K w.params).In base->base.Ns mainGlobals mg->aG l.prog w (K w.params) mg base bV 13 fa fd ["_law_script"] (xE (K w.params))) :
  PySem.W.WalkO q loose XP YP l.row.toRowW d [] (λf vs=>PySem.call f vs):=
 L2.walk_ofB (n:=63) (k:=13) (x:="_law_script") (CX:=λ_=>bV) (sp:=λw=>xE (K w.params)) hn ∅ hdf ⟨rfl,∅,∅⟩ hY F (λ_ _ a ns hl hb _ hS=>⟨a,ns,rfl,hS,hb,hl,λ_=>rfl⟩) λ_ _ _ _ _ z=>z
end K62
namespace PySem.W.Fast
abbrev N:=Nat
def tw7107683598978338259:=N
def tw10781155495226149952:=N
def tw9204158913224105066:=N
def tw1797320696384963680:=N
def tw12984497931746510016:=N
def tw2037837791263263431:=N
def tw688017235996097728:=N
def tw2972089662274685120:=N
def tw4367763407718873280:=N
def tw853006652048903392:=N
def tw2507159164156126432:=N
def tw10927503220577947910:=N
def tw17014940268609766656:=N
def tw2740011354968270957:=N
def tw4995806008807184253:=N
def tw6526776507943973248:=N
def tw17673286163444151216:=N
def tw2684323554977298857:=N
def tw18183822697544999697:=N
def tw17438619951338586173:=N
def tw8022544178954971616:=N
def tw5757580858230792404:=N
def tw1389312407009415928:=N
def tw11620009975027078656:=N
def tw17214569350272635392:=N
def tw12827702639679416784:=N
def tw3477017433440173605:=N
def tw12356477752450573856:=N
def tw16332779693749550656:=N
def tw1811020070860065954:=N
def tw13581830531574743312:=N
def tw664371003172496992:=N
def tw3353243483498556000:=N
def tw15618442143967195744:=N
def tw14445336497716352608:=N
def tw16767041879857749600:=N
def tw5354748856362998464:=N
def tw17081979788666367776:=N
def tw9320427455497059136:=N
def tw113924843117257751:=N
def tw6525621644430364512:=N
def tw4887872290368682848:=N
def tw11055560293806795616:=N
def tw13373051896720713593:=N
def tw1907224990490733440:=N
def tw16589420798618918816:=N
def tw2514004037289172896:=N
def tw3147908703300991904:=N
def tw322326032276042688:=N
def tw14731863913535397824:=N
def tw16194198115776222352:=N
def tw10548090296991198176:=N
def tw11089455855502430971:=N
def tw4429731857723693089:=N
def tw11856418128299018418:=N
def tw5988825820812346123:=N
def tw12115032611439709249:=N
def tw1837802303452485697:=N
def tw12216007738119882386:=N
def tw9766073033013590113:=N
def tw16366822646575711457:=N
def tw8879920357257952825:=N
def tw15554252373168114977:=N
def tw14244029898452929825:=N
def tw14778244150676161358:=N
def tw4103793769299984110:=N
def tw7265567555943964965:=N
def tw18142434366265037217:=N
def tw102670953060188773:=N
def tw3987211905531822497:=N
def tw1867516885229358497:=N
def tw5613571426038144449:=N
def tw9102788193473980929:=N
def tw9011917461390476833:=N
def tw13974459642926735905:=N
def tw5870024845904064065:=N
def tw11843942596897436225:=N
def tw2543967379344861011:=N
def tw12606713170979971678:=N
def tw6272155930122655329:=N
def tw1639107145134172201:=N
def tw17218052949105855153:=N
def tw5792294633460329361:=N
def tw11779562975377517217:=N
def tw6511375322463925921:=N
def tw1649467897660748166:=N
def tw256669769319345889:=N
def tw14062060543330422416:=N
def tw7152149213897162171:=N
def tw2912311672282146093:=N
def tw13538641474866946627:=N
def tw13968803353345530753:=N
def tw10597619564391377857:=N
def tw10390987947796320225:=N
def tw5220449638148717171:=N
def tw8736932333474877442:=N
def tw7838352911617557538:=N
def tw5691950051986327586:=N
def tw14477108354924702754:=N
def tw168378415265973490:=N
def tw5480497680994424930:=N
def tw17548981870311816354:=N
def tw8780041974821046434:=N
def tw6375875430930322626:=N
def tw424625284065468610:=N
def tw9194185551676490946:=N
def tw13635426666053870381:=N
def tw5187979703255012674:=N
def tw16381401294139151033:=N
def tw14617363417830980930:=N
def tw10536545646084749698:=N
def tw16924928439051717058:=N
def tw6863246105498901820:=N
def tw12829434127775491522:=N
def tw16704486988201009698:=N
def tw7072085390520821282:=N
def tw2608832378801203746:=N
def tw4874284004983989794:=N
def tw8135385958496304706:=N
def tw9018011841312947778:=N
def tw15910389250500562530:=N
def tw5338691798818733666:=N
def tw1429543012131554914:=N
def tw16480872534993062725:=N
def tw11004764814328406267:=N
def tw10148715652092506754:=N
def tw250729127759816486:=N
def tw5235571638372396361:=N
def tw17834288882763498275:=N
def tw13277386528544834242:=N
def tw15943621094550671184:=N
def tw13048249250861519650:=N
def tw10107630691595209335:=N
def tw13212364032902898498:=N
def tw11176097813226703682:=N
def tw3946779088380665419:=N
def tw11885450489286033218:=N
def tw16763113946467120927:=N
def tw12856292882661926000:=N
def tw1935324688998537090:=N
def tw3803256283521624002:=N
def tw18082371750154812354:=N
def tw17345980801238720670:=N
def tw1447321265746801676:=N
def tw13588349003123588034:=N
def tw1949739078200903640:=N
def tw12102700251026204264:=N
def tw7511115849999108178:=N
def tw1355904113612617763:=N
def tw3698186710298425379:=N
def tw11196466748299346928:=N
def tw8869317688513187939:=N
def tw11636637058718469467:=N
def tw310410228946865379:=N
def tw2658354880159321315:=N
def tw17916523105335875119:=N
def tw8510186678157955299:=N
def tw3113566822244084995:=N
def tw4206851185714368803:=N
def tw11414895088599939363:=N
def tw8409742114164817187:=N
def tw641200634782978320:=N
def tw10906592919917652259:=N
def tw10573301146615014723:=N
def tw17503174190208626019:=N
def tw9360307557804072291:=N
def tw2473105871704555907:=N
def tw7476280772981482100:=N
def tw12149403369867067473:=N
def tw8254887145663264163:=N
def tw7867302267540750959:=N
def tw2075208931033666636:=N
def tw8737479051480902147:=N
def tw1612492366820610563:=N
def tw12343513421776698883:=N
def tw18065539258646829635:=N
def tw1800612593842373465:=N
def tw17877041575135081304:=N
def tw10038718053068626499:=N
def tw10481663948764582104:=N
def tw3187770050110480035:=N
def tw8988166542928570019:=N
def tw9487505148028448419:=N
def tw13499849226769464003:=N
def tw1334959028261640532:=N
def tw1202489127204561530:=N
def tw4385392314397967016:=N
def tw17828464774505456387:=N
def tw327704163255697428:=N
def tw9040930244689528611:=N
def tw13018752020586011459:=N
def tw940413709875339075:=N
def tw13311272230506842351:=N
def tw2286273184482565987:=N
def tw6834745907096098693:=N
def tw2295411410098198391:=N
def tw9988510488510361080:=N
def tw7058114701130754069:=N
def tw2563940388800099203:=N
def tw15264474409645689211:=N
def tw6498481721354982339:=N
def tw17338808986419781603:=N
def tw1611425881316860932:=N
def tw10302749412390010396:=N
def tw8759885514313531428:=N
def tw13395345580071906820:=N
def tw13215412733393146948:=N
def tw2152233381239202916:=N
def tw7582499868893432932:=N
def tw1489812156044863588:=N
def tw16461114373192067204:=N
def tw15700471876513774535:=N
def tw933497795549890013:=N
def tw13738307392063622308:=N
def tw8341404722530092990:=N
def tw7432502645385529540:=N
def tw3643781742783040708:=N
def tw7318805429395197124:=N
def tw8165022090284896452:=N
def tw4028786909286460612:=N
def tw5757751353066485988:=N
def tw1070466642794159978:=N
def tw539604664864204036:=N
def tw16834287897998558532:=N
def tw15484828502160332115:=N
def tw15801236610829416607:=N
def tw1603952095302583339:=N
def tw7363039907356711827:=N
def tw15336128920932902276:=N
def tw2231035651672770843:=N
def tw5492844641483616708:=N
def tw13971868367220761028:=N
def tw6053860969817192253:=N
def tw2180726022309577607:=N
def tw15352753552373881221:=N
def tw5318237583255271940:=N
def tw6055946331830078129:=N
def tw162072500300818980:=N
def tw6462548173821004324:=N
def tw11233330055724348830:=N
def tw536627699481430628:=N
def tw11586485975755247763:=N
def tw18071674204680109732:=N
def tw7431759867287807790:=N
def tw7310552255423876804:=N
def tw13492674565535807172:=N
def tw16187328881264760200:=N
def tw1742215392651407983:=N
def tw11338634183176468569:=N
def tw11430772271982435044:=N
def tw5209329045666346724:=N
def tw2006592293809403058:=N
def tw675803172355791344:=N
def tw2294800141645123850:=N
def tw17962685277539870900:=N
def tw4460818997041219002:=N
def tw3818911532761102131:=N
def tw3018869139064297316:=N
def tw15306791054876336996:=N
def tw18302821711299435901:=N
def tw17998419814069986886:=N
def tw18157375488788630285:=N
def tw12694088658495326475:=N
def tw5846111089851849758:=N
def tw967607123691331524:=N
def tw14115473255552015199:=N
def tw15696853914179548165:=N
def tw7373962163455880197:=N
def tw4593028390908952613:=N
def tw9199149642555878469:=N
def tw7013011736359933865:=N
def tw15280638112180938821:=N
def tw1506541596083004549:=N
def tw8697720323705724037:=N
def tw16594117501952909773:=N
def tw6082253296620356773:=N
def tw7712453394840045343:=N
def tw9544841665205736645:=N
def tw3163597673578558661:=N
def tw10704554033685998821:=N
def tw18150680545883438309:=N
def tw888273638009076487:=N
def tw2462114451271134501:=N
def tw14308672611063355685:=N
def tw8366051474843270469:=N
def tw16599735485498883461:=N
def tw6114143895257205157:=N
def tw16054641940979916363:=N
def tw5845041207291220421:=N
def tw13874831836254206405:=N
def tw9880763649761329637:=N
def tw2550339771122547706:=N
def tw9115348378222200758:=N
def tw2594275435043097125:=N
def tw6848600579958945317:=N
def tw5893735799822597416:=N
def tw17779607629087922725:=N
def tw779840212769390355:=N
def tw2161055434492576875:=N
def tw3203268933680997361:=N
def tw7041823798696419941:=N
def tw2182252042815100517:=N
def tw5807287481928773221:=N
def tw16949374953001888389:=N
def tw7550790856429407909:=N
def tw56896939699515045:=N
def tw10887965431642159781:=N
def tw5449149297449237157:=N
def tw2990195689138636286:=N
def tw656175976660966149:=N
def tw1321895658125830917:=N
def tw4063399157124767962:=N
def tw4118816013745015589:=N
def tw1851363044741082917:=N
def tw10011931049883926341:=N
def tw16747477280497762149:=N
def tw7805281140404818821:=N
def tw5665063044118254469:=N
def tw17187418193400408965:=N
def tw14281763162799040105:=N
def tw13197043479031970725:=N
def tw3407703881836036005:=N
def tw3228120205281735621:=N
def tw11029167864863203110:=N
def tw4327838415782533850:=N
def tw16619317517015725062:=N
def tw11908768972910909446:=N
def tw16392388456256645158:=N
def tw7006091203306246224:=N
def tw5805000623178244340:=N
def tw6935894081276907346:=N
def tw8284942800432675942:=N
def tw1744970099748295898:=N
def tw7247651900790980710:=N
def tw7993799406435314822:=N
def tw8984922028075370317:=N
def tw2098047743238554822:=N
def tw5507931618433943750:=N
def tw1118908053944137483:=N
def tw3515539299638450406:=N
def tw72235294570709487:=N
def tw4759032123776567410:=N
def tw14458330169927042342:=N
def tw8131961964485310236:=N
def tw8195229501999768902:=N
def tw14221876143002302545:=N
def tw11600180442517780142:=N
def tw13909461819717138950:=N
def tw18082298130251946991:=N
def tw10542579805852184295:=N
def tw164938668977959494:=N
def tw10021681756371797630:=N
def tw8283307940111422452:=N
def tw2888181927520918344:=N
def tw6112211400707361400:=N
def tw4445962782677872262:=N
def tw13319302438579681245:=N
def tw9006906693736302453:=N
def tw10901282455525318310:=N
def tw12890732084237427430:=N
def tw15225033031301760671:=N
def tw14393663975532030439:=N
def tw7968862831267397396:=N
def tw16028373345427933958:=N
def tw381010652321287974:=N
def tw5746149853369511597:=N
def tw16118309813232797542:=N
def tw2522860501437943654:=N
def tw6430816964650447718:=N
def tw3640943534939394122:=N
def tw16705663888171152294:=N
def tw18156151003502752710:=N
def tw9319724990325162168:=N
def tw5030143281832227814:=N
def tw14081005319773465607:=N
def tw1780834694887432199:=N
def tw11078955443175815883:=N
def tw9511709137368031303:=N
def tw6572262513318634567:=N
def tw3673495712484356149:=N
def tw2856930345941060871:=N
def tw2146137206444443911:=N
def tw10797816322299490599:=N
def tw13609575468471531661:=N
def tw18021156507556633976:=N
def tw17670394117342395719:=N
def tw968448065703833991:=N
def tw12695134272375931796:=N
def tw7607163945408801159:=N
def tw8440754072606852621:=N
def tw13237746649840342439:=N
def tw7884908054100275623:=N
def tw894909339518495379:=N
def tw16085513513302629191:=N
def tw11179165654316076551:=N
def tw324864610868140095:=N
def tw18378351038754700049:=N
def tw16630910806013229967:=N
def tw1596656981686682473:=N
def tw18419309376091862567:=N
def tw9627775688998945383:=N
def tw5070044475076203111:=N
def tw11792609304198039175:=N
def tw2730619429986152103:=N
def tw2767809467032688971:=N
def tw1315617047555630111:=N
def tw4375539754880730846:=N
def tw1023313597885624173:=N
def tw8023581253296432935:=N
def tw16759864049228270439:=N
def tw101913549760613223:=N
def tw9569718099044536199:=N
def tw8818215647400050567:=N
def tw569591687053152167:=N
def tw3921376091655616455:=N
def tw5856099032593844167:=N
def tw492282404295121567:=N
def tw4736366306261687271:=N
def tw6277426132664281063:=N
def tw3262045606026550280:=N
def tw7515286590963307528:=N
def tw479460203715931176:=N
def tw10944050138982660904:=N
def tw12498369989109428296:=N
def tw14861152086849650537:=N
def tw17726617145077668968:=N
def tw16700675074129879788:=N
def tw14773394835026269151:=N
def tw532847661506780424:=N
def tw785609792826243336:=N
def tw4834537528570354232:=N
def tw10715577108624915752:=N
def tw131014952621034908:=N
def tw18407144995768400168:=N
def tw3982885370432008520:=N
def tw11249835600833245544:=N
def tw17424893684815241433:=N
def tw15017858704048065896:=N
def tw14355482696600999739:=N
def tw10320625778346429261:=N
def tw8060341234861472296:=N
def tw17642282901511687720:=N
def tw6606905066656534489:=N
def tw10181461808790690408:=N
def tw15255084631368628305:=N
def tw14493517966334487823:=N
def tw5426729881252663388:=N
def tw4246224575579094254:=N
def tw13143214931191274344:=N
def tw7939808882527018856:=N
def tw4884285409483096981:=N
def tw8336663222023911666:=N
def tw12128850826660610896:=N
def tw4963993846908559477:=N
def tw8286834168176594128:=N
def tw9330969329868954158:=N
def tw17740077572030812297:=N
def tw17189807280044240276:=N
def tw16361331468021555401:=N
def tw14786970663614341177:=N
def tw14927434572648210697:=N
def tw3891748507997503785:=N
def tw11961063206016100413:=N
def tw6095485813459704950:=N
def tw4625449363253474601:=N
def tw7436278924332961097:=N
def tw8723492382249825368:=N
def tw8302651206483623369:=N
def tw10264248301236237077:=N
def tw1402947885085316821:=N
def tw6733747467194680143:=N
def tw3937624557700403817:=N
def tw1773180799327374589:=N
def tw7718740242844477161:=N
def tw16200480802687963038:=N
def tw14946245087161513364:=N
def tw4080729767498558249:=N
def tw7472304076103919060:=N
def tw5933183214579897129:=N
def tw7327589531653108094:=N
def tw2959791668665392042:=N
def tw16284901320972839796:=N
def tw12846091388247202729:=N
def tw18340433952450115504:=N
def tw2705722307451940874:=N
def tw1493421297863918867:=N
def tw5258508342672257048:=N
def tw1262930605284233695:=N
def tw2881983015355938890:=N
def tw9600487998000886890:=N
def tw9781235650292719754:=N
def tw1623471193853414538:=N
def tw7453477542402283658:=N
def tw2738463533824862346:=N
def tw14541262703509207178:=N
def tw1333060741234556415:=N
def tw2652294478745021642:=N
def tw13629001639813725418:=N
def tw3171883194512512266:=N
def tw1497575429671715114:=N
def tw4221111705836410154:=N
def tw1797454571310716984:=N
def tw9005841583467579722:=N
def tw6423900970639745842:=N
def tw15456462918765127822:=N
def tw9938098327925151627:=N
def tw3960372036210548915:=N
def tw10350077857306198157:=N
def tw9838162775044963499:=N
def tw10492690473784770058:=N
def tw17033566626442548778:=N
def tw9255823942438197802:=N
def tw5997769515894415914:=N
def tw6799621115546555946:=N
def tw11540540839082681051:=N
def tw10995404155549737546:=N
def tw7887398360984316490:=N
def tw9346740424281380458:=N
def tw3310714398942450135:=N
def tw2490996251399529066:=N
def tw15869225612465604234:=N
def tw17956298422681199228:=N
def tw14809970365794085546:=N
def tw8445102742403339321:=N
def tw11502126029619505803:=N
def tw16326681141472703274:=N
def tw17167757085410491805:=N
def tw1295566136467687306:=N
def tw15851326174411498378:=N
def tw11786059396608279631:=N
def tw4725194035475690733:=N
def tw16359258210042091498:=N
def tw6586726365908218858:=N
def tw9955890304342474730:=N
def tw2964471326153594891:=N
def tw1811870907223723051:=N
def tw14607739516429609003:=N
def tw13384362341060948043:=N
def tw15937710636305571915:=N
def tw2317383160024801387:=N
def tw17701443178996900629:=N
def tw10962324612420679883:=N
def tw1319859505809949142:=N
def tw15055987530051671339:=N
def tw7250177902128869008:=N
def tw6817677576681411740:=N
def tw1391557398013805816:=N
def tw15149298255410196306:=N
def tw8725387085835627883:=N
def tw14075684907257641559:=N
def tw770546773236057422:=N
def tw12664191350957477419:=N
def tw15787328727289872971:=N
def tw8245142998821128811:=N
def tw8444128337515353739:=N
def tw7716530654216611531:=N
def tw6196719626368123993:=N
def tw17564321560913470219:=N
def tw7435916190276996316:=N
def tw15207476669602951705:=N
def tw13039600196402380812:=N
def tw4867824854383746942:=N
def tw627322869915154476:=N
def tw4118246286907214892:=N
def tw15181971928826631983:=N
def tw3124779089885936622:=N
def tw4802664230123378796:=N
def tw7636570389380195710:=N
def tw1324522615001882764:=N
def tw10970791856931726677:=N
def tw14465393404984356086:=N
def tw17549200844263045324:=N
def tw17113522156242519996:=N
def tw5319817706492460245:=N
def tw3345881096227388748:=N
def tw9288427933173100054:=N
def tw1867495294990242156:=N
def tw2308795592261237100:=N
def tw11912198757189770674:=N
def tw7694230213733795532:=N
def tw15475108620049225132:=N
def tw2839837763894928844:=N
def tw14465699095607472404:=N
def tw5827626429345771533:=N
def tw14470470278999618542:=N
def tw6033122662533032460:=N
def tw8328193112210704908:=N
def tw12623527740536142380:=N
def tw12485036700253706860:=N
def tw9857999516793870988:=N
def tw2011476780753338028:=N
def tw13274493609018017452:=N
def tw3807340761734838204:=N
def tw10051480032471287156:=N
def tw17558305171181525708:=N
def tw12949043256615264012:=N
def tw8928861761200443180:=N
def tw12649555790593345689:=N
def tw17812783615910919052:=N
def tw14865768040067057548:=N
def tw1789568025374095607:=N
def tw8686643280996854942:=N
def tw1825690604549162924:=N
def tw5919679886434555852:=N
def tw1075929891082441805:=N
def tw13938760835939209196:=N
def tw9569935025356577879:=N
def tw6409792621160272446:=N
def tw15404614922284146765:=N
def tw13208819964433152526:=N
def tw11456297227727343789:=N
def tw13866661027262147454:=N
def tw15658527277740459277:=N
def tw17113737248639472909:=N
def tw6342114068501119886:=N
def tw18190704259842212537:=N
def tw17799305057586871629:=N
def tw2046215678012431566:=N
def tw17794291788453140909:=N
def tw5466838226993234590:=N
def tw17177877135196581421:=N
def tw3047428719943313357:=N
def tw13282348362816047534:=N
def tw6715353231923499602:=N
def tw7380405982785132173:=N
def tw15271151616474041373:=N
def tw12027599542495879917:=N
def tw12479555223943255677:=N
def tw2785977827788196216:=N
def tw18035887348185331501:=N
def tw6858905631895135085:=N
def tw15984091836832684400:=N
def tw11494122663538845581:=N
def tw2560018198219594669:=N
def tw9845967096648949339:=N
def tw1229594199822987836:=N
def tw12889724775810309134:=N
def tw8365129254406674995:=N
def tw18123882165644616624:=N
def tw5027855272594913390:=N
def tw13292507887414511990:=N
def tw12596481269460065318:=N
def tw2082673877336033902:=N
def tw14441458269368795630:=N
def tw3365577091981639606:=N
def tw8631243878907217422:=N
def tw6810373091580942069:=N
def tw9075142877590017819:=N
def tw16181170234124299918:=N
def tw15101597016539779167:=N
def tw8395602059208578808:=N
def tw9204971516223357205:=N
def tw11082383571480850126:=N
def tw17183986424797575886:=N
def tw5943543150565280462:=N
def tw3723752171794672988:=N
def tw12629312973845794233:=N
def tw11587037400905773459:=N
def tw7201666922304905080:=N
def tw3641422291517668174:=N
def tw4622394194619101038:=N
def tw14994557959457988494:=N
def tw14866405008233805055:=N
def tw9741920784653829070:=N
def tw17733091454108246708:=N
def tw8053752822132592655:=N
def tw16885001915301599064:=N
def tw5623448964212055119:=N
def tw365766498184564603:=N
def tw7533453354507020463:=N
def tw6064536570092989679:=N
def tw8857550735505725521:=N
def tw8461783002931378004:=N
def tw17643460377857433562:=N
def tw17002477805846665647:=N
def tw9761034171732628912:=N
def tw11576518967264660911:=N
def tw13492689202046818735:=N
def tw8991163457428055535:=N
def tw6630422026808205839:=N
def tw6926072281331061263:=N
def tw13194267562321789487:=N
def tw16045212001663191631:=N
def tw14122367396262016623:=N
def tw12597792178443490648:=N
def tw5154202482991207055:=N
def tw13992307246945623827:=N
def tw16690254166461590993:=N
def tw9549638492171329231:=N
def tw8548831857704461007:=N
def tw12431424157546628879:=N
def tw10902163857304760592:=N
def tw3361874205365281647:=N
def tw7914886432952317594:=N
def tw13463778202674800572:=N
def tw7484031171969848303:=N
def tw16422812574857783312:=N
def tw17930402947205965872:=N
def tw5704673595719831664:=N
def tw3324381748482547130:=N
def tw355737279255003280:=N
def tw9518904620981802128:=N
def tw6692879652821442768:=N
def tw4050041059455278519:=N
def tw18316048790799834290:=N
def tw9818464460567261456:=N
def tw9820633957334740240:=N
def tw1342042312689648944:=N
def tw12063840925020843163:=N
def tw14885364692095438549:=N
def tw11537273260744757680:=N
def tw4830719890090625520:=N
def tw16976276737074562908:=N
def tw7178189833069154832:=N
def tw15362899241435550481:=N
def tw6904093867451208304:=N
def tw917182253143968113:=N
def tw12056011950218130192:=N
def tw2510936129179354928:=N
def tw4437250838605574960:=N
def tw1414167999785889648:=N
def tw9655515685379233648:=N
def tw11172548419853583869:=N
def tw12637294044985814905:=N
def tw2102274192466924464:=N
def tw11582115233973597136:=N
def tw5849546400874304464:=N
def tw15655553743275335664:=N
def tw10297931516009582417:=N
def tw15613400745884041329:=N
def tw15729589166688454865:=N
def tw12155528999232115153:=N
def tw2313250880500049017:=N
def tw3002458894904823927:=N
def tw12118158203510907217:=N
def tw12685055913818050961:=N
def tw1023126458851474106:=N
def tw6471673980559074397:=N
def tw16851265345005346257:=N
def tw5932440279533673969:=N
def tw909195722784109559:=N
def tw7179820888290470232:=N
def tw14698068793664815665:=N
def tw8600034750064430490:=N
def tw11143078172293880465:=N
def tw1638569270453363345:=N
def tw12042088047857706194:=N
def tw14373503320138201854:=N
def tw5700765309427235569:=N
def tw7187962456977903409:=N
def tw7763564311996718490:=N
def tw10816032277578210492:=N
def tw16789553120523987889:=N
def tw8971124554497773489:=N
def tw7506588491214326167:=N
def tw7230788253366258770:=N
def tw17564654251159218290:=N
def tw1838436150201462365:=N
def tw11931404802233583826:=N
def tw15378257896035383506:=N
def tw4759194236114815282:=N
def tw7679247511465143698:=N
def tw17770619638941676946:=N
def tw9949071508769017266:=N
def tw14307805184010874322:=N
def tw14945426980317714930:=N
def tw16718029876192597941:=N
def tw1805793285174268434:=N
def tw14042466115185054258:=N
def tw17752034064432521874:=N
def tw12832374238575958706:=N
def tw13987008392784223922:=N
def tw17111705311901415090:=N
def tw17203187886042737362:=N
def tw10490489815814488818:=N
def tw8089593269420187378:=N
def tw10292212260457922290:=N
def tw16961067955671509778:=N
def tw16985741093544238994:=N
def tw11385557985253613113:=N
def tw12297031723680222076:=N
def tw13195959735297983474:=N
def tw2257737758097327221:=N
def tw1880656897802374163:=N
def tw10250851609830312019:=N
def tw2159664019195776083:=N
def tw17311796610145731699:=N
def tw6511317650168320348:=N
def tw12657874379290856595:=N
def tw8374286005663949971:=N
def tw3065841487215668435:=N
def tw13454724793306852319:=N
def tw16955420036776531219:=N
def tw9057469257765983289:=N
def tw10311089844852722003:=N
def tw11694918410529958294:=N
def tw15075614997832740791:=N
def tw4311901966160103802:=N
def tw861046685948992883:=N
def tw10253001057501072182:=N
def tw18405173498411733241:=N
def tw7952859957739814323:=N
def tw13005025296667094942:=N
def tw18353850471241964887:=N
def tw1596812966468359731:=N
def tw2621124350943742579:=N
def tw14047417587850290899:=N
def tw15843847063220927283:=N
def tw4957579353706443603:=N
def tw12664815992317901012:=N
def tw15752004711211291571:=N
def tw12989005077017984947:=N
def tw13221588055123801108:=N
def tw11800909809986983956:=N
def tw6567872721147521247:=N
def tw13931303265994629589:=N
def tw18164986580546872372:=N
def tw13778602470178311316:=N
def tw10587241170211183796:=N
def tw9037674922214519867:=N
def tw4408153372744010206:=N
def tw10251236295348874516:=N
def tw2105310534173776185:=N
def tw7166103455189564788:=N
def tw745653700034102740:=N
def tw9113736974112424468:=N
def tw7019960998641976829:=N
def tw1930328811226206804:=N
def tw5680448028357098100:=N
def tw7897625524418840212:=N
def tw13996216537635921556:=N
def tw7918948932258342548:=N
def tw482908938741776220:=N
def tw2728192377468947837:=N
def tw15677990343224250228:=N
def tw9301370021361653684:=N
def tw10269255568450770965:=N
def tw8883108120958307413:=N
def tw10032486880248406133:=N
def tw1625147190193764287:=N
def tw1338794244441213269:=N
def tw6136370079294669244:=N
def tw4106760488576690267:=N
def tw9558359520146256566:=N
def tw4997889308639821497:=N
def tw9599173188591396023:=N
def tw14498181936609336853:=N
def tw13014079162125947509:=N
def tw10541746628566970037:=N
def tw17082051276021921244:=N
def tw8362420733994833653:=N
def tw5142558897689053941:=N
def tw14440583898486236253:=N
def tw4683890546581259446:=N
def tw13633105730363392853:=N
def tw8016812634345518965:=N
def tw4727239604205416636:=N
def tw3929344153353387957:=N
def tw5903350880586570716:=N
def tw549437152770665590:=N
def tw5323819430337032374:=N
def tw11629178991746189526:=N
def tw11491535799175501078:=N
def tw10596221916280001467:=N
def tw17681016392975074742:=N
def tw4445967755702578646:=N
def tw15781845269813058044:=N
def tw3408606607780914710:=N
def tw6053972264428267991:=N
def tw7682497450668372566:=N
def tw1348911789997932958:=N
def tw1263722194374567510:=N
def tw1447526138101246713:=N
def tw17267557516858286006:=N
def tw15041616719031877910:=N
def tw8071378298755221719:=N
def tw2891487013649985751:=N
def tw12182658179755644151:=N
def tw9280344825380833527:=N
def tw14137323761197438429:=N
def tw14153209810904724887:=N
def tw13055592412230899127:=N
def tw5250331799439408599:=N
def tw17359744835269213947:=N
def tw8728766669923431034:=N
def tw8307664190838378071:=N
def tw10145119947063786553:=N
def tw2857885617848944350:=N
def tw13812149395438945143:=N
def tw5408727596862287767:=N
def tw18197375990666547191:=N
def tw2927253934955556348:=N
def tw10330888437525689560:=N
def tw2231356900117661787:=N
def tw9904742846651261240:=N
def tw17321695173901341080:=N
def tw12404148679241033180:=N
def tw676346050577759325:=N
def tw14552301412338969048:=N
def tw1778007756196499928:=N
def tw14674180955776476701:=N
def tw16215568635792574040:=N
def tw11639561377823455864:=N
def tw1558290649270002552:=N
def tw3256719281749214104:=N
def tw11696228180652224638:=N
def tw6302990281659783128:=N
def tw3770491696315066328:=N
def tw15985182618596433945:=N
def tw9937880382865816601:=N
def tw9757966692596370521:=N
def tw9125176901314295613:=N
def tw693592678200503545:=N
def tw9175524769059098878:=N
def tw11514636857419938137:=N
def tw11131217491964496345:=N
def tw13286552489773656095:=N
def tw13363765911553146140:=N
def tw46537749127984665:=N
def tw11952458893419573017:=N
def tw6731931576345234297:=N
def tw15643466460754755290:=N
def tw2925681297991640478:=N
def tw2733657983578428377:=N
def tw2613932383091617693:=N
def tw10471302286332610778:=N
def tw16932112720586878202:=N
def tw18275712860731090782:=N
def tw18317056807803342170:=N
def tw8459743621402771866:=N
def tw114396428100938749:=N
def tw11055321129502582811:=N
def tw10809167615780818426:=N
def tw970969081531472858:=N
def tw12245749063742651451:=N
def tw7455158663546859771:=N
def tw6577042489823928635:=N
def tw15377272495961806139:=N
def tw8605205054308852091:=N
def tw13611645912171157947:=N
def tw5985403779088262652:=N
def tw17453510087190246939:=N
def tw7940921528481625979:=N
def tw17886631620173315963:=N
def tw14825782454954850235:=N
def tw10157550142313698652:=N
def tw7884720205425241564:=N
def tw16974647917932685501:=N
def tw13170608641595336605:=N
def tw12961767848154566556:=N
def tw3393355034465749918:=N
def tw10100256242080569469:=N
def tw211202490185813245:=N
def tw17121060933489036925:=N
def tw16866404227964745790:=N
def tw8554079812632497246:=N
def tw13027467352908357758:=N
def tw3064009009893106910:=N
def tw10686660094237024127:=N
def tw6377439223321354494:=N
def tw7864540132269443582:=N
def tw7590425375092428510:=N
def tw3908917452562926398:=N
def tw17780582550141249599:=N
def tw12483451055535656511:=N
def tw5732970903216168703:=N
end PySem.W.Fast
local macro_rules|`(tactic|tm_at "h0")=>`(tactic| (refine' L2.methAt_mk ?a ?i ?l ?c ?k;(case a=>k_is);(case i=>k_is);(case l=>k_is);(case c=>k_is);(case k=>k_is)))|`(tactic|tm_at "h1")=>`(tactic| (refine' L2.defAt_mk ?a ?l ?c ?k;(case a=>k_is);(case l=>k_is);(case c=>k_is);(case k=>k_is)))|`(tactic|tm_at "h2")=>`(tactic| (refine' L2.mkAt_mk ?n ?m ?a ?i ?kc ?l ?c ?k;(case n=>k_is);(case m=>k_is);(case a=>k_is);(case i=>k_is);(case kc=>k_is);(case l=>k_is);(case c=>k_is);(case k=>k_is)))|`(tactic|tm_at "h3")=>`(tactic| (refine' L2.const_mk ?e ?r;(case e=>k_is);(case r=>exact⟨_,by with_unfolding_all rfl⟩)))|`(tactic|tm_at "h4")=>`(tactic| (refine'⟨?a,L2.fun_mk ?l ?c ?k⟩;(case a=>k_is);(case l=>k_is);(case c=>k_is);(case k=>k_is)))|`(tactic|tm_at "h5")=>`(tactic| (refine'⟨⟨?_,?_,?_,?_⟩,?_,?_,?_⟩<;>(try delta L2.NoAttr)<;>k_is))|`(tactic|tm_at "h6")=>`(tactic| (refine'⟨⟨?_,?_,?_,?_⟩,?_,?_,?_,?_⟩<;>(try delta L2.NoAttr)<;>k_is))
open PySem PySem.W PyProof.Rows
set_option maxRecDepth 100000 in
set_option maxHeartbeats 0 in
theorem PySem.Challenge.cw_fourvoices_k62_the_paper_of_prices_holds : PySem.Challenge.rw_fourvoices_k62_the_paper_of_prices.Holds := by
 w_on;o_law;k_head;(case hw=>w_witness2)
 k_fill
 refine K62.walk (l:=PySem.Challenge.rw_fourvoices_k62_the_paper_of_prices) rfl rfl (λw h Y=>PySem.W.kIn_of Y) ?F
 case F=>
  intro w mg fa h KX G hmg;refine' K62.all_mk KX G hmg ?Zfc ?Zar ?Zfd ?Zas ?Zfe ?Zat ?Zff ?Zau ?Zfg ?Zav ?Zfh ?Zao ?Zfi ?Zan ?Zfj ?Zaw ?Zfk ?Zax ?Zfl ?Zap ?Zfm ?Zay ?Zfn ?Zab ?Zbn ?Zbo ?Zbp ?Zbq ?Zbr ?Zbs ?Zbt ?Zbu ?Zbv ?Zbw ?Zbx ?Zby ?Zbz ?Zb0 ?Zb1 ?Zb2 ?Zb3 ?Zb4 ?Zb5 ?Zb6 ?Zb7 ?Zb8 ?Zb9 ?Zca ?Zcb ?Zcc ?Zcd ?Zce ?Zcf ?Zcg ?Zch ?Zci ?Zcj ?Zck ?Zcl ?Zcm ?Zcn ?Zco ?Zcp ?Zcq ?Zcr ?Zcs ?Zct ?Zcu ?Zcv ?Zcw ?Zcx ?Zcy ?Zcz ?Zc0 ?Zc1 ?Zc2 ?Zc3 ?Zc4 ?Zc5 ?Zc6 ?Zc7 ?Zc8 ?Zc9 ?Zda ?Zdb ?Zdc ?Zdd ?Zde ?Zdf ?Zdg ?Zdh ?Zdi ?Zdj ?Zdk ?Zdl ?Zdm ?Zdn ?Zdo ?Zdp ?Zdq ?Zdr ?Zds ?Zdt ?Zdu ?Zdv ?Zdw ?Zdx ?Zdy ?Zdz ?Zd0 ?Zd1 ?Zd2 ?Zd3 ?Zd4 ?Zd5 ?Zd6 ?Zd7 ?Zd8 ?Zd9 ?Zea ?Zeb ?Zec ?Zed ?Zee ?Zef ?Zeg ?Zeh ?Zei ?Zej ?Zek ?Zel ?Zem ?n_MAKERS ?t_MAKERS ?d_MAKERS_span ?d_MAKERS_clock ?d_MAKERS_move ?d_MAKERS_alike ?d_MAKERS_back ?d_MAKERS_held ?d_MAKERS_times ?d_MAKERS_begin ?d_MAKERS_close ?n_INNER_KINDS ?q_INNER_KINDS ?z_len ?z_range ?z_all ?z_min ?z_max ?z_abs ?z_tuple ?z_list ?z_isinstance ?z_bool ?z_int ?z_str ?z_divmod ?z_enumerate ?z_zip ?z_reversed ?g_FIGURES ?g_MOST_FIGURES ?g_MOST_VOICES ?g_MOST_RULES ?g_MOST_WEIGHT ?g_MOST_NUMBERS ?g_NO_LEAP ?g_LEAP_UP ?g_LEAP_DOWN ?g_START ?Zen
  (case Zfc=>k_is)
  (case Zar=>tm_at "h6")
  (case Zfd=>k_is)
  (case Zas=>(refine'⟨⟨?a_3,?b_3,?c_3,?d_3⟩,?f0_3,?f1_3,?f2_3,?f3_3,?f4_3⟩;(case a_3=>k_is);(case b_3=>k_is);(case c_3=>k_is);(case d_3=>k_is);(case f0_3=>delta L2.NoAttr;k_is);(case f1_3=>delta L2.NoAttr;k_is);(case f2_3=>delta L2.NoAttr;k_is);(case f3_3=>delta L2.NoAttr;k_is);(case f4_3=>delta L2.NoAttr;k_is)))
  (case Zfe=>k_is)
  (case Zat=>tm_at "h5")
  (case Zff=>k_is)
  (case Zau=>tm_at "h6")
  (case Zfg=>k_is)
  (case Zav=>tm_at "h5")
  (case Zfh=>k_is)
  (case Zao=>tm_at "h5")
  (case Zfi=>k_is)
  (case Zan=>(refine'⟨⟨?a_13,?b_13,?c_13,?d_13⟩,?f0_13,?f1_13,?f2_13,?f3_13,?f4_13⟩;(case a_13=>k_is);(case b_13=>k_is);(case c_13=>k_is);(case d_13=>k_is);(case f0_13=>delta L2.NoAttr;k_is);(case f1_13=>delta L2.NoAttr;k_is);(case f2_13=>delta L2.NoAttr;k_is);(case f3_13=>delta L2.NoAttr;k_is);(case f4_13=>delta L2.NoAttr;k_is)))
  (case Zfj=>k_is)
  (case Zaw=>tm_at "h5")
  (case Zfk=>k_is)
  (case Zax=>tm_at "h5")
  (case Zfl=>k_is)
  (case Zap=>tm_at "h6")
  (case Zfm=>k_is)
  (case Zay=>(refine'⟨⟨?a_21,?b_21,?c_21,?d_21⟩,?f0_21,?f1_21⟩;(case a_21=>k_is);(case b_21=>k_is);(case c_21=>k_is);(case d_21=>k_is);(case f0_21=>delta L2.NoAttr;k_is);(case f1_21=>delta L2.NoAttr;k_is)))
  (case Zfn=>k_is)
  (case Zab=>tm_at "h5")
  (case Zbn|Zbo|Zbp=>tm_at "h1")
  (case Zbq=>(refine' L2.cmethAt_mk ?n_27 ?r_27 ?a_27 ?g_27 ?l_27 ?c_27 ?k_27;(case n_27=>k_is);(case r_27=>k_is);(case a_27=>k_is);(case g_27=>k_is);(case l_27=>k_is);(case c_27=>k_is);(case k_27=>k_is)))
  (case Zbr|Zbs|Zbt|Zbu|Zbv|Zbw|Zbx|Zby|Zbz|Zb0|Zb1|Zb2|Zb3|Zb4|Zb5|Zb6|Zb7|Zb8|Zb9|Zca|Zcb|Zcc|Zcd|Zce|Zcf|Zcg|Zch|Zci|Zcj|Zck|Zcl|Zcm|Zcn|Zco|Zcp|Zcq|Zcr|Zcs|Zct|Zcu=>tm_at "h0")
  (case Zcv|Zcw|Zcx|Zcy|Zcz|Zc0|Zc1|Zc2|Zc3|Zc4=>tm_at "h2")
  (case Zc5|Zc6|Zc7=>tm_at "h1")
  (case Zc8|Zc9|Zda|Zdb|Zdc|Zdd|Zde|Zdf|Zdg=>tm_at "h4")
  (case Zdh|Zdi=>tm_at "h1")
  (case Zdj=>(refine' L2.defAtD_mk2 ?a_92 ?l_92 ?c_92 ?k_92 ?t_92 ?d_92 ?r_92;(case a_92=>k_is);(case l_92=>k_is);(case c_92=>k_is);(case k_92=>k_is);(case t_92=>k_is);(case d_92=>rfl);(case r_92=>exact⟨_,rfl⟩)))
  (case Zdk=>tm_at "h2")
  (case Zdl|Zdm|Zdn|Zdo|Zdp|Zdq|Zdr|Zds=>tm_at "h1")
  (case Zdt=>(refine' L2.cmethAt_mk ?n_102 ?r_102 ?a_102 ?g_102 ?l_102 ?c_102 ?k_102;(case n_102=>k_is);(case r_102=>k_is);(case a_102=>k_is);(case g_102=>k_is);(case l_102=>k_is);(case c_102=>k_is);(case k_102=>k_is)))
  (case Zdu|Zdv|Zdw|Zdx=>tm_at "h0")
  (case Zdy=>tm_at "h2")
  (case Zdz|Zd0=>tm_at "h0")
  (case Zd1=>(refine' L2.defAtD_mk2 ?a_110 ?l_110 ?c_110 ?k_110 ?t_110 ?d_110 ?r_110;(case a_110=>k_is);(case l_110=>k_is);(case c_110=>k_is);(case k_110=>k_is);(case t_110=>k_is);(case d_110=>rfl);(case r_110=>exact rfl)))
  (case Zd2|Zd3=>tm_at "h1")
  (case Zd4=>(refine' L2.defAtD_mk2 ?a_113 ?l_113 ?c_113 ?k_113 ?t_113 ?d_113 ?r_113;(case a_113=>k_is);(case l_113=>k_is);(case c_113=>k_is);(case k_113=>k_is);(case t_113=>k_is);(case d_113=>rfl);(case r_113=>exact rfl)))
  (case Zd5|Zd6|Zd7|Zd8|Zd9|Zea|Zeb|Zec|Zed|Zee|Zef|Zeg|Zeh|Zei|Zej|Zek|Zel|Zem=>tm_at "h1")
  (case n_MAKERS=>k_is)
  (case t_MAKERS=>(refine' L2.tab_mk ?l_133 ?s_133 ?x_133 ?y_133 ?z_133 ?d_133 ?r_133;(case l_133=>k_is);(case s_133=>rfl);(case x_133=>rfl);(case y_133=>rfl);(case z_133=>rfl);(case d_133=>rfl);(case r_133=>exact(L2.rowsR rfl rfl (L2.rowsR rfl rfl (L2.rowsR rfl rfl (L2.rowsR rfl rfl (L2.rowsR rfl rfl (L2.rowsR rfl rfl (L2.rowsR rfl rfl (L2.rowsR rfl rfl (L2.rowsR rfl rfl .nil))))))))))))
  (case d_MAKERS_span=>with_unfolding_all rfl)
  (case d_MAKERS_clock=>with_unfolding_all rfl)
  (case d_MAKERS_move=>with_unfolding_all rfl)
  (case d_MAKERS_alike=>with_unfolding_all rfl)
  (case d_MAKERS_back=>with_unfolding_all rfl)
  (case d_MAKERS_held=>with_unfolding_all rfl)
  (case d_MAKERS_times=>with_unfolding_all rfl)
  (case d_MAKERS_begin=>with_unfolding_all rfl)
  (case d_MAKERS_close=>with_unfolding_all rfl)
  (case n_INNER_KINDS=>k_is)
  (case q_INNER_KINDS=>(refine' L2.ktup_mk ?l_144 ?x_144 ?d_144 ?z_144 ?r_144;(case l_144=>k_is);(case x_144=>rfl);(case d_144=>rfl);(case z_144=>decide);(case r_144=>exact(.cons ⟨_,rfl⟩ (.cons ⟨_,rfl⟩ .nil)))))
  (case z_len|z_range|z_all|z_min|z_max|z_abs|z_tuple|z_list|z_isinstance|z_bool|z_int|z_str|z_divmod|z_enumerate|z_zip|z_reversed=>k_is)
  (case g_FIGURES|g_MOST_FIGURES|g_MOST_VOICES|g_MOST_RULES|g_MOST_WEIGHT|g_MOST_NUMBERS|g_NO_LEAP|g_LEAP_UP|g_LEAP_DOWN|g_START=>tm_at "h3")
  (case Zen=>tm_at "h1")
