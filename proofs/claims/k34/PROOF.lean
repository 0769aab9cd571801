import PyProof.Rows.All
import Wide.All
import OpenK.AllK
import Wide.FinOn
import Lean
import PyProof.EqAt
import PyProof.EqKinds
import PyProof.TupleCall
import KE.KTab
import KE.KRevSl
import PyProof.Rows.Range3
import PyProof.WalkInts
import PyProof.Rows.StrSplitMax
import KE.KMinKey
import PyProof.LongRange
import PyProof.ListRange
import PyProof.ExcClass3
import PyProof.InstStore
import PyProof.StationsW
import PyProof.ExcQuiet
import PyProof.RulesTry
import PyProof.ExcArgsOwn
import PyProof.DictRoadsH
import Wide.Seal
import KE.KRevIter
import PyProof.SumAny
import KE.KTryMore
import PyProof.Rows.SetFrom
import PyProof.SetRoads
import PySem.Challenge.RW_fourvoices_k34_like_states_like_tails
set_option compiler.extract_closed false
set_option Elab.async false
set_option linter.all false
set_option maxRecDepth 100000
set_option hygiene false
local macro_rules|`(())=>`(by omega)
local macro_rules|`(∅)=>`(by decide)
local macro_rules|`(⋯)=>`(by rfl)
abbrev aa0:=@List.length_map
abbrev aa1:=@List.getElem?_eq_some_iff
abbrev aa2:=@List.getElem?_eq_getElem
abbrev aa3:=@PySem.wpAny_bind
abbrev aa4:=@List.getElem?_map
abbrev aa5:=@PySem.Heap.get?_push_of_some
abbrev aa6:=@Bool.false_ne_true
abbrev aa7:=@Nat.lt_of_le_of_lt
abbrev aa8:=@List.length_append
abbrev aa9:=@Nat.le_refl
abbrev ab0:=@PySem.wpAny_pure
abbrev ab1:=@List.size_toArray
abbrev ab2:=@List.mem_cons
abbrev ab3:=@Nat.lt_of_lt_of_le
abbrev ab4:=@List.map_append
abbrev ab5:=@List.getD_eq_getElem?_getD
abbrev ab6:=@Nat.le_trans
abbrev ab7:=@List.getElem?_append_left
abbrev ab8:=@List.mem_singleton
abbrev ab9:=@PySem.Heap.get?_push_size
abbrev ac0:=@List.mem_of_getElem?
abbrev ac1:=@PySem.Heap.lt_size
abbrev ac2:=@Nat.zero_le
abbrev ac3:=@List.mem_map
abbrev ac4:=@List.mem_append
abbrev ac5:=@List.getElem?_append_right
abbrev ac6:=@List.take_add_one
abbrev ac7:=@List.map_cons
abbrev ac8:=@List.mem_append_right
abbrev ac9:=@List.length_take
abbrev ad0:=@List.forall_mem_cons
abbrev ad1:=@Int.emod_lt_of_pos
abbrev ad2:=@List.not_mem_nil
abbrev ad3:=@Nat.ne_of_lt
abbrev ad4:=@List.length_cons
abbrev ad5:=@List.getElem_mem
abbrev ad6:=@List.take_length
abbrev ad7:=@Int.emod_nonneg
abbrev ad8:=@List.mem_cons_self
abbrev ad9:=@List.mem_cons_of_mem
abbrev ae0:=@Nat.succ_le_succ
abbrev ae1:=@Int.eq_ofNat_of_zero_le
abbrev ae2:=@Bool.false_eq_true
abbrev ae3:=@List.getElem?_range
abbrev ae4:=@PySem.wpAny_truthy_bool
abbrev ae5:=@List.foldl_cons
abbrev ae6:=@List.append_nil
abbrev ae7:=@PySem.wpAny_holding
abbrev ae8:=@List.replicate_succ
abbrev ae9:=@PySem.Heap.size_push
abbrev af0:=@PySem.wpAny_field
abbrev af1:=@List.getElem?_drop
abbrev af2:=@List.find?_cons
abbrev af3:=@PySem.wpAny_mono
abbrev af4:=@Int.le_trans
abbrev af5:=@Bool.eq_iff_iff
abbrev af6:=@List.forIn_cons
abbrev af7:=@List.all_eq_true
abbrev af8:=@List.length_eq_zero_iff
abbrev af9:=@List.mem_range
abbrev ag0:=@PySem.wpAny_seqItems
abbrev ag1:=@List.take_of_length_le
abbrev ag2:=@PySem.wpAny_call_entry
abbrev ag3:=@List.lookup_cons
abbrev ag4:=@PySem.wpAny_setField_rec
abbrev ag5:=@List.mem_flatMap
abbrev ag6:=@List.getElem?_of_mem
abbrev ag7:=@Int.toNat_natCast
abbrev ag8:=@PySem.wpAny_newObj_type
abbrev ag9:=@List.flatten_cons
abbrev ah0:=@Array.toList_append
abbrev ah1:=@List.map_nil
abbrev ah2:=@List.length_drop
abbrev ah3:=@Bool.false_and
abbrev ah4:=@PySem.wpAny_Call_Name_kw
abbrev ah5:=@PySem.wpAny_passesOwn
abbrev ah6:=@Nat.le_of_lt
abbrev ah7:=@List.mem_append_left
abbrev ah8:=@List.all_map
abbrev ah9:=@List.foldl_append
abbrev ai0:=@Nat.lt_irrefl
abbrev ai1:=@List.any_cons
abbrev ai2:=@Bool.true_and
abbrev ai3:=@Bool.and_eq_true
abbrev ai4:=@PySem.wpAny_getItem_str_slice
abbrev ai5:=@List.any_eq_true
abbrev ai6:=@Int.natCast_nonneg
abbrev ai7:=@List.map_map
abbrev ai8:=@List.nodup_cons
abbrev ai9:=@PySem.wpAny_ite_false
abbrev aj0:=@PySem.wpAny_specialOf
abbrev aj1:=@List.getElem?_eq_none
abbrev aj2:=@List.mem_iff_getElem?
abbrev aj3:=@List.append_assoc
abbrev aj4:=@List.drop_eq_nil_iff
abbrev aj5:=@Nat.pow_le_pow_right
abbrev aj6:=@Nat.min_le_right
abbrev aj7:=@Nat.ne_of_gt
abbrev aj8:=@Nat.lt_succ_self
abbrev aj9:=@List.cons_append
abbrev ak0:=@Nat.sub_self
abbrev ak1:=@List.drop_eq_getElem_cons
abbrev ak2:=@Bool.or_eq_true
abbrev ak3:=@Nat.not_lt_zero
abbrev ak4:=@Int.lt_of_lt_of_le
abbrev ak5:=@Nat.add_sub_cancel
abbrev ak6:=@Int.ofNat_le
abbrev ak7:=@Nat.zero_add
abbrev ak8:=@List.any_eq_false
abbrev ak9:=@List.forIn_nil
abbrev al0:=@List.drop_drop
abbrev al1:=@List.getElem?_zipWith
abbrev al2:=@Nat.not_lt
abbrev al3:=@List.all_cons
abbrev al4:=@PySem.wpAny_updateSeq_pair
abbrev al5:=@List.mem_of_mem_take
abbrev al6:=@Nat.mul_le_mul_right
abbrev al7:=@PySem.wpAny_execs_nil
abbrev al8:=@Option.map_some
abbrev al9:=@PySem.wpAny_loadPart'
abbrev am0:=@List.range_succ
abbrev am1:=@Int.toNat_of_nonneg
abbrev am2:=@List.filterMap_cons
abbrev am3:=@Array.length_toList
abbrev am4:=@List.take_succ_cons
abbrev am5:=@List.flatten_append
abbrev am6:=@PySem.wpAny_typeOf
abbrev am7:=@Nat.succ_mul
abbrev am8:=@Int.lt_of_le_of_lt
abbrev am9:=@Array.forIn_toList
abbrev an0:=@List.getElem?_take
abbrev an1:=@List.filter_append
abbrev an2:=@PySem.wpAny_pyIter_list
abbrev an3:=@Array.size_append
abbrev an4:=@List.nodup_append
abbrev an5:=@List.flatMap_cons
abbrev an6:=@PySem.wpAny_standAt
abbrev an7:=@PySem.wpAny_onRaise
abbrev an8:=@Bool.not_true
abbrev an9:=@PySem.wpAny_isInstance
abbrev ao0:=@List.drop_length
abbrev ao1:=@List.countP_cons
abbrev ao2:=@PySem.wpAny_forIn_list
abbrev ao3:=@Int.ofNat_lt
abbrev ao4:=@PySem.codeAny_mono
abbrev ao5:=@Nat.mul_comm
abbrev ao6:=@Nat.add_zero
abbrev ao7:=@Int.lt_or_le
abbrev ao8:=@List.of_mem_zip
abbrev ao9:=@Int.natCast_mul
abbrev ap0:=@Nat.min_eq_left
abbrev ap1:=@Int.le_refl
open PySem.W (Frag instObj findIn emptyDict keepIn kia_one fnOf codeIn nsIn mg_of mg_none_of)
theorem Ft{n:Nat}(h:n<=16777216):n<=PySem.sizeLine:=by rw [PySem.sizeLine_eq];exact h
theorem HQ{n c:Nat}(h:n<=c)(k:c<=16777216):n<=PySem.sizeLine:=Ft (ab6 h k)
theorem Hq{n c:Nat}(h:n<=c)(k:c+1<=16777216):n+1<=PySem.sizeLine:=Ft (ab6 (ae0 h) k)
theorem oz4{n c:Nat}(h:n < c)(k:c<=16777216):n < PySem.sizeLine:=ab3 h (Ft k)
theorem HR{n c d:Nat}(h:n < d)(j:d<=c)(k:c<=16777216):n < PySem.sizeLine:=ab3 h (HQ j k)
theorem oz6{n c:Nat}(h:n<=c)(k:c+1<=16777216):n < PySem.sizeLine:=Hq h k
theorem oe1{a b c:Nat}(h:c < b)(e:a=b):c < a:=e▸h
theorem oe2{a b c:Nat}(h:b<=c)(e:a=b):a<=c:=e▸h
theorem oe3{a b c:Nat}(e:a=b)(h:b<=c)(k:c<=16777216):a<=PySem.sizeLine:=Ft (e▸ab6 h k)
theorem oe4{a b c d:Nat}(e:a=b)(h:b<=c)(k:c<=d):a<=d:=e▸ab6 h k
theorem oe5{a b c:Nat}(e:a=b)(h:c=b):a=c:=e.trans h.symm
theorem oe6{a b c d:Nat}(e:a=b)(h:b < c)(k:c<=d):a < d:=e▸ab3 h k
theorem oe7{a b c d:Nat}(e:a=b)(f:b=d)(h:c < d):c < a:=e▸f▸h
theorem oi1{a b c:Int}(h:b<=c)(k:a<=b):a<=c:=af4 k h
theorem oi2{a b c:Int}(h:b<=c)(k:a < b):a < c:=ak4 k h
theorem oi3{a b:Int}(h:b<=a)(k:0 < b):a≠0:=λe=>Int.not_le.mpr k (e▸h)
theorem oi4{a b c d:Int}(h:a<=b)(k:b<=c)(e:c<=d):a<=d:=af4 (af4 h k) e
theorem oi5{a b c d:Int}(h:a<=b)(k:b<=c)(e:c < d):a < d:=am8 (af4 h k) e
theorem oi6{a b c d:Int}(h:a < b)(k:b<=c)(e:c<=d):a < d:=ak4 (ak4 h k) e
theorem on1{a b c:Nat}(h:b<=c)(k:a<=b):a<=c:=ab6 k h
theorem on2{a b c:Nat}(h:b<=c)(k:a < b):a < c:=ab3 k h
theorem on3{a b:Nat}(h:b<=a)(k:0 < b):(0:Int) < a:=ao3.mpr (ab3 k h)
theorem on4{a b:Nat}(h:b<=a)(k:0 < b):(a:Int)≠0:=λe=>Nat.not_le.mpr k (Int.ofNat.inj e▸h)
theorem on5{n c:Nat}{d:Int}(h:n<=c)(k:(c:Int)<=d):(n:Int)<=d:=af4 (ak6.mpr h) k
theorem on6{n c:Nat}{d:Int}(h:n<=c)(k:(c:Int) < d):(n:Int) < d:=am8 (ak6.mpr h) k
theorem on7{n c:Nat}{d:Int}(h:c<=n)(k:d<=(c:Int)):d<=(n:Int):=af4 k (ak6.mpr h)
theorem on8(i:Nat){d:Int}(k:d<=0):d<=(i:Int):=af4 k (ai6 i)
theorem om2{n c:Nat}(h:n<=c)(k:(c:Int)+1 < 2 ^ 62):(n:Int)+1 < 2 ^ 62:=am8 (Int.add_le_add_right (ak6.mpr h) 1) k
theorem om3(n:Nat):-2 ^ 62<=(n:Int)+1:=af4 (b:=0) ∅ (ai6 (n+1))
theorem HK{o:Int}(h:0<=o):0 < o+1:=Int.lt_add_one_of_le h
theorem HL{o:Int}(h:0<=o):1<=o+1:=HK h
theorem HM{o:Int}(h:1<=o):0<=o - 1:=Int.sub_nonneg_of_le h
theorem oa3{o c:Int}(h:o<=c):o - 1 < c:=Int.sub_one_lt_of_le h
theorem oa4(o:Int):o - 1+1=o:=Int.sub_add_cancel o 1
theorem oa5{o:Int}(h:0<=o):1<=1+o:=Int.le_add_of_nonneg_right h
theorem oa6{o c:Int}(h:o < c):1+o<=c:=by rw [Int.add_comm];exact h
theorem oa7(k:Nat):((k:Int)+1 - 1).toNat=k:=by rw [Int.add_sub_cancel];rfl
theorem oa8{i n:Nat}(h:i < (n:Int).toNat):i < n:=h
theorem oa9{i n:Nat}(h:i < n):n - i=n - (i+1)+1:=(Nat.succ_pred_eq_of_pos (Nat.sub_pos_of_lt h)).symm
theorem ob0{i n:Nat}(h:i=(n:Int).toNat):i=n:=h
theorem ob1{lo hi:Int}(h:lo<=hi):0 < hi - lo+1:=Int.lt_add_one_of_le (Int.sub_nonneg_of_le h)
theorem HN{i n c d:Nat}(h:i < n)(k:n<=c)(e:c<=d):i < d:=ab3 h (ab6 k e)
theorem ob3{i n c d:Nat}(h:i < n)(k:n<=c)(e:c<=d):i<=d:=ah6 (HN h k e)
theorem ob4{i n:Nat}(h:i < n):2 * i+1 < 2 * n:=by omega
theorem ob5{i n:Nat}(h:i < n):2 * i < 2 * n:=by omega
theorem ob6{i n j:Nat}(h:i < n)(k:n=j):i < j:=k▸h
theorem GN{o:Int}(h:0<=o):o=(o.toNat:Nat):=(am1 h).symm
theorem ob7{o:Int}(h:1<=o):o - 1=((o - 1).toNat:Nat):=GN (HM h)
theorem ob8{o:Int}(h:0<=o):1+o=((1+o).toNat:Nat):=GN (Int.add_nonneg ∅ h)
theorem oc0{o:Int}(h:1<=o):o=(o.toNat:Nat):=GN (af4 ∅ h)
theorem HP(x:Int){c:Int}(h:0 < c):0<=x % c:=ad7 x (Int.ne_of_gt h)
theorem oc2(x:Int){c:Int}(h:0 < c):x % c<=c:=Int.le_of_lt (ad1 x h)
theorem oc3(x:Int){c d:Int}(h:0 < c)(k:c<=d):x % c+1<=d:=af4 (ad1 x h) k
theorem oc4(x:Int){c:Int}(h:0 < c):1<=x % c+1:=HL (HP x h)
theorem GO{x c:Int}{m:Nat}(h:0<=x)(k:x<=c)(e:c < (m:Int)):x.natAbs < m:=by omega
theorem oc6{b:Int×Int}:(b.2+1 - b.1).toNat=(b.2 - b.1+1).toNat:=by omega
theorem oc7{x a c:Int}{m:Nat}(h:0<=x)(k:x < a)(j:a<=c)(e:c < (m:Int)):x.natAbs < m:=GO h (Int.le_of_lt (ak4 k j)) e
theorem oc8{x a c:Int}{m:Nat}(h:1<=x)(k:x<=a)(j:a<=c)(e:c < (m:Int)):x.natAbs < m:=GO (af4 ∅ h) (af4 k j) e
theorem oc9{x c:Int}{m:Nat}(h:1<=x)(j:x<=c)(e:c < (m:Int)):x.natAbs < m:=GO (af4 ∅ h) j e
theorem od0{v:Int}{n m:Nat}(h:1<=v)(k:v<=n)(j:n<=4)(e:4 < m):(v - 1+1).natAbs < m:=by omega
theorem od1{p n:Nat}(h:p < n):p < 0+n:=by rw [ak7];exact h
theorem od2{p n:Nat}(h:p < 0+n):p < n:=by rw [ak7]at h;exact h
theorem od3{a b:Nat}(h:b < a)(k:a<=b):False:=Nat.not_le.mpr h k
theorem od4{a b:Int}(h:b < a)(k:a<=b):False:=Int.not_le.mpr h k
theorem od5{a b c d:Nat}(h:c < a)(e:a=b)(f:d=b):c < d:=by rw [f,<-e];exact h
theorem od6{a b c d:Nat}(h:a<=c)(k:b<=d)(e:c+d<=16777216):a+b<=PySem.sizeLine:=Ft (ab6 (Nat.add_le_add h k) e)
theorem od8{a b c d:Nat}(e:a=b)(h:b < c)(k:c<=d)(j:d<=16777216):a < PySem.sizeLine:=e▸HR h k j
theorem od9{j n:Nat}(h:¬j < n)(k:j - n=0):j=n:=Nat.le_antisymm (Nat.le_of_sub_eq_zero k) (al2.mp h)
theorem oe0{i n m:Nat}(h:¬i < n)(k:i < n+m):i - n < m:=Nat.sub_lt_left_of_lt_add (al2.mp h) k
theorem of3{n c d:Nat}(i:Nat)(k:n<=c)(e:c<=d):min i n<=d:=ab6 (aj6 i n) (ab6 k e)
theorem of4{n c:Nat}(i:Nat)(k:n<=c)(e:c+1<=16777216):min i n+1<=PySem.sizeLine:=Hq (ab6 (aj6 i n) k) e
theorem og1{i:Int}{n:Nat}(h:i < n)(k:n<=PySem.sizeLine):i < 2 ^ 63:=by rw [PySem.sizeLine_eq]at k;omega
theorem og2{i:Int}{n:Nat}(h:-(n:Int)<=i)(k:n<=PySem.sizeLine):-2 ^ 63<=i:=by rw [PySem.sizeLine_eq]at k;omega
theorem og3{j c:Int}{m:Nat}(h:0 < j)(k:j < c)(e:c<=(m:Int)):j.natAbs < m:=by omega
theorem oh1{i n m:Nat}(h:i < n)(k:n<=4)(e:4 < m):((i:Int)+1).natAbs < m:=by omega
local macro_rules | `(tactic| omega) => `(tactic| with_reducible first | assumption | exact Nat.le_refl _ | exact Int.le_refl _ | (apply Nat.le_of_lt; assumption) | (apply Int.le_of_lt; assumption) | (apply Nat.not_lt.mp; assumption) | (apply Nat.not_le.mp; assumption) | (apply Int.not_lt.mp; assumption) | (apply Int.not_le.mp; assumption) | (apply Int.ofNat_lt.mpr; assumption) | (apply Int.ofNat_le.mpr; assumption) | (apply Int.ofNat_lt.mp; assumption) | (apply Int.ofNat_le.mp; assumption) | (apply oa8; assumption) | (apply ob0; assumption) | (apply oa9; assumption) | (apply Eq.symm; assumption) | (apply Nat.le_of_eq; assumption) | (apply Int.add_one_le_of_lt; assumption) | (apply HK; assumption) | (apply HL; assumption) | (apply HM; assumption) | (apply oa3; assumption) | (apply oa5; assumption) | (apply oa6; assumption) | (apply ob1; assumption) | (apply ob4; assumption) | (apply ob5; assumption) | (apply ob7; assumption) | (apply ob8; assumption) | (apply GN; assumption) | (apply oc0; assumption) | (apply od1; assumption) | (apply od2; assumption) | (apply Nat.le_of_succ_le; assumption) | (apply Nat.lt_of_succ_lt; assumption) | (apply Nat.sub_succ_lt_self; assumption) | (apply Nat.le_succ_of_le; assumption) | exact Nat.min_le_left _ _ | exact Nat.zero_add _ | exact Nat.succ_add_eq_add_succ _ _ | exact (Int.natCast_succ _).symm | exact Nat.lt_succ_self _ | exact oa4 _ | exact oa7 _ | exact om3 _ | exact oc6 | (apply Nat.le_trans; assumption; decide) | (apply Nat.lt_of_le_of_lt; assumption; decide) | (apply Nat.lt_of_lt_of_le; assumption; decide) | (apply on1; assumption; decide) | (apply on2; assumption; decide) | (apply of3; assumption; decide) | (apply of4; assumption; decide) | (apply HQ; assumption; decide) | (apply Hq; assumption; decide) | (apply oz4; assumption; decide) | (apply oz6; assumption; decide) | (apply Int.le_trans; assumption; decide) | (apply Int.lt_of_le_of_lt; assumption; decide) | (apply Int.lt_of_lt_of_le; assumption; decide) | (apply oi1; assumption; decide) | (apply oi2; assumption; decide) | (apply oi3; assumption; decide) | (apply on3; assumption; decide) | (apply on4; assumption; decide) | (apply on5; assumption; decide) | (apply on6; assumption; decide) | (apply on7; assumption; decide) | (apply om2; assumption; decide) | (apply Ft; decide) | (apply HP; decide) | (apply Int.emod_lt_of_pos; decide) | (apply oc2; decide) | (apply oc4; decide) | (apply on8; decide) | (apply oc3; decide; decide) | (apply og1; assumption; assumption) | (apply og2; assumption; assumption) | (apply od9; assumption; assumption) | (apply oe0; assumption; assumption) | (apply od3; assumption; assumption) | (apply od4; assumption; assumption) | (apply Nat.lt_of_le_of_ne; assumption; assumption) | (apply oe1; assumption; assumption) | (apply oe2; assumption; assumption) | (apply oe5; assumption; assumption) | (apply ob6; assumption; assumption) | (apply Nat.le_trans; assumption; assumption) | (apply Nat.lt_of_lt_of_le; assumption; assumption) | (apply Nat.lt_of_le_of_lt; assumption; assumption) | (apply Int.le_trans; assumption; assumption) | (apply Int.lt_of_lt_of_le; assumption; assumption) | (apply Int.lt_of_le_of_lt; assumption; assumption) | (apply And.intro; assumption; assumption) | (apply Eq.trans; assumption; assumption) | (apply oe7; assumption; assumption; assumption) | (apply od5; assumption; assumption; assumption) | (apply oc7; assumption; assumption; assumption; decide) | (apply oc8; assumption; assumption; assumption; decide) | (apply od0; assumption; assumption; assumption; decide) | (apply od8; assumption; assumption; assumption; decide) | (apply oe3; assumption; assumption; decide) | (apply oe4; assumption; assumption; decide) | (apply oe6; assumption; assumption; decide) | (apply HN; assumption; assumption; decide) | (apply ob3; assumption; assumption; decide) | (apply HR; assumption; assumption; decide) | (apply oi4; assumption; assumption; decide) | (apply oi5; assumption; assumption; decide) | (apply oi6; assumption; assumption; decide) | (apply GO; assumption; assumption; decide) | (apply oc9; assumption; assumption; decide) | (apply od6; assumption; assumption; decide) | (apply og3; assumption; assumption; decide) | (apply oh1; assumption; assumption; decide) | decide)
namespace L2
open PySem PySem.Spec PyProof.Rows
variable {A:Around} {C a b dx f:Addr} {E Q:Value->Shared->Prop} {K:Frag} {M:Model} {P:Program} {base h h':Heap} {body:List Stmt} {c e tg:Expr} {ch fp:List Addr} {es:List Expr} {fd:FuncData} {g':Array GenState} {i j k n t':Nat} {kindOf:Str->Option NameKind} {kw:List (Str×Value)} {m x:Str} {mA mg:Str->Option Value} {op:CmpOp} {p pos pos':Pos} {pins:List (Addr×Obj)} {ps:List Str} {s s':Shared} {u:Value} {us:List Value} {w:World}
abbrev tJ:=Sum Int Str
def DW:tJ->Value->Bool
 | .inl k,v=>Value.isInt k v
 | .inr x,v=>Value.isStrOf x v
def Hi(w:World):tJ->Int
 | .inl k=>hashInt k
 | .inr x=>hashStr w x
theorem cL:∀{k:tJ} {v:Value},DW k v=true->(∃i t,k=Sum.inl i/\v=Value.int i t)\/(∃x t,k=Sum.inr x/\v=Value.str x t)
 | .inl i,v,h=>by
  obtain⟨t,e⟩:=Value.isInt_shape (k:=i) (v:=v) h;exact .inl ⟨i,t,rfl,e⟩
 | .inr x,v,h=>by
  obtain⟨t,e⟩:=Value.isStrOf_shape (x:=x) (v:=v) h;exact .inr ⟨x,t,rfl,e⟩
theorem Er(a b:Int):decide ((Sum.inl a:tJ)=Sum.inl b)=(a == b):=by
 by_cases e:a=b
 ·subst e;simp
 ·have h:¬(Sum.inl a:tJ)=Sum.inl b:=λq=>e (Sum.inl.inj q)
  rw [decide_eq_false h];exact(beq_eq_false_iff_ne.mpr e).symm
theorem Eu(a b:Str):decide ((Sum.inr a:tJ)=Sum.inr b)=decide (a=b):=by
 by_cases e:a=b
 ·subst e;simp
 ·have h:¬(Sum.inr a:tJ)=Sum.inr b:=λq=>e (Sum.inr.inj q)
  rw [decide_eq_false h,decide_eq_false e]
theorem Es(a:Int)(b:Str):decide ((Sum.inl a:tJ)=Sum.inr b)=false:=decide_eq_false (λq=>nomatch q)
theorem Et(a:Str)(b:Int):decide ((Sum.inr a:tJ)=Sum.inl b)=false:=decide_eq_false (λq=>nomatch q)
def sy(prog:Program)(w:World):PySem.KeyKind prog w tJ where
 is:=DW
 hash:=Hi w
 inj:=λv a b ha hb=>by
  rcases cL ha with⟨i,t,rfl,rfl⟩ | ⟨x,t,rfl,rfl⟩
  ·rcases cL hb with⟨j,u,rfl,e⟩ | ⟨y,u,rfl,e⟩
   ·injection e with e1 _;rw [e1]
   ·exact nomatch e
  ·rcases cL hb with⟨j,u,rfl,e⟩ | ⟨y,u,rfl,e⟩
   ·exact nomatch e
   ·injection e with e1 _;rw [e1]
 byValue:=λk v h=>by
  rcases cL h with⟨i,t,rfl,rfl⟩ | ⟨x,t,rfl,rfl⟩<;>rfl
 pyHash:=λhv h=>by
  rcases cL hv with⟨i,t,rfl,rfl⟩ | ⟨x,t,rfl,rfl⟩
  ·exact wpAny_pyHash_int h
  ·exact wpAny_pyHash_str h
 eqBool:=λhu hv h=>by
  rcases cL hu with⟨i,t,rfl,rfl⟩ | ⟨x,t,rfl,rfl⟩
  ·rcases cL hv with⟨j,u,rfl,rfl⟩ | ⟨y,u,rfl,rfl⟩
   ·rw [Er]at h;exact wpAny_eqBool_int h
   ·rw [Es]at h;exact SeqAt.EqAt.int_str i t y u _ _ _ _ h
  ·rcases cL hv with⟨j,u,rfl,rfl⟩ | ⟨y,u,rfl,rfl⟩
   ·rw [Et]at h;exact SeqAt.EqAt.str_int x t j u _ _ _ _ h
   ·rw [Eu]at h;exact wpAny_eqBool_str h
 «strs»:=λk x t v h=>by
  rcases cL h with⟨i,u,rfl,e⟩ | ⟨y,u,rfl,e⟩
  ·exact nomatch e
  ·injection e with e1 _
   subst e1
   cases v<;>rfl
inductive V where
 | non | bl (b:Bool) | int (i:Int) | str (x:Str) | byt (b:Array UInt8) | flt (b:UInt64) | ref (a:Addr) | ty (n:String)
 deriving DecidableEq
variable {v y:V} {vs xs:List V}
def aS:V->Value->Prop
 | .non,u=>u=Value.none
 | .bl b,u=>u=Value.bool b
 | .int i,u=>∃t,u=Value.int i t
 | .str x,u=>∃t,u=Value.str x t
 | .byt b,u=>∃t,u=Value.bytes b t
 | .flt b,u=>∃t,u=Value.float b t
 | .ref a,u=>u=Value.ref a
 | .ty n,u=>u=Value.type n
abbrev aX:List V->List Value->Prop:=Paired aS
theorem aX.length(r:aX xs us):xs.length=us.length:=Paired.length r
theorem aX.get:∀{xs:List V} {us:List Value} {i:Nat} {x:V},aX xs us->xs[i]?=some x->∃u,us[i]?=some u/\aS x u
 | _,_,_,_,.nil,e=>by simp at e
 | _,_,0,_,.cons r _,e=>by simp at e;subst e;exact⟨_,rfl,r⟩
 | _,_,i+1,x,.cons _ t,e=>by
  obtain⟨u,h1,h2⟩:=aX.get (i:=i) (x:=x) t (by simpa using e);exact⟨u,by simpa using h1,h2⟩
theorem aX.set{x:V}(r:aS x u):∀{xs:List V} {us:List Value} (i:Nat),aX xs us->aX (xs.set i x) (us.set i u)
 | _,_,_,.nil=>.nil
 | _,_,0,.cons _ t=>.cons r t
 | _,_,i+1,.cons q t=>.cons q (aX.set r i t)
theorem aX.append:∀{xs ys:List V} {us ws:List Value},aX xs us->aX ys ws->aX (xs++ys) (us++ws)
 | _,_,_,_,.nil,s=>s
 | _,_,_,_,.cons r t,s=>.cons r (aX.append t s)
theorem aX.take:∀{xs:List V} {us:List Value} (n:Nat),aX xs us->aX (xs.take n) (us.take n)
 | _,_,0,_=>.nil
 | _,_,_+1,.nil=>.nil
 | _,_,n+1,.cons r t=>.cons r (aX.take n t)
theorem aX.drop:∀{xs:List V} {us:List Value} (n:Nat),aX xs us->aX (xs.drop n) (us.drop n)
 | _,_,0,r=>r
 | _,_,_+1,.nil=>.nil
 | _,_,n+1,.cons _ t=>aX.drop n t
def kK:Option V->Option Value->Prop
 | some v,some u=>aS v u
 | none,none=>True
 | _,_=>False
def KV{κ:Type}:List (κ×V)->List (κ×Value)->Prop:=Paired λ(p:κ×V) (q:κ×Value)=>p.1=q.1/\aS p.2 q.2
def kV:tJ->V
 | .inl i=>.int i
 | .inr x=>.str x
inductive HO where
 | lst (xs:List V)
 | tup (xs:List V)
 | dK (kvs:List (tJ×V)) | dT (kvs:List (List tJ×V))
 | set (S:Int->Bool) (n:Nat)
 | ins (C dx:Addr) (fs:List (Str×V))
 | own (x:Addr)
 | xd (fs:List (Str×V))
 | met (f x:Addr)
 | rng (lo hi:Int)
 | frz (o:Obj) (u:HO)
 | tbl (ps:Array Value)
 | ext (φ:Heap->Prop)
variable {o:HO}
abbrev Hp:=Addr->Option HO
variable {H H':Hp} {R:V->V->Hp->Prop}
def upd(H:Hp)(a:Addr)(o:HO):Hp:=λb=>if b=a then some o else H b
theorem ae:upd H a o a=some o:=by unfold upd;rw [if_pos rfl]
theorem aj(h:b≠a):upd H a o b=H b:=by unfold upd;rw [if_neg h]
theorem bS{u:HO}:upd (upd H a o) a u=upd H a u:=by
 funext b;unfold upd;split<;>rfl
theorem dE{u:HO}(h:H a=some o)(h':H b=some u)(d:o≠u):a≠b:=by
 intro e;subst e;rw [h]at h';exact d (Option.some.inj h')
theorem ao(h:H a=some o)(h':H b=none):a≠b:=by
 intro e;subst e;rw [h]at h';cases h'
section
variable (P:Program) (w:World)
def dU(H:Hp)(h:Heap)(a:Addr):HO->Prop
 | .lst xs=>xs.length<=sizeLine/\∃(its:List Value) (n:Nat),aX xs its/\h.get? a=some { cls:=.type "list",data:=.seq its.toArray n }
 | .tup xs=>xs.length<=sizeLine/\∃its:List Value,aX xs its/\IsTup h a its.toArray
 | .dK kvs=>kvs.length<=sizeLine/\(a == sysModules)=false/\∃vs,KV kvs vs/\h.DictOf (sy P w) a vs
 | .dT kvs=>kvs.length<=sizeLine/\(a == sysModules)=false/\∃xs:List (List tJ×Addr×Value),
   Paired (λ(p:List tJ×V) (q:List tJ×Addr×Value)=>p.1=q.1/\H q.2.1=some (.tup (p.1.map kV))/\aS p.2 q.2.2) kvs xs/\
   ∃o es ep,h.get? a=some o/\o.ExactDict/\o.data=.dict es ep/\es.toList=xs.map (entryOfKey (tupleKind (sy P w)))/\(xs.map (·.1)).Nodup
 | .set S n=>h.SetOf (intKind P w) a S n
 | .ins C dx fs=>H dx=some (.own a)/\fs.length<=1000/\dx≠a/\h.get? a=some (instObj C dx)/\
   ∃mA,h.Ns1 dx mA/\(∀f,kK (fs.lookup f) (mA f))/\PySem.Within mA (fs.map (·.1))
 | .own _=>∃o,h.get? a=some o
 | .xd fs=>∃mA,h.Ns1 a mA/\∀f,kK (fs.lookup f) (mA f)
 | .rng lo hi=>∃t u v,h.get? a=some { cls:=.type "range",data:=.fields #[.int lo t,.int hi u,.int 1 v] }
 | .frz o u=>h.get? a=some o/\dU H h a u
 | .tbl ps=>h.get? a=some { cls:=.none,data:=.fields ps }
 | .met f x=>h.get? a=some (PySem.W.methodObj (.ref f) (.ref x))
 | .ext φ=>φ h/\(∃o,h.get? a=some o)/\∀h1 h2:Heap,φ h1->(∀o,h1.get? a=some o->h2.get? a=some o)->φ h2
def jT(H:Hp)(h:Heap):Prop:=∀a o,H a=some o->dU P w H h a o
end
theorem dU.lt(x:dU P w H h a o):a < h.objs.size:=by
 cases o with
 | lst xs=>obtain⟨_,_,_,_,e⟩:=x;exact ac1 e
 | tup xs=>obtain⟨_,_,_,p⟩:=x;exact p.lt
 | dK kvs=>obtain⟨_,_,_,_,o,_,_,e,_⟩:=x;exact ac1 e
 | dT kvs=>obtain⟨_,_,_,_,o,_,_,e,_⟩:=x;exact ac1 e
 | set S n=>obtain⟨o,_,_,_,e,_⟩:=x;exact ac1 e
 | ins C dx fs=>obtain⟨_,_,_,e,_⟩:=x;exact ac1 e
 | own y=>obtain⟨_,e⟩:=x;exact ac1 e
 | xd fs=>obtain⟨_,⟨_,_,_,e,_⟩,_⟩:=x;exact ac1 e
 | rng lo hi=>obtain⟨_,_,_,e⟩:=x;exact ac1 e
 | frz ob u=>obtain⟨e,_⟩:=x;exact ac1 e
 | tbl ps=>exact ac1 (show h.get? a=some _ from x)
 | met f y=>exact ac1 (show h.get? a=some _ from x)
 | ext φ=>obtain⟨_,⟨_,e⟩,_⟩:=x;exact ac1 e
theorem Paired.mapP{α β:Type}{F G:α->β->Prop}:∀{Yj:List α} {Yk:List β},Paired F Yj Yk->(∀a b,F a b->G a b)->Paired G Yj Yk
 | _,_,.nil,_=>.nil
 | _,_,.cons r t,f=>.cons (f _ _ r) (Paired.mapP t f)
theorem dU.stay(x:dU P w H h a o)(k:∀b u,(b=a\/H b=some (.own a))->h.get? b=some u->h'.get? b=some u)
  (ho:∀b,H b=some (.own a)->H' b=some (.own a)) (ht:∀b xs,H b=some (.tup xs)->H' b=some (.tup xs)):dU P w H' h' a o:=by
 induction o with
 | lst xs=>obtain⟨z,its,n,r,e⟩:=x;exact⟨z,its,n,r,k _ _ (.inl rfl) e⟩
 | tup xs=>obtain⟨z,its,r,ob,e,c⟩:=x;exact⟨z,its,r,ob,k _ _ (.inl rfl) e,c⟩
 | dK kvs=>obtain⟨z,y,vs,r,ob,es,ep,e,c⟩:=x;exact⟨z,y,vs,r,ob,es,ep,k _ _ (.inl rfl) e,c⟩
 | dT kvs=>
  obtain⟨z,y,xs,r,ob,es,ep,e,c⟩:=x;exact⟨z,y,xs,Paired.mapP r λp q z=>⟨z.1,ht _ _ z.2.1,z.2.2⟩,ob,es,ep,k _ _ (.inl rfl) e,c⟩
 | set S n=>obtain⟨ob,es,ep,t,e,c⟩:=x;exact⟨ob,es,ep,t,k _ _ (.inl rfl) e,c⟩
 | ins C dx fs=>
  obtain⟨d,z,ne,e,mA,⟨od,es,ep,e2,c⟩,r⟩:=x;exact⟨ho _ d,z,ne,k _ _ (.inl rfl) e,mA,⟨od,es,ep,k _ _ (.inr d) e2,c⟩,r⟩
 | own y=>obtain⟨ob,e⟩:=x;exact⟨ob,k _ _ (.inl rfl) e⟩
 | xd fs=>obtain⟨mA,⟨od,es,ep,e,c⟩,r⟩:=x;exact⟨mA,⟨od,es,ep,k _ _ (.inl rfl) e,c⟩,r⟩
 | rng lo hi=>obtain⟨t,u,v,e⟩:=x;exact⟨t,u,v,k _ _ (.inl rfl) e⟩
 | frz ob u ih=>obtain⟨e,q⟩:=x;exact⟨k _ _ (.inl rfl) e,ih q⟩
 | tbl ps=>
  have e:h.get? a=some { cls:=.none,data:=.fields ps }:=x;show h'.get? a=some { cls:=.none,data:=.fields ps };exact k a _ (.inl rfl) e
 | met f y=>
  have e:h.get? a=some (PySem.W.methodObj (.ref f) (.ref y)):=x;show h'.get? a=some (PySem.W.methodObj (.ref f) (.ref y));exact k a _ (.inl rfl) e
 | ext φ=>obtain⟨p,⟨o,e⟩,st⟩:=x;exact⟨st _ _ p λo q=>k _ _ (.inl rfl) q,⟨o,k _ _ (.inl rfl) e⟩,st⟩
theorem jT.lt(x:jT P w H h)(e:H a=some o):a < h.objs.size:=(x a o e).lt
theorem jT.fresh(x:jT P w H h)(e:h.objs.size<=a):H a=none:=by
 cases q:H a with
 | none=>rfl
 | some u=>exact absurd (ab3 (x.lt q) e) (ai0 _)
theorem jT.kept(x:jT P w H h)(k:∀b u,h.get? b=some u->h'.get? b=some u):jT P w H h':=λa o e=>
 (x a o e).stay (λb u _ q=>k b u q) (λ_ q=>q) λ_ _ q=>q
theorem jT.laid(x:jT P w H h)(k:∀b u,h.get? b=some u->h'.get? b=some u)(hp:h.objs.size<=a)(new:dU P w (upd H a o) h' a o):jT P w (upd H a o) h':=λb u e=>by
 have hn:=x.fresh hp
 by_cases hb:b=a
 ·subst hb;rw [ae]at e;cases e;exact new
 ·rw [aj hb]at e
  exact(x b u e).stay (λc v _ q=>k c v q) (λc q=>by rw [aj (ao q hn)];exact q) λc xs q=>by rw [aj (ao q hn)];exact q
def Rd(H:Hp)(a:Addr)(u:HO):Prop:=H a=some u\/∃o,H a=some (.frz o u)
theorem Rd.ok{u:HO}(r:Rd H a u)(x:jT P w H h):dU P w H h a u:=by
 rcases r with r | ⟨o,r⟩
 ·exact x a u r
 ·obtain⟨_,q⟩:=x a _ r
  exact q
def GG:Option HO->Prop
 | some (.lst _)=>True
 | some (.dK _)=>True
 | some (.dT _)=>True
 | some (.set _ _)=>True
 | some (.ins _ _ _)=>True
 | some (.ext _)=>True
 | _=>False
section
variable {x e:Addr} {o':HO}
theorem jT.write(ok:jT P w H h)(mu:GG (H x))(he:e=x\/H e=some (.own x))(k:∀b u,b≠e->h.get? b=some u->h'.get? b=some u)(heo:∃u,h'.get? e=some u)
  (new:dU P w (upd H x o') h' x o'):jT P w (upd H x o') h':=λb u q=>by
 have nown:∀c y,H c=some (.own y)->c≠x:=λc y r z=>by subst z;rw [r]at mu;exact mu
 have ntup:∀c xs,H c=some (.tup xs)->c≠x:=λc xs r z=>by subst z;rw [r]at mu;exact mu
 by_cases hb:b=x
 ·subst hb;rw [ae]at q;cases q;exact new
 ·rw [aj hb]at q
  by_cases hbe:b=e
  ·have q':H b=some (.own x):=by
    rcases he with z | z
    ·exact absurd (hbe.trans z) hb
    ·rw [hbe];exact z
   rw [q]at q';cases q';obtain⟨v,hv⟩:=heo;exact⟨v,by rw [hbe];exact hv⟩
  ·refine(ok b u q).stay (λc v hc r=>k c v ?_ r) (λc r=>by rw [aj (nown c b r)];exact r) λc xs r=>by rw [aj (ntup c xs r)];exact r
   rcases hc with rfl | hc
   ·exact hbe
   ·rintro rfl
    rcases he with z | z
    ·exact nown c b hc z
    ·rw [hc]at z;cases z;exact hb rfl
end
structure Un(fs ex:List Addr)(H H':Hp)(h h':Heap):Prop where
 keep:∀b o,h.get? b=some o->H b=none->b∉fs->b∉ex->h'.get? b=some o
 slot:∀b o,h.get? b=some o->H b=none->b∈fs->b∉ex->∃sl,h'.get? b=some { o with slots:=sl }
 free:∀b o,h.get? b=some o->H b=none->b∉ex->H' b=none
 there:∀b o,h.get? b=some o->b∉ex->∃o',h'.get? b=some o'
 tups:∀b xs,H b=some (.tup xs)->H' b=some (.tup xs)
 frzs:∀b o u,H b=some (.frz o u)->H' b=some (.frz o u)
 tbls:∀b ps,H b=some (.tbl ps)->∃more,H' b=some (.tbl (ps++more))
section
variable {fs fs' ex ex':List Addr} {H1 H2:Hp} {h1 h2:Heap} {x e:Addr}
theorem Un.any(u:Un fs ex H H1 h h1){ob:Obj}(q:h.get? b=some ob)(n:H b=none)(hx:b∉ex):∃sl,h1.get? b=some { ob with slots:=sl }:=by
 by_cases hb:b∈fs
 ·exact u.slot b ob q n hb hx
 ·exact⟨ob.slots,u.keep b ob q n hb hx⟩
theorem Un.kept(k:∀b u,h.get? b=some u->h'.get? b=some u):Un fs ex H H h h':=
 ⟨λb ob q _ _ _=>k b ob q,λb ob q _ _ _=>⟨ob.slots,k b ob q⟩,λ_ _ _ n _=>n,λb ob q _=>⟨ob,k b ob q⟩,λ_ _ q=>q,λ_ _ _ q=>q,λ_ ps q=>⟨#[],by rw [q];simp⟩⟩
theorem Un.refl:Un fs ex H H h h:=Un.kept λ_ _ q=>q
theorem Un.laid(k:∀b u,h.get? b=some u->h'.get? b=some u)(hp:h.objs.size<=a)(hn:H a=none):Un fs ex H (upd H a o) h h' where
 keep:=λb u q _ _ _=>k b u q
 slot:=λb u q _ _ _=>⟨u.slots,k b u q⟩
 free:=λb u q n _=>by rw [aj (ad3 (ab3 (ac1 q) hp))];exact n
 there:=λb u q _=>⟨u,k b u q⟩
 tups:=λb xs q=>by rw [aj (ao q hn)];exact q
 frzs:=λb u xs q=>by rw [aj (ao q hn)];exact q
 tbls:=λb ps q=>⟨#[],by rw [aj (ao q hn),q];simp⟩
theorem Un.write(mu:GG (H x))(he:e=x\/H e=some (.own x))(k:∀b u,b≠e->h.get? b=some u->h'.get? b=some u)(heo:∃u,h'.get? e=some u):Un fs ex H (upd H x o) h h':=by
 have hx:∀b,H b=none->b≠x:=λb n z=>by subst z;rw [n]at mu;exact mu
 have hb:∀b,H b=none->b≠e:=λb n z=>by
  subst z;rcases he with r | r
  ·exact hx b n r
  ·rw [n]at r;cases r
 have hm:∀b u,H b=some u->¬GG (some u)->b≠x:=λb u q nm z=>by subst z;rw [q]at mu;exact nm mu
 refine⟨λb u q n _ _=>k b u (hb b n) q,λb u q n _ _=>⟨u.slots,k b u (hb b n) q⟩,λb u q n _=>by rw [aj (hx b n)];exact n,λb u q _=>?_,
  λb xs q=>by rw [aj (hm b _ q λz=>z)];exact q,λb u xs q=>by rw [aj (hm b _ q λz=>z)];exact q,λb ps q=>⟨#[],by rw [aj (hm b _ q λz=>z),q];simp⟩⟩
 by_cases hbe:b=e
 ·subst hbe;exact heo
 ·exact⟨u,k b u hbe q⟩
end
def GV(h:Heap)(H:Hp):List Addr:=(List.range h.objs.size).filter λa=>(H a).isSome
def sg(h:Heap)(H:Hp):Heap:=PySem.W.hideAll h (GV h H)
theorem yn(h:Heap)(H:Hp):(sg h H).objs.size=h.objs.size:=PySem.W.hideAll_size _ _
theorem zR{o:Obj}(e:h.get? b=some o)(n:H b=none):(sg h H).get? b=some o:=
 PySem.W.hideAll_get _ e λhm=>by
  have q:(H b).isSome=true:=(List.mem_filter.mp hm).2;rw [n]at q;simp at q
theorem CI{o:Obj}(e:(sg h H).get? b=some o):h.get? b=some o/\H b=none:=by
 have e':h.get? b=some o:=PySem.W.of_hideAll (GV h H) e;refine⟨e',?_⟩
 cases q:H b with
 | none=>rfl
 | some x=>
  have hm:b∈GV h H:=List.mem_filter.mpr ⟨af9.mpr (ac1 e'),by simp [q]⟩;have z:(sg h H).get? b=none:=PySem.W.hideAll_none (GV h H) hm;rw [z]at e;cases e
structure Mod(K:Frag)(mg:Str->Option Value)(base:Heap):Prop where
 kin:K.In base
 glob:base.Ns mainGlobals mg
 blt:∃mb,base.Ns builtinsNs mb/\∀x:Str,x≠"__name__"->mb x=bootBuiltins x
 nolimit:base.NoLimit
structure Cx where
 prog:Program
 w:World
 K:Frag
 mg:Str->Option Value
 base:Heap
 A:Around
 N:List Str
 Zh:Shared
 Z2:Hp
 env:Env
 outer:List Env
 stack:List Env
 ex:List Addr
 fn:Str->Bool
 calm:Bool
 pn:List (Addr×Obj)
 xe:Value->Shared->Prop
variable {X:Cx}
def u7(l:List Env):List Addr:=l.filterMap (·.frame)
abbrev Cx.fs(X:Cx):List Addr:=u7 X.outer
def GI(sc:Scope)(x:Str):Prop:=sc.names.lookup x=some .local\/sc.names.lookup x=some .cell\/sc.names.lookup x=some .free
def Fn(sc:Scope)(x:Str):Prop:=sc.names.lookup x=some .local\/sc.names.lookup x=some .cell
def G8(env:Env)(h:Heap)(m:Str->Option Value)(x:Str)(u:Value):Prop:=
 (env.kindOf x=some .local/\m x=some u)\/((env.kindOf x=some .cell\/env.kindOf x=some .free)/\∃c,env.cells.lookup x=some c/\h.IsCell c (some u))
structure Cx.Ok(X:Cx):Prop where
 mod:Mod X.K X.mg X.base
 kind:X.env.scope.kind=.function
 glob:X.env.globals=mainGlobals
 blt:X.env.builtins=builtinsNs
 above:X.Zh.heap.objs.size<=X.env.locals
 inj:∀x y c,X.env.cells.lookup x=some c->X.env.cells.lookup y=some c->x=y
 has:∀x,(X.env.kindOf x=some .cell\/X.env.kindOf x=some .free)->∃c,X.env.cells.lookup x=some c
 cab:∀x c,X.fn x=true->X.env.cells.lookup x=some c->X.Zh.heap.objs.size<=c
 hd:X.calm=true->X.A.handled=none
 frames:X.A.frames=some X.stack
 stk:X.stack=X.outer\/(X.stack=X.env::X.outer/\X.env.frame=some X.env.locals)
 exf:∀b∈X.ex,b≠X.env.locals/\∀x c,X.env.cells.lookup x=some c->c≠b
 bs:∀b o,X.base.get? b=some o->X.Zh.heap.get? b=some o/\X.Z2 b=none
 bsz:X.base.objs.size<=X.Zh.heap.objs.size
 noex:∀b o,X.base.get? b=some o->b∉X.ex
 exfs:∀b∈X.ex,b∉X.fs
 funs:X.Zh.heap.FunFrames X.base X.outer
 frf:∀b∈X.fs,X.Z2 b=none
structure aO(X:Cx)(pins:List (Addr×Obj))(Z:List (Option V))(H:Hp)(s:Shared):Prop where
 ok:X.Ok
 os:s.os=X.Zh.os
 bare:AllBare s.gens
 base:Un X.fs X.ex X.Z2 H X.Zh.heap s.heap
 loc:∃m,s.heap.Ns X.env.locals m/\∀(i:Nat) (x:Str) (v:V),X.N[i]?=some x->Z[i]?=some (some v)->GI X.env.scope x->∃u,aS v u/\G8 X.env s.heap m x u
 cell:∀x c,X.env.cells.lookup x=some c->∃v,s.heap.IsCell c v
 free:H X.env.locals=none
 freeC:∀x c,X.env.cells.lookup x=some c->H c=none
 pin:∀p∈X.pn++pins,s.heap.get? p.1=some p.2/\H p.1=none/\p.1≠X.env.locals/\p.1∉X.fs/\∀v,p.2.data≠.cell v
 hok:jT X.prog X.w H s.heap
 len:Z.length=X.N.length
section
variable {Z:List (Option V)}
theorem Cx.Ok.nofr(ok:X.Ok){o:Obj}(e:X.base.get? b=some o):b∉X.fs:=λhb=>by
 have:=(ok.funs.mem hb).1
 rw [e]at this;cases this
theorem aO.bs(I:aO X pins Z H s):∀b o,X.base.get? b=some o->s.heap.get? b=some o/\H b=none:=λb o e=>
 ⟨I.base.keep b o (I.ok.bs b o e).1 (I.ok.bs b o e).2 (I.ok.nofr e) (I.ok.noex b o e),I.base.free b o (I.ok.bs b o e).1 (I.ok.bs b o e).2 (I.ok.noex b o e)⟩
theorem aO.bk(I:aO X pins Z H s):∀b o,X.base.get? b=some o->s.heap.get? b=some o:=λb o e=>(I.bs b o e).1
theorem aO.mod(I:aO X pins Z H s):Mod X.K X.mg X.base:=I.ok.mod
theorem aO.kIn(I:aO X pins Z H s):X.K.In s.heap:=I.ok.mod.kin.keeps I.bk
theorem aO.lt(I:aO X pins Z H s):X.env.locals < s.heap.objs.size:=let ⟨_,hn,_⟩:=I.loc;hn.lt
theorem aO.sz(I:aO X pins Z H s):X.Zh.heap.objs.size<=s.heap.objs.size:=ab6 I.ok.above (ah6 I.lt)
theorem aO.nofs(I:aO X pins Z H s)(h:s.heap.objs.size<=a):a∉X.fs:=λhb=>by
 obtain⟨_,o,ho,_⟩:=I.ok.funs.mem hb;exact absurd (ab3 (ac1 ho) (ab6 I.sz h)) (ai0 _)
theorem aO.cne(I:aO X pins Z H s):∀x c,X.env.cells.lookup x=some c->c≠X.env.locals:=λx c e z=>by
 obtain⟨v,o,ho,hd⟩:=I.cell x c e;obtain⟨m,⟨o',es,ep,ho',hd',_⟩,_⟩:=I.loc;rw [z,ho']at ho;cases ho;rw [hd']at hd;cases hd
theorem aO.funs(I:aO X pins Z H s):s.heap.FunFrames X.base X.outer:=by
 have all:∀(l:List Env),(∀b∈u7 l,b∈X.fs)->X.Zh.heap.FunFrames X.base l->s.heap.FunFrames X.base l:=by
  intro l
  induction l with
  | nil=>intro _ _;trivial
  | cons env r ih=>
   rintro hs ⟨hk,⟨L,o,hf,hn,ho,hd⟩,hr⟩;have hL:L∈X.fs:=hs L (by unfold u7;rw [am2,hf];exact ad8);obtain⟨sl,e⟩:=I.base.slot L o ho (I.ok.frf L hL) hL λz=>I.ok.exfs L z hL;exact⟨hk,⟨L,_,hf,hn,e,hd⟩,ih (λb hb=>hs b (by unfold u7;rw [am2,hf];exact ad9 _ hb)) hr⟩
 exact all X.outer (λ_ hb=>hb) I.ok.funs
theorem aO.stack(I:aO X pins Z H s):s.heap.FunFrames X.base X.stack:=by
 rcases I.ok.stk with e | ⟨e,hf⟩
 ·rw [e];exact I.funs
 ·rw [e]
  obtain⟨m,hn,_⟩:=I.loc;refine .cons (by rw [I.ok.kind];decide) hf hn ?_ I.funs;exact Heap.get?_none_of_le (ab6 I.ok.bsz I.ok.above)
theorem aO.stkSub(I:aO X pins Z H s):∀b∈u7 X.stack,b∈X.env.locals::X.fs:=λb hb=>by
 rcases I.ok.stk with e | ⟨e,hf⟩
 ·rw [e]at hb;exact ad9 _ hb
 ·rw [e]at hb
  unfold u7 at hb;rw [am2,hf]at hb;exact hb
theorem aO.stkFree(I:aO X pins Z H s):∀b∈u7 X.stack,H b=none:=λb hb=>by
 rcases ab2.mp (I.stkSub b hb)with e | hb
 ·rw [e];exact I.free
 ·obtain⟨_,o,ho,_⟩:=I.ok.funs.mem hb
  exact I.base.free b o ho (I.ok.frf b hb) λz=>I.ok.exfs b z hb
theorem aO.step{d':Drawn}(I:aO X pins Z H s)
  (hch:∀b∈ch,(b∈X.ex\/X.Zh.heap.objs.size<=b)/\b≠X.env.locals/\(∀x c,X.env.cells.lookup x=some c->c≠b)/\∀p∈X.pn++pins,p.1≠b)
  (keep:∀b o,b≠X.env.locals->b∉X.fs->b∉ch->s.heap.get? b=some o->H b=none->h'.get? b=some o)
  (slot:∀b o,b≠X.env.locals->b∈X.fs->b∉ch->s.heap.get? b=some o->H b=none->∃sl,h'.get? b=some { o with slots:=sl }) (free:∀b o,b∉ch->s.heap.get? b=some o->H b=none->H' b=none)
  (there:∀b o,b∉ch->s.heap.get? b=some o->∃o',h'.get? b=some o')
  (tups:∀b xs,H b=some (.tup xs)->H' b=some (.tup xs)) (frzs:∀b o u,H b=some (.frz o u)->H' b=some (.frz o u)) (tbls:∀b ps,H b=some (.tbl ps)->∃more,H' b=some (.tbl (ps++more)))
  (ns:∀m,s.heap.Ns X.env.locals m->h'.Ns X.env.locals m) (hok:jT X.prog X.w H' h') (hg:AllBare g') :
  aO X pins Z H' { s with heap:=h',gens:=g',drawn:=d',toks:=t' }:=by
 have neL:∀b o,X.Zh.heap.get? b=some o->b≠X.env.locals:=λb o e=>ad3 (ab3 (ac1 e) I.ok.above)
 have neC:∀b o,X.Zh.heap.get? b=some o->b∉X.ex->b∉ch:=λb o e hx hb=>by
  rcases(hch b hb).1 with z | z
  ·exact hx z
  ·exact absurd (ab3 (ac1 e) z) (ai0 _)
 have cellK:∀x c,X.env.cells.lookup x=some c->∀v,s.heap.IsCell c v->h'.IsCell c v:=λx c e v ⟨o,ho,hd⟩=>by
  have nch:c∉ch:=λz=>(hch c z).2.2.1 x c e rfl
  by_cases hc:c∈X.fs
  ·obtain⟨sl,q⟩:=slot c o (I.cne x c e) hc nch ho (I.freeC x c e)
   exact⟨_,q,hd⟩
  ·exact⟨o,keep c o (I.cne x c e) hc nch ho (I.freeC x c e),hd⟩
 refine⟨I.ok,I.os,hg,⟨λb o e n hb hx=>?_,λb o e n hb hx=>?_,λb o e n hx=>?_,λb o e hx=>?_,λb xs e=>tups b xs (I.base.tups b xs e),λb o xs e=>frzs b o xs (I.base.frzs b o xs e),λb ps e=>?_⟩,?_,λx c e=>?_,?_,λx c e=>?_,λp hp=>?_,hok,I.len⟩
 ·exact keep b o (neL b o e) hb (neC b o e hx) (I.base.keep b o e n hb hx) (I.base.free b o e n hx)
 ·obtain⟨sl,e1⟩:=I.base.slot b o e n hb hx
  obtain⟨sl',e2⟩:=slot b _ (neL b o e) hb (neC b o e hx) e1 (I.base.free b o e n hx);exact⟨sl',e2⟩
 ·obtain⟨o',e1⟩:=I.base.there b o e hx
  exact free b o' (neC b o e hx) e1 (I.base.free b o e n hx)
 ·obtain⟨o',e1⟩:=I.base.there b o e hx
  exact there b o' (neC b o e hx) e1
 ·obtain⟨m1,e1⟩:=I.base.tbls b ps e
  obtain⟨m2,e2⟩:=tbls b _ e1;exact⟨m1++m2,by rw [e2,Array.append_assoc]⟩
 ·obtain⟨m,hn,hl⟩:=I.loc
  refine⟨m,ns m hn,λi x v e1 e2 e3=>?_⟩;obtain⟨u,r,l⟩:=hl i x v e1 e2 e3;refine⟨u,r,?_⟩;rcases l with l | ⟨k,c,e,z⟩
  ·exact .inl l
  ·exact .inr ⟨k,c,e,cellK x c e _ z⟩
 ·obtain⟨v,z⟩:=I.cell x c e
  exact⟨v,cellK x c e v z⟩
 ·obtain⟨m,⟨o,_,_,ho,_⟩,_⟩:=I.loc
  exact free _ o (λz=>(hch _ z).2.1 rfl) ho I.free
 ·obtain⟨v,o,ho,hd⟩:=I.cell x c e
  exact free c o (λz=>(hch c z).2.2.1 x c e rfl) ho (I.freeC x c e)
 ·obtain⟨e,n,ne,nf,d⟩:=I.pin p hp
  have nch:p.1∉ch:=λz=>(hch p.1 z).2.2.2 p hp rfl;exact⟨keep p.1 p.2 ne nf nch e n,free p.1 p.2 nch e n,ne,nf,d⟩
theorem aO.un(I:aO X pins Z H s)(u:Un X.fs [] H H' s.heap h')(hok:jT X.prog X.w H' h'):aO X pins Z H' { s with heap:=h',toks:=t' }:=by
 obtain⟨m,⟨o,es,ep,ho,r⟩,_⟩:=id I.loc;obtain⟨sl,hL⟩:=u.any ho I.free (by simp)
 exact I.step (g':=s.gens) (d':=s.drawn) (ch:=[]) (λ_ z=>nomatch z) (λb o _ hb _ e n=>u.keep b o e n hb (by simp)) (λb o _ hb _ e n=>u.slot b o e n hb (by simp)) (λb o _ e n=>u.free b o e n (by simp)) (λb o _ e=>u.there b o e (by simp)) u.tups u.frzs u.tbls (λm' hm=>by
  obtain⟨o',es',ep',ho',r'⟩:=hm;rw [ho]at ho';cases ho'
  exact⟨_,es',ep',hL,r'⟩) hok I.bare
theorem aO.call{d':Drawn}(I:aO X pins Z H s)(u:Un (u7 X.stack) ch H H' s.heap h')(hok:jT X.prog X.w H' h')(hg:AllBare g')
  (hch:∀b∈ch,(b∈X.ex\/X.Zh.heap.objs.size<=b)/\b≠X.env.locals/\(∀x c,X.env.cells.lookup x=some c->c≠b)/\∀p∈X.pn++pins,p.1≠b) :
  aO X pins Z H' { s with heap:=h',gens:=g',drawn:=d',toks:=t' }:=by
 obtain⟨m,⟨o,es,ep,ho,r⟩,_⟩:=id I.loc;obtain⟨sl,hL⟩:=u.any ho I.free λz=>(hch _ z).2.1 rfl
 exact I.step (ch:=ch) hch (λb o hL hb hc e n=>u.keep b o e n (λz=>(ab2.mp (I.stkSub b z)).elim hL hb) hc) (λb o _ _ hc e n=>u.any e n hc) (λb o hc e n=>u.free b o e n hc) (λb o hc e=>u.there b o e hc) u.tups u.frzs u.tbls (λm' hm=>by
  obtain⟨o',es',ep',ho',r'⟩:=hm;rw [ho]at ho';cases ho'
  exact⟨_,es',ep',hL,r'⟩) hok hg
theorem aO.turned{it:Addr}(I:aO X pins Z H s)(k:∀b o,b≠it->s.heap.get? b=some o->h'.get? b=some o)(hn:H it=none)(hL:it≠X.env.locals)
  (h1:it∈X.ex\/X.Zh.heap.objs.size<=it) (h2:∀x c,X.env.cells.lookup x=some c->c≠it) (h3:∀p∈X.pn++pins,p.1≠it):aO X pins Z H { s with heap:=h',toks:=t' }:=by
 have nit:∀b u,H b=some u->b≠it:=λb u e z=>by rw [z,hn]at e;cases e
 refine I.step (g':=s.gens) (d':=s.drawn) (ch:=[it]) (λb hb=>?_) (λb o _ _ hc e _=>k b o (λz=>hc (by simp [z])) e) (λb o _ _ hc e _=>⟨o.slots,k b o (λz=>hc (by simp [z])) e⟩) (λ_ _ _ _ n=>n)
  (λb o hc e=>⟨o,k b o (λz=>hc (by simp [z])) e⟩) (λ_ _ e=>e) (λ_ _ _ e=>e) (λb ps e=>⟨#[],by rw [e];simp⟩) (λm hm=>?_) (λb u e=>?_) I.bare
 ·have e:b=it:=by simpa using hb
  subst e;exact⟨h1,hL,h2,h3⟩
 ·obtain⟨o,es,ep,ho,r⟩:=hm
  exact⟨o,es,ep,k _ o (Ne.symm hL) ho,r⟩
 ·refine(I.hok b u e).stay (λc v hc q=>k c v ?_ q) (λ_ q=>q) λ_ _ q=>q
  rcases hc with z | z
  ·rw [z];exact nit b u e
  ·exact nit c _ z
theorem aO.tok(I:aO X pins Z H s)(t:Nat):aO X pins Z H { s with toks:=t }:=I.un (h':=s.heap) (t':=t) Un.refl I.hok
theorem aO.kept(I:aO X pins Z H s)(k:∀b u,s.heap.get? b=some u->h'.get? b=some u):aO X pins Z H { s with heap:=h',toks:=t' }:=I.un (Un.kept k) (I.hok.kept k)
theorem aO.laid(I:aO X pins Z H s)(k:∀b u,s.heap.get? b=some u->h'.get? b=some u)(hp:s.heap.objs.size<=a)(new:dU X.prog X.w (upd H a o) h' a o):
  aO X pins Z (upd H a o) { s with heap:=h',toks:=t' }:=I.un (Un.laid k hp (I.hok.fresh hp)) (I.hok.laid k hp new)
theorem aO.write{x e:Addr}(I:aO X pins Z H s)(mu:GG (H x))(he:e=x\/H e=some (.own x))(k:∀b u,b≠e->s.heap.get? b=some u->h'.get? b=some u)(heo:∃u,h'.get? e=some u)
  (new:dU X.prog X.w (upd H x o) h' x o):aO X pins Z (upd H x o) { s with heap:=h',toks:=t' }:=I.un (Un.write mu he k heo) (I.hok.write mu he k heo new)
theorem aO.pins_of{pins':List (Addr×Obj)}(I:aO X pins Z H s)(h:∀p∈pins',s.heap.get? p.1=some p.2/\H p.1=none/\p.1≠X.env.locals/\p.1∉X.fs/\∀v,p.2.data≠.cell v):aO X pins' Z H s:=
 ⟨I.ok,I.os,I.bare,I.base,I.loc,I.cell,I.free,I.freeC,λp hp=>(ac4.mp hp).elim (λz=>I.pin p (ah7 _ z)) (h p),I.hok,I.len⟩
theorem ug{N:List Str}(hN:N.Nodup)(a:N[i]?=some x)(b:N[j]?=some x):i=j:=by
 obtain⟨h1,e1⟩:=aa1.mp a;obtain⟨h2,e2⟩:=aa1.mp b;exact(List.getElem_inj hN).mp (e1.trans e2.symm)
theorem rL{Q:Unit->Shared->Prop}(I:aO X pins Z H s)(hN:X.N.Nodup)(hi:X.N[i]?=some x)(hx:Fn X.env.scope x)(r:aS v u)
  (h:∀s',aO X pins (Z.set i (some v)) H s'->(∃a,Heap.SameBut a s.heap s'.heap/\(a=X.env.locals\/X.env.cells.lookup x=some a))->Q Unit.unit s') (hf:X.fn x=true\/X.env.scope.names.lookup x=some .local:=by first | exact .inl rfl | exact .inr rfl | assumption):wpAny M A (storeName X.env x u) Q E s:=by
 obtain⟨m,hn,hl⟩:=id I.loc
 have hcls:(X.env.scope.kind == .class || (X.env.scope.kind == .module && X.env.locals != X.env.globals))=false:=by rw [I.ok.kind];rfl
 have Yl:i < Z.length:=by rw [I.len];exact(aa1.mp hi).1
 have cne:=I.cne
 have tracked:∀{a:Addr} {h':Heap},(∃o,s.heap.get? a=some o/\H a=none)->Heap.SameBut a s.heap h'->jT X.prog X.w H h':=λ{a h'} ha hs b ob e=>by
  obtain⟨_,_,hfree⟩:=ha;refine(I.hok b ob e).stay (λc w' hc q=>(hs.2 c ?_).trans q) (λ_ q=>q) λ_ _ q=>q;rintro rfl;rcases hc with rfl | hc
  ·rw [hfree]at e;cases e
  ·rw [hfree]at hc;cases hc
 rcases hx with hk | hk
 ·refine wpAny_storeName_local hk hn (λh' hn' hs=>?_) hcls
  obtain⟨oL,_,_,hoL,_⟩:=id hn;refine h _ ⟨I.ok,I.os,I.bare,⟨λb o e n hb hx=>?_,λb o e n hb hx=>?_,I.base.free,λb o e hx=>?_,I.base.tups,I.base.frzs,I.base.tbls⟩,⟨_,hn',λj y v' e1 e2 e3=>?_⟩,λy c e=>?_,I.free,I.freeC,λp hp=>?_,tracked ⟨oL,hoL,I.free⟩ hs,by simpa using I.len⟩ ⟨_,hs,.inl rfl⟩
  ·exact(hs.2 b (ad3 (ab3 (ac1 e) I.ok.above))).trans (I.base.keep b o e n hb hx)
  ·obtain⟨sl,e1⟩:=I.base.slot b o e n hb hx
   exact⟨sl,(hs.2 b (ad3 (ab3 (ac1 e) I.ok.above))).trans e1⟩
  ·obtain⟨o',e1⟩:=I.base.there b o e hx
   exact⟨o',(hs.2 b (ad3 (ab3 (ac1 e) I.ok.above))).trans e1⟩
  ·by_cases hj:j=i
   ·subst hj
    rw [hi]at e1;cases e1;rw [List.getElem?_set_self Yl]at e2;cases e2;exact⟨u,r,.inl ⟨hk,by simp⟩⟩
   ·rw [List.getElem?_set_ne (Ne.symm hj)]at e2
    obtain⟨u',r',q⟩:=hl j y v' e1 e2 e3;refine⟨u',r',?_⟩;rcases q with⟨k,e⟩ | ⟨k,c,e,z⟩
    ·refine .inl ⟨k,?_⟩
     have:y≠x:=λe=>hj (ug hN e1 (e▸hi))
     simp [this,e]
    ·exact .inr ⟨k,c,e,z.sameBut hs (cne y c e)⟩
  ·obtain⟨w',z⟩:=I.cell y c e
   exact⟨w',z.sameBut hs (cne y c e)⟩
  ·obtain⟨e,n,ne,nf,d⟩:=I.pin p hp
   exact⟨(hs.2 p.1 ne).trans e,n,ne,nf,d⟩
 ·have hfn:X.fn x=true:=by
   rcases hf with z | z
   ·exact z
   ·rw [z]at hk;cases hk
  obtain⟨c,hc⟩:=I.ok.has x (.inl hk);obtain⟨w',z⟩:=I.cell x c hc;refine wpAny_storeName_cell I.ok.kind hk hc z (λh' hc' hs=>?_);obtain⟨oc,hoc,hocd⟩:=id z;refine h { s with heap:=h' } ⟨I.ok,I.os,I.bare,⟨λb o e n hb hx=>?_,λb o e n hb hx=>?_,I.base.free,λb o e hx=>?_,I.base.tups,I.base.frzs,I.base.tbls⟩,⟨m,hn.sameBut hs (Ne.symm (cne x c hc)),λj y v' e1 e2 e3=>?_⟩,λy c' e=>?_,I.free,I.freeC,λp hp=>?_,tracked ⟨oc,hoc,I.freeC x c hc⟩ hs,by simpa using I.len⟩ ⟨c,hs,.inr hc⟩
  ·exact(hs.2 b (ad3 (ab3 (ac1 e) (I.ok.cab x c hfn hc)))).trans (I.base.keep b o e n hb hx)
  ·obtain⟨sl,e1⟩:=I.base.slot b o e n hb hx
   exact⟨sl,(hs.2 b (ad3 (ab3 (ac1 e) (I.ok.cab x c hfn hc)))).trans e1⟩
  ·obtain⟨o',e1⟩:=I.base.there b o e hx
   exact⟨o',(hs.2 b (ad3 (ab3 (ac1 e) (I.ok.cab x c hfn hc)))).trans e1⟩
  ·by_cases hj:j=i
   ·subst hj
    rw [hi]at e1;cases e1;rw [List.getElem?_set_self Yl]at e2;cases e2;exact⟨u,r,.inr ⟨.inl hk,c,hc,hc'⟩⟩
   ·rw [List.getElem?_set_ne (Ne.symm hj)]at e2
    obtain⟨u',r',q⟩:=hl j y v' e1 e2 e3;refine⟨u',r',?_⟩;rcases q with q | ⟨k,c',e,z'⟩
    ·exact .inl q
    ·refine .inr ⟨k,c',e,z'.sameBut hs ?_⟩
     rintro rfl;exact hj (ug hN e1 (I.ok.inj _ _ _ e hc▸hi))
  ·by_cases hcc:c'=c
   ·subst hcc;exact⟨_,hc'⟩
   ·obtain⟨w2,z2⟩:=I.cell y c' e
    exact⟨w2,z2.sameBut hs hcc⟩
  ·obtain⟨e,n,ne,nf,d⟩:=I.pin p hp
   refine⟨(hs.2 p.1 ?_).trans e,n,ne,nf,d⟩;intro q;rw [q,hoc]at e;have q':oc=p.2:=Option.some.inj e;exact d w' (by rw [<-q'];exact hocd)
theorem pP{Q:Unit->Shared->Prop}(I:aO X pins Z H s)(hN:X.N.Nodup)(hi:X.N[i]?=some x)(hx:Fn X.env.scope x)(r:aS v u)
  (h:∀s',aO X pins (Z.set i (some v)) H s'->Q Unit.unit s') (hf:X.fn x=true\/X.env.scope.names.lookup x=some .local:=by first | exact .inl rfl | exact .inr rfl | assumption):wpAny M A (storeName X.env x u) Q E s:=
 rL I hN hi hx r (λs' I' _=>h s' I') hf
theorem aO.call'(I:aO X pins Z H s)(ho:s'.os=s.os)(u:Un (u7 X.stack) ch H H' s.heap s'.heap)(hok:jT X.prog X.w H' s'.heap)(hg:AllBare s'.gens)
  (hch:∀b∈ch,(b∈X.ex\/X.Zh.heap.objs.size<=b)/\b≠X.env.locals/\(∀x c,X.env.cells.lookup x=some c->c≠b)/\∀p∈X.pn++pins,p.1≠b):aO X pins Z H' s':=by
 obtain⟨h',g',d',t',o'⟩:=s';have e:o'=s.os:=ho;subst e;exact I.call (g':=g') (t':=t') (d':=d') u hok hg hch
end
abbrev XK:=Value->Option Addr->Hp->Prop
abbrev St:=List (Option V)
variable {Z:St}
abbrev VK:=V->Hp->Prop
abbrev TE:=St->Hp->VK->Prop
variable {ta te:TE}
abbrev TT:=St->Hp->(Bool->Hp->Prop)->Prop
abbrev TA:=St->Hp->(List V->Hp->Prop)->Prop
variable {t:TA}
structure jK where
 nx:St->Hp->Prop
 rt:VK
 bk:St->Hp->Prop:=λ_ _=>False
 ct:St->Hp->Prop:=λ_ _=>False
variable {D:jK}
abbrev TS:=jK->St->Hp->Prop
variable {tb:TS}
def EP(X:Cx)(pins:List (Addr×Obj))(Z:St)(Q:VK)(u:Value)(s':Shared):Prop:=∃v H',aO X pins Z H' s'/\aS v u/\Q v H'
def TP(X:Cx)(pins:List (Addr×Obj))(Z:St)(Q:Bool->Hp->Prop)(b:Bool)(s':Shared):Prop:=∃H',aO X pins Z H' s'/\Q b H'
def AP(X:Cx)(pins:List (Addr×Obj))(Z:St)(Q:List V->Hp->Prop)(us:List Value)(s':Shared):Prop:=∃vs H',aO X pins Z H' s'/\aX vs us/\Q vs H'
def SP(X:Cx)(pins:List (Addr×Obj))(D:jK)(f:Flow)(s':Shared):Prop:=
 match f with
 | .next=>∃Zc H',aO X pins Zc H' s'/\D.nx Zc H'
 | .brk=>∃Zc H',aO X pins Zc H' s'/\D.bk Zc H'
 | .cont=>∃Zc H',aO X pins Zc H' s'/\D.ct Zc H'
 | .ret u=>∃v Zc H',aO X pins Zc H' s'/\aS v u/\D.rt v H'
def PE(X:Cx)(e:Expr)(t:TE):Prop:=
 ∀(pins:List (Addr×Obj)) (s:Shared) (Z:St) (H:Hp) (Q:VK),aO X pins Z H s->t Z H Q->wpAny (model X.prog X.w) X.A (eval e X.env) (EP X pins Z Q) X.xe s
def PT(X:Cx)(e:Expr)(t:TT):Prop:=
 ∀(pins:List (Addr×Obj)) (s:Shared) (Z:St) (H:Hp) (Q:Bool->Hp->Prop),aO X pins Z H s->t Z H Q->wpAny (model X.prog X.w) X.A (isTrue e X.env (eval e X.env)) (TP X pins Z Q) X.xe s
def PW(X:Cx)(e:Expr)(t:TT):Prop:=
 ∀(whole:Sem Value) (pins:List (Addr×Obj)) (s:Shared) (Z:St) (H:Hp) (Q:Bool->Hp->Prop),aO X pins Z H s->t Z H Q->wpAny (model X.prog X.w) X.A (isTrue e X.env whole) (TP X pins Z Q) X.xe s
theorem PW.pt{t:TT}(h:PW X e t):PT X e t:=h _
def PA(X:Cx)(es:List Expr)(t:TA):Prop:=
 ∀(pos:Pos) (pins:List (Addr×Obj)) (s:Shared) (Z:St) (H:Hp) (Q:List V->Hp->Prop),aO X pins Z H s->t Z H Q->wpAny (model X.prog X.w) X.A (spliced (backTo pos (starEach es X.env))) (AP X pins Z Q) X.xe s
def PS(X:Cx)(st:Stmt)(t:TS):Prop:=
 ∀(pins:List (Addr×Obj)) (s:Shared) (Z:St) (H:Hp) (D:jK),aO X pins Z H s->t D Z H->wpAny (model X.prog X.w) X.A (exec st X.env) (SP X pins D) X.xe s
def wQ(X:Cx)(st:List Stmt)(t:TS):Prop:=
 ∀(pins:List (Addr×Obj)) (s:Shared) (Z:St) (H:Hp) (D:jK),aO X pins Z H s->t D Z H->wpAny (model X.prog X.w) X.A (execs st X.env) (SP X pins D) X.xe s
theorem cW{α:Type}{t:Sem α}{Q Q':α->Shared->Prop}(h:wpAny M A t Q E s)(hQ:∀a s,Q a s->Q' a s):wpAny M A t Q' E s:=af3 h hQ λ_ _ x=>x
section
theorem bin{a b:Expr}{tb:TE}(ha:PE X a ta)(hb:PE X b tb)(I:aO X pins Z H s)(h:ta Z H λx H1=>tb Z H1 λy H2=>R x y H2)
  {α:Type} {Q:α->Shared->Prop} {f:Value->Value->Sem α}
  (hf:∀v u s2 x y H2,aO X pins Z H2 s2->aS x v->aS y u->R x y H2->wpAny (model X.prog X.w) X.A (f v u) Q X.xe s2) :
  wpAny (model X.prog X.w) X.A (eval a X.env) (λv Zg=>wpAny (model X.prog X.w) X.A (eval b X.env) (λu Zw=>wpAny (model X.prog X.w) X.A (f v u) Q X.xe Zw) X.xe Zg) X.xe s:=by
 refine cW (ha pins s Z H _ I h) λv s1 zq0=>?_;obtain⟨x,H1,I1,r1,q1⟩:=zq0;refine cW (hb pins s1 Z H1 _ I1 q1) λu s2 zq0=>?_;obtain⟨y,H2,I2,r2,q2⟩:=zq0;exact hf v u s2 x y H2 I2 r1 r2 q2
def Fe(i:Nat):TE:=λZ H Q=>∃v,Z[i]?=some (some v)/\Q v H
def tC(v:V):TE:=λ_ H Q=>Q v H
theorem EI(hN:X.N[i]?=some x)(hv:GI X.env.scope x)(hd:(x == ("__debug__":Str))=false:=by decide)(hcd:(x == ("__classdict__":Str))=false:=by decide):PE X (.Name x pos) (Fe i):=by
 rintro pins s Z H Q I ⟨v,e,h⟩;obtain⟨m,hn,hl⟩:=I.loc;obtain⟨u,r,l⟩:=hl i x v hN e hv;have fin:EP X pins Z Q u s:=⟨v,H,I,r,h⟩;rcases l with⟨hk,hm⟩ | ⟨hk,c,hc,hcell⟩
 ·exact wpAny_Name (wpAny_loadName_local I.ok.kind hk hn hm fin) hd
 ·rcases hk with hk | hk
  ·exact wpAny_Name (wpAny_loadName_cell I.ok.kind hk hc hcell fin) hd
  ·exact wpAny_Name (wpAny_loadName_free I.ok.kind hk hc hcell fin hcd) hd
theorem af{i j pos}:PE X (.Constant (.int i) j pos) (tC (.int i)):=λ_ _ _ H _ I h=>wpAny_Constant_int ⟨.int i,H,I.tok _,⟨_,rfl⟩,h⟩
theorem lA{b j pos}:PE X (.Constant (.bool b) j pos) (tC (.bl b)):=λ_ _ _ H _ I h=>Constant_bool ⟨.bl b,H,I,rfl,h⟩
theorem aZ{j pos}:PE X (.Constant .none j pos) (tC .non):=λ_ _ _ H _ I h=>Constant_none ⟨.non,H,I,rfl,h⟩
theorem aW{x j pos}:PE X (.Constant (.str x) j pos) (tC (.str x)):=λ_ _ _ H _ I h=>Calls.Constant_str ⟨.str x,H,I.tok _,⟨_,rfl⟩,h⟩
def Gl(X:Cx)(x:Str):Prop:=X.env.kindOf x=some .globalImplicit
theorem nL(I:aO X pins Z H s)(hg:Gl X x)(hm:X.mg x=some u)(h:Q u s)
  (hd:(x == ("__debug__":Str))=false:=by decide):wpAny (model X.prog X.w) X.A (eval (.Name x pos) X.env) Q E s:=
 Calls.Name_function_global I.ok.kind hg (Calls.loadGlobal_global (by rw [I.ok.glob];exact I.mod.glob.keeps I.bk) hm h) hd
theorem gH(I:aO X pins Z H s)(hg:Gl X x)(hm:X.mg x=none)(hv:bootBuiltins x=some u)(h:Q u s)
  (hn:x≠"__name__":=by decide) (hd:(x == ("__debug__":Str))=false:=by decide):wpAny (model X.prog X.w) X.A (eval (.Name x pos) X.env) Q E s:=by
 obtain⟨mb,h1,h2⟩:=I.mod.blt;exact Calls.Name_function_global I.ok.kind hg (Calls.loadGlobal_builtin (by rw [I.ok.glob];exact I.mod.glob.keeps I.bk) hm (by rw [I.ok.blt];exact h1.keeps I.bk) ((h2 x hn).trans hv) h) hd
theorem C5(hg:Gl X x)(hm:X.mg x=some u)(r:aS v u)(hd:(x == ("__debug__":Str))=false:=by decide):PE X (.Name x pos) (tC v):=
 λ_ _ _ H _ I h=>nL I hg hm ⟨v,H,I,r,h⟩ hd
theorem xh(hg:Gl X x)(hm:X.mg x=none)(hv:bootBuiltins x=some u)(r:aS v u)(hn:x≠"__name__":=by decide)(hd:(x == ("__debug__":Str))=false:=by decide):PE X (.Name x pos) (tC v):=
 λ_ _ _ H _ I h=>gH I hg hm hv ⟨v,H,I,r,h⟩ hn hd
variable {a b:Expr} {tb:TE}
variable {tA tB':TT} {rest:List Expr}
def E3(t u:TT):TT:=λZ H Q=>t Z H λc H1=>if c=true then u Z H1 Q else Q false H1
def HB(t u:TT):TT:=λZ H Q=>t Z H λc H1=>if c=true then Q true H1 else u Z H1 Q
def E8(t:TT):TT:=λZ H Q=>t Z H λc H1=>Q (!c) H1
theorem jH(ha:PT X a tA):PW X (.BoolOp .And [a] pos) tA:=by
 intro wh pins s Z H Q I h;refine isTrue_and (cW (ha pins s Z H Q I h) λc s1 e=>?_)
 cases c with
 | true=>exact isTrue_and_nil e
 | false=>exact e
theorem cR(ha:PT X a tA):PW X (.BoolOp .Or [a] pos) tA:=by
 intro wh pins s Z H Q I h;refine isTrue_or (cW (ha pins s Z H Q I h) λc s1 e=>?_)
 cases c with
 | false=>exact isTrue_or_nil e
 | true=>exact e
theorem j8(ha:PT X a tA)(hb:PW X (.BoolOp .And (b::rest) pos) tB'):PW X (.BoolOp .And (a::b::rest) pos) (E3 tA tB'):=by
 intro wh pins s Z H Q I h;refine isTrue_and (cW (ha pins s Z H _ I h) λc s1 zq0=>?_);obtain⟨H1,I1,q1⟩:=zq0
 cases c with
 | true=>exact hb wh pins s1 Z H1 Q I1 q1
 | false=>exact⟨H1,I1,q1⟩
theorem da(ha:PT X a tA)(hb:PW X (.BoolOp .Or (b::rest) pos) tB'):PW X (.BoolOp .Or (a::b::rest) pos) (HB tA tB'):=by
 intro wh pins s Z H Q I h;refine isTrue_or (cW (ha pins s Z H _ I h) λc s1 zq0=>?_);obtain⟨H1,I1,q1⟩:=zq0
 cases c with
 | true=>exact⟨H1,I1,q1⟩
 | false=>exact hb wh pins s1 Z H1 Q I1 q1
theorem cJ(ha:PT X a tA):PT X (.UnaryOp .Not a pos) (E8 tA):=by
 intro pins s Z H Q I h;exact isTrue_not (ha pins s Z H (λc H1=>Q (!c) H1) I h)
def uY(ta tb:TE):TE:=λZ H Q=>ta Z H λx H1=>∃c,x=.bl c/\if c=true then tb Z H1 Q else Q (.bl false) H1
def Bz(ta tb:TE):TE:=λZ H Q=>ta Z H λx H1=>∃c,x=.bl c/\if c=true then Q (.bl true) H1 else tb Z H1 Q
def Gy(ta:TE):TE:=λZ H Q=>ta Z H λx H1=>∃c,x=.bl c/\Q (.bl (!c)) H1
theorem fG{op}{t:TE}(h:PE X a t):PE X (.BoolOp op [a] pos) t:=λpins s Z H Q I hw=>BoolOp_one (h pins s Z H Q I hw)
theorem gj(ha:PE X a ta)(hb:PE X (.BoolOp .And (b::rest) pos) tb):PE X (.BoolOp .And (a::b::rest) pos) (uY ta tb):=by
 intro pins s Z H Q I h;refine BoolOp_and (cW (ha pins s Z H _ I h) λv s1 zq0=>?_);obtain⟨x,H1,I1,r1,c,rfl,q1⟩:=zq0;cases r1;refine ae4 ?_
 cases c with
 | true=>exact hb pins s1 Z H1 Q I1 q1
 | false=>exact⟨.bl false,H1,I1,rfl,q1⟩
theorem DZ(ha:PE X a ta)(hb:PE X (.BoolOp .Or (b::rest) pos) tb):PE X (.BoolOp .Or (a::b::rest) pos) (Bz ta tb):=by
 intro pins s Z H Q I h;refine BoolOp_or (cW (ha pins s Z H _ I h) λv s1 zq0=>?_);obtain⟨x,H1,I1,r1,c,rfl,q1⟩:=zq0;cases r1;refine ae4 ?_
 cases c with
 | false=>exact hb pins s1 Z H1 Q I1 q1
 | true=>exact⟨.bl true,H1,I1,rfl,q1⟩
def HA(t:TT)(ta tb:TE):TE:=λZ H Q=>t Z H λc H1=>if c=true then ta Z H1 Q else tb Z H1 Q
theorem c8(hc:PT X c tA)(ha:PE X a ta)(hb:PE X b tb):PE X (.IfExp c a b pos) (HA tA ta tb):=by
 intro pins s Z H Q I h;refine wpAny_IfExp (cW (hc pins s Z H _ I h) λd s1 zq0=>?_);obtain⟨H1,I1,q1⟩:=zq0
 cases d with
 | true=>exact ha pins s1 Z H1 Q I1 q1
 | false=>exact hb pins s1 Z H1 Q I1 q1
end
def aJ(K:Frag)(H:Hp)(a:Addr)(xs:List V):Prop:=
 Rd H a (.lst xs)\/
  ∃(o:Obj) (its:Array Value) (n:Nat),K.lookup a=some o/\o.cls=.type "list"/\o.dict=none/\o.data=.seq its n/\its.size<=sizeLine/\aX xs its.toList
def cI(K:Frag)(H:Hp)(a:Addr)(xs:List V):Prop:=
 Rd H a (.tup xs)\/
  ∃(o:Obj) (its:Array Value) (n:Nat),K.lookup a=some o/\o.cls=.type "tuple"/\o.data=.seq its n/\its.size<=sizeLine/\aX xs its.toList
def Hd:Value->Option V
 | .none=>some .non
 | .bool b=>some (.bl b)
 | .int i _=>some (.int i)
 | .str x _=>some (.str x)
 | .bytes b _=>some (.byt b)
 | .float b _=>some (.flt b)
 | .ref a=>some (.ref a)
 | .type n=>some (.ty n)
 | _=>none
theorem aS.abs{x:V}(r:aS x u):Hd u=some x:=by
 cases x with
 | non=>cases r;rfl
 | bl _=>cases r;rfl
 | int _=>obtain⟨t,rfl⟩:=r;rfl
 | str _=>obtain⟨t,rfl⟩:=r;rfl
 | byt _=>obtain⟨t,rfl⟩:=r;rfl
 | flt _=>obtain⟨t,rfl⟩:=r;rfl
 | ref _=>cases r;rfl
 | ty _=>cases r;rfl
theorem aS.inj{x:V}(r:aS x u)(q:aS y u):x=y:=Option.some.inj (r.abs.symm.trans q.abs)
theorem aX.inj:∀{xs ys:List V} {us:List Value},aX xs us->aX ys us->xs=ys
 | _,_,_,.nil,.nil=>rfl
 | _,_,_,.cons r t,.cons r' t'=>by rw [r.inj r',aX.inj t t']
section
variable {ys:List V}
theorem aJ.of(h:H a=some (.lst xs)):aJ K H a xs:=.inl (.inl h)
theorem cI.of(h:H a=some (.tup xs)):cI K H a xs:=.inl (.inl h)
theorem aO.list(I:aO X pins Z H s)(h:aJ X.K H a xs):∃its:List Value,aX xs its/\PlainL s.heap a its.toArray/\xs.length<=sizeLine:=by
 rcases h with h | ⟨o,its,n,hk,hc,hd,hs,hz,r⟩
 ·obtain⟨z,its,n,r,e⟩:=h.ok I.hok
  exact⟨its,r,⟨_,n,e,rfl,rfl,rfl⟩,z⟩
 ·refine⟨its.toList,r,⟨o,n,I.kIn a o hk,hc,hd,by simpa using hs⟩,?_⟩
  have e:=r.length;simp only [am3]at e;omega
theorem aO.tuple(I:aO X pins Z H s)(h:cI X.K H a xs):∃its:List Value,aX xs its/\IsTup s.heap a its.toArray/\xs.length<=sizeLine:=by
 rcases h with h | ⟨o,its,n,hk,hc,hs,hz,r⟩
 ·obtain⟨z,its,r,p⟩:=h.ok I.hok
  exact⟨its,r,p,z⟩
 ·refine⟨its.toList,r,⟨o,I.kIn a o hk,hc,n,by simpa using hs⟩,?_⟩
  have e:=r.length;simp only [am3]at e;omega
theorem aO.list_inj(I:aO X pins Z H s)(h:aJ X.K H a xs)(h':aJ X.K H a ys):xs=ys:=by
 obtain⟨its,r,⟨o,n,e,_,_,d⟩,_⟩:=I.list h;obtain⟨its',r',⟨o',n',e',_,_,d'⟩,_⟩:=I.list h';rw [e]at e';cases e';rw [d]at d'
 injection d' with d1 _
 have:its=its':=by simpa using congrArg Array.toList d1
 subst this;exact r.inj r'
theorem aO.tuple_inj(I:aO X pins Z H s)(h:cI X.K H a xs)(h':cI X.K H a ys):xs=ys:=by
 obtain⟨its,r,⟨o,e,_,n,d⟩,_⟩:=I.tuple h;obtain⟨its',r',⟨o',e',_,n',d'⟩,_⟩:=I.tuple h';rw [e]at e';cases e';rw [d]at d'
 injection d' with d1 _
 have:its=its':=by simpa using congrArg Array.toList d1
 subst this;exact r.inj r'
end
abbrev Cx.wish(X:Cx)(E:Value->Shared->Prop):Cx:={ X with xe:=E }
abbrev Cx.nox(X:Cx):Cx:=X.wish λ_ _=>False
theorem Cx.Ok.wish(ok:X.Ok)(E:Value->Shared->Prop):(X.wish E).Ok:=
 ⟨ok.mod,ok.kind,ok.glob,ok.blt,ok.above,ok.inj,ok.has,ok.cab,ok.hd,ok.frames,ok.stk,ok.exf,ok.bs,ok.bsz,ok.noex,ok.exfs,ok.funs,ok.frf⟩
theorem Cx.Ok.unwish(ok:(X.wish E).Ok):X.Ok:=
 ⟨ok.mod,ok.kind,ok.glob,ok.blt,ok.above,ok.inj,ok.has,ok.cab,ok.hd,ok.frames,ok.stk,ok.exf,ok.bs,ok.bsz,ok.noex,ok.exfs,ok.funs,ok.frf⟩
theorem aO.wish(I:aO X pins Z H s)(E:Value->Shared->Prop):aO (X.wish E) pins Z H s:=⟨I.ok.wish E,I.os,I.bare,I.base,I.loc,I.cell,I.free,I.freeC,I.pin,I.hok,I.len⟩
theorem aO.unwish(I:aO (X.wish E) pins Z H s):aO X pins Z H s:=⟨I.ok.unwish,I.os,I.bare,I.base,I.loc,I.cell,I.free,I.freeC,I.pin,I.hok,I.len⟩
theorem SP.unwish{f:Flow}(h:SP (X.wish E) pins D f s'):SP X pins D f s':=by
 cases f with
 | next=>obtain⟨Zc,H',I,q⟩:=h;exact⟨Zc,H',I.unwish,q⟩
 | brk=>obtain⟨Zc,H',I,q⟩:=h;exact⟨Zc,H',I.unwish,q⟩
 | cont=>obtain⟨Zc,H',I,q⟩:=h;exact⟨Zc,H',I.unwish,q⟩
 | ret u=>obtain⟨v,Zc,H',I,r,q⟩:=h;exact⟨v,Zc,H',I.unwish,r,q⟩
theorem wQ.nox{st:List Stmt}{t:TS}(h:wQ X.nox st t):wQ X st t:=λpins s Z H D I hw=>
 af3 (h pins s Z H D (I.wish _) hw) (λ_ _ q=>q.unwish) λ_ _ z=>False.elim z
section
variable {st:Stmt} {rest:List Stmt} {t u:TS}
def xD:TS:=λD Z H=>D.nx Z H
def jw(t u:TS):TS:=λD Z H=>t { D with nx:=u D } Z H
theorem aB:wQ X [] xD:=λ_ _ Z H _ I h=>al7 ⟨Z,H,I,h⟩
theorem ag(h1:PS X st t)(h2:wQ X rest u):wQ X (st::rest) (jw t u):=by
 intro pins s Z H D I h;refine wpAny_execs_cons (cW (h1 pins s Z H { D with nx:=u D } I h) λf s1 q=>?_)
 cases f with
 | next=>
  obtain⟨Zc,H',I',q⟩:=q;exact h2 pins s1 Zc H' D I' q
 | ret v=>exact q
 | brk=>exact q
 | cont=>exact q
theorem ai(h1:PS X st t):wQ X [st] t:=by
 intro pins s Z H D I h;refine wpAny_execs_cons (cW (h1 pins s Z H D I h) λf s1 q=>?_)
 cases f with
 | next=>exact al7 q
 | ret v=>exact q
 | brk=>exact q
 | cont=>exact q
def Bt:TS:=λD Z H=>D.ct Z H
theorem jc:PS X (.Continue pos) Bt:=λ_ _ Z H _ I h=>wpAny_Continue ⟨Z,H,I,h⟩
theorem aO.quiet(I:aO X pins Z H s):interactive X.env=false:=by simp [interactive,I.ok.kind]
def Bu(te:TE):TS:=λD Z H=>te Z H λ_ H1=>D.nx Z H1
theorem bG(he:PE X e te)(hs:swapsWith e none pos.line X.env=pure false:=by rfl):PS X (.Expr e pos) (Bu te):=by
 intro pins s Z H D I h;exact wpAny_Expr_any (cW (he pins s Z H _ I h) λv s1 ⟨x,H1,I1,r1,q1⟩=>⟨Z,H1,I1,q1⟩) I.quiet hs
def Fd(te:TE):TS:=λD Z H=>te Z H D.rt
theorem av(he:PE X e te):PS X (.Return (some e) pos) (Fd te):=by
 intro pins s Z H D I h;exact wpAny_Return_some (cW (he pins s Z H _ I h) λv s1 ⟨x,H1,I1,r1,q1⟩=>⟨x,Z,H1,I1,r1,q1⟩)
def Ea:TS:=λD _ H=>D.rt .non H
def Bv(c:TT)(t u:TS):TS:=λD Z H=>c Z H λb H1=>if b=true then t D Z H1 else u D Z H1
theorem aP{a b:List Stmt}{tc:TT}(hc:PT X c tc)(ha:wQ X a t)(hb:wQ X b u):PS X (.If c a b pos) (Bv tc t u):=by
 intro pins s Z H D I h;refine wpAny_If (cW (hc pins s Z H _ I h) λd s1 zq0=>?_);obtain⟨H1,I1,q1⟩:=zq0
 cases d with
 | true=>exact ha pins s1 Z H1 D I1 q1
 | false=>exact hb pins s1 Z H1 D I1 q1
def E7:TS:=λ_ _ _=>False
theorem lC:PS X st E7:=λ_ _ _ _ _ _ h=>h.elim
end
abbrev TG:=V->St->Hp->(St->Hp->Prop)->Prop
variable {g:TG}
abbrev BW:=List V->St->Hp->(St->Hp->Prop)->Prop
def PG(X:Cx)(target:Expr)(t:TG):Prop:=
 ∀(pins:List (Addr×Obj)) (s:Shared) (Z:St) (H:Hp) (v:V) (u:Value) (Q:St->Hp->Prop),aO X pins Z H s->aS v u->t v Z H Q->
  wpAny (model X.prog X.w) X.A (assign target X.env u) (λ_ s'=>∃Zc H',aO X pins Zc H' s'/\Q Zc H') X.xe s
def Fz(X:Cx)(ts:List Expr)(t:BW):Prop:=
 ∀(pins:List (Addr×Obj)) (s:Shared) (Z:St) (H:Hp) (vs:List V) (us:List Value) (Q:St->Hp->Prop),aO X pins Z H s->aX vs us->t vs Z H Q->
  wpAny (model X.prog X.w) X.A (assignInOrder ((assignEach ts X.env).map (·.2)) us) (λ_ s'=>∃Zc H',aO X pins Zc H' s'/\Q Zc H') X.xe s
abbrev zi:=V->V->V->Hp->(Hp->Prop)->Prop
def BS(X:Cx)(t:zi):Prop:=
 ∀(pins:List (Addr×Obj)) (s:Shared) (Z:St) (H:Hp) (o i v:V) (ov iv u:Value) (Q:Hp->Prop),aO X pins Z H s->aS o ov->aS i iv->aS v u->t o i v H Q->
  wpAny (model X.prog X.w) X.A (setItem ov iv u) (λ_ s'=>∃H',aO X pins Z H' s'/\Q H') X.xe s
abbrev Fp:=V->V->Hp->VK->Prop
def PIp(X:Cx)(op:Operator)(t:Fp):Prop:=
 ∀(pins:List (Addr×Obj)) (s:Shared) (Z:St) (H:Hp) (x y:V) (v u:Value) (Q:VK),aO X pins Z H s->aS x v->aS y u->t x y H Q->
  wpAny (model X.prog X.w) X.A (inplaceOp op v u) (EP X pins Z Q) X.xe s
def iH(i:Nat):TG:=λv Z H Q=>Q (Z.set i (some v)) H
theorem bM(hN:X.N.Nodup)(hi:X.N[i]?=some x)(hx:Fn X.env.scope x)(hf:X.fn x=true\/X.env.scope.names.lookup x=some .local:=by first | exact .inl rfl | exact .inr rfl | assumption):PG X (.Name x pos) (iH i):=by
 intro pins s Z H v u Q I r h;exact wpAny_assign_Name (pP I hN hi hx r (λs' I'=>⟨_,H,I',h⟩) hf)
def FO:BW:=λvs Z H Q=>vs=[]/\Q Z H
def DM(t:TG)(u:BW):BW:=λvs Z H Q=>∃v r,vs=v::r/\t v Z H λZc H'=>u r Zc H' Q
theorem fU:Fz X [] FO:=by
 rintro pins s Z H vs us Q I r ⟨e,h⟩;subst e;cases r;exact assignInOrder_nil ⟨Z,H,I,h⟩
theorem bT{t:TG}{u:BW}(h1:PG X e t)(h2:Fz X es u)
  (hs:(assignEach (e::es) X.env).map (·.2)=assign e X.env::(assignEach es X.env).map (·.2):=by rfl):Fz X (e::es) (DM t u):=by
 rintro pins s Z H vs us Q I r ⟨v,vr,e1,h⟩;subst e1
 cases r with
 | cons r rr=>
  rw [hs];refine assignInOrder_cons (cW (h1 pins s Z H _ _ _ I r h) λ_ s1 zq0=>?_);obtain⟨Z3,H1,I1,q1⟩:=zq0;exact h2 pins s1 Z3 H1 _ _ Q I1 rr q1
def Ei(K:Frag)(n:Nat)(t:BW):TG:=λv Z H Q=>∃a xs,v=.ref a/\cI K H a xs/\xs.length=n/\t xs Z H Q
theorem EJ{t:BW}(hc:X.calm=true)(h:Fz X es t)
  (hn:(assignEach es X.env).length=n:=by rfl) (hst:(assignEach es X.env).findIdx? (·.1)=none:=by rfl):PG X (.Tuple es k pos) (Ei X.K n t):=by
 rintro pins s Z H v u Q I r ⟨a,xs,e1,hq,hl,hw⟩;subst e1;cases r;obtain⟨its,rv,ht,hz⟩:=I.tuple hq;refine assign_Tuple_tuple (I.ok.hd hc) ht (by simp [hn,<-hl,rv.length]) hst λh' hx=>?_;have I1:aO X pins Z H { s with heap:=h' }:=I.kept (t':=s.toks) λb o e=>hx b o (ad3 (ac1 e)) e;exact h pins _ Z H xs _ Q I1 (by simpa using rv) hw
def FP(to ti:TE)(t:zi):TG:=λv Z H Q=>to Z H λo H1=>ti Z H1 λi H2=>t o i v H2 λH3=>Q Z H3
theorem sU{o i:Expr}{to ti:TE}{t:zi}(ho:PE X o to)(hi:PE X i ti)(hs:BS X t)
  (ha:∀v,assign (.Subscript o i pos) X.env v=(do
   let ov <-holding [v] (eval o X.env)
   let iv <-holding [v,ov] (eval i X.env)
   standAt pos
   holding [v,ov,iv] (setItem ov iv v)
   release [v,ov,iv] []):=by intro _;rfl):PG X (.Subscript o i pos) (FP to ti t):=by
 intro pins s Z H v u Q I r h;rw [ha];refine aa3 (ae7 (cW (ho pins s Z H _ I h) λov s1 zq0=>?_));obtain⟨x,H1,I1,r1,q1⟩:=zq0;refine aa3 (ae7 (cW (hi pins s1 Z H1 _ I1 q1) λiv s2 zq0=>?_));obtain⟨y,H2,I2,r2,q2⟩:=zq0;refine aa3 (an6 (aa3 (ae7 (cW (hs pins s2 Z H2 x y v ov iv u _ I2 r1 r2 r q2) λ_ s3 zq0=>?_))));obtain⟨H3,I3,q3⟩:=zq0;exact wpAny_release ⟨Z,H3,I3,q3⟩
def wC(te:TE)(g:TG):TS:=λD Z H=>te Z H λx H1=>g x Z H1 D.nx
theorem mi(he:PE X e te)(hg:PG X tg g)(hs:swapsWithSole [tg] e pos.line X.env=pure false:=by rfl)(hw:swappedStores [tg] e X.env=pure none:=by rfl)
  (h1:(assignEach [tg] X.env).map (·.2)=[assign tg X.env]:=by rfl):PS X (.Assign [tg] e pos) (wC te g):=by
 intro pins s Z H D I h;refine wpAny_Assign_stores (cW (he pins s Z H _ I h) λv s1 zq0=>?_) hs hw;obtain⟨x,H1,I1,r1,q1⟩:=zq0;rw [h1];exact cW (hg pins s1 Z H1 x v _ I1 r1 q1) λ_ s2 q=>q
theorem sX(hN:X.N.Nodup)(hi:X.N[i]?=some x)(hx:Fn X.env.scope x)(he:PE X e te)(hs:swapsWith e (some (.Name x pos')) pos.line X.env=pure false:=by rfl)(hf:X.fn x=true\/X.env.scope.names.lookup x=some .local:=by first | exact .inl rfl | exact .inr rfl | assumption):
  PS X (.Assign [.Name x pos'] e pos) (wC te (iH i)):=by
 intro pins s Z H D I h;refine wpAny_Assign_Name (cW (he pins s Z H _ I h) λv s1 zq0=>?_) hs;obtain⟨y,H1,I1,r1,q1⟩:=zq0;exact pP I1 hN hi hx r1 (λs2 I2=>⟨_,H1,I2,q1⟩) hf
def Bp(i:Nat)(te:TE)(ti:Fp):TS:=λD Z H=>∃x,Z[i]?=some (some x)/\te Z H λy H1=>ti x y H1 λz H2=>D.nx (Z.set i (some z)) H2
theorem AR{op:Operator}{ti:Fp}(hN:X.N.Nodup)(hi:X.N[i]?=some x)(hx:Fn X.env.scope x)(he:PE X e te)(ho:PIp X op ti)(hf:X.fn x=true\/X.env.scope.names.lookup x=some .local:=by first | exact .inl rfl | exact .inr rfl | assumption):
  PS X (.AugAssign (.Name x pos') op e pos) (Bp i te ti):=by
 rintro pins s Z H D I ⟨v,e1,h⟩;obtain⟨m,hn,hl⟩:=I.loc
 have vis:GI X.env.scope x:=by rcases hx with k | k;exact .inl k;exact .inr (.inl k)
 obtain⟨u,r,l⟩:=hl i x v hi e1 vis;refine wpAny_AugAssign_Name ?_
 have go:wpAny (model X.prog X.w) X.A (eval e X.env) (λw Zw=>wpAny (model X.prog X.w) X.A (inplaceOp op u w) (λr Zl=>wpAny (model X.prog X.w) X.A (storeName X.env x r) (λ_=>SP X pins D .next) X.xe Zl) X.xe Zw) X.xe s:=by
  refine cW (he pins s Z H _ I h) λw s1 zq0=>?_;obtain⟨y,H1,I1,r1,q1⟩:=zq0;refine cW (ho pins s1 Z H1 v y u w _ I1 r r1 q1) λz s2 zq0=>?_;obtain⟨zv,H2,I2,r2,q2⟩:=zq0;exact pP I2 hN hi hx r2 (λs3 I3=>⟨_,H2,I3,q2⟩) hf
 rcases l with⟨hk,hm⟩ | ⟨hk,c,hc,hcell⟩
 ·exact wpAny_loadName_local I.ok.kind hk hn hm go
 ·rcases hk with hk | hk
  ·exact wpAny_loadName_cell I.ok.kind hk hc hcell go
  ·rcases hx with k | k
   ·have:X.env.scope.names.lookup x=some .free:=hk
    rw [k]at this;cases this
   ·have:X.env.scope.names.lookup x=some .free:=hk
    rw [k]at this;cases this
def Ff(c:TT)(tb:TS):TS:=λD Z H=>∃W:Nat->St->Hp->Prop,(∃m,W m Z H)/\∀m Z H,W m Z H->
 c Z H λb H1=>if b=true then ∃N:St->Hp->Prop,(∀Zc H',N Zc H'->∃m',m' < m/\W m' Zc H')/\tb { D with nx:=N,ct:=N,bk:=D.nx } Z H1 else D.nx Z H1
theorem AS{tc:TT}(hp:PassesOwn (model X.prog X.w) X.A X.env X.xe)(hc:PT X c tc)(hb:wQ X body tb):PS X (.While c body [] pos) (Ff tc tb):=by
 rintro pins s Z H D I ⟨W,⟨m0,w0⟩,turn⟩;refine wpAny_While (codeAny_whileLoop (λn s'=>∃Zc H',aO X pins Zc H' s'/\W n Zc H') ?_ m0 ⟨Z,H,I,w0⟩);rintro n s1 ⟨Z3,H1,I1,w1⟩;refine ah5 hp (cW (hc pins s1 Z3 H1 _ I1 (turn n Z3 H1 w1)) λb s2 zq0=>?_);obtain⟨H2,I2,q2⟩:=zq0
 cases b with
 | true=>
  obtain⟨N,hN,q2⟩:=q2;rw [if_pos rfl];refine ah5 hp (cW (hb pins s2 Z3 H2 _ I2 q2) λf s3 q3=>?_)
  cases f with
  | next=>
   obtain⟨Zp,H3,I3,n3⟩:=q3;obtain⟨m',hm,w3⟩:=hN Zp H3 n3;exact⟨m',hm,Zp,H3,I3,w3⟩
  | cont=>
   obtain⟨Zp,H3,I3,n3⟩:=q3;obtain⟨m',hm,w3⟩:=hN Zp H3 n3;exact⟨m',hm,Zp,H3,I3,w3⟩
  | brk=>exact q3
  | ret v=>exact q3
 | false=>
  rw [if_neg aa6];exact al7 ⟨Z3,H2,I2,q2⟩
structure It where
 go:Nat->Hp->Prop
 yld:Nat->Hp->V->Hp->Prop
 stop:Nat->Hp->Prop
def m9(X:Cx)(pins:List (Addr×Obj))(H:Hp)(b:Addr):Prop:=
 H b=none/\b≠X.env.locals/\b∉X.fs/\(b∈X.ex\/X.Zh.heap.objs.size<=b)/\(∀x c,X.env.cells.lookup x=some c->c≠b)/\∀p∈X.pn++pins,p.1≠b
theorem aO.fpOk(I:aO X pins Z H s)(hb:s.heap.objs.size<=b)(hn:H' b=none):m9 X pins H' b:=by
 refine⟨hn,aj7 (ab3 I.lt hb),I.nofs hb,.inr (ab6 I.sz hb),λx c e z=>?_,λp hp z=>?_⟩
 ·obtain⟨v,q⟩:=I.cell x c e
  exact absurd (ab3 q.lt (by rw [z];exact hb)) (ai0 _)
 ·exact absurd (ab3 (ac1 (I.pin p hp).1) (by rw [z];exact hb)) (ai0 _)
structure rX(P:Program)(w:World)(K:Frag)(tg:Expr)(J:It)(fp:List Addr)(it:Addr)(tn:Nat->Heap->Prop):Prop where
 mem:it∈fp
 obj:∀i h,tn i h->∀b∈fp,∃o,h.get? b=some o/\∀v,o.data≠.cell v
 keep:∀i h h',tn i h->(∀b∈fp,∀o,h.get? b=some o->h'.get? b=some o)->tn i h'
 item:∀(X:Cx),X.prog=P->X.w=w->X.K=K->X.calm=true->∀(i:Nat) (pins:List (Addr×Obj)) (s:Shared) (Z:St) (H:Hp) (E:Value->Shared->Prop),aO X pins Z H s->(∀b∈fp,m9 X pins H b)->tn i s.heap->J.go i H->
  wpAny (model P w) X.A (pyNext (.ref it)) (λr s1=>∃u,r=some u/\
   wpAny (model P w) X.A (letOwnedTupleGo tg (.ref it) u) (λ_ s2=>∃x H',aO X pins Z H' s2/\aS x u/\J.yld i H x H'/\tn (i+1) s2.heap/\∀b∈fp,H' b=none) E s1) E s
 done:∀(X:Cx),X.prog=P->X.w=w->X.K=K->X.calm=true->∀(i:Nat) (pins:List (Addr×Obj)) (s:Shared) (Z:St) (H:Hp) (E:Value->Shared->Prop),aO X pins Z H s->(∀b∈fp,m9 X pins H b)->tn i s.heap->J.stop i H->
  wpAny (model P w) X.A (pyNext (.ref it)) (λr s1=>r=none/\aO X pins Z H s1) E s
 self:∀(A:Around) (i:Nat) (s:Shared) (Q:Value->Shared->Prop) (E:Value->Shared->Prop),tn i s.heap->Q (.ref it) s->wpAny (model P w) A (pyIter (.ref it)) Q E s
abbrev TI:=St->Hp->(It->Hp->Prop)->Prop
def FA(X:Cx)(pins:List (Addr×Obj))(Z:St)(tg:Expr)(R:It->Hp->Prop)(itv:Value)(s2:Shared):Prop:=
 ∃(it:Addr) (fp:List Addr) (tn:Nat->Heap->Prop) (J:It) (H':Hp),itv=.ref it/\aO X pins Z H' s2/\rX X.prog X.w X.K tg J fp it tn/\tn 0 s2.heap/\(∀b∈fp,m9 X pins H' b)/\R J H'
def PI(X:Cx)(tg iter:Expr)(wi:TI):Prop:=
 ∀(pins:List (Addr×Obj)) (s:Shared) (Z:St) (H:Hp) (R:It->Hp->Prop),aO X pins Z H s->wi Z H R->
  wpAny (model X.prog X.w) X.A (eval iter X.env) (λv s1=>wpAny (model X.prog X.w) X.A (pyIter v) (FA X pins Z tg R) X.xe s1) X.xe s
theorem tT{it:Addr}{o:Obj}{n:String}{vs:Array Value}{Q:Unit->Shared->Prop}(ho:s.heap.get? it=some o)(hc:o.cls=.type n)(hd:o.data=.fields vs)
  (hn:["enumerate","zip","dict_itemiterator","dict_reverseitemiterator","odict_iterator","itertools.zip_longest","itertools.pairwise"].contains n=false) (hQ:Q Unit.unit s):wpAny M A (letOwnedTupleGo tg (.ref it) u) Q E s:=by
 unfold letOwnedTupleGo
 cases tg<;>first
  | exact ab0 hQ
  | (cases u<;>first | exact ab0 hQ | (refine aa3 (wpAny_load ho ?_);rw [hc,hd];show wpAny M A (if (["enumerate","zip","dict_itemiterator","dict_reverseitemiterator","odict_iterator","itertools.zip_longest","itertools.pairwise"].contains n && vs[0]? == some (rawInt _))=true then _ else _) Q E s;rw [if_neg (by intro h;rw [hn,ah3]at h;cases h)];exact ab0 hQ))
def zd(K:Frag)(a:Addr):It:=
 ⟨λi H=>∃xs x,aJ K H a xs/\xs[i]?=some x,λi H x H'=>H'=H/\∀xs,aJ K H a xs->xs[i]?=some x,λi H=>∃xs,aJ K H a xs/\xs.length<=i⟩
def DE(K:Frag)(a:Addr):It:=
 ⟨λi H=>∃xs x,cI K H a xs/\xs[i]?=some x,λi H x H'=>H'=H/\∀xs,cI K H a xs->xs[i]?=some x,λi H=>∃xs,cI K H a xs/\xs.length<=i⟩
def xN(lo:Int)(n:Nat):It:=⟨λi _=>i < n,λi H x H'=>H'=H/\x=.int (lo+i),λi _=>n<=i⟩
theorem y3(a it:Addr):rX P w K tg (zd K a) [it] it (λi h=>h.IsListIter it a i) where
 mem:=by simp
 obj:=λi h st b hb=>by
  have e:b=it:=by simpa using hb
  subst e;obtain⟨o,e,c,d⟩:=st;exact⟨o,e,λv z=>by rw [d]at z;cases z⟩
 keep:=λi h h' st k=>st.at λo e=>k it (by simp) o e
 item:=by
  intro X hP hw hK hc i pins s Z H E I hf st hg;subst hP hw hK;obtain⟨xs,x,hq,hx⟩:=hg;obtain⟨its,rv,p,hz⟩:=I.list hq;obtain⟨u,hu,ru⟩:=rv.get hx;obtain⟨f0,f1,f2,f3,f4,f5⟩:=hf it (by simp);refine wpAny_pyNext_list_item st p.isList (x:=u) (by simpa using hu) λh' st' sb=>?_;have I1:aO X pins Z H { s with heap:=h' }:=I.turned (t':=s.toks) (λb o hb e=>(sb.2 b hb).trans e) f0 f1 f3 f4 f5;obtain⟨o,e,c,d⟩:=id st';exact⟨u,rfl,tT (s:={ s with heap:=h' }) e c d ∅ ⟨x,H,I1,ru,⟨rfl,λys hy=>by rw [I.list_inj hy hq];exact hx⟩,st',λb hb=>(hf b hb).1⟩⟩
 done:=by
  intro X hP hw hK hc i pins s Z H E I hf st hg;subst hP hw hK;obtain⟨xs,hq,hx⟩:=hg;obtain⟨its,rv,p,hz⟩:=I.list hq;obtain⟨f0,f1,f2,f3,f4,f5⟩:=hf it (by simp);have hl:=rv.length;exact wpAny_pyNext_list_end (I.ok.hd hc) st p.isList (by simp;omega) λh' eb=>⟨rfl,I.turned (t':=s.toks) (λb o hb e=>eb b o hb e) f0 f1 f3 f4 f5⟩
 self:=λ_ _ _ _ _ st h=>wpAny_pyIter_listiter st h
theorem wL(a it:Addr):rX P w K tg (DE K a) [it] it (λi h=>h.IsTupleIter it a i) where
 mem:=by simp
 obj:=λi h st b hb=>by
  have e:b=it:=by simpa using hb
  subst e;obtain⟨o,e,c,d⟩:=st;exact⟨o,e,λv z=>by rw [d]at z;cases z⟩
 keep:=λi h h' st k=>st.at λo e=>k it (by simp) o e
 item:=by
  intro X hP hw hK hc i pins s Z H E I hf st hg;subst hP hw hK;obtain⟨xs,x,hq,hx⟩:=hg;obtain⟨its,rv,p,hz⟩:=I.tuple hq;obtain⟨u,hu,ru⟩:=rv.get hx;obtain⟨f0,f1,f2,f3,f4,f5⟩:=hf it (by simp);refine wpAny_pyNext_tuple_item st (show s.heap.IsTuple a its.toArray from p) (x:=u) (by simpa using hu) λh' st' sb=>?_;have I1:aO X pins Z H { s with heap:=h' }:=I.turned (t':=s.toks) (λb o hb e=>(sb.2 b hb).trans e) f0 f1 f3 f4 f5;obtain⟨o,e,c,d⟩:=id st';exact⟨u,rfl,tT (s:={ s with heap:=h' }) e c d ∅ ⟨x,H,I1,ru,⟨rfl,λys hy=>by rw [I.tuple_inj hy hq];exact hx⟩,st',λb hb=>(hf b hb).1⟩⟩
 done:=by
  intro X hP hw hK hc i pins s Z H E I hf st hg;subst hP hw hK;obtain⟨xs,hq,hx⟩:=hg;obtain⟨its,rv,p,hz⟩:=I.tuple hq;obtain⟨f0,f1,f2,f3,f4,f5⟩:=hf it (by simp);have hl:=rv.length;exact wpAny_pyNext_tuple_end (I.ok.hd hc) st (show s.heap.IsTuple a its.toArray from p) (by simp;omega) λh' eb=>⟨rfl,I.turned (t':=s.toks) (λb o hb e=>eb b o hb e) f0 f1 f3 f4 f5⟩
 self:=λ_ _ _ _ _ st h=>wpAny_pyIter_tupleiter st h
theorem pQ(it:Addr)(lo:Int)(n:Nat):rX P w K tg (xN lo n) [it] it (λi h=>IsRangeIter h it (lo+(i:Nat) * 1) ((n:Int) - (i:Nat)) 1) where
 mem:=by simp
 obj:=λi h st b hb=>by
  have e:b=it:=by simpa using hb
  subst e
  exact⟨_,st,λv z=>by
   have z':Data.fields _=Data.cell v:=z
   cases z'⟩
 keep:=λi h h' st k=>k it (by simp) _ st
 item:=by
  intro X hP hw hK hc i pins s Z H E I hf st hg;subst hP hw hK;obtain⟨f0,f1,f2,f3,f4,f5⟩:=hf it (by simp);have W:=Walks.range (prog:=X.prog) (w:=X.w) (I.ok.hd hc) it lo 1 n;refine W.item i s _ _ hg st λv h' tk hv st' kk=>?_;obtain⟨t,rfl⟩:=hv;have I1:aO X pins Z H { s with heap:=h',toks:=tk }:=I.turned (λb o hb e=>kk b o (by simpa using hb) e) f0 f1 f3 f4 f5;refine⟨_,rfl,tT (s:={ s with heap:=h',toks:=tk }) (n:="range_iterator") st' rfl rfl ∅ ⟨.int (lo+i),H,I1,⟨t,?_⟩,⟨rfl,rfl⟩,st',λb hb=>(hf b hb).1⟩⟩;rw [Int.mul_one]
 done:=by
  intro X hP hw hK hc i pins s Z H E I hf st hg;subst hP hw hK;obtain⟨f0,f1,f2,f3,f4,f5⟩:=hf it (by simp);exact wpAny_pyNext_range_end (I.ok.hd hc) st (by have:n<=i:=hg;omega) λh' eb=>⟨rfl,I.turned (t':=s.toks) (λb o hb e=>eb b o hb e) f0 f1 f3 f4 f5⟩
 self:=λ_ _ _ _ _ st h=>wpAny_pyIter_rangeiter st h
theorem uH{R:It->Hp->Prop}{lo hi:Int}{t u v:Tok}{tk:Nat}(I:aO X pins Z H s)(h1:-(2 ^ 62)<=lo)(h2:lo < 2 ^ 62)(h3:-(2 ^ 62)<=hi)(h4:hi < 2 ^ 62)
  (q:R (xN lo (hi - lo).toNat) H):wpAny (model X.prog X.w) X.A (pyIter (.ref s.heap.objs.size)) (FA X pins Z tg R) E { s with heap:=s.heap.push { cls:=.type "range",data:=.fields #[.int lo t,.int hi u,.int 1 v] },toks:=tk }:=by
 refine wpAny_pyIter_range (IsRange.new ..) (small_one h1 h2 h3 h4) ?_;have I1:aO X pins Z H { s with heap:=s.heap.push { cls:=.type "range",data:=.fields #[.int lo t,.int hi u,.int 1 v] },toks:=tk }:=I.kept λb o e=>aa5 _ e
 refine⟨(s.heap.push { cls:=.type "range",data:=.fields #[.int lo t,.int hi u,.int 1 v] }).objs.size,[(s.heap.push { cls:=.type "range",data:=.fields #[.int lo t,.int hi u,.int 1 v] }).objs.size],_,_,H,rfl,
  I1.kept (t':=tk) λb o e=>aa5 _ e,pQ _ lo (hi - lo).toNat,?_,λb hb=>?_,q⟩
 ·have e1:lo+((0:Nat):Int) * 1=lo:=by simp
  have e2:(((hi - lo).toNat:Nat):Int) - ((0:Nat):Int)=Builtin.Range.rangeSize lo hi 1:=by rw [rangeSize_one];split<;>omega
  show IsRangeIter _ _ (lo+((0:Nat):Int) * 1) ((((hi - lo).toNat:Nat):Int) - ((0:Nat):Int)) 1;rw [e1,e2];exact ab9 _ rfl
 ·have e:b=(s.heap.push { cls:=.type "range",data:=.fields #[.int lo t,.int hi u,.int 1 v] }).objs.size:=by simpa using hb
  subst e;exact I1.fpOk (aa9 _) (I1.hok.fresh (aa9 _))
def DO(ta:TA):TI:=λZ H R=>ta Z H λvs H1=>∃j:Int,vs=[.int j]/\-(2 ^ 62)<=j/\j < 2 ^ 62/\R (xN 0 j.toNat) H1
def DP(ta:TA):TI:=λZ H R=>ta Z H λvs H1=>∃i j:Int,vs=[.int i,.int j]/\(-(2 ^ 62)<=i/\i < 2 ^ 62/\-(2 ^ 62)<=j/\j < 2 ^ 62)/\R (xN i (j - i).toNat) H1
theorem c9{a:Expr}{ta:TA}(hg:Gl X "range")(hm:X.mg "range"=none)(ha:PA X [a] ta)(hs:starEach [a] X.env=[(false,eval a X.env)]:=by rfl):PI X tg (.Call (.Name "range" p) [a] [] pos) (DO ta):=by
 intro pins s Z H R I h;refine Call_ (gH I hg hm boot_range (PyProof.Rows.callWith_type1 (cW (ha pos pins s Z H _ I h) λus s1 zq0=>?_) hs rfl));obtain⟨vs,H1,I1,r1,j,e,q1,q2,q⟩:=zq0;subst e
 cases r1 with
 | cons r rr=>
  cases rr;obtain⟨t,rfl⟩:=r;exact call_range_1 (uH I1 () () q1 q2 (by simpa using q))
theorem yK{a b:Expr}{ta:TA}(hg:Gl X "range")(hm:X.mg "range"=none)(ha:PA X [a,b] ta)(hs:starEach [a,b] X.env=[(false,eval a X.env),(false,eval b X.env)]:=by rfl)(hs2:starEach [b] X.env=[(false,eval b X.env)]:=by rfl):
  PI X tg (.Call (.Name "range" p) [a,b] [] pos) (DP ta):=by
 intro pins s Z H R I h;refine Call_ (gH I hg hm boot_range (PyProof.Rows.callWith_type1 (cW (ha pos pins s Z H _ I h) λus s1 zq0=>?_) (by rw [hs,hs2]) (by rw [hs2];rfl)));obtain⟨vs,H1,I1,r1,i,j,e,⟨q1,q2,q3,q4⟩,q⟩:=zq0;subst e
 cases r1 with
 | cons r rr=>
  cases rr with
  | cons r' rr=>
   cases rr;obtain⟨t,rfl⟩:=r;obtain⟨t',rfl⟩:=r';exact call_range_2 (uH I1 q1 q2 q3 q4 q)
def Gv(wi:TI)(g:TG)(tb:TS):TS:=λD Z H=>wi Z H λJ H1=>∃W:Nat->Nat->St->Hp->Prop,(∃m,W 0 m Z H1)/\∀i m Z H,W i m Z H->
 (J.stop i H/\D.nx Z H)\/(J.go i H/\∃N:St->Hp->Prop,(∀Zc H',N Zc H'->∃m',m' < m/\W (i+1) m' Zc H')/\∀x H',J.yld i H x H'->g x Z H' λZf H2=>tb { D with nx:=N,ct:=N,bk:=D.nx } Zf H2)
def sV(fp:List Addr)(h:Heap):List (Addr×Obj):=fp.filterMap λb=>(h.get? b).map λo=>(b,o)
theorem eY{o:Obj}(hb:b∈fp)(e:h.get? b=some o):(b,o)∈sV fp h:=List.mem_filterMap.mpr ⟨b,hb,by rw [e];rfl⟩
theorem yB{p:Addr×Obj}(hp:p∈sV fp h):p.1∈fp/\h.get? p.1=some p.2:=by
 obtain⟨b,hb,e⟩:=List.mem_filterMap.mp hp
 cases q:h.get? b with
 | none=>rw [q]at e;cases e
 | some o=>
  rw [q]at e;have e':(b,o)=p:=Option.some.inj e;subst e';exact⟨hb,q⟩
theorem aO.pinned(I:aO X pins Z H s)(hf:∀b∈fp,m9 X pins H b)(ho:∀b∈fp,∃o,s.heap.get? b=some o/\∀v,o.data≠.cell v):aO X (pins++sV fp s.heap) Z H s:=
 I.pins_of λp hp=>(ac4.mp hp).elim (λz=>I.pin p (ac8 _ z)) λz=>by
  obtain⟨hb,e⟩:=yB z;obtain⟨f0,f1,f2,_⟩:=hf p.1 hb;obtain⟨o,e',d⟩:=ho p.1 hb;rw [e]at e';cases e';exact⟨e,f0,f1,f2,d⟩
theorem aO.unpinned{pl:List (Addr×Obj)}(I:aO X (pins++pl) Z H s):aO X pins Z H s:=I.pins_of λp hp=>I.pin p (ac8 _ (ah7 _ hp))
theorem cw{iter:Expr}{wi:TI}(hp:PassesOwn (model X.prog X.w) X.A X.env X.xe)(hc:X.calm=true)(hi:PI X tg iter wi)(hg:PG X tg g)(hb:wQ X body tb)
  (hs:∀x,foldedSetIterable iter X.env x=pure x:=by intro _;rfl):PS X (.For tg iter body [] pos) (Gv wi g tb):=by
 intro pins s Z H D I h;refine wpAny_For (cW (hi pins s Z H _ I h) λv s1 h1=>cW h1 λitv s2 h2=>?_) hs;obtain⟨it,fp,tn,J,H2,e,I2,T,st2,f2,W,⟨m0,w0⟩,turn⟩:=h2;subst e;have stat:∀{H':Hp},(∀b∈fp,H' b=none)->∀b∈fp,m9 X pins H' b:=λhn b hb=>⟨hn b hb,(f2 b hb).2⟩;refine codeAny_forLoop_any (λn s'=>∃i Zc H',aO X pins Zc H' s'/\tn i s'.heap/\(∀b∈fp,H' b=none)/\W i n Zc H') ?_ m0 ⟨0,Z,H2,I2,st2,λb hb=>(f2 b hb).1,w0⟩;rintro n s3 ⟨i,Zp,H3,I3,st3,fr3,w3⟩;rcases turn i n Zp H3 w3 with⟨stop,qn⟩ | ⟨go,N,hN,step⟩
 ·refine ah5 hp (cW (T.done X rfl rfl rfl hc i pins s3 Zp H3 X.xe I3 (stat fr3) st3 stop) λr s4 zq0=>?_)
  obtain⟨hr,I4⟩:=zq0;subst hr;exact al7 ⟨Zp,H3,I4,qn⟩
 ·refine ah5 hp (cW (T.item X rfl rfl rfl hc i pins s3 Zp H3 X.xe I3 (stat fr3) st3 go) λr s4 zq0=>?_)
  obtain⟨u,hr,h4⟩:=zq0;subst hr;refine ah5 hp (cW h4 λ_ s5 zq0=>?_);obtain⟨x,H5,I5,r5,y5,st5,fr5⟩:=zq0;have I5':=I5.pinned (stat fr5) (T.obj _ _ st5);refine ah5 hp (cW (hg _ s5 Zp H5 x u _ I5' r5 (step x H5 y5)) λ_ s6 zq0=>?_);obtain⟨Zz,H6,I6,q6⟩:=zq0;refine ah5 hp (cW (hb _ s6 Zz H6 _ I6 q6) λf s7 q7=>?_)
  have again:∀{Zq:St} {H7:Hp},aO X (pins++sV fp s5.heap) Zq H7 s7->N Zq H7->∃m,m < n/\∃i Zc H',aO X pins Zc H' s7/\tn i s7.heap/\(∀b∈fp,H' b=none)/\W i m Zc H':=λ{Zq H7} I7 n7=>by
   obtain⟨m',hm,w7⟩:=hN Zq H7 n7;refine⟨m',hm,i+1,Zq,H7,I7.unpinned,T.keep _ _ _ st5 λb hb o e=>(I7.pin (b,o) (ac8 _ (ac8 _ (eY hb e)))).1,λb hb=>?_,w7⟩;obtain⟨o,e,d⟩:=T.obj _ _ st5 b hb;exact(I7.pin (b,o) (ac8 _ (ac8 _ (eY hb e)))).2.1
  cases f with
  | next=>obtain⟨Zq,H7,I7,n7⟩:=q7;exact again I7 n7
  | cont=>obtain⟨Zq,H7,I7,n7⟩:=q7;exact again I7 n7
  | brk=>obtain⟨Zq,H7,I7,q7⟩:=q7;exact⟨Zq,H7,I7.unpinned,q7⟩
  | ret v=>obtain⟨x7,Zq,H7,I7,r7,q7⟩:=q7;exact⟨x7,Zq,H7,I7.unpinned,r7,q7⟩
theorem zN(Pv:Nat->St->Hp->Prop)(h0:Pv 0 Z H)(hl:∀i Z H,i<=xs.length->Pv i Z H->aJ K H a xs)
  (hs:∀i x Z H,xs[i]?=some x->Pv i Z H->g x Z H λZf H2=>tb { D with nx:=Pv (i+1),ct:=Pv (i+1),bk:=D.nx } Zf H2) (hd:∀Z H,Pv xs.length Z H->D.nx Z H) :
  ∃W:Nat->Nat->St->Hp->Prop,(∃m,W 0 m Z H)/\∀i m Z H,W i m Z H->
   ((zd K a).stop i H/\D.nx Z H)\/((zd K a).go i H/\∃N:St->Hp->Prop,(∀Zc H',N Zc H'->∃m',m' < m/\W (i+1) m' Zc H')/\∀x H',(zd K a).yld i H x H'->g x Z H' λZf H2=>tb { D with nx:=N,ct:=N,bk:=D.nx } Zf H2):=by
 refine⟨λi m Z H=>m=xs.length - i/\i<=xs.length/\Pv i Z H,⟨xs.length,by simp,ac2 _,h0⟩,?_⟩;rintro i m Z H ⟨rfl,hi,p⟩;have q:=hl i Z H hi p
 by_cases hlt:i < xs.length
 ·refine .inr ⟨⟨xs,xs[i],q,by simp [hlt]⟩,Pv (i+1),λZc H' p'=>⟨xs.length - (i+1),(),rfl,hlt,p'⟩,λx H' y=>?_⟩
  obtain⟨e,y⟩:=y;subst e;exact hs i x Z _ (y xs q) p
 ·have e:i=xs.length:=by omega
  subst e;exact .inl ⟨⟨xs,q,aa9 _⟩,hd Z H p⟩
theorem Cj(Pv:Nat->St->Hp->Prop)(h0:Pv 0 Z H)(hl:∀i Z H,i<=xs.length->Pv i Z H->cI K H a xs)
  (hs:∀i x Z H,xs[i]?=some x->Pv i Z H->g x Z H λZf H2=>tb { D with nx:=Pv (i+1),ct:=Pv (i+1),bk:=D.nx } Zf H2) (hd:∀Z H,Pv xs.length Z H->D.nx Z H) :
  ∃W:Nat->Nat->St->Hp->Prop,(∃m,W 0 m Z H)/\∀i m Z H,W i m Z H->
   ((DE K a).stop i H/\D.nx Z H)\/((DE K a).go i H/\∃N:St->Hp->Prop,(∀Zc H',N Zc H'->∃m',m' < m/\W (i+1) m' Zc H')/\∀x H',(DE K a).yld i H x H'->g x Z H' λZf H2=>tb { D with nx:=N,ct:=N,bk:=D.nx } Zf H2):=by
 refine⟨λi m Z H=>m=xs.length - i/\i<=xs.length/\Pv i Z H,⟨xs.length,by simp,ac2 _,h0⟩,?_⟩;rintro i m Z H ⟨rfl,hi,p⟩;have q:=hl i Z H hi p
 by_cases hlt:i < xs.length
 ·refine .inr ⟨⟨xs,xs[i],q,by simp [hlt]⟩,Pv (i+1),λZc H' p'=>⟨xs.length - (i+1),(),rfl,hlt,p'⟩,λx H' y=>?_⟩
  obtain⟨e,y⟩:=y;subst e;exact hs i x Z _ (y xs q) p
 ·have e:i=xs.length:=by omega
  subst e;exact .inl ⟨⟨xs,q,aa9 _⟩,hd Z H p⟩
theorem yk{lo:Int}(Pv:Nat->St->Hp->Prop)(h0:Pv 0 Z H)
  (hs:∀i Z H,i < n->Pv i Z H->g (.int (lo+i)) Z H λZf H2=>tb { D with nx:=Pv (i+1),ct:=Pv (i+1),bk:=D.nx } Zf H2) (hd:∀Z H,Pv n Z H->D.nx Z H) :
  ∃W:Nat->Nat->St->Hp->Prop,(∃m,W 0 m Z H)/\∀i m Z H,W i m Z H->
   ((xN lo n).stop i H/\D.nx Z H)\/((xN lo n).go i H/\∃N:St->Hp->Prop,(∀Zc H',N Zc H'->∃m',m' < m/\W (i+1) m' Zc H')/\∀x H',(xN lo n).yld i H x H'->g x Z H' λZf H2=>tb { D with nx:=N,ct:=N,bk:=D.nx } Zf H2):=by
 refine⟨λi m Z H=>m=n - i/\i<=n/\Pv i Z H,⟨n,by simp,ac2 _,h0⟩,?_⟩;rintro i m Z H ⟨rfl,hi,p⟩
 by_cases hlt:i < n
 ·refine .inr ⟨hlt,Pv (i+1),λZc H' p'=>⟨n - (i+1),(),rfl,hlt,p'⟩,λx H' y=>?_⟩
  obtain⟨e,y⟩:=y;subst e y;exact hs i Z _ hlt p
 ·have e:i=n:=by omega
  subst e;exact .inl ⟨aa9 _,hd Z H p⟩
abbrev R2:=V->V->Hp->VK->Prop
def dH(X:Cx)(f:Value->Value->Sem Value)(r:R2):Prop:=
 ∀(pins:List (Addr×Obj)) (s:Shared) (Z:St) (H:Hp) (x y:V) (v u:Value) (Q:VK),aO X pins Z H s->aS x v->aS y u->r x y H Q->
  wpAny (model X.prog X.w) X.A (f v u) (EP X pins Z Q) X.xe s
def FE(X:Cx)(f:Value->Sem Value)(r:V->Hp->VK->Prop):Prop:=
 ∀(pins:List (Addr×Obj)) (s:Shared) (Z:St) (H:Hp) (x:V) (v:Value) (Q:VK),aO X pins Z H s->aS x v->r x H Q->
  wpAny (model X.prog X.w) X.A (f v) (EP X pins Z Q) X.xe s
def cS(X:Cx)(f:Value)(r:List V->Hp->VK->Prop):Prop:=
 ∀(pins:List (Addr×Obj)) (s:Shared) (Z:St) (H:Hp) (xs:List V) (us:List Value) (Q:VK),aO X pins Z H s->aX xs us->r xs H Q->
  wpAny (model X.prog X.w) X.A (call f us) (EP X pins Z Q) X.xe s
def Hb(X:Cx)(r:V->Hp->(Bool->Hp->Prop)->Prop):Prop:=
 ∀(pins:List (Addr×Obj)) (s:Shared) (Z:St) (H:Hp) (x:V) (v:Value) (Q:Bool->Hp->Prop),aO X pins Z H s->aS x v->r x H Q->
  wpAny (model X.prog X.w) X.A (truthy v) (TP X pins Z Q) X.xe s
def E9(r:R2)(ta tb:TE):TE:=λZ H Q=>ta Z H λx H1=>tb Z H1 λy H2=>r x y H2 Q
def HE(r:V->Hp->VK->Prop)(ta:TE):TE:=λZ H Q=>ta Z H λx H1=>r x H1 Q
def rI(C:Int->Int->Prop)(g:Int->Int->V):R2:=λx y H Q=>∃i j,x=.int i/\y=.int j/\C i j/\Q (g i j) H
def va(g:Int->Int->V):R2:=λx y H Q=>∃i j,x=.int i/\y=.int j/\Q (g i j) H
def rU(g:Int->V):V->Hp->VK->Prop:=λx H Q=>∃i,x=.int i/\Q (g i) H
section
variable {a b:Expr} {tb tc:TE}
theorem BZ(ha:PE X a ta)(hb:PE X b tb)(I:aO X pins Z H s)
  (h:ta Z H λx H1=>tb Z H1 λy H2=>R x y H2) {Q:Value->Shared->Prop} {f:Value->Value->Sem Value}
  (hf:∀v u s2 x y H2,aO X pins Z H2 s2->aS x v->aS y u->R x y H2->wpAny (model X.prog X.w) X.A (f v u) Q X.xe s2) :
  wpAny (model X.prog X.w) X.A (eval a X.env) (λv Zg=>wpAny (model X.prog X.w) X.A (eval b X.env) (λu Zw=>wpAny (model X.prog X.w) X.A (f v u) Q X.xe Zw) X.xe Zg) X.xe s:=by
 refine cW (ha pins s Z H _ I h) λv s1 zq0=>?_;obtain⟨x,H1,I1,r1,q1⟩:=zq0;refine cW (hb pins s1 Z H1 _ I1 q1) λu s2 zq0=>?_;obtain⟨y,H2,I2,r2,q2⟩:=zq0;exact hf v u s2 x y H2 I2 r1 r2 q2
theorem ar{op:Operator}{r:R2}(ho:dH X (binaryOp op) r)(ha:PE X a ta)(hb:PE X b tb):PE X (.BinOp a op b pos) (E9 r ta tb):=by
 intro pins s Z H Q I h;exact wpAny_BinOp (BZ ha hb I h λv u s2 x y H2 I2 rx ry q=>ho pins s2 Z H2 x y v u Q I2 rx ry q)
theorem lB{op:UnaryOp}{r:V->Hp->VK->Prop}(ho:FE X (unaryOp op) r)(ha:PE X a ta):PE X (.UnaryOp op a pos) (HE r ta):=by
 intro pins s Z H Q I h;exact UnaryOp_ (cW (ha pins s Z H _ I h) λv s1 ⟨x,H1,I1,r1,q1⟩=>ho pins s1 Z H1 x v Q I1 r1 q1)
theorem F6{f:Value->Value->Sem Value}{C:Int->Int->Prop}{g:Int->Int->Int}
  (rule:∀(i j:Int) (t u:Tok) (s:Shared) (Q:Value->Shared->Prop) (E:Value->Shared->Prop),C i j->Q (.int (g i j) s.toks) { s with toks:=s.toks+1 }->wpAny (model X.prog X.w) X.A (f (.int i t) (.int j u)) Q E s) :
  dH X f (rI C λi j=>.int (g i j)):=by
 rintro pins s Z H x y v u Q I rx ry ⟨i,j,rfl,rfl,hc,q⟩;obtain⟨t,rfl⟩:=rx;obtain⟨t',rfl⟩:=ry;exact rule i j t t' s _ _ hc ⟨.int (g i j),H,I.tok _,⟨_,rfl⟩,q⟩
theorem F7{f:Value->Value->Sem Value}{g:Int->Int->Int}
  (rule:∀(i j:Int) (t u:Tok) (s:Shared) (Q:Value->Shared->Prop) (E:Value->Shared->Prop),Q (.int (g i j) s.toks) { s with toks:=s.toks+1 }->wpAny (model X.prog X.w) X.A (f (.int i t) (.int j u)) Q E s) :
  dH X f (va λi j=>.int (g i j)):=by
 rintro pins s Z H x y v u Q I rx ry ⟨i,j,rfl,rfl,q⟩;obtain⟨t,rfl⟩:=rx;obtain⟨t',rfl⟩:=ry;exact rule i j t t' s _ _ ⟨.int (g i j),H,I.tok _,⟨_,rfl⟩,q⟩
theorem CV{f:Value->Value->Sem Value}{g:Int->Int->Bool}
  (rule:∀(i j:Int) (t u:Tok) (s:Shared) (Q:Value->Shared->Prop) (E:Value->Shared->Prop),Q (.bool (g i j)) s->wpAny (model X.prog X.w) X.A (f (.int i t) (.int j u)) Q E s) :
  dH X f (va λi j=>.bl (g i j)):=by
 rintro pins s Z H x y v u Q I rx ry ⟨i,j,rfl,rfl,q⟩;obtain⟨t,rfl⟩:=rx;obtain⟨t',rfl⟩:=ry;exact rule i j t t' s _ _ ⟨.bl (g i j),H,I,rfl,q⟩
def G1(i j:Int):Prop:=0 < j/\j < 1073741824
def G2(i j:Int):Prop:=0<=j/\j<=1000000/\i.natAbs < 2 ^ 64
theorem op_add:dH X (binaryOp .Add) (va λi j=>.int (i+j)):=F7 λ_ _ _ _ _ _ _ q=>add_int q
theorem bD:dH X (binaryOp .Sub) (va λi j=>.int (i - j)):=F7 λ_ _ _ _ _ _ _ q=>sub_int q
theorem dj:dH X (binaryOp .FloorDiv) (rI G1 λi j=>.int (i / j)):=F6 λi j _ _ _ _ _ hc q=>by
 have h1:(0:Int) < j:=hc.1;have h2:j < 1073741824:=hc.2;exact floordiv_int () (by rw [Int.fdiv_eq_ediv_of_nonneg i ()];exact q) (.inl (PyProof.noPylong_small ()))
theorem aU:dH X (binaryOp .Mod) (rI (λ_ j=>0 < j) λi j=>.int (i % j)):=F6 λi j _ _ _ _ _ hc q=>by
 have h1:(0:Int) < j:=hc;exact mod_int' () (by rw [Int.fmod_eq_emod_of_nonneg i ()];exact q)
theorem vJ:dH X (binaryOp .Pow) (rI G2 λi j=>.int (i ^ j.toNat)):=F6 λ_ _ _ _ _ _ _ hc q=>pow_int_small hc.1 hc.2.1 hc.2.2 q
theorem unI{f:Value->Sem Value}{g:Int->Int}
  (rule:∀(i:Int) (t:Tok) (s:Shared) (Q:Value->Shared->Prop) (E:Value->Shared->Prop),Q (.int (g i) s.toks) { s with toks:=s.toks+1 }->wpAny (model X.prog X.w) X.A (f (.int i t)) Q E s) :
  FE X f (rU λi=>.int (g i)):=by
 rintro pins s Z H x v Q I rx ⟨i,rfl,q⟩;obtain⟨t,rfl⟩:=rx;exact rule i t s _ _ ⟨.int (g i),H,I.tok _,⟨_,rfl⟩,q⟩
theorem iE:FE X (unaryOp .USub) (rU λi=>.int (-i)):=unI λ_ _ _ _ _ q=>neg_int q
end
def yQ:V->V->Bool
 | .non,.non=>true | .non,.int _=>true | .int _,.non=>true | .non,.bl _=>true | .bl _,.non=>true | .non,.str _=>true | .str _,.non=>true
 | .int _,.int _=>true | .bl _,.bl _=>true | .str _,.str _=>true | .byt _,.byt _=>true
 | .int _,.str _=>true | .str _,.int _=>true | .bl _,.str _=>true | .str _,.bl _=>true
 | _,_=>false
def u9:R2:=λx y H Q=>yQ x y=true/\Q (.bl (decide (x=y))) H
def vb:R2:=λx y H Q=>yQ x y=true/\Q (.bl (!decide (x=y))) H
theorem wY{i j:Int}:decide (V.int i=V.int j)=(i == j):=by
 rw [af5];simp
theorem zx{i j:Bool}:decide (V.bl i=V.bl j)=(i == j):=by
 rw [af5];simp
theorem wZ{i j:Str}:decide (V.str i=V.str j)=(i == j):=by
 rw [af5];simp
theorem wX{i j:Array UInt8}:decide (V.byt i=V.byt j)=(i.toList == j.toList):=by
 rw [af5];cases i;cases j;simp
section
variable {a b:Expr} {tb tc:TE}
theorem bz{Q:VK}{k k':Bool}(I:aO X pins Z H s)(q:Q (.bl k) H)(e:k=k'):EP X pins Z Q (.bool k') s:=by
 subst e;exact⟨.bl k,H,I,rfl,q⟩
theorem F9:dH X (compareOp .Eq) u9:=by
 rintro pins s Z H x y v u Q I rx ry ⟨hs,q⟩
 cases x with
 | non=>
  cases rx
  cases y with
  | non=>cases ry;exact PySem.EqNone.eq_none_none (bz I q (by simp))
  | bl j=>cases ry;exact PySem.EqNone.eq_none_bool (bz I q (by simp))
  | int j=>obtain⟨t',rfl⟩:=ry;exact PySem.EqNone.eq_none_int (bz I q (by simp))
  | str j=>obtain⟨t',rfl⟩:=ry;exact PySem.EqNone.eq_none_str (bz I q (by simp))
  | _=>exact absurd (show false=true from hs) aa6
 | bl i=>
  cases rx
  cases y with
  | non=>cases ry;exact PySem.EqNone.eq_bool_none (bz I q (by simp))
  | bl j=>cases ry;exact eq_bool (bz I q zx)
  | str j=>obtain⟨t',rfl⟩:=ry;exact PySem.EqMixed.eq_bool_str (bz I q (by simp))
  | _=>exact absurd (show false=true from hs) aa6
 | int i=>
  obtain⟨t,rfl⟩:=rx
  cases y with
  | non=>cases ry;exact PySem.EqNone.eq_int_none (bz I q (by simp))
  | int j=>obtain⟨t',rfl⟩:=ry;exact eq_int (bz I q wY)
  | str j=>obtain⟨t',rfl⟩:=ry;exact PySem.EqMixed.eq_int_str (bz I q (by simp))
  | _=>exact absurd (show false=true from hs) aa6
 | str i=>
  obtain⟨t,rfl⟩:=rx
  cases y with
  | non=>cases ry;exact PySem.EqNone.eq_str_none (bz I q (by simp))
  | bl j=>cases ry;exact PySem.EqMixed.eq_str_bool (bz I q (by simp))
  | int j=>obtain⟨t',rfl⟩:=ry;exact PySem.EqMixed.eq_str_int (bz I q (by simp))
  | str j=>obtain⟨t',rfl⟩:=ry;exact eq_str (bz I q wZ)
  | _=>exact absurd (show false=true from hs) aa6
 | byt i=>
  obtain⟨t,rfl⟩:=rx
  cases y with
  | byt j=>obtain⟨t',rfl⟩:=ry;exact PySem.W.eq_bytes (bz I q wX)
  | _=>exact absurd (show false=true from hs) aa6
 | _=>cases y<;>exact absurd (show false=true from hs) aa6
theorem Gb:dH X (compareOp .NotEq) vb:=by
 rintro pins s Z H x y v u Q I rx ry ⟨hs,q⟩
 cases x with
 | non=>
  cases rx
  cases y with
  | non=>cases ry;exact PySem.EqNone.ne_none_none (bz I q (by simp))
  | bl j=>cases ry;exact PySem.EqNone.ne_none_bool (bz I q (by simp))
  | int j=>obtain⟨t',rfl⟩:=ry;exact PySem.EqNone.ne_none_int (bz I q (by simp))
  | str j=>obtain⟨t',rfl⟩:=ry;exact PySem.EqNone.ne_none_str (bz I q (by simp))
  | _=>exact absurd (show false=true from hs) aa6
 | bl i=>
  cases rx
  cases y with
  | non=>cases ry;exact PySem.EqNone.ne_bool_none (bz I q (by simp))
  | bl j=>cases ry;exact ne_bool (bz I q (congrArg not zx))
  | str j=>obtain⟨t',rfl⟩:=ry;exact PySem.EqMixed.ne_bool_str (bz I q (by simp))
  | _=>exact absurd (show false=true from hs) aa6
 | int i=>
  obtain⟨t,rfl⟩:=rx
  cases y with
  | non=>cases ry;exact PySem.EqNone.ne_int_none (bz I q (by simp))
  | int j=>obtain⟨t',rfl⟩:=ry;exact ne_int (bz I q (congrArg not wY))
  | str j=>obtain⟨t',rfl⟩:=ry;exact PySem.EqMixed.ne_int_str (bz I q (by simp))
  | _=>exact absurd (show false=true from hs) aa6
 | str i=>
  obtain⟨t,rfl⟩:=rx
  cases y with
  | non=>cases ry;exact PySem.EqNone.ne_str_none (bz I q (by simp))
  | bl j=>cases ry;exact PySem.EqMixed.ne_str_bool (bz I q (by simp))
  | int j=>obtain⟨t',rfl⟩:=ry;exact PySem.EqMixed.ne_str_int (bz I q (by simp))
  | str j=>obtain⟨t',rfl⟩:=ry;exact ne_str (bz I q (congrArg not wZ))
  | _=>exact absurd (show false=true from hs) aa6
 | byt i=>
  obtain⟨t,rfl⟩:=rx
  cases y with
  | byt j=>obtain⟨t',rfl⟩:=ry;exact PySem.W.ne_bytes (bz I q (congrArg not wX))
  | _=>exact absurd (show false=true from hs) aa6
 | _=>cases y<;>exact absurd (show false=true from hs) aa6
theorem Ga:dH X (compareOp .Lt) (va λi j=>.bl (decide (i < j))):=CV λ_ _ _ _ _ _ _ q=>lt_int q
theorem i8:dH X (compareOp .LtE) (va λi j=>.bl (decide (i<=j))):=CV λ_ _ _ _ _ _ _ q=>le_int q
theorem i7:dH X (compareOp .Gt) (va λi j=>.bl (decide (j < i))):=CV λ_ _ _ _ _ _ _ q=>gt_int q
theorem xc:dH X (compareOp .GtE) (va λi j=>.bl (decide (j<=i))):=CV λ_ _ _ _ _ _ _ q=>ge_int q
theorem op_in_str:dH X (compareOp .In) (λx y H Q=>∃i j,x=.str i/\y=.str j/\Q (.bl (!(Builtin.Str.occurrences j i 0 j.length 1).isEmpty)) H):=by
 rintro pins s Z H x y v u Q I rx ry ⟨i,j,rfl,rfl,q⟩;obtain⟨t,rfl⟩:=rx;obtain⟨t',rfl⟩:=ry;exact in_str (bz I q rfl)
theorem eL:dH X (compareOp .Is) (λx y H Q=>y=.non/\Q (.bl (decide (x=.non))) H):=by
 rintro pins s Z H x y v u Q I rx ry ⟨rfl,q⟩;cases ry;refine is_none_gen (bz I q ?_)
 cases x<;>first
  | (cases rx;rfl)
  | (obtain⟨t,rfl⟩:=rx;rfl)
theorem xf:dH X (compareOp .IsNot) (λx y H Q=>y=.non/\Q (.bl (!decide (x=.non))) H):=by
 rintro pins s Z H x y v u Q I rx ry ⟨rfl,q⟩;cases ry;refine isnot_none_gen (bz I q ?_)
 cases x<;>first
  | (cases rx;rfl)
  | (obtain⟨t,rfl⟩:=rx;rfl)
theorem op_notin_str:dH X (compareOp .NotIn) (λx y H Q=>∃i j,x=.str i/\y=.str j/\Q (.bl (!(!(Builtin.Str.occurrences j i 0 j.length 1).isEmpty))) H):=by
 rintro pins s Z H x y v u Q I rx ry ⟨i,j,rfl,rfl,q⟩;obtain⟨t,rfl⟩:=rx;obtain⟨t',rfl⟩:=ry;exact notIn_str (bz I q rfl)
theorem dH.or{f:Value->Value->Sem Value}{r r':R2}(h:dH X f r)(h':dH X f r'):dH X f (λx y H Q=>r x y H Q\/r' x y H Q):=by
 intro pins s Z H x y v u Q I rx ry q;rcases q with q | q
 ·exact h pins s Z H x y v u Q I rx ry q
 ·exact h' pins s Z H x y v u Q I rx ry q
theorem az(b:Expr)(h:op≠.In:=by decide)(h2:op≠.NotIn:=by decide):behindInMarks op b=false:=by
 have e1:(op == CmpOp.In)=false:=by cases op<;>first | rfl | exact absurd rfl h
 have e2:(op == CmpOp.NotIn)=false:=by cases op<;>first | rfl | exact absurd rfl h2
 cases b<;>simp [behindInMarks,e1,e2]
theorem bc{r:R2}(ho:dH X (compareOp op) r)(ha:PE X a ta)(hb:PE X b tb)(hm:behindInMarks op b=false):PE X (.Compare a [op] [b] pos) (E9 r ta tb):=by
 intro pins s Z H Q I h;exact wpAny_Compare1 (BZ ha hb I h λv u s2 x y H2 I2 rx ry q=>ho pins s2 Z H2 x y v u Q I2 rx ry q) hm
def rO(t:TE):TT:=λZ H Q=>t Z H λx H'=>∃k,x=.bl k/\Q k H'
theorem ay{r:R2}(ho:dH X (compareOp op) r)(ha:PE X a ta)(hb:PE X b tb)(hm:behindInMarks op b=false):PT X (.Compare a [op] [b] pos) (rO (E9 r ta tb)):=by
 intro pins s Z H Q I h
 refine wpAny_isTrue_Compare1 (cW (ha pins s Z H _ I h) λv s1 ⟨x,H1,I1,r1,q1⟩=>cW (hb pins s1 Z H1 _ I1 q1) λu s2 ⟨y,H2,I2,r2,q2⟩=>
  cW (ho pins s2 Z H2 x y v u _ I2 r1 r2 q2) λc s3 ⟨z,H3,I3,r3,k,e,q3⟩=>?_) hm
 subst e;cases r3;exact ae4 ⟨H3,I3,q3⟩
def wD(r r':R2)(ta tb tc:TE):TE:=λZ H Q=>ta Z H λx H1=>tb Z H1 λy H2=>r x y H2 λz H3=>∃k,z=.bl k/\
 (if k=true then tc Z H3 λw' H4=>r' y w' H4 Q else Q (.bl false) H3)
theorem uz{op':CmpOp}{r r':R2}(ho:dH X (compareOp op) r)(ho':dH X (compareOp op') r')(ha:PE X a ta)(hb:PE X b tb)(hc:PE X c tc)
  (hm:lastMarks [op,op'] [b,c]=false:=by with_unfolding_all rfl):PE X (.Compare a [op,op'] [b,c] pos) (wD r r' ta tb tc):=by
 intro pins s Z H Q I h
 refine Compare_chain (cW (ha pins s Z H _ I h) λv s1 ⟨x,H1,I1,r1,q1⟩=>chain_link (cW (hb pins s1 Z H1 _ I1 q1) λu s2 ⟨y,H2,I2,r2,q2⟩=>
  cW (ho pins s2 Z H2 x y v u _ I2 r1 r2 q2) λd s3 ⟨z,H3,I3,r3,k,e,q3⟩=>?_)) hm
 subst e;cases r3;refine ae4 ?_
 cases k with
 | false=>exact ite_ff ⟨.bl false,H3,I3,rfl,q3⟩
 | true=>exact ite_tt (chain_last (cW (hc pins s3 Z H3 _ I3 q3) λw' s4 ⟨z',H4,I4,r4,q4⟩=>ho' pins s4 Z H4 y z' u w' Q I4 r2 r4 q4))
theorem uC{op':CmpOp}{r r':R2}(ho:dH X (compareOp op) r)(ho':dH X (compareOp op') r')(ha:PE X a ta)(hb:PE X b tb)(hc:PE X c tc)
  (hm:lastMarks [op,op'] [b,c]=false:=by with_unfolding_all rfl):PT X (.Compare a [op,op'] [b,c] pos) (rO (wD r r' ta tb tc)):=by
 intro pins s Z H Q I h
 refine isTrue_chain (cW (ha pins s Z H _ I h) λv s1 ⟨x,H1,I1,r1,q1⟩=>test_link (cW (hb pins s1 Z H1 _ I1 q1) λu s2 ⟨y,H2,I2,r2,q2⟩=>
  cW (ho pins s2 Z H2 x y v u _ I2 r1 r2 q2) λd s3 ⟨z,H3,I3,r3,k,e,q3⟩=>?_)) hm
 subst e;cases r3;refine ae4 ?_
 cases k with
 | false=>
  obtain⟨k',e',q'⟩:=q3;cases e';exact ite_ff ⟨H3,I3,q'⟩
 | true=>
  refine ite_tt (test_last (cW (hc pins s3 Z H3 _ I3 q3) λw' s4 ⟨z',H4,I4,r4,q4⟩=>cW (ho' pins s4 Z H4 y z' u w' _ I4 r2 r4 q4) λd' s5 zq0=>?_));obtain⟨z2,H5,I5,r5,k2,e2,q5⟩:=zq0;subst e2;cases r5;exact ae4 ⟨H5,I5,q5⟩
def BX(K:Frag)(x:V)(H:Hp)(k:Bool):Prop:=
 match x with
 | .non=>k=false
 | .bl b=>k=b
 | .int i=>k=(i != 0)
 | .str y=>y.length<=sizeLine/\k=((y.length:Int) != 0)
 | .byt y=>y.size<=sizeLine/\k=((y.size:Int) != 0)
 | .ref p=>(∃xs,aJ K H p xs/\k=!xs.isEmpty)\/(∃xs,cI K H p xs/\k=!xs.isEmpty)\/∃kvs,H p=some (.dK kvs)/\k=!kvs.isEmpty
 | _=>False
theorem vv{κ:Type}{kvs:List (κ×V)}{vs:List (κ×Value)}(r:KV kvs vs):(!vs.isEmpty)=!kvs.isEmpty:=by
 cases r<;>rfl
theorem oo{its:List Value}(r:aX xs its):(!its.toArray.isEmpty)=!xs.isEmpty:=by
 cases r<;>simp
theorem j5:(sizeLine:Nat) < 2 ^ 63:=by rw [sizeLine_eq];decide
theorem Fg:Hb X (λx H Q=>∃k,BX X.K x H k/\Q k H):=by
 rintro pins s Z H x v Q I rx ⟨k,e,q⟩;have hl:=j5;have hs:=sizeLine_eq
 cases x with
 | non=>
  cases rx;have e':k=false:=e;subst e';exact truthy_none ⟨H,I,q⟩
 | bl b=>
  cases rx;have e':k=b:=e;subst e';exact ae4 ⟨H,I,q⟩
 | int i=>
  obtain⟨t,rfl⟩:=rx;have e':k=(i != 0):=e;subst e';exact PySem.P.truthy_int ⟨H,I,q⟩
 | str y=>
  obtain⟨t,rfl⟩:=rx;obtain⟨hy,e'⟩:y.length<=sizeLine/\k=((y.length:Int) != 0):=e;subst e';exact PySem.P.truthy_str () ⟨H,I.tok _,q⟩
 | byt y=>
  obtain⟨t,rfl⟩:=rx;obtain⟨hy,e'⟩:y.size<=sizeLine/\k=((y.size:Int) != 0):=e;subst e';exact PySem.W.truthy_bytes () ⟨H,I.tok _,q⟩
 | ref p=>
  cases rx;have e':(∃xs,aJ X.K H p xs/\k=!xs.isEmpty)\/(∃xs,cI X.K H p xs/\k=!xs.isEmpty)\/∃kvs,H p=some (.dK kvs)/\k=!kvs.isEmpty:=e;rcases e' with⟨xs,hx,e'⟩ | ⟨xs,hx,e'⟩ | ⟨kvs,hx,e'⟩
  ·subst e'
   obtain⟨its,r,pl,hz⟩:=I.list hx;have hlen:=r.length;exact wpAny_truthy_list pl.isList (by simp only [ab1];omega) ⟨H,I.tok _,by rw [oo r];exact q⟩
  ·subst e'
   obtain⟨its,r,pl,hz⟩:=I.tuple hx;have hlen:=r.length;exact truthy_tuple pl (by simp only [ab1];omega) ⟨H,I.tok _,by rw [oo r];exact q⟩
  ·subst e'
   obtain⟨hz,hS,vs,r,m⟩:kvs.length<=sizeLine/\(p == sysModules)=false/\∃vs,KV kvs vs/\s.heap.DictOf (sy X.prog X.w) p vs:=I.hok p _ hx;have hlen:kvs.length=vs.length:=Paired.length r;exact wpAny_truthy_dict hS m () ⟨H,I.tok _,by rw [vv r];exact q⟩
 | _=>exact(show False from e).elim
theorem bo(ha:PE X a ta)(he:∀whole,isTrue a X.env whole=(do let v <-whole;standAt a.pos;holding [v] (truthy v))):
  PT X a (λZ H Q=>ta Z H λx H'=>∃k,BX X.K x H' k/\Q k H'):=by
 intro pins s Z H Q I h;exact isTrue_plain (cW (ha pins s Z H _ I h) λv s1 ⟨x,H1,I1,r1,q1⟩=>Fg pins s1 Z H1 x v Q I1 r1 q1) (he _)
theorem op_add_str:dH X (binaryOp .Add) (λx y H Q=>∃i j,x=.str i/\y=.str j/\i.length+j.length<=sizeLine/\Q (.str (i++j)) H):=by
 rintro pins s Z H x y v u Q I rx ry ⟨i,j,rfl,rfl,hz,q⟩;obtain⟨t,rfl⟩:=rx;obtain⟨t',rfl⟩:=ry;exact add_str (λt' tk=>⟨.str (i++j),H,I.tok _,⟨_,rfl⟩,q⟩) hz
theorem fF{x:V}(r:aX [x] us):∃u,us=[u]/\aS x u:=by
 cases r with
 | cons r1 r2=>cases r2;exact⟨_,rfl,r1⟩
theorem u4{x:V}(r:aX [x,y] us):∃u w',us=[u,w']/\aS x u/\aS y w':=by
 cases r with
 | cons r1 r2=>
  cases r2 with
  | cons r3 r4=>cases r4;exact⟨_,_,rfl,r1,r3⟩
theorem zr:cS X (.builtin "abs") (λxs H Q=>∃i,xs=[.int i]/\Q (.int (if i < 0 then -i else i)) H):=by
 rintro pins s Z H xs us Q I r ⟨i,rfl,q⟩;obtain⟨u,rfl,t,rfl⟩:=fF r;exact call_abs_int λu tk=>⟨.int (if i < 0 then -i else i),H,I.tok _,⟨_,rfl⟩,q⟩
theorem xV(hc:X.calm=true):cS X (.builtin "max") (λxs H Q=>∃i j,xs=[.int i,.int j]/\Q (.int (if j > i then j else i)) H):=by
 rintro pins s Z H xs us Q I r ⟨i,j,rfl,q⟩;obtain⟨u,w',rfl,⟨t,rfl⟩,⟨t',rfl⟩⟩:=u4 r;refine max_two_ints (I.ok.hd hc) λh' tk k=>⟨_,H,I.kept k,?_,q⟩
 by_cases hj:j > i
 ·rw [if_pos hj,if_pos hj];exact⟨_,rfl⟩
 ·rw [if_neg hj,if_neg hj];exact⟨_,rfl⟩
theorem qY(hc:X.calm=true):cS X (.builtin "min") (λxs H Q=>∃i j,xs=[.int i,.int j]/\Q (.int (if j < i then j else i)) H):=by
 rintro pins s Z H xs us Q I r ⟨i,j,rfl,q⟩;obtain⟨u,w',rfl,⟨t,rfl⟩,⟨t',rfl⟩⟩:=u4 r;refine min_two_ints (I.ok.hd hc) λh' tk k=>⟨_,H,I.kept k,?_,q⟩
 by_cases hj:j < i
 ·rw [if_pos hj,if_pos hj];exact⟨_,rfl⟩
 ·rw [if_neg hj,if_neg hj];exact⟨_,rfl⟩
theorem xT:cS X (.type "int") (λxs H Q=>(∃i,xs=[.int i]/\Q (.int i) H)\/∃k,xs=[.bl k]/\Q (.int (if k then 1 else 0)) H):=by
 intro pins s Z H xs us Q I r h;rcases h with⟨i,rfl,q⟩ | ⟨k,rfl,q⟩
 ·obtain⟨u,rfl,t,rfl⟩:=fF r
  exact call_int_int ⟨.int i,H,I,⟨_,rfl⟩,q⟩
 ·obtain⟨u,rfl,r1⟩:=fF r
  cases r1;exact call_int_bool ⟨.int (if k then 1 else 0),H,I.tok _,⟨_,rfl⟩,q⟩
theorem call_str_int:cS X (.type "str") (λxs H Q=>∃i,xs=[.int i]/\i.natAbs.log2 < 1920/\Q (.str (toString i)) H):=by
 rintro pins s Z H xs us Q I r ⟨i,rfl,hz,q⟩;obtain⟨u,rfl,t,rfl⟩:=fF r;exact PySem.P.str_of_int hz ⟨.str _,H,I.tok _,⟨_,rfl⟩,q⟩
end
structure vf(h:Heap)(x dx C:Addr)(mA:Str->Option Value):Prop where
 obj:h.get? x=some (instObj C dx)
 ns:h.Ns1 dx mA
 ne:dx≠x
theorem yt(n:h.Ns1 dx mA):∃od,h.get? dx=some od/\∀name,PySem.W.lookIn name od=some (mA name):=by
 obtain⟨o,es,ep,ho,hd,hk,_,hm⟩:=n;refine⟨o,ho,λname=>?_⟩;have e:=hm name;unfold nsFind findBy at e;rw [<-Array.find?_toList]at e;unfold PySem.W.lookIn;rw [hd];dsimp only
 split
 ·rename_i y q
  rw [q]at e;exact congrArg some e
 ·rename_i q
  rw [q]at e
  have a:es.toList.any (·.refKey)=false:=by
   rw [ak8];intro y hy;obtain⟨z,t,hkey⟩:=hk y (Array.mem_toList_iff.mp hy);simp [DictEntry.refKey,hkey]
  have a':¬es.toList.any (·.refKey)=true:=by rw [a];exact aa6
  rw [if_neg a'];exact congrArg some e
theorem vf.look{x:Addr}(I:vf h x dx C mA):∃od,PySem.W.InstAt h x (instObj C dx) C (some od)/\∀name,PySem.W.lookIn name od=some (mA name):=
 let ⟨od,ho,hl⟩:=yt I.ns
 ⟨od,⟨I.obj,rfl,rfl,ho⟩,hl⟩
section
variable {prog:Program} {x:Addr} {name:Str} {v:Value}
theorem Ck{expr:Bool}(X:K.In s.heap)(I:vf s.heap x dx C mA)(hg:PySem.W.plainGet K C name=true)(hh:PySem.W.hasDictIn K C=true)
  (ha:findIn K (.ref C) name=some none) (hv:mA name=some v) (hv':PySem.W.handedIn v=true) (h:Q v { s with toks:=s.toks+1 }) :
  wpAny (model prog w) A (getAttr (.ref x) name expr) Q E s:=by
 obtain⟨od,J,hl⟩:=I.look;exact PySem.W.get_value X J (PySem.W.plainGet_of hg).1 (PySem.W.findObj_own hh ha rfl (by rw [hl,hv])) hv' h
theorem zO{pl:Sem Bool}{Q:Value×List Value->Shared->Prop}(X:K.In s.heap)(I:vf s.heap x dx C mA)(hg:PySem.W.plainGet K C name=true)
  (hf:findIn K (.ref C) name=some (some (.ref f))) (ht:PySem.W.isFn K (.ref f)=true) (hv:mA name=none) (h:Q (.ref f,[.ref x]) s) :
  wpAny (model prog w) A (getMethod (.ref x) name pl) Q E s:=by
 obtain⟨od,J,hl⟩:=I.look
 exact PySem.W.method_fn X J (PySem.W.plainGet_of hg).1 (PySem.W.plainGet_of hg).2 hf (beq_iff_eq.mp ht) (by show(PySem.W.lookIn name od).map (·.isSome)=some false;rw [hl,hv];rfl) h
theorem Dv{ns:List Str}{Q:Unit->Shared->Prop}(X:K.In s.heap)(I:vf s.heap x dx C mA)
  (hs:findIn K (.ref C) "__setattr__"=some (some (.builtin "object.__setattr__"))) (hp:PySem.W.plainOver K C=true) (ht:PySem.W.takerIn K C name=some none) (hh:PySem.W.hasDictIn K C=true)
  (hw:PySem.Within mA ns) (hsz:ns.length<=sizeLine)
  (h:∀h',vf h' x dx C (λy=>if y=name then some v else mA y)->Heap.SameBut dx s.heap h'->Q Unit.unit { s with heap:=h',toks:=s.toks+2 }) :
  wpAny (model prog w) A (setAttr (.ref x) name v) Q E s:=by
 obtain⟨od,J,hl⟩:=I.look;refine PySem.W.set_plain X J hs (PySem.W.osa_open (s:={ s with toks:=s.toks+1 }) (r:=none) X J hp ht λb=>?_);obtain⟨cd,hc,hd'⟩:=PySem.W.any_some hh;have hx:s.heap.get? x=some ⟨.ref C,some dx,.plain,#[]⟩:=I.obj;refine aa3 (ab0 (aa3 (aa3 (wpAny_loadPart hx (aa3 (PySem.W.Looks.here (s:={ s with toks:=s.toks+1 }) (PySem.W.looks_clsIn X hc) ?_))))));rw [hd'];refine ab0 (a:=some dx) (aa3 (ab0 (aa3 ?_)));refine wpAny_nsSet1 (s:={ s with toks:=s.toks+1 }) I.ns λh' hn2 hs2=>?_;obtain⟨oD,esD,epD,hoD,hdD,hcD⟩:=hn2.count (PySem.Within.cons name v hw);refine aa3 (wpAny_lookBehind hoD (by rw [hdD];exact pastItsLine_dict (ab6 hcD (by rw [ad4];omega))) ?_);exact ab0 (h _ ⟨(hs2.2 _ (Ne.symm I.ne)).trans I.obj,hn2,I.ne⟩ hs2)
theorem Ap{R:Result->Shared->Prop}{vs:List Value}(X:K.In s.heap)(hm:PySem.W.makesIn K C=true)
  (hi:findIn K (.ref C) "__init__"=some (some (.ref f))) (hf:PySem.W.typeIn K (.ref f)=some (.type "function"))
  (h:codeAny (model prog w) (A.under (.builtin "type.__call__" ⟨.ref C::vs,kw⟩)) (.call (.ref f) ⟨.ref (s.heap.objs.size+1)::vs,kw⟩) (PySem.W.InitBack (s.heap.objs.size+1) R)
   { s with heap:=(s.heap.push emptyDict).push (instObj C s.heap.objs.size) }) :
  codeAny (model prog w) A (.call (.ref C) ⟨vs,kw⟩) R s:=by
 obtain⟨hh,g,d,t,os⟩:=s;exact PySem.W.make_core (PySem.W.makes_of X hm) (PySem.W.looks_findIn X hi) (λself=>PySem.W.bind_fn X self hf) (.inl rfl) h
end
def bu(f:Str)(v:V):List (Str×V)->List (Str×V)
 | []=>[(f,v)]
 | (g,x)::r=>if g=f then(g,v)::r else(g,x)::bu f v r
theorem i4(f g:Str)(v:V):∀fs:List (Str×V),(bu f v fs).lookup g=if g=f then some v else fs.lookup g
 | []=>by
  show List.lookup g [(f,v)]=_
  by_cases h:g=f
  ·have hb:(g == f)=true:=beq_iff_eq.mpr h
   simp only [List.lookup,hb,if_pos h]
  ·have hb:(g == f)=false:=beq_eq_false_iff_ne.mpr h
   simp only [List.lookup,hb,if_neg h]
 | (k,x)::r=>by
  have ih:=i4 f g v r;rw [show bu f v ((k,x)::r)=(if k=f then(k,v)::r else(k,x)::bu f v r)from rfl]
  by_cases hk:k=f
  ·rw [if_pos hk]
   by_cases h:g=k
   ·have hb:(g == k)=true:=beq_iff_eq.mpr h
    simp only [List.lookup,hb,if_pos (h.trans hk)]
   ·have hb:(g == k)=false:=beq_eq_false_iff_ne.mpr h
    simp only [List.lookup,hb,if_neg (λe:g=f=>h (e.trans hk.symm))]
  ·rw [if_neg hk]
   by_cases h:g=k
   ·have hb:(g == k)=true:=beq_iff_eq.mpr h
    simp only [List.lookup,hb,if_neg (λe:g=f=>hk (h.symm.trans e))]
   ·have hb:(g == k)=false:=beq_eq_false_iff_ne.mpr h
    simp only [List.lookup,hb];exact ih
theorem l8(f:Str)(v:V):∀fs:List (Str×V),f∈(bu f v fs).map (·.1)/\∀g,g∈fs.map (·.1)->g∈(bu f v fs).map (·.1)
 | []=>⟨by simp [bu],λg h=>by simp at h⟩
 | (k,x)::r=>by
  obtain⟨i1,i2⟩:=l8 f v r;rw [show bu f v ((k,x)::r)=(if k=f then(k,v)::r else(k,x)::bu f v r)from rfl]
  by_cases hk:k=f
  ·rw [if_pos hk]
   subst hk;exact⟨by simp,λg h=>by simpa using h⟩
  ·rw [if_neg hk]
   refine⟨?_,λg h=>?_⟩
   ·rw [ac7]
    exact ad9 _ i1
   ·rw [ac7]at h |-
    rcases ab2.mp h with e | e
    ·exact ab2.mpr (.inl e)
    ·exact ad9 _ (i2 g e)
theorem bC(f:Str)(v:V):∀fs:List (Str×V),(bu f v fs).length<=fs.length+1
 | []=>by simp [bu]
 | (k,x)::r=>by
  have ih:=bC f v r;rw [show bu f v ((k,x)::r)=(if k=f then(k,v)::r else(k,x)::bu f v r)from rfl]
  by_cases hk:k=f
  ·rw [if_pos hk,ad4,ad4];omega
  ·rw [if_neg hk,ad4,ad4];omega
theorem kK.some_of{o:Option Value}(r:kK (some v) o):∃u,o=some u/\aS v u:=by
 cases o with
 | none=>exact(show False from r).elim
 | some u=>exact⟨u,rfl,r⟩
theorem kK.none_of{o:Option Value}(r:kK none o):o=none:=by
 cases o with
 | none=>rfl
 | some u=>exact(show False from r).elim
theorem ym(r:aS v u):PySem.W.handedIn u=true:=by
 cases v with
 | non=>cases(show u=Value.none from r);rfl
 | bl b=>cases(show u=Value.bool b from r);rfl
 | int i=>obtain⟨t,e⟩:=(show ∃t,u=Value.int i t from r);cases e;rfl
 | str x=>obtain⟨t,e⟩:=(show ∃t,u=Value.str x t from r);cases e;rfl
 | byt b=>obtain⟨t,e⟩:=(show ∃t,u=Value.bytes b t from r);cases e;rfl
 | flt b=>obtain⟨t,e⟩:=(show ∃t,u=Value.float b t from r);cases e;rfl
 | ref a=>cases(show u=Value.ref a from r);rfl
 | ty n=>cases(show u=Value.type n from r);rfl
section
variable {fs fs':List (Str×V)}
theorem nH(hok:jT P w H h)(e:H a=some (.ins C dx fs)):∃mA,vf h a dx C mA/\(∀f,kK (fs.lookup f) (mA f))/\PySem.Within mA (fs.map (·.1))/\fs.length<=1000/\H dx=some (.own a):=by
 obtain⟨d,z,ne,ob,mA,n,r,q⟩:=(show dU P w H h a (.ins C dx fs)from hok a _ e);exact⟨mA,⟨ob,n,ne⟩,r,q,z,d⟩
end
structure u6(K:Frag)(C:Addr):Prop where
 pg:PySem.W.plainGet K C Str.empty=true
 hd:PySem.W.hasDictIn K C=true
 po:PySem.W.plainOver K C=true
 sa:findIn K (.ref C) "__setattr__"=some (some (.builtin "object.__setattr__"))
theorem u6.get(c:u6 K C)(f:Str):PySem.W.plainGet K C f=true:=c.pg
def NoAttr(K:Frag)(C:Addr)(f:Str):Prop:=findIn K (.ref C) f=some none
theorem NoAttr.taker{f:Str}(n:NoAttr K C f):PySem.W.takerIn K C f=some none:=by
 unfold PySem.W.takerIn;rw [show findIn K (.ref C) f=some none from n];rfl
structure Ed(K:Frag)(C:Addr)(m:Str)(f:Addr):Prop where
 at_:findIn K (.ref C) m=some (some (.ref f))
 fn:PySem.W.isFn K (.ref f)=true
 kp:keepIn K (.ref f)=true
section
variable {fs:List (Str×V)} {f:Str}
theorem vq{b:Bool}(I:aO X pins Z H s)(e:H a=some (.ins C dx fs))(c:u6 X.K C)(n:NoAttr X.K C f)(l:fs.lookup f=some v)
  (h:∀u s',aO X pins Z H s'->aS v u->Q u s'):wpAny (model X.prog X.w) A (getAttr (.ref a) f b) Q E s:=by
 obtain⟨mA,O,r,_,_,_⟩:=nH I.hok e;obtain⟨u,hu,ru⟩:=kK.some_of (v:=v) (o:=mA f) (by rw [<-l];exact r f);exact Ck I.kIn O (c.get f) c.hd n hu (ym ru) (h u _ (I.tok _) ru)
theorem n9{g:Addr}{pl:Sem Bool}{Q:Value×List Value->Shared->Prop}(I:aO X pins Z H s)(e:H a=some (.ins C dx fs))(c:u6 X.K C)(k:Ed X.K C m g)(l:fs.lookup m=none)
  (h:Q (.ref g,[.ref a]) s):wpAny (model X.prog X.w) A (getMethod (.ref a) m pl) Q E s:=by
 obtain⟨mA,O,r,_,_,_⟩:=nH I.hok e;have hn:mA m=none:=kK.none_of (by rw [<-l];exact r m);exact zO I.kIn O (c.get m) k.at_ k.fn hn h
theorem v7{Q:Unit->Shared->Prop}(I:aO X pins Z H s)(e:H a=some (.ins C dx fs))(c:u6 X.K C)(n:NoAttr X.K C f)(hl:fs.length < 1000)(ry:aS y u)
  (h:∀s',aO X pins Z (upd H a (.ins C dx (bu f y fs))) s'->Q Unit.unit s'):wpAny (model X.prog X.w) A (setAttr (.ref a) f u) Q E s:=by
 obtain⟨mA,O,r,wi,_,ho⟩:=nH I.hok e
 have hz:(fs.map (·.1)).length<=sizeLine:=by rw [aa0,sizeLine_eq];omega
 refine Dv I.kIn O c.sa c.po n.taker c.hd wi hz λh' O' sb=>h _ ?_
 have hd:∃o,h'.get? dx=some o:=let ⟨o,_,_,e',_⟩:=O'.ns;⟨o,e'⟩
 refine I.write (x:=a) (e:=dx) (by rw [e];exact True.intro) (.inr ho) (λb q hb z=>(sb.2 b hb).trans z) hd ?_;refine⟨by rw [aj O.ne];exact ho,?_,O.ne,O'.obj,_,O'.ns,λg=>?_,λg hg=>?_⟩
 ·have:=bC f y fs;omega
 ·show kK ((bu f y fs).lookup g) (if g=f then some u else mA g)
  rw [i4]
  by_cases q:g=f
  ·rw [if_pos q,if_pos q];exact ry
  ·rw [if_neg q,if_neg q];exact r g
 ·by_cases q:g=f
  ·rw [q];exact(l8 f y fs).1
  ·refine(l8 f y fs).2 g (wi g λz=>hg ?_)
   show(if g=f then some u else mA g)=none;rw [if_neg q];exact z
theorem aO.made(I:aO X pins Z H s):aO X pins Z (upd (upd H s.heap.objs.size (.own (s.heap.objs.size+1))) (s.heap.objs.size+1) (.ins C s.heap.objs.size []))
  { s with heap:=(s.heap.push emptyDict).push (instObj C s.heap.objs.size) }:=by
 have e1:(s.heap.push emptyDict).get? s.heap.objs.size=some emptyDict:=ab9 s.heap rfl
 have e2:((s.heap.push emptyDict).push (instObj C s.heap.objs.size)).get? (s.heap.objs.size+1)=some (instObj C s.heap.objs.size):=by
  have:=ab9 (s.heap.push emptyDict) (o:=instObj C s.heap.objs.size) rfl
  rwa [ae9]at this
 have e3:(s.heap.push emptyDict).Ns s.heap.objs.size (λ_=>none):=⟨emptyDict,#[],_,e1,rfl,(λe he=>absurd he (by simp)),λ_=>rfl⟩;have I1:=I.laid (a:=s.heap.objs.size) (o:=.own (s.heap.objs.size+1)) (h':=s.heap.push emptyDict) (t':=s.toks) (λb u q=>aa5 _ q) (aa9 _) ⟨_,e1⟩;refine I1.laid (a:=s.heap.objs.size+1) (o:=.ins C s.heap.objs.size []) (t':=s.toks) (λb u q=>aa5 _ q) (Nat.le_of_eq (ae9 _ _)) ?_;have ne:s.heap.objs.size≠s.heap.objs.size+1:=ad3 (aj8 _);refine⟨by rw [aj ne,ae],ac2 _,ne,e2,λ_=>none,(Heap.Ns1.of_empty e3).at λo q=>aa5 _ q,λ_=>True.intro,λy hy=>absurd rfl hy⟩
theorem BY{prog:Program}{env:Env}{f:Str}(hb:attributeBase e f env (eval e env)=eval e env)
  (h:wpAny (model prog w) A (eval e env) (λo Zg=>wpAny (model prog w) A (getAttr o f true) Q E Zg) E s):wpAny (model prog w) A (eval (.Attribute e f pos) env) Q E s:=
 Attribute_any_ h (by rw [arm_eval_Attribute,hb])
end
def Gu(K:Frag)(ta:TE)(f:Str):TE:=λZ H Q=>ta Z H λx H1=>∃a C dx fs v,x=.ref a/\H1 a=some (.ins C dx fs)/\u6 K C/\NoAttr K C f/\fs.lookup f=some v/\Q v H1
def Gm(K:Frag)(ta tv:TE)(f:Str):TS:=λD Z H=>tv Z H λy H1=>ta Z H1 λx H2=>∃a C dx fs,x=.ref a/\H2 a=some (.ins C dx fs)/\u6 K C/\NoAttr K C f/\fs.length < 1000/\
 D.nx Z (upd H2 a (.ins C dx (bu f y fs)))
section
variable {o value:Expr} {f:Str} {tpos:Pos} {tv:TE}
theorem aV(he:PE X e ta)(hb:attributeBase e f X.env (eval e X.env)=eval e X.env):PE X (.Attribute e f pos) (Gu X.K ta f):=by
 intro pins s Z H Q I h;refine BY hb (cW (he pins s Z H _ I h) λu s1 zq0=>?_);obtain⟨x,H1,I1,rx,a,C,dx,fs,v,ex,ea,c,n,l,q⟩:=zq0;subst ex;obtain rfl:u=Value.ref a:=rx;exact vq I1 ea c n l λu' s2 I2 ru=>⟨v,H1,I2,ru,q⟩
theorem bI(ha:PE X o ta)(hv:PE X value tv)(hs:swapsWith value (some (.Attribute o f pos')) pos.line X.env=pure false):PS X (.Assign [.Attribute o f pos'] value pos) (Gm X.K ta tv f):=by
 intro pins s Z H D I h;refine plainObj_wpAny_Assign_Attribute (cW (hv pins s Z H _ I h) λu s1 ⟨y,H1,I1,ry,q⟩=>cW (ha pins s1 Z H1 _ I1 q) λov s2 zq0=>?_) hs;obtain⟨x,H2,I2,rx,a,C,dx,fs,ex,ea,c,n,l,q2⟩:=zq0;subst ex;obtain rfl:ov=Value.ref a:=rx;exact v7 I2 ea c n l ry λs3 I3=>⟨Z,_,I3,q2⟩
end
section
variable {c:Value} {b:Bool}
inductive kM(K:Frag)(H:Hp):V->Value->Prop where
 | non:kM K H .non (.type "NoneType")
 | bl (x:Bool):kM K H (.bl x) (.type "bool")
 | int (i:Int):kM K H (.int i) (.type "int")
 | str (x:Str):kM K H (.str x) (.type "str")
 | flt (x:UInt64):kM K H (.flt x) (.type "float")
 | lst {a:Addr} {xs:List V} (e:H a=some (.lst xs)):kM K H (.ref a) (.type "list")
 | frz {a:Addr} {o:Obj} {xs:List V} (e:H a=some (.frz o (.lst xs))):kM K H (.ref a) (.type "list")
 | tup {a:Addr} {xs:List V} (e:H a=some (.tup xs)):kM K H (.ref a) (.type "tuple")
 | dK {a:Addr} {kvs:List (tJ×V)} (e:H a=some (.dK kvs)):kM K H (.ref a) (.type "dict")
 | dT {a:Addr} {kvs:List (List tJ×V)} (e:H a=some (.dT kvs)):kM K H (.ref a) (.type "dict")
 | ins {a C dx:Addr} {fs:List (Str×V)} (e:H a=some (.ins C dx fs)) (cl:u6 K C) (ha:findIn K (.ref C) "__class__"=some (some (.builtin "object.__class__")))
   (hn:PySem.W.specialIn K (.builtin "object.__class__") "__get__"=some (some (.builtin "getset_descriptor.__get__"))) (htk:PySem.W.takesIn K (.builtin "object.__class__")=some true)
   (hm:PySem.W.mroIn K C (.type "object")=some true):kM K H (.ref a) (.ref C)
theorem yq{x:V}{t:Value}(I:aO X pins Z H s)(rx:aS x u)(ty:kM X.K H x t)(e:PySem.W.kitOne X.K t c=some b)(h:∀tk,Q (.bool b) { s with toks:=tk }):
  wpAny (model X.prog X.w) A (call (.builtin "isinstance") [u,c]) Q E s:=by
 cases ty with
 | non=>cases(show u=Value.none from rx);exact kia_one PySem.W.kitx_none I.kIn True.intro e (λz=>nomatch z) h
 | bl y=>cases(show u=Value.bool y from rx);exact kia_one PySem.W.kitx_bool I.kIn True.intro e (λz=>nomatch z) h
 | int i=>obtain⟨t,q⟩:=(show ∃t,u=Value.int i t from rx);cases q;exact kia_one PySem.W.kitx_int I.kIn True.intro e (λz=>nomatch z) h
 | str y=>obtain⟨t,q⟩:=(show ∃t,u=Value.str y t from rx);cases q;exact kia_one PySem.W.kitx_str I.kIn True.intro e (λz=>nomatch z) h
 | flt y=>obtain⟨t,q⟩:=(show ∃t,u=Value.float y t from rx);cases q;exact kia_one PySem.W.kitx_float I.kIn True.intro e (λz=>nomatch z) h
 | @lst a xs ea=>
  cases(show u=Value.ref a from rx);obtain⟨_,_,n,_,h1⟩:=(show dU X.prog X.w H s.heap a (.lst xs)from I.hok a _ ea);exact kia_one PySem.W.kitx_list I.kIn ⟨_,h1,rfl⟩ e (λz=>nomatch z) h
 | @frz a ob xs ea=>
  cases(show u=Value.ref a from rx);obtain⟨_,_,_,n,_,h1⟩:=(show dU X.prog X.w H s.heap a (.frz ob (.lst xs))from I.hok a _ ea);exact kia_one PySem.W.kitx_list I.kIn ⟨_,h1,rfl⟩ e (λz=>nomatch z) h
 | @tup a xs ea=>
  cases(show u=Value.ref a from rx);obtain⟨_,_,_,p⟩:=(show dU X.prog X.w H s.heap a (.tup xs)from I.hok a _ ea);obtain⟨o,h1,h2,_⟩:=p;exact kia_one PySem.W.kitx_tuple I.kIn ⟨o,h1,h2⟩ e (λz=>nomatch z) h
 | @dK a kvs ea=>
  cases(show u=Value.ref a from rx);obtain⟨_,_,vs,_,p⟩:=(show dU X.prog X.w H s.heap a (.dK kvs)from I.hok a _ ea);obtain⟨o,es,ep,h1,h2,_⟩:=p;exact kia_one PySem.W.kitx_dict I.kIn ⟨o,h1,h2.1⟩ e (λz=>nomatch z) h
 | @dT a kvs ea=>
  cases(show u=Value.ref a from rx);obtain⟨_,_,xs,_,o,es,ep,h1,h2,_⟩:=(show dU X.prog X.w H s.heap a (.dT kvs)from I.hok a _ ea);exact kia_one PySem.W.kitx_dict I.kIn ⟨o,h1,h2.1⟩ e (λz=>nomatch z) h
 | @ins a C dx fs ea cl ha hn htk hm=>
  cases(show u=Value.ref a from rx);obtain⟨mA,O,_⟩:=nH I.hok ea;obtain⟨od,J,_⟩:=O.look;exact kia_one (PySem.W.kitx_own (cl.get _) cl.hd ha hn htk hm) I.kIn J e (λz=>nomatch z) h
end
structure dX(k:Nat)(A:Around):Prop where
 hd:A.handled=none
 dp:A.depth+3 * k+5 < recursionLimit
 un:A.units+16 * k+200 < cLine
theorem dX.mono(r:dX k A)(h:j<=k):dX j A:=⟨r.hd,by have:=r.dp;omega,by have:=r.un;omega⟩
theorem dX.deeper(r:dX (k+1) A)(env:Env):dX k (A.deeper env):=
 ⟨r.hd,by have:=r.dp;show A.depth+1+3 * k+5 < _;omega,by have:=r.un;show A.units+3+16 * k+200 < _;omega⟩
theorem vy:(A.under (.builtin "type.__call__" ⟨.ref C::us,kw⟩)).depth=A.depth+1:=by
 first | rfl | simp [Around.under,Code.weight,Code.isCreation,Code.isGuard,Code.isCaller,Code.frames,Code.isFrame,guardIds]
theorem vz:(A.under (.builtin "type.__call__" ⟨.ref C::us,kw⟩)).units=A.units+1:=by
 first | rfl | simp [Around.under,Code.cUnits,Code.frames,Code.isFrame]
theorem dX.make(r:dX (k+1) A)(C:Addr)(us:List Value)(kw:List (Str×Value)):dX k (A.under (.builtin "type.__call__" ⟨.ref C::us,kw⟩)):=
 ⟨r.hd,by have:=r.dp;rw [vy];omega,by have:=r.un;rw [vz];omega⟩
theorem dX.depth(r:dX k A):A.depth < recursionLimit:=by have:=r.dp;omega
theorem dX.units(r:dX k A):A.units+64 < cLine:=by have:=r.un;omega
def wG:TA:=λ_ H Q=>Q [] H
def rN(ta:TE)(tr:TA):TA:=λZ H Q=>ta Z H λx H1=>tr Z H1 λxs H2=>Q (x::xs) H2
theorem ah:PA X [] wG:=λ_ _ _ _ H Q I h=>Calls.spliced_nil ⟨[],H,I,.nil,h⟩
theorem aa(ha:PE X e te)(hr:PA X es t)(hs:starEach (e::es) X.env=(false,eval e X.env)::starEach es X.env:=by rfl):PA X (e::es) (rN te t):=by
 intro pos pins s Z H Q I h;rw [hs];show wpAny _ _ (spliced ((false,eval e X.env)::backTo pos (starEach es X.env))) _ _ s;refine Calls.spliced_cons (cW (ha pins s Z H _ I h) λu s1 zq0=>?_);obtain⟨x,H1,I1,r1,q1⟩:=zq0;exact cW (hr pos pins s1 Z H1 _ I1 q1) λus s2 ⟨xs,H2,I2,r2,q2⟩=>⟨x::xs,H2,I2,.cons r1 r2,q2⟩
def Gz(t:TA):TE:=λZ H Q=>t Z H λxs H1=>xs.length<=sizeLine/\∀p,H1 p=none->Q (.ref p) (upd H1 p (.tup xs))
def Gw(t:TA):TE:=λZ H Q=>t Z H λxs H1=>xs.length<=sizeLine/\∀p,H1 p=none->Q (.ref p) (upd H1 p (.lst xs))
theorem dk{x1}(h:PA X es t):PE X (.Tuple es x1 pos) (Gz t):=by
 intro pins s Z H Q I hq;refine wpAny_Tuple_spliced (cW (h pos pins s Z H _ I hq) λus s1 ⟨xs,H1,I1,r,z,q⟩=>⟨by rw [<-r.length];exact z,?_⟩);have hf:H1 s1.heap.objs.size=none:=I1.hok.fresh (aa9 _);refine⟨.ref s1.heap.objs.size,upd H1 s1.heap.objs.size (.tup xs),I1.laid (t':=s1.toks) (λb u e=>aa5 _ e) (aa9 _) ?_,rfl,q _ hf⟩;exact⟨z,us,r,⟨_,ab9 _ rfl,rfl,_,rfl⟩⟩
theorem bN(h:PA X es t):PE X (.List es pos) (Gw t):=by
 intro pins s Z H Q I hq;refine wpAny_List_spliced (cW (h pos pins s Z H _ I hq) λus s1 ⟨xs,H1,I1,r,z,q⟩=>⟨by rw [<-r.length];exact z,?_⟩);have hf:H1 s1.heap.objs.size=none:=I1.hok.fresh (aa9 _);refine⟨.ref s1.heap.objs.size,upd H1 s1.heap.objs.size (.lst xs),I1.laid (t':=s1.toks) (λb u e=>aa5 _ e) (aa9 _) ?_,rfl,q _ hf⟩;exact⟨z,us,0,r,ab9 _ rfl⟩
abbrev Sp:=List V->Hp->VK->XK->Prop
variable {sp:Sp}
abbrev BH:=List Env->Hp->Shared->XK->Value->Shared->Prop
variable {CX:BH}
structure ve(P:Program)(w:World)(K:Frag)(mg:Str->Option Value)(base:Heap)(A:Around)(outer:List Env)(s:Shared)(H:Hp):Prop where
 frames:A.frames=some outer
 mod:Mod K mg base
 bs:∀b o,base.get? b=some o->s.heap.get? b=some o/\H b=none
 bsz:base.objs.size<=s.heap.objs.size
 funs:s.heap.FunFrames base outer
 frf:∀b∈u7 outer,H b=none
 hok:jT P w H s.heap
 bare:AllBare s.gens
def CE(outer:List Env)(P:Program)(w:World)(H:Hp)(s:Shared)(Q:VK)(u:Value)(s':Shared):Prop:=
 ∃v H',s'.os=s.os/\AllBare s'.gens/\Un (u7 outer) [] H H' s.heap s'.heap/\jT P w H' s'.heap/\aS v u/\Q v H'
def CR(CX:BH)(outer:List Env)(P:Program)(w:World)(H:Hp)(s:Shared)(Q:VK)(E:XK)(r:Result)(s':Shared):Prop:=
 match r with
 | .ok (.ret u)=>CE outer P w H s Q u s'
 | .ok _=>False
 | .error e=>CX outer H s E e s'
structure aL(P:Program)(w:World)(K:Frag)(mg:Str->Option Value)(base:Heap)(CX:BH)(k:Nat)(f:Addr)(fd:FuncData)(ps:List Str)(sp:Sp):Prop where
 len:∀(A:Around) (_:List Env) (_:Shared) vs H Q E,dX k A->sp vs H Q E->vs.length=ps.length
 run:∀(A:Around) (outer:List Env) (s:Shared) (H:Hp) (args:Args) (us:List Value) (vs:List V) (Q:VK) (E:XK),dX k A->ve P w K mg base A outer s H->BindsTo s fd args (ps.zip us)->aX vs us->sp vs H Q E->
  codeAny (model P w) A (.call (.ref f) args) (CR CX outer P w H s Q E) s
theorem aL.mono(F:aL P w K mg base CX j f fd ps sp)(h:j<=k):
  aL P w K mg base CX k f fd ps sp:=⟨λA o s vs H Q E hr=>F.len A o s vs H Q E (hr.mono h),λA outer s H args us vs Q E hr=>F.run A outer s H args us vs Q E (hr.mono h)⟩
theorem aL.imp{sp':Sp}(F:aL P w K mg base CX k f fd ps sp)
  (h:∀vs H Q E,sp' vs H Q E->sp vs H Q E):aL P w K mg base CX k f fd ps sp':=
 ⟨λA o s vs H Q E hr q=>F.len A o s vs H Q E hr (h _ _ _ _ q),λA outer s H args us vs Q E hr he hb hv hs=>F.run A outer s H args us vs Q E hr he hb hv (h _ _ _ _ hs)⟩
theorem ve.make{outer:List Env}(e:ve P w K mg base A outer s H)(C:Addr)(us:List Value)(kw:List (Str×Value)):
  ve P w K mg base (A.under (.builtin "type.__call__" ⟨.ref C::us,kw⟩)) outer s H:=⟨by first | exact e.frames | (simpa [Around.under,Code.envs,Code.isFrame,pushEnvs]using e.frames),e.mod,e.bs,e.bsz,e.funs,e.frf,e.hok,e.bare⟩
theorem aO.env0(I:aO X pins Z H s):ve X.prog X.w X.K X.mg X.base X.A X.stack s H:=
 ⟨I.ok.frames,I.ok.mod,I.bs,ab6 I.ok.bsz I.sz,I.stack,I.stkFree,I.hok,I.bare⟩
theorem aO.after{Q:VK}(I:aO X pins Z H s)(h:CE X.stack X.prog X.w H s Q u s'):EP X pins Z Q u s':=by
 obtain⟨v,H',os,bare,un,hok,r,q⟩:=h;obtain⟨hh,g,d,t,os'⟩:=s';obtain rfl:os'=s.os:=os;exact⟨v,H',I.call (h':=hh) (g':=g) (d':=d) (t':=t) (ch:=[]) un hok bare (λb z=>absurd z (by simp)),r,q⟩
def uZ(sp:Sp)(dvs:List V)(E:XK)(t:TA):TE:=λZ H Q=>t Z H λvs H1=>sp (vs++dvs) H1 Q E
def Bx(C:Addr)(sp:Sp)(dvs:List V)(E:XK)(t:TA):TE:=λZ H Q=>t Z H λvs H1=>∀x dx,H1 x=none->H1 dx=none->dx≠x->
 sp (.ref x::(vs++dvs)) (upd (upd H1 dx (.own x)) x (.ins C dx [])) (λv H2=>v=.non/\Q (.ref x) H2) E
def dn(K:Frag)(fd:FuncData)(ps:List Str)(ds:List Value):Prop:=
 ∀(s:Shared) (us:List Value),K.In s.heap->(us++ds).length=ps.length->BindsTo s fd ⟨us,[]⟩ (ps.zip (us++ds))
theorem dn.all(h:∀us:List Value,us.length=ps.length->bindArgs fd ⟨us,[]⟩=pure (ps.zip us)):dn K fd ps []:=λs us _ hl=>by
 rw [ae6]at hl |-;exact .of_eq (h us hl)
def nR(CX:BH)(X:Cx)(E:XK):Prop:=∀(pins:List (Addr×Obj)) (Z:St) (H:Hp) (s:Shared) (e:Value) (s':Shared),aO X pins Z H s->CX X.stack H s E e s'->X.xe e s'
section
variable {dvs:List V} {ds:List Value} {E:XK} {apos:Pos} {o:Expr}
theorem oW{Q:VK}(F:aL X.prog X.w X.K X.mg X.base CX k f fd ps sp)(hr:dX k X.A)(hb:dn X.K fd ps ds)(hd:aX dvs ds)(hx:nR CX X E)
  (I:aO X pins Z H s) (r:aX vs us) (h:sp (vs++dvs) H Q E):wpAny (model X.prog X.w) X.A (call (.ref f) us) (EP X pins Z Q) X.xe s:=by
 have r2:aX (vs++dvs) (us++ds):=r.append hd
 have hl:(us++ds).length=ps.length:=by rw [<-r2.length];exact F.len X.A X.stack s _ _ _ _ hr h
 refine wpAny_call (ao4 (F.run X.A X.stack s H ⟨us,[]⟩ (us++ds) (vs++dvs) Q E hr I.env0 (hb s us I.kIn hl) r2 h) λr s' hq=>?_)
 cases r with
 | error e=>exact hx pins Z H s e s' I hq
 | ok fl=>
  cases fl with
  | ret u=>exact I.after hq
  | next=>exact False.elim hq
  | brk=>exact False.elim hq
  | cont=>exact False.elim hq
theorem C3(F:aL X.prog X.w X.K X.mg X.base CX k f fd ps sp)(hr:dX k X.A)(hg:Gl X x)(hm:X.mg x=some (.ref f))(hk:keepIn X.K (.ref f)=true)(hb:dn X.K fd ps ds)(hd:aX dvs ds)(hx:nR CX X E)
  (ha:PA X (e::es) t) (hdb:(x == ("__debug__":Str))=false:=by decide) (he:starEach (e::es) X.env=(false,eval e X.env)::starEach es X.env:=by rfl) (hpl:(backTo pos (starEach es X.env)).any (·.1)=false:=by rfl) :
  PE X (.Call (.Name x p) (e::es) [] pos) (uZ sp dvs E t):=by
 intro pins s Z H Q I h;refine ah4 (nL I hg hm ?_ hdb);refine PySem.W.callWith_K (h₀:=X.base) I.ok.mod.kin hk (cW (ha pos pins s Z H _ I h) λus s1 ⟨vs,H1,I1,r,q⟩=>⟨I1.kIn,?_⟩) he hpl;exact oW F hr hb hd hx I1 r q
structure Mk(K:Frag)(C f:Addr):Prop where
 makes:PySem.W.makesIn K C=true
 init:findIn K (.ref C) "__init__"=some (some (.ref f))
 fn:PySem.W.isFn K (.ref f)=true
 kp:keepIn K (.ref C)=true
theorem A8{Q:VK}(M:Mk X.K C f)(F:aL X.prog X.w X.K X.mg X.base CX k f fd ps sp)(hr:dX (k+1) X.A)(hb:dn X.K fd ps ds)(hd:aX dvs ds)
  (hx:nR CX X E) (I:aO X pins Z H s) (r:aX vs us)
  (h:∀x dx,H x=none->H dx=none->dx≠x->sp (.ref x::(vs++dvs)) (upd (upd H dx (.own x)) x (.ins C dx [])) (λv H2=>v=.non/\Q (.ref x) H2) E) :
  wpAny (model X.prog X.w) X.A (call (.ref C) us) (EP X pins Z Q) X.xe s:=by
 have hq:=h (s.heap.objs.size+1) s.heap.objs.size (I.hok.fresh (Nat.le_succ _)) (I.hok.fresh (aa9 _)) (ad3 (aj8 _));have I2:=aO.made (C:=C) I;have r2:aX (V.ref (s.heap.objs.size+1)::(vs++dvs)) (Value.ref (s.heap.objs.size+1)::(us++ds)):=.cons rfl (r.append hd)
 have hl:(Value.ref (s.heap.objs.size+1)::us++ds).length=ps.length:=by
  have e:=r2.length;rw [F.len _ X.stack s _ _ _ _ (hr.make C us []) hq]at e;exact e.symm
 refine wpAny_call (Ap (f:=f) I.kIn M.makes M.init (beq_iff_eq.mp M.fn) (ao4 (F.run _ X.stack _ _ ⟨Value.ref (s.heap.objs.size+1)::us,[]⟩ (Value.ref (s.heap.objs.size+1)::(us++ds)) _ _ E (hr.make C us [])
  (I2.env0.make C us []) (hb _ (Value.ref (s.heap.objs.size+1)::us) I2.kIn hl) r2 hq) λr s' hq'=>?_))
 cases r with
 | error e=>exact hx pins Z _ _ e s' I2 hq'
 | ok fl=>
  cases fl with
  | ret u=>
   obtain⟨v,H',I3,rv,ev,q3⟩:=I2.after hq';subst ev;exact⟨rv,⟨V.ref (s.heap.objs.size+1),H',I3,rfl,q3⟩⟩
  | next=>exact False.elim hq'
  | brk=>exact False.elim hq'
  | cont=>exact False.elim hq'
theorem C6(M:Mk X.K C f)(F:aL X.prog X.w X.K X.mg X.base CX k f fd ps sp)(hr:dX (k+1) X.A)(hg:Gl X x)(hm:X.mg x=some (.ref C))(hb:dn X.K fd ps ds)(hd:aX dvs ds)(hx:nR CX X E)
  (ha:PA X (e::es) t) (hdb:(x == ("__debug__":Str))=false:=by decide) (he:starEach (e::es) X.env=(false,eval e X.env)::starEach es X.env:=by rfl) (hpl:(backTo pos (starEach es X.env)).any (·.1)=false:=by rfl) :
  PE X (.Call (.Name x p) (e::es) [] pos) (Bx C sp dvs E t):=by
 intro pins s Z H Q I h;refine ah4 (nL I hg hm ?_ hdb);refine PySem.W.callWith_K (h₀:=X.base) I.ok.mod.kin M.kp (cW (ha pos pins s Z H _ I h) λus s1 ⟨vs,H1,I1,r,q⟩=>⟨I1.kIn,?_⟩) he hpl;exact A8 M F hr hb hd hx I1 r q
end
section
variable {ks:List Str} {E:XK} {apos kpos:Pos} {o:Expr} {kws:List Keyword} {tk:TA} {nm:Option Str}
structure G7(K:Frag)(fd:FuncData)(ps ks:List Str)(g:List Value->List Value->List Value)(gV:List V->List V->List V):Prop where
 to:∀(s:Shared) (us ws:List Value),K.In s.heap->(g us ws).length=ps.length->BindsTo s fd ⟨us,ks.zip ws⟩ (ps.zip (g us ws))
 rel:∀{vs:List V} {us:List Value} {zs:List V} {ws:List Value},aX vs us->aX zs ws->aX (gV vs zs) (g us ws)
variable {g:List Value->List Value->List Value} {gV:List V->List V->List V}
end
structure ax(N P:List Str)(sc:Scope):Prop where
 kind:sc.kind=.function
 co:sc.isCoroutine=false
 gen:sc.isGenerator=false
 nd:N.Nodup
 pre:N.take P.length=P
 par:∀x∈P,sc.names.lookup x=some .local\/sc.names.lookup x=some .cell
 nofree:∀y∈sc.names,y.2≠.free
theorem qX:∀{binds:List (Str×Value)} {m:Str->Option Value},(∀v,(x,v)∉binds)->bindL kindOf binds m x=m x
 | [],_,_=>rfl
 | (n,v)::r,m,h=>by
  unfold bindL;rw [qX λw hw=>h w (ad9 _ hw)]
  split
  ·have:x≠n:=by rintro rfl;exact h v ad8
   simp [this]
  ·rfl
theorem qV:∀{binds:List (Str×Value)} {m:Str->Option Value},(∀v,(x,v)∉binds)->bindC kindOf binds m x=m x
 | [],_,_=>rfl
 | (n,v)::r,m,h=>by
  unfold bindC;rw [qV λw hw=>h w (ad9 _ hw)]
  split
  ·rfl
  ·have:x≠n:=by rintro rfl;exact h v ad8
   simp [this]
theorem qW{kindOf:Str->Option NameKind}{x:Str}{v:Value}:∀{P:List Str} {vs:List Value} {i:Nat} {m:Str->Option Value},P.Nodup->P[i]?=some x->vs[i]?=some v->kindOf x=some .local->
  bindL kindOf (P.zip vs) m x=some v
 | [],_,_,_,_,h,_,_=>by simp at h
 | _::_,[],_,_,_,_,h,_=>by simp at h
 | p::P,w::vs,0,m,nd,h1,h2,hk=>by
  simp at h1 h2;subst h1;subst h2;show bindL kindOf ((p,w)::P.zip vs) m p=_;unfold bindL;rw [qX λv hv=>(ai8.mp nd).1 (ao8 hv).1,if_pos hk];simp
 | p::P,w::vs,i+1,m,nd,h1,h2,hk=>by
  show bindL kindOf ((p,w)::P.zip vs) m x=_;unfold bindL;exact qW (i:=i) (ai8.mp nd).2 (by simpa using h1) (by simpa using h2) hk
theorem qU{kindOf:Str->Option NameKind}{x:Str}{v:Value}:∀{P:List Str} {vs:List Value} {i:Nat} {m:Str->Option Value},P.Nodup->P[i]?=some x->vs[i]?=some v->kindOf x≠some .local->
  bindC kindOf (P.zip vs) m x=some v
 | [],_,_,_,_,h,_,_=>by simp at h
 | _::_,[],_,_,_,_,h,_=>by simp at h
 | p::P,w::vs,0,m,nd,h1,h2,hk=>by
  simp at h1 h2;subst h1;subst h2;show bindC kindOf ((p,w)::P.zip vs) m p=_;unfold bindC;rw [qV λv hv=>(ai8.mp nd).1 (ao8 hv).1,if_neg hk];simp
 | p::P,w::vs,i+1,m,nd,h1,h2,hk=>by
  show bindC kindOf ((p,w)::P.zip vs) m x=_;unfold bindC;exact qU (i:=i) (ai8.mp nd).2 (by simpa using h1) (by simpa using h2) hk
def start(N:List Str)(vs:List V):St:=vs.map some++List.replicate (N.length - vs.length) none
def tP(CX:BH)(P:Program)(w:World)(K:Frag)(mg:Str->Option Value)(base:Heap)(N:List Str)(qual:Str)(scope:Scope)(f:Addr)(cd:Value)(A:Around)(outer:List Env)(s:Shared)(H:Hp)(E:XK):Cx where
 prog:=P
 w:=w
 K:=K
 mg:=mg
 base:=base
 A:=A.deeper (envOfC qual scope s.heap.objs.size f cd)
 N:=N
 Zh:=s
 Z2:=H
 env:=envOfC qual scope s.heap.objs.size f cd
 outer:=outer
 stack:=envOfC qual scope s.heap.objs.size f cd::outer
 ex:=[]
 calm:=true
 fn:=λ_=>true
 pn:=[]
 xe:=λe s'=>wpAny (model P w) (A.deeper (envOfC qual scope s.heap.objs.size f cd)) (leaving (envOfC qual scope s.heap.objs.size f cd) e) (λ_ s''=>CX outer H s E e s'') (λe' s''=>CX outer H s E e' s'') s'
theorem tL{sc:Scope}(h:sc.names.lookup x=some .cell):∃c,(cellsFrom n sc.names []).lookup x=some c:=by
 have q:=PySem.W.cellsFrom_some sc.names n [] (.inl h);exact Option.isSome_iff_exists.mp q
theorem yp{N:List Str}{qual:Str}{scope:Scope}{cd:Value}{outer:List Env}{s1:Shared}{E:XK}
  (S:ax N ps scope) (hd:A.handled=none) (e0:ve P w K mg base A outer s H) (hl:vs.length=ps.length) (r:aX vs us)
  (x:InCallC s s.heap.objs.size (bindL (envOfC qual scope s.heap.objs.size f cd).kindOf (ps.zip us) λ_=>none) (cellsFrom (s.heap.objs.size+1) scope.names []) (bindC (envOfC qual scope s.heap.objs.size f cd).kindOf (ps.zip us) λ_=>none) s1) :
  aO (tP CX P w K mg base N qual scope f cd A outer s H E) [] (start N vs) H s1:=by
 have hpl:ps.length<=N.length:=by have:=congrArg List.length S.pre;rw [ac9]at this;omega
 obtain⟨h1,tk,rfl,hk⟩:=x.done;have noA:∀b:Addr,b∉(tP CX P w K mg base N qual scope f cd A outer s H E).ex:=λb z=>absurd (show b∈([]:List Addr)from z) (by simp)
 refine⟨⟨e0.mod,S.kind,rfl,rfl,aa9 _,λy z c h1 h2=>?_,λy hy=>?_,λy c _ h=>?_,λ_=>hd,Around.frames_deeper e0.frames,.inr ⟨rfl,rfl⟩,λb z=>absurd z (noA b),e0.bs,e0.bsz,λb _ _=>noA b,λb z=>absurd z (noA b),e0.funs,e0.frf⟩,
  rfl,e0.bare,Un.kept hk,⟨_,x.toInCall.ns,λi y v h1 h2 h3=>?_⟩,λy c h=>⟨_,x.cell y c h⟩,e0.hok.fresh (aa9 _),λy c h=>?_,λp hp=>absurd (show p∈([]:List (Addr×Obj))from hp) (by simp),e0.hok.kept hk,?_⟩
 ·exact name_of_addr x.apart (PySem.mem_of_lookup h1) (PySem.mem_of_lookup h2)
 ·have hy:scope.names.lookup y=some .cell\/scope.names.lookup y=some .free:=hy
  rcases hy with hy | hy
  ·exact tL hy
  ·exact absurd rfl (S.nofree _ (PySem.mem_of_lookup hy))
 ·exact ah6 (x.above y c (PySem.mem_of_lookup h))
 ·have hi:i < vs.length:=by
   unfold start at h2
   by_cases hi:i < vs.length
   ·exact hi
   ·rw [ac5 (by simpa using hi)]at h2
    rw [List.getElem?_replicate]at h2
    split at h2<;>cases h2
  have ha:vs[i]?=some v:=by
   unfold start at h2;rw [ab7 (by simpa using hi),aa4]at h2
   cases e:vs[i]? with
   | none=>rw [e]at h2;cases h2
   | some a=>rw [e]at h2;cases h2;rfl
  obtain⟨u,hu,rv⟩:=r.get ha
  have hp:ps[i]?=some y:=by
   rw [<-S.pre,List.getElem?_take_of_lt ()];exact h1
  have ndP:ps.Nodup:=by rw [<-S.pre];exact S.nd.sublist (List.take_sublist _ _)
  refine⟨u,rv,?_⟩;rcases S.par y (ac0 hp)with k | k
  ·exact .inl ⟨k,qW ndP hp hu k⟩
  ·obtain⟨c,e⟩:=tL (n:=s.heap.objs.size+1) k
   refine .inr ⟨.inl k,c,e,?_⟩;have q:=x.cell y c e;rw [qU ndP hp hu (by show scope.names.lookup y≠_;rw [k];decide)]at q;exact q
 ·exact e0.hok.fresh (ah6 (x.above y c (PySem.mem_of_lookup h)))
 ·unfold start
  show _=N.length;rw [aa8,aa0,List.length_replicate];omega
theorem DL{name qual:Str}{params:Arguments}{scope:Scope}{dV kV doc pm cdv ct oc:Value}{an od:Option Addr}
  {osl:Array (Option Value)} {N ps:List Str} {sp:Sp} (lk:K.lookup f=some ⟨oc,od,.func (fnOf name qual params body scope dV kV doc pm an cdv ct),osl⟩) (hcd:codeIn K cdv qual=true) (S:ax N ps scope)
  (len:∀(A:Around) (_:List Env) (_:Shared) vs H Q E,dX (k+1) A->sp vs H Q E->vs.length=ps.length)
  (hbody:∀(A:Around) (outer:List Env) (s:Shared) (H:Hp) (vs:List V) (Q:VK) (E:XK),dX k (A.deeper (envOfC qual scope s.heap.objs.size f cdv))->sp vs H Q E->
   ∃t,wQ (tP CX P w K mg base N qual scope f cdv A outer s H E) body t/\t { nx:=λ_ H'=>Q .non H',rt:=Q } (start N vs) H) :
  aL P w K mg base CX (k+1) f (fnOf name qual params body scope dV kV doc pm an cdv ct) ps sp:=by
 refine⟨len,λA outer s H args us vs Q E hr e0 hb r hsp=>?_⟩;have hl:=len A outer s _ _ _ _ hr hsp;have KX:K.In s.heap:=e0.mod.kin.keeps λb o e=>(e0.bs b o e).1;have lim:s.heap.NoLimit:=e0.mod.nolimit.keeps λb o e=>(e0.bs b o e).1
 have hkind:∀y∈ps.zip us,scope.names.lookup y.1=some .local\/(scope.names.lookup y.1=some .cell/\((cellsFrom (s.heap.objs.size+1) scope.names []).lookup y.1).isSome=true):=λ⟨n,v⟩ hy=>by
  rcases S.par n (ao8 hy).1 with q | q
  ·exact .inl q
  ·exact .inr ⟨q,PySem.W.cellsFrom_some _ _ _ (.inl q)⟩
 refine codeAny_call_function hr.depth (KX _ _ lk) rfl S.co S.gen rfl (PySem.W.codeRec_of KX hcd) (hb _ _ _ _ ?_);refine wpAny_newFunctionEnv_cells S.kind hkind λenv he s1 x=>?_;subst he;refine⟨lim.keeps x.toInCall.keep,codeAny_func ?_⟩;obtain⟨t,ht,hq⟩:=hbody A outer s H vs Q E (hr.deeper _) hsp;have I:aO (tP CX P w K mg base N qual scope f cdv A outer s H E) [] (start N vs) H s1:=yp S hr.hd e0 hl r x;refine af3 (ht [] s1 (start N vs) H _ I hq) (λfl s' hs=>?_) λe s' hs=>hs
 have fin:∀{Zc:St} {H':Hp} {v:V} {u:Value},aO (tP CX P w K mg base N qual scope f cdv A outer s H E) [] Zc H' s'->aS v u->Q v H'->CE outer P w H s Q u s':=
  λ{Zc H' v u} J rv q=>⟨v,H',J.os,J.bare,J.base,J.hok,rv,q⟩
 cases fl with
 | ret u=>
  obtain⟨v,Zc,H',J,rv,q⟩:=hs;exact fin J rv q
 | next=>
  obtain⟨Zc,H',J,q⟩:=hs;exact fin (v:=V.non) (u:=Value.none) J rfl q
 | brk=>
  obtain⟨_,_,_,q⟩:=hs;exact False.elim q
 | cont=>
  obtain⟨_,_,_,q⟩:=hs;exact False.elim q
section
variable {id T:String} {r:List V->Hp->VK->Prop}
def E4(r:List V->Hp->VK->Prop)(t:TA):TE:=λZ H Q=>t Z H λvs H1=>r vs H1 Q
theorem aD(hc:cS X (.builtin id) r)(hg:Gl X x)(hm:X.mg x=none)(hv:bootBuiltins x=some (.builtin id))(ha:PA X (e::es) t)(hn:x≠"__name__":=by decide)(hdb:(x == ("__debug__":Str))=false:=by decide)
  (he:starEach (e::es) X.env=(false,eval e X.env)::starEach es X.env:=by rfl) (hpl:(backTo pos (starEach es X.env)).any (·.1)=false:=by rfl):PE X (.Call (.Name x p) (e::es) [] pos) (E4 r t):=by
 intro pins s Z H Q I h;refine ah4 (gH I hg hm hv ?_ hn hdb);exact PyProof.Rows.callWith_builtin1 (cW (ha pos pins s Z H _ I h) λus s1 ⟨vs,H1,I1,r1,q1⟩=>hc pins s1 Z H1 vs us Q I1 r1 q1) he hpl
theorem bf(hc:cS X (.type T) r)(hg:Gl X x)(hm:X.mg x=none)(hv:bootBuiltins x=some (.type T))(ha:PA X (e::es) t)(hn:x≠"__name__":=by decide)(hdb:(x == ("__debug__":Str))=false:=by decide)
  (he:starEach (e::es) X.env=(false,eval e X.env)::starEach es X.env:=by rfl) (hpl:(backTo pos (starEach es X.env)).any (·.1)=false:=by rfl):PE X (.Call (.Name x p) (e::es) [] pos) (E4 r t):=by
 intro pins s Z H Q I h;refine ah4 (gH I hg hm hv ?_ hn hdb);exact PyProof.Rows.callWith_type1 (cW (ha pos pins s Z H _ I h) λus s1 ⟨vs,H1,I1,r1,q1⟩=>hc pins s1 Z H1 vs us Q I1 r1 q1) he hpl
end
end L2
namespace HT
open PySem PyProof.Rows
section
open PySem.SeqAt
open PySem.AutoSeq1 (wpAny_loadPart')
open PySem.MeetsSeq PySem.MeetsSeq2 PySem.MeetsSeq3
end
section
variable {prog:Program} {w:World} {A:Around} {E:Value->Shared->Prop} {s:Shared}
theorem cat_tup{t b:Addr}{vs ws:List Value}{Q:Value->Shared->Prop}(ht:IsTup s.heap t vs.toArray)(hb:IsTup s.heap b ws.toArray)(hv:vs≠[])
  (h1:ws=[]->Q (.ref t) s) (h2:ws≠[]->Q (.ref s.heap.objs.size) { s with heap:=s.heap.push { cls:=.type "tuple",data:=.seq (vs++ws).toArray } })
  (hsz:vs.length+ws.length<=sizeLine):wpAny (model prog w) A (binaryOp .Add (.ref t) (.ref b)) Q E s:=by
 obtain⟨⟨cls,dd,data,sl⟩,ho,hc,n,hd⟩:=id ht;obtain⟨⟨cls2,dd2,data2,sl2⟩,ho2,hc2,n2,hd2⟩:=id hb;simp only at hc hd hc2 hd2;subst hc hd hc2 hd2
 have e:vs.toArray++ws.toArray=(vs++ws).toArray:=by simp
 by_cases hw:ws=[]
 ·exact concat_meets ⟨_,ho,rfl⟩ ⟨_,ho2,rfl⟩ noFill_tuple_add seq_tuple_add PySem.F.slot_tuple_add PySem.F.entry_tuple_add (PySem.F.args_tuple_add_2 _ _)
   (tuple_addW1 t b vs.toArray ws.toArray n n2 dd dd2 sl sl2 (by simpa using hv) (by simp [hw])) ⟨ho,ho2,h1 hw⟩
 ·refine concat_meets ⟨_,ho,rfl⟩ ⟨_,ho2,rfl⟩ noFill_tuple_add seq_tuple_add PySem.F.slot_tuple_add PySem.F.entry_tuple_add (PySem.F.args_tuple_add_2 _ _)
   (tuple_addW2 t b vs.toArray ws.toArray n n2 dd dd2 sl sl2 (by simpa using hv) (by simpa using hw) (by rw [ab1,ab1];exact hsz)) ⟨ho,ho2,?_⟩
  rw [e];exact h2 hw
def sIx(n d:Nat):Option Int->Nat
 | none=>d
 | some v=>if v < 0 then(v+(n:Int)).toNat else min v.toNat n
theorem sIx_none(n d:Nat):sIx n d none=d:=rfl
theorem sIx_nat(n d k:Nat):sIx n d (some (k:Int))=min k n:=by
 show(if (k:Int) < 0 then((k:Int)+(n:Int)).toNat else min (k:Int).toNat n)=min k n;rw [if_neg (),ag7]
theorem E1(n d:Nat)(hd:d<=n)(o:Option Int):sIx n d o<=n:=by
 cases o with
 | none=>exact hd
 | some v=>
  show(if v < 0 then(v+(n:Int)).toNat else min v.toNat n)<=n
  by_cases hv:v < 0
  ·rw [if_pos hv];omega
  ·rw [if_neg hv];exact aj6 _ _
theorem wU(v:Int)(n d:Nat):(if v < 0 then max (v+(n:Int)) 0 else min v (n:Int))=((sIx n d (some v):Nat):Int):=by
 show(if v < 0 then max (v+(n:Int)) 0 else min v (n:Int))=(((if v < 0 then(v+(n:Int)).toNat else min v.toNat n):Nat):Int)
 by_cases hv:v < 0
 ·simp only [if_pos hv];omega
 ·simp only [if_neg hv];omega
theorem vg(lo hi:Option Int)(n:Nat):Builtin.Slice.sliceAdjust lo hi 1 (n:Int)=(((sIx n 0 lo:Nat):Int),((sIx n n hi:Nat):Int)):=by
 have h1:¬((1:Int) < 0):=by omega
 unfold Builtin.Slice.sliceAdjust;simp only [h1,if_false];refine Prod.ext ?_ ?_
 ·cases lo with
  | none=>rfl
  | some v=>exact wU v n 0
 ·cases hi with
  | none=>rfl
  | some v=>exact wU v n n
theorem vK(i j:Nat):Builtin.Slice.slicePlaces (i:Int) (j:Int) 1=j - i:=by
 unfold Builtin.Slice.slicePlaces
 have h1:(1:Int) > 0:=by omega
 simp only [h1,if_true,Int.ediv_one]
 split<;>omega
theorem pk{v:Value}{o:Option Int}{Q:Option Int->Shared->Prop}(p:IsPart v o)(h:Q o s):wpAny (model prog w) A (Builtin.Slice.slicePartIndex v) Q E s:=by
 cases p with
 | none=>exact slicePart_none h
 | int i t=>exact slicePart_int h
theorem mF{sl:Addr}{vl vu:Value}{lo hi:Option Int}{n:Nat}{Q:Int×Int×Nat->Shared->Prop}(hs:s.heap.IsSliceOf sl vl vu .none)(pl:IsPart vl lo)(pu:IsPart vu hi)
  (h:Q (((sIx n 0 lo:Nat):Int),1,sIx n n hi - sIx n 0 lo) s):wpAny (model prog w) A (Builtin.Slice.sliceApplied (.ref sl) (pure (n:Int))) Q E s:=by
 obtain⟨os,hos,hcs,hds⟩:=id hs;unfold Builtin.Slice.sliceApplied Builtin.Slice.sliceFields;refine aa3 (aa3 (af0 hos hds (x:=vl) rfl (aa3 (af0 hos hds (x:=vu) rfl (aa3 (af0 hos hds (x:=.none) rfl (ab0 ?_)))))));refine aa3 (slicePart_none ?_);show wpAny _ _ (if ((1:Int) == 0)=true then _ else _) _ _ s;rw [if_neg ∅];refine aa3 (pk pl (aa3 (pk pu (aa3 (ab0 ?_)))))
 show wpAny _ _ (match Builtin.Slice.sliceAdjust lo hi 1 (n:Int)with | (lo,hi)=>pure (lo,(1:Int),Builtin.Slice.slicePlaces lo hi 1)) _ _ s
 rw [vg lo hi n];show wpAny _ _ (pure (((sIx n 0 lo:Nat):Int),(1:Int),Builtin.Slice.slicePlaces ((sIx n 0 lo:Nat):Int) ((sIx n n hi:Nat):Int) 1)) _ _ s;rw [vK];exact ab0 h
theorem AO(xs:Array Value)(i k:Nat):((List.range k).filterMap λ(m:Nat)=>xs[((i:Int)+(m:Int) * 1).toNat]?).toArray=((xs.toList.drop i).take k).toArray:=by
 have e:(λ(m:Nat)=>xs[((i:Int)+(m:Int) * 1).toNat]?)=λm=>xs[i+m]?:=by
  funext m
  have:((i:Int)+(m:Int) * 1).toNat=i+m:=by omega
  rw [this]
 rw [e]
 have:=pick_run xs i k
 rw [List.filterMap_map]at this;have e2:((λx=>xs[x]?)∘λx=>i+x)=λm=>xs[i+m]?:=rfl;rw [e2]at this;rw [this]
theorem getItem_tuple_cut{t sl:Addr}{items:Array Value}{vl vu:Value}{lo hi:Option Int}{Q:Value->Shared->Prop}(ht:IsTup s.heap t items)(hs:s.heap.IsSliceOf sl vl vu .none)(pl:IsPart vl lo)(pu:IsPart vu hi)
  (hw:¬(sIx items.size 0 lo=0/\sIx items.size items.size hi=items.size))
  (h:Q (.ref s.heap.objs.size) { s with heap:=s.heap.push { cls:=.type "tuple",data:=.seq ((items.toList.drop (sIx items.size 0 lo)).take (sIx items.size items.size hi - sIx items.size 0 lo)).toArray } })
  (hsz:items.size<=sizeLine):wpAny (model prog w) A (getItem (.ref t) (.ref sl)) Q E s:=by
 have htake:sizeOk (.seq ((items.toList.drop (sIx items.size 0 lo)).take (sIx items.size items.size hi - sIx items.size 0 lo)).toArray):=by
  show((items.toList.drop (sIx items.size 0 lo)).take (sIx items.size items.size hi - sIx items.size 0 lo)).toArray.size<=sizeLine;rw [ab1,ac9,ah2,am3];omega
 have hj:sIx items.size items.size hi<=items.size:=E1 _ _ (aa9 _) hi;obtain⟨os,hos,hcs,hds⟩:=id hs;have hTs:s.TypeIs (.ref sl) "slice":=⟨os,hos,hcs⟩;unfold getItem
 try with_reducible refine ae7 ?_
 first | refine aa3 (ab0 ?_) | skip
 refine aa3 (wpAny_sequenceKey ht.typeIs ∅ ?_)
 refine aa3 (wpAny_callSpecial?_slot (name:=Str.ofString "__getitem__") ht.typeIs PyProof.Rows.slot_tuple_getitem
  (ag2 PyProof.Rows.slot_tuple_getitem ht.typeIs entry_tuple_getitem ?_ (args_tuple_getitem _ _)))
 show wpAny _ _ (Builtin.Tuple.tupleItemsOf (.ref t) >>= _) _ _ s;refine aa3 (tupleItemsOf_ ht ?_);refine aa3 (am6 hTs ?_);rw [if_pos ∅];refine aa3 (mF hs pl pu ?_)
 have hno:¬((((sIx items.size 0 lo:Nat):Int) == 0 && (1:Int) == 1 && (sIx items.size items.size hi - sIx items.size 0 lo) == items.size)=true):=by
  intro q;rw [ai3,ai3]at q;have q1:((sIx items.size 0 lo:Nat):Int)=0:=eq_of_beq q.1.1;have q2:sIx items.size items.size hi - sIx items.size 0 lo=items.size:=eq_of_beq q.2;exact hw ⟨(),()⟩
 show wpAny _ _ (if (((sIx items.size 0 lo:Nat):Int) == 0 && (1:Int) == 1 && (sIx items.size items.size hi - sIx items.size 0 lo) == items.size)=true then _ else _) _ _ s;rw [if_neg hno,AO]
 first
  | exact aa3 (m:=Builtin.Tuple.tupleExact _) (ag8 (ab0 ⟨_,rfl,ab0 h⟩) htake)
  | exact aa3 (m:=Builtin.Tuple.tupleExact _) (ag8 (aa3 (ab0 (ab0 ⟨_,rfl,ab0 h⟩))) htake)
  | exact aa3 (aa3 (m:=Builtin.Tuple.tupleExact _) (ag8 (ab0 (ab0 ⟨_,rfl,ab0 h⟩)) htake))
  | exact aa3 (aa3 (m:=Builtin.Tuple.tupleExact _) (ag8 (ab0 ⟨_,rfl,ab0 h⟩) htake))
end
end HT
namespace L2
open PySem PySem.Spec PyProof.Rows
variable {A:Around} {H:Hp} {X:Cx} {its:List Value} {n:Nat} {pins:List (Addr×Obj)} {r:V->Option Int->Option Int->Hp->VK->Prop} {s:Shared} {v:Value} {x:V} {xs:List V} {α:Type} {Z:St}
abbrev TO:=St->Hp->(Option Int->Hp->Prop)->Prop
def PO(X:Cx)(e:Option Expr)(t:TO):Prop:=
 ∀(pins:List (Addr×Obj)) (s:Shared) (Z:St) (H:Hp) (Q:Option Int->Hp->Prop),aO X pins Z H s->t Z H Q->
  wpAny (model X.prog X.w) X.A (evalPart e X.env) (λu s'=>∃o H',aO X pins Z H' s'/\IsPart u o/\Q o H') X.xe s
def tI:TO:=λ_ H Q=>Q none H
def xE(t:TE):TO:=λZ H Q=>t Z H λx H1=>∃i,x=.int i/\Q (some i) H1
theorem vt{ns:List Int}:∀{us:List Value},aX (ns.map V.int) us->IntsAre us ns:=by
 induction ns with
 | nil=>intro us r;rw [ah1]at r;cases r;exact .nil
 | cons n ns ih=>
  intro us r;rw [ac7]at r
  cases r with
  | cons r1 r2=>
   obtain⟨t,e⟩:=r1;subst e;exact .cons n t (ih r2)
section
variable {e:Expr} {te:TE} {lo hi:Option Expr} {tl th:TO} {pos p2:Pos}
theorem bJ:PO X none tI:=by
 intro pins s Z H Q I h;rw [evalPart_none];exact ab0 ⟨none,H,I,.none,h⟩
theorem Dc(h:PE X e te):PO X (some e) (xE te):=by
 intro pins s Z H Q I hw;rw [evalPart_some];refine cW (h pins s Z H _ I hw) λu s1 zq0=>?_;obtain⟨x,H1,I1,r1,i,rfl,q⟩:=zq0;obtain⟨t,rfl⟩:=r1;exact⟨some i,H1,I1,.int i t,q⟩
def BK(X:Cx)(r:V->Option Int->Option Int->Hp->VK->Prop):Prop:=
 ∀(pins:List (Addr×Obj)) (s:Shared) (Z:St) (H:Hp) (x:V) (v vl vu:Value) (lo hi:Option Int) (sl:Addr) (Q:VK),aO X pins Z H s->aS x v->s.heap.IsSliceOf sl vl vu .none->IsPart vl lo->IsPart vu hi->r x lo hi H Q->
  ∃T id,typeLookup (.type T) "__getitem__"=pure (some (.builtin id))/\s.TypeIs v T/\wpAny (model X.prog X.w) X.A (getItem v (.ref sl)) (EP X pins Z Q) X.xe s
theorem BK.or{r':V->Option Int->Option Int->Hp->VK->Prop}(h:BK X r)(h':BK X r'):BK X (λx lo hi H Q=>r x lo hi H Q\/r' x lo hi H Q):=by
 intro pins s Z H x v vl vu lo hi sl Q I rx hs pl pu q;rcases q with q | q
 ·exact h pins s Z H x v vl vu lo hi sl Q I rx hs pl pu q
 ·exact h' pins s Z H x v vl vu lo hi sl Q I rx hs pl pu q
def HD(r:V->Option Int->Option Int->Hp->VK->Prop)(te:TE)(tl th:TO):TE:=λZ H Q=>te Z H λx H1=>tl Z H1 λl H2=>th Z H2 λu H3=>r x l u H3 Q
theorem bt(hr:BK X r)(he:PE X e te)(hl:PO X lo tl)(hu:PO X hi th):PE X (.Subscript e (.Slice lo hi none p2) pos) (HD r te tl th):=by
 intro pins s Z H Q I h;refine Subscript_ (cW (he pins s Z H _ I h) λv s1 zq0=>?_);obtain⟨x,H1,I1,r1,q1⟩:=zq0;refine wpAny_Slice (cW (hl pins s1 Z H1 _ I1 q1) λvl s2 ⟨l,H2,I2,pl,q2⟩=>cW (hu pins s2 Z H2 _ I2 q2) λvu s3 zq0=>?_);obtain⟨u,H3,I3,pu,q3⟩:=zq0;rw [evalPart_none];refine ab0 ?_;have I4:aO X pins Z H3 { s3 with heap:=s3.heap.push { cls:=.type "slice",data:=.fields #[vl,vu,.none] } }:=I3.kept (t':=s3.toks) λb ob q=>aa5 _ q;obtain⟨T,id,hT,ht,hg⟩:=hr pins { s3 with heap:=s3.heap.push { cls:=.type "slice",data:=.fields #[vl,vu,.none] } } Z H3 x v vl vu l u s3.heap.objs.size Q I4 r1 (Heap.IsSliceOf.new ..) pl pu q3;show wpAny (model X.prog X.w) X.A (subscriptTail e (.Slice lo hi none p2) v (.ref s3.heap.objs.size)) (EP X pins Z Q) X.xe { s3 with heap:=s3.heap.push { cls:=.type "slice",data:=.fields #[vl,vu,.none] } };exact tail_any (ops:=[.ref s3.heap.objs.size,v]) ht hT hg (by with_unfolding_all rfl)
def nZ(xs:List V)(lo hi:Option Int):List V:=(xs.drop (HT.sIx xs.length 0 lo)).take (HT.sIx xs.length xs.length hi - HT.sIx xs.length 0 lo)
theorem mR(xs:List V)(lo hi:Option Int):(nZ xs lo hi).length<=xs.length:=by
 unfold nZ;rw [ac9,ah2];omega
def EY(K:Frag):V->Option Int->Option Int->Hp->VK->Prop:=λx lo hi H Q=>∃a xs,x=.ref a/\cI K H a xs/\
 ¬(HT.sIx xs.length 0 lo=0/\HT.sIx xs.length xs.length hi=xs.length)/\∀p,H p=none->Q (.ref p) (upd H p (.tup (nZ xs lo hi)))
theorem sl_tup:BK X (EY X.K):=by
 rintro pins s Z H x v vl vu lo hi sl Q I rx hs pl pu ⟨a,xs,rfl,hx,hw,q⟩;cases rx;obtain⟨its,r,ht,hz⟩:=I.tuple hx
 have hlen:its.toArray.size=xs.length:=by rw [ab1];exact r.length.symm
 refine⟨"tuple",_,PyProof.Rows.slot_tuple_getitem.lookup,ht.typeIs,?_⟩;refine HT.getItem_tuple_cut ht hs pl pu (by rw [hlen];exact hw) ?_ (by rw [hlen];exact hz);rw [hlen];refine⟨.ref s.heap.objs.size,_,I.laid (t':=s.toks) (o:=.tup (nZ xs lo hi)) (λb ob q=>aa5 _ q) (aa9 _) ?_,rfl,q _ (I.hok.fresh (aa9 _))⟩;exact⟨ab6 (mR xs lo hi) hz,_,(r.drop (HT.sIx xs.length 0 lo)).take (HT.sIx xs.length xs.length hi - HT.sIx xs.length 0 lo),IsTup.new _ _⟩
def xi(K:Frag):R2:=λx y H Q=>∃a b xs ys,x=.ref a/\y=.ref b/\cI K H a xs/\cI K H b ys/\xs≠[]/\xs.length+ys.length<=sizeLine/\
 (ys=[]->Q (.ref a) H)/\(ys≠[]->∀p,H p=none->Q (.ref p) (upd H p (.tup (xs++ys))))
theorem aX.nil_iff{us:List Value}(r:aX xs us):us=[]↔xs=[]:=by
 cases r with
 | nil=>simp
 | cons _ _=>simp
theorem C0:dH X (binaryOp .Add) (xi X.K):=by
 rintro pins s Z H x y v u Q I rx ry ⟨a,b,xs,ys,rfl,rfl,ha,hb,hx,hz,q1,q2⟩;cases rx;cases ry;obtain⟨its,r1,p1,_⟩:=I.tuple ha;obtain⟨its2,r2,p2,_⟩:=I.tuple hb;refine HT.cat_tup p1 p2 (λz=>hx (r1.nil_iff.mp z)) (λz=>⟨.ref a,H,I,rfl,q1 (r2.nil_iff.mp z)⟩) (λz=>?_) (by rw [<-r1.length,<-r2.length];exact hz);refine⟨.ref s.heap.objs.size,_,I.laid (t':=s.toks) (o:=.tup (xs++ys)) (λb ob q=>aa5 _ q) (aa9 _) ?_,rfl,q2 (λw=>z (r2.nil_iff.mpr w)) _ (I.hok.fresh (aa9 _))⟩;exact⟨by rw [aa8];exact hz,_,r1.append r2,IsTup.new _ _⟩
end
def BN(n:Nat)(i:Int):Option Nat:=if 0<=i then(if i < n then some i.toNat else none)else if -(n:Int)<=i then some (i+n).toNat else none
def fR(xs:List α)(i:Int):Option α:=(BN xs.length i).bind λj=>xs[j]?
theorem w5{i:Int}{j:Nat}(h:BN n i=some j):seqIndex? i n=some j/\j < n/\-(n:Int)<=i/\i < n:=by
 unfold BN at h
 by_cases h0:0<=i
 ·rw [if_pos h0]at h
  by_cases h1:i < n
  ·rw [if_pos h1]at h
   have e:i.toNat=j:=Option.some.inj h;exact⟨by rw [seqIndex_of h0 h1,e],(),(),h1⟩
  ·rw [if_neg h1]at h;cases h
 ·rw [if_neg h0]at h
  by_cases h1:-(n:Int)<=i
  ·rw [if_pos h1]at h
   have e:(i+n).toNat=j:=Option.some.inj h;exact⟨by rw [seqIndex_neg () h1,e],(),h1,()⟩
  ·rw [if_neg h1]at h;cases h
theorem rZ{xs:List α}{i:Int}{v:α}(h:fR xs i=some v):∃j,seqIndex? i xs.length=some j/\xs[j]?=some v/\j < xs.length/\-(xs.length:Int)<=i/\i < xs.length:=by
 unfold fR at h
 cases e:BN xs.length i with
 | none=>rw [e]at h;cases h
 | some j=>
  rw [e]at h;obtain⟨h1,h2,h3,h4⟩:=w5 e;exact⟨j,h1,h,h2,h3,h4⟩
theorem aK{xs:List α}{j:Nat}{v:α}(h:xs[j]?=some v):fR xs (j:Int)=some v:=by
 have hj:j < xs.length:=(aa1.mp h).1
 have e:BN xs.length (j:Int)=some j:=by
  unfold BN;rw [if_pos (),if_pos ()];simp
 unfold fR;rw [e];exact h
def wR(b:Expr):Prop:=∀o i,subscripted b false o i=operate [o,i] (getItem o i)
def xO(X:Cx)(r:R2):Prop:=
 ∀(value slice:Expr) (pins:List (Addr×Obj)) (s:Shared) (Z:St) (H:Hp) (x y:V) (v u:Value) (Q:VK),aO X pins Z H s->aS x v->aS y u->r x y H Q->
  subscripted slice false v u=operate [v,u] (getItem v u)->wpAny (model X.prog X.w) X.A (subscriptTail value slice v u) (EP X pins Z Q) X.xe s
def BR(X:Cx)(id:String)(r:V->List V->Hp->VK->Prop):Prop:=
 ∀(pins:List (Addr×Obj)) (s:Shared) (Z:St) (H:Hp) (x:V) (xs:List V) (v:Value) (us:List Value) (Q:VK),aO X pins Z H s->aS x v->aX xs us->r x xs H Q->
  wpAny (model X.prog X.w) X.A (call (.builtin id) (v::us)) (EP X pins Z Q) X.xe s
section
variable {a b:Expr} {ta tb:TE} {pos:Pos}
theorem xO.or{r r':R2}(h:xO X r)(h':xO X r'):xO X (λx y H Q=>r x y H Q\/r' x y H Q):=by
 intro value slice pins s Z H x y v u Q I rx ry q hs;rcases q with q | q
 ·exact h value slice pins s Z H x y v u Q I rx ry q hs
 ·exact h' value slice pins s Z H x y v u Q I rx ry q hs
theorem aw{r:R2}(hr:xO X r)(ha:PE X a ta)(hb:PE X b tb)(hs:wR b):PE X (.Subscript a b pos) (E9 r ta tb):=by
 intro pins s Z H Q I h;exact Subscript_ (BZ ha hb I h λv u s2 x y H2 I2 rx ry q=>hr a b pins s2 Z H2 x y v u Q I2 rx ry q (hs _ _))
def ER(K:Frag):R2:=λx y H Q=>∃p xs i v,x=.ref p/\y=.int i/\aJ K H p xs/\fR xs i=some v/\Q v H
def ET(K:Frag):R2:=λx y H Q=>∃p xs i v,x=.ref p/\y=.int i/\cI K H p xs/\fR xs i=some v/\Q v H
def ES:R2:=λx y H Q=>∃z i c,x=.str z/\y=.int i/\z.length<=sizeLine/\fR z.cps.toList i=some c/\Q (.str ⟨#[c]⟩) H
theorem ix_list:xO X (ER X.K):=by
 intro value slice pins s Z H x y v u Q I rx ry h hs;obtain⟨p,xs,i,z,rfl,rfl,hq,he,q⟩:=h;cases rx;obtain⟨t,rfl⟩:=ry;obtain⟨its,r,pl,hz⟩:=I.list hq;obtain⟨j,h1,h2,h3,h4,h5⟩:=rZ he;obtain⟨w,ew,rw'⟩:=r.get h2;have hl:=r.length;have hn:=j5;have fin:EP X pins Z Q w s:=⟨z,H,I,rw',q⟩
 by_cases h0:0<=i
 ·have hj:i.toNat=j:=by
   rw [seqIndex_of h0 h5]at h1;exact Option.some.inj h1
  exact item_listR pl.isList h0 () (by rw [hj];simpa using ew) fin hs
 ·have hj:(i+(its.toArray.size:Int)).toNat=j:=by
   rw [seqIndex_neg () h4]at h1;rw [ab1,<-hl];exact Option.some.inj h1
  exact subscriptTail_builtinR (x:=w) pl.isList.typeIs slot_list_getitem.lookup
   (wpAny_getItem_list_neg (Q:=λr s'=>r=w/\EP X pins Z Q r s') pl.isList () (by rw [ab1]<;>omega) () (by rw [hj];simpa using ew) ⟨rfl,fin⟩) hs
theorem ix_tup:xO X (ET X.K):=by
 intro value slice pins s Z H x y v u Q I rx ry h hs;obtain⟨p,xs,i,z,rfl,rfl,hq,he,q⟩:=h;cases rx;obtain⟨t,rfl⟩:=ry;obtain⟨its,r,pl,hz⟩:=I.tuple hq;obtain⟨j,h1,h2,h3,h4,h5⟩:=rZ he;obtain⟨w,ew,rw'⟩:=r.get h2;have hl:=r.length;have hn:=j5;have fin:EP X pins Z Q w s:=⟨z,H,I,rw',q⟩
 exact subscriptTail_builtinR (x:=w) pl.typeIs slot_tuple_getitem.lookup
  (getItem_tuple (j:=j) (Q:=λr s'=>r=w/\EP X pins Z Q r s') pl () () (by rw [ab1,<-hl];exact h1) (by simpa using ew) ⟨rfl,fin⟩) hs
theorem Em:xO X ES:=by
 intro value slice pins s Z H x y v u Q I rx ry h hs;obtain⟨z,i,c,rfl,rfl,hz,he,q⟩:=h;obtain⟨t,rfl⟩:=rx;obtain⟨t',rfl⟩:=ry;obtain⟨j,h1,h2,h3,h4,h5⟩:=rZ he
 have hl:z.cps.toList.length=z.length:=by simp [Str.length]
 rw [hl]at h1 h4 h5;have hn:=j5
 exact tail_any (typeIs_str s z t) slot_str_getitem.lookup (getItem_str (c:=c) (by
  have e1:decide (i < -(2 ^ 63:Int))=false:=decide_eq_false ();have e2:decide (i>=2 ^ 63)=false:=decide_eq_false ()
  rw [e1,e2,Bool.or_false]) (by rw [h1];simpa using h2) ⟨.str ⟨#[c]⟩,H,I.tok _,⟨_,rfl⟩,q⟩) hs
def nk(K:Frag):R2:=λx y H Q=>ER K x y H Q\/ET K x y H Q\/ES x y H Q
theorem El:xO X (nk X.K):=ix_list.or (ix_tup.or Em)
theorem vA(its:List Value)(n j:Nat)(u:Value):Obj.mapSeq (·.setIfInBounds j u) { cls:=.type "list",data:=.seq its.toArray n }={ cls:=.type "list",data:=.seq (its.set j u).toArray n }:=by
 simp [Obj.mapSeq]
theorem aO.lst{pins:List (Addr×Obj)}{Z:St}{H:Hp}{s:Shared}{p:Addr}{xs:List V}(I:aO X pins Z H s)(h:H p=some (.lst xs)):
  ∃(its:List Value) (n:Nat),aX xs its/\s.heap.get? p=some { cls:=.type "list",data:=.seq its.toArray n }/\xs.length<=sizeLine:=by
 obtain⟨z,its,n,r,e⟩:=I.hok p _ h;exact⟨its,n,r,e,z⟩
theorem aO.lstUpd{p:Addr}{ys:List V}{its':List Value}{n':Nat}{f:Obj->Obj}(I:aO X pins Z H s)(h:H p=some (.lst xs))
  (ho:s.heap.get? p=some { cls:=.type "list",data:=.seq its.toArray n }) (hf:f { cls:=.type "list",data:=.seq its.toArray n }={ cls:=.type "list",data:=.seq its'.toArray n' }) (r:aX ys its') (hz:ys.length<=sizeLine) (t:Nat) :
  aO X pins Z (upd H p (.lst ys)) { s with heap:=s.heap.update p f,toks:=t }:=by
 have e:(s.heap.update p f).get? p=some { cls:=.type "list",data:=.seq its'.toArray n' }:=by
  rw [Heap.get?_update_self f ho (by rw [hf]<;>rfl),hf]
 refine I.write (x:=p) (e:=p) (by rw [h];trivial) (.inl rfl) (λb u hb q=>(Heap.get?_update_other _ _ (Ne.symm hb)).trans q) ⟨_,e⟩ ?_;exact⟨hz,its',n',r,e⟩
def D3:V->V->V->Hp->(Hp->Prop)->Prop:=λo i v H Q=>∃p xs k j,o=.ref p/\i=.int k/\H p=some (.lst xs)/\BN xs.length k=some j/\Q (upd H p (.lst (xs.set j v)))
theorem Ba:BS X D3:=by
 rintro pins s Z H o i v ov iv u Q I ro ri rv ⟨p,xs,k,j,rfl,rfl,hp,hj,q⟩;cases ro;obtain⟨t,rfl⟩:=ri;obtain⟨its,n,r,ho,hz⟩:=I.lst hp;obtain⟨h1,h2,h3,h4⟩:=w5 hj;have hl:=r.length;have hn:=j5
 have I':aO X pins Z (upd H p (.lst (xs.set j v))) { s with heap:=s.heap.update p (Obj.mapSeq (·.setIfInBounds j u)) }:=
  I.lstUpd hp ho (vA its n j u) (r.set rv j) (by rw [List.length_set];exact hz) s.toks
 by_cases h0:0<=k
 ·have hk:k.toNat=j:=by
   rw [seqIndex_of h0 h4]at h1;exact Option.some.inj h1
  exact PySem.W.ki_setAt ho h0 () (by rw [ab1,<-hl];exact h4) (by rw [hk];exact⟨_,I',q⟩)
 ·have hk:(k+(its.toArray.size:Int)).toNat=j:=by
   rw [seqIndex_neg () h3]at h1;rw [ab1,<-hl];exact Option.some.inj h1
  exact PySem.W.ki_setBack ho () (by rw [ab1,<-hl];exact h3) () (by rw [hk];exact⟨_,I',q⟩)
theorem tD(lo hi:Option Int)(n:Nat):(sliceBounds lo hi none n).1=((HT.sIx n 0 lo:Nat):Int)/\(sliceBounds lo hi none n).2.1=((HT.sIx n n hi:Nat):Int)/\(sliceBounds lo hi none n).2.2=1:=by
 refine⟨?_,?_,rfl⟩
 ·cases lo with
  | none=>simp [sliceBounds,HT.sIx]
  | some i=>
   simp only [sliceBounds,HT.sIx,Option.getD_none,show(1:Int) > 0 by decide,if_true]
   by_cases h:i < 0
   ·simp only [h,if_true]<;>omega
   ·simp only [h,if_false]<;>omega
 ·cases hi with
  | none=>simp [sliceBounds,HT.sIx]
  | some i=>
   simp only [sliceBounds,HT.sIx,Option.getD_none,show(1:Int) > 0 by decide,if_true]
   by_cases h:i < 0
   ·simp only [h,if_true]<;>omega
   ·simp only [h,if_false]<;>omega
theorem qN(its:List Value)(lo hi:Option Int):slicePick its.toArray lo hi none=((its.drop (HT.sIx its.length 0 lo)).take (HT.sIx its.length its.length hi - HT.sIx its.length 0 lo)).toArray:=by
 obtain⟨h1,h2,h3⟩:=tD lo hi its.toArray.size;unfold slicePick;rw [h1,h2,h3]
 simp only [sliceRange_one,pick_run,ab1]<;>rfl
def EW(K:Frag):V->Option Int->Option Int->Hp->VK->Prop:=λx lo hi H Q=>∃a xs,x=.ref a/\aJ K H a xs/\∀p,H p=none->Q (.ref p) (upd H p (.lst (nZ xs lo hi)))
theorem sl_list:BK X (EW X.K):=by
 rintro pins s Z H x v vl vu lo hi sl Q I rx hs pl pu ⟨a,xs,rfl,hx,q⟩;cases rx;obtain⟨its,r,ht,hz⟩:=I.list hx;have hlen:=r.length;refine⟨"list",_,slot_list_getitem.lookup,ht.isList.typeIs,?_⟩
 refine wpAny_getItem_list_slice ht.isList hs pl pu .none (by simp) ?_ (by rw [ab1]<;>omega)
 rw [qN,<-hlen];refine⟨.ref s.heap.objs.size,_,I.laid (t':=s.toks) (o:=.lst (nZ xs lo hi)) (λb ob q=>aa5 _ q) (aa9 _) ?_,rfl,q _ (I.hok.fresh (aa9 _))⟩;exact⟨ab6 (mR xs lo hi) hz,_,0,(r.drop (HT.sIx xs.length 0 lo)).take (HT.sIx xs.length xs.length hi - HT.sIx xs.length 0 lo),ab9 _ rfl⟩
def jQ:V->Bool
 | .non=>true
 | .bl _=>true
 | .int _=>true
 | .str _=>true
 | _=>false
def Cg:V->V->Bool
 | .non,.non=>true
 | .bl a,.bl b=>a == b
 | .bl a,.int b=>(if a then 1 else 0) == b
 | .int a,.bl b=>a == (if b then 1 else 0)
 | .int a,.int b=>a == b
 | .str a,.str b=>a == b
 | _,_=>false
theorem zL{y:V}{u:Value}(ry:aS y u)(rx:aS x v)(fy:jQ y=true)(fx:jQ x=true):SeqAt.EqAt A s u v (Cg y x):=by
 cases y with
 | non=>
  cases ry
  cases x with
  | non=>cases rx;exact SeqAt.EqAt.same _
  | bl b=>cases rx;exact SeqAt.EqAt.none_bool b
  | int b=>obtain⟨t,rfl⟩:=rx;exact SeqAt.EqAt.none_int b t
  | str b=>obtain⟨t,rfl⟩:=rx;exact SeqAt.EqAt.none_str b t
  | _=>exact absurd (show false=true from fx) aa6
 | bl a=>
  cases ry
  cases x with
  | non=>cases rx;exact SeqAt.EqAt.bool_none a
  | bl b=>cases rx;exact SeqAt.EqAt.bool_bool a b
  | int b=>obtain⟨t,rfl⟩:=rx;exact SeqAt.EqAt.bool_int a b t
  | str b=>obtain⟨t,rfl⟩:=rx;exact SeqAt.EqAt.bool_str a b t
  | _=>exact absurd (show false=true from fx) aa6
 | int a=>
  obtain⟨t',rfl⟩:=ry
  cases x with
  | non=>cases rx;exact SeqAt.EqAt.int_none a t'
  | bl b=>cases rx;exact SeqAt.EqAt.int_bool a t' b
  | int b=>obtain⟨t,rfl⟩:=rx;exact SeqAt.EqAt.int_int a t' b t
  | str b=>obtain⟨t,rfl⟩:=rx;exact SeqAt.EqAt.int_str a t' b t
  | _=>exact absurd (show false=true from fx) aa6
 | str a=>
  obtain⟨t',rfl⟩:=ry
  cases x with
  | non=>cases rx;exact SeqAt.EqAt.str_none a t'
  | bl b=>cases rx;exact SeqAt.EqAt.str_bool a t' b
  | int b=>obtain⟨t,rfl⟩:=rx;exact SeqAt.EqAt.str_int a t' b t
  | str b=>obtain⟨t,rfl⟩:=rx;exact SeqAt.EqAt.str_str a t' b t
  | _=>exact absurd (show false=true from fx) aa6
 | _=>exact absurd (show false=true from fy) aa6
def vn(x:V)(u:Value):Bool:=match u with
 | .none=>Cg .non x
 | .bool b=>Cg (.bl b) x
 | .int i _=>Cg (.int i) x
 | .str z _=>Cg (.str z) x
 | _=>false
theorem zM{y:V}{u:Value}(r:aS y u)(f:jQ y=true):vn x u=Cg y x:=by
 cases y with
 | non=>cases r;rfl
 | bl b=>cases r;rfl
 | int i=>obtain⟨t,rfl⟩:=r;rfl
 | str z=>obtain⟨t,rfl⟩:=r;rfl
 | _=>exact absurd (show false=true from f) aa6
theorem kP:∀{xs:List V} {us:List Value},aX xs us->xs.all jQ=true->us.any (vn x)=xs.any λy=>Cg y x
 | _,_,.nil,_=>rfl
 | y::xs,u::us,.cons r t,f=>by
  rw [al3,ai3]at f;rw [ai1,ai1,zM r f.1,kP t f.2]
theorem i6(rx:aS x v)(fx:jQ x=true):∀{xs:List V} {us:List Value},aX xs us->xs.all jQ=true->∀u∈us,SeqAt.EqAt A s u v (vn x u)
 | _,_,.nil,_=>λu hu=>by cases hu
 | y::xs,u::us,.cons r t,f=>λu' hu=>by
  rw [al3,ai3]at f;rcases ab2.mp hu with rfl | hu
  ·rw [zM r f.1];exact zL r rx f.1 fx
  ·exact i6 rx fx t f.2 u' hu
def zV(x:V)(xs:List V):Bool:=xs.any λy=>Cg y x
def Gh(K:Frag)(neg:Bool):R2:=λx y H Q=>∃p xs,y=.ref p/\(aJ K H p xs\/cI K H p xs)/\jQ x=true/\xs.all jQ=true/\Q (.bl (if neg then !zV x xs else zV x xs)) H
theorem yI:dH X (compareOp .In) (Gh X.K false):=by
 rintro pins s Z H x y v u Q I rx ry ⟨p,xs,rfl,hq,fx,fs,q⟩;cases ry;rcases hq with hq | hq
 ·obtain⟨its,r,pl,hz⟩:=I.list hq
  refine SeqAt.in_listAt (vn x) pl.isList (λw hw=>i6 rx fx r fs w (by simpa using hw)) ⟨.bl _,H,I,rfl,?_⟩;rw [show its.toArray.any (vn x)=its.any (vn x)by simp,kP r fs];exact q
 ·obtain⟨its,r,pl,hz⟩:=I.tuple hq
  refine SeqAt.in_tupleAt (vn x) pl (λw hw=>i6 rx fx r fs w (by simpa using hw)) ⟨.bl _,H,I,rfl,?_⟩;rw [show its.toArray.any (vn x)=its.any (vn x)by simp,kP r fs];exact q
theorem sR:dH X (compareOp .NotIn) (Gh X.K true):=by
 rintro pins s Z H x y v u Q I rx ry ⟨p,xs,rfl,hq,fx,fs,q⟩;cases ry;rcases hq with hq | hq
 ·obtain⟨its,r,pl,hz⟩:=I.list hq
  refine SeqAt.notIn_listAt (vn x) pl.isList (λw hw=>i6 rx fx r fs w (by simpa using hw)) ⟨.bl _,H,I,rfl,?_⟩;rw [show its.toArray.any (vn x)=its.any (vn x)by simp,kP r fs];exact q
 ·obtain⟨its,r,pl,hz⟩:=I.tuple hq
  refine SeqAt.notIn_tupleAt (vn x) pl (λw hw=>i6 rx fx r fs w (by simpa using hw)) ⟨.bl _,H,I,rfl,?_⟩;rw [show its.toArray.any (vn x)=its.any (vn x)by simp,kP r fs];exact q
theorem se:cS X (.builtin "len") (λxs H Q=>∃p ys,xs=[.ref p]/\(aJ X.K H p ys\/cI X.K H p ys)/\Q (.int ys.length) H):=by
 rintro pins s Z H xs us Q I r ⟨p,ys,rfl,hq,q⟩;obtain⟨u,rfl,rx⟩:=fF r;cases rx;have hn:=j5;rcases hq with hq | hq
 ·obtain⟨its,r',pl,hz⟩:=I.list hq
  have hlen:=r'.length
  exact Calls.call_len_list pl.isList (by simp only [ab1]<;>omega) ⟨.int ys.length,H,I.tok _,⟨s.toks+1,by rw [ab1,hlen]⟩,q⟩
 ·obtain⟨its,r',pl,hz⟩:=I.tuple hq
  have hlen:=r'.length
  exact len_tuple pl (by simp only [ab1]<;>omega) ⟨.int ys.length,H,I.tok _,⟨s.toks+1,by rw [ab1,hlen]⟩,q⟩
theorem call_len_str:cS X (.builtin "len") (λxs H Q=>∃z,xs=[.str z]/\z.length<=sizeLine/\Q (.int z.length) H):=by
 rintro pins s Z H xs us Q I r ⟨z,rfl,hz,q⟩;obtain⟨u,rfl,t,rfl⟩:=fF r;have hn:=j5;exact len_str () ⟨.int z.length,H,I.tok _,⟨_,rfl⟩,q⟩
theorem cS.or{f:Value}{r r':List V->Hp->VK->Prop}(h:cS X f r)(h':cS X f r'):cS X f (λxs H Q=>r xs H Q\/r' xs H Q):=by
 intro pins s Z H xs us Q I rs q;rcases q with q | q
 ·exact h pins s Z H xs us Q I rs q
 ·exact h' pins s Z H xs us Q I rs q
theorem sf:cS X (.type "list") (λxs H Q=>∃p ys,xs=[.ref p]/\(aJ X.K H p ys\/cI X.K H p ys)/\∀l,H l=none->Q (.ref l) (upd H l (.lst ys))):=by
 rintro pins s Z H xs us Q I r ⟨p,ys,rfl,hq,q⟩;obtain⟨u,rfl,rx⟩:=fF r;cases rx
 have fin:∀(its:List Value),aX ys its->ys.length<=sizeLine->∀(h':Heap) (c':Nat),(∀b o',s.heap.get? b=some o'->h'.get? b=some o')->
   h'.get? s.heap.objs.size=some { cls:=.type "list",dict:=none,data:=.seq its.toArray c',slots:=#[] }->EP X pins Z Q (.ref s.heap.objs.size) { s with heap:=h' }:=λits r' hz h' c' kp e=>
  ⟨.ref s.heap.objs.size,_,I.laid (t':=s.toks) kp (aa9 _) (show dU X.prog X.w _ h' _ (.lst ys)from⟨hz,its,c',r',e⟩),rfl,q _ (I.hok.fresh (aa9 _))⟩
 rcases hq with hq | hq
 ·obtain⟨its,r',pl,hz⟩:=I.list hq
  have hlen:=r'.length;obtain⟨o,ho,hc,n,hd⟩:=pl.isList
  exact call_list_seq p (.inl rfl) ho hc hd (λh' c' kp e=>fin its r' hz h' c' kp e) (by simp only [ab1]<;>omega)
 ·obtain⟨its,r',pl,hz⟩:=I.tuple hq
  have hlen:=r'.length;obtain⟨o,ho,hc,n,hd⟩:=pl
  exact call_list_seq p (.inr rfl) ho hc hd (λh' c' kp e=>fin its r' hz h' c' kp e) (by simp only [ab1]<;>omega)
theorem pV:cS X (.type "tuple") (λxs H Q=>∃p ys,xs=[.ref p]/\((aJ X.K H p ys/\∀l,H l=none->Q (.ref l) (upd H l (.tup ys)))\/(cI X.K H p ys/\Q (.ref p) H))):=by
 rintro pins s Z H xs us Q I r ⟨p,ys,rfl,h⟩;obtain⟨u,rfl,rx⟩:=fF r;cases rx;rcases h with⟨hq,q⟩ | ⟨hq,q⟩
 ·obtain⟨its,r',pl,hz⟩:=I.list hq
  have hlen:=r'.length
  refine call_tuple_list pl.isList (λh' kp=>?_) (by simp only [ab1]<;>omega)
  have I1:aO X pins Z H { s with heap:=h' }:=I.kept (t':=s.toks) kp
  have I2:aO X pins Z (upd H h'.objs.size (.tup ys)) { s with heap:=h'.push { cls:=.type "tuple",data:=.seq its.toArray } }:=
   I1.laid (t':=s.toks) (λb o e=>aa5 _ e) (aa9 _) (show dU X.prog X.w _ _ _ (.tup ys)from⟨hz,its,r',IsTup.new _ _⟩)
  exact⟨.ref h'.objs.size,_,I2,rfl,q _ (I1.hok.fresh (aa9 _))⟩
 ·obtain⟨its,r',pl,hz⟩:=I.tuple hq
  exact call_tuple_same pl ⟨.ref p,H,I,rfl,q⟩
def GA(K:Frag)(T:String)(x:V)(H:Hp):Prop:=match x with
 | .str _=>T="str"
 | .int _=>T="int"
 | .ref p=>(T="list"/\∃xs,aJ K H p xs)\/(T="tuple"/\∃o,K.lookup p=some o/\o.cls=.type "tuple"/\o.dict=none)\/
   (T="dict"/\((∃kvs,H p=some (.dK kvs))\/∃kvs,H p=some (.dT kvs)))\/(T="set"/\∃S n,H p=some (.set S n))
 | _=>False
theorem Fh{T:String}(I:aO X pins Z H s)(r:aS x v)(ty:GA X.K T x H):
  s.TypeIs v T/\∀a,v=.ref a->∃ob,s.heap.get? a=some ob/\ob.dict=none:=by
 cases x with
 | str z=>
  obtain⟨t,rfl⟩:=r;cases(show T="str" from ty);exact⟨typeIs_str s z t,λ_ e=>nomatch e⟩
 | int i=>
  obtain⟨t,rfl⟩:=r;cases(show T="int" from ty);exact⟨typeIs_int s i t,λ_ e=>nomatch e⟩
 | ref p=>
  cases r;rcases ty with⟨rfl,xs,hq⟩ | ⟨rfl,o,hk,hc,hd⟩ | ⟨rfl,hk⟩ | ⟨rfl,S,n,hk⟩
  ·obtain⟨its,_,pl,_⟩:=I.list hq
   refine⟨pl.isList.typeIs,λa e=>?_⟩;cases e;obtain⟨o,n,e,c,hd,_⟩:=pl;exact⟨o,e,hd⟩
  ·refine⟨⟨o,I.kIn p o hk,hc⟩,λa e=>?_⟩
   cases e;exact⟨o,I.kIn _ o hk,hd⟩
  ·have z:∃o,s.heap.get? p=some o/\o.ExactDict:=by
    rcases hk with⟨kvs,hk⟩ | ⟨kvs,hk⟩
    ·obtain⟨_,_,_,_,o,_,_,e,ex,_⟩:=I.hok p _ hk
     exact⟨o,e,ex⟩
    ·obtain⟨_,_,_,_,o,_,_,e,ex,_⟩:=I.hok p _ hk
     exact⟨o,e,ex⟩
   obtain⟨o,e,ex⟩:=z;refine⟨⟨o,e,ex.1⟩,λa e2=>?_⟩;cases e2;exact⟨o,e,ex.2.1⟩
  ·obtain⟨o,_,_,_,e,ex,_⟩:=I.hok p _ hk
   refine⟨⟨o,e,ex.1⟩,λa e2=>?_⟩;cases e2;exact⟨o,e,ex.2.1⟩
 | _=>exact False.elim ty
def Hz(K:Frag)(T:String)(r:V->List V->Hp->VK->Prop)(to:TE):TE:=λZ H Q=>to Z H λx H1=>GA K T x H1/\r x [] H1 Q
def Hy(K:Frag)(T:String)(r:V->List V->Hp->VK->Prop)(to:TE)(t:TA):TE:=λZ H Q=>to Z H λx H1=>GA K T x H1/\t Z H1 λxs H2=>r x xs H2 Q
variable {o e:Expr} {es:List Expr} {to:TE} {t:TA} {name:Str} {apos cpos:Pos} {T id:String} {r:V->List V->Hp->VK->Prop}
theorem Gd(pa:PlainAttrs T)(slot:Slot T name id)(hty:typeOf (.builtin id)=pure (.type "method_descriptor"))(hm:BR X id r)(ho:PE X o to)(ha:PA X (e::es) t)
  (hbase:attributeBase o name X.env (eval o X.env)=eval o X.env:=by rfl)
  (hfew:((backTo cpos (starEach (e::es) X.env)).all (λx=>!x.1) && (backToKw cpos (keywordEach [] X.env)).all (λx=>x.1.isSome)
   && decide ((e::es).length+([]:List Keyword).length+(if ([]:List Keyword).isEmpty then 0 else 1) < 30))=true:=by rfl)
  (hline:(apos.endLine == cpos.line)=true:=by rfl) (hs:starEach (e::es) X.env=(false,eval e X.env)::starEach es X.env:=by rfl) (hplain:(backTo cpos (starEach es X.env)).any (·.1)=false:=by rfl) :
  PE X (.Call (.Attribute o name apos) (e::es) [] cpos) (Hy X.K T r to t):=by
 intro pins s Z H Q I h;refine wpAny_Call_method_late hbase hfew hline rfl (cW (ho pins s Z H _ I h) λv s1 zq0=>?_);obtain⟨x,H1,I1,r1,ty,q1⟩:=zq0;obtain⟨h1,h2⟩:=Fh I1 r1 ty;refine⟨T,id,pa,slot,hty,h1,h2,?_⟩;have hA:=ha cpos pins s1 Z H1 _ I1 q1;rw [hs]at hA |-
 refine Calls.callWith_builtin (by show(false || (backTo cpos (starEach es X.env)).any (·.1))=false;rw [hplain]<;>rfl) (Calls.evalArgs_plain ?_)
 exact cW hA λus s2 ⟨vs,H2,I2,r2,q2⟩=>hm pins s2 Z H2 x vs v us Q I2 r1 r2 q2
end
def G9(X:Cx)(id:String)(r:V->List V->Hp->VK->Prop):Prop:=
 ∀(pins:List (Addr×Obj)) (s:Shared) (Z:St) (H:Hp) (x:V) (xs:List V) (v:Value) (us:List Value) (Q:VK),aO X pins Z H s->aS x v->aX xs us->r x xs H Q->
  wpAny (model X.prog X.w) X.A (call (.builtin id) (v::us)) (EP X pins Z Q) X.xe s
theorem aX.one:∀{x:V} {us:List Value},aX [x] us->∃u,us=[u]/\aS x u
 | _,_,.cons r .nil=>⟨_,rfl,r⟩
theorem aX.rep{us:List Value}(h:aX xs us):∀k:Nat,aX (List.replicate k xs).flatten (List.replicate k us).flatten
 | 0=>.nil
 | k+1=>by
  rw [ae8,ae8,ag9,ag9];exact aX.append h (aX.rep h k)
theorem lX(its:List Value):∀(k:Nat) (acc:List Value),
  List.foldl (λx1 x2=>x1++x2) acc.toArray (List.replicate k its.toArray)=(acc++(List.replicate k its).flatten).toArray
 | 0,acc=>by simp
 | k+1,acc=>by
  have e:acc.toArray++its.toArray=(acc++its).toArray:=by simp
  have e2:(acc++its)++(List.replicate k its).flatten=acc++(List.replicate (k+1) its).flatten:=by
   rw [ae8,ag9,aj3]
  rw [<-e2,<-lX its k (acc++its),<-e,ae8,ae5]
section
variable {l b:Addr} {ys zs:List V}
theorem aO.lset{its':List Value}{f:Array Value->Array Value}{t':Nat}(I:aO X pins Z H s)(hH:H l=some (.lst xs))
  (e:s.heap.get? l=some { cls:=.type "list",data:=.seq its.toArray n }) (hf:f its.toArray=its'.toArray) (hv:aX ys its') (hz:ys.length<=sizeLine) :
  aO X pins Z (upd H l (.lst ys)) { s with heap:=s.heap.update l (Obj.mapSeq f),toks:=t' }:=by
 have q:=PySem.IsL.update e f;rw [hf]at q;refine I.write (x:=l) (e:=l) (by rw [hH];exact trivial) (.inl rfl) (λb' u hb hu=>(Heap.get?_update_other s.heap (Obj.mapSeq f) (Ne.symm hb)).trans hu) ⟨_,q⟩ ?_;exact⟨hz,its',_,hv,q⟩
theorem aO.lnew{t':Nat}(I:aO X pins Z H s)(hv:aX ys its)(hz:ys.length<=sizeLine):
  aO X pins Z (upd H s.heap.objs.size (.lst ys)) { s with heap:=s.heap.push { cls:=.type "list",data:=.seq its.toArray },toks:=t' }:=
 I.laid (λ_ _ q=>aa5 _ q) (aa9 _) ⟨hz,its,0,hv,ab9 _ rfl⟩
theorem aO.fresh(I:aO X pins Z H s):H s.heap.objs.size=none:=I.hok.fresh (aa9 _)
theorem aO.lstM(I:aO X pins Z H s)(hH:H l=some (.lst xs)):xs.length<=sizeLine/\∃(its:List Value) (n:Nat),aX xs its/\xs.length=its.length/\s.heap.get? l=some { cls:=.type "list",data:=.seq its.toArray n }:=by
 obtain⟨z,its,n,r,e⟩:=I.hok l _ hH;exact⟨z,its,n,r,r.length,e⟩
theorem uh(h:n<=sizeLine):Builtin.List.listTooLong n=false:=by
 unfold Builtin.List.listTooLong;exact decide_eq_false ()
end
def De:V->List V->Hp->VK->Prop:=λx vs H Q=>∃l xs y,x=.ref l/\vs=[y]/\H l=some (.lst xs)/\xs.length < sizeLine/\Q .non (upd H l (.lst (xs++[y])))
theorem cA:G9 X "list.append" De:=by
 rintro pins s Z H x vs v us Q I rx rv ⟨l,xs,y,rfl,rfl,hH,hz,q⟩;cases rx;obtain⟨u,rfl,ru⟩:=rv.one;obtain⟨z,its,n,r,hl,e⟩:=I.lstM hH;refine call_meets F.slot_list_append ⟨_,e,rfl⟩ F.entry_list_append (F.args_list_append_2 _ _) (PySem.list_append l its.toArray n u (by rw [ab1];omega)) ⟨e,?_⟩;refine⟨.non,_,I.lset (its':=its++[u]) hH e (by simp) (r.append (.cons ru .nil)) ?_,rfl,q⟩;rw [aa8,List.length_singleton];omega
def Di:V->List V->Hp->VK->Prop:=λx vs H Q=>∃l b xs zs,x=.ref l/\vs=[.ref b]/\H l=some (.lst xs)/\H b=some (.lst zs)/\xs.length+zs.length<=sizeLine/\Q .non (upd H l (.lst (xs++zs)))
theorem rz:G9 X "list.extend" Di:=by
 rintro pins s Z H x vs v us Q I rx rv ⟨l,b,xs,zs,rfl,rfl,hH,hB,hz,q⟩;cases rx;obtain⟨u,rfl,ru⟩:=rv.one;cases ru;obtain⟨z,its,n,r,hl,e⟩:=I.lstM hH;obtain⟨z2,its2,n2,r2,hl2,e2⟩:=I.lstM hB
 have hsz:its.toArray.size+its2.toArray.size<=sizeLine:=by rw [ab1,ab1];omega
 have hlong:¬(!its.toArray.isEmpty && Builtin.List.listTooLong (its.toArray.size+its2.toArray.size))=true:=by
  rw [uh hsz,Bool.and_false];exact aa6
 refine call_meets F.slot_list_extend ⟨_,e,rfl⟩ F.entry_list_extend (F.args_list_extend_2 _ _)
  (AutoSeq1.list_extend_list_list_0 l its.toArray n b its2.toArray n2 hlong (by rw [ab1];omega) ()) ⟨e,e2,?_⟩
 refine⟨.non,_,I.lset (its':=its++its2) hH e (by simp) (r.append r2) ?_,rfl,q⟩;rw [aa8];omega
def Df:R2:=λx y H Q=>∃l b xs zs,x=.ref l/\y=.ref b/\H l=some (.lst xs)/\H b=some (.lst zs)/\xs.length+zs.length<=sizeLine/\∀p,H p=none->Q (.ref p) (upd H p (.lst (xs++zs)))
theorem op_cat:dH X (binaryOp .Add) Df:=by
 rintro pins s Z H x y v u Q I rx ry ⟨l,b,xs,zs,rfl,rfl,hH,hB,hz,q⟩;cases rx;cases ry;obtain⟨z,its,n,r,hl,e⟩:=I.lstM hH;obtain⟨z2,its2,n2,r2,hl2,e2⟩:=I.lstM hB;refine PySem.P.add_list e e2 ?_ (by rw [ab1,ab1];omega)
 have ea:its.toArray++its2.toArray=(its++its2).toArray:=by simp
 rw [ea];exact⟨.ref _,_,I.lnew (t':=s.toks) (r.append r2) (by rw [aa8];omega),rfl,q _ I.fresh⟩
def EU:R2:=λx y H Q=>∃l k xs,x=.ref l/\y=.int k/\H l=some (.lst xs)/\-(2 ^ 63)<=k/\k < 2 ^ 63/\xs.length * k.toNat<=sizeLine/\
 ∀p,H p=none->Q (.ref p) (upd H p (.lst (List.replicate k.toNat xs).flatten))
theorem sr(xs:List α)(k:Nat):(List.replicate k xs).flatten.length=k * xs.length:=by
 induction k with
 | zero=>simp
 | succ k ih=>rw [ae8,ag9,aa8,ih,am7,Nat.add_comm]
theorem EH:dH X (binaryOp .Mult) EU:=by
 rintro pins s Z H x y v u Q I rx ry ⟨l,k,xs,rfl,rfl,hH,h1,h2,hz,q⟩;cases rx;obtain⟨t,rfl⟩:=ry;obtain⟨z,its,n,r,hl,e⟩:=I.lstM hH
 have hlen:its.toArray.size * k.toNat<=sizeLine:=by rw [ab1,<-hl];exact hz
 have hcap:¬its.toArray.size * k.toNat > (2 ^ 63 - 1) / 8:=by
  have:(sizeLine:Nat)<=(2 ^ 63 - 1) / 8:=by decide
  omega
 have hfit:¬(!Builtin.List.listFitsIndex k)=true:=by
  rw [fitsIndex_both h1 h2];exact aa6
 have hlong:¬Builtin.List.listTooLong (its.toArray.size * k.toNat)=true:=by
  rw [uh hlen];exact aa6
 have hnew:List.foldl (λx1 x2=>x1++x2) #[] (List.replicate (if its.toArray.isEmpty=true then 0 else k.toNat) its.toArray)=(List.replicate k.toNat its).flatten.toArray:=by
  have f0:∀m:Nat,List.foldl (λx1 x2=>x1++x2) #[] (List.replicate m its.toArray)=(List.replicate m its).flatten.toArray:=λm=>by
   have:=lX its m []
   rw [List.nil_append]at this;exact this
  rw [f0]
  cases its with
  | nil=>simp
  | cons a r'=>rw [if_neg (by simp)]
 refine wpAny_binaryOp_repeat_ref (T:="list") (U:="int") ∅ ⟨_,e,rfl⟩ (λs'=>typeIs_int s' k t) noFill_list_mul F.fills_int_mul F.slot_int_rmul repeat_list F.slot_int_index.lookup
  (call_meets F.slot_int_rmul (typeIs_int s k t) F.entry_int_rmul (F.args_int_rmul_2 _ _) (int___rmul___int_list k t l its.toArray n)
   ⟨e,rfl,⟨_,e,rfl⟩,call_meets F.slot_list_mul ⟨_,e,rfl⟩ F.entry_list_mul (F.args_list_mul_2 _ _) (AutoListH.list___mul___list_int_3 l its.toArray n k t hfit hcap hlong) ⟨e,?_⟩⟩)
 rw [hnew];exact⟨.ref _,_,I.lnew (t':=s.toks) (r.rep k.toNat) (by rw [sr,ao5];exact hz),rfl,q _ I.fresh⟩
section
variable {prog:Program} {w:World} {E:Value->Shared->Prop}
set_option maxRecDepth 100000 in
end
end L2
namespace Att
open PySem PySem.W PySem.Calls PyProof.Rows
theorem nc{P:Params}{h:Heap}:∀(ns:List Int) (vs:List Value),WellAll P h vs (ns.map WData.int)->IntsAre vs ns:=by
 intro ns
 induction ns with
 | nil=>
  intro vs w;rw [ah1]at w;cases w;exact .nil
 | cons n ns ih=>
  intro vs w;rw [ac7]at w
  cases w with
  | cons a b=>
   cases a;exact .cons _ _ (ih _ b)
theorem script_of{l:OpenLaw}{n:Nat}(hn:l.most=some n){P:Params}{h:Heap}{args:List WData}{vals:List Value}
  (hpre:l.row.toRowW.claim.pre args=true) (hwl:WellAll P h vals args) :
  ∃a vs ns,vals=[Value.ref a]/\args=[WData.list (ns.map WData.int)]/\h.get? a=some { cls:=.type "list",data:=.seq vs.toArray }/\IntsAre vs ns/\ns.length<=n:=by
 have hsh:WShape.hasAll [] args [.list .int]=true:=(pre_splitW hpre).1;have hc:l.pre.holds [] { args:=args }=true:=(pre_splitW hpre).2;obtain⟨d,r,rfl,h1,h2⟩:=hasAllW_cons hsh;obtain rfl:=hasAllW_nil h2;obtain⟨xs,rfl,h3⟩:=hasW_list h1;obtain⟨ns,rfl⟩:=items_int h3
 have hlen:ns.length<=n:=by
  unfold OpenLaw.pre at hc
  have h4:(WTm.not (.lt (.lit (.int (n:Int))) (.len (.arg 0)))).holds [] { args:=[.list (ns.map .int)] }=true:=by
   have h4:=(holds_andW hc).1;rw [hn]at h4;exact h4
  have h5:=condW_of h4 (w_not (w_lt w_lit (w_len_list (w_arg rfl))));rw [aa0]at h5;refine Nat.le_of_not_lt λq=>?_
  have q':(n:Int) < ((ns.length:Nat):Int):=by omega
  first
   | (rw [decide_eq_true q']at h5;exact absurd h5 ∅)
   | (simp at h5;omega)
 cases hwl with
 | cons w1 w2=>
  cases w2
  cases w1 with
  | list ho hall=>exact⟨_,_,ns,rfl,rfl,ho,nc ns _ hall,hlen⟩
theorem post_true(l:OpenLaw)(args:List WData):l.row.toRowW.claim.post args (.bool true) args=true:=
 postW_of (r:=l.row.toRowW) (X:=(true == true))
  (show WShape.has [] (.bool true) .bool=true by first | rfl | decide | simp [WShape.has,WShape.arms,WShape.armsAll])
  (show(WTm.eq .res (.lit (.bool true))).value [] { args:=args,res:=some (.bool true),after:=args }=some (.bool (true == true))from w_eq_bool (w_res rfl) w_lit) rfl
section
variable {prog:Program} {w:World} {A:Around} {E:Value->Shared->Prop} {s:Shared} {K:Frag}
end
end Att
namespace L2
open PySem PySem.Spec PyProof.Rows
theorem rP:∀{vs:List Value} {ns:List Int},IntsAre vs ns->aX (ns.map V.int) vs
 | _,_,.nil=>.nil
 | _,_,.cons n t h=>.cons ⟨t,rfl⟩ (rP h)
def Ee(H:Hp):Prop:=∀b,H b=none\/∃o xs,H b=some (.frz o (.lst xs))
theorem Am{P:Program}{w:World}{K:Frag}{mg mb:Str->Option Value}{CX:BH}{k:Nat}{fa a:Addr}{fd:FuncData}{x:Str}{sp:Sp}{Zg:Shared}{vs:List Value}{ns:List Int}
  (KX:K.In Zg.heap) (hns:Zg.heap.Ns mainGlobals mg) (hb:Zg.heap.Ns builtinsNs mb) (hbb:∀x:Str,x≠"__name__"->mb x=bootBuiltins x) (hlim:Zg.heap.NoLimit) (hg:Zg.gens=#[])
  (ha:Zg.heap.get? a=some { cls:=.type "list",data:=.seq vs.toArray }) (hi:IntsAre vs ns) (hl:ns.length<=sizeLine) (hr:dX k callerA)
  (F:∀base:Heap,K.In base->base.Ns mainGlobals mg->aL P w K mg base CX k fa fd [x] sp) (hbind:∀(s:Shared) (u:Value),BindsTo s fd ⟨[u],[]⟩ [(x,u)])
  (hsp:∀H:Hp,Ee H->aJ K H a (ns.map V.int)->sp [.ref a] H (λv _=>v=.bl true) λ_ _ _=>False)
  (hCX:∀H e s',CX [] H Zg (λ_ _ _=>False) e s'->False) :
  codeAny (model P w) callerA (.call (.ref fa) ⟨[.ref a],[]⟩) (λr s'=>r=.ok (.ret (.bool true))/\OldK Zg.heap s'.heap/\s'.os=Zg.os/\AllBare s'.gens) Zg:=by
 have rv:=rP hi;have lenV:=hi.length
 have core:∀H:Hp,Ee H->aJ K H a (ns.map V.int)->jT P w H Zg.heap->(∀b,H b≠none->b=a)->(H a≠none->K.lookup a=none)->
   codeAny (model P w) callerA (.call (.ref fa) ⟨[.ref a],[]⟩) (λr s'=>r=.ok (.ret (.bool true))/\OldK Zg.heap s'.heap/\s'.os=Zg.os/\AllBare s'.gens) Zg:=by
  intro H hO hS hok hA hK;have base_of:∀{b:Addr} {o:Obj},Zg.heap.get? b=some o->H b=none->(sg Zg.heap H).get? b=some o:=λe n=>zR e n
  have noA:∀{b:Addr} {o:Obj} {es:Array DictEntry} {ep:Nat},Zg.heap.get? b=some o->o.data=.dict es ep->H b=none:=λ{b o es ep} e d=>by
   cases q:H b with
   | none=>rfl
   | some u=>
    have e':b=a:=hA b (by rw [q];simp);subst e';rw [ha]at e;cases e;have d':Data.seq vs.toArray _=Data.dict es ep:=d;cases d'
  have nsK:∀{b:Addr} {m:Str->Option Value},Zg.heap.Ns b m->(sg Zg.heap H).Ns b m:=λ{b m} ⟨o,es,ep,e,d,r⟩=>⟨o,es,ep,base_of e (noA e d),d,r⟩
  have hKb:K.In (sg Zg.heap H):=λb o e=>base_of (KX b o e) (by
   cases q:H b with
   | none=>rfl
   | some u=>
    have e':b=a:=hA b (by rw [q];simp);subst e'
    rw [hK (by rw [q];simp)]at e;cases e)
  have hM:Mod K mg (sg Zg.heap H):=⟨hKb,nsK hns,⟨mb,nsK hb,hbb⟩,let ⟨mc,h1,h2⟩:=hlim;⟨mc,nsK h1,h2⟩⟩;have e0:ve P w K mg (sg Zg.heap H) callerA [] Zg H:=⟨rfl,hM,λb o e=>CI e,Nat.le_of_eq (yn _ _),trivial,λb hb=>absurd (show b∈([]:List Addr)from hb) (by simp),hok,.of_eq hg⟩;refine ao4 ((F _ hKb (nsK hns)).run callerA [] Zg H ⟨[.ref a],[]⟩ [.ref a] [.ref a] _ _ hr e0 (hbind Zg (.ref a)) (.cons rfl .nil) (hsp H hO hS)) λr s' h=>?_
  cases r with
  | error e=>exact(hCX H e s' h).elim
  | ok fl=>
   cases fl with
   | next=>exact False.elim h
   | brk=>exact False.elim h
   | cont=>exact False.elim h
   | ret u=>
    obtain⟨v,H',os,bare,un,hok',r',q⟩:=h;have q':v=.bl true:=q;subst q';obtain rfl:u=Value.bool true:=r';refine⟨rfl,OldK.of_keep λb o e=>?_,os,bare⟩
    cases q:H b with
    | none=>exact un.keep b o e q (by intro z;exact absurd (show b∈([]:List Addr)from z) (by simp)) (by simp)
    | some u=>
     rcases hO b with z | ⟨ob,xs,z⟩
     ·rw [q]at z;cases z
     ·have z2:=un.frzs b ob _ z
      obtain⟨e1,_⟩:=hok b _ z;obtain⟨e2,_⟩:=hok' b _ z2;rw [e]at e1;cases e1;exact e2
 cases hk:K.lookup a with
 | some o=>
  have e:=KX a o hk;rw [ha]at e;cases e;refine core (λ_=>none) (λ_=>.inl rfl) (.inr ⟨_,vs.toArray,_,hk,rfl,rfl,rfl,by rw [ab1,lenV];exact hl,by simpa using rv⟩) (λb u z=>by have z':(none:Option HO)=some u:=z;cases z') (λb z=>absurd rfl z) λz=>absurd rfl z
 | none=>
  refine core (λb=>if b=a then some (.frz { cls:=.type "list",data:=.seq vs.toArray } (.lst (ns.map V.int)))else none) (λb=>?_) (.inl (.inr ⟨{ cls:=.type "list",data:=.seq vs.toArray },if_pos rfl⟩)) (λb u z=>?_) (λb z=>?_) λ_=>hk
  ·by_cases hb:b=a
   ·exact .inr ⟨_,_,if_pos hb⟩
   ·exact .inl (if_neg hb)
  ·by_cases hb:b=a
   ·have z':=(if_pos hb).symm.trans z
    cases z';subst hb;exact⟨ha,by rw [aa0];exact hl,vs,_,rv,ha⟩
   ·have z':=(if_neg hb).symm.trans z
    cases z'
  ·by_cases hb:b=a
   ·exact hb
   ·exact absurd (if_neg hb) z
abbrev KOf{K:Frag}{h:Heap}(_:K.In h):Frag:=K
end L2
namespace L2
open PySem PySem.Spec PyProof.Rows
variable {H:Hp} {f:Addr} {qual x:Str} {st:Stmt}
def aT(s:Stmt)(j:Nat):Stmt:=match s with
 | .ClassDef _ _ _ body _ _ _ _ _ _ _=>body.getD j (.Pass ⟨0,0,0,0⟩)
 | _=>.Pass ⟨0,0,0,0⟩
def cu(s:Stmt):Arguments:=match s with
 | .FunctionDef _ a _ _ _ _ _ _ _ _=>a
 | _=>{ posonlyargs:=[],args:=[],vararg:=none,kwonlyargs:=[],kw_defaults:=[],kwarg:=none,defaults:=[] }
def bX(s:Stmt):List Stmt:=match s with
 | .FunctionDef _ _ b _ _ _ _ _ _ _=>b
 | _=>[]
def ak(s:Stmt):Scope:=match s with
 | .FunctionDef _ _ _ _ _ _ sc _ _ _=>sc
 | _=>{ kind:=.function,names:=[],isGenerator:=false,isCoroutine:=false }
abbrev bU:BH:=λ_ _ _ _ _ _=>False
abbrev E0:XK:=λ_ _ _=>False
theorem rD{X:Cx}:nR bU X E0:=λ_ _ _ _ _ _ _ h=>h.elim
structure b0(K:Frag)(x qual:Str)(st:Stmt)(f:Addr)(fd:FuncData):Prop where
 ex:∃(oc:Value) (od:Option Addr) (kV doc pm:Value) (an:Option Addr) (cdv ct:Value) (osl:Array (Option Value)),
  fd=fnOf x qual (cu st) (bX st) (ak st) .none kV doc pm an cdv ct/\K.lookup f=some ⟨oc,od,.func fd,osl⟩/\codeIn K cdv qual=true
 kp:keepIn K (.ref f)=true
section
variable {P:Program} {w:World} {K:Frag} {mg:Str->Option Value} {base:Heap}
theorem b0.ok{fd:FuncData}{N ps:List Str}{k:Nat}{sp:Sp}(F:b0 K x qual st f fd)(S:ax N ps (ak st))
  (hbody:∀(cdv:Value) (A:Around) (outer:List Env) (s:Shared) (H:Hp) (vs:List V) (Q:VK) (E:XK),dX k (A.deeper (envOfC qual (ak st) s.heap.objs.size f cdv))->sp vs H Q E->
   vs.length=ps.length/\∃t,wQ (tP bU P w K mg base N qual (ak st) f cdv A outer s H E).nox (bX st) t/\t { nx:=λ_ H'=>Q .non H',rt:=Q } (start N vs) H):aL P w K mg base bU (k+1) f fd ps sp:=by
 obtain⟨oc,od,kV,doc,pm,an,cdv,ct,osl,rfl,lk,hcd⟩:=F.ex;refine DL lk hcd S (λA o s vs H Q E hr hsp=>(hbody cdv A o s H vs Q E (hr.deeper _) hsp).1) λA outer s H vs Q E hr hsp=>?_;obtain⟨_,t,h,q⟩:=hbody cdv A outer s H vs Q E hr hsp;exact⟨t,h.nox,q⟩
theorem b0.binds{fd:FuncData}{ps:List Str}(F:b0 K x qual st f fd)
  (h:∀(kV doc pm:Value) (an:Option Addr) (cdv ct:Value) (us:List Value),us.length=ps.length->bindArgs (fnOf x qual (cu st) (bX st) (ak st) .none kV doc pm an cdv ct) ⟨us,[]⟩=pure (ps.zip us)):dn K fd ps []:=by
 obtain⟨oc,od,kV,doc,pm,an,cdv,ct,osl,rfl,lk,hcd⟩:=F.ex;exact .all (h kV doc pm an cdv ct)
theorem fun_mk{oc:Value}{od an:Option Addr}{osl:Array (Option Value)}{kV doc pm cdv ct:Value}(l:K.lookup f=some ⟨oc,od,.func (fnOf x qual (cu st) (bX st) (ak st) .none kV doc pm an cdv ct),osl⟩)
  (c:codeIn K cdv qual=true) (k:keepIn K (.ref f)=true):b0 K x qual st f (fnOf x qual (cu st) (bX st) (ak st) .none kV doc pm an cdv ct):=⟨⟨oc,od,kV,doc,pm,an,cdv,ct,osl,rfl,l,c⟩,k⟩
end
section
variable {X:Cx}
end
def au(H H':Hp):Prop:=∀b o,H b=some o->H' b=some o
theorem au.refl(H:Hp):au H H:=λ_ _ h=>h
theorem au.trans{H1 H2:Hp}(a:au H H1)(b:au H1 H2):au H H2:=λc o h=>b c o (a c o h)
theorem au.free{H':Hp}(e:au H H'){l:Addr}(h:H' l=Option.none):H l=Option.none:=by
 cases q:H l with
 | none=>rfl
 | some o=>
  rw [e l o q]at h;cases h
theorem au.seq{K:Frag}{H':Hp}{a:Addr}{xs:List V}(e:au H H')(h:aJ K H a xs):aJ K H' a xs:=by
 rcases h with(h | ⟨o,h⟩) | h
 ·exact .inl (.inl (e _ _ h))
 ·exact .inl (.inr ⟨o,e _ _ h⟩)
 ·exact .inr h
end L2
namespace GM
end GM
set_option maxHeartbeats 4000000
namespace L2
open PySem PySem.Spec PyProof.Rows
variable {E:Value->Shared->Prop} {F:List V->Hp->Prop} {H:Hp} {K:Frag} {Q:VK} {R:It->Hp->Prop} {X:Cx} {a:Addr} {cl:List (Str×Addr)} {env:Env} {g:TG} {i j:Int} {js:List Nat} {pins:List (Addr×Obj)} {pos:Pos} {r:V->Hp->(It->Hp->Prop)->Prop} {s:Shared} {scope:Scope} {tg:Expr} {v:V} {w:World} {x z:Str} {xs:List V} {Z:St}
def iG(cells:List (Str×Addr)):List (Str×NameKind)->List (Str×Addr)->List (Str×Addr)
 | [],cs=>cs
 | (n,k)::r,cs=>iG cells r (if k == .free then(n,(cells.lookup n).getD 0)::cs else cs)
theorem jO(h:∀y∈scope.names,y.2=.free->∃c,env.cells.lookup y.1=some c):closureFor scope env=pure (iG env.cells scope.names []):=by
 simp only [closureFor];generalize scope.names=l at h |-
 have key:∀(l:List (Str×NameKind)) (cs:List (Str×Addr)),(∀y∈l,y.2=.free->∃c,env.cells.lookup y.1=some c)->
   (forIn l cs (λ(x:Str×NameKind) (r:List (Str×Addr))=>(if (x.snd == NameKind.free)=true then(do let a <-cellOf env x.fst;pure (ForInStep.yield ((x.fst,a)::r)))else pure (ForInStep.yield r):Sem (ForInStep (List (Str×Addr))))):Sem (List (Str×Addr)))=pure (iG env.cells l cs):=by
  intro l
  induction l with
  | nil=>intro cs _;rfl
  | cons x r ih=>
   intro cs h;obtain⟨n,k⟩:=x;have hr:∀y∈r,y.2=.free->∃c,env.cells.lookup y.1=some c:=λy hy=>h y (ad9 _ hy);rw [af6]
   by_cases hk:k=.free
   ·subst hk
    obtain⟨c,hc⟩:=h (n,.free) ad8 rfl
    have e:cellOf env n=pure c:=by unfold cellOf;rw [show env.cells.lookup n=some c from hc]
    simp only [beq_self_eq_true,if_true,e];show(forIn r ((n,c)::cs) _:Sem _)=_;rw [ih _ hr];simp only [iG,beq_self_eq_true,if_true];rw [show env.cells.lookup n=some c from hc];rfl
   ·have hb:(k == NameKind.free)=false:=by simpa using hk
    simp only [hb,ae2,if_false];show(forIn r cs _:Sem _)=_;rw [ih _ hr];simp only [iG,hb,ae2,if_false]
 rw [key l [] h];rfl
theorem qZ{cells:List (Str×Addr)}:∀{l:List (Str×NameKind)} {cs:List (Str×Addr)} {x:Str} {c:Addr},(∀y∈l,y.2=.free->∃c,cells.lookup y.1=some c)->
  (∀x c,cs.lookup x=some c->cells.lookup x=some c)->(iG cells l cs).lookup x=some c->cells.lookup x=some c
 | [],_,_,_,_,hs,e=>hs _ _ e
 | (n,k)::r,cs,x,c,h,hs,e=>by
  refine qZ (l:=r) (λy hy=>h y (ad9 _ hy)) ?_ e;intro z d
  by_cases hk:k=.free
  ·subst hk
   obtain⟨c',hc'⟩:=h (n,.free) ad8 rfl;have hc'':cells.lookup n=some c':=hc';simp only [beq_self_eq_true,if_true,ag3,hc'',Option.getD_some]
   cases hz:z == n with
   | true=>
    have:z=n:=by simpa using hz
    subst this;intro q;cases q;exact hc''
   | false=>exact hs z d
  ·have hb:(k == NameKind.free)=false:=by simpa using hk
   simp only [hb,ae2,if_false];exact hs z d
theorem lU{cells:List (Str×Addr)}:∀{l:List (Str×NameKind)} {cs:List (Str×Addr)} {x:Str},((x,NameKind.free)∈l\/∃c,cs.lookup x=some c)->∃c,(iG cells l cs).lookup x=some c
 | [],_,_,h=>by
  rcases h with h | h
  ·cases h
  ·exact h
 | (n,k)::r,cs,x,h=>by
  refine lU (l:=r) ?_;rcases h with h | ⟨c,h⟩
  ·rcases ab2.mp h with e | h
   ·cases e
    refine .inr ⟨(cells.lookup n).getD 0,?_⟩;simp only [beq_self_eq_true,if_true,ag3]
   ·exact .inl h
  ·by_cases hk:k=.free
   ·subst hk
    simp only [beq_self_eq_true,if_true,ag3]
    cases hz:x == n with
    | true=>exact .inr ⟨_,rfl⟩
    | false=>exact .inr ⟨c,h⟩
   ·have hb:(k == NameKind.free)=false:=by simpa using hk
    simp only [hb,ae2,if_false];exact .inr ⟨c,h⟩
theorem gh{env:Env}:∀{names:List (Str×NameKind)} {x:Str},
  (names.map λ(n,k)=>if (k == NameKind.free && env.scope.kind == .function && env.kindOf n == some .cell)then(n,NameKind.cell)else(n,k)).lookup x =
   (names.lookup x).map λk=>if (k == NameKind.free && env.scope.kind == .function && env.kindOf x == some .cell)then NameKind.cell else k
 | [],_=>rfl
 | (n,k)::r,x=>by
  have ih:=@gh env r x;show List.lookup x ((if (k == NameKind.free && env.scope.kind == .function && env.kindOf n == some .cell)=true then(n,NameKind.cell)else(n,k))::_)=_
  cases hx:x == n with
  | true=>
   have e:x=n:=by simpa using hx
   subst e
   by_cases hc:(k == NameKind.free && env.scope.kind == .function && env.kindOf x == some .cell)=true
   ·rw [if_pos hc];simp only [ag3,hx,al8];rw [if_pos hc]
   ·rw [if_neg hc];simp only [ag3,hx,al8];rw [if_neg hc]
  | false=>
   by_cases hc:(k == NameKind.free && env.scope.kind == .function && env.kindOf n == some .cell)=true
   ·rw [if_pos hc];simp only [ag3,hx];exact ih
   ·rw [if_neg hc];simp only [ag3,hx];exact ih
theorem mem_of_lookup{κ ν:Type}[BEq κ][LawfulBEq κ]:∀{l:List (κ×ν)} {x:κ} {v:ν},l.lookup x=some v->(x,v)∈l
 | [],_,_,h=>by cases h
 | (n,k)::r,x,v,h=>by
  rw [ag3]at h
  cases hx:x == n with
  | true=>
   rw [hx]at h
   have e:x=n:=by simpa using hx
   cases h;rw [e];exact ad8
  | false=>
   rw [hx]at h;exact ad9 _ (mem_of_lookup h)
structure bB(X:Cx)(scope:Scope)(js:List Nat):Prop where
 kind:scope.kind=.function
 cell:∀y∈scope.names,y.2≠.cell
 names:∀y∈scope.names,y.2=.local->scope.names.lookup y.1=some .local
 free:∀y∈scope.names,y.2=.free->X.env.kindOf y.1=some .cell\/X.env.kindOf y.1=some .free
 js:∀j∈js,scope.names.lookup (X.N.getD j "")=some .free
def wV(out:Scope)(N:List Str)(scope:Scope)(js:List Nat):Bool:=
 (scope.kind == .function) && scope.names.all (λy=>y.2 != .cell) && scope.names.all (λy=>y.2 != .local || scope.names.lookup y.1 == some .local) &&
  scope.names.all (λy=>y.2 != .free || (out.names.lookup y.1 == some .cell || out.names.lookup y.1 == some .free)) && js.all λj=>scope.names.lookup (N.getD j "") == some .free
theorem bB.of(h:wV X.env.scope X.N scope js=true):bB X scope js:=by
 simp only [wV,ai3,af7]at h;obtain⟨⟨⟨⟨h1,h2⟩,h3⟩,h4⟩,h5⟩:=h;refine⟨by simpa using h1,λy hy=>by simpa using h2 y hy,λy hy e=>?_,λy hy e=>?_,λj hj=>by simpa using h5 j hj⟩
 ·have:=h3 y hy
  rw [e]at this;simpa using this
 ·have:=h4 y hy
  rw [e]at this;simpa [Env.kindOf]using this
def pW(X:Cx)(scope:Scope)(own:List Str)(js:List Nat)(C:Addr)(s:Shared)(H:Hp)(ex:List Addr)(pn:List (Addr×Obj))(E:Value->Shared->Prop):Cx where
 prog:=X.prog
 w:=X.w
 K:=X.K
 mg:=X.mg
 base:=X.base
 A:=X.A
 N:=own++js.map λj=>X.N.getD j ""
 Zh:=s
 Z2:=H
 env:=compEnvC scope (iG X.env.cells scope.names []) C X.env
 outer:=X.stack
 stack:=X.stack
 ex:=ex
 fn:=λ_=>false
 calm:=X.calm
 pn:=pn
 xe:=E
def Zr(n:Nat)(js:List Nat)(Z:St):St:=List.replicate n none++js.map λj=>Z.getD j none
section
variable {H':Hp} {own:List Str} {C:Addr} {fp:List Addr}
theorem bB.clos(ok:bB X scope js)(I:aO X pins Z H s):∀y∈scope.names,y.2=.free->∃c,X.env.cells.lookup y.1=some c:=λy hy e=>I.ok.has y.1 (ok.free y hy e)
theorem bB.sub(ok:bB X scope js)(I:aO X pins Z H s){c:Addr}(e:(iG X.env.cells scope.names []).lookup x=some c):X.env.cells.lookup x=some c:=
 qZ (ok.clos I) (λ_ _ z=>by cases z) e
theorem bB.kindOf(ok:bB X scope js)(h:(compEnvC scope cl C X.env).kindOf x=some .cell\/(compEnvC scope cl C X.env).kindOf x=some .free):(x,NameKind.free)∈scope.names:=by
 have e:(compEnvC scope cl C X.env).kindOf x=(scope.names.lookup x).map λk=>if (k == NameKind.free && X.env.scope.kind == .function && X.env.kindOf x == some .cell)then NameKind.cell else k:=gh;rw [e]at h
 cases q:scope.names.lookup x with
 | none=>rw [q]at h;simp at h
 | some k=>
  have hm:=mem_of_lookup q
  by_cases hk:k=.free
  ·subst hk;exact hm
  ·have hb:(k == NameKind.free)=false:=by simpa using hk
   rw [q]at h;simp only [al8,hb,ah3,ae2,if_false]at h;rcases h with h | h
   ·exact absurd (Option.some.inj h) (ok.cell _ hm)
   ·exact absurd (Option.some.inj h) hk
theorem bB.isFree(ok:bB X scope js)(h:scope.names.lookup x=some .free):(compEnvC scope cl C X.env).kindOf x=some .cell\/(compEnvC scope cl C X.env).kindOf x=some .free:=by
 have e:(compEnvC scope cl C X.env).kindOf x=(scope.names.lookup x).map λk=>if (k == NameKind.free && X.env.scope.kind == .function && X.env.kindOf x == some .cell)then NameKind.cell else k:=gh;rw [e,h];simp only [al8]
 split
 ·exact .inl rfl
 ·exact .inr rfl
theorem B9(ok:bB X scope js)(I:aO X pins Z H s)(hC:s.heap.objs.size<=C)(f:∀b∈fp,m9 X pins H b)(fo:∀b∈fp,∃o,s.heap.get? b=some o):(pW X scope own js C s H fp (X.pn++pins) E).Ok where
 mod:=I.ok.mod
 kind:=ok.kind
 glob:=I.ok.glob
 blt:=I.ok.blt
 above:=hC
 inj:=λx y c e1 e2=>I.ok.inj x y c (ok.sub I e1) (ok.sub I e2)
 has:=λx h=>lU (.inl (ok.kindOf h))
 cab:=λx c h=>nomatch (show false=true from h)
 hd:=I.ok.hd
 frames:=I.ok.frames
 stk:=.inl rfl
 exf:=λb hb=>by
  obtain⟨o,e⟩:=fo b hb;obtain⟨_,_,_,_,f4,_⟩:=f b hb;exact⟨ad3 (ab3 (ac1 e) hC),λx c q=>f4 x c (ok.sub I q)⟩
 bs:=I.bs
 bsz:=ab6 I.ok.bsz I.sz
 noex:=λb o e hb=>by
  obtain⟨_,_,_,f3,_,_⟩:=f b hb;rcases f3 with z | z
  ·exact I.ok.noex b o e z
  ·exact absurd (ab3 (ac1 e) (ab6 I.ok.bsz z)) (ai0 _)
 exfs:=λb hb hs=>by
  obtain⟨_,f1,f2,_,_,_⟩:=f b hb;rcases ab2.mp (I.stkSub b hs)with e | e
  ·exact f1 e
  ·exact f2 e
 funs:=I.stack
 frf:=I.stkFree
theorem z6{s':Shared}{pins':List (Addr×Obj)}{m:Str->Option Value}(ok:bB X scope js)(I:aO X pins Z H s)(hC:s.heap.objs.size<=C)(f:∀b∈fp,m9 X pins H b)(fo:∀b∈fp,∃o,s.heap.get? b=some o)
  (hos:s'.os=s.os) (hg:AllBare s'.gens) (u:Un (u7 X.stack) fp H H' s.heap s'.heap) (hn:s'.heap.Ns C m) (hok:jT X.prog X.w H' s'.heap) (hCf:H' C=none)
  (hp:∀p∈pins',s'.heap.get? p.1=some p.2/\H' p.1=none/\p.1≠C/\p.1∉u7 X.stack/\∀v,p.2.data≠.cell v) :
  aO (pW X scope own js C s H fp (X.pn++pins) E) pins' (Zr own.length js Z) H' s':=by
 have Ok:=B9 (own:=own) (E:=E) ok I hC f fo
 have cellAt:∀x c,X.env.cells.lookup x=some c->∀v,s.heap.IsCell c v->s'.heap.IsCell c v:=λx c e v ⟨o,ho,hd⟩=>by
  have nx:c∉fp:=λz=>by
   obtain⟨_,_,_,_,f4,_⟩:=f c z;exact f4 x c e rfl
  obtain⟨sl,q⟩:=u.any ho (I.freeC x c e) nx;exact⟨_,q,hd⟩
 refine⟨Ok,hos,hg,u,⟨m,hn,?_⟩,?_,hCf,?_,?_,hok,?_⟩
 ·intro i x v e1 e2 _
  have e1':(own++js.map λj=>X.N.getD j "")[i]?=some x:=e1;have e2':(List.replicate own.length none++js.map λj=>Z.getD j none)[i]?=some (some v):=e2
  by_cases hi:i < own.length
  ·rw [ab7 (by simpa using hi),List.getElem?_replicate]at e2'
   split at e2'<;>cases e2'
  ·rw [ac5 (),aa4]at e1'
   rw [ac5 (by simpa using al2.mp hi),aa4,List.length_replicate]at e2'
   cases hj:js[i - own.length]? with
   | none=>rw [hj]at e1';cases e1'
   | some j=>
    rw [hj]at e1' e2';have ex:X.N.getD j ""=x:=Option.some.inj e1';have ev:Z.getD j none=some v:=Option.some.inj e2';have hjm:j∈js:=ac0 hj
    have hjl:j < Z.length:=by
     apply Classical.byContradiction;intro h;rw [ab5,aj1 (al2.mp h)]at ev;cases ev
    have Yv:Z[j]?=some (some v):=by
     rw [ab5,aa2 hjl]at ev;rw [aa2 hjl];exact congrArg some ev
    have hNl:j < X.N.length:=by rw [<-I.len];exact hjl
    have hN:X.N[j]?=some x:=by
     rw [ab5,aa2 hNl]at ex;rw [aa2 hNl];exact congrArg some ex
    have hfr:scope.names.lookup x=some .free:=by rw [<-ex];exact ok.js j hjm
    have hk:=ok.free _ (mem_of_lookup hfr) rfl;obtain⟨m0,_,hl⟩:=I.loc;obtain⟨w',r,l⟩:=hl j x v hN Yv (.inr hk);refine⟨w',r,?_⟩;rcases l with⟨hk',_⟩ | ⟨_,c,hc,hz⟩
    ·have hk'':X.env.kindOf x=some .local:=hk'
     rcases hk with q | q
     ·exact absurd (hk''.symm.trans q) (by intro z;cases z)
     ·exact absurd (hk''.symm.trans q) (by intro z;cases z)
    ·obtain⟨c',hc'⟩:∃c',(iG X.env.cells scope.names []).lookup x=some c':=lU (.inl (mem_of_lookup hfr))
     have e:=ok.sub I hc';rw [hc]at e;cases e;exact .inr ⟨ok.isFree hfr,c,hc',cellAt x c hc _ hz⟩
 ·intro x c e
  obtain⟨v,z⟩:=I.cell x c (ok.sub I e);exact⟨v,cellAt x c (ok.sub I e) v z⟩
 ·intro x c e
  obtain⟨v,o,ho,_⟩:=I.cell x c (ok.sub I e);refine u.free c o ho (I.freeC x c (ok.sub I e)) λz=>?_;obtain⟨_,_,_,_,f4,_⟩:=f c z;exact f4 x c (ok.sub I e) rfl
 ·intro p hpm
  rcases ac4.mp hpm with h | h
  ·have h':p∈X.pn++pins:=h
   obtain⟨e,n,ne,nf,d⟩:=I.pin p h'
   have nfr:p.1∉u7 X.stack:=λz=>by
    rcases ab2.mp (I.stkSub _ z)with q | q
    ·exact ne q
    ·exact nf q
   have nex:p.1∉fp:=λz=>by
    obtain⟨_,_,_,_,_,f5⟩:=f p.1 z;exact f5 p h' rfl
   exact⟨u.keep p.1 p.2 e n nfr nex,u.free p.1 p.2 e n nex,ad3 (ab3 (ac1 e) hC),nfr,d⟩
  ·exact hp p h
 ·show(List.replicate own.length none++js.map λj=>Z.getD j none).length=(own++js.map λj=>X.N.getD j "").length
  simp
theorem aO.track{D:Addr}{ys:List V}{its:List Value}{n:Nat}(I:aO X pins Z H s)(hn:H D=none)(ho:s.heap.get? D=some { cls:=.type "list",data:=.seq its.toArray n })(r:aX ys its)(hz:ys.length<=sizeLine)
  (h1:D∈X.ex\/X.Zh.heap.objs.size<=D) (hL:D≠X.env.locals) (h2:∀x c,X.env.cells.lookup x=some c->c≠D) (h3:∀p∈X.pn++pins,p.1≠D):aO X pins Z (upd H D (.lst ys)) s:=by
 have ne:∀b o,H b=some o->b≠D:=λb o e=>ao e hn
 refine I.step (h':=s.heap) (g':=s.gens) (d':=s.drawn) (t':=s.toks) (ch:=[D]) (λb hb=>?_) (λb o _ _ _ e _=>e) (λb o _ _ _ e _=>⟨o.slots,e⟩) (λb o hc _ n=>?_)
  (λb o _ e=>⟨o,e⟩) (λb xs e=>?_) (λb o u e=>?_) (λb ps e=>⟨#[],?_⟩) (λ_ z=>z) (λb u e=>?_) I.bare
 ·have e:b=D:=by simpa using hb
  subst e;exact⟨h1,hL,h2,h3⟩
 ·rw [aj (λz=>hc (by simp [z]))];exact n
 ·rw [aj (ne _ _ e)];exact e
 ·rw [aj (ne _ _ e)];exact e
 ·rw [aj (ne _ _ e),e];simp
 ·by_cases hb:b=D
  ·subst hb
   rw [ae]at e;cases e;exact⟨hz,its,n,r,ho⟩
  ·rw [aj hb]at e
   exact(I.hok b u e).stay (λc v _ q=>q) (λc q=>by rw [aj (ne _ _ q)];exact q) λc xs q=>by rw [aj (ne _ _ q)];exact q
end
structure Ha(X:Cx)(pins:List (Addr×Obj))(C:Addr):Prop where
 ne:C≠X.env.locals
 old:C∈X.ex\/X.Zh.heap.objs.size<=C
 cells:∀x c,X.env.cells.lookup x=some c->c≠C
 pin:∀p∈X.pn++pins,p.1≠C
theorem Ha.go{C:Addr}{h':Heap}(o:Ha X pins C)(I:aO X pins Z H s)(hn:H C=none)(sb:Heap.SameBut C s.heap h'):aO X pins Z H { s with heap:=h' }:=
 I.turned (t':=s.toks) (λb q hb e=>(sb.2 b hb).trans e) hn o.ne o.old o.cells o.pin
section
variable {prog:Program} {A:Around} {R:Result->Shared->Prop}
theorem tO{elt target iter:Expr}{ifs:List Expr}{it acc:Value}(I:Nat->Shared->Prop)
  (turn:∀n s,I n s->wpAny (model prog w) A (pyNext it) (λr Zg=>match r with
   | none=>R (.ok .next) Zg
   | some v=>wpAny (model prog w) A (letOwnedTupleGo target it v) (λ_ Yn=>wpAny (model prog w) A (assign target env v) (λ_ Zw=>
     wpAny (model prog w) A (forIn ifs true λc r=>if r=true then do let ok <-isTrue c env (eval c env);pure (ForInStep.yield ok)else pure (ForInStep.yield r)) (λok Zl=>
      if ok=true then wpAny (model prog w) A (eval elt env) (λx Z9=>
       wpAny (model prog w) A (call (.builtin "list.append") [acc,x]) (λ_ Yo=>∃m,m < n/\I m Yo) (notedBy (model prog w) A env λe s'=>R (.error e) s') Z9) (notedBy (model prog w) A env λe s'=>R (.error e) s') Zl
      else ∃m,m < n/\I m Zl) (notedBy (model prog w) A env λe s'=>R (.error e) s') Zw) (notedBy (model prog w) A env λe s'=>R (.error e) s') Yn) (notedBy (model prog w) A env λe s'=>R (.error e) s') Zg)
    (notedBy (model prog w) A env λe s'=>R (.error e) s') s)
  (n:Nat) (h:I n s) :
  codeAny (model prog w) A (.compLoop (.ListComp elt [⟨target,iter,ifs,0⟩] scope pos) 0 it acc env) R s:=by
 refine codeAny_loop rfl I (λn s hI=>?_) n h;show wpAny _ A ((compTurn (.ListComp elt [⟨target,iter,ifs,0⟩] scope pos) 0 it acc env).onRaise (λx=>do noteFrame x env;theTreesLotGoes x)) _ _ s;refine wpAny_noted ?_;rw [compTurn_list];refine aa3 (an6 (aa3 (af3 (turn n s hI) (λr Zg Zt=>?_) λ_ _ h'=>h')))
 cases r with
 | none=>exact ab0 Zt
 | some v=>
  refine aa3 (af3 Zt (λ_ Yn Yw=>?_) λ_ _ h'=>h');refine aa3 (af3 Yw (λ_ Zw Zs=>aa3 (af3 Zs (λok Zl Z0=>?_) λ_ _ h'=>h')) λ_ _ h'=>h')
  cases ok with
  | false=>exact ab0 ⟨rfl,Z0⟩
  | true=>
   exact aa3 (aa3 (af3 Z0 (λx Z9 Zk=>aa3 (af3 Zk (λ_ Yo Zj=>ab0 (ab0 ⟨rfl,Zj⟩)) λ_ _ h'=>h')) λ_ _ h'=>h'))
end
def GH(X:Cx)(ifs:List Expr)(t:TT):Prop:=
 ∀(pins:List (Addr×Obj)) (s:Shared) (Z:St) (H:Hp) (Q:Bool->Hp->Prop),aO X pins Z H s->t Z H Q->
  wpAny (model X.prog X.w) X.A (forIn ifs true λc r=>if r=true then do let ok <-isTrue c X.env (eval c X.env);pure (ForInStep.yield ok)else pure (ForInStep.yield r)) (TP X pins Z Q) X.xe s
def Bo:TT:=λ_ H Q=>Q true H
theorem cn:GH X [] Bo:=λpins s Z H Q I h=>wpAny_tests_nil ⟨H,I,h⟩
def E5(n:Nat)(js:List Nat)(wi:TI)(g:TG)(tt:TT)(te:TE)(Z:St)(H:Hp)(F:List V->Hp->Prop):Prop:=wi Z H λJ H1=>∃W:Nat->Nat->List V->Hp->Prop,(∃m,W 0 m [] H1)/\∀i m ys H,W i m ys H->
 (J.stop i H/\F ys H)\/
 (J.go i H/\ys.length < sizeLine/\∃N:List V->Hp->Prop,(∀ys' H',N ys' H'->∃m',m' < m/\W (i+1) m' ys' H')/\∀x H',J.yld i H x H'->g x (Zr n js Z) H' λZf H2=>tt Zf H2 λb H3=>if b=true then te Zf H3 λy H4=>N (ys++[y]) H4 else N ys H3)
def Br(n:Nat)(js:List Nat)(wi:TI)(g:TG)(tt:TT)(te:TE):TE:=λZ H Q=>E5 n js wi g tt te Z H λys H=>∀p,H p=none->Q (.ref p) (upd H p (.lst ys))
section
variable {own:List Str} {iter elt:Expr} {ifs:List Expr} {wi:TI} {tt:TT} {te:TE}
abbrev qR:Value->Shared->Prop:=λ_ _=>False
theorem nX{H2:Hp}{s2:Shared}{it:Addr}{fp:List Addr}{tn:Nat->Heap->Prop}{J:It}{RR:Value->Addr->Result->Shared->Prop}
  (hc:X.calm=true) (ok:bB X scope js)
  (hg:∀C s H ex pn,PG (pW X scope own js C s H ex pn qR) tg g) (ht:∀C s H ex pn,GH (pW X scope own js C s H ex pn qR) ifs tt) (he:∀C s H ex pn,PE (pW X scope own js C s H ex pn qR) elt te)
  (I2:aO X pins Z H2 s2) (T:rX X.prog X.w X.K tg J fp it tn) (st2:tn 0 s2.heap) (f2:∀b∈fp,m9 X pins H2 b) {W:Nat->Nat->List V->Hp->Prop} {m0:Nat} (w0:W 0 m0 [] H2)
  (turn:∀i m ys H,W i m ys H->(J.stop i H/\F ys H)\/
   (J.go i H/\ys.length < sizeLine/\∃N:List V->Hp->Prop,(∀ys' H',N ys' H'->∃m',m' < m/\W (i+1) m' ys' H')/\∀x H',J.yld i H x H'->g x (Zr own.length js Z) H' λZf H2=>tt Zf H2 λb H3=>if b=true then te Zf H3 λy H4=>N (ys++[y]) H4 else N ys H3))
  (hRR:∀(D C:Addr) (s':Shared) (H':Hp) (ys:List V) (m:Str->Option Value),F ys H'->H' D=none->aO X pins Z (upd H' D (.lst ys)) s'->s'.heap.Ns C m->
   Ha X pins C->(upd H' D (.lst ys)) C=none->RR (.ref D) C (.ok .next) s') :
  wpAny (model X.prog X.w) X.A (newList []) (λacc Zl=>wpAny (model X.prog X.w) X.A (newFunctionEnv scope X.env.globals (iG X.env.cells scope.names []) [] X.env.qual none .none (some X.env)) (λcenv Z9=>
   codeAny (model X.prog X.w) X.A (.compStart (.ListComp elt [⟨tg,iter,ifs,0⟩] scope pos) 0 (.ref it) acc { cenv with scope:=relabel scope X.env }) (RR acc cenv.locals) Z9) E Zl) E s2:=by
 refine ag8 (wpAny_newFunctionEnv ok.cell (by intro y hy;simp at hy) (λZt Ya Z4=>?_) ok.kind);dsimp only at Ya Z4 |-;generalize hP:s2.heap.push { cls:=.type "list",dict:=none,data:=.seq ([]:List Value).toArray }=P2 at Ya Z4 |-
 have hC:P2.objs.size=s2.heap.objs.size+1:=by rw [<-hP,ae9]
 have hDC:s2.heap.objs.size≠P2.objs.size:=by rw [hC];exact ad3 (aj8 _)
 have hCle:s2.heap.objs.size<=P2.objs.size:=by rw [hC];exact Nat.le_succ _
 have below:∀b,b < s2.heap.objs.size->b≠P2.objs.size/\b≠s2.heap.objs.size:=λb hb=>⟨by rw [hC];exact ad3 (Nat.lt_succ_of_lt hb),ad3 hb⟩;have old:∀b o,s2.heap.get? b=some o->Zt.get? b=some o:=λb o e=>Z4.extBut b o (below b (ac1 e)).1 (aa5 _ (hP▸aa5 _ e));have hacc:Zt.get? s2.heap.objs.size=some { cls:=.type "list",data:=.seq ([]:List Value).toArray 0 }:=Z4.extBut _ _ hDC (aa5 _ (hP▸ab9 _ rfl));generalize hDe:s2.heap.objs.size=D at hacc hDC hCle hC below;generalize hCe:P2.objs.size=C at Ya Z4 hDC hCle hC below |-
 have fo:∀b∈fp,∃o,s2.heap.get? b=some o:=λb hb=>let ⟨o,e,_⟩:=T.obj _ _ st2 b hb;⟨o,e⟩
 have fD:∀b∈fp,b≠D/\b≠C:=λb hb=>by
  obtain⟨o,e⟩:=fo b hb
  have:=below b (hDe▸ac1 e)
  exact⟨this.2,this.1⟩
 have H2C:H2 C=none:=I2.hok.fresh (by rw [hDe];exact hCle);have H2D:H2 D=none:=I2.hok.fresh (by rw [hDe];exact aa9 _)
 have stkD:D∉u7 X.stack:=λz=>by
  have h1:=I2.nofs (a:=D) (by rw [hDe];exact aa9 _);rcases ab2.mp (I2.stkSub _ z)with q | q
  ·have:=I2.lt
   rw [<-q,hDe]at this;exact ai0 _ this
  ·exact h1 q
 have neLoc:D≠X.env.locals/\C≠X.env.locals:=by
  have h1:=I2.lt;rw [hDe]at h1;exact⟨aj7 h1,aj7 (ab3 h1 hCle)⟩
 have cellLt:∀x c,X.env.cells.lookup x=some c->c < D:=λx c e=>by
  obtain⟨v,z⟩:=I2.cell x c e;rw [<-hDe];exact z.lt
 have pinLt:∀p∈X.pn++pins,p.1 < D:=λp hp=>by rw [<-hDe];exact ac1 (I2.pin p hp).1
 have hs0:X.Zh.heap.objs.size<=D:=by rw [<-hDe];exact I2.sz
 have start:∀{s':Shared} {H':Hp} {m:Str->Option Value} {o:Obj},s'.os=s2.os->AllBare s'.gens->Un (u7 X.stack) fp H2 H' s2.heap s'.heap->s'.heap.Ns C m->jT X.prog X.w H' s'.heap->H' C=none->s'.heap.get? D=some o->H' D=none->(∀v,o.data≠.cell v)->
   aO (pW X scope own js C s2 H2 fp (X.pn++pins) qR) [(D,o)] (Zr own.length js Z) H' s':=λ{s' H' m o} a1 a2 a3 a4 a5 a6 a7 a8 a9=>
  z6 ok I2 (by rw [hDe];exact hCle) f2 fo a1 a2 a3 a4 a5 a6 λp hp=>by
   have e:p=(D,o):=by simpa using hp
   subst e;exact⟨a7,a8,hDC,stkD,a9⟩
 have fpC:∀{H':Hp} {o:Obj},(∀b∈fp,H' b=none)->∀b∈fp,m9 (pW X scope own js C s2 H2 fp (X.pn++pins) qR) [(D,o)] H' b:=λ{H' o} hn b hb=>by
  obtain⟨_,q1,q2,q3,q4,q5⟩:=f2 b hb;refine⟨hn b hb,(fD b hb).2,λz=>?_,.inl hb,λx c e=>q4 x c (ok.sub I2 e),λp hp=>?_⟩
  ·rcases ab2.mp (I2.stkSub b z)with e | e
   ·exact q1 e
   ·exact q2 e
  ·rcases ac4.mp hp with h | h
   ·exact q5 p h
   ·have e:p=(D,o):=by simpa using h
    subst e;exact(fD b hb).1.symm
 have nocell:∀(its:Array Value) (n:Nat) (v:Option Value),({ cls:=.type "list",data:=.seq its n }:Obj).data≠.cell v:=λ_ _ _ z=>by cases z
 have loop:∀Zl:Shared,Zl={ s2 with heap:=Zt,toks:=s2.toks+([]:List (Str×Value)).length }->
   codeAny (model X.prog X.w) X.A (.compLoop (.ListComp elt [⟨tg,iter,ifs,0⟩] scope pos) 0 (.ref it) (.ref D) (compEnvC scope (iG X.env.cells scope.names []) C X.env)) (RR (.ref D) C) Zl:=by
  rintro Zl rfl
  refine tO (λn s'=>∃i ys its k H',aO (pW X scope own js C s2 H2 fp (X.pn++pins) qR) [(D,{ cls:=.type "list",data:=.seq (its:List Value).toArray k })] (Zr own.length js Z) H' s'/\tn i s'.heap/\(∀b∈fp,H' b=none)/\
   W i n ys H'/\aX ys its/\ys.length<=sizeLine) ?_ m0 ⟨0,[],[],0,H2,start rfl I2.bare (Un.kept old) Ya (I2.hok.kept old) H2C hacc H2D (nocell _ _),T.keep _ _ _ st2 (λb _ o e=>old b o e),λb hb=>(f2 b hb).1,w0,.nil,ac2 _⟩
  rintro n s3 ⟨i,ys,its,k,H3,I3,st3,fr3,w3,rv,hz⟩;rcases turn i n ys H3 w3 with⟨stop,q⟩ | ⟨go,hlt,N,hN,step⟩
  ·refine af3 (T.done (pW X scope own js C s2 H2 fp (X.pn++pins) qR) rfl rfl rfl hc i _ s3 _ H3 qR I3 (fpC fr3) st3 stop) (λr s4 zq0=>?_) λ_ _ f=>f.elim
   obtain⟨hr,I4⟩:=zq0;subst hr;obtain⟨zD,nD,_⟩:=I4.pin (D,_) (ac8 _ ad8);obtain⟨m,hm,_⟩:=I4.loc;have I5:aO X pins Z H3 s4:=I2.call' I4.os I4.base I4.hok I4.bare λb hb=>⟨(f2 b hb).2.2.2.1,(f2 b hb).2.1,(f2 b hb).2.2.2.2.1,(f2 b hb).2.2.2.2.2⟩;have I6:aO X pins Z (upd H3 D (.lst ys)) s4:=I5.track nD zD rv hz (.inr hs0) neLoc.1 (λx c e=>ad3 (cellLt x c e)) λp hp=>ad3 (pinLt p hp);have nC:H3 C=none:=I4.free;exact hRR D C s4 H3 ys m q nD I6 hm ⟨neLoc.2,.inr (ab6 hs0 hCle),λx c e=>ad3 (ab3 (cellLt x c e) hCle),λp hp=>ad3 (ab3 (pinLt p hp) hCle)⟩ (by rw [aj (Ne.symm hDC)];exact nC)
  ·refine af3 (T.item (pW X scope own js C s2 H2 fp (X.pn++pins) qR) rfl rfl rfl hc i _ s3 _ H3 qR I3 (fpC fr3) st3 go) (λr s4 zq0=>?_) λ_ _ f=>f.elim
   obtain⟨u,hr,h4⟩:=zq0;subst hr;refine af3 h4 (λ_ s5 zq0=>?_) λ_ _ f=>f.elim;obtain⟨x,H5,I5,r5,y5,st5,fr5⟩:=zq0;have I5':=I5.pinned (fpC fr5) (T.obj _ _ st5);refine af3 (hg _ _ _ _ _ _ s5 _ H5 x u _ I5' r5 (step x H5 y5)) (λ_ s6 zq0=>?_) λ_ _ f=>f.elim;obtain⟨Zz,H6,I6,q6⟩:=zq0;refine af3 (ht _ _ _ _ _ _ s6 Zz H6 _ I6 q6) (λb s7 zq0=>?_) λ_ _ f=>f.elim;obtain⟨H7,I7,q7⟩:=zq0
   have back:∀{s8:Shared} {H8:Hp} {m':Nat} {ys':List V} {its':List Value} {k':Nat},aO (pW X scope own js C s2 H2 fp (X.pn++pins) qR) [] Zz H8 s8->s8.heap.get? D=some { cls:=.type "list",data:=.seq its'.toArray k' }->H8 D=none->
     (∀b∈fp,∀o,s5.heap.get? b=some o->s8.heap.get? b=some o)->(∀b∈fp,H8 b=none)->W (i+1) m' ys' H8->aX ys' its'->ys'.length<=sizeLine->
     ∃i ys its k H',aO (pW X scope own js C s2 H2 fp (X.pn++pins) qR) [(D,{ cls:=.type "list",data:=.seq (its:List Value).toArray k })] (Zr own.length js Z) H' s8/\tn i s8.heap/\(∀b∈fp,H' b=none)/\W i m' ys H'/\aX ys its/\ys.length<=sizeLine:=
    λ{s8 H8 m' ys' its' k'} J zD nD kf fr w' rv' hz'=>by
     obtain⟨m,hm,_⟩:=J.loc;exact⟨i+1,ys',its',k',H8,start J.os J.bare J.base hm J.hok J.free zD nD (nocell _ _),T.keep _ _ _ st5 kf,fr,w',rv',hz'⟩
   cases b with
   | false=>
    rw [if_neg aa6];rw [if_neg aa6]at q7;obtain⟨m',hm',w'⟩:=hN _ _ q7;have pD:=I7.pin (D,_) (ac8 _ (ah7 _ ad8));refine⟨m',hm',back (I7.pins_of (pins':=[]) λp hp=>nomatch hp) pD.1 pD.2.1 (λb hb o e=>(I7.pin (b,o) (ac8 _ (ac8 _ (eY hb e)))).1) (λb hb=>?_) w' rv hz⟩;obtain⟨o,e,_⟩:=T.obj _ _ st5 b hb;exact(I7.pin (b,o) (ac8 _ (ac8 _ (eY hb e)))).2.1
   | true=>
    rw [if_pos rfl];rw [if_pos rfl]at q7;refine af3 (he _ _ _ _ _ _ s7 Zz H7 _ I7 q7) (λyv s8 zq0=>?_) λ_ _ f=>f.elim;obtain⟨y,H8,I8,r8,q8⟩:=zq0;obtain⟨m',hm',w'⟩:=hN _ _ q8;have pD:=I8.pin (D,_) (ac8 _ (ah7 _ ad8));refine append_at (hsz:=by rw [ab1,<-rv.length];exact hz) pD.1 λh9 sb9 z9=>?_;have I8':aO (pW X scope own js C s2 H2 fp (X.pn++pins) qR) [] Zz H8 s8:=I8.pins_of λp hp=>nomatch hp
    have I9:aO (pW X scope own js C s2 H2 fp (X.pn++pins) qR) [] Zz H8 { s8 with heap:=h9 }:=I8'.turned (t':=s8.toks) (it:=D) (λb o hb e=>(sb9.2 b hb).trans e) pD.2.1 hDC (.inr (by show s2.heap.objs.size<=D;rw [hDe];exact aa9 _))
     (λx c e=>ad3 (cellLt x c (ok.sub I2 e))) λp hp=>by
      rcases ac4.mp hp with h | h
      ·exact ad3 (pinLt p h)
      ·cases h
    refine⟨m',hm',back (its':=its++[yv]) (k':=k+1) I9 (by rw [z9];simp) pD.2.1 (λb hb o e=>(sb9.2 b (fD b hb).1).trans (I8.pin (b,o) (ac8 _ (ac8 _ (eY hb e)))).1) (λb hb=>?_) w' (rv.append (.cons r8 .nil)) (by simp;omega)⟩;obtain⟨o,e,_⟩:=T.obj _ _ st5 b hb;exact(I8.pin (b,o) (ac8 _ (ac8 _ (eY hb e)))).2.1
 exact codeAny_compStart_list (loop _ rfl) (T.self X.A 0 _ _ _ (T.keep _ _ _ st2 (λb _ o e=>old b o e)) (loop _ rfl))
theorem cX(hc:X.calm=true)(hi:PI X tg iter wi)(ok:bB X scope js)
  (hg:∀C s H ex pn,PG (pW X scope own js C s H ex pn qR) tg g) (ht:∀C s H ex pn,GH (pW X scope own js C s H ex pn qR) ifs tt) (he:∀C s H ex pn,PE (pW X scope own js C s H ex pn qR) elt te)
  (hs:∀x,foldedSetIterable iter X.env x=pure x:=by intro _;rfl):PE X (.ListComp elt [⟨tg,iter,ifs,0⟩] scope pos) (Br own.length js wi g tt te):=by
 intro pins s Z H Q I h;rw [eval_ListComp];refine wpAny_comprehension_free (use:=none) rfl hs (jO (ok.clos I)) ok.kind ok.names (cW (hi pins s Z H _ I h) λv s1 h1=>cW h1 λitv s2 h2=>?_);obtain⟨it,fp,tn,J,H2,e,I2,T,st2,f2,W,⟨m0,w0⟩,turn⟩:=h2;subst e;refine nX (RR:=λacc C=>compPost (model X.prog X.w) X.A X.xe none (EP X pins Z Q) acc C) hc ok hg ht he I2 T st2 f2 w0 turn ?_;intro D C s' H' ys m q nD I6 hm o nC;exact⟨m,hm,λh' sb=>⟨.ref D,_,o.go I6 nC sb,rfl,q D nD⟩⟩
theorem ib{i:Nat}{py spos:Pos}(hN:X.N.Nodup)(hix:X.N[i]?=some x)(hx:Fn X.env.scope x)(hc:X.calm=true)(hi:PI X tg iter wi)(ok:bB X scope js)
  (hg:∀C s H ex pn,PG (pW X scope own js C s H ex pn qR) tg g) (ht:∀C s H ex pn,GH (pW X scope own js C s H ex pn qR) ifs tt) (he:∀C s H ex pn,PE (pW X scope own js C s H ex pn qR) elt te)
  (hsw:swapsWith (.ListComp elt [⟨tg,iter,ifs,0⟩] scope pos) (some (.Name x py)) spos.line X.env=pure true)
  (hf:X.fn x=true\/X.env.scope.names.lookup x=some .local:=by first | exact .inl rfl | exact .inr rfl | assumption)
  (hs:∀x,foldedSetIterable iter X.env x=pure x:=by intro _;rfl):PS X (.Assign [.Name x py] (.ListComp elt [⟨tg,iter,ifs,0⟩] scope pos) spos) (wC (Br own.length js wi g tt te) (iH i)):=by
 intro pins s Z H Dd I h;rw [exec_Assign_Name_used _ _ _ _ hsw];refine aa3 (an6 (aa3 ?_));show wpAny _ X.A (do let _ <-comprehension (.ListComp elt [⟨tg,iter,ifs,0⟩] scope pos) scope X.env _ (newList []) false (eval iter X.env) (some (assign (.Name x py) X.env))) _ _ s
 refine aa3 (af3 (wpAny_comprehension_free (use:=some (assign (.Name x py) X.env)) (Q:=λ_ s'=>SP X pins Dd .next s') rfl hs (jO (ok.clos I)) ok.kind ok.names
  (cW (hi pins s Z H _ I h) λv s1 h1=>cW h1 λitv s2 h2=>?_)) (λ_ s' hq=>ab0 (ab0 hq)) λ_ _ e=>e)
 obtain⟨it,fp,tn,J,H2,e,I2,T,st2,f2,W,⟨m0,w0⟩,turn⟩:=h2;subst e;refine nX (RR:=λacc C=>compPost (model X.prog X.w) X.A X.xe (some (assign (.Name x py) X.env)) (λ_ s'=>SP X pins Dd .next s') acc C) hc ok hg ht he I2 T st2 f2 w0 turn ?_;intro D C s' H' ys m q nD I6 hm o nC;show wpAny _ X.A (assign (.Name x py) X.env (.ref D)) _ _ _;refine wpAny_assign_Name (rL I6 hN hix hx (v:=.ref D) rfl (λs2' I7 zq0=>?_) hf);obtain⟨a,sa,ha⟩:=zq0
 have hCa:C≠a:=by
  rcases ha with e | e
  ·rw [e];exact o.ne
  ·exact λz=>o.cells x a e z.symm
 exact⟨m,hm.sameBut sa hCa,λh' sb=>⟨_,_,o.go I7 nC sb,q D nD⟩⟩
end
def BP(X:Cx)(tg:Expr)(r:V->Hp->(It->Hp->Prop)->Prop):Prop:=
 ∀(pins:List (Addr×Obj)) (s:Shared) (Z:St) (H:Hp) (x:V) (v:Value) (R:It->Hp->Prop),aO X pins Z H s->aS x v->r x H R->
  wpAny (model X.prog X.w) X.A (pyIter v) (FA X pins Z tg R) X.xe s
def BQ(z:Str):It:=⟨λi _=>i < z.length,λi H x H'=>H'=H/\∃c,z.cps[i]?=some c/\x=.str ⟨#[c]⟩,λi _=>i=z.length⟩
theorem rQ{P:Program}{A:Around}(hh:A.handled=none)(I:Addr)(z:Str)(t:Tok){ty:String}(hty:ty="str_ascii_iterator"\/ty="str_iterator"):
  Walks P w A I [I] [I] z.cps.size (SignAt z) (λi h=>h.IsStrIter I ty z t i):=by
 rcases hty with e | e
 ·subst e;exact Walks.strAscii hh I z t
 ·subst e;exact Walks.strWide hh I z t
theorem BB{P:Program}(z:Str)(t:Tok)(it:Addr){ty:String}(hty:ty="str_ascii_iterator"\/ty="str_iterator"):
  rX P w K tg (BQ z) [it] it (λi h=>h.IsStrIter it ty z t i) where
 mem:=by simp
 obj:=λi h st b hb=>by
  have e:b=it:=by simpa using hb
  subst e;obtain⟨o,e,c,d⟩:=st;exact⟨o,e,λv z=>by rw [d]at z;cases z⟩
 keep:=λi h h' st k=>by
  obtain⟨o,e,r⟩:=st;exact⟨o,k it (by simp) o e,r⟩
 item:=by
  intro X hP hw hK hc i pins s Z H E I hf st hg;subst hP hw hK;obtain⟨f0,f1,f2,f3,f4,f5⟩:=hf it (by simp);refine(rQ (I.ok.hd hc) it z t hty).item i s _ _ hg st λv h' tk hv st' kk=>?_;obtain⟨c,u,hcz,rfl⟩:=hv;have I1:aO X pins Z H { s with heap:=h',toks:=tk }:=I.turned (λb o hb e=>kk b o (by simpa using hb) e) f0 f1 f3 f4 f5;obtain⟨o,e,cl,d⟩:=id st'
  refine⟨_,rfl,tT (s:={ s with heap:=h',toks:=tk }) (n:=ty) e cl d (by rcases hty with q | q<;>(subst q;decide)) ⟨.str ⟨#[c]⟩,H,I1,⟨u,rfl⟩,⟨rfl,c,hcz,rfl⟩,st',λb hb=>(hf b hb).1⟩⟩
 done:=by
  intro X hP hw hK hc i pins s Z H E I hf st hg;subst hP hw hK;obtain⟨f0,f1,f2,f3,f4,f5⟩:=hf it (by simp);have e:i=z.length:=hg;subst e;exact(rQ (I.ok.hd hc) it z t hty).done s _ _ st λh' tk kk=>⟨rfl,I.turned (λb o hb e=>kk b o (by simpa using hb) e) f0 f1 f3 f4 f5⟩
 self:=λA i s Q E st h=>by
  rcases hty with e | e
  ·subst e;exact wpAny_pyIter_striter_ascii st h
  ·subst e;exact wpAny_pyIter_striter_wide st h
theorem BP.or{r':V->Hp->(It->Hp->Prop)->Prop}(h:BP X tg r)(h':BP X tg r'):BP X tg (λx H R=>r x H R\/r' x H R):=by
 intro pins s Z H x v R I rx q;rcases q with q | q
 ·exact h pins s Z H x v R I rx q
 ·exact h' pins s Z H x v R I rx q
theorem it_list:BP X tg (λx H R=>∃a,x=.ref a/\(∃xs,aJ X.K H a xs)/\R (zd X.K a) H):=by
 rintro pins s1 Z H1 x v R I1 r1 ⟨a,e,⟨xs,hq⟩,q⟩;subst e;cases r1;obtain⟨its,rv,p,hz⟩:=I1.list hq;refine an2 p.isList ?_;refine⟨s1.heap.objs.size,[s1.heap.objs.size],_,_,H1,rfl,I1.kept (t':=s1.toks) λb o e=>aa5 _ e,y3 a _,⟨_,ab9 _ rfl,rfl,rfl⟩,λb hb=>?_,q⟩
 have e:b=s1.heap.objs.size:=by simpa using hb
 subst e;exact I1.fpOk (aa9 _) (I1.hok.fresh (aa9 _))
theorem it_tup:BP X tg (λx H R=>∃a,x=.ref a/\(∃xs,cI X.K H a xs)/\R (DE X.K a) H):=by
 rintro pins s1 Z H1 x v R I1 r1 ⟨a,e,⟨xs,hq⟩,q⟩;subst e;cases r1;obtain⟨its,rv,p,hz⟩:=I1.tuple hq;refine wpAny_pyIter_tuple (show s1.heap.IsTuple a its.toArray from p) ?_;refine⟨s1.heap.objs.size,[s1.heap.objs.size],_,_,H1,rfl,I1.kept (t':=s1.toks) λb o e=>aa5 _ e,wL a _,⟨_,ab9 _ rfl,rfl,rfl⟩,λb hb=>?_,q⟩
 have e:b=s1.heap.objs.size:=by simpa using hb
 subst e;exact I1.fpOk (aa9 _) (I1.hok.fresh (aa9 _))
theorem Ek:BP X tg (λx H R=>∃z,x=.str z/\R (BQ z) H):=by
 rintro pins s1 Z H1 x v R I1 r1 ⟨z,e,q⟩;subst e;obtain⟨t,rfl⟩:=r1
 have fin:∀(o:Obj) (ty:String),(ty="str_ascii_iterator"\/ty="str_iterator")->(s1.heap.push o).IsStrIter s1.heap.objs.size ty z t 0->FA X pins Z tg R (.ref s1.heap.objs.size) { s1 with heap:=s1.heap.push o }:=λo ty hty st=>by
  refine⟨s1.heap.objs.size,[s1.heap.objs.size],_,_,H1,rfl,I1.kept (t':=s1.toks) λb o e=>aa5 _ e,BB z t _ hty,st,λb hb=>?_,q⟩
  have e:b=s1.heap.objs.size:=by simpa using hb
  subst e;exact I1.fpOk (aa9 _) (I1.hok.fresh (aa9 _))
 cases ha:z.cps.all (· < 128)
 ·exact wpAny_pyIter_wide ha (fin _ _ (.inr rfl) ⟨_,ab9 _ rfl,rfl,rfl⟩)
 ·exact wpAny_pyIter_ascii ha (fin _ _ (.inl rfl) ⟨_,ab9 _ rfl,rfl,rfl⟩)
def Dj(K:Frag):V->Hp->(It->Hp->Prop)->Prop:=λx H R=>(∃a,x=.ref a/\(∃xs,aJ K H a xs)/\R (zd K a) H)\/(∃a,x=.ref a/\(∃xs,cI K H a xs)/\R (DE K a) H)\/∃z,x=.str z/\R (BQ z) H
theorem itA:BP X tg (Dj X.K):=it_list.or (it_tup.or Ek)
def GL(r:V->Hp->(It->Hp->Prop)->Prop)(tl:TE):TI:=λZ H R=>tl Z H λx H1=>r x H1 R
theorem Gf{l:Expr}{tl:TE}(hr:BP X tg r)(hl:PE X l tl):PI X tg l (GL r tl):=by
 intro pins s Z H R I h;exact cW (hl pins s Z H _ I h) λv s1 ⟨x,H1,I1,r1,q1⟩=>hr pins s1 Z H1 x v R I1 r1 q1
theorem EK{l:Expr}{tl:TE}(hl:PE X l tl):PI X tg l (GL (Dj X.K) tl):=Gf itA hl
theorem bK(h:aJ K H a xs)(q:R (zd K a) H):Dj K (.ref a) H R:=.inl ⟨a,rfl,⟨xs,h⟩,q⟩
theorem Dl(h:cI K H a xs)(q:R (DE K a) H):Dj K (.ref a) H R:=.inr (.inl ⟨a,rfl,⟨xs,h⟩,q⟩)
theorem Dk(q:R (BQ z) H):Dj K (.str z) H R:=.inr (.inr ⟨z,rfl,q⟩)
theorem GK{tb:TS}{D:jK}(Pv:Nat->St->Hp->Prop)(h0:Pv 0 Z H)
  (hs:∀i c Z H,z.cps.toList[i]?=some c->Pv i Z H->g (.str ⟨#[c]⟩) Z H λZf H2=>tb { D with nx:=Pv (i+1),ct:=Pv (i+1),bk:=D.nx } Zf H2) (hd:∀Z H,Pv z.length Z H->D.nx Z H) :
  ∃W:Nat->Nat->St->Hp->Prop,(∃m,W 0 m Z H)/\∀i m Z H,W i m Z H->
   ((BQ z).stop i H/\D.nx Z H)\/((BQ z).go i H/\∃N:St->Hp->Prop,(∀Zc H',N Zc H'->∃m',m' < m/\W (i+1) m' Zc H')/\∀x H',(BQ z).yld i H x H'->g x Z H' λZf H2=>tb { D with nx:=N,ct:=N,bk:=D.nx } Zf H2):=by
 refine⟨λi m Z H=>m=z.length - i/\i<=z.length/\Pv i Z H,⟨z.length,by simp,ac2 _,h0⟩,?_⟩;rintro i m Z H ⟨rfl,hi,p⟩
 by_cases hlt:i < z.length
 ·refine .inr ⟨hlt,Pv (i+1),λZc H' p'=>⟨z.length - (i+1),(),rfl,hlt,p'⟩,λx H' y=>?_⟩
  obtain⟨e,c,hc,e2⟩:=y;subst e e2;exact hs i c Z _ (by simpa using hc) p
 ·have e:i=z.length:=by omega
  subst e;exact .inl ⟨rfl,hd Z H p⟩
section
variable {n:Nat} {tt:TT} {te:TE}
abbrev wM(J:It)(n:Nat)(js:List Nat)(g:TG)(tt:TT)(te:TE)(Z:St)(H:Hp)(F:List V->Hp->Prop):Prop:=
 ∃W:Nat->Nat->List V->Hp->Prop,(∃m,W 0 m [] H)/\∀i m ys H,W i m ys H->(J.stop i H/\F ys H)\/
  (J.go i H/\ys.length < sizeLine/\∃N:List V->Hp->Prop,(∀ys' H',N ys' H'->∃m',m' < m/\W (i+1) m' ys' H')/\∀x H',J.yld i H x H'->g x (Zr n js Z) H' λZf H2=>tt Zf H2 λb H3=>if b=true then te Zf H3 λy H4=>N (ys++[y]) H4 else N ys H3)
abbrev iF(n:Nat)(js:List Nat)(g:TG)(tt:TT)(te:TE)(Z:St)(x:V)(ys:List V)(H:Hp)(N:List V->Hp->Prop):Prop:=
 g x (Zr n js Z) H λZf H2=>tt Zf H2 λb H3=>if b=true then te Zf H3 λy H4=>N (ys++[y]) H4 else N ys H3
theorem vh{lo:Int}{k:Nat}(Pv:Nat->List V->Hp->Prop)(hk:k<=sizeLine)(h0:Pv 0 [] H)(hn:∀i ys H,Pv i ys H->ys.length<=i)
  (hs:∀i ys H,i < k->Pv i ys H->iF n js g tt te Z (.int (lo+i)) ys H (Pv (i+1))) (hd:∀ys H,Pv k ys H->F ys H):wM (xN lo k) n js g tt te Z H F:=by
 refine⟨λi m ys H=>m=k - i/\i<=k/\Pv i ys H,⟨k,by simp,ac2 _,h0⟩,?_⟩;rintro i m ys H ⟨rfl,hi,p⟩
 by_cases hlt:i < k
 ·refine .inr ⟨hlt,aa7 (hn i ys H p) (ab3 hlt hk),Pv (i+1),λZc H' p'=>⟨k - (i+1),(),rfl,hlt,p'⟩,λx H' y=>?_⟩
  obtain⟨e,y⟩:=y;subst e y;exact hs i ys _ hlt p
 ·have e:i=k:=by omega
  subst e;exact .inl ⟨aa9 _,hd ys H p⟩
theorem ya(Pv:Nat->List V->Hp->Prop)(hk:xs.length<=sizeLine)(h0:Pv 0 [] H)(hn:∀i ys H,Pv i ys H->ys.length<=i)(hl:∀i ys H,Pv i ys H->aJ K H a xs)
  (hs:∀i x ys H,xs[i]?=some x->Pv i ys H->iF n js g tt te Z x ys H (Pv (i+1))) (hd:∀ys H,Pv xs.length ys H->F ys H):wM (zd K a) n js g tt te Z H F:=by
 refine⟨λi m ys H=>m=xs.length - i/\i<=xs.length/\Pv i ys H,⟨xs.length,by simp,ac2 _,h0⟩,?_⟩;rintro i m ys H ⟨rfl,hi,p⟩;have q:=hl i ys H p
 by_cases hlt:i < xs.length
 ·refine .inr ⟨⟨xs,xs[i],q,by simp [hlt]⟩,aa7 (hn i ys H p) (ab3 hlt hk),Pv (i+1),λZc H' p'=>⟨xs.length - (i+1),(),rfl,hlt,p'⟩,λx H' y=>?_⟩
  obtain⟨e,y⟩:=y;subst e;exact hs i x ys _ (y xs q) p
 ·have e:i=xs.length:=by omega
  subst e;exact .inl ⟨⟨xs,q,aa9 _⟩,hd ys H p⟩
theorem zu(Pv:Nat->List V->Hp->Prop)(hk:z.length<=sizeLine)(h0:Pv 0 [] H)(hn:∀i ys H,Pv i ys H->ys.length<=i)
  (hs:∀i c ys H,z.cps.toList[i]?=some c->Pv i ys H->iF n js g tt te Z (.str ⟨#[c]⟩) ys H (Pv (i+1))) (hd:∀ys H,Pv z.length ys H->F ys H):wM (BQ z) n js g tt te Z H F:=by
 refine⟨λi m ys H=>m=z.length - i/\i<=z.length/\Pv i ys H,⟨z.length,by simp,ac2 _,h0⟩,?_⟩;rintro i m ys H ⟨rfl,hi,p⟩
 by_cases hlt:i < z.length
 ·refine .inr ⟨hlt,aa7 (hn i ys H p) (ab3 hlt hk),Pv (i+1),λZc H' p'=>⟨z.length - (i+1),(),rfl,hlt,p'⟩,λx H' y=>?_⟩
  obtain⟨e,c,hc,e2⟩:=y;subst e e2;exact hs i c ys _ (by simpa using hc) p
 ·have e:i=z.length:=by omega
  subst e;exact .inl ⟨rfl,hd ys H p⟩
end
theorem yS(xs:Array Nat):∀(n:Nat) (acc:Array Nat),((List.replicate n xs).foldl (· ++ ·) acc).size=acc.size+n * xs.size
 | 0,acc=>by simp
 | n+1,acc=>by
  rw [ae8,ae5,yS xs n,an3,am7];omega
theorem rf(xs:Array Nat):∀(n:Nat) (acc:Array Nat),((List.replicate n xs).foldl (· ++ ·) acc).toList=acc.toList++(List.replicate n xs.toList).flatten
 | 0,acc=>by simp
 | n+1,acc=>by
  rw [ae8,ae5,rf xs n,ae8,ag9,ah0,aj3]
def sZ(z:Str)(k:Int):Str:=if k < 1 then Str.empty else if (k == 1 || z.length == 0)=true then z else⟨(List.replicate k.toNat z.cps).foldl (· ++ ·) #[]⟩
theorem vS(z:Str)(k:Int):(sZ z k).cps.toList=(List.replicate k.toNat z.cps.toList).flatten:=by
 unfold sZ
 split
 ·have e:k.toNat=0:=by omega
  rw [e];rfl
 ·split
  ·rename_i h1 h2
   rw [ak2]at h2;rcases h2 with h2 | h2
   ·have e:k=1:=by simpa using h2
    subst e;simp
   ·have e:z.cps.size=0:=by simpa [Str.length]using h2
    have e2:z.cps.toList=[]:=by
     rw [<-af8];simpa using e
    rw [e2];simp
  ·simpa using rf z.cps k.toNat #[]
theorem uJ(z:Str)(k:Int):(sZ z k).length=k.toNat * z.length:=by
 have e:(sZ z k).length=(sZ z k).cps.toList.length:=by simp [Str.length]
 rw [e,vS,sr];simp [Str.length]
section
variable {a b c:Expr} {ta tb tc:TE}
theorem op_mulB:dH X (binaryOp .Mult) (rI IntMulOk λi j=>.int (i * j)):=F6 λ_ _ _ _ _ _ _ hc q=>mul_int q hc
theorem op_mul_str:dH X (binaryOp .Mult) (λx y H Q=>∃z k,x=.str z/\y=.int k/\(-1000000<=k/\k<=1000000/\z.length<=16)/\Q (.str (sZ z k)) H):=by
 rintro pins s Z H x y v u Q I rx ry ⟨z,k,rfl,rfl,⟨h2,h1,h3⟩,q⟩;obtain⟨t,rfl⟩:=rx;obtain⟨t',rfl⟩:=ry;have hs:=sizeLine_eq;have hl:=uJ z k;have hb:z.length * k.toNat<=16 * 1000000:=Nat.mul_le_mul h3 ();rw [ao5]at hl;have fin:∀t' tk,EP X pins Z Q (.str (sZ z k) t') { s with toks:=tk }:=λt' tk=>⟨.str _,H,I.tok _,⟨t',rfl⟩,q⟩;refine P.mul_str ?_ (λh4 h5=>?_) (λh4 h5=>?_) ?_
 ·have e1:¬k < -(2 ^ 63:Int):=by omega
  have e2:¬k>=2 ^ 63:=by omega
  rw [decide_eq_false e1,decide_eq_false e2];rfl
 ·have h6:(16:Int)<=(2 ^ 63 - 1) / k:=by
   rw [Int.le_ediv_iff_mul_le ()];omega
  omega
 ·unfold Builtin.Str.tooLong
  exact decide_eq_false ()
 ·unfold sZ at fin hl
  by_cases h4:k < 1
  ·rw [if_pos h4]at fin |-
   exact⟨∅,fin _ _⟩
  ·rw [if_neg h4]at fin hl |-
   by_cases h5:(k == 1 || z.length == 0)=true
   ·rw [if_pos h5]at fin |-
    exact fin t s.toks
   ·rw [if_neg h5]at fin hl |-
    exact⟨(),fin _ _⟩
def xj:R2:=λx y H Q=>rI IntMulOk (λi j=>.int (i * j)) x y H Q\/(∃z k,x=.str z/\y=.int k/\(-1000000<=k/\k<=1000000/\z.length<=16)/\Q (.str (sZ z k)) H)\/EU x y H Q
theorem opMul:dH X (binaryOp .Mult) xj:=op_mulB.or (op_mul_str.or EH)
theorem AX:xj (.int i) (.int j) H Q↔IntMulOk i j/\Q (.int (i * j)) H:=by
 simp [xj,rI,EU]
def eT(K:Frag):R2:=λx y H Q=>va (λi j=>.int (i+j)) x y H Q\/(∃i j,x=.str i/\y=.str j/\i.length+j.length<=sizeLine/\Q (.str (i++j)) H)\/Df x y H Q\/xi K x y H Q
theorem opAdd:dH X (binaryOp .Add) (eT X.K):=op_add.or (op_add_str.or (op_cat.or C0))
theorem oV:eT K (.int i) (.int j) H Q↔Q (.int (i+j)) H:=by
 simp [eT,va,Df,xi]
theorem AU{i j:Str}:eT K (.str i) (.str j) H Q↔i.length+j.length<=sizeLine/\Q (.str (i++j)) H:=by
 simp [eT,va,Df,xi]
theorem g8{l b:Addr}{zs:List V}(h1:H l=some (.lst xs))(h2:H b=some (.lst zs))(hz:xs.length+zs.length<=sizeLine)(q:∀p,H p=none->Q (.ref p) (upd H p (.lst (xs++zs)))):eT K (.ref l) (.ref b) H Q:=
 .inr (.inr (.inl ⟨l,b,xs,zs,rfl,rfl,h1,h2,hz,q⟩))
def EX:V->Option Int->Option Int->Hp->VK->Prop:=λx lo hi H Q=>∃z,x=.str z/\z.length<=sizeLine/\Q (.str (Txt.slice z lo hi)) H
theorem E2:BK X EX:=by
 rintro pins s Z H x v vl vu lo hi sl Q I rx hs pl pu ⟨z,rfl,hz,q⟩;obtain⟨t,rfl⟩:=rx;have fin:∀t' tk,EP X pins Z Q (.str (Txt.slice z lo hi) t') { s with toks:=tk }:=λt' tk=>⟨.str _,H,I.tok _,⟨t',rfl⟩,q⟩;refine⟨"str",_,F.slot_str_getitem.lookup,typeIs_str _ _ _,?_⟩
 cases pl with
 | none=>cases pu with
  | none=>exact ai4 (l:=none) (u:=none) (st:=none) hs rfl (post_val_or_str ⟨ab6 (Txt.slice_le z _ _) hz,λt' k=>fin t' k⟩)
  | int j u=>exact ai4 (l:=none) (u:=some (j,u)) (st:=none) hs rfl (post_val_or_str ⟨ab6 (Txt.slice_le z _ _) hz,λt' k=>fin t' k⟩)
 | int i u=>cases pu with
  | none=>exact ai4 (l:=some (i,u)) (u:=none) (st:=none) hs rfl (post_val_or_str ⟨ab6 (Txt.slice_le z _ _) hz,λt' k=>fin t' k⟩)
  | int j u'=>exact ai4 (l:=some (i,u)) (u:=some (j,u')) (st:=none) hs rfl (post_val_or_str ⟨ab6 (Txt.slice_le z _ _) hz,λt' k=>fin t' k⟩)
def uG(K:Frag):V->Option Int->Option Int->Hp->VK->Prop:=λx lo hi H Q=>EW K x lo hi H Q\/EY K x lo hi H Q\/EX x lo hi H Q
theorem slA:BK X (uG X.K):=sl_list.or (sl_tup.or E2)
theorem EV{lo hi:Option Int}:uG K (.str z) lo hi H Q↔z.length<=sizeLine/\Q (.str (Txt.slice z lo hi)) H:=by
 simp [uG,EW,EY,EX]
theorem cG{a:Addr}{lo hi:Option Int}(h:aJ K H a xs)(q:∀p,H p=none->Q (.ref p) (upd H p (.lst (nZ xs lo hi)))):uG K (.ref a) lo hi H Q:=.inl ⟨a,xs,rfl,h,q⟩
theorem ixA:xO X (nk X.K):=El
theorem Gi:nk K (.str z) (.int i) H Q↔z.length<=sizeLine/\∃c,fR z.cps.toList i=some c/\Q (.str ⟨#[c]⟩) H:=by
 simp [nk,ER,ET,ES]
theorem bq{p:Addr}(h:aJ K H p xs)(hv:fR xs i=some v)(q:Q v H):nk K (.ref p) (.int i) H Q:=.inl ⟨p,xs,i,v,rfl,rfl,h,hv,q⟩
theorem dw{p:Addr}(h:cI K H p xs)(hv:fR xs i=some v)(q:Q v H):nk K (.ref p) (.int i) H Q:=.inr (.inl ⟨p,xs,i,v,rfl,rfl,h,hv,q⟩)
theorem opEq:dH X (compareOp .Eq) u9:=F9
theorem opNe:dH X (compareOp .NotEq) vb:=Gb
theorem j6:dH X (compareOp .Lt) (va λi j=>.bl (decide (i < j))):=Ga
theorem vL:u9 (.int i) (.int j) H Q↔Q (.bl (decide (i=j))) H:=by simp [u9,yQ]
theorem vO:vb (.int i) (.int j) H Q↔Q (.bl (!decide (i=j))) H:=by simp [vb,yQ]
theorem vM{i j:Str}:u9 (.str i) (.str j) H Q↔Q (.bl (decide (i=j))) H:=by simp [u9,yQ]
theorem vP{i j:Str}:vb (.str i) (.str j) H Q↔Q (.bl (!decide (i=j))) H:=by simp [vb,yQ]
def vN(K:Frag):R2:=λx y H Q=>(∃i j,x=.str i/\y=.str j/\Q (.bl (!(Builtin.Str.occurrences j i 0 j.length 1).isEmpty)) H)\/Gh K false x y H Q
def jJ(K:Frag):R2:=λx y H Q=>(∃i j,x=.str i/\y=.str j/\Q (.bl (!(!(Builtin.Str.occurrences j i 0 j.length 1).isEmpty))) H)\/Gh K true x y H Q
theorem Ho:dH X (compareOp .In) (vN X.K):=op_in_str.or yI
theorem CY:dH X (compareOp .NotIn) (jJ X.K):=op_notin_str.or sR
theorem EO{c:Nat}:vN K (.str ⟨#[c]⟩) (.str z) H Q↔Q (.bl (decide (c∈z.cps.toList))) H:=by
 simp [vN,Gh,StrLaws.found_one]
theorem xU:cS X (.builtin "len") (λxs H Q=>(∃z,xs=[.str z]/\z.length<=sizeLine/\Q (.int z.length) H)\/∃p ys,xs=[.ref p]/\(aJ X.K H p ys\/cI X.K H p ys)/\Q (.int ys.length) H):=call_len_str.or se
theorem call_int_text:cS X (.type "int") (λxs H Q=>∃z n,xs=[.str z]/\intText? z=some n/\z.length<=640/\Q (.int n) H):=by
 rintro pins s Z H xs us Q I r ⟨z,n,rfl,hn,hl,q⟩;obtain⟨u,rfl,ru⟩:=fF r;obtain⟨t,rfl⟩:=ru;exact PySem.W.KIN.call_text hn hl ⟨.int n,H,I.tok _,⟨_,rfl⟩,q⟩
theorem dJ:cS X (.type "int") (λxs H Q=>(∃z n,xs=[.str z]/\intText? z=some n/\z.length<=640/\Q (.int n) H)\/((∃i,xs=[.int i]/\Q (.int i) H)\/∃k,xs=[.bl k]/\Q (.int (if k then 1 else 0)) H)):=call_int_text.or xT
theorem gI:BR X "str.startswith" (λx xs H Q=>∃z y,x=.str z/\xs=[.str y]/\Q (.bl (Txt.startswith z y)) H):=by
 rintro pins s Z H x xs v us Q I rx r ⟨z,y,rfl,rfl,q⟩;obtain⟨t,rfl⟩:=rx;obtain⟨u,rfl,t',rfl⟩:=fF r;exact SC.startswith ⟨.bl _,H,I,rfl,q⟩
theorem tK:cS X (.builtin "isinstance") (λxs H Q=>∃x n t b,xs=[x,.ty n]/\kM X.K H x t/\PySem.W.kitOne X.K t (.type n)=some b/\Q (.bl b) H):=by
 rintro pins s Z H xs us Q I r ⟨x,n,t,b,rfl,ty,e,q⟩;obtain⟨u,w',rfl,ru,rw'⟩:=u4 r;cases rw';exact yq I ru ty e λtk=>⟨.bl b,H,I.tok _,rfl,q⟩
theorem pR:∀{bs:List Bool} {us:List Value},aX (bs.map V.bl) us->us=bs.map Value.bool
 | [],_,.nil=>rfl
 | b::bs,_,.cons r t=>by
  have e:_=Value.bool b:=r;rw [ac7,e,pR t]
theorem yN(bs:List Bool):(List.range bs.length).all (λi=>bs.getD i true)=bs.all id:=by
 induction bs with
 | nil=>rfl
 | cons b bs ih=>
  rw [ad4,List.range_succ_eq_map,al3,ah8,al3,<-ih];rfl
theorem xS(hc:X.calm=true):cS X (.builtin "all") (λxs H Q=>∃(p:Addr) (bs:List Bool),xs=[.ref p]/\aJ X.K H p (bs.map V.bl)/\Q (.bl (bs.all id)) H):=by
 rintro pins s Z H xs us Q I r ⟨p,bs,rfl,hq,q⟩;obtain⟨u,rfl,ru⟩:=fF r;cases ru;obtain⟨its,rv,pl,hz⟩:=I.list hq;have e:=pR rv;subst e;have hh:X.A.in1.handled=none:=I.ok.hd hc;refine call_all_walk (an2 pl.isList ⟨s.heap.objs.size,[s.heap.objs.size,p],[s.heap.objs.size],_,_,_,λi=>bs.getD i true,rfl,Walks.list hh _ p ?_ _,⟨⟨_,ab9 _ rfl,rfl,rfl⟩,pl.isList.push _⟩,?_,λh' tk hk=>?_⟩)
 ·obtain⟨o,n,e,_⟩:=pl
  exact ad3 (ac1 e)
 ·intro i v s' Q' E' hv hQ'
  have hv':(bs.map Value.bool)[i]?=some v:=by simpa using hv
  rw [aa4]at hv'
  cases hb:bs[i]? with
  | none=>rw [hb]at hv';cases hv'
  | some b=>
   rw [hb]at hv';cases hv';have hQ2:Q' (bs.getD i true) s':=hQ';rw [ab5,hb]at hQ2;exact ae4 hQ2
 ·refine⟨.bl (bs.all id),H,I.kept (h':=h') (t':=tk) λb o e=>hk b o ?_ (aa5 _ e),?_,q⟩
  ·intro z
   have z':b=s.heap.objs.size:=by simpa using z
   exact absurd (ac1 e) (by rw [z'];exact ai0 _)
  ·show Value.bool _=Value.bool _
   rw [<-yN];simp
theorem ia(h:∃u,X.mg x=some u/\aS v u)(hg:Gl X x:=by rfl)(hd:(x == ("__debug__":Str))=false:=by decide):PE X (.Name x pos) (tC v):=
 let ⟨_,hm,r⟩:=h;C5 hg hm r hd
end
structure cB(P:Program)(w:World)(K:Frag)(mg:Str->Option Value)(base:Heap)(x:Str)(k:Nat)(ps:List Str)(sp:Sp):Prop where
 ex:∃(f:Addr) (fd:FuncData),aL P w K mg base bU k f fd ps sp/\mg x=some (.ref f)/\keepIn K (.ref f)=true/\dn K fd ps []
section
variable {k:Nat} {ps:List Str} {sp:Sp} {p:Pos} {e:Expr} {es:List Expr} {t:TA}
theorem aA(d:cB X.prog X.w X.K X.mg X.base x k ps sp)(hr:dX k X.A)(hg:Gl X x)(ha:PA X (e::es) t)(hdb:(x == ("__debug__":Str))=false:=by decide)
  (he:starEach (e::es) X.env=(false,eval e X.env)::starEach es X.env:=by rfl) (hpl:(backTo pos (starEach es X.env)).any (·.1)=false:=by rfl):PE X (.Call (.Name x p) (e::es) [] pos) (uZ sp [] E0 t):=
 let ⟨_,_,F,hm,hk,hb⟩:=d.ex;C3 F hr hg hm hk hb .nil rD ha hdb he hpl
end
end L2
namespace L3
open PySem PySem.Spec PyProof.Rows
section
variable {prog:Program} {w:World} {A:Around} {E:Value->Shared->Prop} {s:Shared}
theorem sA{it t:Addr}{i:Nat}{its:Array Value}{x:Value}{Q:Value->Shared->Prop}(qi:s.heap.IsTupleIter it t i)(qt:s.heap.IsTuple t its)(qx:its[i]?=some x)
  (hQ:∀h',h'.IsTupleIter it t (i+1)->Heap.SameBut it s.heap h'->Q x { s with heap:=h' }):wpAny (model prog w) A (Builtin.SmallTypes.nextOf (.ref it)) Q E s:=by
 obtain⟨oi,qo,qc,qd⟩:=id qi;obtain⟨ot,qot,_,nt,qdt⟩:=qt;unfold Builtin.SmallTypes.nextOf;refine aa3 (wpAny_callSpecial?_slot (name:=Str.ofString "__next__") qi.typeIs F.slot_tuple_iterator_next (ag2 F.slot_tuple_iterator_next qi.typeIs F.entry_tuple_iterator_next ?_ (F.args_tuple_iterator_next_1 _)));show wpAny _ _ (field (.ref it) 0 >>= _) _ _ s;refine aa3 (af0 qo qd (x:=.ref t) rfl ?_);show wpAny _ _ (if (Value.ref t == Value.none)=true then _ else _) _ _ s;rw [if_neg (show ¬((Value.ref t == Value.none)=true)from aa6)];show wpAny _ _ (field (.ref it) 1 >>= _) _ _ s;refine aa3 (af0 qo qd (x:=.int i 0) rfl ?_);show wpAny _ _ (seqItems? (.ref t) >>= _) _ _ s;refine aa3 (ag0 qot qdt ?_);simp only [ag7,qx];refine aa3 (wpAny_setField qo qd (by simp) (ab0 ⟨x,rfl,ab0 (hQ _ ?_ (Heap.SameBut.update ..))⟩));exact⟨_,Heap.get?_update_self _ qo (Obj.isFreed_of_fields (Obj.data_mapFields qd _)),(Obj.cls_mapFields ..).trans qc,by rw [Obj.data_mapFields qd];simp [rawInt]⟩
theorem uf{it t:Addr}{i:Nat}{its:Array Value}{Q:Value->Shared->Prop}(hh:A.handled=none)(qi:s.heap.IsTupleIter it t i)(qt:s.heap.IsTuple t its)(qx:its[i]?=none)
  (hE:∀h' e,Heap.ExtBut it s.heap h'->(∃o,h'.get? e=some o/\o.cls=.type "StopIteration")->E (.ref e) { s with heap:=h' }):wpAny (model prog w) A (Builtin.SmallTypes.nextOf (.ref it)) Q E s:=by
 obtain⟨oi,qo,qc,qd⟩:=id qi;obtain⟨ot,qot,_,nt,qdt⟩:=qt;unfold Builtin.SmallTypes.nextOf;refine aa3 (wpAny_callSpecial?_slot (name:=Str.ofString "__next__") qi.typeIs F.slot_tuple_iterator_next (ag2 F.slot_tuple_iterator_next qi.typeIs F.entry_tuple_iterator_next ?_ (F.args_tuple_iterator_next_1 _)));show wpAny _ _ (field (.ref it) 0 >>= _) _ _ s;refine aa3 (af0 qo qd (x:=.ref t) rfl ?_);show wpAny _ _ (if (Value.ref t == Value.none)=true then _ else _) _ _ s;rw [if_neg (show ¬((Value.ref t == Value.none)=true)from aa6)];show wpAny _ _ (field (.ref it) 1 >>= _) _ _ s;refine aa3 (af0 qo qd (x:=.int i 0) rfl ?_);show wpAny _ _ (seqItems? (.ref t) >>= _) _ _ s;refine aa3 (ag0 qot qdt ?_);simp only [ag7,qx];refine aa3 (wpAny_rule (aa3 (wpAny_setField qo qd (by simp) ?_)));show wpAny _ _ (newExc (.type "StopIteration") [] >>= _) _ _ _;refine aa3 ?_;simp only [newExc,newTuple]
 refine aa3 (ag8 ?_ (by size_fits));refine aa3 (m:=firstArgMember _ _) (wpAny_of_eq (a:=Value.none) (by first | rfl | (simp only [firstArgMember];rfl)) ?_)
 refine ag8 ?_ (by size_fits);simp only [raiseNew];refine aa3 (wpAny_handled ?_)
 first | rw [show A.in1.handled=none from hh] | rw [hh]
 exact aa3 (ab0 (wpAny_throw (hE _ _ (((Heap.SameBut.update ..).extBut.push _).push _) ⟨_,ab9 _ rfl,rfl⟩)))
end
theorem draws_tuple{prog:Program}{w:World}{A:Around}(hh:A.handled=none)(it t:Addr)(hne:t≠it)(its:Array Value):
  Draws prog w A it [it,t] its.size (λi v=>its[i]?=some v) (λi h=>h.IsTupleIter it t i/\h.IsTuple t its) where
 live:=λ_ _ st=>let ⟨o,ho,_⟩:=st.1;⟨o,ho⟩
 frame:=λ_ _ _ st hk=>⟨st.1.at λo e=>hk it (by simp) o e,let ⟨o,ho,r⟩:=st.2;⟨o,hk t (by simp) o ho,r⟩⟩
 item:=λi s Q E hi st hQ=>sA st.1 st.2 (x:=its[i]) (by simp [hi]) λh' qi qs=>hQ _ h' s.toks (by simp [hi]) ⟨qi,st.2.extBut qs.extBut hne⟩ qs
 done:=λs Q E st hE=>uf hh st.1 st.2 (by simp) hE
abbrev kO(h:Heap)(z TI TO:Addr)(f0:Value)(b1:Bool):Prop:=h.get? z=some { cls:=.type "zip",dict:=none,data:=.fields #[f0,.bool b1,.bool false,.ref TI,.ref TO],slots:=#[] }
def rT(f0:Value):Prop:=f0=.none\/∃T:Addr,f0=rawInt T
def Hc(h:Heap)(z TI TO:Addr):Prop:=∃f0 b1,kO h z TI TO f0 b1/\rT f0
structure ZAp(z TI TO i1 i2:Addr)(f1 f2:List Addr):Prop where
 a1:TI≠z
 a2:TO≠z
 a3:TI≠TO
 m1:i1∈f1
 m2:i2∈f2
 z1:z∉f1
 z2:z∉f2
 t1:TI∉f1
 t2:TI∉f2
 o1:TO∉f1
 o2:TO∉f2
 n1:i1∉f2
 n2:i2∉f1
section
variable {prog:Program} {w:World} {A:Around} {E:Value->Shared->Prop} {s:Shared} {z TI TO i1 i2:Addr} {f1 f2:List Addr} {n1 n2 k:Nat} {P1 P2:Nat->Value->Prop} {S1 S2:Nat->Heap->Prop} {a b:Value}
theorem cN{it c:Addr}{fp:List Addr}{n i:Nat}{P:Nat->Value->Prop}{St:Nat->Heap->Prop}{h h':Heap}(D:Draws prog w A it fp n P St)(st:St i h)(sb:Heap.SameBut c h h')(hc:c∉fp):St i h':=
 D.frame i h h' st λd hd o e=>(sb.2 d λq=>hc (q▸hd)).trans e
theorem zk{M:Model}{c:Addr}{Q:Option Obj->Shared->Prop}(h:Q (s.heap.get? c) s):wpAny M A (loadIfAlive c) Q E s:=λΓ p _=>by
 show Sem.wp M Γ (.loadIfAlive c .pure) _ _ p s;rw [Sem.wp_loadIfAlive];exact h
theorem oT{f0:Value}{b1:Bool}{Q:Bool->Shared->Prop}(qz:kO s.heap z TI TO f0 b1)(hf:rT f0)(h1:Q true s)
  (h2:∀h',f0≠.none->kO h' z TI TO f0 true->Heap.SameBut z s.heap h'->Q false { s with heap:=h' }):wpAny (model prog w) A (Builtin.SmallTypes.ownedTupleIsFree (.ref z)) Q E s:=by
 unfold Builtin.SmallTypes.ownedTupleIsFree;rcases hf with rfl | ⟨T,rfl⟩
 ·exact aa3 (af0 qz rfl (x:=.none) rfl (ab0 h1))
 ·refine aa3 (af0 qz rfl (x:=rawInt T) rfl ?_)
  show wpAny _ _ (loadIfAlive ((T:Int)).toNat >>= _) _ _ s;refine aa3 (zk ?_)
  cases s.heap.get? ((T:Int)).toNat with
  | none=>exact ab0 h1
  | some o=>
   show wpAny _ _ (field (.ref z) 1 >>= _) _ _ s;refine aa3 (af0 qz rfl (x:=.bool b1) rfl ?_)
   cases b1 with
   | true=>exact ab0 (h2 s.heap (λz=>nomatch z) qz (Heap.SameBut.refl ..))
   | false=>
    show wpAny _ _ (setField (.ref z) 1 (.bool true) >>= _) _ _ s;exact aa3 (ag4 qz (by simp) λh' q e=>ab0 (h2 h' (λz=>nomatch z) q e))
theorem y7{f0:Value}{b1:Bool}{Q:Value->Shared->Prop}(D1:Draws prog w A i1 f1 n1 P1 S1)(D2:Draws prog w A i2 f2 n2 P2 S2)(ap:ZAp z TI TO i1 i2 f1 f2)(qz:kO s.heap z TI TO f0 b1)(hf:rT f0)(qI:IsPair s.heap TI (.ref i1) (.ref i2))(qO:IsPair s.heap TO a b)
  (st1:S1 k s.heap) (st2:S2 k s.heap) (k1:k < n1) (k2:k < n2)
  (hQ:∀x y h' tk,P1 k x->P2 k y->Hc h' z TI TO->(f0=.none->IsZip h' z TI TO (rawInt s.heap.objs.size))->IsPair h' TI (.ref i1) (.ref i2)->(∃a b,IsPair h' TO a b)->S1 (k+1) h'->S2 (k+1) h'->IsPair h' s.heap.objs.size x y->h'.objs.size=s.heap.objs.size+1->
   (∀c o,c≠z->c≠TO->c≠i1->c≠i2->s.heap.get? c=some o->h'.get? c=some o)->Q (.ref s.heap.objs.size) { s with heap:=h',toks:=tk }) :
  wpAny (model prog w) A (Builtin.«zip.__next__» ⟨[.ref z],[]⟩) (λfin s'=>∃v,fin=.done (.ret v)/\Q v s') E s:=by
 have c1:i1≠z:=λq=>ap.z1 (q▸ap.m1);have c2:i2≠z:=λq=>ap.z2 (q▸ap.m2);have c3:TO≠i1:=λq=>ap.o1 (q▸ap.m1);have c4:TO≠i2:=λq=>ap.o2 (q▸ap.m2);have c5:TI≠i1:=λq=>ap.t1 (q▸ap.m1);have c6:TI≠i2:=λq=>ap.t2 (q▸ap.m2);show wpAny _ _ (field (.ref z) 2 >>= _) _ _ _;refine aa3 (af0 qz rfl (x:=.bool false) rfl ?_);show wpAny _ _ (field (.ref z) 3 >>= _) _ _ _;refine aa3 (af0 qz rfl (x:=.ref TI) rfl ?_);refine aa3 (ag0 qI rfl ?_);show wpAny _ _ (Builtin.SmallTypes.ownedTupleIsFree (.ref z) >>= _) _ _ _;refine aa3 (oT qz hf ?_ λh₀ Yp Yq Zu=>?_)
 ·simp only [if_true]
  refine aa3 (wpAny_rule ?_);refine aa3 (af0 qz rfl (x:=.ref TO) rfl ?_);refine aa3 (ag4 qz (by simp) λZt Zx Zn=>?_);replace Zx:kO Zt z TI TO .ellipsis b1:=Zx;refine aa3 ?_;simp only [List.zipIdx_cons,List.zipIdx_nil,af6,ak9];refine aa3 (aa3 (an7 ?_));show wpAny _ _ (Builtin.SmallTypes.nextOf (.ref i1) >>= _) _ _ _;refine aa3 (D1.item k _ _ _ k1 (cN D1 st1 Zn ap.z1) λx Zs Ye p1 u1 Zi=>ab0 ?_);have Z5:IsPair Zs TO a b:=Zi.extBut _ _ c3 (Zn.extBut _ _ ap.a2 qO);refine aa3 (ag0 Z5 rfl ?_);refine aa3 (al4 Z5 λZ0 Yb Zo=>?_);replace Yb:IsPair Z0 TO x b:=Yb;refine aa3 (wpAny_letGo (ab0 ?_));refine aa3 (aa3 (an7 ?_));show wpAny _ _ (Builtin.SmallTypes.nextOf (.ref i2) >>= _) _ _ _;refine aa3 (D2.item k _ _ _ k2 (cN D2 (cN D2 (cN D2 st2 Zn ap.z2) Zi ap.n1) Zo ap.o2) λy Zk Yy p2 u2 Zm=>ab0 ?_);have Yr:IsPair Zk TO x b:=Zm.extBut _ _ c4 Yb;refine aa3 (ag0 Yr rfl ?_);refine aa3 (al4 Yr λZj Yc Zy=>?_);replace Yc:IsPair Zj TO x y:=Yc;refine aa3 (wpAny_letGo (ab0 (ab0 ?_)));refine aa3 (ag0 Yc rfl ?_);refine aa3 (wpAny_newTuple ?_)
  have sz:Zj.objs.size=s.heap.objs.size:=by rw [Zy.1,Zm.1,Zo.1,Zi.1,Zn.1]
  have Ys:kO Zj z TI TO .ellipsis b1:=Zy.extBut _ _ ap.a2.symm (Zm.extBut _ _ c2.symm (Zo.extBut _ _ ap.a2.symm (Zi.extBut _ _ c1.symm Zx)));have Yt:∀c o,c≠z->c≠TO->c≠i1->c≠i2->s.heap.get? c=some o->Zj.get? c=some o:=λc o d1 d2 d3 d4 e=>Zy.extBut _ _ d2 (Zm.extBut _ _ d4 (Zo.extBut _ _ d2 (Zi.extBut _ _ d3 (Zn.extBut _ _ d1 e))));have Yz:S1 (k+1) Zj:=cN D1 (cN D1 (cN D1 u1 Zo ap.o1) Zm ap.n2) Zy ap.o1;have Y0:S2 (k+1) Zj:=cN D2 u2 Zy ap.o2;have zl:z < Zj.objs.size:=ac1 Ys;show wpAny _ _ (Builtin.SmallTypes.ownedTupleHandOut (.ref z) (.ref Zj.objs.size) >>= _) _ _ _;refine aa3 ?_;unfold Builtin.SmallTypes.ownedTupleHandOut;have Y1:kO (Zj.push { cls:=.type "tuple",data:=.seq #[x,y] }) z TI TO .ellipsis b1:=aa5 _ Ys;refine aa3 (ag4 Y1 (by simp) λY2 Yf Yg=>?_);replace Yf:kO Y2 z TI TO (rawInt Zj.objs.size) b1:=Yf;refine ag4 Yf (by simp) λZ6 Z7 Yh=>?_;replace Z7:kO Z6 z TI TO (rawInt Zj.objs.size) false:=Z7;have up:∀c o,c≠z->Zj.get? c=some o->Z6.get? c=some o:=λc o d1 e=>Yh.extBut _ _ d1 (Yg.extBut _ _ d1 (aa5 _ e));have Z8:IsPair Z6 Zj.objs.size x y:=Yh.extBut _ _ (aj7 zl) (Yg.extBut _ _ (aj7 zl) (ab9 _ rfl))
  have s8:Z6.objs.size=Zj.objs.size+1:=by rw [Yh.1,Yg.1,ae9]
  rw [sz]at Z7 Z8 s8;refine ab0 ⟨_,rfl,?_⟩;show Q (.ref Zj.objs.size) _;rw [sz];exact hQ x y Z6 _ p1 p2 ⟨_,_,Z7,.inr ⟨_,rfl⟩⟩ (λ_=>Z7) (up _ _ ap.a1 (Yt _ _ ap.a1 ap.a3 c5 c6 qI)) ⟨_,_,up _ _ ap.a2 Yc⟩ (D1.frame _ _ _ Yz λd hd o e=>up d o (λq=>ap.z1 (q▸hd)) e) (D2.frame _ _ _ Y0 λd hd o e=>up d o (λq=>ap.z2 (q▸hd)) e) Z8 s8 λc o d1 d2 d3 d4 e=>up c o d1 (Yt c o d1 d2 d3 d4 e)
 ·simp only [ae2,if_false]
  refine aa3 ?_;refine wpAny_arrayLoop ?_;simp only [af6,ak9];refine aa3 (aa3 (ae7 ?_));show wpAny _ _ (Builtin.SmallTypes.nextOf (.ref i1) >>= _) _ _ _;refine aa3 (D1.item k _ _ _ k1 (cN D1 st1 Zu ap.z1) λx Zs Ye p1 u1 Zi=>ab0 ?_);refine ab0 ?_;refine aa3 (aa3 (ae7 ?_));show wpAny _ _ (Builtin.SmallTypes.nextOf (.ref i2) >>= _) _ _ _;refine aa3 (D2.item k _ _ _ k2 (cN D2 (cN D2 st2 Zu ap.z2) Zi ap.n1) λy Zk Yy p2 u2 Zm=>ab0 ?_);refine ab0 (ab0 ?_);show wpAny _ _ (newTuple [x,y] >>= _) _ _ _;refine aa3 (wpAny_newTuple ?_)
  have sz:Zk.objs.size=s.heap.objs.size:=by rw [Zm.1,Zi.1,Zu.1]
  have Yd:kO Zk z TI TO f0 true:=Zm.extBut _ _ c2.symm (Zi.extBut _ _ c1.symm Yq);have Yi:∀c o,c≠z->c≠i1->c≠i2->s.heap.get? c=some o->Zk.get? c=some o:=λc o d1 d3 d4 e=>Zm.extBut _ _ d4 (Zi.extBut _ _ d3 (Zu.extBut _ _ d1 e));have up:∀c o,Zk.get? c=some o->(Zk.push { cls:=.type "tuple",data:=.seq #[x,y] }).get? c=some o:=λc o e=>aa5 _ e;have Z8:IsPair (Zk.push { cls:=.type "tuple",data:=.seq #[x,y] }) Zk.objs.size x y:=ab9 _ rfl;have s8:(Zk.push { cls:=.type "tuple",data:=.seq #[x,y] }).objs.size=Zk.objs.size+1:=ae9 ..;refine ab0 ⟨_,rfl,?_⟩;show Q (.ref Zk.objs.size) _;rw [sz]at Z8 s8 |-;exact hQ x y _ _ p1 p2 ⟨_,_,up _ _ Yd,hf⟩ (λz=>absurd z Yp) (up _ _ (Yi _ _ ap.a1 c5 c6 qI)) ⟨_,_,up _ _ (Yi _ _ ap.a2 c3 c4 qO)⟩ (D1.frame _ _ _ (cN D1 u1 Zm ap.n2) λd hd o e=>up d o e) (D2.frame _ _ _ u2 λd hd o e=>up d o e) Z8 s8 λc o d1 d2 d3 d4 e=>up c o (Yi c o d1 d3 d4 e)
theorem BG{f0:Value}{b1:Bool}{Q:Fin->Shared->Prop}(D1:Draws prog w A i1 f1 n1 P1 S1)(D2:Draws prog w A i2 f2 n2 P2 S2)(ap:ZAp z TI TO i1 i2 f1 f2)(qz:kO s.heap z TI TO f0 b1)(hf:rT f0)(qI:IsPair s.heap TI (.ref i1) (.ref i2))(qO:IsPair s.heap TO a b)
  (st1:S1 k s.heap) (st2:S2 k s.heap) (kk:k=n1\/(k < n1/\k=n2))
  (hE:∀h' e tk,(∀c o,c≠z->c≠TO->c≠i1->c≠i2->s.heap.get? c=some o->h'.get? c=some o)->(∃o,h'.get? e=some o/\o.cls=.type "StopIteration")->E (.ref e) { s with heap:=h',toks:=tk }) :
  wpAny (model prog w) A (Builtin.«zip.__next__» ⟨[.ref z],[]⟩) Q E s:=by
 have c1:i1≠z:=λq=>ap.z1 (q▸ap.m1);have c2:i2≠z:=λq=>ap.z2 (q▸ap.m2);have c3:TO≠i1:=λq=>ap.o1 (q▸ap.m1);have c4:TO≠i2:=λq=>ap.o2 (q▸ap.m2);show wpAny _ _ (field (.ref z) 2 >>= _) _ _ _;refine aa3 (af0 qz rfl (x:=.bool false) rfl ?_);show wpAny _ _ (field (.ref z) 3 >>= _) _ _ _;refine aa3 (af0 qz rfl (x:=.ref TI) rfl ?_);refine aa3 (ag0 qI rfl ?_);show wpAny _ _ (Builtin.SmallTypes.ownedTupleIsFree (.ref z) >>= _) _ _ _;refine aa3 (oT qz hf ?_ λh₀ Yp Yq Zu=>?_)
 ·simp only [if_true]
  refine aa3 (wpAny_rule ?_);refine aa3 (af0 qz rfl (x:=.ref TO) rfl ?_);refine aa3 (ag4 qz (by simp) λZt Zx Zn=>?_);replace Zx:kO Zt z TI TO .ellipsis b1:=Zx;refine aa3 ?_;simp only [List.zipIdx_cons,List.zipIdx_nil,af6,ak9];refine aa3 (aa3 (an7 ?_));show wpAny _ _ (Builtin.SmallTypes.nextOf (.ref i1) >>= _) _ _ _;rcases kk with kk | ⟨k1,kk⟩
  ·subst kk
   refine aa3 (D1.done _ _ _ (cN D1 st1 Zn ap.z1) λZs e Zi he=>?_);obtain⟨oe,hoe,hce⟩:=he;have Yu:kO Zs z TI TO .ellipsis b1:=Zi _ _ c1.symm Zx
   have ez:e≠z:=λq=>by subst q;rw [Yu]at hoe;cases hoe;simp at hce
   exact ag4 Yu (by simp) λZ0 _ Zo=>hE Z0 e _ (λc o d1 _ d3 _ q=>Zo.extBut _ _ d1 (Zi _ _ d3 (Zn.extBut _ _ d1 q))) ⟨oe,Zo.extBut _ _ ez hoe,hce⟩
  ·subst kk
   refine aa3 (D1.item k _ _ _ k1 (cN D1 st1 Zn ap.z1) λx Zs Ye p1 u1 Zi=>ab0 ?_);have Z5:IsPair Zs TO a b:=Zi.extBut _ _ c3 (Zn.extBut _ _ ap.a2 qO);refine aa3 (ag0 Z5 rfl ?_);refine aa3 (al4 Z5 λZ0 Yb Zo=>?_);refine aa3 (wpAny_letGo (ab0 ?_));refine aa3 (aa3 (an7 ?_));show wpAny _ _ (Builtin.SmallTypes.nextOf (.ref i2) >>= _) _ _ _;refine aa3 (D2.done _ _ _ (cN D2 (cN D2 (cN D2 st2 Zn ap.z2) Zi ap.n1) Zo ap.o2) λZk e Zm he=>?_);obtain⟨oe,hoe,hce⟩:=he;have Yd:kO Zk z TI TO .ellipsis b1:=Zm _ _ c2.symm (Zo.extBut _ _ ap.a2.symm (Zi.extBut _ _ c1.symm Zx))
   have ez:e≠z:=λq=>by subst q;rw [Yd]at hoe;cases hoe;simp at hce
   exact ag4 Yd (by simp) λZj _ Zy=>hE Zj e _ (λc o d1 d2 d3 d4 q=>Zy.extBut _ _ d1 (Zm _ _ d4 (Zo.extBut _ _ d2 (Zi.extBut _ _ d3 (Zn.extBut _ _ d1 q))))) ⟨oe,Zy.extBut _ _ ez hoe,hce⟩
 ·simp only [ae2,if_false]
  refine aa3 ?_;refine wpAny_arrayLoop ?_;simp only [af6,ak9];refine aa3 (aa3 (ae7 ?_));show wpAny _ _ (Builtin.SmallTypes.nextOf (.ref i1) >>= _) _ _ _;rcases kk with kk | ⟨k1,kk⟩
  ·subst kk
   refine aa3 (D1.done _ _ _ (cN D1 st1 Zu ap.z1) λZs e Zi he=>?_);exact hE Zs e _ (λc o d1 _ d3 _ q=>Zi _ _ d3 (Zu.extBut _ _ d1 q)) he
  ·subst kk
   refine aa3 (D1.item k _ _ _ k1 (cN D1 st1 Zu ap.z1) λx Zs Ye p1 u1 Zi=>ab0 ?_);refine ab0 ?_;refine aa3 (aa3 (ae7 ?_));show wpAny _ _ (Builtin.SmallTypes.nextOf (.ref i2) >>= _) _ _ _;refine aa3 (D2.done _ _ _ (cN D2 (cN D2 st2 Zu ap.z2) Zi ap.n1) λZk e Zm he=>?_);exact hE Zk e _ (λc o d1 d2 d3 d4 q=>Zm _ _ d4 (Zi.extBut _ _ d3 (Zu.extBut _ _ d1 q))) he
theorem nextZip_item{Q:Option Value->Shared->Prop}(D1:Draws prog w A.in1 i1 f1 n1 P1 S1)(D2:Draws prog w A.in1 i2 f2 n2 P2 S2)(ap:ZAp z TI TO i1 i2 f1 f2)(qz:IsZip s.heap z TI TO .none)(qI:IsPair s.heap TI (.ref i1) (.ref i2))(qO:IsPair s.heap TO a b)
  (st1:S1 k s.heap) (st2:S2 k s.heap) (k1:k < n1) (k2:k < n2)
  (hQ:∀x y h' tk,P1 k x->P2 k y->IsZip h' z TI TO (rawInt s.heap.objs.size)->(∃a b,IsPair h' TO a b)->S1 (k+1) h'->S2 (k+1) h'->IsPair h' s.heap.objs.size x y->h'.objs.size=s.heap.objs.size+1->
   (∀c o,c≠z->c≠TO->c≠i1->c≠i2->s.heap.get? c=some o->h'.get? c=some o)->Q (some (.ref s.heap.objs.size)) { s with heap:=h',toks:=tk }):wpAny (model prog w) A (pyNext (.ref z)) Q E s:=by
 have ty:s.TypeIs (.ref z) "zip":=⟨_,qz,rfl⟩;unfold pyNext
 exact aa3 (wpAny_attempt (wpAny_callSpecial?_slot (name:=Str.ofString "__next__") ty F.slot_zip_next (ag2 F.slot_zip_next ty F.entry_zip_next
   (y7 D1 D2 ap qz (.inl rfl) qI qO st1 st2 k1 k2 λx y h' tk b1 b2 b3 b4 b5 b6 b7 b8 b9 b10 b11=>ab0 (hQ x y h' tk b1 b2 (b4 rfl) b6 b7 b8 b9 b10 b11)) (F.args_zip_next_1 _))))
theorem nextZip_end{Q:Option Value->Shared->Prop}(D1:Draws prog w A.in1 i1 f1 n1 P1 S1)(D2:Draws prog w A.in1 i2 f2 n2 P2 S2)(ap:ZAp z TI TO i1 i2 f1 f2)(qz:IsZip s.heap z TI TO .none)(qI:IsPair s.heap TI (.ref i1) (.ref i2))(qO:IsPair s.heap TO a b)
  (st1:S1 k s.heap) (st2:S2 k s.heap) (kk:k=n1\/(k < n1/\k=n2))
  (hQ:∀h' tk,(∀c o,c≠z->c≠TO->c≠i1->c≠i2->s.heap.get? c=some o->h'.get? c=some o)->Q none { s with heap:=h',toks:=tk }):wpAny (model prog w) A (pyNext (.ref z)) Q E s:=by
 have ty:s.TypeIs (.ref z) "zip":=⟨_,qz,rfl⟩;unfold pyNext;refine aa3 (wpAny_attempt (wpAny_callSpecial?_slot (name:=Str.ofString "__next__") ty F.slot_zip_next (ag2 F.slot_zip_next ty F.entry_zip_next (BG D1 D2 ap qz (.inl rfl) qI qO st1 st2 kk λh' e tk hk he=>?_) (F.args_zip_next_1 _))));obtain⟨oe,hoe,hce⟩:=he;exact aa3 (an9 (T:="StopIteration") (b:=true) ⟨oe,hoe,hce⟩ isSubtype_stop (ab0 (hQ _ _ hk)))
end
def itRec(l:Bool)(a:Addr):Obj:={ cls:=.type (if l then "list_iterator" else "tuple_iterator"),data:=.fields #[.ref a,.int 0 0] }
def IsSeq(l:Bool)(h:Heap)(a:Addr)(xs:Array Value):Prop:=if l=true then h.IsList a xs else h.IsTuple a xs
theorem IsSeq.push{l:Bool}{h:Heap}{a:Addr}{xs:Array Value}(q:IsSeq l h a xs)(o:Obj):IsSeq l (h.push o) a xs:=by
 cases l
 ·exact Heap.IsTuple.push (show h.IsTuple a xs from q) o
 ·exact Heap.IsList.push (show h.IsList a xs from q) o
theorem iY{prog:Program}{w:World}{A:Around}{E:Value->Shared->Prop}{s:Shared}{l:Bool}{a:Addr}{xs:Array Value}{Q:Value->Shared->Prop}(q:IsSeq l s.heap a xs)(h:Q (.ref s.heap.objs.size) { s with heap:=s.heap.push (itRec l a) }):wpAny (model prog w) A (pyIter (.ref a)) Q E s:=by
 cases l
 ·exact wpAny_pyIter_tuple (show s.heap.IsTuple a xs from q) h
 ·exact an2 (show s.heap.IsList a xs from q) h
abbrev GX(h:Heap)(l1:Bool)(a1:Addr):Heap:=h.push (itRec l1 a1)
abbrev GY(h:Heap)(l1 l2:Bool)(a1 a2:Addr):Heap:=(GX h l1 a1).push (itRec l2 a2)
abbrev GZ(h:Heap)(l1 l2:Bool)(a1 a2:Addr):Heap:=(GY h l1 l2 a1 a2).push { cls:=.type "tuple",data:=.seq #[.ref h.objs.size,.ref (GX h l1 a1).objs.size] }
abbrev G0(h:Heap)(l1 l2:Bool)(a1 a2:Addr):Heap:=(GZ h l1 l2 a1 a2).push { cls:=.type "tuple",data:=.seq #[.none,.none] }
abbrev Fl(h:Heap)(l1 l2:Bool)(a1 a2:Addr):Heap:=(G0 h l1 l2 a1 a2).push { cls:=.type "zip",data:=.fields #[.none,.bool false,.bool false,.ref (GY h l1 l2 a1 a2).objs.size,.ref (GZ h l1 l2 a1 a2).objs.size] }
theorem yw(l1 l2:Bool)(a1 a2:Addr)(xs ys:Array Value):
  Meets (Builtin.«zip.__new__» ⟨[.type "zip",.ref a1,.ref a2],[]⟩) (λ_ R s=>IsSeq l1 s.heap a1 xs/\IsSeq l2 s.heap a2 ys/\R (.ok (.ret (.ref (G0 s.heap l1 l2 a1 a2).objs.size))) { s with heap:=Fl s.heap l1 l2 a1 a2 }):=
 .of_wp λprog w A R s h=>by
  obtain⟨hp,g,d,tk,os⟩:=s;obtain⟨q1,q2,h⟩:=h;have hsub:=sub_zip;have u1:IsSeq l1 (Shared.heap ⟨hp,g,d,tk,os⟩) a1 xs:=q1;have u2:IsSeq l2 (Shared.heap ⟨hp.push (itRec l1 a1),g,d,tk,os⟩) a2 ys:=IsSeq.push q2 _
  wp_walk using iY u1,iY u2
  exact⟨_,rfl,h⟩
section
variable {prog:Program} {w:World} {A:Around} {E:Value->Shared->Prop} {s:Shared}
theorem call_zip{l1 l2:Bool}{a1 a2:Addr}{xs ys:Array Value}{Q:Value->Shared->Prop}(q1:IsSeq l1 s.heap a1 xs)(q2:IsSeq l2 s.heap a2 ys)
  (h:∀h',IsZip h' (s.heap.objs.size+4) (s.heap.objs.size+2) (s.heap.objs.size+3) .none->IsPair h' (s.heap.objs.size+2) (.ref s.heap.objs.size) (.ref (s.heap.objs.size+1))->
   IsPair h' (s.heap.objs.size+3) .none .none->h'.get? s.heap.objs.size=some (itRec l1 a1)->h'.get? (s.heap.objs.size+1)=some (itRec l2 a2)->h'.objs.size=s.heap.objs.size+5->
   (∀c o,s.heap.get? c=some o->h'.get? c=some o)->Q (.ref (s.heap.objs.size+4)) { s with heap:=h' }):wpAny (model prog w) A (call (.type "zip") [.ref a1,.ref a2]) Q E s:=by
 refine callType_new F.called_zip ∅ (F.typeCall_zip_2 _ _) (F.newCall_zip_2 _ _) (λobj=>F.args_object_init_3 obj _ _) F.entry_zip_new (yw l1 l2 a1 a2 xs ys) ⟨q1,q2,?_⟩;have e1:(GX s.heap l1 a1).objs.size=s.heap.objs.size+1:=ae9 ..
 have e2:(GY s.heap l1 l2 a1 a2).objs.size=s.heap.objs.size+2:=by rw [ae9,e1]
 have e3:(GZ s.heap l1 l2 a1 a2).objs.size=s.heap.objs.size+3:=by rw [ae9,e2]
 have e4:(G0 s.heap l1 l2 a1 a2).objs.size=s.heap.objs.size+4:=by rw [ae9,e3]
 have e5:(Fl s.heap l1 l2 a1 a2).objs.size=s.heap.objs.size+5:=by rw [ae9,e4]
 have g5:(Fl s.heap l1 l2 a1 a2).get? (G0 s.heap l1 l2 a1 a2).objs.size=some _:=ab9 _ rfl;have g4:(Fl s.heap l1 l2 a1 a2).get? (GZ s.heap l1 l2 a1 a2).objs.size=some _:=aa5 _ (ab9 _ rfl);have g3:(Fl s.heap l1 l2 a1 a2).get? (GY s.heap l1 l2 a1 a2).objs.size=some _:=aa5 _ (aa5 _ (ab9 _ rfl));have g2:(Fl s.heap l1 l2 a1 a2).get? (GX s.heap l1 a1).objs.size=some (itRec l2 a2):=aa5 _ (aa5 _ (aa5 _ (ab9 _ rfl)));have g1:(Fl s.heap l1 l2 a1 a2).get? s.heap.objs.size=some (itRec l1 a1):=aa5 _ (aa5 _ (aa5 _ (aa5 _ (ab9 _ rfl))));show _/\_;rw [e2,e3,e4]at g5;rw [e1,e2]at g3;rw [e3]at g4;rw [e1]at g2;rw [e4];exact⟨⟨_,g5,rfl⟩,h _ g5 g3 g4 g1 g2 e5 λc o q=>aa5 _ (aa5 _ (aa5 _ (aa5 _ (aa5 _ q))))⟩
end
end L3
namespace L2
open PySem PySem.Spec PyProof.Rows
variable {H:Hp} {X:Cx} {a it:Addr} {h:Heap} {l:Bool} {pins:List (Addr×Obj)} {s:Shared} {xs:List V} {Z:St}
def jy(K:Frag)(l:Bool)(H:Hp)(a:Addr)(xs:List V):Prop:=if l=true then aJ K H a xs else cI K H a xs
def kI(l:Bool)(h:Heap)(it a:Addr)(i:Nat):Prop:=if l=true then h.IsListIter it a i else h.IsTupleIter it a i
theorem kI.at{h':Heap}{i:Nat}(x:kI l h it a i)(e:∀o,h.get? it=some o->h'.get? it=some o):kI l h' it a i:=by
 cases l
 ·exact Heap.IsTupleIter.at (show h.IsTupleIter it a i from x) e
 ·exact Heap.IsListIter.at (show h.IsListIter it a i from x) e
theorem kI.rec(e:h.get? it=some (L3.itRec l a)):kI l h it a 0:=by
 cases l
 ·exact⟨_,e,rfl,rfl⟩
 ·exact⟨_,e,rfl,rfl⟩
theorem kI.obj{i:Nat}(x:kI l h it a i):∃o,h.get? it=some o/\∀v,o.data≠.cell v:=by
 cases l
 ·obtain⟨o,e,_,d⟩:=(show h.IsTupleIter it a i from x)
  exact⟨o,e,λv z=>by rw [d]at z;cases z⟩
 ·obtain⟨o,e,_,d⟩:=(show h.IsListIter it a i from x)
  exact⟨o,e,λv z=>by rw [d]at z;cases z⟩
theorem fX{P:Program}{w:World}{A:Around}(hh:A.handled=none)(l:Bool)(it a:Addr)(hne:a≠it)(its:Array Value):
  Draws P w A it [it,a] its.size (λi v=>its[i]?=some v) (λi h=>kI l h it a i/\L3.IsSeq l h a its):=by
 cases l
 ·exact L3.draws_tuple hh it a hne its
 ·exact Draws.list hh it a hne its
theorem aO.seqB(I:aO X pins Z H s)(h:jy X.K l H a xs):∃its:List Value,aX xs its/\L3.IsSeq l s.heap a its.toArray/\xs.length<=sizeLine:=by
 cases l
 ·obtain⟨its,r,p,z⟩:=I.tuple (show cI X.K H a xs from h)
  exact⟨its,r,p,z⟩
 ·obtain⟨its,r,p,z⟩:=I.list (show aJ X.K H a xs from h)
  exact⟨its,r,p.isList,z⟩
theorem aO.seqB_inj{ys:List V}(I:aO X pins Z H s)(h:jy X.K l H a xs)(h':jy X.K l H a ys):xs=ys:=by
 cases l
 ·exact I.tuple_inj (show cI X.K H a xs from h) h'
 ·exact I.list_inj (show aJ X.K H a xs from h) h'
theorem aO.seqB_ne{b:Addr}(I:aO X pins Z H s)(h:jy X.K l H a xs)(f:m9 X pins H b):a≠b:=by
 obtain⟨f0,_,_,f3,_,_⟩:=f
 have tr:∀{o:HO},Rd H a o->a≠b:=λ{o} r=>by
  rcases r with r | ⟨_,r⟩
  ·exact ao r f0
  ·exact ao r f0
 have kb:∀{o:Obj},X.K.lookup a=some o->a≠b:=λ{o} hk=>by
  have hb:=I.ok.mod.kin a o hk;rcases f3 with z | z
  ·exact λq=>I.ok.noex a o hb (q▸z)
  ·exact ad3 (ab3 (ac1 hb) (ab6 I.ok.bsz z))
 cases l
 ·rcases(show cI X.K H a xs from h)with h | ⟨o,_,_,hk,_⟩
  ·exact tr h
  ·exact kb hk
 ·rcases(show aJ X.K H a xs from h)with h | ⟨o,_,_,hk,_⟩
  ·exact tr h
  ·exact kb hk
def G6(K:Frag)(l1 l2:Bool)(a1 a2:Addr):It:=
 ⟨λi H=>∃xs ys x y,jy K l1 H a1 xs/\jy K l2 H a2 ys/\xs[i]?=some x/\ys[i]?=some y,
  λi H v H'=>∃p x y,v=.ref p/\H p=none/\H'=upd H p (.tup [x,y])/\(∀xs,jy K l1 H a1 xs->xs[i]?=some x)/\∀ys,jy K l2 H a2 ys->ys[i]?=some y,
  λi H=>∃xs ys,jy K l1 H a1 xs/\jy K l2 H a2 ys/\(i=xs.length\/(i < xs.length/\i=ys.length))⟩
theorem BC{P:Program}{w:World}{K:Frag}{elts:List Expr}{kt:Nat}{pt:Pos}(l1 l2:Bool)(a1 a2 z TI TO i1 i2:Addr)(nd:[z,TI,TO,i1,i2].Nodup):
  rX P w K (.Tuple elts kt pt) (G6 K l1 l2 a1 a2) [z,TI,TO,i1,i2] z
   (λi h=>IsZip h z TI TO .none/\IsPair h TI (.ref i1) (.ref i2)/\(∃a b,IsPair h TO a b)/\kI l1 h i1 a1 i/\kI l2 h i2 a2 i):=by
 have nd':(z≠TI/\z≠TO/\z≠i1/\z≠i2)/\(TI≠TO/\TI≠i1/\TI≠i2)/\(TO≠i1/\TO≠i2)/\i1≠i2:=by
  simpa [not_or]using nd
 obtain⟨⟨d1,d2,d3,d4⟩,⟨d5,d6,d7⟩,⟨d8,d9⟩,d10⟩:=nd'
 have zap:∀{X:Cx} {pins:List (Addr×Obj)} {Z:St} {H:Hp} {s:Shared} {xs ys:List V},aO X pins Z H s->(∀b∈[z,TI,TO,i1,i2],m9 X pins H b)->jy X.K l1 H a1 xs->jy X.K l2 H a2 ys->L3.ZAp z TI TO i1 i2 [i1,a1] [i2,a2]:=λ{X pins Z H s xs ys} I hf q1 q2=>by
  have n1:∀b∈[z,TI,TO,i1,i2],a1≠b:=λb hb=>I.seqB_ne q1 (hf b hb);have n2:∀b∈[z,TI,TO,i1,i2],a2≠b:=λb hb=>I.seqB_ne q2 (hf b hb);refine⟨d1.symm,d2.symm,d5,by simp,by simp,?_,?_,?_,?_,?_,?_,?_,?_⟩
  ·simp only [ab2,ad2,or_false,not_or];exact⟨d3,(n1 z (by simp)).symm⟩
  ·simp only [ab2,ad2,or_false,not_or];exact⟨d4,(n2 z (by simp)).symm⟩
  ·simp only [ab2,ad2,or_false,not_or];exact⟨d6,(n1 TI (by simp)).symm⟩
  ·simp only [ab2,ad2,or_false,not_or];exact⟨d7,(n2 TI (by simp)).symm⟩
  ·simp only [ab2,ad2,or_false,not_or];exact⟨d8,(n1 TO (by simp)).symm⟩
  ·simp only [ab2,ad2,or_false,not_or];exact⟨d9,(n2 TO (by simp)).symm⟩
  ·simp only [ab2,ad2,or_false,not_or];exact⟨d10,(n2 i1 (by simp)).symm⟩
  ·simp only [ab2,ad2,or_false,not_or];exact⟨d10.symm,(n1 i2 (by simp)).symm⟩
 refine⟨by simp,?_,?_,?_,?_,?_⟩
 ·rintro i h ⟨qz,qI,⟨a,b,qO⟩,u1,u2⟩ c hc
  have hc':c=z\/c=TI\/c=TO\/c=i1\/c=i2:=by simpa using hc
  rcases hc' with e | e | e | e | e
  ·subst e;exact⟨_,qz,λv q=>by cases q⟩
  ·subst e;exact⟨_,qI,λv q=>by cases q⟩
  ·subst e;exact⟨_,qO,λv q=>by cases q⟩
  ·subst e;exact u1.obj
  ·subst e;exact u2.obj
 ·rintro i h h' ⟨qz,qI,⟨a,b,qO⟩,u1,u2⟩ k
  exact⟨k z (by simp) _ qz,k TI (by simp) _ qI,⟨a,b,k TO (by simp) _ qO⟩,u1.at λo e=>k i1 (by simp) o e,u2.at λo e=>k i2 (by simp) o e⟩
 ·rintro X hP hw hK hc i pins s Z H E I hf ⟨qz,qI,⟨a,b,qO⟩,u1,u2⟩ ⟨xs,ys,x,y,q1,q2,hx,hy⟩
  subst hP hw hK;have hh:X.A.in1.handled=none:=I.ok.hd hc;obtain⟨its1,r1,p1,z1⟩:=I.seqB q1;obtain⟨its2,r2,p2,z2⟩:=I.seqB q2;have D1:=fX (P:=X.prog) (w:=X.w) hh l1 i1 a1 (I.seqB_ne q1 (hf i1 (by simp))) its1.toArray;have D2:=fX (P:=X.prog) (w:=X.w) hh l2 i2 a2 (I.seqB_ne q2 (hf i2 (by simp))) its2.toArray
  have lx:i < its1.toArray.size:=by
   have:=(aa1.mp hx).1
   rw [ab1,<-r1.length];exact this
  have ly:i < its2.toArray.size:=by
   have:=(aa1.mp hy).1
   rw [ab1,<-r2.length];exact this
  refine L3.nextZip_item D1 D2 (zap I hf q1 q2) qz qI qO ⟨u1,p1⟩ ⟨u2,p2⟩ lx ly λv1 v2 h' tk e1 e2 z' o' s1' s2' pr sz kk=>?_;obtain⟨w1,g1,rx⟩:=r1.get hx;obtain⟨w2,g2,ry⟩:=r2.get hy
  have ev1:v1=w1:=by
   have:its1[i]?=some v1:=by simpa using e1
   rw [g1]at this;exact(Option.some.inj this).symm
  have ev2:v2=w2:=by
   have:its2[i]?=some v2:=by simpa using e2
   rw [g2]at this;exact(Option.some.inj this).symm
  subst ev1 ev2;obtain⟨oa,ob,o'⟩:=o';refine⟨_,rfl,wpAny_letOwnedTupleGo_zip (s:={ s with heap:=h',toks:=tk }) z' λh2 z2' sb=>?_⟩;have fz:s.heap.objs.size≠z:=aj7 (ac1 qz);have Hn:H s.heap.objs.size=none:=I.hok.fresh (aa9 _)
  have kp:∀c o,c∉[z,TI,TO,i1,i2]->s.heap.get? c=some o->h2.get? c=some o:=λc o hc e=>by
   have hc':c≠z/\c≠TI/\c≠TO/\c≠i1/\c≠i2:=by simpa [not_or]using hc
   exact(sb.2 c hc'.1).trans (kk c o hc'.1 hc'.2.2.1 hc'.2.2.2.1 hc'.2.2.2.2 e)
  have nf:∀{c:Addr} {u:HO},H c=some u->c∉[z,TI,TO,i1,i2]:=λ{c u} e hc=>by
   have:=(hf c hc).1
   rw [e]at this;cases this
  have pr2:h2.get? s.heap.objs.size=some { cls:=.type "tuple",data:=.seq #[v1,v2] }:=(sb.2 _ fz).trans pr
  have I2:aO X pins Z (upd H s.heap.objs.size (.tup [x,y])) { s with heap:=h2,toks:=tk }:=by
   refine I.step (g':=s.gens) (d':=s.drawn) (ch:=[z,TI,TO,i1,i2]) (λc hc=>⟨(hf c hc).2.2.2.1,(hf c hc).2.1,(hf c hc).2.2.2.2.1,(hf c hc).2.2.2.2.2⟩) (λc o _ _ hc e _=>kp c o hc e) (λc o _ _ hc e _=>⟨o.slots,kp c o hc e⟩)
    (λc o _ e n=>by rw [aj (ad3 (ac1 e))];exact n) (λc o hc e=>⟨o,kp c o hc e⟩) (λc us e=>by rw [aj (ao e Hn)];exact e) (λc o u e=>by rw [aj (ao e Hn)];exact e)
    (λc ps e=>⟨#[],by rw [aj (ao e Hn),e];simp⟩) (λm hm=>?_) (λc u e=>?_) I.bare
   ·obtain⟨o,es,ep,ho,r⟩:=hm
    exact⟨o,es,ep,kp _ o (λq=>(hf _ q).2.1 rfl) ho,r⟩
   ·by_cases hcs:c=s.heap.objs.size
    ·subst hcs
     rw [ae]at e;cases e;exact⟨by rw [sizeLine_eq];show 2<=16777216;omega,[v1,v2],.cons rx (.cons ry .nil),_,pr2,rfl,_,rfl⟩
    ·rw [aj hcs]at e
     refine(I.hok c u e).stay (λd o hd q=>kp d o ?_ q) (λd q=>by rw [aj (ao q Hn)];exact q) λd us q=>by rw [aj (ao q Hn)];exact q
     rcases hd with hd | hd
     ·rw [hd];exact nf e
     ·exact nf hd
  refine⟨.ref s.heap.objs.size,_,I2,rfl,⟨_,x,y,rfl,Hn,rfl,λus hu=>by rw [I.seqB_inj hu q1];exact hx,λus hu=>by rw [I.seqB_inj hu q2];exact hy⟩,⟨z2',?_,⟨oa,ob,?_⟩,?_,?_⟩,λc hc=>?_⟩
  ·exact(sb.2 _ d1.symm).trans (kk TI _ d1.symm d5 d6 d7 qI)
  ·exact(sb.2 _ d2.symm).trans o'
  ·exact s1'.1.at λo e=>(sb.2 _ d3.symm).trans e
  ·exact s2'.1.at λo e=>(sb.2 _ d4.symm).trans e
  ·show upd H s.heap.objs.size (.tup [x,y]) c=none
   have lt:c < s.heap.objs.size:=by
    have hc':c=z\/c=TI\/c=TO\/c=i1\/c=i2:=by simpa using hc
    rcases hc' with e | e | e | e | e
    ·subst e;exact ac1 qz
    ·subst e;exact ac1 qI
    ·subst e;exact ac1 qO
    ·subst e;obtain⟨o,e,_⟩:=u1.obj;exact ac1 e
    ·subst e;obtain⟨o,e,_⟩:=u2.obj;exact ac1 e
   rw [aj (ad3 lt)];exact(hf c hc).1
 ·rintro X hP hw hK hc i pins s Z H E I hf ⟨qz,qI,⟨a,b,qO⟩,u1,u2⟩ ⟨xs,ys,q1,q2,hend⟩
  subst hP hw hK;have hh:X.A.in1.handled=none:=I.ok.hd hc;obtain⟨its1,r1,p1,z1⟩:=I.seqB q1;obtain⟨its2,r2,p2,z2⟩:=I.seqB q2;have D1:=fX (P:=X.prog) (w:=X.w) hh l1 i1 a1 (I.seqB_ne q1 (hf i1 (by simp))) its1.toArray;have D2:=fX (P:=X.prog) (w:=X.w) hh l2 i2 a2 (I.seqB_ne q2 (hf i2 (by simp))) its2.toArray
  have kk:i=its1.toArray.size\/(i < its1.toArray.size/\i=its2.toArray.size):=by
   rw [ab1,ab1,<-r1.length,<-r2.length];exact hend
  refine L3.nextZip_end D1 D2 (zap I hf q1 q2) qz qI qO ⟨u1,p1⟩ ⟨u2,p2⟩ kk λh' tk k=>⟨rfl,?_⟩
  have nf:∀{c:Addr} {u:HO},H c=some u->c∉[z,TI,TO,i1,i2]:=λ{c u} e hc=>by
   have:=(hf c hc).1
   rw [e]at this;cases this
  have kp:∀c o,c∉[z,TI,TO,i1,i2]->s.heap.get? c=some o->h'.get? c=some o:=λc o hc e=>by
   have hc':c≠z/\c≠TI/\c≠TO/\c≠i1/\c≠i2:=by simpa [not_or]using hc
   exact k c o hc'.1 hc'.2.2.1 hc'.2.2.2.1 hc'.2.2.2.2 e
  refine I.step (g':=s.gens) (d':=s.drawn) (ch:=[z,TI,TO,i1,i2]) (λc hc=>⟨(hf c hc).2.2.2.1,(hf c hc).2.1,(hf c hc).2.2.2.2.1,(hf c hc).2.2.2.2.2⟩) (λc o _ _ hc e _=>kp c o hc e) (λc o _ _ hc e _=>⟨o.slots,kp c o hc e⟩)
    (λc o _ e n=>n) (λc o hc e=>⟨o,kp c o hc e⟩) (λc us e=>e) (λc o u e=>e) (λc ps e=>⟨#[],by rw [e];simp⟩) (λm hm=>?_) (λc u e=>?_) I.bare
  ·obtain⟨o,es,ep,ho,r⟩:=hm
   exact⟨o,es,ep,kp _ o (λq=>(hf _ q).2.1 rfl) ho,r⟩
  ·refine(I.hok c u e).stay (λd o hd q=>kp d o ?_ q) (λd q=>q) λd us q=>q
   rcases hd with hd | hd
   ·rw [hd];exact nf e
   ·exact nf hd
 ·rintro A i s Q E ⟨qz,_⟩ h
  exact wpAny_pyIter_zip qz h
def FV(K:Frag)(ta:TA):TI:=λZ H R=>ta Z H λvs H1=>∃l1 l2 a1 a2,vs=[.ref a1,.ref a2]/\(∃xs,jy K l1 H1 a1 xs)/\(∃ys,jy K l2 H1 a2 ys)/\R (G6 K l1 l2 a1 a2) H1
theorem EL{elts:List Expr}{kt:Nat}{pt:Pos}{a b:Expr}{ta:TA}{p pos:Pos}(hg:Gl X "zip")(hm:X.mg "zip"=none)(ha:PA X [a,b] ta)(hs:starEach [a,b] X.env=[(false,eval a X.env),(false,eval b X.env)]:=by rfl)(hs2:starEach [b] X.env=[(false,eval b X.env)]:=by rfl):
  PI X (.Tuple elts kt pt) (.Call (.Name "zip" p) [a,b] [] pos) (FV X.K ta):=by
 intro pins s Z H R I h;refine Call_ (gH I hg hm boot_zip (PyProof.Rows.callWith_type1 (cW (ha pos pins s Z H _ I h) λus s1 zq0=>?_) (by rw [hs,hs2]) (by rw [hs2];rfl)));obtain⟨vs,H1,I1,r1,l1,l2,a1,a2,e,⟨xs,q1⟩,⟨ys,q2⟩,q⟩:=zq0;subst e;obtain⟨u,u',rfl,e1,e2⟩:=u4 r1;cases e1;cases e2;obtain⟨its1,r1,p1,z1⟩:=I1.seqB q1;obtain⟨its2,r2,p2,z2⟩:=I1.seqB q2;refine L3.call_zip p1 p2 λh' qz qI qO g1 g2 sz kp=>wpAny_pyIter_zip qz ?_
 refine⟨s1.heap.objs.size+4,[s1.heap.objs.size+4,s1.heap.objs.size+2,s1.heap.objs.size+3,s1.heap.objs.size,s1.heap.objs.size+1],_,_,H1,rfl,I1.kept (h':=h') (t':=s1.toks) kp,
  BC l1 l2 a1 a2 _ _ _ _ _ (by simp),⟨qz,qI,⟨_,_,qO⟩,kI.rec g1,kI.rec g2⟩,λc hc=>?_,q⟩
 have hc':s1.heap.objs.size<=c:=by
  have:c=s1.heap.objs.size+4\/c=s1.heap.objs.size+2\/c=s1.heap.objs.size+3\/c=s1.heap.objs.size\/c=s1.heap.objs.size+1:=by simpa using hc
  rcases this with e | e | e | e | e<;>(rw [e];first | exact aa9 _ | exact Nat.le_add_right _ _)
 exact I1.fpOk hc' (I1.hok.fresh hc')
def Ite(K:Frag)(a:Addr):It:=
 ⟨λi H=>∃xs x,aJ K H a xs/\xs[i]?=some x,
  λi H v H'=>∃p x,v=.ref p/\H p=none/\H'=upd H p (.tup [.int i,x])/\∀xs,aJ K H a xs->xs[i]?=some x,
  λi H=>∃xs,aJ K H a xs/\i=xs.length⟩
def FR(K:Frag)(ta:TA):TI:=λZ H R=>ta Z H λvs H1=>∃a,vs=[.ref a]/\(∃xs,aJ K H1 a xs)/\R (Ite K a) H1
end L2
namespace L2
open PySem PySem.W PySem.Spec PySem.Calls PyProof.Rows
variable {x:Str}
def GB:Nat:=1048576
theorem kW:∀{ns:List Int},WData.weightAll (ns.map WData.int)<=2 ^ 20->∀x∈ns,x.natAbs < 2 ^ GB
 | [],_,_,h=>nomatch h
 | n::ns,hw,x,h=>by
  have e:WData.weightAll ((n::ns).map WData.int)=(if n == 0 then 0 else n.natAbs.log2+1)+1+WData.weightAll (ns.map WData.int):=by
   simp only [ac7,WData.weightAll,WData.weight]
  rw [e]at hw;rcases ab2.mp h with rfl | h
  ·by_cases h0:x=0
   ·subst h0;exact Nat.two_pow_pos _
   ·have hb:(x == 0)=false:=by simpa using h0
    rw [hb]at hw
    have hl:x.natAbs.log2 < GB:=by
     have:(2:Nat) ^ 20=GB:=by decide
     rw [<-this];simp only [ae2,if_false]at hw;omega
    exact(Nat.log2_lt ()).mp hl
  ·exact kW (ns:=ns) () x h
theorem yR{ns:List Int}(h:WData.layableAll [WData.list (ns.map WData.int)]=true):∀x∈ns,x.natAbs < 2 ^ GB:=by
 have h1:=(layableW_iff.mp (layableW_arg h _ ad8)).2.2;exact kW (by simpa only [WData.weight]using h1)
theorem walk_ofB{l:PySem.W.OpenLaw}{n k:Nat}{q:Program}{loose:List Str}{XP:(Str->Option Value)->Heap->Prop}{YP:World->Heap->Prop}{d:DefRec}{K:Params->Frag}{CX:World->BH}{sp:World->Sp}
  (hn:l.most=some n) (hn2:n<=sizeLine) (hdf:d.params.defaults=[]) (hr:dX k callerA)
  (hY:∀(w:World) (h:Heap),YP w h->(K w.params).In h)
  (F:∀(w:World) (mg:Str->Option Value) (fa:Addr) (h:Heap),(K w.params).In h->h.Ns mainGlobals mg->mg d.name=some (.ref fa)->
   ∃fd:FuncData,(∀(s:Shared) (u:Value),BindsTo s fd ⟨[u],[]⟩ [(x,u)])/\∀base:Heap,(K w.params).In base->base.Ns mainGlobals mg->aL l.prog w (K w.params) mg base (CX w) k fa fd [x] (sp w))
  (hsp:∀(w:World) (H:Hp) (a:Addr) (ns:List Int),ns.length<=n->(∀x∈ns,x.natAbs < 2 ^ GB)->Ee H->aJ (K w.params) H a (ns.map V.int)->sp w [.ref a] H (λv _=>v=.bl true) λ_ _ _=>False)
  (hCX:∀(w:World) (H:Hp) (s:Shared) (e:Value) (s':Shared),CX w [] H s (λ_ _ _=>False) e s'->False) :
  PySem.W.WalkO q loose XP YP l.row.toRowW d [] (λf vs=>PySem.call f vs):=by
 intro w Zh Zg mg mb G Y fa o pm cd doc dV kV ho hd hcd hD hmg hg args vals as hpre hlay hrd hwl hlo;obtain rfl:dV=.none:=Dflts.none hD hdf;obtain rfl:kV=.none:=Dflts.noKw hD;obtain⟨a,vs,ns,rfl,rfl,hobj,hints,hlen⟩:=Att.script_of hn hpre hwl;have KX:=hY w _ Y;obtain⟨fd,hb,hF⟩:=F w mg fa _ KX G.T.g hmg;refine enter_call (ao4 (Am KX G.T.g G.T.b G.T.builtins G.T.nolimit hg hobj hints (ab6 hlen hn2) hr hF hb (λH hO hS=>hsp w H a ns hlen (yR hlay) hO hS) λH e s'=>hCX w H Zg e s') λr s' hq=>?_);obtain⟨rfl,h2,h3,h4⟩:=hq;exact⟨.inl ⟨.bool true,.bool true,[],rfl,λ_=>rfl,.bool true,Att.post_true l _,λ_=>⟨List.Pairwise.nil,λ_ hm=>(nomatch hm)⟩⟩,h2,h3,h4⟩
structure bw(K:Frag)(x:Str)(st:Stmt)(f:Addr)(fd:FuncData):Prop where
 ns:nsIn K mainGlobals x=some (some (.ref f))
 fn:b0 K x x st f fd
theorem defAt_mk{K:Frag}{st:Stmt}{f:Addr}{oc:Value}{od an:Option Addr}{osl:Array (Option Value)}{kV doc pm cdv ct:Value}(a:nsIn K mainGlobals x=some (some (.ref f)))
  (l:K.lookup f=some ⟨oc,od,.func (fnOf x x (cu st) (bX st) (ak st) .none kV doc pm an cdv ct),osl⟩) (c:codeIn K cdv x=true) (k:keepIn K (.ref f)=true):∃f fd,bw K x st f fd:=
 ⟨f,_,a,fun_mk l c k⟩
theorem bw.df{P:Program}{w:World}{K:Frag}{mg:Str->Option Value}{base h:Heap}{st:Stmt}{f:Addr}{fd:FuncData}{k:Nat}{ps:List Str}{sp:Sp}(A:bw K x st f fd)(X:K.In h)(G:h.Ns mainGlobals mg)
  (ok:aL P w K mg base bU k f fd ps sp) (b:dn K fd ps []):cB P w K mg base x k ps sp:=⟨f,fd,ok,mg_of X G A.ns,A.fn.kp,b⟩
end L2
namespace L2
open PySem PySem.Spec PyProof.Rows
variable {H:Hp} {K:Frag} {Q:VK} {X:Cx} {a:Addr} {e:Expr} {es:List Expr} {f:Value->Value->Sem Value} {i j:Int} {k n:Nat} {mg:Str->Option Value} {v x y:V} {xs:List V} {z:Str} {Z:St}
def zf(g:TG)(tb:TS)(D:jK)(Z:St)(J:It)(H:Hp):Prop:=∃W:Nat->Nat->St->Hp->Prop,(∃m,W 0 m Z H)/\∀i m Z H,W i m Z H->
 (J.stop i H/\D.nx Z H)\/(J.go i H/\∃N:St->Hp->Prop,(∀Zc H',N Zc H'->∃m',m' < m/\W (i+1) m' Zc H')/\∀x H',J.yld i H x H'->g x Z H' λZf H2=>tb { D with nx:=N,ct:=N,bk:=D.nx } Zf H2)
theorem xB(wi:TI)(g:TG)(tb:TS)(D:jK)(Z:St)(H:Hp):Gv wi g tb D Z H=wi Z H (λJ H1=>zf g tb D Z J H1):=rfl
def qP(n:Nat)(js:List Nat)(g:TG)(tt:TT)(te:TE)(Z:St)(F:List V->Hp->Prop)(J:It)(H:Hp):Prop:=wM J n js g tt te Z H F
theorem Bs(n:Nat)(js:List Nat)(wi:TI)(g:TG)(tt:TT)(te:TE)(Z:St)(H:Hp)(Q:VK):
  Br n js wi g tt te Z H Q=wi Z H (λJ H1=>qP n js g tt te Z (λys H2=>∀p,H2 p=none->Q (.ref p) (upd H2 p (.lst ys))) J H1):=rfl
section
variable {g:TG} {tb:TS} {D:jK}
theorem c7(Pv:Nat->St->Hp->Prop)(h0:Pv 0 Z H)(hl:∀i Z H,i<=xs.length->Pv i Z H->aJ K H a xs)
  (hs:∀i x Z H,xs[i]?=some x->Pv i Z H->g x Z H λZf H2=>tb { D with nx:=Pv (i+1),ct:=Pv (i+1),bk:=D.nx } Zf H2) (hd:∀Z H,Pv xs.length Z H->D.nx Z H):zf g tb D Z (zd K a) H:=zN Pv h0 hl hs hd
theorem Ao(Pv:Nat->St->Hp->Prop)(h0:Pv 0 Z H)(hl:∀i Z H,i<=xs.length->Pv i Z H->cI K H a xs)
  (hs:∀i x Z H,xs[i]?=some x->Pv i Z H->g x Z H λZf H2=>tb { D with nx:=Pv (i+1),ct:=Pv (i+1),bk:=D.nx } Zf H2) (hd:∀Z H,Pv xs.length Z H->D.nx Z H):zf g tb D Z (DE K a) H:=Cj Pv h0 hl hs hd
theorem cQ{lo:Int}(Pv:Nat->St->Hp->Prop)(h0:Pv 0 Z H)
  (hs:∀i Z H,i < n->Pv i Z H->g (.int (lo+i)) Z H λZf H2=>tb { D with nx:=Pv (i+1),ct:=Pv (i+1),bk:=D.nx } Zf H2) (hd:∀Z H,Pv n Z H->D.nx Z H):zf g tb D Z (xN lo n) H:=yk Pv h0 hs hd
end
section
variable {js:List Nat} {g:TG} {tt:TT} {te:TE} {F:List V->Hp->Prop}
theorem gA{lo:Int}(Pv:Nat->List V->Hp->Prop)(hk:k<=sizeLine)(h0:Pv 0 [] H)(hn:∀i ys H,Pv i ys H->ys.length<=i)
  (hs:∀i ys H,i < k->Pv i ys H->iF n js g tt te Z (.int (lo+i)) ys H (Pv (i+1))) (hd:∀ys H,Pv k ys H->F ys H):qP n js g tt te Z F (xN lo k) H:=vh Pv hk h0 hn hs hd
theorem bQ(Pv:Nat->List V->Hp->Prop)(hk:xs.length<=sizeLine)(h0:Pv 0 [] H)(hn:∀i ys H,Pv i ys H->ys.length<=i)(hl:∀i ys H,Pv i ys H->aJ K H a xs)
  (hs:∀i x ys H,xs[i]?=some x->Pv i ys H->iF n js g tt te Z x ys H (Pv (i+1))) (hd:∀ys H,Pv xs.length ys H->F ys H):qP n js g tt te Z F (zd K a) H:=ya Pv hk h0 hn hl hs hd
theorem xZ(Pv:Nat->List V->Hp->Prop)(hk:z.length<=sizeLine)(h0:Pv 0 [] H)(hn:∀i ys H,Pv i ys H->ys.length<=i)
  (hs:∀i c ys H,z.cps.toList[i]?=some c->Pv i ys H->iF n js g tt te Z (.str ⟨#[c]⟩) ys H (Pv (i+1))) (hd:∀ys H,Pv z.length ys H->F ys H):qP n js g tt te Z F (BQ z) H:=zu Pv hk h0 hn hs hd
theorem x6{l1 l2:Bool}{a1 a2:Addr}{us vs:List V}(Pv:Nat->List V->Hp->Prop)(hk:us.length<=sizeLine)(he:us.length=vs.length)(h0:Pv 0 [] H)(hn:∀i ys H,Pv i ys H->ys.length<=i)(hl:∀i ys H,Pv i ys H->jy K l1 H a1 us/\jy K l2 H a2 vs)
  (hs:∀i x y ys H p,us[i]?=some x->vs[i]?=some y->Pv i ys H->H p=none->iF n js g tt te Z (.ref p) ys (upd H p (.tup [x,y])) (Pv (i+1))) (hd:∀ys H,Pv us.length ys H->F ys H):qP n js g tt te Z F (G6 K l1 l2 a1 a2) H:=by
 refine⟨λi m ys H=>m=us.length - i/\i<=us.length/\Pv i ys H,⟨us.length,by simp,ac2 _,h0⟩,?_⟩;rintro i m ys H ⟨rfl,hi,p⟩;obtain⟨q1,q2⟩:=hl i ys H p
 by_cases hlt:i < us.length
 ·refine .inr ⟨⟨us,vs,us[i],vs[i],q1,q2,by simp [hlt],by simp [he▸hlt]⟩,aa7 (hn i ys H p) (ab3 hlt hk),Pv (i+1),λZc H' p'=>⟨us.length - (i+1),(),rfl,hlt,p'⟩,λx H' y=>?_⟩
  obtain⟨pp,u,v,e,hp,e2,y1,y2⟩:=y;subst e e2;exact hs i u v ys H pp (y1 us q1) (y2 vs q2) p hp
 ·have e:i=us.length:=by omega
  subst e;exact .inl ⟨⟨us,vs,q1,q2,.inl rfl⟩,hd ys H p⟩
end
theorem Ef{CX:BH}{P:Program}{w:World}{base:Heap}{N:List Str}{qual:Str}{scope:Scope}{f:Addr}{cd:Value}{A:Around}{outer:List Env}{s:Shared}{E:XK}:(tP CX P w K mg base N qual scope f cd A outer s H E).K=K:=rfl
theorem FH{scope:Scope}{own:List Str}{js:List Nat}{C:Addr}{s:Shared}{ex:List Addr}{pn:List (Addr×Obj)}{E:Value->Shared->Prop}:(pW X scope own js C s H ex pn E).K=X.K:=rfl
theorem aq{q:Addr}{o:HO}(h:H q=none):au H (upd H q o):=λb o' e=>by rw [aj (ao e h)];exact e
theorem au.upd{H1:Hp}{q:Addr}{o:HO}(s:au H H1)(h:H1 q=none):au H (upd H1 q o):=s.trans (aq h)
theorem au.tup{K:Frag}{H H':Hp}{a:Addr}{xs:List V}(e:au H H')(h:cI K H a xs):cI K H' a xs:=by
 rcases h with h | h
 ·rcases h with h | ⟨o,h⟩
  ·exact .inl (.inl (e _ _ h))
  ·exact .inl (.inr ⟨o,e _ _ h⟩)
 ·exact .inr h
theorem bh(z:Str):z.length=z.cps.toList.length:=by simp [Str.length]
theorem v8(h:0<=i):(Txt.slice z (some i) none).cps.toList=z.cps.toList.drop i.toNat:=by
 by_cases hi:i<=z.cps.toList.length
 ·rw [show Txt.slice z (some i) none=StrLaws.sliceText z (some i) none from rfl,StrLaws.sliceText_from ⟨h,hi⟩]
  show((z.cps.toList.drop i.toNat).take _)=_
  skip
  exact ag1 (by rw [ah2];omega)
 ·have e:Builtin.Str.strSliceIndices (some i) none 1 z.length=Builtin.Str.strSliceIndices (some (z.length:Int)) none 1 z.length:=sliceIdx_lo_beyond z.length (by rw [bh];omega)
  have e2:Txt.slice z (some i) none=Txt.slice z (some (z.length:Int)) none:=by unfold Txt.slice;rw [e]
  rw [e2,show Txt.slice z (some (z.length:Int)) none=StrLaws.sliceText z (some (z.length:Int)) none from rfl,StrLaws.sliceText_from ⟨(),by rw [bh];omega⟩];show((z.cps.toList.drop _).take _)=_;rw [bh,ag7,ao0,List.take_nil,List.drop_eq_nil_of_le ()]
theorem wz(z:Str)(c:Nat):Txt.startswith z ⟨#[c]⟩=decide (z.cps.toList.head?=some c):=by
 obtain⟨⟨l⟩⟩:=z
 unfold Txt.startswith
 rw [StrLaws.subAt_eq]
 cases l with
 | nil=>simp [Str.length]
 | cons a l=>
  simp [Str.length];rw [af5];simp
theorem lQ(x y:Str):decide (x=y)=decide (x.cps.toList=y.cps.toList):=by
 by_cases h:x=y
 ·subst h;simp
 ·rw [decide_eq_false h]
  symm
  apply decide_eq_false;intro e;apply h;obtain⟨⟨a⟩⟩:=x;obtain⟨⟨b⟩⟩:=y;simp at e;subst e;rfl
theorem xX(x y:Str):(x++y).cps.toList=x.cps.toList++y.cps.toList:=by
 show(x.cps++y.cps).toList=_;rw [ah0]
theorem bH{α:Type}{xs:List α}{v:α}(h:xs.head?=some v):fR xs 0=some v:=by
 cases xs with
 | nil=>cases h
 | cons a l=>cases h;exact aK (j:=0) rfl
theorem EC(K:Frag)(h:X.K=K:=by rfl):dH X (binaryOp .Add) (eT K):=h▸opAdd
theorem lu(K:Frag)(h:X.K=K:=by rfl):dH X (compareOp .In) (vN K):=h▸Ho
theorem eK(K:Frag)(h:X.K=K:=by rfl):dH X (compareOp .NotIn) (jJ K):=h▸CY
theorem fB(K:Frag)(h:X.K=K:=by rfl):BK X (uG K):=h▸slA
theorem aC(K:Frag)(h:X.K=K:=by rfl):xO X (nk K):=h▸ixA
theorem bF(K:Frag){tg l:Expr}{tl:TE}(hl:PE X l tl)(h:X.K=K:=by rfl):PI X tg l (GL (Dj K) tl):=h▸EK hl
theorem aG(K:Frag)(h:X.K=K:=by rfl):cS X (.builtin "len") (λxs H Q=>(∃z,xs=[.str z]/\z.length<=sizeLine/\Q (.int z.length) H)\/∃p ys,xs=[.ref p]/\(aJ K H p ys\/cI K H p ys)/\Q (.int ys.length) H):=h▸xU
theorem kS(K:Frag)(h:X.K=K:=by rfl):cS X (.builtin "isinstance") (λxs H Q=>∃x n t b,xs=[x,.ty n]/\kM K H x t/\PySem.W.kitOne K t (.type n)=some b/\Q (.bl b) H):=h▸tK
theorem gX(K:Frag)(hc:X.calm=true)(h:X.K=K:=by rfl):cS X (.builtin "all") (λxs H Q=>∃(p:Addr) (bs:List Bool),xs=[.ref p]/\aJ K H p (bs.map V.bl)/\Q (.bl (bs.all id)) H):=h▸xS hc
theorem mQ(K:Frag)(h:X.K=K:=by rfl):cS X (.type "tuple") (λxs H Q=>∃p ys,xs=[.ref p]/\((aJ K H p ys/\∀l,H l=none->Q (.ref l) (upd H l (.tup ys)))\/(cI K H p ys/\Q (.ref p) H))):=h▸pV
theorem di(K:Frag)(h:X.K=K:=by rfl):cS X (.type "list") (λxs H Q=>∃p ys,xs=[.ref p]/\(aJ K H p ys\/cI K H p ys)/\∀l,H l=none->Q (.ref l) (upd H l (.lst ys))):=h▸sf
theorem fT(K:Frag){t:BW}{pos:Pos}(hc:X.calm=true)(h:Fz X es t)(hK:X.K=K:=by rfl)
  (hn:(assignEach es X.env).length=n:=by rfl) (hst:(assignEach es X.env).findIdx? (·.1)=none:=by rfl):PG X (.Tuple es k pos) (Ei K n t):=hK▸EJ hc h hn hst
theorem bW(K:Frag){o:Expr}{to:TE}{t:TA}{name:Str}{apos cpos:Pos}{T id:String}{r:V->List V->Hp->VK->Prop}(pa:PlainAttrs T)(slot:Slot T name id)(hty:typeOf (.builtin id)=pure (.type "method_descriptor"))(hm:BR X id r)(ho:PE X o to)(ha:PA X (e::es) t)(hK:X.K=K:=by rfl)
  (hbase:attributeBase o name X.env (eval o X.env)=eval o X.env:=by rfl)
  (hfew:((backTo cpos (starEach (e::es) X.env)).all (λx=>!x.1) && (backToKw cpos (keywordEach [] X.env)).all (λx=>x.1.isSome)
   && decide ((e::es).length+([]:List Keyword).length+(if ([]:List Keyword).isEmpty then 0 else 1) < 30))=true:=by rfl)
  (hline:(apos.endLine == cpos.line)=true:=by rfl) (hs:starEach (e::es) X.env=(false,eval e X.env)::starEach es X.env:=by rfl) (hplain:(backTo cpos (starEach es X.env)).any (·.1)=false:=by rfl) :
  PE X (.Call (.Attribute o name apos) (e::es) [] cpos) (Hy K T r to t):=hK▸Gd pa slot hty hm ho ha hbase hfew hline hs hplain
def cV:Expr->Option V
 | .Constant (.int i) _ _=>some (.int i)
 | .Constant (.str x) _ _=>some (.str x)
 | .Constant (.bool b) _ _=>some (.bl b)
 | .Constant .none _ _=>some .non
 | _=>none
def HU(vs:List V):TA:=λ_ H Q=>Q vs H
theorem Ge(h:cV e=some v):PE X e (tC v):=by
 unfold cV at h
 split at h
 ·cases h;exact af
 ·cases h;exact aW
 ·cases h;exact lA
 ·cases h;exact aZ
 ·cases h
theorem Dw(h:cV e=some v):starEach (e::es) X.env=(false,eval e X.env)::starEach es X.env:=by
 unfold cV at h
 split at h<;>first | rfl | cases h
theorem rB:∀{es:List Expr} {vs:List V},es.map cV=vs.map some->PA X es (HU vs)
 | [],[],_=>ah
 | [],_::_,h=>by cases h
 | _::_,[],h=>by cases h
 | e::es,v::vs,h=>by
  have h1:cV e=some v:=(List.cons.inj h).1;have h2:es.map cV=vs.map some:=(List.cons.inj h).2;exact aa (Ge h1) (rB h2) (Dw h1)
def Hu:Option V->(V->Prop)->Prop
 | some v,k=>k v
 | none,_=>False
def A4:St->Nat->(V->Prop)->Prop
 | [],_,_=>False
 | o::_,0,k=>Hu o k
 | _::Z,i+1,k=>A4 Z i k
theorem rE{k:V->Prop}:A4 (some v::Z) 0 k=k v:=rfl
theorem uI{o:Option V}{i:Nat}{k:V->Prop}:A4 (o::Z) (i+1) k=A4 Z i k:=rfl
theorem nO{k:V->Prop}:∀{Z:St} {i:Nat},A4 Z i k↔∃v,Z[i]?=some (some v)/\k v
 | [],i=>by simp [A4]
 | some v::Z,0=>by simp [A4,Hu]
 | none::Z,0=>by simp [A4,Hu]
 | o::Z,i+1=>by rw [uI,nO];simp
def Fb(i:Nat):TE:=λZ H Q=>A4 Z i λv=>Q v H
theorem Fc(i:Nat):Fb i=Fe i:=by
 funext Z H Q
 exact propext nO
def BL:V->(Int->Prop)->Prop
 | .int i,k=>k i
 | _,_=>False
theorem nG{k:Int->Prop}:BL (.int i) k=k i:=rfl
theorem kQ{k:Int->Prop}:BL v k↔∃i,v=.int i/\k i:=by cases v<;>simp [BL]
def DF:V->(Bool->Prop)->Prop
 | .bl i,k=>k i
 | _,_=>False
theorem rY{i:Bool}{k:Bool->Prop}:DF (.bl i) k=k i:=rfl
theorem nF{k:Bool->Prop}:DF v k↔∃i,v=.bl i/\k i:=by cases v<;>simp [DF]
def FX(g:Int->Int->V):R2:=λx y H Q=>BL x λi=>BL y λj=>Q (g i j) H
def jI(C:Int->Int->Prop)(g:Int->Int->V):R2:=λx y H Q=>BL x λi=>BL y λj=>C i j/\Q (g i j) H
def jU(g:Int->V):V->Hp->VK->Prop:=λx H Q=>BL x λi=>Q (g i) H
def t7(t:TE):TT:=λZ H Q=>t Z H λx H1=>DF x λk=>Q k H1
def t6(t:TE):TO:=λZ H Q=>t Z H λx H1=>BL x λi=>Q (some i) H1
def Ad(i:Nat)(te:TE)(ti:Fp):TS:=λD Z H=>A4 Z i λx=>te Z H λy H1=>ti x y H1 λz H2=>D.nx (Z.set i (some z)) H2
def t5(ta tb:TE):TE:=λZ H Q=>ta Z H λx H1=>DF x λc=>if c=true then tb Z H1 Q else Q (.bl false) H1
def Ah(ta tb:TE):TE:=λZ H Q=>ta Z H λx H1=>DF x λc=>if c=true then Q (.bl true) H1 else tb Z H1 Q
def DU(ta:TE):TE:=λZ H Q=>ta Z H λx H1=>DF x λc=>Q (.bl (!c)) H1
theorem Cu(i:Nat)(te:TE)(ti:Fp):Ad i te ti=Bp i te ti:=by
 funext D Z H
 unfold Ad Bp;simp only [nO]
theorem Ac(ta tb:TE):t5 ta tb=uY ta tb:=by
 funext Z H Q
 unfold t5 uY;simp only [nF]
theorem Cy(ta tb:TE):Ah ta tb=Bz ta tb:=by
 funext Z H Q
 unfold Ah Bz;simp only [nF]
theorem Eo(g:Int->Int->V):FX g=va g:=by
 funext x y H Q
 unfold FX va;simp only [kQ,exists_and_left]
theorem FY(C:Int->Int->Prop)(g:Int->Int->V):jI C g=rI C g:=by
 funext x y H Q
 unfold jI rI;simp only [kQ,exists_and_left]
theorem F0(g:Int->V):jU g=rU g:=by
 funext x H Q
 unfold jU rU;simp only [kQ]
theorem Aj(t:TE):t7 t=rO t:=by
 funext Z H Q
 unfold t7 rO;simp only [nF]
theorem Ai(t:TE):t6 t=xE t:=by
 funext Z H Q
 unfold t6 xE;simp only [kQ]
def y9(r:R2):R2
 | .int i,.int j,H,Q=>Q (.bl (decide (i=j))) H
 | .str i,.str j,H,Q=>Q (.bl (decide (i=j))) H
 | x,y,H,Q=>r x y H Q
def za(r:R2):R2
 | .int i,.int j,H,Q=>Q (.bl (!decide (i=j))) H
 | .str i,.str j,H,Q=>Q (.bl (!decide (i=j))) H
 | x,y,H,Q=>r x y H Q
def ox(r:R2):R2
 | .int i,.int j,H,Q=>Q (.int (i+j)) H
 | x,y,H,Q=>r x y H Q
def vx(r:R2):R2
 | .int i,.int j,H,Q=>IntMulOk i j/\Q (.int (i * j)) H
 | x,y,H,Q=>r x y H Q
theorem si{r:R2}:y9 r (.int i) (.int j) H Q=Q (.bl (decide (i=j))) H:=rfl
theorem sj{r:R2}{i j:Str}:y9 r (.str i) (.str j) H Q=Q (.bl (decide (i=j))) H:=rfl
theorem sk{r:R2}:za r (.int i) (.int j) H Q=Q (.bl (!decide (i=j))) H:=rfl
theorem so{r:R2}{i j:Str}:za r (.str i) (.str j) H Q=Q (.bl (!decide (i=j))) H:=rfl
theorem nJ{r:R2}:ox r (.int i) (.int j) H Q=Q (.int (i+j)) H:=rfl
theorem nK{r:R2}:vx r (.int i) (.int j) H Q=(IntMulOk i j/\Q (.int (i * j)) H):=rfl
theorem Ae{r:R2}(h1:∀i j H Q,r (.int i) (.int j) H Q↔Q (.bl (decide (i=j))) H)(h2:∀i j H Q,r (.str i) (.str j) H Q↔Q (.bl (decide (i=j))) H):y9 r=r:=by
 funext x y H Q
 unfold y9
 split
 ·exact propext (h1 _ _ _ _).symm
 ·exact propext (h2 _ _ _ _).symm
 ·rfl
theorem Ag{r:R2}(h1:∀i j H Q,r (.int i) (.int j) H Q↔Q (.bl (!decide (i=j))) H)(h2:∀i j H Q,r (.str i) (.str j) H Q↔Q (.bl (!decide (i=j))) H):za r=r:=by
 funext x y H Q
 unfold za
 split
 ·exact propext (h1 _ _ _ _).symm
 ·exact propext (h2 _ _ _ _).symm
 ·rfl
theorem w6{r:R2}(h1:∀i j H Q,r (.int i) (.int j) H Q↔Q (.int (i+j)) H):ox r=r:=by
 funext x y H Q
 unfold ox
 split
 ·exact propext (h1 _ _ _ _).symm
 ·rfl
theorem Cw{r:R2}(h1:∀i j H Q,r (.int i) (.int j) H Q↔IntMulOk i j/\Q (.int (i * j)) H):vx r=r:=by
 funext x y H Q
 unfold vx
 split
 ·exact propext (h1 _ _ _ _).symm
 ·rfl
theorem DR:y9 u9=u9:=Ae (λ_ _ _ _=>vL) (λ_ _ _ _=>vM)
theorem DT:za vb=vb:=Ag (λ_ _ _ _=>vO) (λ_ _ _ _=>vP)
theorem Aa(K:Frag):ox (eT K)=eT K:=w6 λ_ _ _ _=>oV
theorem FW:y9 u9 x y H Q↔u9 x y H Q:=by rw [DR]
theorem FZ:za vb x y H Q↔vb x y H Q:=by rw [DT]
theorem Cq:ox (eT K) x y H Q↔eT K x y H Q:=by rw [Aa]
theorem pr(i:Nat){x:Str}{pos:Pos}(hN:X.N[i]?=some x:=by rfl)(hv:GI X.env.scope x:=by first | exact Or.inl rfl | exact Or.inr (Or.inl rfl) | exact Or.inr (Or.inr rfl))(hd:(x == ("__debug__":Str))=false:=by decide)
  (hcd:(x == ("__classdict__":Str))=false:=by decide):PE X (.Name x pos) (Fb i):=by
 rw [Fc];exact EI hN hv hd hcd
theorem o0{g:Int->Int->V}(h:dH X f (va g)):dH X f (FX g):=by rw [Eo];exact h
theorem o1{C:Int->Int->Prop}{g:Int->Int->V}(h:dH X f (rI C g)):dH X f (jI C g):=by rw [FY];exact h
theorem u1{f:Value->Sem Value}{g:Int->V}(h:FE X f (rU g)):FE X f (jU g):=by rw [F0];exact h
theorem gJ:dH X (compareOp .Eq) (y9 u9):=by rw [DR];exact opEq
theorem CG:dH X (compareOp .NotEq) (za vb):=by rw [DT];exact opNe
theorem bL(K:Frag)(h:X.K=K:=by rfl):dH X (binaryOp .Add) (ox (eT K)):=by rw [Aa];exact EC K h
theorem ba{t:TE}(h:PT X e (rO t)):PT X e (t7 t):=by rw [Aj];exact h
theorem Gg{st:Stmt}{i:Nat}{te:TE}{ti:Fp}(h:PS X st (Bp i te ti)):PS X st (Ad i te ti):=by rw [Cu];exact h
theorem jb{ta tb:TE}(h:PE X e (uY ta tb)):PE X e (t5 ta tb):=by rw [Ac];exact h
theorem DY{ta tb:TE}(h:PE X e (Bz ta tb)):PE X e (Ah ta tb):=by rw [Cy];exact h
theorem fw{t:TE}(h:PE X e t):PO X (some e) (t6 t):=by rw [Ai];exact Dc h
theorem itN{p:Prop}[d:Decidable p]{A B:Prop}:(if (!decide p)=true then A else B)=(if p then B else A):=by
 by_cases h:p<;>simp [h]
theorem itD{p:Prop}[d:Decidable p]{A B:Prop}:(if decide p=true then A else B)=(if p then A else B):=by
 by_cases h:p<;>simp [h]
theorem Hf{t u:TS}{D:jK}(C:St->Hp->Prop)(h2:∀Z H,C Z H->u D Z H)(h1:∀u':TS,(∀Z H,C Z H->u' D Z H)->jw t u' D Z H):jw t u D Z H:=h1 u h2
theorem Hg{t u:TS}{D:jK}{Z:St}{H:Hp}(C:St->Hp->Prop)(h1:∀u':TS,(∀Z H,C Z H->u' D Z H)->jw t u' D Z H)(h2:∀Z H,C Z H->u D Z H):jw t u D Z H:=h1 u h2
theorem aN{t u:TS}{D:jK}{Z:St}{H:Hp}(C:St->Hp->Prop)(h1:∀u':TS,(∀Z H,C Z H->u' D Z H)->jw t u' D Z H)(h2:∀R:TS,(∀Z H,u D Z H->R D Z H)->∀Z H,C Z H->R D Z H):jw t u D Z H:=h1 u (h2 u λ_ _ z=>z)
theorem cB.up{P:Program}{w:World}{base:Heap}{x:Str}{j:Nat}{ps:List Str}{sp:Sp}(d:cB P w K mg base x j ps sp)(h:j<=k):cB P w K mg base x k ps sp:=
 let ⟨f,fd,F,r⟩:=d.ex;⟨f,fd,F.mono h,r⟩
theorem const_mk{x:Str}{u:Value}(e:nsIn K mainGlobals x=some (some u))(r:aS v u):∃u,nsIn K mainGlobals x=some (some u)/\aS v u:=⟨u,e,r⟩
theorem TruV_b{b k:Bool}:BX K (.bl b) H k↔k=b:=Iff.rfl
theorem GC:GA K "str" (.str z) H↔True:=⟨λ_=>trivial,λ_=>rfl⟩
theorem str_iff{x y:Str}:x=y↔x.cps.toList=y.cps.toList:=by
 constructor
 ·intro e;rw [e]
 ·intro e
  obtain⟨⟨a⟩⟩:=x;obtain⟨⟨b⟩⟩:=y;simp at e;subst e;rfl
open AutoSeq1 (wpAny_loadPart')
theorem l9:fillsNumberSlot (.type "tuple") "mul"=pure false:=
 PySem.fillsNumberSlot_seq (id:="tuple.__mul__") (r:=some (.builtin "tuple.__rmul__")) F.slot_tuple_mul.lookup (by decide +kernel) F.slot_tuple_rmul.lookup (by decide +kernel)
theorem td:seqRepeat? (.type "tuple")=pure (some (.builtin "tuple.__mul__")):=by
 unfold seqRepeat?;rw [PySem.seqSlot_of (T:="tuple") (name:="__mul__") (id:="tuple.__mul__") F.slot_tuple_mul.lookup (by decide +kernel),PySem.seqSlot_of (T:="tuple") (name:="__rmul__") (id:="tuple.__rmul__") F.slot_tuple_rmul.lookup (by decide +kernel)];rfl
theorem om(a:Int)(t:Tok)(l:Addr)(items:Array Value)(n:Nat)(dd:Option Addr)(sl:Array (Option Value)):
  Meets (Builtin.«int.__rmul__» ⟨[.int a t,.ref l],[]⟩) (λ_ R s=>s.heap.get? l=some { cls:=.type "tuple",dict:=dd,data:=.seq items n,slots:=sl }/\R (.ok (.ret Value.notImplemented)) s):=
 .of_wp λprog w A R s h=>by obtain⟨hp,g,d,tk,os⟩:=s;obtain⟨hl,h⟩:=h;wp_walk;exact⟨_,rfl,h⟩
theorem wI(l:Addr)(items:Array Value)(n:Nat)(dd:Option Addr)(sl:Array (Option Value))(u:Tok):
  Meets (Builtin.«tuple.__mul__» ⟨[.ref l,.int 1 u],[]⟩) (λ_ R s=>s.heap.get? l=some { cls:=.type "tuple",dict:=dd,data:=.seq items n,slots:=sl }/\R (.ok (.ret (Value.ref l))) s):=
 .of_wp λprog w A R s h=>by
  obtain⟨hp,g,d,tk,os⟩:=s;obtain⟨hl,h⟩:=h;have hT:Shared.TypeIs ⟨hp,g,d,tk,os⟩ (.ref l) "tuple":=⟨_,hl,rfl⟩
  wp_walk using al9 hl,am6 hT
  exact⟨_,rfl,h⟩
theorem n8{α:Type}(xs:Array α):∀(n:Nat) (acc:Array α),((List.replicate n xs).foldl (· ++ ·) acc).size=acc.size+n * xs.size
 | 0,acc=>by simp
 | n+1,acc=>by
  rw [ae8,ae5,n8 xs n,an3,am7];omega
theorem wJ(l:Addr)(items:Array Value)(n:Nat)(dd:Option Addr)(sl:Array (Option Value))(x:Int)(u:Tok)(h1:1 < x)(h2:x < 1000000)(h0:items.isEmpty=false)(hz:items.size * x.toNat<=sizeLine):
  Meets (Builtin.«tuple.__mul__» ⟨[.ref l,.int x u],[]⟩) (λ_ R s=>s.heap.get? l=some { cls:=.type "tuple",dict:=dd,data:=.seq items n,slots:=sl }/\R (.ok (.ret (Value.ref s.heap.objs.size))) { s with heap:=s.heap.push { cls:=Value.type "tuple",data:=Data.seq ((List.replicate x.toNat items).foldl (· ++ ·) #[]) } }):=
 .of_wp λprog w A R s h=>by
  obtain⟨hp,g,d,tk,os⟩:=s;obtain⟨hl,h⟩:=h;have hT:Shared.TypeIs ⟨hp,g,d,tk,os⟩ (.ref l) "tuple":=⟨_,hl,rfl⟩
  wp_walk using al9 hl,am6 hT
  refine ai9 (by rw [decide_eq_false (show ¬x < -2 ^ 63 by omega),decide_eq_false (show ¬x>=2 ^ 63 by omega)];rfl) ?_
  wp_walk using al9 hl,am6 hT
  refine ai9 (by rw [h0];simp;omega) ?_;refine ai9 (by rw [h0];simp;omega) ?_
  have e:(items.size:Int) * x=((items.size * x.toNat:Nat):Int):=by rw [ao9,am1 ()]
  have hs:=sizeLine_eq;refine ai9 (decide_eq_false (by rw [e];omega)) ?_
  have hm:¬((items.size:Int) * x > (sizeLine:Int)):=by rw [e];exact_mod_cast al2.mpr hz
  refine ai9 (by unfold Builtin.Tuple.tupleTooMany;exact decide_eq_false (λz=>hm (of_decide_eq_true z))) ?_
  have hf:(List.foldl (λx1 x2=>x1++x2) #[] (List.replicate x.toNat items)).size<=sizeLine:=by
   rw [n8,Array.size_empty,ak7,ao5];exact hz
  wp_walk using al9 hl,am6 hT
  refine ai9 (decide_eq_false (al2.mpr hf)) ?_
  wp_walk
  exact⟨_,rfl,h⟩
def AY(K:Frag):R2:=λx y H Q=>∃l k xs,x=.ref l/\y=.int k/\cI K H l xs/\1<=k/\k < 1000000/\xs≠[]/\xs.length * k.toNat<=sizeLine/\
 (k=1->Q (.ref l) H)/\∀p,H p=none->Q (.ref p) (upd H p (.tup (List.replicate k.toNat xs).flatten))
theorem C1:dH X (binaryOp .Mult) (AY X.K):=by
 rintro pins s Z H x y v u Q I rx ry ⟨l,k,xs,rfl,rfl,hH,h1,h2,hx,hz,q1,q⟩;cases rx;obtain⟨t,rfl⟩:=ry;obtain⟨its,r,p,hl⟩:=I.tuple hH;obtain⟨⟨cls,dd,data,sl⟩,ho,hc,n,hd⟩:=id p;simp only at hc hd;subst hc hd
 have hlen:its.toArray.size * k.toNat<=sizeLine:=by rw [ab1,<-r.length];exact hz
 refine wpAny_binaryOp_repeat_ref (T:="tuple") (U:="int") ∅ ⟨_,ho,rfl⟩ (λs'=>typeIs_int s' k t) l9 F.fills_int_mul F.slot_int_rmul td F.slot_int_index.lookup
  (call_meets F.slot_int_rmul (typeIs_int s k t) F.entry_int_rmul (F.args_int_rmul_2 _ _) (om k t l its.toArray n dd sl) ⟨ho,rfl,⟨_,ho,rfl⟩,?_⟩)
 by_cases hk:k=1
 ·subst hk
  exact call_meets F.slot_tuple_mul ⟨_,ho,rfl⟩ F.entry_tuple_mul (F.args_tuple_mul_2 _ _) (wI l its.toArray n dd sl t) ⟨ho,.ref l,H,I,rfl,q1 rfl⟩
 ·have hne:its.toArray.isEmpty=false:=by
   cases its with
   | nil=>exact absurd (r.nil_iff.mp rfl) hx
   | cons a b=>rfl
  refine call_meets F.slot_tuple_mul ⟨_,ho,rfl⟩ F.entry_tuple_mul (F.args_tuple_mul_2 _ _) (wJ l its.toArray n dd sl k t () h2 hne hlen) ⟨ho,?_⟩
  have hnew:List.foldl (λx1 x2=>x1++x2) #[] (List.replicate k.toNat its.toArray)=(List.replicate k.toNat its).flatten.toArray:=by
   have:=lX its k.toNat []
   rw [List.nil_append]at this;exact this
  refine⟨.ref s.heap.objs.size,_,I.laid (t':=s.toks) (o:=.tup (List.replicate k.toNat xs).flatten) (λb ob q=>aa5 _ q) (aa9 _) ?_,rfl,q _ (I.hok.fresh (aa9 _))⟩;rw [hnew];exact⟨by rw [sr,ao5];exact hz,_,r.rep k.toNat,IsTup.new _ _⟩
def jf(K:Frag):R2:=λx y H Q=>xj x y H Q\/AY K x y H Q
theorem EE(K:Frag)(h:X.K=K:=by rfl):dH X (binaryOp .Mult) (jf K):=h▸opMul.or C1
theorem uE:jf K (.int i) (.int j) H Q↔IntMulOk i j/\Q (.int (i * j)) H:=by
 simp [jf,AX,AY]
theorem Af(K:Frag):vx (jf K)=jf K:=Cw λ_ _ _ _=>uE
theorem Cv:vx (jf K) x y H Q↔jf K x y H Q:=by rw [Af]
theorem lq(K:Frag)(h:X.K=K:=by rfl):dH X (binaryOp .Mult) (vx (jf K)):=by rw [Af];exact EE K h
end L2
namespace L2
open PySem PySem.Spec PyProof.Rows
variable {m:Nat} {n:Int}
def mM(c:Nat):List Nat->List (List Nat)
 | []=>[[]]
 | a::l=>if a=c then []::mM c l else match mM c l with
  | []=>[[a]]
  | p::r=>(a::p)::r
theorem wb(c:Nat):∀l,mM c l≠[]
 | []=>by simp [mM]
 | a::l=>by
  simp only [mM]
  split
  ·simp
  ·split<;>simp
theorem xy(c:Nat):∀l,(mM c l).length<=l.length+1
 | []=>by simp [mM]
 | a::l=>by
  have h:=xy c l;simp only [mM]
  split
  ·simp;omega
  ·split
   ·simp
   ·rename_i p r e
    rw [e]at h;simp at h |-;omega
def dY(c:Nat):List Nat->Nat->List Nat
 | [],_=>[]
 | b::l,i=>if b=c then i::dY c l (i+1)else dY c l (i+1)
theorem oI(x:Str)(c:Nat)(lim:Nat):∀(l:List Nat) (i:Nat) (acc:Array Nat) (fr:Nat),x.cps.toList.drop i=l->acc.size<=i->fr<=i->x.length < lim->
  (forIn (List.range' i (l.length+1)) (acc,fr) (StrLaws.occBody x ⟨#[c]⟩ x.length lim)).run.fst.toList=acc.toList++dY c l i
 | [],i,acc,fr,hl,ha,hf,hm=>by
  have hi:x.length<=i:=by
   rw [bh];exact aj4.mp hl
  show(forIn [i] (acc,fr) _:Id _).run.fst.toList=_;rw [af6];unfold StrLaws.occBody;rw [if_neg (by intro h;have:=h.1.2;have e1:(⟨#[c]⟩:Str).length=1:=rfl;rw [e1]at this;omega)];show acc.toList=_;simp [dY]
 | b::l,i,acc,fr,hl,ha,hf,hm=>by
  have hb:x.cps.toList[i]?=some b:=by
   have:(x.cps.toList.drop i)[0]?=some b:=by rw [hl];rfl
   rwa [af1,ao6]at this
  have hi:i < x.length:=by
   rw [bh];obtain⟨h,_⟩:=aa1.mp hb;exact h
  have hd:x.cps.toList.drop (i+1)=l:=by
   rw [<-al0,hl];rfl
  have e1:(⟨#[c]⟩:Str).length=1:=rfl;show(forIn (i::List.range' (i+1) (l.length+1)) (acc,fr) _:Id _).run.fst.toList=_;rw [af6];unfold StrLaws.occBody
  by_cases hc:b=c
  ·rw [if_pos ⟨⟨⟨by show acc.size < lim;omega,hf⟩,by rw [e1];omega⟩,((StrLaws.subAt_one x c i).mpr (by rw [hb,hc])).2⟩]
   show(forIn (List.range' (i+1) (l.length+1)) (acc.push i,i+1) (StrLaws.occBody x ⟨#[c]⟩ x.length lim):Id _).run.fst.toList=_;rw [oI x c lim l (i+1) _ _ hd (by rw [Array.size_push];omega) (aa9 _) hm];simp [dY,hc]
  ·rw [if_neg (λh=>hc (by have:=(StrLaws.subAt_one x c i).mp ⟨h.1.2,h.2⟩;rw [hb]at this;exact Option.some.inj this))]
   show(forIn (List.range' (i+1) (l.length+1)) (acc,fr) (StrLaws.occBody x ⟨#[c]⟩ x.length lim):Id _).run.fst.toList=_;rw [oI x c lim l (i+1) _ _ hd () () hm];simp [dY,hc]
theorem CH(x:Str)(c:Nat):Builtin.Str.occurrences x ⟨#[c]⟩ 0 x.length (x.length+1)=dY c x.cps.toList 0:=by
 rw [StrLaws.occ_eq]
 have e:x.length+1 - 0=x.cps.toList.length+1:=by rw [bh];rfl
 rw [e];have h:=oI x c (x.length+1) x.cps.toList 0 #[] 0 rfl (aa9 _) (aa9 _) (aj8 _);rw [h];rfl
theorem j7(x:Str)(c:Nat):∀(l:List Nat) (a j:Nat),a<=j->x.cps.toList.drop j=l->j<=x.length->
  (StrLaws.partsFrom x 1 a (dY c l j)).map (λz=>z.cps.toList)=match mM c l with
   | []=>[]
   | p::r=>((x.cps.toList.drop a).take (j - a)++p)::r
 | [],a,j,haj,hl,hj=>by
  have hj':x.length<=j:=by rw [bh];exact aj4.mp hl
  have e:j=x.length:=by omega
  subst e;simp [dY,mM,StrLaws.partsFrom,StrLaws.strSub_toList]
 | b::l,a,j,haj,hl,hj=>by
  have hb:x.cps.toList[j]?=some b:=by
   have:(x.cps.toList.drop j)[0]?=some b:=by rw [hl];rfl
   rwa [af1,ao6]at this
  have hi:j < x.length:=by
   rw [bh];obtain⟨h,_⟩:=aa1.mp hb;exact h
  have hd:x.cps.toList.drop (j+1)=l:=by
   rw [<-al0,hl];rfl
  by_cases hc:b=c
  ·have ih:=j7 x c l (j+1) (j+1) (aa9 _) hd hi
   simp only [dY,hc,if_true,StrLaws.partsFrom,ac7,mM,ae6];rw [ih]
   cases hs:mM c l with
   | nil=>exact absurd hs (wb c l)
   | cons p r=>simp [StrLaws.strSub_toList]
  ·have ih:=j7 x c l a (j+1) () hd hi
   simp only [dY,hc,if_false,mM];rw [ih]
   cases hs:mM c l with
   | nil=>exact absurd hs (wb c l)
   | cons p r=>
    have ht:(x.cps.toList.drop a).take (j+1 - a)=(x.cps.toList.drop a).take (j - a)++[b]:=by
     have e1:j+1 - a=(j - a)+1:=by omega
     rw [e1,ac6,af1]
     have e2:a+(j - a)=j:=by omega
     rw [e2,hb];rfl
    simp [ht]
theorem Bi(c:Nat):∀{l:List Nat},dY c l 0=[]->mM c l=[l]:=by
 have key:∀(l:List Nat) (i:Nat),dY c l i=[]->mM c l=[l]:=by
  intro l
  induction l with
  | nil=>intro i _;rfl
  | cons a l ih=>
   intro i h;simp only [dY]at h
   split at h
   ·cases h
   ·rename_i hc
    simp only [mM,hc,if_false];rw [ih _ h]
 intro l h;exact key l 0 h
theorem jv(x:Str){c:Nat}(hc:c < 256):(Txt.split x ⟨#[c]⟩).map (λz=>z.cps.toList)=mM c x.cps.toList:=by
 unfold Txt.split;have e1:(⟨#[c]⟩:Str).length=1:=rfl
 have ek:Builtin.Str.strKind ⟨#[c]⟩=1:=by simp [Builtin.Str.strKind,hc]
 have ek2:1<=Builtin.Str.strKind x:=by unfold Builtin.Str.strKind;split<;>(try split)<;>omega
 rw [e1,ek,decide_eq_false (show ¬Builtin.Str.strKind x < 1 by omega),Bool.or_false,CH]
 split
 ·rename_i h
  have h:x.length < 1:=by simpa using h
  have:x.cps.toList=[]:=by
   rw [bh]at h;exact af8.mp ()
  rw [ac7,ah1,this];rfl
 ·split
  ·rename_i h
   have h:dY c x.cps.toList 0=[]:=by simpa using h
   rw [Bi c h];rfl
  ·rw [StrLaws.partsBetween_eq,j7 x c x.cps.toList 0 0 (aa9 _) rfl (ac2 _)]
   cases hs:mM c x.cps.toList with
   | nil=>exact absurd hs (wb c _)
   | cons p r=>simp
theorem mO:∀(tk:Nat) (xs:List Str),aX (xs.map V.str) (strsFrom tk xs)
 | _,[]=>.nil
 | tk,x::r=>.cons ⟨tk,rfl⟩ (mO (tk+1) r)
theorem rM:∀{xs:List Str} {us:List Value},aX (xs.map V.str) us->StrsAre us xs
 | [],_,.nil=>.nil
 | x::r,_,.cons ⟨t,e⟩ q=>by subst e;exact .cons x t (rM q)
section
variable {X:Cx}
theorem kZ:BR X "str.split" (λx xs H Q=>∃z c,x=.str z/\xs=[.str ⟨#[c]⟩]/\c < 256/\z.length < sizeLine/\∀p,H p=none->Q (.ref p) (upd H p (.lst ((Txt.split z ⟨#[c]⟩).map V.str)))):=by
 rintro pins s Z H x xs v us Q I rx r ⟨z,c,rfl,rfl,hc,hz,q⟩;obtain⟨t,rfl⟩:=rx;obtain⟨u,rfl,t',rfl⟩:=fF r;have hs:=sizeLine_eq
 have hlen:(Txt.split z ⟨#[c]⟩).length<=sizeLine:=by
  have h1:(Txt.split z ⟨#[c]⟩).length=(mM c z.cps.toList).length:=by rw [<-jv z hc,aa0]
  have h2:=xy c z.cps.toList;rw [<-bh]at h2;omega
 have fin:∀(its:List Value) (tk:Nat),aX ((Txt.split z ⟨#[c]⟩).map V.str) its->EP X pins Z Q (.ref s.heap.objs.size) { s with toks:=tk,heap:=s.heap.push { cls:=.type "list",data:=.seq its.toArray } }:=λits tk rv=>
  ⟨.ref s.heap.objs.size,_,I.laid (t':=tk) (o:=.lst ((Txt.split z ⟨#[c]⟩).map V.str)) (λb ob q=>aa5 _ q) (aa9 _) ⟨by rw [aa0];exact hlen,its,0,rv,ab9 _ rfl⟩,rfl,q _ (I.hok.fresh (aa9 _))⟩
 cases h1:(decide (z.length < (⟨#[c]⟩:Str).length) || decide (Builtin.Str.strKind z < Builtin.Str.strKind ⟨#[c]⟩))with
 | true=>
  have e:Txt.split z ⟨#[c]⟩=[z]:=by unfold Txt.split;rw [if_pos h1]
  rw [e]at fin;exact call_meets F.slot_str_split (typeIs_str _ _ _) F.entry_str_split (F.args_str_split_2 _ _) (meets_str_split_cannot_occur z ⟨#[c]⟩ t t' h1) (fin _ s.toks (.cons ⟨t,rfl⟩ .nil))
 | false=>
  cases hf:(Builtin.Str.occurrences z ⟨#[c]⟩ 0 z.length (z.length+1)).isEmpty with
  | true=>
   have e:Txt.split z ⟨#[c]⟩=[z]:=by unfold Txt.split;rw [if_neg (by rw [h1];exact aa6),if_pos hf]
   rw [e]at fin;exact call_meets F.slot_str_split (typeIs_str _ _ _) F.entry_str_split (F.args_str_split_2 _ _) (meets_str_split_not_found z ⟨#[c]⟩ t t' h1 rfl hf) (fin _ s.toks (.cons ⟨t,rfl⟩ .nil))
  | false=>
   have e:Txt.split z ⟨#[c]⟩=Builtin.Str.partsBetween z (Builtin.Str.occurrences z ⟨#[c]⟩ 0 z.length (z.length+1)) (⟨#[c]⟩:Str).length:=by
    unfold Txt.split;rw [if_neg (by rw [h1];exact aa6),if_neg (by rw [hf];exact aa6)]
   rw [e]at fin hlen;exact call_meets F.slot_str_split (typeIs_str _ _ _) F.entry_str_split (F.args_str_split_2 _ _) (meets_str_split_sep z ⟨#[c]⟩ t t' h1 rfl hf (ah6 hz) hlen) (fin _ _ (mO _ _))
theorem CD:BR X "str.join" (λx xs H Q=>∃z p ys,x=.str z/\xs=[.ref p]/\aJ X.K H p (ys.map V.str)/\(ys.map (·.length)).sum+ys.length * z.length<=16777216/\Q (.str (Txt.join z ys)) H):=by
 rintro pins s Z H x xs v us Q I rx r ⟨z,p,ys,rfl,rfl,hq,hok,q⟩;obtain⟨t,rfl⟩:=rx;obtain⟨u,rfl,ru⟩:=fF r;cases ru;obtain⟨its,rv,pl,hz⟩:=I.list hq;exact join_list pl.isList (rM rv) hok λt' k=>⟨.str _,H,I.tok _,⟨t',rfl⟩,q⟩
theorem ue(K:Frag)(h:X.K=K:=by rfl):BR X "str.join" (λx xs H Q=>∃z p ys,x=.str z/\xs=[.ref p]/\aJ K H p (ys.map V.str)/\(ys.map (·.length)).sum+ys.length * z.length<=16777216/\Q (.str (Txt.join z ys)) H):=h▸CD
end
def tS(l:List Nat):Bool:=l.all λc=>decide (c∈[48,49,50,51,52,53,54,55,56,57])
def gZ(w:List Nat):List Nat:=if w.head?=some 45 then w.tail else w
def tY(w:List Nat):Bool:=decide (1<=(gZ w).length) && (decide ((gZ w).length<=40) && (tS (gZ w) && (decide ((gZ w).head?≠some 48) || decide (w=[48]))))
theorem vw(w:List Nat):tY w=(if gZ w=[]\/40 < (gZ w).length then false else if tS (gZ w)=false then false else(decide ((gZ w).head?≠some 48) || decide (w=[48]))):=by
 unfold tY
 split
 ·rename_i h
  rcases h with h | h
  ·rw [h];rfl
  ·have:¬(gZ w).length<=40:=by omega
   simp [this]
 ·rename_i h
  have h1:1<=(gZ w).length:=by
   cases e:gZ w with
   | nil=>exact absurd (Or.inl e) h
   | cons a b=>simp
  have h2:(gZ w).length<=40:=by
   have:¬40 < (gZ w).length:=λz=>h (Or.inr z)
   omega
  simp only [h1,h2,decide_true,ai2]
  split
  ·rename_i h3;rw [h3];rfl
  ·rename_i h3
   have h3:tS (gZ w)=true:=by simpa using h3
   rw [h3];rfl
def hX(n:Int):List Nat:=(Str.ofString (toString n)).cps.toList
def dg(m:Nat):List Nat:=(Nat.toDigits 10 m).map Char.toNat
theorem lh(m:Nat):hX (m:Int)=dg m:=PySem.W.KIN.signs_num m
theorem lj(k:Nat):hX (-((k+1:Nat):Int))=45::dg (k+1):=by
 have e:toString (-((k+1:Nat):Int))="-" ++ toString (k+1):=rfl;have h:=PySem.W.KIN.signs_num (k+1);unfold hX dg;rw [<-h,e];have e2:toString (((k+1:Nat):Nat):Int)=toString (k+1):=rfl;rw [e2];simp only [PyProof.Rows.signs_ofString,String.toList_append];rfl
theorem lV(m:Nat):∀c∈dg m,48<=c/\c<=57:=by
 intro c hc;obtain⟨ch,hch,e⟩:=ac3.mp hc;have r:=PyProof.Rows.digit_range (Nat.isDigit_of_mem_toDigits ∅ ∅ hch);rw [<-e];exact r
theorem tQ(m:Nat):dg m≠[]:=by
 intro e;have h:=toDigits_len_ge 10 m;rw [List.map_eq_nil_iff.mp e]at h;exact absurd h ∅
theorem tR(h:m < 10):dg m=[m+48]:=by
 unfold dg;rw [Nat.toDigits_of_lt_base h]
 have:∀m,m < 10->(Nat.digitChar m).toNat=m+48:=by decide
 show [(Nat.digitChar m).toNat]=_;rw [this m h]
theorem Eg(h:¬m < 10):dg m=dg (m / 10)++[m % 10+48]:=by
 have hm:m % 10 < 10:=Nat.mod_lt m ∅;have t:Nat.toDigits 10 (m / 10)++Nat.toDigits 10 (m % 10)=Nat.toDigits 10 (10 * (m / 10)+m % 10):=Nat.toDigits_append_toDigits ∅ () hm;rw [Nat.div_add_mod]at t;rw [<-tR hm];unfold dg;rw [<-t,ab4]
theorem Ca(m:Nat)(h0:0 < m):(dg m).head?≠some 48:=by
 induction m using Nat.strongRecOn with
 | _ m ih=>
  by_cases h:m < 10
  ·rw [tR h]
   simp;omega
  ·rw [Eg h]
   have:=ih (m / 10) () ()
   cases hd:dg (m / 10)with
   | nil=>exact absurd hd (tQ _)
   | cons a l=>rw [hd]at this;exact this
theorem vi{k:Nat}(hk:1<=k)(hm:m < 10 ^ k):(dg m).length<=k:=by
 unfold dg;rw [aa0];exact digits10_le hk hm
theorem oH(n:Int):∀c∈hX n,c=45\/(48<=c/\c<=57):=by
 intro c hc;rcases ao7 n 0 with h | h
 ·obtain⟨k,rfl⟩:∃k:Nat,n = -((k+1:Nat):Int):=⟨n.natAbs - 1,()⟩
  rw [lj]at hc;rcases ab2.mp hc with e | e
  ·exact .inl e
  ·exact .inr (lV _ c e)
 ·obtain⟨m,rfl⟩:=ae1 h
  rw [lh]at hc;exact .inr (lV _ c hc)
theorem Cb(m:Nat):tS (dg m)=true:=by
 unfold tS;rw [af7];intro c hc;obtain⟨h1,h2⟩:=lV m c hc
 have h9:∀k,k < 10->48+k=48\/48+k=49\/48+k=50\/48+k=51\/48+k=52\/48+k=53\/48+k=54\/48+k=55\/48+k=56\/48+k=57:=by decide
 have:=h9 (c - 48) ()
 rw [Nat.add_sub_cancel' h1]at this;simpa using this
theorem yj(n:Int):gZ (hX n)=dg n.natAbs:=by
 rcases ao7 n 0 with h | h
 ·obtain⟨k,rfl⟩:∃k:Nat,n = -((k+1:Nat):Int):=⟨n.natAbs - 1,()⟩
  rw [lj]
  have e:(-((k+1:Nat):Int)).natAbs=k+1:=by omega
  rw [e];rfl
 ·obtain⟨m,rfl⟩:=ae1 h
  rw [lh];unfold gZ;rw [if_neg]
  ·rfl
  ·intro e
   cases hd:dg m with
   | nil=>exact absurd hd (tQ _)
   | cons a l=>
    rw [hd]at e
    have:a=45:=by simpa using e
    have:=lV m a (by rw [hd];exact ad8)
    omega
theorem lZ(h:n.natAbs < 10 ^ 40):tY (hX n)=true:=by
 have hl:(dg n.natAbs).length<=40:=vi ∅ h
 have hl0:1<=(dg n.natAbs).length:=by
  cases hd:dg n.natAbs with
  | nil=>exact absurd hd (tQ _)
  | cons a l=>simp
 unfold tY;rw [yj,Cb,decide_eq_true hl,decide_eq_true hl0]
 by_cases h0:n=0
 ·subst h0
  decide +kernel
 ·rw [decide_eq_true (Ca n.natAbs ())]
  rfl
theorem gi{k:Nat}(hk:1<=k)(h:n.natAbs < 10 ^ k):(hX n).length<=k+1:=by
 rcases ao7 n 0 with h1 | h1
 ·obtain⟨j,rfl⟩:∃k:Nat,n = -((k+1:Nat):Int):=⟨n.natAbs - 1,()⟩
  have e:(-((j+1:Nat):Int)).natAbs=j+1:=by omega
  rw [e]at h;rw [lj,ad4]
  have:=vi hk h
  omega
 ·obtain⟨m,rfl⟩:=ae1 h1
  rw [lh]
  have:=vi hk (show m < 10 ^ k from h)
  omega
theorem nI(h:n.natAbs < 10 ^ 600):intText? (Str.ofString (toString n))=some n:=by
 have hl:=gi ∅ h
 have hl2:(Str.ofString (toString n)).length<=4300:=by rw [bh];exact ab6 hl ∅
 rcases ao7 n 0 with h1 | h1
 ·obtain⟨k,rfl⟩:∃k:Nat,n = -((k+1:Nat):Int):=⟨n.natAbs - 1,()⟩
  rw [PySem.intText_neg (cs:=dg (k+1)) (lj k) (lV _) (tQ _) hl2]
  have:=PySem.W.KIN.val_back (k+1)
  unfold dg;rw [this]
 ·obtain⟨m,rfl⟩:=ae1 h1
  have e:(Str.ofString (toString ((m:Nat):Int))).cps.toList=dg m:=lh m;rw [PySem.intText_digits (by rw [e];exact lV _) (by rw [e];exact tQ _) hl2,e]
  have:=PySem.W.KIN.val_back m
  unfold dg;rw [this]
def dv(c:Nat):List (List Nat)->List Nat
 | []=>[]
 | p::r=>p++(r.map (c::·)).flatten
theorem q9(c:Nat):∀(l:List Str) (a:Array Nat),(l.foldl (λacc p=>acc++(⟨#[c]⟩:Str).cps++p.cps) a).toList=a.toList++(l.map (λp=>c::p.cps.toList)).flatten
 | [],a=>by simp
 | p::l,a=>by
  rw [ae5,q9 c l];simp
theorem cP(c:Nat)(ys:List Str):(Txt.join ⟨#[c]⟩ ys).cps.toList=dv c (ys.map λz=>z.cps.toList):=by
 unfold Txt.join Builtin.Str.glued
 cases ys with
 | nil=>rfl
 | cons p r=>
  show(r.foldl (λacc p=>acc++(⟨#[c]⟩:Str).cps++p.cps) p.cps).toList=_;rw [q9];simp [dv,Function.comp_def]
theorem xx(c:Nat):∀(p:List Nat) (l:List Nat),c∉p->mM c (p++c::l)=p::mM c l
 | [],l,_=>by simp [mM]
 | a::p,l,h=>by
  have h1:a≠c:=λe=>h (by rw [e];exact ad8);have h2:c∉p:=λe=>h (ad9 _ e);rw [aj9];simp only [mM,h1,if_false];rw [xx c p l h2]
theorem uV(c:Nat):∀(p:List Nat),c∉p->mM c p=[p]
 | [],_=>rfl
 | a::p,h=>by
  have h1:a≠c:=λe=>h (by rw [e];exact ad8);have h2:c∉p:=λe=>h (ad9 _ e);simp only [mM,h1,if_false];rw [uV c p h2]
theorem pO(c:Nat):∀(ps:List (List Nat)),ps≠[]->(∀p∈ps,c∉p)->mM c (dv c ps)=ps
 | [],h,_=>absurd rfl h
 | [p],_,h=>by
  simp [dv];exact uV c p (h p ad8)
 | p::q::r,_,h=>by
  have ih:=pO c (q::r) (by simp) (λx hx=>h x (ad9 _ hx))
  have e:dv c (p::q::r)=p++c::dv c (q::r):=by simp [dv]
  rw [e,xx c p _ (h p ad8),ih]
end L2
namespace L3
open PySem PySem.Spec PyProof.Rows
theorem i5(l:Bool)(a:Addr)(xs:Array Value):
  Meets (Builtin.«enumerate.__new__» ⟨[.type "enumerate",.ref a],[]⟩) (λ_ R s=>IsSeq l s.heap a xs/\
   R (.ok (.ret (.ref (s.heap.push (itRec l a)).objs.size))) { s with heap:=(s.heap.push (itRec l a)).push { cls:=.type "enumerate",data:=.fields #[.none,.bool false,.ref s.heap.objs.size,rawInt 0,.none,.none] } }):=
 .of_wp λprog w A R s h=>by
  obtain⟨hp,g,d,tk,os⟩:=s;obtain⟨q1,h⟩:=h;have hsub:=sub_enumerate;have u1:IsSeq l (Shared.heap ⟨hp,g,d,tk,os⟩) a xs:=q1
  have tl:∃o,hp.get? a=some o:=by
   cases l
   ·obtain⟨o,e,_⟩:=(show hp.IsTuple a xs from q1);exact⟨o,e⟩
   ·obtain⟨o,e,_⟩:=(show hp.IsList a xs from q1);exact⟨o,e⟩
  obtain⟨ob,hl⟩:=tl;obtain⟨c,dct,dt,sl⟩:=ob
  wp_walk using AutoSeq1.wpAny_loadPart' hl
  refine wpAny_stack_any λst=>ab0 ?_
  split
  ·rename_i c _ _ _ _ _
   cases(c == Value.type "enumerate")
   ·wp_walk using AutoSeq1.wpAny_loadPart' hl,iY u1
    exact⟨_,rfl,h⟩
   ·wp_walk using AutoSeq1.wpAny_loadPart' hl,iY u1
    exact⟨_,rfl,h⟩
  ·wp_walk using AutoSeq1.wpAny_loadPart' hl,iY u1
   exact⟨_,rfl,h⟩
section
variable {prog:Program} {w:World} {A:Around} {E:Value->Shared->Prop} {s:Shared}
theorem call_enumerateB{l:Bool}{a:Addr}{xs:Array Value}{Q:Value->Shared->Prop}(hL:IsSeq l s.heap a xs)
  (h:∀h',IsEnum h' (s.heap.objs.size+1) s.heap.objs.size 0 .none->h'.get? s.heap.objs.size=some (itRec l a)->h'.objs.size=s.heap.objs.size+2->
   (∀b o,s.heap.get? b=some o->h'.get? b=some o)->Q (.ref (s.heap.objs.size+1)) { s with heap:=h' }) :
  wpAny (model prog w) A (call (.type "enumerate") [.ref a]) Q E s:=by
 refine callType_new F.called_enumerate ∅ (F.typeCall_enumerate_1 _) (F.newCall_enumerate_1 _) (λobj=>F.args_object_init_2 obj _) F.entry_enumerate_new
  (i5 l a xs) ⟨hL,?_⟩
 have hz:(s.heap.push (itRec l a)).objs.size=s.heap.objs.size+1:=ae9 ..;show _/\_;rw [hz]
 have he:IsEnum ((s.heap.push (itRec l a)).push
   { cls:=.type "enumerate",data:=.fields #[.none,.bool false,.ref s.heap.objs.size,rawInt 0,.none,.none] }) (s.heap.objs.size+1) s.heap.objs.size 0 .none:=by
  have:=ab9 (s.heap.push (itRec l a))
   (o:={ cls:=.type "enumerate",data:=.fields #[.none,.bool false,.ref s.heap.objs.size,rawInt 0,.none,.none] }) rfl
  rw [hz]at this;exact this
 refine⟨⟨_,he,rfl⟩,h _ he (aa5 _ (ab9 _ rfl)) (by rw [ae9,hz]) λb o x=>aa5 _ (aa5 _ x)⟩
end
end L3
namespace L2
open PySem PySem.Spec PyProof.Rows
variable {A:Around} {C T a f:Addr} {D:List (Str×V)} {H:Hp} {K:Frag} {P:Program} {Q:VK} {X:Cx} {an od:Option Addr} {base:Heap} {cdv ct doc kV oc pm u:Value} {e:Expr} {fd:FuncData} {i:Int} {j k n nv:Nat} {kind m qual x z:Str} {l:Bool} {mg:Str->Option Value} {ns:List Int} {o:Obj} {osl:Array (Option Value)} {p pos:Pos} {pl:Sem Bool} {ps:List Str} {sp:Sp} {st:Stmt} {us:List Value} {w:World} {xs:List V}
def G5(K:Frag)(l:Bool)(a:Addr):It:=
 ⟨λi H=>∃xs x,jy K l H a xs/\xs[i]?=some x,
  λi H v H'=>∃p x,v=.ref p/\H p=none/\H'=upd H p (.tup [.int i,x])/\∀xs,jy K l H a xs->xs[i]?=some x,
  λi H=>∃xs,jy K l H a xs/\i=xs.length⟩
theorem wK{elts:List Expr}{kt:Nat}{pt:Pos}(l:Bool)(a z it:Addr)(nd:z≠it):
  rX P w K (.Tuple elts kt pt) (G5 K l a) [z,it] z (λi h=>(∃old,IsEnum h z it ((i:Nat):Int) old)/\kI l h it a i):=by
 refine⟨by simp,?_,?_,?_,?_,?_⟩
 ·rintro i h ⟨⟨old,qz⟩,u⟩ c hc
  have hc':c=z\/c=it:=by simpa using hc
  rcases hc' with e | e
  ·subst e;exact⟨_,qz,λv q=>by cases q⟩
  ·subst e
   exact u.obj
 ·rintro i h h' ⟨⟨old,qz⟩,u⟩ k
  exact⟨⟨old,k z (by simp) _ qz⟩,u.at λo e=>k it (by simp) o e⟩
 ·rintro X hP hw hK hc i pins s Z H E I hf ⟨⟨old,qz⟩,u⟩ ⟨xs,x,q1,hx⟩
  subst hP hw hK;have hh:X.A.in1.handled=none:=I.ok.hd hc;obtain⟨its,r1,p1,z1⟩:=I.seqB q1;have na:a≠it:=I.seqB_ne q1 (hf it (by simp));have nz:a≠z:=I.seqB_ne q1 (hf z (by simp))
  have lx:i < its.toArray.size:=by
   have:=(aa1.mp hx).1
   rw [ab1,<-r1.length];exact this
  have hef:z∉[it,a]:=by
   simp only [ab2,ad2,or_false,not_or];exact⟨nd,nz.symm⟩
  refine wpAny_pyNext_enum_itemD (fX (P:=X.prog) (w:=X.w) hh l it a na its.toArray) qz ⟨u,p1⟩ lx nd hef λv h' tk ev z' s' pr sz kk=>?_;obtain⟨w1,g1,rx⟩:=r1.get hx
  have ev1:v=w1:=by
   have:its[i]?=some v:=by simpa using ev
   rw [g1]at this;exact(Option.some.inj this).symm
  subst ev1;refine⟨_,rfl,wpAny_letOwnedTupleGo_enum (s:={ s with heap:=h',toks:=tk+1 }) z' λh2 z2 sb=>?_⟩;have fz:s.heap.objs.size≠z:=aj7 (ac1 qz);have Hn:H s.heap.objs.size=none:=I.hok.fresh (aa9 _)
  have kp:∀c o,c∉[z,it]->s.heap.get? c=some o->h2.get? c=some o:=λc o hc e=>by
   have hc':c≠z/\c≠it:=by simpa [not_or]using hc
   exact(sb.2 c hc'.1).trans (kk c o hc'.1 hc'.2 e)
  have nf:∀{c:Addr} {u:HO},H c=some u->c∉[z,it]:=λ{c u} e hc=>by
   have:=(hf c hc).1
   rw [e]at this;cases this
  have pr2:h2.get? s.heap.objs.size=some { cls:=.type "tuple",data:=.seq #[.int i tk,v] }:=(sb.2 _ fz).trans pr
  have I2:aO X pins Z (upd H s.heap.objs.size (.tup [.int i,x])) { s with heap:=h2,toks:=tk+1 }:=by
   refine I.step (g':=s.gens) (d':=s.drawn) (ch:=[z,it]) (λc hc=>⟨(hf c hc).2.2.2.1,(hf c hc).2.1,(hf c hc).2.2.2.2.1,(hf c hc).2.2.2.2.2⟩) (λc o _ _ hc e _=>kp c o hc e) (λc o _ _ hc e _=>⟨o.slots,kp c o hc e⟩)
    (λc o _ e n=>by rw [aj (ad3 (ac1 e))];exact n) (λc o hc e=>⟨o,kp c o hc e⟩) (λc us e=>by rw [aj (ao e Hn)];exact e) (λc o u e=>by rw [aj (ao e Hn)];exact e)
    (λc ps e=>⟨#[],by rw [aj (ao e Hn),e];simp⟩) (λm hm=>?_) (λc u e=>?_) I.bare
   ·obtain⟨o,es,ep,ho,r⟩:=hm
    exact⟨o,es,ep,kp _ o (λq=>(hf _ q).2.1 rfl) ho,r⟩
   ·by_cases hcs:c=s.heap.objs.size
    ·subst hcs
     rw [ae]at e;cases e;exact⟨by rw [sizeLine_eq];show 2<=16777216;omega,[.int i tk,v],.cons ⟨_,rfl⟩ (.cons rx .nil),_,pr2,rfl,_,rfl⟩
    ·rw [aj hcs]at e
     refine(I.hok c u e).stay (λd o hd q=>kp d o ?_ q) (λd q=>by rw [aj (ao q Hn)];exact q) λd us q=>by rw [aj (ao q Hn)];exact q
     rcases hd with hd | hd
     ·rw [hd];exact nf e
     ·exact nf hd
  refine⟨.ref s.heap.objs.size,_,I2,rfl,⟨_,x,rfl,Hn,rfl,λus hu=>by rw [I.seqB_inj hu q1];exact hx⟩,⟨⟨v,?_⟩,?_⟩,λc hc=>?_⟩
  ·have e:(((i+1:Nat)):Int)=(i:Int)+1:=by omega
   rw [e];exact z2
  ·exact s'.1.at λo e=>(sb.2 _ nd.symm).trans e
  ·show upd H s.heap.objs.size (.tup [.int i,x]) c=none
   have lt:c < s.heap.objs.size:=by
    have hc':c=z\/c=it:=by simpa using hc
    rcases hc' with e | e
    ·subst e;exact ac1 qz
    ·subst e;obtain⟨o,e,_⟩:=u.obj;exact ac1 e
   rw [aj (ad3 lt)];exact(hf c hc).1
 ·rintro X hP hw hK hc i pins s Z H E I hf ⟨⟨old,qz⟩,u⟩ ⟨xs,q1,hend⟩
  subst hP hw hK;have hh:X.A.in1.handled=none:=I.ok.hd hc;obtain⟨its,r1,p1,z1⟩:=I.seqB q1;have na:a≠it:=I.seqB_ne q1 (hf it (by simp))
  have ei:i=its.toArray.size:=by rw [ab1,<-r1.length];exact hend
  subst ei;obtain⟨f0,f1,f2,f3,f4,f5⟩:=hf it (by simp);exact wpAny_pyNext_enum_endD (fX (P:=X.prog) (w:=X.w) hh l it a na its.toArray) qz ⟨u,p1⟩ λh' k=>⟨rfl,I.turned (t':=s.toks) (λb o hb e=>k b o hb e) f0 f1 f3 f4 f5⟩
 ·rintro A i s Q E ⟨⟨old,qz⟩,_⟩ h
  exact wpAny_pyIter_enum qz h
def zS(K:Frag)(ta:TA):TI:=λZ H R=>ta Z H λvs H1=>∃a,vs=[.ref a]/\∃l,(∃xs,jy K l H1 a xs)/\R (G5 K l a) H1
theorem uA{elts:List Expr}{kt:Nat}{pt:Pos}{a:Expr}{ta:TA}(hg:Gl X "enumerate")(hm:X.mg "enumerate"=none)(ha:PA X [a] ta)(hs:starEach [a] X.env=[(false,eval a X.env)]:=by rfl):
  PI X (.Tuple elts kt pt) (.Call (.Name "enumerate" p) [a] [] pos) (zS X.K ta):=by
 intro pins s Z H R I h;refine Call_ (gH I hg hm boot_enumerate (PyProof.Rows.callWith_type1 (cW (ha pos pins s Z H _ I h) λus s1 zq0=>?_) hs rfl));obtain⟨vs,H1,I1,r1,a1,e,l,⟨xs,q1⟩,q⟩:=zq0;subst e;obtain⟨u,rfl,e1⟩:=fF r1;cases e1;obtain⟨its1,r1,p1,z1⟩:=I1.seqB q1;refine L3.call_enumerateB p1 λh' qz qI sz kp=>wpAny_pyIter_enum qz ?_;refine⟨s1.heap.objs.size+1,[s1.heap.objs.size+1,s1.heap.objs.size],_,_,H1,rfl,I1.kept (h':=h') (t':=s1.toks) kp,wK l a1 _ _ (Nat.succ_ne_self _),⟨⟨_,qz⟩,kI.rec qI⟩,λc hc=>?_,q⟩
 have hc':s1.heap.objs.size<=c:=by
  have:c=s1.heap.objs.size+1\/c=s1.heap.objs.size:=by simpa using hc
  rcases this with e | e<;>(rw [e];first | exact aa9 _ | exact Nat.le_add_right _ _)
 exact I1.fpOk hc' (I1.hok.fresh hc')
theorem oB{g:TG}{tb:TS}{D:jK}{Z:St}{us:List V}(Pv:Nat->St->Hp->Prop)(h0:Pv 0 Z H)(hl:∀i Z H,i<=us.length->Pv i Z H->jy K l H a us)
  (hs:∀i x Z H p,us[i]?=some x->Pv i Z H->H p=none->g (.ref p) Z (upd H p (.tup [.int i,x])) λZf H2=>tb { D with nx:=Pv (i+1),ct:=Pv (i+1),bk:=D.nx } Zf H2) (hd:∀Z H,Pv us.length Z H->D.nx Z H):zf g tb D Z (G5 K l a) H:=by
 refine⟨λi m Z H=>m=us.length - i/\i<=us.length/\Pv i Z H,⟨us.length,by simp,ac2 _,h0⟩,?_⟩;rintro i m Z H ⟨rfl,hi,p⟩;have q1:=hl i Z H hi p
 by_cases hlt:i < us.length
 ·refine .inr ⟨⟨us,us[i],q1,by simp [hlt]⟩,Pv (i+1),λZc H' p'=>⟨us.length - (i+1),(),rfl,hlt,p'⟩,λx H' y=>?_⟩
  obtain⟨pp,u,e,hp,e2,y1⟩:=y;subst e e2;exact hs i u Z H pp (y1 us q1) p hp
 ·have e:i=us.length:=by omega
  subst e;exact .inl ⟨⟨us,q1,rfl⟩,hd Z H p⟩
structure rS(K:Frag)(x qual:Str)(st:Stmt)(f:Addr)(fd:FuncData)(T:Addr):Prop where
 ex:∃(oc:Value) (od:Option Addr) (kV doc pm:Value) (an:Option Addr) (cdv ct:Value) (osl:Array (Option Value)),
  fd=fnOf x qual (cu st) (bX st) (ak st) (.ref T) kV doc pm an cdv ct/\K.lookup f=some ⟨oc,od,.func fd,osl⟩/\codeIn K cdv qual=true
 kp:keepIn K (.ref f)=true
theorem rS.ok{N:List Str}(F:rS K x qual st f fd T)(S:ax N ps (ak st))
  (hbody:∀(cdv:Value) (A:Around) (outer:List Env) (s:Shared) (H:Hp) (vs:List V) (Q:VK) (E:XK),dX k (A.deeper (envOfC qual (ak st) s.heap.objs.size f cdv))->sp vs H Q E->
   vs.length=ps.length/\∃t,wQ (tP bU P w K mg base N qual (ak st) f cdv A outer s H E).nox (bX st) t/\t { nx:=λ_ H'=>Q .non H',rt:=Q } (start N vs) H):aL P w K mg base bU (k+1) f fd ps sp:=by
 obtain⟨oc,od,kV,doc,pm,an,cdv,ct,osl,rfl,lk,hcd⟩:=F.ex;refine DL lk hcd S (λA o s vs H Q E hr hsp=>(hbody cdv A o s H vs Q E (hr.deeper _) hsp).1) λA outer s H vs Q E hr hsp=>?_;obtain⟨_,t,h,q⟩:=hbody cdv A outer s H vs Q E hr hsp;exact⟨t,h.nox,q⟩
structure G3(P:Program)(w:World)(K:Frag)(mg:Str->Option Value)(base:Heap)(x:Str)(k:Nat)(ps:List Str)(sp:Sp)(dvs:List V):Prop where
 ex:∃(f:Addr) (fd:FuncData) (ds:List Value),aL P w K mg base bU k f fd ps sp/\mg x=some (.ref f)/\keepIn K (.ref f)=true/\dn K fd ps ds/\aX dvs ds
section
variable {es:List Expr} {t:TA} {dvs:List V}
end
structure zc(K:Frag)(x:Str)(st:Stmt)(f:Addr)(fd:FuncData)(u:Value):Prop where
 ns:nsIn K mainGlobals x=some (some (.ref f))
 fn:∃(T:Addr) (o:Obj) (n:Nat),rS K x x st f fd T/\K.lookup T=some o/\o.data=.seq #[u] n
theorem rS.binds(F:rS K x qual st f fd T)(t:K.lookup T=some o)(d:o.data=.seq #[u] n)
  (h:∀(kV doc pm:Value) (an:Option Addr) (cdv ct:Value) (us:List Value),us.length=ps.length->
   ∃k:Option (Array Value)->Sem (List (Str×Value)),bindArgs (fnOf x qual (cu st) (bX st) (ak st) (.ref T) kV doc pm an cdv ct) ⟨us,[]⟩=seqItems? (.ref T) >>= k/\k (some #[u])=pure (ps.zip us)):dn K fd ps []:=by
 obtain⟨oc,od,kV,doc,pm,an,cdv,ct,osl,rfl,lk,hcd⟩:=F.ex;intro s us X hl;rw [ae6]at hl |-;obtain⟨k,h1,h2⟩:=h kV doc pm an cdv ct us hl;exact BindsTo.of_defaults (T:=T) rfl (X _ _ t) d h1 h2
theorem rS.bindsD(F:rS K x qual st f fd T)(t:K.lookup T=some o)(d:o.data=.seq #[u] n)
  (h:∀(kV doc pm:Value) (an:Option Addr) (cdv ct:Value) (us:List Value),us.length+1=ps.length->
   ∃k:Option (Array Value)->Sem (List (Str×Value)),bindArgs (fnOf x qual (cu st) (bX st) (ak st) (.ref T) kV doc pm an cdv ct) ⟨us,[]⟩=seqItems? (.ref T) >>= k/\k (some #[u])=pure (ps.zip (us++[u]))):dn K fd ps [u]:=by
 obtain⟨oc,od,kV,doc,pm,an,cdv,ct,osl,rfl,lk,hcd⟩:=F.ex;intro s us X hl;obtain⟨k,h1,h2⟩:=h kV doc pm an cdv ct us (by rw [<-hl,aa8];rfl);exact BindsTo.of_defaults (T:=T) rfl (X _ _ t) d h1 h2
def BI(K:Frag)(H:Hp):Nat->V->V->Bool->Prop
 | 0,x,y,b=>(jQ x=true/\jQ y=true/\b=Cg x y)\/∃a,x=.ref a/\y=.ref a/\b=true
 | n+1,x,y,b=>BI K H 0 x y b\/∃(a c:Addr) (l:Bool) (xs ys:List V) (e:Nat->Bool),x=.ref a/\y=.ref c/\a≠c/\jy K l H a xs/\jy K l H c ys/\
   (∀j x y,xs[j]?=some x->ys[j]?=some y->BI K H n x y (e j))/\b=((List.range (min xs.length ys.length)).all e && xs.length == ys.length)
section
variable {pins:List (Addr×Obj)} {Z:St} {s:Shared}
theorem g9(r:aX xs us)(h:j < us.toArray.size):∃x,xs[j]?=some x/\aS x us.toArray[j]:=by
 have l1:=r.length;simp only [ab1]at h
 have hx:j < xs.length:=by omega
 obtain⟨u,e1,r1⟩:=aX.get r (i:=j) (x:=xs[j]) (by simp [hx])
 have g1:us.toArray[j]=u:=by simpa [h]using e1
 exact⟨xs[j],by simp [hx],by rw [g1];exact r1⟩
theorem AZ{c:Addr}{ys:List V}{vs:List Value}{e:Nat->Bool}(rx:aX xs us)(ry:aX ys vs)(p1:L3.IsSeq l s.heap a us.toArray)(p2:L3.IsSeq l s.heap c vs.toArray)(hu:A.units < cLine)
  (he:∀j (h1:j < us.toArray.size) (h2:j < vs.toArray.size),SeqAt.EqAt A.in1 s us.toArray[j] vs.toArray[j] (e j)):SeqAt.RcAt A s (.ref a) (.ref c) ((List.range (min xs.length ys.length)).all e && xs.length == ys.length):=by
 have s1:us.toArray.size=xs.length:=by rw [ab1,rx.length]
 have s2:vs.toArray.size=ys.length:=by rw [ab1,ry.length]
 cases l
 ·have:=SeqAt.RcAt.tuples (show s.heap.IsTuple a us.toArray from p1) (show s.heap.IsTuple c vs.toArray from p2) hu he
  rw [s1,s2]at this;exact this
 ·by_cases hl:xs.length=ys.length
  ·have:=SeqAt.RcAt.lists (show s.heap.IsList a us.toArray from p1) (show s.heap.IsList c vs.toArray from p2) (by rw [s1,s2,hl]) hu he
   rw [s1]at this;rw [hl,Nat.min_self,beq_self_eq_true,Bool.and_true,<-hl];exact this
  ·have:=SeqAt.RcAt.lists_lengths (show s.heap.IsList a us.toArray from p1) (show s.heap.IsList c vs.toArray from p2) (by rw [s1,s2];simpa using hl) hu
   rw [show(xs.length == ys.length)=false by simpa using hl,Bool.and_false];exact this
theorem A3{c:Addr}{ys:List V}{vs:List Value}{e:Nat->Bool}(rx:aX xs us)(ry:aX ys vs)(p1:L3.IsSeq l s.heap a us.toArray)(p2:L3.IsSeq l s.heap c vs.toArray)(hu:A.units < cLine)
  (he:∀j (h1:j < us.toArray.size) (h2:j < vs.toArray.size),SeqAt.EqAt A.in1 s us.toArray[j] vs.toArray[j] (e j)):SeqAt.RcNeAt A s (.ref a) (.ref c) (!((List.range (min xs.length ys.length)).all e && xs.length == ys.length)):=by
 have s1:us.toArray.size=xs.length:=by rw [ab1,rx.length]
 have s2:vs.toArray.size=ys.length:=by rw [ab1,ry.length]
 cases l
 ·have:=SeqAt.RcNeAt.tuples (show s.heap.IsTuple a us.toArray from p1) (show s.heap.IsTuple c vs.toArray from p2) hu he
  rw [s1,s2]at this;exact this
 ·by_cases hl:xs.length=ys.length
  ·have:=SeqAt.RcNeAt.lists (show s.heap.IsList a us.toArray from p1) (show s.heap.IsList c vs.toArray from p2) (by rw [s1,s2,hl]) hu he
   rw [s1]at this;rw [hl,Nat.min_self,beq_self_eq_true,Bool.and_true,<-hl];exact this
  ·have:=SeqAt.RcNeAt.lists_lengths (show s.heap.IsList a us.toArray from p1) (show s.heap.IsList c vs.toArray from p2) (by rw [s1,s2];simpa using hl) hu
   rw [show(xs.length == ys.length)=false by simpa using hl,Bool.and_false];exact this
theorem BI.at(I:aO X pins Z H s):∀{n:Nat} {A:Around} {x y:V} {u v:Value} {b:Bool},A.units+n < cLine->aS x u->aS y v->BI X.K H n x y b->SeqAt.EqAt A s u v b:=by
 have z0:∀{A:Around} {x y:V} {u v:Value} {b:Bool},aS x u->aS y v->BI X.K H 0 x y b->SeqAt.EqAt A s u v b:=by
  intro A x y u v b rx ry h;unfold BI at h;rcases h with⟨fx,fy,rfl⟩ | ⟨a,rfl,rfl,rfl⟩
  ·exact zL rx ry fx fy
  ·cases rx;cases ry;exact SeqAt.EqAt.same _
 intro n
 induction n with
 | zero=>intro A x y u v b _ rx ry h;exact z0 rx ry h
 | succ n ih=>
  intro A x y u v b hu rx ry h;unfold BI at h;rcases h with h | ⟨a,c,l,xs,ys,e,rfl,rfl,ne,h1,h2,he,rfl⟩
  ·exact z0 rx ry h
  ·cases rx;cases ry
   obtain⟨us,r1,p1,_⟩:=I.seqB h1;obtain⟨vs,r2,p2,_⟩:=I.seqB h2;refine SeqAt.EqAt.of_refs ne (AZ r1 r2 p1 p2 () λj j1 j2=>?_);obtain⟨x,ex,rx⟩:=g9 r1 j1;obtain⟨y,ey,ry⟩:=g9 r2 j2;exact ih (A:=A.in1) (by show A.units+1+n < cLine;omega) rx ry (he j x y ex ey)
def DD(K:Frag)(H:Hp)(n:Nat)(x y:V)(b:Bool):Prop:=∃(a c:Addr) (l:Bool) (xs ys:List V) (e:Nat->Bool),x=.ref a/\y=.ref c/\jy K l H a xs/\jy K l H c ys/\
 (∀j x y,xs[j]?=some x->ys[j]?=some y->BI K H n x y (e j))/\b=((List.range (min xs.length ys.length)).all e && xs.length == ys.length)
theorem EF(n:Nat)(hu:X.A.units+n+1 < cLine):dH X (compareOp .Eq) (λx y H Q=>∃b,DD X.K H n x y b/\Q (.bl b) H):=by
 rintro pins s Z H x y v u Q I rx ry ⟨b,⟨a,c,l,xs,ys,e,rfl,rfl,h1,h2,he,rfl⟩,q⟩;cases rx;cases ry;obtain⟨us,r1,p1,_⟩:=I.seqB h1;obtain⟨vs,r2,p2,_⟩:=I.seqB h2;refine AZ (A:=X.A) r1 r2 p1 p2 () (λj j1 j2=>?_) X.prog X.w X.xe _ (bz I q rfl);obtain⟨x,ex,rx⟩:=g9 r1 j1;obtain⟨y,ey,ry⟩:=g9 r2 j2;exact BI.at I (A:=X.A.in1) (by show X.A.units+1+n < cLine;omega) rx ry (he j x y ex ey)
theorem EG(n:Nat)(hu:X.A.units+n+1 < cLine):dH X (compareOp .NotEq) (λx y H Q=>∃b,DD X.K H n x y b/\Q (.bl (!b)) H):=by
 rintro pins s Z H x y v u Q I rx ry ⟨b,⟨a,c,l,xs,ys,e,rfl,rfl,h1,h2,he,rfl⟩,q⟩;cases rx;cases ry;obtain⟨us,r1,p1,_⟩:=I.seqB h1;obtain⟨vs,r2,p2,_⟩:=I.seqB h2;refine A3 (A:=X.A) r1 r2 p1 p2 () (λj j1 j2=>?_) X.prog X.w X.xe _ (bz I q rfl);obtain⟨x,ex,rx⟩:=g9 r1 j1;obtain⟨y,ey,ry⟩:=g9 r2 j2;exact BI.at I (A:=X.A.in1) (by show X.A.units+1+n < cLine;omega) rx ry (he j x y ex ey)
def nj(K:Frag):R2:=λx y H Q=>u9 x y H Q\/∃b,DD K H 4 x y b/\Q (.bl b) H
def nq(K:Frag):R2:=λx y H Q=>vb x y H Q\/∃b,DD K H 4 x y b/\Q (.bl (!b)) H
theorem HI(hr:dX k A):A.units+4+1 < cLine:=aa7 (Nat.add_le_add_left (by decide:5<=64) _) hr.units
theorem F5(K:Frag)(hu:X.A.units+4+1 < cLine)(h:X.K=K:=by rfl):dH X (compareOp .Eq) (nj K):=h▸opEq.or (EF 4 hu)
theorem F8(K:Frag)(hu:X.A.units+4+1 < cLine)(h:X.K=K:=by rfl):dH X (compareOp .NotEq) (nq K):=h▸opNe.or (EG 4 hu)
end
theorem Dg{j:Int}:nj K (.int i) (.int j) H Q↔Q (.bl (decide (i=j))) H:=by simp [nj,vL,DD]
theorem rNeC_ii{j:Int}:nq K (.int i) (.int j) H Q↔Q (.bl (!decide (i=j))) H:=by simp [nq,vO,DD]
theorem Dh{i j:Str}:nj K (.str i) (.str j) H Q↔Q (.bl (decide (i=j))) H:=by simp [nj,vM,DD]
theorem Dm{i j:Str}:nq K (.str i) (.str j) H Q↔Q (.bl (!decide (i=j))) H:=by simp [nq,vP,DD]
theorem DQ(K:Frag):y9 (nj K)=nj K:=Ae (λ_ _ _ _=>Dg) (λ_ _ _ _=>Dh)
theorem DS(K:Frag):za (nq K)=nq K:=Ag (λ_ _ _ _=>rNeC_ii) (λ_ _ _ _=>Dm)
theorem En{x y:V}:y9 (nj K) x y H Q↔nj K x y H Q:=by rw [DQ]
theorem Ep{x y:V}:za (nq K) x y H Q↔nq K x y H Q:=by rw [DS]
theorem Hk(K:Frag)(hu:X.A.units+4+1 < cLine)(h:X.K=K:=by rfl):dH X (compareOp .Eq) (y9 (nj K)):=by rw [DQ];exact F5 K hu h
theorem Hl(K:Frag)(hu:X.A.units+4+1 < cLine)(h:X.K=K:=by rfl):dH X (compareOp .NotEq) (za (nq K)):=by rw [DS];exact F8 K hu h
structure fv(P:Program)(w:World)(K:Frag)(mg:Str->Option Value)(base:Heap)(k:Nat)(f:Addr)(ps:List Str)(sp:Sp):Prop where
 ex:∃fd:FuncData,aL P w K mg base bU k f fd ps sp/\keepIn K (.ref f)=true/\dn K fd ps []
structure aF(P:Program)(w:World)(K:Frag)(mg:Str->Option Value)(base:Heap)(C:Addr)(m:Str)(k:Nat)(ps:List Str)(sp:Sp):Prop where
 cl:u6 K C
 ex:∃(f:Addr) (fd:FuncData),Ed K C m f/\aL P w K mg base bU k f fd ps sp/\dn K fd ps []
structure DB(K:Frag)(C:Addr)(m:Str)(f:Addr):Prop where
 rd:PySem.W.readsIn K C (.type "type")=true
 at_:PySem.W.findCls K (.ref C) (.type "type") m=some (.val (.ref f))
 ga:PySem.W.specialIn K (.ref C) "__getattribute__"=some (some (.builtin "type.__getattribute__"))
 kp:keepIn K (.ref f)=true
structure iP(P:Program)(w:World)(K:Frag)(mg:Str->Option Value)(base:Heap)(x m:Str)(k:Nat)(ps:List Str)(sp:Sp):Prop where
 ex:∃(C f:Addr) (fd:FuncData),mg x=some (.ref C)/\DB K C m f/\aL P w K mg base bU k f fd ps sp/\dn K fd ps []
structure iQ(P:Program)(w:World)(K:Frag)(mg:Str->Option Value)(base:Heap)(x:Str)(C:Addr)(k:Nat)(ps:List Str)(sp:Sp):Prop where
 ex:∃(f:Addr) (fd:FuncData),Mk K C f/\aL P w K mg base bU k f fd ps sp/\mg x=some (.ref C)/\dn K fd ps []
theorem fv.up(d:fv P w K mg base j f ps sp)(h:j<=k):fv P w K mg base k f ps sp:=let ⟨fd,F,b,c⟩:=d.ex;⟨fd,F.mono h,b,c⟩
theorem aF.up(d:aF P w K mg base C m j ps sp)(h:j<=k):aF P w K mg base C m k ps sp:=let ⟨f,fd,a,F,c⟩:=d.ex;⟨d.cl,f,fd,a,F.mono h,c⟩
theorem iP.up(d:iP P w K mg base x m j ps sp)(h:j<=k):iP P w K mg base x m k ps sp:=let ⟨C,f,fd,a,b,F,c⟩:=d.ex;⟨C,f,fd,a,b,F.mono h,c⟩
theorem iQ.up(d:iQ P w K mg base x C j ps sp)(h:j<=k):iQ P w K mg base x C k ps sp:=let ⟨f,fd,a,F,b,c⟩:=d.ex;⟨f,fd,a,F.mono h,b,c⟩
theorem aF.imp{sp':Sp}(d:aF P w K mg base C m k ps sp)(h:∀vs H Q E,sp' vs H Q E->sp vs H Q E):aF P w K mg base C m k ps sp':=let ⟨f,fd,a,F,c⟩:=d.ex;⟨d.cl,f,fd,a,F.imp h,c⟩
def wF(P:Program)(w:World)(K:Frag)(mg:Str->Option Value)(base:Heap)(k:Nat)(m:Str)(ta:TE)(t:TA):TE:=λZ H Q=>ta Z H λx H1=>∃(a C dx:Addr) (fs:List (Str×V)) (ps:List Str) (sp:Sp),
 x=.ref a/\H1 a=some (.ins C dx fs)/\fs.lookup m=none/\aF P w K mg base C m k ps sp/\t Z H1 λvs H2=>sp (x::vs) H2 Q E0
def Bq(P:Program)(w:World)(K:Frag)(mg:Str->Option Value)(base:Heap)(k:Nat)(tf:TE)(t:TA):TE:=λZ H Q=>tf Z H λx H1=>∃(f:Addr) (ps:List Str) (sp:Sp),
 x=.ref f/\fv P w K mg base k f ps sp/\t Z H1 λvs H2=>sp vs H2 Q E0
section
variable {apos:Pos} {o:Expr} {es:List Expr} {ta:TE} {t:TA}
theorem g6(P:Program)(w:World)(K:Frag)(mg:Str->Option Value)(base:Heap)(hr:dX k X.A)(he:PE X o ta)(ha:PA X (e::es) t)(e1:X.prog=P:=by rfl)(e2:X.w=w:=by rfl)(e3:X.K=K:=by rfl)(e4:X.mg=mg:=by rfl)(e5:X.base=base:=by rfl)
  (hst:starEach (e::es) X.env=(false,eval e X.env)::starEach es X.env:=by rfl) (hpl:(backTo pos (starEach es X.env)).any (·.1)=false:=by rfl)
  (ht:eval (.Call (.Attribute o m apos) (e::es) [] pos) X.env=(do
   let ov <-eval o X.env
   standAt apos.atName
   let (f,first) <-holding [ov] (getMethod ov m pl)
   callWith pos f first (backTo pos (starEach (e::es) X.env)) (backToKw pos (keywordEach [] X.env))):=by rfl) :
  PE X (.Call (.Attribute o m apos) (e::es) [] pos) (wF P w K mg base k m ta t):=by
 subst e1 e2 e3 e4 e5;intro pins s Z H Q I h;refine PySem.W.methodCall_KW (pl:=pl) (cW (he pins s Z H _ I h) λu s1 zq0=>?_) ht;obtain⟨x,H1,I1,rx,a,C,dx,fs,ps,sp,ex,ea,l,M,q⟩:=zq0;subst ex;obtain rfl:u=Value.ref a:=rx;obtain⟨f,fd,hm,F,hb⟩:=M.ex;refine n9 I1 ea M.cl hm l ?_;refine PySem.W.callWith_K (first:=[.ref a]) (h₀:=X.base) I.ok.mod.kin hm.kp (cW (ha pos pins s1 Z H1 _ I1 q) λus s2 ⟨vs,H2,I2,r,q2⟩=>⟨I2.kIn,?_⟩) hst hpl;exact oW (us:=.ref a::us) (vs:=.ref a::vs) (dvs:=[]) (E:=E0) F hr hb .nil rD I2 (.cons rfl r) (by rw [ae6];exact q2)
theorem mh(P:Program)(w:World)(K:Frag)(mg:Str->Option Value)(base:Heap)(hr:dX k X.A)(he:PE X o ta)(e1:X.prog=P:=by rfl)(e2:X.w=w:=by rfl)(e3:X.K=K:=by rfl)(e4:X.mg=mg:=by rfl)(e5:X.base=base:=by rfl)
  (ht:eval (.Call (.Attribute o m apos) [] [] pos) X.env=(do
   let ov <-eval o X.env
   standAt apos.atName
   let (f,first) <-holding [ov] (getMethod ov m pl)
   callWith pos f first (backTo pos (starEach [] X.env)) (backToKw pos (keywordEach [] X.env))):=by rfl) :
  PE X (.Call (.Attribute o m apos) [] [] pos) (wF P w K mg base k m ta wG):=by
 subst e1 e2 e3 e4 e5;intro pins s Z H Q I h;refine PySem.W.methodCall_KW (pl:=pl) (cW (he pins s Z H _ I h) λu s1 zq0=>?_) ht;obtain⟨x,H1,I1,rx,a,C,dx,fs,ps,sp,ex,ea,l,M,q⟩:=zq0;subst ex;obtain rfl:u=Value.ref a:=rx;obtain⟨f,fd,hm,F,hb⟩:=M.ex;refine n9 I1 ea M.cl hm l ?_;exact PySem.W.callWith_K0 (first:=[.ref a]) I1.kIn hm.kp (oW (us:=[.ref a]) (vs:=[.ref a]) (dvs:=[]) (E:=E0) F hr hb .nil rD I1 (.cons rfl .nil) q)
theorem AL(P:Program)(w:World)(K:Frag)(mg:Str->Option Value)(base:Heap)(hr:dX k X.A)(he:PE X o ta)(ha:PA X (e::es) t)(e1:X.prog=P:=by rfl)(e2:X.w=w:=by rfl)(e3:X.K=K:=by rfl)(e4:X.mg=mg:=by rfl)(e5:X.base=base:=by rfl)
  (hst:starEach (e::es) X.env=(false,eval e X.env)::starEach es X.env:=by rfl) (hpl:(backTo pos (starEach es X.env)).any (·.1)=false:=by rfl)
  (hev:eval (.Call o (e::es) [] pos) X.env=(do callWith pos (<-eval o X.env) [] (backTo pos (starEach (e::es) X.env)) (backToKw pos (keywordEach [] X.env))):=by rfl) :
  PE X (.Call o (e::es) [] pos) (Bq P w K mg base k ta t):=by
 subst e1 e2 e3 e4 e5;intro pins s Z H Q I h;refine Call_ (cW (he pins s Z H _ I h) λu s1 zq0=>?_) hev;obtain⟨x,H1,I1,rx,f,ps,sp,ex,M,q⟩:=zq0;subst ex;obtain rfl:u=Value.ref f:=rx;obtain⟨fd,F,hk,hb⟩:=M.ex;refine PySem.W.callWith_K (h₀:=X.base) I.ok.mod.kin hk (cW (ha pos pins s1 Z H1 _ I1 q) λus s2 ⟨vs,H2,I2,r,q2⟩=>⟨I2.kIn,?_⟩) hst hpl;exact oW (us:=us) (vs:=vs) (dvs:=[]) (E:=E0) F hr hb .nil rD I2 r (by rw [ae6];exact q2)
theorem dG(d:iP X.prog X.w X.K X.mg X.base x m k ps sp)(hr:dX k X.A)(hg:Gl X x)(ha:PA X (e::es) t)(hdb:(x == ("__debug__":Str))=false:=by decide)
  (hst:starEach (e::es) X.env=(false,eval e X.env)::starEach es X.env:=by rfl) (hpl:(backTo pos (starEach es X.env)).any (·.1)=false:=by rfl)
  (ht:eval (.Call (.Attribute (.Name x p) m apos) (e::es) [] pos) X.env=(do
   let ov <-eval (.Name x p) X.env
   standAt apos.atName
   let (f,first) <-holding [ov] (getMethod ov m pl)
   callWith pos f first (backTo pos (starEach (e::es) X.env)) (backToKw pos (keywordEach [] X.env))):=by rfl) :
  PE X (.Call (.Attribute (.Name x p) m apos) (e::es) [] pos) (uZ sp [] E0 t):=by
 obtain⟨C,f,fd,hm,c,F,hb⟩:=d.ex;intro pins s Z H Q I h;refine PySem.W.methodCall_KW (pl:=pl) (nL I hg hm ?_ hdb) ht;refine PySem.W.method_cls I.kIn c.ga (PySem.W.cls_value I.kIn c.rd c.at_ rfl ?_);have I1:=I.tok (s.toks+1);refine PySem.W.callWith_K (first:=[]) (h₀:=X.base) I.ok.mod.kin c.kp (cW (ha pos pins _ Z H _ I1 h) λus s2 ⟨vs,H2,I2,r,q2⟩=>⟨I2.kIn,?_⟩) hst hpl;exact oW (us:=us) (vs:=vs) F hr hb .nil rD I2 r q2
theorem iJ(d:iQ X.prog X.w X.K X.mg X.base x C k ps sp)(hr:dX (k+1) X.A)(hg:Gl X x)(ha:PA X (e::es) t)(hdb:(x == ("__debug__":Str))=false:=by decide)
  (he:starEach (e::es) X.env=(false,eval e X.env)::starEach es X.env:=by rfl) (hpl:(backTo pos (starEach es X.env)).any (·.1)=false:=by rfl) :
  PE X (.Call (.Name x p) (e::es) [] pos) (Bx C sp [] E0 t):=
 let ⟨_,_,M,F,hm,hb⟩:=d.ex;C6 M F hr hg hm hb .nil rD ha hdb he hpl
end
def lT(K:Frag)(a:Addr)(D:List (Str×V)):Prop:=(a == sysModules)=false/\∃o es ep,K.lookup a=some o/\o.ExactDict/\o.data=.dict es ep/\KTD.Rows aS es.toList D
section
variable {prog:Program} {E:Value->Shared->Prop} {s:Shared} {k:Str} {tk:Tok}
theorem lT.typeIs(X:K.In s.heap)(T:lT K a D):s.TypeIs (.ref a) "dict":=let ⟨_,o,_,_,ho,hc,_⟩:=T;⟨o,X _ _ ho,hc.1⟩
theorem mS{Q:Option Value->Shared->Prop}(X:K.In s.heap)(T:lT K a D)(h1:∀d v,KTD.datumAt k D=some d->aS d v->Q (some v) { s with toks:=s.toks+1 })(h2:KTD.datumAt k D=none->Q none { s with toks:=s.toks+1 }):
  wpAny (model prog w) A (dictGet a (.str k tk)) Q E s:=by
 obtain⟨_,o,es,ep,ho,hc,hd,hr⟩:=T;have ho:=X _ _ ho;unfold dictGet
 try with_reducible refine ae7 ?_
 refine aa3 (wpAny_pyHash_str (aa3 (KTD.kt_dictFind_strs (s:={ s with toks:=s.toks+1 }) ho hd (by obtain⟨l⟩:=es;simpa using hr.exact) ?_)))
 have hq:Q (findBy (λk v=>v.isStr k) es k) { s with toks:=s.toks+1 }:=by
  have hf:findBy (λk v=>v.isStr k) es k=(es.toList.find? λe=>e.key.isStr k).map (·.val):=by
   obtain⟨l⟩:=es;simp [findBy]
  rw [hf]
  cases hat:KTD.datumAt k D with
  | some d=>obtain⟨v,hv,hfl⟩:=hr.find_some hat;rw [hv];exact h1 d v hat hfl
  | none=>rw [hr.find_none hat];exact h2 hat
 rw [findBy_of_findIdx?]at hq
 cases hi:es.findIdx? λe=>e.key.isStr k with
 | none=>rw [hi]at hq;exact ab0 hq
 | some i=>rw [hi]at hq;exact aa3 (wpAny_dictEntries (s:={ s with toks:=s.toks+1 }) ho hd (ab0 hq))
theorem yA{Q:Value->Shared->Prop}(X:K.In s.heap)(T:lT K a D)(h:Q (.bool (!(KTD.datumAt k D).isSome)) { s with toks:=s.toks+1 }):wpAny (model prog w) A (compareOp .NotIn (.str k tk) (.ref a)) Q E s:=by
 have ty:=T.typeIs X;show wpAny _ _ (do return .bool (!(<-contains (.ref a) (.str k tk)))) Q E s;refine aa3 ?_;unfold contains
 try with_reducible refine ae7 ?_
 refine aa3 (aj0 ty F.slot_dict_contains.lookup ?_);show wpAny _ _ (if (some (Value.builtin "dict.__contains__") == some Value.none)=true then _ else _) _ E s;rw [if_neg (by rw [beq_builtin_none];exact aa6)]
 refine aa3 (wpAny_callSpecialUnlessNone?_slot (name:=Str.ofString "__contains__") ty F.slot_dict_contains
  (ag2 F.slot_dict_contains ty F.entry_dict_contains ?_ (F.args_dict_contains_2 _ _)))
 show wpAny _ _ (dictGet a (.str k tk) >>= _) _ _ s;refine aa3 (mS X T (λd v ha _=>?_) λhn=>?_)
 ·rw [ha]at h
  show wpAny _ _ (ret (.bool true)) _ _ _;exact ab0 ⟨_,rfl,ae4 (ab0 h)⟩
 ·rw [hn]at h
  show wpAny _ _ (Builtin.Dict.pendingKey? a (.str k tk) >>= _) _ _ _;exact aa3 (wpAny_pendingKey_other T.1 (ab0 ⟨_,rfl,ae4 (ab0 h)⟩))
theorem z8{value slice:Expr}{v:V}{Q:Value->Shared->Prop}(X:K.In s.heap)(T:lT K a D)(hv:KTD.datumAt k D=some v)(h:∀u,aS v u->Q u { s with toks:=s.toks+1 })
  (hs:subscripted slice false (.ref a) (.str k tk)=operate [.ref a,.str k tk] (getItem (.ref a) (.str k tk))) (hg:∀r,letTemporaryGo value (.ref a) r=pure Unit.unit) :
  wpAny (model prog w) A (subscriptTail value slice (.ref a) (.str k tk)) Q E s:=by
 have ty:=T.typeIs X;refine subscriptTail_builtin ty F.slot_dict_getitem.lookup ?_ hs hg;unfold getItem
 try with_reducible refine ae7 ?_
 refine aa3 (wpAny_sequenceKey ty ∅ ?_)
 refine aa3 (wpAny_callSpecial?_slot (name:=Str.ofString "__getitem__") ty F.slot_dict_getitem
  (ag2 F.slot_dict_getitem ty F.entry_dict_getitem ?_ (F.args_dict_getitem_2 _ _)))
 show wpAny _ _ (dictGet a (.str k tk) >>= _) _ _ s;refine aa3 (mS X T (λd v' ha hr=>?_) λhn=>?_)
 ·rw [hv]at ha
  cases ha;exact ab0 ⟨v',rfl,ab0 (h v' hr)⟩
 ·rw [hv]at hn;cases hn
end
theorem vI(K:Frag)(h:X.K=K:=by rfl):dH X (compareOp .NotIn) (λx y H Q=>∃k a D,x=.str k/\y=.ref a/\lT K a D/\Q (.bl (!(KTD.datumAt k D).isSome)) H):=by
 subst h;rintro pins s Z H x y v u Q I rx ry ⟨k,a,D,rfl,rfl,T,q⟩;obtain⟨t,rfl⟩:=rx;cases ry;exact yA I.kIn T ⟨.bl _,H,I.tok _,rfl,q⟩
theorem AM(K:Frag){b:Expr}{ta tb:TE}(ha:PE X (.Name x p) ta)(hb:PE X b tb)(hs:wR b)(hg:∀v r,letTemporaryGo (.Name x p) v r=pure Unit.unit:=by intro _ _;with_unfolding_all rfl)(h:X.K=K:=by rfl):
  PE X (.Subscript (.Name x p) b pos) (E9 (λx y H Q=>∃k a D v,x=.str k/\False\/x=.ref a/\y=.str k/\lT K a D/\KTD.datumAt k D=some v/\Q v H) ta tb):=by
 subst h;intro pins s Z H Q I h;refine Subscript_ (BZ ha hb I h λv u s2 x y H2 I2 rx ry q=>?_);obtain⟨k,a,D,z,q⟩:=q;rcases q with q | ⟨rfl,rfl,T,hv,q⟩
 ·exact q.2.elim
 cases rx;obtain⟨t,rfl⟩:=ry;exact z8 I2.kIn T hv (λu ru=>⟨z,H2,I2.tok _,ru,q⟩) (hs _ _) (hg _)
theorem sE{a b:String}:(Str.ofString a=Str.ofString b)↔a=b:=by
 constructor
 ·intro h
  rw [Str.ofString_eq_toList,Str.ofString_eq_toList]at h
  have h1:(a.toList.map Char.toNat)=(b.toList.map Char.toNat):=by
   have:=congrArg (λs:Str=>s.cps.toList) h
   simpa using this
  have h2:a.toList=b.toList:=by
   refine List.map_inj_right (f:=Char.toNat) (λx y e=>?_) |>.mp h1
   exact Char.toNat_inj.mp e
  exact String.toList_inj.mp h2
 ·intro h;rw [h]
def DX:Option Int->V
 | none=>.non
 | some i=>.int i
def aE(us:List Int)(v:Int):Int:=us.getD (v - 1).toNat 0
theorem ui{us:List Int}{v:Int}(h1:1<=v)(h2:v<=us.length):fR (us.map V.int) (v - 1)=some (.int (aE us v)):=by
 obtain⟨k,hk⟩:=ae1 (show 0<=v - 1 by omega);rw [hk]
 have hl:k < us.length:=by omega
 refine aK ?_;rw [aa4,aa2 hl];simp [aE,hk,List.getD,aa2 hl]
structure bV where
 size:Int
 start:Int
 after:Int->Option (List Int)->List Int->Option Int
 closes:Int->Option (List Int)->Bool
def BV(K:Frag)(H:Hp)(nv:Nat)(b:Option (List Int))(x:V):Prop:=(b=none/\x=.non)\/∃a us,b=some us/\x=.ref a/\cI K H a (us.map V.int)/\us.length=nv
theorem BV.same{H':Hp}{b:Option (List Int)}{x:V}(s:au H H')(h:BV K H nv b x):BV K H' nv b x:=by
 rcases h with h | ⟨a,us,h1,h2,h3,h4⟩
 ·exact .inl h
 ·exact .inr ⟨a,us,h1,h2,s.tup h3,h4⟩
abbrev mP:=Addr->Hp->Prop
def pI(RI:mP)(v:V):Sp:=λvs H Q _=>∃r,vs=[.ref r]/\RI r H/\Q v H
def bA(K:Frag)(nv:Nat)(RI:mP)(S:bV)(G:Int->Prop):Sp:=λvs H Q _=>∃r m x c b us,vs=[.ref r,.int m,x,.ref c]/\RI r H/\G m/\BV K H nv b x/\cI K H c (us.map V.int)/\us.length=nv/\Q (DX (S.after m b us)) H
def eh(K:Frag)(nv:Nat)(RI:mP)(S:bV)(G:Int->Prop):Sp:=λvs H Q _=>∃r m x b,vs=[.ref r,.int m,x]/\RI r H/\G m/\BV K H nv b x/\Q (.bl (S.closes m b)) H
structure br(P:Program)(w:World)(K:Frag)(mg:Str->Option Value)(base:Heap)(k:Nat)(nv:Nat)(C:Addr)(S:bV)(RI:mP)(G:Int->Prop):Prop where
 mono:∀r H H',au H H'->RI r H->RI r H'
 ins:∀r H,RI r H->∃dx fs,H r=some (.ins C dx fs)/\fs.lookup (Str.ofString "size")=none/\fs.lookup (Str.ofString "start")=none/\fs.lookup (Str.ofString "after")=none/\fs.lookup (Str.ofString "closes")=none/\fs.lookup (Str.ofString "shown")=none
 g0:G S.start
 gS:∀m b us m',G m->S.after m b us=some m'->G m'
 size:aF P w K mg base C "size" k ["self"] (pI RI (.int S.size))
 start:aF P w K mg base C "start" k ["self"] (pI RI (.int S.start))
 after:aF P w K mg base C "after" k ["self","memory","before","column"] (bA K nv RI S G)
 closes:aF P w K mg base C "closes" k ["self","memory","last"] (eh K nv RI S G)
theorem br.up{S:bV}{RI:mP}{G:Int->Prop}(R:br P w K mg base j nv C S RI G)(h:j<=k):br P w K mg base k nv C S RI G:=
 ⟨R.mono,R.ins,R.g0,R.gS,R.size.up h,R.start.up h,R.after.up h,R.closes.up h⟩
def DG(S:bV)(m:Int)(b:Option (List Int))(i:Nat):List (List Int)->Option Nat
 | []=>if S.closes m b=true then none else some i
 | c::cs=>match S.after m b c with
  | none=>some i
  | some m'=>DG S m' (some c) (i+1) cs
def brk(S:bV)(cols:List (List Int)):Option Int:=(DG S S.start none 0 cols).map λ(n:Nat)=>(n:Int)
def gF(K:Frag)(H:Hp)(l:Addr)(nv:Nat)(cols:List (List Int)):Prop:=∃ps:List Addr,aJ K H l (ps.map V.ref)/\ps.length=cols.length/\∀(i:Nat) (p:Addr) (us:List Int),ps[i]?=some p->cols[i]?=some us->cI K H p (us.map V.int)/\us.length=nv
theorem gF.same{H':Hp}{l:Addr}{cols:List (List Int)}(s:au H H')(h:gF K H l nv cols):gF K H' l nv cols:=by
 obtain⟨ps,h1,h2,h3⟩:=h;exact⟨ps,s.seq h1,h2,λi p us a b=>⟨s.tup (h3 i p us a b).1,(h3 i p us a b).2⟩⟩
def jt(P:Program)(w:World)(K:Frag)(mg:Str->Option Value)(base:Heap)(k:Nat):Sp:=λvs H Q _=>∃(r l:Addr) (nv:Nat) (C:Addr) (S:bV) (RI:mP) (G:Int->Prop) (cols:List (List Int)),
 vs=[.ref r,.ref l]/\br P w K mg base k nv C S RI G/\RI r H/\gF K H l nv cols/\cols.length<=1000/\∀H',au H H'->Q (DX (brk S cols)) H'
structure f7(z kind:Str)(ns:List Int):Prop where
 cs:z.cps.toList=dv 32 (kind.cps.toList::ns.map hX)
 nb:∀n∈ns,n.natAbs < 10 ^ 40
 nl:ns.length<=20
 ks:32∉kind.cps.toList
 kl:kind.length<=20
 k0:kind.cps.toList≠[]
theorem nM(n:Int):32∉hX n:=λh=>by
 have:=oH n 32 h
 omega
theorem Dx{y:Str}(h:x.cps.toList=y.cps.toList):x=y:=by
 have:=lQ x y
 rw [decide_eq_true h]at this;exact of_decide_eq_true this
theorem ft:∀{xs ys:List Str},xs.map (λz=>z.cps.toList)=ys.map (λz=>z.cps.toList)->xs=ys
 | [],[],_=>rfl
 | [],_::_,h=>by simp at h
 | _::_,[],h=>by simp at h
 | x::xs,y::ys,h=>by
  rw [ac7,ac7]at h
  injection h with h1 h2
  rw [Dx h1,ft h2]
def aR(n:Int):Str:=Str.ofString (toString n)
theorem f7.split(R:f7 z kind ns):Txt.split z ⟨#[32]⟩=kind::ns.map aR:=by
 refine ft ?_;rw [jv z ∅,R.cs,pO 32 _ (by simp) (λp hp=>?_),ac7,ai7]
 ·rfl
 ·rcases ab2.mp hp with rfl | hp
  ·exact R.ks
  ·obtain⟨n,_,rfl⟩:=ac3.mp hp
   exact nM n
theorem jF(c:Nat):∀(ps:List (List Nat)) (m:Nat),(∀p∈ps,p.length<=m)->(dv c ps).length<=ps.length * (m+1)
 | [],_,_=>by simp [dv]
 | p::ps,m,h=>by
  have h1:=h p (by simp);have h2:=jF c ps m (λq hq=>h q (by simp [hq]))
  have h3:(dv c (p::ps)).length<=p.length+1+(dv c ps).length:=by
   cases ps with
   | nil=>simp [dv]
   | cons q ps=>
    simp [dv,aa8];omega
  rw [ad4,am7];omega
theorem f7.len(R:f7 z kind ns):z.length<=10000:=by
 rw [bh,R.cs]
 have h:=jF 32 (kind.cps.toList::ns.map hX) 60 (λp hp=>by
  rcases ab2.mp hp with rfl | hp
  ·have:=R.kl;rw [bh]at this;omega
  ·obtain⟨n,hn,rfl⟩:=ac3.mp hp
   have:=gi (n:=n) (k:=40) ∅ (R.nb n hn)
   omega)
 have:=R.nl
 simp only [ad4,aa0]at h;omega
theorem wy(z y:Str){c:Nat}(hy:y.cps.toList.head?=some c)(hz:z.cps.toList.head?≠some c):Txt.startswith z y=false:=by
 obtain⟨⟨l⟩⟩:=z;obtain⟨⟨m⟩⟩:=y
 unfold Txt.startswith
 rw [StrLaws.subAt_eq]
 cases m with
 | nil=>simp at hy
 | cons b m=>
  cases l with
  | nil=>simp [Str.length]
  | cons a l=>
   simp at hy hz;subst hy;simp [Str.length];intro _ h;exact absurd h hz
theorem f7.head(R:f7 z kind ns):z.cps.toList.head?=kind.cps.toList.head?:=by
 rw [R.cs]
 cases e:kind.cps.toList with
 | nil=>exact absurd e R.k0
 | cons a l=>
  cases ns with
  | nil=>simp [dv]
  | cons n ns=>simp [dv]
theorem AN:PE X e (λ_ _ _=>False):=λ_ _ _ _ _ _ h=>h.elim
theorem cy(xs:List V)(k:Nat):nZ xs (some (k:Int)) none=xs.drop k:=by
 unfold nZ;rw [HT.sIx_nat,HT.sIx_none]
 by_cases h:k<=xs.length
 ·rw [ap0 h,ag1 (by rw [ah2];omega)]
 ·rw [Nat.min_eq_right (),List.drop_of_length_le (aa9 _),List.drop_of_length_le (),List.take_nil]
theorem fq(xs:List V)(k:Nat):nZ xs none (some (k:Int))=xs.take k:=by
 unfold nZ HT.sIx
 have e:¬((k:Int) < 0):=by omega
 simp [e]
theorem og(i:Int):∀D:List Int,zV (.int i) (D.map V.int)=decide (i∈D)
 | []=>rfl
 | d::D=>by
  have ih:=og i D
  have e:zV (.int i) ((d::D).map V.int)=((d == i) || zV (.int i) (D.map V.int)):=rfl
  rw [e,ih,af5,ak2,beq_iff_eq,decide_eq_true_eq,decide_eq_true_eq,ab2];exact⟨λh=>h.imp Eq.symm id,λh=>h.imp Eq.symm id⟩
theorem gk{D:List Int}(h:aJ K H a (D.map V.int))(q:Q (.bl (decide (i∈D))) H):vN K (.int i) (.ref a) H Q:=by
 refine .inr ⟨a,_,rfl,.inl h,rfl,?_,?_⟩
 ·rw [ah8];exact af7.mpr λ_ _=>rfl
 ·rw [og];exact q
theorem aJ.at_ins{q x dx:Addr}{fs:List (Str×V)}{o:HO}(h:aJ K H q xs)(hx:H x=some (.ins C dx fs)):aJ K (upd H x o) q xs:=by
 rcases h with(h | ⟨u,h⟩) | h
 ·exact .inl (.inl (by rw [aj (dE h hx (by intro z;cases z))];exact h))
 ·exact .inl (.inr ⟨u,by rw [aj (dE h hx (by intro z;cases z))];exact h⟩)
 ·exact .inr h
theorem fE{x l:Addr}{A L B:HO}:upd (upd (upd H x A) l L) x B=upd (upd H l L) x B:=by
 funext b
 unfold upd
 by_cases h:b=x
 ·rw [if_pos h,if_pos h]
 ·rw [if_neg h,if_neg h,if_neg h]
structure aY(K:Frag)(C:Addr)(m qual:Str)(st:Stmt)(f:Addr)(fd:FuncData):Prop where
 me:Ed K C m f
 fn:b0 K m qual st f fd
theorem methAt_mk(a:findIn K (.ref C) m=some (some (.ref f)))(i:PySem.W.isFn K (.ref f)=true)
  (l:K.lookup f=some ⟨oc,od,.func (fnOf m qual (cu st) (bX st) (ak st) .none kV doc pm an cdv ct),osl⟩) (c:codeIn K cdv qual=true) (k:keepIn K (.ref f)=true):∃f fd,aY K C m qual st f fd:=
 ⟨f,_,⟨a,i,k⟩,fun_mk l c k⟩
theorem aY.ok(A:aY K C m qual st f fd)(cl:u6 K C)(ok:aL P w K mg base bU k f fd ps sp)(b:dn K fd ps []):aF P w K mg base C m k ps sp:=⟨cl,f,fd,A.me,ok,b⟩
structure kB(K:Frag)(x m qual:Str)(st:Stmt)(C f:Addr)(fd:FuncData):Prop where
 ns:nsIn K mainGlobals x=some (some (.ref C))
 cm:DB K C m f
 fn:b0 K m qual st f fd
theorem cmethAt_mk(n:nsIn K mainGlobals x=some (some (.ref C)))(r:PySem.W.readsIn K C (.type "type")=true)(a:PySem.W.findCls K (.ref C) (.type "type") m=some (.val (.ref f)))
  (g:PySem.W.specialIn K (.ref C) "__getattribute__"=some (some (.builtin "type.__getattribute__")))
  (l:K.lookup f=some ⟨oc,od,.func (fnOf m qual (cu st) (bX st) (ak st) .none kV doc pm an cdv ct),osl⟩) (c:codeIn K cdv qual=true) (k:keepIn K (.ref f)=true):∃C f fd,kB K x m qual st C f fd:=
 ⟨C,f,_,n,⟨r,a,g,k⟩,fun_mk l c k⟩
theorem kB.df{h:Heap}(A:kB K x m qual st C f fd)(X:K.In h)(G:h.Ns mainGlobals mg)(ok:aL P w K mg base bU k f fd ps sp)(b:dn K fd ps []):iP P w K mg base x m k ps sp:=
 ⟨C,f,fd,mg_of X G A.ns,A.cm,ok,b⟩
structure jX(K:Frag)(x qual:Str)(st:Stmt)(C f:Addr)(fd:FuncData):Prop where
 ns:nsIn K mainGlobals x=some (some (.ref C))
 mm:Mk K C f
 fn:b0 K "__init__" qual st f fd
theorem mkAt_mk(n:nsIn K mainGlobals x=some (some (.ref C)))(mk:PySem.W.makesIn K C=true)(a:findIn K (.ref C) "__init__"=some (some (.ref f)))(i:PySem.W.isFn K (.ref f)=true)(kc:keepIn K (.ref C)=true)
  (l:K.lookup f=some ⟨oc,od,.func (fnOf "__init__" qual (cu st) (bX st) (ak st) .none kV doc pm an cdv ct),osl⟩) (c:codeIn K cdv qual=true) (k:keepIn K (.ref f)=true):∃f fd,jX K x qual st C f fd:=
 ⟨f,_,n,⟨mk,a,i,kc⟩,fun_mk l c k⟩
theorem jX.df{h:Heap}(A:jX K x qual st C f fd)(X:K.In h)(G:h.Ns mainGlobals mg)(ok:aL P w K mg base bU k f fd ps sp)(b:dn K fd ps []):iQ P w K mg base x C k ps sp:=
 ⟨f,fd,A.mm,ok,mg_of X G A.ns,b⟩
theorem l7(c:Nat)(a b:List Nat)(ps:List (List Nat)):dv c (a::b::ps)=a++c::dv c (b::ps):=by simp [dv]
theorem Dy{n:Int}(h:n.natAbs < 10 ^ 40):n.natAbs.log2 < 1920:=by
 by_cases h0:n.natAbs=0
 ·rw [h0];decide
 ·exact(Nat.log2_lt h0).mpr (ab3 h (by decide +kernel))
theorem dF{n:Int}(h:n.natAbs < 10 ^ 40):(aR n).length<=41:=by
 rw [bh];exact gi (n:=n) (k:=40) ∅ h
theorem Ax{us:List Int}{v:Int}(h1:0<=v)(h2:v < us.length):fR (us.map V.int) v=some (.int (aE us (v+1))):=by
 have:=ui (us:=us) (v:=v+1) () ()
 rwa [show v+1 - 1=v by omega]at this
theorem rowsR{e:DictEntry}{t:Tok}{es:List DictEntry}(h1:e.key=.str x t)(h2:e.val=.ref f)(r:KTD.Rows aS es D):KTD.Rows aS (e::es) ((x,V.ref f)::D):=.cons h1 h2 r
theorem tab_mk{es:Array DictEntry}{ep:Nat}(l:K.lookup a=some o)(s:(a == sysModules)=false)(x:o.cls=.type "dict")(y:o.dict=none)(z:o.slots=#[])(d:o.data=.dict es ep)(r:KTD.Rows aS es.toList D):lT K a D:=⟨s,o,es,ep,l,⟨x,y,z⟩,d,r⟩
theorem defAtD_mk2{v:V}(a:nsIn K mainGlobals x=some (some (.ref f)))
  (l:K.lookup f=some ⟨oc,od,.func (fnOf x x (cu st) (bX st) (ak st) (.ref T) kV doc pm an cdv ct),osl⟩) (c:codeIn K cdv x=true) (k:keepIn K (.ref f)=true)
  (t:K.lookup T=some o) (d:o.data=.seq #[u] n) (r:aS v u):∃f fd u,zc K x st f fd u/\aS v u:=
 ⟨f,_,u,⟨a,T,o,n,⟨⟨oc,od,kV,doc,pm,an,cdv,ct,osl,rfl,l,c⟩,k⟩,t,d⟩,r⟩
theorem pU:cS X (.type "str") (λxs H Q=>∃z,xs=[.str z]/\Q (.str z) H):=by
 rintro pins s Z H xs us Q I r ⟨z,rfl,q⟩;obtain⟨u,rfl,ru⟩:=fF r;obtain⟨t,rfl⟩:=ru;exact P.str_of_str ⟨.str z,H,I,⟨t,rfl⟩,q⟩
def vR:List V->Hp->VK->Prop:=λxs H Q=>(∃i,xs=[.int i]/\i.natAbs.log2 < 1920/\Q (.str (aR i)) H)\/∃z,xs=[.str z]/\Q (.str z) H
theorem jB:cS X (.type "str") vR:=call_str_int.or pU
theorem rStr_i:vR [.int i] H Q↔i.natAbs.log2 < 1920/\Q (.str (aR i)) H:=by simp [vR]
theorem rStr_s:vR [.str z] H Q↔Q (.str z) H:=by simp [vR]
theorem A6(nb:∀n∈ns,n.natAbs < 10 ^ 40)(nl:ns.length<=20)(ks:32∉kind.cps.toList)(kl:kind.length<=20)(k0:kind.cps.toList≠[]):f7 (Txt.join (Str.ofString " ") (kind::ns.map aR)) kind ns:=by
 have e32:(Str.ofString " ")=⟨#[32]⟩:=by decide +kernel
 refine⟨?_,nb,nl,ks,kl,k0⟩;rw [e32,cP,ac7,ai7];rfl
end L2
namespace L3
open PySem PySem.Spec PyProof.Rows
section
variable {prog:Program} {w:World} {A:Around} {E:Value->Shared->Prop} {s:Shared}
end
end L3
namespace L2
open PySem PySem.Spec PyProof.Rows
def Hh(K:Frag)(n:Nat)(t:BW):TG:=λv Z H Q=>∃a l xs,v=.ref a/\jy K l H a xs/\xs.length=n/\t xs Z H Q
theorem eD{K:Frag}{H:Hp}{a:Addr}{i:Int}{D:List Int}{Q:VK}(h:aJ K H a (D.map V.int))(q:Q (.bl (!decide (i∈D))) H):jJ K (.int i) (.ref a) H Q:=by
 refine .inr ⟨a,_,rfl,.inl h,rfl,?_,?_⟩
 ·rw [ah8];exact af7.mpr λ_ _=>rfl
 ·rw [og];exact q
theorem jA{α:Type}{xs:List α}{v:α}{n:Nat}(hl:xs.length=n+1)(h:xs[n]?=some v):fR xs (-1)=some v:=by
 unfold fR BN;rw [if_neg ∅,if_pos (),hl];show xs[((-1:Int)+((n+1:Nat):Int)).toNat]?=some v;rw [show((-1:Int)+((n+1:Nat):Int)).toNat=n by omega];exact h
section
variable {X:Cx} {e st:Expr} {te:TE} {p2 pos:Pos}
def HC(K:Frag)(te ts:TE):TE:=λZ H Q=>te Z H λx H1=>ts Z H1 λy H2=>y=.int (-1)/\∃a xs,x=.ref a/\aJ K H2 a xs/\∀p,H2 p=none->Q (.ref p) (upd H2 p (.lst xs.reverse))
end
def gb(B:Nat->Bool)(i:Nat):Nat->Option Nat
 | 0=>none
 | k+1=>if B i=true then some i else gb B (i+1) k
theorem iW(B:Nat->Bool):∀(k i:Nat),gb B i (k+1)=match gb B i k with | some j=>some j | none=>if B (i+k)=true then some (i+k)else none
 | 0,i=>by simp [gb]
 | k+1,i=>by
  have ih:=iW B k (i+1);rw [gb,ih]
  by_cases hb:B i=true
  ·simp [gb,hb]
  ·rw [if_neg hb]
   simp only [gb];rw [if_neg hb,show i+1+k=i+(k+1)by omega]
def g7(cols:List (List Int)):Nat->Option (List Int)
 | 0=>none
 | i+1=>cols[i]?
structure Walks(S:bV)(cols:List (List Int))(mem:Nat->Int)(B:Nat->Bool):Prop where
 m0:S.start=mem 0
 st:∀(i:Nat) (us:List Int),cols[i]?=some us->S.after (mem i) (g7 cols i) us=if B i=true then none else some (mem (i+1))
theorem A5{x kind:Str}{a b:Int}(hx:x.cps.toList=kind.cps.toList++[32])(na:a.natAbs < 10 ^ 40)(nb:b.natAbs < 10 ^ 40)(ks:32∉kind.cps.toList)(kl:kind.length<=20)(k0:kind.cps.toList≠[]):f7 (x++aR a++Str.ofString " " ++ aR b) kind [a,b]:=by
 refine⟨?_,λn hn=>?_,by simp,ks,kl,k0⟩
 ·have e32:(Str.ofString " ").cps.toList=[32]:=by decide +kernel
  have ea:∀u v:Str,(u++v).cps.toList=u.cps.toList++v.cps.toList:=λu v=>by
   show(u.cps++v.cps).toList=_;rw [ah0]
  rw [ea,ea,ea,hx,e32];simp only [ac7,ah1,dv];simp;rfl
 ·rcases ab2.mp hn with rfl | hn
  ·exact na
  ·rw [ab8.mp hn];exact nb
end L2
namespace L3
open PySem PySem.Spec PyProof.Rows L2 HT
section
variable {prog:Program} {w:World} {A:Around} {E:Value->Shared->Prop} {s:Shared}
theorem cat_tup0{t b:Addr}{ws:List Value}{Q:Value->Shared->Prop}(ht:IsTup s.heap t (List.toArray []))(hb:IsTup s.heap b ws.toArray)
  (h1:Q (.ref b) s):wpAny (model prog w) A (binaryOp .Add (.ref t) (.ref b)) Q E s:=by
 obtain⟨⟨cls,dd,data,sl⟩,ho,hc,n,hd⟩:=id ht;obtain⟨⟨cls2,dd2,data2,sl2⟩,ho2,hc2,n2,hd2⟩:=id hb;simp only at hc hd hc2 hd2;subst hc hd hc2 hd2
 exact concat_meets ⟨_,ho,rfl⟩ ⟨_,ho2,rfl⟩ noFill_tuple_add seq_tuple_add PySem.F.slot_tuple_add PySem.F.entry_tuple_add (PySem.F.args_tuple_add_2 _ _)
   (tuple_addW0 t b #[] ws.toArray n n2 dd dd2 sl sl2 (by simp)) ⟨ho,ho2,h1⟩
end
end L3
namespace L2
open PySem PySem.Spec PyProof.Rows
variable {A:Around} {D:jK} {E:Value->Shared->Prop} {H:Hp} {K:Frag} {Q:VK} {X:Cx} {a:Addr} {i j t u:Int} {prog:Program} {rest z:Str} {w:World} {x y:V} {xs:List V}
def AW(K:Frag):R2:=λx y H Q=>∃a b ys,x=.ref a/\y=.ref b/\cI K H a []/\cI K H b ys/\Q (.ref b) H
theorem CZ:dH X (binaryOp .Add) (AW X.K):=by
 rintro pins s Z H x y v u Q I rx ry ⟨a,b,ys,rfl,rfl,ha,hb,q⟩;cases rx;cases ry;obtain⟨its,r1,p1,_⟩:=I.tuple ha;obtain⟨its2,r2,p2,_⟩:=I.tuple hb;cases r1;exact L3.cat_tup0 p1 p2 ⟨.ref b,H,I,rfl,q⟩
def jd(K:Frag):R2:=λx y H Q=>eT K x y H Q\/AW K x y H Q
theorem ED(K:Frag)(h:X.K=K:=by rfl):dH X (binaryOp .Add) (jd K):=by
 subst h;exact opAdd.or CZ
theorem AV{K:Frag}:jd K (.int i) (.int j) H Q↔Q (.int (i+j)) H:=by
 simp [jd,oV,AW]
theorem Ab(K:Frag):ox (jd K)=jd K:=w6 λ_ _ _ _=>AV
theorem Ct{K:Frag}:ox (jd K) x y H Q↔jd K x y H Q:=by rw [Ab]
theorem xa(K:Frag)(h:X.K=K:=by rfl):dH X (binaryOp .Add) (ox (jd K)):=by rw [Ab];exact ED K h
theorem uD{K:Frag}{b:Addr}{ys:List V}(ha:H a=some (.tup xs))(hb:H b=some (.tup ys))(hz:xs.length+ys.length<=sizeLine)(q:∀p H',au H H'->H' p=some (.tup (xs++ys))->Q (.ref p) H'):jd K (.ref a) (.ref b) H Q:=by
 by_cases hx:xs=[]
 ·subst hx
  exact .inr ⟨a,b,ys,rfl,rfl,cI.of ha,cI.of hb,q b H (au.refl H) hb⟩
 ·refine .inl (.inr (.inr (.inr ⟨a,b,xs,ys,rfl,rfl,cI.of ha,cI.of hb,hx,hz,λe=>?_,λ_ p hp=>q p _ (aq hp) ae⟩)))
  subst e;exact q a H (au.refl H) (by rw [ae6];exact ha)
def Itd(lo:Int)(n:Nat):It:=⟨λi _=>i < n,λi H x H'=>H'=H/\x=.int (lo - i),λi _=>n<=i⟩
section
variable {tg:Expr}
def FU(ta:TA):TI:=λZ H R=>ta Z H λvs H1=>∃i j:Int,vs=[.int i,.int j,.int (-1)]/\(-(2 ^ 62)<=i/\i < 2 ^ 62/\-(2 ^ 62)<=j/\j < 2 ^ 62)/\R (Itd i (i - j).toNat) H1
end
theorem jS:∀{ns:List Int} {us:List Value},aX (ns.map V.int) us->∃ps:List (Int×Tok),us=ps.map (λp=>Value.int p.1 p.2)/\ps.map (·.1)=ns
 | [],_,.nil=>⟨[],rfl,rfl⟩
 | n::ns,_,.cons r t=>by
  obtain⟨ps,e1,e2⟩:=jS t;obtain⟨tk,rfl⟩:=r;exact⟨(n,tk)::ps,by rw [e1];rfl,by rw [<-e2];rfl⟩
theorem xW(hc:X.calm=true)(K:Frag)(hK:X.K=K:=by rfl):cS X (.builtin "min") (λxs H Q=>∃p ns,xs=[.ref p]/\aJ K H p (List.map V.int ns)/\ns≠[]/\∀i∈ns,Q (.int i) H):=by
 subst hK;rintro pins s Z H xs us Q I r ⟨p,ns,rfl,hp,hne,q⟩;obtain⟨u,rfl,ru⟩:=fF r;cases ru;obtain⟨its,rv,ht,_⟩:=I.list hp;obtain⟨ps,e1,e2⟩:=jS rv
 have hl:s.heap.IsList p (intItems ps.toArray):=by
  have:=ht.isList
  rw [e1]at this;simpa [intItems]using this
 refine min_intList (I.ok.hd hc) hl (by
  rw [ab1]
  have:ps.length=ns.length:=by rw [<-e2,aa0]
  have:ns.length≠0:=λz=>hne (af8.mp z)
  omega) λv h' tk hv hk=>?_
 simp only [intItems,List.map_toArray,List.getElem?_toArray,aa4,Option.map_eq_some_iff]at hv;obtain⟨⟨a,t⟩,ha,rfl⟩:=hv;refine⟨.int a,H,I.kept (t':=tk) λb o e=>hk b o e,⟨t,rfl⟩,q a ?_⟩;rw [<-e2];exact List.mem_map_of_mem (f:=λp:Int×Tok=>p.1) (ac0 ha)
def gT(c:Nat):Nat->List Nat->List (List Nat)
 | 0,l=>[l]
 | _+1,[]=>[[]]
 | n+1,a::l=>if a=c then []::gT c n l else match gT c (n+1) l with
  | []=>[[a]]
  | p::r=>(a::p)::r
theorem tH(c:Nat):∀n l,gT c n l≠[]
 | 0,l=>by simp [gT]
 | n+1,[]=>by simp [gT]
 | n+1,a::l=>by
  simp only [gT]
  split
  ·simp
  ·split<;>simp
theorem jG(x:Str)(c:Nat)(lim:Nat):∀(l:List Nat) (i:Nat) (acc:Array Nat) (fr:Nat),x.cps.toList.drop i=l->fr<=i->
  (forIn (List.range' i (l.length+1)) (acc,fr) (StrLaws.occBody x ⟨#[c]⟩ x.length lim)).run.fst.toList=acc.toList++(dY c l i).take (lim - acc.size)
 | [],i,acc,fr,hl,hf=>by
  have hi:x.length<=i:=by
   rw [bh];exact aj4.mp hl
  show(forIn [i] (acc,fr) _:Id _).run.fst.toList=_;rw [af6];unfold StrLaws.occBody;rw [if_neg (by intro h;have:=h.1.2;have e1:(⟨#[c]⟩:Str).length=1:=rfl;rw [e1]at this;omega)];show acc.toList=_;simp [dY]
 | b::l,i,acc,fr,hl,hf=>by
  have hb:x.cps.toList[i]?=some b:=by
   have:(x.cps.toList.drop i)[0]?=some b:=by rw [hl];rfl
   rwa [af1,ao6]at this
  have hi:i < x.length:=by
   rw [bh];obtain⟨h,_⟩:=aa1.mp hb;exact h
  have hd:x.cps.toList.drop (i+1)=l:=by
   rw [<-al0,hl];rfl
  have e1:(⟨#[c]⟩:Str).length=1:=rfl;show(forIn (i::List.range' (i+1) (l.length+1)) (acc,fr) _:Id _).run.fst.toList=_;rw [af6];unfold StrLaws.occBody
  by_cases hc:b=c
  ·by_cases hs:acc.size < lim
   ·rw [if_pos ⟨⟨⟨hs,hf⟩,by rw [e1];omega⟩,((StrLaws.subAt_one x c i).mpr (by rw [hb,hc])).2⟩]
    show(forIn (List.range' (i+1) (l.length+1)) (acc.push i,i+1) (StrLaws.occBody x ⟨#[c]⟩ x.length lim):Id _).run.fst.toList=_;rw [jG x c lim l (i+1) _ _ hd (aa9 _),Array.size_push];simp only [dY,hc,if_true];rw [show lim - acc.size=(lim - (acc.size+1))+1 by omega,am4];simp
   ·rw [if_neg (λh=>hs h.1.1.1)]
    show(forIn (List.range' (i+1) (l.length+1)) (acc,fr) (StrLaws.occBody x ⟨#[c]⟩ x.length lim):Id _).run.fst.toList=_;rw [jG x c lim l (i+1) _ _ hd ()];rw [show lim - acc.size=0 by omega];simp
  ·rw [if_neg (λh=>hc (by have:=(StrLaws.subAt_one x c i).mp ⟨h.1.2,h.2⟩;rw [hb]at this;exact Option.some.inj this))]
   show(forIn (List.range' (i+1) (l.length+1)) (acc,fr) (StrLaws.occBody x ⟨#[c]⟩ x.length lim):Id _).run.fst.toList=_;rw [jG x c lim l (i+1) _ _ hd ()];simp [dY,hc]
theorem Ay(x:Str)(c n:Nat):Builtin.Str.occurrences x ⟨#[c]⟩ 0 x.length n=(dY c x.cps.toList 0).take n:=by
 rw [StrLaws.occ_eq]
 have e:x.length+1 - 0=x.cps.toList.length+1:=by rw [bh];rfl
 rw [e];have h:=jG x c n x.cps.toList 0 #[] 0 rfl (aa9 _);rw [h];rfl
theorem ja(x:Str)(c:Nat):∀(l:List Nat) (n a j:Nat),a<=j->x.cps.toList.drop j=l->j<=x.length->
  (StrLaws.partsFrom x 1 a ((dY c l j).take n)).map (λz=>z.cps.toList)=match gT c n l with
   | []=>[]
   | p::r=>((x.cps.toList.drop a).take (j - a)++p)::r
 | l,0,a,j,haj,hl,hj=>by
  simp only [List.take_zero,gT,StrLaws.partsFrom,ac7,ah1,StrLaws.strSub_toList];congr 1;rw [ag1 (by rw [ah2,bh];omega)]
  have:=List.take_append_drop (j - a) (x.cps.toList.drop a)
  rw [al0,show a+(j - a)=j by omega,hl]at this;exact this.symm
 | [],n+1,a,j,haj,hl,hj=>by
  have hj':x.length<=j:=by rw [bh];exact aj4.mp hl
  have e:j=x.length:=by omega
  subst e;simp [dY,gT,StrLaws.partsFrom,StrLaws.strSub_toList]
 | b::l,n+1,a,j,haj,hl,hj=>by
  have hb:x.cps.toList[j]?=some b:=by
   have:(x.cps.toList.drop j)[0]?=some b:=by rw [hl];rfl
   rwa [af1,ao6]at this
  have hi:j < x.length:=by
   rw [bh];obtain⟨h,_⟩:=aa1.mp hb;exact h
  have hd:x.cps.toList.drop (j+1)=l:=by
   rw [<-al0,hl];rfl
  by_cases hc:b=c
  ·have ih:=ja x c l n (j+1) (j+1) (aa9 _) hd hi
   simp only [dY,hc,if_true,am4,StrLaws.partsFrom,ac7,gT,ae6];rw [ih]
   cases hs:gT c n l with
   | nil=>exact absurd hs (tH c n l)
   | cons p r=>simp [StrLaws.strSub_toList]
  ·have ih:=ja x c l (n+1) a (j+1) () hd hi
   simp only [dY,hc,if_false,gT];rw [ih]
   cases hs:gT c (n+1) l with
   | nil=>exact absurd hs (tH c (n+1) l)
   | cons p r=>
    have ht:(x.cps.toList.drop a).take (j+1 - a)=(x.cps.toList.drop a).take (j - a)++[b]:=by
     have e1:j+1 - a=(j - a)+1:=by omega
     rw [e1,ac6,af1]
     have e2:a+(j - a)=j:=by omega
     rw [e2,hb];rfl
    simp [ht]
theorem lP(c n:Nat)(rest:List Nat):∀(p:List Nat),c∉p->gT c (n+1) (p++c::rest)=p::gT c n rest
 | [],_=>by simp [gT]
 | a::p,h=>by
  have h1:¬a=c:=λe=>h (by simp [e]);have ih:=lP c n rest p (λe=>h (by simp [e]));show gT c (n+1) (a::(p++c::rest))=_;simp only [gT,h1,if_false];rw [ih]
theorem uB(c:Nat)(rest:List Nat):∀(p:List Nat) (i:Nat),dY c (p++c::rest) i≠[]
 | [],i=>by simp [dY]
 | a::p,i=>by
  show dY c (a::(p++c::rest)) i≠[];simp only [dY]
  split
  ·simp
  ·exact uB c rest p (i+1)
def i9(z:Str)(c k:Nat):List Str:=Builtin.Str.partsBetween z ((dY c z.cps.toList 0).take k) 1
theorem sT(z:Str)(c k:Nat):(i9 z c k).map (λy=>y.cps.toList)=gT c k z.cps.toList:=by
 unfold i9;rw [StrLaws.partsBetween_eq,ja z c z.cps.toList k 0 0 (aa9 _) rfl (ac2 _)]
 cases hs:gT c k z.cps.toList with
 | nil=>exact absurd hs (tH c k _)
 | cons p r=>simp
theorem yx:BR X "str.split" (λx xs H Q=>∃z c k,x=.str z/\xs=[.str ⟨#[c]⟩,.int k]/\c < 256/\0 < k/\k < 2 ^ 30/\dY c z.cps.toList 0≠[]/\z.length < sizeLine/\(i9 z c k.toNat).length<=sizeLine/\∀p,H p=none->Q (.ref p) (upd H p (.lst ((i9 z c k.toNat).map V.str)))):=by
 rintro pins s Z H x xs v us Q I rx r ⟨z,c,k,rfl,rfl,hc,k0,k1,hne,hz,hlen,q⟩;obtain⟨t,rfl⟩:=rx;obtain⟨u,u2,rfl,⟨t',rfl⟩,⟨t2,rfl⟩⟩:=u4 r
 have ek:Builtin.Str.strKind ⟨#[c]⟩=1:=by simp [Builtin.Str.strKind,hc]
 have ek2:1<=Builtin.Str.strKind z:=by unfold Builtin.Str.strKind;split<;>(try split)<;>omega
 have hzl:1<=z.length:=by
  rw [bh]
  cases hz':z.cps.toList with
  | nil=>rw [hz']at hne;exact absurd rfl hne
  | cons a l=>simp
 have h1:(decide (z.length < (⟨#[c]⟩:Str).length) || decide (Builtin.Str.strKind z < Builtin.Str.strKind ⟨#[c]⟩))=false:=by
  rw [ek];have e1:(⟨#[c]⟩:Str).length=1:=rfl;rw [e1,decide_eq_false (),decide_eq_false ()];rfl
 have hk:(decide (k < -(2 ^ 63:Int)) || decide (k>=2 ^ 63))=false:=by
  rw [decide_eq_false (),decide_eq_false ()];rfl
 have el:Builtin.Str.occurrences z ⟨#[c]⟩ 0 z.length (PySem.limitOf z k)=(dY c z.cps.toList 0).take k.toNat:=by
  rw [Ay];unfold PySem.limitOf;rw [if_neg ()]
 have hf:(Builtin.Str.occurrences z ⟨#[c]⟩ 0 z.length (PySem.limitOf z k)).isEmpty=false:=by
  rw [el]
  cases hp:dY c z.cps.toList 0 with
  | nil=>exact absurd hp hne
  | cons a l=>rw [show k.toNat=(k.toNat - 1)+1 by omega];rfl
 have ep:Builtin.Str.partsBetween z (Builtin.Str.occurrences z ⟨#[c]⟩ 0 z.length (PySem.limitOf z k)) (⟨#[c]⟩:Str).length=i9 z c k.toNat:=by rw [el];rfl
 have fin:∀(its:List Value) (tk:Nat),aX ((i9 z c k.toNat).map V.str) its->EP X pins Z Q (.ref s.heap.objs.size) { s with toks:=tk,heap:=s.heap.push { cls:=.type "list",data:=.seq its.toArray } }:=λits tk rv=>
  ⟨.ref s.heap.objs.size,_,I.laid (t':=tk) (o:=.lst ((i9 z c k.toNat).map V.str)) (λb ob q=>aa5 _ q) (aa9 _) ⟨by rw [aa0];exact hlen,its,0,rv,ab9 _ rfl⟩,rfl,q _ (I.hok.fresh (aa9 _))⟩
 rw [<-ep]at fin hlen;exact call_meets F.slot_str_split (typeIs_str _ _ _) F.entry_str_split (F.args_str_split_3 _ _ _) (meets_str_split_sep_max z ⟨#[c]⟩ k t t' t2 hk h1 rfl hf (ah6 hz) hlen) (fin _ _ (mO _ _))
def ze(K:Frag)(a:Addr)(xs:List V):Prop:=∃(o:Obj) (its:Array Value) (n:Nat),K.lookup a=some o/\o.cls=.type "tuple"/\o.data=.seq its n/\its.size<=sizeLine/\aX xs its.toList
theorem ze.at{K:Frag}(h:ze K a xs)(H:Hp):cI K H a xs:=.inr h
theorem ktup_mk{K:Frag}{o:Obj}{its:Array Value}{n:Nat}(l:K.lookup a=some o)(x:o.cls=.type "tuple")(d:o.data=.seq its n)(z:its.size<=sizeLine)(r:aX xs its.toList):ze K a xs:=⟨o,its,n,l,x,d,z,r⟩
theorem wA(z y:Str){rest:List Nat}(h:z.cps.toList=y.cps.toList++rest):Txt.startswith z y=true:=by
 obtain⟨⟨l⟩⟩:=z;obtain⟨⟨m⟩⟩:=y;simp at h;subst h
 unfold Txt.startswith
 rw [StrLaws.subAt_eq];simp [Str.length]
structure nS(z rest:Str)(t u:Int):Prop where
 cs:z.cps.toList=(Str.ofString "every").cps.toList++32::(hX t++32::(hX u++32::rest.cps.toList))
 tb:t.natAbs < 10 ^ 40
 ub:u.natAbs < 10 ^ 40
 rl:rest.length<=10000
theorem nS.split(R:nS z rest t u):i9 z 32 3=[Str.ofString "every",aR t,aR u,rest]:=by
 refine ft ?_;rw [sT,R.cs,lP 32 2 _ _ (by decide +kernel),lP 32 1 _ _ (nM t),lP 32 0 _ _ (nM u)];simp only [gT,ac7,ah1];rfl
theorem nS.pos(R:nS z rest t u):dY 32 z.cps.toList 0≠[]:=by
 rw [R.cs];exact uB 32 _ _ 0
theorem nS.len(R:nS z rest t u):z.length<=20000:=by
 rw [bh,R.cs];have h1:=gi (n:=t) (k:=40) ∅ R.tb;have h2:=gi (n:=u) (k:=40) ∅ R.ub;have h3:=R.rl;rw [bh]at h3
 have h4:(Str.ofString "every").cps.toList.length=5:=by decide +kernel
 simp only [aa8,ad4];omega
theorem nS.starts(R:nS z rest t u):Txt.startswith z (Str.ofString "every ")=true:=by
 refine wA z _ (rest:=hX t++32::(hX u++32::rest.cps.toList)) ?_;rw [R.cs,show(Str.ofString "every ").cps.toList=(Str.ofString "every").cps.toList++[32]by decide +kernel,aj3];rfl
def rR:V->Str
 | .str z=>z
 | .int n=>aR n
 | _=>Str.ofString ""
def FF(x:V):Prop:=(∃z,x=.str z)\/∃n:Int,x=.int n/\n.natAbs < 10 ^ 40
theorem tM{K:Frag}{Z:St}{F:List V->Hp->Prop}{q:Addr}(h:aJ K H q xs)(hw:∀x∈xs,FF x)(nl:xs.length<=100)(hd:F ((xs.map rR).map V.str) H):
  qP (0+1) [] (iH 0) Bo (E4 vR (rN (Fb 0) wG)) Z F (zd K q) H:=by
 have hs:=sizeLine_eq;refine bQ (xs:=xs) (λi ys H'=>ys=((xs.map rR).take i).map V.str/\H=H') () ⟨rfl,rfl⟩ ?_ ?_ ?_ ?_
 ·rintro i ys H' ⟨rfl,rfl⟩
  rw [aa0,ac9];omega
 ·rintro i ys H' ⟨rfl,rfl⟩
  exact h
 ·rintro i x ys H' hx ⟨rfl,rfl⟩
  have fin:∀v:Str,rR x=v->((xs.map rR).take i).map V.str++[V.str v]=((xs.map rR).take (i+1)).map V.str:=λv e=>by
   rw [ac6,aa4,hx,ab4,<-e];rfl
  rcases hw x (ac0 hx)with⟨z,rfl⟩ | ⟨n,rfl,hn⟩
  ·simp only [iF,E4,rN,Fb,rE,wG,iH,Bo,Zr,List.getElem?_cons_zero,List.set_cons_zero,Option.some.injEq,exists_eq_left',rStr_s,List.replicate,aj9,ah1,if_true]
   exact⟨fin _ rfl,trivial⟩
  ·simp only [iF,E4,rN,Fb,rE,wG,iH,Bo,Zr,List.getElem?_cons_zero,List.set_cons_zero,Option.some.injEq,exists_eq_left',rStr_i,List.replicate,aj9,ah1,if_true]
   exact⟨Dy hn,fin _ rfl,trivial⟩
 ·rintro ys H' ⟨rfl,rfl⟩
  rw [ag1 (by simp)];exact hd
theorem uF{K:Frag}{ws:List Str}(h:cI K H a (ws.map V.str))(q:Q (.bl (!decide (z∈ws))) H):jJ K (.str z) (.ref a) H Q:=by
 have e:∀ws:List Str,zV (.str z) (ws.map V.str)=decide (z∈ws):=by
  intro ws
  induction ws with
  | nil=>rfl
  | cons d D ih=>
   have e:zV (.str z) ((d::D).map V.str)=((d == z) || zV (.str z) (D.map V.str)):=rfl
   rw [e,ih,af5,ak2,beq_iff_eq,decide_eq_true_eq,decide_eq_true_eq,ab2];exact⟨λh=>h.imp Eq.symm id,λh=>h.imp Eq.symm id⟩
 refine .inr ⟨a,_,rfl,.inr h,rfl,?_,?_⟩
 ·rw [ah8];exact af7.mpr λ_ _=>rfl
 ·rw [e];exact q
section
variable {tg:Expr}
end
theorem yh{k:V->Prop}{Z:L2.St}{i:Nat}:(A4 Z i k)=(∃v,Z[i]?=some (some v)/\k v):=propext nO
theorem yd{v:V}{k:Int->Prop}:(BL v k)=(∃i,v=V.int i/\k i):=propext kQ
theorem yc{v:V}{k:Bool->Prop}:(DF v k)=(∃i,v=V.bl i/\k i):=propext nF
theorem Cc:(y9 u9 x y H Q)=(u9 x y H Q):=propext FW
theorem Cd:(za vb x y H Q)=(vb x y H Q):=propext FZ
theorem ye:(ox (eT K) x y H Q)=(eT K x y H Q):=propext Cq
theorem yg:(vx (jf K) x y H Q)=(jf K x y H Q):=propext Cv
theorem zB:(y9 (nj K) x y H Q)=(nj K x y H Q):=propext En
theorem zC:(za (nq K) x y H Q)=(nq K x y H Q):=propext Ep
theorem yf:(ox (jd K) x y H Q)=(jd K x y H Q):=propext Ct
theorem vj:(eT K (V.int i) (V.int j) H Q)=(Q (V.int (i+j)) H):=propext oV
theorem vk{i j:Str}:(eT K (V.str i) (V.str j) H Q)=(i.length+j.length<=sizeLine/\Q (V.str (i++j)) H):=propext AU
theorem vm:(jf K (V.int i) (V.int j) H Q)=(IntMulOk i j/\Q (V.int (i * j)) H):=propext uE
theorem zJ{lo hi:Option Int}:(uG K (V.str z) lo hi H Q)=(z.length<=sizeLine/\Q (V.str (Txt.slice z lo hi)) H):=propext EV
theorem Ce:(nk K (V.str z) (V.int i) H Q)=(z.length<=sizeLine/\∃c,fR z.cps.toList i=some c/\Q (V.str { cps:=#[c] }) H):=propext Gi
theorem zE:(u9 (V.int i) (V.int j) H Q)=(Q (V.bl (decide (i=j))) H):=propext vL
theorem zH:(vb (V.int i) (V.int j) H Q)=(Q (V.bl !decide (i=j)) H):=propext vO
theorem zF{i j:Str}:(u9 (V.str i) (V.str j) H Q)=(Q (V.bl (decide (i=j))) H):=propext vM
theorem zI{i j:Str}:(vb (V.str i) (V.str j) H Q)=(Q (V.bl !decide (i=j)) H):=propext vP
theorem zG{c:Nat}:(vN K (V.str { cps:=#[c] }) (V.str z) H Q)=(Q (V.bl (decide (c∈z.cps.toList))) H):=propext EO
theorem zK:(vR [V.int i] H Q)=(i.natAbs.log2 < 1920/\Q (V.str (aR i)) H):=propext rStr_i
theorem zy{b k:Bool}:(BX K (V.bl b) H k)=(k=b):=propext TruV_b
theorem Cf:(GA K "str" (V.str z) H)=(True):=propext GC
theorem zA{α:Sort u}{p:α->Prop}{a':α}:(∃a,a'=a/\p a)=p a':=propext exists_eq_left'
theorem Eh{α:Sort u}{a':α}:(∃a,a'=a)=True:=eq_true ⟨_,rfl⟩
theorem DK{α:Sort u}{p:α->Prop}{a':α}:(∃a,a=a'/\p a)=p a':=propext exists_eq_left
theorem DI{α:Sort u}{p:α->Prop}{b:Prop}:(∃x,b/\p x)=(b/\∃x,p x):=propext exists_and_left
theorem DH{a b c:Prop}:((a/\b)/\c)=(a/\b/\c):=propext and_assoc
theorem DJ{α:Sort u}:(∃_:α,False)=False:=eq_false exists_false
theorem cf{c:TT}{t w:TS}{Z:L2.St}(h:∀A B:Hp->Prop,(∀H,jw t w D Z H->A H)->(∀H,w D Z H->B H)->c Z H λb H1=>if b=true then A H1 else B H1):jw (Bv c t xD) w D Z H:=h _ _ (λ_ x=>x) λ_ x=>x
theorem lz{t r w:TS}{Z:L2.St}(h:∀k:L2.St->Hp->Prop,(∀Z H,jw r w D Z H->k Z H)->t { D with nx:=k } Z H):jw (jw t r) w D Z H:=h _ λ_ _ x=>x
theorem iL{t r:TS}{Z:L2.St}(h:∀k:L2.St->Hp->Prop,(∀Z H,r D Z H->k Z H)->t { D with nx:=k } Z H):jw t r D Z H:=h _ λ_ _ x=>x
section
variable {R:Result->Shared->Prop} {it al bb:Addr} {items:Array Value} {G:Heap->Prop} {kf:Nat->List Int} {d:Value}
end
section
variable {s:Shared}
end
def EN:V->List V->Hp->VK->Prop:=λx vs H Q=>∃l ns c,x=.ref l/\vs=[.int c]/\H l=some (.lst (List.map V.int ns))/\Q (.int ((ns.countP λn=>n == c:Nat):Int)) H
def HJ(c:Int):Value->Bool
 | .int k _=>k == c
 | _=>false
theorem nY(c:Int):∀{ns:List Int} {us:List Value},aX (ns.map V.int) us->us.countP (HJ c)=ns.countP λn=>n == c
 | [],_,.nil=>rfl
 | n::ns,_,.cons r t=>by
  obtain⟨tk,rfl⟩:=r;rw [ao1,ao1,nY c t];rfl
theorem Aq{ns:List Int}:∀{us:List Value},aX (ns.map V.int) us->∀u∈us,∃k t,u=.int k t:=by
 induction ns with
 | nil=>intro us r u hu;cases r;cases hu
 | cons n ns ih=>
  intro us r u hu
  cases r with
  | cons r t=>
   obtain⟨tk,rfl⟩:=r;rcases ab2.mp hu with rfl | hu
   ·exact⟨_,_,rfl⟩
   ·exact ih t u hu
theorem ud:G9 X "list.count" EN:=by
 rintro pins s Z H x vs v us Q I rx rv ⟨l,ns,c,rfl,rfl,hH,q⟩;cases rx;obtain⟨u,rfl,ru⟩:=rv.one;obtain⟨t,rfl⟩:=ru;obtain⟨z,its,n,r,hl,e⟩:=I.lstM hH;refine call_meets F.slot_list_count ⟨_,e,rfl⟩ F.entry_list_count (F.args_list_count_2 _ _) (SeqAt.list_countAt l its.toArray n none #[] (.int c t) (HJ c)) ⟨e,λy hy=>?_,?_⟩
 ·obtain⟨k,tk,rfl⟩:=Aq r y (by simpa using hy)
  exact SeqAt.EqAt.int_int k tk c t
 ·refine⟨.int _,H,I.tok _,⟨_,rfl⟩,?_⟩
  rw [show its.toArray.toList=its from rfl,nY c r];exact q
section
variable {s:Shared}
end
def intsFrom(a:Int)(n:Nat):List Int:=(List.range n).map λ(i:Nat)=>a+i
def DA(ta:TA):TE:=λZ H Q=>ta Z H λvs H1=>∃i j:Int,vs=[.int i,.int j]/\j - i<=1000/\∀l,H1 l=none->Q (.ref l) (upd H1 l (.lst ((intsFrom i (j - i).toNat).map V.int)))
def Dz(ta:TA):TE:=λZ H Q=>ta Z H λvs H1=>∃j:Int,vs=[.int j]/\j<=1000/\∀l,H1 l=none->Q (.ref l) (upd H1 l (.lst ((intsFrom 0 j.toNat).map V.int)))
end L2
namespace XE
open PySem
open Sem (wp)
section
variable {M:Model} {A:Around} {E:Value->Shared->Prop} {s:Shared}
end
section
variable {M:Model} {A:Around} {E:Value->Shared->Prop} {h:Heap} {g:Array GenState} {d:Drawn} {t:Nat} {os:OsState}
variable {nm q:Str} {C N:Addr} {bs bm bmB:List Value} {hdct:Bool} {sn:List Str} {sub:List Value} {ab:Bool} {col:Option Bool} {dd:Option Addr} {k0 k1 k2 k3 k5:Option Value} {B newId initId:String} {no:Str->Prop}
end
section
variable {prog:Program} {w:World} {A:Around} {E:Value->Shared->Prop} {h:Heap} {g:Array GenState} {d:Drawn} {t:Nat} {os:OsState}
variable {nm q:Str} {C N:Addr} {bs bm bmB:List Value} {hdct:Bool} {sn:List Str} {sub:List Value} {ab:Bool} {col:Option Bool} {dd:Option Addr} {k0 k1 k2 k3 k5:Option Value} {B newId initId:String}
end
section
variable {M:Model} {A:Around} {E:Value->Shared->Prop} {env:Env}
variable {nm q:Str} {C N:Addr} {bs bm:List Value} {hdct:Bool} {sn:List Str} {sub:List Value} {ab:Bool} {col:Option Bool} {dd:Option Addr} {k0 k1 k2 k3 k5:Option Value} {newId:String}
end
section
variable {prog:Program} {w:World} {A:Around} {E:Value->Shared->Prop} {s:Shared} {env:Env}
variable {nm q:Str} {C N:Addr} {bs bm:List Value} {hdct:Bool} {sn:List Str} {sub:List Value} {ab:Bool} {col:Option Bool} {dd:Option Addr} {k0 k1 k2 k3 k5:Option Value} {newId:String}
end
section
open Builtin Builtin.ObjectAttr
variable {prog:Program} {w:World} {A:Around} {E:Value->Shared->Prop} {h:Heap} {g:Array GenState} {d:Drawn} {t:Nat} {os:OsState}
variable {nm q:Str} {C N x:Addr} {bs bm bmB:List Value} {sn:List Str} {sub:List Value} {ab:Bool} {col:Option Bool} {dd:Option Addr} {k0 k1 k2 k3 k5:Option Value} {B newId sa owner:String}
 {mN mA:Str->Option Value} {name:Str} {v:Value} {no:Str->Prop}
end
section
open Builtin Builtin.ObjectAttr
variable {prog:Program} {w:World} {A:Around} {E:Value->Shared->Prop} {h:Heap} {g:Array GenState} {d:Drawn} {t:Nat} {os:OsState}
variable {nm q:Str} {C N a dx:Addr} {bs bm bmB:List Value} {sn:List Str} {sub:List Value} {ab:Bool} {col:Option Bool} {dd:Option Addr} {k0 k1 k2 k3 k5:Option Value} {B newId:String}
 {mN mA:Str->Option Value} {name:Str} {v:Value} {no:Str->Prop} {o:Obj} {vs:Array Value}
end
end XE
namespace L2
open PySem PySem.Spec PyProof.Rows
variable {A:Around} {C a d fI:Addr} {E:Value->Shared->Prop} {H:Hp} {P:Program} {X:Cx} {fs:List (Str×V)} {no:List Str} {pins:List (Addr×Obj)} {pos:Pos} {s:Shared} {w:World} {Z:St}
section
variable {h:Heap}
end
section
variable {T:Addr} {ts:List Addr} {fl:Value} {h':Heap}
end
section
variable {K:Frag} {mg:Str->Option Value} {base:Heap} {N:List Str} {qual:Str} {scope:Scope} {f:Addr} {cd:Value} {outer:List Env} {Zh:Shared} {Z2:Hp} {E:XK}
end
section
variable {h:Heap}
end
section
variable {f:Str}
end
section
variable {f x:Str} {o e value:Expr} {es:List Expr} {ta tv:TE} {t:TA} {pos' np cpos:Pos} {k:Nat} {fd:FuncData} {ps:List Str} {sp:Sp} {E:XK}
end
section
variable {scope:Scope} {own:List Str} {js:List Nat} {tg iter elt:Expr} {ifs:List Expr} {wi:TI} {g:TG} {tt:TT} {te:TE}
end
section
variable {e:Value}
end
section
variable {T L:Addr} {ts:List Addr} {M:Model} {Q:Unit->Shared->Prop}
end
section
variable {k:Nat} {f L:Addr} {fd:FuncData} {ps:List Str} {sp:Sp} {x y v n r:Str} {p cpos np vp hpos rp rn apos spos:Pos} {e:Expr} {es:List Expr} {t:TA} {iv ie ir:Nat}
end
end L2
namespace XE
open PySem
open Sem (wp)
section
variable {prog:Program} {w:World} {A:Around} {E:Value->Shared->Prop} {h:Heap} {g:Array GenState} {d:Drawn} {t:Nat} {os:OsState}
variable {nm q:Str} {C N a:Addr} {bs bm bmB:List Value} {sn:List Str} {sub:List Value} {ab:Bool} {col:Option Bool} {dd:Option Addr} {k0 k1 k2 k3 k5:Option Value} {B newId:String}
 {mN:Str->Option Value} {no:Str->Prop} {o:Obj} {vs:Array Value}
end
end XE
namespace L2
open PySem PySem.Spec PyProof.Rows
variable {A:Around} {C a d:Addr} {E:Value->Shared->Prop} {H H':Hp} {P:Program} {Q:Bool->Shared->Prop} {Ss:List bV} {X:Cx} {apos cpos p pos:Pos} {c:List Int} {cols:List (List Int)} {e tg:Expr} {es:List Expr} {h:Heap} {i j k:Nat} {ks x y:List (Option (List Int))} {pins:List (Addr×Obj)} {t:TA} {u v:Value} {vs:List Value} {w:World} {xs:List (List Int×Addr×V)} {α κ:Type}
section
variable {ps qs:List Str} {sp sq:Sp} {x y v n r f:Str} {np vp hpos rp rn spos:Pos} {o value:Expr} {ta:TE} {E:XK} {L:Addr} {no:List Str} {iv ie ir:Nat}
end
section
variable {K:Frag} {fI S N c:Addr} {nm q f:Str} {bs sub:List Value} {sn:List Str} {ab b:Bool} {col:Option Bool} {dd:Option Addr} {k0 k1 k2 k3 k5:Option Value} {c0:Value} {ds:Option Addr} {cd:ClassData} {sl:Array (Option Value)} {T:String}
end
def TJ:=Str->L2.St->Hp->VK->Prop
section
variable {e1 e2:Expr} {t:TJ} {te:TE} {x:Str}
theorem tX:dH X (inplaceOp .Mult) (rI IntMulOk λi j=>.int (i * j)):=F6 λ_ _ _ _ _ _ _ hc q=>imul_int q hc
end
theorem y4{K:Frag}(it:Addr)(lo:Int)(n:Nat):rX P w K tg (xN lo n) [it] it (λi h=>IsLongIter h it (lo+(i:Nat) * 1) ((n:Int) - (i:Nat)) 1) where
 mem:=by simp
 obj:=λi h st b hb=>by
  have e:b=it:=by simpa using hb
  subst e
  exact⟨_,st,λv z=>by
   have z':Data.fields _=Data.cell v:=z
   cases z'⟩
 keep:=λi h h' st k=>k it (by simp) _ st
 item:=by
  intro X hP hw hK hc i pins s Z H E I hf st hg;subst hP hw hK;obtain⟨f0,f1,f2,f3,f4,f5⟩:=hf it (by simp);have W:=Walks.longrange (prog:=X.prog) (w:=X.w) (I.ok.hd hc) it lo 1 n;refine W.item i s _ _ hg st λv h' tk hv st' kk=>?_;obtain⟨t,rfl⟩:=hv;have I1:aO X pins Z H { s with heap:=h',toks:=tk }:=I.turned (λb o hb e=>kk b o (by simpa using hb) e) f0 f1 f3 f4 f5;refine⟨_,rfl,tT (s:={ s with heap:=h',toks:=tk }) (n:="longrange_iterator") st' rfl rfl ∅ ⟨.int (lo+i),H,I1,⟨t,?_⟩,⟨rfl,rfl⟩,st',λb hb=>(hf b hb).1⟩⟩;rw [Int.mul_one]
 done:=by
  intro X hP hw hK hc i pins s Z H E I hf st hg;subst hP hw hK;obtain⟨f0,f1,f2,f3,f4,f5⟩:=hf it (by simp);exact wpAny_pyNext_long_end (I.ok.hd hc) st (by have:n<=i:=hg;omega) λh' eb=>⟨rfl,I.turned (t':=s.toks) (λb o hb e=>eb b o hb e) f0 f1 f3 f4 f5⟩
 self:=λ_ _ _ _ _ st h=>wpAny_pyIter_longiter st h
theorem yO{Z:St}{s:Shared}{R:It->Hp->Prop}{lo hi:Int}{t u v:Tok}{tk:Nat}(I:aO X pins Z H s)
  (q:R (xN lo (hi - lo).toNat) H):wpAny (model X.prog X.w) X.A (pyIter (.ref s.heap.objs.size)) (FA X pins Z tg R) E { s with heap:=s.heap.push { cls:=.type "range",data:=.fields #[.int lo t,.int hi u,.int 1 v] },toks:=tk }:=by
 have I1:aO X pins Z H { s with heap:=s.heap.push { cls:=.type "range",data:=.fields #[.int lo t,.int hi u,.int 1 v] },toks:=tk }:=I.kept λb o e=>aa5 _ e
 have e1:lo+((0:Nat):Int) * 1=lo:=by simp
 have e2:(((hi - lo).toNat:Nat):Int) - ((0:Nat):Int)=Builtin.Range.rangeSize lo hi 1:=by rw [rangeSize_one];split<;>omega
 cases hs:Builtin.Range.small lo hi 1 with
 | true=>
  refine wpAny_pyIter_range (IsRange.new ..) hs ?_
  refine⟨(s.heap.push { cls:=.type "range",data:=.fields #[.int lo t,.int hi u,.int 1 v] }).objs.size,[(s.heap.push { cls:=.type "range",data:=.fields #[.int lo t,.int hi u,.int 1 v] }).objs.size],_,_,H,rfl,
   I1.kept (t':=tk) λb o e=>aa5 _ e,pQ _ lo (hi - lo).toNat,?_,λb hb=>?_,q⟩
  ·show IsRangeIter _ _ (lo+((0:Nat):Int) * 1) ((((hi - lo).toNat:Nat):Int) - ((0:Nat):Int)) 1
   rw [e1,e2];exact ab9 _ rfl
  ·have e:b=(s.heap.push { cls:=.type "range",data:=.fields #[.int lo t,.int hi u,.int 1 v] }).objs.size:=by simpa using hb
   subst e;exact I1.fpOk (aa9 _) (I1.hok.fresh (aa9 _))
 | false=>
  refine wpAny_pyIter_longrange (IsRange.new ..) hs ?_
  refine⟨(s.heap.push { cls:=.type "range",data:=.fields #[.int lo t,.int hi u,.int 1 v] }).objs.size,[(s.heap.push { cls:=.type "range",data:=.fields #[.int lo t,.int hi u,.int 1 v] }).objs.size],_,_,H,rfl,
   I1.kept (t':=tk) λb o e=>aa5 _ e,y4 _ lo (hi - lo).toNat,?_,λb hb=>?_,q⟩
  ·show IsLongIter _ _ (lo+((0:Nat):Int) * 1) ((((hi - lo).toNat:Nat):Int) - ((0:Nat):Int)) 1
   rw [e1,e2];exact ab9 _ rfl
  ·have e:b=(s.heap.push { cls:=.type "range",data:=.fields #[.int lo t,.int hi u,.int 1 v] }).objs.size:=by simpa using hb
   subst e;exact I1.fpOk (aa9 _) (I1.hok.fresh (aa9 _))
def zU(ta:TA):TI:=λZ H R=>ta Z H λvs H1=>∃i j:Int,vs=[.int i,.int j]/\R (xN i (j - i).toNat) H1
theorem oU{a b:Expr}{ta:TA}(hg:Gl X "range")(hm:X.mg "range"=none)(ha:PA X [a,b] ta)(hs:starEach [a,b] X.env=[(false,eval a X.env),(false,eval b X.env)]:=by rfl)(hs2:starEach [b] X.env=[(false,eval b X.env)]:=by rfl):
  PI X tg (.Call (.Name "range" p) [a,b] [] pos) (zU ta):=by
 intro pins s Z H R I h;refine Call_ (gH I hg hm boot_range (PyProof.Rows.callWith_type1 (cW (ha pos pins s Z H _ I h) λus s1 zq0=>?_) (by rw [hs,hs2]) (by rw [hs2];rfl)));obtain⟨vs,H1,I1,r1,i,j,e,q⟩:=zq0;subst e
 cases r1 with
 | cons r rr=>
  cases rr with
  | cons r' rr=>
   cases rr;obtain⟨t,rfl⟩:=r;obtain⟨t',rfl⟩:=r';exact call_range_2 (yO I1 q)
abbrev FG(P:Program)(w:World):HeapKind P w (List Int):=tupleKind (intKind P w)
section
abbrev y8(P:Program)(w:World)(h:Heap)(c:List Int)(a:Addr):Prop:=IsTupleKey (intKind P w) h c a
def gg(P:Program)(w:World)(h:Heap):Option (List Int)->Value->Prop
 | none,v=>v=.none
 | some c,v=>∃a,v=.ref a/\y8 P w h c a
inductive dC(P:Program)(w:World)(h:Heap):List (Option (List Int))->List Value->Prop
 | nil:dC P w h [] []
 | cons {k:Option (List Int)} {v:Value} {ks:List (Option (List Int))} {vs:List Value}:gg P w h k v->dC P w h ks vs->dC P w h (k::ks) (v::vs)
def xM(P:Program)(w:World)(h:Heap)(ks:List (Option (List Int)))(a:Addr):Prop:=∃o items n,h.get? a=some o/\o.cls=.type "tuple"/\o.data=.seq items n/\dC P w h ks items.toList
variable {h':Heap}
theorem gg.inj{x y:Option (List Int)}(hx:gg P w h x v)(hy:gg P w h y v):x=y:=by
 cases x with
 | none=>
  cases y with
  | none=>rfl
  | some c=>obtain⟨a,e,_⟩:=hy;rw [show v=.none from hx]at e;cases e
 | some c=>
  obtain⟨a,rfl,ha⟩:=hx
  cases y with
  | none=>have hy:Value.ref a=.none:=hy;cases hy
  | some d=>
   obtain⟨b,e,hb⟩:=hy;cases e;rw [ha.inj hb]
theorem dC.inj(hx:dC P w h x vs)(hy:dC P w h y vs):x=y:=by
 induction hx generalizing y with
 | nil=>cases hy;rfl
 | cons h1 _ ih=>
  cases hy with
  | cons h2 t2=>rw [h1.inj h2,ih t2]
theorem dC.length(hx:dC P w h x vs):x.length=vs.length:=by
 induction hx with
 | nil=>rfl
 | cons _ _ ih=>simp [ih]
theorem gg.imp{k:Option (List Int)}(f:∀c a,y8 P w h c a->y8 P w h' c a)(x:gg P w h k v):gg P w h' k v:=by
 cases k with
 | none=>exact x
 | some c=>obtain⟨a,e,ha⟩:=x;exact⟨a,e,f c a ha⟩
theorem dC.imp(f:∀c a,y8 P w h c a->y8 P w h' c a)(hx:dC P w h x vs):dC P w h' x vs:=by
 induction hx with
 | nil=>exact .nil
 | cons h1 _ ih=>exact .cons (h1.imp f) ih
theorem xM.typeIs{s:Shared}(x:xM P w s.heap ks a):s.TypeIs (.ref a) "tuple":=let ⟨o,_,_,ho,hc,_⟩:=x;⟨o,ho,hc⟩
theorem xM.inj(hx:xM P w h x a)(hy:xM P w h y a):x=y:=by
 obtain⟨o,items,n,ho,_,hd,hi⟩:=hx;obtain⟨o',items',n',ho',_,hd',hi'⟩:=hy;obtain rfl:o=o':=Option.some.inj (ho.symm.trans ho');rw [hd]at hd'
 injection hd' with h1 _
 subst h1;exact hi.inj hi'
theorem xM.keeps{o:Obj}{es ep}(x:xM P w h ks a)(ho:h.get? d=some o)(hd:o.data=.dict es ep)(hs:Heap.SameBut d h h'):xM P w h' ks a:=by
 obtain⟨o',items,n,ho',hc,hd',hi⟩:=x
 have hne:a≠d:=by
  rintro rfl;obtain rfl:o'=o:=Option.some.inj (ho'.symm.trans ho);rw [hd]at hd';exact nomatch hd'
 exact⟨o',items,n,(hs.2 a hne).trans ho',hc,hd',hi.imp λc b x=>x.keeps ho hd hs⟩
def Av:Int:=reduceHash 0xFCA86420
def ou(P:Program)(w:World):Option (List Int)->Int
 | none=>Av
 | some c=>tupleKeyHash (intKind P w) c
def l6:Option (List Int)->Nat
 | none=>1
 | some c=>c.length+1
def Au(P:Program)(w:World)(ks:List (Option (List Int))):Int:=reduceHash (Builtin.Tuple.tupleHashOf (ks.map (ou P w)))
def vB(ks:List (Option (List Int))):Nat:=(ks.map l6).sum+1
variable {s:Shared}
theorem yr{k:Option (List Int)}{Q:Int->Shared->Prop}(hu:A.units < cLine)(hk:gg P w s.heap k v)(q:Q (ou P w k) { s with toks:=s.toks+l6 k }):wpAny (model P w) A (pyHash v) Q E s:=by
 cases k with
 | none=>
  have hk:v=.none:=hk;subst hk;exact PySem.W.pyHash_slot (T:="NoneType") rfl F.slot_NoneType_hash F.entry_NoneType_hash (F.args_NoneType_hash_1 _) (beq_builtin_none _) (.inr hu) (aa3 (ab0 (aa3 (wpAny_mkInt (ab0 ⟨_,_,rfl,q⟩)))))
 | some c=>
  obtain⟨a,rfl,ha⟩:=hk;exact wpAny_pyHash_tuple hu ha q
theorem Ex{Q:Int->Shared->Prop}(hu:A.units+1 < cLine)(hk:xM P w s.heap ks a)(q:Q (Au P w ks) { s with toks:=s.toks+vB ks }):wpAny (model P w) A (pyHash (.ref a)) Q E s:=by
 have hT:=hk.typeIs;obtain⟨o,items,n,ho,_,hd,hi⟩:=hk;refine PySem.W.pyHash_slot (T:="tuple") hT F.slot_tuple_hash F.entry_tuple_hash (F.args_tuple_hash_1 _) (beq_builtin_none _) (.inr ()) ?_;show wpAny _ _ (Builtin.Tuple.tupleItemsOf (.ref a) >>= _) _ _ s;refine aa3 (wpAny_tupleItemsOf ho hd ?_);refine aa3 ?_;rw [<-am9]
 refine ao2 _
  (λrest (b:Array Int) s'=>∃done left,ks=done++left/\dC P w s.heap left rest/\b.toList=done.map (ou P w)/\s'={ s with toks:=s.toks+(done.map l6).sum })
  _ ?_ ?_ _ _ ⟨[],ks,rfl,hi,rfl,rfl⟩
 ·rintro x rest b s' ⟨done,left,rfl,hl,hb,rfl⟩
  cases hl with
  | @cons k _ ks' _ h1 hl'=>
   refine aa3 (yr (A:=A.in1) (by show A.units+1 < cLine;exact hu) h1 ?_)
   first
    | exact ab0 ⟨done++[k],ks',by simp,hl',by simp [hb],by simp [Nat.add_assoc]⟩
    | exact aa3 (ab0 (ab0 ⟨done++[k],ks',by simp,hl',by simp [hb],by simp [Nat.add_assoc]⟩))
 ·rintro b s' ⟨done,left,rfl,hl,hb,rfl⟩
  cases hl;rw [ae6]at q;show wpAny _ _ (retInt (Builtin.Tuple.tupleHashOf b.toList)) _ _ _;rw [hb];refine aa3 (wpAny_mkInt (ab0 ⟨_,_,rfl,?_⟩));unfold Au vB at q;simpa [Nat.add_assoc]using q
theorem y8.any{P':Program}{w':World}(x:y8 P w h c a):y8 P' w' h c a:=by
 obtain⟨o,items,n,ho,hc,hd,hi⟩:=x;refine⟨o,items,n,ho,hc,hd,?_⟩;generalize items.toList=vs at hi
 induction hi with
 | nil=>exact .nil
 | cons h1 _ ih=>exact .cons h1 ih
theorem y8.isTuple(x:y8 P w h c a):∃items,h.IsTuple a items:=by
 obtain⟨o,items,n,ho,hc,hd,_⟩:=x;exact⟨items,o,ho,hc,n,hd⟩
theorem Cp{x y:Option (List Int)}(hu:A.units < cLine)(hx:gg P w s.heap x u)(hy:gg P w s.heap y v):SeqAt.EqAt A s u v (decide (x=y)):=by
 cases x with
 | none=>
  have hx:u=.none:=hx;subst hx
  cases y with
  | none=>
   have hy:v=.none:=hy;subst hy;rw [decide_eq_true rfl];exact SeqAt.EqAt.same _
  | some c=>
   obtain⟨b,rfl,hb⟩:=hy;obtain⟨items,ht⟩:=hb.isTuple;rw [decide_eq_false (λe=>by cases e)];exact SeqAt.EqAt.none_tuple ht hu
 | some c=>
  obtain⟨a,rfl,ha⟩:=hx
  cases y with
  | none=>
   have hy:v=.none:=hy;subst hy;obtain⟨items,ht⟩:=ha.isTuple;rw [decide_eq_false (λe=>by cases e)];exact SeqAt.EqAt.tuple_none ht hu
  | some d=>
   obtain⟨b,rfl,hb⟩:=hy
   have e:decide (some c=some d)=decide (c=d):=by
    by_cases h:c=d
    ·rw [h,decide_eq_true rfl,decide_eq_true rfl]
    ·rw [decide_eq_false h,decide_eq_false (λz=>h (Option.some.inj z))]
   rw [e];exact λP' w' E Q q=>wpAny_eqBool_tuple hu ha.any hb.any q
theorem dC.at(hx:dC P w h x vs)(e:vs[j]?=some v):∃k,x[j]?=some k/\gg P w h k v:=by
 induction hx generalizing j with
 | nil=>cases e
 | cons h1 _ ih=>
  cases j with
  | zero=>cases e;exact⟨_,rfl,h1⟩
  | succ j=>exact ih e
theorem t9[DecidableEq α]:∀(x y:List α),((List.range (min x.length y.length)).all (λj=>decide (x[j]?=y[j]?)) && x.length == y.length)=decide (x=y):=by
 intro x y;rw [af5,ai3,af7,decide_eq_true_iff]
 constructor
 ·rintro⟨h1,h2⟩
  have hl:x.length=y.length:=by simpa using h2
  refine List.ext_getElem? λj=>?_
  by_cases hj:j < x.length
  ·exact of_decide_eq_true (h1 j (af9.mpr ()))
  ·rw [aj1 (),aj1 ()]
 ·rintro rfl
  simp
theorem Hj{b:Addr}(hu:A.units+1 < cLine)(hx:xM P w s.heap x a)(hy:xM P w s.heap y b)(q:Q (decide (x=y)) s):wpAny (model P w) A (eqBool (.ref a) (.ref b)) Q E s:=by
 by_cases hab:a=b
 ·subst hab
  obtain rfl:=hx.inj hy;rw [decide_eq_true rfl]at q;exact SeqAt.EqAt.same (.ref a) P w E Q q
 ·obtain⟨oa,xs,na,hoa,hca,hda,hia⟩:=hx
  obtain⟨ob,ys,nb,hob,hcb,hdb,hib⟩:=hy
  have ht:SeqAt.EqAt A s (.ref a) (.ref b) ((List.range (min xs.size ys.size)).all (λj=>decide (x[j]?=y[j]?)) && xs.size == ys.size):=by
   refine SeqAt.EqAt.of_refs hab (SeqAt.RcAt.tuples ⟨oa,hoa,hca,na,hda⟩ ⟨ob,hob,hcb,nb,hdb⟩ () λj j1 j2=>?_);obtain⟨k1,e1,i1⟩:=hia.at (j:=j) (v:=xs[j]) (by simp [j1]);obtain⟨k2,e2,i2⟩:=hib.at (j:=j) (v:=ys[j]) (by simp [j2])
   have e:decide (x[j]?=y[j]?)=decide (k1=k2):=by
    rw [e1,e2]
    by_cases h:k1=k2
    ·rw [h,decide_eq_true rfl,decide_eq_true rfl]
    ·rw [decide_eq_false h,decide_eq_false (λz=>h (Option.some.inj z))]
   rw [e];exact Cp (A:=A.in1) (by show A.units+1 < cLine;exact hu) i1 i2
  have lx:xs.size=x.length:=by rw [hia.length];simp
  have ly:ys.size=y.length:=by rw [hib.length];simp
  rw [lx,ly,t9]at ht;exact ht P w E Q q
theorem B7{n:Nat}{ks:List Int}(hk:y8 P w s.heap ks a)(q:Q true s):wpAny (model P w) A (eqIsQuiet (n+1) (.ref a)) Q E s:=by
 have hT:=hk.typeIs;obtain⟨o,items,n,ho,_,hd,hi⟩:=hk;unfold eqIsQuiet;refine aa3 (aj0 hT F.slot_tuple_eq.lookup ?_);show wpAny _ _ (isInstance (.ref a) (.type "tuple") >>= _) _ _ s;refine aa3 (an9 hT isSubtype_tuple_tuple ?_);simp only [an8,ae2,if_false];refine aa3 (ag0 ho hd ?_);refine aa3 ?_;show wpAny _ _ (forIn items _ _) _ _ s;rw [<-am9];refine ao2 _ (λrest r s'=>r.1=none/\s'=s/\∀v∈rest,carriedByValue v=true) _ ?_ ?_ _ _ ⟨rfl,rfl,hi.byValue⟩
 ·rintro v rest r s' ⟨hr,rfl,hall⟩
  rw [eqIsQuiet_byValue _ (hall v ad8)];refine aa3 (ab0 ?_);simp only [an8,ae2,if_false];exact ab0 ⟨rfl,rfl,λu hu'=>hall u (ad9 _ hu')⟩
 ·rintro⟨r1,r2⟩ s' ⟨hr,rfl,_⟩
  simp only at hr;subst hr;exact ab0 q
theorem CF(hk:xM P w s.heap ks a)(q:Q true s):wpAny (model P w) A (eqIsQuiet 8 (.ref a)) Q E s:=by
 have hT:=hk.typeIs;obtain⟨o,items,n,ho,_,hd,hi⟩:=hk;unfold eqIsQuiet;refine aa3 (aj0 hT F.slot_tuple_eq.lookup ?_);show wpAny _ _ (isInstance (.ref a) (.type "tuple") >>= _) _ _ s;refine aa3 (an9 hT isSubtype_tuple_tuple ?_);simp only [an8,ae2,if_false];refine aa3 (ag0 ho hd ?_);refine aa3 ?_;show wpAny _ _ (forIn items _ _) _ _ s;rw [<-am9];refine ao2 _ (λrest r s'=>r.1=none/\s'=s/\∃ks',dC P w s.heap ks' rest) _ ?_ ?_ _ _ ⟨rfl,rfl,ks,hi⟩
 ·rintro v rest r s' ⟨hr,rfl,ks',hall⟩
  cases hall with
  | @cons k _ ks2 _ h1 h2=>
   have go:wpAny (model P w) A (eqIsQuiet 7 v) (λb s2=>b=true/\s2=s') E s':=by
    cases k with
    | none=>
     have h1:v=.none:=h1;subst h1;rw [eqIsQuiet_byValue _ rfl];exact ab0 ⟨rfl,rfl⟩
    | some c=>
     obtain⟨b,rfl,hb⟩:=h1;exact B7 (n:=6) hb ⟨rfl,rfl⟩
   refine aa3 (af3 go (λb s2 zq0=>?_) λ_ _ x=>x);obtain⟨e1,e2⟩:=zq0;subst e1 e2;simp only [an8,ae2,if_false];exact ab0 ⟨rfl,rfl,ks2,h2⟩
 ·rintro⟨r1,r2⟩ s' ⟨hr,rfl,_⟩
  simp only at hr;subst hr;exact ab0 q
end
def F2(P:Program)(w:World):HeapKind P w (List (Option (List Int))) where
 is:=xM P w
 hash:=Au P w
 draws:=vB
 room:=λA=>A.units+1 < cLine
 inj:=λhx hy=>hx.inj hy
 keeps:=λx ho hd hs=>x.keeps ho hd hs
 pyHash:=λhu hk h=>Ex hu hk h
 eqBool:=λhu hx hy h=>Hj hu hx hy h
 quiet:=λhk h=>CF hk h
structure KK(P:Program)(w:World)(κ:Type)[DecidableEq κ] where
 knd:HeapKind P w κ
 at_:Hp->κ->Addr->Prop
 same:∀{H H':Hp} {k:κ} {a:Addr},au H H'->at_ H k a->at_ H' k a
 upd_:∀{H:Hp} {k:κ} {a z:Addr} {o:HO},at_ H k a->(∀vs,H z≠some (.tup vs))->at_ (upd H z o) k a
 is_:∀{H:Hp} {h:Heap} {k:κ} {a:Addr},jT P w H h->at_ H k a->knd.is h k a
 room:∀{A:Around},A.units+2 < cLine->knd.room A.in1
def pT(x:κ×Addr×V)(y:κ×Addr×Value):Prop:=x.1=y.1/\x.2.1=y.2.1/\aS x.2.2 y.2.2
section
variable [DecidableEq κ] (kk:KK P w κ)
def dO(d:Addr)(xs:List (κ×Addr×V)):HO:=.ext λh=>(d == sysModules)=false/\∃o es ep ys,h.get? d=some o/\o.ExactDict/\o.data=.dict es ep/\es.toList=ys.map (entryOfKey kk.knd)/\Paired pT xs ys
structure bO(H:Hp)(d:Addr)(xs:List (κ×Addr×V)):Prop where
 ob:H d=some (dO kk d xs)
 ks:∀x∈xs,kk.at_ H x.1 x.2.1
 nd:(xs.map (·.1)).Nodup
 sz:xs.length<=100000
def jL(xs:List (κ×Addr×V))(k:κ):Option V:=(xs.find? λx=>decide (x.1=k)).map (·.2.2)
def eZ(xs:List (κ×Addr×V))(k:κ)(a:Addr)(v:V):List (κ×Addr×V):=if (jL xs k).isSome then xs.map (λx=>if x.1=k then(x.1,x.2.1,v)else x)else xs++[(k,a,v)]
variable {kk}
theorem bO.same{xs:List (κ×Addr×V)}(h:bO kk H d xs)(s:au H H'):bO kk H' d xs:=⟨s _ _ h.ob,λx hx=>kk.same s (h.ks x hx),h.nd,h.sz⟩
theorem Paired.len'{β:Type}{F:α->β->Prop}{l:List α}{m:List β}(h:Paired F l m):l.length=m.length:=Paired.length h
theorem CA{xs:List (κ×Addr×V)}{ys:List (κ×Addr×Value)}(h:Paired pT xs ys):xs.map (·.1)=ys.map (·.1):=by
 induction h with
 | nil=>rfl
 | cons r _ ih=>rw [ac7,ac7,ih,r.1]
theorem r9{xs:List (κ×Addr×V)}{ys:List (κ×Addr×Value)}(h:Paired pT xs ys)(k:κ):(jL xs k=none/\atKey ys k=none)\/∃v p,jL xs k=some v/\atKey ys k=some p/\aS v p.2:=by
 induction h with
 | nil=>exact .inl ⟨rfl,rfl⟩
 | @cons x y xs ys r _ ih=>
  unfold jL atKey at ih |-;rw [af2,af2,<-r.1]
  by_cases hk:x.1=k
  ·rw [decide_eq_true hk]
   exact .inr ⟨_,_,rfl,rfl,r.2.2⟩
  ·rw [decide_eq_false hk]
   exact ih
theorem wB{xs:List (κ×Addr×V)}{ys:List (κ×Addr×Value)}(h:Paired pT xs ys){k:κ}{v:V}(r:aS v u):Paired pT (eZ xs k a v) (storedH ys k a u):=by
 rcases r9 h k with⟨h1,h2⟩ | ⟨v',p,h1,h2,_⟩
 ·rw [storedH_new h2]
  unfold eZ;rw [h1];show Paired pT (xs++[(k,a,v)]) (ys++[(k,a,u)]);clear h1 h2
  induction h with
  | nil=>exact .cons ⟨rfl,rfl,r⟩ .nil
  | cons r' _ ih=>exact .cons r' ih
 ·rw [storedH_old h2]
  unfold eZ;rw [h1];show Paired pT (xs.map _) (ys.map _);clear h1 h2
  induction h with
  | nil=>exact .nil
  | @cons x y xs ys r' _ ih=>
   rw [ac7,ac7];refine .cons ?_ ih;unfold putAt;rw [<-r'.1]
   by_cases hk:x.1=k
   ·rw [if_pos hk,if_pos hk]
    exact⟨rfl,r'.2.1,r⟩
   ·rw [if_neg hk,if_neg hk]
    exact r'
variable {Z:St} {s:Shared} {xs:List (κ×Addr×V)} {k:κ}
theorem jD(ok:jT P w H h)(D:bO kk H d xs):(d == sysModules)=false/\∃ys,h.DictOfH kk.knd d ys/\Paired pT xs ys:=by
 obtain⟨⟨hd,o,es,ep,ys,ho,hx,hda,he,hp⟩,_⟩:=ok d _ D.ob;refine⟨hd,ys,⟨o,es,ep,ho,hx,hda,he,λy hy=>?_,by rw [<-CA hp];exact D.nd⟩,hp⟩
 have:∀(xs:List (κ×Addr×V)) (ys:List (κ×Addr×Value)),Paired pT xs ys->(∀x∈xs,kk.at_ H x.1 x.2.1)->∀y∈ys,kk.at_ H y.1 y.2.1:=by
  intro xs ys h
  induction h with
  | nil=>intro _ y hy;cases hy
  | @cons x y xs ys r _ ih=>
   intro hk y' hy;rcases ab2.mp hy with rfl | hy
   ·have:=hk x (by simp)
    rw [r.1,r.2.1]at this;exact this
   ·exact ih (λx hx=>hk x (by simp [hx])) y' hy
 exact kk.is_ ok (this xs ys hp D.ks y hy)
theorem aO.sysB(I:aO X pins Z H s):sysModules < s.heap.objs.size:=Nat.lt_trans ∅ (I.mod.glob.keeps I.bk).lt
variable {kk':KK X.prog X.w κ}
theorem wW{h':Heap}{t':Nat}{v:V}{ys:List (κ×Addr×Value)}(I:aO X pins Z H s)(D:bO kk' H d xs)(hd:(d == sysModules)=false)(hp:Paired pT xs ys)(r:aS v u)(dd:h'.DictOfH kk'.knd d (storedH ys k a u))(hs:Heap.SameBut d s.heap h'):
  aO X pins Z (upd H d (dO kk' d (eZ xs k a v))) { s with heap:=h',toks:=t' }:=by
 obtain⟨o,es,ep,ho,hx,hda,he,_,_⟩:=dd;refine I.write (x:=d) (e:=d) (by rw [D.ob];trivial) (.inl rfl) (λb ob hb q=>?_) ⟨o,ho⟩ ⟨⟨hd,o,es,ep,_,ho,hx,hda,he,wB hp r⟩,⟨o,ho⟩,?_⟩
 ·rw [hs.2 b hb]
  exact q
 ·rintro h1 h2 ⟨g1,o',es',ep',ys',ho',r'⟩ keep
  exact⟨g1,o',es',ep',ys',keep _ ho',r'⟩
theorem FJ{v:V}{Q:Unit->Shared->Prop}(hu:X.A.units+2 < cLine)(I:aO X pins Z H s)(D:bO kk' H d xs)(hk:kk'.at_ H k a)(r:aS v u)(q:∀s',aO X pins Z (upd H d (dO kk' d (eZ xs k a v))) s'->Q Unit.unit s'):
  wpAny (model X.prog X.w) X.A (setItem (.ref d) (.ref a) u) Q E s:=by
 obtain⟨hd,ys,dd,hp⟩:=jD I.hok D
 have hl:ys.length<=sizeLine:=by
  have:=D.sz
  have:=Paired.len' hp
  rw [sizeLine_eq];omega
 exact wpAny_setItem_heap (kk'.room hu) (kk'.is_ I.hok hk) dd (λh' dd' hs=>q _ (wW I D hd hp r dd' hs)) hl
theorem FI(hu:X.A.units+2 < cLine)(I:aO X pins Z H s)(D:bO kk' H d xs)(hk:kk'.at_ H k a)(q:∀t,Q (jL xs k).isSome { s with toks:=t }):
  wpAny (model X.prog X.w) X.A (contains (.ref d) (.ref a)) Q E s:=by
 obtain⟨hd,ys,dd,hp⟩:=jD I.hok D;unfold contains
 try with_reducible refine ae7 ?_
 refine aa3 (aj0 dd.typeIs slot_dict_contains.lookup ?_);show wpAny _ _ (if (some (Value.builtin "dict.__contains__") == some Value.none)=true then _ else _) _ E s;rw [if_neg (by rw [beq_builtin_none];exact aa6)]
 refine aa3 (wpAny_callSpecialUnlessNone?_slot (name:=Str.ofString "__contains__") dd.typeIs slot_dict_contains
  (ag2 slot_dict_contains dd.typeIs entry_dict_contains ?_ (args_dict_contains _ _)))
 show wpAny _ _ (dictGet d (.ref a) >>= _) _ _ s;refine aa3 (wpAny_dictGet_heap (kk'.room hu) (kk'.is_ I.hok hk) dd ?_);rcases r9 hp k with⟨h1,h2⟩ | ⟨v,p,h1,h2,_⟩
 ·rw [h2]
  rw [h1]at q;show wpAny _ _ (Builtin.Dict.pendingKey? d (.ref a) >>= _) _ _ _;exact aa3 (wpAny_pendingKey_other hd (ab0 ⟨_,rfl,ae4 (q _)⟩))
 ·rw [h2]
  rw [h1]at q;show wpAny _ _ (ret (.bool true)) _ _ _;exact ab0 ⟨_,rfl,ae4 (q _)⟩
def Dn(kk:KK P w κ):R2:=λx y H Q=>∃d a k xs,x=.ref a/\y=.ref d/\bO kk H d xs/\kk.at_ H k a/\Q (.bl (!(jL xs k).isSome)) H
theorem AJ(hu:X.A.units+2 < cLine):dH X (compareOp .NotIn) (Dn kk'):=by
 rintro pins s Z H x y v u Q I rx ry ⟨d,a,k,xs,rfl,rfl,D,hk,q⟩;cases rx;cases ry;show wpAny _ _ (do return Value.bool (!(<-contains (.ref d) (.ref a))):Sem Value) _ _ s;exact aa3 (FI hu I D hk λt=>ab0 ⟨.bl (!(jL xs k).isSome),H,I.tok t,rfl,q⟩)
def Hr(kk:KK P w κ):R2:=λx y H Q=>∃d a k xs v,x=.ref d/\y=.ref a/\bO kk H d xs/\kk.at_ H k a/\jL xs k=some v/\Q v H
theorem ixD(hu:X.A.units+2 < cLine):xO X (Hr kk'):=by
 intro value slice pins s Z H x y v u Q I rx ry h hs;obtain⟨d,a,k,xs,z,rfl,rfl,D,hk,hv,q⟩:=h;cases rx;cases ry;obtain⟨hd,ys,dd,hp⟩:=jD I.hok D;have hT:s.TypeIs (.ref d) "dict":=dd.typeIs;rcases r9 hp k with⟨h1,_⟩ | ⟨v',p,h1,h2,r⟩
 ·rw [h1]at hv;cases hv
 rw [h1]at hv;cases hv;unfold subscriptTail;refine aa3 ?_;rw [getitemInPython_of_ne hT.not_modules];refine aa3 (aj0 hT PySem.F.slot_dict_getitem.lookup ?_)
 have fin:wpAny (model X.prog X.w) X.A (subscripted slice false (.ref d) (.ref a)) (λr Zl=>wpAny (model X.prog X.w) X.A (letTemporaryGo value (.ref d) r >>= λ_=>pure r) (EP X pins Z Q) X.xe Zl) X.xe s:=by
  rw [hs];exact wpAny_operating (wpAny_getItem_heap (kk'.room hu) (kk'.is_ I.hok hk) dd h2 (aa3 (wpAny_letTemporaryGo (ab0 ⟨z,H,I.tok _,r,q⟩))))
 first
  | exact ab0 (aa3 fin)
  | exact aa3 (ab0 (aa3 fin))
  | exact aa3 fin
def Gj(kk:KK P w κ):zi:=λo i v H Q=>∃d a k xs,o=.ref d/\i=.ref a/\bO kk H d xs/\kk.at_ H k a/\Q (upd H d (dO kk d (eZ xs k a v)))
theorem Gn(hu:X.A.units+2 < cLine):BS X (Gj kk'):=by
 rintro pins s Z H o i v ov iv u Q I ro ri rv ⟨d,a,k,xs,rfl,rfl,D,hk,q⟩;cases ro;cases ri;exact FJ hu I D hk rv λs' I'=>⟨_,I',q⟩
def D0(kk:KK P w κ):V->List V->Hp->VK->Prop:=λx vs H Q=>∃d a k xs,x=.ref d/\vs=[.ref a]/\bO kk H d xs/\kk.at_ H k a/\Q ((jL xs k).getD .non) H
theorem CC(hu:X.A.units+2 < cLine):BR X "dict.get" (D0 kk'):=by
 rintro pins s Z H x vs v us Q I rx rv ⟨d,a,k,xs,rfl,rfl,D,hk,q⟩;cases rx;obtain⟨u,rfl,ru⟩:=rv.one;cases ru;obtain⟨hd,ys,dd,hp⟩:=jD I.hok D;refine call_meetsIn PySem.F.slot_dict_get dd.typeIs PySem.F.entry_dict_get (PySem.F.args_dict_get_2 _ _) (meetsH_dict_get kk'.knd d a hd) ⟨kk'.room hu,k,ys,kk'.is_ I.hok hk,dd,?_⟩;rcases r9 hp k with⟨h1,h2⟩ | ⟨v',p,h1,h2,r⟩
 ·rw [h1]at q
  rw [h2];exact⟨.non,H,I.tok _,rfl,q⟩
 ·rw [h1]at q
  rw [h2];exact⟨v',H,I.tok _,r,q⟩
def D8(kk:KK P w κ)(to:TE)(t:TA):TE:=λZ H Q=>to Z H λx H1=>(∃d xs,x=.ref d/\bO kk H1 d xs)/\t Z H1 λvs H2=>D0 kk x vs H2 Q
theorem C4{o:Expr}{to:TE}(hu:X.A.units+2 < cLine)(ho:PE X o to)(ha:PA X [e] t)(hbase:attributeBase o "get" X.env (eval o X.env)=eval o X.env:=by rfl)
  (hfew:((backTo cpos (starEach [e] X.env)).all (λx=>!x.1) && (backToKw cpos (keywordEach [] X.env)).all (λx=>x.1.isSome)
   && decide (([e]:List Expr).length+([]:List Keyword).length+(if ([]:List Keyword).isEmpty then 0 else 1) < 30))=true:=by rfl)
  (hline:(apos.endLine == cpos.line)=true:=by rfl) (hs:starEach [e] X.env=(false,eval e X.env)::starEach [] X.env:=by rfl) (hplain:(backTo cpos (starEach [] X.env)).any (·.1)=false:=by rfl) :
  PE X (.Call (.Attribute o "get" apos) [e] [] cpos) (D8 kk' to t):=by
 intro pins s Z H Q I h;refine wpAny_Call_method_late hbase hfew hline rfl (cW (ho pins s Z H _ I h) λv s1 zq0=>?_);obtain⟨x,H1,I1,r1,⟨d,xs,ex,D⟩,q1⟩:=zq0;subst ex;cases r1;obtain⟨_,ys,dd,_⟩:=jD I1.hok D;refine⟨"dict","dict.get",PySem.F.plainAttrs_dict,PySem.F.slot_dict_get,PySem.F.type_dict_get,dd.typeIs,λa e=>?_,?_⟩
 ·cases e
  obtain⟨ob,_,_,h1,h2,_⟩:=dd;exact⟨ob,h1,h2.2.1⟩
 have hA:=ha cpos pins s1 Z H1 _ I1 q1;rw [hs]at hA |-
 refine Calls.callWith_builtin (by show(false || (backTo cpos (starEach [] X.env)).any (·.1))=false;rw [hplain]<;>rfl) (Calls.evalArgs_plain ?_)
 exact cW hA λus s2 ⟨vs,H2,I2,r2,q2⟩=>CC hu pins s2 Z H2 (.ref d) vs _ us Q I2 rfl r2 q2
theorem zw(kk:KK P w κ)(hb:sysModules < h.objs.size):dU P w H (h.push { cls:=.type "dict",data:=.dict #[] }) h.objs.size (dO kk h.objs.size []):=by
 refine⟨⟨beq_eq_false_iff_ne.mpr (Ne.symm (ad3 hb)),_,#[],0,[],ab9 _ rfl,⟨rfl,rfl,rfl⟩,rfl,rfl,.nil⟩,⟨_,ab9 _ rfl⟩,?_⟩;rintro h1 h2 ⟨g1,o',es',ep',ys',ho',r'⟩ keep;exact⟨g1,o',es',ep',ys',keep _ ho',r'⟩
def By(kk:KK P w κ):TE:=λ_ H Q=>∀p,H p=none->Q (.ref p) (upd H p (dO kk p []))
theorem C7:PE X (.Dict [] [] pos) (By kk'):=λpins s Z H Q I h=>
 wpAny_Dict_empty ⟨.ref s.heap.objs.size,_,I.laid (a:=s.heap.objs.size) (o:=dO kk' s.heap.objs.size []) (t':=s.toks) (λ_ _ q=>aa5 _ q) (aa9 _) (zw kk' I.sysB),rfl,h _ (I.hok.fresh (aa9 _))⟩
def D9(kk:KK P w κ)(tk tv:TE):TE:=λZ H Q=>∀p,H p=none->tk Z (upd H p (dO kk p [])) λx H1=>tv Z H1 λv H2=>H2 p=some (dO kk p [])/\∃a k,x=.ref a/\kk.at_ H2 k a/\Q (.ref p) (upd H2 p (dO kk p [(k,a,v)]))
theorem C9{e1 e2:Expr}{tk tv:TE}(hu:X.A.units+2 < cLine)(h1:PE X e1 tk)(h2:PE X e2 tv)(hr:∀{B:Around},B.units=X.A.units->kk'.knd.room B):PE X (.Dict [some e1] [e2] pos) (D9 kk' tk tv):=by
 intro pins s Z H Q I h;have hn:=I.hok.fresh (aa9 s.heap.objs.size);have I1:=I.laid (a:=s.heap.objs.size) (o:=dO kk' s.heap.objs.size []) (h':=s.heap.push { cls:=.type "dict",data:=.dict #[] }) (t':=s.toks) (λ_ _ q=>aa5 _ q) (aa9 _) (zw kk' I.sysB);rw [arm_eval_Dict,zip_pairTrees [some e1] [e2] X.env pos rfl rfl,dictDisplay_pairs (pairTrees [some e1] [e2] X.env pos) (by simp [pairTrees]) (by simp [pairTrees])];refine aa3 (an6 (aa3 ?_));unfold subDict;refine aa3 (wpAny_alloc ?_);refine aa3 (ae7 ?_);rw [if_pos (by simp [pairTrees])];refine aa3 (pairTrees_cons_walk (cW (h1 pins _ Z _ _ I1 (h _ hn)) λu s1 ⟨x,H1,I1,rx,q1⟩=>cW (h2 pins s1 Z H1 _ I1 q1) λw2 s2 ⟨v,H2,I2,rv,hob,a,k,ex,hk,q2⟩=>pairTrees_nil_walk ?_));subst ex;cases rx;have D:bO kk' H2 s.heap.objs.size []:=⟨hob,(λ_ z=>nomatch z),List.nodup_nil,ac2 _⟩;obtain⟨hd,ys,dd,hp⟩:=jD I2.hok D;cases hp;refine ae7 ?_;refine aa3 ?_;rw [af6];refine aa3 (aa3 (wpAny_dictSet_heap (hr rfl) (kk'.is_ I2.hok hk) dd (λh' dd' hs=>ab0 ?_) (ac2 _)));show wpAny _ _ (forIn [] _ _) _ _ _;rw [ak9];exact ab0 (ab0 (ab0 (ab0 ⟨.ref s.heap.objs.size,_,wW I2 D hd .nil rv dd' hs,rfl,q2⟩)))
end
theorem tZ:∀{c:List Int} {its:List Value},aX (c.map V.int) its->ItemsAre (intKind P w) c its
 | [],_,r=>by cases r;exact .nil
 | i::c,_,r=>by
  rw [ac7]at r
  cases r with
  | cons r rr=>
   obtain⟨t,rfl⟩:=r;exact .cons (by show Value.isInt i (.int i t)=true;simp [Value.isInt]) (tZ rr)
theorem z7(ok:jT P w H h)(e:H a=some (.tup (c.map V.int))):y8 P w h c a:=by
 obtain⟨_,its,r,o,ho,hc,n,hd⟩:=ok a _ e;exact⟨o,its.toArray,n,ho,hc,hd,tZ (by simpa using r)⟩
def B6(P:Program)(w:World):KK P w (List Int) where
 knd:=FG P w
 at_:=λH c a=>H a=some (.tup (c.map V.int))
 same:=λs h=>s _ _ h
 upd_:=λh hz=>by rw [aj (λe=>hz _ (by rw [<-e];exact h))];exact h
 is_:=λok e=>z7 ok e
 room:=λhu=>by show _+1 < cLine;omega
def oq(H:Hp):Option (List Int)->V->Prop
 | none,v=>v=.non
 | some c,v=>∃a,v=.ref a/\H a=some (.tup (c.map V.int))
def Fo(H:Hp):List (Option (List Int))->List V->Prop
 | [],[]=>True
 | k::ks,v::vs=>oq H k v/\Fo H ks vs
 | _,_=>False
theorem oq.imp{k:Option (List Int)}{v:V}(f:∀a c,H a=some (.tup (List.map V.int c))->H' a=some (.tup (List.map V.int c)))(h:oq H k v):oq H' k v:=by
 cases k with
 | none=>exact h
 | some c=>obtain⟨a,e,ha⟩:=h;exact⟨a,e,f a c ha⟩
theorem Fo.imp(f:∀a c,H a=some (.tup (List.map V.int c))->H' a=some (.tup (List.map V.int c))):∀{ks:List (Option (List Int))} {vs:List V},Fo H ks vs->Fo H' ks vs
 | [],[],_=>True.intro
 | _::_,_::_,⟨h1,h2⟩=>⟨h1.imp f,h2.imp f⟩
theorem rg(ok:jT P w H h):∀{ks:List (Option (List Int))} {vs:List V} {its:List Value},Fo H ks vs->aX vs its->dC P w h ks its
 | [],[],_,_,r=>by cases r;exact .nil
 | k::ks,v::vs,_,⟨h1,h2⟩,r=>by
  cases r with
  | cons r rr=>
   refine .cons ?_ (rg ok h2 rr)
   cases k with
   | none=>
    have h1:v=.non:=h1;subst h1;exact r
   | some c=>
    obtain⟨a,rfl,ha⟩:=h1;exact⟨a,r,z7 ok ha⟩
def iK(P:Program)(w:World):KK P w (List (Option (List Int))) where
 knd:=F2 P w
 at_:=λH ks a=>∃vs,H a=some (.tup vs)/\Fo H ks vs
 same:=λs ⟨vs,e,h⟩=>⟨vs,s _ _ e,h.imp λ_ _ z=>s _ _ z⟩
 upd_:=λ{H k a z o} ⟨vs,e,h⟩ hz=>by
  have f:∀b ws,H b=some (.tup ws)->upd H z o b=some (.tup ws):=λb ws hb=>by rw [aj (λq=>hz _ (by rw [<-q];exact hb))];exact hb
  exact⟨vs,f _ _ e,h.imp λ_ _ q=>f _ _ q⟩
 is_:=λ{H h k a} ok ⟨vs,e,hn⟩=>by
  obtain⟨_,its,r,o,ho,hc,n,hd⟩:=ok a _ e;exact⟨o,its.toArray,n,ho,hc,hd,by simpa using rg ok hn r⟩
 room:=λhu=>by show _+1+1 < cLine;omega
theorem Ey{B:Around}(hu:A.units+2 < cLine)(e:B.units=A.units):(iK P w).knd.room B:=by show B.units+1 < cLine;omega
theorem iX(hr:dX k A):A.units+2 < cLine:=aa7 (Nat.add_le_add_left (by decide:2<=64) _) hr.units
section
variable [DecidableEq κ] {kk:KK P w κ} {xs:List (κ×Addr×V)} {k:κ} {v:V}
theorem yL:(eZ xs k a v).map (·.1)=if (jL xs k).isSome then xs.map (·.1)else xs.map (·.1)++[k]:=by
 unfold eZ
 split
 ·rw [ai7]
  refine List.map_congr_left λx _=>?_;show(if x.1=k then(x.1,x.2.1,v)else x).1=x.1
  split<;>rfl
 ·rw [ab4];rfl
theorem r6(h:jL xs k=none):k∉xs.map (·.1):=by
 intro hm;obtain⟨x,hx,rfl⟩:=ac3.mp hm;unfold jL at h
 cases e:xs.find? λy=>decide (y.1=x.1)with
 | none=>exact absurd (List.find?_eq_none.mp e x hx) (by simp)
 | some y=>rw [e]at h;cases h
theorem bO.put(D:bO kk H d xs)(hk:kk.at_ H k a)(hl:xs.length < 100000):bO kk (upd H d (dO kk d (eZ xs k a v))) d (eZ xs k a v):=by
 have nt:∀vs,H d≠some (.tup vs):=λvs e=>by rw [D.ob]at e;cases e
 refine⟨ae,λx hx=>?_,?_,?_⟩
 ·refine kk.upd_ ?_ nt
  unfold eZ at hx
  split at hx
  ·obtain⟨y,hy,rfl⟩:=ac3.mp hx
   have:=D.ks y hy
   show kk.at_ H (if y.1=k then(y.1,y.2.1,v)else y).1 (if y.1=k then(y.1,y.2.1,v)else y).2.1
   split<;>exact this
  ·rcases ac4.mp hx with hx | hx
   ·exact D.ks x hx
   ·rw [ab8.mp hx];exact hk
 ·rw [yL]
  cases e:jL xs k with
  | none=>
   show(xs.map (·.1)++[k]).Nodup
   refine an4.mpr ⟨D.nd,by simp,λx hx y hy=>?_⟩;rw [ab8.mp hy];rintro rfl;exact r6 e hx
  | some z=>exact D.nd
 ·unfold eZ
  split
  ·rw [aa0];omega
  ·rw [aa8];simp;omega
theorem bO.upd{z:Addr}{o:HO}(D:bO kk H d xs)(hz:d≠z)(nt:∀vs,H z≠some (.tup vs)):bO kk (upd H z o) d xs:=⟨by rw [aj hz];exact D.ob,λx hx=>kk.upd_ (D.ks x hx) nt,D.nd,D.sz⟩
theorem kR:jL (eZ xs k a v) k=some v:=by
 unfold eZ
 cases e:jL xs k with
 | none=>
  show jL (xs++[(k,a,v)]) k=some v;unfold jL at e |-;rw [List.find?_append]
  cases e2:xs.find? λx=>decide (x.1=k)with
  | some y=>rw [e2]at e;cases e
  | none=>simp
 | some z=>
  show jL (xs.map _) k=some v;have e0:=e;unfold jL at e0 |-;rw [List.find?_map]
  have hf:(λx:κ×Addr×V=>decide (x.1=k))∘(λx=>if x.1=k then(x.1,x.2.1,v)else x)=λx=>decide (x.1=k):=by
   funext x
   show decide ((if x.1=k then(x.1,x.2.1,v)else x).1=k)=decide (x.1=k)
   split<;>rfl
  rw [hf]
  cases e2:xs.find? λx=>decide (x.1=k)with
  | none=>rw [e2]at e0;cases e0
  | some y=>
   have:y.1=k:=by have:=List.find?_some e2;simpa using this
   show some ((if y.1=k then(y.1,y.2.1,v)else y).2.2)=some v;rw [if_pos this]
theorem hV{k':κ}(h:k'≠k):jL (eZ xs k a v) k'=jL xs k':=by
 unfold eZ
 split
 ·unfold jL
  rw [List.find?_map]
  have hf:(λx:κ×Addr×V=>decide (x.1=k'))∘(λx=>if x.1=k then(x.1,x.2.1,v)else x)=λx=>decide (x.1=k'):=by
   funext x
   show decide ((if x.1=k then(x.1,x.2.1,v)else x).1=k')=decide (x.1=k')
   split<;>rfl
  rw [hf]
  cases e2:xs.find? λx=>decide (x.1=k')with
  | none=>rfl
  | some y=>
   have hy:y.1=k':=by have:=List.find?_some e2;simpa using this
   show some ((if y.1=k then(y.1,y.2.1,v)else y).2.2)=some y.2.2;rw [if_neg (by rw [hy];exact h)]
 ·unfold jL
  rw [List.find?_append]
  cases e2:xs.find? λx=>decide (x.1=k')with
  | some y=>rfl
  | none=>
   have:decide (k=k')=false:=decide_eq_false (λz=>h z.symm)
   simp [this]
end
def qM:List (Option Int)->Option (List Int)
 | []=>some []
 | none::_=>none
 | some x::l=>(qM l).map (x::·)
theorem rH:∀{l:List (Option Int)} {r:List Int},l=r.map some->qM l=some r
 | [],[],_=>rfl
 | [],_::_,h=>by cases h
 | x::l,[],h=>by cases h
 | x::l,y::r,h=>by
  rw [ac7]at h;cases h
  show(qM (r.map some)).map (y::·)=_
  rw [rH rfl];rfl
theorem rG:∀{l:List (Option Int)} {i:Nat},l[i]?=some none->qM l=none
 | [],_,h=>by cases h
 | none::_,_,_=>rfl
 | some x::l,0,h=>by cases h
 | some x::l,i+1,h=>by
  show(qM l).map (x::·)=none
  rw [rG (l:=l) (i:=i) h];rfl
def mj(Ss:List bV)(ms:List Int)(b:Option (List Int))(c:List Int):List (Option Int):=List.zipWith (λS m=>S.after m b c) Ss ms
def eC(Ss:List bV)(ms:List Int)(b:Option (List Int))(c:List Int):Option (List Int):=qM (mj Ss ms b c)
def dP(Ss:List bV)(ms:List Int)(b:Option (List Int)):Bool:=(List.zipWith (λS m=>S.closes m b) Ss ms).all id
abbrev MS:=Option (List Int)×List Int
variable {met:List MS} {s:MS}
def dc(Ss:List bV)(s:MS)(c:List Int):Option MS:=(eC Ss s.2 s.1 c).map λms=>(some c,ms)
def cj(s:MS):List (Option (List Int)):=[s.1,some s.2]
theorem rh{t:MS}(h:cj s=cj t):s=t:=by
 obtain⟨a,b⟩:=s;obtain⟨c,d⟩:=t;unfold cj at h;simp at h;rw [h.1,h.2]
def eG(Ss:List bV)(cols:List (List Int))(met:List MS)(s:MS)(xs:List (List Int×Addr×V)):Prop:=
 (∀c∈cols,∀s',dc Ss s c=some s'->∃j:Nat,met[j]?=some s'/\jL xs c=some (.int j))/\(∀c,(c∈cols->dc Ss s c=none)->jL xs c=none)/\xs.map (·.1)=cols.filter λc=>(dc Ss s c).isSome
theorem eG.more(h:eG Ss cols met s xs)(t:List MS):eG Ss cols (met++t) s xs:=
 ⟨λc hc s' e=>let ⟨j,h1,h2⟩:=h.1 c hc s' e;⟨j,by rw [ab7 (aa1.mp h1).1];exact h1,h2⟩,h.2⟩
theorem eG.put{s':MS}(h:eG Ss (cols.take i) met s xs)(hc:cols[i]?=some c)(hn:dc Ss s c=some s')(hj:met[j]?=some s')(hnd:cols.Nodup):eG Ss (cols.take (i+1)) met s (eZ xs c a (.int j)):=by
 have et:cols.take (i+1)=cols.take i++[c]:=by rw [ac6,hc];rfl
 rw [et]
 have hct:c∉cols.take i:=λhm=>by
  obtain⟨k,hk⟩:=ag6 hm
  have hki:k < i:=by
   have:=(aa1.mp hk).1
   rw [ac9]at this;omega
  rw [an0,if_pos hki]at hk;obtain⟨k1,k2⟩:=aa1.mp hk;obtain⟨i1,i2⟩:=aa1.mp hc
  have:=(List.getElem_inj hnd).mp (k2.trans i2.symm)
  omega
 refine⟨?_,?_,?_⟩
 rotate_left
 rotate_left
 ·have h0:=h.2.1 c λhm=>absurd hm hct
  unfold eZ;rw [h0,an1,<-h.2.2];simp [hn]
 ·intro c' hc' t ht
  by_cases e:c'=c
  ·subst e
   rw [hn]at ht;cases ht;exact⟨j,hj,kR⟩
  ·rcases ac4.mp hc' with hc' | hc'
   ·rw [hV e]
    exact h.1 c' hc' t ht
   ·exact absurd (ab8.mp hc') e
 ·intro c' hc'
  have e:c'≠c:=λe=>by
   have:=hc' (by rw [e];simp)
   rw [e,hn]at this;cases this
  rw [hV e];exact h.2.1 c' λhm=>hc' (by simp [hm])
theorem eG.skip(h:eG Ss (cols.take i) met s xs)(hc:cols[i]?=some c)(hn:dc Ss s c=none):eG Ss (cols.take (i+1)) met s xs:=by
 have et:cols.take (i+1)=cols.take i++[c]:=by rw [ac6,hc];rfl
 rw [et];refine⟨?_,?_,?_⟩
 ·intro c' hc' t ht
  rcases ac4.mp hc' with hc' | hc'
  ·exact h.1 c' hc' t ht
  ·rw [ab8.mp hc',hn]at ht
   cases ht
 ·intro c' hc'
  refine h.2.1 c' λhm=>hc' (by simp [hm])
 ·rw [an1,<-h.2.2]
  simp [hn]
def kJ(met:List MS)(xs:List (List (Option (List Int))×Addr×V)):Prop:=(∀(j:Nat) (s:MS),met[j]?=some s->jL xs (cj s)=some (.int j))/\∀k,jL xs k≠none->∃s∈met,k=cj s
theorem kJ.fresh{xs:List (List (Option (List Int))×Addr×V)}(h:kJ met xs)(e:jL xs (cj s)=none):s∉met:=λhs=>by
 obtain⟨j,hj⟩:=ag6 hs;rw [h.1 j s hj]at e;cases e
theorem kJ.known{xs:List (List (Option (List Int))×Addr×V)}(h:kJ met xs)(e:jL xs (cj s)≠none):∃j:Nat,met[j]?=some s/\jL xs (cj s)=some (.int j):=by
 obtain⟨t,ht,e2⟩:=h.2 _ e;cases rh e2;obtain⟨j,hj⟩:=ag6 ht;exact⟨j,hj,h.1 j s hj⟩
theorem kJ.put{xs:List (List (Option (List Int))×Addr×V)}(h:kJ met xs)(hs:s∉met):kJ (met++[s]) (eZ xs (cj s) a (.int met.length)):=by
 constructor
 ·intro j t ht
  by_cases hj:j < met.length
  ·rw [ab7 hj]at ht
   have hne:cj t≠cj s:=λe=>hs (by rw [<-rh e];exact ac0 ht);rw [hV hne];exact h.1 j t ht
  ·rw [ac5 ()]at ht
   have h0:j - met.length=0:=by
    have:=(aa1.mp ht).1
    simp at this;omega
   rw [h0]at ht;cases ht;rw [kR,show j=met.length by omega]
 ·intro k hk
  by_cases e:k=cj s
  ·exact⟨s,by simp,e⟩
  ·rw [hV e]at hk
   obtain⟨t,ht,e2⟩:=h.2 k hk;exact⟨t,by simp [ht],e2⟩
theorem oG[DecidableEq α]:∀(l u:List α),l.Nodup->(∀x∈l,x∈u)->l.length<=u.length
 | [],_,_,_=>ac2 _
 | x::l,u,h,hs=>by
  have hx:=hs x (by simp);have hn:=ai8.mp h
  have:=oG l (u.erase x) hn.2 λy hy=>(List.mem_erase_of_ne (λe=>hn.1 (by rw [<-e];exact hy))).mpr (hs y (by simp [hy]))
  rw [List.length_erase_of_mem hx]at this
  have:0 < u.length:=List.length_pos_of_mem hx
  rw [ad4];omega
structure wO(Ss:List bV)(cols:List (List Int))(met:List MS):Prop where
 nd:met.Nodup
 st:met[0]?=some (none,Ss.map (·.start))
 sub:∀(i:Nat) (s:MS),met[i]?=some s->0 < i->∃(j:Nat) (t:MS) (c:List Int),j < i/\met[j]?=some t/\c∈cols/\dc Ss t c=some s
theorem GF{c:TT}{Z:L2.St}{X Y:Hp->Prop}(h:∀A B:Hp->Prop,(∀H,X H->A H)->(∀H,Y H->B H)->c Z H λb H1=>if b=true then A H1 else B H1):c Z H λb H1=>if b=true then X H1 else Y H1:=h X Y (λ_ x=>x) λ_ x=>x
def zh(zs:List Addr)(H H':Hp):Prop:=∀b o,b∉zs->H b=some o->H' b=some o
section
variable {it:Addr} {es:Array DictEntry} {ep:Nat}
end
section
variable {es:Array DictEntry} {ep:Nat}
end
section
variable [DecidableEq κ]
def E6(kk:KK P w κ)(to:TE):TE:=λZ H Q=>to Z H λx H1=>∃d xs,x=.ref d/\bO kk H1 d xs/\∀(p:Addr) (ts:List Addr) (H2:Hp),H1 p=none->H2 p=some (.lst (ts.map V.ref))->ts.length=xs.length->(∀(j:Nat) (t:Addr) (e:κ×Addr×V),ts[j]?=some t->xs[j]?=some e->H1 t=none/\H2 t=some (.tup [.ref e.2.1,e.2.2]))->au H1 H2->Q (.ref p) H2
variable {kk':KK X.prog X.w κ}
end
def Itv(K:Frag)(a:Addr)(n:Nat):It:=
 ⟨λi H=>∃xs x,aJ K H a xs/\xs.length=n/\i < n/\xs[n - 1 - i]?=some x,λi H x H'=>H'=H/\∀xs,aJ K H a xs->xs[n - 1 - i]?=some x,λi _=>n<=i⟩
def FT(K:Frag)(ta:TA):TI:=λZ H R=>ta Z H λvs H1=>∃a xs,vs=[.ref a]/\aJ K H1 a xs/\R (Itv K a xs.length) H1
section
variable {s:Shared} {r l:Addr} {items:Array Value}
end
def Bw(K:Frag)(ta:TA):TE:=λZ H Q=>ta Z H λvs H1=>∃a xs,vs=[.ref a]/\aJ K H1 a xs/\∀l,H1 l=none->Q (.ref l) (upd H1 l (.lst xs.reverse))
section
variable {f B fI L:Addr} {fd:FuncData} {ps qs:List Str} {sp sq:Sp} {no:List Str} {x y n r:Str} {np hpos rp rn spos:Pos} {ie ir:Nat}
end
end L2
namespace L3
open PySem PySem.Spec PyProof.Rows
section
variable {prog:Program} {w:World} {A:Around} {E:Value->Shared->Prop} {s:Shared} {e z TI TO i1 i2:Addr} {f1 f2:List Addr} {n1 n2 k:Nat} {P1 P2:Nat->Value->Prop} {S1 S2:Nat->Heap->Prop} {a b old:Value}
end
end L3
namespace L2
open PySem PySem.Spec PyProof.Rows
variable {K:Frag} {P:Program} {f:Addr} {fd:FuncData} {n:Nat} {p0 p1 p2 p3 qual x:Str} {st:Stmt} {vs:List (Int×Value)} {w:World} {α:Type}
def G4(K:Frag)(l1 l2:Bool)(a1 a2:Addr):It:=
 ⟨λi H=>∃xs ys x y,jy K l1 H a1 xs/\jy K l2 H a2 ys/\xs[i]?=some x/\ys[i]?=some y,
  λi H v H'=>∃p q x y,v=.ref p/\H q=none/\H p=none/\p≠q/\H'=upd (upd H q (.tup [x,y])) p (.tup [.int i,.ref q])/\(∀xs,jy K l1 H a1 xs->xs[i]?=some x)/\∀ys,jy K l2 H a2 ys->ys[i]?=some y,
  λi H=>∃xs ys,jy K l1 H a1 xs/\jy K l2 H a2 ys/\(i=xs.length\/(i < xs.length/\i=ys.length))⟩
def Ej(K:Frag)(ta:TA):TI:=λZ H R=>ta Z H λvs H1=>∃l1 l2 a1 a2,vs=[.ref a1,.ref a2]/\(∃xs,jy K l1 H1 a1 xs)/\(∃ys,jy K l2 H1 a2 ys)/\R (G4 K l1 l2 a1 a2) H1
theorem zp:bootBuiltins "set"=some (.type "set"):=by decide +kernel
def jr(ns:List Int):Nat:=(PyProof.Rows.firstMet (λi=>ns.getD i 0) ns.length).length
def xC(K:Frag)(t:TA):TE:=λZ H Q=>t Z H λvs H1=>∃(a:Addr) (ns:List Int),vs=[.ref a]/\aJ K H1 a (ns.map V.int)/\ns.length<=1000/\Q (.int (jr ns)) H1
theorem yJ{X:Cx}{e:Expr}{t:TA}{p q pos pos2:Pos}(K:Frag)(hc:X.calm=true)(hg:Gl X "len")(hm:X.mg "len"=none)(hg2:Gl X "set")(hm2:X.mg "set"=none)(ha:PA X [e] t)(hK:X.K=K:=by rfl)(hs:starEach [e] X.env=[(false,eval e X.env)]:=by rfl):
  PE X (.Call (.Name "len" p) [.Call (.Name "set" q) [e] [] pos2] [] pos) (xC K t):=by
 subst hK;intro pins s Z H Q I h;refine ah4 (gH I hg hm boot_len (PyProof.Rows.callWith_builtin1 ?_ rfl rfl));show wpAny _ _ (spliced ((false,eval (.Call (.Name "set" q) [e] [] pos2) X.env)::backTo pos (starEach [] X.env))) _ _ s;refine Calls.spliced_cons (ah4 (gH I hg2 hm2 zp (PyProof.Rows.callWith_type1 (cW (ha pos2 pins s Z H _ I h) λus s1 zq0=>?_) (by rw [hs];rfl) ⋯)));obtain⟨vs,H1,I1,r1,a,ns,rfl,hl,n1,q⟩:=zq0;obtain⟨u,rfl,ru⟩:=fF r1;cases ru;obtain⟨its,rv,pl,_⟩:=I1.list hl;have hlen:=rv.length;rw [aa0]at hlen;have hi:PyProof.Rows.IntsAre its ns:=vt rv;refine PySem.call_set_list (ns:=ns) (I1.ok.hd hc) pl.isList hi (by rw [ab1,<-hlen];exact aa7 (ae0 n1) ∅) λh' tk hS kp=>?_;refine Calls.spliced_nil ?_;obtain⟨o,es,ep,t',ho,hex,hd,_,_,_,hf,hn⟩:=hS;rw [show its.toArray.size=ns.length from by rw [ab1,hlen]]at hn;refine call_len_set ho hex hd hf ?_ ?_
 ·have h1:=PyProof.Rows.firstMet_length_le (λi=>ns.getD i 0) ns.length
  omega
 ·refine⟨.int (jr ns),H1,I1.kept (t':=tk+1+1) λb o e=>kp b o ?_ e,⟨_,by rw [hn];rfl⟩,q⟩
  exact ac1 e
theorem jP{val:Nat->Int}(x:Int):∀i,(∀j,j < i->val j=x)->PyProof.Rows.firstMet val i=if i=0 then []else [x]
 | 0,_=>rfl
 | i+1,h=>by
  rw [PyProof.Rows.firstMet_succ,jP x i λj hj=>h j (Nat.lt_succ_of_lt hj),h i (aj8 i),if_neg (Nat.succ_ne_zero i)]
  by_cases h0:i=0
  ·rw [if_pos h0];rfl
  ·rw [if_neg h0];simp [PyProof.Rows.step_dedup]
theorem v5{ns:List Int}{x:Int}(hx:x∈ns):jr ns=1↔∀y∈ns,y=x:=by
 have em:∀k:Int,(PyProof.Rows.firstMet (λi=>ns.getD i 0) ns.length).any (· == k)=ns.any (· == k):=λk=>by
  rw [PyProof.Rows.firstMet_any];congr 1;refine List.ext_getElem (by simp) λi h1 h2=>?_;rw [List.getElem_map,List.getElem_range,ab5,aa2 h2];rfl
 constructor
 ·intro h y hy
  unfold jr at h;obtain⟨z,hz⟩:=List.length_eq_one_iff.mp h
  have on:∀k∈ns,k=z:=λk hk=>by
   have:=em k
   rw [hz,ai5.mpr ⟨k,hk,by simp⟩]at this;exact(by simpa using this.symm:z=k).symm
  rw [on y hy,on x hx]
 ·intro h
  unfold jr
  have l0:ns.length≠0:=λe=>by rw [af8.mp e]at hx;cases hx
  rw [jP x _ λj hj=>?_,if_neg l0]
  ·rfl
  ·show ns.getD j 0=x
   rw [ab5,aa2 hj];exact h _ (ad5 hj)
theorem u5{k:Int}{v:Value}(j:Int):valueAt (stored vs k v) j=if j=k then some v else valueAt vs j:=by
 induction vs with
 | nil=>
  show valueAt [(k,v)] j=_;unfold valueAt
  by_cases h:j=k
  ·subst h;simp
  ·have h':¬k=j:=λe=>h e.symm
   simp [h,h']
 | cons p vs ih=>
  obtain⟨i,u⟩:=p;unfold stored valueAt at ih |-
  by_cases h:j=k
  ·subst h
   by_cases hi:i=j
   ·subst hi;simp
   ·simp only [ai1,decide_eq_false hi,Bool.false_or,ac7,if_neg hi,if_true]at ih |-
    split at ih<;>rename_i hh
    ·rw [if_pos hh,af2,decide_eq_false hi];exact ih
    ·rw [if_neg hh,aj9,af2,decide_eq_false hi];exact ih
  ·rw [if_neg h]at ih |-
   by_cases hi:i=j
   ·subst hi
    have hk:¬i=k:=h;simp only [ai1,ac7,if_neg hk]
    split<;>simp
   ·by_cases hk:i=k
    ·subst hk
     simp only [ai1,decide_true,Bool.true_or,ac7,if_true];rw [af2,af2,decide_eq_false hi];show Option.map _ (List.find? _ (vs.map _))=_
     split at ih<;>rename_i hh
     ·exact ih
     ·rw [map_store_of_not_mem]
      intro hm;obtain⟨q,hq,e⟩:=ac3.mp hm;exact hh (ai5.mpr ⟨q,hq,decide_eq_true e⟩)
    ·simp only [ai1,decide_eq_false hk,Bool.false_or,ac7,if_neg hk]at ih |-
     split at ih<;>rename_i hh
     ·rw [if_pos hh,af2,af2,decide_eq_false hi];exact ih
     ·rw [if_neg hh,aj9,af2,af2,decide_eq_false hi];exact ih
def iO(P:Program)(w:World)(d:Addr)(f:Int->Option V)(n:Nat):HO:=.ext λh=>(d == sysModules)=false/\∃vs,h.DictOf (intKind P w) d vs/\vs.length<=n/\∀k,kK (f k) (valueAt vs k)
theorem DN{h:Heap}{H:Hp}{d:Addr}{f:Int->Option V}(hd:(d == sysModules)=false)(dd:h.DictOf (intKind P w) d vs)(hl:vs.length<=n)(r:∀k,kK (f k) (valueAt vs k)):dU P w H h d (iO P w d f n):=by
 refine⟨⟨hd,vs,dd,hl,r⟩,let ⟨o,_,_,ho,_⟩:=dd;⟨o,ho⟩,?_⟩;rintro h1 h2 ⟨g1,vs',⟨o,es,ep,ho,rest⟩,g3⟩ keep;exact⟨g1,vs',⟨o,es,ep,keep _ ho,rest⟩,g3⟩
theorem zT{h:Heap}{H:Hp}{d:Addr}{f:Int->Option V}(ok:jT P w H h)(e:H d=some (iO P w d f n)):(d == sysModules)=false/\∃vs,h.DictOf (intKind P w) d vs/\vs.length<=n/\∀k,kK (f k) (valueAt vs k):=(ok d _ e).1
section
variable {X:Cx}
def Gx(P:Program)(w:World):TE:=λ_ H Q=>∀p,H p=none->Q (.ref p) (upd H p (iO P w p (λ_=>none) 0))
theorem C8{pos:Pos}(hp:X.prog=P)(hw:X.w=w):PE X (.Dict [] [] pos) (Gx P w):=by
 subst hp hw;exact λpins s Z H Q I h=>wpAny_Dict_empty ⟨.ref s.heap.objs.size,_,I.laid (a:=s.heap.objs.size) (o:=iO X.prog X.w s.heap.objs.size (λ_=>none) 0) (t':=s.toks) (λ_ _ q=>aa5 _ q) (aa9 _) (DN (beq_eq_false_iff_ne.mpr (Ne.symm (ad3 I.sysB))) (Heap.DictOf.new s.heap) (ac2 _) λ_=>True.intro),rfl,h _ (I.hok.fresh (aa9 _))⟩
theorem xP{o:Option V}{u:Option Value}(r:kK o u):o.isSome=u.isSome:=by
 cases o<;>cases u<;>first | rfl | exact r.elim
def Dp(P:Program)(w:World):R2:=λx y H Q=>∃d k f n,x=.int k/\y=.ref d/\H d=some (iO P w d f n)/\Q (.bl (!(f k).isSome)) H
theorem AK(hp:X.prog=P)(hw:X.w=w):dH X (compareOp .NotIn) (Dp P w):=by
 subst hp hw;rintro pins s Z H x y v u Q I rx ry ⟨d,k,f,n,rfl,rfl,e,q⟩;obtain⟨t,rfl⟩:=rx;cases ry;obtain⟨hd,vs,dd,_,r⟩:=zT I.hok e;refine wpAny_notIn_of (knd:=intKind X.prog X.w) (intKind_is _ _ k t) hd dd.mapOf ?_;rw [<-xP (r k)];exact⟨.bl (!(f k).isSome),H,I.tok _,rfl,q⟩
def Ht(P:Program)(w:World):R2:=λx y H Q=>∃d k f n v,x=.ref d/\y=.int k/\H d=some (iO P w d f n)/\f k=some v/\Q v H
theorem ixI(hp:X.prog=P)(hw:X.w=w):xO X (Ht P w):=by
 subst hp hw;intro value slice pins s Z H x y v u Q I rx ry h hs;obtain⟨d,k,f,n,z,rfl,rfl,e,hv,q⟩:=h;cases rx;obtain⟨t,rfl⟩:=ry;obtain⟨hd,vs,dd,_,r⟩:=zT I.hok e;have hT:s.TypeIs (.ref d) "dict":=dd.typeIs;have rk:=r k;rw [hv]at rk
 cases hu:valueAt vs k with
 | none=>rw [hu]at rk;exact rk.elim
 | some u=>
  rw [hu]at rk;unfold subscriptTail;refine aa3 ?_;rw [getitemInPython_of_ne hT.not_modules];refine aa3 (aj0 hT PySem.F.slot_dict_getitem.lookup ?_)
  have fin:wpAny (model X.prog X.w) X.A (subscripted slice false (.ref d) (.int k t)) (λr Zl=>wpAny (model X.prog X.w) X.A (letTemporaryGo value (.ref d) r >>= λ_=>pure r) (EP X pins Z Q) X.xe Zl) X.xe s:=by
   rw [hs];exact wpAny_operating (wpAny_getItem_of (knd:=intKind X.prog X.w) (intKind_is _ _ k t) dd.mapOf hu (aa3 (wpAny_letTemporaryGo (ab0 ⟨z,H,I.tok _,rk,q⟩))))
  first
   | exact ab0 (aa3 fin)
   | exact aa3 (ab0 (aa3 fin))
   | exact aa3 fin
def Gk(P:Program)(w:World):zi:=λo i v H Q=>∃d k f n,o=.ref d/\i=.int k/\H d=some (iO P w d f n)/\n<=100000/\Q (upd H d (iO P w d (λj=>if j=k then some v else f j) (n+1)))
theorem Hw(hp:X.prog=P)(hw:X.w=w):BS X (Gk P w):=by
 subst hp hw;rintro pins s Z H o i v ov iv u Q I ro ri rv ⟨d,k,f,n,rfl,rfl,e,hn,q⟩;cases ro;obtain⟨t,rfl⟩:=ri;obtain⟨hd,vs,dd,hl,r⟩:=zT I.hok e;refine wpAny_setItem_pairs (knd:=intKind X.prog X.w) (hsz:=by rw [sizeLine_eq];omega) (intKind_is _ _ k t) dd λh' dd' hs=>⟨_,?_,q⟩;refine I.write (x:=d) (e:=d) (by rw [e];trivial) (.inl rfl) (λb ob hb z=>(hs.2 b hb).trans z) (let ⟨o,_,_,ho,_⟩:=dd';⟨o,ho⟩) (DN hd dd' (ab6 (stored_length_le vs k u) ()) λj=>?_);rw [u5]
 by_cases h:j=k
 ·rw [if_pos h,if_pos h];exact rv
 ·rw [if_neg h,if_neg h];exact r j
end
seal PySem.wpAny
theorem GD{us:List α}(h:us.length=n+1):∃x r,us=x::r/\r.length=n:=by
 cases us with
 | nil=>cases h
 | cons x r=>exact⟨x,r,rfl,Nat.succ.inj h⟩
theorem Fv{us:List α}(h:us.length=1):∃x,us=[x]:=List.length_eq_one_iff.mp h
theorem HV{us:List α}(h:us.length=2):∃x0 x1,us=[x0,x1]:=by
 obtain⟨x0,r,rfl,hh⟩:=GD h;obtain⟨x1,rfl⟩:=Fv hh;exact⟨x0,x1,rfl⟩
theorem HF{us:List α}(h:us.length=3):∃x0 x1 x2,us=[x0,x1,x2]:=by
 obtain⟨x0,r,rfl,hh⟩:=GD h;obtain⟨x1,x2,rfl⟩:=HV hh;exact⟨x0,x1,x2,rfl⟩
theorem HG{us:List α}(h:us.length=4):∃x0 x1 x2 x3,us=[x0,x1,x2,x3]:=by
 obtain⟨x0,r,rfl,hh⟩:=GD h;obtain⟨x1,x2,x3,rfl⟩:=HF hh;exact⟨x0,x1,x2,x3,rfl⟩
theorem HW{us:List α}(h:us.length=5):∃x0 x1 x2 x3 x4,us=[x0,x1,x2,x3,x4]:=by
 obtain⟨x0,r,rfl,hh⟩:=GD h;obtain⟨x1,x2,x3,x4,rfl⟩:=HG hh;exact⟨x0,x1,x2,x3,x4,rfl⟩
theorem us6{us:List α}(h:us.length=6):∃x0 x1 x2 x3 x4 x5,us=[x0,x1,x2,x3,x4,x5]:=by
 obtain⟨x0,r,rfl,hh⟩:=GD h;obtain⟨x1,x2,x3,x4,x5,rfl⟩:=HW hh;exact⟨x0,x1,x2,x3,x4,x5,rfl⟩
theorem b0.b1(F:b0 K x qual st f fd)(h:∀kV doc pm an cdv ct x0,bindArgs (fnOf x qual (cu st) (bX st) (ak st) .none kV doc pm an cdv ct) ⟨[x0],[]⟩=pure ([p0].zip [x0]):=by intros;rfl):dn K fd [p0] []:=F.binds λ_ _ _ _ _ _ us hl=>by
 obtain⟨x0,rfl⟩:=Fv hl;exact h ..
theorem b0.b2(F:b0 K x qual st f fd)(h:∀kV doc pm an cdv ct x0 x1,bindArgs (fnOf x qual (cu st) (bX st) (ak st) .none kV doc pm an cdv ct) ⟨[x0,x1],[]⟩=pure ([p0,p1].zip [x0,x1]):=by intros;rfl):dn K fd [p0,p1] []:=F.binds λ_ _ _ _ _ _ us hl=>by
 obtain⟨x0,x1,rfl⟩:=HV hl;exact h ..
theorem b0.b3(F:b0 K x qual st f fd)(h:∀kV doc pm an cdv ct x0 x1 x2,bindArgs (fnOf x qual (cu st) (bX st) (ak st) .none kV doc pm an cdv ct) ⟨[x0,x1,x2],[]⟩=pure ([p0,p1,p2].zip [x0,x1,x2]):=by intros;rfl):dn K fd [p0,p1,p2] []:=F.binds λ_ _ _ _ _ _ us hl=>by
 obtain⟨x0,x1,x2,rfl⟩:=HF hl;exact h ..
theorem b0.b4(F:b0 K x qual st f fd)(h:∀kV doc pm an cdv ct x0 x1 x2 x3,bindArgs (fnOf x qual (cu st) (bX st) (ak st) .none kV doc pm an cdv ct) ⟨[x0,x1,x2,x3],[]⟩=pure ([p0,p1,p2,p3].zip [x0,x1,x2,x3]):=by intros;rfl):dn K fd [p0,p1,p2,p3] []:=F.binds λ_ _ _ _ _ _ us hl=>by
 obtain⟨x0,x1,x2,x3,rfl⟩:=HG hl;exact h ..
theorem b0.b5{p4:Str}(F:b0 K x qual st f fd)(h:∀kV doc pm an cdv ct x0 x1 x2 x3 x4,bindArgs (fnOf x qual (cu st) (bX st) (ak st) .none kV doc pm an cdv ct) ⟨[x0,x1,x2,x3,x4],[]⟩=pure ([p0,p1,p2,p3,p4].zip [x0,x1,x2,x3,x4]):=by intros;rfl):dn K fd [p0,p1,p2,p3,p4] []:=F.binds λ_ _ _ _ _ _ us hl=>by
 obtain⟨x0,x1,x2,x3,x4,rfl⟩:=HW hl;exact h ..
theorem b0.b6{p4 p5:Str}(F:b0 K x qual st f fd)(h:∀kV doc pm an cdv ct x0 x1 x2 x3 x4 x5,bindArgs (fnOf x qual (cu st) (bX st) (ak st) .none kV doc pm an cdv ct) ⟨[x0,x1,x2,x3,x4,x5],[]⟩=pure ([p0,p1,p2,p3,p4,p5].zip [x0,x1,x2,x3,x4,x5]):=by intros;rfl):dn K fd [p0,p1,p2,p3,p4,p5] []:=F.binds λ_ _ _ _ _ _ us hl=>by
 obtain⟨x0,x1,x2,x3,x4,x5,rfl⟩:=us6 hl;exact h ..
end L2
namespace K34
local macro_rules|`(~~~$f:ident $a*)=>`($f P w K mg base $a*)|`(~~~$f:ident)=>`($f P w K mg base)
local macro_rules|`(↑$x)=>`(some (.ref $x))
local macro_rules|`(⇑$x)=>`(some (.int $x))
open PySem PyProof.Rows L2
local macro_rules|`(tactic|tm_at "s")=>`(tactic| exact ⟨rfl, rfl, rfl, by decide +kernel, rfl, by decide +kernel, by decide +kernel⟩)
variable {C Cs a f l p q ru t x z:Addr} {D us:List Int} {Dt:List (Str×V)} {Gs:List (Int->Prop)} {H H':Hp} {In:Addr->Str->Hp->Prop} {K:Frag} {P:Program} {Q:VK} {RIn:mP} {Ss:List bV} {b:Int×Int} {base:Heap} {bs:List (Int×Int)} {cols ln:List (List Int)} {fd:FuncData} {i m n nv:Nat} {met:List MS} {mg:Str->Option Value} {o:HO} {ps:List Addr} {row:Str} {u x1 x2 x3 x4:Int} {w:World} {ws:List Str} {wss:List (List Str)} {xs:List V} {α β:Type}
theorem cU{X:Cx}{x:Str}{e:Expr}{te:TE}{py spos:Pos}(hN:X.N.Nodup)(he:PE X e te)(hix:X.N[i]?=some x:=by rfl)(hx:X.env.scope.names.lookup x=some .local:=by rfl)(hs:swapsWith e (some (.Name x py)) spos.line X.env=pure false:=by rfl):PS X (.Assign [.Name x py] e spos) (wC te (iH i)):=sX hN hix (.inl hx) he hs (.inr hx)
theorem jR{X:Cx}{x:Str}{pos:Pos}(hN:X.N.Nodup)(hix:X.N[i]?=some x:=by rfl)(hx:X.env.scope.names.lookup x=some .local:=by rfl):PG X (.Name x pos) (iH i):=bM hN hix (.inl hx) (.inr hx)
theorem HS:(10:Nat) ^ 40=10000000000000000000000000000000000000000:=by decide +kernel
theorem GU:(10:Nat) ^ 36=1000000000000000000000000000000000000:=by decide +kernel
variable {aM:Addr}
def cO(i:Nat):Stmt:=PySem.Challenge.pw_fourvoices_k34_like_states_like_tails.main.body.getD i (.Pass ⟨0,0,0,0⟩)
abbrev mx:Stmt:=cO 6
theorem vZ:ax ["column","voice"] ["column","voice"] (ak mx):=by tm_at "s"
abbrev vV:Stmt:=cO 7
theorem Du:ax ["column","first","second"] ["column","first","second"] (ak vV):=by tm_at "s"
abbrev vT:Stmt:=cO 34
theorem Ds:ax ["before","column","voice"] ["before","column","voice"] (ak vT):=by tm_at "s"
abbrev fM:Stmt:=aT (cO 8) 0
theorem mD:ax ["self","row"] ["self","row"] (ak fM):=by tm_at "s"
abbrev dh:Stmt:=aT (cO 8) 1
theorem tu:ax ["self"] ["self"] (ak dh):=by tm_at "s"
abbrev bR:Stmt:=aT (cO 8) 2
theorem qG:ax ["self"] ["self"] (ak bR):=by tm_at "s"
abbrev iq:Stmt:=aT (cO 8) 3
theorem qF:ax ["self","memory","before","column"] ["self","memory","before","column"] (ak iq):=by tm_at "s"
abbrev bZ:Stmt:=aT (cO 8) 4
theorem ph:ax ["self","memory","last"] ["self","memory","last"] (ak bZ):=by tm_at "s"
abbrev fO:Stmt:=aT (cO 9) 0
theorem mE:ax ["self","row","first","second","numbers"] ["self","row","first","second","numbers"] (ak fO):=by tm_at "s"
abbrev iu:Stmt:=aT (cO 9) 1
theorem qH:ax ["self","memory","before","column"] ["self","memory","before","column"] (ak iu):=by tm_at "s"
abbrev e8:Stmt:=aT (cO 10) 0
theorem lF:ax ["self","row","first","second","hours","numbers"] ["self","row","first","second","hours","numbers"] (ak e8):=by tm_at "s"
abbrev gN:Stmt:=aT (cO 10) 1
theorem pe:ax ["self","memory","before","column"] ["self","memory","before","column"] (ak gN):=by tm_at "s"
abbrev e7:Stmt:=aT (cO 11) 0
theorem lE:ax ["self","row","voice","notes"] ["self","row","voice","notes"] (ak e7):=by tm_at "s"
abbrev gM:Stmt:=aT (cO 11) 1
theorem pd:ax ["self","memory","before","column"] ["self","memory","before","column"] (ak gM):=by tm_at "s"
abbrev fb:Stmt:=aT (cO 12) 0
theorem lG:ax ["self","row","voice","notes"] ["self","row","voice","notes"] (ak fb):=by tm_at "s"
abbrev gm:Stmt:=aT (cO 12) 1
theorem nu:ax ["self","memory","last"] ["self","memory","last"] (ak gm):=by tm_at "s"
abbrev fL:Stmt:=aT (cO 35) 0
theorem mC:ax ["self","row","voice","numbers"] ["self","row","voice","numbers"] (ak fL):=by tm_at "s"
abbrev ip:Stmt:=aT (cO 35) 1
theorem qE:ax ["self","memory","before","column"] ["self","memory","before","column"] (ak ip):=by tm_at "s"
abbrev e6:Stmt:=aT (cO 36) 0
theorem lD:ax ["self","row","first","second","numbers"] ["self","row","first","second","numbers"] (ak e6):=by tm_at "s"
abbrev gK:Stmt:=aT (cO 36) 1
theorem sc_Alike_after:ax ["self","memory","before","column","now"] ["self","memory","before","column"] (ak gK):=by tm_at "s"
abbrev fH:Stmt:=aT (cO 37) 0
theorem mz:ax ["self","row","voice","widest"] ["self","row","voice","widest"] (ak fH):=by tm_at "s"
abbrev jg:Stmt:=aT (cO 37) 1
theorem tp:ax ["self"] ["self"] (ak jg):=by tm_at "s"
abbrev ij:Stmt:=aT (cO 37) 2
theorem qB:ax ["self"] ["self"] (ak ij):=by tm_at "s"
abbrev ig:Stmt:=aT (cO 37) 3
theorem sc_Back_after:ax ["self","memory","before","column","step"] ["self","memory","before","column"] (ak ig):=by tm_at "s"
abbrev gL:Stmt:=aT (cO 37) 4
theorem oZ:ax ["self","memory","last"] ["self","memory","last"] (ak gL):=by tm_at "s"
abbrev fJ:Stmt:=aT (cO 27) 0
theorem mB:ax ["self","row","voice","most"] ["self","row","voice","most"] (ak fJ):=by tm_at "s"
abbrev jh:Stmt:=aT (cO 27) 1
theorem tq:ax ["self"] ["self"] (ak jh):=by tm_at "s"
abbrev il:Stmt:=aT (cO 27) 2
theorem qD:ax ["self","memory","before","column"] ["self","memory","before","column"] (ak il):=by tm_at "s"
abbrev ff:Stmt:=aT (cO 28) 0
theorem lJ:ax ["self","row","voice","note","fewest","most"] ["self","row","voice","note","fewest","most"] (ak ff):=by tm_at "s"
abbrev iw:Stmt:=aT (cO 28) 1
theorem qJ:ax ["self"] ["self"] (ak iw):=by tm_at "s"
abbrev gP:Stmt:=aT (cO 28) 2
theorem pj:ax ["self","memory","before","column"] ["self","memory","before","column"] (ak gP):=by tm_at "s"
abbrev gp:Stmt:=aT (cO 28) 3
theorem ny:ax ["self","memory","last"] ["self","memory","last"] (ak gp):=by tm_at "s"
abbrev fc:Stmt:=aT (cO 29) 0
theorem lH:ax ["self","row","turns","turn","inner"] ["self","row","turns","turn","inner"] (ak fc):=by tm_at "s"
abbrev ik:Stmt:=aT (cO 29) 1
theorem qC:ax ["self"] ["self"] (ak ik):=by tm_at "s"
abbrev gO:Stmt:=aT (cO 29) 2
theorem pf:ax ["self","memory","before","column"] ["self","memory","before","column"] (ak gO):=by tm_at "s"
abbrev jk:Stmt:=cO 41
theorem sc_is_number:ax ["word","figures"] ["word"] (ak jk):=by tm_at "s"
abbrev iy:Stmt:=cO 45
theorem qK:ax ["numbers","voices"] ["numbers","voices"] (ak iy):=by tm_at "s"
abbrev kh:Stmt:=cO 46
theorem uO:ax ["numbers","ahead"] ["numbers","ahead"] (ak kh):=by tm_at "s"
abbrev my:Stmt:=cO 47
theorem v3:ax ["row","numbers","voices"] ["row","numbers","voices"] (ak my):=by tm_at "s"
abbrev ke:Stmt:=cO 48
theorem uM:ax ["row","numbers","voices"] ["row","numbers","voices"] (ak ke):=by tm_at "s"
abbrev mw:Stmt:=cO 49
theorem vY:ax ["row","numbers","voices"] ["row","numbers","voices"] (ak mw):=by tm_at "s"
abbrev j9:Stmt:=cO 50
theorem uK:ax ["row","numbers","voices"] ["row","numbers","voices"] (ak j9):=by tm_at "s"
abbrev mn:Stmt:=cO 51
theorem vW:ax ["row","numbers","voices"] ["row","numbers","voices"] (ak mn):=by tm_at "s"
abbrev mr:Stmt:=cO 52
theorem vX:ax ["row","numbers","voices"] ["row","numbers","voices"] (ak mr):=by tm_at "s"
abbrev kv:Stmt:=cO 53
theorem uR:ax ["row","numbers","voices"] ["row","numbers","voices"] (ak kv):=by tm_at "s"
abbrev ka:Stmt:=cO 54
theorem uL:ax ["row","numbers","voices"] ["row","numbers","voices"] (ak ka):=by tm_at "s"
abbrev kg:Stmt:=cO 55
theorem uN:ax ["row","numbers","voices"] ["row","numbers","voices"] (ak kg):=by tm_at "s"
abbrev iD:Stmt:=cO 57
theorem sc_plain_rule:ax ["row","voices","words"] ["row","voices"] (ak iD):=by tm_at "s"
abbrev iz:Stmt:=cO 58
theorem sc_every_rule:ax ["row","voices","words","turns","turn","inner"] ["row","voices"] (ak iz):=by tm_at "s"
abbrev gD:Stmt:=cO 59
theorem sc_read_rule:ax ["text","voices","row","rule"] ["text","voices","row"] (ak gD):=by tm_at "s"
abbrev fe:Stmt:=aT (cO 15) 0
theorem lI:ax ["self","ranges","rules"] ["self","ranges","rules"] (ak fe):=by tm_at "s"
abbrev oY:Stmt:=cO 18
theorem sc_weight:ax ["score","told","low","high","rule"] ["score"] (ak oY):=by tm_at "s"
abbrev gr:Stmt:=cO 19
theorem sc_not_too_wide:ax ["score","told"] ["score"] (ak gr):=by tm_at "s"
abbrev gR:Stmt:=cO 63
theorem sc_voice_range:ax ["row","words","bounds"] ["row"] (ak gR):=by tm_at "s"
abbrev vU:Stmt:=cO 64
theorem sc_read:ax ["text","ranges","rules","number","row","bounds"] ["text"] (ak vU):=by tm_at "s"
abbrev iC:Stmt:=cO 16
theorem qL:ax ["column","low","high"] ["column","low","high"] (ak iC):=by tm_at "s"
abbrev mq:Stmt:=cO 17
theorem sc_columns:ax ["score","told","low","high","longer","column"] ["score"] (ak mq):=by tm_at "s"
abbrev fj:Stmt:=cO 22
theorem sc_memories_after:ax ["rules","memories","before","column","told","place","rule","memory"] ["rules","memories","before","column"] (ak fj):=by tm_at "s"
abbrev jj:Stmt:=cO 23
theorem tx:ax ["rules","memories","last"] ["rules","memories","last"] (ak jj):=by tm_at "s"
abbrev eM:Stmt:=aT (cO 24) 0
theorem kx:ax ["self"] ["self"] (ak eM):=by tm_at "s"
abbrev qA:Stmt:=aT (cO 24) 1
theorem A9:ax ["self"] ["self"] (ak qA):=by tm_at "s"
abbrev ji:Stmt:=aT (cO 24) 2
theorem tw:ax ["self","state","column"] ["self","state","column"] (ak ji):=by tm_at "s"
abbrev eA:Stmt:=aT (cO 25) 0
theorem sc_Machine___init__:ax ["self","score","beginning"] ["self","score"] (ak eA):=by tm_at "s"
abbrev fK:Stmt:=aT (cO 25) 1
theorem sc_Machine_build:ax ["self","met","numbers","steps","rules","last","memories","leads","column","found"] ["self","met","numbers","steps"] (ak fK):=by tm_at "s"
abbrev gn:Stmt:=aT (cO 25) 2
theorem sc_Machine_walk:ax ["self","line","state","column"] ["self","line"] (ak gn):=by tm_at "s"
abbrev oX:Stmt:=cO 66
theorem yP:ax ["_law_script","_law_k"] ["_law_script","_law_k"] (ak oX):=by tm_at "s"
abbrev jn:Stmt:=cO 67
theorem sc_law_draws:ax ["_law_cell","_law_many","_law_digits","_law_rest","_law_seed","_law_found","_law_k"] ["_law_cell","_law_many"] (ak jn):=by tm_at "s"
abbrev iB:Stmt:=cO 68
theorem sc_law_ranges:ax ["_law_script","_law_most","_law_ways","_law_voices","_law_great","_law_low","_law_far","_law_found","_law_k","_law_wide","_law_first"] ["_law_script","_law_most"] (ak iB):=by tm_at "s"
abbrev gQ:Stmt:=cO 69
theorem sc_law_columns:ax ["_law_ranges_here","_law_found","_law_low","_law_high","_law_longer","_law_column","_law_note"] ["_law_ranges_here"] (ak gQ):=by tm_at "s"
abbrev ko:Stmt:=cO 70
theorem sc_law_some:ax ["_law_ways","_law_least","_law_wide","_law_many"] ["_law_ways","_law_least","_law_wide"] (ak ko):=by tm_at "s"
abbrev fQ:Stmt:=cO 71
theorem sc_law_pair_rule:ax ["_law_ways","_law_ranges_here","_law_kind","_law_one","_law_other","_law_least","_law_wide","_law_some_here","_law_by"] ["_law_ways","_law_ranges_here","_law_kind"] (ak fQ):=by tm_at "s"
abbrev fh:Stmt:=cO 72
theorem sc_law_voice_rule:ax ["_law_ways","_law_ranges_here","_law_kind","_law_voice","_law_low","_law_high","_law_wide","_law_most"] ["_law_ways","_law_ranges_here","_law_kind"] (ak fh):=by tm_at "s"
abbrev kj:Stmt:=cO 73
theorem sc_law_rule:ax ["_law_cell","_law_ranges_here","_law_ways","_law_kind","_law_by"] ["_law_cell","_law_ranges_here"] (ak kj):=by tm_at "s"
abbrev km:Stmt:=cO 74
theorem uP:ax ["_law_rule_here"] ["_law_rule_here"] (ak km):=by tm_at "s"
abbrev jq:Stmt:=cO 75
theorem sc_law_rules:ax ["_law_script","_law_ranges_here","_law_cap","_law_weight_of","_law_many","_law_found","_law_k","_law_cell","_law_rule_here"] ["_law_script","_law_ranges_here","_law_cap"] (ak jq):=by tm_at "s"
abbrev mv:Stmt:=cO 76
theorem sc_law_row:ax ["_law_rule_here","_law_words","_law_part"] ["_law_rule_here"] (ak mv):=by tm_at "s"
abbrev ku:Stmt:=cO 77
theorem sc_law_text:ax ["_law_ranges_here","_law_rules_here","_law_rows"] ["_law_ranges_here","_law_rules_here"] (ak ku):=by tm_at "s"
abbrev kr:Stmt:=cO 78
theorem uQ:ax ["_law_rule_here","_law_column"] ["_law_rule_here","_law_column"] (ak kr):=by tm_at "s"
abbrev eN:Stmt:=cO 79
theorem sc_law_pair_broken:ax ["_law_rule_here","_law_line_here","_law_k","_law_span_here"] ["_law_rule_here","_law_line_here","_law_k"] (ak eN):=by tm_at "s"
abbrev fg:Stmt:=cO 80
theorem lK:ax ["_law_first","_law_second","_law_most"] ["_law_first","_law_second","_law_most"] (ak fg):=by tm_at "s"
abbrev iA:Stmt:=cO 81
theorem sc_law_broken:ax ["_law_rule_here","_law_line_here","_law_k","_law_notes","_law_moves"] ["_law_rule_here","_law_line_here","_law_k"] (ak iA):=by tm_at "s"
abbrev fP:Stmt:=cO 82
theorem sc_law_ill_close:ax ["_law_rule_here","_law_line_here","_law_notes"] ["_law_rule_here","_law_line_here"] (ak fP):=by tm_at "s"
abbrev jo:Stmt:=cO 83
theorem sc_law_fault:ax ["_law_ranges_here","_law_rules_here","_law_line_here","_law_k","_law_row_here","_law_low","_law_high"] ["_law_ranges_here","_law_rules_here","_law_line_here"] (ak jo):=by tm_at "s"
abbrev gq:Stmt:=cO 84
theorem sc_law_unbroken:ax ["_law_line_here","_law_some_here","_law_at_here","_law_rules_here","_law_k","_law_column","_law_longer","_law_ill"] ["_law_line_here","_law_some_here","_law_at_here","_law_rules_here"] (ak gq):=by tm_at "s"
abbrev ki:Stmt:=cO 85
theorem sc_law_line:ax ["_law_line_here","_law_cells_here","_law_ranges_here","_law_rules_here","_law_some_here","_law_cell"] ["_law_line_here","_law_cells_here","_law_ranges_here","_law_rules_here"] (ak ki):=by tm_at "s"
abbrev jm:Stmt:=cO 86
theorem sc_law_cells:ax ["_law_script","_law_start","_law_many","_law_found","_law_k"] ["_law_script","_law_start","_law_many"] (ak jm):=by tm_at "s"
abbrev jl:Stmt:=cO 87
theorem sc_law_after:ax ["_law_ranges_here","_law_rules_here","_law_line_here","_law_tail","_law_hurt"] ["_law_ranges_here","_law_rules_here","_law_line_here","_law_tail"] (ak jl):=by tm_at "s"
abbrev rF:Stmt:=cO 88
theorem sc_law:ax ["_law_script","_law_ranges_here","_law_rules_here","_law_machine","_law_some_here","_law_lines","_law_column","_law_cells_here","_law_firsts","_law_line_here","_law_state","_law_tail"] ["_law_script"] (ak rF):=by tm_at "s"
structure Txt(mg:Str->Option Value)(aM:Addr):Prop where
 n_len:mg "len"=none
 n_set:mg "set"=none
 n_any:mg "any"=none
 n_range:mg "range"=none
 n_all:mg "all"=none
 n_min:mg "min"=none
 n_max:mg "max"=none
 n_abs:mg "abs"=none
 n_tuple:mg "tuple"=none
 n_list:mg "list"=none
 n_isinstance:mg "isinstance"=none
 n_bool:mg "bool"=none
 n_int:mg "int"=none
 n_str:mg "str"=none
 n_divmod:mg "divmod"=none
 n_enumerate:mg "enumerate"=none
 n_zip:mg "zip"=none
 n_reversed:mg "reversed"=none
 g_FIGURES:∃u,mg "FIGURES"=some u/\aS (.str "0123456789") u
 g_MOST_FIGURES:∃u,mg "MOST_FIGURES"=some u/\aS (.int 40) u
 g_MOST_VOICES:∃u,mg "MOST_VOICES"=some u/\aS (.int 4) u
 g_MOST_RULES:∃u,mg "MOST_RULES"=some u/\aS (.int 12) u
 g_MOST_WEIGHT:∃u,mg "MOST_WEIGHT"=some u/\aS (.int 400) u
 g_MOST_NUMBERS:∃u,mg "MOST_NUMBERS"=some u/\aS (.int 12) u
 g_NO_LEAP:∃u,mg "NO_LEAP"=some u/\aS (.int 0) u
 g_LEAP_UP:∃u,mg "LEAP_UP"=some u/\aS (.int 1) u
 g_LEAP_DOWN:∃u,mg "LEAP_DOWN"=some u/\aS (.int 2) u
 g_START:∃u,mg "START"=some u/\aS (.int 0) u
 g_MAKERS:∃u,mg "MAKERS"=some u/\aS (.ref aM) u
structure FD(mg:Str->Option Value)(aM aI:Addr):Prop extends Txt mg aM where
 g_INNER_KINDS:∃u,mg "INNER_KINDS"=some u/\aS (.ref aI) u
local macro_rules|`(tactic|tm_at "r")=>`(tactic| (try dsimp only [↓rE, ↓uI, ↓nG, ↓rY, ↓si, ↓sj, ↓sk, ↓so, ↓nJ, ↓nK, Fb, FX, jI, jU, t7, t6, Ad, t5, Ah, DU, jw, xD, wC, iH, tC, E9, HE, Bv, Fd, Ea, Bu, E4, uZ, rN, wG, E3, HB, E8, HA, HD, tI, L2.start, List.map_cons, List.map_nil, List.length_cons, List.length_nil, List.replicate, List.cons_append, List.nil_append, List.set_cons_zero, List.set_cons_succ, rE, uI, nG, rY, si, sj, sk, so, nJ, nK]) <;> (try simp only [↓rE, ↓uI, ↓nG, ↓rY, ↓si, ↓sj, ↓sk, ↓so, ↓nJ, ↓nK, ↓itD, ↓itN, Fb, FX, jI, jU, t7, t6, Ad, t5, Ah, DU, jw, xD, wC, iH, Fe, tC, E9, HE, Bv, rO, Fd, Ea, Bu, E4, uZ, rN, wG, E3, HB, E8, uY, Bz, Gy, HA, HD, xE, tI, Hy, Hz, Ei, DM, FO, va, rI, rU, L2.start, vj, vk, vm, zJ, Ce, zE, zH, zF, zI, zG, List.map_cons, List.map_nil, List.length_cons, List.length_nil, List.replicate, List.cons_append, List.nil_append, List.append_nil, List.getElem?_cons_zero, List.getElem?_cons_succ, List.set_cons_zero, List.set_cons_succ, Option.some.injEq, Eh, zA, DK, DI, V.int.injEq, V.str.injEq, V.bl.injEq, V.ref.injEq, V.ty.injEq, List.cons.injEq, and_true, true_and, GL, DO, DP, zU, Bt, D8, By, D9, FU, Dz, DA, FT, Bw, E6, FV, FR, zS, Ej, wF, Hh, zK, FP, D3, wD, Bq, Gu, Gm, Bx, Bp, xB, Bs, Bo, Int.zero_add, if_true, Bool.false_eq_true, if_false, Zr, List.getD_cons_zero, List.getD_cons_succ, DH, Ef, FH, decide_eq_true_eq, reduceCtorEq, false_and, DJ, false_or, or_false, List.length_map, Gw, Gz, HU, HC, zy, Cf, Bool.not_eq_true', ite_not, rE, uI, nG, rY, si, sj, sk, so, nJ, nK]) <;> try simp only [yh, yd, yc, Cc, Cd, ye, yg, zB, zC, yf, zA, DK, DI, DH, and_true, true_and, V.int.injEq, V.str.injEq, V.bl.injEq, V.ref.injEq, reduceCtorEq, false_and, DJ, false_or, or_false])|`(tactic|tm_at "f")=>`(tactic| simp only [i4, sE, String.reduceEq, if_false, if_true, List.lookup])
def rK:Sp:=λvs H Q _=>∃z,vs=[.str z]/\z.length<=10000/\∀H',au H H'->Q (.bl (tY z.cps.toList)) H'
def fC(K:Frag):Sp:=λvs H Q _=>∃(c:Addr) (v:Int) (us:List Int),vs=[.ref c,.int v]/\cI K H c (us.map V.int)/\1<=v/\v<=us.length/\Q (.int (aE us v)) H
def pK(K:Frag):Sp:=λvs H Q _=>∃(c:Addr) (a b:Int) (us:List Int),vs=[.ref c,.int a,.int b]/\cI K H c (us.map V.int)/\1<=a/\a<=us.length/\1<=b/\b<=us.length/\Q (.int (aE us b - aE us a)) H
def cq(K:Frag):Sp:=λvs H Q _=>∃(x C dx:Addr) (fs:List (Str×V)) (row:Str),vs=[.ref x,.str row]/\H x=some (.ins C dx fs)/\u6 K C/\NoAttr K C "row"/\fs.length < 100/\Q .non (upd H x (.ins C dx (bu "row" (.str row) fs)))
def cH(n:Nat)(v:List V->V):Sp:=λvs H Q _=>vs.length=n/\Q (v vs) H
def GR(K:Frag):Sp:=λvs H Q _=>∃(r C dx:Addr) (fs:List (Str×V)) (row:Str),vs=[.ref r]/\H r=some (.ins C dx fs)/\u6 K C/\NoAttr K C "row"/\fs.lookup (Str.ofString "row")=some (.str row)/\Q (.str row) H
def DV(vs:List V):V:=vs.getD 1 .non
def eE(K:Frag):Sp:=λvs H Q _=>∃(q:Addr) (xs:List V) (j:Int),vs=[.ref q,.int j]/\aJ K H q xs/\Q (.bl (decide (1<=(xs.length:Int) - j) && decide ((xs.length:Int) - j<=12))) H
def ck(K:Frag):Sp:=λvs H Q _=>∃(q:Addr) (ns:List Int) (nv:Int),vs=[.ref q,.int nv]/\aJ K H q (ns.map V.int)/\ns.length<=1000/\∀H',au H H'->Q (.bl (ns.all λn=>decide (1<=n) && decide (n<=nv))) H'
def lN(P:Program)(w:World)(K:Frag)(mg:Str->Option Value)(base:Heap)(aM:Addr)(k:Nat):Sp:=λvs H Q _=>∃(row kind:Str) (ns:List Int) (nv:Int) (D:List (Str×V)) (f:Addr) (sp:Sp) (Res:V->Hp->Prop),vs=[.str row,.int nv]/\f7 row kind ns/\lT K aM D/\KTD.datumAt kind D=↑f/\
 ~~~fv k f ["row","numbers","voices"] sp/\(∀q H' Q',au H H'->H' q=some (.lst (ns.map V.int))->(∀v H'',Res v H''->Q' v H'')->sp [.str row,.ref q,.int nv] H' Q' E0)/\∀v H',Res v H'->Q v H'
def Bc(P:Program)(w:World)(K:Frag)(mg:Str->Option Value)(base:Heap)(aM:Addr)(k:Nat):Sp:=λvs H Q _=>∃(row kind:Str) (ns:List Int) (nv z:Int) (D:List (Str×V)) (f:Addr) (sp:Sp) (Res:V->Hp->Prop),vs=[.str row,.int nv,.int z]/\f7 row kind ns/\kind.cps.toList.head?≠some 101/\lT K aM D/\KTD.datumAt kind D=↑f/\
 ~~~fv k f ["row","numbers","voices"] sp/\(∀q H' Q',au H H'->H' q=some (.lst (ns.map V.int))->(∀v H'',Res v H''->Q' v H'')->sp [.str row,.ref q,.int nv] H' Q' E0)/\∀v H',Res v H'->v≠.non/\Q v H'
def eJ(row:Str)(x1 x2:Int)(n:Addr):List (Str×V):=bu "numbers" (.ref n) (bu "second" (.int x2) (bu "first" (.int x1) (bu "row" (.str row) [])))
def iS(C:Addr)(row:Str)(x1 x2:Int)(D:List Int):mP:=λr H=>∃(dx n:Addr),H r=some (.ins C dx (eJ row x1 x2 n))/\H n=some (.lst (D.map V.int))
structure zb(K:Frag)(C:Addr)(c1 c2 c3 c4:Str):Prop where
 cl:u6 K C
 n1:NoAttr K C c1
 n2:NoAttr K C c2
 n3:NoAttr K C c3
 n4:NoAttr K C c4
abbrev nE(K:Frag)(C:Addr):=zb K C "row" "first" "second" "numbers"
def pL(K:Frag)(C:Addr):Sp:=λvs H Q _=>∃(x dx q:Addr) (row:Str) (x1 x2:Int) (D:List Int),vs=[.ref x,.str row,.int x1,.int x2,.ref q]/\H x=some (.ins C dx [])/\aJ K H q (D.map V.int)/\D.length<=20/\
 ∀n H',H n=none->H'=upd (upd H n (.lst (D.map V.int))) x (.ins C dx (eJ row x1 x2 n))->Q .non H'
def pM(K:Frag)(C:Addr):Sp:=λvs H Q _=>∃(q:Addr) (row:Str) (x1 x2:Int) (D:List Int) (nv:Int),vs=[.str row,.ref q,.int nv]/\aJ K H q ((x1::x2::D).map V.int)/\1<=x1/\x1<=nv/\1<=x2/\x2<=nv/\1<=D.length/\D.length<=12/\
 ∀r H',au H H'->iS C row x1 x2 D r H'->Q (.ref r) H'
def fu(a b:Int)(D:List Int):bV:=⟨1,0,λm _ us=>if aE us b - aE us a∈D then some m else none,λ_ _=>true⟩
def cZ(row:Str)(x1 x2 x3:Int)(n:Addr):List (Str×V):=bu "numbers" (.ref n) (bu "hours" (.int x3) (bu "second" (.int x2) (bu "first" (.int x1) (bu "row" (.str row) []))))
def gy(C:Addr)(row:Str)(x1 x2 x3:Int)(D:List Int):mP:=λr H=>∃(dx n:Addr),H r=some (.ins C dx (cZ row x1 x2 x3 n))/\H n=some (.lst (D.map V.int))
structure DC(K:Frag)(C:Addr)(c1 c2 c3 c4 c5:Str):Prop where
 cl:u6 K C
 n1:NoAttr K C c1
 n2:NoAttr K C c2
 n3:NoAttr K C c3
 n4:NoAttr K C c4
 n5:NoAttr K C c5
abbrev kE(K:Frag)(C:Addr):=DC K C "row" "first" "second" "hours" "numbers"
def mX(K:Frag)(C:Addr):Sp:=λvs H Q _=>∃(x dx q:Addr) (row:Str) (x1 x2 x3:Int) (D:List Int),vs=[.ref x,.str row,.int x1,.int x2,.int x3,.ref q]/\H x=some (.ins C dx [])/\aJ K H q (D.map V.int)/\D.length<=20/\
 ∀n H',H n=none->H'=upd (upd H n (.lst (D.map V.int))) x (.ins C dx (cZ row x1 x2 x3 n))->Q .non H'
def mI(K:Frag)(C:Addr):Sp:=λvs H Q _=>∃(q:Addr) (row:Str) (x1 x2 x3:Int) (D:List Int) (nv:Int),vs=[.str row,.ref q,.int nv]/\aJ K H q ((x1::x2::x3::D).map V.int)/\1<=x1/\x1<=nv/\1<=x2/\x2<=nv/\1<=x3/\1<=D.length/\D.length<=12/\
 ∀r H',au H H'->gy C row x1 x2 x3 D r H'->Q (.ref r) H'
def ef(x1 x2 x3:Int)(D:List Int):bV:=⟨1,0,λm _ us=>if (aE us x2 - aE us x1) % x3∈D then some m else none,λ_ _=>true⟩
def gf(row:Str)(x1:Int)(n:Addr):List (Str×V):=bu "numbers" (.ref n) (bu "voice" (.int x1) (bu "row" (.str row) []))
def iR(C:Addr)(row:Str)(x1:Int)(D:List Int):mP:=λr H=>∃(dx n:Addr),H r=some (.ins C dx (gf row x1 n))/\H n=some (.lst (D.map V.int))
structure qQ(K:Frag)(C:Addr)(c1 c2 c3:Str):Prop where
 cl:u6 K C
 n1:NoAttr K C c1
 n2:NoAttr K C c2
 n3:NoAttr K C c3
abbrev nB(K:Frag)(C:Addr):=qQ K C "row" "voice" "numbers"
def pC(K:Frag)(C:Addr):Sp:=λvs H Q _=>∃(x dx q:Addr) (row:Str) (x1:Int) (D:List Int),vs=[.ref x,.str row,.int x1,.ref q]/\H x=some (.ins C dx [])/\aJ K H q (D.map V.int)/\D.length<=20/\
 ∀n H',H n=none->H'=upd (upd H n (.lst (D.map V.int))) x (.ins C dx (gf row x1 n))->Q .non H'
def pE(K:Frag)(C:Addr):Sp:=λvs H Q _=>∃(q:Addr) (row:Str) (x1:Int) (D:List Int) (nv:Int),vs=[.str row,.ref q,.int nv]/\aJ K H q ((x1::D).map V.int)/\1<=x1/\x1<=nv/\1<=D.length/\D.length<=12/\
 ∀r H',au H H'->iR C row x1 D r H'->Q (.ref r) H'
def fV(x1:Int)(D:List Int):bV:=⟨1,0,λm b us=>match b with | none=>some m | some bs=>if aE us x1 - aE bs x1∈D then some m else none,λ_ _=>true⟩
def lM(K:Frag):Sp:=λvs H Q _=>∃(b c:Addr) (v:Int) (bs us:List Int),vs=[.ref b,.ref c,.int v]/\cI K H b (bs.map V.int)/\cI K H c (us.map V.int)/\1<=v/\v<=bs.length/\v<=us.length/\Q (.int (aE us v - aE bs v)) H
def dQ(row:Str)(x1 x2:Int)(n:Addr):List (Str×V):=bu "numbers" (.ref n) (bu "second" (.int x2) (bu "first" (.int x1) (bu "row" (.str row) [])))
def gw(C:Addr)(row:Str)(x1 x2:Int)(D:List Int):mP:=λr H=>∃(dx n:Addr),H r=some (.ins C dx (dQ row x1 x2 n))/\H n=some (.lst (D.map V.int))
abbrev kC(K:Frag)(C:Addr):=zb K C "row" "first" "second" "numbers"
def mV(K:Frag)(C:Addr):Sp:=λvs H Q _=>∃(x dx q:Addr) (row:Str) (x1 x2:Int) (D:List Int),vs=[.ref x,.str row,.int x1,.int x2,.ref q]/\H x=some (.ins C dx [])/\aJ K H q (D.map V.int)/\D.length<=20/\
 ∀n H',H n=none->H'=upd (upd H n (.lst (D.map V.int))) x (.ins C dx (dQ row x1 x2 n))->Q .non H'
def mG(K:Frag)(C:Addr):Sp:=λvs H Q _=>∃(q:Addr) (row:Str) (x1 x2:Int) (D:List Int) (nv:Int),vs=[.str row,.ref q,.int nv]/\aJ K H q ((x1::x2::D).map V.int)/\1<=x1/\x1<=nv/\1<=x2/\x2<=nv/\1<=D.length/\D.length<=12/\
 ∀r H',au H H'->gw C row x1 x2 D r H'->Q (.ref r) H'
def eO(x1 x2:Int)(D:List Int):bV:=⟨1,0,λm b us=>match b with | none=>some m | some bs=>if aE us x1 - aE bs x1=0 then some m else if aE us x2 - aE us x1=aE bs x2 - aE bs x1/\aE us x2 - aE us x1∈D then none else some m,λ_ _=>true⟩
def eV(row:Str)(x1:Int)(n:Addr):List (Str×V):=bu "notes" (.ref n) (bu "voice" (.int x1) (bu "row" (.str row) []))
def gx(C:Addr)(row:Str)(x1:Int)(D:List Int):mP:=λr H=>∃(dx n:Addr),H r=some (.ins C dx (eV row x1 n))/\H n=some (.lst (D.map V.int))
abbrev kD(K:Frag)(C:Addr):=qQ K C "row" "voice" "notes"
def mW(K:Frag)(C:Addr):Sp:=λvs H Q _=>∃(x dx q:Addr) (row:Str) (x1:Int) (D:List Int),vs=[.ref x,.str row,.int x1,.ref q]/\H x=some (.ins C dx [])/\aJ K H q (D.map V.int)/\D.length<=20/\
 ∀n H',H n=none->H'=upd (upd H n (.lst (D.map V.int))) x (.ins C dx (eV row x1 n))->Q .non H'
def mH(K:Frag)(C:Addr):Sp:=λvs H Q _=>∃(q:Addr) (row:Str) (x1:Int) (D:List Int) (nv:Int),vs=[.str row,.ref q,.int nv]/\aJ K H q ((x1::D).map V.int)/\1<=x1/\x1<=nv/\1<=D.length/\D.length<=12/\
 ∀r H',au H H'->gx C row x1 D r H'->Q (.ref r) H'
def ee(x1:Int)(D:List Int):bV:=⟨1,0,λm b us=>match b with | some _=>some m | none=>if aE us x1∈D then some m else none,λ_ _=>true⟩
def eX(row:Str)(x1:Int)(n:Addr):List (Str×V):=bu "notes" (.ref n) (bu "voice" (.int x1) (bu "row" (.str row) []))
def gz(C:Addr)(row:Str)(x1:Int)(D:List Int):mP:=λr H=>∃(dx n:Addr),H r=some (.ins C dx (eX row x1 n))/\H n=some (.lst (D.map V.int))
abbrev kF(K:Frag)(C:Addr):=qQ K C "row" "voice" "notes"
def mY(K:Frag)(C:Addr):Sp:=λvs H Q _=>∃(x dx q:Addr) (row:Str) (x1:Int) (D:List Int),vs=[.ref x,.str row,.int x1,.ref q]/\H x=some (.ins C dx [])/\aJ K H q (D.map V.int)/\D.length<=20/\
 ∀n H',H n=none->H'=upd (upd H n (.lst (D.map V.int))) x (.ins C dx (eX row x1 n))->Q .non H'
def mJ(K:Frag)(C:Addr):Sp:=λvs H Q _=>∃(q:Addr) (row:Str) (x1:Int) (D:List Int) (nv:Int),vs=[.str row,.ref q,.int nv]/\aJ K H q ((x1::D).map V.int)/\1<=x1/\x1<=nv/\1<=D.length/\D.length<=12/\
 ∀r H',au H H'->gz C row x1 D r H'->Q (.ref r) H'
def eP(x1:Int)(D:List Int):bV:=⟨1,0,λm _ _=>some m,λ_ b=>match b with | none=>true | some us=>decide (aE us x1∈D)⟩
def gc(row:Str)(x1 x2:Int):List (Str×V):=(bu "widest" (.int x2) (bu "voice" (.int x1) (bu "row" (.str row) [])))
def fZ(C:Addr)(row:Str)(x1 x2:Int):mP:=λr H=>∃(dx:Addr),H r=some (.ins C dx (gc row x1 x2))
abbrev nA(K:Frag)(C:Addr):=qQ K C "row" "voice" "widest"
def pw(K:Frag)(C:Addr):Sp:=λvs H Q _=>∃(x dx:Addr) (row:Str) (x1 x2:Int),vs=[.ref x,.str row,.int x1,.int x2]/\H x=some (.ins C dx [])/\Q .non (upd H x (.ins C dx (gc row x1 x2)))
def pz(K:Frag)(C:Addr):Sp:=λvs H Q _=>∃(q:Addr) (row:Str) (x1 x2:Int) (nv:Int),vs=[.str row,.ref q,.int nv]/\aJ K H q ([x1,x2].map V.int)/\1<=x1/\x1<=nv/\0<=x2/\
 ∀r H',au H H'->fZ C row x1 x2 r H'->Q (.ref r) H'
def dy(x1 x2:Int):bV:=⟨3,0,λm b us=>match b with | none=>some 0 | some bs=>if (m=1/\0<=aE us x1 - aE bs x1)\/(m=2/\aE us x1 - aE bs x1<=0)then none else if aE us x1 - aE bs x1 > x2 then some 1 else if aE us x1 - aE bs x1 < 0 - x2 then some 2 else some 0,λm _=>decide (m=0)⟩
def eI(row:Str)(x1 x2:Int):List (Str×V):=(bu "most" (.int x2) (bu "voice" (.int x1) (bu "row" (.str row) [])))
def f6(C:Addr)(row:Str)(x1 x2:Int):mP:=λr H=>∃(dx:Addr),H r=some (.ins C dx (eI row x1 x2))
abbrev kG(K:Frag)(C:Addr):=qQ K C "row" "voice" "most"
def pA(K:Frag)(C:Addr):Sp:=λvs H Q _=>∃(x dx:Addr) (row:Str) (x1 x2:Int),vs=[.ref x,.str row,.int x1,.int x2]/\H x=some (.ins C dx [])/\Q .non (upd H x (.ins C dx (eI row x1 x2)))
def pB(K:Frag)(C:Addr):Sp:=λvs H Q _=>∃(q:Addr) (row:Str) (x1 x2:Int) (nv:Int),vs=[.str row,.ref q,.int nv]/\aJ K H q ([x1,x2].map V.int)/\1<=x1/\x1<=nv/\1<=x2/\
 ∀r H',au H H'->f6 C row x1 x2 r H'->Q (.ref r) H'
def eo(x1 x2:Int):bV:=⟨x2,0,λm b us=>match b with | none=>some 0 | some bs=>if aE bs x1=aE us x1 then(if m+1 < x2 then some (m+1)else none)else some 0,λ_ _=>true⟩
def rm(x2 m:Int):Prop:=0<=m/\m < x2
def cz(row:Str)(x1 x2 x3 x4:Int):List (Str×V):=(bu "most" (.int x4) (bu "fewest" (.int x3) (bu "note" (.int x2) (bu "voice" (.int x1) (bu "row" (.str row) [])))))
def du(C:Addr)(row:Str)(x1 x2 x3 x4:Int):mP:=λr H=>∃(dx:Addr),H r=some (.ins C dx (cz row x1 x2 x3 x4))
abbrev gW(K:Frag)(C:Addr):=DC K C "row" "voice" "note" "fewest" "most"
def m6(K:Frag)(C:Addr):Sp:=λvs H Q _=>∃(x dx:Addr) (row:Str) (x1 x2 x3 x4:Int),vs=[.ref x,.str row,.int x1,.int x2,.int x3,.int x4]/\H x=some (.ins C dx [])/\Q .non (upd H x (.ins C dx (cz row x1 x2 x3 x4)))
def mL(K:Frag)(C:Addr):Sp:=λvs H Q _=>∃(q:Addr) (row:Str) (x1 x2 x3 x4:Int) (nv:Int),vs=[.str row,.ref q,.int nv]/\aJ K H q ([x1,x2,x3,x4].map V.int)/\1<=x1/\x1<=nv/\0<=x3/\0<=x4/\
 ∀r H',au H H'->du C row x1 x2 x3 x4 r H'->Q (.ref r) H'
def cM(x1 x2 x3 x4:Int):bV:=⟨x4+1,0,λm _ us=>if aE us x1=x2 then(if m < x4 then some (m+1)else none)else some m,λm _=>decide (m>=x3)⟩
def kY(x4 m:Int):Prop:=0<=m/\m<=x4
def cK(row:Str)(t u:Int)(ri:Addr):List (Str×V):=bu "inner" (.ref ri) (bu "turn" (.int u) (bu "turns" (.int t) (bu "row" (.str row) [])))
def fm(C:Addr)(row:Str)(t u:Int)(RIn:mP):mP:=λr H=>∃(dx ri:Addr),H r=some (.ins C dx (cK row t u ri))/\RIn ri H
abbrev iN(K:Frag)(C:Addr):=zb K C "row" "turns" "turn" "inner"
def mZ(K:Frag)(C:Addr):Sp:=λvs H Q _=>∃(x dx ri:Addr) (row:Str) (t u:Int),vs=[.ref x,.str row,.int t,.int u,.ref ri]/\H x=some (.ins C dx [])/\Q .non (upd H x (.ins C dx (cK row t u ri)))
def eQ(t u:Int)(S:bV):bV:=⟨t,0,λm b us=>if m=u then(if S.after S.start b us=none then none else some ((m+1) % t))else some ((m+1) % t),λ_ _=>true⟩
def oC(t m:Int):Prop:=0<=m/\m < t
def tF(P:Program)(w:World)(K:Frag)(mg:Str->Option Value)(base:Heap)(aM C:Addr)(k:Nat):Sp:=λvs H Q _=>∃(row rest kind:Str) (t u:Int) (ns:List Int) (nv:Int) (D:List (Str×V)) (f:Addr) (sp:Sp) (RIn:mP),vs=[.str row,.int nv]/\nS row rest t u/\f7 rest kind ns/\(kind=Str.ofString "span"\/kind=Str.ofString "clock")/\0<=u/\u < t/\lT K aM D/\KTD.datumAt kind D=↑f/\
 ~~~fv k f ["row","numbers","voices"] sp/\(∀q H' Q',au H H'->H' q=some (.lst (ns.map V.int))->(∀ri H'',au H H''->RIn ri H''->Q' (.ref ri) H'')->sp [.str rest,.ref q,.int nv] H' Q' E0)/\(∀r H H',au H H'->RIn r H->RIn r H')/\∀r H',au H H'->fm C row t u RIn r H'->Q (.ref r) H'
def xt(P:Program)(w:World)(K:Frag)(mg:Str->Option Value)(base:Heap)(aM C:Addr)(k:Nat):Sp:=λvs H Q E=>∃(row:Str) (nv z:Int),vs=[.str row,.int nv,.int z]/\(∃rest t u,nS row rest t u)/\~~~tF aM C k [.str row,.int nv] H (λv H'=>v≠.non/\Q v H') E
theorem y6{x:HO}(h0:H q=none)(s:au H H'):au H (upd H' q x):=λb o hb=>by
 rw [aj (ao hb h0)];exact s _ _ hb
def FC(P:Program)(w:World)(K:Frag)(mg:Str->Option Value)(base:Heap)(nv:Nat)(S:bV)(G:Int->Prop)(r:Addr)(H:Hp):Prop:=∃(C:Addr) (RI:mP),~~~br 7 nv C S RI G/\RI r H
structure jY(P:Program)(w:World)(K:Frag)(mg:Str->Option Value)(base:Heap)(nv:Nat)(Ss:List bV)(Gs:List (Int->Prop))(H:Hp)(b:Addr)(rs:List Addr):Prop where
 sq:aJ K H b (rs.map V.ref)
 len:rs.length=Ss.length
 gl:Gs.length=Ss.length
 at_:∀(j:Nat) (r:Addr) (S:bV) (G:Int->Prop),rs[j]?=some r->Ss[j]?=some S->Gs[j]?=some G->~~~FC nv S G r H
theorem jY.same{b:Addr}{rs:List Addr}(h: ~~~jY nv Ss Gs H b rs)(s:au H H'): ~~~jY nv Ss Gs H' b rs:=
 ⟨s.seq h.sq,h.len,h.gl,λj r S G e1 e2 e3=>let ⟨C,RI,h1,h2⟩:=h.at_ j r S G e1 e2 e3;⟨C,RI,h1,h1.mono _ _ _ s h2⟩⟩
def rV(Gs:List (Int->Prop))(ms:List Int):Prop:=ms.length=Gs.length/\∀(j:Nat) (G:Int->Prop) (m:Int),Gs[j]?=some G->ms[j]?=some m->G m
inductive kz(P:Program)(w:World)(K:Frag)(mg:Str->Option Value)(base:Heap):Sp
 | mk {vs:List V} {H:Hp} {Q:VK} {E:XK} (rb ma ca:Addr) (bx:V) (nv:Nat) (Ss:List bV) (Gs:List (Int->Prop)) (rs:List Addr) (ms c:List Int) (b:Option (List Int)):vs=[.ref rb,.ref ma,bx,.ref ca]->~~~jY nv Ss Gs H rb rs->Ss.length<=100->cI K H ma (ms.map V.int)->rV Gs ms->BV K H nv b bx->cI K H ca (c.map V.int)->c.length=nv->(eC Ss ms b c=none->∀H',au H H'->Q .non H')->(∀ms',eC Ss ms b c=some ms'->rV Gs ms'->∀p H',H' p=some (.tup (ms'.map V.int))->H p=none->au H H'->Q (.ref p) H')->~~~kz vs H Q E
def pq(P:Program)(w:World)(K:Frag)(mg:Str->Option Value)(base:Heap):Sp:=λvs H Q _=>∃(rb ma:Addr) (bx:V) (nv:Nat) (Ss:List bV) (Gs:List (Int->Prop)) (rs:List Addr) (ms:List Int) (b:Option (List Int)),vs=[.ref rb,.ref ma,bx]/\
 ~~~jY nv Ss Gs H rb rs/\Ss.length<=100/\cI K H ma (ms.map V.int)/\rV Gs ms/\BV K H nv b bx/\∀H',au H H'->Q (.bl (dP Ss ms b)) H'
theorem yD(F:b0 K "is_number" "is_number" jk f fd)(T:Txt mg aM): ~~~aL bU 1 f fd ["word"] rK:=by
 refine F.ok sc_is_number λ_ A _ s H vs Q E hr h=>?_;obtain⟨z,rfl,hz,k⟩:=h
 refine⟨rfl,_,(ag (cU (i:=1) sc_is_number.nd (c8 (bo (bW K PySem.F.plainAttrs_str PySem.F.slot_str_startswith PySem.F.type_str_startswith gI (pr 0) (aa aW ah)) (λ_=>rfl)) (bt (fB K) (pr 0) (fw af) bJ) (pr 0)))
 (ag (aP (PW.pt (da (ba (ay gJ (pr 1) aW (az _))) (cR (ba (ay (o0 i7) (aD (aG K) ⋯ T.n_len boot_len (aa (pr 1) ah)) (ia T.g_MOST_FIGURES) (az _)))))) (ai (av lA)) aB)
 (ag (aP (cJ (bo (aD (gX K rfl) ⋯ T.n_all boot_all (aa (cX (own:=["sign"]) (js:=[]) rfl (bF K (pr 1)) (bB.of ⋯) (λ_ _ _ _ _=>(bM (i:=0) (show List.Nodup (["sign"]:List Str)from by decide +kernel) rfl (Or.inl rfl))) (λ_ _ _ _ _=>cn) (λ_ _ _ _ _=>(bc (lu K) (pr 0) (ia T.g_FIGURES) (by with_unfolding_all rfl)))) ah)) (λ_=>rfl))) (ai (av lA)) aB)
 (ai (av (DY (DZ (bc CG (aw (aC K) (pr 1) af (λ_ _=>rfl)) aW (az _)) (fG (bc gJ (pr 0) aW (az _)))))))))),?_⟩
 have hs:=sizeLine_eq
 have c0:(Str.ofString "").cps.toList=[]:=by decide +kernel
 have c45:(Str.ofString "-")=⟨#[45]⟩:=by decide +kernel
 have c48:(Str.ofString "0").cps.toList=[48]:=by decide +kernel
 have cF:(Str.ofString "0123456789").cps.toList=[48,49,50,51,52,53,54,55,56,57]:=by decide +kernel
 refine Hf (λZ H'=>∃y,Z=[some (.str z),some (.str y)]/\H=H'/\y.cps.toList=gZ z.cps.toList) ?_ ?_
 ·rintro _ _ ⟨y,rfl,rfl,hy⟩
  have hyl:y.length<=10000:=by
   rw [bh,hy];rw [bh]at hz;refine ab6 ?_ hz;unfold gZ
   split
   ·rw [List.length_tail];omega
   ·exact aa9 _
  refine iL λRk rk=>?_;tm_at "r";have hk:=k;rw [vw,<-hy,<-bh]at hk;have q0:=hk H (au.refl H)
  by_cases h1:y=Str.ofString ""
  ·rw [if_pos h1]
   rw [if_pos (Or.inl (by rw [h1,c0]))]at q0;exact q0
  rw [if_neg h1];refine⟨(),?_⟩
  by_cases h2:(40:Int) < y.length
  ·rw [if_pos h2]
   rw [if_pos (Or.inr ())]at q0;exact q0
  rw [if_neg h2];refine rk _ _ ?_;tm_at "r"
  have h3:¬(y.cps.toList=[]\/40 < y.length):=by
   rintro(e | e)
   ·exact h1 (str_iff.mpr (by rw [e,c0]))
   ·omega
  rw [if_neg h3]at hk;have e0:y.cps.toList≠[]:=λe=>h3 (Or.inl e);refine Dk (xZ (λi ys H'=>ys=(y.cps.toList.take i).map (λc=>V.bl (decide (c∈[48,49,50,51,52,53,54,55,56,57])))/\H=H') () ⟨rfl,rfl⟩ ?_ ?_ ?_)
  ·rintro i ys H' ⟨rfl,rfl⟩
   rw [aa0,ac9];omega
  ·rintro i c ys H' hc ⟨rfl,rfl⟩
   tm_at "r";rw [cF,ac6,hc];simp
  ·rintro ys H' ⟨rfl,rfl⟩ p hp
   rw [bh,ad6];refine⟨y.cps.toList.map (λc=>decide (c∈[48,49,50,51,52,53,54,55,56,57])),aJ.of (by rw [ae,ai7];rfl),?_⟩
   have ed:(List.map (λc=>decide (c∈[48,49,50,51,52,53,54,55,56,57])) y.cps.toList).all id=tS y.cps.toList:=by
    unfold tS;rw [ah8];rfl
   have q1:=hk _ (aq (o:=.lst ((y.cps.toList.take y.cps.toList.length).map (λc=>V.bl (decide (c∈[48,49,50,51,52,53,54,55,56,57]))))) hp);rw [ad6]at q1;rw [ed]
   by_cases h4:tS y.cps.toList=false
   ·rw [if_pos h4]
    rw [if_pos h4]at q1;exact q1
   rw [if_neg h4];rw [if_neg h4]at q1;refine⟨by rw [<-bh];omega,?_⟩
   cases hh:y.cps.toList with
   | nil=>exact absurd hh e0
   | cons a l=>
    rw [hh]at q1;refine⟨a,bH rfl,?_⟩
    by_cases ha:a=48
    ·subst ha
     rw [if_pos (str_iff.mpr (by rw [c48])),lQ,c48];simpa using q1
    ·rw [if_neg (λe=>ha (by have:=str_iff.mp e;rw [c48]at this;simpa using this))]
     simpa [ha]using q1
 ·intro u' hu
  tm_at "r";rw [c45,wz]
  by_cases h1:z.cps.toList.head?=some 45
  ·rw [if_pos (by simpa using h1)]
   exact⟨(),hu _ _ ⟨_,rfl,rfl,by rw [v8 ∅];unfold gZ;rw [if_pos h1];simp⟩⟩
  ·rw [if_neg (by simpa using h1)]
   exact hu _ _ ⟨_,rfl,rfl,by unfold gZ;rw [if_neg h1]⟩
theorem vG(F:b0 K "note_in" "note_in" mx f fd): ~~~aL bU 1 f fd ["column","voice"] (fC K):=by
 refine F.ok vZ λ_ A _ s H vs Q E hr h=>?_;obtain⟨c,v,us,rfl,hc,h1,h2,k⟩:=h;refine⟨rfl,_,(ai (av (aw (aC K) (pr 0) (ar (o0 bD) (pr 1) af) (λ_ _=>rfl)))),?_⟩;tm_at "r";exact dw hc (ui h1 h2) k
theorem CQ(F:b0 K "span" "span" vV f fd)(D_note_in: ~~~cB "note_in" 1 ["column","voice"] (fC K)): ~~~aL bU 2 f fd ["column","first","second"] (pK K):=by
 refine F.ok Du λ_ A _ s H vs Q E hr h=>?_;obtain⟨c,a,b,us,rfl,hc,h1,h2,h3,h4,k⟩:=h;refine⟨rfl,_,(ai (av (ar (o0 bD) (aA D_note_in hr ⋯ (aa (pr 0) (aa (pr 2) ah))) (aA D_note_in hr ⋯ (aa (pr 0) (aa (pr 1) ah)))))),?_⟩;tm_at "r";refine⟨c,b,us,rfl,hc,h3,h4,c,a,us,rfl,hc,h1,h2,?_⟩;tm_at "r";exact k
theorem sM(F:b0 K "__init__" "Rule.__init__" fM f fd): ~~~aL bU 1 f fd ["self","row"] (cq K):=by
 refine F.ok mD λ_ A _ s H vs Q E hr h=>?_;obtain⟨x,C,dx,fs,row,rfl,hx,cl,na,hl,k⟩:=h;refine⟨rfl,_,(ai (bI (pr 0) (pr 1) rfl)),?_⟩;tm_at "r";exact⟨C,dx,fs,hx,cl,na,(),k⟩
theorem dS(F:b0 K "size" "Rule.size" dh f fd): ~~~aL bU 1 f fd ["self"] (cH 1 λ_=>.int 1):=by
 refine F.ok tu λ_ A _ s H vs Q E hr h=>?_;obtain⟨hl,k⟩:=h;obtain⟨a,rfl⟩:=Fv hl;refine⟨rfl,_,(ai (av af)),?_⟩;tm_at "r";exact k
theorem bY(F:b0 K "start" "Rule.start" bR f fd): ~~~aL bU 1 f fd ["self"] (cH 1 λ_=>.int 0):=by
 refine F.ok qG λ_ A _ s H vs Q E hr h=>?_;obtain⟨hl,k⟩:=h;obtain⟨a,rfl⟩:=Fv hl;refine⟨rfl,_,(ai (av af)),?_⟩;tm_at "r";exact k
theorem cE(F:b0 K "closes" "Rule.closes" bZ f fd): ~~~aL bU 1 f fd ["self","memory","last"] (cH 3 λ_=>.bl true):=by
 refine F.ok ph λ_ A _ s H vs Q E hr h=>?_;obtain⟨hl,k⟩:=h;obtain⟨a,b,c,rfl⟩:=HF hl;refine⟨rfl,_,(ai (av lA)),?_⟩;tm_at "r";exact k
theorem qf(F:b0 K "after" "Rule.after" iq f fd): ~~~aL bU 1 f fd ["self","memory","before","column"] (cH 4 DV):=by
 refine F.ok qF λ_ A _ s H vs Q E hr h=>?_;obtain⟨hl,k⟩:=h;obtain⟨a,b,c,d,rfl⟩:=HG hl;refine⟨rfl,_,(ai (av (pr 1))),?_⟩;tm_at "r";exact k
theorem uu(F:b0 K "has_list" "has_list" kh f fd)(T:Txt mg aM): ~~~aL bU 1 f fd ["numbers","ahead"] (eE K):=by
 refine F.ok uO λ_ A _ s H vs Q E hr h=>?_;obtain⟨q,xs,j,rfl,hq,k⟩:=h;refine⟨rfl,_,(ai (av (uz (o0 i8) (o0 i8) af (ar (o0 bD) (aD (aG K) ⋯ T.n_len boot_len (aa (pr 0) ah)) (pr 1)) (ia T.g_MOST_NUMBERS)))),?_⟩;tm_at "r";refine⟨xs,.inl hq,?_⟩;tm_at "r"
 by_cases h1:(1:Int)<=(xs.length:Int) - j
 ·rw [if_pos h1]
  rw [decide_eq_true h1,ai2]at k;exact k
 ·rw [if_neg h1]
  rw [decide_eq_false h1,ah3]at k;exact k
theorem qm(F:b0 K "are_voices" "are_voices" iy f fd)(T:Txt mg aM): ~~~aL bU 1 f fd ["numbers","voices"] (ck K):=by
 refine F.ok qK λ_ A _ s H vs Q E hr h=>?_;obtain⟨q,ns,nv,rfl,hq,hl,k⟩:=h;refine⟨rfl,_,(ai (av (aD (gX K rfl) ⋯ T.n_all boot_all (aa (cX (own:=["number"]) (js:=[1]) rfl (bF K (pr 0)) (bB.of ⋯) (λ_ _ _ _ _=>(bM (i:=0) (show List.Nodup (["number","voices"]:List Str)from by decide +kernel) rfl (Or.inl rfl))) (λ_ _ _ _ _=>cn) (λ_ _ _ _ _=>(uz (o0 i8) (o0 i8) af (pr 0) (pr 1)))) ah)))),?_⟩;tm_at "r";have hs:=sizeLine_eq;refine bK hq (bQ (xs:=ns.map V.int) (λi ys H'=>ys=((ns.take i).map λn=>decide (1<=n) && decide (n<=nv)).map V.bl/\H=H') (by rw [aa0];omega) ⟨rfl,rfl⟩ ?_ ?_ ?_ ?_)
 ·rintro i ys H' ⟨rfl,rfl⟩
  rw [aa0,aa0,ac9];omega
 ·rintro i ys H' ⟨rfl,rfl⟩
  exact hq
 ·rintro i x ys H' hx ⟨rfl,rfl⟩
  rw [aa4]at hx
  cases hn:ns[i]? with
  | none=>rw [hn]at hx;cases hx
  | some n=>
   rw [hn]at hx;cases hx;tm_at "r";rw [ac6,hn]
   by_cases h1:(1:Int)<=n
   ·rw [if_pos h1]
    simp [h1]
   ·rw [if_neg h1]
    simp [h1]
 ·rintro ys H' ⟨rfl,rfl⟩ p hp
  refine⟨_,aJ.of ae,?_⟩;rw [ah8,aa0,ad6];exact k _ (aq hp)
theorem qu(F:b0 K "plain_rule" "plain_rule" iD f fd)(T:Txt mg aM)(D_is_number: ~~~cB "is_number" 7 ["word"] rK): ~~~aL bU 8 f fd ["row","voices"] (~~~lN aM 7):=by
 refine F.ok sc_plain_rule λ_ A _ s H vs Q E hr h=>?_;obtain⟨row,kind,ns,nv,D,g,sp,Res,rfl,R,tab,hg,fn,k,kq⟩:=h
 refine⟨rfl,_,(ag (cU (i:=2) sc_plain_rule.nd (bW K PySem.F.plainAttrs_str PySem.F.slot_str_split PySem.F.type_str_split kZ (pr 0) (aa aW ah)))
 (ag (aP (PW.pt (da (ba (ay (vI K) (aw (aC K) (pr 2) af (λ_ _=>rfl)) (ia T.g_MAKERS) (by with_unfolding_all rfl))) (cR (cJ (bo (aD (gX K rfl) ⋯ T.n_all boot_all (aa (cX (own:=["word"]) (js:=[]) rfl (bF K (bt (fB K) (pr 2) (fw af) bJ)) (bB.of ⋯) (λ_ _ _ _ _=>(bM (i:=0) (show List.Nodup (["word"]:List Str)from by decide +kernel) rfl (Or.inl rfl))) (λ_ _ _ _ _=>cn) (λ_ _ _ _ _=>(aA D_is_number hr ⋯ (aa (pr 0) ah)))) ah)) (λ_=>rfl)))))) (ai (av aZ)) aB)
 (ai (av (~~~AL hr (AM K (ia T.g_MAKERS) (aw (aC K) (pr 2) af (λ_ _=>rfl)) (λ_ _=>rfl)) (aa (pr 0) (aa (cX (own:=["word"]) (js:=[]) rfl (bF K (bt (fB K) (pr 2) (fw af) bJ)) (bB.of ⋯) (λ_ _ _ _ _=>(bM (i:=0) (show List.Nodup (["word"]:List Str)from by decide +kernel) rfl (Or.inl rfl))) (λ_ _ _ _ _=>cn) (λ_ _ _ _ _=>(bf (dJ) ⋯ T.n_int boot_int (aa (pr 0) ah)))) (aa (pr 1) ah)))))))),?_⟩
 refine iL λRk rk=>?_;tm_at "r";have hs:=sizeLine_eq;have hl:=R.len;have hnl:=R.nl;refine⟨32,by decide +kernel,∅,(),λp hp=>rk _ _ ?_⟩;clear rk Rk;rw [R.split];have sp0:au H (upd H p (.lst ((kind::ns.map aR).map V.str))):=aq hp;generalize hH0:upd H p (.lst ((kind::ns.map aR).map V.str))=H0 at sp0
 have hp0:H0 p=some (.lst ((kind::ns.map aR).map V.str)):=by rw [<-hH0,ae]
 refine iL λRk rk=>?_;tm_at "r";refine bq (aJ.of hp0) (bH rfl) ⟨kind,rfl,D,tab,?_⟩;rw [hg];tm_at "r";refine cG (aJ.of hp0) λq hq=>?_;rw [show(some (1:Int))=some ((1:Nat):Int)from rfl,cy];show Dj _ _ _ _;have s1:au H0 (upd H0 q (.lst ((ns.map aR).map V.str))):=aq hq;refine bK (xs:=(ns.map aR).map V.str) (aJ.of ae) (bQ (xs:=(ns.map aR).map V.str) (λi ys H'=>ys=(List.replicate i true).map V.bl/\au (upd H0 q (.lst ((ns.map aR).map V.str))) H') (by simp;omega) ⟨rfl,au.refl _⟩ ?_ ?_ ?_ ?_)
 ·rintro i ys H' ⟨rfl,sm⟩
  simp
 ·rintro i ys H' ⟨rfl,sm⟩
  exact sm.seq (aJ.of ae)
 ·rintro i x ys H' hx ⟨rfl,sm⟩
  obtain⟨n,hn,rfl⟩:∃n∈ns,x=.str (aR n):=by
   have:=ac0 hx
   simp only [ai7,ac3,Function.comp_apply]at this;obtain⟨n,hn,e⟩:=this;exact⟨n,hn,e.symm⟩
  tm_at "r";refine⟨aR n,rfl,?_,λH1 s1=>⟨?_,sm.trans s1⟩⟩
  ·rw [bh]
   have:=gi (n:=n) (k:=40) ∅ (R.nb n hn)
   show(hX n).length<=_;omega
  ·show _=(List.replicate (i+1) true).map V.bl
   rw [show(aR n).cps.toList=hX n from rfl,lZ (R.nb n hn),List.replicate_succ',ab4];rfl
 rintro ys H1 ⟨rfl,sm⟩ p1 hp1;simp only [aa0];refine⟨_,aJ.of ae,?_⟩;rw [show(List.replicate ns.length true).all id=true by simp];tm_at "r";refine rk _ _ ?_;tm_at "r";have s2:au H0 (upd H1 p1 (.lst ((List.replicate ns.length true).map V.bl))):=(s1.trans sm).upd hp1;generalize upd H1 p1 (.lst ((List.replicate ns.length true).map V.bl))=H2 at s2;have hp2:=s2 _ _ hp0;refine bq (aJ.of hp2) (bH rfl) ⟨kind,rfl,D,tab,_,hg,g,rfl,_,_,fn,?_⟩;refine cG (aJ.of hp2) λq2 hq2=>?_;rw [show(some (1:Int))=some ((1:Nat):Int)from rfl,cy];show Dj _ _ _ _;have s3:au H0 (upd H2 q2 (.lst ((ns.map aR).map V.str))):=s2.upd hq2;refine bK (xs:=(ns.map aR).map V.str) (aJ.of ae) (bQ (xs:=(ns.map aR).map V.str) (λi ys H'=>ys=(ns.take i).map V.int/\upd H2 q2 (.lst ((ns.map aR).map V.str))=H') (by simp;omega) ⟨rfl,rfl⟩ ?_ ?_ ?_ ?_)
 ·rintro i ys H' ⟨rfl,rfl⟩
  rw [aa0,ac9];omega
 ·rintro i ys H' ⟨rfl,rfl⟩
  exact aJ.of ae
 ·rintro i x ys H' hx ⟨rfl,rfl⟩
  cases hn:ns[i]? with
  | none=>rw [aa4,aa4,hn]at hx;cases hx
  | some n=>
   rw [aa4,aa4,hn]at hx;cases hx;have hb:=R.nb n (ac0 hn);tm_at "r";refine⟨n,nI (ab3 hb (aj5 ∅ ∅)),?_,?_⟩
   ·rw [bh]
    have:=gi (n:=n) (k:=40) ∅ hb
    show(hX n).length<=_;omega
   ·rw [ac6,hn,ab4]
    rfl
 rintro ys H3 ⟨rfl,rfl⟩ p3 hp3;refine k p3 _ _ (sp0.trans (s3.upd hp3)) ?_ kq;rw [ae,aa0,aa0,ad6]
theorem sN(F:b0 K "__init__" "Span.__init__" fO f fd)(T:Txt mg aM)(TC:nE K C)(DC_Rule___init__: ~~~iP "Rule" "__init__" 1 ["self","row"] (cq K)): ~~~aL bU 2 f fd ["self","row","first","second","numbers"] (pL K C):=by
 refine F.ok mE λ_ A _ s H vs Q E hr h=>?_;obtain⟨x,dx,q,row,x1,x2,D,rfl,hx,hq,hl,k⟩:=h
 refine⟨rfl,_,(ag (bG (dG DC_Rule___init__ hr ⋯ (aa (pr 0) (aa (pr 1) ah))))
 (ag (bI (pr 0) (pr 2) rfl)
 (ag (bI (pr 0) (pr 3) rfl)
 (ai (bI (pr 0) (bf (di K) ⋯ T.n_list boot_list (aa (pr 4) ah)) rfl))))),?_⟩
 refine iL λRk rk=>?_;tm_at "r";have ln:∀(f:Str) (v:V) (l:List (Str×V)) (n:Nat),l.length<=n->(bu f v l).length<=n+1:=λf v l n h=>ab6 (bC f v l) (ae0 h);refine⟨x,C,dx,[],row,rfl,hx,TC.cl,TC.n1,∅,rk _ _ ?_⟩;tm_at "r";refine⟨C,dx,_,ae,TC.cl,TC.n2,aa7 (ln _ _ _ _ (ac2 0)) ∅,C,dx,_,ae,TC.cl,TC.n3,aa7 (ln _ _ _ _ (ln _ _ _ _ (ac2 0))) ∅,D.map V.int,.inl (((hq.at_ins hx).at_ins ae).at_ins ae),λn hn=>?_⟩
 have nx:n≠x:=λe=>by subst e;rw [ae]at hn;cases hn
 rw [aj nx,aj nx,aj nx]at hn;refine⟨C,dx,_,by rw [aj (Ne.symm nx),ae],TC.cl,TC.n4,aa7 (ln _ _ _ _ (ln _ _ _ _ (ln _ _ _ _ (ac2 0)))) ∅,?_⟩;refine k n _ hn ?_;rw [bS,bS,fE];rfl
theorem vH(F:b0 K "span_of" "span_of" my f fd)(T:Txt mg aM)(D_has_list: ~~~cB "has_list" 3 ["numbers","ahead"] (eE K))(D_are_voices: ~~~cB "are_voices" 3 ["numbers","voices"] (ck K))(DM_Span: ~~~iQ "Span" C 2 ["self","row","first","second","numbers"] (pL K C)): ~~~aL bU 4 f fd ["row","numbers","voices"] (pM K C):=by
 refine F.ok v3 λ_ A _ s H vs Q E hr h=>?_;obtain⟨q,row,x1,x2,D,nv,rfl,hq,x1_1,x1_2,x2_1,x2_2,l1,l2,k⟩:=h
 refine⟨rfl,_,(ag (aP (PW.pt (da (cJ (bo (aA D_has_list hr ⋯ (aa (pr 1) (aa af ah))) (λ_=>rfl))) (cR (cJ (bo (aA D_are_voices hr ⋯ (aa (bt (fB K) (pr 1) bJ (fw af)) (aa (pr 2) ah))) (λ_=>rfl)))))) (ai (av aZ)) aB)
 (ai (av (iJ DM_Span hr ⋯ (aa (pr 0) (aa (aw (aC K) (pr 1) af (λ_ _=>rfl)) (aa (aw (aC K) (pr 1) af (λ_ _=>rfl)) (aa (bt (fB K) (pr 1) (fw af) bJ) ah)))))))),?_⟩
 refine iL λRk rk=>?_;tm_at "r";have hs:=sizeLine_eq;refine⟨q,_,2,rfl,hq,?_⟩;rw [show(decide (1<=(((x1::x2::D).map V.int).length:Int) - 2) && decide ((((x1::x2::D).map V.int).length:Int) - 2<=12))=true by simp;omega];tm_at "r";refine cG hq λq1 hq1=>?_;rw [show(some (2:Int))=some ((2:Nat):Int)from rfl,fq];have s1:au H (upd H q1 (.lst ((((x1::x2::D).map V.int)).take 2))):=aq hq1;refine⟨q1,[x1,x2],nv,rfl,aJ.of ae,by simp,λH1 s2=>?_⟩;rw [show([x1,x2].all λn=>decide (1<=n) && decide (n<=nv))=true by simp;omega];tm_at "r";refine rk _ _ ?_;tm_at "r";have s3:=s1.trans s2;have hq3:=s3.seq hq;refine bq hq3 (bH rfl) (bq hq3 (show fR _ ((1:Nat):Int)=_ from aK rfl) (cG hq3 λq2 hq2=>?_));rw [show(some (2:Int))=some ((2:Nat):Int)from rfl,cy];show ∀x dx:Addr,_;intro x dx hx hdx hne;have s4:au H (upd H1 q2 (.lst (((x1::x2::D).map V.int).drop 2))):=s3.upd hq2;have hq2':(upd H1 q2 (.lst (((x1::x2::D).map V.int).drop 2))) q2=some (.lst (D.map V.int)):=ae;generalize upd H1 q2 (.lst (((x1::x2::D).map V.int).drop 2))=H2 at s4 hx hdx hq2';have s5:au H (upd (upd H2 dx (.own x)) x (.ins C dx [])):=(s4.upd hdx).upd (by rw [aj (Ne.symm hne)];exact hx)
 have hq5:(upd (upd H2 dx (.own x)) x (.ins C dx [])) q2=some (.lst (D.map V.int)):=by
  rw [aj (ao hq2' hx),aj (ao hq2' hdx)];exact hq2'
 refine⟨x,dx,q2,row,x1,x2,D,rfl,ae,aJ.of hq5,(),λn H3 hn e=>⟨rfl,?_⟩⟩;subst e
 have nx:n≠x:=λz=>by subst z;rw [ae]at hn;cases hn
 refine k x _ ?_ ⟨dx,n,ae,by rw [aj nx,ae]⟩;intro c o hc;have n1:c≠x:=ao (s4 _ _ hc) hx;rw [aj n1,aj (ao (s5 _ _ hc) hn)];exact s5 _ _ hc
theorem qh{a b:Int}(F:b0 K "after" "Span.after" iu f fd)(T:Txt mg aM)(TC:nE K C)(ha:1<=a/\a<=nv)(hb:1<=b/\b<=nv)(D_span: ~~~cB "span" 2 ["column","first","second"] (pK K)): ~~~aL bU 3 f fd ["self","memory","before","column"] (bA K nv (iS C row a b D) (fu a b D) λ_=>True):=by
 refine F.ok qH λ_ A _ s H vs Q E hr h=>?_;obtain⟨r,m,x,c,bb,us,rfl,⟨dx,n,hr1,hn⟩,_,hbv,hc,hu,k⟩:=h;refine⟨rfl,_,(ai (av (c8 (ba (ay (lu K) (aA D_span hr ⋯ (aa (pr 3) (aa (aV (pr 0) rfl) (aa (aV (pr 0) rfl) ah)))) (aV (pr 0) rfl) (by with_unfolding_all rfl))) (pr 1) aZ))),?_⟩;tm_at "r"
 have l1:(eJ row a b n).lookup (Str.ofString "first")=⇑a:=by unfold eJ;tm_at "f"
 have l2:(eJ row a b n).lookup (Str.ofString "second")=⇑b:=by unfold eJ;tm_at "f"
 have l3:(eJ row a b n).lookup (Str.ofString "numbers")=↑n:=by unfold eJ;tm_at "f"
 refine⟨C,dx,_,hr1,TC.cl,TC.n2,_,l1,C,dx,_,hr1,TC.cl,TC.n3,_,l2,c,a,b,us,rfl,hc,ha.1,by rw [hu];exact ha.2,hb.1,by rw [hu];exact hb.2,C,dx,_,hr1,TC.cl,TC.n4,_,l3,gk (aJ.of hn) ⟨_,rfl,?_⟩⟩
 by_cases h:aE us b - aE us a∈D
 ·rw [if_pos (decide_eq_true h)]
  simp only [fu]at k;rw [if_pos h]at k;exact k
 ·rw [if_neg (by rw [decide_eq_false h];exact aa6)]
  simp only [fu]at k;rw [if_neg h]at k;exact k
theorem Bh{lv:Nat}{a b:Int}(TC:nE K C)(h1: ~~~aF C "size" lv ["self"] (cH 1 λ_=>.int 1))(h2: ~~~aF C "start" lv ["self"] (cH 1 λ_=>.int 0))(h3: ~~~aF C "closes" lv ["self","memory","last"] (cH 3 λ_=>.bl true))
  (h4: ~~~aF C "after" lv ["self","memory","before","column"] (bA K nv (iS C row a b D) (fu a b D) λ_=>True)): ~~~br lv nv C (fu a b D) (iS C row a b D) (λ_=>True):=by
 refine⟨λr H H' s h=>?_,λr H h=>?_,trivial,λ_ _ _ _ _ _=>trivial,h1.imp ?_,h2.imp ?_,h4,h3.imp ?_⟩
 ·obtain⟨dx,n,e1,e2⟩:=h
  exact⟨dx,n,s _ _ e1,s _ _ e2⟩
 ·obtain⟨dx,n,e1,e2⟩:=h
  refine⟨dx,_,e1,?_,?_,?_,?_,?_⟩<;>(unfold eJ;tm_at "f")
 ·rintro vs H Q E ⟨r,rfl,_,q⟩
  exact⟨rfl,q⟩
 ·rintro vs H Q E ⟨r,rfl,_,q⟩
  exact⟨rfl,q⟩
 ·rintro vs H Q E ⟨r,m,x,b,rfl,_,_,_,q⟩
  exact⟨rfl,q⟩
theorem p7(F:b0 K "__init__" "Clock.__init__" e8 f fd)(T:Txt mg aM)(TC:kE K C)(DC_Rule___init__: ~~~iP "Rule" "__init__" 1 ["self","row"] (cq K)): ~~~aL bU 2 f fd ["self","row","first","second","hours","numbers"] (mX K C):=by
 refine F.ok lF λ_ A _ s H vs Q E hr h=>?_;obtain⟨x,dx,q,row,x1,x2,x3,D,rfl,hx,hq,hl,k⟩:=h
 refine⟨rfl,_,(ag (bG (dG DC_Rule___init__ hr ⋯ (aa (pr 0) (aa (pr 1) ah))))
 (ag (bI (pr 0) (pr 2) rfl)
 (ag (bI (pr 0) (pr 3) rfl)
 (ag (bI (pr 0) (pr 4) rfl)
 (ai (bI (pr 0) (bf (di K) ⋯ T.n_list boot_list (aa (pr 5) ah)) rfl)))))),?_⟩
 refine iL λRk rk=>?_;tm_at "r";have ln:∀(f:Str) (v:V) (l:List (Str×V)) (n:Nat),l.length<=n->(bu f v l).length<=n+1:=λf v l n h=>ab6 (bC f v l) (ae0 h);refine⟨x,C,dx,[],row,rfl,hx,TC.cl,TC.n1,∅,rk _ _ ?_⟩;tm_at "r";refine⟨C,dx,_,ae,TC.cl,TC.n2,aa7 (ln _ _ _ _ (ac2 0)) ∅,C,dx,_,ae,TC.cl,TC.n3,aa7 (ln _ _ _ _ (ln _ _ _ _ (ac2 0))) ∅,C,dx,_,ae,TC.cl,TC.n4,aa7 (ln _ _ _ _ (ln _ _ _ _ (ln _ _ _ _ (ac2 0)))) ∅,D.map V.int,.inl ((((hq.at_ins hx).at_ins ae).at_ins ae).at_ins ae),λn hn=>?_⟩
 have nx:n≠x:=λe=>by subst e;rw [ae]at hn;cases hn
 rw [aj nx,aj nx,aj nx,aj nx]at hn;refine⟨C,dx,_,by rw [aj (Ne.symm nx),ae],TC.cl,TC.n5,aa7 (ln _ _ _ _ (ln _ _ _ _ (ln _ _ _ _ (ln _ _ _ _ (ac2 0))))) ∅,?_⟩;refine k n _ hn ?_;rw [bS,bS,bS,fE];rfl
theorem uq(F:b0 K "clock_of" "clock_of" ke f fd)(T:Txt mg aM)(D_has_list: ~~~cB "has_list" 3 ["numbers","ahead"] (eE K))(D_are_voices: ~~~cB "are_voices" 3 ["numbers","voices"] (ck K))(DM_Clock: ~~~iQ "Clock" C 2 ["self","row","first","second","hours","numbers"] (mX K C)): ~~~aL bU 4 f fd ["row","numbers","voices"] (mI K C):=by
 refine F.ok uM λ_ A _ s H vs Q E hr h=>?_;obtain⟨q,row,x1,x2,x3,D,nv,rfl,hq,x1_1,x1_2,x2_1,x2_2,p3,l1,l2,k⟩:=h
 refine⟨rfl,_,(ag (aP (PW.pt (da (cJ (bo (aA D_has_list hr ⋯ (aa (pr 1) (aa af ah))) (λ_=>rfl))) (da (cJ (bo (aA D_are_voices hr ⋯ (aa (bt (fB K) (pr 1) bJ (fw af)) (aa (pr 2) ah))) (λ_=>rfl))) (cR (ba (ay (o0 j6) (aw (aC K) (pr 1) af (λ_ _=>rfl)) af (az _))))))) (ai (av aZ)) aB)
 (ai (av (iJ DM_Clock hr ⋯ (aa (pr 0) (aa (aw (aC K) (pr 1) af (λ_ _=>rfl)) (aa (aw (aC K) (pr 1) af (λ_ _=>rfl)) (aa (aw (aC K) (pr 1) af (λ_ _=>rfl)) (aa (bt (fB K) (pr 1) (fw af) bJ) ah))))))))),?_⟩
 refine iL λRk rk=>?_;tm_at "r";have hs:=sizeLine_eq;refine⟨q,_,3,rfl,hq,?_⟩;rw [show(decide (1<=(((x1::x2::x3::D).map V.int).length:Int) - 3) && decide ((((x1::x2::x3::D).map V.int).length:Int) - 3<=12))=true by simp;omega];tm_at "r";refine cG hq λq1 hq1=>?_;rw [show(some (2:Int))=some ((2:Nat):Int)from rfl,fq];have s1:au H (upd H q1 (.lst ((((x1::x2::x3::D).map V.int)).take 2))):=aq hq1;refine⟨q1,[x1,x2],nv,rfl,aJ.of ae,by simp,λH1 s2=>?_⟩;rw [show([x1,x2].all λn=>decide (1<=n) && decide (n<=nv))=true by simp;omega];tm_at "r";have s3:=s1.trans s2;have hq3:=s3.seq hq;refine bq hq3 (show fR _ ((2:Nat):Int)=_ from aK rfl) ?_;tm_at "r";rw [if_neg (show ¬(x3 < 1)by omega)];refine rk _ _ ?_;tm_at "r";refine bq hq3 (bH rfl) (bq hq3 (show fR _ ((1:Nat):Int)=_ from aK rfl) (bq hq3 (show fR _ ((2:Nat):Int)=_ from aK rfl) (cG hq3 λq2 hq2=>?_)));rw [show(some (3:Int))=some ((3:Nat):Int)from rfl,cy];show ∀x dx:Addr,_;intro x dx hx hdx hne;have s4:au H (upd H1 q2 (.lst (((x1::x2::x3::D).map V.int).drop 3))):=s3.upd hq2;have hq2':(upd H1 q2 (.lst (((x1::x2::x3::D).map V.int).drop 3))) q2=some (.lst (D.map V.int)):=ae;generalize upd H1 q2 (.lst (((x1::x2::x3::D).map V.int).drop 3))=H2 at s4 hx hdx hq2';have s5:au H (upd (upd H2 dx (.own x)) x (.ins C dx [])):=(s4.upd hdx).upd (by rw [aj (Ne.symm hne)];exact hx)
 have hq5:(upd (upd H2 dx (.own x)) x (.ins C dx [])) q2=some (.lst (D.map V.int)):=by
  rw [aj (ao hq2' hx),aj (ao hq2' hdx)];exact hq2'
 refine⟨x,dx,q2,row,x1,x2,x3,D,rfl,ae,aJ.of hq5,(),λn H3 hn e=>⟨rfl,?_⟩⟩;subst e
 have nx:n≠x:=λz=>by subst z;rw [ae]at hn;cases hn
 refine k x _ ?_ ⟨dx,n,ae,by rw [aj nx,ae]⟩;intro c o hc;have n1:c≠x:=ao (s4 _ _ hc) hx;rw [aj n1,aj (ao (s5 _ _ hc) hn)];exact s5 _ _ hc
theorem oN(F:b0 K "after" "Clock.after" gN f fd)(T:Txt mg aM)(TC:kE K C)(ha:1<=x1/\x1<=nv)(hb:1<=x2/\x2<=nv)(h3:1<=x3)(D_span: ~~~cB "span" 2 ["column","first","second"] (pK K)): ~~~aL bU 3 f fd ["self","memory","before","column"] (bA K nv (gy C row x1 x2 x3 D) (ef x1 x2 x3 D) λ_=>True):=by
 refine F.ok pe λ_ A _ s H vs Q E hr h=>?_;obtain⟨r,m,x,c,bb,us,rfl,⟨dx,n,hr1,hn⟩,_,hbv,hc,hu,k⟩:=h;refine⟨rfl,_,(ai (av (c8 (ba (ay (lu K) (ar (o1 aU) (aA D_span hr ⋯ (aa (pr 3) (aa (aV (pr 0) rfl) (aa (aV (pr 0) rfl) ah)))) (aV (pr 0) rfl)) (aV (pr 0) rfl) (by with_unfolding_all rfl))) (pr 1) aZ))),?_⟩;tm_at "r"
 have l1:(cZ row x1 x2 x3 n).lookup (Str.ofString "first")=⇑x1:=by unfold cZ;tm_at "f"
 have l2:(cZ row x1 x2 x3 n).lookup (Str.ofString "second")=⇑x2:=by unfold cZ;tm_at "f"
 have l3:(cZ row x1 x2 x3 n).lookup (Str.ofString "hours")=⇑x3:=by unfold cZ;tm_at "f"
 have l4:(cZ row x1 x2 x3 n).lookup (Str.ofString "numbers")=↑n:=by unfold cZ;tm_at "f"
 refine⟨C,dx,_,hr1,TC.cl,TC.n2,_,l1,C,dx,_,hr1,TC.cl,TC.n3,_,l2,c,x1,x2,us,rfl,hc,ha.1,by rw [hu];exact ha.2,hb.1,by rw [hu];exact hb.2,C,dx,_,hr1,TC.cl,TC.n4,_,l3,?_⟩;tm_at "r";refine⟨(),C,dx,_,hr1,TC.cl,TC.n5,_,l4,gk (aJ.of hn) ⟨_,rfl,?_⟩⟩
 by_cases h:(aE us x2 - aE us x1) % x3∈D
 ·rw [if_pos (decide_eq_true h)]
  simp only [ef]at k;rw [if_pos h]at k;exact k
 ·rw [if_neg (by rw [decide_eq_false h];exact aa6)]
  simp only [ef]at k;rw [if_neg h]at k;exact k
theorem xY{lv:Nat}(TC:kE K C)(h1: ~~~aF C "size" lv ["self"] (cH 1 λ_=>.int 1))(h2: ~~~aF C "start" lv ["self"] (cH 1 λ_=>.int 0))(h3: ~~~aF C "closes" lv ["self","memory","last"] (cH 3 λ_=>.bl true))
  (h4: ~~~aF C "after" lv ["self","memory","before","column"] (bA K nv (gy C row x1 x2 x3 D) (ef x1 x2 x3 D) λ_=>True)): ~~~br lv nv C (ef x1 x2 x3 D) (gy C row x1 x2 x3 D) (λ_=>True):=by
 refine⟨λr H H' s h=>?_,λr H h=>?_,trivial,λ_ _ _ _ _ _=>trivial,h1.imp ?_,h2.imp ?_,h4,h3.imp ?_⟩
 ·obtain⟨dx,n,e1,e2⟩:=h
  exact⟨dx,n,s _ _ e1,s _ _ e2⟩
 ·obtain⟨dx,n,e1,e2⟩:=h
  refine⟨dx,_,e1,?_,?_,?_,?_,?_⟩<;>(unfold cZ;tm_at "f")
 ·rintro vs H Q E ⟨r,rfl,_,q⟩
  exact⟨rfl,q⟩
 ·rintro vs H Q E ⟨r,rfl,_,q⟩
  exact⟨rfl,q⟩
 ·rintro vs H Q E ⟨r,m,x,b,rfl,_,_,_,q⟩
  exact⟨rfl,q⟩
theorem sL(F:b0 K "__init__" "Move.__init__" fL f fd)(T:Txt mg aM)(TC:nB K C)(DC_Rule___init__: ~~~iP "Rule" "__init__" 1 ["self","row"] (cq K)): ~~~aL bU 2 f fd ["self","row","voice","numbers"] (pC K C):=by
 refine F.ok mC λ_ A _ s H vs Q E hr h=>?_;obtain⟨x,dx,q,row,x1,D,rfl,hx,hq,hl,k⟩:=h
 refine⟨rfl,_,(ag (bG (dG DC_Rule___init__ hr ⋯ (aa (pr 0) (aa (pr 1) ah))))
 (ag (bI (pr 0) (pr 2) rfl)
 (ai (bI (pr 0) (bf (di K) ⋯ T.n_list boot_list (aa (pr 3) ah)) rfl)))),?_⟩
 refine iL λRk rk=>?_;tm_at "r";have ln:∀(f:Str) (v:V) (l:List (Str×V)) (n:Nat),l.length<=n->(bu f v l).length<=n+1:=λf v l n h=>ab6 (bC f v l) (ae0 h);refine⟨x,C,dx,[],row,rfl,hx,TC.cl,TC.n1,∅,rk _ _ ?_⟩;tm_at "r";refine⟨C,dx,_,ae,TC.cl,TC.n2,aa7 (ln _ _ _ _ (ac2 0)) ∅,D.map V.int,.inl ((hq.at_ins hx).at_ins ae),λn hn=>?_⟩
 have nx:n≠x:=λe=>by subst e;rw [ae]at hn;cases hn
 rw [aj nx,aj nx]at hn;refine⟨C,dx,_,by rw [aj (Ne.symm nx),ae],TC.cl,TC.n3,aa7 (ln _ _ _ _ (ln _ _ _ _ (ac2 0))) ∅,?_⟩;refine k n _ hn ?_;rw [bS,fE];rfl
theorem vF(F:b0 K "move_of" "move_of" mw f fd)(T:Txt mg aM)(D_has_list: ~~~cB "has_list" 3 ["numbers","ahead"] (eE K))(D_are_voices: ~~~cB "are_voices" 3 ["numbers","voices"] (ck K))(DM_Move: ~~~iQ "Move" C 2 ["self","row","voice","numbers"] (pC K C)): ~~~aL bU 4 f fd ["row","numbers","voices"] (pE K C):=by
 refine F.ok vY λ_ A _ s H vs Q E hr h=>?_;obtain⟨q,row,x1,D,nv,rfl,hq,x1_1,x1_2,l1,l2,k⟩:=h
 refine⟨rfl,_,(ag (aP (PW.pt (da (cJ (bo (aA D_has_list hr ⋯ (aa (pr 1) (aa af ah))) (λ_=>rfl))) (cR (cJ (bo (aA D_are_voices hr ⋯ (aa (bt (fB K) (pr 1) bJ (fw af)) (aa (pr 2) ah))) (λ_=>rfl)))))) (ai (av aZ)) aB)
 (ai (av (iJ DM_Move hr ⋯ (aa (pr 0) (aa (aw (aC K) (pr 1) af (λ_ _=>rfl)) (aa (bt (fB K) (pr 1) (fw af) bJ) ah))))))),?_⟩
 refine iL λRk rk=>?_;tm_at "r";have hs:=sizeLine_eq;refine⟨q,_,1,rfl,hq,?_⟩;rw [show(decide (1<=(((x1::D).map V.int).length:Int) - 1) && decide ((((x1::D).map V.int).length:Int) - 1<=12))=true by simp;omega];tm_at "r";refine cG hq λq1 hq1=>?_;rw [show(some (1:Int))=some ((1:Nat):Int)from rfl,fq];have s1:au H (upd H q1 (.lst ((((x1::D).map V.int)).take 1))):=aq hq1;refine⟨q1,[x1],nv,rfl,aJ.of ae,by simp,λH1 s2=>?_⟩;rw [show([x1].all λn=>decide (1<=n) && decide (n<=nv))=true by simp;omega];tm_at "r";refine rk _ _ ?_;tm_at "r";have s3:=s1.trans s2;have hq3:=s3.seq hq;refine bq hq3 (bH rfl) (cG hq3 λq2 hq2=>?_);rw [show(some (1:Int))=some ((1:Nat):Int)from rfl,cy];show ∀x dx:Addr,_;intro x dx hx hdx hne;have s4:au H (upd H1 q2 (.lst (((x1::D).map V.int).drop 1))):=s3.upd hq2;have hq2':(upd H1 q2 (.lst (((x1::D).map V.int).drop 1))) q2=some (.lst (D.map V.int)):=ae;generalize upd H1 q2 (.lst (((x1::D).map V.int).drop 1))=H2 at s4 hx hdx hq2';have s5:au H (upd (upd H2 dx (.own x)) x (.ins C dx [])):=(s4.upd hdx).upd (by rw [aj (Ne.symm hne)];exact hx)
 have hq5:(upd (upd H2 dx (.own x)) x (.ins C dx [])) q2=some (.lst (D.map V.int)):=by
  rw [aj (ao hq2' hx),aj (ao hq2' hdx)];exact hq2'
 refine⟨x,dx,q2,row,x1,D,rfl,ae,aJ.of hq5,(),λn H3 hn e=>⟨rfl,?_⟩⟩;subst e
 have nx:n≠x:=λz=>by subst z;rw [ae]at hn;cases hn
 refine k x _ ?_ ⟨dx,n,ae,by rw [aj nx,ae]⟩;intro c o hc;have n1:c≠x:=ao (s4 _ _ hc) hx;rw [aj n1,aj (ao (s5 _ _ hc) hn)];exact s5 _ _ hc
theorem CK(F:b0 K "move" "move" vT f fd)(D_note_in: ~~~cB "note_in" 1 ["column","voice"] (fC K)): ~~~aL bU 2 f fd ["before","column","voice"] (lM K):=by
 refine F.ok Ds λ_ A _ s H vs Q E hr h=>?_;obtain⟨b,c,v,bs,us,rfl,hb,hc,h1,h2,h3,k⟩:=h;refine⟨rfl,_,(ai (av (ar (o0 bD) (aA D_note_in hr ⋯ (aa (pr 1) (aa (pr 2) ah))) (aA D_note_in hr ⋯ (aa (pr 0) (aa (pr 2) ah)))))),?_⟩;tm_at "r";refine⟨c,v,us,rfl,hc,h1,h3,b,v,bs,rfl,hb,h1,h2,?_⟩;tm_at "r";exact k
theorem qe(F:b0 K "after" "Move.after" ip f fd)(T:Txt mg aM)(TC:nB K C)(ha:1<=x1/\x1<=nv)(D_move: ~~~cB "move" 2 ["before","column","voice"] (lM K)): ~~~aL bU 3 f fd ["self","memory","before","column"] (bA K nv (iR C row x1 D) (fV x1 D) λ_=>True):=by
 refine F.ok qE λ_ A _ s H vs Q E hr h=>?_;obtain⟨r,m,x,c,bb,us,rfl,⟨dx,n,hr1,hn⟩,_,hbv,hc,hu,k⟩:=h;refine⟨rfl,_,(ai (av (c8 (PW.pt (da (ba (ay eL (pr 2) aZ (az _))) (cR (ba (ay (lu K) (aA D_move hr ⋯ (aa (pr 2) (aa (pr 3) (aa (aV (pr 0) rfl) ah)))) (aV (pr 0) rfl) (by with_unfolding_all rfl)))))) (pr 1) aZ))),?_⟩;tm_at "r"
 have l1:(gf row x1 n).lookup (Str.ofString "voice")=⇑x1:=by unfold gf;tm_at "f"
 have l2:(gf row x1 n).lookup (Str.ofString "numbers")=↑n:=by unfold gf;tm_at "f"
 rcases hbv with⟨rfl,rfl⟩ | ⟨a,bs,rfl,rfl,hba,hbl⟩
 ·rw [if_pos rfl]
  exact k
 rw [if_neg (λz=>by cases z)];refine⟨C,dx,_,hr1,TC.cl,TC.n2,_,l1,a,c,x1,bs,us,rfl,hba,hc,ha.1,by rw [hbl];exact ha.2,by rw [hu];exact ha.2,C,dx,_,hr1,TC.cl,TC.n3,_,l2,gk (aJ.of hn) ⟨_,rfl,?_⟩⟩;simp only [fV]at k
 by_cases h:aE us x1 - aE bs x1∈D
 ·rw [if_pos (decide_eq_true h)]
  rw [if_pos h]at k;exact k
 ·rw [if_neg (by rw [decide_eq_false h];exact aa6)]
  rw [if_neg h]at k;exact k
theorem Ar(TC:nB K C)(h1: ~~~aF C "size" 7 ["self"] (cH 1 λ_=>.int 1))(h2: ~~~aF C "start" 7 ["self"] (cH 1 λ_=>.int 0))(h3: ~~~aF C "closes" 7 ["self","memory","last"] (cH 3 λ_=>.bl true))
  (h4: ~~~aF C "after" 7 ["self","memory","before","column"] (bA K nv (iR C row x1 D) (fV x1 D) λ_=>True)): ~~~br 7 nv C (fV x1 D) (iR C row x1 D) (λ_=>True):=by
 refine⟨λr H H' s h=>?_,λr H h=>?_,trivial,λ_ _ _ _ _ _=>trivial,h1.imp ?_,h2.imp ?_,h4,h3.imp ?_⟩
 ·obtain⟨dx,n,e1,e2⟩:=h
  exact⟨dx,n,s _ _ e1,s _ _ e2⟩
 ·obtain⟨dx,n,e1,e2⟩:=h
  refine⟨dx,_,e1,?_,?_,?_,?_,?_⟩<;>(unfold gf;tm_at "f")
 ·rintro vs H Q E ⟨r,rfl,_,q⟩
  exact⟨rfl,q⟩
 ·rintro vs H Q E ⟨r,rfl,_,q⟩
  exact⟨rfl,q⟩
 ·rintro vs H Q E ⟨r,m,x,b,rfl,_,_,_,q⟩
  exact⟨rfl,q⟩
theorem pX(F:b0 K "__init__" "Alike.__init__" e6 f fd)(T:Txt mg aM)(TC:kC K C)(DC_Rule___init__: ~~~iP "Rule" "__init__" 1 ["self","row"] (cq K)): ~~~aL bU 2 f fd ["self","row","first","second","numbers"] (mV K C):=by
 refine F.ok lD λ_ A _ s H vs Q E hr h=>?_;obtain⟨x,dx,q,row,x1,x2,D,rfl,hx,hq,hl,k⟩:=h
 refine⟨rfl,_,(ag (bG (dG DC_Rule___init__ hr ⋯ (aa (pr 0) (aa (pr 1) ah))))
 (ag (bI (pr 0) (pr 2) rfl)
 (ag (bI (pr 0) (pr 3) rfl)
 (ai (bI (pr 0) (bf (di K) ⋯ T.n_list boot_list (aa (pr 4) ah)) rfl))))),?_⟩
 refine iL λRk rk=>?_;tm_at "r";have ln:∀(f:Str) (v:V) (l:List (Str×V)) (n:Nat),l.length<=n->(bu f v l).length<=n+1:=λf v l n h=>ab6 (bC f v l) (ae0 h);refine⟨x,C,dx,[],row,rfl,hx,TC.cl,TC.n1,∅,rk _ _ ?_⟩;tm_at "r";refine⟨C,dx,_,ae,TC.cl,TC.n2,aa7 (ln _ _ _ _ (ac2 0)) ∅,C,dx,_,ae,TC.cl,TC.n3,aa7 (ln _ _ _ _ (ln _ _ _ _ (ac2 0))) ∅,D.map V.int,.inl (((hq.at_ins hx).at_ins ae).at_ins ae),λn hn=>?_⟩
 have nx:n≠x:=λe=>by subst e;rw [ae]at hn;cases hn
 rw [aj nx,aj nx,aj nx]at hn;refine⟨C,dx,_,by rw [aj (Ne.symm nx),ae],TC.cl,TC.n4,aa7 (ln _ _ _ _ (ln _ _ _ _ (ln _ _ _ _ (ac2 0)))) ∅,?_⟩;refine k n _ hn ?_;rw [bS,bS,fE];rfl
theorem um(F:b0 K "alike_of" "alike_of" j9 f fd)(T:Txt mg aM)(D_has_list: ~~~cB "has_list" 3 ["numbers","ahead"] (eE K))(D_are_voices: ~~~cB "are_voices" 3 ["numbers","voices"] (ck K))(DM_Alike: ~~~iQ "Alike" C 2 ["self","row","first","second","numbers"] (mV K C)): ~~~aL bU 4 f fd ["row","numbers","voices"] (mG K C):=by
 refine F.ok uK λ_ A _ s H vs Q E hr h=>?_;obtain⟨q,row,x1,x2,D,nv,rfl,hq,x1_1,x1_2,x2_1,x2_2,l1,l2,k⟩:=h
 refine⟨rfl,_,(ag (aP (PW.pt (da (cJ (bo (aA D_has_list hr ⋯ (aa (pr 1) (aa af ah))) (λ_=>rfl))) (cR (cJ (bo (aA D_are_voices hr ⋯ (aa (bt (fB K) (pr 1) bJ (fw af)) (aa (pr 2) ah))) (λ_=>rfl)))))) (ai (av aZ)) aB)
 (ai (av (iJ DM_Alike hr ⋯ (aa (pr 0) (aa (aw (aC K) (pr 1) af (λ_ _=>rfl)) (aa (aw (aC K) (pr 1) af (λ_ _=>rfl)) (aa (bt (fB K) (pr 1) (fw af) bJ) ah)))))))),?_⟩
 refine iL λRk rk=>?_;tm_at "r";have hs:=sizeLine_eq;refine⟨q,_,2,rfl,hq,?_⟩;rw [show(decide (1<=(((x1::x2::D).map V.int).length:Int) - 2) && decide ((((x1::x2::D).map V.int).length:Int) - 2<=12))=true by simp;omega];tm_at "r";refine cG hq λq1 hq1=>?_;rw [show(some (2:Int))=some ((2:Nat):Int)from rfl,fq];have s1:au H (upd H q1 (.lst ((((x1::x2::D).map V.int)).take 2))):=aq hq1;refine⟨q1,[x1,x2],nv,rfl,aJ.of ae,by simp,λH1 s2=>?_⟩;rw [show([x1,x2].all λn=>decide (1<=n) && decide (n<=nv))=true by simp;omega];tm_at "r";refine rk _ _ ?_;tm_at "r";have s3:=s1.trans s2;have hq3:=s3.seq hq;refine bq hq3 (bH rfl) (bq hq3 (show fR _ ((1:Nat):Int)=_ from aK rfl) (cG hq3 λq2 hq2=>?_));rw [show(some (2:Int))=some ((2:Nat):Int)from rfl,cy];show ∀x dx:Addr,_;intro x dx hx hdx hne;have s4:au H (upd H1 q2 (.lst (((x1::x2::D).map V.int).drop 2))):=s3.upd hq2;have hq2':(upd H1 q2 (.lst (((x1::x2::D).map V.int).drop 2))) q2=some (.lst (D.map V.int)):=ae;generalize upd H1 q2 (.lst (((x1::x2::D).map V.int).drop 2))=H2 at s4 hx hdx hq2';have s5:au H (upd (upd H2 dx (.own x)) x (.ins C dx [])):=(s4.upd hdx).upd (by rw [aj (Ne.symm hne)];exact hx)
 have hq5:(upd (upd H2 dx (.own x)) x (.ins C dx [])) q2=some (.lst (D.map V.int)):=by
  rw [aj (ao hq2' hx),aj (ao hq2' hdx)];exact hq2'
 refine⟨x,dx,q2,row,x1,x2,D,rfl,ae,aJ.of hq5,(),λn H3 hn e=>⟨rfl,?_⟩⟩;subst e
 have nx:n≠x:=λz=>by subst z;rw [ae]at hn;cases hn
 refine k x _ ?_ ⟨dx,n,ae,by rw [aj nx,ae]⟩;intro c o hc;have n1:c≠x:=ao (s4 _ _ hc) hx;rw [aj n1,aj (ao (s5 _ _ hc) hn)];exact s5 _ _ hc
theorem oJ(F:b0 K "after" "Alike.after" gK f fd)(T:Txt mg aM)(TC:kC K C)(ha:1<=x1/\x1<=nv)(hb:1<=x2/\x2<=nv)(D_move: ~~~cB "move" 2 ["before","column","voice"] (lM K))(D_span: ~~~cB "span" 2 ["column","first","second"] (pK K)): ~~~aL bU 3 f fd ["self","memory","before","column"] (bA K nv (gw C row x1 x2 D) (eO x1 x2 D) λ_=>True):=by
 refine F.ok sc_Alike_after λ_ A _ s H vs Q E hr h=>?_;obtain⟨r,m,x,c,bb,us,rfl,⟨dx,n,hr1,hn⟩,_,hbv,hc,hu,k⟩:=h
 refine⟨rfl,_,(ag (aP (PW.pt (da (ba (ay eL (pr 2) aZ (az _))) (cR (ba (ay gJ (aA D_move hr ⋯ (aa (pr 2) (aa (pr 3) (aa (aV (pr 0) rfl) ah)))) af (az _)))))) (ai (av (pr 1))) aB)
 (ag (cU (i:=4) sc_Alike_after.nd (aA D_span hr ⋯ (aa (pr 3) (aa (aV (pr 0) rfl) (aa (aV (pr 0) rfl) ah)))))
 (ai (av (c8 (PW.pt (j8 (ba (ay gJ (pr 4) (aA D_span hr ⋯ (aa (pr 2) (aa (aV (pr 0) rfl) (aa (aV (pr 0) rfl) ah)))) (az _))) (jH (ba (ay (lu K) (pr 4) (aV (pr 0) rfl) (by with_unfolding_all rfl)))))) aZ (pr 1)))))),?_⟩
 refine cf λA0 B0 hA hB=>?_;tm_at "r"
 have l1:(dQ row x1 x2 n).lookup (Str.ofString "first")=⇑x1:=by unfold dQ;tm_at "f"
 have l2:(dQ row x1 x2 n).lookup (Str.ofString "second")=⇑x2:=by unfold dQ;tm_at "f"
 have l3:(dQ row x1 x2 n).lookup (Str.ofString "numbers")=↑n:=by unfold dQ;tm_at "f"
 rcases hbv with⟨rfl,rfl⟩ | ⟨a,bs,rfl,rfl,hba,hbl⟩
 ·rw [if_pos rfl]
  exact hA _ k
 rw [if_neg (λz=>by cases z)];have a1:=ha.1;have a2:=ha.2;have b1:=hb.1;have b2:=hb.2;refine⟨C,dx,_,hr1,TC.cl,TC.n2,_,l1,a,c,x1,bs,us,rfl,hba,hc,a1,(),(),?_⟩;tm_at "r";simp only [eO]at k
 by_cases h0:aE us x1 - aE bs x1=0
 ·rw [if_pos h0]
  rw [if_pos h0]at k;exact hA _ k
 rw [if_neg h0];rw [if_neg h0]at k;refine hB _ (iL λRk rk=>?_);tm_at "r";refine⟨C,dx,_,hr1,TC.cl,TC.n2,_,l1,C,dx,_,hr1,TC.cl,TC.n3,_,l2,c,x1,x2,us,rfl,hc,a1,(),b1,(),rk _ _ ?_⟩;tm_at "r";refine⟨C,dx,_,hr1,TC.cl,TC.n2,_,l1,C,dx,_,hr1,TC.cl,TC.n3,_,l2,a,x1,x2,bs,rfl,hba,a1,(),b1,(),?_⟩;tm_at "r"
 by_cases h1:aE us x2 - aE us x1=aE bs x2 - aE bs x1
 ·rw [if_pos h1]
  refine⟨C,dx,_,hr1,TC.cl,TC.n4,_,l3,gk (aJ.of hn) ⟨_,rfl,?_⟩⟩
  by_cases h:aE us x2 - aE us x1∈D
  ·rw [if_pos (decide_eq_true h)]
   rw [if_pos ⟨h1,h⟩]at k;exact k
  ·rw [if_neg (by rw [decide_eq_false h];exact aa6)]
   rw [if_neg (λz=>h z.2)]at k;exact k
 ·rw [if_neg h1]
  rw [if_neg (λz=>h1 z.1)]at k;exact k
theorem xQ(TC:kC K C)(h1: ~~~aF C "size" 7 ["self"] (cH 1 λ_=>.int 1))(h2: ~~~aF C "start" 7 ["self"] (cH 1 λ_=>.int 0))(h3: ~~~aF C "closes" 7 ["self","memory","last"] (cH 3 λ_=>.bl true))
  (h4: ~~~aF C "after" 7 ["self","memory","before","column"] (bA K nv (gw C row x1 x2 D) (eO x1 x2 D) λ_=>True)): ~~~br 7 nv C (eO x1 x2 D) (gw C row x1 x2 D) (λ_=>True):=by
 refine⟨λr H H' s h=>?_,λr H h=>?_,trivial,λ_ _ _ _ _ _=>trivial,h1.imp ?_,h2.imp ?_,h4,h3.imp ?_⟩
 ·obtain⟨dx,n,e1,e2⟩:=h
  exact⟨dx,n,s _ _ e1,s _ _ e2⟩
 ·obtain⟨dx,n,e1,e2⟩:=h
  refine⟨dx,_,e1,?_,?_,?_,?_,?_⟩<;>(unfold dQ;tm_at "f")
 ·rintro vs H Q E ⟨r,rfl,_,q⟩
  exact⟨rfl,q⟩
 ·rintro vs H Q E ⟨r,rfl,_,q⟩
  exact⟨rfl,q⟩
 ·rintro vs H Q E ⟨r,m,x,b,rfl,_,_,_,q⟩
  exact⟨rfl,q⟩
theorem p6(F:b0 K "__init__" "Begin.__init__" e7 f fd)(T:Txt mg aM)(TC:kD K C)(DC_Rule___init__: ~~~iP "Rule" "__init__" 1 ["self","row"] (cq K)): ~~~aL bU 2 f fd ["self","row","voice","notes"] (mW K C):=by
 refine F.ok lE λ_ A _ s H vs Q E hr h=>?_;obtain⟨x,dx,q,row,x1,D,rfl,hx,hq,hl,k⟩:=h
 refine⟨rfl,_,(ag (bG (dG DC_Rule___init__ hr ⋯ (aa (pr 0) (aa (pr 1) ah))))
 (ag (bI (pr 0) (pr 2) rfl)
 (ai (bI (pr 0) (bf (di K) ⋯ T.n_list boot_list (aa (pr 3) ah)) rfl)))),?_⟩
 refine iL λRk rk=>?_;tm_at "r";have ln:∀(f:Str) (v:V) (l:List (Str×V)) (n:Nat),l.length<=n->(bu f v l).length<=n+1:=λf v l n h=>ab6 (bC f v l) (ae0 h);refine⟨x,C,dx,[],row,rfl,hx,TC.cl,TC.n1,∅,rk _ _ ?_⟩;tm_at "r";refine⟨C,dx,_,ae,TC.cl,TC.n2,aa7 (ln _ _ _ _ (ac2 0)) ∅,D.map V.int,.inl ((hq.at_ins hx).at_ins ae),λn hn=>?_⟩
 have nx:n≠x:=λe=>by subst e;rw [ae]at hn;cases hn
 rw [aj nx,aj nx]at hn;refine⟨C,dx,_,by rw [aj (Ne.symm nx),ae],TC.cl,TC.n3,aa7 (ln _ _ _ _ (ln _ _ _ _ (ac2 0))) ∅,?_⟩;refine k n _ hn ?_;rw [bS,fE];rfl
theorem uo(F:b0 K "begin_of" "begin_of" ka f fd)(T:Txt mg aM)(D_has_list: ~~~cB "has_list" 3 ["numbers","ahead"] (eE K))(D_are_voices: ~~~cB "are_voices" 3 ["numbers","voices"] (ck K))(DM_Begin: ~~~iQ "Begin" C 2 ["self","row","voice","notes"] (mW K C)): ~~~aL bU 4 f fd ["row","numbers","voices"] (mH K C):=by
 refine F.ok uL λ_ A _ s H vs Q E hr h=>?_;obtain⟨q,row,x1,D,nv,rfl,hq,x1_1,x1_2,l1,l2,k⟩:=h
 refine⟨rfl,_,(ag (aP (PW.pt (da (cJ (bo (aA D_has_list hr ⋯ (aa (pr 1) (aa af ah))) (λ_=>rfl))) (cR (cJ (bo (aA D_are_voices hr ⋯ (aa (bt (fB K) (pr 1) bJ (fw af)) (aa (pr 2) ah))) (λ_=>rfl)))))) (ai (av aZ)) aB)
 (ai (av (iJ DM_Begin hr ⋯ (aa (pr 0) (aa (aw (aC K) (pr 1) af (λ_ _=>rfl)) (aa (bt (fB K) (pr 1) (fw af) bJ) ah))))))),?_⟩
 refine iL λRk rk=>?_;tm_at "r";have hs:=sizeLine_eq;refine⟨q,_,1,rfl,hq,?_⟩;rw [show(decide (1<=(((x1::D).map V.int).length:Int) - 1) && decide ((((x1::D).map V.int).length:Int) - 1<=12))=true by simp;omega];tm_at "r";refine cG hq λq1 hq1=>?_;rw [show(some (1:Int))=some ((1:Nat):Int)from rfl,fq];have s1:au H (upd H q1 (.lst ((((x1::D).map V.int)).take 1))):=aq hq1;refine⟨q1,[x1],nv,rfl,aJ.of ae,by simp,λH1 s2=>?_⟩;rw [show([x1].all λn=>decide (1<=n) && decide (n<=nv))=true by simp;omega];tm_at "r";refine rk _ _ ?_;tm_at "r";have s3:=s1.trans s2;have hq3:=s3.seq hq;refine bq hq3 (bH rfl) (cG hq3 λq2 hq2=>?_);rw [show(some (1:Int))=some ((1:Nat):Int)from rfl,cy];show ∀x dx:Addr,_;intro x dx hx hdx hne;have s4:au H (upd H1 q2 (.lst (((x1::D).map V.int).drop 1))):=s3.upd hq2;have hq2':(upd H1 q2 (.lst (((x1::D).map V.int).drop 1))) q2=some (.lst (D.map V.int)):=ae;generalize upd H1 q2 (.lst (((x1::D).map V.int).drop 1))=H2 at s4 hx hdx hq2';have s5:au H (upd (upd H2 dx (.own x)) x (.ins C dx [])):=(s4.upd hdx).upd (by rw [aj (Ne.symm hne)];exact hx)
 have hq5:(upd (upd H2 dx (.own x)) x (.ins C dx [])) q2=some (.lst (D.map V.int)):=by
  rw [aj (ao hq2' hx),aj (ao hq2' hdx)];exact hq2'
 refine⟨x,dx,q2,row,x1,D,rfl,ae,aJ.of hq5,(),λn H3 hn e=>⟨rfl,?_⟩⟩;subst e
 have nx:n≠x:=λz=>by subst z;rw [ae]at hn;cases hn
 refine k x _ ?_ ⟨dx,n,ae,by rw [aj nx,ae]⟩;intro c o hc;have n1:c≠x:=ao (s4 _ _ hc) hx;rw [aj n1,aj (ao (s5 _ _ hc) hn)];exact s5 _ _ hc
theorem oM(F:b0 K "after" "Begin.after" gM f fd)(T:Txt mg aM)(TC:kD K C)(ha:1<=x1/\x1<=nv)(D_note_in: ~~~cB "note_in" 2 ["column","voice"] (fC K)): ~~~aL bU 3 f fd ["self","memory","before","column"] (bA K nv (gx C row x1 D) (ee x1 D) λ_=>True):=by
 refine F.ok pd λ_ A _ s H vs Q E hr h=>?_;obtain⟨r,m,x,c,bb,us,rfl,⟨dx,n,hr1,hn⟩,_,hbv,hc,hu,k⟩:=h;refine⟨rfl,_,(ai (av (c8 (PW.pt (da (ba (ay xf (pr 2) aZ (az _))) (cR (ba (ay (lu K) (aA D_note_in hr ⋯ (aa (pr 3) (aa (aV (pr 0) rfl) ah))) (aV (pr 0) rfl) (by with_unfolding_all rfl)))))) (pr 1) aZ))),?_⟩;tm_at "r"
 have l1:(eV row x1 n).lookup (Str.ofString "voice")=⇑x1:=by unfold eV;tm_at "f"
 have l2:(eV row x1 n).lookup (Str.ofString "notes")=↑n:=by unfold eV;tm_at "f"
 rcases hbv with⟨rfl,rfl⟩ | ⟨a,bs,rfl,rfl,hba,hbl⟩
 ·rw [if_pos rfl]
  refine⟨C,dx,_,hr1,TC.cl,TC.n2,_,l1,c,x1,us,rfl,hc,ha.1,by rw [hu];exact ha.2,C,dx,_,hr1,TC.cl,TC.n3,_,l2,gk (aJ.of hn) ⟨_,rfl,?_⟩⟩;simp only [ee]at k
  by_cases h:aE us x1∈D
  ·rw [if_pos (decide_eq_true h)]
   rw [if_pos h]at k;exact k
  ·rw [if_neg (by rw [decide_eq_false h];exact aa6)]
   rw [if_neg h]at k;exact k
 ·rw [if_neg (by simp)]
  exact k
theorem xR(TC:kD K C)(h1: ~~~aF C "size" 7 ["self"] (cH 1 λ_=>.int 1))(h2: ~~~aF C "start" 7 ["self"] (cH 1 λ_=>.int 0))(h3: ~~~aF C "closes" 7 ["self","memory","last"] (cH 3 λ_=>.bl true))
  (h4: ~~~aF C "after" 7 ["self","memory","before","column"] (bA K nv (gx C row x1 D) (ee x1 D) λ_=>True)): ~~~br 7 nv C (ee x1 D) (gx C row x1 D) (λ_=>True):=by
 refine⟨λr H H' s h=>?_,λr H h=>?_,trivial,λ_ _ _ _ _ _=>trivial,h1.imp ?_,h2.imp ?_,h4,h3.imp ?_⟩
 ·obtain⟨dx,n,e1,e2⟩:=h
  exact⟨dx,n,s _ _ e1,s _ _ e2⟩
 ·obtain⟨dx,n,e1,e2⟩:=h
  refine⟨dx,_,e1,?_,?_,?_,?_,?_⟩<;>(unfold eV;tm_at "f")
 ·rintro vs H Q E ⟨r,rfl,_,q⟩
  exact⟨rfl,q⟩
 ·rintro vs H Q E ⟨r,rfl,_,q⟩
  exact⟨rfl,q⟩
 ·rintro vs H Q E ⟨r,m,x,b,rfl,_,_,_,q⟩
  exact⟨rfl,q⟩
theorem p8(F:b0 K "__init__" "Close.__init__" fb f fd)(T:Txt mg aM)(TC:kF K C)(DC_Rule___init__: ~~~iP "Rule" "__init__" 1 ["self","row"] (cq K)): ~~~aL bU 2 f fd ["self","row","voice","notes"] (mY K C):=by
 refine F.ok lG λ_ A _ s H vs Q E hr h=>?_;obtain⟨x,dx,q,row,x1,D,rfl,hx,hq,hl,k⟩:=h
 refine⟨rfl,_,(ag (bG (dG DC_Rule___init__ hr ⋯ (aa (pr 0) (aa (pr 1) ah))))
 (ag (bI (pr 0) (pr 2) rfl)
 (ai (bI (pr 0) (bf (di K) ⋯ T.n_list boot_list (aa (pr 3) ah)) rfl)))),?_⟩
 refine iL λRk rk=>?_;tm_at "r";have ln:∀(f:Str) (v:V) (l:List (Str×V)) (n:Nat),l.length<=n->(bu f v l).length<=n+1:=λf v l n h=>ab6 (bC f v l) (ae0 h);refine⟨x,C,dx,[],row,rfl,hx,TC.cl,TC.n1,∅,rk _ _ ?_⟩;tm_at "r";refine⟨C,dx,_,ae,TC.cl,TC.n2,aa7 (ln _ _ _ _ (ac2 0)) ∅,D.map V.int,.inl ((hq.at_ins hx).at_ins ae),λn hn=>?_⟩
 have nx:n≠x:=λe=>by subst e;rw [ae]at hn;cases hn
 rw [aj nx,aj nx]at hn;refine⟨C,dx,_,by rw [aj (Ne.symm nx),ae],TC.cl,TC.n3,aa7 (ln _ _ _ _ (ln _ _ _ _ (ac2 0))) ∅,?_⟩;refine k n _ hn ?_;rw [bS,fE];rfl
theorem ur(F:b0 K "close_of" "close_of" kg f fd)(T:Txt mg aM)(D_has_list: ~~~cB "has_list" 3 ["numbers","ahead"] (eE K))(D_are_voices: ~~~cB "are_voices" 3 ["numbers","voices"] (ck K))(DM_Close: ~~~iQ "Close" C 2 ["self","row","voice","notes"] (mY K C)): ~~~aL bU 4 f fd ["row","numbers","voices"] (mJ K C):=by
 refine F.ok uN λ_ A _ s H vs Q E hr h=>?_;obtain⟨q,row,x1,D,nv,rfl,hq,x1_1,x1_2,l1,l2,k⟩:=h
 refine⟨rfl,_,(ag (aP (PW.pt (da (cJ (bo (aA D_has_list hr ⋯ (aa (pr 1) (aa af ah))) (λ_=>rfl))) (cR (cJ (bo (aA D_are_voices hr ⋯ (aa (bt (fB K) (pr 1) bJ (fw af)) (aa (pr 2) ah))) (λ_=>rfl)))))) (ai (av aZ)) aB)
 (ai (av (iJ DM_Close hr ⋯ (aa (pr 0) (aa (aw (aC K) (pr 1) af (λ_ _=>rfl)) (aa (bt (fB K) (pr 1) (fw af) bJ) ah))))))),?_⟩
 refine iL λRk rk=>?_;tm_at "r";have hs:=sizeLine_eq;refine⟨q,_,1,rfl,hq,?_⟩;rw [show(decide (1<=(((x1::D).map V.int).length:Int) - 1) && decide ((((x1::D).map V.int).length:Int) - 1<=12))=true by simp;omega];tm_at "r";refine cG hq λq1 hq1=>?_;rw [show(some (1:Int))=some ((1:Nat):Int)from rfl,fq];have s1:au H (upd H q1 (.lst ((((x1::D).map V.int)).take 1))):=aq hq1;refine⟨q1,[x1],nv,rfl,aJ.of ae,by simp,λH1 s2=>?_⟩;rw [show([x1].all λn=>decide (1<=n) && decide (n<=nv))=true by simp;omega];tm_at "r";refine rk _ _ ?_;tm_at "r";have s3:=s1.trans s2;have hq3:=s3.seq hq;refine bq hq3 (bH rfl) (cG hq3 λq2 hq2=>?_);rw [show(some (1:Int))=some ((1:Nat):Int)from rfl,cy];show ∀x dx:Addr,_;intro x dx hx hdx hne;have s4:au H (upd H1 q2 (.lst (((x1::D).map V.int).drop 1))):=s3.upd hq2;have hq2':(upd H1 q2 (.lst (((x1::D).map V.int).drop 1))) q2=some (.lst (D.map V.int)):=ae;generalize upd H1 q2 (.lst (((x1::D).map V.int).drop 1))=H2 at s4 hx hdx hq2';have s5:au H (upd (upd H2 dx (.own x)) x (.ins C dx [])):=(s4.upd hdx).upd (by rw [aj (Ne.symm hne)];exact hx)
 have hq5:(upd (upd H2 dx (.own x)) x (.ins C dx [])) q2=some (.lst (D.map V.int)):=by
  rw [aj (ao hq2' hx),aj (ao hq2' hdx)];exact hq2'
 refine⟨x,dx,q2,row,x1,D,rfl,ae,aJ.of hq5,(),λn H3 hn e=>⟨rfl,?_⟩⟩;subst e
 have nx:n≠x:=λz=>by subst z;rw [ae]at hn;cases hn
 refine k x _ ?_ ⟨dx,n,ae,by rw [aj nx,ae]⟩;intro c o hc;have n1:c≠x:=ao (s4 _ _ hc) hx;rw [aj n1,aj (ao (s5 _ _ hc) hn)];exact s5 _ _ hc
theorem ng(F:b0 K "closes" "Close.closes" gm f fd)(T:Txt mg aM)(TC:kF K C)(ha:1<=x1/\x1<=nv)(D_note_in: ~~~cB "note_in" 2 ["column","voice"] (fC K)): ~~~aL bU 3 f fd ["self","memory","last"] (eh K nv (gz C row x1 D) (eP x1 D) λ_=>True):=by
 refine F.ok nu λ_ A _ s H vs Q E hr h=>?_;obtain⟨r,m,x,bb,rfl,⟨dx,n,hr1,hn⟩,_,hbv,k⟩:=h;refine⟨rfl,_,(ai (av (DY (DZ (bc eL (pr 2) aZ (az _)) (fG (bc (lu K) (aA D_note_in hr ⋯ (aa (pr 2) (aa (aV (pr 0) rfl) ah))) (aV (pr 0) rfl) (by with_unfolding_all rfl))))))),?_⟩;tm_at "r"
 have l1:(eX row x1 n).lookup (Str.ofString "voice")=⇑x1:=by unfold eX;tm_at "f"
 have l2:(eX row x1 n).lookup (Str.ofString "notes")=↑n:=by unfold eX;tm_at "f"
 rcases hbv with⟨rfl,rfl⟩ | ⟨a,bs,rfl,rfl,hba,hbl⟩
 ·rw [if_pos rfl]
  exact k
 ·rw [if_neg (by simp)]
  refine⟨C,dx,_,hr1,TC.cl,TC.n2,_,l1,a,x1,bs,rfl,hba,ha.1,by rw [hbl];exact ha.2,C,dx,_,hr1,TC.cl,TC.n3,_,l2,gk (aJ.of hn) ?_⟩;exact k
theorem x8(TC:kF K C)(h1: ~~~aF C "size" 7 ["self"] (cH 1 λ_=>.int 1))(h2: ~~~aF C "start" 7 ["self"] (cH 1 λ_=>.int 0))(h3: ~~~aF C "after" 7 ["self","memory","before","column"] (cH 4 DV))
  (h4: ~~~aF C "closes" 7 ["self","memory","last"] (eh K nv (gz C row x1 D) (eP x1 D) λ_=>True)): ~~~br 7 nv C (eP x1 D) (gz C row x1 D) (λ_=>True):=by
 refine⟨λr H H' s h=>?_,λr H h=>?_,trivial,λ_ _ _ _ _ _=>trivial,h1.imp ?_,h2.imp ?_,h3.imp ?_,h4⟩
 ·obtain⟨dx,n,e1,e2⟩:=h
  exact⟨dx,n,s _ _ e1,s _ _ e2⟩
 ·obtain⟨dx,n,e1,e2⟩:=h
  refine⟨dx,_,e1,?_,?_,?_,?_,?_⟩<;>(unfold eX;tm_at "f")
 ·rintro vs H Q E ⟨r,rfl,_,q⟩
  exact⟨rfl,q⟩
 ·rintro vs H Q E ⟨r,rfl,_,q⟩
  exact⟨rfl,q⟩
 ·rintro vs H Q E ⟨r,m,x,c,b,us,rfl,_,_,_,_,_,q⟩
  exact⟨rfl,q⟩
theorem sF(F:b0 K "__init__" "Back.__init__" fH f fd)(T:Txt mg aM)(TC:nA K C)(DC_Rule___init__: ~~~iP "Rule" "__init__" 1 ["self","row"] (cq K)): ~~~aL bU 2 f fd ["self","row","voice","widest"] (pw K C):=by
 refine F.ok mz λ_ A _ s H vs Q E hr h=>?_;obtain⟨x,dx,row,x1,x2,rfl,hx,k⟩:=h
 refine⟨rfl,_,(ag (bG (dG DC_Rule___init__ hr ⋯ (aa (pr 0) (aa (pr 1) ah))))
 (ag (bI (pr 0) (pr 2) rfl)
 (ai (bI (pr 0) (pr 3) rfl)))),?_⟩
 refine iL λRk rk=>?_;tm_at "r";have ln:∀(f:Str) (v:V) (l:List (Str×V)) (n:Nat),l.length<=n->(bu f v l).length<=n+1:=λf v l n h=>ab6 (bC f v l) (ae0 h);refine⟨x,C,dx,[],row,rfl,hx,TC.cl,TC.n1,∅,rk _ _ ?_⟩;tm_at "r";refine⟨C,dx,_,ae,TC.cl,TC.n2,aa7 (ln _ _ _ _ (ac2 0)) ∅,C,dx,_,ae,TC.cl,TC.n3,aa7 (ln _ _ _ _ (ln _ _ _ _ (ac2 0))) ∅,?_⟩;rw [bS,bS];exact k
theorem vC(F:b0 K "back_of" "back_of" mn f fd)(T:Txt mg aM)(D_are_voices: ~~~cB "are_voices" 3 ["numbers","voices"] (ck K))(DM_Back: ~~~iQ "Back" C 2 ["self","row","voice","widest"] (pw K C)): ~~~aL bU 4 f fd ["row","numbers","voices"] (pz K C):=by
 refine F.ok vW λ_ A _ s H vs Q E hr h=>?_;obtain⟨q,row,x1,x2,nv,rfl,hq,b1,b2,b3,k⟩:=h
 refine⟨rfl,_,(ag (aP (PW.pt (da (ba (ay CG (aD (aG K) ⋯ T.n_len boot_len (aa (pr 1) ah)) af (az _))) (da (cJ (bo (aA D_are_voices hr ⋯ (aa (bt (fB K) (pr 1) bJ (fw af)) (aa (pr 2) ah))) (λ_=>rfl))) (cR (ba (ay (o0 j6) (aw (aC K) (pr 1) af (λ_ _=>rfl)) af (az _))))))) (ai (av aZ)) aB)
 (ai (av (iJ DM_Back hr ⋯ (aa (pr 0) (aa (aw (aC K) (pr 1) af (λ_ _=>rfl)) (aa (aw (aC K) (pr 1) af (λ_ _=>rfl)) ah))))))),?_⟩
 refine iL λRk rk=>?_;tm_at "r";have hs:=sizeLine_eq;refine⟨_,.inl hq,?_⟩;tm_at "r";rw [if_pos (show(((0:Nat)+1+1:Nat):Int)=2 from rfl)];refine cG hq λq1 hq1=>?_;rw [show(some (1:Int))=some ((1:Nat):Int)from rfl,fq];have s1:au H (upd H q1 (.lst (([x1,x2].map V.int).take 1))):=aq hq1;refine⟨q1,[x1],nv,rfl,aJ.of ae,by simp,λH1 s2=>?_⟩;rw [show([x1].all λn=>decide (1<=n) && decide (n<=nv))=true by simp;omega];tm_at "r";have s3:=s1.trans s2;have hq3:=s3.seq hq;refine bq hq3 (show fR _ ((1:Nat):Int)=_ from aK rfl) ?_;tm_at "r";rw [if_neg (show ¬(x2 < 0)by omega)];refine rk _ _ ?_;tm_at "r";refine bq hq3 (bH rfl) (bq hq3 (show fR _ ((1:Nat):Int)=_ from aK rfl) ?_);show ∀x dx:Addr,_;intro x dx hx hdx hne;have s5:au H (upd (upd H1 dx (.own x)) x (.ins C dx [])):=(s3.upd hdx).upd (by rw [aj (Ne.symm hne)];exact hx);refine⟨x,dx,row,x1,x2,rfl,ae,rfl,?_⟩;refine k x _ ?_ ⟨dx,ae⟩;intro c o hc;rw [aj (ao (s3 _ _ hc) hx)];exact s5 _ _ hc
theorem sG(F:b0 K "size" "Back.size" jg f fd): ~~~aL bU 1 f fd ["self"] (cH 1 λ_=>.int 3):=by
 refine F.ok tp λ_ A _ s H vs Q E hr h=>?_;obtain⟨hl,k⟩:=h;obtain⟨a,rfl⟩:=Fv hl;refine⟨rfl,_,(ai (av af)),?_⟩;tm_at "r";exact k
theorem pZ(F:b0 K "start" "Back.start" ij f fd)(T:Txt mg aM): ~~~aL bU 1 f fd ["self"] (cH 1 λ_=>.int 0):=by
 refine F.ok qB λ_ A _ s H vs Q E hr h=>?_;obtain⟨hl,k⟩:=h;obtain⟨a,rfl⟩:=Fv hl;refine⟨rfl,_,(ai (av (ia T.g_NO_LEAP))),?_⟩;tm_at "r";exact k
def kX(m:Int):Prop:=0<=m/\m<=2
theorem oK(F:b0 K "closes" "Back.closes" gL f fd)(T:Txt mg aM): ~~~aL bU 1 f fd ["self","memory","last"] (eh K nv (fZ C row x1 x2) (dy x1 x2) kX):=by
 refine F.ok oZ λ_ A _ s H vs Q E hr h=>?_;obtain⟨r,m,x,bb,rfl,_,_,_,k⟩:=h;refine⟨rfl,_,(ai (av (bc gJ (pr 1) (ia T.g_NO_LEAP) (az _)))),?_⟩;tm_at "r";exact k
theorem pY(F:b0 K "after" "Back.after" ig f fd)(T:Txt mg aM)(TC:nA K C)(ha:1<=x1/\x1<=nv)(D_move: ~~~cB "move" 2 ["before","column","voice"] (lM K)): ~~~aL bU 3 f fd ["self","memory","before","column"] (bA K nv (fZ C row x1 x2) (dy x1 x2) kX):=by
 refine F.ok sc_Back_after λ_ A _ s H vs Q E hr h=>?_;obtain⟨r,m,x,c,bb,us,rfl,⟨dx,hr1⟩,_,hbv,hc,hu,k⟩:=h
 refine⟨rfl,_,(ag (aP (ba (ay eL (pr 2) aZ (az _))) (ai (av (ia T.g_NO_LEAP))) aB)
 (ag (cU (i:=4) sc_Back_after.nd (aA D_move hr ⋯ (aa (pr 2) (aa (pr 3) (aa (aV (pr 0) rfl) ah)))))
 (ag (aP (PW.pt (da (PW.pt (j8 (ba (ay gJ (pr 1) (ia T.g_LEAP_UP) (az _))) (jH (ba (ay (o0 xc) (pr 4) af (az _)))))) (cR (PW.pt (j8 (ba (ay gJ (pr 1) (ia T.g_LEAP_DOWN) (az _))) (jH (ba (ay (o0 i8) (pr 4) af (az _))))))))) (ai (av aZ)) aB)
 (ag (aP (ba (ay (o0 i7) (pr 4) (aV (pr 0) rfl) (az _))) (ai (av (ia T.g_LEAP_UP))) aB)
 (ai (av (c8 (ba (ay (o0 j6) (pr 4) (ar (o0 bD) af (aV (pr 0) rfl)) (az _))) (ia T.g_LEAP_DOWN) (ia T.g_NO_LEAP)))))))),?_⟩
 have l1:(gc row x1 x2).lookup (Str.ofString "voice")=⇑x1:=by unfold gc;tm_at "f"
 have l2:(gc row x1 x2).lookup (Str.ofString "widest")=⇑x2:=by unfold gc;tm_at "f"
 refine cf λA0 B0 hA0 hB0=>?_;tm_at "r";rcases hbv with⟨rfl,rfl⟩ | ⟨a,bs,rfl,rfl,hba,hbl⟩
 ·rw [if_pos rfl]
  exact hA0 _ k
 rw [if_neg (λz=>by cases z)];refine hB0 _ (iL λk1 hk1=>?_);tm_at "r";refine⟨C,dx,_,hr1,TC.cl,TC.n2,_,l1,a,c,x1,bs,us,rfl,hba,hc,ha.1,by rw [hbl];exact ha.2,by rw [hu];exact ha.2,?_⟩;simp only [dy]at k;generalize aE us x1 - aE bs x1=stp at k |-;refine hk1 _ _ (cf λA1 B1 hA1 hB1=>?_);tm_at "r"
 by_cases hB:(m=1/\0<=stp)\/(m=2/\stp<=0)
 ·rw [if_pos hB]at k
  rcases hB with⟨h1,h2⟩ | ⟨h1,h2⟩
  ·rw [if_pos h1,if_pos h2]
   exact hA1 _ k
  ·rw [if_neg (show ¬(m=1)by omega),if_pos h1,if_pos h2]
   exact hA1 _ k
 rw [if_neg hB]at k
 have hb1:B1 H:=by
  refine hB1 _ (cf λA2 B2 hA2 hB2=>?_);tm_at "r";refine⟨C,dx,_,hr1,TC.cl,TC.n3,_,l2,_,rfl,?_⟩
  by_cases h3:x2 < stp
  ·rw [if_pos h3]
   rw [if_pos (show stp > x2 from h3)]at k;exact hA2 _ k
  rw [if_neg h3];rw [if_neg (show ¬(stp > x2)from h3)]at k;refine hB2 _ ?_;tm_at "r";refine⟨C,dx,_,hr1,TC.cl,TC.n3,_,l2,_,rfl,?_⟩
  by_cases h4:stp < 0 - x2
  ·rw [if_pos h4]
   rw [if_pos h4]at k;exact k
  ·rw [if_neg h4]
   rw [if_neg h4]at k;exact k
 by_cases h1:m=1
 ·rw [if_pos h1,if_neg (λz=>hB (.inl ⟨h1,z⟩)),if_neg (show ¬(m=2)by omega)]
  exact hb1
 rw [if_neg h1]
 by_cases h2:m=2
 ·rw [if_pos h2,if_neg (λz=>hB (.inr ⟨h2,z⟩))]
  exact hb1
 rw [if_neg h2];exact hb1
theorem zo(TC:nA K C)(h1: ~~~aF C "size" 7 ["self"] (cH 1 λ_=>.int 3))(h2: ~~~aF C "start" 7 ["self"] (cH 1 λ_=>.int 0))(h3: ~~~aF C "closes" 7 ["self","memory","last"] (eh K nv (fZ C row x1 x2) (dy x1 x2) kX))
  (h4: ~~~aF C "after" 7 ["self","memory","before","column"] (bA K nv (fZ C row x1 x2) (dy x1 x2) kX)): ~~~br 7 nv C (dy x1 x2) (fZ C row x1 x2) kX:=by
 refine⟨λr H H' s h=>?_,λr H h=>?_,⟨show(0:Int)<=0 by decide,show(0:Int)<=2 by decide⟩,λm b us m' _ e=>?_,h1.imp ?_,h2.imp ?_,h4,h3⟩
 ·obtain⟨dx,e1⟩:=h
  exact⟨dx,s _ _ e1⟩
 ·obtain⟨dx,e1⟩:=h
  refine⟨dx,_,e1,?_,?_,?_,?_,?_⟩<;>(unfold gc;tm_at "f")
 ·simp only [dy]at e
  cases b with
  | none=>cases e;exact⟨∅,∅⟩
  | some bs=>
   simp only at e
   split at e
   ·cases e
   split at e
   ·cases e;exact⟨∅,∅⟩
   split at e
   ·cases e;exact⟨∅,∅⟩
   ·cases e;exact⟨∅,∅⟩
 ·rintro vs H Q E ⟨r,rfl,_,q⟩
  exact⟨rfl,q⟩
 ·rintro vs H Q E ⟨r,rfl,_,q⟩
  exact⟨rfl,q⟩
theorem sH(F:b0 K "__init__" "Held.__init__" fJ f fd)(T:Txt mg aM)(TC:kG K C)(DC_Rule___init__: ~~~iP "Rule" "__init__" 1 ["self","row"] (cq K)): ~~~aL bU 2 f fd ["self","row","voice","most"] (pA K C):=by
 refine F.ok mB λ_ A _ s H vs Q E hr h=>?_;obtain⟨x,dx,row,x1,x2,rfl,hx,k⟩:=h
 refine⟨rfl,_,(ag (bG (dG DC_Rule___init__ hr ⋯ (aa (pr 0) (aa (pr 1) ah))))
 (ag (bI (pr 0) (pr 2) rfl)
 (ai (bI (pr 0) (pr 3) rfl)))),?_⟩
 refine iL λRk rk=>?_;tm_at "r";have ln:∀(f:Str) (v:V) (l:List (Str×V)) (n:Nat),l.length<=n->(bu f v l).length<=n+1:=λf v l n h=>ab6 (bC f v l) (ae0 h);refine⟨x,C,dx,[],row,rfl,hx,TC.cl,TC.n1,∅,rk _ _ ?_⟩;tm_at "r";refine⟨C,dx,_,ae,TC.cl,TC.n2,aa7 (ln _ _ _ _ (ac2 0)) ∅,C,dx,_,ae,TC.cl,TC.n3,aa7 (ln _ _ _ _ (ln _ _ _ _ (ac2 0))) ∅,?_⟩;rw [bS,bS];exact k
theorem vE(F:b0 K "held_of" "held_of" mr f fd)(T:Txt mg aM)(D_are_voices: ~~~cB "are_voices" 3 ["numbers","voices"] (ck K))(DM_Held: ~~~iQ "Held" C 2 ["self","row","voice","most"] (pA K C)): ~~~aL bU 4 f fd ["row","numbers","voices"] (pB K C):=by
 refine F.ok vX λ_ A _ s H vs Q E hr h=>?_;obtain⟨q,row,x1,x2,nv,rfl,hq,b1,b2,b3,k⟩:=h
 refine⟨rfl,_,(ag (aP (PW.pt (da (ba (ay CG (aD (aG K) ⋯ T.n_len boot_len (aa (pr 1) ah)) af (az _))) (da (cJ (bo (aA D_are_voices hr ⋯ (aa (bt (fB K) (pr 1) bJ (fw af)) (aa (pr 2) ah))) (λ_=>rfl))) (cR (ba (ay (o0 j6) (aw (aC K) (pr 1) af (λ_ _=>rfl)) af (az _))))))) (ai (av aZ)) aB)
 (ai (av (iJ DM_Held hr ⋯ (aa (pr 0) (aa (aw (aC K) (pr 1) af (λ_ _=>rfl)) (aa (aw (aC K) (pr 1) af (λ_ _=>rfl)) ah))))))),?_⟩
 refine iL λRk rk=>?_;tm_at "r";have hs:=sizeLine_eq;refine⟨_,.inl hq,?_⟩;tm_at "r";rw [if_pos (show(((0:Nat)+1+1:Nat):Int)=2 from rfl)];refine cG hq λq1 hq1=>?_;rw [show(some (1:Int))=some ((1:Nat):Int)from rfl,fq];have s1:au H (upd H q1 (.lst (([x1,x2].map V.int).take 1))):=aq hq1;refine⟨q1,[x1],nv,rfl,aJ.of ae,by simp,λH1 s2=>?_⟩;rw [show([x1].all λn=>decide (1<=n) && decide (n<=nv))=true by simp;omega];tm_at "r";have s3:=s1.trans s2;have hq3:=s3.seq hq;refine bq hq3 (show fR _ ((1:Nat):Int)=_ from aK rfl) ?_;tm_at "r";rw [if_neg (show ¬(x2 < 1)by omega)];refine rk _ _ ?_;tm_at "r";refine bq hq3 (bH rfl) (bq hq3 (show fR _ ((1:Nat):Int)=_ from aK rfl) ?_);show ∀x dx:Addr,_;intro x dx hx hdx hne;have s5:au H (upd (upd H1 dx (.own x)) x (.ins C dx [])):=(s3.upd hdx).upd (by rw [aj (Ne.symm hne)];exact hx);refine⟨x,dx,row,x1,x2,rfl,ae,rfl,?_⟩;refine k x _ ?_ ⟨dx,ae⟩;intro c o hc;rw [aj (ao (s3 _ _ hc) hx)];exact s5 _ _ hc
theorem sI(F:b0 K "size" "Held.size" jh f fd)(TC:kG K C): ~~~aL bU 1 f fd ["self"] (pI (f6 C row x1 x2) (.int x2)):=by
 refine F.ok tq λ_ A _ s H vs Q E hr h=>?_;obtain⟨r,rfl,⟨dx,hr1⟩,k⟩:=h;refine⟨rfl,_,(ai (av (aV (pr 0) rfl))),?_⟩;tm_at "r"
 have l2:(eI row x1 x2).lookup (Str.ofString "most")=⇑x2:=by unfold eI;tm_at "f"
 exact⟨C,dx,_,hr1,TC.cl,TC.n3,_,l2,k⟩
theorem qb(F:b0 K "after" "Held.after" il f fd)(T:Txt mg aM)(TC:kG K C)(ha:1<=x1/\x1<=nv)(D_note_in: ~~~cB "note_in" 2 ["column","voice"] (fC K)): ~~~aL bU 3 f fd ["self","memory","before","column"] (bA K nv (f6 C row x1 x2) (eo x1 x2) (rm x2)):=by
 refine F.ok qD λ_ A _ s H vs Q E hr h=>?_;obtain⟨r,m,x,c,bb,us,rfl,⟨dx,hr1⟩,_,hbv,hc,hu,k⟩:=h
 refine⟨rfl,_,(ag (aP (PW.pt (da (ba (ay eL (pr 2) aZ (az _))) (cR (ba (ay CG (aA D_note_in hr ⋯ (aa (pr 2) (aa (aV (pr 0) rfl) ah))) (aA D_note_in hr ⋯ (aa (pr 3) (aa (aV (pr 0) rfl) ah))) (az _)))))) (ai (av af)) aB)
 (ai (av (c8 (ba (ay (o0 j6) (ar (bL K) (pr 1) af) (aV (pr 0) rfl) (az _))) (ar (bL K) (pr 1) af) aZ)))),?_⟩
 refine iL λRk rk=>?_;tm_at "r"
 have l1:(eI row x1 x2).lookup (Str.ofString "voice")=⇑x1:=by unfold eI;tm_at "f"
 have l2:(eI row x1 x2).lookup (Str.ofString "most")=⇑x2:=by unfold eI;tm_at "f"
 rcases hbv with⟨rfl,rfl⟩ | ⟨a,bs,rfl,rfl,hba,hbl⟩
 ·rw [if_pos rfl]
  exact k
 rw [if_neg (λz=>by cases z)];refine⟨C,dx,_,hr1,TC.cl,TC.n2,_,l1,a,x1,bs,rfl,hba,ha.1,by rw [hbl];exact ha.2,C,dx,_,hr1,TC.cl,TC.n2,_,l1,c,x1,us,rfl,hc,ha.1,by rw [hu];exact ha.2,?_⟩;tm_at "r";simp only [eo]at k
 by_cases h:aE bs x1=aE us x1
 ·rw [if_pos h]
  rw [if_pos h]at k;refine rk _ _ ?_;tm_at "r";refine⟨C,dx,_,hr1,TC.cl,TC.n3,_,l2,_,rfl,?_⟩
  by_cases h2:m+1 < x2
  ·rw [if_pos h2]
   rw [if_pos h2]at k;exact k
  ·rw [if_neg h2]
   rw [if_neg h2]at k;exact k
 ·rw [if_neg h]
  rw [if_neg h]at k;exact k
theorem zP(h0:1<=x2)(TC:kG K C)(h1: ~~~aF C "size" 7 ["self"] (pI (f6 C row x1 x2) (.int x2)))(h2: ~~~aF C "start" 7 ["self"] (cH 1 λ_=>.int 0))(h3: ~~~aF C "closes" 7 ["self","memory","last"] (cH 3 λ_=>.bl true))
  (h4: ~~~aF C "after" 7 ["self","memory","before","column"] (bA K nv (f6 C row x1 x2) (eo x1 x2) (rm x2))): ~~~br 7 nv C (eo x1 x2) (f6 C row x1 x2) (rm x2):=by
 refine⟨λr H H' s h=>?_,λr H h=>?_,⟨show(0:Int)<=0 by decide,show(0:Int) < x2 by omega⟩,λm b us m' hm e=>?_,h1,h2.imp ?_,h4,h3.imp ?_⟩
 ·obtain⟨dx,e1⟩:=h
  exact⟨dx,s _ _ e1⟩
 ·obtain⟨dx,e1⟩:=h
  refine⟨dx,_,e1,?_,?_,?_,?_,?_⟩<;>(unfold eI;tm_at "f")
 ·simp only [eo]at e
  obtain⟨m0,m1⟩:=hm
  cases b with
  | none=>cases e;exact⟨∅,()⟩
  | some bs=>
   simp only at e
   split at e
   ·split at e
    ·cases e;exact⟨(),()⟩
    ·cases e
   ·cases e;exact⟨∅,()⟩
 ·rintro vs H Q E ⟨r,rfl,_,q⟩
  exact⟨rfl,q⟩
 ·rintro vs H Q E ⟨r,m,x,b,rfl,_,_,_,q⟩
  exact⟨rfl,q⟩
theorem qj(F:b0 K "__init__" "Times.__init__" ff f fd)(T:Txt mg aM)(TC:gW K C)(DC_Rule___init__: ~~~iP "Rule" "__init__" 1 ["self","row"] (cq K)): ~~~aL bU 2 f fd ["self","row","voice","note","fewest","most"] (m6 K C):=by
 refine F.ok lJ λ_ A _ s H vs Q E hr h=>?_;obtain⟨x,dx,row,x1,x2,x3,x4,rfl,hx,k⟩:=h
 refine⟨rfl,_,(ag (bG (dG DC_Rule___init__ hr ⋯ (aa (pr 0) (aa (pr 1) ah))))
 (ag (bI (pr 0) (pr 2) rfl)
 (ag (bI (pr 0) (pr 3) rfl)
 (ag (bI (pr 0) (pr 4) rfl)
 (ai (bI (pr 0) (pr 5) rfl)))))),?_⟩
 refine iL λRk rk=>?_;tm_at "r";have ln:∀(f:Str) (v:V) (l:List (Str×V)) (n:Nat),l.length<=n->(bu f v l).length<=n+1:=λf v l n h=>ab6 (bC f v l) (ae0 h);refine⟨x,C,dx,[],row,rfl,hx,TC.cl,TC.n1,∅,rk _ _ ?_⟩;tm_at "r";refine⟨C,dx,_,ae,TC.cl,TC.n2,aa7 (ln _ _ _ _ (ac2 0)) ∅,C,dx,_,ae,TC.cl,TC.n3,aa7 (ln _ _ _ _ (ln _ _ _ _ (ac2 0))) ∅,C,dx,_,ae,TC.cl,TC.n4,aa7 (ln _ _ _ _ (ln _ _ _ _ (ln _ _ _ _ (ac2 0)))) ∅,C,dx,_,ae,TC.cl,TC.n5,aa7 (ln _ _ _ _ (ln _ _ _ _ (ln _ _ _ _ (ln _ _ _ _ (ac2 0))))) ∅,?_⟩;rw [bS,bS,bS,bS];exact k
theorem uv(F:b0 K "times_of" "times_of" kv f fd)(T:Txt mg aM)(D_are_voices: ~~~cB "are_voices" 3 ["numbers","voices"] (ck K))(DM_Times: ~~~iQ "Times" C 2 ["self","row","voice","note","fewest","most"] (m6 K C)): ~~~aL bU 4 f fd ["row","numbers","voices"] (mL K C):=by
 refine F.ok uR λ_ A _ s H vs Q E hr h=>?_;obtain⟨q,row,x1,x2,x3,x4,nv,rfl,hq,b1,b2,b3,b4,k⟩:=h
 refine⟨rfl,_,(ag (aP (PW.pt (da (ba (ay CG (aD (aG K) ⋯ T.n_len boot_len (aa (pr 1) ah)) af (az _))) (da (cJ (bo (aA D_are_voices hr ⋯ (aa (bt (fB K) (pr 1) bJ (fw af)) (aa (pr 2) ah))) (λ_=>rfl))) (cR (ba (ay (o0 j6) (aD (xW rfl K) ⋯ T.n_min boot_min (aa (bt (fB K) (pr 1) (fw af) bJ) ah)) af (az _))))))) (ai (av aZ)) aB)
 (ai (av (iJ DM_Times hr ⋯ (aa (pr 0) (aa (aw (aC K) (pr 1) af (λ_ _=>rfl)) (aa (aw (aC K) (pr 1) af (λ_ _=>rfl)) (aa (aw (aC K) (pr 1) af (λ_ _=>rfl)) (aa (aw (aC K) (pr 1) af (λ_ _=>rfl)) ah))))))))),?_⟩
 refine iL λRk rk=>?_;tm_at "r";have hs:=sizeLine_eq;refine⟨_,.inl hq,?_⟩;tm_at "r";rw [if_pos (show(((0:Nat)+1+1+1+1:Nat):Int)=4 from rfl)];refine cG hq λq1 hq1=>?_;rw [show(some (1:Int))=some ((1:Nat):Int)from rfl,fq];have s1:au H (upd H q1 (.lst (([x1,x2,x3,x4].map V.int).take 1))):=aq hq1;refine⟨q1,[x1],nv,rfl,aJ.of ae,by simp,λH1 s2=>?_⟩;rw [show([x1].all λn=>decide (1<=n) && decide (n<=nv))=true by simp;omega];tm_at "r";have s3:=s1.trans s2;have hq3:=s3.seq hq;refine cG hq3 λq4 hq4=>?_;rw [show(some (2:Int))=some ((2:Nat):Int)from rfl,cy];have s4:au H (upd H1 q4 (.lst (([x1,x2,x3,x4].map V.int).drop 2))):=s3.upd hq4;have hm:(upd H1 q4 (.lst (([x1,x2,x3,x4].map V.int).drop 2))) q4=some (.lst ([x3,x4].map V.int)):=ae;generalize upd H1 q4 (.lst (([x1,x2,x3,x4].map V.int).drop 2))=H2 at s4 hm;refine⟨q4,rfl,[x3,x4],aJ.of hm,by simp,λi hi=>?_⟩
 have hi0:0<=i:=by
  rcases ab2.mp hi with rfl | hi
  ·exact b3
  ·rw [ab8.mp hi];exact b4
 tm_at "r";rw [if_neg (show ¬(i < 0)by omega)];refine rk _ _ ?_;tm_at "r";have hq5:=s4.seq hq;refine bq hq5 (bH rfl) (bq hq5 (show fR _ ((1:Nat):Int)=_ from aK rfl) (bq hq5 (show fR _ ((2:Nat):Int)=_ from aK rfl) (bq hq5 (show fR _ ((3:Nat):Int)=_ from aK rfl) ?_)));show ∀x dx:Addr,_;intro x dx hx hdx hne;have s5:au H (upd (upd H2 dx (.own x)) x (.ins C dx [])):=(s4.upd hdx).upd (by rw [aj (Ne.symm hne)];exact hx);refine⟨x,dx,row,x1,x2,x3,x4,rfl,ae,rfl,?_⟩;refine k x _ ?_ ⟨dx,ae⟩;intro c o hc;rw [aj (ao (s4 _ _ hc) hx)];exact s5 _ _ hc
theorem qk(F:b0 K "size" "Times.size" iw f fd)(TC:gW K C): ~~~aL bU 1 f fd ["self"] (pI (du C row x1 x2 x3 x4) (.int (x4+1))):=by
 refine F.ok qJ λ_ A _ s H vs Q E hr h=>?_;obtain⟨r,rfl,⟨dx,hr1⟩,k⟩:=h;refine⟨rfl,_,(ai (av (ar (bL K) (aV (pr 0) rfl) af))),?_⟩;tm_at "r"
 have l5:(cz row x1 x2 x3 x4).lookup (Str.ofString "most")=⇑x4:=by unfold cz;tm_at "f"
 refine⟨C,dx,_,hr1,TC.cl,TC.n5,_,l5,?_⟩;tm_at "r";exact k
theorem nh(F:b0 K "closes" "Times.closes" gp f fd)(TC:gW K C): ~~~aL bU 1 f fd ["self","memory","last"] (eh K nv (du C row x1 x2 x3 x4) (cM x1 x2 x3 x4) (kY x4)):=by
 refine F.ok ny λ_ A _ s H vs Q E hr h=>?_;obtain⟨r,m,x,bb,rfl,⟨dx,hr1⟩,_,_,k⟩:=h;refine⟨rfl,_,(ai (av (bc (o0 xc) (pr 1) (aV (pr 0) rfl) (az _)))),?_⟩;tm_at "r"
 have l4:(cz row x1 x2 x3 x4).lookup (Str.ofString "fewest")=⇑x3:=by unfold cz;tm_at "f"
 refine⟨C,dx,_,hr1,TC.cl,TC.n4,_,l4,?_⟩;tm_at "r";exact k
theorem oQ(F:b0 K "after" "Times.after" gP f fd)(T:Txt mg aM)(TC:gW K C)(ha:1<=x1/\x1<=nv)(D_note_in: ~~~cB "note_in" 2 ["column","voice"] (fC K)): ~~~aL bU 3 f fd ["self","memory","before","column"] (bA K nv (du C row x1 x2 x3 x4) (cM x1 x2 x3 x4) (kY x4)):=by
 refine F.ok pj λ_ A _ s H vs Q E hr h=>?_;obtain⟨r,m,x,c,bb,us,rfl,⟨dx,hr1⟩,_,hbv,hc,hu,k⟩:=h
 refine⟨rfl,_,(ag (aP (ba (ay CG (aA D_note_in hr ⋯ (aa (pr 3) (aa (aV (pr 0) rfl) ah))) (aV (pr 0) rfl) (az _))) (ai (av (pr 1))) aB)
 (ai (av (c8 (ba (ay (o0 j6) (pr 1) (aV (pr 0) rfl) (az _))) (ar (bL K) (pr 1) af) aZ)))),?_⟩
 refine iL λRk rk=>?_;tm_at "r"
 have l1:(cz row x1 x2 x3 x4).lookup (Str.ofString "voice")=⇑x1:=by unfold cz;tm_at "f"
 have l2:(cz row x1 x2 x3 x4).lookup (Str.ofString "note")=⇑x2:=by unfold cz;tm_at "f"
 have l5:(cz row x1 x2 x3 x4).lookup (Str.ofString "most")=⇑x4:=by unfold cz;tm_at "f"
 refine⟨C,dx,_,hr1,TC.cl,TC.n2,_,l1,c,x1,us,rfl,hc,ha.1,by rw [hu];exact ha.2,C,dx,_,hr1,TC.cl,TC.n3,_,l2,?_⟩;tm_at "r";simp only [cM]at k
 by_cases h:aE us x1=x2
 ·rw [if_pos h]
  rw [if_pos h]at k;refine rk _ _ ?_;tm_at "r";refine⟨C,dx,_,hr1,TC.cl,TC.n5,_,l5,_,rfl,?_⟩
  by_cases h2:m < x4
  ·rw [if_pos h2]
   rw [if_pos h2]at k;exact k
  ·rw [if_neg h2]
   rw [if_neg h2]at k;exact k
 ·rw [if_neg h]
  rw [if_neg h]at k;exact k
theorem yZ(h0:0<=x4)(TC:gW K C)(h1: ~~~aF C "size" 7 ["self"] (pI (du C row x1 x2 x3 x4) (.int (x4+1))))(h2: ~~~aF C "start" 7 ["self"] (cH 1 λ_=>.int 0))(h3: ~~~aF C "closes" 7 ["self","memory","last"] (eh K nv (du C row x1 x2 x3 x4) (cM x1 x2 x3 x4) (kY x4)))
  (h4: ~~~aF C "after" 7 ["self","memory","before","column"] (bA K nv (du C row x1 x2 x3 x4) (cM x1 x2 x3 x4) (kY x4))): ~~~br 7 nv C (cM x1 x2 x3 x4) (du C row x1 x2 x3 x4) (kY x4):=by
 refine⟨λr H H' s h=>?_,λr H h=>?_,⟨show(0:Int)<=0 by decide,show(0:Int)<=x4 by omega⟩,λm b us m' hm e=>?_,h1,h2.imp ?_,h4,h3⟩
 ·obtain⟨dx,e1⟩:=h
  exact⟨dx,s _ _ e1⟩
 ·obtain⟨dx,e1⟩:=h
  refine⟨dx,_,e1,?_,?_,?_,?_,?_⟩<;>(unfold cz;tm_at "f")
 ·simp only [cM]at e
  obtain⟨m0,m1⟩:=hm
  split at e
  ·split at e
   ·cases e;exact⟨(),()⟩
   ·cases e
  ·cases e;exact⟨m0,m1⟩
 ·rintro vs H Q E ⟨r,rfl,_,q⟩
  exact⟨rfl,q⟩
theorem p9(F:b0 K "__init__" "Every.__init__" fc f fd)(T:Txt mg aM)(TC:iN K C)(DC_Rule___init__: ~~~iP "Rule" "__init__" 1 ["self","row"] (cq K)): ~~~aL bU 2 f fd ["self","row","turns","turn","inner"] (mZ K C):=by
 refine F.ok lH λ_ A _ s H vs Q E hr h=>?_;obtain⟨x,dx,ri,row,t,u,rfl,hx,k⟩:=h
 refine⟨rfl,_,(ag (bG (dG DC_Rule___init__ hr ⋯ (aa (pr 0) (aa (pr 1) ah))))
 (ag (bI (pr 0) (pr 2) rfl)
 (ag (bI (pr 0) (pr 3) rfl)
 (ai (bI (pr 0) (pr 4) rfl))))),?_⟩
 refine iL λRk rk=>?_;tm_at "r";have ln:∀(f:Str) (v:V) (l:List (Str×V)) (n:Nat),l.length<=n->(bu f v l).length<=n+1:=λf v l n h=>ab6 (bC f v l) (ae0 h);refine⟨x,C,dx,[],row,rfl,hx,TC.cl,TC.n1,∅,rk _ _ ?_⟩;tm_at "r";refine⟨C,dx,_,ae,TC.cl,TC.n2,aa7 (ln _ _ _ _ (ac2 0)) ∅,C,dx,_,ae,TC.cl,TC.n3,aa7 (ln _ _ _ _ (ln _ _ _ _ (ac2 0))) ∅,C,dx,_,ae,TC.cl,TC.n4,aa7 (ln _ _ _ _ (ln _ _ _ _ (ln _ _ _ _ (ac2 0)))) ∅,?_⟩;rw [bS,bS,bS];exact k
theorem qa{t:Int}(F:b0 K "size" "Every.size" ik f fd)(TC:iN K C): ~~~aL bU 1 f fd ["self"] (pI (fm C row t u RIn) (.int t)):=by
 refine F.ok qC λ_ A _ s H vs Q E hr h=>?_;obtain⟨r,rfl,⟨dx,ri,hr1,_⟩,k⟩:=h;refine⟨rfl,_,(ai (av (aV (pr 0) rfl))),?_⟩;tm_at "r"
 have l2:(cK row t u ri).lookup (Str.ofString "turns")=⇑t:=by unfold cK;tm_at "f"
 exact⟨C,dx,_,hr1,TC.cl,TC.n2,_,l2,k⟩
theorem oO{Cn:Addr}{t:Int}{S:bV}{G:Int->Prop}(F:b0 K "after" "Every.after" gO f fd)(T:Txt mg aM)(TC:iN K C)(ht:0 < t)(R: ~~~br 4 nv Cn S RIn G): ~~~aL bU 5 f fd ["self","memory","before","column"] (bA K nv (fm C row t u RIn) (eQ t u S) (oC t)):=by
 refine F.ok pf λ_ A _ s H vs Q E hr h=>?_;obtain⟨r,m,x,c,bb,us,rfl,⟨dx,ri,hr1,hin⟩,_,hbv,hc,hu,k⟩:=h
 refine⟨rfl,_,(ag (aP (PW.pt (j8 (ba (ay gJ (pr 1) (aV (pr 0) rfl) (az _))) (jH (ba (ay eL (~~~g6 hr (aV (pr 0) rfl) (aa (~~~mh hr (aV (pr 0) rfl)) (aa (pr 2) (aa (pr 3) ah)))) aZ (az _)))))) (ai (av aZ)) aB)
 (ai (av (ar (o1 aU) (ar (bL K) (pr 1) af) (aV (pr 0) rfl))))),?_⟩
 refine iL λRk rk=>?_;tm_at "r"
 have l2:(cK row t u ri).lookup (Str.ofString "turns")=⇑t:=by unfold cK;tm_at "f"
 have l3:(cK row t u ri).lookup (Str.ofString "turn")=⇑u:=by unfold cK;tm_at "f"
 have l4:(cK row t u ri).lookup (Str.ofString "inner")=↑ri:=by unfold cK;tm_at "f"
 refine⟨C,dx,_,hr1,TC.cl,TC.n3,_,l3,?_⟩;tm_at "r";obtain⟨dx2,fs,hir,q1,q2,q3,q4,q5⟩:=R.ins ri H hin;simp only [eQ]at k
 by_cases hm:m=u
 ·rw [if_pos hm]
  rw [if_pos hm]at k;refine⟨C,dx,_,hr1,TC.cl,TC.n4,_,l4,ri,rfl,Cn,dx2,fs,hir,q3,_,_,R.after,C,dx,_,hr1,TC.cl,TC.n4,_,l4,ri,rfl,Cn,dx2,fs,hir,q2,_,_,R.start,ri,rfl,hin,ri,_,x,c,bb,us,rfl,hin,R.g0,hbv,hc,hu,?_⟩
  cases ha:S.after S.start bb us with
  | none=>
   rw [if_pos (show DX none=V.non from rfl)];rw [ha,if_pos rfl]at k;exact k
  | some m'=>
   rw [if_neg (show ¬(DX (some m')=V.non)from λz=>by cases z)];rw [ha,if_neg (λz=>by cases z)]at k;refine rk _ _ ?_;tm_at "r";exact⟨C,dx,_,hr1,TC.cl,TC.n2,_,l2,_,rfl,ht,k⟩
 ·rw [if_neg hm]
  rw [if_neg hm]at k;refine rk _ _ ?_;tm_at "r";exact⟨C,dx,_,hr1,TC.cl,TC.n2,_,l2,_,rfl,ht,k⟩
theorem yi{Cn:Addr}{t:Int}{S:bV}{G:Int->Prop}(ht:0 < t)(TC:iN K C)(R: ~~~br 4 nv Cn S RIn G)(h1: ~~~aF C "size" 7 ["self"] (pI (fm C row t u RIn) (.int t)))(h2: ~~~aF C "start" 7 ["self"] (cH 1 λ_=>.int 0))(h3: ~~~aF C "closes" 7 ["self","memory","last"] (cH 3 λ_=>.bl true))
  (h4: ~~~aF C "after" 7 ["self","memory","before","column"] (bA K nv (fm C row t u RIn) (eQ t u S) (oC t))): ~~~br 7 nv C (eQ t u S) (fm C row t u RIn) (oC t):=by
 refine⟨λr H H' s h=>?_,λr H h=>?_,⟨show(0:Int)<=0 by decide,show(0:Int) < t by omega⟩,λm b us m' hm e=>?_,h1,h2.imp ?_,h4,h3.imp ?_⟩
 ·obtain⟨dx,ri,e1,e2⟩:=h
  exact⟨dx,ri,s _ _ e1,R.mono _ _ _ s e2⟩
 ·obtain⟨dx,ri,e1,e2⟩:=h
  refine⟨dx,_,e1,?_,?_,?_,?_,?_⟩<;>(unfold cK;tm_at "f")
 ·simp only [eQ]at e
  have hb:oC t ((m+1) % t):=⟨ad7 _ (),ad1 _ ht⟩
  split at e
  ·split at e
   ·cases e
   ·cases e;exact hb
  ·cases e;exact hb
 ·rintro vs H Q E ⟨r,rfl,_,q⟩
  exact⟨rfl,q⟩
 ·rintro vs H Q E ⟨r,m,x,b,rfl,_,_,_,q⟩
  exact⟨rfl,q⟩
theorem qq{aI:Addr}(F:b0 K "every_rule" "every_rule" iz f fd)(T:FD mg aM aI)(hI:ze K aI [.str "span",.str "clock"])(D_is_number: ~~~cB "is_number" 8 ["word"] rK)(D_plain_rule: ~~~cB "plain_rule" 8 ["row","voices"] (~~~lN aM 7))(DM_Every: ~~~iQ "Every" C 7 ["self","row","turns","turn","inner"] (mZ K C)): ~~~aL bU 9 f fd ["row","voices"] (~~~tF aM C 7):=by
 refine F.ok sc_every_rule λ_ A _ s H vs Q E hr h=>?_;obtain⟨row,rest,kind,t,u,ns,nv,D,g,sp,RIn,rfl,RE,R,hkd,u0,u1,tab,hg,fn,k,mono,kq⟩:=h
 refine⟨rfl,_,(ag (cU (i:=2) sc_every_rule.nd (bW K PySem.F.plainAttrs_str PySem.F.slot_str_split PySem.F.type_str_split yx (pr 0) (aa aW (aa af ah))))
 (ag (aP (PW.pt (da (ba (ay CG (aD (aG K) ⋯ T.n_len boot_len (aa (pr 2) ah)) af (az _))) (da (cJ (bo (aA D_is_number hr ⋯ (aa (aw (aC K) (pr 2) af (λ_ _=>rfl)) ah)) (λ_=>rfl))) (cR (cJ (bo (aA D_is_number hr ⋯ (aa (aw (aC K) (pr 2) af (λ_ _=>rfl)) ah)) (λ_=>rfl))))))) (ai (av aZ)) aB)
 (ag (cU (i:=3) sc_every_rule.nd (bf (dJ) ⋯ T.n_int boot_int (aa (aw (aC K) (pr 2) af (λ_ _=>rfl)) ah)))
 (ag (cU (i:=4) sc_every_rule.nd (bf (dJ) ⋯ T.n_int boot_int (aa (aw (aC K) (pr 2) af (λ_ _=>rfl)) ah)))
 (ag (aP (PW.pt (da (cJ (ba (uC (o0 i8) (o0 j6) af (pr 4) (pr 3)))) (cR (ba (ay (eK K) (aw (aC K) (bW K PySem.F.plainAttrs_str PySem.F.slot_str_split PySem.F.type_str_split kZ (aw (aC K) (pr 2) af (λ_ _=>rfl)) (aa aW ah)) af (λ_ _=>rfl)) (ia T.g_INNER_KINDS) (by with_unfolding_all rfl)))))) (ai (av aZ)) aB)
 (ag (cU (i:=5) sc_every_rule.nd (aA D_plain_rule hr ⋯ (aa (aw (aC K) (pr 2) af (λ_ _=>rfl)) (aa (pr 1) ah))))
 (ai (av (c8 (ba (ay eL (pr 5) aZ (az _))) aZ (iJ DM_Every hr ⋯ (aa (pr 0) (aa (pr 3) (aa (pr 4) (aa (pr 5) ah)))))))))))))),?_⟩
 have hs:=sizeLine_eq;have hl:=RE.len;refine aN (λZ H'=>∃p:Addr,H' p=some (.lst ([Str.ofString "every",aR t,aR u,rest].map V.str))/\Z=[some (.str row),⇑nv,↑p,none,none,none]/\au H H') ?_ ?_
 ·intro u' hu
  tm_at "r";refine⟨32,by decide +kernel,∅,∅,∅,RE.pos,(),?_,λp hp=>?_⟩
  ·rw [show Int.toNat 3=3 from rfl,RE.split];show 4<=_;omega
  ·rw [show Int.toNat 3=3 from rfl,RE.split]
   exact hu _ _ ⟨p,ae,rfl,aq hp⟩
 rintro Ω ω _ H0 ⟨p,hp0,rfl,s0⟩;have a0:aJ K H0 p ([Str.ofString "every",aR t,aR u,rest].map V.str):=aJ.of hp0
 have num:∀{n:Int} {H1:Hp} {Q':VK},n.natAbs < 10 ^ 40->(∀H',au H1 H'->Q' (.bl true) H')->rK [.str (aR n)] H1 Q' E0:=λ{n H1 Q'} hn hq=>by
  refine⟨aR n,rfl,?_,λH' s'=>?_⟩
  ·have:=dF hn;omega
  ·rw [show(aR n).cps.toList=hX n from rfl,lZ hn]
   exact hq H' s'
 refine ω _ _ (aN (λZ H'=>Z=[some (.str row),⇑nv,↑p,none,none,none]/\au H0 H') ?_ ?_)
 ·intro u' hu
  tm_at "r";refine⟨_,.inl a0,?_⟩;tm_at "r";rw [if_pos (show(((0:Nat)+1+1+1+1:Nat):Int)=4 from rfl)];refine bq a0 (show fR _ ((1:Nat):Int)=_ from aK rfl) (num RE.tb λH1 s1=>?_);tm_at "r";refine bq (s1.seq a0) (show fR _ ((2:Nat):Int)=_ from aK rfl) (num RE.ub λH2 s2=>?_);tm_at "r";exact hu _ _ ⟨rfl,s1.trans s2⟩
 clear a0;rintro Ω ω _ H1 ⟨rfl,s01⟩;have s1:=s0.trans s01;have a1:aJ K H1 p ([Str.ofString "every",aR t,aR u,rest].map V.str):=aJ.of (s01 _ _ hp0);have int':∀{n:Int},n.natAbs < 10 ^ 40->intText? (aR n)=some n/\(aR n).length<=640:=λ{n} hn=>⟨nI (ab3 hn (aj5 ∅ ∅)),by have:=dF hn;omega⟩;refine ω _ _ (aN (λZ H'=>Z=[some (.str row),⇑nv,↑p,⇑t,none,none]/\H1=H') ?_ ?_)
 ·intro u' hu
  tm_at "r";refine bq a1 (show fR _ ((1:Nat):Int)=_ from aK rfl) ?_;tm_at "r";exact⟨t,(int' RE.tb).1,(int' RE.tb).2,hu _ _ ⟨rfl,rfl⟩⟩
 rintro Ω ω _ _ ⟨rfl,rfl⟩;refine ω _ _ (aN (λZ H'=>Z=[some (.str row),⇑nv,↑p,⇑t,⇑u,none]/\H1=H') ?_ ?_)
 ·intro u' hu
  tm_at "r";refine bq a1 (show fR _ ((2:Nat):Int)=_ from aK rfl) ?_;tm_at "r";exact⟨u,(int' RE.ub).1,(int' RE.ub).2,hu _ _ ⟨rfl,rfl⟩⟩
 rintro Ω ω _ _ ⟨rfl,rfl⟩;have hrl:=RE.rl;refine ω _ _ (aN (λZ H'=>Z=[some (.str row),⇑nv,↑p,⇑t,⇑u,none]/\au H1 H') ?_ ?_)
 ·intro u' hu
  tm_at "r";rw [if_pos u0,if_pos u1];refine bq a1 (show fR _ ((3:Nat):Int)=_ from aK rfl) ?_;tm_at "r";refine⟨32,by decide +kernel,∅,(),λp1 hp1=>?_⟩;rw [R.split];have s':au H1 (upd H1 p1 (.lst ((kind::ns.map aR).map V.str))):=aq hp1;refine bq (aJ.of ae) (bH rfl) (uF (ws:=[Str.ofString "span",Str.ofString "clock"]) (hI.at _) ⟨_,rfl,?_⟩)
  rw [decide_eq_true (show kind∈[Str.ofString "span",Str.ofString "clock"]by rcases hkd with rfl | rfl<;>simp),if_neg (by exact aa6)]
  exact hu _ _ ⟨rfl,s'⟩
 rintro Ω ω _ H2 ⟨rfl,s12⟩;have s2:=s1.trans s12;have a2:aJ K H2 p ([Str.ofString "every",aR t,aR u,rest].map V.str):=s12.seq a1;refine ω _ _ (aN (λZ H'=>∃ri:Addr,RIn ri H'/\Z=[some (.str row),⇑nv,↑p,⇑t,⇑u,↑ri]/\au H H') ?_ ?_)
 ·intro u' hu
  tm_at "r";refine bq a2 (show fR _ ((3:Nat):Int)=_ from aK rfl) ?_;refine⟨rest,kind,ns,nv,D,g,sp,λv H''=>∃ri,v=.ref ri/\au H H''/\RIn ri H'',rfl,R,tab,hg,fn,λq H' Q' sm hq hres=>k q H' Q' (s2.trans sm) hq λri H'' s'' hri=>hres _ _ ⟨ri,rfl,s'',hri⟩,?_⟩;rintro v H' ⟨ri,rfl,s',hri⟩;exact hu _ _ ⟨ri,hri,rfl,s'⟩
 rintro Ω ω _ H3 ⟨ri,hri,rfl,s3⟩;refine ω _ _ ?_;tm_at "r";show ∀x dx:Addr,_;intro x dx hx hdx hne;have s5:au H (upd (upd H3 dx (.own x)) x (.ins C dx [])):=(s3.upd hdx).upd (by rw [aj (Ne.symm hne)];exact hx)
 have s35:au H3 (upd (upd (upd H3 dx (.own x)) x (.ins C dx [])) x (.ins C dx (cK row t u ri))):=λc o hc=>by
  have n1:c≠x:=ao hc hx;rw [aj n1,aj n1,aj (ao hc hdx)];exact hc
 refine⟨x,dx,ri,row,t,u,rfl,ae,rfl,?_⟩;exact kq x _ (s3.trans s35) ⟨dx,ri,ae,mono _ _ _ s35 hri⟩
theorem qv{T0:Addr}(F:rS K "read_rule" "read_rule" gD f fd T0)(T:Txt mg aM)(D_plain_rule: ~~~cB "plain_rule" 9 ["row","voices"] (~~~lN aM 7))(D_every_rule: ~~~cB "every_rule" 9 ["row","voices"] (~~~tF aM C 7)): ~~~aL bU 10 f fd ["text","voices","row"] (~~~xt aM C 7):=by
 refine F.ok sc_read_rule λ_ A _ s H vs Q E hr h=>?_;obtain⟨row,nv,z,rfl,⟨rest,t,u,RE⟩,k⟩:=h
 refine⟨rfl,_,(ag (cU (i:=3) sc_read_rule.nd (c8 (bo (bW K PySem.F.plainAttrs_str PySem.F.slot_str_startswith PySem.F.type_str_startswith gI (pr 0) (aa aW ah)) (λ_=>rfl)) (aA D_every_rule hr ⋯ (aa (pr 0) (aa (pr 1) ah))) (aA D_plain_rule hr ⋯ (aa (pr 0) (aa (pr 1) ah)))))
 (ag (aP (ba (ay eL (pr 3) aZ (az _))) (ai lC) aB)
 (ai (av (pr 3))))),?_⟩
 tm_at "r";rw [RE.starts,if_pos rfl];obtain⟨row',rest',kind,t',u',ns,nv',D,g,sp,RIn,e,k⟩:=k;refine⟨row',rest',kind,t',u',ns,nv',D,g,sp,RIn,e,?_⟩;obtain⟨k1,k2,k3,k4,k5,k6,k7,k8,k9,k10,k11⟩:=k;refine⟨k1,k2,k3,k4,k5,k6,k7,k8,k9,k10,λr H' s' hr=>?_⟩;obtain⟨hn,q⟩:=k11 r H' s' hr;rw [if_neg hn];exact q
theorem sP(F:b0 K "memories_after" "memories_after" fj f fd)(T:Txt mg aM): ~~~aL bU 8 f fd ["rules","memories","before","column"] (~~~kz):=by
 refine F.ok sc_memories_after λ_ A _ s H vs Q E hr h=>?_;obtain⟨rb,ma,ca,bx,nv,Ss,Gs,rs,ms,c,b,rfl,RM,lS,hma,hM,hb,hc,hcl,k1,k2⟩:=h
 refine⟨rfl,_,(ag (cU (i:=4) sc_memories_after.nd (bN ah))
 (ag (cw PassesOwn.never rfl (uA rfl T.n_enumerate (aa (pr 0) ah)) (fT K (n:=2) rfl (bT (jR (i:=5) sc_memories_after.nd) (bT (jR (i:=6) sc_memories_after.nd) fU)))
 (ag (cU (i:=7) sc_memories_after.nd (~~~g6 hr (pr 6) (aa (aw (aC K) (pr 1) (pr 5) (λ_ _=>rfl)) (aa (pr 2) (aa (pr 3) ah)))))
 (ag (aP (ba (ay eL (pr 7) aZ (az _))) (ai (av aZ)) aB)
 (ai (bG (bW K PySem.F.plainAttrs_list PySem.F.slot_list_append PySem.F.type_list_append cA (pr 4) (aa (pr 7) ah)))))))
 (ai (av (bf (mQ K) ⋯ T.n_tuple boot_tuple (aa (pr 4) ah)))))),?_⟩
 have hs:=sizeLine_eq;have lr:=RM.len;have lg:=RM.gl;have lm:=hM.1
 have lres:(mj Ss ms b c).length=Ss.length:=by
  unfold mj;rw [List.length_zipWith];omega
 refine aN (λZ H'=>∃q:Addr,H q=none/\H' q=some (.lst [])/\Z=[↑rb,↑ma,some bx,↑ca,↑q,none,none,none]/\au H H') ?_ ?_
 ·intro u' hu
  tm_at "r";exact⟨(),λq hq=>hu _ _ ⟨q,hq,ae,rfl,aq hq⟩⟩
 rintro Ω ω _ H1 ⟨q,hq0,hq1,rfl,s1⟩;refine ω _ _ (aN (λZ H'=>∃(r:List Int) (o5 o6 o7:Option V),mj Ss ms b c=r.map some/\H' q=some (.lst (r.map V.int))/\Z=[↑rb,↑ma,some bx,↑ca,↑q,o5,o6,o7]/\au H H') ?_ ?_)
 ·intro u' hu
  tm_at "r";obtain⟨Pv,hPv⟩:∃Pv:Nat->L2.St->Hp->Prop,Pv=λi Z H'=>∃(r:List Int) (o5 o6 o7:Option V),(mj Ss ms b c).take i=r.map some/\r.length=i/\H' q=some (.lst (r.map V.int))/\Z=[↑rb,↑ma,some bx,↑ca,↑q,o5,o6,o7]/\au H H':=⟨_,rfl⟩;refine⟨true,⟨_,s1.seq RM.sq⟩,oB (l:=true) (us:=rs.map V.ref) Pv (by rw [hPv];exact⟨[],none,none,none,rfl,rfl,hq1,rfl,s1⟩) (λi Z H' _ h=>?_) ?_ ?_⟩
  ·rw [hPv]at h
   obtain⟨_,_,_,_,_,_,_,_,s'⟩:=h;exact s'.seq RM.sq
  ·intro i y Z H2 p hx hI hp0
   rw [hPv]at hI;obtain⟨r,o5,o6,o7,hr1,hrl,hq2,rfl,s2⟩:=hI;rw [aa4]at hx
   cases hri:rs[i]? with
   | none=>rw [hri]at hx;cases hx
   | some ra=>
    rw [hri]at hx;cases hx
    have hi:i < Ss.length:=by rw [<-lr];exact(aa1.mp hri).1
    obtain⟨S,hS⟩:∃S,Ss[i]?=some S:=⟨_,aa2 hi⟩;obtain⟨G,hG⟩:∃G,Gs[i]?=some G:=⟨_,aa2 ()⟩;obtain⟨m,hm⟩:∃m,ms[i]?=some m:=⟨_,aa2 ()⟩
    have hres:(mj Ss ms b c)[i]?=some (S.after m b c):=by
     unfold mj;rw [al1,hS,hm]
    have s3:au H (upd H2 p (.tup [.int i,.ref ra])):=s2.upd hp0;have hq3:=(aq (o:=HO.tup [.int i,.ref ra]) hp0) _ _ hq2;have s23:=aq (o:=HO.tup [.int i,.ref ra]) hp0;tm_at "r";refine⟨_,cI.of ae,rfl,?_⟩;tm_at "r";generalize upd H2 p (.tup [.int i,.ref ra])=H3 at s3 hq3 s23;obtain⟨C,RI,RO,hRI⟩:=(RM.same s3).at_ i ra S G hri hS hG;obtain⟨dx,fs,hir,z1,z2,z3,z4,z5⟩:=RO.ins ra H3 hRI;refine⟨C,dx,fs,hir,z3,_,_,RO.after,dw (s3.tup hma) (aK (by rw [aa4,hm];rfl)) ⟨ra,m,bx,ca,b,c,rfl,hRI,hM.2 i G m hG hm,hb.same s3,s3.tup hc,hcl,?_⟩⟩
    cases ha:S.after m b c with
    | none=>
     show if DX none=V.non then _ else _;rw [if_pos (show DX none=V.non from rfl)];exact k1 (rG (i:=i) (by rw [hres,ha])) _ s3
    | some m'=>
     show if DX (some m')=V.non then _ else _;rw [if_neg (show ¬(DX (some m')=V.non)from λz=>by cases z)];refine⟨.inl ⟨rfl,_,aJ.of hq3⟩,q,_,_,rfl,rfl,hq3,by rw [aa0];omega,?_⟩;rw [hPv];refine⟨r++[m'],_,_,_,?_,by rw [aa8,hrl];rfl,?_,rfl,y6 hq0 s3⟩
     ·rw [ac6,hr1,hres,ha,ab4]
      rfl
     ·rw [ae,ab4]
      rfl
  ·intro Z H2 hI
   rw [hPv]at hI;obtain⟨r,o5,o6,o7,hr1,hrl,hq2,rfl,s2⟩:=hI;rw [aa0,lr,<-lres,ad6]at hr1;exact hu _ _ ⟨r,o5,o6,o7,hr1,hq2,rfl,s2⟩
 rintro Ω ω _ H2 ⟨r,o5,o6,o7,hr1,hq2,rfl,s2⟩;refine ω _ _ ?_;tm_at "r";have hsome:=rH hr1;refine⟨_,.inl ⟨aJ.of hq2,λp hp=>k2 r hsome ⟨?_,λj G m' hG hm'=>?_⟩ p _ ae (s2.free hp) (s2.upd hp)⟩⟩
 ·have:=congrArg List.length hr1
  rw [aa0]at this;omega
 ·have hj:j < Gs.length:=(aa1.mp hG).1
  obtain⟨S,hS⟩:∃S,Ss[j]?=some S:=⟨_,aa2 ()⟩;obtain⟨m,hm⟩:∃m,ms[j]?=some m:=⟨_,aa2 ()⟩;obtain⟨ra,hra⟩:∃ra,rs[j]?=some ra:=⟨_,aa2 ()⟩;obtain⟨C,RI,RO,_⟩:=RM.at_ j ra S G hra hS hG
  have hres:(mj Ss ms b c)[j]?=some (S.after m b c):=by
   unfold mj;rw [al1,hS,hm]
  rw [hr1,aa4,hm']at hres;exact RO.gS m b c m' (hM.2 j G m hG hm) (Option.some.inj hres).symm
theorem sO(F:b0 K "all_close" "all_close" jj f fd)(T:Txt mg aM): ~~~aL bU 8 f fd ["rules","memories","last"] (~~~pq):=by
 refine F.ok tx λ_ A _ s H vs Q E hr h=>?_;obtain⟨rb,ma,bx,nv,Ss,Gs,rs,ms,b,rfl,RM,lS,hma,hM,hb,k⟩:=h;refine⟨rfl,_,(ai (av (aD (gX K rfl) ⋯ T.n_all boot_all (aa (cX (own:=["rule","memory"]) (js:=[2]) rfl (EL rfl T.n_zip (aa (pr 0) (aa (pr 1) ah))) (bB.of ⋯) (λ_ _ _ _ _=>(fT K (n:=2) rfl (bT (bM (i:=0) (show List.Nodup (["rule","memory","last"]:List Str)from by decide +kernel) rfl (Or.inl rfl)) (bT (bM (i:=1) (show List.Nodup (["rule","memory","last"]:List Str)from by decide +kernel) rfl (Or.inl rfl)) fU)))) (λ_ _ _ _ _=>cn) (λ_ _ _ _ _=>(~~~g6 hr (pr 0) (aa (pr 1) (aa (pr 2) ah))))) ah)))),?_⟩;have hs:=sizeLine_eq;have lr:=RM.len;have lg:=RM.gl;have lm:=hM.1;tm_at "r";refine⟨true,⟨_,RM.sq⟩,false,⟨_,hma⟩,x6 (l1:=true) (l2:=false) (us:=rs.map V.ref) (vs:=ms.map V.int) (λi ys H'=>ys=((List.zipWith (λS m=>S.closes m b) Ss ms).take i).map V.bl/\au H H') (by rw [aa0];omega) (by rw [aa0,aa0];omega) ⟨rfl,au.refl _⟩ ?_ ?_ ?_ ?_⟩
 ·rintro i ys H' ⟨rfl,_⟩
  rw [aa0,ac9];omega
 ·rintro i ys H' ⟨rfl,s'⟩
  exact⟨s'.seq RM.sq,s'.tup hma⟩
 ·rintro i x y ys H1 p hx hy ⟨rfl,s1⟩ hp
  rw [aa4]at hx hy
  cases hri:rs[i]? with
  | none=>rw [hri]at hx;cases hx
  | some ra=>
   cases hm:ms[i]? with
   | none=>rw [hm]at hy;cases hy
   | some m=>
    rw [hri]at hx;rw [hm]at hy;cases hx;cases hy
    have hi:i < Ss.length:=by rw [<-lr];exact(aa1.mp hri).1
    obtain⟨S,hS⟩:∃S,Ss[i]?=some S:=⟨_,aa2 hi⟩;obtain⟨G,hG⟩:∃G,Gs[i]?=some G:=⟨_,aa2 ()⟩;have s2:au H (upd H1 p (.tup [.ref ra,.int m])):=s1.upd hp;simp only [iF];tm_at "r";refine⟨_,cI.of ae,rfl,?_⟩;tm_at "r";generalize upd H1 p (.tup [.ref ra,.int m])=H2 at s2;obtain⟨C,RI,RO,hRI⟩:=(RM.same s2).at_ i ra S G hri hS hG;obtain⟨dx,fs,hir,z1,z2,z3,z4,z5⟩:=RO.ins ra H2 hRI;refine⟨C,dx,fs,hir,z4,_,_,RO.closes,ra,m,bx,b,rfl,hRI,hM.2 i G m hG hm,hb.same s2,?_⟩
    have hz:(List.zipWith (λS m=>S.closes m b) Ss ms)[i]?=some (S.closes m b):=by rw [al1,hS,hm]
    refine⟨?_,s2⟩;rw [ac6,hz,ab4];rfl
 ·rintro ys H1 ⟨rfl,s1⟩ p hp
  refine⟨_,aJ.of ae,?_⟩;rw [aa0];have e:(List.zipWith (λS m=>S.closes m b) Ss ms).take rs.length=List.zipWith (λS m=>S.closes m b) Ss ms:=ag1 (by rw [List.length_zipWith];omega);rw [e];exact k _ (s1.upd hp)
structure iM(P:Program)(w:World)(Ss:List bV)(Gs:List (Int->Prop))(cols:List (List Int))(nv:Nat)(U:List MS)(H:Hp)(ma na la wa:Addr)(H':Hp)(met:List MS)(ds:List Addr):Prop where
 mt:∃ps:List Addr,H' ma=some (.lst (ps.map V.ref))/\ps.length=met.length/\∀(j:Nat) (p:Addr) (s:MS),ps[j]?=some p->met[j]?=some s->(iK P w).at_ H' (cj s) p
 nm:∃xs,bO (iK P w) H' na xs/\kJ met xs/\xs.length<=met.length
 la_:H' la=some (.lst (ds.map V.ref))
 ld:∀(i:Nat) (d:Addr) (s:MS),ds[i]?=some d->met[i]?=some s->∃xs,bO (B6 P w) H' d xs/\eG Ss cols met s xs
 fr:∀d∈ds,H d=none
 wl:H' wa=some (.lst ((met.take ds.length).map λs=>V.bl (dP Ss s.2 s.1)))
 le:ds.length<=met.length
 mf:wO Ss cols met
 al:∀s∈met,s∈U/\rV Gs s.2/\∀c,s.1=some c->c.length=nv
 sx:zh [ma,na,la,wa] H H'
section
variable {U:List MS} {H'':Hp} {ma na la wa:Addr} {ds:List Addr}
theorem iM.same(B:iM P w Ss Gs cols nv U H ma na la wa H' met ds)(s:au H' H''):iM P w Ss Gs cols nv U H ma na la wa H'' met ds where
 mt:=let ⟨ps,h1,h2,h3⟩:=B.mt;⟨ps,s _ _ h1,h2,λj p t e1 e2=>(iK P w).same s (h3 j p t e1 e2)⟩
 nm:=let ⟨xs,h1,h2,h3⟩:=B.nm;⟨xs,h1.same s,h2,h3⟩
 la_:=s _ _ B.la_
 ld:=λi d t e1 e2=>let ⟨xs,h1,h2⟩:=B.ld i d t e1 e2;⟨xs,h1.same s,h2⟩
 fr:=B.fr
 wl:=s _ _ B.wl
 le:=B.le
 mf:=B.mf
 al:=B.al
 sx:=λb o hb e=>s _ _ (B.sx b o hb e)
theorem iM.upd(B:iM P w Ss Gs cols nv U H ma na la wa H' met ds)(nt:∀vs,H' z≠some (.tup vs))(h0:H z=none)(n1:z≠ma)(n2:z≠na)(n3:z≠la)(n4:z≠wa)(nd:∀d∈ds,d≠z):iM P w Ss Gs cols nv U H ma na la wa (upd H' z o) met ds where
 mt:=let ⟨ps,h1,h2,h3⟩:=B.mt;⟨ps,by rw [aj n1.symm];exact h1,h2,λj p t e1 e2=>(iK P w).upd_ (h3 j p t e1 e2) nt⟩
 nm:=let ⟨xs,h1,h2,h3⟩:=B.nm;⟨xs,h1.upd n2.symm nt,h2,h3⟩
 la_:=by rw [aj n3.symm];exact B.la_
 ld:=λi d t e1 e2=>let ⟨xs,h1,h2⟩:=B.ld i d t e1 e2;⟨xs,h1.upd (nd d (ac0 e1)) nt,h2⟩
 fr:=B.fr
 wl:=by rw [aj n4.symm];exact B.wl
 le:=B.le
 mf:=B.mf
 al:=B.al
 sx:=λb o' hb e=>by rw [aj (λq=>by rw [q,h0]at e;cases e)];exact B.sx b o' hb e
theorem iM.put{xs:List (List (Option (List Int))×Addr×V)}{s' t:MS}{c:List Int}(B:iM P w Ss Gs cols nv U H ma na la wa H' met ds)(D:bO (iK P w) H' na xs)(hN:kJ met xs)(hx:xs.length<=met.length)(h1:H' ma=some (.lst (ps.map V.ref)))(h2:ps.length=met.length)
  (h3:∀(j:Nat) (p:Addr) (s:MS),ps[j]?=some p->met[j]?=some s->(iK P w).at_ H' (cj s) p) (hp:(iK P w).at_ H' (cj s') p) (hnew:s'∉met) (hU:s'∈U) (hM:rV Gs s'.2) (hw:∀c,s'.1=some c->c.length=nv) (hfrom:met[i]?=some t) (hc:c∈cols) (hn:dc Ss t c=some s')
  (lm:met.length < 100000) (n1:ma≠na) (n3:ma≠la) (n4:ma≠wa) (m3:na≠la) (m4:na≠wa) (hma:H ma≠none) (hna:H na≠none) :
  iM P w Ss Gs cols nv U H ma na la wa (L2.upd (L2.upd H' na (dO (iK P w) na (eZ xs (cj s') p (.int met.length)))) ma (.lst (ps.map V.ref++[.ref p]))) (met++[s']) ds:=by
 have ntN:∀vs,H' na≠some (.tup vs):=λvs e=>by rw [D.ob]at e;cases e
 have ntM:∀vs,(L2.upd H' na (dO (iK P w) na (eZ xs (cj s') p (.int met.length)))) ma≠some (.tup vs):=λvs e=>by rw [aj n1,h1]at e;cases e
 have dM:∀d∈ds,d≠ma:=λd hd e=>hma (by rw [<-e];exact B.fr d hd);have dN:∀d∈ds,d≠na:=λd hd e=>hna (by rw [<-e];exact B.fr d hd);have up2:∀{k:List (Option (List Int))} {a:Addr},(iK P w).at_ H' k a->(iK P w).at_ (L2.upd (L2.upd H' na (dO (iK P w) na (eZ xs (cj s') p (.int met.length)))) ma (.lst (ps.map V.ref++[.ref p]))) k a:=λh=>(iK P w).upd_ ((iK P w).upd_ h ntN) ntM
 have hput:(eZ xs (cj s') p (V.int met.length)).length<=met.length+1:=by
  unfold eZ
  split
  ·rw [aa0];omega
  ·rw [aa8];simp;omega
 refine⟨⟨ps++[p],by rw [ae,ab4];rfl,by rw [aa8,aa8,h2];rfl,λj q t e1 e2=>?_⟩,⟨_,(D.put hp ()).upd n1.symm ntM,hN.put hnew,by rw [aa8];exact hput⟩,?_,λi d t e1 e2=>?_,B.fr,?_,?_,⟨?_,?_,λi' t' e1 hi=>?_⟩,λt ht=>?_,λb o hb e=>?_⟩
 ·by_cases hj:j < ps.length
  ·rw [ab7 hj]at e1
   rw [ab7 (by rw [<-h2];exact hj)]at e2;exact up2 (h3 j q t e1 e2)
  ·rw [ac5 ()]at e1
   rw [ac5 (by rw [<-h2];omega),<-h2]at e2
   have h0:j - ps.length=0:=by
    have:=(aa1.mp e1).1
    simp at this;omega
   rw [h0]at e1 e2;cases e1;cases e2;exact up2 hp
 ·rw [aj n3.symm,aj m3.symm]
  exact B.la_
 ·have hlt:i < met.length:=ab3 (aa1.mp e1).1 B.le
  rw [ab7 hlt]at e2;obtain⟨ys,g1,g2⟩:=B.ld i d t e1 e2;have hd:=ac0 e1;exact⟨ys,(g1.upd (dN d hd) ntN).upd (dM d hd) ntM,g2.more _⟩
 ·rw [aj n4.symm,aj m4.symm,List.take_append_of_le_length B.le]
  exact B.wl
 ·rw [aa8]
  have:=B.le
  omega
 ·refine an4.mpr ⟨B.mf.nd,by simp,λx hx y hy=>?_⟩
  rw [ab8.mp hy];rintro rfl;exact hnew hx
 ·rw [ab7 (aa1.mp B.mf.st).1]
  exact B.mf.st
 ·by_cases hj:i' < met.length
  ·rw [ab7 hj]at e1
   obtain⟨j,t0,c0,g1,g2,g3,g4⟩:=B.mf.sub i' t' e1 hi;exact⟨j,t0,c0,g1,by rw [ab7 ()];exact g2,g3,g4⟩
  ·rw [ac5 ()]at e1
   have h0:i' - met.length=0:=by
    have:=(aa1.mp e1).1
    simp at this;omega
   rw [h0]at e1;cases e1;have hlt:=(aa1.mp hfrom).1;exact⟨i,t,c,(),by rw [ab7 hlt];exact hfrom,hc,hn⟩
 ·rcases ac4.mp ht with ht | ht
  ·exact B.al t ht
  ·rw [ab8.mp ht]
   exact⟨hU,hM,hw⟩
 ·have hb1:b≠ma:=λq=>hb (by simp [q])
  have hb2:b≠na:=λq=>hb (by simp [q]);rw [aj hb1,aj hb2];exact B.sx b o hb e
theorem iM.close{dA:Addr}{ys:List (List Int×Addr×V)}{st:MS}{H4:Hp}(B:iM P w Ss Gs cols nv U H ma na la wa H' met ds)(D:bO (B6 P w) H' dA ys)(L:eG Ss cols met st ys)(hst:met[ds.length]?=some st)(h0:H dA=none)(n3:ma≠la)(n4:ma≠wa)(m3:na≠la)(m4:na≠wa)(lw:la≠wa)(hla:H la≠none)(hwa:H wa≠none)
  (s:au (L2.upd H' la (.lst (ds.map V.ref++[.ref dA]))) H4):iM P w Ss Gs cols nv U H ma na la wa (L2.upd H4 wa (.lst (((met.take ds.length).map λs=>V.bl (dP Ss s.2 s.1))++[.bl (dP Ss st.2 st.1)]))) met (ds++[dA]):=by
 have ntL:∀vs,H' la≠some (.tup vs):=λvs e=>by rw [B.la_]at e;cases e
 have hw4:H4 wa=some (.lst ((met.take ds.length).map λs=>V.bl (dP Ss s.2 s.1))):=s _ _ (by rw [aj lw.symm];exact B.wl)
 have ntW:∀vs,H4 wa≠some (.tup vs):=λvs e=>by rw [hw4]at e;cases e
 have dL:∀d∈ds++[dA],d≠la/\d≠wa:=λd hd=>by
  have:H d=none:=by
   rcases ac4.mp hd with hd | hd
   ·exact B.fr d hd
   ·rw [ab8.mp hd];exact h0
  exact⟨λe=>hla (by rw [<-e];exact this),λe=>hwa (by rw [<-e];exact this)⟩
 have hlt:=(aa1.mp hst).1;have kN:∀{k:List (Option (List Int))} {a:Addr},(iK P w).at_ H' k a->(iK P w).at_ (L2.upd H4 wa (.lst (((met.take ds.length).map λs=>V.bl (dP Ss s.2 s.1))++[.bl (dP Ss st.2 st.1)]))) k a:=λh=>(iK P w).upd_ ((iK P w).same s ((iK P w).upd_ h ntL)) ntW;obtain⟨ps,g1,g2,g3⟩:=B.mt;obtain⟨xs,d1,d2,d3⟩:=B.nm;refine⟨⟨ps,by rw [aj n4];exact s _ _ (by rw [aj n3];exact g1),g2,λj p t e1 e2=>kN (g3 j p t e1 e2)⟩,⟨xs,((d1.upd m3 ntL).same s).upd m4 ntW,d2,d3⟩,?_,λi d t e1 e2=>?_,λd hd=>?_,?_,by rw [aa8];simp;omega,B.mf,B.al,λb o hb e=>?_⟩
 ·rw [aj lw,ab4]
  exact s _ _ ae
 ·have hd:=ac0 e1
  by_cases hi:i < ds.length
  ·rw [ab7 hi]at e1
   obtain⟨zs,q1,q2⟩:=B.ld i d t e1 e2;exact⟨zs,((q1.upd (dL d hd).1 ntL).same s).upd (dL d hd).2 ntW,q2⟩
  ·rw [ac5 ()]at e1
   have h0':i - ds.length=0:=by
    have:=(aa1.mp e1).1
    simp at this;omega
   rw [h0']at e1;cases e1;rw [show i=ds.length by omega,hst]at e2;cases e2;exact⟨ys,((D.upd (dL dA hd).1 ntL).same s).upd (dL dA hd).2 ntW,L⟩
 ·rcases ac4.mp hd with hd | hd
  ·exact B.fr d hd
  ·rw [ab8.mp hd];exact h0
 ·rw [ae,aa8]
  show _=some (HO.lst (List.map _ (List.take (ds.length+1) met)));rw [ac6,hst,ab4];rfl
 ·have hb1:b≠la:=λq=>hb (by simp [q])
  have hb2:b≠wa:=λq=>hb (by simp [q]);rw [aj hb2];exact s _ _ (by rw [aj hb1];exact B.sx b o hb e)
end
def dR(a b:Addr):List (Str×V):=bu "rules" (.ref b) (bu "ranges" (.ref a) [])
structure Fw(K:Frag)(C:Addr)(c1 c2:Str):Prop where
 cl:u6 K C
 n1:NoAttr K C c1
 n2:NoAttr K C c2
abbrev fY(K:Frag)(C:Addr):=Fw K C "ranges" "rules"
theorem rj(a b:Addr):(dR a b).lookup (Str.ofString "ranges")=↑a:=by unfold dR;tm_at "f"
theorem oA(a b:Addr):(dR a b).lookup (Str.ofString "rules")=↑b:=by unfold dR;tm_at "f"
def bP(K:Frag)(H:Hp)(a:Addr)(bs:List (Int×Int)):Prop:=∃ts:List Addr,aJ K H a (ts.map V.ref)/\ts.length=bs.length/\∀(i:Nat) (t:Addr) (b:Int×Int),ts[i]?=some t->bs[i]?=some b->cI K H t [.int b.1,.int b.2]
theorem bP.same(s:au H H')(h:bP K H a bs):bP K H' a bs:=by
 obtain⟨ts,h1,h2,h3⟩:=h;exact⟨ts,s.seq h1,h2,λi t b e1 e2=>s.tup (h3 i t b e1 e2)⟩
def hJ(b:Int×Int):Int:=b.2 - b.1+1
def xJ(bs:List (Int×Int)):Int:=bs.foldl (λt b=>t * hJ b) 1
theorem sW(f:α->Int):∀(l:List α) (t:Int) (m:Nat),t.natAbs < 2 ^ m->(∀b∈l,(f b).natAbs < 2 ^ 200)->(l.foldl (λt b=>t * f b) t).natAbs < 2 ^ (m+200 * l.length)
 | [],t,m,h,_=>by simpa using h
 | b::l,t,m,h,hb=>by
  have h1:(t * f b).natAbs < 2 ^ (m+200):=by
   rw [Int.natAbs_mul,Nat.pow_add];exact Nat.mul_lt_mul_of_lt_of_le h (ah6 (hb b (by simp))) (Nat.pow_pos ∅)
  have:=sW f l (t * f b) (m+200) h1 λx hx=>hb x (by simp [hx])
  rw [ad4,show m+200 * (l.length+1)=m+200+200 * l.length by omega];exact this
theorem BF(h:∀b∈bs,(hJ b).natAbs < 2 ^ 200):(xJ bs).natAbs < 2 ^ (1+200 * bs.length):=sW hJ bs 1 1 ∅ h
theorem As{a b:Int}(ha:a.natAbs < 2 ^ m)(hb:b.natAbs < 2 ^ 200)(h:m<=100000):IntMulOk a b:=IntMulOk.of_le (m:=m) (n:=200) (intBits_le_iff.mpr ha) (intBits_le_iff.mpr hb) ()
def m5(K:Frag)(C:Addr):Sp:=λvs H Q _=>∃(x dx a b:Addr) (xs ys:List V),vs=[.ref x,.ref a,.ref b]/\H x=some (.ins C dx [])/\aJ K H a xs/\aJ K H b ys/\
 ∀p q H',H p=none->H q=none->q≠p->H'=upd (upd (upd H p (.lst xs)) q (.lst ys)) x (.ins C dx (dR p q))->Q .non H'
def wN(b:Int×Int):Nat:=(b.2 - b.1+1).toNat
def eF(b:Int×Int)(c:List Int):List (List Int):=(List.range (wN b)).map λ(j:Nat)=>c++[b.1+(j:Int)]
def bp(bs:List (Int×Int)):List (List Int):=bs.foldl (λtold b=>told.flatMap (eF b)) [[]]
def jC(bs:List (Int×Int)):Nat:=bs.foldl (λt b=>t * wN b) 1
theorem nW(bs:List (Int×Int))(b:Int×Int):bp (bs++[b])=(bp bs).flatMap (eF b):=by
 unfold bp;rw [ah9];rfl
theorem kT(bs:List (Int×Int))(b:Int×Int):jC (bs++[b])=jC bs * wN b:=by
 unfold jC;rw [ah9];rfl
theorem kU{w:Nat}{f:α->List β}(h:∀x,(f x).length=w):∀l:List α,(l.flatMap f).length=l.length * w
 | []=>by simp
 | x::l=>by rw [an5,aa8,h,kU h l,ad4,Nat.add_mul,Nat.one_mul,Nat.add_comm]
theorem gY(b:Int×Int)(c:List Int):(eF b c).length=wN b:=by
 unfold eF;rw [aa0,List.length_range]
theorem eU(bs:List (Int×Int)):(bp bs).length=jC bs:=by
 have go:∀(bs:List (Int×Int)) (told:List (List Int)),(bs.foldl (λtold b=>told.flatMap (eF b)) told).length=bs.foldl (λt b=>t * wN b) told.length:=by
  intro bs
  induction bs with
  | nil=>intro told;rfl
  | cons b bs ih=>intro told;rw [ae5,ae5,ih,kU (gY b)]
 exact go bs [[]]
theorem xK(h:∀b∈bs,b.1<=b.2):xJ bs=(jC bs:Int):=by
 have go:∀(bs:List (Int×Int)) (t:Nat),(∀b∈bs,b.1<=b.2)->bs.foldl (λt b=>t * hJ b) (t:Int)=((bs.foldl (λt b=>t * wN b) t:Nat):Int):=by
  intro bs
  induction bs with
  | nil=>intro t _;rfl
  | cons b bs ih=>
   intro t hb
   have:=hb b (by simp)
   rw [ae5,ae5,<-ih _ λx hx=>hb x (by simp [hx]),ao9];congr 2;unfold hJ wN;omega
 exact go bs 1 h
theorem nU:∀(bs:List (Int×Int)) (t:Nat),(∀b∈bs,1<=wN b)->t<=bs.foldl (λt b=>t * wN b) t
 | [],t,_=>aa9 _
 | b::bs,t,h=>ab6 (Nat.le_mul_of_pos_right t (h b (by simp))) (nU bs _ λx hx=>h x (by simp [hx]))
theorem iV(h:∀b∈bs,1<=wN b)(i:Nat):1<=jC (bs.take i)/\jC (bs.take i)<=jC bs:=by
 refine⟨nU _ 1 λb hb=>h b (al5 hb),?_⟩
 conv=>rhs;unfold jC;rw [<-List.take_append_drop i bs,ah9]
 exact nU _ _ λb hb=>h b (List.mem_of_mem_drop hb)
theorem Ec(h:∀b∈bs,1<=wN b)(hb:bs[i]?=some b):wN b<=jC bs:=by
 have h1:=(iV h (i+1)).2;rw [ac6,hb]at h1;have h2:jC (bs.take i++[b])=jC (bs.take i) * wN b:=kT _ _;have h3:=(iV h i).1;refine ab6 ?_ h1;show wN b<=jC (bs.take i++[b]);rw [h2];exact Nat.le_mul_of_pos_left _ h3
def jZ(H:Hp)(ps:List Addr)(cols:List (List Int)):Prop:=ps.length=cols.length/\∀(i:Nat) (p:Addr) (us:List Int),ps[i]?=some p->cols[i]?=some us->H p=some (.tup (us.map V.int))
def dq(H:Hp)(q:Addr)(cols:List (List Int)):Prop:=∃ps:List Addr,H q=some (.lst (ps.map V.ref))/\jZ H ps cols
theorem jZ.same(h:jZ H ps cols)(s:au H H'):jZ H' ps cols:=⟨h.1,λi p us e1 e2=>s _ _ (h.2 i p us e1 e2)⟩
theorem jZ.upd{ys:List V}(h:jZ H ps cols)(hz:H z=some (.lst xs)):jZ (upd H z (.lst ys)) ps cols:=⟨h.1,λi p us e1 e2=>by
 have:=h.2 i p us e1 e2
 rw [aj (dE this hz (λe=>by cases e))]
 exact this⟩
theorem jZ.append{qs:List Addr}{dols:List (List Int)}(h:jZ H ps cols)(g:jZ H qs dols):jZ H (ps++qs) (cols++dols):=by
 refine⟨by rw [aa8,aa8,h.1,g.1],λi p us e1 e2=>?_⟩
 by_cases hi:i < ps.length
 ·rw [ab7 hi]at e1
  rw [ab7 (by rw [<-h.1];exact hi)]at e2;exact h.2 i p us e1 e2
 ·rw [ac5 ()]at e1
  rw [ac5 (by rw [<-h.1];omega),<-h.1]at e2;exact g.2 _ p us e1 e2
theorem eB(bs:List (Int×Int)):∀c∈bp bs,c.length=bs.length:=by
 have go:∀(bs:List (Int×Int)) (told:List (List Int)) (n:Nat),(∀c∈told,c.length=n)->∀c∈bs.foldl (λtold b=>told.flatMap (eF b)) told,c.length=n+bs.length:=by
  intro bs
  induction bs with
  | nil=>intro told n h c hc;exact h c hc
  | cons b bs ih=>
   intro told n h c hc;rw [ae5]at hc
   have:=ih _ (n+1) (λc hc=>by
    obtain⟨d,hd,hc⟩:=ag5.mp hc;unfold eF at hc;obtain⟨j,_,rfl⟩:=ac3.mp hc;rw [aa8,h d hd]
    rfl) c hc
   rw [this,ad4];omega
 intro c hc
 have:=go bs [[]] 0 (λc hc=>by rw [ab8.mp hc];rfl) c hc
 omega
theorem n6{f:α->List β}:∀{l:List α},l.Nodup->(∀x∈l,(f x).Nodup)->(∀x y z,z∈f x->z∈f y->x=y)->(l.flatMap f).Nodup
 | [],_,_,_=>by simp
 | x::l,h,h1,h2=>by
  have hn:=ai8.mp h;rw [an5];refine an4.mpr ⟨h1 x (by simp),n6 hn.2 (λy hy=>h1 y (by simp [hy])) h2,λa ha b hb e=>?_⟩;obtain⟨y,hy,hb⟩:=ag5.mp hb;rw [<-e]at hb;rw [h2 x y a ha hb]at hn;exact hn.1 hy
theorem tN(bs:List (Int×Int)):(bp bs).Nodup:=by
 have go:∀(bs:List (Int×Int)) (told:List (List Int)),told.Nodup->(bs.foldl (λtold b=>told.flatMap (eF b)) told).Nodup:=by
  intro bs
  induction bs with
  | nil=>intro told h;exact h
  | cons b bs ih=>
   intro told h;rw [ae5];refine ih _ (n6 h (λc _=>?_) λx y z hx hy=>?_)
   ·unfold eF
    refine List.pairwise_map.mpr (List.nodup_range.imp λ{i j} hij e=>?_)
    have:=List.append_cancel_left e
    simp at this;omega
   ·unfold eF at hx hy
    obtain⟨i,_,rfl⟩:=ac3.mp hx;obtain⟨j,_,e⟩:=ac3.mp hy
    have:=congrArg List.dropLast e
    simp at this;exact this.symm
 exact go bs [[]] (by simp)
theorem dq.same(s:au H H')(h:dq H q cols):dq H' q cols:=by
 obtain⟨ps,h1,h2⟩:=h;exact⟨ps,s _ _ h1,h2.same s⟩
def D7(K:Frag):Sp:=λvs H Q _=>∃(c:Addr) (us:List Int) (b:Int×Int),vs=[.ref c,.int b.1,.int b.2]/\H c=some (.tup (us.map V.int))/\us.length<=10/\wN b<=400/\∀q H',H q=none->dq H' q (eF b us)->au H H'->Q (.ref q) H'
def rW(P:Program)(w:World)(K:Frag)(mg:Str->Option Value)(base:Heap)(C:Addr)(nv:Nat)(bs:List (Int×Int))(Ss:List bV)(Gs:List (Int->Prop))(x:Addr)(H:Hp):Prop:=∃(dx a b:Addr) (rs:List Addr),H x=some (.ins C dx (dR a b))/\bP K H a bs/\~~~jY nv Ss Gs H b rs
def GW(bs:List (Int×Int))(Ss:List bV):Int:=Ss.foldl (λt S=>t * S.size) (xJ bs)
def uU(P:Program)(w:World)(K:Frag)(mg:Str->Option Value)(base:Heap)(C:Addr):Sp:=λvs H Q _=>∃(x:Addr) (nv:Nat) (bs:List (Int×Int)) (Ss:List bV) (Gs:List (Int->Prop)),vs=[.ref x]/\~~~rW C nv bs Ss Gs x H/\bs.length<=100/\Ss.length<=100/\(∀b∈bs,(hJ b).natAbs < 2 ^ 200)/\(∀S∈Ss,(S.size).natAbs < 2 ^ 200)/\Q (.int (GW bs Ss)) H
def rJ(P:Program)(w:World)(K:Frag)(mg:Str->Option Value)(base:Heap)(C:Addr):Sp:=λvs H Q _=>∃(x:Addr) (nv:Nat) (bs:List (Int×Int)) (Ss:List bV) (Gs:List (Int->Prop)),vs=[.ref x]/\~~~rW C nv bs Ss Gs x H/\bs.length<=100/\Ss.length<=100/\(∀b∈bs,(hJ b).natAbs < 2 ^ 200)/\(∀S∈Ss,(S.size).natAbs < 2 ^ 200)/\GW bs Ss<=400/\Q (.ref x) H
def mK(K:Frag)(C:Addr):Sp:=λvs H Q _=>∃(x dx a b:Addr) (bs:List (Int×Int)),vs=[.ref x]/\H x=some (.ins C dx (dR a b))/\bP K H a bs/\bs.length<=4/\(∀b∈bs,1<=wN b)/\jC bs<=400/\∀q H',H q=none->dq H' q (bp bs)->au H H'->Q (.ref q) H'
def cC(la wa sc:Addr):List (Str×V):=bu "score" (.ref sc) (bu "well" (.ref wa) (bu "leads" (.ref la) []))
abbrev kH(K:Frag)(C:Addr):=qQ K C "leads" "well" "score"
theorem iZ(a b c:Addr):(cC a b c).lookup (Str.ofString "leads")=↑a:=by unfold cC;tm_at "f"
theorem CB(a b c:Addr):(cC a b c).lookup (Str.ofString "well")=↑b:=by unfold cC;tm_at "f"
theorem An(a b c:Addr):(cC a b c).lookup (Str.ofString "score")=↑c:=by unfold cC;tm_at "f"
structure vc(Ss:List bV)(cols:List (List Int))(U:List MS):Prop where
 st:(none,Ss.map (·.start))∈U
 cl:∀s∈U,∀c∈cols,∀s',dc Ss s c=some s'->s'∈U
 sz:U.length<=10000
def zg(P:Program)(w:World)(Ss:List bV)(cols:List (List Int))(la wa:Addr)(H:Hp)(met:List MS):Prop:=∃ds:List Addr,H la=some (.lst (ds.map V.ref))/\ds.length=met.length/\H wa=some (.lst (met.map λs=>V.bl (dP Ss s.2 s.1)))/\
 ∀(i:Nat) (d:Addr) (s:MS),ds[i]?=some d->met[i]?=some s->∃xs,bO (B6 P w) H d xs/\eG Ss cols met s xs
inductive tE(P:Program)(w:World)(K:Frag)(mg:Str->Option Value)(base:Heap)(C Cs:Addr):Sp
 | mk {vs:List V} {H:Hp} {Q:VK} {E:XK} (x dx ma na sa la wa sc dsc ra rb p0:Addr) (nv:Nat) (Ss:List bV) (Gs:List (Int->Prop)) (rs cs:List Addr) (cols:List (List Int)) (U:List MS) (Hs:Hp):vs=[.ref x,.ref ma,.ref na,.ref sa]->H x=some (.ins C dx (cC la wa sc))->H sc=some (.ins Cs dsc (dR ra rb))->au Hs H->Hs ma=none->Hs na=none->Hs la=none->Hs wa=none->~~~jY nv Ss Gs Hs rb rs->Ss.length<=100->rV Gs (Ss.map (·.start))->H ma=some (.lst [.ref p0])->(iK P w).at_ H (cj (none,Ss.map (·.start))) p0->bO (iK P w) H na [(cj (none,Ss.map (·.start)),p0,.int 0)]->H la=some (.lst [])->H wa=some (.lst [])->ma≠la->ma≠wa->la≠wa->H sa=some (.lst (cs.map V.ref))->sa≠ma->sa≠la->sa≠wa->jZ H cs cols->(∀c∈cols,c.length=nv)->cols.length<=1000->cols.Nodup->vc Ss cols U->(∀met H',wO Ss cols met->(∀s∈met,s∈U)->(∀(s:MS),s∈met->∀c∈cols,∀s',dc Ss s c=some s'->s'∈met)->zg P w Ss cols la wa H' met->zh [ma,na,la,wa] H H'->Q .non H')->~~~tE C Cs vs H Q E
theorem qg(F:b0 K "__init__" "Score.__init__" fe f fd)(T:Txt mg aM)(TC:fY K C): ~~~aL bU 1 f fd ["self","ranges","rules"] (m5 K C):=by
 refine F.ok lI λ_ A _ s H vs Q E hr h=>?_;obtain⟨x,dx,a,b,xs,ys,rfl,hx,ha,hb,k⟩:=h
 refine⟨rfl,_,(ag (bI (pr 0) (bf (di K) ⋯ T.n_list boot_list (aa (pr 1) ah)) rfl)
 (ai (bI (pr 0) (bf (di K) ⋯ T.n_list boot_list (aa (pr 2) ah)) rfl))),?_⟩
 refine iL λRk rk=>?_;tm_at "r";have ln:∀(f:Str) (v:V) (l:List (Str×V)) (n:Nat),l.length<=n->(bu f v l).length<=n+1:=λf v l n h=>ab6 (bC f v l) (ae0 h);refine⟨xs,.inl ha,λp hp=>?_⟩
 have px:p≠x:=λe=>by subst e;rw [hx]at hp;cases hp
 refine⟨C,dx,[],by rw [aj (Ne.symm px)];exact hx,TC.cl,TC.n1,∅,rk _ _ ?_⟩;tm_at "r";refine⟨ys,.inl (((aq hp).seq hb).at_ins (by rw [aj (Ne.symm px)];exact hx)),λq hq=>?_⟩
 have qx:q≠x:=λe=>by subst e;rw [ae]at hq;cases hq
 rw [aj qx]at hq
 have qp:q≠p:=λe=>by subst e;rw [ae]at hq;cases hq
 rw [aj qp]at hq;refine⟨C,dx,_,by rw [aj (Ne.symm qx),ae],TC.cl,TC.n2,aa7 (ln _ _ _ _ (ac2 0)) ∅,?_⟩;refine k p q _ hp hq qp ?_;rw [fE];rfl
theorem yH(F:b0 K "weight" "weight" oY f fd)(T:Txt mg aM)(TC:fY K C): ~~~aL bU 8 f fd ["score"] (~~~uU C):=by
 refine F.ok sc_weight λ_ A _ s H vs Q E hr h=>?_;obtain⟨x,nv,bs,Ss,Gs,rfl,⟨dx,a,b,rs,hx,⟨ts,hts,htl,htc⟩,RM⟩,lb,lr,hwb,hwr,q⟩:=h;have hrs:=RM.sq;have hrl:=RM.len;have lg:=RM.gl
 refine⟨rfl,_,(ag (cU (i:=1) sc_weight.nd af)
 (ag (cw PassesOwn.never rfl (bF K (aV (pr 0) rfl)) (fT K (n:=2) rfl (bT (jR (i:=2) sc_weight.nd) (bT (jR (i:=3) sc_weight.nd) fU)))
 (ai (Gg (AR (i:=1) sc_weight.nd rfl (Or.inl rfl) (ar (bL K) (ar (o0 bD) (pr 3) (pr 2)) af) (o1 tX)))))
 (ag (cw PassesOwn.never rfl (bF K (aV (pr 0) rfl)) (jR (i:=4) sc_weight.nd)
 (ai (Gg (AR (i:=1) sc_weight.nd rfl (Or.inl rfl) (~~~mh hr (pr 4)) (o1 tX)))))
 (ai (av (pr 1)))))),?_⟩
 refine aN (λZ H'=>Z=[↑x,some (.int 1),none,none,none]/\H=H') ?_ ?_
 ·intro u' hu
  tm_at "r";exact hu _ _ ⟨rfl,rfl⟩
 rintro Ω ω _ _ ⟨rfl,rfl⟩;refine ω _ _ (aN (λZ H'=>∃o1 o2:Option V,Z=[↑x,⇑(xJ bs),o1,o2,none]/\H=H') ?_ ?_)
 ·intro u' hu
  tm_at "r";refine⟨C,dx,_,hx,TC.cl,TC.n1,_,rj a b,bK hts (c7 (xs:=ts.map V.ref) (λi Z H'=>∃o1 o2:Option V,Z=[↑x,some (.int (xJ (bs.take i))),o1,o2,none]/\H=H') ⟨none,none,rfl,rfl⟩ (λi Z H' _ z=>by obtain⟨_,_,_,z⟩:=z;exact z▸hts) ?_ ?_)⟩
  ·rintro i y Z H1 hy ⟨o1,o2,rfl,rfl⟩
   rw [aa4]at hy
   cases ht:ts[i]? with
   | none=>rw [ht]at hy;cases hy
   | some t=>
    rw [ht]at hy;cases hy
    have hi:i < bs.length:=by rw [<-htl];exact(aa1.mp ht).1
    have hb:bs[i]?=some bs[i]:=aa2 hi
    have e:xJ (bs.take (i+1))=xJ (bs.take i) * hJ bs[i]:=by
     unfold xJ;rw [ac6,hb,ah9];rfl
    tm_at "r";refine⟨_,htc i t _ ht hb,rfl,?_⟩;tm_at "r";rw [e];have hw:=hwb _ (ad5 hi);have ht:=BF (bs:=bs.take i) λb hb=>hwb b (al5 hb);exact⟨As ht hw (by rw [ac9];omega),rfl⟩
  ·rintro Z H1 ⟨o1,o2,rfl,rfl⟩
   rw [aa0,htl,ad6];exact hu _ _ ⟨o1,o2,rfl,rfl⟩
 rintro Ω ω _ _ ⟨o1,o2,rfl,rfl⟩;refine ω _ _ ?_;tm_at "r";refine⟨C,dx,_,hx,TC.cl,TC.n2,_,oA a b,bK hrs (c7 (xs:=rs.map V.ref) (λi Z H'=>∃o3:Option V,Z=[↑x,some (.int ((Ss.take i).foldl (λt S=>t * S.size) (xJ bs))),o1,o2,o3]/\H=H') ⟨none,rfl,rfl⟩ (λi Z H' _ z=>by obtain⟨_,_,z⟩:=z;exact z▸hrs) ?_ ?_)⟩
 ·rintro i y Z H1 hy ⟨o3,rfl,rfl⟩
  rw [aa4]at hy
  cases ht:rs[i]? with
  | none=>rw [ht]at hy;cases hy
  | some r=>
   rw [ht]at hy;cases hy
   have hi:i < Ss.length:=by rw [<-hrl];exact(aa1.mp ht).1
   have hb:Ss[i]?=some Ss[i]:=aa2 hi;obtain⟨Cr,RI,RB,hri⟩:=RM.at_ i r _ (Gs[i]'()) ht hb (aa2 ());obtain⟨dr,fr,hir,q1,_⟩:=RB.ins r _ hri;tm_at "r";refine⟨Cr,dr,fr,hir,q1,_,_,RB.size,r,rfl,hri,?_⟩;tm_at "r";rw [ac6,hb,ah9];have hw:=hwr _ (ad5 hi);have ht:=sW (λS:bV=>S.size) (Ss.take i) (xJ bs) _ (BF hwb) λS hS=>hwr S (al5 hS);exact⟨As ht hw (by rw [ac9];omega),rfl⟩
 ·rintro Z H1 ⟨o3,rfl,rfl⟩
  rw [aa0,hrl,ad6];tm_at "r";exact q
theorem ni(F:b0 K "not_too_wide" "not_too_wide" gr f fd)(T:Txt mg aM)(D_weight: ~~~cB "weight" 8 ["score"] (~~~uU C)): ~~~aL bU 9 f fd ["score"] (~~~rJ C):=by
 refine F.ok sc_not_too_wide λ_ A _ s H vs Q E hr h=>?_;obtain⟨x,nv,bs,Ss,Gs,rfl,S,lb,lr,hwb,hwr,hle,q⟩:=h
 refine⟨rfl,_,(ag (cU (i:=1) sc_not_too_wide.nd (aA D_weight hr ⋯ (aa (pr 0) ah)))
 (ag (aP (ba (ay (o0 i7) (pr 1) (ia T.g_MOST_WEIGHT) (az _))) (ai lC) aB)
 (ai (av (pr 0))))),?_⟩
 tm_at "r";refine⟨x,nv,bs,Ss,Gs,rfl,S,lb,lr,hwb,hwr,?_⟩;tm_at "r";rw [if_neg ()];exact q
theorem qr(F:b0 K "lengthened" "lengthened" iC f fd)(T:Txt mg aM): ~~~aL bU 1 f fd ["column","low","high"] (D7 K):=by
 refine F.ok qL λ_ A _ s H vs Q E hr h=>?_;obtain⟨c,us,b,rfl,hc,hu,hw,k⟩:=h;refine⟨rfl,_,(ai (av (cX (own:=["note"]) (js:=[0]) rfl (oU rfl T.n_range (aa (pr 1) (aa (ar (xa K) (pr 2) af) ah))) (bB.of ⋯) (λ_ _ _ _ _=>(bM (i:=0) (show List.Nodup (["note","column"]:List Str)from by decide +kernel) rfl (Or.inl rfl))) (λ_ _ _ _ _=>cn) (λ_ _ _ _ _=>(ar (xa K) (pr 1) (dk (aa (pr 0) ah))))))),?_⟩;have hs:=sizeLine_eq;tm_at "r"
 have ek:(b.2+1 - b.1).toNat=wN b:=by unfold wN;omega
 rw [ek];refine gA (λi ys H'=>∃ps:List Addr,ys=ps.map V.ref/\ps.length=i/\(∀(j:Nat) (p:Addr),ps[j]?=some p->H' p=some (.tup ((us++[b.1+(j:Int)]).map V.int)))/\au H H') () ⟨[],rfl,rfl,(λj p e=>nomatch e),au.refl _⟩ ?_ ?_ ?_
 ·rintro i ys H' ⟨ps,rfl,hl,_⟩
  rw [aa0];omega
 ·rintro i ys H1 hi ⟨ps,rfl,hl,hp,s1⟩
  simp only [iF];tm_at "r";refine⟨(),λt ht=>?_⟩;have s2:=s1.upd (o:=HO.tup [V.int (b.1+i)]) ht;have ht2:(upd H1 t (HO.tup [V.int (b.1+i)])) t=some (.tup [V.int (b.1+i)]):=ae;have s12:au H1 (upd H1 t (HO.tup [V.int (b.1+i)])):=aq ht;generalize upd H1 t (HO.tup [V.int (b.1+i)])=H2 at s2 ht2 s12;refine uD (s2 _ _ hc) ht2 (by rw [aa0];simp;omega) λp H3 s3 hp3=>?_;refine⟨ps++[p],by rw [ab4];rfl,by rw [aa8,hl];rfl,λj p' e=>?_,s2.trans s3⟩
  by_cases hj:j < ps.length
  ·rw [ab7 hj]at e
   exact(s12.trans s3) _ _ (hp j p' e)
  ·rw [ac5 ()]at e
   have ej:j=ps.length:=by
    have:=(aa1.mp e).1
    simp at this;omega
   rw [ej,ak0]at e;cases e;rw [hp3,ej,hl,ab4];rfl
 ·rintro ys H1 ⟨ps,rfl,hl,hp,s1⟩ q hq
  refine k q _ (s1.free hq) ⟨ps,ae,by rw [gY];exact hl,λi p us' e1 e2=>?_⟩ (s1.upd hq)
  have hi:i < wN b:=by rw [<-hl];exact(aa1.mp e1).1
  unfold eF at e2;rw [aa4,ae3 hi]at e2;cases e2;exact(aq hq) _ _ (hp i p e1)
theorem vD(F:b0 K "columns" "columns" mq f fd)(T:Txt mg aM)(TC:fY K C)(D_lengthened: ~~~cB "lengthened" 1 ["column","low","high"] (D7 K)): ~~~aL bU 2 f fd ["score"] (mK K C):=by
 refine F.ok sc_columns λ_ A _ s H vs Q E hr h=>?_;obtain⟨x,dx,a,b,bs,rfl,hx,⟨ts,hts,htl,htc⟩,lb,hw,hc,k⟩:=h
 refine⟨rfl,_,(ag (cU (i:=1) sc_columns.nd (bN (aa (dk ah) ah)))
 (ag (cw PassesOwn.never rfl (bF K (aV (pr 0) rfl)) (fT K (n:=2) rfl (bT (jR (i:=2) sc_columns.nd) (bT (jR (i:=3) sc_columns.nd) fU)))
 (ag (cU (i:=4) sc_columns.nd (bN ah))
 (ag (cw PassesOwn.never rfl (bF K (pr 1)) (jR (i:=5) sc_columns.nd)
 (ai (bG (bW K PySem.F.plainAttrs_list PySem.F.slot_list_extend PySem.F.type_list_extend rz (pr 4) (aa (aA D_lengthened hr ⋯ (aa (pr 5) (aa (pr 2) (aa (pr 3) ah)))) ah)))))
 (ai (cU (i:=1) sc_columns.nd (pr 4))))))
 (ai (av (pr 1))))),?_⟩
 have hs:=sizeLine_eq;refine aN (λZ H'=>∃q:Addr,H q=none/\dq H' q (bp [])/\Z=[↑x,↑q,none,none,none,none]/\au H H') ?_ ?_
 ·intro u' hu
  tm_at "r";refine⟨(),λt ht=>⟨(),λq hq=>?_⟩⟩;have s1:=aq (o:=HO.tup []) ht;refine hu _ _ ⟨q,s1.free hq,⟨[t],ae,rfl,λi p us e1 e2=>?_⟩,rfl,s1.upd hq⟩
  have hi:i=0:=by
   have:=(aa1.mp e1).1
   simp at this;exact this
  subst hi;cases e1;cases e2;exact(aq hq) _ _ ae
 rintro Ω ω _ H1 ⟨q,hq0,hq1,rfl,s1⟩;refine ω _ _ (aN (λZ H'=>∃(q:Addr) (o2 o3 o4 o5:Option V),H q=none/\dq H' q (bp bs)/\Z=[↑x,↑q,o2,o3,o4,o5]/\au H H') ?_ ?_)
 ·intro u' hu
  tm_at "r";refine⟨C,dx,_,s1 _ _ hx,TC.cl,TC.n1,_,rj a b,bK (s1.seq hts) (c7 (xs:=ts.map V.ref) (λi Z H'=>∃(q:Addr) (o2 o3 o4 o5:Option V),H q=none/\dq H' q (bp (bs.take i))/\Z=[↑x,↑q,o2,o3,o4,o5]/\au H H') ⟨q,none,none,none,none,hq0,hq1,rfl,s1⟩ (λi Z H' _ h=>?_) ?_ ?_)⟩
  ·obtain⟨_,_,_,_,_,_,_,_,s'⟩:=h
   exact s'.seq hts
  ·rintro i y Z H2 hy ⟨q,o2,o3,o4,o5,hq0,⟨ps,hq2,hpc⟩,rfl,s2⟩
   rw [aa4]at hy
   cases ht:ts[i]? with
   | none=>rw [ht]at hy;cases hy
   | some t=>
    rw [ht]at hy;cases hy
    have hi:i < bs.length:=by rw [<-htl];exact(aa1.mp ht).1
    have hb:bs[i]?=some bs[i]:=aa2 hi;tm_at "r";refine⟨_,s2.tup (htc i t _ ht hb),rfl,?_⟩;tm_at "r";refine⟨(),λp hp=>?_⟩;have s23:=aq (o:=HO.lst []) hp;have hp3:(upd H2 p (HO.lst [])) p=some (.lst (([]:List Addr).map V.ref)):=ae;have hH3:=hp3;generalize upd H2 p (HO.lst [])=H3 at s23 hp3;have ew:wN bs[i]<=400:=ab6 (Ec hw hb) hc
    have en:jC (bs.take (i+1))=jC (bs.take i) * wN bs[i]:=by
     rw [ac6,hb];exact kT _ _
    have en':=(iV hw (i+1)).2
    have ec:bp (bs.take (i+1))=(bp (bs.take i)).flatMap (eF bs[i]):=by
     rw [ac6,hb];exact nW _ _
    have ewd:=eB (bs.take i);have ecl:=eU (bs.take i);have hpl:=hpc.1;rw [ec];generalize bs[i]=b at *;generalize bp (bs.take i)=cols at *;refine bK (aJ.of (s23 _ _ hq2)) (c7 (xs:=ps.map V.ref) (λj Z H'=>∃(o5:Option V) (ps':List Addr),H' p=some (.lst (ps'.map V.ref))/\jZ H' ps' ((cols.take j).flatMap (eF b))/\au H2 H'/\Z=[some (V.ref x),some (V.ref q),some (V.int b.1),some (V.int b.2),some (V.ref p),o5]) ⟨o5,[],hp3,⟨rfl,λi p us e=>nomatch e⟩,s23,rfl⟩ (λj Z H' _ h=>?_) ?_ ?_)
    ·obtain⟨_,_,_,_,s',_⟩:=h
     exact aJ.of (s' _ _ hq2)
    ·rintro j y Z H4 hy ⟨o5,ps',hp4,hT,s24,rfl⟩
     rw [aa4]at hy
     cases hcj:ps[j]? with
     | none=>rw [hcj]at hy;cases hy
     | some c=>
      rw [hcj]at hy;cases hy
      have hj:j < cols.length:=by rw [<-hpl];exact(aa1.mp hcj).1
      have hcc:cols[j]?=some cols[j]:=aa2 hj;have hus:=hpc.2 j c _ hcj hcc;have hul:=ewd _ (ad5 hj)
      have estep:(cols.take (j+1)).flatMap (eF b)=(cols.take j).flatMap (eF b)++eF b cols[j]:=by
       rw [ac6,hcc,List.flatMap_append];simp
      rw [estep];generalize cols[j]=us at *;tm_at "r";refine⟨.inl ⟨rfl,_,aJ.of hp4⟩,c,us,b,rfl,s24 _ _ hus,by rw [hul,ac9];omega,ew,λr H5 hr0 hr5 s45=>?_⟩;obtain⟨rs,hr5,hrT⟩:=hr5;have hp5:=s45 _ _ hp4
      have l1:ps'.length<=400:=by
       rw [hT.1,kU (gY b),ac9];refine ab6 (al6 _ (aj6 _ _)) ?_;rw [ecl,<-en];omega
      have l2:rs.length<=400:=by rw [hrT.1,gY];exact ew
      refine⟨p,r,_,_,rfl,rfl,hp5,hr5,by rw [aa0,aa0];omega,↑c,ps' ++ rs,by rw [ae,ab4],((hT.same s45).append hrT).upd hp5,y6 hp (s24.trans s45),rfl⟩
    ·rintro Z H4 ⟨o5,ps',hp4,hT,s24,rfl⟩
     rw [aa0,hpl,ad6]at hT;tm_at "r";exact⟨p,s2.free hp,⟨ps',hp4,hT⟩,rfl,s2.trans s24⟩
  ·rintro Z H2 ⟨q,o2,o3,o4,o5,hq0,hq2,rfl,s2⟩
   rw [aa0,htl,ad6]at hq2;exact hu _ _ ⟨q,o2,o3,o4,o5,hq0,hq2,rfl,s2⟩
 rintro Ω ω _ H2 ⟨q,o2,o3,o4,o5,hq0,hq2,rfl,s2⟩;refine ω _ _ ?_;tm_at "r";exact k q H2 hq0 hq2 s2
theorem AA(F:b0 K "build" "Machine.build" fK f fd)(T:Txt mg aM)(TC:kH K C)(TS:fY K Cs)(D_memories_after: ~~~cB "memories_after" 9 ["rules","memories","before","column"] (~~~kz))(D_all_close: ~~~cB "all_close" 9 ["rules","memories","last"] (~~~pq)):
  ~~~aL bU 10 f fd ["self","met","numbers","steps"] (~~~tE C Cs):=by
 refine F.ok sc_Machine_build λ_ A _ s H vs Q E hr h=>?_;obtain⟨x,dx,ma,na,sa,la,wa,sc,dsc,ra,rb,p0,nv,Ss,Gs,rs,cs,cols,U,Hs,rfl,hx,hsc,sHs,z1,z2,z3,z4,RM,lS,hM0,hma,hp0,hna,hla,hwa,n1,n2,n3,hsa,q1,q2,q3,hT,hcw,hcl,hnd,CU,k⟩:=h
 refine⟨rfl,_,(ag (cU (i:=4) sc_Machine_build.nd (aV (aV (pr 0) rfl) rfl))
 (ai (AS PassesOwn.never (ba (ay (o0 j6) (aD (aG K) ⋯ T.n_len boot_len (aa (aV (pr 0) rfl) ah)) (aD (aG K) ⋯ T.n_len boot_len (aa (pr 1) ah)) (az _))) (ag (cU (i:=5) sc_Machine_build.nd (aw (aC K) (aw (aC K) (pr 1) (aD (aG K) ⋯ T.n_len boot_len (aa (aV (pr 0) rfl) ah)) (λ_ _=>rfl)) af (λ_ _=>rfl)))
 (ag (cU (i:=6) sc_Machine_build.nd (aw (aC K) (aw (aC K) (pr 1) (aD (aG K) ⋯ T.n_len boot_len (aa (aV (pr 0) rfl) ah)) (λ_ _=>rfl)) af (λ_ _=>rfl)))
 (ag (cU (i:=7) sc_Machine_build.nd (C7 (kk':=B6 P w)))
 (ag (cw PassesOwn.never rfl (bF K (pr 3)) (jR (i:=8) sc_Machine_build.nd)
 (ag (cU (i:=9) sc_Machine_build.nd (dk (aa (pr 8) (aa (aA D_memories_after hr ⋯ (aa (pr 4) (aa (pr 6) (aa (pr 5) (aa (pr 8) ah))))) ah))))
 (ag (aP (ba (ay eL (aw (aC K) (pr 9) af (λ_ _=>rfl)) aZ (az _))) (ai jc) aB)
 (ag (aP (ba (ay (AJ (kk':=iK P w) (iX hr)) (pr 9) (pr 2) (by with_unfolding_all rfl))) (ag (mi (aD (aG K) ⋯ T.n_len boot_len (aa (pr 1) ah)) (sU (pr 2) (pr 9) (Gn (kk':=iK P w) (iX hr))))
 (ai (bG (bW K PySem.F.plainAttrs_list PySem.F.slot_list_append PySem.F.type_list_append cA (pr 1) (aa (pr 9) ah))))) aB)
 (ai (mi (aw (ixD (kk':=iK P w) (iX hr)) (pr 2) (pr 9) (λ_ _=>rfl)) (sU (pr 7) (pr 8) (Gn (kk':=B6 P w) (iX hr)))))))))
 (ag (bG (bW K PySem.F.plainAttrs_list PySem.F.slot_list_append PySem.F.type_list_append cA (aV (pr 0) rfl) (aa (pr 7) ah)))
 (ai (bG (bW K PySem.F.plainAttrs_list PySem.F.slot_list_append PySem.F.type_list_append cA (aV (pr 0) rfl) (aa (aA D_all_close hr ⋯ (aa (pr 4) (aa (pr 6) (aa (pr 5) ah)))) ah)))))))))))),?_⟩
 have hs:=sizeLine_eq;have mna:ma≠na:=dE hma hna.ob (λe=>by cases e);have nla:na≠la:=dE hna.ob hla (λe=>by cases e);have nwa:na≠wa:=dE hna.ob hwa (λe=>by cases e)
 have xm:x∉[ma,na,la,wa]:=λh=>by
  simp only [ab2,ad2,or_false]at h;rcases h with rfl | rfl | rfl | rfl
  ·rw [hma]at hx;cases hx
  ·rw [hna.ob]at hx;cases hx
  ·rw [hla]at hx;cases hx
  ·rw [hwa]at hx;cases hx
 have sm:sa∉[ma,na,la,wa]:=λh=>by
  simp only [ab2,ad2,or_false]at h;rcases h with rfl | rfl | rfl | rfl
  ·exact q1 rfl
  ·rw [hna.ob]at hsa;cases hsa
  ·exact q2 rfl
  ·exact q3 rfl
 have tm:∀{a:Addr} {vs:List V},H a=some (.tup vs)->a∉[ma,na,la,wa]:=λ{a vs} e h=>by
  simp only [ab2,ad2,or_false]at h;rcases h with rfl | rfl | rfl | rfl
  ·rw [hma]at e;cases e
  ·rw [hna.ob]at e;cases e
  ·rw [hla]at e;cases e
  ·rw [hwa]at e;cases e
 have toS:∀{H':Hp},zh [ma,na,la,wa] H H'->au Hs H':=λ{H'} sx b o e=>by
  refine sx b o (λh=>?_) (sHs b o e);simp only [ab2,ad2,or_false]at h;rcases h with rfl | rfl | rfl | rfl
  ·rw [z1]at e;cases e
  ·rw [z2]at e;cases e
  ·rw [z3]at e;cases e
  ·rw [z4]at e;cases e
 have lenU:∀{H':Hp} {met:List MS} {ds:List Addr},iM P w Ss Gs cols nv U H ma na la wa H' met ds->met.length<=U.length:=λB=>oG _ U B.mf.nd λs hs=>(B.al s hs).1;have szU:=CU.sz;refine aN (λZ H'=>H=H'/\Z=[↑x,↑ma,↑na,↑sa,↑rb,none,none,none,none,none]) ?_ ?_
 ·intro u' hu
  tm_at "r";exact⟨C,dx,_,hx,TC.cl,TC.n3,_,An la wa sc,sc,rfl,Cs,dsc,_,hsc,TS.cl,TS.n2,_,oA ra rb,hu _ _ ⟨rfl,rfl⟩⟩
 rintro Ω ω _ _ ⟨rfl,rfl⟩;obtain⟨W,hW⟩:∃W:Nat->L2.St->Hp->Prop,W=λm Z H'=>∃(met:List MS) (ds:List Addr) (o5 o6 o7 o8 o9:Option V),iM P w Ss Gs cols nv U H ma na la wa H' met ds/\m=U.length - ds.length/\Z=[↑x,↑ma,↑na,↑sa,↑rb,o5,o6,o7,o8,o9]:=⟨_,rfl⟩;refine ω _ _ ?_;refine⟨W,⟨U.length,?_⟩,?_⟩
 ·rw [hW]
  refine⟨[(none,Ss.map (·.start))],[],none,none,none,none,none,⟨⟨[p0],hma,rfl,λj p t e1 e2=>?_⟩,⟨_,hna,⟨λj t e=>?_,λk hk=>?_⟩,aa9 _⟩,hla,λi d t e=>(by cases e),(λd hd=>by cases hd),hwa,ac2 _,⟨by simp,rfl,λi t e hi=>?_⟩,λt ht=>?_,λb o _ e=>e⟩,rfl,rfl⟩
  ·have hj:j=0:=by
    have:=(aa1.mp e1).1
    simp at this;exact this
   subst hj;cases e1;cases e2;exact hp0
  ·have hj:j=0:=by
    have:=(aa1.mp e).1
    simp at this;exact this
   subst hj;cases e;simp [jL]
  ·refine⟨(none,Ss.map (·.start)),by simp,?_⟩
   by_cases e:k=cj (none,Ss.map (·.start))
   ·exact e
   ·refine absurd ?_ hk
    unfold jL;rw [af2,decide_eq_false (λz=>e z.symm)];rfl
  ·have hj:i=0:=by
    have:=(aa1.mp e).1
    simp at this;exact this
   omega
  ·rw [ab8.mp ht]
   exact⟨CU.st,hM0,λc e=>by cases e⟩
 intro m Z H1 hI;rw [hW]at hI;obtain⟨met,ds,o5,o6,o7,o8,o9,B,rfl,rfl⟩:=hI;have hx1:=B.sx x _ xm hx;obtain⟨ps,hm1,hpl,hpk⟩:=B.mt;have ltU:=lenU B;refine GF λA0 B0 hA hB=>?_;tm_at "r";refine⟨C,dx,_,hx1,TC.cl,TC.n1,_,iZ la wa sc,.inr ⟨_,rfl,_,.inl (aJ.of B.la_),_,.inl (aJ.of hm1),?_⟩⟩;rw [aa0,aa0,hpl]
 by_cases hlt:(ds.length:Int) < (met.length:Int)
 ·rw [if_pos hlt]
  refine hA _ ?_
  have hlt:ds.length < met.length:=by omega
  obtain⟨st,hst⟩:∃st,met[ds.length]?=some st:=⟨_,aa2 hlt⟩;obtain⟨pp,hpp⟩:∃pp,ps[ds.length]?=some pp:=⟨_,aa2 ()⟩;obtain⟨vs,hv1,hv2⟩:=hpk _ _ _ hpp hst
  obtain⟨bx,mA,rfl,hbx,hmA⟩:∃bx mA,vs=[bx,.ref mA]/\oq H1 st.1 bx/\H1 mA=some (.tup (st.2.map V.int)):=by
   cases vs with
   | nil=>exact hv2.elim
   | cons v1 vs=>
    cases vs with
    | nil=>exact hv2.2.elim
    | cons v2 vs=>
     cases vs with
     | nil=>
      obtain⟨g1,⟨b,e,g2⟩,_⟩:=hv2;exact⟨v1,b,by rw [e],g1,g2⟩
     | cons _ _=>exact hv2.2.2.elim
  obtain⟨hstU,hstM,hstW⟩:=B.al st (ac0 hst)
  have hbv:∀H',au H1 H'->BV K H' nv st.1 bx:=λH' s'=>by
   cases e:st.1 with
   | none=>
    rw [e]at hbx;exact .inl ⟨rfl,hbx⟩
   | some c=>
    rw [e]at hbx;obtain⟨b,rfl,hb⟩:=hbx;exact .inr ⟨b,c,rfl,rfl,cI.of (s' _ _ hb),hstW c e⟩
  obtain⟨N,hN⟩:∃N:L2.St->Hp->Prop,N=λZ H'=>∃(met':List MS) (ds':List Addr) (o5 o6 o7 o8 o9:Option V),iM P w Ss Gs cols nv U H ma na la wa H' met' ds'/\ds'.length=ds.length+1/\Z=[↑x,↑ma,↑na,↑sa,↑rb,o5,o6,o7,o8,o9]:=⟨_,rfl⟩;refine⟨N,λZc H' h=>?_,?_⟩
  ·rw [hN]at h
   obtain⟨met',ds',o5,o6,o7,o8,o9,B',hl',rfl⟩:=h;refine⟨U.length - ds'.length,(),?_⟩;rw [hW];exact⟨met',ds',o5,o6,o7,o8,o9,B',rfl,rfl⟩
  have GJ:∀Q',Q' bx H1->nk K (V.ref ma) (V.int ds.length) H1 λy H2=>nk K y (V.int 0) H2 Q':=λQ' h'=>bq (aJ.of hm1) (aK (by rw [aa4,hpp];rfl)) (dw (cI.of hv1) (bH rfl) h');have at2:∀Q',Q' (V.ref mA) H1->nk K (V.ref ma) (V.int ds.length) H1 λy H2=>nk K y (V.int 1) H2 Q':=λQ' h'=>bq (aJ.of hm1) (aK (by rw [aa4,hpp];rfl)) (dw (cI.of hv1) (show fR _ ((1:Nat):Int)=_ from aK rfl) h');refine aN (λZ H'=>H1=H'/\Z=[↑x,↑ma,↑na,↑sa,↑rb,some bx,o6,o7,o8,o9]) ?_ ?_
  ·intro u2 iX
   tm_at "r";refine⟨C,dx,_,hx1,TC.cl,TC.n1,_,iZ la wa sc,.inr ⟨_,rfl,_,.inl (aJ.of B.la_),?_⟩⟩;rw [aa0];exact GJ _ (iX _ _ ⟨rfl,rfl⟩)
  rintro Ω ω _ _ ⟨rfl,rfl⟩;refine ω _ _ (aN (λZ H'=>H1=H'/\Z=[↑x,↑ma,↑na,↑sa,↑rb,some bx,↑mA,o7,o8,o9]) ?_ ?_)
  ·intro u2 iX
   tm_at "r";refine⟨C,dx,_,hx1,TC.cl,TC.n1,_,iZ la wa sc,.inr ⟨_,rfl,_,.inl (aJ.of B.la_),?_⟩⟩;rw [aa0];exact at2 _ (iX _ _ ⟨rfl,rfl⟩)
  rintro Ω ω _ _ ⟨rfl,rfl⟩;refine ω _ _ (aN (λZ H'=>∃dA:Addr,H1 dA=none/\bO (B6 P w) H' dA []/\au H1 H'/\Z=[↑x,↑ma,↑na,↑sa,↑rb,some bx,↑mA,↑dA,o8,o9]) ?_ ?_)
  ·intro u2 iX
   simp only [jw,wC,By,iH];tm_at "r";exact λp hp=>iX _ _ ⟨p,hp,⟨ae,(λ_ z=>nomatch z),List.nodup_nil,ac2 _⟩,aq hp,rfl⟩
  rintro Ω ω _ H2 ⟨dA,hd1,hD2,s12,rfl⟩
  have inH:∀{z:Addr},z∈[ma,na,la,wa]->H1 z≠none:=λ{z} h e=>by
   simp only [ab2,ad2,or_false]at h;rcases h with rfl | rfl | rfl | rfl
   ·rw [hm1]at e;cases e
   ·obtain⟨xs,D,_⟩:=B.nm;rw [D.ob]at e;cases e
   ·rw [B.la_]at e;cases e
   ·rw [B.wl]at e;cases e
  have dnot:dA∉[ma,na,la,wa]:=λh=>inH h hd1
  have hd0:H dA=none:=by
   cases e:H dA with
   | none=>rfl
   | some o=>rw [B.sx dA o dnot e]at hd1;cases hd1
  have dds:∀d∈ds,d≠dA:=λd hd e=>by
   obtain⟨j,hj⟩:=ag6 hd;obtain⟨s',hs'⟩:∃s',met[j]?=some s':=⟨_,aa2 (ab3 (aa1.mp hj).1 B.le)⟩;obtain⟨xs,D,_⟩:=B.ld j d s' hj hs'
   have:=D.ob
   rw [e,hd1]at this;cases this
  have n4:dA≠ma/\dA≠na/\dA≠la/\dA≠wa:=⟨λe=>dnot (by simp [e]),λe=>dnot (by simp [e]),λe=>dnot (by simp [e]),λe=>dnot (by simp [e])⟩;have tup1:∀{b:Addr} {ws:List V},H b=some (.tup ws)->H2 b=some (.tup ws):=λe=>s12 _ _ (B.sx _ _ (tm e) e);have B2:=B.same s12;obtain⟨Pv,hPv⟩:∃Pv:Nat->L2.St->Hp->Prop,Pv=λi Z H'=>∃(met':List MS) (ys:List (List Int×Addr×V)) (o8 o9:Option V),iM P w Ss Gs cols nv U H ma na la wa H' met' ds/\met'[ds.length]?=some st/\bO (B6 P w) H' dA ys/\eG Ss (cols.take i) met' st ys/\ys.length<=i/\(∀b ws,H2 b=some (.tup ws)->H' b=some (.tup ws))/\Z=[↑x,↑ma,↑na,↑sa,↑rb,some bx,↑mA,↑dA,o8,o9]:=⟨_,rfl⟩;refine ω _ _ (aN (λZ H'=>Pv cols.length Z H') ?_ ?_)
  ·intro u2 iX
   refine iL λk9 hk9=>?_;simp only [xB];tm_at "r";refine bK (aJ.of (B2.sx sa _ sm hsa)) (c7 (xs:=cs.map V.ref) Pv (by rw [hPv];exact⟨met,[],o8,o9,B2,hst,hD2,⟨λc hc=>(by rw [List.take_zero]at hc;cases hc),λ_ _=>rfl,rfl⟩,ac2 _,λ_ _ e=>e,rfl⟩) (λi Z H' _ h=>?_) ?_ ?_)
   ·rw [hPv]at h
    obtain⟨_,_,_,_,B',_⟩:=h;exact aJ.of (B'.sx sa _ sm hsa)
   ·intro i y Z H3 hy hI
    rw [hPv]at hI;obtain⟨met3,ys,o8,o9,B3,hst3,hD3,L3,hyl,keep3,rfl⟩:=hI;rw [aa4]at hy
    cases hci:cs[i]? with
    | none=>rw [hci]at hy;cases hy
    | some ca=>
     rw [hci]at hy;cases hy
     have hi:i < cols.length:=by rw [<-hT.1];exact(aa1.mp hci).1
     obtain⟨c,hc⟩:∃c,cols[i]?=some c:=⟨_,aa2 hi⟩;have hcm:=ac0 hc;have hca:=keep3 _ _ (tup1 (hT.2 i ca c hci hc));have hmA3:=keep3 _ _ (s12 _ _ hmA)
     have hbv3:BV K H3 nv st.1 bx:=by
      cases e:st.1 with
      | none=>
       rw [e]at hbx;exact .inl ⟨rfl,hbx⟩
      | some c'=>
       rw [e]at hbx;obtain⟨b,rfl,hb⟩:=hbx;exact .inr ⟨b,c',rfl,rfl,cI.of (keep3 _ _ (s12 _ _ hb)),hstW c' e⟩
     have lU3:=lenU B3;simp only [iH];refine aN (λZ H'=>∃fA:Addr,((dc Ss st c=none/\H' fA=some (.tup [.ref ca,.non]))\/∃ms' p,eC Ss st.2 st.1 c=some ms'/\rV Gs ms'/\H' p=some (.tup (ms'.map V.int))/\H' fA=some (.tup [.ref ca,.ref p]))/\au H3 H'/\Z=[↑x,↑ma,↑na,↑sa,↑rb,some bx,↑mA,↑dA,↑ca,↑fA]) ?_ ?_
     ·intro u3 hu3
      tm_at "r";refine⟨rb,mA,ca,bx,nv,Ss,Gs,rs,st.2,c,st.1,rfl,RM.same (toS B3.sx),lS,cI.of hmA3,hstM,hbv3,cI.of hca,hcw c hcm,λhno H4 s34=>⟨(),λfA hfA=>hu3 _ _ ⟨fA,.inl ⟨?_,ae⟩,s34.upd hfA,rfl⟩⟩,λms' hms hMs p H4 hp _ s34=>⟨(),λfA hfA=>hu3 _ _ ⟨fA,.inr ⟨ms',p,hms,hMs,(aq hfA) _ _ hp,ae⟩,s34.upd hfA,rfl⟩⟩⟩;unfold dc;rw [hno];rfl
     rintro Ω ω _ H4 ⟨fA,hcase,s34,rfl⟩;have B4:=B3.same s34;have hD4:=hD3.same s34;have hca4:=s34 _ _ hca;refine ω _ _ ?_;rcases hcase with⟨hno,hf4⟩ | ⟨ms',p,hms,hMs,hp4,hf4⟩
     ·refine cf λA1 B1 hA1 hB1=>?_
      tm_at "r";refine dw (cI.of hf4) (show fR _ ((1:Nat):Int)=_ from aK rfl) ?_;rw [if_pos rfl];refine hA1 _ ?_;simp only [jw,Bt];show Pv (i+1) _ _;rw [hPv];exact⟨met3,ys,_,_,B4,hst3,hD4,L3.skip hc hno,(),λb ws e=>s34 _ _ (keep3 b ws e),rfl⟩
     ·have hnx:dc Ss st c=some (some c,ms'):=by
       unfold dc;rw [hms];rfl
      have hkey:(iK P w).at_ H4 (cj (some c,ms')) fA:=⟨_,hf4,⟨ca,rfl,hca4⟩,⟨p,rfl,hp4⟩,True.intro⟩;refine cf λA1 B1 hA1 hB1=>?_;tm_at "r";refine dw (cI.of hf4) (show fR _ ((1:Nat):Int)=_ from aK rfl) ?_;rw [if_neg (λe=>by cases e)];refine hB1 _ ?_;refine aN (λZ H'=>∃met5,iM P w Ss Gs cols nv U H ma na la wa H' met5 ds/\met5[ds.length]?=some st/\(some c,ms')∈met5/\bO (B6 P w) H' dA ys/\eG Ss (cols.take i) met5 st ys/\(∀b ws,H4 b=some (.tup ws)->H' b=some (.tup ws))/\Z=[↑x,↑ma,↑na,↑sa,↑rb,some bx,↑mA,↑dA,↑ca,↑fA]) ?_ ?_
      ·intro u3 hu3
       obtain⟨xs,D4,N4,xl⟩:=B4.nm;obtain⟨ps4,g1,g2,g3⟩:=B4.mt;refine cf λA2 B2' hA2 hB2=>?_;tm_at "r";refine⟨na,fA,cj (some c,ms'),xs,rfl,rfl,D4,hkey,_,rfl,?_⟩
       cases ea:jL xs (cj (some c,ms'))with
       | none=>
        rw [if_pos (show(!(none:Option V).isSome)=true from rfl)];refine hA2 _ (lz λk7 hk7=>?_);tm_at "r";refine⟨_,.inl (aJ.of g1),na,fA,cj (some c,ms'),xs,rfl,rfl,D4,hkey,?_⟩;rw [aa0,g2];refine hk7 _ _ ?_;tm_at "r"
        have ntN:∀vs,H4 na≠some (.tup vs):=λvs e=>by rw [D4.ob]at e;cases e
        have hm4:(L2.upd H4 na (dO (iK P w) na (eZ xs (cj (some c,ms')) fA (.int met3.length)))) ma=some (.lst (ps4.map V.ref)):=by rw [aj mna];exact g1
        have ntM:∀vs,(L2.upd H4 na (dO (iK P w) na (eZ xs (cj (some c,ms')) fA (.int met3.length)))) ma≠some (.tup vs):=λvs e=>by rw [hm4]at e;cases e
        have hnew:=N4.fresh ea;have hltm:ds.length < met3.length:=(aa1.mp hst3).1;refine⟨.inl ⟨rfl,_,aJ.of hm4⟩,ma,_,_,rfl,rfl,hm4,by rw [aa0];omega,hu3 _ _ ⟨met3++[(some c,ms')],B4.put D4 N4 xl g1 g2 g3 hkey hnew (CU.cl st hstU c hcm _ hnx) hMs (λc' e=>by cases e;exact hcw c hcm) hst3 hcm hnx () mna n1 n2 nla nwa (by rw [hma];exact λe=>by cases e) (by rw [hna.ob];exact λe=>by cases e),?_,by simp,?_,L3.more _,λb ws e=>?_,rfl⟩⟩
        ·rw [ab7 hltm]
         exact hst3
        ·exact(hD4.upd n4.2.1 ntN).upd n4.1 ntM
        ·have h1:b≠na:=λq=>ntN ws (by rw [<-q];exact e)
         have h2:b≠ma:=λq=>by rw [q,g1]at e;cases e
         rw [aj h2,aj h1];exact e
       | some z=>
        rw [if_neg (by simp)];obtain⟨j,hj,_⟩:=N4.known (s:=(some c,ms')) (by rw [ea];exact λe=>by cases e);exact hB2 _ (hu3 _ _ ⟨met3,B4,hst3,ac0 hj,hD4,L3,λ_ _ e=>e,rfl⟩)
      rintro Ω ω _ H5 ⟨met5,B5,hst5,hin5,hD5,L5,keep5,rfl⟩;refine ω _ _ ?_;tm_at "r";obtain⟨xs5,D5,N5,_⟩:=B5.nm;obtain⟨j,hj⟩:=ag6 hin5;have hf5:=keep5 _ _ hf4;have hca5:=keep5 _ _ hca4;have hkey5:(iK P w).at_ H5 (cj (some c,ms')) fA:=⟨_,hf5,⟨ca,rfl,hca5⟩,⟨p,rfl,keep5 _ _ hp4⟩,True.intro⟩
      have ntD:∀vs,H5 dA≠some (.tup vs):=λvs e=>by rw [hD5.ob]at e;cases e
      refine⟨na,fA,_,xs5,.int j,rfl,rfl,D5,hkey5,N5.1 j _ hj,dA,ca,c,ys,rfl,rfl,hD5,hca5,?_⟩;rw [hPv];refine⟨met5,_,_,_,B5.upd ntD hd0 n4.1 n4.2.1 n4.2.2.1 n4.2.2.2 dds,hst5,hD5.put hca5 (),L5.put hc hnx hj hnd,?_,λb ws e=>?_,rfl⟩
      ·unfold eZ
       split
       ·rw [aa0];omega
       ·rw [aa8];simp;omega
      ·have h5:=keep5 _ _ (s34 _ _ (keep3 b ws e))
       rw [aj (λq=>ntD ws (by rw [<-q];exact h5))];exact h5
   ·intro Z H3 hI
    rw [aa0,hT.1]at hI;exact hk9 _ _ (iX _ _ hI)
  intro Ω ω;intro Z H3 hI;rw [hPv]at hI;obtain⟨met3,ys,o8,o9,B3,hst3,hD3,L3,hyl,keep3,rfl⟩:=hI;rw [ad6]at L3;have hx3:=B3.sx x _ xm hx;have hlt3:ds.length < met3.length:=(aa1.mp hst3).1;have lU3:=lenU B3;refine ω _ _ (aN (λZ H'=>H'=L2.upd H3 la (.lst (ds.map V.ref++[.ref dA]))/\Z=[↑x,↑ma,↑na,↑sa,↑rb,some bx,↑mA,↑dA,o8,o9]) ?_ ?_)
  ·intro u2 iX
   tm_at "r";exact⟨C,dx,_,hx3,TC.cl,TC.n1,_,iZ la wa sc,.inl ⟨rfl,_,aJ.of B3.la_⟩,la,_,_,rfl,rfl,B3.la_,by rw [aa0];omega,iX _ _ ⟨rfl,rfl⟩⟩
  rintro Ω ω _ _ ⟨rfl,rfl⟩;refine ω _ _ ?_;tm_at "r";have xla:x≠la:=λe=>xm (by simp [e])
  have ntL:∀vs,H3 la≠some (.tup vs):=λvs e=>by rw [B3.la_]at e;cases e
  have hw3:(L2.upd H3 la (.lst (ds.map V.ref++[.ref dA]))) wa=some (.lst ((met3.take ds.length).map λs=>V.bl (dP Ss s.2 s.1))):=by rw [aj n3.symm];exact B3.wl
  have sS3:au Hs (L2.upd H3 la (.lst (ds.map V.ref++[.ref dA]))):=y6 z3 (toS B3.sx)
  have tk:∀{b:Addr} {ws:List V},H2 b=some (.tup ws)->(L2.upd H3 la (.lst (ds.map V.ref++[.ref dA]))) b=some (.tup ws):=λ{b ws} e=>by
   have h3:=keep3 _ _ e;rw [aj (λq=>ntL ws (by rw [<-q];exact h3))];exact h3
  have hbv3:BV K (L2.upd H3 la (.lst (ds.map V.ref++[.ref dA]))) nv st.1 bx:=by
   cases e:st.1 with
   | none=>
    rw [e]at hbx;exact .inl ⟨rfl,hbx⟩
   | some c'=>
    rw [e]at hbx;obtain⟨b,rfl,hb⟩:=hbx;exact .inr ⟨b,c',rfl,rfl,cI.of (tk (s12 _ _ hb)),hstW c' e⟩
  refine⟨C,dx,_,by rw [aj xla];exact hx3,TC.cl,TC.n2,_,CB la wa sc,.inl ⟨rfl,_,aJ.of hw3⟩,rb,mA,bx,nv,Ss,Gs,rs,st.2,st.1,rfl,RM.same sS3,lS,cI.of (tk (s12 _ _ hmA)),hstM,hbv3,λH4 s4=>⟨wa,_,_,rfl,rfl,s4 _ _ hw3,by rw [aa0,ac9];omega,?_⟩⟩;rw [hN];exact⟨met3,ds++[dA],_,_,_,_,_,B3.close hD3 L3 hst3 hd0 n1 n2 nla nwa n3 (by rw [hla];exact λe=>by cases e) (by rw [hwa];exact λe=>by cases e) s4,by rw [aa8];rfl,rfl⟩
 ·rw [if_neg hlt]
  refine hB _ ?_;have le:=B.le
  have e:ds.length=met.length:=by omega
  refine k met H1 B.mf (λs hs=>(B.al s hs).1) (λs hs c hc s' hn=>?_) ⟨ds,B.la_,e,?_,B.ld⟩ B.sx
  ·obtain⟨j,hj⟩:=ag6 hs
   obtain⟨d,hd⟩:∃d,ds[j]?=some d:=⟨_,aa2 (by rw [e];exact(aa1.mp hj).1)⟩;obtain⟨xs,_,L⟩:=B.ld j d s hd hj;obtain⟨j',g,_⟩:=L.1 c hc s' hn;exact ac0 g
  ·have:=B.wl
   rw [e,ad6]at this;exact this
def jV(P:Program)(w:World)(C:Addr)(Ss:List bV)(cols:List (List Int))(met:List MS)(x:Addr)(H:Hp):Prop:=∃dx la wa sc:Addr,H x=some (.ins C dx (cC la wa sc))/\zg P w Ss cols la wa H met
theorem jV.same(h:jV P w C Ss cols met x H)(s:au H H'):jV P w C Ss cols met x H':=by
 obtain⟨dx,la,wa,sc,h1,ds,h2,h3,h4,h5⟩:=h;exact⟨dx,la,wa,sc,s _ _ h1,ds,s _ _ h2,h3,s _ _ h4,λi d t e1 e2=>let ⟨xs,g1,g2⟩:=h5 i d t e1 e2;⟨xs,g1.same s,g2⟩⟩
def GQ(P:Program)(w:World)(C:Addr):Sp:=λvs H Q _=>∃(x:Addr) (Ss:List bV) (cols:List (List Int)) (met:List MS),vs=[.ref x]/\jV P w C Ss cols met x H/\Q (.int met.length) H
def Gq(P:Program)(w:World)(C:Addr):Sp:=λvs H Q _=>∃(x ca:Addr) (Ss:List bV) (cols:List (List Int)) (met:List MS) (i:Nat) (c:List Int) (s:MS),vs=[.ref x,.int i,.ref ca]/\jV P w C Ss cols met x H/\met[i]?=some s/\H ca=some (.tup (c.map V.int))/\
 (∀(j:Nat) s',c∈cols->dc Ss s c=some s'->met[j]?=some s'->Q (.int j) H)/\((c∈cols->dc Ss s c=none)->Q .non H)
def Hx(P:Program)(w:World)(C:Addr):Sp:=λvs H Q _=>∃(x:Addr) (Ss:List bV) (cols:List (List Int)) (met:List MS) (i:Nat) (s:MS),vs=[.ref x,.int i]/\jV P w C Ss cols met x H/\met[i]?=some s/\Q (.bl (dP Ss s.2 s.1)) H
def lO(K:Frag)(C:Addr):Sp:=λvs H Q _=>∃(x dx:Addr),vs=[.ref x]/\H x=some (.ins C dx [])/\∀l w H',H l=none->H w=none->w≠l->H'=upd (upd (upd H l (.lst [])) w (.lst [])) x (.ins C dx (bu "well" (.ref w) (bu "leads" (.ref l) [])))->Q .non H'
inductive ky(P:Program)(w:World)(K:Frag)(mg:Str->Option Value)(base:Heap)(C Cs:Addr):Sp
 | mk {vs:List V} {H:Hp} {Q:VK} {E:XK} (x dx sc:Addr) (nv:Nat) (bs:List (Int×Int)) (Ss:List bV) (Gs:List (Int->Prop)) (U:List MS) (H0:Hp):vs=[.ref x,.ref sc]->H x=some (.ins C dx [])->H0 x=none->au H0 H->~~~rW Cs nv bs Ss Gs sc H0->Ss.length<=100->rV Gs (Ss.map (·.start))->bs.length=nv->bs.length<=4->(∀b∈bs,1<=wN b)->jC bs<=400->vc Ss (bp bs) U->(∀met H',wO Ss (bp bs) met->(∀s∈met,s∈U)->(∀(s:MS),s∈met->∀c∈bp bs,∀s',dc Ss s c=some s'->s'∈met)->(∃dx la wa:Addr,H' x=some (.ins C dx (cC la wa sc))/\zg P w Ss (bp bs) la wa H' met)->(∀b o,b≠x->H b=some o->H' b=some o)->Q .non H')->~~~ky C Cs vs H Q E
theorem oP(F:b0 K "__init__" "States.__init__" eM f fd)(T:Txt mg aM)(TC:kH K C): ~~~aL bU 1 f fd ["self"] (lO K C):=by
 refine F.ok kx λ_ A _ s H vs Q E hr h=>?_;obtain⟨x,dx,rfl,hx,k⟩:=h
 refine⟨rfl,_,(ag (bI (pr 0) (bN ah) rfl)
 (ai (bI (pr 0) (bN ah) rfl))),?_⟩
 have hs:=sizeLine_eq;tm_at "r";have ln:∀(f:Str) (v:V) (l:List (Str×V)) (n:Nat),l.length<=n->(bu f v l).length<=n+1:=λf v l n h=>ab6 (bC f v l) (ae0 h);refine⟨(),λl hl=>?_⟩
 have lx:l≠x:=λe=>by subst e;rw [hx]at hl;cases hl
 refine⟨C,dx,[],by rw [aj (Ne.symm lx)];exact hx,TC.cl,TC.n1,∅,(),λw' hw=>?_⟩
 have wx:w'≠x:=λe=>by subst e;rw [ae]at hw;cases hw
 rw [aj wx]at hw
 have wl:w'≠l:=λe=>by subst e;rw [ae]at hw;cases hw
 rw [aj wl]at hw;refine⟨C,dx,_,by rw [aj (Ne.symm wx),ae],TC.cl,TC.n2,aa7 (ln _ _ _ _ (ac2 0)) ∅,?_⟩;refine k l w' _ hl hw wl ?_;rw [fE]
theorem F4(F:b0 K "to" "States.to" ji f fd)(T:Txt mg aM)(TC:kH K C): ~~~aL bU 1 f fd ["self","state","column"] (Gq P w C):=by
 refine F.ok tw λ_ A _ s H vs Q E hr h=>?_;obtain⟨x,ca,Ss,cols,met,i,c,st,rfl,⟨dx,la,wa,sc,hx,ds,h1,h2,h3,h4⟩,hst,hc,q1,q2⟩:=h;refine⟨rfl,_,(ai (av (C4 (kk':=B6 P w) (iX hr) (aw (aC K) (aV (pr 0) rfl) (pr 1) (λ_ _=>rfl)) (aa (pr 2) ah)))),?_⟩;tm_at "r";obtain⟨d,hd⟩:∃d,ds[i]?=some d:=⟨_,aa2 (by rw [h2];exact(aa1.mp hst).1)⟩;obtain⟨xs,D,L⟩:=h4 i d st hd hst;refine⟨C,dx,_,hx,TC.cl,TC.n1,_,iZ la wa sc,bq (aJ.of h1) (aK (by rw [aa4,hd];rfl)) ?_⟩;refine⟨⟨d,rfl,xs,D⟩,d,ca,c,xs,rfl,rfl,D,hc,?_⟩
 by_cases hcc:c∈cols
 ·cases hn:dc Ss st c with
  | none=>
   rw [L.2.1 c λ_=>hn];exact q2 λ_=>hn
  | some s'=>
   obtain⟨j,hj,ha⟩:=L.1 c hcc s' hn;rw [ha];exact q1 j s' hcc hn hj
 ·rw [L.2.1 c λh=>absurd h hcc]
  exact q2 λh=>absurd h hcc
theorem sJ(F:b0 K "__init__" "Machine.__init__" eA f fd)(T:Txt mg aM)(TC:kH K C)(TS:fY K Cs)(DC_States___init__: ~~~iP "States" "__init__" 10 ["self"] (lO K C))(D_columns: ~~~cB "columns" 10 ["score"] (mK K Cs))(M_build: ~~~aF C "build" 10 ["self","met","numbers","steps"] (~~~tE C Cs)):
  ~~~aL bU 11 f fd ["self","score"] (~~~ky C Cs):=by
 refine F.ok sc_Machine___init__ λ_ A _ s H vs Q E hr h=>?_;obtain⟨x,dx,sc,nv,bs,Ss,Gs,U,H0,rfl,hx,hx0,s0,⟨dsc,ra,rb,rs,hsc,RA,RM⟩,lS,hM0,hnv,lb,hw,hc,CU,k⟩:=h
 refine⟨rfl,_,(ag (bG (dG DC_States___init__ hr ⋯ (aa (pr 0) ah)))
 (ag (bI (pr 0) (pr 1) rfl)
 (ag (cU (i:=2) sc_Machine___init__.nd (dk (aa aZ (aa (bf (mQ K) ⋯ T.n_tuple boot_tuple (aa (cX (own:=["rule"]) (js:=[]) rfl (bF K (aV (pr 1) rfl)) (bB.of ⋯) (λ_ _ _ _ _=>(bM (i:=0) (show List.Nodup (["rule"]:List Str)from by decide +kernel) rfl (Or.inl rfl))) (λ_ _ _ _ _=>cn) (λ_ _ _ _ _=>(~~~mh hr (pr 0)))) ah)) ah))))
 (ai (bG (~~~g6 hr (pr 0) (aa (bN (aa (pr 2) ah)) (aa (C9 (kk':=iK P w) (iX hr) (pr 2) (ia T.g_START) (Ey (iX hr))) (aa (aA D_columns hr ⋯ (aa (pr 1) ah)) ah))))))))),?_⟩
 have hs:=sizeLine_eq
 have scx:sc≠x:=λe=>by rw [e,hx0]at hsc;cases hsc
 refine aN (λZ H'=>∃la wa:Addr,H la=none/\H wa=none/\wa≠la/\H'=upd (upd (upd H la (.lst [])) wa (.lst [])) x (.ins C dx (bu "well" (.ref wa) (bu "leads" (.ref la) [])))/\Z=[↑x,↑sc,none]) ?_ ?_
 ·intro u' hu
  tm_at "r";exact⟨x,dx,rfl,hx,λl w' H' hl hw' hne e=>hu _ _ ⟨l,w',hl,hw',hne,e,rfl⟩⟩
 rintro Ω ω _ H1 ⟨la,wa,hla,hwa,nwl,eH1,rfl⟩
 have hx1:H1 x=some (.ins C dx (bu "well" (.ref wa) (bu "leads" (.ref la) []))):=by rw [eH1,ae]
 refine ω _ _ (aN (λZ H'=>H'=upd H1 x (.ins C dx (cC la wa sc))/\Z=[↑x,↑sc,none]) ?_ ?_)
 ·intro u' hu
  tm_at "r";have ln:∀(f:Str) (v:V) (l:List (Str×V)) (n:Nat),l.length<=n->(bu f v l).length<=n+1:=λf v l n h=>ab6 (bC f v l) (ae0 h);exact⟨C,dx,_,hx1,TC.cl,TC.n3,aa7 (ln _ _ _ _ (ln _ _ _ _ (ac2 0))) ∅,hu _ _ ⟨rfl,rfl⟩⟩
 rintro Ω ω _ H2 ⟨eH2,rfl⟩
 have lax:la≠x:=λe=>by rw [e,hx]at hla;cases hla
 have wax:wa≠x:=λe=>by rw [e,hx]at hwa;cases hwa
 have e2:H2=upd (upd (upd H la (.lst [])) wa (.lst [])) x (.ins C dx (cC la wa sc)):=by rw [eH2,eH1,bS]
 have hx2:H2 x=some (.ins C dx (cC la wa sc)):=by rw [e2,ae]
 have hla2:H2 la=some (.lst []):=by rw [e2,aj lax,aj nwl.symm,ae]
 have hwa2:H2 wa=some (.lst []):=by rw [e2,aj wax,ae]
 have old2:∀b o,b≠x->H b=some o->H2 b=some o:=λb o hb e=>by rw [e2,aj hb,aj (ao e hwa),aj (ao e hla)];exact e
 have s02:au H0 H2:=λb o e=>old2 b o (λq=>by rw [q,hx0]at e;cases e) (s0 _ _ e)
 have hla0:H0 la=none:=by
  cases e:H0 la with
  | none=>rfl
  | some o=>rw [s0 _ _ e]at hla;cases hla
 have hwa0:H0 wa=none:=by
  cases e:H0 wa with
  | none=>rfl
  | some o=>rw [s0 _ _ e]at hwa;cases hwa
 clear e2 eH2 eH1 hx1;clear H1;have RM2:=RM.same s02
 refine ω _ _ (aN (λZ H'=>∃bg mA:Addr,H' bg=some (.tup [.non,.ref mA])/\H' mA=some (.tup ((Ss.map (·.start)).map V.int))/\au H2 H'/\Z=[↑x,↑sc,↑bg]) ?_ ?_)
 ·intro u' hu
  tm_at "r";have lr:=RM.len;have lg:=RM.gl
  refine⟨Cs,dsc,_,s02 _ _ hsc,TS.cl,TS.n2,_,oA ra rb,bK RM2.sq (bQ (xs:=rs.map V.ref) (λi ys H'=>ys=((Ss.take i).map (·.start)).map V.int/\H2=H') (by rw [aa0];omega) ⟨rfl,rfl⟩ ?_ ?_ ?_ ?_)⟩
  ·rintro i ys H' ⟨rfl,rfl⟩
   rw [aa0,aa0,ac9];omega
  ·rintro i ys H' ⟨rfl,rfl⟩
   exact RM2.sq
  ·rintro i y ys H' hy ⟨rfl,rfl⟩
   rw [aa4]at hy
   cases hri:rs[i]? with
   | none=>rw [hri]at hy;cases hy
   | some r=>
    rw [hri]at hy;cases hy
    have hi:i < Ss.length:=by rw [<-lr];exact(aa1.mp hri).1
    obtain⟨S,hS⟩:∃S,Ss[i]?=some S:=⟨_,aa2 hi⟩;obtain⟨G,hG⟩:∃G,Gs[i]?=some G:=⟨_,aa2 ()⟩;obtain⟨Cr,RI,RO,hRI⟩:=RM2.at_ i r S G hri hS hG;obtain⟨dr,fs,hir,z1,z2,z3,z4,z5⟩:=RO.ins r H2 hRI;simp only [iF];tm_at "r";refine⟨Cr,dr,fs,hir,z2,_,_,RO.start.up ∅,r,rfl,hRI,?_⟩;rw [ac6,hS,ab4,ab4];exact⟨rfl,rfl⟩
  ·rintro ys H' ⟨rfl,rfl⟩ p hp
   rw [aa0,lr,ad6];refine⟨_,.inl ⟨aJ.of ae,λl hl=>⟨(),λbg hbg=>hu _ _ ⟨bg,l,ae,(aq hbg) _ _ ae,((aq hp).upd hl).upd hbg,rfl⟩⟩⟩⟩
 rintro Ω ω _ H3 ⟨bg,mA,hbg,hmA,s23,rfl⟩;refine ω _ _ ?_;tm_at "r";have hx3:=s23 _ _ hx2;have s03:=s02.trans s23;refine⟨C,dx,_,hx3,by unfold cC;tm_at "f",_,_,M_build,(),λma hma na hna=>?_⟩;have hna3:H3 na=none:=(aq hma).free hna
 have nma:na≠ma:=λe=>by rw [e,ae]at hna;cases hna
 have hk4:(iK P w).at_ (upd (upd H3 ma (.lst [.ref bg])) na (dO (iK P w) na [])) (cj (none,Ss.map (·.start))) bg:=⟨_,(aq hna) _ _ ((aq hma) _ _ hbg),rfl,⟨mA,rfl,(aq hna) _ _ ((aq hma) _ _ hmA)⟩,True.intro⟩
 refine⟨ae,_,hk4,?_⟩;rw [bS]
 have s35:au H3 (upd (upd H3 ma (.lst [.ref bg])) na (dO (iK P w) na [(cj (none,Ss.map (·.start)),bg,.int 0)])):=(aq hma).upd hna
 have hma5:(upd (upd H3 ma (.lst [.ref bg])) na (dO (iK P w) na [(cj (none,Ss.map (·.start)),bg,.int 0)])) ma=some (.lst [.ref bg]):=by rw [aj nma.symm,ae]
 have hna5:(upd (upd H3 ma (.lst [.ref bg])) na (dO (iK P w) na [(cj (none,Ss.map (·.start)),bg,.int 0)])) na=some (dO (iK P w) na [(cj (none,Ss.map (·.start)),bg,.int 0)]):=ae
 refine(λ(key:∀H5:Hp,au H3 H5->H5 ma=some (.lst [.ref bg])->H5 na=some (dO (iK P w) na [(cj (none,Ss.map (·.start)),bg,.int 0)])->mK K Cs [V.ref sc] H5 _ _)=>key _ s35 hma5 hna5) ?_
 clear s35 hma5 hna5;intro H5 s35 hma5 hna5;have s05:=s03.trans s35;refine⟨sc,dsc,ra,rb,bs,rfl,s05 _ _ hsc,RA.same s05,lb,hw,hc,λsa H6 hsa0 hC6 s56=>?_⟩;obtain⟨cs,hsa,hT⟩:=hC6;have s06:=s05.trans s56;have s36:=s35.trans s56
 have fr0:∀{z:Addr},H3 z=none->H0 z=none:=λ{z} h=>by
  cases e:H0 z with
  | none=>rfl
  | some o=>rw [s03 _ _ e]at h;cases h
 have hla3:=s23 _ _ hla2;have hwa3:=s23 _ _ hwa2
 refine⟨x,dx,ma,na,sa,la,wa,sc,dsc,ra,rb,bg,nv,Ss,Gs,rs,cs,bp bs,U,H0,rfl,s36 _ _ hx3,s06 _ _ hsc,s06,fr0 hma,fr0 hna3,hla0,hwa0,RM,lS,hM0,s56 _ _ hma5,⟨_,s36 _ _ hbg,rfl,⟨mA,rfl,s36 _ _ hmA⟩,True.intro⟩,
  ⟨s56 _ _ hna5,λy hy=>?_,by simp,by simp⟩,s36 _ _ hla3,s36 _ _ hwa3,(ao hla3 hma).symm,(ao hwa3 hma).symm,nwl.symm,hsa,(ao hma5 hsa0).symm,(ao (s35 _ _ hla3) hsa0).symm,(ao (s35 _ _ hwa3) hsa0).symm,hT,λc hcc=>by rw [eB bs c hcc,hnv],by rw [eU];omega,tN bs,CU,λmet H' mf sub cl mb sx=>k met H' mf sub cl ⟨dx,la,wa,?_,mb⟩ λb o hb e=>?_⟩
 ·rw [ab8.mp hy]
  exact⟨_,s36 _ _ hbg,rfl,⟨mA,rfl,s36 _ _ hmA⟩,True.intro⟩
 ·refine sx x _ (λh=>?_) (s36 _ _ hx3)
  simp only [ab2,ad2,or_false]at h;rcases h with e | e | e | e
  ·exact ao hx3 hma e
  ·exact ao hx3 hna3 e
  ·exact lax e.symm
  ·exact wax e.symm
 ·have h3:=s23 _ _ (old2 b o hb e)
  refine sx b o (λh=>?_) (s36 _ _ h3);simp only [ab2,ad2,or_false]at h;rcases h with q | q | q | q
  ·exact ao h3 hma q
  ·exact ao h3 hna3 q
  ·exact ao e hla q
  ·exact ao e hwa q
inductive cY where
 | span (o t:Int) (D:List Int)
 | clock (o t h:Int) (D:List Int)
 | move (o:Int) (D:List Int)
 | alike (o t:Int) (D:List Int)
 | back (o cN:Int)
 | held (o most:Int)
 | times (o nt lw hg:Int)
 | begin (o:Int) (D:List Int)
 | close (o:Int) (D:List Int)
variable {R:cY}
def dI(o:Int)(cols:List (List Int))(i:Nat):Int:=aE (cols.getD i []) (o+1)
def fS(o:Int)(cols:List (List Int))(i:Nat):Int:=dI o cols i - dI o cols (i - 1)
def tU(o nt:Int)(us:List Int):Bool:=decide (aE us (o+1)=nt)
def iU(o nt:Int)(cols:List (List Int))(i:Nat):Nat:=((cols.take i).filter (tU o nt)).length
def ml(o:Int)(cols:List (List Int)):Nat->Nat
 | 0=>0
 | i+1=>if dI o cols i=dI o cols (i+1)then ml o cols i+1 else 0
def gs(cols:List (List Int))(i:Nat):cY->Bool
 | .span o t D=>!decide (dI t cols i - dI o cols i∈D)
 | .clock o t h D=>!decide ((dI t cols i - dI o cols i) % h∈D)
 | .move o D=>decide (i≠0) && !decide (fS o cols i∈D)
 | .alike o t D=>decide (i≠0) && (decide (fS o cols i≠0) && (decide (dI t cols i - dI o cols i=dI t cols (i - 1) - dI o cols (i - 1)) && decide (dI t cols i - dI o cols i∈D)))
 | .back o cN=>decide (2<=i) && (decide (fS o cols (i - 1) > cN/\fS o cols i>=0) || decide (fS o cols (i - 1) < 0 - cN/\fS o cols i<=0))
 | .held o most=>decide (most<=(ml o cols i:Int))
 | .times o nt _ hg=>decide (dI o cols i=nt) && decide ((iU o nt cols i:Int)>=hg)
 | .begin o D=>decide (i=0) && !decide (dI o cols i∈D)
 | .close _ _=>false
def CW(cols:List (List Int))(i:Nat):cY->Bool
 | .times o nt lw _=>decide ((iU o nt cols i:Int) < lw)
 | .close o D=>decide (i≠0) && !decide (dI o cols (i - 1)∈D)
 | .back o cN=>decide (2<=i) && (decide (fS o cols (i - 1) > cN) || decide (fS o cols (i - 1) < 0 - cN))
 | _=>false
def gv:cY->bV
 | .span o t D=>fu (o+1) (t+1) D
 | .clock o t h D=>ef (o+1) (t+1) h D
 | .move o D=>fV (o+1) D
 | .alike o t D=>eO (o+1) (t+1) D
 | .back o cN=>dy (o+1) cN
 | .held o most=>eo (o+1) most
 | .times o nt lw hg=>cM (o+1) nt lw hg
 | .begin o D=>ee (o+1) D
 | .close o D=>eP (o+1) D
def Ew:cY->Int->Prop
 | .back _ _=>kX
 | .held _ most=>rm most
 | .times _ _ _ hg=>kY hg
 | _=>λ_=>True
def yu(o cN:Int)(cols:List (List Int))(i:Nat):Int:=if i=0 then 0 else if fS o cols i > cN then 1 else if fS o cols i < 0 - cN then 2 else 0
def oE(cols:List (List Int))(i:Nat):cY->Int
 | .back o cN=>(match i with | 0=>0 | i+1=>yu o cN cols i)
 | .held o _=>(match i with | 0=>0 | i+1=>(ml o cols i:Int))
 | .times o nt _ _=>(iU o nt cols i:Int)
 | _=>0
def mT(nv:Nat):cY->Prop
 | .span o t _=>0<=o/\o < nv/\0<=t/\t < nv
 | .clock o t h _=>0<=o/\o < nv/\0<=t/\t < nv/\1<=h
 | .move o _=>0<=o/\o < nv
 | .alike o t _=>0<=o/\o < nv/\0<=t/\t < nv
 | .back o cN=>0<=o/\o < nv/\0<=cN
 | .held o most=>0<=o/\o < nv/\1<=most
 | .times o _ _ hg=>0<=o/\o < nv/\0<=hg
 | .begin o _=>0<=o/\o < nv
 | .close o _=>0<=o/\o < nv
theorem dZ{o:Int}(h:cols[i]?=some us):dI o cols i=aE us (o+1):=by
 unfold dI;rw [ab5,h];rfl
theorem nV(o nt:Int)(cols:List (List Int))(i:Nat)(us:List Int)(h:cols[i]?=some us):iU o nt cols (i+1)=iU o nt cols i+if tU o nt us=true then 1 else 0:=by
 unfold iU;rw [ac6,h,an1,aa8];congr 1
 by_cases hh:tU o nt us=true
 ·simp [hh]
 ·simp [hh]
theorem Fi(nv:Nat)(cols:List (List Int))(R:cY)(hg:mT nv R):Walks (gv R) cols (λi=>oE cols i R) (λi=>gs cols i R):=by
 have prev:∀{i:Nat} {us:List Int},cols[i+1]?=some us->∃bs,cols[i]?=some bs/\g7 cols (i+1)=some bs:=λ{i us} hu=>by
  have hi:i+1 < cols.length:=(aa1.mp hu).1;exact⟨cols[i],aa2 (),aa2 ()⟩
 cases R with
 | span o t D=>
  refine⟨rfl,λi us hu=>?_⟩;simp only [gv,fu,oE,gs,dZ hu]
  by_cases h:aE us (t+1) - aE us (o+1)∈D
  ·rw [if_pos h,decide_eq_true h];rfl
  ·rw [if_neg h,decide_eq_false h];rfl
 | clock o t h D=>
  refine⟨rfl,λi us hu=>?_⟩;simp only [gv,ef,oE,gs,dZ hu]
  by_cases h:(aE us (t+1) - aE us (o+1)) % h∈D
  ·rw [if_pos h,decide_eq_true h];rfl
  ·rw [if_neg h,decide_eq_false h];rfl
 | move o D=>
  refine⟨rfl,λi us hu=>?_⟩
  cases i with
  | zero=>rfl
  | succ i=>
   obtain⟨bs,hb,hp⟩:=prev hu;simp only [gv,fV,oE,gs,fS,dZ hu,ak5,dZ hb,hp]
   by_cases h:aE us (o+1) - aE bs (o+1)∈D
   ·rw [if_pos h,decide_eq_true h];simp
   ·rw [if_neg h,decide_eq_false h];simp
 | alike o t D=>
  refine⟨rfl,λi us hu=>?_⟩
  cases i with
  | zero=>rfl
  | succ i=>
   obtain⟨bs,hb,hp⟩:=prev hu;simp only [gv,eO,oE,gs,fS,dZ hu,ak5,dZ hb,hp]
   by_cases h0:aE us (o+1) - aE bs (o+1)=0
   ·simp [h0]
   by_cases h1:aE us (t+1) - aE us (o+1)=aE bs (t+1) - aE bs (o+1)
   ·by_cases h2:aE us (t+1) - aE us (o+1)∈D
    ·simp [h0,h1,h2]
    ·simp [h0,h1,h2]
   ·simp [h0,h1]
 | back o cN=>
  obtain⟨_,_,hf⟩:=hg;refine⟨rfl,λi us hu=>?_⟩
  cases i with
  | zero=>rfl
  | succ i=>
   obtain⟨bs,hb,hp⟩:=prev hu;show(dy (o+1) cN).after (yu o cN cols i) (g7 cols (i+1)) us=if gs cols (i+1) (.back o cN)=true then none else some (yu o cN cols (i+1));rw [hp]
   have em:aE us (o+1) - aE bs (o+1)=fS o cols (i+1):=by unfold fS;rw [dZ hu,ak5,dZ hb]
   have eb:gs cols (i+1) (.back o cN)=(decide (2<=i+1) && (decide (fS o cols i > cN/\fS o cols (i+1)>=0) || decide (fS o cols i < 0 - cN/\fS o cols (i+1)<=0))):=rfl
   have el:(if fS o cols (i+1) > cN then some (1:Int)else if fS o cols (i+1) < 0 - cN then some 2 else some 0)=some (yu o cN cols (i+1)):=by
    have ez:yu o cN cols (i+1)=if fS o cols (i+1) > cN then 1 else if fS o cols (i+1) < 0 - cN then 2 else 0:=by
     unfold yu;rw [if_neg (show ¬(i+1=0)by omega)]
    rw [ez]
    by_cases h1:fS o cols (i+1) > cN
    ·rw [if_pos h1,if_pos h1]
    ·rw [if_neg h1,if_neg h1]
     by_cases h2:fS o cols (i+1) < 0 - cN
     ·rw [if_pos h2,if_pos h2]
     ·rw [if_neg h2,if_neg h2]
   simp only [dy];rw [em,el,eb];clear el eb em;generalize yu o cN cols (i+1)=y
   by_cases hi:i=0
   ·subst hi
    have e0:yu o cN cols 0=0:=rfl;rw [e0];simp
   have e1:yu o cN cols i=if fS o cols i > cN then 1 else if fS o cols i < 0 - cN then 2 else 0:=by
    unfold yu;rw [if_neg hi]
   rw [e1,decide_eq_true (show 2<=i+1 by omega),ai2];simp only [Int.zero_sub];generalize fS o cols i=a;generalize fS o cols (i+1)=c
   by_cases h1:a > cN
   ·have h2:¬(a < -cN):=by omega
    by_cases h3:0<=c
    ·simp [h1,h3]
    ·simp [h1,h2,h3]
   ·by_cases h2:a < -cN
    ·by_cases h3:c<=0
     ·simp [h1,h2,h3]
     ·simp [h1,h2,h3]
    ·simp [h1,h2]
 | held o most=>
  obtain⟨_,_,h1⟩:=hg;refine⟨rfl,λi us hu=>?_⟩
  cases i with
  | zero=>
   have:gs cols 0 (.held o most)=false:=decide_eq_false (by show ¬(most<=(0:Int));omega)
   rw [this];rfl
  | succ i=>
   obtain⟨bs,hb,hp⟩:=prev hu;show(eo (o+1) most).after (ml o cols i:Int) (g7 cols (i+1)) us=if gs cols (i+1) (.held o most)=true then none else some (ml o cols (i+1):Int);rw [hp]
   have er:ml o cols (i+1)=if aE bs (o+1)=aE us (o+1)then ml o cols i+1 else 0:=by rw [<-dZ hb,<-dZ hu];rfl
   simp only [eo]
   by_cases h:aE bs (o+1)=aE us (o+1)
   ·rw [if_pos h]at er
    rw [if_pos h,er]
    by_cases h2:(ml o cols i:Int)+1 < most
    ·have eb:gs cols (i+1) (.held o most)=false:=by show decide (most<=((ml o cols (i+1):Nat):Int))=_;rw [er];exact decide_eq_false ()
     rw [if_pos h2,eb];rfl
    ·have eb:gs cols (i+1) (.held o most)=true:=by show decide (most<=((ml o cols (i+1):Nat):Int))=_;rw [er];exact decide_eq_true ()
     rw [if_neg h2,eb];rfl
   ·rw [if_neg h]at er
    have eb:gs cols (i+1) (.held o most)=false:=by show decide (most<=((ml o cols (i+1):Nat):Int))=_;rw [er];exact decide_eq_false ()
    rw [if_neg h,er,eb];rfl
 | times o nt lw hgh=>
  refine⟨rfl,λi us hu=>?_⟩;have hc:=nV o nt cols i us hu;simp only [gv,cM,oE,gs,dZ hu]
  by_cases h:aE us (o+1)=nt
  ·have hh:tU o nt us=true:=decide_eq_true h
   rw [if_pos hh]at hc;rw [if_pos h,hc,decide_eq_true h]
   by_cases h2:(iU o nt cols i:Int) < hgh
   ·rw [if_pos h2,decide_eq_false ()]
    rfl
   ·rw [if_neg h2,decide_eq_true ()]
    rfl
  ·have hh:tU o nt us=false:=decide_eq_false h
   rw [if_neg (by rw [hh];exact aa6)]at hc;rw [if_neg h,hc,decide_eq_false h];rfl
 | begin o D=>
  refine⟨rfl,λi us hu=>?_⟩
  cases i with
  | zero=>
   simp only [gv,ee,oE,gs,dZ hu,g7]
   by_cases h:aE us (o+1)∈D
   ·rw [if_pos h,decide_eq_true h];rfl
   ·rw [if_neg h,decide_eq_false h];rfl
  | succ i=>
   obtain⟨bs,hb,hp⟩:=prev hu;simp only [gv,ee,oE,gs,hp];simp
 | close o D=>
  exact⟨rfl,λi us hu=>rfl⟩
theorem B8(nv:Nat)(cols:List (List Int))(R:cY)(hg:mT nv R)(i:Nat)(hi:i<=cols.length):(gv R).closes (oE cols i R) (g7 cols i)=!CW cols i R:=by
 cases R with
 | span o t D=>rfl
 | clock o t h D=>rfl
 | move o D=>rfl
 | alike o t D=>rfl
 | held o most=>rfl
 | begin o D=>rfl
 | times o nt lw hgh=>
  show decide ((iU o nt cols i:Int)>=lw)=!decide ((iU o nt cols i:Int) < lw)
  by_cases h:(iU o nt cols i:Int) < lw
  ·rw [decide_eq_true h,decide_eq_false ()];rfl
  ·rw [decide_eq_false h,decide_eq_true ()];rfl
 | close o D=>
  cases i with
  | zero=>rfl
  | succ i=>
   have hb:cols[i]?=some cols[i]:=aa2 ();show(eP (o+1) D).closes 0 cols[i]?=!(decide (i+1≠0) && !decide (dI o cols i∈D));rw [hb,dZ hb];simp [eP]
 | back o cN=>
  obtain⟨_,_,hf⟩:=hg
  cases i with
  | zero=>rfl
  | succ i=>
   show decide (yu o cN cols i=0)=!(decide (2<=i+1) && (decide (fS o cols i > cN) || decide (fS o cols i < 0 - cN)))
   by_cases h0:i=0
   ·subst h0;rfl
   have e1:yu o cN cols i=if fS o cols i > cN then 1 else if fS o cols i < 0 - cN then 2 else 0:=by
    unfold yu;rw [if_neg h0]
   rw [e1,decide_eq_true (show 2<=i+1 by omega),ai2];simp only [Int.zero_sub];generalize fS o cols i=a
   by_cases h1:a > cN
   ·simp [h1]
   ·by_cases h2:a < -cN
    ·simp [h1,h2]
    ·simp [h1,h2]
def EZ:cY->List V
 | .span o t D=>.str "span"::((o+1)::(t+1)::D).map V.int
 | .clock o t h D=>.str "clock"::((o+1)::(t+1)::h::D).map V.int
 | .move o D=>.str "move"::((o+1)::D).map V.int
 | .alike o t D=>.str "alike"::((o+1)::(t+1)::D).map V.int
 | .back o cN=>.str "back"::[o+1,cN].map V.int
 | .held o most=>.str "held"::[o+1,most].map V.int
 | .times o nt lw hg=>.str "times"::[o+1,nt,lw,hg].map V.int
 | .begin o D=>.str "begin"::((o+1)::D).map V.int
 | .close o D=>.str "close"::((o+1)::D).map V.int
inductive aH where
 | plain (R:cY)
 | every (m a:Int) (R:cY)
def zW:cY->Prop
 | .span _ _ _=>True
 | .clock _ _ _ _=>True
 | _=>False
def Hv:aH->List V
 | .plain R=>EZ R
 | .every m a R=>.str "every" :: .int m :: .int a::EZ R
def iT(cols:List (List Int))(i:Nat):aH->Bool
 | .plain R=>gs cols i R
 | .every m a R=>decide ((i:Int) % m=a) && gs cols i R
def cv(nv:Nat):aH->Prop
 | .plain R=>mT nv R
 | .every m a R=>mT nv R/\zW R/\1<=m/\0<=a/\a < m
theorem Ci{CX:BH}{k:Nat}{ps:List Str}{sp sp':Sp}(F: ~~~aL CX k f fd ps sp)(G: ~~~aL CX k f fd ps sp'): ~~~aL CX k f fd ps (λvs H Q E=>sp vs H Q E\/sp' vs H Q E):=
 ⟨λA o s vs H Q E hr q=>q.elim (F.len A o s vs H Q E hr) (G.len A o s vs H Q E hr),λA outer s H args us vs Q E hr he hb hv hs=>hs.elim (F.run A outer s H args us vs Q E hr he hb hv) (G.run A outer s H args us vs Q E hr he hb hv)⟩
def dz:aH->Int
 | .plain R=>(gv R).size
 | .every m _ _=>m
def h8(cols:List (List Int)):aH->Bool
 | .plain R=>CW cols cols.length R
 | .every _ _ _=>false
def bE:aH->bV
 | .plain R=>gv R
 | .every m a R=>eQ m a (gv R)
def ua(cols:List (List Int))(i:Nat):aH->Int
 | .plain R=>oE cols i R
 | .every m _ _=>(i:Int) % m
def Fx:aH->Int->Prop
 | .plain R=>Ew R
 | .every m _ _=>oC m
theorem Bb(R:aH):(bE R).size=dz R:=by
 cases R<;>rfl
theorem zX{b:Option (List Int)}(hu:cols[i]?=some us)(hi:zW R):(gv R).after (gv R).start b us=if gs cols i R=true then none else some 0:=by
 cases R with
 | span o t D=>
  show(if aE us (t+1) - aE us (o+1)∈D then some 0 else none)=if (!decide (dI t cols i - dI o cols i∈D))=true then none else some 0;rw [dZ hu,dZ hu]
  by_cases h:aE us (t+1) - aE us (o+1)∈D
  ·rw [if_pos h,decide_eq_true h];rfl
  ·rw [if_neg h,decide_eq_false h];rfl
 | clock o t h D=>
  show(if (aE us (t+1) - aE us (o+1)) % h∈D then some 0 else none)=if (!decide ((dI t cols i - dI o cols i) % h∈D))=true then none else some 0;rw [dZ hu,dZ hu]
  by_cases h:(aE us (t+1) - aE us (o+1)) % h∈D
  ·rw [if_pos h,decide_eq_true h];rfl
  ·rw [if_neg h,decide_eq_false h];rfl
 | _=>exact hi.elim
theorem xI(nv:Nat)(cols:List (List Int))(R:aH)(hg:cv nv R):Walks (bE R) cols (λi=>ua cols i R) (λi=>iT cols i R):=by
 cases R with
 | plain R=>exact Fi nv cols R hg
 | every m a R=>
  obtain⟨hg,hin,m1,a0,a1⟩:=hg;refine⟨by show(0:Int)=((0:Nat):Int) % m;simp,λi us hu=>?_⟩
  have em:((i:Int) % m+1) % m=((i+1:Nat):Int) % m:=by
   rw [Int.emod_add_emod];rfl
  show(if (i:Int) % m=a then(if (gv R).after (gv R).start (g7 cols i) us=none then none else some (((i:Int) % m+1) % m))else some (((i:Int) % m+1) % m))=if (decide ((i:Int) % m=a) && gs cols i R)=true then none else some (((i+1:Nat):Int) % m);rw [em,zX hu hin]
  by_cases h:(i:Int) % m=a
  ·rw [if_pos h,decide_eq_true h,ai2]
   by_cases hb:gs cols i R=true
   ·rw [if_pos hb,if_pos rfl,if_pos hb]
   ·rw [if_neg hb,if_neg hb,if_neg (λz=>by cases z)]
  ·rw [if_neg h,decide_eq_false h,ah3]
   rfl
theorem sC{o:Int}{j:Nat}(h:j < i):dI o (cols.take i) j=dI o cols j:=by
 unfold dI;rw [ab5,ab5,an0,if_pos h]
theorem C2(cols:List (List Int))(i:Nat)(hi:i<=cols.length)(R:cY):CW (cols.take i) (cols.take i).length R=CW cols i R:=by
 have hl:(cols.take i).length=i:=by rw [ac9];omega
 rw [hl]
 cases R with
 | times o nt lw hgh=>
  show decide ((iU o nt (cols.take i) i:Int) < lw)=decide ((iU o nt cols i:Int) < lw)
  have:iU o nt (cols.take i) i=iU o nt cols i:=by
   unfold iU;rw [List.take_take,Nat.min_self]
  rw [this]
 | close o D=>
  cases i with
  | zero=>rfl
  | succ i=>
   show(decide (i+1≠0) && !decide (dI o (cols.take (i+1)) (i+1 - 1)∈D))=(decide (i+1≠0) && !decide (dI o cols (i+1 - 1)∈D));rw [sC ()]
 | back o cN=>
  show(decide (2<=i) && (decide (fS o (cols.take i) (i - 1) > cN) || decide (fS o (cols.take i) (i - 1) < 0 - cN)))=(decide (2<=i) && (decide (fS o cols (i - 1) > cN) || decide (fS o cols (i - 1) < 0 - cN)))
  by_cases h2:2<=i
  ·have:fS o (cols.take i) (i - 1)=fS o cols (i - 1):=by
    unfold fS;rw [sC (),sC ()]
   rw [this]
  ·rw [decide_eq_false h2,ah3,ah3]
 | _=>rfl
theorem zt(nv:Nat)(cols:List (List Int))(R:aH)(hg:cv nv R)(i:Nat)(hi:i<=cols.length):(bE R).closes (ua cols i R) (g7 cols i)=!h8 (cols.take i) R:=by
 cases R with
 | plain R=>
  show(gv R).closes (oE cols i R) (g7 cols i)=!CW (cols.take i) (cols.take i).length R;rw [C2 cols i hi];exact B8 nv cols R hg i hi
 | every m a R=>rfl
def aQ:cY->Str
 | .span _ _ _=>"span"
 | .clock _ _ _ _=>"clock"
 | .move _ _=>"move"
 | .alike _ _ _=>"alike"
 | .back _ _=>"back"
 | .held _ _=>"held"
 | .times _ _ _ _=>"times"
 | .begin _ _=>"begin"
 | .close _ _=>"close"
def de:cY->List Int
 | .span o t D=>(o+1)::(t+1)::D
 | .clock o t h D=>(o+1)::(t+1)::h::D
 | .move o D=>(o+1)::D
 | .alike o t D=>(o+1)::(t+1)::D
 | .back o cN=>[o+1,cN]
 | .held o most=>[o+1,most]
 | .times o nt lw hg=>[o+1,nt,lw,hg]
 | .begin o D=>(o+1)::D
 | .close o D=>(o+1)::D
theorem GP(R:cY):EZ R=.str (aQ R)::(de R).map V.int:=by
 cases R<;>rfl
def w8:cY->Prop
 | .span _ _ D=>1<=D.length/\D.length<=12
 | .clock _ _ _ D=>1<=D.length/\D.length<=12
 | .move _ D=>1<=D.length/\D.length<=12
 | .alike _ _ D=>1<=D.length/\D.length<=12
 | .times _ _ lw _=>0<=lw
 | .begin _ D=>1<=D.length/\D.length<=12
 | .close _ D=>1<=D.length/\D.length<=12
 | _=>True
def BO(R:cY):Prop:=(∀n∈de R,n.natAbs < 10 ^ 40)/\w8 R
def uk:aH->Prop
 | .plain R=>BO R
 | .every m a R=>BO R/\m.natAbs < 10 ^ 40/\a.natAbs < 10 ^ 40
theorem uj(h:BO R):(de R).length<=20:=by
 have hl:=h.2
 cases R<;>simp only [de,w8,ad4,List.length_nil]at hl |-<;>omega
def lR(RI:mP):Prop:=∀(r:Addr) (H:Hp) (z:Addr) (xs:List Addr) (ys:List V),RI r H->H z=some (.lst (xs.map V.ref))->RI r (upd H z (.lst ys))
def gG(P:Program)(w:World)(K:Frag)(mg:Str->Option Value)(base:Heap)(nv:Nat)(R:aH)(r:Addr)(H:Hp):Prop:=∃(C:Addr) (RI:mP),~~~br 7 nv C (bE R) RI (Fx R)/\lR RI/\RI r H
theorem gG.same{R:aH}{r:Addr}(s:au H H')(h: ~~~gG nv R r H): ~~~gG nv R r H':=by
 obtain⟨C,RI,h1,h0,h2⟩:=h;exact⟨C,RI,h1,h0,h1.mono _ _ _ s h2⟩
theorem gG.stab{R:aH}{r:Addr}{xs:List Addr}{ys:List V}(h: ~~~gG nv R r H)(hz:H z=some (.lst (xs.map V.ref))): ~~~gG nv R r (upd H z (.lst ys)):=by
 obtain⟨C,RI,h1,h0,h2⟩:=h;exact⟨C,RI,h1,h0,h0 _ _ _ _ _ h2 hz⟩
def BU(P:Program)(w:World)(K:Frag)(mg:Str->Option Value)(base:Heap)(nv:Nat)(H:Hp)(b:Addr)(Rs:List aH):Prop:=∃rs:List Addr,aJ K H b (rs.map V.ref)/\rs.length=Rs.length/\∀(j:Nat) (r:Addr) (R:aH),rs[j]?=some r->Rs[j]?=some R->~~~gG nv R r H
def jx(P:Program)(w:World)(K:Frag)(mg:Str->Option Value)(base:Heap)(C:Addr)(nv:Nat)(bs:List (Int×Int))(Rs:List aH)(x:Addr)(H:Hp):Prop:=∃(dx a b:Addr),H x=some (.ins C dx (dR a b))/\bP K H a bs/\~~~BU nv H b Rs
def gU(bs:List (Int×Int))(Rs:List aH):Int:=Rs.foldl (λt R=>t * dz R) (xJ bs)
def pF(P:Program)(w:World)(K:Frag)(mg:Str->Option Value)(base:Heap)(C:Addr):Sp:=λvs H Q _=>∃(x:Addr) (nv:Nat) (bs:List (Int×Int)) (Rs:List aH),vs=[.ref x]/\~~~jx C nv bs Rs x H/\bs.length<=100/\Rs.length<=100/\(∀b∈bs,(hJ b).natAbs < 2 ^ 60)/\(∀R∈Rs,(dz R).natAbs < 2 ^ 60)/\gU bs Rs<=400/\Q (.ref x) H
theorem jx.toM{Rs:List aH}(h: ~~~jx C nv bs Rs x H): ~~~rW C nv bs (Rs.map bE) (Rs.map Fx) x H:=by
 obtain⟨dx,a,b,h1,h2,rs,h3,h4,h5⟩:=h;refine⟨dx,a,b,rs,h1,h2,⟨h3,by rw [aa0,h4],by rw [aa0,aa0],λj r S G e1 e2 e3=>?_⟩⟩;rw [aa4]at e2 e3
 cases hR:Rs[j]? with
 | none=>rw [hR]at e2;cases e2
 | some R=>
  rw [hR]at e2 e3;cases e2;cases e3;obtain⟨C,RI,g1,_,g2⟩:=h5 j r R e1 hR;exact⟨C,RI,g1,g2⟩
theorem Fj(bs:List (Int×Int))(Rs:List aH):GW bs (Rs.map bE)=gU bs Rs:=by
 unfold GW gU;rw [List.foldl_map];simp only [Bb]
theorem Eb{a:Int}(h:a.natAbs < 2 ^ 60):a.natAbs < 2 ^ 200:=Nat.lt_trans h (by decide +kernel)
theorem yz:∀vs H Q E,~~~pF C vs H Q E->~~~rJ C vs H Q E:=λvs H Q E zq=>by
 obtain⟨x,nv,bs,Rs,h1,h3,l1,l2,h4,h5,h6,h7⟩:=zq
 exact⟨x,nv,bs,Rs.map bE,Rs.map Fx,h1,h3.toM,l1,by rw [aa0];exact l2,λb hb=>Eb (h4 b hb),λS hS=>by
  obtain⟨R,hR,rfl⟩:=ac3.mp hS;rw [Bb]
  exact Eb (h5 R hR),by rw [Fj];exact h6,h7⟩
def Fy(P:Program)(w:World)(K:Frag)(mg:Str->Option Value)(base:Heap)(Dt:List (Str×V))(nv:Nat)(R:cY):Prop:=∃(f C:Addr) (sp:Sp) (RI:Str->mP),KTD.datumAt (aQ R) Dt=↑f/\~~~fv 7 f ["row","numbers","voices"] sp/\
 (∀(row:Str) (q:Addr) (H':Hp) (Q':VK),H' q=some (.lst ((de R).map V.int))->(∀r H'',au H' H''->RI row r H''->Q' (.ref r) H'')->sp [.str row,.ref q,.int nv] H' Q' E0)/\
 (∀row,~~~br 7 nv C (gv R) (RI row) (Ew R))/\(zW R->∀row,~~~br 4 nv C (gv R) (RI row) (Ew R))/\∀row,lR (RI row)
theorem qw{T0:Addr}(F:rS K "read_rule" "read_rule" gD f fd T0)(T:Txt mg aM)(D_plain_rule: ~~~cB "plain_rule" 9 ["row","voices"] (~~~lN aM 7)): ~~~aL bU 10 f fd ["text","voices","row"] (~~~Bc aM 7):=by
 refine F.ok sc_read_rule λ_ A _ s H vs Q E hr h=>?_;obtain⟨row,kind,ns,nv,z,D,g,sp,Res,rfl,R,hk,tab,hg,fn,k,kq⟩:=h
 refine⟨rfl,_,(ag (cU (i:=3) sc_read_rule.nd (c8 (bo (bW K PySem.F.plainAttrs_str PySem.F.slot_str_startswith PySem.F.type_str_startswith gI (pr 0) (aa aW ah)) (λ_=>rfl)) AN (aA D_plain_rule hr ⋯ (aa (pr 0) (aa (pr 1) ah)))))
 (ag (aP (ba (ay eL (pr 3) aZ (az _))) (ai lC) aB)
 (ai (av (pr 3))))),?_⟩
 tm_at "r";rw [wy row _ (c:=101) (by decide +kernel) (by rw [R.head];exact hk),if_neg aa6];refine⟨row,kind,ns,nv,D,g,sp,Res,rfl,R,tab,hg,fn,k,λv H' hv=>?_⟩;obtain⟨hn,q⟩:=kq v H' hv;rw [if_neg hn];exact q
theorem jE{n:Addr}{xs:List Addr}(hD:1<=D.length)(hn:H n=some (.lst (D.map V.int)))(hz:H z=some (.lst (xs.map V.ref))):n≠z:=λe=>by
 subst e;rw [hn]at hz
 cases D with
 | nil=>simp at hD
 | cons d D=>
  cases xs with
  | nil=>cases hz
  | cons x xs=>cases hz
theorem yY(hD:1<=D.length):lR (iS C row x1 x2 D):=λr H z zs ys h hz=>by
 obtain⟨dx,n,h1,h2⟩:=h;exact⟨dx,n,by rw [aj (dE h1 hz (λe=>by cases e))];exact h1,by rw [aj (jE hD h2 hz)];exact h2⟩
theorem wm(hD:1<=D.length):lR (gy C row x1 x2 x3 D):=λr H z zs ys h hz=>by
 obtain⟨dx,n,h1,h2⟩:=h;exact⟨dx,n,by rw [aj (dE h1 hz (λe=>by cases e))];exact h1,by rw [aj (jE hD h2 hz)];exact h2⟩
theorem yX(hD:1<=D.length):lR (iR C row x1 D):=λr H z zs ys h hz=>by
 obtain⟨dx,n,h1,h2⟩:=h;exact⟨dx,n,by rw [aj (dE h1 hz (λe=>by cases e))];exact h1,by rw [aj (jE hD h2 hz)];exact h2⟩
theorem wg(hD:1<=D.length):lR (gw C row x1 x2 D):=λr H z zs ys h hz=>by
 obtain⟨dx,n,h1,h2⟩:=h;exact⟨dx,n,by rw [aj (dE h1 hz (λe=>by cases e))];exact h1,by rw [aj (jE hD h2 hz)];exact h2⟩
theorem yV:lR (fZ C row x1 x2):=λr H z zs ys h hz=>by
 obtain⟨dx,h1⟩:=h;exact⟨dx,by rw [aj (dE h1 hz (λe=>by cases e))];exact h1⟩
theorem yW:lR (f6 C row x1 x2):=λr H z zs ys h hz=>by
 obtain⟨dx,h1⟩:=h;exact⟨dx,by rw [aj (dE h1 hz (λe=>by cases e))];exact h1⟩
theorem wt:lR (du C row x1 x2 x3 x4):=λr H z zs ys h hz=>by
 obtain⟨dx,h1⟩:=h;exact⟨dx,by rw [aj (dE h1 hz (λe=>by cases e))];exact h1⟩
theorem wj(hD:1<=D.length):lR (gx C row x1 D):=λr H z zs ys h hz=>by
 obtain⟨dx,n,h1,h2⟩:=h;exact⟨dx,n,by rw [aj (dE h1 hz (λe=>by cases e))];exact h1,by rw [aj (jE hD h2 hz)];exact h2⟩
theorem wo(hD:1<=D.length):lR (gz C row x1 D):=λr H z zs ys h hz=>by
 obtain⟨dx,n,h1,h2⟩:=h;exact⟨dx,n,by rw [aj (dE h1 hz (λe=>by cases e))];exact h1,by rw [aj (jE hD h2 hz)];exact h2⟩
theorem wq{t:Int}(h:lR RIn):lR (fm C row t u RIn):=λr H z zs ys hr hz=>by
 obtain⟨dx,ri,h1,h2⟩:=hr;exact⟨dx,ri,by rw [aj (dE h1 hz (λe=>by cases e))];exact h1,h _ _ _ _ _ h2 hz⟩
theorem F1{f_span C_Span:Addr}{f_clock C_Clock:Addr}{f_move C_Move:Addr}{f_alike C_Alike:Addr}{f_back C_Back:Addr}{f_held C_Held:Addr}{f_times C_Times:Addr}{f_begin C_Begin:Addr}{f_close C_Close:Addr}
  (hd_span:KTD.datumAt ("span":Str) Dt=↑f_span) (fn_span: ~~~fv 7 f_span ["row","numbers","voices"] (pM K C_Span)) (RO_span:∀(row:Str) (x1 x2:Int) (D:List Int) (nv:Nat),(1<=x1/\x1<=nv)->(1<=x2/\x2<=nv)->~~~br 4 nv C_Span (fu x1 x2 D) (iS C_Span row x1 x2 D) λ_=>True)
  (hd_clock:KTD.datumAt ("clock":Str) Dt=↑f_clock) (fn_clock: ~~~fv 7 f_clock ["row","numbers","voices"] (mI K C_Clock)) (RO_clock:∀(row:Str) (x1 x2 x3:Int) (D:List Int) (nv:Nat),(1<=x1/\x1<=nv)->(1<=x2/\x2<=nv)->1<=x3->~~~br 4 nv C_Clock (ef x1 x2 x3 D) (gy C_Clock row x1 x2 x3 D) λ_=>True)
  (hd_move:KTD.datumAt ("move":Str) Dt=↑f_move) (fn_move: ~~~fv 7 f_move ["row","numbers","voices"] (pE K C_Move)) (RO_move:∀(row:Str) (x1:Int) (D:List Int) (nv:Nat),(1<=x1/\x1<=nv)->~~~br 7 nv C_Move (fV x1 D) (iR C_Move row x1 D) λ_=>True)
  (hd_alike:KTD.datumAt ("alike":Str) Dt=↑f_alike) (fn_alike: ~~~fv 7 f_alike ["row","numbers","voices"] (mG K C_Alike)) (RO_alike:∀(row:Str) (x1 x2:Int) (D:List Int) (nv:Nat),(1<=x1/\x1<=nv)->(1<=x2/\x2<=nv)->~~~br 7 nv C_Alike (eO x1 x2 D) (gw C_Alike row x1 x2 D) λ_=>True)
  (hd_back:KTD.datumAt ("back":Str) Dt=↑f_back) (fn_back: ~~~fv 7 f_back ["row","numbers","voices"] (pz K C_Back)) (RO_back:∀(row:Str) (x1 x2:Int) (nv:Nat),(1<=x1/\x1<=nv)->0<=x2->~~~br 7 nv C_Back (dy x1 x2) (fZ C_Back row x1 x2) kX)
  (hd_held:KTD.datumAt ("held":Str) Dt=↑f_held) (fn_held: ~~~fv 7 f_held ["row","numbers","voices"] (pB K C_Held)) (RO_held:∀(row:Str) (x1 x2:Int) (nv:Nat),(1<=x1/\x1<=nv)->1<=x2->~~~br 7 nv C_Held (eo x1 x2) (f6 C_Held row x1 x2) (rm x2))
  (hd_times:KTD.datumAt ("times":Str) Dt=↑f_times) (fn_times: ~~~fv 7 f_times ["row","numbers","voices"] (mL K C_Times)) (RO_times:∀(row:Str) (x1 x2 x3 x4:Int) (nv:Nat),(1<=x1/\x1<=nv)->0<=x4->~~~br 7 nv C_Times (cM x1 x2 x3 x4) (du C_Times row x1 x2 x3 x4) (kY x4))
  (hd_begin:KTD.datumAt ("begin":Str) Dt=↑f_begin) (fn_begin: ~~~fv 7 f_begin ["row","numbers","voices"] (mH K C_Begin)) (RO_begin:∀(row:Str) (x1:Int) (D:List Int) (nv:Nat),(1<=x1/\x1<=nv)->~~~br 7 nv C_Begin (ee x1 D) (gx C_Begin row x1 D) λ_=>True)
  (hd_close:KTD.datumAt ("close":Str) Dt=↑f_close) (fn_close: ~~~fv 7 f_close ["row","numbers","voices"] (mJ K C_Close)) (RO_close:∀(row:Str) (x1:Int) (D:List Int) (nv:Nat),(1<=x1/\x1<=nv)->~~~br 7 nv C_Close (eP x1 D) (gz C_Close row x1 D) λ_=>True)
  (nv:Nat) (R:cY) (hg:mT nv R) (hl:w8 R): ~~~Fy Dt nv R:=by
 cases R with
 | span o t D=>
  obtain⟨o0,o1,t0,t1⟩:=hg;exact⟨f_span,C_Span,_,λrow=>iS C_Span row (o+1) (t+1) D,hd_span,fn_span,λrow q H' Q' hq k=>⟨q,row,(o+1),(t+1),D,nv,rfl,aJ.of hq,(),(),(),(),hl.1,hl.2,k⟩,λrow=>(RO_span row (o+1) (t+1) D nv ⟨(),()⟩ ⟨(),()⟩).up ∅,λ_ row=>RO_span row (o+1) (t+1) D nv ⟨(),()⟩ ⟨(),()⟩,λrow=>yY (D:=D) hl.1⟩
 | clock o t h D=>
  obtain⟨o0,o1,t0,t1,h1⟩:=hg;exact⟨f_clock,C_Clock,_,λrow=>gy C_Clock row (o+1) (t+1) h D,hd_clock,fn_clock,λrow q H' Q' hq k=>⟨q,row,(o+1),(t+1),h,D,nv,rfl,aJ.of hq,(),(),(),(),h1,hl.1,hl.2,k⟩,λrow=>(RO_clock row (o+1) (t+1) h D nv ⟨(),()⟩ ⟨(),()⟩ h1).up ∅,λ_ row=>RO_clock row (o+1) (t+1) h D nv ⟨(),()⟩ ⟨(),()⟩ h1,λrow=>wm (D:=D) hl.1⟩
 | move o D=>
  obtain⟨o0,o1⟩:=hg;exact⟨f_move,C_Move,_,λrow=>iR C_Move row (o+1) D,hd_move,fn_move,λrow q H' Q' hq k=>⟨q,row,(o+1),D,nv,rfl,aJ.of hq,(),(),hl.1,hl.2,k⟩,λrow=>RO_move row (o+1) D nv ⟨(),()⟩,λz=>z.elim,λrow=>yX (D:=D) hl.1⟩
 | alike o t D=>
  obtain⟨o0,o1,t0,t1⟩:=hg;exact⟨f_alike,C_Alike,_,λrow=>gw C_Alike row (o+1) (t+1) D,hd_alike,fn_alike,λrow q H' Q' hq k=>⟨q,row,(o+1),(t+1),D,nv,rfl,aJ.of hq,(),(),(),(),hl.1,hl.2,k⟩,λrow=>RO_alike row (o+1) (t+1) D nv ⟨(),()⟩ ⟨(),()⟩,λz=>z.elim,λrow=>wg (D:=D) hl.1⟩
 | back o cN=>
  obtain⟨o0,o1,f0⟩:=hg;exact⟨f_back,C_Back,_,λrow=>fZ C_Back row (o+1) cN,hd_back,fn_back,λrow q H' Q' hq k=>⟨q,row,(o+1),cN,nv,rfl,aJ.of hq,(),(),f0,k⟩,λrow=>RO_back row (o+1) cN nv ⟨(),()⟩ f0,λz=>z.elim,λrow=>yV⟩
 | held o most=>
  obtain⟨o0,o1,f0⟩:=hg;exact⟨f_held,C_Held,_,λrow=>f6 C_Held row (o+1) most,hd_held,fn_held,λrow q H' Q' hq k=>⟨q,row,(o+1),most,nv,rfl,aJ.of hq,(),(),f0,k⟩,λrow=>RO_held row (o+1) most nv ⟨(),()⟩ f0,λz=>z.elim,λrow=>yW⟩
 | times o nt lw hgh=>
  obtain⟨o0,o1,f0⟩:=hg;exact⟨f_times,C_Times,_,λrow=>du C_Times row (o+1) nt lw hgh,hd_times,fn_times,λrow q H' Q' hq k=>⟨q,row,(o+1),nt,lw,hgh,nv,rfl,aJ.of hq,(),(),hl,f0,k⟩,λrow=>RO_times row (o+1) nt lw hgh nv ⟨(),()⟩ f0,λz=>z.elim,λrow=>wt⟩
 | begin o D=>
  obtain⟨o0,o1⟩:=hg;exact⟨f_begin,C_Begin,_,λrow=>gx C_Begin row (o+1) D,hd_begin,fn_begin,λrow q H' Q' hq k=>⟨q,row,(o+1),D,nv,rfl,aJ.of hq,(),(),hl.1,hl.2,k⟩,λrow=>RO_begin row (o+1) D nv ⟨(),()⟩,λz=>z.elim,λrow=>wj (D:=D) hl.1⟩
 | close o D=>
  obtain⟨o0,o1⟩:=hg;exact⟨f_close,C_Close,_,λrow=>gz C_Close row (o+1) D,hd_close,fn_close,λrow q H' Q' hq k=>⟨q,row,(o+1),D,nv,rfl,aJ.of hq,(),(),hl.1,hl.2,k⟩,λrow=>RO_close row (o+1) D nv ⟨(),()⟩,λz=>z.elim,λrow=>wo (D:=D) hl.1⟩
def dm:aH->Str
 | .plain R=>Txt.join (Str.ofString " ") (aQ R::(de R).map aR)
 | .every m a R=>Txt.join (Str.ofString " ") (Str.ofString "every"::aR m::aR a::aQ R::(de R).map aR)
theorem gC(R:cY):(aQ R).length<=20/\32∉(aQ R).cps.toList/\(aQ R).cps.toList≠[]/\(aQ R).cps.toList.head?≠some 101:=by
 cases R with
 | span _ _ _=>exact show(Str.ofString "span").length<=20/\32∉(Str.ofString "span").cps.toList/\(Str.ofString "span").cps.toList≠[]/\(Str.ofString "span").cps.toList.head?≠some 101 from⟨by decide +kernel,by decide +kernel,by decide +kernel,by decide +kernel⟩
 | clock _ _ _ _=>exact show(Str.ofString "clock").length<=20/\32∉(Str.ofString "clock").cps.toList/\(Str.ofString "clock").cps.toList≠[]/\(Str.ofString "clock").cps.toList.head?≠some 101 from⟨by decide +kernel,by decide +kernel,by decide +kernel,by decide +kernel⟩
 | move _ _=>exact show(Str.ofString "move").length<=20/\32∉(Str.ofString "move").cps.toList/\(Str.ofString "move").cps.toList≠[]/\(Str.ofString "move").cps.toList.head?≠some 101 from⟨by decide +kernel,by decide +kernel,by decide +kernel,by decide +kernel⟩
 | alike _ _ _=>exact show(Str.ofString "alike").length<=20/\32∉(Str.ofString "alike").cps.toList/\(Str.ofString "alike").cps.toList≠[]/\(Str.ofString "alike").cps.toList.head?≠some 101 from⟨by decide +kernel,by decide +kernel,by decide +kernel,by decide +kernel⟩
 | back _ _=>exact show(Str.ofString "back").length<=20/\32∉(Str.ofString "back").cps.toList/\(Str.ofString "back").cps.toList≠[]/\(Str.ofString "back").cps.toList.head?≠some 101 from⟨by decide +kernel,by decide +kernel,by decide +kernel,by decide +kernel⟩
 | held _ _=>exact show(Str.ofString "held").length<=20/\32∉(Str.ofString "held").cps.toList/\(Str.ofString "held").cps.toList≠[]/\(Str.ofString "held").cps.toList.head?≠some 101 from⟨by decide +kernel,by decide +kernel,by decide +kernel,by decide +kernel⟩
 | times _ _ _ _=>exact show(Str.ofString "times").length<=20/\32∉(Str.ofString "times").cps.toList/\(Str.ofString "times").cps.toList≠[]/\(Str.ofString "times").cps.toList.head?≠some 101 from⟨by decide +kernel,by decide +kernel,by decide +kernel,by decide +kernel⟩
 | begin _ _=>exact show(Str.ofString "begin").length<=20/\32∉(Str.ofString "begin").cps.toList/\(Str.ofString "begin").cps.toList≠[]/\(Str.ofString "begin").cps.toList.head?≠some 101 from⟨by decide +kernel,by decide +kernel,by decide +kernel,by decide +kernel⟩
 | close _ _=>exact show(Str.ofString "close").length<=20/\32∉(Str.ofString "close").cps.toList/\(Str.ofString "close").cps.toList≠[]/\(Str.ofString "close").cps.toList.head?≠some 101 from⟨by decide +kernel,by decide +kernel,by decide +kernel,by decide +kernel⟩
theorem nP(h:BO R):f7 (Txt.join (Str.ofString " ") (aQ R::(de R).map aR)) (aQ R) (de R):=A6 h.1 (uj h) (gC R).2.1 (gC R).1 (gC R).2.2.1
theorem Dr{m a:Int}(h:BO R)(hm:m.natAbs < 10 ^ 40)(ha:a.natAbs < 10 ^ 40):nS (dm (.every m a R)) (Txt.join (Str.ofString " ") (aQ R::(de R).map aR)) m a:=by
 have e32:(Str.ofString " ")=⟨#[32]⟩:=by decide +kernel
 refine⟨?_,hm,ha,(nP h).len⟩;show(Txt.join (Str.ofString " ") (Str.ofString "every"::aR m::aR a::aQ R::(de R).map aR)).cps.toList=_;rw [e32,cP,cP];simp only [ac7];rw [l7,l7,l7];rfl
def ju(P:Program)(w:World)(K:Frag)(mg:Str->Option Value)(base:Heap):Sp:=λvs H Q _=>∃(z:Int) (R:aH) (nv:Nat),vs=[.str (dm R),.int nv,.int z]/\cv nv R/\uk R/\∀(r:Addr) H',~~~gG nv R r H'->au H H'->Q (.ref r) H'
theorem yF{CE:Addr}(F: ~~~aL bU 10 f fd ["text","voices","row"] (~~~Bc aM 7))(G: ~~~aL bU 10 f fd ["text","voices","row"] (~~~xt aM CE 7))(tab:lT K aM Dt)(MD:∀(nv:Nat) (R:cY),mT nv R->w8 R->~~~Fy Dt nv R)
  (RO:∀(row:Str) (t u:Int) (nv:Nat) (Cn:Addr) (S:bV) (RIn:mP) (G:Int->Prop),0 < t->~~~br 4 nv Cn S RIn G->~~~br 7 nv CE (eQ t u S) (fm CE row t u RIn) (oC t)) :
  ~~~aL bU 10 f fd ["text","voices","row"] (~~~ju):=by
 refine(Ci F G).imp λvs H Q E h=>?_;obtain⟨z,R,nv,rfl,hg,ho,q⟩:=h
 cases R with
 | plain R=>
  obtain⟨f,C,sp,RI,hd,fn,mk,ro,_,sb⟩:=MD nv R hg ho.2;refine .inl ⟨_,aQ R,de R,nv,z,Dt,f,sp,λv H'=>∃r,v=.ref r/\au H H'/\RI (dm (.plain R)) r H',rfl,nP ho,(gC R).2.2.2,tab,hd,fn,λq H' Q' s hq k=>mk _ q H' Q' hq λr H'' s' hr=>k _ _ ⟨r,rfl,s.trans s',hr⟩,?_⟩;rintro v H' ⟨r,rfl,s,hr⟩;exact⟨λz=>(by cases z),q r H' ⟨C,RI (dm (.plain R)),ro _,sb _,hr⟩ s⟩
 | every m a R=>
  obtain⟨hg,hin,m1,a0,a1⟩:=hg;obtain⟨ho,hm,ha⟩:=ho;obtain⟨f,C,sp,RI,hd,fn,mk,_,ro,sb⟩:=MD nv R hg ho.2
  have hk:aQ R=Str.ofString "span"\/aQ R=Str.ofString "clock":=by
   cases R with
   | span o t D=>exact .inl rfl
   | clock o t h D=>exact .inr rfl
   | _=>exact hin.elim
  have re:=Dr ho hm ha;have r4:=ro hin (Txt.join (Str.ofString " ") (aQ R::(de R).map aR));refine .inr ⟨_,nv,z,rfl,⟨_,_,_,re⟩,_,_,aQ R,m,a,de R,nv,Dt,f,sp,RI (Txt.join (Str.ofString " ") (aQ R::(de R).map aR)),rfl,re,nP ho,hk,a0,a1,tab,hd,fn,λq H' Q' s hq k=>mk _ q H' Q' hq λr H'' s' hr=>k _ _ (s.trans s') hr,r4.mono,λr H' s hr=>⟨λz=>(by cases z),q r H' ⟨CE,_,RO _ m a nv C _ _ _ () r4,wq (sb _),hr⟩ s⟩⟩
theorem m8{c:Nat}(hc:c < 256)(h:ws≠[])(hn:∀z∈ws,c∉z.cps.toList):Txt.split (Txt.join ⟨#[c]⟩ ws) ⟨#[c]⟩=ws:=by
 refine ft ?_;rw [jv _ hc,cP,pO c _ (by simpa using h) (λp hp=>?_)];obtain⟨z,hz,rfl⟩:=ac3.mp hp;exact hn z hz
def xw(K:Frag):Sp:=λvs H Q _=>∃row:Str,vs=[.str row]/\row.length<=10000/\((∃lo hi:Int,f7 row (Str.ofString "voice") [lo,hi]/\lo<=hi/\∀p H',H' p=some (.tup [.int lo,.int hi])->au H H'->Q (.ref p) H')\/∃w0 ws,Txt.split row ⟨#[32]⟩=w0::ws/\w0≠Str.ofString "voice"/\∀H',au H H'->Q .non H')
def tG(P:Program)(w:World)(K:Frag)(mg:Str->Option Value)(base:Heap)(C:Addr):Sp:=λvs H Q _=>∃(text:Str) (bs:List (Int×Int)) (vr:Int×Int->Str) (Rs:List aH),vs=[.str text]/\text.length<=1000000/\Txt.split text ⟨#[10]⟩=bs.map vr++Rs.map dm/\1<=bs.length/\bs.length<=4/\Rs.length<=12/\
 (∀b∈bs,f7 (vr b) (Str.ofString "voice") [b.1,b.2]/\b.1<=b.2/\(hJ b).natAbs < 2 ^ 60)/\(∀R∈Rs,cv bs.length R/\uk R/\(dz R).natAbs < 2 ^ 60)/\gU bs Rs<=400/\∀x H',~~~jx C bs.length bs Rs x H'->au H H'->Q (.ref x) H'
theorem fW(R:aH)(h:uk R):(dm R).length<=10000/\∃w0 ws,Txt.split (dm R) ⟨#[32]⟩=w0::ws/\w0≠Str.ofString "voice":=by
 cases R with
 | plain R=>
  have hr:=nP h;refine⟨hr.len,aQ R,(de R).map aR,hr.split,?_⟩
  cases R with
  | span _ _ _=>exact show Str.ofString "span"≠Str.ofString "voice" by decide +kernel
  | clock _ _ _ _=>exact show Str.ofString "clock"≠Str.ofString "voice" by decide +kernel
  | move _ _=>exact show Str.ofString "move"≠Str.ofString "voice" by decide +kernel
  | alike _ _ _=>exact show Str.ofString "alike"≠Str.ofString "voice" by decide +kernel
  | back _ _=>exact show Str.ofString "back"≠Str.ofString "voice" by decide +kernel
  | held _ _=>exact show Str.ofString "held"≠Str.ofString "voice" by decide +kernel
  | times _ _ _ _=>exact show Str.ofString "times"≠Str.ofString "voice" by decide +kernel
  | begin _ _=>exact show Str.ofString "begin"≠Str.ofString "voice" by decide +kernel
  | close _ _=>exact show Str.ofString "close"≠Str.ofString "voice" by decide +kernel
 | every m a R=>
  obtain⟨h,hm,ha⟩:=h
  have e32:(Str.ofString " ")=⟨#[32]⟩:=by decide +kernel
  have nn:∀n:Int,32∉(aR n).cps.toList:=λn=>nM n
  have hw:∀z∈(Str.ofString "every"::aR m::aR a::aQ R::(de R).map aR),32∉z.cps.toList:=λz hz=>by
   rcases ab2.mp hz with rfl | hz
   ·decide +kernel
   rcases ab2.mp hz with rfl | hz
   ·exact nn m
   rcases ab2.mp hz with rfl | hz
   ·exact nn a
   rcases ab2.mp hz with rfl | hz
   ·exact(gC R).2.1
   ·obtain⟨n,_,rfl⟩:=ac3.mp hz
    exact nn n
  refine⟨?_,Str.ofString "every",aR m::aR a::aQ R::(de R).map aR,?_,by decide +kernel⟩
  ·show(Txt.join (Str.ofString " ") (Str.ofString "every"::aR m::aR a::aQ R::(de R).map aR)).length<=10000
   rw [bh,e32,cP]
   have hl:=jF 32 ((Str.ofString "every"::aR m::aR a::aQ R::(de R).map aR).map λz=>z.cps.toList) 60 (λp hp=>by
    obtain⟨z,hz,rfl⟩:=ac3.mp hp;rw [<-bh];rcases ab2.mp hz with rfl | hz
    ·decide +kernel
    rcases ab2.mp hz with rfl | hz
    ·have:=dF hm;omega
    rcases ab2.mp hz with rfl | hz
    ·have:=dF ha;omega
    rcases ab2.mp hz with rfl | hz
    ·have:=(gC R).1;omega
    ·obtain⟨n,hn,rfl⟩:=ac3.mp hz
     have:=dF (h.1 n hn);omega)
   have:=uj h
   simp only [aa0,ad4]at hl;omega
  ·show Txt.split (Txt.join (Str.ofString " ") (Str.ofString "every"::aR m::aR a::aQ R::(de R).map aR)) ⟨#[32]⟩=_
   rw [e32];exact m8 ∅ (by simp) hw
theorem oS(F:b0 K "voice_range" "voice_range" gR f fd)(T:Txt mg aM)(D_is_number: ~~~cB "is_number" 1 ["word"] rK): ~~~aL bU 2 f fd ["row"] (xw K):=by
 refine F.ok sc_voice_range λ_ A _ s H vs Q E hr h=>?_;obtain⟨row,rfl,hl,h⟩:=h
 refine⟨rfl,_,(ag (cU (i:=1) sc_voice_range.nd (bW K PySem.F.plainAttrs_str PySem.F.slot_str_split PySem.F.type_str_split kZ (pr 0) (aa aW ah)))
 (ag (aP (PW.pt (da (ba (ay CG (aD (aG K) ⋯ T.n_len boot_len (aa (pr 1) ah)) af (az _))) (da (ba (ay CG (aw (aC K) (pr 1) af (λ_ _=>rfl)) aW (az _))) (cR (cJ (bo (aD (gX K rfl) ⋯ T.n_all boot_all (aa (cX (own:=["word"]) (js:=[]) rfl (bF K (bt (fB K) (pr 1) (fw af) bJ)) (bB.of ⋯) (λ_ _ _ _ _=>(bM (i:=0) (show List.Nodup (["word"]:List Str)from by decide +kernel) rfl (Or.inl rfl))) (λ_ _ _ _ _=>cn) (λ_ _ _ _ _=>(aA D_is_number hr ⋯ (aa (pr 0) ah)))) ah)) (λ_=>rfl))))))) (ai (av aZ)) aB)
 (ag (cU (i:=2) sc_voice_range.nd (dk (aa (bf (dJ) ⋯ T.n_int boot_int (aa (aw (aC K) (pr 1) af (λ_ _=>rfl)) ah)) (aa (bf (dJ) ⋯ T.n_int boot_int (aa (aw (aC K) (pr 1) af (λ_ _=>rfl)) ah)) ah))))
 (ai (av (c8 (ba (ay (o0 i8) (aw (aC K) (pr 2) af (λ_ _=>rfl)) (aw (aC K) (pr 2) af (λ_ _=>rfl)) (az _))) (pr 2) aZ)))))),?_⟩
 have hs:=sizeLine_eq;refine aN (λZ H'=>∃p:Addr,H' p=some (.lst ((Txt.split row ⟨#[32]⟩).map V.str))/\Z=[some (.str row),↑p,none]/\au H H') ?_ ?_
 ·intro u' hu
  tm_at "r";exact⟨32,by decide +kernel,∅,(),λp hp=>hu _ _ ⟨p,ae,rfl,aq hp⟩⟩
 rintro Ω ω _ H1 ⟨p,hp1,rfl,s1⟩;refine ω _ _ ?_;rcases h with⟨lo,hi,RI,hle,q⟩ | ⟨w0,ws,hsp,hw0,q⟩
 ·rw [RI.split]at hp1
  have b1:=RI.nb lo (by simp);have b2:=RI.nb hi (by simp);have nlen:∀n:Int,n.natAbs < 10 ^ 40->(aR n).length<=41:=λn h=>dF h;refine aN (λZ H'=>Z=[some (.str row),↑p,none]/\au H1 H') ?_ ?_
  ·intro u' hu
   tm_at "r";refine⟨_,.inl (aJ.of hp1),?_⟩;rw [if_pos (by simp)];refine bq (aJ.of hp1) (bH rfl) ?_;tm_at "r";refine cG (aJ.of hp1) λq2 hq2=>?_;rw [show(some (1:Int))=some ((1:Nat):Int)from rfl,cy];show Dj _ _ _ _;have s2:au H1 (upd H1 q2 (.lst (([lo,hi].map aR).map V.str))):=aq hq2;refine bK (xs:=([lo,hi].map aR).map V.str) (aJ.of ae) (bQ (xs:=([lo,hi].map aR).map V.str) (λi ys H'=>ys=(List.replicate i true).map V.bl/\au (upd H1 q2 (.lst (([lo,hi].map aR).map V.str))) H') (by simp;omega) ⟨rfl,au.refl _⟩ ?_ ?_ ?_ ?_)
   ·rintro i ys H' ⟨rfl,sm⟩
    simp
   ·rintro i ys H' ⟨rfl,sm⟩
    exact sm.seq (aJ.of ae)
   ·rintro i x ys H' hx ⟨rfl,sm⟩
    obtain⟨n,hn,rfl⟩:∃n∈[lo,hi],x=.str (aR n):=by
     have:=ac0 hx
     simp only [ai7,ac3,Function.comp_apply]at this;obtain⟨n,hn,e⟩:=this;exact⟨n,hn,e.symm⟩
    tm_at "r";refine⟨aR n,rfl,?_,λH1 s1=>⟨?_,sm.trans s1⟩⟩
    ·have:=nlen n (RI.nb n hn)
     omega
    ·show _=(List.replicate (i+1) true).map V.bl
     rw [show(aR n).cps.toList=hX n from rfl,lZ (RI.nb n hn),List.replicate_succ',ab4];rfl
   rintro ys H2 ⟨rfl,sm⟩ p1 hp1';refine⟨_,aJ.of ae,?_⟩;rw [show(List.replicate (([lo,hi].map aR).map V.str).length true).all id=true by simp];tm_at "r";exact hu _ _ ⟨rfl,(s2.trans sm).upd hp1'⟩
  rintro Ω ω _ H2 ⟨rfl,s12⟩;have hp2:=s12 _ _ hp1;refine ω _ _ (aN (λZ H'=>∃t:Addr,H' t=some (.tup [.int lo,.int hi])/\Z=[some (.str row),↑p,↑t]/\au H2 H') ?_ ?_)
  ·intro u' hu
   tm_at "r";refine bq (aJ.of hp2) (show fR _ ((1:Nat):Int)=_ from aK rfl) ?_;tm_at "r";refine⟨lo,nI (ab3 b1 (aj5 ∅ ∅)),by have:=nlen lo b1;omega,bq (aJ.of hp2) (show fR _ ((2:Nat):Int)=_ from aK rfl) ?_⟩;tm_at "r";exact⟨hi,nI (ab3 b2 (aj5 ∅ ∅)),by have:=nlen hi b2;omega,(),λt ht=>hu _ _ ⟨t,ae,rfl,aq ht⟩⟩
  rintro Ω ω _ H3 ⟨t,ht,rfl,s23⟩;refine ω _ _ ?_;tm_at "r";refine dw (cI.of ht) (bH rfl) (dw (cI.of ht) (show fR _ ((1:Nat):Int)=_ from aK rfl) ?_);tm_at "r";rw [if_pos hle];exact q t _ ht ((s1.trans s12).trans s23)
 ·rw [hsp]at hp1
  refine Hg (λ_ _=>False) ?_ ?_
  ·intro u' hu
   tm_at "r";refine⟨_,.inl (aJ.of hp1),?_⟩
   by_cases h3:(((w0::ws).map V.str).length:Int)=3
   ·rw [if_pos h3]
    refine bq (aJ.of hp1) (bH rfl) ?_;tm_at "r";rw [if_neg hw0];exact q _ s1
   ·rw [if_neg h3]
    exact q _ s1
  rintro _ _ ⟨⟩
theorem lY{c:TT}{t u:TS}{D:jK}{Z:L2.St}(h:∀A B:Hp->Prop,(∀H,t D Z H->A H)->(∀H,u D Z H->B H)->c Z H λb H1=>if b=true then A H1 else B H1):Bv c t u D Z H:=h _ _ (λ_ x=>x) λ_ x=>x
theorem ux{g:TG}{x:V}{Z:L2.St}{tb:TS}{D:jK}(h:∀B:L2.St->Hp->Prop,(∀Z H,tb D Z H->B Z H)->g x Z H B):g x Z H λZf H2=>tb D Zf H2:=h _ λ_ _ z=>z
theorem CM(F:b0 K "read" "read" vU f fd)(T:Txt mg aM)(TC:fY K C)(D_voice_range: ~~~cB "voice_range" 10 ["row"] (xw K))(D_read_rule: ~~~cB "read_rule" 10 ["text","voices","row"] (~~~ju))(DM_Score: ~~~iQ "Score" C 9 ["self","ranges","rules"] (m5 K C))(D_not_too_wide: ~~~cB "not_too_wide" 10 ["score"] (~~~pF C)): ~~~aL bU 11 f fd ["text"] (~~~tG C):=by
 refine F.ok sc_read λ_ A _ s H vs Q E hr h=>?_;obtain⟨text,bs,vr,Rs,rfl,htl,hsp,nv1,nv4,rl,hb,hR,hwt,q⟩:=h
 refine⟨rfl,_,(ag (cU (i:=1) sc_read.nd (bN ah))
 (ag (cU (i:=2) sc_read.nd (bN ah))
 (ag (cw PassesOwn.never rfl (uA rfl T.n_enumerate (aa (bW K PySem.F.plainAttrs_str PySem.F.slot_str_split PySem.F.type_str_split kZ (pr 0) (aa aW ah)) ah)) (fT K (n:=2) rfl (bT (jR (i:=3) sc_read.nd) (bT (jR (i:=4) sc_read.nd) fU)))
 (ag (cU (i:=5) sc_read.nd (aA D_voice_range hr ⋯ (aa (pr 4) ah)))
 (ai (aP (PW.pt (j8 (ba (ay xf (pr 5) aZ (az _))) (j8 (ba (ay (o0 j6) (aD (aG K) ⋯ T.n_len boot_len (aa (pr 1) ah)) (ia T.g_MOST_VOICES) (az _))) (jH (ba (ay gJ (aD (aG K) ⋯ T.n_len boot_len (aa (pr 2) ah)) af (az _))))))) (ai (bG (bW K PySem.F.plainAttrs_list PySem.F.slot_list_append PySem.F.type_list_append cA (pr 1) (aa (pr 5) ah)))) (ai (aP (PW.pt (da (ba (ay gJ (aD (aG K) ⋯ T.n_len boot_len (aa (pr 1) ah)) af (az _))) (cR (ba (ay gJ (aD (aG K) ⋯ T.n_len boot_len (aa (pr 2) ah)) (ia T.g_MOST_RULES) (az _)))))) (ai lC) (ai (bG (bW K PySem.F.plainAttrs_list PySem.F.slot_list_append PySem.F.type_list_append cA (pr 2) (aa (aA D_read_rule hr ⋯ (aa (pr 4) (aa (aD (aG K) ⋯ T.n_len boot_len (aa (pr 1) ah)) (aa (pr 3) ah)))) ah))))))))))
 (ai (av (aA D_not_too_wide hr ⋯ (aa (iJ DM_Score hr ⋯ (aa (pr 1) (aa (pr 2) ah))) ah))))))),?_⟩
 have hs:=sizeLine_eq;refine aN (λZ H'=>∃ra:Addr,H ra=none/\H' ra=some (.lst (([]:List Addr).map V.ref))/\Z=[some (.str text),↑ra,none,none,none,none]/\au H H') ?_ ?_
 ·intro u' hu
  tm_at "r";exact⟨(),λp hp=>hu _ _ ⟨p,hp,ae,rfl,aq hp⟩⟩
 rintro Ω ω _ H1 ⟨ra,hra,hra1,rfl,s1⟩;refine ω _ _ (aN (λZ H'=>∃ru:Addr,H ru=none/\ru≠ra/\H' ru=some (.lst (([]:List Addr).map V.ref))/\H' ra=some (.lst (([]:List Addr).map V.ref))/\Z=[some (.str text),↑ra,↑ru,none,none,none]/\au H H') ?_ ?_)
 ·intro u' hu
  tm_at "r";exact⟨(),λp hp=>hu _ _ ⟨p,s1.free hp,(ao hra1 hp).symm,ae,(aq hp) _ _ hra1,rfl,s1.upd hp⟩⟩
 clear hra1 s1;rintro Ω ω _ H2 ⟨ru,hru,rra,hru2,hra2,rfl,s2⟩;refine ω _ _ (aN (λZ H'=>∃(ts rs:List Addr) (o3 o4 o5:Option V),Z=[some (.str text),↑ra,↑ru,o3,o4,o5]/\ts.length=bs.length/\rs.length=Rs.length/\H' ra=some (.lst (ts.map V.ref))/\H' ru=some (.lst (rs.map V.ref))/\(∀(j:Nat) (t:Addr) (b:Int×Int),ts[j]?=some t->bs[j]?=some b->H' t=some (.tup [.int b.1,.int b.2]))/\(∀(j:Nat) (r:Addr) (R:aH),rs[j]?=some r->Rs[j]?=some R->~~~gG bs.length R r H')/\au H H') ?_ ?_)
 ·intro u' hu
  tm_at "r";refine⟨10,by decide +kernel,∅,(),λsp hsp0=>?_⟩;rw [hsp];have s3:au H2 (upd H2 sp (.lst ((bs.map vr++Rs.map dm).map V.str))):=aq hsp0;have nsa:sp≠ra:=(ao hra2 hsp0).symm;have nsu:sp≠ru:=(ao hru2 hsp0).symm;obtain⟨Pv,hPv⟩:∃Pv:Nat->L2.St->Hp->Prop,Pv=λi Z H'=>∃(ts rs:List Addr) (o3 o4 o5:Option V),Z=[some (.str text),↑ra,↑ru,o3,o4,o5]/\ts.length=min i bs.length/\rs.length=i - bs.length/\H' ra=some (.lst (ts.map V.ref))/\H' ru=some (.lst (rs.map V.ref))/\H' sp=some (.lst ((bs.map vr++Rs.map dm).map V.str))/\(∀(j:Nat) (t:Addr) (b:Int×Int),ts[j]?=some t->bs[j]?=some b->H' t=some (.tup [.int b.1,.int b.2]))/\(∀(j:Nat) (r:Addr) (R:aH),rs[j]?=some r->Rs[j]?=some R->~~~gG bs.length R r H')/\au H H':=⟨_,rfl⟩
  refine⟨true,⟨_,aJ.of ae⟩,oB (l:=true) (us:=(bs.map vr++Rs.map dm).map V.str) Pv
   (by rw [hPv];exact⟨[],[],none,none,none,rfl,by simp,by simp,s3 _ _ hra2,s3 _ _ hru2,ae,λj t b e=>(by cases e),λj r R e=>(by cases e),s2.trans s3⟩) (λi Z H' _ h=>by rw [hPv]at h;obtain⟨_,_,_,_,_,_,_,_,_,_,h,_⟩:=h;exact aJ.of h) ?_ ?_⟩
  ·rintro i y Z H4 p hx hI hp0
   have hI':=hI;rw [hPv]at hI';clear hI;obtain⟨ts,rs,o3,o4,o5,rfl,tl,rsl,ha4,hu4,hs4,ht4,hr4,s4⟩:=hI'
   have hi:i < bs.length+Rs.length:=by have:=(aa1.mp hx).1;simpa using this
   rw [aa4]at hx;have sp5:au H4 (upd H4 p (.tup [.int i,y])):=aq hp0;have hp5:(upd H4 p (.tup [.int i,y])) p=some (.tup [.int i,y]):=ae;refine ux λB hB=>?_
   by_cases hv:i < bs.length
   ·-- a voice's row
    have eb:bs[i]?=some bs[i]:=aa2 hv;obtain⟨hrow,hle,_⟩:=hb _ (ad5 hv);rw [ap0 (ah6 hv)]at tl;rw [Nat.sub_eq_zero_of_le (ah6 hv)]at rsl;rw [ab7 (by simpa using hv),aa4,eb]at hx;cases hx;tm_at "r";refine⟨_,cI.of hp5,rfl,?_⟩;tm_at "r";refine hB _ _ (iL λkk hkk=>?_);tm_at "r";generalize upd H4 p (.tup [.int i,.str (vr bs[i])])=H5 at sp5 hp5;refine⟨vr bs[i],rfl,hrow.len,.inl ⟨_,_,hrow,hle,λt H6 ht6 s56=>?_⟩⟩;have s46:=sp5.trans s56;refine hkk _ _ (lY λA1 B1 hA1 hB1=>?_);tm_at "r";refine⟨_,.inl (aJ.of (s46 _ _ ha4)),?_⟩;rw [if_pos (by rw [aa0];omega)];refine⟨_,.inl (aJ.of (s46 _ _ hu4)),?_⟩;rw [if_pos (by rw [aa0];omega)];refine hA1 _ ?_;tm_at "r";have ha6:=s46 _ _ ha4;refine⟨.inl ⟨rfl,_,aJ.of ha6⟩,ra,_,_,rfl,rfl,ha6,by rw [aa0];omega,?_⟩;have rs0:rs=[]:=af8.mp ();subst rs0;rw [hPv];refine⟨ts++[t],[],_,_,_,rfl,by simp;omega,by simp;omega,by rw [ae,ab4];rfl,by rw [aj rra];exact s46 _ _ hu4,by rw [aj nsa];exact s46 _ _ hs4,λj t' b' e1 e2=>?_,λj r R e=>(by cases e),λc u hc=>?_⟩
    ·by_cases hj:j < ts.length
     ·rw [ab7 hj]at e1
      have:=s46 _ _ (ht4 j t' b' e1 e2)
      rw [aj (dE this ha6 (λe=>by cases e))];exact this
     ·rw [ac5 ()]at e1
      have ej:j=ts.length:=by
       have:=(aa1.mp e1).1
       simp at this;omega
      rw [ej,ak0]at e1;cases e1;rw [show j=i by omega,eb]at e2;cases e2;rw [aj (dE ht6 ha6 (λe=>by cases e))];exact ht6
    ·rw [aj (ao hc hra)]
     exact(s4.trans s46) _ _ hc
   ·-- a rule's row
    have hk:i - bs.length < Rs.length:=by omega
    rw [Nat.min_eq_right (al2.mp hv)]at tl;have eR:Rs[i - bs.length]?=some (Rs[i - bs.length]'hk):=aa2 hk;obtain⟨hgd,hok,_⟩:=hR _ (ad5 hk);obtain⟨hlen,w0,ws,hsw,hw0⟩:=fW _ hok;rw [ac5 (by simpa using hv),aa0,aa4,eR]at hx;cases hx;tm_at "r";refine⟨_,cI.of hp5,rfl,?_⟩;tm_at "r";refine hB _ _ (iL λkk hkk=>?_);tm_at "r";generalize upd H4 p (.tup [.int i,.str (dm (Rs[i - bs.length]'hk))])=H5 at sp5 hp5;refine⟨_,rfl,hlen,.inr ⟨w0,ws,hsw,hw0,λH6 s56=>?_⟩⟩;have s46:=sp5.trans s56;refine hkk _ _ (lY λA1 B1 hA1 hB1=>?_);tm_at "r";refine hB1 _ (lY λA2 B2 hA2 hB2=>?_);tm_at "r";refine⟨_,.inl (aJ.of (s46 _ _ ha4)),?_⟩;rw [if_neg (by rw [aa0];omega)];refine⟨_,.inl (aJ.of (s46 _ _ hu4)),?_⟩;rw [if_neg (by rw [aa0];omega)];refine hB2 _ ?_;tm_at "r";refine⟨.inl ⟨rfl,_,aJ.of (s46 _ _ hu4)⟩,_,.inl (aJ.of (s46 _ _ ha4)),?_⟩;rw [aa0,show ts.length=bs.length by omega];refine⟨i,_,bs.length,rfl,hgd,hok,λr H7 hr7 s67=>?_⟩;have s47:=s46.trans s67;have hu7:=s47 _ _ hu4;refine⟨ru,_,_,rfl,rfl,hu7,by rw [aa0];omega,?_⟩;rw [hPv];refine⟨ts,rs++[r],_,_,_,rfl,(),by simp;omega,by rw [aj rra.symm];exact s47 _ _ ha4,by rw [ae,ab4];rfl,by rw [aj nsu];exact s47 _ _ hs4,λj t' b' e1 e2=>?_,λj r' R' e1 e2=>?_,λc u hc=>?_⟩
    ·have:=s47 _ _ (ht4 j t' b' e1 e2)
     rw [aj (dE this hu7 (λe=>by cases e))];exact this
    ·by_cases hj:j < rs.length
     ·rw [ab7 hj]at e1
      exact((hr4 j r' R' e1 e2).same s47).stab hu7
     ·rw [ac5 ()]at e1
      have ej:j=rs.length:=by
       have:=(aa1.mp e1).1
       simp at this;omega
      rw [ej,ak0]at e1;cases e1;rw [show j=i - bs.length by omega,eR]at e2;cases e2;exact hr7.stab hu7
    ·rw [aj (ao hc hru)]
     exact(s4.trans s47) _ _ hc
  ·intro Z H4 hI
   rw [hPv]at hI;obtain⟨ts,rs,o3,o4,o5,rfl,tl,rsl,ha4,hu4,hs4,ht4,hr4,s4⟩:=hI;rw [aa0,aa8,aa0,aa0]at tl rsl;exact hu _ _ ⟨ts,rs,o3,o4,o5,rfl,(),(),ha4,hu4,ht4,hr4,s4⟩
 clear hra2 hru2 s2;clear H2;rintro Ω ω _ H2 ⟨ts,rs,o3,o4,o5,rfl,tl,rsl,ha2,iX,ht2,hr2,s2⟩;refine ω _ _ ?_;tm_at "r";intro x dx hx hdx dxx;have s3:au H2 (upd (upd H2 dx (.own x)) x (.ins C dx [])):=(aq hdx).upd (by rw [aj dxx.symm];exact hx);refine⟨x,dx,ra,ru,ts.map V.ref,rs.map V.ref,rfl,ae,s3.seq (aJ.of ha2),s3.seq (aJ.of iX),λp q' H' hp hq hqp e=>⟨rfl,?_⟩⟩
 have px:p≠x:=λe=>by subst e;rw [ae]at hp;cases hp
 have qx:q'≠x:=λe=>by subst e;rw [ae]at hq;cases hq
 have s4:au H2 H':=λc u hc=>by
  have h3:=s3 _ _ hc;have cx:c≠x:=ao hc hx;rw [e,aj cx,aj (ao h3 hq),aj (ao h3 hp)];exact h3
 have SA: ~~~jx C bs.length bs Rs x H':=⟨dx,p,q',by rw [e,ae],⟨ts,aJ.of (by rw [e,aj px,aj hqp.symm,ae]),tl,λi t b e1 e2=>cI.of (s4 _ _ (ht2 i t b e1 e2))⟩,⟨rs,aJ.of (by rw [e,aj qx,ae]),rsl,λj r R e1 e2=>(hr2 j r R e1 e2).same s4⟩⟩;exact⟨x,bs.length,bs,Rs,rfl,SA,(),(),λb hb'=>(hb b hb').2.2,λR hR'=>(hR R hR').2.2,hwt,q x H' SA (s2.trans s4)⟩
def zm(ns:List Int)(k:Int):Int:=ns.getD k.toNat 0
theorem He{ns:List Int}{k:Int}(hB:∀x∈ns,x.natAbs < 2 ^ GB):(zm ns k).natAbs < 2 ^ GB:=by
 unfold zm;rw [ab5]
 cases h:ns[k.toNat]? with
 | none=>exact Nat.pow_pos ∅
 | some c=>exact hB c (ac0 h)
def yT(K:Frag):Sp:=λvs H Q _=>∃(a:Addr) (ns:List Int) (k:Int),vs=[.ref a,.int k]/\aJ K H a (ns.map V.int)/\0<=k/\k<=1000/\Q (.int (zm ns k)) H
def lL:Sp:=λvs H Q _=>∃(c:Int) (n:Nat),vs=[.int c,.int n]/\n<=500/\∀(q:Addr) (ys:List Int) H',ys.length=n->(∀y∈ys,0<=y/\y < 399999)->H q=none->H' q=some (.lst (ys.map V.int))->au H H'->Q (.ref q) H'
def rC(b:Int×Int):List Int:=[b.1,b.2]
def xb(b:Int×Int):Prop:=b.1<=b.2/\b.1.natAbs<=10 ^ 36/\b.2 - b.1 < 12
theorem xb.big(h:xb b):b.1<=b.2/\b.1.natAbs < 10 ^ 40/\b.2.natAbs < 10 ^ 40/\(hJ b).natAbs < 2 ^ 200/\1<=wN b:=by
 obtain⟨h1,h2,h3⟩:=h;have e36:=GU;have e40:=HS
 have e2:(2:Nat) ^ 200=1606938044258990275541962092341162602522202993782792835301376:=by decide +kernel
 rw [e36]at h2;rw [e40,e2];unfold hJ wN;omega
theorem dq.ranges(h:dq H q (bs.map rC)):bP K H q bs:=by
 obtain⟨ps,h1,h2,h3⟩:=h;refine⟨ps,aJ.of h1,by rw [h2,aa0],λi t b e1 e2=>cI.of (h3 i t (rC b) e1 (by rw [aa4,e2];rfl))⟩
theorem dq.at_(h:dq H q cols):H q=some (.lst (h.choose.map V.ref)):=h.choose_spec.1
theorem dq.put(h:dq H q cols)(ht:H t=none):∃xs:List V,(upd H t (.tup (us.map V.int))) q=some (.lst xs)/\xs.length=cols.length/\dq (upd (upd H t (.tup (us.map V.int))) q (.lst (xs++[.ref t]))) q (cols++[us]):=by
 obtain⟨ps,h1,h2⟩:=h;have hq:=(aq ht (o:=HO.tup (us.map V.int))) _ _ h1;refine⟨ps.map V.ref,hq,by rw [aa0,h2.1],ps++[t],by rw [ae,ab4];rfl,?_⟩;refine((h2.same (aq ht)).append ⟨rfl,λi p us' e1 e2=>?_⟩).upd hq
 have hi:i=0:=by
  have:=(aa1.mp e1).1
  simp at this;exact this
 subst hi;cases e1;cases e2;exact ae
theorem je{i:Int}(h:aJ K H a xs)(h0:0<=i)(h1:i < xs.length)(q:∀v∈xs,xs[i.toNat]?=some v->Q v H):nk K (.ref a) (.int i) H Q:=by
 obtain⟨m,rfl⟩:∃m:Nat,i=m:=⟨i.toNat,()⟩;have e:xs[m]?=some xs[m]:=aa2 ();exact bq h (aK e) (q _ (ad5 _) (by rw [ag7];exact e))
def uS(K:Frag):Sp:=λvs H Q _=>∃(a:Addr) (ns:List Int) (most:Nat),vs=[.ref a,.int most]/\aJ K H a (ns.map V.int)/\1<=most/\most<=400/\∀(q:Addr) (bs:List (Int×Int)) H',1<=bs.length->bs.length<=4->(∀b∈bs,xb b)->jC bs<=most->H q=none->dq H' q (bs.map rC)->au H H'->Q (.ref q) H'
def BJ(bs:List (Int×Int))(us:List Int):Prop:=us.length=bs.length/\∀(i:Nat) (b:Int×Int) (u:Int),bs[i]?=some b->us[i]?=some u->b.1<=u/\u<=b.2
theorem BJ.nil:BJ [] []:=⟨rfl,λi b u e=>nomatch e⟩
theorem BJ.cons_iff:BJ (b::bs) (u::us)↔(b.1<=u/\u<=b.2)/\BJ bs us:=by
 constructor
 ·rintro⟨h1,h2⟩
  refine⟨h2 0 b u rfl rfl,by simpa using h1,λi b' u' e1 e2=>h2 (i+1) b' u' e1 e2⟩
 ·rintro⟨h1,h2,h3⟩
  refine⟨by simpa using h2,λi b' u' e1 e2=>?_⟩
  cases i with
  | zero=>cases e1;cases e2;exact h1
  | succ i=>exact h3 i b' u' e1 e2
theorem x9:us∈bp bs↔BJ bs us:=by
 have go:∀(bs:List (Int×Int)) (told:List (List Int)) (c:List Int),c∈bs.foldl (λtold b=>told.flatMap (eF b)) told↔∃p∈told,∃us,BJ bs us/\c=p++us:=by
  intro bs
  induction bs with
  | nil=>
   intro told c
   constructor
   ·intro h
    exact⟨c,h,[],BJ.nil,by simp⟩
   ·rintro⟨p,hp,us,⟨h1,_⟩,rfl⟩
    rw [af8.mp h1,ae6];exact hp
  | cons b bs ih=>
   intro told c;rw [ae5,ih]
   constructor
   ·rintro⟨p,hp,us,hus,rfl⟩
    obtain⟨d,hd,hp⟩:=ag5.mp hp;unfold eF at hp;obtain⟨j,hj,rfl⟩:=ac3.mp hp;have hj:j < wN b:=af9.mp hj;refine⟨d,hd,(b.1+(j:Int))::us,BJ.cons_iff.mpr ⟨?_,hus⟩,by simp⟩;unfold wN at hj;omega
   ·rintro⟨p,hp,us,hus,rfl⟩
    cases us with
    | nil=>cases hus.1
    | cons u us=>
     obtain⟨⟨h1,h2⟩,h3⟩:=BJ.cons_iff.mp hus;refine⟨p++[u],ag5.mpr ⟨p,hp,?_⟩,us,h3,by simp⟩;unfold eF;refine ac3.mpr ⟨(u - b.1).toNat,af9.mpr ?_,?_⟩
     ·unfold wN
      omega
     ·rw [show b.1+((u - b.1).toNat:Int)=u by omega]
 unfold bp;rw [go]
 constructor
 ·rintro⟨p,hp,us',h,rfl⟩
  rw [ab8.mp hp];exact h
 ·intro h
  exact⟨[],by simp,us,h,rfl⟩
def GS:Sp:=λvs H Q _=>∃i:Int,vs=[.int i]/\Q (.bl true) H
def pH(K:Frag):Sp:=λvs H Q _=>∃(a:Addr) (bs:List (Int×Int)),vs=[.ref a]/\bP K H a bs/\bs.length<=4/\(∀b∈bs,1<=wN b)/\jC bs<=400/\∀q H',H q=none->dq H' q (bp bs)->au H H'->Q (.ref q) H'
theorem F3(F:b0 K "_law_at" "_law_at" oX f fd)(T:Txt mg aM): ~~~aL bU 1 f fd ["_law_script","_law_k"] (yT K):=by
 refine F.ok yP λ_ A _ s H vs Q E hr h=>?_;obtain⟨a,ns,k,rfl,hS,h0,h1,q⟩:=h
 refine⟨rfl,_,(ag (aP (ba (ay (o0 j6) (pr 1) (aD (aG K) ⋯ T.n_len boot_len (aa (pr 0) ah)) (az _))) (ai (av (aw (aC K) (pr 0) (pr 1) (λ_ _=>rfl)))) aB)
 (ai (av af))),?_⟩
 tm_at "r";refine⟨_,.inl hS,?_⟩;obtain⟨m,rfl⟩:∃m:Nat,k=m:=⟨k.toNat,()⟩;unfold zm at q;rw [ag7,ab5]at q;rw [aa0]
 by_cases hk:(m:Int) < (ns.length:Int)
 ·rw [if_pos hk]
  have e:ns[m]?=some ns[m]:=aa2 ();rw [e]at q;exact bq hS (aK (by rw [aa4,e];rfl)) q
 ·rw [if_neg hk]
  rw [aj1 ()]at q;exact q
theorem AD(F:b0 K "_law_draws" "_law_draws" jn f fd)(T:Txt mg aM): ~~~aL bU 1 f fd ["_law_cell","_law_many"] lL:=by
 refine F.ok sc_law_draws λ_ A _ s H vs Q E hr h=>?_;obtain⟨c,n,rfl,hn,q⟩:=h
 refine⟨rfl,_,(ag (cU (i:=2) sc_law_draws.nd (bc gJ (ar (o1 aU) (ar (o1 dj) (pr 0) af) af) af (az _)))
 (ag (cU (i:=3) sc_law_draws.nd (ar (o1 dj) (pr 0) af))
 (ag (cU (i:=4) sc_law_draws.nd (ar (bL K) (ar (o1 aU) (pr 0) af) af))
 (ag (cU (i:=5) sc_law_draws.nd (bN ah))
 (ag (cw PassesOwn.never rfl (yK rfl T.n_range (aa af (aa (ar (bL K) (pr 1) af) ah))) (jR (i:=6) sc_law_draws.nd)
 (ai (aP (PW.pt (j8 (bo (pr 2) (λ_=>rfl)) (jH (ba (ay (eK K) (pr 3) (bN (aa af (aa (lB (u1 iE) af) ah))) (by with_unfolding_all rfl)))))) (ag (bG (bW K PySem.F.plainAttrs_list PySem.F.slot_list_append PySem.F.type_list_append cA (pr 5) (aa (ar (o1 aU) (pr 3) af) ah)))
 (ai (cU (i:=3) sc_law_draws.nd (ar (o1 dj) (pr 3) af)))) (ag (cU (i:=4) sc_law_draws.nd (ar (bL K) (ar (o1 aU) (ar (lq K) (ar (o1 aU) (ar (bL K) (ar (lq K) (pr 4) af) (pr 6)) af) (ar (bL K) (pr 4) (ar (lq K) af (pr 6)))) af) af))
 (ai (bG (bW K PySem.F.plainAttrs_list PySem.F.slot_list_append PySem.F.type_list_append cA (pr 5) (aa (ar (o1 dj) (pr 4) af) ah))))))))
 (ai (av (pr 5)))))))),?_⟩
 have hs:=sizeLine_eq;refine aN (λZ H'=>∃b:Bool,Z=[⇑c,⇑n,some (.bl b),none,none,none,none]/\H=H') ?_ ?_
 ·intro u' hu
  tm_at "r";exact⟨⟨∅,∅⟩,∅,hu _ _ ⟨_,rfl,rfl⟩⟩
 rintro Ω ω _ _ ⟨b,rfl,rfl⟩;refine ω _ _ (aN (λZ H'=>∃r:Int,Z=[⇑c,⇑n,some (.bl b),⇑r,none,none,none]/\H=H') ?_ ?_)
 ·intro u' hu
  tm_at "r";exact⟨⟨∅,∅⟩,hu _ _ ⟨_,rfl,rfl⟩⟩
 rintro Ω ω _ _ ⟨r,rfl,rfl⟩;refine ω _ _ (aN (λZ H'=>∃sd:Int,1<=sd/\sd<=1999993/\Z=[⇑c,⇑n,some (.bl b),⇑r,⇑sd,none,none]/\H=H') ?_ ?_)
 ·intro u' hu
  tm_at "r";exact⟨∅,hu _ _ ⟨_,(),(),rfl,rfl⟩⟩
 rintro Ω ω _ _ ⟨sd,d1,d2,rfl,rfl⟩;refine ω _ _ (aN (λZ H'=>∃p:Addr,H p=none/\H' p=some (.lst (([]:List Int).map V.int))/\Z=[⇑c,⇑n,some (.bl b),⇑r,⇑sd,↑p,none]/\au H H') ?_ ?_)
 ·intro u' hu
  tm_at "r";exact⟨(),λp hp=>hu _ _ ⟨p,hp,ae,rfl,aq hp⟩⟩
 rintro Ω ω _ H1 ⟨p,hp,hp1,rfl,s1⟩;refine ω _ _ (aN (λZ H'=>∃(ys:List Int) (r sd:Int) (o6:Option V),ys.length=n/\(∀y∈ys,0<=y/\y < 399999)/\H' p=some (.lst (ys.map V.int))/\Z=[⇑c,⇑n,some (.bl b),⇑r,⇑sd,↑p,o6]/\au H H') ?_ ?_)
 ·intro u' hu
  tm_at "r";obtain⟨Pv,hPv⟩:∃Pv:Nat->L2.St->Hp->Prop,Pv=λi Z H'=>∃(ys:List Int) (r sd:Int) (o6:Option V),ys.length=i/\(∀y∈ys,0<=y/\y < 399999)/\1<=sd/\sd<=1999993/\H' p=some (.lst (ys.map V.int))/\Z=[⇑c,⇑n,some (.bl b),⇑r,⇑sd,↑p,o6]/\au H H':=⟨_,rfl⟩;refine⟨(),(),(),(),cQ Pv (by rw [hPv];exact⟨[],r,sd,none,rfl,(λ_ h=>nomatch h),d1,d2,hp1,rfl,s1⟩) ?_ ?_⟩
  ·clear s1 hp1 d1 d2
   clear r sd H1;rintro i Z H1 hi hI;rw [hPv]at hI;obtain⟨ys,r,sd,o6,hl,hy,d1,d2,hp1,rfl,s1⟩:=hI;tm_at "r"
   have app:∀{x:Int} {H2:Hp} {r' sd':Int},0<=x->x < 399999->1<=sd'->sd'<=1999993->au H H2->Pv (i+1) [⇑c,⇑n,some (.bl b),⇑r',⇑sd',↑p,⇑(1+i)] (upd H2 p (.lst (ys.map V.int++[.int x]))):=λ{x H2 r' sd'} x0 x1 e1 e2 s2=>by
    rw [hPv];refine⟨ys++[x],r',sd',_,by rw [aa8,hl];rfl,λy h=>?_,e1,e2,by rw [ae,ab4];rfl,rfl,y6 hp s2⟩;rcases ac4.mp h with h | h
    ·exact hy y h
    ·rw [ab8.mp h]
     exact⟨x0,x1⟩
   have e2:(2:Nat) ^ 21=2097152:=by decide
   have k1:IntMulOk ((sd * 69069+(1+(i:Int))) % 1999993) (sd+3 * (1+(i:Int))):=IntMulOk.of_le (m:=21) (n:=21) (intBits_le_iff.mpr (by rw [e2];omega)) (intBits_le_iff.mpr (by rw [e2];omega)) ∅;have m0:=ad7 ((sd * 69069+(1+(i:Int))) % 1999993 * (sd+3 * (1+(i:Int)))) (show(1999993:Int)≠0 by decide);have m1:=ad1 ((sd * 69069+(1+(i:Int))) % 1999993 * (sd+3 * (1+(i:Int)))) (show(0:Int) < 1999993 by decide);generalize(sd * 69069+(1+(i:Int))) % 1999993 * (sd+3 * (1+(i:Int))) % 1999993=sd' at m0 m1
   by_cases hb:b=true
   ·rw [if_pos hb]
    refine⟨(),λz hz=>eD (D:=[0,-1]) (aJ.of ae) ⟨_,rfl,?_⟩⟩;have hp2:=(aq hz (o:=HO.lst [V.int 0,V.int (-1)])) _ _ hp1;have s2:=s1.upd hz (o:=HO.lst [V.int 0,V.int (-1)])
    by_cases hr:r∈[0,-1]
    ·rw [if_neg (by simp [hr])]
     refine⟨.of_right ∅,∅,.of_left ∅,k1,∅,.inl ⟨rfl,_,aJ.of hp2⟩,⟨∅,∅⟩,p,_,_,rfl,rfl,hp2,by rw [aa0];omega,app () () () () s2⟩
    ·rw [if_pos (by simp [hr])]
     exact⟨.inl ⟨rfl,_,aJ.of hp2⟩,∅,p,_,_,rfl,rfl,hp2,by rw [aa0];omega,⟨∅,∅⟩,app () () d1 d2 s2⟩
   ·rw [if_neg hb]
    refine⟨.of_right ∅,∅,.of_left ∅,k1,∅,.inl ⟨rfl,_,aJ.of hp1⟩,⟨∅,∅⟩,p,_,_,rfl,rfl,hp1,by rw [aa0];omega,app () () () () s1⟩
  ·rintro Z H3 hI
   rw [hPv]at hI;obtain⟨ys,r,sd,o6,hl,hy,_,_,hp1,rfl,s1⟩:=hI;exact hu _ _ ⟨ys,r,sd,o6,(),hy,hp1,rfl,s1⟩
 rintro Ω ω _ H2 ⟨ys,r,sd,o6,hl,hy,hp2,rfl,s2⟩;refine ω _ _ ?_;tm_at "r";exact q p ys H2 hl hy hp hp2 s2
theorem yE(F:b0 K "_law_ranges" "_law_ranges" iB f fd)(T:Txt mg aM)(D_law_at: ~~~cB "_law_at" 1 ["_law_script","_law_k"] (yT K))(D_law_draws: ~~~cB "_law_draws" 1 ["_law_cell","_law_many"] lL): ~~~aL bU 2 f fd ["_law_script","_law_most"] (uS K):=by
 refine F.ok sc_law_ranges λ_ A _ s H vs Q E hr h=>?_;obtain⟨a,ns,most,rfl,hS,m1,m2,k⟩:=h
 refine⟨rfl,_,(ag (cU (i:=2) sc_law_ranges.nd (aA D_law_draws hr ⋯ (aa (aA D_law_at hr ⋯ (aa (pr 0) (aa af ah))) (aa af ah))))
 (ag (cU (i:=3) sc_law_ranges.nd (aw (aC K) (bN (rB (vs:=[.int (1),.int (1),.int (2),.int (2),.int (2),.int (3),.int (4),.int (1)]) rfl)) (ar (o1 aU) (aA D_law_at hr ⋯ (aa (pr 0) (aa af ah))) af) (λ_ _=>rfl)))
 (ag (cU (i:=4) sc_law_ranges.nd (ar (o1 aU) (ar (o1 dj) (aA D_law_at hr ⋯ (aa (pr 0) (aa af ah))) af) (ar (o1 vJ) af af)))
 (ag (cU (i:=5) sc_law_ranges.nd (aw (aC K) (bN (aa af (aa af (aa (lB (u1 iE) af) (aa (ar (o1 aU) (pr 4) (ar (o1 vJ) af af)) (aa (ar (o0 bD) af (pr 4)) ah)))))) (ar (o1 aU) (aA D_law_at hr ⋯ (aa (pr 0) (aa af ah))) af) (λ_ _=>rfl)))
 (ag (cU (i:=6) sc_law_ranges.nd (aw (aC K) (bN (aa af (aa af (aa af (aa (ar (o1 aU) (ar (o1 dj) (aA D_law_at hr ⋯ (aa (pr 0) (aa af ah))) af) (ar (o1 vJ) af af)) ah))))) (ar (o1 aU) (aA D_law_at hr ⋯ (aa (pr 0) (aa af ah))) af) (λ_ _=>rfl)))
 (ag (cU (i:=7) sc_law_ranges.nd (bN ah))
 (ag (cw PassesOwn.never rfl (c9 rfl T.n_range (aa (pr 3) ah)) (jR (i:=8) sc_law_ranges.nd)
 (ag (cU (i:=9) sc_law_ranges.nd (ar (bL K) af (ar (o1 aU) (aw (aC K) (pr 2) (ar (bL K) af (pr 8)) (λ_ _=>rfl)) (aD (qY rfl) ⋯ T.n_min boot_min (aa (pr 1) (aa (ar (bL K) af (ar (lq K) af (bf (dJ) ⋯ T.n_int boot_int (aa (bc gJ (pr 3) af (az _)) ah)))) ah))))))
 (ag (cU (i:=10) sc_law_ranges.nd (ar (o0 bD) (ar (bL K) (ar (bL K) (pr 5) (ar (lq K) (pr 8) (pr 6))) (ar (o1 aU) (ar (o1 dj) (aw (aC K) (pr 2) (ar (bL K) af (pr 8)) (λ_ _=>rfl)) af) af)) af))
 (ag (bG (bW K PySem.F.plainAttrs_list PySem.F.slot_list_append PySem.F.type_list_append cA (pr 7) (aa (dk (aa (pr 10) (aa (ar (o0 bD) (ar (bL K) (pr 10) (pr 9)) af) ah))) ah)))
 (ai (cU (i:=1) sc_law_ranges.nd (ar (o1 dj) (pr 1) (pr 9))))))))
 (ai (av (pr 7)))))))))),?_⟩
 have hs:=sizeLine_eq;refine aN (λZ H'=>∃(wa:Addr) (ys:List Int),ys.length=6/\(∀y∈ys,0<=y/\y < 399999)/\H' wa=some (.lst (ys.map V.int))/\Z=[↑a,⇑most,↑wa,none,none,none,none,none,none,none,none]/\au H H') ?_ ?_
 ·intro u' hu
  tm_at "r";exact⟨a,ns,0,rfl,hS,∅,∅,_,6,rfl,∅,λq ys H' hl hy _ hq s1=>hu _ _ ⟨q,ys,hl,hy,hq,rfl,s1⟩⟩
 rintro Ω ω _ H1 ⟨wa,ys,yl,hy,hw,rfl,s1⟩;refine ω _ _ (aN (λZ H'=>∃v:Int,1<=v/\v<=4/\Z=[↑a,⇑most,↑wa,⇑v,none,none,none,none,none,none,none]/\au H1 H') ?_ ?_)
 ·intro u' hu
  tm_at "r";refine⟨(),λp hp=>⟨a,ns,0,rfl,(s1.upd hp).seq hS,∅,∅,_,rfl,∅,je (aJ.of ae) () (by simp;omega) λv hv _=>?_⟩⟩;simp only [ab2,ad2,or_false]at hv
  rcases hv with rfl | rfl | rfl | rfl | rfl | rfl | rfl | rfl<;>exact hu _ _ ⟨_,∅,∅,rfl,aq hp⟩
 rintro Ω ω _ H2 ⟨v,v1,v4,rfl,s2⟩;have s02:=s1.trans s2;refine ω _ _ (aN (λZ H'=>∃g:Int,0<=g/\g < 100000000000000000000000000000000000/\Z=[↑a,⇑most,↑wa,⇑v,⇑g,none,none,none,none,none,none]/\H2=H') ?_ ?_)
 ·intro u' hu
  tm_at "r"
  have e35:(10:Int) ^ Int.toNat 35=100000000000000000000000000000000000:=by decide +kernel
  refine⟨a,ns,1,rfl,s02.seq hS,∅,∅,_,rfl,⟨∅,∅⟩,⟨∅,∅,∅⟩,?_⟩;rw [e35];exact⟨∅,hu _ _ ⟨_,(),(),rfl,rfl⟩⟩
 rintro Ω ω _ _ ⟨g,g0,g1,rfl,rfl⟩;refine ω _ _ (aN (λZ H'=>∃lo:Int,lo.natAbs < 100000000000000000000000000000000000/\Z=[↑a,⇑most,↑wa,⇑v,⇑g,⇑lo,none,none,none,none,none]/\au H1 H') ?_ ?_)
 ·intro u' hu
  tm_at "r"
  have e9:(10:Int) ^ Int.toNat 9=1000000000:=by decide +kernel
  rw [e9];refine⟨⟨∅,∅,∅⟩,∅,(),λp hp=>⟨a,ns,1,rfl,(s02.upd hp).seq hS,∅,∅,_,rfl,∅,je (aJ.of ae) () (by simp;omega) λv hv _=>?_⟩⟩;simp only [ab2,ad2,or_false]at hv
  rcases hv with rfl | rfl | rfl | rfl | rfl<;>exact hu _ _ ⟨_,(),rfl,s2.upd hp⟩
 clear s02 s2;clear H2;rintro Ω ω _ H2 ⟨lo,hlo,rfl,s2⟩;have s02:=s1.trans s2;refine ω _ _ (aN (λZ H'=>∃fr:Int,0<=fr/\fr<=100000000000000000000/\Z=[↑a,⇑most,↑wa,⇑v,⇑g,⇑lo,⇑fr,none,none,none,none]/\au H1 H') ?_ ?_)
 ·intro u' hu
  tm_at "r"
  have e20:(10:Int) ^ Int.toNat 20=100000000000000000000:=by decide +kernel
  rw [e20];refine⟨a,ns,2,rfl,s02.seq hS,∅,∅,_,rfl,⟨∅,∅⟩,⟨∅,∅,∅⟩,∅,(),λp hp=>⟨a,ns,2,rfl,(s02.upd hp).seq hS,∅,∅,_,rfl,∅,je (aJ.of ae) () (by simp;omega) λv hv _=>?_⟩⟩;simp only [ab2,ad2,or_false]at hv
  rcases hv with rfl | rfl | rfl | rfl<;>exact hu _ _ ⟨_,(),(),rfl,s2.upd hp⟩
 clear s02 s2;clear H2;rintro Ω ω _ H2 ⟨fr,f0,f1,rfl,s2⟩;refine ω _ _ (aN (λZ H'=>∃q:Addr,H1 q=none/\H' q=some (.lst (([]:List Addr).map V.ref))/\Z=[↑a,⇑most,↑wa,⇑v,⇑g,⇑lo,⇑fr,↑q,none,none,none]/\au H1 H') ?_ ?_)
 ·intro u' hu
  tm_at "r";exact⟨(),λq hq=>hu _ _ ⟨q,s2.free hq,ae,rfl,s2.upd hq⟩⟩
 clear s2;clear H2;rintro Ω ω _ H2 ⟨q,hq1,hq2,rfl,s2⟩;have hq0:H q=none:=s1.free hq1;refine ω _ _ (aN (λZ H'=>∃(bs:List (Int×Int)) (o1 o8 o9 o10:Option V),1<=bs.length/\bs.length<=4/\(∀b∈bs,xb b)/\jC bs<=most/\dq H' q (bs.map rC)/\Z=[↑a,o1,↑wa,⇑v,⇑g,⇑lo,⇑fr,↑q,o8,o9,o10]/\au H1 H') ?_ ?_)
 ·intro u' hu
  tm_at "r";obtain⟨Pv,hPv⟩:∃Pv:Nat->L2.St->Hp->Prop,Pv=λi Z H'=>∃(bs:List (Int×Int)) (m:Nat) (o8 o9 o10:Option V),bs.length=i/\(∀b∈bs,xb b)/\1<=m/\jC bs * m<=most/\dq H' q (bs.map rC)/\Z=[↑a,⇑m,↑wa,⇑v,⇑g,⇑lo,⇑fr,↑q,o8,o9,o10]/\au H1 H':=⟨_,rfl⟩;refine⟨(),(),cQ Pv (by rw [hPv];exact⟨[],most,none,none,none,rfl,(λ_ h=>nomatch h),m1,by show 1 * most<=most;omega,⟨[],hq2,rfl,λi p us e=>nomatch e⟩,rfl,s2⟩) ?_ ?_⟩
  ·rintro i Z H3 hi hI
   rw [hPv]at hI;obtain⟨bs,m,o8,o9,o10,hl,hb,hm,hc,hC,rfl,s3⟩:=hI
   have hi4:(i:Int)<=3:=by omega
   tm_at "r";have hw3:=s3 _ _ hw
   have hc1:1<=jC bs:=by
    have:=(iV (bs:=bs) (λb h=>(hb b h).big.2.2.2.2) bs.length).1
    rwa [ad6]at this
   have hm4:m<=400:=ab6 (ab6 (Nat.le_mul_of_pos_left m hc1) hc) m2;refine je (aJ.of hw3) () (by rw [aa0];omega) λy hyv _=>?_;obtain⟨y,hyy,rfl⟩:=ac3.mp hyv;clear hyv;obtain⟨y0,y1⟩:=hy y hyy;obtain⟨d,hd⟩:∃d:Int,d=if (6+6 * if v=1 then 1 else 0) < (m:Int)then 6+6 * (if v=1 then 1 else 0)else(m:Int):=⟨_,rfl⟩
   have d1:1<=d:=by rw [hd];split<;>split<;>omega
   have d2:d<=m:=by rw [hd];split<;>omega
   have d3:d<=12:=by rw [hd];split<;>split<;>omega
   rw [<-hd];have r0:=ad7 y (show d≠0 by omega);have r1:=ad1 y (show 0 < d by omega);obtain⟨wd,hwd⟩:∃wd:Nat,1+y % d=wd:=⟨(1+y % d).toNat,()⟩
   have w1:1<=wd:=by omega
   have w2:wd<=12:=by omega
   have w3:wd<=m:=by omega
   refine⟨.of_left ∅,_,rfl,(),IntMulOk.of_le (m:=10) (n:=80) (intBits_le_iff.mpr ()) (intBits_le_iff.mpr (aa7 (m:=100000000000000000000) () (by decide +kernel))) ∅,je (aJ.of hw3) () (by rw [aa0];omega) λy2 hyv _=>?_⟩;obtain⟨y2,hyy2,rfl⟩:=ac3.mp hyv;clear hyv;obtain⟨z0,z1⟩:=hy y2 hyy2;have p0:0<=(i:Int) * fr:=Int.mul_nonneg () f0;have p1:(i:Int) * fr<=3 * 100000000000000000000:=Int.mul_le_mul hi4 f1 f0 ∅;obtain⟨x,hx⟩:∃x:Int,x=lo+(i:Int) * fr+y2 / 12 % 7 - 3:=⟨_,rfl⟩
   have x36:x.natAbs<=10 ^ 36:=by
    have e36:=GU;rw [e36];omega
   refine⟨_,rfl,⟨∅,∅⟩,∅,.inl ⟨rfl,_,aJ.of hC.at_⟩,(),λp hp=>?_⟩;rw [<-hx,hwd];obtain⟨xs,hx1,hx2,hx3⟩:=hC.put (us:=rC (x,x+wd - 1)) hp;refine⟨q,_,_,rfl,rfl,hx1,by rw [hx2,aa0];omega,⟨(),()⟩,?_⟩;rw [hPv];have em:(m:Int) / (wd:Int)=((m / wd:Nat):Int):=rfl;rw [em];refine⟨bs++[(x,x+wd - 1)],m / wd,_,_,_,by rw [aa8,hl];rfl,λb hb'=>?_,Nat.div_pos w3 w1,?_,?_,rfl,?_⟩
   ·rcases ac4.mp hb' with hb' | hb'
    ·exact hb b hb'
    ·rw [ab8.mp hb']
     unfold xb;show x<=x+wd - 1/\x.natAbs<=_/\x+wd - 1 - x < 12;exact⟨(),x36,()⟩
   ·rw [kT]
    have ew:wN (x,x+(wd:Int) - 1)=wd:=by
     unfold wN;show(x+(wd:Int) - 1 - x+1).toNat=wd;omega
    rw [ew,Nat.mul_assoc];exact ab6 (Nat.mul_le_mul_left _ (Nat.mul_div_le m wd)) hc
   ·rw [ab4]
    exact hx3
   ·exact y6 hq1 (s3.upd hp)
  ·rintro Z H3 hI
   rw [hPv]at hI;obtain⟨bs,m,o8,o9,o10,hl,hb,hm,hc,hC,rfl,s3⟩:=hI;exact hu _ _ ⟨bs,_,o8,o9,o10,(),(),hb,ab6 (Nat.le_mul_of_pos_right _ hm) hc,hC,rfl,s3⟩
 rintro Ω ω _ H3 ⟨bs,o1,o8,o9,o10,l1,l4,hb,hc,hC,rfl,s3⟩;refine ω _ _ ?_;tm_at "r";exact k q bs H3 l1 l4 hb hc hq0 hC (s1.trans s3)
theorem CL(F:b0 K "_law_columns" "_law_columns" gQ f fd)(T:Txt mg aM): ~~~aL bU 1 f fd ["_law_ranges_here"] (pH K):=by
 refine F.ok sc_law_columns λ_ A _ s H vs Q E hr h=>?_;obtain⟨a,bs,rfl,⟨ts,hts,htl,htc⟩,lb,hw,hc,k⟩:=h
 refine⟨rfl,_,(ag (cU (i:=1) sc_law_columns.nd (bN (aa (dk ah) ah)))
 (ag (cw PassesOwn.never rfl (bF K (pr 0)) (fT K (n:=2) rfl (bT (jR (i:=2) sc_law_columns.nd) (bT (jR (i:=3) sc_law_columns.nd) fU)))
 (ag (cU (i:=4) sc_law_columns.nd (bN ah))
 (ag (cw PassesOwn.never rfl (bF K (pr 1)) (jR (i:=5) sc_law_columns.nd)
 (ai (cw PassesOwn.never rfl (oU rfl T.n_range (aa (pr 2) (aa (ar (xa K) (pr 3) af) ah))) (jR (i:=6) sc_law_columns.nd)
 (ai (bG (bW K PySem.F.plainAttrs_list PySem.F.slot_list_append PySem.F.type_list_append cA (pr 4) (aa (ar (xa K) (pr 5) (dk (aa (pr 6) ah))) ah)))))))
 (ai (cU (i:=1) sc_law_columns.nd (pr 4))))))
 (ai (av (pr 1))))),?_⟩
 have hs:=sizeLine_eq;refine aN (λZ H'=>∃q:Addr,H q=none/\dq H' q (bp [])/\Z=[↑a,↑q,none,none,none,none,none]/\au H H') ?_ ?_
 ·intro u' hu
  tm_at "r";refine⟨(),λt ht=>⟨(),λq hq=>?_⟩⟩;have s1:=aq (o:=HO.tup []) ht;refine hu _ _ ⟨q,s1.free hq,⟨[t],ae,rfl,λi p us e1 e2=>?_⟩,rfl,s1.upd hq⟩
  have hi:i=0:=by
   have:=(aa1.mp e1).1
   simp at this;exact this
  subst hi;cases e1;cases e2;exact(aq hq) _ _ ae
 rintro Ω ω _ H1 ⟨q,hq0,hq1,rfl,s1⟩;refine ω _ _ (aN (λZ H'=>∃(q:Addr) (o2 o3 o4 o5 o6:Option V),H q=none/\dq H' q (bp bs)/\Z=[↑a,↑q,o2,o3,o4,o5,o6]/\au H H') ?_ ?_)
 ·intro u' hu
  tm_at "r";refine bK (s1.seq hts) (c7 (xs:=ts.map V.ref) (λi Z H'=>∃(q:Addr) (o2 o3 o4 o5 o6:Option V),H q=none/\dq H' q (bp (bs.take i))/\Z=[↑a,↑q,o2,o3,o4,o5,o6]/\au H H') ⟨q,none,none,none,none,none,hq0,hq1,rfl,s1⟩ (λi Z H' _ h=>?_) ?_ ?_)
  ·obtain⟨_,_,_,_,_,_,_,_,_,s'⟩:=h
   exact s'.seq hts
  ·rintro i y Z H2 hy ⟨q,o2,o3,o4,o5,o6,hq0,⟨ps,hq2,hpc⟩,rfl,s2⟩
   rw [aa4]at hy
   cases ht:ts[i]? with
   | none=>rw [ht]at hy;cases hy
   | some t=>
    rw [ht]at hy;cases hy
    have hi:i < bs.length:=by rw [<-htl];exact(aa1.mp ht).1
    have hb:bs[i]?=some bs[i]:=aa2 hi;tm_at "r";refine⟨_,s2.tup (htc i t _ ht hb),rfl,?_⟩;tm_at "r";refine⟨(),λp hp=>?_⟩;have s23:=aq (o:=HO.lst []) hp;have hp3:(upd H2 p (HO.lst [])) p=some (.lst (([]:List Addr).map V.ref)):=ae;generalize upd H2 p (HO.lst [])=H3 at s23 hp3;have ew:wN bs[i]<=400:=ab6 (Ec hw hb) hc
    have en:jC (bs.take (i+1))=jC (bs.take i) * wN bs[i]:=by
     rw [ac6,hb];exact kT _ _
    have en':=(iV hw (i+1)).2
    have ec:bp (bs.take (i+1))=(bp (bs.take i)).flatMap (eF bs[i]):=by
     rw [ac6,hb];exact nW _ _
    have ewd:=eB (bs.take i);have ecl:=eU (bs.take i);have hpl:=hpc.1;rw [ec];generalize bs[i]=b at *;generalize bp (bs.take i)=cols at *;obtain⟨Pv,hPv⟩:∃Pv:Nat->L2.St->Hp->Prop,Pv=λj Z H'=>∃(o5 o6:Option V) (ps':List Addr),H' p=some (.lst (ps'.map V.ref))/\jZ H' ps' ((cols.take j).flatMap (eF b))/\au H2 H'/\Z=[some (V.ref a),some (V.ref q),some (V.int b.1),some (V.int b.2),some (V.ref p),o5,o6]:=⟨_,rfl⟩;refine bK (aJ.of (s23 _ _ hq2)) (c7 (xs:=ps.map V.ref) Pv (by rw [hPv];exact⟨o5,o6,[],hp3,⟨rfl,λi p us e=>nomatch e⟩,s23,rfl⟩) (λj Z H' _ h=>?_) ?_ ?_)
    ·rw [hPv]at h
     obtain⟨_,_,_,_,_,s',_⟩:=h;exact aJ.of (s' _ _ hq2)
    ·rintro j y Z H4 hy hI
     rw [hPv]at hI;obtain⟨o5,o6,ps',hp4,hT,s24,rfl⟩:=hI;rw [aa4]at hy
     cases hcj:ps[j]? with
     | none=>rw [hcj]at hy;cases hy
     | some c=>
      rw [hcj]at hy;cases hy
      have hj:j < cols.length:=by rw [<-hpl];exact(aa1.mp hcj).1
      have hcc:cols[j]?=some cols[j]:=aa2 hj;have hus:=hpc.2 j c _ hcj hcc;have hul:=ewd _ (ad5 hj)
      have estep:(cols.take (j+1)).flatMap (eF b)=(cols.take j).flatMap (eF b)++eF b cols[j]:=by
       rw [ac6,hcc,List.flatMap_append];simp
      have l1:((cols.take j).flatMap (eF b)).length<=400:=by
       rw [kU (gY b),ac9];refine ab6 (al6 _ (aj6 _ _)) ?_;rw [ecl,<-en];omega
      generalize cols[j]=us at *;generalize(cols.take j).flatMap (eF b)=done1 at *;tm_at "r"
      have ek:(b.2+1 - b.1).toNat=wN b:=by unfold wN;omega
      rw [ek];refine cQ (λm Z H'=>∃(o6:Option V) (ps':List Addr),H' p=some (.lst (ps'.map V.ref))/\jZ H' ps' (done1++(eF b us).take m)/\au H2 H'/\Z=[some (V.ref a),some (V.ref q),some (V.int b.1),some (V.int b.2),some (V.ref p),↑c,o6]) ⟨o6,ps',hp4,by simpa using hT,s24,rfl⟩ ?_ ?_
      ·rintro m Z H5 hm ⟨o6,ps',hp5,hT5,s25,rfl⟩
       have hx:(eF b us)[m]?=some (us++[b.1+(m:Int)]):=by
        unfold eF;rw [aa4,ae3 hm];rfl
       tm_at "r";refine⟨.inl ⟨rfl,_,aJ.of hp5⟩,(),λt ht=>?_⟩;have s56:=aq (o:=HO.tup [V.int (b.1+(m:Int))]) ht;have ht2:(upd H5 t (HO.tup [V.int (b.1+(m:Int))])) t=some (.tup [V.int (b.1+(m:Int))]):=ae;generalize upd H5 t (HO.tup [V.int (b.1+(m:Int))])=H6 at s56 ht2;refine uD ((s25.trans s56) _ _ hus) ht2 (by rw [aa0,hul,ac9];simp;omega) λz H7 s7 hz7=>?_;have s57:=s56.trans s7;have hp7:=s57 _ _ hp5
       have hz:H7 z=some (.tup ((us++[b.1+(m:Int)]).map V.int)):=by rw [hz7,ab4];rfl
       have ll:ps'.length<=800:=by
        rw [hT5.1,aa8,ac9];omega
       refine⟨p,_,_,rfl,rfl,hp7,by rw [aa0];omega,some (.int (b.1+(m:Int))),ps' ++ [z],by rw [ae,ab4];rfl,?_,y6 hp (s25.trans s57),rfl⟩;rw [ac6,hx,<-aj3];refine((hT5.same s57).append ⟨rfl,λi p us' e1 e2=>?_⟩).upd hp7
       have hi:i=0:=by
        have:=(aa1.mp e1).1
        simp at this;exact this
       subst hi;cases e1;cases e2;exact hz
      ·rintro Z H5 ⟨o6,ps',hp5,hT5,s25,rfl⟩
       rw [hPv];refine⟨_,_,ps',hp5,?_,s25,rfl⟩;rw [estep];rw [ag1 (by rw [gY];omega)]at hT5;exact hT5
    ·rintro Z H4 hI
     rw [hPv]at hI;obtain⟨o5,o6,ps',hp4,hT,s24,rfl⟩:=hI;rw [aa0,hpl,ad6]at hT;tm_at "r";exact⟨p,s2.free hp,⟨ps',hp4,hT⟩,rfl,s2.trans s24⟩
  ·rintro Z H2 ⟨q,o2,o3,o4,o5,o6,hq0,hq2,rfl,s2⟩
   rw [aa0,htl,ad6]at hq2;exact hu _ _ ⟨q,o2,o3,o4,o5,o6,hq0,hq2,rfl,s2⟩
 rintro Ω ω _ H2 ⟨q,o2,o3,o4,o5,o6,hq0,hq2,rfl,s2⟩;refine ω _ _ ?_;tm_at "r";exact k q H2 hq0 hq2 s2
def vd(K:Frag)(H:Hp)(a:Addr)(n:Nat):Prop:=∃ys:List Int,aJ K H a (ys.map V.int)/\ys.length=n/\∀y∈ys,0<=y/\y < 399999
theorem vd.same(h:vd K H a n)(s:au H H'):vd K H' a n:=let ⟨ys,h1,h2,h3⟩:=h;⟨ys,s.seq h1,h2,h3⟩
theorem vd.ix{i:Int}(h:vd K H a n)(h0:0<=i)(h1:i < n)(q:∀y:Int,0<=y->y < 399999->Q (.int y) H):nk K (.ref a) (.int i) H Q:=by
 obtain⟨ys,hs,hl,hy⟩:=h;refine je hs h0 (by rw [aa0,hl];exact h1) λv hv _=>?_;obtain⟨y,m,rfl⟩:=ac3.mp hv;exact q y (hy y m).1 (hy y m).2
def pJ(K:Frag):Sp:=λvs H Q _=>∃(a:Addr) (lst wide:Int),vs=[.ref a,.int lst,.int wide]/\vd K H a 14/\1<=wide/\lst.natAbs<=10 ^ 38/\∀(q:Addr) (D:List Int) H',1<=D.length->D.length<=12->(∀d∈D,d.natAbs<=10 ^ 39)->H q=none->H' q=some (.lst (D.map V.int))->au H H'->Q (.ref q) H'
theorem HH{lst x c:Int}(hb:lst.natAbs<=10 ^ 38)(x0:0<=x)(x1:x < 399999)(hc:0 < c)(hi:i < 12):(lst - 1+x % c+(i:Int)).natAbs<=10 ^ 39:=by
 have h0:=ad7 x (show c≠0 by omega)
 have h1:x % c<=x:=by
  obtain⟨n,rfl⟩:=ae1 x0;obtain⟨m,rfl⟩:=ae1 (Int.le_of_lt hc);exact ak6.mpr (Nat.mod_le n m)
 have e38:(10:Nat) ^ 38=100000000000000000000000000000000000000:=by decide +kernel
 have e39:(10:Nat) ^ 39=1000000000000000000000000000000000000000:=by decide +kernel
 rw [e38]at hb;rw [e39];generalize x % c=y at h0 h1;omega
theorem CP(F:b0 K "_law_some" "_law_some" ko f fd)(T:Txt mg aM): ~~~aL bU 1 f fd ["_law_ways","_law_least","_law_wide"] (pJ K):=by
 refine F.ok sc_law_some λ_ A _ s H vs Q E hr h=>?_;obtain⟨a,lst,wide,rfl,hd,w1,hb,k⟩:=h
 refine⟨rfl,_,(ag (cU (i:=3) sc_law_some.nd (ar (bL K) (ar (bL K) af (ar (o1 aU) (aw (aC K) (pr 0) af (λ_ _=>rfl)) af)) (ar (lq K) af (bf (dJ) ⋯ T.n_int boot_int (aa (bc gJ (ar (o1 aU) (aw (aC K) (pr 0) af (λ_ _=>rfl)) af) af (az _)) ah)))))
 (ag (aP (ba (ay gJ (ar (o1 aU) (aw (aC K) (pr 0) af (λ_ _=>rfl)) af) af (az _))) (ai (av (cX (own:=["_law_k"]) (js:=[0,1,2]) rfl (c9 rfl T.n_range (aa (pr 3) ah)) (bB.of ⋯) (λ_ _ _ _ _=>(bM (i:=0) (show List.Nodup (["_law_k","_law_ways","_law_least","_law_wide"]:List Str)from by decide +kernel) rfl (Or.inl rfl))) (λ_ _ _ _ _=>cn) (λ_ _ _ _ _=>(ar (bL K) (ar (bL K) (ar (o0 bD) (pr 2) af) (ar (o1 aU) (aw (aC K) (pr 1) af (λ_ _=>rfl)) (ar (bL K) (pr 3) af))) (pr 0)))))) aB)
 (ai (av (cX (own:=["_law_k"]) (js:=[0,1,2]) rfl (c9 rfl T.n_range (aa (pr 3) ah)) (bB.of ⋯) (λ_ _ _ _ _=>(bM (i:=0) (show List.Nodup (["_law_k","_law_ways","_law_least","_law_wide"]:List Str)from by decide +kernel) rfl (Or.inl rfl))) (λ_ _ _ _ _=>cn) (λ_ _ _ _ _=>(ar (bL K) (ar (o0 bD) (pr 2) af) (ar (o1 aU) (aw (aC K) (pr 1) (ar (bL K) af (pr 0)) (λ_ _=>rfl)) (ar (bL K) (pr 3) af))))))))),?_⟩
 have hs:=sizeLine_eq;refine aN (λZ H'=>∃m:Int,1<=m/\m<=12/\Z=[↑a,⇑lst,⇑wide,⇑m]/\H=H') ?_ ?_
 ·intro u' hu
  tm_at "r";refine hd.ix ∅ ∅ λx x0 x1=>⟨x,rfl,∅,hd.ix ∅ ∅ λy y0 y1=>⟨y,rfl,∅,.of_left ∅,hu _ _ ⟨_,?_,?_,rfl,rfl⟩⟩⟩
  ·split<;>omega
  ·split<;>omega
 rintro Ω ω _ _ ⟨m,m1,m12,rfl,rfl⟩
 have fin:∀{ys:List V} {p:Addr},(∃ps:List Int,ys=ps.map V.int/\ps.length=m.toNat/\∀d∈ps,d.natAbs<=10 ^ 39)->H p=none->Q (.ref p) (upd H p (.lst ys)):=λ{ys p} h hp=>by
  obtain⟨ps,rfl,pl,pb⟩:=h;exact k p ps _ () () pb hp ae (aq hp)
 have put:∀{i:Nat} {d:Int} {ps:List Int},ps.length=i->(∀d∈ps,d.natAbs<=10 ^ 39)->d.natAbs<=10 ^ 39->∃qs:List Int,ps.map V.int++[.int d]=qs.map V.int/\qs.length=i+1/\∀d∈qs,d.natAbs<=10 ^ 39:=λ{i d ps} pl pb h=>⟨ps++[d],by rw [ab4];rfl,by rw [aa8,pl];rfl,λx hx=>by
  rcases ac4.mp hx with hx | hx
  ·exact pb x hx
  ·rw [ab8.mp hx];exact h⟩
 refine ω _ _ ?_;refine iL λRk rk=>?_;tm_at "r";refine hd.ix ∅ ∅ λy y0 y1=>⟨y,rfl,∅,?_⟩
 by_cases h3:y % 3=0
 ·rw [if_pos h3]
  refine⟨(),(),gA (λi ys H'=>∃ps:List Int,ys=ps.map V.int/\(ps.length=i/\∀d∈ps,d.natAbs<=10 ^ 39)/\H=H') () ⟨[],rfl,⟨rfl,λ_ z=>nomatch z⟩,rfl⟩ (λi ys H' h=>by obtain⟨_,rfl,⟨rfl,_⟩,_⟩:=h;rw [aa0];exact aa9 _) ?_ ?_⟩
  ·rintro i ys H' hi ⟨ps,rfl,⟨pl,pb⟩,rfl⟩
   tm_at "r";refine hd.ix ∅ ∅ λx x0 x1=>?_;tm_at "r";exact⟨(),put pl pb (HH (c:=wide+1) (i:=i) hb x0 x1 () ())⟩
  ·rintro ys H' ⟨ps,rfl,pl,rfl⟩ p hp
   exact fin ⟨ps,rfl,pl⟩ hp
 ·rw [if_neg h3]
  refine rk _ _ ?_;tm_at "r";refine⟨(),(),gA (λi ys H'=>∃ps:List Int,ys=ps.map V.int/\(ps.length=i/\∀d∈ps,d.natAbs<=10 ^ 39)/\H=H') () ⟨[],rfl,⟨rfl,λ_ z=>nomatch z⟩,rfl⟩ (λi ys H' h=>by obtain⟨_,rfl,⟨rfl,_⟩,_⟩:=h;rw [aa0];exact aa9 _) ?_ ?_⟩
  ·rintro i ys H' hi ⟨ps,rfl,⟨pl,pb⟩,rfl⟩
   tm_at "r";refine hd.ix () () λx x0 x1=>?_;tm_at "r"
   have:=HH (c:=wide+2) (i:=0) hb x0 x1 () ()
   rw [Int.natCast_zero,Int.add_zero]at this;exact⟨(),put pl pb this⟩
  ·rintro ys H' ⟨ps,rfl,pl,rfl⟩ p hp
   exact fin ⟨ps,rfl,pl⟩ hp
theorem bP.ix(h:bP K H a bs)(hi:i < bs.length)(q:∀t,cI K H t [.int (bs[i]).1,.int (bs[i]).2]->Q (.ref t) H):nk K (.ref a) (.int (i:Int)) H Q:=by
 obtain⟨ts,h1,h2,h3⟩:=h;have e1:ts[i]?=some (ts[i]'()):=aa2 ();exact bq h1 (aK (by rw [aa4,e1];rfl)) (q _ (h3 i _ _ e1 (aa2 hi)))
theorem GJ{x:V}(e:xs[1]?=some x):fR xs 1=some x:=show fR xs ((1:Nat):Int)=_ from aK e
theorem vd.cut(h:vd K H a n)(q:∀p H',H p=none->vd K H' p (n - m)->au H H'->Q (.ref p) H'):uG K (.ref a) (some ((m:Nat):Int)) none H Q:=by
 obtain⟨ys,hs,hl,hy⟩:=h;refine cG hs λp hp=>?_;rw [cy,<-List.map_drop];exact q p _ hp ⟨ys.drop m,aJ.of ae,by rw [ah2,hl],λy hy'=>hy y (List.mem_of_mem_drop hy')⟩ (aq hp)
def Cm:cY->List V
 | .span o t _=>[.str "span",.int (o+1),.int (t+1)]
 | .clock o t h _=>[.str "clock",.int (o+1),.int (t+1),.int h]
 | .move o _=>[.str "move",.int (o+1)]
 | .alike o t _=>[.str "alike",.int (o+1),.int (t+1)]
 | .back o cN=>[.str "back",.int (o+1),.int cN]
 | .held o most=>[.str "held",.int (o+1),.int most]
 | .times o nt lw hg=>[.str "times",.int (o+1),.int nt,.int lw,.int hg]
 | .begin o _=>[.str "begin",.int (o+1)]
 | .close o _=>[.str "close",.int (o+1)]
def BM:cY->Option (List Int)
 | .span _ _ D=>some D
 | .clock _ _ _ D=>some D
 | .move _ D=>some D
 | .alike _ _ D=>some D
 | .begin _ D=>some D
 | .close _ D=>some D
 | _=>none
def eH(H:Hp)(p:Addr)(R:cY):Prop:=match BM R with
 | none=>H p=some (.tup (Cm R))
 | some D=>∃l,H p=some (.tup (Cm R++[.ref l]))/\H l=some (.lst (D.map V.int))
theorem eH.same(h:eH H p R)(s:au H H'):eH H' p R:=by
 unfold eH at h |-
 split
 ·rename_i e
  rw [e]at h;exact s _ _ h
 ·rename_i D e
  rw [e]at h;obtain⟨l,h1,h2⟩:=h;exact⟨l,s _ _ h1,s _ _ h2⟩
def dW(H:Hp)(p:Addr):aH->Prop
 | .plain R=>eH H p R
 | .every m a R=>∃q,H p=some (.tup [.str "every",.int m,.int a,.ref q])/\eH H q R
theorem dW.same{R:aH}(h:dW H p R)(s:au H H'):dW H' p R:=by
 cases R with
 | plain R=>exact eH.same h s
 | every m a R=>
  obtain⟨q,h1,h2⟩:=h;exact⟨q,s _ _ h1,h2.same s⟩
def Hm(nv:Nat)(R:cY):Prop:=mT nv R/\BO R/\dz (.plain R)<=3/\1<=dz (.plain R)
def pG(K:Frag):Sp:=λvs H Q _=>∃(a r:Addr) (bs:List (Int×Int)) (kd:Int),vs=[.ref a,.ref r,.int kd]/\vd K H a 18/\bP K H r bs/\1<=bs.length/\bs.length<=4/\(∀b∈bs,xb b)/\0<=kd/\kd<=2/\∀(p:Addr) (R:cY) H',Hm bs.length R->(kd < 2->zW R)->eH H' p R->au H H'->Q (.ref p) H'
theorem sQ(F:b0 K "_law_pair_rule" "_law_pair_rule" fQ f fd)(T:Txt mg aM)(D_law_some: ~~~cB "_law_some" 1 ["_law_ways","_law_least","_law_wide"] (pJ K)): ~~~aL bU 2 f fd ["_law_ways","_law_ranges_here","_law_kind"] (pG K):=by
 refine F.ok sc_law_pair_rule λ_ A _ s H vs Q E hr h=>?_;obtain⟨a,r,bs,kd,rfl,hd,hR,b1,b4,hb,k0,k2,k⟩:=h
 refine⟨rfl,_,(ag (cU (i:=3) sc_law_pair_rule.nd (ar (o1 aU) (aw (aC K) (pr 0) af (λ_ _=>rfl)) (aD (aG K) ⋯ T.n_len boot_len (aa (pr 1) ah))))
 (ag (cU (i:=4) sc_law_pair_rule.nd (ar (o1 aU) (aw (aC K) (pr 0) af (λ_ _=>rfl)) (aD (aG K) ⋯ T.n_len boot_len (aa (pr 1) ah))))
 (ag (cU (i:=5) sc_law_pair_rule.nd (ar (o0 bD) (aw (aC K) (aw (aC K) (pr 1) (pr 4) (λ_ _=>rfl)) af (λ_ _=>rfl)) (aw (aC K) (aw (aC K) (pr 1) (pr 3) (λ_ _=>rfl)) af (λ_ _=>rfl))))
 (ag (cU (i:=6) sc_law_pair_rule.nd (ar (bL K) (ar (o0 bD) (ar (o0 bD) (aw (aC K) (aw (aC K) (pr 1) (pr 4) (λ_ _=>rfl)) af (λ_ _=>rfl)) (aw (aC K) (aw (aC K) (pr 1) (pr 3) (λ_ _=>rfl)) af (λ_ _=>rfl))) (pr 5)) af))
 (ag (cU (i:=7) sc_law_pair_rule.nd (aA D_law_some hr ⋯ (aa (bt (fB K) (pr 0) (fw af) bJ) (aa (pr 5) (aa (pr 6) ah)))))
 (ag (aP (ba (ay gJ (pr 2) af (az _))) (ag (sX (i:=8) sc_law_pair_rule.nd rfl (Or.inr rfl) (ar (bL K) af (ar (o1 aU) (aw (aC K) (pr 0) af (λ_ _=>rfl)) (aw (aC K) (bN (aa af (aa af (aa af ah)))) (ar (o1 aU) (ar (o1 dj) (aw (aC K) (pr 0) af (λ_ _=>rfl)) af) af) (λ_ _=>rfl)))))
 (ai (av (dk (aa aW (aa (ar (bL K) (pr 3) af) (aa (ar (bL K) (pr 4) af) (aa (pr 8) (aa (cX (own:=["_law_number"]) (js:=[8]) rfl (bF K (pr 7)) (bB.of ⋯) (λ_ _ _ _ _=>(bM (i:=0) (show List.Nodup (["_law_number","_law_by"]:List Str)from by decide +kernel) rfl (Or.inl rfl))) (λ_ _ _ _ _=>cn) (λ_ _ _ _ _=>(ar (o1 aU) (pr 0) (pr 1)))) ah))))))))) aB)
 (ai (av (dk (aa (aw (aC K) (bN (aa aW (aa aW (aa aW ah)))) (pr 2) (λ_ _=>rfl)) (aa (ar (bL K) (pr 3) af) (aa (ar (bL K) (pr 4) af) (aa (pr 7) ah))))))))))))),?_⟩
 have hs:=sizeLine_eq
 have len:∀x:Int,0<=x->∃xs,(aJ K H r xs\/cI K H r xs)/\0 < (xs.length:Int)/\∃i:Nat,i < bs.length/\x % (xs.length:Int)=i:=λx x0=>by
  obtain⟨ts,h1,h2,_⟩:=hR;refine⟨_,.inl h1,?_⟩;rw [aa0,h2];obtain⟨i,hi⟩:=ae1 (ad7 x (show((bs.length:Nat):Int)≠0 by omega))
  have:=ad1 x (show(0:Int) < (bs.length:Nat)by omega)
  rw [hi]at this;exact⟨(),i,(),hi⟩
 refine aN (λZ H'=>∃i:Nat,i < bs.length/\Z=[↑a,↑r,⇑kd,⇑i,none,none,none,none,none]/\H=H') ?_ ?_
 ·intro u' hu
  tm_at "r";refine hd.ix ∅ ∅ λx x0 _=>?_;tm_at "r";obtain⟨xs,h1,h2,i,hi,e⟩:=len x x0;refine⟨xs,h1,h2,?_⟩;rw [e];exact hu _ _ ⟨i,hi,rfl,rfl⟩
 rintro Ω ω _ _ ⟨i,hi,rfl,rfl⟩;refine ω _ _ (aN (λZ H'=>∃j:Nat,j < bs.length/\Z=[↑a,↑r,⇑kd,⇑i,⇑j,none,none,none,none]/\H=H') ?_ ?_)
 ·intro u' hu
  tm_at "r";refine hd.ix ∅ ∅ λx x0 _=>?_;tm_at "r";obtain⟨xs,h1,h2,i,hi,e⟩:=len x x0;refine⟨xs,h1,h2,?_⟩;rw [e];exact hu _ _ ⟨i,hi,rfl,rfl⟩
 rintro Ω ω _ _ ⟨j,hj,rfl,rfl⟩;have bi:=hb _ (ad5 hi);have bj:=hb _ (ad5 hj);obtain⟨i1,i2,i3⟩:=bi;obtain⟨j1,j2,j3⟩:=bj;have e36:=GU
 have e38:(10:Nat) ^ 38=100000000000000000000000000000000000000:=by decide +kernel
 rw [e36]at i2 j2;refine ω _ _ (aN (λZ H'=>∃ls:Int,ls.natAbs<=10 ^ 38/\ls=(bs[j]).1 - (bs[i]).2/\Z=[↑a,↑r,⇑kd,⇑i,⇑j,⇑ls,none,none,none]/\H=H') ?_ ?_)
 ·intro u' hu
  tm_at "r";refine hR.ix hj λt ht=>dw ht (bH rfl) (hR.ix hi λt2 ht2=>dw ht2 (GJ rfl) ?_);tm_at "r";exact hu _ _ ⟨_,by rw [e38];omega,rfl,rfl,rfl⟩
 rintro Ω ω _ _ ⟨ls,ls1,lse,rfl,rfl⟩;refine ω _ _ (aN (λZ H'=>∃wd:Int,1<=wd/\Z=[↑a,↑r,⇑kd,⇑i,⇑j,⇑ls,⇑wd,none,none]/\H=H') ?_ ?_)
 ·intro u' hu
  tm_at "r";refine hR.ix hj λt ht=>dw ht (GJ rfl) (hR.ix hi λt2 ht2=>dw ht2 (bH rfl) ?_);tm_at "r";exact hu _ _ ⟨_,(),rfl,rfl⟩
 rintro Ω ω _ _ ⟨wd,wd1,rfl,rfl⟩;refine ω _ _ (aN (λZ H'=>∃(q:Addr) (D:List Int),1<=D.length/\D.length<=12/\(∀d∈D,d.natAbs<=10 ^ 39)/\H' q=some (.lst (D.map V.int))/\Z=[↑a,↑r,⇑kd,⇑i,⇑j,⇑ls,⇑wd,↑q,none]/\au H H') ?_ ?_)
 ·intro u' hu
  tm_at "r";exact vd.cut (m:=4) hd λp H1 hp hp1 s1=>⟨p,ls,wd,rfl,hp1,wd1,ls1,λq D H2 d1 d12 dB hq0 hq s2=>hu _ _ ⟨q,D,d1,d12,dB,hq,rfl,s1.trans s2⟩⟩
 rintro Ω ω _ H1 ⟨q,D,d1,d12,dB,hq,rfl,s1⟩;have hd1:=hd.same s1;have oi:(0:Int)<=i/\(i:Int) < bs.length:=⟨ai6 i,ao3.mpr hi⟩;have oj:(0:Int)<=j/\(j:Int) < bs.length:=⟨ai6 j,ao3.mpr hj⟩;have i40:((i:Int)+1).natAbs < 10 ^ 40:=aa7 (show _<=4 by omega) ∅;have j40:((j:Int)+1).natAbs < 10 ^ 40:=aa7 (show _<=4 by omega) ∅;refine ω _ _ (aN (λZ H'=>kd≠1/\Z=[↑a,↑r,⇑kd,⇑i,⇑j,⇑ls,⇑wd,↑q,none]/\H1=H') ?_ ?_)
 ·intro u' hu
  refine cf λA0 B0 hA hB=>?_;tm_at "r"
  by_cases h1:kd=1
  ·rw [if_pos h1]
   refine hA _ ?_;tm_at "r";refine hd1.ix ∅ ∅ λy y0 _=>⟨(),λp hp=>?_⟩;have s2:=aq (o:=.lst [.int 5,.int 12,.int 99991]) hp;refine(hd1.same s2).ix ∅ ∅ λz z0 _=>⟨z,rfl,⟨∅,∅⟩,∅,?_⟩;refine je (aJ.of ae) () (by simp;omega) λv hv _=>?_
   obtain⟨m,rfl,m0,m1⟩:∃m:Int,v=.int m/\0 < m/\m<=99991:=by
    simp only [ab2,ad2,or_false]at hv
    rcases hv with rfl | rfl | rfl<;>exact⟨_,rfl,∅,∅⟩
   refine⟨y,rfl,m,rfl,m0,?_⟩;have r0:=ad7 y (show m≠0 by omega);have r1:=ad1 y m0;generalize upd H1 p (.lst [.int 5,.int 12,.int 99991])=H2 at s2;have hq2:=s2 _ _ hq;refine bK (aJ.of hq2) (bQ (xs:=D.map V.int) (λn ys H'=>∃ps:List Int,ys=ps.map V.int/\(ps.length=n/\∀d∈ps,d.natAbs < 10 ^ 40)/\H2=H') (by rw [aa0];omega) ⟨[],rfl,⟨rfl,λ_ z=>nomatch z⟩,rfl⟩ (λn ys H' h=>by obtain⟨_,rfl,⟨rfl,_⟩,_⟩:=h;rw [aa0];exact aa9 _) (λn ys H' h=>by obtain⟨_,_,_,rfl⟩:=h;exact aJ.of hq2) ?_ ?_)
   ·rintro n x ys H' hx ⟨ps,rfl,⟨pl,pb⟩,rfl⟩
    obtain⟨d,_,rfl⟩:=ac3.mp (ac0 hx);tm_at "r";have q0:=ad7 d (show 1+y % m≠0 by omega);have q1:=ad1 d (show 0 < 1+y % m by omega);refine⟨(),ps++[_],by rw [ab4];rfl,by rw [aa8,pl];rfl,λx hx=>?_⟩;rcases ac4.mp hx with hx | hx
    ·exact pb x hx
    ·rw [ab8.mp hx]
     exact aa7 (show _<=99992 by omega) ∅
   ·rintro ys H' ⟨ps,rfl,⟨pl,pb⟩,rfl⟩ p1 hp1
    rw [aa0]at pl;refine⟨(),λp2 hp2=>k p2 (.clock i j (1+y % m) ps) _ ⟨⟨oi.1,oi.2,oj.1,oj.2,()⟩,⟨ad0.mpr ⟨i40,ad0.mpr ⟨j40,ad0.mpr ⟨aa7 (show _<=99991 by omega) ∅,pb⟩⟩⟩,(),()⟩,show(1:Int)<=3 by decide,show(1:Int)<=1 by decide⟩ (λ_=>trivial) ⟨p1,ae,(aq hp2) _ _ ae⟩ (((s1.trans s2).upd hp1).upd hp2)⟩
  ·rw [if_neg h1]
   exact hB _ (hu _ _ ⟨h1,rfl,rfl⟩)
 rintro Ω ω _ _ ⟨h1,rfl,rfl⟩;refine ω _ _ ?_;tm_at "r";refine⟨(),λp hp=>?_⟩;have s2:=aq (o:=.lst [.str (Str.ofString "span"),.str (Str.ofString "clock"),.str (Str.ofString "alike")]) hp;have dB':∀d∈D,d.natAbs < 10 ^ 40:=λd h=>aa7 (dB d h) ∅
 have h02:kd=0\/kd=2:=by omega
 rcases h02 with rfl | rfl
 ·refine bq (aJ.of ae) (bH rfl) ⟨(),λp2 hp2=>?_⟩
  exact k p2 (.span i j D) _ ⟨⟨oi.1,oi.2,oj.1,oj.2⟩,⟨ad0.mpr ⟨i40,ad0.mpr ⟨j40,dB'⟩⟩,d1,d12⟩,show(1:Int)<=3 by decide,show(1:Int)<=1 by decide⟩ (λ_=>trivial) ⟨q,ae,(s2.upd hp2) _ _ hq⟩ ((s1.trans s2).upd hp2)
 ·refine bq (aJ.of ae) (show fR _ ((2:Nat):Int)=_ from aK rfl) ⟨(),λp2 hp2=>?_⟩
  exact k p2 (.alike i j D) _ ⟨⟨oi.1,oi.2,oj.1,oj.2⟩,⟨ad0.mpr ⟨i40,ad0.mpr ⟨j40,dB'⟩⟩,d1,d12⟩,show(1:Int)<=3 by decide,show(1:Int)<=1 by decide⟩ (λz=>absurd z ∅) ⟨q,ae,(s2.upd hp2) _ _ hq⟩ ((s1.trans s2).upd hp2)
def m7(K:Frag):Sp:=λvs H Q _=>∃(a r:Addr) (bs:List (Int×Int)) (kd:Int),vs=[.ref a,.ref r,.int kd]/\vd K H a 18/\bP K H r bs/\1<=bs.length/\bs.length<=4/\(∀b∈bs,xb b)/\0<=kd/\kd<=5/\∀(p:Addr) (R:cY) H',Hm bs.length R->eH H' p R->au H H'->Q (.ref p) H'
theorem qy(F:b0 K "_law_voice_rule" "_law_voice_rule" fh f fd)(T:Txt mg aM)(D_law_some: ~~~cB "_law_some" 1 ["_law_ways","_law_least","_law_wide"] (pJ K)): ~~~aL bU 2 f fd ["_law_ways","_law_ranges_here","_law_kind"] (m7 K):=by
 refine F.ok sc_law_voice_rule λ_ A _ s H vs Q E hr h=>?_;obtain⟨a,r,bs,kd,rfl,hd,hR,b1,b4,hb,k0,k5,k⟩:=h
 refine⟨rfl,_,(ag (cU (i:=3) sc_law_voice_rule.nd (ar (bL K) af (ar (o1 aU) (aw (aC K) (pr 0) af (λ_ _=>rfl)) (aD (aG K) ⋯ T.n_len boot_len (aa (pr 1) ah)))))
 (ag (mi (aw (aC K) (pr 1) (ar (o0 bD) (pr 3) af) (λ_ _=>rfl)) (fT K (n:=2) rfl (bT (jR (i:=4) sc_law_voice_rule.nd) (bT (jR (i:=5) sc_law_voice_rule.nd) fU))))
 (ag (cU (i:=6) sc_law_voice_rule.nd (ar (bL K) (ar (o0 bD) (pr 5) (pr 4)) af))
 (ag (aP (ba (ay gJ (pr 2) af (az _))) (ai (av (dk (aa aW (aa (pr 3) (aa (aA D_law_some hr ⋯ (aa (bt (fB K) (pr 0) (fw af) bJ) (aa (ar (o0 bD) af (pr 6)) (aa (ar (o0 bD) (ar (lq K) af (pr 6)) af) ah)))) ah)))))) aB)
 (ag (aP (ba (ay gJ (pr 2) af (az _))) (ai (av (dk (aa aW (aa (pr 3) (aa (ar (o1 aU) (aw (aC K) (pr 0) af (λ_ _=>rfl)) (ar (bL K) (pr 6) af)) ah)))))) aB)
 (ag (aP (ba (ay gJ (pr 2) af (az _))) (ai (av (dk (aa aW (aa (pr 3) (aa (ar (bL K) af (ar (o1 aU) (aw (aC K) (pr 0) af (λ_ _=>rfl)) af)) ah)))))) aB)
 (ag (aP (ba (ay gJ (pr 2) af (az _))) (ag (cU (i:=7) sc_law_voice_rule.nd (ar (o1 aU) (aw (aC K) (pr 0) af (λ_ _=>rfl)) af))
 (ai (av (dk (aa aW (aa (pr 3) (aa (ar (bL K) (pr 4) (ar (o1 aU) (aw (aC K) (pr 0) af (λ_ _=>rfl)) (pr 6))) (aa (ar (lq K) (ar (o1 aU) (aw (aC K) (pr 0) af (λ_ _=>rfl)) (ar (bL K) (pr 7) af)) (ar (o1 aU) (aw (aC K) (pr 0) af (λ_ _=>rfl)) af)) (aa (pr 7) ah))))))))) aB)
 (ai (av (dk (aa (aw (aC K) (bN (aa aW (aa aW ah))) (ar (o1 aU) (pr 2) af) (λ_ _=>rfl)) (aa (pr 3) (aa (aA D_law_some hr ⋯ (aa (bt (fB K) (pr 0) (fw af) bJ) (aa (pr 4) (aa (pr 6) ah)))) ah))))))))))))),?_⟩
 have hs:=sizeLine_eq;refine aN (λZ H'=>∃i:Nat,i < bs.length/\Z=[↑a,↑r,⇑kd,⇑(i+1),none,none,none,none]/\H=H') ?_ ?_
 ·intro u' hu
  tm_at "r";refine hd.ix ∅ ∅ λx x0 _=>?_;tm_at "r";obtain⟨ts,h1,h2,_⟩:=hR;refine⟨_,.inl h1,?_⟩;rw [aa0,h2];obtain⟨i,hi⟩:=ae1 (ad7 x (show((bs.length:Nat):Int)≠0 by omega))
  have:=ad1 x (show(0:Int) < (bs.length:Nat)by omega)
  rw [hi]at this |-;rw [Int.add_comm];exact⟨(),hu _ _ ⟨i,(),rfl,rfl⟩⟩
 rintro Ω ω _ _ ⟨i,hi,rfl,rfl⟩;obtain⟨lo,hlo⟩:∃lo,(bs[i]).1=lo:=⟨_,rfl⟩;obtain⟨hg,hhi⟩:∃hg,(bs[i]).2=hg:=⟨_,rfl⟩;obtain⟨l1,l2,l3⟩:=hb _ (ad5 hi);rw [hlo,hhi]at l1 l3;rw [hlo]at l2;have e36:=GU
 have e38:(10:Nat) ^ 38=100000000000000000000000000000000000000:=by decide +kernel
 have e40:=HS;rw [e36]at l2;refine ω _ _ (aN (λZ H'=>Z=[↑a,↑r,⇑kd,⇑(i+1),⇑lo,⇑hg,none,none]/\H=H') ?_ ?_)
 ·intro u' hu
  tm_at "r";rw [show(i:Int)+1 - 1=i by omega];refine hR.ix hi λt ht=>⟨t,rfl,_,ht,rfl,?_⟩;rw [hlo,hhi];tm_at "r";exact hu _ _ ⟨rfl,rfl⟩
 rintro Ω ω _ _ ⟨rfl,rfl⟩;refine ω _ _ (aN (λZ H'=>∃wd:Int,wd=hg - lo+1/\Z=[↑a,↑r,⇑kd,⇑(i+1),⇑lo,⇑hg,⇑wd,none]/\H=H') ?_ ?_)
 ·intro u' hu
  tm_at "r";exact hu _ _ ⟨_,rfl,rfl,rfl⟩
 rintro Ω ω _ _ ⟨wd,hwd,rfl,rfl⟩
 have w1:1<=wd:=by omega
 have w12:wd<=12:=by omega
 have oi:(0:Int)<=i/\(i:Int) < bs.length:=⟨ai6 i,ao3.mpr hi⟩;have i40:((i:Int)+1).natAbs < 10 ^ 40:=aa7 (show _<=4 by omega) ∅;have dB':∀{D:List Int},(∀d∈D,d.natAbs<=10 ^ 39)->∀d∈D,d.natAbs < 10 ^ 40:=λh d hd=>aa7 (h d hd) ∅;refine ω _ _ (aN (λZ H'=>kd≠0/\Z=[↑a,↑r,⇑kd,⇑(i+1),⇑lo,⇑hg,⇑wd,none]/\H=H') ?_ ?_)
 ·intro u' hu
  refine cf λA0 B0 hA hB=>?_;tm_at "r"
  by_cases h1:kd=0
  ·rw [if_pos h1]
   refine hA _ ?_;tm_at "r";exact vd.cut (m:=4) hd λp H1 hp hp1 s1=>⟨.of_left ∅,p,_,_,rfl,hp1,(),by rw [e38];omega,λq D H2 d1 d12 dB hq0 hq s2=>⟨(),λp2 hp2=>k p2 (.move i D) _ ⟨oi,⟨ad0.mpr ⟨i40,dB' dB⟩,d1,d12⟩,show(1:Int)<=3 by decide,show(1:Int)<=1 by decide⟩ ⟨q,ae,(aq hp2) _ _ hq⟩ ((s1.trans s2).upd hp2)⟩⟩
  ·rw [if_neg h1]
   exact hB _ (hu _ _ ⟨h1,rfl,rfl⟩)
 rintro Ω ω _ _ ⟨n0,rfl,rfl⟩;refine ω _ _ (aN (λZ H'=>kd≠1/\Z=[↑a,↑r,⇑kd,⇑(i+1),⇑lo,⇑hg,⇑wd,none]/\H=H') ?_ ?_)
 ·intro u' hu
  refine cf λA0 B0 hA hB=>?_;tm_at "r"
  by_cases h1:kd=1
  ·rw [if_pos h1]
   refine hA _ ?_;tm_at "r";refine hd.ix ∅ ∅ λx x0 x1=>⟨x,rfl,(),(),λp hp=>?_⟩;have r0:=ad7 x (show wd+1≠0 by omega);have r1:=ad1 x (show 0 < wd+1 by omega);exact k p (.back i (x % (wd+1))) _ ⟨⟨oi.1,oi.2,r0⟩,⟨ad0.mpr ⟨i40,ad0.mpr ⟨aa7 (show _<=13 by omega) ∅,λ_ z=>nomatch z⟩⟩,trivial⟩,show(3:Int)<=3 by decide,show(1:Int)<=3 by decide⟩ ae (aq hp)
  ·rw [if_neg h1]
   exact hB _ (hu _ _ ⟨h1,rfl,rfl⟩)
 rintro Ω ω _ _ ⟨n1,rfl,rfl⟩;refine ω _ _ (aN (λZ H'=>kd≠2/\Z=[↑a,↑r,⇑kd,⇑(i+1),⇑lo,⇑hg,⇑wd,none]/\H=H') ?_ ?_)
 ·intro u' hu
  refine cf λA0 B0 hA hB=>?_;tm_at "r"
  by_cases h1:kd=2
  ·rw [if_pos h1]
   refine hA _ ?_;tm_at "r";refine hd.ix ∅ ∅ λx x0 x1=>⟨x,rfl,∅,(),λp hp=>?_⟩;have r0:=ad7 x (show(3:Int)≠0 by decide);have r1:=ad1 x (show(0:Int) < 3 by decide);generalize x % 3=y at r0 r1;exact k p (.held i (1+y)) _ ⟨⟨oi.1,oi.2,()⟩,⟨ad0.mpr ⟨i40,ad0.mpr ⟨aa7 (show _<=13 by omega) ∅,λ_ z=>nomatch z⟩⟩,trivial⟩,show 1+y<=3 by omega,show 1<=1+y by omega⟩ ae (aq hp)
  ·rw [if_neg h1]
   exact hB _ (hu _ _ ⟨h1,rfl,rfl⟩)
 rintro Ω ω _ _ ⟨n2,rfl,rfl⟩;refine ω _ _ (aN (λZ H'=>kd≠3/\Z=[↑a,↑r,⇑kd,⇑(i+1),⇑lo,⇑hg,⇑wd,none]/\H=H') ?_ ?_)
 ·intro u' hu
  refine cf λA0 B0 hA hB=>?_;tm_at "r"
  by_cases h1:kd=3
  ·rw [if_pos h1]
   refine hA _ ?_;tm_at "r";refine hd.ix ∅ ∅ λx x0 x1=>⟨x,rfl,∅,hd.ix ∅ ∅ λy y0 y1=>⟨y,rfl,(),hd.ix ∅ ∅ λz z0 z1=>⟨z,rfl,(),hd.ix ∅ ∅ λv v0 v1=>⟨v,rfl,∅,?_⟩⟩⟩⟩;have r0:=ad7 x (show(3:Int)≠0 by decide);have r1:=ad1 x (show(0:Int) < 3 by decide);generalize x % 3=mo at r0 r1;have y0':=ad7 y (show wd≠0 by omega);have y1':=ad1 y (show 0 < wd by omega);generalize y % wd=yy at y0' y1';have z0':=ad7 z (show mo+2≠0 by omega);have z1':=ad1 z (show 0 < mo+2 by omega);generalize z % (mo+2)=zz at z0' z1'
   obtain⟨lw,hlw,lw0,lw3⟩:∃lw,zz * (v % 2)=lw/\0<=lw/\lw<=3:=by
    have h2:v % 2=0\/v % 2=1:=by omega
    rcases h2 with e | e<;>rw [e]
    ·exact⟨0,(),∅,∅⟩
    ·exact⟨zz,(),(),()⟩
   have h2:v % 2=0\/v % 2=1:=by omega
   refine⟨.of_right (intBits_le_iff.mpr ()),(),λp hp=>?_⟩;rw [hlw];exact k p (.times i (lo+yy) lw mo) _ ⟨⟨oi.1,oi.2,r0⟩,⟨ad0.mpr ⟨i40,ad0.mpr ⟨by rw [e40];omega,ad0.mpr ⟨aa7 (show _<=3 by omega) ∅,ad0.mpr ⟨aa7 (show _<=3 by omega) ∅,λ_ z=>nomatch z⟩⟩⟩⟩,lw0⟩,show mo+1<=3 by omega,show 1<=mo+1 by omega⟩ ae (aq hp)
  ·rw [if_neg h1]
   exact hB _ (hu _ _ ⟨h1,rfl,rfl⟩)
 rintro Ω ω _ _ ⟨n3,rfl,rfl⟩;refine ω _ _ ?_;tm_at "r";refine⟨(),λp hp=>⟨∅,?_⟩⟩;have s0:=aq (o:=.lst [.str (Str.ofString "begin"),.str (Str.ofString "close")]) hp
 have h45:kd=4\/kd=5:=by omega
 have fin:∀{z:Str} {R:List Int->cY},(∀D,Cm (R D)=[.str z,.int (i+1)]/\BM (R D)=some D/\((∀d∈D,d.natAbs < 10 ^ 40)->1<=D.length->D.length<=12->Hm bs.length (R D)))->uG K (.ref a) (some 4) none (upd H p (.lst [.str (Str.ofString "begin"),.str (Str.ofString "close")])) λx_1 H1=>pJ K [x_1,.int lo,.int wd] H1 (λx_2 H1=>0+1+1+1<=sizeLine/\∀(p:Addr),H1 p=none->Q (.ref p) (upd H1 p (.tup [.str z,.int (i+1),x_2]))) E0:=λ{z R} h=>by
  refine vd.cut (m:=4) (hd.same s0) λp1 H1 hp hp1 s1=>⟨p1,_,_,rfl,hp1,w1,by rw [e38];omega,λq D H2 d1 d12 dB hq0 hq s2=>⟨(),λp2 hp2=>k p2 (R D) _ ((h D).2.2 (dB' dB) d1 d12) ?_ ((s0.trans (s1.trans s2)).upd hp2)⟩⟩;unfold eH;rw [(h D).2.1,(h D).1];exact⟨q,ae,(aq hp2) _ _ hq⟩
 rcases h45 with rfl | rfl
 ·exact bq (aJ.of ae) (show fR _ (4 % 2)=_ from bH rfl) (fin (R:=λD=>.begin i D) λD=>⟨rfl,rfl,λhD d1 d12=>⟨oi,⟨ad0.mpr ⟨i40,hD⟩,d1,d12⟩,show(1:Int)<=3 by decide,show(1:Int)<=1 by decide⟩⟩)
 ·exact bq (aJ.of ae) (show fR _ ((1:Nat):Int)=_ from aK rfl) (fin (R:=λD=>.close i D) λD=>⟨rfl,rfl,λhD d1 d12=>⟨oi,⟨ad0.mpr ⟨i40,hD⟩,d1,d12⟩,show(1:Int)<=3 by decide,show(1:Int)<=1 by decide⟩⟩)
def rA(nv:Nat)(R:aH):Prop:=cv nv R/\uk R/\1<=dz R/\dz R<=3
def Bd(K:Frag):Sp:=λvs H Q _=>∃(r:Addr) (bs:List (Int×Int)) (c:Int),vs=[.int c,.ref r]/\bP K H r bs/\1<=bs.length/\bs.length<=4/\(∀b∈bs,xb b)/\∀(p:Addr) (R:aH) H',rA bs.length R->dW H' p R->au H H'->Q (.ref p) H'
def Be(K:Frag):Sp:=λvs H Q _=>∃(p:Addr) (R:aH),vs=[.ref p]/\dW H p R/\Q (.int (dz R)) H
theorem dW.hd{R:aH}(h:dW H p R):∃xs:List V,H p=some (.tup xs)/\xs[0]?=some (.str (match R with | .plain R=>aQ R | .every _ _ _=>"every")):=by
 cases R with
 | every m a R=>obtain⟨q,h1,_⟩:=h;exact⟨_,h1,rfl⟩
 | plain R=>
  unfold dW eH at h
  cases R<;>first | exact⟨_,h,rfl⟩ | (obtain⟨l,h1,_⟩:=h;exact⟨_,h1,rfl⟩)
theorem CN(F:b0 K "_law_rule" "_law_rule" kj f fd)(T:Txt mg aM)(D_law_draws: ~~~cB "_law_draws" 2 ["_law_cell","_law_many"] lL)(D_law_pair_rule: ~~~cB "_law_pair_rule" 2 ["_law_ways","_law_ranges_here","_law_kind"] (pG K))(D_law_voice_rule: ~~~cB "_law_voice_rule" 2 ["_law_ways","_law_ranges_here","_law_kind"] (m7 K)): ~~~aL bU 3 f fd ["_law_cell","_law_ranges_here"] (Bd K):=by
 refine F.ok sc_law_rule λ_ A _ s H vs Q E hr h=>?_;obtain⟨r,bs,c,rfl,hR,b1,b4,hb,k⟩:=h
 refine⟨rfl,_,(ag (cU (i:=2) sc_law_rule.nd (aA D_law_draws hr ⋯ (aa (pr 0) (aa af ah))))
 (ag (cU (i:=3) sc_law_rule.nd (ar (o1 aU) (ar (o1 dj) (pr 0) af) af))
 (ag (aP (ba (ay (o0 j6) (pr 3) af (az _))) (ai (av (aA D_law_pair_rule hr ⋯ (aa (pr 2) (aa (pr 1) (aa (pr 3) ah)))))) aB)
 (ag (aP (ba (ay (o0 j6) (pr 3) af (az _))) (ai (av (aA D_law_voice_rule hr ⋯ (aa (pr 2) (aa (pr 1) (aa (ar (o0 bD) (pr 3) af) ah)))))) aB)
 (ag (cU (i:=4) sc_law_rule.nd (ar (bL K) af (ar (o1 aU) (aw (aC K) (pr 2) af (λ_ _=>rfl)) af)))
 (ai (av (dk (aa aW (aa (pr 4) (aa (ar (o1 aU) (aw (aC K) (pr 2) af (λ_ _=>rfl)) (pr 4)) (aa (aA D_law_pair_rule hr ⋯ (aa (pr 2) (aa (pr 1) (aa (ar (o1 aU) (aw (aC K) (pr 2) af (λ_ _=>rfl)) af) ah)))) ah)))))))))))),?_⟩
 have hs:=sizeLine_eq;refine aN (λZ H'=>∃a:Addr,vd K H' a 18/\Z=[⇑c,↑r,↑a,none,none]/\au H H') ?_ ?_
 ·intro u' hu
  tm_at "r";exact⟨c,18,rfl,∅,λq ys H1 yl yb _ hq s1=>hu _ _ ⟨q,⟨ys,aJ.of hq,yl,yb⟩,rfl,s1⟩⟩
 rintro Ω ω _ H1 ⟨a,hd,rfl,s1⟩;have hR1:=hR.same s1;refine ω _ _ (aN (λZ H'=>∃kd:Int,0<=kd/\kd<=9/\Z=[⇑c,↑r,↑a,⇑kd,none]/\H1=H') ?_ ?_)
 ·intro u' hu
  tm_at "r";exact⟨⟨∅,∅⟩,∅,hu _ _ ⟨_,(),(),rfl,rfl⟩⟩
 rintro Ω ω _ _ ⟨kd,k0,k9,rfl,rfl⟩;refine ω _ _ (aN (λZ H'=>¬kd < 3/\Z=[⇑c,↑r,↑a,⇑kd,none]/\H1=H') ?_ ?_)
 ·intro u' hu
  refine cf λA0 B0 hA hB=>?_;tm_at "r"
  by_cases h1:kd < 3
  ·rw [if_pos h1]
   refine hA _ ?_;tm_at "r";exact⟨a,r,bs,kd,rfl,hd,hR1,b1,b4,hb,k0,(),λp R H2 hok _ hp s2=>k p (.plain R) _ ⟨hok.1,hok.2.1,hok.2.2.2,hok.2.2.1⟩ hp (s1.trans s2)⟩
  ·rw [if_neg h1]
   exact hB _ (hu _ _ ⟨h1,rfl,rfl⟩)
 rintro Ω ω _ _ ⟨h3,rfl,rfl⟩;refine ω _ _ (aN (λZ H'=>Z=[⇑c,↑r,↑a,⇑kd,none]/\H1=H') ?_ ?_)
 ·intro u' hu
  refine cf λA0 B0 hA hB=>?_;tm_at "r"
  by_cases h1:kd < 9
  ·rw [if_pos h1]
   refine hA _ ?_;tm_at "r";exact⟨a,r,bs,kd - 3,rfl,hd,hR1,b1,b4,hb,(),(),λp R H2 hok hp s2=>k p (.plain R) _ ⟨hok.1,hok.2.1,hok.2.2.2,hok.2.2.1⟩ hp (s1.trans s2)⟩
  ·rw [if_neg h1]
   exact hB _ (hu _ _ ⟨rfl,rfl⟩)
 rintro Ω ω _ _ ⟨rfl,rfl⟩;refine ω _ _ (aN (λZ H'=>∃m:Int,1<=m/\m<=3/\Z=[⇑c,↑r,↑a,⇑kd,⇑m]/\H1=H') ?_ ?_)
 ·intro u' hu
  tm_at "r";exact hd.ix ∅ ∅ λx _ _=>⟨x,rfl,∅,hu _ _ ⟨_,(),(),rfl,rfl⟩⟩
 rintro Ω ω _ _ ⟨m,m1,m3,rfl,rfl⟩;refine ω _ _ ?_;tm_at "r";refine hd.ix ∅ ∅ λx _ _=>⟨x,rfl,(),hd.ix ∅ ∅ λy y0 _=>⟨y,rfl,∅,?_⟩⟩;have q0:=ad7 x (show m≠0 by omega);have q1:=ad1 x (show 0 < m by omega);refine⟨a,r,bs,_,rfl,hd,hR1,b1,b4,hb,(),(),λp R H2 hok hin hp s2=>⟨(),λp2 hp2=>?_⟩⟩;exact k p2 (.every m (x % m) R) _ ⟨⟨hok.1,hin (),m1,q0,q1⟩,⟨hok.2.1,aa7 (show _<=3 by omega) ∅,aa7 (show _<=3 by omega) ∅⟩,m1,m3⟩ ⟨p,ae,hp.same (aq hp2)⟩ ((s1.trans s2).upd hp2)
theorem dW.szs{R:aH}(h:dW H p R):∃(xs:List V) (z:Str),H p=some (.tup xs)/\xs[0]?=some (.str z)/\(z=Str.ofString "held"->∃m,xs[2]?=⇑m/\dz R=m)/\(z=Str.ofString "times"->∃m,xs[4]?=⇑m/\dz R=m+1)/\(z=Str.ofString "every"->∃m,xs[1]?=⇑m/\dz R=m)/\(z≠Str.ofString "held"->z≠Str.ofString "times"->z≠Str.ofString "every"->dz R=1+2 * if z=Str.ofString "back" then 1 else 0):=by
 have go:∀(xs:List V) (z:Str),H p=some (.tup xs)->xs[0]?=some (.str z)->z≠Str.ofString "held"->z≠Str.ofString "times"->z≠Str.ofString "every"->(dz R=1+2 * if z=Str.ofString "back" then 1 else 0)->∃(xs:List V) (z:Str),H p=some (.tup xs)/\xs[0]?=some (.str z)/\(z=Str.ofString "held"->∃m,xs[2]?=⇑m/\dz R=m)/\(z=Str.ofString "times"->∃m,xs[4]?=⇑m/\dz R=m+1)/\(z=Str.ofString "every"->∃m,xs[1]?=⇑m/\dz R=m)/\(z≠Str.ofString "held"->z≠Str.ofString "times"->z≠Str.ofString "every"->dz R=1+2 * if z=Str.ofString "back" then 1 else 0):=λxs z h1 h2 a b c d=>⟨xs,z,h1,h2,λe=>absurd e a,λe=>absurd e b,λe=>absurd e c,λ_ _ _=>d⟩
 cases R with
 | every m a R=>
  obtain⟨q,h1,_⟩:=h;exact⟨_,_,h1,rfl,λe=>absurd e (by decide +kernel),λe=>absurd e (by decide +kernel),λ_=>⟨_,rfl,rfl⟩,λ_ _ e=>absurd rfl e⟩
 | plain R=>
  cases R with
  | held o m=>exact⟨_,_,h,rfl,λ_=>⟨_,rfl,rfl⟩,λe=>absurd e (by decide +kernel),λe=>absurd e (by decide +kernel),λe=>absurd rfl e⟩
  | times o n l m=>exact⟨_,_,h,rfl,λe=>absurd e (by decide +kernel),λ_=>⟨_,rfl,rfl⟩,λe=>absurd e (by decide +kernel),λ_ e=>absurd rfl e⟩
  | back o m=>exact go _ _ h rfl (by decide +kernel) (by decide +kernel) (by decide +kernel) (by rw [if_pos rfl];rfl)
  | _=>obtain⟨l,h1,_⟩:=h;exact go _ _ h1 rfl (by decide +kernel) (by decide +kernel) (by decide +kernel) (by rw [if_neg (by decide +kernel)];rfl)
theorem CO(F:b0 K "_law_size" "_law_size" km f fd)(T:Txt mg aM): ~~~aL bU 1 f fd ["_law_rule_here"] (Be K):=by
 refine F.ok uP λ_ A _ s H vs Q E hr h=>?_;obtain⟨p,R,rfl,hp,q⟩:=h
 refine⟨rfl,_,(ag (aP (ba (ay gJ (aw (aC K) (pr 0) af (λ_ _=>rfl)) aW (az _))) (ai (av (aw (aC K) (pr 0) af (λ_ _=>rfl)))) aB)
 (ag (aP (ba (ay gJ (aw (aC K) (pr 0) af (λ_ _=>rfl)) aW (az _))) (ai (av (ar (bL K) (aw (aC K) (pr 0) af (λ_ _=>rfl)) af))) aB)
 (ag (aP (ba (ay gJ (aw (aC K) (pr 0) af (λ_ _=>rfl)) aW (az _))) (ai (av (aw (aC K) (pr 0) af (λ_ _=>rfl)))) aB)
 (ai (av (ar (bL K) af (ar (lq K) af (bf (dJ) ⋯ T.n_int boot_int (aa (bc gJ (aw (aC K) (pr 0) af (λ_ _=>rfl)) aW (az _)) ah))))))))),?_⟩
 obtain⟨xs,z,hx,h0,f1,f2,f3,f4⟩:=hp.szs;have ix:∀{k:Nat} {x:V} {Q':VK},xs[k]?=some x->Q' x H->nk K (.ref p) (.int (k:Int)) H Q':=λe q=>dw (cI.of hx) (aK e) q;refine aN (λZ H'=>z≠Str.ofString "held"/\Z=[↑p]/\H=H') ?_ ?_
 ·intro u' hu
  tm_at "r";refine ix (k:=0) h0 ?_;tm_at "r"
  by_cases e:z=Str.ofString "held"
  ·rw [if_pos e]
   obtain⟨m,h2,h3⟩:=f1 e;rw [h3]at q;exact ix (k:=2) h2 q
  ·rw [if_neg e]
   exact hu _ _ ⟨e,rfl,rfl⟩
 rintro Ω ω _ _ ⟨n1,rfl,rfl⟩;refine ω _ _ (aN (λZ H'=>z≠Str.ofString "times"/\Z=[↑p]/\H=H') ?_ ?_)
 ·intro u' hu
  tm_at "r";refine ix (k:=0) h0 ?_;tm_at "r"
  by_cases e:z=Str.ofString "times"
  ·rw [if_pos e]
   obtain⟨m,h2,h3⟩:=f2 e;rw [h3]at q;refine ix (k:=4) h2 ?_;tm_at "r";exact q
  ·rw [if_neg e]
   exact hu _ _ ⟨e,rfl,rfl⟩
 rintro Ω ω _ _ ⟨n2,rfl,rfl⟩;refine ω _ _ (aN (λZ H'=>z≠Str.ofString "every"/\Z=[↑p]/\H=H') ?_ ?_)
 ·intro u' hu
  tm_at "r";refine ix (k:=0) h0 ?_;tm_at "r"
  by_cases e:z=Str.ofString "every"
  ·rw [if_pos e]
   obtain⟨m,h2,h3⟩:=f3 e;rw [h3]at q;exact ix (k:=1) h2 q
  ·rw [if_neg e]
   exact hu _ _ ⟨e,rfl,rfl⟩
 rintro Ω ω _ _ ⟨n3,rfl,rfl⟩;refine ω _ _ ?_;tm_at "r";refine ix (k:=0) h0 ?_;tm_at "r";rw [f4 n1 n2 n3]at q;exact⟨.of_left ∅,q⟩
def jN(H:Hp)(ru:Addr)(Rs:List aH):Prop:=∃ws:List Addr,H ru=some (.lst (ws.map V.ref))/\ws.length=Rs.length/\∀(j:Nat) (x:Addr) (R:aH),ws[j]?=some x->Rs[j]?=some R->dW H x R
theorem jN.same{Rs:List aH}(h:jN H ru Rs)(s:au H H'):jN H' ru Rs:=let ⟨ws,h1,h2,h3⟩:=h;⟨ws,s _ _ h1,h2,λj x R e1 e2=>(h3 j x R e1 e2).same s⟩
theorem yo{us:List Addr}(h:D.map V.int=us.map V.ref):D=[]:=by
 cases D with
 | nil=>rfl
 | cons d D=>cases us<;>cases h
theorem FL(h:BO R)(e:BM R=some D):D≠[]:=by
 have h2:=h.2
 cases R<;>cases e<;>(rintro rfl;exact absurd h2.1 ∅)
theorem eH.put{ws:List Addr}(h:eH H p R)(hn:BO R)(hru:H ru=some (.lst (ws.map V.ref))):eH (upd H ru o) p R:=by
 unfold eH at h |-
 split
 ·rename_i e
  rw [e]at h;rw [aj (dE h hru (λe=>by cases e))];exact h
 ·rename_i D e
  rw [e]at h;obtain⟨l,h1,h2⟩:=h;refine⟨l,by rw [aj (dE h1 hru (λe=>by cases e))];exact h1,?_⟩;rw [aj (dE h2 hru (λz=>FL hn e (yo (HO.lst.inj z))))];exact h2
theorem dW.put{R:aH}{ws:List Addr}(h:dW H p R)(hn:uk R)(hru:H ru=some (.lst (ws.map V.ref))):dW (upd H ru o) p R:=by
 cases R with
 | plain R=>exact eH.put h hn hru
 | every m a R=>
  obtain⟨q,h1,h2⟩:=h;exact⟨q,by rw [aj (dE h1 hru (λe=>by cases e))];exact h1,h2.put hn.1 hru⟩
def xu(K:Frag):Sp:=λvs H Q _=>∃(a r:Addr) (ns:List Int) (bs:List (Int×Int)) (cap:Int),vs=[.ref a,.ref r,.int cap]/\aJ K H a (ns.map V.int)/\bP K H r bs/\1<=bs.length/\bs.length<=4/\(∀b∈bs,xb b)/\(jC bs:Int)<=cap/\cap<=400/\∀(ru:Addr) (Rs:List aH) H',jN H' ru Rs->(∀R∈Rs,rA bs.length R)->Rs.length<=12->gU bs Rs<=cap->au H H'->Q (.ref ru) H'
theorem AH(F:b0 K "_law_rules" "_law_rules" jq f fd)(T:Txt mg aM)(D_law_at: ~~~cB "_law_at" 3 ["_law_script","_law_k"] (yT K))(D_law_columns: ~~~cB "_law_columns" 3 ["_law_ranges_here"] (pH K))(D_law_rule: ~~~cB "_law_rule" 3 ["_law_cell","_law_ranges_here"] (Bd K))(D_law_size: ~~~cB "_law_size" 3 ["_law_rule_here"] (Be K)): ~~~aL bU 4 f fd ["_law_script","_law_ranges_here","_law_cap"] (xu K):=by
 refine F.ok sc_law_rules λ_ A _ s H vs Q E hr h=>?_;obtain⟨a,r,ns,bs,cap,rfl,ha,hR,b1,b4,hb,c1,c4,k⟩:=h
 refine⟨rfl,_,(ag (cU (i:=3) sc_law_rules.nd (aD (aG K) ⋯ T.n_len boot_len (aa (aA D_law_columns hr ⋯ (aa (pr 1) ah)) ah)))
 (ag (cU (i:=4) sc_law_rules.nd (ar (o1 aU) (aA D_law_at hr ⋯ (aa (pr 0) (aa af ah))) af))
 (ag (aP (ba (ay gJ (ar (o1 aU) (ar (o1 dj) (aA D_law_at hr ⋯ (aa (pr 0) (aa af ah))) af) af) af (az _))) (ai (cU (i:=4) sc_law_rules.nd (ar (bL K) af (ar (o1 aU) (ar (o1 dj) (aA D_law_at hr ⋯ (aa (pr 0) (aa af ah))) af) af)))) aB)
 (ag (cU (i:=5) sc_law_rules.nd (bN ah))
 (ag (cw PassesOwn.never rfl (c9 rfl T.n_range (aa (pr 4) ah)) (jR (i:=6) sc_law_rules.nd)
 (ag (cU (i:=7) sc_law_rules.nd (aA D_law_at hr ⋯ (aa (pr 0) (aa (ar (bL K) af (ar (o1 aU) (pr 6) af)) ah))))
 (ag (aP (ba (ay (o0 i7) (pr 6) af (az _))) (ai (cU (i:=7) sc_law_rules.nd (ar (bL K) (ar (o1 dj) (pr 7) af) (ar (lq K) (ar (lq K) af (pr 6)) (pr 6))))) aB)
 (ag (cU (i:=8) sc_law_rules.nd (aA D_law_rule hr ⋯ (aa (pr 7) (aa (pr 1) ah))))
 (ai (aP (ba (ay (o0 i8) (ar (lq K) (pr 3) (aA D_law_size hr ⋯ (aa (pr 8) ah))) (pr 2) (az _))) (ag (cU (i:=3) sc_law_rules.nd (ar (lq K) (pr 3) (aA D_law_size hr ⋯ (aa (pr 8) ah))))
 (ai (bG (bW K PySem.F.plainAttrs_list PySem.F.slot_list_append PySem.F.type_list_append cA (pr 5) (aa (pr 8) ah))))) aB))))))
 (ai (av (pr 5)))))))),?_⟩
 have hs:=sizeLine_eq;have hw:∀b∈bs,1<=wN b:=λb h=>(hb b h).big.2.2.2.2;have ew:xJ bs=(jC bs:Int):=xK λb h=>(hb b h).1;have cg:1<=jC bs:=nU bs 1 hw;refine aN (λZ H'=>Z=[↑a,↑r,⇑cap,⇑(jC bs),none,none,none,none,none]/\au H H') ?_ ?_
 ·intro u' hu
  tm_at "r"
  refine⟨r,bs,rfl,hR,b4,hw,(),λq H1 _ ⟨ps,h1,h2,_⟩ s1=>by
   refine .inr ⟨q,rfl,_,.inl (aJ.of h1),?_⟩;rw [aa0,h2,eU]
   exact hu _ _ ⟨rfl,s1⟩⟩
 rintro Ω ω _ H1 ⟨rfl,s1⟩;refine ω _ _ (aN (λZ H'=>∃m:Int,0<=m/\m<=4/\Z=[↑a,↑r,⇑cap,⇑(jC bs),⇑m,none,none,none,none]/\H1=H') ?_ ?_)
 ·intro u' hu
  tm_at "r";exact⟨a,ns,3,rfl,s1.seq ha,∅,∅,_,rfl,∅,hu _ _ ⟨_,(),(),rfl,rfl⟩⟩
 rintro Ω ω _ _ ⟨m,m0,m4,rfl,rfl⟩;refine ω _ _ (aN (λZ H'=>∃m:Int,0<=m/\m<=12/\Z=[↑a,↑r,⇑cap,⇑(jC bs),⇑m,none,none,none,none]/\H1=H') ?_ ?_)
 ·intro u' hu
  tm_at "r";refine⟨a,ns,3,rfl,s1.seq ha,∅,∅,_,rfl,⟨∅,∅⟩,∅,?_⟩
  by_cases h5:zm ns 3 / 5 % 8=3
  ·rw [if_pos h5]
   exact⟨a,ns,3,rfl,s1.seq ha,∅,∅,_,rfl,⟨∅,∅⟩,∅,hu _ _ ⟨_,(),(),rfl,rfl⟩⟩
  ·rw [if_neg h5]
   exact hu _ _ ⟨m,m0,(),rfl,rfl⟩
 clear m0 m4 m;rintro Ω ω _ _ ⟨m,m0,m12,rfl,rfl⟩;refine ω _ _ (aN (λZ H'=>∃ru:Addr,H1 ru=none/\H' ru=some (.lst (([]:List Addr).map V.ref))/\Z=[↑a,↑r,⇑cap,⇑(jC bs),⇑m,↑ru,none,none,none]/\au H1 H') ?_ ?_)
 ·intro u' hu
  tm_at "r";exact⟨(),λp hp=>hu _ _ ⟨p,hp,ae,rfl,aq hp⟩⟩
 rintro Ω ω _ H2 ⟨ru,hru0,hru,rfl,s2⟩;obtain⟨Pv,hPv⟩:∃Pv:Nat->L2.St->Hp->Prop,Pv=λi Z H'=>∃(ws:List Addr) (Rs:List aH) (o6 o7 o8:Option V),ws.length=Rs.length/\Rs.length<=i/\1<=gU bs Rs/\gU bs Rs<=cap/\(∀R∈Rs,rA bs.length R)/\H' ru=some (.lst (ws.map V.ref))/\(∀(j:Nat) (x:Addr) (R:aH),ws[j]?=some x->Rs[j]?=some R->dW H' x R)/\Z=[↑a,↑r,⇑cap,⇑(gU bs Rs),⇑m,↑ru,o6,o7,o8]/\au H1 H':=⟨_,rfl⟩;refine ω _ _ (aN (λZ H'=>Pv m.toNat Z H') ?_ ?_)
 ·intro u' hu
  tm_at "r";refine⟨(),(),cQ Pv (by rw [hPv];exact⟨[],[],none,none,none,rfl,aa9 _,by show 1<=xJ bs;omega,by show xJ bs<=cap;omega,λ_ z=>(nomatch z),hru,λj x R e=>(by cases e),by rw [<-ew];rfl,s2⟩) ?_ λZ H' h=>hu _ _ h⟩;clear hru s2 H2;intro i Z H2 hi hI;rw [hPv]at hI;obtain⟨ws,Rs,o6,o7,o8,wl,rl,t1,t4,hRs,hru,hT,rfl,s2⟩:=hI;refine iL λRk rk=>?_;tm_at "r";refine⟨∅,a,ns,_,rfl,(s1.trans s2).seq ha,(),(),rk _ _ ?_⟩;clear rk Rk;generalize zm ns _=c;refine aN (λZ H'=>∃c:Int,Z=[↑a,↑r,⇑cap,⇑(gU bs Rs),⇑m,↑ru,⇑i,⇑c,o8]/\H2=H') ?_ ?_
  ·intro u2 iX
   tm_at "r"
   by_cases h3:(3:Int) < i
   ·rw [if_pos h3]
    exact⟨⟨∅,∅⟩,.of_left ∅,.of_right (intBits_le_iff.mpr ()),iX _ _ ⟨_,rfl,rfl⟩⟩
   ·rw [if_neg h3]
    exact iX _ _ ⟨c,rfl,rfl⟩
  clear c;rintro Ω ω _ _ ⟨c,rfl,rfl⟩;refine ω _ _ (aN (λZ H'=>∃(x:Addr) (R:aH),rA bs.length R/\dW H' x R/\Z=[↑a,↑r,⇑cap,⇑(gU bs Rs),⇑m,↑ru,⇑i,⇑c,↑x]/\au H2 H') ?_ ?_)
  ·intro u2 iX
   tm_at "r";exact⟨r,bs,c,rfl,hR.same (s1.trans s2),b1,b4,hb,λx R H3 hok hx s3=>iX _ _ ⟨x,R,hok,hx,rfl,s3⟩⟩
  rintro Ω ω _ H3 ⟨x,R,hrow,hx3,rfl,s3⟩;obtain⟨_,hok,z1,z4⟩:=id hrow;have hru3:=s3 _ _ hru
  have eW:gU bs (Rs++[R])=gU bs Rs * dz R:=by
   unfold gU;rw [ah9];rfl
  refine ω _ _ ?_;tm_at "r";refine⟨x,R,rfl,hx3,?_⟩;tm_at "r";refine⟨.of_right (intBits_le_iff.mpr ()),?_⟩
  by_cases hw:gU bs Rs * dz R<=cap
  ·rw [if_pos hw]
   refine⟨x,R,rfl,hx3,?_⟩;tm_at "r";refine⟨.of_right (intBits_le_iff.mpr ()),.inl ⟨rfl,_,aJ.of hru3⟩,ru,_,_,rfl,rfl,hru3,by rw [aa0];omega,?_⟩;rw [<-eW]
   have hp:1<=gU bs Rs * dz R:=by
    have:=Int.mul_le_mul t1 z1 ∅ ()
    omega
   rw [hPv];refine⟨ws++[x],Rs++[R],_,_,_,by simp [wl],by simp;omega,by rw [eW];exact hp,by rw [eW];exact hw,λR' hR'=>?_,by rw [ae,ab4];rfl,λj y R' e1 e2=>?_,rfl,y6 hru0 (s2.trans s3)⟩
   ·rcases ac4.mp hR' with h | h
    ·exact hRs R' h
    ·rw [ab8.mp h];exact hrow
   ·by_cases hj:j < ws.length
    ·rw [ab7 hj]at e1
     rw [ab7 ()]at e2;exact((hT j y R' e1 e2).same s3).put (hRs R' (ac0 e2)).2.1 hru3
    ·rw [ac5 ()]at e1 e2
     have ej:j=ws.length:=by
      have:=(aa1.mp e1).1
      simp at this;omega
     rw [ej,ak0]at e1;rw [ej,wl,ak0]at e2;cases e1;cases e2;exact hx3.put hok hru3
  ·rw [if_neg hw]
   rw [hPv];exact⟨ws,Rs,_,_,_,wl,(),t1,t4,hRs,hru3,λj y R' e1 e2=>(hT j y R' e1 e2).same s3,rfl,s2.trans s3⟩
 intro Ω ω;intro Z H2 hI;rw [hPv]at hI;obtain⟨ws,Rs,o6,o7,o8,wl,rl,t1,t4,hRs,hru,hT,rfl,s2⟩:=hI;refine ω _ _ ?_;tm_at "r";exact k ru Rs H2 ⟨ws,hru,wl,hT⟩ hRs () t4 (s1.trans s2)
def jM(In:Addr->Str->Hp->Prop)(H:Hp)(v:V)(ws:List Str):Prop:=(∃z:Str,v=.str z/\ws=[z])\/(∃n:Int,v=.int n/\n.natAbs < 10 ^ 40/\ws=[aR n])\/(∃(d:Addr) (D:List Int),v=.ref d/\H d=some (.lst (D.map V.int))/\D.length<=20/\(∀n∈D,n.natAbs < 10 ^ 40)/\ws=D.map aR)\/∃(i:Addr) (ys:List V) (z:Str),v=.ref i/\H i=some (.tup ys)/\In i z H/\ws=[z]
def yU(In:Addr->Str->Hp->Prop):Sp:=λvs H Q _=>∃(i:Addr) (z:Str),vs=[.ref i]/\In i z H/\∀H',au H H'->Q (.str z) H'
def kL(In:Addr->Str->Hp->Prop)(t:Addr)(z:Str)(H:Hp):Prop:=∃(xs:List V) (wss:List (List Str)),H t=some (.tup xs)/\xs.length=wss.length/\xs.length<=10/\(∀(i:Nat) (v:V) (ws:List Str),xs[i]?=some v->wss[i]?=some ws->jM In H v ws)/\(∀ws∈wss,∀y∈ws,y.length<=20000)/\(∀ws∈wss,ws.length<=20)/\z=Txt.join (Str.ofString " ") wss.flatten
theorem su{n:Int}(h:n.natAbs < 10 ^ 40):n.natAbs.log2 < 1920:=by
 by_cases h0:n.natAbs=0
 ·rw [h0];decide
 ·exact(Nat.log2_lt h0).mpr (ab3 h (by decide +kernel))
theorem Bn{f:Str->Nat}{m:Nat}:∀{l:List Str},(∀y∈l,f y<=m)->(l.map f).sum<=l.length * m
 | [],_=>by simp
 | y::l,h=>by
  have h1:=h y (by simp);have h2:=Bn (l:=l) λz hz=>h z (by simp [hz]);rw [ac7,List.sum_cons,ad4,Nat.add_mul];omega
theorem jM.same(hIn:∀i z H H',au H H'->In i z H->In i z H'){v:V}(s:au H H')(h:jM In H v ws):jM In H' v ws:=by
 rcases h with h | h | ⟨d,D,h1,h2,h3⟩ | ⟨i,ys,z,h1,h2,h3,h4⟩
 ·exact .inl h
 ·exact .inr (.inl h)
 ·exact .inr (.inr (.inl ⟨d,D,h1,s _ _ h2,h3⟩))
 ·exact .inr (.inr (.inr ⟨i,ys,z,h1,s _ _ h2,hIn _ _ _ _ s h3,h4⟩))
theorem AG{j:Nat}(hIn:∀i z H H',au H H'->In i z H->In i z H')(F:b0 K "_law_row" "_law_row" mv f fd)(T:Txt mg aM)(D_law_row: ~~~cB "_law_row" j ["_law_rule_here"] (yU In)): ~~~aL bU (j+1) f fd ["_law_rule_here"] (yU (kL In)):=by
 refine F.ok sc_law_row λ_ A _ s H vs Q E hr h=>?_;obtain⟨t,z,rfl,⟨xs,wss,ht,hl,l10,hit,hy,hw,rfl⟩,k⟩:=h
 refine⟨rfl,_,(ag (cU (i:=1) sc_law_row.nd (bN ah))
 (ag (cw PassesOwn.never rfl (bF K (pr 0)) (jR (i:=2) sc_law_row.nd)
 (ai (aP (bo (aD (kS K) ⋯ T.n_isinstance boot_isinstance (aa (pr 2) (aa (xh (v:=.ty "list") ⋯ T.n_list boot_list rfl) ah))) (λ_=>rfl)) (ai (cU (i:=1) sc_law_row.nd (ar (bL K) (pr 1) (cX (own:=["_law_number"]) (js:=[]) rfl (bF K (pr 2)) (bB.of ⋯) (λ_ _ _ _ _=>(bM (i:=0) (show List.Nodup (["_law_number"]:List Str)from by decide +kernel) rfl (Or.inl rfl))) (λ_ _ _ _ _=>cn) (λ_ _ _ _ _=>(bf (jB) ⋯ T.n_str boot_str (aa (pr 0) ah))))))) (ai (aP (bo (aD (kS K) ⋯ T.n_isinstance boot_isinstance (aa (pr 2) (aa (xh (v:=.ty "tuple") ⋯ T.n_tuple boot_tuple rfl) ah))) (λ_=>rfl)) (ai (bG (bW K PySem.F.plainAttrs_list PySem.F.slot_list_append PySem.F.type_list_append cA (pr 1) (aa (aA D_law_row hr ⋯ (aa (pr 2) ah)) ah)))) (ai (bG (bW K PySem.F.plainAttrs_list PySem.F.slot_list_append PySem.F.type_list_append cA (pr 1) (aa (bf (jB) ⋯ T.n_str boot_str (aa (pr 2) ah)) ah)))))))))
 (ai (av (bW K PySem.F.plainAttrs_str PySem.F.slot_str_join PySem.F.type_str_join (ue K) aW (aa (pr 1) ah)))))),?_⟩
 have hs:=sizeLine_eq
 have fl:∀i,((wss.take i).flatten).length<=20 * i:=λi=>by
  induction i with
  | zero=>simp
  | succ i ih=>
   rw [ac6]
   cases e:wss[i]? with
   | none=>
    rw [Option.toList_none,ae6];omega
   | some ws=>
    have:=hw ws (ac0 e)
    simp only [Option.toList_some,am5,aa8,List.flatten_singleton];omega
 obtain⟨Pv,hPv⟩:∃Pv:Nat->L2.St->Hp->Prop,Pv=λi Z H'=>∃(q:Addr) (o2:Option V),H q=none/\H' q=some (.lst (((wss.take i).flatten).map V.str))/\Z=[↑t,↑q,o2]/\au H H':=⟨_,rfl⟩;refine aN (λZ H'=>Pv 0 Z H') ?_ ?_
 ·intro u' hu
  tm_at "r";exact⟨(),λq hq=>hu _ _ (by rw [hPv];exact⟨q,none,hq,ae,rfl,aq hq⟩)⟩
 intro Ω ω;intro Z H1 h0;have hI0:=h0;rw [hPv]at hI0;obtain⟨q0,o2,_,_,rfl,s1⟩:=hI0;refine ω _ _ (aN (λZ H'=>Pv xs.length Z H') ?_ ?_)
 ·intro u' hu
  tm_at "r";refine Dl (cI.of (s1 _ _ ht)) (Ao (xs:=xs) Pv h0 (λi Z H' _ z=>by rw [hPv]at z;obtain⟨_,_,_,_,_,z⟩:=z;exact cI.of (z _ _ ht)) ?_ ?_)
  ·intro i v Z H2 hv hI
   rw [hPv]at hI;obtain⟨q,o2,hq0,hq2,rfl,s2⟩:=hI
   have hi:i < wss.length:=by rw [<-hl];exact(aa1.mp hv).1
   have ew:wss[i]?=some wss[i]:=aa2 hi;have fi:=fl i
   have nx:∀(q':Addr) (H':Hp),H q'=none->H' q'=some (.lst (((wss.take i).flatten).map V.str++(wss[i]).map V.str))->au H H'->Pv (i+1) [↑t,↑q',some v] H':=λq' H' h1 h2 h3=>by
    rw [hPv];exact⟨q',some v,h1,by rw [h2,ac6,ew,Option.toList_some,am5,List.flatten_singleton,ab4],rfl,h3⟩
   have it:=(hit i v _ hv ew).same hIn s2;generalize wss[i]=ws at nx it;tm_at "r";rcases it with⟨z,rfl,rfl⟩ | ⟨n,rfl,hn,rfl⟩ | ⟨d,D,rfl,hd,D20,hD,rfl⟩ | ⟨i',ys,z,rfl,hi',hin,rfl⟩
   ·refine⟨_,.str z,false,rfl,?_⟩
    rw [if_neg aa6];refine⟨_,.str z,false,rfl,?_⟩;rw [if_neg aa6];exact⟨.inl ⟨rfl,_,aJ.of hq2⟩,rStr_s.mpr ⟨q,_,_,rfl,rfl,hq2,by rw [aa0];omega,nx q _ hq0 ae (y6 hq0 s2)⟩⟩
   ·refine⟨_,.int n,false,rfl,?_⟩
    rw [if_neg aa6];refine⟨_,.int n,false,rfl,?_⟩;rw [if_neg aa6];exact⟨.inl ⟨rfl,_,aJ.of hq2⟩,rStr_i.mpr ⟨su hn,q,_,_,rfl,rfl,hq2,by rw [aa0];omega,nx q _ hq0 ae (y6 hq0 s2)⟩⟩
   ·refine⟨_,.lst hd,true,rfl,?_⟩
    rw [if_pos rfl];refine bK (aJ.of hd) (tM (aJ.of hd) (λx hx=>?_) (by rw [aa0];omega) λp hp=>?_)
    ·obtain⟨n,hn,rfl⟩:=ac3.mp hx
     exact .inr ⟨n,rfl,hD n hn⟩
    ·have ed:(D.map V.int).map rR=D.map aR:=by rw [ai7];rfl
     rw [ed];have s3:=aq (o:=.lst ((D.map aR).map V.str)) hp;exact g8 (s3 _ _ hq2) ae (by rw [aa0,aa0,aa0];omega) λq' hq'=>nx q' _ ((s2.trans s3).free hq') ae ((s2.trans s3).upd hq')
   ·refine⟨_,.tup hi',false,rfl,?_⟩
    rw [if_neg aa6];refine⟨_,.tup hi',true,rfl,?_⟩;rw [if_pos rfl];exact⟨.inl ⟨rfl,_,aJ.of hq2⟩,i',z,rfl,hin,λH3 s3=>⟨q,_,_,rfl,rfl,s3 _ _ hq2,by rw [aa0];omega,nx q _ hq0 ae (y6 hq0 (s2.trans s3))⟩⟩
  ·intro Z H' hI
   exact hu _ _ hI
 intro Ω ω;intro Z H2 hI;rw [hPv]at hI;obtain⟨q,o2,hq0,hq2,rfl,s2⟩:=hI;rw [hl,ad6]at hq2;refine ω _ _ ?_;tm_at "r";have f9:=fl wss.length;rw [ad6]at f9
 have hsum:=Bn (f:=λy=>y.length) (m:=20000) (l:=wss.flatten) λy hy'=>by
  obtain⟨ws,h1,h2⟩:=List.mem_flatten.mp hy';exact hy ws h1 y h2
 have o1:(Str.ofString " ").length=1:=by decide +kernel
 refine⟨_,aJ.of hq2,?_,k _ s2⟩;rw [o1];omega
def Fm:Addr->Str->Hp->Prop:=λ_ _ _=>False
theorem kL.same(hIn:∀i z H H',au H H'->In i z H->In i z H'):∀i z H H',au H H'->kL In i z H->kL In i z H':=λi z H H' s ⟨xs,wss,h1,h2,h3,h4,h5⟩=>⟨xs,wss,s _ _ h1,h2,h3,λi v ws e1 e2=>(h4 i v ws e1 e2).same hIn s,h5⟩
theorem Cz(e m a k:Str)(ws:List Str):Txt.join (Str.ofString " ") [e,m,a,Txt.join (Str.ofString " ") (k::ws)]=Txt.join (Str.ofString " ") (e::m::a::k::ws):=by
 refine str_iff.mpr ?_;rw [show Str.ofString " "=⟨#[32]⟩by decide +kernel,cP,cP];simp only [ac7,ah1,cP,dv];simp
theorem Ez: ~~~aL bU 2 f fd ["_law_rule_here"] (yU Fm):=by
 refine⟨λ_ _ _ vs H Q E _ h=>?_,λA outer s H args us vs Q E hr he hb hv h=>?_⟩<;>(obtain⟨_,_,_,h,_⟩:=h;exact h.elim)
def AQ:cY->List Int
 | .span o t _=>[o+1,t+1]
 | .clock o t h _=>[o+1,t+1,h]
 | .move o _=>[o+1]
 | .alike o t _=>[o+1,t+1]
 | .back o cN=>[o+1,cN]
 | .held o most=>[o+1,most]
 | .times o nt lw hg=>[o+1,nt,lw,hg]
 | .begin o _=>[o+1]
 | .close o _=>[o+1]
theorem FQ(R:cY):Cm R=.str (aQ R)::(AQ R).map V.int:=by cases R<;>rfl
theorem sD(R:cY):de R=AQ R++(BM R).getD []:=by cases R<;>rfl
theorem EM(R:cY):(AQ R).length<=4:=by cases R<;>exact Nat.le_of_ble_eq_true rfl
theorem FK(h:BO R)(e:BM R=some D):D.length<=12:=by
 have h2:=h.2
 cases R<;>cases e<;>exact h2.2
theorem eu{v:V}(h:jM In H v ws)(t:∀(i:Nat) (v:V) (ws:List Str),xs[i]?=some v->wss[i]?=some ws->jM In H v ws):∀(i:Nat) (v':V) (ws':List Str),(v::xs)[i]?=some v'->(ws::wss)[i]?=some ws'->jM In H v' ws'
 | 0,_,_,e1,e2=>by cases e1;cases e2;exact h
 | i+1,v',ws',e1,e2=>t i v' ws' e1 e2
theorem ow(t:∀(i:Nat) (v:V) (ws:List Str),xs[i]?=some v->wss[i]?=some ws->jM In H v ws):∀ns:List Int,(∀n∈ns,n.natAbs < 10 ^ 40)->∀(i:Nat) (v:V) (ws:List Str),(ns.map V.int++xs)[i]?=some v->(ns.map (λn=>[aR n])++wss)[i]?=some ws->jM In H v ws
 | [],_=>t
 | n::ns,h=>eu (.inr (.inl ⟨n,rfl,h n (.head _),rfl⟩)) (ow t ns λm hm=>h m (.tail _ hm))
theorem FN(ns:List Int):(ns.map (λn=>[aR n])).flatten=ns.map aR:=by
 induction ns with
 | nil=>rfl
 | cons n ns ih=>rw [ac7,ag9,ih];rfl
theorem xF(ok:BO R)(h:eH H t R):kL In t (Txt.join (Str.ofString " ") (aQ R::(de R).map aR)) H:=by
 have hn:=ok.1;have hp:∀n∈AQ R,n.natAbs < 10 ^ 40:=λn h=>hn n (by rw [sD];exact ah7 _ h);have pl:=EM R;have kl:=(gC R).1
 have go:∀(xs:List V) (wss:List (List Str)),H t=some (.tup (Cm R++xs))->xs.length=wss.length->xs.length<=1->(∀(i:Nat) (v:V) (ws:List Str),xs[i]?=some v->wss[i]?=some ws->jM In H v ws)->(∀ws∈wss,∀y∈ws,y.length<=20000)->(∀ws∈wss,ws.length<=20)->wss.flatten=((BM R).getD []).map aR->kL In t (Txt.join (Str.ofString " ") (aQ R::(de R).map aR)) H:=λxs wss h1 h2 h3 h4 h5 h6 h7=>by
  rw [FQ]at h1;refine⟨_,[aQ R]::((AQ R).map (λn=>[aR n])++wss),h1,?_,?_,eu (.inl ⟨_,rfl,rfl⟩) (ow h4 _ hp),λws hws y hy=>?_,λws hws=>?_,?_⟩
  ·simp [h2]
  ·simp;omega
  ·rcases ab2.mp hws with rfl | hws
   ·rw [ab8.mp hy];omega
   ·rcases ac4.mp hws with hws | hws
    ·obtain⟨n,hn',rfl⟩:=ac3.mp hws
     rw [ab8.mp hy]
     have:=dF (hp n hn')
     omega
    ·exact h5 ws hws y hy
  ·rcases ab2.mp hws with rfl | hws
   ·exact(by decide:1<=20)
   ·rcases ac4.mp hws with hws | hws
    ·obtain⟨n,hn',rfl⟩:=ac3.mp hws
     exact(by decide:1<=20)
    ·exact h6 ws hws
  ·rw [ag9,am5,FN,h7,sD,ab4]
   rfl
 unfold eH at h
 cases e:BM R with
 | none=>
  rw [e]at h;exact go [] [] (by rw [ae6];exact h) rfl ∅ (λi v ws e=>nomatch e) (λ_ h=>nomatch h) (λ_ h=>nomatch h) (by rw [e];rfl)
 | some D=>
  rw [e]at h;obtain⟨l,h1,h2⟩:=h;have dl:=FK ok e;have dB:∀n∈D,n.natAbs < 10 ^ 40:=λn h=>hn n (by rw [sD,e];exact ac8 _ h);refine go [.ref l] [D.map aR] h1 rfl (aa9 1) (eu (.inr (.inr (.inl ⟨l,D,rfl,h2,(),dB,rfl⟩))) λi v ws e=>nomatch e) (λws hws y hy=>?_) (λws hws=>?_) (by rw [e];simp)
  ·rw [ab8.mp hws]at hy
   obtain⟨n,hn',rfl⟩:=ac3.mp hy
   have:=dF (dB n hn')
   omega
  ·rw [ab8.mp hws,aa0];omega
theorem A7{R:aH}(ok:uk R)(h:dW H t R):kL (kL Fm) t (dm R) H:=by
 cases R with
 | plain R=>exact xF ok h
 | every m a R=>
  obtain⟨q,h1,h2⟩:=h;obtain⟨okR,m1,a1⟩:=ok;have tl:=(fW (.plain R) okR).1;have b3:=dF m1;have b4:=dF a1
  obtain⟨ys,hys⟩:∃ys,H q=some (.tup ys):=by
   unfold eH at h2
   split at h2
   ·exact⟨_,h2⟩
   ·obtain⟨l,h,_⟩:=h2;exact⟨_,h⟩
  refine⟨_,[["every"],[aR m],[aR a],[Txt.join (Str.ofString " ") (aQ R::(de R).map aR)]],h1,rfl,by simp,eu (.inl ⟨_,rfl,rfl⟩) (eu (.inr (.inl ⟨_,rfl,m1,rfl⟩)) (eu (.inr (.inl ⟨_,rfl,a1,rfl⟩)) (eu (.inr (.inr (.inr ⟨q,_,_,rfl,hys,xF okR h2,rfl⟩))) λi v ws e=>nomatch e))),?_,?_,(Cz "every" (aR m) (aR a) (aQ R) _).symm⟩
  ·intro ws hws y hy
   simp only [ab2,ad2,or_false]at hws;rcases hws with rfl | rfl | rfl | rfl
   ·rw [ab8.mp hy];decide +kernel
   ·rw [ab8.mp hy];omega
   ·rw [ab8.mp hy];omega
   ·rw [ab8.mp hy]
    exact ab6 tl ∅
  ·intro ws hws
   simp only [ab2,ad2,or_false]at hws
   rcases hws with rfl | rfl | rfl | rfl<;>simp
def pS(b:Int×Int):Str:=Str.ofString "voice " ++ aR b.1++Str.ofString " " ++ aR b.2
def ic(bs:List (Int×Int))(Rs:List aH):List Str:=bs.map pS++Rs.map dm
def kA(bs:List (Int×Int))(Rs:List aH):Str:=Txt.join (Str.ofString "\n") (ic bs Rs)
theorem jz(a b:Str):(a++b).length=a.length+b.length:=by
 show(a.cps++b.cps).size=a.cps.size+b.cps.size;exact an3
theorem nN{n:Int}(h:n.natAbs < 10 ^ 40):(aR n).length<=41:=dF h
theorem Fq(z:Str):Str.empty++z=z:=str_iff.mpr (by rw [xX];rfl)
theorem BD(h1:b.1.natAbs < 10 ^ 40)(h2:b.2.natAbs < 10 ^ 40):(pS b).length<=89:=by
 have e1:(Str.ofString "voice ").length=6:=by decide +kernel
 have e2:(Str.ofString " ").length=1:=by decide +kernel
 have:=nN h1
 have:=nN h2
 unfold pS;rw [jz,jz,jz];omega
def xv(K:Frag):Sp:=λvs H Q _=>∃(a q:Addr) (bs:List (Int×Int)) (Rs:List aH),vs=[.ref a,.ref q]/\bP K H a bs/\jN H q Rs/\bs.length<=10/\Rs.length<=30/\(∀b∈bs,b.1.natAbs < 10 ^ 40/\b.2.natAbs < 10 ^ 40)/\(∀R∈Rs,uk R)/\∀H',au H H'->Q (.str (kA bs Rs)) H'
theorem AI(F:b0 K "_law_text" "_law_text" ku f fd)(T:Txt mg aM)(D_law_row: ~~~cB "_law_row" 4 ["_law_rule_here"] (yU (kL (kL Fm)))): ~~~aL bU 5 f fd ["_law_ranges_here","_law_rules_here"] (xv K):=by
 refine F.ok sc_law_text λ_ A _ s H vs Q E hr h=>?_;obtain⟨a,q,bs,Rs,rfl,⟨ts,hts,htl,htc⟩,⟨rs,hrs,hrl,hrc⟩,lb,lr,hb,hR,k⟩:=h
 refine⟨rfl,_,(ag (ib (i:=2) sc_law_text.nd rfl (Or.inl rfl) (own:=["_law_low","_law_high"]) (js:=[]) rfl (bF K (pr 0)) (bB.of ⋯) (λ_ _ _ _ _=>(fT K (n:=2) rfl (bT (bM (i:=0) (show List.Nodup (["_law_low","_law_high"]:List Str)from by decide +kernel) rfl (Or.inl rfl)) (bT (bM (i:=1) (show List.Nodup (["_law_low","_law_high"]:List Str)from by decide +kernel) rfl (Or.inl rfl)) fU)))) (λ_ _ _ _ _=>cn) (λ_ _ _ _ _=>(ar (bL K) (ar (bL K) (ar (bL K) aW (bf (jB) ⋯ T.n_str boot_str (aa (pr 0) ah))) aW) (bf (jB) ⋯ T.n_str boot_str (aa (pr 1) ah)))) rfl)
 (ai (av (bW K PySem.F.plainAttrs_str PySem.F.slot_str_join PySem.F.type_str_join (ue K) aW (aa (ar (bL K) (pr 2) (cX (own:=["_law_rule_here"]) (js:=[]) rfl (bF K (pr 1)) (bB.of ⋯) (λ_ _ _ _ _=>(bM (i:=0) (show List.Nodup (["_law_rule_here"]:List Str)from by decide +kernel) rfl (Or.inl rfl))) (λ_ _ _ _ _=>cn) (λ_ _ _ _ _=>(aA D_law_row hr ⋯ (aa (pr 0) ah))))) ah))))),?_⟩
 have hs:=sizeLine_eq;refine aN (λZ H'=>∃p:Addr,H p=none/\H' p=some (.lst ((bs.map pS).map V.str))/\Z=[↑a,↑q,↑p]/\au H H') ?_ ?_
 ·intro u' hu
  tm_at "r";refine bK hts (bQ (xs:=ts.map V.ref) (λi ys H'=>ys=((bs.take i).map pS).map V.str/\H=H') (by rw [aa0];omega) ⟨rfl,rfl⟩ ?_ ?_ ?_ ?_)
  ·rintro i ys H' ⟨rfl,rfl⟩
   rw [aa0,aa0,ac9];omega
  ·rintro i ys H' ⟨rfl,rfl⟩
   exact hts
  ·rintro i y ys H' hy ⟨rfl,rfl⟩
   rw [aa4]at hy
   cases ht:ts[i]? with
   | none=>rw [ht]at hy;cases hy
   | some t=>
    rw [ht]at hy;cases hy
    have hi:i < bs.length:=by rw [<-htl];exact(aa1.mp ht).1
    have hbi:bs[i]?=some bs[i]:=aa2 hi;tm_at "r";refine⟨_,htc i t _ ht hbi,rfl,?_⟩;tm_at "r";obtain⟨n1,n2⟩:=hb _ (ad5 hi)
    have e1:(Str.ofString "voice ").length=6:=by decide +kernel
    have e2:(Str.ofString " ").length=1:=by decide +kernel
    have:=nN n1
    have:=nN n2
    refine⟨su n1,(),by rw [jz];omega,su n2,by rw [jz,jz];omega,?_⟩;rw [ac6,hbi,ab4,ab4];rfl
  ·rintro ys H' ⟨rfl,rfl⟩ p hp
   rw [aa0,htl,ad6];exact hu _ _ ⟨p,hp,ae,rfl,aq hp⟩
 rintro Ω ω _ H1 ⟨p,hp0,hp1,rfl,s1⟩;have hq1:=aJ.of (K:=K) (s1 _ _ hrs);have hIn2:=kL.same (kL.same (In:=Fm) λ_ _ _ _ _ h=>h);refine ω _ _ ?_;tm_at "r";refine bK hq1 (bQ (xs:=rs.map V.ref) (λi ys H'=>ys=((Rs.take i).map dm).map V.str/\au H1 H') (by rw [aa0];omega) ⟨rfl,au.refl _⟩ ?_ ?_ ?_ ?_)
 ·rintro i ys H' ⟨rfl,_⟩
  rw [aa0,aa0,ac9];omega
 ·rintro i ys H' ⟨rfl,s2⟩
  exact s2.seq hq1
 ·rintro i y ys H' hy ⟨rfl,s2⟩
  rw [aa4]at hy
  cases ht:rs[i]? with
  | none=>rw [ht]at hy;cases hy
  | some t=>
   rw [ht]at hy;cases hy
   have hi:i < Rs.length:=by rw [<-hrl];exact(aa1.mp ht).1
   have hRi:Rs[i]?=some Rs[i]:=aa2 hi;tm_at "r";refine⟨t,_,rfl,A7 (hR _ (ad5 hi)) ((hrc i t _ ht hRi).same (s1.trans s2)),λH3 s3=>⟨?_,s2.trans s3⟩⟩;rw [ac6,hRi,ab4,ab4];rfl
 ·rintro ys H2 ⟨rfl,s2⟩ p2 hp2
  rw [aa0,hrl,ad6];have s3:=aq (o:=.lst ((Rs.map dm).map V.str)) hp2;refine g8 ((s2.trans s3) _ _ hp1) ae (by simp;omega) λq' hq'=>?_;tm_at "r";refine⟨ic bs Rs,aJ.of (by rw [ae];unfold ic;rw [ab4]),?_,k _ (((s1.trans s2).trans s3).upd hq')⟩
  have hl:∀z∈ic bs Rs,z.length<=20000:=λz hz=>by
   rcases ac4.mp hz with hz | hz
   ·obtain⟨b,hb',rfl⟩:=ac3.mp hz
    have:=BD (hb b hb').1 (hb b hb').2
    omega
   ·obtain⟨R,hR',rfl⟩:=ac3.mp hz
    exact ab6 (fW R (hR R hR')).1 ∅
  have h1:=StrLaws.sumLen_le (B:=20000) (ic bs Rs) hl
  have e1:(Str.ofString "\n").length=1:=by decide +kernel
  have l16:(ic bs Rs).length<=40:=by
   unfold ic;rw [aa8,aa0,aa0];omega
  rw [e1]
  have:=al6 20000 l16
  omega
theorem Fs{c:Addr}{o:Int}(h:cI K H c (us.map V.int))(h0:0<=o)(h1:o < us.length)(q:Q (.int (aE us (o+1))) H):nk K (.ref c) (.int (o+1 - 1)) H Q:=by
 rw [show o+1 - 1=o by omega];exact dw h (Ax h0 h1) q
theorem oz(h:gF K H l nv cols)(hi:i < cols.length)(q:∀p,cI K H p ((cols.getD i []).map V.int)->(cols.getD i []).length=nv->Q (.ref p) H):nk K (.ref l) (.int (i:Int)) H Q:=by
 obtain⟨ps,h1,h2,h3⟩:=h;have e1:ps[i]?=some (ps[i]'()):=aa2 ()
 have e2:cols[i]?=some (cols.getD i []):=by rw [ab5,aa2 hi];rfl
 exact bq h1 (aK (by rw [aa4,e1];rfl)) (q _ (h3 i _ _ e1 e2).1 (h3 i _ _ e1 e2).2)
def xg:cY->Prop
 | .span _ _ _=>True
 | .clock _ _ _ _=>True
 | .alike _ _ _=>True
 | _=>False
def xq(K:Frag):Sp:=λvs H Q _=>∃(p c:Addr) (xs:List V) (o t:Int) (us:List Int),vs=[.ref p,.ref c]/\H p=some (.tup xs)/\xs[1]?=⇑(o+1)/\xs[2]?=⇑(t+1)/\cI K H c (us.map V.int)/\0<=o/\o < us.length/\0<=t/\t < us.length/\Q (.int (aE us (t+1) - aE us (o+1))) H
def Gp(K:Frag):Sp:=λvs H Q _=>∃(p l:Addr) (k nv:Nat) (cols:List (List Int)) (R:cY),vs=[.ref p,.ref l,.int k]/\eH H p R/\xg R/\mT nv R/\gF K H l nv cols/\k < cols.length/\Q (.bl (gs cols k R)) H
theorem AF(F:b0 K "_law_span" "_law_span" kr f fd)(T:Txt mg aM): ~~~aL bU 1 f fd ["_law_rule_here","_law_column"] (xq K):=by
 refine F.ok uQ λ_ A _ s H vs Q E hr h=>?_;obtain⟨p,c,xs,o,t,us,rfl,hp,h1,h2,hc,p0,p1,t0,t1,k⟩:=h;refine⟨rfl,_,(ai (av (ar (o0 bD) (aw (aC K) (pr 1) (ar (o0 bD) (aw (aC K) (pr 0) af (λ_ _=>rfl)) af) (λ_ _=>rfl)) (aw (aC K) (pr 1) (ar (o0 bD) (aw (aC K) (pr 0) af (λ_ _=>rfl)) af) (λ_ _=>rfl))))),?_⟩;tm_at "r";refine dw (cI.of hp) (show fR _ ((2:Nat):Int)=_ from aK h2) ?_;tm_at "r";refine Fs hc t0 t1 (dw (cI.of hp) (show fR _ ((1:Nat):Int)=_ from aK h1) ?_);tm_at "r";refine Fs hc p0 p1 ?_;tm_at "r";exact k
theorem oR(F:b0 K "_law_pair_broken" "_law_pair_broken" eN f fd)(T:Txt mg aM)(D_law_span: ~~~cB "_law_span" 1 ["_law_rule_here","_law_column"] (xq K)): ~~~aL bU 2 f fd ["_law_rule_here","_law_line_here","_law_k"] (Gp K):=by
 refine F.ok sc_law_pair_broken λ_ A _ s H vs Q E hr h=>?_;obtain⟨p,l,k,nv,cols,R,rfl,hp,hpr,hg,hl,hk,q⟩:=h
 refine⟨rfl,_,(ag (cU (i:=3) sc_law_pair_broken.nd (aA D_law_span hr ⋯ (aa (pr 0) (aa (aw (aC K) (pr 1) (pr 2) (λ_ _=>rfl)) ah))))
 (ag (aP (ba (ay gJ (aw (aC K) (pr 0) af (λ_ _=>rfl)) aW (az _))) (ai (av (bc (eK K) (pr 3) (aw (aC K) (pr 0) af (λ_ _=>rfl)) (by with_unfolding_all rfl)))) aB)
 (ag (aP (ba (ay gJ (aw (aC K) (pr 0) af (λ_ _=>rfl)) aW (az _))) (ai (av (bc (eK K) (ar (o1 aU) (pr 3) (aw (aC K) (pr 0) af (λ_ _=>rfl))) (aw (aC K) (pr 0) af (λ_ _=>rfl)) (by with_unfolding_all rfl)))) aB)
 (ag (aP (PW.pt (da (ba (ay gJ (pr 2) af (az _))) (cR (ba (ay gJ (aw (aC K) (aw (aC K) (pr 1) (pr 2) (λ_ _=>rfl)) (ar (o0 bD) (aw (aC K) (pr 0) af (λ_ _=>rfl)) af) (λ_ _=>rfl)) (aw (aC K) (aw (aC K) (pr 1) (ar (o0 bD) (pr 2) af) (λ_ _=>rfl)) (ar (o0 bD) (aw (aC K) (pr 0) af (λ_ _=>rfl)) af) (λ_ _=>rfl)) (az _)))))) (ai (av lA)) aB)
 (ai (av (jb (gj (bc (lu K) (pr 3) (aw (aC K) (pr 0) af (λ_ _=>rfl)) (by with_unfolding_all rfl)) (fG (bc gJ (aA D_law_span hr ⋯ (aa (pr 0) (aa (aw (aC K) (pr 1) (ar (o0 bD) (pr 2) af) (λ_ _=>rfl)) ah))) (pr 3) (az _))))))))))),?_⟩
 obtain⟨o,t,xs,z,D,d,hx,x0,x1,x2,hD,p0,p1,t0,t1,hR⟩:∃(o t:Int) (xs:List V) (z:Str) (D:List Int) (d:Addr),H p=some (.tup xs)/\xs[0]?=some (.str z)/\xs[1]?=⇑(o+1)/\xs[2]?=⇑(t+1)/\H d=some (.lst (D.map V.int))/\0<=o/\o < nv/\0<=t/\t < nv/\((R=.span o t D/\z=Str.ofString "span"/\xs[3]?=↑d)\/(∃h,R=.clock o t h D/\z=Str.ofString "clock"/\1<=h/\xs[3]?=⇑h/\xs[4]?=↑d)\/(R=.alike o t D/\z=Str.ofString "alike"/\xs[3]?=↑d)):=by
  cases R with
  | span o t D=>obtain⟨d,h1,h2⟩:=hp;exact⟨o,t,_,_,D,d,h1,rfl,rfl,rfl,h2,hg.1,hg.2.1,hg.2.2.1,hg.2.2.2,.inl ⟨rfl,rfl,rfl⟩⟩
  | clock o t h D=>obtain⟨d,h1,h2⟩:=hp;exact⟨o,t,_,_,D,d,h1,rfl,rfl,rfl,h2,hg.1,hg.2.1,hg.2.2.1,hg.2.2.2.1,.inr (.inl ⟨h,rfl,rfl,hg.2.2.2.2,rfl,rfl⟩)⟩
  | alike o t D=>obtain⟨d,h1,h2⟩:=hp;exact⟨o,t,_,_,D,d,h1,rfl,rfl,rfl,h2,hg.1,hg.2.1,hg.2.2.1,hg.2.2.2,.inr (.inr ⟨rfl,rfl,rfl⟩)⟩
  | _=>exact hpr.elim
 have ix:∀{j:Nat} {x:V} {Q':VK},xs[j]?=some x->Q' x H->nk K (.ref p) (.int (j:Int)) H Q':=λe q=>dw (cI.of hx) (aK e) q;refine aN (λZ H'=>Z=[↑p,↑l,⇑k,⇑(dI t cols k - dI o cols k)]/\H=H') ?_ ?_
 ·intro u' hu
  tm_at "r";exact oz hl hk λc hc cl=>⟨p,c,xs,o,t,_,rfl,hx,x1,x2,hc,p0,(),t0,(),hu _ _ ⟨rfl,rfl⟩⟩
 rintro Ω ω _ _ ⟨rfl,rfl⟩;refine ω _ _ (aN (λZ H'=>z≠Str.ofString "span"/\Z=[↑p,↑l,⇑k,⇑(dI t cols k - dI o cols k)]/\H=H') ?_ ?_)
 ·intro u' hu
  refine cf λA0 B0 hA hB=>?_;tm_at "r";refine ix (j:=0) x0 ?_;tm_at "r"
  by_cases e:z=Str.ofString "span"
  ·rw [if_pos e]
   refine hA _ ?_;tm_at "r";rcases hR with⟨rfl,_,h3⟩ | ⟨h,_,ez,_⟩ | ⟨_,ez,_⟩
   ·exact ix (j:=3) h3 (eD (aJ.of hD) q)
   ·exact absurd (e.symm.trans ez) (by decide +kernel)
   ·exact absurd (e.symm.trans ez) (by decide +kernel)
  ·rw [if_neg e]
   exact hB _ (hu _ _ ⟨e,rfl,rfl⟩)
 rintro Ω ω _ _ ⟨n1,rfl,rfl⟩;refine ω _ _ (aN (λZ H'=>z≠Str.ofString "clock"/\Z=[↑p,↑l,⇑k,⇑(dI t cols k - dI o cols k)]/\H=H') ?_ ?_)
 ·intro u' hu
  refine cf λA0 B0 hA hB=>?_;tm_at "r";refine ix (j:=0) x0 ?_;tm_at "r"
  by_cases e:z=Str.ofString "clock"
  ·rw [if_pos e]
   refine hA _ ?_;tm_at "r";rcases hR with⟨_,ez,_⟩ | ⟨h,rfl,_,h1,h3,h4⟩ | ⟨_,ez,_⟩
   ·exact absurd (e.symm.trans ez) (by decide +kernel)
   ·exact ix (j:=3) h3 ⟨h,rfl,(),ix (j:=4) h4 (eD (aJ.of hD) q)⟩
   ·exact absurd (e.symm.trans ez) (by decide +kernel)
  ·rw [if_neg e]
   exact hB _ (hu _ _ ⟨e,rfl,rfl⟩)
 rintro Ω ω _ _ ⟨n2,rfl,rfl⟩
 obtain⟨rfl,h3⟩:R=.alike o t D/\xs[3]?=↑d:=by
  rcases hR with⟨_,ez,_⟩ | ⟨_,_,ez,_⟩ | ⟨e,_,h3⟩
  ·exact absurd ez n1
  ·exact absurd ez n2
  ·exact⟨e,h3⟩
 refine ω _ _ ?_;refine iL λRk rk=>?_;tm_at "r"
 by_cases k0:k=0
 ·subst k0
  rw [if_pos (show((0:Nat):Int)=0 from rfl)];exact q
 obtain⟨m,rfl⟩:∃m,k=m+1:=⟨k - 1,()⟩;rw [if_neg ()];refine oz hl hk λc hc cl=>ix (j:=1) x1 ⟨_,rfl,Fs hc p0 () ?_⟩;rw [show((m+1:Nat):Int) - 1=(m:Nat)by omega];refine oz hl () λc2 hc2 cl2=>ix (j:=1) x1 ⟨_,rfl,Fs hc2 p0 () ?_⟩;tm_at "r"
 by_cases e:aE (cols.getD (m+1) []) (o+1)=aE (cols.getD m []) (o+1)
 ·rw [if_pos e]
  have hb:gs cols (m+1) (.alike o t D)=false:=by
   have:fS o cols (m+1)=0:=by show aE _ _ - aE (cols.getD m []) _=0;omega
   simp [gs,this]
  rw [hb]at q;exact q
 rw [if_neg e];refine rk _ _ ?_;tm_at "r"
 have nm:fS o cols (m+1)≠0:=by show aE _ _ - aE (cols.getD m []) _≠0;omega
 refine ix (j:=3) h3 (gk (aJ.of hD) ⟨_,rfl,?_⟩)
 by_cases e2:dI t cols (m+1) - dI o cols (m+1)∈D
 ·rw [if_pos (decide_eq_true e2)]
  rw [show((m+1:Nat):Int) - 1=(m:Nat)by omega];refine oz hl () λc hc cl=>⟨p,c,xs,o,t,_,rfl,hx,x1,x2,hc,p0,(),t0,(),?_⟩
  have hb:gs cols (m+1) (.alike o t D)=decide (aE (cols.getD m []) (t+1) - aE (cols.getD m []) (o+1)=dI t cols (m+1) - dI o cols (m+1)):=by
   have e3:(dI t cols (m+1) - dI o cols (m+1)=dI t cols m - dI o cols m)=(dI t cols m - dI o cols m=dI t cols (m+1) - dI o cols (m+1)):=propext ⟨Eq.symm,Eq.symm⟩;simp only [gs,ak5,e3,decide_eq_true e2,decide_eq_true nm,ne_eq,Nat.add_eq_zero_iff,Nat.one_ne_zero,and_false,not_false_eq_true,decide_true,ai2,Bool.and_true];rfl
  rw [hb]at q;tm_at "r";exact q
 ·rw [if_neg (by rw [decide_eq_false e2];exact aa6)]
  have hb:gs cols (m+1) (.alike o t D)=false:=by simp [gs,e2]
  rw [hb]at q;exact q
theorem oh(z:Str):∀ws:List Str,zV (.str z) (ws.map V.str)=decide (z∈ws)
 | []=>rfl
 | d::D=>by
  have ih:=oh z D
  have e:zV (.str z) ((d::D).map V.str)=((d == z) || zV (.str z) (D.map V.str)):=rfl
  rw [e,ih,af5,ak2,beq_iff_eq,decide_eq_true_eq,decide_eq_true_eq,ab2];exact⟨λh=>h.imp Eq.symm id,λh=>h.imp Eq.symm id⟩
theorem yM{z:Str}(h:aJ K H a (ws.map V.str))(q:Q (.bl (decide (z∈ws))) H):vN K (.str z) (.ref a) H Q:=by
 refine .inr ⟨a,_,rfl,.inl h,rfl,?_,?_⟩
 ·rw [ah8];exact af7.mpr λ_ _=>rfl
 ·rw [oh];exact q
theorem sY{z:Str}(h:aJ K H a (ws.map V.str))(q:Q (.bl (!decide (z∈ws))) H):jJ K (.str z) (.ref a) H Q:=by
 refine .inr ⟨a,_,rfl,.inl h,rfl,?_,?_⟩
 ·rw [ah8];exact af7.mpr λ_ _=>rfl
 ·rw [oh];exact q
def gu:aH->Str
 | .plain R=>aQ R
 | .every _ _ _=>"every"
theorem dW.kd{R:aH}(h:dW H p R):∃xs:List V,H p=some (.tup xs)/\xs[0]?=some (.str (gu R)):=by
 cases R with
 | every m a R=>obtain⟨q,h1,_⟩:=h;exact⟨_,h1,rfl⟩
 | plain R=>
  unfold dW eH at h
  cases R<;>first | exact⟨_,h,rfl⟩ | (obtain⟨l,h1,_⟩:=h;exact⟨_,h1,rfl⟩)
def pairs3:List Str:=[Str.ofString "span",Str.ofString "clock",Str.ofString "alike"]
theorem uy(R:aH):gu R∈pairs3↔∃R',R=.plain R'/\xg R':=by
 cases R with
 | every m a R=>exact⟨λh=>absurd h (show Str.ofString "every"∉pairs3 by decide +kernel),λ⟨_,e,_⟩=>by cases e⟩
 | plain R=>
  cases R with
  | span o t D=>exact⟨λ_=>⟨_,rfl,trivial⟩,λ_=>show Str.ofString "span"∈pairs3 by decide +kernel⟩
  | clock o t h D=>exact⟨λ_=>⟨_,rfl,trivial⟩,λ_=>show Str.ofString "clock"∈pairs3 by decide +kernel⟩
  | alike o t D=>exact⟨λ_=>⟨_,rfl,trivial⟩,λ_=>show Str.ofString "alike"∈pairs3 by decide +kernel⟩
  | move o D=>exact⟨λh=>absurd h (show Str.ofString "move"∉pairs3 by decide +kernel),λ⟨_,e,h⟩=>by cases e;exact h.elim⟩
  | back o D=>exact⟨λh=>absurd h (show Str.ofString "back"∉pairs3 by decide +kernel),λ⟨_,e,h⟩=>by cases e;exact h.elim⟩
  | held o D=>exact⟨λh=>absurd h (show Str.ofString "held"∉pairs3 by decide +kernel),λ⟨_,e,h⟩=>by cases e;exact h.elim⟩
  | times o n l D=>exact⟨λh=>absurd h (show Str.ofString "times"∉pairs3 by decide +kernel),λ⟨_,e,h⟩=>by cases e;exact h.elim⟩
  | begin o D=>exact⟨λh=>absurd h (show Str.ofString "begin"∉pairs3 by decide +kernel),λ⟨_,e,h⟩=>by cases e;exact h.elim⟩
  | close o D=>exact⟨λh=>absurd h (show Str.ofString "close"∉pairs3 by decide +kernel),λ⟨_,e,h⟩=>by cases e;exact h.elim⟩
theorem zY(h:zW R):xg R:=by
 cases R<;>first | exact trivial | exact h.elim
def vo:cY->Int
 | .span o _ _=>o
 | .clock o _ _ _=>o
 | .move o _=>o
 | .alike o _ _=>o
 | .back o _=>o
 | .held o _=>o
 | .times o _ _ _=>o
 | .begin o _=>o
 | .close o _=>o
def cD(o:Int)(cols:List (List Int))(k:Nat):List Int:=(List.range k).map (dI o cols)
theorem tj(o:Int)(cols:List (List Int)):∀(i m:Nat),m<=ml o cols i↔m<=i/\∀k,1<=k->k<=m->dI o cols (i - k)=dI o cols i
 | 0,m=>by
  show m<=0↔_
  constructor
  ·intro h;exact⟨h,λk h1 h2=>by omega⟩
  ·exact λh=>h.1
 | i+1,m=>by
  have ih:=tj o cols i (m - 1);show m<=(if dI o cols i=dI o cols (i+1)then ml o cols i+1 else 0)↔_
  by_cases h0:m=0
  ·subst h0
   exact⟨λ_=>⟨(),λk h1 h2=>by omega⟩,λ_=>by omega⟩
  by_cases he:dI o cols i=dI o cols (i+1)
  ·rw [if_pos he]
   constructor
   ·intro h
    obtain⟨h1,h2⟩:=ih.mp ();refine⟨(),λk k1 k2=>?_⟩
    by_cases hk:k=1
    ·subst hk;exact he
    ·have:=h2 (k - 1) () ()
     rw [show i - (k - 1)=i+1 - k by omega]at this;rw [this,he]
   ·rintro⟨h1,h2⟩
    have:=ih.mpr ⟨(),λk k1 k2=>by
     have:=h2 (k+1) () ()
     rw [show i+1 - (k+1)=i - k by omega]at this
     rw [this,he]⟩
    omega
  ·rw [if_neg he]
   constructor
   ·intro h;omega
   ·rintro⟨h1,h2⟩
    exact absurd (h2 1 () ()) he
theorem md(o nt:Int)(cols:List (List Int)):∀k,k<=cols.length->(cD o cols k).countP (λn=>n == nt)=iU o nt cols k
 | 0,_=>rfl
 | k+1,h=>by
  have e2:cols[k]?=some (cols[k]'()):=aa2 ();have ih:=md o nt cols k ();rw [nV o nt cols k _ e2,<-ih];unfold cD;rw [am0,ab4,List.countP_append];congr 1;rw [ac7,ah1,ao1,List.countP_nil,dZ e2];unfold tU
  by_cases hh:aE (cols[k]'()) (o+1)=nt
  ·rw [hh];simp
  ·simp [hh]
theorem hZ(R:cY):(aQ R=Str.ofString "move"->∃o D,R=.move o D)/\(aQ R=Str.ofString "back"->∃o f,R=.back o f)/\(aQ R=Str.ofString "held"->∃o f,R=.held o f)/\(aQ R=Str.ofString "times"->∃o n l h,R=.times o n l h)/\(aQ R=Str.ofString "begin"->∃o D,R=.begin o D):=by
 cases R<;>simp only [aQ]<;>refine⟨λh=>?_,λh=>?_,λh=>?_,λh=>?_,λh=>?_⟩<;>first | exact⟨_,_,rfl⟩ | exact⟨_,_,_,_,rfl⟩ | exact absurd h (by decide +kernel)
theorem qT{xs:List α}{v:α}(hl:xs.length=n+2)(h:xs[n]?=some v):fR xs (-2)=some v:=by
 unfold fR BN;rw [if_neg ∅,if_pos (),hl];show xs[((-2:Int)+((n+2:Nat):Int)).toNat]?=some v;rw [show((-2:Int)+((n+2:Nat):Int)).toNat=n by omega];exact h
theorem zQ{o:Int}{k mm:Nat}(h:mm<=k):gs cols k (.held o mm)=decide ((jr ((cD o cols (k+1)).drop (k - mm)):Int)=1):=by
 have me:∀y,y∈(cD o cols (k+1)).drop (k - mm)↔∃j,j<=mm/\dI o cols (k - j)=y:=λy=>by
  constructor
  ·intro hy
   obtain⟨i,hi⟩:=aj2.mp hy;rw [af1]at hi;unfold cD at hi;have hl:=(aa1.mp hi).1;rw [aa0,List.length_range]at hl;rw [aa4,ae3 hl]at hi;exact⟨mm - i,(),by rw [show k - (mm - i)=k - mm+i by omega];exact Option.some.inj hi⟩
  ·rintro⟨j,hj,rfl⟩
   refine aj2.mpr ⟨mm - j,?_⟩;rw [af1];unfold cD;rw [aa4,ae3 (),show k - mm+(mm - j)=k - j by omega];rfl
 have hx:=(me (dI o cols k)).mpr ⟨0,ac2 _,rfl⟩;have h1:=v5 hx;have h2:=tj o cols k mm;refine decide_eq_decide.mpr ?_;rw [ak6,h2,show((jr ((cD o cols (k+1)).drop (k - mm)):Int)=1)↔jr ((cD o cols (k+1)).drop (k - mm))=1 by omega,h1]
 constructor
 ·rintro⟨_,g⟩ y hy
  obtain⟨j,hj,rfl⟩:=(me y).mp hy
  by_cases j0:j=0
  ·rw [j0,Nat.sub_zero]
  ·exact g j () hj
 ·intro g
  exact⟨h,λj _ j2=>g _ ((me _).mpr ⟨j,j2,rfl⟩)⟩
def uT:Sp:=λvs H Q _=>∃f s m:Int,vs=[.int f,.int s,.int m]/\0<=m/\Q (.bl (decide (f > m/\s>=0) || decide (f < 0 - m/\s<=0))) H
def jt(K:Frag):Sp:=λvs H Q _=>∃(p l:Addr) (k nv:Nat) (cols:List (List Int)) (R:aH),vs=[.ref p,.ref l,.int k]/\dW H p R/\cv nv R/\gF K H l nv cols/\k < cols.length/\cols.length<=100/\∀H',au H H'->Q (.bl (iT cols k R)) H'
theorem yG(F:b0 K "_law_turned_ill" "_law_turned_ill" fg f fd)(T:Txt mg aM): ~~~aL bU 1 f fd ["_law_first","_law_second","_law_most"] uT:=by
 refine F.ok lK λ_ A _ s H vs Q E hr h=>?_;obtain⟨a,b,m,rfl,m0,q⟩:=h
 refine⟨rfl,_,(ag (aP (ba (ay (o0 i7) (pr 0) (pr 2) (az _))) (ai (av (bc (o0 xc) (pr 1) af (az _)))) aB)
 (ai (av (jb (gj (bc (o0 j6) (pr 0) (ar (o0 bD) af (pr 2)) (az _)) (fG (bc (o0 i8) (pr 1) af (az _)))))))),?_⟩
 tm_at "r"
 by_cases h:m < a
 ·rw [if_pos h]
  rw [show decide (a < 0 - m/\b<=0)=false from decide_eq_false (λz=>by omega),Bool.or_false]at q;rw [show(decide (a > m/\b>=0))=decide (0<=b)from decide_eq_decide.mpr ⟨λz=>z.2,λz=>⟨h,z⟩⟩]at q;exact q
 ·rw [if_neg h]
  rw [show decide (a > m/\b>=0)=false from decide_eq_false (λz=>h z.1),Bool.false_or]at q
  by_cases h2:a < 0 - m
  ·rw [if_pos h2]
   rw [show(decide (a < 0 - m/\b<=0))=decide (b<=0)from decide_eq_decide.mpr ⟨λz=>z.2,λz=>⟨h2,z⟩⟩]at q;exact q
  ·rw [if_neg h2]
   rw [show(decide (a < 0 - m/\b<=0))=false from decide_eq_false (λz=>h2 z.1)]at q;exact q
theorem yC(F:b0 K "_law_broken" "_law_broken" iA f fd)(T:Txt mg aM)(D_law_pair_broken: ~~~cB "_law_pair_broken" 2 ["_law_rule_here","_law_line_here","_law_k"] (Gp K))(D_law_turned_ill: ~~~cB "_law_turned_ill" 2 ["_law_first","_law_second","_law_most"] uT): ~~~aL bU 3 f fd ["_law_rule_here","_law_line_here","_law_k"] (jt K):=by
 refine F.ok sc_law_broken λ_ A _ s H vs Q E hr h=>?_;obtain⟨p,l,k,nv,cols,R,rfl,hp,hg,hl,hk,hk1,q⟩:=h
 refine⟨rfl,_,(ag (aP (ba (ay (lu K) (aw (aC K) (pr 0) af (λ_ _=>rfl)) (bN (aa aW (aa aW (aa aW ah)))) (by with_unfolding_all rfl))) (ai (av (aA D_law_pair_broken hr ⋯ (aa (pr 0) (aa (pr 1) (aa (pr 2) ah)))))) aB)
 (ag (aP (ba (ay gJ (aw (aC K) (pr 0) af (λ_ _=>rfl)) aW (az _))) (ai (av (jb (gj (bc gJ (ar (o1 aU) (pr 2) (aw (aC K) (pr 0) af (λ_ _=>rfl))) (aw (aC K) (pr 0) af (λ_ _=>rfl)) (az _)) (fG (aA D_law_pair_broken hr ⋯ (aa (aw (aC K) (pr 0) af (λ_ _=>rfl)) (aa (pr 1) (aa (pr 2) ah))))))))) aB)
 (ag (sX (i:=3) sc_law_broken.nd rfl (Or.inr rfl) (cX (own:=["_law_column"]) (js:=[0]) rfl (bF K (bt (fB K) (pr 1) bJ (fw (ar (bL K) (pr 2) af)))) (bB.of ⋯) (λ_ _ _ _ _=>(bM (i:=0) (show List.Nodup (["_law_column","_law_rule_here"]:List Str)from by decide +kernel) rfl (Or.inl rfl))) (λ_ _ _ _ _=>cn) (λ_ _ _ _ _=>(aw (aC K) (pr 0) (ar (o0 bD) (aw (aC K) (pr 1) af (λ_ _=>rfl)) af) (λ_ _=>rfl)))))
 (ag (ib (i:=4) sc_law_broken.nd rfl (Or.inl rfl) (own:=["_law_j"]) (js:=[3]) rfl (c9 rfl T.n_range (aa (pr 2) ah)) (bB.of ⋯) (λ_ _ _ _ _=>(bM (i:=0) (show List.Nodup (["_law_j","_law_notes"]:List Str)from by decide +kernel) rfl (Or.inl rfl))) (λ_ _ _ _ _=>cn) (λ_ _ _ _ _=>(ar (o0 bD) (aw (aC K) (pr 1) (ar (bL K) (pr 0) af) (λ_ _=>rfl)) (aw (aC K) (pr 1) (pr 0) (λ_ _=>rfl)))) rfl)
 (ag (aP (ba (ay gJ (aw (aC K) (pr 0) af (λ_ _=>rfl)) aW (az _))) (ai (av (jb (gj (bc (o0 i7) (pr 2) af (az _)) (fG (bc (eK K) (aw (aC K) (pr 4) (lB (u1 iE) af) (λ_ _=>rfl)) (aw (aC K) (pr 0) af (λ_ _=>rfl)) (by with_unfolding_all rfl))))))) aB)
 (ag (aP (ba (ay gJ (aw (aC K) (pr 0) af (λ_ _=>rfl)) aW (az _))) (ai (av (jb (gj (bc (o0 i7) (pr 2) af (az _)) (fG (aA D_law_turned_ill hr ⋯ (aa (aw (aC K) (pr 4) (lB (u1 iE) af) (λ_ _=>rfl)) (aa (aw (aC K) (pr 4) (lB (u1 iE) af) (λ_ _=>rfl)) (aa (aw (aC K) (pr 0) af (λ_ _=>rfl)) ah))))))))) aB)
 (ag (aP (ba (ay gJ (aw (aC K) (pr 0) af (λ_ _=>rfl)) aW (az _))) (ai (av (jb (gj (bc (o0 xc) (pr 2) (aw (aC K) (pr 0) af (λ_ _=>rfl)) (az _)) (fG (bc gJ (yJ K rfl ⋯ T.n_len ⋯ T.n_set (aa (bt (fB K) (pr 3) (fw (ar (o0 bD) (pr 2) (aw (aC K) (pr 0) af (λ_ _=>rfl)))) bJ) ah)) af (az _))))))) aB)
 (ag (aP (ba (ay gJ (aw (aC K) (pr 0) af (λ_ _=>rfl)) aW (az _))) (ai (av (jb (gj (bc gJ (aw (aC K) (pr 3) (pr 2) (λ_ _=>rfl)) (aw (aC K) (pr 0) af (λ_ _=>rfl)) (az _)) (fG (bc (o0 i7) (bW K PySem.F.plainAttrs_list PySem.F.slot_list_count PySem.F.type_list_count ud (pr 3) (aa (aw (aC K) (pr 0) af (λ_ _=>rfl)) ah)) (aw (aC K) (pr 0) af (λ_ _=>rfl)) (az _))))))) aB)
 (ai (av (jb (gj (bc gJ (aw (aC K) (pr 0) af (λ_ _=>rfl)) aW (az _)) (jb (gj (bc gJ (pr 2) af (az _)) (fG (bc (eK K) (aw (aC K) (pr 3) af (λ_ _=>rfl)) (aw (aC K) (pr 0) af (λ_ _=>rfl)) (by with_unfolding_all rfl))))))))))))))))),?_⟩
 have hs:=sizeLine_eq;have q0:=q H (au.refl H);obtain⟨xs,hx,x0⟩:=hp.kd;have ix:∀{j:Nat} {x:V} {Q':VK},xs[j]?=some x->Q' x H->nk K (.ref p) (.int (j:Int)) H Q':=λe q=>dw (cI.of hx) (aK e) q;refine aN (λZ H'=>gu R∉pairs3/\Z=[↑p,↑l,⇑k,none,none]/\au H H') ?_ ?_
 ·intro u' hu
  refine cf λA0 B0 hA hB=>?_;tm_at "r";refine ix (j:=0) x0 ?_;tm_at "r";refine⟨(),λp1 hp1=>yM (ws:=pairs3) (aJ.of ae) ⟨_,rfl,?_⟩⟩;have s1:=aq (o:=.lst (pairs3.map V.str)) hp1
  by_cases h:gu R∈pairs3
  ·rw [if_pos (decide_eq_true h)]
   obtain⟨R',rfl,hpr⟩:=(uy R).mp h;refine hA _ ?_;tm_at "r";exact⟨p,l,k,nv,cols,R',rfl,eH.same hp s1,hpr,hg,hl.same s1,hk,q _ s1⟩
  ·rw [if_neg (by rw [decide_eq_false h];exact aa6)]
   exact hB _ (hu _ _ ⟨h,rfl,s1⟩)
 rintro Ω ω _ H1 ⟨np,rfl,s1⟩;replace hp:=hp.same s1;replace hl:=hl.same s1;replace q:∀H',au H1 H'->Q (.bl (iT cols k R)) H':=λH' s=>q H' (s1.trans s);have hx1:=s1 _ _ hx;clear ix hx q0;have ix:∀{j:Nat} {x:V} {Q':VK},xs[j]?=some x->Q' x H1->nk K (.ref p) (.int (j:Int)) H1 Q':=λe q=>dw (cI.of hx1) (aK e) q;refine ω _ _ (aN (λZ H'=>(∃R',R=.plain R'/\¬xg R')/\Z=[↑p,↑l,⇑k,none,none]/\H1=H') ?_ ?_)
 ·intro u' hu
  refine cf λA0 B0 hA hB=>?_;tm_at "r";refine ix (j:=0) x0 ?_;tm_at "r"
  cases R with
  | every m a R0=>
   rw [if_pos (show gu (.every m a R0)=Str.ofString "every" from rfl)];obtain⟨q1,e1,h2⟩:=hp;rw [hx1]at e1;cases e1;refine hA _ ?_;tm_at "r";obtain⟨g1,g2,g3,_,_⟩:=hg;refine ix (j:=1) rfl ⟨m,rfl,(),ix (j:=2) rfl ?_⟩;tm_at "r";have q1':=q H1 (au.refl _)
   by_cases e:(k:Int) % m=a
   ·rw [if_pos e]
    rw [show iT cols k (.every m a R0)=gs cols k R0 by simp [iT,e]]at q1';exact ix (j:=3) rfl ⟨q1,l,k,nv,cols,R0,rfl,h2,zY g2,g1,hl,hk,q1'⟩
   ·rw [if_neg e]
    rw [show iT cols k (.every m a R0)=false by simp [iT,e]]at q1';exact q1'
  | plain R'=>
   rw [if_neg ?_]
   ·exact hB _ (hu _ _ ⟨⟨R',rfl,λz=>np ((uy _).mpr ⟨R',rfl,z⟩)⟩,rfl,rfl⟩)
   ·exact λe=>(gC R').2.2.2 (by rw [show aQ R'=Str.ofString "every" from e];decide +kernel)
 rintro Ω ω _ _ ⟨⟨R',rfl,npr⟩,rfl,rfl⟩
 obtain⟨o,p0,p1,x1,hv⟩:∃o:Int,0<=o/\o < nv/\xs[1]?=⇑(o+1)/\vo R'=o:=by
  have hp':eH H1 p R':=hp;unfold eH at hp'
  cases R' with
  | span _ _ _=>exact(npr trivial).elim
  | clock _ _ _ _=>exact(npr trivial).elim
  | alike _ _ _=>exact(npr trivial).elim
  | move o D=>obtain⟨d,e,_⟩:=hp';rw [hx1]at e;cases e;exact⟨o,hg.1,hg.2,rfl,rfl⟩
  | begin o D=>obtain⟨d,e,_⟩:=hp';rw [hx1]at e;cases e;exact⟨o,hg.1,hg.2,rfl,rfl⟩
  | close o D=>obtain⟨d,e,_⟩:=hp';rw [hx1]at e;cases e;exact⟨o,hg.1,hg.2,rfl,rfl⟩
  | back o f=>have e:=hp';rw [hx1]at e;cases e;exact⟨o,hg.1,hg.2.1,rfl,rfl⟩
  | held o f=>have e:=hp';rw [hx1]at e;cases e;exact⟨o,hg.1,hg.2.1,rfl,rfl⟩
  | times o n lw hi=>have e:=hp';rw [hx1]at e;cases e;exact⟨o,hg.1,hg.2.1,rfl,rfl⟩
 refine ω _ _ (aN (λZ H'=>∃n:Addr,H' n=some (.lst ((cD o cols (k+1)).map V.int))/\Z=[↑p,↑l,⇑k,↑n,none]/\au H1 H') ?_ ?_)
 ·intro u' hu
  tm_at "r";obtain⟨ps,hps,hpl,hpc⟩:=id hl;refine cG hps λc hc=>?_;rw [show(some ((k:Int)+1))=some ((k+1:Nat):Int)from rfl,fq,<-List.map_take];have s3:au H1 (upd H1 c (.lst ((ps.take (k+1)).map V.ref))):=aq hc;have hc1:(upd H1 c (.lst ((ps.take (k+1)).map V.ref))) c=some (.lst ((ps.take (k+1)).map V.ref)):=ae;generalize upd H1 c (.lst ((ps.take (k+1)).map V.ref))=H3 at s3 hc1;refine bK (aJ.of hc1) (bQ (xs:=(ps.take (k+1)).map V.ref) (λj ys H'=>ys=(cD o cols j).map V.int/\H3=H') (by rw [aa0,ac9];omega) ⟨rfl,rfl⟩ (λj ys H' h=>by obtain⟨rfl,_⟩:=h;simp [cD]) (λj ys H' h=>h.2▸aJ.of hc1) ?_ ?_)
  ·rintro j x ys H' hj' ⟨rfl,rfl⟩
   have hj:j < k+1:=by have:=(aa1.mp hj').1;rw [aa0,ac9]at this;omega
   have d1:ps[j]?=some (ps[j]'()):=aa2 ();have d2:cols[j]?=some (cols[j]'()):=aa2 ();rw [aa4,an0,if_pos hj,d1]at hj';cases hj';obtain⟨f1,f2⟩:=hpc _ _ _ d1 d2;tm_at "r";refine dw (cI.of (s3 _ _ hx1)) (show fR _ ((1:Nat):Int)=_ from aK x1) ?_;tm_at "r";refine Fs (s3.tup f1) p0 () ?_;unfold cD;rw [am0,ab4,ab4,<-dZ (o:=o) d2];exact⟨rfl,rfl⟩
  ·rintro ys H' ⟨rfl,rfl⟩ c2 hc2
   rw [aa0,ac9,ap0 ()];exact hu _ _ ⟨c2,ae,rfl,s3.upd hc2⟩
 rintro Ω ω _ H2 ⟨n,hn,rfl,s2⟩;have nx:∀{j:Nat} {Q':VK} {H':Hp},au H2 H'->j < k+1->Q' (.int (dI o cols j)) H'->nk K (.ref n) (.int (j:Int)) H' Q':=λs hj q=>bq (aJ.of (s _ _ hn)) (aK (by rw [aa4];unfold cD;rw [aa4,ae3 hj];rfl)) q;refine ω _ _ (aN (λZ H'=>∃v:Addr,H' v=some (.lst (((List.range k).map λj=>fS o cols (j+1)).map V.int))/\Z=[↑p,↑l,⇑k,↑n,↑v]/\au H2 H') ?_ ?_)
 ·intro u' hu
  tm_at "r";refine⟨(),(),gA (λj ys H'=>ys=((List.range j).map λj=>fS o cols (j+1)).map V.int/\H2=H') () ⟨rfl,rfl⟩ (λj ys H' h=>by obtain⟨rfl,_⟩:=h;simp) ?_ ?_⟩
  ·rintro j ys H' hj ⟨rfl,rfl⟩
   tm_at "r";refine nx (j:=j+1) (au.refl _) () (nx (j:=j) (au.refl _) () ?_);tm_at "r";rw [am0,ab4,ab4];rfl
  ·rintro ys H' ⟨rfl,rfl⟩ c2 hc2
   exact hu _ _ ⟨c2,by rw [ae];rfl,rfl,aq hc2⟩
 rintro Ω ω _ H3 ⟨v,hv3,rfl,s3⟩;have hp3:eH H3 p R':=eH.same hp (s2.trans s3);have hx3:=(s2.trans s3) _ _ hx1;replace q:∀H',au H3 H'->Q (.bl (gs cols k R')) H':=λH' s=>q H' ((s2.trans s3).trans s);have q3:=q H3 (au.refl _);clear ix;have ix:∀{j:Nat} {x:V} {Q':VK},xs[j]?=some x->Q' x H3->nk K (.ref p) (.int (j:Int)) H3 Q':=λe q=>dw (cI.of hx3) (aK e) q;refine ω _ _ (aN (λZ H'=>aQ R'≠Str.ofString "move"/\Z=[↑p,↑l,⇑k,↑n,↑v]/\H3=H') ?_ ?_)
 ·intro u' hu
  refine cf λA0 B0 hA hB=>?_;tm_at "r";refine ix (j:=0) x0 ?_;tm_at "r"
  by_cases e:aQ R'=Str.ofString "move"
  ·rw [show gu (.plain R')=aQ R' from rfl,if_pos e]
   refine hA _ ?_;tm_at "r";obtain⟨o',D,rfl⟩:=(hZ R').1 e;obtain rfl:o'=o:=hv;obtain⟨d,e1,hD⟩:=hp3;rw [hx3]at e1;cases e1
   by_cases k0:k=0
   ·subst k0
    rw [if_neg ∅];exact q3
   ·obtain⟨m,rfl⟩:∃m,k=m+1:=⟨k - 1,()⟩
    rw [if_pos ()];refine bq (aJ.of hv3) (jA (n:=m) (by simp) (by rw [aa4,aa4,ae3 ()];rfl)) (ix (j:=2) rfl (eD (aJ.of hD) ?_));rw [show gs cols (m+1) (.move o' D)=!decide (fS o' cols (m+1)∈D)by simp [gs]]at q3;exact q3
  ·rw [show gu (.plain R')=aQ R' from rfl,if_neg e]
   exact hB _ (hu _ _ ⟨e,rfl,rfl⟩)
 rintro Ω ω _ _ ⟨m1,rfl,rfl⟩;refine ω _ _ (aN (λZ H'=>aQ R'≠Str.ofString "back"/\Z=[↑p,↑l,⇑k,↑n,↑v]/\H3=H') ?_ ?_)
 ·intro u' hu
  refine cf λA0 B0 hA hB=>?_;tm_at "r";refine ix (j:=0) x0 ?_;tm_at "r"
  by_cases e:aQ R'=Str.ofString "back"
  ·rw [show gu (.plain R')=aQ R' from rfl,if_pos e]
   refine hA _ ?_;tm_at "r";obtain⟨o',f',rfl⟩:=(hZ R').2.1 e;obtain rfl:o'=o:=hv;have e1:=hp3;unfold eH at e1;simp only [BM]at e1;rw [hx3]at e1;cases e1
   by_cases k1:(1:Int) < k
   ·obtain⟨m,rfl⟩:∃m,k=m+2:=⟨k - 2,()⟩
    rw [if_pos k1];refine bq (aJ.of hv3) (qT (n:=m) (by simp) (by rw [aa4,aa4,ae3 ()];rfl)) (bq (aJ.of hv3) (jA (n:=m+1) (by simp) (by rw [aa4,aa4,ae3 ()];rfl)) (ix (j:=2) rfl ⟨_,_,_,rfl,hg.2.2,?_⟩))
    rw [show gs cols (m+2) (.back o' f')=(decide (fS o' cols (m+1) > f'/\fS o' cols (m+2)>=0) || decide (fS o' cols (m+1) < 0 - f'/\fS o' cols (m+2)<=0))by simp [gs]]at q3
    exact q3
   ·rw [if_neg k1]
    rw [show gs cols k (.back o' f')=false by have:decide (2<=k)=false:=decide_eq_false ();simp only [gs,this,ah3]]at q3;exact q3
  ·rw [show gu (.plain R')=aQ R' from rfl,if_neg e]
   exact hB _ (hu _ _ ⟨e,rfl,rfl⟩)
 rintro Ω ω _ _ ⟨m2,rfl,rfl⟩;refine ω _ _ (aN (λZ H'=>aQ R'≠Str.ofString "held"/\Z=[↑p,↑l,⇑k,↑n,↑v]/\H3=H') ?_ ?_)
 ·intro u' hu
  refine cf λA0 B0 hA hB=>?_;tm_at "r";refine ix (j:=0) x0 ?_;tm_at "r"
  by_cases e:aQ R'=Str.ofString "held"
  ·rw [show gu (.plain R')=aQ R' from rfl,if_pos e]
   refine hA _ ?_;tm_at "r";obtain⟨o',f',rfl⟩:=(hZ R').2.2.1 e;obtain rfl:o'=o:=hv;have e1:=hp3;unfold eH at e1;simp only [BM]at e1;rw [hx3]at e1;cases e1;refine ix (j:=2) rfl ⟨f',rfl,?_⟩;have f1:=hg.2.2
   by_cases fk:f'<=(k:Int)
   ·rw [if_pos fk]
    obtain⟨mm,rfl⟩:∃mm:Nat,f'=mm:=⟨f'.toNat,()⟩;simp only [xC];tm_at "r";refine ix (j:=2) rfl ⟨_,rfl,?_⟩;rw [show(k:Int) - (mm:Int)=((k - mm:Nat):Int)by omega];refine cG (aJ.of (s3 _ _ hn)) λc hc=>?_;rw [cy,<-List.map_drop];refine⟨c,rfl,_,aJ.of ae,by simp [cD];omega,?_⟩;rw [<-zQ (mm:=mm) ()];exact q _ (aq hc)
   ·rw [if_neg fk]
    rw [show gs cols k (.held o' f')=false from decide_eq_false (λz=>by
     have:=((tj o' cols k f'.toNat).mp ()).1
     omega)]at q3
    exact q3
  ·rw [show gu (.plain R')=aQ R' from rfl,if_neg e]
   exact hB _ (hu _ _ ⟨e,rfl,rfl⟩)
 rintro Ω ω _ _ ⟨m3,rfl,rfl⟩;refine ω _ _ (aN (λZ H'=>aQ R'≠Str.ofString "times"/\Z=[↑p,↑l,⇑k,↑n,↑v]/\H3=H') ?_ ?_)
 ·intro u' hu
  refine cf λA0 B0 hA hB=>?_;tm_at "r";refine ix (j:=0) x0 ?_;tm_at "r"
  by_cases e:aQ R'=Str.ofString "times"
  ·rw [show gu (.plain R')=aQ R' from rfl,if_pos e]
   refine hA _ ?_;tm_at "r";obtain⟨o',nt,lw,hgh,rfl⟩:=(hZ R').2.2.2.1 e;obtain rfl:o'=o:=hv;have e1:=hp3;unfold eH at e1;simp only [BM]at e1;rw [hx3]at e1;cases e1;refine nx s3 () (ix (j:=2) rfl ?_);tm_at "r";have hc:=md o' nt cols (k+1) ()
   by_cases en:dI o' cols k=nt
   ·rw [if_pos en]
    refine⟨.inl ⟨rfl,_,aJ.of (s3 _ _ hn)⟩,ix (j:=2) rfl ⟨n,_,nt,rfl,rfl,s3 _ _ hn,ix (j:=4) rfl ⟨_,rfl,_,rfl,?_⟩⟩⟩;rw [hc];have e2:cols[k]?=some (cols[k]'hk):=aa2 hk
    have ch:tU o' nt cols[k]=true:=by unfold tU;rw [<-dZ (o:=o') e2];exact decide_eq_true en
    rw [nV o' nt cols k _ e2,ch,if_pos rfl];rw [show gs cols k (.times o' nt lw hgh)=decide (hgh < ((iU o' nt cols k+1:Nat):Int))by simp only [gs,en,decide_true,ai2];exact decide_eq_decide.mpr ()]at q3;exact q3
   ·rw [if_neg en]
    rw [show gs cols k (.times o' nt lw hgh)=false by simp [gs,en]]at q3;exact q3
  ·rw [show gu (.plain R')=aQ R' from rfl,if_neg e]
   exact hB _ (hu _ _ ⟨e,rfl,rfl⟩)
 rintro Ω ω _ _ ⟨m4,rfl,rfl⟩;refine ω _ _ ?_;tm_at "r";refine ix (j:=0) x0 ?_;tm_at "r";rw [show gu (.plain R')=aQ R' from rfl]
 by_cases e:aQ R'=Str.ofString "begin"
 ·rw [if_pos e]
  obtain⟨o',D,rfl⟩:=(hZ R').2.2.2.2 e;obtain rfl:o'=o:=hv;obtain⟨d,e1,hD⟩:=hp3;rw [hx3]at e1;cases e1
  by_cases k0:k=0
  ·subst k0
   rw [if_pos (show((0:Nat):Int)=0 from rfl)];exact nx (j:=0) s3 () (ix (j:=2) rfl (eD (aJ.of hD) (by rw [show gs cols 0 (.begin o' D)=!decide (dI o' cols 0∈D)by simp [gs]]at q3;exact q3)))
  ·rw [if_neg ()]
   rw [show gs cols k (.begin o' D)=false by simp [gs,k0]]at q3;exact q3
 ·rw [if_neg e]
  rw [show gs cols k R'=false by
   cases R' with
   | close _ _=>rfl
   | begin _ _=>exact absurd rfl e
   | move _ _=>exact absurd rfl m1
   | back _ _=>exact absurd rfl m2
   | held _ _=>exact absurd rfl m3
   | times _ _ _ _=>exact absurd rfl m4
   | _=>exact(npr trivial).elim]at q3
  exact q3
def ends3:List Str:=[Str.ofString "back",Str.ofString "times",Str.ofString "close"]
theorem w4{R:aH}(h:gu R∈ends3):(∃o f,R=.plain (.back o f))\/(∃o n l g,R=.plain (.times o n l g))\/∃o D,R=.plain (.close o D):=by
 cases R with
 | every m a R=>exact absurd h (show Str.ofString "every"∉ends3 by decide +kernel)
 | plain R=>
  cases R with
  | back o f=>exact .inl ⟨_,_,rfl⟩
  | times o n l g=>exact .inr (.inl ⟨_,_,_,_,rfl⟩)
  | close o D=>exact .inr (.inr ⟨_,_,rfl⟩)
  | span o t D=>exact absurd h (show Str.ofString "span"∉ends3 by decide +kernel)
  | clock o t g D=>exact absurd h (show Str.ofString "clock"∉ends3 by decide +kernel)
  | alike o t D=>exact absurd h (show Str.ofString "alike"∉ends3 by decide +kernel)
  | move o D=>exact absurd h (show Str.ofString "move"∉ends3 by decide +kernel)
  | held o D=>exact absurd h (show Str.ofString "held"∉ends3 by decide +kernel)
  | begin o D=>exact absurd h (show Str.ofString "begin"∉ends3 by decide +kernel)
theorem Aw{R:aH}(h:gu R∉ends3)(cols:List (List Int)):h8 cols R=false:=by
 cases R with
 | every m a R=>rfl
 | plain R=>
  cases R with
  | back o f=>exact absurd (show Str.ofString "back"∈ends3 by decide +kernel) h
  | times o n l g=>exact absurd (show Str.ofString "times"∈ends3 by decide +kernel) h
  | close o D=>exact absurd (show Str.ofString "close"∈ends3 by decide +kernel) h
  | _=>rfl
def D6(K:Frag):Sp:=λvs H Q _=>∃(p l:Addr) (nv:Nat) (cols:List (List Int)) (R:aH),vs=[.ref p,.ref l]/\dW H p R/\cv nv R/\gF K H l nv cols/\cols.length<=100/\∀H',au H H'->Q (.bl (h8 cols R)) H'
theorem EA(F:b0 K "_law_ill_close" "_law_ill_close" fP f fd)(T:Txt mg aM): ~~~aL bU 1 f fd ["_law_rule_here","_law_line_here"] (D6 K):=by
 refine F.ok sc_law_ill_close λ_ A _ s H vs Q E hr h=>?_;obtain⟨p,l,nv,cols,R,rfl,hp,hg,hl,hk1,q⟩:=h
 refine⟨rfl,_,(ag (aP (ba (ay (eK K) (aw (aC K) (pr 0) af (λ_ _=>rfl)) (bN (aa aW (aa aW (aa aW ah)))) (by with_unfolding_all rfl))) (ai (av lA)) aB)
 (ag (ib (i:=2) sc_law_ill_close.nd rfl (Or.inl rfl) (own:=["_law_column"]) (js:=[0]) rfl (bF K (pr 1)) (bB.of ⋯) (λ_ _ _ _ _=>(bM (i:=0) (show List.Nodup (["_law_column","_law_rule_here"]:List Str)from by decide +kernel) rfl (Or.inl rfl))) (λ_ _ _ _ _=>cn) (λ_ _ _ _ _=>(aw (aC K) (pr 0) (ar (o0 bD) (aw (aC K) (pr 1) af (λ_ _=>rfl)) af) (λ_ _=>rfl))) rfl)
 (ag (aP (ba (ay gJ (aw (aC K) (pr 0) af (λ_ _=>rfl)) aW (az _))) (ai (av (bc (o0 j6) (bW K PySem.F.plainAttrs_list PySem.F.slot_list_count PySem.F.type_list_count ud (pr 2) (aa (aw (aC K) (pr 0) af (λ_ _=>rfl)) ah)) (aw (aC K) (pr 0) af (λ_ _=>rfl)) (az _)))) aB)
 (ag (aP (ba (ay gJ (aw (aC K) (pr 0) af (λ_ _=>rfl)) aW (az _))) (ai (av (jb (gj (bc (o0 i7) (aD (aG K) ⋯ T.n_len boot_len (aa (pr 2) ah)) af (az _)) (fG (bc (o0 i7) (aD (zr) ⋯ T.n_abs boot_abs (aa (ar (o0 bD) (aw (aC K) (pr 2) (lB (u1 iE) af) (λ_ _=>rfl)) (aw (aC K) (pr 2) (lB (u1 iE) af) (λ_ _=>rfl))) ah)) (aw (aC K) (pr 0) af (λ_ _=>rfl)) (az _))))))) aB)
 (ai (av (jb (gj (bc (o0 i7) (aD (aG K) ⋯ T.n_len boot_len (aa (pr 2) ah)) af (az _)) (fG (bc (eK K) (aw (aC K) (pr 2) (lB (u1 iE) af) (λ_ _=>rfl)) (aw (aC K) (pr 0) af (λ_ _=>rfl)) (by with_unfolding_all rfl))))))))))),?_⟩
 have hs:=sizeLine_eq;obtain⟨xs,hx,x0⟩:=hp.kd;have ix:∀{j:Nat} {x:V} {Q':VK} {H':Hp},au H H'->xs[j]?=some x->Q' x H'->nk K (.ref p) (.int (j:Int)) H' Q':=λs e q=>dw (cI.of (s _ _ hx)) (aK e) q;refine aN (λZ H'=>gu R∈ends3/\Z=[↑p,↑l,none]/\au H H') ?_ ?_
 ·intro u' hu
  tm_at "r";refine ix (j:=0) (au.refl _) x0 ?_;tm_at "r";refine⟨(),λp1 hp1=>sY (ws:=ends3) (aJ.of ae) ⟨_,rfl,?_⟩⟩;have s1:=aq (o:=.lst (ends3.map V.str)) hp1
  by_cases h:gu R∈ends3
  ·rw [if_neg (by rw [decide_eq_true h];exact aa6)]
   exact hu _ _ ⟨h,rfl,s1⟩
  ·rw [if_pos (by rw [decide_eq_false h];rfl)]
   rw [Aw h]at q;exact q _ s1
 rintro Ω ω _ H1 ⟨hk,rfl,s1⟩
 obtain⟨o,R',rfl,p0,p1,x1⟩:∃(o:Int) (R':cY),R=.plain R'/\0<=o/\o < nv/\xs[1]?=⇑(o+1)/\vo R'=o:=by
  rcases w4 hk with⟨o,f,rfl⟩ | ⟨o,n,l,g,rfl⟩ | ⟨o,D,rfl⟩
  ·have e:H p=some (.tup (Cm (.back o f))):=hp
   rw [hx]at e;cases e;exact⟨o,_,rfl,hg.1,hg.2.1,rfl,rfl⟩
  ·have e:H p=some (.tup (Cm (.times o n l g))):=hp
   rw [hx]at e;cases e;exact⟨o,_,rfl,hg.1,hg.2.1,rfl,rfl⟩
  ·obtain⟨d,e,_⟩:=hp
   rw [hx]at e;cases e;exact⟨o,_,rfl,hg.1,hg.2,rfl,rfl⟩
 obtain⟨x1,hv⟩:=x1;have hl1:=hl.same s1;refine ω _ _ (aN (λZ H'=>∃n:Addr,H' n=some (.lst ((cD o cols cols.length).map V.int))/\Z=[↑p,↑l,↑n]/\au H H') ?_ ?_)
 ·intro u' hu
  tm_at "r";obtain⟨ps,hps,hpl,hpc⟩:=id hl1;refine bK hps (bQ (xs:=ps.map V.ref) (λj ys H'=>ys=(cD o cols j).map V.int/\H1=H') (by rw [aa0];omega) ⟨rfl,rfl⟩ (λj ys H' h=>by obtain⟨rfl,_⟩:=h;simp [cD]) (λj ys H' h=>h.2▸hps) ?_ ?_)
  ·rintro j x ys H' hj' ⟨rfl,rfl⟩
   have hj:j < ps.length:=by have:=(aa1.mp hj').1;rw [aa0]at this;exact this
   have d1:ps[j]?=some (ps[j]'hj):=aa2 hj;have d2:cols[j]?=some (cols[j]'()):=aa2 ();rw [aa4,d1]at hj';cases hj';obtain⟨f1,f2⟩:=hpc _ _ _ d1 d2;tm_at "r";refine ix (j:=1) s1 x1 ?_;tm_at "r";refine Fs f1 p0 () ?_;unfold cD;rw [am0,ab4,ab4,<-dZ (o:=o) d2];exact⟨rfl,rfl⟩
  ·rintro ys H' ⟨rfl,rfl⟩ c2 hc2
   rw [aa0,hpl];exact hu _ _ ⟨c2,ae,rfl,s1.upd hc2⟩
 rintro Ω ω _ H2 ⟨n,hn,rfl,s2⟩
 have nl:(cD o cols cols.length).length=cols.length:=by simp [cD]
 have q2:=q H2 s2;refine ω _ _ (aN (λZ H'=>aQ R'≠Str.ofString "times"/\Z=[↑p,↑l,↑n]/\H2=H') ?_ ?_)
 ·intro u' hu
  refine cf λA0 B0 hA hB=>?_;tm_at "r";refine ix (j:=0) s2 x0 ?_;tm_at "r"
  by_cases e:aQ R'=Str.ofString "times"
  ·rw [show gu (.plain R')=aQ R' from rfl,if_pos e]
   refine hA _ ?_;tm_at "r";obtain⟨o',nt,lw,g,rfl⟩:=(hZ R').2.2.2.1 e;obtain rfl:o'=o:=hv;have e1:H p=some (.tup (Cm (.times o' nt lw g))):=hp;rw [hx]at e1;cases e1;refine⟨.inl ⟨rfl,_,aJ.of hn⟩,ix (j:=2) s2 rfl ⟨n,_,nt,rfl,rfl,hn,ix (j:=3) s2 rfl ⟨_,rfl,_,rfl,?_⟩⟩⟩;rw [md o' nt cols cols.length (aa9 _)];exact q2
  ·rw [show gu (.plain R')=aQ R' from rfl,if_neg e]
   exact hB _ (hu _ _ ⟨e,rfl,rfl⟩)
 rintro Ω ω _ _ ⟨n1,rfl,rfl⟩;refine ω _ _ (aN (λZ H'=>aQ R'≠Str.ofString "back"/\Z=[↑p,↑l,↑n]/\H2=H') ?_ ?_)
 ·intro u' hu
  refine cf λA0 B0 hA hB=>?_;tm_at "r";refine ix (j:=0) s2 x0 ?_;tm_at "r"
  by_cases e:aQ R'=Str.ofString "back"
  ·rw [show gu (.plain R')=aQ R' from rfl,if_pos e]
   refine hA _ ?_;tm_at "r";obtain⟨o',f',rfl⟩:=(hZ R').2.1 e;obtain rfl:o'=o:=hv;have e1:H p=some (.tup (Cm (.back o' f'))):=hp;rw [hx]at e1;cases e1;have f0:=hg.2.2;refine⟨_,.inl (aJ.of hn),?_⟩;rw [aa0,nl]
   by_cases k1:(1:Int) < cols.length
   ·rw [if_pos k1]
    obtain⟨m,hm⟩:∃m,cols.length=m+2:=⟨cols.length - 2,()⟩;refine bq (aJ.of hn) (jA (n:=m+1) (by rw [aa0,nl,hm]) (by rw [aa4];unfold cD;rw [aa4,ae3 ()];rfl)) (bq (aJ.of hn) (qT (n:=m) (by rw [aa0,nl,hm]) (by rw [aa4];unfold cD;rw [aa4,ae3 ()];rfl)) ⟨_,rfl,_,rfl,ix (j:=2) s2 rfl ⟨_,rfl,?_⟩⟩)
    have hb:h8 cols (.plain (.back o' f'))=decide (f' < if dI o' cols (m+1) - dI o' cols m < 0 then -(dI o' cols (m+1) - dI o' cols m)else dI o' cols (m+1) - dI o' cols m):=by
     have h2:decide (2<=m+2)=true:=decide_eq_true ();have em:fS o' cols (m+1)=dI o' cols (m+1) - dI o' cols m:=rfl;simp only [h8,CW,hm,h2,ai2,show m+2 - 1=m+1 from rfl,em];generalize dI o' cols (m+1) - dI o' cols m=x;rw [af5,ak2,decide_eq_true_eq,decide_eq_true_eq,decide_eq_true_eq]
     split<;>omega
    rw [hb]at q2;exact q2
   ·rw [if_neg k1]
    rw [show h8 cols (.plain (.back o' f'))=false by have:decide (2<=cols.length)=false:=decide_eq_false ();simp only [h8,CW,this,ah3]]at q2;exact q2
  ·rw [show gu (.plain R')=aQ R' from rfl,if_neg e]
   exact hB _ (hu _ _ ⟨e,rfl,rfl⟩)
 rintro Ω ω _ _ ⟨n2,rfl,rfl⟩;refine ω _ _ ?_;tm_at "r"
 obtain⟨D,rfl⟩:∃D,R'=.close o D:=by
  rcases w4 hk with⟨o',f,e⟩ | ⟨o',a,b,c,e⟩ | ⟨o',D,e⟩
  ·cases e;exact absurd rfl n2
  ·cases e;exact absurd rfl n1
  ·cases e;obtain rfl:o'=o:=hv;exact⟨D,rfl⟩
 obtain⟨d,e1,hD⟩:=hp;rw [hx]at e1;cases e1;refine⟨_,.inl (aJ.of hn),?_⟩;rw [aa0,nl]
 by_cases k0:(0:Int) < cols.length
 ·rw [if_pos k0]
  obtain⟨m,hm⟩:∃m,cols.length=m+1:=⟨cols.length - 1,()⟩;refine bq (aJ.of hn) (jA (n:=m) (by rw [aa0,nl,hm]) (by rw [aa4];unfold cD;rw [aa4,ae3 ()];rfl)) (ix (j:=2) s2 rfl (eD (aJ.of (s2 _ _ hD)) ?_));rw [show h8 cols (.plain (.close o D))=!decide (dI o cols m∈D)by simp [h8,CW,hm]]at q2;exact q2
 ·rw [if_neg k0]
  rw [show h8 cols (.plain (.close o D))=false by simp only [h8,CW,show cols.length=0 by omega];rfl]at q2;exact q2
def sS(bs:List (Int×Int))(cols:List (List Int))(k v:Nat):Bool:=!decide ((bs.getD v (0,0)).1<=(cols.getD k []).getD v 0/\(cols.getD k []).getD v 0<=(bs.getD v (0,0)).2)
def eS(bs:List (Int×Int))(Rs:List aH)(cols:List (List Int))(k:Nat):Bool:=(List.range bs.length).any (sS bs cols k) || Rs.any (iT cols k)
def iI(bs:List (Int×Int))(Rs:List aH)(cols:List (List Int)):Option Nat:=match gb (eS bs Rs cols) 0 cols.length with
 | some j=>some j
 | none=>if Rs.any (h8 cols)=true then some cols.length else none
def lW(bs:List (Int×Int))(Rs:List aH)(cols:List (List Int))(v:V)(H:Hp):Prop:=match iI bs Rs cols with
 | some j=>∃(t:Addr) (r:Int),v=.ref t/\H t=some (.tup [.int j,.int r])
 | none=>v=.non
theorem gB(B:Nat->Bool):∀(n i:Nat),(∀j,i<=j->j < i+n->B j=false)->gb B i n=none
 | 0,_,_=>rfl
 | n+1,i,h=>by
  rw [iW,gB B n i λj h1 h2=>h j h1 ()];show(if B (i+n)=true then _ else none)=none;rw [h (i+n) () ()];rfl
theorem j4(B:Nat->Bool)(k:Nat)(hb:B k=true)(h:∀j,j < k->B j=false):∀n,k < n->gb B 0 n=some k
 | 0,h0=>absurd h0 (ak3 k)
 | n+1,hn=>by
  rw [iW]
  by_cases e:k < n
  ·rw [j4 B k hb h n e]
  ·have e:k=n:=by omega
   subst e;rw [gB B k 0 λj _ h2=>h j ()];show(if B (0+k)=true then _ else none)=_;rw [ak7,hb];rfl
def xp(K:Frag):Sp:=λvs H Q _=>∃(r ru l:Addr) (bs:List (Int×Int)) (Rs:List aH) (cols:List (List Int)),vs=[.ref r,.ref ru,.ref l]/\bP K H r bs/\bs.length<=4/\jN H ru Rs/\Rs.length<=12/\(∀R∈Rs,cv bs.length R)/\gF K H l bs.length cols/\cols.length<=100/\∀v H',lW bs Rs cols v H'->au H H'->Q v H'
theorem AE(F:b0 K "_law_fault" "_law_fault" jo f fd)(T:Txt mg aM)(D_law_broken: ~~~cB "_law_broken" 3 ["_law_rule_here","_law_line_here","_law_k"] (jt K))(D_law_ill_close: ~~~cB "_law_ill_close" 3 ["_law_rule_here","_law_line_here"] (D6 K)): ~~~aL bU 4 f fd ["_law_ranges_here","_law_rules_here","_law_line_here"] (xp K):=by
 refine F.ok sc_law_fault λ_ A _ s H vs Q E hr h=>?_;obtain⟨r,ru,l,bs,Rs,cols,rfl,hR,b4,hT,r12,hg,hl,c100,q⟩:=h
 refine⟨rfl,_,(ag (cw PassesOwn.never rfl (c9 rfl T.n_range (aa (aD (aG K) ⋯ T.n_len boot_len (aa (pr 2) ah)) ah)) (jR (i:=3) sc_law_fault.nd)
 (ag (cw PassesOwn.never rfl (c9 rfl T.n_range (aa (aD (aG K) ⋯ T.n_len boot_len (aa (pr 0) ah)) ah)) (jR (i:=4) sc_law_fault.nd)
 (ag (mi (aw (aC K) (pr 0) (pr 4) (λ_ _=>rfl)) (fT K (n:=2) rfl (bT (jR (i:=5) sc_law_fault.nd) (bT (jR (i:=6) sc_law_fault.nd) fU))))
 (ai (aP (cJ (ba (uC (o0 i8) (o0 i8) (pr 5) (aw (aC K) (aw (aC K) (pr 2) (pr 3) (λ_ _=>rfl)) (pr 4) (λ_ _=>rfl)) (pr 6)))) (ai (av (dk (aa (pr 3) (aa (pr 4) ah))))) aB))))
 (ai (cw PassesOwn.never rfl (c9 rfl T.n_range (aa (aD (aG K) ⋯ T.n_len boot_len (aa (pr 1) ah)) ah)) (jR (i:=4) sc_law_fault.nd)
 (ai (aP (bo (aA D_law_broken hr ⋯ (aa (aw (aC K) (pr 1) (pr 4) (λ_ _=>rfl)) (aa (pr 2) (aa (pr 3) ah)))) (λ_=>rfl)) (ai (av (dk (aa (pr 3) (aa (ar (bL K) (aD (aG K) ⋯ T.n_len boot_len (aa (pr 0) ah)) (pr 4)) ah))))) aB))))))
 (ag (cw PassesOwn.never rfl (c9 rfl T.n_range (aa (aD (aG K) ⋯ T.n_len boot_len (aa (pr 1) ah)) ah)) (jR (i:=4) sc_law_fault.nd)
 (ai (aP (bo (aA D_law_ill_close hr ⋯ (aa (aw (aC K) (pr 1) (pr 4) (λ_ _=>rfl)) (aa (pr 2) ah))) (λ_=>rfl)) (ai (av (dk (aa (aD (aG K) ⋯ T.n_len boot_len (aa (pr 2) ah)) (aa (ar (bL K) (aD (aG K) ⋯ T.n_len boot_len (aa (pr 0) ah)) (pr 4)) ah))))) aB)))
 (ai (av aZ)))),?_⟩
 have hs:=sizeLine_eq
 have hitQ:∀{k:Nat} {rw_:Int} {H':Hp} {t:Addr},k < cols.length->(∀j,j < k->eS bs Rs cols j=false)->eS bs Rs cols k=true->H' t=none->au H H'->Q (.ref t) (upd H' t (.tup [.int k,.int rw_])):=λ{k rw_ H' t} hk hb hbk ht s'=>by
  refine q _ _ ?_ (s'.upd ht);unfold lW iI;rw [j4 _ k hbk hb _ hk];exact⟨t,rw_,rfl,ae⟩
 obtain⟨Pv,hPv⟩:∃Pv:Nat->L2.St->Hp->Prop,Pv=λi Z H'=>∃o3 o4 o5 o6:Option V,(∀j,j < i->eS bs Rs cols j=false)/\Z=[↑r,↑ru,↑l,o3,o4,o5,o6]/\au H H':=⟨_,rfl⟩;refine aN (λZ H'=>Pv cols.length Z H') ?_ ?_
 ·intro u' hu
  tm_at "r";obtain⟨ps,hps,hpl,hpc⟩:=id hl;refine⟨_,.inl hps,?_⟩;rw [aa0,hpl];refine⟨(),(),cQ Pv (by rw [hPv];exact⟨none,none,none,none,λj hj=>absurd hj (ak3 j),rfl,au.refl _⟩) ?_ λZ H' h=>hu _ _ h⟩;intro k Z H1 hk hI
  have hk:k < cols.length:=by omega
  refine ux λB hB=>?_;rw [hPv]at hI;obtain⟨o3,o4,o5,o6,hb,rfl,s1⟩:=hI;tm_at "r";refine hB _ _ ?_;clear hB B;refine aN (λZ H'=>∃o4 o5 o6:Option V,(∀v,v < bs.length->sS bs cols k v=false)/\Z=[↑r,↑ru,↑l,⇑k,o4,o5,o6]/\au H H') ?_ ?_
  ·intro u2 iX
   tm_at "r";obtain⟨ts,ht1,ht2,_⟩:=id (hR.same s1);refine⟨_,.inl ht1,?_⟩;rw [aa0,ht2];refine⟨(),(),cQ (λv Z H'=>∃o4 o5 o6:Option V,(∀u,u < v->sS bs cols k u=false)/\Z=[↑r,↑ru,↑l,⇑k,o4,o5,o6]/\au H H') ⟨o4,o5,o6,λu hu=>absurd hu (ak3 u),rfl,s1⟩ ?_ λZ H' ⟨o4,o5,o6,h1,h2,h3⟩=>iX _ _ ⟨o4,o5,o6,λv hv=>h1 v (),h2,h3⟩⟩;intro v Z H2 hv hI
   have hv:v < bs.length:=by omega
   refine ux λB hB=>?_;obtain⟨o4,o5,o6,ho,rfl,s2⟩:=hI;tm_at "r";refine hB _ _ (iL λRk rk=>?_);tm_at "r";refine(hR.same s2).ix hv λt ht=>⟨t,rfl,_,ht,rfl,?_⟩;tm_at "r";refine rk _ _ ?_;tm_at "r";refine oz (hl.same s2) hk λc hc cl=>?_
   have eb:bs.getD v (0,0)=bs[v]:=by rw [ab5,aa2 hv];rfl
   obtain⟨nt,hnt⟩:∃nt,(cols.getD k []).getD v 0=nt:=⟨_,rfl⟩
   have en:((cols.getD k []).map V.int)[v]?=⇑nt:=by
    have gd:∀us:List Int,v < us.length->(us.map V.int)[v]?=⇑(us.getD v 0):=λus h=>by
     rw [aa4,ab5,aa2 h];rfl
    rw [<-hnt];exact gd _ ()
   have hit:¬((bs[v]).1<=nt/\nt<=(bs[v]).2)->0+1+1<=sizeLine/\∀p:Addr,H2 p=none->Q (.ref p) (upd H2 p (.tup [.int k,.int v])):=λh=>⟨(),λp hp=>hitQ hk hb (by
    unfold eS;rw [ai5.mpr ⟨v,af9.mpr hv,by unfold sS;rw [eb,hnt,decide_eq_false h];rfl⟩]
    rfl) hp s2⟩
   refine dw hc (aK en) ⟨_,rfl,?_⟩
   by_cases h1:(bs[v]).1<=nt
   ·rw [if_pos h1]
    refine⟨_,rfl,?_⟩
    by_cases h2:nt<=(bs[v]).2
    ·rw [if_pos h2]
     refine⟨λu hu=>?_,s2⟩
     by_cases e:u=v
     ·subst e
      unfold sS;rw [eb,hnt,decide_eq_true ⟨h1,h2⟩];rfl
     ·exact ho u ()
    ·rw [if_neg h2]
     exact hit λz=>h2 z.2
   ·rw [if_neg h1]
    exact hit λz=>h1 z.1
  rintro Ω ω _ H2 ⟨o4,o5,o6,hv,rfl,s2⟩;refine ω _ _ ?_;tm_at "r";obtain⟨ws,hws,hwl,hwt⟩:=id (hT.same s2);refine⟨_,.inl (aJ.of hws),?_⟩;rw [aa0,hwl];refine⟨(),(),cQ (λv Z H'=>∃o4 o5 o6:Option V,(∀u,u < v->iT cols k (Rs.getD u (.every 1 0 (.close 0 [])))=false)/\Z=[↑r,↑ru,↑l,⇑k,o4,o5,o6]/\au H H') ⟨o4,o5,o6,λu hu=>absurd hu (ak3 u),rfl,s2⟩ ?_ ?_⟩
  ·intro v Z H3 hv3 hI
   have hv3:v < Rs.length:=by omega
   refine ux λB hB=>?_;obtain⟨o4,o5,o6,ho,rfl,s3⟩:=hI;tm_at "r";refine hB _ _ (lY λA0 B0 hA hB2=>?_);tm_at "r";obtain⟨R,hRv⟩:∃R,Rs.getD v (.every 1 0 (.close 0 []))=R:=⟨_,rfl⟩
   have eR:Rs[v]?=some R:=by rw [<-hRv,ab5,aa2 hv3];rfl
   obtain⟨ws3,hws3,hwl3,hwt3⟩:=id (hT.same s3);have ex:ws3[v]?=some (ws3[v]'()):=aa2 ();refine bq (aJ.of hws3) (aK (by rw [aa4,ex];rfl)) ⟨_,l,k,bs.length,cols,R,rfl,hwt3 v _ R ex eR,hg R (ac0 eR),hl.same s3,hk,c100,λH4 s4=>⟨_,TruV_b.mpr rfl,?_⟩⟩
   cases eb:iT cols k R with
   | true=>
    rw [if_pos rfl];refine hA _ ?_;tm_at "r";obtain⟨ts,ht1,ht2,_⟩:=id (hR.same (s3.trans s4));refine⟨_,.inl ht1,?_⟩;tm_at "r";refine⟨(),λp hp=>hitQ hk hb ?_ hp (s3.trans s4)⟩;unfold eS;rw [ai5.mpr ⟨R,ac0 eR,eb⟩,Bool.or_true]
   | false=>
    rw [if_neg aa6];refine hB2 _ ?_;tm_at "r";refine⟨λu hu=>?_,s3.trans s4⟩
    by_cases e:u=v
    ·subst e
     rw [hRv];exact eb
    ·exact ho u ()
  ·rintro Z H3 ⟨o4,o5,o6,ho,rfl,s3⟩
   rw [hPv];refine⟨_,_,_,_,λj hj=>?_,rfl,s3⟩
   by_cases e:j=k
   ·subst e
    unfold eS;rw [Bool.or_eq_false_iff];refine⟨ak8.mpr λv hv'=>?_,ak8.mpr λR hR'=>?_⟩
    ·rw [hv v (af9.mp hv')]
     exact aa6
    ·obtain⟨u,hu⟩:=aj2.mp hR'
     have:=ho u (by have:=(aa1.mp hu).1;omega)
     rw [ab5,hu]at this;rw [show iT cols j R=false from this];exact aa6
   ·exact hb j ()
 intro Ω ω;intro Z H1 hI;rw [hPv]at hI;obtain⟨o3,o4,o5,o6,hb,rfl,s1⟩:=hI;have fN:gb (eS bs Rs cols) 0 cols.length=none:=gB _ _ 0 λj _ h2=>hb j ();refine ω _ _ (aN (λZ H'=>(∀u,u < Rs.length->h8 cols (Rs.getD u (.every 1 0 (.close 0 [])))=false)/\au H H') ?_ ?_)
 ·intro u' hu
  tm_at "r";obtain⟨ws,hws,hwl,hwt⟩:=id (hT.same s1);refine⟨_,.inl (aJ.of hws),?_⟩;rw [aa0,hwl];refine⟨(),(),cQ (λv Z H'=>∃o3 o4 o5 o6:Option V,(∀u,u < v->h8 cols (Rs.getD u (.every 1 0 (.close 0 [])))=false)/\Z=[↑r,↑ru,↑l,o3,o4,o5,o6]/\au H H') ⟨o3,o4,o5,o6,λu h=>absurd h (ak3 u),rfl,s1⟩ ?_ λZ H' ⟨_,_,_,_,h1,_,h⟩=>hu _ _ ⟨λu h=>h1 u (),h⟩⟩;intro v Z H3 hv3 hI
  have hv3:v < Rs.length:=by omega
  refine ux λB hB=>?_;obtain⟨o3,o4,o5,o6,ho,rfl,s3⟩:=hI;tm_at "r";refine hB _ _ (lY λA0 B0 hA hB2=>?_);tm_at "r";obtain⟨R,hRv⟩:∃R,Rs.getD v (.every 1 0 (.close 0 []))=R:=⟨_,rfl⟩
  have eR:Rs[v]?=some R:=by rw [<-hRv,ab5,aa2 hv3];rfl
  obtain⟨ws3,hws3,hwl3,hwt3⟩:=id (hT.same s3);have ex:ws3[v]?=some (ws3[v]'()):=aa2 ();refine bq (aJ.of hws3) (aK (by rw [aa4,ex];rfl)) ⟨_,l,bs.length,cols,R,rfl,hwt3 v _ R ex eR,hg R (ac0 eR),hl.same s3,c100,λH4 s4=>⟨_,TruV_b.mpr rfl,?_⟩⟩
  cases eb:h8 cols R with
  | true=>
   rw [if_pos rfl];refine hA _ ?_;tm_at "r";obtain⟨ps,hps,hpl,_⟩:=id (hl.same (s3.trans s4));refine⟨_,.inl hps,?_⟩;rw [aa0,hpl];obtain⟨ts,ht1,ht2,_⟩:=id (hR.same (s3.trans s4));refine⟨_,.inl ht1,?_⟩;tm_at "r";refine⟨(),λp hp=>q _ _ ?_ ((s3.trans s4).upd hp)⟩
   have e:iI bs Rs cols=some cols.length:=by unfold iI;rw [fN];exact if_pos (ai5.mpr ⟨R,ac0 eR,eb⟩)
   unfold lW;rw [e];exact⟨p,_,rfl,ae⟩
  | false=>
   rw [if_neg aa6];refine hB2 _ ?_;tm_at "r";refine⟨λu hu=>?_,s3.trans s4⟩
   by_cases e:u=v
   ·subst e
    rw [hRv];exact eb
   ·exact ho u ()
 rintro Ω ω Z H2 ⟨ho,s2⟩;refine ω _ _ ?_;tm_at "r";refine q _ _ ?_ s2
 have e:iI bs Rs cols=none:=by
  unfold iI;rw [fN];refine if_neg λh=>?_;obtain⟨R,hR',h1⟩:=ai5.mp h;obtain⟨u,hu⟩:=aj2.mp hR'
  have:=ho u (aa1.mp hu).1
  rw [ab5,hu]at this;rw [show h8 cols R=false from this]at h1;cases h1
 unfold lW;rw [e]
def cT(H:Hp)(l:Addr)(nv:Nat)(cols:List (List Int)):Prop:=dq H l cols/\∀c∈cols,c.length=nv
theorem cT.same(h:cT H l nv cols)(s:au H H'):cT H' l nv cols:=⟨h.1.same s,h.2⟩
theorem cT.line(h:cT H l nv cols):gF K H l nv cols:=by
 obtain⟨⟨ps,h1,h2,h3⟩,h4⟩:=h;exact⟨ps,aJ.of h1,h2,λi p us e1 e2=>⟨cI.of (h3 i p us e1 e2),h4 us (ac0 e2)⟩⟩
def xn(K:Frag):Sp:=λvs H Q _=>∃(a:Addr) (ns:List Int) (st n:Nat),vs=[.ref a,.int st,.int n]/\aJ K H a (ns.map V.int)/\ns.length<=63/\st<=100/\n<=200/\∀(q:Addr) (ys:List Int) H',ys.length=n->H q=none->H' q=some (.lst (ys.map V.int))->au H H'->Q (.ref q) H'
theorem AB(F:b0 K "_law_cells" "_law_cells" jm f fd)(T:Txt mg aM)(D_law_at: ~~~cB "_law_at" 1 ["_law_script","_law_k"] (yT K))(D_law_draws: ~~~cB "_law_draws" 1 ["_law_cell","_law_many"] lL): ~~~aL bU 2 f fd ["_law_script","_law_start","_law_many"] (xn K):=by
 refine F.ok sc_law_cells λ_ A _ s H vs Q E hr h=>?_;obtain⟨a,ns,st,n,rfl,hS,ln,lst,hn,k⟩:=h
 refine⟨rfl,_,(ag (cU (i:=3) sc_law_cells.nd (aA D_law_draws hr ⋯ (aa (aA D_law_at hr ⋯ (aa (pr 0) (aa (pr 1) ah))) (aa (pr 2) ah))))
 (ag (cw PassesOwn.never rfl (c9 rfl T.n_range (aa (aD (qY rfl) ⋯ T.n_min boot_min (aa (pr 2) (aa (aD (xV rfl) ⋯ T.n_max boot_max (aa af (aa (ar (o0 bD) (ar (o0 bD) (aD (aG K) ⋯ T.n_len boot_len (aa (pr 0) ah)) (pr 1)) af) ah))) ah))) ah)) (jR (i:=4) sc_law_cells.nd)
 (ai (mi (aw (aC K) (pr 0) (ar (bL K) (ar (bL K) (pr 1) af) (pr 4)) (λ_ _=>rfl)) (sU (pr 3) (pr 4) Ba))))
 (ai (av (pr 3))))),?_⟩
 have hs:=sizeLine_eq;refine aN (λZ H'=>∃(q:Addr) (ys:List Int),ys.length=n/\H q=none/\H' q=some (.lst (ys.map V.int))/\Z=[↑a,⇑st,⇑n,↑q,none]/\au H H') ?_ ?_
 ·intro u' hu
  tm_at "r";exact⟨a,ns,st,rfl,hS,(),(),_,n,rfl,(),λq ys H' hl hy hq hq' s1=>hu _ _ ⟨q,ys,hl,hq,hq',rfl,s1⟩⟩
 rintro Ω ω _ H1 ⟨q,ys,hl,hq0,hq1,rfl,s1⟩;refine ω _ _ (aN (λZ H'=>∃(ys:List Int) (o4:Option V),ys.length=n/\H' q=some (.lst (ys.map V.int))/\Z=[↑a,⇑st,⇑n,↑q,o4]/\au H H') ?_ ?_)
 ·intro u' hu
  tm_at "r";refine⟨_,.inl (s1.seq hS),?_⟩;rw [aa0];obtain⟨M,hM⟩:∃M:Int,M=if (if (ns.length:Int) - (st:Int) - 1 > 0 then(ns.length:Int) - (st:Int) - 1 else 0) < (n:Int)then if (ns.length:Int) - (st:Int) - 1 > 0 then(ns.length:Int) - (st:Int) - 1 else 0 else(n:Int):=⟨_,rfl⟩
  have hM1:0<=M/\M<=n/\(0 < M->M<=(ns.length:Int) - (st:Int) - 1):=by
   rw [hM]
   split<;>split<;>omega
  rw [<-hM];obtain⟨Pv,hPv⟩:∃Pv:Nat->L2.St->Hp->Prop,Pv=λi Z H'=>∃(ys:List Int) (o4:Option V),ys.length=n/\H' q=some (.lst (ys.map V.int))/\Z=[↑a,⇑st,⇑n,↑q,o4]/\au H H':=⟨_,rfl⟩;refine⟨(),(),cQ Pv (by rw [hPv];exact⟨ys,none,hl,hq1,rfl,s1⟩) ?_ ?_⟩
  ·rintro i Z H3 hi hI
   rw [hPv]at hI;obtain⟨zs,o4,zl,hq3,rfl,s3⟩:=hI;tm_at "r";refine je (s3.seq hS) () (by rw [aa0];omega) λv hv _=>?_;obtain⟨c,_,rfl⟩:=ac3.mp hv;refine⟨_,hq3,i,?_,?_⟩
   ·unfold BN
    rw [aa0,if_pos (),if_pos (),ag7]
   rw [hPv];refine⟨zs.set i c,_,by rw [List.length_set,zl],by rw [ae,List.map_set],rfl,y6 hq0 s3⟩
  ·rintro Z H3 hI
   rw [hPv]at hI;obtain⟨zs,o4,zl,hq3,rfl,s3⟩:=hI;exact hu _ _ ⟨zs,o4,zl,hq3,rfl,s3⟩
 rintro Ω ω _ H2 ⟨ys,o4,hl,hq2,rfl,s2⟩;refine ω _ _ ?_;tm_at "r";exact k q ys H2 hl hq0 hq2 s2
theorem cT.ix{i:Int}(h:cT H l nv cols)(h0:0<=i)(h1:i < cols.length)(q:∀(p:Addr) (us:List Int),us∈cols->H p=some (.tup (us.map V.int))->Q (.ref p) H):nk K (.ref l) (.int i) H Q:=by
 obtain⟨m,rfl⟩:=ae1 h0;obtain⟨⟨ps,h2,h3,h4⟩,_⟩:=h;have e1:ps[m]?=some (ps[m]'()):=aa2 ();have e2:cols[m]?=some (cols[m]'()):=aa2 ();exact bq (aJ.of h2) (aK (by rw [aa4,e1];rfl)) (q _ _ (ad5 _) (h4 m _ _ e1 e2))
theorem cT.put{c:Addr}(h:cT H l nv cols)(hc:H c=some (.tup (us.map V.int)))(hu:us.length=nv)(hps:H l=some (.lst (ps.map V.ref)))(hq:H q=none):cT (upd H q (.lst (ps.map V.ref++[.ref c]))) q nv (cols++[us]):=by
 obtain⟨⟨ps',h2,h3,h4⟩,h5⟩:=h;rw [hps]at h2
 have epp:ps=ps':=by
  have:=HO.lst.inj (Option.some.inj h2)
  exact List.map_inj_right (λx y e=>V.ref.inj e) |>.mp this
 subst epp;have s:=aq (o:=.lst (ps.map V.ref++[.ref c])) hq;refine⟨⟨ps++[c],by rw [ae,ab4];rfl,by simp [h3],λi p vs e1 e2=>?_⟩,λd hd=>?_⟩
 ·by_cases hi:i < ps.length
  ·rw [ab7 hi]at e1
   rw [ab7 ()]at e2;exact s _ _ (h4 i p vs e1 e2)
  ·rw [ac5 ()]at e1 e2
   have ei:i=ps.length:=by
    have:=(aa1.mp e1).1
    simp at this;omega
   rw [ei,ak0]at e1;rw [ei,h3,ak0]at e2;cases e1;cases e2;exact s _ _ hc
 ·rcases ac4.mp hd with hd | hd
  ·exact h5 d hd
  ·rw [ab8.mp hd];exact hu
theorem vQ{z:Bool}{ws:List Bool}(h:aJ K H a (ws.map V.bl))(q:∀b:Bool,Q (.bl b) H):jJ K (.bl z) (.ref a) H Q:=by
 refine .inr ⟨a,_,rfl,.inl h,rfl,?_,q _⟩;rw [ah8];exact af7.mpr λ_ _=>rfl
def pN(K:Frag):Sp:=λvs H Q _=>∃(l sm ru:Addr) (i:Int) (nv:Nat) (cols alls:List (List Int)) (Rs:List aH),vs=[.ref l,.ref sm,.int i,.ref ru]/\cT H l nv cols/\cT H sm nv alls/\0<=i/\i < alls.length/\alls.length<=1000/\jN H ru Rs/\Rs.length<=12/\(∀R∈Rs,cv nv R)/\cols.length<=99/\∀(c:Addr) (us:List Int) H',us∈alls->H' c=some (.tup (us.map V.int))->au H H'->Q (.ref c) H'
theorem uw(F:b0 K "_law_unbroken" "_law_unbroken" gq f fd)(T:Txt mg aM)(D_law_broken: ~~~cB "_law_broken" 3 ["_law_rule_here","_law_line_here","_law_k"] (jt K)): ~~~aL bU 4 f fd ["_law_line_here","_law_some_here","_law_at_here","_law_rules_here"] (pN K):=by
 refine F.ok sc_law_unbroken λ_ A _ s H vs Q E hr h=>?_;obtain⟨l,sm,ru,i,nv,cols,alls,Rs,rfl,hl,hm,i0,i1,a1,hT,r12,hg,c99,q⟩:=h
 refine⟨rfl,_,(ag (cw PassesOwn.never rfl (c9 rfl T.n_range (aa (aD (aG K) ⋯ T.n_len boot_len (aa (pr 1) ah)) ah)) (jR (i:=4) sc_law_unbroken.nd)
 (ag (cU (i:=5) sc_law_unbroken.nd (aw (aC K) (pr 1) (ar (o1 aU) (ar (bL K) (pr 2) (pr 4)) (aD (aG K) ⋯ T.n_len boot_len (aa (pr 1) ah))) (λ_ _=>rfl)))
 (ag (sX (i:=6) sc_law_unbroken.nd rfl (Or.inr rfl) (ar (bL K) (pr 0) (bN (aa (pr 5) ah))))
 (ag (ib (i:=7) sc_law_unbroken.nd rfl (Or.inl rfl) (own:=["_law_rule_here"]) (js:=[0,6]) rfl (bF K (pr 3)) (bB.of ⋯) (λ_ _ _ _ _=>(bM (i:=0) (show List.Nodup (["_law_rule_here","_law_line_here","_law_longer"]:List Str)from by decide +kernel) rfl (Or.inl rfl))) (λ_ _ _ _ _=>cn) (λ_ _ _ _ _=>(aA D_law_broken hr ⋯ (aa (pr 0) (aa (pr 2) (aa (aD (aG K) ⋯ T.n_len boot_len (aa (pr 1) ah)) ah))))) rfl)
 (ai (aP (ba (ay (eK K) lA (pr 7) (by with_unfolding_all rfl))) (ai (av (pr 5))) aB))))))
 (ai (av (aw (aC K) (pr 1) (pr 2) (λ_ _=>rfl))))),?_⟩
 have hs:=sizeLine_eq;refine aN (λZ H'=>∃o4 o5 o6 o7:Option V,Z=[↑l,↑sm,⇑i,↑ru,o4,o5,o6,o7]/\au H H') ?_ ?_
 ·intro u' hu
  tm_at "r";obtain⟨⟨ps,hps,hpl,_⟩,_⟩:=id hm;refine⟨_,.inl (aJ.of hps),?_⟩;rw [aa0,hpl];refine⟨(),(),cQ (λk Z H'=>∃o4 o5 o6 o7:Option V,Z=[↑l,↑sm,⇑i,↑ru,o4,o5,o6,o7]/\au H H') ⟨none,none,none,none,rfl,au.refl _⟩ ?_ λZ H' h=>hu _ _ h⟩;intro k Z H1 hk hI;refine ux λB hB=>?_;obtain⟨o4,o5,o6,o7,rfl,s1⟩:=hI;tm_at "r";refine hB _ _ ?_;clear hB B;refine aN (λZ H'=>∃(c:Addr) (us:List Int),us∈alls/\H' c=some (.tup (us.map V.int))/\Z=[↑l,↑sm,⇑i,↑ru,⇑k,↑c,o6,o7]/\H1=H') ?_ ?_
  ·intro u2 iX
   tm_at "r";refine⟨_,.inl (aJ.of (s1 _ _ hps)),?_⟩;rw [aa0,hpl];refine⟨(),(hm.same s1).ix (ad7 _ ()) (ad1 _ ()) λc us hus hc=>iX _ _ ⟨c,us,hus,hc,rfl,rfl⟩⟩
  rintro Ω ω _ _ ⟨c,us,hus,hc,rfl,rfl⟩;refine ω _ _ (aN (λZ H'=>∃g:Addr,cT H' g nv (cols++[us])/\Z=[↑l,↑sm,⇑i,↑ru,⇑k,↑c,↑g,o7]/\au H1 H') ?_ ?_)
  ·intro u2 iX
   tm_at "r";refine⟨(),λp1 hp1=>?_⟩;have s3:=aq (o:=.lst [.ref c]) hp1;obtain⟨⟨ls,hls,hll,_⟩,_⟩:=id (hl.same s1);exact g8 (s3 _ _ hls) ae (by rw [aa0,hll];simp;omega) λg hg'=>iX _ _ ⟨g,cT.put ((hl.same s1).same s3) (s3 _ _ hc) (hm.2 us hus) (s3 _ _ hls) hg',rfl,s3.upd hg'⟩
  rintro Ω ω _ H2 ⟨g,hgl,rfl,s2⟩;have s12:=s1.trans s2;refine ω _ _ ?_;refine iL λRk rk=>?_;tm_at "r";obtain⟨ws,hws,hwl,hwt⟩:=id (hT.same s12);refine bK (aJ.of hws) (bQ (xs:=ws.map V.ref) (λj ys H'=>∃bl:List Bool,ys=bl.map V.bl/\bl.length=j/\au H2 H') (by rw [aa0];omega) ⟨[],rfl,rfl,au.refl _⟩ (λj ys H' h=>by obtain⟨_,rfl,rfl,_⟩:=h;rw [aa0];exact aa9 _) (λj ys H' h=>by obtain⟨_,_,_,h⟩:=h;exact aJ.of (h _ _ hws)) ?_ ?_)
  ·rintro j x ys H' hj' ⟨bl,rfl,bll,s3⟩
   rw [aa4]at hj'
   cases hx:ws[j]? with
   | none=>rw [hx]at hj';cases hj'
   | some y=>
    rw [hx]at hj';cases hj'
    have hj:j < Rs.length:=by rw [<-hwl];exact(aa1.mp hx).1
    have eR:Rs[j]?=some Rs[j]:=aa2 hj;tm_at "r";obtain⟨⟨ls,hls,hll,_⟩,_⟩:=id (hl.same (s12.trans s3));refine⟨_,.inl (aJ.of hls),?_⟩;rw [aa0,hll];refine⟨y,g,cols.length,nv,cols++[us],Rs[j],rfl,(hwt j y _ hx eR).same s3,hg _ (ad5 hj),(hgl.same s3).line,by simp,by simp;omega,λH4 s4=>⟨bl++[_],by rw [ab4];rfl,by rw [aa8,bll];rfl,s3.trans s4⟩⟩
  ·rintro ys H3 ⟨bl,rfl,bll,s3⟩ b hb
   refine rk _ _ ?_;tm_at "r";refine vQ (aJ.of ae) λt=>⟨_,rfl,?_⟩
   cases t with
   | true=>
    rw [if_pos rfl];exact q c us _ hus (((s2.trans s3).upd hb) _ _ hc) ((s12.trans s3).upd hb)
   | false=>
    rw [if_neg aa6];exact(s12.trans s3).upd hb
 rintro Ω ω _ H1 ⟨o4,o5,o6,o7,rfl,s1⟩;refine ω _ _ ?_;tm_at "r";exact(hm.same s1).ix i0 i1 λc us hus hc=>q c us _ hus hc s1
inductive v9(K:Frag):Sp
 | mk {vs:List V} {H:Hp} {Q:VK} {E:XK} (l ce r ru:Addr) (bs:List (Int×Int)) (cols:List (List Int)) (ys:List Int) (Rs:List aH):vs=[.ref l,.ref ce,.ref r,.ref ru]->cT H l bs.length cols->aJ K H ce (ys.map V.int)->bP K H r bs->1<=bs.length->bs.length<=4->(∀b∈bs,xb b)->jC bs<=400->jN H ru Rs->Rs.length<=12->(∀R∈Rs,cv bs.length R)->cols.length+ys.length<=99->(∀(g:Addr) (cols':List (List Int)) H',cT H' g bs.length cols'->cols'.length=cols.length+ys.length->(∃more,cols'=cols++more)->au H H'->Q (.ref g) H')->v9 K vs H Q E
theorem CJ(F:b0 K "_law_line" "_law_line" ki f fd)(T:Txt mg aM)(D_law_columns: ~~~cB "_law_columns" 4 ["_law_ranges_here"] (pH K))(D_law_unbroken: ~~~cB "_law_unbroken" 4 ["_law_line_here","_law_some_here","_law_at_here","_law_rules_here"] (pN K)): ~~~aL bU 5 f fd ["_law_line_here","_law_cells_here","_law_ranges_here","_law_rules_here"] (v9 K):=by
 refine F.ok sc_law_line λ_ A _ s H vs Q E hr h=>?_;obtain⟨l,ce,r,ru,bs,cols,ys,Rs,rfl,hl,hce,hR,b1,b4,hb,cb,hT,r12,hg,c99,q⟩:=h
 refine⟨rfl,_,(ag (cU (i:=4) sc_law_line.nd (aA D_law_columns hr ⋯ (aa (pr 2) ah)))
 (ag (cw PassesOwn.never rfl (bF K (pr 1)) (jR (i:=5) sc_law_line.nd)
 (ai (aP (ba (ay gJ (ar (o1 aU) (ar (o1 dj) (pr 5) af) af) af (az _))) (ai (cU (i:=0) sc_law_line.nd (ar (bL K) (pr 0) (bN (aa (aw (aC K) (pr 4) (ar (o1 aU) (pr 5) (aD (aG K) ⋯ T.n_len boot_len (aa (pr 4) ah))) (λ_ _=>rfl)) ah))))) (ai (cU (i:=0) sc_law_line.nd (ar (bL K) (pr 0) (bN (aa (aA D_law_unbroken hr ⋯ (aa (pr 0) (aa (pr 4) (aa (ar (o1 aU) (pr 5) (aD (aG K) ⋯ T.n_len boot_len (aa (pr 4) ah))) (aa (pr 3) ah))))) ah))))))))
 (ai (av (pr 0))))),?_⟩
 have hs:=sizeLine_eq;have hw:∀b∈bs,1<=wN b:=λb h=>(hb b h).big.2.2.2.2;have cg:1<=jC bs:=nU bs 1 hw;have cl:=eU bs;refine aN (λZ H'=>∃sm:Addr,cT H' sm bs.length (bp bs)/\Z=[↑l,↑ce,↑r,↑ru,↑sm,none]/\au H H') ?_ ?_
 ·intro u' hu
  tm_at "r";exact⟨r,bs,rfl,hR,b4,hw,cb,λsm H1 _ hsm s1=>hu _ _ ⟨sm,⟨hsm,eB bs⟩,rfl,s1⟩⟩
 rintro Ω ω _ H1 ⟨sm,hsm,rfl,s1⟩;refine ω _ _ (aN (λZ H'=>∃(g:Addr) (cols':List (List Int)) (o5:Option V),cT H' g bs.length cols'/\cols'.length=cols.length+ys.length/\(∃more,cols'=cols++more)/\Z=[↑g,↑ce,↑r,↑ru,↑sm,o5]/\au H H') ?_ ?_)
 ·intro u' hu
  tm_at "r";refine bK (s1.seq hce) (c7 (xs:=ys.map V.int) (λi Z H'=>∃(g:Addr) (cols':List (List Int)) (o5:Option V),cT H' g bs.length cols'/\cols'.length=cols.length+i/\(∃more,cols'=cols++more)/\Z=[↑g,↑ce,↑r,↑ru,↑sm,o5]/\au H1 H') ⟨l,cols,none,hl.same s1,rfl,⟨[],(ae6 _).symm⟩,rfl,au.refl _⟩ (λi Z H' _ h=>by obtain⟨_,_,_,_,_,_,_,h⟩:=h;exact(s1.trans h).seq hce) ?_ λZ H' ⟨g,cols',o5,h1,h2,hm,h3,h4⟩=>hu _ _ ⟨g,cols',o5,h1,by rw [h2,aa0],hm,h3,s1.trans h4⟩);rintro i x Z H2 hx hI;refine ux λB hB=>?_;obtain⟨g,cols',o5,hgl,hcl,⟨more,hmo⟩,rfl,s2⟩:=hI
  have hi:i < ys.length:=by have:=(aa1.mp hx).1;rw [aa0]at this;exact this
  obtain⟨c,_,rfl⟩:=ac3.mp (ac0 hx);tm_at "r";refine hB _ _ (lY λA0 B0 hA hB2=>?_)
  have put:∀{H3:Hp} {d:Addr} {us:List Int},au H2 H3->us∈bp bs->H3 d=some (.tup (us.map V.int))->0+1<=sizeLine/\∀p:Addr,H3 p=none->eT K (.ref g) (.ref p) (upd H3 p (.lst [.ref d])) λx H1'=>∃(g:Addr) (cols':List (List Int)),cT H1' g bs.length cols'/\cols'.length=cols.length+(i+1)/\(∃more,cols'=cols++more)/\x=.ref g/\au H1 H1':=λ{H3 d us} s3 hus hd=>by
   refine⟨(),λp hp=>?_⟩;have s4:=aq (o:=.lst [.ref d]) hp;obtain⟨⟨ls,hls,hll,_⟩,_⟩:=id (hgl.same s3);exact g8 (s4 _ _ hls) ae (by rw [aa0,hll];simp;omega) λg' hg'=>⟨g',cols' ++ [us],cT.put ((hgl.same s3).same s4) (s4 _ _ hd) (eB bs us hus) (s4 _ _ hls) hg',by rw [aa8,hcl];rfl,⟨more++[us],by rw [hmo,aj3]⟩,rfl,(s2.trans s3).trans (s4.upd hg')⟩
  obtain⟨⟨ps,hps,hpl,_⟩,_⟩:=id (hsm.same s2);tm_at "r";refine⟨⟨∅,∅⟩,∅,?_⟩
  by_cases h:c / 1009 % 9=4
  ·rw [if_pos h]
   refine hA _ ?_;tm_at "r";refine⟨_,.inl (aJ.of hps),?_⟩;rw [aa0,hpl];exact⟨(),(hsm.same s2).ix (ad7 _ ()) (ad1 _ ()) λd us hus hd=>put (au.refl _) hus hd⟩
  ·rw [if_neg h]
   refine hB2 _ ?_;tm_at "r";refine⟨_,.inl (aJ.of hps),?_⟩;rw [aa0,hpl];exact⟨(),g,sm,ru,_,bs.length,cols',bp bs,Rs,rfl,hgl,hsm.same s2,ad7 _ (),ad1 _ (),(),hT.same (s1.trans s2),r12,hg,(),λd us H3 hus hd s3=>put s3 hus hd⟩
 rintro Ω ω _ H2 ⟨g,cols',o5,hgl,hcl,hmo,rfl,s2⟩;refine ω _ _ ?_;tm_at "r";exact q g cols' H2 hgl hcl hmo s2
def gE(Ss:List bV)(cols:List (List Int)):MS->List (List Int)->Option MS
 | s,[]=>some s
 | s,c::l=>if c∈cols then(match dc Ss s c with | none=>none | some s'=>gE Ss cols s' l)else none
def nQ(P:Program)(w:World)(C:Addr)(Ss:List bV)(cols:List (List Int))(met:List MS)(x:Addr)(H:Hp):Prop:=jV P w C Ss cols met x H/\met[0]?=some (none,Ss.map (·.start))/\∀(s:MS),s∈met->∀c∈cols,∀s',dc Ss s c=some s'->s'∈met
theorem nQ.same(h:nQ P w C Ss cols met x H)(s:au H H'):nQ P w C Ss cols met x H':=⟨h.1.same s,h.2⟩
def Bg(P:Program)(w:World)(K:Frag)(C:Addr):Sp:=λvs H Q _=>∃(x l:Addr) (Ss:List bV) (cols:List (List Int)) (met:List MS) (line:List (List Int)),vs=[.ref x,.ref l]/\nQ P w C Ss cols met x H/\dq H l line/\
 (gE Ss cols (none,Ss.map (·.start)) line=none->Q .non H)/\∀(j:Nat) (s:MS),gE Ss cols (none,Ss.map (·.start)) line=some s->met[j]?=some s->Q (.int j) H
theorem CT(F:b0 K "walk" "Machine.walk" gn f fd)(T:Txt mg aM)(M_to: ~~~aF C "to" 1 ["self","state","column"] (Gq P w C)): ~~~aL bU 2 f fd ["self","line"] (Bg P w K C):=by
 refine F.ok sc_Machine_walk λ_ A _ s H vs Q E hr h=>?_;obtain⟨x,l,Ss,cols,met,line,rfl,⟨MA,m0,mc⟩,⟨ps,hps,hpl,hpc⟩,kn,ks⟩:=h
 refine⟨rfl,_,(ag (cU (i:=2) sc_Machine_walk.nd (ia T.g_START))
 (ag (cw PassesOwn.never rfl (bF K (pr 1)) (jR (i:=3) sc_Machine_walk.nd)
 (ag (cU (i:=2) sc_Machine_walk.nd (~~~g6 hr (pr 0) (aa (pr 2) (aa (pr 3) ah))))
 (ai (aP (ba (ay eL (pr 2) aZ (az _))) (ai (av aZ)) aB))))
 (ai (av (pr 2))))),?_⟩
 have hs:=sizeLine_eq;refine aN (λZ H'=>Z=[↑x,↑l,some (.int 0),none]/\H=H') ?_ ?_
 ·intro u' hu
  tm_at "r";exact hu _ _ ⟨rfl,rfl⟩
 rintro Ω ω _ _ ⟨rfl,rfl⟩
 obtain⟨Pv,hPv⟩:∃Pv:Nat->L2.St->Hp->Prop,Pv=λi Z H'=>∃(j:Nat) (s:MS) (o3:Option V),met[j]?=some s/\gE Ss cols (none,Ss.map (·.start)) line=gE Ss cols s (line.drop i)/\Z=[↑x,↑l,⇑j,o3]/\H=H':=⟨_,rfl⟩
 refine ω _ _ (aN (λZ H'=>Pv line.length Z H') ?_ ?_)
 ·intro u' hu
  tm_at "r";refine bK (aJ.of hps) (c7 (xs:=ps.map V.ref) Pv (by rw [hPv];exact⟨0,_,none,m0,rfl,rfl,rfl⟩) (λi Z H' _ h=>by rw [hPv]at h;obtain⟨_,_,_,_,_,_,rfl⟩:=h;exact aJ.of hps) ?_ ?_)
  ·intro i y Z H' hy hI
   rw [hPv]at hI;obtain⟨j,st,o3,hj,hw,rfl,rfl⟩:=hI;rw [aa4]at hy
   cases ht:ps[i]? with
   | none=>rw [ht]at hy;cases hy
   | some t=>
    rw [ht]at hy;cases hy
    have hi:i < line.length:=by rw [<-hpl];exact(aa1.mp ht).1
    have hc:=hpc i t line[i] ht (aa2 hi);rw [ak1 hi,gE]at hw;tm_at "r";obtain⟨dx,la,wl,sc,hx,MB⟩:=id MA;refine⟨C,dx,_,hx,by unfold cC;tm_at "f",_,_,M_to,x,t,Ss,cols,met,j,line[i],st,rfl,MA,hj,hc,λj' s' hcc hn hj'=>?_,λh=>?_⟩
    ·rw [if_pos hcc,hn]at hw
     rw [if_neg (by simp),hPv];exact⟨j',s',_,hj',hw,rfl,rfl⟩
    ·show(if V.non=V.non then _ else _)
     rw [if_pos rfl];refine kn ?_;rw [hw]
     by_cases hcc:line[i]∈cols
     ·rw [if_pos hcc,h hcc]
     ·rw [if_neg hcc]
  ·intro Z H' hI
   rw [aa0,hpl]at hI;exact hu _ _ hI
 intro Ω ω;intro Z H' hI;rw [hPv]at hI;obtain⟨j,st,o3,hj,hw,rfl,rfl⟩:=hI;rw [ao0,gE]at hw;refine ω _ _ ?_;tm_at "r";exact ks j st hw hj
def uW(Rs:List aH)(ln:List (List Int))(i:Nat):MS:=(g7 ln i,Rs.map λR=>ua ln i R)
theorem Bm(nv:Nat){Rs:List aH}(ln:List (List Int))(hg:∀R∈Rs,cv nv R):uW Rs ln 0=(none,(Rs.map bE).map (·.start)):=by
 unfold uW;rw [ai7];refine Prod.ext rfl (List.map_congr_left λR hR=>?_);exact(xI nv ln R (hg R hR)).m0.symm
theorem w9(nv:Nat)(hu:ln[i]?=some us):∀{Rs:List aH},(∀R∈Rs,cv nv R)->eC (Rs.map bE) (Rs.map λR=>ua ln i R) (g7 ln i) us=if Rs.any (iT ln i)=true then none else some (Rs.map λR=>ua ln (i+1) R)
 | [],_=>rfl
 | R::Rs,hg=>by
  have ih:=w9 nv hu (Rs:=Rs) λR' h=>hg R' (.tail _ h);have h1:=(xI nv ln R (hg R (.head _))).st i us hu;unfold eC mj at ih |-;rw [ac7,ac7,List.zipWith_cons_cons,h1,ai1]
  cases hb:iT ln i R with
  | true=>rfl
  | false=>
   show(qM _).map _=_;rw [ih]
   cases Rs.any (iT ln i)<;>rfl
theorem Bk(nv:Nat){Rs:List aH}(hg:∀R∈Rs,cv nv R)(hu:ln[i]?=some us):dc (Rs.map bE) (uW Rs ln i) us=if Rs.any (iT ln i)=true then none else some (uW Rs ln (i+1)):=by
 unfold dc uW;rw [w9 nv hu hg]
 cases Rs.any (iT ln i)with
 | true=>rfl
 | false=>
  show some (some us,_)=some (g7 ln (i+1),_);rw [show g7 ln (i+1)=ln[i]? from rfl,hu]
theorem Bj(nv:Nat){Rs:List aH}(hg:∀R∈Rs,cv nv R)(hi:i<=ln.length):dP (Rs.map bE) (uW Rs ln i).2 (uW Rs ln i).1=!(Rs.any (h8 (ln.take i))):=by
 unfold dP uW;dsimp only
 induction Rs with
 | nil=>rfl
 | cons R Rs ih=>
  rw [ac7,ac7,List.zipWith_cons_cons,al3,ih λR' h=>hg R' (.tail _ h),ai1,zt nv ln R (hg R (.head _)) i hi]
  cases h8 (ln.take i) R<;>rfl
theorem Co(hu:ln[i]?=some us)(hw:us.length=bs.length):us∈bp bs↔(List.range bs.length).any (sS bs ln i)=false:=by
 have eg:ln.getD i []=us:=by rw [ab5,hu];rfl
 rw [x9,ak8]
 constructor
 ·rintro⟨_,h⟩ v hv
  have hv:=af9.mp hv;have e1:bs[v]?=some bs[v]:=aa2 hv;have e2:us[v]?=some (us[v]'()):=aa2 ()
  have:=h v _ _ e1 e2
  unfold sS;rw [eg,ab5,e1,ab5,e2];show ¬(!decide ((bs[v]).1<=us[v]'()/\us[v]'()<=(bs[v]).2))=true;rw [decide_eq_true this];exact aa6
 ·intro h
  refine⟨hw,λv b u e1 e2=>?_⟩
  have:=h v (af9.mpr (aa1.mp e1).1)
  unfold sS at this;rw [eg,ab5,e1,ab5,e2]at this
  by_cases hh:b.1<=u/\u<=b.2
  ·exact hh
  ·exact absurd (show(!decide (b.1<=u/\u<=b.2))=true by rw [decide_eq_false hh];rfl) this
theorem Bl{Rs:List aH}(hg:∀R∈Rs,cv bs.length R)(hu:ln[i]?=some us)(hw:us.length=bs.length):(eS bs Rs ln i=false↔us∈bp bs/\dc (Rs.map bE) (uW Rs ln i) us=some (uW Rs ln (i+1)))/\(eS bs Rs ln i=true->us∉bp bs\/dc (Rs.map bE) (uW Rs ln i) us=none):=by
 have h1:=Co (bs:=bs) hu hw;have h2:=Bk bs.length hg hu;unfold eS
 cases ha:(List.range bs.length).any (sS bs ln i)<;>cases hb:Rs.any (iT ln i)<;>rw [ha]at h1<;>rw [hb]at h2
 ·exact⟨⟨λ_=>⟨h1.mpr rfl,h2⟩,λ_=>rfl⟩,λz=>(by cases z)⟩
 ·exact⟨⟨λz=>(by cases z),λz=>(by rw [h2]at z;cases z.2)⟩,λ_=>.inr h2⟩
 ·exact⟨⟨λz=>(by cases z),λz=>(by cases h1.mp z.1)⟩,λ_=>.inl λz=>(by cases h1.mp z)⟩
 ·exact⟨⟨λz=>(by cases z),λz=>(by cases h1.mp z.1)⟩,λ_=>.inl λz=>(by cases h1.mp z)⟩
theorem xH{Rs:List aH}(hg:∀R∈Rs,cv bs.length R)(hw:∀c∈ln,c.length=bs.length):∀(n i:Nat),i+n<=ln.length->((∀j,i<=j->j < i+n->eS bs Rs ln j=false)->gE (Rs.map bE) (bp bs) (uW Rs ln i) ((ln.drop i).take n)=some (uW Rs ln (i+n)))/\((∃j,i<=j/\j < i+n/\eS bs Rs ln j=true)->gE (Rs.map bE) (bp bs) (uW Rs ln i) ((ln.drop i).take n)=none)
 | 0,i,_=>⟨λ_=>rfl,λ⟨j,h1,h2,_⟩=>by omega⟩
 | n+1,i,h=>by
  have hi:i < ln.length:=by omega
  have hu:ln[i]?=some ln[i]:=aa2 hi;have ih:=xH hg hw n (i+1) ();obtain⟨t1,t2⟩:=Bl hg hu (hw _ (ad5 hi));rw [ak1 hi,am4,gE]
  cases hb:eS bs Rs ln i with
  | false=>
   obtain⟨c1,c2⟩:=t1.mp hb;rw [if_pos c1,c2];refine⟨λg=>?_,λ⟨j,g1,g2,g3⟩=>?_⟩
   ·have:=ih.1 λj h1 h2=>g j () ()
    rw [show i+1+n=i+(n+1)by omega]at this;exact this
   ·exact ih.2 ⟨j,by
     by_cases e:j=i
     ·subst e;rw [hb]at g3;cases g3
     ·omega,(),g3⟩
  | true=>
   refine⟨λg=>?_,λ_=>?_⟩
   ·have:=g i (aa9 _) ()
    rw [hb]at this;cases this
   ·rcases t2 hb with c | c
    ·rw [if_neg c]
    ·by_cases cc:ln[i]∈bp bs
     ·rw [if_pos cc,c]
     ·rw [if_neg cc]
theorem zZ(n:Nat):(L2.intsFrom 0 n).length=n:=by simp [L2.intsFrom]
theorem Ak{c d:Nat}(hne:d≠c):∀ps:List (List Nat),(∀p∈ps,d∉p)->d∉dv c ps
 | [],_=>by simp [dv]
 | p::r,h=>by
  intro hd;rw [dv,ac4,List.mem_flatten]at hd;rcases hd with hd | ⟨l,hl,hd⟩
  ·exact h p (.head _) hd
  ·obtain⟨q,hq,rfl⟩:=ac3.mp hl
   rcases ab2.mp hd with e | e
   ·exact hne e
   ·exact h q (.tail _ hq) e
theorem lp(n:Int):10∉(aR n).cps.toList:=λh=>by
 have:=oH n 10 h
 omega
theorem Al(R:cY):10∉(aQ R).cps.toList:=by
 cases R<;>(simp only [aQ];decide +kernel)
theorem t8(h:∀z∈ws,10∉z.cps.toList):10∉(Txt.join (Str.ofString " ") ws).cps.toList:=by
 rw [show(Str.ofString " ")=⟨#[32]⟩by decide +kernel,cP];refine Ak ∅ _ λp hp=>?_;obtain⟨z,hz,rfl⟩:=ac3.mp hp;exact h z hz
theorem wH(R:aH):10∉(dm R).cps.toList:=by
 have one:∀R:cY,∀z∈aQ R::(de R).map aR,10∉z.cps.toList:=λR z hz=>by
  rcases ab2.mp hz with rfl | hz
  ·exact Al R
  ·obtain⟨n,_,rfl⟩:=ac3.mp hz
   exact lp n
 cases R with
 | plain R=>exact t8 (one R)
 | every m a R=>
  refine t8 λz hz=>?_;rcases ab2.mp hz with rfl | hz
  ·decide +kernel
  rcases ab2.mp hz with rfl | hz
  ·exact lp m
  rcases ab2.mp hz with rfl | hz
  ·exact lp a
  exact one R z hz
theorem xG(h1:b.1.natAbs < 10 ^ 40)(h2:b.2.natAbs < 10 ^ 40):f7 (pS b) (Str.ofString "voice") [b.1,b.2]:=A5 (by decide +kernel) h1 h2 (by decide +kernel) (by decide +kernel) (by decide +kernel)
theorem BE(b:Int×Int):10∉(pS b).cps.toList:=by
 show 10∉((Str.ofString "voice ").cps++(aR b.1).cps++(Str.ofString " ").cps++(aR b.2).cps).toList;rw [ah0,ah0,ah0];intro h;rcases ac4.mp h with h | h
 ·rcases ac4.mp h with h | h
  ·rcases ac4.mp h with h | h
   ·exact absurd h (by decide +kernel)
   ·exact lp _ h
  ·exact absurd h (by decide +kernel)
 ·exact lp _ h
theorem wc{Rs:List aH}(h:1<=bs.length):Txt.split (kA bs Rs) ⟨#[10]⟩=bs.map pS++Rs.map dm:=by
 have h:bs.map pS++Rs.map dm≠[]:=λe=>by
  rw [List.map_eq_nil_iff.mp (List.append_eq_nil_iff.mp e).1]at h;exact absurd h ∅
 unfold kA ic;rw [show(Str.ofString "\n")=⟨#[10]⟩by decide +kernel];refine m8 ∅ h λz hz=>?_;rcases ac4.mp hz with hz | hz
 ·obtain⟨b,_,rfl⟩:=ac3.mp hz
  exact BE b
 ·obtain⟨R,_,rfl⟩:=ac3.mp hz
  exact wH R
theorem BA{Rs:List aH}(b4:bs.length<=4)(r4:Rs.length<=12)(hb:∀b∈bs,b.1.natAbs < 10 ^ 40/\b.2.natAbs < 10 ^ 40)(hR:∀R∈Rs,uk R):(kA bs Rs).length<=1000000:=by
 unfold kA ic;rw [bh,show(Str.ofString "\n")=⟨#[10]⟩by decide +kernel,cP]
 have hl:=jF 10 ((bs.map pS++Rs.map dm).map λz=>z.cps.toList) 10000 (λp hp=>by
  obtain⟨z,hz,rfl⟩:=ac3.mp hp;rw [<-bh];rcases ac4.mp hz with hz | hz
  ·obtain⟨b,hb',rfl⟩:=ac3.mp hz
   exact(xG (hb b hb').1 (hb b hb').2).len
  ·obtain⟨R,hR',rfl⟩:=ac3.mp hz
   exact(fW R (hR R hR')).1)
 simp only [aa0,aa8]at hl;omega
theorem sh{x:Int}{i:Int}(h:x∈L2.intsFrom i n):i<=x/\x < i+n:=by
 obtain⟨j,hj,rfl⟩:=ac3.mp h
 have:=af9.mp hj
 omega
def jW:List aH->List Int->Prop
 | [],[]=>True
 | R::Rs,m::ms=>(0<=m/\m < dz R)/\jW Rs ms
 | _,_=>False
def mU:List aH->List (List Int)
 | []=>[[]]
 | R::Rs=>(L2.intsFrom 0 (dz R).toNat).flatMap λm=>(mU Rs).map (m::·)
theorem uc:∀{Rs:List aH} {ms:List Int},jW Rs ms->ms∈mU Rs
 | [],[],_=>.head _
 | [],_::_,h=>h.elim
 | _::_,[],h=>h.elim
 | R::Rs,m::ms,⟨⟨h1,h2⟩,h3⟩=>by
  refine ag5.mpr ⟨m,?_,ac3.mpr ⟨ms,uc h3,rfl⟩⟩;unfold L2.intsFrom;exact ac3.mpr ⟨m.toNat,af9.mpr (),()⟩
theorem tW:∀{Rs:List aH} {ms:List Int},ms∈mU Rs->jW Rs ms
 | [],ms,h=>by
  rw [ab8.mp h];trivial
 | R::Rs,ms,h=>by
  obtain⟨m,hm,h⟩:=ag5.mp h;obtain⟨ms',h',rfl⟩:=ac3.mp h
  have:=sh hm
  exact⟨(),tW h'⟩
theorem oy(f:α->List β)(n:Nat):∀l:List α,(∀a,(f a).length=n)->(l.flatMap f).length=l.length * n
 | [],_=>(Nat.zero_mul _).symm
 | a::l,h=>by
  rw [an5,aa8,h,oy f n l h,ad4,am7,Nat.add_comm]
theorem rq:∀(Rs:List aH) (a:Int),(∀R∈Rs,1<=dz R)->Rs.foldl (λt R=>t * dz R) a=a * ((mU Rs).length:Int)
 | [],a,_=>(Int.mul_one a).symm
 | R::Rs,a,h=>by
  rw [ae5,rq Rs _ λR' h'=>h R' (.tail _ h')];have h1:=h R (.head _)
  show _=a * ((((L2.intsFrom 0 (dz R).toNat).flatMap λm=>(mU Rs).map (m::·)).length:Nat):Int)
  rw [oy _ (mU Rs).length _ λm=>aa0 ..,zZ,ao9,am1 (),Int.mul_assoc]
theorem zj{R:aH}{m m':Int}{b:Option (List Int)}(hg:cv nv R)(h:0<=m/\m < dz R)(e:(bE R).after m b us=some m'):0<=m'/\m' < dz R:=by
 cases R with
 | plain R=>
  cases R<;>simp only [bE,gv,fu,ef,fV,eO,dy,eo,cM,ee,eP]at e
  case back=>(repeat' split at e)<;>cases e<;>exact⟨∅,by show _ < (3:Int);decide⟩
  case held=>obtain⟨_,_,g⟩:=hg;simp only [dz,gv,eo]at h |-;(repeat' split at e)<;>cases e<;>omega
  case times=>simp only [dz,gv,cM]at h |-;(repeat' split at e)<;>cases e<;>omega
  all_goals (repeat' split at e)<;>cases e<;>exact h
 | every t u R=>
  obtain⟨_,_,g,_,_⟩:=hg;have h3:=ad7 (m+1) (show t≠0 by omega);have h4:=ad1 (m+1) (show 0 < t by omega);simp only [bE,eQ]at e
  (repeat' split at e)<;>cases e<;>exact⟨h3,h4⟩
theorem oF{b:Option (List Int)}:∀{Rs:List aH} {ms ms':List Int},(∀R∈Rs,cv nv R)->jW Rs ms->eC (Rs.map bE) ms b us=some ms'->jW Rs ms'
 | [],[],_,_,_,e=>by cases e;trivial
 | [],_::_,_,_,h,_=>h.elim
 | _::_,[],_,_,h,_=>h.elim
 | R::Rs,m::ms,ms',hg,⟨h1,h2⟩,e=>by
  have e:qM ((bE R).after m b us::mj (Rs.map bE) ms b us)=some ms':=e
  cases ea:(bE R).after m b us with
  | none=>rw [ea]at e;cases e
  | some m1=>
   rw [ea]at e
   have e:(qM (mj (Rs.map bE) ms b us)).map (m1::·)=some ms':=e
   cases er:qM (mj (Rs.map bE) ms b us)with
   | none=>rw [er]at e;cases e
   | some r=>
    rw [er]at e;cases e;exact⟨zj (hg R (.head _)) h1 ea,oF (λR' h'=>hg R' (.tail _ h')) h2 er⟩
theorem uX:∀{Rs:List aH},(∀R∈Rs,1<=dz R)->jW Rs ((Rs.map bE).map (·.start))
 | [],_=>trivial
 | R::Rs,h=>by
  have e:(bE R).start=0:=by
   cases R with
   | plain R=>cases R<;>rfl
   | every _ _ _=>rfl
  have h1:=h R (.head _);refine⟨?_,uX λR' h'=>h R' (.tail _ h')⟩;show 0<=(bE R).start/\(bE R).start < dz R;rw [e];omega
def Fu(bs:List (Int×Int))(Rs:List aH):List MS:=(none,(Rs.map bE).map (·.start))::(bp bs).flatMap λc=>(mU Rs).map λms=>(some c,ms)
theorem xA{Rs:List aH}(hb:∀b∈bs,b.1<=b.2)(h:∀R∈Rs,1<=dz R):((Fu bs Rs).length:Int)=gU bs Rs+1:=by
 unfold Fu gU;rw [ad4,oy _ (mU Rs).length _ λm=>aa0 ..,eU,rq Rs _ h,xK hb]
 push_cast
 rfl
theorem we{Rs:List aH}(hb:∀b∈bs,b.1<=b.2)(hg:∀R∈Rs,cv bs.length R)(h:∀R∈Rs,1<=dz R)(hw:gU bs Rs<=400):vc (Rs.map bE) (bp bs) (Fu bs Rs):=by
 refine⟨.head _,λs hs c hc s' e=>?_,?_⟩
 ·have hm:jW Rs s.2:=by
   rcases ab2.mp hs with rfl | hs
   ·exact uX h
   ·obtain⟨c',_,hs⟩:=ag5.mp hs
    obtain⟨ms,hms,rfl⟩:=ac3.mp hs;exact tW hms
  unfold dc at e
  cases ea:eC (Rs.map bE) s.2 s.1 c with
  | none=>rw [ea]at e;cases e
  | some ms=>
   rw [ea]at e;cases e;exact .tail _ (ag5.mpr ⟨c,hc,ac3.mpr ⟨ms,uc (oF hg hm ea),rfl⟩⟩)
 ·have:=xA hb h
  omega
theorem Gr{Rs:List aH}(hb:∀b∈bs,b.1<=b.2)(h:∀R∈Rs,1<=dz R)(m:wO (Rs.map bE) (bp bs) met)(hU:∀s∈met,s∈Fu bs Rs):1<=met.length/\(met.length:Int)<=gU bs Rs+1:=by
 have h1:=(aa1.mp m.st).1;have h2:=oG met (Fu bs Rs) m.nd hU;have h3:=xA hb h;exact⟨(),()⟩
theorem wu{Rs:List aH}(h:∀R∈Rs,cv nv R):rV (Rs.map Fx) ((Rs.map bE).map (·.start)):=by
 refine⟨by rw [aa0,aa0,aa0],λj G m e1 e2=>?_⟩;rw [aa4]at e1 e2;rw [aa4]at e2
 cases hR:Rs[j]? with
 | none=>rw [hR]at e1;cases e1
 | some R=>
  rw [hR]at e1 e2;cases e1;cases e2;have hg:=h R (ac0 hR)
  cases R with
  | plain R=>
   cases R with
   | back o cN=>exact⟨ap1 _,by show(0:Int)<=2;decide⟩
   | held o most=>exact⟨ap1 _,by show(0:Int) < most;obtain⟨_,_,g⟩:=hg;omega⟩
   | times o nt lw hh=>exact⟨ap1 _,by show(0:Int)<=hh;obtain⟨_,_,g⟩:=hg;omega⟩
   | _=>trivial
  | every m a R=>exact⟨ap1 _,by show(0:Int) < m;obtain⟨_,_,g,_⟩:=hg;omega⟩
theorem Az(h:∀b∈bs,xb b):∀b∈bs,b.1.natAbs < 10 ^ 40/\b.2.natAbs < 10 ^ 40:=λb hb=>⟨(h b hb).big.2.1,(h b hb).big.2.2.1⟩
theorem Dq{Rs:List aH}{E}(b1:1<=bs.length)(b4:bs.length<=4)(r12:Rs.length<=12)(hb:∀b∈bs,xb b)(hR:∀R∈Rs,rA bs.length R)(hw:gU bs Rs<=400)(q:∀x H',~~~jx C bs.length bs Rs x H'->au H H'->Q (.ref x) H'): ~~~tG C [.str (kA bs Rs)] H Q E:=by
 have nb:=Az hb;refine⟨kA bs Rs,bs,pS,Rs,rfl,BA b4 r12 nb λR h=>(hR R h).2.1,wc b1,b1,b4,r12,λb h=>?_,λR h=>⟨(hR R h).1,(hR R h).2.1,?_⟩,hw,q⟩
 ·refine⟨xG (nb b h).1 (nb b h).2,(hb b h).1,?_⟩
  have l1:=(hb b h).1;have l3:=(hb b h).2.2;unfold hJ;omega
 ·obtain⟨_,_,h1,h2⟩:=hR R h
  omega
def nr(bs:List (Int×Int))(Rs:List aH):MS->List (List Int)->Nat->Option Nat
 | s,[],i=>if dP (Rs.map bE) s.2 s.1=true then none else some i
 | s,c::t,i=>if c∈bp bs then(match dc (Rs.map bE) s c with | none=>some i | some s'=>nr bs Rs s' t (i+1))else some i
theorem xk(bs:List (Int×Int))(Rs:List aH)(k:Nat):∀(t:List (List Int)) (s:MS) (i:Nat),nr bs Rs s t (i+k)=(nr bs Rs s t i).map (· + k)
 | [],s,i=>by
  unfold nr
  split<;>rfl
 | c::t,s,i=>by
  unfold nr
  split
  ·cases dc (Rs.map bE) s c with
   | none=>rfl
   | some s'=>
    show nr bs Rs s' t (i+k+1)=(nr bs Rs s' t (i+1)).map (· + k)
    rw [<-xk bs Rs k t s' (i+1),Nat.add_right_comm]
  ·rfl
theorem tV{Rs:List aH}(hg:∀R∈Rs,cv bs.length R)(hw:∀c∈ln,c.length=bs.length):∀(n i:Nat),i+n=ln.length->(∀j,j < i->eS bs Rs ln j=false)->iI bs Rs ln=nr bs Rs (uW Rs ln i) (ln.drop i) i
 | 0,i,e,hb=>by
  have e:i=ln.length:=e;subst e;unfold iI;rw [gB _ _ 0 λj _ h=>hb j (),ao0,nr,Bj bs.length hg (aa9 _),ad6]
  cases Rs.any (h8 ln)<;>rfl
 | n+1,i,e,hb=>by
  have hi:i < ln.length:=by omega
  have hu:ln[i]?=some ln[i]:=aa2 hi;obtain⟨t1,t2⟩:=Bl hg hu (hw _ (ad5 hi));rw [ak1 hi,nr]
  cases hbi:eS bs Rs ln i with
  | false=>
   obtain⟨c1,c2⟩:=t1.mp hbi;rw [if_pos c1,c2]
   exact tV hg hw n (i+1) () λj hj=>by
    by_cases e:j=i
    ·subst e;exact hbi
    ·exact hb j ()
  | true=>
   unfold iI;rw [j4 _ i hbi hb _ hi];rcases t2 hbi with c | c
   ·rw [if_neg c]
   ·by_cases cc:ln[i]∈bp bs
    ·rw [if_pos cc,c]
    ·rw [if_neg cc]
def nT(bs:List (Int×Int))(Rs:List aH)(ln tl:List (List Int)):Int:=match iI bs Rs (ln++tl)with
 | some j=>(j:Int) - (ln.length:Int)
 | none=>-1
theorem qS{Rs:List aH}{tl:List (List Int)}{s:MS}(hg:∀R∈Rs,cv bs.length R)(hw:∀c∈ln,c.length=bs.length)(ht:∀c∈tl,c.length=bs.length)(h:gE (Rs.map bE) (bp bs) (none,(Rs.map bE).map (·.start)) ln=some s):nT bs Rs ln tl=match nr bs Rs s tl 0 with | some j=>(j:Int) | none=>-1:=by
 have hw2:∀c∈ln++tl,c.length=bs.length:=λc hc=>(ac4.mp hc).elim (hw c) (ht c)
 have hl:ln.length<=(ln++tl).length:=by rw [aa8];omega
 have wk:=xH (Rs:=Rs) hg hw2 ln.length 0 ();rw [List.drop_zero,ak7,Bm bs.length _ hg,List.take_left]at wk
 have hb:∀j,j < ln.length->eS bs Rs (ln++tl) j=false:=λj hj=>by
  cases e:eS bs Rs (ln++tl) j with
  | false=>rfl
  | true=>
   rw [wk.2 ⟨j,ac2 _,hj,e⟩]at h;cases h
 rw [wk.1 λj _ hj=>hb j hj]at h;cases h;unfold nT;have hr:=tV (Rs:=Rs) hg hw2 tl.length ln.length (by rw [aa8]) hb;rw [List.drop_left]at hr;have h0:=xk bs Rs ln.length tl (uW Rs (ln++tl) ln.length) 0;rw [ak7]at h0;rw [hr,h0]
 cases nr bs Rs (uW Rs (ln++tl) ln.length) tl 0 with
 | none=>rfl
 | some j=>
  show((j+ln.length:Nat):Int) - (ln.length:Int)=(j:Int);omega
def Bf(K:Frag):Sp:=λvs H Q _=>∃(r ru l t:Addr) (bs:List (Int×Int)) (Rs:List aH) (cols tl:List (List Int)),vs=[.ref r,.ref ru,.ref l,.ref t]/\bP K H r bs/\bs.length<=4/\jN H ru Rs/\Rs.length<=12/\(∀R∈Rs,cv bs.length R)/\cT H l bs.length cols/\cT H t bs.length tl/\cols.length+tl.length<=100/\∀H',au H H'->Q (.int (nT bs Rs cols tl)) H'
theorem CS(F:b0 K "_law_after" "_law_after" jl f fd)(T:Txt mg aM)(D_law_fault: ~~~cB "_law_fault" 4 ["_law_ranges_here","_law_rules_here","_law_line_here"] (xp K)): ~~~aL bU 5 f fd ["_law_ranges_here","_law_rules_here","_law_line_here","_law_tail"] (Bf K):=by
 refine F.ok sc_law_after λ_ A _ s H vs Q E hr h=>?_;obtain⟨r,ru,l,t,bs,Rs,cols,tl,rfl,hR,b4,hT,r12,hg,⟨⟨ps,hps,hpl,hpc⟩,hw⟩,⟨⟨qs,hqs,hql,hqc⟩,hw2⟩,c100,q⟩:=h
 refine⟨rfl,_,(ag (cU (i:=4) sc_law_after.nd (aA D_law_fault hr ⋯ (aa (pr 0) (aa (pr 1) (aa (ar (bL K) (pr 2) (pr 3)) ah)))))
 (ag (aP (ba (ay eL (pr 4) aZ (az _))) (ai (av (lB (u1 iE) af))) aB)
 (ai (av (ar (o0 bD) (aw (aC K) (pr 4) af (λ_ _=>rfl)) (aD (aG K) ⋯ T.n_len boot_len (aa (pr 2) ah))))))),?_⟩
 have hs:=sizeLine_eq;refine aN (λZ H'=>∃v:V,lW bs Rs (cols++tl) v H'/\Z=[↑r,↑ru,↑l,↑t,some v]/\au H H') ?_ ?_
 ·intro u' hu
  tm_at "r";refine g8 hps hqs (by rw [aa0,aa0];omega) λg hg'=>?_;have s1:=aq (o:=.lst (ps.map V.ref++qs.map V.ref)) hg';refine⟨r,ru,g,bs,Rs,cols++tl,rfl,hR.same s1,b4,hT.same s1,r12,hg,cT.line ⟨⟨ps++qs,by rw [ae,ab4],by rw [aa8,aa8,hpl,hql],λi p us e1 e2=>?_⟩,λc hc=>(ac4.mp hc).elim (hw c) (hw2 c)⟩,by rw [aa8];omega,λv H2 hf s2=>hu _ _ ⟨v,hf,rfl,s1.trans s2⟩⟩;rw [List.getElem?_append]at e1 e2;rw [hpl]at e1
  split at e1
  ·rename_i h
   rw [if_pos h]at e2;exact s1 _ _ (hpc i p us e1 e2)
  ·rename_i h
   rw [if_neg h]at e2;exact s1 _ _ (hqc _ p us e1 e2)
 rintro Ω ω _ H1 ⟨v,hf,rfl,s1⟩;unfold lW at hf
 have ea:∀o,iI bs Rs (cols++tl)=o->nT bs Rs cols tl=match o with | some j=>(j:Int) - (cols.length:Int) | none=>-1:=λo e=>by unfold nT;rw [e]
 refine ω _ _ ?_
 cases e:iI bs Rs (cols++tl)with
 | none=>
  rw [e]at hf;have hf:v=.non:=hf;subst hf;tm_at "r"
  have:=q H1 s1
  rw [ea _ e]at this;exact this
 | some j=>
  rw [e]at hf;obtain⟨t',rr,rfl,ht⟩:=hf;tm_at "r";refine dw (cI.of ht) (bH rfl) ?_;tm_at "r";refine⟨_,.inl (aJ.of (s1 _ _ hps)),?_⟩
  have:=q H1 s1
  rw [ea _ e]at this;rw [aa0,hpl];exact this
def xr(K:Frag):Sp:=λvs H Q _=>∃(a:Addr) (ns:List Int),vs=[.ref a]/\aJ K H a (ns.map V.int)/\(∀x∈ns,x.natAbs < 2 ^ GB)/\ns.length<=63/\∀H',Q (.bl true) H'
def dD(H:Hp)(nv:Nat)(p:Addr):Prop:=∃ln,cT H p nv ln/\ln.length<=2
theorem dD.same(h:dD H nv p)(s:au H H'):dD H' nv p:=by
 obtain⟨ln,h1,h2⟩:=h;exact⟨ln,h1.same s,h2⟩
theorem dD.upd(h:dD H nv p)(hq:H q=some (.lst xs))(ne:p≠q):dD (upd H q o) nv p:=by
 obtain⟨ln,⟨⟨ps,h1,h2,h3⟩,h4⟩,h5⟩:=h;refine⟨ln,⟨⟨ps,by rw [aj ne];exact h1,h2,λi p us e1 e2=>?_⟩,h4⟩,h5⟩
 have:=h3 i p us e1 e2
 rw [aj (λe=>by rw [e,hq]at this;cases this)];exact this
theorem dD.one(hp:H p=some (.lst [.ref t]))(ht:H t=some (.tup (us.map V.int)))(hw:us.length=nv):dD H nv p:=by
 refine⟨[us],⟨⟨[t],hp,rfl,λi q vs e1 e2=>?_⟩,λc hc=>by rw [ab8.mp hc];exact hw⟩,Nat.le_succ 1⟩
 cases i with
 | zero=>cases e1;cases e2;exact ht
 | succ i=>cases e1
theorem dD.two{t':Addr}{us':List Int}(hp:H p=some (.lst [.ref t,.ref t']))(ht:H t=some (.tup (us.map V.int)))(ht':H t'=some (.tup (us'.map V.int)))(hw:us.length=nv)(hw':us'.length=nv):dD H nv p:=by
 refine⟨[us,us'],⟨⟨[t,t'],hp,rfl,λi q vs e1 e2=>?_⟩,λc hc=>?_⟩,aa9 2⟩
 ·match i with
  | 0=>cases e1;cases e2;exact ht
  | 1=>cases e1;cases e2;exact ht'
  | i+2=>cases e1
 ·rcases ab2.mp hc with rfl | hc
  ·exact hw
  ·rw [ab8.mp hc];exact hw'
theorem EB(F:b0 K "law" "law" rF f fd)(T:Txt mg aM)(D_law_at: ~~~cB "_law_at" 12 ["_law_script","_law_k"] (yT K))(D_law_ranges: ~~~cB "_law_ranges" 12 ["_law_script","_law_most"] (uS K))(D_law_rules: ~~~cB "_law_rules" 12 ["_law_script","_law_ranges_here","_law_cap"] (xu K))(D_law_columns: ~~~cB "_law_columns" 12 ["_law_ranges_here"] (pH K))(D_law_cells: ~~~cB "_law_cells" 12 ["_law_script","_law_start","_law_many"] (xn K))(D_law_line: ~~~cB "_law_line" 12 ["_law_line_here","_law_cells_here","_law_ranges_here","_law_rules_here"] (v9 K))(D_law_text: ~~~cB "_law_text" 12 ["_law_ranges_here","_law_rules_here"] (xv K))(D_read: ~~~cB "read" 12 ["text"] (~~~tG Cs))(DM_Machine: ~~~iQ "Machine" C 11 ["self","score"] (~~~ky C Cs))
  (D_law_after: ~~~cB "_law_after" 12 ["_law_ranges_here","_law_rules_here","_law_line_here","_law_tail"] (Bf K)) (M_walk: ~~~aF C "walk" 12 ["self","line"] (Bg P w K C)): ~~~aL bU 13 f fd ["_law_script"] (xr K):=by
 refine F.ok sc_law λ_ A _ s H vs Q E hr h=>?_;obtain⟨a,ns,rfl,hS,hB,ln,k⟩:=h
 refine⟨rfl,_,(ag (cU (i:=1) sc_law.nd (aA D_law_ranges hr ⋯ (aa (pr 0) (aa (ar (bL K) af (ar (lq K) af (bf (dJ) ⋯ T.n_int boot_int (aa (bc (Hk K (HI hr)) (ar (o1 aU) (ar (o1 dj) (aA D_law_at hr ⋯ (aa (pr 0) (aa af ah))) af) af) af (az _)) ah)))) ah))))
 (ag (cU (i:=2) sc_law.nd (aA D_law_rules hr ⋯ (aa (pr 0) (aa (pr 1) (aa af ah)))))
 (ag (cU (i:=3) sc_law.nd (iJ DM_Machine hr ⋯ (aa (aA D_read hr ⋯ (aa (aA D_law_text hr ⋯ (aa (pr 1) (aa (pr 2) ah))) ah)) ah)))
 (ag (cU (i:=4) sc_law.nd (aA D_law_columns hr ⋯ (aa (pr 1) ah)))
 (ag (cU (i:=5) sc_law.nd (ar (bL K) (bN (aa (bN ah) ah)) (cX (own:=["_law_column"]) (js:=[]) rfl (bF K (pr 4)) (bB.of ⋯) (λ_ _ _ _ _=>(bM (i:=0) (show List.Nodup (["_law_column"]:List Str)from by decide +kernel) rfl (Or.inl rfl))) (λ_ _ _ _ _=>cn) (λ_ _ _ _ _=>(bN (aa (pr 0) ah))))))
 (ag (cw PassesOwn.never rfl (bF K (pr 4)) (bM (i:=6) sc_law.nd rfl (Or.inr rfl))
 (ai (bG (bW K PySem.F.plainAttrs_list PySem.F.slot_list_extend PySem.F.type_list_extend rz (pr 5) (aa (cX (own:=["_law_other"]) (js:=[6]) rfl (bF K (pr 4)) (bB.of ⋯) (λ_ _ _ _ _=>(bM (i:=0) (show List.Nodup (["_law_other","_law_column"]:List Str)from by decide +kernel) rfl (Or.inl rfl))) (λ_ _ _ _ _=>cn) (λ_ _ _ _ _=>(bN (aa (pr 1) (aa (pr 0) ah))))) ah)))))
 (ag (cU (i:=7) sc_law.nd (aA D_law_cells hr ⋯ (aa (pr 0) (aa af (aa (ar (o1 aU) (aA D_law_at hr ⋯ (aa (pr 0) (aa af ah))) af) ah)))))
 (ag (cU (i:=8) sc_law.nd (C8 (P:=P) (w:=w) rfl rfl))
 (ag (cw PassesOwn.never rfl (bF K (pr 5)) (jR (i:=9) sc_law.nd)
 (ag (cU (i:=10) sc_law.nd (~~~g6 hr (pr 3) (aa (bf (di K) ⋯ T.n_list boot_list (aa (pr 9) ah)) ah)))
 (ag (aP (ba (ay eL (pr 10) aZ (az _))) (ai jc) aB)
 (ag (aP (ba (ay (AK (P:=P) (w:=w) rfl rfl) (pr 10) (pr 8) (by with_unfolding_all rfl))) (ag (mi (pr 9) (sU (pr 8) (pr 10) (Hw (P:=P) (w:=w) rfl rfl)))
 (ai jc)) aB)
 (ag (cU (i:=11) sc_law.nd (bt (fB K) (aA D_law_line hr ⋯ (aa (pr 9) (aa (pr 7) (aa (pr 1) (aa (pr 2) ah))))) (fw (aD (aG K) ⋯ T.n_len boot_len (aa (pr 9) ah))) bJ))
 (ai (aP (ba (ay (Hl K (HI hr)) (aA D_law_after hr ⋯ (aa (pr 1) (aa (pr 2) (aa (pr 9) (aa (pr 11) ah))))) (aA D_law_after hr ⋯ (aa (pr 1) (aa (pr 2) (aa (aw (ixI (P:=P) (w:=w) rfl rfl) (pr 8) (pr 10) (λ_ _=>rfl)) (aa (pr 11) ah))))) (az _))) (ai (av lA)) aB)))))))
 (ai (av lA))))))))))),?_⟩
 have hs:=sizeLine_eq;refine aN (λZ H'=>∃(r:Addr) (bs:List (Int×Int)),bP K H' r bs/\1<=bs.length/\bs.length<=4/\(∀b∈bs,xb b)/\jC bs<=6/\Z=[↑a,↑r,none,none,none,none,none,none,none,none,none,none]/\au H H') ?_ ?_
 ·intro u' hu
  tm_at "r";refine⟨a,ns,0,rfl,hS,∅,∅,_,rfl,⟨∅,∅⟩,∅,.of_left ∅,?_⟩
  obtain⟨m,hm,m1,m12⟩:∃m:Nat,(4+2 * if zm ns 0 / 8 % 8=3 then 1 else 0:Int)=m/\1<=m/\m<=6:=by
   split
   ·exact⟨6,rfl,∅,∅⟩
   ·exact⟨4,rfl,∅,∅⟩
  rw [hm];exact⟨a,ns,m,rfl,hS,m1,(),λq bs H1 b1 b4 hb cb _ hq s1=>hu _ _ ⟨q,bs,hq.ranges,b1,b4,hb,(),rfl,s1⟩⟩
 rintro Ω ω _ H1 ⟨r,bs,RA,b1,b4,hb,cb,rfl,s1⟩;refine ω _ _ (aN (λZ H'=>∃(ru:Addr) (Rs:List aH),jN H' ru Rs/\(∀R∈Rs,rA bs.length R)/\Rs.length<=12/\gU bs Rs<=36/\Z=[↑a,↑r,↑ru,none,none,none,none,none,none,none,none,none]/\au H1 H') ?_ ?_)
 ·intro u' hu
  tm_at "r";exact⟨a,r,ns,bs,36,rfl,s1.seq hS,RA,b1,b4,hb,(),(),λru Rs H2 RT hok r12 hw s2=>hu _ _ ⟨ru,Rs,RT,hok,r12,(),rfl,s2⟩⟩
 rintro Ω ω _ H2 ⟨ru,Rs,RT,hok,r12,hwt,rfl,s2⟩;have s02:=s1.trans s2;have hg:∀R∈Rs,cv bs.length R:=λR h=>(hok R h).1;have hb1:∀b∈bs,b.1<=b.2:=λb h=>(hb b h).1;have hw1:∀b∈bs,1<=wN b:=λb h=>(hb b h).big.2.2.2.2;have hs1:∀R∈Rs,1<=dz R:=λR h=>(hok R h).2.2.1;have RA2:=RA.same s2;refine ω _ _ (aN (λZ H'=>∃(x:Addr) (met:List MS),nQ P w C (Rs.map bE) (bp bs) met x H'/\Z=[↑a,↑r,↑ru,↑x,none,none,none,none,none,none,none,none]/\au H2 H') ?_ ?_)
 ·intro u' hu
  tm_at "r";refine⟨r,ru,bs,Rs,rfl,RA2,RT,(),(),Az hb,λR h=>(hok R h).2.1,λH4 s4=>?_⟩;refine Dq b1 b4 r12 hb hok () λsc H5 SA s5=>?_;tm_at "r";intro x dx hx hdx dxx;have s56:au H5 (upd (upd H5 dx (.own x)) x (.ins C dx [])):=(aq hdx).upd (by rw [aj dxx.symm];exact hx);refine⟨x,dx,sc,bs.length,bs,Rs.map bE,Rs.map Fx,Fu bs Rs,H5,rfl,ae,hx,s56,SA.toM,by rw [aa0];omega,wu hg,rfl,(),hw1,(),we hb1 hg hs1 (),λmet H' mf sub cl ma old=>⟨rfl,?_⟩⟩;have s5':au H5 H':=λb o e=>old b o (ao e hx) (s56 _ _ e);obtain⟨dx',la,wa,hx',MB⟩:=ma;exact hu _ _ ⟨x,met,⟨⟨dx',la,wa,sc,hx',MB⟩,mf.st,cl⟩,rfl,(s4.trans s5).trans s5'⟩
 rintro Ω ω _ H3 ⟨x,met,MO,rfl,s3⟩;refine ω _ _ (aN (λZ H'=>∃sm:Addr,cT H' sm bs.length (bp bs)/\Z=[↑a,↑r,↑ru,↑x,↑sm,none,none,none,none,none,none,none]/\au H3 H') ?_ ?_)
 ·intro u' hu
  tm_at "r";exact⟨r,bs,rfl,RA2.same s3,b4,hw1,(),λsm H1 _ hsm s1=>hu _ _ ⟨sm,⟨hsm,eB bs⟩,rfl,s1⟩⟩
 rintro Ω ω _ H4 ⟨sm,hsm,rfl,s4⟩;have cl:=eU bs;refine ω _ _ (aN (λZ H'=>∃(q:Addr) (ps:List Addr),H4 q=none/\H' q=some (.lst (ps.map V.ref))/\ps.length<=7/\(∀p∈ps,p≠q/\dD H' bs.length p)/\Z=[↑a,↑r,↑ru,↑x,↑sm,↑q,none,none,none,none,none,none]/\au H4 H') ?_ ?_)
 ·intro u' hu
  tm_at "r";obtain⟨⟨cs,hcs,hcl,hcc⟩,hcw⟩:=id hsm;refine⟨(),λp0 hp0=>⟨(),λp1 hp1=>?_⟩⟩;have t0:=aq (o:=.lst []) hp0;have t1:=aq (o:=.lst [.ref p0]) hp1;have h0:=t1 _ _ (ae (H:=H4) (a:=p0) (o:=.lst []));have h1:=ae (H:=upd H4 p0 (.lst [])) (a:=p1) (o:=.lst [.ref p0]);have t01:=t0.trans t1;clear t0 t1 hp1;generalize upd (upd H4 p0 (.lst [])) p1 (.lst [.ref p0])=H5 at *;refine bK (aJ.of (t01 _ _ hcs)) (bQ (xs:=cs.map V.ref) (λj ys H'=>∃qs:List Addr,ys=qs.map V.ref/\qs.length=j/\(∀p∈qs,dD H' bs.length p)/\au H5 H') (by rw [aa0];omega) ⟨[],rfl,rfl,(λp h=>nomatch h),au.refl _⟩ (λj ys H' h=>by obtain⟨qs,rfl,h,_⟩:=h;rw [aa0];omega) (λj ys H' h=>by obtain⟨_,_,_,_,h⟩:=h;exact aJ.of ((t01.trans h) _ _ hcs)) ?_ ?_)
  ·rintro j y ys H' hj' ⟨qs,rfl,ql,hq,s5⟩
   rw [aa4]at hj'
   cases ht:cs[j]? with
   | none=>rw [ht]at hj';cases hj'
   | some t=>
    rw [ht]at hj';cases hj';tm_at "r"
    have hj:j < (bp bs).length:=by rw [<-hcl];exact(aa1.mp ht).1
    have ej:(bp bs)[j]?=some (bp bs)[j]:=aa2 hj;refine⟨(),λp hp=>⟨qs++[p],by rw [ab4];rfl,by rw [aa8,ql];rfl,λp' h=>?_,s5.upd hp⟩⟩;rcases ac4.mp h with h | h
    ·exact(hq p' h).same (aq hp)
    ·rw [ab8.mp h]
     exact dD.one ae ((aq hp) _ _ ((t01.trans s5) _ _ (hcc j t _ ht ej))) (hcw _ (ad5 hj))
  ·rintro ys H6 ⟨qs,rfl,ql,hq,s6⟩ b hb
   rw [aa0]at ql;have s7:=aq (o:=.lst (qs.map V.ref)) hb;refine g8 (s7 _ _ (s6 _ _ h1)) ae (by rw [aa0];show 1+_<=_;omega) λg hg'=>?_;have s8:=(s6.trans s7).upd (o:=.lst ([.ref p0]++qs.map V.ref)) hg';refine hu _ _ ⟨g,p0::qs,((t01.trans s6).trans s7).free hg',ae,by rw [ad4];omega,λp hp=>?_,rfl,t01.trans s8⟩;rcases ab2.mp hp with rfl | hp
   ·exact⟨ao ((s6.trans s7) _ _ h0) hg',[],⟨⟨[],s8 _ _ h0,rfl,λi p us e=>nomatch e⟩,λc h=>nomatch h⟩,∅⟩
   ·have h2:=(hq p hp).same s7
    refine⟨?_,h2.same (aq hg')⟩;obtain⟨_,⟨⟨_,h3,_⟩,_⟩,_⟩:=h2;exact ao h3 hg'
 rintro Ω ω _ H5 ⟨q,ps,q0,hq,pl,hps,rfl,s5⟩;refine ω _ _ (aN (λZ H'=>∃(ps:List Addr) (o6:Option V),H' q=some (.lst (ps.map V.ref))/\ps.length<=43/\(∀p∈ps,p≠q/\dD H' bs.length p)/\Z=[↑a,↑r,↑ru,↑x,↑sm,↑q,o6,none,none,none,none,none]/\au H4 H') ?_ ?_)
 ·intro u' hu
  tm_at "r";obtain⟨⟨cs,hcs,hcl,hcc⟩,hcw⟩:=id hsm;refine bK (aJ.of (s5 _ _ hcs)) (c7 (xs:=cs.map V.ref) (λi Z H'=>∃(ps:List Addr) (o6:Option V),H' q=some (.lst (ps.map V.ref))/\ps.length<=7+6 * i/\(∀p∈ps,p≠q/\dD H' bs.length p)/\Z=[↑a,↑r,↑ru,↑x,↑sm,↑q,o6,none,none,none,none,none]/\au H4 H') ⟨ps,none,hq,pl,hps,rfl,s5⟩ (λi Z H' _ h=>by obtain⟨_,_,_,_,_,_,h⟩:=h;exact aJ.of (h _ _ hcs)) ?_ λZ H' ⟨ps,o6,h1,h2,h3,h4,h5⟩=>hu _ _ ⟨ps,o6,h1,by rw [aa0]at h2;omega,h3,h4,h5⟩);clear hps pl hq ps s5;rintro i y Z H6 hy ⟨ps,o6,hq,pl,hps,rfl,s6⟩
  have hi:i < cs.length:=by have:=(aa1.mp hy).1;rw [aa0]at this;exact this
  rw [aa4]at hy
  cases ht:cs[i]? with
  | none=>rw [ht]at hy;cases hy
  | some t=>
   rw [ht]at hy;cases hy;tm_at "r";have ei:(bp bs)[i]?=some ((bp bs)[i]'()):=aa2 ();have hti:=hcc i t _ ht ei;refine⟨.inl ⟨rfl,_,aJ.of hq⟩,bK (aJ.of (s6 _ _ hcs)) (bQ (xs:=cs.map V.ref) (λj ys H'=>∃qs:List Addr,ys=qs.map V.ref/\qs.length=j/\(∀p∈qs,p≠q/\dD H' bs.length p)/\au H6 H') (by rw [aa0];omega) ⟨[],rfl,rfl,(λp h=>nomatch h),au.refl _⟩ (λj ys H' h=>by obtain⟨qs,rfl,h,_⟩:=h;rw [aa0];omega) (λj ys H' h=>by obtain⟨_,_,_,_,h⟩:=h;exact aJ.of ((s6.trans h) _ _ hcs)) ?_ ?_)⟩
   ·rintro j y ys H' hj' ⟨qs,rfl,ql,hqs,s7⟩
    rw [aa4]at hj'
    cases ht':cs[j]? with
    | none=>rw [ht']at hj';cases hj'
    | some t'=>
     rw [ht']at hj';cases hj';tm_at "r"
     have hj:j < (bp bs).length:=by rw [<-hcl];exact(aa1.mp ht').1
     have ej:(bp bs)[j]?=some (bp bs)[j]:=aa2 hj;refine⟨(),λp hp=>⟨qs++[p],by rw [ab4];rfl,by rw [aa8,ql];rfl,λp' h=>?_,s7.upd hp⟩⟩;rcases ac4.mp h with h | h
     ·exact⟨(hqs p' h).1,(hqs p' h).2.same (aq hp)⟩
     ·rw [ab8.mp h]
      have s67:=(s6.trans s7).upd (o:=.lst [.ref t,.ref t']) hp;exact⟨(ao (s7 _ _ hq) hp).symm,dD.two ae (s67 _ _ hti) (s67 _ _ (hcc j t' _ ht' ej)) (hcw _ (ad5 _)) (hcw _ (ad5 hj))⟩
   ·rintro ys H7 ⟨qs,rfl,ql,hqs,s7⟩ b hb
    rw [aa0]at ql;have s8:=aq (o:=.lst (qs.map V.ref)) hb;have s68:=s7.trans s8;have hq8:=s68 _ _ hq;refine⟨q,b,_,_,rfl,rfl,hq8,ae,by rw [aa0,aa0];omega,ps++qs,by rw [ae,ab4],by rw [aa8];omega,λp hp=>?_,y6 q0 (s6.trans s68)⟩;rcases ac4.mp hp with hp | hp
    ·exact⟨(hps p hp).1,((hps p hp).2.same s68).upd hq8 (hps p hp).1⟩
    ·exact⟨(hqs p hp).1,((hqs p hp).2.same s8).upd hq8 (hqs p hp).1⟩
 rintro Ω ω _ H6 ⟨ps,o6,hq,pl,hps,rfl,s6⟩;have s26:=(s3.trans s4).trans s6;refine ω _ _ (aN (λZ H'=>∃(ce:Addr) (ys:List Int),ys.length<=3/\aJ K H' ce (ys.map V.int)/\Z=[↑a,↑r,↑ru,↑x,↑sm,↑q,o6,↑ce,none,none,none,none]/\au H6 H') ?_ ?_)
 ·intro u' hu
  tm_at "r";have r0:=ad7 (zm ns 8) (show(4:Int)≠0 by decide);have r1:=ad1 (zm ns 8) (show(0:Int) < 4 by decide);refine⟨a,ns,8,rfl,(s02.trans s26).seq hS,∅,∅,_,rfl,∅,?_⟩;obtain⟨m,hm⟩:∃m:Nat,zm ns 8 % 4=m:=⟨(zm ns 8 % 4).toNat,()⟩;rw [hm]at r0 r1 |-;exact⟨a,ns,8,m,rfl,(s02.trans s26).seq hS,ln,∅,(),λce ys H7 yl _ hce s7=>hu _ _ ⟨ce,ys,(),aJ.of hce,rfl,s7⟩⟩
 rintro Ω ω _ H7 ⟨ce,ys,yl,hce,rfl,s7⟩;have s27:=s26.trans s7;have MO7:=MO.same ((s4.trans s6).trans s7);have RA7:=RA2.same s27;have RT7:=RT.same s27;have hq7:=s7 _ _ hq;refine ω _ _ (aN (λZ H'=>∃d:Addr,H7 d=none/\H' d=some (iO P w d (λ_=>none) 0)/\Z=[↑a,↑r,↑ru,↑x,↑sm,↑q,o6,↑ce,↑d,none,none,none]/\au H7 H') ?_ ?_)
 ·intro u' hu
  tm_at "r";intro d hd;exact hu _ _ ⟨d,hd,ae,rfl,aq hd⟩
 rintro Ω ω _ H8 ⟨d,d0,hd,rfl,s8⟩;obtain⟨dxM,laM,waM,scM,hxM,_⟩:=id MO7.1
 obtain⟨okF,hokF⟩:∃okF:(Int->Option V)->Prop,okF=λf=>∀(k:Int) (v:V),f k=some v->∃(p:Addr) (l1:List (List Int)) (st:MS) (j:Nat),v=.ref p/\cT H7 p bs.length l1/\l1.length<=2/\gE (Rs.map bE) (bp bs) (none,(Rs.map bE).map (·.start)) l1=some st/\k=j/\met[j]?=some st:=⟨_,rfl⟩
 refine ω _ _ (aN (λZ H'=>True) ?_ ?_)
 ·intro u' hu
  tm_at "r";obtain⟨Pv,hPv⟩:∃Pv:Nat->L2.St->Hp->Prop,Pv=λi Z H'=>∃(f:Int->Option V) (n:Nat) (o9 o10 o11:Option V),H' d=some (iO P w d f n)/\n<=i/\okF f/\Z=[↑a,↑r,↑ru,↑x,↑sm,↑q,o6,↑ce,↑d,o9,o10,o11]/\au H7 H':=⟨_,rfl⟩;refine bK (aJ.of (s8 _ _ hq7)) (c7 (xs:=ps.map V.ref) Pv (by rw [hPv];exact⟨_,0,none,none,none,hd,aa9 _,(by rw [hokF];exact λk v e=>nomatch e),rfl,s8⟩) (λi Z H' _ h=>by rw [hPv]at h;obtain⟨_,_,_,_,_,_,_,_,_,h⟩:=h;exact aJ.of (h _ _ hq7)) ?_ λZ H' _=>hu _ _ trivial);rintro i y Z H9 hy hI
  have hi:i < ps.length:=by have:=(aa1.mp hy).1;rw [aa0]at this;exact this
  refine ux λB hB=>?_;rw [hPv]at hI;obtain⟨f,n,o9,o10,o11,hd9,hn,hf,rfl,s9⟩:=hI;obtain⟨p,hp,rfl⟩:=ac3.mp (ac0 hy);obtain⟨l1,hL,l2⟩:=(hps p hp).2;have hL7:=hL.same s7;tm_at "r";refine hB _ _ ?_;clear hB B
  refine aN (λZ H'=>∃sv:V,((gE (Rs.map bE) (bp bs) (none,(Rs.map bE).map (·.start)) l1=none/\sv=.non)\/∃(j:Nat) (st:MS),gE (Rs.map bE) (bp bs) (none,(Rs.map bE).map (·.start)) l1=some st/\met[j]?=some st/\sv=.int j)/\Z=[↑a,↑r,↑ru,↑x,↑sm,↑q,o6,↑ce,↑d,↑p,some sv,o11]/\au H9 H') ?_ ?_
  ·intro u2 iX
   tm_at "r";obtain⟨⟨qs,hqs,hql,hqc⟩,hqw⟩:=id (hL7.same s9);refine⟨C,dxM,_,s9 _ _ hxM,by unfold cC;tm_at "f",_,_,M_walk,_,.inl (aJ.of hqs),λg hg'=>?_⟩;have s10:=aq (o:=.lst (qs.map V.ref)) hg';exact⟨x,g,_,_,met,l1,rfl,(MO7.same s9).same s10,⟨qs,ae,hql,λi p us e1 e2=>s10 _ _ (hqc i p us e1 e2)⟩,λe=>iX _ _ ⟨_,.inl ⟨e,rfl⟩,rfl,s10⟩,λj st e hj=>iX _ _ ⟨_,.inr ⟨j,st,e,hj,rfl⟩,rfl,s10⟩⟩
  rintro Ω ω _ H10 ⟨sv,hsv,rfl,s10⟩;have hd10:=s10 _ _ hd9;have s710:=s9.trans s10;clear hd9 s9 s10 H9;refine ω _ _ ?_;refine cf λA0 B0 hA hB=>?_;tm_at "r";rcases hsv with⟨hw0,rfl⟩ | ⟨j,st,hst,hj,rfl⟩
  ·rw [if_pos rfl]
   refine hA _ ?_;tm_at "r";rw [hPv];exact⟨f,n,_,_,_,hd10,(),hf,rfl,s710⟩
  rw [if_neg (λz=>by cases z)];refine hB _ ?_;clear hA hB A0 B0;refine cf λA0 B0 hA hB=>?_;tm_at "r";refine⟨d,j,f,n,rfl,rfl,hd10,_,rfl,?_⟩
  cases hfj:f (j:Int)with
  | none=>
   rw [if_pos (by simp)];refine hA _ ?_;tm_at "r";refine⟨d,j,f,n,rfl,rfl,hd10,(),?_⟩;rw [hPv];refine⟨_,n+1,_,_,_,ae,(),?_,rfl,y6 d0 s710⟩;rw [hokF]at hf |-;intro k v e;have e:(if k=(j:Int)then some (V.ref p)else f k)=some v:=e
   by_cases hk:k=(j:Int)
   ·rw [if_pos hk]at e
    cases e;exact⟨p,l1,st,j,rfl,hL7,l2,hst,hk,hj⟩
   ·rw [if_neg hk]at e
    exact hf k v e
  | some v0=>
   rw [if_neg (by simp)];refine hB _ ?_;clear hA hB A0 B0;have hf':=hf;rw [hokF]at hf';obtain⟨p2,l3,st2,j2,rfl,hL3,l4,hst2,hjj,hj2⟩:=hf' _ _ hfj;clear hf'
   have e:j2=j:=by omega
   subst e;rw [hj]at hj2;cases hj2;refine aN (λZ H'=>∃(t:Addr) (tl:List (List Int)),cT H' t bs.length tl/\tl.length<=3/\Z=[↑a,↑r,↑ru,↑x,↑sm,↑q,o6,↑ce,↑d,↑p,⇑j2,↑t]/\au H10 H') ?_ ?_
   ·intro u2 iX
    tm_at "r";refine⟨p,ce,r,ru,bs,l1,ys,Rs,rfl,hL7.same s710,s710.seq hce,RA7.same s710,b1,b4,hb,(),RT7.same s710,r12,hg,(),λg cols' H11 hL' cl' hmo s11=>?_⟩;obtain⟨more,rfl⟩:=hmo;obtain⟨⟨qs,hqs,hql,hqc⟩,hqw⟩:=id hL';obtain⟨⟨qs1,hqs1,hql1,_⟩,_⟩:=id ((hL7.same s710).same s11);refine⟨_,.inl (aJ.of hqs1),?_⟩;rw [aa0,hql1];refine cG (aJ.of hqs) λc hc=>?_;rw [cy,<-List.map_drop];have s12:=aq (o:=.lst ((qs.drop l1.length).map V.ref)) hc;rw [aa8]at cl';refine iX _ _ ⟨c,more,⟨⟨qs.drop l1.length,ae,by rw [ah2,hql,aa8];omega,λi p us e1 e2=>?_⟩,λc hc=>hqw c (ac4.mpr (.inr hc))⟩,(),rfl,s11.trans s12⟩;rw [af1]at e1;exact s12 _ _ (hqc _ p us e1 (by rw [ac5 (),Nat.add_sub_cancel_left];exact e2))
   rintro Ω ω _ H11 ⟨t,tl,hT,tl3,rfl,s11⟩;have s711:=s710.trans s11;refine ω _ _ ?_;tm_at "r";refine⟨r,ru,p,t,bs,Rs,l1,tl,rfl,RA7.same s711,b4,RT7.same s711,r12,hg,hL7.same s711,hT,(),λH12 s12=>?_⟩;refine⟨d,j2,f,n,_,rfl,rfl,s12 _ _ (s11 _ _ hd10),hfj,?_⟩;have s712:=s711.trans s12;refine⟨r,ru,p2,t,bs,Rs,l3,tl,rfl,RA7.same s712,b4,RT7.same s712,r12,hg,hL3.same s712,hT.same s12,(),λH13 s13=>rNeC_ii.mpr ⟨_,rfl,?_⟩⟩;rw [qS hg hL7.2 hT.2 hst,qS hg hL3.2 hT.2 hst2,if_neg (by simp),hPv];exact⟨f,n,_,_,_,s13 _ _ (s12 _ _ (s11 _ _ hd10)),(),hf,rfl,s712.trans s13⟩
 rintro Ω ω Z H9 _;refine ω _ _ ?_;tm_at "r";exact k _
theorem all_mk{h:Heap}{fa:Addr}{Zad:Addr}{Zae:Addr}{Zaf:Addr}{Zag:Addr}{Zab:Addr}{Zac:Addr}{Zaa:Addr}{Zah:Addr}{Zai:Addr}{Zaj:Addr}{Zal:Addr}{Zak:Addr}{Za4:Addr}{Zbf:FuncData}{Za5:Addr}{Zbg:FuncData}{Za6:Addr}{Zbh:FuncData}{Za7:Addr}{Zbi:FuncData}{Za8:Addr}{Zbj:FuncData}{Za9:Addr}{Zbk:FuncData}{Zba:Addr}{Zbl:FuncData}{Zbb:Addr}{Zbm:FuncData}{Zbc:Addr}{Zbn:FuncData}{a_MAKERS:Addr}{D_MAKERS:List (Str×V)}{a_INNER_KINDS:Addr}(X:K.In h)(G:h.Ns mainGlobals mg)(hfa:mg "law"=↑fa)(Ze5:nsIn K mainGlobals "Span"=some (↑Zad))(Zaq:nE K Zad)(Ze6:nsIn K mainGlobals "Clock"=some (↑Zae))(Zar:kE K Zae)(Ze7:nsIn K mainGlobals "Move"=some (↑Zaf))(Zas:nB K Zaf)(Ze8:nsIn K mainGlobals "Alike"=some (↑Zag))(Zat:kC K Zag)(Ze9:nsIn K mainGlobals "Back"=some (↑Zab))(Zau:nA K Zab)(Zfa:nsIn K mainGlobals "Held"=some (↑Zac))(Zan:kG K Zac)(Zfb:nsIn K mainGlobals "Times"=some (↑Zaa))(Zam:gW K Zaa)(Zfc:nsIn K mainGlobals "Begin"=some (↑Zah))(Zav:kD K Zah)(Zfd:nsIn K mainGlobals "Close"=some (↑Zai))(Zaw:kF K Zai)(Zfe:nsIn K mainGlobals "Every"=some (↑Zaj))(Zao:iN K Zaj)(Zff:nsIn K mainGlobals "Score"=some (↑Zal))(Zaz:fY K Zal)(Zfg:nsIn K mainGlobals "Machine"=some (↑Zak))(Zax:kH K Zak):(∃f fd,bw K "note_in" mx f fd)->(∃f fd,bw K "span" vV f fd)->(∃f fd,bw K "move" vT f fd)->(∃C f fd,kB K "Rule" "__init__" "Rule.__init__" fM C f fd)->(∃f fd,aY K Zad "size" "Rule.size" dh f fd)->(∃f fd,aY K Zad "start" "Rule.start" bR f fd)->(∃f fd,aY K Zad "closes" "Rule.closes" bZ f fd)->(∃f fd,aY K Zae "size" "Rule.size" dh f fd)->(∃f fd,aY K Zae "start" "Rule.start" bR f fd)->(∃f fd,aY K Zae "closes" "Rule.closes" bZ f fd)->(∃f fd,aY K Zaf "size" "Rule.size" dh f fd)->(∃f fd,aY K Zaf "start" "Rule.start" bR f fd)->(∃f fd,aY K Zaf "closes" "Rule.closes" bZ f fd)->(∃f fd,aY K Zag "size" "Rule.size" dh f fd)->(∃f fd,aY K Zag "start" "Rule.start" bR f fd)->(∃f fd,aY K Zag "closes" "Rule.closes" bZ f fd)->(∃f fd,aY K Zah "size" "Rule.size" dh f fd)->(∃f fd,aY K Zah "start" "Rule.start" bR f fd)->(∃f fd,aY K Zah "closes" "Rule.closes" bZ f fd)->(∃f fd,aY K Zai "size" "Rule.size" dh f fd)->(∃f fd,aY K Zai "start" "Rule.start" bR f fd)->(∃f fd,aY K Zac "start" "Rule.start" bR f fd)->(∃f fd,aY K Zac "closes" "Rule.closes" bZ f fd)->(∃f fd,aY K Zaa "start" "Rule.start" bR f fd)->(∃f fd,aY K Zaj "start" "Rule.start" bR f fd)->(∃f fd,aY K Zaj "closes" "Rule.closes" bZ f fd)->(∃f fd,aY K Zai "after" "Rule.after" iq f fd)->(∃f fd,aY K Zab "size" "Back.size" jg f fd)->(∃f fd,aY K Zab "start" "Back.start" ij f fd)->(∃f fd,aY K Zac "size" "Held.size" jh f fd)->(∃f fd,aY K Zaa "size" "Times.size" iw f fd)->(∃f fd,aY K Zaj "size" "Every.size" ik f fd)->(∃f fd,aY K Zad "after" "Span.after" iu f fd)->(∃f fd,aY K Zae "after" "Clock.after" gN f fd)->(∃f fd,aY K Zaf "after" "Move.after" ip f fd)->(∃f fd,aY K Zag "after" "Alike.after" gK f fd)->(∃f fd,aY K Zab "closes" "Back.closes" gL f fd)->(∃f fd,aY K Zab "after" "Back.after" ig f fd)->(∃f fd,aY K Zac "after" "Held.after" il f fd)->(∃f fd,aY K Zaa "closes" "Times.closes" gp f fd)->(∃f fd,aY K Zaa "after" "Times.after" gP f fd)->(∃f fd,aY K Zah "after" "Begin.after" gM f fd)->(∃f fd,aY K Zai "closes" "Close.closes" gm f fd)->(∃f fd,aY K Zaj "after" "Every.after" gO f fd)->(∃f fd,jX K "Span" "Span.__init__" fO Zad f fd)->(∃f fd,jX K "Clock" "Clock.__init__" e8 Zae f fd)->(∃f fd,jX K "Move" "Move.__init__" fL Zaf f fd)->(∃f fd,jX K "Alike" "Alike.__init__" e6 Zag f fd)->(∃f fd,jX K "Back" "Back.__init__" fH Zab f fd)->(∃f fd,jX K "Held" "Held.__init__" fJ Zac f fd)->(∃f fd,jX K "Times" "Times.__init__" ff Zaa f fd)->(∃f fd,jX K "Begin" "Begin.__init__" e7 Zah f fd)->(∃f fd,jX K "Close" "Close.__init__" fb Zai f fd)->(∃f fd,jX K "Every" "Every.__init__" fc Zaj f fd)->(∃f fd,bw K "is_number" jk f fd)->(∃f fd,bw K "has_list" kh f fd)->(∃f fd,bw K "are_voices" iy f fd)->bw K "span_of" my Za4 Zbf->bw K "clock_of" ke Za5 Zbg->bw K "move_of" mw Za6 Zbh->bw K "alike_of" j9 Za7 Zbi->bw K "back_of" mn Za8 Zbj->bw K "held_of" mr Za9 Zbk->bw K "times_of" kv Zba Zbl->bw K "begin_of" ka Zbb Zbm->bw K "close_of" kg Zbc Zbn->(∃f fd,bw K "plain_rule" iD f fd)->(∃f fd,bw K "every_rule" iz f fd)->(∃f fd u,zc K "read_rule" gD f fd u/\aS (.int 0) u)->(∃f fd,jX K "Score" "Score.__init__" fe Zal f fd)->(∃f fd,bw K "weight" oY f fd)->(∃f fd,bw K "not_too_wide" gr f fd)->(∃f fd,bw K "voice_range" gR f fd)->(∃f fd,bw K "read" vU f fd)->(∃f fd,bw K "lengthened" iC f fd)->(∃f fd,bw K "columns" mq f fd)->(∃f fd,bw K "memories_after" fj f fd)->(∃f fd,bw K "all_close" jj f fd)->(∃C f fd,kB K "States" "__init__" "States.__init__" eM C f fd)->(∃f fd,aY K Zak "to" "States.to" ji f fd)->(∃f fd,aY K Zak "build" "Machine.build" fK f fd)->(∃f fd,jX K "Machine" "Machine.__init__" eA Zak f fd)->(∃f fd,aY K Zak "walk" "Machine.walk" gn f fd)->(∃f fd,bw K "_law_at" oX f fd)->(∃f fd,bw K "_law_draws" jn f fd)->(∃f fd,bw K "_law_ranges" iB f fd)->(∃f fd,bw K "_law_columns" gQ f fd)->(∃f fd,bw K "_law_some" ko f fd)->(∃f fd,bw K "_law_pair_rule" fQ f fd)->(∃f fd,bw K "_law_voice_rule" fh f fd)->(∃f fd,bw K "_law_rule" kj f fd)->(∃f fd,bw K "_law_size" km f fd)->(∃f fd,bw K "_law_rules" jq f fd)->(∃f fd,bw K "_law_row" mv f fd)->(∃f fd,bw K "_law_text" ku f fd)->(∃f fd,bw K "_law_span" kr f fd)->(∃f fd,bw K "_law_pair_broken" eN f fd)->(∃f fd,bw K "_law_turned_ill" fg f fd)->(∃f fd,bw K "_law_broken" iA f fd)->(∃f fd,bw K "_law_ill_close" fP f fd)->(∃f fd,bw K "_law_fault" jo f fd)->(∃f fd,bw K "_law_unbroken" gq f fd)->(∃f fd,bw K "_law_line" ki f fd)->(∃f fd,bw K "_law_cells" jm f fd)->(∃f fd,bw K "_law_after" jl f fd)->nsIn K mainGlobals "MAKERS"=some (↑a_MAKERS)->lT K a_MAKERS D_MAKERS->KTD.datumAt ("span":Str) D_MAKERS=↑Za4->KTD.datumAt ("clock":Str) D_MAKERS=↑Za5->KTD.datumAt ("move":Str) D_MAKERS=↑Za6->KTD.datumAt ("alike":Str) D_MAKERS=↑Za7->KTD.datumAt ("back":Str) D_MAKERS=↑Za8->KTD.datumAt ("held":Str) D_MAKERS=↑Za9->KTD.datumAt ("times":Str) D_MAKERS=↑Zba->KTD.datumAt ("begin":Str) D_MAKERS=↑Zbb->KTD.datumAt ("close":Str) D_MAKERS=↑Zbc->nsIn K mainGlobals "INNER_KINDS"=some (↑a_INNER_KINDS)->ze K a_INNER_KINDS [.str "span",.str "clock"]->nsIn K mainGlobals "len"=some none->nsIn K mainGlobals "set"=some none->nsIn K mainGlobals "any"=some none->nsIn K mainGlobals "range"=some none->nsIn K mainGlobals "all"=some none->nsIn K mainGlobals "min"=some none->nsIn K mainGlobals "max"=some none->nsIn K mainGlobals "abs"=some none->nsIn K mainGlobals "tuple"=some none->nsIn K mainGlobals "list"=some none->nsIn K mainGlobals "isinstance"=some none->nsIn K mainGlobals "bool"=some none->nsIn K mainGlobals "int"=some none->nsIn K mainGlobals "str"=some none->nsIn K mainGlobals "divmod"=some none->nsIn K mainGlobals "enumerate"=some none->nsIn K mainGlobals "zip"=some none->nsIn K mainGlobals "reversed"=some none->(∃u,nsIn K mainGlobals "FIGURES"=some (some u)/\aS (.str "0123456789") u)->(∃u,nsIn K mainGlobals "MOST_FIGURES"=some (some u)/\aS (.int 40) u)->(∃u,nsIn K mainGlobals "MOST_VOICES"=some (some u)/\aS (.int 4) u)->(∃u,nsIn K mainGlobals "MOST_RULES"=some (some u)/\aS (.int 12) u)->(∃u,nsIn K mainGlobals "MOST_WEIGHT"=some (some u)/\aS (.int 400) u)->(∃u,nsIn K mainGlobals "MOST_NUMBERS"=some (some u)/\aS (.int 12) u)->(∃u,nsIn K mainGlobals "NO_LEAP"=some (some u)/\aS (.int 0) u)->(∃u,nsIn K mainGlobals "LEAP_UP"=some (some u)/\aS (.int 1) u)->(∃u,nsIn K mainGlobals "LEAP_DOWN"=some (some u)/\aS (.int 2) u)->(∃u,nsIn K mainGlobals "START"=some (some u)/\aS (.int 0) u)->(∃f fd,bw K "law" rF f fd)->∃fd:FuncData,(∀(s:Shared) (v:Value),BindsTo s fd ⟨[v],[]⟩ [("_law_script",v)])/\∀base:Heap,K.In base->base.Ns mainGlobals mg->~~~aL bU 13 fa fd ["_law_script"] (xr K):=by
 intro Zbo Zbp Zbq Zbr Zbs Zbt Zbu Zbv Zbw Zbx Zby Zbz Zb0 Zb1 Zb2 Zb3 Zb4 Zb5 Zb6 Zb7 Zb8 Zb9 Zca Zcb Zcc Zcd Zce Zcf Zcg Zch Zci Zcj Zck Zcl Zcm Zcn Zco Zcp Zcq Zcr Zcs Zct Zcu Zcv Zcw Zcx Zcy Zcz Zc0 Zc1 Zc2 Zc3 Zc4 Zc5 Zc6 Zc7 Zc8 Zc9 Zda Zdb Zdc Zdd Zde Zdf Zdg Zdh Zdi Zdj Zdk Zdl Zdm Zdn Zdo Zdp Zdq Zdr Zds Zdt Zdu Zdv Zdw Zdx Zdy Zdz Zd0 Zd1 Zd2 Zd3 Zd4 Zd5 Zd6 Zd7 Zd8 Zd9 Zea Zeb Zec Zed Zee Zef Zeg Zeh Zei Zej Zek n_MAKERS t_MAKERS d_MAKERS_span d_MAKERS_clock d_MAKERS_move d_MAKERS_alike d_MAKERS_back d_MAKERS_held d_MAKERS_times d_MAKERS_begin d_MAKERS_close n_INNER_KINDS q_INNER_KINDS z_len z_set z_any z_range z_all z_min z_max z_abs z_tuple z_list z_isinstance z_bool z_int z_str z_divmod z_enumerate z_zip z_reversed g_FIGURES g_MOST_FIGURES g_MOST_VOICES g_MOST_RULES g_MOST_WEIGHT g_MOST_NUMBERS g_NO_LEAP g_LEAP_UP g_LEAP_DOWN g_START Zel;rcases Zbo,Zbp,Zbq,Zbr,Zbs,Zbt,Zbu,Zbv,Zbw,Zbx,Zbz,Zb0,Zb1,Zb2,Zb3,Zb4,Zb5,Zb6,Zb7,Zb8,Zb9,Zca,Zcb,Zcc,Zcd,Zce,Zcf,Zcg,Zch,Zci,Zcj,Zck,Zcl,Zcm,Zcn,Zco,Zcp,Zcq,Zcr,Zcs,Zct,Zcu,Zcv,Zcw,Zcx,Zcy,Zcz,Zc0,Zc1,Zc2,Zc3,Zc4,Zc5,Zc6,Zc7,Zc8,Zdi,Zdj,Zdk,Zdl,Zdm,Zdn,Zdo,Zdp,Zdq,Zdr,Zds,Zdt,Zdu,Zdv,Zdw,Zdx,Zdy,Zdz,Zd0,Zd1,Zd2,Zd3,Zd4,Zd5,Zd6,Zd7,Zd8,Zd9,Zea,Zeb,Zec,Zed,Zee,Zef,Zeg,Zeh,Zei,Zej,Zek,g_FIGURES,g_MOST_FIGURES,g_MOST_VOICES,g_MOST_RULES,g_MOST_WEIGHT,g_MOST_NUMBERS,g_NO_LEAP,g_LEAP_UP,g_LEAP_DOWN,g_START,Zel with⟨⟨_,_,Zfh⟩,⟨_,_,Zfj⟩,⟨_,_,Zfl⟩,⟨_,_,_,Zfn⟩,⟨_,_,Zfp⟩,⟨_,_,Zfr⟩,⟨_,_,Zft⟩,⟨_,_,Zfv⟩,⟨_,_,Zfx⟩,⟨_,_,Zfz⟩,⟨_,_,Zf3⟩,⟨_,_,Zf5⟩,⟨_,_,Zf7⟩,⟨_,_,Zf9⟩,⟨_,_,Zgb⟩,⟨_,_,Zgd⟩,⟨_,_,Zgf⟩,⟨_,_,Zgh⟩,⟨_,_,Zgj⟩,⟨_,_,Zgl⟩,⟨_,_,Zgn⟩,⟨_,_,Zgp⟩,⟨_,_,Zgr⟩,⟨_,_,Zgt⟩,⟨_,_,Zgv⟩,⟨_,_,Zgx⟩,⟨_,_,Zgz⟩,⟨_,_,Zg1⟩,⟨_,_,Zg3⟩,⟨_,_,Zg5⟩,⟨_,_,Zg7⟩,⟨_,_,Zg9⟩,⟨_,_,Zhb⟩,⟨_,_,Zhd⟩,⟨_,_,Zhf⟩,⟨_,_,Zhh⟩,⟨_,_,Zhj⟩,⟨_,_,Zhl⟩,⟨_,_,Zhn⟩,⟨_,_,Zhp⟩,⟨_,_,Zhr⟩,⟨_,_,Zht⟩,⟨_,_,Zhv⟩,⟨_,_,Zhx⟩,⟨_,_,Zhz⟩,⟨_,_,Zh1⟩,⟨_,_,Zh3⟩,⟨_,_,Zh5⟩,⟨_,_,Zh7⟩,⟨_,_,Zh9⟩,⟨_,_,Zib⟩,⟨_,_,Zid⟩,⟨_,_,Zif⟩,⟨_,_,Zih⟩,⟨_,_,Zij⟩,⟨_,_,Zil⟩,⟨_,_,Zin⟩,⟨_,_,Zip⟩,⟨Zew,Zex,Zku,Zey,Zkv⟩,⟨_,_,Zit⟩,⟨_,_,Ziv⟩,⟨_,_,Zix⟩,⟨_,_,Ziz⟩,⟨_,_,Zi1⟩,⟨_,_,Zi3⟩,⟨_,_,Zi5⟩,⟨_,_,Zi7⟩,⟨_,_,Zi9⟩,⟨_,_,_,Zjb⟩,⟨_,_,Zjd⟩,⟨_,_,Zjf⟩,⟨_,_,Zjh⟩,⟨_,_,Zjj⟩,⟨_,_,Zjl⟩,⟨_,_,Zjn⟩,⟨_,_,Zjp⟩,⟨_,_,Zjr⟩,⟨_,_,Zjt⟩,⟨_,_,Zjv⟩,⟨_,_,Zjx⟩,⟨_,_,Zjz⟩,⟨_,_,Zj1⟩,⟨_,_,Zj3⟩,⟨_,_,Zbd⟩,⟨_,_,Zj5⟩,⟨_,_,Zj7⟩,⟨_,_,Zj9⟩,⟨_,_,Zkb⟩,⟨_,_,Zkd⟩,⟨_,_,Zkf⟩,⟨_,_,Zkh⟩,⟨_,_,Zkj⟩,⟨_,_,Zkl⟩,⟨_,_,Zkn⟩,⟨_,_,Zkp⟩,⟨_,g_FIGURES,r_FIGURES⟩,⟨_,g_MOST_FIGURES,r_MOST_FIGURES⟩,⟨_,g_MOST_VOICES,r_MOST_VOICES⟩,⟨_,g_MOST_RULES,r_MOST_RULES⟩,⟨_,g_MOST_WEIGHT,r_MOST_WEIGHT⟩,⟨_,g_MOST_NUMBERS,r_MOST_NUMBERS⟩,⟨_,g_NO_LEAP,r_NO_LEAP⟩,⟨_,g_LEAP_UP,r_LEAP_UP⟩,⟨_,g_LEAP_DOWN,r_LEAP_DOWN⟩,⟨_,g_START,r_START⟩,⟨_,_,Zem⟩⟩;have Zf0:=Zfz.fn
 obtain⟨Zoc,Zod,Zf1⟩:=Zby
 obtain⟨Zq2,Zq3,Zq4,Za0,Zir,Zis⟩:=Zey.fn;have e:=hfa.symm.trans (mg_of X G Zem.ns);cases e;have T:Txt mg a_MAKERS:={ n_len:=mg_none_of X G z_len,n_set:=mg_none_of X G z_set,n_any:=mg_none_of X G z_any,n_range:=mg_none_of X G z_range,n_all:=mg_none_of X G z_all,n_min:=mg_none_of X G z_min,n_max:=mg_none_of X G z_max,n_abs:=mg_none_of X G z_abs,n_tuple:=mg_none_of X G z_tuple,n_list:=mg_none_of X G z_list,n_isinstance:=mg_none_of X G z_isinstance,n_bool:=mg_none_of X G z_bool,n_int:=mg_none_of X G z_int,n_str:=mg_none_of X G z_str,n_divmod:=mg_none_of X G z_divmod,n_enumerate:=mg_none_of X G z_enumerate,n_zip:=mg_none_of X G z_zip,n_reversed:=mg_none_of X G z_reversed,g_FIGURES:=⟨_,mg_of X G g_FIGURES,r_FIGURES⟩,g_MOST_FIGURES:=⟨_,mg_of X G g_MOST_FIGURES,r_MOST_FIGURES⟩,g_MOST_VOICES:=⟨_,mg_of X G g_MOST_VOICES,r_MOST_VOICES⟩,g_MOST_RULES:=⟨_,mg_of X G g_MOST_RULES,r_MOST_RULES⟩,g_MOST_WEIGHT:=⟨_,mg_of X G g_MOST_WEIGHT,r_MOST_WEIGHT⟩,g_MOST_NUMBERS:=⟨_,mg_of X G g_MOST_NUMBERS,r_MOST_NUMBERS⟩,g_NO_LEAP:=⟨_,mg_of X G g_NO_LEAP,r_NO_LEAP⟩,g_LEAP_UP:=⟨_,mg_of X G g_LEAP_UP,r_LEAP_UP⟩,g_LEAP_DOWN:=⟨_,mg_of X G g_LEAP_DOWN,r_LEAP_DOWN⟩,g_START:=⟨_,mg_of X G g_START,r_START⟩,g_MAKERS:=⟨_,mg_of X G n_MAKERS,rfl⟩ };have TE_INNER_KINDS:FD mg a_MAKERS a_INNER_KINDS:={ T with g_INNER_KINDS:=⟨_,mg_of X G n_INNER_KINDS,rfl⟩ };obtain⟨oc,od,kV,doc,pm,an,cdv,ct,osl,rfl,lk,hcd⟩:=Zem.fn.ex;refine⟨fnOf "law" "law" (cu rF) (bX rF) (ak rF) .none kV doc pm an cdv ct,λs v=>.of_eq rfl,λbase _ _=>?_⟩;have Za1: ~~~cB _ _ _ _:=Zfh.df X G (vG Zfh.fn) Zfh.fn.b2;have Zez: ~~~cB _ _ _ _:=Zfj.df X G (CQ Zfj.fn Za1) Zfj.fn.b3;have Ze0: ~~~cB _ _ _ _:=Zfl.df X G (CK Zfl.fn Za1) Zfl.fn.b3;have Zap: ~~~iP _ _ _ _ _:=Zfn.df X G (sM Zfn.fn) Zfn.fn.b2;have Zll:∀(row:Str) (a c:Int),~~~aF Zac "size" 1 ["self"] (pI (f6 Zac row a c) (.int c)):=λrow a c=>Zg3.ok Zan.cl (sI Zg3.fn Zan) Zg3.fn.b1;have Zlm:∀(row:Str) (a c d e:Int),~~~aF Zaa "size" 1 ["self"] (pI (du Zaa row a c d e) (.int (e+1))):=λrow a c d e=>Zg5.ok Zam.cl (qk Zg5.fn Zam) Zg5.fn.b1;have Zln:∀(row:Str) (t u:Int) (RIn:mP),~~~aF Zaj "size" 1 ["self"] (pI (fm Zaj row t u RIn) (.int t)):=λrow t u RIn=>Zg7.ok Zao.cl (qa Zg7.fn Zao) Zg7.fn.b1;have Zlo:∀(row:Str) (a b:Int) (D:List Int) (nv:Nat) (_:1<=a/\a<=nv) (_:1<=b/\b<=nv),~~~aF Zad "after" 3 ["self","memory","before","column"] (bA K nv (iS Zad row a b D) (fu a b D) λ_=>True):=λrow a b D nv ha hb=>Zg9.ok Zaq.cl (qh Zg9.fn T Zaq ha hb Zez) Zg9.fn.b4;have Zlp:∀(row:Str) (a b c:Int) (D:List Int) (nv:Nat) (_:1<=a/\a<=nv) (_:1<=b/\b<=nv) (_:1<=c),~~~aF Zae "after" 3 ["self","memory","before","column"] (bA K nv (gy Zae row a b c D) (ef a b c D) λ_=>True):=λrow a b c D nv ha hb hc=>Zhb.ok Zar.cl (oN Zhb.fn T Zar ha hb hc Zez) Zhb.fn.b4;have Zlq:∀(row:Str) (a:Int) (D:List Int) (nv:Nat) (_:1<=a/\a<=nv),~~~aF Zaf "after" 3 ["self","memory","before","column"] (bA K nv (iR Zaf row a D) (fV a D) λ_=>True):=λrow a D nv ha=>Zhd.ok Zas.cl (qe Zhd.fn T Zas ha Ze0) Zhd.fn.b4;have Zlr:∀(row:Str) (a b:Int) (D:List Int) (nv:Nat) (_:1<=a/\a<=nv) (_:1<=b/\b<=nv),~~~aF Zag "after" 3 ["self","memory","before","column"] (bA K nv (gw Zag row a b D) (eO a b D) λ_=>True):=λrow a b D nv ha hb=>Zhf.ok Zat.cl (oJ Zhf.fn T Zat ha hb Ze0 Zez) Zhf.fn.b4;have Zls:∀(row:Str) (a c:Int) (nv:Nat),~~~aF Zab "closes" 1 ["self","memory","last"] (eh K nv (fZ Zab row a c) (dy a c) kX):=λrow a c nv=>Zhh.ok Zau.cl (oK Zhh.fn T) Zhh.fn.b3;have Zlt:∀(row:Str) (a c:Int) (nv:Nat) (_:1<=a/\a<=nv),~~~aF Zab "after" 3 ["self","memory","before","column"] (bA K nv (fZ Zab row a c) (dy a c) kX):=λrow a c nv ha=>Zhj.ok Zau.cl (pY Zhj.fn T Zau ha Ze0) Zhj.fn.b4;have Zlu:∀(row:Str) (a c:Int) (nv:Nat) (_:1<=a/\a<=nv),~~~aF Zac "after" 3 ["self","memory","before","column"] (bA K nv (f6 Zac row a c) (eo a c) (rm c)):=λrow a c nv ha=>Zhl.ok Zan.cl (qb Zhl.fn T Zan ha (Za1.up ∅)) Zhl.fn.b4;have Zlv:∀(row:Str) (a c d e:Int) (nv:Nat),~~~aF Zaa "closes" 1 ["self","memory","last"] (eh K nv (du Zaa row a c d e) (cM a c d e) (kY e)):=λrow a c d e nv=>Zhn.ok Zam.cl (nh Zhn.fn Zam) Zhn.fn.b3;have Zlw:∀(row:Str) (a c d e:Int) (nv:Nat) (_:1<=a/\a<=nv),~~~aF Zaa "after" 3 ["self","memory","before","column"] (bA K nv (du Zaa row a c d e) (cM a c d e) (kY e)):=λrow a c d e nv ha=>Zhp.ok Zam.cl (oQ Zhp.fn T Zam ha (Za1.up ∅)) Zhp.fn.b4;have Zlx:∀(row:Str) (a:Int) (D:List Int) (nv:Nat) (_:1<=a/\a<=nv),~~~aF Zah "after" 3 ["self","memory","before","column"] (bA K nv (gx Zah row a D) (ee a D) λ_=>True):=λrow a D nv ha=>Zhr.ok Zav.cl (oM Zhr.fn T Zav ha (Za1.up ∅)) Zhr.fn.b4;have Zly:∀(row:Str) (a:Int) (D:List Int) (nv:Nat) (_:1<=a/\a<=nv),~~~aF Zai "closes" 3 ["self","memory","last"] (eh K nv (gz Zai row a D) (eP a D) λ_=>True):=λrow a D nv ha=>Zht.ok Zaw.cl (ng Zht.fn T Zaw ha (Za1.up ∅)) Zht.fn.b3;have Zlz:∀(row:Str) (t u:Int) (nv:Nat) (Cn:Addr) (S:bV) (RIn:mP) (G:Int->Prop) (_:0 < t) (_: ~~~br 4 nv Cn S RIn G),~~~aF Zaj "after" 5 ["self","memory","before","column"] (bA K nv (fm Zaj row t u RIn) (eQ t u S) (oC t)):=λrow t u nv Cn S RIn G ht R=>Zhv.ok Zao.cl (oO Zhv.fn T Zao ht R) Zhv.fn.b4;have Ze1: ~~~cB _ _ _ _:=Zih.df X G (yD Zih.fn T) Zih.fn.b1;have Za2: ~~~cB _ _ _ _:=Zij.df X G (uu Zij.fn T) Zij.fn.b2;have Zay: ~~~cB _ _ _ _:=Zil.df X G (qm Zil.fn T) Zil.fn.b2;have Zmb: ~~~fv _ _ _ _:=⟨Zbf,(vH Zc9.fn T (Za2.up ∅) (Zay.up ∅) (Zhx.df X G (sN Zhx.fn T Zaq Zap) Zhx.fn.b5)),Zc9.fn.kp,Zc9.fn.b3⟩;have Zmd: ~~~fv _ _ _ _:=⟨Zbg,(uq Zda.fn T (Za2.up ∅) (Zay.up ∅) (Zhz.df X G (p7 Zhz.fn T Zar Zap) Zhz.fn.b6)),Zda.fn.kp,Zda.fn.b3⟩;have Zmf: ~~~fv _ _ _ _:=⟨Zbh,(vF Zdb.fn T (Za2.up ∅) (Zay.up ∅) (Zh1.df X G (sL Zh1.fn T Zas Zap) Zh1.fn.b4)),Zdb.fn.kp,Zdb.fn.b3⟩;have Zmh: ~~~fv _ _ _ _:=⟨Zbi,(um Zdc.fn T (Za2.up ∅) (Zay.up ∅) (Zh3.df X G (pX Zh3.fn T Zat Zap) Zh3.fn.b5)),Zdc.fn.kp,Zdc.fn.b3⟩;have Zmj: ~~~fv _ _ _ _:=⟨Zbj,(vC Zdd.fn T (Zay.up ∅) (Zh5.df X G (sF Zh5.fn T Zau Zap) Zh5.fn.b4)),Zdd.fn.kp,Zdd.fn.b3⟩;have Zml: ~~~fv _ _ _ _:=⟨Zbk,(vE Zde.fn T (Zay.up ∅) (Zh7.df X G (sH Zh7.fn T Zan Zap) Zh7.fn.b4)),Zde.fn.kp,Zde.fn.b3⟩;have Zmn: ~~~fv _ _ _ _:=⟨Zbl,(uv Zdf.fn T (Zay.up ∅) (Zh9.df X G (qj Zh9.fn T Zam Zap) Zh9.fn.b6)),Zdf.fn.kp,Zdf.fn.b3⟩;have Zmp: ~~~fv _ _ _ _:=⟨Zbm,(uo Zdg.fn T (Za2.up ∅) (Zay.up ∅) (Zib.df X G (p6 Zib.fn T Zav Zap) Zib.fn.b4)),Zdg.fn.kp,Zdg.fn.b3⟩;have Zmr: ~~~fv _ _ _ _:=⟨Zbn,(ur Zdh.fn T (Za2.up ∅) (Zay.up ∅) (Zid.df X G (p8 Zid.fn T Zaw Zap) Zid.fn.b4)),Zdh.fn.kp,Zdh.fn.b3⟩;have Ze2: ~~~cB _ _ _ _:=Zin.df X G (qu Zin.fn T (Ze1.up ∅)) Zin.fn.b2;have Zkr: ~~~aL _ _ _ _ _ _:=yF (qw Za0 T (Ze2.up ∅)) (qv Za0 T (Ze2.up ∅) (Zip.df X G (qq Zip.fn TE_INNER_KINDS q_INNER_KINDS (Ze1.up ∅) Ze2 ((Zif.df X G (p9 Zif.fn T Zao Zap) Zif.fn.b5).up ∅)) Zip.fn.b2)) t_MAKERS (F1 d_MAKERS_span (Zmb.up ∅) (λrow a b D nv ha hb=>Bh Zaq ((Zfp.ok Zaq.cl (dS Zfp.fn) Zfp.fn.b1).up ∅) ((Zfr.ok Zaq.cl (bY Zfr.fn) Zfr.fn.b1).up ∅) ((Zft.ok Zaq.cl (cE Zft.fn) Zft.fn.b3).up ∅) ((Zlo row a b D nv ha hb).up ∅)) d_MAKERS_clock (Zmd.up ∅) (λrow a b c D nv ha hb hc=>xY Zar ((Zfv.ok Zar.cl (dS Zfv.fn) Zfv.fn.b1).up ∅) ((Zfx.ok Zar.cl (bY Zfx.fn) Zfx.fn.b1).up ∅) ((Zfz.ok Zar.cl (cE Zf0) Zf0.b3).up ∅) ((Zlp row a b c D nv ha hb hc).up ∅)) d_MAKERS_move (Zmf.up ∅) (λrow a D nv ha=>Ar Zas ((Zf1.ok Zas.cl (dS Zf1.fn) Zf1.fn.b1).up ∅) ((Zf3.ok Zas.cl (bY Zf3.fn) Zf3.fn.b1).up ∅) ((Zf5.ok Zas.cl (cE Zf5.fn) Zf5.fn.b3).up ∅) ((Zlq row a D nv ha).up ∅)) d_MAKERS_alike (Zmh.up ∅) (λrow a b D nv ha hb=>xQ Zat ((Zf7.ok Zat.cl (dS Zf7.fn) Zf7.fn.b1).up ∅) ((Zf9.ok Zat.cl (bY Zf9.fn) Zf9.fn.b1).up ∅) ((Zgb.ok Zat.cl (cE Zgb.fn) Zgb.fn.b3).up ∅) ((Zlr row a b D nv ha hb).up ∅)) d_MAKERS_back (Zmj.up ∅) (λrow a c nv ha _=>zo Zau ((Zgz.ok Zau.cl (sG Zgz.fn) Zgz.fn.b1).up ∅) ((Zg1.ok Zau.cl (pZ Zg1.fn T) Zg1.fn.b1).up ∅) ((Zls row a c nv).up ∅) ((Zlt row a c nv ha).up ∅)) d_MAKERS_held (Zml.up ∅) (λrow a c nv ha c1=>zP c1 Zan ((Zll row a c).up ∅) ((Zgn.ok Zan.cl (bY Zgn.fn) Zgn.fn.b1).up ∅) ((Zgp.ok Zan.cl (cE Zgp.fn) Zgp.fn.b3).up ∅) ((Zlu row a c nv ha).up ∅)) d_MAKERS_times (Zmn.up ∅) (λrow a c d e nv ha e1=>yZ e1 Zam ((Zlm row a c d e).up ∅) ((Zgr.ok Zam.cl (bY Zgr.fn) Zgr.fn.b1).up ∅) ((Zlv row a c d e nv).up ∅) ((Zlw row a c d e nv ha).up ∅)) d_MAKERS_begin (Zmp.up ∅) (λrow a D nv ha=>xR Zav ((Zgd.ok Zav.cl (dS Zgd.fn) Zgd.fn.b1).up ∅) ((Zgf.ok Zav.cl (bY Zgf.fn) Zgf.fn.b1).up ∅) ((Zgh.ok Zav.cl (cE Zgh.fn) Zgh.fn.b3).up ∅) ((Zlx row a D nv ha).up ∅)) d_MAKERS_close (Zmr.up ∅) (λrow a D nv ha=>x8 Zaw ((Zgj.ok Zaw.cl (dS Zgj.fn) Zgj.fn.b1).up ∅) ((Zgl.ok Zaw.cl (bY Zgl.fn) Zgl.fn.b1).up ∅) ((Zgx.ok Zaw.cl (qf Zgx.fn) Zgx.fn.b4).up ∅) ((Zly row a D nv ha).up ∅))) (λrow t u nv Cn S RIn G ht R=>yi ht Zao R ((Zln row t u RIn).up ∅) ((Zgt.ok Zao.cl (bY Zgt.fn) Zgt.fn.b1).up ∅) ((Zgv.ok Zao.cl (cE Zgv.fn) Zgv.fn.b3).up ∅) ((Zlz row t u nv Cn S RIn G ht R).up ∅));have Zmt: ~~~cB _ _ _ _:=⟨Zew,Zex,Zkr,mg_of X G Zey.ns,Za0.kp,Za0.binds Zir Zis λ_ _ _ _ _ _ us hl=>match us,hl with | [_,_,_],_=>⟨_,rfl,rfl⟩⟩;have Zs6: ~~~G3 "read_rule" 10 ["text","voices","row"] (~~~ju) [(.int 0)]:=⟨Zew,Zex,[Zku],Zkr,mg_of X G Zey.ns,Za0.kp,Za0.bindsD Zir Zis λ_ _ _ _ _ _ us hl=>match us,hl with | [_,_],_=>⟨_,rfl,rfl⟩,.cons Zkv .nil⟩;have Zbe: ~~~cB _ _ _ _:=Zjl.df X G (F3 Zjl.fn T) Zjl.fn.b2;have Ze3: ~~~cB _ _ _ _:=Zjn.df X G (AD Zjn.fn T) Zjn.fn.b2;have Ze4: ~~~cB _ _ _ _:=Zjr.df X G (CL Zjr.fn T) Zjr.fn.b1;have Zks: ~~~cB _ _ _ _:=Zjt.df X G (CP Zjt.fn T) Zjt.fn.b3;have R0: ~~~cB "_law_row" 2 ["_law_rule_here"] (yU Fm):=Zbd.df X G Ez Zbd.fn.b1;have R1: ~~~cB "_law_row" 3 ["_law_rule_here"] (yU (kL Fm)):=Zbd.df X G (AG (λ_ _ _ _ _ h=>h) Zbd.fn T R0) Zbd.fn.b1;have Zkt: ~~~cB _ _ _ _:=Zkd.df X G (yC Zkd.fn T (Zj9.df X G (oR Zj9.fn T (Zj7.df X G (AF Zj7.fn T) Zj7.fn.b2)) Zj9.fn.b3) ((Zkb.df X G (yG Zkb.fn T) Zkb.fn.b3).up ∅)) Zkd.fn.b3;exact EB Zem.fn T (Zbe.up ∅) ((Zjp.df X G (yE Zjp.fn T Zbe Ze3) Zjp.fn.b2).up ∅) ((Zj3.df X G (AH Zj3.fn T (Zbe.up ∅) (Ze4.up ∅) (Zjz.df X G (CN Zjz.fn T (Ze3.up ∅) (Zjv.df X G (sQ Zjv.fn T Zks) Zjv.fn.b3) (Zjx.df X G (qy Zjx.fn T Zks) Zjx.fn.b3)) Zjz.fn.b2) ((Zj1.df X G (CO Zj1.fn T) Zj1.fn.b1).up ∅)) Zj3.fn.b3).up ∅) (Ze4.up ∅) ((Zkn.df X G (AB Zkn.fn T Zbe Ze3) Zkn.fn.b3).up ∅) ((Zkl.df X G (CJ Zkl.fn T (Ze4.up ∅) (Zkj.df X G (uw Zkj.fn T Zkt) Zkj.fn.b4)) Zkl.fn.b4).up ∅) ((Zj5.df X G (AI Zj5.fn T (Zbd.df X G (AG (kL.same λ_ _ _ _ _ h=>h) Zbd.fn T R1) Zbd.fn.b1)) Zj5.fn.b2).up ∅) ((Zi1.df X G (CM Zi1.fn T Zaz ((Ziz.df X G (oS Ziz.fn T Ze1) Ziz.fn.b1).up ∅) Zmt ((Zit.df X G (qg Zit.fn T Zaz) Zit.fn.b3).up ∅) ((Zix.df X G ((ni Zix.fn T (Ziv.df X G (yH Ziv.fn T Zaz) Ziv.fn.b1)).imp yz) Zix.fn.b1).up ∅)) Zi1.fn.b1).up ∅) (Zjh.df X G (sJ Zjh.fn T Zax Zaz ((Zjb.df X G (oP Zjb.fn T Zax) Zjb.fn.b1).up ∅) ((Zi5.df X G (vD Zi5.fn T Zaz (Zi3.df X G (qr Zi3.fn T) Zi3.fn.b3)) Zi5.fn.b1).up ∅) (Zjf.ok Zax.cl (AA Zjf.fn T Zax Zaz ((Zi7.df X G (sP Zi7.fn T) Zi7.fn.b4).up ∅) ((Zi9.df X G (sO Zi9.fn T) Zi9.fn.b3).up ∅)) Zjf.fn.b4)) Zjh.fn.b2) ((Zkp.df X G (CS Zkp.fn T (Zkh.df X G (AE Zkh.fn T Zkt ((Zkf.df X G (EA Zkf.fn T) Zkf.fn.b2).up ∅)) Zkh.fn.b3)) Zkp.fn.b4).up ∅) ((Zjj.ok Zax.cl (CT Zjj.fn T (Zjd.ok Zax.cl (F4 Zjd.fn T Zax) Zjd.fn.b3)) Zjj.fn.b2).up ∅)
theorem walk{l:PySem.W.OpenLaw}{q:Program}{loose:List Str}{XP:(Str->Option Value)->Heap->Prop}{YP:World->Heap->Prop}{d:DefRec}{K:Params->Frag}(hn:l.most=some 63)(hdf:d.params.defaults=[])
  (hY:∀(w:World) (h:Heap),YP w h->(K w.params).In h)
  (F:∀(w:World) (mg:Str->Option Value) (fa:Addr) (h:Heap),(K w.params).In h->h.Ns mainGlobals mg->mg d.name=↑fa->
   ∃fd:FuncData,(∀(s:Shared) (u:Value),BindsTo s fd ⟨[u],[]⟩ [("_law_script",u)])/\∀base:Heap,(K w.params).In base->base.Ns mainGlobals mg->aL l.prog w (K w.params) mg base bU 13 fa fd ["_law_script"] (xr (K w.params))) :
  PySem.W.WalkO q loose XP YP l.row.toRowW d [] (λf vs=>PySem.call f vs):=
 L2.walk_ofB (n:=63) (k:=13) (x:="_law_script") (CX:=λ_=>bU) (sp:=λw=>xr (K w.params)) hn ∅ hdf ⟨rfl,∅,∅⟩ hY F (λ_ _ a ns hl hb _ hS=>⟨a,ns,rfl,hS,hb,hl,λ_=>rfl⟩) λ_ _ _ _ _ z=>z
end K34
namespace PySem.W.Fast
abbrev N:=Nat
def tw586556715356597248:=N
def tw2991687724044047360:=N
def tw3214743655537836752:=N
def tw11915710027445673493:=N
def tw11053907737770416531:=N
def tw12826575572127824116:=N
def tw12054961659775676473:=N
def tw12281050708810116518:=N
def tw7970146587473866848:=N
def tw10505468393533011331:=N
def tw1648267587963011232:=N
def tw1814945793037390919:=N
def tw2821823723934013701:=N
def tw533105794547517670:=N
def tw9792298717589682804:=N
def tw11552295438843497517:=N
def tw14361191455254498560:=N
def tw6923856131390571808:=N
def tw15764505054347757856:=N
def tw4429944459443818784:=N
def tw17578858477256693024:=N
def tw15497107357847419387:=N
def tw5296288527306447168:=N
def tw15278467486735358272:=N
def tw5198152558553496896:=N
def tw16524516550770773107:=N
def tw4154174596083194767:=N
def tw1860087251203051998:=N
def tw1846939574286523776:=N
def tw9756484630177211623:=N
def tw15430200163268053750:=N
def tw5351915900311294368:=N
def tw4206467855097426244:=N
def tw9779095259886903649:=N
def tw7742633621990906400:=N
def tw9305386127588584992:=N
def tw14416482699075237865:=N
def tw15530507096941781600:=N
def tw10569540739631595250:=N
def tw9180084996206561187:=N
def tw5875879078238212736:=N
def tw16687331833886630528:=N
def tw6515676589061111424:=N
def tw9919826990741596261:=N
def tw3417725842360798795:=N
def tw8083946806711188128:=N
def tw6967321007383744760:=N
def tw247460255419935667:=N
def tw5965434251540673216:=N
def tw15218045359426480858:=N
def tw10233849797299566304:=N
def tw17238285190018202336:=N
def tw7950895865207104256:=N
def tw16947846057371421059:=N
def tw7558936553182292501:=N
def tw17157589509370316576:=N
def tw12225302397002847299:=N
def tw13124261832616527109:=N
def tw12223882380539961021:=N
def tw2897928228806077316:=N
def tw2420376137766708096:=N
def tw9533613085017450368:=N
def tw11641538829945151924:=N
def tw4271489659185115008:=N
def tw3113234809007597500:=N
def tw8307060423600954240:=N
def tw17900174466798286720:=N
def tw3200735794481855780:=N
def tw2399491583946467264:=N
def tw14484570810719521206:=N
def tw7555721162681136096:=N
def tw10113782690942789633:=N
def tw11541519291831266305:=N
def tw6871637014687381505:=N
def tw12709516185006492801:=N
def tw1238436294284575811:=N
def tw2712679002319020854:=N
def tw1711549226528286913:=N
def tw665794971310476057:=N
def tw15374482565578281572:=N
def tw16724685497446321377:=N
def tw14426645397733054317:=N
def tw17236181206653555634:=N
def tw10214487681810542384:=N
def tw16979784626708341290:=N
def tw10333867787352649607:=N
def tw9294244385361354017:=N
def tw1617939561431040321:=N
def tw7578746984790818726:=N
def tw6109630803477258500:=N
def tw2384091524997228783:=N
def tw6015253569816753601:=N
def tw18081807534309254338:=N
def tw12255405007279065303:=N
def tw4596231998900382308:=N
def tw8068558406168806945:=N
def tw10895544651608252155:=N
def tw17979616923540494036:=N
def tw12348018246664991361:=N
def tw457274618240947841:=N
def tw17540065441667500165:=N
def tw1558936307945795538:=N
def tw6345024338799658721:=N
def tw7282456753709318913:=N
def tw9178099332755148545:=N
def tw16459041374153696876:=N
def tw9529466922510414625:=N
def tw16052919768953616193:=N
def tw16432078996648070396:=N
def tw5599776660259954529:=N
def tw970876238097455969:=N
def tw511390264226687873:=N
def tw17835105610498687315:=N
def tw9150564875379370881:=N
def tw14943652668630571321:=N
def tw2220326257901790113:=N
def tw17386594284534575626:=N
def tw12277010405089342401:=N
def tw2721218722244435634:=N
def tw3059146081468476418:=N
def tw16214902193591066339:=N
def tw15733088068407938074:=N
def tw3467213431171292125:=N
def tw15461763736190401634:=N
def tw16683905767869058525:=N
def tw2226412682928802563:=N
def tw14388728004775176354:=N
def tw9602880737098866737:=N
def tw14293507728087194818:=N
def tw10414780291557360274:=N
def tw4082802360370195650:=N
def tw17943681454269447270:=N
def tw15452621853060275426:=N
def tw2706718570519082210:=N
def tw8499650548835336418:=N
def tw3261890828778242306:=N
def tw11132128598050800898:=N
def tw14243852285188195586:=N
def tw2422004705492683010:=N
def tw2953688865536197090:=N
def tw12168309016480563493:=N
def tw4019126039984239970:=N
def tw17451685010736128027:=N
def tw12779699155032236450:=N
def tw12358853440443630050:=N
def tw3003307987463460636:=N
def tw15047036793348351586:=N
def tw15420371874302954082:=N
def tw13733672445462632034:=N
def tw12430481770095319714:=N
def tw10733758195909296726:=N
def tw14811973612115878088:=N
def tw2854529556619257538:=N
def tw13158676653156538082:=N
def tw14963630201577844621:=N
def tw3535191933741432546:=N
def tw10931440773877907152:=N
def tw9867063500564960002:=N
def tw9612648955868407485:=N
def tw1473240748736345858:=N
def tw15823363052542340898:=N
def tw2708001309856306629:=N
def tw3089157704383541090:=N
def tw15620117783810458466:=N
def tw7652391580674554972:=N
def tw16628537226361696098:=N
def tw12544488237975566210:=N
def tw16217400231511307138:=N
def tw2412907358994252674:=N
def tw7244067722705343863:=N
def tw1684886162208174552:=N
def tw8650625625803389955:=N
def tw5667410637694770539:=N
def tw2433228415346947167:=N
def tw15968179648945201935:=N
def tw4873417797347221913:=N
def tw3748842944819989603:=N
def tw6803328482107678085:=N
def tw14657705718250657955:=N
def tw6240402372831829628:=N
def tw10615625704869324069:=N
def tw8559551857142725190:=N
def tw9531795012887717456:=N
def tw2706397005443122467:=N
def tw636081191872897347:=N
def tw9439541635096083781:=N
def tw1104050621596900739:=N
def tw9662552880195227011:=N
def tw11400788970382396867:=N
def tw13685780900211690947:=N
def tw1519966671862286787:=N
def tw27468019289953155:=N
def tw4293904908551333443:=N
def tw16261065389775977500:=N
def tw10136602761524734563:=N
def tw1608348340172416611:=N
def tw1308139631719949155:=N
def tw3745792210821549699:=N
def tw4636373098295201411:=N
def tw1557528724025578820:=N
def tw10896600162610728611:=N
def tw9999301386680241662:=N
def tw15973118969530254791:=N
def tw14084263651382134103:=N
def tw18041369347202049731:=N
def tw2434217284897966992:=N
def tw2602378732324401891:=N
def tw4899976042575532383:=N
def tw11747632777494307720:=N
def tw14847540711673991939:=N
def tw3025414087882965763:=N
def tw6345769045966365528:=N
def tw2455164981763761955:=N
def tw3264378775267978151:=N
def tw15947021614267508338:=N
def tw17721144239894932323:=N
def tw12801158204551621475:=N
def tw17066323407973586819:=N
def tw14873269700131298211:=N
def tw17538340750791422883:=N
def tw6140455287578479587:=N
def tw6537921695552241550:=N
def tw4754404317212130340:=N
def tw15688521355096760243:=N
def tw3233914554086509851:=N
def tw7051313759213715556:=N
def tw1604682323016548452:=N
def tw7048302124130763876:=N
def tw6822134546149166379:=N
def tw13827206518418792548:=N
def tw6633427286076882020:=N
def tw12576739925867435735:=N
def tw3281457870897125305:=N
def tw7007593129915941060:=N
def tw14412382009126724804:=N
def tw12875164411340400836:=N
def tw16160572745726478207:=N
def tw1697751045889190640:=N
def tw16001686026866098582:=N
def tw11798210352032481636:=N
def tw17326651307276635524:=N
def tw2625903083419031295:=N
def tw3601400485856975946:=N
def tw11737525501914666555:=N
def tw9539524070321975802:=N
def tw16209992682504251342:=N
def tw6432229647674131111:=N
def tw12941147683646635877:=N
def tw9547069177588771268:=N
def tw17478444993081505220:=N
def tw2574794139405950667:=N
def tw17615272243497910788:=N
def tw2911373483547838588:=N
def tw587458774724208292:=N
def tw8077389583424607940:=N
def tw12695067989577123556:=N
def tw11044415028488218106:=N
def tw12752763063761904388:=N
def tw9065160330126312196:=N
def tw3437611090330787620:=N
def tw7929360746654520100:=N
def tw13119634559125028676:=N
def tw4046766148962775830:=N
def tw5863056520280910692:=N
def tw15552264829445626724:=N
def tw16679771182571423736:=N
def tw14527219481146098045:=N
def tw12071874964476959052:=N
def tw16809038900897861540:=N
def tw7455033150053758948:=N
def tw8302998281366287743:=N
def tw11763228993618547717:=N
def tw8616184746763573253:=N
def tw15261147562644691947:=N
def tw1936395392171316261:=N
def tw10326098885009811525:=N
def tw10061331347800882365:=N
def tw5205799239863606373:=N
def tw18343432575405472847:=N
def tw13624011598950145157:=N
def tw12257765046850893957:=N
def tw613518509925946501:=N
def tw8562445414986550437:=N
def tw16273335053471362990:=N
def tw15817810541592468424:=N
def tw15257840525454900389:=N
def tw14340509405664022725:=N
def tw7578975355804041445:=N
def tw13627148773294938341:=N
def tw10297292281060710661:=N
def tw6672276040649860357:=N
def tw10774737390408694021:=N
def tw9223912441525178693:=N
def tw6850877083186079120:=N
def tw11473597904943588677:=N
def tw14804496359005286725:=N
def tw17447666811165249925:=N
def tw15904822921183159685:=N
def tw14924501021822557077:=N
def tw16557859554600822213:=N
def tw8364893627768605413:=N
def tw2850890545268465125:=N
def tw13104064296179908069:=N
def tw5102541822111869299:=N
def tw11848037313433169913:=N
def tw4516659305005047301:=N
def tw4431407381867638345:=N
def tw3007325616312415781:=N
def tw3519867458708401701:=N
def tw9230666433282969260:=N
def tw660350233020726265:=N
def tw16407213956037629541:=N
def tw9443871563925667461:=N
def tw10346561976022934277:=N
def tw15243858982199534580:=N
def tw11527867903936210725:=N
def tw2401916451333356325:=N
def tw8929054337132519413:=N
def tw15319301560772296485:=N
def tw3051312022117515045:=N
def tw8202941131767987045:=N
def tw5900404114956748677:=N
def tw6288977974524355461:=N
def tw7756297135159601061:=N
def tw13477457862769909669:=N
def tw13858318358963522383:=N
def tw4978995336726913743:=N
def tw4335874095266258474:=N
def tw3867097354147482312:=N
def tw16193846303432791046:=N
def tw9213036771696801224:=N
def tw14837532745285912614:=N
def tw18249247430709127334:=N
def tw3647153213176826054:=N
def tw13375588430629029062:=N
def tw3968327352902054986:=N
def tw12295745135479780310:=N
def tw10763436800821768454:=N
def tw386976958495752486:=N
def tw17710788973721316080:=N
def tw4278930466034443558:=N
def tw11878542771656512838:=N
def tw17569711402026313062:=N
def tw4365474946239904528:=N
def tw7049540927018799558:=N
def tw15492757910066642374:=N
def tw16161177274642477493:=N
def tw3091839166070420934:=N
def tw4465799768934418522:=N
def tw17878882107287578118:=N
def tw6996443099253454342:=N
def tw1716919546338401798:=N
def tw7516269748295432742:=N
def tw13354105502011071529:=N
def tw18290624221833433702:=N
def tw10546972562182474247:=N
def tw14290102948644764294:=N
def tw16575509039661507465:=N
def tw9971139636269091622:=N
def tw9787762196154545990:=N
def tw6302516253984485323:=N
def tw12969873884285556089:=N
def tw12203550690933706630:=N
def tw2670183110569658342:=N
def tw2228579340999526012:=N
def tw3389642303640697830:=N
def tw10928452377299254279:=N
def tw10236539929588716615:=N
def tw6737269435049526375:=N
def tw13239282426349839527:=N
def tw16804103191664320478:=N
def tw4072781929936042183:=N
def tw16505832173051774151:=N
def tw14385238308802980071:=N
def tw5410402692647410951:=N
def tw12615220619825290535:=N
def tw3261698510600687454:=N
def tw3098388709251404071:=N
def tw15616655422634615079:=N
def tw4247610677004273991:=N
def tw17033306215805843783:=N
def tw12116657228275870131:=N
def tw12717324767156145543:=N
def tw14362388380898562471:=N
def tw9094262046844252436:=N
def tw5797752529099663847:=N
def tw12929781025549364823:=N
def tw17296389901792652807:=N
def tw11181231404972662430:=N
def tw15955051303000627751:=N
def tw12692288585157737397:=N
def tw2318258684948650290:=N
def tw17245348356662251111:=N
def tw11724427592641114127:=N
def tw4709105589202119303:=N
def tw6018741733549358759:=N
def tw10814080717205317287:=N
def tw6905522182226037447:=N
def tw4537170574256138389:=N
def tw5303999781932357147:=N
def tw16737477883909985750:=N
def tw16122914279198278439:=N
def tw3132355218777525031:=N
def tw11991716101205752679:=N
def tw16127116965570500982:=N
def tw14011998031585417482:=N
def tw6487355355902418855:=N
def tw8930180740243403289:=N
def tw15207457306726981243:=N
def tw2879991761915102224:=N
def tw185832911232494600:=N
def tw320325044724420716:=N
def tw13395846254644122013:=N
def tw13531431890344074280:=N
def tw5781186928940866809:=N
def tw13509888551140444563:=N
def tw3416606111274284125:=N
def tw12807887546539162036:=N
def tw10400116165559542702:=N
def tw11894360343049578772:=N
def tw10757727823511534760:=N
def tw11079794885145129361:=N
def tw6021154388742488264:=N
def tw15565239209426605016:=N
def tw3795557791495804104:=N
def tw16678021707699614952:=N
def tw1158102943564792072:=N
def tw13723452770998562056:=N
def tw14260046185771045620:=N
def tw14520048129100278493:=N
def tw17044152221669508348:=N
def tw10698985458629351880:=N
def tw7959881872394246998:=N
def tw7270173692773900776:=N
def tw14750171953835115016:=N
def tw17206788283449753096:=N
def tw86125830758448648:=N
def tw2832904084506280106:=N
def tw2399550691341793083:=N
def tw9162555615349883432:=N
def tw4841326747434802728:=N
def tw6134777820153406456:=N
def tw9327987008702793658:=N
def tw16150585547618226364:=N
def tw6939253719504666174:=N
def tw17187366808918095592:=N
def tw4955334491067022088:=N
def tw10418183973060023345:=N
def tw3592222710877965096:=N
def tw1960501840777433896:=N
def tw16071873486540686458:=N
def tw15917085746948238877:=N
def tw12462838777423176665:=N
def tw17934400892801302411:=N
def tw8132797658851395593:=N
def tw119455799556274461:=N
def tw8191899327754763537:=N
def tw13189917132836222057:=N
def tw12249267023601812617:=N
def tw13253020040864648361:=N
def tw5330367742318070285:=N
def tw657539536040627871:=N
def tw12788300082101186668:=N
def tw18078949769878504684:=N
def tw940675357660235358:=N
def tw5738842793136472457:=N
def tw15613760469637519753:=N
def tw9801444225462046385:=N
def tw14803731040531891657:=N
def tw18288822483668898313:=N
def tw13202076342974830089:=N
def tw3286812514641241083:=N
def tw9609749437173803593:=N
def tw15370863407955980885:=N
def tw16491517740574633705:=N
def tw11678659568542767945:=N
def tw15603396143291615049:=N
def tw5552283593163380617:=N
def tw3928996771606408202:=N
def tw12975631387968454730:=N
def tw5967765737731288202:=N
def tw4099174438223586474:=N
def tw9426701612737813706:=N
def tw17391118020915482826:=N
def tw17440897879170227060:=N
def tw4563489339117804810:=N
def tw5640351628675633418:=N
def tw18289052546066832650:=N
def tw8816791252822894864:=N
def tw12415576986515928362:=N
def tw575077047122184586:=N
def tw6027931800134628338:=N
def tw12347617992073784746:=N
def tw4867972270691050700:=N
def tw18397732536033453546:=N
def tw3987144817193508330:=N
def tw1216744446506130954:=N
def tw14684689179592602134:=N
def tw9445330976773751275:=N
def tw13789779555789236369:=N
def tw1077235529327298154:=N
def tw7863083326102960091:=N
def tw17088941614778460874:=N
def tw12875624044698714826:=N
def tw10193641940883598058:=N
def tw18040281157394287434:=N
def tw5515588499230095992:=N
def tw2274608360862080831:=N
def tw10880281838702671351:=N
def tw9851011902723278475:=N
def tw4073323400531783594:=N
def tw7552558568632606634:=N
def tw10914639735538842538:=N
def tw9606298185536708554:=N
def tw393493256043123658:=N
def tw16246807245226435562:=N
def tw1614920808701377514:=N
def tw15576388230125357163:=N
def tw13618213992940722035:=N
def tw14407343748586079403:=N
def tw14288843332423601172:=N
def tw236093548421230235:=N
def tw16880044543974616235:=N
def tw1711627939789679787:=N
def tw11827918719863884822:=N
def tw13106757727230743373:=N
def tw4135570559669955852:=N
def tw8273484357061392683:=N
def tw14087308530557028715:=N
def tw16307701665360327514:=N
def tw18248520884126280075:=N
def tw12985245516999626391:=N
def tw15204732148840354251:=N
def tw18212805120740013041:=N
def tw6913563566023417327:=N
def tw2816574764677392025:=N
def tw10230031298146621067:=N
def tw10378737719103176597:=N
def tw1548396428557434539:=N
def tw4072217155498875763:=N
def tw15063722811309551275:=N
def tw8865023731091408619:=N
def tw9876688533382886200:=N
def tw12248647851700578485:=N
def tw10503118813065088474:=N
def tw16997165115852089131:=N
def tw10765319262353522328:=N
def tw9504433144903860146:=N
def tw16589828052112432011:=N
def tw766112921465761774:=N
def tw15836163789315558347:=N
def tw5026474593527654347:=N
def tw2473879092493658091:=N
def tw3045899787954928619:=N
def tw9283510960653847564:=N
def tw6151006553734763564:=N
def tw13299088897770897471:=N
def tw1367666364467659101:=N
def tw15450341662284796189:=N
def tw6148369169537012908:=N
def tw8593849501696759416:=N
def tw13260814413648970872:=N
def tw7322399388730234124:=N
def tw17210515564230310871:=N
def tw17717291921382866220:=N
def tw15813975685029922124:=N
def tw14342032131329807725:=N
def tw12705561299392921996:=N
def tw7973889222084641196:=N
def tw741279659849850686:=N
def tw2244450795760690636:=N
def tw4803177464876540732:=N
def tw13232954396883532881:=N
def tw6258059973621677308:=N
def tw15895056492698197484:=N
def tw12314798580972972524:=N
def tw13409196362867630604:=N
def tw2529850777069464787:=N
def tw10104216019592664652:=N
def tw18328939008498414188:=N
def tw9606053113903885964:=N
def tw11836340024742375346:=N
def tw13891939925028576972:=N
def tw3206912429449243468:=N
def tw14178845638484529775:=N
def tw14977933699230473068:=N
def tw10911716516008586352:=N
def tw13663587480940415916:=N
def tw2706808577665441708:=N
def tw5770540795736352716:=N
def tw16195628708850376652:=N
def tw9622084983549135885:=N
def tw7507643247952839725:=N
def tw1031713776577174605:=N
def tw11420046629667349652:=N
def tw1281789375506620757:=N
def tw9142060624599314541:=N
def tw18077422795531220109:=N
def tw10695410793000675469:=N
def tw5560140053115374765:=N
def tw16482870204998523053:=N
def tw3391501556954816717:=N
def tw9454857808902190285:=N
def tw16985309482268922093:=N
def tw10137031934059376144:=N
def tw8507167044739720525:=N
def tw4588185046449499443:=N
def tw9920612651789000624:=N
def tw257275518349583789:=N
def tw6567847819780606801:=N
def tw3805047500125413805:=N
def tw9115208549034191309:=N
def tw1007209287225598445:=N
def tw7544852709400654072:=N
def tw14923460159619189050:=N
def tw6619029286186972717:=N
def tw15006044472246030925:=N
def tw13813204742347726386:=N
def tw9048819037024945805:=N
def tw2271367674403686093:=N
def tw5540620241144784621:=N
def tw14090494976901714268:=N
def tw17899458531127790577:=N
def tw7643438752483303277:=N
def tw2481576267704481108:=N
def tw3840558022220252077:=N
def tw10636634666038868973:=N
def tw16717788959475215341:=N
def tw14306524943399605262:=N
def tw17132622959346123822:=N
def tw427305595681315502:=N
def tw6949605877272634902:=N
def tw13978697524018859054:=N
def tw16444081284637597774:=N
def tw2343289103486053486:=N
def tw7829018015330891886:=N
def tw12593678957261490318:=N
def tw1637740222418315470:=N
def tw9473822582596830446:=N
def tw4814548190487403059:=N
def tw11138237572817181006:=N
def tw472596918440155126:=N
def tw15198667648778372494:=N
def tw2175368313198417326:=N
def tw12385334780383841975:=N
def tw14998977328227220274:=N
def tw17357170422339016820:=N
def tw7920970997940419086:=N
def tw2640960941935930926:=N
def tw14245795732409653071:=N
def tw12947032641289421422:=N
def tw14064280923297181521:=N
def tw9755430373339133582:=N
def tw10362764142908513520:=N
def tw67977007511592686:=N
def tw3398795582554243854:=N
def tw14548672238569297208:=N
def tw13928652667055161103:=N
def tw14477730381017077886:=N
def tw1616432228066829662:=N
def tw4930309302375430030:=N
def tw4937429101281498030:=N
def tw16746126969049224174:=N
def tw16294688787339175930:=N
def tw803450221954913007:=N
def tw419620112334330334:=N
def tw361874700872405855:=N
def tw5327802001063136271:=N
def tw15722981332614914449:=N
def tw18288398590905939006:=N
def tw6886546017194652404:=N
def tw18146227937072930803:=N
def tw7433993127339172015:=N
def tw714023426945468591:=N
def tw16874482812681264399:=N
def tw4755277790004602127:=N
def tw6093632740036318936:=N
def tw12385790792211395604:=N
def tw14720405482003846238:=N
def tw1139066729896616367:=N
def tw13369376927711626258:=N
def tw4253299244410385726:=N
def tw10986418715505639193:=N
def tw3720159406860446351:=N
def tw8470135002761817775:=N
def tw13737417329114579695:=N
def tw6108211289108688279:=N
def tw209266800278509359:=N
def tw5389466437344140079:=N
def tw5316755053068045135:=N
def tw6251364948475523827:=N
def tw10850656734640094063:=N
def tw1178292591110327183:=N
def tw2678611087803324303:=N
def tw1454454665748398429:=N
def tw15733277432546903089:=N
def tw13415285217097282392:=N
def tw13161251285136553935:=N
def tw11166811595838917583:=N
def tw17207075736202103791:=N
def tw16206311415866063920:=N
def tw13817412343362252848:=N
def tw16728545524791020624:=N
def tw17562983214262007888:=N
def tw4611699517016277850:=N
def tw7632183199380926932:=N
def tw4234432838585633968:=N
def tw16191190676742737104:=N
def tw9830040436238396624:=N
def tw7207195619087307253:=N
def tw10037071789156747472:=N
def tw218336005130771664:=N
def tw14746016866186293040:=N
def tw8149961951410167921:=N
def tw7700389879730191600:=N
def tw10886695513726567419:=N
def tw6979488552767925937:=N
def tw8669315955714986256:=N
def tw1643673438225228144:=N
def tw14147034098804782480:=N
def tw6327599687257129461:=N
def tw9530103682651644725:=N
def tw16082282863281633176:=N
def tw15405071188993683056:=N
def tw9437698296661629077:=N
def tw10631548602530135999:=N
def tw8984710238258244272:=N
def tw5919356826500726512:=N
def tw8739835885353228112:=N
def tw12308416762382618480:=N
def tw3499766781807923056:=N
def tw11291789790886384496:=N
def tw9934343482233352048:=N
def tw14647224505830506352:=N
def tw10450368478849509264:=N
def tw14187287548785904404:=N
def tw17031543716860490672:=N
def tw14222972488083025213:=N
def tw10944164567696469490:=N
def tw4868945920305302545:=N
def tw8716831293219935378:=N
def tw2686329032025455697:=N
def tw17021583731145911577:=N
def tw3286420276347194289:=N
def tw1686914498731851220:=N
def tw13943104751337474902:=N
def tw13493737520243672018:=N
def tw2654823193083673567:=N
def tw7162589659584291159:=N
def tw14871033261420707121:=N
def tw696610638370013236:=N
def tw774381765743863217:=N
def tw14484242257953876923:=N
def tw14892254701571580689:=N
def tw16535696571836937625:=N
def tw10640679569651735153:=N
def tw717167656221918230:=N
def tw12638244896182137150:=N
def tw6279296213817030521:=N
def tw15496982277336188593:=N
def tw7812403344828845745:=N
def tw7514894423952302801:=N
def tw13044439539104021655:=N
def tw11490425386097556275:=N
def tw503881583827790705:=N
def tw17341630198793760091:=N
def tw14955328281679258481:=N
def tw7451258250489955281:=N
def tw4936072089781791516:=N
def tw4318475919250768695:=N
def tw15544604065468638193:=N
def tw13185523896224258130:=N
def tw12738512264771651730:=N
def tw7363139924873778489:=N
def tw4460751140808987954:=N
def tw15843713340759335282:=N
def tw14019520747624750482:=N
def tw1393671717500789170:=N
def tw6861404627782276562:=N
def tw15196815745147465170:=N
def tw6491321195572097490:=N
def tw12183091739275898354:=N
def tw7420900108428136317:=N
def tw6979147113472584274:=N
def tw12488305798987079314:=N
def tw10201898656279703250:=N
def tw9866115323641478866:=N
def tw2189051844718107378:=N
def tw9883101434570305300:=N
def tw16833614988273302354:=N
def tw5564245862314217305:=N
def tw15909460077734254679:=N
def tw14645789519347872658:=N
def tw400443521765399506:=N
def tw1466391349530078194:=N
def tw14769962102291997465:=N
def tw16575099942846787188:=N
def tw13881880372901682709:=N
def tw12089726831905779923:=N
def tw3747545659789522779:=N
def tw9020444105779705267:=N
def tw7185879630433128915:=N
def tw5476383720104938963:=N
def tw7795108140170710515:=N
def tw1060772196257676787:=N
def tw11575196618795800796:=N
def tw10368072946595017299:=N
def tw11014210034329002611:=N
def tw2433682075093741171:=N
def tw12830842018816341651:=N
def tw9090977691437773491:=N
def tw6412606906973845171:=N
def tw4165941210166039379:=N
def tw23618257076470643:=N
def tw13916835069841892243:=N
def tw8403098943791710195:=N
def tw1999179109681099956:=N
def tw12501425702642046132:=N
def tw6642307840229243636:=N
def tw1385107658313573750:=N
def tw9329802230087909748:=N
def tw12764305475627976084:=N
def tw14374282000871493172:=N
def tw17565969388889568599:=N
def tw17257168538228616862:=N
def tw11313077561450591028:=N
def tw4275030901716325182:=N
def tw11618507459228879828:=N
def tw1216634903926483956:=N
def tw13848933402228551455:=N
def tw2813815851129068661:=N
def tw17352311845879721975:=N
def tw13062411806261098741:=N
def tw10431329796620716277:=N
def tw14084219441522750773:=N
def tw10525947433476144437:=N
def tw12264320919765675325:=N
def tw5839284463060007317:=N
def tw2378266369622847608:=N
def tw8348155226020137301:=N
def tw5282175231109086773:=N
def tw16085687287110670069:=N
def tw12051919738998837109:=N
def tw272718070883745143:=N
def tw16935196500991324126:=N
def tw3844947862177746201:=N
def tw1921124943399174037:=N
def tw17733011591535794101:=N
def tw6594046038071209501:=N
def tw11226875816346680185:=N
def tw17868396236982574037:=N
def tw1675221802741722134:=N
def tw13616638381354496639:=N
def tw12083636133988002781:=N
def tw4633506185739589910:=N
def tw431524717498066296:=N
def tw9914200320936877214:=N
def tw7029449349872454684:=N
def tw8534349040784864950:=N
def tw7599636817976123126:=N
def tw6141039957144727358:=N
def tw5575544726263121686:=N
def tw5428571005771248791:=N
def tw17055374191980338359:=N
def tw10497585208582626302:=N
def tw4849746670533648631:=N
def tw7956153937178041916:=N
def tw12057910047790661433:=N
def tw15558504521739335356:=N
def tw5729993609528088061:=N
def tw5616753569259497815:=N
def tw4329430438028241271:=N
def tw9191441950505536087:=N
def tw2746260454375727735:=N
def tw10463853809615882871:=N
def tw15490833537379778365:=N
def tw2798281484900434935:=N
def tw2456452883151305816:=N
def tw2445197699476852824:=N
def tw3165712594602880280:=N
def tw9990569005397719769:=N
def tw5176514946501175736:=N
def tw8548062858247035195:=N
def tw710462087272155736:=N
def tw5829301486539132124:=N
def tw10442011438088805112:=N
def tw1863439663546462968:=N
def tw13167267688958977912:=N
def tw15369157181103475033:=N
def tw5330055156188492185:=N
def tw8004645395608028670:=N
def tw9157180770607622777:=N
def tw9049934653438589689:=N
def tw17232075505697164057:=N
def tw7013083608330920761:=N
def tw6018965647672177497:=N
def tw11406712432946928601:=N
def tw10035184542645643257:=N
def tw9239295488956281882:=N
def tw17189758348433485882:=N
def tw8632391677711707354:=N
def tw10306872558389188922:=N
def tw898633216887776570:=N
def tw12030042563361151482:=N
def tw15051791634654418830:=N
def tw15363266575871360863:=N
def tw2725735010969634554:=N
def tw12196046016343821050:=N
def tw7266685690333009690:=N
def tw10489742775177055226:=N
def tw18057462075677469723:=N
def tw15764756016449894459:=N
def tw6612951660020899995:=N
def tw7924966245974066331:=N
def tw7310033613001396891:=N
def tw12776310723803612443:=N
def tw5983779739146230107:=N
def tw9541747465339423486:=N
def tw10201581978220371419:=N
def tw5272572638415187419:=N
def tw12874206208520320475:=N
def tw3478557008433261596:=N
def tw10653215575137658715:=N
def tw11690306105317302141:=N
def tw8570452272424084061:=N
def tw2015505840928448475:=N
def tw12310635151329984636:=N
def tw3814710524314910876:=N
def tw8816013779108219294:=N
def tw17148247749140530396:=N
def tw5028314017987453022:=N
def tw15236723435377615484:=N
def tw16399113102213195260:=N
def tw2609420805438359068:=N
def tw15889161755440628476:=N
def tw4979473486488319868:=N
def tw14557955600334811007:=N
def tw13758353004921877597:=N
def tw8860269730342571229:=N
def tw7353591476402313606:=N
def tw16183951752838567421:=N
def tw16483874047908494845:=N
def tw4476471283252875198:=N
def tw15003704142103323357:=N
def tw4035924059542069245:=N
def tw8659925056191489054:=N
def tw10880556819159967806:=N
def tw13004256529809630015:=N
def tw3449220973428461886:=N
def tw4516694248379681150:=N
def tw25750598341037566:=N
def tw15230904430769892287:=N
def tw3203349908630796894:=N
def tw15558103981471582942:=N
def tw2392889855282663134:=N
def tw11387930711120043870:=N
def tw14071391709722276734:=N
def tw16643523250081992767:=N
def tw2040947549952675103:=N
def tw2281712450717874623:=N
def tw7040185677367910911:=N
def tw17117642687653142303:=N
end PySem.W.Fast
local macro_rules|`(tactic|tm_at "h0")=>`(tactic| (refine' L2.methAt_mk ?a ?i ?l ?c ?k;(case a=>k_is);(case i=>k_is);(case l=>k_is);(case c=>k_is);(case k=>k_is)))|`(tactic|tm_at "h1")=>`(tactic| (refine' L2.defAt_mk ?a ?l ?c ?k;(case a=>k_is);(case l=>k_is);(case c=>k_is);(case k=>k_is)))|`(tactic|tm_at "h2")=>`(tactic| (refine' L2.mkAt_mk ?n ?m ?a ?i ?kc ?l ?c ?k;(case n=>k_is);(case m=>k_is);(case a=>k_is);(case i=>k_is);(case kc=>k_is);(case l=>k_is);(case c=>k_is);(case k=>k_is)))|`(tactic|tm_at "h3")=>`(tactic| (refine' L2.const_mk ?e ?r;(case e=>k_is);(case r=>exact⟨_,by with_unfolding_all rfl⟩)))|`(tactic|tm_at "h4")=>`(tactic| (refine'⟨?a,L2.fun_mk ?l ?c ?k⟩;(case a=>k_is);(case l=>k_is);(case c=>k_is);(case k=>k_is)))|`(tactic|tm_at "h5")=>`(tactic| (refine'⟨⟨?_,?_,?_,?_⟩,?_,?_,?_⟩<;>(try delta L2.NoAttr)<;>k_is))|`(tactic|tm_at "h6")=>`(tactic| (refine'⟨⟨?_,?_,?_,?_⟩,?_,?_,?_,?_⟩<;>(try delta L2.NoAttr)<;>k_is))
open PySem PySem.W PyProof.Rows
set_option maxRecDepth 100000 in
set_option maxHeartbeats 0 in
theorem PySem.Challenge.cw_fourvoices_k34_like_states_like_tails_holds : PySem.Challenge.rw_fourvoices_k34_like_states_like_tails.Holds := by
 w_on;o_law;k_head;(case hw=>w_witness2)
 k_fill
 refine K34.walk (l:=PySem.Challenge.rw_fourvoices_k34_like_states_like_tails) rfl rfl (λw h Y=>PySem.W.kIn_of Y) ?F
 case F=>
  intro w mg fa h KX G hmg;refine' K34.all_mk KX G hmg ?Ze5 ?Zaq ?Ze6 ?Zar ?Ze7 ?Zas ?Ze8 ?Zat ?Ze9 ?Zau ?Zfa ?Zan ?Zfb ?Zam ?Zfc ?Zav ?Zfd ?Zaw ?Zfe ?Zao ?Zff ?Zaz ?Zfg ?Zax ?Zbo ?Zbp ?Zbq ?Zbr ?Zbs ?Zbt ?Zbu ?Zbv ?Zbw ?Zbx ?Zby ?Zbz ?Zb0 ?Zb1 ?Zb2 ?Zb3 ?Zb4 ?Zb5 ?Zb6 ?Zb7 ?Zb8 ?Zb9 ?Zca ?Zcb ?Zcc ?Zcd ?Zce ?Zcf ?Zcg ?Zch ?Zci ?Zcj ?Zck ?Zcl ?Zcm ?Zcn ?Zco ?Zcp ?Zcq ?Zcr ?Zcs ?Zct ?Zcu ?Zcv ?Zcw ?Zcx ?Zcy ?Zcz ?Zc0 ?Zc1 ?Zc2 ?Zc3 ?Zc4 ?Zc5 ?Zc6 ?Zc7 ?Zc8 ?Zc9 ?Zda ?Zdb ?Zdc ?Zdd ?Zde ?Zdf ?Zdg ?Zdh ?Zdi ?Zdj ?Zdk ?Zdl ?Zdm ?Zdn ?Zdo ?Zdp ?Zdq ?Zdr ?Zds ?Zdt ?Zdu ?Zdv ?Zdw ?Zdx ?Zdy ?Zdz ?Zd0 ?Zd1 ?Zd2 ?Zd3 ?Zd4 ?Zd5 ?Zd6 ?Zd7 ?Zd8 ?Zd9 ?Zea ?Zeb ?Zec ?Zed ?Zee ?Zef ?Zeg ?Zeh ?Zei ?Zej ?Zek ?n_MAKERS ?t_MAKERS ?d_MAKERS_span ?d_MAKERS_clock ?d_MAKERS_move ?d_MAKERS_alike ?d_MAKERS_back ?d_MAKERS_held ?d_MAKERS_times ?d_MAKERS_begin ?d_MAKERS_close ?n_INNER_KINDS ?q_INNER_KINDS ?z_len ?z_set ?z_any ?z_range ?z_all ?z_min ?z_max ?z_abs ?z_tuple ?z_list ?z_isinstance ?z_bool ?z_int ?z_str ?z_divmod ?z_enumerate ?z_zip ?z_reversed ?g_FIGURES ?g_MOST_FIGURES ?g_MOST_VOICES ?g_MOST_RULES ?g_MOST_WEIGHT ?g_MOST_NUMBERS ?g_NO_LEAP ?g_LEAP_UP ?g_LEAP_DOWN ?g_START ?Zel
  (case Ze5=>k_is)
  (case Zaq=>tm_at "h6")
  (case Ze6=>k_is)
  (case Zar=>(refine'⟨⟨?a_3,?b_3,?c_3,?d_3⟩,?f0_3,?f1_3,?f2_3,?f3_3,?f4_3⟩;(case a_3=>k_is);(case b_3=>k_is);(case c_3=>k_is);(case d_3=>k_is);(case f0_3=>delta L2.NoAttr;k_is);(case f1_3=>delta L2.NoAttr;k_is);(case f2_3=>delta L2.NoAttr;k_is);(case f3_3=>delta L2.NoAttr;k_is);(case f4_3=>delta L2.NoAttr;k_is)))
  (case Ze7=>k_is)
  (case Zas=>tm_at "h5")
  (case Ze8=>k_is)
  (case Zat=>tm_at "h6")
  (case Ze9=>k_is)
  (case Zau=>tm_at "h5")
  (case Zfa=>k_is)
  (case Zan=>tm_at "h5")
  (case Zfb=>k_is)
  (case Zam=>(refine'⟨⟨?a_13,?b_13,?c_13,?d_13⟩,?f0_13,?f1_13,?f2_13,?f3_13,?f4_13⟩;(case a_13=>k_is);(case b_13=>k_is);(case c_13=>k_is);(case d_13=>k_is);(case f0_13=>delta L2.NoAttr;k_is);(case f1_13=>delta L2.NoAttr;k_is);(case f2_13=>delta L2.NoAttr;k_is);(case f3_13=>delta L2.NoAttr;k_is);(case f4_13=>delta L2.NoAttr;k_is)))
  (case Zfc=>k_is)
  (case Zav=>tm_at "h5")
  (case Zfd=>k_is)
  (case Zaw=>tm_at "h5")
  (case Zfe=>k_is)
  (case Zao=>tm_at "h6")
  (case Zff=>k_is)
  (case Zaz=>(refine'⟨⟨?a_21,?b_21,?c_21,?d_21⟩,?f0_21,?f1_21⟩;(case a_21=>k_is);(case b_21=>k_is);(case c_21=>k_is);(case d_21=>k_is);(case f0_21=>delta L2.NoAttr;k_is);(case f1_21=>delta L2.NoAttr;k_is)))
  (case Zfg=>k_is)
  (case Zax=>tm_at "h5")
  (case Zbo|Zbp|Zbq=>tm_at "h1")
  (case Zbr=>(refine' L2.cmethAt_mk ?n_27 ?r_27 ?a_27 ?g_27 ?l_27 ?c_27 ?k_27;(case n_27=>k_is);(case r_27=>k_is);(case a_27=>k_is);(case g_27=>k_is);(case l_27=>k_is);(case c_27=>k_is);(case k_27=>k_is)))
  (case Zbs|Zbt|Zbu|Zbv|Zbw|Zbx|Zby|Zbz|Zb0|Zb1|Zb2|Zb3|Zb4|Zb5|Zb6|Zb7|Zb8|Zb9|Zca|Zcb|Zcc|Zcd|Zce|Zcf|Zcg|Zch|Zci|Zcj|Zck|Zcl|Zcm|Zcn|Zco|Zcp|Zcq|Zcr|Zcs|Zct|Zcu|Zcv=>tm_at "h0")
  (case Zcw|Zcx|Zcy|Zcz|Zc0|Zc1|Zc2|Zc3|Zc4|Zc5=>tm_at "h2")
  (case Zc6|Zc7|Zc8=>tm_at "h1")
  (case Zc9|Zda|Zdb|Zdc|Zdd|Zde|Zdf|Zdg|Zdh=>tm_at "h4")
  (case Zdi|Zdj=>tm_at "h1")
  (case Zdk=>(refine' L2.defAtD_mk2 ?a_92 ?l_92 ?c_92 ?k_92 ?t_92 ?d_92 ?r_92;(case a_92=>k_is);(case l_92=>k_is);(case c_92=>k_is);(case k_92=>k_is);(case t_92=>k_is);(case d_92=>rfl);(case r_92=>exact⟨_,rfl⟩)))
  (case Zdl=>tm_at "h2")
  (case Zdm|Zdn|Zdo|Zdp|Zdq|Zdr|Zds|Zdt=>tm_at "h1")
  (case Zdu=>(refine' L2.cmethAt_mk ?n_102 ?r_102 ?a_102 ?g_102 ?l_102 ?c_102 ?k_102;(case n_102=>k_is);(case r_102=>k_is);(case a_102=>k_is);(case g_102=>k_is);(case l_102=>k_is);(case c_102=>k_is);(case k_102=>k_is)))
  (case Zdv|Zdw=>tm_at "h0")
  (case Zdx=>tm_at "h2")
  (case Zdy=>tm_at "h0")
  (case Zdz|Zd0|Zd1|Zd2|Zd3|Zd4|Zd5|Zd6|Zd7|Zd8|Zd9|Zea|Zeb|Zec|Zed|Zee|Zef|Zeg|Zeh|Zei|Zej|Zek=>tm_at "h1")
  (case n_MAKERS=>k_is)
  (case t_MAKERS=>(refine' L2.tab_mk ?l_130 ?s_130 ?x_130 ?y_130 ?z_130 ?d_130 ?r_130;(case l_130=>k_is);(case s_130=>rfl);(case x_130=>rfl);(case y_130=>rfl);(case z_130=>rfl);(case d_130=>rfl);(case r_130=>exact(L2.rowsR rfl rfl (L2.rowsR rfl rfl (L2.rowsR rfl rfl (L2.rowsR rfl rfl (L2.rowsR rfl rfl (L2.rowsR rfl rfl (L2.rowsR rfl rfl (L2.rowsR rfl rfl (L2.rowsR rfl rfl .nil))))))))))))
  (case d_MAKERS_span=>with_unfolding_all rfl)
  (case d_MAKERS_clock=>with_unfolding_all rfl)
  (case d_MAKERS_move=>with_unfolding_all rfl)
  (case d_MAKERS_alike=>with_unfolding_all rfl)
  (case d_MAKERS_back=>with_unfolding_all rfl)
  (case d_MAKERS_held=>with_unfolding_all rfl)
  (case d_MAKERS_times=>with_unfolding_all rfl)
  (case d_MAKERS_begin=>with_unfolding_all rfl)
  (case d_MAKERS_close=>with_unfolding_all rfl)
  (case n_INNER_KINDS=>k_is)
  (case q_INNER_KINDS=>(refine' L2.ktup_mk ?l_141 ?x_141 ?d_141 ?z_141 ?r_141;(case l_141=>k_is);(case x_141=>rfl);(case d_141=>rfl);(case z_141=>decide);(case r_141=>exact(.cons ⟨_,rfl⟩ (.cons ⟨_,rfl⟩ .nil)))))
  (case z_len|z_set|z_any|z_range|z_all|z_min|z_max|z_abs|z_tuple|z_list|z_isinstance|z_bool|z_int|z_str|z_divmod|z_enumerate|z_zip|z_reversed=>k_is)
  (case g_FIGURES|g_MOST_FIGURES|g_MOST_VOICES|g_MOST_RULES|g_MOST_WEIGHT|g_MOST_NUMBERS|g_NO_LEAP|g_LEAP_UP|g_LEAP_DOWN|g_START=>tm_at "h3")
  (case Zel=>tm_at "h1")
