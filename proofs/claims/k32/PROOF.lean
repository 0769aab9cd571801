import PyProof.Rows.All
import Wide.All
import OpenK.AllK
import Wide.FinOn
import Lean
import PyProof.EqAt
import PyProof.EqKinds
import PyProof.TupleCall
import KE.KTab
import KE.KRevSl
import PyProof.Rows.Range3
import PyProof.WalkInts
import PyProof.Rows.StrSplitMax
import KE.KMinKey
import PyProof.LongRange
import PyProof.ListRange
import PyProof.ExcClass3
import PyProof.InstStore
import PyProof.StationsW
import PyProof.ExcQuiet
import PyProof.RulesTry
import PyProof.ExcArgsOwn
import PyProof.DictRoadsH
import Wide.Seal
import KE.KRevIter
import PyProof.SumAny
import KE.KTryMore
import PyProof.Rows.SetFrom
import PyProof.SetRoads
import PySem.Challenge.RW_fourvoices_k32_walks_and_faults
set_option compiler.extract_closed false
set_option Elab.async false
set_option linter.all false
set_option maxRecDepth 100000
set_option hygiene false
local macro_rules|`(())=>`(by omega)
local macro_rules|`(∅)=>`(by decide)
local macro_rules|`(⋯)=>`(by rfl)
abbrev aa0:=@List.length_map
abbrev aa1:=@List.getElem?_eq_some_iff
abbrev aa2:=@List.getElem?_eq_getElem
abbrev aa3:=@PySem.wpAny_bind
abbrev aa4:=@List.getElem?_map
abbrev aa5:=@PySem.Heap.get?_push_of_some
abbrev aa6:=@Bool.false_ne_true
abbrev aa7:=@Nat.lt_of_le_of_lt
abbrev aa8:=@Nat.le_refl
abbrev aa9:=@PySem.wpAny_pure
abbrev ab0:=@List.mem_cons
abbrev ab1:=@List.size_toArray
abbrev ab2:=@Nat.lt_of_lt_of_le
abbrev ab3:=@List.map_append
abbrev ab4:=@List.length_append
abbrev ab5:=@List.getD_eq_getElem?_getD
abbrev ab6:=@Nat.le_trans
abbrev ab7:=@List.getElem?_append_left
abbrev ab8:=@PySem.Heap.get?_push_size
abbrev ab9:=@PySem.Heap.lt_size
abbrev ac0:=@List.mem_of_getElem?
abbrev ac1:=@List.mem_singleton
abbrev ac2:=@Nat.zero_le
abbrev ac3:=@List.length_take
abbrev ac4:=@List.mem_map
abbrev ac5:=@List.take_add_one
abbrev ac6:=@List.getElem?_append_right
abbrev ac7:=@Int.emod_lt_of_pos
abbrev ac8:=@List.mem_append
abbrev ac9:=@List.mem_append_right
abbrev ad0:=@List.map_cons
abbrev ad1:=@List.forall_mem_cons
abbrev ad2:=@List.not_mem_nil
abbrev ad3:=@Nat.ne_of_lt
abbrev ad4:=@Int.emod_nonneg
abbrev ad5:=@List.take_length
abbrev ad6:=@List.length_cons
abbrev ad7:=@List.getElem_mem
abbrev ad8:=@List.mem_cons_self
abbrev ad9:=@List.mem_cons_of_mem
abbrev ae0:=@Int.eq_ofNat_of_zero_le
abbrev ae1:=@Nat.succ_le_succ
abbrev ae2:=@PySem.wpAny_truthy_bool
abbrev ae3:=@Bool.false_eq_true
abbrev ae4:=@List.getElem?_range
abbrev ae5:=@List.foldl_cons
abbrev ae6:=@PySem.wpAny_holding
abbrev ae7:=@List.replicate_succ
abbrev ae8:=@PySem.Heap.size_push
abbrev ae9:=@PySem.wpAny_field
abbrev af0:=@List.getElem?_drop
abbrev af1:=@List.append_nil
abbrev af2:=@PySem.wpAny_mono
abbrev af3:=@Int.le_trans
abbrev af4:=@Bool.eq_iff_iff
abbrev af5:=@List.forIn_cons
abbrev af6:=@List.all_eq_true
abbrev af7:=@List.length_eq_zero_iff
abbrev af8:=@List.mem_range
abbrev af9:=@PySem.wpAny_seqItems
abbrev ag0:=@List.take_of_length_le
abbrev ag1:=@List.length_drop
abbrev ag2:=@PySem.wpAny_call_entry
abbrev ag3:=@List.lookup_cons
abbrev ag4:=@PySem.wpAny_setField_rec
abbrev ag5:=@List.mem_flatMap
abbrev ag6:=@Nat.lt_irrefl
abbrev ag7:=@List.getElem?_of_mem
abbrev ag8:=@Int.toNat_natCast
abbrev ag9:=@PySem.wpAny_newObj_type
abbrev ah0:=@List.flatten_cons
abbrev ah1:=@Array.toList_append
abbrev ah2:=@Nat.le_of_lt
abbrev ah3:=@List.map_nil
abbrev ah4:=@Bool.false_and
abbrev ah5:=@PySem.wpAny_Call_Name_kw
abbrev ah6:=@List.getElem?_take
abbrev ah7:=@PySem.wpAny_passesOwn
abbrev ah8:=@List.mem_append_left
abbrev ah9:=@List.all_map
abbrev ai0:=@List.foldl_append
abbrev ai1:=@Bool.true_and
abbrev ai2:=@Nat.lt_succ_self
abbrev ai3:=@Bool.and_eq_true
abbrev ai4:=@PySem.wpAny_getItem_str_slice
abbrev ai5:=@Int.natCast_nonneg
abbrev ai6:=@Nat.zero_add
abbrev ai7:=@List.map_map
abbrev ai8:=@List.nodup_cons
abbrev ai9:=@PySem.wpAny_ite_false
abbrev aj0:=@List.getElem?_eq_none
abbrev aj1:=@List.drop_eq_nil_iff
abbrev aj2:=@Nat.pow_le_pow_right
abbrev aj3:=@List.mem_of_mem_take
abbrev aj4:=@Nat.min_le_right
abbrev aj5:=@Nat.ne_of_gt
abbrev aj6:=@Nat.sub_self
abbrev aj7:=@List.any_cons
abbrev aj8:=@Bool.or_eq_true
abbrev aj9:=@PySem.wpAny_specialOf
abbrev ak0:=@Nat.not_lt_zero
abbrev ak1:=@Int.lt_of_lt_of_le
abbrev ak2:=@Nat.add_sub_cancel
abbrev ak3:=@Int.ofNat_le
abbrev ak4:=@List.any_eq_false
abbrev ak5:=@List.append_assoc
abbrev ak6:=@PySem.wpAny_pyIter_list
abbrev ak7:=@List.forIn_nil
abbrev ak8:=@List.drop_drop
abbrev ak9:=@Nat.lt_or_ge
abbrev al0:=@List.getElem?_zipWith
abbrev al1:=@List.mem_iff_getElem?
abbrev al2:=@Nat.not_lt
abbrev al3:=@List.all_cons
abbrev al4:=@PySem.wpAny_updateSeq_pair
abbrev al5:=@List.mem_of_mem_drop
abbrev al6:=@Nat.mul_le_mul_right
abbrev al7:=@PySem.wpAny_execs_nil
abbrev al8:=@Option.map_some
abbrev al9:=@PySem.wpAny_loadPart'
abbrev am0:=@List.range_succ
abbrev am1:=@Int.toNat_of_nonneg
abbrev am2:=@List.filterMap_cons
abbrev am3:=@Array.length_toList
abbrev am4:=@List.take_succ_cons
abbrev am5:=@List.flatten_append
abbrev am6:=@PySem.wpAny_typeOf
abbrev am7:=@Nat.succ_mul
abbrev am8:=@Int.lt_of_le_of_lt
abbrev am9:=@Array.forIn_toList
abbrev an0:=@List.filter_append
abbrev an1:=@Array.size_append
abbrev an2:=@List.nodup_append
abbrev an3:=@List.flatMap_cons
abbrev an4:=@PySem.wpAny_standAt
abbrev an5:=@PySem.wpAny_onRaise
abbrev an6:=@Bool.not_true
abbrev an7:=@List.map_take
abbrev an8:=@PySem.wpAny_isInstance
abbrev an9:=@List.cons_append
abbrev ao0:=@List.countP_cons
abbrev ao1:=@PySem.wpAny_forIn_list
abbrev ao2:=@List.any_eq_true
abbrev ao3:=@Int.ofNat_lt
abbrev ao4:=@PySem.codeAny_mono
abbrev ao5:=@Nat.mul_comm
abbrev ao6:=@Nat.add_zero
abbrev ao7:=@Int.lt_or_le
abbrev ao8:=@List.of_mem_zip
abbrev ao9:=@List.length_set
abbrev ap0:=@Int.natCast_mul
abbrev ap1:=@Nat.min_eq_left
abbrev ap2:=@List.find?_cons
abbrev ap3:=@Int.le_refl
open PySem.W (Frag instObj findIn emptyDict keepIn kia_one fnOf codeIn nsIn mg_of mg_none_of)
theorem FD{n:Nat}(h:n<=16777216):n<=PySem.sizeLine:=by rw [PySem.sizeLine_eq];exact h
theorem HM{n c:Nat}(h:n<=c)(k:c<=16777216):n<=PySem.sizeLine:=FD (ab6 h k)
theorem Hr{n c:Nat}(h:n<=c)(k:c+1<=16777216):n+1<=PySem.sizeLine:=FD (ab6 (ae1 h) k)
theorem oz4{n c:Nat}(h:n < c)(k:c<=16777216):n < PySem.sizeLine:=ab2 h (FD k)
theorem HN{n c d:Nat}(h:n < d)(j:d<=c)(k:c<=16777216):n < PySem.sizeLine:=ab2 h (HM j k)
theorem oz6{n c:Nat}(h:n<=c)(k:c+1<=16777216):n < PySem.sizeLine:=Hr h k
theorem oe1{a b c:Nat}(h:c < b)(e:a=b):c < a:=e▸h
theorem oe2{a b c:Nat}(h:b<=c)(e:a=b):a<=c:=e▸h
theorem oe3{a b c:Nat}(e:a=b)(h:b<=c)(k:c<=16777216):a<=PySem.sizeLine:=FD (e▸ab6 h k)
theorem oe4{a b c d:Nat}(e:a=b)(h:b<=c)(k:c<=d):a<=d:=e▸ab6 h k
theorem oe5{a b c:Nat}(e:a=b)(h:c=b):a=c:=e.trans h.symm
theorem oe6{a b c d:Nat}(e:a=b)(h:b < c)(k:c<=d):a < d:=e▸ab2 h k
theorem oe7{a b c d:Nat}(e:a=b)(f:b=d)(h:c < d):c < a:=e▸f▸h
theorem oi1{a b c:Int}(h:b<=c)(k:a<=b):a<=c:=af3 k h
theorem oi2{a b c:Int}(h:b<=c)(k:a < b):a < c:=ak1 k h
theorem oi3{a b:Int}(h:b<=a)(k:0 < b):a≠0:=λe=>Int.not_le.mpr k (e▸h)
theorem oi4{a b c d:Int}(h:a<=b)(k:b<=c)(e:c<=d):a<=d:=af3 (af3 h k) e
theorem oi5{a b c d:Int}(h:a<=b)(k:b<=c)(e:c < d):a < d:=am8 (af3 h k) e
theorem oi6{a b c d:Int}(h:a < b)(k:b<=c)(e:c<=d):a < d:=ak1 (ak1 h k) e
theorem on1{a b c:Nat}(h:b<=c)(k:a<=b):a<=c:=ab6 k h
theorem on2{a b c:Nat}(h:b<=c)(k:a < b):a < c:=ab2 k h
theorem on3{a b:Nat}(h:b<=a)(k:0 < b):(0:Int) < a:=ao3.mpr (ab2 k h)
theorem on4{a b:Nat}(h:b<=a)(k:0 < b):(a:Int)≠0:=λe=>Nat.not_le.mpr k (Int.ofNat.inj e▸h)
theorem on5{n c:Nat}{d:Int}(h:n<=c)(k:(c:Int)<=d):(n:Int)<=d:=af3 (ak3.mpr h) k
theorem on6{n c:Nat}{d:Int}(h:n<=c)(k:(c:Int) < d):(n:Int) < d:=am8 (ak3.mpr h) k
theorem on7{n c:Nat}{d:Int}(h:c<=n)(k:d<=(c:Int)):d<=(n:Int):=af3 k (ak3.mpr h)
theorem on8(i:Nat){d:Int}(k:d<=0):d<=(i:Int):=af3 k (ai5 i)
theorem om2{n c:Nat}(h:n<=c)(k:(c:Int)+1 < 2 ^ 62):(n:Int)+1 < 2 ^ 62:=am8 (Int.add_le_add_right (ak3.mpr h) 1) k
theorem om3(n:Nat):-2 ^ 62<=(n:Int)+1:=af3 (b:=0) ∅ (ai5 (n+1))
theorem HH{o:Int}(h:0<=o):0 < o+1:=Int.lt_add_one_of_le h
theorem HI{o:Int}(h:0<=o):1<=o+1:=HH h
theorem HJ{o:Int}(h:1<=o):0<=o - 1:=Int.sub_nonneg_of_le h
theorem oa3{o c:Int}(h:o<=c):o - 1 < c:=Int.sub_one_lt_of_le h
theorem oa4(o:Int):o - 1+1=o:=Int.sub_add_cancel o 1
theorem oa5{o:Int}(h:0<=o):1<=1+o:=Int.le_add_of_nonneg_right h
theorem oa6{o c:Int}(h:o < c):1+o<=c:=by rw [Int.add_comm];exact h
theorem oa7(k:Nat):((k:Int)+1 - 1).toNat=k:=by rw [Int.add_sub_cancel];rfl
theorem oa8{i n:Nat}(h:i < (n:Int).toNat):i < n:=h
theorem oa9{i n:Nat}(h:i < n):n - i=n - (i+1)+1:=(Nat.succ_pred_eq_of_pos (Nat.sub_pos_of_lt h)).symm
theorem ob0{i n:Nat}(h:i=(n:Int).toNat):i=n:=h
theorem ob1{lo hi:Int}(h:lo<=hi):0 < hi - lo+1:=Int.lt_add_one_of_le (Int.sub_nonneg_of_le h)
theorem HK{i n c d:Nat}(h:i < n)(k:n<=c)(e:c<=d):i < d:=ab2 h (ab6 k e)
theorem ob3{i n c d:Nat}(h:i < n)(k:n<=c)(e:c<=d):i<=d:=ah2 (HK h k e)
theorem ob4{i n:Nat}(h:i < n):2 * i+1 < 2 * n:=by omega
theorem ob5{i n:Nat}(h:i < n):2 * i < 2 * n:=by omega
theorem ob6{i n j:Nat}(h:i < n)(k:n=j):i < j:=k▸h
theorem GR{o:Int}(h:0<=o):o=(o.toNat:Nat):=(am1 h).symm
theorem ob7{o:Int}(h:1<=o):o - 1=((o - 1).toNat:Nat):=GR (HJ h)
theorem ob8{o:Int}(h:0<=o):1+o=((1+o).toNat:Nat):=GR (Int.add_nonneg ∅ h)
theorem oc0{o:Int}(h:1<=o):o=(o.toNat:Nat):=GR (af3 ∅ h)
theorem HL(x:Int){c:Int}(h:0 < c):0<=x % c:=ad4 x (Int.ne_of_gt h)
theorem oc2(x:Int){c:Int}(h:0 < c):x % c<=c:=Int.le_of_lt (ac7 x h)
theorem oc3(x:Int){c d:Int}(h:0 < c)(k:c<=d):x % c+1<=d:=af3 (ac7 x h) k
theorem oc4(x:Int){c:Int}(h:0 < c):1<=x % c+1:=HI (HL x h)
theorem GS{x c:Int}{m:Nat}(h:0<=x)(k:x<=c)(e:c < (m:Int)):x.natAbs < m:=by omega
theorem oc6{b:Int×Int}:(b.2+1 - b.1).toNat=(b.2 - b.1+1).toNat:=by omega
theorem oc7{x a c:Int}{m:Nat}(h:0<=x)(k:x < a)(j:a<=c)(e:c < (m:Int)):x.natAbs < m:=GS h (Int.le_of_lt (ak1 k j)) e
theorem oc8{x a c:Int}{m:Nat}(h:1<=x)(k:x<=a)(j:a<=c)(e:c < (m:Int)):x.natAbs < m:=GS (af3 ∅ h) (af3 k j) e
theorem oc9{x c:Int}{m:Nat}(h:1<=x)(j:x<=c)(e:c < (m:Int)):x.natAbs < m:=GS (af3 ∅ h) j e
theorem od0{v:Int}{n m:Nat}(h:1<=v)(k:v<=n)(j:n<=4)(e:4 < m):(v - 1+1).natAbs < m:=by omega
theorem od1{p n:Nat}(h:p < n):p < 0+n:=by rw [ai6];exact h
theorem od2{p n:Nat}(h:p < 0+n):p < n:=by rw [ai6]at h;exact h
theorem od3{a b:Nat}(h:b < a)(k:a<=b):False:=Nat.not_le.mpr h k
theorem od4{a b:Int}(h:b < a)(k:a<=b):False:=Int.not_le.mpr h k
theorem od5{a b c d:Nat}(h:c < a)(e:a=b)(f:d=b):c < d:=by rw [f,<-e];exact h
theorem od6{a b c d:Nat}(h:a<=c)(k:b<=d)(e:c+d<=16777216):a+b<=PySem.sizeLine:=FD (ab6 (Nat.add_le_add h k) e)
theorem od8{a b c d:Nat}(e:a=b)(h:b < c)(k:c<=d)(j:d<=16777216):a < PySem.sizeLine:=e▸HN h k j
theorem od9{j n:Nat}(h:¬j < n)(k:j - n=0):j=n:=Nat.le_antisymm (Nat.le_of_sub_eq_zero k) (al2.mp h)
theorem oe0{i n m:Nat}(h:¬i < n)(k:i < n+m):i - n < m:=Nat.sub_lt_left_of_lt_add (al2.mp h) k
theorem of3{n c d:Nat}(i:Nat)(k:n<=c)(e:c<=d):min i n<=d:=ab6 (aj4 i n) (ab6 k e)
theorem of4{n c:Nat}(i:Nat)(k:n<=c)(e:c+1<=16777216):min i n+1<=PySem.sizeLine:=Hr (ab6 (aj4 i n) k) e
theorem og1{i:Int}{n:Nat}(h:i < n)(k:n<=PySem.sizeLine):i < 2 ^ 63:=by rw [PySem.sizeLine_eq]at k;omega
theorem og2{i:Int}{n:Nat}(h:-(n:Int)<=i)(k:n<=PySem.sizeLine):-2 ^ 63<=i:=by rw [PySem.sizeLine_eq]at k;omega
theorem og3{j c:Int}{m:Nat}(h:0 < j)(k:j < c)(e:c<=(m:Int)):j.natAbs < m:=by omega
theorem oh1{i n m:Nat}(h:i < n)(k:n<=4)(e:4 < m):((i:Int)+1).natAbs < m:=by omega
local macro_rules | `(tactic| omega) => `(tactic| with_reducible first | assumption | exact Nat.le_refl _ | exact Int.le_refl _ | (apply Nat.le_of_lt; assumption) | (apply Int.le_of_lt; assumption) | (apply Nat.not_lt.mp; assumption) | (apply Nat.not_le.mp; assumption) | (apply Int.not_lt.mp; assumption) | (apply Int.not_le.mp; assumption) | (apply Int.ofNat_lt.mpr; assumption) | (apply Int.ofNat_le.mpr; assumption) | (apply Int.ofNat_lt.mp; assumption) | (apply Int.ofNat_le.mp; assumption) | (apply oa8; assumption) | (apply ob0; assumption) | (apply oa9; assumption) | (apply Eq.symm; assumption) | (apply Nat.le_of_eq; assumption) | (apply Int.add_one_le_of_lt; assumption) | (apply HH; assumption) | (apply HI; assumption) | (apply HJ; assumption) | (apply oa3; assumption) | (apply oa5; assumption) | (apply oa6; assumption) | (apply ob1; assumption) | (apply ob4; assumption) | (apply ob5; assumption) | (apply ob7; assumption) | (apply ob8; assumption) | (apply GR; assumption) | (apply oc0; assumption) | (apply od1; assumption) | (apply od2; assumption) | (apply Nat.le_of_succ_le; assumption) | (apply Nat.lt_of_succ_lt; assumption) | (apply Nat.sub_succ_lt_self; assumption) | (apply Nat.le_succ_of_le; assumption) | exact Nat.min_le_left _ _ | exact Nat.zero_add _ | exact Nat.succ_add_eq_add_succ _ _ | exact (Int.natCast_succ _).symm | exact Nat.lt_succ_self _ | exact oa4 _ | exact oa7 _ | exact om3 _ | exact oc6 | (apply Nat.le_trans; assumption; decide) | (apply Nat.lt_of_le_of_lt; assumption; decide) | (apply Nat.lt_of_lt_of_le; assumption; decide) | (apply on1; assumption; decide) | (apply on2; assumption; decide) | (apply of3; assumption; decide) | (apply of4; assumption; decide) | (apply HM; assumption; decide) | (apply Hr; assumption; decide) | (apply oz4; assumption; decide) | (apply oz6; assumption; decide) | (apply Int.le_trans; assumption; decide) | (apply Int.lt_of_le_of_lt; assumption; decide) | (apply Int.lt_of_lt_of_le; assumption; decide) | (apply oi1; assumption; decide) | (apply oi2; assumption; decide) | (apply oi3; assumption; decide) | (apply on3; assumption; decide) | (apply on4; assumption; decide) | (apply on5; assumption; decide) | (apply on6; assumption; decide) | (apply on7; assumption; decide) | (apply om2; assumption; decide) | (apply FD; decide) | (apply HL; decide) | (apply Int.emod_lt_of_pos; decide) | (apply oc2; decide) | (apply oc4; decide) | (apply on8; decide) | (apply oc3; decide; decide) | (apply og1; assumption; assumption) | (apply og2; assumption; assumption) | (apply od9; assumption; assumption) | (apply oe0; assumption; assumption) | (apply od3; assumption; assumption) | (apply od4; assumption; assumption) | (apply Nat.lt_of_le_of_ne; assumption; assumption) | (apply oe1; assumption; assumption) | (apply oe2; assumption; assumption) | (apply oe5; assumption; assumption) | (apply ob6; assumption; assumption) | (apply Nat.le_trans; assumption; assumption) | (apply Nat.lt_of_lt_of_le; assumption; assumption) | (apply Nat.lt_of_le_of_lt; assumption; assumption) | (apply Int.le_trans; assumption; assumption) | (apply Int.lt_of_lt_of_le; assumption; assumption) | (apply Int.lt_of_le_of_lt; assumption; assumption) | (apply And.intro; assumption; assumption) | (apply Eq.trans; assumption; assumption) | (apply oe7; assumption; assumption; assumption) | (apply od5; assumption; assumption; assumption) | (apply oc7; assumption; assumption; assumption; decide) | (apply oc8; assumption; assumption; assumption; decide) | (apply od0; assumption; assumption; assumption; decide) | (apply od8; assumption; assumption; assumption; decide) | (apply oe3; assumption; assumption; decide) | (apply oe4; assumption; assumption; decide) | (apply oe6; assumption; assumption; decide) | (apply HK; assumption; assumption; decide) | (apply ob3; assumption; assumption; decide) | (apply HN; assumption; assumption; decide) | (apply oi4; assumption; assumption; decide) | (apply oi5; assumption; assumption; decide) | (apply oi6; assumption; assumption; decide) | (apply GS; assumption; assumption; decide) | (apply oc9; assumption; assumption; decide) | (apply od6; assumption; assumption; decide) | (apply og3; assumption; assumption; decide) | (apply oh1; assumption; assumption; decide) | decide)
namespace L2
open PySem PySem.Spec PyProof.Rows
variable {A:Around} {C a b dx f:Addr} {E Q:Value->Shared->Prop} {K:Frag} {M:Model} {P:Program} {base h h':Heap} {body:List Stmt} {c e tg:Expr} {ch fp:List Addr} {es:List Expr} {fd:FuncData} {g':Array GenState} {i j k n t':Nat} {kindOf:Str->Option NameKind} {kw:List (Str×Value)} {m x:Str} {mA mg:Str->Option Value} {op:CmpOp} {p pos pos':Pos} {pins:List (Addr×Obj)} {ps:List Str} {s s':Shared} {u:Value} {us:List Value} {w:World}
abbrev tT:=Sum Int Str
def D7:tT->Value->Bool
 | .inl k,v=>Value.isInt k v
 | .inr x,v=>Value.isStrOf x v
def Hk(w:World):tT->Int
 | .inl k=>hashInt k
 | .inr x=>hashStr w x
theorem cU:∀{k:tT} {v:Value},D7 k v=true->(∃i t,k=Sum.inl i/\v=Value.int i t)\/(∃x t,k=Sum.inr x/\v=Value.str x t)
 | .inl i,v,h=>by
  obtain⟨t,e⟩:=Value.isInt_shape (k:=i) (v:=v) h;exact .inl ⟨i,t,rfl,e⟩
 | .inr x,v,h=>by
  obtain⟨t,e⟩:=Value.isStrOf_shape (x:=x) (v:=v) h;exact .inr ⟨x,t,rfl,e⟩
theorem EB(a b:Int):decide ((Sum.inl a:tT)=Sum.inl b)=(a == b):=by
 by_cases e:a=b
 ·subst e;simp
 ·have h:¬(Sum.inl a:tT)=Sum.inl b:=λq=>e (Sum.inl.inj q)
  rw [decide_eq_false h];exact(beq_eq_false_iff_ne.mpr e).symm
theorem EE(a b:Str):decide ((Sum.inr a:tT)=Sum.inr b)=decide (a=b):=by
 by_cases e:a=b
 ·subst e;simp
 ·have h:¬(Sum.inr a:tT)=Sum.inr b:=λq=>e (Sum.inr.inj q)
  rw [decide_eq_false h,decide_eq_false e]
theorem EC(a:Int)(b:Str):decide ((Sum.inl a:tT)=Sum.inr b)=false:=decide_eq_false (λq=>nomatch q)
theorem ED(a:Str)(b:Int):decide ((Sum.inr a:tT)=Sum.inl b)=false:=decide_eq_false (λq=>nomatch q)
def sE(prog:Program)(w:World):PySem.KeyKind prog w tT where
 is:=D7
 hash:=Hk w
 inj:=λv a b ha hb=>by
  rcases cU ha with⟨i,t,rfl,rfl⟩ | ⟨x,t,rfl,rfl⟩
  ·rcases cU hb with⟨j,u,rfl,e⟩ | ⟨y,u,rfl,e⟩
   ·injection e with e1 _;rw [e1]
   ·exact nomatch e
  ·rcases cU hb with⟨j,u,rfl,e⟩ | ⟨y,u,rfl,e⟩
   ·exact nomatch e
   ·injection e with e1 _;rw [e1]
 byValue:=λk v h=>by
  rcases cU h with⟨i,t,rfl,rfl⟩ | ⟨x,t,rfl,rfl⟩<;>rfl
 pyHash:=λhv h=>by
  rcases cU hv with⟨i,t,rfl,rfl⟩ | ⟨x,t,rfl,rfl⟩
  ·exact wpAny_pyHash_int h
  ·exact wpAny_pyHash_str h
 eqBool:=λhu hv h=>by
  rcases cU hu with⟨i,t,rfl,rfl⟩ | ⟨x,t,rfl,rfl⟩
  ·rcases cU hv with⟨j,u,rfl,rfl⟩ | ⟨y,u,rfl,rfl⟩
   ·rw [EB]at h;exact wpAny_eqBool_int h
   ·rw [EC]at h;exact SeqAt.EqAt.int_str i t y u _ _ _ _ h
  ·rcases cU hv with⟨j,u,rfl,rfl⟩ | ⟨y,u,rfl,rfl⟩
   ·rw [ED]at h;exact SeqAt.EqAt.str_int x t j u _ _ _ _ h
   ·rw [EE]at h;exact wpAny_eqBool_str h
 «strs»:=λk x t v h=>by
  rcases cU h with⟨i,u,rfl,e⟩ | ⟨y,u,rfl,e⟩
  ·exact nomatch e
  ·injection e with e1 _
   subst e1
   cases v<;>rfl
inductive V where
 | non | bl (b:Bool) | int (i:Int) | str (x:Str) | byt (b:Array UInt8) | flt (b:UInt64) | ref (a:Addr) | ty (n:String)
 deriving DecidableEq
variable {v y:V} {vs xs:List V}
def aX:V->Value->Prop
 | .non,u=>u=Value.none
 | .bl b,u=>u=Value.bool b
 | .int i,u=>∃t,u=Value.int i t
 | .str x,u=>∃t,u=Value.str x t
 | .byt b,u=>∃t,u=Value.bytes b t
 | .flt b,u=>∃t,u=Value.float b t
 | .ref a,u=>u=Value.ref a
 | .ty n,u=>u=Value.type n
abbrev bh:List V->List Value->Prop:=Paired aX
theorem bh.length(r:bh xs us):xs.length=us.length:=Paired.length r
theorem bh.get:∀{xs:List V} {us:List Value} {i:Nat} {x:V},bh xs us->xs[i]?=some x->∃u,us[i]?=some u/\aX x u
 | _,_,_,_,.nil,e=>by simp at e
 | _,_,0,_,.cons r _,e=>by simp at e;subst e;exact⟨_,rfl,r⟩
 | _,_,i+1,x,.cons _ t,e=>by
  obtain⟨u,h1,h2⟩:=bh.get (i:=i) (x:=x) t (by simpa using e);exact⟨u,by simpa using h1,h2⟩
theorem bh.set{x:V}(r:aX x u):∀{xs:List V} {us:List Value} (i:Nat),bh xs us->bh (xs.set i x) (us.set i u)
 | _,_,_,.nil=>.nil
 | _,_,0,.cons _ t=>.cons r t
 | _,_,i+1,.cons q t=>.cons q (bh.set r i t)
theorem bh.append:∀{xs ys:List V} {us ws:List Value},bh xs us->bh ys ws->bh (xs++ys) (us++ws)
 | _,_,_,_,.nil,s=>s
 | _,_,_,_,.cons r t,s=>.cons r (bh.append t s)
theorem bh.take:∀{xs:List V} {us:List Value} (n:Nat),bh xs us->bh (xs.take n) (us.take n)
 | _,_,0,_=>.nil
 | _,_,_+1,.nil=>.nil
 | _,_,n+1,.cons r t=>.cons r (bh.take n t)
theorem bh.drop:∀{xs:List V} {us:List Value} (n:Nat),bh xs us->bh (xs.drop n) (us.drop n)
 | _,_,0,r=>r
 | _,_,_+1,.nil=>.nil
 | _,_,n+1,.cons _ t=>bh.drop n t
def p6:Option V->Option Value->Prop
 | some v,some u=>aX v u
 | none,none=>True
 | _,_=>False
def KV{κ:Type}:List (κ×V)->List (κ×Value)->Prop:=Paired λ(p:κ×V) (q:κ×Value)=>p.1=q.1/\aX p.2 q.2
def kV:tT->V
 | .inl i=>.int i
 | .inr x=>.str x
inductive HO where
 | lst (xs:List V)
 | tup (xs:List V)
 | dK (kvs:List (tT×V)) | dT (kvs:List (List tT×V))
 | set (S:Int->Bool) (n:Nat)
 | ins (C dx:Addr) (fs:List (Str×V))
 | own (x:Addr)
 | xd (fs:List (Str×V))
 | met (f x:Addr)
 | rng (lo hi:Int)
 | frz (o:Obj) (u:HO)
 | tbl (ps:Array Value)
 | ext (φ:Heap->Prop)
variable {o:HO}
abbrev Hp:=Addr->Option HO
variable {H H':Hp} {R:V->V->Hp->Prop}
def upd(H:Hp)(a:Addr)(o:HO):Hp:=λb=>if b=a then some o else H b
theorem af:upd H a o a=some o:=by unfold upd;rw [if_pos rfl]
theorem aj(h:b≠a):upd H a o b=H b:=by unfold upd;rw [if_neg h]
theorem bO{u:HO}:upd (upd H a o) a u=upd H a u:=by
 funext b;unfold upd;split<;>rfl
theorem dF{u:HO}(h:H a=some o)(h':H b=some u)(d:o≠u):a≠b:=by
 intro e;subst e;rw [h]at h';exact d (Option.some.inj h')
theorem aq(h:H a=some o)(h':H b=none):a≠b:=by
 intro e;subst e;rw [h]at h';cases h'
section
variable (P:Program) (w:World)
def dZ(H:Hp)(h:Heap)(a:Addr):HO->Prop
 | .lst xs=>xs.length<=sizeLine/\∃(its:List Value) (n:Nat),bh xs its/\h.get? a=some { cls:=.type "list",data:=.seq its.toArray n }
 | .tup xs=>xs.length<=sizeLine/\∃its:List Value,bh xs its/\IsTup h a its.toArray
 | .dK kvs=>kvs.length<=sizeLine/\(a == sysModules)=false/\∃vs,KV kvs vs/\h.DictOf (sE P w) a vs
 | .dT kvs=>kvs.length<=sizeLine/\(a == sysModules)=false/\∃xs:List (List tT×Addr×Value),
   Paired (λ(p:List tT×V) (q:List tT×Addr×Value)=>p.1=q.1/\H q.2.1=some (.tup (p.1.map kV))/\aX p.2 q.2.2) kvs xs/\
   ∃o es ep,h.get? a=some o/\o.ExactDict/\o.data=.dict es ep/\es.toList=xs.map (entryOfKey (tupleKind (sE P w)))/\(xs.map (·.1)).Nodup
 | .set S n=>h.SetOf (intKind P w) a S n
 | .ins C dx fs=>H dx=some (.own a)/\fs.length<=1000/\dx≠a/\h.get? a=some (instObj C dx)/\
   ∃mA,h.Ns1 dx mA/\(∀f,p6 (fs.lookup f) (mA f))/\PySem.Within mA (fs.map (·.1))
 | .own _=>∃o,h.get? a=some o
 | .xd fs=>∃mA,h.Ns1 a mA/\∀f,p6 (fs.lookup f) (mA f)
 | .rng lo hi=>∃t u v,h.get? a=some { cls:=.type "range",data:=.fields #[.int lo t,.int hi u,.int 1 v] }
 | .frz o u=>h.get? a=some o/\dZ H h a u
 | .tbl ps=>h.get? a=some { cls:=.none,data:=.fields ps }
 | .met f x=>h.get? a=some (PySem.W.methodObj (.ref f) (.ref x))
 | .ext φ=>φ h/\(∃o,h.get? a=some o)/\∀h1 h2:Heap,φ h1->(∀o,h1.get? a=some o->h2.get? a=some o)->φ h2
def kI(H:Hp)(h:Heap):Prop:=∀a o,H a=some o->dZ P w H h a o
end
theorem dZ.lt(x:dZ P w H h a o):a < h.objs.size:=by
 cases o with
 | lst xs=>obtain⟨_,_,_,_,e⟩:=x;exact ab9 e
 | tup xs=>obtain⟨_,_,_,p⟩:=x;exact p.lt
 | dK kvs=>obtain⟨_,_,_,_,o,_,_,e,_⟩:=x;exact ab9 e
 | dT kvs=>obtain⟨_,_,_,_,o,_,_,e,_⟩:=x;exact ab9 e
 | set S n=>obtain⟨o,_,_,_,e,_⟩:=x;exact ab9 e
 | ins C dx fs=>obtain⟨_,_,_,e,_⟩:=x;exact ab9 e
 | own y=>obtain⟨_,e⟩:=x;exact ab9 e
 | xd fs=>obtain⟨_,⟨_,_,_,e,_⟩,_⟩:=x;exact ab9 e
 | rng lo hi=>obtain⟨_,_,_,e⟩:=x;exact ab9 e
 | frz ob u=>obtain⟨e,_⟩:=x;exact ab9 e
 | tbl ps=>exact ab9 (show h.get? a=some _ from x)
 | met f y=>exact ab9 (show h.get? a=some _ from x)
 | ext φ=>obtain⟨_,⟨_,e⟩,_⟩:=x;exact ab9 e
theorem Paired.mapP{α β:Type}{F G:α->β->Prop}:∀{Yj:List α} {Yk:List β},Paired F Yj Yk->(∀a b,F a b->G a b)->Paired G Yj Yk
 | _,_,.nil,_=>.nil
 | _,_,.cons r t,f=>.cons (f _ _ r) (Paired.mapP t f)
theorem dZ.stay(x:dZ P w H h a o)(k:∀b u,(b=a\/H b=some (.own a))->h.get? b=some u->h'.get? b=some u)
  (ho:∀b,H b=some (.own a)->H' b=some (.own a)) (ht:∀b xs,H b=some (.tup xs)->H' b=some (.tup xs)):dZ P w H' h' a o:=by
 induction o with
 | lst xs=>obtain⟨z,its,n,r,e⟩:=x;exact⟨z,its,n,r,k _ _ (.inl rfl) e⟩
 | tup xs=>obtain⟨z,its,r,ob,e,c⟩:=x;exact⟨z,its,r,ob,k _ _ (.inl rfl) e,c⟩
 | dK kvs=>obtain⟨z,y,vs,r,ob,es,ep,e,c⟩:=x;exact⟨z,y,vs,r,ob,es,ep,k _ _ (.inl rfl) e,c⟩
 | dT kvs=>
  obtain⟨z,y,xs,r,ob,es,ep,e,c⟩:=x;exact⟨z,y,xs,Paired.mapP r λp q z=>⟨z.1,ht _ _ z.2.1,z.2.2⟩,ob,es,ep,k _ _ (.inl rfl) e,c⟩
 | set S n=>obtain⟨ob,es,ep,t,e,c⟩:=x;exact⟨ob,es,ep,t,k _ _ (.inl rfl) e,c⟩
 | ins C dx fs=>
  obtain⟨d,z,ne,e,mA,⟨od,es,ep,e2,c⟩,r⟩:=x;exact⟨ho _ d,z,ne,k _ _ (.inl rfl) e,mA,⟨od,es,ep,k _ _ (.inr d) e2,c⟩,r⟩
 | own y=>obtain⟨ob,e⟩:=x;exact⟨ob,k _ _ (.inl rfl) e⟩
 | xd fs=>obtain⟨mA,⟨od,es,ep,e,c⟩,r⟩:=x;exact⟨mA,⟨od,es,ep,k _ _ (.inl rfl) e,c⟩,r⟩
 | rng lo hi=>obtain⟨t,u,v,e⟩:=x;exact⟨t,u,v,k _ _ (.inl rfl) e⟩
 | frz ob u ih=>obtain⟨e,q⟩:=x;exact⟨k _ _ (.inl rfl) e,ih q⟩
 | tbl ps=>
  have e:h.get? a=some { cls:=.none,data:=.fields ps }:=x;show h'.get? a=some { cls:=.none,data:=.fields ps };exact k a _ (.inl rfl) e
 | met f y=>
  have e:h.get? a=some (PySem.W.methodObj (.ref f) (.ref y)):=x;show h'.get? a=some (PySem.W.methodObj (.ref f) (.ref y));exact k a _ (.inl rfl) e
 | ext φ=>obtain⟨p,⟨o,e⟩,st⟩:=x;exact⟨st _ _ p λo q=>k _ _ (.inl rfl) q,⟨o,k _ _ (.inl rfl) e⟩,st⟩
theorem kI.lt(x:kI P w H h)(e:H a=some o):a < h.objs.size:=(x a o e).lt
theorem kI.fresh(x:kI P w H h)(e:h.objs.size<=a):H a=none:=by
 cases q:H a with
 | none=>rfl
 | some u=>exact absurd (ab2 (x.lt q) e) (ag6 _)
theorem kI.kept(x:kI P w H h)(k:∀b u,h.get? b=some u->h'.get? b=some u):kI P w H h':=λa o e=>
 (x a o e).stay (λb u _ q=>k b u q) (λ_ q=>q) λ_ _ q=>q
theorem kI.laid(x:kI P w H h)(k:∀b u,h.get? b=some u->h'.get? b=some u)(hp:h.objs.size<=a)(new:dZ P w (upd H a o) h' a o):kI P w (upd H a o) h':=λb u e=>by
 have hn:=x.fresh hp
 by_cases hb:b=a
 ·subst hb;rw [af]at e;cases e;exact new
 ·rw [aj hb]at e
  exact(x b u e).stay (λc v _ q=>k c v q) (λc q=>by rw [aj (aq q hn)];exact q) λc xs q=>by rw [aj (aq q hn)];exact q
def Rd(H:Hp)(a:Addr)(u:HO):Prop:=H a=some u\/∃o,H a=some (.frz o u)
theorem Rd.ok{u:HO}(r:Rd H a u)(x:kI P w H h):dZ P w H h a u:=by
 rcases r with r | ⟨o,r⟩
 ·exact x a u r
 ·obtain⟨_,q⟩:=x a _ r
  exact q
def GK:Option HO->Prop
 | some (.lst _)=>True
 | some (.dK _)=>True
 | some (.dT _)=>True
 | some (.set _ _)=>True
 | some (.ins _ _ _)=>True
 | some (.ext _)=>True
 | _=>False
section
variable {x e:Addr} {o':HO}
theorem kI.write(ok:kI P w H h)(mu:GK (H x))(he:e=x\/H e=some (.own x))(k:∀b u,b≠e->h.get? b=some u->h'.get? b=some u)(heo:∃u,h'.get? e=some u)
  (new:dZ P w (upd H x o') h' x o'):kI P w (upd H x o') h':=λb u q=>by
 have nown:∀c y,H c=some (.own y)->c≠x:=λc y r z=>by subst z;rw [r]at mu;exact mu
 have ntup:∀c xs,H c=some (.tup xs)->c≠x:=λc xs r z=>by subst z;rw [r]at mu;exact mu
 by_cases hb:b=x
 ·subst hb;rw [af]at q;cases q;exact new
 ·rw [aj hb]at q
  by_cases hbe:b=e
  ·have q':H b=some (.own x):=by
    rcases he with z | z
    ·exact absurd (hbe.trans z) hb
    ·rw [hbe];exact z
   rw [q]at q';cases q';obtain⟨v,hv⟩:=heo;exact⟨v,by rw [hbe];exact hv⟩
  ·refine(ok b u q).stay (λc v hc r=>k c v ?_ r) (λc r=>by rw [aj (nown c b r)];exact r) λc xs r=>by rw [aj (ntup c xs r)];exact r
   rcases hc with rfl | hc
   ·exact hbe
   ·rintro rfl
    rcases he with z | z
    ·exact nown c b hc z
    ·rw [hc]at z;cases z;exact hb rfl
end
structure Un(fs ex:List Addr)(H H':Hp)(h h':Heap):Prop where
 keep:∀b o,h.get? b=some o->H b=none->b∉fs->b∉ex->h'.get? b=some o
 slot:∀b o,h.get? b=some o->H b=none->b∈fs->b∉ex->∃sl,h'.get? b=some { o with slots:=sl }
 free:∀b o,h.get? b=some o->H b=none->b∉ex->H' b=none
 there:∀b o,h.get? b=some o->b∉ex->∃o',h'.get? b=some o'
 tups:∀b xs,H b=some (.tup xs)->H' b=some (.tup xs)
 frzs:∀b o u,H b=some (.frz o u)->H' b=some (.frz o u)
 tbls:∀b ps,H b=some (.tbl ps)->∃more,H' b=some (.tbl (ps++more))
section
variable {fs fs' ex ex':List Addr} {H1 H2:Hp} {h1 h2:Heap} {x e:Addr}
theorem Un.any(u:Un fs ex H H1 h h1){ob:Obj}(q:h.get? b=some ob)(n:H b=none)(hx:b∉ex):∃sl,h1.get? b=some { ob with slots:=sl }:=by
 by_cases hb:b∈fs
 ·exact u.slot b ob q n hb hx
 ·exact⟨ob.slots,u.keep b ob q n hb hx⟩
theorem Un.kept(k:∀b u,h.get? b=some u->h'.get? b=some u):Un fs ex H H h h':=
 ⟨λb ob q _ _ _=>k b ob q,λb ob q _ _ _=>⟨ob.slots,k b ob q⟩,λ_ _ _ n _=>n,λb ob q _=>⟨ob,k b ob q⟩,λ_ _ q=>q,λ_ _ _ q=>q,λ_ ps q=>⟨#[],by rw [q];simp⟩⟩
theorem Un.refl:Un fs ex H H h h:=Un.kept λ_ _ q=>q
theorem Un.laid(k:∀b u,h.get? b=some u->h'.get? b=some u)(hp:h.objs.size<=a)(hn:H a=none):Un fs ex H (upd H a o) h h' where
 keep:=λb u q _ _ _=>k b u q
 slot:=λb u q _ _ _=>⟨u.slots,k b u q⟩
 free:=λb u q n _=>by rw [aj (ad3 (ab2 (ab9 q) hp))];exact n
 there:=λb u q _=>⟨u,k b u q⟩
 tups:=λb xs q=>by rw [aj (aq q hn)];exact q
 frzs:=λb u xs q=>by rw [aj (aq q hn)];exact q
 tbls:=λb ps q=>⟨#[],by rw [aj (aq q hn),q];simp⟩
theorem Un.write(mu:GK (H x))(he:e=x\/H e=some (.own x))(k:∀b u,b≠e->h.get? b=some u->h'.get? b=some u)(heo:∃u,h'.get? e=some u):Un fs ex H (upd H x o) h h':=by
 have hx:∀b,H b=none->b≠x:=λb n z=>by subst z;rw [n]at mu;exact mu
 have hb:∀b,H b=none->b≠e:=λb n z=>by
  subst z;rcases he with r | r
  ·exact hx b n r
  ·rw [n]at r;cases r
 have hm:∀b u,H b=some u->¬GK (some u)->b≠x:=λb u q nm z=>by subst z;rw [q]at mu;exact nm mu
 refine⟨λb u q n _ _=>k b u (hb b n) q,λb u q n _ _=>⟨u.slots,k b u (hb b n) q⟩,λb u q n _=>by rw [aj (hx b n)];exact n,λb u q _=>?_,
  λb xs q=>by rw [aj (hm b _ q λz=>z)];exact q,λb u xs q=>by rw [aj (hm b _ q λz=>z)];exact q,λb ps q=>⟨#[],by rw [aj (hm b _ q λz=>z),q];simp⟩⟩
 by_cases hbe:b=e
 ·subst hbe;exact heo
 ·exact⟨u,k b u hbe q⟩
end
def GX(h:Heap)(H:Hp):List Addr:=(List.range h.objs.size).filter λa=>(H a).isSome
def sk(h:Heap)(H:Hp):Heap:=PySem.W.hideAll h (GX h H)
theorem yB(h:Heap)(H:Hp):(sk h H).objs.size=h.objs.size:=PySem.W.hideAll_size _ _
theorem Ac{o:Obj}(e:h.get? b=some o)(n:H b=none):(sk h H).get? b=some o:=
 PySem.W.hideAll_get _ e λhm=>by
  have q:(H b).isSome=true:=(List.mem_filter.mp hm).2;rw [n]at q;simp at q
theorem CW{o:Obj}(e:(sk h H).get? b=some o):h.get? b=some o/\H b=none:=by
 have e':h.get? b=some o:=PySem.W.of_hideAll (GX h H) e;refine⟨e',?_⟩
 cases q:H b with
 | none=>rfl
 | some x=>
  have hm:b∈GX h H:=List.mem_filter.mpr ⟨af8.mpr (ab9 e'),by simp [q]⟩;have z:(sk h H).get? b=none:=PySem.W.hideAll_none (GX h H) hm;rw [z]at e;cases e
structure Mod(K:Frag)(mg:Str->Option Value)(base:Heap):Prop where
 kin:K.In base
 glob:base.Ns mainGlobals mg
 blt:∃mb,base.Ns builtinsNs mb/\∀x:Str,x≠"__name__"->mb x=bootBuiltins x
 nolimit:base.NoLimit
structure Cx where
 prog:Program
 w:World
 K:Frag
 mg:Str->Option Value
 base:Heap
 A:Around
 N:List Str
 Zh:Shared
 Z2:Hp
 env:Env
 outer:List Env
 stack:List Env
 ex:List Addr
 fn:Str->Bool
 calm:Bool
 pn:List (Addr×Obj)
 xe:Value->Shared->Prop
variable {X:Cx}
def vn(l:List Env):List Addr:=l.filterMap (·.frame)
abbrev Cx.fs(X:Cx):List Addr:=vn X.outer
def GN(sc:Scope)(x:Str):Prop:=sc.names.lookup x=some .local\/sc.names.lookup x=some .cell\/sc.names.lookup x=some .free
def Fx(sc:Scope)(x:Str):Prop:=sc.names.lookup x=some .local\/sc.names.lookup x=some .cell
def Ha(env:Env)(h:Heap)(m:Str->Option Value)(x:Str)(u:Value):Prop:=
 (env.kindOf x=some .local/\m x=some u)\/((env.kindOf x=some .cell\/env.kindOf x=some .free)/\∃c,env.cells.lookup x=some c/\h.IsCell c (some u))
structure Cx.Ok(X:Cx):Prop where
 mod:Mod X.K X.mg X.base
 kind:X.env.scope.kind=.function
 glob:X.env.globals=mainGlobals
 blt:X.env.builtins=builtinsNs
 above:X.Zh.heap.objs.size<=X.env.locals
 inj:∀x y c,X.env.cells.lookup x=some c->X.env.cells.lookup y=some c->x=y
 has:∀x,(X.env.kindOf x=some .cell\/X.env.kindOf x=some .free)->∃c,X.env.cells.lookup x=some c
 cab:∀x c,X.fn x=true->X.env.cells.lookup x=some c->X.Zh.heap.objs.size<=c
 hd:X.calm=true->X.A.handled=none
 frames:X.A.frames=some X.stack
 stk:X.stack=X.outer\/(X.stack=X.env::X.outer/\X.env.frame=some X.env.locals)
 exf:∀b∈X.ex,b≠X.env.locals/\∀x c,X.env.cells.lookup x=some c->c≠b
 bs:∀b o,X.base.get? b=some o->X.Zh.heap.get? b=some o/\X.Z2 b=none
 bsz:X.base.objs.size<=X.Zh.heap.objs.size
 noex:∀b o,X.base.get? b=some o->b∉X.ex
 exfs:∀b∈X.ex,b∉X.fs
 funs:X.Zh.heap.FunFrames X.base X.outer
 frf:∀b∈X.fs,X.Z2 b=none
structure aQ(X:Cx)(pins:List (Addr×Obj))(Z:List (Option V))(H:Hp)(s:Shared):Prop where
 ok:X.Ok
 os:s.os=X.Zh.os
 bare:AllBare s.gens
 base:Un X.fs X.ex X.Z2 H X.Zh.heap s.heap
 loc:∃m,s.heap.Ns X.env.locals m/\∀(i:Nat) (x:Str) (v:V),X.N[i]?=some x->Z[i]?=some (some v)->GN X.env.scope x->∃u,aX v u/\Ha X.env s.heap m x u
 cell:∀x c,X.env.cells.lookup x=some c->∃v,s.heap.IsCell c v
 free:H X.env.locals=none
 freeC:∀x c,X.env.cells.lookup x=some c->H c=none
 pin:∀p∈X.pn++pins,s.heap.get? p.1=some p.2/\H p.1=none/\p.1≠X.env.locals/\p.1∉X.fs/\∀v,p.2.data≠.cell v
 hok:kI X.prog X.w H s.heap
 len:Z.length=X.N.length
section
variable {Z:List (Option V)}
theorem Cx.Ok.nofr(ok:X.Ok){o:Obj}(e:X.base.get? b=some o):b∉X.fs:=λhb=>by
 have:=(ok.funs.mem hb).1
 rw [e]at this;cases this
theorem aQ.bs(I:aQ X pins Z H s):∀b o,X.base.get? b=some o->s.heap.get? b=some o/\H b=none:=λb o e=>
 ⟨I.base.keep b o (I.ok.bs b o e).1 (I.ok.bs b o e).2 (I.ok.nofr e) (I.ok.noex b o e),I.base.free b o (I.ok.bs b o e).1 (I.ok.bs b o e).2 (I.ok.noex b o e)⟩
theorem aQ.bk(I:aQ X pins Z H s):∀b o,X.base.get? b=some o->s.heap.get? b=some o:=λb o e=>(I.bs b o e).1
theorem aQ.mod(I:aQ X pins Z H s):Mod X.K X.mg X.base:=I.ok.mod
theorem aQ.kIn(I:aQ X pins Z H s):X.K.In s.heap:=I.ok.mod.kin.keeps I.bk
theorem aQ.lt(I:aQ X pins Z H s):X.env.locals < s.heap.objs.size:=let ⟨_,hn,_⟩:=I.loc;hn.lt
theorem aQ.sz(I:aQ X pins Z H s):X.Zh.heap.objs.size<=s.heap.objs.size:=ab6 I.ok.above (ah2 I.lt)
theorem aQ.nofs(I:aQ X pins Z H s)(h:s.heap.objs.size<=a):a∉X.fs:=λhb=>by
 obtain⟨_,o,ho,_⟩:=I.ok.funs.mem hb;exact absurd (ab2 (ab9 ho) (ab6 I.sz h)) (ag6 _)
theorem aQ.cne(I:aQ X pins Z H s):∀x c,X.env.cells.lookup x=some c->c≠X.env.locals:=λx c e z=>by
 obtain⟨v,o,ho,hd⟩:=I.cell x c e;obtain⟨m,⟨o',es,ep,ho',hd',_⟩,_⟩:=I.loc;rw [z,ho']at ho;cases ho;rw [hd']at hd;cases hd
theorem aQ.funs(I:aQ X pins Z H s):s.heap.FunFrames X.base X.outer:=by
 have all:∀(l:List Env),(∀b∈vn l,b∈X.fs)->X.Zh.heap.FunFrames X.base l->s.heap.FunFrames X.base l:=by
  intro l
  induction l with
  | nil=>intro _ _;trivial
  | cons env r ih=>
   rintro hs ⟨hk,⟨L,o,hf,hn,ho,hd⟩,hr⟩;have hL:L∈X.fs:=hs L (by unfold vn;rw [am2,hf];exact ad8);obtain⟨sl,e⟩:=I.base.slot L o ho (I.ok.frf L hL) hL λz=>I.ok.exfs L z hL;exact⟨hk,⟨L,_,hf,hn,e,hd⟩,ih (λb hb=>hs b (by unfold vn;rw [am2,hf];exact ad9 _ hb)) hr⟩
 exact all X.outer (λ_ hb=>hb) I.ok.funs
theorem aQ.stack(I:aQ X pins Z H s):s.heap.FunFrames X.base X.stack:=by
 rcases I.ok.stk with e | ⟨e,hf⟩
 ·rw [e];exact I.funs
 ·rw [e]
  obtain⟨m,hn,_⟩:=I.loc;refine .cons (by rw [I.ok.kind];decide) hf hn ?_ I.funs;exact Heap.get?_none_of_le (ab6 I.ok.bsz I.ok.above)
theorem aQ.stkSub(I:aQ X pins Z H s):∀b∈vn X.stack,b∈X.env.locals::X.fs:=λb hb=>by
 rcases I.ok.stk with e | ⟨e,hf⟩
 ·rw [e]at hb;exact ad9 _ hb
 ·rw [e]at hb
  unfold vn at hb;rw [am2,hf]at hb;exact hb
theorem aQ.stkFree(I:aQ X pins Z H s):∀b∈vn X.stack,H b=none:=λb hb=>by
 rcases ab0.mp (I.stkSub b hb)with e | hb
 ·rw [e];exact I.free
 ·obtain⟨_,o,ho,_⟩:=I.ok.funs.mem hb
  exact I.base.free b o ho (I.ok.frf b hb) λz=>I.ok.exfs b z hb
theorem aQ.step{d':Drawn}(I:aQ X pins Z H s)
  (hch:∀b∈ch,(b∈X.ex\/X.Zh.heap.objs.size<=b)/\b≠X.env.locals/\(∀x c,X.env.cells.lookup x=some c->c≠b)/\∀p∈X.pn++pins,p.1≠b)
  (keep:∀b o,b≠X.env.locals->b∉X.fs->b∉ch->s.heap.get? b=some o->H b=none->h'.get? b=some o)
  (slot:∀b o,b≠X.env.locals->b∈X.fs->b∉ch->s.heap.get? b=some o->H b=none->∃sl,h'.get? b=some { o with slots:=sl }) (free:∀b o,b∉ch->s.heap.get? b=some o->H b=none->H' b=none)
  (there:∀b o,b∉ch->s.heap.get? b=some o->∃o',h'.get? b=some o')
  (tups:∀b xs,H b=some (.tup xs)->H' b=some (.tup xs)) (frzs:∀b o u,H b=some (.frz o u)->H' b=some (.frz o u)) (tbls:∀b ps,H b=some (.tbl ps)->∃more,H' b=some (.tbl (ps++more)))
  (ns:∀m,s.heap.Ns X.env.locals m->h'.Ns X.env.locals m) (hok:kI X.prog X.w H' h') (hg:AllBare g') :
  aQ X pins Z H' { s with heap:=h',gens:=g',drawn:=d',toks:=t' }:=by
 have neL:∀b o,X.Zh.heap.get? b=some o->b≠X.env.locals:=λb o e=>ad3 (ab2 (ab9 e) I.ok.above)
 have neC:∀b o,X.Zh.heap.get? b=some o->b∉X.ex->b∉ch:=λb o e hx hb=>by
  rcases(hch b hb).1 with z | z
  ·exact hx z
  ·exact absurd (ab2 (ab9 e) z) (ag6 _)
 have cellK:∀x c,X.env.cells.lookup x=some c->∀v,s.heap.IsCell c v->h'.IsCell c v:=λx c e v ⟨o,ho,hd⟩=>by
  have nch:c∉ch:=λz=>(hch c z).2.2.1 x c e rfl
  by_cases hc:c∈X.fs
  ·obtain⟨sl,q⟩:=slot c o (I.cne x c e) hc nch ho (I.freeC x c e)
   exact⟨_,q,hd⟩
  ·exact⟨o,keep c o (I.cne x c e) hc nch ho (I.freeC x c e),hd⟩
 refine⟨I.ok,I.os,hg,⟨λb o e n hb hx=>?_,λb o e n hb hx=>?_,λb o e n hx=>?_,λb o e hx=>?_,λb xs e=>tups b xs (I.base.tups b xs e),λb o xs e=>frzs b o xs (I.base.frzs b o xs e),λb ps e=>?_⟩,?_,λx c e=>?_,?_,λx c e=>?_,λp hp=>?_,hok,I.len⟩
 ·exact keep b o (neL b o e) hb (neC b o e hx) (I.base.keep b o e n hb hx) (I.base.free b o e n hx)
 ·obtain⟨sl,e1⟩:=I.base.slot b o e n hb hx
  obtain⟨sl',e2⟩:=slot b _ (neL b o e) hb (neC b o e hx) e1 (I.base.free b o e n hx);exact⟨sl',e2⟩
 ·obtain⟨o',e1⟩:=I.base.there b o e hx
  exact free b o' (neC b o e hx) e1 (I.base.free b o e n hx)
 ·obtain⟨o',e1⟩:=I.base.there b o e hx
  exact there b o' (neC b o e hx) e1
 ·obtain⟨m1,e1⟩:=I.base.tbls b ps e
  obtain⟨m2,e2⟩:=tbls b _ e1;exact⟨m1++m2,by rw [e2,Array.append_assoc]⟩
 ·obtain⟨m,hn,hl⟩:=I.loc
  refine⟨m,ns m hn,λi x v e1 e2 e3=>?_⟩;obtain⟨u,r,l⟩:=hl i x v e1 e2 e3;refine⟨u,r,?_⟩;rcases l with l | ⟨k,c,e,z⟩
  ·exact .inl l
  ·exact .inr ⟨k,c,e,cellK x c e _ z⟩
 ·obtain⟨v,z⟩:=I.cell x c e
  exact⟨v,cellK x c e v z⟩
 ·obtain⟨m,⟨o,_,_,ho,_⟩,_⟩:=I.loc
  exact free _ o (λz=>(hch _ z).2.1 rfl) ho I.free
 ·obtain⟨v,o,ho,hd⟩:=I.cell x c e
  exact free c o (λz=>(hch c z).2.2.1 x c e rfl) ho (I.freeC x c e)
 ·obtain⟨e,n,ne,nf,d⟩:=I.pin p hp
  have nch:p.1∉ch:=λz=>(hch p.1 z).2.2.2 p hp rfl;exact⟨keep p.1 p.2 ne nf nch e n,free p.1 p.2 nch e n,ne,nf,d⟩
theorem aQ.un(I:aQ X pins Z H s)(u:Un X.fs [] H H' s.heap h')(hok:kI X.prog X.w H' h'):aQ X pins Z H' { s with heap:=h',toks:=t' }:=by
 obtain⟨m,⟨o,es,ep,ho,r⟩,_⟩:=id I.loc;obtain⟨sl,hL⟩:=u.any ho I.free (by simp)
 exact I.step (g':=s.gens) (d':=s.drawn) (ch:=[]) (λ_ z=>nomatch z) (λb o _ hb _ e n=>u.keep b o e n hb (by simp)) (λb o _ hb _ e n=>u.slot b o e n hb (by simp)) (λb o _ e n=>u.free b o e n (by simp)) (λb o _ e=>u.there b o e (by simp)) u.tups u.frzs u.tbls (λm' hm=>by
  obtain⟨o',es',ep',ho',r'⟩:=hm;rw [ho]at ho';cases ho'
  exact⟨_,es',ep',hL,r'⟩) hok I.bare
theorem aQ.call{d':Drawn}(I:aQ X pins Z H s)(u:Un (vn X.stack) ch H H' s.heap h')(hok:kI X.prog X.w H' h')(hg:AllBare g')
  (hch:∀b∈ch,(b∈X.ex\/X.Zh.heap.objs.size<=b)/\b≠X.env.locals/\(∀x c,X.env.cells.lookup x=some c->c≠b)/\∀p∈X.pn++pins,p.1≠b) :
  aQ X pins Z H' { s with heap:=h',gens:=g',drawn:=d',toks:=t' }:=by
 obtain⟨m,⟨o,es,ep,ho,r⟩,_⟩:=id I.loc;obtain⟨sl,hL⟩:=u.any ho I.free λz=>(hch _ z).2.1 rfl
 exact I.step (ch:=ch) hch (λb o hL hb hc e n=>u.keep b o e n (λz=>(ab0.mp (I.stkSub b z)).elim hL hb) hc) (λb o _ _ hc e n=>u.any e n hc) (λb o hc e n=>u.free b o e n hc) (λb o hc e=>u.there b o e hc) u.tups u.frzs u.tbls (λm' hm=>by
  obtain⟨o',es',ep',ho',r'⟩:=hm;rw [ho]at ho';cases ho'
  exact⟨_,es',ep',hL,r'⟩) hok hg
theorem aQ.turned{it:Addr}(I:aQ X pins Z H s)(k:∀b o,b≠it->s.heap.get? b=some o->h'.get? b=some o)(hn:H it=none)(hL:it≠X.env.locals)
  (h1:it∈X.ex\/X.Zh.heap.objs.size<=it) (h2:∀x c,X.env.cells.lookup x=some c->c≠it) (h3:∀p∈X.pn++pins,p.1≠it):aQ X pins Z H { s with heap:=h',toks:=t' }:=by
 have nit:∀b u,H b=some u->b≠it:=λb u e z=>by rw [z,hn]at e;cases e
 refine I.step (g':=s.gens) (d':=s.drawn) (ch:=[it]) (λb hb=>?_) (λb o _ _ hc e _=>k b o (λz=>hc (by simp [z])) e) (λb o _ _ hc e _=>⟨o.slots,k b o (λz=>hc (by simp [z])) e⟩) (λ_ _ _ _ n=>n)
  (λb o hc e=>⟨o,k b o (λz=>hc (by simp [z])) e⟩) (λ_ _ e=>e) (λ_ _ _ e=>e) (λb ps e=>⟨#[],by rw [e];simp⟩) (λm hm=>?_) (λb u e=>?_) I.bare
 ·have e:b=it:=by simpa using hb
  subst e;exact⟨h1,hL,h2,h3⟩
 ·obtain⟨o,es,ep,ho,r⟩:=hm
  exact⟨o,es,ep,k _ o (Ne.symm hL) ho,r⟩
 ·refine(I.hok b u e).stay (λc v hc q=>k c v ?_ q) (λ_ q=>q) λ_ _ q=>q
  rcases hc with z | z
  ·rw [z];exact nit b u e
  ·exact nit c _ z
theorem aQ.tok(I:aQ X pins Z H s)(t:Nat):aQ X pins Z H { s with toks:=t }:=I.un (h':=s.heap) (t':=t) Un.refl I.hok
theorem aQ.kept(I:aQ X pins Z H s)(k:∀b u,s.heap.get? b=some u->h'.get? b=some u):aQ X pins Z H { s with heap:=h',toks:=t' }:=I.un (Un.kept k) (I.hok.kept k)
theorem aQ.laid(I:aQ X pins Z H s)(k:∀b u,s.heap.get? b=some u->h'.get? b=some u)(hp:s.heap.objs.size<=a)(new:dZ X.prog X.w (upd H a o) h' a o):
  aQ X pins Z (upd H a o) { s with heap:=h',toks:=t' }:=I.un (Un.laid k hp (I.hok.fresh hp)) (I.hok.laid k hp new)
theorem aQ.write{x e:Addr}(I:aQ X pins Z H s)(mu:GK (H x))(he:e=x\/H e=some (.own x))(k:∀b u,b≠e->s.heap.get? b=some u->h'.get? b=some u)(heo:∃u,h'.get? e=some u)
  (new:dZ X.prog X.w (upd H x o) h' x o):aQ X pins Z (upd H x o) { s with heap:=h',toks:=t' }:=I.un (Un.write mu he k heo) (I.hok.write mu he k heo new)
theorem aQ.pins_of{pins':List (Addr×Obj)}(I:aQ X pins Z H s)(h:∀p∈pins',s.heap.get? p.1=some p.2/\H p.1=none/\p.1≠X.env.locals/\p.1∉X.fs/\∀v,p.2.data≠.cell v):aQ X pins' Z H s:=
 ⟨I.ok,I.os,I.bare,I.base,I.loc,I.cell,I.free,I.freeC,λp hp=>(ac8.mp hp).elim (λz=>I.pin p (ah8 _ z)) (h p),I.hok,I.len⟩
theorem uv{N:List Str}(hN:N.Nodup)(a:N[i]?=some x)(b:N[j]?=some x):i=j:=by
 obtain⟨h1,e1⟩:=aa1.mp a;obtain⟨h2,e2⟩:=aa1.mp b;exact(List.getElem_inj hN).mp (e1.trans e2.symm)
theorem rP{Q:Unit->Shared->Prop}(I:aQ X pins Z H s)(hN:X.N.Nodup)(hi:X.N[i]?=some x)(hx:Fx X.env.scope x)(r:aX v u)
  (h:∀s',aQ X pins (Z.set i (some v)) H s'->(∃a,Heap.SameBut a s.heap s'.heap/\(a=X.env.locals\/X.env.cells.lookup x=some a))->Q Unit.unit s') (hf:X.fn x=true\/X.env.scope.names.lookup x=some .local:=by first | exact .inl rfl | exact .inr rfl | assumption):wpAny M A (storeName X.env x u) Q E s:=by
 obtain⟨m,hn,hl⟩:=id I.loc
 have hcls:(X.env.scope.kind == .class || (X.env.scope.kind == .module && X.env.locals != X.env.globals))=false:=by rw [I.ok.kind];rfl
 have Yl:i < Z.length:=by rw [I.len];exact(aa1.mp hi).1
 have cne:=I.cne
 have tracked:∀{a:Addr} {h':Heap},(∃o,s.heap.get? a=some o/\H a=none)->Heap.SameBut a s.heap h'->kI X.prog X.w H h':=λ{a h'} ha hs b ob e=>by
  obtain⟨_,_,hfree⟩:=ha;refine(I.hok b ob e).stay (λc w' hc q=>(hs.2 c ?_).trans q) (λ_ q=>q) λ_ _ q=>q;rintro rfl;rcases hc with rfl | hc
  ·rw [hfree]at e;cases e
  ·rw [hfree]at hc;cases hc
 rcases hx with hk | hk
 ·refine wpAny_storeName_local hk hn (λh' hn' hs=>?_) hcls
  obtain⟨oL,_,_,hoL,_⟩:=id hn;refine h _ ⟨I.ok,I.os,I.bare,⟨λb o e n hb hx=>?_,λb o e n hb hx=>?_,I.base.free,λb o e hx=>?_,I.base.tups,I.base.frzs,I.base.tbls⟩,⟨_,hn',λj y v' e1 e2 e3=>?_⟩,λy c e=>?_,I.free,I.freeC,λp hp=>?_,tracked ⟨oL,hoL,I.free⟩ hs,by simpa using I.len⟩ ⟨_,hs,.inl rfl⟩
  ·exact(hs.2 b (ad3 (ab2 (ab9 e) I.ok.above))).trans (I.base.keep b o e n hb hx)
  ·obtain⟨sl,e1⟩:=I.base.slot b o e n hb hx
   exact⟨sl,(hs.2 b (ad3 (ab2 (ab9 e) I.ok.above))).trans e1⟩
  ·obtain⟨o',e1⟩:=I.base.there b o e hx
   exact⟨o',(hs.2 b (ad3 (ab2 (ab9 e) I.ok.above))).trans e1⟩
  ·by_cases hj:j=i
   ·subst hj
    rw [hi]at e1;cases e1;rw [List.getElem?_set_self Yl]at e2;cases e2;exact⟨u,r,.inl ⟨hk,by simp⟩⟩
   ·rw [List.getElem?_set_ne (Ne.symm hj)]at e2
    obtain⟨u',r',q⟩:=hl j y v' e1 e2 e3;refine⟨u',r',?_⟩;rcases q with⟨k,e⟩ | ⟨k,c,e,z⟩
    ·refine .inl ⟨k,?_⟩
     have:y≠x:=λe=>hj (uv hN e1 (e▸hi))
     simp [this,e]
    ·exact .inr ⟨k,c,e,z.sameBut hs (cne y c e)⟩
  ·obtain⟨w',z⟩:=I.cell y c e
   exact⟨w',z.sameBut hs (cne y c e)⟩
  ·obtain⟨e,n,ne,nf,d⟩:=I.pin p hp
   exact⟨(hs.2 p.1 ne).trans e,n,ne,nf,d⟩
 ·have hfn:X.fn x=true:=by
   rcases hf with z | z
   ·exact z
   ·rw [z]at hk;cases hk
  obtain⟨c,hc⟩:=I.ok.has x (.inl hk);obtain⟨w',z⟩:=I.cell x c hc;refine wpAny_storeName_cell I.ok.kind hk hc z (λh' hc' hs=>?_);obtain⟨oc,hoc,hocd⟩:=id z;refine h { s with heap:=h' } ⟨I.ok,I.os,I.bare,⟨λb o e n hb hx=>?_,λb o e n hb hx=>?_,I.base.free,λb o e hx=>?_,I.base.tups,I.base.frzs,I.base.tbls⟩,⟨m,hn.sameBut hs (Ne.symm (cne x c hc)),λj y v' e1 e2 e3=>?_⟩,λy c' e=>?_,I.free,I.freeC,λp hp=>?_,tracked ⟨oc,hoc,I.freeC x c hc⟩ hs,by simpa using I.len⟩ ⟨c,hs,.inr hc⟩
  ·exact(hs.2 b (ad3 (ab2 (ab9 e) (I.ok.cab x c hfn hc)))).trans (I.base.keep b o e n hb hx)
  ·obtain⟨sl,e1⟩:=I.base.slot b o e n hb hx
   exact⟨sl,(hs.2 b (ad3 (ab2 (ab9 e) (I.ok.cab x c hfn hc)))).trans e1⟩
  ·obtain⟨o',e1⟩:=I.base.there b o e hx
   exact⟨o',(hs.2 b (ad3 (ab2 (ab9 e) (I.ok.cab x c hfn hc)))).trans e1⟩
  ·by_cases hj:j=i
   ·subst hj
    rw [hi]at e1;cases e1;rw [List.getElem?_set_self Yl]at e2;cases e2;exact⟨u,r,.inr ⟨.inl hk,c,hc,hc'⟩⟩
   ·rw [List.getElem?_set_ne (Ne.symm hj)]at e2
    obtain⟨u',r',q⟩:=hl j y v' e1 e2 e3;refine⟨u',r',?_⟩;rcases q with q | ⟨k,c',e,z'⟩
    ·exact .inl q
    ·refine .inr ⟨k,c',e,z'.sameBut hs ?_⟩
     rintro rfl;exact hj (uv hN e1 (I.ok.inj _ _ _ e hc▸hi))
  ·by_cases hcc:c'=c
   ·subst hcc;exact⟨_,hc'⟩
   ·obtain⟨w2,z2⟩:=I.cell y c' e
    exact⟨w2,z2.sameBut hs hcc⟩
  ·obtain⟨e,n,ne,nf,d⟩:=I.pin p hp
   refine⟨(hs.2 p.1 ?_).trans e,n,ne,nf,d⟩;intro q;rw [q,hoc]at e;have q':oc=p.2:=Option.some.inj e;exact d w' (by rw [<-q'];exact hocd)
theorem pV{Q:Unit->Shared->Prop}(I:aQ X pins Z H s)(hN:X.N.Nodup)(hi:X.N[i]?=some x)(hx:Fx X.env.scope x)(r:aX v u)
  (h:∀s',aQ X pins (Z.set i (some v)) H s'->Q Unit.unit s') (hf:X.fn x=true\/X.env.scope.names.lookup x=some .local:=by first | exact .inl rfl | exact .inr rfl | assumption):wpAny M A (storeName X.env x u) Q E s:=
 rP I hN hi hx r (λs' I' _=>h s' I') hf
theorem aQ.call'(I:aQ X pins Z H s)(ho:s'.os=s.os)(u:Un (vn X.stack) ch H H' s.heap s'.heap)(hok:kI X.prog X.w H' s'.heap)(hg:AllBare s'.gens)
  (hch:∀b∈ch,(b∈X.ex\/X.Zh.heap.objs.size<=b)/\b≠X.env.locals/\(∀x c,X.env.cells.lookup x=some c->c≠b)/\∀p∈X.pn++pins,p.1≠b):aQ X pins Z H' s':=by
 obtain⟨h',g',d',t',o'⟩:=s';have e:o'=s.os:=ho;subst e;exact I.call (g':=g') (t':=t') (d':=d') u hok hg hch
end
abbrev XK:=Value->Option Addr->Hp->Prop
abbrev St:=List (Option V)
variable {Z:St}
abbrev VK:=V->Hp->Prop
abbrev TE:=St->Hp->VK->Prop
variable {ta te:TE}
abbrev TT:=St->Hp->(Bool->Hp->Prop)->Prop
abbrev TA:=St->Hp->(List V->Hp->Prop)->Prop
variable {t:TA}
structure jT where
 nx:St->Hp->Prop
 rt:VK
 bk:St->Hp->Prop:=λ_ _=>False
 ct:St->Hp->Prop:=λ_ _=>False
variable {D:jT}
abbrev TS:=jT->St->Hp->Prop
variable {tb:TS}
def EP(X:Cx)(pins:List (Addr×Obj))(Z:St)(Q:VK)(u:Value)(s':Shared):Prop:=∃v H',aQ X pins Z H' s'/\aX v u/\Q v H'
def TP(X:Cx)(pins:List (Addr×Obj))(Z:St)(Q:Bool->Hp->Prop)(b:Bool)(s':Shared):Prop:=∃H',aQ X pins Z H' s'/\Q b H'
def AP(X:Cx)(pins:List (Addr×Obj))(Z:St)(Q:List V->Hp->Prop)(us:List Value)(s':Shared):Prop:=∃vs H',aQ X pins Z H' s'/\bh vs us/\Q vs H'
def SP(X:Cx)(pins:List (Addr×Obj))(D:jT)(f:Flow)(s':Shared):Prop:=
 match f with
 | .next=>∃Zc H',aQ X pins Zc H' s'/\D.nx Zc H'
 | .brk=>∃Zc H',aQ X pins Zc H' s'/\D.bk Zc H'
 | .cont=>∃Zc H',aQ X pins Zc H' s'/\D.ct Zc H'
 | .ret u=>∃v Zc H',aQ X pins Zc H' s'/\aX v u/\D.rt v H'
def PE(X:Cx)(e:Expr)(t:TE):Prop:=
 ∀(pins:List (Addr×Obj)) (s:Shared) (Z:St) (H:Hp) (Q:VK),aQ X pins Z H s->t Z H Q->wpAny (model X.prog X.w) X.A (eval e X.env) (EP X pins Z Q) X.xe s
def PT(X:Cx)(e:Expr)(t:TT):Prop:=
 ∀(pins:List (Addr×Obj)) (s:Shared) (Z:St) (H:Hp) (Q:Bool->Hp->Prop),aQ X pins Z H s->t Z H Q->wpAny (model X.prog X.w) X.A (isTrue e X.env (eval e X.env)) (TP X pins Z Q) X.xe s
def PW(X:Cx)(e:Expr)(t:TT):Prop:=
 ∀(whole:Sem Value) (pins:List (Addr×Obj)) (s:Shared) (Z:St) (H:Hp) (Q:Bool->Hp->Prop),aQ X pins Z H s->t Z H Q->wpAny (model X.prog X.w) X.A (isTrue e X.env whole) (TP X pins Z Q) X.xe s
theorem PW.pt{t:TT}(h:PW X e t):PT X e t:=h _
def PA(X:Cx)(es:List Expr)(t:TA):Prop:=
 ∀(pos:Pos) (pins:List (Addr×Obj)) (s:Shared) (Z:St) (H:Hp) (Q:List V->Hp->Prop),aQ X pins Z H s->t Z H Q->wpAny (model X.prog X.w) X.A (spliced (backTo pos (starEach es X.env))) (AP X pins Z Q) X.xe s
def PS(X:Cx)(st:Stmt)(t:TS):Prop:=
 ∀(pins:List (Addr×Obj)) (s:Shared) (Z:St) (H:Hp) (D:jT),aQ X pins Z H s->t D Z H->wpAny (model X.prog X.w) X.A (exec st X.env) (SP X pins D) X.xe s
def w6(X:Cx)(st:List Stmt)(t:TS):Prop:=
 ∀(pins:List (Addr×Obj)) (s:Shared) (Z:St) (H:Hp) (D:jT),aQ X pins Z H s->t D Z H->wpAny (model X.prog X.w) X.A (execs st X.env) (SP X pins D) X.xe s
theorem c7{α:Type}{t:Sem α}{Q Q':α->Shared->Prop}(h:wpAny M A t Q E s)(hQ:∀a s,Q a s->Q' a s):wpAny M A t Q' E s:=af2 h hQ λ_ _ x=>x
section
theorem bin{a b:Expr}{tb:TE}(ha:PE X a ta)(hb:PE X b tb)(I:aQ X pins Z H s)(h:ta Z H λx H1=>tb Z H1 λy H2=>R x y H2)
  {α:Type} {Q:α->Shared->Prop} {f:Value->Value->Sem α}
  (hf:∀v u s2 x y H2,aQ X pins Z H2 s2->aX x v->aX y u->R x y H2->wpAny (model X.prog X.w) X.A (f v u) Q X.xe s2) :
  wpAny (model X.prog X.w) X.A (eval a X.env) (λv Zg=>wpAny (model X.prog X.w) X.A (eval b X.env) (λu Zw=>wpAny (model X.prog X.w) X.A (f v u) Q X.xe Zw) X.xe Zg) X.xe s:=by
 refine c7 (ha pins s Z H _ I h) λv s1 zq0=>?_;obtain⟨x,H1,I1,r1,q1⟩:=zq0;refine c7 (hb pins s1 Z H1 _ I1 q1) λu s2 zq0=>?_;obtain⟨y,H2,I2,r2,q2⟩:=zq0;exact hf v u s2 x y H2 I2 r1 r2 q2
def Fn(i:Nat):TE:=λZ H Q=>∃v,Z[i]?=some (some v)/\Q v H
def tC(v:V):TE:=λ_ H Q=>Q v H
theorem ES(hN:X.N[i]?=some x)(hv:GN X.env.scope x)(hd:(x == ("__debug__":Str))=false:=by decide)(hcd:(x == ("__classdict__":Str))=false:=by decide):PE X (.Name x pos) (Fn i):=by
 rintro pins s Z H Q I ⟨v,e,h⟩;obtain⟨m,hn,hl⟩:=I.loc;obtain⟨u,r,l⟩:=hl i x v hN e hv;have fin:EP X pins Z Q u s:=⟨v,H,I,r,h⟩;rcases l with⟨hk,hm⟩ | ⟨hk,c,hc,hcell⟩
 ·exact wpAny_Name (wpAny_loadName_local I.ok.kind hk hn hm fin) hd
 ·rcases hk with hk | hk
  ·exact wpAny_Name (wpAny_loadName_cell I.ok.kind hk hc hcell fin) hd
  ·exact wpAny_Name (wpAny_loadName_free I.ok.kind hk hc hcell fin hcd) hd
theorem ae{i j pos}:PE X (.Constant (.int i) j pos) (tC (.int i)):=λ_ _ _ H _ I h=>wpAny_Constant_int ⟨.int i,H,I.tok _,⟨_,rfl⟩,h⟩
theorem jm{b j pos}:PE X (.Constant (.bool b) j pos) (tC (.bl b)):=λ_ _ _ H _ I h=>Constant_bool ⟨.bl b,H,I,rfl,h⟩
theorem bc{j pos}:PE X (.Constant .none j pos) (tC .non):=λ_ _ _ H _ I h=>Constant_none ⟨.non,H,I,rfl,h⟩
theorem ba{x j pos}:PE X (.Constant (.str x) j pos) (tC (.str x)):=λ_ _ _ H _ I h=>Calls.Constant_str ⟨.str x,H,I.tok _,⟨_,rfl⟩,h⟩
def Gl(X:Cx)(x:Str):Prop:=X.env.kindOf x=some .globalImplicit
theorem nM(I:aQ X pins Z H s)(hg:Gl X x)(hm:X.mg x=some u)(h:Q u s)
  (hd:(x == ("__debug__":Str))=false:=by decide):wpAny (model X.prog X.w) X.A (eval (.Name x pos) X.env) Q E s:=
 Calls.Name_function_global I.ok.kind hg (Calls.loadGlobal_global (by rw [I.ok.glob];exact I.mod.glob.keeps I.bk) hm h) hd
theorem gN(I:aQ X pins Z H s)(hg:Gl X x)(hm:X.mg x=none)(hv:bootBuiltins x=some u)(h:Q u s)
  (hn:x≠"__name__":=by decide) (hd:(x == ("__debug__":Str))=false:=by decide):wpAny (model X.prog X.w) X.A (eval (.Name x pos) X.env) Q E s:=by
 obtain⟨mb,h1,h2⟩:=I.mod.blt;exact Calls.Name_function_global I.ok.kind hg (Calls.loadGlobal_builtin (by rw [I.ok.glob];exact I.mod.glob.keeps I.bk) hm (by rw [I.ok.blt];exact h1.keeps I.bk) ((h2 x hn).trans hv) h) hd
theorem Dl(hg:Gl X x)(hm:X.mg x=some u)(r:aX v u)(hd:(x == ("__debug__":Str))=false:=by decide):PE X (.Name x pos) (tC v):=
 λ_ _ _ H _ I h=>nM I hg hm ⟨v,H,I,r,h⟩ hd
theorem lF(hg:Gl X x)(hm:X.mg x=none)(hv:bootBuiltins x=some u)(r:aX v u)(hn:x≠"__name__":=by decide)(hd:(x == ("__debug__":Str))=false:=by decide):PE X (.Name x pos) (tC v):=
 λ_ _ _ H _ I h=>gN I hg hm hv ⟨v,H,I,r,h⟩ hn hd
variable {a b:Expr} {tb:TE}
def tB(t:TE):TT:=λZ H Q=>t Z H λx H1=>∃c,x=.bl c/\Q c H1
variable {tA tB':TT} {rest:List Expr}
def Fc(t u:TT):TT:=λZ H Q=>t Z H λc H1=>if c=true then u Z H1 Q else Q false H1
def Hz(t u:TT):TT:=λZ H Q=>t Z H λc H1=>if c=true then Q true H1 else u Z H1 Q
def Fh(t:TT):TT:=λZ H Q=>t Z H λc H1=>Q (!c) H1
theorem fZ(ha:PT X a tA):PW X (.BoolOp .And [a] pos) tA:=by
 intro wh pins s Z H Q I h;refine isTrue_and (c7 (ha pins s Z H Q I h) λc s1 e=>?_)
 cases c with
 | true=>exact isTrue_and_nil e
 | false=>exact e
theorem cB(ha:PT X a tA):PW X (.BoolOp .Or [a] pos) tA:=by
 intro wh pins s Z H Q I h;refine isTrue_or (c7 (ha pins s Z H Q I h) λc s1 e=>?_)
 cases c with
 | false=>exact isTrue_or_nil e
 | true=>exact e
theorem gP(ha:PT X a tA)(hb:PW X (.BoolOp .And (b::rest) pos) tB'):PW X (.BoolOp .And (a::b::rest) pos) (Fc tA tB'):=by
 intro wh pins s Z H Q I h;refine isTrue_and (c7 (ha pins s Z H _ I h) λc s1 zq0=>?_);obtain⟨H1,I1,q1⟩:=zq0
 cases c with
 | true=>exact hb wh pins s1 Z H1 Q I1 q1
 | false=>exact⟨H1,I1,q1⟩
theorem cK(ha:PT X a tA)(hb:PW X (.BoolOp .Or (b::rest) pos) tB'):PW X (.BoolOp .Or (a::b::rest) pos) (Hz tA tB'):=by
 intro wh pins s Z H Q I h;refine isTrue_or (c7 (ha pins s Z H _ I h) λc s1 zq0=>?_);obtain⟨H1,I1,q1⟩:=zq0
 cases c with
 | true=>exact⟨H1,I1,q1⟩
 | false=>exact hb wh pins s1 Z H1 Q I1 q1
theorem cj(ha:PT X a tA):PT X (.UnaryOp .Not a pos) (Fh tA):=by
 intro pins s Z H Q I h;exact isTrue_not (ha pins s Z H (λc H1=>Q (!c) H1) I h)
def vh(ta tb:TE):TE:=λZ H Q=>ta Z H λx H1=>∃c,x=.bl c/\if c=true then tb Z H1 Q else Q (.bl false) H1
def BQ(ta tb:TE):TE:=λZ H Q=>ta Z H λx H1=>∃c,x=.bl c/\if c=true then Q (.bl true) H1 else tb Z H1 Q
def vj(ta:TE):TE:=λZ H Q=>ta Z H λx H1=>∃c,x=.bl c/\Q (.bl (!c)) H1
theorem eA{op}{t:TE}(h:PE X a t):PE X (.BoolOp op [a] pos) t:=λpins s Z H Q I hw=>BoolOp_one (h pins s Z H Q I hw)
theorem eN(ha:PE X a ta)(hb:PE X (.BoolOp .And (b::rest) pos) tb):PE X (.BoolOp .And (a::b::rest) pos) (vh ta tb):=by
 intro pins s Z H Q I h;refine BoolOp_and (c7 (ha pins s Z H _ I h) λv s1 zq0=>?_);obtain⟨x,H1,I1,r1,c,rfl,q1⟩:=zq0;cases r1;refine ae2 ?_
 cases c with
 | true=>exact hb pins s1 Z H1 Q I1 q1
 | false=>exact⟨.bl false,H1,I1,rfl,q1⟩
theorem Eb(ha:PE X a ta)(hb:PE X (.BoolOp .Or (b::rest) pos) tb):PE X (.BoolOp .Or (a::b::rest) pos) (BQ ta tb):=by
 intro pins s Z H Q I h;refine BoolOp_or (c7 (ha pins s Z H _ I h) λv s1 zq0=>?_);obtain⟨x,H1,I1,r1,c,rfl,q1⟩:=zq0;cases r1;refine ae2 ?_
 cases c with
 | false=>exact hb pins s1 Z H1 Q I1 q1
 | true=>exact⟨.bl true,H1,I1,rfl,q1⟩
theorem A9(ha:PE X a ta):PE X (.UnaryOp .Not a pos) (vj ta):=by
 intro pins s Z H Q I h;refine UnaryOp_ (c7 (ha pins s Z H _ I h) λv s1 zq0=>?_);obtain⟨x,H1,I1,r1,c,rfl,q1⟩:=zq0;cases r1;exact not_of (ae2 ⟨.bl (!c),H1,I1,rfl,q1⟩)
def Hy(t:TT)(ta tb:TE):TE:=λZ H Q=>t Z H λc H1=>if c=true then ta Z H1 Q else tb Z H1 Q
theorem dc(hc:PT X c tA)(ha:PE X a ta)(hb:PE X b tb):PE X (.IfExp c a b pos) (Hy tA ta tb):=by
 intro pins s Z H Q I h;refine wpAny_IfExp (c7 (hc pins s Z H _ I h) λd s1 zq0=>?_);obtain⟨H1,I1,q1⟩:=zq0
 cases d with
 | true=>exact ha pins s1 Z H1 Q I1 q1
 | false=>exact hb pins s1 Z H1 Q I1 q1
end
def aH(K:Frag)(H:Hp)(a:Addr)(xs:List V):Prop:=
 Rd H a (.lst xs)\/
  ∃(o:Obj) (its:Array Value) (n:Nat),K.lookup a=some o/\o.cls=.type "list"/\o.dict=none/\o.data=.seq its n/\its.size<=sizeLine/\bh xs its.toList
def cM(K:Frag)(H:Hp)(a:Addr)(xs:List V):Prop:=
 Rd H a (.tup xs)\/
  ∃(o:Obj) (its:Array Value) (n:Nat),K.lookup a=some o/\o.cls=.type "tuple"/\o.data=.seq its n/\its.size<=sizeLine/\bh xs its.toList
def Hf:Value->Option V
 | .none=>some .non
 | .bool b=>some (.bl b)
 | .int i _=>some (.int i)
 | .str x _=>some (.str x)
 | .bytes b _=>some (.byt b)
 | .float b _=>some (.flt b)
 | .ref a=>some (.ref a)
 | .type n=>some (.ty n)
 | _=>none
theorem aX.abs{x:V}(r:aX x u):Hf u=some x:=by
 cases x with
 | non=>cases r;rfl
 | bl _=>cases r;rfl
 | int _=>obtain⟨t,rfl⟩:=r;rfl
 | str _=>obtain⟨t,rfl⟩:=r;rfl
 | byt _=>obtain⟨t,rfl⟩:=r;rfl
 | flt _=>obtain⟨t,rfl⟩:=r;rfl
 | ref _=>cases r;rfl
 | ty _=>cases r;rfl
theorem aX.inj{x:V}(r:aX x u)(q:aX y u):x=y:=Option.some.inj (r.abs.symm.trans q.abs)
theorem bh.inj:∀{xs ys:List V} {us:List Value},bh xs us->bh ys us->xs=ys
 | _,_,_,.nil,.nil=>rfl
 | _,_,_,.cons r t,.cons r' t'=>by rw [r.inj r',bh.inj t t']
section
variable {ys:List V}
theorem aH.of(h:H a=some (.lst xs)):aH K H a xs:=.inl (.inl h)
theorem cM.of(h:H a=some (.tup xs)):cM K H a xs:=.inl (.inl h)
theorem aQ.list(I:aQ X pins Z H s)(h:aH X.K H a xs):∃its:List Value,bh xs its/\PlainL s.heap a its.toArray/\xs.length<=sizeLine:=by
 rcases h with h | ⟨o,its,n,hk,hc,hd,hs,hz,r⟩
 ·obtain⟨z,its,n,r,e⟩:=h.ok I.hok
  exact⟨its,r,⟨_,n,e,rfl,rfl,rfl⟩,z⟩
 ·refine⟨its.toList,r,⟨o,n,I.kIn a o hk,hc,hd,by simpa using hs⟩,?_⟩
  have e:=r.length;simp only [am3]at e;omega
theorem aQ.tuple(I:aQ X pins Z H s)(h:cM X.K H a xs):∃its:List Value,bh xs its/\IsTup s.heap a its.toArray/\xs.length<=sizeLine:=by
 rcases h with h | ⟨o,its,n,hk,hc,hs,hz,r⟩
 ·obtain⟨z,its,r,p⟩:=h.ok I.hok
  exact⟨its,r,p,z⟩
 ·refine⟨its.toList,r,⟨o,I.kIn a o hk,hc,n,by simpa using hs⟩,?_⟩
  have e:=r.length;simp only [am3]at e;omega
theorem aQ.list_inj(I:aQ X pins Z H s)(h:aH X.K H a xs)(h':aH X.K H a ys):xs=ys:=by
 obtain⟨its,r,⟨o,n,e,_,_,d⟩,_⟩:=I.list h;obtain⟨its',r',⟨o',n',e',_,_,d'⟩,_⟩:=I.list h';rw [e]at e';cases e';rw [d]at d'
 injection d' with d1 _
 have:its=its':=by simpa using congrArg Array.toList d1
 subst this;exact r.inj r'
theorem aQ.tuple_inj(I:aQ X pins Z H s)(h:cM X.K H a xs)(h':cM X.K H a ys):xs=ys:=by
 obtain⟨its,r,⟨o,e,_,n,d⟩,_⟩:=I.tuple h;obtain⟨its',r',⟨o',e',_,n',d'⟩,_⟩:=I.tuple h';rw [e]at e';cases e';rw [d]at d'
 injection d' with d1 _
 have:its=its':=by simpa using congrArg Array.toList d1
 subst this;exact r.inj r'
end
abbrev Cx.wish(X:Cx)(E:Value->Shared->Prop):Cx:={ X with xe:=E }
abbrev Cx.nox(X:Cx):Cx:=X.wish λ_ _=>False
theorem Cx.Ok.wish(ok:X.Ok)(E:Value->Shared->Prop):(X.wish E).Ok:=
 ⟨ok.mod,ok.kind,ok.glob,ok.blt,ok.above,ok.inj,ok.has,ok.cab,ok.hd,ok.frames,ok.stk,ok.exf,ok.bs,ok.bsz,ok.noex,ok.exfs,ok.funs,ok.frf⟩
theorem Cx.Ok.unwish(ok:(X.wish E).Ok):X.Ok:=
 ⟨ok.mod,ok.kind,ok.glob,ok.blt,ok.above,ok.inj,ok.has,ok.cab,ok.hd,ok.frames,ok.stk,ok.exf,ok.bs,ok.bsz,ok.noex,ok.exfs,ok.funs,ok.frf⟩
theorem aQ.wish(I:aQ X pins Z H s)(E:Value->Shared->Prop):aQ (X.wish E) pins Z H s:=⟨I.ok.wish E,I.os,I.bare,I.base,I.loc,I.cell,I.free,I.freeC,I.pin,I.hok,I.len⟩
theorem aQ.unwish(I:aQ (X.wish E) pins Z H s):aQ X pins Z H s:=⟨I.ok.unwish,I.os,I.bare,I.base,I.loc,I.cell,I.free,I.freeC,I.pin,I.hok,I.len⟩
theorem SP.unwish{f:Flow}(h:SP (X.wish E) pins D f s'):SP X pins D f s':=by
 cases f with
 | next=>obtain⟨Zc,H',I,q⟩:=h;exact⟨Zc,H',I.unwish,q⟩
 | brk=>obtain⟨Zc,H',I,q⟩:=h;exact⟨Zc,H',I.unwish,q⟩
 | cont=>obtain⟨Zc,H',I,q⟩:=h;exact⟨Zc,H',I.unwish,q⟩
 | ret u=>obtain⟨v,Zc,H',I,r,q⟩:=h;exact⟨v,Zc,H',I.unwish,r,q⟩
theorem w6.nox{st:List Stmt}{t:TS}(h:w6 X.nox st t):w6 X st t:=λpins s Z H D I hw=>
 af2 (h pins s Z H D (I.wish _) hw) (λ_ _ q=>q.unwish) λ_ _ z=>False.elim z
section
variable {st:Stmt} {rest:List Stmt} {t u:TS}
def xP:TS:=λD Z H=>D.nx Z H
def jF(t u:TS):TS:=λD Z H=>t { D with nx:=u D } Z H
theorem aC:w6 X [] xP:=λ_ _ Z H _ I h=>al7 ⟨Z,H,I,h⟩
theorem ah(h1:PS X st t)(h2:w6 X rest u):w6 X (st::rest) (jF t u):=by
 intro pins s Z H D I h;refine wpAny_execs_cons (c7 (h1 pins s Z H { D with nx:=u D } I h) λf s1 q=>?_)
 cases f with
 | next=>
  obtain⟨Zc,H',I',q⟩:=q;exact h2 pins s1 Zc H' D I' q
 | ret v=>exact q
 | brk=>exact q
 | cont=>exact q
theorem ai(h1:PS X st t):w6 X [st] t:=by
 intro pins s Z H D I h;refine wpAny_execs_cons (c7 (h1 pins s Z H D I h) λf s1 q=>?_)
 cases f with
 | next=>exact al7 q
 | ret v=>exact q
 | brk=>exact q
 | cont=>exact q
def BK:TS:=λD Z H=>D.ct Z H
theorem uM:PS X (.Continue pos) BK:=λ_ _ Z H _ I h=>wpAny_Continue ⟨Z,H,I,h⟩
theorem aQ.quiet(I:aQ X pins Z H s):interactive X.env=false:=by simp [interactive,I.ok.kind]
def BL(te:TE):TS:=λD Z H=>te Z H λ_ H1=>D.nx Z H1
theorem bH(he:PE X e te)(hs:swapsWith e none pos.line X.env=pure false:=by rfl):PS X (.Expr e pos) (BL te):=by
 intro pins s Z H D I h;exact wpAny_Expr_any (c7 (he pins s Z H _ I h) λv s1 ⟨x,H1,I1,r1,q1⟩=>⟨Z,H1,I1,q1⟩) I.quiet hs
def Fm(te:TE):TS:=λD Z H=>te Z H D.rt
theorem ar(he:PE X e te):PS X (.Return (some e) pos) (Fm te):=by
 intro pins s Z H D I h;exact wpAny_Return_some (c7 (he pins s Z H _ I h) λv s1 ⟨x,H1,I1,r1,q1⟩=>⟨x,Z,H1,I1,r1,q1⟩)
def Eh:TS:=λD _ H=>D.rt .non H
def BM(c:TT)(t u:TS):TS:=λD Z H=>c Z H λb H1=>if b=true then t D Z H1 else u D Z H1
theorem aO{a b:List Stmt}{tc:TT}(hc:PT X c tc)(ha:w6 X a t)(hb:w6 X b u):PS X (.If c a b pos) (BM tc t u):=by
 intro pins s Z H D I h;refine wpAny_If (c7 (hc pins s Z H _ I h) λd s1 zq0=>?_);obtain⟨H1,I1,q1⟩:=zq0
 cases d with
 | true=>exact ha pins s1 Z H1 D I1 q1
 | false=>exact hb pins s1 Z H1 D I1 q1
def Fg:TS:=λ_ _ _=>False
theorem lG:PS X st Fg:=λ_ _ _ _ _ _ h=>h.elim
end
abbrev TG:=V->St->Hp->(St->Hp->Prop)->Prop
variable {g:TG}
abbrev Cg:=List V->St->Hp->(St->Hp->Prop)->Prop
def PG(X:Cx)(target:Expr)(t:TG):Prop:=
 ∀(pins:List (Addr×Obj)) (s:Shared) (Z:St) (H:Hp) (v:V) (u:Value) (Q:St->Hp->Prop),aQ X pins Z H s->aX v u->t v Z H Q->
  wpAny (model X.prog X.w) X.A (assign target X.env u) (λ_ s'=>∃Zc H',aQ X pins Zc H' s'/\Q Zc H') X.xe s
def FJ(X:Cx)(ts:List Expr)(t:Cg):Prop:=
 ∀(pins:List (Addr×Obj)) (s:Shared) (Z:St) (H:Hp) (vs:List V) (us:List Value) (Q:St->Hp->Prop),aQ X pins Z H s->bh vs us->t vs Z H Q->
  wpAny (model X.prog X.w) X.A (assignInOrder ((assignEach ts X.env).map (·.2)) us) (λ_ s'=>∃Zc H',aQ X pins Zc H' s'/\Q Zc H') X.xe s
abbrev Ci:=V->V->V->Hp->(Hp->Prop)->Prop
def Em(X:Cx)(t:Ci):Prop:=
 ∀(pins:List (Addr×Obj)) (s:Shared) (Z:St) (H:Hp) (o i v:V) (ov iv u:Value) (Q:Hp->Prop),aQ X pins Z H s->aX o ov->aX i iv->aX v u->t o i v H Q->
  wpAny (model X.prog X.w) X.A (setItem ov iv u) (λ_ s'=>∃H',aQ X pins Z H' s'/\Q H') X.xe s
abbrev Fz:=V->V->Hp->VK->Prop
def PIp(X:Cx)(op:Operator)(t:Fz):Prop:=
 ∀(pins:List (Addr×Obj)) (s:Shared) (Z:St) (H:Hp) (x y:V) (v u:Value) (Q:VK),aQ X pins Z H s->aX x v->aX y u->t x y H Q->
  wpAny (model X.prog X.w) X.A (inplaceOp op v u) (EP X pins Z Q) X.xe s
def iV(i:Nat):TG:=λv Z H Q=>Q (Z.set i (some v)) H
theorem bQ(hN:X.N.Nodup)(hi:X.N[i]?=some x)(hx:Fx X.env.scope x)(hf:X.fn x=true\/X.env.scope.names.lookup x=some .local:=by first | exact .inl rfl | exact .inr rfl | assumption):PG X (.Name x pos) (iV i):=by
 intro pins s Z H v u Q I r h;exact wpAny_assign_Name (pV I hN hi hx r (λs' I'=>⟨_,H,I',h⟩) hf)
def FY:Cg:=λvs Z H Q=>vs=[]/\Q Z H
def DV(t:TG)(u:Cg):Cg:=λvs Z H Q=>∃v r,vs=v::r/\t v Z H λZc H'=>u r Zc H' Q
theorem fY:FJ X [] FY:=by
 rintro pins s Z H vs us Q I r ⟨e,h⟩;subst e;cases r;exact assignInOrder_nil ⟨Z,H,I,h⟩
theorem bU{t:TG}{u:Cg}(h1:PG X e t)(h2:FJ X es u)
  (hs:(assignEach (e::es) X.env).map (·.2)=assign e X.env::(assignEach es X.env).map (·.2):=by rfl):FJ X (e::es) (DV t u):=by
 rintro pins s Z H vs us Q I r ⟨v,vr,e1,h⟩;subst e1
 cases r with
 | cons r rr=>
  rw [hs];refine assignInOrder_cons (c7 (h1 pins s Z H _ _ _ I r h) λ_ s1 zq0=>?_);obtain⟨Z3,H1,I1,q1⟩:=zq0;exact h2 pins s1 Z3 H1 _ _ Q I1 rr q1
def Er(K:Frag)(n:Nat)(t:Cg):TG:=λv Z H Q=>∃a xs,v=.ref a/\cM K H a xs/\xs.length=n/\t xs Z H Q
theorem ET{t:Cg}(hc:X.calm=true)(h:FJ X es t)
  (hn:(assignEach es X.env).length=n:=by rfl) (hst:(assignEach es X.env).findIdx? (·.1)=none:=by rfl):PG X (.Tuple es k pos) (Er X.K n t):=by
 rintro pins s Z H v u Q I r ⟨a,xs,e1,hq,hl,hw⟩;subst e1;cases r;obtain⟨its,rv,ht,hz⟩:=I.tuple hq;refine assign_Tuple_tuple (I.ok.hd hc) ht (by simp [hn,<-hl,rv.length]) hst λh' hx=>?_;have I1:aQ X pins Z H { s with heap:=h' }:=I.kept (t':=s.toks) λb o e=>hx b o (ad3 (ab9 e)) e;exact h pins _ Z H xs _ Q I1 (by simpa using rv) hw
def FZ(to ti:TE)(t:Ci):TG:=λv Z H Q=>to Z H λo H1=>ti Z H1 λi H2=>t o i v H2 λH3=>Q Z H3
theorem td{o i:Expr}{to ti:TE}{t:Ci}(ho:PE X o to)(hi:PE X i ti)(hs:Em X t)
  (ha:∀v,assign (.Subscript o i pos) X.env v=(do
   let ov <-holding [v] (eval o X.env)
   let iv <-holding [v,ov] (eval i X.env)
   standAt pos
   holding [v,ov,iv] (setItem ov iv v)
   release [v,ov,iv] []):=by intro _;rfl):PG X (.Subscript o i pos) (FZ to ti t):=by
 intro pins s Z H v u Q I r h;rw [ha];refine aa3 (ae6 (c7 (ho pins s Z H _ I h) λov s1 zq0=>?_));obtain⟨x,H1,I1,r1,q1⟩:=zq0;refine aa3 (ae6 (c7 (hi pins s1 Z H1 _ I1 q1) λiv s2 zq0=>?_));obtain⟨y,H2,I2,r2,q2⟩:=zq0;refine aa3 (an4 (aa3 (ae6 (c7 (hs pins s2 Z H2 x y v ov iv u _ I2 r1 r2 r q2) λ_ s3 zq0=>?_))));obtain⟨H3,I3,q3⟩:=zq0;exact wpAny_release ⟨Z,H3,I3,q3⟩
def wO(te:TE)(g:TG):TS:=λD Z H=>te Z H λx H1=>g x Z H1 D.nx
theorem mv(he:PE X e te)(hg:PG X tg g)(hs:swapsWithSole [tg] e pos.line X.env=pure false:=by rfl)(hw:swappedStores [tg] e X.env=pure none:=by rfl)
  (h1:(assignEach [tg] X.env).map (·.2)=[assign tg X.env]:=by rfl):PS X (.Assign [tg] e pos) (wO te g):=by
 intro pins s Z H D I h;refine wpAny_Assign_stores (c7 (he pins s Z H _ I h) λv s1 zq0=>?_) hs hw;obtain⟨x,H1,I1,r1,q1⟩:=zq0;rw [h1];exact c7 (hg pins s1 Z H1 x v _ I1 r1 q1) λ_ s2 q=>q
theorem tq(hN:X.N.Nodup)(hi:X.N[i]?=some x)(hx:Fx X.env.scope x)(he:PE X e te)(hs:swapsWith e (some (.Name x pos')) pos.line X.env=pure false:=by rfl)(hf:X.fn x=true\/X.env.scope.names.lookup x=some .local:=by first | exact .inl rfl | exact .inr rfl | assumption):
  PS X (.Assign [.Name x pos'] e pos) (wO te (iV i)):=by
 intro pins s Z H D I h;refine wpAny_Assign_Name (c7 (he pins s Z H _ I h) λv s1 zq0=>?_) hs;obtain⟨y,H1,I1,r1,q1⟩:=zq0;exact pV I1 hN hi hx r1 (λs2 I2=>⟨_,H1,I2,q1⟩) hf
def BG(i:Nat)(te:TE)(ti:Fz):TS:=λD Z H=>∃x,Z[i]?=some (some x)/\te Z H λy H1=>ti x y H1 λz H2=>D.nx (Z.set i (some z)) H2
theorem Bc{op:Operator}{ti:Fz}(hN:X.N.Nodup)(hi:X.N[i]?=some x)(hx:Fx X.env.scope x)(he:PE X e te)(ho:PIp X op ti)(hf:X.fn x=true\/X.env.scope.names.lookup x=some .local:=by first | exact .inl rfl | exact .inr rfl | assumption):
  PS X (.AugAssign (.Name x pos') op e pos) (BG i te ti):=by
 rintro pins s Z H D I ⟨v,e1,h⟩;obtain⟨m,hn,hl⟩:=I.loc
 have vis:GN X.env.scope x:=by rcases hx with k | k;exact .inl k;exact .inr (.inl k)
 obtain⟨u,r,l⟩:=hl i x v hi e1 vis;refine wpAny_AugAssign_Name ?_
 have go:wpAny (model X.prog X.w) X.A (eval e X.env) (λw Zw=>wpAny (model X.prog X.w) X.A (inplaceOp op u w) (λr Zm=>wpAny (model X.prog X.w) X.A (storeName X.env x r) (λ_=>SP X pins D .next) X.xe Zm) X.xe Zw) X.xe s:=by
  refine c7 (he pins s Z H _ I h) λw s1 zq0=>?_;obtain⟨y,H1,I1,r1,q1⟩:=zq0;refine c7 (ho pins s1 Z H1 v y u w _ I1 r r1 q1) λz s2 zq0=>?_;obtain⟨zv,H2,I2,r2,q2⟩:=zq0;exact pV I2 hN hi hx r2 (λs3 I3=>⟨_,H2,I3,q2⟩) hf
 rcases l with⟨hk,hm⟩ | ⟨hk,c,hc,hcell⟩
 ·exact wpAny_loadName_local I.ok.kind hk hn hm go
 ·rcases hk with hk | hk
  ·exact wpAny_loadName_cell I.ok.kind hk hc hcell go
  ·rcases hx with k | k
   ·have:X.env.scope.names.lookup x=some .free:=hk
    rw [k]at this;cases this
   ·have:X.env.scope.names.lookup x=some .free:=hk
    rw [k]at this;cases this
def Fo(c:TT)(tb:TS):TS:=λD Z H=>∃W:Nat->St->Hp->Prop,(∃m,W m Z H)/\∀m Z H,W m Z H->
 c Z H λb H1=>if b=true then ∃N:St->Hp->Prop,(∀Zc H',N Zc H'->∃m',m' < m/\W m' Zc H')/\tb { D with nx:=N,ct:=N,bk:=D.nx } Z H1 else D.nx Z H1
theorem Bd{tc:TT}(hp:PassesOwn (model X.prog X.w) X.A X.env X.xe)(hc:PT X c tc)(hb:w6 X body tb):PS X (.While c body [] pos) (Fo tc tb):=by
 rintro pins s Z H D I ⟨W,⟨m0,w0⟩,turn⟩;refine wpAny_While (codeAny_whileLoop (λn s'=>∃Zc H',aQ X pins Zc H' s'/\W n Zc H') ?_ m0 ⟨Z,H,I,w0⟩);rintro n s1 ⟨Z3,H1,I1,w1⟩;refine ah7 hp (c7 (hc pins s1 Z3 H1 _ I1 (turn n Z3 H1 w1)) λb s2 zq0=>?_);obtain⟨H2,I2,q2⟩:=zq0
 cases b with
 | true=>
  obtain⟨N,hN,q2⟩:=q2;rw [if_pos rfl];refine ah7 hp (c7 (hb pins s2 Z3 H2 _ I2 q2) λf s3 q3=>?_)
  cases f with
  | next=>
   obtain⟨Zp,H3,I3,n3⟩:=q3;obtain⟨m',hm,w3⟩:=hN Zp H3 n3;exact⟨m',hm,Zp,H3,I3,w3⟩
  | cont=>
   obtain⟨Zp,H3,I3,n3⟩:=q3;obtain⟨m',hm,w3⟩:=hN Zp H3 n3;exact⟨m',hm,Zp,H3,I3,w3⟩
  | brk=>exact q3
  | ret v=>exact q3
 | false=>
  rw [if_neg aa6];exact al7 ⟨Z3,H2,I2,q2⟩
structure It where
 go:Nat->Hp->Prop
 yld:Nat->Hp->V->Hp->Prop
 stop:Nat->Hp->Prop
def nj(X:Cx)(pins:List (Addr×Obj))(H:Hp)(b:Addr):Prop:=
 H b=none/\b≠X.env.locals/\b∉X.fs/\(b∈X.ex\/X.Zh.heap.objs.size<=b)/\(∀x c,X.env.cells.lookup x=some c->c≠b)/\∀p∈X.pn++pins,p.1≠b
theorem aQ.fpOk(I:aQ X pins Z H s)(hb:s.heap.objs.size<=b)(hn:H' b=none):nj X pins H' b:=by
 refine⟨hn,aj5 (ab2 I.lt hb),I.nofs hb,.inr (ab6 I.sz hb),λx c e z=>?_,λp hp z=>?_⟩
 ·obtain⟨v,q⟩:=I.cell x c e
  exact absurd (ab2 q.lt (by rw [z];exact hb)) (ag6 _)
 ·exact absurd (ab2 (ab9 (I.pin p hp).1) (by rw [z];exact hb)) (ag6 _)
structure r9(P:Program)(w:World)(K:Frag)(tg:Expr)(J:It)(fp:List Addr)(it:Addr)(tn:Nat->Heap->Prop):Prop where
 mem:it∈fp
 obj:∀i h,tn i h->∀b∈fp,∃o,h.get? b=some o/\∀v,o.data≠.cell v
 keep:∀i h h',tn i h->(∀b∈fp,∀o,h.get? b=some o->h'.get? b=some o)->tn i h'
 item:∀(X:Cx),X.prog=P->X.w=w->X.K=K->X.calm=true->∀(i:Nat) (pins:List (Addr×Obj)) (s:Shared) (Z:St) (H:Hp) (E:Value->Shared->Prop),aQ X pins Z H s->(∀b∈fp,nj X pins H b)->tn i s.heap->J.go i H->
  wpAny (model P w) X.A (pyNext (.ref it)) (λr s1=>∃u,r=some u/\
   wpAny (model P w) X.A (letOwnedTupleGo tg (.ref it) u) (λ_ s2=>∃x H',aQ X pins Z H' s2/\aX x u/\J.yld i H x H'/\tn (i+1) s2.heap/\∀b∈fp,H' b=none) E s1) E s
 done:∀(X:Cx),X.prog=P->X.w=w->X.K=K->X.calm=true->∀(i:Nat) (pins:List (Addr×Obj)) (s:Shared) (Z:St) (H:Hp) (E:Value->Shared->Prop),aQ X pins Z H s->(∀b∈fp,nj X pins H b)->tn i s.heap->J.stop i H->
  wpAny (model P w) X.A (pyNext (.ref it)) (λr s1=>r=none/\aQ X pins Z H s1) E s
 self:∀(A:Around) (i:Nat) (s:Shared) (Q:Value->Shared->Prop) (E:Value->Shared->Prop),tn i s.heap->Q (.ref it) s->wpAny (model P w) A (pyIter (.ref it)) Q E s
abbrev TI:=St->Hp->(It->Hp->Prop)->Prop
def FK(X:Cx)(pins:List (Addr×Obj))(Z:St)(tg:Expr)(R:It->Hp->Prop)(itv:Value)(s2:Shared):Prop:=
 ∃(it:Addr) (fp:List Addr) (tn:Nat->Heap->Prop) (J:It) (H':Hp),itv=.ref it/\aQ X pins Z H' s2/\r9 X.prog X.w X.K tg J fp it tn/\tn 0 s2.heap/\(∀b∈fp,nj X pins H' b)/\R J H'
def PI(X:Cx)(tg iter:Expr)(wi:TI):Prop:=
 ∀(pins:List (Addr×Obj)) (s:Shared) (Z:St) (H:Hp) (R:It->Hp->Prop),aQ X pins Z H s->wi Z H R->
  wpAny (model X.prog X.w) X.A (eval iter X.env) (λv s1=>wpAny (model X.prog X.w) X.A (pyIter v) (FK X pins Z tg R) X.xe s1) X.xe s
theorem t8{it:Addr}{o:Obj}{n:String}{vs:Array Value}{Q:Unit->Shared->Prop}(ho:s.heap.get? it=some o)(hc:o.cls=.type n)(hd:o.data=.fields vs)
  (hn:["enumerate","zip","dict_itemiterator","dict_reverseitemiterator","odict_iterator","itertools.zip_longest","itertools.pairwise"].contains n=false) (hQ:Q Unit.unit s):wpAny M A (letOwnedTupleGo tg (.ref it) u) Q E s:=by
 unfold letOwnedTupleGo
 cases tg<;>first
  | exact aa9 hQ
  | (cases u<;>first | exact aa9 hQ | (refine aa3 (wpAny_load ho ?_);rw [hc,hd];show wpAny M A (if (["enumerate","zip","dict_itemiterator","dict_reverseitemiterator","odict_iterator","itertools.zip_longest","itertools.pairwise"].contains n && vs[0]? == some (rawInt _))=true then _ else _) Q E s;rw [if_neg (by intro h;rw [hn,ah4]at h;cases h)];exact aa9 hQ))
def zA(K:Frag)(a:Addr):It:=
 ⟨λi H=>∃xs x,aH K H a xs/\xs[i]?=some x,λi H x H'=>H'=H/\∀xs,aH K H a xs->xs[i]?=some x,λi H=>∃xs,aH K H a xs/\xs.length<=i⟩
def DN(K:Frag)(a:Addr):It:=
 ⟨λi H=>∃xs x,cM K H a xs/\xs[i]?=some x,λi H x H'=>H'=H/\∀xs,cM K H a xs->xs[i]?=some x,λi H=>∃xs,cM K H a xs/\xs.length<=i⟩
def xX(lo:Int)(n:Nat):It:=⟨λi _=>i < n,λi H x H'=>H'=H/\x=.int (lo+i),λi _=>n<=i⟩
theorem zj(a it:Addr):r9 P w K tg (zA K a) [it] it (λi h=>h.IsListIter it a i) where
 mem:=by simp
 obj:=λi h st b hb=>by
  have e:b=it:=by simpa using hb
  subst e;obtain⟨o,e,c,d⟩:=st;exact⟨o,e,λv z=>by rw [d]at z;cases z⟩
 keep:=λi h h' st k=>st.at λo e=>k it (by simp) o e
 item:=by
  intro X hP hw hK hc i pins s Z H E I hf st hg;subst hP hw hK;obtain⟨xs,x,hq,hx⟩:=hg;obtain⟨its,rv,p,hz⟩:=I.list hq;obtain⟨u,hu,ru⟩:=rv.get hx;obtain⟨f0,f1,f2,f3,f4,f5⟩:=hf it (by simp);refine wpAny_pyNext_list_item st p.isList (x:=u) (by simpa using hu) λh' st' sb=>?_;have I1:aQ X pins Z H { s with heap:=h' }:=I.turned (t':=s.toks) (λb o hb e=>(sb.2 b hb).trans e) f0 f1 f3 f4 f5;obtain⟨o,e,c,d⟩:=id st';exact⟨u,rfl,t8 (s:={ s with heap:=h' }) e c d ∅ ⟨x,H,I1,ru,⟨rfl,λys hy=>by rw [I.list_inj hy hq];exact hx⟩,st',λb hb=>(hf b hb).1⟩⟩
 done:=by
  intro X hP hw hK hc i pins s Z H E I hf st hg;subst hP hw hK;obtain⟨xs,hq,hx⟩:=hg;obtain⟨its,rv,p,hz⟩:=I.list hq;obtain⟨f0,f1,f2,f3,f4,f5⟩:=hf it (by simp);have hl:=rv.length;exact wpAny_pyNext_list_end (I.ok.hd hc) st p.isList (by simp;omega) λh' eb=>⟨rfl,I.turned (t':=s.toks) (λb o hb e=>eb b o hb e) f0 f1 f3 f4 f5⟩
 self:=λ_ _ _ _ _ st h=>wpAny_pyIter_listiter st h
theorem wZ(a it:Addr):r9 P w K tg (DN K a) [it] it (λi h=>h.IsTupleIter it a i) where
 mem:=by simp
 obj:=λi h st b hb=>by
  have e:b=it:=by simpa using hb
  subst e;obtain⟨o,e,c,d⟩:=st;exact⟨o,e,λv z=>by rw [d]at z;cases z⟩
 keep:=λi h h' st k=>st.at λo e=>k it (by simp) o e
 item:=by
  intro X hP hw hK hc i pins s Z H E I hf st hg;subst hP hw hK;obtain⟨xs,x,hq,hx⟩:=hg;obtain⟨its,rv,p,hz⟩:=I.tuple hq;obtain⟨u,hu,ru⟩:=rv.get hx;obtain⟨f0,f1,f2,f3,f4,f5⟩:=hf it (by simp);refine wpAny_pyNext_tuple_item st (show s.heap.IsTuple a its.toArray from p) (x:=u) (by simpa using hu) λh' st' sb=>?_;have I1:aQ X pins Z H { s with heap:=h' }:=I.turned (t':=s.toks) (λb o hb e=>(sb.2 b hb).trans e) f0 f1 f3 f4 f5;obtain⟨o,e,c,d⟩:=id st';exact⟨u,rfl,t8 (s:={ s with heap:=h' }) e c d ∅ ⟨x,H,I1,ru,⟨rfl,λys hy=>by rw [I.tuple_inj hy hq];exact hx⟩,st',λb hb=>(hf b hb).1⟩⟩
 done:=by
  intro X hP hw hK hc i pins s Z H E I hf st hg;subst hP hw hK;obtain⟨xs,hq,hx⟩:=hg;obtain⟨its,rv,p,hz⟩:=I.tuple hq;obtain⟨f0,f1,f2,f3,f4,f5⟩:=hf it (by simp);have hl:=rv.length;exact wpAny_pyNext_tuple_end (I.ok.hd hc) st (show s.heap.IsTuple a its.toArray from p) (by simp;omega) λh' eb=>⟨rfl,I.turned (t':=s.toks) (λb o hb e=>eb b o hb e) f0 f1 f3 f4 f5⟩
 self:=λ_ _ _ _ _ st h=>wpAny_pyIter_tupleiter st h
theorem pW(it:Addr)(lo:Int)(n:Nat):r9 P w K tg (xX lo n) [it] it (λi h=>IsRangeIter h it (lo+(i:Nat) * 1) ((n:Int) - (i:Nat)) 1) where
 mem:=by simp
 obj:=λi h st b hb=>by
  have e:b=it:=by simpa using hb
  subst e
  exact⟨_,st,λv z=>by
   have z':Data.fields _=Data.cell v:=z
   cases z'⟩
 keep:=λi h h' st k=>k it (by simp) _ st
 item:=by
  intro X hP hw hK hc i pins s Z H E I hf st hg;subst hP hw hK;obtain⟨f0,f1,f2,f3,f4,f5⟩:=hf it (by simp);have W:=Walks.range (prog:=X.prog) (w:=X.w) (I.ok.hd hc) it lo 1 n;refine W.item i s _ _ hg st λv h' tk hv st' kk=>?_;obtain⟨t,rfl⟩:=hv;have I1:aQ X pins Z H { s with heap:=h',toks:=tk }:=I.turned (λb o hb e=>kk b o (by simpa using hb) e) f0 f1 f3 f4 f5;refine⟨_,rfl,t8 (s:={ s with heap:=h',toks:=tk }) (n:="range_iterator") st' rfl rfl ∅ ⟨.int (lo+i),H,I1,⟨t,?_⟩,⟨rfl,rfl⟩,st',λb hb=>(hf b hb).1⟩⟩;rw [Int.mul_one]
 done:=by
  intro X hP hw hK hc i pins s Z H E I hf st hg;subst hP hw hK;obtain⟨f0,f1,f2,f3,f4,f5⟩:=hf it (by simp);exact wpAny_pyNext_range_end (I.ok.hd hc) st (by have:n<=i:=hg;omega) λh' eb=>⟨rfl,I.turned (t':=s.toks) (λb o hb e=>eb b o hb e) f0 f1 f3 f4 f5⟩
 self:=λ_ _ _ _ _ st h=>wpAny_pyIter_rangeiter st h
theorem uR{R:It->Hp->Prop}{lo hi:Int}{t u v:Tok}{tk:Nat}(I:aQ X pins Z H s)(h1:-(2 ^ 62)<=lo)(h2:lo < 2 ^ 62)(h3:-(2 ^ 62)<=hi)(h4:hi < 2 ^ 62)
  (q:R (xX lo (hi - lo).toNat) H):wpAny (model X.prog X.w) X.A (pyIter (.ref s.heap.objs.size)) (FK X pins Z tg R) E { s with heap:=s.heap.push { cls:=.type "range",data:=.fields #[.int lo t,.int hi u,.int 1 v] },toks:=tk }:=by
 refine wpAny_pyIter_range (IsRange.new ..) (small_one h1 h2 h3 h4) ?_;have I1:aQ X pins Z H { s with heap:=s.heap.push { cls:=.type "range",data:=.fields #[.int lo t,.int hi u,.int 1 v] },toks:=tk }:=I.kept λb o e=>aa5 _ e
 refine⟨(s.heap.push { cls:=.type "range",data:=.fields #[.int lo t,.int hi u,.int 1 v] }).objs.size,[(s.heap.push { cls:=.type "range",data:=.fields #[.int lo t,.int hi u,.int 1 v] }).objs.size],_,_,H,rfl,
  I1.kept (t':=tk) λb o e=>aa5 _ e,pW _ lo (hi - lo).toNat,?_,λb hb=>?_,q⟩
 ·have e1:lo+((0:Nat):Int) * 1=lo:=by simp
  have e2:(((hi - lo).toNat:Nat):Int) - ((0:Nat):Int)=Builtin.Range.rangeSize lo hi 1:=by rw [rangeSize_one];split<;>omega
  show IsRangeIter _ _ (lo+((0:Nat):Int) * 1) ((((hi - lo).toNat:Nat):Int) - ((0:Nat):Int)) 1;rw [e1,e2];exact ab8 _ rfl
 ·have e:b=(s.heap.push { cls:=.type "range",data:=.fields #[.int lo t,.int hi u,.int 1 v] }).objs.size:=by simpa using hb
  subst e;exact I1.fpOk (aa8 _) (I1.hok.fresh (aa8 _))
def DW(ta:TA):TI:=λZ H R=>ta Z H λvs H1=>∃j:Int,vs=[.int j]/\-(2 ^ 62)<=j/\j < 2 ^ 62/\R (xX 0 j.toNat) H1
def DX(ta:TA):TI:=λZ H R=>ta Z H λvs H1=>∃i j:Int,vs=[.int i,.int j]/\(-(2 ^ 62)<=i/\i < 2 ^ 62/\-(2 ^ 62)<=j/\j < 2 ^ 62)/\R (xX i (j - i).toNat) H1
theorem cS{a:Expr}{ta:TA}(hg:Gl X "range")(hm:X.mg "range"=none)(ha:PA X [a] ta)(hs:starEach [a] X.env=[(false,eval a X.env)]:=by rfl):PI X tg (.Call (.Name "range" p) [a] [] pos) (DW ta):=by
 intro pins s Z H R I h;refine Call_ (gN I hg hm boot_range (PyProof.Rows.callWith_type1 (c7 (ha pos pins s Z H _ I h) λus s1 zq0=>?_) hs rfl));obtain⟨vs,H1,I1,r1,j,e,q1,q2,q⟩:=zq0;subst e
 cases r1 with
 | cons r rr=>
  cases rr;obtain⟨t,rfl⟩:=r;exact call_range_1 (uR I1 () () q1 q2 (by simpa using q))
theorem yY{a b:Expr}{ta:TA}(hg:Gl X "range")(hm:X.mg "range"=none)(ha:PA X [a,b] ta)(hs:starEach [a,b] X.env=[(false,eval a X.env),(false,eval b X.env)]:=by rfl)(hs2:starEach [b] X.env=[(false,eval b X.env)]:=by rfl):
  PI X tg (.Call (.Name "range" p) [a,b] [] pos) (DX ta):=by
 intro pins s Z H R I h;refine Call_ (gN I hg hm boot_range (PyProof.Rows.callWith_type1 (c7 (ha pos pins s Z H _ I h) λus s1 zq0=>?_) (by rw [hs,hs2]) (by rw [hs2];rfl)));obtain⟨vs,H1,I1,r1,i,j,e,⟨q1,q2,q3,q4⟩,q⟩:=zq0;subst e
 cases r1 with
 | cons r rr=>
  cases rr with
  | cons r' rr=>
   cases rr;obtain⟨t,rfl⟩:=r;obtain⟨t',rfl⟩:=r';exact call_range_2 (uR I1 q1 q2 q3 q4 q)
def GC(wi:TI)(g:TG)(tb:TS):TS:=λD Z H=>wi Z H λJ H1=>∃W:Nat->Nat->St->Hp->Prop,(∃m,W 0 m Z H1)/\∀i m Z H,W i m Z H->
 (J.stop i H/\D.nx Z H)\/(J.go i H/\∃N:St->Hp->Prop,(∀Zc H',N Zc H'->∃m',m' < m/\W (i+1) m' Zc H')/\∀x H',J.yld i H x H'->g x Z H' λZf H2=>tb { D with nx:=N,ct:=N,bk:=D.nx } Zf H2)
def tj(fp:List Addr)(h:Heap):List (Addr×Obj):=fp.filterMap λb=>(h.get? b).map λo=>(b,o)
theorem fb{o:Obj}(hb:b∈fp)(e:h.get? b=some o):(b,o)∈tj fp h:=List.mem_filterMap.mpr ⟨b,hb,by rw [e];rfl⟩
theorem yN{p:Addr×Obj}(hp:p∈tj fp h):p.1∈fp/\h.get? p.1=some p.2:=by
 obtain⟨b,hb,e⟩:=List.mem_filterMap.mp hp
 cases q:h.get? b with
 | none=>rw [q]at e;cases e
 | some o=>
  rw [q]at e;have e':(b,o)=p:=Option.some.inj e;subst e';exact⟨hb,q⟩
theorem aQ.pinned(I:aQ X pins Z H s)(hf:∀b∈fp,nj X pins H b)(ho:∀b∈fp,∃o,s.heap.get? b=some o/\∀v,o.data≠.cell v):aQ X (pins++tj fp s.heap) Z H s:=
 I.pins_of λp hp=>(ac8.mp hp).elim (λz=>I.pin p (ac9 _ z)) λz=>by
  obtain⟨hb,e⟩:=yN z;obtain⟨f0,f1,f2,_⟩:=hf p.1 hb;obtain⟨o,e',d⟩:=ho p.1 hb;rw [e]at e';cases e';exact⟨e,f0,f1,f2,d⟩
theorem aQ.unpinned{pl:List (Addr×Obj)}(I:aQ X (pins++pl) Z H s):aQ X pins Z H s:=I.pins_of λp hp=>I.pin p (ac9 _ (ah8 _ hp))
theorem cJ{iter:Expr}{wi:TI}(hp:PassesOwn (model X.prog X.w) X.A X.env X.xe)(hc:X.calm=true)(hi:PI X tg iter wi)(hg:PG X tg g)(hb:w6 X body tb)
  (hs:∀x,foldedSetIterable iter X.env x=pure x:=by intro _;rfl):PS X (.For tg iter body [] pos) (GC wi g tb):=by
 intro pins s Z H D I h;refine wpAny_For (c7 (hi pins s Z H _ I h) λv s1 h1=>c7 h1 λitv s2 h2=>?_) hs;obtain⟨it,fp,tn,J,H2,e,I2,T,st2,f2,W,⟨m0,w0⟩,turn⟩:=h2;subst e;have stat:∀{H':Hp},(∀b∈fp,H' b=none)->∀b∈fp,nj X pins H' b:=λhn b hb=>⟨hn b hb,(f2 b hb).2⟩;refine codeAny_forLoop_any (λn s'=>∃i Zc H',aQ X pins Zc H' s'/\tn i s'.heap/\(∀b∈fp,H' b=none)/\W i n Zc H') ?_ m0 ⟨0,Z,H2,I2,st2,λb hb=>(f2 b hb).1,w0⟩;rintro n s3 ⟨i,Zp,H3,I3,st3,fr3,w3⟩;rcases turn i n Zp H3 w3 with⟨stop,qn⟩ | ⟨go,N,hN,step⟩
 ·refine ah7 hp (c7 (T.done X rfl rfl rfl hc i pins s3 Zp H3 X.xe I3 (stat fr3) st3 stop) λr s4 zq0=>?_)
  obtain⟨hr,I4⟩:=zq0;subst hr;exact al7 ⟨Zp,H3,I4,qn⟩
 ·refine ah7 hp (c7 (T.item X rfl rfl rfl hc i pins s3 Zp H3 X.xe I3 (stat fr3) st3 go) λr s4 zq0=>?_)
  obtain⟨u,hr,h4⟩:=zq0;subst hr;refine ah7 hp (c7 h4 λ_ s5 zq0=>?_);obtain⟨x,H5,I5,r5,y5,st5,fr5⟩:=zq0;have I5':=I5.pinned (stat fr5) (T.obj _ _ st5);refine ah7 hp (c7 (hg _ s5 Zp H5 x u _ I5' r5 (step x H5 y5)) λ_ s6 zq0=>?_);obtain⟨Zz,H6,I6,q6⟩:=zq0;refine ah7 hp (c7 (hb _ s6 Zz H6 _ I6 q6) λf s7 q7=>?_)
  have again:∀{Zq:St} {H7:Hp},aQ X (pins++tj fp s5.heap) Zq H7 s7->N Zq H7->∃m,m < n/\∃i Zc H',aQ X pins Zc H' s7/\tn i s7.heap/\(∀b∈fp,H' b=none)/\W i m Zc H':=λ{Zq H7} I7 n7=>by
   obtain⟨m',hm,w7⟩:=hN Zq H7 n7;refine⟨m',hm,i+1,Zq,H7,I7.unpinned,T.keep _ _ _ st5 λb hb o e=>(I7.pin (b,o) (ac9 _ (ac9 _ (fb hb e)))).1,λb hb=>?_,w7⟩;obtain⟨o,e,d⟩:=T.obj _ _ st5 b hb;exact(I7.pin (b,o) (ac9 _ (ac9 _ (fb hb e)))).2.1
  cases f with
  | next=>obtain⟨Zq,H7,I7,n7⟩:=q7;exact again I7 n7
  | cont=>obtain⟨Zq,H7,I7,n7⟩:=q7;exact again I7 n7
  | brk=>obtain⟨Zq,H7,I7,q7⟩:=q7;exact⟨Zq,H7,I7.unpinned,q7⟩
  | ret v=>obtain⟨x7,Zq,H7,I7,r7,q7⟩:=q7;exact⟨x7,Zq,H7,I7.unpinned,r7,q7⟩
theorem z7(Pv:Nat->St->Hp->Prop)(h0:Pv 0 Z H)(hl:∀i Z H,i<=xs.length->Pv i Z H->aH K H a xs)
  (hs:∀i x Z H,xs[i]?=some x->Pv i Z H->g x Z H λZf H2=>tb { D with nx:=Pv (i+1),ct:=Pv (i+1),bk:=D.nx } Zf H2) (hd:∀Z H,Pv xs.length Z H->D.nx Z H) :
  ∃W:Nat->Nat->St->Hp->Prop,(∃m,W 0 m Z H)/\∀i m Z H,W i m Z H->
   ((zA K a).stop i H/\D.nx Z H)\/((zA K a).go i H/\∃N:St->Hp->Prop,(∀Zc H',N Zc H'->∃m',m' < m/\W (i+1) m' Zc H')/\∀x H',(zA K a).yld i H x H'->g x Z H' λZf H2=>tb { D with nx:=N,ct:=N,bk:=D.nx } Zf H2):=by
 refine⟨λi m Z H=>m=xs.length - i/\i<=xs.length/\Pv i Z H,⟨xs.length,by simp,ac2 _,h0⟩,?_⟩;rintro i m Z H ⟨rfl,hi,p⟩;have q:=hl i Z H hi p
 by_cases hlt:i < xs.length
 ·refine .inr ⟨⟨xs,xs[i],q,by simp [hlt]⟩,Pv (i+1),λZc H' p'=>⟨xs.length - (i+1),(),rfl,hlt,p'⟩,λx H' y=>?_⟩
  obtain⟨e,y⟩:=y;subst e;exact hs i x Z _ (y xs q) p
 ·have e:i=xs.length:=by omega
  subst e;exact .inl ⟨⟨xs,q,aa8 _⟩,hd Z H p⟩
theorem CC(Pv:Nat->St->Hp->Prop)(h0:Pv 0 Z H)(hl:∀i Z H,i<=xs.length->Pv i Z H->cM K H a xs)
  (hs:∀i x Z H,xs[i]?=some x->Pv i Z H->g x Z H λZf H2=>tb { D with nx:=Pv (i+1),ct:=Pv (i+1),bk:=D.nx } Zf H2) (hd:∀Z H,Pv xs.length Z H->D.nx Z H) :
  ∃W:Nat->Nat->St->Hp->Prop,(∃m,W 0 m Z H)/\∀i m Z H,W i m Z H->
   ((DN K a).stop i H/\D.nx Z H)\/((DN K a).go i H/\∃N:St->Hp->Prop,(∀Zc H',N Zc H'->∃m',m' < m/\W (i+1) m' Zc H')/\∀x H',(DN K a).yld i H x H'->g x Z H' λZf H2=>tb { D with nx:=N,ct:=N,bk:=D.nx } Zf H2):=by
 refine⟨λi m Z H=>m=xs.length - i/\i<=xs.length/\Pv i Z H,⟨xs.length,by simp,ac2 _,h0⟩,?_⟩;rintro i m Z H ⟨rfl,hi,p⟩;have q:=hl i Z H hi p
 by_cases hlt:i < xs.length
 ·refine .inr ⟨⟨xs,xs[i],q,by simp [hlt]⟩,Pv (i+1),λZc H' p'=>⟨xs.length - (i+1),(),rfl,hlt,p'⟩,λx H' y=>?_⟩
  obtain⟨e,y⟩:=y;subst e;exact hs i x Z _ (y xs q) p
 ·have e:i=xs.length:=by omega
  subst e;exact .inl ⟨⟨xs,q,aa8 _⟩,hd Z H p⟩
theorem yz{lo:Int}(Pv:Nat->St->Hp->Prop)(h0:Pv 0 Z H)
  (hs:∀i Z H,i < n->Pv i Z H->g (.int (lo+i)) Z H λZf H2=>tb { D with nx:=Pv (i+1),ct:=Pv (i+1),bk:=D.nx } Zf H2) (hd:∀Z H,Pv n Z H->D.nx Z H) :
  ∃W:Nat->Nat->St->Hp->Prop,(∃m,W 0 m Z H)/\∀i m Z H,W i m Z H->
   ((xX lo n).stop i H/\D.nx Z H)\/((xX lo n).go i H/\∃N:St->Hp->Prop,(∀Zc H',N Zc H'->∃m',m' < m/\W (i+1) m' Zc H')/\∀x H',(xX lo n).yld i H x H'->g x Z H' λZf H2=>tb { D with nx:=N,ct:=N,bk:=D.nx } Zf H2):=by
 refine⟨λi m Z H=>m=n - i/\i<=n/\Pv i Z H,⟨n,by simp,ac2 _,h0⟩,?_⟩;rintro i m Z H ⟨rfl,hi,p⟩
 by_cases hlt:i < n
 ·refine .inr ⟨hlt,Pv (i+1),λZc H' p'=>⟨n - (i+1),(),rfl,hlt,p'⟩,λx H' y=>?_⟩
  obtain⟨e,y⟩:=y;subst e y;exact hs i Z _ hlt p
 ·have e:i=n:=by omega
  subst e;exact .inl ⟨aa8 _,hd Z H p⟩
abbrev R2:=V->V->Hp->VK->Prop
def dY(X:Cx)(f:Value->Value->Sem Value)(r:R2):Prop:=
 ∀(pins:List (Addr×Obj)) (s:Shared) (Z:St) (H:Hp) (x y:V) (v u:Value) (Q:VK),aQ X pins Z H s->aX x v->aX y u->r x y H Q->
  wpAny (model X.prog X.w) X.A (f v u) (EP X pins Z Q) X.xe s
def FO(X:Cx)(f:Value->Sem Value)(r:V->Hp->VK->Prop):Prop:=
 ∀(pins:List (Addr×Obj)) (s:Shared) (Z:St) (H:Hp) (x:V) (v:Value) (Q:VK),aQ X pins Z H s->aX x v->r x H Q->
  wpAny (model X.prog X.w) X.A (f v) (EP X pins Z Q) X.xe s
def cO(X:Cx)(f:Value)(r:List V->Hp->VK->Prop):Prop:=
 ∀(pins:List (Addr×Obj)) (s:Shared) (Z:St) (H:Hp) (xs:List V) (us:List Value) (Q:VK),aQ X pins Z H s->bh xs us->r xs H Q->
  wpAny (model X.prog X.w) X.A (call f us) (EP X pins Z Q) X.xe s
def Hd(X:Cx)(r:V->Hp->(Bool->Hp->Prop)->Prop):Prop:=
 ∀(pins:List (Addr×Obj)) (s:Shared) (Z:St) (H:Hp) (x:V) (v:Value) (Q:Bool->Hp->Prop),aQ X pins Z H s->aX x v->r x H Q->
  wpAny (model X.prog X.w) X.A (truthy v) (TP X pins Z Q) X.xe s
def Fi(r:R2)(ta tb:TE):TE:=λZ H Q=>ta Z H λx H1=>tb Z H1 λy H2=>r x y H2 Q
def HC(r:V->Hp->VK->Prop)(ta:TE):TE:=λZ H Q=>ta Z H λx H1=>r x H1 Q
def rI(C:Int->Int->Prop)(g:Int->Int->V):R2:=λx y H Q=>∃i j,x=.int i/\y=.int j/\C i j/\Q (g i j) H
def vq(g:Int->Int->V):R2:=λx y H Q=>∃i j,x=.int i/\y=.int j/\Q (g i j) H
def rU(g:Int->V):V->Hp->VK->Prop:=λx H Q=>∃i,x=.int i/\Q (g i) H
section
variable {a b:Expr} {tb tc:TE}
theorem Cm(ha:PE X a ta)(hb:PE X b tb)(I:aQ X pins Z H s)
  (h:ta Z H λx H1=>tb Z H1 λy H2=>R x y H2) {Q:Value->Shared->Prop} {f:Value->Value->Sem Value}
  (hf:∀v u s2 x y H2,aQ X pins Z H2 s2->aX x v->aX y u->R x y H2->wpAny (model X.prog X.w) X.A (f v u) Q X.xe s2) :
  wpAny (model X.prog X.w) X.A (eval a X.env) (λv Zg=>wpAny (model X.prog X.w) X.A (eval b X.env) (λu Zw=>wpAny (model X.prog X.w) X.A (f v u) Q X.xe Zw) X.xe Zg) X.xe s:=by
 refine c7 (ha pins s Z H _ I h) λv s1 zq0=>?_;obtain⟨x,H1,I1,r1,q1⟩:=zq0;refine c7 (hb pins s1 Z H1 _ I1 q1) λu s2 zq0=>?_;obtain⟨y,H2,I2,r2,q2⟩:=zq0;exact hf v u s2 x y H2 I2 r1 r2 q2
theorem ao{op:Operator}{r:R2}(ho:dY X (binaryOp op) r)(ha:PE X a ta)(hb:PE X b tb):PE X (.BinOp a op b pos) (Fi r ta tb):=by
 intro pins s Z H Q I h;exact wpAny_BinOp (Cm ha hb I h λv u s2 x y H2 I2 rx ry q=>ho pins s2 Z H2 x y v u Q I2 rx ry q)
theorem j6{op:UnaryOp}{r:V->Hp->VK->Prop}(ho:FO X (unaryOp op) r)(ha:PE X a ta):PE X (.UnaryOp op a pos) (HC r ta):=by
 intro pins s Z H Q I h;exact UnaryOp_ (c7 (ha pins s Z H _ I h) λv s1 ⟨x,H1,I1,r1,q1⟩=>ho pins s1 Z H1 x v Q I1 r1 q1)
theorem Gh{f:Value->Value->Sem Value}{C:Int->Int->Prop}{g:Int->Int->Int}
  (rule:∀(i j:Int) (t u:Tok) (s:Shared) (Q:Value->Shared->Prop) (E:Value->Shared->Prop),C i j->Q (.int (g i j) s.toks) { s with toks:=s.toks+1 }->wpAny (model X.prog X.w) X.A (f (.int i t) (.int j u)) Q E s) :
  dY X f (rI C λi j=>.int (g i j)):=by
 rintro pins s Z H x y v u Q I rx ry ⟨i,j,rfl,rfl,hc,q⟩;obtain⟨t,rfl⟩:=rx;obtain⟨t',rfl⟩:=ry;exact rule i j t t' s _ _ hc ⟨.int (g i j),H,I.tok _,⟨_,rfl⟩,q⟩
theorem Gi{f:Value->Value->Sem Value}{g:Int->Int->Int}
  (rule:∀(i j:Int) (t u:Tok) (s:Shared) (Q:Value->Shared->Prop) (E:Value->Shared->Prop),Q (.int (g i j) s.toks) { s with toks:=s.toks+1 }->wpAny (model X.prog X.w) X.A (f (.int i t) (.int j u)) Q E s) :
  dY X f (vq λi j=>.int (g i j)):=by
 rintro pins s Z H x y v u Q I rx ry ⟨i,j,rfl,rfl,q⟩;obtain⟨t,rfl⟩:=rx;obtain⟨t',rfl⟩:=ry;exact rule i j t t' s _ _ ⟨.int (g i j),H,I.tok _,⟨_,rfl⟩,q⟩
theorem C9{f:Value->Value->Sem Value}{g:Int->Int->Bool}
  (rule:∀(i j:Int) (t u:Tok) (s:Shared) (Q:Value->Shared->Prop) (E:Value->Shared->Prop),Q (.bool (g i j)) s->wpAny (model X.prog X.w) X.A (f (.int i t) (.int j u)) Q E s) :
  dY X f (vq λi j=>.bl (g i j)):=by
 rintro pins s Z H x y v u Q I rx ry ⟨i,j,rfl,rfl,q⟩;obtain⟨t,rfl⟩:=rx;obtain⟨t',rfl⟩:=ry;exact rule i j t t' s _ _ ⟨.bl (g i j),H,I,rfl,q⟩
def G3(i j:Int):Prop:=0 < j/\j < 1073741824
def G4(i j:Int):Prop:=0<=j/\j<=1000000/\i.natAbs < 2 ^ 64
theorem op_add:dY X (binaryOp .Add) (vq λi j=>.int (i+j)):=Gi λ_ _ _ _ _ _ _ q=>add_int q
theorem bC:dY X (binaryOp .Sub) (vq λi j=>.int (i - j)):=Gi λ_ _ _ _ _ _ _ q=>sub_int q
theorem cu:dY X (binaryOp .FloorDiv) (rI G3 λi j=>.int (i / j)):=Gh λi j _ _ _ _ _ hc q=>by
 have h1:(0:Int) < j:=hc.1;have h2:j < 1073741824:=hc.2;exact floordiv_int () (by rw [Int.fdiv_eq_ediv_of_nonneg i ()];exact q) (.inl (PyProof.noPylong_small ()))
theorem aP:dY X (binaryOp .Mod) (rI (λ_ j=>0 < j) λi j=>.int (i % j)):=Gh λi j _ _ _ _ _ hc q=>by
 have h1:(0:Int) < j:=hc;exact mod_int' () (by rw [Int.fmod_eq_emod_of_nonneg i ()];exact q)
theorem sX:dY X (binaryOp .Pow) (rI G4 λi j=>.int (i ^ j.toNat)):=Gh λ_ _ _ _ _ _ _ hc q=>pow_int_small hc.1 hc.2.1 hc.2.2 q
theorem unI{f:Value->Sem Value}{g:Int->Int}
  (rule:∀(i:Int) (t:Tok) (s:Shared) (Q:Value->Shared->Prop) (E:Value->Shared->Prop),Q (.int (g i) s.toks) { s with toks:=s.toks+1 }->wpAny (model X.prog X.w) X.A (f (.int i t)) Q E s) :
  FO X f (rU λi=>.int (g i)):=by
 rintro pins s Z H x v Q I rx ⟨i,rfl,q⟩;obtain⟨t,rfl⟩:=rx;exact rule i t s _ _ ⟨.int (g i),H,I.tok _,⟨_,rfl⟩,q⟩
theorem g9:FO X (unaryOp .USub) (rU λi=>.int (-i)):=unI λ_ _ _ _ _ q=>neg_int q
end
def u6:V->V->Bool
 | .non,.non=>true | .non,.int _=>true | .int _,.non=>true | .non,.bl _=>true | .bl _,.non=>true | .non,.str _=>true | .str _,.non=>true
 | .int _,.int _=>true | .bl _,.bl _=>true | .str _,.str _=>true | .byt _,.byt _=>true
 | .int _,.str _=>true | .str _,.int _=>true | .bl _,.str _=>true | .str _,.bl _=>true
 | _,_=>false
def tu:R2:=λx y H Q=>u6 x y=true/\Q (.bl (decide (x=y))) H
def vZ:R2:=λx y H Q=>u6 x y=true/\Q (.bl (!decide (x=y))) H
theorem xf{i j:Int}:decide (V.int i=V.int j)=(i == j):=by
 rw [af4];simp
theorem zO{i j:Bool}:decide (V.bl i=V.bl j)=(i == j):=by
 rw [af4];simp
theorem xg{i j:Str}:decide (V.str i=V.str j)=(i == j):=by
 rw [af4];simp
theorem xc{i j:Array UInt8}:decide (V.byt i=V.byt j)=(i.toList == j.toList):=by
 rw [af4];cases i;cases j;simp
section
variable {a b:Expr} {tb tc:TE}
theorem bA{Q:VK}{k k':Bool}(I:aQ X pins Z H s)(q:Q (.bl k) H)(e:k=k'):EP X pins Z Q (.bool k') s:=by
 subst e;exact⟨.bl k,H,I,rfl,q⟩
theorem Gj:dY X (compareOp .Eq) tu:=by
 rintro pins s Z H x y v u Q I rx ry ⟨hs,q⟩
 cases x with
 | non=>
  cases rx
  cases y with
  | non=>cases ry;exact PySem.EqNone.eq_none_none (bA I q (by simp))
  | bl j=>cases ry;exact PySem.EqNone.eq_none_bool (bA I q (by simp))
  | int j=>obtain⟨t',rfl⟩:=ry;exact PySem.EqNone.eq_none_int (bA I q (by simp))
  | str j=>obtain⟨t',rfl⟩:=ry;exact PySem.EqNone.eq_none_str (bA I q (by simp))
  | _=>exact absurd (show false=true from hs) aa6
 | bl i=>
  cases rx
  cases y with
  | non=>cases ry;exact PySem.EqNone.eq_bool_none (bA I q (by simp))
  | bl j=>cases ry;exact eq_bool (bA I q zO)
  | str j=>obtain⟨t',rfl⟩:=ry;exact PySem.EqMixed.eq_bool_str (bA I q (by simp))
  | _=>exact absurd (show false=true from hs) aa6
 | int i=>
  obtain⟨t,rfl⟩:=rx
  cases y with
  | non=>cases ry;exact PySem.EqNone.eq_int_none (bA I q (by simp))
  | int j=>obtain⟨t',rfl⟩:=ry;exact eq_int (bA I q xf)
  | str j=>obtain⟨t',rfl⟩:=ry;exact PySem.EqMixed.eq_int_str (bA I q (by simp))
  | _=>exact absurd (show false=true from hs) aa6
 | str i=>
  obtain⟨t,rfl⟩:=rx
  cases y with
  | non=>cases ry;exact PySem.EqNone.eq_str_none (bA I q (by simp))
  | bl j=>cases ry;exact PySem.EqMixed.eq_str_bool (bA I q (by simp))
  | int j=>obtain⟨t',rfl⟩:=ry;exact PySem.EqMixed.eq_str_int (bA I q (by simp))
  | str j=>obtain⟨t',rfl⟩:=ry;exact eq_str (bA I q xg)
  | _=>exact absurd (show false=true from hs) aa6
 | byt i=>
  obtain⟨t,rfl⟩:=rx
  cases y with
  | byt j=>obtain⟨t',rfl⟩:=ry;exact PySem.W.eq_bytes (bA I q xc)
  | _=>exact absurd (show false=true from hs) aa6
 | _=>cases y<;>exact absurd (show false=true from hs) aa6
theorem Gm:dY X (compareOp .NotEq) vZ:=by
 rintro pins s Z H x y v u Q I rx ry ⟨hs,q⟩
 cases x with
 | non=>
  cases rx
  cases y with
  | non=>cases ry;exact PySem.EqNone.ne_none_none (bA I q (by simp))
  | bl j=>cases ry;exact PySem.EqNone.ne_none_bool (bA I q (by simp))
  | int j=>obtain⟨t',rfl⟩:=ry;exact PySem.EqNone.ne_none_int (bA I q (by simp))
  | str j=>obtain⟨t',rfl⟩:=ry;exact PySem.EqNone.ne_none_str (bA I q (by simp))
  | _=>exact absurd (show false=true from hs) aa6
 | bl i=>
  cases rx
  cases y with
  | non=>cases ry;exact PySem.EqNone.ne_bool_none (bA I q (by simp))
  | bl j=>cases ry;exact ne_bool (bA I q (congrArg not zO))
  | str j=>obtain⟨t',rfl⟩:=ry;exact PySem.EqMixed.ne_bool_str (bA I q (by simp))
  | _=>exact absurd (show false=true from hs) aa6
 | int i=>
  obtain⟨t,rfl⟩:=rx
  cases y with
  | non=>cases ry;exact PySem.EqNone.ne_int_none (bA I q (by simp))
  | int j=>obtain⟨t',rfl⟩:=ry;exact ne_int (bA I q (congrArg not xf))
  | str j=>obtain⟨t',rfl⟩:=ry;exact PySem.EqMixed.ne_int_str (bA I q (by simp))
  | _=>exact absurd (show false=true from hs) aa6
 | str i=>
  obtain⟨t,rfl⟩:=rx
  cases y with
  | non=>cases ry;exact PySem.EqNone.ne_str_none (bA I q (by simp))
  | bl j=>cases ry;exact PySem.EqMixed.ne_str_bool (bA I q (by simp))
  | int j=>obtain⟨t',rfl⟩:=ry;exact PySem.EqMixed.ne_str_int (bA I q (by simp))
  | str j=>obtain⟨t',rfl⟩:=ry;exact ne_str (bA I q (congrArg not xg))
  | _=>exact absurd (show false=true from hs) aa6
 | byt i=>
  obtain⟨t,rfl⟩:=rx
  cases y with
  | byt j=>obtain⟨t',rfl⟩:=ry;exact PySem.W.ne_bytes (bA I q (congrArg not xc))
  | _=>exact absurd (show false=true from hs) aa6
 | _=>cases y<;>exact absurd (show false=true from hs) aa6
theorem Gk:dY X (compareOp .Lt) (vq λi j=>.bl (decide (i < j))):=C9 λ_ _ _ _ _ _ _ q=>lt_int q
theorem ic:dY X (compareOp .LtE) (vq λi j=>.bl (decide (i<=j))):=C9 λ_ _ _ _ _ _ _ q=>le_int q
theorem ib:dY X (compareOp .Gt) (vq λi j=>.bl (decide (j < i))):=C9 λ_ _ _ _ _ _ _ q=>gt_int q
theorem xt:dY X (compareOp .GtE) (vq λi j=>.bl (decide (j<=i))):=C9 λ_ _ _ _ _ _ _ q=>ge_int q
theorem op_in_str:dY X (compareOp .In) (λx y H Q=>∃i j,x=.str i/\y=.str j/\Q (.bl (!(Builtin.Str.occurrences j i 0 j.length 1).isEmpty)) H):=by
 rintro pins s Z H x y v u Q I rx ry ⟨i,j,rfl,rfl,q⟩;obtain⟨t,rfl⟩:=rx;obtain⟨t',rfl⟩:=ry;exact in_str (bA I q rfl)
theorem fL:dY X (compareOp .Is) (λx y H Q=>y=.non/\Q (.bl (decide (x=.non))) H):=by
 rintro pins s Z H x y v u Q I rx ry ⟨rfl,q⟩;cases ry;refine is_none_gen (bA I q ?_)
 cases x<;>first
  | (cases rx;rfl)
  | (obtain⟨t,rfl⟩:=rx;rfl)
theorem jQ:dY X (compareOp .IsNot) (λx y H Q=>y=.non/\Q (.bl (!decide (x=.non))) H):=by
 rintro pins s Z H x y v u Q I rx ry ⟨rfl,q⟩;cases ry;refine isnot_none_gen (bA I q ?_)
 cases x<;>first
  | (cases rx;rfl)
  | (obtain⟨t,rfl⟩:=rx;rfl)
theorem op_notin_str:dY X (compareOp .NotIn) (λx y H Q=>∃i j,x=.str i/\y=.str j/\Q (.bl (!(!(Builtin.Str.occurrences j i 0 j.length 1).isEmpty))) H):=by
 rintro pins s Z H x y v u Q I rx ry ⟨i,j,rfl,rfl,q⟩;obtain⟨t,rfl⟩:=rx;obtain⟨t',rfl⟩:=ry;exact notIn_str (bA I q rfl)
theorem dY.or{f:Value->Value->Sem Value}{r r':R2}(h:dY X f r)(h':dY X f r'):dY X f (λx y H Q=>r x y H Q\/r' x y H Q):=by
 intro pins s Z H x y v u Q I rx ry q;rcases q with q | q
 ·exact h pins s Z H x y v u Q I rx ry q
 ·exact h' pins s Z H x y v u Q I rx ry q
theorem az(b:Expr)(h:op≠.In:=by decide)(h2:op≠.NotIn:=by decide):behindInMarks op b=false:=by
 have e1:(op == CmpOp.In)=false:=by cases op<;>first | rfl | exact absurd rfl h
 have e2:(op == CmpOp.NotIn)=false:=by cases op<;>first | rfl | exact absurd rfl h2
 cases b<;>simp [behindInMarks,e1,e2]
theorem aT{r:R2}(ho:dY X (compareOp op) r)(ha:PE X a ta)(hb:PE X b tb)(hm:behindInMarks op b=false):PE X (.Compare a [op] [b] pos) (Fi r ta tb):=by
 intro pins s Z H Q I h;exact wpAny_Compare1 (Cm ha hb I h λv u s2 x y H2 I2 rx ry q=>ho pins s2 Z H2 x y v u Q I2 rx ry q) hm
def rS(t:TE):TT:=λZ H Q=>t Z H λx H'=>∃k,x=.bl k/\Q k H'
theorem ay{r:R2}(ho:dY X (compareOp op) r)(ha:PE X a ta)(hb:PE X b tb)(hm:behindInMarks op b=false):PT X (.Compare a [op] [b] pos) (rS (Fi r ta tb)):=by
 intro pins s Z H Q I h
 refine wpAny_isTrue_Compare1 (c7 (ha pins s Z H _ I h) λv s1 ⟨x,H1,I1,r1,q1⟩=>c7 (hb pins s1 Z H1 _ I1 q1) λu s2 ⟨y,H2,I2,r2,q2⟩=>
  c7 (ho pins s2 Z H2 x y v u _ I2 r1 r2 q2) λc s3 ⟨z,H3,I3,r3,k,e,q3⟩=>?_) hm
 subst e;cases r3;exact ae2 ⟨H3,I3,q3⟩
def wQ(r r':R2)(ta tb tc:TE):TE:=λZ H Q=>ta Z H λx H1=>tb Z H1 λy H2=>r x y H2 λz H3=>∃k,z=.bl k/\
 (if k=true then tc Z H3 λw' H4=>r' y w' H4 Q else Q (.bl false) H3)
theorem uJ{op':CmpOp}{r r':R2}(ho:dY X (compareOp op) r)(ho':dY X (compareOp op') r')(ha:PE X a ta)(hb:PE X b tb)(hc:PE X c tc)
  (hm:lastMarks [op,op'] [b,c]=false:=by with_unfolding_all rfl):PE X (.Compare a [op,op'] [b,c] pos) (wQ r r' ta tb tc):=by
 intro pins s Z H Q I h
 refine Compare_chain (c7 (ha pins s Z H _ I h) λv s1 ⟨x,H1,I1,r1,q1⟩=>chain_link (c7 (hb pins s1 Z H1 _ I1 q1) λu s2 ⟨y,H2,I2,r2,q2⟩=>
  c7 (ho pins s2 Z H2 x y v u _ I2 r1 r2 q2) λd s3 ⟨z,H3,I3,r3,k,e,q3⟩=>?_)) hm
 subst e;cases r3;refine ae2 ?_
 cases k with
 | false=>exact ite_ff ⟨.bl false,H3,I3,rfl,q3⟩
 | true=>exact ite_tt (chain_last (c7 (hc pins s3 Z H3 _ I3 q3) λw' s4 ⟨z',H4,I4,r4,q4⟩=>ho' pins s4 Z H4 y z' u w' Q I4 r2 r4 q4))
theorem oX{op':CmpOp}{r r':R2}(ho:dY X (compareOp op) r)(ho':dY X (compareOp op') r')(ha:PE X a ta)(hb:PE X b tb)(hc:PE X c tc)
  (hm:lastMarks [op,op'] [b,c]=false:=by with_unfolding_all rfl):PT X (.Compare a [op,op'] [b,c] pos) (rS (wQ r r' ta tb tc)):=by
 intro pins s Z H Q I h
 refine isTrue_chain (c7 (ha pins s Z H _ I h) λv s1 ⟨x,H1,I1,r1,q1⟩=>test_link (c7 (hb pins s1 Z H1 _ I1 q1) λu s2 ⟨y,H2,I2,r2,q2⟩=>
  c7 (ho pins s2 Z H2 x y v u _ I2 r1 r2 q2) λd s3 ⟨z,H3,I3,r3,k,e,q3⟩=>?_)) hm
 subst e;cases r3;refine ae2 ?_
 cases k with
 | false=>
  obtain⟨k',e',q'⟩:=q3;cases e';exact ite_ff ⟨H3,I3,q'⟩
 | true=>
  refine ite_tt (test_last (c7 (hc pins s3 Z H3 _ I3 q3) λw' s4 ⟨z',H4,I4,r4,q4⟩=>c7 (ho' pins s4 Z H4 y z' u w' _ I4 r2 r4 q4) λd' s5 zq0=>?_));obtain⟨z2,H5,I5,r5,k2,e2,q5⟩:=zq0;subst e2;cases r5;exact ae2 ⟨H5,I5,q5⟩
def Cj(K:Frag)(x:V)(H:Hp)(k:Bool):Prop:=
 match x with
 | .non=>k=false
 | .bl b=>k=b
 | .int i=>k=(i != 0)
 | .str y=>y.length<=sizeLine/\k=((y.length:Int) != 0)
 | .byt y=>y.size<=sizeLine/\k=((y.size:Int) != 0)
 | .ref p=>(∃xs,aH K H p xs/\k=!xs.isEmpty)\/(∃xs,cM K H p xs/\k=!xs.isEmpty)\/∃kvs,H p=some (.dK kvs)/\k=!kvs.isEmpty
 | _=>False
theorem vH{κ:Type}{kvs:List (κ×V)}{vs:List (κ×Value)}(r:KV kvs vs):(!vs.isEmpty)=!kvs.isEmpty:=by
 cases r<;>rfl
theorem ou{its:List Value}(r:bh xs its):(!its.toArray.isEmpty)=!xs.isEmpty:=by
 cases r<;>simp
theorem kh:(sizeLine:Nat) < 2 ^ 63:=by rw [sizeLine_eq];decide
theorem Fp:Hd X (λx H Q=>∃k,Cj X.K x H k/\Q k H):=by
 rintro pins s Z H x v Q I rx ⟨k,e,q⟩;have hl:=kh;have hs:=sizeLine_eq
 cases x with
 | non=>
  cases rx;have e':k=false:=e;subst e';exact truthy_none ⟨H,I,q⟩
 | bl b=>
  cases rx;have e':k=b:=e;subst e';exact ae2 ⟨H,I,q⟩
 | int i=>
  obtain⟨t,rfl⟩:=rx;have e':k=(i != 0):=e;subst e';exact PySem.P.truthy_int ⟨H,I,q⟩
 | str y=>
  obtain⟨t,rfl⟩:=rx;obtain⟨hy,e'⟩:y.length<=sizeLine/\k=((y.length:Int) != 0):=e;subst e';exact PySem.P.truthy_str () ⟨H,I.tok _,q⟩
 | byt y=>
  obtain⟨t,rfl⟩:=rx;obtain⟨hy,e'⟩:y.size<=sizeLine/\k=((y.size:Int) != 0):=e;subst e';exact PySem.W.truthy_bytes () ⟨H,I.tok _,q⟩
 | ref p=>
  cases rx;have e':(∃xs,aH X.K H p xs/\k=!xs.isEmpty)\/(∃xs,cM X.K H p xs/\k=!xs.isEmpty)\/∃kvs,H p=some (.dK kvs)/\k=!kvs.isEmpty:=e;rcases e' with⟨xs,hx,e'⟩ | ⟨xs,hx,e'⟩ | ⟨kvs,hx,e'⟩
  ·subst e'
   obtain⟨its,r,pl,hz⟩:=I.list hx;have hlen:=r.length;exact wpAny_truthy_list pl.isList (by simp only [ab1];omega) ⟨H,I.tok _,by rw [ou r];exact q⟩
  ·subst e'
   obtain⟨its,r,pl,hz⟩:=I.tuple hx;have hlen:=r.length;exact truthy_tuple pl (by simp only [ab1];omega) ⟨H,I.tok _,by rw [ou r];exact q⟩
  ·subst e'
   obtain⟨hz,hS,vs,r,m⟩:kvs.length<=sizeLine/\(p == sysModules)=false/\∃vs,KV kvs vs/\s.heap.DictOf (sE X.prog X.w) p vs:=I.hok p _ hx;have hlen:kvs.length=vs.length:=Paired.length r;exact wpAny_truthy_dict hS m () ⟨H,I.tok _,by rw [vH r];exact q⟩
 | _=>exact(show False from e).elim
theorem bf(ha:PE X a ta)(he:∀whole,isTrue a X.env whole=(do let v <-whole;standAt a.pos;holding [v] (truthy v))):
  PT X a (λZ H Q=>ta Z H λx H'=>∃k,Cj X.K x H' k/\Q k H'):=by
 intro pins s Z H Q I h;exact isTrue_plain (c7 (ha pins s Z H _ I h) λv s1 ⟨x,H1,I1,r1,q1⟩=>Fp pins s1 Z H1 x v Q I1 r1 q1) (he _)
theorem op_add_str:dY X (binaryOp .Add) (λx y H Q=>∃i j,x=.str i/\y=.str j/\i.length+j.length<=sizeLine/\Q (.str (i++j)) H):=by
 rintro pins s Z H x y v u Q I rx ry ⟨i,j,rfl,rfl,hz,q⟩;obtain⟨t,rfl⟩:=rx;obtain⟨t',rfl⟩:=ry;exact add_str (λt' tk=>⟨.str (i++j),H,I.tok _,⟨_,rfl⟩,q⟩) hz
theorem eZ{x:V}(r:bh [x] us):∃u,us=[u]/\aX x u:=by
 cases r with
 | cons r1 r2=>cases r2;exact⟨_,rfl,r1⟩
theorem vk{x:V}(r:bh [x,y] us):∃u w',us=[u,w']/\aX x u/\aX y w':=by
 cases r with
 | cons r1 r2=>
  cases r2 with
  | cons r3 r4=>cases r4;exact⟨_,_,rfl,r1,r3⟩
theorem zK:cO X (.builtin "abs") (λxs H Q=>∃i,xs=[.int i]/\Q (.int (if i < 0 then -i else i)) H):=by
 rintro pins s Z H xs us Q I r ⟨i,rfl,q⟩;obtain⟨u,rfl,t,rfl⟩:=eZ r;exact call_abs_int λu tk=>⟨.int (if i < 0 then -i else i),H,I.tok _,⟨_,rfl⟩,q⟩
theorem ye(hc:X.calm=true):cO X (.builtin "max") (λxs H Q=>∃i j,xs=[.int i,.int j]/\Q (.int (if j > i then j else i)) H):=by
 rintro pins s Z H xs us Q I r ⟨i,j,rfl,q⟩;obtain⟨u,w',rfl,⟨t,rfl⟩,⟨t',rfl⟩⟩:=vk r;refine max_two_ints (I.ok.hd hc) λh' tk k=>⟨_,H,I.kept k,?_,q⟩
 by_cases hj:j > i
 ·rw [if_pos hj,if_pos hj];exact⟨_,rfl⟩
 ·rw [if_neg hj,if_neg hj];exact⟨_,rfl⟩
theorem rg(hc:X.calm=true):cO X (.builtin "min") (λxs H Q=>∃i j,xs=[.int i,.int j]/\Q (.int (if j < i then j else i)) H):=by
 rintro pins s Z H xs us Q I r ⟨i,j,rfl,q⟩;obtain⟨u,w',rfl,⟨t,rfl⟩,⟨t',rfl⟩⟩:=vk r;refine min_two_ints (I.ok.hd hc) λh' tk k=>⟨_,H,I.kept k,?_,q⟩
 by_cases hj:j < i
 ·rw [if_pos hj,if_pos hj];exact⟨_,rfl⟩
 ·rw [if_neg hj,if_neg hj];exact⟨_,rfl⟩
theorem yc:cO X (.type "int") (λxs H Q=>(∃i,xs=[.int i]/\Q (.int i) H)\/∃k,xs=[.bl k]/\Q (.int (if k then 1 else 0)) H):=by
 intro pins s Z H xs us Q I r h;rcases h with⟨i,rfl,q⟩ | ⟨k,rfl,q⟩
 ·obtain⟨u,rfl,t,rfl⟩:=eZ r
  exact call_int_int ⟨.int i,H,I,⟨_,rfl⟩,q⟩
 ·obtain⟨u,rfl,r1⟩:=eZ r
  cases r1;exact call_int_bool ⟨.int (if k then 1 else 0),H,I.tok _,⟨_,rfl⟩,q⟩
theorem call_str_int:cO X (.type "str") (λxs H Q=>∃i,xs=[.int i]/\i.natAbs.log2 < 1920/\Q (.str (toString i)) H):=by
 rintro pins s Z H xs us Q I r ⟨i,rfl,hz,q⟩;obtain⟨u,rfl,t,rfl⟩:=eZ r;exact PySem.P.str_of_int hz ⟨.str _,H,I.tok _,⟨_,rfl⟩,q⟩
end
structure vx(h:Heap)(x dx C:Addr)(mA:Str->Option Value):Prop where
 obj:h.get? x=some (instObj C dx)
 ns:h.Ns1 dx mA
 ne:dx≠x
theorem yG(n:h.Ns1 dx mA):∃od,h.get? dx=some od/\∀name,PySem.W.lookIn name od=some (mA name):=by
 obtain⟨o,es,ep,ho,hd,hk,_,hm⟩:=n;refine⟨o,ho,λname=>?_⟩;have e:=hm name;unfold nsFind findBy at e;rw [<-Array.find?_toList]at e;unfold PySem.W.lookIn;rw [hd];dsimp only
 split
 ·rename_i y q
  rw [q]at e;exact congrArg some e
 ·rename_i q
  rw [q]at e
  have a:es.toList.any (·.refKey)=false:=by
   rw [ak4];intro y hy;obtain⟨z,t,hkey⟩:=hk y (Array.mem_toList_iff.mp hy);simp [DictEntry.refKey,hkey]
  have a':¬es.toList.any (·.refKey)=true:=by rw [a];exact aa6
  rw [if_neg a'];exact congrArg some e
theorem vx.look{x:Addr}(I:vx h x dx C mA):∃od,PySem.W.InstAt h x (instObj C dx) C (some od)/\∀name,PySem.W.lookIn name od=some (mA name):=
 let ⟨od,ho,hl⟩:=yG I.ns
 ⟨od,⟨I.obj,rfl,rfl,ho⟩,hl⟩
section
variable {prog:Program} {x:Addr} {name:Str} {v:Value}
theorem CD{expr:Bool}(X:K.In s.heap)(I:vx s.heap x dx C mA)(hg:PySem.W.plainGet K C name=true)(hh:PySem.W.hasDictIn K C=true)
  (ha:findIn K (.ref C) name=some none) (hv:mA name=some v) (hv':PySem.W.handedIn v=true) (h:Q v { s with toks:=s.toks+1 }) :
  wpAny (model prog w) A (getAttr (.ref x) name expr) Q E s:=by
 obtain⟨od,J,hl⟩:=I.look;exact PySem.W.get_value X J (PySem.W.plainGet_of hg).1 (PySem.W.findObj_own hh ha rfl (by rw [hl,hv])) hv' h
theorem z8{pl:Sem Bool}{Q:Value×List Value->Shared->Prop}(X:K.In s.heap)(I:vx s.heap x dx C mA)(hg:PySem.W.plainGet K C name=true)
  (hf:findIn K (.ref C) name=some (some (.ref f))) (ht:PySem.W.isFn K (.ref f)=true) (hv:mA name=none) (h:Q (.ref f,[.ref x]) s) :
  wpAny (model prog w) A (getMethod (.ref x) name pl) Q E s:=by
 obtain⟨od,J,hl⟩:=I.look
 exact PySem.W.method_fn X J (PySem.W.plainGet_of hg).1 (PySem.W.plainGet_of hg).2 hf (beq_iff_eq.mp ht) (by show(PySem.W.lookIn name od).map (·.isSome)=some false;rw [hl,hv];rfl) h
theorem DE{ns:List Str}{Q:Unit->Shared->Prop}(X:K.In s.heap)(I:vx s.heap x dx C mA)
  (hs:findIn K (.ref C) "__setattr__"=some (some (.builtin "object.__setattr__"))) (hp:PySem.W.plainOver K C=true) (ht:PySem.W.takerIn K C name=some none) (hh:PySem.W.hasDictIn K C=true)
  (hw:PySem.Within mA ns) (hsz:ns.length<=sizeLine)
  (h:∀h',vx h' x dx C (λy=>if y=name then some v else mA y)->Heap.SameBut dx s.heap h'->Q Unit.unit { s with heap:=h',toks:=s.toks+2 }) :
  wpAny (model prog w) A (setAttr (.ref x) name v) Q E s:=by
 obtain⟨od,J,hl⟩:=I.look;refine PySem.W.set_plain X J hs (PySem.W.osa_open (s:={ s with toks:=s.toks+1 }) (r:=none) X J hp ht λb=>?_);obtain⟨cd,hc,hd'⟩:=PySem.W.any_some hh;have hx:s.heap.get? x=some ⟨.ref C,some dx,.plain,#[]⟩:=I.obj;refine aa3 (aa9 (aa3 (aa3 (wpAny_loadPart hx (aa3 (PySem.W.Looks.here (s:={ s with toks:=s.toks+1 }) (PySem.W.looks_clsIn X hc) ?_))))));rw [hd'];refine aa9 (a:=some dx) (aa3 (aa9 (aa3 ?_)));refine wpAny_nsSet1 (s:={ s with toks:=s.toks+1 }) I.ns λh' hn2 hs2=>?_;obtain⟨oD,esD,epD,hoD,hdD,hcD⟩:=hn2.count (PySem.Within.cons name v hw);refine aa3 (wpAny_lookBehind hoD (by rw [hdD];exact pastItsLine_dict (ab6 hcD (by rw [ad6];omega))) ?_);exact aa9 (h _ ⟨(hs2.2 _ (Ne.symm I.ne)).trans I.obj,hn2,I.ne⟩ hs2)
theorem AE{R:Result->Shared->Prop}{vs:List Value}(X:K.In s.heap)(hm:PySem.W.makesIn K C=true)
  (hi:findIn K (.ref C) "__init__"=some (some (.ref f))) (hf:PySem.W.typeIn K (.ref f)=some (.type "function"))
  (h:codeAny (model prog w) (A.under (.builtin "type.__call__" ⟨.ref C::vs,kw⟩)) (.call (.ref f) ⟨.ref (s.heap.objs.size+1)::vs,kw⟩) (PySem.W.InitBack (s.heap.objs.size+1) R)
   { s with heap:=(s.heap.push emptyDict).push (instObj C s.heap.objs.size) }) :
  codeAny (model prog w) A (.call (.ref C) ⟨vs,kw⟩) R s:=by
 obtain⟨hh,g,d,t,os⟩:=s;exact PySem.W.make_core (PySem.W.makes_of X hm) (PySem.W.looks_findIn X hi) (λself=>PySem.W.bind_fn X self hf) (.inl rfl) h
end
def bu(f:Str)(v:V):List (Str×V)->List (Str×V)
 | []=>[(f,v)]
 | (g,x)::r=>if g=f then(g,v)::r else(g,x)::bu f v r
theorem jg(f g:Str)(v:V):∀fs:List (Str×V),(bu f v fs).lookup g=if g=f then some v else fs.lookup g
 | []=>by
  show List.lookup g [(f,v)]=_
  by_cases h:g=f
  ·have hb:(g == f)=true:=beq_iff_eq.mpr h
   simp only [List.lookup,hb,if_pos h]
  ·have hb:(g == f)=false:=beq_eq_false_iff_ne.mpr h
   simp only [List.lookup,hb,if_neg h]
 | (k,x)::r=>by
  have ih:=jg f g v r;rw [show bu f v ((k,x)::r)=(if k=f then(k,v)::r else(k,x)::bu f v r)from rfl]
  by_cases hk:k=f
  ·rw [if_pos hk]
   by_cases h:g=k
   ·have hb:(g == k)=true:=beq_iff_eq.mpr h
    simp only [List.lookup,hb,if_pos (h.trans hk)]
   ·have hb:(g == k)=false:=beq_eq_false_iff_ne.mpr h
    simp only [List.lookup,hb,if_neg (λe:g=f=>h (e.trans hk.symm))]
  ·rw [if_neg hk]
   by_cases h:g=k
   ·have hb:(g == k)=true:=beq_iff_eq.mpr h
    simp only [List.lookup,hb,if_neg (λe:g=f=>hk (h.symm.trans e))]
   ·have hb:(g == k)=false:=beq_eq_false_iff_ne.mpr h
    simp only [List.lookup,hb];exact ih
theorem mn(f:Str)(v:V):∀fs:List (Str×V),f∈(bu f v fs).map (·.1)/\∀g,g∈fs.map (·.1)->g∈(bu f v fs).map (·.1)
 | []=>⟨by simp [bu],λg h=>by simp at h⟩
 | (k,x)::r=>by
  obtain⟨i1,i2⟩:=mn f v r;rw [show bu f v ((k,x)::r)=(if k=f then(k,v)::r else(k,x)::bu f v r)from rfl]
  by_cases hk:k=f
  ·rw [if_pos hk]
   subst hk;exact⟨by simp,λg h=>by simpa using h⟩
  ·rw [if_neg hk]
   refine⟨?_,λg h=>?_⟩
   ·rw [ad0]
    exact ad9 _ i1
   ·rw [ad0]at h |-
    rcases ab0.mp h with e | e
    ·exact ab0.mpr (.inl e)
    ·exact ad9 _ (i2 g e)
theorem bB(f:Str)(v:V):∀fs:List (Str×V),(bu f v fs).length<=fs.length+1
 | []=>by simp [bu]
 | (k,x)::r=>by
  have ih:=bB f v r;rw [show bu f v ((k,x)::r)=(if k=f then(k,v)::r else(k,x)::bu f v r)from rfl]
  by_cases hk:k=f
  ·rw [if_pos hk,ad6,ad6];omega
  ·rw [if_neg hk,ad6,ad6];omega
theorem p6.some_of{o:Option Value}(r:p6 (some v) o):∃u,o=some u/\aX v u:=by
 cases o with
 | none=>exact(show False from r).elim
 | some u=>exact⟨u,rfl,r⟩
theorem p6.none_of{o:Option Value}(r:p6 none o):o=none:=by
 cases o with
 | none=>rfl
 | some u=>exact(show False from r).elim
theorem yA(r:aX v u):PySem.W.handedIn u=true:=by
 cases v with
 | non=>cases(show u=Value.none from r);rfl
 | bl b=>cases(show u=Value.bool b from r);rfl
 | int i=>obtain⟨t,e⟩:=(show ∃t,u=Value.int i t from r);cases e;rfl
 | str x=>obtain⟨t,e⟩:=(show ∃t,u=Value.str x t from r);cases e;rfl
 | byt b=>obtain⟨t,e⟩:=(show ∃t,u=Value.bytes b t from r);cases e;rfl
 | flt b=>obtain⟨t,e⟩:=(show ∃t,u=Value.float b t from r);cases e;rfl
 | ref a=>cases(show u=Value.ref a from r);rfl
 | ty n=>cases(show u=Value.type n from r);rfl
section
variable {fs fs':List (Str×V)}
theorem nI(hok:kI P w H h)(e:H a=some (.ins C dx fs)):∃mA,vx h a dx C mA/\(∀f,p6 (fs.lookup f) (mA f))/\PySem.Within mA (fs.map (·.1))/\fs.length<=1000/\H dx=some (.own a):=by
 obtain⟨d,z,ne,ob,mA,n,r,q⟩:=(show dZ P w H h a (.ins C dx fs)from hok a _ e);exact⟨mA,⟨ob,n,ne⟩,r,q,z,d⟩
end
structure vm(K:Frag)(C:Addr):Prop where
 pg:PySem.W.plainGet K C Str.empty=true
 hd:PySem.W.hasDictIn K C=true
 po:PySem.W.plainOver K C=true
 sa:findIn K (.ref C) "__setattr__"=some (some (.builtin "object.__setattr__"))
theorem vm.get(c:vm K C)(f:Str):PySem.W.plainGet K C f=true:=c.pg
def NoAttr(K:Frag)(C:Addr)(f:Str):Prop:=findIn K (.ref C) f=some none
theorem NoAttr.taker{f:Str}(n:NoAttr K C f):PySem.W.takerIn K C f=some none:=by
 unfold PySem.W.takerIn;rw [show findIn K (.ref C) f=some none from n];rfl
structure Ek(K:Frag)(C:Addr)(m:Str)(f:Addr):Prop where
 at_:findIn K (.ref C) m=some (some (.ref f))
 fn:PySem.W.isFn K (.ref f)=true
 kp:keepIn K (.ref f)=true
section
variable {fs:List (Str×V)} {f:Str}
theorem vF{b:Bool}(I:aQ X pins Z H s)(e:H a=some (.ins C dx fs))(c:vm X.K C)(n:NoAttr X.K C f)(l:fs.lookup f=some v)
  (h:∀u s',aQ X pins Z H s'->aX v u->Q u s'):wpAny (model X.prog X.w) A (getAttr (.ref a) f b) Q E s:=by
 obtain⟨mA,O,r,_,_,_⟩:=nI I.hok e;obtain⟨u,hu,ru⟩:=p6.some_of (v:=v) (o:=mA f) (by rw [<-l];exact r f);exact CD I.kIn O (c.get f) c.hd n hu (yA ru) (h u _ (I.tok _) ru)
theorem oh{g:Addr}{pl:Sem Bool}{Q:Value×List Value->Shared->Prop}(I:aQ X pins Z H s)(e:H a=some (.ins C dx fs))(c:vm X.K C)(k:Ek X.K C m g)(l:fs.lookup m=none)
  (h:Q (.ref g,[.ref a]) s):wpAny (model X.prog X.w) A (getMethod (.ref a) m pl) Q E s:=by
 obtain⟨mA,O,r,_,_,_⟩:=nI I.hok e;have hn:mA m=none:=p6.none_of (by rw [<-l];exact r m);exact z8 I.kIn O (c.get m) k.at_ k.fn hn h
theorem wq{Q:Unit->Shared->Prop}(I:aQ X pins Z H s)(e:H a=some (.ins C dx fs))(c:vm X.K C)(n:NoAttr X.K C f)(hl:fs.length < 1000)(ry:aX y u)
  (h:∀s',aQ X pins Z (upd H a (.ins C dx (bu f y fs))) s'->Q Unit.unit s'):wpAny (model X.prog X.w) A (setAttr (.ref a) f u) Q E s:=by
 obtain⟨mA,O,r,wi,_,ho⟩:=nI I.hok e
 have hz:(fs.map (·.1)).length<=sizeLine:=by rw [aa0,sizeLine_eq];omega
 refine DE I.kIn O c.sa c.po n.taker c.hd wi hz λh' O' sb=>h _ ?_
 have hd:∃o,h'.get? dx=some o:=let ⟨o,_,_,e',_⟩:=O'.ns;⟨o,e'⟩
 refine I.write (x:=a) (e:=dx) (by rw [e];exact True.intro) (.inr ho) (λb q hb z=>(sb.2 b hb).trans z) hd ?_;refine⟨by rw [aj O.ne];exact ho,?_,O.ne,O'.obj,_,O'.ns,λg=>?_,λg hg=>?_⟩
 ·have:=bB f y fs;omega
 ·show p6 ((bu f y fs).lookup g) (if g=f then some u else mA g)
  rw [jg]
  by_cases q:g=f
  ·rw [if_pos q,if_pos q];exact ry
  ·rw [if_neg q,if_neg q];exact r g
 ·by_cases q:g=f
  ·rw [q];exact(mn f y fs).1
  ·refine(mn f y fs).2 g (wi g λz=>hg ?_)
   show(if g=f then some u else mA g)=none;rw [if_neg q];exact z
theorem aQ.made(I:aQ X pins Z H s):aQ X pins Z (upd (upd H s.heap.objs.size (.own (s.heap.objs.size+1))) (s.heap.objs.size+1) (.ins C s.heap.objs.size []))
  { s with heap:=(s.heap.push emptyDict).push (instObj C s.heap.objs.size) }:=by
 have e1:(s.heap.push emptyDict).get? s.heap.objs.size=some emptyDict:=ab8 s.heap rfl
 have e2:((s.heap.push emptyDict).push (instObj C s.heap.objs.size)).get? (s.heap.objs.size+1)=some (instObj C s.heap.objs.size):=by
  have:=ab8 (s.heap.push emptyDict) (o:=instObj C s.heap.objs.size) rfl
  rwa [ae8]at this
 have e3:(s.heap.push emptyDict).Ns s.heap.objs.size (λ_=>none):=⟨emptyDict,#[],_,e1,rfl,(λe he=>absurd he (by simp)),λ_=>rfl⟩;have I1:=I.laid (a:=s.heap.objs.size) (o:=.own (s.heap.objs.size+1)) (h':=s.heap.push emptyDict) (t':=s.toks) (λb u q=>aa5 _ q) (aa8 _) ⟨_,e1⟩;refine I1.laid (a:=s.heap.objs.size+1) (o:=.ins C s.heap.objs.size []) (t':=s.toks) (λb u q=>aa5 _ q) (Nat.le_of_eq (ae8 _ _)) ?_;have ne:s.heap.objs.size≠s.heap.objs.size+1:=ad3 (ai2 _);refine⟨by rw [aj ne,af],ac2 _,ne,e2,λ_=>none,(Heap.Ns1.of_empty e3).at λo q=>aa5 _ q,λ_=>True.intro,λy hy=>absurd rfl hy⟩
theorem Ck{prog:Program}{env:Env}{f:Str}(hb:attributeBase e f env (eval e env)=eval e env)
  (h:wpAny (model prog w) A (eval e env) (λo Zg=>wpAny (model prog w) A (getAttr o f true) Q E Zg) E s):wpAny (model prog w) A (eval (.Attribute e f pos) env) Q E s:=
 Attribute_any_ h (by rw [arm_eval_Attribute,hb])
end
def GA(K:Frag)(ta:TE)(f:Str):TE:=λZ H Q=>ta Z H λx H1=>∃a C dx fs v,x=.ref a/\H1 a=some (.ins C dx fs)/\vm K C/\NoAttr K C f/\fs.lookup f=some v/\Q v H1
def Gx(K:Frag)(ta tv:TE)(f:Str):TS:=λD Z H=>tv Z H λy H1=>ta Z H1 λx H2=>∃a C dx fs,x=.ref a/\H2 a=some (.ins C dx fs)/\vm K C/\NoAttr K C f/\fs.length < 1000/\
 D.nx Z (upd H2 a (.ins C dx (bu f y fs)))
section
variable {o value:Expr} {f:Str} {tpos:Pos} {tv:TE}
theorem aU(he:PE X e ta)(hb:attributeBase e f X.env (eval e X.env)=eval e X.env):PE X (.Attribute e f pos) (GA X.K ta f):=by
 intro pins s Z H Q I h;refine Ck hb (c7 (he pins s Z H _ I h) λu s1 zq0=>?_);obtain⟨x,H1,I1,rx,a,C,dx,fs,v,ex,ea,c,n,l,q⟩:=zq0;subst ex;obtain rfl:u=Value.ref a:=rx;exact vF I1 ea c n l λu' s2 I2 ru=>⟨v,H1,I2,ru,q⟩
theorem bG(ha:PE X o ta)(hv:PE X value tv)(hs:swapsWith value (some (.Attribute o f pos')) pos.line X.env=pure false):PS X (.Assign [.Attribute o f pos'] value pos) (Gx X.K ta tv f):=by
 intro pins s Z H D I h;refine plainObj_wpAny_Assign_Attribute (c7 (hv pins s Z H _ I h) λu s1 ⟨y,H1,I1,ry,q⟩=>c7 (ha pins s1 Z H1 _ I1 q) λov s2 zq0=>?_) hs;obtain⟨x,H2,I2,rx,a,C,dx,fs,ex,ea,c,n,l,q2⟩:=zq0;subst ex;obtain rfl:ov=Value.ref a:=rx;exact wq I2 ea c n l ry λs3 I3=>⟨Z,_,I3,q2⟩
end
section
variable {c:Value} {b:Bool}
inductive kT(K:Frag)(H:Hp):V->Value->Prop where
 | non:kT K H .non (.type "NoneType")
 | bl (x:Bool):kT K H (.bl x) (.type "bool")
 | int (i:Int):kT K H (.int i) (.type "int")
 | str (x:Str):kT K H (.str x) (.type "str")
 | flt (x:UInt64):kT K H (.flt x) (.type "float")
 | lst {a:Addr} {xs:List V} (e:H a=some (.lst xs)):kT K H (.ref a) (.type "list")
 | frz {a:Addr} {o:Obj} {xs:List V} (e:H a=some (.frz o (.lst xs))):kT K H (.ref a) (.type "list")
 | tup {a:Addr} {xs:List V} (e:H a=some (.tup xs)):kT K H (.ref a) (.type "tuple")
 | dK {a:Addr} {kvs:List (tT×V)} (e:H a=some (.dK kvs)):kT K H (.ref a) (.type "dict")
 | dT {a:Addr} {kvs:List (List tT×V)} (e:H a=some (.dT kvs)):kT K H (.ref a) (.type "dict")
 | ins {a C dx:Addr} {fs:List (Str×V)} (e:H a=some (.ins C dx fs)) (cl:vm K C) (ha:findIn K (.ref C) "__class__"=some (some (.builtin "object.__class__")))
   (hn:PySem.W.specialIn K (.builtin "object.__class__") "__get__"=some (some (.builtin "getset_descriptor.__get__"))) (htk:PySem.W.takesIn K (.builtin "object.__class__")=some true)
   (hm:PySem.W.mroIn K C (.type "object")=some true):kT K H (.ref a) (.ref C)
theorem yE{x:V}{t:Value}(I:aQ X pins Z H s)(rx:aX x u)(ty:kT X.K H x t)(e:PySem.W.kitOne X.K t c=some b)(h:∀tk,Q (.bool b) { s with toks:=tk }):
  wpAny (model X.prog X.w) A (call (.builtin "isinstance") [u,c]) Q E s:=by
 cases ty with
 | non=>cases(show u=Value.none from rx);exact kia_one PySem.W.kitx_none I.kIn True.intro e (λz=>nomatch z) h
 | bl y=>cases(show u=Value.bool y from rx);exact kia_one PySem.W.kitx_bool I.kIn True.intro e (λz=>nomatch z) h
 | int i=>obtain⟨t,q⟩:=(show ∃t,u=Value.int i t from rx);cases q;exact kia_one PySem.W.kitx_int I.kIn True.intro e (λz=>nomatch z) h
 | str y=>obtain⟨t,q⟩:=(show ∃t,u=Value.str y t from rx);cases q;exact kia_one PySem.W.kitx_str I.kIn True.intro e (λz=>nomatch z) h
 | flt y=>obtain⟨t,q⟩:=(show ∃t,u=Value.float y t from rx);cases q;exact kia_one PySem.W.kitx_float I.kIn True.intro e (λz=>nomatch z) h
 | @lst a xs ea=>
  cases(show u=Value.ref a from rx);obtain⟨_,_,n,_,h1⟩:=(show dZ X.prog X.w H s.heap a (.lst xs)from I.hok a _ ea);exact kia_one PySem.W.kitx_list I.kIn ⟨_,h1,rfl⟩ e (λz=>nomatch z) h
 | @frz a ob xs ea=>
  cases(show u=Value.ref a from rx);obtain⟨_,_,_,n,_,h1⟩:=(show dZ X.prog X.w H s.heap a (.frz ob (.lst xs))from I.hok a _ ea);exact kia_one PySem.W.kitx_list I.kIn ⟨_,h1,rfl⟩ e (λz=>nomatch z) h
 | @tup a xs ea=>
  cases(show u=Value.ref a from rx);obtain⟨_,_,_,p⟩:=(show dZ X.prog X.w H s.heap a (.tup xs)from I.hok a _ ea);obtain⟨o,h1,h2,_⟩:=p;exact kia_one PySem.W.kitx_tuple I.kIn ⟨o,h1,h2⟩ e (λz=>nomatch z) h
 | @dK a kvs ea=>
  cases(show u=Value.ref a from rx);obtain⟨_,_,vs,_,p⟩:=(show dZ X.prog X.w H s.heap a (.dK kvs)from I.hok a _ ea);obtain⟨o,es,ep,h1,h2,_⟩:=p;exact kia_one PySem.W.kitx_dict I.kIn ⟨o,h1,h2.1⟩ e (λz=>nomatch z) h
 | @dT a kvs ea=>
  cases(show u=Value.ref a from rx);obtain⟨_,_,xs,_,o,es,ep,h1,h2,_⟩:=(show dZ X.prog X.w H s.heap a (.dT kvs)from I.hok a _ ea);exact kia_one PySem.W.kitx_dict I.kIn ⟨o,h1,h2.1⟩ e (λz=>nomatch z) h
 | @ins a C dx fs ea cl ha hn htk hm=>
  cases(show u=Value.ref a from rx);obtain⟨mA,O,_⟩:=nI I.hok ea;obtain⟨od,J,_⟩:=O.look;exact kia_one (PySem.W.kitx_own (cl.get _) cl.hd ha hn htk hm) I.kIn J e (λz=>nomatch z) h
end
structure dW(k:Nat)(A:Around):Prop where
 hd:A.handled=none
 dp:A.depth+3 * k+5 < recursionLimit
 un:A.units+16 * k+200 < cLine
theorem dW.mono(r:dW k A)(h:j<=k):dW j A:=⟨r.hd,by have:=r.dp;omega,by have:=r.un;omega⟩
theorem dW.deeper(r:dW (k+1) A)(env:Env):dW k (A.deeper env):=
 ⟨r.hd,by have:=r.dp;show A.depth+1+3 * k+5 < _;omega,by have:=r.un;show A.units+3+16 * k+200 < _;omega⟩
theorem vK:(A.under (.builtin "type.__call__" ⟨.ref C::us,kw⟩)).depth=A.depth+1:=by
 first | rfl | simp [Around.under,Code.weight,Code.isCreation,Code.isGuard,Code.isCaller,Code.frames,Code.isFrame,guardIds]
theorem vL:(A.under (.builtin "type.__call__" ⟨.ref C::us,kw⟩)).units=A.units+1:=by
 first | rfl | simp [Around.under,Code.cUnits,Code.frames,Code.isFrame]
theorem dW.make(r:dW (k+1) A)(C:Addr)(us:List Value)(kw:List (Str×Value)):dW k (A.under (.builtin "type.__call__" ⟨.ref C::us,kw⟩)):=
 ⟨r.hd,by have:=r.dp;rw [vK];omega,by have:=r.un;rw [vL];omega⟩
theorem dW.depth(r:dW k A):A.depth < recursionLimit:=by have:=r.dp;omega
theorem dW.units(r:dW k A):A.units+64 < cLine:=by have:=r.un;omega
def wU:TA:=λ_ H Q=>Q [] H
def rR(ta:TE)(tr:TA):TA:=λZ H Q=>ta Z H λx H1=>tr Z H1 λxs H2=>Q (x::xs) H2
theorem ag:PA X [] wU:=λ_ _ _ _ H Q I h=>Calls.spliced_nil ⟨[],H,I,.nil,h⟩
theorem aa(ha:PE X e te)(hr:PA X es t)(hs:starEach (e::es) X.env=(false,eval e X.env)::starEach es X.env:=by rfl):PA X (e::es) (rR te t):=by
 intro pos pins s Z H Q I h;rw [hs];show wpAny _ _ (spliced ((false,eval e X.env)::backTo pos (starEach es X.env))) _ _ s;refine Calls.spliced_cons (c7 (ha pins s Z H _ I h) λu s1 zq0=>?_);obtain⟨x,H1,I1,r1,q1⟩:=zq0;exact c7 (hr pos pins s1 Z H1 _ I1 q1) λus s2 ⟨xs,H2,I2,r2,q2⟩=>⟨x::xs,H2,I2,.cons r1 r2,q2⟩
def GF(t:TA):TE:=λZ H Q=>t Z H λxs H1=>xs.length<=sizeLine/\∀p,H1 p=none->Q (.ref p) (upd H1 p (.tup xs))
def GD(t:TA):TE:=λZ H Q=>t Z H λxs H1=>xs.length<=sizeLine/\∀p,H1 p=none->Q (.ref p) (upd H1 p (.lst xs))
theorem dj{x1}(h:PA X es t):PE X (.Tuple es x1 pos) (GF t):=by
 intro pins s Z H Q I hq;refine wpAny_Tuple_spliced (c7 (h pos pins s Z H _ I hq) λus s1 ⟨xs,H1,I1,r,z,q⟩=>⟨by rw [<-r.length];exact z,?_⟩);have hf:H1 s1.heap.objs.size=none:=I1.hok.fresh (aa8 _);refine⟨.ref s1.heap.objs.size,upd H1 s1.heap.objs.size (.tup xs),I1.laid (t':=s1.toks) (λb u e=>aa5 _ e) (aa8 _) ?_,rfl,q _ hf⟩;exact⟨z,us,r,⟨_,ab8 _ rfl,rfl,_,rfl⟩⟩
theorem bM(h:PA X es t):PE X (.List es pos) (GD t):=by
 intro pins s Z H Q I hq;refine wpAny_List_spliced (c7 (h pos pins s Z H _ I hq) λus s1 ⟨xs,H1,I1,r,z,q⟩=>⟨by rw [<-r.length];exact z,?_⟩);have hf:H1 s1.heap.objs.size=none:=I1.hok.fresh (aa8 _);refine⟨.ref s1.heap.objs.size,upd H1 s1.heap.objs.size (.lst xs),I1.laid (t':=s1.toks) (λb u e=>aa5 _ e) (aa8 _) ?_,rfl,q _ hf⟩;exact⟨z,us,0,r,ab8 _ rfl⟩
abbrev Sp:=List V->Hp->VK->XK->Prop
variable {sp:Sp}
abbrev B6:=List Env->Hp->Shared->XK->Value->Shared->Prop
variable {CX:B6}
structure vw(P:Program)(w:World)(K:Frag)(mg:Str->Option Value)(base:Heap)(A:Around)(outer:List Env)(s:Shared)(H:Hp):Prop where
 frames:A.frames=some outer
 mod:Mod K mg base
 bs:∀b o,base.get? b=some o->s.heap.get? b=some o/\H b=none
 bsz:base.objs.size<=s.heap.objs.size
 funs:s.heap.FunFrames base outer
 frf:∀b∈vn outer,H b=none
 hok:kI P w H s.heap
 bare:AllBare s.gens
def CE(outer:List Env)(P:Program)(w:World)(H:Hp)(s:Shared)(Q:VK)(u:Value)(s':Shared):Prop:=
 ∃v H',s'.os=s.os/\AllBare s'.gens/\Un (vn outer) [] H H' s.heap s'.heap/\kI P w H' s'.heap/\aX v u/\Q v H'
def CR(CX:B6)(outer:List Env)(P:Program)(w:World)(H:Hp)(s:Shared)(Q:VK)(E:XK)(r:Result)(s':Shared):Prop:=
 match r with
 | .ok (.ret u)=>CE outer P w H s Q u s'
 | .ok _=>False
 | .error e=>CX outer H s E e s'
structure aK(P:Program)(w:World)(K:Frag)(mg:Str->Option Value)(base:Heap)(CX:B6)(k:Nat)(f:Addr)(fd:FuncData)(ps:List Str)(sp:Sp):Prop where
 len:∀(A:Around) (_:List Env) (_:Shared) vs H Q E,dW k A->sp vs H Q E->vs.length=ps.length
 run:∀(A:Around) (outer:List Env) (s:Shared) (H:Hp) (args:Args) (us:List Value) (vs:List V) (Q:VK) (E:XK),dW k A->vw P w K mg base A outer s H->BindsTo s fd args (ps.zip us)->bh vs us->sp vs H Q E->
  codeAny (model P w) A (.call (.ref f) args) (CR CX outer P w H s Q E) s
theorem aK.mono(F:aK P w K mg base CX j f fd ps sp)(h:j<=k):
  aK P w K mg base CX k f fd ps sp:=⟨λA o s vs H Q E hr=>F.len A o s vs H Q E (hr.mono h),λA outer s H args us vs Q E hr=>F.run A outer s H args us vs Q E (hr.mono h)⟩
theorem aK.imp{sp':Sp}(F:aK P w K mg base CX k f fd ps sp)
  (h:∀vs H Q E,sp' vs H Q E->sp vs H Q E):aK P w K mg base CX k f fd ps sp':=
 ⟨λA o s vs H Q E hr q=>F.len A o s vs H Q E hr (h _ _ _ _ q),λA outer s H args us vs Q E hr he hb hv hs=>F.run A outer s H args us vs Q E hr he hb hv (h _ _ _ _ hs)⟩
theorem vw.make{outer:List Env}(e:vw P w K mg base A outer s H)(C:Addr)(us:List Value)(kw:List (Str×Value)):
  vw P w K mg base (A.under (.builtin "type.__call__" ⟨.ref C::us,kw⟩)) outer s H:=⟨by first | exact e.frames | (simpa [Around.under,Code.envs,Code.isFrame,pushEnvs]using e.frames),e.mod,e.bs,e.bsz,e.funs,e.frf,e.hok,e.bare⟩
theorem aQ.env0(I:aQ X pins Z H s):vw X.prog X.w X.K X.mg X.base X.A X.stack s H:=
 ⟨I.ok.frames,I.ok.mod,I.bs,ab6 I.ok.bsz I.sz,I.stack,I.stkFree,I.hok,I.bare⟩
theorem aQ.after{Q:VK}(I:aQ X pins Z H s)(h:CE X.stack X.prog X.w H s Q u s'):EP X pins Z Q u s':=by
 obtain⟨v,H',os,bare,un,hok,r,q⟩:=h;obtain⟨hh,g,d,t,os'⟩:=s';obtain rfl:os'=s.os:=os;exact⟨v,H',I.call (h':=hh) (g':=g) (d':=d) (t':=t) (ch:=[]) un hok bare (λb z=>absurd z (by simp)),r,q⟩
def vi(sp:Sp)(dvs:List V)(E:XK)(t:TA):TE:=λZ H Q=>t Z H λvs H1=>sp (vs++dvs) H1 Q E
def BO(C:Addr)(sp:Sp)(dvs:List V)(E:XK)(t:TA):TE:=λZ H Q=>t Z H λvs H1=>∀x dx,H1 x=none->H1 dx=none->dx≠x->
 sp (.ref x::(vs++dvs)) (upd (upd H1 dx (.own x)) x (.ins C dx [])) (λv H2=>v=.non/\Q (.ref x) H2) E
def dm(K:Frag)(fd:FuncData)(ps:List Str)(ds:List Value):Prop:=
 ∀(s:Shared) (us:List Value),K.In s.heap->(us++ds).length=ps.length->BindsTo s fd ⟨us,[]⟩ (ps.zip (us++ds))
theorem dm.all(h:∀us:List Value,us.length=ps.length->bindArgs fd ⟨us,[]⟩=pure (ps.zip us)):dm K fd ps []:=λs us _ hl=>by
 rw [af1]at hl |-;exact .of_eq (h us hl)
def nS(CX:B6)(X:Cx)(E:XK):Prop:=∀(pins:List (Addr×Obj)) (Z:St) (H:Hp) (s:Shared) (e:Value) (s':Shared),aQ X pins Z H s->CX X.stack H s E e s'->X.xe e s'
section
variable {dvs:List V} {ds:List Value} {E:XK} {apos:Pos} {o:Expr}
theorem oZ{Q:VK}(F:aK X.prog X.w X.K X.mg X.base CX k f fd ps sp)(hr:dW k X.A)(hb:dm X.K fd ps ds)(hd:bh dvs ds)(hx:nS CX X E)
  (I:aQ X pins Z H s) (r:bh vs us) (h:sp (vs++dvs) H Q E):wpAny (model X.prog X.w) X.A (call (.ref f) us) (EP X pins Z Q) X.xe s:=by
 have r2:bh (vs++dvs) (us++ds):=r.append hd
 have hl:(us++ds).length=ps.length:=by rw [<-r2.length];exact F.len X.A X.stack s _ _ _ _ hr h
 refine wpAny_call (ao4 (F.run X.A X.stack s H ⟨us,[]⟩ (us++ds) (vs++dvs) Q E hr I.env0 (hb s us I.kIn hl) r2 h) λr s' hq=>?_)
 cases r with
 | error e=>exact hx pins Z H s e s' I hq
 | ok fl=>
  cases fl with
  | ret u=>exact I.after hq
  | next=>exact False.elim hq
  | brk=>exact False.elim hq
  | cont=>exact False.elim hq
theorem Dj(F:aK X.prog X.w X.K X.mg X.base CX k f fd ps sp)(hr:dW k X.A)(hg:Gl X x)(hm:X.mg x=some (.ref f))(hk:keepIn X.K (.ref f)=true)(hb:dm X.K fd ps ds)(hd:bh dvs ds)(hx:nS CX X E)
  (ha:PA X (e::es) t) (hdb:(x == ("__debug__":Str))=false:=by decide) (he:starEach (e::es) X.env=(false,eval e X.env)::starEach es X.env:=by rfl) (hpl:(backTo pos (starEach es X.env)).any (·.1)=false:=by rfl) :
  PE X (.Call (.Name x p) (e::es) [] pos) (vi sp dvs E t):=by
 intro pins s Z H Q I h;refine ah5 (nM I hg hm ?_ hdb);refine PySem.W.callWith_K (h₀:=X.base) I.ok.mod.kin hk (c7 (ha pos pins s Z H _ I h) λus s1 ⟨vs,H1,I1,r,q⟩=>⟨I1.kIn,?_⟩) he hpl;exact oZ F hr hb hd hx I1 r q
structure Mk(K:Frag)(C f:Addr):Prop where
 makes:PySem.W.makesIn K C=true
 init:findIn K (.ref C) "__init__"=some (some (.ref f))
 fn:PySem.W.isFn K (.ref f)=true
 kp:keepIn K (.ref C)=true
theorem Bq{Q:VK}(M:Mk X.K C f)(F:aK X.prog X.w X.K X.mg X.base CX k f fd ps sp)(hr:dW (k+1) X.A)(hb:dm X.K fd ps ds)(hd:bh dvs ds)
  (hx:nS CX X E) (I:aQ X pins Z H s) (r:bh vs us)
  (h:∀x dx,H x=none->H dx=none->dx≠x->sp (.ref x::(vs++dvs)) (upd (upd H dx (.own x)) x (.ins C dx [])) (λv H2=>v=.non/\Q (.ref x) H2) E) :
  wpAny (model X.prog X.w) X.A (call (.ref C) us) (EP X pins Z Q) X.xe s:=by
 have hq:=h (s.heap.objs.size+1) s.heap.objs.size (I.hok.fresh (Nat.le_succ _)) (I.hok.fresh (aa8 _)) (ad3 (ai2 _));have I2:=aQ.made (C:=C) I;have r2:bh (V.ref (s.heap.objs.size+1)::(vs++dvs)) (Value.ref (s.heap.objs.size+1)::(us++ds)):=.cons rfl (r.append hd)
 have hl:(Value.ref (s.heap.objs.size+1)::us++ds).length=ps.length:=by
  have e:=r2.length;rw [F.len _ X.stack s _ _ _ _ (hr.make C us []) hq]at e;exact e.symm
 refine wpAny_call (AE (f:=f) I.kIn M.makes M.init (beq_iff_eq.mp M.fn) (ao4 (F.run _ X.stack _ _ ⟨Value.ref (s.heap.objs.size+1)::us,[]⟩ (Value.ref (s.heap.objs.size+1)::(us++ds)) _ _ E (hr.make C us [])
  (I2.env0.make C us []) (hb _ (Value.ref (s.heap.objs.size+1)::us) I2.kIn hl) r2 hq) λr s' hq'=>?_))
 cases r with
 | error e=>exact hx pins Z _ _ e s' I2 hq'
 | ok fl=>
  cases fl with
  | ret u=>
   obtain⟨v,H',I3,rv,ev,q3⟩:=I2.after hq';subst ev;exact⟨rv,⟨V.ref (s.heap.objs.size+1),H',I3,rfl,q3⟩⟩
  | next=>exact False.elim hq'
  | brk=>exact False.elim hq'
  | cont=>exact False.elim hq'
theorem Dm(M:Mk X.K C f)(F:aK X.prog X.w X.K X.mg X.base CX k f fd ps sp)(hr:dW (k+1) X.A)(hg:Gl X x)(hm:X.mg x=some (.ref C))(hb:dm X.K fd ps ds)(hd:bh dvs ds)(hx:nS CX X E)
  (ha:PA X (e::es) t) (hdb:(x == ("__debug__":Str))=false:=by decide) (he:starEach (e::es) X.env=(false,eval e X.env)::starEach es X.env:=by rfl) (hpl:(backTo pos (starEach es X.env)).any (·.1)=false:=by rfl) :
  PE X (.Call (.Name x p) (e::es) [] pos) (BO C sp dvs E t):=by
 intro pins s Z H Q I h;refine ah5 (nM I hg hm ?_ hdb);refine PySem.W.callWith_K (h₀:=X.base) I.ok.mod.kin M.kp (c7 (ha pos pins s Z H _ I h) λus s1 ⟨vs,H1,I1,r,q⟩=>⟨I1.kIn,?_⟩) he hpl;exact Bq M F hr hb hd hx I1 r q
end
section
variable {ks:List Str} {E:XK} {apos kpos:Pos} {o:Expr} {kws:List Keyword} {tk:TA} {nm:Option Str}
structure G9(K:Frag)(fd:FuncData)(ps ks:List Str)(g:List Value->List Value->List Value)(gV:List V->List V->List V):Prop where
 to:∀(s:Shared) (us ws:List Value),K.In s.heap->(g us ws).length=ps.length->BindsTo s fd ⟨us,ks.zip ws⟩ (ps.zip (g us ws))
 rel:∀{vs:List V} {us:List Value} {zs:List V} {ws:List Value},bh vs us->bh zs ws->bh (gV vs zs) (g us ws)
variable {g:List Value->List Value->List Value} {gV:List V->List V->List V}
end
structure ax(N P:List Str)(sc:Scope):Prop where
 kind:sc.kind=.function
 co:sc.isCoroutine=false
 gen:sc.isGenerator=false
 nd:N.Nodup
 pre:N.take P.length=P
 par:∀x∈P,sc.names.lookup x=some .local\/sc.names.lookup x=some .cell
 nofree:∀y∈sc.names,y.2≠.free
theorem rf:∀{binds:List (Str×Value)} {m:Str->Option Value},(∀v,(x,v)∉binds)->bindL kindOf binds m x=m x
 | [],_,_=>rfl
 | (n,v)::r,m,h=>by
  unfold bindL;rw [rf λw hw=>h w (ad9 _ hw)]
  split
  ·have:x≠n:=by rintro rfl;exact h v ad8
   simp [this]
  ·rfl
theorem qZ:∀{binds:List (Str×Value)} {m:Str->Option Value},(∀v,(x,v)∉binds)->bindC kindOf binds m x=m x
 | [],_,_=>rfl
 | (n,v)::r,m,h=>by
  unfold bindC;rw [qZ λw hw=>h w (ad9 _ hw)]
  split
  ·rfl
  ·have:x≠n:=by rintro rfl;exact h v ad8
   simp [this]
theorem q9{kindOf:Str->Option NameKind}{x:Str}{v:Value}:∀{P:List Str} {vs:List Value} {i:Nat} {m:Str->Option Value},P.Nodup->P[i]?=some x->vs[i]?=some v->kindOf x=some .local->
  bindL kindOf (P.zip vs) m x=some v
 | [],_,_,_,_,h,_,_=>by simp at h
 | _::_,[],_,_,_,_,h,_=>by simp at h
 | p::P,w::vs,0,m,nd,h1,h2,hk=>by
  simp at h1 h2;subst h1;subst h2;show bindL kindOf ((p,w)::P.zip vs) m p=_;unfold bindL;rw [rf λv hv=>(ai8.mp nd).1 (ao8 hv).1,if_pos hk];simp
 | p::P,w::vs,i+1,m,nd,h1,h2,hk=>by
  show bindL kindOf ((p,w)::P.zip vs) m x=_;unfold bindL;exact q9 (i:=i) (ai8.mp nd).2 (by simpa using h1) (by simpa using h2) hk
theorem qY{kindOf:Str->Option NameKind}{x:Str}{v:Value}:∀{P:List Str} {vs:List Value} {i:Nat} {m:Str->Option Value},P.Nodup->P[i]?=some x->vs[i]?=some v->kindOf x≠some .local->
  bindC kindOf (P.zip vs) m x=some v
 | [],_,_,_,_,h,_,_=>by simp at h
 | _::_,[],_,_,_,_,h,_=>by simp at h
 | p::P,w::vs,0,m,nd,h1,h2,hk=>by
  simp at h1 h2;subst h1;subst h2;show bindC kindOf ((p,w)::P.zip vs) m p=_;unfold bindC;rw [qZ λv hv=>(ai8.mp nd).1 (ao8 hv).1,if_neg hk];simp
 | p::P,w::vs,i+1,m,nd,h1,h2,hk=>by
  show bindC kindOf ((p,w)::P.zip vs) m x=_;unfold bindC;exact qY (i:=i) (ai8.mp nd).2 (by simpa using h1) (by simpa using h2) hk
def start(N:List Str)(vs:List V):St:=vs.map some++List.replicate (N.length - vs.length) none
def tZ(CX:B6)(P:Program)(w:World)(K:Frag)(mg:Str->Option Value)(base:Heap)(N:List Str)(qual:Str)(scope:Scope)(f:Addr)(cd:Value)(A:Around)(outer:List Env)(s:Shared)(H:Hp)(E:XK):Cx where
 prog:=P
 w:=w
 K:=K
 mg:=mg
 base:=base
 A:=A.deeper (envOfC qual scope s.heap.objs.size f cd)
 N:=N
 Zh:=s
 Z2:=H
 env:=envOfC qual scope s.heap.objs.size f cd
 outer:=outer
 stack:=envOfC qual scope s.heap.objs.size f cd::outer
 ex:=[]
 calm:=true
 fn:=λ_=>true
 pn:=[]
 xe:=λe s'=>wpAny (model P w) (A.deeper (envOfC qual scope s.heap.objs.size f cd)) (leaving (envOfC qual scope s.heap.objs.size f cd) e) (λ_ s''=>CX outer H s E e s'') (λe' s''=>CX outer H s E e' s'') s'
theorem tV{sc:Scope}(h:sc.names.lookup x=some .cell):∃c,(cellsFrom n sc.names []).lookup x=some c:=by
 have q:=PySem.W.cellsFrom_some sc.names n [] (.inl h);exact Option.isSome_iff_exists.mp q
theorem yD{N:List Str}{qual:Str}{scope:Scope}{cd:Value}{outer:List Env}{s1:Shared}{E:XK}
  (S:ax N ps scope) (hd:A.handled=none) (e0:vw P w K mg base A outer s H) (hl:vs.length=ps.length) (r:bh vs us)
  (x:InCallC s s.heap.objs.size (bindL (envOfC qual scope s.heap.objs.size f cd).kindOf (ps.zip us) λ_=>none) (cellsFrom (s.heap.objs.size+1) scope.names []) (bindC (envOfC qual scope s.heap.objs.size f cd).kindOf (ps.zip us) λ_=>none) s1) :
  aQ (tZ CX P w K mg base N qual scope f cd A outer s H E) [] (start N vs) H s1:=by
 have hpl:ps.length<=N.length:=by have:=congrArg List.length S.pre;rw [ac3]at this;omega
 obtain⟨h1,tk,rfl,hk⟩:=x.done;have noA:∀b:Addr,b∉(tZ CX P w K mg base N qual scope f cd A outer s H E).ex:=λb z=>absurd (show b∈([]:List Addr)from z) (by simp)
 refine⟨⟨e0.mod,S.kind,rfl,rfl,aa8 _,λy z c h1 h2=>?_,λy hy=>?_,λy c _ h=>?_,λ_=>hd,Around.frames_deeper e0.frames,.inr ⟨rfl,rfl⟩,λb z=>absurd z (noA b),e0.bs,e0.bsz,λb _ _=>noA b,λb z=>absurd z (noA b),e0.funs,e0.frf⟩,
  rfl,e0.bare,Un.kept hk,⟨_,x.toInCall.ns,λi y v h1 h2 h3=>?_⟩,λy c h=>⟨_,x.cell y c h⟩,e0.hok.fresh (aa8 _),λy c h=>?_,λp hp=>absurd (show p∈([]:List (Addr×Obj))from hp) (by simp),e0.hok.kept hk,?_⟩
 ·exact name_of_addr x.apart (PySem.mem_of_lookup h1) (PySem.mem_of_lookup h2)
 ·have hy:scope.names.lookup y=some .cell\/scope.names.lookup y=some .free:=hy
  rcases hy with hy | hy
  ·exact tV hy
  ·exact absurd rfl (S.nofree _ (PySem.mem_of_lookup hy))
 ·exact ah2 (x.above y c (PySem.mem_of_lookup h))
 ·have hi:i < vs.length:=by
   unfold start at h2
   by_cases hi:i < vs.length
   ·exact hi
   ·rw [ac6 (by simpa using hi)]at h2
    rw [List.getElem?_replicate]at h2
    split at h2<;>cases h2
  have ha:vs[i]?=some v:=by
   unfold start at h2;rw [ab7 (by simpa using hi),aa4]at h2
   cases e:vs[i]? with
   | none=>rw [e]at h2;cases h2
   | some a=>rw [e]at h2;cases h2;rfl
  obtain⟨u,hu,rv⟩:=r.get ha
  have hp:ps[i]?=some y:=by
   rw [<-S.pre,List.getElem?_take_of_lt ()];exact h1
  have ndP:ps.Nodup:=by rw [<-S.pre];exact S.nd.sublist (List.take_sublist _ _)
  refine⟨u,rv,?_⟩;rcases S.par y (ac0 hp)with k | k
  ·exact .inl ⟨k,q9 ndP hp hu k⟩
  ·obtain⟨c,e⟩:=tV (n:=s.heap.objs.size+1) k
   refine .inr ⟨.inl k,c,e,?_⟩;have q:=x.cell y c e;rw [qY ndP hp hu (by show scope.names.lookup y≠_;rw [k];decide)]at q;exact q
 ·exact e0.hok.fresh (ah2 (x.above y c (PySem.mem_of_lookup h)))
 ·unfold start
  show _=N.length;rw [ab4,aa0,List.length_replicate];omega
theorem DU{name qual:Str}{params:Arguments}{scope:Scope}{dV kV doc pm cdv ct oc:Value}{an od:Option Addr}
  {osl:Array (Option Value)} {N ps:List Str} {sp:Sp} (lk:K.lookup f=some ⟨oc,od,.func (fnOf name qual params body scope dV kV doc pm an cdv ct),osl⟩) (hcd:codeIn K cdv qual=true) (S:ax N ps scope)
  (len:∀(A:Around) (_:List Env) (_:Shared) vs H Q E,dW (k+1) A->sp vs H Q E->vs.length=ps.length)
  (hbody:∀(A:Around) (outer:List Env) (s:Shared) (H:Hp) (vs:List V) (Q:VK) (E:XK),dW k (A.deeper (envOfC qual scope s.heap.objs.size f cdv))->sp vs H Q E->
   ∃t,w6 (tZ CX P w K mg base N qual scope f cdv A outer s H E) body t/\t { nx:=λ_ H'=>Q .non H',rt:=Q } (start N vs) H) :
  aK P w K mg base CX (k+1) f (fnOf name qual params body scope dV kV doc pm an cdv ct) ps sp:=by
 refine⟨len,λA outer s H args us vs Q E hr e0 hb r hsp=>?_⟩;have hl:=len A outer s _ _ _ _ hr hsp;have KX:K.In s.heap:=e0.mod.kin.keeps λb o e=>(e0.bs b o e).1;have lim:s.heap.NoLimit:=e0.mod.nolimit.keeps λb o e=>(e0.bs b o e).1
 have hkind:∀y∈ps.zip us,scope.names.lookup y.1=some .local\/(scope.names.lookup y.1=some .cell/\((cellsFrom (s.heap.objs.size+1) scope.names []).lookup y.1).isSome=true):=λ⟨n,v⟩ hy=>by
  rcases S.par n (ao8 hy).1 with q | q
  ·exact .inl q
  ·exact .inr ⟨q,PySem.W.cellsFrom_some _ _ _ (.inl q)⟩
 refine codeAny_call_function hr.depth (KX _ _ lk) rfl S.co S.gen rfl (PySem.W.codeRec_of KX hcd) (hb _ _ _ _ ?_);refine wpAny_newFunctionEnv_cells S.kind hkind λenv he s1 x=>?_;subst he;refine⟨lim.keeps x.toInCall.keep,codeAny_func ?_⟩;obtain⟨t,ht,hq⟩:=hbody A outer s H vs Q E (hr.deeper _) hsp;have I:aQ (tZ CX P w K mg base N qual scope f cdv A outer s H E) [] (start N vs) H s1:=yD S hr.hd e0 hl r x;refine af2 (ht [] s1 (start N vs) H _ I hq) (λfl s' hs=>?_) λe s' hs=>hs
 have fin:∀{Zc:St} {H':Hp} {v:V} {u:Value},aQ (tZ CX P w K mg base N qual scope f cdv A outer s H E) [] Zc H' s'->aX v u->Q v H'->CE outer P w H s Q u s':=
  λ{Zc H' v u} J rv q=>⟨v,H',J.os,J.bare,J.base,J.hok,rv,q⟩
 cases fl with
 | ret u=>
  obtain⟨v,Zc,H',J,rv,q⟩:=hs;exact fin J rv q
 | next=>
  obtain⟨Zc,H',J,q⟩:=hs;exact fin (v:=V.non) (u:=Value.none) J rfl q
 | brk=>
  obtain⟨_,_,_,q⟩:=hs;exact False.elim q
 | cont=>
  obtain⟨_,_,_,q⟩:=hs;exact False.elim q
section
variable {id T:String} {r:List V->Hp->VK->Prop}
def Fd(r:List V->Hp->VK->Prop)(t:TA):TE:=λZ H Q=>t Z H λvs H1=>r vs H1 Q
theorem aB(hc:cO X (.builtin id) r)(hg:Gl X x)(hm:X.mg x=none)(hv:bootBuiltins x=some (.builtin id))(ha:PA X (e::es) t)(hn:x≠"__name__":=by decide)(hdb:(x == ("__debug__":Str))=false:=by decide)
  (he:starEach (e::es) X.env=(false,eval e X.env)::starEach es X.env:=by rfl) (hpl:(backTo pos (starEach es X.env)).any (·.1)=false:=by rfl):PE X (.Call (.Name x p) (e::es) [] pos) (Fd r t):=by
 intro pins s Z H Q I h;refine ah5 (gN I hg hm hv ?_ hn hdb);exact PyProof.Rows.callWith_builtin1 (c7 (ha pos pins s Z H _ I h) λus s1 ⟨vs,H1,I1,r1,q1⟩=>hc pins s1 Z H1 vs us Q I1 r1 q1) he hpl
theorem aV(hc:cO X (.type T) r)(hg:Gl X x)(hm:X.mg x=none)(hv:bootBuiltins x=some (.type T))(ha:PA X (e::es) t)(hn:x≠"__name__":=by decide)(hdb:(x == ("__debug__":Str))=false:=by decide)
  (he:starEach (e::es) X.env=(false,eval e X.env)::starEach es X.env:=by rfl) (hpl:(backTo pos (starEach es X.env)).any (·.1)=false:=by rfl):PE X (.Call (.Name x p) (e::es) [] pos) (Fd r t):=by
 intro pins s Z H Q I h;refine ah5 (gN I hg hm hv ?_ hn hdb);exact PyProof.Rows.callWith_type1 (c7 (ha pos pins s Z H _ I h) λus s1 ⟨vs,H1,I1,r1,q1⟩=>hc pins s1 Z H1 vs us Q I1 r1 q1) he hpl
end
end L2
namespace HT
open PySem PyProof.Rows
section
open PySem.SeqAt
open PySem.AutoSeq1 (wpAny_loadPart')
open PySem.MeetsSeq PySem.MeetsSeq2 PySem.MeetsSeq3
end
section
variable {prog:Program} {w:World} {A:Around} {E:Value->Shared->Prop} {s:Shared}
theorem cat_tup{t b:Addr}{vs ws:List Value}{Q:Value->Shared->Prop}(ht:IsTup s.heap t vs.toArray)(hb:IsTup s.heap b ws.toArray)(hv:vs≠[])
  (h1:ws=[]->Q (.ref t) s) (h2:ws≠[]->Q (.ref s.heap.objs.size) { s with heap:=s.heap.push { cls:=.type "tuple",data:=.seq (vs++ws).toArray } })
  (hsz:vs.length+ws.length<=sizeLine):wpAny (model prog w) A (binaryOp .Add (.ref t) (.ref b)) Q E s:=by
 obtain⟨⟨cls,dd,data,sl⟩,ho,hc,n,hd⟩:=id ht;obtain⟨⟨cls2,dd2,data2,sl2⟩,ho2,hc2,n2,hd2⟩:=id hb;simp only at hc hd hc2 hd2;subst hc hd hc2 hd2
 have e:vs.toArray++ws.toArray=(vs++ws).toArray:=by simp
 by_cases hw:ws=[]
 ·exact concat_meets ⟨_,ho,rfl⟩ ⟨_,ho2,rfl⟩ noFill_tuple_add seq_tuple_add PySem.F.slot_tuple_add PySem.F.entry_tuple_add (PySem.F.args_tuple_add_2 _ _)
   (tuple_addW1 t b vs.toArray ws.toArray n n2 dd dd2 sl sl2 (by simpa using hv) (by simp [hw])) ⟨ho,ho2,h1 hw⟩
 ·refine concat_meets ⟨_,ho,rfl⟩ ⟨_,ho2,rfl⟩ noFill_tuple_add seq_tuple_add PySem.F.slot_tuple_add PySem.F.entry_tuple_add (PySem.F.args_tuple_add_2 _ _)
   (tuple_addW2 t b vs.toArray ws.toArray n n2 dd dd2 sl sl2 (by simpa using hv) (by simpa using hw) (by rw [ab1,ab1];exact hsz)) ⟨ho,ho2,?_⟩
  rw [e];exact h2 hw
def sIx(n d:Nat):Option Int->Nat
 | none=>d
 | some v=>if v < 0 then(v+(n:Int)).toNat else min v.toNat n
theorem sIx_none(n d:Nat):sIx n d none=d:=rfl
theorem sIx_nat(n d k:Nat):sIx n d (some (k:Int))=min k n:=by
 show(if (k:Int) < 0 then((k:Int)+(n:Int)).toNat else min (k:Int).toNat n)=min k n;rw [if_neg (),ag8]
theorem E9(n d:Nat)(hd:d<=n)(o:Option Int):sIx n d o<=n:=by
 cases o with
 | none=>exact hd
 | some v=>
  show(if v < 0 then(v+(n:Int)).toNat else min v.toNat n)<=n
  by_cases hv:v < 0
  ·rw [if_pos hv];omega
  ·rw [if_neg hv];exact aj4 _ _
theorem w9(v:Int)(n d:Nat):(if v < 0 then max (v+(n:Int)) 0 else min v (n:Int))=((sIx n d (some v):Nat):Int):=by
 show(if v < 0 then max (v+(n:Int)) 0 else min v (n:Int))=(((if v < 0 then(v+(n:Int)).toNat else min v.toNat n):Nat):Int)
 by_cases hv:v < 0
 ·simp only [if_pos hv];omega
 ·simp only [if_neg hv];omega
theorem vy(lo hi:Option Int)(n:Nat):Builtin.Slice.sliceAdjust lo hi 1 (n:Int)=(((sIx n 0 lo:Nat):Int),((sIx n n hi:Nat):Int)):=by
 have h1:¬((1:Int) < 0):=by omega
 unfold Builtin.Slice.sliceAdjust;simp only [h1,if_false];refine Prod.ext ?_ ?_
 ·cases lo with
  | none=>rfl
  | some v=>exact w9 v n 0
 ·cases hi with
  | none=>rfl
  | some v=>exact w9 v n n
theorem vV(i j:Nat):Builtin.Slice.slicePlaces (i:Int) (j:Int) 1=j - i:=by
 unfold Builtin.Slice.slicePlaces
 have h1:(1:Int) > 0:=by omega
 simp only [h1,if_true,Int.ediv_one]
 split<;>omega
theorem pC{v:Value}{o:Option Int}{Q:Option Int->Shared->Prop}(p:IsPart v o)(h:Q o s):wpAny (model prog w) A (Builtin.Slice.slicePartIndex v) Q E s:=by
 cases p with
 | none=>exact slicePart_none h
 | int i t=>exact slicePart_int h
theorem mL{sl:Addr}{vl vu:Value}{lo hi:Option Int}{n:Nat}{Q:Int×Int×Nat->Shared->Prop}(hs:s.heap.IsSliceOf sl vl vu .none)(pl:IsPart vl lo)(pu:IsPart vu hi)
  (h:Q (((sIx n 0 lo:Nat):Int),1,sIx n n hi - sIx n 0 lo) s):wpAny (model prog w) A (Builtin.Slice.sliceApplied (.ref sl) (pure (n:Int))) Q E s:=by
 obtain⟨os,hos,hcs,hds⟩:=id hs;unfold Builtin.Slice.sliceApplied Builtin.Slice.sliceFields;refine aa3 (aa3 (ae9 hos hds (x:=vl) rfl (aa3 (ae9 hos hds (x:=vu) rfl (aa3 (ae9 hos hds (x:=.none) rfl (aa9 ?_)))))));refine aa3 (slicePart_none ?_);show wpAny _ _ (if ((1:Int) == 0)=true then _ else _) _ _ s;rw [if_neg ∅];refine aa3 (pC pl (aa3 (pC pu (aa3 (aa9 ?_)))))
 show wpAny _ _ (match Builtin.Slice.sliceAdjust lo hi 1 (n:Int)with | (lo,hi)=>pure (lo,(1:Int),Builtin.Slice.slicePlaces lo hi 1)) _ _ s
 rw [vy lo hi n];show wpAny _ _ (pure (((sIx n 0 lo:Nat):Int),(1:Int),Builtin.Slice.slicePlaces ((sIx n 0 lo:Nat):Int) ((sIx n n hi:Nat):Int) 1)) _ _ s;rw [vV];exact aa9 h
theorem Ba(xs:Array Value)(i k:Nat):((List.range k).filterMap λ(m:Nat)=>xs[((i:Int)+(m:Int) * 1).toNat]?).toArray=((xs.toList.drop i).take k).toArray:=by
 have e:(λ(m:Nat)=>xs[((i:Int)+(m:Int) * 1).toNat]?)=λm=>xs[i+m]?:=by
  funext m
  have:((i:Int)+(m:Int) * 1).toNat=i+m:=by omega
  rw [this]
 rw [e]
 have:=pick_run xs i k
 rw [List.filterMap_map]at this;have e2:((λx=>xs[x]?)∘λx=>i+x)=λm=>xs[i+m]?:=rfl;rw [e2]at this;rw [this]
theorem getItem_tuple_cut{t sl:Addr}{items:Array Value}{vl vu:Value}{lo hi:Option Int}{Q:Value->Shared->Prop}(ht:IsTup s.heap t items)(hs:s.heap.IsSliceOf sl vl vu .none)(pl:IsPart vl lo)(pu:IsPart vu hi)
  (hw:¬(sIx items.size 0 lo=0/\sIx items.size items.size hi=items.size))
  (h:Q (.ref s.heap.objs.size) { s with heap:=s.heap.push { cls:=.type "tuple",data:=.seq ((items.toList.drop (sIx items.size 0 lo)).take (sIx items.size items.size hi - sIx items.size 0 lo)).toArray } })
  (hsz:items.size<=sizeLine):wpAny (model prog w) A (getItem (.ref t) (.ref sl)) Q E s:=by
 have htake:sizeOk (.seq ((items.toList.drop (sIx items.size 0 lo)).take (sIx items.size items.size hi - sIx items.size 0 lo)).toArray):=by
  show((items.toList.drop (sIx items.size 0 lo)).take (sIx items.size items.size hi - sIx items.size 0 lo)).toArray.size<=sizeLine;rw [ab1,ac3,ag1,am3];omega
 have hj:sIx items.size items.size hi<=items.size:=E9 _ _ (aa8 _) hi;obtain⟨os,hos,hcs,hds⟩:=id hs;have hTs:s.TypeIs (.ref sl) "slice":=⟨os,hos,hcs⟩;unfold getItem
 try with_reducible refine ae6 ?_
 first | refine aa3 (aa9 ?_) | skip
 refine aa3 (wpAny_sequenceKey ht.typeIs ∅ ?_)
 refine aa3 (wpAny_callSpecial?_slot (name:=Str.ofString "__getitem__") ht.typeIs PyProof.Rows.slot_tuple_getitem
  (ag2 PyProof.Rows.slot_tuple_getitem ht.typeIs entry_tuple_getitem ?_ (args_tuple_getitem _ _)))
 show wpAny _ _ (Builtin.Tuple.tupleItemsOf (.ref t) >>= _) _ _ s;refine aa3 (tupleItemsOf_ ht ?_);refine aa3 (am6 hTs ?_);rw [if_pos ∅];refine aa3 (mL hs pl pu ?_)
 have hno:¬((((sIx items.size 0 lo:Nat):Int) == 0 && (1:Int) == 1 && (sIx items.size items.size hi - sIx items.size 0 lo) == items.size)=true):=by
  intro q;rw [ai3,ai3]at q;have q1:((sIx items.size 0 lo:Nat):Int)=0:=eq_of_beq q.1.1;have q2:sIx items.size items.size hi - sIx items.size 0 lo=items.size:=eq_of_beq q.2;exact hw ⟨(),()⟩
 show wpAny _ _ (if (((sIx items.size 0 lo:Nat):Int) == 0 && (1:Int) == 1 && (sIx items.size items.size hi - sIx items.size 0 lo) == items.size)=true then _ else _) _ _ s;rw [if_neg hno,Ba]
 first
  | exact aa3 (m:=Builtin.Tuple.tupleExact _) (ag9 (aa9 ⟨_,rfl,aa9 h⟩) htake)
  | exact aa3 (m:=Builtin.Tuple.tupleExact _) (ag9 (aa3 (aa9 (aa9 ⟨_,rfl,aa9 h⟩))) htake)
  | exact aa3 (aa3 (m:=Builtin.Tuple.tupleExact _) (ag9 (aa9 (aa9 ⟨_,rfl,aa9 h⟩)) htake))
  | exact aa3 (aa3 (m:=Builtin.Tuple.tupleExact _) (ag9 (aa9 ⟨_,rfl,aa9 h⟩) htake))
end
end HT
namespace L2
open PySem PySem.Spec PyProof.Rows
variable {A:Around} {H:Hp} {X:Cx} {its:List Value} {n:Nat} {pins:List (Addr×Obj)} {r:V->Option Int->Option Int->Hp->VK->Prop} {s:Shared} {v:Value} {x:V} {xs:List V} {α:Type} {Z:St}
abbrev TO:=St->Hp->(Option Int->Hp->Prop)->Prop
def PO(X:Cx)(e:Option Expr)(t:TO):Prop:=
 ∀(pins:List (Addr×Obj)) (s:Shared) (Z:St) (H:Hp) (Q:Option Int->Hp->Prop),aQ X pins Z H s->t Z H Q->
  wpAny (model X.prog X.w) X.A (evalPart e X.env) (λu s'=>∃o H',aQ X pins Z H' s'/\IsPart u o/\Q o H') X.xe s
def tR:TO:=λ_ H Q=>Q none H
def xQ(t:TE):TO:=λZ H Q=>t Z H λx H1=>∃i,x=.int i/\Q (some i) H1
theorem vG{ns:List Int}:∀{us:List Value},bh (ns.map V.int) us->IntsAre us ns:=by
 induction ns with
 | nil=>intro us r;rw [ah3]at r;cases r;exact .nil
 | cons n ns ih=>
  intro us r;rw [ad0]at r
  cases r with
  | cons r1 r2=>
   obtain⟨t,e⟩:=r1;subst e;exact .cons n t (ih r2)
section
variable {e:Expr} {te:TE} {lo hi:Option Expr} {tl th:TO} {pos p2:Pos}
theorem bw:PO X none tR:=by
 intro pins s Z H Q I h;rw [evalPart_none];exact aa9 ⟨none,H,I,.none,h⟩
theorem Dq(h:PE X e te):PO X (some e) (xQ te):=by
 intro pins s Z H Q I hw;rw [evalPart_some];refine c7 (h pins s Z H _ I hw) λu s1 zq0=>?_;obtain⟨x,H1,I1,r1,i,rfl,q⟩:=zq0;obtain⟨t,rfl⟩:=r1;exact⟨some i,H1,I1,.int i t,q⟩
def B8(X:Cx)(r:V->Option Int->Option Int->Hp->VK->Prop):Prop:=
 ∀(pins:List (Addr×Obj)) (s:Shared) (Z:St) (H:Hp) (x:V) (v vl vu:Value) (lo hi:Option Int) (sl:Addr) (Q:VK),aQ X pins Z H s->aX x v->s.heap.IsSliceOf sl vl vu .none->IsPart vl lo->IsPart vu hi->r x lo hi H Q->
  ∃T id,typeLookup (.type T) "__getitem__"=pure (some (.builtin id))/\s.TypeIs v T/\wpAny (model X.prog X.w) X.A (getItem v (.ref sl)) (EP X pins Z Q) X.xe s
theorem B8.or{r':V->Option Int->Option Int->Hp->VK->Prop}(h:B8 X r)(h':B8 X r'):B8 X (λx lo hi H Q=>r x lo hi H Q\/r' x lo hi H Q):=by
 intro pins s Z H x v vl vu lo hi sl Q I rx hs pl pu q;rcases q with q | q
 ·exact h pins s Z H x v vl vu lo hi sl Q I rx hs pl pu q
 ·exact h' pins s Z H x v vl vu lo hi sl Q I rx hs pl pu q
def HB(r:V->Option Int->Option Int->Hp->VK->Prop)(te:TE)(tl th:TO):TE:=λZ H Q=>te Z H λx H1=>tl Z H1 λl H2=>th Z H2 λu H3=>r x l u H3 Q
theorem bo(hr:B8 X r)(he:PE X e te)(hl:PO X lo tl)(hu:PO X hi th):PE X (.Subscript e (.Slice lo hi none p2) pos) (HB r te tl th):=by
 intro pins s Z H Q I h;refine Subscript_ (c7 (he pins s Z H _ I h) λv s1 zq0=>?_);obtain⟨x,H1,I1,r1,q1⟩:=zq0;refine wpAny_Slice (c7 (hl pins s1 Z H1 _ I1 q1) λvl s2 ⟨l,H2,I2,pl,q2⟩=>c7 (hu pins s2 Z H2 _ I2 q2) λvu s3 zq0=>?_);obtain⟨u,H3,I3,pu,q3⟩:=zq0;rw [evalPart_none];refine aa9 ?_;have I4:aQ X pins Z H3 { s3 with heap:=s3.heap.push { cls:=.type "slice",data:=.fields #[vl,vu,.none] } }:=I3.kept (t':=s3.toks) λb ob q=>aa5 _ q;obtain⟨T,id,hT,ht,hg⟩:=hr pins { s3 with heap:=s3.heap.push { cls:=.type "slice",data:=.fields #[vl,vu,.none] } } Z H3 x v vl vu l u s3.heap.objs.size Q I4 r1 (Heap.IsSliceOf.new ..) pl pu q3;show wpAny (model X.prog X.w) X.A (subscriptTail e (.Slice lo hi none p2) v (.ref s3.heap.objs.size)) (EP X pins Z Q) X.xe { s3 with heap:=s3.heap.push { cls:=.type "slice",data:=.fields #[vl,vu,.none] } };exact tail_any (ops:=[.ref s3.heap.objs.size,v]) ht hT hg (by with_unfolding_all rfl)
def nZ(xs:List V)(lo hi:Option Int):List V:=(xs.drop (HT.sIx xs.length 0 lo)).take (HT.sIx xs.length xs.length hi - HT.sIx xs.length 0 lo)
theorem mW(xs:List V)(lo hi:Option Int):(nZ xs lo hi).length<=xs.length:=by
 unfold nZ;rw [ac3,ag1];omega
def E7(K:Frag):V->Option Int->Option Int->Hp->VK->Prop:=λx lo hi H Q=>∃a xs,x=.ref a/\cM K H a xs/\
 ¬(HT.sIx xs.length 0 lo=0/\HT.sIx xs.length xs.length hi=xs.length)/\∀p,H p=none->Q (.ref p) (upd H p (.tup (nZ xs lo hi)))
theorem sl_tup:B8 X (E7 X.K):=by
 rintro pins s Z H x v vl vu lo hi sl Q I rx hs pl pu ⟨a,xs,rfl,hx,hw,q⟩;cases rx;obtain⟨its,r,ht,hz⟩:=I.tuple hx
 have hlen:its.toArray.size=xs.length:=by rw [ab1];exact r.length.symm
 refine⟨"tuple",_,PyProof.Rows.slot_tuple_getitem.lookup,ht.typeIs,?_⟩;refine HT.getItem_tuple_cut ht hs pl pu (by rw [hlen];exact hw) ?_ (by rw [hlen];exact hz);rw [hlen];refine⟨.ref s.heap.objs.size,_,I.laid (t':=s.toks) (o:=.tup (nZ xs lo hi)) (λb ob q=>aa5 _ q) (aa8 _) ?_,rfl,q _ (I.hok.fresh (aa8 _))⟩;exact⟨ab6 (mW xs lo hi) hz,_,(r.drop (HT.sIx xs.length 0 lo)).take (HT.sIx xs.length xs.length hi - HT.sIx xs.length 0 lo),IsTup.new _ _⟩
def xv(K:Frag):R2:=λx y H Q=>∃a b xs ys,x=.ref a/\y=.ref b/\cM K H a xs/\cM K H b ys/\xs≠[]/\xs.length+ys.length<=sizeLine/\
 (ys=[]->Q (.ref a) H)/\(ys≠[]->∀p,H p=none->Q (.ref p) (upd H p (.tup (xs++ys))))
theorem bh.nil_iff{us:List Value}(r:bh xs us):us=[]↔xs=[]:=by
 cases r with
 | nil=>simp
 | cons _ _=>simp
theorem Dg:dY X (binaryOp .Add) (xv X.K):=by
 rintro pins s Z H x y v u Q I rx ry ⟨a,b,xs,ys,rfl,rfl,ha,hb,hx,hz,q1,q2⟩;cases rx;cases ry;obtain⟨its,r1,p1,_⟩:=I.tuple ha;obtain⟨its2,r2,p2,_⟩:=I.tuple hb;refine HT.cat_tup p1 p2 (λz=>hx (r1.nil_iff.mp z)) (λz=>⟨.ref a,H,I,rfl,q1 (r2.nil_iff.mp z)⟩) (λz=>?_) (by rw [<-r1.length,<-r2.length];exact hz);refine⟨.ref s.heap.objs.size,_,I.laid (t':=s.toks) (o:=.tup (xs++ys)) (λb ob q=>aa5 _ q) (aa8 _) ?_,rfl,q2 (λw=>z (r2.nil_iff.mpr w)) _ (I.hok.fresh (aa8 _))⟩;exact⟨by rw [ab4];exact hz,_,r1.append r2,IsTup.new _ _⟩
end
def zt(n:Nat)(i:Int):Option Nat:=if 0<=i then(if i < n then some i.toNat else none)else if -(n:Int)<=i then some (i+n).toNat else none
def fV(xs:List α)(i:Int):Option α:=(zt xs.length i).bind λj=>xs[j]?
theorem xi{i:Int}{j:Nat}(h:zt n i=some j):seqIndex? i n=some j/\j < n/\-(n:Int)<=i/\i < n:=by
 unfold zt at h
 by_cases h0:0<=i
 ·rw [if_pos h0]at h
  by_cases h1:i < n
  ·rw [if_pos h1]at h
   have e:i.toNat=j:=Option.some.inj h;exact⟨by rw [seqIndex_of h0 h1,e],(),(),h1⟩
  ·rw [if_neg h1]at h;cases h
 ·rw [if_neg h0]at h
  by_cases h1:-(n:Int)<=i
  ·rw [if_pos h1]at h
   have e:(i+n).toNat=j:=Option.some.inj h;exact⟨by rw [seqIndex_neg () h1,e],(),h1,()⟩
  ·rw [if_neg h1]at h;cases h
theorem sf{xs:List α}{i:Int}{v:α}(h:fV xs i=some v):∃j,seqIndex? i xs.length=some j/\xs[j]?=some v/\j < xs.length/\-(xs.length:Int)<=i/\i < xs.length:=by
 unfold fV at h
 cases e:zt xs.length i with
 | none=>rw [e]at h;cases h
 | some j=>
  rw [e]at h;obtain⟨h1,h2,h3,h4⟩:=xi e;exact⟨j,h1,h,h2,h3,h4⟩
theorem aJ{xs:List α}{j:Nat}{v:α}(h:xs[j]?=some v):fV xs (j:Int)=some v:=by
 have hj:j < xs.length:=(aa1.mp h).1
 have e:zt xs.length (j:Int)=some j:=by
  unfold zt;rw [if_pos (),if_pos ()];simp
 unfold fV;rw [e];exact h
def w8(b:Expr):Prop:=∀o i,subscripted b false o i=operate [o,i] (getItem o i)
def zp(X:Cx)(r:R2):Prop:=
 ∀(value slice:Expr) (pins:List (Addr×Obj)) (s:Shared) (Z:St) (H:Hp) (x y:V) (v u:Value) (Q:VK),aQ X pins Z H s->aX x v->aX y u->r x y H Q->
  subscripted slice false v u=operate [v,u] (getItem v u)->wpAny (model X.prog X.w) X.A (subscriptTail value slice v u) (EP X pins Z Q) X.xe s
def Ce(X:Cx)(id:String)(r:V->List V->Hp->VK->Prop):Prop:=
 ∀(pins:List (Addr×Obj)) (s:Shared) (Z:St) (H:Hp) (x:V) (xs:List V) (v:Value) (us:List Value) (Q:VK),aQ X pins Z H s->aX x v->bh xs us->r x xs H Q->
  wpAny (model X.prog X.w) X.A (call (.builtin id) (v::us)) (EP X pins Z Q) X.xe s
section
variable {a b:Expr} {ta tb:TE} {pos:Pos}
theorem zp.or{r r':R2}(h:zp X r)(h':zp X r'):zp X (λx y H Q=>r x y H Q\/r' x y H Q):=by
 intro value slice pins s Z H x y v u Q I rx ry q hs;rcases q with q | q
 ·exact h value slice pins s Z H x y v u Q I rx ry q hs
 ·exact h' value slice pins s Z H x y v u Q I rx ry q hs
theorem aw{r:R2}(hr:zp X r)(ha:PE X a ta)(hb:PE X b tb)(hs:w8 b):PE X (.Subscript a b pos) (Fi r ta tb):=by
 intro pins s Z H Q I h;exact Subscript_ (Cm ha hb I h λv u s2 x y H2 I2 rx ry q=>hr a b pins s2 Z H2 x y v u Q I2 rx ry q (hs _ _))
def EZ(K:Frag):R2:=λx y H Q=>∃p xs i v,x=.ref p/\y=.int i/\aH K H p xs/\fV xs i=some v/\Q v H
def E2(K:Frag):R2:=λx y H Q=>∃p xs i v,x=.ref p/\y=.int i/\cM K H p xs/\fV xs i=some v/\Q v H
def E1:R2:=λx y H Q=>∃z i c,x=.str z/\y=.int i/\z.length<=sizeLine/\fV z.cps.toList i=some c/\Q (.str ⟨#[c]⟩) H
theorem ix_list:zp X (EZ X.K):=by
 intro value slice pins s Z H x y v u Q I rx ry h hs;obtain⟨p,xs,i,z,rfl,rfl,hq,he,q⟩:=h;cases rx;obtain⟨t,rfl⟩:=ry;obtain⟨its,r,pl,hz⟩:=I.list hq;obtain⟨j,h1,h2,h3,h4,h5⟩:=sf he;obtain⟨w,ew,rw'⟩:=r.get h2;have hl:=r.length;have hn:=kh;have fin:EP X pins Z Q w s:=⟨z,H,I,rw',q⟩
 by_cases h0:0<=i
 ·have hj:i.toNat=j:=by
   rw [seqIndex_of h0 h5]at h1;exact Option.some.inj h1
  exact item_listR pl.isList h0 () (by rw [hj];simpa using ew) fin hs
 ·have hj:(i+(its.toArray.size:Int)).toNat=j:=by
   rw [seqIndex_neg () h4]at h1;rw [ab1,<-hl];exact Option.some.inj h1
  exact subscriptTail_builtinR (x:=w) pl.isList.typeIs slot_list_getitem.lookup
   (wpAny_getItem_list_neg (Q:=λr s'=>r=w/\EP X pins Z Q r s') pl.isList () (by rw [ab1]<;>omega) () (by rw [hj];simpa using ew) ⟨rfl,fin⟩) hs
theorem ix_tup:zp X (E2 X.K):=by
 intro value slice pins s Z H x y v u Q I rx ry h hs;obtain⟨p,xs,i,z,rfl,rfl,hq,he,q⟩:=h;cases rx;obtain⟨t,rfl⟩:=ry;obtain⟨its,r,pl,hz⟩:=I.tuple hq;obtain⟨j,h1,h2,h3,h4,h5⟩:=sf he;obtain⟨w,ew,rw'⟩:=r.get h2;have hl:=r.length;have hn:=kh;have fin:EP X pins Z Q w s:=⟨z,H,I,rw',q⟩
 exact subscriptTail_builtinR (x:=w) pl.typeIs slot_tuple_getitem.lookup
  (getItem_tuple (j:=j) (Q:=λr s'=>r=w/\EP X pins Z Q r s') pl () () (by rw [ab1,<-hl];exact h1) (by simpa using ew) ⟨rfl,fin⟩) hs
theorem Ex:zp X E1:=by
 intro value slice pins s Z H x y v u Q I rx ry h hs;obtain⟨z,i,c,rfl,rfl,hz,he,q⟩:=h;obtain⟨t,rfl⟩:=rx;obtain⟨t',rfl⟩:=ry;obtain⟨j,h1,h2,h3,h4,h5⟩:=sf he
 have hl:z.cps.toList.length=z.length:=by simp [Str.length]
 rw [hl]at h1 h4 h5;have hn:=kh
 exact tail_any (typeIs_str s z t) slot_str_getitem.lookup (getItem_str (c:=c) (by
  have e1:decide (i < -(2 ^ 63:Int))=false:=decide_eq_false ();have e2:decide (i>=2 ^ 63)=false:=decide_eq_false ()
  rw [e1,e2,Bool.or_false]) (by rw [h1];simpa using h2) ⟨.str ⟨#[c]⟩,H,I.tok _,⟨_,rfl⟩,q⟩) hs
def ny(K:Frag):R2:=λx y H Q=>EZ K x y H Q\/E2 K x y H Q\/E1 x y H Q
theorem Ew:zp X (ny X.K):=ix_list.or (ix_tup.or Ex)
theorem vM(its:List Value)(n j:Nat)(u:Value):Obj.mapSeq (·.setIfInBounds j u) { cls:=.type "list",data:=.seq its.toArray n }={ cls:=.type "list",data:=.seq (its.set j u).toArray n }:=by
 simp [Obj.mapSeq]
theorem aQ.lst{pins:List (Addr×Obj)}{Z:St}{H:Hp}{s:Shared}{p:Addr}{xs:List V}(I:aQ X pins Z H s)(h:H p=some (.lst xs)):
  ∃(its:List Value) (n:Nat),bh xs its/\s.heap.get? p=some { cls:=.type "list",data:=.seq its.toArray n }/\xs.length<=sizeLine:=by
 obtain⟨z,its,n,r,e⟩:=I.hok p _ h;exact⟨its,n,r,e,z⟩
theorem aQ.lstUpd{p:Addr}{ys:List V}{its':List Value}{n':Nat}{f:Obj->Obj}(I:aQ X pins Z H s)(h:H p=some (.lst xs))
  (ho:s.heap.get? p=some { cls:=.type "list",data:=.seq its.toArray n }) (hf:f { cls:=.type "list",data:=.seq its.toArray n }={ cls:=.type "list",data:=.seq its'.toArray n' }) (r:bh ys its') (hz:ys.length<=sizeLine) (t:Nat) :
  aQ X pins Z (upd H p (.lst ys)) { s with heap:=s.heap.update p f,toks:=t }:=by
 have e:(s.heap.update p f).get? p=some { cls:=.type "list",data:=.seq its'.toArray n' }:=by
  rw [Heap.get?_update_self f ho (by rw [hf]<;>rfl),hf]
 refine I.write (x:=p) (e:=p) (by rw [h];trivial) (.inl rfl) (λb u hb q=>(Heap.get?_update_other _ _ (Ne.symm hb)).trans q) ⟨_,e⟩ ?_;exact⟨hz,its',n',r,e⟩
def Ed:V->V->V->Hp->(Hp->Prop)->Prop:=λo i v H Q=>∃p xs k j,o=.ref p/\i=.int k/\H p=some (.lst xs)/\zt xs.length k=some j/\Q (upd H p (.lst (xs.set j v)))
theorem u7:Em X Ed:=by
 rintro pins s Z H o i v ov iv u Q I ro ri rv ⟨p,xs,k,j,rfl,rfl,hp,hj,q⟩;cases ro;obtain⟨t,rfl⟩:=ri;obtain⟨its,n,r,ho,hz⟩:=I.lst hp;obtain⟨h1,h2,h3,h4⟩:=xi hj;have hl:=r.length;have hn:=kh
 have I':aQ X pins Z (upd H p (.lst (xs.set j v))) { s with heap:=s.heap.update p (Obj.mapSeq (·.setIfInBounds j u)) }:=
  I.lstUpd hp ho (vM its n j u) (r.set rv j) (by rw [ao9];exact hz) s.toks
 by_cases h0:0<=k
 ·have hk:k.toNat=j:=by
   rw [seqIndex_of h0 h4]at h1;exact Option.some.inj h1
  exact PySem.W.ki_setAt ho h0 () (by rw [ab1,<-hl];exact h4) (by rw [hk];exact⟨_,I',q⟩)
 ·have hk:(k+(its.toArray.size:Int)).toNat=j:=by
   rw [seqIndex_neg () h3]at h1;rw [ab1,<-hl];exact Option.some.inj h1
  exact PySem.W.ki_setBack ho () (by rw [ab1,<-hl];exact h3) () (by rw [hk];exact⟨_,I',q⟩)
theorem tL(lo hi:Option Int)(n:Nat):(sliceBounds lo hi none n).1=((HT.sIx n 0 lo:Nat):Int)/\(sliceBounds lo hi none n).2.1=((HT.sIx n n hi:Nat):Int)/\(sliceBounds lo hi none n).2.2=1:=by
 refine⟨?_,?_,rfl⟩
 ·cases lo with
  | none=>simp [sliceBounds,HT.sIx]
  | some i=>
   simp only [sliceBounds,HT.sIx,Option.getD_none,show(1:Int) > 0 by decide,if_true]
   by_cases h:i < 0
   ·simp only [h,if_true]<;>omega
   ·simp only [h,if_false]<;>omega
 ·cases hi with
  | none=>simp [sliceBounds,HT.sIx]
  | some i=>
   simp only [sliceBounds,HT.sIx,Option.getD_none,show(1:Int) > 0 by decide,if_true]
   by_cases h:i < 0
   ·simp only [h,if_true]<;>omega
   ·simp only [h,if_false]<;>omega
theorem qT(its:List Value)(lo hi:Option Int):slicePick its.toArray lo hi none=((its.drop (HT.sIx its.length 0 lo)).take (HT.sIx its.length its.length hi - HT.sIx its.length 0 lo)).toArray:=by
 obtain⟨h1,h2,h3⟩:=tL lo hi its.toArray.size;unfold slicePick;rw [h1,h2,h3]
 simp only [sliceRange_one,pick_run,ab1]<;>rfl
def E5(K:Frag):V->Option Int->Option Int->Hp->VK->Prop:=λx lo hi H Q=>∃a xs,x=.ref a/\aH K H a xs/\∀p,H p=none->Q (.ref p) (upd H p (.lst (nZ xs lo hi)))
theorem sl_list:B8 X (E5 X.K):=by
 rintro pins s Z H x v vl vu lo hi sl Q I rx hs pl pu ⟨a,xs,rfl,hx,q⟩;cases rx;obtain⟨its,r,ht,hz⟩:=I.list hx;have hlen:=r.length;refine⟨"list",_,slot_list_getitem.lookup,ht.isList.typeIs,?_⟩
 refine wpAny_getItem_list_slice ht.isList hs pl pu .none (by simp) ?_ (by rw [ab1]<;>omega)
 rw [qT,<-hlen];refine⟨.ref s.heap.objs.size,_,I.laid (t':=s.toks) (o:=.lst (nZ xs lo hi)) (λb ob q=>aa5 _ q) (aa8 _) ?_,rfl,q _ (I.hok.fresh (aa8 _))⟩;exact⟨ab6 (mW xs lo hi) hz,_,0,(r.drop (HT.sIx xs.length 0 lo)).take (HT.sIx xs.length xs.length hi - HT.sIx xs.length 0 lo),ab8 _ rfl⟩
def gH:V->Bool
 | .non=>true
 | .bl _=>true
 | .int _=>true
 | .str _=>true
 | _=>false
def zr:V->V->Bool
 | .non,.non=>true
 | .bl a,.bl b=>a == b
 | .bl a,.int b=>(if a then 1 else 0) == b
 | .int a,.bl b=>a == (if b then 1 else 0)
 | .int a,.int b=>a == b
 | .str a,.str b=>a == b
 | _,_=>false
theorem zZ{y:V}{u:Value}(ry:aX y u)(rx:aX x v)(fy:gH y=true)(fx:gH x=true):SeqAt.EqAt A s u v (zr y x):=by
 cases y with
 | non=>
  cases ry
  cases x with
  | non=>cases rx;exact SeqAt.EqAt.same _
  | bl b=>cases rx;exact SeqAt.EqAt.none_bool b
  | int b=>obtain⟨t,rfl⟩:=rx;exact SeqAt.EqAt.none_int b t
  | str b=>obtain⟨t,rfl⟩:=rx;exact SeqAt.EqAt.none_str b t
  | _=>exact absurd (show false=true from fx) aa6
 | bl a=>
  cases ry
  cases x with
  | non=>cases rx;exact SeqAt.EqAt.bool_none a
  | bl b=>cases rx;exact SeqAt.EqAt.bool_bool a b
  | int b=>obtain⟨t,rfl⟩:=rx;exact SeqAt.EqAt.bool_int a b t
  | str b=>obtain⟨t,rfl⟩:=rx;exact SeqAt.EqAt.bool_str a b t
  | _=>exact absurd (show false=true from fx) aa6
 | int a=>
  obtain⟨t',rfl⟩:=ry
  cases x with
  | non=>cases rx;exact SeqAt.EqAt.int_none a t'
  | bl b=>cases rx;exact SeqAt.EqAt.int_bool a t' b
  | int b=>obtain⟨t,rfl⟩:=rx;exact SeqAt.EqAt.int_int a t' b t
  | str b=>obtain⟨t,rfl⟩:=rx;exact SeqAt.EqAt.int_str a t' b t
  | _=>exact absurd (show false=true from fx) aa6
 | str a=>
  obtain⟨t',rfl⟩:=ry
  cases x with
  | non=>cases rx;exact SeqAt.EqAt.str_none a t'
  | bl b=>cases rx;exact SeqAt.EqAt.str_bool a t' b
  | int b=>obtain⟨t,rfl⟩:=rx;exact SeqAt.EqAt.str_int a t' b t
  | str b=>obtain⟨t,rfl⟩:=rx;exact SeqAt.EqAt.str_str a t' b t
  | _=>exact absurd (show false=true from fx) aa6
 | _=>exact absurd (show false=true from fy) aa6
def vE(x:V)(u:Value):Bool:=match u with
 | .none=>zr .non x
 | .bool b=>zr (.bl b) x
 | .int i _=>zr (.int i) x
 | .str z _=>zr (.str z) x
 | _=>false
theorem z6{y:V}{u:Value}(r:aX y u)(f:gH y=true):vE x u=zr y x:=by
 cases y with
 | non=>cases r;rfl
 | bl b=>cases r;rfl
 | int i=>obtain⟨t,rfl⟩:=r;rfl
 | str z=>obtain⟨t,rfl⟩:=r;rfl
 | _=>exact absurd (show false=true from f) aa6
theorem kW:∀{xs:List V} {us:List Value},bh xs us->xs.all gH=true->us.any (vE x)=xs.any λy=>zr y x
 | _,_,.nil,_=>rfl
 | y::xs,u::us,.cons r t,f=>by
  rw [al3,ai3]at f;rw [aj7,aj7,z6 r f.1,kW t f.2]
theorem ji(rx:aX x v)(fx:gH x=true):∀{xs:List V} {us:List Value},bh xs us->xs.all gH=true->∀u∈us,SeqAt.EqAt A s u v (vE x u)
 | _,_,.nil,_=>λu hu=>by cases hu
 | y::xs,u::us,.cons r t,f=>λu' hu=>by
  rw [al3,ai3]at f;rcases ab0.mp hu with rfl | hu
  ·rw [z6 r f.1];exact zZ r rx f.1 fx
  ·exact ji rx fx t f.2 u' hu
def Af(x:V)(xs:List V):Bool:=xs.any λy=>zr y x
def Gu(K:Frag)(neg:Bool):R2:=λx y H Q=>∃p xs,y=.ref p/\(aH K H p xs\/cM K H p xs)/\gH x=true/\xs.all gH=true/\Q (.bl (if neg then !Af x xs else Af x xs)) H
theorem yW:dY X (compareOp .In) (Gu X.K false):=by
 rintro pins s Z H x y v u Q I rx ry ⟨p,xs,rfl,hq,fx,fs,q⟩;cases ry;rcases hq with hq | hq
 ·obtain⟨its,r,pl,hz⟩:=I.list hq
  refine SeqAt.in_listAt (vE x) pl.isList (λw hw=>ji rx fx r fs w (by simpa using hw)) ⟨.bl _,H,I,rfl,?_⟩;rw [show its.toArray.any (vE x)=its.any (vE x)by simp,kW r fs];exact q
 ·obtain⟨its,r,pl,hz⟩:=I.tuple hq
  refine SeqAt.in_tupleAt (vE x) pl (λw hw=>ji rx fx r fs w (by simpa using hw)) ⟨.bl _,H,I,rfl,?_⟩;rw [show its.toArray.any (vE x)=its.any (vE x)by simp,kW r fs];exact q
theorem sW:dY X (compareOp .NotIn) (Gu X.K true):=by
 rintro pins s Z H x y v u Q I rx ry ⟨p,xs,rfl,hq,fx,fs,q⟩;cases ry;rcases hq with hq | hq
 ·obtain⟨its,r,pl,hz⟩:=I.list hq
  refine SeqAt.notIn_listAt (vE x) pl.isList (λw hw=>ji rx fx r fs w (by simpa using hw)) ⟨.bl _,H,I,rfl,?_⟩;rw [show its.toArray.any (vE x)=its.any (vE x)by simp,kW r fs];exact q
 ·obtain⟨its,r,pl,hz⟩:=I.tuple hq
  refine SeqAt.notIn_tupleAt (vE x) pl (λw hw=>ji rx fx r fs w (by simpa using hw)) ⟨.bl _,H,I,rfl,?_⟩;rw [show its.toArray.any (vE x)=its.any (vE x)by simp,kW r fs];exact q
theorem si:cO X (.builtin "len") (λxs H Q=>∃p ys,xs=[.ref p]/\(aH X.K H p ys\/cM X.K H p ys)/\Q (.int ys.length) H):=by
 rintro pins s Z H xs us Q I r ⟨p,ys,rfl,hq,q⟩;obtain⟨u,rfl,rx⟩:=eZ r;cases rx;have hn:=kh;rcases hq with hq | hq
 ·obtain⟨its,r',pl,hz⟩:=I.list hq
  have hlen:=r'.length
  exact Calls.call_len_list pl.isList (by simp only [ab1]<;>omega) ⟨.int ys.length,H,I.tok _,⟨s.toks+1,by rw [ab1,hlen]⟩,q⟩
 ·obtain⟨its,r',pl,hz⟩:=I.tuple hq
  have hlen:=r'.length
  exact len_tuple pl (by simp only [ab1]<;>omega) ⟨.int ys.length,H,I.tok _,⟨s.toks+1,by rw [ab1,hlen]⟩,q⟩
theorem call_len_str:cO X (.builtin "len") (λxs H Q=>∃z,xs=[.str z]/\z.length<=sizeLine/\Q (.int z.length) H):=by
 rintro pins s Z H xs us Q I r ⟨z,rfl,hz,q⟩;obtain⟨u,rfl,t,rfl⟩:=eZ r;have hn:=kh;exact len_str () ⟨.int z.length,H,I.tok _,⟨_,rfl⟩,q⟩
theorem cO.or{f:Value}{r r':List V->Hp->VK->Prop}(h:cO X f r)(h':cO X f r'):cO X f (λxs H Q=>r xs H Q\/r' xs H Q):=by
 intro pins s Z H xs us Q I rs q;rcases q with q | q
 ·exact h pins s Z H xs us Q I rs q
 ·exact h' pins s Z H xs us Q I rs q
theorem sj:cO X (.type "list") (λxs H Q=>∃p ys,xs=[.ref p]/\(aH X.K H p ys\/cM X.K H p ys)/\∀l,H l=none->Q (.ref l) (upd H l (.lst ys))):=by
 rintro pins s Z H xs us Q I r ⟨p,ys,rfl,hq,q⟩;obtain⟨u,rfl,rx⟩:=eZ r;cases rx
 have fin:∀(its:List Value),bh ys its->ys.length<=sizeLine->∀(h':Heap) (c':Nat),(∀b o',s.heap.get? b=some o'->h'.get? b=some o')->
   h'.get? s.heap.objs.size=some { cls:=.type "list",dict:=none,data:=.seq its.toArray c',slots:=#[] }->EP X pins Z Q (.ref s.heap.objs.size) { s with heap:=h' }:=λits r' hz h' c' kp e=>
  ⟨.ref s.heap.objs.size,_,I.laid (t':=s.toks) kp (aa8 _) (show dZ X.prog X.w _ h' _ (.lst ys)from⟨hz,its,c',r',e⟩),rfl,q _ (I.hok.fresh (aa8 _))⟩
 rcases hq with hq | hq
 ·obtain⟨its,r',pl,hz⟩:=I.list hq
  have hlen:=r'.length;obtain⟨o,ho,hc,n,hd⟩:=pl.isList
  exact call_list_seq p (.inl rfl) ho hc hd (λh' c' kp e=>fin its r' hz h' c' kp e) (by simp only [ab1]<;>omega)
 ·obtain⟨its,r',pl,hz⟩:=I.tuple hq
  have hlen:=r'.length;obtain⟨o,ho,hc,n,hd⟩:=pl
  exact call_list_seq p (.inr rfl) ho hc hd (λh' c' kp e=>fin its r' hz h' c' kp e) (by simp only [ab1]<;>omega)
theorem p8:cO X (.type "tuple") (λxs H Q=>∃p ys,xs=[.ref p]/\((aH X.K H p ys/\∀l,H l=none->Q (.ref l) (upd H l (.tup ys)))\/(cM X.K H p ys/\Q (.ref p) H))):=by
 rintro pins s Z H xs us Q I r ⟨p,ys,rfl,h⟩;obtain⟨u,rfl,rx⟩:=eZ r;cases rx;rcases h with⟨hq,q⟩ | ⟨hq,q⟩
 ·obtain⟨its,r',pl,hz⟩:=I.list hq
  have hlen:=r'.length
  refine call_tuple_list pl.isList (λh' kp=>?_) (by simp only [ab1]<;>omega)
  have I1:aQ X pins Z H { s with heap:=h' }:=I.kept (t':=s.toks) kp
  have I2:aQ X pins Z (upd H h'.objs.size (.tup ys)) { s with heap:=h'.push { cls:=.type "tuple",data:=.seq its.toArray } }:=
   I1.laid (t':=s.toks) (λb o e=>aa5 _ e) (aa8 _) (show dZ X.prog X.w _ _ _ (.tup ys)from⟨hz,its,r',IsTup.new _ _⟩)
  exact⟨.ref h'.objs.size,_,I2,rfl,q _ (I1.hok.fresh (aa8 _))⟩
 ·obtain⟨its,r',pl,hz⟩:=I.tuple hq
  exact call_tuple_same pl ⟨.ref p,H,I,rfl,q⟩
def GG(K:Frag)(T:String)(x:V)(H:Hp):Prop:=match x with
 | .str _=>T="str"
 | .int _=>T="int"
 | .ref p=>(T="list"/\∃xs,aH K H p xs)\/(T="tuple"/\∃o,K.lookup p=some o/\o.cls=.type "tuple"/\o.dict=none)\/
   (T="dict"/\((∃kvs,H p=some (.dK kvs))\/∃kvs,H p=some (.dT kvs)))\/(T="set"/\∃S n,H p=some (.set S n))
 | _=>False
theorem Fq{T:String}(I:aQ X pins Z H s)(r:aX x v)(ty:GG X.K T x H):
  s.TypeIs v T/\∀a,v=.ref a->∃ob,s.heap.get? a=some ob/\ob.dict=none:=by
 cases x with
 | str z=>
  obtain⟨t,rfl⟩:=r;cases(show T="str" from ty);exact⟨typeIs_str s z t,λ_ e=>nomatch e⟩
 | int i=>
  obtain⟨t,rfl⟩:=r;cases(show T="int" from ty);exact⟨typeIs_int s i t,λ_ e=>nomatch e⟩
 | ref p=>
  cases r;rcases ty with⟨rfl,xs,hq⟩ | ⟨rfl,o,hk,hc,hd⟩ | ⟨rfl,hk⟩ | ⟨rfl,S,n,hk⟩
  ·obtain⟨its,_,pl,_⟩:=I.list hq
   refine⟨pl.isList.typeIs,λa e=>?_⟩;cases e;obtain⟨o,n,e,c,hd,_⟩:=pl;exact⟨o,e,hd⟩
  ·refine⟨⟨o,I.kIn p o hk,hc⟩,λa e=>?_⟩
   cases e;exact⟨o,I.kIn _ o hk,hd⟩
  ·have z:∃o,s.heap.get? p=some o/\o.ExactDict:=by
    rcases hk with⟨kvs,hk⟩ | ⟨kvs,hk⟩
    ·obtain⟨_,_,_,_,o,_,_,e,ex,_⟩:=I.hok p _ hk
     exact⟨o,e,ex⟩
    ·obtain⟨_,_,_,_,o,_,_,e,ex,_⟩:=I.hok p _ hk
     exact⟨o,e,ex⟩
   obtain⟨o,e,ex⟩:=z;refine⟨⟨o,e,ex.1⟩,λa e2=>?_⟩;cases e2;exact⟨o,e,ex.2.1⟩
  ·obtain⟨o,_,_,_,e,ex,_⟩:=I.hok p _ hk
   refine⟨⟨o,e,ex.1⟩,λa e2=>?_⟩;cases e2;exact⟨o,e,ex.2.1⟩
 | _=>exact False.elim ty
def Hx(K:Frag)(T:String)(r:V->List V->Hp->VK->Prop)(to:TE):TE:=λZ H Q=>to Z H λx H1=>GG K T x H1/\r x [] H1 Q
def Hw(K:Frag)(T:String)(r:V->List V->Hp->VK->Prop)(to:TE)(t:TA):TE:=λZ H Q=>to Z H λx H1=>GG K T x H1/\t Z H1 λxs H2=>r x xs H2 Q
variable {o e:Expr} {es:List Expr} {to:TE} {t:TA} {name:Str} {apos cpos:Pos} {T id:String} {r:V->List V->Hp->VK->Prop}
theorem Gn(pa:PlainAttrs T)(slot:Slot T name id)(hty:typeOf (.builtin id)=pure (.type "method_descriptor"))(hm:Ce X id r)(ho:PE X o to)(ha:PA X (e::es) t)
  (hbase:attributeBase o name X.env (eval o X.env)=eval o X.env:=by rfl)
  (hfew:((backTo cpos (starEach (e::es) X.env)).all (λx=>!x.1) && (backToKw cpos (keywordEach [] X.env)).all (λx=>x.1.isSome)
   && decide ((e::es).length+([]:List Keyword).length+(if ([]:List Keyword).isEmpty then 0 else 1) < 30))=true:=by rfl)
  (hline:(apos.endLine == cpos.line)=true:=by rfl) (hs:starEach (e::es) X.env=(false,eval e X.env)::starEach es X.env:=by rfl) (hplain:(backTo cpos (starEach es X.env)).any (·.1)=false:=by rfl) :
  PE X (.Call (.Attribute o name apos) (e::es) [] cpos) (Hw X.K T r to t):=by
 intro pins s Z H Q I h;refine wpAny_Call_method_late hbase hfew hline rfl (c7 (ho pins s Z H _ I h) λv s1 zq0=>?_);obtain⟨x,H1,I1,r1,ty,q1⟩:=zq0;obtain⟨h1,h2⟩:=Fq I1 r1 ty;refine⟨T,id,pa,slot,hty,h1,h2,?_⟩;have hA:=ha cpos pins s1 Z H1 _ I1 q1;rw [hs]at hA |-
 refine Calls.callWith_builtin (by show(false || (backTo cpos (starEach es X.env)).any (·.1))=false;rw [hplain]<;>rfl) (Calls.evalArgs_plain ?_)
 exact c7 hA λus s2 ⟨vs,H2,I2,r2,q2⟩=>hm pins s2 Z H2 x vs v us Q I2 r1 r2 q2
end
def Hb(X:Cx)(id:String)(r:V->List V->Hp->VK->Prop):Prop:=
 ∀(pins:List (Addr×Obj)) (s:Shared) (Z:St) (H:Hp) (x:V) (xs:List V) (v:Value) (us:List Value) (Q:VK),aQ X pins Z H s->aX x v->bh xs us->r x xs H Q->
  wpAny (model X.prog X.w) X.A (call (.builtin id) (v::us)) (EP X pins Z Q) X.xe s
theorem bh.one:∀{x:V} {us:List Value},bh [x] us->∃u,us=[u]/\aX x u
 | _,_,.cons r .nil=>⟨_,rfl,r⟩
theorem bh.rep{us:List Value}(h:bh xs us):∀k:Nat,bh (List.replicate k xs).flatten (List.replicate k us).flatten
 | 0=>.nil
 | k+1=>by
  rw [ae7,ae7,ah0,ah0];exact bh.append h (bh.rep h k)
theorem md(its:List Value):∀(k:Nat) (acc:List Value),
  List.foldl (λx1 x2=>x1++x2) acc.toArray (List.replicate k its.toArray)=(acc++(List.replicate k its).flatten).toArray
 | 0,acc=>by simp
 | k+1,acc=>by
  have e:acc.toArray++its.toArray=(acc++its).toArray:=by simp
  have e2:(acc++its)++(List.replicate k its).flatten=acc++(List.replicate (k+1) its).flatten:=by
   rw [ae7,ah0,ak5]
  rw [<-e2,<-md its k (acc++its),<-e,ae7,ae5]
section
variable {l b:Addr} {ys zs:List V}
theorem aQ.lset{its':List Value}{f:Array Value->Array Value}{t':Nat}(I:aQ X pins Z H s)(hH:H l=some (.lst xs))
  (e:s.heap.get? l=some { cls:=.type "list",data:=.seq its.toArray n }) (hf:f its.toArray=its'.toArray) (hv:bh ys its') (hz:ys.length<=sizeLine) :
  aQ X pins Z (upd H l (.lst ys)) { s with heap:=s.heap.update l (Obj.mapSeq f),toks:=t' }:=by
 have q:=PySem.IsL.update e f;rw [hf]at q;refine I.write (x:=l) (e:=l) (by rw [hH];exact trivial) (.inl rfl) (λb' u hb hu=>(Heap.get?_update_other s.heap (Obj.mapSeq f) (Ne.symm hb)).trans hu) ⟨_,q⟩ ?_;exact⟨hz,its',_,hv,q⟩
theorem aQ.lnew{t':Nat}(I:aQ X pins Z H s)(hv:bh ys its)(hz:ys.length<=sizeLine):
  aQ X pins Z (upd H s.heap.objs.size (.lst ys)) { s with heap:=s.heap.push { cls:=.type "list",data:=.seq its.toArray },toks:=t' }:=
 I.laid (λ_ _ q=>aa5 _ q) (aa8 _) ⟨hz,its,0,hv,ab8 _ rfl⟩
theorem aQ.fresh(I:aQ X pins Z H s):H s.heap.objs.size=none:=I.hok.fresh (aa8 _)
theorem aQ.lstM(I:aQ X pins Z H s)(hH:H l=some (.lst xs)):xs.length<=sizeLine/\∃(its:List Value) (n:Nat),bh xs its/\xs.length=its.length/\s.heap.get? l=some { cls:=.type "list",data:=.seq its.toArray n }:=by
 obtain⟨z,its,n,r,e⟩:=I.hok l _ hH;exact⟨z,its,n,r,r.length,e⟩
theorem uw(h:n<=sizeLine):Builtin.List.listTooLong n=false:=by
 unfold Builtin.List.listTooLong;exact decide_eq_false ()
end
def Dr:V->List V->Hp->VK->Prop:=λx vs H Q=>∃l xs y,x=.ref l/\vs=[y]/\H l=some (.lst xs)/\xs.length < sizeLine/\Q .non (upd H l (.lst (xs++[y])))
theorem cE:Hb X "list.append" Dr:=by
 rintro pins s Z H x vs v us Q I rx rv ⟨l,xs,y,rfl,rfl,hH,hz,q⟩;cases rx;obtain⟨u,rfl,ru⟩:=rv.one;obtain⟨z,its,n,r,hl,e⟩:=I.lstM hH;refine call_meets F.slot_list_append ⟨_,e,rfl⟩ F.entry_list_append (F.args_list_append_2 _ _) (PySem.list_append l its.toArray n u (by rw [ab1];omega)) ⟨e,?_⟩;refine⟨.non,_,I.lset (its':=its++[u]) hH e (by simp) (r.append (.cons ru .nil)) ?_,rfl,q⟩;rw [ab4,List.length_singleton];omega
def Dv:V->List V->Hp->VK->Prop:=λx vs H Q=>∃l b xs zs,x=.ref l/\vs=[.ref b]/\H l=some (.lst xs)/\H b=some (.lst zs)/\xs.length+zs.length<=sizeLine/\Q .non (upd H l (.lst (xs++zs)))
theorem yJ:Hb X "list.extend" Dv:=by
 rintro pins s Z H x vs v us Q I rx rv ⟨l,b,xs,zs,rfl,rfl,hH,hB,hz,q⟩;cases rx;obtain⟨u,rfl,ru⟩:=rv.one;cases ru;obtain⟨z,its,n,r,hl,e⟩:=I.lstM hH;obtain⟨z2,its2,n2,r2,hl2,e2⟩:=I.lstM hB
 have hsz:its.toArray.size+its2.toArray.size<=sizeLine:=by rw [ab1,ab1];omega
 have hlong:¬(!its.toArray.isEmpty && Builtin.List.listTooLong (its.toArray.size+its2.toArray.size))=true:=by
  rw [uw hsz,Bool.and_false];exact aa6
 refine call_meets F.slot_list_extend ⟨_,e,rfl⟩ F.entry_list_extend (F.args_list_extend_2 _ _)
  (AutoSeq1.list_extend_list_list_0 l its.toArray n b its2.toArray n2 hlong (by rw [ab1];omega) ()) ⟨e,e2,?_⟩
 refine⟨.non,_,I.lset (its':=its++its2) hH e (by simp) (r.append r2) ?_,rfl,q⟩;rw [ab4];omega
def Ds:R2:=λx y H Q=>∃l b xs zs,x=.ref l/\y=.ref b/\H l=some (.lst xs)/\H b=some (.lst zs)/\xs.length+zs.length<=sizeLine/\∀p,H p=none->Q (.ref p) (upd H p (.lst (xs++zs)))
theorem op_cat:dY X (binaryOp .Add) Ds:=by
 rintro pins s Z H x y v u Q I rx ry ⟨l,b,xs,zs,rfl,rfl,hH,hB,hz,q⟩;cases rx;cases ry;obtain⟨z,its,n,r,hl,e⟩:=I.lstM hH;obtain⟨z2,its2,n2,r2,hl2,e2⟩:=I.lstM hB;refine PySem.P.add_list e e2 ?_ (by rw [ab1,ab1];omega)
 have ea:its.toArray++its2.toArray=(its++its2).toArray:=by simp
 rw [ea];exact⟨.ref _,_,I.lnew (t':=s.toks) (r.append r2) (by rw [ab4];omega),rfl,q _ I.fresh⟩
def E3:R2:=λx y H Q=>∃l k xs,x=.ref l/\y=.int k/\H l=some (.lst xs)/\-(2 ^ 63)<=k/\k < 2 ^ 63/\xs.length * k.toNat<=sizeLine/\
 ∀p,H p=none->Q (.ref p) (upd H p (.lst (List.replicate k.toNat xs).flatten))
theorem sC(xs:List α)(k:Nat):(List.replicate k xs).flatten.length=k * xs.length:=by
 induction k with
 | zero=>simp
 | succ k ih=>rw [ae7,ah0,ab4,ih,am7,Nat.add_comm]
theorem ER:dY X (binaryOp .Mult) E3:=by
 rintro pins s Z H x y v u Q I rx ry ⟨l,k,xs,rfl,rfl,hH,h1,h2,hz,q⟩;cases rx;obtain⟨t,rfl⟩:=ry;obtain⟨z,its,n,r,hl,e⟩:=I.lstM hH
 have hlen:its.toArray.size * k.toNat<=sizeLine:=by rw [ab1,<-hl];exact hz
 have hcap:¬its.toArray.size * k.toNat > (2 ^ 63 - 1) / 8:=by
  have:(sizeLine:Nat)<=(2 ^ 63 - 1) / 8:=by decide
  omega
 have hfit:¬(!Builtin.List.listFitsIndex k)=true:=by
  rw [fitsIndex_both h1 h2];exact aa6
 have hlong:¬Builtin.List.listTooLong (its.toArray.size * k.toNat)=true:=by
  rw [uw hlen];exact aa6
 have hnew:List.foldl (λx1 x2=>x1++x2) #[] (List.replicate (if its.toArray.isEmpty=true then 0 else k.toNat) its.toArray)=(List.replicate k.toNat its).flatten.toArray:=by
  have f0:∀m:Nat,List.foldl (λx1 x2=>x1++x2) #[] (List.replicate m its.toArray)=(List.replicate m its).flatten.toArray:=λm=>by
   have:=md its m []
   rw [List.nil_append]at this;exact this
  rw [f0]
  cases its with
  | nil=>simp
  | cons a r'=>rw [if_neg (by simp)]
 refine wpAny_binaryOp_repeat_ref (T:="list") (U:="int") ∅ ⟨_,e,rfl⟩ (λs'=>typeIs_int s' k t) noFill_list_mul F.fills_int_mul F.slot_int_rmul repeat_list F.slot_int_index.lookup
  (call_meets F.slot_int_rmul (typeIs_int s k t) F.entry_int_rmul (F.args_int_rmul_2 _ _) (int___rmul___int_list k t l its.toArray n)
   ⟨e,rfl,⟨_,e,rfl⟩,call_meets F.slot_list_mul ⟨_,e,rfl⟩ F.entry_list_mul (F.args_list_mul_2 _ _) (AutoListH.list___mul___list_int_3 l its.toArray n k t hfit hcap hlong) ⟨e,?_⟩⟩)
 rw [hnew];exact⟨.ref _,_,I.lnew (t':=s.toks) (r.rep k.toNat) (by rw [sC,ao5];exact hz),rfl,q _ I.fresh⟩
section
variable {prog:Program} {w:World} {E:Value->Shared->Prop}
set_option maxRecDepth 100000 in
end
end L2
namespace Att
open PySem PySem.W PySem.Calls PyProof.Rows
theorem nk{P:Params}{h:Heap}:∀(ns:List Int) (vs:List Value),WellAll P h vs (ns.map WData.int)->IntsAre vs ns:=by
 intro ns
 induction ns with
 | nil=>
  intro vs w;rw [ah3]at w;cases w;exact .nil
 | cons n ns ih=>
  intro vs w;rw [ad0]at w
  cases w with
  | cons a b=>
   cases a;exact .cons _ _ (ih _ b)
theorem script_of{l:OpenLaw}{n:Nat}(hn:l.most=some n){P:Params}{h:Heap}{args:List WData}{vals:List Value}
  (hpre:l.row.toRowW.claim.pre args=true) (hwl:WellAll P h vals args) :
  ∃a vs ns,vals=[Value.ref a]/\args=[WData.list (ns.map WData.int)]/\h.get? a=some { cls:=.type "list",data:=.seq vs.toArray }/\IntsAre vs ns/\ns.length<=n:=by
 have hsh:WShape.hasAll [] args [.list .int]=true:=(pre_splitW hpre).1;have hc:l.pre.holds [] { args:=args }=true:=(pre_splitW hpre).2;obtain⟨d,r,rfl,h1,h2⟩:=hasAllW_cons hsh;obtain rfl:=hasAllW_nil h2;obtain⟨xs,rfl,h3⟩:=hasW_list h1;obtain⟨ns,rfl⟩:=items_int h3
 have hlen:ns.length<=n:=by
  unfold OpenLaw.pre at hc
  have h4:(WTm.not (.lt (.lit (.int (n:Int))) (.len (.arg 0)))).holds [] { args:=[.list (ns.map .int)] }=true:=by
   have h4:=(holds_andW hc).1;rw [hn]at h4;exact h4
  have h5:=condW_of h4 (w_not (w_lt w_lit (w_len_list (w_arg rfl))));rw [aa0]at h5;refine Nat.le_of_not_lt λq=>?_
  have q':(n:Int) < ((ns.length:Nat):Int):=by omega
  first
   | (rw [decide_eq_true q']at h5;exact absurd h5 ∅)
   | (simp at h5;omega)
 cases hwl with
 | cons w1 w2=>
  cases w2
  cases w1 with
  | list ho hall=>exact⟨_,_,ns,rfl,rfl,ho,nk ns _ hall,hlen⟩
theorem post_true(l:OpenLaw)(args:List WData):l.row.toRowW.claim.post args (.bool true) args=true:=
 postW_of (r:=l.row.toRowW) (X:=(true == true))
  (show WShape.has [] (.bool true) .bool=true by first | rfl | decide | simp [WShape.has,WShape.arms,WShape.armsAll])
  (show(WTm.eq .res (.lit (.bool true))).value [] { args:=args,res:=some (.bool true),after:=args }=some (.bool (true == true))from w_eq_bool (w_res rfl) w_lit) rfl
section
variable {prog:Program} {w:World} {A:Around} {E:Value->Shared->Prop} {s:Shared} {K:Frag}
end
end Att
namespace L2
open PySem PySem.Spec PyProof.Rows
theorem rT:∀{vs:List Value} {ns:List Int},IntsAre vs ns->bh (ns.map V.int) vs
 | _,_,.nil=>.nil
 | _,_,.cons n t h=>.cons ⟨t,rfl⟩ (rT h)
def El(H:Hp):Prop:=∀b,H b=none\/∃o xs,H b=some (.frz o (.lst xs))
theorem AA{P:Program}{w:World}{K:Frag}{mg mb:Str->Option Value}{CX:B6}{k:Nat}{fa a:Addr}{fd:FuncData}{x:Str}{sp:Sp}{Zg:Shared}{vs:List Value}{ns:List Int}
  (KX:K.In Zg.heap) (hns:Zg.heap.Ns mainGlobals mg) (hb:Zg.heap.Ns builtinsNs mb) (hbb:∀x:Str,x≠"__name__"->mb x=bootBuiltins x) (hlim:Zg.heap.NoLimit) (hg:Zg.gens=#[])
  (ha:Zg.heap.get? a=some { cls:=.type "list",data:=.seq vs.toArray }) (hi:IntsAre vs ns) (hl:ns.length<=sizeLine) (hr:dW k callerA)
  (F:∀base:Heap,K.In base->base.Ns mainGlobals mg->aK P w K mg base CX k fa fd [x] sp) (hbind:∀(s:Shared) (u:Value),BindsTo s fd ⟨[u],[]⟩ [(x,u)])
  (hsp:∀H:Hp,El H->aH K H a (ns.map V.int)->sp [.ref a] H (λv _=>v=.bl true) λ_ _ _=>False)
  (hCX:∀H e s',CX [] H Zg (λ_ _ _=>False) e s'->False) :
  codeAny (model P w) callerA (.call (.ref fa) ⟨[.ref a],[]⟩) (λr s'=>r=.ok (.ret (.bool true))/\OldK Zg.heap s'.heap/\s'.os=Zg.os/\AllBare s'.gens) Zg:=by
 have rv:=rT hi;have lenV:=hi.length
 have core:∀H:Hp,El H->aH K H a (ns.map V.int)->kI P w H Zg.heap->(∀b,H b≠none->b=a)->(H a≠none->K.lookup a=none)->
   codeAny (model P w) callerA (.call (.ref fa) ⟨[.ref a],[]⟩) (λr s'=>r=.ok (.ret (.bool true))/\OldK Zg.heap s'.heap/\s'.os=Zg.os/\AllBare s'.gens) Zg:=by
  intro H hO hS hok hA hK;have base_of:∀{b:Addr} {o:Obj},Zg.heap.get? b=some o->H b=none->(sk Zg.heap H).get? b=some o:=λe n=>Ac e n
  have noA:∀{b:Addr} {o:Obj} {es:Array DictEntry} {ep:Nat},Zg.heap.get? b=some o->o.data=.dict es ep->H b=none:=λ{b o es ep} e d=>by
   cases q:H b with
   | none=>rfl
   | some u=>
    have e':b=a:=hA b (by rw [q];simp);subst e';rw [ha]at e;cases e;have d':Data.seq vs.toArray _=Data.dict es ep:=d;cases d'
  have nsK:∀{b:Addr} {m:Str->Option Value},Zg.heap.Ns b m->(sk Zg.heap H).Ns b m:=λ{b m} ⟨o,es,ep,e,d,r⟩=>⟨o,es,ep,base_of e (noA e d),d,r⟩
  have hKb:K.In (sk Zg.heap H):=λb o e=>base_of (KX b o e) (by
   cases q:H b with
   | none=>rfl
   | some u=>
    have e':b=a:=hA b (by rw [q];simp);subst e'
    rw [hK (by rw [q];simp)]at e;cases e)
  have hM:Mod K mg (sk Zg.heap H):=⟨hKb,nsK hns,⟨mb,nsK hb,hbb⟩,let ⟨mc,h1,h2⟩:=hlim;⟨mc,nsK h1,h2⟩⟩;have e0:vw P w K mg (sk Zg.heap H) callerA [] Zg H:=⟨rfl,hM,λb o e=>CW e,Nat.le_of_eq (yB _ _),trivial,λb hb=>absurd (show b∈([]:List Addr)from hb) (by simp),hok,.of_eq hg⟩;refine ao4 ((F _ hKb (nsK hns)).run callerA [] Zg H ⟨[.ref a],[]⟩ [.ref a] [.ref a] _ _ hr e0 (hbind Zg (.ref a)) (.cons rfl .nil) (hsp H hO hS)) λr s' h=>?_
  cases r with
  | error e=>exact(hCX H e s' h).elim
  | ok fl=>
   cases fl with
   | next=>exact False.elim h
   | brk=>exact False.elim h
   | cont=>exact False.elim h
   | ret u=>
    obtain⟨v,H',os,bare,un,hok',r',q⟩:=h;have q':v=.bl true:=q;subst q';obtain rfl:u=Value.bool true:=r';refine⟨rfl,OldK.of_keep λb o e=>?_,os,bare⟩
    cases q:H b with
    | none=>exact un.keep b o e q (by intro z;exact absurd (show b∈([]:List Addr)from z) (by simp)) (by simp)
    | some u=>
     rcases hO b with z | ⟨ob,xs,z⟩
     ·rw [q]at z;cases z
     ·have z2:=un.frzs b ob _ z
      obtain⟨e1,_⟩:=hok b _ z;obtain⟨e2,_⟩:=hok' b _ z2;rw [e]at e1;cases e1;exact e2
 cases hk:K.lookup a with
 | some o=>
  have e:=KX a o hk;rw [ha]at e;cases e;refine core (λ_=>none) (λ_=>.inl rfl) (.inr ⟨_,vs.toArray,_,hk,rfl,rfl,rfl,by rw [ab1,lenV];exact hl,by simpa using rv⟩) (λb u z=>by have z':(none:Option HO)=some u:=z;cases z') (λb z=>absurd rfl z) λz=>absurd rfl z
 | none=>
  refine core (λb=>if b=a then some (.frz { cls:=.type "list",data:=.seq vs.toArray } (.lst (ns.map V.int)))else none) (λb=>?_) (.inl (.inr ⟨{ cls:=.type "list",data:=.seq vs.toArray },if_pos rfl⟩)) (λb u z=>?_) (λb z=>?_) λ_=>hk
  ·by_cases hb:b=a
   ·exact .inr ⟨_,_,if_pos hb⟩
   ·exact .inl (if_neg hb)
  ·by_cases hb:b=a
   ·have z':=(if_pos hb).symm.trans z
    cases z';subst hb;exact⟨ha,by rw [aa0];exact hl,vs,_,rv,ha⟩
   ·have z':=(if_neg hb).symm.trans z
    cases z'
  ·by_cases hb:b=a
   ·exact hb
   ·exact absurd (if_neg hb) z
abbrev KOf{K:Frag}{h:Heap}(_:K.In h):Frag:=K
end L2
namespace L2
open PySem PySem.Spec PyProof.Rows
variable {H:Hp} {f:Addr} {qual x:Str} {st:Stmt}
def aS(s:Stmt)(j:Nat):Stmt:=match s with
 | .ClassDef _ _ _ body _ _ _ _ _ _ _=>body.getD j (.Pass ⟨0,0,0,0⟩)
 | _=>.Pass ⟨0,0,0,0⟩
def cz(s:Stmt):Arguments:=match s with
 | .FunctionDef _ a _ _ _ _ _ _ _ _=>a
 | _=>{ posonlyargs:=[],args:=[],vararg:=none,kwonlyargs:=[],kw_defaults:=[],kwarg:=none,defaults:=[] }
def bX(s:Stmt):List Stmt:=match s with
 | .FunctionDef _ _ b _ _ _ _ _ _ _=>b
 | _=>[]
def ak(s:Stmt):Scope:=match s with
 | .FunctionDef _ _ _ _ _ _ sc _ _ _=>sc
 | _=>{ kind:=.function,names:=[],isGenerator:=false,isCoroutine:=false }
abbrev bP:B6:=λ_ _ _ _ _ _=>False
abbrev E0:XK:=λ_ _ _=>False
theorem rH{X:Cx}:nS bP X E0:=λ_ _ _ _ _ _ _ h=>h.elim
structure bV(K:Frag)(x qual:Str)(st:Stmt)(f:Addr)(fd:FuncData):Prop where
 ex:∃(oc:Value) (od:Option Addr) (kV doc pm:Value) (an:Option Addr) (cdv ct:Value) (osl:Array (Option Value)),
  fd=fnOf x qual (cz st) (bX st) (ak st) .none kV doc pm an cdv ct/\K.lookup f=some ⟨oc,od,.func fd,osl⟩/\codeIn K cdv qual=true
 kp:keepIn K (.ref f)=true
section
variable {P:Program} {w:World} {K:Frag} {mg:Str->Option Value} {base:Heap}
theorem bV.ok{fd:FuncData}{N ps:List Str}{k:Nat}{sp:Sp}(F:bV K x qual st f fd)(S:ax N ps (ak st))
  (hbody:∀(cdv:Value) (A:Around) (outer:List Env) (s:Shared) (H:Hp) (vs:List V) (Q:VK) (E:XK),dW k (A.deeper (envOfC qual (ak st) s.heap.objs.size f cdv))->sp vs H Q E->
   vs.length=ps.length/\∃t,w6 (tZ bP P w K mg base N qual (ak st) f cdv A outer s H E).nox (bX st) t/\t { nx:=λ_ H'=>Q .non H',rt:=Q } (start N vs) H):aK P w K mg base bP (k+1) f fd ps sp:=by
 obtain⟨oc,od,kV,doc,pm,an,cdv,ct,osl,rfl,lk,hcd⟩:=F.ex;refine DU lk hcd S (λA o s vs H Q E hr hsp=>(hbody cdv A o s H vs Q E (hr.deeper _) hsp).1) λA outer s H vs Q E hr hsp=>?_;obtain⟨_,t,h,q⟩:=hbody cdv A outer s H vs Q E hr hsp;exact⟨t,h.nox,q⟩
theorem bV.binds{fd:FuncData}{ps:List Str}(F:bV K x qual st f fd)
  (h:∀(kV doc pm:Value) (an:Option Addr) (cdv ct:Value) (us:List Value),us.length=ps.length->bindArgs (fnOf x qual (cz st) (bX st) (ak st) .none kV doc pm an cdv ct) ⟨us,[]⟩=pure (ps.zip us)):dm K fd ps []:=by
 obtain⟨oc,od,kV,doc,pm,an,cdv,ct,osl,rfl,lk,hcd⟩:=F.ex;exact .all (h kV doc pm an cdv ct)
theorem fun_mk{oc:Value}{od an:Option Addr}{osl:Array (Option Value)}{kV doc pm cdv ct:Value}(l:K.lookup f=some ⟨oc,od,.func (fnOf x qual (cz st) (bX st) (ak st) .none kV doc pm an cdv ct),osl⟩)
  (c:codeIn K cdv qual=true) (k:keepIn K (.ref f)=true):bV K x qual st f (fnOf x qual (cz st) (bX st) (ak st) .none kV doc pm an cdv ct):=⟨⟨oc,od,kV,doc,pm,an,cdv,ct,osl,rfl,l,c⟩,k⟩
end
section
variable {X:Cx}
end
def av(H H':Hp):Prop:=∀b o,H b=some o->H' b=some o
theorem av.refl(H:Hp):av H H:=λ_ _ h=>h
theorem av.trans{H1 H2:Hp}(a:av H H1)(b:av H1 H2):av H H2:=λc o h=>b c o (a c o h)
theorem av.free{H':Hp}(e:av H H'){l:Addr}(h:H' l=Option.none):H l=Option.none:=by
 cases q:H l with
 | none=>rfl
 | some o=>
  rw [e l o q]at h;cases h
theorem av.seq{K:Frag}{H':Hp}{a:Addr}{xs:List V}(e:av H H')(h:aH K H a xs):aH K H' a xs:=by
 rcases h with(h | ⟨o,h⟩) | h
 ·exact .inl (.inl (e _ _ h))
 ·exact .inl (.inr ⟨o,e _ _ h⟩)
 ·exact .inr h
end L2
namespace GM
end GM
set_option maxHeartbeats 4000000
namespace L2
open PySem PySem.Spec PyProof.Rows
variable {E:Value->Shared->Prop} {F:List V->Hp->Prop} {H:Hp} {K:Frag} {Q:VK} {R:It->Hp->Prop} {X:Cx} {a:Addr} {cl:List (Str×Addr)} {env:Env} {g:TG} {i j:Int} {js:List Nat} {pins:List (Addr×Obj)} {pos:Pos} {r:V->Hp->(It->Hp->Prop)->Prop} {s:Shared} {scope:Scope} {tg:Expr} {v:V} {w:World} {x z:Str} {xs:List V} {Z:St}
def iU(cells:List (Str×Addr)):List (Str×NameKind)->List (Str×Addr)->List (Str×Addr)
 | [],cs=>cs
 | (n,k)::r,cs=>iU cells r (if k == .free then(n,(cells.lookup n).getD 0)::cs else cs)
theorem j4(h:∀y∈scope.names,y.2=.free->∃c,env.cells.lookup y.1=some c):closureFor scope env=pure (iU env.cells scope.names []):=by
 simp only [closureFor];generalize scope.names=l at h |-
 have key:∀(l:List (Str×NameKind)) (cs:List (Str×Addr)),(∀y∈l,y.2=.free->∃c,env.cells.lookup y.1=some c)->
   (forIn l cs (λ(x:Str×NameKind) (r:List (Str×Addr))=>(if (x.snd == NameKind.free)=true then(do let a <-cellOf env x.fst;pure (ForInStep.yield ((x.fst,a)::r)))else pure (ForInStep.yield r):Sem (ForInStep (List (Str×Addr))))):Sem (List (Str×Addr)))=pure (iU env.cells l cs):=by
  intro l
  induction l with
  | nil=>intro cs _;rfl
  | cons x r ih=>
   intro cs h;obtain⟨n,k⟩:=x;have hr:∀y∈r,y.2=.free->∃c,env.cells.lookup y.1=some c:=λy hy=>h y (ad9 _ hy);rw [af5]
   by_cases hk:k=.free
   ·subst hk
    obtain⟨c,hc⟩:=h (n,.free) ad8 rfl
    have e:cellOf env n=pure c:=by unfold cellOf;rw [show env.cells.lookup n=some c from hc]
    simp only [beq_self_eq_true,if_true,e];show(forIn r ((n,c)::cs) _:Sem _)=_;rw [ih _ hr];simp only [iU,beq_self_eq_true,if_true];rw [show env.cells.lookup n=some c from hc];rfl
   ·have hb:(k == NameKind.free)=false:=by simpa using hk
    simp only [hb,ae3,if_false];show(forIn r cs _:Sem _)=_;rw [ih _ hr];simp only [iU,hb,ae3,if_false]
 rw [key l [] h];rfl
theorem rh{cells:List (Str×Addr)}:∀{l:List (Str×NameKind)} {cs:List (Str×Addr)} {x:Str} {c:Addr},(∀y∈l,y.2=.free->∃c,cells.lookup y.1=some c)->
  (∀x c,cs.lookup x=some c->cells.lookup x=some c)->(iU cells l cs).lookup x=some c->cells.lookup x=some c
 | [],_,_,_,_,hs,e=>hs _ _ e
 | (n,k)::r,cs,x,c,h,hs,e=>by
  refine rh (l:=r) (λy hy=>h y (ad9 _ hy)) ?_ e;intro z d
  by_cases hk:k=.free
  ·subst hk
   obtain⟨c',hc'⟩:=h (n,.free) ad8 rfl;have hc'':cells.lookup n=some c':=hc';simp only [beq_self_eq_true,if_true,ag3,hc'',Option.getD_some]
   cases hz:z == n with
   | true=>
    have:z=n:=by simpa using hz
    subst this;intro q;cases q;exact hc''
   | false=>exact hs z d
  ·have hb:(k == NameKind.free)=false:=by simpa using hk
   simp only [hb,ae3,if_false];exact hs z d
theorem l7{cells:List (Str×Addr)}:∀{l:List (Str×NameKind)} {cs:List (Str×Addr)} {x:Str},((x,NameKind.free)∈l\/∃c,cs.lookup x=some c)->∃c,(iU cells l cs).lookup x=some c
 | [],_,_,h=>by
  rcases h with h | h
  ·cases h
  ·exact h
 | (n,k)::r,cs,x,h=>by
  refine l7 (l:=r) ?_;rcases h with h | ⟨c,h⟩
  ·rcases ab0.mp h with e | h
   ·cases e
    refine .inr ⟨(cells.lookup n).getD 0,?_⟩;simp only [beq_self_eq_true,if_true,ag3]
   ·exact .inl h
  ·by_cases hk:k=.free
   ·subst hk
    simp only [beq_self_eq_true,if_true,ag3]
    cases hz:x == n with
    | true=>exact .inr ⟨_,rfl⟩
    | false=>exact .inr ⟨c,h⟩
   ·have hb:(k == NameKind.free)=false:=by simpa using hk
    simp only [hb,ae3,if_false];exact .inr ⟨c,h⟩
theorem gp{env:Env}:∀{names:List (Str×NameKind)} {x:Str},
  (names.map λ(n,k)=>if (k == NameKind.free && env.scope.kind == .function && env.kindOf n == some .cell)then(n,NameKind.cell)else(n,k)).lookup x =
   (names.lookup x).map λk=>if (k == NameKind.free && env.scope.kind == .function && env.kindOf x == some .cell)then NameKind.cell else k
 | [],_=>rfl
 | (n,k)::r,x=>by
  have ih:=@gp env r x;show List.lookup x ((if (k == NameKind.free && env.scope.kind == .function && env.kindOf n == some .cell)=true then(n,NameKind.cell)else(n,k))::_)=_
  cases hx:x == n with
  | true=>
   have e:x=n:=by simpa using hx
   subst e
   by_cases hc:(k == NameKind.free && env.scope.kind == .function && env.kindOf x == some .cell)=true
   ·rw [if_pos hc];simp only [ag3,hx,al8];rw [if_pos hc]
   ·rw [if_neg hc];simp only [ag3,hx,al8];rw [if_neg hc]
  | false=>
   by_cases hc:(k == NameKind.free && env.scope.kind == .function && env.kindOf n == some .cell)=true
   ·rw [if_pos hc];simp only [ag3,hx];exact ih
   ·rw [if_neg hc];simp only [ag3,hx];exact ih
theorem mem_of_lookup{κ ν:Type}[BEq κ][LawfulBEq κ]:∀{l:List (κ×ν)} {x:κ} {v:ν},l.lookup x=some v->(x,v)∈l
 | [],_,_,h=>by cases h
 | (n,k)::r,x,v,h=>by
  rw [ag3]at h
  cases hx:x == n with
  | true=>
   rw [hx]at h
   have e:x=n:=by simpa using hx
   cases h;rw [e];exact ad8
  | false=>
   rw [hx]at h;exact ad9 _ (mem_of_lookup h)
structure bD(X:Cx)(scope:Scope)(js:List Nat):Prop where
 kind:scope.kind=.function
 cell:∀y∈scope.names,y.2≠.cell
 names:∀y∈scope.names,y.2=.local->scope.names.lookup y.1=some .local
 free:∀y∈scope.names,y.2=.free->X.env.kindOf y.1=some .cell\/X.env.kindOf y.1=some .free
 js:∀j∈js,scope.names.lookup (X.N.getD j "")=some .free
def xa(out:Scope)(N:List Str)(scope:Scope)(js:List Nat):Bool:=
 (scope.kind == .function) && scope.names.all (λy=>y.2 != .cell) && scope.names.all (λy=>y.2 != .local || scope.names.lookup y.1 == some .local) &&
  scope.names.all (λy=>y.2 != .free || (out.names.lookup y.1 == some .cell || out.names.lookup y.1 == some .free)) && js.all λj=>scope.names.lookup (N.getD j "") == some .free
theorem bD.of(h:xa X.env.scope X.N scope js=true):bD X scope js:=by
 simp only [xa,ai3,af6]at h;obtain⟨⟨⟨⟨h1,h2⟩,h3⟩,h4⟩,h5⟩:=h;refine⟨by simpa using h1,λy hy=>by simpa using h2 y hy,λy hy e=>?_,λy hy e=>?_,λj hj=>by simpa using h5 j hj⟩
 ·have:=h3 y hy
  rw [e]at this;simpa using this
 ·have:=h4 y hy
  rw [e]at this;simpa [Env.kindOf]using this
def p9(X:Cx)(scope:Scope)(own:List Str)(js:List Nat)(C:Addr)(s:Shared)(H:Hp)(ex:List Addr)(pn:List (Addr×Obj))(E:Value->Shared->Prop):Cx where
 prog:=X.prog
 w:=X.w
 K:=X.K
 mg:=X.mg
 base:=X.base
 A:=X.A
 N:=own++js.map λj=>X.N.getD j ""
 Zh:=s
 Z2:=H
 env:=compEnvC scope (iU X.env.cells scope.names []) C X.env
 outer:=X.stack
 stack:=X.stack
 ex:=ex
 fn:=λ_=>false
 calm:=X.calm
 pn:=pn
 xe:=E
def Zr(n:Nat)(js:List Nat)(Z:St):St:=List.replicate n none++js.map λj=>Z.getD j none
section
variable {H':Hp} {own:List Str} {C:Addr} {fp:List Addr}
theorem bD.clos(ok:bD X scope js)(I:aQ X pins Z H s):∀y∈scope.names,y.2=.free->∃c,X.env.cells.lookup y.1=some c:=λy hy e=>I.ok.has y.1 (ok.free y hy e)
theorem bD.sub(ok:bD X scope js)(I:aQ X pins Z H s){c:Addr}(e:(iU X.env.cells scope.names []).lookup x=some c):X.env.cells.lookup x=some c:=
 rh (ok.clos I) (λ_ _ z=>by cases z) e
theorem bD.kindOf(ok:bD X scope js)(h:(compEnvC scope cl C X.env).kindOf x=some .cell\/(compEnvC scope cl C X.env).kindOf x=some .free):(x,NameKind.free)∈scope.names:=by
 have e:(compEnvC scope cl C X.env).kindOf x=(scope.names.lookup x).map λk=>if (k == NameKind.free && X.env.scope.kind == .function && X.env.kindOf x == some .cell)then NameKind.cell else k:=gp;rw [e]at h
 cases q:scope.names.lookup x with
 | none=>rw [q]at h;simp at h
 | some k=>
  have hm:=mem_of_lookup q
  by_cases hk:k=.free
  ·subst hk;exact hm
  ·have hb:(k == NameKind.free)=false:=by simpa using hk
   rw [q]at h;simp only [al8,hb,ah4,ae3,if_false]at h;rcases h with h | h
   ·exact absurd (Option.some.inj h) (ok.cell _ hm)
   ·exact absurd (Option.some.inj h) hk
theorem bD.isFree(ok:bD X scope js)(h:scope.names.lookup x=some .free):(compEnvC scope cl C X.env).kindOf x=some .cell\/(compEnvC scope cl C X.env).kindOf x=some .free:=by
 have e:(compEnvC scope cl C X.env).kindOf x=(scope.names.lookup x).map λk=>if (k == NameKind.free && X.env.scope.kind == .function && X.env.kindOf x == some .cell)then NameKind.cell else k:=gp;rw [e,h];simp only [al8]
 split
 ·exact .inl rfl
 ·exact .inr rfl
theorem Ct(ok:bD X scope js)(I:aQ X pins Z H s)(hC:s.heap.objs.size<=C)(f:∀b∈fp,nj X pins H b)(fo:∀b∈fp,∃o,s.heap.get? b=some o):(p9 X scope own js C s H fp (X.pn++pins) E).Ok where
 mod:=I.ok.mod
 kind:=ok.kind
 glob:=I.ok.glob
 blt:=I.ok.blt
 above:=hC
 inj:=λx y c e1 e2=>I.ok.inj x y c (ok.sub I e1) (ok.sub I e2)
 has:=λx h=>l7 (.inl (ok.kindOf h))
 cab:=λx c h=>nomatch (show false=true from h)
 hd:=I.ok.hd
 frames:=I.ok.frames
 stk:=.inl rfl
 exf:=λb hb=>by
  obtain⟨o,e⟩:=fo b hb;obtain⟨_,_,_,_,f4,_⟩:=f b hb;exact⟨ad3 (ab2 (ab9 e) hC),λx c q=>f4 x c (ok.sub I q)⟩
 bs:=I.bs
 bsz:=ab6 I.ok.bsz I.sz
 noex:=λb o e hb=>by
  obtain⟨_,_,_,f3,_,_⟩:=f b hb;rcases f3 with z | z
  ·exact I.ok.noex b o e z
  ·exact absurd (ab2 (ab9 e) (ab6 I.ok.bsz z)) (ag6 _)
 exfs:=λb hb hs=>by
  obtain⟨_,f1,f2,_,_,_⟩:=f b hb;rcases ab0.mp (I.stkSub b hs)with e | e
  ·exact f1 e
  ·exact f2 e
 funs:=I.stack
 frf:=I.stkFree
theorem Ak{s':Shared}{pins':List (Addr×Obj)}{m:Str->Option Value}(ok:bD X scope js)(I:aQ X pins Z H s)(hC:s.heap.objs.size<=C)(f:∀b∈fp,nj X pins H b)(fo:∀b∈fp,∃o,s.heap.get? b=some o)
  (hos:s'.os=s.os) (hg:AllBare s'.gens) (u:Un (vn X.stack) fp H H' s.heap s'.heap) (hn:s'.heap.Ns C m) (hok:kI X.prog X.w H' s'.heap) (hCf:H' C=none)
  (hp:∀p∈pins',s'.heap.get? p.1=some p.2/\H' p.1=none/\p.1≠C/\p.1∉vn X.stack/\∀v,p.2.data≠.cell v) :
  aQ (p9 X scope own js C s H fp (X.pn++pins) E) pins' (Zr own.length js Z) H' s':=by
 have Ok:=Ct (own:=own) (E:=E) ok I hC f fo
 have cellAt:∀x c,X.env.cells.lookup x=some c->∀v,s.heap.IsCell c v->s'.heap.IsCell c v:=λx c e v ⟨o,ho,hd⟩=>by
  have nx:c∉fp:=λz=>by
   obtain⟨_,_,_,_,f4,_⟩:=f c z;exact f4 x c e rfl
  obtain⟨sl,q⟩:=u.any ho (I.freeC x c e) nx;exact⟨_,q,hd⟩
 refine⟨Ok,hos,hg,u,⟨m,hn,?_⟩,?_,hCf,?_,?_,hok,?_⟩
 ·intro i x v e1 e2 _
  have e1':(own++js.map λj=>X.N.getD j "")[i]?=some x:=e1;have e2':(List.replicate own.length none++js.map λj=>Z.getD j none)[i]?=some (some v):=e2
  by_cases hi:i < own.length
  ·rw [ab7 (by simpa using hi),List.getElem?_replicate]at e2'
   split at e2'<;>cases e2'
  ·rw [ac6 (),aa4]at e1'
   rw [ac6 (by simpa using al2.mp hi),aa4,List.length_replicate]at e2'
   cases hj:js[i - own.length]? with
   | none=>rw [hj]at e1';cases e1'
   | some j=>
    rw [hj]at e1' e2';have ex:X.N.getD j ""=x:=Option.some.inj e1';have ev:Z.getD j none=some v:=Option.some.inj e2';have hjm:j∈js:=ac0 hj
    have hjl:j < Z.length:=by
     apply Classical.byContradiction;intro h;rw [ab5,aj0 (al2.mp h)]at ev;cases ev
    have Yv:Z[j]?=some (some v):=by
     rw [ab5,aa2 hjl]at ev;rw [aa2 hjl];exact congrArg some ev
    have hNl:j < X.N.length:=by rw [<-I.len];exact hjl
    have hN:X.N[j]?=some x:=by
     rw [ab5,aa2 hNl]at ex;rw [aa2 hNl];exact congrArg some ex
    have hfr:scope.names.lookup x=some .free:=by rw [<-ex];exact ok.js j hjm
    have hk:=ok.free _ (mem_of_lookup hfr) rfl;obtain⟨m0,_,hl⟩:=I.loc;obtain⟨w',r,l⟩:=hl j x v hN Yv (.inr hk);refine⟨w',r,?_⟩;rcases l with⟨hk',_⟩ | ⟨_,c,hc,hz⟩
    ·have hk'':X.env.kindOf x=some .local:=hk'
     rcases hk with q | q
     ·exact absurd (hk''.symm.trans q) (by intro z;cases z)
     ·exact absurd (hk''.symm.trans q) (by intro z;cases z)
    ·obtain⟨c',hc'⟩:∃c',(iU X.env.cells scope.names []).lookup x=some c':=l7 (.inl (mem_of_lookup hfr))
     have e:=ok.sub I hc';rw [hc]at e;cases e;exact .inr ⟨ok.isFree hfr,c,hc',cellAt x c hc _ hz⟩
 ·intro x c e
  obtain⟨v,z⟩:=I.cell x c (ok.sub I e);exact⟨v,cellAt x c (ok.sub I e) v z⟩
 ·intro x c e
  obtain⟨v,o,ho,_⟩:=I.cell x c (ok.sub I e);refine u.free c o ho (I.freeC x c (ok.sub I e)) λz=>?_;obtain⟨_,_,_,_,f4,_⟩:=f c z;exact f4 x c (ok.sub I e) rfl
 ·intro p hpm
  rcases ac8.mp hpm with h | h
  ·have h':p∈X.pn++pins:=h
   obtain⟨e,n,ne,nf,d⟩:=I.pin p h'
   have nfr:p.1∉vn X.stack:=λz=>by
    rcases ab0.mp (I.stkSub _ z)with q | q
    ·exact ne q
    ·exact nf q
   have nex:p.1∉fp:=λz=>by
    obtain⟨_,_,_,_,_,f5⟩:=f p.1 z;exact f5 p h' rfl
   exact⟨u.keep p.1 p.2 e n nfr nex,u.free p.1 p.2 e n nex,ad3 (ab2 (ab9 e) hC),nfr,d⟩
  ·exact hp p h
 ·show(List.replicate own.length none++js.map λj=>Z.getD j none).length=(own++js.map λj=>X.N.getD j "").length
  simp
theorem aQ.track{D:Addr}{ys:List V}{its:List Value}{n:Nat}(I:aQ X pins Z H s)(hn:H D=none)(ho:s.heap.get? D=some { cls:=.type "list",data:=.seq its.toArray n })(r:bh ys its)(hz:ys.length<=sizeLine)
  (h1:D∈X.ex\/X.Zh.heap.objs.size<=D) (hL:D≠X.env.locals) (h2:∀x c,X.env.cells.lookup x=some c->c≠D) (h3:∀p∈X.pn++pins,p.1≠D):aQ X pins Z (upd H D (.lst ys)) s:=by
 have ne:∀b o,H b=some o->b≠D:=λb o e=>aq e hn
 refine I.step (h':=s.heap) (g':=s.gens) (d':=s.drawn) (t':=s.toks) (ch:=[D]) (λb hb=>?_) (λb o _ _ _ e _=>e) (λb o _ _ _ e _=>⟨o.slots,e⟩) (λb o hc _ n=>?_)
  (λb o _ e=>⟨o,e⟩) (λb xs e=>?_) (λb o u e=>?_) (λb ps e=>⟨#[],?_⟩) (λ_ z=>z) (λb u e=>?_) I.bare
 ·have e:b=D:=by simpa using hb
  subst e;exact⟨h1,hL,h2,h3⟩
 ·rw [aj (λz=>hc (by simp [z]))];exact n
 ·rw [aj (ne _ _ e)];exact e
 ·rw [aj (ne _ _ e)];exact e
 ·rw [aj (ne _ _ e),e];simp
 ·by_cases hb:b=D
  ·subst hb
   rw [af]at e;cases e;exact⟨hz,its,n,r,ho⟩
  ·rw [aj hb]at e
   exact(I.hok b u e).stay (λc v _ q=>q) (λc q=>by rw [aj (ne _ _ q)];exact q) λc xs q=>by rw [aj (ne _ _ q)];exact q
end
structure Hc(X:Cx)(pins:List (Addr×Obj))(C:Addr):Prop where
 ne:C≠X.env.locals
 old:C∈X.ex\/X.Zh.heap.objs.size<=C
 cells:∀x c,X.env.cells.lookup x=some c->c≠C
 pin:∀p∈X.pn++pins,p.1≠C
theorem Hc.go{C:Addr}{h':Heap}(o:Hc X pins C)(I:aQ X pins Z H s)(hn:H C=none)(sb:Heap.SameBut C s.heap h'):aQ X pins Z H { s with heap:=h' }:=
 I.turned (t':=s.toks) (λb q hb e=>(sb.2 b hb).trans e) hn o.ne o.old o.cells o.pin
section
variable {prog:Program} {A:Around} {R:Result->Shared->Prop}
theorem tY{elt target iter:Expr}{ifs:List Expr}{it acc:Value}(I:Nat->Shared->Prop)
  (turn:∀n s,I n s->wpAny (model prog w) A (pyNext it) (λr Zg=>match r with
   | none=>R (.ok .next) Zg
   | some v=>wpAny (model prog w) A (letOwnedTupleGo target it v) (λ_ Yn=>wpAny (model prog w) A (assign target env v) (λ_ Zw=>
     wpAny (model prog w) A (forIn ifs true λc r=>if r=true then do let ok <-isTrue c env (eval c env);pure (ForInStep.yield ok)else pure (ForInStep.yield r)) (λok Zm=>
      if ok=true then wpAny (model prog w) A (eval elt env) (λx Z9=>
       wpAny (model prog w) A (call (.builtin "list.append") [acc,x]) (λ_ Yo=>∃m,m < n/\I m Yo) (notedBy (model prog w) A env λe s'=>R (.error e) s') Z9) (notedBy (model prog w) A env λe s'=>R (.error e) s') Zm
      else ∃m,m < n/\I m Zm) (notedBy (model prog w) A env λe s'=>R (.error e) s') Zw) (notedBy (model prog w) A env λe s'=>R (.error e) s') Yn) (notedBy (model prog w) A env λe s'=>R (.error e) s') Zg)
    (notedBy (model prog w) A env λe s'=>R (.error e) s') s)
  (n:Nat) (h:I n s) :
  codeAny (model prog w) A (.compLoop (.ListComp elt [⟨target,iter,ifs,0⟩] scope pos) 0 it acc env) R s:=by
 refine codeAny_loop rfl I (λn s hI=>?_) n h;show wpAny _ A ((compTurn (.ListComp elt [⟨target,iter,ifs,0⟩] scope pos) 0 it acc env).onRaise (λx=>do noteFrame x env;theTreesLotGoes x)) _ _ s;refine wpAny_noted ?_;rw [compTurn_list];refine aa3 (an4 (aa3 (af2 (turn n s hI) (λr Zg Zt=>?_) λ_ _ h'=>h')))
 cases r with
 | none=>exact aa9 Zt
 | some v=>
  refine aa3 (af2 Zt (λ_ Yn Yw=>?_) λ_ _ h'=>h');refine aa3 (af2 Yw (λ_ Zw Zs=>aa3 (af2 Zs (λok Zm Z0=>?_) λ_ _ h'=>h')) λ_ _ h'=>h')
  cases ok with
  | false=>exact aa9 ⟨rfl,Z0⟩
  | true=>
   exact aa3 (aa3 (af2 Z0 (λx Z9 Zk=>aa3 (af2 Zk (λ_ Yo Zj=>aa9 (aa9 ⟨rfl,Zj⟩)) λ_ _ h'=>h')) λ_ _ h'=>h'))
end
def GL(X:Cx)(ifs:List Expr)(t:TT):Prop:=
 ∀(pins:List (Addr×Obj)) (s:Shared) (Z:St) (H:Hp) (Q:Bool->Hp->Prop),aQ X pins Z H s->t Z H Q->
  wpAny (model X.prog X.w) X.A (forIn ifs true λc r=>if r=true then do let ok <-isTrue c X.env (eval c X.env);pure (ForInStep.yield ok)else pure (ForInStep.yield r)) (TP X pins Z Q) X.xe s
def BF:TT:=λ_ H Q=>Q true H
theorem cA:GL X [] BF:=λpins s Z H Q I h=>wpAny_tests_nil ⟨H,I,h⟩
def Fe(n:Nat)(js:List Nat)(wi:TI)(g:TG)(tt:TT)(te:TE)(Z:St)(H:Hp)(F:List V->Hp->Prop):Prop:=wi Z H λJ H1=>∃W:Nat->Nat->List V->Hp->Prop,(∃m,W 0 m [] H1)/\∀i m ys H,W i m ys H->
 (J.stop i H/\F ys H)\/
 (J.go i H/\ys.length < sizeLine/\∃N:List V->Hp->Prop,(∀ys' H',N ys' H'->∃m',m' < m/\W (i+1) m' ys' H')/\∀x H',J.yld i H x H'->g x (Zr n js Z) H' λZf H2=>tt Zf H2 λb H3=>if b=true then te Zf H3 λy H4=>N (ys++[y]) H4 else N ys H3)
def BI(n:Nat)(js:List Nat)(wi:TI)(g:TG)(tt:TT)(te:TE):TE:=λZ H Q=>Fe n js wi g tt te Z H λys H=>∀p,H p=none->Q (.ref p) (upd H p (.lst ys))
section
variable {own:List Str} {iter elt:Expr} {ifs:List Expr} {wi:TI} {tt:TT} {te:TE}
abbrev qW:Value->Shared->Prop:=λ_ _=>False
theorem nX{H2:Hp}{s2:Shared}{it:Addr}{fp:List Addr}{tn:Nat->Heap->Prop}{J:It}{RR:Value->Addr->Result->Shared->Prop}
  (hc:X.calm=true) (ok:bD X scope js)
  (hg:∀C s H ex pn,PG (p9 X scope own js C s H ex pn qW) tg g) (ht:∀C s H ex pn,GL (p9 X scope own js C s H ex pn qW) ifs tt) (he:∀C s H ex pn,PE (p9 X scope own js C s H ex pn qW) elt te)
  (I2:aQ X pins Z H2 s2) (T:r9 X.prog X.w X.K tg J fp it tn) (st2:tn 0 s2.heap) (f2:∀b∈fp,nj X pins H2 b) {W:Nat->Nat->List V->Hp->Prop} {m0:Nat} (w0:W 0 m0 [] H2)
  (turn:∀i m ys H,W i m ys H->(J.stop i H/\F ys H)\/
   (J.go i H/\ys.length < sizeLine/\∃N:List V->Hp->Prop,(∀ys' H',N ys' H'->∃m',m' < m/\W (i+1) m' ys' H')/\∀x H',J.yld i H x H'->g x (Zr own.length js Z) H' λZf H2=>tt Zf H2 λb H3=>if b=true then te Zf H3 λy H4=>N (ys++[y]) H4 else N ys H3))
  (hRR:∀(D C:Addr) (s':Shared) (H':Hp) (ys:List V) (m:Str->Option Value),F ys H'->H' D=none->aQ X pins Z (upd H' D (.lst ys)) s'->s'.heap.Ns C m->
   Hc X pins C->(upd H' D (.lst ys)) C=none->RR (.ref D) C (.ok .next) s') :
  wpAny (model X.prog X.w) X.A (newList []) (λacc Zm=>wpAny (model X.prog X.w) X.A (newFunctionEnv scope X.env.globals (iU X.env.cells scope.names []) [] X.env.qual none .none (some X.env)) (λcenv Z9=>
   codeAny (model X.prog X.w) X.A (.compStart (.ListComp elt [⟨tg,iter,ifs,0⟩] scope pos) 0 (.ref it) acc { cenv with scope:=relabel scope X.env }) (RR acc cenv.locals) Z9) E Zm) E s2:=by
 refine ag9 (wpAny_newFunctionEnv ok.cell (by intro y hy;simp at hy) (λZt Ya Z4=>?_) ok.kind);dsimp only at Ya Z4 |-;generalize hP:s2.heap.push { cls:=.type "list",dict:=none,data:=.seq ([]:List Value).toArray }=P2 at Ya Z4 |-
 have hC:P2.objs.size=s2.heap.objs.size+1:=by rw [<-hP,ae8]
 have hDC:s2.heap.objs.size≠P2.objs.size:=by rw [hC];exact ad3 (ai2 _)
 have hCle:s2.heap.objs.size<=P2.objs.size:=by rw [hC];exact Nat.le_succ _
 have below:∀b,b < s2.heap.objs.size->b≠P2.objs.size/\b≠s2.heap.objs.size:=λb hb=>⟨by rw [hC];exact ad3 (Nat.lt_succ_of_lt hb),ad3 hb⟩;have old:∀b o,s2.heap.get? b=some o->Zt.get? b=some o:=λb o e=>Z4.extBut b o (below b (ab9 e)).1 (aa5 _ (hP▸aa5 _ e));have hacc:Zt.get? s2.heap.objs.size=some { cls:=.type "list",data:=.seq ([]:List Value).toArray 0 }:=Z4.extBut _ _ hDC (aa5 _ (hP▸ab8 _ rfl));generalize hDe:s2.heap.objs.size=D at hacc hDC hCle hC below;generalize hCe:P2.objs.size=C at Ya Z4 hDC hCle hC below |-
 have fo:∀b∈fp,∃o,s2.heap.get? b=some o:=λb hb=>let ⟨o,e,_⟩:=T.obj _ _ st2 b hb;⟨o,e⟩
 have fD:∀b∈fp,b≠D/\b≠C:=λb hb=>by
  obtain⟨o,e⟩:=fo b hb
  have:=below b (hDe▸ab9 e)
  exact⟨this.2,this.1⟩
 have H2C:H2 C=none:=I2.hok.fresh (by rw [hDe];exact hCle);have H2D:H2 D=none:=I2.hok.fresh (by rw [hDe];exact aa8 _)
 have stkD:D∉vn X.stack:=λz=>by
  have h1:=I2.nofs (a:=D) (by rw [hDe];exact aa8 _);rcases ab0.mp (I2.stkSub _ z)with q | q
  ·have:=I2.lt
   rw [<-q,hDe]at this;exact ag6 _ this
  ·exact h1 q
 have neLoc:D≠X.env.locals/\C≠X.env.locals:=by
  have h1:=I2.lt;rw [hDe]at h1;exact⟨aj5 h1,aj5 (ab2 h1 hCle)⟩
 have cellLt:∀x c,X.env.cells.lookup x=some c->c < D:=λx c e=>by
  obtain⟨v,z⟩:=I2.cell x c e;rw [<-hDe];exact z.lt
 have pinLt:∀p∈X.pn++pins,p.1 < D:=λp hp=>by rw [<-hDe];exact ab9 (I2.pin p hp).1
 have hs0:X.Zh.heap.objs.size<=D:=by rw [<-hDe];exact I2.sz
 have start:∀{s':Shared} {H':Hp} {m:Str->Option Value} {o:Obj},s'.os=s2.os->AllBare s'.gens->Un (vn X.stack) fp H2 H' s2.heap s'.heap->s'.heap.Ns C m->kI X.prog X.w H' s'.heap->H' C=none->s'.heap.get? D=some o->H' D=none->(∀v,o.data≠.cell v)->
   aQ (p9 X scope own js C s2 H2 fp (X.pn++pins) qW) [(D,o)] (Zr own.length js Z) H' s':=λ{s' H' m o} a1 a2 a3 a4 a5 a6 a7 a8 a9=>
  Ak ok I2 (by rw [hDe];exact hCle) f2 fo a1 a2 a3 a4 a5 a6 λp hp=>by
   have e:p=(D,o):=by simpa using hp
   subst e;exact⟨a7,a8,hDC,stkD,a9⟩
 have fpC:∀{H':Hp} {o:Obj},(∀b∈fp,H' b=none)->∀b∈fp,nj (p9 X scope own js C s2 H2 fp (X.pn++pins) qW) [(D,o)] H' b:=λ{H' o} hn b hb=>by
  obtain⟨_,q1,q2,q3,q4,q5⟩:=f2 b hb;refine⟨hn b hb,(fD b hb).2,λz=>?_,.inl hb,λx c e=>q4 x c (ok.sub I2 e),λp hp=>?_⟩
  ·rcases ab0.mp (I2.stkSub b z)with e | e
   ·exact q1 e
   ·exact q2 e
  ·rcases ac8.mp hp with h | h
   ·exact q5 p h
   ·have e:p=(D,o):=by simpa using h
    subst e;exact(fD b hb).1.symm
 have nocell:∀(its:Array Value) (n:Nat) (v:Option Value),({ cls:=.type "list",data:=.seq its n }:Obj).data≠.cell v:=λ_ _ _ z=>by cases z
 have loop:∀Zm:Shared,Zm={ s2 with heap:=Zt,toks:=s2.toks+([]:List (Str×Value)).length }->
   codeAny (model X.prog X.w) X.A (.compLoop (.ListComp elt [⟨tg,iter,ifs,0⟩] scope pos) 0 (.ref it) (.ref D) (compEnvC scope (iU X.env.cells scope.names []) C X.env)) (RR (.ref D) C) Zm:=by
  rintro Zm rfl
  refine tY (λn s'=>∃i ys its k H',aQ (p9 X scope own js C s2 H2 fp (X.pn++pins) qW) [(D,{ cls:=.type "list",data:=.seq (its:List Value).toArray k })] (Zr own.length js Z) H' s'/\tn i s'.heap/\(∀b∈fp,H' b=none)/\
   W i n ys H'/\bh ys its/\ys.length<=sizeLine) ?_ m0 ⟨0,[],[],0,H2,start rfl I2.bare (Un.kept old) Ya (I2.hok.kept old) H2C hacc H2D (nocell _ _),T.keep _ _ _ st2 (λb _ o e=>old b o e),λb hb=>(f2 b hb).1,w0,.nil,ac2 _⟩
  rintro n s3 ⟨i,ys,its,k,H3,I3,st3,fr3,w3,rv,hz⟩;rcases turn i n ys H3 w3 with⟨stop,q⟩ | ⟨go,hlt,N,hN,step⟩
  ·refine af2 (T.done (p9 X scope own js C s2 H2 fp (X.pn++pins) qW) rfl rfl rfl hc i _ s3 _ H3 qW I3 (fpC fr3) st3 stop) (λr s4 zq0=>?_) λ_ _ f=>f.elim
   obtain⟨hr,I4⟩:=zq0;subst hr;obtain⟨zD,nD,_⟩:=I4.pin (D,_) (ac9 _ ad8);obtain⟨m,hm,_⟩:=I4.loc;have I5:aQ X pins Z H3 s4:=I2.call' I4.os I4.base I4.hok I4.bare λb hb=>⟨(f2 b hb).2.2.2.1,(f2 b hb).2.1,(f2 b hb).2.2.2.2.1,(f2 b hb).2.2.2.2.2⟩;have I6:aQ X pins Z (upd H3 D (.lst ys)) s4:=I5.track nD zD rv hz (.inr hs0) neLoc.1 (λx c e=>ad3 (cellLt x c e)) λp hp=>ad3 (pinLt p hp);have nC:H3 C=none:=I4.free;exact hRR D C s4 H3 ys m q nD I6 hm ⟨neLoc.2,.inr (ab6 hs0 hCle),λx c e=>ad3 (ab2 (cellLt x c e) hCle),λp hp=>ad3 (ab2 (pinLt p hp) hCle)⟩ (by rw [aj (Ne.symm hDC)];exact nC)
  ·refine af2 (T.item (p9 X scope own js C s2 H2 fp (X.pn++pins) qW) rfl rfl rfl hc i _ s3 _ H3 qW I3 (fpC fr3) st3 go) (λr s4 zq0=>?_) λ_ _ f=>f.elim
   obtain⟨u,hr,h4⟩:=zq0;subst hr;refine af2 h4 (λ_ s5 zq0=>?_) λ_ _ f=>f.elim;obtain⟨x,H5,I5,r5,y5,st5,fr5⟩:=zq0;have I5':=I5.pinned (fpC fr5) (T.obj _ _ st5);refine af2 (hg _ _ _ _ _ _ s5 _ H5 x u _ I5' r5 (step x H5 y5)) (λ_ s6 zq0=>?_) λ_ _ f=>f.elim;obtain⟨Zz,H6,I6,q6⟩:=zq0;refine af2 (ht _ _ _ _ _ _ s6 Zz H6 _ I6 q6) (λb s7 zq0=>?_) λ_ _ f=>f.elim;obtain⟨H7,I7,q7⟩:=zq0
   have back:∀{s8:Shared} {H8:Hp} {m':Nat} {ys':List V} {its':List Value} {k':Nat},aQ (p9 X scope own js C s2 H2 fp (X.pn++pins) qW) [] Zz H8 s8->s8.heap.get? D=some { cls:=.type "list",data:=.seq its'.toArray k' }->H8 D=none->
     (∀b∈fp,∀o,s5.heap.get? b=some o->s8.heap.get? b=some o)->(∀b∈fp,H8 b=none)->W (i+1) m' ys' H8->bh ys' its'->ys'.length<=sizeLine->
     ∃i ys its k H',aQ (p9 X scope own js C s2 H2 fp (X.pn++pins) qW) [(D,{ cls:=.type "list",data:=.seq (its:List Value).toArray k })] (Zr own.length js Z) H' s8/\tn i s8.heap/\(∀b∈fp,H' b=none)/\W i m' ys H'/\bh ys its/\ys.length<=sizeLine:=
    λ{s8 H8 m' ys' its' k'} J zD nD kf fr w' rv' hz'=>by
     obtain⟨m,hm,_⟩:=J.loc;exact⟨i+1,ys',its',k',H8,start J.os J.bare J.base hm J.hok J.free zD nD (nocell _ _),T.keep _ _ _ st5 kf,fr,w',rv',hz'⟩
   cases b with
   | false=>
    rw [if_neg aa6];rw [if_neg aa6]at q7;obtain⟨m',hm',w'⟩:=hN _ _ q7;have pD:=I7.pin (D,_) (ac9 _ (ah8 _ ad8));refine⟨m',hm',back (I7.pins_of (pins':=[]) λp hp=>nomatch hp) pD.1 pD.2.1 (λb hb o e=>(I7.pin (b,o) (ac9 _ (ac9 _ (fb hb e)))).1) (λb hb=>?_) w' rv hz⟩;obtain⟨o,e,_⟩:=T.obj _ _ st5 b hb;exact(I7.pin (b,o) (ac9 _ (ac9 _ (fb hb e)))).2.1
   | true=>
    rw [if_pos rfl];rw [if_pos rfl]at q7;refine af2 (he _ _ _ _ _ _ s7 Zz H7 _ I7 q7) (λyv s8 zq0=>?_) λ_ _ f=>f.elim;obtain⟨y,H8,I8,r8,q8⟩:=zq0;obtain⟨m',hm',w'⟩:=hN _ _ q8;have pD:=I8.pin (D,_) (ac9 _ (ah8 _ ad8));refine append_at (hsz:=by rw [ab1,<-rv.length];exact hz) pD.1 λh9 sb9 z9=>?_;have I8':aQ (p9 X scope own js C s2 H2 fp (X.pn++pins) qW) [] Zz H8 s8:=I8.pins_of λp hp=>nomatch hp
    have I9:aQ (p9 X scope own js C s2 H2 fp (X.pn++pins) qW) [] Zz H8 { s8 with heap:=h9 }:=I8'.turned (t':=s8.toks) (it:=D) (λb o hb e=>(sb9.2 b hb).trans e) pD.2.1 hDC (.inr (by show s2.heap.objs.size<=D;rw [hDe];exact aa8 _))
     (λx c e=>ad3 (cellLt x c (ok.sub I2 e))) λp hp=>by
      rcases ac8.mp hp with h | h
      ·exact ad3 (pinLt p h)
      ·cases h
    refine⟨m',hm',back (its':=its++[yv]) (k':=k+1) I9 (by rw [z9];simp) pD.2.1 (λb hb o e=>(sb9.2 b (fD b hb).1).trans (I8.pin (b,o) (ac9 _ (ac9 _ (fb hb e)))).1) (λb hb=>?_) w' (rv.append (.cons r8 .nil)) (by simp;omega)⟩;obtain⟨o,e,_⟩:=T.obj _ _ st5 b hb;exact(I8.pin (b,o) (ac9 _ (ac9 _ (fb hb e)))).2.1
 exact codeAny_compStart_list (loop _ rfl) (T.self X.A 0 _ _ _ (T.keep _ _ _ st2 (λb _ o e=>old b o e)) (loop _ rfl))
theorem di(hc:X.calm=true)(hi:PI X tg iter wi)(ok:bD X scope js)
  (hg:∀C s H ex pn,PG (p9 X scope own js C s H ex pn qW) tg g) (ht:∀C s H ex pn,GL (p9 X scope own js C s H ex pn qW) ifs tt) (he:∀C s H ex pn,PE (p9 X scope own js C s H ex pn qW) elt te)
  (hs:∀x,foldedSetIterable iter X.env x=pure x:=by intro _;rfl):PE X (.ListComp elt [⟨tg,iter,ifs,0⟩] scope pos) (BI own.length js wi g tt te):=by
 intro pins s Z H Q I h;rw [eval_ListComp];refine wpAny_comprehension_free (use:=none) rfl hs (j4 (ok.clos I)) ok.kind ok.names (c7 (hi pins s Z H _ I h) λv s1 h1=>c7 h1 λitv s2 h2=>?_);obtain⟨it,fp,tn,J,H2,e,I2,T,st2,f2,W,⟨m0,w0⟩,turn⟩:=h2;subst e;refine nX (RR:=λacc C=>compPost (model X.prog X.w) X.A X.xe none (EP X pins Z Q) acc C) hc ok hg ht he I2 T st2 f2 w0 turn ?_;intro D C s' H' ys m q nD I6 hm o nC;exact⟨m,hm,λh' sb=>⟨.ref D,_,o.go I6 nC sb,rfl,q D nD⟩⟩
theorem iz{i:Nat}{py spos:Pos}(hN:X.N.Nodup)(hix:X.N[i]?=some x)(hx:Fx X.env.scope x)(hc:X.calm=true)(hi:PI X tg iter wi)(ok:bD X scope js)
  (hg:∀C s H ex pn,PG (p9 X scope own js C s H ex pn qW) tg g) (ht:∀C s H ex pn,GL (p9 X scope own js C s H ex pn qW) ifs tt) (he:∀C s H ex pn,PE (p9 X scope own js C s H ex pn qW) elt te)
  (hsw:swapsWith (.ListComp elt [⟨tg,iter,ifs,0⟩] scope pos) (some (.Name x py)) spos.line X.env=pure true)
  (hf:X.fn x=true\/X.env.scope.names.lookup x=some .local:=by first | exact .inl rfl | exact .inr rfl | assumption)
  (hs:∀x,foldedSetIterable iter X.env x=pure x:=by intro _;rfl):PS X (.Assign [.Name x py] (.ListComp elt [⟨tg,iter,ifs,0⟩] scope pos) spos) (wO (BI own.length js wi g tt te) (iV i)):=by
 intro pins s Z H Dd I h;rw [exec_Assign_Name_used _ _ _ _ hsw];refine aa3 (an4 (aa3 ?_));show wpAny _ X.A (do let _ <-comprehension (.ListComp elt [⟨tg,iter,ifs,0⟩] scope pos) scope X.env _ (newList []) false (eval iter X.env) (some (assign (.Name x py) X.env))) _ _ s
 refine aa3 (af2 (wpAny_comprehension_free (use:=some (assign (.Name x py) X.env)) (Q:=λ_ s'=>SP X pins Dd .next s') rfl hs (j4 (ok.clos I)) ok.kind ok.names
  (c7 (hi pins s Z H _ I h) λv s1 h1=>c7 h1 λitv s2 h2=>?_)) (λ_ s' hq=>aa9 (aa9 hq)) λ_ _ e=>e)
 obtain⟨it,fp,tn,J,H2,e,I2,T,st2,f2,W,⟨m0,w0⟩,turn⟩:=h2;subst e;refine nX (RR:=λacc C=>compPost (model X.prog X.w) X.A X.xe (some (assign (.Name x py) X.env)) (λ_ s'=>SP X pins Dd .next s') acc C) hc ok hg ht he I2 T st2 f2 w0 turn ?_;intro D C s' H' ys m q nD I6 hm o nC;show wpAny _ X.A (assign (.Name x py) X.env (.ref D)) _ _ _;refine wpAny_assign_Name (rP I6 hN hix hx (v:=.ref D) rfl (λs2' I7 zq0=>?_) hf);obtain⟨a,sa,ha⟩:=zq0
 have hCa:C≠a:=by
  rcases ha with e | e
  ·rw [e];exact o.ne
  ·exact λz=>o.cells x a e z.symm
 exact⟨m,hm.sameBut sa hCa,λh' sb=>⟨_,_,o.go I7 nC sb,q D nD⟩⟩
end
def Cc(X:Cx)(tg:Expr)(r:V->Hp->(It->Hp->Prop)->Prop):Prop:=
 ∀(pins:List (Addr×Obj)) (s:Shared) (Z:St) (H:Hp) (x:V) (v:Value) (R:It->Hp->Prop),aQ X pins Z H s->aX x v->r x H R->
  wpAny (model X.prog X.w) X.A (pyIter v) (FK X pins Z tg R) X.xe s
def Cd(z:Str):It:=⟨λi _=>i < z.length,λi H x H'=>H'=H/\∃c,z.cps[i]?=some c/\x=.str ⟨#[c]⟩,λi _=>i=z.length⟩
theorem rV{P:Program}{A:Around}(hh:A.handled=none)(I:Addr)(z:Str)(t:Tok){ty:String}(hty:ty="str_ascii_iterator"\/ty="str_iterator"):
  Walks P w A I [I] [I] z.cps.size (SignAt z) (λi h=>h.IsStrIter I ty z t i):=by
 rcases hty with e | e
 ·subst e;exact Walks.strAscii hh I z t
 ·subst e;exact Walks.strWide hh I z t
theorem BS{P:Program}(z:Str)(t:Tok)(it:Addr){ty:String}(hty:ty="str_ascii_iterator"\/ty="str_iterator"):
  r9 P w K tg (Cd z) [it] it (λi h=>h.IsStrIter it ty z t i) where
 mem:=by simp
 obj:=λi h st b hb=>by
  have e:b=it:=by simpa using hb
  subst e;obtain⟨o,e,c,d⟩:=st;exact⟨o,e,λv z=>by rw [d]at z;cases z⟩
 keep:=λi h h' st k=>by
  obtain⟨o,e,r⟩:=st;exact⟨o,k it (by simp) o e,r⟩
 item:=by
  intro X hP hw hK hc i pins s Z H E I hf st hg;subst hP hw hK;obtain⟨f0,f1,f2,f3,f4,f5⟩:=hf it (by simp);refine(rV (I.ok.hd hc) it z t hty).item i s _ _ hg st λv h' tk hv st' kk=>?_;obtain⟨c,u,hcz,rfl⟩:=hv;have I1:aQ X pins Z H { s with heap:=h',toks:=tk }:=I.turned (λb o hb e=>kk b o (by simpa using hb) e) f0 f1 f3 f4 f5;obtain⟨o,e,cl,d⟩:=id st'
  refine⟨_,rfl,t8 (s:={ s with heap:=h',toks:=tk }) (n:=ty) e cl d (by rcases hty with q | q<;>(subst q;decide)) ⟨.str ⟨#[c]⟩,H,I1,⟨u,rfl⟩,⟨rfl,c,hcz,rfl⟩,st',λb hb=>(hf b hb).1⟩⟩
 done:=by
  intro X hP hw hK hc i pins s Z H E I hf st hg;subst hP hw hK;obtain⟨f0,f1,f2,f3,f4,f5⟩:=hf it (by simp);have e:i=z.length:=hg;subst e;exact(rV (I.ok.hd hc) it z t hty).done s _ _ st λh' tk kk=>⟨rfl,I.turned (λb o hb e=>kk b o (by simpa using hb) e) f0 f1 f3 f4 f5⟩
 self:=λA i s Q E st h=>by
  rcases hty with e | e
  ·subst e;exact wpAny_pyIter_striter_ascii st h
  ·subst e;exact wpAny_pyIter_striter_wide st h
theorem Cc.or{r':V->Hp->(It->Hp->Prop)->Prop}(h:Cc X tg r)(h':Cc X tg r'):Cc X tg (λx H R=>r x H R\/r' x H R):=by
 intro pins s Z H x v R I rx q;rcases q with q | q
 ·exact h pins s Z H x v R I rx q
 ·exact h' pins s Z H x v R I rx q
theorem it_list:Cc X tg (λx H R=>∃a,x=.ref a/\(∃xs,aH X.K H a xs)/\R (zA X.K a) H):=by
 rintro pins s1 Z H1 x v R I1 r1 ⟨a,e,⟨xs,hq⟩,q⟩;subst e;cases r1;obtain⟨its,rv,p,hz⟩:=I1.list hq;refine ak6 p.isList ?_;refine⟨s1.heap.objs.size,[s1.heap.objs.size],_,_,H1,rfl,I1.kept (t':=s1.toks) λb o e=>aa5 _ e,zj a _,⟨_,ab8 _ rfl,rfl,rfl⟩,λb hb=>?_,q⟩
 have e:b=s1.heap.objs.size:=by simpa using hb
 subst e;exact I1.fpOk (aa8 _) (I1.hok.fresh (aa8 _))
theorem it_tup:Cc X tg (λx H R=>∃a,x=.ref a/\(∃xs,cM X.K H a xs)/\R (DN X.K a) H):=by
 rintro pins s1 Z H1 x v R I1 r1 ⟨a,e,⟨xs,hq⟩,q⟩;subst e;cases r1;obtain⟨its,rv,p,hz⟩:=I1.tuple hq;refine wpAny_pyIter_tuple (show s1.heap.IsTuple a its.toArray from p) ?_;refine⟨s1.heap.objs.size,[s1.heap.objs.size],_,_,H1,rfl,I1.kept (t':=s1.toks) λb o e=>aa5 _ e,wZ a _,⟨_,ab8 _ rfl,rfl,rfl⟩,λb hb=>?_,q⟩
 have e:b=s1.heap.objs.size:=by simpa using hb
 subst e;exact I1.fpOk (aa8 _) (I1.hok.fresh (aa8 _))
theorem Et:Cc X tg (λx H R=>∃z,x=.str z/\R (Cd z) H):=by
 rintro pins s1 Z H1 x v R I1 r1 ⟨z,e,q⟩;subst e;obtain⟨t,rfl⟩:=r1
 have fin:∀(o:Obj) (ty:String),(ty="str_ascii_iterator"\/ty="str_iterator")->(s1.heap.push o).IsStrIter s1.heap.objs.size ty z t 0->FK X pins Z tg R (.ref s1.heap.objs.size) { s1 with heap:=s1.heap.push o }:=λo ty hty st=>by
  refine⟨s1.heap.objs.size,[s1.heap.objs.size],_,_,H1,rfl,I1.kept (t':=s1.toks) λb o e=>aa5 _ e,BS z t _ hty,st,λb hb=>?_,q⟩
  have e:b=s1.heap.objs.size:=by simpa using hb
  subst e;exact I1.fpOk (aa8 _) (I1.hok.fresh (aa8 _))
 cases ha:z.cps.all (· < 128)
 ·exact wpAny_pyIter_wide ha (fin _ _ (.inr rfl) ⟨_,ab8 _ rfl,rfl,rfl⟩)
 ·exact wpAny_pyIter_ascii ha (fin _ _ (.inl rfl) ⟨_,ab8 _ rfl,rfl,rfl⟩)
def Dw(K:Frag):V->Hp->(It->Hp->Prop)->Prop:=λx H R=>(∃a,x=.ref a/\(∃xs,aH K H a xs)/\R (zA K a) H)\/(∃a,x=.ref a/\(∃xs,cM K H a xs)/\R (DN K a) H)\/∃z,x=.str z/\R (Cd z) H
theorem itA:Cc X tg (Dw X.K):=it_list.or (it_tup.or Et)
def GQ(r:V->Hp->(It->Hp->Prop)->Prop)(tl:TE):TI:=λZ H R=>tl Z H λx H1=>r x H1 R
theorem Gq{l:Expr}{tl:TE}(hr:Cc X tg r)(hl:PE X l tl):PI X tg l (GQ r tl):=by
 intro pins s Z H R I h;exact c7 (hl pins s Z H _ I h) λv s1 ⟨x,H1,I1,r1,q1⟩=>hr pins s1 Z H1 x v R I1 r1 q1
theorem EU{l:Expr}{tl:TE}(hl:PE X l tl):PI X tg l (GQ (Dw X.K) tl):=Gq itA hl
theorem bR(h:aH K H a xs)(q:R (zA K a) H):Dw K (.ref a) H R:=.inl ⟨a,rfl,⟨xs,h⟩,q⟩
theorem Dy(h:cM K H a xs)(q:R (DN K a) H):Dw K (.ref a) H R:=.inr (.inl ⟨a,rfl,⟨xs,h⟩,q⟩)
theorem Dx(q:R (Cd z) H):Dw K (.str z) H R:=.inr (.inr ⟨z,rfl,q⟩)
theorem GP{tb:TS}{D:jT}(Pv:Nat->St->Hp->Prop)(h0:Pv 0 Z H)
  (hs:∀i c Z H,z.cps.toList[i]?=some c->Pv i Z H->g (.str ⟨#[c]⟩) Z H λZf H2=>tb { D with nx:=Pv (i+1),ct:=Pv (i+1),bk:=D.nx } Zf H2) (hd:∀Z H,Pv z.length Z H->D.nx Z H) :
  ∃W:Nat->Nat->St->Hp->Prop,(∃m,W 0 m Z H)/\∀i m Z H,W i m Z H->
   ((Cd z).stop i H/\D.nx Z H)\/((Cd z).go i H/\∃N:St->Hp->Prop,(∀Zc H',N Zc H'->∃m',m' < m/\W (i+1) m' Zc H')/\∀x H',(Cd z).yld i H x H'->g x Z H' λZf H2=>tb { D with nx:=N,ct:=N,bk:=D.nx } Zf H2):=by
 refine⟨λi m Z H=>m=z.length - i/\i<=z.length/\Pv i Z H,⟨z.length,by simp,ac2 _,h0⟩,?_⟩;rintro i m Z H ⟨rfl,hi,p⟩
 by_cases hlt:i < z.length
 ·refine .inr ⟨hlt,Pv (i+1),λZc H' p'=>⟨z.length - (i+1),(),rfl,hlt,p'⟩,λx H' y=>?_⟩
  obtain⟨e,c,hc,e2⟩:=y;subst e e2;exact hs i c Z _ (by simpa using hc) p
 ·have e:i=z.length:=by omega
  subst e;exact .inl ⟨rfl,hd Z H p⟩
section
variable {n:Nat} {tt:TT} {te:TE}
abbrev w4(J:It)(n:Nat)(js:List Nat)(g:TG)(tt:TT)(te:TE)(Z:St)(H:Hp)(F:List V->Hp->Prop):Prop:=
 ∃W:Nat->Nat->List V->Hp->Prop,(∃m,W 0 m [] H)/\∀i m ys H,W i m ys H->(J.stop i H/\F ys H)\/
  (J.go i H/\ys.length < sizeLine/\∃N:List V->Hp->Prop,(∀ys' H',N ys' H'->∃m',m' < m/\W (i+1) m' ys' H')/\∀x H',J.yld i H x H'->g x (Zr n js Z) H' λZf H2=>tt Zf H2 λb H3=>if b=true then te Zf H3 λy H4=>N (ys++[y]) H4 else N ys H3)
abbrev iT(n:Nat)(js:List Nat)(g:TG)(tt:TT)(te:TE)(Z:St)(x:V)(ys:List V)(H:Hp)(N:List V->Hp->Prop):Prop:=
 g x (Zr n js Z) H λZf H2=>tt Zf H2 λb H3=>if b=true then te Zf H3 λy H4=>N (ys++[y]) H4 else N ys H3
theorem vz{lo:Int}{k:Nat}(Pv:Nat->List V->Hp->Prop)(hk:k<=sizeLine)(h0:Pv 0 [] H)(hn:∀i ys H,Pv i ys H->ys.length<=i)
  (hs:∀i ys H,i < k->Pv i ys H->iT n js g tt te Z (.int (lo+i)) ys H (Pv (i+1))) (hd:∀ys H,Pv k ys H->F ys H):w4 (xX lo k) n js g tt te Z H F:=by
 refine⟨λi m ys H=>m=k - i/\i<=k/\Pv i ys H,⟨k,by simp,ac2 _,h0⟩,?_⟩;rintro i m ys H ⟨rfl,hi,p⟩
 by_cases hlt:i < k
 ·refine .inr ⟨hlt,aa7 (hn i ys H p) (ab2 hlt hk),Pv (i+1),λZc H' p'=>⟨k - (i+1),(),rfl,hlt,p'⟩,λx H' y=>?_⟩
  obtain⟨e,y⟩:=y;subst e y;exact hs i ys _ hlt p
 ·have e:i=k:=by omega
  subst e;exact .inl ⟨aa8 _,hd ys H p⟩
theorem yn(Pv:Nat->List V->Hp->Prop)(hk:xs.length<=sizeLine)(h0:Pv 0 [] H)(hn:∀i ys H,Pv i ys H->ys.length<=i)(hl:∀i ys H,Pv i ys H->aH K H a xs)
  (hs:∀i x ys H,xs[i]?=some x->Pv i ys H->iT n js g tt te Z x ys H (Pv (i+1))) (hd:∀ys H,Pv xs.length ys H->F ys H):w4 (zA K a) n js g tt te Z H F:=by
 refine⟨λi m ys H=>m=xs.length - i/\i<=xs.length/\Pv i ys H,⟨xs.length,by simp,ac2 _,h0⟩,?_⟩;rintro i m ys H ⟨rfl,hi,p⟩;have q:=hl i ys H p
 by_cases hlt:i < xs.length
 ·refine .inr ⟨⟨xs,xs[i],q,by simp [hlt]⟩,aa7 (hn i ys H p) (ab2 hlt hk),Pv (i+1),λZc H' p'=>⟨xs.length - (i+1),(),rfl,hlt,p'⟩,λx H' y=>?_⟩
  obtain⟨e,y⟩:=y;subst e;exact hs i x ys _ (y xs q) p
 ·have e:i=xs.length:=by omega
  subst e;exact .inl ⟨⟨xs,q,aa8 _⟩,hd ys H p⟩
theorem zM(Pv:Nat->List V->Hp->Prop)(hk:z.length<=sizeLine)(h0:Pv 0 [] H)(hn:∀i ys H,Pv i ys H->ys.length<=i)
  (hs:∀i c ys H,z.cps.toList[i]?=some c->Pv i ys H->iT n js g tt te Z (.str ⟨#[c]⟩) ys H (Pv (i+1))) (hd:∀ys H,Pv z.length ys H->F ys H):w4 (Cd z) n js g tt te Z H F:=by
 refine⟨λi m ys H=>m=z.length - i/\i<=z.length/\Pv i ys H,⟨z.length,by simp,ac2 _,h0⟩,?_⟩;rintro i m ys H ⟨rfl,hi,p⟩
 by_cases hlt:i < z.length
 ·refine .inr ⟨hlt,aa7 (hn i ys H p) (ab2 hlt hk),Pv (i+1),λZc H' p'=>⟨z.length - (i+1),(),rfl,hlt,p'⟩,λx H' y=>?_⟩
  obtain⟨e,c,hc,e2⟩:=y;subst e e2;exact hs i c ys _ (by simpa using hc) p
 ·have e:i=z.length:=by omega
  subst e;exact .inl ⟨rfl,hd ys H p⟩
end
theorem zb(xs:Array Nat):∀(n:Nat) (acc:Array Nat),((List.replicate n xs).foldl (· ++ ·) acc).size=acc.size+n * xs.size
 | 0,acc=>by simp
 | n+1,acc=>by
  rw [ae7,ae5,zb xs n,an1,am7];omega
theorem rq(xs:Array Nat):∀(n:Nat) (acc:Array Nat),((List.replicate n xs).foldl (· ++ ·) acc).toList=acc.toList++(List.replicate n xs.toList).flatten
 | 0,acc=>by simp
 | n+1,acc=>by
  rw [ae7,ae5,rq xs n,ae7,ah0,ah1,ak5]
def tx(z:Str)(k:Int):Str:=if k < 1 then Str.empty else if (k == 1 || z.length == 0)=true then z else⟨(List.replicate k.toNat z.cps).foldl (· ++ ·) #[]⟩
theorem v7(z:Str)(k:Int):(tx z k).cps.toList=(List.replicate k.toNat z.cps.toList).flatten:=by
 unfold tx
 split
 ·have e:k.toNat=0:=by omega
  rw [e];rfl
 ·split
  ·rename_i h1 h2
   rw [aj8]at h2;rcases h2 with h2 | h2
   ·have e:k=1:=by simpa using h2
    subst e;simp
   ·have e:z.cps.size=0:=by simpa [Str.length]using h2
    have e2:z.cps.toList=[]:=by
     rw [<-af7];simpa using e
    rw [e2];simp
  ·simpa using rq z.cps k.toNat #[]
theorem uT(z:Str)(k:Int):(tx z k).length=k.toNat * z.length:=by
 have e:(tx z k).length=(tx z k).cps.toList.length:=by simp [Str.length]
 rw [e,v7,sC];simp [Str.length]
section
variable {a b c:Expr} {ta tb tc:TE}
theorem op_mulB:dY X (binaryOp .Mult) (rI IntMulOk λi j=>.int (i * j)):=Gh λ_ _ _ _ _ _ _ hc q=>mul_int q hc
theorem op_mul_str:dY X (binaryOp .Mult) (λx y H Q=>∃z k,x=.str z/\y=.int k/\(-1000000<=k/\k<=1000000/\z.length<=16)/\Q (.str (tx z k)) H):=by
 rintro pins s Z H x y v u Q I rx ry ⟨z,k,rfl,rfl,⟨h2,h1,h3⟩,q⟩;obtain⟨t,rfl⟩:=rx;obtain⟨t',rfl⟩:=ry;have hs:=sizeLine_eq;have hl:=uT z k;have hb:z.length * k.toNat<=16 * 1000000:=Nat.mul_le_mul h3 ();rw [ao5]at hl;have fin:∀t' tk,EP X pins Z Q (.str (tx z k) t') { s with toks:=tk }:=λt' tk=>⟨.str _,H,I.tok _,⟨t',rfl⟩,q⟩;refine P.mul_str ?_ (λh4 h5=>?_) (λh4 h5=>?_) ?_
 ·have e1:¬k < -(2 ^ 63:Int):=by omega
  have e2:¬k>=2 ^ 63:=by omega
  rw [decide_eq_false e1,decide_eq_false e2];rfl
 ·have h6:(16:Int)<=(2 ^ 63 - 1) / k:=by
   rw [Int.le_ediv_iff_mul_le ()];omega
  omega
 ·unfold Builtin.Str.tooLong
  exact decide_eq_false ()
 ·unfold tx at fin hl
  by_cases h4:k < 1
  ·rw [if_pos h4]at fin |-
   exact⟨∅,fin _ _⟩
  ·rw [if_neg h4]at fin hl |-
   by_cases h5:(k == 1 || z.length == 0)=true
   ·rw [if_pos h5]at fin |-
    exact fin t s.toks
   ·rw [if_neg h5]at fin hl |-
    exact⟨(),fin _ _⟩
def xw:R2:=λx y H Q=>rI IntMulOk (λi j=>.int (i * j)) x y H Q\/(∃z k,x=.str z/\y=.int k/\(-1000000<=k/\k<=1000000/\z.length<=16)/\Q (.str (tx z k)) H)\/E3 x y H Q
theorem opMul:dY X (binaryOp .Mult) xw:=op_mulB.or (op_mul_str.or ER)
theorem Bh:xw (.int i) (.int j) H Q↔IntMulOk i j/\Q (.int (i * j)) H:=by
 simp [xw,rI,E3]
def eY(K:Frag):R2:=λx y H Q=>vq (λi j=>.int (i+j)) x y H Q\/(∃i j,x=.str i/\y=.str j/\i.length+j.length<=sizeLine/\Q (.str (i++j)) H)\/Ds x y H Q\/xv K x y H Q
theorem opAdd:dY X (binaryOp .Add) (eY X.K):=op_add.or (op_add_str.or (op_cat.or Dg))
theorem oY:eY K (.int i) (.int j) H Q↔Q (.int (i+j)) H:=by
 simp [eY,vq,Ds,xv]
theorem Be{i j:Str}:eY K (.str i) (.str j) H Q↔i.length+j.length<=sizeLine/\Q (.str (i++j)) H:=by
 simp [eY,vq,Ds,xv]
theorem ij{l b:Addr}{zs:List V}(h1:H l=some (.lst xs))(h2:H b=some (.lst zs))(hz:xs.length+zs.length<=sizeLine)(q:∀p,H p=none->Q (.ref p) (upd H p (.lst (xs++zs)))):eY K (.ref l) (.ref b) H Q:=
 .inr (.inr (.inl ⟨l,b,xs,zs,rfl,rfl,h1,h2,hz,q⟩))
def E6:V->Option Int->Option Int->Hp->VK->Prop:=λx lo hi H Q=>∃z,x=.str z/\z.length<=sizeLine/\Q (.str (Txt.slice z lo hi)) H
theorem Fb:B8 X E6:=by
 rintro pins s Z H x v vl vu lo hi sl Q I rx hs pl pu ⟨z,rfl,hz,q⟩;obtain⟨t,rfl⟩:=rx;have fin:∀t' tk,EP X pins Z Q (.str (Txt.slice z lo hi) t') { s with toks:=tk }:=λt' tk=>⟨.str _,H,I.tok _,⟨t',rfl⟩,q⟩;refine⟨"str",_,F.slot_str_getitem.lookup,typeIs_str _ _ _,?_⟩
 cases pl with
 | none=>cases pu with
  | none=>exact ai4 (l:=none) (u:=none) (st:=none) hs rfl (post_val_or_str ⟨ab6 (Txt.slice_le z _ _) hz,λt' k=>fin t' k⟩)
  | int j u=>exact ai4 (l:=none) (u:=some (j,u)) (st:=none) hs rfl (post_val_or_str ⟨ab6 (Txt.slice_le z _ _) hz,λt' k=>fin t' k⟩)
 | int i u=>cases pu with
  | none=>exact ai4 (l:=some (i,u)) (u:=none) (st:=none) hs rfl (post_val_or_str ⟨ab6 (Txt.slice_le z _ _) hz,λt' k=>fin t' k⟩)
  | int j u'=>exact ai4 (l:=some (i,u)) (u:=some (j,u')) (st:=none) hs rfl (post_val_or_str ⟨ab6 (Txt.slice_le z _ _) hz,λt' k=>fin t' k⟩)
def uQ(K:Frag):V->Option Int->Option Int->Hp->VK->Prop:=λx lo hi H Q=>E5 K x lo hi H Q\/E7 K x lo hi H Q\/E6 x lo hi H Q
theorem slA:B8 X (uQ X.K):=sl_list.or (sl_tup.or Fb)
theorem E4{lo hi:Option Int}:uQ K (.str z) lo hi H Q↔z.length<=sizeLine/\Q (.str (Txt.slice z lo hi)) H:=by
 simp [uQ,E5,E7,E6]
theorem ck{a:Addr}{lo hi:Option Int}(h:aH K H a xs)(q:∀p,H p=none->Q (.ref p) (upd H p (.lst (nZ xs lo hi)))):uQ K (.ref a) lo hi H Q:=.inl ⟨a,xs,rfl,h,q⟩
theorem ixA:zp X (ny X.K):=Ew
theorem Gv:ny K (.str z) (.int i) H Q↔z.length<=sizeLine/\∃c,fV z.cps.toList i=some c/\Q (.str ⟨#[c]⟩) H:=by
 simp [ny,EZ,E2,E1]
theorem bp{p:Addr}(h:aH K H p xs)(hv:fV xs i=some v)(q:Q v H):ny K (.ref p) (.int i) H Q:=.inl ⟨p,xs,i,v,rfl,rfl,h,hv,q⟩
theorem dy{p:Addr}(h:cM K H p xs)(hv:fV xs i=some v)(q:Q v H):ny K (.ref p) (.int i) H Q:=.inr (.inl ⟨p,xs,i,v,rfl,rfl,h,hv,q⟩)
theorem opEq:dY X (compareOp .Eq) tu:=Gj
theorem Hq:dY X (compareOp .NotEq) vZ:=Gm
theorem jX:dY X (compareOp .Lt) (vq λi j=>.bl (decide (i < j))):=Gk
theorem vW:tu (.int i) (.int j) H Q↔Q (.bl (decide (i=j))) H:=by simp [tu,u6]
theorem Bi:vZ (.int i) (.int j) H Q↔Q (.bl (!decide (i=j))) H:=by simp [vZ,u6]
theorem vX{i j:Str}:tu (.str i) (.str j) H Q↔Q (.bl (decide (i=j))) H:=by simp [tu,u6]
theorem Bj{i j:Str}:vZ (.str i) (.str j) H Q↔Q (.bl (!decide (i=j))) H:=by simp [vZ,u6]
theorem rEq_bb{i j:Bool}:tu (.bl i) (.bl j) H Q↔Q (.bl (decide (i=j))) H:=by simp [tu,u6]
def vY(K:Frag):R2:=λx y H Q=>(∃i j,x=.str i/\y=.str j/\Q (.bl (!(Builtin.Str.occurrences j i 0 j.length 1).isEmpty)) H)\/Gu K false x y H Q
def jS(K:Frag):R2:=λx y H Q=>(∃i j,x=.str i/\y=.str j/\Q (.bl (!(!(Builtin.Str.occurrences j i 0 j.length 1).isEmpty))) H)\/Gu K true x y H Q
theorem Ho:dY X (compareOp .In) (vY X.K):=op_in_str.or yW
theorem De:dY X (compareOp .NotIn) (jS X.K):=op_notin_str.or sW
theorem EY{c:Nat}:vY K (.str ⟨#[c]⟩) (.str z) H Q↔Q (.bl (decide (c∈z.cps.toList))) H:=by
 simp [vY,Gu,StrLaws.found_one]
theorem yd:cO X (.builtin "len") (λxs H Q=>(∃z,xs=[.str z]/\z.length<=sizeLine/\Q (.int z.length) H)\/∃p ys,xs=[.ref p]/\(aH X.K H p ys\/cM X.K H p ys)/\Q (.int ys.length) H):=call_len_str.or si
theorem call_int_text:cO X (.type "int") (λxs H Q=>∃z n,xs=[.str z]/\intText? z=some n/\z.length<=640/\Q (.int n) H):=by
 rintro pins s Z H xs us Q I r ⟨z,n,rfl,hn,hl,q⟩;obtain⟨u,rfl,ru⟩:=eZ r;obtain⟨t,rfl⟩:=ru;exact PySem.W.KIN.call_text hn hl ⟨.int n,H,I.tok _,⟨_,rfl⟩,q⟩
theorem c9:cO X (.type "int") (λxs H Q=>(∃z n,xs=[.str z]/\intText? z=some n/\z.length<=640/\Q (.int n) H)\/((∃i,xs=[.int i]/\Q (.int i) H)\/∃k,xs=[.bl k]/\Q (.int (if k then 1 else 0)) H)):=call_int_text.or yc
theorem gO:Ce X "str.startswith" (λx xs H Q=>∃z y,x=.str z/\xs=[.str y]/\Q (.bl (Txt.startswith z y)) H):=by
 rintro pins s Z H x xs v us Q I rx r ⟨z,y,rfl,rfl,q⟩;obtain⟨t,rfl⟩:=rx;obtain⟨u,rfl,t',rfl⟩:=eZ r;exact SC.startswith ⟨.bl _,H,I,rfl,q⟩
theorem tU:cO X (.builtin "isinstance") (λxs H Q=>∃x n t b,xs=[x,.ty n]/\kT X.K H x t/\PySem.W.kitOne X.K t (.type n)=some b/\Q (.bl b) H):=by
 rintro pins s Z H xs us Q I r ⟨x,n,t,b,rfl,ty,e,q⟩;obtain⟨u,w',rfl,ru,rw'⟩:=vk r;cases rw';exact yE I ru ty e λtk=>⟨.bl b,H,I.tok _,rfl,q⟩
theorem kH:∀{bs:List Bool} {us:List Value},bh (bs.map V.bl) us->us=bs.map Value.bool
 | [],_,.nil=>rfl
 | b::bs,_,.cons r t=>by
  have e:_=Value.bool b:=r;rw [ad0,e,kH t]
theorem y6(bs:List Bool):(List.range bs.length).all (λi=>bs.getD i true)=bs.all id:=by
 induction bs with
 | nil=>rfl
 | cons b bs ih=>
  rw [ad6,List.range_succ_eq_map,al3,ah9,al3,<-ih];rfl
theorem y7(bs:List Bool):(List.range bs.length).any (λi=>bs.getD i true)=bs.any id:=by
 induction bs with
 | nil=>rfl
 | cons b bs ih=>
  rw [ad6,List.range_succ_eq_map,aj7,List.any_map,aj7,<-ih];rfl
theorem x8(hc:X.calm=true):cO X (.builtin "all") (λxs H Q=>∃(p:Addr) (bs:List Bool),xs=[.ref p]/\aH X.K H p (bs.map V.bl)/\Q (.bl (bs.all id)) H):=by
 rintro pins s Z H xs us Q I r ⟨p,bs,rfl,hq,q⟩;obtain⟨u,rfl,ru⟩:=eZ r;cases ru;obtain⟨its,rv,pl,hz⟩:=I.list hq;have e:=kH rv;subst e;have hh:X.A.in1.handled=none:=I.ok.hd hc;refine call_all_walk (ak6 pl.isList ⟨s.heap.objs.size,[s.heap.objs.size,p],[s.heap.objs.size],_,_,_,λi=>bs.getD i true,rfl,Walks.list hh _ p ?_ _,⟨⟨_,ab8 _ rfl,rfl,rfl⟩,pl.isList.push _⟩,?_,λh' tk hk=>?_⟩)
 ·obtain⟨o,n,e,_⟩:=pl
  exact ad3 (ab9 e)
 ·intro i v s' Q' E' hv hQ'
  have hv':(bs.map Value.bool)[i]?=some v:=by simpa using hv
  rw [aa4]at hv'
  cases hb:bs[i]? with
  | none=>rw [hb]at hv';cases hv'
  | some b=>
   rw [hb]at hv';cases hv';have hQ2:Q' (bs.getD i true) s':=hQ';rw [ab5,hb]at hQ2;exact ae2 hQ2
 ·refine⟨.bl (bs.all id),H,I.kept (h':=h') (t':=tk) λb o e=>hk b o ?_ (aa5 _ e),?_,q⟩
  ·intro z
   have z':b=s.heap.objs.size:=by simpa using z
   exact absurd (ab9 e) (by rw [z'];exact ag6 _)
  ·show Value.bool _=Value.bool _
   rw [<-y6];simp
theorem iy(h:∃u,X.mg x=some u/\aX v u)(hg:Gl X x:=by rfl)(hd:(x == ("__debug__":Str))=false:=by decide):PE X (.Name x pos) (tC v):=
 let ⟨_,hm,r⟩:=h;Dl hg hm r hd
end
structure cy(P:Program)(w:World)(K:Frag)(mg:Str->Option Value)(base:Heap)(x:Str)(k:Nat)(ps:List Str)(sp:Sp):Prop where
 ex:∃(f:Addr) (fd:FuncData),aK P w K mg base bP k f fd ps sp/\mg x=some (.ref f)/\keepIn K (.ref f)=true/\dm K fd ps []
section
variable {k:Nat} {ps:List Str} {sp:Sp} {p:Pos} {e:Expr} {es:List Expr} {t:TA}
theorem aA(d:cy X.prog X.w X.K X.mg X.base x k ps sp)(hr:dW k X.A)(hg:Gl X x)(ha:PA X (e::es) t)(hdb:(x == ("__debug__":Str))=false:=by decide)
  (he:starEach (e::es) X.env=(false,eval e X.env)::starEach es X.env:=by rfl) (hpl:(backTo pos (starEach es X.env)).any (·.1)=false:=by rfl):PE X (.Call (.Name x p) (e::es) [] pos) (vi sp [] E0 t):=
 let ⟨_,_,F,hm,hk,hb⟩:=d.ex;Dj F hr hg hm hk hb .nil rH ha hdb he hpl
end
end L2
namespace L3
open PySem PySem.Spec PyProof.Rows
section
variable {prog:Program} {w:World} {A:Around} {E:Value->Shared->Prop} {s:Shared}
theorem sF{it t:Addr}{i:Nat}{its:Array Value}{x:Value}{Q:Value->Shared->Prop}(qi:s.heap.IsTupleIter it t i)(qt:s.heap.IsTuple t its)(qx:its[i]?=some x)
  (hQ:∀h',h'.IsTupleIter it t (i+1)->Heap.SameBut it s.heap h'->Q x { s with heap:=h' }):wpAny (model prog w) A (Builtin.SmallTypes.nextOf (.ref it)) Q E s:=by
 obtain⟨oi,qo,qc,qd⟩:=id qi;obtain⟨ot,qot,_,nt,qdt⟩:=qt;unfold Builtin.SmallTypes.nextOf;refine aa3 (wpAny_callSpecial?_slot (name:=Str.ofString "__next__") qi.typeIs F.slot_tuple_iterator_next (ag2 F.slot_tuple_iterator_next qi.typeIs F.entry_tuple_iterator_next ?_ (F.args_tuple_iterator_next_1 _)));show wpAny _ _ (field (.ref it) 0 >>= _) _ _ s;refine aa3 (ae9 qo qd (x:=.ref t) rfl ?_);show wpAny _ _ (if (Value.ref t == Value.none)=true then _ else _) _ _ s;rw [if_neg (show ¬((Value.ref t == Value.none)=true)from aa6)];show wpAny _ _ (field (.ref it) 1 >>= _) _ _ s;refine aa3 (ae9 qo qd (x:=.int i 0) rfl ?_);show wpAny _ _ (seqItems? (.ref t) >>= _) _ _ s;refine aa3 (af9 qot qdt ?_);simp only [ag8,qx];refine aa3 (wpAny_setField qo qd (by simp) (aa9 ⟨x,rfl,aa9 (hQ _ ?_ (Heap.SameBut.update ..))⟩));exact⟨_,Heap.get?_update_self _ qo (Obj.isFreed_of_fields (Obj.data_mapFields qd _)),(Obj.cls_mapFields ..).trans qc,by rw [Obj.data_mapFields qd];simp [rawInt]⟩
theorem uu{it t:Addr}{i:Nat}{its:Array Value}{Q:Value->Shared->Prop}(hh:A.handled=none)(qi:s.heap.IsTupleIter it t i)(qt:s.heap.IsTuple t its)(qx:its[i]?=none)
  (hE:∀h' e,Heap.ExtBut it s.heap h'->(∃o,h'.get? e=some o/\o.cls=.type "StopIteration")->E (.ref e) { s with heap:=h' }):wpAny (model prog w) A (Builtin.SmallTypes.nextOf (.ref it)) Q E s:=by
 obtain⟨oi,qo,qc,qd⟩:=id qi;obtain⟨ot,qot,_,nt,qdt⟩:=qt;unfold Builtin.SmallTypes.nextOf;refine aa3 (wpAny_callSpecial?_slot (name:=Str.ofString "__next__") qi.typeIs F.slot_tuple_iterator_next (ag2 F.slot_tuple_iterator_next qi.typeIs F.entry_tuple_iterator_next ?_ (F.args_tuple_iterator_next_1 _)));show wpAny _ _ (field (.ref it) 0 >>= _) _ _ s;refine aa3 (ae9 qo qd (x:=.ref t) rfl ?_);show wpAny _ _ (if (Value.ref t == Value.none)=true then _ else _) _ _ s;rw [if_neg (show ¬((Value.ref t == Value.none)=true)from aa6)];show wpAny _ _ (field (.ref it) 1 >>= _) _ _ s;refine aa3 (ae9 qo qd (x:=.int i 0) rfl ?_);show wpAny _ _ (seqItems? (.ref t) >>= _) _ _ s;refine aa3 (af9 qot qdt ?_);simp only [ag8,qx];refine aa3 (wpAny_rule (aa3 (wpAny_setField qo qd (by simp) ?_)));show wpAny _ _ (newExc (.type "StopIteration") [] >>= _) _ _ _;refine aa3 ?_;simp only [newExc,newTuple]
 refine aa3 (ag9 ?_ (by size_fits));refine aa3 (m:=firstArgMember _ _) (wpAny_of_eq (a:=Value.none) (by first | rfl | (simp only [firstArgMember];rfl)) ?_)
 refine ag9 ?_ (by size_fits);simp only [raiseNew];refine aa3 (wpAny_handled ?_)
 first | rw [show A.in1.handled=none from hh] | rw [hh]
 exact aa3 (aa9 (wpAny_throw (hE _ _ (((Heap.SameBut.update ..).extBut.push _).push _) ⟨_,ab8 _ rfl,rfl⟩)))
end
theorem draws_tuple{prog:Program}{w:World}{A:Around}(hh:A.handled=none)(it t:Addr)(hne:t≠it)(its:Array Value):
  Draws prog w A it [it,t] its.size (λi v=>its[i]?=some v) (λi h=>h.IsTupleIter it t i/\h.IsTuple t its) where
 live:=λ_ _ st=>let ⟨o,ho,_⟩:=st.1;⟨o,ho⟩
 frame:=λ_ _ _ st hk=>⟨st.1.at λo e=>hk it (by simp) o e,let ⟨o,ho,r⟩:=st.2;⟨o,hk t (by simp) o ho,r⟩⟩
 item:=λi s Q E hi st hQ=>sF st.1 st.2 (x:=its[i]) (by simp [hi]) λh' qi qs=>hQ _ h' s.toks (by simp [hi]) ⟨qi,st.2.extBut qs.extBut hne⟩ qs
 done:=λs Q E st hE=>uu hh st.1 st.2 (by simp) hE
abbrev kU(h:Heap)(z TI TO:Addr)(f0:Value)(b1:Bool):Prop:=h.get? z=some { cls:=.type "zip",dict:=none,data:=.fields #[f0,.bool b1,.bool false,.ref TI,.ref TO],slots:=#[] }
def rY(f0:Value):Prop:=f0=.none\/∃T:Addr,f0=rawInt T
def He(h:Heap)(z TI TO:Addr):Prop:=∃f0 b1,kU h z TI TO f0 b1/\rY f0
structure ZAp(z TI TO i1 i2:Addr)(f1 f2:List Addr):Prop where
 a1:TI≠z
 a2:TO≠z
 a3:TI≠TO
 m1:i1∈f1
 m2:i2∈f2
 z1:z∉f1
 z2:z∉f2
 t1:TI∉f1
 t2:TI∉f2
 o1:TO∉f1
 o2:TO∉f2
 n1:i1∉f2
 n2:i2∉f1
section
variable {prog:Program} {w:World} {A:Around} {E:Value->Shared->Prop} {s:Shared} {z TI TO i1 i2:Addr} {f1 f2:List Addr} {n1 n2 k:Nat} {P1 P2:Nat->Value->Prop} {S1 S2:Nat->Heap->Prop} {a b:Value}
theorem cX{it c:Addr}{fp:List Addr}{n i:Nat}{P:Nat->Value->Prop}{St:Nat->Heap->Prop}{h h':Heap}(D:Draws prog w A it fp n P St)(st:St i h)(sb:Heap.SameBut c h h')(hc:c∉fp):St i h':=
 D.frame i h h' st λd hd o e=>(sb.2 d λq=>hc (q▸hd)).trans e
theorem zH{M:Model}{c:Addr}{Q:Option Obj->Shared->Prop}(h:Q (s.heap.get? c) s):wpAny M A (loadIfAlive c) Q E s:=λΓ p _=>by
 show Sem.wp M Γ (.loadIfAlive c .pure) _ _ p s;rw [Sem.wp_loadIfAlive];exact h
theorem oV{f0:Value}{b1:Bool}{Q:Bool->Shared->Prop}(qz:kU s.heap z TI TO f0 b1)(hf:rY f0)(h1:Q true s)
  (h2:∀h',f0≠.none->kU h' z TI TO f0 true->Heap.SameBut z s.heap h'->Q false { s with heap:=h' }):wpAny (model prog w) A (Builtin.SmallTypes.ownedTupleIsFree (.ref z)) Q E s:=by
 unfold Builtin.SmallTypes.ownedTupleIsFree;rcases hf with rfl | ⟨T,rfl⟩
 ·exact aa3 (ae9 qz rfl (x:=.none) rfl (aa9 h1))
 ·refine aa3 (ae9 qz rfl (x:=rawInt T) rfl ?_)
  show wpAny _ _ (loadIfAlive ((T:Int)).toNat >>= _) _ _ s;refine aa3 (zH ?_)
  cases s.heap.get? ((T:Int)).toNat with
  | none=>exact aa9 h1
  | some o=>
   show wpAny _ _ (field (.ref z) 1 >>= _) _ _ s;refine aa3 (ae9 qz rfl (x:=.bool b1) rfl ?_)
   cases b1 with
   | true=>exact aa9 (h2 s.heap (λz=>nomatch z) qz (Heap.SameBut.refl ..))
   | false=>
    show wpAny _ _ (setField (.ref z) 1 (.bool true) >>= _) _ _ s;exact aa3 (ag4 qz (by simp) λh' q e=>aa9 (h2 h' (λz=>nomatch z) q e))
theorem zm{f0:Value}{b1:Bool}{Q:Value->Shared->Prop}(D1:Draws prog w A i1 f1 n1 P1 S1)(D2:Draws prog w A i2 f2 n2 P2 S2)(ap:ZAp z TI TO i1 i2 f1 f2)(qz:kU s.heap z TI TO f0 b1)(hf:rY f0)(qI:IsPair s.heap TI (.ref i1) (.ref i2))(qO:IsPair s.heap TO a b)
  (st1:S1 k s.heap) (st2:S2 k s.heap) (k1:k < n1) (k2:k < n2)
  (hQ:∀x y h' tk,P1 k x->P2 k y->He h' z TI TO->(f0=.none->IsZip h' z TI TO (rawInt s.heap.objs.size))->IsPair h' TI (.ref i1) (.ref i2)->(∃a b,IsPair h' TO a b)->S1 (k+1) h'->S2 (k+1) h'->IsPair h' s.heap.objs.size x y->h'.objs.size=s.heap.objs.size+1->
   (∀c o,c≠z->c≠TO->c≠i1->c≠i2->s.heap.get? c=some o->h'.get? c=some o)->Q (.ref s.heap.objs.size) { s with heap:=h',toks:=tk }) :
  wpAny (model prog w) A (Builtin.«zip.__next__» ⟨[.ref z],[]⟩) (λfin s'=>∃v,fin=.done (.ret v)/\Q v s') E s:=by
 have c1:i1≠z:=λq=>ap.z1 (q▸ap.m1);have c2:i2≠z:=λq=>ap.z2 (q▸ap.m2);have c3:TO≠i1:=λq=>ap.o1 (q▸ap.m1);have c4:TO≠i2:=λq=>ap.o2 (q▸ap.m2);have c5:TI≠i1:=λq=>ap.t1 (q▸ap.m1);have c6:TI≠i2:=λq=>ap.t2 (q▸ap.m2);show wpAny _ _ (field (.ref z) 2 >>= _) _ _ _;refine aa3 (ae9 qz rfl (x:=.bool false) rfl ?_);show wpAny _ _ (field (.ref z) 3 >>= _) _ _ _;refine aa3 (ae9 qz rfl (x:=.ref TI) rfl ?_);refine aa3 (af9 qI rfl ?_);show wpAny _ _ (Builtin.SmallTypes.ownedTupleIsFree (.ref z) >>= _) _ _ _;refine aa3 (oV qz hf ?_ λh₀ Yp Yq Zu=>?_)
 ·simp only [if_true]
  refine aa3 (wpAny_rule ?_);refine aa3 (ae9 qz rfl (x:=.ref TO) rfl ?_);refine aa3 (ag4 qz (by simp) λZt Zx Zn=>?_);replace Zx:kU Zt z TI TO .ellipsis b1:=Zx;refine aa3 ?_;simp only [List.zipIdx_cons,List.zipIdx_nil,af5,ak7];refine aa3 (aa3 (an5 ?_));show wpAny _ _ (Builtin.SmallTypes.nextOf (.ref i1) >>= _) _ _ _;refine aa3 (D1.item k _ _ _ k1 (cX D1 st1 Zn ap.z1) λx Zs Ye p1 u1 Zi=>aa9 ?_);have Z5:IsPair Zs TO a b:=Zi.extBut _ _ c3 (Zn.extBut _ _ ap.a2 qO);refine aa3 (af9 Z5 rfl ?_);refine aa3 (al4 Z5 λZ0 Yb Zo=>?_);replace Yb:IsPair Z0 TO x b:=Yb;refine aa3 (wpAny_letGo (aa9 ?_));refine aa3 (aa3 (an5 ?_));show wpAny _ _ (Builtin.SmallTypes.nextOf (.ref i2) >>= _) _ _ _;refine aa3 (D2.item k _ _ _ k2 (cX D2 (cX D2 (cX D2 st2 Zn ap.z2) Zi ap.n1) Zo ap.o2) λy Zk Yy p2 u2 Zl=>aa9 ?_);have Yr:IsPair Zk TO x b:=Zl.extBut _ _ c4 Yb;refine aa3 (af9 Yr rfl ?_);refine aa3 (al4 Yr λZj Yc Zy=>?_);replace Yc:IsPair Zj TO x y:=Yc;refine aa3 (wpAny_letGo (aa9 (aa9 ?_)));refine aa3 (af9 Yc rfl ?_);refine aa3 (wpAny_newTuple ?_)
  have sz:Zj.objs.size=s.heap.objs.size:=by rw [Zy.1,Zl.1,Zo.1,Zi.1,Zn.1]
  have Ys:kU Zj z TI TO .ellipsis b1:=Zy.extBut _ _ ap.a2.symm (Zl.extBut _ _ c2.symm (Zo.extBut _ _ ap.a2.symm (Zi.extBut _ _ c1.symm Zx)));have Yt:∀c o,c≠z->c≠TO->c≠i1->c≠i2->s.heap.get? c=some o->Zj.get? c=some o:=λc o d1 d2 d3 d4 e=>Zy.extBut _ _ d2 (Zl.extBut _ _ d4 (Zo.extBut _ _ d2 (Zi.extBut _ _ d3 (Zn.extBut _ _ d1 e))));have Yz:S1 (k+1) Zj:=cX D1 (cX D1 (cX D1 u1 Zo ap.o1) Zl ap.n2) Zy ap.o1;have Y0:S2 (k+1) Zj:=cX D2 u2 Zy ap.o2;have zl:z < Zj.objs.size:=ab9 Ys;show wpAny _ _ (Builtin.SmallTypes.ownedTupleHandOut (.ref z) (.ref Zj.objs.size) >>= _) _ _ _;refine aa3 ?_;unfold Builtin.SmallTypes.ownedTupleHandOut;have Y1:kU (Zj.push { cls:=.type "tuple",data:=.seq #[x,y] }) z TI TO .ellipsis b1:=aa5 _ Ys;refine aa3 (ag4 Y1 (by simp) λY2 Yf Yg=>?_);replace Yf:kU Y2 z TI TO (rawInt Zj.objs.size) b1:=Yf;refine ag4 Yf (by simp) λZ6 Z7 Yh=>?_;replace Z7:kU Z6 z TI TO (rawInt Zj.objs.size) false:=Z7;have up:∀c o,c≠z->Zj.get? c=some o->Z6.get? c=some o:=λc o d1 e=>Yh.extBut _ _ d1 (Yg.extBut _ _ d1 (aa5 _ e));have Z8:IsPair Z6 Zj.objs.size x y:=Yh.extBut _ _ (aj5 zl) (Yg.extBut _ _ (aj5 zl) (ab8 _ rfl))
  have s8:Z6.objs.size=Zj.objs.size+1:=by rw [Yh.1,Yg.1,ae8]
  rw [sz]at Z7 Z8 s8;refine aa9 ⟨_,rfl,?_⟩;show Q (.ref Zj.objs.size) _;rw [sz];exact hQ x y Z6 _ p1 p2 ⟨_,_,Z7,.inr ⟨_,rfl⟩⟩ (λ_=>Z7) (up _ _ ap.a1 (Yt _ _ ap.a1 ap.a3 c5 c6 qI)) ⟨_,_,up _ _ ap.a2 Yc⟩ (D1.frame _ _ _ Yz λd hd o e=>up d o (λq=>ap.z1 (q▸hd)) e) (D2.frame _ _ _ Y0 λd hd o e=>up d o (λq=>ap.z2 (q▸hd)) e) Z8 s8 λc o d1 d2 d3 d4 e=>up c o d1 (Yt c o d1 d2 d3 d4 e)
 ·simp only [ae3,if_false]
  refine aa3 ?_;refine wpAny_arrayLoop ?_;simp only [af5,ak7];refine aa3 (aa3 (ae6 ?_));show wpAny _ _ (Builtin.SmallTypes.nextOf (.ref i1) >>= _) _ _ _;refine aa3 (D1.item k _ _ _ k1 (cX D1 st1 Zu ap.z1) λx Zs Ye p1 u1 Zi=>aa9 ?_);refine aa9 ?_;refine aa3 (aa3 (ae6 ?_));show wpAny _ _ (Builtin.SmallTypes.nextOf (.ref i2) >>= _) _ _ _;refine aa3 (D2.item k _ _ _ k2 (cX D2 (cX D2 st2 Zu ap.z2) Zi ap.n1) λy Zk Yy p2 u2 Zl=>aa9 ?_);refine aa9 (aa9 ?_);show wpAny _ _ (newTuple [x,y] >>= _) _ _ _;refine aa3 (wpAny_newTuple ?_)
  have sz:Zk.objs.size=s.heap.objs.size:=by rw [Zl.1,Zi.1,Zu.1]
  have Yd:kU Zk z TI TO f0 true:=Zl.extBut _ _ c2.symm (Zi.extBut _ _ c1.symm Yq);have Yi:∀c o,c≠z->c≠i1->c≠i2->s.heap.get? c=some o->Zk.get? c=some o:=λc o d1 d3 d4 e=>Zl.extBut _ _ d4 (Zi.extBut _ _ d3 (Zu.extBut _ _ d1 e));have up:∀c o,Zk.get? c=some o->(Zk.push { cls:=.type "tuple",data:=.seq #[x,y] }).get? c=some o:=λc o e=>aa5 _ e;have Z8:IsPair (Zk.push { cls:=.type "tuple",data:=.seq #[x,y] }) Zk.objs.size x y:=ab8 _ rfl;have s8:(Zk.push { cls:=.type "tuple",data:=.seq #[x,y] }).objs.size=Zk.objs.size+1:=ae8 ..;refine aa9 ⟨_,rfl,?_⟩;show Q (.ref Zk.objs.size) _;rw [sz]at Z8 s8 |-;exact hQ x y _ _ p1 p2 ⟨_,_,up _ _ Yd,hf⟩ (λz=>absurd z Yp) (up _ _ (Yi _ _ ap.a1 c5 c6 qI)) ⟨_,_,up _ _ (Yi _ _ ap.a2 c3 c4 qO)⟩ (D1.frame _ _ _ (cX D1 u1 Zl ap.n2) λd hd o e=>up d o e) (D2.frame _ _ _ u2 λd hd o e=>up d o e) Z8 s8 λc o d1 d2 d3 d4 e=>up c o (Yi c o d1 d3 d4 e)
theorem BZ{f0:Value}{b1:Bool}{Q:Fin->Shared->Prop}(D1:Draws prog w A i1 f1 n1 P1 S1)(D2:Draws prog w A i2 f2 n2 P2 S2)(ap:ZAp z TI TO i1 i2 f1 f2)(qz:kU s.heap z TI TO f0 b1)(hf:rY f0)(qI:IsPair s.heap TI (.ref i1) (.ref i2))(qO:IsPair s.heap TO a b)
  (st1:S1 k s.heap) (st2:S2 k s.heap) (kk:k=n1\/(k < n1/\k=n2))
  (hE:∀h' e tk,(∀c o,c≠z->c≠TO->c≠i1->c≠i2->s.heap.get? c=some o->h'.get? c=some o)->(∃o,h'.get? e=some o/\o.cls=.type "StopIteration")->E (.ref e) { s with heap:=h',toks:=tk }) :
  wpAny (model prog w) A (Builtin.«zip.__next__» ⟨[.ref z],[]⟩) Q E s:=by
 have c1:i1≠z:=λq=>ap.z1 (q▸ap.m1);have c2:i2≠z:=λq=>ap.z2 (q▸ap.m2);have c3:TO≠i1:=λq=>ap.o1 (q▸ap.m1);have c4:TO≠i2:=λq=>ap.o2 (q▸ap.m2);show wpAny _ _ (field (.ref z) 2 >>= _) _ _ _;refine aa3 (ae9 qz rfl (x:=.bool false) rfl ?_);show wpAny _ _ (field (.ref z) 3 >>= _) _ _ _;refine aa3 (ae9 qz rfl (x:=.ref TI) rfl ?_);refine aa3 (af9 qI rfl ?_);show wpAny _ _ (Builtin.SmallTypes.ownedTupleIsFree (.ref z) >>= _) _ _ _;refine aa3 (oV qz hf ?_ λh₀ Yp Yq Zu=>?_)
 ·simp only [if_true]
  refine aa3 (wpAny_rule ?_);refine aa3 (ae9 qz rfl (x:=.ref TO) rfl ?_);refine aa3 (ag4 qz (by simp) λZt Zx Zn=>?_);replace Zx:kU Zt z TI TO .ellipsis b1:=Zx;refine aa3 ?_;simp only [List.zipIdx_cons,List.zipIdx_nil,af5,ak7];refine aa3 (aa3 (an5 ?_));show wpAny _ _ (Builtin.SmallTypes.nextOf (.ref i1) >>= _) _ _ _;rcases kk with kk | ⟨k1,kk⟩
  ·subst kk
   refine aa3 (D1.done _ _ _ (cX D1 st1 Zn ap.z1) λZs e Zi he=>?_);obtain⟨oe,hoe,hce⟩:=he;have Yu:kU Zs z TI TO .ellipsis b1:=Zi _ _ c1.symm Zx
   have ez:e≠z:=λq=>by subst q;rw [Yu]at hoe;cases hoe;simp at hce
   exact ag4 Yu (by simp) λZ0 _ Zo=>hE Z0 e _ (λc o d1 _ d3 _ q=>Zo.extBut _ _ d1 (Zi _ _ d3 (Zn.extBut _ _ d1 q))) ⟨oe,Zo.extBut _ _ ez hoe,hce⟩
  ·subst kk
   refine aa3 (D1.item k _ _ _ k1 (cX D1 st1 Zn ap.z1) λx Zs Ye p1 u1 Zi=>aa9 ?_);have Z5:IsPair Zs TO a b:=Zi.extBut _ _ c3 (Zn.extBut _ _ ap.a2 qO);refine aa3 (af9 Z5 rfl ?_);refine aa3 (al4 Z5 λZ0 Yb Zo=>?_);refine aa3 (wpAny_letGo (aa9 ?_));refine aa3 (aa3 (an5 ?_));show wpAny _ _ (Builtin.SmallTypes.nextOf (.ref i2) >>= _) _ _ _;refine aa3 (D2.done _ _ _ (cX D2 (cX D2 (cX D2 st2 Zn ap.z2) Zi ap.n1) Zo ap.o2) λZk e Zl he=>?_);obtain⟨oe,hoe,hce⟩:=he;have Yd:kU Zk z TI TO .ellipsis b1:=Zl _ _ c2.symm (Zo.extBut _ _ ap.a2.symm (Zi.extBut _ _ c1.symm Zx))
   have ez:e≠z:=λq=>by subst q;rw [Yd]at hoe;cases hoe;simp at hce
   exact ag4 Yd (by simp) λZj _ Zy=>hE Zj e _ (λc o d1 d2 d3 d4 q=>Zy.extBut _ _ d1 (Zl _ _ d4 (Zo.extBut _ _ d2 (Zi.extBut _ _ d3 (Zn.extBut _ _ d1 q))))) ⟨oe,Zy.extBut _ _ ez hoe,hce⟩
 ·simp only [ae3,if_false]
  refine aa3 ?_;refine wpAny_arrayLoop ?_;simp only [af5,ak7];refine aa3 (aa3 (ae6 ?_));show wpAny _ _ (Builtin.SmallTypes.nextOf (.ref i1) >>= _) _ _ _;rcases kk with kk | ⟨k1,kk⟩
  ·subst kk
   refine aa3 (D1.done _ _ _ (cX D1 st1 Zu ap.z1) λZs e Zi he=>?_);exact hE Zs e _ (λc o d1 _ d3 _ q=>Zi _ _ d3 (Zu.extBut _ _ d1 q)) he
  ·subst kk
   refine aa3 (D1.item k _ _ _ k1 (cX D1 st1 Zu ap.z1) λx Zs Ye p1 u1 Zi=>aa9 ?_);refine aa9 ?_;refine aa3 (aa3 (ae6 ?_));show wpAny _ _ (Builtin.SmallTypes.nextOf (.ref i2) >>= _) _ _ _;refine aa3 (D2.done _ _ _ (cX D2 (cX D2 st2 Zu ap.z2) Zi ap.n1) λZk e Zl he=>?_);exact hE Zk e _ (λc o d1 d2 d3 d4 q=>Zl _ _ d4 (Zi.extBut _ _ d3 (Zu.extBut _ _ d1 q))) he
theorem nextZip_item{Q:Option Value->Shared->Prop}(D1:Draws prog w A.in1 i1 f1 n1 P1 S1)(D2:Draws prog w A.in1 i2 f2 n2 P2 S2)(ap:ZAp z TI TO i1 i2 f1 f2)(qz:IsZip s.heap z TI TO .none)(qI:IsPair s.heap TI (.ref i1) (.ref i2))(qO:IsPair s.heap TO a b)
  (st1:S1 k s.heap) (st2:S2 k s.heap) (k1:k < n1) (k2:k < n2)
  (hQ:∀x y h' tk,P1 k x->P2 k y->IsZip h' z TI TO (rawInt s.heap.objs.size)->(∃a b,IsPair h' TO a b)->S1 (k+1) h'->S2 (k+1) h'->IsPair h' s.heap.objs.size x y->h'.objs.size=s.heap.objs.size+1->
   (∀c o,c≠z->c≠TO->c≠i1->c≠i2->s.heap.get? c=some o->h'.get? c=some o)->Q (some (.ref s.heap.objs.size)) { s with heap:=h',toks:=tk }):wpAny (model prog w) A (pyNext (.ref z)) Q E s:=by
 have ty:s.TypeIs (.ref z) "zip":=⟨_,qz,rfl⟩;unfold pyNext
 exact aa3 (wpAny_attempt (wpAny_callSpecial?_slot (name:=Str.ofString "__next__") ty F.slot_zip_next (ag2 F.slot_zip_next ty F.entry_zip_next
   (zm D1 D2 ap qz (.inl rfl) qI qO st1 st2 k1 k2 λx y h' tk b1 b2 b3 b4 b5 b6 b7 b8 b9 b10 b11=>aa9 (hQ x y h' tk b1 b2 (b4 rfl) b6 b7 b8 b9 b10 b11)) (F.args_zip_next_1 _))))
theorem nextZip_end{Q:Option Value->Shared->Prop}(D1:Draws prog w A.in1 i1 f1 n1 P1 S1)(D2:Draws prog w A.in1 i2 f2 n2 P2 S2)(ap:ZAp z TI TO i1 i2 f1 f2)(qz:IsZip s.heap z TI TO .none)(qI:IsPair s.heap TI (.ref i1) (.ref i2))(qO:IsPair s.heap TO a b)
  (st1:S1 k s.heap) (st2:S2 k s.heap) (kk:k=n1\/(k < n1/\k=n2))
  (hQ:∀h' tk,(∀c o,c≠z->c≠TO->c≠i1->c≠i2->s.heap.get? c=some o->h'.get? c=some o)->Q none { s with heap:=h',toks:=tk }):wpAny (model prog w) A (pyNext (.ref z)) Q E s:=by
 have ty:s.TypeIs (.ref z) "zip":=⟨_,qz,rfl⟩;unfold pyNext;refine aa3 (wpAny_attempt (wpAny_callSpecial?_slot (name:=Str.ofString "__next__") ty F.slot_zip_next (ag2 F.slot_zip_next ty F.entry_zip_next (BZ D1 D2 ap qz (.inl rfl) qI qO st1 st2 kk λh' e tk hk he=>?_) (F.args_zip_next_1 _))));obtain⟨oe,hoe,hce⟩:=he;exact aa3 (an8 (T:="StopIteration") (b:=true) ⟨oe,hoe,hce⟩ isSubtype_stop (aa9 (hQ _ _ hk)))
end
def itRec(l:Bool)(a:Addr):Obj:={ cls:=.type (if l then "list_iterator" else "tuple_iterator"),data:=.fields #[.ref a,.int 0 0] }
def IsSeq(l:Bool)(h:Heap)(a:Addr)(xs:Array Value):Prop:=if l=true then h.IsList a xs else h.IsTuple a xs
theorem IsSeq.push{l:Bool}{h:Heap}{a:Addr}{xs:Array Value}(q:IsSeq l h a xs)(o:Obj):IsSeq l (h.push o) a xs:=by
 cases l
 ·exact Heap.IsTuple.push (show h.IsTuple a xs from q) o
 ·exact Heap.IsList.push (show h.IsList a xs from q) o
theorem jf{prog:Program}{w:World}{A:Around}{E:Value->Shared->Prop}{s:Shared}{l:Bool}{a:Addr}{xs:Array Value}{Q:Value->Shared->Prop}(q:IsSeq l s.heap a xs)(h:Q (.ref s.heap.objs.size) { s with heap:=s.heap.push (itRec l a) }):wpAny (model prog w) A (pyIter (.ref a)) Q E s:=by
 cases l
 ·exact wpAny_pyIter_tuple (show s.heap.IsTuple a xs from q) h
 ·exact ak6 (show s.heap.IsList a xs from q) h
abbrev GZ(h:Heap)(l1:Bool)(a1:Addr):Heap:=h.push (itRec l1 a1)
abbrev G0(h:Heap)(l1 l2:Bool)(a1 a2:Addr):Heap:=(GZ h l1 a1).push (itRec l2 a2)
abbrev G1(h:Heap)(l1 l2:Bool)(a1 a2:Addr):Heap:=(G0 h l1 l2 a1 a2).push { cls:=.type "tuple",data:=.seq #[.ref h.objs.size,.ref (GZ h l1 a1).objs.size] }
abbrev G2(h:Heap)(l1 l2:Bool)(a1 a2:Addr):Heap:=(G1 h l1 l2 a1 a2).push { cls:=.type "tuple",data:=.seq #[.none,.none] }
abbrev Fu(h:Heap)(l1 l2:Bool)(a1 a2:Addr):Heap:=(G2 h l1 l2 a1 a2).push { cls:=.type "zip",data:=.fields #[.none,.bool false,.bool false,.ref (G0 h l1 l2 a1 a2).objs.size,.ref (G1 h l1 l2 a1 a2).objs.size] }
theorem yI(l1 l2:Bool)(a1 a2:Addr)(xs ys:Array Value):
  Meets (Builtin.«zip.__new__» ⟨[.type "zip",.ref a1,.ref a2],[]⟩) (λ_ R s=>IsSeq l1 s.heap a1 xs/\IsSeq l2 s.heap a2 ys/\R (.ok (.ret (.ref (G2 s.heap l1 l2 a1 a2).objs.size))) { s with heap:=Fu s.heap l1 l2 a1 a2 }):=
 .of_wp λprog w A R s h=>by
  obtain⟨hp,g,d,tk,os⟩:=s;obtain⟨q1,q2,h⟩:=h;have hsub:=sub_zip;have u1:IsSeq l1 (Shared.heap ⟨hp,g,d,tk,os⟩) a1 xs:=q1;have u2:IsSeq l2 (Shared.heap ⟨hp.push (itRec l1 a1),g,d,tk,os⟩) a2 ys:=IsSeq.push q2 _
  wp_walk using jf u1,jf u2
  exact⟨_,rfl,h⟩
section
variable {prog:Program} {w:World} {A:Around} {E:Value->Shared->Prop} {s:Shared}
theorem call_zip{l1 l2:Bool}{a1 a2:Addr}{xs ys:Array Value}{Q:Value->Shared->Prop}(q1:IsSeq l1 s.heap a1 xs)(q2:IsSeq l2 s.heap a2 ys)
  (h:∀h',IsZip h' (s.heap.objs.size+4) (s.heap.objs.size+2) (s.heap.objs.size+3) .none->IsPair h' (s.heap.objs.size+2) (.ref s.heap.objs.size) (.ref (s.heap.objs.size+1))->
   IsPair h' (s.heap.objs.size+3) .none .none->h'.get? s.heap.objs.size=some (itRec l1 a1)->h'.get? (s.heap.objs.size+1)=some (itRec l2 a2)->h'.objs.size=s.heap.objs.size+5->
   (∀c o,s.heap.get? c=some o->h'.get? c=some o)->Q (.ref (s.heap.objs.size+4)) { s with heap:=h' }):wpAny (model prog w) A (call (.type "zip") [.ref a1,.ref a2]) Q E s:=by
 refine callType_new F.called_zip ∅ (F.typeCall_zip_2 _ _) (F.newCall_zip_2 _ _) (λobj=>F.args_object_init_3 obj _ _) F.entry_zip_new (yI l1 l2 a1 a2 xs ys) ⟨q1,q2,?_⟩;have e1:(GZ s.heap l1 a1).objs.size=s.heap.objs.size+1:=ae8 ..
 have e2:(G0 s.heap l1 l2 a1 a2).objs.size=s.heap.objs.size+2:=by rw [ae8,e1]
 have e3:(G1 s.heap l1 l2 a1 a2).objs.size=s.heap.objs.size+3:=by rw [ae8,e2]
 have e4:(G2 s.heap l1 l2 a1 a2).objs.size=s.heap.objs.size+4:=by rw [ae8,e3]
 have e5:(Fu s.heap l1 l2 a1 a2).objs.size=s.heap.objs.size+5:=by rw [ae8,e4]
 have g5:(Fu s.heap l1 l2 a1 a2).get? (G2 s.heap l1 l2 a1 a2).objs.size=some _:=ab8 _ rfl;have g4:(Fu s.heap l1 l2 a1 a2).get? (G1 s.heap l1 l2 a1 a2).objs.size=some _:=aa5 _ (ab8 _ rfl);have g3:(Fu s.heap l1 l2 a1 a2).get? (G0 s.heap l1 l2 a1 a2).objs.size=some _:=aa5 _ (aa5 _ (ab8 _ rfl));have g2:(Fu s.heap l1 l2 a1 a2).get? (GZ s.heap l1 a1).objs.size=some (itRec l2 a2):=aa5 _ (aa5 _ (aa5 _ (ab8 _ rfl)));have g1:(Fu s.heap l1 l2 a1 a2).get? s.heap.objs.size=some (itRec l1 a1):=aa5 _ (aa5 _ (aa5 _ (aa5 _ (ab8 _ rfl))));show _/\_;rw [e2,e3,e4]at g5;rw [e1,e2]at g3;rw [e3]at g4;rw [e1]at g2;rw [e4];exact⟨⟨_,g5,rfl⟩,h _ g5 g3 g4 g1 g2 e5 λc o q=>aa5 _ (aa5 _ (aa5 _ (aa5 _ (aa5 _ q))))⟩
end
end L3
namespace L2
open PySem PySem.Spec PyProof.Rows
variable {H:Hp} {X:Cx} {a it:Addr} {h:Heap} {l:Bool} {pins:List (Addr×Obj)} {s:Shared} {xs:List V} {Z:St}
def iS(K:Frag)(l:Bool)(H:Hp)(a:Addr)(xs:List V):Prop:=if l=true then aH K H a xs else cM K H a xs
def kQ(l:Bool)(h:Heap)(it a:Addr)(i:Nat):Prop:=if l=true then h.IsListIter it a i else h.IsTupleIter it a i
theorem kQ.at{h':Heap}{i:Nat}(x:kQ l h it a i)(e:∀o,h.get? it=some o->h'.get? it=some o):kQ l h' it a i:=by
 cases l
 ·exact Heap.IsTupleIter.at (show h.IsTupleIter it a i from x) e
 ·exact Heap.IsListIter.at (show h.IsListIter it a i from x) e
theorem kQ.rec(e:h.get? it=some (L3.itRec l a)):kQ l h it a 0:=by
 cases l
 ·exact⟨_,e,rfl,rfl⟩
 ·exact⟨_,e,rfl,rfl⟩
theorem kQ.obj{i:Nat}(x:kQ l h it a i):∃o,h.get? it=some o/\∀v,o.data≠.cell v:=by
 cases l
 ·obtain⟨o,e,_,d⟩:=(show h.IsTupleIter it a i from x)
  exact⟨o,e,λv z=>by rw [d]at z;cases z⟩
 ·obtain⟨o,e,_,d⟩:=(show h.IsListIter it a i from x)
  exact⟨o,e,λv z=>by rw [d]at z;cases z⟩
theorem gc{P:Program}{w:World}{A:Around}(hh:A.handled=none)(l:Bool)(it a:Addr)(hne:a≠it)(its:Array Value):
  Draws P w A it [it,a] its.size (λi v=>its[i]?=some v) (λi h=>kQ l h it a i/\L3.IsSeq l h a its):=by
 cases l
 ·exact L3.draws_tuple hh it a hne its
 ·exact Draws.list hh it a hne its
theorem aQ.seqB(I:aQ X pins Z H s)(h:iS X.K l H a xs):∃its:List Value,bh xs its/\L3.IsSeq l s.heap a its.toArray/\xs.length<=sizeLine:=by
 cases l
 ·obtain⟨its,r,p,z⟩:=I.tuple (show cM X.K H a xs from h)
  exact⟨its,r,p,z⟩
 ·obtain⟨its,r,p,z⟩:=I.list (show aH X.K H a xs from h)
  exact⟨its,r,p.isList,z⟩
theorem aQ.seqB_inj{ys:List V}(I:aQ X pins Z H s)(h:iS X.K l H a xs)(h':iS X.K l H a ys):xs=ys:=by
 cases l
 ·exact I.tuple_inj (show cM X.K H a xs from h) h'
 ·exact I.list_inj (show aH X.K H a xs from h) h'
theorem aQ.seqB_ne{b:Addr}(I:aQ X pins Z H s)(h:iS X.K l H a xs)(f:nj X pins H b):a≠b:=by
 obtain⟨f0,_,_,f3,_,_⟩:=f
 have tr:∀{o:HO},Rd H a o->a≠b:=λ{o} r=>by
  rcases r with r | ⟨_,r⟩
  ·exact aq r f0
  ·exact aq r f0
 have kb:∀{o:Obj},X.K.lookup a=some o->a≠b:=λ{o} hk=>by
  have hb:=I.ok.mod.kin a o hk;rcases f3 with z | z
  ·exact λq=>I.ok.noex a o hb (q▸z)
  ·exact ad3 (ab2 (ab9 hb) (ab6 I.ok.bsz z))
 cases l
 ·rcases(show cM X.K H a xs from h)with h | ⟨o,_,_,hk,_⟩
  ·exact tr h
  ·exact kb hk
 ·rcases(show aH X.K H a xs from h)with h | ⟨o,_,_,hk,_⟩
  ·exact tr h
  ·exact kb hk
def G8(K:Frag)(l1 l2:Bool)(a1 a2:Addr):It:=
 ⟨λi H=>∃xs ys x y,iS K l1 H a1 xs/\iS K l2 H a2 ys/\xs[i]?=some x/\ys[i]?=some y,
  λi H v H'=>∃p x y,v=.ref p/\H p=none/\H'=upd H p (.tup [x,y])/\(∀xs,iS K l1 H a1 xs->xs[i]?=some x)/\∀ys,iS K l2 H a2 ys->ys[i]?=some y,
  λi H=>∃xs ys,iS K l1 H a1 xs/\iS K l2 H a2 ys/\(i=xs.length\/(i < xs.length/\i=ys.length))⟩
theorem BU{P:Program}{w:World}{K:Frag}{elts:List Expr}{kt:Nat}{pt:Pos}(l1 l2:Bool)(a1 a2 z TI TO i1 i2:Addr)(nd:[z,TI,TO,i1,i2].Nodup):
  r9 P w K (.Tuple elts kt pt) (G8 K l1 l2 a1 a2) [z,TI,TO,i1,i2] z
   (λi h=>IsZip h z TI TO .none/\IsPair h TI (.ref i1) (.ref i2)/\(∃a b,IsPair h TO a b)/\kQ l1 h i1 a1 i/\kQ l2 h i2 a2 i):=by
 have nd':(z≠TI/\z≠TO/\z≠i1/\z≠i2)/\(TI≠TO/\TI≠i1/\TI≠i2)/\(TO≠i1/\TO≠i2)/\i1≠i2:=by
  simpa [not_or]using nd
 obtain⟨⟨d1,d2,d3,d4⟩,⟨d5,d6,d7⟩,⟨d8,d9⟩,d10⟩:=nd'
 have zap:∀{X:Cx} {pins:List (Addr×Obj)} {Z:St} {H:Hp} {s:Shared} {xs ys:List V},aQ X pins Z H s->(∀b∈[z,TI,TO,i1,i2],nj X pins H b)->iS X.K l1 H a1 xs->iS X.K l2 H a2 ys->L3.ZAp z TI TO i1 i2 [i1,a1] [i2,a2]:=λ{X pins Z H s xs ys} I hf q1 q2=>by
  have n1:∀b∈[z,TI,TO,i1,i2],a1≠b:=λb hb=>I.seqB_ne q1 (hf b hb);have n2:∀b∈[z,TI,TO,i1,i2],a2≠b:=λb hb=>I.seqB_ne q2 (hf b hb);refine⟨d1.symm,d2.symm,d5,by simp,by simp,?_,?_,?_,?_,?_,?_,?_,?_⟩
  ·simp only [ab0,ad2,or_false,not_or];exact⟨d3,(n1 z (by simp)).symm⟩
  ·simp only [ab0,ad2,or_false,not_or];exact⟨d4,(n2 z (by simp)).symm⟩
  ·simp only [ab0,ad2,or_false,not_or];exact⟨d6,(n1 TI (by simp)).symm⟩
  ·simp only [ab0,ad2,or_false,not_or];exact⟨d7,(n2 TI (by simp)).symm⟩
  ·simp only [ab0,ad2,or_false,not_or];exact⟨d8,(n1 TO (by simp)).symm⟩
  ·simp only [ab0,ad2,or_false,not_or];exact⟨d9,(n2 TO (by simp)).symm⟩
  ·simp only [ab0,ad2,or_false,not_or];exact⟨d10,(n2 i1 (by simp)).symm⟩
  ·simp only [ab0,ad2,or_false,not_or];exact⟨d10.symm,(n1 i2 (by simp)).symm⟩
 refine⟨by simp,?_,?_,?_,?_,?_⟩
 ·rintro i h ⟨qz,qI,⟨a,b,qO⟩,u1,u2⟩ c hc
  have hc':c=z\/c=TI\/c=TO\/c=i1\/c=i2:=by simpa using hc
  rcases hc' with e | e | e | e | e
  ·subst e;exact⟨_,qz,λv q=>by cases q⟩
  ·subst e;exact⟨_,qI,λv q=>by cases q⟩
  ·subst e;exact⟨_,qO,λv q=>by cases q⟩
  ·subst e;exact u1.obj
  ·subst e;exact u2.obj
 ·rintro i h h' ⟨qz,qI,⟨a,b,qO⟩,u1,u2⟩ k
  exact⟨k z (by simp) _ qz,k TI (by simp) _ qI,⟨a,b,k TO (by simp) _ qO⟩,u1.at λo e=>k i1 (by simp) o e,u2.at λo e=>k i2 (by simp) o e⟩
 ·rintro X hP hw hK hc i pins s Z H E I hf ⟨qz,qI,⟨a,b,qO⟩,u1,u2⟩ ⟨xs,ys,x,y,q1,q2,hx,hy⟩
  subst hP hw hK;have hh:X.A.in1.handled=none:=I.ok.hd hc;obtain⟨its1,r1,p1,z1⟩:=I.seqB q1;obtain⟨its2,r2,p2,z2⟩:=I.seqB q2;have D1:=gc (P:=X.prog) (w:=X.w) hh l1 i1 a1 (I.seqB_ne q1 (hf i1 (by simp))) its1.toArray;have D2:=gc (P:=X.prog) (w:=X.w) hh l2 i2 a2 (I.seqB_ne q2 (hf i2 (by simp))) its2.toArray
  have lx:i < its1.toArray.size:=by
   have:=(aa1.mp hx).1
   rw [ab1,<-r1.length];exact this
  have ly:i < its2.toArray.size:=by
   have:=(aa1.mp hy).1
   rw [ab1,<-r2.length];exact this
  refine L3.nextZip_item D1 D2 (zap I hf q1 q2) qz qI qO ⟨u1,p1⟩ ⟨u2,p2⟩ lx ly λv1 v2 h' tk e1 e2 z' o' s1' s2' pr sz kk=>?_;obtain⟨w1,g1,rx⟩:=r1.get hx;obtain⟨w2,g2,ry⟩:=r2.get hy
  have ev1:v1=w1:=by
   have:its1[i]?=some v1:=by simpa using e1
   rw [g1]at this;exact(Option.some.inj this).symm
  have ev2:v2=w2:=by
   have:its2[i]?=some v2:=by simpa using e2
   rw [g2]at this;exact(Option.some.inj this).symm
  subst ev1 ev2;obtain⟨oa,ob,o'⟩:=o';refine⟨_,rfl,wpAny_letOwnedTupleGo_zip (s:={ s with heap:=h',toks:=tk }) z' λh2 z2' sb=>?_⟩;have fz:s.heap.objs.size≠z:=aj5 (ab9 qz);have Hn:H s.heap.objs.size=none:=I.hok.fresh (aa8 _)
  have kp:∀c o,c∉[z,TI,TO,i1,i2]->s.heap.get? c=some o->h2.get? c=some o:=λc o hc e=>by
   have hc':c≠z/\c≠TI/\c≠TO/\c≠i1/\c≠i2:=by simpa [not_or]using hc
   exact(sb.2 c hc'.1).trans (kk c o hc'.1 hc'.2.2.1 hc'.2.2.2.1 hc'.2.2.2.2 e)
  have nf:∀{c:Addr} {u:HO},H c=some u->c∉[z,TI,TO,i1,i2]:=λ{c u} e hc=>by
   have:=(hf c hc).1
   rw [e]at this;cases this
  have pr2:h2.get? s.heap.objs.size=some { cls:=.type "tuple",data:=.seq #[v1,v2] }:=(sb.2 _ fz).trans pr
  have I2:aQ X pins Z (upd H s.heap.objs.size (.tup [x,y])) { s with heap:=h2,toks:=tk }:=by
   refine I.step (g':=s.gens) (d':=s.drawn) (ch:=[z,TI,TO,i1,i2]) (λc hc=>⟨(hf c hc).2.2.2.1,(hf c hc).2.1,(hf c hc).2.2.2.2.1,(hf c hc).2.2.2.2.2⟩) (λc o _ _ hc e _=>kp c o hc e) (λc o _ _ hc e _=>⟨o.slots,kp c o hc e⟩)
    (λc o _ e n=>by rw [aj (ad3 (ab9 e))];exact n) (λc o hc e=>⟨o,kp c o hc e⟩) (λc us e=>by rw [aj (aq e Hn)];exact e) (λc o u e=>by rw [aj (aq e Hn)];exact e)
    (λc ps e=>⟨#[],by rw [aj (aq e Hn),e];simp⟩) (λm hm=>?_) (λc u e=>?_) I.bare
   ·obtain⟨o,es,ep,ho,r⟩:=hm
    exact⟨o,es,ep,kp _ o (λq=>(hf _ q).2.1 rfl) ho,r⟩
   ·by_cases hcs:c=s.heap.objs.size
    ·subst hcs
     rw [af]at e;cases e;exact⟨by rw [sizeLine_eq];show 2<=16777216;omega,[v1,v2],.cons rx (.cons ry .nil),_,pr2,rfl,_,rfl⟩
    ·rw [aj hcs]at e
     refine(I.hok c u e).stay (λd o hd q=>kp d o ?_ q) (λd q=>by rw [aj (aq q Hn)];exact q) λd us q=>by rw [aj (aq q Hn)];exact q
     rcases hd with hd | hd
     ·rw [hd];exact nf e
     ·exact nf hd
  refine⟨.ref s.heap.objs.size,_,I2,rfl,⟨_,x,y,rfl,Hn,rfl,λus hu=>by rw [I.seqB_inj hu q1];exact hx,λus hu=>by rw [I.seqB_inj hu q2];exact hy⟩,⟨z2',?_,⟨oa,ob,?_⟩,?_,?_⟩,λc hc=>?_⟩
  ·exact(sb.2 _ d1.symm).trans (kk TI _ d1.symm d5 d6 d7 qI)
  ·exact(sb.2 _ d2.symm).trans o'
  ·exact s1'.1.at λo e=>(sb.2 _ d3.symm).trans e
  ·exact s2'.1.at λo e=>(sb.2 _ d4.symm).trans e
  ·show upd H s.heap.objs.size (.tup [x,y]) c=none
   have lt:c < s.heap.objs.size:=by
    have hc':c=z\/c=TI\/c=TO\/c=i1\/c=i2:=by simpa using hc
    rcases hc' with e | e | e | e | e
    ·subst e;exact ab9 qz
    ·subst e;exact ab9 qI
    ·subst e;exact ab9 qO
    ·subst e;obtain⟨o,e,_⟩:=u1.obj;exact ab9 e
    ·subst e;obtain⟨o,e,_⟩:=u2.obj;exact ab9 e
   rw [aj (ad3 lt)];exact(hf c hc).1
 ·rintro X hP hw hK hc i pins s Z H E I hf ⟨qz,qI,⟨a,b,qO⟩,u1,u2⟩ ⟨xs,ys,q1,q2,hend⟩
  subst hP hw hK;have hh:X.A.in1.handled=none:=I.ok.hd hc;obtain⟨its1,r1,p1,z1⟩:=I.seqB q1;obtain⟨its2,r2,p2,z2⟩:=I.seqB q2;have D1:=gc (P:=X.prog) (w:=X.w) hh l1 i1 a1 (I.seqB_ne q1 (hf i1 (by simp))) its1.toArray;have D2:=gc (P:=X.prog) (w:=X.w) hh l2 i2 a2 (I.seqB_ne q2 (hf i2 (by simp))) its2.toArray
  have kk:i=its1.toArray.size\/(i < its1.toArray.size/\i=its2.toArray.size):=by
   rw [ab1,ab1,<-r1.length,<-r2.length];exact hend
  refine L3.nextZip_end D1 D2 (zap I hf q1 q2) qz qI qO ⟨u1,p1⟩ ⟨u2,p2⟩ kk λh' tk k=>⟨rfl,?_⟩
  have nf:∀{c:Addr} {u:HO},H c=some u->c∉[z,TI,TO,i1,i2]:=λ{c u} e hc=>by
   have:=(hf c hc).1
   rw [e]at this;cases this
  have kp:∀c o,c∉[z,TI,TO,i1,i2]->s.heap.get? c=some o->h'.get? c=some o:=λc o hc e=>by
   have hc':c≠z/\c≠TI/\c≠TO/\c≠i1/\c≠i2:=by simpa [not_or]using hc
   exact k c o hc'.1 hc'.2.2.1 hc'.2.2.2.1 hc'.2.2.2.2 e
  refine I.step (g':=s.gens) (d':=s.drawn) (ch:=[z,TI,TO,i1,i2]) (λc hc=>⟨(hf c hc).2.2.2.1,(hf c hc).2.1,(hf c hc).2.2.2.2.1,(hf c hc).2.2.2.2.2⟩) (λc o _ _ hc e _=>kp c o hc e) (λc o _ _ hc e _=>⟨o.slots,kp c o hc e⟩)
    (λc o _ e n=>n) (λc o hc e=>⟨o,kp c o hc e⟩) (λc us e=>e) (λc o u e=>e) (λc ps e=>⟨#[],by rw [e];simp⟩) (λm hm=>?_) (λc u e=>?_) I.bare
  ·obtain⟨o,es,ep,ho,r⟩:=hm
   exact⟨o,es,ep,kp _ o (λq=>(hf _ q).2.1 rfl) ho,r⟩
  ·refine(I.hok c u e).stay (λd o hd q=>kp d o ?_ q) (λd q=>q) λd us q=>q
   rcases hd with hd | hd
   ·rw [hd];exact nf e
   ·exact nf hd
 ·rintro A i s Q E ⟨qz,_⟩ h
  exact wpAny_pyIter_zip qz h
def F5(K:Frag)(ta:TA):TI:=λZ H R=>ta Z H λvs H1=>∃l1 l2 a1 a2,vs=[.ref a1,.ref a2]/\(∃xs,iS K l1 H1 a1 xs)/\(∃ys,iS K l2 H1 a2 ys)/\R (G8 K l1 l2 a1 a2) H1
theorem EV{elts:List Expr}{kt:Nat}{pt:Pos}{a b:Expr}{ta:TA}{p pos:Pos}(hg:Gl X "zip")(hm:X.mg "zip"=none)(ha:PA X [a,b] ta)(hs:starEach [a,b] X.env=[(false,eval a X.env),(false,eval b X.env)]:=by rfl)(hs2:starEach [b] X.env=[(false,eval b X.env)]:=by rfl):
  PI X (.Tuple elts kt pt) (.Call (.Name "zip" p) [a,b] [] pos) (F5 X.K ta):=by
 intro pins s Z H R I h;refine Call_ (gN I hg hm boot_zip (PyProof.Rows.callWith_type1 (c7 (ha pos pins s Z H _ I h) λus s1 zq0=>?_) (by rw [hs,hs2]) (by rw [hs2];rfl)));obtain⟨vs,H1,I1,r1,l1,l2,a1,a2,e,⟨xs,q1⟩,⟨ys,q2⟩,q⟩:=zq0;subst e;obtain⟨u,u',rfl,e1,e2⟩:=vk r1;cases e1;cases e2;obtain⟨its1,r1,p1,z1⟩:=I1.seqB q1;obtain⟨its2,r2,p2,z2⟩:=I1.seqB q2;refine L3.call_zip p1 p2 λh' qz qI qO g1 g2 sz kp=>wpAny_pyIter_zip qz ?_
 refine⟨s1.heap.objs.size+4,[s1.heap.objs.size+4,s1.heap.objs.size+2,s1.heap.objs.size+3,s1.heap.objs.size,s1.heap.objs.size+1],_,_,H1,rfl,I1.kept (h':=h') (t':=s1.toks) kp,
  BU l1 l2 a1 a2 _ _ _ _ _ (by simp),⟨qz,qI,⟨_,_,qO⟩,kQ.rec g1,kQ.rec g2⟩,λc hc=>?_,q⟩
 have hc':s1.heap.objs.size<=c:=by
  have:c=s1.heap.objs.size+4\/c=s1.heap.objs.size+2\/c=s1.heap.objs.size+3\/c=s1.heap.objs.size\/c=s1.heap.objs.size+1:=by simpa using hc
  rcases this with e | e | e | e | e<;>(rw [e];first | exact aa8 _ | exact Nat.le_add_right _ _)
 exact I1.fpOk hc' (I1.hok.fresh hc')
def Ite(K:Frag)(a:Addr):It:=
 ⟨λi H=>∃xs x,aH K H a xs/\xs[i]?=some x,
  λi H v H'=>∃p x,v=.ref p/\H p=none/\H'=upd H p (.tup [.int i,x])/\∀xs,aH K H a xs->xs[i]?=some x,
  λi H=>∃xs,aH K H a xs/\i=xs.length⟩
def F2(K:Frag)(ta:TA):TI:=λZ H R=>ta Z H λvs H1=>∃a,vs=[.ref a]/\(∃xs,aH K H1 a xs)/\R (Ite K a) H1
end L2
namespace L2
open PySem PySem.W PySem.Spec PySem.Calls PyProof.Rows
variable {x:Str}
def GB:Nat:=1048576
theorem lp:∀{ns:List Int},WData.weightAll (ns.map WData.int)<=2 ^ 20->∀x∈ns,x.natAbs < 2 ^ GB
 | [],_,_,h=>nomatch h
 | n::ns,hw,x,h=>by
  have e:WData.weightAll ((n::ns).map WData.int)=(if n == 0 then 0 else n.natAbs.log2+1)+1+WData.weightAll (ns.map WData.int):=by
   simp only [ad0,WData.weightAll,WData.weight]
  rw [e]at hw;rcases ab0.mp h with rfl | h
  ·by_cases h0:x=0
   ·subst h0;exact Nat.two_pow_pos _
   ·have hb:(x == 0)=false:=by simpa using h0
    rw [hb]at hw
    have hl:x.natAbs.log2 < GB:=by
     have:(2:Nat) ^ 20=GB:=by decide
     rw [<-this];simp only [ae3,if_false]at hw;omega
    exact(Nat.log2_lt ()).mp hl
  ·exact lp (ns:=ns) () x h
theorem za{ns:List Int}(h:WData.layableAll [WData.list (ns.map WData.int)]=true):∀x∈ns,x.natAbs < 2 ^ GB:=by
 have h1:=(layableW_iff.mp (layableW_arg h _ ad8)).2.2;exact lp (by simpa only [WData.weight]using h1)
theorem walk_ofB{l:PySem.W.OpenLaw}{n k:Nat}{q:Program}{loose:List Str}{XP:(Str->Option Value)->Heap->Prop}{YP:World->Heap->Prop}{d:DefRec}{K:Params->Frag}{CX:World->B6}{sp:World->Sp}
  (hn:l.most=some n) (hn2:n<=sizeLine) (hdf:d.params.defaults=[]) (hr:dW k callerA)
  (hY:∀(w:World) (h:Heap),YP w h->(K w.params).In h)
  (F:∀(w:World) (mg:Str->Option Value) (fa:Addr) (h:Heap),(K w.params).In h->h.Ns mainGlobals mg->mg d.name=some (.ref fa)->
   ∃fd:FuncData,(∀(s:Shared) (u:Value),BindsTo s fd ⟨[u],[]⟩ [(x,u)])/\∀base:Heap,(K w.params).In base->base.Ns mainGlobals mg->aK l.prog w (K w.params) mg base (CX w) k fa fd [x] (sp w))
  (hsp:∀(w:World) (H:Hp) (a:Addr) (ns:List Int),ns.length<=n->(∀x∈ns,x.natAbs < 2 ^ GB)->El H->aH (K w.params) H a (ns.map V.int)->sp w [.ref a] H (λv _=>v=.bl true) λ_ _ _=>False)
  (hCX:∀(w:World) (H:Hp) (s:Shared) (e:Value) (s':Shared),CX w [] H s (λ_ _ _=>False) e s'->False) :
  PySem.W.WalkO q loose XP YP l.row.toRowW d [] (λf vs=>PySem.call f vs):=by
 intro w Zh Zg mg mb G Y fa o pm cd doc dV kV ho hd hcd hD hmg hg args vals as hpre hlay hrd hwl hlo;obtain rfl:dV=.none:=Dflts.none hD hdf;obtain rfl:kV=.none:=Dflts.noKw hD;obtain⟨a,vs,ns,rfl,rfl,hobj,hints,hlen⟩:=Att.script_of hn hpre hwl;have KX:=hY w _ Y;obtain⟨fd,hb,hF⟩:=F w mg fa _ KX G.T.g hmg;refine enter_call (ao4 (AA KX G.T.g G.T.b G.T.builtins G.T.nolimit hg hobj hints (ab6 hlen hn2) hr hF hb (λH hO hS=>hsp w H a ns hlen (za hlay) hO hS) λH e s'=>hCX w H Zg e s') λr s' hq=>?_);obtain⟨rfl,h2,h3,h4⟩:=hq;exact⟨.inl ⟨.bool true,.bool true,[],rfl,λ_=>rfl,.bool true,Att.post_true l _,λ_=>⟨List.Pairwise.nil,λ_ hm=>(nomatch hm)⟩⟩,h2,h3,h4⟩
structure br(K:Frag)(x:Str)(st:Stmt)(f:Addr)(fd:FuncData):Prop where
 ns:nsIn K mainGlobals x=some (some (.ref f))
 fn:bV K x x st f fd
theorem defAt_mk{K:Frag}{st:Stmt}{f:Addr}{oc:Value}{od an:Option Addr}{osl:Array (Option Value)}{kV doc pm cdv ct:Value}(a:nsIn K mainGlobals x=some (some (.ref f)))
  (l:K.lookup f=some ⟨oc,od,.func (fnOf x x (cz st) (bX st) (ak st) .none kV doc pm an cdv ct),osl⟩) (c:codeIn K cdv x=true) (k:keepIn K (.ref f)=true):∃f fd,br K x st f fd:=
 ⟨f,_,a,fun_mk l c k⟩
theorem br.df{P:Program}{w:World}{K:Frag}{mg:Str->Option Value}{base h:Heap}{st:Stmt}{f:Addr}{fd:FuncData}{k:Nat}{ps:List Str}{sp:Sp}(A:br K x st f fd)(X:K.In h)(G:h.Ns mainGlobals mg)
  (ok:aK P w K mg base bP k f fd ps sp) (b:dm K fd ps []):cy P w K mg base x k ps sp:=⟨f,fd,ok,mg_of X G A.ns,A.fn.kp,b⟩
end L2
namespace L2
open PySem PySem.Spec PyProof.Rows
variable {H:Hp} {K:Frag} {Q:VK} {X:Cx} {a:Addr} {e:Expr} {es:List Expr} {f:Value->Value->Sem Value} {i j:Int} {k n:Nat} {mg:Str->Option Value} {ta:TE} {v x y:V} {xs:List V} {z:Str} {Z:St}
def zC(g:TG)(tb:TS)(D:jT)(Z:St)(J:It)(H:Hp):Prop:=∃W:Nat->Nat->St->Hp->Prop,(∃m,W 0 m Z H)/\∀i m Z H,W i m Z H->
 (J.stop i H/\D.nx Z H)\/(J.go i H/\∃N:St->Hp->Prop,(∀Zc H',N Zc H'->∃m',m' < m/\W (i+1) m' Zc H')/\∀x H',J.yld i H x H'->g x Z H' λZf H2=>tb { D with nx:=N,ct:=N,bk:=D.nx } Zf H2)
theorem xN(wi:TI)(g:TG)(tb:TS)(D:jT)(Z:St)(H:Hp):GC wi g tb D Z H=wi Z H (λJ H1=>zC g tb D Z J H1):=rfl
def qU(n:Nat)(js:List Nat)(g:TG)(tt:TT)(te:TE)(Z:St)(F:List V->Hp->Prop)(J:It)(H:Hp):Prop:=w4 J n js g tt te Z H F
theorem BJ(n:Nat)(js:List Nat)(wi:TI)(g:TG)(tt:TT)(te:TE)(Z:St)(H:Hp)(Q:VK):
  BI n js wi g tt te Z H Q=wi Z H (λJ H1=>qU n js g tt te Z (λys H2=>∀p,H2 p=none->Q (.ref p) (upd H2 p (.lst ys))) J H1):=rfl
section
variable {g:TG} {tb:TS} {D:jT}
theorem dR(Pv:Nat->St->Hp->Prop)(h0:Pv 0 Z H)(hl:∀i Z H,i<=xs.length->Pv i Z H->aH K H a xs)
  (hs:∀i x Z H,xs[i]?=some x->Pv i Z H->g x Z H λZf H2=>tb { D with nx:=Pv (i+1),ct:=Pv (i+1),bk:=D.nx } Zf H2) (hd:∀Z H,Pv xs.length Z H->D.nx Z H):zC g tb D Z (zA K a) H:=z7 Pv h0 hl hs hd
theorem AD(Pv:Nat->St->Hp->Prop)(h0:Pv 0 Z H)(hl:∀i Z H,i<=xs.length->Pv i Z H->cM K H a xs)
  (hs:∀i x Z H,xs[i]?=some x->Pv i Z H->g x Z H λZf H2=>tb { D with nx:=Pv (i+1),ct:=Pv (i+1),bk:=D.nx } Zf H2) (hd:∀Z H,Pv xs.length Z H->D.nx Z H):zC g tb D Z (DN K a) H:=CC Pv h0 hl hs hd
theorem cG{lo:Int}(Pv:Nat->St->Hp->Prop)(h0:Pv 0 Z H)
  (hs:∀i Z H,i < n->Pv i Z H->g (.int (lo+i)) Z H λZf H2=>tb { D with nx:=Pv (i+1),ct:=Pv (i+1),bk:=D.nx } Zf H2) (hd:∀Z H,Pv n Z H->D.nx Z H):zC g tb D Z (xX lo n) H:=yz Pv h0 hs hd
end
section
variable {js:List Nat} {g:TG} {tt:TT} {te:TE} {F:List V->Hp->Prop}
theorem gG{lo:Int}(Pv:Nat->List V->Hp->Prop)(hk:k<=sizeLine)(h0:Pv 0 [] H)(hn:∀i ys H,Pv i ys H->ys.length<=i)
  (hs:∀i ys H,i < k->Pv i ys H->iT n js g tt te Z (.int (lo+i)) ys H (Pv (i+1))) (hd:∀ys H,Pv k ys H->F ys H):qU n js g tt te Z F (xX lo k) H:=vz Pv hk h0 hn hs hd
theorem bW(Pv:Nat->List V->Hp->Prop)(hk:xs.length<=sizeLine)(h0:Pv 0 [] H)(hn:∀i ys H,Pv i ys H->ys.length<=i)(hl:∀i ys H,Pv i ys H->aH K H a xs)
  (hs:∀i x ys H,xs[i]?=some x->Pv i ys H->iT n js g tt te Z x ys H (Pv (i+1))) (hd:∀ys H,Pv xs.length ys H->F ys H):qU n js g tt te Z F (zA K a) H:=yn Pv hk h0 hn hl hs hd
theorem yi(Pv:Nat->List V->Hp->Prop)(hk:z.length<=sizeLine)(h0:Pv 0 [] H)(hn:∀i ys H,Pv i ys H->ys.length<=i)
  (hs:∀i c ys H,z.cps.toList[i]?=some c->Pv i ys H->iT n js g tt te Z (.str ⟨#[c]⟩) ys H (Pv (i+1))) (hd:∀ys H,Pv z.length ys H->F ys H):qU n js g tt te Z F (Cd z) H:=zM Pv hk h0 hn hs hd
theorem yj{l1 l2:Bool}{a1 a2:Addr}{us vs:List V}(Pv:Nat->List V->Hp->Prop)(hk:us.length<=sizeLine)(he:us.length=vs.length)(h0:Pv 0 [] H)(hn:∀i ys H,Pv i ys H->ys.length<=i)(hl:∀i ys H,Pv i ys H->iS K l1 H a1 us/\iS K l2 H a2 vs)
  (hs:∀i x y ys H p,us[i]?=some x->vs[i]?=some y->Pv i ys H->H p=none->iT n js g tt te Z (.ref p) ys (upd H p (.tup [x,y])) (Pv (i+1))) (hd:∀ys H,Pv us.length ys H->F ys H):qU n js g tt te Z F (G8 K l1 l2 a1 a2) H:=by
 refine⟨λi m ys H=>m=us.length - i/\i<=us.length/\Pv i ys H,⟨us.length,by simp,ac2 _,h0⟩,?_⟩;rintro i m ys H ⟨rfl,hi,p⟩;obtain⟨q1,q2⟩:=hl i ys H p
 by_cases hlt:i < us.length
 ·refine .inr ⟨⟨us,vs,us[i],vs[i],q1,q2,by simp [hlt],by simp [he▸hlt]⟩,aa7 (hn i ys H p) (ab2 hlt hk),Pv (i+1),λZc H' p'=>⟨us.length - (i+1),(),rfl,hlt,p'⟩,λx H' y=>?_⟩
  obtain⟨pp,u,v,e,hp,e2,y1,y2⟩:=y;subst e e2;exact hs i u v ys H pp (y1 us q1) (y2 vs q2) p hp
 ·have e:i=us.length:=by omega
  subst e;exact .inl ⟨⟨us,vs,q1,q2,.inl rfl⟩,hd ys H p⟩
end
theorem En{CX:B6}{P:Program}{w:World}{base:Heap}{N:List Str}{qual:Str}{scope:Scope}{f:Addr}{cd:Value}{A:Around}{outer:List Env}{s:Shared}{E:XK}:(tZ CX P w K mg base N qual scope f cd A outer s H E).K=K:=rfl
theorem FR{scope:Scope}{own:List Str}{js:List Nat}{C:Addr}{s:Shared}{ex:List Addr}{pn:List (Addr×Obj)}{E:Value->Shared->Prop}:(p9 X scope own js C s H ex pn E).K=X.K:=rfl
theorem au{q:Addr}{o:HO}(h:H q=none):av H (upd H q o):=λb o' e=>by rw [aj (aq e h)];exact e
theorem av.upd{H1:Hp}{q:Addr}{o:HO}(s:av H H1)(h:H1 q=none):av H (upd H1 q o):=s.trans (au h)
theorem av.tup{K:Frag}{H H':Hp}{a:Addr}{xs:List V}(e:av H H')(h:cM K H a xs):cM K H' a xs:=by
 rcases h with h | h
 ·rcases h with h | ⟨o,h⟩
  ·exact .inl (.inl (e _ _ h))
  ·exact .inl (.inr ⟨o,e _ _ h⟩)
 ·exact .inr h
theorem bq(z:Str):z.length=z.cps.toList.length:=by simp [Str.length]
theorem wt(h:0<=i):(Txt.slice z (some i) none).cps.toList=z.cps.toList.drop i.toNat:=by
 by_cases hi:i<=z.cps.toList.length
 ·rw [show Txt.slice z (some i) none=StrLaws.sliceText z (some i) none from rfl,StrLaws.sliceText_from ⟨h,hi⟩]
  show((z.cps.toList.drop i.toNat).take _)=_
  skip
  exact ag0 (by rw [ag1];omega)
 ·have e:Builtin.Str.strSliceIndices (some i) none 1 z.length=Builtin.Str.strSliceIndices (some (z.length:Int)) none 1 z.length:=sliceIdx_lo_beyond z.length (by rw [bq];omega)
  have e2:Txt.slice z (some i) none=Txt.slice z (some (z.length:Int)) none:=by unfold Txt.slice;rw [e]
  rw [e2,show Txt.slice z (some (z.length:Int)) none=StrLaws.sliceText z (some (z.length:Int)) none from rfl,StrLaws.sliceText_from ⟨(),by rw [bq];omega⟩];show((z.cps.toList.drop _).take _)=_;rw [bq,ag8,List.drop_length,List.take_nil,List.drop_eq_nil_of_le ()]
theorem wK(z:Str)(c:Nat):Txt.startswith z ⟨#[c]⟩=decide (z.cps.toList.head?=some c):=by
 obtain⟨⟨l⟩⟩:=z
 unfold Txt.startswith
 rw [StrLaws.subAt_eq]
 cases l with
 | nil=>simp [Str.length]
 | cons a l=>
  simp [Str.length];rw [af4];simp
theorem lX(x y:Str):decide (x=y)=decide (x.cps.toList=y.cps.toList):=by
 by_cases h:x=y
 ·subst h;simp
 ·rw [decide_eq_false h]
  symm
  apply decide_eq_false;intro e;apply h;obtain⟨⟨a⟩⟩:=x;obtain⟨⟨b⟩⟩:=y;simp at e;subst e;rfl
theorem yg(x y:Str):(x++y).cps.toList=x.cps.toList++y.cps.toList:=by
 show(x.cps++y.cps).toList=_;rw [ah1]
theorem bE{α:Type}{xs:List α}{v:α}(h:xs.head?=some v):fV xs 0=some v:=by
 cases xs with
 | nil=>cases h
 | cons a l=>cases h;exact aJ (j:=0) rfl
theorem EL(K:Frag)(h:X.K=K:=by rfl):dY X (binaryOp .Add) (eY K):=h▸opAdd
theorem lE(K:Frag)(h:X.K=K:=by rfl):dY X (compareOp .In) (vY K):=h▸Ho
theorem eM(K:Frag)(h:X.K=K:=by rfl):dY X (compareOp .NotIn) (jS K):=h▸De
theorem eX(K:Frag)(h:X.K=K:=by rfl):B8 X (uQ K):=h▸slA
theorem aD(K:Frag)(h:X.K=K:=by rfl):zp X (ny K):=h▸ixA
theorem bI(K:Frag){tg l:Expr}{tl:TE}(hl:PE X l tl)(h:X.K=K:=by rfl):PI X tg l (GQ (Dw K) tl):=h▸EU hl
theorem aE(K:Frag)(h:X.K=K:=by rfl):cO X (.builtin "len") (λxs H Q=>(∃z,xs=[.str z]/\z.length<=sizeLine/\Q (.int z.length) H)\/∃p ys,xs=[.ref p]/\(aH K H p ys\/cM K H p ys)/\Q (.int ys.length) H):=h▸yd
theorem eJ(K:Frag)(h:X.K=K:=by rfl):cO X (.builtin "isinstance") (λxs H Q=>∃x n t b,xs=[x,.ty n]/\kT K H x t/\PySem.W.kitOne K t (.type n)=some b/\Q (.bl b) H):=h▸tU
theorem hX(K:Frag)(hc:X.calm=true)(h:X.K=K:=by rfl):cO X (.builtin "all") (λxs H Q=>∃(p:Addr) (bs:List Bool),xs=[.ref p]/\aH K H p (bs.map V.bl)/\Q (.bl (bs.all id)) H):=h▸x8 hc
theorem jb(K:Frag)(h:X.K=K:=by rfl):cO X (.type "tuple") (λxs H Q=>∃p ys,xs=[.ref p]/\((aH K H p ys/\∀l,H l=none->Q (.ref l) (upd H l (.tup ys)))\/(cM K H p ys/\Q (.ref p) H))):=h▸p8
theorem cY(K:Frag)(h:X.K=K:=by rfl):cO X (.type "list") (λxs H Q=>∃p ys,xs=[.ref p]/\(aH K H p ys\/cM K H p ys)/\∀l,H l=none->Q (.ref l) (upd H l (.lst ys))):=h▸sj
theorem fX(K:Frag){t:Cg}{pos:Pos}(hc:X.calm=true)(h:FJ X es t)(hK:X.K=K:=by rfl)
  (hn:(assignEach es X.env).length=n:=by rfl) (hst:(assignEach es X.env).findIdx? (·.1)=none:=by rfl):PG X (.Tuple es k pos) (Er K n t):=hK▸ET hc h hn hst
theorem cf(K:Frag){o:Expr}{to:TE}{t:TA}{name:Str}{apos cpos:Pos}{T id:String}{r:V->List V->Hp->VK->Prop}(pa:PlainAttrs T)(slot:Slot T name id)(hty:typeOf (.builtin id)=pure (.type "method_descriptor"))(hm:Ce X id r)(ho:PE X o to)(ha:PA X (e::es) t)(hK:X.K=K:=by rfl)
  (hbase:attributeBase o name X.env (eval o X.env)=eval o X.env:=by rfl)
  (hfew:((backTo cpos (starEach (e::es) X.env)).all (λx=>!x.1) && (backToKw cpos (keywordEach [] X.env)).all (λx=>x.1.isSome)
   && decide ((e::es).length+([]:List Keyword).length+(if ([]:List Keyword).isEmpty then 0 else 1) < 30))=true:=by rfl)
  (hline:(apos.endLine == cpos.line)=true:=by rfl) (hs:starEach (e::es) X.env=(false,eval e X.env)::starEach es X.env:=by rfl) (hplain:(backTo cpos (starEach es X.env)).any (·.1)=false:=by rfl) :
  PE X (.Call (.Attribute o name apos) (e::es) [] cpos) (Hw K T r to t):=hK▸Gn pa slot hty hm ho ha hbase hfew hline hs hplain
def cV:Expr->Option V
 | .Constant (.int i) _ _=>some (.int i)
 | .Constant (.str x) _ _=>some (.str x)
 | .Constant (.bool b) _ _=>some (.bl b)
 | .Constant .none _ _=>some .non
 | _=>none
def HQ(vs:List V):TA:=λ_ H Q=>Q vs H
theorem Gp(h:cV e=some v):PE X e (tC v):=by
 unfold cV at h
 split at h
 ·cases h;exact ae
 ·cases h;exact ba
 ·cases h;exact jm
 ·cases h;exact bc
 ·cases h
theorem DG(h:cV e=some v):starEach (e::es) X.env=(false,eval e X.env)::starEach es X.env:=by
 unfold cV at h
 split at h<;>first | rfl | cases h
theorem rF:∀{es:List Expr} {vs:List V},es.map cV=vs.map some->PA X es (HQ vs)
 | [],[],_=>ag
 | [],_::_,h=>by cases h
 | _::_,[],h=>by cases h
 | e::es,v::vs,h=>by
  have h1:cV e=some v:=(List.cons.inj h).1;have h2:es.map cV=vs.map some:=(List.cons.inj h).2;exact aa (Gp h1) (rF h2) (DG h1)
def Hu:Option V->(V->Prop)->Prop
 | some v,k=>k v
 | none,_=>False
def Bm:St->Nat->(V->Prop)->Prop
 | [],_,_=>False
 | o::_,0,k=>Hu o k
 | _::Z,i+1,k=>Bm Z i k
theorem rJ{k:V->Prop}:Bm (some v::Z) 0 k=k v:=rfl
theorem uS{o:Option V}{i:Nat}{k:V->Prop}:Bm (o::Z) (i+1) k=Bm Z i k:=rfl
theorem nP{k:V->Prop}:∀{Z:St} {i:Nat},Bm Z i k↔∃v,Z[i]?=some (some v)/\k v
 | [],i=>by simp [Bm]
 | some v::Z,0=>by simp [Bm,Hu]
 | none::Z,0=>by simp [Bm,Hu]
 | o::Z,i+1=>by rw [uS,nP];simp
def Fj(i:Nat):TE:=λZ H Q=>Bm Z i λv=>Q v H
theorem Fl(i:Nat):Fj i=Fn i:=by
 funext Z H Q
 exact propext nP
def B9:V->(Int->Prop)->Prop
 | .int i,k=>k i
 | _,_=>False
theorem nH{k:Int->Prop}:B9 (.int i) k=k i:=rfl
theorem kY{k:Int->Prop}:B9 v k↔∃i,v=.int i/\k i:=by cases v<;>simp [B9]
def DO:V->(Bool->Prop)->Prop
 | .bl i,k=>k i
 | _,_=>False
theorem se{i:Bool}{k:Bool->Prop}:DO (.bl i) k=k i:=rfl
theorem kX{k:Bool->Prop}:DO v k↔∃i,v=.bl i/\k i:=by cases v<;>simp [DO]
def F7(g:Int->Int->V):R2:=λx y H Q=>B9 x λi=>B9 y λj=>Q (g i j) H
def jI(C:Int->Int->Prop)(g:Int->Int->V):R2:=λx y H Q=>B9 x λi=>B9 y λj=>C i j/\Q (g i j) H
def jU(g:Int->V):V->Hp->VK->Prop:=λx H Q=>B9 x λi=>Q (g i) H
def ui(t:TE):TT:=λZ H Q=>t Z H λx H1=>DO x λk=>Q k H1
def uh(t:TE):TO:=λZ H Q=>t Z H λx H1=>B9 x λi=>Q (some i) H1
def Aq(i:Nat)(te:TE)(ti:Fz):TS:=λD Z H=>Bm Z i λx=>te Z H λy H1=>ti x y H1 λz H2=>D.nx (Z.set i (some z)) H2
def uf(ta tb:TE):TE:=λZ H Q=>ta Z H λx H1=>DO x λc=>if c=true then tb Z H1 Q else Q (.bl false) H1
def Av(ta tb:TE):TE:=λZ H Q=>ta Z H λx H1=>DO x λc=>if c=true then Q (.bl true) H1 else tb Z H1 Q
def ug(ta:TE):TE:=λZ H Q=>ta Z H λx H1=>DO x λc=>Q (.bl (!c)) H1
theorem CK(i:Nat)(te:TE)(ti:Fz):Aq i te ti=BG i te ti:=by
 funext D Z H
 unfold Aq BG;simp only [nP]
theorem Ap(ta tb:TE):uf ta tb=vh ta tb:=by
 funext Z H Q
 unfold uf vh;simp only [kX]
theorem CN(ta tb:TE):Av ta tb=BQ ta tb:=by
 funext Z H Q
 unfold Av BQ;simp only [kX]
theorem Au(ta:TE):ug ta=vj ta:=by
 funext Z H Q
 unfold ug vj;simp only [kX]
theorem Ez(g:Int->Int->V):F7 g=vq g:=by
 funext x y H Q
 unfold F7 vq;simp only [kY,exists_and_left]
theorem F8(C:Int->Int->Prop)(g:Int->Int->V):jI C g=rI C g:=by
 funext x y H Q
 unfold jI rI;simp only [kY,exists_and_left]
theorem Ga(g:Int->V):jU g=rU g:=by
 funext x H Q
 unfold jU rU;simp only [kY]
theorem Ax(t:TE):ui t=rS t:=by
 funext Z H Q
 unfold ui rS;simp only [kX]
theorem Aw(t:TE):uh t=xQ t:=by
 funext Z H Q
 unfold uh xQ;simp only [kY]
def zu(r:R2):R2
 | .int i,.int j,H,Q=>Q (.bl (decide (i=j))) H
 | .str i,.str j,H,Q=>Q (.bl (decide (i=j))) H
 | x,y,H,Q=>r x y H Q
def D0(r:R2):R2
 | .int i,.int j,H,Q=>Q (.bl (!decide (i=j))) H
 | .str i,.str j,H,Q=>Q (.bl (!decide (i=j))) H
 | x,y,H,Q=>r x y H Q
def oz(r:R2):R2
 | .int i,.int j,H,Q=>Q (.int (i+j)) H
 | x,y,H,Q=>r x y H Q
def vJ(r:R2):R2
 | .int i,.int j,H,Q=>IntMulOk i j/\Q (.int (i * j)) H
 | x,y,H,Q=>r x y H Q
theorem sr{r:R2}:zu r (.int i) (.int j) H Q=Q (.bl (decide (i=j))) H:=rfl
theorem su{r:R2}{i j:Str}:zu r (.str i) (.str j) H Q=Q (.bl (decide (i=j))) H:=rfl
theorem sv{r:R2}:D0 r (.int i) (.int j) H Q=Q (.bl (!decide (i=j))) H:=rfl
theorem sy{r:R2}{i j:Str}:D0 r (.str i) (.str j) H Q=Q (.bl (!decide (i=j))) H:=rfl
theorem nK{r:R2}:oz r (.int i) (.int j) H Q=Q (.int (i+j)) H:=rfl
theorem nL{r:R2}:vJ r (.int i) (.int j) H Q=(IntMulOk i j/\Q (.int (i * j)) H):=rfl
theorem Ar{r:R2}(h1:∀i j H Q,r (.int i) (.int j) H Q↔Q (.bl (decide (i=j))) H)(h2:∀i j H Q,r (.str i) (.str j) H Q↔Q (.bl (decide (i=j))) H):zu r=r:=by
 funext x y H Q
 unfold zu
 split
 ·exact propext (h1 _ _ _ _).symm
 ·exact propext (h2 _ _ _ _).symm
 ·rfl
theorem EA{r:R2}(h1:∀i j H Q,r (.int i) (.int j) H Q↔Q (.bl (!decide (i=j))) H)(h2:∀i j H Q,r (.str i) (.str j) H Q↔Q (.bl (!decide (i=j))) H):D0 r=r:=by
 funext x y H Q
 unfold D0
 split
 ·exact propext (h1 _ _ _ _).symm
 ·exact propext (h2 _ _ _ _).symm
 ·rfl
theorem xj{r:R2}(h1:∀i j H Q,r (.int i) (.int j) H Q↔Q (.int (i+j)) H):oz r=r:=by
 funext x y H Q
 unfold oz
 split
 ·exact propext (h1 _ _ _ _).symm
 ·rfl
theorem CM{r:R2}(h1:∀i j H Q,r (.int i) (.int j) H Q↔IntMulOk i j/\Q (.int (i * j)) H):vJ r=r:=by
 funext x y H Q
 unfold vJ
 split
 ·exact propext (h1 _ _ _ _).symm
 ·rfl
theorem DZ:zu tu=tu:=Ar (λ_ _ _ _=>vW) (λ_ _ _ _=>vX)
theorem D3:D0 vZ=vZ:=EA (λ_ _ _ _=>Bi) (λ_ _ _ _=>Bj)
theorem An(K:Frag):oz (eY K)=eY K:=xj λ_ _ _ _=>oY
theorem F6:zu tu x y H Q↔tu x y H Q:=by rw [DZ]
theorem F9:D0 vZ x y H Q↔vZ x y H Q:=by rw [D3]
theorem CI:oz (eY K) x y H Q↔eY K x y H Q:=by rw [An]
theorem pr(i:Nat){x:Str}{pos:Pos}(hN:X.N[i]?=some x:=by rfl)(hv:GN X.env.scope x:=by first | exact Or.inl rfl | exact Or.inr (Or.inl rfl) | exact Or.inr (Or.inr rfl))(hd:(x == ("__debug__":Str))=false:=by decide)
  (hcd:(x == ("__classdict__":Str))=false:=by decide):PE X (.Name x pos) (Fj i):=by
 rw [Fl];exact ES hN hv hd hcd
theorem o0{g:Int->Int->V}(h:dY X f (vq g)):dY X f (F7 g):=by rw [Ez];exact h
theorem o1{C:Int->Int->Prop}{g:Int->Int->V}(h:dY X f (rI C g)):dY X f (jI C g):=by rw [F8];exact h
theorem u1{f:Value->Sem Value}{g:Int->V}(h:FO X f (rU g)):FO X f (jU g):=by rw [Ga];exact h
theorem gA:dY X (compareOp .Eq) (zu tu):=by rw [DZ];exact opEq
theorem AN:dY X (compareOp .NotEq) (D0 vZ):=by rw [D3];exact Hq
theorem bF(K:Frag)(h:X.K=K:=by rfl):dY X (binaryOp .Add) (oz (eY K)):=by rw [An];exact EL K h
theorem aY{t:TE}(h:PT X e (rS t)):PT X e (ui t):=by rw [Ax];exact h
theorem Gr{st:Stmt}{i:Nat}{te:TE}{ti:Fz}(h:PS X st (BG i te ti)):PS X st (Aq i te ti):=by rw [CK];exact h
theorem gJ{tb:TE}(h:PE X e (vh ta tb)):PE X e (uf ta tb):=by rw [Ap];exact h
theorem Ea{tb:TE}(h:PE X e (BQ ta tb)):PE X e (Av ta tb):=by rw [CN];exact h
theorem D9(h:PE X e (vj ta)):PE X e (ug ta):=by rw [Au];exact h
theorem eP{t:TE}(h:PE X e t):PO X (some e) (uh t):=by rw [Aw];exact Dq h
theorem itN{p:Prop}[d:Decidable p]{A B:Prop}:(if (!decide p)=true then A else B)=(if p then B else A):=by
 by_cases h:p<;>simp [h]
theorem itD{p:Prop}[d:Decidable p]{A B:Prop}:(if decide p=true then A else B)=(if p then A else B):=by
 by_cases h:p<;>simp [h]
theorem Hh{t u:TS}{D:jT}(C:St->Hp->Prop)(h2:∀Z H,C Z H->u D Z H)(h1:∀u':TS,(∀Z H,C Z H->u' D Z H)->jF t u' D Z H):jF t u D Z H:=h1 u h2
theorem Hi{t u:TS}{D:jT}{Z:St}{H:Hp}(C:St->Hp->Prop)(h1:∀u':TS,(∀Z H,C Z H->u' D Z H)->jF t u' D Z H)(h2:∀Z H,C Z H->u D Z H):jF t u D Z H:=h1 u h2
theorem aN{t u:TS}{D:jT}{Z:St}{H:Hp}(C:St->Hp->Prop)(h1:∀u':TS,(∀Z H,C Z H->u' D Z H)->jF t u' D Z H)(h2:∀R:TS,(∀Z H,u D Z H->R D Z H)->∀Z H,C Z H->R D Z H):jF t u D Z H:=h1 u (h2 u λ_ _ z=>z)
theorem cy.up{P:Program}{w:World}{base:Heap}{x:Str}{j:Nat}{ps:List Str}{sp:Sp}(d:cy P w K mg base x j ps sp)(h:j<=k):cy P w K mg base x k ps sp:=
 let ⟨f,fd,F,r⟩:=d.ex;⟨f,fd,F.mono h,r⟩
theorem const_mk{x:Str}{u:Value}(e:nsIn K mainGlobals x=some (some u))(r:aX v u):∃u,nsIn K mainGlobals x=some (some u)/\aX v u:=⟨u,e,r⟩
theorem TruV_b{b k:Bool}:Cj K (.bl b) H k↔k=b:=Iff.rfl
theorem GH:GG K "str" (.str z) H↔True:=⟨λ_=>trivial,λ_=>rfl⟩
theorem str_iff{x y:Str}:x=y↔x.cps.toList=y.cps.toList:=by
 constructor
 ·intro e;rw [e]
 ·intro e
  obtain⟨⟨a⟩⟩:=x;obtain⟨⟨b⟩⟩:=y;simp at e;subst e;rfl
open AutoSeq1 (wpAny_loadPart')
theorem mq:fillsNumberSlot (.type "tuple") "mul"=pure false:=
 PySem.fillsNumberSlot_seq (id:="tuple.__mul__") (r:=some (.builtin "tuple.__rmul__")) F.slot_tuple_mul.lookup (by decide +kernel) F.slot_tuple_rmul.lookup (by decide +kernel)
theorem tD:seqRepeat? (.type "tuple")=pure (some (.builtin "tuple.__mul__")):=by
 unfold seqRepeat?;rw [PySem.seqSlot_of (T:="tuple") (name:="__mul__") (id:="tuple.__mul__") F.slot_tuple_mul.lookup (by decide +kernel),PySem.seqSlot_of (T:="tuple") (name:="__rmul__") (id:="tuple.__rmul__") F.slot_tuple_rmul.lookup (by decide +kernel)];rfl
theorem oq(a:Int)(t:Tok)(l:Addr)(items:Array Value)(n:Nat)(dd:Option Addr)(sl:Array (Option Value)):
  Meets (Builtin.«int.__rmul__» ⟨[.int a t,.ref l],[]⟩) (λ_ R s=>s.heap.get? l=some { cls:=.type "tuple",dict:=dd,data:=.seq items n,slots:=sl }/\R (.ok (.ret Value.notImplemented)) s):=
 .of_wp λprog w A R s h=>by obtain⟨hp,g,d,tk,os⟩:=s;obtain⟨hl,h⟩:=h;wp_walk;exact⟨_,rfl,h⟩
theorem wW(l:Addr)(items:Array Value)(n:Nat)(dd:Option Addr)(sl:Array (Option Value))(u:Tok):
  Meets (Builtin.«tuple.__mul__» ⟨[.ref l,.int 1 u],[]⟩) (λ_ R s=>s.heap.get? l=some { cls:=.type "tuple",dict:=dd,data:=.seq items n,slots:=sl }/\R (.ok (.ret (Value.ref l))) s):=
 .of_wp λprog w A R s h=>by
  obtain⟨hp,g,d,tk,os⟩:=s;obtain⟨hl,h⟩:=h;have hT:Shared.TypeIs ⟨hp,g,d,tk,os⟩ (.ref l) "tuple":=⟨_,hl,rfl⟩
  wp_walk using al9 hl,am6 hT
  exact⟨_,rfl,h⟩
theorem og{α:Type}(xs:Array α):∀(n:Nat) (acc:Array α),((List.replicate n xs).foldl (· ++ ·) acc).size=acc.size+n * xs.size
 | 0,acc=>by simp
 | n+1,acc=>by
  rw [ae7,ae5,og xs n,an1,am7];omega
theorem wX(l:Addr)(items:Array Value)(n:Nat)(dd:Option Addr)(sl:Array (Option Value))(x:Int)(u:Tok)(h1:1 < x)(h2:x < 1000000)(h0:items.isEmpty=false)(hz:items.size * x.toNat<=sizeLine):
  Meets (Builtin.«tuple.__mul__» ⟨[.ref l,.int x u],[]⟩) (λ_ R s=>s.heap.get? l=some { cls:=.type "tuple",dict:=dd,data:=.seq items n,slots:=sl }/\R (.ok (.ret (Value.ref s.heap.objs.size))) { s with heap:=s.heap.push { cls:=Value.type "tuple",data:=Data.seq ((List.replicate x.toNat items).foldl (· ++ ·) #[]) } }):=
 .of_wp λprog w A R s h=>by
  obtain⟨hp,g,d,tk,os⟩:=s;obtain⟨hl,h⟩:=h;have hT:Shared.TypeIs ⟨hp,g,d,tk,os⟩ (.ref l) "tuple":=⟨_,hl,rfl⟩
  wp_walk using al9 hl,am6 hT
  refine ai9 (by rw [decide_eq_false (show ¬x < -2 ^ 63 by omega),decide_eq_false (show ¬x>=2 ^ 63 by omega)];rfl) ?_
  wp_walk using al9 hl,am6 hT
  refine ai9 (by rw [h0];simp;omega) ?_;refine ai9 (by rw [h0];simp;omega) ?_
  have e:(items.size:Int) * x=((items.size * x.toNat:Nat):Int):=by rw [ap0,am1 ()]
  have hs:=sizeLine_eq;refine ai9 (decide_eq_false (by rw [e];omega)) ?_
  have hm:¬((items.size:Int) * x > (sizeLine:Int)):=by rw [e];exact_mod_cast al2.mpr hz
  refine ai9 (by unfold Builtin.Tuple.tupleTooMany;exact decide_eq_false (λz=>hm (of_decide_eq_true z))) ?_
  have hf:(List.foldl (λx1 x2=>x1++x2) #[] (List.replicate x.toNat items)).size<=sizeLine:=by
   rw [og,Array.size_empty,ai6,ao5];exact hz
  wp_walk using al9 hl,am6 hT
  refine ai9 (decide_eq_false (al2.mpr hf)) ?_
  wp_walk
  exact⟨_,rfl,h⟩
def Bk(K:Frag):R2:=λx y H Q=>∃l k xs,x=.ref l/\y=.int k/\cM K H l xs/\1<=k/\k < 1000000/\xs≠[]/\xs.length * k.toNat<=sizeLine/\
 (k=1->Q (.ref l) H)/\∀p,H p=none->Q (.ref p) (upd H p (.tup (List.replicate k.toNat xs).flatten))
theorem Dh:dY X (binaryOp .Mult) (Bk X.K):=by
 rintro pins s Z H x y v u Q I rx ry ⟨l,k,xs,rfl,rfl,hH,h1,h2,hx,hz,q1,q⟩;cases rx;obtain⟨t,rfl⟩:=ry;obtain⟨its,r,p,hl⟩:=I.tuple hH;obtain⟨⟨cls,dd,data,sl⟩,ho,hc,n,hd⟩:=id p;simp only at hc hd;subst hc hd
 have hlen:its.toArray.size * k.toNat<=sizeLine:=by rw [ab1,<-r.length];exact hz
 refine wpAny_binaryOp_repeat_ref (T:="tuple") (U:="int") ∅ ⟨_,ho,rfl⟩ (λs'=>typeIs_int s' k t) mq F.fills_int_mul F.slot_int_rmul tD F.slot_int_index.lookup
  (call_meets F.slot_int_rmul (typeIs_int s k t) F.entry_int_rmul (F.args_int_rmul_2 _ _) (oq k t l its.toArray n dd sl) ⟨ho,rfl,⟨_,ho,rfl⟩,?_⟩)
 by_cases hk:k=1
 ·subst hk
  exact call_meets F.slot_tuple_mul ⟨_,ho,rfl⟩ F.entry_tuple_mul (F.args_tuple_mul_2 _ _) (wW l its.toArray n dd sl t) ⟨ho,.ref l,H,I,rfl,q1 rfl⟩
 ·have hne:its.toArray.isEmpty=false:=by
   cases its with
   | nil=>exact absurd (r.nil_iff.mp rfl) hx
   | cons a b=>rfl
  refine call_meets F.slot_tuple_mul ⟨_,ho,rfl⟩ F.entry_tuple_mul (F.args_tuple_mul_2 _ _) (wX l its.toArray n dd sl k t () h2 hne hlen) ⟨ho,?_⟩
  have hnew:List.foldl (λx1 x2=>x1++x2) #[] (List.replicate k.toNat its.toArray)=(List.replicate k.toNat its).flatten.toArray:=by
   have:=md its k.toNat []
   rw [List.nil_append]at this;exact this
  refine⟨.ref s.heap.objs.size,_,I.laid (t':=s.toks) (o:=.tup (List.replicate k.toNat xs).flatten) (λb ob q=>aa5 _ q) (aa8 _) ?_,rfl,q _ (I.hok.fresh (aa8 _))⟩;rw [hnew];exact⟨by rw [sC,ao5];exact hz,_,r.rep k.toNat,IsTup.new _ _⟩
def jo(K:Frag):R2:=λx y H Q=>xw x y H Q\/Bk K x y H Q
theorem EN(K:Frag)(h:X.K=K:=by rfl):dY X (binaryOp .Mult) (jo K):=h▸opMul.or Dh
theorem uO:jo K (.int i) (.int j) H Q↔IntMulOk i j/\Q (.int (i * j)) H:=by
 simp [jo,Bh,Bk]
theorem As(K:Frag):vJ (jo K)=jo K:=CM λ_ _ _ _=>uO
theorem CL:vJ (jo K) x y H Q↔jo K x y H Q:=by rw [As]
theorem jW(K:Frag)(h:X.K=K:=by rfl):dY X (binaryOp .Mult) (vJ (jo K)):=by rw [As];exact EN K h
end L2
namespace L2
open PySem PySem.Spec PyProof.Rows
variable {m:Nat} {n:Int}
def mT(c:Nat):List Nat->List (List Nat)
 | []=>[[]]
 | a::l=>if a=c then []::mT c l else match mT c l with
  | []=>[[a]]
  | p::r=>(a::p)::r
theorem wy(c:Nat):∀l,mT c l≠[]
 | []=>by simp [mT]
 | a::l=>by
  simp only [mT]
  split
  ·simp
  ·split<;>simp
theorem xK(c:Nat):∀l,(mT c l).length<=l.length+1
 | []=>by simp [mT]
 | a::l=>by
  have h:=xK c l;simp only [mT]
  split
  ·simp;omega
  ·split
   ·simp
   ·rename_i p r e
    rw [e]at h;simp at h |-;omega
def dX(c:Nat):List Nat->Nat->List Nat
 | [],_=>[]
 | b::l,i=>if b=c then i::dX c l (i+1)else dX c l (i+1)
theorem oK(x:Str)(c:Nat)(lim:Nat):∀(l:List Nat) (i:Nat) (acc:Array Nat) (fr:Nat),x.cps.toList.drop i=l->acc.size<=i->fr<=i->x.length < lim->
  (forIn (List.range' i (l.length+1)) (acc,fr) (StrLaws.occBody x ⟨#[c]⟩ x.length lim)).run.fst.toList=acc.toList++dX c l i
 | [],i,acc,fr,hl,ha,hf,hm=>by
  have hi:x.length<=i:=by
   rw [bq];exact aj1.mp hl
  show(forIn [i] (acc,fr) _:Id _).run.fst.toList=_;rw [af5];unfold StrLaws.occBody;rw [if_neg (by intro h;have:=h.1.2;have e1:(⟨#[c]⟩:Str).length=1:=rfl;rw [e1]at this;omega)];show acc.toList=_;simp [dX]
 | b::l,i,acc,fr,hl,ha,hf,hm=>by
  have hb:x.cps.toList[i]?=some b:=by
   have:(x.cps.toList.drop i)[0]?=some b:=by rw [hl];rfl
   rwa [af0,ao6]at this
  have hi:i < x.length:=by
   rw [bq];obtain⟨h,_⟩:=aa1.mp hb;exact h
  have hd:x.cps.toList.drop (i+1)=l:=by
   rw [<-ak8,hl];rfl
  have e1:(⟨#[c]⟩:Str).length=1:=rfl;show(forIn (i::List.range' (i+1) (l.length+1)) (acc,fr) _:Id _).run.fst.toList=_;rw [af5];unfold StrLaws.occBody
  by_cases hc:b=c
  ·rw [if_pos ⟨⟨⟨by show acc.size < lim;omega,hf⟩,by rw [e1];omega⟩,((StrLaws.subAt_one x c i).mpr (by rw [hb,hc])).2⟩]
   show(forIn (List.range' (i+1) (l.length+1)) (acc.push i,i+1) (StrLaws.occBody x ⟨#[c]⟩ x.length lim):Id _).run.fst.toList=_;rw [oK x c lim l (i+1) _ _ hd (by rw [Array.size_push];omega) (aa8 _) hm];simp [dX,hc]
  ·rw [if_neg (λh=>hc (by have:=(StrLaws.subAt_one x c i).mp ⟨h.1.2,h.2⟩;rw [hb]at this;exact Option.some.inj this))]
   show(forIn (List.range' (i+1) (l.length+1)) (acc,fr) (StrLaws.occBody x ⟨#[c]⟩ x.length lim):Id _).run.fst.toList=_;rw [oK x c lim l (i+1) _ _ hd () () hm];simp [dX,hc]
theorem CV(x:Str)(c:Nat):Builtin.Str.occurrences x ⟨#[c]⟩ 0 x.length (x.length+1)=dX c x.cps.toList 0:=by
 rw [StrLaws.occ_eq]
 have e:x.length+1 - 0=x.cps.toList.length+1:=by rw [bq];rfl
 rw [e];have h:=oK x c (x.length+1) x.cps.toList 0 #[] 0 rfl (aa8 _) (aa8 _) (ai2 _);rw [h];rfl
theorem ki(x:Str)(c:Nat):∀(l:List Nat) (a j:Nat),a<=j->x.cps.toList.drop j=l->j<=x.length->
  (StrLaws.partsFrom x 1 a (dX c l j)).map (λz=>z.cps.toList)=match mT c l with
   | []=>[]
   | p::r=>((x.cps.toList.drop a).take (j - a)++p)::r
 | [],a,j,haj,hl,hj=>by
  have hj':x.length<=j:=by rw [bq];exact aj1.mp hl
  have e:j=x.length:=by omega
  subst e;simp [dX,mT,StrLaws.partsFrom,StrLaws.strSub_toList]
 | b::l,a,j,haj,hl,hj=>by
  have hb:x.cps.toList[j]?=some b:=by
   have:(x.cps.toList.drop j)[0]?=some b:=by rw [hl];rfl
   rwa [af0,ao6]at this
  have hi:j < x.length:=by
   rw [bq];obtain⟨h,_⟩:=aa1.mp hb;exact h
  have hd:x.cps.toList.drop (j+1)=l:=by
   rw [<-ak8,hl];rfl
  by_cases hc:b=c
  ·have ih:=ki x c l (j+1) (j+1) (aa8 _) hd hi
   simp only [dX,hc,if_true,StrLaws.partsFrom,ad0,mT,af1];rw [ih]
   cases hs:mT c l with
   | nil=>exact absurd hs (wy c l)
   | cons p r=>simp [StrLaws.strSub_toList]
  ·have ih:=ki x c l a (j+1) () hd hi
   simp only [dX,hc,if_false,mT];rw [ih]
   cases hs:mT c l with
   | nil=>exact absurd hs (wy c l)
   | cons p r=>
    have ht:(x.cps.toList.drop a).take (j+1 - a)=(x.cps.toList.drop a).take (j - a)++[b]:=by
     have e1:j+1 - a=(j - a)+1:=by omega
     rw [e1,ac5,af0]
     have e2:a+(j - a)=j:=by omega
     rw [e2,hb];rfl
    simp [ht]
theorem Bz(c:Nat):∀{l:List Nat},dX c l 0=[]->mT c l=[l]:=by
 have key:∀(l:List Nat) (i:Nat),dX c l i=[]->mT c l=[l]:=by
  intro l
  induction l with
  | nil=>intro i _;rfl
  | cons a l ih=>
   intro i h;simp only [dX]at h
   split at h
   ·cases h
   ·rename_i hc
    simp only [mT,hc,if_false];rw [ih _ h]
 intro l h;exact key l 0 h
theorem jE(x:Str){c:Nat}(hc:c < 256):(Txt.split x ⟨#[c]⟩).map (λz=>z.cps.toList)=mT c x.cps.toList:=by
 unfold Txt.split;have e1:(⟨#[c]⟩:Str).length=1:=rfl
 have ek:Builtin.Str.strKind ⟨#[c]⟩=1:=by simp [Builtin.Str.strKind,hc]
 have ek2:1<=Builtin.Str.strKind x:=by unfold Builtin.Str.strKind;split<;>(try split)<;>omega
 rw [e1,ek,decide_eq_false (show ¬Builtin.Str.strKind x < 1 by omega),Bool.or_false,CV]
 split
 ·rename_i h
  have h:x.length < 1:=by simpa using h
  have:x.cps.toList=[]:=by
   rw [bq]at h;exact af7.mp ()
  rw [ad0,ah3,this];rfl
 ·split
  ·rename_i h
   have h:dX c x.cps.toList 0=[]:=by simpa using h
   rw [Bz c h];rfl
  ·rw [StrLaws.partsBetween_eq,ki x c x.cps.toList 0 0 (aa8 _) rfl (ac2 _)]
   cases hs:mT c x.cps.toList with
   | nil=>exact absurd hs (wy c _)
   | cons p r=>simp
theorem mU:∀(tk:Nat) (xs:List Str),bh (xs.map V.str) (strsFrom tk xs)
 | _,[]=>.nil
 | tk,x::r=>.cons ⟨tk,rfl⟩ (mU (tk+1) r)
theorem rQ:∀{xs:List Str} {us:List Value},bh (xs.map V.str) us->StrsAre us xs
 | [],_,.nil=>.nil
 | x::r,_,.cons ⟨t,e⟩ q=>by subst e;exact .cons x t (rQ q)
section
variable {X:Cx}
theorem lA:Ce X "str.split" (λx xs H Q=>∃z c,x=.str z/\xs=[.str ⟨#[c]⟩]/\c < 256/\z.length < sizeLine/\∀p,H p=none->Q (.ref p) (upd H p (.lst ((Txt.split z ⟨#[c]⟩).map V.str)))):=by
 rintro pins s Z H x xs v us Q I rx r ⟨z,c,rfl,rfl,hc,hz,q⟩;obtain⟨t,rfl⟩:=rx;obtain⟨u,rfl,t',rfl⟩:=eZ r;have hs:=sizeLine_eq
 have hlen:(Txt.split z ⟨#[c]⟩).length<=sizeLine:=by
  have h1:(Txt.split z ⟨#[c]⟩).length=(mT c z.cps.toList).length:=by rw [<-jE z hc,aa0]
  have h2:=xK c z.cps.toList;rw [<-bq]at h2;omega
 have fin:∀(its:List Value) (tk:Nat),bh ((Txt.split z ⟨#[c]⟩).map V.str) its->EP X pins Z Q (.ref s.heap.objs.size) { s with toks:=tk,heap:=s.heap.push { cls:=.type "list",data:=.seq its.toArray } }:=λits tk rv=>
  ⟨.ref s.heap.objs.size,_,I.laid (t':=tk) (o:=.lst ((Txt.split z ⟨#[c]⟩).map V.str)) (λb ob q=>aa5 _ q) (aa8 _) ⟨by rw [aa0];exact hlen,its,0,rv,ab8 _ rfl⟩,rfl,q _ (I.hok.fresh (aa8 _))⟩
 cases h1:(decide (z.length < (⟨#[c]⟩:Str).length) || decide (Builtin.Str.strKind z < Builtin.Str.strKind ⟨#[c]⟩))with
 | true=>
  have e:Txt.split z ⟨#[c]⟩=[z]:=by unfold Txt.split;rw [if_pos h1]
  rw [e]at fin;exact call_meets F.slot_str_split (typeIs_str _ _ _) F.entry_str_split (F.args_str_split_2 _ _) (meets_str_split_cannot_occur z ⟨#[c]⟩ t t' h1) (fin _ s.toks (.cons ⟨t,rfl⟩ .nil))
 | false=>
  cases hf:(Builtin.Str.occurrences z ⟨#[c]⟩ 0 z.length (z.length+1)).isEmpty with
  | true=>
   have e:Txt.split z ⟨#[c]⟩=[z]:=by unfold Txt.split;rw [if_neg (by rw [h1];exact aa6),if_pos hf]
   rw [e]at fin;exact call_meets F.slot_str_split (typeIs_str _ _ _) F.entry_str_split (F.args_str_split_2 _ _) (meets_str_split_not_found z ⟨#[c]⟩ t t' h1 rfl hf) (fin _ s.toks (.cons ⟨t,rfl⟩ .nil))
  | false=>
   have e:Txt.split z ⟨#[c]⟩=Builtin.Str.partsBetween z (Builtin.Str.occurrences z ⟨#[c]⟩ 0 z.length (z.length+1)) (⟨#[c]⟩:Str).length:=by
    unfold Txt.split;rw [if_neg (by rw [h1];exact aa6),if_neg (by rw [hf];exact aa6)]
   rw [e]at fin hlen;exact call_meets F.slot_str_split (typeIs_str _ _ _) F.entry_str_split (F.args_str_split_2 _ _) (meets_str_split_sep z ⟨#[c]⟩ t t' h1 rfl hf (ah2 hz) hlen) (fin _ _ (mU _ _))
theorem CS:Ce X "str.join" (λx xs H Q=>∃z p ys,x=.str z/\xs=[.ref p]/\aH X.K H p (ys.map V.str)/\(ys.map (·.length)).sum+ys.length * z.length<=16777216/\Q (.str (Txt.join z ys)) H):=by
 rintro pins s Z H x xs v us Q I rx r ⟨z,p,ys,rfl,rfl,hq,hok,q⟩;obtain⟨t,rfl⟩:=rx;obtain⟨u,rfl,ru⟩:=eZ r;cases ru;obtain⟨its,rv,pl,hz⟩:=I.list hq;exact join_list pl.isList (rQ rv) hok λt' k=>⟨.str _,H,I.tok _,⟨t',rfl⟩,q⟩
theorem ur(K:Frag)(h:X.K=K:=by rfl):Ce X "str.join" (λx xs H Q=>∃z p ys,x=.str z/\xs=[.ref p]/\aH K H p (ys.map V.str)/\(ys.map (·.length)).sum+ys.length * z.length<=16777216/\Q (.str (Txt.join z ys)) H):=h▸CS
end
def t7(l:List Nat):Bool:=l.all λc=>decide (c∈[48,49,50,51,52,53,54,55,56,57])
def h8(w:List Nat):List Nat:=if w.head?=some 45 then w.tail else w
def ud(w:List Nat):Bool:=decide (1<=(h8 w).length) && (decide ((h8 w).length<=40) && (t7 (h8 w) && (decide ((h8 w).head?≠some 48) || decide (w=[48]))))
theorem vI(w:List Nat):ud w=(if h8 w=[]\/40 < (h8 w).length then false else if t7 (h8 w)=false then false else(decide ((h8 w).head?≠some 48) || decide (w=[48]))):=by
 unfold ud
 split
 ·rename_i h
  rcases h with h | h
  ·rw [h];rfl
  ·have:¬(h8 w).length<=40:=by omega
   simp [this]
 ·rename_i h
  have h1:1<=(h8 w).length:=by
   cases e:h8 w with
   | nil=>exact absurd (Or.inl e) h
   | cons a b=>simp
  have h2:(h8 w).length<=40:=by
   have:¬40 < (h8 w).length:=λz=>h (Or.inr z)
   omega
  simp only [h1,h2,decide_true,ai1]
  split
  ·rename_i h3;rw [h3];rfl
  ·rename_i h3
   have h3:t7 (h8 w)=true:=by simpa using h3
   rw [h3];rfl
def iu(n:Int):List Nat:=(Str.ofString (toString n)).cps.toList
def dg(m:Nat):List Nat:=(Nat.toDigits 10 m).map Char.toNat
theorem lB(m:Nat):iu (m:Int)=dg m:=PySem.W.KIN.signs_num m
theorem lC(k:Nat):iu (-((k+1:Nat):Int))=45::dg (k+1):=by
 have e:toString (-((k+1:Nat):Int))="-" ++ toString (k+1):=rfl;have h:=PySem.W.KIN.signs_num (k+1);unfold iu dg;rw [<-h,e];have e2:toString (((k+1:Nat):Nat):Int)=toString (k+1):=rfl;rw [e2];simp only [PyProof.Rows.signs_ofString,String.toList_append];rfl
theorem l8(m:Nat):∀c∈dg m,48<=c/\c<=57:=by
 intro c hc;obtain⟨ch,hch,e⟩:=ac4.mp hc;have r:=PyProof.Rows.digit_range (Nat.isDigit_of_mem_toDigits ∅ ∅ hch);rw [<-e];exact r
theorem t5(m:Nat):dg m≠[]:=by
 intro e;have h:=toDigits_len_ge 10 m;rw [List.map_eq_nil_iff.mp e]at h;exact absurd h ∅
theorem t6(h:m < 10):dg m=[m+48]:=by
 unfold dg;rw [Nat.toDigits_of_lt_base h]
 have:∀m,m < 10->(Nat.digitChar m).toNat=m+48:=by decide
 show [(Nat.digitChar m).toNat]=_;rw [this m h]
theorem Eo(h:¬m < 10):dg m=dg (m / 10)++[m % 10+48]:=by
 have hm:m % 10 < 10:=Nat.mod_lt m ∅;have t:Nat.toDigits 10 (m / 10)++Nat.toDigits 10 (m % 10)=Nat.toDigits 10 (10 * (m / 10)+m % 10):=Nat.toDigits_append_toDigits ∅ () hm;rw [Nat.div_add_mod]at t;rw [<-t6 hm];unfold dg;rw [<-t,ab3]
theorem Cu(m:Nat)(h0:0 < m):(dg m).head?≠some 48:=by
 induction m using Nat.strongRecOn with
 | _ m ih=>
  by_cases h:m < 10
  ·rw [t6 h]
   simp;omega
  ·rw [Eo h]
   have:=ih (m / 10) () ()
   cases hd:dg (m / 10)with
   | nil=>exact absurd hd (t5 _)
   | cons a l=>rw [hd]at this;exact this
theorem vA{k:Nat}(hk:1<=k)(hm:m < 10 ^ k):(dg m).length<=k:=by
 unfold dg;rw [aa0];exact digits10_le hk hm
theorem oJ(n:Int):∀c∈iu n,c=45\/(48<=c/\c<=57):=by
 intro c hc;rcases ao7 n 0 with h | h
 ·obtain⟨k,rfl⟩:∃k:Nat,n = -((k+1:Nat):Int):=⟨n.natAbs - 1,()⟩
  rw [lC]at hc;rcases ab0.mp hc with e | e
  ·exact .inl e
  ·exact .inr (l8 _ c e)
 ·obtain⟨m,rfl⟩:=ae0 h
  rw [lB]at hc;exact .inr (l8 _ c hc)
theorem Cv(m:Nat):t7 (dg m)=true:=by
 unfold t7;rw [af6];intro c hc;obtain⟨h1,h2⟩:=l8 m c hc
 have h9:∀k,k < 10->48+k=48\/48+k=49\/48+k=50\/48+k=51\/48+k=52\/48+k=53\/48+k=54\/48+k=55\/48+k=56\/48+k=57:=by decide
 have:=h9 (c - 48) ()
 rw [Nat.add_sub_cancel' h1]at this;simpa using this
theorem yx(n:Int):h8 (iu n)=dg n.natAbs:=by
 rcases ao7 n 0 with h | h
 ·obtain⟨k,rfl⟩:∃k:Nat,n = -((k+1:Nat):Int):=⟨n.natAbs - 1,()⟩
  rw [lC]
  have e:(-((k+1:Nat):Int)).natAbs=k+1:=by omega
  rw [e];rfl
 ·obtain⟨m,rfl⟩:=ae0 h
  rw [lB];unfold h8;rw [if_neg]
  ·rfl
  ·intro e
   cases hd:dg m with
   | nil=>exact absurd hd (t5 _)
   | cons a l=>
    rw [hd]at e
    have:a=45:=by simpa using e
    have:=l8 m a (by rw [hd];exact ad8)
    omega
theorem mi(h:n.natAbs < 10 ^ 40):ud (iu n)=true:=by
 have hl:(dg n.natAbs).length<=40:=vA ∅ h
 have hl0:1<=(dg n.natAbs).length:=by
  cases hd:dg n.natAbs with
  | nil=>exact absurd hd (t5 _)
  | cons a l=>simp
 unfold ud;rw [yx,Cv,decide_eq_true hl,decide_eq_true hl0]
 by_cases h0:n=0
 ·subst h0
  decide +kernel
 ·rw [decide_eq_true (Cu n.natAbs ())]
  rfl
theorem gq{k:Nat}(hk:1<=k)(h:n.natAbs < 10 ^ k):(iu n).length<=k+1:=by
 rcases ao7 n 0 with h1 | h1
 ·obtain⟨j,rfl⟩:∃k:Nat,n = -((k+1:Nat):Int):=⟨n.natAbs - 1,()⟩
  have e:(-((j+1:Nat):Int)).natAbs=j+1:=by omega
  rw [e]at h;rw [lC,ad6]
  have:=vA hk h
  omega
 ·obtain⟨m,rfl⟩:=ae0 h1
  rw [lB]
  have:=vA hk (show m < 10 ^ k from h)
  omega
theorem nJ(h:n.natAbs < 10 ^ 600):intText? (Str.ofString (toString n))=some n:=by
 have hl:=gq ∅ h
 have hl2:(Str.ofString (toString n)).length<=4300:=by rw [bq];exact ab6 hl ∅
 rcases ao7 n 0 with h1 | h1
 ·obtain⟨k,rfl⟩:∃k:Nat,n = -((k+1:Nat):Int):=⟨n.natAbs - 1,()⟩
  rw [PySem.intText_neg (cs:=dg (k+1)) (lC k) (l8 _) (t5 _) hl2]
  have:=PySem.W.KIN.val_back (k+1)
  unfold dg;rw [this]
 ·obtain⟨m,rfl⟩:=ae0 h1
  have e:(Str.ofString (toString ((m:Nat):Int))).cps.toList=dg m:=lB m;rw [PySem.intText_digits (by rw [e];exact l8 _) (by rw [e];exact t5 _) hl2,e]
  have:=PySem.W.KIN.val_back m
  unfold dg;rw [this]
def dv(c:Nat):List (List Nat)->List Nat
 | []=>[]
 | p::r=>p++(r.map (c::·)).flatten
theorem rm(c:Nat):∀(l:List Str) (a:Array Nat),(l.foldl (λacc p=>acc++(⟨#[c]⟩:Str).cps++p.cps) a).toList=a.toList++(l.map (λp=>c::p.cps.toList)).flatten
 | [],a=>by simp
 | p::l,a=>by
  rw [ae5,rm c l];simp
theorem cZ(c:Nat)(ys:List Str):(Txt.join ⟨#[c]⟩ ys).cps.toList=dv c (ys.map λz=>z.cps.toList):=by
 unfold Txt.join Builtin.Str.glued
 cases ys with
 | nil=>rfl
 | cons p r=>
  show(r.foldl (λacc p=>acc++(⟨#[c]⟩:Str).cps++p.cps) p.cps).toList=_;rw [rm];simp [dv,Function.comp_def]
theorem xJ(c:Nat):∀(p:List Nat) (l:List Nat),c∉p->mT c (p++c::l)=p::mT c l
 | [],l,_=>by simp [mT]
 | a::p,l,h=>by
  have h1:a≠c:=λe=>h (by rw [e];exact ad8);have h2:c∉p:=λe=>h (ad9 _ e);rw [an9];simp only [mT,h1,if_false];rw [xJ c p l h2]
theorem ve(c:Nat):∀(p:List Nat),c∉p->mT c p=[p]
 | [],_=>rfl
 | a::p,h=>by
  have h1:a≠c:=λe=>h (by rw [e];exact ad8);have h2:c∉p:=λe=>h (ad9 _ e);simp only [mT,h1,if_false];rw [ve c p h2]
theorem pT(c:Nat):∀(ps:List (List Nat)),ps≠[]->(∀p∈ps,c∉p)->mT c (dv c ps)=ps
 | [],h,_=>absurd rfl h
 | [p],_,h=>by
  simp [dv];exact ve c p (h p ad8)
 | p::q::r,_,h=>by
  have ih:=pT c (q::r) (by simp) (λx hx=>h x (ad9 _ hx))
  have e:dv c (p::q::r)=p++c::dv c (q::r):=by simp [dv]
  rw [e,xJ c p _ (h p ad8),ih]
end L2
namespace L3
open PySem PySem.Spec PyProof.Rows
theorem jh(l:Bool)(a:Addr)(xs:Array Value):
  Meets (Builtin.«enumerate.__new__» ⟨[.type "enumerate",.ref a],[]⟩) (λ_ R s=>IsSeq l s.heap a xs/\
   R (.ok (.ret (.ref (s.heap.push (itRec l a)).objs.size))) { s with heap:=(s.heap.push (itRec l a)).push { cls:=.type "enumerate",data:=.fields #[.none,.bool false,.ref s.heap.objs.size,rawInt 0,.none,.none] } }):=
 .of_wp λprog w A R s h=>by
  obtain⟨hp,g,d,tk,os⟩:=s;obtain⟨q1,h⟩:=h;have hsub:=sub_enumerate;have u1:IsSeq l (Shared.heap ⟨hp,g,d,tk,os⟩) a xs:=q1
  have tl:∃o,hp.get? a=some o:=by
   cases l
   ·obtain⟨o,e,_⟩:=(show hp.IsTuple a xs from q1);exact⟨o,e⟩
   ·obtain⟨o,e,_⟩:=(show hp.IsList a xs from q1);exact⟨o,e⟩
  obtain⟨ob,hl⟩:=tl;obtain⟨c,dct,dt,sl⟩:=ob
  wp_walk using AutoSeq1.wpAny_loadPart' hl
  refine wpAny_stack_any λst=>aa9 ?_
  split
  ·rename_i c _ _ _ _ _
   cases(c == Value.type "enumerate")
   ·wp_walk using AutoSeq1.wpAny_loadPart' hl,jf u1
    exact⟨_,rfl,h⟩
   ·wp_walk using AutoSeq1.wpAny_loadPart' hl,jf u1
    exact⟨_,rfl,h⟩
  ·wp_walk using AutoSeq1.wpAny_loadPart' hl,jf u1
   exact⟨_,rfl,h⟩
section
variable {prog:Program} {w:World} {A:Around} {E:Value->Shared->Prop} {s:Shared}
theorem call_enumerateB{l:Bool}{a:Addr}{xs:Array Value}{Q:Value->Shared->Prop}(hL:IsSeq l s.heap a xs)
  (h:∀h',IsEnum h' (s.heap.objs.size+1) s.heap.objs.size 0 .none->h'.get? s.heap.objs.size=some (itRec l a)->h'.objs.size=s.heap.objs.size+2->
   (∀b o,s.heap.get? b=some o->h'.get? b=some o)->Q (.ref (s.heap.objs.size+1)) { s with heap:=h' }) :
  wpAny (model prog w) A (call (.type "enumerate") [.ref a]) Q E s:=by
 refine callType_new F.called_enumerate ∅ (F.typeCall_enumerate_1 _) (F.newCall_enumerate_1 _) (λobj=>F.args_object_init_2 obj _) F.entry_enumerate_new
  (jh l a xs) ⟨hL,?_⟩
 have hz:(s.heap.push (itRec l a)).objs.size=s.heap.objs.size+1:=ae8 ..;show _/\_;rw [hz]
 have he:IsEnum ((s.heap.push (itRec l a)).push
   { cls:=.type "enumerate",data:=.fields #[.none,.bool false,.ref s.heap.objs.size,rawInt 0,.none,.none] }) (s.heap.objs.size+1) s.heap.objs.size 0 .none:=by
  have:=ab8 (s.heap.push (itRec l a))
   (o:={ cls:=.type "enumerate",data:=.fields #[.none,.bool false,.ref s.heap.objs.size,rawInt 0,.none,.none] }) rfl
  rw [hz]at this;exact this
 refine⟨⟨_,he,rfl⟩,h _ he (aa5 _ (ab8 _ rfl)) (by rw [ae8,hz]) λb o x=>aa5 _ (aa5 _ x)⟩
end
end L3
namespace L2
open PySem PySem.Spec PyProof.Rows
variable {A:Around} {C T a c f:Addr} {D:List (Str×V)} {H:Hp} {K:Frag} {P:Program} {Q:VK} {X:Cx} {an od:Option Addr} {base:Heap} {cdv ct doc kV oc pm u:Value} {e:Expr} {fd:FuncData} {i:Int} {j k n nv:Nat} {kind m qual x z:Str} {l:Bool} {mg:Str->Option Value} {ns:List Int} {o:Obj} {osl:Array (Option Value)} {p pos:Pos} {pl:Sem Bool} {ps:List Str} {sp:Sp} {st:Stmt} {w:World} {xs:List V}
def G7(K:Frag)(l:Bool)(a:Addr):It:=
 ⟨λi H=>∃xs x,iS K l H a xs/\xs[i]?=some x,
  λi H v H'=>∃p x,v=.ref p/\H p=none/\H'=upd H p (.tup [.int i,x])/\∀xs,iS K l H a xs->xs[i]?=some x,
  λi H=>∃xs,iS K l H a xs/\i=xs.length⟩
theorem wY{elts:List Expr}{kt:Nat}{pt:Pos}(l:Bool)(a z it:Addr)(nd:z≠it):
  r9 P w K (.Tuple elts kt pt) (G7 K l a) [z,it] z (λi h=>(∃old,IsEnum h z it ((i:Nat):Int) old)/\kQ l h it a i):=by
 refine⟨by simp,?_,?_,?_,?_,?_⟩
 ·rintro i h ⟨⟨old,qz⟩,u⟩ c hc
  have hc':c=z\/c=it:=by simpa using hc
  rcases hc' with e | e
  ·subst e;exact⟨_,qz,λv q=>by cases q⟩
  ·subst e
   exact u.obj
 ·rintro i h h' ⟨⟨old,qz⟩,u⟩ k
  exact⟨⟨old,k z (by simp) _ qz⟩,u.at λo e=>k it (by simp) o e⟩
 ·rintro X hP hw hK hc i pins s Z H E I hf ⟨⟨old,qz⟩,u⟩ ⟨xs,x,q1,hx⟩
  subst hP hw hK;have hh:X.A.in1.handled=none:=I.ok.hd hc;obtain⟨its,r1,p1,z1⟩:=I.seqB q1;have na:a≠it:=I.seqB_ne q1 (hf it (by simp));have nz:a≠z:=I.seqB_ne q1 (hf z (by simp))
  have lx:i < its.toArray.size:=by
   have:=(aa1.mp hx).1
   rw [ab1,<-r1.length];exact this
  have hef:z∉[it,a]:=by
   simp only [ab0,ad2,or_false,not_or];exact⟨nd,nz.symm⟩
  refine wpAny_pyNext_enum_itemD (gc (P:=X.prog) (w:=X.w) hh l it a na its.toArray) qz ⟨u,p1⟩ lx nd hef λv h' tk ev z' s' pr sz kk=>?_;obtain⟨w1,g1,rx⟩:=r1.get hx
  have ev1:v=w1:=by
   have:its[i]?=some v:=by simpa using ev
   rw [g1]at this;exact(Option.some.inj this).symm
  subst ev1;refine⟨_,rfl,wpAny_letOwnedTupleGo_enum (s:={ s with heap:=h',toks:=tk+1 }) z' λh2 z2 sb=>?_⟩;have fz:s.heap.objs.size≠z:=aj5 (ab9 qz);have Hn:H s.heap.objs.size=none:=I.hok.fresh (aa8 _)
  have kp:∀c o,c∉[z,it]->s.heap.get? c=some o->h2.get? c=some o:=λc o hc e=>by
   have hc':c≠z/\c≠it:=by simpa [not_or]using hc
   exact(sb.2 c hc'.1).trans (kk c o hc'.1 hc'.2 e)
  have nf:∀{c:Addr} {u:HO},H c=some u->c∉[z,it]:=λ{c u} e hc=>by
   have:=(hf c hc).1
   rw [e]at this;cases this
  have pr2:h2.get? s.heap.objs.size=some { cls:=.type "tuple",data:=.seq #[.int i tk,v] }:=(sb.2 _ fz).trans pr
  have I2:aQ X pins Z (upd H s.heap.objs.size (.tup [.int i,x])) { s with heap:=h2,toks:=tk+1 }:=by
   refine I.step (g':=s.gens) (d':=s.drawn) (ch:=[z,it]) (λc hc=>⟨(hf c hc).2.2.2.1,(hf c hc).2.1,(hf c hc).2.2.2.2.1,(hf c hc).2.2.2.2.2⟩) (λc o _ _ hc e _=>kp c o hc e) (λc o _ _ hc e _=>⟨o.slots,kp c o hc e⟩)
    (λc o _ e n=>by rw [aj (ad3 (ab9 e))];exact n) (λc o hc e=>⟨o,kp c o hc e⟩) (λc us e=>by rw [aj (aq e Hn)];exact e) (λc o u e=>by rw [aj (aq e Hn)];exact e)
    (λc ps e=>⟨#[],by rw [aj (aq e Hn),e];simp⟩) (λm hm=>?_) (λc u e=>?_) I.bare
   ·obtain⟨o,es,ep,ho,r⟩:=hm
    exact⟨o,es,ep,kp _ o (λq=>(hf _ q).2.1 rfl) ho,r⟩
   ·by_cases hcs:c=s.heap.objs.size
    ·subst hcs
     rw [af]at e;cases e;exact⟨by rw [sizeLine_eq];show 2<=16777216;omega,[.int i tk,v],.cons ⟨_,rfl⟩ (.cons rx .nil),_,pr2,rfl,_,rfl⟩
    ·rw [aj hcs]at e
     refine(I.hok c u e).stay (λd o hd q=>kp d o ?_ q) (λd q=>by rw [aj (aq q Hn)];exact q) λd us q=>by rw [aj (aq q Hn)];exact q
     rcases hd with hd | hd
     ·rw [hd];exact nf e
     ·exact nf hd
  refine⟨.ref s.heap.objs.size,_,I2,rfl,⟨_,x,rfl,Hn,rfl,λus hu=>by rw [I.seqB_inj hu q1];exact hx⟩,⟨⟨v,?_⟩,?_⟩,λc hc=>?_⟩
  ·have e:(((i+1:Nat)):Int)=(i:Int)+1:=by omega
   rw [e];exact z2
  ·exact s'.1.at λo e=>(sb.2 _ nd.symm).trans e
  ·show upd H s.heap.objs.size (.tup [.int i,x]) c=none
   have lt:c < s.heap.objs.size:=by
    have hc':c=z\/c=it:=by simpa using hc
    rcases hc' with e | e
    ·subst e;exact ab9 qz
    ·subst e;obtain⟨o,e,_⟩:=u.obj;exact ab9 e
   rw [aj (ad3 lt)];exact(hf c hc).1
 ·rintro X hP hw hK hc i pins s Z H E I hf ⟨⟨old,qz⟩,u⟩ ⟨xs,q1,hend⟩
  subst hP hw hK;have hh:X.A.in1.handled=none:=I.ok.hd hc;obtain⟨its,r1,p1,z1⟩:=I.seqB q1;have na:a≠it:=I.seqB_ne q1 (hf it (by simp))
  have ei:i=its.toArray.size:=by rw [ab1,<-r1.length];exact hend
  subst ei;obtain⟨f0,f1,f2,f3,f4,f5⟩:=hf it (by simp);exact wpAny_pyNext_enum_endD (gc (P:=X.prog) (w:=X.w) hh l it a na its.toArray) qz ⟨u,p1⟩ λh' k=>⟨rfl,I.turned (t':=s.toks) (λb o hb e=>k b o hb e) f0 f1 f3 f4 f5⟩
 ·rintro A i s Q E ⟨⟨old,qz⟩,_⟩ h
  exact wpAny_pyIter_enum qz h
def Ad(K:Frag)(ta:TA):TI:=λZ H R=>ta Z H λvs H1=>∃a,vs=[.ref a]/\∃l,(∃xs,iS K l H1 a xs)/\R (G7 K l a) H1
theorem uK{elts:List Expr}{kt:Nat}{pt:Pos}{a:Expr}{ta:TA}(hg:Gl X "enumerate")(hm:X.mg "enumerate"=none)(ha:PA X [a] ta)(hs:starEach [a] X.env=[(false,eval a X.env)]:=by rfl):
  PI X (.Tuple elts kt pt) (.Call (.Name "enumerate" p) [a] [] pos) (Ad X.K ta):=by
 intro pins s Z H R I h;refine Call_ (gN I hg hm boot_enumerate (PyProof.Rows.callWith_type1 (c7 (ha pos pins s Z H _ I h) λus s1 zq0=>?_) hs rfl));obtain⟨vs,H1,I1,r1,a1,e,l,⟨xs,q1⟩,q⟩:=zq0;subst e;obtain⟨u,rfl,e1⟩:=eZ r1;cases e1;obtain⟨its1,r1,p1,z1⟩:=I1.seqB q1;refine L3.call_enumerateB p1 λh' qz qI sz kp=>wpAny_pyIter_enum qz ?_;refine⟨s1.heap.objs.size+1,[s1.heap.objs.size+1,s1.heap.objs.size],_,_,H1,rfl,I1.kept (h':=h') (t':=s1.toks) kp,wY l a1 _ _ (Nat.succ_ne_self _),⟨⟨_,qz⟩,kQ.rec qI⟩,λc hc=>?_,q⟩
 have hc':s1.heap.objs.size<=c:=by
  have:c=s1.heap.objs.size+1\/c=s1.heap.objs.size:=by simpa using hc
  rcases this with e | e<;>(rw [e];first | exact aa8 _ | exact Nat.le_add_right _ _)
 exact I1.fpOk hc' (I1.hok.fresh hc')
theorem oE{g:TG}{tb:TS}{D:jT}{Z:St}{us:List V}(Pv:Nat->St->Hp->Prop)(h0:Pv 0 Z H)(hl:∀i Z H,i<=us.length->Pv i Z H->iS K l H a us)
  (hs:∀i x Z H p,us[i]?=some x->Pv i Z H->H p=none->g (.ref p) Z (upd H p (.tup [.int i,x])) λZf H2=>tb { D with nx:=Pv (i+1),ct:=Pv (i+1),bk:=D.nx } Zf H2) (hd:∀Z H,Pv us.length Z H->D.nx Z H):zC g tb D Z (G7 K l a) H:=by
 refine⟨λi m Z H=>m=us.length - i/\i<=us.length/\Pv i Z H,⟨us.length,by simp,ac2 _,h0⟩,?_⟩;rintro i m Z H ⟨rfl,hi,p⟩;have q1:=hl i Z H hi p
 by_cases hlt:i < us.length
 ·refine .inr ⟨⟨us,us[i],q1,by simp [hlt]⟩,Pv (i+1),λZc H' p'=>⟨us.length - (i+1),(),rfl,hlt,p'⟩,λx H' y=>?_⟩
  obtain⟨pp,u,e,hp,e2,y1⟩:=y;subst e e2;exact hs i u Z H pp (y1 us q1) p hp
 ·have e:i=us.length:=by omega
  subst e;exact .inl ⟨⟨us,q1,rfl⟩,hd Z H p⟩
structure rX(K:Frag)(x qual:Str)(st:Stmt)(f:Addr)(fd:FuncData)(T:Addr):Prop where
 ex:∃(oc:Value) (od:Option Addr) (kV doc pm:Value) (an:Option Addr) (cdv ct:Value) (osl:Array (Option Value)),
  fd=fnOf x qual (cz st) (bX st) (ak st) (.ref T) kV doc pm an cdv ct/\K.lookup f=some ⟨oc,od,.func fd,osl⟩/\codeIn K cdv qual=true
 kp:keepIn K (.ref f)=true
theorem rX.ok{N:List Str}(F:rX K x qual st f fd T)(S:ax N ps (ak st))
  (hbody:∀(cdv:Value) (A:Around) (outer:List Env) (s:Shared) (H:Hp) (vs:List V) (Q:VK) (E:XK),dW k (A.deeper (envOfC qual (ak st) s.heap.objs.size f cdv))->sp vs H Q E->
   vs.length=ps.length/\∃t,w6 (tZ bP P w K mg base N qual (ak st) f cdv A outer s H E).nox (bX st) t/\t { nx:=λ_ H'=>Q .non H',rt:=Q } (start N vs) H):aK P w K mg base bP (k+1) f fd ps sp:=by
 obtain⟨oc,od,kV,doc,pm,an,cdv,ct,osl,rfl,lk,hcd⟩:=F.ex;refine DU lk hcd S (λA o s vs H Q E hr hsp=>(hbody cdv A o s H vs Q E (hr.deeper _) hsp).1) λA outer s H vs Q E hr hsp=>?_;obtain⟨_,t,h,q⟩:=hbody cdv A outer s H vs Q E hr hsp;exact⟨t,h.nox,q⟩
structure G5(P:Program)(w:World)(K:Frag)(mg:Str->Option Value)(base:Heap)(x:Str)(k:Nat)(ps:List Str)(sp:Sp)(dvs:List V):Prop where
 ex:∃(f:Addr) (fd:FuncData) (ds:List Value),aK P w K mg base bP k f fd ps sp/\mg x=some (.ref f)/\keepIn K (.ref f)=true/\dm K fd ps ds/\bh dvs ds
section
variable {es:List Expr} {t:TA} {dvs:List V}
end
structure zy(K:Frag)(x:Str)(st:Stmt)(f:Addr)(fd:FuncData)(u:Value):Prop where
 ns:nsIn K mainGlobals x=some (some (.ref f))
 fn:∃(T:Addr) (o:Obj) (n:Nat),rX K x x st f fd T/\K.lookup T=some o/\o.data=.seq #[u] n
theorem rX.binds(F:rX K x qual st f fd T)(t:K.lookup T=some o)(d:o.data=.seq #[u] n)
  (h:∀(kV doc pm:Value) (an:Option Addr) (cdv ct:Value) (us:List Value),us.length=ps.length->
   ∃k:Option (Array Value)->Sem (List (Str×Value)),bindArgs (fnOf x qual (cz st) (bX st) (ak st) (.ref T) kV doc pm an cdv ct) ⟨us,[]⟩=seqItems? (.ref T) >>= k/\k (some #[u])=pure (ps.zip us)):dm K fd ps []:=by
 obtain⟨oc,od,kV,doc,pm,an,cdv,ct,osl,rfl,lk,hcd⟩:=F.ex;intro s us X hl;rw [af1]at hl |-;obtain⟨k,h1,h2⟩:=h kV doc pm an cdv ct us hl;exact BindsTo.of_defaults (T:=T) rfl (X _ _ t) d h1 h2
theorem rX.bindsD(F:rX K x qual st f fd T)(t:K.lookup T=some o)(d:o.data=.seq #[u] n)
  (h:∀(kV doc pm:Value) (an:Option Addr) (cdv ct:Value) (us:List Value),us.length+1=ps.length->
   ∃k:Option (Array Value)->Sem (List (Str×Value)),bindArgs (fnOf x qual (cz st) (bX st) (ak st) (.ref T) kV doc pm an cdv ct) ⟨us,[]⟩=seqItems? (.ref T) >>= k/\k (some #[u])=pure (ps.zip (us++[u]))):dm K fd ps [u]:=by
 obtain⟨oc,od,kV,doc,pm,an,cdv,ct,osl,rfl,lk,hcd⟩:=F.ex;intro s us X hl;obtain⟨k,h1,h2⟩:=h kV doc pm an cdv ct us (by rw [<-hl,ab4];rfl);exact BindsTo.of_defaults (T:=T) rfl (X _ _ t) d h1 h2
def pY(K:Frag)(H:Hp):Nat->V->V->Bool->Prop
 | 0,x,y,b=>(gH x=true/\gH y=true/\b=zr x y)\/∃a,x=.ref a/\y=.ref a/\b=true
 | n+1,x,y,b=>pY K H 0 x y b\/∃(a c:Addr) (l:Bool) (xs ys:List V) (e:Nat->Bool),x=.ref a/\y=.ref c/\a≠c/\iS K l H a xs/\iS K l H c ys/\
   (∀j x y,xs[j]?=some x->ys[j]?=some y->pY K H n x y (e j))/\b=((List.range (min xs.length ys.length)).all e && xs.length == ys.length)
theorem pY.flat{x y:V}(fx:gH x=true)(fy:gH y=true):pY K H n x y (zr x y):=by
 cases n
 ·unfold pY;exact .inl ⟨fx,fy,rfl⟩
 ·unfold pY;refine .inl ?_;unfold pY;exact .inl ⟨fx,fy,rfl⟩
theorem pY.same:pY K H n (.ref a) (.ref a) true:=by
 cases n
 ·unfold pY;exact .inr ⟨a,rfl,rfl,rfl⟩
 ·unfold pY;refine .inl ?_;unfold pY;exact .inr ⟨a,rfl,rfl,rfl⟩
section
variable {pins:List (Addr×Obj)} {Z:St} {s:Shared}
theorem lY{us:List Value}(r:bh xs us)(h:j < us.toArray.size):∃x,xs[j]?=some x/\aX x us.toArray[j]:=by
 have l1:=r.length;simp only [ab1]at h
 have hx:j < xs.length:=by omega
 obtain⟨u,e1,r1⟩:=bh.get r (i:=j) (x:=xs[j]) (by simp [hx])
 have g1:us.toArray[j]=u:=by simpa [h]using e1
 exact⟨xs[j],by simp [hx],by rw [g1];exact r1⟩
theorem Bl{ys:List V}{us vs:List Value}{e:Nat->Bool}(rx:bh xs us)(ry:bh ys vs)(p1:L3.IsSeq l s.heap a us.toArray)(p2:L3.IsSeq l s.heap c vs.toArray)(hu:A.units < cLine)
  (he:∀j (h1:j < us.toArray.size) (h2:j < vs.toArray.size),SeqAt.EqAt A.in1 s us.toArray[j] vs.toArray[j] (e j)):SeqAt.RcAt A s (.ref a) (.ref c) ((List.range (min xs.length ys.length)).all e && xs.length == ys.length):=by
 have s1:us.toArray.size=xs.length:=by rw [ab1,rx.length]
 have s2:vs.toArray.size=ys.length:=by rw [ab1,ry.length]
 cases l
 ·have:=SeqAt.RcAt.tuples (show s.heap.IsTuple a us.toArray from p1) (show s.heap.IsTuple c vs.toArray from p2) hu he
  rw [s1,s2]at this;exact this
 ·by_cases hl:xs.length=ys.length
  ·have:=SeqAt.RcAt.lists (show s.heap.IsList a us.toArray from p1) (show s.heap.IsList c vs.toArray from p2) (by rw [s1,s2,hl]) hu he
   rw [s1]at this;rw [hl,Nat.min_self,beq_self_eq_true,Bool.and_true,<-hl];exact this
  ·have:=SeqAt.RcAt.lists_lengths (show s.heap.IsList a us.toArray from p1) (show s.heap.IsList c vs.toArray from p2) (by rw [s1,s2];simpa using hl) hu
   rw [show(xs.length == ys.length)=false by simpa using hl,Bool.and_false];exact this
theorem pY.at(I:aQ X pins Z H s):∀{n:Nat} {A:Around} {x y:V} {u v:Value} {b:Bool},A.units+n < cLine->aX x u->aX y v->pY X.K H n x y b->SeqAt.EqAt A s u v b:=by
 have z0:∀{A:Around} {x y:V} {u v:Value} {b:Bool},aX x u->aX y v->pY X.K H 0 x y b->SeqAt.EqAt A s u v b:=by
  intro A x y u v b rx ry h;unfold pY at h;rcases h with⟨fx,fy,rfl⟩ | ⟨a,rfl,rfl,rfl⟩
  ·exact zZ rx ry fx fy
  ·cases rx;cases ry;exact SeqAt.EqAt.same _
 intro n
 induction n with
 | zero=>intro A x y u v b _ rx ry h;exact z0 rx ry h
 | succ n ih=>
  intro A x y u v b hu rx ry h;unfold pY at h;rcases h with h | ⟨a,c,l,xs,ys,e,rfl,rfl,ne,h1,h2,he,rfl⟩
  ·exact z0 rx ry h
  ·cases rx;cases ry
   obtain⟨us,r1,p1,_⟩:=I.seqB h1;obtain⟨vs,r2,p2,_⟩:=I.seqB h2;refine SeqAt.EqAt.of_refs ne (Bl r1 r2 p1 p2 () λj j1 j2=>?_);obtain⟨x,ex,rx⟩:=lY r1 j1;obtain⟨y,ey,ry⟩:=lY r2 j2;exact ih (A:=A.in1) (by show A.units+1+n < cLine;omega) rx ry (he j x y ex ey)
def Fv(K:Frag)(H:Hp)(n:Nat)(x y:V)(b:Bool):Prop:=∃(a c:Addr) (l:Bool) (xs ys:List V) (e:Nat->Bool),x=.ref a/\y=.ref c/\iS K l H a xs/\iS K l H c ys/\
 (∀j x y,xs[j]?=some x->ys[j]?=some y->pY K H n x y (e j))/\b=((List.range (min xs.length ys.length)).all e && xs.length == ys.length)
theorem EO(n:Nat)(hu:X.A.units+n+1 < cLine):dY X (compareOp .Eq) (λx y H Q=>∃b,Fv X.K H n x y b/\Q (.bl b) H):=by
 rintro pins s Z H x y v u Q I rx ry ⟨b,⟨a,c,l,xs,ys,e,rfl,rfl,h1,h2,he,rfl⟩,q⟩;cases rx;cases ry;obtain⟨us,r1,p1,_⟩:=I.seqB h1;obtain⟨vs,r2,p2,_⟩:=I.seqB h2;refine Bl (A:=X.A) r1 r2 p1 p2 () (λj j1 j2=>?_) X.prog X.w X.xe _ (bA I q rfl);obtain⟨x,ex,rx⟩:=lY r1 j1;obtain⟨y,ey,ry⟩:=lY r2 j2;exact pY.at I (A:=X.A.in1) (by show X.A.units+1+n < cLine;omega) rx ry (he j x y ex ey)
def lH(K:Frag):R2:=λx y H Q=>tu x y H Q\/∃b,Fv K H 4 x y b/\Q (.bl b) H
theorem F1(hr:dW k A):A.units+4+1 < cLine:=aa7 (Nat.add_le_add_left (by decide:5<=64) _) hr.units
theorem Gg(K:Frag)(hu:X.A.units+4+1 < cLine)(h:X.K=K:=by rfl):dY X (compareOp .Eq) (lH K):=h▸opEq.or (EO 4 hu)
end
theorem rEqC_ii{j:Int}:lH K (.int i) (.int j) H Q↔Q (.bl (decide (i=j))) H:=by simp [lH,vW,Fv]
theorem Du{i j:Str}:lH K (.str i) (.str j) H Q↔Q (.bl (decide (i=j))) H:=by simp [lH,vX,Fv]
theorem DY(K:Frag):zu (lH K)=lH K:=Ar (λ_ _ _ _=>rEqC_ii) (λ_ _ _ _=>Du)
theorem Ey{x y:V}:zu (lH K) x y H Q↔lH K x y H Q:=by rw [DY]
theorem AM(K:Frag)(hu:X.A.units+4+1 < cLine)(h:X.K=K:=by rfl):dY X (compareOp .Eq) (zu (lH K)):=by rw [DY];exact Gg K hu h
theorem Fv.of_same(h1:iS K l H a xs)(h2:iS K l H c xs)(hf:∀x∈xs,gH x=true\/∃p,x=.ref p):Fv K H n (.ref a) (.ref c) true:=by
 refine⟨a,c,l,xs,xs,λ_=>true,rfl,rfl,h1,h2,λj x y hx hy=>?_,?_⟩
 ·rw [hx]at hy
  cases hy;rcases hf x (ac0 hx)with f | ⟨p,rfl⟩
  ·have:=pY.flat (K:=K) (H:=H) (n:=n) f f
   have e:zr x x=true:=by cases x<;>first | rfl | (simp [zr];done) | exact absurd (show false=true from f) aa6
   rw [e]at this;exact this
  ·exact pY.same
 ·simp
theorem y3(h1:iS K l H a xs)(h2:iS K l H c xs)(hf:∀x∈xs,gH x=true\/∃p,x=.ref p)(q:Q (.bl true) H):lH K (.ref a) (.ref c) H Q:=.inr ⟨true,.of_same h1 h2 hf,q⟩
structure fF(P:Program)(w:World)(K:Frag)(mg:Str->Option Value)(base:Heap)(k:Nat)(f:Addr)(ps:List Str)(sp:Sp):Prop where
 ex:∃fd:FuncData,aK P w K mg base bP k f fd ps sp/\keepIn K (.ref f)=true/\dm K fd ps []
structure aG(P:Program)(w:World)(K:Frag)(mg:Str->Option Value)(base:Heap)(C:Addr)(m:Str)(k:Nat)(ps:List Str)(sp:Sp):Prop where
 cl:vm K C
 ex:∃(f:Addr) (fd:FuncData),Ek K C m f/\aK P w K mg base bP k f fd ps sp/\dm K fd ps []
structure DL(K:Frag)(C:Addr)(m:Str)(f:Addr):Prop where
 rd:PySem.W.readsIn K C (.type "type")=true
 at_:PySem.W.findCls K (.ref C) (.type "type") m=some (.val (.ref f))
 ga:PySem.W.specialIn K (.ref C) "__getattribute__"=some (some (.builtin "type.__getattribute__"))
 kp:keepIn K (.ref f)=true
structure i5(P:Program)(w:World)(K:Frag)(mg:Str->Option Value)(base:Heap)(x m:Str)(k:Nat)(ps:List Str)(sp:Sp):Prop where
 ex:∃(C f:Addr) (fd:FuncData),mg x=some (.ref C)/\DL K C m f/\aK P w K mg base bP k f fd ps sp/\dm K fd ps []
structure i6(P:Program)(w:World)(K:Frag)(mg:Str->Option Value)(base:Heap)(x:Str)(C:Addr)(k:Nat)(ps:List Str)(sp:Sp):Prop where
 ex:∃(f:Addr) (fd:FuncData),Mk K C f/\aK P w K mg base bP k f fd ps sp/\mg x=some (.ref C)/\dm K fd ps []
theorem fF.up(d:fF P w K mg base j f ps sp)(h:j<=k):fF P w K mg base k f ps sp:=let ⟨fd,F,b,c⟩:=d.ex;⟨fd,F.mono h,b,c⟩
theorem aG.up(d:aG P w K mg base C m j ps sp)(h:j<=k):aG P w K mg base C m k ps sp:=let ⟨f,fd,a,F,c⟩:=d.ex;⟨d.cl,f,fd,a,F.mono h,c⟩
theorem i5.up(d:i5 P w K mg base x m j ps sp)(h:j<=k):i5 P w K mg base x m k ps sp:=let ⟨C,f,fd,a,b,F,c⟩:=d.ex;⟨C,f,fd,a,b,F.mono h,c⟩
theorem i6.up(d:i6 P w K mg base x C j ps sp)(h:j<=k):i6 P w K mg base x C k ps sp:=let ⟨f,fd,a,F,b,c⟩:=d.ex;⟨f,fd,a,F.mono h,b,c⟩
theorem aG.imp{sp':Sp}(d:aG P w K mg base C m k ps sp)(h:∀vs H Q E,sp' vs H Q E->sp vs H Q E):aG P w K mg base C m k ps sp':=let ⟨f,fd,a,F,c⟩:=d.ex;⟨d.cl,f,fd,a,F.imp h,c⟩
def wR(P:Program)(w:World)(K:Frag)(mg:Str->Option Value)(base:Heap)(k:Nat)(m:Str)(ta:TE)(t:TA):TE:=λZ H Q=>ta Z H λx H1=>∃(a C dx:Addr) (fs:List (Str×V)) (ps:List Str) (sp:Sp),
 x=.ref a/\H1 a=some (.ins C dx fs)/\fs.lookup m=none/\aG P w K mg base C m k ps sp/\t Z H1 λvs H2=>sp (x::vs) H2 Q E0
def BH(P:Program)(w:World)(K:Frag)(mg:Str->Option Value)(base:Heap)(k:Nat)(tf:TE)(t:TA):TE:=λZ H Q=>tf Z H λx H1=>∃(f:Addr) (ps:List Str) (sp:Sp),
 x=.ref f/\fF P w K mg base k f ps sp/\t Z H1 λvs H2=>sp vs H2 Q E0
section
variable {apos:Pos} {o:Expr} {es:List Expr} {ta:TE} {t:TA}
theorem eO(P:Program)(w:World)(K:Frag)(mg:Str->Option Value)(base:Heap)(hr:dW k X.A)(he:PE X o ta)(ha:PA X (e::es) t)(e1:X.prog=P:=by rfl)(e2:X.w=w:=by rfl)(e3:X.K=K:=by rfl)(e4:X.mg=mg:=by rfl)(e5:X.base=base:=by rfl)
  (hst:starEach (e::es) X.env=(false,eval e X.env)::starEach es X.env:=by rfl) (hpl:(backTo pos (starEach es X.env)).any (·.1)=false:=by rfl)
  (ht:eval (.Call (.Attribute o m apos) (e::es) [] pos) X.env=(do
   let ov <-eval o X.env
   standAt apos.atName
   let (f,first) <-holding [ov] (getMethod ov m pl)
   callWith pos f first (backTo pos (starEach (e::es) X.env)) (backToKw pos (keywordEach [] X.env))):=by rfl) :
  PE X (.Call (.Attribute o m apos) (e::es) [] pos) (wR P w K mg base k m ta t):=by
 subst e1 e2 e3 e4 e5;intro pins s Z H Q I h;refine PySem.W.methodCall_KW (pl:=pl) (c7 (he pins s Z H _ I h) λu s1 zq0=>?_) ht;obtain⟨x,H1,I1,rx,a,C,dx,fs,ps,sp,ex,ea,l,M,q⟩:=zq0;subst ex;obtain rfl:u=Value.ref a:=rx;obtain⟨f,fd,hm,F,hb⟩:=M.ex;refine oh I1 ea M.cl hm l ?_;refine PySem.W.callWith_K (first:=[.ref a]) (h₀:=X.base) I.ok.mod.kin hm.kp (c7 (ha pos pins s1 Z H1 _ I1 q) λus s2 ⟨vs,H2,I2,r,q2⟩=>⟨I2.kIn,?_⟩) hst hpl;exact oZ (us:=.ref a::us) (vs:=.ref a::vs) (dvs:=[]) (E:=E0) F hr hb .nil rH I2 (.cons rfl r) (by rw [af1];exact q2)
theorem jR(P:Program)(w:World)(K:Frag)(mg:Str->Option Value)(base:Heap)(hr:dW k X.A)(he:PE X o ta)(e1:X.prog=P:=by rfl)(e2:X.w=w:=by rfl)(e3:X.K=K:=by rfl)(e4:X.mg=mg:=by rfl)(e5:X.base=base:=by rfl)
  (ht:eval (.Call (.Attribute o m apos) [] [] pos) X.env=(do
   let ov <-eval o X.env
   standAt apos.atName
   let (f,first) <-holding [ov] (getMethod ov m pl)
   callWith pos f first (backTo pos (starEach [] X.env)) (backToKw pos (keywordEach [] X.env))):=by rfl) :
  PE X (.Call (.Attribute o m apos) [] [] pos) (wR P w K mg base k m ta wU):=by
 subst e1 e2 e3 e4 e5;intro pins s Z H Q I h;refine PySem.W.methodCall_KW (pl:=pl) (c7 (he pins s Z H _ I h) λu s1 zq0=>?_) ht;obtain⟨x,H1,I1,rx,a,C,dx,fs,ps,sp,ex,ea,l,M,q⟩:=zq0;subst ex;obtain rfl:u=Value.ref a:=rx;obtain⟨f,fd,hm,F,hb⟩:=M.ex;refine oh I1 ea M.cl hm l ?_;exact PySem.W.callWith_K0 (first:=[.ref a]) I1.kIn hm.kp (oZ (us:=[.ref a]) (vs:=[.ref a]) (dvs:=[]) (E:=E0) F hr hb .nil rH I1 (.cons rfl .nil) q)
theorem A6(P:Program)(w:World)(K:Frag)(mg:Str->Option Value)(base:Heap)(hr:dW k X.A)(he:PE X o ta)(ha:PA X (e::es) t)(e1:X.prog=P:=by rfl)(e2:X.w=w:=by rfl)(e3:X.K=K:=by rfl)(e4:X.mg=mg:=by rfl)(e5:X.base=base:=by rfl)
  (hst:starEach (e::es) X.env=(false,eval e X.env)::starEach es X.env:=by rfl) (hpl:(backTo pos (starEach es X.env)).any (·.1)=false:=by rfl)
  (hev:eval (.Call o (e::es) [] pos) X.env=(do callWith pos (<-eval o X.env) [] (backTo pos (starEach (e::es) X.env)) (backToKw pos (keywordEach [] X.env))):=by rfl) :
  PE X (.Call o (e::es) [] pos) (BH P w K mg base k ta t):=by
 subst e1 e2 e3 e4 e5;intro pins s Z H Q I h;refine Call_ (c7 (he pins s Z H _ I h) λu s1 zq0=>?_) hev;obtain⟨x,H1,I1,rx,f,ps,sp,ex,M,q⟩:=zq0;subst ex;obtain rfl:u=Value.ref f:=rx;obtain⟨fd,F,hk,hb⟩:=M.ex;refine PySem.W.callWith_K (h₀:=X.base) I.ok.mod.kin hk (c7 (ha pos pins s1 Z H1 _ I1 q) λus s2 ⟨vs,H2,I2,r,q2⟩=>⟨I2.kIn,?_⟩) hst hpl;exact oZ (us:=us) (vs:=vs) (dvs:=[]) (E:=E0) F hr hb .nil rH I2 r (by rw [af1];exact q2)
theorem dH(d:i5 X.prog X.w X.K X.mg X.base x m k ps sp)(hr:dW k X.A)(hg:Gl X x)(ha:PA X (e::es) t)(hdb:(x == ("__debug__":Str))=false:=by decide)
  (hst:starEach (e::es) X.env=(false,eval e X.env)::starEach es X.env:=by rfl) (hpl:(backTo pos (starEach es X.env)).any (·.1)=false:=by rfl)
  (ht:eval (.Call (.Attribute (.Name x p) m apos) (e::es) [] pos) X.env=(do
   let ov <-eval (.Name x p) X.env
   standAt apos.atName
   let (f,first) <-holding [ov] (getMethod ov m pl)
   callWith pos f first (backTo pos (starEach (e::es) X.env)) (backToKw pos (keywordEach [] X.env))):=by rfl) :
  PE X (.Call (.Attribute (.Name x p) m apos) (e::es) [] pos) (vi sp [] E0 t):=by
 obtain⟨C,f,fd,hm,c,F,hb⟩:=d.ex;intro pins s Z H Q I h;refine PySem.W.methodCall_KW (pl:=pl) (nM I hg hm ?_ hdb) ht;refine PySem.W.method_cls I.kIn c.ga (PySem.W.cls_value I.kIn c.rd c.at_ rfl ?_);have I1:=I.tok (s.toks+1);refine PySem.W.callWith_K (first:=[]) (h₀:=X.base) I.ok.mod.kin c.kp (c7 (ha pos pins _ Z H _ I1 h) λus s2 ⟨vs,H2,I2,r,q2⟩=>⟨I2.kIn,?_⟩) hst hpl;exact oZ (us:=us) (vs:=vs) F hr hb .nil rH I2 r q2
theorem iW(d:i6 X.prog X.w X.K X.mg X.base x C k ps sp)(hr:dW (k+1) X.A)(hg:Gl X x)(ha:PA X (e::es) t)(hdb:(x == ("__debug__":Str))=false:=by decide)
  (he:starEach (e::es) X.env=(false,eval e X.env)::starEach es X.env:=by rfl) (hpl:(backTo pos (starEach es X.env)).any (·.1)=false:=by rfl) :
  PE X (.Call (.Name x p) (e::es) [] pos) (BO C sp [] E0 t):=
 let ⟨_,_,M,F,hm,hb⟩:=d.ex;Dm M F hr hg hm hb .nil rH ha hdb he hpl
end
def l6(K:Frag)(a:Addr)(D:List (Str×V)):Prop:=(a == sysModules)=false/\∃o es ep,K.lookup a=some o/\o.ExactDict/\o.data=.dict es ep/\KTD.Rows aX es.toList D
section
variable {prog:Program} {E:Value->Shared->Prop} {s:Shared} {k:Str} {tk:Tok}
theorem l6.typeIs(X:K.In s.heap)(T:l6 K a D):s.TypeIs (.ref a) "dict":=let ⟨_,o,_,_,ho,hc,_⟩:=T;⟨o,X _ _ ho,hc.1⟩
theorem mX{Q:Option Value->Shared->Prop}(X:K.In s.heap)(T:l6 K a D)(h1:∀d v,KTD.datumAt k D=some d->aX d v->Q (some v) { s with toks:=s.toks+1 })(h2:KTD.datumAt k D=none->Q none { s with toks:=s.toks+1 }):
  wpAny (model prog w) A (dictGet a (.str k tk)) Q E s:=by
 obtain⟨_,o,es,ep,ho,hc,hd,hr⟩:=T;have ho:=X _ _ ho;unfold dictGet
 try with_reducible refine ae6 ?_
 refine aa3 (wpAny_pyHash_str (aa3 (KTD.kt_dictFind_strs (s:={ s with toks:=s.toks+1 }) ho hd (by obtain⟨l⟩:=es;simpa using hr.exact) ?_)))
 have hq:Q (findBy (λk v=>v.isStr k) es k) { s with toks:=s.toks+1 }:=by
  have hf:findBy (λk v=>v.isStr k) es k=(es.toList.find? λe=>e.key.isStr k).map (·.val):=by
   obtain⟨l⟩:=es;simp [findBy]
  rw [hf]
  cases hat:KTD.datumAt k D with
  | some d=>obtain⟨v,hv,hfl⟩:=hr.find_some hat;rw [hv];exact h1 d v hat hfl
  | none=>rw [hr.find_none hat];exact h2 hat
 rw [findBy_of_findIdx?]at hq
 cases hi:es.findIdx? λe=>e.key.isStr k with
 | none=>rw [hi]at hq;exact aa9 hq
 | some i=>rw [hi]at hq;exact aa3 (wpAny_dictEntries (s:={ s with toks:=s.toks+1 }) ho hd (aa9 hq))
theorem yM{Q:Value->Shared->Prop}(X:K.In s.heap)(T:l6 K a D)(h:Q (.bool (!(KTD.datumAt k D).isSome)) { s with toks:=s.toks+1 }):wpAny (model prog w) A (compareOp .NotIn (.str k tk) (.ref a)) Q E s:=by
 have ty:=T.typeIs X;show wpAny _ _ (do return .bool (!(<-contains (.ref a) (.str k tk)))) Q E s;refine aa3 ?_;unfold contains
 try with_reducible refine ae6 ?_
 refine aa3 (aj9 ty F.slot_dict_contains.lookup ?_);show wpAny _ _ (if (some (Value.builtin "dict.__contains__") == some Value.none)=true then _ else _) _ E s;rw [if_neg (by rw [beq_builtin_none];exact aa6)]
 refine aa3 (wpAny_callSpecialUnlessNone?_slot (name:=Str.ofString "__contains__") ty F.slot_dict_contains
  (ag2 F.slot_dict_contains ty F.entry_dict_contains ?_ (F.args_dict_contains_2 _ _)))
 show wpAny _ _ (dictGet a (.str k tk) >>= _) _ _ s;refine aa3 (mX X T (λd v ha _=>?_) λhn=>?_)
 ·rw [ha]at h
  show wpAny _ _ (ret (.bool true)) _ _ _;exact aa9 ⟨_,rfl,ae2 (aa9 h)⟩
 ·rw [hn]at h
  show wpAny _ _ (Builtin.Dict.pendingKey? a (.str k tk) >>= _) _ _ _;exact aa3 (wpAny_pendingKey_other T.1 (aa9 ⟨_,rfl,ae2 (aa9 h)⟩))
theorem Am{value slice:Expr}{v:V}{Q:Value->Shared->Prop}(X:K.In s.heap)(T:l6 K a D)(hv:KTD.datumAt k D=some v)(h:∀u,aX v u->Q u { s with toks:=s.toks+1 })
  (hs:subscripted slice false (.ref a) (.str k tk)=operate [.ref a,.str k tk] (getItem (.ref a) (.str k tk))) (hg:∀r,letTemporaryGo value (.ref a) r=pure Unit.unit) :
  wpAny (model prog w) A (subscriptTail value slice (.ref a) (.str k tk)) Q E s:=by
 have ty:=T.typeIs X;refine subscriptTail_builtin ty F.slot_dict_getitem.lookup ?_ hs hg;unfold getItem
 try with_reducible refine ae6 ?_
 refine aa3 (wpAny_sequenceKey ty ∅ ?_)
 refine aa3 (wpAny_callSpecial?_slot (name:=Str.ofString "__getitem__") ty F.slot_dict_getitem
  (ag2 F.slot_dict_getitem ty F.entry_dict_getitem ?_ (F.args_dict_getitem_2 _ _)))
 show wpAny _ _ (dictGet a (.str k tk) >>= _) _ _ s;refine aa3 (mX X T (λd v' ha hr=>?_) λhn=>?_)
 ·rw [hv]at ha
  cases ha;exact aa9 ⟨v',rfl,aa9 (h v' hr)⟩
 ·rw [hv]at hn;cases hn
end
theorem vU(K:Frag)(h:X.K=K:=by rfl):dY X (compareOp .NotIn) (λx y H Q=>∃k a D,x=.str k/\y=.ref a/\l6 K a D/\Q (.bl (!(KTD.datumAt k D).isSome)) H):=by
 subst h;rintro pins s Z H x y v u Q I rx ry ⟨k,a,D,rfl,rfl,T,q⟩;obtain⟨t,rfl⟩:=rx;cases ry;exact yM I.kIn T ⟨.bl _,H,I.tok _,rfl,q⟩
theorem A7(K:Frag){b:Expr}{ta tb:TE}(ha:PE X (.Name x p) ta)(hb:PE X b tb)(hs:w8 b)(hg:∀v r,letTemporaryGo (.Name x p) v r=pure Unit.unit:=by intro _ _;with_unfolding_all rfl)(h:X.K=K:=by rfl):
  PE X (.Subscript (.Name x p) b pos) (Fi (λx y H Q=>∃k a D v,x=.str k/\False\/x=.ref a/\y=.str k/\l6 K a D/\KTD.datumAt k D=some v/\Q v H) ta tb):=by
 subst h;intro pins s Z H Q I h;refine Subscript_ (Cm ha hb I h λv u s2 x y H2 I2 rx ry q=>?_);obtain⟨k,a,D,z,q⟩:=q;rcases q with q | ⟨rfl,rfl,T,hv,q⟩
 ·exact q.2.elim
 cases rx;obtain⟨t,rfl⟩:=ry;exact Am I2.kIn T hv (λu ru=>⟨z,H2,I2.tok _,ru,q⟩) (hs _ _) (hg _)
theorem sI{a b:String}:(Str.ofString a=Str.ofString b)↔a=b:=by
 constructor
 ·intro h
  rw [Str.ofString_eq_toList,Str.ofString_eq_toList]at h
  have h1:(a.toList.map Char.toNat)=(b.toList.map Char.toNat):=by
   have:=congrArg (λs:Str=>s.cps.toList) h
   simpa using this
  have h2:a.toList=b.toList:=by
   refine List.map_inj_right (f:=Char.toNat) (λx y e=>?_) |>.mp h1
   exact Char.toNat_inj.mp e
  exact String.toList_inj.mp h2
 ·intro h;rw [h]
def D8:Option Int->V
 | none=>.non
 | some i=>.int i
def aF(us:List Int)(v:Int):Int:=us.getD (v - 1).toNat 0
theorem ux{us:List Int}{v:Int}(h1:1<=v)(h2:v<=us.length):fV (us.map V.int) (v - 1)=some (.int (aF us v)):=by
 obtain⟨k,hk⟩:=ae0 (show 0<=v - 1 by omega);rw [hk]
 have hl:k < us.length:=by omega
 refine aJ ?_;rw [aa4,aa2 hl];simp [aF,hk,List.getD,aa2 hl]
structure bS where
 size:Int
 start:Int
 after:Int->Option (List Int)->List Int->Option Int
 closes:Int->Option (List Int)->Bool
def BV(K:Frag)(H:Hp)(nv:Nat)(b:Option (List Int))(x:V):Prop:=(b=none/\x=.non)\/∃a us,b=some us/\x=.ref a/\cM K H a (us.map V.int)/\us.length=nv
theorem BV.same{H':Hp}{b:Option (List Int)}{x:V}(s:av H H')(h:BV K H nv b x):BV K H' nv b x:=by
 rcases h with h | ⟨a,us,h1,h2,h3,h4⟩
 ·exact .inl h
 ·exact .inr ⟨a,us,h1,h2,s.tup h3,h4⟩
abbrev mV:=Addr->Hp->Prop
def pN(RI:mV)(v:V):Sp:=λvs H Q _=>∃r,vs=[.ref r]/\RI r H/\Q v H
def bz(K:Frag)(nv:Nat)(RI:mV)(S:bS)(G:Int->Prop):Sp:=λvs H Q _=>∃r m x c b us,vs=[.ref r,.int m,x,.ref c]/\RI r H/\G m/\BV K H nv b x/\cM K H c (us.map V.int)/\us.length=nv/\Q (D8 (S.after m b us)) H
def eh(K:Frag)(nv:Nat)(RI:mV)(S:bS)(G:Int->Prop):Sp:=λvs H Q _=>∃r m x b,vs=[.ref r,.int m,x]/\RI r H/\G m/\BV K H nv b x/\Q (.bl (S.closes m b)) H
structure bt(P:Program)(w:World)(K:Frag)(mg:Str->Option Value)(base:Heap)(k:Nat)(nv:Nat)(C:Addr)(S:bS)(RI:mV)(G:Int->Prop):Prop where
 mono:∀r H H',av H H'->RI r H->RI r H'
 ins:∀r H,RI r H->∃dx fs,H r=some (.ins C dx fs)/\fs.lookup (Str.ofString "size")=none/\fs.lookup (Str.ofString "start")=none/\fs.lookup (Str.ofString "after")=none/\fs.lookup (Str.ofString "closes")=none/\fs.lookup (Str.ofString "shown")=none
 g0:G S.start
 gS:∀m b us m',G m->S.after m b us=some m'->G m'
 size:aG P w K mg base C "size" k ["self"] (pN RI (.int S.size))
 start:aG P w K mg base C "start" k ["self"] (pN RI (.int S.start))
 after:aG P w K mg base C "after" k ["self","memory","before","column"] (bz K nv RI S G)
 closes:aG P w K mg base C "closes" k ["self","memory","last"] (eh K nv RI S G)
theorem bt.up{S:bS}{RI:mV}{G:Int->Prop}(R:bt P w K mg base j nv C S RI G)(h:j<=k):bt P w K mg base k nv C S RI G:=
 ⟨R.mono,R.ins,R.g0,R.gS,R.size.up h,R.start.up h,R.after.up h,R.closes.up h⟩
def DP(S:bS)(m:Int)(b:Option (List Int))(i:Nat):List (List Int)->Option Nat
 | []=>if S.closes m b=true then none else some i
 | c::cs=>match S.after m b c with
  | none=>some i
  | some m'=>DP S m' (some c) (i+1) cs
def brk(S:bS)(cols:List (List Int)):Option Int:=(DP S S.start none 0 cols).map λ(n:Nat)=>(n:Int)
def gg(K:Frag)(H:Hp)(l:Addr)(nv:Nat)(cols:List (List Int)):Prop:=∃ps:List Addr,aH K H l (ps.map V.ref)/\ps.length=cols.length/\∀(i:Nat) (p:Addr) (us:List Int),ps[i]?=some p->cols[i]?=some us->cM K H p (us.map V.int)/\us.length=nv
theorem gg.same{H':Hp}{l:Addr}{cols:List (List Int)}(s:av H H')(h:gg K H l nv cols):gg K H' l nv cols:=by
 obtain⟨ps,h1,h2,h3⟩:=h;exact⟨ps,s.seq h1,h2,λi p us a b=>⟨s.tup (h3 i p us a b).1,(h3 i p us a b).2⟩⟩
def jC(P:Program)(w:World)(K:Frag)(mg:Str->Option Value)(base:Heap)(k:Nat):Sp:=λvs H Q _=>∃(r l:Addr) (nv:Nat) (C:Addr) (S:bS) (RI:mV) (G:Int->Prop) (cols:List (List Int)),
 vs=[.ref r,.ref l]/\bt P w K mg base k nv C S RI G/\RI r H/\gg K H l nv cols/\cols.length<=1000/\∀H',av H H'->Q (D8 (brk S cols)) H'
structure gj(z kind:Str)(ns:List Int):Prop where
 cs:z.cps.toList=dv 32 (kind.cps.toList::ns.map iu)
 nb:∀n∈ns,n.natAbs < 10 ^ 40
 nl:ns.length<=20
 ks:32∉kind.cps.toList
 kl:kind.length<=20
 k0:kind.cps.toList≠[]
theorem nN(n:Int):32∉iu n:=λh=>by
 have:=oJ n 32 h
 omega
theorem DH{y:Str}(h:x.cps.toList=y.cps.toList):x=y:=by
 have:=lX x y
 rw [decide_eq_true h]at this;exact of_decide_eq_true this
theorem fC:∀{xs ys:List Str},xs.map (λz=>z.cps.toList)=ys.map (λz=>z.cps.toList)->xs=ys
 | [],[],_=>rfl
 | [],_::_,h=>by simp at h
 | _::_,[],h=>by simp at h
 | x::xs,y::ys,h=>by
  rw [ad0,ad0]at h
  injection h with h1 h2
  rw [DH h1,fC h2]
def aW(n:Int):Str:=Str.ofString (toString n)
theorem gj.split(R:gj z kind ns):Txt.split z ⟨#[32]⟩=kind::ns.map aW:=by
 refine fC ?_;rw [jE z ∅,R.cs,pT 32 _ (by simp) (λp hp=>?_),ad0,ai7]
 ·rfl
 ·rcases ab0.mp hp with rfl | hp
  ·exact R.ks
  ·obtain⟨n,_,rfl⟩:=ac4.mp hp
   exact nN n
theorem jO(c:Nat):∀(ps:List (List Nat)) (m:Nat),(∀p∈ps,p.length<=m)->(dv c ps).length<=ps.length * (m+1)
 | [],_,_=>by simp [dv]
 | p::ps,m,h=>by
  have h1:=h p (by simp);have h2:=jO c ps m (λq hq=>h q (by simp [hq]))
  have h3:(dv c (p::ps)).length<=p.length+1+(dv c ps).length:=by
   cases ps with
   | nil=>simp [dv]
   | cons q ps=>
    simp [dv,ab4];omega
  rw [ad6,am7];omega
theorem gj.len(R:gj z kind ns):z.length<=10000:=by
 rw [bq,R.cs]
 have h:=jO 32 (kind.cps.toList::ns.map iu) 60 (λp hp=>by
  rcases ab0.mp hp with rfl | hp
  ·have:=R.kl;rw [bq]at this;omega
  ·obtain⟨n,hn,rfl⟩:=ac4.mp hp
   have:=gq (n:=n) (k:=40) ∅ (R.nb n hn)
   omega)
 have:=R.nl
 simp only [ad6,aa0]at h;omega
theorem wJ(z y:Str){c:Nat}(hy:y.cps.toList.head?=some c)(hz:z.cps.toList.head?≠some c):Txt.startswith z y=false:=by
 obtain⟨⟨l⟩⟩:=z;obtain⟨⟨m⟩⟩:=y
 unfold Txt.startswith
 rw [StrLaws.subAt_eq]
 cases m with
 | nil=>simp at hy
 | cons b m=>
  cases l with
  | nil=>simp [Str.length]
  | cons a l=>
   simp at hy hz;subst hy;simp [Str.length];intro _ h;exact absurd h hz
theorem gj.head(R:gj z kind ns):z.cps.toList.head?=kind.cps.toList.head?:=by
 rw [R.cs]
 cases e:kind.cps.toList with
 | nil=>exact absurd e R.k0
 | cons a l=>
  cases ns with
  | nil=>simp [dv]
  | cons n ns=>simp [dv]
theorem A8:PE X e (λ_ _ _=>False):=λ_ _ _ _ _ _ h=>h.elim
theorem cC(xs:List V)(k:Nat):nZ xs (some (k:Int)) none=xs.drop k:=by
 unfold nZ;rw [HT.sIx_nat,HT.sIx_none]
 by_cases h:k<=xs.length
 ·rw [ap1 h,ag0 (by rw [ag1];omega)]
 ·rw [Nat.min_eq_right (),List.drop_of_length_le (aa8 _),List.drop_of_length_le (),List.take_nil]
theorem dJ(xs:List V)(k:Nat):nZ xs none (some (k:Int))=xs.take k:=by
 unfold nZ HT.sIx
 have e:¬((k:Int) < 0):=by omega
 simp [e]
theorem om(i:Int):∀D:List Int,Af (.int i) (D.map V.int)=decide (i∈D)
 | []=>rfl
 | d::D=>by
  have ih:=om i D
  have e:Af (.int i) ((d::D).map V.int)=((d == i) || Af (.int i) (D.map V.int)):=rfl
  rw [e,ih,af4,aj8,beq_iff_eq,decide_eq_true_eq,decide_eq_true_eq,ab0];exact⟨λh=>h.imp Eq.symm id,λh=>h.imp Eq.symm id⟩
theorem gr{D:List Int}(h:aH K H a (D.map V.int))(q:Q (.bl (decide (i∈D))) H):vY K (.int i) (.ref a) H Q:=by
 refine .inr ⟨a,_,rfl,.inl h,rfl,?_,?_⟩
 ·rw [ah9];exact af6.mpr λ_ _=>rfl
 ·rw [om];exact q
theorem aH.at_ins{q x dx:Addr}{fs:List (Str×V)}{o:HO}(h:aH K H q xs)(hx:H x=some (.ins C dx fs)):aH K (upd H x o) q xs:=by
 rcases h with(h | ⟨u,h⟩) | h
 ·exact .inl (.inl (by rw [aj (dF h hx (by intro z;cases z))];exact h))
 ·exact .inl (.inr ⟨u,by rw [aj (dF h hx (by intro z;cases z))];exact h⟩)
 ·exact .inr h
theorem fK{x l:Addr}{A L B:HO}:upd (upd (upd H x A) l L) x B=upd (upd H l L) x B:=by
 funext b
 unfold upd
 by_cases h:b=x
 ·rw [if_pos h,if_pos h]
 ·rw [if_neg h,if_neg h,if_neg h]
structure aZ(K:Frag)(C:Addr)(m qual:Str)(st:Stmt)(f:Addr)(fd:FuncData):Prop where
 me:Ek K C m f
 fn:bV K m qual st f fd
theorem methAt_mk(a:findIn K (.ref C) m=some (some (.ref f)))(i:PySem.W.isFn K (.ref f)=true)
  (l:K.lookup f=some ⟨oc,od,.func (fnOf m qual (cz st) (bX st) (ak st) .none kV doc pm an cdv ct),osl⟩) (c:codeIn K cdv qual=true) (k:keepIn K (.ref f)=true):∃f fd,aZ K C m qual st f fd:=
 ⟨f,_,⟨a,i,k⟩,fun_mk l c k⟩
theorem aZ.ok(A:aZ K C m qual st f fd)(cl:vm K C)(ok:aK P w K mg base bP k f fd ps sp)(b:dm K fd ps []):aG P w K mg base C m k ps sp:=⟨cl,f,fd,A.me,ok,b⟩
structure kJ(K:Frag)(x m qual:Str)(st:Stmt)(C f:Addr)(fd:FuncData):Prop where
 ns:nsIn K mainGlobals x=some (some (.ref C))
 cm:DL K C m f
 fn:bV K m qual st f fd
theorem cmethAt_mk(n:nsIn K mainGlobals x=some (some (.ref C)))(r:PySem.W.readsIn K C (.type "type")=true)(a:PySem.W.findCls K (.ref C) (.type "type") m=some (.val (.ref f)))
  (g:PySem.W.specialIn K (.ref C) "__getattribute__"=some (some (.builtin "type.__getattribute__")))
  (l:K.lookup f=some ⟨oc,od,.func (fnOf m qual (cz st) (bX st) (ak st) .none kV doc pm an cdv ct),osl⟩) (c:codeIn K cdv qual=true) (k:keepIn K (.ref f)=true):∃C f fd,kJ K x m qual st C f fd:=
 ⟨C,f,_,n,⟨r,a,g,k⟩,fun_mk l c k⟩
theorem kJ.df{h:Heap}(A:kJ K x m qual st C f fd)(X:K.In h)(G:h.Ns mainGlobals mg)(ok:aK P w K mg base bP k f fd ps sp)(b:dm K fd ps []):i5 P w K mg base x m k ps sp:=
 ⟨C,f,fd,mg_of X G A.ns,A.cm,ok,b⟩
structure ke(K:Frag)(x qual:Str)(st:Stmt)(C f:Addr)(fd:FuncData):Prop where
 ns:nsIn K mainGlobals x=some (some (.ref C))
 mm:Mk K C f
 fn:bV K "__init__" qual st f fd
theorem mkAt_mk(n:nsIn K mainGlobals x=some (some (.ref C)))(mk:PySem.W.makesIn K C=true)(a:findIn K (.ref C) "__init__"=some (some (.ref f)))(i:PySem.W.isFn K (.ref f)=true)(kc:keepIn K (.ref C)=true)
  (l:K.lookup f=some ⟨oc,od,.func (fnOf "__init__" qual (cz st) (bX st) (ak st) .none kV doc pm an cdv ct),osl⟩) (c:codeIn K cdv qual=true) (k:keepIn K (.ref f)=true):∃f fd,ke K x qual st C f fd:=
 ⟨f,_,n,⟨mk,a,i,kc⟩,fun_mk l c k⟩
theorem ke.df{h:Heap}(A:ke K x qual st C f fd)(X:K.In h)(G:h.Ns mainGlobals mg)(ok:aK P w K mg base bP k f fd ps sp)(b:dm K fd ps []):i6 P w K mg base x C k ps sp:=
 ⟨f,fd,A.mm,ok,mg_of X G A.ns,b⟩
theorem ml(c:Nat)(a b:List Nat)(ps:List (List Nat)):dv c (a::b::ps)=a++c::dv c (b::ps):=by simp [dv]
theorem Eu{k:Int}(h0:0<=k)(h1:k < n):zt n k=some k.toNat:=by
 unfold zt;obtain⟨j,rfl⟩:=ae0 h0;simp;omega
theorem DI{n:Int}(h:n.natAbs < 10 ^ 40):n.natAbs.log2 < 1920:=by
 by_cases h0:n.natAbs=0
 ·rw [h0];decide
 ·exact(Nat.log2_lt h0).mpr (ab2 h (by decide +kernel))
theorem dG{n:Int}(h:n.natAbs < 10 ^ 40):(aW n).length<=41:=by
 rw [bq];exact gq (n:=n) (k:=40) ∅ h
theorem AL{us:List Int}{v:Int}(h1:0<=v)(h2:v < us.length):fV (us.map V.int) v=some (.int (aF us (v+1))):=by
 have:=ux (us:=us) (v:=v+1) () ()
 rwa [show v+1 - 1=v by omega]at this
theorem rowsR{e:DictEntry}{t:Tok}{es:List DictEntry}(h1:e.key=.str x t)(h2:e.val=.ref f)(r:KTD.Rows aX es D):KTD.Rows aX (e::es) ((x,V.ref f)::D):=.cons h1 h2 r
theorem tab_mk{es:Array DictEntry}{ep:Nat}(l:K.lookup a=some o)(s:(a == sysModules)=false)(x:o.cls=.type "dict")(y:o.dict=none)(z:o.slots=#[])(d:o.data=.dict es ep)(r:KTD.Rows aX es.toList D):l6 K a D:=⟨s,o,es,ep,l,⟨x,y,z⟩,d,r⟩
theorem defAtD_mk2{v:V}(a:nsIn K mainGlobals x=some (some (.ref f)))
  (l:K.lookup f=some ⟨oc,od,.func (fnOf x x (cz st) (bX st) (ak st) (.ref T) kV doc pm an cdv ct),osl⟩) (c:codeIn K cdv x=true) (k:keepIn K (.ref f)=true)
  (t:K.lookup T=some o) (d:o.data=.seq #[u] n) (r:aX v u):∃f fd u,zy K x st f fd u/\aX v u:=
 ⟨f,_,u,⟨a,T,o,n,⟨⟨oc,od,kV,doc,pm,an,cdv,ct,osl,rfl,l,c⟩,k⟩,t,d⟩,r⟩
theorem p7:cO X (.type "str") (λxs H Q=>∃z,xs=[.str z]/\Q (.str z) H):=by
 rintro pins s Z H xs us Q I r ⟨z,rfl,q⟩;obtain⟨u,rfl,ru⟩:=eZ r;obtain⟨t,rfl⟩:=ru;exact P.str_of_str ⟨.str z,H,I,⟨t,rfl⟩,q⟩
def v5:List V->Hp->VK->Prop:=λxs H Q=>(∃i,xs=[.int i]/\i.natAbs.log2 < 1920/\Q (.str (aW i)) H)\/∃z,xs=[.str z]/\Q (.str z) H
theorem jK:cO X (.type "str") v5:=call_str_int.or p7
theorem rStr_i:v5 [.int i] H Q↔i.natAbs.log2 < 1920/\Q (.str (aW i)) H:=by simp [v5]
theorem rStr_s:v5 [.str z] H Q↔Q (.str z) H:=by simp [v5]
theorem Bo(nb:∀n∈ns,n.natAbs < 10 ^ 40)(nl:ns.length<=20)(ks:32∉kind.cps.toList)(kl:kind.length<=20)(k0:kind.cps.toList≠[]):gj (Txt.join (Str.ofString " ") (kind::ns.map aW)) kind ns:=by
 have e32:(Str.ofString " ")=⟨#[32]⟩:=by decide +kernel
 refine⟨?_,nb,nl,ks,kl,k0⟩;rw [e32,cZ,ad0,ai7];rfl
end L2
namespace L3
open PySem PySem.Spec PyProof.Rows
section
variable {prog:Program} {w:World} {A:Around} {E:Value->Shared->Prop} {s:Shared}
end
end L3
namespace L2
open PySem PySem.Spec PyProof.Rows
def Hj(K:Frag)(n:Nat)(t:Cg):TG:=λv Z H Q=>∃a l xs,v=.ref a/\iS K l H a xs/\xs.length=n/\t xs Z H Q
theorem eD{K:Frag}{H:Hp}{a:Addr}{i:Int}{D:List Int}{Q:VK}(h:aH K H a (D.map V.int))(q:Q (.bl (!decide (i∈D))) H):jS K (.int i) (.ref a) H Q:=by
 refine .inr ⟨a,_,rfl,.inl h,rfl,?_,?_⟩
 ·rw [ah9];exact af6.mpr λ_ _=>rfl
 ·rw [om];exact q
theorem jJ{α:Type}{xs:List α}{v:α}{n:Nat}(hl:xs.length=n+1)(h:xs[n]?=some v):fV xs (-1)=some v:=by
 unfold fV zt;rw [if_neg ∅,if_pos (),hl];show xs[((-1:Int)+((n+1:Nat):Int)).toNat]?=some v;rw [show((-1:Int)+((n+1:Nat):Int)).toNat=n by omega];exact h
section
variable {X:Cx} {e st:Expr} {te:TE} {p2 pos:Pos}
def HA(K:Frag)(te ts:TE):TE:=λZ H Q=>te Z H λx H1=>ts Z H1 λy H2=>y=.int (-1)/\∃a xs,x=.ref a/\aH K H2 a xs/\∀p,H2 p=none->Q (.ref p) (upd H2 p (.lst xs.reverse))
end
def dE(B:Nat->Bool)(i:Nat):Nat->Option Nat
 | 0=>none
 | k+1=>if B i=true then some i else dE B (i+1) k
theorem fH(B:Nat->Bool):∀(k i:Nat),dE B i (k+1)=match dE B i k with | some j=>some j | none=>if B (i+k)=true then some (i+k)else none
 | 0,i=>by simp [dE]
 | k+1,i=>by
  have ih:=fH B k (i+1);rw [dE,ih]
  by_cases hb:B i=true
  ·simp [dE,hb]
  ·rw [if_neg hb]
   simp only [dE];rw [if_neg hb,show i+1+k=i+(k+1)by omega]
def ig(cols:List (List Int)):Nat->Option (List Int)
 | 0=>none
 | i+1=>cols[i]?
structure Walks(S:bS)(cols:List (List Int))(mem:Nat->Int)(B:Nat->Bool):Prop where
 m0:S.start=mem 0
 st:∀(i:Nat) (us:List Int),cols[i]?=some us->S.after (mem i) (ig cols i) us=if B i=true then none else some (mem (i+1))
theorem Bn{x kind:Str}{a b:Int}(hx:x.cps.toList=kind.cps.toList++[32])(na:a.natAbs < 10 ^ 40)(nb:b.natAbs < 10 ^ 40)(ks:32∉kind.cps.toList)(kl:kind.length<=20)(k0:kind.cps.toList≠[]):gj (x++aW a++Str.ofString " " ++ aW b) kind [a,b]:=by
 refine⟨?_,λn hn=>?_,by simp,ks,kl,k0⟩
 ·have e32:(Str.ofString " ").cps.toList=[32]:=by decide +kernel
  have ea:∀u v:Str,(u++v).cps.toList=u.cps.toList++v.cps.toList:=λu v=>by
   show(u.cps++v.cps).toList=_;rw [ah1]
  rw [ea,ea,ea,hx,e32];simp only [ad0,ah3,dv];simp;rfl
 ·rcases ab0.mp hn with rfl | hn
  ·exact na
  ·rw [ac1.mp hn];exact nb
end L2
namespace L3
open PySem PySem.Spec PyProof.Rows L2 HT
section
variable {prog:Program} {w:World} {A:Around} {E:Value->Shared->Prop} {s:Shared}
theorem cat_tup0{t b:Addr}{ws:List Value}{Q:Value->Shared->Prop}(ht:IsTup s.heap t (List.toArray []))(hb:IsTup s.heap b ws.toArray)
  (h1:Q (.ref b) s):wpAny (model prog w) A (binaryOp .Add (.ref t) (.ref b)) Q E s:=by
 obtain⟨⟨cls,dd,data,sl⟩,ho,hc,n,hd⟩:=id ht;obtain⟨⟨cls2,dd2,data2,sl2⟩,ho2,hc2,n2,hd2⟩:=id hb;simp only at hc hd hc2 hd2;subst hc hd hc2 hd2
 exact concat_meets ⟨_,ho,rfl⟩ ⟨_,ho2,rfl⟩ noFill_tuple_add seq_tuple_add PySem.F.slot_tuple_add PySem.F.entry_tuple_add (PySem.F.args_tuple_add_2 _ _)
   (tuple_addW0 t b #[] ws.toArray n n2 dd dd2 sl sl2 (by simp)) ⟨ho,ho2,h1⟩
end
end L3
namespace L2
open PySem PySem.Spec PyProof.Rows
variable {A:Around} {D:jT} {E:Value->Shared->Prop} {H:Hp} {K:Frag} {Q:VK} {X:Cx} {a:Addr} {i j t u:Int} {prog:Program} {rest z:Str} {w:World} {x y:V} {xs:List V}
def Bg(K:Frag):R2:=λx y H Q=>∃a b ys,x=.ref a/\y=.ref b/\cM K H a []/\cM K H b ys/\Q (.ref b) H
theorem Df:dY X (binaryOp .Add) (Bg X.K):=by
 rintro pins s Z H x y v u Q I rx ry ⟨a,b,ys,rfl,rfl,ha,hb,q⟩;cases rx;cases ry;obtain⟨its,r1,p1,_⟩:=I.tuple ha;obtain⟨its2,r2,p2,_⟩:=I.tuple hb;cases r1;exact L3.cat_tup0 p1 p2 ⟨.ref b,H,I,rfl,q⟩
def jn(K:Frag):R2:=λx y H Q=>eY K x y H Q\/Bg K x y H Q
theorem EM(K:Frag)(h:X.K=K:=by rfl):dY X (binaryOp .Add) (jn K):=by
 subst h;exact opAdd.or Df
theorem Bf{K:Frag}:jn K (.int i) (.int j) H Q↔Q (.int (i+j)) H:=by
 simp [jn,oY,Bg]
theorem Ao(K:Frag):oz (jn K)=jn K:=xj λ_ _ _ _=>Bf
theorem CJ{K:Frag}:oz (jn K) x y H Q↔jn K x y H Q:=by rw [Ao]
theorem xq(K:Frag)(h:X.K=K:=by rfl):dY X (binaryOp .Add) (oz (jn K)):=by rw [Ao];exact EM K h
theorem uN{K:Frag}{b:Addr}{ys:List V}(ha:H a=some (.tup xs))(hb:H b=some (.tup ys))(hz:xs.length+ys.length<=sizeLine)(q:∀p H',av H H'->H' p=some (.tup (xs++ys))->Q (.ref p) H'):jn K (.ref a) (.ref b) H Q:=by
 by_cases hx:xs=[]
 ·subst hx
  exact .inr ⟨a,b,ys,rfl,rfl,cM.of ha,cM.of hb,q b H (av.refl H) hb⟩
 ·refine .inl (.inr (.inr (.inr ⟨a,b,xs,ys,rfl,rfl,cM.of ha,cM.of hb,hx,hz,λe=>?_,λ_ p hp=>q p _ (au hp) af⟩)))
  subst e;exact q a H (av.refl H) (by rw [af1];exact ha)
def Itd(lo:Int)(n:Nat):It:=⟨λi _=>i < n,λi H x H'=>H'=H/\x=.int (lo - i),λi _=>n<=i⟩
section
variable {tg:Expr}
def F4(ta:TA):TI:=λZ H R=>ta Z H λvs H1=>∃i j:Int,vs=[.int i,.int j,.int (-1)]/\(-(2 ^ 62)<=i/\i < 2 ^ 62/\-(2 ^ 62)<=j/\j < 2 ^ 62)/\R (Itd i (i - j).toNat) H1
end
theorem j8:∀{ns:List Int} {us:List Value},bh (ns.map V.int) us->∃ps:List (Int×Tok),us=ps.map (λp=>Value.int p.1 p.2)/\ps.map (·.1)=ns
 | [],_,.nil=>⟨[],rfl,rfl⟩
 | n::ns,_,.cons r t=>by
  obtain⟨ps,e1,e2⟩:=j8 t;obtain⟨tk,rfl⟩:=r;exact⟨(n,tk)::ps,by rw [e1];rfl,by rw [<-e2];rfl⟩
theorem yf(hc:X.calm=true)(K:Frag)(hK:X.K=K:=by rfl):cO X (.builtin "min") (λxs H Q=>∃p ns,xs=[.ref p]/\aH K H p (List.map V.int ns)/\ns≠[]/\∀i∈ns,Q (.int i) H):=by
 subst hK;rintro pins s Z H xs us Q I r ⟨p,ns,rfl,hp,hne,q⟩;obtain⟨u,rfl,ru⟩:=eZ r;cases ru;obtain⟨its,rv,ht,_⟩:=I.list hp;obtain⟨ps,e1,e2⟩:=j8 rv
 have hl:s.heap.IsList p (intItems ps.toArray):=by
  have:=ht.isList
  rw [e1]at this;simpa [intItems]using this
 refine min_intList (I.ok.hd hc) hl (by
  rw [ab1]
  have:ps.length=ns.length:=by rw [<-e2,aa0]
  have:ns.length≠0:=λz=>hne (af7.mp z)
  omega) λv h' tk hv hk=>?_
 simp only [intItems,List.map_toArray,List.getElem?_toArray,aa4,Option.map_eq_some_iff]at hv;obtain⟨⟨a,t⟩,ha,rfl⟩:=hv;refine⟨.int a,H,I.kept (t':=tk) λb o e=>hk b o e,⟨t,rfl⟩,q a ?_⟩;rw [<-e2];exact List.mem_map_of_mem (f:=λp:Int×Tok=>p.1) (ac0 ha)
def g8(c:Nat):Nat->List Nat->List (List Nat)
 | 0,l=>[l]
 | _+1,[]=>[[]]
 | n+1,a::l=>if a=c then []::g8 c n l else match g8 c (n+1) l with
  | []=>[[a]]
  | p::r=>(a::p)::r
theorem tQ(c:Nat):∀n l,g8 c n l≠[]
 | 0,l=>by simp [g8]
 | n+1,[]=>by simp [g8]
 | n+1,a::l=>by
  simp only [g8]
  split
  ·simp
  ·split<;>simp
theorem jP(x:Str)(c:Nat)(lim:Nat):∀(l:List Nat) (i:Nat) (acc:Array Nat) (fr:Nat),x.cps.toList.drop i=l->fr<=i->
  (forIn (List.range' i (l.length+1)) (acc,fr) (StrLaws.occBody x ⟨#[c]⟩ x.length lim)).run.fst.toList=acc.toList++(dX c l i).take (lim - acc.size)
 | [],i,acc,fr,hl,hf=>by
  have hi:x.length<=i:=by
   rw [bq];exact aj1.mp hl
  show(forIn [i] (acc,fr) _:Id _).run.fst.toList=_;rw [af5];unfold StrLaws.occBody;rw [if_neg (by intro h;have:=h.1.2;have e1:(⟨#[c]⟩:Str).length=1:=rfl;rw [e1]at this;omega)];show acc.toList=_;simp [dX]
 | b::l,i,acc,fr,hl,hf=>by
  have hb:x.cps.toList[i]?=some b:=by
   have:(x.cps.toList.drop i)[0]?=some b:=by rw [hl];rfl
   rwa [af0,ao6]at this
  have hi:i < x.length:=by
   rw [bq];obtain⟨h,_⟩:=aa1.mp hb;exact h
  have hd:x.cps.toList.drop (i+1)=l:=by
   rw [<-ak8,hl];rfl
  have e1:(⟨#[c]⟩:Str).length=1:=rfl;show(forIn (i::List.range' (i+1) (l.length+1)) (acc,fr) _:Id _).run.fst.toList=_;rw [af5];unfold StrLaws.occBody
  by_cases hc:b=c
  ·by_cases hs:acc.size < lim
   ·rw [if_pos ⟨⟨⟨hs,hf⟩,by rw [e1];omega⟩,((StrLaws.subAt_one x c i).mpr (by rw [hb,hc])).2⟩]
    show(forIn (List.range' (i+1) (l.length+1)) (acc.push i,i+1) (StrLaws.occBody x ⟨#[c]⟩ x.length lim):Id _).run.fst.toList=_;rw [jP x c lim l (i+1) _ _ hd (aa8 _),Array.size_push];simp only [dX,hc,if_true];rw [show lim - acc.size=(lim - (acc.size+1))+1 by omega,am4];simp
   ·rw [if_neg (λh=>hs h.1.1.1)]
    show(forIn (List.range' (i+1) (l.length+1)) (acc,fr) (StrLaws.occBody x ⟨#[c]⟩ x.length lim):Id _).run.fst.toList=_;rw [jP x c lim l (i+1) _ _ hd ()];rw [show lim - acc.size=0 by omega];simp
  ·rw [if_neg (λh=>hc (by have:=(StrLaws.subAt_one x c i).mp ⟨h.1.2,h.2⟩;rw [hb]at this;exact Option.some.inj this))]
   show(forIn (List.range' (i+1) (l.length+1)) (acc,fr) (StrLaws.occBody x ⟨#[c]⟩ x.length lim):Id _).run.fst.toList=_;rw [jP x c lim l (i+1) _ _ hd ()];simp [dX,hc]
theorem AO(x:Str)(c n:Nat):Builtin.Str.occurrences x ⟨#[c]⟩ 0 x.length n=(dX c x.cps.toList 0).take n:=by
 rw [StrLaws.occ_eq]
 have e:x.length+1 - 0=x.cps.toList.length+1:=by rw [bq];rfl
 rw [e];have h:=jP x c n x.cps.toList 0 #[] 0 rfl (aa8 _);rw [h];rfl
theorem jl(x:Str)(c:Nat):∀(l:List Nat) (n a j:Nat),a<=j->x.cps.toList.drop j=l->j<=x.length->
  (StrLaws.partsFrom x 1 a ((dX c l j).take n)).map (λz=>z.cps.toList)=match g8 c n l with
   | []=>[]
   | p::r=>((x.cps.toList.drop a).take (j - a)++p)::r
 | l,0,a,j,haj,hl,hj=>by
  simp only [List.take_zero,g8,StrLaws.partsFrom,ad0,ah3,StrLaws.strSub_toList];congr 1;rw [ag0 (by rw [ag1,bq];omega)]
  have:=List.take_append_drop (j - a) (x.cps.toList.drop a)
  rw [ak8,show a+(j - a)=j by omega,hl]at this;exact this.symm
 | [],n+1,a,j,haj,hl,hj=>by
  have hj':x.length<=j:=by rw [bq];exact aj1.mp hl
  have e:j=x.length:=by omega
  subst e;simp [dX,g8,StrLaws.partsFrom,StrLaws.strSub_toList]
 | b::l,n+1,a,j,haj,hl,hj=>by
  have hb:x.cps.toList[j]?=some b:=by
   have:(x.cps.toList.drop j)[0]?=some b:=by rw [hl];rfl
   rwa [af0,ao6]at this
  have hi:j < x.length:=by
   rw [bq];obtain⟨h,_⟩:=aa1.mp hb;exact h
  have hd:x.cps.toList.drop (j+1)=l:=by
   rw [<-ak8,hl];rfl
  by_cases hc:b=c
  ·have ih:=jl x c l n (j+1) (j+1) (aa8 _) hd hi
   simp only [dX,hc,if_true,am4,StrLaws.partsFrom,ad0,g8,af1];rw [ih]
   cases hs:g8 c n l with
   | nil=>exact absurd hs (tQ c n l)
   | cons p r=>simp [StrLaws.strSub_toList]
  ·have ih:=jl x c l (n+1) a (j+1) () hd hi
   simp only [dX,hc,if_false,g8];rw [ih]
   cases hs:g8 c (n+1) l with
   | nil=>exact absurd hs (tQ c (n+1) l)
   | cons p r=>
    have ht:(x.cps.toList.drop a).take (j+1 - a)=(x.cps.toList.drop a).take (j - a)++[b]:=by
     have e1:j+1 - a=(j - a)+1:=by omega
     rw [e1,ac5,af0]
     have e2:a+(j - a)=j:=by omega
     rw [e2,hb];rfl
    simp [ht]
theorem lW(c n:Nat)(rest:List Nat):∀(p:List Nat),c∉p->g8 c (n+1) (p++c::rest)=p::g8 c n rest
 | [],_=>by simp [g8]
 | a::p,h=>by
  have h1:¬a=c:=λe=>h (by simp [e]);have ih:=lW c n rest p (λe=>h (by simp [e]));show g8 c (n+1) (a::(p++c::rest))=_;simp only [g8,h1,if_false];rw [ih]
theorem uL(c:Nat)(rest:List Nat):∀(p:List Nat) (i:Nat),dX c (p++c::rest) i≠[]
 | [],i=>by simp [dX]
 | a::p,i=>by
  show dX c (a::(p++c::rest)) i≠[];simp only [dX]
  split
  ·simp
  ·exact uL c rest p (i+1)
def jk(z:Str)(c k:Nat):List Str:=Builtin.Str.partsBetween z ((dX c z.cps.toList 0).take k) 1
theorem sZ(z:Str)(c k:Nat):(jk z c k).map (λy=>y.cps.toList)=g8 c k z.cps.toList:=by
 unfold jk;rw [StrLaws.partsBetween_eq,jl z c z.cps.toList k 0 0 (aa8 _) rfl (ac2 _)]
 cases hs:g8 c k z.cps.toList with
 | nil=>exact absurd hs (tQ c k _)
 | cons p r=>simp
theorem yK:Ce X "str.split" (λx xs H Q=>∃z c k,x=.str z/\xs=[.str ⟨#[c]⟩,.int k]/\c < 256/\0 < k/\k < 2 ^ 30/\dX c z.cps.toList 0≠[]/\z.length < sizeLine/\(jk z c k.toNat).length<=sizeLine/\∀p,H p=none->Q (.ref p) (upd H p (.lst ((jk z c k.toNat).map V.str)))):=by
 rintro pins s Z H x xs v us Q I rx r ⟨z,c,k,rfl,rfl,hc,k0,k1,hne,hz,hlen,q⟩;obtain⟨t,rfl⟩:=rx;obtain⟨u,u2,rfl,⟨t',rfl⟩,⟨t2,rfl⟩⟩:=vk r
 have ek:Builtin.Str.strKind ⟨#[c]⟩=1:=by simp [Builtin.Str.strKind,hc]
 have ek2:1<=Builtin.Str.strKind z:=by unfold Builtin.Str.strKind;split<;>(try split)<;>omega
 have hzl:1<=z.length:=by
  rw [bq]
  cases hz':z.cps.toList with
  | nil=>rw [hz']at hne;exact absurd rfl hne
  | cons a l=>simp
 have h1:(decide (z.length < (⟨#[c]⟩:Str).length) || decide (Builtin.Str.strKind z < Builtin.Str.strKind ⟨#[c]⟩))=false:=by
  rw [ek];have e1:(⟨#[c]⟩:Str).length=1:=rfl;rw [e1,decide_eq_false (),decide_eq_false ()];rfl
 have hk:(decide (k < -(2 ^ 63:Int)) || decide (k>=2 ^ 63))=false:=by
  rw [decide_eq_false (),decide_eq_false ()];rfl
 have el:Builtin.Str.occurrences z ⟨#[c]⟩ 0 z.length (PySem.limitOf z k)=(dX c z.cps.toList 0).take k.toNat:=by
  rw [AO];unfold PySem.limitOf;rw [if_neg ()]
 have hf:(Builtin.Str.occurrences z ⟨#[c]⟩ 0 z.length (PySem.limitOf z k)).isEmpty=false:=by
  rw [el]
  cases hp:dX c z.cps.toList 0 with
  | nil=>exact absurd hp hne
  | cons a l=>rw [show k.toNat=(k.toNat - 1)+1 by omega];rfl
 have ep:Builtin.Str.partsBetween z (Builtin.Str.occurrences z ⟨#[c]⟩ 0 z.length (PySem.limitOf z k)) (⟨#[c]⟩:Str).length=jk z c k.toNat:=by rw [el];rfl
 have fin:∀(its:List Value) (tk:Nat),bh ((jk z c k.toNat).map V.str) its->EP X pins Z Q (.ref s.heap.objs.size) { s with toks:=tk,heap:=s.heap.push { cls:=.type "list",data:=.seq its.toArray } }:=λits tk rv=>
  ⟨.ref s.heap.objs.size,_,I.laid (t':=tk) (o:=.lst ((jk z c k.toNat).map V.str)) (λb ob q=>aa5 _ q) (aa8 _) ⟨by rw [aa0];exact hlen,its,0,rv,ab8 _ rfl⟩,rfl,q _ (I.hok.fresh (aa8 _))⟩
 rw [<-ep]at fin hlen;exact call_meets F.slot_str_split (typeIs_str _ _ _) F.entry_str_split (F.args_str_split_3 _ _ _) (meets_str_split_sep_max z ⟨#[c]⟩ k t t' t2 hk h1 rfl hf (ah2 hz) hlen) (fin _ _ (mU _ _))
def zB(K:Frag)(a:Addr)(xs:List V):Prop:=∃(o:Obj) (its:Array Value) (n:Nat),K.lookup a=some o/\o.cls=.type "tuple"/\o.data=.seq its n/\its.size<=sizeLine/\bh xs its.toList
theorem zB.at{K:Frag}(h:zB K a xs)(H:Hp):cM K H a xs:=.inr h
theorem ktup_mk{K:Frag}{o:Obj}{its:Array Value}{n:Nat}(l:K.lookup a=some o)(x:o.cls=.type "tuple")(d:o.data=.seq its n)(z:its.size<=sizeLine)(r:bh xs its.toList):zB K a xs:=⟨o,its,n,l,x,d,z,r⟩
theorem wL(z y:Str){rest:List Nat}(h:z.cps.toList=y.cps.toList++rest):Txt.startswith z y=true:=by
 obtain⟨⟨l⟩⟩:=z;obtain⟨⟨m⟩⟩:=y;simp at h;subst h
 unfold Txt.startswith
 rw [StrLaws.subAt_eq];simp [Str.length]
structure nT(z rest:Str)(t u:Int):Prop where
 cs:z.cps.toList=(Str.ofString "every").cps.toList++32::(iu t++32::(iu u++32::rest.cps.toList))
 tb:t.natAbs < 10 ^ 40
 ub:u.natAbs < 10 ^ 40
 rl:rest.length<=10000
theorem nT.split(R:nT z rest t u):jk z 32 3=[Str.ofString "every",aW t,aW u,rest]:=by
 refine fC ?_;rw [sZ,R.cs,lW 32 2 _ _ (by decide +kernel),lW 32 1 _ _ (nN t),lW 32 0 _ _ (nN u)];simp only [g8,ad0,ah3];rfl
theorem nT.pos(R:nT z rest t u):dX 32 z.cps.toList 0≠[]:=by
 rw [R.cs];exact uL 32 _ _ 0
theorem nT.len(R:nT z rest t u):z.length<=20000:=by
 rw [bq,R.cs];have h1:=gq (n:=t) (k:=40) ∅ R.tb;have h2:=gq (n:=u) (k:=40) ∅ R.ub;have h3:=R.rl;rw [bq]at h3
 have h4:(Str.ofString "every").cps.toList.length=5:=by decide +kernel
 simp only [ab4,ad6];omega
theorem nT.starts(R:nT z rest t u):Txt.startswith z (Str.ofString "every ")=true:=by
 refine wL z _ (rest:=iu t++32::(iu u++32::rest.cps.toList)) ?_;rw [R.cs,show(Str.ofString "every ").cps.toList=(Str.ofString "every").cps.toList++[32]by decide +kernel,ak5];rfl
def rW:V->Str
 | .str z=>z
 | .int n=>aW n
 | _=>Str.ofString ""
def FP(x:V):Prop:=(∃z,x=.str z)\/∃n:Int,x=.int n/\n.natAbs < 10 ^ 40
theorem tW{K:Frag}{Z:St}{F:List V->Hp->Prop}{q:Addr}(h:aH K H q xs)(hw:∀x∈xs,FP x)(nl:xs.length<=100)(hd:F ((xs.map rW).map V.str) H):
  qU (0+1) [] (iV 0) BF (Fd v5 (rR (Fj 0) wU)) Z F (zA K q) H:=by
 have hs:=sizeLine_eq;refine bW (xs:=xs) (λi ys H'=>ys=((xs.map rW).take i).map V.str/\H=H') () ⟨rfl,rfl⟩ ?_ ?_ ?_ ?_
 ·rintro i ys H' ⟨rfl,rfl⟩
  rw [aa0,ac3];omega
 ·rintro i ys H' ⟨rfl,rfl⟩
  exact h
 ·rintro i x ys H' hx ⟨rfl,rfl⟩
  have fin:∀v:Str,rW x=v->((xs.map rW).take i).map V.str++[V.str v]=((xs.map rW).take (i+1)).map V.str:=λv e=>by
   rw [ac5,aa4,hx,ab3,<-e];rfl
  rcases hw x (ac0 hx)with⟨z,rfl⟩ | ⟨n,rfl,hn⟩
  ·simp only [iT,Fd,rR,Fj,rJ,wU,iV,BF,Zr,List.getElem?_cons_zero,List.set_cons_zero,Option.some.injEq,exists_eq_left',rStr_s,List.replicate,an9,ah3,if_true]
   exact⟨fin _ rfl,trivial⟩
  ·simp only [iT,Fd,rR,Fj,rJ,wU,iV,BF,Zr,List.getElem?_cons_zero,List.set_cons_zero,Option.some.injEq,exists_eq_left',rStr_i,List.replicate,an9,ah3,if_true]
   exact⟨DI hn,fin _ rfl,trivial⟩
 ·rintro ys H' ⟨rfl,rfl⟩
  rw [ag0 (by simp)];exact hd
theorem uP{K:Frag}{ws:List Str}(h:cM K H a (ws.map V.str))(q:Q (.bl (!decide (z∈ws))) H):jS K (.str z) (.ref a) H Q:=by
 have e:∀ws:List Str,Af (.str z) (ws.map V.str)=decide (z∈ws):=by
  intro ws
  induction ws with
  | nil=>rfl
  | cons d D ih=>
   have e:Af (.str z) ((d::D).map V.str)=((d == z) || Af (.str z) (D.map V.str)):=rfl
   rw [e,ih,af4,aj8,beq_iff_eq,decide_eq_true_eq,decide_eq_true_eq,ab0];exact⟨λh=>h.imp Eq.symm id,λh=>h.imp Eq.symm id⟩
 refine .inr ⟨a,_,rfl,.inr h,rfl,?_,?_⟩
 ·rw [ah9];exact af6.mpr λ_ _=>rfl
 ·rw [e];exact q
section
variable {tg:Expr}
end
theorem yu{k:V->Prop}{Z:L2.St}{i:Nat}:(Bm Z i k)=(∃v,Z[i]?=some (some v)/\k v):=propext nP
theorem yp{v:V}{k:Int->Prop}:(B9 v k)=(∃i,v=V.int i/\k i):=propext kY
theorem yo{v:V}{k:Bool->Prop}:(DO v k)=(∃i,v=V.bl i/\k i):=propext kX
theorem Cw:(zu tu x y H Q)=(tu x y H Q):=propext F6
theorem Cy:(D0 vZ x y H Q)=(vZ x y H Q):=propext F9
theorem yq:(oz (eY K) x y H Q)=(eY K x y H Q):=propext CI
theorem yt:(vJ (jo K) x y H Q)=(jo K x y H Q):=propext CL
theorem zR:(zu (lH K) x y H Q)=(lH K x y H Q):=propext Ey
theorem yr:(oz (jn K) x y H Q)=(jn K x y H Q):=propext CJ
theorem vB:(eY K (V.int i) (V.int j) H Q)=(Q (V.int (i+j)) H):=propext oY
theorem vC{i j:Str}:(eY K (V.str i) (V.str j) H Q)=(i.length+j.length<=sizeLine/\Q (V.str (i++j)) H):=propext Be
theorem vD:(jo K (V.int i) (V.int j) H Q)=(IntMulOk i j/\Q (V.int (i * j)) H):=propext uO
theorem zX{lo hi:Option Int}:(uQ K (V.str z) lo hi H Q)=(z.length<=sizeLine/\Q (V.str (Txt.slice z lo hi)) H):=propext E4
theorem Cz:(ny K (V.str z) (V.int i) H Q)=(z.length<=sizeLine/\∃c,fV z.cps.toList i=some c/\Q (V.str { cps:=#[c] }) H):=propext Gv
theorem zS:(tu (V.int i) (V.int j) H Q)=(Q (V.bl (decide (i=j))) H):=propext vW
theorem zV:(vZ (V.int i) (V.int j) H Q)=(Q (V.bl !decide (i=j)) H):=propext Bi
theorem zT{i j:Str}:(tu (V.str i) (V.str j) H Q)=(Q (V.bl (decide (i=j))) H):=propext vX
theorem zW{i j:Str}:(vZ (V.str i) (V.str j) H Q)=(Q (V.bl !decide (i=j)) H):=propext Bj
theorem zU{c:Nat}:(vY K (V.str { cps:=#[c] }) (V.str z) H Q)=(Q (V.bl (decide (c∈z.cps.toList))) H):=propext EY
theorem zY:(v5 [V.int i] H Q)=(i.natAbs.log2 < 1920/\Q (V.str (aW i)) H):=propext rStr_i
theorem zP{b k:Bool}:(Cj K (V.bl b) H k)=(k=b):=propext TruV_b
theorem CA:(GG K "str" (V.str z) H)=(True):=propext GH
theorem zQ{α:Sort u}{p:α->Prop}{a':α}:(∃a,a'=a/\p a)=p a':=propext exists_eq_left'
theorem Ep{α:Sort u}{a':α}:(∃a,a'=a)=True:=eq_true ⟨_,rfl⟩
theorem DT{α:Sort u}{p:α->Prop}{a':α}:(∃a,a=a'/\p a)=p a':=propext exists_eq_left
theorem DR{α:Sort u}{p:α->Prop}{b:Prop}:(∃x,b/\p x)=(b/\∃x,p x):=propext exists_and_left
theorem DQ{a b c:Prop}:((a/\b)/\c)=(a/\b/\c):=propext and_assoc
theorem DS{α:Sort u}:(∃_:α,False)=False:=eq_false exists_false
theorem cv{c:TT}{t w:TS}{Z:L2.St}(h:∀A B:Hp->Prop,(∀H,jF t w D Z H->A H)->(∀H,w D Z H->B H)->c Z H λb H1=>if b=true then A H1 else B H1):jF (BM c t xP) w D Z H:=h _ _ (λ_ x=>x) λ_ x=>x
theorem lz{t r w:TS}{Z:L2.St}(h:∀k:L2.St->Hp->Prop,(∀Z H,jF r w D Z H->k Z H)->t { D with nx:=k } Z H):jF (jF t r) w D Z H:=h _ λ_ _ x=>x
theorem iX{t r:TS}{Z:L2.St}(h:∀k:L2.St->Hp->Prop,(∀Z H,r D Z H->k Z H)->t { D with nx:=k } Z H):jF t r D Z H:=h _ λ_ _ x=>x
section
variable {R:Result->Shared->Prop} {it al bb:Addr} {items:Array Value} {G:Heap->Prop} {kf:Nat->List Int} {d:Value}
end
section
variable {s:Shared}
end
def EX:V->List V->Hp->VK->Prop:=λx vs H Q=>∃l ns c,x=.ref l/\vs=[.int c]/\H l=some (.lst (List.map V.int ns))/\Q (.int ((ns.countP λn=>n == c:Nat):Int)) H
def HG(c:Int):Value->Bool
 | .int k _=>k == c
 | _=>false
theorem nY(c:Int):∀{ns:List Int} {us:List Value},bh (ns.map V.int) us->us.countP (HG c)=ns.countP λn=>n == c
 | [],_,.nil=>rfl
 | n::ns,_,.cons r t=>by
  obtain⟨tk,rfl⟩:=r;rw [ao0,ao0,nY c t];rfl
theorem AF{ns:List Int}:∀{us:List Value},bh (ns.map V.int) us->∀u∈us,∃k t,u=.int k t:=by
 induction ns with
 | nil=>intro us r u hu;cases r;cases hu
 | cons n ns ih=>
  intro us r u hu
  cases r with
  | cons r t=>
   obtain⟨tk,rfl⟩:=r;rcases ab0.mp hu with rfl | hu
   ·exact⟨_,_,rfl⟩
   ·exact ih t u hu
theorem uq:Hb X "list.count" EX:=by
 rintro pins s Z H x vs v us Q I rx rv ⟨l,ns,c,rfl,rfl,hH,q⟩;cases rx;obtain⟨u,rfl,ru⟩:=rv.one;obtain⟨t,rfl⟩:=ru;obtain⟨z,its,n,r,hl,e⟩:=I.lstM hH;refine call_meets F.slot_list_count ⟨_,e,rfl⟩ F.entry_list_count (F.args_list_count_2 _ _) (SeqAt.list_countAt l its.toArray n none #[] (.int c t) (HG c)) ⟨e,λy hy=>?_,?_⟩
 ·obtain⟨k,tk,rfl⟩:=AF r y (by simpa using hy)
  exact SeqAt.EqAt.int_int k tk c t
 ·refine⟨.int _,H,I.tok _,⟨_,rfl⟩,?_⟩
  rw [show its.toArray.toList=its from rfl,nY c r];exact q
section
variable {s:Shared}
end
def intsFrom(a:Int)(n:Nat):List Int:=(List.range n).map λ(i:Nat)=>a+i
def DK(ta:TA):TE:=λZ H Q=>ta Z H λvs H1=>∃i j:Int,vs=[.int i,.int j]/\j - i<=1000/\∀l,H1 l=none->Q (.ref l) (upd H1 l (.lst ((intsFrom i (j - i).toNat).map V.int)))
def DJ(ta:TA):TE:=λZ H Q=>ta Z H λvs H1=>∃j:Int,vs=[.int j]/\j<=1000/\∀l,H1 l=none->Q (.ref l) (upd H1 l (.lst ((intsFrom 0 j.toNat).map V.int)))
end L2
namespace XE
open PySem
open Sem (wp)
section
variable {M:Model} {A:Around} {E:Value->Shared->Prop} {s:Shared}
end
section
variable {M:Model} {A:Around} {E:Value->Shared->Prop} {h:Heap} {g:Array GenState} {d:Drawn} {t:Nat} {os:OsState}
variable {nm q:Str} {C N:Addr} {bs bm bmB:List Value} {hdct:Bool} {sn:List Str} {sub:List Value} {ab:Bool} {col:Option Bool} {dd:Option Addr} {k0 k1 k2 k3 k5:Option Value} {B newId initId:String} {no:Str->Prop}
end
section
variable {prog:Program} {w:World} {A:Around} {E:Value->Shared->Prop} {h:Heap} {g:Array GenState} {d:Drawn} {t:Nat} {os:OsState}
variable {nm q:Str} {C N:Addr} {bs bm bmB:List Value} {hdct:Bool} {sn:List Str} {sub:List Value} {ab:Bool} {col:Option Bool} {dd:Option Addr} {k0 k1 k2 k3 k5:Option Value} {B newId initId:String}
end
section
variable {M:Model} {A:Around} {E:Value->Shared->Prop} {env:Env}
variable {nm q:Str} {C N:Addr} {bs bm:List Value} {hdct:Bool} {sn:List Str} {sub:List Value} {ab:Bool} {col:Option Bool} {dd:Option Addr} {k0 k1 k2 k3 k5:Option Value} {newId:String}
end
section
variable {prog:Program} {w:World} {A:Around} {E:Value->Shared->Prop} {s:Shared} {env:Env}
variable {nm q:Str} {C N:Addr} {bs bm:List Value} {hdct:Bool} {sn:List Str} {sub:List Value} {ab:Bool} {col:Option Bool} {dd:Option Addr} {k0 k1 k2 k3 k5:Option Value} {newId:String}
end
section
open Builtin Builtin.ObjectAttr
variable {prog:Program} {w:World} {A:Around} {E:Value->Shared->Prop} {h:Heap} {g:Array GenState} {d:Drawn} {t:Nat} {os:OsState}
variable {nm q:Str} {C N x:Addr} {bs bm bmB:List Value} {sn:List Str} {sub:List Value} {ab:Bool} {col:Option Bool} {dd:Option Addr} {k0 k1 k2 k3 k5:Option Value} {B newId sa owner:String}
 {mN mA:Str->Option Value} {name:Str} {v:Value} {no:Str->Prop}
end
section
open Builtin Builtin.ObjectAttr
variable {prog:Program} {w:World} {A:Around} {E:Value->Shared->Prop} {h:Heap} {g:Array GenState} {d:Drawn} {t:Nat} {os:OsState}
variable {nm q:Str} {C N a dx:Addr} {bs bm bmB:List Value} {sn:List Str} {sub:List Value} {ab:Bool} {col:Option Bool} {dd:Option Addr} {k0 k1 k2 k3 k5:Option Value} {B newId:String}
 {mN mA:Str->Option Value} {name:Str} {v:Value} {no:Str->Prop} {o:Obj} {vs:Array Value}
end
end XE
namespace L2
open PySem PySem.Spec PyProof.Rows
variable {A:Around} {C a d fI:Addr} {E:Value->Shared->Prop} {H:Hp} {P:Program} {X:Cx} {fs:List (Str×V)} {no:List Str} {pins:List (Addr×Obj)} {pos:Pos} {s:Shared} {w:World} {Z:St}
section
variable {h:Heap}
end
section
variable {T:Addr} {ts:List Addr} {fl:Value} {h':Heap}
end
section
variable {K:Frag} {mg:Str->Option Value} {base:Heap} {N:List Str} {qual:Str} {scope:Scope} {f:Addr} {cd:Value} {outer:List Env} {Zh:Shared} {Z2:Hp} {E:XK}
end
section
variable {h:Heap}
end
section
variable {f:Str}
end
section
variable {f x:Str} {o e value:Expr} {es:List Expr} {ta tv:TE} {t:TA} {pos' np cpos:Pos} {k:Nat} {fd:FuncData} {ps:List Str} {sp:Sp} {E:XK}
end
section
variable {scope:Scope} {own:List Str} {js:List Nat} {tg iter elt:Expr} {ifs:List Expr} {wi:TI} {g:TG} {tt:TT} {te:TE}
end
section
variable {e:Value}
end
section
variable {T L:Addr} {ts:List Addr} {M:Model} {Q:Unit->Shared->Prop}
end
section
variable {k:Nat} {f L:Addr} {fd:FuncData} {ps:List Str} {sp:Sp} {x y v n r:Str} {p cpos np vp hpos rp rn apos spos:Pos} {e:Expr} {es:List Expr} {t:TA} {iv ie ir:Nat}
end
end L2
namespace XE
open PySem
open Sem (wp)
section
variable {prog:Program} {w:World} {A:Around} {E:Value->Shared->Prop} {h:Heap} {g:Array GenState} {d:Drawn} {t:Nat} {os:OsState}
variable {nm q:Str} {C N a:Addr} {bs bm bmB:List Value} {sn:List Str} {sub:List Value} {ab:Bool} {col:Option Bool} {dd:Option Addr} {k0 k1 k2 k3 k5:Option Value} {B newId:String}
 {mN:Str->Option Value} {no:Str->Prop} {o:Obj} {vs:Array Value}
end
end XE
namespace L2
open PySem PySem.Spec PyProof.Rows
variable {A:Around} {C a d:Addr} {E:Value->Shared->Prop} {H H':Hp} {P:Program} {Q:Bool->Shared->Prop} {Ss:List bS} {X:Cx} {apos cpos p pos:Pos} {c:List Int} {cols:List (List Int)} {e tg:Expr} {es:List Expr} {h:Heap} {i j k:Nat} {ks x y:List (Option (List Int))} {pins:List (Addr×Obj)} {t:TA} {u v:Value} {vs:List Value} {w:World} {xs:List (List Int×Addr×V)} {α κ:Type}
section
variable {ps qs:List Str} {sp sq:Sp} {x y v n r f:Str} {np vp hpos rp rn spos:Pos} {o value:Expr} {ta:TE} {E:XK} {L:Addr} {no:List Str} {iv ie ir:Nat}
end
theorem x9(hc:X.calm=true):cO X (.builtin "any") (λxs H Q=>∃(p:Addr) (bs:List Bool),xs=[.ref p]/\aH X.K H p (bs.map V.bl)/\Q (.bl (bs.any id)) H):=by
 rintro pins s Z H xs us Q I r ⟨p,bs,rfl,hq,q⟩;obtain⟨u,rfl,ru⟩:=eZ r;cases ru;obtain⟨its,rv,pl,hz⟩:=I.list hq;have e:=kH rv;subst e;have hh:X.A.in1.handled=none:=I.ok.hd hc;refine call_any_walk (ak6 pl.isList ⟨s.heap.objs.size,[s.heap.objs.size,p],[s.heap.objs.size],_,_,_,λi=>bs.getD i true,rfl,Walks.list hh _ p ?_ _,⟨⟨_,ab8 _ rfl,rfl,rfl⟩,pl.isList.push _⟩,?_,λh' tk hk=>?_⟩)
 ·obtain⟨o,n,e,_⟩:=pl
  exact ad3 (ab9 e)
 ·intro i v s' Q' E' hv hQ'
  have hv':(bs.map Value.bool)[i]?=some v:=by simpa using hv
  rw [aa4]at hv'
  cases hb:bs[i]? with
  | none=>rw [hb]at hv';cases hv'
  | some b=>
   rw [hb]at hv';cases hv';have hQ2:Q' (bs.getD i true) s':=hQ';rw [ab5,hb]at hQ2;exact ae2 hQ2
 ·refine⟨.bl (bs.any id),H,I.kept (h':=h') (t':=tk) λb o e=>hk b o ?_ (aa5 _ e),?_,q⟩
  ·intro z
   have z':b=s.heap.objs.size:=by simpa using z
   exact absurd (ab9 e) (by rw [z'];exact ag6 _)
  ·show Value.bool _=Value.bool _
   rw [<-y7];simp
theorem ya(K:Frag)(hc:X.calm=true)(h:X.K=K:=by rfl):cO X (.builtin "any") (λxs H Q=>∃(p:Addr) (bs:List Bool),xs=[.ref p]/\aH K H p (bs.map V.bl)/\Q (.bl (bs.any id)) H):=h▸x9 hc
section
variable {K:Frag} {fI S N c:Addr} {nm q f:Str} {bs sub:List Value} {sn:List Str} {ab b:Bool} {col:Option Bool} {dd:Option Addr} {k0 k1 k2 k3 k5:Option Value} {c0:Value} {ds:Option Addr} {cd:ClassData} {sl:Array (Option Value)} {T:String}
end
def TJ:=Str->L2.St->Hp->VK->Prop
section
variable {e1 e2:Expr} {t:TJ} {te:TE} {x:Str}
theorem uc:dY X (inplaceOp .Mult) (rI IntMulOk λi j=>.int (i * j)):=Gh λ_ _ _ _ _ _ _ hc q=>imul_int q hc
end
theorem zk{K:Frag}(it:Addr)(lo:Int)(n:Nat):r9 P w K tg (xX lo n) [it] it (λi h=>IsLongIter h it (lo+(i:Nat) * 1) ((n:Int) - (i:Nat)) 1) where
 mem:=by simp
 obj:=λi h st b hb=>by
  have e:b=it:=by simpa using hb
  subst e
  exact⟨_,st,λv z=>by
   have z':Data.fields _=Data.cell v:=z
   cases z'⟩
 keep:=λi h h' st k=>k it (by simp) _ st
 item:=by
  intro X hP hw hK hc i pins s Z H E I hf st hg;subst hP hw hK;obtain⟨f0,f1,f2,f3,f4,f5⟩:=hf it (by simp);have W:=Walks.longrange (prog:=X.prog) (w:=X.w) (I.ok.hd hc) it lo 1 n;refine W.item i s _ _ hg st λv h' tk hv st' kk=>?_;obtain⟨t,rfl⟩:=hv;have I1:aQ X pins Z H { s with heap:=h',toks:=tk }:=I.turned (λb o hb e=>kk b o (by simpa using hb) e) f0 f1 f3 f4 f5;refine⟨_,rfl,t8 (s:={ s with heap:=h',toks:=tk }) (n:="longrange_iterator") st' rfl rfl ∅ ⟨.int (lo+i),H,I1,⟨t,?_⟩,⟨rfl,rfl⟩,st',λb hb=>(hf b hb).1⟩⟩;rw [Int.mul_one]
 done:=by
  intro X hP hw hK hc i pins s Z H E I hf st hg;subst hP hw hK;obtain⟨f0,f1,f2,f3,f4,f5⟩:=hf it (by simp);exact wpAny_pyNext_long_end (I.ok.hd hc) st (by have:n<=i:=hg;omega) λh' eb=>⟨rfl,I.turned (t':=s.toks) (λb o hb e=>eb b o hb e) f0 f1 f3 f4 f5⟩
 self:=λ_ _ _ _ _ st h=>wpAny_pyIter_longiter st h
theorem y8{Z:St}{s:Shared}{R:It->Hp->Prop}{lo hi:Int}{t u v:Tok}{tk:Nat}(I:aQ X pins Z H s)
  (q:R (xX lo (hi - lo).toNat) H):wpAny (model X.prog X.w) X.A (pyIter (.ref s.heap.objs.size)) (FK X pins Z tg R) E { s with heap:=s.heap.push { cls:=.type "range",data:=.fields #[.int lo t,.int hi u,.int 1 v] },toks:=tk }:=by
 have I1:aQ X pins Z H { s with heap:=s.heap.push { cls:=.type "range",data:=.fields #[.int lo t,.int hi u,.int 1 v] },toks:=tk }:=I.kept λb o e=>aa5 _ e
 have e1:lo+((0:Nat):Int) * 1=lo:=by simp
 have e2:(((hi - lo).toNat:Nat):Int) - ((0:Nat):Int)=Builtin.Range.rangeSize lo hi 1:=by rw [rangeSize_one];split<;>omega
 cases hs:Builtin.Range.small lo hi 1 with
 | true=>
  refine wpAny_pyIter_range (IsRange.new ..) hs ?_
  refine⟨(s.heap.push { cls:=.type "range",data:=.fields #[.int lo t,.int hi u,.int 1 v] }).objs.size,[(s.heap.push { cls:=.type "range",data:=.fields #[.int lo t,.int hi u,.int 1 v] }).objs.size],_,_,H,rfl,
   I1.kept (t':=tk) λb o e=>aa5 _ e,pW _ lo (hi - lo).toNat,?_,λb hb=>?_,q⟩
  ·show IsRangeIter _ _ (lo+((0:Nat):Int) * 1) ((((hi - lo).toNat:Nat):Int) - ((0:Nat):Int)) 1
   rw [e1,e2];exact ab8 _ rfl
  ·have e:b=(s.heap.push { cls:=.type "range",data:=.fields #[.int lo t,.int hi u,.int 1 v] }).objs.size:=by simpa using hb
   subst e;exact I1.fpOk (aa8 _) (I1.hok.fresh (aa8 _))
 | false=>
  refine wpAny_pyIter_longrange (IsRange.new ..) hs ?_
  refine⟨(s.heap.push { cls:=.type "range",data:=.fields #[.int lo t,.int hi u,.int 1 v] }).objs.size,[(s.heap.push { cls:=.type "range",data:=.fields #[.int lo t,.int hi u,.int 1 v] }).objs.size],_,_,H,rfl,
   I1.kept (t':=tk) λb o e=>aa5 _ e,zk _ lo (hi - lo).toNat,?_,λb hb=>?_,q⟩
  ·show IsLongIter _ _ (lo+((0:Nat):Int) * 1) ((((hi - lo).toNat:Nat):Int) - ((0:Nat):Int)) 1
   rw [e1,e2];exact ab8 _ rfl
  ·have e:b=(s.heap.push { cls:=.type "range",data:=.fields #[.int lo t,.int hi u,.int 1 v] }).objs.size:=by simpa using hb
   subst e;exact I1.fpOk (aa8 _) (I1.hok.fresh (aa8 _))
def Ae(ta:TA):TI:=λZ H R=>ta Z H λvs H1=>∃i j:Int,vs=[.int i,.int j]/\R (xX i (j - i).toNat) H1
theorem oW{a b:Expr}{ta:TA}(hg:Gl X "range")(hm:X.mg "range"=none)(ha:PA X [a,b] ta)(hs:starEach [a,b] X.env=[(false,eval a X.env),(false,eval b X.env)]:=by rfl)(hs2:starEach [b] X.env=[(false,eval b X.env)]:=by rfl):
  PI X tg (.Call (.Name "range" p) [a,b] [] pos) (Ae ta):=by
 intro pins s Z H R I h;refine Call_ (gN I hg hm boot_range (PyProof.Rows.callWith_type1 (c7 (ha pos pins s Z H _ I h) λus s1 zq0=>?_) (by rw [hs,hs2]) (by rw [hs2];rfl)));obtain⟨vs,H1,I1,r1,i,j,e,q⟩:=zq0;subst e
 cases r1 with
 | cons r rr=>
  cases rr with
  | cons r' rr=>
   cases rr;obtain⟨t,rfl⟩:=r;obtain⟨t',rfl⟩:=r';exact call_range_2 (y8 I1 q)
abbrev FQ(P:Program)(w:World):HeapKind P w (List Int):=tupleKind (intKind P w)
section
abbrev zo(P:Program)(w:World)(h:Heap)(c:List Int)(a:Addr):Prop:=IsTupleKey (intKind P w) h c a
def gn(P:Program)(w:World)(h:Heap):Option (List Int)->Value->Prop
 | none,v=>v=.none
 | some c,v=>∃a,v=.ref a/\zo P w h c a
inductive dD(P:Program)(w:World)(h:Heap):List (Option (List Int))->List Value->Prop
 | nil:dD P w h [] []
 | cons {k:Option (List Int)} {v:Value} {ks:List (Option (List Int))} {vs:List Value}:gn P w h k v->dD P w h ks vs->dD P w h (k::ks) (v::vs)
def xW(P:Program)(w:World)(h:Heap)(ks:List (Option (List Int)))(a:Addr):Prop:=∃o items n,h.get? a=some o/\o.cls=.type "tuple"/\o.data=.seq items n/\dD P w h ks items.toList
variable {h':Heap}
theorem gn.inj{x y:Option (List Int)}(hx:gn P w h x v)(hy:gn P w h y v):x=y:=by
 cases x with
 | none=>
  cases y with
  | none=>rfl
  | some c=>obtain⟨a,e,_⟩:=hy;rw [show v=.none from hx]at e;cases e
 | some c=>
  obtain⟨a,rfl,ha⟩:=hx
  cases y with
  | none=>have hy:Value.ref a=.none:=hy;cases hy
  | some d=>
   obtain⟨b,e,hb⟩:=hy;cases e;rw [ha.inj hb]
theorem dD.inj(hx:dD P w h x vs)(hy:dD P w h y vs):x=y:=by
 induction hx generalizing y with
 | nil=>cases hy;rfl
 | cons h1 _ ih=>
  cases hy with
  | cons h2 t2=>rw [h1.inj h2,ih t2]
theorem dD.length(hx:dD P w h x vs):x.length=vs.length:=by
 induction hx with
 | nil=>rfl
 | cons _ _ ih=>simp [ih]
theorem gn.imp{k:Option (List Int)}(f:∀c a,zo P w h c a->zo P w h' c a)(x:gn P w h k v):gn P w h' k v:=by
 cases k with
 | none=>exact x
 | some c=>obtain⟨a,e,ha⟩:=x;exact⟨a,e,f c a ha⟩
theorem dD.imp(f:∀c a,zo P w h c a->zo P w h' c a)(hx:dD P w h x vs):dD P w h' x vs:=by
 induction hx with
 | nil=>exact .nil
 | cons h1 _ ih=>exact .cons (h1.imp f) ih
theorem xW.typeIs{s:Shared}(x:xW P w s.heap ks a):s.TypeIs (.ref a) "tuple":=let ⟨o,_,_,ho,hc,_⟩:=x;⟨o,ho,hc⟩
theorem xW.inj(hx:xW P w h x a)(hy:xW P w h y a):x=y:=by
 obtain⟨o,items,n,ho,_,hd,hi⟩:=hx;obtain⟨o',items',n',ho',_,hd',hi'⟩:=hy;obtain rfl:o=o':=Option.some.inj (ho.symm.trans ho');rw [hd]at hd'
 injection hd' with h1 _
 subst h1;exact hi.inj hi'
theorem xW.keeps{o:Obj}{es ep}(x:xW P w h ks a)(ho:h.get? d=some o)(hd:o.data=.dict es ep)(hs:Heap.SameBut d h h'):xW P w h' ks a:=by
 obtain⟨o',items,n,ho',hc,hd',hi⟩:=x
 have hne:a≠d:=by
  rintro rfl;obtain rfl:o'=o:=Option.some.inj (ho'.symm.trans ho);rw [hd]at hd';exact nomatch hd'
 exact⟨o',items,n,(hs.2 a hne).trans ho',hc,hd',hi.imp λc b x=>x.keeps ho hd hs⟩
def AJ:Int:=reduceHash 0xFCA86420
def ox(P:Program)(w:World):Option (List Int)->Int
 | none=>AJ
 | some c=>tupleKeyHash (intKind P w) c
def mj:Option (List Int)->Nat
 | none=>1
 | some c=>c.length+1
def AI(P:Program)(w:World)(ks:List (Option (List Int))):Int:=reduceHash (Builtin.Tuple.tupleHashOf (ks.map (ox P w)))
def vN(ks:List (Option (List Int))):Nat:=(ks.map mj).sum+1
variable {s:Shared}
theorem yF{k:Option (List Int)}{Q:Int->Shared->Prop}(hu:A.units < cLine)(hk:gn P w s.heap k v)(q:Q (ox P w k) { s with toks:=s.toks+mj k }):wpAny (model P w) A (pyHash v) Q E s:=by
 cases k with
 | none=>
  have hk:v=.none:=hk;subst hk;exact PySem.W.pyHash_slot (T:="NoneType") rfl F.slot_NoneType_hash F.entry_NoneType_hash (F.args_NoneType_hash_1 _) (beq_builtin_none _) (.inr hu) (aa3 (aa9 (aa3 (wpAny_mkInt (aa9 ⟨_,_,rfl,q⟩)))))
 | some c=>
  obtain⟨a,rfl,ha⟩:=hk;exact wpAny_pyHash_tuple hu ha q
theorem EG{Q:Int->Shared->Prop}(hu:A.units+1 < cLine)(hk:xW P w s.heap ks a)(q:Q (AI P w ks) { s with toks:=s.toks+vN ks }):wpAny (model P w) A (pyHash (.ref a)) Q E s:=by
 have hT:=hk.typeIs;obtain⟨o,items,n,ho,_,hd,hi⟩:=hk;refine PySem.W.pyHash_slot (T:="tuple") hT F.slot_tuple_hash F.entry_tuple_hash (F.args_tuple_hash_1 _) (beq_builtin_none _) (.inr ()) ?_;show wpAny _ _ (Builtin.Tuple.tupleItemsOf (.ref a) >>= _) _ _ s;refine aa3 (wpAny_tupleItemsOf ho hd ?_);refine aa3 ?_;rw [<-am9]
 refine ao1 _
  (λrest (b:Array Int) s'=>∃done left,ks=done++left/\dD P w s.heap left rest/\b.toList=done.map (ox P w)/\s'={ s with toks:=s.toks+(done.map mj).sum })
  _ ?_ ?_ _ _ ⟨[],ks,rfl,hi,rfl,rfl⟩
 ·rintro x rest b s' ⟨done,left,rfl,hl,hb,rfl⟩
  cases hl with
  | @cons k _ ks' _ h1 hl'=>
   refine aa3 (yF (A:=A.in1) (by show A.units+1 < cLine;exact hu) h1 ?_)
   first
    | exact aa9 ⟨done++[k],ks',by simp,hl',by simp [hb],by simp [Nat.add_assoc]⟩
    | exact aa3 (aa9 (aa9 ⟨done++[k],ks',by simp,hl',by simp [hb],by simp [Nat.add_assoc]⟩))
 ·rintro b s' ⟨done,left,rfl,hl,hb,rfl⟩
  cases hl;rw [af1]at q;show wpAny _ _ (retInt (Builtin.Tuple.tupleHashOf b.toList)) _ _ _;rw [hb];refine aa3 (wpAny_mkInt (aa9 ⟨_,_,rfl,?_⟩));unfold AI vN at q;simpa [Nat.add_assoc]using q
theorem zo.any{P':Program}{w':World}(x:zo P w h c a):zo P' w' h c a:=by
 obtain⟨o,items,n,ho,hc,hd,hi⟩:=x;refine⟨o,items,n,ho,hc,hd,?_⟩;generalize items.toList=vs at hi
 induction hi with
 | nil=>exact .nil
 | cons h1 _ ih=>exact .cons h1 ih
theorem zo.isTuple(x:zo P w h c a):∃items,h.IsTuple a items:=by
 obtain⟨o,items,n,ho,hc,hd,_⟩:=x;exact⟨items,o,ho,hc,n,hd⟩
theorem CH{x y:Option (List Int)}(hu:A.units < cLine)(hx:gn P w s.heap x u)(hy:gn P w s.heap y v):SeqAt.EqAt A s u v (decide (x=y)):=by
 cases x with
 | none=>
  have hx:u=.none:=hx;subst hx
  cases y with
  | none=>
   have hy:v=.none:=hy;subst hy;rw [decide_eq_true rfl];exact SeqAt.EqAt.same _
  | some c=>
   obtain⟨b,rfl,hb⟩:=hy;obtain⟨items,ht⟩:=hb.isTuple;rw [decide_eq_false (λe=>by cases e)];exact SeqAt.EqAt.none_tuple ht hu
 | some c=>
  obtain⟨a,rfl,ha⟩:=hx
  cases y with
  | none=>
   have hy:v=.none:=hy;subst hy;obtain⟨items,ht⟩:=ha.isTuple;rw [decide_eq_false (λe=>by cases e)];exact SeqAt.EqAt.tuple_none ht hu
  | some d=>
   obtain⟨b,rfl,hb⟩:=hy
   have e:decide (some c=some d)=decide (c=d):=by
    by_cases h:c=d
    ·rw [h,decide_eq_true rfl,decide_eq_true rfl]
    ·rw [decide_eq_false h,decide_eq_false (λz=>h (Option.some.inj z))]
   rw [e];exact λP' w' E Q q=>wpAny_eqBool_tuple hu ha.any hb.any q
theorem dD.at(hx:dD P w h x vs)(e:vs[j]?=some v):∃k,x[j]?=some k/\gn P w h k v:=by
 induction hx generalizing j with
 | nil=>cases e
 | cons h1 _ ih=>
  cases j with
  | zero=>cases e;exact⟨_,rfl,h1⟩
  | succ j=>exact ih e
theorem uk[DecidableEq α]:∀(x y:List α),((List.range (min x.length y.length)).all (λj=>decide (x[j]?=y[j]?)) && x.length == y.length)=decide (x=y):=by
 intro x y;rw [af4,ai3,af6,decide_eq_true_iff]
 constructor
 ·rintro⟨h1,h2⟩
  have hl:x.length=y.length:=by simpa using h2
  refine List.ext_getElem? λj=>?_
  by_cases hj:j < x.length
  ·exact of_decide_eq_true (h1 j (af8.mpr ()))
  ·rw [aj0 (),aj0 ()]
 ·rintro rfl
  simp
theorem Hl{b:Addr}(hu:A.units+1 < cLine)(hx:xW P w s.heap x a)(hy:xW P w s.heap y b)(q:Q (decide (x=y)) s):wpAny (model P w) A (eqBool (.ref a) (.ref b)) Q E s:=by
 by_cases hab:a=b
 ·subst hab
  obtain rfl:=hx.inj hy;rw [decide_eq_true rfl]at q;exact SeqAt.EqAt.same (.ref a) P w E Q q
 ·obtain⟨oa,xs,na,hoa,hca,hda,hia⟩:=hx
  obtain⟨ob,ys,nb,hob,hcb,hdb,hib⟩:=hy
  have ht:SeqAt.EqAt A s (.ref a) (.ref b) ((List.range (min xs.size ys.size)).all (λj=>decide (x[j]?=y[j]?)) && xs.size == ys.size):=by
   refine SeqAt.EqAt.of_refs hab (SeqAt.RcAt.tuples ⟨oa,hoa,hca,na,hda⟩ ⟨ob,hob,hcb,nb,hdb⟩ () λj j1 j2=>?_);obtain⟨k1,e1,i1⟩:=hia.at (j:=j) (v:=xs[j]) (by simp [j1]);obtain⟨k2,e2,i2⟩:=hib.at (j:=j) (v:=ys[j]) (by simp [j2])
   have e:decide (x[j]?=y[j]?)=decide (k1=k2):=by
    rw [e1,e2]
    by_cases h:k1=k2
    ·rw [h,decide_eq_true rfl,decide_eq_true rfl]
    ·rw [decide_eq_false h,decide_eq_false (λz=>h (Option.some.inj z))]
   rw [e];exact CH (A:=A.in1) (by show A.units+1 < cLine;exact hu) i1 i2
  have lx:xs.size=x.length:=by rw [hia.length];simp
  have ly:ys.size=y.length:=by rw [hib.length];simp
  rw [lx,ly,uk]at ht;exact ht P w E Q q
theorem Cp{n:Nat}{ks:List Int}(hk:zo P w s.heap ks a)(q:Q true s):wpAny (model P w) A (eqIsQuiet (n+1) (.ref a)) Q E s:=by
 have hT:=hk.typeIs;obtain⟨o,items,n,ho,_,hd,hi⟩:=hk;unfold eqIsQuiet;refine aa3 (aj9 hT F.slot_tuple_eq.lookup ?_);show wpAny _ _ (isInstance (.ref a) (.type "tuple") >>= _) _ _ s;refine aa3 (an8 hT isSubtype_tuple_tuple ?_);simp only [an6,ae3,if_false];refine aa3 (af9 ho hd ?_);refine aa3 ?_;show wpAny _ _ (forIn items _ _) _ _ s;rw [<-am9];refine ao1 _ (λrest r s'=>r.1=none/\s'=s/\∀v∈rest,carriedByValue v=true) _ ?_ ?_ _ _ ⟨rfl,rfl,hi.byValue⟩
 ·rintro v rest r s' ⟨hr,rfl,hall⟩
  rw [eqIsQuiet_byValue _ (hall v ad8)];refine aa3 (aa9 ?_);simp only [an6,ae3,if_false];exact aa9 ⟨rfl,rfl,λu hu'=>hall u (ad9 _ hu')⟩
 ·rintro⟨r1,r2⟩ s' ⟨hr,rfl,_⟩
  simp only at hr;subst hr;exact aa9 q
theorem CT(hk:xW P w s.heap ks a)(q:Q true s):wpAny (model P w) A (eqIsQuiet 8 (.ref a)) Q E s:=by
 have hT:=hk.typeIs;obtain⟨o,items,n,ho,_,hd,hi⟩:=hk;unfold eqIsQuiet;refine aa3 (aj9 hT F.slot_tuple_eq.lookup ?_);show wpAny _ _ (isInstance (.ref a) (.type "tuple") >>= _) _ _ s;refine aa3 (an8 hT isSubtype_tuple_tuple ?_);simp only [an6,ae3,if_false];refine aa3 (af9 ho hd ?_);refine aa3 ?_;show wpAny _ _ (forIn items _ _) _ _ s;rw [<-am9];refine ao1 _ (λrest r s'=>r.1=none/\s'=s/\∃ks',dD P w s.heap ks' rest) _ ?_ ?_ _ _ ⟨rfl,rfl,ks,hi⟩
 ·rintro v rest r s' ⟨hr,rfl,ks',hall⟩
  cases hall with
  | @cons k _ ks2 _ h1 h2=>
   have go:wpAny (model P w) A (eqIsQuiet 7 v) (λb s2=>b=true/\s2=s') E s':=by
    cases k with
    | none=>
     have h1:v=.none:=h1;subst h1;rw [eqIsQuiet_byValue _ rfl];exact aa9 ⟨rfl,rfl⟩
    | some c=>
     obtain⟨b,rfl,hb⟩:=h1;exact Cp (n:=6) hb ⟨rfl,rfl⟩
   refine aa3 (af2 go (λb s2 zq0=>?_) λ_ _ x=>x);obtain⟨e1,e2⟩:=zq0;subst e1 e2;simp only [an6,ae3,if_false];exact aa9 ⟨rfl,rfl,ks2,h2⟩
 ·rintro⟨r1,r2⟩ s' ⟨hr,rfl,_⟩
  simp only at hr;subst hr;exact aa9 q
end
def Gd(P:Program)(w:World):HeapKind P w (List (Option (List Int))) where
 is:=xW P w
 hash:=AI P w
 draws:=vN
 room:=λA=>A.units+1 < cLine
 inj:=λhx hy=>hx.inj hy
 keeps:=λx ho hd hs=>x.keeps ho hd hs
 pyHash:=λhu hk h=>EG hu hk h
 eqBool:=λhu hx hy h=>Hl hu hx hy h
 quiet:=λhk h=>CT hk h
structure KK(P:Program)(w:World)(κ:Type)[DecidableEq κ] where
 knd:HeapKind P w κ
 at_:Hp->κ->Addr->Prop
 same:∀{H H':Hp} {k:κ} {a:Addr},av H H'->at_ H k a->at_ H' k a
 upd_:∀{H:Hp} {k:κ} {a z:Addr} {o:HO},at_ H k a->(∀vs,H z≠some (.tup vs))->at_ (upd H z o) k a
 is_:∀{H:Hp} {h:Heap} {k:κ} {a:Addr},kI P w H h->at_ H k a->knd.is h k a
 room:∀{A:Around},A.units+2 < cLine->knd.room A.in1
def pZ(x:κ×Addr×V)(y:κ×Addr×Value):Prop:=x.1=y.1/\x.2.1=y.2.1/\aX x.2.2 y.2.2
section
variable [DecidableEq κ] (kk:KK P w κ)
def dO(d:Addr)(xs:List (κ×Addr×V)):HO:=.ext λh=>(d == sysModules)=false/\∃o es ep ys,h.get? d=some o/\o.ExactDict/\o.data=.dict es ep/\es.toList=ys.map (entryOfKey kk.knd)/\Paired pZ xs ys
structure bK(H:Hp)(d:Addr)(xs:List (κ×Addr×V)):Prop where
 ob:H d=some (dO kk d xs)
 ks:∀x∈xs,kk.at_ H x.1 x.2.1
 nd:(xs.map (·.1)).Nodup
 sz:xs.length<=100000
def jV(xs:List (κ×Addr×V))(k:κ):Option V:=(xs.find? λx=>decide (x.1=k)).map (·.2.2)
def fc(xs:List (κ×Addr×V))(k:κ)(a:Addr)(v:V):List (κ×Addr×V):=if (jV xs k).isSome then xs.map (λx=>if x.1=k then(x.1,x.2.1,v)else x)else xs++[(k,a,v)]
variable {kk}
theorem bK.same{xs:List (κ×Addr×V)}(h:bK kk H d xs)(s:av H H'):bK kk H' d xs:=⟨s _ _ h.ob,λx hx=>kk.same s (h.ks x hx),h.nd,h.sz⟩
theorem Paired.len'{β:Type}{F:α->β->Prop}{l:List α}{m:List β}(h:Paired F l m):l.length=m.length:=Paired.length h
theorem CP{xs:List (κ×Addr×V)}{ys:List (κ×Addr×Value)}(h:Paired pZ xs ys):xs.map (·.1)=ys.map (·.1):=by
 induction h with
 | nil=>rfl
 | cons r _ ih=>rw [ad0,ad0,ih,r.1]
theorem sh{xs:List (κ×Addr×V)}{ys:List (κ×Addr×Value)}(h:Paired pZ xs ys)(k:κ):(jV xs k=none/\atKey ys k=none)\/∃v p,jV xs k=some v/\atKey ys k=some p/\aX v p.2:=by
 induction h with
 | nil=>exact .inl ⟨rfl,rfl⟩
 | @cons x y xs ys r _ ih=>
  unfold jV atKey at ih |-;rw [ap2,ap2,<-r.1]
  by_cases hk:x.1=k
  ·rw [decide_eq_true hk]
   exact .inr ⟨_,_,rfl,rfl,r.2.2⟩
  ·rw [decide_eq_false hk]
   exact ih
theorem wM{xs:List (κ×Addr×V)}{ys:List (κ×Addr×Value)}(h:Paired pZ xs ys){k:κ}{v:V}(r:aX v u):Paired pZ (fc xs k a v) (storedH ys k a u):=by
 rcases sh h k with⟨h1,h2⟩ | ⟨v',p,h1,h2,_⟩
 ·rw [storedH_new h2]
  unfold fc;rw [h1];show Paired pZ (xs++[(k,a,v)]) (ys++[(k,a,u)]);clear h1 h2
  induction h with
  | nil=>exact .cons ⟨rfl,rfl,r⟩ .nil
  | cons r' _ ih=>exact .cons r' ih
 ·rw [storedH_old h2]
  unfold fc;rw [h1];show Paired pZ (xs.map _) (ys.map _);clear h1 h2
  induction h with
  | nil=>exact .nil
  | @cons x y xs ys r' _ ih=>
   rw [ad0,ad0];refine .cons ?_ ih;unfold putAt;rw [<-r'.1]
   by_cases hk:x.1=k
   ·rw [if_pos hk,if_pos hk]
    exact⟨rfl,r'.2.1,r⟩
   ·rw [if_neg hk,if_neg hk]
    exact r'
variable {Z:St} {s:Shared} {xs:List (κ×Addr×V)} {k:κ}
theorem jM(ok:kI P w H h)(D:bK kk H d xs):(d == sysModules)=false/\∃ys,h.DictOfH kk.knd d ys/\Paired pZ xs ys:=by
 obtain⟨⟨hd,o,es,ep,ys,ho,hx,hda,he,hp⟩,_⟩:=ok d _ D.ob;refine⟨hd,ys,⟨o,es,ep,ho,hx,hda,he,λy hy=>?_,by rw [<-CP hp];exact D.nd⟩,hp⟩
 have:∀(xs:List (κ×Addr×V)) (ys:List (κ×Addr×Value)),Paired pZ xs ys->(∀x∈xs,kk.at_ H x.1 x.2.1)->∀y∈ys,kk.at_ H y.1 y.2.1:=by
  intro xs ys h
  induction h with
  | nil=>intro _ y hy;cases hy
  | @cons x y xs ys r _ ih=>
   intro hk y' hy;rcases ab0.mp hy with rfl | hy
   ·have:=hk x (by simp)
    rw [r.1,r.2.1]at this;exact this
   ·exact ih (λx hx=>hk x (by simp [hx])) y' hy
 exact kk.is_ ok (this xs ys hp D.ks y hy)
theorem aQ.sysB(I:aQ X pins Z H s):sysModules < s.heap.objs.size:=Nat.lt_trans ∅ (I.mod.glob.keeps I.bk).lt
variable {kk':KK X.prog X.w κ}
theorem xb{h':Heap}{t':Nat}{v:V}{ys:List (κ×Addr×Value)}(I:aQ X pins Z H s)(D:bK kk' H d xs)(hd:(d == sysModules)=false)(hp:Paired pZ xs ys)(r:aX v u)(dd:h'.DictOfH kk'.knd d (storedH ys k a u))(hs:Heap.SameBut d s.heap h'):
  aQ X pins Z (upd H d (dO kk' d (fc xs k a v))) { s with heap:=h',toks:=t' }:=by
 obtain⟨o,es,ep,ho,hx,hda,he,_,_⟩:=dd;refine I.write (x:=d) (e:=d) (by rw [D.ob];trivial) (.inl rfl) (λb ob hb q=>?_) ⟨o,ho⟩ ⟨⟨hd,o,es,ep,_,ho,hx,hda,he,wM hp r⟩,⟨o,ho⟩,?_⟩
 ·rw [hs.2 b hb]
  exact q
 ·rintro h1 h2 ⟨g1,o',es',ep',ys',ho',r'⟩ keep
  exact⟨g1,o',es',ep',ys',keep _ ho',r'⟩
theorem FU{v:V}{Q:Unit->Shared->Prop}(hu:X.A.units+2 < cLine)(I:aQ X pins Z H s)(D:bK kk' H d xs)(hk:kk'.at_ H k a)(r:aX v u)(q:∀s',aQ X pins Z (upd H d (dO kk' d (fc xs k a v))) s'->Q Unit.unit s'):
  wpAny (model X.prog X.w) X.A (setItem (.ref d) (.ref a) u) Q E s:=by
 obtain⟨hd,ys,dd,hp⟩:=jM I.hok D
 have hl:ys.length<=sizeLine:=by
  have:=D.sz
  have:=Paired.len' hp
  rw [sizeLine_eq];omega
 exact wpAny_setItem_heap (kk'.room hu) (kk'.is_ I.hok hk) dd (λh' dd' hs=>q _ (xb I D hd hp r dd' hs)) hl
theorem FT(hu:X.A.units+2 < cLine)(I:aQ X pins Z H s)(D:bK kk' H d xs)(hk:kk'.at_ H k a)(q:∀t,Q (jV xs k).isSome { s with toks:=t }):
  wpAny (model X.prog X.w) X.A (contains (.ref d) (.ref a)) Q E s:=by
 obtain⟨hd,ys,dd,hp⟩:=jM I.hok D;unfold contains
 try with_reducible refine ae6 ?_
 refine aa3 (aj9 dd.typeIs slot_dict_contains.lookup ?_);show wpAny _ _ (if (some (Value.builtin "dict.__contains__") == some Value.none)=true then _ else _) _ E s;rw [if_neg (by rw [beq_builtin_none];exact aa6)]
 refine aa3 (wpAny_callSpecialUnlessNone?_slot (name:=Str.ofString "__contains__") dd.typeIs slot_dict_contains
  (ag2 slot_dict_contains dd.typeIs entry_dict_contains ?_ (args_dict_contains _ _)))
 show wpAny _ _ (dictGet d (.ref a) >>= _) _ _ s;refine aa3 (wpAny_dictGet_heap (kk'.room hu) (kk'.is_ I.hok hk) dd ?_);rcases sh hp k with⟨h1,h2⟩ | ⟨v,p,h1,h2,_⟩
 ·rw [h2]
  rw [h1]at q;show wpAny _ _ (Builtin.Dict.pendingKey? d (.ref a) >>= _) _ _ _;exact aa3 (wpAny_pendingKey_other hd (aa9 ⟨_,rfl,ae2 (q _)⟩))
 ·rw [h2]
  rw [h1]at q;show wpAny _ _ (ret (.bool true)) _ _ _;exact aa9 ⟨_,rfl,ae2 (q _)⟩
def Dz(kk:KK P w κ):R2:=λx y H Q=>∃d a k xs,x=.ref a/\y=.ref d/\bK kk H d xs/\kk.at_ H k a/\Q (.bl (!(jV xs k).isSome)) H
theorem A5(hu:X.A.units+2 < cLine):dY X (compareOp .NotIn) (Dz kk'):=by
 rintro pins s Z H x y v u Q I rx ry ⟨d,a,k,xs,rfl,rfl,D,hk,q⟩;cases rx;cases ry;show wpAny _ _ (do return Value.bool (!(<-contains (.ref d) (.ref a))):Sem Value) _ _ s;exact aa3 (FT hu I D hk λt=>aa9 ⟨.bl (!(jV xs k).isSome),H,I.tok t,rfl,q⟩)
def Ht(kk:KK P w κ):R2:=λx y H Q=>∃d a k xs v,x=.ref d/\y=.ref a/\bK kk H d xs/\kk.at_ H k a/\jV xs k=some v/\Q v H
theorem ixD(hu:X.A.units+2 < cLine):zp X (Ht kk'):=by
 intro value slice pins s Z H x y v u Q I rx ry h hs;obtain⟨d,a,k,xs,z,rfl,rfl,D,hk,hv,q⟩:=h;cases rx;cases ry;obtain⟨hd,ys,dd,hp⟩:=jM I.hok D;have hT:s.TypeIs (.ref d) "dict":=dd.typeIs;rcases sh hp k with⟨h1,_⟩ | ⟨v',p,h1,h2,r⟩
 ·rw [h1]at hv;cases hv
 rw [h1]at hv;cases hv;unfold subscriptTail;refine aa3 ?_;rw [getitemInPython_of_ne hT.not_modules];refine aa3 (aj9 hT PySem.F.slot_dict_getitem.lookup ?_)
 have fin:wpAny (model X.prog X.w) X.A (subscripted slice false (.ref d) (.ref a)) (λr Zm=>wpAny (model X.prog X.w) X.A (letTemporaryGo value (.ref d) r >>= λ_=>pure r) (EP X pins Z Q) X.xe Zm) X.xe s:=by
  rw [hs];exact wpAny_operating (wpAny_getItem_heap (kk'.room hu) (kk'.is_ I.hok hk) dd h2 (aa3 (wpAny_letTemporaryGo (aa9 ⟨z,H,I.tok _,r,q⟩))))
 first
  | exact aa9 (aa3 fin)
  | exact aa3 (aa9 (aa3 fin))
  | exact aa3 fin
def Gw(kk:KK P w κ):Ci:=λo i v H Q=>∃d a k xs,o=.ref d/\i=.ref a/\bK kk H d xs/\kk.at_ H k a/\Q (upd H d (dO kk d (fc xs k a v)))
theorem Gy(hu:X.A.units+2 < cLine):Em X (Gw kk'):=by
 rintro pins s Z H o i v ov iv u Q I ro ri rv ⟨d,a,k,xs,rfl,rfl,D,hk,q⟩;cases ro;cases ri;exact FU hu I D hk rv λs' I'=>⟨_,I',q⟩
def Ec(kk:KK P w κ):V->List V->Hp->VK->Prop:=λx vs H Q=>∃d a k xs,x=.ref d/\vs=[.ref a]/\bK kk H d xs/\kk.at_ H k a/\Q ((jV xs k).getD .non) H
theorem CQ(hu:X.A.units+2 < cLine):Ce X "dict.get" (Ec kk'):=by
 rintro pins s Z H x vs v us Q I rx rv ⟨d,a,k,xs,rfl,rfl,D,hk,q⟩;cases rx;obtain⟨u,rfl,ru⟩:=rv.one;cases ru;obtain⟨hd,ys,dd,hp⟩:=jM I.hok D;refine call_meetsIn PySem.F.slot_dict_get dd.typeIs PySem.F.entry_dict_get (PySem.F.args_dict_get_2 _ _) (meetsH_dict_get kk'.knd d a hd) ⟨kk'.room hu,k,ys,kk'.is_ I.hok hk,dd,?_⟩;rcases sh hp k with⟨h1,h2⟩ | ⟨v',p,h1,h2,r⟩
 ·rw [h1]at q
  rw [h2];exact⟨.non,H,I.tok _,rfl,q⟩
 ·rw [h1]at q
  rw [h2];exact⟨v',H,I.tok _,r,q⟩
def Ef(kk:KK P w κ)(to:TE)(t:TA):TE:=λZ H Q=>to Z H λx H1=>(∃d xs,x=.ref d/\bK kk H1 d xs)/\t Z H1 λvs H2=>Ec kk x vs H2 Q
theorem Dk{o:Expr}{to:TE}(hu:X.A.units+2 < cLine)(ho:PE X o to)(ha:PA X [e] t)(hbase:attributeBase o "get" X.env (eval o X.env)=eval o X.env:=by rfl)
  (hfew:((backTo cpos (starEach [e] X.env)).all (λx=>!x.1) && (backToKw cpos (keywordEach [] X.env)).all (λx=>x.1.isSome)
   && decide (([e]:List Expr).length+([]:List Keyword).length+(if ([]:List Keyword).isEmpty then 0 else 1) < 30))=true:=by rfl)
  (hline:(apos.endLine == cpos.line)=true:=by rfl) (hs:starEach [e] X.env=(false,eval e X.env)::starEach [] X.env:=by rfl) (hplain:(backTo cpos (starEach [] X.env)).any (·.1)=false:=by rfl) :
  PE X (.Call (.Attribute o "get" apos) [e] [] cpos) (Ef kk' to t):=by
 intro pins s Z H Q I h;refine wpAny_Call_method_late hbase hfew hline rfl (c7 (ho pins s Z H _ I h) λv s1 zq0=>?_);obtain⟨x,H1,I1,r1,⟨d,xs,ex,D⟩,q1⟩:=zq0;subst ex;cases r1;obtain⟨_,ys,dd,_⟩:=jM I1.hok D;refine⟨"dict","dict.get",PySem.F.plainAttrs_dict,PySem.F.slot_dict_get,PySem.F.type_dict_get,dd.typeIs,λa e=>?_,?_⟩
 ·cases e
  obtain⟨ob,_,_,h1,h2,_⟩:=dd;exact⟨ob,h1,h2.2.1⟩
 have hA:=ha cpos pins s1 Z H1 _ I1 q1;rw [hs]at hA |-
 refine Calls.callWith_builtin (by show(false || (backTo cpos (starEach [] X.env)).any (·.1))=false;rw [hplain]<;>rfl) (Calls.evalArgs_plain ?_)
 exact c7 hA λus s2 ⟨vs,H2,I2,r2,q2⟩=>CQ hu pins s2 Z H2 (.ref d) vs _ us Q I2 rfl r2 q2
theorem zN(kk:KK P w κ)(hb:sysModules < h.objs.size):dZ P w H (h.push { cls:=.type "dict",data:=.dict #[] }) h.objs.size (dO kk h.objs.size []):=by
 refine⟨⟨beq_eq_false_iff_ne.mpr (Ne.symm (ad3 hb)),_,#[],0,[],ab8 _ rfl,⟨rfl,rfl,rfl⟩,rfl,rfl,.nil⟩,⟨_,ab8 _ rfl⟩,?_⟩;rintro h1 h2 ⟨g1,o',es',ep',ys',ho',r'⟩ keep;exact⟨g1,o',es',ep',ys',keep _ ho',r'⟩
def BP(kk:KK P w κ):TE:=λ_ H Q=>∀p,H p=none->Q (.ref p) (upd H p (dO kk p []))
theorem Dn:PE X (.Dict [] [] pos) (BP kk'):=λpins s Z H Q I h=>
 wpAny_Dict_empty ⟨.ref s.heap.objs.size,_,I.laid (a:=s.heap.objs.size) (o:=dO kk' s.heap.objs.size []) (t':=s.toks) (λ_ _ q=>aa5 _ q) (aa8 _) (zN kk' I.sysB),rfl,h _ (I.hok.fresh (aa8 _))⟩
def Eg(kk:KK P w κ)(tk tv:TE):TE:=λZ H Q=>∀p,H p=none->tk Z (upd H p (dO kk p [])) λx H1=>tv Z H1 λv H2=>H2 p=some (dO kk p [])/\∃a k,x=.ref a/\kk.at_ H2 k a/\Q (.ref p) (upd H2 p (dO kk p [(k,a,v)]))
theorem Dp{e1 e2:Expr}{tk tv:TE}(hu:X.A.units+2 < cLine)(h1:PE X e1 tk)(h2:PE X e2 tv)(hr:∀{B:Around},B.units=X.A.units->kk'.knd.room B):PE X (.Dict [some e1] [e2] pos) (Eg kk' tk tv):=by
 intro pins s Z H Q I h;have hn:=I.hok.fresh (aa8 s.heap.objs.size);have I1:=I.laid (a:=s.heap.objs.size) (o:=dO kk' s.heap.objs.size []) (h':=s.heap.push { cls:=.type "dict",data:=.dict #[] }) (t':=s.toks) (λ_ _ q=>aa5 _ q) (aa8 _) (zN kk' I.sysB);rw [arm_eval_Dict,zip_pairTrees [some e1] [e2] X.env pos rfl rfl,dictDisplay_pairs (pairTrees [some e1] [e2] X.env pos) (by simp [pairTrees]) (by simp [pairTrees])];refine aa3 (an4 (aa3 ?_));unfold subDict;refine aa3 (wpAny_alloc ?_);refine aa3 (ae6 ?_);rw [if_pos (by simp [pairTrees])];refine aa3 (pairTrees_cons_walk (c7 (h1 pins _ Z _ _ I1 (h _ hn)) λu s1 ⟨x,H1,I1,rx,q1⟩=>c7 (h2 pins s1 Z H1 _ I1 q1) λw2 s2 ⟨v,H2,I2,rv,hob,a,k,ex,hk,q2⟩=>pairTrees_nil_walk ?_));subst ex;cases rx;have D:bK kk' H2 s.heap.objs.size []:=⟨hob,(λ_ z=>nomatch z),List.nodup_nil,ac2 _⟩;obtain⟨hd,ys,dd,hp⟩:=jM I2.hok D;cases hp;refine ae6 ?_;refine aa3 ?_;rw [af5];refine aa3 (aa3 (wpAny_dictSet_heap (hr rfl) (kk'.is_ I2.hok hk) dd (λh' dd' hs=>aa9 ?_) (ac2 _)));show wpAny _ _ (forIn [] _ _) _ _ _;rw [ak7];exact aa9 (aa9 (aa9 (aa9 ⟨.ref s.heap.objs.size,_,xb I2 D hd .nil rv dd' hs,rfl,q2⟩)))
end
theorem ue:∀{c:List Int} {its:List Value},bh (c.map V.int) its->ItemsAre (intKind P w) c its
 | [],_,r=>by cases r;exact .nil
 | i::c,_,r=>by
  rw [ad0]at r
  cases r with
  | cons r rr=>
   obtain⟨t,rfl⟩:=r;exact .cons (by show Value.isInt i (.int i t)=true;simp [Value.isInt]) (ue rr)
theorem Al(ok:kI P w H h)(e:H a=some (.tup (c.map V.int))):zo P w h c a:=by
 obtain⟨_,its,r,o,ho,hc,n,hd⟩:=ok a _ e;exact⟨o,its.toArray,n,ho,hc,hd,ue (by simpa using r)⟩
def Co(P:Program)(w:World):KK P w (List Int) where
 knd:=FQ P w
 at_:=λH c a=>H a=some (.tup (c.map V.int))
 same:=λs h=>s _ _ h
 upd_:=λh hz=>by rw [aj (λe=>hz _ (by rw [<-e];exact h))];exact h
 is_:=λok e=>Al ok e
 room:=λhu=>by show _+1 < cLine;omega
def ow(H:Hp):Option (List Int)->V->Prop
 | none,v=>v=.non
 | some c,v=>∃a,v=.ref a/\H a=some (.tup (c.map V.int))
def Fy(H:Hp):List (Option (List Int))->List V->Prop
 | [],[]=>True
 | k::ks,v::vs=>ow H k v/\Fy H ks vs
 | _,_=>False
theorem ow.imp{k:Option (List Int)}{v:V}(f:∀a c,H a=some (.tup (List.map V.int c))->H' a=some (.tup (List.map V.int c)))(h:ow H k v):ow H' k v:=by
 cases k with
 | none=>exact h
 | some c=>obtain⟨a,e,ha⟩:=h;exact⟨a,e,f a c ha⟩
theorem Fy.imp(f:∀a c,H a=some (.tup (List.map V.int c))->H' a=some (.tup (List.map V.int c))):∀{ks:List (Option (List Int))} {vs:List V},Fy H ks vs->Fy H' ks vs
 | [],[],_=>True.intro
 | _::_,_::_,⟨h1,h2⟩=>⟨h1.imp f,h2.imp f⟩
theorem rz(ok:kI P w H h):∀{ks:List (Option (List Int))} {vs:List V} {its:List Value},Fy H ks vs->bh vs its->dD P w h ks its
 | [],[],_,_,r=>by cases r;exact .nil
 | k::ks,v::vs,_,⟨h1,h2⟩,r=>by
  cases r with
  | cons r rr=>
   refine .cons ?_ (rz ok h2 rr)
   cases k with
   | none=>
    have h1:v=.non:=h1;subst h1;exact r
   | some c=>
    obtain⟨a,rfl,ha⟩:=h1;exact⟨a,r,Al ok ha⟩
def iY(P:Program)(w:World):KK P w (List (Option (List Int))) where
 knd:=Gd P w
 at_:=λH ks a=>∃vs,H a=some (.tup vs)/\Fy H ks vs
 same:=λs ⟨vs,e,h⟩=>⟨vs,s _ _ e,h.imp λ_ _ z=>s _ _ z⟩
 upd_:=λ{H k a z o} ⟨vs,e,h⟩ hz=>by
  have f:∀b ws,H b=some (.tup ws)->upd H z o b=some (.tup ws):=λb ws hb=>by rw [aj (λq=>hz _ (by rw [<-q];exact hb))];exact hb
  exact⟨vs,f _ _ e,h.imp λ_ _ q=>f _ _ q⟩
 is_:=λ{H h k a} ok ⟨vs,e,hn⟩=>by
  obtain⟨_,its,r,o,ho,hc,n,hd⟩:=ok a _ e;exact⟨o,its.toArray,n,ho,hc,hd,by simpa using rz ok hn r⟩
 room:=λhu=>by show _+1+1 < cLine;omega
theorem EH{B:Around}(hu:A.units+2 < cLine)(e:B.units=A.units):(iY P w).knd.room B:=by show B.units+1 < cLine;omega
theorem gM(hr:dW k A):A.units+2 < cLine:=aa7 (Nat.add_le_add_left (by decide:2<=64) _) hr.units
section
variable [DecidableEq κ] {kk:KK P w κ} {xs:List (κ×Addr×V)} {k:κ} {v:V}
theorem yZ:(fc xs k a v).map (·.1)=if (jV xs k).isSome then xs.map (·.1)else xs.map (·.1)++[k]:=by
 unfold fc
 split
 ·rw [ai7]
  refine List.map_congr_left λx _=>?_;show(if x.1=k then(x.1,x.2.1,v)else x).1=x.1
  split<;>rfl
 ·rw [ab3];rfl
theorem sg(h:jV xs k=none):k∉xs.map (·.1):=by
 intro hm;obtain⟨x,hx,rfl⟩:=ac4.mp hm;unfold jV at h
 cases e:xs.find? λy=>decide (y.1=x.1)with
 | none=>exact absurd (List.find?_eq_none.mp e x hx) (by simp)
 | some y=>rw [e]at h;cases h
theorem bK.put(D:bK kk H d xs)(hk:kk.at_ H k a)(hl:xs.length < 100000):bK kk (upd H d (dO kk d (fc xs k a v))) d (fc xs k a v):=by
 have nt:∀vs,H d≠some (.tup vs):=λvs e=>by rw [D.ob]at e;cases e
 refine⟨af,λx hx=>?_,?_,?_⟩
 ·refine kk.upd_ ?_ nt
  unfold fc at hx
  split at hx
  ·obtain⟨y,hy,rfl⟩:=ac4.mp hx
   have:=D.ks y hy
   show kk.at_ H (if y.1=k then(y.1,y.2.1,v)else y).1 (if y.1=k then(y.1,y.2.1,v)else y).2.1
   split<;>exact this
  ·rcases ac8.mp hx with hx | hx
   ·exact D.ks x hx
   ·rw [ac1.mp hx];exact hk
 ·rw [yZ]
  cases e:jV xs k with
  | none=>
   show(xs.map (·.1)++[k]).Nodup
   refine an2.mpr ⟨D.nd,by simp,λx hx y hy=>?_⟩;rw [ac1.mp hy];rintro rfl;exact sg e hx
  | some z=>exact D.nd
 ·unfold fc
  split
  ·rw [aa0];omega
  ·rw [ab4];simp;omega
theorem bK.upd{z:Addr}{o:HO}(D:bK kk H d xs)(hz:d≠z)(nt:∀vs,H z≠some (.tup vs)):bK kk (upd H z o) d xs:=⟨by rw [aj hz];exact D.ob,λx hx=>kk.upd_ (D.ks x hx) nt,D.nd,D.sz⟩
theorem kZ:jV (fc xs k a v) k=some v:=by
 unfold fc
 cases e:jV xs k with
 | none=>
  show jV (xs++[(k,a,v)]) k=some v;unfold jV at e |-;rw [List.find?_append]
  cases e2:xs.find? λx=>decide (x.1=k)with
  | some y=>rw [e2]at e;cases e
  | none=>simp
 | some z=>
  show jV (xs.map _) k=some v;have e0:=e;unfold jV at e0 |-;rw [List.find?_map]
  have hf:(λx:κ×Addr×V=>decide (x.1=k))∘(λx=>if x.1=k then(x.1,x.2.1,v)else x)=λx=>decide (x.1=k):=by
   funext x
   show decide ((if x.1=k then(x.1,x.2.1,v)else x).1=k)=decide (x.1=k)
   split<;>rfl
  rw [hf]
  cases e2:xs.find? λx=>decide (x.1=k)with
  | none=>rw [e2]at e0;cases e0
  | some y=>
   have:y.1=k:=by have:=List.find?_some e2;simpa using this
   show some ((if y.1=k then(y.1,y.2.1,v)else y).2.2)=some v;rw [if_pos this]
theorem iq{k':κ}(h:k'≠k):jV (fc xs k a v) k'=jV xs k':=by
 unfold fc
 split
 ·unfold jV
  rw [List.find?_map]
  have hf:(λx:κ×Addr×V=>decide (x.1=k'))∘(λx=>if x.1=k then(x.1,x.2.1,v)else x)=λx=>decide (x.1=k'):=by
   funext x
   show decide ((if x.1=k then(x.1,x.2.1,v)else x).1=k')=decide (x.1=k')
   split<;>rfl
  rw [hf]
  cases e2:xs.find? λx=>decide (x.1=k')with
  | none=>rfl
  | some y=>
   have hy:y.1=k':=by have:=List.find?_some e2;simpa using this
   show some ((if y.1=k then(y.1,y.2.1,v)else y).2.2)=some y.2.2;rw [if_neg (by rw [hy];exact h)]
 ·unfold jV
  rw [List.find?_append]
  cases e2:xs.find? λx=>decide (x.1=k')with
  | some y=>rfl
  | none=>
   have:decide (k=k')=false:=decide_eq_false (λz=>h z.symm)
   simp [this]
end
def qS:List (Option Int)->Option (List Int)
 | []=>some []
 | none::_=>none
 | some x::l=>(qS l).map (x::·)
theorem rM:∀{l:List (Option Int)} {r:List Int},l=r.map some->qS l=some r
 | [],[],_=>rfl
 | [],_::_,h=>by cases h
 | x::l,[],h=>by cases h
 | x::l,y::r,h=>by
  rw [ad0]at h;cases h
  show(qS (r.map some)).map (y::·)=_
  rw [rM rfl];rfl
theorem rL:∀{l:List (Option Int)} {i:Nat},l[i]?=some none->qS l=none
 | [],_,h=>by cases h
 | none::_,_,_=>rfl
 | some x::l,0,h=>by cases h
 | some x::l,i+1,h=>by
  show(qS l).map (x::·)=none
  rw [rL (l:=l) (i:=i) h];rfl
def mw(Ss:List bS)(ms:List Int)(b:Option (List Int))(c:List Int):List (Option Int):=List.zipWith (λS m=>S.after m b c) Ss ms
def eC(Ss:List bS)(ms:List Int)(b:Option (List Int))(c:List Int):Option (List Int):=qS (mw Ss ms b c)
def cT(Ss:List bS)(ms:List Int)(b:Option (List Int)):Bool:=(List.zipWith (λS m=>S.closes m b) Ss ms).all id
abbrev MS:=Option (List Int)×List Int
variable {met:List MS} {s:MS}
def dw(Ss:List bS)(s:MS)(c:List Int):Option MS:=(eC Ss s.2 s.1 c).map λms=>(some c,ms)
def b0(s:MS):List (Option (List Int)):=[s.1,some s.2]
theorem rA{t:MS}(h:b0 s=b0 t):s=t:=by
 obtain⟨a,b⟩:=s;obtain⟨c,d⟩:=t;unfold b0 at h;simp at h;rw [h.1,h.2]
def eG(Ss:List bS)(cols:List (List Int))(met:List MS)(s:MS)(xs:List (List Int×Addr×V)):Prop:=
 (∀c∈cols,∀s',dw Ss s c=some s'->∃j:Nat,met[j]?=some s'/\jV xs c=some (.int j))/\(∀c,(c∈cols->dw Ss s c=none)->jV xs c=none)/\xs.map (·.1)=cols.filter λc=>(dw Ss s c).isSome
theorem eG.more(h:eG Ss cols met s xs)(t:List MS):eG Ss cols (met++t) s xs:=
 ⟨λc hc s' e=>let ⟨j,h1,h2⟩:=h.1 c hc s' e;⟨j,by rw [ab7 (aa1.mp h1).1];exact h1,h2⟩,h.2⟩
theorem eG.put{s':MS}(h:eG Ss (cols.take i) met s xs)(hc:cols[i]?=some c)(hn:dw Ss s c=some s')(hj:met[j]?=some s')(hnd:cols.Nodup):eG Ss (cols.take (i+1)) met s (fc xs c a (.int j)):=by
 have et:cols.take (i+1)=cols.take i++[c]:=by rw [ac5,hc];rfl
 rw [et]
 have hct:c∉cols.take i:=λhm=>by
  obtain⟨k,hk⟩:=ag7 hm
  have hki:k < i:=by
   have:=(aa1.mp hk).1
   rw [ac3]at this;omega
  rw [ah6,if_pos hki]at hk;obtain⟨k1,k2⟩:=aa1.mp hk;obtain⟨i1,i2⟩:=aa1.mp hc
  have:=(List.getElem_inj hnd).mp (k2.trans i2.symm)
  omega
 refine⟨?_,?_,?_⟩
 rotate_left
 rotate_left
 ·have h0:=h.2.1 c λhm=>absurd hm hct
  unfold fc;rw [h0,an0,<-h.2.2];simp [hn]
 ·intro c' hc' t ht
  by_cases e:c'=c
  ·subst e
   rw [hn]at ht;cases ht;exact⟨j,hj,kZ⟩
  ·rcases ac8.mp hc' with hc' | hc'
   ·rw [iq e]
    exact h.1 c' hc' t ht
   ·exact absurd (ac1.mp hc') e
 ·intro c' hc'
  have e:c'≠c:=λe=>by
   have:=hc' (by rw [e];simp)
   rw [e,hn]at this;cases this
  rw [iq e];exact h.2.1 c' λhm=>hc' (by simp [hm])
theorem eG.skip(h:eG Ss (cols.take i) met s xs)(hc:cols[i]?=some c)(hn:dw Ss s c=none):eG Ss (cols.take (i+1)) met s xs:=by
 have et:cols.take (i+1)=cols.take i++[c]:=by rw [ac5,hc];rfl
 rw [et];refine⟨?_,?_,?_⟩
 ·intro c' hc' t ht
  rcases ac8.mp hc' with hc' | hc'
  ·exact h.1 c' hc' t ht
  ·rw [ac1.mp hc',hn]at ht
   cases ht
 ·intro c' hc'
  refine h.2.1 c' λhm=>hc' (by simp [hm])
 ·rw [an0,<-h.2.2]
  simp [hn]
def kR(met:List MS)(xs:List (List (Option (List Int))×Addr×V)):Prop:=(∀(j:Nat) (s:MS),met[j]?=some s->jV xs (b0 s)=some (.int j))/\∀k,jV xs k≠none->∃s∈met,k=b0 s
theorem kR.fresh{xs:List (List (Option (List Int))×Addr×V)}(h:kR met xs)(e:jV xs (b0 s)=none):s∉met:=λhs=>by
 obtain⟨j,hj⟩:=ag7 hs;rw [h.1 j s hj]at e;cases e
theorem kR.known{xs:List (List (Option (List Int))×Addr×V)}(h:kR met xs)(e:jV xs (b0 s)≠none):∃j:Nat,met[j]?=some s/\jV xs (b0 s)=some (.int j):=by
 obtain⟨t,ht,e2⟩:=h.2 _ e;cases rA e2;obtain⟨j,hj⟩:=ag7 ht;exact⟨j,hj,h.1 j s hj⟩
theorem kR.put{xs:List (List (Option (List Int))×Addr×V)}(h:kR met xs)(hs:s∉met):kR (met++[s]) (fc xs (b0 s) a (.int met.length)):=by
 constructor
 ·intro j t ht
  by_cases hj:j < met.length
  ·rw [ab7 hj]at ht
   have hne:b0 t≠b0 s:=λe=>hs (by rw [<-rA e];exact ac0 ht);rw [iq hne];exact h.1 j t ht
  ·rw [ac6 ()]at ht
   have h0:j - met.length=0:=by
    have:=(aa1.mp ht).1
    simp at this;omega
   rw [h0]at ht;cases ht;rw [kZ,show j=met.length by omega]
 ·intro k hk
  by_cases e:k=b0 s
  ·exact⟨s,by simp,e⟩
  ·rw [iq e]at hk
   obtain⟨t,ht,e2⟩:=h.2 k hk;exact⟨t,by simp [ht],e2⟩
theorem oI[DecidableEq α]:∀(l u:List α),l.Nodup->(∀x∈l,x∈u)->l.length<=u.length
 | [],_,_,_=>ac2 _
 | x::l,u,h,hs=>by
  have hx:=hs x (by simp);have hn:=ai8.mp h
  have:=oI l (u.erase x) hn.2 λy hy=>(List.mem_erase_of_ne (λe=>hn.1 (by rw [<-e];exact hy))).mpr (hs y (by simp [hy]))
  rw [List.length_erase_of_mem hx]at this
  have:0 < u.length:=List.length_pos_of_mem hx
  rw [ad6];omega
structure w5(Ss:List bS)(cols:List (List Int))(met:List MS):Prop where
 nd:met.Nodup
 st:met[0]?=some (none,Ss.map (·.start))
 sub:∀(i:Nat) (s:MS),met[i]?=some s->0 < i->∃(j:Nat) (t:MS) (c:List Int),j < i/\met[j]?=some t/\c∈cols/\dw Ss t c=some s
theorem GJ{c:TT}{Z:L2.St}{X Y:Hp->Prop}(h:∀A B:Hp->Prop,(∀H,X H->A H)->(∀H,Y H->B H)->c Z H λb H1=>if b=true then A H1 else B H1):c Z H λb H1=>if b=true then X H1 else Y H1:=h X Y (λ_ x=>x) λ_ x=>x
def zF(zs:List Addr)(H H':Hp):Prop:=∀b o,b∉zs->H b=some o->H' b=some o
section
variable {it:Addr} {es:Array DictEntry} {ep:Nat}
end
section
variable {es:Array DictEntry} {ep:Nat}
end
section
variable [DecidableEq κ]
def Ff(kk:KK P w κ)(to:TE):TE:=λZ H Q=>to Z H λx H1=>∃d xs,x=.ref d/\bK kk H1 d xs/\∀(p:Addr) (ts:List Addr) (H2:Hp),H1 p=none->H2 p=some (.lst (ts.map V.ref))->ts.length=xs.length->(∀(j:Nat) (t:Addr) (e:κ×Addr×V),ts[j]?=some t->xs[j]?=some e->H1 t=none/\H2 t=some (.tup [.ref e.2.1,e.2.2]))->av H1 H2->Q (.ref p) H2
variable {kk':KK X.prog X.w κ}
end
def Itv(K:Frag)(a:Addr)(n:Nat):It:=
 ⟨λi H=>∃xs x,aH K H a xs/\xs.length=n/\i < n/\xs[n - 1 - i]?=some x,λi H x H'=>H'=H/\∀xs,aH K H a xs->xs[n - 1 - i]?=some x,λi _=>n<=i⟩
def F3(K:Frag)(ta:TA):TI:=λZ H R=>ta Z H λvs H1=>∃a xs,vs=[.ref a]/\aH K H1 a xs/\R (Itv K a xs.length) H1
section
variable {s:Shared} {r l:Addr} {items:Array Value}
end
def BN(K:Frag)(ta:TA):TE:=λZ H Q=>ta Z H λvs H1=>∃a xs,vs=[.ref a]/\aH K H1 a xs/\∀l,H1 l=none->Q (.ref l) (upd H1 l (.lst xs.reverse))
section
variable {f B fI L:Addr} {fd:FuncData} {ps qs:List Str} {sp sq:Sp} {no:List Str} {x y n r:Str} {np hpos rp rn spos:Pos} {ie ir:Nat}
end
end L2
namespace L3
open PySem PySem.Spec PyProof.Rows
section
variable {prog:Program} {w:World} {A:Around} {E:Value->Shared->Prop} {s:Shared} {e z TI TO i1 i2:Addr} {f1 f2:List Addr} {n1 n2 k:Nat} {P1 P2:Nat->Value->Prop} {S1 S2:Nat->Heap->Prop} {a b old:Value}
end
end L3
namespace L2
open PySem PySem.Spec PyProof.Rows
variable {K:Frag} {f:Addr} {fd:FuncData} {p0 p1 p2 p3 qual x:Str} {st:Stmt} {α:Type}
def G6(K:Frag)(l1 l2:Bool)(a1 a2:Addr):It:=
 ⟨λi H=>∃xs ys x y,iS K l1 H a1 xs/\iS K l2 H a2 ys/\xs[i]?=some x/\ys[i]?=some y,
  λi H v H'=>∃p q x y,v=.ref p/\H q=none/\H p=none/\p≠q/\H'=upd (upd H q (.tup [x,y])) p (.tup [.int i,.ref q])/\(∀xs,iS K l1 H a1 xs->xs[i]?=some x)/\∀ys,iS K l2 H a2 ys->ys[i]?=some y,
  λi H=>∃xs ys,iS K l1 H a1 xs/\iS K l2 H a2 ys/\(i=xs.length\/(i < xs.length/\i=ys.length))⟩
def Es(K:Frag)(ta:TA):TI:=λZ H R=>ta Z H λvs H1=>∃l1 l2 a1 a2,vs=[.ref a1,.ref a2]/\(∃xs,iS K l1 H1 a1 xs)/\(∃ys,iS K l2 H1 a2 ys)/\R (G6 K l1 l2 a1 a2) H1
theorem zJ:bootBuiltins "set"=some (.type "set"):=by decide +kernel
def jB(ns:List Int):Nat:=(PyProof.Rows.firstMet (λi=>ns.getD i 0) ns.length).length
def xO(K:Frag)(t:TA):TE:=λZ H Q=>t Z H λvs H1=>∃(a:Addr) (ns:List Int),vs=[.ref a]/\aH K H1 a (ns.map V.int)/\ns.length<=1000/\Q (.int (jB ns)) H1
theorem yX{X:Cx}{e:Expr}{t:TA}{p q pos pos2:Pos}(K:Frag)(hc:X.calm=true)(hg:Gl X "len")(hm:X.mg "len"=none)(hg2:Gl X "set")(hm2:X.mg "set"=none)(ha:PA X [e] t)(hK:X.K=K:=by rfl)(hs:starEach [e] X.env=[(false,eval e X.env)]:=by rfl):
  PE X (.Call (.Name "len" p) [.Call (.Name "set" q) [e] [] pos2] [] pos) (xO K t):=by
 subst hK;intro pins s Z H Q I h;refine ah5 (gN I hg hm boot_len (PyProof.Rows.callWith_builtin1 ?_ rfl rfl));show wpAny _ _ (spliced ((false,eval (.Call (.Name "set" q) [e] [] pos2) X.env)::backTo pos (starEach [] X.env))) _ _ s;refine Calls.spliced_cons (ah5 (gN I hg2 hm2 zJ (PyProof.Rows.callWith_type1 (c7 (ha pos2 pins s Z H _ I h) λus s1 zq0=>?_) (by rw [hs];rfl) ⋯)));obtain⟨vs,H1,I1,r1,a,ns,rfl,hl,n1,q⟩:=zq0;obtain⟨u,rfl,ru⟩:=eZ r1;cases ru;obtain⟨its,rv,pl,_⟩:=I1.list hl;have hlen:=rv.length;rw [aa0]at hlen;have hi:PyProof.Rows.IntsAre its ns:=vG rv;refine PySem.call_set_list (ns:=ns) (I1.ok.hd hc) pl.isList hi (by rw [ab1,<-hlen];exact aa7 (ae1 n1) ∅) λh' tk hS kp=>?_;refine Calls.spliced_nil ?_;obtain⟨o,es,ep,t',ho,hex,hd,_,_,_,hf,hn⟩:=hS;rw [show its.toArray.size=ns.length from by rw [ab1,hlen]]at hn;refine call_len_set ho hex hd hf ?_ ?_
 ·have h1:=PyProof.Rows.firstMet_length_le (λi=>ns.getD i 0) ns.length
  omega
 ·refine⟨.int (jB ns),H1,I1.kept (t':=tk+1+1) λb o e=>kp b o ?_ e,⟨_,by rw [hn];rfl⟩,q⟩
  exact ab9 e
theorem j5{val:Nat->Int}(x:Int):∀i,(∀j,j < i->val j=x)->PyProof.Rows.firstMet val i=if i=0 then []else [x]
 | 0,_=>rfl
 | i+1,h=>by
  rw [PyProof.Rows.firstMet_succ,j5 x i λj hj=>h j (Nat.lt_succ_of_lt hj),h i (ai2 i),if_neg (Nat.succ_ne_zero i)]
  by_cases h0:i=0
  ·rw [if_pos h0];rfl
  ·rw [if_neg h0];simp [PyProof.Rows.step_dedup]
theorem wo{ns:List Int}{x:Int}(hx:x∈ns):jB ns=1↔∀y∈ns,y=x:=by
 have em:∀k:Int,(PyProof.Rows.firstMet (λi=>ns.getD i 0) ns.length).any (· == k)=ns.any (· == k):=λk=>by
  rw [PyProof.Rows.firstMet_any];congr 1;refine List.ext_getElem (by simp) λi h1 h2=>?_;rw [List.getElem_map,List.getElem_range,ab5,aa2 h2];rfl
 constructor
 ·intro h y hy
  unfold jB at h;obtain⟨z,hz⟩:=List.length_eq_one_iff.mp h
  have on:∀k∈ns,k=z:=λk hk=>by
   have:=em k
   rw [hz,ao2.mpr ⟨k,hk,by simp⟩]at this;exact(by simpa using this.symm:z=k).symm
  rw [on y hy,on x hx]
 ·intro h
  unfold jB
  have l0:ns.length≠0:=λe=>by rw [af7.mp e]at hx;cases hx
  rw [j5 x _ λj hj=>?_,if_neg l0]
  ·rfl
  ·show ns.getD j 0=x
   rw [ab5,aa2 hj];exact h _ (ad7 hj)
seal PySem.wpAny
theorem GI{n:Nat}{us:List α}(h:us.length=n+1):∃x r,us=x::r/\r.length=n:=by
 cases us with
 | nil=>cases h
 | cons x r=>exact⟨x,r,rfl,Nat.succ.inj h⟩
theorem FF{us:List α}(h:us.length=1):∃x,us=[x]:=List.length_eq_one_iff.mp h
theorem HR{us:List α}(h:us.length=2):∃x0 x1,us=[x0,x1]:=by
 obtain⟨x0,r,rfl,hh⟩:=GI h;obtain⟨x1,rfl⟩:=FF hh;exact⟨x0,x1,rfl⟩
theorem HD{us:List α}(h:us.length=3):∃x0 x1 x2,us=[x0,x1,x2]:=by
 obtain⟨x0,r,rfl,hh⟩:=GI h;obtain⟨x1,x2,rfl⟩:=HR hh;exact⟨x0,x1,x2,rfl⟩
theorem HE{us:List α}(h:us.length=4):∃x0 x1 x2 x3,us=[x0,x1,x2,x3]:=by
 obtain⟨x0,r,rfl,hh⟩:=GI h;obtain⟨x1,x2,x3,rfl⟩:=HD hh;exact⟨x0,x1,x2,x3,rfl⟩
theorem HS{us:List α}(h:us.length=5):∃x0 x1 x2 x3 x4,us=[x0,x1,x2,x3,x4]:=by
 obtain⟨x0,r,rfl,hh⟩:=GI h;obtain⟨x1,x2,x3,x4,rfl⟩:=HE hh;exact⟨x0,x1,x2,x3,x4,rfl⟩
theorem us6{us:List α}(h:us.length=6):∃x0 x1 x2 x3 x4 x5,us=[x0,x1,x2,x3,x4,x5]:=by
 obtain⟨x0,r,rfl,hh⟩:=GI h;obtain⟨x1,x2,x3,x4,x5,rfl⟩:=HS hh;exact⟨x0,x1,x2,x3,x4,x5,rfl⟩
theorem bV.b1(F:bV K x qual st f fd)(h:∀kV doc pm an cdv ct x0,bindArgs (fnOf x qual (cz st) (bX st) (ak st) .none kV doc pm an cdv ct) ⟨[x0],[]⟩=pure ([p0].zip [x0]):=by intros;rfl):dm K fd [p0] []:=F.binds λ_ _ _ _ _ _ us hl=>by
 obtain⟨x0,rfl⟩:=FF hl;exact h ..
theorem bV.b2(F:bV K x qual st f fd)(h:∀kV doc pm an cdv ct x0 x1,bindArgs (fnOf x qual (cz st) (bX st) (ak st) .none kV doc pm an cdv ct) ⟨[x0,x1],[]⟩=pure ([p0,p1].zip [x0,x1]):=by intros;rfl):dm K fd [p0,p1] []:=F.binds λ_ _ _ _ _ _ us hl=>by
 obtain⟨x0,x1,rfl⟩:=HR hl;exact h ..
theorem bV.b3(F:bV K x qual st f fd)(h:∀kV doc pm an cdv ct x0 x1 x2,bindArgs (fnOf x qual (cz st) (bX st) (ak st) .none kV doc pm an cdv ct) ⟨[x0,x1,x2],[]⟩=pure ([p0,p1,p2].zip [x0,x1,x2]):=by intros;rfl):dm K fd [p0,p1,p2] []:=F.binds λ_ _ _ _ _ _ us hl=>by
 obtain⟨x0,x1,x2,rfl⟩:=HD hl;exact h ..
theorem bV.b4(F:bV K x qual st f fd)(h:∀kV doc pm an cdv ct x0 x1 x2 x3,bindArgs (fnOf x qual (cz st) (bX st) (ak st) .none kV doc pm an cdv ct) ⟨[x0,x1,x2,x3],[]⟩=pure ([p0,p1,p2,p3].zip [x0,x1,x2,x3]):=by intros;rfl):dm K fd [p0,p1,p2,p3] []:=F.binds λ_ _ _ _ _ _ us hl=>by
 obtain⟨x0,x1,x2,x3,rfl⟩:=HE hl;exact h ..
theorem bV.b5{p4:Str}(F:bV K x qual st f fd)(h:∀kV doc pm an cdv ct x0 x1 x2 x3 x4,bindArgs (fnOf x qual (cz st) (bX st) (ak st) .none kV doc pm an cdv ct) ⟨[x0,x1,x2,x3,x4],[]⟩=pure ([p0,p1,p2,p3,p4].zip [x0,x1,x2,x3,x4]):=by intros;rfl):dm K fd [p0,p1,p2,p3,p4] []:=F.binds λ_ _ _ _ _ _ us hl=>by
 obtain⟨x0,x1,x2,x3,x4,rfl⟩:=HS hl;exact h ..
theorem bV.b6{p4 p5:Str}(F:bV K x qual st f fd)(h:∀kV doc pm an cdv ct x0 x1 x2 x3 x4 x5,bindArgs (fnOf x qual (cz st) (bX st) (ak st) .none kV doc pm an cdv ct) ⟨[x0,x1,x2,x3,x4,x5],[]⟩=pure ([p0,p1,p2,p3,p4,p5].zip [x0,x1,x2,x3,x4,x5]):=by intros;rfl):dm K fd [p0,p1,p2,p3,p4,p5] []:=F.binds λ_ _ _ _ _ _ us hl=>by
 obtain⟨x0,x1,x2,x3,x4,x5,rfl⟩:=us6 hl;exact h ..
end L2
namespace K32
local macro_rules|`(~~~$f:ident $a*)=>`($f P w K mg base $a*)|`(~~~$f:ident)=>`($f P w K mg base)
local macro_rules|`(↑$x)=>`(some (.ref $x))
local macro_rules|`(⇑$x)=>`(some (.int $x))
open PySem PyProof.Rows L2
local macro_rules|`(tactic|tm_at "s")=>`(tactic| exact ⟨rfl, rfl, rfl, by decide +kernel, rfl, by decide +kernel, by decide +kernel⟩)
variable {C Cs a f l p q ru x z:Addr} {D us:List Int} {Dt:List (Str×V)} {Gs:List (Int->Prop)} {H H':Hp} {In:Addr->Str->Hp->Prop} {K:Frag} {P:Program} {Q:VK} {RIn:mV} {Ss:List bS} {b:Int×Int} {base:Heap} {bs:List (Int×Int)} {cols ln:List (List Int)} {fd:FuncData} {i m n nv:Nat} {met:List MS} {mg:Str->Option Value} {o t u x1 x2 x3 x4:Int} {ps:List Addr} {row:Str} {w:World} {ws:List Str} {wss:List (List Str)} {xs:List V} {α β:Type}
theorem cN{X:Cx}{x:Str}{e:Expr}{te:TE}{py spos:Pos}(hN:X.N.Nodup)(he:PE X e te)(hix:X.N[i]?=some x:=by rfl)(hx:X.env.scope.names.lookup x=some .local:=by rfl)(hs:swapsWith e (some (.Name x py)) spos.line X.env=pure false:=by rfl):PS X (.Assign [.Name x py] e spos) (wO te (iV i)):=tq hN hix (.inl hx) he hs (.inr hx)
theorem j7{X:Cx}{x:Str}{pos:Pos}(hN:X.N.Nodup)(hix:X.N[i]?=some x:=by rfl)(hx:X.env.scope.names.lookup x=some .local:=by rfl):PG X (.Name x pos) (iV i):=bQ hN hix (.inl hx) (.inr hx)
theorem HP:(10:Nat) ^ 40=10000000000000000000000000000000000000000:=by decide +kernel
theorem GW:(10:Nat) ^ 36=1000000000000000000000000000000000000:=by decide +kernel
variable {aM:Addr}
def cP(i:Nat):Stmt:=PySem.Challenge.pw_fourvoices_k32_walks_and_faults.main.body.getD i (.Pass ⟨0,0,0,0⟩)
abbrev mE:Stmt:=cP 6
theorem wj:ax ["column","voice"] ["column","voice"] (ak mE):=by tm_at "s"
abbrev wb:Stmt:=cP 7
theorem DD:ax ["column","first","second"] ["column","first","second"] (ak wb):=by tm_at "s"
abbrev v8:Stmt:=cP 34
theorem DC:ax ["before","column","voice"] ["before","column","voice"] (ak v8):=by tm_at "s"
abbrev fR:Stmt:=aS (cP 8) 0
theorem mJ:ax ["self","row"] ["self","row"] (ak fR):=by tm_at "s"
abbrev dh:Stmt:=aS (cP 8) 1
theorem tH:ax ["self"] ["self"] (ak dh):=by tm_at "s"
abbrev bN:Stmt:=aS (cP 8) 2
theorem qM:ax ["self"] ["self"] (ak bN):=by tm_at "s"
abbrev iH:Stmt:=aS (cP 8) 3
theorem qL:ax ["self","memory","before","column"] ["self","memory","before","column"] (ak iH):=by tm_at "s"
abbrev bZ:Stmt:=aS (cP 8) 4
theorem pq:ax ["self","memory","last"] ["self","memory","last"] (ak bZ):=by tm_at "s"
abbrev fS:Stmt:=aS (cP 9) 0
theorem mK:ax ["self","row","first","second","numbers"] ["self","row","first","second","numbers"] (ak fS):=by tm_at "s"
abbrev iI:Stmt:=aS (cP 9) 1
theorem qN:ax ["self","memory","before","column"] ["self","memory","before","column"] (ak iI):=by tm_at "s"
abbrev fg:Stmt:=aS (cP 10) 0
theorem lK:ax ["self","row","first","second","hours","numbers"] ["self","row","first","second","hours","numbers"] (ak fg):=by tm_at "s"
abbrev gU:Stmt:=aS (cP 10) 1
theorem pj:ax ["self","memory","before","column"] ["self","memory","before","column"] (ak gU):=by tm_at "s"
abbrev ff:Stmt:=aS (cP 11) 0
theorem lJ:ax ["self","row","voice","notes"] ["self","row","voice","notes"] (ak ff):=by tm_at "s"
abbrev gT:Stmt:=aS (cP 11) 1
theorem ph:ax ["self","memory","before","column"] ["self","memory","before","column"] (ak gT):=by tm_at "s"
abbrev fh:Stmt:=aS (cP 12) 0
theorem lL:ax ["self","row","voice","notes"] ["self","row","voice","notes"] (ak fh):=by tm_at "s"
abbrev gs:Stmt:=aS (cP 12) 1
theorem nA:ax ["self","memory","last"] ["self","memory","last"] (ak gs):=by tm_at "s"
abbrev fQ:Stmt:=aS (cP 35) 0
theorem mI:ax ["self","row","voice","numbers"] ["self","row","voice","numbers"] (ak fQ):=by tm_at "s"
abbrev iG:Stmt:=aS (cP 35) 1
theorem qK:ax ["self","memory","before","column"] ["self","memory","before","column"] (ak iG):=by tm_at "s"
abbrev fe:Stmt:=aS (cP 36) 0
theorem lI:ax ["self","row","first","second","numbers"] ["self","row","first","second","numbers"] (ak fe):=by tm_at "s"
abbrev gQ:Stmt:=aS (cP 36) 1
theorem sc_Alike_after:ax ["self","memory","before","column","now"] ["self","memory","before","column"] (ak gQ):=by tm_at "s"
abbrev fM:Stmt:=aS (cP 37) 0
theorem mG:ax ["self","row","voice","widest"] ["self","row","voice","widest"] (ak fM):=by tm_at "s"
abbrev jq:Stmt:=aS (cP 37) 1
theorem tF:ax ["self"] ["self"] (ak jq):=by tm_at "s"
abbrev iD:Stmt:=aS (cP 37) 2
theorem qG:ax ["self"] ["self"] (ak iD):=by tm_at "s"
abbrev iC:Stmt:=aS (cP 37) 3
theorem sc_Back_after:ax ["self","memory","before","column","step"] ["self","memory","before","column"] (ak iC):=by tm_at "s"
abbrev gR:Stmt:=aS (cP 37) 4
theorem pf:ax ["self","memory","last"] ["self","memory","last"] (ak gR):=by tm_at "s"
abbrev fO:Stmt:=aS (cP 27) 0
theorem mH:ax ["self","row","voice","most"] ["self","row","voice","most"] (ak fO):=by tm_at "s"
abbrev jr:Stmt:=aS (cP 27) 1
theorem tG:ax ["self"] ["self"] (ak jr):=by tm_at "s"
abbrev iF:Stmt:=aS (cP 27) 2
theorem qJ:ax ["self","memory","before","column"] ["self","memory","before","column"] (ak iF):=by tm_at "s"
abbrev fq:Stmt:=aS (cP 28) 0
theorem lO:ax ["self","row","voice","note","fewest","most"] ["self","row","voice","note","fewest","most"] (ak fq):=by tm_at "s"
abbrev iJ:Stmt:=aS (cP 28) 1
theorem qP:ax ["self"] ["self"] (ak iJ):=by tm_at "s"
abbrev gZ:Stmt:=aS (cP 28) 2
theorem pB:ax ["self","memory","before","column"] ["self","memory","before","column"] (ak gZ):=by tm_at "s"
abbrev gv:Stmt:=aS (cP 28) 3
theorem nB:ax ["self","memory","last"] ["self","memory","last"] (ak gv):=by tm_at "s"
abbrev fj:Stmt:=aS (cP 29) 0
theorem lM:ax ["self","row","turns","turn","inner"] ["self","row","turns","turn","inner"] (ak fj):=by tm_at "s"
abbrev iE:Stmt:=aS (cP 29) 1
theorem qH:ax ["self"] ["self"] (ak iE):=by tm_at "s"
abbrev gW:Stmt:=aS (cP 29) 2
theorem pk:ax ["self","memory","before","column"] ["self","memory","before","column"] (ak gW):=by tm_at "s"
abbrev jv:Stmt:=cP 41
theorem sc_is_number:ax ["word","figures"] ["word"] (ak jv):=by tm_at "s"
abbrev iK:Stmt:=cP 45
theorem qQ:ax ["numbers","voices"] ["numbers","voices"] (ak iK):=by tm_at "s"
abbrev ku:Stmt:=cP 46
theorem uY:ax ["numbers","ahead"] ["numbers","ahead"] (ak ku):=by tm_at "s"
abbrev mF:Stmt:=cP 47
theorem wm:ax ["row","numbers","voices"] ["row","numbers","voices"] (ak mF):=by tm_at "s"
abbrev ko:Stmt:=cP 48
theorem uW:ax ["row","numbers","voices"] ["row","numbers","voices"] (ak ko):=by tm_at "s"
abbrev mD:Stmt:=cP 49
theorem wg:ax ["row","numbers","voices"] ["row","numbers","voices"] (ak mD):=by tm_at "s"
abbrev kj:Stmt:=cP 50
theorem uU:ax ["row","numbers","voices"] ["row","numbers","voices"] (ak kj):=by tm_at "s"
abbrev my:Stmt:=cP 51
theorem wc:ax ["row","numbers","voices"] ["row","numbers","voices"] (ak my):=by tm_at "s"
abbrev mB:Stmt:=cP 52
theorem we:ax ["row","numbers","voices"] ["row","numbers","voices"] (ak mB):=by tm_at "s"
abbrev kC:Stmt:=cP 53
theorem u5:ax ["row","numbers","voices"] ["row","numbers","voices"] (ak kC):=by tm_at "s"
abbrev km:Stmt:=cP 54
theorem uV:ax ["row","numbers","voices"] ["row","numbers","voices"] (ak km):=by tm_at "s"
abbrev kr:Stmt:=cP 55
theorem uX:ax ["row","numbers","voices"] ["row","numbers","voices"] (ak kr):=by tm_at "s"
abbrev iR:Stmt:=cP 57
theorem sc_plain_rule:ax ["row","voices","words"] ["row","voices"] (ak iR):=by tm_at "s"
abbrev iL:Stmt:=cP 58
theorem sc_every_rule:ax ["row","voices","words","turns","turn","inner"] ["row","voices"] (ak iL):=by tm_at "s"
abbrev gK:Stmt:=cP 59
theorem sc_read_rule:ax ["text","voices","row","rule"] ["text","voices","row"] (ak gK):=by tm_at "s"
abbrev fm:Stmt:=aS (cP 15) 0
theorem lN:ax ["self","ranges","rules"] ["self","ranges","rules"] (ak fm):=by tm_at "s"
abbrev pe:Stmt:=cP 18
theorem sc_weight:ax ["score","told","low","high","rule"] ["score"] (ak pe):=by tm_at "s"
abbrev gx:Stmt:=cP 19
theorem sc_not_too_wide:ax ["score","told"] ["score"] (ak gx):=by tm_at "s"
abbrev g7:Stmt:=cP 63
theorem sc_voice_range:ax ["row","words","bounds"] ["row"] (ak g7):=by tm_at "s"
abbrev v9:Stmt:=cP 64
theorem sc_read:ax ["text","ranges","rules","number","row","bounds"] ["text"] (ak v9):=by tm_at "s"
abbrev iQ:Stmt:=cP 16
theorem qR:ax ["column","low","high"] ["column","low","high"] (ak iQ):=by tm_at "s"
abbrev mz:Stmt:=cP 17
theorem sc_columns:ax ["score","told","low","high","longer","column"] ["score"] (ak mz):=by tm_at "s"
abbrev fw:Stmt:=cP 22
theorem sc_memories_after:ax ["rules","memories","before","column","told","place","rule","memory"] ["rules","memories","before","column"] (ak fw):=by tm_at "s"
abbrev ju:Stmt:=cP 23
theorem tJ:ax ["rules","memories","last"] ["rules","memories","last"] (ak ju):=by tm_at "s"
abbrev eQ:Stmt:=aS (cP 24) 0
theorem kD:ax ["self"] ["self"] (ak eQ):=by tm_at "s"
abbrev gY:Stmt:=aS (cP 24) 1
theorem pA:ax ["self"] ["self"] (ak gY):=by tm_at "s"
abbrev jt:Stmt:=aS (cP 24) 2
theorem tI:ax ["self","state","column"] ["self","state","column"] (ak jt):=by tm_at "s"
abbrev gX:Stmt:=aS (cP 24) 3
theorem pz:ax ["self","state"] ["self","state"] (ak gX):=by tm_at "s"
abbrev eB:Stmt:=aS (cP 25) 0
theorem sc_Machine___init__:ax ["self","score","beginning"] ["self","score"] (ak eB):=by tm_at "s"
abbrev fP:Stmt:=aS (cP 25) 1
theorem sc_Machine_build:ax ["self","met","numbers","steps","rules","last","memories","leads","column","found"] ["self","met","numbers","steps"] (ak fP):=by tm_at "s"
abbrev gu:Stmt:=aS (cP 25) 2
theorem sc_Machine_walk:ax ["self","line","state","column"] ["self","line"] (ak gu):=by tm_at "s"
abbrev pd:Stmt:=cP 66
theorem y9:ax ["_law_script","_law_k"] ["_law_script","_law_k"] (ak pd):=by tm_at "s"
abbrev jx:Stmt:=cP 67
theorem sc_law_draws:ax ["_law_cell","_law_many","_law_digits","_law_rest","_law_seed","_law_found","_law_k"] ["_law_cell","_law_many"] (ak jx):=by tm_at "s"
abbrev iN:Stmt:=cP 68
theorem sc_law_ranges:ax ["_law_script","_law_most","_law_ways","_law_voices","_law_great","_law_low","_law_far","_law_found","_law_k","_law_wide","_law_first"] ["_law_script","_law_most"] (ak iN):=by tm_at "s"
abbrev g6:Stmt:=cP 69
theorem sc_law_columns:ax ["_law_ranges_here","_law_found","_law_low","_law_high","_law_longer","_law_column","_law_note"] ["_law_ranges_here"] (ak g6):=by tm_at "s"
abbrev kz:Stmt:=cP 70
theorem sc_law_some:ax ["_law_ways","_law_least","_law_wide","_law_many"] ["_law_ways","_law_least","_law_wide"] (ak kz):=by tm_at "s"
abbrev fU:Stmt:=cP 71
theorem sc_law_pair_rule:ax ["_law_ways","_law_ranges_here","_law_kind","_law_one","_law_other","_law_least","_law_wide","_law_some_here","_law_by"] ["_law_ways","_law_ranges_here","_law_kind"] (ak fU):=by tm_at "s"
abbrev fv:Stmt:=cP 72
theorem sc_law_voice_rule:ax ["_law_ways","_law_ranges_here","_law_kind","_law_voice","_law_low","_law_high","_law_wide","_law_most"] ["_law_ways","_law_ranges_here","_law_kind"] (ak fv):=by tm_at "s"
abbrev kx:Stmt:=cP 73
theorem sc_law_rule:ax ["_law_cell","_law_ranges_here","_law_ways","_law_kind","_law_by"] ["_law_cell","_law_ranges_here"] (ak kx):=by tm_at "s"
abbrev ky:Stmt:=cP 74
theorem uZ:ax ["_law_rule_here"] ["_law_rule_here"] (ak ky):=by tm_at "s"
abbrev jz:Stmt:=cP 75
theorem sc_law_rules:ax ["_law_script","_law_ranges_here","_law_cap","_law_weight_of","_law_many","_law_found","_law_k","_law_cell","_law_rule_here"] ["_law_script","_law_ranges_here","_law_cap"] (ak jz):=by tm_at "s"
abbrev mC:Stmt:=cP 76
theorem sc_law_row:ax ["_law_rule_here","_law_words","_law_part"] ["_law_rule_here"] (ak mC):=by tm_at "s"
abbrev kB:Stmt:=cP 77
theorem sc_law_text:ax ["_law_ranges_here","_law_rules_here","_law_rows"] ["_law_ranges_here","_law_rules_here"] (ak kB):=by tm_at "s"
abbrev kA:Stmt:=cP 78
theorem u4:ax ["_law_rule_here","_law_column"] ["_law_rule_here","_law_column"] (ak kA):=by tm_at "s"
abbrev eS:Stmt:=cP 79
theorem sc_law_pair_broken:ax ["_law_rule_here","_law_line_here","_law_k","_law_span_here"] ["_law_rule_here","_law_line_here","_law_k"] (ak eS):=by tm_at "s"
abbrev fu:Stmt:=cP 80
theorem lQ:ax ["_law_first","_law_second","_law_most"] ["_law_first","_law_second","_law_most"] (ak fu):=by tm_at "s"
abbrev iM:Stmt:=cP 81
theorem sc_law_broken:ax ["_law_rule_here","_law_line_here","_law_k","_law_notes","_law_moves"] ["_law_rule_here","_law_line_here","_law_k"] (ak iM):=by tm_at "s"
abbrev fT:Stmt:=cP 82
theorem sc_law_ill_close:ax ["_law_rule_here","_law_line_here","_law_notes"] ["_law_rule_here","_law_line_here"] (ak fT):=by tm_at "s"
abbrev jy:Stmt:=cP 83
theorem sc_law_fault:ax ["_law_ranges_here","_law_rules_here","_law_line_here","_law_k","_law_row_here","_law_low","_law_high"] ["_law_ranges_here","_law_rules_here","_law_line_here"] (ak jy):=by tm_at "s"
abbrev gw:Stmt:=cP 84
theorem sc_law_unbroken:ax ["_law_line_here","_law_some_here","_law_at_here","_law_rules_here","_law_k","_law_column","_law_longer","_law_ill"] ["_law_line_here","_law_some_here","_law_at_here","_law_rules_here"] (ak gw):=by tm_at "s"
abbrev kv:Stmt:=cP 85
theorem sc_law_line:ax ["_law_line_here","_law_cells_here","_law_ranges_here","_law_rules_here","_law_some_here","_law_cell"] ["_law_line_here","_law_cells_here","_law_ranges_here","_law_rules_here"] (ak kv):=by tm_at "s"
abbrev jw:Stmt:=cP 86
theorem sc_law_cells:ax ["_law_script","_law_start","_law_many","_law_found","_law_k"] ["_law_script","_law_start","_law_many"] (ak jw):=by tm_at "s"
abbrev iO:Stmt:=cP 87
theorem sc_law_spoilt:ax ["_law_line_here","_law_cell","_law_at_here","_law_column","_law_voice"] ["_law_line_here","_law_cell"] (ak iO):=by tm_at "s"
abbrev jA:Stmt:=cP 88
theorem tK:ax ["_law_found"] ["_law_found"] (ak jA):=by tm_at "s"
abbrev iP:Stmt:=cP 89
theorem sc_law_stands:ax ["_law_machine","_law_state","_law_told","_law_sound","_law_ends"] ["_law_machine","_law_state","_law_told","_law_sound"] (ak iP):=by tm_at "s"
abbrev ft:Stmt:=cP 90
theorem lP:ax ["_law_rules_here","_law_line_here"] ["_law_rules_here","_law_line_here"] (ak ft):=by tm_at "s"
abbrev rK:Stmt:=cP 91
theorem sc_law:ax ["_law_script","_law_ranges_here","_law_rules_here","_law_many","_law_line_here","_law_machine","_law_hurt","_law_lost","_law_state","_law_k","_law_told","_law_sound","_law_handed"] ["_law_script"] (ak rK):=by tm_at "s"
structure Txt(mg:Str->Option Value)(aM:Addr):Prop where
 n_len:mg "len"=none
 n_set:mg "set"=none
 n_any:mg "any"=none
 n_range:mg "range"=none
 n_all:mg "all"=none
 n_min:mg "min"=none
 n_max:mg "max"=none
 n_abs:mg "abs"=none
 n_tuple:mg "tuple"=none
 n_list:mg "list"=none
 n_isinstance:mg "isinstance"=none
 n_bool:mg "bool"=none
 n_int:mg "int"=none
 n_str:mg "str"=none
 n_divmod:mg "divmod"=none
 n_enumerate:mg "enumerate"=none
 n_zip:mg "zip"=none
 n_reversed:mg "reversed"=none
 g_FIGURES:∃u,mg "FIGURES"=some u/\aX (.str "0123456789") u
 g_MOST_FIGURES:∃u,mg "MOST_FIGURES"=some u/\aX (.int 40) u
 g_MOST_VOICES:∃u,mg "MOST_VOICES"=some u/\aX (.int 4) u
 g_MOST_RULES:∃u,mg "MOST_RULES"=some u/\aX (.int 12) u
 g_MOST_WEIGHT:∃u,mg "MOST_WEIGHT"=some u/\aX (.int 400) u
 g_MOST_NUMBERS:∃u,mg "MOST_NUMBERS"=some u/\aX (.int 12) u
 g_NO_LEAP:∃u,mg "NO_LEAP"=some u/\aX (.int 0) u
 g_LEAP_UP:∃u,mg "LEAP_UP"=some u/\aX (.int 1) u
 g_LEAP_DOWN:∃u,mg "LEAP_DOWN"=some u/\aX (.int 2) u
 g_START:∃u,mg "START"=some u/\aX (.int 0) u
 g_MAKERS:∃u,mg "MAKERS"=some u/\aX (.ref aM) u
structure FN(mg:Str->Option Value)(aM aI:Addr):Prop extends Txt mg aM where
 g_INNER_KINDS:∃u,mg "INNER_KINDS"=some u/\aX (.ref aI) u
local macro_rules|`(tactic|tm_at "r")=>`(tactic| (try dsimp only [↓rJ, ↓uS, ↓nH, ↓se, ↓sr, ↓su, ↓sv, ↓sy, ↓nK, ↓nL, Fj, F7, jI, jU, ui, uh, Aq, uf, Av, ug, jF, xP, wO, iV, tC, Fi, HC, BM, Fm, Eh, BL, Fd, vi, rR, wU, Fc, Hz, Fh, Hy, HB, tR, L2.start, List.map_cons, List.map_nil, List.length_cons, List.length_nil, List.replicate, List.cons_append, List.nil_append, List.set_cons_zero, List.set_cons_succ, rJ, uS, nH, se, sr, su, sv, sy, nK, nL]) <;> (try simp only [↓rJ, ↓uS, ↓nH, ↓se, ↓sr, ↓su, ↓sv, ↓sy, ↓nK, ↓nL, ↓itD, ↓itN, Fj, F7, jI, jU, ui, uh, Aq, uf, Av, ug, jF, xP, wO, iV, Fn, tC, Fi, HC, BM, rS, Fm, Eh, BL, Fd, vi, rR, wU, Fc, Hz, Fh, vh, BQ, vj, Hy, HB, xQ, tR, Hw, Hx, Er, DV, FY, vq, rI, rU, L2.start, vB, vC, vD, zX, Cz, zS, zV, zT, zW, zU, List.map_cons, List.map_nil, List.length_cons, List.length_nil, List.replicate, List.cons_append, List.nil_append, List.append_nil, List.getElem?_cons_zero, List.getElem?_cons_succ, List.set_cons_zero, List.set_cons_succ, Option.some.injEq, Ep, zQ, DT, DR, V.int.injEq, V.str.injEq, V.bl.injEq, V.ref.injEq, V.ty.injEq, List.cons.injEq, and_true, true_and, GQ, DW, DX, Ae, BK, Ef, BP, Eg, F4, DJ, DK, F3, BN, Ff, F5, F2, Ad, Es, wR, Hj, zY, FZ, Ed, wQ, BH, GA, Gx, BO, BG, xN, BJ, BF, Int.zero_add, if_true, Bool.false_eq_true, if_false, Zr, List.getD_cons_zero, List.getD_cons_succ, DQ, En, FR, decide_eq_true_eq, reduceCtorEq, false_and, DS, false_or, or_false, List.length_map, GD, GF, HQ, HA, zP, CA, Bool.not_eq_true', ite_not, rJ, uS, nH, se, sr, su, sv, sy, nK, nL]) <;> try simp only [yu, yp, yo, Cw, Cy, yq, yt, zR, yr, zQ, DT, DR, DQ, and_true, true_and, V.int.injEq, V.str.injEq, V.bl.injEq, V.ref.injEq, reduceCtorEq, false_and, DS, false_or, or_false])|`(tactic|tm_at "f")=>`(tactic| simp only [jg, sI, String.reduceEq, if_false, if_true, List.lookup])
def rO:Sp:=λvs H Q _=>∃z,vs=[.str z]/\z.length<=10000/\∀H',av H H'->Q (.bl (ud z.cps.toList)) H'
def fJ(K:Frag):Sp:=λvs H Q _=>∃(c:Addr) (v:Int) (us:List Int),vs=[.ref c,.int v]/\cM K H c (us.map V.int)/\1<=v/\v<=us.length/\Q (.int (aF us v)) H
def pP(K:Frag):Sp:=λvs H Q _=>∃(c:Addr) (a b:Int) (us:List Int),vs=[.ref c,.int a,.int b]/\cM K H c (us.map V.int)/\1<=a/\a<=us.length/\1<=b/\b<=us.length/\Q (.int (aF us b - aF us a)) H
def cw(K:Frag):Sp:=λvs H Q _=>∃(x C dx:Addr) (fs:List (Str×V)) (row:Str),vs=[.ref x,.str row]/\H x=some (.ins C dx fs)/\vm K C/\NoAttr K C "row"/\fs.length < 100/\Q .non (upd H x (.ins C dx (bu "row" (.str row) fs)))
def cL(n:Nat)(v:List V->V):Sp:=λvs H Q _=>vs.length=n/\Q (v vs) H
def GV(K:Frag):Sp:=λvs H Q _=>∃(r C dx:Addr) (fs:List (Str×V)) (row:Str),vs=[.ref r]/\H r=some (.ins C dx fs)/\vm K C/\NoAttr K C "row"/\fs.lookup (Str.ofString "row")=some (.str row)/\Q (.str row) H
def D6(vs:List V):V:=vs.getD 1 .non
def eE(K:Frag):Sp:=λvs H Q _=>∃(q:Addr) (xs:List V) (j:Int),vs=[.ref q,.int j]/\aH K H q xs/\Q (.bl (decide (1<=(xs.length:Int) - j) && decide ((xs.length:Int) - j<=12))) H
def cq(K:Frag):Sp:=λvs H Q _=>∃(q:Addr) (ns:List Int) (nv:Int),vs=[.ref q,.int nv]/\aH K H q (ns.map V.int)/\ns.length<=1000/\∀H',av H H'->Q (.bl (ns.all λn=>decide (1<=n) && decide (n<=nv))) H'
def lU(P:Program)(w:World)(K:Frag)(mg:Str->Option Value)(base:Heap)(aM:Addr)(k:Nat):Sp:=λvs H Q _=>∃(row kind:Str) (ns:List Int) (nv:Int) (D:List (Str×V)) (f:Addr) (sp:Sp) (Res:V->Hp->Prop),vs=[.str row,.int nv]/\gj row kind ns/\l6 K aM D/\KTD.datumAt kind D=↑f/\
 ~~~fF k f ["row","numbers","voices"] sp/\(∀q H' Q',av H H'->H' q=some (.lst (ns.map V.int))->(∀v H'',Res v H''->Q' v H'')->sp [.str row,.ref q,.int nv] H' Q' E0)/\∀v H',Res v H'->Q v H'
def Bu(P:Program)(w:World)(K:Frag)(mg:Str->Option Value)(base:Heap)(aM:Addr)(k:Nat):Sp:=λvs H Q _=>∃(row kind:Str) (ns:List Int) (nv z:Int) (D:List (Str×V)) (f:Addr) (sp:Sp) (Res:V->Hp->Prop),vs=[.str row,.int nv,.int z]/\gj row kind ns/\kind.cps.toList.head?≠some 101/\l6 K aM D/\KTD.datumAt kind D=↑f/\
 ~~~fF k f ["row","numbers","voices"] sp/\(∀q H' Q',av H H'->H' q=some (.lst (ns.map V.int))->(∀v H'',Res v H''->Q' v H'')->sp [.str row,.ref q,.int nv] H' Q' E0)/\∀v H',Res v H'->v≠.non/\Q v H'
def eL(row:Str)(x1 x2:Int)(n:Addr):List (Str×V):=bu "numbers" (.ref n) (bu "second" (.int x2) (bu "first" (.int x1) (bu "row" (.str row) [])))
def i9(C:Addr)(row:Str)(x1 x2:Int)(D:List Int):mV:=λr H=>∃(dx n:Addr),H r=some (.ins C dx (eL row x1 x2 n))/\H n=some (.lst (D.map V.int))
structure zx(K:Frag)(C:Addr)(c1 c2 c3 c4:Str):Prop where
 cl:vm K C
 n1:NoAttr K C c1
 n2:NoAttr K C c2
 n3:NoAttr K C c3
 n4:NoAttr K C c4
abbrev nG(K:Frag)(C:Addr):=zx K C "row" "first" "second" "numbers"
def pQ(K:Frag)(C:Addr):Sp:=λvs H Q _=>∃(x dx q:Addr) (row:Str) (x1 x2:Int) (D:List Int),vs=[.ref x,.str row,.int x1,.int x2,.ref q]/\H x=some (.ins C dx [])/\aH K H q (D.map V.int)/\D.length<=20/\
 ∀n H',H n=none->H'=upd (upd H n (.lst (D.map V.int))) x (.ins C dx (eL row x1 x2 n))->Q .non H'
def pR(K:Frag)(C:Addr):Sp:=λvs H Q _=>∃(q:Addr) (row:Str) (x1 x2:Int) (D:List Int) (nv:Int),vs=[.str row,.ref q,.int nv]/\aH K H q ((x1::x2::D).map V.int)/\1<=x1/\x1<=nv/\1<=x2/\x2<=nv/\1<=D.length/\D.length<=12/\
 ∀r H',av H H'->i9 C row x1 x2 D r H'->Q (.ref r) H'
def fE(a b:Int)(D:List Int):bS:=⟨1,0,λm _ us=>if aF us b - aF us a∈D then some m else none,λ_ _=>true⟩
def da(row:Str)(x1 x2 x3:Int)(n:Addr):List (Str×V):=bu "numbers" (.ref n) (bu "hours" (.int x3) (bu "second" (.int x2) (bu "first" (.int x1) (bu "row" (.str row) []))))
def gE(C:Addr)(row:Str)(x1 x2 x3:Int)(D:List Int):mV:=λr H=>∃(dx n:Addr),H r=some (.ins C dx (da row x1 x2 x3 n))/\H n=some (.lst (D.map V.int))
structure DM(K:Frag)(C:Addr)(c1 c2 c3 c4 c5:Str):Prop where
 cl:vm K C
 n1:NoAttr K C c1
 n2:NoAttr K C c2
 n3:NoAttr K C c3
 n4:NoAttr K C c4
 n5:NoAttr K C c5
abbrev kM(K:Frag)(C:Addr):=DM K C "row" "first" "second" "hours" "numbers"
def m7(K:Frag)(C:Addr):Sp:=λvs H Q _=>∃(x dx q:Addr) (row:Str) (x1 x2 x3:Int) (D:List Int),vs=[.ref x,.str row,.int x1,.int x2,.int x3,.ref q]/\H x=some (.ins C dx [])/\aH K H q (D.map V.int)/\D.length<=20/\
 ∀n H',H n=none->H'=upd (upd H n (.lst (D.map V.int))) x (.ins C dx (da row x1 x2 x3 n))->Q .non H'
def mP(K:Frag)(C:Addr):Sp:=λvs H Q _=>∃(q:Addr) (row:Str) (x1 x2 x3:Int) (D:List Int) (nv:Int),vs=[.str row,.ref q,.int nv]/\aH K H q ((x1::x2::x3::D).map V.int)/\1<=x1/\x1<=nv/\1<=x2/\x2<=nv/\1<=x3/\1<=D.length/\D.length<=12/\
 ∀r H',av H H'->gE C row x1 x2 x3 D r H'->Q (.ref r) H'
def ef(x1 x2 x3:Int)(D:List Int):bS:=⟨1,0,λm _ us=>if (aF us x2 - aF us x1) % x3∈D then some m else none,λ_ _=>true⟩
def gm(row:Str)(x1:Int)(n:Addr):List (Str×V):=bu "numbers" (.ref n) (bu "voice" (.int x1) (bu "row" (.str row) []))
def i8(C:Addr)(row:Str)(x1:Int)(D:List Int):mV:=λr H=>∃(dx n:Addr),H r=some (.ins C dx (gm row x1 n))/\H n=some (.lst (D.map V.int))
structure qV(K:Frag)(C:Addr)(c1 c2 c3:Str):Prop where
 cl:vm K C
 n1:NoAttr K C c1
 n2:NoAttr K C c2
 n3:NoAttr K C c3
abbrev nF(K:Frag)(C:Addr):=qV K C "row" "voice" "numbers"
def pJ(K:Frag)(C:Addr):Sp:=λvs H Q _=>∃(x dx q:Addr) (row:Str) (x1:Int) (D:List Int),vs=[.ref x,.str row,.int x1,.ref q]/\H x=some (.ins C dx [])/\aH K H q (D.map V.int)/\D.length<=20/\
 ∀n H',H n=none->H'=upd (upd H n (.lst (D.map V.int))) x (.ins C dx (gm row x1 n))->Q .non H'
def pK(K:Frag)(C:Addr):Sp:=λvs H Q _=>∃(q:Addr) (row:Str) (x1:Int) (D:List Int) (nv:Int),vs=[.str row,.ref q,.int nv]/\aH K H q ((x1::D).map V.int)/\1<=x1/\x1<=nv/\1<=D.length/\D.length<=12/\
 ∀r H',av H H'->i8 C row x1 D r H'->Q (.ref r) H'
def f6(x1:Int)(D:List Int):bS:=⟨1,0,λm b us=>match b with | none=>some m | some bs=>if aF us x1 - aF bs x1∈D then some m else none,λ_ _=>true⟩
def lT(K:Frag):Sp:=λvs H Q _=>∃(b c:Addr) (v:Int) (bs us:List Int),vs=[.ref b,.ref c,.int v]/\cM K H b (bs.map V.int)/\cM K H c (us.map V.int)/\1<=v/\v<=bs.length/\v<=us.length/\Q (.int (aF us v - aF bs v)) H
def dP(row:Str)(x1 x2:Int)(n:Addr):List (Str×V):=bu "numbers" (.ref n) (bu "second" (.int x2) (bu "first" (.int x1) (bu "row" (.str row) [])))
def gC(C:Addr)(row:Str)(x1 x2:Int)(D:List Int):mV:=λr H=>∃(dx n:Addr),H r=some (.ins C dx (dP row x1 x2 n))/\H n=some (.lst (D.map V.int))
abbrev kK(K:Frag)(C:Addr):=zx K C "row" "first" "second" "numbers"
def m5(K:Frag)(C:Addr):Sp:=λvs H Q _=>∃(x dx q:Addr) (row:Str) (x1 x2:Int) (D:List Int),vs=[.ref x,.str row,.int x1,.int x2,.ref q]/\H x=some (.ins C dx [])/\aH K H q (D.map V.int)/\D.length<=20/\
 ∀n H',H n=none->H'=upd (upd H n (.lst (D.map V.int))) x (.ins C dx (dP row x1 x2 n))->Q .non H'
def mM(K:Frag)(C:Addr):Sp:=λvs H Q _=>∃(q:Addr) (row:Str) (x1 x2:Int) (D:List Int) (nv:Int),vs=[.str row,.ref q,.int nv]/\aH K H q ((x1::x2::D).map V.int)/\1<=x1/\x1<=nv/\1<=x2/\x2<=nv/\1<=D.length/\D.length<=12/\
 ∀r H',av H H'->gC C row x1 x2 D r H'->Q (.ref r) H'
def eT(x1 x2:Int)(D:List Int):bS:=⟨1,0,λm b us=>match b with | none=>some m | some bs=>if aF us x1 - aF bs x1=0 then some m else if aF us x2 - aF us x1=aF bs x2 - aF bs x1/\aF us x2 - aF us x1∈D then none else some m,λ_ _=>true⟩
def e7(row:Str)(x1:Int)(n:Addr):List (Str×V):=bu "notes" (.ref n) (bu "voice" (.int x1) (bu "row" (.str row) []))
def gD(C:Addr)(row:Str)(x1:Int)(D:List Int):mV:=λr H=>∃(dx n:Addr),H r=some (.ins C dx (e7 row x1 n))/\H n=some (.lst (D.map V.int))
abbrev kL(K:Frag)(C:Addr):=qV K C "row" "voice" "notes"
def m6(K:Frag)(C:Addr):Sp:=λvs H Q _=>∃(x dx q:Addr) (row:Str) (x1:Int) (D:List Int),vs=[.ref x,.str row,.int x1,.ref q]/\H x=some (.ins C dx [])/\aH K H q (D.map V.int)/\D.length<=20/\
 ∀n H',H n=none->H'=upd (upd H n (.lst (D.map V.int))) x (.ins C dx (e7 row x1 n))->Q .non H'
def mO(K:Frag)(C:Addr):Sp:=λvs H Q _=>∃(q:Addr) (row:Str) (x1:Int) (D:List Int) (nv:Int),vs=[.str row,.ref q,.int nv]/\aH K H q ((x1::D).map V.int)/\1<=x1/\x1<=nv/\1<=D.length/\D.length<=12/\
 ∀r H',av H H'->gD C row x1 D r H'->Q (.ref r) H'
def ee(x1:Int)(D:List Int):bS:=⟨1,0,λm b us=>match b with | some _=>some m | none=>if aF us x1∈D then some m else none,λ_ _=>true⟩
def e8(row:Str)(x1:Int)(n:Addr):List (Str×V):=bu "notes" (.ref n) (bu "voice" (.int x1) (bu "row" (.str row) []))
def gF(C:Addr)(row:Str)(x1:Int)(D:List Int):mV:=λr H=>∃(dx n:Addr),H r=some (.ins C dx (e8 row x1 n))/\H n=some (.lst (D.map V.int))
abbrev kO(K:Frag)(C:Addr):=qV K C "row" "voice" "notes"
def m8(K:Frag)(C:Addr):Sp:=λvs H Q _=>∃(x dx q:Addr) (row:Str) (x1:Int) (D:List Int),vs=[.ref x,.str row,.int x1,.ref q]/\H x=some (.ins C dx [])/\aH K H q (D.map V.int)/\D.length<=20/\
 ∀n H',H n=none->H'=upd (upd H n (.lst (D.map V.int))) x (.ins C dx (e8 row x1 n))->Q .non H'
def mQ(K:Frag)(C:Addr):Sp:=λvs H Q _=>∃(q:Addr) (row:Str) (x1:Int) (D:List Int) (nv:Int),vs=[.str row,.ref q,.int nv]/\aH K H q ((x1::D).map V.int)/\1<=x1/\x1<=nv/\1<=D.length/\D.length<=12/\
 ∀r H',av H H'->gF C row x1 D r H'->Q (.ref r) H'
def eU(x1:Int)(D:List Int):bS:=⟨1,0,λm _ _=>some m,λ_ b=>match b with | none=>true | some us=>decide (aF us x1∈D)⟩
def gk(row:Str)(x1 x2:Int):List (Str×V):=(bu "widest" (.int x2) (bu "voice" (.int x1) (bu "row" (.str row) [])))
def gh(C:Addr)(row:Str)(x1 x2:Int):mV:=λr H=>∃(dx:Addr),H r=some (.ins C dx (gk row x1 x2))
abbrev nE(K:Frag)(C:Addr):=qV K C "row" "voice" "widest"
def pF(K:Frag)(C:Addr):Sp:=λvs H Q _=>∃(x dx:Addr) (row:Str) (x1 x2:Int),vs=[.ref x,.str row,.int x1,.int x2]/\H x=some (.ins C dx [])/\Q .non (upd H x (.ins C dx (gk row x1 x2)))
def pG(K:Frag)(C:Addr):Sp:=λvs H Q _=>∃(q:Addr) (row:Str) (x1 x2:Int) (nv:Int),vs=[.str row,.ref q,.int nv]/\aH K H q ([x1,x2].map V.int)/\1<=x1/\x1<=nv/\0<=x2/\
 ∀r H',av H H'->gh C row x1 x2 r H'->Q (.ref r) H'
def dz(x1 x2:Int):bS:=⟨3,0,λm b us=>match b with | none=>some 0 | some bs=>if (m=1/\0<=aF us x1 - aF bs x1)\/(m=2/\aF us x1 - aF bs x1<=0)then none else if aF us x1 - aF bs x1 > x2 then some 1 else if aF us x1 - aF bs x1 < 0 - x2 then some 2 else some 0,λm _=>decide (m=0)⟩
def eK(row:Str)(x1 x2:Int):List (Str×V):=(bu "most" (.int x2) (bu "voice" (.int x1) (bu "row" (.str row) [])))
def gi(C:Addr)(row:Str)(x1 x2:Int):mV:=λr H=>∃(dx:Addr),H r=some (.ins C dx (eK row x1 x2))
abbrev kP(K:Frag)(C:Addr):=qV K C "row" "voice" "most"
def pH(K:Frag)(C:Addr):Sp:=λvs H Q _=>∃(x dx:Addr) (row:Str) (x1 x2:Int),vs=[.ref x,.str row,.int x1,.int x2]/\H x=some (.ins C dx [])/\Q .non (upd H x (.ins C dx (eK row x1 x2)))
def pI(K:Frag)(C:Addr):Sp:=λvs H Q _=>∃(q:Addr) (row:Str) (x1 x2:Int) (nv:Int),vs=[.str row,.ref q,.int nv]/\aH K H q ([x1,x2].map V.int)/\1<=x1/\x1<=nv/\1<=x2/\
 ∀r H',av H H'->gi C row x1 x2 r H'->Q (.ref r) H'
def eo(x1 x2:Int):bS:=⟨x2,0,λm b us=>match b with | none=>some 0 | some bs=>if aF bs x1=aF us x1 then(if m+1 < x2 then some (m+1)else none)else some 0,λ_ _=>true⟩
def rC(x2 m:Int):Prop:=0<=m/\m < x2
def cD(row:Str)(x1 x2 x3 x4:Int):List (Str×V):=(bu "most" (.int x4) (bu "fewest" (.int x3) (bu "note" (.int x2) (bu "voice" (.int x1) (bu "row" (.str row) [])))))
def du(C:Addr)(row:Str)(x1 x2 x3 x4:Int):mV:=λr H=>∃(dx:Addr),H r=some (.ins C dx (cD row x1 x2 x3 x4))
abbrev hV(K:Frag)(C:Addr):=DM K C "row" "voice" "note" "fewest" "most"
def ng(K:Frag)(C:Addr):Sp:=λvs H Q _=>∃(x dx:Addr) (row:Str) (x1 x2 x3 x4:Int),vs=[.ref x,.str row,.int x1,.int x2,.int x3,.int x4]/\H x=some (.ins C dx [])/\Q .non (upd H x (.ins C dx (cD row x1 x2 x3 x4)))
def mS(K:Frag)(C:Addr):Sp:=λvs H Q _=>∃(q:Addr) (row:Str) (x1 x2 x3 x4:Int) (nv:Int),vs=[.str row,.ref q,.int nv]/\aH K H q ([x1,x2,x3,x4].map V.int)/\1<=x1/\x1<=nv/\0<=x3/\0<=x4/\
 ∀r H',av H H'->du C row x1 x2 x3 x4 r H'->Q (.ref r) H'
def cW(x1 x2 x3 x4:Int):bS:=⟨x4+1,0,λm _ us=>if aF us x1=x2 then(if m < x4 then some (m+1)else none)else some m,λm _=>decide (m>=x3)⟩
def lu(x4 m:Int):Prop:=0<=m/\m<=x4
def cR(row:Str)(t u:Int)(ri:Addr):List (Str×V):=bu "inner" (.ref ri) (bu "turn" (.int u) (bu "turns" (.int t) (bu "row" (.str row) [])))
def fB(C:Addr)(row:Str)(t u:Int)(RIn:mV):mV:=λr H=>∃(dx ri:Addr),H r=some (.ins C dx (cR row t u ri))/\RIn ri H
abbrev i4(K:Frag)(C:Addr):=zx K C "row" "turns" "turn" "inner"
def m9(K:Frag)(C:Addr):Sp:=λvs H Q _=>∃(x dx ri:Addr) (row:Str) (t u:Int),vs=[.ref x,.str row,.int t,.int u,.ref ri]/\H x=some (.ins C dx [])/\Q .non (upd H x (.ins C dx (cR row t u ri)))
def eV(t u:Int)(S:bS):bS:=⟨t,0,λm b us=>if m=u then(if S.after S.start b us=none then none else some ((m+1) % t))else some ((m+1) % t),λ_ _=>true⟩
def oF(t m:Int):Prop:=0<=m/\m < t
def tN(P:Program)(w:World)(K:Frag)(mg:Str->Option Value)(base:Heap)(aM C:Addr)(k:Nat):Sp:=λvs H Q _=>∃(row rest kind:Str) (t u:Int) (ns:List Int) (nv:Int) (D:List (Str×V)) (f:Addr) (sp:Sp) (RIn:mV),vs=[.str row,.int nv]/\nT row rest t u/\gj rest kind ns/\(kind=Str.ofString "span"\/kind=Str.ofString "clock")/\0<=u/\u < t/\l6 K aM D/\KTD.datumAt kind D=↑f/\
 ~~~fF k f ["row","numbers","voices"] sp/\(∀q H' Q',av H H'->H' q=some (.lst (ns.map V.int))->(∀ri H'',av H H''->RIn ri H''->Q' (.ref ri) H'')->sp [.str rest,.ref q,.int nv] H' Q' E0)/\(∀r H H',av H H'->RIn r H->RIn r H')/\∀r H',av H H'->fB C row t u RIn r H'->Q (.ref r) H'
def xE(P:Program)(w:World)(K:Frag)(mg:Str->Option Value)(base:Heap)(aM C:Addr)(k:Nat):Sp:=λvs H Q E=>∃(row:Str) (nv z:Int),vs=[.str row,.int nv,.int z]/\(∃rest t u,nT row rest t u)/\~~~tN aM C k [.str row,.int nv] H (λv H'=>v≠.non/\Q v H') E
theorem zw{x:HO}(h0:H q=none)(s:av H H'):av H (upd H' q x):=λb o hb=>by
 rw [aj (aq hb h0)];exact s _ _ hb
def FL(P:Program)(w:World)(K:Frag)(mg:Str->Option Value)(base:Heap)(nv:Nat)(S:bS)(G:Int->Prop)(r:Addr)(H:Hp):Prop:=∃(C:Addr) (RI:mV),~~~bt 7 nv C S RI G/\RI r H
structure kg(P:Program)(w:World)(K:Frag)(mg:Str->Option Value)(base:Heap)(nv:Nat)(Ss:List bS)(Gs:List (Int->Prop))(H:Hp)(b:Addr)(rs:List Addr):Prop where
 sq:aH K H b (rs.map V.ref)
 len:rs.length=Ss.length
 gl:Gs.length=Ss.length
 at_:∀(j:Nat) (r:Addr) (S:bS) (G:Int->Prop),rs[j]?=some r->Ss[j]?=some S->Gs[j]?=some G->~~~FL nv S G r H
theorem kg.same{b:Addr}{rs:List Addr}(h: ~~~kg nv Ss Gs H b rs)(s:av H H'): ~~~kg nv Ss Gs H' b rs:=
 ⟨s.seq h.sq,h.len,h.gl,λj r S G e1 e2 e3=>let ⟨C,RI,h1,h2⟩:=h.at_ j r S G e1 e2 e3;⟨C,RI,h1,h1.mono _ _ _ s h2⟩⟩
def rZ(Gs:List (Int->Prop))(ms:List Int):Prop:=ms.length=Gs.length/\∀(j:Nat) (G:Int->Prop) (m:Int),Gs[j]?=some G->ms[j]?=some m->G m
inductive kF(P:Program)(w:World)(K:Frag)(mg:Str->Option Value)(base:Heap):Sp
 | mk {vs:List V} {H:Hp} {Q:VK} {E:XK} (rb ma ca:Addr) (bx:V) (nv:Nat) (Ss:List bS) (Gs:List (Int->Prop)) (rs:List Addr) (ms c:List Int) (b:Option (List Int)):vs=[.ref rb,.ref ma,bx,.ref ca]->~~~kg nv Ss Gs H rb rs->Ss.length<=100->cM K H ma (ms.map V.int)->rZ Gs ms->BV K H nv b bx->cM K H ca (c.map V.int)->c.length=nv->(eC Ss ms b c=none->∀H',av H H'->Q .non H')->(∀ms',eC Ss ms b c=some ms'->rZ Gs ms'->∀p H',H' p=some (.tup (ms'.map V.int))->H p=none->av H H'->Q (.ref p) H')->~~~kF vs H Q E
def pE(P:Program)(w:World)(K:Frag)(mg:Str->Option Value)(base:Heap):Sp:=λvs H Q _=>∃(rb ma:Addr) (bx:V) (nv:Nat) (Ss:List bS) (Gs:List (Int->Prop)) (rs:List Addr) (ms:List Int) (b:Option (List Int)),vs=[.ref rb,.ref ma,bx]/\
 ~~~kg nv Ss Gs H rb rs/\Ss.length<=100/\cM K H ma (ms.map V.int)/\rZ Gs ms/\BV K H nv b bx/\∀H',av H H'->Q (.bl (cT Ss ms b)) H'
theorem yP(F:bV K "is_number" "is_number" jv f fd)(T:Txt mg aM): ~~~aK bP 1 f fd ["word"] rO:=by
 refine F.ok sc_is_number λ_ A _ s H vs Q E hr h=>?_;obtain⟨z,rfl,hz,k⟩:=h
 refine⟨rfl,_,(ah (cN (i:=1) sc_is_number.nd (dc (bf (cf K PySem.F.plainAttrs_str PySem.F.slot_str_startswith PySem.F.type_str_startswith gO (pr 0) (aa ba ag)) (λ_=>rfl)) (bo (eX K) (pr 0) (eP ae) bw) (pr 0)))
 (ah (aO (PW.pt (cK (aY (ay gA (pr 1) ba (az _))) (cB (aY (ay (o0 ib) (aB (aE K) ⋯ T.n_len boot_len (aa (pr 1) ag)) (iy T.g_MOST_FIGURES) (az _)))))) (ai (ar jm)) aC)
 (ah (aO (cj (bf (aB (hX K rfl) ⋯ T.n_all boot_all (aa (di (own:=["sign"]) (js:=[]) rfl (bI K (pr 1)) (bD.of ⋯) (λ_ _ _ _ _=>(bQ (i:=0) (show List.Nodup (["sign"]:List Str)from by decide +kernel) rfl (Or.inl rfl))) (λ_ _ _ _ _=>cA) (λ_ _ _ _ _=>(aT (lE K) (pr 0) (iy T.g_FIGURES) (by with_unfolding_all rfl)))) ag)) (λ_=>rfl))) (ai (ar jm)) aC)
 (ai (ar (Ea (Eb (aT AN (aw (aD K) (pr 1) ae (λ_ _=>rfl)) ba (az _)) (eA (aT gA (pr 0) ba (az _)))))))))),?_⟩
 have hs:=sizeLine_eq
 have c0:(Str.ofString "").cps.toList=[]:=by decide +kernel
 have c45:(Str.ofString "-")=⟨#[45]⟩:=by decide +kernel
 have c48:(Str.ofString "0").cps.toList=[48]:=by decide +kernel
 have cF:(Str.ofString "0123456789").cps.toList=[48,49,50,51,52,53,54,55,56,57]:=by decide +kernel
 refine Hh (λZ H'=>∃y,Z=[some (.str z),some (.str y)]/\H=H'/\y.cps.toList=h8 z.cps.toList) ?_ ?_
 ·rintro _ _ ⟨y,rfl,rfl,hy⟩
  have hyl:y.length<=10000:=by
   rw [bq,hy];rw [bq]at hz;refine ab6 ?_ hz;unfold h8
   split
   ·rw [List.length_tail];omega
   ·exact aa8 _
  refine iX λRk rk=>?_;tm_at "r";have hk:=k;rw [vI,<-hy,<-bq]at hk;have q0:=hk H (av.refl H)
  by_cases h1:y=Str.ofString ""
  ·rw [if_pos h1]
   rw [if_pos (Or.inl (by rw [h1,c0]))]at q0;exact q0
  rw [if_neg h1];refine⟨(),?_⟩
  by_cases h2:(40:Int) < y.length
  ·rw [if_pos h2]
   rw [if_pos (Or.inr ())]at q0;exact q0
  rw [if_neg h2];refine rk _ _ ?_;tm_at "r"
  have h3:¬(y.cps.toList=[]\/40 < y.length):=by
   rintro(e | e)
   ·exact h1 (str_iff.mpr (by rw [e,c0]))
   ·omega
  rw [if_neg h3]at hk;have e0:y.cps.toList≠[]:=λe=>h3 (Or.inl e);refine Dx (yi (λi ys H'=>ys=(y.cps.toList.take i).map (λc=>V.bl (decide (c∈[48,49,50,51,52,53,54,55,56,57])))/\H=H') () ⟨rfl,rfl⟩ ?_ ?_ ?_)
  ·rintro i ys H' ⟨rfl,rfl⟩
   rw [aa0,ac3];omega
  ·rintro i c ys H' hc ⟨rfl,rfl⟩
   tm_at "r";rw [cF,ac5,hc];simp
  ·rintro ys H' ⟨rfl,rfl⟩ p hp
   rw [bq,ad5];refine⟨y.cps.toList.map (λc=>decide (c∈[48,49,50,51,52,53,54,55,56,57])),aH.of (by rw [af,ai7];rfl),?_⟩
   have ed:(List.map (λc=>decide (c∈[48,49,50,51,52,53,54,55,56,57])) y.cps.toList).all id=t7 y.cps.toList:=by
    unfold t7;rw [ah9];rfl
   have q1:=hk _ (au (o:=.lst ((y.cps.toList.take y.cps.toList.length).map (λc=>V.bl (decide (c∈[48,49,50,51,52,53,54,55,56,57]))))) hp);rw [ad5]at q1;rw [ed]
   by_cases h4:t7 y.cps.toList=false
   ·rw [if_pos h4]
    rw [if_pos h4]at q1;exact q1
   rw [if_neg h4];rw [if_neg h4]at q1;refine⟨by rw [<-bq];omega,?_⟩
   cases hh:y.cps.toList with
   | nil=>exact absurd hh e0
   | cons a l=>
    rw [hh]at q1;refine⟨a,bE rfl,?_⟩
    by_cases ha:a=48
    ·subst ha
     rw [if_pos (str_iff.mpr (by rw [c48])),lX,c48];simpa using q1
    ·rw [if_neg (λe=>ha (by have:=str_iff.mp e;rw [c48]at this;simpa using this))]
     simpa [ha]using q1
 ·intro u' hu
  tm_at "r";rw [c45,wK]
  by_cases h1:z.cps.toList.head?=some 45
  ·rw [if_pos (by simpa using h1)]
   exact⟨(),hu _ _ ⟨_,rfl,rfl,by rw [wt ∅];unfold h8;rw [if_pos h1];simp⟩⟩
  ·rw [if_neg (by simpa using h1)]
   exact hu _ _ ⟨_,rfl,rfl,by unfold h8;rw [if_neg h1]⟩
theorem vS(F:bV K "note_in" "note_in" mE f fd): ~~~aK bP 1 f fd ["column","voice"] (fJ K):=by
 refine F.ok wj λ_ A _ s H vs Q E hr h=>?_;obtain⟨c,v,us,rfl,hc,h1,h2,k⟩:=h;refine⟨rfl,_,(ai (ar (aw (aD K) (pr 0) (ao (o0 bC) (pr 1) ae) (λ_ _=>rfl)))),?_⟩;tm_at "r";exact dy hc (ux h1 h2) k
theorem C7(F:bV K "span" "span" wb f fd)(D_note_in: ~~~cy "note_in" 1 ["column","voice"] (fJ K)): ~~~aK bP 2 f fd ["column","first","second"] (pP K):=by
 refine F.ok DD λ_ A _ s H vs Q E hr h=>?_;obtain⟨c,a,b,us,rfl,hc,h1,h2,h3,h4,k⟩:=h;refine⟨rfl,_,(ai (ar (ao (o0 bC) (aA D_note_in hr ⋯ (aa (pr 0) (aa (pr 2) ag))) (aA D_note_in hr ⋯ (aa (pr 0) (aa (pr 1) ag)))))),?_⟩;tm_at "r";refine⟨c,b,us,rfl,hc,h3,h4,c,a,us,rfl,hc,h1,h2,?_⟩;tm_at "r";exact k
theorem sQ(F:bV K "__init__" "Rule.__init__" fR f fd): ~~~aK bP 1 f fd ["self","row"] (cw K):=by
 refine F.ok mJ λ_ A _ s H vs Q E hr h=>?_;obtain⟨x,C,dx,fs,row,rfl,hx,cl,na,hl,k⟩:=h;refine⟨rfl,_,(ai (bG (pr 0) (pr 1) rfl)),?_⟩;tm_at "r";exact⟨C,dx,fs,hx,cl,na,(),k⟩
theorem dS(F:bV K "size" "Rule.size" dh f fd): ~~~aK bP 1 f fd ["self"] (cL 1 λ_=>.int 1):=by
 refine F.ok tH λ_ A _ s H vs Q E hr h=>?_;obtain⟨hl,k⟩:=h;obtain⟨a,rfl⟩:=FF hl;refine⟨rfl,_,(ai (ar ae)),?_⟩;tm_at "r";exact k
theorem bY(F:bV K "start" "Rule.start" bN f fd): ~~~aK bP 1 f fd ["self"] (cL 1 λ_=>.int 0):=by
 refine F.ok qM λ_ A _ s H vs Q E hr h=>?_;obtain⟨hl,k⟩:=h;obtain⟨a,rfl⟩:=FF hl;refine⟨rfl,_,(ai (ar ae)),?_⟩;tm_at "r";exact k
theorem cI(F:bV K "closes" "Rule.closes" bZ f fd): ~~~aK bP 1 f fd ["self","memory","last"] (cL 3 λ_=>.bl true):=by
 refine F.ok pq λ_ A _ s H vs Q E hr h=>?_;obtain⟨hl,k⟩:=h;obtain⟨a,b,c,rfl⟩:=HD hl;refine⟨rfl,_,(ai (ar jm)),?_⟩;tm_at "r";exact k
theorem qq(F:bV K "after" "Rule.after" iH f fd): ~~~aK bP 1 f fd ["self","memory","before","column"] (cL 4 D6):=by
 refine F.ok qL λ_ A _ s H vs Q E hr h=>?_;obtain⟨hl,k⟩:=h;obtain⟨a,b,c,d,rfl⟩:=HE hl;refine⟨rfl,_,(ai (ar (pr 1))),?_⟩;tm_at "r";exact k
theorem uE(F:bV K "has_list" "has_list" ku f fd)(T:Txt mg aM): ~~~aK bP 1 f fd ["numbers","ahead"] (eE K):=by
 refine F.ok uY λ_ A _ s H vs Q E hr h=>?_;obtain⟨q,xs,j,rfl,hq,k⟩:=h;refine⟨rfl,_,(ai (ar (uJ (o0 ic) (o0 ic) ae (ao (o0 bC) (aB (aE K) ⋯ T.n_len boot_len (aa (pr 0) ag)) (pr 1)) (iy T.g_MOST_NUMBERS)))),?_⟩;tm_at "r";refine⟨xs,.inl hq,?_⟩;tm_at "r"
 by_cases h1:(1:Int)<=(xs.length:Int) - j
 ·rw [if_pos h1]
  rw [decide_eq_true h1,ai1]at k;exact k
 ·rw [if_neg h1]
  rw [decide_eq_false h1,ah4]at k;exact k
theorem qy(F:bV K "are_voices" "are_voices" iK f fd)(T:Txt mg aM): ~~~aK bP 1 f fd ["numbers","voices"] (cq K):=by
 refine F.ok qQ λ_ A _ s H vs Q E hr h=>?_;obtain⟨q,ns,nv,rfl,hq,hl,k⟩:=h;refine⟨rfl,_,(ai (ar (aB (hX K rfl) ⋯ T.n_all boot_all (aa (di (own:=["number"]) (js:=[1]) rfl (bI K (pr 0)) (bD.of ⋯) (λ_ _ _ _ _=>(bQ (i:=0) (show List.Nodup (["number","voices"]:List Str)from by decide +kernel) rfl (Or.inl rfl))) (λ_ _ _ _ _=>cA) (λ_ _ _ _ _=>(uJ (o0 ic) (o0 ic) ae (pr 0) (pr 1)))) ag)))),?_⟩;tm_at "r";have hs:=sizeLine_eq;refine bR hq (bW (xs:=ns.map V.int) (λi ys H'=>ys=((ns.take i).map λn=>decide (1<=n) && decide (n<=nv)).map V.bl/\H=H') (by rw [aa0];omega) ⟨rfl,rfl⟩ ?_ ?_ ?_ ?_)
 ·rintro i ys H' ⟨rfl,rfl⟩
  rw [aa0,aa0,ac3];omega
 ·rintro i ys H' ⟨rfl,rfl⟩
  exact hq
 ·rintro i x ys H' hx ⟨rfl,rfl⟩
  rw [aa4]at hx
  cases hn:ns[i]? with
  | none=>rw [hn]at hx;cases hx
  | some n=>
   rw [hn]at hx;cases hx;tm_at "r";rw [ac5,hn]
   by_cases h1:(1:Int)<=n
   ·rw [if_pos h1]
    simp [h1]
   ·rw [if_neg h1]
    simp [h1]
 ·rintro ys H' ⟨rfl,rfl⟩ p hp
  refine⟨_,aH.of af,?_⟩;rw [ah9,aa0,ad5];exact k _ (au hp)
theorem qC(F:bV K "plain_rule" "plain_rule" iR f fd)(T:Txt mg aM)(D_is_number: ~~~cy "is_number" 7 ["word"] rO): ~~~aK bP 8 f fd ["row","voices"] (~~~lU aM 7):=by
 refine F.ok sc_plain_rule λ_ A _ s H vs Q E hr h=>?_;obtain⟨row,kind,ns,nv,D,g,sp,Res,rfl,R,tab,hg,fn,k,kq⟩:=h
 refine⟨rfl,_,(ah (cN (i:=2) sc_plain_rule.nd (cf K PySem.F.plainAttrs_str PySem.F.slot_str_split PySem.F.type_str_split lA (pr 0) (aa ba ag)))
 (ah (aO (PW.pt (cK (aY (ay (vU K) (aw (aD K) (pr 2) ae (λ_ _=>rfl)) (iy T.g_MAKERS) (by with_unfolding_all rfl))) (cB (cj (bf (aB (hX K rfl) ⋯ T.n_all boot_all (aa (di (own:=["word"]) (js:=[]) rfl (bI K (bo (eX K) (pr 2) (eP ae) bw)) (bD.of ⋯) (λ_ _ _ _ _=>(bQ (i:=0) (show List.Nodup (["word"]:List Str)from by decide +kernel) rfl (Or.inl rfl))) (λ_ _ _ _ _=>cA) (λ_ _ _ _ _=>(aA D_is_number hr ⋯ (aa (pr 0) ag)))) ag)) (λ_=>rfl)))))) (ai (ar bc)) aC)
 (ai (ar (~~~A6 hr (A7 K (iy T.g_MAKERS) (aw (aD K) (pr 2) ae (λ_ _=>rfl)) (λ_ _=>rfl)) (aa (pr 0) (aa (di (own:=["word"]) (js:=[]) rfl (bI K (bo (eX K) (pr 2) (eP ae) bw)) (bD.of ⋯) (λ_ _ _ _ _=>(bQ (i:=0) (show List.Nodup (["word"]:List Str)from by decide +kernel) rfl (Or.inl rfl))) (λ_ _ _ _ _=>cA) (λ_ _ _ _ _=>(aV (c9) ⋯ T.n_int boot_int (aa (pr 0) ag)))) (aa (pr 1) ag)))))))),?_⟩
 refine iX λRk rk=>?_;tm_at "r";have hs:=sizeLine_eq;have hl:=R.len;have hnl:=R.nl;refine⟨32,by decide +kernel,∅,(),λp hp=>rk _ _ ?_⟩;clear rk Rk;rw [R.split];have sp0:av H (upd H p (.lst ((kind::ns.map aW).map V.str))):=au hp;generalize hH0:upd H p (.lst ((kind::ns.map aW).map V.str))=H0 at sp0
 have hp0:H0 p=some (.lst ((kind::ns.map aW).map V.str)):=by rw [<-hH0,af]
 refine iX λRk rk=>?_;tm_at "r";refine bp (aH.of hp0) (bE rfl) ⟨kind,rfl,D,tab,?_⟩;rw [hg];tm_at "r";refine ck (aH.of hp0) λq hq=>?_;rw [show(some (1:Int))=some ((1:Nat):Int)from rfl,cC];show Dw _ _ _ _;have s1:av H0 (upd H0 q (.lst ((ns.map aW).map V.str))):=au hq;refine bR (xs:=(ns.map aW).map V.str) (aH.of af) (bW (xs:=(ns.map aW).map V.str) (λi ys H'=>ys=(List.replicate i true).map V.bl/\av (upd H0 q (.lst ((ns.map aW).map V.str))) H') (by simp;omega) ⟨rfl,av.refl _⟩ ?_ ?_ ?_ ?_)
 ·rintro i ys H' ⟨rfl,sm⟩
  simp
 ·rintro i ys H' ⟨rfl,sm⟩
  exact sm.seq (aH.of af)
 ·rintro i x ys H' hx ⟨rfl,sm⟩
  obtain⟨n,hn,rfl⟩:∃n∈ns,x=.str (aW n):=by
   have:=ac0 hx
   simp only [ai7,ac4,Function.comp_apply]at this;obtain⟨n,hn,e⟩:=this;exact⟨n,hn,e.symm⟩
  tm_at "r";refine⟨aW n,rfl,?_,λH1 s1=>⟨?_,sm.trans s1⟩⟩
  ·rw [bq]
   have:=gq (n:=n) (k:=40) ∅ (R.nb n hn)
   show(iu n).length<=_;omega
  ·show _=(List.replicate (i+1) true).map V.bl
   rw [show(aW n).cps.toList=iu n from rfl,mi (R.nb n hn),List.replicate_succ',ab3];rfl
 rintro ys H1 ⟨rfl,sm⟩ p1 hp1;simp only [aa0];refine⟨_,aH.of af,?_⟩;rw [show(List.replicate ns.length true).all id=true by simp];tm_at "r";refine rk _ _ ?_;tm_at "r";have s2:av H0 (upd H1 p1 (.lst ((List.replicate ns.length true).map V.bl))):=(s1.trans sm).upd hp1;generalize upd H1 p1 (.lst ((List.replicate ns.length true).map V.bl))=H2 at s2;have hp2:=s2 _ _ hp0;refine bp (aH.of hp2) (bE rfl) ⟨kind,rfl,D,tab,_,hg,g,rfl,_,_,fn,?_⟩;refine ck (aH.of hp2) λq2 hq2=>?_;rw [show(some (1:Int))=some ((1:Nat):Int)from rfl,cC];show Dw _ _ _ _;have s3:av H0 (upd H2 q2 (.lst ((ns.map aW).map V.str))):=s2.upd hq2;refine bR (xs:=(ns.map aW).map V.str) (aH.of af) (bW (xs:=(ns.map aW).map V.str) (λi ys H'=>ys=(ns.take i).map V.int/\upd H2 q2 (.lst ((ns.map aW).map V.str))=H') (by simp;omega) ⟨rfl,rfl⟩ ?_ ?_ ?_ ?_)
 ·rintro i ys H' ⟨rfl,rfl⟩
  rw [aa0,ac3];omega
 ·rintro i ys H' ⟨rfl,rfl⟩
  exact aH.of af
 ·rintro i x ys H' hx ⟨rfl,rfl⟩
  cases hn:ns[i]? with
  | none=>rw [aa4,aa4,hn]at hx;cases hx
  | some n=>
   rw [aa4,aa4,hn]at hx;cases hx;have hb:=R.nb n (ac0 hn);tm_at "r";refine⟨n,nJ (ab2 hb (aj2 ∅ ∅)),?_,?_⟩
   ·rw [bq]
    have:=gq (n:=n) (k:=40) ∅ hb
    show(iu n).length<=_;omega
   ·rw [ac5,hn,ab3]
    rfl
 rintro ys H3 ⟨rfl,rfl⟩ p3 hp3;refine k p3 _ _ (sp0.trans (s3.upd hp3)) ?_ kq;rw [af,aa0,aa0,ad5]
theorem sR(F:bV K "__init__" "Span.__init__" fS f fd)(T:Txt mg aM)(TC:nG K C)(DC_Rule___init__: ~~~i5 "Rule" "__init__" 1 ["self","row"] (cw K)): ~~~aK bP 2 f fd ["self","row","first","second","numbers"] (pQ K C):=by
 refine F.ok mK λ_ A _ s H vs Q E hr h=>?_;obtain⟨x,dx,q,row,x1,x2,D,rfl,hx,hq,hl,k⟩:=h
 refine⟨rfl,_,(ah (bH (dH DC_Rule___init__ hr ⋯ (aa (pr 0) (aa (pr 1) ag))))
 (ah (bG (pr 0) (pr 2) rfl)
 (ah (bG (pr 0) (pr 3) rfl)
 (ai (bG (pr 0) (aV (cY K) ⋯ T.n_list boot_list (aa (pr 4) ag)) rfl))))),?_⟩
 refine iX λRk rk=>?_;tm_at "r";have ln:∀(f:Str) (v:V) (l:List (Str×V)) (n:Nat),l.length<=n->(bu f v l).length<=n+1:=λf v l n h=>ab6 (bB f v l) (ae1 h);refine⟨x,C,dx,[],row,rfl,hx,TC.cl,TC.n1,∅,rk _ _ ?_⟩;tm_at "r";refine⟨C,dx,_,af,TC.cl,TC.n2,aa7 (ln _ _ _ _ (ac2 0)) ∅,C,dx,_,af,TC.cl,TC.n3,aa7 (ln _ _ _ _ (ln _ _ _ _ (ac2 0))) ∅,D.map V.int,.inl (((hq.at_ins hx).at_ins af).at_ins af),λn hn=>?_⟩
 have nx:n≠x:=λe=>by subst e;rw [af]at hn;cases hn
 rw [aj nx,aj nx,aj nx]at hn;refine⟨C,dx,_,by rw [aj (Ne.symm nx),af],TC.cl,TC.n4,aa7 (ln _ _ _ _ (ln _ _ _ _ (ln _ _ _ _ (ac2 0)))) ∅,?_⟩;refine k n _ hn ?_;rw [bO,bO,fK];rfl
theorem vT(F:bV K "span_of" "span_of" mF f fd)(T:Txt mg aM)(D_has_list: ~~~cy "has_list" 3 ["numbers","ahead"] (eE K))(D_are_voices: ~~~cy "are_voices" 3 ["numbers","voices"] (cq K))(DM_Span: ~~~i6 "Span" C 2 ["self","row","first","second","numbers"] (pQ K C)): ~~~aK bP 4 f fd ["row","numbers","voices"] (pR K C):=by
 refine F.ok wm λ_ A _ s H vs Q E hr h=>?_;obtain⟨q,row,x1,x2,D,nv,rfl,hq,x1_1,x1_2,x2_1,x2_2,l1,l2,k⟩:=h
 refine⟨rfl,_,(ah (aO (PW.pt (cK (cj (bf (aA D_has_list hr ⋯ (aa (pr 1) (aa ae ag))) (λ_=>rfl))) (cB (cj (bf (aA D_are_voices hr ⋯ (aa (bo (eX K) (pr 1) bw (eP ae)) (aa (pr 2) ag))) (λ_=>rfl)))))) (ai (ar bc)) aC)
 (ai (ar (iW DM_Span hr ⋯ (aa (pr 0) (aa (aw (aD K) (pr 1) ae (λ_ _=>rfl)) (aa (aw (aD K) (pr 1) ae (λ_ _=>rfl)) (aa (bo (eX K) (pr 1) (eP ae) bw) ag)))))))),?_⟩
 refine iX λRk rk=>?_;tm_at "r";have hs:=sizeLine_eq;refine⟨q,_,2,rfl,hq,?_⟩;rw [show(decide (1<=(((x1::x2::D).map V.int).length:Int) - 2) && decide ((((x1::x2::D).map V.int).length:Int) - 2<=12))=true by simp;omega];tm_at "r";refine ck hq λq1 hq1=>?_;rw [show(some (2:Int))=some ((2:Nat):Int)from rfl,dJ];have s1:av H (upd H q1 (.lst ((((x1::x2::D).map V.int)).take 2))):=au hq1;refine⟨q1,[x1,x2],nv,rfl,aH.of af,by simp,λH1 s2=>?_⟩;rw [show([x1,x2].all λn=>decide (1<=n) && decide (n<=nv))=true by simp;omega];tm_at "r";refine rk _ _ ?_;tm_at "r";have s3:=s1.trans s2;have hq3:=s3.seq hq;refine bp hq3 (bE rfl) (bp hq3 (show fV _ ((1:Nat):Int)=_ from aJ rfl) (ck hq3 λq2 hq2=>?_));rw [show(some (2:Int))=some ((2:Nat):Int)from rfl,cC];show ∀x dx:Addr,_;intro x dx hx hdx hne;have s4:av H (upd H1 q2 (.lst (((x1::x2::D).map V.int).drop 2))):=s3.upd hq2;have hq2':(upd H1 q2 (.lst (((x1::x2::D).map V.int).drop 2))) q2=some (.lst (D.map V.int)):=af;generalize upd H1 q2 (.lst (((x1::x2::D).map V.int).drop 2))=H2 at s4 hx hdx hq2';have s5:av H (upd (upd H2 dx (.own x)) x (.ins C dx [])):=(s4.upd hdx).upd (by rw [aj (Ne.symm hne)];exact hx)
 have hq5:(upd (upd H2 dx (.own x)) x (.ins C dx [])) q2=some (.lst (D.map V.int)):=by
  rw [aj (aq hq2' hx),aj (aq hq2' hdx)];exact hq2'
 refine⟨x,dx,q2,row,x1,x2,D,rfl,af,aH.of hq5,(),λn H3 hn e=>⟨rfl,?_⟩⟩;subst e
 have nx:n≠x:=λz=>by subst z;rw [af]at hn;cases hn
 refine k x _ ?_ ⟨dx,n,af,by rw [aj nx,af]⟩;intro c o hc;have n1:c≠x:=aq (s4 _ _ hc) hx;rw [aj n1,aj (aq (s5 _ _ hc) hn)];exact s5 _ _ hc
theorem qu{a b:Int}(F:bV K "after" "Span.after" iI f fd)(T:Txt mg aM)(TC:nG K C)(ha:1<=a/\a<=nv)(hb:1<=b/\b<=nv)(D_span: ~~~cy "span" 2 ["column","first","second"] (pP K)): ~~~aK bP 3 f fd ["self","memory","before","column"] (bz K nv (i9 C row a b D) (fE a b D) λ_=>True):=by
 refine F.ok qN λ_ A _ s H vs Q E hr h=>?_;obtain⟨r,m,x,c,bb,us,rfl,⟨dx,n,hr1,hn⟩,_,hbv,hc,hu,k⟩:=h;refine⟨rfl,_,(ai (ar (dc (aY (ay (lE K) (aA D_span hr ⋯ (aa (pr 3) (aa (aU (pr 0) rfl) (aa (aU (pr 0) rfl) ag)))) (aU (pr 0) rfl) (by with_unfolding_all rfl))) (pr 1) bc))),?_⟩;tm_at "r"
 have l1:(eL row a b n).lookup (Str.ofString "first")=⇑a:=by unfold eL;tm_at "f"
 have l2:(eL row a b n).lookup (Str.ofString "second")=⇑b:=by unfold eL;tm_at "f"
 have l3:(eL row a b n).lookup (Str.ofString "numbers")=↑n:=by unfold eL;tm_at "f"
 refine⟨C,dx,_,hr1,TC.cl,TC.n2,_,l1,C,dx,_,hr1,TC.cl,TC.n3,_,l2,c,a,b,us,rfl,hc,ha.1,by rw [hu];exact ha.2,hb.1,by rw [hu];exact hb.2,C,dx,_,hr1,TC.cl,TC.n4,_,l3,gr (aH.of hn) ⟨_,rfl,?_⟩⟩
 by_cases h:aF us b - aF us a∈D
 ·rw [if_pos (decide_eq_true h)]
  simp only [fE]at k;rw [if_pos h]at k;exact k
 ·rw [if_neg (by rw [decide_eq_false h];exact aa6)]
  simp only [fE]at k;rw [if_neg h]at k;exact k
theorem By{lv:Nat}{a b:Int}(TC:nG K C)(h1: ~~~aG C "size" lv ["self"] (cL 1 λ_=>.int 1))(h2: ~~~aG C "start" lv ["self"] (cL 1 λ_=>.int 0))(h3: ~~~aG C "closes" lv ["self","memory","last"] (cL 3 λ_=>.bl true))
  (h4: ~~~aG C "after" lv ["self","memory","before","column"] (bz K nv (i9 C row a b D) (fE a b D) λ_=>True)): ~~~bt lv nv C (fE a b D) (i9 C row a b D) (λ_=>True):=by
 refine⟨λr H H' s h=>?_,λr H h=>?_,trivial,λ_ _ _ _ _ _=>trivial,h1.imp ?_,h2.imp ?_,h4,h3.imp ?_⟩
 ·obtain⟨dx,n,e1,e2⟩:=h
  exact⟨dx,n,s _ _ e1,s _ _ e2⟩
 ·obtain⟨dx,n,e1,e2⟩:=h
  refine⟨dx,_,e1,?_,?_,?_,?_,?_⟩<;>(unfold eL;tm_at "f")
 ·rintro vs H Q E ⟨r,rfl,_,q⟩
  exact⟨rfl,q⟩
 ·rintro vs H Q E ⟨r,rfl,_,q⟩
  exact⟨rfl,q⟩
 ·rintro vs H Q E ⟨r,m,x,b,rfl,_,_,_,q⟩
  exact⟨rfl,q⟩
theorem qg(F:bV K "__init__" "Clock.__init__" fg f fd)(T:Txt mg aM)(TC:kM K C)(DC_Rule___init__: ~~~i5 "Rule" "__init__" 1 ["self","row"] (cw K)): ~~~aK bP 2 f fd ["self","row","first","second","hours","numbers"] (m7 K C):=by
 refine F.ok lK λ_ A _ s H vs Q E hr h=>?_;obtain⟨x,dx,q,row,x1,x2,x3,D,rfl,hx,hq,hl,k⟩:=h
 refine⟨rfl,_,(ah (bH (dH DC_Rule___init__ hr ⋯ (aa (pr 0) (aa (pr 1) ag))))
 (ah (bG (pr 0) (pr 2) rfl)
 (ah (bG (pr 0) (pr 3) rfl)
 (ah (bG (pr 0) (pr 4) rfl)
 (ai (bG (pr 0) (aV (cY K) ⋯ T.n_list boot_list (aa (pr 5) ag)) rfl)))))),?_⟩
 refine iX λRk rk=>?_;tm_at "r";have ln:∀(f:Str) (v:V) (l:List (Str×V)) (n:Nat),l.length<=n->(bu f v l).length<=n+1:=λf v l n h=>ab6 (bB f v l) (ae1 h);refine⟨x,C,dx,[],row,rfl,hx,TC.cl,TC.n1,∅,rk _ _ ?_⟩;tm_at "r";refine⟨C,dx,_,af,TC.cl,TC.n2,aa7 (ln _ _ _ _ (ac2 0)) ∅,C,dx,_,af,TC.cl,TC.n3,aa7 (ln _ _ _ _ (ln _ _ _ _ (ac2 0))) ∅,C,dx,_,af,TC.cl,TC.n4,aa7 (ln _ _ _ _ (ln _ _ _ _ (ln _ _ _ _ (ac2 0)))) ∅,D.map V.int,.inl ((((hq.at_ins hx).at_ins af).at_ins af).at_ins af),λn hn=>?_⟩
 have nx:n≠x:=λe=>by subst e;rw [af]at hn;cases hn
 rw [aj nx,aj nx,aj nx,aj nx]at hn;refine⟨C,dx,_,by rw [aj (Ne.symm nx),af],TC.cl,TC.n5,aa7 (ln _ _ _ _ (ln _ _ _ _ (ln _ _ _ _ (ln _ _ _ _ (ac2 0))))) ∅,?_⟩;refine k n _ hn ?_;rw [bO,bO,bO,fK];rfl
theorem uC(F:bV K "clock_of" "clock_of" ko f fd)(T:Txt mg aM)(D_has_list: ~~~cy "has_list" 3 ["numbers","ahead"] (eE K))(D_are_voices: ~~~cy "are_voices" 3 ["numbers","voices"] (cq K))(DM_Clock: ~~~i6 "Clock" C 2 ["self","row","first","second","hours","numbers"] (m7 K C)): ~~~aK bP 4 f fd ["row","numbers","voices"] (mP K C):=by
 refine F.ok uW λ_ A _ s H vs Q E hr h=>?_;obtain⟨q,row,x1,x2,x3,D,nv,rfl,hq,x1_1,x1_2,x2_1,x2_2,p3,l1,l2,k⟩:=h
 refine⟨rfl,_,(ah (aO (PW.pt (cK (cj (bf (aA D_has_list hr ⋯ (aa (pr 1) (aa ae ag))) (λ_=>rfl))) (cK (cj (bf (aA D_are_voices hr ⋯ (aa (bo (eX K) (pr 1) bw (eP ae)) (aa (pr 2) ag))) (λ_=>rfl))) (cB (aY (ay (o0 jX) (aw (aD K) (pr 1) ae (λ_ _=>rfl)) ae (az _))))))) (ai (ar bc)) aC)
 (ai (ar (iW DM_Clock hr ⋯ (aa (pr 0) (aa (aw (aD K) (pr 1) ae (λ_ _=>rfl)) (aa (aw (aD K) (pr 1) ae (λ_ _=>rfl)) (aa (aw (aD K) (pr 1) ae (λ_ _=>rfl)) (aa (bo (eX K) (pr 1) (eP ae) bw) ag))))))))),?_⟩
 refine iX λRk rk=>?_;tm_at "r";have hs:=sizeLine_eq;refine⟨q,_,3,rfl,hq,?_⟩;rw [show(decide (1<=(((x1::x2::x3::D).map V.int).length:Int) - 3) && decide ((((x1::x2::x3::D).map V.int).length:Int) - 3<=12))=true by simp;omega];tm_at "r";refine ck hq λq1 hq1=>?_;rw [show(some (2:Int))=some ((2:Nat):Int)from rfl,dJ];have s1:av H (upd H q1 (.lst ((((x1::x2::x3::D).map V.int)).take 2))):=au hq1;refine⟨q1,[x1,x2],nv,rfl,aH.of af,by simp,λH1 s2=>?_⟩;rw [show([x1,x2].all λn=>decide (1<=n) && decide (n<=nv))=true by simp;omega];tm_at "r";have s3:=s1.trans s2;have hq3:=s3.seq hq;refine bp hq3 (show fV _ ((2:Nat):Int)=_ from aJ rfl) ?_;tm_at "r";rw [if_neg (show ¬(x3 < 1)by omega)];refine rk _ _ ?_;tm_at "r";refine bp hq3 (bE rfl) (bp hq3 (show fV _ ((1:Nat):Int)=_ from aJ rfl) (bp hq3 (show fV _ ((2:Nat):Int)=_ from aJ rfl) (ck hq3 λq2 hq2=>?_)));rw [show(some (3:Int))=some ((3:Nat):Int)from rfl,cC];show ∀x dx:Addr,_;intro x dx hx hdx hne;have s4:av H (upd H1 q2 (.lst (((x1::x2::x3::D).map V.int).drop 3))):=s3.upd hq2;have hq2':(upd H1 q2 (.lst (((x1::x2::x3::D).map V.int).drop 3))) q2=some (.lst (D.map V.int)):=af;generalize upd H1 q2 (.lst (((x1::x2::x3::D).map V.int).drop 3))=H2 at s4 hx hdx hq2';have s5:av H (upd (upd H2 dx (.own x)) x (.ins C dx [])):=(s4.upd hdx).upd (by rw [aj (Ne.symm hne)];exact hx)
 have hq5:(upd (upd H2 dx (.own x)) x (.ins C dx [])) q2=some (.lst (D.map V.int)):=by
  rw [aj (aq hq2' hx),aj (aq hq2' hdx)];exact hq2'
 refine⟨x,dx,q2,row,x1,x2,x3,D,rfl,af,aH.of hq5,(),λn H3 hn e=>⟨rfl,?_⟩⟩;subst e
 have nx:n≠x:=λz=>by subst z;rw [af]at hn;cases hn
 refine k x _ ?_ ⟨dx,n,af,by rw [aj nx,af]⟩;intro c o hc;have n1:c≠x:=aq (s4 _ _ hc) hx;rw [aj n1,aj (aq (s5 _ _ hc) hn)];exact s5 _ _ hc
theorem oP(F:bV K "after" "Clock.after" gU f fd)(T:Txt mg aM)(TC:kM K C)(ha:1<=x1/\x1<=nv)(hb:1<=x2/\x2<=nv)(h3:1<=x3)(D_span: ~~~cy "span" 2 ["column","first","second"] (pP K)): ~~~aK bP 3 f fd ["self","memory","before","column"] (bz K nv (gE C row x1 x2 x3 D) (ef x1 x2 x3 D) λ_=>True):=by
 refine F.ok pj λ_ A _ s H vs Q E hr h=>?_;obtain⟨r,m,x,c,bb,us,rfl,⟨dx,n,hr1,hn⟩,_,hbv,hc,hu,k⟩:=h;refine⟨rfl,_,(ai (ar (dc (aY (ay (lE K) (ao (o1 aP) (aA D_span hr ⋯ (aa (pr 3) (aa (aU (pr 0) rfl) (aa (aU (pr 0) rfl) ag)))) (aU (pr 0) rfl)) (aU (pr 0) rfl) (by with_unfolding_all rfl))) (pr 1) bc))),?_⟩;tm_at "r"
 have l1:(da row x1 x2 x3 n).lookup (Str.ofString "first")=⇑x1:=by unfold da;tm_at "f"
 have l2:(da row x1 x2 x3 n).lookup (Str.ofString "second")=⇑x2:=by unfold da;tm_at "f"
 have l3:(da row x1 x2 x3 n).lookup (Str.ofString "hours")=⇑x3:=by unfold da;tm_at "f"
 have l4:(da row x1 x2 x3 n).lookup (Str.ofString "numbers")=↑n:=by unfold da;tm_at "f"
 refine⟨C,dx,_,hr1,TC.cl,TC.n2,_,l1,C,dx,_,hr1,TC.cl,TC.n3,_,l2,c,x1,x2,us,rfl,hc,ha.1,by rw [hu];exact ha.2,hb.1,by rw [hu];exact hb.2,C,dx,_,hr1,TC.cl,TC.n4,_,l3,?_⟩;tm_at "r";refine⟨(),C,dx,_,hr1,TC.cl,TC.n5,_,l4,gr (aH.of hn) ⟨_,rfl,?_⟩⟩
 by_cases h:(aF us x2 - aF us x1) % x3∈D
 ·rw [if_pos (decide_eq_true h)]
  simp only [ef]at k;rw [if_pos h]at k;exact k
 ·rw [if_neg (by rw [decide_eq_false h];exact aa6)]
  simp only [ef]at k;rw [if_neg h]at k;exact k
theorem yh{lv:Nat}(TC:kM K C)(h1: ~~~aG C "size" lv ["self"] (cL 1 λ_=>.int 1))(h2: ~~~aG C "start" lv ["self"] (cL 1 λ_=>.int 0))(h3: ~~~aG C "closes" lv ["self","memory","last"] (cL 3 λ_=>.bl true))
  (h4: ~~~aG C "after" lv ["self","memory","before","column"] (bz K nv (gE C row x1 x2 x3 D) (ef x1 x2 x3 D) λ_=>True)): ~~~bt lv nv C (ef x1 x2 x3 D) (gE C row x1 x2 x3 D) (λ_=>True):=by
 refine⟨λr H H' s h=>?_,λr H h=>?_,trivial,λ_ _ _ _ _ _=>trivial,h1.imp ?_,h2.imp ?_,h4,h3.imp ?_⟩
 ·obtain⟨dx,n,e1,e2⟩:=h
  exact⟨dx,n,s _ _ e1,s _ _ e2⟩
 ·obtain⟨dx,n,e1,e2⟩:=h
  refine⟨dx,_,e1,?_,?_,?_,?_,?_⟩<;>(unfold da;tm_at "f")
 ·rintro vs H Q E ⟨r,rfl,_,q⟩
  exact⟨rfl,q⟩
 ·rintro vs H Q E ⟨r,rfl,_,q⟩
  exact⟨rfl,q⟩
 ·rintro vs H Q E ⟨r,m,x,b,rfl,_,_,_,q⟩
  exact⟨rfl,q⟩
theorem sP(F:bV K "__init__" "Move.__init__" fQ f fd)(T:Txt mg aM)(TC:nF K C)(DC_Rule___init__: ~~~i5 "Rule" "__init__" 1 ["self","row"] (cw K)): ~~~aK bP 2 f fd ["self","row","voice","numbers"] (pJ K C):=by
 refine F.ok mI λ_ A _ s H vs Q E hr h=>?_;obtain⟨x,dx,q,row,x1,D,rfl,hx,hq,hl,k⟩:=h
 refine⟨rfl,_,(ah (bH (dH DC_Rule___init__ hr ⋯ (aa (pr 0) (aa (pr 1) ag))))
 (ah (bG (pr 0) (pr 2) rfl)
 (ai (bG (pr 0) (aV (cY K) ⋯ T.n_list boot_list (aa (pr 3) ag)) rfl)))),?_⟩
 refine iX λRk rk=>?_;tm_at "r";have ln:∀(f:Str) (v:V) (l:List (Str×V)) (n:Nat),l.length<=n->(bu f v l).length<=n+1:=λf v l n h=>ab6 (bB f v l) (ae1 h);refine⟨x,C,dx,[],row,rfl,hx,TC.cl,TC.n1,∅,rk _ _ ?_⟩;tm_at "r";refine⟨C,dx,_,af,TC.cl,TC.n2,aa7 (ln _ _ _ _ (ac2 0)) ∅,D.map V.int,.inl ((hq.at_ins hx).at_ins af),λn hn=>?_⟩
 have nx:n≠x:=λe=>by subst e;rw [af]at hn;cases hn
 rw [aj nx,aj nx]at hn;refine⟨C,dx,_,by rw [aj (Ne.symm nx),af],TC.cl,TC.n3,aa7 (ln _ _ _ _ (ln _ _ _ _ (ac2 0))) ∅,?_⟩;refine k n _ hn ?_;rw [bO,fK];rfl
theorem vR(F:bV K "move_of" "move_of" mD f fd)(T:Txt mg aM)(D_has_list: ~~~cy "has_list" 3 ["numbers","ahead"] (eE K))(D_are_voices: ~~~cy "are_voices" 3 ["numbers","voices"] (cq K))(DM_Move: ~~~i6 "Move" C 2 ["self","row","voice","numbers"] (pJ K C)): ~~~aK bP 4 f fd ["row","numbers","voices"] (pK K C):=by
 refine F.ok wg λ_ A _ s H vs Q E hr h=>?_;obtain⟨q,row,x1,D,nv,rfl,hq,x1_1,x1_2,l1,l2,k⟩:=h
 refine⟨rfl,_,(ah (aO (PW.pt (cK (cj (bf (aA D_has_list hr ⋯ (aa (pr 1) (aa ae ag))) (λ_=>rfl))) (cB (cj (bf (aA D_are_voices hr ⋯ (aa (bo (eX K) (pr 1) bw (eP ae)) (aa (pr 2) ag))) (λ_=>rfl)))))) (ai (ar bc)) aC)
 (ai (ar (iW DM_Move hr ⋯ (aa (pr 0) (aa (aw (aD K) (pr 1) ae (λ_ _=>rfl)) (aa (bo (eX K) (pr 1) (eP ae) bw) ag))))))),?_⟩
 refine iX λRk rk=>?_;tm_at "r";have hs:=sizeLine_eq;refine⟨q,_,1,rfl,hq,?_⟩;rw [show(decide (1<=(((x1::D).map V.int).length:Int) - 1) && decide ((((x1::D).map V.int).length:Int) - 1<=12))=true by simp;omega];tm_at "r";refine ck hq λq1 hq1=>?_;rw [show(some (1:Int))=some ((1:Nat):Int)from rfl,dJ];have s1:av H (upd H q1 (.lst ((((x1::D).map V.int)).take 1))):=au hq1;refine⟨q1,[x1],nv,rfl,aH.of af,by simp,λH1 s2=>?_⟩;rw [show([x1].all λn=>decide (1<=n) && decide (n<=nv))=true by simp;omega];tm_at "r";refine rk _ _ ?_;tm_at "r";have s3:=s1.trans s2;have hq3:=s3.seq hq;refine bp hq3 (bE rfl) (ck hq3 λq2 hq2=>?_);rw [show(some (1:Int))=some ((1:Nat):Int)from rfl,cC];show ∀x dx:Addr,_;intro x dx hx hdx hne;have s4:av H (upd H1 q2 (.lst (((x1::D).map V.int).drop 1))):=s3.upd hq2;have hq2':(upd H1 q2 (.lst (((x1::D).map V.int).drop 1))) q2=some (.lst (D.map V.int)):=af;generalize upd H1 q2 (.lst (((x1::D).map V.int).drop 1))=H2 at s4 hx hdx hq2';have s5:av H (upd (upd H2 dx (.own x)) x (.ins C dx [])):=(s4.upd hdx).upd (by rw [aj (Ne.symm hne)];exact hx)
 have hq5:(upd (upd H2 dx (.own x)) x (.ins C dx [])) q2=some (.lst (D.map V.int)):=by
  rw [aj (aq hq2' hx),aj (aq hq2' hdx)];exact hq2'
 refine⟨x,dx,q2,row,x1,D,rfl,af,aH.of hq5,(),λn H3 hn e=>⟨rfl,?_⟩⟩;subst e
 have nx:n≠x:=λz=>by subst z;rw [af]at hn;cases hn
 refine k x _ ?_ ⟨dx,n,af,by rw [aj nx,af]⟩;intro c o hc;have n1:c≠x:=aq (s4 _ _ hc) hx;rw [aj n1,aj (aq (s5 _ _ hc) hn)];exact s5 _ _ hc
theorem C1(F:bV K "move" "move" v8 f fd)(D_note_in: ~~~cy "note_in" 1 ["column","voice"] (fJ K)): ~~~aK bP 2 f fd ["before","column","voice"] (lT K):=by
 refine F.ok DC λ_ A _ s H vs Q E hr h=>?_;obtain⟨b,c,v,bs,us,rfl,hb,hc,h1,h2,h3,k⟩:=h;refine⟨rfl,_,(ai (ar (ao (o0 bC) (aA D_note_in hr ⋯ (aa (pr 1) (aa (pr 2) ag))) (aA D_note_in hr ⋯ (aa (pr 0) (aa (pr 2) ag)))))),?_⟩;tm_at "r";refine⟨c,v,us,rfl,hc,h1,h3,b,v,bs,rfl,hb,h1,h2,?_⟩;tm_at "r";exact k
theorem qm(F:bV K "after" "Move.after" iG f fd)(T:Txt mg aM)(TC:nF K C)(ha:1<=x1/\x1<=nv)(D_move: ~~~cy "move" 2 ["before","column","voice"] (lT K)): ~~~aK bP 3 f fd ["self","memory","before","column"] (bz K nv (i8 C row x1 D) (f6 x1 D) λ_=>True):=by
 refine F.ok qK λ_ A _ s H vs Q E hr h=>?_;obtain⟨r,m,x,c,bb,us,rfl,⟨dx,n,hr1,hn⟩,_,hbv,hc,hu,k⟩:=h;refine⟨rfl,_,(ai (ar (dc (PW.pt (cK (aY (ay fL (pr 2) bc (az _))) (cB (aY (ay (lE K) (aA D_move hr ⋯ (aa (pr 2) (aa (pr 3) (aa (aU (pr 0) rfl) ag)))) (aU (pr 0) rfl) (by with_unfolding_all rfl)))))) (pr 1) bc))),?_⟩;tm_at "r"
 have l1:(gm row x1 n).lookup (Str.ofString "voice")=⇑x1:=by unfold gm;tm_at "f"
 have l2:(gm row x1 n).lookup (Str.ofString "numbers")=↑n:=by unfold gm;tm_at "f"
 rcases hbv with⟨rfl,rfl⟩ | ⟨a,bs,rfl,rfl,hba,hbl⟩
 ·rw [if_pos rfl]
  exact k
 rw [if_neg (λz=>by cases z)];refine⟨C,dx,_,hr1,TC.cl,TC.n2,_,l1,a,c,x1,bs,us,rfl,hba,hc,ha.1,by rw [hbl];exact ha.2,by rw [hu];exact ha.2,C,dx,_,hr1,TC.cl,TC.n3,_,l2,gr (aH.of hn) ⟨_,rfl,?_⟩⟩;simp only [f6]at k
 by_cases h:aF us x1 - aF bs x1∈D
 ·rw [if_pos (decide_eq_true h)]
  rw [if_pos h]at k;exact k
 ·rw [if_neg (by rw [decide_eq_false h];exact aa6)]
  rw [if_neg h]at k;exact k
theorem AG(TC:nF K C)(h1: ~~~aG C "size" 7 ["self"] (cL 1 λ_=>.int 1))(h2: ~~~aG C "start" 7 ["self"] (cL 1 λ_=>.int 0))(h3: ~~~aG C "closes" 7 ["self","memory","last"] (cL 3 λ_=>.bl true))
  (h4: ~~~aG C "after" 7 ["self","memory","before","column"] (bz K nv (i8 C row x1 D) (f6 x1 D) λ_=>True)): ~~~bt 7 nv C (f6 x1 D) (i8 C row x1 D) (λ_=>True):=by
 refine⟨λr H H' s h=>?_,λr H h=>?_,trivial,λ_ _ _ _ _ _=>trivial,h1.imp ?_,h2.imp ?_,h4,h3.imp ?_⟩
 ·obtain⟨dx,n,e1,e2⟩:=h
  exact⟨dx,n,s _ _ e1,s _ _ e2⟩
 ·obtain⟨dx,n,e1,e2⟩:=h
  refine⟨dx,_,e1,?_,?_,?_,?_,?_⟩<;>(unfold gm;tm_at "f")
 ·rintro vs H Q E ⟨r,rfl,_,q⟩
  exact⟨rfl,q⟩
 ·rintro vs H Q E ⟨r,rfl,_,q⟩
  exact⟨rfl,q⟩
 ·rintro vs H Q E ⟨r,m,x,b,rfl,_,_,_,q⟩
  exact⟨rfl,q⟩
theorem qa(F:bV K "__init__" "Alike.__init__" fe f fd)(T:Txt mg aM)(TC:kK K C)(DC_Rule___init__: ~~~i5 "Rule" "__init__" 1 ["self","row"] (cw K)): ~~~aK bP 2 f fd ["self","row","first","second","numbers"] (m5 K C):=by
 refine F.ok lI λ_ A _ s H vs Q E hr h=>?_;obtain⟨x,dx,q,row,x1,x2,D,rfl,hx,hq,hl,k⟩:=h
 refine⟨rfl,_,(ah (bH (dH DC_Rule___init__ hr ⋯ (aa (pr 0) (aa (pr 1) ag))))
 (ah (bG (pr 0) (pr 2) rfl)
 (ah (bG (pr 0) (pr 3) rfl)
 (ai (bG (pr 0) (aV (cY K) ⋯ T.n_list boot_list (aa (pr 4) ag)) rfl))))),?_⟩
 refine iX λRk rk=>?_;tm_at "r";have ln:∀(f:Str) (v:V) (l:List (Str×V)) (n:Nat),l.length<=n->(bu f v l).length<=n+1:=λf v l n h=>ab6 (bB f v l) (ae1 h);refine⟨x,C,dx,[],row,rfl,hx,TC.cl,TC.n1,∅,rk _ _ ?_⟩;tm_at "r";refine⟨C,dx,_,af,TC.cl,TC.n2,aa7 (ln _ _ _ _ (ac2 0)) ∅,C,dx,_,af,TC.cl,TC.n3,aa7 (ln _ _ _ _ (ln _ _ _ _ (ac2 0))) ∅,D.map V.int,.inl (((hq.at_ins hx).at_ins af).at_ins af),λn hn=>?_⟩
 have nx:n≠x:=λe=>by subst e;rw [af]at hn;cases hn
 rw [aj nx,aj nx,aj nx]at hn;refine⟨C,dx,_,by rw [aj (Ne.symm nx),af],TC.cl,TC.n4,aa7 (ln _ _ _ _ (ln _ _ _ _ (ln _ _ _ _ (ac2 0)))) ∅,?_⟩;refine k n _ hn ?_;rw [bO,bO,fK];rfl
theorem uA(F:bV K "alike_of" "alike_of" kj f fd)(T:Txt mg aM)(D_has_list: ~~~cy "has_list" 3 ["numbers","ahead"] (eE K))(D_are_voices: ~~~cy "are_voices" 3 ["numbers","voices"] (cq K))(DM_Alike: ~~~i6 "Alike" C 2 ["self","row","first","second","numbers"] (m5 K C)): ~~~aK bP 4 f fd ["row","numbers","voices"] (mM K C):=by
 refine F.ok uU λ_ A _ s H vs Q E hr h=>?_;obtain⟨q,row,x1,x2,D,nv,rfl,hq,x1_1,x1_2,x2_1,x2_2,l1,l2,k⟩:=h
 refine⟨rfl,_,(ah (aO (PW.pt (cK (cj (bf (aA D_has_list hr ⋯ (aa (pr 1) (aa ae ag))) (λ_=>rfl))) (cB (cj (bf (aA D_are_voices hr ⋯ (aa (bo (eX K) (pr 1) bw (eP ae)) (aa (pr 2) ag))) (λ_=>rfl)))))) (ai (ar bc)) aC)
 (ai (ar (iW DM_Alike hr ⋯ (aa (pr 0) (aa (aw (aD K) (pr 1) ae (λ_ _=>rfl)) (aa (aw (aD K) (pr 1) ae (λ_ _=>rfl)) (aa (bo (eX K) (pr 1) (eP ae) bw) ag)))))))),?_⟩
 refine iX λRk rk=>?_;tm_at "r";have hs:=sizeLine_eq;refine⟨q,_,2,rfl,hq,?_⟩;rw [show(decide (1<=(((x1::x2::D).map V.int).length:Int) - 2) && decide ((((x1::x2::D).map V.int).length:Int) - 2<=12))=true by simp;omega];tm_at "r";refine ck hq λq1 hq1=>?_;rw [show(some (2:Int))=some ((2:Nat):Int)from rfl,dJ];have s1:av H (upd H q1 (.lst ((((x1::x2::D).map V.int)).take 2))):=au hq1;refine⟨q1,[x1,x2],nv,rfl,aH.of af,by simp,λH1 s2=>?_⟩;rw [show([x1,x2].all λn=>decide (1<=n) && decide (n<=nv))=true by simp;omega];tm_at "r";refine rk _ _ ?_;tm_at "r";have s3:=s1.trans s2;have hq3:=s3.seq hq;refine bp hq3 (bE rfl) (bp hq3 (show fV _ ((1:Nat):Int)=_ from aJ rfl) (ck hq3 λq2 hq2=>?_));rw [show(some (2:Int))=some ((2:Nat):Int)from rfl,cC];show ∀x dx:Addr,_;intro x dx hx hdx hne;have s4:av H (upd H1 q2 (.lst (((x1::x2::D).map V.int).drop 2))):=s3.upd hq2;have hq2':(upd H1 q2 (.lst (((x1::x2::D).map V.int).drop 2))) q2=some (.lst (D.map V.int)):=af;generalize upd H1 q2 (.lst (((x1::x2::D).map V.int).drop 2))=H2 at s4 hx hdx hq2';have s5:av H (upd (upd H2 dx (.own x)) x (.ins C dx [])):=(s4.upd hdx).upd (by rw [aj (Ne.symm hne)];exact hx)
 have hq5:(upd (upd H2 dx (.own x)) x (.ins C dx [])) q2=some (.lst (D.map V.int)):=by
  rw [aj (aq hq2' hx),aj (aq hq2' hdx)];exact hq2'
 refine⟨x,dx,q2,row,x1,x2,D,rfl,af,aH.of hq5,(),λn H3 hn e=>⟨rfl,?_⟩⟩;subst e
 have nx:n≠x:=λz=>by subst z;rw [af]at hn;cases hn
 refine k x _ ?_ ⟨dx,n,af,by rw [aj nx,af]⟩;intro c o hc;have n1:c≠x:=aq (s4 _ _ hc) hx;rw [aj n1,aj (aq (s5 _ _ hc) hn)];exact s5 _ _ hc
theorem oM(F:bV K "after" "Alike.after" gQ f fd)(T:Txt mg aM)(TC:kK K C)(ha:1<=x1/\x1<=nv)(hb:1<=x2/\x2<=nv)(D_move: ~~~cy "move" 2 ["before","column","voice"] (lT K))(D_span: ~~~cy "span" 2 ["column","first","second"] (pP K)): ~~~aK bP 3 f fd ["self","memory","before","column"] (bz K nv (gC C row x1 x2 D) (eT x1 x2 D) λ_=>True):=by
 refine F.ok sc_Alike_after λ_ A _ s H vs Q E hr h=>?_;obtain⟨r,m,x,c,bb,us,rfl,⟨dx,n,hr1,hn⟩,_,hbv,hc,hu,k⟩:=h
 refine⟨rfl,_,(ah (aO (PW.pt (cK (aY (ay fL (pr 2) bc (az _))) (cB (aY (ay gA (aA D_move hr ⋯ (aa (pr 2) (aa (pr 3) (aa (aU (pr 0) rfl) ag)))) ae (az _)))))) (ai (ar (pr 1))) aC)
 (ah (cN (i:=4) sc_Alike_after.nd (aA D_span hr ⋯ (aa (pr 3) (aa (aU (pr 0) rfl) (aa (aU (pr 0) rfl) ag)))))
 (ai (ar (dc (PW.pt (gP (aY (ay gA (pr 4) (aA D_span hr ⋯ (aa (pr 2) (aa (aU (pr 0) rfl) (aa (aU (pr 0) rfl) ag)))) (az _))) (fZ (aY (ay (lE K) (pr 4) (aU (pr 0) rfl) (by with_unfolding_all rfl)))))) bc (pr 1)))))),?_⟩
 refine cv λA0 B0 hA hB=>?_;tm_at "r"
 have l1:(dP row x1 x2 n).lookup (Str.ofString "first")=⇑x1:=by unfold dP;tm_at "f"
 have l2:(dP row x1 x2 n).lookup (Str.ofString "second")=⇑x2:=by unfold dP;tm_at "f"
 have l3:(dP row x1 x2 n).lookup (Str.ofString "numbers")=↑n:=by unfold dP;tm_at "f"
 rcases hbv with⟨rfl,rfl⟩ | ⟨a,bs,rfl,rfl,hba,hbl⟩
 ·rw [if_pos rfl]
  exact hA _ k
 rw [if_neg (λz=>by cases z)];have a1:=ha.1;have a2:=ha.2;have b1:=hb.1;have b2:=hb.2;refine⟨C,dx,_,hr1,TC.cl,TC.n2,_,l1,a,c,x1,bs,us,rfl,hba,hc,a1,(),(),?_⟩;tm_at "r";simp only [eT]at k
 by_cases h0:aF us x1 - aF bs x1=0
 ·rw [if_pos h0]
  rw [if_pos h0]at k;exact hA _ k
 rw [if_neg h0];rw [if_neg h0]at k;refine hB _ (iX λRk rk=>?_);tm_at "r";refine⟨C,dx,_,hr1,TC.cl,TC.n2,_,l1,C,dx,_,hr1,TC.cl,TC.n3,_,l2,c,x1,x2,us,rfl,hc,a1,(),b1,(),rk _ _ ?_⟩;tm_at "r";refine⟨C,dx,_,hr1,TC.cl,TC.n2,_,l1,C,dx,_,hr1,TC.cl,TC.n3,_,l2,a,x1,x2,bs,rfl,hba,a1,(),b1,(),?_⟩;tm_at "r"
 by_cases h1:aF us x2 - aF us x1=aF bs x2 - aF bs x1
 ·rw [if_pos h1]
  refine⟨C,dx,_,hr1,TC.cl,TC.n4,_,l3,gr (aH.of hn) ⟨_,rfl,?_⟩⟩
  by_cases h:aF us x2 - aF us x1∈D
  ·rw [if_pos (decide_eq_true h)]
   rw [if_pos ⟨h1,h⟩]at k;exact k
  ·rw [if_neg (by rw [decide_eq_false h];exact aa6)]
   rw [if_neg (λz=>h z.2)]at k;exact k
 ·rw [if_neg h1]
  rw [if_neg (λz=>h1 z.1)]at k;exact k
theorem xY(TC:kK K C)(h1: ~~~aG C "size" 7 ["self"] (cL 1 λ_=>.int 1))(h2: ~~~aG C "start" 7 ["self"] (cL 1 λ_=>.int 0))(h3: ~~~aG C "closes" 7 ["self","memory","last"] (cL 3 λ_=>.bl true))
  (h4: ~~~aG C "after" 7 ["self","memory","before","column"] (bz K nv (gC C row x1 x2 D) (eT x1 x2 D) λ_=>True)): ~~~bt 7 nv C (eT x1 x2 D) (gC C row x1 x2 D) (λ_=>True):=by
 refine⟨λr H H' s h=>?_,λr H h=>?_,trivial,λ_ _ _ _ _ _=>trivial,h1.imp ?_,h2.imp ?_,h4,h3.imp ?_⟩
 ·obtain⟨dx,n,e1,e2⟩:=h
  exact⟨dx,n,s _ _ e1,s _ _ e2⟩
 ·obtain⟨dx,n,e1,e2⟩:=h
  refine⟨dx,_,e1,?_,?_,?_,?_,?_⟩<;>(unfold dP;tm_at "f")
 ·rintro vs H Q E ⟨r,rfl,_,q⟩
  exact⟨rfl,q⟩
 ·rintro vs H Q E ⟨r,rfl,_,q⟩
  exact⟨rfl,q⟩
 ·rintro vs H Q E ⟨r,m,x,b,rfl,_,_,_,q⟩
  exact⟨rfl,q⟩
theorem qf(F:bV K "__init__" "Begin.__init__" ff f fd)(T:Txt mg aM)(TC:kL K C)(DC_Rule___init__: ~~~i5 "Rule" "__init__" 1 ["self","row"] (cw K)): ~~~aK bP 2 f fd ["self","row","voice","notes"] (m6 K C):=by
 refine F.ok lJ λ_ A _ s H vs Q E hr h=>?_;obtain⟨x,dx,q,row,x1,D,rfl,hx,hq,hl,k⟩:=h
 refine⟨rfl,_,(ah (bH (dH DC_Rule___init__ hr ⋯ (aa (pr 0) (aa (pr 1) ag))))
 (ah (bG (pr 0) (pr 2) rfl)
 (ai (bG (pr 0) (aV (cY K) ⋯ T.n_list boot_list (aa (pr 3) ag)) rfl)))),?_⟩
 refine iX λRk rk=>?_;tm_at "r";have ln:∀(f:Str) (v:V) (l:List (Str×V)) (n:Nat),l.length<=n->(bu f v l).length<=n+1:=λf v l n h=>ab6 (bB f v l) (ae1 h);refine⟨x,C,dx,[],row,rfl,hx,TC.cl,TC.n1,∅,rk _ _ ?_⟩;tm_at "r";refine⟨C,dx,_,af,TC.cl,TC.n2,aa7 (ln _ _ _ _ (ac2 0)) ∅,D.map V.int,.inl ((hq.at_ins hx).at_ins af),λn hn=>?_⟩
 have nx:n≠x:=λe=>by subst e;rw [af]at hn;cases hn
 rw [aj nx,aj nx]at hn;refine⟨C,dx,_,by rw [aj (Ne.symm nx),af],TC.cl,TC.n3,aa7 (ln _ _ _ _ (ln _ _ _ _ (ac2 0))) ∅,?_⟩;refine k n _ hn ?_;rw [bO,fK];rfl
theorem uB(F:bV K "begin_of" "begin_of" km f fd)(T:Txt mg aM)(D_has_list: ~~~cy "has_list" 3 ["numbers","ahead"] (eE K))(D_are_voices: ~~~cy "are_voices" 3 ["numbers","voices"] (cq K))(DM_Begin: ~~~i6 "Begin" C 2 ["self","row","voice","notes"] (m6 K C)): ~~~aK bP 4 f fd ["row","numbers","voices"] (mO K C):=by
 refine F.ok uV λ_ A _ s H vs Q E hr h=>?_;obtain⟨q,row,x1,D,nv,rfl,hq,x1_1,x1_2,l1,l2,k⟩:=h
 refine⟨rfl,_,(ah (aO (PW.pt (cK (cj (bf (aA D_has_list hr ⋯ (aa (pr 1) (aa ae ag))) (λ_=>rfl))) (cB (cj (bf (aA D_are_voices hr ⋯ (aa (bo (eX K) (pr 1) bw (eP ae)) (aa (pr 2) ag))) (λ_=>rfl)))))) (ai (ar bc)) aC)
 (ai (ar (iW DM_Begin hr ⋯ (aa (pr 0) (aa (aw (aD K) (pr 1) ae (λ_ _=>rfl)) (aa (bo (eX K) (pr 1) (eP ae) bw) ag))))))),?_⟩
 refine iX λRk rk=>?_;tm_at "r";have hs:=sizeLine_eq;refine⟨q,_,1,rfl,hq,?_⟩;rw [show(decide (1<=(((x1::D).map V.int).length:Int) - 1) && decide ((((x1::D).map V.int).length:Int) - 1<=12))=true by simp;omega];tm_at "r";refine ck hq λq1 hq1=>?_;rw [show(some (1:Int))=some ((1:Nat):Int)from rfl,dJ];have s1:av H (upd H q1 (.lst ((((x1::D).map V.int)).take 1))):=au hq1;refine⟨q1,[x1],nv,rfl,aH.of af,by simp,λH1 s2=>?_⟩;rw [show([x1].all λn=>decide (1<=n) && decide (n<=nv))=true by simp;omega];tm_at "r";refine rk _ _ ?_;tm_at "r";have s3:=s1.trans s2;have hq3:=s3.seq hq;refine bp hq3 (bE rfl) (ck hq3 λq2 hq2=>?_);rw [show(some (1:Int))=some ((1:Nat):Int)from rfl,cC];show ∀x dx:Addr,_;intro x dx hx hdx hne;have s4:av H (upd H1 q2 (.lst (((x1::D).map V.int).drop 1))):=s3.upd hq2;have hq2':(upd H1 q2 (.lst (((x1::D).map V.int).drop 1))) q2=some (.lst (D.map V.int)):=af;generalize upd H1 q2 (.lst (((x1::D).map V.int).drop 1))=H2 at s4 hx hdx hq2';have s5:av H (upd (upd H2 dx (.own x)) x (.ins C dx [])):=(s4.upd hdx).upd (by rw [aj (Ne.symm hne)];exact hx)
 have hq5:(upd (upd H2 dx (.own x)) x (.ins C dx [])) q2=some (.lst (D.map V.int)):=by
  rw [aj (aq hq2' hx),aj (aq hq2' hdx)];exact hq2'
 refine⟨x,dx,q2,row,x1,D,rfl,af,aH.of hq5,(),λn H3 hn e=>⟨rfl,?_⟩⟩;subst e
 have nx:n≠x:=λz=>by subst z;rw [af]at hn;cases hn
 refine k x _ ?_ ⟨dx,n,af,by rw [aj nx,af]⟩;intro c o hc;have n1:c≠x:=aq (s4 _ _ hc) hx;rw [aj n1,aj (aq (s5 _ _ hc) hn)];exact s5 _ _ hc
theorem oO(F:bV K "after" "Begin.after" gT f fd)(T:Txt mg aM)(TC:kL K C)(ha:1<=x1/\x1<=nv)(D_note_in: ~~~cy "note_in" 2 ["column","voice"] (fJ K)): ~~~aK bP 3 f fd ["self","memory","before","column"] (bz K nv (gD C row x1 D) (ee x1 D) λ_=>True):=by
 refine F.ok ph λ_ A _ s H vs Q E hr h=>?_;obtain⟨r,m,x,c,bb,us,rfl,⟨dx,n,hr1,hn⟩,_,hbv,hc,hu,k⟩:=h;refine⟨rfl,_,(ai (ar (dc (PW.pt (cK (aY (ay jQ (pr 2) bc (az _))) (cB (aY (ay (lE K) (aA D_note_in hr ⋯ (aa (pr 3) (aa (aU (pr 0) rfl) ag))) (aU (pr 0) rfl) (by with_unfolding_all rfl)))))) (pr 1) bc))),?_⟩;tm_at "r"
 have l1:(e7 row x1 n).lookup (Str.ofString "voice")=⇑x1:=by unfold e7;tm_at "f"
 have l2:(e7 row x1 n).lookup (Str.ofString "notes")=↑n:=by unfold e7;tm_at "f"
 rcases hbv with⟨rfl,rfl⟩ | ⟨a,bs,rfl,rfl,hba,hbl⟩
 ·rw [if_pos rfl]
  refine⟨C,dx,_,hr1,TC.cl,TC.n2,_,l1,c,x1,us,rfl,hc,ha.1,by rw [hu];exact ha.2,C,dx,_,hr1,TC.cl,TC.n3,_,l2,gr (aH.of hn) ⟨_,rfl,?_⟩⟩;simp only [ee]at k
  by_cases h:aF us x1∈D
  ·rw [if_pos (decide_eq_true h)]
   rw [if_pos h]at k;exact k
  ·rw [if_neg (by rw [decide_eq_false h];exact aa6)]
   rw [if_neg h]at k;exact k
 ·rw [if_neg (by simp)]
  exact k
theorem x6(TC:kL K C)(h1: ~~~aG C "size" 7 ["self"] (cL 1 λ_=>.int 1))(h2: ~~~aG C "start" 7 ["self"] (cL 1 λ_=>.int 0))(h3: ~~~aG C "closes" 7 ["self","memory","last"] (cL 3 λ_=>.bl true))
  (h4: ~~~aG C "after" 7 ["self","memory","before","column"] (bz K nv (gD C row x1 D) (ee x1 D) λ_=>True)): ~~~bt 7 nv C (ee x1 D) (gD C row x1 D) (λ_=>True):=by
 refine⟨λr H H' s h=>?_,λr H h=>?_,trivial,λ_ _ _ _ _ _=>trivial,h1.imp ?_,h2.imp ?_,h4,h3.imp ?_⟩
 ·obtain⟨dx,n,e1,e2⟩:=h
  exact⟨dx,n,s _ _ e1,s _ _ e2⟩
 ·obtain⟨dx,n,e1,e2⟩:=h
  refine⟨dx,_,e1,?_,?_,?_,?_,?_⟩<;>(unfold e7;tm_at "f")
 ·rintro vs H Q E ⟨r,rfl,_,q⟩
  exact⟨rfl,q⟩
 ·rintro vs H Q E ⟨r,rfl,_,q⟩
  exact⟨rfl,q⟩
 ·rintro vs H Q E ⟨r,m,x,b,rfl,_,_,_,q⟩
  exact⟨rfl,q⟩
theorem qh(F:bV K "__init__" "Close.__init__" fh f fd)(T:Txt mg aM)(TC:kO K C)(DC_Rule___init__: ~~~i5 "Rule" "__init__" 1 ["self","row"] (cw K)): ~~~aK bP 2 f fd ["self","row","voice","notes"] (m8 K C):=by
 refine F.ok lL λ_ A _ s H vs Q E hr h=>?_;obtain⟨x,dx,q,row,x1,D,rfl,hx,hq,hl,k⟩:=h
 refine⟨rfl,_,(ah (bH (dH DC_Rule___init__ hr ⋯ (aa (pr 0) (aa (pr 1) ag))))
 (ah (bG (pr 0) (pr 2) rfl)
 (ai (bG (pr 0) (aV (cY K) ⋯ T.n_list boot_list (aa (pr 3) ag)) rfl)))),?_⟩
 refine iX λRk rk=>?_;tm_at "r";have ln:∀(f:Str) (v:V) (l:List (Str×V)) (n:Nat),l.length<=n->(bu f v l).length<=n+1:=λf v l n h=>ab6 (bB f v l) (ae1 h);refine⟨x,C,dx,[],row,rfl,hx,TC.cl,TC.n1,∅,rk _ _ ?_⟩;tm_at "r";refine⟨C,dx,_,af,TC.cl,TC.n2,aa7 (ln _ _ _ _ (ac2 0)) ∅,D.map V.int,.inl ((hq.at_ins hx).at_ins af),λn hn=>?_⟩
 have nx:n≠x:=λe=>by subst e;rw [af]at hn;cases hn
 rw [aj nx,aj nx]at hn;refine⟨C,dx,_,by rw [aj (Ne.symm nx),af],TC.cl,TC.n3,aa7 (ln _ _ _ _ (ln _ _ _ _ (ac2 0))) ∅,?_⟩;refine k n _ hn ?_;rw [bO,fK];rfl
theorem uD(F:bV K "close_of" "close_of" kr f fd)(T:Txt mg aM)(D_has_list: ~~~cy "has_list" 3 ["numbers","ahead"] (eE K))(D_are_voices: ~~~cy "are_voices" 3 ["numbers","voices"] (cq K))(DM_Close: ~~~i6 "Close" C 2 ["self","row","voice","notes"] (m8 K C)): ~~~aK bP 4 f fd ["row","numbers","voices"] (mQ K C):=by
 refine F.ok uX λ_ A _ s H vs Q E hr h=>?_;obtain⟨q,row,x1,D,nv,rfl,hq,x1_1,x1_2,l1,l2,k⟩:=h
 refine⟨rfl,_,(ah (aO (PW.pt (cK (cj (bf (aA D_has_list hr ⋯ (aa (pr 1) (aa ae ag))) (λ_=>rfl))) (cB (cj (bf (aA D_are_voices hr ⋯ (aa (bo (eX K) (pr 1) bw (eP ae)) (aa (pr 2) ag))) (λ_=>rfl)))))) (ai (ar bc)) aC)
 (ai (ar (iW DM_Close hr ⋯ (aa (pr 0) (aa (aw (aD K) (pr 1) ae (λ_ _=>rfl)) (aa (bo (eX K) (pr 1) (eP ae) bw) ag))))))),?_⟩
 refine iX λRk rk=>?_;tm_at "r";have hs:=sizeLine_eq;refine⟨q,_,1,rfl,hq,?_⟩;rw [show(decide (1<=(((x1::D).map V.int).length:Int) - 1) && decide ((((x1::D).map V.int).length:Int) - 1<=12))=true by simp;omega];tm_at "r";refine ck hq λq1 hq1=>?_;rw [show(some (1:Int))=some ((1:Nat):Int)from rfl,dJ];have s1:av H (upd H q1 (.lst ((((x1::D).map V.int)).take 1))):=au hq1;refine⟨q1,[x1],nv,rfl,aH.of af,by simp,λH1 s2=>?_⟩;rw [show([x1].all λn=>decide (1<=n) && decide (n<=nv))=true by simp;omega];tm_at "r";refine rk _ _ ?_;tm_at "r";have s3:=s1.trans s2;have hq3:=s3.seq hq;refine bp hq3 (bE rfl) (ck hq3 λq2 hq2=>?_);rw [show(some (1:Int))=some ((1:Nat):Int)from rfl,cC];show ∀x dx:Addr,_;intro x dx hx hdx hne;have s4:av H (upd H1 q2 (.lst (((x1::D).map V.int).drop 1))):=s3.upd hq2;have hq2':(upd H1 q2 (.lst (((x1::D).map V.int).drop 1))) q2=some (.lst (D.map V.int)):=af;generalize upd H1 q2 (.lst (((x1::D).map V.int).drop 1))=H2 at s4 hx hdx hq2';have s5:av H (upd (upd H2 dx (.own x)) x (.ins C dx [])):=(s4.upd hdx).upd (by rw [aj (Ne.symm hne)];exact hx)
 have hq5:(upd (upd H2 dx (.own x)) x (.ins C dx [])) q2=some (.lst (D.map V.int)):=by
  rw [aj (aq hq2' hx),aj (aq hq2' hdx)];exact hq2'
 refine⟨x,dx,q2,row,x1,D,rfl,af,aH.of hq5,(),λn H3 hn e=>⟨rfl,?_⟩⟩;subst e
 have nx:n≠x:=λz=>by subst z;rw [af]at hn;cases hn
 refine k x _ ?_ ⟨dx,n,af,by rw [aj nx,af]⟩;intro c o hc;have n1:c≠x:=aq (s4 _ _ hc) hx;rw [aj n1,aj (aq (s5 _ _ hc) hn)];exact s5 _ _ hc
theorem nq(F:bV K "closes" "Close.closes" gs f fd)(T:Txt mg aM)(TC:kO K C)(ha:1<=x1/\x1<=nv)(D_note_in: ~~~cy "note_in" 2 ["column","voice"] (fJ K)): ~~~aK bP 3 f fd ["self","memory","last"] (eh K nv (gF C row x1 D) (eU x1 D) λ_=>True):=by
 refine F.ok nA λ_ A _ s H vs Q E hr h=>?_;obtain⟨r,m,x,bb,rfl,⟨dx,n,hr1,hn⟩,_,hbv,k⟩:=h;refine⟨rfl,_,(ai (ar (Ea (Eb (aT fL (pr 2) bc (az _)) (eA (aT (lE K) (aA D_note_in hr ⋯ (aa (pr 2) (aa (aU (pr 0) rfl) ag))) (aU (pr 0) rfl) (by with_unfolding_all rfl))))))),?_⟩;tm_at "r"
 have l1:(e8 row x1 n).lookup (Str.ofString "voice")=⇑x1:=by unfold e8;tm_at "f"
 have l2:(e8 row x1 n).lookup (Str.ofString "notes")=↑n:=by unfold e8;tm_at "f"
 rcases hbv with⟨rfl,rfl⟩ | ⟨a,bs,rfl,rfl,hba,hbl⟩
 ·rw [if_pos rfl]
  exact k
 ·rw [if_neg (by simp)]
  refine⟨C,dx,_,hr1,TC.cl,TC.n2,_,l1,a,x1,bs,rfl,hba,ha.1,by rw [hbl];exact ha.2,C,dx,_,hr1,TC.cl,TC.n3,_,l2,gr (aH.of hn) ?_⟩;exact k
theorem yk(TC:kO K C)(h1: ~~~aG C "size" 7 ["self"] (cL 1 λ_=>.int 1))(h2: ~~~aG C "start" 7 ["self"] (cL 1 λ_=>.int 0))(h3: ~~~aG C "after" 7 ["self","memory","before","column"] (cL 4 D6))
  (h4: ~~~aG C "closes" 7 ["self","memory","last"] (eh K nv (gF C row x1 D) (eU x1 D) λ_=>True)): ~~~bt 7 nv C (eU x1 D) (gF C row x1 D) (λ_=>True):=by
 refine⟨λr H H' s h=>?_,λr H h=>?_,trivial,λ_ _ _ _ _ _=>trivial,h1.imp ?_,h2.imp ?_,h3.imp ?_,h4⟩
 ·obtain⟨dx,n,e1,e2⟩:=h
  exact⟨dx,n,s _ _ e1,s _ _ e2⟩
 ·obtain⟨dx,n,e1,e2⟩:=h
  refine⟨dx,_,e1,?_,?_,?_,?_,?_⟩<;>(unfold e8;tm_at "f")
 ·rintro vs H Q E ⟨r,rfl,_,q⟩
  exact⟨rfl,q⟩
 ·rintro vs H Q E ⟨r,rfl,_,q⟩
  exact⟨rfl,q⟩
 ·rintro vs H Q E ⟨r,m,x,c,b,us,rfl,_,_,_,_,_,q⟩
  exact⟨rfl,q⟩
theorem sJ(F:bV K "__init__" "Back.__init__" fM f fd)(T:Txt mg aM)(TC:nE K C)(DC_Rule___init__: ~~~i5 "Rule" "__init__" 1 ["self","row"] (cw K)): ~~~aK bP 2 f fd ["self","row","voice","widest"] (pF K C):=by
 refine F.ok mG λ_ A _ s H vs Q E hr h=>?_;obtain⟨x,dx,row,x1,x2,rfl,hx,k⟩:=h
 refine⟨rfl,_,(ah (bH (dH DC_Rule___init__ hr ⋯ (aa (pr 0) (aa (pr 1) ag))))
 (ah (bG (pr 0) (pr 2) rfl)
 (ai (bG (pr 0) (pr 3) rfl)))),?_⟩
 refine iX λRk rk=>?_;tm_at "r";have ln:∀(f:Str) (v:V) (l:List (Str×V)) (n:Nat),l.length<=n->(bu f v l).length<=n+1:=λf v l n h=>ab6 (bB f v l) (ae1 h);refine⟨x,C,dx,[],row,rfl,hx,TC.cl,TC.n1,∅,rk _ _ ?_⟩;tm_at "r";refine⟨C,dx,_,af,TC.cl,TC.n2,aa7 (ln _ _ _ _ (ac2 0)) ∅,C,dx,_,af,TC.cl,TC.n3,aa7 (ln _ _ _ _ (ln _ _ _ _ (ac2 0))) ∅,?_⟩;rw [bO,bO];exact k
theorem vO(F:bV K "back_of" "back_of" my f fd)(T:Txt mg aM)(D_are_voices: ~~~cy "are_voices" 3 ["numbers","voices"] (cq K))(DM_Back: ~~~i6 "Back" C 2 ["self","row","voice","widest"] (pF K C)): ~~~aK bP 4 f fd ["row","numbers","voices"] (pG K C):=by
 refine F.ok wc λ_ A _ s H vs Q E hr h=>?_;obtain⟨q,row,x1,x2,nv,rfl,hq,b1,b2,b3,k⟩:=h
 refine⟨rfl,_,(ah (aO (PW.pt (cK (aY (ay AN (aB (aE K) ⋯ T.n_len boot_len (aa (pr 1) ag)) ae (az _))) (cK (cj (bf (aA D_are_voices hr ⋯ (aa (bo (eX K) (pr 1) bw (eP ae)) (aa (pr 2) ag))) (λ_=>rfl))) (cB (aY (ay (o0 jX) (aw (aD K) (pr 1) ae (λ_ _=>rfl)) ae (az _))))))) (ai (ar bc)) aC)
 (ai (ar (iW DM_Back hr ⋯ (aa (pr 0) (aa (aw (aD K) (pr 1) ae (λ_ _=>rfl)) (aa (aw (aD K) (pr 1) ae (λ_ _=>rfl)) ag))))))),?_⟩
 refine iX λRk rk=>?_;tm_at "r";have hs:=sizeLine_eq;refine⟨_,.inl hq,?_⟩;tm_at "r";rw [if_pos (show(((0:Nat)+1+1:Nat):Int)=2 from rfl)];refine ck hq λq1 hq1=>?_;rw [show(some (1:Int))=some ((1:Nat):Int)from rfl,dJ];have s1:av H (upd H q1 (.lst (([x1,x2].map V.int).take 1))):=au hq1;refine⟨q1,[x1],nv,rfl,aH.of af,by simp,λH1 s2=>?_⟩;rw [show([x1].all λn=>decide (1<=n) && decide (n<=nv))=true by simp;omega];tm_at "r";have s3:=s1.trans s2;have hq3:=s3.seq hq;refine bp hq3 (show fV _ ((1:Nat):Int)=_ from aJ rfl) ?_;tm_at "r";rw [if_neg (show ¬(x2 < 0)by omega)];refine rk _ _ ?_;tm_at "r";refine bp hq3 (bE rfl) (bp hq3 (show fV _ ((1:Nat):Int)=_ from aJ rfl) ?_);show ∀x dx:Addr,_;intro x dx hx hdx hne;have s5:av H (upd (upd H1 dx (.own x)) x (.ins C dx [])):=(s3.upd hdx).upd (by rw [aj (Ne.symm hne)];exact hx);refine⟨x,dx,row,x1,x2,rfl,af,rfl,?_⟩;refine k x _ ?_ ⟨dx,af⟩;intro c o hc;rw [aj (aq (s3 _ _ hc) hx)];exact s5 _ _ hc
theorem sL(F:bV K "size" "Back.size" jq f fd): ~~~aK bP 1 f fd ["self"] (cL 1 λ_=>.int 3):=by
 refine F.ok tF λ_ A _ s H vs Q E hr h=>?_;obtain⟨hl,k⟩:=h;obtain⟨a,rfl⟩:=FF hl;refine⟨rfl,_,(ai (ar ae)),?_⟩;tm_at "r";exact k
theorem qe(F:bV K "start" "Back.start" iD f fd)(T:Txt mg aM): ~~~aK bP 1 f fd ["self"] (cL 1 λ_=>.int 0):=by
 refine F.ok qG λ_ A _ s H vs Q E hr h=>?_;obtain⟨hl,k⟩:=h;obtain⟨a,rfl⟩:=FF hl;refine⟨rfl,_,(ai (ar (iy T.g_NO_LEAP))),?_⟩;tm_at "r";exact k
def lq(m:Int):Prop:=0<=m/\m<=2
theorem oN(F:bV K "closes" "Back.closes" gR f fd)(T:Txt mg aM): ~~~aK bP 1 f fd ["self","memory","last"] (eh K nv (gh C row x1 x2) (dz x1 x2) lq):=by
 refine F.ok pf λ_ A _ s H vs Q E hr h=>?_;obtain⟨r,m,x,bb,rfl,_,_,_,k⟩:=h;refine⟨rfl,_,(ai (ar (aT gA (pr 1) (iy T.g_NO_LEAP) (az _)))),?_⟩;tm_at "r";exact k
theorem qb(F:bV K "after" "Back.after" iC f fd)(T:Txt mg aM)(TC:nE K C)(ha:1<=x1/\x1<=nv)(D_move: ~~~cy "move" 2 ["before","column","voice"] (lT K)): ~~~aK bP 3 f fd ["self","memory","before","column"] (bz K nv (gh C row x1 x2) (dz x1 x2) lq):=by
 refine F.ok sc_Back_after λ_ A _ s H vs Q E hr h=>?_;obtain⟨r,m,x,c,bb,us,rfl,⟨dx,hr1⟩,_,hbv,hc,hu,k⟩:=h
 refine⟨rfl,_,(ah (aO (aY (ay fL (pr 2) bc (az _))) (ai (ar (iy T.g_NO_LEAP))) aC)
 (ah (cN (i:=4) sc_Back_after.nd (aA D_move hr ⋯ (aa (pr 2) (aa (pr 3) (aa (aU (pr 0) rfl) ag)))))
 (ah (aO (PW.pt (cK (PW.pt (gP (aY (ay gA (pr 1) (iy T.g_LEAP_UP) (az _))) (fZ (aY (ay (o0 xt) (pr 4) ae (az _)))))) (cB (PW.pt (gP (aY (ay gA (pr 1) (iy T.g_LEAP_DOWN) (az _))) (fZ (aY (ay (o0 ic) (pr 4) ae (az _))))))))) (ai (ar bc)) aC)
 (ah (aO (aY (ay (o0 ib) (pr 4) (aU (pr 0) rfl) (az _))) (ai (ar (iy T.g_LEAP_UP))) aC)
 (ai (ar (dc (aY (ay (o0 jX) (pr 4) (ao (o0 bC) ae (aU (pr 0) rfl)) (az _))) (iy T.g_LEAP_DOWN) (iy T.g_NO_LEAP)))))))),?_⟩
 have l1:(gk row x1 x2).lookup (Str.ofString "voice")=⇑x1:=by unfold gk;tm_at "f"
 have l2:(gk row x1 x2).lookup (Str.ofString "widest")=⇑x2:=by unfold gk;tm_at "f"
 refine cv λA0 B0 hA0 hB0=>?_;tm_at "r";rcases hbv with⟨rfl,rfl⟩ | ⟨a,bs,rfl,rfl,hba,hbl⟩
 ·rw [if_pos rfl]
  exact hA0 _ k
 rw [if_neg (λz=>by cases z)];refine hB0 _ (iX λk1 hk1=>?_);tm_at "r";refine⟨C,dx,_,hr1,TC.cl,TC.n2,_,l1,a,c,x1,bs,us,rfl,hba,hc,ha.1,by rw [hbl];exact ha.2,by rw [hu];exact ha.2,?_⟩;simp only [dz]at k;generalize aF us x1 - aF bs x1=stp at k |-;refine hk1 _ _ (cv λA1 B1 hA1 hB1=>?_);tm_at "r"
 by_cases hB:(m=1/\0<=stp)\/(m=2/\stp<=0)
 ·rw [if_pos hB]at k
  rcases hB with⟨h1,h2⟩ | ⟨h1,h2⟩
  ·rw [if_pos h1,if_pos h2]
   exact hA1 _ k
  ·rw [if_neg (show ¬(m=1)by omega),if_pos h1,if_pos h2]
   exact hA1 _ k
 rw [if_neg hB]at k
 have hb1:B1 H:=by
  refine hB1 _ (cv λA2 B2 hA2 hB2=>?_);tm_at "r";refine⟨C,dx,_,hr1,TC.cl,TC.n3,_,l2,_,rfl,?_⟩
  by_cases h3:x2 < stp
  ·rw [if_pos h3]
   rw [if_pos (show stp > x2 from h3)]at k;exact hA2 _ k
  rw [if_neg h3];rw [if_neg (show ¬(stp > x2)from h3)]at k;refine hB2 _ ?_;tm_at "r";refine⟨C,dx,_,hr1,TC.cl,TC.n3,_,l2,_,rfl,?_⟩
  by_cases h4:stp < 0 - x2
  ·rw [if_pos h4]
   rw [if_pos h4]at k;exact k
  ·rw [if_neg h4]
   rw [if_neg h4]at k;exact k
 by_cases h1:m=1
 ·rw [if_pos h1,if_neg (λz=>hB (.inl ⟨h1,z⟩)),if_neg (show ¬(m=2)by omega)]
  exact hb1
 rw [if_neg h1]
 by_cases h2:m=2
 ·rw [if_pos h2,if_neg (λz=>hB (.inr ⟨h2,z⟩))]
  exact hb1
 rw [if_neg h2];exact hb1
theorem zI(TC:nE K C)(h1: ~~~aG C "size" 7 ["self"] (cL 1 λ_=>.int 3))(h2: ~~~aG C "start" 7 ["self"] (cL 1 λ_=>.int 0))(h3: ~~~aG C "closes" 7 ["self","memory","last"] (eh K nv (gh C row x1 x2) (dz x1 x2) lq))
  (h4: ~~~aG C "after" 7 ["self","memory","before","column"] (bz K nv (gh C row x1 x2) (dz x1 x2) lq)): ~~~bt 7 nv C (dz x1 x2) (gh C row x1 x2) lq:=by
 refine⟨λr H H' s h=>?_,λr H h=>?_,⟨show(0:Int)<=0 by decide,show(0:Int)<=2 by decide⟩,λm b us m' _ e=>?_,h1.imp ?_,h2.imp ?_,h4,h3⟩
 ·obtain⟨dx,e1⟩:=h
  exact⟨dx,s _ _ e1⟩
 ·obtain⟨dx,e1⟩:=h
  refine⟨dx,_,e1,?_,?_,?_,?_,?_⟩<;>(unfold gk;tm_at "f")
 ·simp only [dz]at e
  cases b with
  | none=>cases e;exact⟨∅,∅⟩
  | some bs=>
   simp only at e
   split at e
   ·cases e
   split at e
   ·cases e;exact⟨∅,∅⟩
   split at e
   ·cases e;exact⟨∅,∅⟩
   ·cases e;exact⟨∅,∅⟩
 ·rintro vs H Q E ⟨r,rfl,_,q⟩
  exact⟨rfl,q⟩
 ·rintro vs H Q E ⟨r,rfl,_,q⟩
  exact⟨rfl,q⟩
theorem sM(F:bV K "__init__" "Held.__init__" fO f fd)(T:Txt mg aM)(TC:kP K C)(DC_Rule___init__: ~~~i5 "Rule" "__init__" 1 ["self","row"] (cw K)): ~~~aK bP 2 f fd ["self","row","voice","most"] (pH K C):=by
 refine F.ok mH λ_ A _ s H vs Q E hr h=>?_;obtain⟨x,dx,row,x1,x2,rfl,hx,k⟩:=h
 refine⟨rfl,_,(ah (bH (dH DC_Rule___init__ hr ⋯ (aa (pr 0) (aa (pr 1) ag))))
 (ah (bG (pr 0) (pr 2) rfl)
 (ai (bG (pr 0) (pr 3) rfl)))),?_⟩
 refine iX λRk rk=>?_;tm_at "r";have ln:∀(f:Str) (v:V) (l:List (Str×V)) (n:Nat),l.length<=n->(bu f v l).length<=n+1:=λf v l n h=>ab6 (bB f v l) (ae1 h);refine⟨x,C,dx,[],row,rfl,hx,TC.cl,TC.n1,∅,rk _ _ ?_⟩;tm_at "r";refine⟨C,dx,_,af,TC.cl,TC.n2,aa7 (ln _ _ _ _ (ac2 0)) ∅,C,dx,_,af,TC.cl,TC.n3,aa7 (ln _ _ _ _ (ln _ _ _ _ (ac2 0))) ∅,?_⟩;rw [bO,bO];exact k
theorem vQ(F:bV K "held_of" "held_of" mB f fd)(T:Txt mg aM)(D_are_voices: ~~~cy "are_voices" 3 ["numbers","voices"] (cq K))(DM_Held: ~~~i6 "Held" C 2 ["self","row","voice","most"] (pH K C)): ~~~aK bP 4 f fd ["row","numbers","voices"] (pI K C):=by
 refine F.ok we λ_ A _ s H vs Q E hr h=>?_;obtain⟨q,row,x1,x2,nv,rfl,hq,b1,b2,b3,k⟩:=h
 refine⟨rfl,_,(ah (aO (PW.pt (cK (aY (ay AN (aB (aE K) ⋯ T.n_len boot_len (aa (pr 1) ag)) ae (az _))) (cK (cj (bf (aA D_are_voices hr ⋯ (aa (bo (eX K) (pr 1) bw (eP ae)) (aa (pr 2) ag))) (λ_=>rfl))) (cB (aY (ay (o0 jX) (aw (aD K) (pr 1) ae (λ_ _=>rfl)) ae (az _))))))) (ai (ar bc)) aC)
 (ai (ar (iW DM_Held hr ⋯ (aa (pr 0) (aa (aw (aD K) (pr 1) ae (λ_ _=>rfl)) (aa (aw (aD K) (pr 1) ae (λ_ _=>rfl)) ag))))))),?_⟩
 refine iX λRk rk=>?_;tm_at "r";have hs:=sizeLine_eq;refine⟨_,.inl hq,?_⟩;tm_at "r";rw [if_pos (show(((0:Nat)+1+1:Nat):Int)=2 from rfl)];refine ck hq λq1 hq1=>?_;rw [show(some (1:Int))=some ((1:Nat):Int)from rfl,dJ];have s1:av H (upd H q1 (.lst (([x1,x2].map V.int).take 1))):=au hq1;refine⟨q1,[x1],nv,rfl,aH.of af,by simp,λH1 s2=>?_⟩;rw [show([x1].all λn=>decide (1<=n) && decide (n<=nv))=true by simp;omega];tm_at "r";have s3:=s1.trans s2;have hq3:=s3.seq hq;refine bp hq3 (show fV _ ((1:Nat):Int)=_ from aJ rfl) ?_;tm_at "r";rw [if_neg (show ¬(x2 < 1)by omega)];refine rk _ _ ?_;tm_at "r";refine bp hq3 (bE rfl) (bp hq3 (show fV _ ((1:Nat):Int)=_ from aJ rfl) ?_);show ∀x dx:Addr,_;intro x dx hx hdx hne;have s5:av H (upd (upd H1 dx (.own x)) x (.ins C dx [])):=(s3.upd hdx).upd (by rw [aj (Ne.symm hne)];exact hx);refine⟨x,dx,row,x1,x2,rfl,af,rfl,?_⟩;refine k x _ ?_ ⟨dx,af⟩;intro c o hc;rw [aj (aq (s3 _ _ hc) hx)];exact s5 _ _ hc
theorem sN(F:bV K "size" "Held.size" jr f fd)(TC:kP K C): ~~~aK bP 1 f fd ["self"] (pN (gi C row x1 x2) (.int x2)):=by
 refine F.ok tG λ_ A _ s H vs Q E hr h=>?_;obtain⟨r,rfl,⟨dx,hr1⟩,k⟩:=h;refine⟨rfl,_,(ai (ar (aU (pr 0) rfl))),?_⟩;tm_at "r"
 have l2:(eK row x1 x2).lookup (Str.ofString "most")=⇑x2:=by unfold eK;tm_at "f"
 exact⟨C,dx,_,hr1,TC.cl,TC.n3,_,l2,k⟩
theorem ql(F:bV K "after" "Held.after" iF f fd)(T:Txt mg aM)(TC:kP K C)(ha:1<=x1/\x1<=nv)(D_note_in: ~~~cy "note_in" 2 ["column","voice"] (fJ K)): ~~~aK bP 3 f fd ["self","memory","before","column"] (bz K nv (gi C row x1 x2) (eo x1 x2) (rC x2)):=by
 refine F.ok qJ λ_ A _ s H vs Q E hr h=>?_;obtain⟨r,m,x,c,bb,us,rfl,⟨dx,hr1⟩,_,hbv,hc,hu,k⟩:=h
 refine⟨rfl,_,(ah (aO (PW.pt (cK (aY (ay fL (pr 2) bc (az _))) (cB (aY (ay AN (aA D_note_in hr ⋯ (aa (pr 2) (aa (aU (pr 0) rfl) ag))) (aA D_note_in hr ⋯ (aa (pr 3) (aa (aU (pr 0) rfl) ag))) (az _)))))) (ai (ar ae)) aC)
 (ai (ar (dc (aY (ay (o0 jX) (ao (bF K) (pr 1) ae) (aU (pr 0) rfl) (az _))) (ao (bF K) (pr 1) ae) bc)))),?_⟩
 refine iX λRk rk=>?_;tm_at "r"
 have l1:(eK row x1 x2).lookup (Str.ofString "voice")=⇑x1:=by unfold eK;tm_at "f"
 have l2:(eK row x1 x2).lookup (Str.ofString "most")=⇑x2:=by unfold eK;tm_at "f"
 rcases hbv with⟨rfl,rfl⟩ | ⟨a,bs,rfl,rfl,hba,hbl⟩
 ·rw [if_pos rfl]
  exact k
 rw [if_neg (λz=>by cases z)];refine⟨C,dx,_,hr1,TC.cl,TC.n2,_,l1,a,x1,bs,rfl,hba,ha.1,by rw [hbl];exact ha.2,C,dx,_,hr1,TC.cl,TC.n2,_,l1,c,x1,us,rfl,hc,ha.1,by rw [hu];exact ha.2,?_⟩;tm_at "r";simp only [eo]at k
 by_cases h:aF bs x1=aF us x1
 ·rw [if_pos h]
  rw [if_pos h]at k;refine rk _ _ ?_;tm_at "r";refine⟨C,dx,_,hr1,TC.cl,TC.n3,_,l2,_,rfl,?_⟩
  by_cases h2:m+1 < x2
  ·rw [if_pos h2]
   rw [if_pos h2]at k;exact k
  ·rw [if_neg h2]
   rw [if_neg h2]at k;exact k
 ·rw [if_neg h]
  rw [if_neg h]at k;exact k
theorem Aa(h0:1<=x2)(TC:kP K C)(h1: ~~~aG C "size" 7 ["self"] (pN (gi C row x1 x2) (.int x2)))(h2: ~~~aG C "start" 7 ["self"] (cL 1 λ_=>.int 0))(h3: ~~~aG C "closes" 7 ["self","memory","last"] (cL 3 λ_=>.bl true))
  (h4: ~~~aG C "after" 7 ["self","memory","before","column"] (bz K nv (gi C row x1 x2) (eo x1 x2) (rC x2))): ~~~bt 7 nv C (eo x1 x2) (gi C row x1 x2) (rC x2):=by
 refine⟨λr H H' s h=>?_,λr H h=>?_,⟨show(0:Int)<=0 by decide,show(0:Int) < x2 by omega⟩,λm b us m' hm e=>?_,h1,h2.imp ?_,h4,h3.imp ?_⟩
 ·obtain⟨dx,e1⟩:=h
  exact⟨dx,s _ _ e1⟩
 ·obtain⟨dx,e1⟩:=h
  refine⟨dx,_,e1,?_,?_,?_,?_,?_⟩<;>(unfold eK;tm_at "f")
 ·simp only [eo]at e
  obtain⟨m0,m1⟩:=hm
  cases b with
  | none=>cases e;exact⟨∅,()⟩
  | some bs=>
   simp only at e
   split at e
   ·split at e
    ·cases e;exact⟨(),()⟩
    ·cases e
   ·cases e;exact⟨∅,()⟩
 ·rintro vs H Q E ⟨r,rfl,_,q⟩
  exact⟨rfl,q⟩
 ·rintro vs H Q E ⟨r,m,x,b,rfl,_,_,_,q⟩
  exact⟨rfl,q⟩
theorem qv(F:bV K "__init__" "Times.__init__" fq f fd)(T:Txt mg aM)(TC:hV K C)(DC_Rule___init__: ~~~i5 "Rule" "__init__" 1 ["self","row"] (cw K)): ~~~aK bP 2 f fd ["self","row","voice","note","fewest","most"] (ng K C):=by
 refine F.ok lO λ_ A _ s H vs Q E hr h=>?_;obtain⟨x,dx,row,x1,x2,x3,x4,rfl,hx,k⟩:=h
 refine⟨rfl,_,(ah (bH (dH DC_Rule___init__ hr ⋯ (aa (pr 0) (aa (pr 1) ag))))
 (ah (bG (pr 0) (pr 2) rfl)
 (ah (bG (pr 0) (pr 3) rfl)
 (ah (bG (pr 0) (pr 4) rfl)
 (ai (bG (pr 0) (pr 5) rfl)))))),?_⟩
 refine iX λRk rk=>?_;tm_at "r";have ln:∀(f:Str) (v:V) (l:List (Str×V)) (n:Nat),l.length<=n->(bu f v l).length<=n+1:=λf v l n h=>ab6 (bB f v l) (ae1 h);refine⟨x,C,dx,[],row,rfl,hx,TC.cl,TC.n1,∅,rk _ _ ?_⟩;tm_at "r";refine⟨C,dx,_,af,TC.cl,TC.n2,aa7 (ln _ _ _ _ (ac2 0)) ∅,C,dx,_,af,TC.cl,TC.n3,aa7 (ln _ _ _ _ (ln _ _ _ _ (ac2 0))) ∅,C,dx,_,af,TC.cl,TC.n4,aa7 (ln _ _ _ _ (ln _ _ _ _ (ln _ _ _ _ (ac2 0)))) ∅,C,dx,_,af,TC.cl,TC.n5,aa7 (ln _ _ _ _ (ln _ _ _ _ (ln _ _ _ _ (ln _ _ _ _ (ac2 0))))) ∅,?_⟩;rw [bO,bO,bO,bO];exact k
theorem uF(F:bV K "times_of" "times_of" kC f fd)(T:Txt mg aM)(D_are_voices: ~~~cy "are_voices" 3 ["numbers","voices"] (cq K))(DM_Times: ~~~i6 "Times" C 2 ["self","row","voice","note","fewest","most"] (ng K C)): ~~~aK bP 4 f fd ["row","numbers","voices"] (mS K C):=by
 refine F.ok u5 λ_ A _ s H vs Q E hr h=>?_;obtain⟨q,row,x1,x2,x3,x4,nv,rfl,hq,b1,b2,b3,b4,k⟩:=h
 refine⟨rfl,_,(ah (aO (PW.pt (cK (aY (ay AN (aB (aE K) ⋯ T.n_len boot_len (aa (pr 1) ag)) ae (az _))) (cK (cj (bf (aA D_are_voices hr ⋯ (aa (bo (eX K) (pr 1) bw (eP ae)) (aa (pr 2) ag))) (λ_=>rfl))) (cB (aY (ay (o0 jX) (aB (yf rfl K) ⋯ T.n_min boot_min (aa (bo (eX K) (pr 1) (eP ae) bw) ag)) ae (az _))))))) (ai (ar bc)) aC)
 (ai (ar (iW DM_Times hr ⋯ (aa (pr 0) (aa (aw (aD K) (pr 1) ae (λ_ _=>rfl)) (aa (aw (aD K) (pr 1) ae (λ_ _=>rfl)) (aa (aw (aD K) (pr 1) ae (λ_ _=>rfl)) (aa (aw (aD K) (pr 1) ae (λ_ _=>rfl)) ag))))))))),?_⟩
 refine iX λRk rk=>?_;tm_at "r";have hs:=sizeLine_eq;refine⟨_,.inl hq,?_⟩;tm_at "r";rw [if_pos (show(((0:Nat)+1+1+1+1:Nat):Int)=4 from rfl)];refine ck hq λq1 hq1=>?_;rw [show(some (1:Int))=some ((1:Nat):Int)from rfl,dJ];have s1:av H (upd H q1 (.lst (([x1,x2,x3,x4].map V.int).take 1))):=au hq1;refine⟨q1,[x1],nv,rfl,aH.of af,by simp,λH1 s2=>?_⟩;rw [show([x1].all λn=>decide (1<=n) && decide (n<=nv))=true by simp;omega];tm_at "r";have s3:=s1.trans s2;have hq3:=s3.seq hq;refine ck hq3 λq4 hq4=>?_;rw [show(some (2:Int))=some ((2:Nat):Int)from rfl,cC];have s4:av H (upd H1 q4 (.lst (([x1,x2,x3,x4].map V.int).drop 2))):=s3.upd hq4;have hm:(upd H1 q4 (.lst (([x1,x2,x3,x4].map V.int).drop 2))) q4=some (.lst ([x3,x4].map V.int)):=af;generalize upd H1 q4 (.lst (([x1,x2,x3,x4].map V.int).drop 2))=H2 at s4 hm;refine⟨q4,rfl,[x3,x4],aH.of hm,by simp,λi hi=>?_⟩
 have hi0:0<=i:=by
  rcases ab0.mp hi with rfl | hi
  ·exact b3
  ·rw [ac1.mp hi];exact b4
 tm_at "r";rw [if_neg (show ¬(i < 0)by omega)];refine rk _ _ ?_;tm_at "r";have hq5:=s4.seq hq;refine bp hq5 (bE rfl) (bp hq5 (show fV _ ((1:Nat):Int)=_ from aJ rfl) (bp hq5 (show fV _ ((2:Nat):Int)=_ from aJ rfl) (bp hq5 (show fV _ ((3:Nat):Int)=_ from aJ rfl) ?_)));show ∀x dx:Addr,_;intro x dx hx hdx hne;have s5:av H (upd (upd H2 dx (.own x)) x (.ins C dx [])):=(s4.upd hdx).upd (by rw [aj (Ne.symm hne)];exact hx);refine⟨x,dx,row,x1,x2,x3,x4,rfl,af,rfl,?_⟩;refine k x _ ?_ ⟨dx,af⟩;intro c o hc;rw [aj (aq (s4 _ _ hc) hx)];exact s5 _ _ hc
theorem qw(F:bV K "size" "Times.size" iJ f fd)(TC:hV K C): ~~~aK bP 1 f fd ["self"] (pN (du C row x1 x2 x3 x4) (.int (x4+1))):=by
 refine F.ok qP λ_ A _ s H vs Q E hr h=>?_;obtain⟨r,rfl,⟨dx,hr1⟩,k⟩:=h;refine⟨rfl,_,(ai (ar (ao (bF K) (aU (pr 0) rfl) ae))),?_⟩;tm_at "r"
 have l5:(cD row x1 x2 x3 x4).lookup (Str.ofString "most")=⇑x4:=by unfold cD;tm_at "f"
 refine⟨C,dx,_,hr1,TC.cl,TC.n5,_,l5,?_⟩;tm_at "r";exact k
theorem nr(F:bV K "closes" "Times.closes" gv f fd)(TC:hV K C): ~~~aK bP 1 f fd ["self","memory","last"] (eh K nv (du C row x1 x2 x3 x4) (cW x1 x2 x3 x4) (lu x4)):=by
 refine F.ok nB λ_ A _ s H vs Q E hr h=>?_;obtain⟨r,m,x,bb,rfl,⟨dx,hr1⟩,_,_,k⟩:=h;refine⟨rfl,_,(ai (ar (aT (o0 xt) (pr 1) (aU (pr 0) rfl) (az _)))),?_⟩;tm_at "r"
 have l4:(cD row x1 x2 x3 x4).lookup (Str.ofString "fewest")=⇑x3:=by unfold cD;tm_at "f"
 refine⟨C,dx,_,hr1,TC.cl,TC.n4,_,l4,?_⟩;tm_at "r";exact k
theorem oS(F:bV K "after" "Times.after" gZ f fd)(T:Txt mg aM)(TC:hV K C)(ha:1<=x1/\x1<=nv)(D_note_in: ~~~cy "note_in" 2 ["column","voice"] (fJ K)): ~~~aK bP 3 f fd ["self","memory","before","column"] (bz K nv (du C row x1 x2 x3 x4) (cW x1 x2 x3 x4) (lu x4)):=by
 refine F.ok pB λ_ A _ s H vs Q E hr h=>?_;obtain⟨r,m,x,c,bb,us,rfl,⟨dx,hr1⟩,_,hbv,hc,hu,k⟩:=h
 refine⟨rfl,_,(ah (aO (aY (ay AN (aA D_note_in hr ⋯ (aa (pr 3) (aa (aU (pr 0) rfl) ag))) (aU (pr 0) rfl) (az _))) (ai (ar (pr 1))) aC)
 (ai (ar (dc (aY (ay (o0 jX) (pr 1) (aU (pr 0) rfl) (az _))) (ao (bF K) (pr 1) ae) bc)))),?_⟩
 refine iX λRk rk=>?_;tm_at "r"
 have l1:(cD row x1 x2 x3 x4).lookup (Str.ofString "voice")=⇑x1:=by unfold cD;tm_at "f"
 have l2:(cD row x1 x2 x3 x4).lookup (Str.ofString "note")=⇑x2:=by unfold cD;tm_at "f"
 have l5:(cD row x1 x2 x3 x4).lookup (Str.ofString "most")=⇑x4:=by unfold cD;tm_at "f"
 refine⟨C,dx,_,hr1,TC.cl,TC.n2,_,l1,c,x1,us,rfl,hc,ha.1,by rw [hu];exact ha.2,C,dx,_,hr1,TC.cl,TC.n3,_,l2,?_⟩;tm_at "r";simp only [cW]at k
 by_cases h:aF us x1=x2
 ·rw [if_pos h]
  rw [if_pos h]at k;refine rk _ _ ?_;tm_at "r";refine⟨C,dx,_,hr1,TC.cl,TC.n5,_,l5,_,rfl,?_⟩
  by_cases h2:m < x4
  ·rw [if_pos h2]
   rw [if_pos h2]at k;exact k
  ·rw [if_neg h2]
   rw [if_neg h2]at k;exact k
 ·rw [if_neg h]
  rw [if_neg h]at k;exact k
theorem zi(h0:0<=x4)(TC:hV K C)(h1: ~~~aG C "size" 7 ["self"] (pN (du C row x1 x2 x3 x4) (.int (x4+1))))(h2: ~~~aG C "start" 7 ["self"] (cL 1 λ_=>.int 0))(h3: ~~~aG C "closes" 7 ["self","memory","last"] (eh K nv (du C row x1 x2 x3 x4) (cW x1 x2 x3 x4) (lu x4)))
  (h4: ~~~aG C "after" 7 ["self","memory","before","column"] (bz K nv (du C row x1 x2 x3 x4) (cW x1 x2 x3 x4) (lu x4))): ~~~bt 7 nv C (cW x1 x2 x3 x4) (du C row x1 x2 x3 x4) (lu x4):=by
 refine⟨λr H H' s h=>?_,λr H h=>?_,⟨show(0:Int)<=0 by decide,show(0:Int)<=x4 by omega⟩,λm b us m' hm e=>?_,h1,h2.imp ?_,h4,h3⟩
 ·obtain⟨dx,e1⟩:=h
  exact⟨dx,s _ _ e1⟩
 ·obtain⟨dx,e1⟩:=h
  refine⟨dx,_,e1,?_,?_,?_,?_,?_⟩<;>(unfold cD;tm_at "f")
 ·simp only [cW]at e
  obtain⟨m0,m1⟩:=hm
  split at e
  ·split at e
   ·cases e;exact⟨(),()⟩
   ·cases e
  ·cases e;exact⟨m0,m1⟩
 ·rintro vs H Q E ⟨r,rfl,_,q⟩
  exact⟨rfl,q⟩
theorem qj(F:bV K "__init__" "Every.__init__" fj f fd)(T:Txt mg aM)(TC:i4 K C)(DC_Rule___init__: ~~~i5 "Rule" "__init__" 1 ["self","row"] (cw K)): ~~~aK bP 2 f fd ["self","row","turns","turn","inner"] (m9 K C):=by
 refine F.ok lM λ_ A _ s H vs Q E hr h=>?_;obtain⟨x,dx,ri,row,t,u,rfl,hx,k⟩:=h
 refine⟨rfl,_,(ah (bH (dH DC_Rule___init__ hr ⋯ (aa (pr 0) (aa (pr 1) ag))))
 (ah (bG (pr 0) (pr 2) rfl)
 (ah (bG (pr 0) (pr 3) rfl)
 (ai (bG (pr 0) (pr 4) rfl))))),?_⟩
 refine iX λRk rk=>?_;tm_at "r";have ln:∀(f:Str) (v:V) (l:List (Str×V)) (n:Nat),l.length<=n->(bu f v l).length<=n+1:=λf v l n h=>ab6 (bB f v l) (ae1 h);refine⟨x,C,dx,[],row,rfl,hx,TC.cl,TC.n1,∅,rk _ _ ?_⟩;tm_at "r";refine⟨C,dx,_,af,TC.cl,TC.n2,aa7 (ln _ _ _ _ (ac2 0)) ∅,C,dx,_,af,TC.cl,TC.n3,aa7 (ln _ _ _ _ (ln _ _ _ _ (ac2 0))) ∅,C,dx,_,af,TC.cl,TC.n4,aa7 (ln _ _ _ _ (ln _ _ _ _ (ln _ _ _ _ (ac2 0)))) ∅,?_⟩;rw [bO,bO,bO];exact k
theorem qk(F:bV K "size" "Every.size" iE f fd)(TC:i4 K C): ~~~aK bP 1 f fd ["self"] (pN (fB C row t u RIn) (.int t)):=by
 refine F.ok qH λ_ A _ s H vs Q E hr h=>?_;obtain⟨r,rfl,⟨dx,ri,hr1,_⟩,k⟩:=h;refine⟨rfl,_,(ai (ar (aU (pr 0) rfl))),?_⟩;tm_at "r"
 have l2:(cR row t u ri).lookup (Str.ofString "turns")=⇑t:=by unfold cR;tm_at "f"
 exact⟨C,dx,_,hr1,TC.cl,TC.n2,_,l2,k⟩
theorem oQ{Cn:Addr}{S:bS}{G:Int->Prop}(F:bV K "after" "Every.after" gW f fd)(T:Txt mg aM)(TC:i4 K C)(ht:0 < t)(R: ~~~bt 4 nv Cn S RIn G): ~~~aK bP 5 f fd ["self","memory","before","column"] (bz K nv (fB C row t u RIn) (eV t u S) (oF t)):=by
 refine F.ok pk λ_ A _ s H vs Q E hr h=>?_;obtain⟨r,m,x,c,bb,us,rfl,⟨dx,ri,hr1,hin⟩,_,hbv,hc,hu,k⟩:=h
 refine⟨rfl,_,(ah (aO (PW.pt (gP (aY (ay gA (pr 1) (aU (pr 0) rfl) (az _))) (fZ (aY (ay fL (~~~eO hr (aU (pr 0) rfl) (aa (~~~jR hr (aU (pr 0) rfl)) (aa (pr 2) (aa (pr 3) ag)))) bc (az _)))))) (ai (ar bc)) aC)
 (ai (ar (ao (o1 aP) (ao (bF K) (pr 1) ae) (aU (pr 0) rfl))))),?_⟩
 refine iX λRk rk=>?_;tm_at "r"
 have l2:(cR row t u ri).lookup (Str.ofString "turns")=⇑t:=by unfold cR;tm_at "f"
 have l3:(cR row t u ri).lookup (Str.ofString "turn")=⇑u:=by unfold cR;tm_at "f"
 have l4:(cR row t u ri).lookup (Str.ofString "inner")=↑ri:=by unfold cR;tm_at "f"
 refine⟨C,dx,_,hr1,TC.cl,TC.n3,_,l3,?_⟩;tm_at "r";obtain⟨dx2,fs,hir,q1,q2,q3,q4,q5⟩:=R.ins ri H hin;simp only [eV]at k
 by_cases hm:m=u
 ·rw [if_pos hm]
  rw [if_pos hm]at k;refine⟨C,dx,_,hr1,TC.cl,TC.n4,_,l4,ri,rfl,Cn,dx2,fs,hir,q3,_,_,R.after,C,dx,_,hr1,TC.cl,TC.n4,_,l4,ri,rfl,Cn,dx2,fs,hir,q2,_,_,R.start,ri,rfl,hin,ri,_,x,c,bb,us,rfl,hin,R.g0,hbv,hc,hu,?_⟩
  cases ha:S.after S.start bb us with
  | none=>
   rw [if_pos (show D8 none=V.non from rfl)];rw [ha,if_pos rfl]at k;exact k
  | some m'=>
   rw [if_neg (show ¬(D8 (some m')=V.non)from λz=>by cases z)];rw [ha,if_neg (λz=>by cases z)]at k;refine rk _ _ ?_;tm_at "r";exact⟨C,dx,_,hr1,TC.cl,TC.n2,_,l2,_,rfl,ht,k⟩
 ·rw [if_neg hm]
  rw [if_neg hm]at k;refine rk _ _ ?_;tm_at "r";exact⟨C,dx,_,hr1,TC.cl,TC.n2,_,l2,_,rfl,ht,k⟩
theorem yw{Cn:Addr}{S:bS}{G:Int->Prop}(ht:0 < t)(TC:i4 K C)(R: ~~~bt 4 nv Cn S RIn G)(h1: ~~~aG C "size" 7 ["self"] (pN (fB C row t u RIn) (.int t)))(h2: ~~~aG C "start" 7 ["self"] (cL 1 λ_=>.int 0))(h3: ~~~aG C "closes" 7 ["self","memory","last"] (cL 3 λ_=>.bl true))
  (h4: ~~~aG C "after" 7 ["self","memory","before","column"] (bz K nv (fB C row t u RIn) (eV t u S) (oF t))): ~~~bt 7 nv C (eV t u S) (fB C row t u RIn) (oF t):=by
 refine⟨λr H H' s h=>?_,λr H h=>?_,⟨show(0:Int)<=0 by decide,show(0:Int) < t by omega⟩,λm b us m' hm e=>?_,h1,h2.imp ?_,h4,h3.imp ?_⟩
 ·obtain⟨dx,ri,e1,e2⟩:=h
  exact⟨dx,ri,s _ _ e1,R.mono _ _ _ s e2⟩
 ·obtain⟨dx,ri,e1,e2⟩:=h
  refine⟨dx,_,e1,?_,?_,?_,?_,?_⟩<;>(unfold cR;tm_at "f")
 ·simp only [eV]at e
  have hb:oF t ((m+1) % t):=⟨ad4 _ (),ac7 _ ht⟩
  split at e
  ·split at e
   ·cases e
   ·cases e;exact hb
  ·cases e;exact hb
 ·rintro vs H Q E ⟨r,rfl,_,q⟩
  exact⟨rfl,q⟩
 ·rintro vs H Q E ⟨r,m,x,b,rfl,_,_,_,q⟩
  exact⟨rfl,q⟩
theorem qA{aI:Addr}(F:bV K "every_rule" "every_rule" iL f fd)(T:FN mg aM aI)(hI:zB K aI [.str "span",.str "clock"])(D_is_number: ~~~cy "is_number" 8 ["word"] rO)(D_plain_rule: ~~~cy "plain_rule" 8 ["row","voices"] (~~~lU aM 7))(DM_Every: ~~~i6 "Every" C 7 ["self","row","turns","turn","inner"] (m9 K C)): ~~~aK bP 9 f fd ["row","voices"] (~~~tN aM C 7):=by
 refine F.ok sc_every_rule λ_ A _ s H vs Q E hr h=>?_;obtain⟨row,rest,kind,t,u,ns,nv,D,g,sp,RIn,rfl,RE,R,hkd,u0,u1,tab,hg,fn,k,mono,kq⟩:=h
 refine⟨rfl,_,(ah (cN (i:=2) sc_every_rule.nd (cf K PySem.F.plainAttrs_str PySem.F.slot_str_split PySem.F.type_str_split yK (pr 0) (aa ba (aa ae ag))))
 (ah (aO (PW.pt (cK (aY (ay AN (aB (aE K) ⋯ T.n_len boot_len (aa (pr 2) ag)) ae (az _))) (cK (cj (bf (aA D_is_number hr ⋯ (aa (aw (aD K) (pr 2) ae (λ_ _=>rfl)) ag)) (λ_=>rfl))) (cB (cj (bf (aA D_is_number hr ⋯ (aa (aw (aD K) (pr 2) ae (λ_ _=>rfl)) ag)) (λ_=>rfl))))))) (ai (ar bc)) aC)
 (ah (cN (i:=3) sc_every_rule.nd (aV (c9) ⋯ T.n_int boot_int (aa (aw (aD K) (pr 2) ae (λ_ _=>rfl)) ag)))
 (ah (cN (i:=4) sc_every_rule.nd (aV (c9) ⋯ T.n_int boot_int (aa (aw (aD K) (pr 2) ae (λ_ _=>rfl)) ag)))
 (ah (aO (PW.pt (cK (cj (aY (oX (o0 ic) (o0 jX) ae (pr 4) (pr 3)))) (cB (aY (ay (eM K) (aw (aD K) (cf K PySem.F.plainAttrs_str PySem.F.slot_str_split PySem.F.type_str_split lA (aw (aD K) (pr 2) ae (λ_ _=>rfl)) (aa ba ag)) ae (λ_ _=>rfl)) (iy T.g_INNER_KINDS) (by with_unfolding_all rfl)))))) (ai (ar bc)) aC)
 (ah (cN (i:=5) sc_every_rule.nd (aA D_plain_rule hr ⋯ (aa (aw (aD K) (pr 2) ae (λ_ _=>rfl)) (aa (pr 1) ag))))
 (ai (ar (dc (aY (ay fL (pr 5) bc (az _))) bc (iW DM_Every hr ⋯ (aa (pr 0) (aa (pr 3) (aa (pr 4) (aa (pr 5) ag)))))))))))))),?_⟩
 have hs:=sizeLine_eq;have hl:=RE.len;refine aN (λZ H'=>∃p:Addr,H' p=some (.lst ([Str.ofString "every",aW t,aW u,rest].map V.str))/\Z=[some (.str row),⇑nv,↑p,none,none,none]/\av H H') ?_ ?_
 ·intro u' hu
  tm_at "r";refine⟨32,by decide +kernel,∅,∅,∅,RE.pos,(),?_,λp hp=>?_⟩
  ·rw [show Int.toNat 3=3 from rfl,RE.split];show 4<=_;omega
  ·rw [show Int.toNat 3=3 from rfl,RE.split]
   exact hu _ _ ⟨p,af,rfl,au hp⟩
 rintro Ω ω _ H0 ⟨p,hp0,rfl,s0⟩;have a0:aH K H0 p ([Str.ofString "every",aW t,aW u,rest].map V.str):=aH.of hp0
 have num:∀{n:Int} {H1:Hp} {Q':VK},n.natAbs < 10 ^ 40->(∀H',av H1 H'->Q' (.bl true) H')->rO [.str (aW n)] H1 Q' E0:=λ{n H1 Q'} hn hq=>by
  refine⟨aW n,rfl,?_,λH' s'=>?_⟩
  ·have:=dG hn;omega
  ·rw [show(aW n).cps.toList=iu n from rfl,mi hn]
   exact hq H' s'
 refine ω _ _ (aN (λZ H'=>Z=[some (.str row),⇑nv,↑p,none,none,none]/\av H0 H') ?_ ?_)
 ·intro u' hu
  tm_at "r";refine⟨_,.inl a0,?_⟩;tm_at "r";rw [if_pos (show(((0:Nat)+1+1+1+1:Nat):Int)=4 from rfl)];refine bp a0 (show fV _ ((1:Nat):Int)=_ from aJ rfl) (num RE.tb λH1 s1=>?_);tm_at "r";refine bp (s1.seq a0) (show fV _ ((2:Nat):Int)=_ from aJ rfl) (num RE.ub λH2 s2=>?_);tm_at "r";exact hu _ _ ⟨rfl,s1.trans s2⟩
 clear a0;rintro Ω ω _ H1 ⟨rfl,s01⟩;have s1:=s0.trans s01;have a1:aH K H1 p ([Str.ofString "every",aW t,aW u,rest].map V.str):=aH.of (s01 _ _ hp0);have int':∀{n:Int},n.natAbs < 10 ^ 40->intText? (aW n)=some n/\(aW n).length<=640:=λ{n} hn=>⟨nJ (ab2 hn (aj2 ∅ ∅)),by have:=dG hn;omega⟩;refine ω _ _ (aN (λZ H'=>Z=[some (.str row),⇑nv,↑p,⇑t,none,none]/\H1=H') ?_ ?_)
 ·intro u' hu
  tm_at "r";refine bp a1 (show fV _ ((1:Nat):Int)=_ from aJ rfl) ?_;tm_at "r";exact⟨t,(int' RE.tb).1,(int' RE.tb).2,hu _ _ ⟨rfl,rfl⟩⟩
 rintro Ω ω _ _ ⟨rfl,rfl⟩;refine ω _ _ (aN (λZ H'=>Z=[some (.str row),⇑nv,↑p,⇑t,⇑u,none]/\H1=H') ?_ ?_)
 ·intro u' hu
  tm_at "r";refine bp a1 (show fV _ ((2:Nat):Int)=_ from aJ rfl) ?_;tm_at "r";exact⟨u,(int' RE.ub).1,(int' RE.ub).2,hu _ _ ⟨rfl,rfl⟩⟩
 rintro Ω ω _ _ ⟨rfl,rfl⟩;have hrl:=RE.rl;refine ω _ _ (aN (λZ H'=>Z=[some (.str row),⇑nv,↑p,⇑t,⇑u,none]/\av H1 H') ?_ ?_)
 ·intro u' hu
  tm_at "r";rw [if_pos u0,if_pos u1];refine bp a1 (show fV _ ((3:Nat):Int)=_ from aJ rfl) ?_;tm_at "r";refine⟨32,by decide +kernel,∅,(),λp1 hp1=>?_⟩;rw [R.split];have s':av H1 (upd H1 p1 (.lst ((kind::ns.map aW).map V.str))):=au hp1;refine bp (aH.of af) (bE rfl) (uP (ws:=[Str.ofString "span",Str.ofString "clock"]) (hI.at _) ⟨_,rfl,?_⟩)
  rw [decide_eq_true (show kind∈[Str.ofString "span",Str.ofString "clock"]by rcases hkd with rfl | rfl<;>simp),if_neg (by exact aa6)]
  exact hu _ _ ⟨rfl,s'⟩
 rintro Ω ω _ H2 ⟨rfl,s12⟩;have s2:=s1.trans s12;have a2:aH K H2 p ([Str.ofString "every",aW t,aW u,rest].map V.str):=s12.seq a1;refine ω _ _ (aN (λZ H'=>∃ri:Addr,RIn ri H'/\Z=[some (.str row),⇑nv,↑p,⇑t,⇑u,↑ri]/\av H H') ?_ ?_)
 ·intro u' hu
  tm_at "r";refine bp a2 (show fV _ ((3:Nat):Int)=_ from aJ rfl) ?_;refine⟨rest,kind,ns,nv,D,g,sp,λv H''=>∃ri,v=.ref ri/\av H H''/\RIn ri H'',rfl,R,tab,hg,fn,λq H' Q' sm hq hres=>k q H' Q' (s2.trans sm) hq λri H'' s'' hri=>hres _ _ ⟨ri,rfl,s'',hri⟩,?_⟩;rintro v H' ⟨ri,rfl,s',hri⟩;exact hu _ _ ⟨ri,hri,rfl,s'⟩
 rintro Ω ω _ H3 ⟨ri,hri,rfl,s3⟩;refine ω _ _ ?_;tm_at "r";show ∀x dx:Addr,_;intro x dx hx hdx hne;have s5:av H (upd (upd H3 dx (.own x)) x (.ins C dx [])):=(s3.upd hdx).upd (by rw [aj (Ne.symm hne)];exact hx)
 have s35:av H3 (upd (upd (upd H3 dx (.own x)) x (.ins C dx [])) x (.ins C dx (cR row t u ri))):=λc o hc=>by
  have n1:c≠x:=aq hc hx;rw [aj n1,aj n1,aj (aq hc hdx)];exact hc
 refine⟨x,dx,ri,row,t,u,rfl,af,rfl,?_⟩;exact kq x _ (s3.trans s35) ⟨dx,ri,af,mono _ _ _ s35 hri⟩
theorem qD{T0:Addr}(F:rX K "read_rule" "read_rule" gK f fd T0)(T:Txt mg aM)(D_plain_rule: ~~~cy "plain_rule" 9 ["row","voices"] (~~~lU aM 7))(D_every_rule: ~~~cy "every_rule" 9 ["row","voices"] (~~~tN aM C 7)): ~~~aK bP 10 f fd ["text","voices","row"] (~~~xE aM C 7):=by
 refine F.ok sc_read_rule λ_ A _ s H vs Q E hr h=>?_;obtain⟨row,nv,z,rfl,⟨rest,t,u,RE⟩,k⟩:=h
 refine⟨rfl,_,(ah (cN (i:=3) sc_read_rule.nd (dc (bf (cf K PySem.F.plainAttrs_str PySem.F.slot_str_startswith PySem.F.type_str_startswith gO (pr 0) (aa ba ag)) (λ_=>rfl)) (aA D_every_rule hr ⋯ (aa (pr 0) (aa (pr 1) ag))) (aA D_plain_rule hr ⋯ (aa (pr 0) (aa (pr 1) ag)))))
 (ah (aO (aY (ay fL (pr 3) bc (az _))) (ai lG) aC)
 (ai (ar (pr 3))))),?_⟩
 tm_at "r";rw [RE.starts,if_pos rfl];obtain⟨row',rest',kind,t',u',ns,nv',D,g,sp,RIn,e,k⟩:=k;refine⟨row',rest',kind,t',u',ns,nv',D,g,sp,RIn,e,?_⟩;obtain⟨k1,k2,k3,k4,k5,k6,k7,k8,k9,k10,k11⟩:=k;refine⟨k1,k2,k3,k4,k5,k6,k7,k8,k9,k10,λr H' s' hr=>?_⟩;obtain⟨hn,q⟩:=k11 r H' s' hr;rw [if_neg hn];exact q
theorem sU(F:bV K "memories_after" "memories_after" fw f fd)(T:Txt mg aM): ~~~aK bP 8 f fd ["rules","memories","before","column"] (~~~kF):=by
 refine F.ok sc_memories_after λ_ A _ s H vs Q E hr h=>?_;obtain⟨rb,ma,ca,bx,nv,Ss,Gs,rs,ms,c,b,rfl,RM,lS,hma,hM,hb,hc,hcl,k1,k2⟩:=h
 refine⟨rfl,_,(ah (cN (i:=4) sc_memories_after.nd (bM ag))
 (ah (cJ PassesOwn.never rfl (uK rfl T.n_enumerate (aa (pr 0) ag)) (fX K (n:=2) rfl (bU (j7 (i:=5) sc_memories_after.nd) (bU (j7 (i:=6) sc_memories_after.nd) fY)))
 (ah (cN (i:=7) sc_memories_after.nd (~~~eO hr (pr 6) (aa (aw (aD K) (pr 1) (pr 5) (λ_ _=>rfl)) (aa (pr 2) (aa (pr 3) ag)))))
 (ah (aO (aY (ay fL (pr 7) bc (az _))) (ai (ar bc)) aC)
 (ai (bH (cf K PySem.F.plainAttrs_list PySem.F.slot_list_append PySem.F.type_list_append cE (pr 4) (aa (pr 7) ag)))))))
 (ai (ar (aV (jb K) ⋯ T.n_tuple boot_tuple (aa (pr 4) ag)))))),?_⟩
 have hs:=sizeLine_eq;have lr:=RM.len;have lg:=RM.gl;have lm:=hM.1
 have lres:(mw Ss ms b c).length=Ss.length:=by
  unfold mw;rw [List.length_zipWith];omega
 refine aN (λZ H'=>∃q:Addr,H q=none/\H' q=some (.lst [])/\Z=[↑rb,↑ma,some bx,↑ca,↑q,none,none,none]/\av H H') ?_ ?_
 ·intro u' hu
  tm_at "r";exact⟨(),λq hq=>hu _ _ ⟨q,hq,af,rfl,au hq⟩⟩
 rintro Ω ω _ H1 ⟨q,hq0,hq1,rfl,s1⟩;refine ω _ _ (aN (λZ H'=>∃(r:List Int) (o5 o6 o7:Option V),mw Ss ms b c=r.map some/\H' q=some (.lst (r.map V.int))/\Z=[↑rb,↑ma,some bx,↑ca,↑q,o5,o6,o7]/\av H H') ?_ ?_)
 ·intro u' hu
  tm_at "r";obtain⟨Pv,hPv⟩:∃Pv:Nat->L2.St->Hp->Prop,Pv=λi Z H'=>∃(r:List Int) (o5 o6 o7:Option V),(mw Ss ms b c).take i=r.map some/\r.length=i/\H' q=some (.lst (r.map V.int))/\Z=[↑rb,↑ma,some bx,↑ca,↑q,o5,o6,o7]/\av H H':=⟨_,rfl⟩;refine⟨true,⟨_,s1.seq RM.sq⟩,oE (l:=true) (us:=rs.map V.ref) Pv (by rw [hPv];exact⟨[],none,none,none,rfl,rfl,hq1,rfl,s1⟩) (λi Z H' _ h=>?_) ?_ ?_⟩
  ·rw [hPv]at h
   obtain⟨_,_,_,_,_,_,_,_,s'⟩:=h;exact s'.seq RM.sq
  ·intro i y Z H2 p hx hI hp0
   rw [hPv]at hI;obtain⟨r,o5,o6,o7,hr1,hrl,hq2,rfl,s2⟩:=hI;rw [aa4]at hx
   cases hri:rs[i]? with
   | none=>rw [hri]at hx;cases hx
   | some ra=>
    rw [hri]at hx;cases hx
    have hi:i < Ss.length:=by rw [<-lr];exact(aa1.mp hri).1
    obtain⟨S,hS⟩:∃S,Ss[i]?=some S:=⟨_,aa2 hi⟩;obtain⟨G,hG⟩:∃G,Gs[i]?=some G:=⟨_,aa2 ()⟩;obtain⟨m,hm⟩:∃m,ms[i]?=some m:=⟨_,aa2 ()⟩
    have hres:(mw Ss ms b c)[i]?=some (S.after m b c):=by
     unfold mw;rw [al0,hS,hm]
    have s3:av H (upd H2 p (.tup [.int i,.ref ra])):=s2.upd hp0;have hq3:=(au (o:=HO.tup [.int i,.ref ra]) hp0) _ _ hq2;have s23:=au (o:=HO.tup [.int i,.ref ra]) hp0;tm_at "r";refine⟨_,cM.of af,rfl,?_⟩;tm_at "r";generalize upd H2 p (.tup [.int i,.ref ra])=H3 at s3 hq3 s23;obtain⟨C,RI,RO,hRI⟩:=(RM.same s3).at_ i ra S G hri hS hG;obtain⟨dx,fs,hir,z1,z2,z3,z4,z5⟩:=RO.ins ra H3 hRI;refine⟨C,dx,fs,hir,z3,_,_,RO.after,dy (s3.tup hma) (aJ (by rw [aa4,hm];rfl)) ⟨ra,m,bx,ca,b,c,rfl,hRI,hM.2 i G m hG hm,hb.same s3,s3.tup hc,hcl,?_⟩⟩
    cases ha:S.after m b c with
    | none=>
     show if D8 none=V.non then _ else _;rw [if_pos (show D8 none=V.non from rfl)];exact k1 (rL (i:=i) (by rw [hres,ha])) _ s3
    | some m'=>
     show if D8 (some m')=V.non then _ else _;rw [if_neg (show ¬(D8 (some m')=V.non)from λz=>by cases z)];refine⟨.inl ⟨rfl,_,aH.of hq3⟩,q,_,_,rfl,rfl,hq3,by rw [aa0];omega,?_⟩;rw [hPv];refine⟨r++[m'],_,_,_,?_,by rw [ab4,hrl];rfl,?_,rfl,zw hq0 s3⟩
     ·rw [ac5,hr1,hres,ha,ab3]
      rfl
     ·rw [af,ab3]
      rfl
  ·intro Z H2 hI
   rw [hPv]at hI;obtain⟨r,o5,o6,o7,hr1,hrl,hq2,rfl,s2⟩:=hI;rw [aa0,lr,<-lres,ad5]at hr1;exact hu _ _ ⟨r,o5,o6,o7,hr1,hq2,rfl,s2⟩
 rintro Ω ω _ H2 ⟨r,o5,o6,o7,hr1,hq2,rfl,s2⟩;refine ω _ _ ?_;tm_at "r";have hsome:=rM hr1;refine⟨_,.inl ⟨aH.of hq2,λp hp=>k2 r hsome ⟨?_,λj G m' hG hm'=>?_⟩ p _ af (s2.free hp) (s2.upd hp)⟩⟩
 ·have:=congrArg List.length hr1
  rw [aa0]at this;omega
 ·have hj:j < Gs.length:=(aa1.mp hG).1
  obtain⟨S,hS⟩:∃S,Ss[j]?=some S:=⟨_,aa2 ()⟩;obtain⟨m,hm⟩:∃m,ms[j]?=some m:=⟨_,aa2 ()⟩;obtain⟨ra,hra⟩:∃ra,rs[j]?=some ra:=⟨_,aa2 ()⟩;obtain⟨C,RI,RO,_⟩:=RM.at_ j ra S G hra hS hG
  have hres:(mw Ss ms b c)[j]?=some (S.after m b c):=by
   unfold mw;rw [al0,hS,hm]
  rw [hr1,aa4,hm']at hres;exact RO.gS m b c m' (hM.2 j G m hG hm) (Option.some.inj hres).symm
theorem sS(F:bV K "all_close" "all_close" ju f fd)(T:Txt mg aM): ~~~aK bP 8 f fd ["rules","memories","last"] (~~~pE):=by
 refine F.ok tJ λ_ A _ s H vs Q E hr h=>?_;obtain⟨rb,ma,bx,nv,Ss,Gs,rs,ms,b,rfl,RM,lS,hma,hM,hb,k⟩:=h;refine⟨rfl,_,(ai (ar (aB (hX K rfl) ⋯ T.n_all boot_all (aa (di (own:=["rule","memory"]) (js:=[2]) rfl (EV rfl T.n_zip (aa (pr 0) (aa (pr 1) ag))) (bD.of ⋯) (λ_ _ _ _ _=>(fX K (n:=2) rfl (bU (bQ (i:=0) (show List.Nodup (["rule","memory","last"]:List Str)from by decide +kernel) rfl (Or.inl rfl)) (bU (bQ (i:=1) (show List.Nodup (["rule","memory","last"]:List Str)from by decide +kernel) rfl (Or.inl rfl)) fY)))) (λ_ _ _ _ _=>cA) (λ_ _ _ _ _=>(~~~eO hr (pr 0) (aa (pr 1) (aa (pr 2) ag))))) ag)))),?_⟩;have hs:=sizeLine_eq;have lr:=RM.len;have lg:=RM.gl;have lm:=hM.1;tm_at "r";refine⟨true,⟨_,RM.sq⟩,false,⟨_,hma⟩,yj (l1:=true) (l2:=false) (us:=rs.map V.ref) (vs:=ms.map V.int) (λi ys H'=>ys=((List.zipWith (λS m=>S.closes m b) Ss ms).take i).map V.bl/\av H H') (by rw [aa0];omega) (by rw [aa0,aa0];omega) ⟨rfl,av.refl _⟩ ?_ ?_ ?_ ?_⟩
 ·rintro i ys H' ⟨rfl,_⟩
  rw [aa0,ac3];omega
 ·rintro i ys H' ⟨rfl,s'⟩
  exact⟨s'.seq RM.sq,s'.tup hma⟩
 ·rintro i x y ys H1 p hx hy ⟨rfl,s1⟩ hp
  rw [aa4]at hx hy
  cases hri:rs[i]? with
  | none=>rw [hri]at hx;cases hx
  | some ra=>
   cases hm:ms[i]? with
   | none=>rw [hm]at hy;cases hy
   | some m=>
    rw [hri]at hx;rw [hm]at hy;cases hx;cases hy
    have hi:i < Ss.length:=by rw [<-lr];exact(aa1.mp hri).1
    obtain⟨S,hS⟩:∃S,Ss[i]?=some S:=⟨_,aa2 hi⟩;obtain⟨G,hG⟩:∃G,Gs[i]?=some G:=⟨_,aa2 ()⟩;have s2:av H (upd H1 p (.tup [.ref ra,.int m])):=s1.upd hp;simp only [iT];tm_at "r";refine⟨_,cM.of af,rfl,?_⟩;tm_at "r";generalize upd H1 p (.tup [.ref ra,.int m])=H2 at s2;obtain⟨C,RI,RO,hRI⟩:=(RM.same s2).at_ i ra S G hri hS hG;obtain⟨dx,fs,hir,z1,z2,z3,z4,z5⟩:=RO.ins ra H2 hRI;refine⟨C,dx,fs,hir,z4,_,_,RO.closes,ra,m,bx,b,rfl,hRI,hM.2 i G m hG hm,hb.same s2,?_⟩
    have hz:(List.zipWith (λS m=>S.closes m b) Ss ms)[i]?=some (S.closes m b):=by rw [al0,hS,hm]
    refine⟨?_,s2⟩;rw [ac5,hz,ab3];rfl
 ·rintro ys H1 ⟨rfl,s1⟩ p hp
  refine⟨_,aH.of af,?_⟩;rw [aa0];have e:(List.zipWith (λS m=>S.closes m b) Ss ms).take rs.length=List.zipWith (λS m=>S.closes m b) Ss ms:=ag0 (by rw [List.length_zipWith];omega);rw [e];exact k _ (s1.upd hp)
structure iZ(P:Program)(w:World)(Ss:List bS)(Gs:List (Int->Prop))(cols:List (List Int))(nv:Nat)(U:List MS)(H:Hp)(ma na la wa:Addr)(H':Hp)(met:List MS)(ds:List Addr):Prop where
 mt:∃ps:List Addr,H' ma=some (.lst (ps.map V.ref))/\ps.length=met.length/\∀(j:Nat) (p:Addr) (s:MS),ps[j]?=some p->met[j]?=some s->(iY P w).at_ H' (b0 s) p
 nm:∃xs,bK (iY P w) H' na xs/\kR met xs/\xs.length<=met.length
 la_:H' la=some (.lst (ds.map V.ref))
 ld:∀(i:Nat) (d:Addr) (s:MS),ds[i]?=some d->met[i]?=some s->∃xs,bK (Co P w) H' d xs/\eG Ss cols met s xs
 fr:∀d∈ds,H d=none
 wl:H' wa=some (.lst ((met.take ds.length).map λs=>V.bl (cT Ss s.2 s.1)))
 le:ds.length<=met.length
 mf:w5 Ss cols met
 al:∀s∈met,s∈U/\rZ Gs s.2/\∀c,s.1=some c->c.length=nv
 sx:zF [ma,na,la,wa] H H'
section
variable {U:List MS} {H'':Hp} {ma na la wa:Addr} {ds:List Addr}
theorem iZ.same(B:iZ P w Ss Gs cols nv U H ma na la wa H' met ds)(s:av H' H''):iZ P w Ss Gs cols nv U H ma na la wa H'' met ds where
 mt:=let ⟨ps,h1,h2,h3⟩:=B.mt;⟨ps,s _ _ h1,h2,λj p t e1 e2=>(iY P w).same s (h3 j p t e1 e2)⟩
 nm:=let ⟨xs,h1,h2,h3⟩:=B.nm;⟨xs,h1.same s,h2,h3⟩
 la_:=s _ _ B.la_
 ld:=λi d t e1 e2=>let ⟨xs,h1,h2⟩:=B.ld i d t e1 e2;⟨xs,h1.same s,h2⟩
 fr:=B.fr
 wl:=s _ _ B.wl
 le:=B.le
 mf:=B.mf
 al:=B.al
 sx:=λb o hb e=>s _ _ (B.sx b o hb e)
theorem iZ.upd{o:HO}(B:iZ P w Ss Gs cols nv U H ma na la wa H' met ds)(nt:∀vs,H' z≠some (.tup vs))(h0:H z=none)(n1:z≠ma)(n2:z≠na)(n3:z≠la)(n4:z≠wa)(nd:∀d∈ds,d≠z):iZ P w Ss Gs cols nv U H ma na la wa (upd H' z o) met ds where
 mt:=let ⟨ps,h1,h2,h3⟩:=B.mt;⟨ps,by rw [aj n1.symm];exact h1,h2,λj p t e1 e2=>(iY P w).upd_ (h3 j p t e1 e2) nt⟩
 nm:=let ⟨xs,h1,h2,h3⟩:=B.nm;⟨xs,h1.upd n2.symm nt,h2,h3⟩
 la_:=by rw [aj n3.symm];exact B.la_
 ld:=λi d t e1 e2=>let ⟨xs,h1,h2⟩:=B.ld i d t e1 e2;⟨xs,h1.upd (nd d (ac0 e1)) nt,h2⟩
 fr:=B.fr
 wl:=by rw [aj n4.symm];exact B.wl
 le:=B.le
 mf:=B.mf
 al:=B.al
 sx:=λb o' hb e=>by rw [aj (λq=>by rw [q,h0]at e;cases e)];exact B.sx b o' hb e
theorem iZ.put{xs:List (List (Option (List Int))×Addr×V)}{s' t:MS}{c:List Int}(B:iZ P w Ss Gs cols nv U H ma na la wa H' met ds)(D:bK (iY P w) H' na xs)(hN:kR met xs)(hx:xs.length<=met.length)(h1:H' ma=some (.lst (ps.map V.ref)))(h2:ps.length=met.length)
  (h3:∀(j:Nat) (p:Addr) (s:MS),ps[j]?=some p->met[j]?=some s->(iY P w).at_ H' (b0 s) p) (hp:(iY P w).at_ H' (b0 s') p) (hnew:s'∉met) (hU:s'∈U) (hM:rZ Gs s'.2) (hw:∀c,s'.1=some c->c.length=nv) (hfrom:met[i]?=some t) (hc:c∈cols) (hn:dw Ss t c=some s')
  (lm:met.length < 100000) (n1:ma≠na) (n3:ma≠la) (n4:ma≠wa) (m3:na≠la) (m4:na≠wa) (hma:H ma≠none) (hna:H na≠none) :
  iZ P w Ss Gs cols nv U H ma na la wa (L2.upd (L2.upd H' na (dO (iY P w) na (fc xs (b0 s') p (.int met.length)))) ma (.lst (ps.map V.ref++[.ref p]))) (met++[s']) ds:=by
 have ntN:∀vs,H' na≠some (.tup vs):=λvs e=>by rw [D.ob]at e;cases e
 have ntM:∀vs,(L2.upd H' na (dO (iY P w) na (fc xs (b0 s') p (.int met.length)))) ma≠some (.tup vs):=λvs e=>by rw [aj n1,h1]at e;cases e
 have dM:∀d∈ds,d≠ma:=λd hd e=>hma (by rw [<-e];exact B.fr d hd);have dN:∀d∈ds,d≠na:=λd hd e=>hna (by rw [<-e];exact B.fr d hd);have up2:∀{k:List (Option (List Int))} {a:Addr},(iY P w).at_ H' k a->(iY P w).at_ (L2.upd (L2.upd H' na (dO (iY P w) na (fc xs (b0 s') p (.int met.length)))) ma (.lst (ps.map V.ref++[.ref p]))) k a:=λh=>(iY P w).upd_ ((iY P w).upd_ h ntN) ntM
 have hput:(fc xs (b0 s') p (V.int met.length)).length<=met.length+1:=by
  unfold fc
  split
  ·rw [aa0];omega
  ·rw [ab4];simp;omega
 refine⟨⟨ps++[p],by rw [af,ab3];rfl,by rw [ab4,ab4,h2];rfl,λj q t e1 e2=>?_⟩,⟨_,(D.put hp ()).upd n1.symm ntM,hN.put hnew,by rw [ab4];exact hput⟩,?_,λi d t e1 e2=>?_,B.fr,?_,?_,⟨?_,?_,λi' t' e1 hi=>?_⟩,λt ht=>?_,λb o hb e=>?_⟩
 ·by_cases hj:j < ps.length
  ·rw [ab7 hj]at e1
   rw [ab7 (by rw [<-h2];exact hj)]at e2;exact up2 (h3 j q t e1 e2)
  ·rw [ac6 ()]at e1
   rw [ac6 (by rw [<-h2];omega),<-h2]at e2
   have h0:j - ps.length=0:=by
    have:=(aa1.mp e1).1
    simp at this;omega
   rw [h0]at e1 e2;cases e1;cases e2;exact up2 hp
 ·rw [aj n3.symm,aj m3.symm]
  exact B.la_
 ·have hlt:i < met.length:=ab2 (aa1.mp e1).1 B.le
  rw [ab7 hlt]at e2;obtain⟨ys,g1,g2⟩:=B.ld i d t e1 e2;have hd:=ac0 e1;exact⟨ys,(g1.upd (dN d hd) ntN).upd (dM d hd) ntM,g2.more _⟩
 ·rw [aj n4.symm,aj m4.symm,List.take_append_of_le_length B.le]
  exact B.wl
 ·rw [ab4]
  have:=B.le
  omega
 ·refine an2.mpr ⟨B.mf.nd,by simp,λx hx y hy=>?_⟩
  rw [ac1.mp hy];rintro rfl;exact hnew hx
 ·rw [ab7 (aa1.mp B.mf.st).1]
  exact B.mf.st
 ·by_cases hj:i' < met.length
  ·rw [ab7 hj]at e1
   obtain⟨j,t0,c0,g1,g2,g3,g4⟩:=B.mf.sub i' t' e1 hi;exact⟨j,t0,c0,g1,by rw [ab7 ()];exact g2,g3,g4⟩
  ·rw [ac6 ()]at e1
   have h0:i' - met.length=0:=by
    have:=(aa1.mp e1).1
    simp at this;omega
   rw [h0]at e1;cases e1;have hlt:=(aa1.mp hfrom).1;exact⟨i,t,c,(),by rw [ab7 hlt];exact hfrom,hc,hn⟩
 ·rcases ac8.mp ht with ht | ht
  ·exact B.al t ht
  ·rw [ac1.mp ht]
   exact⟨hU,hM,hw⟩
 ·have hb1:b≠ma:=λq=>hb (by simp [q])
  have hb2:b≠na:=λq=>hb (by simp [q]);rw [aj hb1,aj hb2];exact B.sx b o hb e
theorem iZ.close{dA:Addr}{ys:List (List Int×Addr×V)}{st:MS}{H4:Hp}(B:iZ P w Ss Gs cols nv U H ma na la wa H' met ds)(D:bK (Co P w) H' dA ys)(L:eG Ss cols met st ys)(hst:met[ds.length]?=some st)(h0:H dA=none)(n3:ma≠la)(n4:ma≠wa)(m3:na≠la)(m4:na≠wa)(lw:la≠wa)(hla:H la≠none)(hwa:H wa≠none)
  (s:av (L2.upd H' la (.lst (ds.map V.ref++[.ref dA]))) H4):iZ P w Ss Gs cols nv U H ma na la wa (L2.upd H4 wa (.lst (((met.take ds.length).map λs=>V.bl (cT Ss s.2 s.1))++[.bl (cT Ss st.2 st.1)]))) met (ds++[dA]):=by
 have ntL:∀vs,H' la≠some (.tup vs):=λvs e=>by rw [B.la_]at e;cases e
 have hw4:H4 wa=some (.lst ((met.take ds.length).map λs=>V.bl (cT Ss s.2 s.1))):=s _ _ (by rw [aj lw.symm];exact B.wl)
 have ntW:∀vs,H4 wa≠some (.tup vs):=λvs e=>by rw [hw4]at e;cases e
 have dL:∀d∈ds++[dA],d≠la/\d≠wa:=λd hd=>by
  have:H d=none:=by
   rcases ac8.mp hd with hd | hd
   ·exact B.fr d hd
   ·rw [ac1.mp hd];exact h0
  exact⟨λe=>hla (by rw [<-e];exact this),λe=>hwa (by rw [<-e];exact this)⟩
 have hlt:=(aa1.mp hst).1;have kN:∀{k:List (Option (List Int))} {a:Addr},(iY P w).at_ H' k a->(iY P w).at_ (L2.upd H4 wa (.lst (((met.take ds.length).map λs=>V.bl (cT Ss s.2 s.1))++[.bl (cT Ss st.2 st.1)]))) k a:=λh=>(iY P w).upd_ ((iY P w).same s ((iY P w).upd_ h ntL)) ntW;obtain⟨ps,g1,g2,g3⟩:=B.mt;obtain⟨xs,d1,d2,d3⟩:=B.nm;refine⟨⟨ps,by rw [aj n4];exact s _ _ (by rw [aj n3];exact g1),g2,λj p t e1 e2=>kN (g3 j p t e1 e2)⟩,⟨xs,((d1.upd m3 ntL).same s).upd m4 ntW,d2,d3⟩,?_,λi d t e1 e2=>?_,λd hd=>?_,?_,by rw [ab4];simp;omega,B.mf,B.al,λb o hb e=>?_⟩
 ·rw [aj lw,ab3]
  exact s _ _ af
 ·have hd:=ac0 e1
  by_cases hi:i < ds.length
  ·rw [ab7 hi]at e1
   obtain⟨zs,q1,q2⟩:=B.ld i d t e1 e2;exact⟨zs,((q1.upd (dL d hd).1 ntL).same s).upd (dL d hd).2 ntW,q2⟩
  ·rw [ac6 ()]at e1
   have h0':i - ds.length=0:=by
    have:=(aa1.mp e1).1
    simp at this;omega
   rw [h0']at e1;cases e1;rw [show i=ds.length by omega,hst]at e2;cases e2;exact⟨ys,((D.upd (dL dA hd).1 ntL).same s).upd (dL dA hd).2 ntW,L⟩
 ·rcases ac8.mp hd with hd | hd
  ·exact B.fr d hd
  ·rw [ac1.mp hd];exact h0
 ·rw [af,ab4]
  show _=some (HO.lst (List.map _ (List.take (ds.length+1) met)));rw [ac5,hst,ab3];rfl
 ·have hb1:b≠la:=λq=>hb (by simp [q])
  have hb2:b≠wa:=λq=>hb (by simp [q]);rw [aj hb2];exact s _ _ (by rw [aj hb1];exact B.sx b o hb e)
end
def dQ(a b:Addr):List (Str×V):=bu "rules" (.ref b) (bu "ranges" (.ref a) [])
structure FG(K:Frag)(C:Addr)(c1 c2:Str):Prop where
 cl:vm K C
 n1:NoAttr K C c1
 n2:NoAttr K C c2
abbrev gf(K:Frag)(C:Addr):=FG K C "ranges" "rules"
theorem rB(a b:Addr):(dQ a b).lookup (Str.ofString "ranges")=↑a:=by unfold dQ;tm_at "f"
theorem oC(a b:Addr):(dQ a b).lookup (Str.ofString "rules")=↑b:=by unfold dQ;tm_at "f"
def bT(K:Frag)(H:Hp)(a:Addr)(bs:List (Int×Int)):Prop:=∃ts:List Addr,aH K H a (ts.map V.ref)/\ts.length=bs.length/\∀(i:Nat) (t:Addr) (b:Int×Int),ts[i]?=some t->bs[i]?=some b->cM K H t [.int b.1,.int b.2]
theorem bT.same(s:av H H')(h:bT K H a bs):bT K H' a bs:=by
 obtain⟨ts,h1,h2,h3⟩:=h;exact⟨ts,s.seq h1,h2,λi t b e1 e2=>s.tup (h3 i t b e1 e2)⟩
def ik(b:Int×Int):Int:=b.2 - b.1+1
def xU(bs:List (Int×Int)):Int:=bs.foldl (λt b=>t * ik b) 1
theorem tp(f:α->Int):∀(l:List α) (t:Int) (m:Nat),t.natAbs < 2 ^ m->(∀b∈l,(f b).natAbs < 2 ^ 200)->(l.foldl (λt b=>t * f b) t).natAbs < 2 ^ (m+200 * l.length)
 | [],t,m,h,_=>by simpa using h
 | b::l,t,m,h,hb=>by
  have h1:(t * f b).natAbs < 2 ^ (m+200):=by
   rw [Int.natAbs_mul,Nat.pow_add];exact Nat.mul_lt_mul_of_lt_of_le h (ah2 (hb b (by simp))) (Nat.pow_pos ∅)
  have:=tp f l (t * f b) (m+200) h1 λx hx=>hb x (by simp [hx])
  rw [ad6,show m+200 * (l.length+1)=m+200+200 * l.length by omega];exact this
theorem BY(h:∀b∈bs,(ik b).natAbs < 2 ^ 200):(xU bs).natAbs < 2 ^ (1+200 * bs.length):=tp ik bs 1 1 ∅ h
theorem AH{a b:Int}(ha:a.natAbs < 2 ^ m)(hb:b.natAbs < 2 ^ 200)(h:m<=100000):IntMulOk a b:=IntMulOk.of_le (m:=m) (n:=200) (intBits_le_iff.mpr ha) (intBits_le_iff.mpr hb) ()
def nc(K:Frag)(C:Addr):Sp:=λvs H Q _=>∃(x dx a b:Addr) (xs ys:List V),vs=[.ref x,.ref a,.ref b]/\H x=some (.ins C dx [])/\aH K H a xs/\aH K H b ys/\
 ∀p q H',H p=none->H q=none->q≠p->H'=upd (upd (upd H p (.lst xs)) q (.lst ys)) x (.ins C dx (dQ p q))->Q .non H'
def wN(b:Int×Int):Nat:=(b.2 - b.1+1).toNat
def eF(b:Int×Int)(c:List Int):List (List Int):=(List.range (wN b)).map λ(j:Nat)=>c++[b.1+(j:Int)]
def bJ(bs:List (Int×Int)):List (List Int):=bs.foldl (λtold b=>told.flatMap (eF b)) [[]]
def jL(bs:List (Int×Int)):Nat:=bs.foldl (λt b=>t * wN b) 1
theorem nW(bs:List (Int×Int))(b:Int×Int):bJ (bs++[b])=(bJ bs).flatMap (eF b):=by
 unfold bJ;rw [ai0];rfl
theorem lh(bs:List (Int×Int))(b:Int×Int):jL (bs++[b])=jL bs * wN b:=by
 unfold jL;rw [ai0];rfl
theorem lj{w:Nat}{f:α->List β}(h:∀x,(f x).length=w):∀l:List α,(l.flatMap f).length=l.length * w
 | []=>by simp
 | x::l=>by rw [an3,ab4,h,lj h l,ad6,Nat.add_mul,Nat.one_mul,Nat.add_comm]
theorem hZ(b:Int×Int)(c:List Int):(eF b c).length=wN b:=by
 unfold eF;rw [aa0,List.length_range]
theorem gb(bs:List (Int×Int)):(bJ bs).length=jL bs:=by
 have go:∀(bs:List (Int×Int)) (told:List (List Int)),(bs.foldl (λtold b=>told.flatMap (eF b)) told).length=bs.foldl (λt b=>t * wN b) told.length:=by
  intro bs
  induction bs with
  | nil=>intro told;rfl
  | cons b bs ih=>intro told;rw [ae5,ae5,ih,lj (hZ b)]
 exact go bs [[]]
theorem xV(h:∀b∈bs,b.1<=b.2):xU bs=(jL bs:Int):=by
 have go:∀(bs:List (Int×Int)) (t:Nat),(∀b∈bs,b.1<=b.2)->bs.foldl (λt b=>t * ik b) (t:Int)=((bs.foldl (λt b=>t * wN b) t:Nat):Int):=by
  intro bs
  induction bs with
  | nil=>intro t _;rfl
  | cons b bs ih=>
   intro t hb
   have:=hb b (by simp)
   rw [ae5,ae5,<-ih _ λx hx=>hb x (by simp [hx]),ap0];congr 2;unfold ik wN;omega
 exact go bs 1 h
theorem nU:∀(bs:List (Int×Int)) (t:Nat),(∀b∈bs,1<=wN b)->t<=bs.foldl (λt b=>t * wN b) t
 | [],t,_=>aa8 _
 | b::bs,t,h=>ab6 (Nat.le_mul_of_pos_right t (h b (by simp))) (nU bs _ λx hx=>h x (by simp [hx]))
theorem jd(h:∀b∈bs,1<=wN b)(i:Nat):1<=jL (bs.take i)/\jL (bs.take i)<=jL bs:=by
 refine⟨nU _ 1 λb hb=>h b (aj3 hb),?_⟩
 conv=>rhs;unfold jL;rw [<-List.take_append_drop i bs,ai0]
 exact nU _ _ λb hb=>h b (al5 hb)
theorem Ej(h:∀b∈bs,1<=wN b)(hb:bs[i]?=some b):wN b<=jL bs:=by
 have h1:=(jd h (i+1)).2;rw [ac5,hb]at h1;have h2:jL (bs.take i++[b])=jL (bs.take i) * wN b:=lh _ _;have h3:=(jd h i).1;refine ab6 ?_ h1;show wN b<=jL (bs.take i++[b]);rw [h2];exact Nat.le_mul_of_pos_left _ h3
def ip(H:Hp)(ps:List Addr)(cols:List (List Int)):Prop:=ps.length=cols.length/\∀(i:Nat) (p:Addr) (us:List Int),ps[i]?=some p->cols[i]?=some us->H p=some (.tup (us.map V.int))
def dq(H:Hp)(q:Addr)(cols:List (List Int)):Prop:=∃ps:List Addr,H q=some (.lst (ps.map V.ref))/\ip H ps cols
theorem ip.same(h:ip H ps cols)(s:av H H'):ip H' ps cols:=⟨h.1,λi p us e1 e2=>s _ _ (h.2 i p us e1 e2)⟩
theorem ip.upd{ys:List V}(h:ip H ps cols)(hz:H z=some (.lst xs)):ip (upd H z (.lst ys)) ps cols:=⟨h.1,λi p us e1 e2=>by
 have:=h.2 i p us e1 e2
 rw [aj (dF this hz (λe=>by cases e))]
 exact this⟩
theorem ip.append{qs:List Addr}{dols:List (List Int)}(h:ip H ps cols)(g:ip H qs dols):ip H (ps++qs) (cols++dols):=by
 refine⟨by rw [ab4,ab4,h.1,g.1],λi p us e1 e2=>?_⟩
 by_cases hi:i < ps.length
 ·rw [ab7 hi]at e1
  rw [ab7 (by rw [<-h.1];exact hi)]at e2;exact h.2 i p us e1 e2
 ·rw [ac6 ()]at e1
  rw [ac6 (by rw [<-h.1];omega),<-h.1]at e2;exact g.2 _ p us e1 e2
theorem fG(bs:List (Int×Int)):∀c∈bJ bs,c.length=bs.length:=by
 have go:∀(bs:List (Int×Int)) (told:List (List Int)) (n:Nat),(∀c∈told,c.length=n)->∀c∈bs.foldl (λtold b=>told.flatMap (eF b)) told,c.length=n+bs.length:=by
  intro bs
  induction bs with
  | nil=>intro told n h c hc;exact h c hc
  | cons b bs ih=>
   intro told n h c hc;rw [ae5]at hc
   have:=ih _ (n+1) (λc hc=>by
    obtain⟨d,hd,hc⟩:=ag5.mp hc;unfold eF at hc;obtain⟨j,_,rfl⟩:=ac4.mp hc;rw [ab4,h d hd]
    rfl) c hc
   rw [this,ad6];omega
 intro c hc
 have:=go bs [[]] 0 (λc hc=>by rw [ac1.mp hc];rfl) c hc
 omega
theorem n9{f:α->List β}:∀{l:List α},l.Nodup->(∀x∈l,(f x).Nodup)->(∀x y z,z∈f x->z∈f y->x=y)->(l.flatMap f).Nodup
 | [],_,_,_=>by simp
 | x::l,h,h1,h2=>by
  have hn:=ai8.mp h;rw [an3];refine an2.mpr ⟨h1 x (by simp),n9 hn.2 (λy hy=>h1 y (by simp [hy])) h2,λa ha b hb e=>?_⟩;obtain⟨y,hy,hb⟩:=ag5.mp hb;rw [<-e]at hb;rw [h2 x y a ha hb]at hn;exact hn.1 hy
theorem tX(bs:List (Int×Int)):(bJ bs).Nodup:=by
 have go:∀(bs:List (Int×Int)) (told:List (List Int)),told.Nodup->(bs.foldl (λtold b=>told.flatMap (eF b)) told).Nodup:=by
  intro bs
  induction bs with
  | nil=>intro told h;exact h
  | cons b bs ih=>
   intro told h;rw [ae5];refine ih _ (n9 h (λc _=>?_) λx y z hx hy=>?_)
   ·unfold eF
    refine List.pairwise_map.mpr (List.nodup_range.imp λ{i j} hij e=>?_)
    have:=List.append_cancel_left e
    simp at this;omega
   ·unfold eF at hx hy
    obtain⟨i,_,rfl⟩:=ac4.mp hx;obtain⟨j,_,e⟩:=ac4.mp hy
    have:=congrArg List.dropLast e
    simp at this;exact this.symm
 exact go bs [[]] (by simp)
theorem dq.same(s:av H H')(h:dq H q cols):dq H' q cols:=by
 obtain⟨ps,h1,h2⟩:=h;exact⟨ps,s _ _ h1,h2.same s⟩
def Ee(K:Frag):Sp:=λvs H Q _=>∃(c:Addr) (us:List Int) (b:Int×Int),vs=[.ref c,.int b.1,.int b.2]/\H c=some (.tup (us.map V.int))/\us.length<=10/\wN b<=400/\∀q H',H q=none->dq H' q (eF b us)->av H H'->Q (.ref q) H'
def r6(P:Program)(w:World)(K:Frag)(mg:Str->Option Value)(base:Heap)(C:Addr)(nv:Nat)(bs:List (Int×Int))(Ss:List bS)(Gs:List (Int->Prop))(x:Addr)(H:Hp):Prop:=∃(dx a b:Addr) (rs:List Addr),H x=some (.ins C dx (dQ a b))/\bT K H a bs/\~~~kg nv Ss Gs H b rs
def GY(bs:List (Int×Int))(Ss:List bS):Int:=Ss.foldl (λt S=>t * S.size) (xU bs)
def vd(P:Program)(w:World)(K:Frag)(mg:Str->Option Value)(base:Heap)(C:Addr):Sp:=λvs H Q _=>∃(x:Addr) (nv:Nat) (bs:List (Int×Int)) (Ss:List bS) (Gs:List (Int->Prop)),vs=[.ref x]/\~~~r6 C nv bs Ss Gs x H/\bs.length<=100/\Ss.length<=100/\(∀b∈bs,(ik b).natAbs < 2 ^ 200)/\(∀S∈Ss,(S.size).natAbs < 2 ^ 200)/\Q (.int (GY bs Ss)) H
def rN(P:Program)(w:World)(K:Frag)(mg:Str->Option Value)(base:Heap)(C:Addr):Sp:=λvs H Q _=>∃(x:Addr) (nv:Nat) (bs:List (Int×Int)) (Ss:List bS) (Gs:List (Int->Prop)),vs=[.ref x]/\~~~r6 C nv bs Ss Gs x H/\bs.length<=100/\Ss.length<=100/\(∀b∈bs,(ik b).natAbs < 2 ^ 200)/\(∀S∈Ss,(S.size).natAbs < 2 ^ 200)/\GY bs Ss<=400/\Q (.ref x) H
def mR(K:Frag)(C:Addr):Sp:=λvs H Q _=>∃(x dx a b:Addr) (bs:List (Int×Int)),vs=[.ref x]/\H x=some (.ins C dx (dQ a b))/\bT K H a bs/\bs.length<=4/\(∀b∈bs,1<=wN b)/\jL bs<=400/\∀q H',H q=none->dq H' q (bJ bs)->av H H'->Q (.ref q) H'
def bL(la wa sc:Addr):List (Str×V):=bu "score" (.ref sc) (bu "well" (.ref wa) (bu "leads" (.ref la) []))
abbrev il(K:Frag)(C:Addr):=qV K C "leads" "well" "score"
theorem ia(a b c:Addr):(bL a b c).lookup (Str.ofString "leads")=↑a:=by unfold bL;tm_at "f"
theorem xn(a b c:Addr):(bL a b c).lookup (Str.ofString "well")=↑b:=by unfold bL;tm_at "f"
theorem AB(a b c:Addr):(bL a b c).lookup (Str.ofString "score")=↑c:=by unfold bL;tm_at "f"
structure vt(Ss:List bS)(cols:List (List Int))(U:List MS):Prop where
 st:(none,Ss.map (·.start))∈U
 cl:∀s∈U,∀c∈cols,∀s',dw Ss s c=some s'->s'∈U
 sz:U.length<=10000
def zE(P:Program)(w:World)(Ss:List bS)(cols:List (List Int))(la wa:Addr)(H:Hp)(met:List MS):Prop:=∃ds:List Addr,H la=some (.lst (ds.map V.ref))/\ds.length=met.length/\H wa=some (.lst (met.map λs=>V.bl (cT Ss s.2 s.1)))/\
 ∀(i:Nat) (d:Addr) (s:MS),ds[i]?=some d->met[i]?=some s->∃xs,bK (Co P w) H d xs/\eG Ss cols met s xs
inductive tM(P:Program)(w:World)(K:Frag)(mg:Str->Option Value)(base:Heap)(C Cs:Addr):Sp
 | mk {vs:List V} {H:Hp} {Q:VK} {E:XK} (x dx ma na sa la wa sc dsc ra rb p0:Addr) (nv:Nat) (Ss:List bS) (Gs:List (Int->Prop)) (rs cs:List Addr) (cols:List (List Int)) (U:List MS) (Hs:Hp):vs=[.ref x,.ref ma,.ref na,.ref sa]->H x=some (.ins C dx (bL la wa sc))->H sc=some (.ins Cs dsc (dQ ra rb))->av Hs H->Hs ma=none->Hs na=none->Hs la=none->Hs wa=none->~~~kg nv Ss Gs Hs rb rs->Ss.length<=100->rZ Gs (Ss.map (·.start))->H ma=some (.lst [.ref p0])->(iY P w).at_ H (b0 (none,Ss.map (·.start))) p0->bK (iY P w) H na [(b0 (none,Ss.map (·.start)),p0,.int 0)]->H la=some (.lst [])->H wa=some (.lst [])->ma≠la->ma≠wa->la≠wa->H sa=some (.lst (cs.map V.ref))->sa≠ma->sa≠la->sa≠wa->ip H cs cols->(∀c∈cols,c.length=nv)->cols.length<=1000->cols.Nodup->vt Ss cols U->(∀met H',w5 Ss cols met->(∀s∈met,s∈U)->(∀(s:MS),s∈met->∀c∈cols,∀s',dw Ss s c=some s'->s'∈met)->zE P w Ss cols la wa H' met->zF [ma,na,la,wa] H H'->Q .non H')->~~~tM C Cs vs H Q E
theorem qr(F:bV K "__init__" "Score.__init__" fm f fd)(T:Txt mg aM)(TC:gf K C): ~~~aK bP 1 f fd ["self","ranges","rules"] (nc K C):=by
 refine F.ok lN λ_ A _ s H vs Q E hr h=>?_;obtain⟨x,dx,a,b,xs,ys,rfl,hx,ha,hb,k⟩:=h
 refine⟨rfl,_,(ah (bG (pr 0) (aV (cY K) ⋯ T.n_list boot_list (aa (pr 1) ag)) rfl)
 (ai (bG (pr 0) (aV (cY K) ⋯ T.n_list boot_list (aa (pr 2) ag)) rfl))),?_⟩
 refine iX λRk rk=>?_;tm_at "r";have ln:∀(f:Str) (v:V) (l:List (Str×V)) (n:Nat),l.length<=n->(bu f v l).length<=n+1:=λf v l n h=>ab6 (bB f v l) (ae1 h);refine⟨xs,.inl ha,λp hp=>?_⟩
 have px:p≠x:=λe=>by subst e;rw [hx]at hp;cases hp
 refine⟨C,dx,[],by rw [aj (Ne.symm px)];exact hx,TC.cl,TC.n1,∅,rk _ _ ?_⟩;tm_at "r";refine⟨ys,.inl (((au hp).seq hb).at_ins (by rw [aj (Ne.symm px)];exact hx)),λq hq=>?_⟩
 have qx:q≠x:=λe=>by subst e;rw [af]at hq;cases hq
 rw [aj qx]at hq
 have qp:q≠p:=λe=>by subst e;rw [af]at hq;cases hq
 rw [aj qp]at hq;refine⟨C,dx,_,by rw [aj (Ne.symm qx),af],TC.cl,TC.n2,aa7 (ln _ _ _ _ (ac2 0)) ∅,?_⟩;refine k p q _ hp hq qp ?_;rw [fK];rfl
theorem yV(F:bV K "weight" "weight" pe f fd)(T:Txt mg aM)(TC:gf K C): ~~~aK bP 8 f fd ["score"] (~~~vd C):=by
 refine F.ok sc_weight λ_ A _ s H vs Q E hr h=>?_;obtain⟨x,nv,bs,Ss,Gs,rfl,⟨dx,a,b,rs,hx,⟨ts,hts,htl,htc⟩,RM⟩,lb,lr,hwb,hwr,q⟩:=h;have hrs:=RM.sq;have hrl:=RM.len;have lg:=RM.gl
 refine⟨rfl,_,(ah (cN (i:=1) sc_weight.nd ae)
 (ah (cJ PassesOwn.never rfl (bI K (aU (pr 0) rfl)) (fX K (n:=2) rfl (bU (j7 (i:=2) sc_weight.nd) (bU (j7 (i:=3) sc_weight.nd) fY)))
 (ai (Gr (Bc (i:=1) sc_weight.nd rfl (Or.inl rfl) (ao (bF K) (ao (o0 bC) (pr 3) (pr 2)) ae) (o1 uc)))))
 (ah (cJ PassesOwn.never rfl (bI K (aU (pr 0) rfl)) (j7 (i:=4) sc_weight.nd)
 (ai (Gr (Bc (i:=1) sc_weight.nd rfl (Or.inl rfl) (~~~jR hr (pr 4)) (o1 uc)))))
 (ai (ar (pr 1)))))),?_⟩
 refine aN (λZ H'=>Z=[↑x,some (.int 1),none,none,none]/\H=H') ?_ ?_
 ·intro u' hu
  tm_at "r";exact hu _ _ ⟨rfl,rfl⟩
 rintro Ω ω _ _ ⟨rfl,rfl⟩;refine ω _ _ (aN (λZ H'=>∃o1 o2:Option V,Z=[↑x,⇑(xU bs),o1,o2,none]/\H=H') ?_ ?_)
 ·intro u' hu
  tm_at "r";refine⟨C,dx,_,hx,TC.cl,TC.n1,_,rB a b,bR hts (dR (xs:=ts.map V.ref) (λi Z H'=>∃o1 o2:Option V,Z=[↑x,some (.int (xU (bs.take i))),o1,o2,none]/\H=H') ⟨none,none,rfl,rfl⟩ (λi Z H' _ z=>by obtain⟨_,_,_,z⟩:=z;exact z▸hts) ?_ ?_)⟩
  ·rintro i y Z H1 hy ⟨o1,o2,rfl,rfl⟩
   rw [aa4]at hy
   cases ht:ts[i]? with
   | none=>rw [ht]at hy;cases hy
   | some t=>
    rw [ht]at hy;cases hy
    have hi:i < bs.length:=by rw [<-htl];exact(aa1.mp ht).1
    have hb:bs[i]?=some bs[i]:=aa2 hi
    have e:xU (bs.take (i+1))=xU (bs.take i) * ik bs[i]:=by
     unfold xU;rw [ac5,hb,ai0];rfl
    tm_at "r";refine⟨_,htc i t _ ht hb,rfl,?_⟩;tm_at "r";rw [e];have hw:=hwb _ (ad7 hi);have ht:=BY (bs:=bs.take i) λb hb=>hwb b (aj3 hb);exact⟨AH ht hw (by rw [ac3];omega),rfl⟩
  ·rintro Z H1 ⟨o1,o2,rfl,rfl⟩
   rw [aa0,htl,ad5];exact hu _ _ ⟨o1,o2,rfl,rfl⟩
 rintro Ω ω _ _ ⟨o1,o2,rfl,rfl⟩;refine ω _ _ ?_;tm_at "r";refine⟨C,dx,_,hx,TC.cl,TC.n2,_,oC a b,bR hrs (dR (xs:=rs.map V.ref) (λi Z H'=>∃o3:Option V,Z=[↑x,some (.int ((Ss.take i).foldl (λt S=>t * S.size) (xU bs))),o1,o2,o3]/\H=H') ⟨none,rfl,rfl⟩ (λi Z H' _ z=>by obtain⟨_,_,z⟩:=z;exact z▸hrs) ?_ ?_)⟩
 ·rintro i y Z H1 hy ⟨o3,rfl,rfl⟩
  rw [aa4]at hy
  cases ht:rs[i]? with
  | none=>rw [ht]at hy;cases hy
  | some r=>
   rw [ht]at hy;cases hy
   have hi:i < Ss.length:=by rw [<-hrl];exact(aa1.mp ht).1
   have hb:Ss[i]?=some Ss[i]:=aa2 hi;obtain⟨Cr,RI,RB,hri⟩:=RM.at_ i r _ (Gs[i]'()) ht hb (aa2 ());obtain⟨dr,fr,hir,q1,_⟩:=RB.ins r _ hri;tm_at "r";refine⟨Cr,dr,fr,hir,q1,_,_,RB.size,r,rfl,hri,?_⟩;tm_at "r";rw [ac5,hb,ai0];have hw:=hwr _ (ad7 hi);have ht:=tp (λS:bS=>S.size) (Ss.take i) (xU bs) _ (BY hwb) λS hS=>hwr S (aj3 hS);exact⟨AH ht hw (by rw [ac3];omega),rfl⟩
 ·rintro Z H1 ⟨o3,rfl,rfl⟩
  rw [aa0,hrl,ad5];tm_at "r";exact q
theorem nu(F:bV K "not_too_wide" "not_too_wide" gx f fd)(T:Txt mg aM)(D_weight: ~~~cy "weight" 8 ["score"] (~~~vd C)): ~~~aK bP 9 f fd ["score"] (~~~rN C):=by
 refine F.ok sc_not_too_wide λ_ A _ s H vs Q E hr h=>?_;obtain⟨x,nv,bs,Ss,Gs,rfl,S,lb,lr,hwb,hwr,hle,q⟩:=h
 refine⟨rfl,_,(ah (cN (i:=1) sc_not_too_wide.nd (aA D_weight hr ⋯ (aa (pr 0) ag)))
 (ah (aO (aY (ay (o0 ib) (pr 1) (iy T.g_MOST_WEIGHT) (az _))) (ai lG) aC)
 (ai (ar (pr 0))))),?_⟩
 tm_at "r";refine⟨x,nv,bs,Ss,Gs,rfl,S,lb,lr,hwb,hwr,?_⟩;tm_at "r";rw [if_neg ()];exact q
theorem qB(F:bV K "lengthened" "lengthened" iQ f fd)(T:Txt mg aM): ~~~aK bP 1 f fd ["column","low","high"] (Ee K):=by
 refine F.ok qR λ_ A _ s H vs Q E hr h=>?_;obtain⟨c,us,b,rfl,hc,hu,hw,k⟩:=h;refine⟨rfl,_,(ai (ar (di (own:=["note"]) (js:=[0]) rfl (oW rfl T.n_range (aa (pr 1) (aa (ao (xq K) (pr 2) ae) ag))) (bD.of ⋯) (λ_ _ _ _ _=>(bQ (i:=0) (show List.Nodup (["note","column"]:List Str)from by decide +kernel) rfl (Or.inl rfl))) (λ_ _ _ _ _=>cA) (λ_ _ _ _ _=>(ao (xq K) (pr 1) (dj (aa (pr 0) ag))))))),?_⟩;have hs:=sizeLine_eq;tm_at "r"
 have ek:(b.2+1 - b.1).toNat=wN b:=by unfold wN;omega
 rw [ek];refine gG (λi ys H'=>∃ps:List Addr,ys=ps.map V.ref/\ps.length=i/\(∀(j:Nat) (p:Addr),ps[j]?=some p->H' p=some (.tup ((us++[b.1+(j:Int)]).map V.int)))/\av H H') () ⟨[],rfl,rfl,(λj p e=>nomatch e),av.refl _⟩ ?_ ?_ ?_
 ·rintro i ys H' ⟨ps,rfl,hl,_⟩
  rw [aa0];omega
 ·rintro i ys H1 hi ⟨ps,rfl,hl,hp,s1⟩
  simp only [iT];tm_at "r";refine⟨(),λt ht=>?_⟩;have s2:=s1.upd (o:=HO.tup [V.int (b.1+i)]) ht;have ht2:(upd H1 t (HO.tup [V.int (b.1+i)])) t=some (.tup [V.int (b.1+i)]):=af;have s12:av H1 (upd H1 t (HO.tup [V.int (b.1+i)])):=au ht;generalize upd H1 t (HO.tup [V.int (b.1+i)])=H2 at s2 ht2 s12;refine uN (s2 _ _ hc) ht2 (by rw [aa0];simp;omega) λp H3 s3 hp3=>?_;refine⟨ps++[p],by rw [ab3];rfl,by rw [ab4,hl];rfl,λj p' e=>?_,s2.trans s3⟩
  by_cases hj:j < ps.length
  ·rw [ab7 hj]at e
   exact(s12.trans s3) _ _ (hp j p' e)
  ·rw [ac6 ()]at e
   have ej:j=ps.length:=by
    have:=(aa1.mp e).1
    simp at this;omega
   rw [ej,aj6]at e;cases e;rw [hp3,ej,hl,ab3];rfl
 ·rintro ys H1 ⟨ps,rfl,hl,hp,s1⟩ q hq
  refine k q _ (s1.free hq) ⟨ps,af,by rw [hZ];exact hl,λi p us' e1 e2=>?_⟩ (s1.upd hq)
  have hi:i < wN b:=by rw [<-hl];exact(aa1.mp e1).1
  unfold eF at e2;rw [aa4,ae4 hi]at e2;cases e2;exact(au hq) _ _ (hp i p e1)
theorem vP(F:bV K "columns" "columns" mz f fd)(T:Txt mg aM)(TC:gf K C)(D_lengthened: ~~~cy "lengthened" 1 ["column","low","high"] (Ee K)): ~~~aK bP 2 f fd ["score"] (mR K C):=by
 refine F.ok sc_columns λ_ A _ s H vs Q E hr h=>?_;obtain⟨x,dx,a,b,bs,rfl,hx,⟨ts,hts,htl,htc⟩,lb,hw,hc,k⟩:=h
 refine⟨rfl,_,(ah (cN (i:=1) sc_columns.nd (bM (aa (dj ag) ag)))
 (ah (cJ PassesOwn.never rfl (bI K (aU (pr 0) rfl)) (fX K (n:=2) rfl (bU (j7 (i:=2) sc_columns.nd) (bU (j7 (i:=3) sc_columns.nd) fY)))
 (ah (cN (i:=4) sc_columns.nd (bM ag))
 (ah (cJ PassesOwn.never rfl (bI K (pr 1)) (j7 (i:=5) sc_columns.nd)
 (ai (bH (cf K PySem.F.plainAttrs_list PySem.F.slot_list_extend PySem.F.type_list_extend yJ (pr 4) (aa (aA D_lengthened hr ⋯ (aa (pr 5) (aa (pr 2) (aa (pr 3) ag)))) ag)))))
 (ai (cN (i:=1) sc_columns.nd (pr 4))))))
 (ai (ar (pr 1))))),?_⟩
 have hs:=sizeLine_eq;refine aN (λZ H'=>∃q:Addr,H q=none/\dq H' q (bJ [])/\Z=[↑x,↑q,none,none,none,none]/\av H H') ?_ ?_
 ·intro u' hu
  tm_at "r";refine⟨(),λt ht=>⟨(),λq hq=>?_⟩⟩;have s1:=au (o:=HO.tup []) ht;refine hu _ _ ⟨q,s1.free hq,⟨[t],af,rfl,λi p us e1 e2=>?_⟩,rfl,s1.upd hq⟩
  have hi:i=0:=by
   have:=(aa1.mp e1).1
   simp at this;exact this
  subst hi;cases e1;cases e2;exact(au hq) _ _ af
 rintro Ω ω _ H1 ⟨q,hq0,hq1,rfl,s1⟩;refine ω _ _ (aN (λZ H'=>∃(q:Addr) (o2 o3 o4 o5:Option V),H q=none/\dq H' q (bJ bs)/\Z=[↑x,↑q,o2,o3,o4,o5]/\av H H') ?_ ?_)
 ·intro u' hu
  tm_at "r";refine⟨C,dx,_,s1 _ _ hx,TC.cl,TC.n1,_,rB a b,bR (s1.seq hts) (dR (xs:=ts.map V.ref) (λi Z H'=>∃(q:Addr) (o2 o3 o4 o5:Option V),H q=none/\dq H' q (bJ (bs.take i))/\Z=[↑x,↑q,o2,o3,o4,o5]/\av H H') ⟨q,none,none,none,none,hq0,hq1,rfl,s1⟩ (λi Z H' _ h=>?_) ?_ ?_)⟩
  ·obtain⟨_,_,_,_,_,_,_,_,s'⟩:=h
   exact s'.seq hts
  ·rintro i y Z H2 hy ⟨q,o2,o3,o4,o5,hq0,⟨ps,hq2,hpc⟩,rfl,s2⟩
   rw [aa4]at hy
   cases ht:ts[i]? with
   | none=>rw [ht]at hy;cases hy
   | some t=>
    rw [ht]at hy;cases hy
    have hi:i < bs.length:=by rw [<-htl];exact(aa1.mp ht).1
    have hb:bs[i]?=some bs[i]:=aa2 hi;tm_at "r";refine⟨_,s2.tup (htc i t _ ht hb),rfl,?_⟩;tm_at "r";refine⟨(),λp hp=>?_⟩;have s23:=au (o:=HO.lst []) hp;have hp3:(upd H2 p (HO.lst [])) p=some (.lst (([]:List Addr).map V.ref)):=af;have hH3:=hp3;generalize upd H2 p (HO.lst [])=H3 at s23 hp3;have ew:wN bs[i]<=400:=ab6 (Ej hw hb) hc
    have en:jL (bs.take (i+1))=jL (bs.take i) * wN bs[i]:=by
     rw [ac5,hb];exact lh _ _
    have en':=(jd hw (i+1)).2
    have ec:bJ (bs.take (i+1))=(bJ (bs.take i)).flatMap (eF bs[i]):=by
     rw [ac5,hb];exact nW _ _
    have ewd:=fG (bs.take i);have ecl:=gb (bs.take i);have hpl:=hpc.1;rw [ec];generalize bs[i]=b at *;generalize bJ (bs.take i)=cols at *;refine bR (aH.of (s23 _ _ hq2)) (dR (xs:=ps.map V.ref) (λj Z H'=>∃(o5:Option V) (ps':List Addr),H' p=some (.lst (ps'.map V.ref))/\ip H' ps' ((cols.take j).flatMap (eF b))/\av H2 H'/\Z=[some (V.ref x),some (V.ref q),some (V.int b.1),some (V.int b.2),some (V.ref p),o5]) ⟨o5,[],hp3,⟨rfl,λi p us e=>nomatch e⟩,s23,rfl⟩ (λj Z H' _ h=>?_) ?_ ?_)
    ·obtain⟨_,_,_,_,s',_⟩:=h
     exact aH.of (s' _ _ hq2)
    ·rintro j y Z H4 hy ⟨o5,ps',hp4,hT,s24,rfl⟩
     rw [aa4]at hy
     cases hcj:ps[j]? with
     | none=>rw [hcj]at hy;cases hy
     | some c=>
      rw [hcj]at hy;cases hy
      have hj:j < cols.length:=by rw [<-hpl];exact(aa1.mp hcj).1
      have hcc:cols[j]?=some cols[j]:=aa2 hj;have hus:=hpc.2 j c _ hcj hcc;have hul:=ewd _ (ad7 hj)
      have estep:(cols.take (j+1)).flatMap (eF b)=(cols.take j).flatMap (eF b)++eF b cols[j]:=by
       rw [ac5,hcc,List.flatMap_append];simp
      rw [estep];generalize cols[j]=us at *;tm_at "r";refine⟨.inl ⟨rfl,_,aH.of hp4⟩,c,us,b,rfl,s24 _ _ hus,by rw [hul,ac3];omega,ew,λr H5 hr0 hr5 s45=>?_⟩;obtain⟨rs,hr5,hrT⟩:=hr5;have hp5:=s45 _ _ hp4
      have l1:ps'.length<=400:=by
       rw [hT.1,lj (hZ b),ac3];refine ab6 (al6 _ (aj4 _ _)) ?_;rw [ecl,<-en];omega
      have l2:rs.length<=400:=by rw [hrT.1,hZ];exact ew
      refine⟨p,r,_,_,rfl,rfl,hp5,hr5,by rw [aa0,aa0];omega,↑c,ps' ++ rs,by rw [af,ab3],((hT.same s45).append hrT).upd hp5,zw hp (s24.trans s45),rfl⟩
    ·rintro Z H4 ⟨o5,ps',hp4,hT,s24,rfl⟩
     rw [aa0,hpl,ad5]at hT;tm_at "r";exact⟨p,s2.free hp,⟨ps',hp4,hT⟩,rfl,s2.trans s24⟩
  ·rintro Z H2 ⟨q,o2,o3,o4,o5,hq0,hq2,rfl,s2⟩
   rw [aa0,htl,ad5]at hq2;exact hu _ _ ⟨q,o2,o3,o4,o5,hq0,hq2,rfl,s2⟩
 rintro Ω ω _ H2 ⟨q,o2,o3,o4,o5,hq0,hq2,rfl,s2⟩;refine ω _ _ ?_;tm_at "r";exact k q H2 hq0 hq2 s2
theorem AR(F:bV K "build" "Machine.build" fP f fd)(T:Txt mg aM)(TC:il K C)(TS:gf K Cs)(D_memories_after: ~~~cy "memories_after" 9 ["rules","memories","before","column"] (~~~kF))(D_all_close: ~~~cy "all_close" 9 ["rules","memories","last"] (~~~pE)):
  ~~~aK bP 10 f fd ["self","met","numbers","steps"] (~~~tM C Cs):=by
 refine F.ok sc_Machine_build λ_ A _ s H vs Q E hr h=>?_;obtain⟨x,dx,ma,na,sa,la,wa,sc,dsc,ra,rb,p0,nv,Ss,Gs,rs,cs,cols,U,Hs,rfl,hx,hsc,sHs,z1,z2,z3,z4,RM,lS,hM0,hma,hp0,hna,hla,hwa,n1,n2,n3,hsa,q1,q2,q3,hT,hcw,hcl,hnd,CU,k⟩:=h
 refine⟨rfl,_,(ah (cN (i:=4) sc_Machine_build.nd (aU (aU (pr 0) rfl) rfl))
 (ai (Bd PassesOwn.never (aY (ay (o0 jX) (aB (aE K) ⋯ T.n_len boot_len (aa (aU (pr 0) rfl) ag)) (aB (aE K) ⋯ T.n_len boot_len (aa (pr 1) ag)) (az _))) (ah (cN (i:=5) sc_Machine_build.nd (aw (aD K) (aw (aD K) (pr 1) (aB (aE K) ⋯ T.n_len boot_len (aa (aU (pr 0) rfl) ag)) (λ_ _=>rfl)) ae (λ_ _=>rfl)))
 (ah (cN (i:=6) sc_Machine_build.nd (aw (aD K) (aw (aD K) (pr 1) (aB (aE K) ⋯ T.n_len boot_len (aa (aU (pr 0) rfl) ag)) (λ_ _=>rfl)) ae (λ_ _=>rfl)))
 (ah (cN (i:=7) sc_Machine_build.nd (Dn (kk':=Co P w)))
 (ah (cJ PassesOwn.never rfl (bI K (pr 3)) (j7 (i:=8) sc_Machine_build.nd)
 (ah (cN (i:=9) sc_Machine_build.nd (dj (aa (pr 8) (aa (aA D_memories_after hr ⋯ (aa (pr 4) (aa (pr 6) (aa (pr 5) (aa (pr 8) ag))))) ag))))
 (ah (aO (aY (ay fL (aw (aD K) (pr 9) ae (λ_ _=>rfl)) bc (az _))) (ai uM) aC)
 (ah (aO (aY (ay (A5 (kk':=iY P w) (gM hr)) (pr 9) (pr 2) (by with_unfolding_all rfl))) (ah (mv (aB (aE K) ⋯ T.n_len boot_len (aa (pr 1) ag)) (td (pr 2) (pr 9) (Gy (kk':=iY P w) (gM hr))))
 (ai (bH (cf K PySem.F.plainAttrs_list PySem.F.slot_list_append PySem.F.type_list_append cE (pr 1) (aa (pr 9) ag))))) aC)
 (ai (mv (aw (ixD (kk':=iY P w) (gM hr)) (pr 2) (pr 9) (λ_ _=>rfl)) (td (pr 7) (pr 8) (Gy (kk':=Co P w) (gM hr)))))))))
 (ah (bH (cf K PySem.F.plainAttrs_list PySem.F.slot_list_append PySem.F.type_list_append cE (aU (pr 0) rfl) (aa (pr 7) ag)))
 (ai (bH (cf K PySem.F.plainAttrs_list PySem.F.slot_list_append PySem.F.type_list_append cE (aU (pr 0) rfl) (aa (aA D_all_close hr ⋯ (aa (pr 4) (aa (pr 6) (aa (pr 5) ag)))) ag)))))))))))),?_⟩
 have hs:=sizeLine_eq;have mna:ma≠na:=dF hma hna.ob (λe=>by cases e);have nla:na≠la:=dF hna.ob hla (λe=>by cases e);have nwa:na≠wa:=dF hna.ob hwa (λe=>by cases e)
 have xm:x∉[ma,na,la,wa]:=λh=>by
  simp only [ab0,ad2,or_false]at h;rcases h with rfl | rfl | rfl | rfl
  ·rw [hma]at hx;cases hx
  ·rw [hna.ob]at hx;cases hx
  ·rw [hla]at hx;cases hx
  ·rw [hwa]at hx;cases hx
 have sm:sa∉[ma,na,la,wa]:=λh=>by
  simp only [ab0,ad2,or_false]at h;rcases h with rfl | rfl | rfl | rfl
  ·exact q1 rfl
  ·rw [hna.ob]at hsa;cases hsa
  ·exact q2 rfl
  ·exact q3 rfl
 have tm:∀{a:Addr} {vs:List V},H a=some (.tup vs)->a∉[ma,na,la,wa]:=λ{a vs} e h=>by
  simp only [ab0,ad2,or_false]at h;rcases h with rfl | rfl | rfl | rfl
  ·rw [hma]at e;cases e
  ·rw [hna.ob]at e;cases e
  ·rw [hla]at e;cases e
  ·rw [hwa]at e;cases e
 have toS:∀{H':Hp},zF [ma,na,la,wa] H H'->av Hs H':=λ{H'} sx b o e=>by
  refine sx b o (λh=>?_) (sHs b o e);simp only [ab0,ad2,or_false]at h;rcases h with rfl | rfl | rfl | rfl
  ·rw [z1]at e;cases e
  ·rw [z2]at e;cases e
  ·rw [z3]at e;cases e
  ·rw [z4]at e;cases e
 have lenU:∀{H':Hp} {met:List MS} {ds:List Addr},iZ P w Ss Gs cols nv U H ma na la wa H' met ds->met.length<=U.length:=λB=>oI _ U B.mf.nd λs hs=>(B.al s hs).1;have szU:=CU.sz;refine aN (λZ H'=>H=H'/\Z=[↑x,↑ma,↑na,↑sa,↑rb,none,none,none,none,none]) ?_ ?_
 ·intro u' hu
  tm_at "r";exact⟨C,dx,_,hx,TC.cl,TC.n3,_,AB la wa sc,sc,rfl,Cs,dsc,_,hsc,TS.cl,TS.n2,_,oC ra rb,hu _ _ ⟨rfl,rfl⟩⟩
 rintro Ω ω _ _ ⟨rfl,rfl⟩;obtain⟨W,hW⟩:∃W:Nat->L2.St->Hp->Prop,W=λm Z H'=>∃(met:List MS) (ds:List Addr) (o5 o6 o7 o8 o9:Option V),iZ P w Ss Gs cols nv U H ma na la wa H' met ds/\m=U.length - ds.length/\Z=[↑x,↑ma,↑na,↑sa,↑rb,o5,o6,o7,o8,o9]:=⟨_,rfl⟩;refine ω _ _ ?_;refine⟨W,⟨U.length,?_⟩,?_⟩
 ·rw [hW]
  refine⟨[(none,Ss.map (·.start))],[],none,none,none,none,none,⟨⟨[p0],hma,rfl,λj p t e1 e2=>?_⟩,⟨_,hna,⟨λj t e=>?_,λk hk=>?_⟩,aa8 _⟩,hla,λi d t e=>(by cases e),(λd hd=>by cases hd),hwa,ac2 _,⟨by simp,rfl,λi t e hi=>?_⟩,λt ht=>?_,λb o _ e=>e⟩,rfl,rfl⟩
  ·have hj:j=0:=by
    have:=(aa1.mp e1).1
    simp at this;exact this
   subst hj;cases e1;cases e2;exact hp0
  ·have hj:j=0:=by
    have:=(aa1.mp e).1
    simp at this;exact this
   subst hj;cases e;simp [jV]
  ·refine⟨(none,Ss.map (·.start)),by simp,?_⟩
   by_cases e:k=b0 (none,Ss.map (·.start))
   ·exact e
   ·refine absurd ?_ hk
    unfold jV;rw [ap2,decide_eq_false (λz=>e z.symm)];rfl
  ·have hj:i=0:=by
    have:=(aa1.mp e).1
    simp at this;exact this
   omega
  ·rw [ac1.mp ht]
   exact⟨CU.st,hM0,λc e=>by cases e⟩
 intro m Z H1 hI;rw [hW]at hI;obtain⟨met,ds,o5,o6,o7,o8,o9,B,rfl,rfl⟩:=hI;have hx1:=B.sx x _ xm hx;obtain⟨ps,hm1,hpl,hpk⟩:=B.mt;have ltU:=lenU B;refine GJ λA0 B0 hA hB=>?_;tm_at "r";refine⟨C,dx,_,hx1,TC.cl,TC.n1,_,ia la wa sc,.inr ⟨_,rfl,_,.inl (aH.of B.la_),_,.inl (aH.of hm1),?_⟩⟩;rw [aa0,aa0,hpl]
 by_cases hlt:(ds.length:Int) < (met.length:Int)
 ·rw [if_pos hlt]
  refine hA _ ?_
  have hlt:ds.length < met.length:=by omega
  obtain⟨st,hst⟩:∃st,met[ds.length]?=some st:=⟨_,aa2 hlt⟩;obtain⟨pp,hpp⟩:∃pp,ps[ds.length]?=some pp:=⟨_,aa2 ()⟩;obtain⟨vs,hv1,hv2⟩:=hpk _ _ _ hpp hst
  obtain⟨bx,mA,rfl,hbx,hmA⟩:∃bx mA,vs=[bx,.ref mA]/\ow H1 st.1 bx/\H1 mA=some (.tup (st.2.map V.int)):=by
   cases vs with
   | nil=>exact hv2.elim
   | cons v1 vs=>
    cases vs with
    | nil=>exact hv2.2.elim
    | cons v2 vs=>
     cases vs with
     | nil=>
      obtain⟨g1,⟨b,e,g2⟩,_⟩:=hv2;exact⟨v1,b,by rw [e],g1,g2⟩
     | cons _ _=>exact hv2.2.2.elim
  obtain⟨hstU,hstM,hstW⟩:=B.al st (ac0 hst)
  have hbv:∀H',av H1 H'->BV K H' nv st.1 bx:=λH' s'=>by
   cases e:st.1 with
   | none=>
    rw [e]at hbx;exact .inl ⟨rfl,hbx⟩
   | some c=>
    rw [e]at hbx;obtain⟨b,rfl,hb⟩:=hbx;exact .inr ⟨b,c,rfl,rfl,cM.of (s' _ _ hb),hstW c e⟩
  obtain⟨N,hN⟩:∃N:L2.St->Hp->Prop,N=λZ H'=>∃(met':List MS) (ds':List Addr) (o5 o6 o7 o8 o9:Option V),iZ P w Ss Gs cols nv U H ma na la wa H' met' ds'/\ds'.length=ds.length+1/\Z=[↑x,↑ma,↑na,↑sa,↑rb,o5,o6,o7,o8,o9]:=⟨_,rfl⟩;refine⟨N,λZc H' h=>?_,?_⟩
  ·rw [hN]at h
   obtain⟨met',ds',o5,o6,o7,o8,o9,B',hl',rfl⟩:=h;refine⟨U.length - ds'.length,(),?_⟩;rw [hW];exact⟨met',ds',o5,o6,o7,o8,o9,B',rfl,rfl⟩
  have GO:∀Q',Q' bx H1->ny K (V.ref ma) (V.int ds.length) H1 λy H2=>ny K y (V.int 0) H2 Q':=λQ' h'=>bp (aH.of hm1) (aJ (by rw [aa4,hpp];rfl)) (dy (cM.of hv1) (bE rfl) h');have at2:∀Q',Q' (V.ref mA) H1->ny K (V.ref ma) (V.int ds.length) H1 λy H2=>ny K y (V.int 1) H2 Q':=λQ' h'=>bp (aH.of hm1) (aJ (by rw [aa4,hpp];rfl)) (dy (cM.of hv1) (show fV _ ((1:Nat):Int)=_ from aJ rfl) h');refine aN (λZ H'=>H1=H'/\Z=[↑x,↑ma,↑na,↑sa,↑rb,some bx,o6,o7,o8,o9]) ?_ ?_
  ·intro u2 gM
   tm_at "r";refine⟨C,dx,_,hx1,TC.cl,TC.n1,_,ia la wa sc,.inr ⟨_,rfl,_,.inl (aH.of B.la_),?_⟩⟩;rw [aa0];exact GO _ (gM _ _ ⟨rfl,rfl⟩)
  rintro Ω ω _ _ ⟨rfl,rfl⟩;refine ω _ _ (aN (λZ H'=>H1=H'/\Z=[↑x,↑ma,↑na,↑sa,↑rb,some bx,↑mA,o7,o8,o9]) ?_ ?_)
  ·intro u2 gM
   tm_at "r";refine⟨C,dx,_,hx1,TC.cl,TC.n1,_,ia la wa sc,.inr ⟨_,rfl,_,.inl (aH.of B.la_),?_⟩⟩;rw [aa0];exact at2 _ (gM _ _ ⟨rfl,rfl⟩)
  rintro Ω ω _ _ ⟨rfl,rfl⟩;refine ω _ _ (aN (λZ H'=>∃dA:Addr,H1 dA=none/\bK (Co P w) H' dA []/\av H1 H'/\Z=[↑x,↑ma,↑na,↑sa,↑rb,some bx,↑mA,↑dA,o8,o9]) ?_ ?_)
  ·intro u2 gM
   simp only [jF,wO,BP,iV];tm_at "r";exact λp hp=>gM _ _ ⟨p,hp,⟨af,(λ_ z=>nomatch z),List.nodup_nil,ac2 _⟩,au hp,rfl⟩
  rintro Ω ω _ H2 ⟨dA,hd1,hD2,s12,rfl⟩
  have inH:∀{z:Addr},z∈[ma,na,la,wa]->H1 z≠none:=λ{z} h e=>by
   simp only [ab0,ad2,or_false]at h;rcases h with rfl | rfl | rfl | rfl
   ·rw [hm1]at e;cases e
   ·obtain⟨xs,D,_⟩:=B.nm;rw [D.ob]at e;cases e
   ·rw [B.la_]at e;cases e
   ·rw [B.wl]at e;cases e
  have dnot:dA∉[ma,na,la,wa]:=λh=>inH h hd1
  have hd0:H dA=none:=by
   cases e:H dA with
   | none=>rfl
   | some o=>rw [B.sx dA o dnot e]at hd1;cases hd1
  have dds:∀d∈ds,d≠dA:=λd hd e=>by
   obtain⟨j,hj⟩:=ag7 hd;obtain⟨s',hs'⟩:∃s',met[j]?=some s':=⟨_,aa2 (ab2 (aa1.mp hj).1 B.le)⟩;obtain⟨xs,D,_⟩:=B.ld j d s' hj hs'
   have:=D.ob
   rw [e,hd1]at this;cases this
  have n4:dA≠ma/\dA≠na/\dA≠la/\dA≠wa:=⟨λe=>dnot (by simp [e]),λe=>dnot (by simp [e]),λe=>dnot (by simp [e]),λe=>dnot (by simp [e])⟩;have tup1:∀{b:Addr} {ws:List V},H b=some (.tup ws)->H2 b=some (.tup ws):=λe=>s12 _ _ (B.sx _ _ (tm e) e);have B2:=B.same s12;obtain⟨Pv,hPv⟩:∃Pv:Nat->L2.St->Hp->Prop,Pv=λi Z H'=>∃(met':List MS) (ys:List (List Int×Addr×V)) (o8 o9:Option V),iZ P w Ss Gs cols nv U H ma na la wa H' met' ds/\met'[ds.length]?=some st/\bK (Co P w) H' dA ys/\eG Ss (cols.take i) met' st ys/\ys.length<=i/\(∀b ws,H2 b=some (.tup ws)->H' b=some (.tup ws))/\Z=[↑x,↑ma,↑na,↑sa,↑rb,some bx,↑mA,↑dA,o8,o9]:=⟨_,rfl⟩;refine ω _ _ (aN (λZ H'=>Pv cols.length Z H') ?_ ?_)
  ·intro u2 gM
   refine iX λk9 hk9=>?_;simp only [xN];tm_at "r";refine bR (aH.of (B2.sx sa _ sm hsa)) (dR (xs:=cs.map V.ref) Pv (by rw [hPv];exact⟨met,[],o8,o9,B2,hst,hD2,⟨λc hc=>(by rw [List.take_zero]at hc;cases hc),λ_ _=>rfl,rfl⟩,ac2 _,λ_ _ e=>e,rfl⟩) (λi Z H' _ h=>?_) ?_ ?_)
   ·rw [hPv]at h
    obtain⟨_,_,_,_,B',_⟩:=h;exact aH.of (B'.sx sa _ sm hsa)
   ·intro i y Z H3 hy hI
    rw [hPv]at hI;obtain⟨met3,ys,o8,o9,B3,hst3,hD3,L3,hyl,keep3,rfl⟩:=hI;rw [aa4]at hy
    cases hci:cs[i]? with
    | none=>rw [hci]at hy;cases hy
    | some ca=>
     rw [hci]at hy;cases hy
     have hi:i < cols.length:=by rw [<-hT.1];exact(aa1.mp hci).1
     obtain⟨c,hc⟩:∃c,cols[i]?=some c:=⟨_,aa2 hi⟩;have hcm:=ac0 hc;have hca:=keep3 _ _ (tup1 (hT.2 i ca c hci hc));have hmA3:=keep3 _ _ (s12 _ _ hmA)
     have hbv3:BV K H3 nv st.1 bx:=by
      cases e:st.1 with
      | none=>
       rw [e]at hbx;exact .inl ⟨rfl,hbx⟩
      | some c'=>
       rw [e]at hbx;obtain⟨b,rfl,hb⟩:=hbx;exact .inr ⟨b,c',rfl,rfl,cM.of (keep3 _ _ (s12 _ _ hb)),hstW c' e⟩
     have lU3:=lenU B3;simp only [iV];refine aN (λZ H'=>∃fA:Addr,((dw Ss st c=none/\H' fA=some (.tup [.ref ca,.non]))\/∃ms' p,eC Ss st.2 st.1 c=some ms'/\rZ Gs ms'/\H' p=some (.tup (ms'.map V.int))/\H' fA=some (.tup [.ref ca,.ref p]))/\av H3 H'/\Z=[↑x,↑ma,↑na,↑sa,↑rb,some bx,↑mA,↑dA,↑ca,↑fA]) ?_ ?_
     ·intro u3 hu3
      tm_at "r";refine⟨rb,mA,ca,bx,nv,Ss,Gs,rs,st.2,c,st.1,rfl,RM.same (toS B3.sx),lS,cM.of hmA3,hstM,hbv3,cM.of hca,hcw c hcm,λhno H4 s34=>⟨(),λfA hfA=>hu3 _ _ ⟨fA,.inl ⟨?_,af⟩,s34.upd hfA,rfl⟩⟩,λms' hms hMs p H4 hp _ s34=>⟨(),λfA hfA=>hu3 _ _ ⟨fA,.inr ⟨ms',p,hms,hMs,(au hfA) _ _ hp,af⟩,s34.upd hfA,rfl⟩⟩⟩;unfold dw;rw [hno];rfl
     rintro Ω ω _ H4 ⟨fA,hcase,s34,rfl⟩;have B4:=B3.same s34;have hD4:=hD3.same s34;have hca4:=s34 _ _ hca;refine ω _ _ ?_;rcases hcase with⟨hno,hf4⟩ | ⟨ms',p,hms,hMs,hp4,hf4⟩
     ·refine cv λA1 B1 hA1 hB1=>?_
      tm_at "r";refine dy (cM.of hf4) (show fV _ ((1:Nat):Int)=_ from aJ rfl) ?_;rw [if_pos rfl];refine hA1 _ ?_;simp only [jF,BK];show Pv (i+1) _ _;rw [hPv];exact⟨met3,ys,_,_,B4,hst3,hD4,L3.skip hc hno,(),λb ws e=>s34 _ _ (keep3 b ws e),rfl⟩
     ·have hnx:dw Ss st c=some (some c,ms'):=by
       unfold dw;rw [hms];rfl
      have hkey:(iY P w).at_ H4 (b0 (some c,ms')) fA:=⟨_,hf4,⟨ca,rfl,hca4⟩,⟨p,rfl,hp4⟩,True.intro⟩;refine cv λA1 B1 hA1 hB1=>?_;tm_at "r";refine dy (cM.of hf4) (show fV _ ((1:Nat):Int)=_ from aJ rfl) ?_;rw [if_neg (λe=>by cases e)];refine hB1 _ ?_;refine aN (λZ H'=>∃met5,iZ P w Ss Gs cols nv U H ma na la wa H' met5 ds/\met5[ds.length]?=some st/\(some c,ms')∈met5/\bK (Co P w) H' dA ys/\eG Ss (cols.take i) met5 st ys/\(∀b ws,H4 b=some (.tup ws)->H' b=some (.tup ws))/\Z=[↑x,↑ma,↑na,↑sa,↑rb,some bx,↑mA,↑dA,↑ca,↑fA]) ?_ ?_
      ·intro u3 hu3
       obtain⟨xs,D4,N4,xl⟩:=B4.nm;obtain⟨ps4,g1,g2,g3⟩:=B4.mt;refine cv λA2 B2' hA2 hB2=>?_;tm_at "r";refine⟨na,fA,b0 (some c,ms'),xs,rfl,rfl,D4,hkey,_,rfl,?_⟩
       cases ea:jV xs (b0 (some c,ms'))with
       | none=>
        rw [if_pos (show(!(none:Option V).isSome)=true from rfl)];refine hA2 _ (lz λk7 hk7=>?_);tm_at "r";refine⟨_,.inl (aH.of g1),na,fA,b0 (some c,ms'),xs,rfl,rfl,D4,hkey,?_⟩;rw [aa0,g2];refine hk7 _ _ ?_;tm_at "r"
        have ntN:∀vs,H4 na≠some (.tup vs):=λvs e=>by rw [D4.ob]at e;cases e
        have hm4:(L2.upd H4 na (dO (iY P w) na (fc xs (b0 (some c,ms')) fA (.int met3.length)))) ma=some (.lst (ps4.map V.ref)):=by rw [aj mna];exact g1
        have ntM:∀vs,(L2.upd H4 na (dO (iY P w) na (fc xs (b0 (some c,ms')) fA (.int met3.length)))) ma≠some (.tup vs):=λvs e=>by rw [hm4]at e;cases e
        have hnew:=N4.fresh ea;have hltm:ds.length < met3.length:=(aa1.mp hst3).1;refine⟨.inl ⟨rfl,_,aH.of hm4⟩,ma,_,_,rfl,rfl,hm4,by rw [aa0];omega,hu3 _ _ ⟨met3++[(some c,ms')],B4.put D4 N4 xl g1 g2 g3 hkey hnew (CU.cl st hstU c hcm _ hnx) hMs (λc' e=>by cases e;exact hcw c hcm) hst3 hcm hnx () mna n1 n2 nla nwa (by rw [hma];exact λe=>by cases e) (by rw [hna.ob];exact λe=>by cases e),?_,by simp,?_,L3.more _,λb ws e=>?_,rfl⟩⟩
        ·rw [ab7 hltm]
         exact hst3
        ·exact(hD4.upd n4.2.1 ntN).upd n4.1 ntM
        ·have h1:b≠na:=λq=>ntN ws (by rw [<-q];exact e)
         have h2:b≠ma:=λq=>by rw [q,g1]at e;cases e
         rw [aj h2,aj h1];exact e
       | some z=>
        rw [if_neg (by simp)];obtain⟨j,hj,_⟩:=N4.known (s:=(some c,ms')) (by rw [ea];exact λe=>by cases e);exact hB2 _ (hu3 _ _ ⟨met3,B4,hst3,ac0 hj,hD4,L3,λ_ _ e=>e,rfl⟩)
      rintro Ω ω _ H5 ⟨met5,B5,hst5,hin5,hD5,L5,keep5,rfl⟩;refine ω _ _ ?_;tm_at "r";obtain⟨xs5,D5,N5,_⟩:=B5.nm;obtain⟨j,hj⟩:=ag7 hin5;have hf5:=keep5 _ _ hf4;have hca5:=keep5 _ _ hca4;have hkey5:(iY P w).at_ H5 (b0 (some c,ms')) fA:=⟨_,hf5,⟨ca,rfl,hca5⟩,⟨p,rfl,keep5 _ _ hp4⟩,True.intro⟩
      have ntD:∀vs,H5 dA≠some (.tup vs):=λvs e=>by rw [hD5.ob]at e;cases e
      refine⟨na,fA,_,xs5,.int j,rfl,rfl,D5,hkey5,N5.1 j _ hj,dA,ca,c,ys,rfl,rfl,hD5,hca5,?_⟩;rw [hPv];refine⟨met5,_,_,_,B5.upd ntD hd0 n4.1 n4.2.1 n4.2.2.1 n4.2.2.2 dds,hst5,hD5.put hca5 (),L5.put hc hnx hj hnd,?_,λb ws e=>?_,rfl⟩
      ·unfold fc
       split
       ·rw [aa0];omega
       ·rw [ab4];simp;omega
      ·have h5:=keep5 _ _ (s34 _ _ (keep3 b ws e))
       rw [aj (λq=>ntD ws (by rw [<-q];exact h5))];exact h5
   ·intro Z H3 hI
    rw [aa0,hT.1]at hI;exact hk9 _ _ (gM _ _ hI)
  intro Ω ω;intro Z H3 hI;rw [hPv]at hI;obtain⟨met3,ys,o8,o9,B3,hst3,hD3,L3,hyl,keep3,rfl⟩:=hI;rw [ad5]at L3;have hx3:=B3.sx x _ xm hx;have hlt3:ds.length < met3.length:=(aa1.mp hst3).1;have lU3:=lenU B3;refine ω _ _ (aN (λZ H'=>H'=L2.upd H3 la (.lst (ds.map V.ref++[.ref dA]))/\Z=[↑x,↑ma,↑na,↑sa,↑rb,some bx,↑mA,↑dA,o8,o9]) ?_ ?_)
  ·intro u2 gM
   tm_at "r";exact⟨C,dx,_,hx3,TC.cl,TC.n1,_,ia la wa sc,.inl ⟨rfl,_,aH.of B3.la_⟩,la,_,_,rfl,rfl,B3.la_,by rw [aa0];omega,gM _ _ ⟨rfl,rfl⟩⟩
  rintro Ω ω _ _ ⟨rfl,rfl⟩;refine ω _ _ ?_;tm_at "r";have xla:x≠la:=λe=>xm (by simp [e])
  have ntL:∀vs,H3 la≠some (.tup vs):=λvs e=>by rw [B3.la_]at e;cases e
  have hw3:(L2.upd H3 la (.lst (ds.map V.ref++[.ref dA]))) wa=some (.lst ((met3.take ds.length).map λs=>V.bl (cT Ss s.2 s.1))):=by rw [aj n3.symm];exact B3.wl
  have sS3:av Hs (L2.upd H3 la (.lst (ds.map V.ref++[.ref dA]))):=zw z3 (toS B3.sx)
  have tk:∀{b:Addr} {ws:List V},H2 b=some (.tup ws)->(L2.upd H3 la (.lst (ds.map V.ref++[.ref dA]))) b=some (.tup ws):=λ{b ws} e=>by
   have h3:=keep3 _ _ e;rw [aj (λq=>ntL ws (by rw [<-q];exact h3))];exact h3
  have hbv3:BV K (L2.upd H3 la (.lst (ds.map V.ref++[.ref dA]))) nv st.1 bx:=by
   cases e:st.1 with
   | none=>
    rw [e]at hbx;exact .inl ⟨rfl,hbx⟩
   | some c'=>
    rw [e]at hbx;obtain⟨b,rfl,hb⟩:=hbx;exact .inr ⟨b,c',rfl,rfl,cM.of (tk (s12 _ _ hb)),hstW c' e⟩
  refine⟨C,dx,_,by rw [aj xla];exact hx3,TC.cl,TC.n2,_,xn la wa sc,.inl ⟨rfl,_,aH.of hw3⟩,rb,mA,bx,nv,Ss,Gs,rs,st.2,st.1,rfl,RM.same sS3,lS,cM.of (tk (s12 _ _ hmA)),hstM,hbv3,λH4 s4=>⟨wa,_,_,rfl,rfl,s4 _ _ hw3,by rw [aa0,ac3];omega,?_⟩⟩;rw [hN];exact⟨met3,ds++[dA],_,_,_,_,_,B3.close hD3 L3 hst3 hd0 n1 n2 nla nwa n3 (by rw [hla];exact λe=>by cases e) (by rw [hwa];exact λe=>by cases e) s4,by rw [ab4];rfl,rfl⟩
 ·rw [if_neg hlt]
  refine hB _ ?_;have le:=B.le
  have e:ds.length=met.length:=by omega
  refine k met H1 B.mf (λs hs=>(B.al s hs).1) (λs hs c hc s' hn=>?_) ⟨ds,B.la_,e,?_,B.ld⟩ B.sx
  ·obtain⟨j,hj⟩:=ag7 hs
   obtain⟨d,hd⟩:∃d,ds[j]?=some d:=⟨_,aa2 (by rw [e];exact(aa1.mp hj).1)⟩;obtain⟨xs,_,L⟩:=B.ld j d s hd hj;obtain⟨j',g,_⟩:=L.1 c hc s' hn;exact ac0 g
  ·have:=B.wl
   rw [e,ad5]at this;exact this
def i7(P:Program)(w:World)(C:Addr)(Ss:List bS)(cols:List (List Int))(met:List MS)(x:Addr)(H:Hp):Prop:=∃dx la wa sc:Addr,H x=some (.ins C dx (bL la wa sc))/\zE P w Ss cols la wa H met
theorem i7.same(h:i7 P w C Ss cols met x H)(s:av H H'):i7 P w C Ss cols met x H':=by
 obtain⟨dx,la,wa,sc,h1,ds,h2,h3,h4,h5⟩:=h;exact⟨dx,la,wa,sc,s _ _ h1,ds,s _ _ h2,h3,s _ _ h4,λi d t e1 e2=>let ⟨xs,g1,g2⟩:=h5 i d t e1 e2;⟨xs,g1.same s,g2⟩⟩
def xD(P:Program)(w:World)(C:Addr):Sp:=λvs H Q _=>∃(x:Addr) (Ss:List bS) (cols:List (List Int)) (met:List MS),vs=[.ref x]/\i7 P w C Ss cols met x H/\Q (.int met.length) H
def DF(P:Program)(w:World)(C:Addr):Sp:=λvs H Q _=>∃(x ca:Addr) (Ss:List bS) (cols:List (List Int)) (met:List MS) (i:Nat) (c:List Int) (s:MS),vs=[.ref x,.int i,.ref ca]/\i7 P w C Ss cols met x H/\met[i]?=some s/\H ca=some (.tup (c.map V.int))/\
 (∀(j:Nat) s',c∈cols->dw Ss s c=some s'->met[j]?=some s'->Q (.int j) H)/\((c∈cols->dw Ss s c=none)->Q .non H)
def Bs(P:Program)(w:World)(C:Addr):Sp:=λvs H Q _=>∃(x:Addr) (Ss:List bS) (cols:List (List Int)) (met:List MS) (i:Nat) (s:MS),vs=[.ref x,.int i]/\i7 P w C Ss cols met x H/\met[i]?=some s/\Q (.bl (cT Ss s.2 s.1)) H
def lV(K:Frag)(C:Addr):Sp:=λvs H Q _=>∃(x dx:Addr),vs=[.ref x]/\H x=some (.ins C dx [])/\∀l w H',H l=none->H w=none->w≠l->H'=upd (upd (upd H l (.lst [])) w (.lst [])) x (.ins C dx (bu "well" (.ref w) (bu "leads" (.ref l) [])))->Q .non H'
inductive kE(P:Program)(w:World)(K:Frag)(mg:Str->Option Value)(base:Heap)(C Cs:Addr):Sp
 | mk {vs:List V} {H:Hp} {Q:VK} {E:XK} (x dx sc:Addr) (nv:Nat) (bs:List (Int×Int)) (Ss:List bS) (Gs:List (Int->Prop)) (U:List MS) (H0:Hp):vs=[.ref x,.ref sc]->H x=some (.ins C dx [])->H0 x=none->av H0 H->~~~r6 Cs nv bs Ss Gs sc H0->Ss.length<=100->rZ Gs (Ss.map (·.start))->bs.length=nv->bs.length<=4->(∀b∈bs,1<=wN b)->jL bs<=400->vt Ss (bJ bs) U->(∀met H',w5 Ss (bJ bs) met->(∀s∈met,s∈U)->(∀(s:MS),s∈met->∀c∈bJ bs,∀s',dw Ss s c=some s'->s'∈met)->(∃dx la wa:Addr,H' x=some (.ins C dx (bL la wa sc))/\zE P w Ss (bJ bs) la wa H' met)->(∀b o,b≠x->H b=some o->H' b=some o)->Q .non H')->~~~kE C Cs vs H Q E
theorem CY(F:bV K "ends" "States.ends" gX f fd)(T:Txt mg aM)(TC:il K C): ~~~aK bP 1 f fd ["self","state"] (Bs P w C):=by
 refine F.ok pz λ_ A _ s H vs Q E hr h=>?_;obtain⟨x,Ss,cols,met,i,st,rfl,⟨dx,la,wa,sc,hx,ds,h1,h2,h3,h4⟩,hst,q⟩:=h;refine⟨rfl,_,(ai (ar (aw (aD K) (aU (pr 0) rfl) (pr 1) (λ_ _=>rfl)))),?_⟩;tm_at "r";exact⟨C,dx,_,hx,TC.cl,TC.n2,_,xn la wa sc,bp (aH.of h3) (aJ (by rw [aa4,hst];rfl)) q⟩
theorem oR(F:bV K "__init__" "States.__init__" eQ f fd)(T:Txt mg aM)(TC:il K C): ~~~aK bP 1 f fd ["self"] (lV K C):=by
 refine F.ok kD λ_ A _ s H vs Q E hr h=>?_;obtain⟨x,dx,rfl,hx,k⟩:=h
 refine⟨rfl,_,(ah (bG (pr 0) (bM ag) rfl)
 (ai (bG (pr 0) (bM ag) rfl))),?_⟩
 have hs:=sizeLine_eq;tm_at "r";have ln:∀(f:Str) (v:V) (l:List (Str×V)) (n:Nat),l.length<=n->(bu f v l).length<=n+1:=λf v l n h=>ab6 (bB f v l) (ae1 h);refine⟨(),λl hl=>?_⟩
 have lx:l≠x:=λe=>by subst e;rw [hx]at hl;cases hl
 refine⟨C,dx,[],by rw [aj (Ne.symm lx)];exact hx,TC.cl,TC.n1,∅,(),λw' hw=>?_⟩
 have wx:w'≠x:=λe=>by subst e;rw [af]at hw;cases hw
 rw [aj wx]at hw
 have wl:w'≠l:=λe=>by subst e;rw [af]at hw;cases hw
 rw [aj wl]at hw;refine⟨C,dx,_,by rw [aj (Ne.symm wx),af],TC.cl,TC.n2,aa7 (ln _ _ _ _ (ac2 0)) ∅,?_⟩;refine k l w' _ hl hw wl ?_;rw [fK]
theorem AX(F:bV K "size" "States.size" gY f fd)(T:Txt mg aM)(TC:il K C): ~~~aK bP 1 f fd ["self"] (xD P w C):=by
 refine F.ok pA λ_ A _ s H vs Q E hr h=>?_;obtain⟨x,Ss,cols,met,rfl,⟨dx,la,wa,sc,hx,ds,h1,h2,_⟩,q⟩:=h;refine⟨rfl,_,(ai (ar (aB (aE K) ⋯ T.n_len boot_len (aa (aU (pr 0) rfl) ag)))),?_⟩;tm_at "r";refine⟨C,dx,_,hx,TC.cl,TC.n1,_,ia la wa sc,.inr ⟨_,rfl,_,.inl (aH.of h1),?_⟩⟩;rw [aa0,h2];exact q
theorem Gf(F:bV K "to" "States.to" jt f fd)(T:Txt mg aM)(TC:il K C): ~~~aK bP 1 f fd ["self","state","column"] (DF P w C):=by
 refine F.ok tI λ_ A _ s H vs Q E hr h=>?_;obtain⟨x,ca,Ss,cols,met,i,c,st,rfl,⟨dx,la,wa,sc,hx,ds,h1,h2,h3,h4⟩,hst,hc,q1,q2⟩:=h;refine⟨rfl,_,(ai (ar (Dk (kk':=Co P w) (gM hr) (aw (aD K) (aU (pr 0) rfl) (pr 1) (λ_ _=>rfl)) (aa (pr 2) ag)))),?_⟩;tm_at "r";obtain⟨d,hd⟩:∃d,ds[i]?=some d:=⟨_,aa2 (by rw [h2];exact(aa1.mp hst).1)⟩;obtain⟨xs,D,L⟩:=h4 i d st hd hst;refine⟨C,dx,_,hx,TC.cl,TC.n1,_,ia la wa sc,bp (aH.of h1) (aJ (by rw [aa4,hd];rfl)) ?_⟩;refine⟨⟨d,rfl,xs,D⟩,d,ca,c,xs,rfl,rfl,D,hc,?_⟩
 by_cases hcc:c∈cols
 ·cases hn:dw Ss st c with
  | none=>
   rw [L.2.1 c λ_=>hn];exact q2 λ_=>hn
  | some s'=>
   obtain⟨j,hj,ha⟩:=L.1 c hcc s' hn;rw [ha];exact q1 j s' hcc hn hj
 ·rw [L.2.1 c λh=>absurd h hcc]
  exact q2 λh=>absurd h hcc
theorem sO(F:bV K "__init__" "Machine.__init__" eB f fd)(T:Txt mg aM)(TC:il K C)(TS:gf K Cs)(DC_States___init__: ~~~i5 "States" "__init__" 10 ["self"] (lV K C))(D_columns: ~~~cy "columns" 10 ["score"] (mR K Cs))(M_build: ~~~aG C "build" 10 ["self","met","numbers","steps"] (~~~tM C Cs)):
  ~~~aK bP 11 f fd ["self","score"] (~~~kE C Cs):=by
 refine F.ok sc_Machine___init__ λ_ A _ s H vs Q E hr h=>?_;obtain⟨x,dx,sc,nv,bs,Ss,Gs,U,H0,rfl,hx,hx0,s0,⟨dsc,ra,rb,rs,hsc,RA,RM⟩,lS,hM0,hnv,lb,hw,hc,CU,k⟩:=h
 refine⟨rfl,_,(ah (bH (dH DC_States___init__ hr ⋯ (aa (pr 0) ag)))
 (ah (bG (pr 0) (pr 1) rfl)
 (ah (cN (i:=2) sc_Machine___init__.nd (dj (aa bc (aa (aV (jb K) ⋯ T.n_tuple boot_tuple (aa (di (own:=["rule"]) (js:=[]) rfl (bI K (aU (pr 1) rfl)) (bD.of ⋯) (λ_ _ _ _ _=>(bQ (i:=0) (show List.Nodup (["rule"]:List Str)from by decide +kernel) rfl (Or.inl rfl))) (λ_ _ _ _ _=>cA) (λ_ _ _ _ _=>(~~~jR hr (pr 0)))) ag)) ag))))
 (ai (bH (~~~eO hr (pr 0) (aa (bM (aa (pr 2) ag)) (aa (Dp (kk':=iY P w) (gM hr) (pr 2) (iy T.g_START) (EH (gM hr))) (aa (aA D_columns hr ⋯ (aa (pr 1) ag)) ag))))))))),?_⟩
 have hs:=sizeLine_eq
 have scx:sc≠x:=λe=>by rw [e,hx0]at hsc;cases hsc
 refine aN (λZ H'=>∃la wa:Addr,H la=none/\H wa=none/\wa≠la/\H'=upd (upd (upd H la (.lst [])) wa (.lst [])) x (.ins C dx (bu "well" (.ref wa) (bu "leads" (.ref la) [])))/\Z=[↑x,↑sc,none]) ?_ ?_
 ·intro u' hu
  tm_at "r";exact⟨x,dx,rfl,hx,λl w' H' hl hw' hne e=>hu _ _ ⟨l,w',hl,hw',hne,e,rfl⟩⟩
 rintro Ω ω _ H1 ⟨la,wa,hla,hwa,nwl,eH1,rfl⟩
 have hx1:H1 x=some (.ins C dx (bu "well" (.ref wa) (bu "leads" (.ref la) []))):=by rw [eH1,af]
 refine ω _ _ (aN (λZ H'=>H'=upd H1 x (.ins C dx (bL la wa sc))/\Z=[↑x,↑sc,none]) ?_ ?_)
 ·intro u' hu
  tm_at "r";have ln:∀(f:Str) (v:V) (l:List (Str×V)) (n:Nat),l.length<=n->(bu f v l).length<=n+1:=λf v l n h=>ab6 (bB f v l) (ae1 h);exact⟨C,dx,_,hx1,TC.cl,TC.n3,aa7 (ln _ _ _ _ (ln _ _ _ _ (ac2 0))) ∅,hu _ _ ⟨rfl,rfl⟩⟩
 rintro Ω ω _ H2 ⟨eH2,rfl⟩
 have lax:la≠x:=λe=>by rw [e,hx]at hla;cases hla
 have wax:wa≠x:=λe=>by rw [e,hx]at hwa;cases hwa
 have e2:H2=upd (upd (upd H la (.lst [])) wa (.lst [])) x (.ins C dx (bL la wa sc)):=by rw [eH2,eH1,bO]
 have hx2:H2 x=some (.ins C dx (bL la wa sc)):=by rw [e2,af]
 have hla2:H2 la=some (.lst []):=by rw [e2,aj lax,aj nwl.symm,af]
 have hwa2:H2 wa=some (.lst []):=by rw [e2,aj wax,af]
 have old2:∀b o,b≠x->H b=some o->H2 b=some o:=λb o hb e=>by rw [e2,aj hb,aj (aq e hwa),aj (aq e hla)];exact e
 have s02:av H0 H2:=λb o e=>old2 b o (λq=>by rw [q,hx0]at e;cases e) (s0 _ _ e)
 have hla0:H0 la=none:=by
  cases e:H0 la with
  | none=>rfl
  | some o=>rw [s0 _ _ e]at hla;cases hla
 have hwa0:H0 wa=none:=by
  cases e:H0 wa with
  | none=>rfl
  | some o=>rw [s0 _ _ e]at hwa;cases hwa
 clear e2 eH2 eH1 hx1;clear H1;have RM2:=RM.same s02
 refine ω _ _ (aN (λZ H'=>∃bg mA:Addr,H' bg=some (.tup [.non,.ref mA])/\H' mA=some (.tup ((Ss.map (·.start)).map V.int))/\av H2 H'/\Z=[↑x,↑sc,↑bg]) ?_ ?_)
 ·intro u' hu
  tm_at "r";have lr:=RM.len;have lg:=RM.gl
  refine⟨Cs,dsc,_,s02 _ _ hsc,TS.cl,TS.n2,_,oC ra rb,bR RM2.sq (bW (xs:=rs.map V.ref) (λi ys H'=>ys=((Ss.take i).map (·.start)).map V.int/\H2=H') (by rw [aa0];omega) ⟨rfl,rfl⟩ ?_ ?_ ?_ ?_)⟩
  ·rintro i ys H' ⟨rfl,rfl⟩
   rw [aa0,aa0,ac3];omega
  ·rintro i ys H' ⟨rfl,rfl⟩
   exact RM2.sq
  ·rintro i y ys H' hy ⟨rfl,rfl⟩
   rw [aa4]at hy
   cases hri:rs[i]? with
   | none=>rw [hri]at hy;cases hy
   | some r=>
    rw [hri]at hy;cases hy
    have hi:i < Ss.length:=by rw [<-lr];exact(aa1.mp hri).1
    obtain⟨S,hS⟩:∃S,Ss[i]?=some S:=⟨_,aa2 hi⟩;obtain⟨G,hG⟩:∃G,Gs[i]?=some G:=⟨_,aa2 ()⟩;obtain⟨Cr,RI,RO,hRI⟩:=RM2.at_ i r S G hri hS hG;obtain⟨dr,fs,hir,z1,z2,z3,z4,z5⟩:=RO.ins r H2 hRI;simp only [iT];tm_at "r";refine⟨Cr,dr,fs,hir,z2,_,_,RO.start.up ∅,r,rfl,hRI,?_⟩;rw [ac5,hS,ab3,ab3];exact⟨rfl,rfl⟩
  ·rintro ys H' ⟨rfl,rfl⟩ p hp
   rw [aa0,lr,ad5];refine⟨_,.inl ⟨aH.of af,λl hl=>⟨(),λbg hbg=>hu _ _ ⟨bg,l,af,(au hbg) _ _ af,((au hp).upd hl).upd hbg,rfl⟩⟩⟩⟩
 rintro Ω ω _ H3 ⟨bg,mA,hbg,hmA,s23,rfl⟩;refine ω _ _ ?_;tm_at "r";have hx3:=s23 _ _ hx2;have s03:=s02.trans s23;refine⟨C,dx,_,hx3,by unfold bL;tm_at "f",_,_,M_build,(),λma hma na hna=>?_⟩;have hna3:H3 na=none:=(au hma).free hna
 have nma:na≠ma:=λe=>by rw [e,af]at hna;cases hna
 have hk4:(iY P w).at_ (upd (upd H3 ma (.lst [.ref bg])) na (dO (iY P w) na [])) (b0 (none,Ss.map (·.start))) bg:=⟨_,(au hna) _ _ ((au hma) _ _ hbg),rfl,⟨mA,rfl,(au hna) _ _ ((au hma) _ _ hmA)⟩,True.intro⟩
 refine⟨af,_,hk4,?_⟩;rw [bO]
 have s35:av H3 (upd (upd H3 ma (.lst [.ref bg])) na (dO (iY P w) na [(b0 (none,Ss.map (·.start)),bg,.int 0)])):=(au hma).upd hna
 have hma5:(upd (upd H3 ma (.lst [.ref bg])) na (dO (iY P w) na [(b0 (none,Ss.map (·.start)),bg,.int 0)])) ma=some (.lst [.ref bg]):=by rw [aj nma.symm,af]
 have hna5:(upd (upd H3 ma (.lst [.ref bg])) na (dO (iY P w) na [(b0 (none,Ss.map (·.start)),bg,.int 0)])) na=some (dO (iY P w) na [(b0 (none,Ss.map (·.start)),bg,.int 0)]):=af
 refine(λ(key:∀H5:Hp,av H3 H5->H5 ma=some (.lst [.ref bg])->H5 na=some (dO (iY P w) na [(b0 (none,Ss.map (·.start)),bg,.int 0)])->mR K Cs [V.ref sc] H5 _ _)=>key _ s35 hma5 hna5) ?_
 clear s35 hma5 hna5;intro H5 s35 hma5 hna5;have s05:=s03.trans s35;refine⟨sc,dsc,ra,rb,bs,rfl,s05 _ _ hsc,RA.same s05,lb,hw,hc,λsa H6 hsa0 hC6 s56=>?_⟩;obtain⟨cs,hsa,hT⟩:=hC6;have s06:=s05.trans s56;have s36:=s35.trans s56
 have fr0:∀{z:Addr},H3 z=none->H0 z=none:=λ{z} h=>by
  cases e:H0 z with
  | none=>rfl
  | some o=>rw [s03 _ _ e]at h;cases h
 have hla3:=s23 _ _ hla2;have hwa3:=s23 _ _ hwa2
 refine⟨x,dx,ma,na,sa,la,wa,sc,dsc,ra,rb,bg,nv,Ss,Gs,rs,cs,bJ bs,U,H0,rfl,s36 _ _ hx3,s06 _ _ hsc,s06,fr0 hma,fr0 hna3,hla0,hwa0,RM,lS,hM0,s56 _ _ hma5,⟨_,s36 _ _ hbg,rfl,⟨mA,rfl,s36 _ _ hmA⟩,True.intro⟩,
  ⟨s56 _ _ hna5,λy hy=>?_,by simp,by simp⟩,s36 _ _ hla3,s36 _ _ hwa3,(aq hla3 hma).symm,(aq hwa3 hma).symm,nwl.symm,hsa,(aq hma5 hsa0).symm,(aq (s35 _ _ hla3) hsa0).symm,(aq (s35 _ _ hwa3) hsa0).symm,hT,λc hcc=>by rw [fG bs c hcc,hnv],by rw [gb];omega,tX bs,CU,λmet H' mf sub cl mb sx=>k met H' mf sub cl ⟨dx,la,wa,?_,mb⟩ λb o hb e=>?_⟩
 ·rw [ac1.mp hy]
  exact⟨_,s36 _ _ hbg,rfl,⟨mA,rfl,s36 _ _ hmA⟩,True.intro⟩
 ·refine sx x _ (λh=>?_) (s36 _ _ hx3)
  simp only [ab0,ad2,or_false]at h;rcases h with e | e | e | e
  ·exact aq hx3 hma e
  ·exact aq hx3 hna3 e
  ·exact lax e.symm
  ·exact wax e.symm
 ·have h3:=s23 _ _ (old2 b o hb e)
  refine sx b o (λh=>?_) (s36 _ _ h3);simp only [ab0,ad2,or_false]at h;rcases h with q | q | q | q
  ·exact aq h3 hma q
  ·exact aq h3 hna3 q
  ·exact aq e hla q
  ·exact aq e hwa q
inductive c8 where
 | span (o t:Int) (D:List Int)
 | clock (o t h:Int) (D:List Int)
 | move (o:Int) (D:List Int)
 | alike (o t:Int) (D:List Int)
 | back (o cX:Int)
 | held (o most:Int)
 | times (o nt lw hg:Int)
 | begin (o:Int) (D:List Int)
 | close (o:Int) (D:List Int)
variable {R:c8}
def dI(o:Int)(cols:List (List Int))(i:Nat):Int:=aF (cols.getD i []) (o+1)
def fW(o:Int)(cols:List (List Int))(i:Nat):Int:=dI o cols i - dI o cols (i - 1)
def t9(o nt:Int)(us:List Int):Bool:=decide (aF us (o+1)=nt)
def jc(o nt:Int)(cols:List (List Int))(i:Nat):Nat:=((cols.take i).filter (t9 o nt)).length
def mx(o:Int)(cols:List (List Int)):Nat->Nat
 | 0=>0
 | i+1=>if dI o cols i=dI o cols (i+1)then mx o cols i+1 else 0
def gy(cols:List (List Int))(i:Nat):c8->Bool
 | .span o t D=>!decide (dI t cols i - dI o cols i∈D)
 | .clock o t h D=>!decide ((dI t cols i - dI o cols i) % h∈D)
 | .move o D=>decide (i≠0) && !decide (fW o cols i∈D)
 | .alike o t D=>decide (i≠0) && (decide (fW o cols i≠0) && (decide (dI t cols i - dI o cols i=dI t cols (i - 1) - dI o cols (i - 1)) && decide (dI t cols i - dI o cols i∈D)))
 | .back o cX=>decide (2<=i) && (decide (fW o cols (i - 1) > cX/\fW o cols i>=0) || decide (fW o cols (i - 1) < 0 - cX/\fW o cols i<=0))
 | .held o most=>decide (most<=(mx o cols i:Int))
 | .times o nt _ hg=>decide (dI o cols i=nt) && decide ((jc o nt cols i:Int)>=hg)
 | .begin o D=>decide (i=0) && !decide (dI o cols i∈D)
 | .close _ _=>false
def Dc(cols:List (List Int))(i:Nat):c8->Bool
 | .times o nt lw _=>decide ((jc o nt cols i:Int) < lw)
 | .close o D=>decide (i≠0) && !decide (dI o cols (i - 1)∈D)
 | .back o cX=>decide (2<=i) && (decide (fW o cols (i - 1) > cX) || decide (fW o cols (i - 1) < 0 - cX))
 | _=>false
def gB:c8->bS
 | .span o t D=>fE (o+1) (t+1) D
 | .clock o t h D=>ef (o+1) (t+1) h D
 | .move o D=>f6 (o+1) D
 | .alike o t D=>eT (o+1) (t+1) D
 | .back o cX=>dz (o+1) cX
 | .held o most=>eo (o+1) most
 | .times o nt lw hg=>cW (o+1) nt lw hg
 | .begin o D=>ee (o+1) D
 | .close o D=>eU (o+1) D
def EF:c8->Int->Prop
 | .back _ _=>lq
 | .held _ most=>rC most
 | .times _ _ _ hg=>lu hg
 | _=>λ_=>True
def yH(o cX:Int)(cols:List (List Int))(i:Nat):Int:=if i=0 then 0 else if fW o cols i > cX then 1 else if fW o cols i < 0 - cX then 2 else 0
def oG(cols:List (List Int))(i:Nat):c8->Int
 | .back o cX=>(match i with | 0=>0 | i+1=>yH o cX cols i)
 | .held o _=>(match i with | 0=>0 | i+1=>(mx o cols i:Int))
 | .times o nt _ _=>(jc o nt cols i:Int)
 | _=>0
def mY(nv:Nat):c8->Prop
 | .span o t _=>0<=o/\o < nv/\0<=t/\t < nv
 | .clock o t h _=>0<=o/\o < nv/\0<=t/\t < nv/\1<=h
 | .move o _=>0<=o/\o < nv
 | .alike o t _=>0<=o/\o < nv/\0<=t/\t < nv
 | .back o cX=>0<=o/\o < nv/\0<=cX
 | .held o most=>0<=o/\o < nv/\1<=most
 | .times o _ _ hg=>0<=o/\o < nv/\0<=hg
 | .begin o _=>0<=o/\o < nv
 | .close o _=>0<=o/\o < nv
theorem d0(h:cols[i]?=some us):dI o cols i=aF us (o+1):=by
 unfold dI;rw [ab5,h];rfl
theorem nV(o nt:Int)(cols:List (List Int))(i:Nat)(us:List Int)(h:cols[i]?=some us):jc o nt cols (i+1)=jc o nt cols i+if t9 o nt us=true then 1 else 0:=by
 unfold jc;rw [ac5,h,an0,ab4];congr 1
 by_cases hh:t9 o nt us=true
 ·simp [hh]
 ·simp [hh]
theorem Fs(nv:Nat)(cols:List (List Int))(R:c8)(hg:mY nv R):Walks (gB R) cols (λi=>oG cols i R) (λi=>gy cols i R):=by
 have prev:∀{i:Nat} {us:List Int},cols[i+1]?=some us->∃bs,cols[i]?=some bs/\ig cols (i+1)=some bs:=λ{i us} hu=>by
  have hi:i+1 < cols.length:=(aa1.mp hu).1;exact⟨cols[i],aa2 (),aa2 ()⟩
 cases R with
 | span o t D=>
  refine⟨rfl,λi us hu=>?_⟩;simp only [gB,fE,oG,gy,d0 hu]
  by_cases h:aF us (t+1) - aF us (o+1)∈D
  ·rw [if_pos h,decide_eq_true h];rfl
  ·rw [if_neg h,decide_eq_false h];rfl
 | clock o t h D=>
  refine⟨rfl,λi us hu=>?_⟩;simp only [gB,ef,oG,gy,d0 hu]
  by_cases h:(aF us (t+1) - aF us (o+1)) % h∈D
  ·rw [if_pos h,decide_eq_true h];rfl
  ·rw [if_neg h,decide_eq_false h];rfl
 | move o D=>
  refine⟨rfl,λi us hu=>?_⟩
  cases i with
  | zero=>rfl
  | succ i=>
   obtain⟨bs,hb,hp⟩:=prev hu;simp only [gB,f6,oG,gy,fW,d0 hu,ak2,d0 hb,hp]
   by_cases h:aF us (o+1) - aF bs (o+1)∈D
   ·rw [if_pos h,decide_eq_true h];simp
   ·rw [if_neg h,decide_eq_false h];simp
 | alike o t D=>
  refine⟨rfl,λi us hu=>?_⟩
  cases i with
  | zero=>rfl
  | succ i=>
   obtain⟨bs,hb,hp⟩:=prev hu;simp only [gB,eT,oG,gy,fW,d0 hu,ak2,d0 hb,hp]
   by_cases h0:aF us (o+1) - aF bs (o+1)=0
   ·simp [h0]
   by_cases h1:aF us (t+1) - aF us (o+1)=aF bs (t+1) - aF bs (o+1)
   ·by_cases h2:aF us (t+1) - aF us (o+1)∈D
    ·simp [h0,h1,h2]
    ·simp [h0,h1,h2]
   ·simp [h0,h1]
 | back o cX=>
  obtain⟨_,_,hf⟩:=hg;refine⟨rfl,λi us hu=>?_⟩
  cases i with
  | zero=>rfl
  | succ i=>
   obtain⟨bs,hb,hp⟩:=prev hu;show(dz (o+1) cX).after (yH o cX cols i) (ig cols (i+1)) us=if gy cols (i+1) (.back o cX)=true then none else some (yH o cX cols (i+1));rw [hp]
   have em:aF us (o+1) - aF bs (o+1)=fW o cols (i+1):=by unfold fW;rw [d0 hu,ak2,d0 hb]
   have eb:gy cols (i+1) (.back o cX)=(decide (2<=i+1) && (decide (fW o cols i > cX/\fW o cols (i+1)>=0) || decide (fW o cols i < 0 - cX/\fW o cols (i+1)<=0))):=rfl
   have el:(if fW o cols (i+1) > cX then some (1:Int)else if fW o cols (i+1) < 0 - cX then some 2 else some 0)=some (yH o cX cols (i+1)):=by
    have ez:yH o cX cols (i+1)=if fW o cols (i+1) > cX then 1 else if fW o cols (i+1) < 0 - cX then 2 else 0:=by
     unfold yH;rw [if_neg (show ¬(i+1=0)by omega)]
    rw [ez]
    by_cases h1:fW o cols (i+1) > cX
    ·rw [if_pos h1,if_pos h1]
    ·rw [if_neg h1,if_neg h1]
     by_cases h2:fW o cols (i+1) < 0 - cX
     ·rw [if_pos h2,if_pos h2]
     ·rw [if_neg h2,if_neg h2]
   simp only [dz];rw [em,el,eb];clear el eb em;generalize yH o cX cols (i+1)=y
   by_cases hi:i=0
   ·subst hi
    have e0:yH o cX cols 0=0:=rfl;rw [e0];simp
   have e1:yH o cX cols i=if fW o cols i > cX then 1 else if fW o cols i < 0 - cX then 2 else 0:=by
    unfold yH;rw [if_neg hi]
   rw [e1,decide_eq_true (show 2<=i+1 by omega),ai1];simp only [Int.zero_sub];generalize fW o cols i=a;generalize fW o cols (i+1)=c
   by_cases h1:a > cX
   ·have h2:¬(a < -cX):=by omega
    by_cases h3:0<=c
    ·simp [h1,h3]
    ·simp [h1,h2,h3]
   ·by_cases h2:a < -cX
    ·by_cases h3:c<=0
     ·simp [h1,h2,h3]
     ·simp [h1,h2,h3]
    ·simp [h1,h2]
 | held o most=>
  obtain⟨_,_,h1⟩:=hg;refine⟨rfl,λi us hu=>?_⟩
  cases i with
  | zero=>
   have:gy cols 0 (.held o most)=false:=decide_eq_false (by show ¬(most<=(0:Int));omega)
   rw [this];rfl
  | succ i=>
   obtain⟨bs,hb,hp⟩:=prev hu;show(eo (o+1) most).after (mx o cols i:Int) (ig cols (i+1)) us=if gy cols (i+1) (.held o most)=true then none else some (mx o cols (i+1):Int);rw [hp]
   have er:mx o cols (i+1)=if aF bs (o+1)=aF us (o+1)then mx o cols i+1 else 0:=by rw [<-d0 hb,<-d0 hu];rfl
   simp only [eo]
   by_cases h:aF bs (o+1)=aF us (o+1)
   ·rw [if_pos h]at er
    rw [if_pos h,er]
    by_cases h2:(mx o cols i:Int)+1 < most
    ·have eb:gy cols (i+1) (.held o most)=false:=by show decide (most<=((mx o cols (i+1):Nat):Int))=_;rw [er];exact decide_eq_false ()
     rw [if_pos h2,eb];rfl
    ·have eb:gy cols (i+1) (.held o most)=true:=by show decide (most<=((mx o cols (i+1):Nat):Int))=_;rw [er];exact decide_eq_true ()
     rw [if_neg h2,eb];rfl
   ·rw [if_neg h]at er
    have eb:gy cols (i+1) (.held o most)=false:=by show decide (most<=((mx o cols (i+1):Nat):Int))=_;rw [er];exact decide_eq_false ()
    rw [if_neg h,er,eb];rfl
 | times o nt lw hgh=>
  refine⟨rfl,λi us hu=>?_⟩;have hc:=nV o nt cols i us hu;simp only [gB,cW,oG,gy,d0 hu]
  by_cases h:aF us (o+1)=nt
  ·have hh:t9 o nt us=true:=decide_eq_true h
   rw [if_pos hh]at hc;rw [if_pos h,hc,decide_eq_true h]
   by_cases h2:(jc o nt cols i:Int) < hgh
   ·rw [if_pos h2,decide_eq_false ()]
    rfl
   ·rw [if_neg h2,decide_eq_true ()]
    rfl
  ·have hh:t9 o nt us=false:=decide_eq_false h
   rw [if_neg (by rw [hh];exact aa6)]at hc;rw [if_neg h,hc,decide_eq_false h];rfl
 | begin o D=>
  refine⟨rfl,λi us hu=>?_⟩
  cases i with
  | zero=>
   simp only [gB,ee,oG,gy,d0 hu,ig]
   by_cases h:aF us (o+1)∈D
   ·rw [if_pos h,decide_eq_true h];rfl
   ·rw [if_neg h,decide_eq_false h];rfl
  | succ i=>
   obtain⟨bs,hb,hp⟩:=prev hu;simp only [gB,ee,oG,gy,hp];simp
 | close o D=>
  exact⟨rfl,λi us hu=>rfl⟩
theorem Cq(nv:Nat)(cols:List (List Int))(R:c8)(hg:mY nv R)(i:Nat)(hi:i<=cols.length):(gB R).closes (oG cols i R) (ig cols i)=!Dc cols i R:=by
 cases R with
 | span o t D=>rfl
 | clock o t h D=>rfl
 | move o D=>rfl
 | alike o t D=>rfl
 | held o most=>rfl
 | begin o D=>rfl
 | times o nt lw hgh=>
  show decide ((jc o nt cols i:Int)>=lw)=!decide ((jc o nt cols i:Int) < lw)
  by_cases h:(jc o nt cols i:Int) < lw
  ·rw [decide_eq_true h,decide_eq_false ()];rfl
  ·rw [decide_eq_false h,decide_eq_true ()];rfl
 | close o D=>
  cases i with
  | zero=>rfl
  | succ i=>
   have hb:cols[i]?=some cols[i]:=aa2 ();show(eU (o+1) D).closes 0 cols[i]?=!(decide (i+1≠0) && !decide (dI o cols i∈D));rw [hb,d0 hb];simp [eU]
 | back o cX=>
  obtain⟨_,_,hf⟩:=hg
  cases i with
  | zero=>rfl
  | succ i=>
   show decide (yH o cX cols i=0)=!(decide (2<=i+1) && (decide (fW o cols i > cX) || decide (fW o cols i < 0 - cX)))
   by_cases h0:i=0
   ·subst h0;rfl
   have e1:yH o cX cols i=if fW o cols i > cX then 1 else if fW o cols i < 0 - cX then 2 else 0:=by
    unfold yH;rw [if_neg h0]
   rw [e1,decide_eq_true (show 2<=i+1 by omega),ai1];simp only [Int.zero_sub];generalize fW o cols i=a
   by_cases h1:a > cX
   ·simp [h1]
   ·by_cases h2:a < -cX
    ·simp [h1,h2]
    ·simp [h1,h2]
def E8:c8->List V
 | .span o t D=>.str "span"::((o+1)::(t+1)::D).map V.int
 | .clock o t h D=>.str "clock"::((o+1)::(t+1)::h::D).map V.int
 | .move o D=>.str "move"::((o+1)::D).map V.int
 | .alike o t D=>.str "alike"::((o+1)::(t+1)::D).map V.int
 | .back o cX=>.str "back"::[o+1,cX].map V.int
 | .held o most=>.str "held"::[o+1,most].map V.int
 | .times o nt lw hg=>.str "times"::[o+1,nt,lw,hg].map V.int
 | .begin o D=>.str "begin"::((o+1)::D).map V.int
 | .close o D=>.str "close"::((o+1)::D).map V.int
inductive aL where
 | plain (R:c8)
 | every (m a:Int) (R:c8)
def Ag:c8->Prop
 | .span _ _ _=>True
 | .clock _ _ _ _=>True
 | _=>False
def Hv:aL->List V
 | .plain R=>E8 R
 | .every m a R=>.str "every" :: .int m :: .int a::E8 R
def ja(cols:List (List Int))(i:Nat):aL->Bool
 | .plain R=>gy cols i R
 | .every m a R=>decide ((i:Int) % m=a) && gy cols i R
def cQ(nv:Nat):aL->Prop
 | .plain R=>mY nv R
 | .every m a R=>mY nv R/\Ag R/\1<=m/\0<=a/\a < m
theorem CB{CX:B6}{k:Nat}{ps:List Str}{sp sp':Sp}(F: ~~~aK CX k f fd ps sp)(G: ~~~aK CX k f fd ps sp'): ~~~aK CX k f fd ps (λvs H Q E=>sp vs H Q E\/sp' vs H Q E):=
 ⟨λA o s vs H Q E hr q=>q.elim (F.len A o s vs H Q E hr) (G.len A o s vs H Q E hr),λA outer s H args us vs Q E hr he hb hv hs=>hs.elim (F.run A outer s H args us vs Q E hr he hb hv) (G.run A outer s H args us vs Q E hr he hb hv)⟩
def dC:aL->Int
 | .plain R=>(gB R).size
 | .every m _ _=>m
def jj(cols:List (List Int)):aL->Bool
 | .plain R=>Dc cols cols.length R
 | .every _ _ _=>false
def cn:aL->bS
 | .plain R=>gB R
 | .every m a R=>eV m a (gB R)
def um(cols:List (List Int))(i:Nat):aL->Int
 | .plain R=>oG cols i R
 | .every m _ _=>(i:Int) % m
def FH:aL->Int->Prop
 | .plain R=>EF R
 | .every m _ _=>oF m
theorem Br(R:aL):(cn R).size=dC R:=by
 cases R<;>rfl
theorem Ah{b:Option (List Int)}(hu:cols[i]?=some us)(hi:Ag R):(gB R).after (gB R).start b us=if gy cols i R=true then none else some 0:=by
 cases R with
 | span o t D=>
  show(if aF us (t+1) - aF us (o+1)∈D then some 0 else none)=if (!decide (dI t cols i - dI o cols i∈D))=true then none else some 0;rw [d0 hu,d0 hu]
  by_cases h:aF us (t+1) - aF us (o+1)∈D
  ·rw [if_pos h,decide_eq_true h];rfl
  ·rw [if_neg h,decide_eq_false h];rfl
 | clock o t h D=>
  show(if (aF us (t+1) - aF us (o+1)) % h∈D then some 0 else none)=if (!decide ((dI t cols i - dI o cols i) % h∈D))=true then none else some 0;rw [d0 hu,d0 hu]
  by_cases h:(aF us (t+1) - aF us (o+1)) % h∈D
  ·rw [if_pos h,decide_eq_true h];rfl
  ·rw [if_neg h,decide_eq_false h];rfl
 | _=>exact hi.elim
theorem xT(nv:Nat)(cols:List (List Int))(R:aL)(hg:cQ nv R):Walks (cn R) cols (λi=>um cols i R) (λi=>ja cols i R):=by
 cases R with
 | plain R=>exact Fs nv cols R hg
 | every m a R=>
  obtain⟨hg,hin,m1,a0,a1⟩:=hg;refine⟨by show(0:Int)=((0:Nat):Int) % m;simp,λi us hu=>?_⟩
  have em:((i:Int) % m+1) % m=((i+1:Nat):Int) % m:=by
   rw [Int.emod_add_emod];rfl
  show(if (i:Int) % m=a then(if (gB R).after (gB R).start (ig cols i) us=none then none else some (((i:Int) % m+1) % m))else some (((i:Int) % m+1) % m))=if (decide ((i:Int) % m=a) && gy cols i R)=true then none else some (((i+1:Nat):Int) % m);rw [em,Ah hu hin]
  by_cases h:(i:Int) % m=a
  ·rw [if_pos h,decide_eq_true h,ai1]
   by_cases hb:gy cols i R=true
   ·rw [if_pos hb,if_pos rfl,if_pos hb]
   ·rw [if_neg hb,if_neg hb,if_neg (λz=>by cases z)]
  ·rw [if_neg h,decide_eq_false h,ah4]
   rfl
theorem sG{j:Nat}(h:j < i):dI o (cols.take i) j=dI o cols j:=by
 unfold dI;rw [ab5,ab5,ah6,if_pos h]
theorem Di(cols:List (List Int))(i:Nat)(hi:i<=cols.length)(R:c8):Dc (cols.take i) (cols.take i).length R=Dc cols i R:=by
 have hl:(cols.take i).length=i:=by rw [ac3];omega
 rw [hl]
 cases R with
 | times o nt lw hgh=>
  show decide ((jc o nt (cols.take i) i:Int) < lw)=decide ((jc o nt cols i:Int) < lw)
  have:jc o nt (cols.take i) i=jc o nt cols i:=by
   unfold jc;rw [List.take_take,Nat.min_self]
  rw [this]
 | close o D=>
  cases i with
  | zero=>rfl
  | succ i=>
   show(decide (i+1≠0) && !decide (dI o (cols.take (i+1)) (i+1 - 1)∈D))=(decide (i+1≠0) && !decide (dI o cols (i+1 - 1)∈D));rw [sG ()]
 | back o cX=>
  show(decide (2<=i) && (decide (fW o (cols.take i) (i - 1) > cX) || decide (fW o (cols.take i) (i - 1) < 0 - cX)))=(decide (2<=i) && (decide (fW o cols (i - 1) > cX) || decide (fW o cols (i - 1) < 0 - cX)))
  by_cases h2:2<=i
  ·have:fW o (cols.take i) (i - 1)=fW o cols (i - 1):=by
    unfold fW;rw [sG (),sG ()]
   rw [this]
  ·rw [decide_eq_false h2,ah4,ah4]
 | _=>rfl
theorem zL(nv:Nat)(cols:List (List Int))(R:aL)(hg:cQ nv R)(i:Nat)(hi:i<=cols.length):(cn R).closes (um cols i R) (ig cols i)=!jj (cols.take i) R:=by
 cases R with
 | plain R=>
  show(gB R).closes (oG cols i R) (ig cols i)=!Dc (cols.take i) (cols.take i).length R;rw [Di cols i hi];exact Cq nv cols R hg i hi
 | every m a R=>rfl
def aR:c8->Str
 | .span _ _ _=>"span"
 | .clock _ _ _ _=>"clock"
 | .move _ _=>"move"
 | .alike _ _ _=>"alike"
 | .back _ _=>"back"
 | .held _ _=>"held"
 | .times _ _ _ _=>"times"
 | .begin _ _=>"begin"
 | .close _ _=>"close"
def de:c8->List Int
 | .span o t D=>(o+1)::(t+1)::D
 | .clock o t h D=>(o+1)::(t+1)::h::D
 | .move o D=>(o+1)::D
 | .alike o t D=>(o+1)::(t+1)::D
 | .back o cX=>[o+1,cX]
 | .held o most=>[o+1,most]
 | .times o nt lw hg=>[o+1,nt,lw,hg]
 | .begin o D=>(o+1)::D
 | .close o D=>(o+1)::D
theorem GU(R:c8):E8 R=.str (aR R)::(de R).map V.int:=by
 cases R<;>rfl
def xk:c8->Prop
 | .span _ _ D=>1<=D.length/\D.length<=12
 | .clock _ _ _ D=>1<=D.length/\D.length<=12
 | .move _ D=>1<=D.length/\D.length<=12
 | .alike _ _ D=>1<=D.length/\D.length<=12
 | .times _ _ lw _=>0<=lw
 | .begin _ D=>1<=D.length/\D.length<=12
 | .close _ D=>1<=D.length/\D.length<=12
 | _=>True
def Cb(R:c8):Prop:=(∀n∈de R,n.natAbs < 10 ^ 40)/\xk R
def uz:aL->Prop
 | .plain R=>Cb R
 | .every m a R=>Cb R/\m.natAbs < 10 ^ 40/\a.natAbs < 10 ^ 40
theorem uy(h:Cb R):(de R).length<=20:=by
 have hl:=h.2
 cases R<;>simp only [de,xk,ad6,List.length_nil]at hl |-<;>omega
def lZ(RI:mV):Prop:=∀(r:Addr) (H:Hp) (z:Addr) (xs:List Addr) (ys:List V),RI r H->H z=some (.lst (xs.map V.ref))->RI r (upd H z (.lst ys))
def gL(P:Program)(w:World)(K:Frag)(mg:Str->Option Value)(base:Heap)(nv:Nat)(R:aL)(r:Addr)(H:Hp):Prop:=∃(C:Addr) (RI:mV),~~~bt 7 nv C (cn R) RI (FH R)/\lZ RI/\RI r H
theorem gL.same{R:aL}{r:Addr}(s:av H H')(h: ~~~gL nv R r H): ~~~gL nv R r H':=by
 obtain⟨C,RI,h1,h0,h2⟩:=h;exact⟨C,RI,h1,h0,h1.mono _ _ _ s h2⟩
theorem gL.stab{R:aL}{r:Addr}{xs:List Addr}{ys:List V}(h: ~~~gL nv R r H)(hz:H z=some (.lst (xs.map V.ref))): ~~~gL nv R r (upd H z (.lst ys)):=by
 obtain⟨C,RI,h1,h0,h2⟩:=h;exact⟨C,RI,h1,h0,h0 _ _ _ _ _ h2 hz⟩
def Cf(P:Program)(w:World)(K:Frag)(mg:Str->Option Value)(base:Heap)(nv:Nat)(H:Hp)(b:Addr)(Rs:List aL):Prop:=∃rs:List Addr,aH K H b (rs.map V.ref)/\rs.length=Rs.length/\∀(j:Nat) (r:Addr) (R:aL),rs[j]?=some r->Rs[j]?=some R->~~~gL nv R r H
def jG(P:Program)(w:World)(K:Frag)(mg:Str->Option Value)(base:Heap)(C:Addr)(nv:Nat)(bs:List (Int×Int))(Rs:List aL)(x:Addr)(H:Hp):Prop:=∃(dx a b:Addr),H x=some (.ins C dx (dQ a b))/\bT K H a bs/\~~~Cf nv H b Rs
def hJ(bs:List (Int×Int))(Rs:List aL):Int:=Rs.foldl (λt R=>t * dC R) (xU bs)
def pL(P:Program)(w:World)(K:Frag)(mg:Str->Option Value)(base:Heap)(C:Addr):Sp:=λvs H Q _=>∃(x:Addr) (nv:Nat) (bs:List (Int×Int)) (Rs:List aL),vs=[.ref x]/\~~~jG C nv bs Rs x H/\bs.length<=100/\Rs.length<=100/\(∀b∈bs,(ik b).natAbs < 2 ^ 60)/\(∀R∈Rs,(dC R).natAbs < 2 ^ 60)/\hJ bs Rs<=400/\Q (.ref x) H
theorem jG.toM{Rs:List aL}(h: ~~~jG C nv bs Rs x H): ~~~r6 C nv bs (Rs.map cn) (Rs.map FH) x H:=by
 obtain⟨dx,a,b,h1,h2,rs,h3,h4,h5⟩:=h;refine⟨dx,a,b,rs,h1,h2,⟨h3,by rw [aa0,h4],by rw [aa0,aa0],λj r S G e1 e2 e3=>?_⟩⟩;rw [aa4]at e2 e3
 cases hR:Rs[j]? with
 | none=>rw [hR]at e2;cases e2
 | some R=>
  rw [hR]at e2 e3;cases e2;cases e3;obtain⟨C,RI,g1,_,g2⟩:=h5 j r R e1 hR;exact⟨C,RI,g1,g2⟩
theorem Ft(bs:List (Int×Int))(Rs:List aL):GY bs (Rs.map cn)=hJ bs Rs:=by
 unfold GY hJ;rw [List.foldl_map];simp only [Br]
theorem Ei{a:Int}(h:a.natAbs < 2 ^ 60):a.natAbs < 2 ^ 200:=Nat.lt_trans h (by decide +kernel)
theorem yL:∀vs H Q E,~~~pL C vs H Q E->~~~rN C vs H Q E:=λvs H Q E zq=>by
 obtain⟨x,nv,bs,Rs,h1,h3,l1,l2,h4,h5,h6,h7⟩:=zq
 exact⟨x,nv,bs,Rs.map cn,Rs.map FH,h1,h3.toM,l1,by rw [aa0];exact l2,λb hb=>Ei (h4 b hb),λS hS=>by
  obtain⟨R,hR,rfl⟩:=ac4.mp hS;rw [Br]
  exact Ei (h5 R hR),by rw [Ft];exact h6,h7⟩
def FI(P:Program)(w:World)(K:Frag)(mg:Str->Option Value)(base:Heap)(Dt:List (Str×V))(nv:Nat)(R:c8):Prop:=∃(f C:Addr) (sp:Sp) (RI:Str->mV),KTD.datumAt (aR R) Dt=↑f/\~~~fF 7 f ["row","numbers","voices"] sp/\
 (∀(row:Str) (q:Addr) (H':Hp) (Q':VK),H' q=some (.lst ((de R).map V.int))->(∀r H'',av H' H''->RI row r H''->Q' (.ref r) H'')->sp [.str row,.ref q,.int nv] H' Q' E0)/\
 (∀row,~~~bt 7 nv C (gB R) (RI row) (EF R))/\(Ag R->∀row,~~~bt 4 nv C (gB R) (RI row) (EF R))/\∀row,lZ (RI row)
theorem qE{T0:Addr}(F:rX K "read_rule" "read_rule" gK f fd T0)(T:Txt mg aM)(D_plain_rule: ~~~cy "plain_rule" 9 ["row","voices"] (~~~lU aM 7)): ~~~aK bP 10 f fd ["text","voices","row"] (~~~Bu aM 7):=by
 refine F.ok sc_read_rule λ_ A _ s H vs Q E hr h=>?_;obtain⟨row,kind,ns,nv,z,D,g,sp,Res,rfl,R,hk,tab,hg,fn,k,kq⟩:=h
 refine⟨rfl,_,(ah (cN (i:=3) sc_read_rule.nd (dc (bf (cf K PySem.F.plainAttrs_str PySem.F.slot_str_startswith PySem.F.type_str_startswith gO (pr 0) (aa ba ag)) (λ_=>rfl)) A8 (aA D_plain_rule hr ⋯ (aa (pr 0) (aa (pr 1) ag)))))
 (ah (aO (aY (ay fL (pr 3) bc (az _))) (ai lG) aC)
 (ai (ar (pr 3))))),?_⟩
 tm_at "r";rw [wJ row _ (c:=101) (by decide +kernel) (by rw [R.head];exact hk),if_neg aa6];refine⟨row,kind,ns,nv,D,g,sp,Res,rfl,R,tab,hg,fn,k,λv H' hv=>?_⟩;obtain⟨hn,q⟩:=kq v H' hv;rw [if_neg hn];exact q
theorem jN{n:Addr}{xs:List Addr}(hD:1<=D.length)(hn:H n=some (.lst (D.map V.int)))(hz:H z=some (.lst (xs.map V.ref))):n≠z:=λe=>by
 subst e;rw [hn]at hz
 cases D with
 | nil=>simp at hD
 | cons d D=>
  cases xs with
  | nil=>cases hz
  | cons x xs=>cases hz
theorem zh(hD:1<=D.length):lZ (i9 C row x1 x2 D):=λr H z zs ys h hz=>by
 obtain⟨dx,n,h1,h2⟩:=h;exact⟨dx,n,by rw [aj (dF h1 hz (λe=>by cases e))];exact h1,by rw [aj (jN hD h2 hz)];exact h2⟩
theorem wD(hD:1<=D.length):lZ (gE C row x1 x2 x3 D):=λr H z zs ys h hz=>by
 obtain⟨dx,n,h1,h2⟩:=h;exact⟨dx,n,by rw [aj (dF h1 hz (λe=>by cases e))];exact h1,by rw [aj (jN hD h2 hz)];exact h2⟩
theorem zg(hD:1<=D.length):lZ (i8 C row x1 D):=λr H z zs ys h hz=>by
 obtain⟨dx,n,h1,h2⟩:=h;exact⟨dx,n,by rw [aj (dF h1 hz (λe=>by cases e))];exact h1,by rw [aj (jN hD h2 hz)];exact h2⟩
theorem wB(hD:1<=D.length):lZ (gC C row x1 x2 D):=λr H z zs ys h hz=>by
 obtain⟨dx,n,h1,h2⟩:=h;exact⟨dx,n,by rw [aj (dF h1 hz (λe=>by cases e))];exact h1,by rw [aj (jN hD h2 hz)];exact h2⟩
theorem ze:lZ (gh C row x1 x2):=λr H z zs ys h hz=>by
 obtain⟨dx,h1⟩:=h;exact⟨dx,by rw [aj (dF h1 hz (λe=>by cases e))];exact h1⟩
theorem zf:lZ (gi C row x1 x2):=λr H z zs ys h hz=>by
 obtain⟨dx,h1⟩:=h;exact⟨dx,by rw [aj (dF h1 hz (λe=>by cases e))];exact h1⟩
theorem wH:lZ (du C row x1 x2 x3 x4):=λr H z zs ys h hz=>by
 obtain⟨dx,h1⟩:=h;exact⟨dx,by rw [aj (dF h1 hz (λe=>by cases e))];exact h1⟩
theorem wC(hD:1<=D.length):lZ (gD C row x1 D):=λr H z zs ys h hz=>by
 obtain⟨dx,n,h1,h2⟩:=h;exact⟨dx,n,by rw [aj (dF h1 hz (λe=>by cases e))];exact h1,by rw [aj (jN hD h2 hz)];exact h2⟩
theorem wF(hD:1<=D.length):lZ (gF C row x1 D):=λr H z zs ys h hz=>by
 obtain⟨dx,n,h1,h2⟩:=h;exact⟨dx,n,by rw [aj (dF h1 hz (λe=>by cases e))];exact h1,by rw [aj (jN hD h2 hz)];exact h2⟩
theorem wG(h:lZ RIn):lZ (fB C row t u RIn):=λr H z zs ys hr hz=>by
 obtain⟨dx,ri,h1,h2⟩:=hr;exact⟨dx,ri,by rw [aj (dF h1 hz (λe=>by cases e))];exact h1,h _ _ _ _ _ h2 hz⟩
theorem Gb{f_span C_Span:Addr}{f_clock C_Clock:Addr}{f_move C_Move:Addr}{f_alike C_Alike:Addr}{f_back C_Back:Addr}{f_held C_Held:Addr}{f_times C_Times:Addr}{f_begin C_Begin:Addr}{f_close C_Close:Addr}
  (hd_span:KTD.datumAt ("span":Str) Dt=↑f_span) (fn_span: ~~~fF 7 f_span ["row","numbers","voices"] (pR K C_Span)) (RO_span:∀(row:Str) (x1 x2:Int) (D:List Int) (nv:Nat),(1<=x1/\x1<=nv)->(1<=x2/\x2<=nv)->~~~bt 4 nv C_Span (fE x1 x2 D) (i9 C_Span row x1 x2 D) λ_=>True)
  (hd_clock:KTD.datumAt ("clock":Str) Dt=↑f_clock) (fn_clock: ~~~fF 7 f_clock ["row","numbers","voices"] (mP K C_Clock)) (RO_clock:∀(row:Str) (x1 x2 x3:Int) (D:List Int) (nv:Nat),(1<=x1/\x1<=nv)->(1<=x2/\x2<=nv)->1<=x3->~~~bt 4 nv C_Clock (ef x1 x2 x3 D) (gE C_Clock row x1 x2 x3 D) λ_=>True)
  (hd_move:KTD.datumAt ("move":Str) Dt=↑f_move) (fn_move: ~~~fF 7 f_move ["row","numbers","voices"] (pK K C_Move)) (RO_move:∀(row:Str) (x1:Int) (D:List Int) (nv:Nat),(1<=x1/\x1<=nv)->~~~bt 7 nv C_Move (f6 x1 D) (i8 C_Move row x1 D) λ_=>True)
  (hd_alike:KTD.datumAt ("alike":Str) Dt=↑f_alike) (fn_alike: ~~~fF 7 f_alike ["row","numbers","voices"] (mM K C_Alike)) (RO_alike:∀(row:Str) (x1 x2:Int) (D:List Int) (nv:Nat),(1<=x1/\x1<=nv)->(1<=x2/\x2<=nv)->~~~bt 7 nv C_Alike (eT x1 x2 D) (gC C_Alike row x1 x2 D) λ_=>True)
  (hd_back:KTD.datumAt ("back":Str) Dt=↑f_back) (fn_back: ~~~fF 7 f_back ["row","numbers","voices"] (pG K C_Back)) (RO_back:∀(row:Str) (x1 x2:Int) (nv:Nat),(1<=x1/\x1<=nv)->0<=x2->~~~bt 7 nv C_Back (dz x1 x2) (gh C_Back row x1 x2) lq)
  (hd_held:KTD.datumAt ("held":Str) Dt=↑f_held) (fn_held: ~~~fF 7 f_held ["row","numbers","voices"] (pI K C_Held)) (RO_held:∀(row:Str) (x1 x2:Int) (nv:Nat),(1<=x1/\x1<=nv)->1<=x2->~~~bt 7 nv C_Held (eo x1 x2) (gi C_Held row x1 x2) (rC x2))
  (hd_times:KTD.datumAt ("times":Str) Dt=↑f_times) (fn_times: ~~~fF 7 f_times ["row","numbers","voices"] (mS K C_Times)) (RO_times:∀(row:Str) (x1 x2 x3 x4:Int) (nv:Nat),(1<=x1/\x1<=nv)->0<=x4->~~~bt 7 nv C_Times (cW x1 x2 x3 x4) (du C_Times row x1 x2 x3 x4) (lu x4))
  (hd_begin:KTD.datumAt ("begin":Str) Dt=↑f_begin) (fn_begin: ~~~fF 7 f_begin ["row","numbers","voices"] (mO K C_Begin)) (RO_begin:∀(row:Str) (x1:Int) (D:List Int) (nv:Nat),(1<=x1/\x1<=nv)->~~~bt 7 nv C_Begin (ee x1 D) (gD C_Begin row x1 D) λ_=>True)
  (hd_close:KTD.datumAt ("close":Str) Dt=↑f_close) (fn_close: ~~~fF 7 f_close ["row","numbers","voices"] (mQ K C_Close)) (RO_close:∀(row:Str) (x1:Int) (D:List Int) (nv:Nat),(1<=x1/\x1<=nv)->~~~bt 7 nv C_Close (eU x1 D) (gF C_Close row x1 D) λ_=>True)
  (nv:Nat) (R:c8) (hg:mY nv R) (hl:xk R): ~~~FI Dt nv R:=by
 cases R with
 | span o t D=>
  obtain⟨o0,o1,t0,t1⟩:=hg;exact⟨f_span,C_Span,_,λrow=>i9 C_Span row (o+1) (t+1) D,hd_span,fn_span,λrow q H' Q' hq k=>⟨q,row,(o+1),(t+1),D,nv,rfl,aH.of hq,(),(),(),(),hl.1,hl.2,k⟩,λrow=>(RO_span row (o+1) (t+1) D nv ⟨(),()⟩ ⟨(),()⟩).up ∅,λ_ row=>RO_span row (o+1) (t+1) D nv ⟨(),()⟩ ⟨(),()⟩,λrow=>zh (D:=D) hl.1⟩
 | clock o t h D=>
  obtain⟨o0,o1,t0,t1,h1⟩:=hg;exact⟨f_clock,C_Clock,_,λrow=>gE C_Clock row (o+1) (t+1) h D,hd_clock,fn_clock,λrow q H' Q' hq k=>⟨q,row,(o+1),(t+1),h,D,nv,rfl,aH.of hq,(),(),(),(),h1,hl.1,hl.2,k⟩,λrow=>(RO_clock row (o+1) (t+1) h D nv ⟨(),()⟩ ⟨(),()⟩ h1).up ∅,λ_ row=>RO_clock row (o+1) (t+1) h D nv ⟨(),()⟩ ⟨(),()⟩ h1,λrow=>wD (D:=D) hl.1⟩
 | move o D=>
  obtain⟨o0,o1⟩:=hg;exact⟨f_move,C_Move,_,λrow=>i8 C_Move row (o+1) D,hd_move,fn_move,λrow q H' Q' hq k=>⟨q,row,(o+1),D,nv,rfl,aH.of hq,(),(),hl.1,hl.2,k⟩,λrow=>RO_move row (o+1) D nv ⟨(),()⟩,λz=>z.elim,λrow=>zg (D:=D) hl.1⟩
 | alike o t D=>
  obtain⟨o0,o1,t0,t1⟩:=hg;exact⟨f_alike,C_Alike,_,λrow=>gC C_Alike row (o+1) (t+1) D,hd_alike,fn_alike,λrow q H' Q' hq k=>⟨q,row,(o+1),(t+1),D,nv,rfl,aH.of hq,(),(),(),(),hl.1,hl.2,k⟩,λrow=>RO_alike row (o+1) (t+1) D nv ⟨(),()⟩ ⟨(),()⟩,λz=>z.elim,λrow=>wB (D:=D) hl.1⟩
 | back o cX=>
  obtain⟨o0,o1,f0⟩:=hg;exact⟨f_back,C_Back,_,λrow=>gh C_Back row (o+1) cX,hd_back,fn_back,λrow q H' Q' hq k=>⟨q,row,(o+1),cX,nv,rfl,aH.of hq,(),(),f0,k⟩,λrow=>RO_back row (o+1) cX nv ⟨(),()⟩ f0,λz=>z.elim,λrow=>ze⟩
 | held o most=>
  obtain⟨o0,o1,f0⟩:=hg;exact⟨f_held,C_Held,_,λrow=>gi C_Held row (o+1) most,hd_held,fn_held,λrow q H' Q' hq k=>⟨q,row,(o+1),most,nv,rfl,aH.of hq,(),(),f0,k⟩,λrow=>RO_held row (o+1) most nv ⟨(),()⟩ f0,λz=>z.elim,λrow=>zf⟩
 | times o nt lw hgh=>
  obtain⟨o0,o1,f0⟩:=hg;exact⟨f_times,C_Times,_,λrow=>du C_Times row (o+1) nt lw hgh,hd_times,fn_times,λrow q H' Q' hq k=>⟨q,row,(o+1),nt,lw,hgh,nv,rfl,aH.of hq,(),(),hl,f0,k⟩,λrow=>RO_times row (o+1) nt lw hgh nv ⟨(),()⟩ f0,λz=>z.elim,λrow=>wH⟩
 | begin o D=>
  obtain⟨o0,o1⟩:=hg;exact⟨f_begin,C_Begin,_,λrow=>gD C_Begin row (o+1) D,hd_begin,fn_begin,λrow q H' Q' hq k=>⟨q,row,(o+1),D,nv,rfl,aH.of hq,(),(),hl.1,hl.2,k⟩,λrow=>RO_begin row (o+1) D nv ⟨(),()⟩,λz=>z.elim,λrow=>wC (D:=D) hl.1⟩
 | close o D=>
  obtain⟨o0,o1⟩:=hg;exact⟨f_close,C_Close,_,λrow=>gF C_Close row (o+1) D,hd_close,fn_close,λrow q H' Q' hq k=>⟨q,row,(o+1),D,nv,rfl,aH.of hq,(),(),hl.1,hl.2,k⟩,λrow=>RO_close row (o+1) D nv ⟨(),()⟩,λz=>z.elim,λrow=>wF (D:=D) hl.1⟩
def dk:aL->Str
 | .plain R=>Txt.join (Str.ofString " ") (aR R::(de R).map aW)
 | .every m a R=>Txt.join (Str.ofString " ") (Str.ofString "every"::aW m::aW a::aR R::(de R).map aW)
theorem gI(R:c8):(aR R).length<=20/\32∉(aR R).cps.toList/\(aR R).cps.toList≠[]/\(aR R).cps.toList.head?≠some 101:=by
 cases R with
 | span _ _ _=>exact show(Str.ofString "span").length<=20/\32∉(Str.ofString "span").cps.toList/\(Str.ofString "span").cps.toList≠[]/\(Str.ofString "span").cps.toList.head?≠some 101 from⟨by decide +kernel,by decide +kernel,by decide +kernel,by decide +kernel⟩
 | clock _ _ _ _=>exact show(Str.ofString "clock").length<=20/\32∉(Str.ofString "clock").cps.toList/\(Str.ofString "clock").cps.toList≠[]/\(Str.ofString "clock").cps.toList.head?≠some 101 from⟨by decide +kernel,by decide +kernel,by decide +kernel,by decide +kernel⟩
 | move _ _=>exact show(Str.ofString "move").length<=20/\32∉(Str.ofString "move").cps.toList/\(Str.ofString "move").cps.toList≠[]/\(Str.ofString "move").cps.toList.head?≠some 101 from⟨by decide +kernel,by decide +kernel,by decide +kernel,by decide +kernel⟩
 | alike _ _ _=>exact show(Str.ofString "alike").length<=20/\32∉(Str.ofString "alike").cps.toList/\(Str.ofString "alike").cps.toList≠[]/\(Str.ofString "alike").cps.toList.head?≠some 101 from⟨by decide +kernel,by decide +kernel,by decide +kernel,by decide +kernel⟩
 | back _ _=>exact show(Str.ofString "back").length<=20/\32∉(Str.ofString "back").cps.toList/\(Str.ofString "back").cps.toList≠[]/\(Str.ofString "back").cps.toList.head?≠some 101 from⟨by decide +kernel,by decide +kernel,by decide +kernel,by decide +kernel⟩
 | held _ _=>exact show(Str.ofString "held").length<=20/\32∉(Str.ofString "held").cps.toList/\(Str.ofString "held").cps.toList≠[]/\(Str.ofString "held").cps.toList.head?≠some 101 from⟨by decide +kernel,by decide +kernel,by decide +kernel,by decide +kernel⟩
 | times _ _ _ _=>exact show(Str.ofString "times").length<=20/\32∉(Str.ofString "times").cps.toList/\(Str.ofString "times").cps.toList≠[]/\(Str.ofString "times").cps.toList.head?≠some 101 from⟨by decide +kernel,by decide +kernel,by decide +kernel,by decide +kernel⟩
 | begin _ _=>exact show(Str.ofString "begin").length<=20/\32∉(Str.ofString "begin").cps.toList/\(Str.ofString "begin").cps.toList≠[]/\(Str.ofString "begin").cps.toList.head?≠some 101 from⟨by decide +kernel,by decide +kernel,by decide +kernel,by decide +kernel⟩
 | close _ _=>exact show(Str.ofString "close").length<=20/\32∉(Str.ofString "close").cps.toList/\(Str.ofString "close").cps.toList≠[]/\(Str.ofString "close").cps.toList.head?≠some 101 from⟨by decide +kernel,by decide +kernel,by decide +kernel,by decide +kernel⟩
theorem nQ(h:Cb R):gj (Txt.join (Str.ofString " ") (aR R::(de R).map aW)) (aR R) (de R):=Bo h.1 (uy h) (gI R).2.1 (gI R).1 (gI R).2.2.1
theorem DB{m a:Int}(h:Cb R)(hm:m.natAbs < 10 ^ 40)(ha:a.natAbs < 10 ^ 40):nT (dk (.every m a R)) (Txt.join (Str.ofString " ") (aR R::(de R).map aW)) m a:=by
 have e32:(Str.ofString " ")=⟨#[32]⟩:=by decide +kernel
 refine⟨?_,hm,ha,(nQ h).len⟩;show(Txt.join (Str.ofString " ") (Str.ofString "every"::aW m::aW a::aR R::(de R).map aW)).cps.toList=_;rw [e32,cZ,cZ];simp only [ad0];rw [ml,ml,ml];rfl
def jD(P:Program)(w:World)(K:Frag)(mg:Str->Option Value)(base:Heap):Sp:=λvs H Q _=>∃(z:Int) (R:aL) (nv:Nat),vs=[.str (dk R),.int nv,.int z]/\cQ nv R/\uz R/\∀(r:Addr) H',~~~gL nv R r H'->av H H'->Q (.ref r) H'
theorem yR{CE:Addr}(F: ~~~aK bP 10 f fd ["text","voices","row"] (~~~Bu aM 7))(G: ~~~aK bP 10 f fd ["text","voices","row"] (~~~xE aM CE 7))(tab:l6 K aM Dt)(MD:∀(nv:Nat) (R:c8),mY nv R->xk R->~~~FI Dt nv R)
  (RO:∀(row:Str) (t u:Int) (nv:Nat) (Cn:Addr) (S:bS) (RIn:mV) (G:Int->Prop),0 < t->~~~bt 4 nv Cn S RIn G->~~~bt 7 nv CE (eV t u S) (fB CE row t u RIn) (oF t)) :
  ~~~aK bP 10 f fd ["text","voices","row"] (~~~jD):=by
 refine(CB F G).imp λvs H Q E h=>?_;obtain⟨z,R,nv,rfl,hg,ho,q⟩:=h
 cases R with
 | plain R=>
  obtain⟨f,C,sp,RI,hd,fn,mk,ro,_,sb⟩:=MD nv R hg ho.2;refine .inl ⟨_,aR R,de R,nv,z,Dt,f,sp,λv H'=>∃r,v=.ref r/\av H H'/\RI (dk (.plain R)) r H',rfl,nQ ho,(gI R).2.2.2,tab,hd,fn,λq H' Q' s hq k=>mk _ q H' Q' hq λr H'' s' hr=>k _ _ ⟨r,rfl,s.trans s',hr⟩,?_⟩;rintro v H' ⟨r,rfl,s,hr⟩;exact⟨λz=>(by cases z),q r H' ⟨C,RI (dk (.plain R)),ro _,sb _,hr⟩ s⟩
 | every m a R=>
  obtain⟨hg,hin,m1,a0,a1⟩:=hg;obtain⟨ho,hm,ha⟩:=ho;obtain⟨f,C,sp,RI,hd,fn,mk,_,ro,sb⟩:=MD nv R hg ho.2
  have hk:aR R=Str.ofString "span"\/aR R=Str.ofString "clock":=by
   cases R with
   | span o t D=>exact .inl rfl
   | clock o t h D=>exact .inr rfl
   | _=>exact hin.elim
  have re:=DB ho hm ha;have r4:=ro hin (Txt.join (Str.ofString " ") (aR R::(de R).map aW));refine .inr ⟨_,nv,z,rfl,⟨_,_,_,re⟩,_,_,aR R,m,a,de R,nv,Dt,f,sp,RI (Txt.join (Str.ofString " ") (aR R::(de R).map aW)),rfl,re,nQ ho,hk,a0,a1,tab,hd,fn,λq H' Q' s hq k=>mk _ q H' Q' hq λr H'' s' hr=>k _ _ (s.trans s') hr,r4.mono,λr H' s hr=>⟨λz=>(by cases z),q r H' ⟨CE,_,RO _ m a nv C _ _ _ () r4,wG (sb _),hr⟩ s⟩⟩
theorem ni{c:Nat}(hc:c < 256)(h:ws≠[])(hn:∀z∈ws,c∉z.cps.toList):Txt.split (Txt.join ⟨#[c]⟩ ws) ⟨#[c]⟩=ws:=by
 refine fC ?_;rw [jE _ hc,cZ,pT c _ (by simpa using h) (λp hp=>?_)];obtain⟨z,hz,rfl⟩:=ac4.mp hp;exact hn z hz
def xH(K:Frag):Sp:=λvs H Q _=>∃row:Str,vs=[.str row]/\row.length<=10000/\((∃lo hi:Int,gj row (Str.ofString "voice") [lo,hi]/\lo<=hi/\∀p H',H' p=some (.tup [.int lo,.int hi])->av H H'->Q (.ref p) H')\/∃w0 ws,Txt.split row ⟨#[32]⟩=w0::ws/\w0≠Str.ofString "voice"/\∀H',av H H'->Q .non H')
def tP(P:Program)(w:World)(K:Frag)(mg:Str->Option Value)(base:Heap)(C:Addr):Sp:=λvs H Q _=>∃(text:Str) (bs:List (Int×Int)) (vr:Int×Int->Str) (Rs:List aL),vs=[.str text]/\text.length<=1000000/\Txt.split text ⟨#[10]⟩=bs.map vr++Rs.map dk/\1<=bs.length/\bs.length<=4/\Rs.length<=12/\
 (∀b∈bs,gj (vr b) (Str.ofString "voice") [b.1,b.2]/\b.1<=b.2/\(ik b).natAbs < 2 ^ 60)/\(∀R∈Rs,cQ bs.length R/\uz R/\(dC R).natAbs < 2 ^ 60)/\hJ bs Rs<=400/\∀x H',~~~jG C bs.length bs Rs x H'->av H H'->Q (.ref x) H'
theorem f7(R:aL)(h:uz R):(dk R).length<=10000/\∃w0 ws,Txt.split (dk R) ⟨#[32]⟩=w0::ws/\w0≠Str.ofString "voice":=by
 cases R with
 | plain R=>
  have hr:=nQ h;refine⟨hr.len,aR R,(de R).map aW,hr.split,?_⟩
  cases R with
  | span _ _ _=>exact show Str.ofString "span"≠Str.ofString "voice" by decide +kernel
  | clock _ _ _ _=>exact show Str.ofString "clock"≠Str.ofString "voice" by decide +kernel
  | move _ _=>exact show Str.ofString "move"≠Str.ofString "voice" by decide +kernel
  | alike _ _ _=>exact show Str.ofString "alike"≠Str.ofString "voice" by decide +kernel
  | back _ _=>exact show Str.ofString "back"≠Str.ofString "voice" by decide +kernel
  | held _ _=>exact show Str.ofString "held"≠Str.ofString "voice" by decide +kernel
  | times _ _ _ _=>exact show Str.ofString "times"≠Str.ofString "voice" by decide +kernel
  | begin _ _=>exact show Str.ofString "begin"≠Str.ofString "voice" by decide +kernel
  | close _ _=>exact show Str.ofString "close"≠Str.ofString "voice" by decide +kernel
 | every m a R=>
  obtain⟨h,hm,ha⟩:=h
  have e32:(Str.ofString " ")=⟨#[32]⟩:=by decide +kernel
  have nn:∀n:Int,32∉(aW n).cps.toList:=λn=>nN n
  have hw:∀z∈(Str.ofString "every"::aW m::aW a::aR R::(de R).map aW),32∉z.cps.toList:=λz hz=>by
   rcases ab0.mp hz with rfl | hz
   ·decide +kernel
   rcases ab0.mp hz with rfl | hz
   ·exact nn m
   rcases ab0.mp hz with rfl | hz
   ·exact nn a
   rcases ab0.mp hz with rfl | hz
   ·exact(gI R).2.1
   ·obtain⟨n,_,rfl⟩:=ac4.mp hz
    exact nn n
  refine⟨?_,Str.ofString "every",aW m::aW a::aR R::(de R).map aW,?_,by decide +kernel⟩
  ·show(Txt.join (Str.ofString " ") (Str.ofString "every"::aW m::aW a::aR R::(de R).map aW)).length<=10000
   rw [bq,e32,cZ]
   have hl:=jO 32 ((Str.ofString "every"::aW m::aW a::aR R::(de R).map aW).map λz=>z.cps.toList) 60 (λp hp=>by
    obtain⟨z,hz,rfl⟩:=ac4.mp hp;rw [<-bq];rcases ab0.mp hz with rfl | hz
    ·decide +kernel
    rcases ab0.mp hz with rfl | hz
    ·have:=dG hm;omega
    rcases ab0.mp hz with rfl | hz
    ·have:=dG ha;omega
    rcases ab0.mp hz with rfl | hz
    ·have:=(gI R).1;omega
    ·obtain⟨n,hn,rfl⟩:=ac4.mp hz
     have:=dG (h.1 n hn);omega)
   have:=uy h
   simp only [aa0,ad6]at hl;omega
  ·show Txt.split (Txt.join (Str.ofString " ") (Str.ofString "every"::aW m::aW a::aR R::(de R).map aW)) ⟨#[32]⟩=_
   rw [e32];exact ni ∅ (by simp) hw
theorem oU(F:bV K "voice_range" "voice_range" g7 f fd)(T:Txt mg aM)(D_is_number: ~~~cy "is_number" 1 ["word"] rO): ~~~aK bP 2 f fd ["row"] (xH K):=by
 refine F.ok sc_voice_range λ_ A _ s H vs Q E hr h=>?_;obtain⟨row,rfl,hl,h⟩:=h
 refine⟨rfl,_,(ah (cN (i:=1) sc_voice_range.nd (cf K PySem.F.plainAttrs_str PySem.F.slot_str_split PySem.F.type_str_split lA (pr 0) (aa ba ag)))
 (ah (aO (PW.pt (cK (aY (ay AN (aB (aE K) ⋯ T.n_len boot_len (aa (pr 1) ag)) ae (az _))) (cK (aY (ay AN (aw (aD K) (pr 1) ae (λ_ _=>rfl)) ba (az _))) (cB (cj (bf (aB (hX K rfl) ⋯ T.n_all boot_all (aa (di (own:=["word"]) (js:=[]) rfl (bI K (bo (eX K) (pr 1) (eP ae) bw)) (bD.of ⋯) (λ_ _ _ _ _=>(bQ (i:=0) (show List.Nodup (["word"]:List Str)from by decide +kernel) rfl (Or.inl rfl))) (λ_ _ _ _ _=>cA) (λ_ _ _ _ _=>(aA D_is_number hr ⋯ (aa (pr 0) ag)))) ag)) (λ_=>rfl))))))) (ai (ar bc)) aC)
 (ah (cN (i:=2) sc_voice_range.nd (dj (aa (aV (c9) ⋯ T.n_int boot_int (aa (aw (aD K) (pr 1) ae (λ_ _=>rfl)) ag)) (aa (aV (c9) ⋯ T.n_int boot_int (aa (aw (aD K) (pr 1) ae (λ_ _=>rfl)) ag)) ag))))
 (ai (ar (dc (aY (ay (o0 ic) (aw (aD K) (pr 2) ae (λ_ _=>rfl)) (aw (aD K) (pr 2) ae (λ_ _=>rfl)) (az _))) (pr 2) bc)))))),?_⟩
 have hs:=sizeLine_eq;refine aN (λZ H'=>∃p:Addr,H' p=some (.lst ((Txt.split row ⟨#[32]⟩).map V.str))/\Z=[some (.str row),↑p,none]/\av H H') ?_ ?_
 ·intro u' hu
  tm_at "r";exact⟨32,by decide +kernel,∅,(),λp hp=>hu _ _ ⟨p,af,rfl,au hp⟩⟩
 rintro Ω ω _ H1 ⟨p,hp1,rfl,s1⟩;refine ω _ _ ?_;rcases h with⟨lo,hi,RI,hle,q⟩ | ⟨w0,ws,hsp,hw0,q⟩
 ·rw [RI.split]at hp1
  have b1:=RI.nb lo (by simp);have b2:=RI.nb hi (by simp);have nlen:∀n:Int,n.natAbs < 10 ^ 40->(aW n).length<=41:=λn h=>dG h;refine aN (λZ H'=>Z=[some (.str row),↑p,none]/\av H1 H') ?_ ?_
  ·intro u' hu
   tm_at "r";refine⟨_,.inl (aH.of hp1),?_⟩;rw [if_pos (by simp)];refine bp (aH.of hp1) (bE rfl) ?_;tm_at "r";refine ck (aH.of hp1) λq2 hq2=>?_;rw [show(some (1:Int))=some ((1:Nat):Int)from rfl,cC];show Dw _ _ _ _;have s2:av H1 (upd H1 q2 (.lst (([lo,hi].map aW).map V.str))):=au hq2;refine bR (xs:=([lo,hi].map aW).map V.str) (aH.of af) (bW (xs:=([lo,hi].map aW).map V.str) (λi ys H'=>ys=(List.replicate i true).map V.bl/\av (upd H1 q2 (.lst (([lo,hi].map aW).map V.str))) H') (by simp;omega) ⟨rfl,av.refl _⟩ ?_ ?_ ?_ ?_)
   ·rintro i ys H' ⟨rfl,sm⟩
    simp
   ·rintro i ys H' ⟨rfl,sm⟩
    exact sm.seq (aH.of af)
   ·rintro i x ys H' hx ⟨rfl,sm⟩
    obtain⟨n,hn,rfl⟩:∃n∈[lo,hi],x=.str (aW n):=by
     have:=ac0 hx
     simp only [ai7,ac4,Function.comp_apply]at this;obtain⟨n,hn,e⟩:=this;exact⟨n,hn,e.symm⟩
    tm_at "r";refine⟨aW n,rfl,?_,λH1 s1=>⟨?_,sm.trans s1⟩⟩
    ·have:=nlen n (RI.nb n hn)
     omega
    ·show _=(List.replicate (i+1) true).map V.bl
     rw [show(aW n).cps.toList=iu n from rfl,mi (RI.nb n hn),List.replicate_succ',ab3];rfl
   rintro ys H2 ⟨rfl,sm⟩ p1 hp1';refine⟨_,aH.of af,?_⟩;rw [show(List.replicate (([lo,hi].map aW).map V.str).length true).all id=true by simp];tm_at "r";exact hu _ _ ⟨rfl,(s2.trans sm).upd hp1'⟩
  rintro Ω ω _ H2 ⟨rfl,s12⟩;have hp2:=s12 _ _ hp1;refine ω _ _ (aN (λZ H'=>∃t:Addr,H' t=some (.tup [.int lo,.int hi])/\Z=[some (.str row),↑p,↑t]/\av H2 H') ?_ ?_)
  ·intro u' hu
   tm_at "r";refine bp (aH.of hp2) (show fV _ ((1:Nat):Int)=_ from aJ rfl) ?_;tm_at "r";refine⟨lo,nJ (ab2 b1 (aj2 ∅ ∅)),by have:=nlen lo b1;omega,bp (aH.of hp2) (show fV _ ((2:Nat):Int)=_ from aJ rfl) ?_⟩;tm_at "r";exact⟨hi,nJ (ab2 b2 (aj2 ∅ ∅)),by have:=nlen hi b2;omega,(),λt ht=>hu _ _ ⟨t,af,rfl,au ht⟩⟩
  rintro Ω ω _ H3 ⟨t,ht,rfl,s23⟩;refine ω _ _ ?_;tm_at "r";refine dy (cM.of ht) (bE rfl) (dy (cM.of ht) (show fV _ ((1:Nat):Int)=_ from aJ rfl) ?_);tm_at "r";rw [if_pos hle];exact q t _ ht ((s1.trans s12).trans s23)
 ·rw [hsp]at hp1
  refine Hi (λ_ _=>False) ?_ ?_
  ·intro u' hu
   tm_at "r";refine⟨_,.inl (aH.of hp1),?_⟩
   by_cases h3:(((w0::ws).map V.str).length:Int)=3
   ·rw [if_pos h3]
    refine bp (aH.of hp1) (bE rfl) ?_;tm_at "r";rw [if_neg hw0];exact q _ s1
   ·rw [if_neg h3]
    exact q _ s1
  rintro _ _ ⟨⟩
theorem mh{c:TT}{t u:TS}{D:jT}{Z:L2.St}(h:∀A B:Hp->Prop,(∀H,t D Z H->A H)->(∀H,u D Z H->B H)->c Z H λb H1=>if b=true then A H1 else B H1):BM c t u D Z H:=h _ _ (λ_ x=>x) λ_ x=>x
theorem uH{g:TG}{x:V}{Z:L2.St}{tb:TS}{D:jT}(h:∀B:L2.St->Hp->Prop,(∀Z H,tb D Z H->B Z H)->g x Z H B):g x Z H λZf H2=>tb D Zf H2:=h _ λ_ _ z=>z
theorem C3(F:bV K "read" "read" v9 f fd)(T:Txt mg aM)(TC:gf K C)(D_voice_range: ~~~cy "voice_range" 10 ["row"] (xH K))(D_read_rule: ~~~cy "read_rule" 10 ["text","voices","row"] (~~~jD))(DM_Score: ~~~i6 "Score" C 9 ["self","ranges","rules"] (nc K C))(D_not_too_wide: ~~~cy "not_too_wide" 10 ["score"] (~~~pL C)): ~~~aK bP 11 f fd ["text"] (~~~tP C):=by
 refine F.ok sc_read λ_ A _ s H vs Q E hr h=>?_;obtain⟨text,bs,vr,Rs,rfl,htl,hsp,nv1,nv4,rl,hb,hR,hwt,q⟩:=h
 refine⟨rfl,_,(ah (cN (i:=1) sc_read.nd (bM ag))
 (ah (cN (i:=2) sc_read.nd (bM ag))
 (ah (cJ PassesOwn.never rfl (uK rfl T.n_enumerate (aa (cf K PySem.F.plainAttrs_str PySem.F.slot_str_split PySem.F.type_str_split lA (pr 0) (aa ba ag)) ag)) (fX K (n:=2) rfl (bU (j7 (i:=3) sc_read.nd) (bU (j7 (i:=4) sc_read.nd) fY)))
 (ah (cN (i:=5) sc_read.nd (aA D_voice_range hr ⋯ (aa (pr 4) ag)))
 (ai (aO (PW.pt (gP (aY (ay jQ (pr 5) bc (az _))) (gP (aY (ay (o0 jX) (aB (aE K) ⋯ T.n_len boot_len (aa (pr 1) ag)) (iy T.g_MOST_VOICES) (az _))) (fZ (aY (ay gA (aB (aE K) ⋯ T.n_len boot_len (aa (pr 2) ag)) ae (az _))))))) (ai (bH (cf K PySem.F.plainAttrs_list PySem.F.slot_list_append PySem.F.type_list_append cE (pr 1) (aa (pr 5) ag)))) (ai (aO (PW.pt (cK (aY (ay gA (aB (aE K) ⋯ T.n_len boot_len (aa (pr 1) ag)) ae (az _))) (cB (aY (ay gA (aB (aE K) ⋯ T.n_len boot_len (aa (pr 2) ag)) (iy T.g_MOST_RULES) (az _)))))) (ai lG) (ai (bH (cf K PySem.F.plainAttrs_list PySem.F.slot_list_append PySem.F.type_list_append cE (pr 2) (aa (aA D_read_rule hr ⋯ (aa (pr 4) (aa (aB (aE K) ⋯ T.n_len boot_len (aa (pr 1) ag)) (aa (pr 3) ag)))) ag))))))))))
 (ai (ar (aA D_not_too_wide hr ⋯ (aa (iW DM_Score hr ⋯ (aa (pr 1) (aa (pr 2) ag))) ag))))))),?_⟩
 have hs:=sizeLine_eq;refine aN (λZ H'=>∃ra:Addr,H ra=none/\H' ra=some (.lst (([]:List Addr).map V.ref))/\Z=[some (.str text),↑ra,none,none,none,none]/\av H H') ?_ ?_
 ·intro u' hu
  tm_at "r";exact⟨(),λp hp=>hu _ _ ⟨p,hp,af,rfl,au hp⟩⟩
 rintro Ω ω _ H1 ⟨ra,hra,hra1,rfl,s1⟩;refine ω _ _ (aN (λZ H'=>∃ru:Addr,H ru=none/\ru≠ra/\H' ru=some (.lst (([]:List Addr).map V.ref))/\H' ra=some (.lst (([]:List Addr).map V.ref))/\Z=[some (.str text),↑ra,↑ru,none,none,none]/\av H H') ?_ ?_)
 ·intro u' hu
  tm_at "r";exact⟨(),λp hp=>hu _ _ ⟨p,s1.free hp,(aq hra1 hp).symm,af,(au hp) _ _ hra1,rfl,s1.upd hp⟩⟩
 clear hra1 s1;rintro Ω ω _ H2 ⟨ru,hru,rra,hru2,hra2,rfl,s2⟩;refine ω _ _ (aN (λZ H'=>∃(ts rs:List Addr) (o3 o4 o5:Option V),Z=[some (.str text),↑ra,↑ru,o3,o4,o5]/\ts.length=bs.length/\rs.length=Rs.length/\H' ra=some (.lst (ts.map V.ref))/\H' ru=some (.lst (rs.map V.ref))/\(∀(j:Nat) (t:Addr) (b:Int×Int),ts[j]?=some t->bs[j]?=some b->H' t=some (.tup [.int b.1,.int b.2]))/\(∀(j:Nat) (r:Addr) (R:aL),rs[j]?=some r->Rs[j]?=some R->~~~gL bs.length R r H')/\av H H') ?_ ?_)
 ·intro u' hu
  tm_at "r";refine⟨10,by decide +kernel,∅,(),λsp hsp0=>?_⟩;rw [hsp];have s3:av H2 (upd H2 sp (.lst ((bs.map vr++Rs.map dk).map V.str))):=au hsp0;have nsa:sp≠ra:=(aq hra2 hsp0).symm;have nsu:sp≠ru:=(aq hru2 hsp0).symm;obtain⟨Pv,hPv⟩:∃Pv:Nat->L2.St->Hp->Prop,Pv=λi Z H'=>∃(ts rs:List Addr) (o3 o4 o5:Option V),Z=[some (.str text),↑ra,↑ru,o3,o4,o5]/\ts.length=min i bs.length/\rs.length=i - bs.length/\H' ra=some (.lst (ts.map V.ref))/\H' ru=some (.lst (rs.map V.ref))/\H' sp=some (.lst ((bs.map vr++Rs.map dk).map V.str))/\(∀(j:Nat) (t:Addr) (b:Int×Int),ts[j]?=some t->bs[j]?=some b->H' t=some (.tup [.int b.1,.int b.2]))/\(∀(j:Nat) (r:Addr) (R:aL),rs[j]?=some r->Rs[j]?=some R->~~~gL bs.length R r H')/\av H H':=⟨_,rfl⟩
  refine⟨true,⟨_,aH.of af⟩,oE (l:=true) (us:=(bs.map vr++Rs.map dk).map V.str) Pv
   (by rw [hPv];exact⟨[],[],none,none,none,rfl,by simp,by simp,s3 _ _ hra2,s3 _ _ hru2,af,λj t b e=>(by cases e),λj r R e=>(by cases e),s2.trans s3⟩) (λi Z H' _ h=>by rw [hPv]at h;obtain⟨_,_,_,_,_,_,_,_,_,_,h,_⟩:=h;exact aH.of h) ?_ ?_⟩
  ·rintro i y Z H4 p hx hI hp0
   have hI':=hI;rw [hPv]at hI';clear hI;obtain⟨ts,rs,o3,o4,o5,rfl,tl,rsl,ha4,hu4,hs4,ht4,hr4,s4⟩:=hI'
   have hi:i < bs.length+Rs.length:=by have:=(aa1.mp hx).1;simpa using this
   rw [aa4]at hx;have sp5:av H4 (upd H4 p (.tup [.int i,y])):=au hp0;have hp5:(upd H4 p (.tup [.int i,y])) p=some (.tup [.int i,y]):=af;refine uH λB hB=>?_
   by_cases hv:i < bs.length
   ·-- a voice's row
    have eb:bs[i]?=some bs[i]:=aa2 hv;obtain⟨hrow,hle,_⟩:=hb _ (ad7 hv);rw [ap1 (ah2 hv)]at tl;rw [Nat.sub_eq_zero_of_le (ah2 hv)]at rsl;rw [ab7 (by simpa using hv),aa4,eb]at hx;cases hx;tm_at "r";refine⟨_,cM.of hp5,rfl,?_⟩;tm_at "r";refine hB _ _ (iX λkk hkk=>?_);tm_at "r";generalize upd H4 p (.tup [.int i,.str (vr bs[i])])=H5 at sp5 hp5;refine⟨vr bs[i],rfl,hrow.len,.inl ⟨_,_,hrow,hle,λt H6 ht6 s56=>?_⟩⟩;have s46:=sp5.trans s56;refine hkk _ _ (mh λA1 B1 hA1 hB1=>?_);tm_at "r";refine⟨_,.inl (aH.of (s46 _ _ ha4)),?_⟩;rw [if_pos (by rw [aa0];omega)];refine⟨_,.inl (aH.of (s46 _ _ hu4)),?_⟩;rw [if_pos (by rw [aa0];omega)];refine hA1 _ ?_;tm_at "r";have ha6:=s46 _ _ ha4;refine⟨.inl ⟨rfl,_,aH.of ha6⟩,ra,_,_,rfl,rfl,ha6,by rw [aa0];omega,?_⟩;have rs0:rs=[]:=af7.mp ();subst rs0;rw [hPv];refine⟨ts++[t],[],_,_,_,rfl,by simp;omega,by simp;omega,by rw [af,ab3];rfl,by rw [aj rra];exact s46 _ _ hu4,by rw [aj nsa];exact s46 _ _ hs4,λj t' b' e1 e2=>?_,λj r R e=>(by cases e),λc u hc=>?_⟩
    ·by_cases hj:j < ts.length
     ·rw [ab7 hj]at e1
      have:=s46 _ _ (ht4 j t' b' e1 e2)
      rw [aj (dF this ha6 (λe=>by cases e))];exact this
     ·rw [ac6 ()]at e1
      have ej:j=ts.length:=by
       have:=(aa1.mp e1).1
       simp at this;omega
      rw [ej,aj6]at e1;cases e1;rw [show j=i by omega,eb]at e2;cases e2;rw [aj (dF ht6 ha6 (λe=>by cases e))];exact ht6
    ·rw [aj (aq hc hra)]
     exact(s4.trans s46) _ _ hc
   ·-- a rule's row
    have hk:i - bs.length < Rs.length:=by omega
    rw [Nat.min_eq_right (al2.mp hv)]at tl;have eR:Rs[i - bs.length]?=some (Rs[i - bs.length]'hk):=aa2 hk;obtain⟨hgd,hok,_⟩:=hR _ (ad7 hk);obtain⟨hlen,w0,ws,hsw,hw0⟩:=f7 _ hok;rw [ac6 (by simpa using hv),aa0,aa4,eR]at hx;cases hx;tm_at "r";refine⟨_,cM.of hp5,rfl,?_⟩;tm_at "r";refine hB _ _ (iX λkk hkk=>?_);tm_at "r";generalize upd H4 p (.tup [.int i,.str (dk (Rs[i - bs.length]'hk))])=H5 at sp5 hp5;refine⟨_,rfl,hlen,.inr ⟨w0,ws,hsw,hw0,λH6 s56=>?_⟩⟩;have s46:=sp5.trans s56;refine hkk _ _ (mh λA1 B1 hA1 hB1=>?_);tm_at "r";refine hB1 _ (mh λA2 B2 hA2 hB2=>?_);tm_at "r";refine⟨_,.inl (aH.of (s46 _ _ ha4)),?_⟩;rw [if_neg (by rw [aa0];omega)];refine⟨_,.inl (aH.of (s46 _ _ hu4)),?_⟩;rw [if_neg (by rw [aa0];omega)];refine hB2 _ ?_;tm_at "r";refine⟨.inl ⟨rfl,_,aH.of (s46 _ _ hu4)⟩,_,.inl (aH.of (s46 _ _ ha4)),?_⟩;rw [aa0,show ts.length=bs.length by omega];refine⟨i,_,bs.length,rfl,hgd,hok,λr H7 hr7 s67=>?_⟩;have s47:=s46.trans s67;have hu7:=s47 _ _ hu4;refine⟨ru,_,_,rfl,rfl,hu7,by rw [aa0];omega,?_⟩;rw [hPv];refine⟨ts,rs++[r],_,_,_,rfl,(),by simp;omega,by rw [aj rra.symm];exact s47 _ _ ha4,by rw [af,ab3];rfl,by rw [aj nsu];exact s47 _ _ hs4,λj t' b' e1 e2=>?_,λj r' R' e1 e2=>?_,λc u hc=>?_⟩
    ·have:=s47 _ _ (ht4 j t' b' e1 e2)
     rw [aj (dF this hu7 (λe=>by cases e))];exact this
    ·by_cases hj:j < rs.length
     ·rw [ab7 hj]at e1
      exact((hr4 j r' R' e1 e2).same s47).stab hu7
     ·rw [ac6 ()]at e1
      have ej:j=rs.length:=by
       have:=(aa1.mp e1).1
       simp at this;omega
      rw [ej,aj6]at e1;cases e1;rw [show j=i - bs.length by omega,eR]at e2;cases e2;exact hr7.stab hu7
    ·rw [aj (aq hc hru)]
     exact(s4.trans s47) _ _ hc
  ·intro Z H4 hI
   rw [hPv]at hI;obtain⟨ts,rs,o3,o4,o5,rfl,tl,rsl,ha4,hu4,hs4,ht4,hr4,s4⟩:=hI;rw [aa0,ab4,aa0,aa0]at tl rsl;exact hu _ _ ⟨ts,rs,o3,o4,o5,rfl,(),(),ha4,hu4,ht4,hr4,s4⟩
 clear hra2 hru2 s2;clear H2;rintro Ω ω _ H2 ⟨ts,rs,o3,o4,o5,rfl,tl,rsl,ha2,gM,ht2,hr2,s2⟩;refine ω _ _ ?_;tm_at "r";intro x dx hx hdx dxx;have s3:av H2 (upd (upd H2 dx (.own x)) x (.ins C dx [])):=(au hdx).upd (by rw [aj dxx.symm];exact hx);refine⟨x,dx,ra,ru,ts.map V.ref,rs.map V.ref,rfl,af,s3.seq (aH.of ha2),s3.seq (aH.of gM),λp q' H' hp hq hqp e=>⟨rfl,?_⟩⟩
 have px:p≠x:=λe=>by subst e;rw [af]at hp;cases hp
 have qx:q'≠x:=λe=>by subst e;rw [af]at hq;cases hq
 have s4:av H2 H':=λc u hc=>by
  have h3:=s3 _ _ hc;have cx:c≠x:=aq hc hx;rw [e,aj cx,aj (aq h3 hq),aj (aq h3 hp)];exact h3
 have SA: ~~~jG C bs.length bs Rs x H':=⟨dx,p,q',by rw [e,af],⟨ts,aH.of (by rw [e,aj px,aj hqp.symm,af]),tl,λi t b e1 e2=>cM.of (s4 _ _ (ht2 i t b e1 e2))⟩,⟨rs,aH.of (by rw [e,aj qx,af]),rsl,λj r R e1 e2=>(hr2 j r R e1 e2).same s4⟩⟩;exact⟨x,bs.length,bs,Rs,rfl,SA,(),(),λb hb'=>(hb b hb').2.2,λR hR'=>(hR R hR').2.2,hwt,q x H' SA (s2.trans s4)⟩
def xZ(ns:List Int)(k:Int):Int:=ns.getD k.toNat 0
theorem Hg{ns:List Int}{k:Int}(hB:∀x∈ns,x.natAbs < 2 ^ GB):(xZ ns k).natAbs < 2 ^ GB:=by
 unfold xZ;rw [ab5]
 cases h:ns[k.toNat]? with
 | none=>exact Nat.pow_pos ∅
 | some c=>exact hB c (ac0 h)
def zc(K:Frag):Sp:=λvs H Q _=>∃(a:Addr) (ns:List Int) (k:Int),vs=[.ref a,.int k]/\aH K H a (ns.map V.int)/\0<=k/\k<=1000/\Q (.int (xZ ns k)) H
def lR:Sp:=λvs H Q _=>∃(c:Int) (n:Nat),vs=[.int c,.int n]/\n<=500/\∀(q:Addr) (ys:List Int) H',ys.length=n->(∀y∈ys,0<=y/\y < 399999)->H q=none->H' q=some (.lst (ys.map V.int))->av H H'->Q (.ref q) H'
def rG(b:Int×Int):List Int:=[b.1,b.2]
def xr(b:Int×Int):Prop:=b.1<=b.2/\b.1.natAbs<=10 ^ 36/\b.2 - b.1 < 12
theorem xr.big(h:xr b):b.1<=b.2/\b.1.natAbs < 10 ^ 40/\b.2.natAbs < 10 ^ 40/\(ik b).natAbs < 2 ^ 200/\1<=wN b:=by
 obtain⟨h1,h2,h3⟩:=h;have e36:=GW;have e40:=HP
 have e2:(2:Nat) ^ 200=1606938044258990275541962092341162602522202993782792835301376:=by decide +kernel
 rw [e36]at h2;rw [e40,e2];unfold ik wN;omega
theorem dq.ranges(h:dq H q (bs.map rG)):bT K H q bs:=by
 obtain⟨ps,h1,h2,h3⟩:=h;refine⟨ps,aH.of h1,by rw [h2,aa0],λi t b e1 e2=>cM.of (h3 i t (rG b) e1 (by rw [aa4,e2];rfl))⟩
theorem dq.at_(h:dq H q cols):H q=some (.lst (h.choose.map V.ref)):=h.choose_spec.1
theorem dq.put{t:Addr}(h:dq H q cols)(ht:H t=none):∃xs:List V,(upd H t (.tup (us.map V.int))) q=some (.lst xs)/\xs.length=cols.length/\dq (upd (upd H t (.tup (us.map V.int))) q (.lst (xs++[.ref t]))) q (cols++[us]):=by
 obtain⟨ps,h1,h2⟩:=h;have hq:=(au ht (o:=HO.tup (us.map V.int))) _ _ h1;refine⟨ps.map V.ref,hq,by rw [aa0,h2.1],ps++[t],by rw [af,ab3];rfl,?_⟩;refine((h2.same (au ht)).append ⟨rfl,λi p us' e1 e2=>?_⟩).upd hq
 have hi:i=0:=by
  have:=(aa1.mp e1).1
  simp at this;exact this
 subst hi;cases e1;cases e2;exact af
theorem iA{i:Int}(h:aH K H a xs)(h0:0<=i)(h1:i < xs.length)(q:∀v∈xs,xs[i.toNat]?=some v->Q v H):ny K (.ref a) (.int i) H Q:=by
 obtain⟨m,rfl⟩:∃m:Nat,i=m:=⟨i.toNat,()⟩;have e:xs[m]?=some xs[m]:=aa2 ();exact bp h (aJ e) (q _ (ad7 _) (by rw [ag8];exact e))
def u9(K:Frag):Sp:=λvs H Q _=>∃(a:Addr) (ns:List Int) (most:Nat),vs=[.ref a,.int most]/\aH K H a (ns.map V.int)/\1<=most/\most<=400/\∀(q:Addr) (bs:List (Int×Int)) H',1<=bs.length->bs.length<=4->(∀b∈bs,xr b)->jL bs<=most->H q=none->dq H' q (bs.map rG)->av H H'->Q (.ref q) H'
def B7(bs:List (Int×Int))(us:List Int):Prop:=us.length=bs.length/\∀(i:Nat) (b:Int×Int) (u:Int),bs[i]?=some b->us[i]?=some u->b.1<=u/\u<=b.2
theorem B7.nil:B7 [] []:=⟨rfl,λi b u e=>nomatch e⟩
theorem B7.cons_iff:B7 (b::bs) (u::us)↔(b.1<=u/\u<=b.2)/\B7 bs us:=by
 constructor
 ·rintro⟨h1,h2⟩
  refine⟨h2 0 b u rfl rfl,by simpa using h1,λi b' u' e1 e2=>h2 (i+1) b' u' e1 e2⟩
 ·rintro⟨h1,h2,h3⟩
  refine⟨by simpa using h2,λi b' u' e1 e2=>?_⟩
  cases i with
  | zero=>cases e1;cases e2;exact h1
  | succ i=>exact h3 i b' u' e1 e2
theorem ym:us∈bJ bs↔B7 bs us:=by
 have go:∀(bs:List (Int×Int)) (told:List (List Int)) (c:List Int),c∈bs.foldl (λtold b=>told.flatMap (eF b)) told↔∃p∈told,∃us,B7 bs us/\c=p++us:=by
  intro bs
  induction bs with
  | nil=>
   intro told c
   constructor
   ·intro h
    exact⟨c,h,[],B7.nil,by simp⟩
   ·rintro⟨p,hp,us,⟨h1,_⟩,rfl⟩
    rw [af7.mp h1,af1];exact hp
  | cons b bs ih=>
   intro told c;rw [ae5,ih]
   constructor
   ·rintro⟨p,hp,us,hus,rfl⟩
    obtain⟨d,hd,hp⟩:=ag5.mp hp;unfold eF at hp;obtain⟨j,hj,rfl⟩:=ac4.mp hp;have hj:j < wN b:=af8.mp hj;refine⟨d,hd,(b.1+(j:Int))::us,B7.cons_iff.mpr ⟨?_,hus⟩,by simp⟩;unfold wN at hj;omega
   ·rintro⟨p,hp,us,hus,rfl⟩
    cases us with
    | nil=>cases hus.1
    | cons u us=>
     obtain⟨⟨h1,h2⟩,h3⟩:=B7.cons_iff.mp hus;refine⟨p++[u],ag5.mpr ⟨p,hp,?_⟩,us,h3,by simp⟩;unfold eF;refine ac4.mpr ⟨(u - b.1).toNat,af8.mpr ?_,?_⟩
     ·unfold wN
      omega
     ·rw [show b.1+((u - b.1).toNat:Int)=u by omega]
 unfold bJ;rw [go]
 constructor
 ·rintro⟨p,hp,us',h,rfl⟩
  rw [ac1.mp hp];exact h
 ·intro h
  exact⟨[],by simp,us,h,rfl⟩
def xI:Sp:=λvs H Q _=>∃i:Int,vs=[.int i]/\Q (.bl true) H
def tO(K:Frag):Sp:=λvs H Q _=>∃(a:Addr) (bs:List (Int×Int)),vs=[.ref a]/\bT K H a bs/\bs.length<=4/\(∀b∈bs,1<=wN b)/\jL bs<=400/\∀q H',H q=none->dq H' q (bJ bs)->av H H'->Q (.ref q) H'
theorem Ge(F:bV K "_law_at" "_law_at" pd f fd)(T:Txt mg aM): ~~~aK bP 1 f fd ["_law_script","_law_k"] (zc K):=by
 refine F.ok y9 λ_ A _ s H vs Q E hr h=>?_;obtain⟨a,ns,k,rfl,hS,h0,h1,q⟩:=h
 refine⟨rfl,_,(ah (aO (aY (ay (o0 jX) (pr 1) (aB (aE K) ⋯ T.n_len boot_len (aa (pr 0) ag)) (az _))) (ai (ar (aw (aD K) (pr 0) (pr 1) (λ_ _=>rfl)))) aC)
 (ai (ar ae))),?_⟩
 tm_at "r";refine⟨_,.inl hS,?_⟩;obtain⟨m,rfl⟩:∃m:Nat,k=m:=⟨k.toNat,()⟩;unfold xZ at q;rw [ag8,ab5]at q;rw [aa0]
 by_cases hk:(m:Int) < (ns.length:Int)
 ·rw [if_pos hk]
  have e:ns[m]?=some ns[m]:=aa2 ();rw [e]at q;exact bp hS (aJ (by rw [aa4,e];rfl)) q
 ·rw [if_neg hk]
  rw [aj0 ()]at q;exact q
theorem AU(F:bV K "_law_draws" "_law_draws" jx f fd)(T:Txt mg aM): ~~~aK bP 1 f fd ["_law_cell","_law_many"] lR:=by
 refine F.ok sc_law_draws λ_ A _ s H vs Q E hr h=>?_;obtain⟨c,n,rfl,hn,q⟩:=h
 refine⟨rfl,_,(ah (cN (i:=2) sc_law_draws.nd (aT gA (ao (o1 aP) (ao (o1 cu) (pr 0) ae) ae) ae (az _)))
 (ah (cN (i:=3) sc_law_draws.nd (ao (o1 cu) (pr 0) ae))
 (ah (cN (i:=4) sc_law_draws.nd (ao (bF K) (ao (o1 aP) (pr 0) ae) ae))
 (ah (cN (i:=5) sc_law_draws.nd (bM ag))
 (ah (cJ PassesOwn.never rfl (yY rfl T.n_range (aa ae (aa (ao (bF K) (pr 1) ae) ag))) (j7 (i:=6) sc_law_draws.nd)
 (ai (aO (PW.pt (gP (bf (pr 2) (λ_=>rfl)) (fZ (aY (ay (eM K) (pr 3) (bM (aa ae (aa (j6 (u1 g9) ae) ag))) (by with_unfolding_all rfl)))))) (ah (bH (cf K PySem.F.plainAttrs_list PySem.F.slot_list_append PySem.F.type_list_append cE (pr 5) (aa (ao (o1 aP) (pr 3) ae) ag)))
 (ai (cN (i:=3) sc_law_draws.nd (ao (o1 cu) (pr 3) ae)))) (ah (cN (i:=4) sc_law_draws.nd (ao (bF K) (ao (o1 aP) (ao (jW K) (ao (o1 aP) (ao (bF K) (ao (jW K) (pr 4) ae) (pr 6)) ae) (ao (bF K) (pr 4) (ao (jW K) ae (pr 6)))) ae) ae))
 (ai (bH (cf K PySem.F.plainAttrs_list PySem.F.slot_list_append PySem.F.type_list_append cE (pr 5) (aa (ao (o1 cu) (pr 4) ae) ag))))))))
 (ai (ar (pr 5)))))))),?_⟩
 have hs:=sizeLine_eq;refine aN (λZ H'=>∃b:Bool,Z=[⇑c,⇑n,some (.bl b),none,none,none,none]/\H=H') ?_ ?_
 ·intro u' hu
  tm_at "r";exact⟨⟨∅,∅⟩,∅,hu _ _ ⟨_,rfl,rfl⟩⟩
 rintro Ω ω _ _ ⟨b,rfl,rfl⟩;refine ω _ _ (aN (λZ H'=>∃r:Int,Z=[⇑c,⇑n,some (.bl b),⇑r,none,none,none]/\H=H') ?_ ?_)
 ·intro u' hu
  tm_at "r";exact⟨⟨∅,∅⟩,hu _ _ ⟨_,rfl,rfl⟩⟩
 rintro Ω ω _ _ ⟨r,rfl,rfl⟩;refine ω _ _ (aN (λZ H'=>∃sd:Int,1<=sd/\sd<=1999993/\Z=[⇑c,⇑n,some (.bl b),⇑r,⇑sd,none,none]/\H=H') ?_ ?_)
 ·intro u' hu
  tm_at "r";exact⟨∅,hu _ _ ⟨_,(),(),rfl,rfl⟩⟩
 rintro Ω ω _ _ ⟨sd,d1,d2,rfl,rfl⟩;refine ω _ _ (aN (λZ H'=>∃p:Addr,H p=none/\H' p=some (.lst (([]:List Int).map V.int))/\Z=[⇑c,⇑n,some (.bl b),⇑r,⇑sd,↑p,none]/\av H H') ?_ ?_)
 ·intro u' hu
  tm_at "r";exact⟨(),λp hp=>hu _ _ ⟨p,hp,af,rfl,au hp⟩⟩
 rintro Ω ω _ H1 ⟨p,hp,hp1,rfl,s1⟩;refine ω _ _ (aN (λZ H'=>∃(ys:List Int) (r sd:Int) (o6:Option V),ys.length=n/\(∀y∈ys,0<=y/\y < 399999)/\H' p=some (.lst (ys.map V.int))/\Z=[⇑c,⇑n,some (.bl b),⇑r,⇑sd,↑p,o6]/\av H H') ?_ ?_)
 ·intro u' hu
  tm_at "r";obtain⟨Pv,hPv⟩:∃Pv:Nat->L2.St->Hp->Prop,Pv=λi Z H'=>∃(ys:List Int) (r sd:Int) (o6:Option V),ys.length=i/\(∀y∈ys,0<=y/\y < 399999)/\1<=sd/\sd<=1999993/\H' p=some (.lst (ys.map V.int))/\Z=[⇑c,⇑n,some (.bl b),⇑r,⇑sd,↑p,o6]/\av H H':=⟨_,rfl⟩;refine⟨(),(),(),(),cG Pv (by rw [hPv];exact⟨[],r,sd,none,rfl,(λ_ h=>nomatch h),d1,d2,hp1,rfl,s1⟩) ?_ ?_⟩
  ·clear s1 hp1 d1 d2
   clear r sd H1;rintro i Z H1 hi hI;rw [hPv]at hI;obtain⟨ys,r,sd,o6,hl,hy,d1,d2,hp1,rfl,s1⟩:=hI;tm_at "r"
   have app:∀{x:Int} {H2:Hp} {r' sd':Int},0<=x->x < 399999->1<=sd'->sd'<=1999993->av H H2->Pv (i+1) [⇑c,⇑n,some (.bl b),⇑r',⇑sd',↑p,⇑(1+i)] (upd H2 p (.lst (ys.map V.int++[.int x]))):=λ{x H2 r' sd'} x0 x1 e1 e2 s2=>by
    rw [hPv];refine⟨ys++[x],r',sd',_,by rw [ab4,hl];rfl,λy h=>?_,e1,e2,by rw [af,ab3];rfl,rfl,zw hp s2⟩;rcases ac8.mp h with h | h
    ·exact hy y h
    ·rw [ac1.mp h]
     exact⟨x0,x1⟩
   have e2:(2:Nat) ^ 21=2097152:=by decide
   have k1:IntMulOk ((sd * 69069+(1+(i:Int))) % 1999993) (sd+3 * (1+(i:Int))):=IntMulOk.of_le (m:=21) (n:=21) (intBits_le_iff.mpr (by rw [e2];omega)) (intBits_le_iff.mpr (by rw [e2];omega)) ∅;have m0:=ad4 ((sd * 69069+(1+(i:Int))) % 1999993 * (sd+3 * (1+(i:Int)))) (show(1999993:Int)≠0 by decide);have m1:=ac7 ((sd * 69069+(1+(i:Int))) % 1999993 * (sd+3 * (1+(i:Int)))) (show(0:Int) < 1999993 by decide);generalize(sd * 69069+(1+(i:Int))) % 1999993 * (sd+3 * (1+(i:Int))) % 1999993=sd' at m0 m1
   by_cases hb:b=true
   ·rw [if_pos hb]
    refine⟨(),λz hz=>eD (D:=[0,-1]) (aH.of af) ⟨_,rfl,?_⟩⟩;have hp2:=(au hz (o:=HO.lst [V.int 0,V.int (-1)])) _ _ hp1;have s2:=s1.upd hz (o:=HO.lst [V.int 0,V.int (-1)])
    by_cases hr:r∈[0,-1]
    ·rw [if_neg (by simp [hr])]
     refine⟨.of_right ∅,∅,.of_left ∅,k1,∅,.inl ⟨rfl,_,aH.of hp2⟩,⟨∅,∅⟩,p,_,_,rfl,rfl,hp2,by rw [aa0];omega,app () () () () s2⟩
    ·rw [if_pos (by simp [hr])]
     exact⟨.inl ⟨rfl,_,aH.of hp2⟩,∅,p,_,_,rfl,rfl,hp2,by rw [aa0];omega,⟨∅,∅⟩,app () () d1 d2 s2⟩
   ·rw [if_neg hb]
    refine⟨.of_right ∅,∅,.of_left ∅,k1,∅,.inl ⟨rfl,_,aH.of hp1⟩,⟨∅,∅⟩,p,_,_,rfl,rfl,hp1,by rw [aa0];omega,app () () () () s1⟩
  ·rintro Z H3 hI
   rw [hPv]at hI;obtain⟨ys,r,sd,o6,hl,hy,_,_,hp1,rfl,s1⟩:=hI;exact hu _ _ ⟨ys,r,sd,o6,(),hy,hp1,rfl,s1⟩
 rintro Ω ω _ H2 ⟨ys,r,sd,o6,hl,hy,hp2,rfl,s2⟩;refine ω _ _ ?_;tm_at "r";exact q p ys H2 hl hy hp hp2 s2
theorem yQ(F:bV K "_law_ranges" "_law_ranges" iN f fd)(T:Txt mg aM)(D_law_at: ~~~cy "_law_at" 1 ["_law_script","_law_k"] (zc K))(D_law_draws: ~~~cy "_law_draws" 1 ["_law_cell","_law_many"] lR): ~~~aK bP 2 f fd ["_law_script","_law_most"] (u9 K):=by
 refine F.ok sc_law_ranges λ_ A _ s H vs Q E hr h=>?_;obtain⟨a,ns,most,rfl,hS,m1,m2,k⟩:=h
 refine⟨rfl,_,(ah (cN (i:=2) sc_law_ranges.nd (aA D_law_draws hr ⋯ (aa (aA D_law_at hr ⋯ (aa (pr 0) (aa ae ag))) (aa ae ag))))
 (ah (cN (i:=3) sc_law_ranges.nd (aw (aD K) (bM (rF (vs:=[.int (1),.int (1),.int (2),.int (2),.int (2),.int (3),.int (4),.int (1)]) rfl)) (ao (o1 aP) (aA D_law_at hr ⋯ (aa (pr 0) (aa ae ag))) ae) (λ_ _=>rfl)))
 (ah (cN (i:=4) sc_law_ranges.nd (ao (o1 aP) (ao (o1 cu) (aA D_law_at hr ⋯ (aa (pr 0) (aa ae ag))) ae) (ao (o1 sX) ae ae)))
 (ah (cN (i:=5) sc_law_ranges.nd (aw (aD K) (bM (aa ae (aa ae (aa (j6 (u1 g9) ae) (aa (ao (o1 aP) (pr 4) (ao (o1 sX) ae ae)) (aa (ao (o0 bC) ae (pr 4)) ag)))))) (ao (o1 aP) (aA D_law_at hr ⋯ (aa (pr 0) (aa ae ag))) ae) (λ_ _=>rfl)))
 (ah (cN (i:=6) sc_law_ranges.nd (aw (aD K) (bM (aa ae (aa ae (aa ae (aa (ao (o1 aP) (ao (o1 cu) (aA D_law_at hr ⋯ (aa (pr 0) (aa ae ag))) ae) (ao (o1 sX) ae ae)) ag))))) (ao (o1 aP) (aA D_law_at hr ⋯ (aa (pr 0) (aa ae ag))) ae) (λ_ _=>rfl)))
 (ah (cN (i:=7) sc_law_ranges.nd (bM ag))
 (ah (cJ PassesOwn.never rfl (cS rfl T.n_range (aa (pr 3) ag)) (j7 (i:=8) sc_law_ranges.nd)
 (ah (cN (i:=9) sc_law_ranges.nd (ao (bF K) ae (ao (o1 aP) (aw (aD K) (pr 2) (ao (bF K) ae (pr 8)) (λ_ _=>rfl)) (aB (rg rfl) ⋯ T.n_min boot_min (aa (pr 1) (aa (ao (bF K) ae (ao (jW K) ae (aV (c9) ⋯ T.n_int boot_int (aa (aT gA (pr 3) ae (az _)) ag)))) ag))))))
 (ah (cN (i:=10) sc_law_ranges.nd (ao (o0 bC) (ao (bF K) (ao (bF K) (pr 5) (ao (jW K) (pr 8) (pr 6))) (ao (o1 aP) (ao (o1 cu) (aw (aD K) (pr 2) (ao (bF K) ae (pr 8)) (λ_ _=>rfl)) ae) ae)) ae))
 (ah (bH (cf K PySem.F.plainAttrs_list PySem.F.slot_list_append PySem.F.type_list_append cE (pr 7) (aa (dj (aa (pr 10) (aa (ao (o0 bC) (ao (bF K) (pr 10) (pr 9)) ae) ag))) ag)))
 (ai (cN (i:=1) sc_law_ranges.nd (ao (o1 cu) (pr 1) (pr 9))))))))
 (ai (ar (pr 7)))))))))),?_⟩
 have hs:=sizeLine_eq;refine aN (λZ H'=>∃(wa:Addr) (ys:List Int),ys.length=6/\(∀y∈ys,0<=y/\y < 399999)/\H' wa=some (.lst (ys.map V.int))/\Z=[↑a,⇑most,↑wa,none,none,none,none,none,none,none,none]/\av H H') ?_ ?_
 ·intro u' hu
  tm_at "r";exact⟨a,ns,0,rfl,hS,∅,∅,_,6,rfl,∅,λq ys H' hl hy _ hq s1=>hu _ _ ⟨q,ys,hl,hy,hq,rfl,s1⟩⟩
 rintro Ω ω _ H1 ⟨wa,ys,yl,hy,hw,rfl,s1⟩;refine ω _ _ (aN (λZ H'=>∃v:Int,1<=v/\v<=4/\Z=[↑a,⇑most,↑wa,⇑v,none,none,none,none,none,none,none]/\av H1 H') ?_ ?_)
 ·intro u' hu
  tm_at "r";refine⟨(),λp hp=>⟨a,ns,0,rfl,(s1.upd hp).seq hS,∅,∅,_,rfl,∅,iA (aH.of af) () (by simp;omega) λv hv _=>?_⟩⟩;simp only [ab0,ad2,or_false]at hv
  rcases hv with rfl | rfl | rfl | rfl | rfl | rfl | rfl | rfl<;>exact hu _ _ ⟨_,∅,∅,rfl,au hp⟩
 rintro Ω ω _ H2 ⟨v,v1,v4,rfl,s2⟩;have s02:=s1.trans s2;refine ω _ _ (aN (λZ H'=>∃g:Int,0<=g/\g < 100000000000000000000000000000000000/\Z=[↑a,⇑most,↑wa,⇑v,⇑g,none,none,none,none,none,none]/\H2=H') ?_ ?_)
 ·intro u' hu
  tm_at "r"
  have e35:(10:Int) ^ Int.toNat 35=100000000000000000000000000000000000:=by decide +kernel
  refine⟨a,ns,1,rfl,s02.seq hS,∅,∅,_,rfl,⟨∅,∅⟩,⟨∅,∅,∅⟩,?_⟩;rw [e35];exact⟨∅,hu _ _ ⟨_,(),(),rfl,rfl⟩⟩
 rintro Ω ω _ _ ⟨g,g0,g1,rfl,rfl⟩;refine ω _ _ (aN (λZ H'=>∃lo:Int,lo.natAbs < 100000000000000000000000000000000000/\Z=[↑a,⇑most,↑wa,⇑v,⇑g,⇑lo,none,none,none,none,none]/\av H1 H') ?_ ?_)
 ·intro u' hu
  tm_at "r"
  have e9:(10:Int) ^ Int.toNat 9=1000000000:=by decide +kernel
  rw [e9];refine⟨⟨∅,∅,∅⟩,∅,(),λp hp=>⟨a,ns,1,rfl,(s02.upd hp).seq hS,∅,∅,_,rfl,∅,iA (aH.of af) () (by simp;omega) λv hv _=>?_⟩⟩;simp only [ab0,ad2,or_false]at hv
  rcases hv with rfl | rfl | rfl | rfl | rfl<;>exact hu _ _ ⟨_,(),rfl,s2.upd hp⟩
 clear s02 s2;clear H2;rintro Ω ω _ H2 ⟨lo,hlo,rfl,s2⟩;have s02:=s1.trans s2;refine ω _ _ (aN (λZ H'=>∃fr:Int,0<=fr/\fr<=100000000000000000000/\Z=[↑a,⇑most,↑wa,⇑v,⇑g,⇑lo,⇑fr,none,none,none,none]/\av H1 H') ?_ ?_)
 ·intro u' hu
  tm_at "r"
  have e20:(10:Int) ^ Int.toNat 20=100000000000000000000:=by decide +kernel
  rw [e20];refine⟨a,ns,2,rfl,s02.seq hS,∅,∅,_,rfl,⟨∅,∅⟩,⟨∅,∅,∅⟩,∅,(),λp hp=>⟨a,ns,2,rfl,(s02.upd hp).seq hS,∅,∅,_,rfl,∅,iA (aH.of af) () (by simp;omega) λv hv _=>?_⟩⟩;simp only [ab0,ad2,or_false]at hv
  rcases hv with rfl | rfl | rfl | rfl<;>exact hu _ _ ⟨_,(),(),rfl,s2.upd hp⟩
 clear s02 s2;clear H2;rintro Ω ω _ H2 ⟨fr,f0,f1,rfl,s2⟩;refine ω _ _ (aN (λZ H'=>∃q:Addr,H1 q=none/\H' q=some (.lst (([]:List Addr).map V.ref))/\Z=[↑a,⇑most,↑wa,⇑v,⇑g,⇑lo,⇑fr,↑q,none,none,none]/\av H1 H') ?_ ?_)
 ·intro u' hu
  tm_at "r";exact⟨(),λq hq=>hu _ _ ⟨q,s2.free hq,af,rfl,s2.upd hq⟩⟩
 clear s2;clear H2;rintro Ω ω _ H2 ⟨q,hq1,hq2,rfl,s2⟩;have hq0:H q=none:=s1.free hq1;refine ω _ _ (aN (λZ H'=>∃(bs:List (Int×Int)) (o1 o8 o9 o10:Option V),1<=bs.length/\bs.length<=4/\(∀b∈bs,xr b)/\jL bs<=most/\dq H' q (bs.map rG)/\Z=[↑a,o1,↑wa,⇑v,⇑g,⇑lo,⇑fr,↑q,o8,o9,o10]/\av H1 H') ?_ ?_)
 ·intro u' hu
  tm_at "r";obtain⟨Pv,hPv⟩:∃Pv:Nat->L2.St->Hp->Prop,Pv=λi Z H'=>∃(bs:List (Int×Int)) (m:Nat) (o8 o9 o10:Option V),bs.length=i/\(∀b∈bs,xr b)/\1<=m/\jL bs * m<=most/\dq H' q (bs.map rG)/\Z=[↑a,⇑m,↑wa,⇑v,⇑g,⇑lo,⇑fr,↑q,o8,o9,o10]/\av H1 H':=⟨_,rfl⟩;refine⟨(),(),cG Pv (by rw [hPv];exact⟨[],most,none,none,none,rfl,(λ_ h=>nomatch h),m1,by show 1 * most<=most;omega,⟨[],hq2,rfl,λi p us e=>nomatch e⟩,rfl,s2⟩) ?_ ?_⟩
  ·rintro i Z H3 hi hI
   rw [hPv]at hI;obtain⟨bs,m,o8,o9,o10,hl,hb,hm,hc,hC,rfl,s3⟩:=hI
   have hi4:(i:Int)<=3:=by omega
   tm_at "r";have hw3:=s3 _ _ hw
   have hc1:1<=jL bs:=by
    have:=(jd (bs:=bs) (λb h=>(hb b h).big.2.2.2.2) bs.length).1
    rwa [ad5]at this
   have hm4:m<=400:=ab6 (ab6 (Nat.le_mul_of_pos_left m hc1) hc) m2;refine iA (aH.of hw3) () (by rw [aa0];omega) λy hyv _=>?_;obtain⟨y,hyy,rfl⟩:=ac4.mp hyv;clear hyv;obtain⟨y0,y1⟩:=hy y hyy;obtain⟨d,hd⟩:∃d:Int,d=if (6+6 * if v=1 then 1 else 0) < (m:Int)then 6+6 * (if v=1 then 1 else 0)else(m:Int):=⟨_,rfl⟩
   have d1:1<=d:=by rw [hd];split<;>split<;>omega
   have d2:d<=m:=by rw [hd];split<;>omega
   have d3:d<=12:=by rw [hd];split<;>split<;>omega
   rw [<-hd];have r0:=ad4 y (show d≠0 by omega);have r1:=ac7 y (show 0 < d by omega);obtain⟨wd,hwd⟩:∃wd:Nat,1+y % d=wd:=⟨(1+y % d).toNat,()⟩
   have w1:1<=wd:=by omega
   have w2:wd<=12:=by omega
   have w3:wd<=m:=by omega
   refine⟨.of_left ∅,_,rfl,(),IntMulOk.of_le (m:=10) (n:=80) (intBits_le_iff.mpr ()) (intBits_le_iff.mpr (aa7 (m:=100000000000000000000) () (by decide +kernel))) ∅,iA (aH.of hw3) () (by rw [aa0];omega) λy2 hyv _=>?_⟩;obtain⟨y2,hyy2,rfl⟩:=ac4.mp hyv;clear hyv;obtain⟨z0,z1⟩:=hy y2 hyy2;have p0:0<=(i:Int) * fr:=Int.mul_nonneg () f0;have p1:(i:Int) * fr<=3 * 100000000000000000000:=Int.mul_le_mul hi4 f1 f0 ∅;obtain⟨x,hx⟩:∃x:Int,x=lo+(i:Int) * fr+y2 / 12 % 7 - 3:=⟨_,rfl⟩
   have x36:x.natAbs<=10 ^ 36:=by
    have e36:=GW;rw [e36];omega
   refine⟨_,rfl,⟨∅,∅⟩,∅,.inl ⟨rfl,_,aH.of hC.at_⟩,(),λp hp=>?_⟩;rw [<-hx,hwd];obtain⟨xs,hx1,hx2,hx3⟩:=hC.put (us:=rG (x,x+wd - 1)) hp;refine⟨q,_,_,rfl,rfl,hx1,by rw [hx2,aa0];omega,⟨(),()⟩,?_⟩;rw [hPv];have em:(m:Int) / (wd:Int)=((m / wd:Nat):Int):=rfl;rw [em];refine⟨bs++[(x,x+wd - 1)],m / wd,_,_,_,by rw [ab4,hl];rfl,λb hb'=>?_,Nat.div_pos w3 w1,?_,?_,rfl,?_⟩
   ·rcases ac8.mp hb' with hb' | hb'
    ·exact hb b hb'
    ·rw [ac1.mp hb']
     unfold xr;show x<=x+wd - 1/\x.natAbs<=_/\x+wd - 1 - x < 12;exact⟨(),x36,()⟩
   ·rw [lh]
    have ew:wN (x,x+(wd:Int) - 1)=wd:=by
     unfold wN;show(x+(wd:Int) - 1 - x+1).toNat=wd;omega
    rw [ew,Nat.mul_assoc];exact ab6 (Nat.mul_le_mul_left _ (Nat.mul_div_le m wd)) hc
   ·rw [ab3]
    exact hx3
   ·exact zw hq1 (s3.upd hp)
  ·rintro Z H3 hI
   rw [hPv]at hI;obtain⟨bs,m,o8,o9,o10,hl,hb,hm,hc,hC,rfl,s3⟩:=hI;exact hu _ _ ⟨bs,_,o8,o9,o10,(),(),hb,ab6 (Nat.le_mul_of_pos_right _ hm) hc,hC,rfl,s3⟩
 rintro Ω ω _ H3 ⟨bs,o1,o8,o9,o10,l1,l4,hb,hc,hC,rfl,s3⟩;refine ω _ _ ?_;tm_at "r";exact k q bs H3 l1 l4 hb hc hq0 hC (s1.trans s3)
theorem C2(F:bV K "_law_columns" "_law_columns" g6 f fd)(T:Txt mg aM): ~~~aK bP 1 f fd ["_law_ranges_here"] (tO K):=by
 refine F.ok sc_law_columns λ_ A _ s H vs Q E hr h=>?_;obtain⟨a,bs,rfl,⟨ts,hts,htl,htc⟩,lb,hw,hc,k⟩:=h
 refine⟨rfl,_,(ah (cN (i:=1) sc_law_columns.nd (bM (aa (dj ag) ag)))
 (ah (cJ PassesOwn.never rfl (bI K (pr 0)) (fX K (n:=2) rfl (bU (j7 (i:=2) sc_law_columns.nd) (bU (j7 (i:=3) sc_law_columns.nd) fY)))
 (ah (cN (i:=4) sc_law_columns.nd (bM ag))
 (ah (cJ PassesOwn.never rfl (bI K (pr 1)) (j7 (i:=5) sc_law_columns.nd)
 (ai (cJ PassesOwn.never rfl (oW rfl T.n_range (aa (pr 2) (aa (ao (xq K) (pr 3) ae) ag))) (j7 (i:=6) sc_law_columns.nd)
 (ai (bH (cf K PySem.F.plainAttrs_list PySem.F.slot_list_append PySem.F.type_list_append cE (pr 4) (aa (ao (xq K) (pr 5) (dj (aa (pr 6) ag))) ag)))))))
 (ai (cN (i:=1) sc_law_columns.nd (pr 4))))))
 (ai (ar (pr 1))))),?_⟩
 have hs:=sizeLine_eq;refine aN (λZ H'=>∃q:Addr,H q=none/\dq H' q (bJ [])/\Z=[↑a,↑q,none,none,none,none,none]/\av H H') ?_ ?_
 ·intro u' hu
  tm_at "r";refine⟨(),λt ht=>⟨(),λq hq=>?_⟩⟩;have s1:=au (o:=HO.tup []) ht;refine hu _ _ ⟨q,s1.free hq,⟨[t],af,rfl,λi p us e1 e2=>?_⟩,rfl,s1.upd hq⟩
  have hi:i=0:=by
   have:=(aa1.mp e1).1
   simp at this;exact this
  subst hi;cases e1;cases e2;exact(au hq) _ _ af
 rintro Ω ω _ H1 ⟨q,hq0,hq1,rfl,s1⟩;refine ω _ _ (aN (λZ H'=>∃(q:Addr) (o2 o3 o4 o5 o6:Option V),H q=none/\dq H' q (bJ bs)/\Z=[↑a,↑q,o2,o3,o4,o5,o6]/\av H H') ?_ ?_)
 ·intro u' hu
  tm_at "r";refine bR (s1.seq hts) (dR (xs:=ts.map V.ref) (λi Z H'=>∃(q:Addr) (o2 o3 o4 o5 o6:Option V),H q=none/\dq H' q (bJ (bs.take i))/\Z=[↑a,↑q,o2,o3,o4,o5,o6]/\av H H') ⟨q,none,none,none,none,none,hq0,hq1,rfl,s1⟩ (λi Z H' _ h=>?_) ?_ ?_)
  ·obtain⟨_,_,_,_,_,_,_,_,_,s'⟩:=h
   exact s'.seq hts
  ·rintro i y Z H2 hy ⟨q,o2,o3,o4,o5,o6,hq0,⟨ps,hq2,hpc⟩,rfl,s2⟩
   rw [aa4]at hy
   cases ht:ts[i]? with
   | none=>rw [ht]at hy;cases hy
   | some t=>
    rw [ht]at hy;cases hy
    have hi:i < bs.length:=by rw [<-htl];exact(aa1.mp ht).1
    have hb:bs[i]?=some bs[i]:=aa2 hi;tm_at "r";refine⟨_,s2.tup (htc i t _ ht hb),rfl,?_⟩;tm_at "r";refine⟨(),λp hp=>?_⟩;have s23:=au (o:=HO.lst []) hp;have hp3:(upd H2 p (HO.lst [])) p=some (.lst (([]:List Addr).map V.ref)):=af;generalize upd H2 p (HO.lst [])=H3 at s23 hp3;have ew:wN bs[i]<=400:=ab6 (Ej hw hb) hc
    have en:jL (bs.take (i+1))=jL (bs.take i) * wN bs[i]:=by
     rw [ac5,hb];exact lh _ _
    have en':=(jd hw (i+1)).2
    have ec:bJ (bs.take (i+1))=(bJ (bs.take i)).flatMap (eF bs[i]):=by
     rw [ac5,hb];exact nW _ _
    have ewd:=fG (bs.take i);have ecl:=gb (bs.take i);have hpl:=hpc.1;rw [ec];generalize bs[i]=b at *;generalize bJ (bs.take i)=cols at *;obtain⟨Pv,hPv⟩:∃Pv:Nat->L2.St->Hp->Prop,Pv=λj Z H'=>∃(o5 o6:Option V) (ps':List Addr),H' p=some (.lst (ps'.map V.ref))/\ip H' ps' ((cols.take j).flatMap (eF b))/\av H2 H'/\Z=[some (V.ref a),some (V.ref q),some (V.int b.1),some (V.int b.2),some (V.ref p),o5,o6]:=⟨_,rfl⟩;refine bR (aH.of (s23 _ _ hq2)) (dR (xs:=ps.map V.ref) Pv (by rw [hPv];exact⟨o5,o6,[],hp3,⟨rfl,λi p us e=>nomatch e⟩,s23,rfl⟩) (λj Z H' _ h=>?_) ?_ ?_)
    ·rw [hPv]at h
     obtain⟨_,_,_,_,_,s',_⟩:=h;exact aH.of (s' _ _ hq2)
    ·rintro j y Z H4 hy hI
     rw [hPv]at hI;obtain⟨o5,o6,ps',hp4,hT,s24,rfl⟩:=hI;rw [aa4]at hy
     cases hcj:ps[j]? with
     | none=>rw [hcj]at hy;cases hy
     | some c=>
      rw [hcj]at hy;cases hy
      have hj:j < cols.length:=by rw [<-hpl];exact(aa1.mp hcj).1
      have hcc:cols[j]?=some cols[j]:=aa2 hj;have hus:=hpc.2 j c _ hcj hcc;have hul:=ewd _ (ad7 hj)
      have estep:(cols.take (j+1)).flatMap (eF b)=(cols.take j).flatMap (eF b)++eF b cols[j]:=by
       rw [ac5,hcc,List.flatMap_append];simp
      have l1:((cols.take j).flatMap (eF b)).length<=400:=by
       rw [lj (hZ b),ac3];refine ab6 (al6 _ (aj4 _ _)) ?_;rw [ecl,<-en];omega
      generalize cols[j]=us at *;generalize(cols.take j).flatMap (eF b)=done1 at *;tm_at "r"
      have ek:(b.2+1 - b.1).toNat=wN b:=by unfold wN;omega
      rw [ek];refine cG (λm Z H'=>∃(o6:Option V) (ps':List Addr),H' p=some (.lst (ps'.map V.ref))/\ip H' ps' (done1++(eF b us).take m)/\av H2 H'/\Z=[some (V.ref a),some (V.ref q),some (V.int b.1),some (V.int b.2),some (V.ref p),↑c,o6]) ⟨o6,ps',hp4,by simpa using hT,s24,rfl⟩ ?_ ?_
      ·rintro m Z H5 hm ⟨o6,ps',hp5,hT5,s25,rfl⟩
       have hx:(eF b us)[m]?=some (us++[b.1+(m:Int)]):=by
        unfold eF;rw [aa4,ae4 hm];rfl
       tm_at "r";refine⟨.inl ⟨rfl,_,aH.of hp5⟩,(),λt ht=>?_⟩;have s56:=au (o:=HO.tup [V.int (b.1+(m:Int))]) ht;have ht2:(upd H5 t (HO.tup [V.int (b.1+(m:Int))])) t=some (.tup [V.int (b.1+(m:Int))]):=af;generalize upd H5 t (HO.tup [V.int (b.1+(m:Int))])=H6 at s56 ht2;refine uN ((s25.trans s56) _ _ hus) ht2 (by rw [aa0,hul,ac3];simp;omega) λz H7 s7 hz7=>?_;have s57:=s56.trans s7;have hp7:=s57 _ _ hp5
       have hz:H7 z=some (.tup ((us++[b.1+(m:Int)]).map V.int)):=by rw [hz7,ab3];rfl
       have ll:ps'.length<=800:=by
        rw [hT5.1,ab4,ac3];omega
       refine⟨p,_,_,rfl,rfl,hp7,by rw [aa0];omega,some (.int (b.1+(m:Int))),ps' ++ [z],by rw [af,ab3];rfl,?_,zw hp (s25.trans s57),rfl⟩;rw [ac5,hx,<-ak5];refine((hT5.same s57).append ⟨rfl,λi p us' e1 e2=>?_⟩).upd hp7
       have hi:i=0:=by
        have:=(aa1.mp e1).1
        simp at this;exact this
       subst hi;cases e1;cases e2;exact hz
      ·rintro Z H5 ⟨o6,ps',hp5,hT5,s25,rfl⟩
       rw [hPv];refine⟨_,_,ps',hp5,?_,s25,rfl⟩;rw [estep];rw [ag0 (by rw [hZ];omega)]at hT5;exact hT5
    ·rintro Z H4 hI
     rw [hPv]at hI;obtain⟨o5,o6,ps',hp4,hT,s24,rfl⟩:=hI;rw [aa0,hpl,ad5]at hT;tm_at "r";exact⟨p,s2.free hp,⟨ps',hp4,hT⟩,rfl,s2.trans s24⟩
  ·rintro Z H2 ⟨q,o2,o3,o4,o5,o6,hq0,hq2,rfl,s2⟩
   rw [aa0,htl,ad5]at hq2;exact hu _ _ ⟨q,o2,o3,o4,o5,o6,hq0,hq2,rfl,s2⟩
 rintro Ω ω _ H2 ⟨q,o2,o3,o4,o5,o6,hq0,hq2,rfl,s2⟩;refine ω _ _ ?_;tm_at "r";exact k q H2 hq0 hq2 s2
theorem A4(F:bV K "_law_whole" "_law_whole" jA f fd)(T:Txt mg aM): ~~~aK bP 1 f fd ["_law_found"] xI:=by
 refine F.ok tK λ_ A _ s H vs Q E hr h=>?_;obtain⟨i,rfl,q⟩:=h;refine⟨rfl,_,(ai (ar (gJ (eN (aB (eJ K) ⋯ T.n_isinstance boot_isinstance (aa (pr 0) (aa (lF (v:=.ty "int") ⋯ T.n_int boot_int rfl) ag))) (eA (D9 (A9 (aB (eJ K) ⋯ T.n_isinstance boot_isinstance (aa (pr 0) (aa (lF (v:=.ty "bool") ⋯ T.n_bool boot_bool rfl) ag)))))))))),?_⟩;tm_at "r";refine⟨_,.int _,true,rfl,?_⟩;rw [if_pos rfl];exact⟨_,.int _,false,rfl,q⟩
def vv(K:Frag)(H:Hp)(a:Addr)(n:Nat):Prop:=∃ys:List Int,aH K H a (ys.map V.int)/\ys.length=n/\∀y∈ys,0<=y/\y < 399999
theorem vv.same(h:vv K H a n)(s:av H H'):vv K H' a n:=let ⟨ys,h1,h2,h3⟩:=h;⟨ys,s.seq h1,h2,h3⟩
theorem vv.ix{i:Int}(h:vv K H a n)(h0:0<=i)(h1:i < n)(q:∀y:Int,0<=y->y < 399999->Q (.int y) H):ny K (.ref a) (.int i) H Q:=by
 obtain⟨ys,hs,hl,hy⟩:=h;refine iA hs h0 (by rw [aa0,hl];exact h1) λv hv _=>?_;obtain⟨y,m,rfl⟩:=ac4.mp hv;exact q y (hy y m).1 (hy y m).2
def pO(K:Frag):Sp:=λvs H Q _=>∃(a:Addr) (lst wide:Int),vs=[.ref a,.int lst,.int wide]/\vv K H a 14/\1<=wide/\lst.natAbs<=10 ^ 38/\∀(q:Addr) (D:List Int) H',1<=D.length->D.length<=12->(∀d∈D,d.natAbs<=10 ^ 39)->H q=none->H' q=some (.lst (D.map V.int))->av H H'->Q (.ref q) H'
theorem HF{lst x c:Int}(hb:lst.natAbs<=10 ^ 38)(x0:0<=x)(x1:x < 399999)(hc:0 < c)(hi:i < 12):(lst - 1+x % c+(i:Int)).natAbs<=10 ^ 39:=by
 have h0:=ad4 x (show c≠0 by omega)
 have h1:x % c<=x:=by
  obtain⟨n,rfl⟩:=ae0 x0;obtain⟨m,rfl⟩:=ae0 (Int.le_of_lt hc);exact ak3.mpr (Nat.mod_le n m)
 have e38:(10:Nat) ^ 38=100000000000000000000000000000000000000:=by decide +kernel
 have e39:(10:Nat) ^ 39=1000000000000000000000000000000000000000:=by decide +kernel
 rw [e38]at hb;rw [e39];generalize x % c=y at h0 h1;omega
theorem C6(F:bV K "_law_some" "_law_some" kz f fd)(T:Txt mg aM): ~~~aK bP 1 f fd ["_law_ways","_law_least","_law_wide"] (pO K):=by
 refine F.ok sc_law_some λ_ A _ s H vs Q E hr h=>?_;obtain⟨a,lst,wide,rfl,hd,w1,hb,k⟩:=h
 refine⟨rfl,_,(ah (cN (i:=3) sc_law_some.nd (ao (bF K) (ao (bF K) ae (ao (o1 aP) (aw (aD K) (pr 0) ae (λ_ _=>rfl)) ae)) (ao (jW K) ae (aV (c9) ⋯ T.n_int boot_int (aa (aT gA (ao (o1 aP) (aw (aD K) (pr 0) ae (λ_ _=>rfl)) ae) ae (az _)) ag)))))
 (ah (aO (aY (ay gA (ao (o1 aP) (aw (aD K) (pr 0) ae (λ_ _=>rfl)) ae) ae (az _))) (ai (ar (di (own:=["_law_k"]) (js:=[0,1,2]) rfl (cS rfl T.n_range (aa (pr 3) ag)) (bD.of ⋯) (λ_ _ _ _ _=>(bQ (i:=0) (show List.Nodup (["_law_k","_law_ways","_law_least","_law_wide"]:List Str)from by decide +kernel) rfl (Or.inl rfl))) (λ_ _ _ _ _=>cA) (λ_ _ _ _ _=>(ao (bF K) (ao (bF K) (ao (o0 bC) (pr 2) ae) (ao (o1 aP) (aw (aD K) (pr 1) ae (λ_ _=>rfl)) (ao (bF K) (pr 3) ae))) (pr 0)))))) aC)
 (ai (ar (di (own:=["_law_k"]) (js:=[0,1,2]) rfl (cS rfl T.n_range (aa (pr 3) ag)) (bD.of ⋯) (λ_ _ _ _ _=>(bQ (i:=0) (show List.Nodup (["_law_k","_law_ways","_law_least","_law_wide"]:List Str)from by decide +kernel) rfl (Or.inl rfl))) (λ_ _ _ _ _=>cA) (λ_ _ _ _ _=>(ao (bF K) (ao (o0 bC) (pr 2) ae) (ao (o1 aP) (aw (aD K) (pr 1) (ao (bF K) ae (pr 0)) (λ_ _=>rfl)) (ao (bF K) (pr 3) ae))))))))),?_⟩
 have hs:=sizeLine_eq;refine aN (λZ H'=>∃m:Int,1<=m/\m<=12/\Z=[↑a,⇑lst,⇑wide,⇑m]/\H=H') ?_ ?_
 ·intro u' hu
  tm_at "r";refine hd.ix ∅ ∅ λx x0 x1=>⟨x,rfl,∅,hd.ix ∅ ∅ λy y0 y1=>⟨y,rfl,∅,.of_left ∅,hu _ _ ⟨_,?_,?_,rfl,rfl⟩⟩⟩
  ·split<;>omega
  ·split<;>omega
 rintro Ω ω _ _ ⟨m,m1,m12,rfl,rfl⟩
 have fin:∀{ys:List V} {p:Addr},(∃ps:List Int,ys=ps.map V.int/\ps.length=m.toNat/\∀d∈ps,d.natAbs<=10 ^ 39)->H p=none->Q (.ref p) (upd H p (.lst ys)):=λ{ys p} h hp=>by
  obtain⟨ps,rfl,pl,pb⟩:=h;exact k p ps _ () () pb hp af (au hp)
 have put:∀{i:Nat} {d:Int} {ps:List Int},ps.length=i->(∀d∈ps,d.natAbs<=10 ^ 39)->d.natAbs<=10 ^ 39->∃qs:List Int,ps.map V.int++[.int d]=qs.map V.int/\qs.length=i+1/\∀d∈qs,d.natAbs<=10 ^ 39:=λ{i d ps} pl pb h=>⟨ps++[d],by rw [ab3];rfl,by rw [ab4,pl];rfl,λx hx=>by
  rcases ac8.mp hx with hx | hx
  ·exact pb x hx
  ·rw [ac1.mp hx];exact h⟩
 refine ω _ _ ?_;refine iX λRk rk=>?_;tm_at "r";refine hd.ix ∅ ∅ λy y0 y1=>⟨y,rfl,∅,?_⟩
 by_cases h3:y % 3=0
 ·rw [if_pos h3]
  refine⟨(),(),gG (λi ys H'=>∃ps:List Int,ys=ps.map V.int/\(ps.length=i/\∀d∈ps,d.natAbs<=10 ^ 39)/\H=H') () ⟨[],rfl,⟨rfl,λ_ z=>nomatch z⟩,rfl⟩ (λi ys H' h=>by obtain⟨_,rfl,⟨rfl,_⟩,_⟩:=h;rw [aa0];exact aa8 _) ?_ ?_⟩
  ·rintro i ys H' hi ⟨ps,rfl,⟨pl,pb⟩,rfl⟩
   tm_at "r";refine hd.ix ∅ ∅ λx x0 x1=>?_;tm_at "r";exact⟨(),put pl pb (HF (c:=wide+1) (i:=i) hb x0 x1 () ())⟩
  ·rintro ys H' ⟨ps,rfl,pl,rfl⟩ p hp
   exact fin ⟨ps,rfl,pl⟩ hp
 ·rw [if_neg h3]
  refine rk _ _ ?_;tm_at "r";refine⟨(),(),gG (λi ys H'=>∃ps:List Int,ys=ps.map V.int/\(ps.length=i/\∀d∈ps,d.natAbs<=10 ^ 39)/\H=H') () ⟨[],rfl,⟨rfl,λ_ z=>nomatch z⟩,rfl⟩ (λi ys H' h=>by obtain⟨_,rfl,⟨rfl,_⟩,_⟩:=h;rw [aa0];exact aa8 _) ?_ ?_⟩
  ·rintro i ys H' hi ⟨ps,rfl,⟨pl,pb⟩,rfl⟩
   tm_at "r";refine hd.ix () () λx x0 x1=>?_;tm_at "r"
   have:=HF (c:=wide+2) (i:=0) hb x0 x1 () ()
   rw [Int.natCast_zero,Int.add_zero]at this;exact⟨(),put pl pb this⟩
  ·rintro ys H' ⟨ps,rfl,pl,rfl⟩ p hp
   exact fin ⟨ps,rfl,pl⟩ hp
theorem bT.ix(h:bT K H a bs)(hi:i < bs.length)(q:∀t,cM K H t [.int (bs[i]).1,.int (bs[i]).2]->Q (.ref t) H):ny K (.ref a) (.int (i:Int)) H Q:=by
 obtain⟨ts,h1,h2,h3⟩:=h;have e1:ts[i]?=some (ts[i]'()):=aa2 ();exact bp h1 (aJ (by rw [aa4,e1];rfl)) (q _ (h3 i _ _ e1 (aa2 hi)))
theorem GO{x:V}(e:xs[1]?=some x):fV xs 1=some x:=show fV xs ((1:Nat):Int)=_ from aJ e
theorem vv.cut(h:vv K H a n)(q:∀p H',H p=none->vv K H' p (n - m)->av H H'->Q (.ref p) H'):uQ K (.ref a) (some ((m:Nat):Int)) none H Q:=by
 obtain⟨ys,hs,hl,hy⟩:=h;refine ck hs λp hp=>?_;rw [cC,<-List.map_drop];exact q p _ hp ⟨ys.drop m,aH.of af,by rw [ag1,hl],λy hy'=>hy y (al5 hy')⟩ (au hp)
def CF:c8->List V
 | .span o t _=>[.str "span",.int (o+1),.int (t+1)]
 | .clock o t h _=>[.str "clock",.int (o+1),.int (t+1),.int h]
 | .move o _=>[.str "move",.int (o+1)]
 | .alike o t _=>[.str "alike",.int (o+1),.int (t+1)]
 | .back o cX=>[.str "back",.int (o+1),.int cX]
 | .held o most=>[.str "held",.int (o+1),.int most]
 | .times o nt lw hg=>[.str "times",.int (o+1),.int nt,.int lw,.int hg]
 | .begin o _=>[.str "begin",.int (o+1)]
 | .close o _=>[.str "close",.int (o+1)]
def Ca:c8->Option (List Int)
 | .span _ _ D=>some D
 | .clock _ _ _ D=>some D
 | .move _ D=>some D
 | .alike _ _ D=>some D
 | .begin _ D=>some D
 | .close _ D=>some D
 | _=>none
def eH(H:Hp)(p:Addr)(R:c8):Prop:=match Ca R with
 | none=>H p=some (.tup (CF R))
 | some D=>∃l,H p=some (.tup (CF R++[.ref l]))/\H l=some (.lst (D.map V.int))
theorem eH.same(h:eH H p R)(s:av H H'):eH H' p R:=by
 unfold eH at h |-
 split
 ·rename_i e
  rw [e]at h;exact s _ _ h
 ·rename_i D e
  rw [e]at h;obtain⟨l,h1,h2⟩:=h;exact⟨l,s _ _ h1,s _ _ h2⟩
def dU(H:Hp)(p:Addr):aL->Prop
 | .plain R=>eH H p R
 | .every m a R=>∃q,H p=some (.tup [.str "every",.int m,.int a,.ref q])/\eH H q R
theorem dU.same{R:aL}(h:dU H p R)(s:av H H'):dU H' p R:=by
 cases R with
 | plain R=>exact eH.same h s
 | every m a R=>
  obtain⟨q,h1,h2⟩:=h;exact⟨q,s _ _ h1,h2.same s⟩
def Hm(nv:Nat)(R:c8):Prop:=mY nv R/\Cb R/\dC (.plain R)<=3/\1<=dC (.plain R)
def pM(K:Frag):Sp:=λvs H Q _=>∃(a r:Addr) (bs:List (Int×Int)) (kd:Int),vs=[.ref a,.ref r,.int kd]/\vv K H a 18/\bT K H r bs/\1<=bs.length/\bs.length<=4/\(∀b∈bs,xr b)/\0<=kd/\kd<=2/\∀(p:Addr) (R:c8) H',Hm bs.length R->(kd < 2->Ag R)->eH H' p R->av H H'->Q (.ref p) H'
theorem sV(F:bV K "_law_pair_rule" "_law_pair_rule" fU f fd)(T:Txt mg aM)(D_law_some: ~~~cy "_law_some" 1 ["_law_ways","_law_least","_law_wide"] (pO K)): ~~~aK bP 2 f fd ["_law_ways","_law_ranges_here","_law_kind"] (pM K):=by
 refine F.ok sc_law_pair_rule λ_ A _ s H vs Q E hr h=>?_;obtain⟨a,r,bs,kd,rfl,hd,hR,b1,b4,hb,k0,k2,k⟩:=h
 refine⟨rfl,_,(ah (cN (i:=3) sc_law_pair_rule.nd (ao (o1 aP) (aw (aD K) (pr 0) ae (λ_ _=>rfl)) (aB (aE K) ⋯ T.n_len boot_len (aa (pr 1) ag))))
 (ah (cN (i:=4) sc_law_pair_rule.nd (ao (o1 aP) (aw (aD K) (pr 0) ae (λ_ _=>rfl)) (aB (aE K) ⋯ T.n_len boot_len (aa (pr 1) ag))))
 (ah (cN (i:=5) sc_law_pair_rule.nd (ao (o0 bC) (aw (aD K) (aw (aD K) (pr 1) (pr 4) (λ_ _=>rfl)) ae (λ_ _=>rfl)) (aw (aD K) (aw (aD K) (pr 1) (pr 3) (λ_ _=>rfl)) ae (λ_ _=>rfl))))
 (ah (cN (i:=6) sc_law_pair_rule.nd (ao (bF K) (ao (o0 bC) (ao (o0 bC) (aw (aD K) (aw (aD K) (pr 1) (pr 4) (λ_ _=>rfl)) ae (λ_ _=>rfl)) (aw (aD K) (aw (aD K) (pr 1) (pr 3) (λ_ _=>rfl)) ae (λ_ _=>rfl))) (pr 5)) ae))
 (ah (cN (i:=7) sc_law_pair_rule.nd (aA D_law_some hr ⋯ (aa (bo (eX K) (pr 0) (eP ae) bw) (aa (pr 5) (aa (pr 6) ag)))))
 (ah (aO (aY (ay gA (pr 2) ae (az _))) (ah (tq (i:=8) sc_law_pair_rule.nd rfl (Or.inr rfl) (ao (bF K) ae (ao (o1 aP) (aw (aD K) (pr 0) ae (λ_ _=>rfl)) (aw (aD K) (bM (aa ae (aa ae (aa ae ag)))) (ao (o1 aP) (ao (o1 cu) (aw (aD K) (pr 0) ae (λ_ _=>rfl)) ae) ae) (λ_ _=>rfl)))))
 (ai (ar (dj (aa ba (aa (ao (bF K) (pr 3) ae) (aa (ao (bF K) (pr 4) ae) (aa (pr 8) (aa (di (own:=["_law_number"]) (js:=[8]) rfl (bI K (pr 7)) (bD.of ⋯) (λ_ _ _ _ _=>(bQ (i:=0) (show List.Nodup (["_law_number","_law_by"]:List Str)from by decide +kernel) rfl (Or.inl rfl))) (λ_ _ _ _ _=>cA) (λ_ _ _ _ _=>(ao (o1 aP) (pr 0) (pr 1)))) ag))))))))) aC)
 (ai (ar (dj (aa (aw (aD K) (bM (aa ba (aa ba (aa ba ag)))) (pr 2) (λ_ _=>rfl)) (aa (ao (bF K) (pr 3) ae) (aa (ao (bF K) (pr 4) ae) (aa (pr 7) ag))))))))))))),?_⟩
 have hs:=sizeLine_eq
 have len:∀x:Int,0<=x->∃xs,(aH K H r xs\/cM K H r xs)/\0 < (xs.length:Int)/\∃i:Nat,i < bs.length/\x % (xs.length:Int)=i:=λx x0=>by
  obtain⟨ts,h1,h2,_⟩:=hR;refine⟨_,.inl h1,?_⟩;rw [aa0,h2];obtain⟨i,hi⟩:=ae0 (ad4 x (show((bs.length:Nat):Int)≠0 by omega))
  have:=ac7 x (show(0:Int) < (bs.length:Nat)by omega)
  rw [hi]at this;exact⟨(),i,(),hi⟩
 refine aN (λZ H'=>∃i:Nat,i < bs.length/\Z=[↑a,↑r,⇑kd,⇑i,none,none,none,none,none]/\H=H') ?_ ?_
 ·intro u' hu
  tm_at "r";refine hd.ix ∅ ∅ λx x0 _=>?_;tm_at "r";obtain⟨xs,h1,h2,i,hi,e⟩:=len x x0;refine⟨xs,h1,h2,?_⟩;rw [e];exact hu _ _ ⟨i,hi,rfl,rfl⟩
 rintro Ω ω _ _ ⟨i,hi,rfl,rfl⟩;refine ω _ _ (aN (λZ H'=>∃j:Nat,j < bs.length/\Z=[↑a,↑r,⇑kd,⇑i,⇑j,none,none,none,none]/\H=H') ?_ ?_)
 ·intro u' hu
  tm_at "r";refine hd.ix ∅ ∅ λx x0 _=>?_;tm_at "r";obtain⟨xs,h1,h2,i,hi,e⟩:=len x x0;refine⟨xs,h1,h2,?_⟩;rw [e];exact hu _ _ ⟨i,hi,rfl,rfl⟩
 rintro Ω ω _ _ ⟨j,hj,rfl,rfl⟩;have bi:=hb _ (ad7 hi);have bj:=hb _ (ad7 hj);obtain⟨i1,i2,i3⟩:=bi;obtain⟨j1,j2,j3⟩:=bj;have e36:=GW
 have e38:(10:Nat) ^ 38=100000000000000000000000000000000000000:=by decide +kernel
 rw [e36]at i2 j2;refine ω _ _ (aN (λZ H'=>∃ls:Int,ls.natAbs<=10 ^ 38/\ls=(bs[j]).1 - (bs[i]).2/\Z=[↑a,↑r,⇑kd,⇑i,⇑j,⇑ls,none,none,none]/\H=H') ?_ ?_)
 ·intro u' hu
  tm_at "r";refine hR.ix hj λt ht=>dy ht (bE rfl) (hR.ix hi λt2 ht2=>dy ht2 (GO rfl) ?_);tm_at "r";exact hu _ _ ⟨_,by rw [e38];omega,rfl,rfl,rfl⟩
 rintro Ω ω _ _ ⟨ls,ls1,lse,rfl,rfl⟩;refine ω _ _ (aN (λZ H'=>∃wd:Int,1<=wd/\Z=[↑a,↑r,⇑kd,⇑i,⇑j,⇑ls,⇑wd,none,none]/\H=H') ?_ ?_)
 ·intro u' hu
  tm_at "r";refine hR.ix hj λt ht=>dy ht (GO rfl) (hR.ix hi λt2 ht2=>dy ht2 (bE rfl) ?_);tm_at "r";exact hu _ _ ⟨_,(),rfl,rfl⟩
 rintro Ω ω _ _ ⟨wd,wd1,rfl,rfl⟩;refine ω _ _ (aN (λZ H'=>∃(q:Addr) (D:List Int),1<=D.length/\D.length<=12/\(∀d∈D,d.natAbs<=10 ^ 39)/\H' q=some (.lst (D.map V.int))/\Z=[↑a,↑r,⇑kd,⇑i,⇑j,⇑ls,⇑wd,↑q,none]/\av H H') ?_ ?_)
 ·intro u' hu
  tm_at "r";exact vv.cut (m:=4) hd λp H1 hp hp1 s1=>⟨p,ls,wd,rfl,hp1,wd1,ls1,λq D H2 d1 d12 dB hq0 hq s2=>hu _ _ ⟨q,D,d1,d12,dB,hq,rfl,s1.trans s2⟩⟩
 rintro Ω ω _ H1 ⟨q,D,d1,d12,dB,hq,rfl,s1⟩;have hd1:=hd.same s1;have oi:(0:Int)<=i/\(i:Int) < bs.length:=⟨ai5 i,ao3.mpr hi⟩;have oj:(0:Int)<=j/\(j:Int) < bs.length:=⟨ai5 j,ao3.mpr hj⟩;have i40:((i:Int)+1).natAbs < 10 ^ 40:=aa7 (show _<=4 by omega) ∅;have j40:((j:Int)+1).natAbs < 10 ^ 40:=aa7 (show _<=4 by omega) ∅;refine ω _ _ (aN (λZ H'=>kd≠1/\Z=[↑a,↑r,⇑kd,⇑i,⇑j,⇑ls,⇑wd,↑q,none]/\H1=H') ?_ ?_)
 ·intro u' hu
  refine cv λA0 B0 hA hB=>?_;tm_at "r"
  by_cases h1:kd=1
  ·rw [if_pos h1]
   refine hA _ ?_;tm_at "r";refine hd1.ix ∅ ∅ λy y0 _=>⟨(),λp hp=>?_⟩;have s2:=au (o:=.lst [.int 5,.int 12,.int 99991]) hp;refine(hd1.same s2).ix ∅ ∅ λz z0 _=>⟨z,rfl,⟨∅,∅⟩,∅,?_⟩;refine iA (aH.of af) () (by simp;omega) λv hv _=>?_
   obtain⟨m,rfl,m0,m1⟩:∃m:Int,v=.int m/\0 < m/\m<=99991:=by
    simp only [ab0,ad2,or_false]at hv
    rcases hv with rfl | rfl | rfl<;>exact⟨_,rfl,∅,∅⟩
   refine⟨y,rfl,m,rfl,m0,?_⟩;have r0:=ad4 y (show m≠0 by omega);have r1:=ac7 y m0;generalize upd H1 p (.lst [.int 5,.int 12,.int 99991])=H2 at s2;have hq2:=s2 _ _ hq;refine bR (aH.of hq2) (bW (xs:=D.map V.int) (λn ys H'=>∃ps:List Int,ys=ps.map V.int/\(ps.length=n/\∀d∈ps,d.natAbs < 10 ^ 40)/\H2=H') (by rw [aa0];omega) ⟨[],rfl,⟨rfl,λ_ z=>nomatch z⟩,rfl⟩ (λn ys H' h=>by obtain⟨_,rfl,⟨rfl,_⟩,_⟩:=h;rw [aa0];exact aa8 _) (λn ys H' h=>by obtain⟨_,_,_,rfl⟩:=h;exact aH.of hq2) ?_ ?_)
   ·rintro n x ys H' hx ⟨ps,rfl,⟨pl,pb⟩,rfl⟩
    obtain⟨d,_,rfl⟩:=ac4.mp (ac0 hx);tm_at "r";have q0:=ad4 d (show 1+y % m≠0 by omega);have q1:=ac7 d (show 0 < 1+y % m by omega);refine⟨(),ps++[_],by rw [ab3];rfl,by rw [ab4,pl];rfl,λx hx=>?_⟩;rcases ac8.mp hx with hx | hx
    ·exact pb x hx
    ·rw [ac1.mp hx]
     exact aa7 (show _<=99992 by omega) ∅
   ·rintro ys H' ⟨ps,rfl,⟨pl,pb⟩,rfl⟩ p1 hp1
    rw [aa0]at pl;refine⟨(),λp2 hp2=>k p2 (.clock i j (1+y % m) ps) _ ⟨⟨oi.1,oi.2,oj.1,oj.2,()⟩,⟨ad1.mpr ⟨i40,ad1.mpr ⟨j40,ad1.mpr ⟨aa7 (show _<=99991 by omega) ∅,pb⟩⟩⟩,(),()⟩,show(1:Int)<=3 by decide,show(1:Int)<=1 by decide⟩ (λ_=>trivial) ⟨p1,af,(au hp2) _ _ af⟩ (((s1.trans s2).upd hp1).upd hp2)⟩
  ·rw [if_neg h1]
   exact hB _ (hu _ _ ⟨h1,rfl,rfl⟩)
 rintro Ω ω _ _ ⟨h1,rfl,rfl⟩;refine ω _ _ ?_;tm_at "r";refine⟨(),λp hp=>?_⟩;have s2:=au (o:=.lst [.str (Str.ofString "span"),.str (Str.ofString "clock"),.str (Str.ofString "alike")]) hp;have dB':∀d∈D,d.natAbs < 10 ^ 40:=λd h=>aa7 (dB d h) ∅
 have h02:kd=0\/kd=2:=by omega
 rcases h02 with rfl | rfl
 ·refine bp (aH.of af) (bE rfl) ⟨(),λp2 hp2=>?_⟩
  exact k p2 (.span i j D) _ ⟨⟨oi.1,oi.2,oj.1,oj.2⟩,⟨ad1.mpr ⟨i40,ad1.mpr ⟨j40,dB'⟩⟩,d1,d12⟩,show(1:Int)<=3 by decide,show(1:Int)<=1 by decide⟩ (λ_=>trivial) ⟨q,af,(s2.upd hp2) _ _ hq⟩ ((s1.trans s2).upd hp2)
 ·refine bp (aH.of af) (show fV _ ((2:Nat):Int)=_ from aJ rfl) ⟨(),λp2 hp2=>?_⟩
  exact k p2 (.alike i j D) _ ⟨⟨oi.1,oi.2,oj.1,oj.2⟩,⟨ad1.mpr ⟨i40,ad1.mpr ⟨j40,dB'⟩⟩,d1,d12⟩,show(1:Int)<=3 by decide,show(1:Int)<=1 by decide⟩ (λz=>absurd z ∅) ⟨q,af,(s2.upd hp2) _ _ hq⟩ ((s1.trans s2).upd hp2)
def nh(K:Frag):Sp:=λvs H Q _=>∃(a r:Addr) (bs:List (Int×Int)) (kd:Int),vs=[.ref a,.ref r,.int kd]/\vv K H a 18/\bT K H r bs/\1<=bs.length/\bs.length<=4/\(∀b∈bs,xr b)/\0<=kd/\kd<=5/\∀(p:Addr) (R:c8) H',Hm bs.length R->eH H' p R->av H H'->Q (.ref p) H'
theorem qF(F:bV K "_law_voice_rule" "_law_voice_rule" fv f fd)(T:Txt mg aM)(D_law_some: ~~~cy "_law_some" 1 ["_law_ways","_law_least","_law_wide"] (pO K)): ~~~aK bP 2 f fd ["_law_ways","_law_ranges_here","_law_kind"] (nh K):=by
 refine F.ok sc_law_voice_rule λ_ A _ s H vs Q E hr h=>?_;obtain⟨a,r,bs,kd,rfl,hd,hR,b1,b4,hb,k0,k5,k⟩:=h
 refine⟨rfl,_,(ah (cN (i:=3) sc_law_voice_rule.nd (ao (bF K) ae (ao (o1 aP) (aw (aD K) (pr 0) ae (λ_ _=>rfl)) (aB (aE K) ⋯ T.n_len boot_len (aa (pr 1) ag)))))
 (ah (mv (aw (aD K) (pr 1) (ao (o0 bC) (pr 3) ae) (λ_ _=>rfl)) (fX K (n:=2) rfl (bU (j7 (i:=4) sc_law_voice_rule.nd) (bU (j7 (i:=5) sc_law_voice_rule.nd) fY))))
 (ah (cN (i:=6) sc_law_voice_rule.nd (ao (bF K) (ao (o0 bC) (pr 5) (pr 4)) ae))
 (ah (aO (aY (ay gA (pr 2) ae (az _))) (ai (ar (dj (aa ba (aa (pr 3) (aa (aA D_law_some hr ⋯ (aa (bo (eX K) (pr 0) (eP ae) bw) (aa (ao (o0 bC) ae (pr 6)) (aa (ao (o0 bC) (ao (jW K) ae (pr 6)) ae) ag)))) ag)))))) aC)
 (ah (aO (aY (ay gA (pr 2) ae (az _))) (ai (ar (dj (aa ba (aa (pr 3) (aa (ao (o1 aP) (aw (aD K) (pr 0) ae (λ_ _=>rfl)) (ao (bF K) (pr 6) ae)) ag)))))) aC)
 (ah (aO (aY (ay gA (pr 2) ae (az _))) (ai (ar (dj (aa ba (aa (pr 3) (aa (ao (bF K) ae (ao (o1 aP) (aw (aD K) (pr 0) ae (λ_ _=>rfl)) ae)) ag)))))) aC)
 (ah (aO (aY (ay gA (pr 2) ae (az _))) (ah (cN (i:=7) sc_law_voice_rule.nd (ao (o1 aP) (aw (aD K) (pr 0) ae (λ_ _=>rfl)) ae))
 (ai (ar (dj (aa ba (aa (pr 3) (aa (ao (bF K) (pr 4) (ao (o1 aP) (aw (aD K) (pr 0) ae (λ_ _=>rfl)) (pr 6))) (aa (ao (jW K) (ao (o1 aP) (aw (aD K) (pr 0) ae (λ_ _=>rfl)) (ao (bF K) (pr 7) ae)) (ao (o1 aP) (aw (aD K) (pr 0) ae (λ_ _=>rfl)) ae)) (aa (pr 7) ag))))))))) aC)
 (ai (ar (dj (aa (aw (aD K) (bM (aa ba (aa ba ag))) (ao (o1 aP) (pr 2) ae) (λ_ _=>rfl)) (aa (pr 3) (aa (aA D_law_some hr ⋯ (aa (bo (eX K) (pr 0) (eP ae) bw) (aa (pr 4) (aa (pr 6) ag)))) ag))))))))))))),?_⟩
 have hs:=sizeLine_eq;refine aN (λZ H'=>∃i:Nat,i < bs.length/\Z=[↑a,↑r,⇑kd,⇑(i+1),none,none,none,none]/\H=H') ?_ ?_
 ·intro u' hu
  tm_at "r";refine hd.ix ∅ ∅ λx x0 _=>?_;tm_at "r";obtain⟨ts,h1,h2,_⟩:=hR;refine⟨_,.inl h1,?_⟩;rw [aa0,h2];obtain⟨i,hi⟩:=ae0 (ad4 x (show((bs.length:Nat):Int)≠0 by omega))
  have:=ac7 x (show(0:Int) < (bs.length:Nat)by omega)
  rw [hi]at this |-;rw [Int.add_comm];exact⟨(),hu _ _ ⟨i,(),rfl,rfl⟩⟩
 rintro Ω ω _ _ ⟨i,hi,rfl,rfl⟩;obtain⟨lo,hlo⟩:∃lo,(bs[i]).1=lo:=⟨_,rfl⟩;obtain⟨hg,hhi⟩:∃hg,(bs[i]).2=hg:=⟨_,rfl⟩;obtain⟨l1,l2,l3⟩:=hb _ (ad7 hi);rw [hlo,hhi]at l1 l3;rw [hlo]at l2;have e36:=GW
 have e38:(10:Nat) ^ 38=100000000000000000000000000000000000000:=by decide +kernel
 have e40:=HP;rw [e36]at l2;refine ω _ _ (aN (λZ H'=>Z=[↑a,↑r,⇑kd,⇑(i+1),⇑lo,⇑hg,none,none]/\H=H') ?_ ?_)
 ·intro u' hu
  tm_at "r";rw [show(i:Int)+1 - 1=i by omega];refine hR.ix hi λt ht=>⟨t,rfl,_,ht,rfl,?_⟩;rw [hlo,hhi];tm_at "r";exact hu _ _ ⟨rfl,rfl⟩
 rintro Ω ω _ _ ⟨rfl,rfl⟩;refine ω _ _ (aN (λZ H'=>∃wd:Int,wd=hg - lo+1/\Z=[↑a,↑r,⇑kd,⇑(i+1),⇑lo,⇑hg,⇑wd,none]/\H=H') ?_ ?_)
 ·intro u' hu
  tm_at "r";exact hu _ _ ⟨_,rfl,rfl,rfl⟩
 rintro Ω ω _ _ ⟨wd,hwd,rfl,rfl⟩
 have w1:1<=wd:=by omega
 have w12:wd<=12:=by omega
 have oi:(0:Int)<=i/\(i:Int) < bs.length:=⟨ai5 i,ao3.mpr hi⟩;have i40:((i:Int)+1).natAbs < 10 ^ 40:=aa7 (show _<=4 by omega) ∅;have dB':∀{D:List Int},(∀d∈D,d.natAbs<=10 ^ 39)->∀d∈D,d.natAbs < 10 ^ 40:=λh d hd=>aa7 (h d hd) ∅;refine ω _ _ (aN (λZ H'=>kd≠0/\Z=[↑a,↑r,⇑kd,⇑(i+1),⇑lo,⇑hg,⇑wd,none]/\H=H') ?_ ?_)
 ·intro u' hu
  refine cv λA0 B0 hA hB=>?_;tm_at "r"
  by_cases h1:kd=0
  ·rw [if_pos h1]
   refine hA _ ?_;tm_at "r";exact vv.cut (m:=4) hd λp H1 hp hp1 s1=>⟨.of_left ∅,p,_,_,rfl,hp1,(),by rw [e38];omega,λq D H2 d1 d12 dB hq0 hq s2=>⟨(),λp2 hp2=>k p2 (.move i D) _ ⟨oi,⟨ad1.mpr ⟨i40,dB' dB⟩,d1,d12⟩,show(1:Int)<=3 by decide,show(1:Int)<=1 by decide⟩ ⟨q,af,(au hp2) _ _ hq⟩ ((s1.trans s2).upd hp2)⟩⟩
  ·rw [if_neg h1]
   exact hB _ (hu _ _ ⟨h1,rfl,rfl⟩)
 rintro Ω ω _ _ ⟨n0,rfl,rfl⟩;refine ω _ _ (aN (λZ H'=>kd≠1/\Z=[↑a,↑r,⇑kd,⇑(i+1),⇑lo,⇑hg,⇑wd,none]/\H=H') ?_ ?_)
 ·intro u' hu
  refine cv λA0 B0 hA hB=>?_;tm_at "r"
  by_cases h1:kd=1
  ·rw [if_pos h1]
   refine hA _ ?_;tm_at "r";refine hd.ix ∅ ∅ λx x0 x1=>⟨x,rfl,(),(),λp hp=>?_⟩;have r0:=ad4 x (show wd+1≠0 by omega);have r1:=ac7 x (show 0 < wd+1 by omega);exact k p (.back i (x % (wd+1))) _ ⟨⟨oi.1,oi.2,r0⟩,⟨ad1.mpr ⟨i40,ad1.mpr ⟨aa7 (show _<=13 by omega) ∅,λ_ z=>nomatch z⟩⟩,trivial⟩,show(3:Int)<=3 by decide,show(1:Int)<=3 by decide⟩ af (au hp)
  ·rw [if_neg h1]
   exact hB _ (hu _ _ ⟨h1,rfl,rfl⟩)
 rintro Ω ω _ _ ⟨n1,rfl,rfl⟩;refine ω _ _ (aN (λZ H'=>kd≠2/\Z=[↑a,↑r,⇑kd,⇑(i+1),⇑lo,⇑hg,⇑wd,none]/\H=H') ?_ ?_)
 ·intro u' hu
  refine cv λA0 B0 hA hB=>?_;tm_at "r"
  by_cases h1:kd=2
  ·rw [if_pos h1]
   refine hA _ ?_;tm_at "r";refine hd.ix ∅ ∅ λx x0 x1=>⟨x,rfl,∅,(),λp hp=>?_⟩;have r0:=ad4 x (show(3:Int)≠0 by decide);have r1:=ac7 x (show(0:Int) < 3 by decide);generalize x % 3=y at r0 r1;exact k p (.held i (1+y)) _ ⟨⟨oi.1,oi.2,()⟩,⟨ad1.mpr ⟨i40,ad1.mpr ⟨aa7 (show _<=13 by omega) ∅,λ_ z=>nomatch z⟩⟩,trivial⟩,show 1+y<=3 by omega,show 1<=1+y by omega⟩ af (au hp)
  ·rw [if_neg h1]
   exact hB _ (hu _ _ ⟨h1,rfl,rfl⟩)
 rintro Ω ω _ _ ⟨n2,rfl,rfl⟩;refine ω _ _ (aN (λZ H'=>kd≠3/\Z=[↑a,↑r,⇑kd,⇑(i+1),⇑lo,⇑hg,⇑wd,none]/\H=H') ?_ ?_)
 ·intro u' hu
  refine cv λA0 B0 hA hB=>?_;tm_at "r"
  by_cases h1:kd=3
  ·rw [if_pos h1]
   refine hA _ ?_;tm_at "r";refine hd.ix ∅ ∅ λx x0 x1=>⟨x,rfl,∅,hd.ix ∅ ∅ λy y0 y1=>⟨y,rfl,(),hd.ix ∅ ∅ λz z0 z1=>⟨z,rfl,(),hd.ix ∅ ∅ λv v0 v1=>⟨v,rfl,∅,?_⟩⟩⟩⟩;have r0:=ad4 x (show(3:Int)≠0 by decide);have r1:=ac7 x (show(0:Int) < 3 by decide);generalize x % 3=mo at r0 r1;have y0':=ad4 y (show wd≠0 by omega);have y1':=ac7 y (show 0 < wd by omega);generalize y % wd=yy at y0' y1';have z0':=ad4 z (show mo+2≠0 by omega);have z1':=ac7 z (show 0 < mo+2 by omega);generalize z % (mo+2)=zz at z0' z1'
   obtain⟨lw,hlw,lw0,lw3⟩:∃lw,zz * (v % 2)=lw/\0<=lw/\lw<=3:=by
    have h2:v % 2=0\/v % 2=1:=by omega
    rcases h2 with e | e<;>rw [e]
    ·exact⟨0,(),∅,∅⟩
    ·exact⟨zz,(),(),()⟩
   have h2:v % 2=0\/v % 2=1:=by omega
   refine⟨.of_right (intBits_le_iff.mpr ()),(),λp hp=>?_⟩;rw [hlw];exact k p (.times i (lo+yy) lw mo) _ ⟨⟨oi.1,oi.2,r0⟩,⟨ad1.mpr ⟨i40,ad1.mpr ⟨by rw [e40];omega,ad1.mpr ⟨aa7 (show _<=3 by omega) ∅,ad1.mpr ⟨aa7 (show _<=3 by omega) ∅,λ_ z=>nomatch z⟩⟩⟩⟩,lw0⟩,show mo+1<=3 by omega,show 1<=mo+1 by omega⟩ af (au hp)
  ·rw [if_neg h1]
   exact hB _ (hu _ _ ⟨h1,rfl,rfl⟩)
 rintro Ω ω _ _ ⟨n3,rfl,rfl⟩;refine ω _ _ ?_;tm_at "r";refine⟨(),λp hp=>⟨∅,?_⟩⟩;have s0:=au (o:=.lst [.str (Str.ofString "begin"),.str (Str.ofString "close")]) hp
 have h45:kd=4\/kd=5:=by omega
 have fin:∀{z:Str} {R:List Int->c8},(∀D,CF (R D)=[.str z,.int (i+1)]/\Ca (R D)=some D/\((∀d∈D,d.natAbs < 10 ^ 40)->1<=D.length->D.length<=12->Hm bs.length (R D)))->uQ K (.ref a) (some 4) none (upd H p (.lst [.str (Str.ofString "begin"),.str (Str.ofString "close")])) λx_1 H1=>pO K [x_1,.int lo,.int wd] H1 (λx_2 H1=>0+1+1+1<=sizeLine/\∀(p:Addr),H1 p=none->Q (.ref p) (upd H1 p (.tup [.str z,.int (i+1),x_2]))) E0:=λ{z R} h=>by
  refine vv.cut (m:=4) (hd.same s0) λp1 H1 hp hp1 s1=>⟨p1,_,_,rfl,hp1,w1,by rw [e38];omega,λq D H2 d1 d12 dB hq0 hq s2=>⟨(),λp2 hp2=>k p2 (R D) _ ((h D).2.2 (dB' dB) d1 d12) ?_ ((s0.trans (s1.trans s2)).upd hp2)⟩⟩;unfold eH;rw [(h D).2.1,(h D).1];exact⟨q,af,(au hp2) _ _ hq⟩
 rcases h45 with rfl | rfl
 ·exact bp (aH.of af) (show fV _ (4 % 2)=_ from bE rfl) (fin (R:=λD=>.begin i D) λD=>⟨rfl,rfl,λhD d1 d12=>⟨oi,⟨ad1.mpr ⟨i40,hD⟩,d1,d12⟩,show(1:Int)<=3 by decide,show(1:Int)<=1 by decide⟩⟩)
 ·exact bp (aH.of af) (show fV _ ((1:Nat):Int)=_ from aJ rfl) (fin (R:=λD=>.close i D) λD=>⟨rfl,rfl,λhD d1 d12=>⟨oi,⟨ad1.mpr ⟨i40,hD⟩,d1,d12⟩,show(1:Int)<=3 by decide,show(1:Int)<=1 by decide⟩⟩)
def rE(nv:Nat)(R:aL):Prop:=cQ nv R/\uz R/\1<=dC R/\dC R<=3
def Bv(K:Frag):Sp:=λvs H Q _=>∃(r:Addr) (bs:List (Int×Int)) (c:Int),vs=[.int c,.ref r]/\bT K H r bs/\1<=bs.length/\bs.length<=4/\(∀b∈bs,xr b)/\∀(p:Addr) (R:aL) H',rE bs.length R->dU H' p R->av H H'->Q (.ref p) H'
def Bw(K:Frag):Sp:=λvs H Q _=>∃(p:Addr) (R:aL),vs=[.ref p]/\dU H p R/\Q (.int (dC R)) H
theorem dU.hd{R:aL}(h:dU H p R):∃xs:List V,H p=some (.tup xs)/\xs[0]?=some (.str (match R with | .plain R=>aR R | .every _ _ _=>"every")):=by
 cases R with
 | every m a R=>obtain⟨q,h1,_⟩:=h;exact⟨_,h1,rfl⟩
 | plain R=>
  unfold dU eH at h
  cases R<;>first | exact⟨_,h,rfl⟩ | (obtain⟨l,h1,_⟩:=h;exact⟨_,h1,rfl⟩)
theorem C4(F:bV K "_law_rule" "_law_rule" kx f fd)(T:Txt mg aM)(D_law_draws: ~~~cy "_law_draws" 2 ["_law_cell","_law_many"] lR)(D_law_pair_rule: ~~~cy "_law_pair_rule" 2 ["_law_ways","_law_ranges_here","_law_kind"] (pM K))(D_law_voice_rule: ~~~cy "_law_voice_rule" 2 ["_law_ways","_law_ranges_here","_law_kind"] (nh K)): ~~~aK bP 3 f fd ["_law_cell","_law_ranges_here"] (Bv K):=by
 refine F.ok sc_law_rule λ_ A _ s H vs Q E hr h=>?_;obtain⟨r,bs,c,rfl,hR,b1,b4,hb,k⟩:=h
 refine⟨rfl,_,(ah (cN (i:=2) sc_law_rule.nd (aA D_law_draws hr ⋯ (aa (pr 0) (aa ae ag))))
 (ah (cN (i:=3) sc_law_rule.nd (ao (o1 aP) (ao (o1 cu) (pr 0) ae) ae))
 (ah (aO (aY (ay (o0 jX) (pr 3) ae (az _))) (ai (ar (aA D_law_pair_rule hr ⋯ (aa (pr 2) (aa (pr 1) (aa (pr 3) ag)))))) aC)
 (ah (aO (aY (ay (o0 jX) (pr 3) ae (az _))) (ai (ar (aA D_law_voice_rule hr ⋯ (aa (pr 2) (aa (pr 1) (aa (ao (o0 bC) (pr 3) ae) ag)))))) aC)
 (ah (cN (i:=4) sc_law_rule.nd (ao (bF K) ae (ao (o1 aP) (aw (aD K) (pr 2) ae (λ_ _=>rfl)) ae)))
 (ai (ar (dj (aa ba (aa (pr 4) (aa (ao (o1 aP) (aw (aD K) (pr 2) ae (λ_ _=>rfl)) (pr 4)) (aa (aA D_law_pair_rule hr ⋯ (aa (pr 2) (aa (pr 1) (aa (ao (o1 aP) (aw (aD K) (pr 2) ae (λ_ _=>rfl)) ae) ag)))) ag)))))))))))),?_⟩
 have hs:=sizeLine_eq;refine aN (λZ H'=>∃a:Addr,vv K H' a 18/\Z=[⇑c,↑r,↑a,none,none]/\av H H') ?_ ?_
 ·intro u' hu
  tm_at "r";exact⟨c,18,rfl,∅,λq ys H1 yl yb _ hq s1=>hu _ _ ⟨q,⟨ys,aH.of hq,yl,yb⟩,rfl,s1⟩⟩
 rintro Ω ω _ H1 ⟨a,hd,rfl,s1⟩;have hR1:=hR.same s1;refine ω _ _ (aN (λZ H'=>∃kd:Int,0<=kd/\kd<=9/\Z=[⇑c,↑r,↑a,⇑kd,none]/\H1=H') ?_ ?_)
 ·intro u' hu
  tm_at "r";exact⟨⟨∅,∅⟩,∅,hu _ _ ⟨_,(),(),rfl,rfl⟩⟩
 rintro Ω ω _ _ ⟨kd,k0,k9,rfl,rfl⟩;refine ω _ _ (aN (λZ H'=>¬kd < 3/\Z=[⇑c,↑r,↑a,⇑kd,none]/\H1=H') ?_ ?_)
 ·intro u' hu
  refine cv λA0 B0 hA hB=>?_;tm_at "r"
  by_cases h1:kd < 3
  ·rw [if_pos h1]
   refine hA _ ?_;tm_at "r";exact⟨a,r,bs,kd,rfl,hd,hR1,b1,b4,hb,k0,(),λp R H2 hok _ hp s2=>k p (.plain R) _ ⟨hok.1,hok.2.1,hok.2.2.2,hok.2.2.1⟩ hp (s1.trans s2)⟩
  ·rw [if_neg h1]
   exact hB _ (hu _ _ ⟨h1,rfl,rfl⟩)
 rintro Ω ω _ _ ⟨h3,rfl,rfl⟩;refine ω _ _ (aN (λZ H'=>Z=[⇑c,↑r,↑a,⇑kd,none]/\H1=H') ?_ ?_)
 ·intro u' hu
  refine cv λA0 B0 hA hB=>?_;tm_at "r"
  by_cases h1:kd < 9
  ·rw [if_pos h1]
   refine hA _ ?_;tm_at "r";exact⟨a,r,bs,kd - 3,rfl,hd,hR1,b1,b4,hb,(),(),λp R H2 hok hp s2=>k p (.plain R) _ ⟨hok.1,hok.2.1,hok.2.2.2,hok.2.2.1⟩ hp (s1.trans s2)⟩
  ·rw [if_neg h1]
   exact hB _ (hu _ _ ⟨rfl,rfl⟩)
 rintro Ω ω _ _ ⟨rfl,rfl⟩;refine ω _ _ (aN (λZ H'=>∃m:Int,1<=m/\m<=3/\Z=[⇑c,↑r,↑a,⇑kd,⇑m]/\H1=H') ?_ ?_)
 ·intro u' hu
  tm_at "r";exact hd.ix ∅ ∅ λx _ _=>⟨x,rfl,∅,hu _ _ ⟨_,(),(),rfl,rfl⟩⟩
 rintro Ω ω _ _ ⟨m,m1,m3,rfl,rfl⟩;refine ω _ _ ?_;tm_at "r";refine hd.ix ∅ ∅ λx _ _=>⟨x,rfl,(),hd.ix ∅ ∅ λy y0 _=>⟨y,rfl,∅,?_⟩⟩;have q0:=ad4 x (show m≠0 by omega);have q1:=ac7 x (show 0 < m by omega);refine⟨a,r,bs,_,rfl,hd,hR1,b1,b4,hb,(),(),λp R H2 hok hin hp s2=>⟨(),λp2 hp2=>?_⟩⟩;exact k p2 (.every m (x % m) R) _ ⟨⟨hok.1,hin (),m1,q0,q1⟩,⟨hok.2.1,aa7 (show _<=3 by omega) ∅,aa7 (show _<=3 by omega) ∅⟩,m1,m3⟩ ⟨p,af,hp.same (au hp2)⟩ ((s1.trans s2).upd hp2)
theorem dU.szs{R:aL}(h:dU H p R):∃(xs:List V) (z:Str),H p=some (.tup xs)/\xs[0]?=some (.str z)/\(z=Str.ofString "held"->∃m,xs[2]?=⇑m/\dC R=m)/\(z=Str.ofString "times"->∃m,xs[4]?=⇑m/\dC R=m+1)/\(z=Str.ofString "every"->∃m,xs[1]?=⇑m/\dC R=m)/\(z≠Str.ofString "held"->z≠Str.ofString "times"->z≠Str.ofString "every"->dC R=1+2 * if z=Str.ofString "back" then 1 else 0):=by
 have go:∀(xs:List V) (z:Str),H p=some (.tup xs)->xs[0]?=some (.str z)->z≠Str.ofString "held"->z≠Str.ofString "times"->z≠Str.ofString "every"->(dC R=1+2 * if z=Str.ofString "back" then 1 else 0)->∃(xs:List V) (z:Str),H p=some (.tup xs)/\xs[0]?=some (.str z)/\(z=Str.ofString "held"->∃m,xs[2]?=⇑m/\dC R=m)/\(z=Str.ofString "times"->∃m,xs[4]?=⇑m/\dC R=m+1)/\(z=Str.ofString "every"->∃m,xs[1]?=⇑m/\dC R=m)/\(z≠Str.ofString "held"->z≠Str.ofString "times"->z≠Str.ofString "every"->dC R=1+2 * if z=Str.ofString "back" then 1 else 0):=λxs z h1 h2 a b c d=>⟨xs,z,h1,h2,λe=>absurd e a,λe=>absurd e b,λe=>absurd e c,λ_ _ _=>d⟩
 cases R with
 | every m a R=>
  obtain⟨q,h1,_⟩:=h;exact⟨_,_,h1,rfl,λe=>absurd e (by decide +kernel),λe=>absurd e (by decide +kernel),λ_=>⟨_,rfl,rfl⟩,λ_ _ e=>absurd rfl e⟩
 | plain R=>
  cases R with
  | held o m=>exact⟨_,_,h,rfl,λ_=>⟨_,rfl,rfl⟩,λe=>absurd e (by decide +kernel),λe=>absurd e (by decide +kernel),λe=>absurd rfl e⟩
  | times o n l m=>exact⟨_,_,h,rfl,λe=>absurd e (by decide +kernel),λ_=>⟨_,rfl,rfl⟩,λe=>absurd e (by decide +kernel),λ_ e=>absurd rfl e⟩
  | back o m=>exact go _ _ h rfl (by decide +kernel) (by decide +kernel) (by decide +kernel) (by rw [if_pos rfl];rfl)
  | _=>obtain⟨l,h1,_⟩:=h;exact go _ _ h1 rfl (by decide +kernel) (by decide +kernel) (by decide +kernel) (by rw [if_neg (by decide +kernel)];rfl)
theorem C5(F:bV K "_law_size" "_law_size" ky f fd)(T:Txt mg aM): ~~~aK bP 1 f fd ["_law_rule_here"] (Bw K):=by
 refine F.ok uZ λ_ A _ s H vs Q E hr h=>?_;obtain⟨p,R,rfl,hp,q⟩:=h
 refine⟨rfl,_,(ah (aO (aY (ay gA (aw (aD K) (pr 0) ae (λ_ _=>rfl)) ba (az _))) (ai (ar (aw (aD K) (pr 0) ae (λ_ _=>rfl)))) aC)
 (ah (aO (aY (ay gA (aw (aD K) (pr 0) ae (λ_ _=>rfl)) ba (az _))) (ai (ar (ao (bF K) (aw (aD K) (pr 0) ae (λ_ _=>rfl)) ae))) aC)
 (ah (aO (aY (ay gA (aw (aD K) (pr 0) ae (λ_ _=>rfl)) ba (az _))) (ai (ar (aw (aD K) (pr 0) ae (λ_ _=>rfl)))) aC)
 (ai (ar (ao (bF K) ae (ao (jW K) ae (aV (c9) ⋯ T.n_int boot_int (aa (aT gA (aw (aD K) (pr 0) ae (λ_ _=>rfl)) ba (az _)) ag))))))))),?_⟩
 obtain⟨xs,z,hx,h0,f1,f2,f3,f4⟩:=hp.szs;have ix:∀{k:Nat} {x:V} {Q':VK},xs[k]?=some x->Q' x H->ny K (.ref p) (.int (k:Int)) H Q':=λe q=>dy (cM.of hx) (aJ e) q;refine aN (λZ H'=>z≠Str.ofString "held"/\Z=[↑p]/\H=H') ?_ ?_
 ·intro u' hu
  tm_at "r";refine ix (k:=0) h0 ?_;tm_at "r"
  by_cases e:z=Str.ofString "held"
  ·rw [if_pos e]
   obtain⟨m,h2,h3⟩:=f1 e;rw [h3]at q;exact ix (k:=2) h2 q
  ·rw [if_neg e]
   exact hu _ _ ⟨e,rfl,rfl⟩
 rintro Ω ω _ _ ⟨n1,rfl,rfl⟩;refine ω _ _ (aN (λZ H'=>z≠Str.ofString "times"/\Z=[↑p]/\H=H') ?_ ?_)
 ·intro u' hu
  tm_at "r";refine ix (k:=0) h0 ?_;tm_at "r"
  by_cases e:z=Str.ofString "times"
  ·rw [if_pos e]
   obtain⟨m,h2,h3⟩:=f2 e;rw [h3]at q;refine ix (k:=4) h2 ?_;tm_at "r";exact q
  ·rw [if_neg e]
   exact hu _ _ ⟨e,rfl,rfl⟩
 rintro Ω ω _ _ ⟨n2,rfl,rfl⟩;refine ω _ _ (aN (λZ H'=>z≠Str.ofString "every"/\Z=[↑p]/\H=H') ?_ ?_)
 ·intro u' hu
  tm_at "r";refine ix (k:=0) h0 ?_;tm_at "r"
  by_cases e:z=Str.ofString "every"
  ·rw [if_pos e]
   obtain⟨m,h2,h3⟩:=f3 e;rw [h3]at q;exact ix (k:=1) h2 q
  ·rw [if_neg e]
   exact hu _ _ ⟨e,rfl,rfl⟩
 rintro Ω ω _ _ ⟨n3,rfl,rfl⟩;refine ω _ _ ?_;tm_at "r";refine ix (k:=0) h0 ?_;tm_at "r";rw [f4 n1 n2 n3]at q;exact⟨.of_left ∅,q⟩
def jZ(H:Hp)(ru:Addr)(Rs:List aL):Prop:=∃ws:List Addr,H ru=some (.lst (ws.map V.ref))/\ws.length=Rs.length/\∀(j:Nat) (x:Addr) (R:aL),ws[j]?=some x->Rs[j]?=some R->dU H x R
theorem jZ.same{Rs:List aL}(h:jZ H ru Rs)(s:av H H'):jZ H' ru Rs:=let ⟨ws,h1,h2,h3⟩:=h;⟨ws,s _ _ h1,h2,λj x R e1 e2=>(h3 j x R e1 e2).same s⟩
theorem yC{us:List Addr}(h:D.map V.int=us.map V.ref):D=[]:=by
 cases D with
 | nil=>rfl
 | cons d D=>cases us<;>cases h
theorem FW(h:Cb R)(e:Ca R=some D):D≠[]:=by
 have h2:=h.2
 cases R<;>cases e<;>(rintro rfl;exact absurd h2.1 ∅)
theorem eH.put{ws:List Addr}{o:HO}(h:eH H p R)(hn:Cb R)(hru:H ru=some (.lst (ws.map V.ref))):eH (upd H ru o) p R:=by
 unfold eH at h |-
 split
 ·rename_i e
  rw [e]at h;rw [aj (dF h hru (λe=>by cases e))];exact h
 ·rename_i D e
  rw [e]at h;obtain⟨l,h1,h2⟩:=h;refine⟨l,by rw [aj (dF h1 hru (λe=>by cases e))];exact h1,?_⟩;rw [aj (dF h2 hru (λz=>FW hn e (yC (HO.lst.inj z))))];exact h2
theorem dU.put{R:aL}{ws:List Addr}{o:HO}(h:dU H p R)(hn:uz R)(hru:H ru=some (.lst (ws.map V.ref))):dU (upd H ru o) p R:=by
 cases R with
 | plain R=>exact eH.put h hn hru
 | every m a R=>
  obtain⟨q,h1,h2⟩:=h;exact⟨q,by rw [aj (dF h1 hru (λe=>by cases e))];exact h1,h2.put hn.1 hru⟩
def xF(K:Frag):Sp:=λvs H Q _=>∃(a r:Addr) (ns:List Int) (bs:List (Int×Int)) (cap:Int),vs=[.ref a,.ref r,.int cap]/\aH K H a (ns.map V.int)/\bT K H r bs/\1<=bs.length/\bs.length<=4/\(∀b∈bs,xr b)/\(jL bs:Int)<=cap/\cap<=400/\∀(ru:Addr) (Rs:List aL) H',jZ H' ru Rs->(∀R∈Rs,rE bs.length R)->Rs.length<=12->hJ bs Rs<=cap->av H H'->Q (.ref ru) H'
theorem AZ(F:bV K "_law_rules" "_law_rules" jz f fd)(T:Txt mg aM)(D_law_at: ~~~cy "_law_at" 3 ["_law_script","_law_k"] (zc K))(D_law_columns: ~~~cy "_law_columns" 3 ["_law_ranges_here"] (tO K))(D_law_rule: ~~~cy "_law_rule" 3 ["_law_cell","_law_ranges_here"] (Bv K))(D_law_size: ~~~cy "_law_size" 3 ["_law_rule_here"] (Bw K)): ~~~aK bP 4 f fd ["_law_script","_law_ranges_here","_law_cap"] (xF K):=by
 refine F.ok sc_law_rules λ_ A _ s H vs Q E hr h=>?_;obtain⟨a,r,ns,bs,cap,rfl,ha,hR,b1,b4,hb,c1,c4,k⟩:=h
 refine⟨rfl,_,(ah (cN (i:=3) sc_law_rules.nd (aB (aE K) ⋯ T.n_len boot_len (aa (aA D_law_columns hr ⋯ (aa (pr 1) ag)) ag)))
 (ah (cN (i:=4) sc_law_rules.nd (ao (o1 aP) (aA D_law_at hr ⋯ (aa (pr 0) (aa ae ag))) ae))
 (ah (aO (aY (ay gA (ao (o1 aP) (ao (o1 cu) (aA D_law_at hr ⋯ (aa (pr 0) (aa ae ag))) ae) ae) ae (az _))) (ai (cN (i:=4) sc_law_rules.nd (ao (bF K) ae (ao (o1 aP) (ao (o1 cu) (aA D_law_at hr ⋯ (aa (pr 0) (aa ae ag))) ae) ae)))) aC)
 (ah (cN (i:=5) sc_law_rules.nd (bM ag))
 (ah (cJ PassesOwn.never rfl (cS rfl T.n_range (aa (pr 4) ag)) (j7 (i:=6) sc_law_rules.nd)
 (ah (cN (i:=7) sc_law_rules.nd (aA D_law_at hr ⋯ (aa (pr 0) (aa (ao (bF K) ae (ao (o1 aP) (pr 6) ae)) ag))))
 (ah (aO (aY (ay (o0 ib) (pr 6) ae (az _))) (ai (cN (i:=7) sc_law_rules.nd (ao (bF K) (ao (o1 cu) (pr 7) ae) (ao (jW K) (ao (jW K) ae (pr 6)) (pr 6))))) aC)
 (ah (cN (i:=8) sc_law_rules.nd (aA D_law_rule hr ⋯ (aa (pr 7) (aa (pr 1) ag))))
 (ai (aO (aY (ay (o0 ic) (ao (jW K) (pr 3) (aA D_law_size hr ⋯ (aa (pr 8) ag))) (pr 2) (az _))) (ah (cN (i:=3) sc_law_rules.nd (ao (jW K) (pr 3) (aA D_law_size hr ⋯ (aa (pr 8) ag))))
 (ai (bH (cf K PySem.F.plainAttrs_list PySem.F.slot_list_append PySem.F.type_list_append cE (pr 5) (aa (pr 8) ag))))) aC))))))
 (ai (ar (pr 5)))))))),?_⟩
 have hs:=sizeLine_eq;have hw:∀b∈bs,1<=wN b:=λb h=>(hb b h).big.2.2.2.2;have ew:xU bs=(jL bs:Int):=xV λb h=>(hb b h).1;have cg:1<=jL bs:=nU bs 1 hw;refine aN (λZ H'=>Z=[↑a,↑r,⇑cap,⇑(jL bs),none,none,none,none,none]/\av H H') ?_ ?_
 ·intro u' hu
  tm_at "r"
  refine⟨r,bs,rfl,hR,b4,hw,(),λq H1 _ ⟨ps,h1,h2,_⟩ s1=>by
   refine .inr ⟨q,rfl,_,.inl (aH.of h1),?_⟩;rw [aa0,h2,gb]
   exact hu _ _ ⟨rfl,s1⟩⟩
 rintro Ω ω _ H1 ⟨rfl,s1⟩;refine ω _ _ (aN (λZ H'=>∃m:Int,0<=m/\m<=4/\Z=[↑a,↑r,⇑cap,⇑(jL bs),⇑m,none,none,none,none]/\H1=H') ?_ ?_)
 ·intro u' hu
  tm_at "r";exact⟨a,ns,3,rfl,s1.seq ha,∅,∅,_,rfl,∅,hu _ _ ⟨_,(),(),rfl,rfl⟩⟩
 rintro Ω ω _ _ ⟨m,m0,m4,rfl,rfl⟩;refine ω _ _ (aN (λZ H'=>∃m:Int,0<=m/\m<=12/\Z=[↑a,↑r,⇑cap,⇑(jL bs),⇑m,none,none,none,none]/\H1=H') ?_ ?_)
 ·intro u' hu
  tm_at "r";refine⟨a,ns,3,rfl,s1.seq ha,∅,∅,_,rfl,⟨∅,∅⟩,∅,?_⟩
  by_cases h5:xZ ns 3 / 5 % 8=3
  ·rw [if_pos h5]
   exact⟨a,ns,3,rfl,s1.seq ha,∅,∅,_,rfl,⟨∅,∅⟩,∅,hu _ _ ⟨_,(),(),rfl,rfl⟩⟩
  ·rw [if_neg h5]
   exact hu _ _ ⟨m,m0,(),rfl,rfl⟩
 clear m0 m4 m;rintro Ω ω _ _ ⟨m,m0,m12,rfl,rfl⟩;refine ω _ _ (aN (λZ H'=>∃ru:Addr,H1 ru=none/\H' ru=some (.lst (([]:List Addr).map V.ref))/\Z=[↑a,↑r,⇑cap,⇑(jL bs),⇑m,↑ru,none,none,none]/\av H1 H') ?_ ?_)
 ·intro u' hu
  tm_at "r";exact⟨(),λp hp=>hu _ _ ⟨p,hp,af,rfl,au hp⟩⟩
 rintro Ω ω _ H2 ⟨ru,hru0,hru,rfl,s2⟩;obtain⟨Pv,hPv⟩:∃Pv:Nat->L2.St->Hp->Prop,Pv=λi Z H'=>∃(ws:List Addr) (Rs:List aL) (o6 o7 o8:Option V),ws.length=Rs.length/\Rs.length<=i/\1<=hJ bs Rs/\hJ bs Rs<=cap/\(∀R∈Rs,rE bs.length R)/\H' ru=some (.lst (ws.map V.ref))/\(∀(j:Nat) (x:Addr) (R:aL),ws[j]?=some x->Rs[j]?=some R->dU H' x R)/\Z=[↑a,↑r,⇑cap,⇑(hJ bs Rs),⇑m,↑ru,o6,o7,o8]/\av H1 H':=⟨_,rfl⟩;refine ω _ _ (aN (λZ H'=>Pv m.toNat Z H') ?_ ?_)
 ·intro u' hu
  tm_at "r";refine⟨(),(),cG Pv (by rw [hPv];exact⟨[],[],none,none,none,rfl,aa8 _,by show 1<=xU bs;omega,by show xU bs<=cap;omega,λ_ z=>(nomatch z),hru,λj x R e=>(by cases e),by rw [<-ew];rfl,s2⟩) ?_ λZ H' h=>hu _ _ h⟩;clear hru s2 H2;intro i Z H2 hi hI;rw [hPv]at hI;obtain⟨ws,Rs,o6,o7,o8,wl,rl,t1,t4,hRs,hru,hT,rfl,s2⟩:=hI;refine iX λRk rk=>?_;tm_at "r";refine⟨∅,a,ns,_,rfl,(s1.trans s2).seq ha,(),(),rk _ _ ?_⟩;clear rk Rk;generalize xZ ns _=c;refine aN (λZ H'=>∃c:Int,Z=[↑a,↑r,⇑cap,⇑(hJ bs Rs),⇑m,↑ru,⇑i,⇑c,o8]/\H2=H') ?_ ?_
  ·intro u2 gM
   tm_at "r"
   by_cases h3:(3:Int) < i
   ·rw [if_pos h3]
    exact⟨⟨∅,∅⟩,.of_left ∅,.of_right (intBits_le_iff.mpr ()),gM _ _ ⟨_,rfl,rfl⟩⟩
   ·rw [if_neg h3]
    exact gM _ _ ⟨c,rfl,rfl⟩
  clear c;rintro Ω ω _ _ ⟨c,rfl,rfl⟩;refine ω _ _ (aN (λZ H'=>∃(x:Addr) (R:aL),rE bs.length R/\dU H' x R/\Z=[↑a,↑r,⇑cap,⇑(hJ bs Rs),⇑m,↑ru,⇑i,⇑c,↑x]/\av H2 H') ?_ ?_)
  ·intro u2 gM
   tm_at "r";exact⟨r,bs,c,rfl,hR.same (s1.trans s2),b1,b4,hb,λx R H3 hok hx s3=>gM _ _ ⟨x,R,hok,hx,rfl,s3⟩⟩
  rintro Ω ω _ H3 ⟨x,R,hrow,hx3,rfl,s3⟩;obtain⟨_,hok,z1,z4⟩:=id hrow;have hru3:=s3 _ _ hru
  have eW:hJ bs (Rs++[R])=hJ bs Rs * dC R:=by
   unfold hJ;rw [ai0];rfl
  refine ω _ _ ?_;tm_at "r";refine⟨x,R,rfl,hx3,?_⟩;tm_at "r";refine⟨.of_right (intBits_le_iff.mpr ()),?_⟩
  by_cases hw:hJ bs Rs * dC R<=cap
  ·rw [if_pos hw]
   refine⟨x,R,rfl,hx3,?_⟩;tm_at "r";refine⟨.of_right (intBits_le_iff.mpr ()),.inl ⟨rfl,_,aH.of hru3⟩,ru,_,_,rfl,rfl,hru3,by rw [aa0];omega,?_⟩;rw [<-eW]
   have hp:1<=hJ bs Rs * dC R:=by
    have:=Int.mul_le_mul t1 z1 ∅ ()
    omega
   rw [hPv];refine⟨ws++[x],Rs++[R],_,_,_,by simp [wl],by simp;omega,by rw [eW];exact hp,by rw [eW];exact hw,λR' hR'=>?_,by rw [af,ab3];rfl,λj y R' e1 e2=>?_,rfl,zw hru0 (s2.trans s3)⟩
   ·rcases ac8.mp hR' with h | h
    ·exact hRs R' h
    ·rw [ac1.mp h];exact hrow
   ·by_cases hj:j < ws.length
    ·rw [ab7 hj]at e1
     rw [ab7 ()]at e2;exact((hT j y R' e1 e2).same s3).put (hRs R' (ac0 e2)).2.1 hru3
    ·rw [ac6 ()]at e1 e2
     have ej:j=ws.length:=by
      have:=(aa1.mp e1).1
      simp at this;omega
     rw [ej,aj6]at e1;rw [ej,wl,aj6]at e2;cases e1;cases e2;exact hx3.put hok hru3
  ·rw [if_neg hw]
   rw [hPv];exact⟨ws,Rs,_,_,_,wl,(),t1,t4,hRs,hru3,λj y R' e1 e2=>(hT j y R' e1 e2).same s3,rfl,s2.trans s3⟩
 intro Ω ω;intro Z H2 hI;rw [hPv]at hI;obtain⟨ws,Rs,o6,o7,o8,wl,rl,t1,t4,hRs,hru,hT,rfl,s2⟩:=hI;refine ω _ _ ?_;tm_at "r";exact k ru Rs H2 ⟨ws,hru,wl,hT⟩ hRs () t4 (s1.trans s2)
def jY(In:Addr->Str->Hp->Prop)(H:Hp)(v:V)(ws:List Str):Prop:=(∃z:Str,v=.str z/\ws=[z])\/(∃n:Int,v=.int n/\n.natAbs < 10 ^ 40/\ws=[aW n])\/(∃(d:Addr) (D:List Int),v=.ref d/\H d=some (.lst (D.map V.int))/\D.length<=20/\(∀n∈D,n.natAbs < 10 ^ 40)/\ws=D.map aW)\/∃(i:Addr) (ys:List V) (z:Str),v=.ref i/\H i=some (.tup ys)/\In i z H/\ws=[z]
def zd(In:Addr->Str->Hp->Prop):Sp:=λvs H Q _=>∃(i:Addr) (z:Str),vs=[.ref i]/\In i z H/\∀H',av H H'->Q (.str z) H'
def kS(In:Addr->Str->Hp->Prop)(t:Addr)(z:Str)(H:Hp):Prop:=∃(xs:List V) (wss:List (List Str)),H t=some (.tup xs)/\xs.length=wss.length/\xs.length<=10/\(∀(i:Nat) (v:V) (ws:List Str),xs[i]?=some v->wss[i]?=some ws->jY In H v ws)/\(∀ws∈wss,∀y∈ws,y.length<=20000)/\(∀ws∈wss,ws.length<=20)/\z=Txt.join (Str.ofString " ") wss.flatten
theorem sD{n:Int}(h:n.natAbs < 10 ^ 40):n.natAbs.log2 < 1920:=by
 by_cases h0:n.natAbs=0
 ·rw [h0];decide
 ·exact(Nat.log2_lt h0).mpr (ab2 h (by decide +kernel))
theorem BE{f:Str->Nat}{m:Nat}:∀{l:List Str},(∀y∈l,f y<=m)->(l.map f).sum<=l.length * m
 | [],_=>by simp
 | y::l,h=>by
  have h1:=h y (by simp);have h2:=BE (l:=l) λz hz=>h z (by simp [hz]);rw [ad0,List.sum_cons,ad6,Nat.add_mul];omega
theorem jY.same(hIn:∀i z H H',av H H'->In i z H->In i z H'){v:V}(s:av H H')(h:jY In H v ws):jY In H' v ws:=by
 rcases h with h | h | ⟨d,D,h1,h2,h3⟩ | ⟨i,ys,z,h1,h2,h3,h4⟩
 ·exact .inl h
 ·exact .inr (.inl h)
 ·exact .inr (.inr (.inl ⟨d,D,h1,s _ _ h2,h3⟩))
 ·exact .inr (.inr (.inr ⟨i,ys,z,h1,s _ _ h2,hIn _ _ _ _ s h3,h4⟩))
theorem AY{j:Nat}(hIn:∀i z H H',av H H'->In i z H->In i z H')(F:bV K "_law_row" "_law_row" mC f fd)(T:Txt mg aM)(D_law_row: ~~~cy "_law_row" j ["_law_rule_here"] (zd In)): ~~~aK bP (j+1) f fd ["_law_rule_here"] (zd (kS In)):=by
 refine F.ok sc_law_row λ_ A _ s H vs Q E hr h=>?_;obtain⟨t,z,rfl,⟨xs,wss,ht,hl,l10,hit,hy,hw,rfl⟩,k⟩:=h
 refine⟨rfl,_,(ah (cN (i:=1) sc_law_row.nd (bM ag))
 (ah (cJ PassesOwn.never rfl (bI K (pr 0)) (j7 (i:=2) sc_law_row.nd)
 (ai (aO (bf (aB (eJ K) ⋯ T.n_isinstance boot_isinstance (aa (pr 2) (aa (lF (v:=.ty "list") ⋯ T.n_list boot_list rfl) ag))) (λ_=>rfl)) (ai (cN (i:=1) sc_law_row.nd (ao (bF K) (pr 1) (di (own:=["_law_number"]) (js:=[]) rfl (bI K (pr 2)) (bD.of ⋯) (λ_ _ _ _ _=>(bQ (i:=0) (show List.Nodup (["_law_number"]:List Str)from by decide +kernel) rfl (Or.inl rfl))) (λ_ _ _ _ _=>cA) (λ_ _ _ _ _=>(aV (jK) ⋯ T.n_str boot_str (aa (pr 0) ag))))))) (ai (aO (bf (aB (eJ K) ⋯ T.n_isinstance boot_isinstance (aa (pr 2) (aa (lF (v:=.ty "tuple") ⋯ T.n_tuple boot_tuple rfl) ag))) (λ_=>rfl)) (ai (bH (cf K PySem.F.plainAttrs_list PySem.F.slot_list_append PySem.F.type_list_append cE (pr 1) (aa (aA D_law_row hr ⋯ (aa (pr 2) ag)) ag)))) (ai (bH (cf K PySem.F.plainAttrs_list PySem.F.slot_list_append PySem.F.type_list_append cE (pr 1) (aa (aV (jK) ⋯ T.n_str boot_str (aa (pr 2) ag)) ag)))))))))
 (ai (ar (cf K PySem.F.plainAttrs_str PySem.F.slot_str_join PySem.F.type_str_join (ur K) ba (aa (pr 1) ag)))))),?_⟩
 have hs:=sizeLine_eq
 have fl:∀i,((wss.take i).flatten).length<=20 * i:=λi=>by
  induction i with
  | zero=>simp
  | succ i ih=>
   rw [ac5]
   cases e:wss[i]? with
   | none=>
    rw [Option.toList_none,af1];omega
   | some ws=>
    have:=hw ws (ac0 e)
    simp only [Option.toList_some,am5,ab4,List.flatten_singleton];omega
 obtain⟨Pv,hPv⟩:∃Pv:Nat->L2.St->Hp->Prop,Pv=λi Z H'=>∃(q:Addr) (o2:Option V),H q=none/\H' q=some (.lst (((wss.take i).flatten).map V.str))/\Z=[↑t,↑q,o2]/\av H H':=⟨_,rfl⟩;refine aN (λZ H'=>Pv 0 Z H') ?_ ?_
 ·intro u' hu
  tm_at "r";exact⟨(),λq hq=>hu _ _ (by rw [hPv];exact⟨q,none,hq,af,rfl,au hq⟩)⟩
 intro Ω ω;intro Z H1 h0;have hI0:=h0;rw [hPv]at hI0;obtain⟨q0,o2,_,_,rfl,s1⟩:=hI0;refine ω _ _ (aN (λZ H'=>Pv xs.length Z H') ?_ ?_)
 ·intro u' hu
  tm_at "r";refine Dy (cM.of (s1 _ _ ht)) (AD (xs:=xs) Pv h0 (λi Z H' _ z=>by rw [hPv]at z;obtain⟨_,_,_,_,_,z⟩:=z;exact cM.of (z _ _ ht)) ?_ ?_)
  ·intro i v Z H2 hv hI
   rw [hPv]at hI;obtain⟨q,o2,hq0,hq2,rfl,s2⟩:=hI
   have hi:i < wss.length:=by rw [<-hl];exact(aa1.mp hv).1
   have ew:wss[i]?=some wss[i]:=aa2 hi;have fi:=fl i
   have nx:∀(q':Addr) (H':Hp),H q'=none->H' q'=some (.lst (((wss.take i).flatten).map V.str++(wss[i]).map V.str))->av H H'->Pv (i+1) [↑t,↑q',some v] H':=λq' H' h1 h2 h3=>by
    rw [hPv];exact⟨q',some v,h1,by rw [h2,ac5,ew,Option.toList_some,am5,List.flatten_singleton,ab3],rfl,h3⟩
   have it:=(hit i v _ hv ew).same hIn s2;generalize wss[i]=ws at nx it;tm_at "r";rcases it with⟨z,rfl,rfl⟩ | ⟨n,rfl,hn,rfl⟩ | ⟨d,D,rfl,hd,D20,hD,rfl⟩ | ⟨i',ys,z,rfl,hi',hin,rfl⟩
   ·refine⟨_,.str z,false,rfl,?_⟩
    rw [if_neg aa6];refine⟨_,.str z,false,rfl,?_⟩;rw [if_neg aa6];exact⟨.inl ⟨rfl,_,aH.of hq2⟩,rStr_s.mpr ⟨q,_,_,rfl,rfl,hq2,by rw [aa0];omega,nx q _ hq0 af (zw hq0 s2)⟩⟩
   ·refine⟨_,.int n,false,rfl,?_⟩
    rw [if_neg aa6];refine⟨_,.int n,false,rfl,?_⟩;rw [if_neg aa6];exact⟨.inl ⟨rfl,_,aH.of hq2⟩,rStr_i.mpr ⟨sD hn,q,_,_,rfl,rfl,hq2,by rw [aa0];omega,nx q _ hq0 af (zw hq0 s2)⟩⟩
   ·refine⟨_,.lst hd,true,rfl,?_⟩
    rw [if_pos rfl];refine bR (aH.of hd) (tW (aH.of hd) (λx hx=>?_) (by rw [aa0];omega) λp hp=>?_)
    ·obtain⟨n,hn,rfl⟩:=ac4.mp hx
     exact .inr ⟨n,rfl,hD n hn⟩
    ·have ed:(D.map V.int).map rW=D.map aW:=by rw [ai7];rfl
     rw [ed];have s3:=au (o:=.lst ((D.map aW).map V.str)) hp;exact ij (s3 _ _ hq2) af (by rw [aa0,aa0,aa0];omega) λq' hq'=>nx q' _ ((s2.trans s3).free hq') af ((s2.trans s3).upd hq')
   ·refine⟨_,.tup hi',false,rfl,?_⟩
    rw [if_neg aa6];refine⟨_,.tup hi',true,rfl,?_⟩;rw [if_pos rfl];exact⟨.inl ⟨rfl,_,aH.of hq2⟩,i',z,rfl,hin,λH3 s3=>⟨q,_,_,rfl,rfl,s3 _ _ hq2,by rw [aa0];omega,nx q _ hq0 af (zw hq0 (s2.trans s3))⟩⟩
  ·intro Z H' hI
   exact hu _ _ hI
 intro Ω ω;intro Z H2 hI;rw [hPv]at hI;obtain⟨q,o2,hq0,hq2,rfl,s2⟩:=hI;rw [hl,ad5]at hq2;refine ω _ _ ?_;tm_at "r";have f9:=fl wss.length;rw [ad5]at f9
 have hsum:=BE (f:=λy=>y.length) (m:=20000) (l:=wss.flatten) λy hy'=>by
  obtain⟨ws,h1,h2⟩:=List.mem_flatten.mp hy';exact hy ws h1 y h2
 have o1:(Str.ofString " ").length=1:=by decide +kernel
 refine⟨_,aH.of hq2,?_,k _ s2⟩;rw [o1];omega
def Fw:Addr->Str->Hp->Prop:=λ_ _ _=>False
theorem kS.same(hIn:∀i z H H',av H H'->In i z H->In i z H'):∀i z H H',av H H'->kS In i z H->kS In i z H':=λi z H H' s ⟨xs,wss,h1,h2,h3,h4,h5⟩=>⟨xs,wss,s _ _ h1,h2,h3,λi v ws e1 e2=>(h4 i v ws e1 e2).same hIn s,h5⟩
theorem CO(e m a k:Str)(ws:List Str):Txt.join (Str.ofString " ") [e,m,a,Txt.join (Str.ofString " ") (k::ws)]=Txt.join (Str.ofString " ") (e::m::a::k::ws):=by
 refine str_iff.mpr ?_;rw [show Str.ofString " "=⟨#[32]⟩by decide +kernel,cZ,cZ];simp only [ad0,ah3,cZ,dv];simp
theorem EI: ~~~aK bP 2 f fd ["_law_rule_here"] (zd Fw):=by
 refine⟨λ_ _ _ vs H Q E _ h=>?_,λA outer s H args us vs Q E hr he hb hv h=>?_⟩<;>(obtain⟨_,_,_,h,_⟩:=h;exact h.elim)
def Bb:c8->List Int
 | .span o t _=>[o+1,t+1]
 | .clock o t h _=>[o+1,t+1,h]
 | .move o _=>[o+1]
 | .alike o t _=>[o+1,t+1]
 | .back o cX=>[o+1,cX]
 | .held o most=>[o+1,most]
 | .times o nt lw hg=>[o+1,nt,lw,hg]
 | .begin o _=>[o+1]
 | .close o _=>[o+1]
theorem F0(R:c8):CF R=.str (aR R)::(Bb R).map V.int:=by cases R<;>rfl
theorem sH(R:c8):de R=Bb R++(Ca R).getD []:=by cases R<;>rfl
theorem EW(R:c8):(Bb R).length<=4:=by cases R<;>exact Nat.le_of_ble_eq_true rfl
theorem FV(h:Cb R)(e:Ca R=some D):D.length<=12:=by
 have h2:=h.2
 cases R<;>cases e<;>exact h2.2
theorem eu{v:V}(h:jY In H v ws)(t:∀(i:Nat) (v:V) (ws:List Str),xs[i]?=some v->wss[i]?=some ws->jY In H v ws):∀(i:Nat) (v':V) (ws':List Str),(v::xs)[i]?=some v'->(ws::wss)[i]?=some ws'->jY In H v' ws'
 | 0,_,_,e1,e2=>by cases e1;cases e2;exact h
 | i+1,v',ws',e1,e2=>t i v' ws' e1 e2
theorem oy(t:∀(i:Nat) (v:V) (ws:List Str),xs[i]?=some v->wss[i]?=some ws->jY In H v ws):∀ns:List Int,(∀n∈ns,n.natAbs < 10 ^ 40)->∀(i:Nat) (v:V) (ws:List Str),(ns.map V.int++xs)[i]?=some v->(ns.map (λn=>[aW n])++wss)[i]?=some ws->jY In H v ws
 | [],_=>t
 | n::ns,h=>eu (.inr (.inl ⟨n,rfl,h n (.head _),rfl⟩)) (oy t ns λm hm=>h m (.tail _ hm))
theorem FX(ns:List Int):(ns.map (λn=>[aW n])).flatten=ns.map aW:=by
 induction ns with
 | nil=>rfl
 | cons n ns ih=>rw [ad0,ah0,ih];rfl
theorem xR{t:Addr}(ok:Cb R)(h:eH H t R):kS In t (Txt.join (Str.ofString " ") (aR R::(de R).map aW)) H:=by
 have hn:=ok.1;have hp:∀n∈Bb R,n.natAbs < 10 ^ 40:=λn h=>hn n (by rw [sH];exact ah8 _ h);have pl:=EW R;have kl:=(gI R).1
 have go:∀(xs:List V) (wss:List (List Str)),H t=some (.tup (CF R++xs))->xs.length=wss.length->xs.length<=1->(∀(i:Nat) (v:V) (ws:List Str),xs[i]?=some v->wss[i]?=some ws->jY In H v ws)->(∀ws∈wss,∀y∈ws,y.length<=20000)->(∀ws∈wss,ws.length<=20)->wss.flatten=((Ca R).getD []).map aW->kS In t (Txt.join (Str.ofString " ") (aR R::(de R).map aW)) H:=λxs wss h1 h2 h3 h4 h5 h6 h7=>by
  rw [F0]at h1;refine⟨_,[aR R]::((Bb R).map (λn=>[aW n])++wss),h1,?_,?_,eu (.inl ⟨_,rfl,rfl⟩) (oy h4 _ hp),λws hws y hy=>?_,λws hws=>?_,?_⟩
  ·simp [h2]
  ·simp;omega
  ·rcases ab0.mp hws with rfl | hws
   ·rw [ac1.mp hy];omega
   ·rcases ac8.mp hws with hws | hws
    ·obtain⟨n,hn',rfl⟩:=ac4.mp hws
     rw [ac1.mp hy]
     have:=dG (hp n hn')
     omega
    ·exact h5 ws hws y hy
  ·rcases ab0.mp hws with rfl | hws
   ·exact(by decide:1<=20)
   ·rcases ac8.mp hws with hws | hws
    ·obtain⟨n,hn',rfl⟩:=ac4.mp hws
     exact(by decide:1<=20)
    ·exact h6 ws hws
  ·rw [ah0,am5,FX,h7,sH,ab3]
   rfl
 unfold eH at h
 cases e:Ca R with
 | none=>
  rw [e]at h;exact go [] [] (by rw [af1];exact h) rfl ∅ (λi v ws e=>nomatch e) (λ_ h=>nomatch h) (λ_ h=>nomatch h) (by rw [e];rfl)
 | some D=>
  rw [e]at h;obtain⟨l,h1,h2⟩:=h;have dl:=FV ok e;have dB:∀n∈D,n.natAbs < 10 ^ 40:=λn h=>hn n (by rw [sH,e];exact ac9 _ h);refine go [.ref l] [D.map aW] h1 rfl (aa8 1) (eu (.inr (.inr (.inl ⟨l,D,rfl,h2,(),dB,rfl⟩))) λi v ws e=>nomatch e) (λws hws y hy=>?_) (λws hws=>?_) (by rw [e];simp)
  ·rw [ac1.mp hws]at hy
   obtain⟨n,hn',rfl⟩:=ac4.mp hy
   have:=dG (dB n hn')
   omega
  ·rw [ac1.mp hws,aa0];omega
theorem Bp{t:Addr}{R:aL}(ok:uz R)(h:dU H t R):kS (kS Fw) t (dk R) H:=by
 cases R with
 | plain R=>exact xR ok h
 | every m a R=>
  obtain⟨q,h1,h2⟩:=h;obtain⟨okR,m1,a1⟩:=ok;have tl:=(f7 (.plain R) okR).1;have b3:=dG m1;have b4:=dG a1
  obtain⟨ys,hys⟩:∃ys,H q=some (.tup ys):=by
   unfold eH at h2
   split at h2
   ·exact⟨_,h2⟩
   ·obtain⟨l,h,_⟩:=h2;exact⟨_,h⟩
  refine⟨_,[["every"],[aW m],[aW a],[Txt.join (Str.ofString " ") (aR R::(de R).map aW)]],h1,rfl,by simp,eu (.inl ⟨_,rfl,rfl⟩) (eu (.inr (.inl ⟨_,rfl,m1,rfl⟩)) (eu (.inr (.inl ⟨_,rfl,a1,rfl⟩)) (eu (.inr (.inr (.inr ⟨q,_,_,rfl,hys,xR okR h2,rfl⟩))) λi v ws e=>nomatch e))),?_,?_,(CO "every" (aW m) (aW a) (aR R) _).symm⟩
  ·intro ws hws y hy
   simp only [ab0,ad2,or_false]at hws;rcases hws with rfl | rfl | rfl | rfl
   ·rw [ac1.mp hy];decide +kernel
   ·rw [ac1.mp hy];omega
   ·rw [ac1.mp hy];omega
   ·rw [ac1.mp hy]
    exact ab6 tl ∅
  ·intro ws hws
   simp only [ab0,ad2,or_false]at hws
   rcases hws with rfl | rfl | rfl | rfl<;>simp
def pX(b:Int×Int):Str:=Str.ofString "voice " ++ aW b.1++Str.ofString " " ++ aW b.2
def iB(bs:List (Int×Int))(Rs:List aL):List Str:=bs.map pX++Rs.map dk
def kG(bs:List (Int×Int))(Rs:List aL):Str:=Txt.join (Str.ofString "\n") (iB bs Rs)
theorem jH(a b:Str):(a++b).length=a.length+b.length:=by
 show(a.cps++b.cps).size=a.cps.size+b.cps.size;exact an1
theorem nO{n:Int}(h:n.natAbs < 10 ^ 40):(aW n).length<=41:=dG h
theorem FA(z:Str):Str.empty++z=z:=str_iff.mpr (by rw [yg];rfl)
theorem BW(h1:b.1.natAbs < 10 ^ 40)(h2:b.2.natAbs < 10 ^ 40):(pX b).length<=89:=by
 have e1:(Str.ofString "voice ").length=6:=by decide +kernel
 have e2:(Str.ofString " ").length=1:=by decide +kernel
 have:=nO h1
 have:=nO h2
 unfold pX;rw [jH,jH,jH];omega
def xG(K:Frag):Sp:=λvs H Q _=>∃(a q:Addr) (bs:List (Int×Int)) (Rs:List aL),vs=[.ref a,.ref q]/\bT K H a bs/\jZ H q Rs/\bs.length<=10/\Rs.length<=30/\(∀b∈bs,b.1.natAbs < 10 ^ 40/\b.2.natAbs < 10 ^ 40)/\(∀R∈Rs,uz R)/\∀H',av H H'->Q (.str (kG bs Rs)) H'
theorem A3(F:bV K "_law_text" "_law_text" kB f fd)(T:Txt mg aM)(D_law_row: ~~~cy "_law_row" 4 ["_law_rule_here"] (zd (kS (kS Fw)))): ~~~aK bP 5 f fd ["_law_ranges_here","_law_rules_here"] (xG K):=by
 refine F.ok sc_law_text λ_ A _ s H vs Q E hr h=>?_;obtain⟨a,q,bs,Rs,rfl,⟨ts,hts,htl,htc⟩,⟨rs,hrs,hrl,hrc⟩,lb,lr,hb,hR,k⟩:=h
 refine⟨rfl,_,(ah (iz (i:=2) sc_law_text.nd rfl (Or.inl rfl) (own:=["_law_low","_law_high"]) (js:=[]) rfl (bI K (pr 0)) (bD.of ⋯) (λ_ _ _ _ _=>(fX K (n:=2) rfl (bU (bQ (i:=0) (show List.Nodup (["_law_low","_law_high"]:List Str)from by decide +kernel) rfl (Or.inl rfl)) (bU (bQ (i:=1) (show List.Nodup (["_law_low","_law_high"]:List Str)from by decide +kernel) rfl (Or.inl rfl)) fY)))) (λ_ _ _ _ _=>cA) (λ_ _ _ _ _=>(ao (bF K) (ao (bF K) (ao (bF K) ba (aV (jK) ⋯ T.n_str boot_str (aa (pr 0) ag))) ba) (aV (jK) ⋯ T.n_str boot_str (aa (pr 1) ag)))) rfl)
 (ai (ar (cf K PySem.F.plainAttrs_str PySem.F.slot_str_join PySem.F.type_str_join (ur K) ba (aa (ao (bF K) (pr 2) (di (own:=["_law_rule_here"]) (js:=[]) rfl (bI K (pr 1)) (bD.of ⋯) (λ_ _ _ _ _=>(bQ (i:=0) (show List.Nodup (["_law_rule_here"]:List Str)from by decide +kernel) rfl (Or.inl rfl))) (λ_ _ _ _ _=>cA) (λ_ _ _ _ _=>(aA D_law_row hr ⋯ (aa (pr 0) ag))))) ag))))),?_⟩
 have hs:=sizeLine_eq;refine aN (λZ H'=>∃p:Addr,H p=none/\H' p=some (.lst ((bs.map pX).map V.str))/\Z=[↑a,↑q,↑p]/\av H H') ?_ ?_
 ·intro u' hu
  tm_at "r";refine bR hts (bW (xs:=ts.map V.ref) (λi ys H'=>ys=((bs.take i).map pX).map V.str/\H=H') (by rw [aa0];omega) ⟨rfl,rfl⟩ ?_ ?_ ?_ ?_)
  ·rintro i ys H' ⟨rfl,rfl⟩
   rw [aa0,aa0,ac3];omega
  ·rintro i ys H' ⟨rfl,rfl⟩
   exact hts
  ·rintro i y ys H' hy ⟨rfl,rfl⟩
   rw [aa4]at hy
   cases ht:ts[i]? with
   | none=>rw [ht]at hy;cases hy
   | some t=>
    rw [ht]at hy;cases hy
    have hi:i < bs.length:=by rw [<-htl];exact(aa1.mp ht).1
    have hbi:bs[i]?=some bs[i]:=aa2 hi;tm_at "r";refine⟨_,htc i t _ ht hbi,rfl,?_⟩;tm_at "r";obtain⟨n1,n2⟩:=hb _ (ad7 hi)
    have e1:(Str.ofString "voice ").length=6:=by decide +kernel
    have e2:(Str.ofString " ").length=1:=by decide +kernel
    have:=nO n1
    have:=nO n2
    refine⟨sD n1,(),by rw [jH];omega,sD n2,by rw [jH,jH];omega,?_⟩;rw [ac5,hbi,ab3,ab3];rfl
  ·rintro ys H' ⟨rfl,rfl⟩ p hp
   rw [aa0,htl,ad5];exact hu _ _ ⟨p,hp,af,rfl,au hp⟩
 rintro Ω ω _ H1 ⟨p,hp0,hp1,rfl,s1⟩;have hq1:=aH.of (K:=K) (s1 _ _ hrs);have hIn2:=kS.same (kS.same (In:=Fw) λ_ _ _ _ _ h=>h);refine ω _ _ ?_;tm_at "r";refine bR hq1 (bW (xs:=rs.map V.ref) (λi ys H'=>ys=((Rs.take i).map dk).map V.str/\av H1 H') (by rw [aa0];omega) ⟨rfl,av.refl _⟩ ?_ ?_ ?_ ?_)
 ·rintro i ys H' ⟨rfl,_⟩
  rw [aa0,aa0,ac3];omega
 ·rintro i ys H' ⟨rfl,s2⟩
  exact s2.seq hq1
 ·rintro i y ys H' hy ⟨rfl,s2⟩
  rw [aa4]at hy
  cases ht:rs[i]? with
  | none=>rw [ht]at hy;cases hy
  | some t=>
   rw [ht]at hy;cases hy
   have hi:i < Rs.length:=by rw [<-hrl];exact(aa1.mp ht).1
   have hRi:Rs[i]?=some Rs[i]:=aa2 hi;tm_at "r";refine⟨t,_,rfl,Bp (hR _ (ad7 hi)) ((hrc i t _ ht hRi).same (s1.trans s2)),λH3 s3=>⟨?_,s2.trans s3⟩⟩;rw [ac5,hRi,ab3,ab3];rfl
 ·rintro ys H2 ⟨rfl,s2⟩ p2 hp2
  rw [aa0,hrl,ad5];have s3:=au (o:=.lst ((Rs.map dk).map V.str)) hp2;refine ij ((s2.trans s3) _ _ hp1) af (by simp;omega) λq' hq'=>?_;tm_at "r";refine⟨iB bs Rs,aH.of (by rw [af];unfold iB;rw [ab3]),?_,k _ (((s1.trans s2).trans s3).upd hq')⟩
  have hl:∀z∈iB bs Rs,z.length<=20000:=λz hz=>by
   rcases ac8.mp hz with hz | hz
   ·obtain⟨b,hb',rfl⟩:=ac4.mp hz
    have:=BW (hb b hb').1 (hb b hb').2
    omega
   ·obtain⟨R,hR',rfl⟩:=ac4.mp hz
    exact ab6 (f7 R (hR R hR')).1 ∅
  have h1:=StrLaws.sumLen_le (B:=20000) (iB bs Rs) hl
  have e1:(Str.ofString "\n").length=1:=by decide +kernel
  have l16:(iB bs Rs).length<=40:=by
   unfold iB;rw [ab4,aa0,aa0];omega
  rw [e1]
  have:=al6 20000 l16
  omega
theorem FC{c:Addr}(h:cM K H c (us.map V.int))(h0:0<=o)(h1:o < us.length)(q:Q (.int (aF us (o+1))) H):ny K (.ref c) (.int (o+1 - 1)) H Q:=by
 rw [show o+1 - 1=o by omega];exact dy h (AL h0 h1) q
theorem oB(h:gg K H l nv cols)(hi:i < cols.length)(q:∀p,cM K H p ((cols.getD i []).map V.int)->(cols.getD i []).length=nv->Q (.ref p) H):ny K (.ref l) (.int (i:Int)) H Q:=by
 obtain⟨ps,h1,h2,h3⟩:=h;have e1:ps[i]?=some (ps[i]'()):=aa2 ()
 have e2:cols[i]?=some (cols.getD i []):=by rw [ab5,aa2 hi];rfl
 exact bp h1 (aJ (by rw [aa4,e1];rfl)) (q _ (h3 i _ _ e1 e2).1 (h3 i _ _ e1 e2).2)
def xu:c8->Prop
 | .span _ _ _=>True
 | .clock _ _ _ _=>True
 | .alike _ _ _=>True
 | _=>False
def xB(K:Frag):Sp:=λvs H Q _=>∃(p c:Addr) (xs:List V) (o t:Int) (us:List Int),vs=[.ref p,.ref c]/\H p=some (.tup xs)/\xs[1]?=⇑(o+1)/\xs[2]?=⇑(t+1)/\cM K H c (us.map V.int)/\0<=o/\o < us.length/\0<=t/\t < us.length/\Q (.int (aF us (t+1) - aF us (o+1))) H
def Gz(K:Frag):Sp:=λvs H Q _=>∃(p l:Addr) (k nv:Nat) (cols:List (List Int)) (R:c8),vs=[.ref p,.ref l,.int k]/\eH H p R/\xu R/\mY nv R/\gg K H l nv cols/\k < cols.length/\Q (.bl (gy cols k R)) H
theorem AW(F:bV K "_law_span" "_law_span" kA f fd)(T:Txt mg aM): ~~~aK bP 1 f fd ["_law_rule_here","_law_column"] (xB K):=by
 refine F.ok u4 λ_ A _ s H vs Q E hr h=>?_;obtain⟨p,c,xs,o,t,us,rfl,hp,h1,h2,hc,p0,p1,t0,t1,k⟩:=h;refine⟨rfl,_,(ai (ar (ao (o0 bC) (aw (aD K) (pr 1) (ao (o0 bC) (aw (aD K) (pr 0) ae (λ_ _=>rfl)) ae) (λ_ _=>rfl)) (aw (aD K) (pr 1) (ao (o0 bC) (aw (aD K) (pr 0) ae (λ_ _=>rfl)) ae) (λ_ _=>rfl))))),?_⟩;tm_at "r";refine dy (cM.of hp) (show fV _ ((2:Nat):Int)=_ from aJ h2) ?_;tm_at "r";refine FC hc t0 t1 (dy (cM.of hp) (show fV _ ((1:Nat):Int)=_ from aJ h1) ?_);tm_at "r";refine FC hc p0 p1 ?_;tm_at "r";exact k
theorem oT(F:bV K "_law_pair_broken" "_law_pair_broken" eS f fd)(T:Txt mg aM)(D_law_span: ~~~cy "_law_span" 1 ["_law_rule_here","_law_column"] (xB K)): ~~~aK bP 2 f fd ["_law_rule_here","_law_line_here","_law_k"] (Gz K):=by
 refine F.ok sc_law_pair_broken λ_ A _ s H vs Q E hr h=>?_;obtain⟨p,l,k,nv,cols,R,rfl,hp,hpr,hg,hl,hk,q⟩:=h
 refine⟨rfl,_,(ah (cN (i:=3) sc_law_pair_broken.nd (aA D_law_span hr ⋯ (aa (pr 0) (aa (aw (aD K) (pr 1) (pr 2) (λ_ _=>rfl)) ag))))
 (ah (aO (aY (ay gA (aw (aD K) (pr 0) ae (λ_ _=>rfl)) ba (az _))) (ai (ar (aT (eM K) (pr 3) (aw (aD K) (pr 0) ae (λ_ _=>rfl)) (by with_unfolding_all rfl)))) aC)
 (ah (aO (aY (ay gA (aw (aD K) (pr 0) ae (λ_ _=>rfl)) ba (az _))) (ai (ar (aT (eM K) (ao (o1 aP) (pr 3) (aw (aD K) (pr 0) ae (λ_ _=>rfl))) (aw (aD K) (pr 0) ae (λ_ _=>rfl)) (by with_unfolding_all rfl)))) aC)
 (ah (aO (PW.pt (cK (aY (ay gA (pr 2) ae (az _))) (cB (aY (ay gA (aw (aD K) (aw (aD K) (pr 1) (pr 2) (λ_ _=>rfl)) (ao (o0 bC) (aw (aD K) (pr 0) ae (λ_ _=>rfl)) ae) (λ_ _=>rfl)) (aw (aD K) (aw (aD K) (pr 1) (ao (o0 bC) (pr 2) ae) (λ_ _=>rfl)) (ao (o0 bC) (aw (aD K) (pr 0) ae (λ_ _=>rfl)) ae) (λ_ _=>rfl)) (az _)))))) (ai (ar jm)) aC)
 (ai (ar (gJ (eN (aT (lE K) (pr 3) (aw (aD K) (pr 0) ae (λ_ _=>rfl)) (by with_unfolding_all rfl)) (eA (aT gA (aA D_law_span hr ⋯ (aa (pr 0) (aa (aw (aD K) (pr 1) (ao (o0 bC) (pr 2) ae) (λ_ _=>rfl)) ag))) (pr 3) (az _))))))))))),?_⟩
 obtain⟨o,t,xs,z,D,d,hx,x0,x1,x2,hD,p0,p1,t0,t1,hR⟩:∃(o t:Int) (xs:List V) (z:Str) (D:List Int) (d:Addr),H p=some (.tup xs)/\xs[0]?=some (.str z)/\xs[1]?=⇑(o+1)/\xs[2]?=⇑(t+1)/\H d=some (.lst (D.map V.int))/\0<=o/\o < nv/\0<=t/\t < nv/\((R=.span o t D/\z=Str.ofString "span"/\xs[3]?=↑d)\/(∃h,R=.clock o t h D/\z=Str.ofString "clock"/\1<=h/\xs[3]?=⇑h/\xs[4]?=↑d)\/(R=.alike o t D/\z=Str.ofString "alike"/\xs[3]?=↑d)):=by
  cases R with
  | span o t D=>obtain⟨d,h1,h2⟩:=hp;exact⟨o,t,_,_,D,d,h1,rfl,rfl,rfl,h2,hg.1,hg.2.1,hg.2.2.1,hg.2.2.2,.inl ⟨rfl,rfl,rfl⟩⟩
  | clock o t h D=>obtain⟨d,h1,h2⟩:=hp;exact⟨o,t,_,_,D,d,h1,rfl,rfl,rfl,h2,hg.1,hg.2.1,hg.2.2.1,hg.2.2.2.1,.inr (.inl ⟨h,rfl,rfl,hg.2.2.2.2,rfl,rfl⟩)⟩
  | alike o t D=>obtain⟨d,h1,h2⟩:=hp;exact⟨o,t,_,_,D,d,h1,rfl,rfl,rfl,h2,hg.1,hg.2.1,hg.2.2.1,hg.2.2.2,.inr (.inr ⟨rfl,rfl,rfl⟩)⟩
  | _=>exact hpr.elim
 have ix:∀{j:Nat} {x:V} {Q':VK},xs[j]?=some x->Q' x H->ny K (.ref p) (.int (j:Int)) H Q':=λe q=>dy (cM.of hx) (aJ e) q;refine aN (λZ H'=>Z=[↑p,↑l,⇑k,⇑(dI t cols k - dI o cols k)]/\H=H') ?_ ?_
 ·intro u' hu
  tm_at "r";exact oB hl hk λc hc cl=>⟨p,c,xs,o,t,_,rfl,hx,x1,x2,hc,p0,(),t0,(),hu _ _ ⟨rfl,rfl⟩⟩
 rintro Ω ω _ _ ⟨rfl,rfl⟩;refine ω _ _ (aN (λZ H'=>z≠Str.ofString "span"/\Z=[↑p,↑l,⇑k,⇑(dI t cols k - dI o cols k)]/\H=H') ?_ ?_)
 ·intro u' hu
  refine cv λA0 B0 hA hB=>?_;tm_at "r";refine ix (j:=0) x0 ?_;tm_at "r"
  by_cases e:z=Str.ofString "span"
  ·rw [if_pos e]
   refine hA _ ?_;tm_at "r";rcases hR with⟨rfl,_,h3⟩ | ⟨h,_,ez,_⟩ | ⟨_,ez,_⟩
   ·exact ix (j:=3) h3 (eD (aH.of hD) q)
   ·exact absurd (e.symm.trans ez) (by decide +kernel)
   ·exact absurd (e.symm.trans ez) (by decide +kernel)
  ·rw [if_neg e]
   exact hB _ (hu _ _ ⟨e,rfl,rfl⟩)
 rintro Ω ω _ _ ⟨n1,rfl,rfl⟩;refine ω _ _ (aN (λZ H'=>z≠Str.ofString "clock"/\Z=[↑p,↑l,⇑k,⇑(dI t cols k - dI o cols k)]/\H=H') ?_ ?_)
 ·intro u' hu
  refine cv λA0 B0 hA hB=>?_;tm_at "r";refine ix (j:=0) x0 ?_;tm_at "r"
  by_cases e:z=Str.ofString "clock"
  ·rw [if_pos e]
   refine hA _ ?_;tm_at "r";rcases hR with⟨_,ez,_⟩ | ⟨h,rfl,_,h1,h3,h4⟩ | ⟨_,ez,_⟩
   ·exact absurd (e.symm.trans ez) (by decide +kernel)
   ·exact ix (j:=3) h3 ⟨h,rfl,(),ix (j:=4) h4 (eD (aH.of hD) q)⟩
   ·exact absurd (e.symm.trans ez) (by decide +kernel)
  ·rw [if_neg e]
   exact hB _ (hu _ _ ⟨e,rfl,rfl⟩)
 rintro Ω ω _ _ ⟨n2,rfl,rfl⟩
 obtain⟨rfl,h3⟩:R=.alike o t D/\xs[3]?=↑d:=by
  rcases hR with⟨_,ez,_⟩ | ⟨_,_,ez,_⟩ | ⟨e,_,h3⟩
  ·exact absurd ez n1
  ·exact absurd ez n2
  ·exact⟨e,h3⟩
 refine ω _ _ ?_;refine iX λRk rk=>?_;tm_at "r"
 by_cases k0:k=0
 ·subst k0
  rw [if_pos (show((0:Nat):Int)=0 from rfl)];exact q
 obtain⟨m,rfl⟩:∃m,k=m+1:=⟨k - 1,()⟩;rw [if_neg ()];refine oB hl hk λc hc cl=>ix (j:=1) x1 ⟨_,rfl,FC hc p0 () ?_⟩;rw [show((m+1:Nat):Int) - 1=(m:Nat)by omega];refine oB hl () λc2 hc2 cl2=>ix (j:=1) x1 ⟨_,rfl,FC hc2 p0 () ?_⟩;tm_at "r"
 by_cases e:aF (cols.getD (m+1) []) (o+1)=aF (cols.getD m []) (o+1)
 ·rw [if_pos e]
  have hb:gy cols (m+1) (.alike o t D)=false:=by
   have:fW o cols (m+1)=0:=by show aF _ _ - aF (cols.getD m []) _=0;omega
   simp [gy,this]
  rw [hb]at q;exact q
 rw [if_neg e];refine rk _ _ ?_;tm_at "r"
 have nm:fW o cols (m+1)≠0:=by show aF _ _ - aF (cols.getD m []) _≠0;omega
 refine ix (j:=3) h3 (gr (aH.of hD) ⟨_,rfl,?_⟩)
 by_cases e2:dI t cols (m+1) - dI o cols (m+1)∈D
 ·rw [if_pos (decide_eq_true e2)]
  rw [show((m+1:Nat):Int) - 1=(m:Nat)by omega];refine oB hl () λc hc cl=>⟨p,c,xs,o,t,_,rfl,hx,x1,x2,hc,p0,(),t0,(),?_⟩
  have hb:gy cols (m+1) (.alike o t D)=decide (aF (cols.getD m []) (t+1) - aF (cols.getD m []) (o+1)=dI t cols (m+1) - dI o cols (m+1)):=by
   have e3:(dI t cols (m+1) - dI o cols (m+1)=dI t cols m - dI o cols m)=(dI t cols m - dI o cols m=dI t cols (m+1) - dI o cols (m+1)):=propext ⟨Eq.symm,Eq.symm⟩;simp only [gy,ak2,e3,decide_eq_true e2,decide_eq_true nm,ne_eq,Nat.add_eq_zero_iff,Nat.one_ne_zero,and_false,not_false_eq_true,decide_true,ai1,Bool.and_true];rfl
  rw [hb]at q;tm_at "r";exact q
 ·rw [if_neg (by rw [decide_eq_false e2];exact aa6)]
  have hb:gy cols (m+1) (.alike o t D)=false:=by simp [gy,e2]
  rw [hb]at q;exact q
theorem oo(z:Str):∀ws:List Str,Af (.str z) (ws.map V.str)=decide (z∈ws)
 | []=>rfl
 | d::D=>by
  have ih:=oo z D
  have e:Af (.str z) ((d::D).map V.str)=((d == z) || Af (.str z) (D.map V.str)):=rfl
  rw [e,ih,af4,aj8,beq_iff_eq,decide_eq_true_eq,decide_eq_true_eq,ab0];exact⟨λh=>h.imp Eq.symm id,λh=>h.imp Eq.symm id⟩
theorem y4{z:Str}(h:aH K H a (ws.map V.str))(q:Q (.bl (decide (z∈ws))) H):vY K (.str z) (.ref a) H Q:=by
 refine .inr ⟨a,_,rfl,.inl h,rfl,?_,?_⟩
 ·rw [ah9];exact af6.mpr λ_ _=>rfl
 ·rw [oo];exact q
theorem tw{z:Str}(h:aH K H a (ws.map V.str))(q:Q (.bl (!decide (z∈ws))) H):jS K (.str z) (.ref a) H Q:=by
 refine .inr ⟨a,_,rfl,.inl h,rfl,?_,?_⟩
 ·rw [ah9];exact af6.mpr λ_ _=>rfl
 ·rw [oo];exact q
def gz:aL->Str
 | .plain R=>aR R
 | .every _ _ _=>"every"
theorem dU.kd{R:aL}(h:dU H p R):∃xs:List V,H p=some (.tup xs)/\xs[0]?=some (.str (gz R)):=by
 cases R with
 | every m a R=>obtain⟨q,h1,_⟩:=h;exact⟨_,h1,rfl⟩
 | plain R=>
  unfold dU eH at h
  cases R<;>first | exact⟨_,h,rfl⟩ | (obtain⟨l,h1,_⟩:=h;exact⟨_,h1,rfl⟩)
def pairs3:List Str:=[Str.ofString "span",Str.ofString "clock",Str.ofString "alike"]
theorem uI(R:aL):gz R∈pairs3↔∃R',R=.plain R'/\xu R':=by
 cases R with
 | every m a R=>exact⟨λh=>absurd h (show Str.ofString "every"∉pairs3 by decide +kernel),λ⟨_,e,_⟩=>by cases e⟩
 | plain R=>
  cases R with
  | span o t D=>exact⟨λ_=>⟨_,rfl,trivial⟩,λ_=>show Str.ofString "span"∈pairs3 by decide +kernel⟩
  | clock o t h D=>exact⟨λ_=>⟨_,rfl,trivial⟩,λ_=>show Str.ofString "clock"∈pairs3 by decide +kernel⟩
  | alike o t D=>exact⟨λ_=>⟨_,rfl,trivial⟩,λ_=>show Str.ofString "alike"∈pairs3 by decide +kernel⟩
  | move o D=>exact⟨λh=>absurd h (show Str.ofString "move"∉pairs3 by decide +kernel),λ⟨_,e,h⟩=>by cases e;exact h.elim⟩
  | back o D=>exact⟨λh=>absurd h (show Str.ofString "back"∉pairs3 by decide +kernel),λ⟨_,e,h⟩=>by cases e;exact h.elim⟩
  | held o D=>exact⟨λh=>absurd h (show Str.ofString "held"∉pairs3 by decide +kernel),λ⟨_,e,h⟩=>by cases e;exact h.elim⟩
  | times o n l D=>exact⟨λh=>absurd h (show Str.ofString "times"∉pairs3 by decide +kernel),λ⟨_,e,h⟩=>by cases e;exact h.elim⟩
  | begin o D=>exact⟨λh=>absurd h (show Str.ofString "begin"∉pairs3 by decide +kernel),λ⟨_,e,h⟩=>by cases e;exact h.elim⟩
  | close o D=>exact⟨λh=>absurd h (show Str.ofString "close"∉pairs3 by decide +kernel),λ⟨_,e,h⟩=>by cases e;exact h.elim⟩
theorem Ai(h:Ag R):xu R:=by
 cases R<;>first | exact trivial | exact h.elim
def vo:c8->Int
 | .span o _ _=>o
 | .clock o _ _ _=>o
 | .move o _=>o
 | .alike o _ _=>o
 | .back o _=>o
 | .held o _=>o
 | .times o _ _ _=>o
 | .begin o _=>o
 | .close o _=>o
def cH(o:Int)(cols:List (List Int))(k:Nat):List Int:=(List.range k).map (dI o cols)
theorem tE(o:Int)(cols:List (List Int)):∀(i m:Nat),m<=mx o cols i↔m<=i/\∀k,1<=k->k<=m->dI o cols (i - k)=dI o cols i
 | 0,m=>by
  show m<=0↔_
  constructor
  ·intro h;exact⟨h,λk h1 h2=>by omega⟩
  ·exact λh=>h.1
 | i+1,m=>by
  have ih:=tE o cols i (m - 1);show m<=(if dI o cols i=dI o cols (i+1)then mx o cols i+1 else 0)↔_
  by_cases h0:m=0
  ·subst h0
   exact⟨λ_=>⟨(),λk h1 h2=>by omega⟩,λ_=>by omega⟩
  by_cases he:dI o cols i=dI o cols (i+1)
  ·rw [if_pos he]
   constructor
   ·intro h
    obtain⟨h1,h2⟩:=ih.mp ();refine⟨(),λk k1 k2=>?_⟩
    by_cases hk:k=1
    ·subst hk;exact he
    ·have:=h2 (k - 1) () ()
     rw [show i - (k - 1)=i+1 - k by omega]at this;rw [this,he]
   ·rintro⟨h1,h2⟩
    have:=ih.mpr ⟨(),λk k1 k2=>by
     have:=h2 (k+1) () ()
     rw [show i+1 - (k+1)=i - k by omega]at this
     rw [this,he]⟩
    omega
  ·rw [if_neg he]
   constructor
   ·intro h;omega
   ·rintro⟨h1,h2⟩
    exact absurd (h2 1 () ()) he
theorem mr(o nt:Int)(cols:List (List Int)):∀k,k<=cols.length->(cH o cols k).countP (λn=>n == nt)=jc o nt cols k
 | 0,_=>rfl
 | k+1,h=>by
  have e2:cols[k]?=some (cols[k]'()):=aa2 ();have ih:=mr o nt cols k ();rw [nV o nt cols k _ e2,<-ih];unfold cH;rw [am0,ab3,List.countP_append];congr 1;rw [ad0,ah3,ao0,List.countP_nil,d0 e2];unfold t9
  by_cases hh:aF (cols[k]'()) (o+1)=nt
  ·rw [hh];simp
  ·simp [hh]
theorem iw(R:c8):(aR R=Str.ofString "move"->∃o D,R=.move o D)/\(aR R=Str.ofString "back"->∃o f,R=.back o f)/\(aR R=Str.ofString "held"->∃o f,R=.held o f)/\(aR R=Str.ofString "times"->∃o n l h,R=.times o n l h)/\(aR R=Str.ofString "begin"->∃o D,R=.begin o D):=by
 cases R<;>simp only [aR]<;>refine⟨λh=>?_,λh=>?_,λh=>?_,λh=>?_,λh=>?_⟩<;>first | exact⟨_,_,rfl⟩ | exact⟨_,_,_,_,rfl⟩ | exact absurd h (by decide +kernel)
theorem qX{xs:List α}{v:α}(hl:xs.length=n+2)(h:xs[n]?=some v):fV xs (-2)=some v:=by
 unfold fV zt;rw [if_neg ∅,if_pos (),hl];show xs[((-2:Int)+((n+2:Nat):Int)).toNat]?=some v;rw [show((-2:Int)+((n+2:Nat):Int)).toNat=n by omega];exact h
theorem Ab{k mm:Nat}(h:mm<=k):gy cols k (.held o mm)=decide ((jB ((cH o cols (k+1)).drop (k - mm)):Int)=1):=by
 have me:∀y,y∈(cH o cols (k+1)).drop (k - mm)↔∃j,j<=mm/\dI o cols (k - j)=y:=λy=>by
  constructor
  ·intro hy
   obtain⟨i,hi⟩:=al1.mp hy;rw [af0]at hi;unfold cH at hi;have hl:=(aa1.mp hi).1;rw [aa0,List.length_range]at hl;rw [aa4,ae4 hl]at hi;exact⟨mm - i,(),by rw [show k - (mm - i)=k - mm+i by omega];exact Option.some.inj hi⟩
  ·rintro⟨j,hj,rfl⟩
   refine al1.mpr ⟨mm - j,?_⟩;rw [af0];unfold cH;rw [aa4,ae4 (),show k - mm+(mm - j)=k - j by omega];rfl
 have hx:=(me (dI o cols k)).mpr ⟨0,ac2 _,rfl⟩;have h1:=wo hx;have h2:=tE o cols k mm;refine decide_eq_decide.mpr ?_;rw [ak3,h2,show((jB ((cH o cols (k+1)).drop (k - mm)):Int)=1)↔jB ((cH o cols (k+1)).drop (k - mm))=1 by omega,h1]
 constructor
 ·rintro⟨_,g⟩ y hy
  obtain⟨j,hj,rfl⟩:=(me y).mp hy
  by_cases j0:j=0
  ·rw [j0,Nat.sub_zero]
  ·exact g j () hj
 ·intro g
  exact⟨h,λj _ j2=>g _ ((me _).mpr ⟨j,j2,rfl⟩)⟩
def vc:Sp:=λvs H Q _=>∃f s m:Int,vs=[.int f,.int s,.int m]/\0<=m/\Q (.bl (decide (f > m/\s>=0) || decide (f < 0 - m/\s<=0))) H
def jC(K:Frag):Sp:=λvs H Q _=>∃(p l:Addr) (k nv:Nat) (cols:List (List Int)) (R:aL),vs=[.ref p,.ref l,.int k]/\dU H p R/\cQ nv R/\gg K H l nv cols/\k < cols.length/\cols.length<=100/\∀H',av H H'->Q (.bl (ja cols k R)) H'
theorem yU(F:bV K "_law_turned_ill" "_law_turned_ill" fu f fd)(T:Txt mg aM): ~~~aK bP 1 f fd ["_law_first","_law_second","_law_most"] vc:=by
 refine F.ok lQ λ_ A _ s H vs Q E hr h=>?_;obtain⟨a,b,m,rfl,m0,q⟩:=h
 refine⟨rfl,_,(ah (aO (aY (ay (o0 ib) (pr 0) (pr 2) (az _))) (ai (ar (aT (o0 xt) (pr 1) ae (az _)))) aC)
 (ai (ar (gJ (eN (aT (o0 jX) (pr 0) (ao (o0 bC) ae (pr 2)) (az _)) (eA (aT (o0 ic) (pr 1) ae (az _)))))))),?_⟩
 tm_at "r"
 by_cases h:m < a
 ·rw [if_pos h]
  rw [show decide (a < 0 - m/\b<=0)=false from decide_eq_false (λz=>by omega),Bool.or_false]at q;rw [show(decide (a > m/\b>=0))=decide (0<=b)from decide_eq_decide.mpr ⟨λz=>z.2,λz=>⟨h,z⟩⟩]at q;exact q
 ·rw [if_neg h]
  rw [show decide (a > m/\b>=0)=false from decide_eq_false (λz=>h z.1),Bool.false_or]at q
  by_cases h2:a < 0 - m
  ·rw [if_pos h2]
   rw [show(decide (a < 0 - m/\b<=0))=decide (b<=0)from decide_eq_decide.mpr ⟨λz=>z.2,λz=>⟨h2,z⟩⟩]at q;exact q
  ·rw [if_neg h2]
   rw [show(decide (a < 0 - m/\b<=0))=false from decide_eq_false (λz=>h2 z.1)]at q;exact q
theorem yO(F:bV K "_law_broken" "_law_broken" iM f fd)(T:Txt mg aM)(D_law_pair_broken: ~~~cy "_law_pair_broken" 2 ["_law_rule_here","_law_line_here","_law_k"] (Gz K))(D_law_turned_ill: ~~~cy "_law_turned_ill" 2 ["_law_first","_law_second","_law_most"] vc): ~~~aK bP 3 f fd ["_law_rule_here","_law_line_here","_law_k"] (jC K):=by
 refine F.ok sc_law_broken λ_ A _ s H vs Q E hr h=>?_;obtain⟨p,l,k,nv,cols,R,rfl,hp,hg,hl,hk,hk1,q⟩:=h
 refine⟨rfl,_,(ah (aO (aY (ay (lE K) (aw (aD K) (pr 0) ae (λ_ _=>rfl)) (bM (aa ba (aa ba (aa ba ag)))) (by with_unfolding_all rfl))) (ai (ar (aA D_law_pair_broken hr ⋯ (aa (pr 0) (aa (pr 1) (aa (pr 2) ag)))))) aC)
 (ah (aO (aY (ay gA (aw (aD K) (pr 0) ae (λ_ _=>rfl)) ba (az _))) (ai (ar (gJ (eN (aT gA (ao (o1 aP) (pr 2) (aw (aD K) (pr 0) ae (λ_ _=>rfl))) (aw (aD K) (pr 0) ae (λ_ _=>rfl)) (az _)) (eA (aA D_law_pair_broken hr ⋯ (aa (aw (aD K) (pr 0) ae (λ_ _=>rfl)) (aa (pr 1) (aa (pr 2) ag))))))))) aC)
 (ah (tq (i:=3) sc_law_broken.nd rfl (Or.inr rfl) (di (own:=["_law_column"]) (js:=[0]) rfl (bI K (bo (eX K) (pr 1) bw (eP (ao (bF K) (pr 2) ae)))) (bD.of ⋯) (λ_ _ _ _ _=>(bQ (i:=0) (show List.Nodup (["_law_column","_law_rule_here"]:List Str)from by decide +kernel) rfl (Or.inl rfl))) (λ_ _ _ _ _=>cA) (λ_ _ _ _ _=>(aw (aD K) (pr 0) (ao (o0 bC) (aw (aD K) (pr 1) ae (λ_ _=>rfl)) ae) (λ_ _=>rfl)))))
 (ah (iz (i:=4) sc_law_broken.nd rfl (Or.inl rfl) (own:=["_law_j"]) (js:=[3]) rfl (cS rfl T.n_range (aa (pr 2) ag)) (bD.of ⋯) (λ_ _ _ _ _=>(bQ (i:=0) (show List.Nodup (["_law_j","_law_notes"]:List Str)from by decide +kernel) rfl (Or.inl rfl))) (λ_ _ _ _ _=>cA) (λ_ _ _ _ _=>(ao (o0 bC) (aw (aD K) (pr 1) (ao (bF K) (pr 0) ae) (λ_ _=>rfl)) (aw (aD K) (pr 1) (pr 0) (λ_ _=>rfl)))) rfl)
 (ah (aO (aY (ay gA (aw (aD K) (pr 0) ae (λ_ _=>rfl)) ba (az _))) (ai (ar (gJ (eN (aT (o0 ib) (pr 2) ae (az _)) (eA (aT (eM K) (aw (aD K) (pr 4) (j6 (u1 g9) ae) (λ_ _=>rfl)) (aw (aD K) (pr 0) ae (λ_ _=>rfl)) (by with_unfolding_all rfl))))))) aC)
 (ah (aO (aY (ay gA (aw (aD K) (pr 0) ae (λ_ _=>rfl)) ba (az _))) (ai (ar (gJ (eN (aT (o0 ib) (pr 2) ae (az _)) (eA (aA D_law_turned_ill hr ⋯ (aa (aw (aD K) (pr 4) (j6 (u1 g9) ae) (λ_ _=>rfl)) (aa (aw (aD K) (pr 4) (j6 (u1 g9) ae) (λ_ _=>rfl)) (aa (aw (aD K) (pr 0) ae (λ_ _=>rfl)) ag))))))))) aC)
 (ah (aO (aY (ay gA (aw (aD K) (pr 0) ae (λ_ _=>rfl)) ba (az _))) (ai (ar (gJ (eN (aT (o0 xt) (pr 2) (aw (aD K) (pr 0) ae (λ_ _=>rfl)) (az _)) (eA (aT gA (yX K rfl ⋯ T.n_len ⋯ T.n_set (aa (bo (eX K) (pr 3) (eP (ao (o0 bC) (pr 2) (aw (aD K) (pr 0) ae (λ_ _=>rfl)))) bw) ag)) ae (az _))))))) aC)
 (ah (aO (aY (ay gA (aw (aD K) (pr 0) ae (λ_ _=>rfl)) ba (az _))) (ai (ar (gJ (eN (aT gA (aw (aD K) (pr 3) (pr 2) (λ_ _=>rfl)) (aw (aD K) (pr 0) ae (λ_ _=>rfl)) (az _)) (eA (aT (o0 ib) (cf K PySem.F.plainAttrs_list PySem.F.slot_list_count PySem.F.type_list_count uq (pr 3) (aa (aw (aD K) (pr 0) ae (λ_ _=>rfl)) ag)) (aw (aD K) (pr 0) ae (λ_ _=>rfl)) (az _))))))) aC)
 (ai (ar (gJ (eN (aT gA (aw (aD K) (pr 0) ae (λ_ _=>rfl)) ba (az _)) (gJ (eN (aT gA (pr 2) ae (az _)) (eA (aT (eM K) (aw (aD K) (pr 3) ae (λ_ _=>rfl)) (aw (aD K) (pr 0) ae (λ_ _=>rfl)) (by with_unfolding_all rfl))))))))))))))))),?_⟩
 have hs:=sizeLine_eq;have q0:=q H (av.refl H);obtain⟨xs,hx,x0⟩:=hp.kd;have ix:∀{j:Nat} {x:V} {Q':VK},xs[j]?=some x->Q' x H->ny K (.ref p) (.int (j:Int)) H Q':=λe q=>dy (cM.of hx) (aJ e) q;refine aN (λZ H'=>gz R∉pairs3/\Z=[↑p,↑l,⇑k,none,none]/\av H H') ?_ ?_
 ·intro u' hu
  refine cv λA0 B0 hA hB=>?_;tm_at "r";refine ix (j:=0) x0 ?_;tm_at "r";refine⟨(),λp1 hp1=>y4 (ws:=pairs3) (aH.of af) ⟨_,rfl,?_⟩⟩;have s1:=au (o:=.lst (pairs3.map V.str)) hp1
  by_cases h:gz R∈pairs3
  ·rw [if_pos (decide_eq_true h)]
   obtain⟨R',rfl,hpr⟩:=(uI R).mp h;refine hA _ ?_;tm_at "r";exact⟨p,l,k,nv,cols,R',rfl,eH.same hp s1,hpr,hg,hl.same s1,hk,q _ s1⟩
  ·rw [if_neg (by rw [decide_eq_false h];exact aa6)]
   exact hB _ (hu _ _ ⟨h,rfl,s1⟩)
 rintro Ω ω _ H1 ⟨np,rfl,s1⟩;replace hp:=hp.same s1;replace hl:=hl.same s1;replace q:∀H',av H1 H'->Q (.bl (ja cols k R)) H':=λH' s=>q H' (s1.trans s);have hx1:=s1 _ _ hx;clear ix hx q0;have ix:∀{j:Nat} {x:V} {Q':VK},xs[j]?=some x->Q' x H1->ny K (.ref p) (.int (j:Int)) H1 Q':=λe q=>dy (cM.of hx1) (aJ e) q;refine ω _ _ (aN (λZ H'=>(∃R',R=.plain R'/\¬xu R')/\Z=[↑p,↑l,⇑k,none,none]/\H1=H') ?_ ?_)
 ·intro u' hu
  refine cv λA0 B0 hA hB=>?_;tm_at "r";refine ix (j:=0) x0 ?_;tm_at "r"
  cases R with
  | every m a R0=>
   rw [if_pos (show gz (.every m a R0)=Str.ofString "every" from rfl)];obtain⟨q1,e1,h2⟩:=hp;rw [hx1]at e1;cases e1;refine hA _ ?_;tm_at "r";obtain⟨g1,g2,g3,_,_⟩:=hg;refine ix (j:=1) rfl ⟨m,rfl,(),ix (j:=2) rfl ?_⟩;tm_at "r";have q1':=q H1 (av.refl _)
   by_cases e:(k:Int) % m=a
   ·rw [if_pos e]
    rw [show ja cols k (.every m a R0)=gy cols k R0 by simp [ja,e]]at q1';exact ix (j:=3) rfl ⟨q1,l,k,nv,cols,R0,rfl,h2,Ai g2,g1,hl,hk,q1'⟩
   ·rw [if_neg e]
    rw [show ja cols k (.every m a R0)=false by simp [ja,e]]at q1';exact q1'
  | plain R'=>
   rw [if_neg ?_]
   ·exact hB _ (hu _ _ ⟨⟨R',rfl,λz=>np ((uI _).mpr ⟨R',rfl,z⟩)⟩,rfl,rfl⟩)
   ·exact λe=>(gI R').2.2.2 (by rw [show aR R'=Str.ofString "every" from e];decide +kernel)
 rintro Ω ω _ _ ⟨⟨R',rfl,npr⟩,rfl,rfl⟩
 obtain⟨o,p0,p1,x1,hv⟩:∃o:Int,0<=o/\o < nv/\xs[1]?=⇑(o+1)/\vo R'=o:=by
  have hp':eH H1 p R':=hp;unfold eH at hp'
  cases R' with
  | span _ _ _=>exact(npr trivial).elim
  | clock _ _ _ _=>exact(npr trivial).elim
  | alike _ _ _=>exact(npr trivial).elim
  | move o D=>obtain⟨d,e,_⟩:=hp';rw [hx1]at e;cases e;exact⟨o,hg.1,hg.2,rfl,rfl⟩
  | begin o D=>obtain⟨d,e,_⟩:=hp';rw [hx1]at e;cases e;exact⟨o,hg.1,hg.2,rfl,rfl⟩
  | close o D=>obtain⟨d,e,_⟩:=hp';rw [hx1]at e;cases e;exact⟨o,hg.1,hg.2,rfl,rfl⟩
  | back o f=>have e:=hp';rw [hx1]at e;cases e;exact⟨o,hg.1,hg.2.1,rfl,rfl⟩
  | held o f=>have e:=hp';rw [hx1]at e;cases e;exact⟨o,hg.1,hg.2.1,rfl,rfl⟩
  | times o n lw hi=>have e:=hp';rw [hx1]at e;cases e;exact⟨o,hg.1,hg.2.1,rfl,rfl⟩
 refine ω _ _ (aN (λZ H'=>∃n:Addr,H' n=some (.lst ((cH o cols (k+1)).map V.int))/\Z=[↑p,↑l,⇑k,↑n,none]/\av H1 H') ?_ ?_)
 ·intro u' hu
  tm_at "r";obtain⟨ps,hps,hpl,hpc⟩:=id hl;refine ck hps λc hc=>?_;rw [show(some ((k:Int)+1))=some ((k+1:Nat):Int)from rfl,dJ,<-an7];have s3:av H1 (upd H1 c (.lst ((ps.take (k+1)).map V.ref))):=au hc;have hc1:(upd H1 c (.lst ((ps.take (k+1)).map V.ref))) c=some (.lst ((ps.take (k+1)).map V.ref)):=af;generalize upd H1 c (.lst ((ps.take (k+1)).map V.ref))=H3 at s3 hc1;refine bR (aH.of hc1) (bW (xs:=(ps.take (k+1)).map V.ref) (λj ys H'=>ys=(cH o cols j).map V.int/\H3=H') (by rw [aa0,ac3];omega) ⟨rfl,rfl⟩ (λj ys H' h=>by obtain⟨rfl,_⟩:=h;simp [cH]) (λj ys H' h=>h.2▸aH.of hc1) ?_ ?_)
  ·rintro j x ys H' hj' ⟨rfl,rfl⟩
   have hj:j < k+1:=by have:=(aa1.mp hj').1;rw [aa0,ac3]at this;omega
   have d1:ps[j]?=some (ps[j]'()):=aa2 ();have d2:cols[j]?=some (cols[j]'()):=aa2 ();rw [aa4,ah6,if_pos hj,d1]at hj';cases hj';obtain⟨f1,f2⟩:=hpc _ _ _ d1 d2;tm_at "r";refine dy (cM.of (s3 _ _ hx1)) (show fV _ ((1:Nat):Int)=_ from aJ x1) ?_;tm_at "r";refine FC (s3.tup f1) p0 () ?_;unfold cH;rw [am0,ab3,ab3,<-d0 (o:=o) d2];exact⟨rfl,rfl⟩
  ·rintro ys H' ⟨rfl,rfl⟩ c2 hc2
   rw [aa0,ac3,ap1 ()];exact hu _ _ ⟨c2,af,rfl,s3.upd hc2⟩
 rintro Ω ω _ H2 ⟨n,hn,rfl,s2⟩;have nx:∀{j:Nat} {Q':VK} {H':Hp},av H2 H'->j < k+1->Q' (.int (dI o cols j)) H'->ny K (.ref n) (.int (j:Int)) H' Q':=λs hj q=>bp (aH.of (s _ _ hn)) (aJ (by rw [aa4];unfold cH;rw [aa4,ae4 hj];rfl)) q;refine ω _ _ (aN (λZ H'=>∃v:Addr,H' v=some (.lst (((List.range k).map λj=>fW o cols (j+1)).map V.int))/\Z=[↑p,↑l,⇑k,↑n,↑v]/\av H2 H') ?_ ?_)
 ·intro u' hu
  tm_at "r";refine⟨(),(),gG (λj ys H'=>ys=((List.range j).map λj=>fW o cols (j+1)).map V.int/\H2=H') () ⟨rfl,rfl⟩ (λj ys H' h=>by obtain⟨rfl,_⟩:=h;simp) ?_ ?_⟩
  ·rintro j ys H' hj ⟨rfl,rfl⟩
   tm_at "r";refine nx (j:=j+1) (av.refl _) () (nx (j:=j) (av.refl _) () ?_);tm_at "r";rw [am0,ab3,ab3];rfl
  ·rintro ys H' ⟨rfl,rfl⟩ c2 hc2
   exact hu _ _ ⟨c2,by rw [af];rfl,rfl,au hc2⟩
 rintro Ω ω _ H3 ⟨v,hv3,rfl,s3⟩;have hp3:eH H3 p R':=eH.same hp (s2.trans s3);have hx3:=(s2.trans s3) _ _ hx1;replace q:∀H',av H3 H'->Q (.bl (gy cols k R')) H':=λH' s=>q H' ((s2.trans s3).trans s);have q3:=q H3 (av.refl _);clear ix;have ix:∀{j:Nat} {x:V} {Q':VK},xs[j]?=some x->Q' x H3->ny K (.ref p) (.int (j:Int)) H3 Q':=λe q=>dy (cM.of hx3) (aJ e) q;refine ω _ _ (aN (λZ H'=>aR R'≠Str.ofString "move"/\Z=[↑p,↑l,⇑k,↑n,↑v]/\H3=H') ?_ ?_)
 ·intro u' hu
  refine cv λA0 B0 hA hB=>?_;tm_at "r";refine ix (j:=0) x0 ?_;tm_at "r"
  by_cases e:aR R'=Str.ofString "move"
  ·rw [show gz (.plain R')=aR R' from rfl,if_pos e]
   refine hA _ ?_;tm_at "r";obtain⟨o',D,rfl⟩:=(iw R').1 e;obtain rfl:o'=o:=hv;obtain⟨d,e1,hD⟩:=hp3;rw [hx3]at e1;cases e1
   by_cases k0:k=0
   ·subst k0
    rw [if_neg ∅];exact q3
   ·obtain⟨m,rfl⟩:∃m,k=m+1:=⟨k - 1,()⟩
    rw [if_pos ()];refine bp (aH.of hv3) (jJ (n:=m) (by simp) (by rw [aa4,aa4,ae4 ()];rfl)) (ix (j:=2) rfl (eD (aH.of hD) ?_));rw [show gy cols (m+1) (.move o' D)=!decide (fW o' cols (m+1)∈D)by simp [gy]]at q3;exact q3
  ·rw [show gz (.plain R')=aR R' from rfl,if_neg e]
   exact hB _ (hu _ _ ⟨e,rfl,rfl⟩)
 rintro Ω ω _ _ ⟨m1,rfl,rfl⟩;refine ω _ _ (aN (λZ H'=>aR R'≠Str.ofString "back"/\Z=[↑p,↑l,⇑k,↑n,↑v]/\H3=H') ?_ ?_)
 ·intro u' hu
  refine cv λA0 B0 hA hB=>?_;tm_at "r";refine ix (j:=0) x0 ?_;tm_at "r"
  by_cases e:aR R'=Str.ofString "back"
  ·rw [show gz (.plain R')=aR R' from rfl,if_pos e]
   refine hA _ ?_;tm_at "r";obtain⟨o',f',rfl⟩:=(iw R').2.1 e;obtain rfl:o'=o:=hv;have e1:=hp3;unfold eH at e1;simp only [Ca]at e1;rw [hx3]at e1;cases e1
   by_cases k1:(1:Int) < k
   ·obtain⟨m,rfl⟩:∃m,k=m+2:=⟨k - 2,()⟩
    rw [if_pos k1];refine bp (aH.of hv3) (qX (n:=m) (by simp) (by rw [aa4,aa4,ae4 ()];rfl)) (bp (aH.of hv3) (jJ (n:=m+1) (by simp) (by rw [aa4,aa4,ae4 ()];rfl)) (ix (j:=2) rfl ⟨_,_,_,rfl,hg.2.2,?_⟩))
    rw [show gy cols (m+2) (.back o' f')=(decide (fW o' cols (m+1) > f'/\fW o' cols (m+2)>=0) || decide (fW o' cols (m+1) < 0 - f'/\fW o' cols (m+2)<=0))by simp [gy]]at q3
    exact q3
   ·rw [if_neg k1]
    rw [show gy cols k (.back o' f')=false by have:decide (2<=k)=false:=decide_eq_false ();simp only [gy,this,ah4]]at q3;exact q3
  ·rw [show gz (.plain R')=aR R' from rfl,if_neg e]
   exact hB _ (hu _ _ ⟨e,rfl,rfl⟩)
 rintro Ω ω _ _ ⟨m2,rfl,rfl⟩;refine ω _ _ (aN (λZ H'=>aR R'≠Str.ofString "held"/\Z=[↑p,↑l,⇑k,↑n,↑v]/\H3=H') ?_ ?_)
 ·intro u' hu
  refine cv λA0 B0 hA hB=>?_;tm_at "r";refine ix (j:=0) x0 ?_;tm_at "r"
  by_cases e:aR R'=Str.ofString "held"
  ·rw [show gz (.plain R')=aR R' from rfl,if_pos e]
   refine hA _ ?_;tm_at "r";obtain⟨o',f',rfl⟩:=(iw R').2.2.1 e;obtain rfl:o'=o:=hv;have e1:=hp3;unfold eH at e1;simp only [Ca]at e1;rw [hx3]at e1;cases e1;refine ix (j:=2) rfl ⟨f',rfl,?_⟩;have f1:=hg.2.2
   by_cases fk:f'<=(k:Int)
   ·rw [if_pos fk]
    obtain⟨mm,rfl⟩:∃mm:Nat,f'=mm:=⟨f'.toNat,()⟩;simp only [xO];tm_at "r";refine ix (j:=2) rfl ⟨_,rfl,?_⟩;rw [show(k:Int) - (mm:Int)=((k - mm:Nat):Int)by omega];refine ck (aH.of (s3 _ _ hn)) λc hc=>?_;rw [cC,<-List.map_drop];refine⟨c,rfl,_,aH.of af,by simp [cH];omega,?_⟩;rw [<-Ab (mm:=mm) ()];exact q _ (au hc)
   ·rw [if_neg fk]
    rw [show gy cols k (.held o' f')=false from decide_eq_false (λz=>by
     have:=((tE o' cols k f'.toNat).mp ()).1
     omega)]at q3
    exact q3
  ·rw [show gz (.plain R')=aR R' from rfl,if_neg e]
   exact hB _ (hu _ _ ⟨e,rfl,rfl⟩)
 rintro Ω ω _ _ ⟨m3,rfl,rfl⟩;refine ω _ _ (aN (λZ H'=>aR R'≠Str.ofString "times"/\Z=[↑p,↑l,⇑k,↑n,↑v]/\H3=H') ?_ ?_)
 ·intro u' hu
  refine cv λA0 B0 hA hB=>?_;tm_at "r";refine ix (j:=0) x0 ?_;tm_at "r"
  by_cases e:aR R'=Str.ofString "times"
  ·rw [show gz (.plain R')=aR R' from rfl,if_pos e]
   refine hA _ ?_;tm_at "r";obtain⟨o',nt,lw,hgh,rfl⟩:=(iw R').2.2.2.1 e;obtain rfl:o'=o:=hv;have e1:=hp3;unfold eH at e1;simp only [Ca]at e1;rw [hx3]at e1;cases e1;refine nx s3 () (ix (j:=2) rfl ?_);tm_at "r";have hc:=mr o' nt cols (k+1) ()
   by_cases en:dI o' cols k=nt
   ·rw [if_pos en]
    refine⟨.inl ⟨rfl,_,aH.of (s3 _ _ hn)⟩,ix (j:=2) rfl ⟨n,_,nt,rfl,rfl,s3 _ _ hn,ix (j:=4) rfl ⟨_,rfl,_,rfl,?_⟩⟩⟩;rw [hc];have e2:cols[k]?=some (cols[k]'hk):=aa2 hk
    have ch:t9 o' nt cols[k]=true:=by unfold t9;rw [<-d0 (o:=o') e2];exact decide_eq_true en
    rw [nV o' nt cols k _ e2,ch,if_pos rfl];rw [show gy cols k (.times o' nt lw hgh)=decide (hgh < ((jc o' nt cols k+1:Nat):Int))by simp only [gy,en,decide_true,ai1];exact decide_eq_decide.mpr ()]at q3;exact q3
   ·rw [if_neg en]
    rw [show gy cols k (.times o' nt lw hgh)=false by simp [gy,en]]at q3;exact q3
  ·rw [show gz (.plain R')=aR R' from rfl,if_neg e]
   exact hB _ (hu _ _ ⟨e,rfl,rfl⟩)
 rintro Ω ω _ _ ⟨m4,rfl,rfl⟩;refine ω _ _ ?_;tm_at "r";refine ix (j:=0) x0 ?_;tm_at "r";rw [show gz (.plain R')=aR R' from rfl]
 by_cases e:aR R'=Str.ofString "begin"
 ·rw [if_pos e]
  obtain⟨o',D,rfl⟩:=(iw R').2.2.2.2 e;obtain rfl:o'=o:=hv;obtain⟨d,e1,hD⟩:=hp3;rw [hx3]at e1;cases e1
  by_cases k0:k=0
  ·subst k0
   rw [if_pos (show((0:Nat):Int)=0 from rfl)];exact nx (j:=0) s3 () (ix (j:=2) rfl (eD (aH.of hD) (by rw [show gy cols 0 (.begin o' D)=!decide (dI o' cols 0∈D)by simp [gy]]at q3;exact q3)))
  ·rw [if_neg ()]
   rw [show gy cols k (.begin o' D)=false by simp [gy,k0]]at q3;exact q3
 ·rw [if_neg e]
  rw [show gy cols k R'=false by
   cases R' with
   | close _ _=>rfl
   | begin _ _=>exact absurd rfl e
   | move _ _=>exact absurd rfl m1
   | back _ _=>exact absurd rfl m2
   | held _ _=>exact absurd rfl m3
   | times _ _ _ _=>exact absurd rfl m4
   | _=>exact(npr trivial).elim]at q3
  exact q3
def ends3:List Str:=[Str.ofString "back",Str.ofString "times",Str.ofString "close"]
theorem xh{R:aL}(h:gz R∈ends3):(∃o f,R=.plain (.back o f))\/(∃o n l g,R=.plain (.times o n l g))\/∃o D,R=.plain (.close o D):=by
 cases R with
 | every m a R=>exact absurd h (show Str.ofString "every"∉ends3 by decide +kernel)
 | plain R=>
  cases R with
  | back o f=>exact .inl ⟨_,_,rfl⟩
  | times o n l g=>exact .inr (.inl ⟨_,_,_,_,rfl⟩)
  | close o D=>exact .inr (.inr ⟨_,_,rfl⟩)
  | span o t D=>exact absurd h (show Str.ofString "span"∉ends3 by decide +kernel)
  | clock o t g D=>exact absurd h (show Str.ofString "clock"∉ends3 by decide +kernel)
  | alike o t D=>exact absurd h (show Str.ofString "alike"∉ends3 by decide +kernel)
  | move o D=>exact absurd h (show Str.ofString "move"∉ends3 by decide +kernel)
  | held o D=>exact absurd h (show Str.ofString "held"∉ends3 by decide +kernel)
  | begin o D=>exact absurd h (show Str.ofString "begin"∉ends3 by decide +kernel)
theorem AK{R:aL}(h:gz R∉ends3)(cols:List (List Int)):jj cols R=false:=by
 cases R with
 | every m a R=>rfl
 | plain R=>
  cases R with
  | back o f=>exact absurd (show Str.ofString "back"∈ends3 by decide +kernel) h
  | times o n l g=>exact absurd (show Str.ofString "times"∈ends3 by decide +kernel) h
  | close o D=>exact absurd (show Str.ofString "close"∈ends3 by decide +kernel) h
  | _=>rfl
def xA(K:Frag):Sp:=λvs H Q _=>∃(p l:Addr) (nv:Nat) (cols:List (List Int)) (R:aL),vs=[.ref p,.ref l]/\dU H p R/\cQ nv R/\gg K H l nv cols/\cols.length<=100/\∀H',av H H'->Q (.bl (jj cols R)) H'
theorem EJ(F:bV K "_law_ill_close" "_law_ill_close" fT f fd)(T:Txt mg aM): ~~~aK bP 1 f fd ["_law_rule_here","_law_line_here"] (xA K):=by
 refine F.ok sc_law_ill_close λ_ A _ s H vs Q E hr h=>?_;obtain⟨p,l,nv,cols,R,rfl,hp,hg,hl,hk1,q⟩:=h
 refine⟨rfl,_,(ah (aO (aY (ay (eM K) (aw (aD K) (pr 0) ae (λ_ _=>rfl)) (bM (aa ba (aa ba (aa ba ag)))) (by with_unfolding_all rfl))) (ai (ar jm)) aC)
 (ah (iz (i:=2) sc_law_ill_close.nd rfl (Or.inl rfl) (own:=["_law_column"]) (js:=[0]) rfl (bI K (pr 1)) (bD.of ⋯) (λ_ _ _ _ _=>(bQ (i:=0) (show List.Nodup (["_law_column","_law_rule_here"]:List Str)from by decide +kernel) rfl (Or.inl rfl))) (λ_ _ _ _ _=>cA) (λ_ _ _ _ _=>(aw (aD K) (pr 0) (ao (o0 bC) (aw (aD K) (pr 1) ae (λ_ _=>rfl)) ae) (λ_ _=>rfl))) rfl)
 (ah (aO (aY (ay gA (aw (aD K) (pr 0) ae (λ_ _=>rfl)) ba (az _))) (ai (ar (aT (o0 jX) (cf K PySem.F.plainAttrs_list PySem.F.slot_list_count PySem.F.type_list_count uq (pr 2) (aa (aw (aD K) (pr 0) ae (λ_ _=>rfl)) ag)) (aw (aD K) (pr 0) ae (λ_ _=>rfl)) (az _)))) aC)
 (ah (aO (aY (ay gA (aw (aD K) (pr 0) ae (λ_ _=>rfl)) ba (az _))) (ai (ar (gJ (eN (aT (o0 ib) (aB (aE K) ⋯ T.n_len boot_len (aa (pr 2) ag)) ae (az _)) (eA (aT (o0 ib) (aB (zK) ⋯ T.n_abs boot_abs (aa (ao (o0 bC) (aw (aD K) (pr 2) (j6 (u1 g9) ae) (λ_ _=>rfl)) (aw (aD K) (pr 2) (j6 (u1 g9) ae) (λ_ _=>rfl))) ag)) (aw (aD K) (pr 0) ae (λ_ _=>rfl)) (az _))))))) aC)
 (ai (ar (gJ (eN (aT (o0 ib) (aB (aE K) ⋯ T.n_len boot_len (aa (pr 2) ag)) ae (az _)) (eA (aT (eM K) (aw (aD K) (pr 2) (j6 (u1 g9) ae) (λ_ _=>rfl)) (aw (aD K) (pr 0) ae (λ_ _=>rfl)) (by with_unfolding_all rfl))))))))))),?_⟩
 have hs:=sizeLine_eq;obtain⟨xs,hx,x0⟩:=hp.kd;have ix:∀{j:Nat} {x:V} {Q':VK} {H':Hp},av H H'->xs[j]?=some x->Q' x H'->ny K (.ref p) (.int (j:Int)) H' Q':=λs e q=>dy (cM.of (s _ _ hx)) (aJ e) q;refine aN (λZ H'=>gz R∈ends3/\Z=[↑p,↑l,none]/\av H H') ?_ ?_
 ·intro u' hu
  tm_at "r";refine ix (j:=0) (av.refl _) x0 ?_;tm_at "r";refine⟨(),λp1 hp1=>tw (ws:=ends3) (aH.of af) ⟨_,rfl,?_⟩⟩;have s1:=au (o:=.lst (ends3.map V.str)) hp1
  by_cases h:gz R∈ends3
  ·rw [if_neg (by rw [decide_eq_true h];exact aa6)]
   exact hu _ _ ⟨h,rfl,s1⟩
  ·rw [if_pos (by rw [decide_eq_false h];rfl)]
   rw [AK h]at q;exact q _ s1
 rintro Ω ω _ H1 ⟨hk,rfl,s1⟩
 obtain⟨o,R',rfl,p0,p1,x1⟩:∃(o:Int) (R':c8),R=.plain R'/\0<=o/\o < nv/\xs[1]?=⇑(o+1)/\vo R'=o:=by
  rcases xh hk with⟨o,f,rfl⟩ | ⟨o,n,l,g,rfl⟩ | ⟨o,D,rfl⟩
  ·have e:H p=some (.tup (CF (.back o f))):=hp
   rw [hx]at e;cases e;exact⟨o,_,rfl,hg.1,hg.2.1,rfl,rfl⟩
  ·have e:H p=some (.tup (CF (.times o n l g))):=hp
   rw [hx]at e;cases e;exact⟨o,_,rfl,hg.1,hg.2.1,rfl,rfl⟩
  ·obtain⟨d,e,_⟩:=hp
   rw [hx]at e;cases e;exact⟨o,_,rfl,hg.1,hg.2,rfl,rfl⟩
 obtain⟨x1,hv⟩:=x1;have hl1:=hl.same s1;refine ω _ _ (aN (λZ H'=>∃n:Addr,H' n=some (.lst ((cH o cols cols.length).map V.int))/\Z=[↑p,↑l,↑n]/\av H H') ?_ ?_)
 ·intro u' hu
  tm_at "r";obtain⟨ps,hps,hpl,hpc⟩:=id hl1;refine bR hps (bW (xs:=ps.map V.ref) (λj ys H'=>ys=(cH o cols j).map V.int/\H1=H') (by rw [aa0];omega) ⟨rfl,rfl⟩ (λj ys H' h=>by obtain⟨rfl,_⟩:=h;simp [cH]) (λj ys H' h=>h.2▸hps) ?_ ?_)
  ·rintro j x ys H' hj' ⟨rfl,rfl⟩
   have hj:j < ps.length:=by have:=(aa1.mp hj').1;rw [aa0]at this;exact this
   have d1:ps[j]?=some (ps[j]'hj):=aa2 hj;have d2:cols[j]?=some (cols[j]'()):=aa2 ();rw [aa4,d1]at hj';cases hj';obtain⟨f1,f2⟩:=hpc _ _ _ d1 d2;tm_at "r";refine ix (j:=1) s1 x1 ?_;tm_at "r";refine FC f1 p0 () ?_;unfold cH;rw [am0,ab3,ab3,<-d0 (o:=o) d2];exact⟨rfl,rfl⟩
  ·rintro ys H' ⟨rfl,rfl⟩ c2 hc2
   rw [aa0,hpl];exact hu _ _ ⟨c2,af,rfl,s1.upd hc2⟩
 rintro Ω ω _ H2 ⟨n,hn,rfl,s2⟩
 have nl:(cH o cols cols.length).length=cols.length:=by simp [cH]
 have q2:=q H2 s2;refine ω _ _ (aN (λZ H'=>aR R'≠Str.ofString "times"/\Z=[↑p,↑l,↑n]/\H2=H') ?_ ?_)
 ·intro u' hu
  refine cv λA0 B0 hA hB=>?_;tm_at "r";refine ix (j:=0) s2 x0 ?_;tm_at "r"
  by_cases e:aR R'=Str.ofString "times"
  ·rw [show gz (.plain R')=aR R' from rfl,if_pos e]
   refine hA _ ?_;tm_at "r";obtain⟨o',nt,lw,g,rfl⟩:=(iw R').2.2.2.1 e;obtain rfl:o'=o:=hv;have e1:H p=some (.tup (CF (.times o' nt lw g))):=hp;rw [hx]at e1;cases e1;refine⟨.inl ⟨rfl,_,aH.of hn⟩,ix (j:=2) s2 rfl ⟨n,_,nt,rfl,rfl,hn,ix (j:=3) s2 rfl ⟨_,rfl,_,rfl,?_⟩⟩⟩;rw [mr o' nt cols cols.length (aa8 _)];exact q2
  ·rw [show gz (.plain R')=aR R' from rfl,if_neg e]
   exact hB _ (hu _ _ ⟨e,rfl,rfl⟩)
 rintro Ω ω _ _ ⟨n1,rfl,rfl⟩;refine ω _ _ (aN (λZ H'=>aR R'≠Str.ofString "back"/\Z=[↑p,↑l,↑n]/\H2=H') ?_ ?_)
 ·intro u' hu
  refine cv λA0 B0 hA hB=>?_;tm_at "r";refine ix (j:=0) s2 x0 ?_;tm_at "r"
  by_cases e:aR R'=Str.ofString "back"
  ·rw [show gz (.plain R')=aR R' from rfl,if_pos e]
   refine hA _ ?_;tm_at "r";obtain⟨o',f',rfl⟩:=(iw R').2.1 e;obtain rfl:o'=o:=hv;have e1:H p=some (.tup (CF (.back o' f'))):=hp;rw [hx]at e1;cases e1;have f0:=hg.2.2;refine⟨_,.inl (aH.of hn),?_⟩;rw [aa0,nl]
   by_cases k1:(1:Int) < cols.length
   ·rw [if_pos k1]
    obtain⟨m,hm⟩:∃m,cols.length=m+2:=⟨cols.length - 2,()⟩;refine bp (aH.of hn) (jJ (n:=m+1) (by rw [aa0,nl,hm]) (by rw [aa4];unfold cH;rw [aa4,ae4 ()];rfl)) (bp (aH.of hn) (qX (n:=m) (by rw [aa0,nl,hm]) (by rw [aa4];unfold cH;rw [aa4,ae4 ()];rfl)) ⟨_,rfl,_,rfl,ix (j:=2) s2 rfl ⟨_,rfl,?_⟩⟩)
    have hb:jj cols (.plain (.back o' f'))=decide (f' < if dI o' cols (m+1) - dI o' cols m < 0 then -(dI o' cols (m+1) - dI o' cols m)else dI o' cols (m+1) - dI o' cols m):=by
     have h2:decide (2<=m+2)=true:=decide_eq_true ();have em:fW o' cols (m+1)=dI o' cols (m+1) - dI o' cols m:=rfl;simp only [jj,Dc,hm,h2,ai1,show m+2 - 1=m+1 from rfl,em];generalize dI o' cols (m+1) - dI o' cols m=x;rw [af4,aj8,decide_eq_true_eq,decide_eq_true_eq,decide_eq_true_eq]
     split<;>omega
    rw [hb]at q2;exact q2
   ·rw [if_neg k1]
    rw [show jj cols (.plain (.back o' f'))=false by have:decide (2<=cols.length)=false:=decide_eq_false ();simp only [jj,Dc,this,ah4]]at q2;exact q2
  ·rw [show gz (.plain R')=aR R' from rfl,if_neg e]
   exact hB _ (hu _ _ ⟨e,rfl,rfl⟩)
 rintro Ω ω _ _ ⟨n2,rfl,rfl⟩;refine ω _ _ ?_;tm_at "r"
 obtain⟨D,rfl⟩:∃D,R'=.close o D:=by
  rcases xh hk with⟨o',f,e⟩ | ⟨o',a,b,c,e⟩ | ⟨o',D,e⟩
  ·cases e;exact absurd rfl n2
  ·cases e;exact absurd rfl n1
  ·cases e;obtain rfl:o'=o:=hv;exact⟨D,rfl⟩
 obtain⟨d,e1,hD⟩:=hp;rw [hx]at e1;cases e1;refine⟨_,.inl (aH.of hn),?_⟩;rw [aa0,nl]
 by_cases k0:(0:Int) < cols.length
 ·rw [if_pos k0]
  obtain⟨m,hm⟩:∃m,cols.length=m+1:=⟨cols.length - 1,()⟩;refine bp (aH.of hn) (jJ (n:=m) (by rw [aa0,nl,hm]) (by rw [aa4];unfold cH;rw [aa4,ae4 ()];rfl)) (ix (j:=2) s2 rfl (eD (aH.of (s2 _ _ hD)) ?_));rw [show jj cols (.plain (.close o D))=!decide (dI o cols m∈D)by simp [jj,Dc,hm]]at q2;exact q2
 ·rw [if_neg k0]
  rw [show jj cols (.plain (.close o D))=false by simp only [jj,Dc,show cols.length=0 by omega];rfl]at q2;exact q2
def sY(bs:List (Int×Int))(cols:List (List Int))(k v:Nat):Bool:=!decide ((bs.getD v (0,0)).1<=(cols.getD k []).getD v 0/\(cols.getD k []).getD v 0<=(bs.getD v (0,0)).2)
def eI(bs:List (Int×Int))(Rs:List aL)(cols:List (List Int))(k:Nat):Bool:=(List.range bs.length).any (sY bs cols k) || Rs.any (ja cols k)
def l9(bs:List (Int×Int))(Rs:List aL)(cols:List (List Int))(v:V)(H:Hp):Prop:=match dE (eI bs Rs cols) 0 cols.length with
 | some j=>∃(t:Addr) (r:Int),v=.ref t/\H t=some (.tup [.int j,.int r])
 | none=>v=.non\/∃(t:Addr) (r:Int),v=.ref t/\H t=some (.tup [.int cols.length,.int r])
theorem je(B:Nat->Bool):∀(n i:Nat),(∀j,i<=j->j < i+n->B j=false)->dE B i n=none
 | 0,_,_=>rfl
 | n+1,i,h=>by
  rw [fH,je B n i λj h1 h2=>h j h1 ()];show(if B (i+n)=true then _ else none)=none;rw [h (i+n) () ()];rfl
theorem n6(B:Nat->Bool)(k:Nat)(hb:B k=true)(h:∀j,j < k->B j=false):∀n,k < n->dE B 0 n=some k
 | 0,h0=>absurd h0 (ak0 k)
 | n+1,hn=>by
  rw [fH]
  by_cases e:k < n
  ·rw [n6 B k hb h n e]
  ·have e:k=n:=by omega
   subst e;rw [je B k 0 λj _ h2=>h j ()];show(if B (0+k)=true then _ else none)=_;rw [ai6,hb];rfl
def xy(K:Frag):Sp:=λvs H Q _=>∃(r ru l:Addr) (bs:List (Int×Int)) (Rs:List aL) (cols:List (List Int)),vs=[.ref r,.ref ru,.ref l]/\bT K H r bs/\bs.length<=4/\jZ H ru Rs/\Rs.length<=12/\(∀R∈Rs,cQ bs.length R)/\gg K H l bs.length cols/\cols.length<=100/\∀v H',l9 bs Rs cols v H'->av H H'->Q v H'
theorem AV(F:bV K "_law_fault" "_law_fault" jy f fd)(T:Txt mg aM)(D_law_broken: ~~~cy "_law_broken" 3 ["_law_rule_here","_law_line_here","_law_k"] (jC K))(D_law_ill_close: ~~~cy "_law_ill_close" 3 ["_law_rule_here","_law_line_here"] (xA K)): ~~~aK bP 4 f fd ["_law_ranges_here","_law_rules_here","_law_line_here"] (xy K):=by
 refine F.ok sc_law_fault λ_ A _ s H vs Q E hr h=>?_;obtain⟨r,ru,l,bs,Rs,cols,rfl,hR,b4,hT,r12,hg,hl,c100,q⟩:=h
 refine⟨rfl,_,(ah (cJ PassesOwn.never rfl (cS rfl T.n_range (aa (aB (aE K) ⋯ T.n_len boot_len (aa (pr 2) ag)) ag)) (j7 (i:=3) sc_law_fault.nd)
 (ah (cJ PassesOwn.never rfl (cS rfl T.n_range (aa (aB (aE K) ⋯ T.n_len boot_len (aa (pr 0) ag)) ag)) (j7 (i:=4) sc_law_fault.nd)
 (ah (mv (aw (aD K) (pr 0) (pr 4) (λ_ _=>rfl)) (fX K (n:=2) rfl (bU (j7 (i:=5) sc_law_fault.nd) (bU (j7 (i:=6) sc_law_fault.nd) fY))))
 (ai (aO (cj (aY (oX (o0 ic) (o0 ic) (pr 5) (aw (aD K) (aw (aD K) (pr 2) (pr 3) (λ_ _=>rfl)) (pr 4) (λ_ _=>rfl)) (pr 6)))) (ai (ar (dj (aa (pr 3) (aa (pr 4) ag))))) aC))))
 (ai (cJ PassesOwn.never rfl (cS rfl T.n_range (aa (aB (aE K) ⋯ T.n_len boot_len (aa (pr 1) ag)) ag)) (j7 (i:=4) sc_law_fault.nd)
 (ai (aO (bf (aA D_law_broken hr ⋯ (aa (aw (aD K) (pr 1) (pr 4) (λ_ _=>rfl)) (aa (pr 2) (aa (pr 3) ag)))) (λ_=>rfl)) (ai (ar (dj (aa (pr 3) (aa (ao (bF K) (aB (aE K) ⋯ T.n_len boot_len (aa (pr 0) ag)) (pr 4)) ag))))) aC))))))
 (ah (cJ PassesOwn.never rfl (cS rfl T.n_range (aa (aB (aE K) ⋯ T.n_len boot_len (aa (pr 1) ag)) ag)) (j7 (i:=4) sc_law_fault.nd)
 (ai (aO (bf (aA D_law_ill_close hr ⋯ (aa (aw (aD K) (pr 1) (pr 4) (λ_ _=>rfl)) (aa (pr 2) ag))) (λ_=>rfl)) (ai (ar (dj (aa (aB (aE K) ⋯ T.n_len boot_len (aa (pr 2) ag)) (aa (ao (bF K) (aB (aE K) ⋯ T.n_len boot_len (aa (pr 0) ag)) (pr 4)) ag))))) aC)))
 (ai (ar bc)))),?_⟩
 have hs:=sizeLine_eq
 have hitQ:∀{k:Nat} {rw_:Int} {H':Hp} {t:Addr},k < cols.length->(∀j,j < k->eI bs Rs cols j=false)->eI bs Rs cols k=true->H' t=none->av H H'->Q (.ref t) (upd H' t (.tup [.int k,.int rw_])):=λ{k rw_ H' t} hk hb hbk ht s'=>by
  refine q _ _ ?_ (s'.upd ht);unfold l9;rw [n6 _ k hbk hb _ hk];exact⟨t,rw_,rfl,af⟩
 obtain⟨Pv,hPv⟩:∃Pv:Nat->L2.St->Hp->Prop,Pv=λi Z H'=>∃o3 o4 o5 o6:Option V,(∀j,j < i->eI bs Rs cols j=false)/\Z=[↑r,↑ru,↑l,o3,o4,o5,o6]/\av H H':=⟨_,rfl⟩;refine aN (λZ H'=>Pv cols.length Z H') ?_ ?_
 ·intro u' hu
  tm_at "r";obtain⟨ps,hps,hpl,hpc⟩:=id hl;refine⟨_,.inl hps,?_⟩;rw [aa0,hpl];refine⟨(),(),cG Pv (by rw [hPv];exact⟨none,none,none,none,λj hj=>absurd hj (ak0 j),rfl,av.refl _⟩) ?_ λZ H' h=>hu _ _ h⟩;intro k Z H1 hk hI
  have hk:k < cols.length:=by omega
  refine uH λB hB=>?_;rw [hPv]at hI;obtain⟨o3,o4,o5,o6,hb,rfl,s1⟩:=hI;tm_at "r";refine hB _ _ ?_;clear hB B;refine aN (λZ H'=>∃o4 o5 o6:Option V,(∀v,v < bs.length->sY bs cols k v=false)/\Z=[↑r,↑ru,↑l,⇑k,o4,o5,o6]/\av H H') ?_ ?_
  ·intro u2 gM
   tm_at "r";obtain⟨ts,ht1,ht2,_⟩:=id (hR.same s1);refine⟨_,.inl ht1,?_⟩;rw [aa0,ht2];refine⟨(),(),cG (λv Z H'=>∃o4 o5 o6:Option V,(∀u,u < v->sY bs cols k u=false)/\Z=[↑r,↑ru,↑l,⇑k,o4,o5,o6]/\av H H') ⟨o4,o5,o6,λu hu=>absurd hu (ak0 u),rfl,s1⟩ ?_ λZ H' ⟨o4,o5,o6,h1,h2,h3⟩=>gM _ _ ⟨o4,o5,o6,λv hv=>h1 v (),h2,h3⟩⟩;intro v Z H2 hv hI
   have hv:v < bs.length:=by omega
   refine uH λB hB=>?_;obtain⟨o4,o5,o6,ho,rfl,s2⟩:=hI;tm_at "r";refine hB _ _ (iX λRk rk=>?_);tm_at "r";refine(hR.same s2).ix hv λt ht=>⟨t,rfl,_,ht,rfl,?_⟩;tm_at "r";refine rk _ _ ?_;tm_at "r";refine oB (hl.same s2) hk λc hc cl=>?_
   have eb:bs.getD v (0,0)=bs[v]:=by rw [ab5,aa2 hv];rfl
   obtain⟨nt,hnt⟩:∃nt,(cols.getD k []).getD v 0=nt:=⟨_,rfl⟩
   have en:((cols.getD k []).map V.int)[v]?=⇑nt:=by
    have gd:∀us:List Int,v < us.length->(us.map V.int)[v]?=⇑(us.getD v 0):=λus h=>by
     rw [aa4,ab5,aa2 h];rfl
    rw [<-hnt];exact gd _ ()
   have hit:¬((bs[v]).1<=nt/\nt<=(bs[v]).2)->0+1+1<=sizeLine/\∀p:Addr,H2 p=none->Q (.ref p) (upd H2 p (.tup [.int k,.int v])):=λh=>⟨(),λp hp=>hitQ hk hb (by
    unfold eI;rw [ao2.mpr ⟨v,af8.mpr hv,by unfold sY;rw [eb,hnt,decide_eq_false h];rfl⟩]
    rfl) hp s2⟩
   refine dy hc (aJ en) ⟨_,rfl,?_⟩
   by_cases h1:(bs[v]).1<=nt
   ·rw [if_pos h1]
    refine⟨_,rfl,?_⟩
    by_cases h2:nt<=(bs[v]).2
    ·rw [if_pos h2]
     refine⟨λu hu=>?_,s2⟩
     by_cases e:u=v
     ·subst e
      unfold sY;rw [eb,hnt,decide_eq_true ⟨h1,h2⟩];rfl
     ·exact ho u ()
    ·rw [if_neg h2]
     exact hit λz=>h2 z.2
   ·rw [if_neg h1]
    exact hit λz=>h1 z.1
  rintro Ω ω _ H2 ⟨o4,o5,o6,hv,rfl,s2⟩;refine ω _ _ ?_;tm_at "r";obtain⟨ws,hws,hwl,hwt⟩:=id (hT.same s2);refine⟨_,.inl (aH.of hws),?_⟩;rw [aa0,hwl];refine⟨(),(),cG (λv Z H'=>∃o4 o5 o6:Option V,(∀u,u < v->ja cols k (Rs.getD u (.every 1 0 (.close 0 [])))=false)/\Z=[↑r,↑ru,↑l,⇑k,o4,o5,o6]/\av H H') ⟨o4,o5,o6,λu hu=>absurd hu (ak0 u),rfl,s2⟩ ?_ ?_⟩
  ·intro v Z H3 hv3 hI
   have hv3:v < Rs.length:=by omega
   refine uH λB hB=>?_;obtain⟨o4,o5,o6,ho,rfl,s3⟩:=hI;tm_at "r";refine hB _ _ (mh λA0 B0 hA hB2=>?_);tm_at "r";obtain⟨R,hRv⟩:∃R,Rs.getD v (.every 1 0 (.close 0 []))=R:=⟨_,rfl⟩
   have eR:Rs[v]?=some R:=by rw [<-hRv,ab5,aa2 hv3];rfl
   obtain⟨ws3,hws3,hwl3,hwt3⟩:=id (hT.same s3);have ex:ws3[v]?=some (ws3[v]'()):=aa2 ();refine bp (aH.of hws3) (aJ (by rw [aa4,ex];rfl)) ⟨_,l,k,bs.length,cols,R,rfl,hwt3 v _ R ex eR,hg R (ac0 eR),hl.same s3,hk,c100,λH4 s4=>⟨_,TruV_b.mpr rfl,?_⟩⟩
   cases eb:ja cols k R with
   | true=>
    rw [if_pos rfl];refine hA _ ?_;tm_at "r";obtain⟨ts,ht1,ht2,_⟩:=id (hR.same (s3.trans s4));refine⟨_,.inl ht1,?_⟩;tm_at "r";refine⟨(),λp hp=>hitQ hk hb ?_ hp (s3.trans s4)⟩;unfold eI;rw [ao2.mpr ⟨R,ac0 eR,eb⟩,Bool.or_true]
   | false=>
    rw [if_neg aa6];refine hB2 _ ?_;tm_at "r";refine⟨λu hu=>?_,s3.trans s4⟩
    by_cases e:u=v
    ·subst e
     rw [hRv];exact eb
    ·exact ho u ()
  ·rintro Z H3 ⟨o4,o5,o6,ho,rfl,s3⟩
   rw [hPv];refine⟨_,_,_,_,λj hj=>?_,rfl,s3⟩
   by_cases e:j=k
   ·subst e
    unfold eI;rw [Bool.or_eq_false_iff];refine⟨ak4.mpr λv hv'=>?_,ak4.mpr λR hR'=>?_⟩
    ·rw [hv v (af8.mp hv')]
     exact aa6
    ·obtain⟨u,hu⟩:=al1.mp hR'
     have:=ho u (by have:=(aa1.mp hu).1;omega)
     rw [ab5,hu]at this;rw [show ja cols j R=false from this];exact aa6
   ·exact hb j ()
 intro Ω ω;intro Z H1 hI;rw [hPv]at hI;obtain⟨o3,o4,o5,o6,hb,rfl,s1⟩:=hI;have fN:dE (eI bs Rs cols) 0 cols.length=none:=je _ _ 0 λj _ h2=>hb j ();refine ω _ _ (aN (λZ H'=>av H H') ?_ ?_)
 ·intro u' hu
  tm_at "r";obtain⟨ws,hws,hwl,hwt⟩:=id (hT.same s1);refine⟨_,.inl (aH.of hws),?_⟩;rw [aa0,hwl];refine⟨(),(),cG (λv Z H'=>∃o3 o4 o5 o6:Option V,Z=[↑r,↑ru,↑l,o3,o4,o5,o6]/\av H H') ⟨o3,o4,o5,o6,rfl,s1⟩ ?_ λZ H' ⟨_,_,_,_,_,h⟩=>hu _ _ h⟩;intro v Z H3 hv3 hI
  have hv3:v < Rs.length:=by omega
  refine uH λB hB=>?_;obtain⟨o3,o4,o5,o6,rfl,s3⟩:=hI;tm_at "r";refine hB _ _ (mh λA0 B0 hA hB2=>?_);tm_at "r";obtain⟨R,hRv⟩:∃R,Rs.getD v (.every 1 0 (.close 0 []))=R:=⟨_,rfl⟩
  have eR:Rs[v]?=some R:=by rw [<-hRv,ab5,aa2 hv3];rfl
  obtain⟨ws3,hws3,hwl3,hwt3⟩:=id (hT.same s3);have ex:ws3[v]?=some (ws3[v]'()):=aa2 ();refine bp (aH.of hws3) (aJ (by rw [aa4,ex];rfl)) ⟨_,l,bs.length,cols,R,rfl,hwt3 v _ R ex eR,hg R (ac0 eR),hl.same s3,c100,λH4 s4=>⟨_,TruV_b.mpr rfl,?_⟩⟩
  cases eb:jj cols R with
  | true=>
   rw [if_pos rfl];refine hA _ ?_;tm_at "r";obtain⟨ps,hps,hpl,_⟩:=id (hl.same (s3.trans s4));refine⟨_,.inl hps,?_⟩;rw [aa0,hpl];obtain⟨ts,ht1,ht2,_⟩:=id (hR.same (s3.trans s4));refine⟨_,.inl ht1,?_⟩;tm_at "r";refine⟨(),λp hp=>q _ _ ?_ ((s3.trans s4).upd hp)⟩;unfold l9;rw [fN];exact .inr ⟨p,_,rfl,af⟩
  | false=>
   rw [if_neg aa6];refine hB2 _ ?_;tm_at "r";exact s3.trans s4
 intro Ω ω;intro Z H2 s2;refine ω _ _ ?_;tm_at "r";refine q _ _ ?_ s2;unfold l9;rw [fN];exact .inl rfl
def dn(H:Hp)(l:Addr)(nv:Nat)(cols:List (List Int)):Prop:=dq H l cols/\∀c∈cols,c.length=nv
theorem dn.same(h:dn H l nv cols)(s:av H H'):dn H' l nv cols:=⟨h.1.same s,h.2⟩
theorem dn.line(h:dn H l nv cols):gg K H l nv cols:=by
 obtain⟨⟨ps,h1,h2,h3⟩,h4⟩:=h;exact⟨ps,aH.of h1,h2,λi p us e1 e2=>⟨cM.of (h3 i p us e1 e2),h4 us (ac0 e2)⟩⟩
def va(K:Frag):Sp:=λvs H Q _=>∃(l:Addr) (c:Int) (nv:Nat) (cols:List (List Int)),vs=[.ref l,.int c]/\dn H l nv cols/\1<=nv/\nv<=4/\cols.length<=1000/\∀q cols' H',dn H' q nv cols'->cols'.length=cols.length->av H H'->Q (.ref q) H'
theorem yS(F:bV K "_law_spoilt" "_law_spoilt" iO f fd)(T:Txt mg aM): ~~~aK bP 1 f fd ["_law_line_here","_law_cell"] (va K):=by
 refine F.ok sc_law_spoilt λ_ A _ s H vs Q E hr h=>?_;obtain⟨l,c,nv,cols,rfl,hL,n1,n4,lc,k⟩:=h;obtain⟨⟨ps,hps,hpl,hpc⟩,hw⟩:=id hL
 refine⟨rfl,_,(ah (aO (PW.pt (cK (aY (ay gA (aB (aE K) ⋯ T.n_len boot_len (aa (pr 0) ag)) ae (az _))) (cB (aY (ay AN (ao (o1 aP) (pr 1) ae) ae (az _)))))) (ai (ar (pr 0))) aC)
 (ah (cN (i:=2) sc_law_spoilt.nd (ao (o1 aP) (ao (o1 cu) (pr 1) ae) (aB (aE K) ⋯ T.n_len boot_len (aa (pr 0) ag))))
 (ah (cN (i:=3) sc_law_spoilt.nd (aV (cY K) ⋯ T.n_list boot_list (aa (aw (aD K) (pr 0) (pr 2) (λ_ _=>rfl)) ag)))
 (ah (cN (i:=4) sc_law_spoilt.nd (ao (o1 aP) (ao (o1 cu) (pr 1) ae) (aB (aE K) ⋯ T.n_len boot_len (aa (pr 3) ag))))
 (ah (mv (ao (bF K) (aw (aD K) (pr 3) (pr 4) (λ_ _=>rfl)) (aw (aD K) (bM (aa (j6 (u1 g9) ae) (aa ae (aa (j6 (u1 g9) ae) (aa (ao (bF K) (ao (o1 sX) ae ae) ae) ag))))) (ao (o1 aP) (ao (o1 cu) (pr 1) ae) ae) (λ_ _=>rfl))) (td (pr 3) (pr 4) u7))
 (ai (ar (ao (bF K) (ao (bF K) (bo (eX K) (pr 0) bw (eP (pr 2))) (bM (aa (aV (jb K) ⋯ T.n_tuple boot_tuple (aa (pr 3) ag)) ag))) (bo (eX K) (pr 0) (eP (ao (bF K) (pr 2) ae)) bw))))))))),?_⟩
 have hs:=sizeLine_eq;refine aN (λZ H'=>1<=cols.length/\Z=[↑l,⇑c,none,none,none]/\H=H') ?_ ?_
 ·intro u' hu
  refine cv λA0 B0 hA hB=>?_
  have no:A0 H:=hA _ (by
   tm_at "r"
   exact k l cols H hL rfl (av.refl _))
  tm_at "r";refine⟨_,.inl (aH.of hps),?_⟩;rw [aa0,hpl]
  by_cases h:(cols.length:Int)=0
  ·rw [if_pos h]
   exact no
  ·rw [if_neg h]
   refine⟨∅,?_⟩
   by_cases h3:c % 5=3
   ·rw [if_pos h3]
    exact hB _ (hu _ _ ⟨(),rfl,rfl⟩)
   ·rw [if_neg h3]
    exact no
 rintro Ω ω _ _ ⟨l1,rfl,rfl⟩;refine ω _ _ (aN (λZ H'=>∃m:Nat,m < cols.length/\Z=[↑l,⇑c,⇑m,none,none]/\H=H') ?_ ?_)
 ·intro u' hu
  tm_at "r";refine⟨⟨∅,∅⟩,_,.inl (aH.of hps),?_⟩;rw [aa0,hpl];have z0:=ad4 (c / 5) (show(cols.length:Int)≠0 by omega);have z1:=ac7 (c / 5) (show 0 < (cols.length:Int)by omega);obtain⟨m,hm⟩:∃m:Nat,c / 5 % (cols.length:Int)=m:=⟨(c / 5 % (cols.length:Int)).toNat,()⟩;rw [hm]at z0 z1 |-;exact⟨(),hu _ _ ⟨m,(),rfl,rfl⟩⟩
 rintro Ω ω _ _ ⟨m,hm,rfl,rfl⟩;have em:cols[m]?=some cols[m]:=aa2 hm;have ep:ps[m]?=some (ps[m]'()):=aa2 ();have hwm:(cols[m]).length=nv:=hw _ (ad7 hm);refine ω _ _ (aN (λZ H'=>∃p,H p=none/\H' p=some (.lst ((cols[m]).map V.int))/\Z=[↑l,⇑c,⇑m,↑p,none]/\av H H') ?_ ?_)
 ·intro u' hu
  tm_at "r";exact bp (aH.of hps) (aJ (by rw [aa4,ep];rfl)) ⟨_,rfl,_,.inr (cM.of (hpc m _ _ ep em)),λp hp=>hu _ _ ⟨p,hp,af,rfl,au hp⟩⟩
 rintro Ω ω _ H1 ⟨p,hp0,hp1,rfl,s1⟩;refine ω _ _ (aN (λZ H'=>∃v:Nat,v < nv/\Z=[↑l,⇑c,⇑m,↑p,⇑v]/\H1=H') ?_ ?_)
 ·intro u' hu
  tm_at "r";refine⟨⟨∅,∅⟩,_,.inl (aH.of hp1),?_⟩;rw [aa0,hwm];have z0:=ad4 (c / 1000) (show(nv:Int)≠0 by omega);have z1:=ac7 (c / 1000) (show 0 < (nv:Int)by omega);obtain⟨v,hv⟩:∃v:Nat,c / 1000 % (nv:Int)=v:=⟨(c / 1000 % (nv:Int)).toNat,()⟩;rw [hv]at z0 z1 |-;exact⟨(),hu _ _ ⟨v,(),rfl,rfl⟩⟩
 rintro Ω ω _ _ ⟨v,hv,rfl,rfl⟩;refine ω _ _ (aN (λZ H'=>∃us:List Int,us.length=nv/\H' p=some (.lst (us.map V.int))/\Z=[↑l,⇑c,⇑m,↑p,⇑v]/\av H H') ?_ ?_)
 ·intro u' hu
  tm_at "r";have ev:(cols[m])[v]?=some ((cols[m])[v]'()):=aa2 ();refine bp (aH.of hp1) (aJ (by rw [aa4,ev];rfl)) ⟨⟨∅,∅,∅⟩,(),λq hq=>⟨⟨∅,∅⟩,∅,?_⟩⟩;have s2:=au (o:=.lst [.int (-1),.int 1,.int (-40),.int (10 ^ Int.toNat 9+7)]) hq;have g0:=ad4 (c / 5000) (show(4:Int)≠0 by decide);have g1:=ac7 (c / 5000) (show 0 < (4:Int)by decide);refine iA (aH.of af) g0 (by simp;omega) λz hz _=>?_
  obtain⟨d,rfl⟩:∃d:Int,z=.int d:=by
   simp only [ab0,ad2,or_false]at hz
   rcases hz with rfl | rfl | rfl | rfl<;>exact⟨_,rfl⟩
  tm_at "r";refine⟨_,s2 _ _ hp1,v,?_,hu _ _ ⟨(cols[m]).set v ((cols[m])[v]'()+d),by rw [ao9];exact hwm,by rw [af,List.map_set],rfl,zw hp0 (s1.trans s2)⟩⟩;rw [aa0,hwm];exact Eu () ()
 clear hp1 s1;clear H1;rintro Ω ω _ H1 ⟨us,ul,hp1,rfl,s1⟩;have hps1:=s1 _ _ hps;refine ω _ _ ?_;tm_at "r";refine ck (aH.of hps1) λq1 hq1=>?_;rw [dJ];have s2:=au (o:=.lst ((ps.map V.ref).take m)) hq1;have e2:(upd H1 q1 (.lst ((ps.map V.ref).take m))) q1=some (.lst ((ps.map V.ref).take m)):=af;generalize upd H1 q1 (.lst ((ps.map V.ref).take m))=H2 at s2 e2;refine⟨_,.inl ⟨aH.of (s2 _ _ hp1),λt ht=>⟨(),λq2 hq2=>?_⟩⟩⟩;have e3:(upd H2 t (.tup (us.map V.int))) t=some (.tup (us.map V.int)):=af;have s3:=au (o:=.tup (us.map V.int)) ht;generalize upd H2 t (.tup (us.map V.int))=H3 at e3 s3 hq2;have e4:(upd H3 q2 (.lst [.ref t])) q2=some (.lst [.ref t]):=af;have s4:=au (o:=.lst [.ref t]) hq2;generalize upd H3 q2 (.lst [.ref t])=H4 at e4 s4;have s14:=(s2.trans s3).trans s4;refine ij ((s3.trans s4) _ _ e2) e4 (by simp;omega) λq3 hq3=>?_;have e5:(upd H4 q3 (.lst ((ps.map V.ref).take m++[.ref t]))) q3=_:=af;have s5:=au (o:=.lst ((ps.map V.ref).take m++[.ref t])) hq3;generalize upd H4 q3 (.lst ((ps.map V.ref).take m++[.ref t]))=H5 at e5 s5;refine ck (aH.of ((s14.trans s5) _ _ hps1)) λq4 hq4=>?_;rw [show(m:Int)+1=((m+1:Nat):Int)by omega,cC];have e6:(upd H5 q4 (.lst ((ps.map V.ref).drop (m+1)))) q4=_:=af;have s6:=au (o:=.lst ((ps.map V.ref).drop (m+1))) hq4;generalize upd H5 q4 (.lst ((ps.map V.ref).drop (m+1)))=H6 at e6 s6;refine ij (s6 _ _ e5) e6 (by simp;omega) λq5 hq5=>?_;have s7:=au (o:=.lst ((ps.map V.ref).take m++[.ref t]++(ps.map V.ref).drop (m+1))) hq5;have sT:=((s4.trans s5).trans s6).trans s7;have sA:=((s1.trans (s2.trans s3))).trans sT;have tl0:ip H ps cols:=⟨hpl,hpc⟩
 have tA:ip H (ps.take m) (cols.take m):=⟨by rw [ac3,ac3,hpl],λi p us e1 e2=>by
  rw [ah6]at e1 e2
  split at e1
  ·rename_i h
   rw [if_pos h]at e2;exact hpc i p us e1 e2
  ·cases e1⟩
 have tC:ip H (ps.drop (m+1)) (cols.drop (m+1)):=⟨by rw [ag1,ag1,hpl],λi p us e1 e2=>by
  rw [af0]at e1 e2
  exact hpc _ p us e1 e2⟩
 have tB:ip H3 [t] [us]:=⟨rfl,λi p us' e1 e2=>by
  cases i with
  | zero=>cases e1;cases e2;exact e3
  | succ i=>cases e1⟩
 refine k q5 (cols.take m++[us]++cols.drop (m+1)) _ ⟨⟨ps.take m++[t]++ps.drop (m+1),by rw [af,ab3,ab3,an7,List.map_drop];rfl,((tA.same sA).append (tB.same sT)).append (tC.same sA)⟩,λc' hc'=>?_⟩ (by simp;omega) sA;rcases ac8.mp hc' with h | h
 ·rcases ac8.mp h with h | h
  ·exact hw _ (aj3 h)
  ·rw [ac1.mp h]
   exact ul
 ·exact hw _ (al5 h)
def xx(K:Frag):Sp:=λvs H Q _=>∃(a:Addr) (ns:List Int) (st n:Nat),vs=[.ref a,.int st,.int n]/\aH K H a (ns.map V.int)/\ns.length<=63/\st<=100/\n<=200/\∀(q:Addr) (ys:List Int) H',ys.length=n->H q=none->H' q=some (.lst (ys.map V.int))->av H H'->Q (.ref q) H'
theorem AS(F:bV K "_law_cells" "_law_cells" jw f fd)(T:Txt mg aM)(D_law_at: ~~~cy "_law_at" 1 ["_law_script","_law_k"] (zc K))(D_law_draws: ~~~cy "_law_draws" 1 ["_law_cell","_law_many"] lR): ~~~aK bP 2 f fd ["_law_script","_law_start","_law_many"] (xx K):=by
 refine F.ok sc_law_cells λ_ A _ s H vs Q E hr h=>?_;obtain⟨a,ns,st,n,rfl,hS,ln,lst,hn,k⟩:=h
 refine⟨rfl,_,(ah (cN (i:=3) sc_law_cells.nd (aA D_law_draws hr ⋯ (aa (aA D_law_at hr ⋯ (aa (pr 0) (aa (pr 1) ag))) (aa (pr 2) ag))))
 (ah (cJ PassesOwn.never rfl (cS rfl T.n_range (aa (aB (rg rfl) ⋯ T.n_min boot_min (aa (pr 2) (aa (aB (ye rfl) ⋯ T.n_max boot_max (aa ae (aa (ao (o0 bC) (ao (o0 bC) (aB (aE K) ⋯ T.n_len boot_len (aa (pr 0) ag)) (pr 1)) ae) ag))) ag))) ag)) (j7 (i:=4) sc_law_cells.nd)
 (ai (mv (aw (aD K) (pr 0) (ao (bF K) (ao (bF K) (pr 1) ae) (pr 4)) (λ_ _=>rfl)) (td (pr 3) (pr 4) u7))))
 (ai (ar (pr 3))))),?_⟩
 have hs:=sizeLine_eq;refine aN (λZ H'=>∃(q:Addr) (ys:List Int),ys.length=n/\H q=none/\H' q=some (.lst (ys.map V.int))/\Z=[↑a,⇑st,⇑n,↑q,none]/\av H H') ?_ ?_
 ·intro u' hu
  tm_at "r";exact⟨a,ns,st,rfl,hS,(),(),_,n,rfl,(),λq ys H' hl hy hq hq' s1=>hu _ _ ⟨q,ys,hl,hq,hq',rfl,s1⟩⟩
 rintro Ω ω _ H1 ⟨q,ys,hl,hq0,hq1,rfl,s1⟩;refine ω _ _ (aN (λZ H'=>∃(ys:List Int) (o4:Option V),ys.length=n/\H' q=some (.lst (ys.map V.int))/\Z=[↑a,⇑st,⇑n,↑q,o4]/\av H H') ?_ ?_)
 ·intro u' hu
  tm_at "r";refine⟨_,.inl (s1.seq hS),?_⟩;rw [aa0];obtain⟨M,hM⟩:∃M:Int,M=if (if (ns.length:Int) - (st:Int) - 1 > 0 then(ns.length:Int) - (st:Int) - 1 else 0) < (n:Int)then if (ns.length:Int) - (st:Int) - 1 > 0 then(ns.length:Int) - (st:Int) - 1 else 0 else(n:Int):=⟨_,rfl⟩
  have hM1:0<=M/\M<=n/\(0 < M->M<=(ns.length:Int) - (st:Int) - 1):=by
   rw [hM]
   split<;>split<;>omega
  rw [<-hM];obtain⟨Pv,hPv⟩:∃Pv:Nat->L2.St->Hp->Prop,Pv=λi Z H'=>∃(ys:List Int) (o4:Option V),ys.length=n/\H' q=some (.lst (ys.map V.int))/\Z=[↑a,⇑st,⇑n,↑q,o4]/\av H H':=⟨_,rfl⟩;refine⟨(),(),cG Pv (by rw [hPv];exact⟨ys,none,hl,hq1,rfl,s1⟩) ?_ ?_⟩
  ·rintro i Z H3 hi hI
   rw [hPv]at hI;obtain⟨zs,o4,zl,hq3,rfl,s3⟩:=hI;tm_at "r";refine iA (s3.seq hS) () (by rw [aa0];omega) λv hv _=>?_;obtain⟨c,_,rfl⟩:=ac4.mp hv;refine⟨_,hq3,i,?_,?_⟩
   ·unfold zt
    rw [aa0,if_pos (),if_pos (),ag8]
   rw [hPv];refine⟨zs.set i c,_,by rw [ao9,zl],by rw [af,List.map_set],rfl,zw hq0 s3⟩
  ·rintro Z H3 hI
   rw [hPv]at hI;obtain⟨zs,o4,zl,hq3,rfl,s3⟩:=hI;exact hu _ _ ⟨zs,o4,zl,hq3,rfl,s3⟩
 rintro Ω ω _ H2 ⟨ys,o4,hl,hq2,rfl,s2⟩;refine ω _ _ ?_;tm_at "r";exact k q ys H2 hl hq0 hq2 s2
theorem dn.ix{i:Int}(h:dn H l nv cols)(h0:0<=i)(h1:i < cols.length)(q:∀(p:Addr) (us:List Int),us∈cols->H p=some (.tup (us.map V.int))->Q (.ref p) H):ny K (.ref l) (.int i) H Q:=by
 obtain⟨m,rfl⟩:=ae0 h0;obtain⟨⟨ps,h2,h3,h4⟩,_⟩:=h;have e1:ps[m]?=some (ps[m]'()):=aa2 ();have e2:cols[m]?=some (cols[m]'()):=aa2 ();exact bp (aH.of h2) (aJ (by rw [aa4,e1];rfl)) (q _ _ (ad7 _) (h4 m _ _ e1 e2))
theorem dn.put{c:Addr}(h:dn H l nv cols)(hc:H c=some (.tup (us.map V.int)))(hu:us.length=nv)(hps:H l=some (.lst (ps.map V.ref)))(hq:H q=none):dn (upd H q (.lst (ps.map V.ref++[.ref c]))) q nv (cols++[us]):=by
 obtain⟨⟨ps',h2,h3,h4⟩,h5⟩:=h;rw [hps]at h2
 have epp:ps=ps':=by
  have:=HO.lst.inj (Option.some.inj h2)
  exact List.map_inj_right (λx y e=>V.ref.inj e) |>.mp this
 subst epp;have s:=au (o:=.lst (ps.map V.ref++[.ref c])) hq;refine⟨⟨ps++[c],by rw [af,ab3];rfl,by simp [h3],λi p vs e1 e2=>?_⟩,λd hd=>?_⟩
 ·by_cases hi:i < ps.length
  ·rw [ab7 hi]at e1
   rw [ab7 ()]at e2;exact s _ _ (h4 i p vs e1 e2)
  ·rw [ac6 ()]at e1 e2
   have ei:i=ps.length:=by
    have:=(aa1.mp e1).1
    simp at this;omega
   rw [ei,aj6]at e1;rw [ei,h3,aj6]at e2;cases e1;cases e2;exact s _ _ hc
 ·rcases ac8.mp hd with hd | hd
  ·exact h5 d hd
  ·rw [ac1.mp hd];exact hu
theorem v3{z:Bool}{ws:List Bool}(h:aH K H a (ws.map V.bl))(q:∀b:Bool,Q (.bl b) H):jS K (.bl z) (.ref a) H Q:=by
 refine .inr ⟨a,_,rfl,.inl h,rfl,?_,q _⟩;rw [ah9];exact af6.mpr λ_ _=>rfl
def pS(K:Frag):Sp:=λvs H Q _=>∃(l sm ru:Addr) (i:Int) (nv:Nat) (cols alls:List (List Int)) (Rs:List aL),vs=[.ref l,.ref sm,.int i,.ref ru]/\dn H l nv cols/\dn H sm nv alls/\0<=i/\i < alls.length/\alls.length<=1000/\jZ H ru Rs/\Rs.length<=12/\(∀R∈Rs,cQ nv R)/\cols.length<=99/\∀(c:Addr) (us:List Int) H',us∈alls->H' c=some (.tup (us.map V.int))->av H H'->Q (.ref c) H'
theorem uG(F:bV K "_law_unbroken" "_law_unbroken" gw f fd)(T:Txt mg aM)(D_law_broken: ~~~cy "_law_broken" 3 ["_law_rule_here","_law_line_here","_law_k"] (jC K)): ~~~aK bP 4 f fd ["_law_line_here","_law_some_here","_law_at_here","_law_rules_here"] (pS K):=by
 refine F.ok sc_law_unbroken λ_ A _ s H vs Q E hr h=>?_;obtain⟨l,sm,ru,i,nv,cols,alls,Rs,rfl,hl,hm,i0,i1,a1,hT,r12,hg,c99,q⟩:=h
 refine⟨rfl,_,(ah (cJ PassesOwn.never rfl (cS rfl T.n_range (aa (aB (aE K) ⋯ T.n_len boot_len (aa (pr 1) ag)) ag)) (j7 (i:=4) sc_law_unbroken.nd)
 (ah (cN (i:=5) sc_law_unbroken.nd (aw (aD K) (pr 1) (ao (o1 aP) (ao (bF K) (pr 2) (pr 4)) (aB (aE K) ⋯ T.n_len boot_len (aa (pr 1) ag))) (λ_ _=>rfl)))
 (ah (tq (i:=6) sc_law_unbroken.nd rfl (Or.inr rfl) (ao (bF K) (pr 0) (bM (aa (pr 5) ag))))
 (ah (iz (i:=7) sc_law_unbroken.nd rfl (Or.inl rfl) (own:=["_law_rule_here"]) (js:=[0,6]) rfl (bI K (pr 3)) (bD.of ⋯) (λ_ _ _ _ _=>(bQ (i:=0) (show List.Nodup (["_law_rule_here","_law_line_here","_law_longer"]:List Str)from by decide +kernel) rfl (Or.inl rfl))) (λ_ _ _ _ _=>cA) (λ_ _ _ _ _=>(aA D_law_broken hr ⋯ (aa (pr 0) (aa (pr 2) (aa (aB (aE K) ⋯ T.n_len boot_len (aa (pr 1) ag)) ag))))) rfl)
 (ai (aO (aY (ay (eM K) jm (pr 7) (by with_unfolding_all rfl))) (ai (ar (pr 5))) aC))))))
 (ai (ar (aw (aD K) (pr 1) (pr 2) (λ_ _=>rfl))))),?_⟩
 have hs:=sizeLine_eq;refine aN (λZ H'=>∃o4 o5 o6 o7:Option V,Z=[↑l,↑sm,⇑i,↑ru,o4,o5,o6,o7]/\av H H') ?_ ?_
 ·intro u' hu
  tm_at "r";obtain⟨⟨ps,hps,hpl,_⟩,_⟩:=id hm;refine⟨_,.inl (aH.of hps),?_⟩;rw [aa0,hpl];refine⟨(),(),cG (λk Z H'=>∃o4 o5 o6 o7:Option V,Z=[↑l,↑sm,⇑i,↑ru,o4,o5,o6,o7]/\av H H') ⟨none,none,none,none,rfl,av.refl _⟩ ?_ λZ H' h=>hu _ _ h⟩;intro k Z H1 hk hI;refine uH λB hB=>?_;obtain⟨o4,o5,o6,o7,rfl,s1⟩:=hI;tm_at "r";refine hB _ _ ?_;clear hB B;refine aN (λZ H'=>∃(c:Addr) (us:List Int),us∈alls/\H' c=some (.tup (us.map V.int))/\Z=[↑l,↑sm,⇑i,↑ru,⇑k,↑c,o6,o7]/\H1=H') ?_ ?_
  ·intro u2 gM
   tm_at "r";refine⟨_,.inl (aH.of (s1 _ _ hps)),?_⟩;rw [aa0,hpl];refine⟨(),(hm.same s1).ix (ad4 _ ()) (ac7 _ ()) λc us hus hc=>gM _ _ ⟨c,us,hus,hc,rfl,rfl⟩⟩
  rintro Ω ω _ _ ⟨c,us,hus,hc,rfl,rfl⟩;refine ω _ _ (aN (λZ H'=>∃g:Addr,dn H' g nv (cols++[us])/\Z=[↑l,↑sm,⇑i,↑ru,⇑k,↑c,↑g,o7]/\av H1 H') ?_ ?_)
  ·intro u2 gM
   tm_at "r";refine⟨(),λp1 hp1=>?_⟩;have s3:=au (o:=.lst [.ref c]) hp1;obtain⟨⟨ls,hls,hll,_⟩,_⟩:=id (hl.same s1);exact ij (s3 _ _ hls) af (by rw [aa0,hll];simp;omega) λg hg'=>gM _ _ ⟨g,dn.put ((hl.same s1).same s3) (s3 _ _ hc) (hm.2 us hus) (s3 _ _ hls) hg',rfl,s3.upd hg'⟩
  rintro Ω ω _ H2 ⟨g,hgl,rfl,s2⟩;have s12:=s1.trans s2;refine ω _ _ ?_;refine iX λRk rk=>?_;tm_at "r";obtain⟨ws,hws,hwl,hwt⟩:=id (hT.same s12);refine bR (aH.of hws) (bW (xs:=ws.map V.ref) (λj ys H'=>∃bl:List Bool,ys=bl.map V.bl/\bl.length=j/\av H2 H') (by rw [aa0];omega) ⟨[],rfl,rfl,av.refl _⟩ (λj ys H' h=>by obtain⟨_,rfl,rfl,_⟩:=h;rw [aa0];exact aa8 _) (λj ys H' h=>by obtain⟨_,_,_,h⟩:=h;exact aH.of (h _ _ hws)) ?_ ?_)
  ·rintro j x ys H' hj' ⟨bl,rfl,bll,s3⟩
   rw [aa4]at hj'
   cases hx:ws[j]? with
   | none=>rw [hx]at hj';cases hj'
   | some y=>
    rw [hx]at hj';cases hj'
    have hj:j < Rs.length:=by rw [<-hwl];exact(aa1.mp hx).1
    have eR:Rs[j]?=some Rs[j]:=aa2 hj;tm_at "r";obtain⟨⟨ls,hls,hll,_⟩,_⟩:=id (hl.same (s12.trans s3));refine⟨_,.inl (aH.of hls),?_⟩;rw [aa0,hll];refine⟨y,g,cols.length,nv,cols++[us],Rs[j],rfl,(hwt j y _ hx eR).same s3,hg _ (ad7 hj),(hgl.same s3).line,by simp,by simp;omega,λH4 s4=>⟨bl++[_],by rw [ab3];rfl,by rw [ab4,bll];rfl,s3.trans s4⟩⟩
  ·rintro ys H3 ⟨bl,rfl,bll,s3⟩ b hb
   refine rk _ _ ?_;tm_at "r";refine v3 (aH.of af) λt=>⟨_,rfl,?_⟩
   cases t with
   | true=>
    rw [if_pos rfl];exact q c us _ hus (((s2.trans s3).upd hb) _ _ hc) ((s12.trans s3).upd hb)
   | false=>
    rw [if_neg aa6];exact(s12.trans s3).upd hb
 rintro Ω ω _ H1 ⟨o4,o5,o6,o7,rfl,s1⟩;refine ω _ _ ?_;tm_at "r";exact(hm.same s1).ix i0 i1 λc us hus hc=>q c us _ hus hc s1
inductive wu(K:Frag):Sp
 | mk {vs:List V} {H:Hp} {Q:VK} {E:XK} (l ce r ru:Addr) (bs:List (Int×Int)) (cols:List (List Int)) (ys:List Int) (Rs:List aL):vs=[.ref l,.ref ce,.ref r,.ref ru]->dn H l bs.length cols->aH K H ce (ys.map V.int)->bT K H r bs->1<=bs.length->bs.length<=4->(∀b∈bs,xr b)->jL bs<=400->jZ H ru Rs->Rs.length<=12->(∀R∈Rs,cQ bs.length R)->cols.length+ys.length<=99->(∀(g:Addr) (cols':List (List Int)) H',dn H' g bs.length cols'->cols'.length=cols.length+ys.length->av H H'->Q (.ref g) H')->wu K vs H Q E
theorem C0(F:bV K "_law_line" "_law_line" kv f fd)(T:Txt mg aM)(D_law_columns: ~~~cy "_law_columns" 4 ["_law_ranges_here"] (tO K))(D_law_unbroken: ~~~cy "_law_unbroken" 4 ["_law_line_here","_law_some_here","_law_at_here","_law_rules_here"] (pS K)): ~~~aK bP 5 f fd ["_law_line_here","_law_cells_here","_law_ranges_here","_law_rules_here"] (wu K):=by
 refine F.ok sc_law_line λ_ A _ s H vs Q E hr h=>?_;obtain⟨l,ce,r,ru,bs,cols,ys,Rs,rfl,hl,hce,hR,b1,b4,hb,cb,hT,r12,hg,c99,q⟩:=h
 refine⟨rfl,_,(ah (cN (i:=4) sc_law_line.nd (aA D_law_columns hr ⋯ (aa (pr 2) ag)))
 (ah (cJ PassesOwn.never rfl (bI K (pr 1)) (j7 (i:=5) sc_law_line.nd)
 (ai (aO (aY (ay gA (ao (o1 aP) (ao (o1 cu) (pr 5) ae) ae) ae (az _))) (ai (cN (i:=0) sc_law_line.nd (ao (bF K) (pr 0) (bM (aa (aw (aD K) (pr 4) (ao (o1 aP) (pr 5) (aB (aE K) ⋯ T.n_len boot_len (aa (pr 4) ag))) (λ_ _=>rfl)) ag))))) (ai (cN (i:=0) sc_law_line.nd (ao (bF K) (pr 0) (bM (aa (aA D_law_unbroken hr ⋯ (aa (pr 0) (aa (pr 4) (aa (ao (o1 aP) (pr 5) (aB (aE K) ⋯ T.n_len boot_len (aa (pr 4) ag))) (aa (pr 3) ag))))) ag))))))))
 (ai (ar (pr 0))))),?_⟩
 have hs:=sizeLine_eq;have hw:∀b∈bs,1<=wN b:=λb h=>(hb b h).big.2.2.2.2;have cg:1<=jL bs:=nU bs 1 hw;have cl:=gb bs;refine aN (λZ H'=>∃sm:Addr,dn H' sm bs.length (bJ bs)/\Z=[↑l,↑ce,↑r,↑ru,↑sm,none]/\av H H') ?_ ?_
 ·intro u' hu
  tm_at "r";exact⟨r,bs,rfl,hR,b4,hw,cb,λsm H1 _ hsm s1=>hu _ _ ⟨sm,⟨hsm,fG bs⟩,rfl,s1⟩⟩
 rintro Ω ω _ H1 ⟨sm,hsm,rfl,s1⟩;refine ω _ _ (aN (λZ H'=>∃(g:Addr) (cols':List (List Int)) (o5:Option V),dn H' g bs.length cols'/\cols'.length=cols.length+ys.length/\Z=[↑g,↑ce,↑r,↑ru,↑sm,o5]/\av H H') ?_ ?_)
 ·intro u' hu
  tm_at "r";refine bR (s1.seq hce) (dR (xs:=ys.map V.int) (λi Z H'=>∃(g:Addr) (cols':List (List Int)) (o5:Option V),dn H' g bs.length cols'/\cols'.length=cols.length+i/\Z=[↑g,↑ce,↑r,↑ru,↑sm,o5]/\av H1 H') ⟨l,cols,none,hl.same s1,rfl,rfl,av.refl _⟩ (λi Z H' _ h=>by obtain⟨_,_,_,_,_,_,h⟩:=h;exact(s1.trans h).seq hce) ?_ λZ H' ⟨g,cols',o5,h1,h2,h3,h4⟩=>hu _ _ ⟨g,cols',o5,h1,by rw [h2,aa0],h3,s1.trans h4⟩);rintro i x Z H2 hx hI;refine uH λB hB=>?_;obtain⟨g,cols',o5,hgl,hcl,rfl,s2⟩:=hI
  have hi:i < ys.length:=by have:=(aa1.mp hx).1;rw [aa0]at this;exact this
  obtain⟨c,_,rfl⟩:=ac4.mp (ac0 hx);tm_at "r";refine hB _ _ (mh λA0 B0 hA hB2=>?_)
  have put:∀{H3:Hp} {d:Addr} {us:List Int},av H2 H3->us∈bJ bs->H3 d=some (.tup (us.map V.int))->0+1<=sizeLine/\∀p:Addr,H3 p=none->eY K (.ref g) (.ref p) (upd H3 p (.lst [.ref d])) λx H1'=>∃(g:Addr) (cols':List (List Int)),dn H1' g bs.length cols'/\cols'.length=cols.length+(i+1)/\x=.ref g/\av H1 H1':=λ{H3 d us} s3 hus hd=>by
   refine⟨(),λp hp=>?_⟩;have s4:=au (o:=.lst [.ref d]) hp;obtain⟨⟨ls,hls,hll,_⟩,_⟩:=id (hgl.same s3);exact ij (s4 _ _ hls) af (by rw [aa0,hll];simp;omega) λg' hg'=>⟨g',cols' ++ [us],dn.put ((hgl.same s3).same s4) (s4 _ _ hd) (fG bs us hus) (s4 _ _ hls) hg',by rw [ab4,hcl];rfl,rfl,(s2.trans s3).trans (s4.upd hg')⟩
  obtain⟨⟨ps,hps,hpl,_⟩,_⟩:=id (hsm.same s2);tm_at "r";refine⟨⟨∅,∅⟩,∅,?_⟩
  by_cases h:c / 1009 % 9=4
  ·rw [if_pos h]
   refine hA _ ?_;tm_at "r";refine⟨_,.inl (aH.of hps),?_⟩;rw [aa0,hpl];exact⟨(),(hsm.same s2).ix (ad4 _ ()) (ac7 _ ()) λd us hus hd=>put (av.refl _) hus hd⟩
  ·rw [if_neg h]
   refine hB2 _ ?_;tm_at "r";refine⟨_,.inl (aH.of hps),?_⟩;rw [aa0,hpl];exact⟨(),g,sm,ru,_,bs.length,cols',bJ bs,Rs,rfl,hgl,hsm.same s2,ad4 _ (),ac7 _ (),(),hT.same (s1.trans s2),r12,hg,(),λd us H3 hus hd s3=>put s3 hus hd⟩
 rintro Ω ω _ H2 ⟨g,cols',o5,hgl,hcl,rfl,s2⟩;refine ω _ _ ?_;tm_at "r";exact q g cols' H2 hgl hcl s2
def j9(Ss:List bS)(cols:List (List Int)):MS->List (List Int)->Option MS
 | s,[]=>some s
 | s,c::l=>if c∈cols then(match dw Ss s c with | none=>none | some s'=>j9 Ss cols s' l)else none
def nR(P:Program)(w:World)(C:Addr)(Ss:List bS)(cols:List (List Int))(met:List MS)(x:Addr)(H:Hp):Prop:=i7 P w C Ss cols met x H/\met[0]?=some (none,Ss.map (·.start))/\∀(s:MS),s∈met->∀c∈cols,∀s',dw Ss s c=some s'->s'∈met
theorem nR.same(h:nR P w C Ss cols met x H)(s:av H H'):nR P w C Ss cols met x H':=⟨h.1.same s,h.2⟩
def Bx(P:Program)(w:World)(K:Frag)(C:Addr):Sp:=λvs H Q _=>∃(x l:Addr) (Ss:List bS) (cols:List (List Int)) (met:List MS) (line:List (List Int)),vs=[.ref x,.ref l]/\nR P w C Ss cols met x H/\dq H l line/\
 (j9 Ss cols (none,Ss.map (·.start)) line=none->Q .non H)/\∀(j:Nat) (s:MS),j9 Ss cols (none,Ss.map (·.start)) line=some s->met[j]?=some s->Q (.int j) H
theorem C8(F:bV K "walk" "Machine.walk" gu f fd)(T:Txt mg aM)(M_to: ~~~aG C "to" 1 ["self","state","column"] (DF P w C)): ~~~aK bP 2 f fd ["self","line"] (Bx P w K C):=by
 refine F.ok sc_Machine_walk λ_ A _ s H vs Q E hr h=>?_;obtain⟨x,l,Ss,cols,met,line,rfl,⟨MA,m0,mc⟩,⟨ps,hps,hpl,hpc⟩,kn,ks⟩:=h
 refine⟨rfl,_,(ah (cN (i:=2) sc_Machine_walk.nd (iy T.g_START))
 (ah (cJ PassesOwn.never rfl (bI K (pr 1)) (j7 (i:=3) sc_Machine_walk.nd)
 (ah (cN (i:=2) sc_Machine_walk.nd (~~~eO hr (pr 0) (aa (pr 2) (aa (pr 3) ag))))
 (ai (aO (aY (ay fL (pr 2) bc (az _))) (ai (ar bc)) aC))))
 (ai (ar (pr 2))))),?_⟩
 have hs:=sizeLine_eq;refine aN (λZ H'=>Z=[↑x,↑l,some (.int 0),none]/\H=H') ?_ ?_
 ·intro u' hu
  tm_at "r";exact hu _ _ ⟨rfl,rfl⟩
 rintro Ω ω _ _ ⟨rfl,rfl⟩
 obtain⟨Pv,hPv⟩:∃Pv:Nat->L2.St->Hp->Prop,Pv=λi Z H'=>∃(j:Nat) (s:MS) (o3:Option V),met[j]?=some s/\j9 Ss cols (none,Ss.map (·.start)) line=j9 Ss cols s (line.drop i)/\Z=[↑x,↑l,⇑j,o3]/\H=H':=⟨_,rfl⟩
 refine ω _ _ (aN (λZ H'=>Pv line.length Z H') ?_ ?_)
 ·intro u' hu
  tm_at "r";refine bR (aH.of hps) (dR (xs:=ps.map V.ref) Pv (by rw [hPv];exact⟨0,_,none,m0,rfl,rfl,rfl⟩) (λi Z H' _ h=>by rw [hPv]at h;obtain⟨_,_,_,_,_,_,rfl⟩:=h;exact aH.of hps) ?_ ?_)
  ·intro i y Z H' hy hI
   rw [hPv]at hI;obtain⟨j,st,o3,hj,hw,rfl,rfl⟩:=hI;rw [aa4]at hy
   cases ht:ps[i]? with
   | none=>rw [ht]at hy;cases hy
   | some t=>
    rw [ht]at hy;cases hy
    have hi:i < line.length:=by rw [<-hpl];exact(aa1.mp ht).1
    have hc:=hpc i t line[i] ht (aa2 hi);rw [List.drop_eq_getElem_cons hi,j9]at hw;tm_at "r";obtain⟨dx,la,wl,sc,hx,MB⟩:=id MA;refine⟨C,dx,_,hx,by unfold bL;tm_at "f",_,_,M_to,x,t,Ss,cols,met,j,line[i],st,rfl,MA,hj,hc,λj' s' hcc hn hj'=>?_,λh=>?_⟩
    ·rw [if_pos hcc,hn]at hw
     rw [if_neg (by simp),hPv];exact⟨j',s',_,hj',hw,rfl,rfl⟩
    ·show(if V.non=V.non then _ else _)
     rw [if_pos rfl];refine kn ?_;rw [hw]
     by_cases hcc:line[i]∈cols
     ·rw [if_pos hcc,h hcc]
     ·rw [if_neg hcc]
  ·intro Z H' hI
   rw [aa0,hpl]at hI;exact hu _ _ hI
 intro Ω ω;intro Z H' hI;rw [hPv]at hI;obtain⟨j,st,o3,hj,hw,rfl,rfl⟩:=hI;rw [List.drop_length,j9]at hw;refine ω _ _ ?_;tm_at "r";exact ks j st hw hj
def vf(Rs:List aL)(ln:List (List Int))(i:Nat):MS:=(ig ln i,Rs.map λR=>um ln i R)
theorem pU(nv:Nat){Rs:List aL}(ln:List (List Int))(hg:∀R∈Rs,cQ nv R):vf Rs ln 0=(none,(Rs.map cn).map (·.start)):=by
 unfold vf;rw [ai7];refine Prod.ext rfl (List.map_congr_left λR hR=>?_);exact(xT nv ln R (hg R hR)).m0.symm
theorem xp(nv:Nat)(hu:ln[i]?=some us):∀{Rs:List aL},(∀R∈Rs,cQ nv R)->eC (Rs.map cn) (Rs.map λR=>um ln i R) (ig ln i) us=if Rs.any (ja ln i)=true then none else some (Rs.map λR=>um ln (i+1) R)
 | [],_=>rfl
 | R::Rs,hg=>by
  have ih:=xp nv hu (Rs:=Rs) λR' h=>hg R' (.tail _ h);have h1:=(xT nv ln R (hg R (.head _))).st i us hu;unfold eC mw at ih |-;rw [ad0,ad0,List.zipWith_cons_cons,h1,aj7]
  cases hb:ja ln i R with
  | true=>rfl
  | false=>
   show(qS _).map _=_;rw [ih]
   cases Rs.any (ja ln i)<;>rfl
theorem BC(nv:Nat){Rs:List aL}(hg:∀R∈Rs,cQ nv R)(hu:ln[i]?=some us):dw (Rs.map cn) (vf Rs ln i) us=if Rs.any (ja ln i)=true then none else some (vf Rs ln (i+1)):=by
 unfold dw vf;rw [xp nv hu hg]
 cases Rs.any (ja ln i)with
 | true=>rfl
 | false=>
  show some (some us,_)=some (ig ln (i+1),_);rw [show ig ln (i+1)=ln[i]? from rfl,hu]
theorem BB(nv:Nat){Rs:List aL}(hg:∀R∈Rs,cQ nv R)(hi:i<=ln.length):cT (Rs.map cn) (vf Rs ln i).2 (vf Rs ln i).1=!(Rs.any (jj (ln.take i))):=by
 unfold cT vf;dsimp only
 induction Rs with
 | nil=>rfl
 | cons R Rs ih=>
  rw [ad0,ad0,List.zipWith_cons_cons,al3,ih λR' h=>hg R' (.tail _ h),aj7,zL nv ln R (hg R (.head _)) i hi]
  cases jj (ln.take i) R<;>rfl
theorem CG(hu:ln[i]?=some us)(hw:us.length=bs.length):us∈bJ bs↔(List.range bs.length).any (sY bs ln i)=false:=by
 have eg:ln.getD i []=us:=by rw [ab5,hu];rfl
 rw [ym,ak4]
 constructor
 ·rintro⟨_,h⟩ v hv
  have hv:=af8.mp hv;have e1:bs[v]?=some bs[v]:=aa2 hv;have e2:us[v]?=some (us[v]'()):=aa2 ()
  have:=h v _ _ e1 e2
  unfold sY;rw [eg,ab5,e1,ab5,e2];show ¬(!decide ((bs[v]).1<=us[v]'()/\us[v]'()<=(bs[v]).2))=true;rw [decide_eq_true this];exact aa6
 ·intro h
  refine⟨hw,λv b u e1 e2=>?_⟩
  have:=h v (af8.mpr (aa1.mp e1).1)
  unfold sY at this;rw [eg,ab5,e1,ab5,e2]at this
  by_cases hh:b.1<=u/\u<=b.2
  ·exact hh
  ·exact absurd (show(!decide (b.1<=u/\u<=b.2))=true by rw [decide_eq_false hh];rfl) this
theorem BD{Rs:List aL}(hg:∀R∈Rs,cQ bs.length R)(hu:ln[i]?=some us)(hw:us.length=bs.length):(eI bs Rs ln i=false↔us∈bJ bs/\dw (Rs.map cn) (vf Rs ln i) us=some (vf Rs ln (i+1)))/\(eI bs Rs ln i=true->us∉bJ bs\/dw (Rs.map cn) (vf Rs ln i) us=none):=by
 have h1:=CG (bs:=bs) hu hw;have h2:=BC bs.length hg hu;unfold eI
 cases ha:(List.range bs.length).any (sY bs ln i)<;>cases hb:Rs.any (ja ln i)<;>rw [ha]at h1<;>rw [hb]at h2
 ·exact⟨⟨λ_=>⟨h1.mpr rfl,h2⟩,λ_=>rfl⟩,λz=>(by cases z)⟩
 ·exact⟨⟨λz=>(by cases z),λz=>(by rw [h2]at z;cases z.2)⟩,λ_=>.inr h2⟩
 ·exact⟨⟨λz=>(by cases z),λz=>(by cases h1.mp z.1)⟩,λ_=>.inl λz=>(by cases h1.mp z)⟩
 ·exact⟨⟨λz=>(by cases z),λz=>(by cases h1.mp z.1)⟩,λ_=>.inl λz=>(by cases h1.mp z)⟩
theorem tS{Rs:List aL}(hg:∀R∈Rs,cQ bs.length R)(hw:∀c∈ln,c.length=bs.length):∀(n i:Nat),i+n<=ln.length->((∀j,i<=j->j < i+n->eI bs Rs ln j=false)->j9 (Rs.map cn) (bJ bs) (vf Rs ln i) ((ln.drop i).take n)=some (vf Rs ln (i+n)))/\((∃j,i<=j/\j < i+n/\eI bs Rs ln j=true)->j9 (Rs.map cn) (bJ bs) (vf Rs ln i) ((ln.drop i).take n)=none)
 | 0,i,_=>⟨λ_=>rfl,λ⟨j,h1,h2,_⟩=>by omega⟩
 | n+1,i,h=>by
  have hi:i < ln.length:=by omega
  have hu:ln[i]?=some ln[i]:=aa2 hi;have ih:=tS hg hw n (i+1) ();obtain⟨t1,t2⟩:=BD hg hu (hw _ (ad7 hi));rw [List.drop_eq_getElem_cons hi,am4,j9]
  cases hb:eI bs Rs ln i with
  | false=>
   obtain⟨c1,c2⟩:=t1.mp hb;rw [if_pos c1,c2];refine⟨λg=>?_,λ⟨j,g1,g2,g3⟩=>?_⟩
   ·have:=ih.1 λj h1 h2=>g j () ()
    rw [show i+1+n=i+(n+1)by omega]at this;exact this
   ·exact ih.2 ⟨j,by
     by_cases e:j=i
     ·subst e;rw [hb]at g3;cases g3
     ·omega,(),g3⟩
  | true=>
   refine⟨λg=>?_,λ_=>?_⟩
   ·have:=g i (aa8 _) ()
    rw [hb]at this;cases this
   ·rcases t2 hb with c | c
    ·rw [if_neg c]
    ·by_cases cc:ln[i]∈bJ bs
     ·rw [if_pos cc,c]
     ·rw [if_neg cc]
def Bt(K:Frag):Sp:=λvs H Q _=>∃(ru l:Addr) (nv:Nat) (cols:List (List Int)) (Rs:List aL),vs=[.ref ru,.ref l]/\jZ H ru Rs/\Rs.length<=12/\(∀R∈Rs,cQ nv R)/\gg K H l nv cols/\cols.length<=100/\∀H',av H H'->Q (.bl (!(Rs.any (jj cols)))) H'
def vb(P:Program)(w:World)(C:Addr):Sp:=λvs H Q _=>∃(x:Addr) (Ss:List bS) (cols:List (List Int)) (met:List MS) (i:Nat) (s:MS),vs=[.ref x,.int i,.int i,.bl (cT Ss s.2 s.1)]/\i7 P w C Ss cols met x H/\met[i]?=some s/\Q (.bl true) H
theorem CZ(F:bV K "_law_good_close" "_law_good_close" ft f fd)(T:Txt mg aM)(D_law_ill_close: ~~~cy "_law_ill_close" 1 ["_law_rule_here","_law_line_here"] (xA K)): ~~~aK bP 2 f fd ["_law_rules_here","_law_line_here"] (Bt K):=by
 refine F.ok lP λ_ A _ s H vs Q E hr h=>?_;obtain⟨ru,l,nv,cols,Rs,rfl,⟨ws,hws,hwl,hwt⟩,r12,hg,hl,c100,q⟩:=h;refine⟨rfl,_,(ai (ar (D9 (A9 (aB (ya K rfl) ⋯ T.n_any boot_any (aa (di (own:=["_law_rule_here"]) (js:=[1]) rfl (bI K (pr 0)) (bD.of ⋯) (λ_ _ _ _ _=>(bQ (i:=0) (show List.Nodup (["_law_rule_here","_law_line_here"]:List Str)from by decide +kernel) rfl (Or.inl rfl))) (λ_ _ _ _ _=>cA) (λ_ _ _ _ _=>(aA D_law_ill_close hr ⋯ (aa (pr 0) (aa (pr 1) ag))))) ag)))))),?_⟩;have hs:=sizeLine_eq;tm_at "r";refine bR (aH.of hws) (bW (xs:=ws.map V.ref) (λj ys H'=>ys=((Rs.take j).map (jj cols)).map V.bl/\av H H') (by rw [aa0];omega) ⟨rfl,av.refl _⟩ (λj ys H' h=>by obtain⟨rfl,_⟩:=h;rw [aa0,aa0,ac3];omega) (λj ys H' h=>aH.of (h.2 _ _ hws)) ?_ ?_)
 ·rintro j x ys H' hj' ⟨rfl,s3⟩
  rw [aa4]at hj'
  cases hx:ws[j]? with
  | none=>rw [hx]at hj';cases hj'
  | some y=>
   rw [hx]at hj';cases hj'
   have hj:j < Rs.length:=by rw [<-hwl];exact(aa1.mp hx).1
   have eR:Rs[j]?=some Rs[j]:=aa2 hj;tm_at "r";refine⟨y,l,nv,cols,Rs[j],rfl,(hwt j y _ hx eR).same s3,hg _ (ad7 hj),hl.same s3,c100,λH4 s4=>⟨?_,s3.trans s4⟩⟩;rw [ac5,eR,ab3,ab3];rfl
 ·rintro ys H3 ⟨rfl,s3⟩ b hb
  rw [aa0,hwl,ad5];tm_at "r";refine⟨_,aH.of af,?_⟩;rw [List.any_map];exact q _ (s3.upd hb)
theorem yT(F:bV K "_law_stands" "_law_stands" iP f fd)(T:Txt mg aM)(M_size: ~~~aG C "size" 1 ["self"] (xD P w C))(M_ends: ~~~aG C "ends" 1 ["self","state"] (Bs P w C))(D_law_whole: ~~~cy "_law_whole" 1 ["_law_found"] xI): ~~~aK bP 2 f fd ["_law_machine","_law_state","_law_told","_law_sound"] (vb P w C):=by
 refine F.ok sc_law_stands λ_ A _ s H vs Q E hr h=>?_;obtain⟨x,Ss,cols,met,i,st,rfl,MA,hst,q⟩:=h
 refine⟨rfl,_,(ah (aO (PW.pt (cK (cj (bf (aA D_law_whole hr ⋯ (aa (pr 1) ag)) (λ_=>rfl))) (cK (cj (bf (aA D_law_whole hr ⋯ (aa (pr 2) ag)) (λ_=>rfl))) (cB (aY (ay AN (pr 1) (pr 2) (az _))))))) (ai (ar jm)) aC)
 (ah (aO (cj (aY (oX (o0 ic) (o0 jX) ae (pr 1) (~~~jR hr (pr 0))))) (ai (ar jm)) aC)
 (ah (cN (i:=4) sc_law_stands.nd (~~~eO hr (pr 0) (aa (pr 2) ag)))
 (ai (ar (gJ (eN (aB (eJ K) ⋯ T.n_isinstance boot_isinstance (aa (pr 4) (aa (lF (v:=.ty "bool") ⋯ T.n_bool boot_bool rfl) ag))) (eA (aT gA (pr 4) (pr 3) (az _)))))))))),?_⟩
 have hil:=(aa1.mp hst).1;obtain⟨dx,la,wa,sc,hx,_⟩:=id MA;refine aN (λZ H'=>Z=[↑x,⇑i,⇑i,some (.bl (cT Ss st.2 st.1)),none]/\H=H') ?_ ?_
 ·intro u' hu
  tm_at "r";refine⟨i,rfl,true,TruV_b.mpr rfl,?_⟩;rw [if_neg ∅];refine⟨i,rfl,true,TruV_b.mpr rfl,?_⟩;rw [if_neg ∅];exact hu _ _ ⟨rfl,rfl⟩
 rintro Ω ω _ _ ⟨rfl,rfl⟩;refine ω _ _ (aN (λZ H'=>Z=[↑x,⇑i,⇑i,some (.bl (cT Ss st.2 st.1)),none]/\H=H') ?_ ?_)
 ·intro u' hu
  tm_at "r";rw [if_pos ()];refine⟨C,dx,_,hx,by unfold bL;tm_at "f",_,_,M_size,x,Ss,cols,met,rfl,MA,_,rfl,?_⟩;rw [if_pos ()];exact hu _ _ ⟨rfl,rfl⟩
 rintro Ω ω _ _ ⟨rfl,rfl⟩;refine ω _ _ ?_;refine iX λRk rk=>?_;tm_at "r";refine⟨C,dx,_,hx,by unfold bL;tm_at "f",_,_,M_ends,x,Ss,cols,met,i,st,rfl,MA,hst,rk _ _ ?_⟩;tm_at "r";refine⟨_,.bl _,true,rfl,?_⟩;rw [if_pos rfl];refine rEq_bb.mpr ?_;rw [show(decide (cT Ss st.2 st.1=cT Ss st.2 st.1))=true from decide_eq_true rfl];exact q
theorem Aj(n:Nat):(L2.intsFrom 0 n).length=n:=by simp [L2.intsFrom]
theorem Ay{c d:Nat}(hne:d≠c):∀ps:List (List Nat),(∀p∈ps,d∉p)->d∉dv c ps
 | [],_=>by simp [dv]
 | p::r,h=>by
  intro hd;rw [dv,ac8,List.mem_flatten]at hd;rcases hd with hd | ⟨l,hl,hd⟩
  ·exact h p (.head _) hd
  ·obtain⟨q,hq,rfl⟩:=ac4.mp hl
   rcases ab0.mp hd with e | e
   ·exact hne e
   ·exact h q (.tail _ hq) e
theorem lD(n:Int):10∉(aW n).cps.toList:=λh=>by
 have:=oJ n 10 h
 omega
theorem Az(R:c8):10∉(aR R).cps.toList:=by
 cases R<;>(simp only [aR];decide +kernel)
theorem uj(h:∀z∈ws,10∉z.cps.toList):10∉(Txt.join (Str.ofString " ") ws).cps.toList:=by
 rw [show(Str.ofString " ")=⟨#[32]⟩by decide +kernel,cZ];refine Ay ∅ _ λp hp=>?_;obtain⟨z,hz,rfl⟩:=ac4.mp hp;exact h z hz
theorem wV(R:aL):10∉(dk R).cps.toList:=by
 have one:∀R:c8,∀z∈aR R::(de R).map aW,10∉z.cps.toList:=λR z hz=>by
  rcases ab0.mp hz with rfl | hz
  ·exact Az R
  ·obtain⟨n,_,rfl⟩:=ac4.mp hz
   exact lD n
 cases R with
 | plain R=>exact uj (one R)
 | every m a R=>
  refine uj λz hz=>?_;rcases ab0.mp hz with rfl | hz
  ·decide +kernel
  rcases ab0.mp hz with rfl | hz
  ·exact lD m
  rcases ab0.mp hz with rfl | hz
  ·exact lD a
  exact one R z hz
theorem xS(h1:b.1.natAbs < 10 ^ 40)(h2:b.2.natAbs < 10 ^ 40):gj (pX b) (Str.ofString "voice") [b.1,b.2]:=Bn (by decide +kernel) h1 h2 (by decide +kernel) (by decide +kernel) (by decide +kernel)
theorem BX(b:Int×Int):10∉(pX b).cps.toList:=by
 show 10∉((Str.ofString "voice ").cps++(aW b.1).cps++(Str.ofString " ").cps++(aW b.2).cps).toList;rw [ah1,ah1,ah1];intro h;rcases ac8.mp h with h | h
 ·rcases ac8.mp h with h | h
  ·rcases ac8.mp h with h | h
   ·exact absurd h (by decide +kernel)
   ·exact lD _ h
  ·exact absurd h (by decide +kernel)
 ·exact lD _ h
theorem wz{Rs:List aL}(h:1<=bs.length):Txt.split (kG bs Rs) ⟨#[10]⟩=bs.map pX++Rs.map dk:=by
 have h:bs.map pX++Rs.map dk≠[]:=λe=>by
  rw [List.map_eq_nil_iff.mp (List.append_eq_nil_iff.mp e).1]at h;exact absurd h ∅
 unfold kG iB;rw [show(Str.ofString "\n")=⟨#[10]⟩by decide +kernel];refine ni ∅ h λz hz=>?_;rcases ac8.mp hz with hz | hz
 ·obtain⟨b,_,rfl⟩:=ac4.mp hz
  exact BX b
 ·obtain⟨R,_,rfl⟩:=ac4.mp hz
  exact wV R
theorem BR{Rs:List aL}(b4:bs.length<=4)(r4:Rs.length<=12)(hb:∀b∈bs,b.1.natAbs < 10 ^ 40/\b.2.natAbs < 10 ^ 40)(hR:∀R∈Rs,uz R):(kG bs Rs).length<=1000000:=by
 unfold kG iB;rw [bq,show(Str.ofString "\n")=⟨#[10]⟩by decide +kernel,cZ]
 have hl:=jO 10 ((bs.map pX++Rs.map dk).map λz=>z.cps.toList) 10000 (λp hp=>by
  obtain⟨z,hz,rfl⟩:=ac4.mp hp;rw [<-bq];rcases ac8.mp hz with hz | hz
  ·obtain⟨b,hb',rfl⟩:=ac4.mp hz
   exact(xS (hb b hb').1 (hb b hb').2).len
  ·obtain⟨R,hR',rfl⟩:=ac4.mp hz
   exact(f7 R (hR R hR')).1)
 simp only [aa0,ab4]at hl;omega
theorem so{x:Int}{i:Int}(h:x∈L2.intsFrom i n):i<=x/\x < i+n:=by
 obtain⟨j,hj,rfl⟩:=ac4.mp h
 have:=af8.mp hj
 omega
def ka:List aL->List Int->Prop
 | [],[]=>True
 | R::Rs,m::ms=>(0<=m/\m < dC R)/\ka Rs ms
 | _,_=>False
def mZ:List aL->List (List Int)
 | []=>[[]]
 | R::Rs=>(L2.intsFrom 0 (dC R).toNat).flatMap λm=>(mZ Rs).map (m::·)
theorem uo:∀{Rs:List aL} {ms:List Int},ka Rs ms->ms∈mZ Rs
 | [],[],_=>.head _
 | [],_::_,h=>h.elim
 | _::_,[],h=>h.elim
 | R::Rs,m::ms,⟨⟨h1,h2⟩,h3⟩=>by
  refine ag5.mpr ⟨m,?_,ac4.mpr ⟨ms,uo h3,rfl⟩⟩;unfold L2.intsFrom;exact ac4.mpr ⟨m.toNat,af8.mpr (),()⟩
theorem ua:∀{Rs:List aL} {ms:List Int},ms∈mZ Rs->ka Rs ms
 | [],ms,h=>by
  rw [ac1.mp h];trivial
 | R::Rs,ms,h=>by
  obtain⟨m,hm,h⟩:=ag5.mp h;obtain⟨ms',h',rfl⟩:=ac4.mp h
  have:=so hm
  exact⟨(),ua h'⟩
theorem oA(f:α->List β)(n:Nat):∀l:List α,(∀a,(f a).length=n)->(l.flatMap f).length=l.length * n
 | [],_=>(Nat.zero_mul _).symm
 | a::l,h=>by
  rw [an3,ab4,h,oA f n l h,ad6,am7,Nat.add_comm]
theorem rD:∀(Rs:List aL) (a:Int),(∀R∈Rs,1<=dC R)->Rs.foldl (λt R=>t * dC R) a=a * ((mZ Rs).length:Int)
 | [],a,_=>(Int.mul_one a).symm
 | R::Rs,a,h=>by
  rw [ae5,rD Rs _ λR' h'=>h R' (.tail _ h')];have h1:=h R (.head _)
  show _=a * ((((L2.intsFrom 0 (dC R).toNat).flatMap λm=>(mZ Rs).map (m::·)).length:Nat):Int)
  rw [oA _ (mZ Rs).length _ λm=>aa0 ..,Aj,ap0,am1 (),Int.mul_assoc]
theorem zG{R:aL}{m m':Int}{b:Option (List Int)}(hg:cQ nv R)(h:0<=m/\m < dC R)(e:(cn R).after m b us=some m'):0<=m'/\m' < dC R:=by
 cases R with
 | plain R=>
  cases R<;>simp only [cn,gB,fE,ef,f6,eT,dz,eo,cW,ee,eU]at e
  case back=>(repeat' split at e)<;>cases e<;>exact⟨∅,by show _ < (3:Int);decide⟩
  case held=>obtain⟨_,_,g⟩:=hg;simp only [dC,gB,eo]at h |-;(repeat' split at e)<;>cases e<;>omega
  case times=>simp only [dC,gB,cW]at h |-;(repeat' split at e)<;>cases e<;>omega
  all_goals (repeat' split at e)<;>cases e<;>exact h
 | every t u R=>
  obtain⟨_,_,g,_,_⟩:=hg;have h3:=ad4 (m+1) (show t≠0 by omega);have h4:=ac7 (m+1) (show 0 < t by omega);simp only [cn,eV]at e
  (repeat' split at e)<;>cases e<;>exact⟨h3,h4⟩
theorem oH{b:Option (List Int)}:∀{Rs:List aL} {ms ms':List Int},(∀R∈Rs,cQ nv R)->ka Rs ms->eC (Rs.map cn) ms b us=some ms'->ka Rs ms'
 | [],[],_,_,_,e=>by cases e;trivial
 | [],_::_,_,_,h,_=>h.elim
 | _::_,[],_,_,h,_=>h.elim
 | R::Rs,m::ms,ms',hg,⟨h1,h2⟩,e=>by
  have e:qS ((cn R).after m b us::mw (Rs.map cn) ms b us)=some ms':=e
  cases ea:(cn R).after m b us with
  | none=>rw [ea]at e;cases e
  | some m1=>
   rw [ea]at e
   have e:(qS (mw (Rs.map cn) ms b us)).map (m1::·)=some ms':=e
   cases er:qS (mw (Rs.map cn) ms b us)with
   | none=>rw [er]at e;cases e
   | some r=>
    rw [er]at e;cases e;exact⟨zG (hg R (.head _)) h1 ea,oH (λR' h'=>hg R' (.tail _ h')) h2 er⟩
theorem vg:∀{Rs:List aL},(∀R∈Rs,1<=dC R)->ka Rs ((Rs.map cn).map (·.start))
 | [],_=>trivial
 | R::Rs,h=>by
  have e:(cn R).start=0:=by
   cases R with
   | plain R=>cases R<;>rfl
   | every _ _ _=>rfl
  have h1:=h R (.head _);refine⟨?_,vg λR' h'=>h R' (.tail _ h')⟩;show 0<=(cn R).start/\(cn R).start < dC R;rw [e];omega
def FE(bs:List (Int×Int))(Rs:List aL):List MS:=(none,(Rs.map cn).map (·.start))::(bJ bs).flatMap λc=>(mZ Rs).map λms=>(some c,ms)
theorem xM{Rs:List aL}(hb:∀b∈bs,b.1<=b.2)(h:∀R∈Rs,1<=dC R):((FE bs Rs).length:Int)=hJ bs Rs+1:=by
 unfold FE hJ;rw [ad6,oA _ (mZ Rs).length _ λm=>aa0 ..,gb,rD Rs _ h,xV hb]
 push_cast
 rfl
theorem wA{Rs:List aL}(hb:∀b∈bs,b.1<=b.2)(hg:∀R∈Rs,cQ bs.length R)(h:∀R∈Rs,1<=dC R)(hw:hJ bs Rs<=400):vt (Rs.map cn) (bJ bs) (FE bs Rs):=by
 refine⟨.head _,λs hs c hc s' e=>?_,?_⟩
 ·have hm:ka Rs s.2:=by
   rcases ab0.mp hs with rfl | hs
   ·exact vg h
   ·obtain⟨c',_,hs⟩:=ag5.mp hs
    obtain⟨ms,hms,rfl⟩:=ac4.mp hs;exact ua hms
  unfold dw at e
  cases ea:eC (Rs.map cn) s.2 s.1 c with
  | none=>rw [ea]at e;cases e
  | some ms=>
   rw [ea]at e;cases e;exact .tail _ (ag5.mpr ⟨c,hc,ac4.mpr ⟨ms,uo (oH hg hm ea),rfl⟩⟩)
 ·have:=xM hb h
  omega
theorem BA{Rs:List aL}(hb:∀b∈bs,b.1<=b.2)(h:∀R∈Rs,1<=dC R)(m:w5 (Rs.map cn) (bJ bs) met)(hU:∀s∈met,s∈FE bs Rs):1<=met.length/\(met.length:Int)<=hJ bs Rs+1:=by
 have h1:=(aa1.mp m.st).1;have h2:=oI met (FE bs Rs) m.nd hU;have h3:=xM hb h;exact⟨(),()⟩
theorem wI{Rs:List aL}(h:∀R∈Rs,cQ nv R):rZ (Rs.map FH) ((Rs.map cn).map (·.start)):=by
 refine⟨by rw [aa0,aa0,aa0],λj G m e1 e2=>?_⟩;rw [aa4]at e1 e2;rw [aa4]at e2
 cases hR:Rs[j]? with
 | none=>rw [hR]at e1;cases e1
 | some R=>
  rw [hR]at e1 e2;cases e1;cases e2;have hg:=h R (ac0 hR)
  cases R with
  | plain R=>
   cases R with
   | back o cX=>exact⟨ap3 _,by show(0:Int)<=2;decide⟩
   | held o most=>exact⟨ap3 _,by show(0:Int) < most;obtain⟨_,_,g⟩:=hg;omega⟩
   | times o nt lw hh=>exact⟨ap3 _,by show(0:Int)<=hh;obtain⟨_,_,g⟩:=hg;omega⟩
   | _=>trivial
  | every m a R=>exact⟨ap3 _,by show(0:Int) < m;obtain⟨_,_,g,_⟩:=hg;omega⟩
theorem AQ(h:∀b∈bs,xr b):∀b∈bs,b.1.natAbs < 10 ^ 40/\b.2.natAbs < 10 ^ 40:=λb hb=>⟨(h b hb).big.2.1,(h b hb).big.2.2.1⟩
theorem DA{Rs:List aL}{E}(b1:1<=bs.length)(b4:bs.length<=4)(r12:Rs.length<=12)(hb:∀b∈bs,xr b)(hR:∀R∈Rs,rE bs.length R)(hw:hJ bs Rs<=400)(q:∀x H',~~~jG C bs.length bs Rs x H'->av H H'->Q (.ref x) H'): ~~~tP C [.str (kG bs Rs)] H Q E:=by
 have nb:=AQ hb;refine⟨kG bs Rs,bs,pX,Rs,rfl,BR b4 r12 nb λR h=>(hR R h).2.1,wz b1,b1,b4,r12,λb h=>?_,λR h=>⟨(hR R h).1,(hR R h).2.1,?_⟩,hw,q⟩
 ·refine⟨xS (nb b h).1 (nb b h).2,(hb b h).1,?_⟩
  have l1:=(hb b h).1;have l3:=(hb b h).2.2;unfold ik;omega
 ·obtain⟨_,_,h1,h2⟩:=hR R h
  omega
theorem n8{B:Nat->Bool}(e:dE B 0 n=none):∀j,j < n->B j=false:=λj hj=>by
 cases hb:B j with
 | false=>rfl
 | true=>
  exfalso
  have:∀m,j < m->dE B 0 m≠none:=λm=>by
   induction m with
   | zero=>intro h;omega
   | succ m ih=>
    intro h;rw [fH]
    cases e1:dE B 0 m with
    | some x=>exact λz=>by cases z
    | none=>
     by_cases hm:j < m
     ·exact absurd e1 (ih hm)
     ·have:j=m:=by omega
      subst this;show(if B (0+j)=true then _ else none)≠none;rw [ai6,hb,if_pos rfl]
      exact λz=>by cases z
  exact this n hj e
theorem rj{B:Nat->Bool}:∀{n k:Nat},dE B 0 n=some k->k < n/\(∀j,j < k->B j=false)/\B k=true
 | 0,_,e=>by cases e
 | n+1,k,e=>by
  rw [fH]at e
  cases e1:dE B 0 n with
  | some x=>
   rw [e1]at e;cases e;obtain⟨h1,h2,h3⟩:=rj e1;exact⟨(),h2,h3⟩
  | none=>
   rw [e1]at e;have e:(if B (0+n)=true then some (0+n)else none)=some k:=e;rw [ai6]at e
   by_cases hb:B n=true
   ·rw [if_pos hb]at e
    cases e;exact⟨ai2 _,n8 e1,hb⟩
   ·rw [if_neg hb]at e
    cases e
def xC(K:Frag):Sp:=λvs H Q _=>∃(a:Addr) (ns:List Int),vs=[.ref a]/\aH K H a (ns.map V.int)/\(∀x∈ns,x.natAbs < 2 ^ GB)/\ns.length<=63/\∀H',Q (.bl true) H'
theorem EK(F:bV K "law" "law" rK f fd)(T:Txt mg aM)(D_law_at: ~~~cy "_law_at" 12 ["_law_script","_law_k"] (zc K))(D_law_ranges: ~~~cy "_law_ranges" 12 ["_law_script","_law_most"] (u9 K))(D_law_rules: ~~~cy "_law_rules" 12 ["_law_script","_law_ranges_here","_law_cap"] (xF K))(D_law_cells: ~~~cy "_law_cells" 12 ["_law_script","_law_start","_law_many"] (xx K))(D_law_line: ~~~cy "_law_line" 12 ["_law_line_here","_law_cells_here","_law_ranges_here","_law_rules_here"] (wu K))(D_law_spoilt: ~~~cy "_law_spoilt" 12 ["_law_line_here","_law_cell"] (va K))(D_law_text: ~~~cy "_law_text" 12 ["_law_ranges_here","_law_rules_here"] (xG K))(D_read: ~~~cy "read" 12 ["text"] (~~~tP Cs))(DM_Machine: ~~~i6 "Machine" C 11 ["self","score"] (~~~kE C Cs))
  (D_law_fault: ~~~cy "_law_fault" 12 ["_law_ranges_here","_law_rules_here","_law_line_here"] (xy K)) (M_to: ~~~aG C "to" 12 ["self","state","column"] (DF P w C)) (M_walk: ~~~aG C "walk" 12 ["self","line"] (Bx P w K C)) (D_law_good_close: ~~~cy "_law_good_close" 12 ["_law_rules_here","_law_line_here"] (Bt K)) (D_law_stands: ~~~cy "_law_stands" 12 ["_law_machine","_law_state","_law_told","_law_sound"] (vb P w C)): ~~~aK bP 13 f fd ["_law_script"] (xC K):=by
 refine F.ok sc_law λ_ A _ s H vs Q E hr h=>?_;obtain⟨a,ns,rfl,hS,hB,ln,k⟩:=h
 refine⟨rfl,_,(ah (cN (i:=1) sc_law.nd (aA D_law_ranges hr ⋯ (aa (pr 0) (aa (ao (bF K) ae (ao (jW K) ae (aV (c9) ⋯ T.n_int boot_int (aa (aT (AM K (F1 hr)) (ao (o1 aP) (ao (o1 cu) (aA D_law_at hr ⋯ (aa (pr 0) (aa ae ag))) ae) ae) ae (az _)) ag)))) ag))))
 (ah (cN (i:=2) sc_law.nd (aA D_law_rules hr ⋯ (aa (pr 0) (aa (pr 1) (aa (ao (bF K) ae (ao (jW K) ae (aV (c9) ⋯ T.n_int boot_int (aa (aT (AM K (F1 hr)) (ao (o1 aP) (ao (o1 cu) (aA D_law_at hr ⋯ (aa (pr 0) (aa ae ag))) ae) ae) ae (az _)) ag)))) ag)))))
 (ah (cN (i:=3) sc_law.nd (ao (bF K) (ao (o1 aP) (aA D_law_at hr ⋯ (aa (pr 0) (aa ae ag))) ae) (ao (jW K) ae (aV (c9) ⋯ T.n_int boot_int (aa (aT (AM K (F1 hr)) (ao (o1 aP) (ao (o1 cu) (aA D_law_at hr ⋯ (aa (pr 0) (aa ae ag))) ae) ae) ae (az _)) ag)))))
 (ah (cN (i:=4) sc_law.nd (aA D_law_spoilt hr ⋯ (aa (aA D_law_line hr ⋯ (aa (bM ag) (aa (aA D_law_cells hr ⋯ (aa (pr 0) (aa ae (aa (pr 3) ag)))) (aa (pr 1) (aa (pr 2) ag))))) (aa (aA D_law_at hr ⋯ (aa (pr 0) (aa ae ag))) ag))))
 (ah (cN (i:=5) sc_law.nd (iW DM_Machine hr ⋯ (aa (aA D_read hr ⋯ (aa (aA D_law_text hr ⋯ (aa (pr 1) (aa (pr 2) ag))) ag)) ag)))
 (ah (cN (i:=6) sc_law.nd (aA D_law_fault hr ⋯ (aa (pr 1) (aa (pr 2) (aa (pr 4) ag)))))
 (ah (cN (i:=7) sc_law.nd (aB (aE K) ⋯ T.n_len boot_len (aa (pr 4) ag)))
 (ah (aO (aY (ay jQ (pr 6) bc (az _))) (ai (cN (i:=7) sc_law.nd (aw (aD K) (pr 6) ae (λ_ _=>rfl)))) aC)
 (ah (cN (i:=8) sc_law.nd ae)
 (ah (cJ PassesOwn.never rfl (cS rfl T.n_range (aa (ao (bF K) (aB (aE K) ⋯ T.n_len boot_len (aa (pr 4) ag)) ae) ag)) (j7 (i:=9) sc_law.nd)
 (ah (aO (PW.pt (gP (aY (ay (o0 ib) (pr 9) ae (az _))) (fZ (aY (ay jQ (pr 8) bc (az _)))))) (ai (cN (i:=8) sc_law.nd (~~~eO hr (pr 5) (aa (pr 8) (aa (aw (aD K) (pr 4) (ao (o0 bC) (pr 9) ae) (λ_ _=>rfl)) ag))))) aC)
 (ah (cN (i:=10) sc_law.nd (~~~eO hr (pr 5) (aa (bo (eX K) (pr 4) bw (eP (pr 9))) ag)))
 (ah (aO (PW.pt (gP (aY (ay (o0 ib) (pr 9) (pr 7) (az _))) (fZ (PW.pt (cK (aY (ay jQ (pr 8) bc (az _))) (cB (aY (ay jQ (pr 10) bc (az _))))))))) (ai (ar jm)) aC)
 (ah (cN (i:=11) sc_law.nd (aA D_law_good_close hr ⋯ (aa (pr 2) (aa (bo (eX K) (pr 4) bw (eP (pr 9))) ag))))
 (ai (aO (PW.pt (gP (aY (ay (o0 ic) (pr 9) (pr 7) (az _))) (fZ (cj (bf (aA D_law_stands hr ⋯ (aa (pr 5) (aa (pr 8) (aa (pr 10) (aa (pr 11) ag))))) (λ_=>rfl)))))) (ai (ar jm)) aC)))))))
 (ah (cN (i:=12) sc_law.nd (aV (cY K) ⋯ T.n_list boot_list (aa (pr 4) ag)))
 (ai (ar (gJ (eN (aT (AM K (F1 hr)) (~~~eO hr (pr 5) (aa (pr 12) ag)) (pr 8) (az _)) (eA (aT (AM K (F1 hr)) (pr 12) (pr 4) (az _)))))))))))))))))),?_⟩
 have hs:=sizeLine_eq;refine aN (λZ H'=>∃(r:Addr) (bs:List (Int×Int)),bT K H' r bs/\1<=bs.length/\bs.length<=4/\(∀b∈bs,xr b)/\jL bs<=12/\Z=[↑a,↑r,none,none,none,none,none,none,none,none,none,none,none]/\av H H') ?_ ?_
 ·intro u' hu
  tm_at "r";refine⟨a,ns,0,rfl,hS,∅,∅,_,rfl,⟨∅,∅⟩,∅,.of_left ∅,?_⟩
  obtain⟨m,hm,m1,m12⟩:∃m:Nat,(6+6 * if xZ ns 0 / 8 % 8=3 then 1 else 0:Int)=m/\1<=m/\m<=12:=by
   split
   ·exact⟨12,rfl,∅,∅⟩
   ·exact⟨6,rfl,∅,∅⟩
  rw [hm];exact⟨a,ns,m,rfl,hS,m1,(),λq bs H1 b1 b4 hb cb _ hq s1=>hu _ _ ⟨q,bs,hq.ranges,b1,b4,hb,(),rfl,s1⟩⟩
 rintro Ω ω _ H1 ⟨r,bs,RA,b1,b4,hb,cb,rfl,s1⟩;refine ω _ _ (aN (λZ H'=>∃(ru:Addr) (Rs:List aL),jZ H' ru Rs/\(∀R∈Rs,rE bs.length R)/\Rs.length<=12/\hJ bs Rs<=120/\Z=[↑a,↑r,↑ru,none,none,none,none,none,none,none,none,none,none]/\av H1 H') ?_ ?_)
 ·intro u' hu
  tm_at "r";refine⟨a,ns,3,rfl,s1.seq hS,∅,∅,_,rfl,⟨∅,∅⟩,∅,.of_left ∅,?_⟩
  obtain⟨m,hm,m1,m12⟩:∃m:Int,(36+84 * if xZ ns 3 / 5 % 8=3 then 1 else 0:Int)=m/\36<=m/\m<=120:=by
   split
   ·exact⟨120,rfl,∅,∅⟩
   ·exact⟨36,rfl,∅,∅⟩
  rw [hm];exact⟨a,r,ns,bs,m,rfl,s1.seq hS,RA,b1,b4,hb,(),(),λru Rs H2 RT hok r12 hw s2=>hu _ _ ⟨ru,Rs,RT,hok,r12,(),rfl,s2⟩⟩
 rintro Ω ω _ H2 ⟨ru,Rs,RT,hok,r12,hwt,rfl,s2⟩;refine ω _ _ (aN (λZ H'=>∃many:Nat,many<=31/\Z=[↑a,↑r,↑ru,⇑many,none,none,none,none,none,none,none,none,none]/\H2=H') ?_ ?_)
 ·intro u' hu
  tm_at "r";refine⟨a,ns,8,rfl,(s1.trans s2).seq hS,∅,∅,_,rfl,∅,a,ns,8,rfl,(s1.trans s2).seq hS,∅,∅,_,rfl,⟨∅,∅⟩,∅,.of_left ∅,?_⟩;have r0:=ad4 (xZ ns 8) (show(8:Int)≠0 by decide);have r1:=ac7 (xZ ns 8) (show(0:Int) < 8 by decide)
  obtain⟨m,hm,m31⟩:∃m:Nat,(xZ ns 8 % 8+24 * if xZ ns 8 / 8 % 6=5 then 1 else 0:Int)=m/\m<=31:=by
   generalize xZ ns 8 % 8=y at r0 r1
   split
   ·exact⟨(y+24).toNat,(),()⟩
   ·exact⟨y.toNat,(),()⟩
  rw [hm];exact hu _ _ ⟨m,m31,rfl,rfl⟩
 rintro Ω ω _ _ ⟨many,m31,rfl,rfl⟩;refine ω _ _ (aN (λZ H'=>∃(l:Addr) (cols:List (List Int)),dn H' l bs.length cols/\cols.length<=31/\Z=[↑a,↑r,↑ru,⇑many,↑l,none,none,none,none,none,none,none,none]/\av H2 H') ?_ ?_)
 ·intro u' hu
  tm_at "r";refine⟨(),λp hp=>?_⟩;have s3:=au (o:=.lst []) hp;have s03:=(s1.trans s2).trans s3;refine⟨a,ns,10,many,rfl,s03.seq hS,ln,∅,(),λce ys H4 yl _ hce s4=>?_⟩;refine⟨p,ce,r,ru,bs,[],ys,Rs,rfl,dn.same ⟨⟨[],af,rfl,λi p us e=>nomatch e⟩,λc h=>nomatch h⟩ s4,aH.of hce,RA.same (s2.trans (s3.trans s4)),b1,b4,hb,(),RT.same (s3.trans s4),r12,λR h=>(hok R h).1,by rw [yl];simp;omega,λg cols H5 hL cl s5=>?_⟩;refine⟨a,ns,9,rfl,((s03.trans s4).trans s5).seq hS,∅,∅,g,_,bs.length,cols,rfl,hL,b1,b4,by rw [cl,yl];simp;omega,λq cols' H6 hL' cl' s6=>hu _ _ ⟨q,cols',hL',by rw [cl',cl,yl];simp;omega,rfl,((s3.trans s4).trans s5).trans s6⟩⟩
 rintro Ω ω _ H3 ⟨l,cols,hL,c31,rfl,s3⟩;have s03:=(s1.trans s2).trans s3;have hg:∀R∈Rs,cQ bs.length R:=λR h=>(hok R h).1;have hb1:∀b∈bs,b.1<=b.2:=λb h=>(hb b h).1;have hw1:∀b∈bs,1<=wN b:=λb h=>(hb b h).big.2.2.2.2;have hs1:∀R∈Rs,1<=dC R:=λR h=>(hok R h).2.2.1;have RA3:=RA.same (s2.trans s3);have RT3:=RT.same s3;refine ω _ _ (aN (λZ H'=>∃(x:Addr) (met:List MS),nR P w C (Rs.map cn) (bJ bs) met x H'/\1<=met.length/\met.length<=121/\met.Nodup/\Z=[↑a,↑r,↑ru,⇑many,↑l,↑x,none,none,none,none,none,none,none]/\av H3 H') ?_ ?_)
 ·intro u' hu
  tm_at "r";refine⟨r,ru,bs,Rs,rfl,RA3,RT3,(),(),AQ hb,λR h=>(hok R h).2.1,λH4 s4=>?_⟩;refine DA b1 b4 r12 hb hok () λsc H5 SA s5=>?_;tm_at "r";intro x dx hx hdx dxx;have s56:av H5 (upd (upd H5 dx (.own x)) x (.ins C dx [])):=(au hdx).upd (by rw [aj dxx.symm];exact hx);refine⟨x,dx,sc,bs.length,bs,Rs.map cn,Rs.map FH,FE bs Rs,H5,rfl,af,hx,s56,SA.toM,by rw [aa0];omega,wI hg,rfl,(),hw1,(),wA hb1 hg hs1 (),λmet H' mf sub cl ma old=>⟨rfl,?_⟩⟩;have s5':av H5 H':=λb o e=>old b o (aq e hx) (s56 _ _ e);obtain⟨m1,m2⟩:=BA hb1 hs1 mf sub;obtain⟨dx',la,wa,hx',MB⟩:=ma;exact hu _ _ ⟨x,met,⟨⟨dx',la,wa,sc,hx',MB⟩,mf.st,cl⟩,m1,(),mf.nd,rfl,(s4.trans s5).trans s5'⟩
 rintro Ω ω _ H4 ⟨x,met,MO,m1,m2,mnd,rfl,s4⟩;have RA4:=RA3.same s4;have RT4:=RT3.same s4;have hL4:=hL.same s4;have hcw:=hL.2;refine ω _ _ (aN (λZ H'=>∃hv:V,l9 bs Rs cols hv H'/\Z=[↑a,↑r,↑ru,⇑many,↑l,↑x,some hv,none,none,none,none,none,none]/\av H4 H') ?_ ?_)
 ·intro u' hu
  tm_at "r";exact⟨r,ru,l,bs,Rs,cols,rfl,RA4,b4,RT4,r12,hg,hL4.line,(),λv H5 hf s5=>hu _ _ ⟨v,hf,rfl,s5⟩⟩
 rintro Ω ω _ H5 ⟨hv,hf,rfl,s5⟩;have hL5:=hL4.same s5;have MO5:=MO.same s5;have RT5:=RT4.same s5;obtain⟨⟨ps,hps,hpl,hpc⟩,_⟩:=id hL5
 obtain⟨lost,hlo,hlt,hbr⟩:∃lost:Nat,lost<=cols.length/\(∀j,j < lost->eI bs Rs cols j=false)/\(lost < cols.length->eI bs Rs cols lost=true)/\((hv=.non/\lost=cols.length)\/∃(t:Addr) (rr:Int),hv=.ref t/\H5 t=some (.tup [.int lost,.int rr])):=by
  unfold l9 at hf
  cases e:dE (eI bs Rs cols) 0 cols.length with
  | none=>
   rw [e]at hf;exact⟨cols.length,aa8 _,n8 e,λz=>absurd z (ag6 _),hf.imp (λz=>⟨z,rfl⟩) id⟩
  | some j=>
   rw [e]at hf;obtain⟨j1,j2,j3⟩:=rj e;exact⟨j,ah2 j1,j2,λ_=>j3,.inr hf⟩
 obtain⟨hbr,hvv⟩:=hbr;refine ω _ _ (aN (λZ H'=>Z=[↑a,↑r,↑ru,⇑many,↑l,↑x,some hv,some (.int cols.length),none,none,none,none,none]/\H5=H') ?_ ?_)
 ·intro u' hu
  tm_at "r";refine⟨_,.inl (aH.of hps),?_⟩;rw [aa0,hpl];exact hu _ _ ⟨rfl,rfl⟩
 rintro Ω ω _ _ ⟨rfl,rfl⟩;refine ω _ _ (aN (λZ H'=>Z=[↑a,↑r,↑ru,⇑many,↑l,↑x,some hv,⇑lost,none,none,none,none,none]/\H5=H') ?_ ?_)
 ·intro u' hu
  tm_at "r";rcases hvv with⟨rfl,rfl⟩ | ⟨t,rr,rfl,ht⟩
  ·rw [if_pos rfl]
   exact hu _ _ ⟨rfl,rfl⟩
  ·rw [if_neg (λz=>by cases z)]
   exact dy (cM.of ht) (bE rfl) (hu _ _ ⟨rfl,rfl⟩)
 rintro Ω ω _ _ ⟨rfl,rfl⟩;refine ω _ _ (aN (λZ H'=>Z=[↑a,↑r,↑ru,⇑many,↑l,↑x,some hv,⇑lost,some (.int 0),none,none,none,none]/\H5=H') ?_ ?_)
 ·intro u' hu
  tm_at "r";exact hu _ _ ⟨rfl,rfl⟩
 rintro Ω ω _ _ ⟨rfl,rfl⟩;obtain⟨stV,hstV⟩:∃stV:Nat->V->Prop,stV=λj v=>(j<=lost->∃i:Nat,v=.int i/\met[i]?=some (vf Rs cols j))/\(lost < j->v=.non):=⟨_,rfl⟩
 have m0:met[0]?=some (vf Rs cols 0):=by rw [pU bs.length cols hg];exact MO5.2.1
 have inj:∀{i j:Nat} {s:MS},met[i]?=some s->met[j]?=some s->i=j:=λ{i j s} h1 h2=>by
  obtain⟨a1,b1⟩:=aa1.mp h1;obtain⟨a2,b2⟩:=aa1.mp h2;have pw:=List.pairwise_iff_getElem.mp mnd;rcases Nat.lt_trichotomy i j with g | g | g
  ·exact absurd (b1.trans b2.symm) (pw i j a1 a2 g)
  ·exact g
  ·exact absurd (b2.trans b1.symm) (pw j i a2 a1 g)
 obtain⟨dxM,laM,waM,scM,hxM,_⟩:=id MO5.1;refine ω _ _ (aN (λZ H'=>∃(v:V) (o9 o10 o11:Option V),stV cols.length v/\Z=[↑a,↑r,↑ru,⇑many,↑l,↑x,some hv,⇑lost,some v,o9,o10,o11,none]/\av H5 H') ?_ ?_)
 ·intro u' hu
  tm_at "r";refine⟨_,.inl (aH.of hps),?_⟩;rw [aa0,hpl];obtain⟨Pv,hPv⟩:∃Pv:Nat->L2.St->Hp->Prop,Pv=λi Z H'=>∃(v:V) (o9 o10 o11:Option V),stV (i - 1) v/\Z=[↑a,↑r,↑ru,⇑many,↑l,↑x,some hv,⇑lost,some v,o9,o10,o11,none]/\av H5 H':=⟨_,rfl⟩
  refine⟨(),(),cG Pv (by rw [hPv];exact⟨.int 0,none,none,none,by rw [hstV];exact⟨λ_=>⟨0,rfl,m0⟩,λz=>absurd z (ak0 _)⟩,rfl,av.refl _⟩) ?_ λZ H' hI=>by
   rw [hPv]at hI;obtain⟨v,o9,o10,o11,h1,h2,h3⟩:=hI;rw [show((cols.length:Int)+1).toNat - 1=cols.length by omega]at h1
   exact hu _ _ ⟨v,o9,o10,o11,h1,h2,h3⟩⟩
  intro k Z H6 hk hI
  have hk:k<=cols.length:=by omega
  refine uH λB hB=>?_;rw [hPv]at hI;obtain⟨v,o9,o10,o11,hst,rfl,s6⟩:=hI;tm_at "r";refine hB _ _ ?_;clear hB B;refine aN (λZ H'=>∃v:V,stV k v/\Z=[↑a,↑r,↑ru,⇑many,↑l,↑x,some hv,⇑lost,some v,⇑k,o10,o11,none]/\av H5 H') ?_ ?_
  ·intro u2 gM
   tm_at "r"
   by_cases k0:k=0
   ·subst k0
    rw [if_neg ∅];exact gM _ _ ⟨v,hst,rfl,s6⟩
   obtain⟨m,rfl⟩:∃m,k=m+1:=⟨k - 1,()⟩;rw [if_pos ()];rw [hstV]at hst;have hst1:(m<=lost->∃i:Nat,v=.int i/\met[i]?=some (vf Rs cols m))/\(lost < m->v=.non):=hst
   by_cases hm:m<=lost
   ·obtain⟨i,rfl,hi⟩:=hst1.1 hm
    rw [if_neg (λz=>by cases z)];have hu':cols[m]?=some (cols[m]'()):=aa2 ();have ep:ps[m]?=some (ps[m]'()):=aa2 ();obtain⟨t1,t2⟩:=BD hg hu' (hcw _ (ad7 _));refine⟨C,dxM,_,s6 _ _ hxM,by unfold bL;tm_at "f",_,_,M_to,?_⟩;rw [show((m+1:Nat):Int) - 1=(m:Nat)by omega];refine bp (aH.of (s6 _ _ hps)) (aJ (by rw [aa4,ep];rfl)) ⟨x,_,_,_,met,i,_,_,rfl,(MO5.same s6).1,hi,s6 _ _ (hpc m _ _ ep hu'),λj' s' hcc hn hj'=>?_,λh=>?_⟩
    ·have hbm:eI bs Rs cols m=false:=by
      cases e:eI bs Rs cols m with
      | false=>rfl
      | true=>
       rcases t2 e with c | c
       ·exact absurd hcc c
       ·rw [c]at hn;cases hn
     have hml:m < lost:=by
      rcases ak9 m lost with g | g
      ·exact g
      ·have:lost=m:=by omega
       subst this;rw [hbr ()]at hbm;cases hbm
     rw [(t1.mp hbm).2]at hn;cases hn;exact gM _ _ ⟨_,by rw [hstV];exact⟨λ_=>⟨j',rfl,hj'⟩,λz=>by omega⟩,rfl,s6⟩
    ·have hml:lost < m+1:=by
      rcases ak9 m lost with g | g
      ·have c:=t1.mp (hlt m g)
       rw [h c.1]at c;cases c.2
      ·omega
     exact gM _ _ ⟨.non,by rw [hstV];exact⟨λz=>by omega,λ_=>rfl⟩,rfl,s6⟩
   ·have e:=hst1.2 ()
    subst e;rw [if_pos rfl];exact gM _ _ ⟨.non,by rw [hstV];exact⟨λz=>by omega,λ_=>rfl⟩,rfl,s6⟩
  clear hst v;rintro Ω ω _ H7 ⟨v,hst,rfl,s7⟩;refine ω _ _ (aN (λZ H'=>∃tv:V,tv=v/\Z=[↑a,↑r,↑ru,⇑many,↑l,↑x,some hv,⇑lost,some v,⇑k,some tv,o11,none]/\av H5 H') ?_ ?_)
  ·intro u2 gM
   tm_at "r";refine⟨C,dxM,_,s7 _ _ hxM,by unfold bL;tm_at "f",_,_,M_walk,ck (aH.of (s7 _ _ hps)) λc hc=>?_⟩;rw [dJ,<-an7];have s8:=au (o:=.lst ((ps.take k).map V.ref)) hc;rw [hstV]at hst;have wk:=tS hg hcw k 0 ();rw [List.drop_zero,ai6,pU bs.length cols hg]at wk;refine⟨x,c,_,_,met,cols.take k,rfl,(MO5.same s7).same s8,⟨ps.take k,af,by rw [ac3,ac3,hpl],λi p us e1 e2=>?_⟩,λe=>?_,λj st e hj=>?_⟩
   ·rw [ah6]at e1 e2
    by_cases hi:i < k
    ·rw [if_pos hi]at e1 e2
     exact(s7.trans s8) _ _ (hpc i p us e1 e2)
    ·rw [if_neg hi]at e1
     cases e1
   ·have hkl:lost < k:=by
     rcases ak9 lost k with g | g
     ·exact g
     ·rw [wk.1 λj _ h2=>hlt j ()]at e
      cases e
    exact gM _ _ ⟨.non,(hst.2 hkl).symm,rfl,s7.trans s8⟩
   ·have hkl:k<=lost:=by
     rcases ak9 lost k with g | g
     ·rw [wk.2 ⟨lost,ac2 _,g,hbr ()⟩]at e
      cases e
     ·exact g
    rw [wk.1 λj _ h2=>hlt j ()]at e;cases e;obtain⟨i,rfl,hi⟩:=hst.1 hkl;rw [inj hj hi];exact gM _ _ ⟨_,rfl,rfl,s7.trans s8⟩
  rintro Ω ω _ H8 ⟨tv,htv,rfl,s8⟩;refine ω _ _ ?_;rw [htv];clear htv tv;refine aN (λZ H'=>Z=[↑a,↑r,↑ru,⇑many,↑l,↑x,some hv,⇑lost,some v,⇑k,some v,o11,none]/\H8=H') ?_ ?_
  ·intro u2 gM
   tm_at "r";rw [hstV]at hst
   by_cases hkl:(lost:Int) < k
   ·rw [if_pos hkl,if_pos (hst.2 ()),if_pos (hst.2 ())]
    exact gM _ _ ⟨rfl,rfl⟩
   ·rw [if_neg hkl]
    exact gM _ _ ⟨rfl,rfl⟩
  rintro Ω ω _ _ ⟨rfl,rfl⟩;refine ω _ _ (aN (λZ H'=>Z=[↑a,↑r,↑ru,⇑many,↑l,↑x,some hv,⇑lost,some v,⇑k,some v,some (.bl (!(Rs.any (jj (cols.take k))))),none]/\av H5 H') ?_ ?_)
  ·intro u2 gM
   tm_at "r";refine ck (aH.of (s8 _ _ hps)) λc hc=>?_;rw [dJ,<-an7];have s9:=au (o:=.lst ((ps.take k).map V.ref)) hc;refine⟨ru,c,bs.length,cols.take k,Rs,rfl,RT5.same (s8.trans s9),r12,hg,⟨ps.take k,aH.of af,by rw [ac3,ac3,hpl],λi p us e1 e2=>?_⟩,by rw [ac3];omega,λH10 s10=>gM _ _ ⟨rfl,(s8.trans s9).trans s10⟩⟩;rw [ah6]at e1 e2
   by_cases hi:i < k
   ·rw [if_pos hi]at e1 e2
    exact⟨cM.of ((s8.trans s9) _ _ (hpc i p us e1 e2)),hcw us (ac0 e2)⟩
   ·rw [if_neg hi]at e1
    cases e1
  rintro Ω ω _ H9 ⟨rfl,s9⟩;refine ω _ _ ?_;tm_at "r"
  have nx:∀{o9 o10 o11:Option V},Pv (k+1) [↑a,↑r,↑ru,⇑many,↑l,↑x,some hv,⇑lost,some v,o9,o10,o11,none] H9:=λ{o9 o10 o11}=>by
   rw [hPv];exact⟨v,o9,o10,o11,hst,rfl,s9⟩
  by_cases hkl:(k:Int)<=lost
  ·rw [if_pos hkl]
   have hst':=hst;rw [hstV]at hst';obtain⟨i,hvi,hi⟩:=hst'.1 ();refine⟨x,_,_,met,i,_,by rw [BB bs.length hg hk,hvi],(MO5.same s9).1,hi,_,TruV_b.mpr rfl,?_⟩;rw [if_neg ∅];exact nx
  ·rw [if_neg hkl]
   exact nx
 rintro Ω ω _ H6 ⟨v,o9,o10,o11,hst,rfl,s6⟩;refine ω _ _ (aN (λZ H'=>∃g:Addr,H' g=some (.lst (ps.map V.ref))/\Z=[↑a,↑r,↑ru,⇑many,↑l,↑x,some hv,⇑lost,some v,o9,o10,o11,↑g]/\av H5 H') ?_ ?_)
 ·intro u' hu
  tm_at "r";exact⟨_,.inl (aH.of (s6 _ _ hps)),λg hg'=>hu _ _ ⟨g,af,rfl,s6.upd hg'⟩⟩
 rintro Ω ω _ H7 ⟨g,hgl,rfl,s7⟩;refine ω _ _ ?_;tm_at "r"
 have fin:(λx H1=>∃i,x=V.bl i/\if i=true then lH K (.ref g) (.ref l) H1 Q else Q (.bl false) H1) (V.bl true) H7:=by
  refine⟨true,rfl,?_⟩;rw [if_pos rfl];refine y3 (l:=true) (aH.of hgl) (aH.of (s7 _ _ hps)) (λy hy=>.inr ?_) (k _);obtain⟨p,_,rfl⟩:=ac4.mp hy;exact⟨p,rfl⟩
 rw [hstV]at hst;have wk:=tS hg hcw cols.length 0 ();rw [List.drop_zero,ai6,pU bs.length cols hg,ad5]at wk;refine⟨C,dxM,_,s7 _ _ hxM,by unfold bL;tm_at "f",_,_,M_walk,x,g,_,_,met,cols,rfl,MO5.same s7,⟨ps,hgl,hpl,λi p us e1 e2=>s7 _ _ (hpc i p us e1 e2)⟩,λe=>?_,λj st e hj=>?_⟩
 ·have hkl:lost < cols.length:=by
   rcases ak9 lost cols.length with g | g
   ·exact g
   ·rw [wk.1 λj _ h2=>hlt j ()]at e
    cases e
  rw [hst.2 hkl];exact .inl (by simp only [tu,u6,decide_true];exact⟨trivial,fin⟩)
 ·have hkl:cols.length<=lost:=by
   rcases ak9 lost cols.length with g | g
   ·rw [wk.2 ⟨lost,ac2 _,g,hbr ()⟩]at e
    cases e
   ·exact g
  rw [wk.1 λj _ h2=>hlt j ()]at e;cases e;obtain⟨i,rfl,hi⟩:=hst.1 hkl;rw [inj hj hi];refine rEqC_ii.mpr ?_;rw [decide_eq_true rfl];exact fin
theorem all_mk{h:Heap}{fa:Addr}{Zae:Addr}{Zaf:Addr}{Zag:Addr}{Zah:Addr}{Zac:Addr}{Zad:Addr}{Zab:Addr}{Zai:Addr}{Zaj:Addr}{Zak:Addr}{Zam:Addr}{Zaa:Addr}{Za4:Addr}{Zbf:FuncData}{Za5:Addr}{Zbg:FuncData}{Za6:Addr}{Zbh:FuncData}{Za7:Addr}{Zbi:FuncData}{Za8:Addr}{Zbj:FuncData}{Za9:Addr}{Zbk:FuncData}{Zba:Addr}{Zbl:FuncData}{Zbb:Addr}{Zbm:FuncData}{Zbc:Addr}{Zbn:FuncData}{a_MAKERS:Addr}{D_MAKERS:List (Str×V)}{a_INNER_KINDS:Addr}(X:K.In h)(G:h.Ns mainGlobals mg)(hfa:mg "law"=↑fa)(Ze9:nsIn K mainGlobals "Span"=some (↑Zae))(Zar:nG K Zae)(Zfa:nsIn K mainGlobals "Clock"=some (↑Zaf))(Zas:kM K Zaf)(Zfb:nsIn K mainGlobals "Move"=some (↑Zag))(Zat:nF K Zag)(Zfc:nsIn K mainGlobals "Alike"=some (↑Zah))(Zau:kK K Zah)(Zfd:nsIn K mainGlobals "Back"=some (↑Zac))(Zav:nE K Zac)(Zfe:nsIn K mainGlobals "Held"=some (↑Zad))(Zao:kP K Zad)(Zff:nsIn K mainGlobals "Times"=some (↑Zab))(Zan:hV K Zab)(Zfg:nsIn K mainGlobals "Begin"=some (↑Zai))(Zaw:kL K Zai)(Zfh:nsIn K mainGlobals "Close"=some (↑Zaj))(Zax:kO K Zaj)(Zfi:nsIn K mainGlobals "Every"=some (↑Zak))(Zap:i4 K Zak)(Zfj:nsIn K mainGlobals "Score"=some (↑Zam))(Zaz:gf K Zam)(Zfk:nsIn K mainGlobals "Machine"=some (↑Zaa))(Zal:il K Zaa):(∃f fd,br K "note_in" mE f fd)->(∃f fd,br K "span" wb f fd)->(∃f fd,br K "move" v8 f fd)->(∃C f fd,kJ K "Rule" "__init__" "Rule.__init__" fR C f fd)->(∃f fd,aZ K Zae "size" "Rule.size" dh f fd)->(∃f fd,aZ K Zae "start" "Rule.start" bN f fd)->(∃f fd,aZ K Zae "closes" "Rule.closes" bZ f fd)->(∃f fd,aZ K Zaf "size" "Rule.size" dh f fd)->(∃f fd,aZ K Zaf "start" "Rule.start" bN f fd)->(∃f fd,aZ K Zaf "closes" "Rule.closes" bZ f fd)->(∃f fd,aZ K Zag "size" "Rule.size" dh f fd)->(∃f fd,aZ K Zag "start" "Rule.start" bN f fd)->(∃f fd,aZ K Zag "closes" "Rule.closes" bZ f fd)->(∃f fd,aZ K Zah "size" "Rule.size" dh f fd)->(∃f fd,aZ K Zah "start" "Rule.start" bN f fd)->(∃f fd,aZ K Zah "closes" "Rule.closes" bZ f fd)->(∃f fd,aZ K Zai "size" "Rule.size" dh f fd)->(∃f fd,aZ K Zai "start" "Rule.start" bN f fd)->(∃f fd,aZ K Zai "closes" "Rule.closes" bZ f fd)->(∃f fd,aZ K Zaj "size" "Rule.size" dh f fd)->(∃f fd,aZ K Zaj "start" "Rule.start" bN f fd)->(∃f fd,aZ K Zad "start" "Rule.start" bN f fd)->(∃f fd,aZ K Zad "closes" "Rule.closes" bZ f fd)->(∃f fd,aZ K Zab "start" "Rule.start" bN f fd)->(∃f fd,aZ K Zak "start" "Rule.start" bN f fd)->(∃f fd,aZ K Zak "closes" "Rule.closes" bZ f fd)->(∃f fd,aZ K Zaj "after" "Rule.after" iH f fd)->(∃f fd,aZ K Zac "size" "Back.size" jq f fd)->(∃f fd,aZ K Zac "start" "Back.start" iD f fd)->(∃f fd,aZ K Zad "size" "Held.size" jr f fd)->(∃f fd,aZ K Zab "size" "Times.size" iJ f fd)->(∃f fd,aZ K Zak "size" "Every.size" iE f fd)->(∃f fd,aZ K Zae "after" "Span.after" iI f fd)->(∃f fd,aZ K Zaf "after" "Clock.after" gU f fd)->(∃f fd,aZ K Zag "after" "Move.after" iG f fd)->(∃f fd,aZ K Zah "after" "Alike.after" gQ f fd)->(∃f fd,aZ K Zac "closes" "Back.closes" gR f fd)->(∃f fd,aZ K Zac "after" "Back.after" iC f fd)->(∃f fd,aZ K Zad "after" "Held.after" iF f fd)->(∃f fd,aZ K Zab "closes" "Times.closes" gv f fd)->(∃f fd,aZ K Zab "after" "Times.after" gZ f fd)->(∃f fd,aZ K Zai "after" "Begin.after" gT f fd)->(∃f fd,aZ K Zaj "closes" "Close.closes" gs f fd)->(∃f fd,aZ K Zak "after" "Every.after" gW f fd)->(∃f fd,ke K "Span" "Span.__init__" fS Zae f fd)->(∃f fd,ke K "Clock" "Clock.__init__" fg Zaf f fd)->(∃f fd,ke K "Move" "Move.__init__" fQ Zag f fd)->(∃f fd,ke K "Alike" "Alike.__init__" fe Zah f fd)->(∃f fd,ke K "Back" "Back.__init__" fM Zac f fd)->(∃f fd,ke K "Held" "Held.__init__" fO Zad f fd)->(∃f fd,ke K "Times" "Times.__init__" fq Zab f fd)->(∃f fd,ke K "Begin" "Begin.__init__" ff Zai f fd)->(∃f fd,ke K "Close" "Close.__init__" fh Zaj f fd)->(∃f fd,ke K "Every" "Every.__init__" fj Zak f fd)->(∃f fd,br K "is_number" jv f fd)->(∃f fd,br K "has_list" ku f fd)->(∃f fd,br K "are_voices" iK f fd)->br K "span_of" mF Za4 Zbf->br K "clock_of" ko Za5 Zbg->br K "move_of" mD Za6 Zbh->br K "alike_of" kj Za7 Zbi->br K "back_of" my Za8 Zbj->br K "held_of" mB Za9 Zbk->br K "times_of" kC Zba Zbl->br K "begin_of" km Zbb Zbm->br K "close_of" kr Zbc Zbn->(∃f fd,br K "plain_rule" iR f fd)->(∃f fd,br K "every_rule" iL f fd)->(∃f fd u,zy K "read_rule" gK f fd u/\aX (.int 0) u)->(∃f fd,ke K "Score" "Score.__init__" fm Zam f fd)->(∃f fd,br K "weight" pe f fd)->(∃f fd,br K "not_too_wide" gx f fd)->(∃f fd,br K "voice_range" g7 f fd)->(∃f fd,br K "read" v9 f fd)->(∃f fd,br K "lengthened" iQ f fd)->(∃f fd,br K "columns" mz f fd)->(∃f fd,br K "memories_after" fw f fd)->(∃f fd,br K "all_close" ju f fd)->(∃C f fd,kJ K "States" "__init__" "States.__init__" eQ C f fd)->(∃f fd,aZ K Zaa "size" "States.size" gY f fd)->(∃f fd,aZ K Zaa "to" "States.to" jt f fd)->(∃f fd,aZ K Zaa "ends" "States.ends" gX f fd)->(∃f fd,aZ K Zaa "build" "Machine.build" fP f fd)->(∃f fd,ke K "Machine" "Machine.__init__" eB Zaa f fd)->(∃f fd,aZ K Zaa "walk" "Machine.walk" gu f fd)->(∃f fd,br K "_law_at" pd f fd)->(∃f fd,br K "_law_draws" jx f fd)->(∃f fd,br K "_law_ranges" iN f fd)->(∃f fd,br K "_law_columns" g6 f fd)->(∃f fd,br K "_law_some" kz f fd)->(∃f fd,br K "_law_pair_rule" fU f fd)->(∃f fd,br K "_law_voice_rule" fv f fd)->(∃f fd,br K "_law_rule" kx f fd)->(∃f fd,br K "_law_size" ky f fd)->(∃f fd,br K "_law_rules" jz f fd)->(∃f fd,br K "_law_row" mC f fd)->(∃f fd,br K "_law_text" kB f fd)->(∃f fd,br K "_law_span" kA f fd)->(∃f fd,br K "_law_pair_broken" eS f fd)->(∃f fd,br K "_law_turned_ill" fu f fd)->(∃f fd,br K "_law_broken" iM f fd)->(∃f fd,br K "_law_ill_close" fT f fd)->(∃f fd,br K "_law_fault" jy f fd)->(∃f fd,br K "_law_unbroken" gw f fd)->(∃f fd,br K "_law_line" kv f fd)->(∃f fd,br K "_law_cells" jw f fd)->(∃f fd,br K "_law_spoilt" iO f fd)->(∃f fd,br K "_law_whole" jA f fd)->(∃f fd,br K "_law_good_close" ft f fd)->(∃f fd,br K "_law_stands" iP f fd)->nsIn K mainGlobals "MAKERS"=some (↑a_MAKERS)->l6 K a_MAKERS D_MAKERS->KTD.datumAt ("span":Str) D_MAKERS=↑Za4->KTD.datumAt ("clock":Str) D_MAKERS=↑Za5->KTD.datumAt ("move":Str) D_MAKERS=↑Za6->KTD.datumAt ("alike":Str) D_MAKERS=↑Za7->KTD.datumAt ("back":Str) D_MAKERS=↑Za8->KTD.datumAt ("held":Str) D_MAKERS=↑Za9->KTD.datumAt ("times":Str) D_MAKERS=↑Zba->KTD.datumAt ("begin":Str) D_MAKERS=↑Zbb->KTD.datumAt ("close":Str) D_MAKERS=↑Zbc->nsIn K mainGlobals "INNER_KINDS"=some (↑a_INNER_KINDS)->zB K a_INNER_KINDS [.str "span",.str "clock"]->nsIn K mainGlobals "len"=some none->nsIn K mainGlobals "set"=some none->nsIn K mainGlobals "any"=some none->nsIn K mainGlobals "range"=some none->nsIn K mainGlobals "all"=some none->nsIn K mainGlobals "min"=some none->nsIn K mainGlobals "max"=some none->nsIn K mainGlobals "abs"=some none->nsIn K mainGlobals "tuple"=some none->nsIn K mainGlobals "list"=some none->nsIn K mainGlobals "isinstance"=some none->nsIn K mainGlobals "bool"=some none->nsIn K mainGlobals "int"=some none->nsIn K mainGlobals "str"=some none->nsIn K mainGlobals "divmod"=some none->nsIn K mainGlobals "enumerate"=some none->nsIn K mainGlobals "zip"=some none->nsIn K mainGlobals "reversed"=some none->(∃u,nsIn K mainGlobals "FIGURES"=some (some u)/\aX (.str "0123456789") u)->(∃u,nsIn K mainGlobals "MOST_FIGURES"=some (some u)/\aX (.int 40) u)->(∃u,nsIn K mainGlobals "MOST_VOICES"=some (some u)/\aX (.int 4) u)->(∃u,nsIn K mainGlobals "MOST_RULES"=some (some u)/\aX (.int 12) u)->(∃u,nsIn K mainGlobals "MOST_WEIGHT"=some (some u)/\aX (.int 400) u)->(∃u,nsIn K mainGlobals "MOST_NUMBERS"=some (some u)/\aX (.int 12) u)->(∃u,nsIn K mainGlobals "NO_LEAP"=some (some u)/\aX (.int 0) u)->(∃u,nsIn K mainGlobals "LEAP_UP"=some (some u)/\aX (.int 1) u)->(∃u,nsIn K mainGlobals "LEAP_DOWN"=some (some u)/\aX (.int 2) u)->(∃u,nsIn K mainGlobals "START"=some (some u)/\aX (.int 0) u)->(∃f fd,br K "law" rK f fd)->∃fd:FuncData,(∀(s:Shared) (v:Value),BindsTo s fd ⟨[v],[]⟩ [("_law_script",v)])/\∀base:Heap,K.In base->base.Ns mainGlobals mg->~~~aK bP 13 fa fd ["_law_script"] (xC K):=by
 intro Zbo Zbp Zbq Zbr Zbs Zbt Zbu Zbv Zbw Zbx Zby Zbz Zb0 Zb1 Zb2 Zb3 Zb4 Zb5 Zb6 Zb7 Zb8 Zb9 Zca Zcb Zcc Zcd Zce Zcf Zcg Zch Zci Zcj Zck Zcl Zcm Zcn Zco Zcp Zcq Zcr Zcs Zct Zcu Zcv Zcw Zcx Zcy Zcz Zc0 Zc1 Zc2 Zc3 Zc4 Zc5 Zc6 Zc7 Zc8 Zc9 Zda Zdb Zdc Zdd Zde Zdf Zdg Zdh Zdi Zdj Zdk Zdl Zdm Zdn Zdo Zdp Zdq Zdr Zds Zdt Zdu Zdv Zdw Zdx Zdy Zdz Zd0 Zd1 Zd2 Zd3 Zd4 Zd5 Zd6 Zd7 Zd8 Zd9 Zea Zeb Zec Zed Zee Zef Zeg Zeh Zei Zej Zek Zel Zem Zen Zeo Zep n_MAKERS t_MAKERS d_MAKERS_span d_MAKERS_clock d_MAKERS_move d_MAKERS_alike d_MAKERS_back d_MAKERS_held d_MAKERS_times d_MAKERS_begin d_MAKERS_close n_INNER_KINDS q_INNER_KINDS z_len z_set z_any z_range z_all z_min z_max z_abs z_tuple z_list z_isinstance z_bool z_int z_str z_divmod z_enumerate z_zip z_reversed g_FIGURES g_MOST_FIGURES g_MOST_VOICES g_MOST_RULES g_MOST_WEIGHT g_MOST_NUMBERS g_NO_LEAP g_LEAP_UP g_LEAP_DOWN g_START Zeq;rcases Zbo,Zbp,Zbq,Zbr,Zbs,Zbt,Zbu,Zbv,Zbw,Zbx,Zbz,Zb0,Zb1,Zb2,Zb3,Zb4,Zb5,Zb6,Zb7,Zb8,Zb9,Zca,Zcb,Zcc,Zcd,Zce,Zcf,Zcg,Zch,Zci,Zcj,Zck,Zcl,Zcm,Zcn,Zco,Zcp,Zcq,Zcr,Zcs,Zct,Zcu,Zcv,Zcw,Zcx,Zcy,Zcz,Zc0,Zc1,Zc2,Zc3,Zc4,Zc5,Zc6,Zc7,Zc8,Zdi,Zdj,Zdk,Zdl,Zdm,Zdn,Zdo,Zdp,Zdq,Zdr,Zds,Zdt,Zdu,Zdv,Zdw,Zdx,Zdy,Zdz,Zd0,Zd1,Zd2,Zd3,Zd4,Zd5,Zd6,Zd7,Zd8,Zd9,Zea,Zeb,Zec,Zed,Zee,Zef,Zeg,Zeh,Zei,Zej,Zek,Zel,Zem,Zen,Zeo,Zep,g_FIGURES,g_MOST_FIGURES,g_MOST_VOICES,g_MOST_RULES,g_MOST_WEIGHT,g_MOST_NUMBERS,g_NO_LEAP,g_LEAP_UP,g_LEAP_DOWN,g_START,Zeq with⟨⟨_,_,Zfl⟩,⟨_,_,Zfn⟩,⟨_,_,Zfp⟩,⟨_,_,_,Zfr⟩,⟨_,_,Zft⟩,⟨_,_,Zfv⟩,⟨_,_,Zfx⟩,⟨_,_,Zfz⟩,⟨_,_,Zf1⟩,⟨_,_,Zf3⟩,⟨_,_,Zf7⟩,⟨_,_,Zf9⟩,⟨_,_,Zgb⟩,⟨_,_,Zgd⟩,⟨_,_,Zgf⟩,⟨_,_,Zgh⟩,⟨_,_,Zgj⟩,⟨_,_,Zgl⟩,⟨_,_,Zgn⟩,⟨_,_,Zgp⟩,⟨_,_,Zgr⟩,⟨_,_,Zgt⟩,⟨_,_,Zgv⟩,⟨_,_,Zgx⟩,⟨_,_,Zgz⟩,⟨_,_,Zg1⟩,⟨_,_,Zg3⟩,⟨_,_,Zg5⟩,⟨_,_,Zg7⟩,⟨_,_,Zg9⟩,⟨_,_,Zhb⟩,⟨_,_,Zhd⟩,⟨_,_,Zhf⟩,⟨_,_,Zhh⟩,⟨_,_,Zhj⟩,⟨_,_,Zhl⟩,⟨_,_,Zhn⟩,⟨_,_,Zhp⟩,⟨_,_,Zhr⟩,⟨_,_,Zht⟩,⟨_,_,Zhv⟩,⟨_,_,Zhx⟩,⟨_,_,Zhz⟩,⟨_,_,Zh1⟩,⟨_,_,Zh3⟩,⟨_,_,Zh5⟩,⟨_,_,Zh7⟩,⟨_,_,Zh9⟩,⟨_,_,Zib⟩,⟨_,_,Zid⟩,⟨_,_,Zif⟩,⟨_,_,Zih⟩,⟨_,_,Zij⟩,⟨_,_,Zil⟩,⟨_,_,Zin⟩,⟨_,_,Zip⟩,⟨_,_,Zir⟩,⟨_,_,Zit⟩,⟨Ze1,Ze2,Zlb,Ze3,Zlc⟩,⟨_,_,Zix⟩,⟨_,_,Ziz⟩,⟨_,_,Zi1⟩,⟨_,_,Zi3⟩,⟨_,_,Zi5⟩,⟨_,_,Zi7⟩,⟨_,_,Zi9⟩,⟨_,_,Zjb⟩,⟨_,_,Zjd⟩,⟨_,_,_,Zjf⟩,⟨_,_,Zjh⟩,⟨_,_,Zjj⟩,⟨_,_,Zjl⟩,⟨_,_,Zjn⟩,⟨_,_,Zjp⟩,⟨_,_,Zjr⟩,⟨_,_,Zjt⟩,⟨_,_,Zjv⟩,⟨_,_,Zjx⟩,⟨_,_,Zjz⟩,⟨_,_,Zj1⟩,⟨_,_,Zj3⟩,⟨_,_,Zj5⟩,⟨_,_,Zj7⟩,⟨_,_,Zj9⟩,⟨_,_,Zkb⟩,⟨_,_,Zbd⟩,⟨_,_,Zkd⟩,⟨_,_,Zkf⟩,⟨_,_,Zkh⟩,⟨_,_,Zkj⟩,⟨_,_,Zkl⟩,⟨_,_,Zkn⟩,⟨_,_,Zkp⟩,⟨_,_,Zkr⟩,⟨_,_,Zkt⟩,⟨_,_,Zkv⟩,⟨_,_,Zkx⟩,⟨_,_,Zkz⟩,⟨_,_,Zk1⟩,⟨_,_,Zk3⟩,⟨_,g_FIGURES,r_FIGURES⟩,⟨_,g_MOST_FIGURES,r_MOST_FIGURES⟩,⟨_,g_MOST_VOICES,r_MOST_VOICES⟩,⟨_,g_MOST_RULES,r_MOST_RULES⟩,⟨_,g_MOST_WEIGHT,r_MOST_WEIGHT⟩,⟨_,g_MOST_NUMBERS,r_MOST_NUMBERS⟩,⟨_,g_NO_LEAP,r_NO_LEAP⟩,⟨_,g_LEAP_UP,r_LEAP_UP⟩,⟨_,g_LEAP_DOWN,r_LEAP_DOWN⟩,⟨_,g_START,r_START⟩,⟨_,_,Zer⟩⟩;have Zf4:=Zf3.fn
 obtain⟨Zow,Zox,Zf5⟩:=Zby
 obtain⟨Zrm,Zrn,Zro,Za0,Ziv,Ziw⟩:=Ze3.fn;have e:=hfa.symm.trans (mg_of X G Zer.ns);cases e;have T:Txt mg a_MAKERS:={ n_len:=mg_none_of X G z_len,n_set:=mg_none_of X G z_set,n_any:=mg_none_of X G z_any,n_range:=mg_none_of X G z_range,n_all:=mg_none_of X G z_all,n_min:=mg_none_of X G z_min,n_max:=mg_none_of X G z_max,n_abs:=mg_none_of X G z_abs,n_tuple:=mg_none_of X G z_tuple,n_list:=mg_none_of X G z_list,n_isinstance:=mg_none_of X G z_isinstance,n_bool:=mg_none_of X G z_bool,n_int:=mg_none_of X G z_int,n_str:=mg_none_of X G z_str,n_divmod:=mg_none_of X G z_divmod,n_enumerate:=mg_none_of X G z_enumerate,n_zip:=mg_none_of X G z_zip,n_reversed:=mg_none_of X G z_reversed,g_FIGURES:=⟨_,mg_of X G g_FIGURES,r_FIGURES⟩,g_MOST_FIGURES:=⟨_,mg_of X G g_MOST_FIGURES,r_MOST_FIGURES⟩,g_MOST_VOICES:=⟨_,mg_of X G g_MOST_VOICES,r_MOST_VOICES⟩,g_MOST_RULES:=⟨_,mg_of X G g_MOST_RULES,r_MOST_RULES⟩,g_MOST_WEIGHT:=⟨_,mg_of X G g_MOST_WEIGHT,r_MOST_WEIGHT⟩,g_MOST_NUMBERS:=⟨_,mg_of X G g_MOST_NUMBERS,r_MOST_NUMBERS⟩,g_NO_LEAP:=⟨_,mg_of X G g_NO_LEAP,r_NO_LEAP⟩,g_LEAP_UP:=⟨_,mg_of X G g_LEAP_UP,r_LEAP_UP⟩,g_LEAP_DOWN:=⟨_,mg_of X G g_LEAP_DOWN,r_LEAP_DOWN⟩,g_START:=⟨_,mg_of X G g_START,r_START⟩,g_MAKERS:=⟨_,mg_of X G n_MAKERS,rfl⟩ };have TE_INNER_KINDS:FN mg a_MAKERS a_INNER_KINDS:={ T with g_INNER_KINDS:=⟨_,mg_of X G n_INNER_KINDS,rfl⟩ };obtain⟨oc,od,kV,doc,pm,an,cdv,ct,osl,rfl,lk,hcd⟩:=Zer.fn.ex;refine⟨fnOf "law" "law" (cz rK) (bX rK) (ak rK) .none kV doc pm an cdv ct,λs v=>.of_eq rfl,λbase _ _=>?_⟩;have Za1: ~~~cy _ _ _ _:=Zfl.df X G (vS Zfl.fn) Zfl.fn.b2;have Ze4: ~~~cy _ _ _ _:=Zfn.df X G (C7 Zfn.fn Za1) Zfn.fn.b3;have Ze5: ~~~cy _ _ _ _:=Zfp.df X G (C1 Zfp.fn Za1) Zfp.fn.b3;have Zaq: ~~~i5 _ _ _ _ _:=Zfr.df X G (sQ Zfr.fn) Zfr.fn.b2;have Zl2:∀(row:Str) (a c:Int),~~~aG Zad "size" 1 ["self"] (pN (gi Zad row a c) (.int c)):=λrow a c=>Zg7.ok Zao.cl (sN Zg7.fn Zao) Zg7.fn.b1;have Zl3:∀(row:Str) (a c d e:Int),~~~aG Zab "size" 1 ["self"] (pN (du Zab row a c d e) (.int (e+1))):=λrow a c d e=>Zg9.ok Zan.cl (qw Zg9.fn Zan) Zg9.fn.b1;have Zl4:∀(row:Str) (t u:Int) (RIn:mV),~~~aG Zak "size" 1 ["self"] (pN (fB Zak row t u RIn) (.int t)):=λrow t u RIn=>Zhb.ok Zap.cl (qk Zhb.fn Zap) Zhb.fn.b1;have Zl5:∀(row:Str) (a b:Int) (D:List Int) (nv:Nat) (_:1<=a/\a<=nv) (_:1<=b/\b<=nv),~~~aG Zae "after" 3 ["self","memory","before","column"] (bz K nv (i9 Zae row a b D) (fE a b D) λ_=>True):=λrow a b D nv ha hb=>Zhd.ok Zar.cl (qu Zhd.fn T Zar ha hb Ze4) Zhd.fn.b4;have Zl6:∀(row:Str) (a b c:Int) (D:List Int) (nv:Nat) (_:1<=a/\a<=nv) (_:1<=b/\b<=nv) (_:1<=c),~~~aG Zaf "after" 3 ["self","memory","before","column"] (bz K nv (gE Zaf row a b c D) (ef a b c D) λ_=>True):=λrow a b c D nv ha hb hc=>Zhf.ok Zas.cl (oP Zhf.fn T Zas ha hb hc Ze4) Zhf.fn.b4;have Zl7:∀(row:Str) (a:Int) (D:List Int) (nv:Nat) (_:1<=a/\a<=nv),~~~aG Zag "after" 3 ["self","memory","before","column"] (bz K nv (i8 Zag row a D) (f6 a D) λ_=>True):=λrow a D nv ha=>Zhh.ok Zat.cl (qm Zhh.fn T Zat ha Ze5) Zhh.fn.b4;have Zl8:∀(row:Str) (a b:Int) (D:List Int) (nv:Nat) (_:1<=a/\a<=nv) (_:1<=b/\b<=nv),~~~aG Zah "after" 3 ["self","memory","before","column"] (bz K nv (gC Zah row a b D) (eT a b D) λ_=>True):=λrow a b D nv ha hb=>Zhj.ok Zau.cl (oM Zhj.fn T Zau ha hb Ze5 Ze4) Zhj.fn.b4;have Zl9:∀(row:Str) (a c:Int) (nv:Nat),~~~aG Zac "closes" 1 ["self","memory","last"] (eh K nv (gh Zac row a c) (dz a c) lq):=λrow a c nv=>Zhl.ok Zav.cl (oN Zhl.fn T) Zhl.fn.b3;have Zma:∀(row:Str) (a c:Int) (nv:Nat) (_:1<=a/\a<=nv),~~~aG Zac "after" 3 ["self","memory","before","column"] (bz K nv (gh Zac row a c) (dz a c) lq):=λrow a c nv ha=>Zhn.ok Zav.cl (qb Zhn.fn T Zav ha Ze5) Zhn.fn.b4;have Zmb:∀(row:Str) (a c:Int) (nv:Nat) (_:1<=a/\a<=nv),~~~aG Zad "after" 3 ["self","memory","before","column"] (bz K nv (gi Zad row a c) (eo a c) (rC c)):=λrow a c nv ha=>Zhp.ok Zao.cl (ql Zhp.fn T Zao ha (Za1.up ∅)) Zhp.fn.b4;have Zmc:∀(row:Str) (a c d e:Int) (nv:Nat),~~~aG Zab "closes" 1 ["self","memory","last"] (eh K nv (du Zab row a c d e) (cW a c d e) (lu e)):=λrow a c d e nv=>Zhr.ok Zan.cl (nr Zhr.fn Zan) Zhr.fn.b3;have Zmd:∀(row:Str) (a c d e:Int) (nv:Nat) (_:1<=a/\a<=nv),~~~aG Zab "after" 3 ["self","memory","before","column"] (bz K nv (du Zab row a c d e) (cW a c d e) (lu e)):=λrow a c d e nv ha=>Zht.ok Zan.cl (oS Zht.fn T Zan ha (Za1.up ∅)) Zht.fn.b4;have Zme:∀(row:Str) (a:Int) (D:List Int) (nv:Nat) (_:1<=a/\a<=nv),~~~aG Zai "after" 3 ["self","memory","before","column"] (bz K nv (gD Zai row a D) (ee a D) λ_=>True):=λrow a D nv ha=>Zhv.ok Zaw.cl (oO Zhv.fn T Zaw ha (Za1.up ∅)) Zhv.fn.b4;have Zmf:∀(row:Str) (a:Int) (D:List Int) (nv:Nat) (_:1<=a/\a<=nv),~~~aG Zaj "closes" 3 ["self","memory","last"] (eh K nv (gF Zaj row a D) (eU a D) λ_=>True):=λrow a D nv ha=>Zhx.ok Zax.cl (nq Zhx.fn T Zax ha (Za1.up ∅)) Zhx.fn.b3;have Zmg:∀(row:Str) (t u:Int) (nv:Nat) (Cn:Addr) (S:bS) (RIn:mV) (G:Int->Prop) (_:0 < t) (_: ~~~bt 4 nv Cn S RIn G),~~~aG Zak "after" 5 ["self","memory","before","column"] (bz K nv (fB Zak row t u RIn) (eV t u S) (oF t)):=λrow t u nv Cn S RIn G ht R=>Zhz.ok Zap.cl (oQ Zhz.fn T Zap ht R) Zhz.fn.b4;have Ze6: ~~~cy _ _ _ _:=Zil.df X G (yP Zil.fn T) Zil.fn.b1;have Za2: ~~~cy _ _ _ _:=Zin.df X G (uE Zin.fn T) Zin.fn.b2;have Zay: ~~~cy _ _ _ _:=Zip.df X G (qy Zip.fn T) Zip.fn.b2;have Zms: ~~~fF _ _ _ _:=⟨Zbf,(vT Zc9.fn T (Za2.up ∅) (Zay.up ∅) (Zh1.df X G (sR Zh1.fn T Zar Zaq) Zh1.fn.b5)),Zc9.fn.kp,Zc9.fn.b3⟩;have Zmu: ~~~fF _ _ _ _:=⟨Zbg,(uC Zda.fn T (Za2.up ∅) (Zay.up ∅) (Zh3.df X G (qg Zh3.fn T Zas Zaq) Zh3.fn.b6)),Zda.fn.kp,Zda.fn.b3⟩;have Zmw: ~~~fF _ _ _ _:=⟨Zbh,(vR Zdb.fn T (Za2.up ∅) (Zay.up ∅) (Zh5.df X G (sP Zh5.fn T Zat Zaq) Zh5.fn.b4)),Zdb.fn.kp,Zdb.fn.b3⟩;have Zmy: ~~~fF _ _ _ _:=⟨Zbi,(uA Zdc.fn T (Za2.up ∅) (Zay.up ∅) (Zh7.df X G (qa Zh7.fn T Zau Zaq) Zh7.fn.b5)),Zdc.fn.kp,Zdc.fn.b3⟩;have Zm0: ~~~fF _ _ _ _:=⟨Zbj,(vO Zdd.fn T (Zay.up ∅) (Zh9.df X G (sJ Zh9.fn T Zav Zaq) Zh9.fn.b4)),Zdd.fn.kp,Zdd.fn.b3⟩;have Zm2: ~~~fF _ _ _ _:=⟨Zbk,(vQ Zde.fn T (Zay.up ∅) (Zib.df X G (sM Zib.fn T Zao Zaq) Zib.fn.b4)),Zde.fn.kp,Zde.fn.b3⟩;have Zm4: ~~~fF _ _ _ _:=⟨Zbl,(uF Zdf.fn T (Zay.up ∅) (Zid.df X G (qv Zid.fn T Zan Zaq) Zid.fn.b6)),Zdf.fn.kp,Zdf.fn.b3⟩;have Zm6: ~~~fF _ _ _ _:=⟨Zbm,(uB Zdg.fn T (Za2.up ∅) (Zay.up ∅) (Zif.df X G (qf Zif.fn T Zaw Zaq) Zif.fn.b4)),Zdg.fn.kp,Zdg.fn.b3⟩;have Zm8: ~~~fF _ _ _ _:=⟨Zbn,(uD Zdh.fn T (Za2.up ∅) (Zay.up ∅) (Zih.df X G (qh Zih.fn T Zax Zaq) Zih.fn.b4)),Zdh.fn.kp,Zdh.fn.b3⟩;have Ze7: ~~~cy _ _ _ _:=Zir.df X G (qC Zir.fn T (Ze6.up ∅)) Zir.fn.b2;have Zk5: ~~~aK _ _ _ _ _ _:=yR (qE Za0 T (Ze7.up ∅)) (qD Za0 T (Ze7.up ∅) (Zit.df X G (qA Zit.fn TE_INNER_KINDS q_INNER_KINDS (Ze6.up ∅) Ze7 ((Zij.df X G (qj Zij.fn T Zap Zaq) Zij.fn.b5).up ∅)) Zit.fn.b2)) t_MAKERS (Gb d_MAKERS_span (Zms.up ∅) (λrow a b D nv ha hb=>By Zar ((Zft.ok Zar.cl (dS Zft.fn) Zft.fn.b1).up ∅) ((Zfv.ok Zar.cl (bY Zfv.fn) Zfv.fn.b1).up ∅) ((Zfx.ok Zar.cl (cI Zfx.fn) Zfx.fn.b3).up ∅) ((Zl5 row a b D nv ha hb).up ∅)) d_MAKERS_clock (Zmu.up ∅) (λrow a b c D nv ha hb hc=>yh Zas ((Zfz.ok Zas.cl (dS Zfz.fn) Zfz.fn.b1).up ∅) ((Zf1.ok Zas.cl (bY Zf1.fn) Zf1.fn.b1).up ∅) ((Zf3.ok Zas.cl (cI Zf4) Zf4.b3).up ∅) ((Zl6 row a b c D nv ha hb hc).up ∅)) d_MAKERS_move (Zmw.up ∅) (λrow a D nv ha=>AG Zat ((Zf5.ok Zat.cl (dS Zf5.fn) Zf5.fn.b1).up ∅) ((Zf7.ok Zat.cl (bY Zf7.fn) Zf7.fn.b1).up ∅) ((Zf9.ok Zat.cl (cI Zf9.fn) Zf9.fn.b3).up ∅) ((Zl7 row a D nv ha).up ∅)) d_MAKERS_alike (Zmy.up ∅) (λrow a b D nv ha hb=>xY Zau ((Zgb.ok Zau.cl (dS Zgb.fn) Zgb.fn.b1).up ∅) ((Zgd.ok Zau.cl (bY Zgd.fn) Zgd.fn.b1).up ∅) ((Zgf.ok Zau.cl (cI Zgf.fn) Zgf.fn.b3).up ∅) ((Zl8 row a b D nv ha hb).up ∅)) d_MAKERS_back (Zm0.up ∅) (λrow a c nv ha _=>zI Zav ((Zg3.ok Zav.cl (sL Zg3.fn) Zg3.fn.b1).up ∅) ((Zg5.ok Zav.cl (qe Zg5.fn T) Zg5.fn.b1).up ∅) ((Zl9 row a c nv).up ∅) ((Zma row a c nv ha).up ∅)) d_MAKERS_held (Zm2.up ∅) (λrow a c nv ha c1=>Aa c1 Zao ((Zl2 row a c).up ∅) ((Zgr.ok Zao.cl (bY Zgr.fn) Zgr.fn.b1).up ∅) ((Zgt.ok Zao.cl (cI Zgt.fn) Zgt.fn.b3).up ∅) ((Zmb row a c nv ha).up ∅)) d_MAKERS_times (Zm4.up ∅) (λrow a c d e nv ha e1=>zi e1 Zan ((Zl3 row a c d e).up ∅) ((Zgv.ok Zan.cl (bY Zgv.fn) Zgv.fn.b1).up ∅) ((Zmc row a c d e nv).up ∅) ((Zmd row a c d e nv ha).up ∅)) d_MAKERS_begin (Zm6.up ∅) (λrow a D nv ha=>x6 Zaw ((Zgh.ok Zaw.cl (dS Zgh.fn) Zgh.fn.b1).up ∅) ((Zgj.ok Zaw.cl (bY Zgj.fn) Zgj.fn.b1).up ∅) ((Zgl.ok Zaw.cl (cI Zgl.fn) Zgl.fn.b3).up ∅) ((Zme row a D nv ha).up ∅)) d_MAKERS_close (Zm8.up ∅) (λrow a D nv ha=>yk Zax ((Zgn.ok Zax.cl (dS Zgn.fn) Zgn.fn.b1).up ∅) ((Zgp.ok Zax.cl (bY Zgp.fn) Zgp.fn.b1).up ∅) ((Zg1.ok Zax.cl (qq Zg1.fn) Zg1.fn.b4).up ∅) ((Zmf row a D nv ha).up ∅))) (λrow t u nv Cn S RIn G ht R=>yw ht Zap R ((Zl4 row t u RIn).up ∅) ((Zgx.ok Zap.cl (bY Zgx.fn) Zgx.fn.b1).up ∅) ((Zgz.ok Zap.cl (cI Zgz.fn) Zgz.fn.b3).up ∅) ((Zmg row t u nv Cn S RIn G ht R).up ∅));have Zna: ~~~cy _ _ _ _:=⟨Ze1,Ze2,Zk5,mg_of X G Ze3.ns,Za0.kp,Za0.binds Ziv Ziw λ_ _ _ _ _ _ us hl=>match us,hl with | [_,_,_],_=>⟨_,rfl,rfl⟩⟩;have Zt0: ~~~G5 "read_rule" 10 ["text","voices","row"] (~~~jD) [(.int 0)]:=⟨Ze1,Ze2,[Zlb],Zk5,mg_of X G Ze3.ns,Za0.kp,Za0.bindsD Ziv Ziw λ_ _ _ _ _ _ us hl=>match us,hl with | [_,_],_=>⟨_,rfl,rfl⟩,.cons Zlc .nil⟩;have Zk6: ~~~aG _ _ _ _ _:=Zjj.ok Zal.cl (Gf Zjj.fn T Zal) Zjj.fn.b3;have Zbe: ~~~cy _ _ _ _:=Zjt.df X G (Ge Zjt.fn T) Zjt.fn.b2;have Ze8: ~~~cy _ _ _ _:=Zjv.df X G (AU Zjv.fn T) Zjv.fn.b2;have Zk7: ~~~cy _ _ _ _:=Zjz.df X G (C2 Zjz.fn T) Zjz.fn.b1;have Zk8: ~~~cy _ _ _ _:=Zj1.df X G (C6 Zj1.fn T) Zj1.fn.b3;have R0: ~~~cy "_law_row" 2 ["_law_rule_here"] (zd Fw):=Zbd.df X G EI Zbd.fn.b1;have R1: ~~~cy "_law_row" 3 ["_law_rule_here"] (zd (kS Fw)):=Zbd.df X G (AY (λ_ _ _ _ _ h=>h) Zbd.fn T R0) Zbd.fn.b1;have Zk9: ~~~cy _ _ _ _:=Zkl.df X G (yO Zkl.fn T (Zkh.df X G (oT Zkh.fn T (Zkf.df X G (AW Zkf.fn T) Zkf.fn.b2)) Zkh.fn.b3) ((Zkj.df X G (yU Zkj.fn T) Zkj.fn.b3).up ∅)) Zkl.fn.b3;have Zla: ~~~cy _ _ _ _:=Zkn.df X G (EJ Zkn.fn T) Zkn.fn.b2;exact EK Zer.fn T (Zbe.up ∅) ((Zjx.df X G (yQ Zjx.fn T Zbe Ze8) Zjx.fn.b2).up ∅) ((Zkb.df X G (AZ Zkb.fn T (Zbe.up ∅) (Zk7.up ∅) (Zj7.df X G (C4 Zj7.fn T (Ze8.up ∅) (Zj3.df X G (sV Zj3.fn T Zk8) Zj3.fn.b3) (Zj5.df X G (qF Zj5.fn T Zk8) Zj5.fn.b3)) Zj7.fn.b2) ((Zj9.df X G (C5 Zj9.fn T) Zj9.fn.b1).up ∅)) Zkb.fn.b3).up ∅) ((Zkv.df X G (AS Zkv.fn T Zbe Ze8) Zkv.fn.b3).up ∅) ((Zkt.df X G (C0 Zkt.fn T (Zk7.up ∅) (Zkr.df X G (uG Zkr.fn T Zk9) Zkr.fn.b4)) Zkt.fn.b4).up ∅) ((Zkx.df X G (yS Zkx.fn T) Zkx.fn.b2).up ∅) ((Zkd.df X G (A3 Zkd.fn T (Zbd.df X G (AY (kS.same λ_ _ _ _ _ h=>h) Zbd.fn T R1) Zbd.fn.b1)) Zkd.fn.b2).up ∅) ((Zi5.df X G (C3 Zi5.fn T Zaz ((Zi3.df X G (oU Zi3.fn T Ze6) Zi3.fn.b1).up ∅) Zna ((Zix.df X G (qr Zix.fn T Zaz) Zix.fn.b3).up ∅) ((Zi1.df X G ((nu Zi1.fn T (Ziz.df X G (yV Ziz.fn T Zaz) Ziz.fn.b1)).imp yL) Zi1.fn.b1).up ∅)) Zi5.fn.b1).up ∅) (Zjp.df X G (sO Zjp.fn T Zal Zaz ((Zjf.df X G (oR Zjf.fn T Zal) Zjf.fn.b1).up ∅) ((Zi9.df X G (vP Zi9.fn T Zaz (Zi7.df X G (qB Zi7.fn T) Zi7.fn.b3)) Zi9.fn.b1).up ∅) (Zjn.ok Zal.cl (AR Zjn.fn T Zal Zaz ((Zjb.df X G (sU Zjb.fn T) Zjb.fn.b4).up ∅) ((Zjd.df X G (sS Zjd.fn T) Zjd.fn.b3).up ∅)) Zjn.fn.b4)) Zjp.fn.b2) ((Zkp.df X G (AV Zkp.fn T Zk9 (Zla.up ∅)) Zkp.fn.b3).up ∅) (Zk6.up ∅) ((Zjr.ok Zal.cl (C8 Zjr.fn T Zk6) Zjr.fn.b2).up ∅) ((Zk1.df X G (CZ Zk1.fn T Zla) Zk1.fn.b2).up ∅) ((Zk3.df X G (yT Zk3.fn T (Zjh.ok Zal.cl (AX Zjh.fn T Zal) Zjh.fn.b1) (Zjl.ok Zal.cl (CY Zjl.fn T Zal) Zjl.fn.b2) (Zkz.df X G (A4 Zkz.fn T) Zkz.fn.b1)) Zk3.fn.b4).up ∅)
theorem walk{l:PySem.W.OpenLaw}{q:Program}{loose:List Str}{XP:(Str->Option Value)->Heap->Prop}{YP:World->Heap->Prop}{d:DefRec}{K:Params->Frag}(hn:l.most=some 63)(hdf:d.params.defaults=[])
  (hY:∀(w:World) (h:Heap),YP w h->(K w.params).In h)
  (F:∀(w:World) (mg:Str->Option Value) (fa:Addr) (h:Heap),(K w.params).In h->h.Ns mainGlobals mg->mg d.name=↑fa->
   ∃fd:FuncData,(∀(s:Shared) (u:Value),BindsTo s fd ⟨[u],[]⟩ [("_law_script",u)])/\∀base:Heap,(K w.params).In base->base.Ns mainGlobals mg->aK l.prog w (K w.params) mg base bP 13 fa fd ["_law_script"] (xC (K w.params))) :
  PySem.W.WalkO q loose XP YP l.row.toRowW d [] (λf vs=>PySem.call f vs):=
 L2.walk_ofB (n:=63) (k:=13) (x:="_law_script") (CX:=λ_=>bP) (sp:=λw=>xC (K w.params)) hn ∅ hdf ⟨rfl,∅,∅⟩ hY F (λ_ _ a ns hl hb _ hS=>⟨a,ns,rfl,hS,hb,hl,λ_=>rfl⟩) λ_ _ _ _ _ z=>z
end K32
namespace PySem.W.Fast
abbrev N:=Nat
def tw3266588549142349824:=N
def tw3512013748918111388:=N
def tw7826378325782473728:=N
def tw11792387918351872000:=N
def tw1921968017547479040:=N
def tw11658955612661180416:=N
def tw2437012137872340057:=N
def tw15273429975116616345:=N
def tw3810811676247896105:=N
def tw16803446660092459084:=N
def tw14581950517751072960:=N
def tw15098014570629170359:=N
def tw184959622271730912:=N
def tw3585656808183268576:=N
def tw15835491477721006113:=N
def tw4852459935450134784:=N
def tw5772303045455783200:=N
def tw7111970819595937304:=N
def tw7852685772735665440:=N
def tw17672712017569258816:=N
def tw9051305237371678016:=N
def tw5646459391268353344:=N
def tw3151236784252850528:=N
def tw7160043283231602048:=N
def tw9626234975810876832:=N
def tw17146210987318096695:=N
def tw18374959026327726528:=N
def tw1252553393528254912:=N
def tw5914286010669010400:=N
def tw10797339548174158635:=N
def tw2992741732043072077:=N
def tw2537453089414146528:=N
def tw7562171181842626080:=N
def tw7462163854041541104:=N
def tw15047183828875249248:=N
def tw3378095586368983680:=N
def tw12826773421277093504:=N
def tw3391045718733939328:=N
def tw14970594508050947784:=N
def tw17897999747833211552:=N
def tw3931382984390787776:=N
def tw1101956873305380751:=N
def tw16564947804111691520:=N
def tw9506643679958915053:=N
def tw2381612088615171354:=N
def tw13363963312358366112:=N
def tw14916690101255946100:=N
def tw691727772336860889:=N
def tw7087496611203443660:=N
def tw2587987718092211694:=N
def tw14873671796435253966:=N
def tw8521166468847647777:=N
def tw3471213598912470508:=N
def tw13870760015047305281:=N
def tw10144241081883399233:=N
def tw9022127736259204193:=N
def tw5585764482531652705:=N
def tw2717934073090638977:=N
def tw1052048178078589057:=N
def tw12484759298869700904:=N
def tw4363545926558004353:=N
def tw299694618789176449:=N
def tw15316264252960301217:=N
def tw12077299454284434511:=N
def tw14744244348488608961:=N
def tw2744439323646571480:=N
def tw9360016256490813665:=N
def tw12534939685385674569:=N
def tw9755545557131994369:=N
def tw12723561291493659379:=N
def tw8127475624435118337:=N
def tw3430611676228516097:=N
def tw12951000777978584353:=N
def tw11447821743632518889:=N
def tw16868416235117327399:=N
def tw12602061046431077878:=N
def tw3571003844469900737:=N
def tw3333122547078742279:=N
def tw13727841734617301473:=N
def tw10130663636793655777:=N
def tw7282402128736444897:=N
def tw9695413942668128737:=N
def tw7150968976721245665:=N
def tw7284728944053645608:=N
def tw2847979645935414785:=N
def tw6658867470065682759:=N
def tw12228674485778747969:=N
def tw4017396685598900801:=N
def tw9445102790411893164:=N
def tw5486217302922462817:=N
def tw7255982911728218721:=N
def tw8131409675838026337:=N
def tw16503399779133671041:=N
def tw16588257643309456001:=N
def tw14104296246340559521:=N
def tw6521611835202464730:=N
def tw12898492542469483201:=N
def tw17896955725290062529:=N
def tw11772998905320019106:=N
def tw3391086036289485537:=N
def tw7548875782419308889:=N
def tw15727180094267074468:=N
def tw15982478001167385345:=N
def tw4130997008517625619:=N
def tw18439920312203808545:=N
def tw14962192203328068851:=N
def tw5359593040237172310:=N
def tw3588801514422529825:=N
def tw11775047365852817005:=N
def tw230804251102950305:=N
def tw217560543009175457:=N
def tw2500089985394472842:=N
def tw15399322367280761793:=N
def tw17366333108218597801:=N
def tw14951559240694989793:=N
def tw17774708420540370978:=N
def tw9349070995133109282:=N
def tw1483461576305003131:=N
def tw8282552924403142251:=N
def tw6273285252292321346:=N
def tw12613753385141614658:=N
def tw14552938922775967810:=N
def tw7596761144379984994:=N
def tw5707829548373532770:=N
def tw15832083761210351714:=N
def tw3820495839519018146:=N
def tw7840910115627213986:=N
def tw2244292761718206658:=N
def tw7113580994795488450:=N
def tw2764377819787116261:=N
def tw5327207433514203362:=N
def tw16766857641797057794:=N
def tw1342111660047454319:=N
def tw5089133505970200866:=N
def tw13994763830590890274:=N
def tw5161881976095707620:=N
def tw15462369357260054850:=N
def tw7591943886202395970:=N
def tw9246859543117586478:=N
def tw16431965630082078082:=N
def tw6950215424379929351:=N
def tw5787820709449665238:=N
def tw5667106358010626220:=N
def tw983488007646264757:=N
def tw17705699549118327994:=N
def tw7345253874934715481:=N
def tw1753128554349383352:=N
def tw6971358894391039458:=N
def tw9891948617591530978:=N
def tw10732726753936188764:=N
def tw15861477384146065954:=N
def tw9773481261785784866:=N
def tw5798488780354179194:=N
def tw10240500553182791202:=N
def tw4017342658844084770:=N
def tw9168116606398976190:=N
def tw4341401089115034242:=N
def tw13899270928638859906:=N
def tw12589216422028750466:=N
def tw246008406285291214:=N
def tw7541678195246177725:=N
def tw10749669128864694065:=N
def tw13464550114305832031:=N
def tw13879779519262740226:=N
def tw11223172189322386215:=N
def tw3794023624349025090:=N
def tw3870373734635672418:=N
def tw6394956567393717122:=N
def tw17452941578156212519:=N
def tw2299970115103495074:=N
def tw13050468064174607468:=N
def tw12977650852755619903:=N
def tw3847313411642579396:=N
def tw14738145973828453314:=N
def tw18390735731690072034:=N
def tw8146463113296005010:=N
def tw12041740600475877443:=N
def tw9788814307889872963:=N
def tw8579421820438002084:=N
def tw12913910403107039373:=N
def tw17244132675475266691:=N
def tw4292819436906692312:=N
def tw4532792284583644316:=N
def tw5985227887550706452:=N
def tw2499061074049377022:=N
def tw1735975912101017795:=N
def tw13079190340978902243:=N
def tw1044042643673745667:=N
def tw7684261704737467287:=N
def tw6504885265636659491:=N
def tw14995678511171746840:=N
def tw15438398046494955811:=N
def tw1445980452941536547:=N
def tw8052532338531674403:=N
def tw15905350085895740707:=N
def tw5970093771615733059:=N
def tw4564812434696686915:=N
def tw9767574330117740867:=N
def tw14973806459902777935:=N
def tw17858928565812126904:=N
def tw543461420345571779:=N
def tw1930948095619152339:=N
def tw17611496098581970416:=N
def tw14580545316402711043:=N
def tw11049764953369381411:=N
def tw434325988643067734:=N
def tw3431716781284365361:=N
def tw12086544119091188727:=N
def tw723495320364519686:=N
def tw16406721797384481443:=N
def tw17048838391274858147:=N
def tw159087732278720163:=N
def tw16593220873947394755:=N
def tw7136180510902448835:=N
def tw4810303734642120387:=N
def tw4163842806508260067:=N
def tw4480279585984156387:=N
def tw1568375005158816483:=N
def tw16999722586913268651:=N
def tw13724309906770667267:=N
def tw6827184527752321827:=N
def tw3553493415144079139:=N
def tw6832018782931386179:=N
def tw6632830007921055555:=N
def tw3383495870203640272:=N
def tw17041243100546666162:=N
def tw14433744109822018499:=N
def tw1569698110389097411:=N
def tw9497867819871606958:=N
def tw2161627542730946499:=N
def tw18380794501208971913:=N
def tw13525988815748779923:=N
def tw7515241809088743975:=N
def tw1403859348663446359:=N
def tw2735681044479836434:=N
def tw1286867812381873252:=N
def tw18044431097453829220:=N
def tw10370661495857713229:=N
def tw5760200126651099268:=N
def tw12291661274474593444:=N
def tw9009500160884209828:=N
def tw8703112802824844484:=N
def tw10620417249731586244:=N
def tw6404747056545119020:=N
def tw7698985286370797884:=N
def tw5953333471320307917:=N
def tw4858541715319008484:=N
def tw4410364255112380659:=N
def tw6408942131420619012:=N
def tw7535152924341702948:=N
def tw12069429902562408740:=N
def tw12254791405981454660:=N
def tw937384583533009101:=N
def tw8496438597915131268:=N
def tw6506527700997965869:=N
def tw3154129715203906980:=N
def tw8574660478391488381:=N
def tw9142129007700535812:=N
def tw14455158113189744955:=N
def tw15852806919743952755:=N
def tw12015160956937509476:=N
def tw1566766427903797892:=N
def tw14623897828687068298:=N
def tw5827349796332353215:=N
def tw1507656597463583950:=N
def tw5453112506129161847:=N
def tw15199764904323593924:=N
def tw7260400014994839268:=N
def tw18053636565255764708:=N
def tw7042483660118564612:=N
def tw12499341864582986500:=N
def tw8715767423209650980:=N
def tw15596030058010697540:=N
def tw8881445507120040804:=N
def tw11954758592523335556:=N
def tw12759051233193175972:=N
def tw9666204397234149336:=N
def tw3272547178244065614:=N
def tw7105237682022312932:=N
def tw14758037939549002724:=N
def tw17399711343873068037:=N
def tw9658865431537471493:=N
def tw2706464040857951182:=N
def tw128597289715532083:=N
def tw8135525854408362021:=N
def tw17172838696932170789:=N
def tw11950987840477777627:=N
def tw12806432152098120414:=N
def tw3759673082968047717:=N
def tw5451334864763322501:=N
def tw5094008915602777496:=N
def tw12923238041059189928:=N
def tw5870410724946362233:=N
def tw9642079297255488365:=N
def tw1143495785539996901:=N
def tw16768274429415009509:=N
def tw8409323889145359408:=N
def tw1633758230176424171:=N
def tw7956589360350971173:=N
def tw8472040990730747084:=N
def tw1911284761987852108:=N
def tw7040952158238678988:=N
def tw9357882668610577733:=N
def tw5513180252901684858:=N
def tw1477345857957071237:=N
def tw2769408377041686917:=N
def tw3955656120063848050:=N
def tw14906641718595909708:=N
def tw1067588147578908101:=N
def tw7138105347663851198:=N
def tw71707724759302629:=N
def tw10426063296560853509:=N
def tw2882118770603839013:=N
def tw1493764439185610902:=N
def tw2756627145948869189:=N
def tw8972792959321336453:=N
def tw10078074721746426983:=N
def tw15659419628539879077:=N
def tw1247025116151661607:=N
def tw3904843107185589254:=N
def tw9505846940989916869:=N
def tw14000141068979015365:=N
def tw16230665007178326757:=N
def tw830736497315800346:=N
def tw825828385601685253:=N
def tw6522958393387237394:=N
def tw8915838754198671893:=N
def tw1267932653502954277:=N
def tw1450683034884455269:=N
def tw7676290759896891237:=N
def tw16987191239041554309:=N
def tw14068531045504556965:=N
def tw9015489200402308280:=N
def tw16122134681564696893:=N
def tw6749533686911035333:=N
def tw8647971713514327806:=N
def tw10195810281783753140:=N
def tw16719330411128665706:=N
def tw13102524009155324535:=N
def tw1939771260115617585:=N
def tw4210634966565516294:=N
def tw10621231559713721975:=N
def tw7343535588222838886:=N
def tw2445035686826686566:=N
def tw5288693657343537063:=N
def tw5955675380509667462:=N
def tw9848542152648812710:=N
def tw11728294284685881680:=N
def tw13538890173373486278:=N
def tw16788250601373713606:=N
def tw9656658378691048753:=N
def tw7071978024821910758:=N
def tw10871924566674142502:=N
def tw9510909145441404230:=N
def tw12910736743213439302:=N
def tw5669541088702611693:=N
def tw7649892612289257980:=N
def tw7416519848617829766:=N
def tw12118363988745952489:=N
def tw14836875459053526438:=N
def tw13685923101850349990:=N
def tw10698017181846715846:=N
def tw12148903206226346438:=N
def tw5297148655347451859:=N
def tw9572829829569530296:=N
def tw6065625186359227975:=N
def tw7242605502997248518:=N
def tw5509860989581539984:=N
def tw12955712725219497574:=N
def tw13563060165797142335:=N
def tw17677026976948234982:=N
def tw16976864260332503878:=N
def tw511748163787028888:=N
def tw14990877003483783078:=N
def tw4756112311684412188:=N
def tw6551590399116906647:=N
def tw17337899874180039563:=N
def tw7719028532197033031:=N
def tw11040752184962238535:=N
def tw11748358461555627079:=N
def tw4765154910386911367:=N
def tw13840393180592357630:=N
def tw9434288436206039207:=N
def tw5029837474052502695:=N
def tw12404685028736170834:=N
def tw3853209509813944542:=N
def tw3029014488094243047:=N
def tw5397304608629994791:=N
def tw11259452573165762586:=N
def tw7419693888765246855:=N
def tw17133099109129775527:=N
def tw10076035267807908318:=N
def tw11609072968899340943:=N
def tw17187371754307847687:=N
def tw945366957176940731:=N
def tw10071528196696152647:=N
def tw116764266981185095:=N
def tw10940506818403120216:=N
def tw12106307944664456807:=N
def tw1187664273944505959:=N
def tw7147406500487984286:=N
def tw14462529968337300509:=N
def tw12146961156269523719:=N
def tw929700355526208263:=N
def tw6638036110059867943:=N
def tw15559604845667397447:=N
def tw8364435684623400211:=N
def tw4617859902278005575:=N
def tw15143826764445282151:=N
def tw4576445928927834900:=N
def tw7087325182244151800:=N
def tw6153218453363643271:=N
def tw5043061068693819231:=N
def tw3838060449194706479:=N
def tw52448464690773927:=N
def tw16341758814949711815:=N
def tw15245702198165711668:=N
def tw8812310341498482422:=N
def tw2047344457193010312:=N
def tw546543701793415569:=N
def tw6040563879308764562:=N
def tw7280428119580551336:=N
def tw11820264179494255900:=N
def tw12511793823424420328:=N
def tw8146208883741809324:=N
def tw5658462722617551860:=N
def tw4287393501705377021:=N
def tw10598585628350945544:=N
def tw9104835860250315900:=N
def tw10436880164200245470:=N
def tw2907393192862491733:=N
def tw1867227693626347210:=N
def tw828457048826648136:=N
def tw1253140886890687184:=N
def tw13880273815395118568:=N
def tw1151897385756962186:=N
def tw3414218898271602216:=N
def tw10320443292494836318:=N
def tw9977493285320126862:=N
def tw9909521018055609000:=N
def tw6125158781541999184:=N
def tw15055466792601114344:=N
def tw7169338879237446376:=N
def tw7399603327450217256:=N
def tw2736691648135167784:=N
def tw12871216051297478224:=N
def tw15577878825425131368:=N
def tw6972047169414642234:=N
def tw13493988844416515016:=N
def tw11704124228590670747:=N
def tw10271403088430540429:=N
def tw18405835286708007977:=N
def tw5016421443799533437:=N
def tw18146532807376881737:=N
def tw17232173016096412109:=N
def tw10351202089123786889:=N
def tw3522599695695296479:=N
def tw16690713301392349932:=N
def tw5300588576620366985:=N
def tw1346576346516728041:=N
def tw6640225602217506773:=N
def tw14281571861375808809:=N
def tw17070989427852295803:=N
def tw12268972511551923089:=N
def tw979915324111532144:=N
def tw11765634175123442153:=N
def tw15957285910697532905:=N
def tw6587124326566095337:=N
def tw17234032867603659273:=N
def tw5314232432293817897:=N
def tw8923344438072824147:=N
def tw1444585212108491337:=N
def tw11640686335546519892:=N
def tw2488546241706349289:=N
def tw5801962077538981673:=N
def tw17536791436727883561:=N
def tw5419684581793913641:=N
def tw16650766934154325429:=N
def tw11233282364984898441:=N
def tw6419922821363020061:=N
def tw4297749550658841481:=N
def tw3106126801377656796:=N
def tw12887047209356664180:=N
def tw7374728055331640297:=N
def tw1720325377571740955:=N
def tw4243656211209179158:=N
def tw12636991538734596298:=N
def tw17366460065634160874:=N
def tw7854475496207494378:=N
def tw4926741899697978634:=N
def tw3956073889227348266:=N
def tw8835763076679368753:=N
def tw6840801881685811498:=N
def tw14091204875419711818:=N
def tw3124786714893649980:=N
def tw3866642123465111914:=N
def tw2982540917009514092:=N
def tw1226252917078328746:=N
def tw4618394883377386009:=N
def tw16790073411317724586:=N
def tw14216004118392262418:=N
def tw7454143674643236298:=N
def tw13140979318009321271:=N
def tw3438395779419477949:=N
def tw7173947353135972938:=N
def tw11244608406725922840:=N
def tw14611693679358934903:=N
def tw292702173543284330:=N
def tw1697568448607409695:=N
def tw13961422570424491565:=N
def tw3360602696847132588:=N
def tw9654067068084060700:=N
def tw11293532891060911703:=N
def tw12025126606797139690:=N
def tw2556209951960059775:=N
def tw13783869005699957482:=N
def tw11617663377750689578:=N
def tw2142849228326849102:=N
def tw2137665613310439210:=N
def tw2690361539421624106:=N
def tw1213581695443207018:=N
def tw4608680729648726476:=N
def tw13976287868564472908:=N
def tw14955788831024959338:=N
def tw14176223484747716490:=N
def tw6477443580734085034:=N
def tw2580355537327516586:=N
def tw12351680147096295925:=N
def tw15069250113578530762:=N
def tw2210665886235590731:=N
def tw2919168251515076219:=N
def tw3138674287702440075:=N
def tw5618100227037285547:=N
def tw14431153966719715499:=N
def tw8779910615577050347:=N
def tw12647935003448234219:=N
def tw12601752610508379473:=N
def tw16868852071496714571:=N
def tw10002834949011634603:=N
def tw3505104563308264875:=N
def tw11522623956705669547:=N
def tw6441477270419683787:=N
def tw8541081817280836075:=N
def tw16048084021235579869:=N
def tw15808848923923307885:=N
def tw5175000161674857163:=N
def tw886681633730055838:=N
def tw8043139117228276427:=N
def tw9959541228365759987:=N
def tw8843569231866560235:=N
def tw7099098090341467886:=N
def tw6972490467028858699:=N
def tw3368423826701673848:=N
def tw1146881987797793675:=N
def tw3268696316736155792:=N
def tw4521934670172221355:=N
def tw1388212278776808396:=N
def tw4585542508474657836:=N
def tw11127911173199875607:=N
def tw10766305988443984940:=N
def tw6234529435450611788:=N
def tw3156660795683464268:=N
def tw17071616693584594028:=N
def tw9900131601009469078:=N
def tw3408371430229492300:=N
def tw11763460573293144443:=N
def tw3440958074561561169:=N
def tw7557198289670076940:=N
def tw10104283374077223507:=N
def tw18096745639535724716:=N
def tw1345075777854916780:=N
def tw14123468428055565484:=N
def tw10883267268141908172:=N
def tw16232969915885619404:=N
def tw12936025051120734359:=N
def tw1591869402940894412:=N
def tw16928803584995187948:=N
def tw4379300717781197036:=N
def tw254764119189594072:=N
def tw11990430805901273690:=N
def tw13728639700784301213:=N
def tw13906460043120401740:=N
def tw7303136174856425804:=N
def tw17599008003325256108:=N
def tw12388320513094948300:=N
def tw10725162380964527350:=N
def tw18442305998994565612:=N
def tw14684555028529973772:=N
def tw4552784073358798905:=N
def tw6755937029141598317:=N
def tw13742671912320764556:=N
def tw4039076151100351096:=N
def tw18276705823206616245:=N
def tw1248375013603469964:=N
def tw9793032940311637644:=N
def tw8550796649119446668:=N
def tw10373744724232810156:=N
def tw17523048719579901937:=N
def tw401018741470403739:=N
def tw10396522998914314956:=N
def tw9562203751167434508:=N
def tw2411020082536524588:=N
def tw4197845604423141228:=N
def tw14955934062711924588:=N
def tw16144018666002115085:=N
def tw12531017624843405196:=N
def tw594239211249773581:=N
def tw14384595797935236533:=N
def tw3249281862575630902:=N
def tw14250123121143335199:=N
def tw15170981683533664269:=N
def tw11241226605859212850:=N
def tw5834653167642526590:=N
def tw1039579185249206381:=N
def tw12820492059969528973:=N
def tw2635528752023294093:=N
def tw16657779482924552125:=N
def tw697076790274171181:=N
def tw9334802066712388311:=N
def tw12319052428331327790:=N
def tw4512314872747091309:=N
def tw12074252134193581:=N
def tw1886693941913204020:=N
def tw8756046040091381462:=N
def tw748523557935203348:=N
def tw10732706769232292405:=N
def tw9961712941348475807:=N
def tw7962322644524235483:=N
def tw8424358408015915565:=N
def tw2677563559996760307:=N
def tw13397413948179053915:=N
def tw15566795621203961168:=N
def tw4304508275319158445:=N
def tw710536591146387149:=N
def tw10412844741270638445:=N
def tw6185256638234565485:=N
def tw3178599731676231533:=N
def tw10848051662388050797:=N
def tw4548489574236710996:=N
def tw9971852152659417997:=N
def tw6915391954860621709:=N
def tw17964122393545765807:=N
def tw9834099974764563405:=N
def tw17947786847598978965:=N
def tw6078567077478627381:=N
def tw12663583961296210030:=N
def tw10938600869480351886:=N
def tw12057559636524892334:=N
def tw9152105015947855022:=N
def tw1455268684249865021:=N
def tw79798230672681198:=N
def tw12876296483066176026:=N
def tw3962749951988187324:=N
def tw11672782811637690322:=N
def tw649938304192390478:=N
def tw10240019430414430843:=N
def tw2816118322559620702:=N
def tw13984804057333235742:=N
def tw10227577485916913722:=N
def tw11440146742615685518:=N
def tw7656587569902091318:=N
def tw8076186584381408761:=N
def tw14124619732615170606:=N
def tw5557875991676476974:=N
def tw3343639860330510926:=N
def tw15704635568379352654:=N
def tw18191835805783092814:=N
def tw5342593053421838591:=N
def tw5927628246589637681:=N
def tw10522300234942312788:=N
def tw8403714062268035918:=N
def tw1070979443328504718:=N
def tw7734754010754551726:=N
def tw5038661954987472814:=N
def tw18040434119546499837:=N
def tw11649131580961637519:=N
def tw17774787430954100879:=N
def tw14074473622900040571:=N
def tw14959514917084123311:=N
def tw901519756463795375:=N
def tw2258357939496397303:=N
def tw8222625405926407567:=N
def tw5193243438197911951:=N
def tw17466110107615195284:=N
def tw4497945063146272190:=N
def tw11950563447924559375:=N
def tw13729910026667592239:=N
def tw3950058453987931860:=N
def tw17951387975740774460:=N
def tw1090110592771302970:=N
def tw15852284178279048911:=N
def tw9361072265942587087:=N
def tw11211077057870069487:=N
def tw11100509147646613359:=N
def tw8522014553841973135:=N
def tw3772985798070452111:=N
def tw602888227461059535:=N
def tw16117604420309309809:=N
def tw3203335757167661973:=N
def tw14777463989333892112:=N
def tw14445096282147225776:=N
def tw15852123685370774736:=N
def tw7811153285984185918:=N
def tw17348378987920638452:=N
def tw9095977219721512024:=N
def tw8347563171054084432:=N
def tw4399312887120521648:=N
def tw9942938761080928720:=N
def tw4073628407712955642:=N
def tw1890352598597475856:=N
def tw12028931666851331793:=N
def tw1324672139239376799:=N
def tw3032316194425272408:=N
def tw13075633904496634480:=N
def tw14085166779129256309:=N
def tw6426142907577920176:=N
def tw12304549360050818768:=N
def tw11825745793325765206:=N
def tw4976085205872060176:=N
def tw563866576755818748:=N
def tw3172017838674850710:=N
def tw18047626160072372208:=N
def tw1039905338196499411:=N
def tw7720009409835188246:=N
def tw4645720722720166235:=N
def tw14975125133406362641:=N
def tw12150672006232707217:=N
def tw12100190012592981747:=N
def tw18443607211128667281:=N
def tw8220439206408847923:=N
def tw7768496633707564241:=N
def tw2245443252121590033:=N
def tw17837850156846444350:=N
def tw10971900841073168785:=N
def tw18203294208096687505:=N
def tw10156470712172080529:=N
def tw13206758266082847153:=N
def tw6914024154112563838:=N
def tw11309559045249954321:=N
def tw9896294056597947994:=N
def tw14333550184802147700:=N
def tw15409311420226862673:=N
def tw14577253408524873521:=N
def tw3026843390567778929:=N
def tw9987058190321671736:=N
def tw2410063969014187257:=N
def tw2283737080559823537:=N
def tw16170696238771401393:=N
def tw4554839282201125681:=N
def tw10010660660184808241:=N
def tw8148022250099195482:=N
def tw6973399426791149489:=N
def tw11680901321408966641:=N
def tw16204509245589832689:=N
def tw4387352803220194322:=N
def tw2432280970777315346:=N
def tw3141580600165601330:=N
def tw8645850302736790674:=N
def tw15441141685873714450:=N
def tw16948095696762579250:=N
def tw12109693212397104466:=N
def tw1303927493794967890:=N
def tw11733966722472006271:=N
def tw3297857422602837523:=N
def tw12304005990142899570:=N
def tw17525076853102867858:=N
def tw12668203319797991858:=N
def tw2648325693924586930:=N
def tw8949125157757337042:=N
def tw4396542157052929554:=N
def tw6210846375863619154:=N
def tw17099898065489316434:=N
def tw8415427233050759512:=N
def tw18369345435699581618:=N
def tw7276280404108531410:=N
def tw277695883849988767:=N
def tw11735382426162267986:=N
def tw15675349805815487346:=N
def tw18301272363479493490:=N
def tw17317430260161488786:=N
def tw14696993293350026451:=N
def tw646089098023210747:=N
def tw9597096964360929333:=N
def tw1319337032912428019:=N
def tw4833563244577492278:=N
def tw1835701544340575315:=N
def tw4329170014342217907:=N
def tw8676682492406987323:=N
def tw1426755696952748244:=N
def tw14698631435974706451:=N
def tw8105836733132441907:=N
def tw12746962317469543731:=N
def tw1394149264327780787:=N
def tw10993479802815771155:=N
def tw17075120532360499763:=N
def tw10959980991859781203:=N
def tw4839005758144134803:=N
def tw16364658160526348979:=N
def tw8309948640262319902:=N
def tw12156313052937402131:=N
def tw5760911558282518323:=N
def tw8337883470917550899:=N
def tw2864899204502416179:=N
def tw15813371060466773303:=N
def tw6790446162952632275:=N
def tw276417110586190868:=N
def tw17461059515801127417:=N
def tw5289830350507992571:=N
def tw17043584291505855454:=N
def tw3093580877493383354:=N
def tw16842531065491252151:=N
def tw15787902169698272726:=N
def tw13141458119763642804:=N
def tw5463716890623824340:=N
def tw255622736428354883:=N
def tw1386474003733817940:=N
def tw13733059531912571476:=N
def tw4986293419982463479:=N
def tw10893160108792153812:=N
def tw1713373025475593012:=N
def tw10173640114290420532:=N
def tw4581588516383414164:=N
def tw12250207703384641437:=N
def tw12837782950525950900:=N
def tw2943221656132247508:=N
def tw2592372704371828692:=N
def tw9134280523648513012:=N
def tw166553019140117622:=N
def tw6428613803997794965:=N
def tw7086113935593559093:=N
def tw2926385419618521173:=N
def tw14169245226675062869:=N
def tw11802420739400084597:=N
def tw9340489901855779989:=N
def tw1931265073287444693:=N
def tw11692326895282171324:=N
def tw1458172108119475933:=N
def tw17405886179483382909:=N
def tw14411323286292396253:=N
def tw2485288133672997051:=N
def tw13966736812386841141:=N
def tw605748681812120181:=N
def tw13289565218055746197:=N
def tw12554983646981841557:=N
def tw16275645335881795452:=N
def tw18111372198515080949:=N
def tw923353334822882303:=N
def tw5963963991668708149:=N
def tw7429937666380277983:=N
def tw15477085125470009142:=N
def tw7702427055576708021:=N
def tw9237916085187234838:=N
def tw6215961513669383517:=N
def tw17374008488272289910:=N
def tw7890879014594473110:=N
def tw16161687262003616022:=N
def tw8541668644548346999:=N
def tw15801394040497445142:=N
def tw6121579109316440632:=N
def tw14435353449665498813:=N
def tw9754729667245861462:=N
def tw9448414120589918327:=N
def tw15424127168770047638:=N
def tw2171376775378918070:=N
def tw13832420668483538646:=N
def tw7296672865988585206:=N
def tw5180896728037492534:=N
def tw16354842706255172184:=N
def tw12185824269043482518:=N
def tw16289643379782323996:=N
def tw11255526479760251830:=N
def tw2375648674116367383:=N
def tw8874824792360060887:=N
def tw7588265287970018071:=N
def tw1915760464094420155:=N
def tw150686506462313276:=N
def tw11472260420574595900:=N
def tw716697150908329367:=N
def tw3378553923993827261:=N
def tw12424985461369715351:=N
def tw12600811010938716823:=N
def tw17488294465837755359:=N
def tw9137617158089491517:=N
def tw43026871991446199:=N
def tw7594846668870866045:=N
def tw9396956852418740151:=N
def tw9917142065827654877:=N
def tw14735784610714243256:=N
def tw15990459413709937848:=N
def tw325304607868947672:=N
def tw15034327282830765336:=N
def tw4448095140848757048:=N
def tw8187428873796119928:=N
def tw15849974555830167550:=N
def tw7379382545124330174:=N
def tw9343358564252496255:=N
def tw13113799124984743609:=N
def tw11879167981340404474:=N
def tw8517388528048993784:=N
def tw11332570647838431449:=N
def tw14630901250765347352:=N
def tw2598130346029960760:=N
def tw8932683392208671807:=N
def tw4317125919780335288:=N
def tw16775689506308909880:=N
def tw12337311657657445823:=N
def tw2976568257427004408:=N
def tw15605600407966413151:=N
def tw15535594272414542969:=N
def tw11036988853630532729:=N
def tw869158665647759513:=N
def tw14296327348594392700:=N
def tw12154428272953120285:=N
def tw4796918923372098076:=N
def tw6585762549069917401:=N
def tw7543888864557454366:=N
def tw17611442745575482974:=N
def tw12281424314833876313:=N
def tw2479912234513235321:=N
def tw6087791540012967353:=N
def tw12325017274446599641:=N
def tw12206905560741784287:=N
def tw7034302746344387194:=N
def tw14208659561378000473:=N
def tw15282169409065547353:=N
def tw14321732475201030589:=N
def tw1075632461205201625:=N
def tw11221268226092288156:=N
def tw1099331981138510713:=N
def tw8465877166584210393:=N
def tw11681778232171797497:=N
def tw10056487287790851098:=N
def tw3870646659900633178:=N
def tw1454122302043327738:=N
def tw6320005664188792382:=N
def tw18325089015125864890:=N
def tw3799651004866484794:=N
def tw17634900918748100316:=N
def tw7962077589543103226:=N
def tw18150306577667117818:=N
def tw10462437287320629050:=N
def tw15730640293354870618:=N
def tw11842681169969528381:=N
def tw10791683215435568187:=N
def tw15127964934468405307:=N
def tw17992626089822563419:=N
def tw6742773844792596571:=N
def tw202885212003986875:=N
def tw16348734987921065275:=N
def tw2510443636312629595:=N
def tw16194478409020925307:=N
def tw16486174145094478747:=N
def tw9448537290122651035:=N
def tw11716502855513537947:=N
def tw3029518507699290452:=N
def tw9755810714067715903:=N
def tw12959703089338790459:=N
def tw16213389653886216575:=N
def tw11119506253656068157:=N
def tw7863875417103609691:=N
def tw4334768601095453659:=N
def tw17444379194957025246:=N
def tw13350244900823769468:=N
def tw3825391072599140732:=N
def tw16834733076664064764:=N
def tw15211757270768576060:=N
def tw3048315638808897276:=N
def tw7914758497990030108:=N
def tw6393799556917673694:=N
def tw15810291899507931100:=N
def tw3149037482787976221:=N
def tw4617700284281170205:=N
def tw16615338233400438269:=N
def tw11130611949315324445:=N
def tw6132812085104043709:=N
def tw9294713671136898270:=N
def tw17460870502662330462:=N
def tw9562679888585625694:=N
def tw11481712658830390622:=N
def tw3524219758099379582:=N
def tw14286227812604761502:=N
def tw10884229068357234494:=N
def tw16486507854206956319:=N
def tw12194986019762872703:=N
def tw6277111836501807583:=N
def tw18421522182001275711:=N
def tw4868088131468966847:=N
end PySem.W.Fast
local macro_rules|`(tactic|tm_at "h0")=>`(tactic| (refine' L2.methAt_mk ?a ?i ?l ?c ?k;(case a=>k_is);(case i=>k_is);(case l=>k_is);(case c=>k_is);(case k=>k_is)))|`(tactic|tm_at "h1")=>`(tactic| (refine' L2.defAt_mk ?a ?l ?c ?k;(case a=>k_is);(case l=>k_is);(case c=>k_is);(case k=>k_is)))|`(tactic|tm_at "h2")=>`(tactic| (refine' L2.mkAt_mk ?n ?m ?a ?i ?kc ?l ?c ?k;(case n=>k_is);(case m=>k_is);(case a=>k_is);(case i=>k_is);(case kc=>k_is);(case l=>k_is);(case c=>k_is);(case k=>k_is)))|`(tactic|tm_at "h3")=>`(tactic| (refine' L2.const_mk ?e ?r;(case e=>k_is);(case r=>exact⟨_,by with_unfolding_all rfl⟩)))|`(tactic|tm_at "h4")=>`(tactic| (refine'⟨?a,L2.fun_mk ?l ?c ?k⟩;(case a=>k_is);(case l=>k_is);(case c=>k_is);(case k=>k_is)))|`(tactic|tm_at "h5")=>`(tactic| (refine'⟨⟨?_,?_,?_,?_⟩,?_,?_,?_⟩<;>(try delta L2.NoAttr)<;>k_is))|`(tactic|tm_at "h6")=>`(tactic| (refine'⟨⟨?_,?_,?_,?_⟩,?_,?_,?_,?_⟩<;>(try delta L2.NoAttr)<;>k_is))
open PySem PySem.W PyProof.Rows
set_option maxRecDepth 100000 in
set_option maxHeartbeats 0 in
theorem PySem.Challenge.cw_fourvoices_k32_walks_and_faults_holds : PySem.Challenge.rw_fourvoices_k32_walks_and_faults.Holds := by
 w_on;o_law;k_head;(case hw=>w_witness2)
 k_fill
 refine K32.walk (l:=PySem.Challenge.rw_fourvoices_k32_walks_and_faults) rfl rfl (λw h Y=>PySem.W.kIn_of Y) ?F
 case F=>
  intro w mg fa h KX G hmg;refine' K32.all_mk KX G hmg ?Ze9 ?Zar ?Zfa ?Zas ?Zfb ?Zat ?Zfc ?Zau ?Zfd ?Zav ?Zfe ?Zao ?Zff ?Zan ?Zfg ?Zaw ?Zfh ?Zax ?Zfi ?Zap ?Zfj ?Zaz ?Zfk ?Zal ?Zbo ?Zbp ?Zbq ?Zbr ?Zbs ?Zbt ?Zbu ?Zbv ?Zbw ?Zbx ?Zby ?Zbz ?Zb0 ?Zb1 ?Zb2 ?Zb3 ?Zb4 ?Zb5 ?Zb6 ?Zb7 ?Zb8 ?Zb9 ?Zca ?Zcb ?Zcc ?Zcd ?Zce ?Zcf ?Zcg ?Zch ?Zci ?Zcj ?Zck ?Zcl ?Zcm ?Zcn ?Zco ?Zcp ?Zcq ?Zcr ?Zcs ?Zct ?Zcu ?Zcv ?Zcw ?Zcx ?Zcy ?Zcz ?Zc0 ?Zc1 ?Zc2 ?Zc3 ?Zc4 ?Zc5 ?Zc6 ?Zc7 ?Zc8 ?Zc9 ?Zda ?Zdb ?Zdc ?Zdd ?Zde ?Zdf ?Zdg ?Zdh ?Zdi ?Zdj ?Zdk ?Zdl ?Zdm ?Zdn ?Zdo ?Zdp ?Zdq ?Zdr ?Zds ?Zdt ?Zdu ?Zdv ?Zdw ?Zdx ?Zdy ?Zdz ?Zd0 ?Zd1 ?Zd2 ?Zd3 ?Zd4 ?Zd5 ?Zd6 ?Zd7 ?Zd8 ?Zd9 ?Zea ?Zeb ?Zec ?Zed ?Zee ?Zef ?Zeg ?Zeh ?Zei ?Zej ?Zek ?Zel ?Zem ?Zen ?Zeo ?Zep ?n_MAKERS ?t_MAKERS ?d_MAKERS_span ?d_MAKERS_clock ?d_MAKERS_move ?d_MAKERS_alike ?d_MAKERS_back ?d_MAKERS_held ?d_MAKERS_times ?d_MAKERS_begin ?d_MAKERS_close ?n_INNER_KINDS ?q_INNER_KINDS ?z_len ?z_set ?z_any ?z_range ?z_all ?z_min ?z_max ?z_abs ?z_tuple ?z_list ?z_isinstance ?z_bool ?z_int ?z_str ?z_divmod ?z_enumerate ?z_zip ?z_reversed ?g_FIGURES ?g_MOST_FIGURES ?g_MOST_VOICES ?g_MOST_RULES ?g_MOST_WEIGHT ?g_MOST_NUMBERS ?g_NO_LEAP ?g_LEAP_UP ?g_LEAP_DOWN ?g_START ?Zeq
  (case Ze9=>k_is)
  (case Zar=>tm_at "h6")
  (case Zfa=>k_is)
  (case Zas=>(refine'⟨⟨?a_3,?b_3,?c_3,?d_3⟩,?f0_3,?f1_3,?f2_3,?f3_3,?f4_3⟩;(case a_3=>k_is);(case b_3=>k_is);(case c_3=>k_is);(case d_3=>k_is);(case f0_3=>delta L2.NoAttr;k_is);(case f1_3=>delta L2.NoAttr;k_is);(case f2_3=>delta L2.NoAttr;k_is);(case f3_3=>delta L2.NoAttr;k_is);(case f4_3=>delta L2.NoAttr;k_is)))
  (case Zfb=>k_is)
  (case Zat=>tm_at "h5")
  (case Zfc=>k_is)
  (case Zau=>tm_at "h6")
  (case Zfd=>k_is)
  (case Zav=>tm_at "h5")
  (case Zfe=>k_is)
  (case Zao=>tm_at "h5")
  (case Zff=>k_is)
  (case Zan=>(refine'⟨⟨?a_13,?b_13,?c_13,?d_13⟩,?f0_13,?f1_13,?f2_13,?f3_13,?f4_13⟩;(case a_13=>k_is);(case b_13=>k_is);(case c_13=>k_is);(case d_13=>k_is);(case f0_13=>delta L2.NoAttr;k_is);(case f1_13=>delta L2.NoAttr;k_is);(case f2_13=>delta L2.NoAttr;k_is);(case f3_13=>delta L2.NoAttr;k_is);(case f4_13=>delta L2.NoAttr;k_is)))
  (case Zfg=>k_is)
  (case Zaw=>tm_at "h5")
  (case Zfh=>k_is)
  (case Zax=>tm_at "h5")
  (case Zfi=>k_is)
  (case Zap=>tm_at "h6")
  (case Zfj=>k_is)
  (case Zaz=>(refine'⟨⟨?a_21,?b_21,?c_21,?d_21⟩,?f0_21,?f1_21⟩;(case a_21=>k_is);(case b_21=>k_is);(case c_21=>k_is);(case d_21=>k_is);(case f0_21=>delta L2.NoAttr;k_is);(case f1_21=>delta L2.NoAttr;k_is)))
  (case Zfk=>k_is)
  (case Zal=>tm_at "h5")
  (case Zbo|Zbp|Zbq=>tm_at "h1")
  (case Zbr=>(refine' L2.cmethAt_mk ?n_27 ?r_27 ?a_27 ?g_27 ?l_27 ?c_27 ?k_27;(case n_27=>k_is);(case r_27=>k_is);(case a_27=>k_is);(case g_27=>k_is);(case l_27=>k_is);(case c_27=>k_is);(case k_27=>k_is)))
  (case Zbs|Zbt|Zbu|Zbv|Zbw|Zbx|Zby|Zbz|Zb0|Zb1|Zb2|Zb3|Zb4|Zb5|Zb6|Zb7|Zb8|Zb9|Zca|Zcb|Zcc|Zcd|Zce|Zcf|Zcg|Zch|Zci|Zcj|Zck|Zcl|Zcm|Zcn|Zco|Zcp|Zcq|Zcr|Zcs|Zct|Zcu|Zcv=>tm_at "h0")
  (case Zcw|Zcx|Zcy|Zcz|Zc0|Zc1|Zc2|Zc3|Zc4|Zc5=>tm_at "h2")
  (case Zc6|Zc7|Zc8=>tm_at "h1")
  (case Zc9|Zda|Zdb|Zdc|Zdd|Zde|Zdf|Zdg|Zdh=>tm_at "h4")
  (case Zdi|Zdj=>tm_at "h1")
  (case Zdk=>(refine' L2.defAtD_mk2 ?a_92 ?l_92 ?c_92 ?k_92 ?t_92 ?d_92 ?r_92;(case a_92=>k_is);(case l_92=>k_is);(case c_92=>k_is);(case k_92=>k_is);(case t_92=>k_is);(case d_92=>rfl);(case r_92=>exact⟨_,rfl⟩)))
  (case Zdl=>tm_at "h2")
  (case Zdm|Zdn|Zdo|Zdp|Zdq|Zdr|Zds|Zdt=>tm_at "h1")
  (case Zdu=>(refine' L2.cmethAt_mk ?n_102 ?r_102 ?a_102 ?g_102 ?l_102 ?c_102 ?k_102;(case n_102=>k_is);(case r_102=>k_is);(case a_102=>k_is);(case g_102=>k_is);(case l_102=>k_is);(case c_102=>k_is);(case k_102=>k_is)))
  (case Zdv|Zdw|Zdx|Zdy=>tm_at "h0")
  (case Zdz=>tm_at "h2")
  (case Zd0=>tm_at "h0")
  (case Zd1|Zd2|Zd3|Zd4|Zd5|Zd6|Zd7|Zd8|Zd9|Zea|Zeb|Zec|Zed|Zee|Zef|Zeg|Zeh|Zei|Zej|Zek|Zel|Zem|Zen|Zeo|Zep=>tm_at "h1")
  (case n_MAKERS=>k_is)
  (case t_MAKERS=>(refine' L2.tab_mk ?l_135 ?s_135 ?x_135 ?y_135 ?z_135 ?d_135 ?r_135;(case l_135=>k_is);(case s_135=>rfl);(case x_135=>rfl);(case y_135=>rfl);(case z_135=>rfl);(case d_135=>rfl);(case r_135=>exact(L2.rowsR rfl rfl (L2.rowsR rfl rfl (L2.rowsR rfl rfl (L2.rowsR rfl rfl (L2.rowsR rfl rfl (L2.rowsR rfl rfl (L2.rowsR rfl rfl (L2.rowsR rfl rfl (L2.rowsR rfl rfl .nil))))))))))))
  (case d_MAKERS_span=>with_unfolding_all rfl)
  (case d_MAKERS_clock=>with_unfolding_all rfl)
  (case d_MAKERS_move=>with_unfolding_all rfl)
  (case d_MAKERS_alike=>with_unfolding_all rfl)
  (case d_MAKERS_back=>with_unfolding_all rfl)
  (case d_MAKERS_held=>with_unfolding_all rfl)
  (case d_MAKERS_times=>with_unfolding_all rfl)
  (case d_MAKERS_begin=>with_unfolding_all rfl)
  (case d_MAKERS_close=>with_unfolding_all rfl)
  (case n_INNER_KINDS=>k_is)
  (case q_INNER_KINDS=>(refine' L2.ktup_mk ?l_146 ?x_146 ?d_146 ?z_146 ?r_146;(case l_146=>k_is);(case x_146=>rfl);(case d_146=>rfl);(case z_146=>decide);(case r_146=>exact(.cons ⟨_,rfl⟩ (.cons ⟨_,rfl⟩ .nil)))))
  (case z_len|z_set|z_any|z_range|z_all|z_min|z_max|z_abs|z_tuple|z_list|z_isinstance|z_bool|z_int|z_str|z_divmod|z_enumerate|z_zip|z_reversed=>k_is)
  (case g_FIGURES|g_MOST_FIGURES|g_MOST_VOICES|g_MOST_RULES|g_MOST_WEIGHT|g_MOST_NUMBERS|g_NO_LEAP|g_LEAP_UP|g_LEAP_DOWN|g_START=>tm_at "h3")
  (case Zeq=>tm_at "h1")
