import PyProof.Rows.All
import Wide.All
import OpenK.AllK
import Wide.FinOn
import Lean
import PyProof.EqAt
import PyProof.EqKinds
import PyProof.TupleCall
import KE.KTab
import KE.KRevSl
import PyProof.Rows.Range3
import PyProof.WalkInts
import PyProof.Rows.StrSplitMax
import KE.KMinKey
import PyProof.LongRange
import PyProof.ListRange
import PyProof.ExcClass3
import PyProof.InstStore
import PyProof.StationsW
import PyProof.ExcQuiet
import PyProof.RulesTry
import PyProof.ExcArgsOwn
import PyProof.DictRoadsH
import Wide.Seal
import KE.KRevIter
import PyProof.SumAny
import KE.KTryMore
import PySem.Challenge.RW_fourvoices_k94_whole_great_memories
set_option compiler.extract_closed false
set_option Elab.async false
set_option linter.all false
set_option maxRecDepth 100000
abbrev aa0:=@List.length_map
abbrev aa1:=@List.getElem?_eq_getElem
abbrev aa2:=@PySem.wpAny_bind
abbrev aa3:=@List.getElem?_eq_some_iff
abbrev aa4:=@PySem.Heap.get?_push_of_some
abbrev aa5:=@List.getElem?_map
abbrev aa6:=@Bool.false_ne_true
abbrev aa7:=@PySem.wpAny_pure
abbrev aa8:=@List.mem_cons
abbrev aa9:=@Nat.le_refl
abbrev ab0:=@Nat.lt_of_lt_of_le
abbrev ab1:=@List.size_toArray
abbrev ab2:=@List.length_append
abbrev ab3:=@PySem.Heap.get?_push_size
abbrev ab4:=@List.map_append
abbrev ab5:=@List.getElem?_append_left
abbrev ab6:=@List.mem_singleton
abbrev ab7:=@PySem.Heap.lt_size
abbrev ab8:=@List.getD_eq_getElem?_getD
abbrev ab9:=@Nat.le_trans
abbrev ac0:=@List.mem_map
abbrev ac1:=@List.take_add_one
abbrev ac2:=@List.not_mem_nil
abbrev ac3:=@List.length_take
abbrev ac4:=@List.getElem?_append_right
abbrev ac5:=@List.mem_of_getElem?
abbrev ac6:=@Nat.ne_of_lt
abbrev ac7:=@List.mem_append_right
abbrev ac8:=@List.take_length
abbrev ac9:=@List.mem_append
abbrev ad0:=@Int.emod_lt_of_pos
abbrev ad1:=@List.length_cons
abbrev ad2:=@Nat.lt_of_le_of_lt
abbrev ad3:=@Nat.zero_le
abbrev ad4:=@PySem.Heap.get?_update_other
abbrev ad5:=@Int.emod_nonneg
abbrev ad6:=@List.getElem_mem
abbrev ad7:=@List.map_cons
abbrev ad8:=@List.mem_cons_self
abbrev ad9:=@Bool.false_eq_true
abbrev ae0:=@List.mem_cons_of_mem
abbrev ae1:=@PySem.wpAny_truthy_bool
abbrev ae2:=@PySem.wpAny_holding
abbrev ae3:=@Classical.byContradiction
abbrev ae4:=@Int.toNat_natCast
abbrev ae5:=@List.getElem?_of_mem
abbrev ae6:=@List.foldl_cons
abbrev ae7:=@PySem.Heap.size_push
abbrev ae8:=@PySem.wpAny_seqItems
abbrev ae9:=@Int.eq_ofNat_of_zero_le
abbrev af0:=@List.replicate_succ
abbrev af1:=@Int.le_trans
abbrev af2:=@PySem.wpAny_field
abbrev af3:=@List.mem_of_mem_take
abbrev af4:=@List.append_nil
abbrev af5:=@PySem.wpAny_mono
abbrev af6:=@PySem.Heap.get?_update_self
abbrev af7:=@List.forIn_cons
abbrev af8:=@Nat.succ_le_succ
abbrev af9:=@Bool.and_eq_true
abbrev ag0:=@List.length_eq_zero_iff
abbrev ag1:=@PySem.wpAny_newObj_type
abbrev ag2:=@List.take_of_length_le
abbrev ag3:=@PySem.wpAny_Call_Name_kw
abbrev ag4:=@List.length_drop
abbrev ag5:=@PySem.wpAny_call_entry
abbrev ag6:=@List.lookup_cons
abbrev ag7:=@List.all_eq_true
abbrev ag8:=@PySem.wpAny_setField_rec
abbrev ag9:=@List.getElem?_drop
abbrev ah0:=@List.mem_flatMap
abbrev ah1:=@Nat.lt_irrefl
abbrev ah2:=@List.mem_append_left
abbrev ah3:=@Nat.pow_le_pow_right
abbrev ah4:=@Bool.eq_iff_iff
abbrev ah5:=@Array.toList_append
abbrev ah6:=@List.mem_range
abbrev ah7:=@PySem.wpAny_passesOwn
abbrev ah8:=@Nat.le_of_lt
abbrev ah9:=@List.map_nil
abbrev ai0:=@List.map_map
abbrev ai1:=@List.foldl_append
abbrev ai2:=@List.length_range
abbrev ai3:=@Nat.sub_self
abbrev ai4:=@Bool.false_and
abbrev ai5:=@PySem.wpAny_getItem_str_slice
abbrev ai6:=@List.cons_append
abbrev ai7:=@Nat.not_lt
abbrev ai8:=@Nat.ne_of_gt
abbrev ai9:=@List.all_map
abbrev aj0:=@List.getElem?_take
abbrev aj1:=@Nat.le_mul_of_pos_left
abbrev aj2:=@List.nodup_cons
abbrev aj3:=@PySem.wpAny_loadPart'
abbrev aj4:=@PySem.wpAny_ite_false
abbrev aj5:=@PySem.wpAny_updateSeq
abbrev aj6:=@List.getElem?_eq_none
abbrev aj7:=@List.flatten_cons
abbrev aj8:=@List.forIn_nil
abbrev aj9:=@PySem.wpAny_letGo
abbrev ak0:=@List.drop_eq_nil_iff
abbrev ak1:=@Nat.min_le_right
abbrev ak2:=@List.drop_eq_getElem_cons
abbrev ak3:=@Int.toNat_of_nonneg
abbrev ak4:=@List.getElem?_range
abbrev ak5:=@List.map_congr_left
abbrev ak6:=@Bool.or_eq_true
abbrev ak7:=@PySem.wpAny_specialOf
abbrev ak8:=@Int.lt_of_lt_of_le
abbrev ak9:=@Option.toList_some
abbrev al0:=@Nat.le_mul_of_pos_right
abbrev al1:=@Nat.zero_add
abbrev al2:=@PySem.wpAny_typeOf
abbrev al3:=@List.append_assoc
abbrev al4:=@Nat.lt_succ_of_lt
abbrev al5:=@PySem.wpAny_pyIter_list
abbrev al6:=@List.drop_drop
abbrev al7:=@List.drop_of_length_le
abbrev al8:=@PySem.wpAny_tryCatch
abbrev al9:=@List.length_replicate
abbrev am0:=@List.getElem?_zipWith
abbrev am1:=@Int.mul_ediv_add_emod
abbrev am2:=@Nat.lt_succ_self
abbrev am3:=@PySem.wpAny_forIn_list
abbrev am4:=@Int.mul_le_mul_of_nonneg_right
abbrev am5:=@PySem.wpAny_standAt
abbrev am6:=@Bool.true_and
abbrev am7:=@Nat.le_succ
abbrev am8:=@PySem.wpAny_updateSeq_pair
abbrev am9:=@List.mem_of_mem_drop
abbrev an0:=@Nat.mul_le_mul_right
abbrev an1:=@PySem.wpAny_execs_nil
abbrev an2:=@List.length_nil
abbrev an3:=@Option.map_some
abbrev an4:=@Int.natCast_mul
abbrev an5:=@Nat.min_eq_left
abbrev an6:=@List.filterMap_cons
abbrev an7:=@Array.length_toList
abbrev an8:=@Nat.succ_mul
abbrev an9:=@Int.lt_of_le_of_lt
abbrev ao0:=@PySem.wpAny_pyIter_range
abbrev ao1:=@Array.forIn_toList
abbrev ao2:=@List.filter_append
abbrev ao3:=@Int.mul_one
abbrev ao4:=@Nat.le_succ_of_le
abbrev ao5:=@Array.size_append
abbrev ao6:=@List.nodup_append
abbrev ao7:=@List.flatMap_cons
abbrev ao8:=@List.all_cons
abbrev ao9:=@PySem.wpAny_onRaise
abbrev ap0:=@List.map_take
abbrev ap1:=@Bool.not_true
abbrev ap2:=@PySem.wpAny_isInstance
abbrev ap3:=@List.drop_length
abbrev ap4:=@Int.ofNat_le
abbrev ap5:=@PySem.codeAny_mono
abbrev ap6:=@Nat.mul_comm
abbrev ap7:=@PySem.wpAny_rule
abbrev ap8:=@Nat.add_zero
abbrev ap9:=@Int.lt_or_le
abbrev aq0:=@List.mem_filter
abbrev aq1:=@List.of_mem_zip
abbrev aq2:=@PySem.codeAny_builtin
abbrev aq3:=@List.find?_cons
open PySem.W (Frag instObj findIn emptyDict keepIn kia_one fnOf codeIn nsIn mg_of mg_none_of)
theorem Eg{n:Nat}(h:n<=16777216):n<=PySem.sizeLine:=by rw [PySem.sizeLine_eq];exact h
theorem Gm{n c:Nat}(h:n<=c)(k:c<=16777216):n<=PySem.sizeLine:=Eg (ab9 h k)
theorem F3{n c:Nat}(h:n<=c)(k:c+1<=16777216):n+1<=PySem.sizeLine:=Eg (ab9 (af8 h) k)
theorem oz4{n c:Nat}(h:n < c)(k:c<=16777216):n < PySem.sizeLine:=ab0 h (Eg k)
theorem Gn{n c d:Nat}(h:n < d)(j:d<=c)(k:c<=16777216):n < PySem.sizeLine:=ab0 h (Gm j k)
theorem oz6{n c:Nat}(h:n<=c)(k:c+1<=16777216):n < PySem.sizeLine:=F3 h k
theorem oe1{a b c:Nat}(h:c < b)(e:a=b):c < a:=e▸h
theorem oe2{a b c:Nat}(h:b<=c)(e:a=b):a<=c:=e▸h
theorem oe3{a b c:Nat}(e:a=b)(h:b<=c)(k:c<=16777216):a<=PySem.sizeLine:=Eg (e▸ab9 h k)
theorem oe4{a b c d:Nat}(e:a=b)(h:b<=c)(k:c<=d):a<=d:=e▸ab9 h k
theorem oe5{a b c:Nat}(e:a=b)(h:c=b):a=c:=e.trans h.symm
theorem oe6{a b c d:Nat}(e:a=b)(h:b < c)(k:c<=d):a < d:=e▸ab0 h k
theorem oe7{a b c d:Nat}(e:a=b)(f:b=d)(h:c < d):c < a:=e▸f▸h
theorem oi1{a b c:Int}(h:b<=c)(k:a<=b):a<=c:=af1 k h
theorem oi2{a b c:Int}(h:b<=c)(k:a < b):a < c:=ak8 k h
theorem oi3{a b:Int}(h:b<=a)(k:0 < b):a≠0:=fun e=>Int.not_le.mpr k (e▸h)
theorem oi4{a b c d:Int}(h:a<=b)(k:b<=c)(e:c<=d):a<=d:=af1 (af1 h k) e
theorem oi5{a b c d:Int}(h:a<=b)(k:b<=c)(e:c < d):a < d:=an9 (af1 h k) e
theorem oi6{a b c d:Int}(h:a < b)(k:b<=c)(e:c<=d):a < d:=ak8 (ak8 h k) e
theorem on1{a b c:Nat}(h:b<=c)(k:a<=b):a<=c:=ab9 k h
theorem on2{a b c:Nat}(h:b<=c)(k:a < b):a < c:=ab0 k h
theorem on3{a b:Nat}(h:b<=a)(k:0 < b):(0:Int) < a:=Int.ofNat_lt.mpr (ab0 k h)
theorem on4{a b:Nat}(h:b<=a)(k:0 < b):(a:Int)≠0:=fun e=>Nat.not_le.mpr k (Int.ofNat.inj e▸h)
theorem on5{n c:Nat}{d:Int}(h:n<=c)(k:(c:Int)<=d):(n:Int)<=d:=af1 (ap4.mpr h) k
theorem on6{n c:Nat}{d:Int}(h:n<=c)(k:(c:Int) < d):(n:Int) < d:=an9 (ap4.mpr h) k
theorem on7{n c:Nat}{d:Int}(h:c<=n)(k:d<=(c:Int)):d<=(n:Int):=af1 k (ap4.mpr h)
theorem on8(i:Nat){d:Int}(k:d<=0):d<=(i:Int):=af1 k (Int.natCast_nonneg i)
theorem om2{n c:Nat}(h:n<=c)(k:(c:Int)+1 < 2 ^ 62):(n:Int)+1 < 2 ^ 62:=an9 (Int.add_le_add_right (ap4.mpr h) 1) k
theorem om3(n:Nat):-2 ^ 62<=(n:Int)+1:=af1 (b:=0) (by decide) (Int.natCast_nonneg (n+1))
theorem Gg{o:Int}(h:0<=o):0 < o+1:=Int.lt_add_one_of_le h
theorem Gh{o:Int}(h:0<=o):1<=o+1:=Gg h
theorem Gi{o:Int}(h:1<=o):0<=o - 1:=Int.sub_nonneg_of_le h
theorem oa3{o c:Int}(h:o<=c):o - 1 < c:=Int.sub_one_lt_of_le h
theorem oa4(o:Int):o - 1+1=o:=Int.sub_add_cancel o 1
theorem oa5{o:Int}(h:0<=o):1<=1+o:=Int.le_add_of_nonneg_right h
theorem oa6{o c:Int}(h:o < c):1+o<=c:=by rw [Int.add_comm];exact h
theorem oa7(k:Nat):((k:Int)+1 - 1).toNat=k:=by rw [Int.add_sub_cancel];rfl
theorem oa8{i n:Nat}(h:i < (n:Int).toNat):i < n:=h
theorem oa9{i n:Nat}(h:i < n):n - i=n - (i+1)+1:=(Nat.succ_pred_eq_of_pos (Nat.sub_pos_of_lt h)).symm
theorem ob0{i n:Nat}(h:i=(n:Int).toNat):i=n:=h
theorem ob1{lo hi:Int}(h:lo<=hi):0 < hi - lo+1:=Int.lt_add_one_of_le (Int.sub_nonneg_of_le h)
theorem Gj{i n c d:Nat}(h:i < n)(k:n<=c)(e:c<=d):i < d:=ab0 h (ab9 k e)
theorem ob3{i n c d:Nat}(h:i < n)(k:n<=c)(e:c<=d):i<=d:=ah8 (Gj h k e)
theorem ob4{i n:Nat}(h:i < n):2 * i+1 < 2 * n:=by omega
theorem ob5{i n:Nat}(h:i < n):2 * i < 2 * n:=by omega
theorem ob6{i n j:Nat}(h:i < n)(k:n=j):i < j:=k▸h
theorem Fu{o:Int}(h:0<=o):o=(o.toNat:Nat):=(ak3 h).symm
theorem ob7{o:Int}(h:1<=o):o - 1=((o - 1).toNat:Nat):=Fu (Gi h)
theorem ob8{o:Int}(h:0<=o):1+o=((1+o).toNat:Nat):=Fu (Int.add_nonneg (by decide) h)
theorem oc0{o:Int}(h:1<=o):o=(o.toNat:Nat):=Fu (af1 (by decide) h)
theorem Gk(x:Int){c:Int}(h:0 < c):0<=x % c:=ad5 x (Int.ne_of_gt h)
theorem oc2(x:Int){c:Int}(h:0 < c):x % c<=c:=Int.le_of_lt (ad0 x h)
theorem oc3(x:Int){c d:Int}(h:0 < c)(k:c<=d):x % c+1<=d:=af1 (ad0 x h) k
theorem oc4(x:Int){c:Int}(h:0 < c):1<=x % c+1:=Gh (Gk x h)
theorem Fv{x c:Int}{m:Nat}(h:0<=x)(k:x<=c)(e:c < (m:Int)):x.natAbs < m:=by omega
theorem oc6{b:Int×Int}:(b.2+1 - b.1).toNat=(b.2 - b.1+1).toNat:=by omega
theorem oc7{x a c:Int}{m:Nat}(h:0<=x)(k:x < a)(j:a<=c)(e:c < (m:Int)):x.natAbs < m:=Fv h (Int.le_of_lt (ak8 k j)) e
theorem oc8{x a c:Int}{m:Nat}(h:1<=x)(k:x<=a)(j:a<=c)(e:c < (m:Int)):x.natAbs < m:=Fv (af1 (by decide) h) (af1 k j) e
theorem oc9{x c:Int}{m:Nat}(h:1<=x)(j:x<=c)(e:c < (m:Int)):x.natAbs < m:=Fv (af1 (by decide) h) j e
theorem od0{v:Int}{n m:Nat}(h:1<=v)(k:v<=n)(j:n<=4)(e:4 < m):(v - 1+1).natAbs < m:=by omega
theorem od1{p n:Nat}(h:p < n):p < 0+n:=by rw [al1];exact h
theorem od2{p n:Nat}(h:p < 0+n):p < n:=by rw [al1]at h;exact h
theorem od3{a b:Nat}(h:b < a)(k:a<=b):False:=Nat.not_le.mpr h k
theorem od4{a b:Int}(h:b < a)(k:a<=b):False:=Int.not_le.mpr h k
theorem od5{a b c d:Nat}(h:c < a)(e:a=b)(f:d=b):c < d:=by rw [f,<-e];exact h
theorem od6{a b c d:Nat}(h:a<=c)(k:b<=d)(e:c+d<=16777216):a+b<=PySem.sizeLine:=Eg (ab9 (Nat.add_le_add h k) e)
theorem od8{a b c d:Nat}(e:a=b)(h:b < c)(k:c<=d)(j:d<=16777216):a < PySem.sizeLine:=e▸Gn h k j
theorem od9{j n:Nat}(h:¬j < n)(k:j - n=0):j=n:=Nat.le_antisymm (Nat.le_of_sub_eq_zero k) (ai7.mp h)
theorem oe0{i n m:Nat}(h:¬i < n)(k:i < n+m):i - n < m:=Nat.sub_lt_left_of_lt_add (ai7.mp h) k
theorem of3{n c d:Nat}(i:Nat)(k:n<=c)(e:c<=d):min i n<=d:=ab9 (ak1 i n) (ab9 k e)
theorem of4{n c:Nat}(i:Nat)(k:n<=c)(e:c+1<=16777216):min i n+1<=PySem.sizeLine:=F3 (ab9 (ak1 i n) k) e
theorem og1{i:Int}{n:Nat}(h:i < n)(k:n<=PySem.sizeLine):i < 2 ^ 63:=by rw [PySem.sizeLine_eq]at k;omega
theorem og2{i:Int}{n:Nat}(h:-(n:Int)<=i)(k:n<=PySem.sizeLine):-2 ^ 63<=i:=by rw [PySem.sizeLine_eq]at k;omega
theorem og3{j c:Int}{m:Nat}(h:0 < j)(k:j < c)(e:c<=(m:Int)):j.natAbs < m:=by omega
local macro_rules | `(tactic| omega) => `(tactic| with_reducible first | assumption | exact Nat.le_refl _ | exact Int.le_refl _ | (apply Nat.le_of_lt; assumption) | (apply Int.le_of_lt; assumption) | (apply Nat.not_lt.mp; assumption) | (apply Nat.not_le.mp; assumption) | (apply Int.not_lt.mp; assumption) | (apply Int.not_le.mp; assumption) | (apply Int.ofNat_lt.mpr; assumption) | (apply Int.ofNat_le.mpr; assumption) | (apply Int.ofNat_lt.mp; assumption) | (apply Int.ofNat_le.mp; assumption) | (apply oa8; assumption) | (apply ob0; assumption) | (apply oa9; assumption) | (apply Eq.symm; assumption) | (apply Nat.le_of_eq; assumption) | (apply Int.add_one_le_of_lt; assumption) | (apply Gg; assumption) | (apply Gh; assumption) | (apply Gi; assumption) | (apply oa3; assumption) | (apply oa5; assumption) | (apply oa6; assumption) | (apply ob1; assumption) | (apply ob4; assumption) | (apply ob5; assumption) | (apply ob7; assumption) | (apply ob8; assumption) | (apply Fu; assumption) | (apply oc0; assumption) | (apply od1; assumption) | (apply od2; assumption) | (apply Nat.le_of_succ_le; assumption) | (apply Nat.lt_of_succ_lt; assumption) | (apply Nat.sub_succ_lt_self; assumption) | exact Nat.min_le_left _ _ | exact Nat.zero_add _ | exact Nat.succ_add_eq_add_succ _ _ | exact (Int.natCast_succ _).symm | exact Nat.lt_succ_self _ | exact oa4 _ | exact oa7 _ | exact om3 _ | exact oc6 | (apply Nat.le_trans; assumption; decide) | (apply Nat.lt_of_le_of_lt; assumption; decide) | (apply Nat.lt_of_lt_of_le; assumption; decide) | (apply on1; assumption; decide) | (apply on2; assumption; decide) | (apply of3; assumption; decide) | (apply of4; assumption; decide) | (apply Gm; assumption; decide) | (apply F3; assumption; decide) | (apply oz4; assumption; decide) | (apply oz6; assumption; decide) | (apply Int.le_trans; assumption; decide) | (apply Int.lt_of_le_of_lt; assumption; decide) | (apply Int.lt_of_lt_of_le; assumption; decide) | (apply oi1; assumption; decide) | (apply oi2; assumption; decide) | (apply oi3; assumption; decide) | (apply on3; assumption; decide) | (apply on4; assumption; decide) | (apply on5; assumption; decide) | (apply on6; assumption; decide) | (apply on7; assumption; decide) | (apply om2; assumption; decide) | (apply Eg; decide) | (apply Gk; decide) | (apply Int.emod_lt_of_pos; decide) | (apply oc2; decide) | (apply oc4; decide) | (apply on8; decide) | (apply oc3; decide; decide) | (apply og1; assumption; assumption) | (apply og2; assumption; assumption) | (apply od9; assumption; assumption) | (apply oe0; assumption; assumption) | (apply od3; assumption; assumption) | (apply od4; assumption; assumption) | (apply Nat.lt_of_le_of_ne; assumption; assumption) | (apply oe1; assumption; assumption) | (apply oe2; assumption; assumption) | (apply oe5; assumption; assumption) | (apply ob6; assumption; assumption) | (apply Nat.le_trans; assumption; assumption) | (apply Nat.lt_of_lt_of_le; assumption; assumption) | (apply Nat.lt_of_le_of_lt; assumption; assumption) | (apply Int.le_trans; assumption; assumption) | (apply Int.lt_of_lt_of_le; assumption; assumption) | (apply Int.lt_of_le_of_lt; assumption; assumption) | (apply And.intro; assumption; assumption) | (apply Eq.trans; assumption; assumption) | (apply oe7; assumption; assumption; assumption) | (apply od5; assumption; assumption; assumption) | (apply oc7; assumption; assumption; assumption; decide) | (apply oc8; assumption; assumption; assumption; decide) | (apply od0; assumption; assumption; assumption; decide) | (apply od8; assumption; assumption; assumption; decide) | (apply oe3; assumption; assumption; decide) | (apply oe4; assumption; assumption; decide) | (apply oe6; assumption; assumption; decide) | (apply Gj; assumption; assumption; decide) | (apply ob3; assumption; assumption; decide) | (apply Gn; assumption; assumption; decide) | (apply oi4; assumption; assumption; decide) | (apply oi5; assumption; assumption; decide) | (apply oi6; assumption; assumption; decide) | (apply Fv; assumption; assumption; decide) | (apply oc9; assumption; assumption; decide) | (apply od6; assumption; assumption; decide) | (apply og3; assumption; assumption; decide) | decide)
namespace L2
open PySem PySem.Spec PyProof.Rows
variable {A:Around} {C a b dx f:Addr} {E Q:Value->Shared->Prop} {K:Frag} {M:Model} {P:Program} {base h h':Heap} {body:List Stmt} {c e tg:Expr} {ch fp:List Addr} {es:List Expr} {fd:FuncData} {g':Array GenState} {i j k n t':Nat} {kindOf:Str->Option NameKind} {kw:List (Str×Value)} {m x:Str} {mA mg:Str->Option Value} {op:CmpOp} {p pos pos':Pos} {pins:List (Addr×Obj)} {ps:List Str} {s s':Shared} {u:Value} {us:List Value} {w:World}
abbrev rN:=Sum Int Str
def CA:rN->Value->Bool
 | .inl k,v=>Value.isInt k v
 | .inr x,v=>Value.isStrOf x v
def FX(w:World):rN->Int
 | .inl k=>hashInt k
 | .inr x=>hashStr w x
theorem cu:∀{k:rN} {v:Value},CA k v=true->(∃i t,k=Sum.inl i/\v=Value.int i t)\/(∃x t,k=Sum.inr x/\v=Value.str x t)
 | .inl i,v,h=>by
  obtain⟨t,e⟩:=Value.isInt_shape (k:=i) (v:=v) h;exact .inl ⟨i,t,rfl,e⟩
 | .inr x,v,h=>by
  obtain⟨t,e⟩:=Value.isStrOf_shape (x:=x) (v:=v) h;exact .inr ⟨x,t,rfl,e⟩
theorem C6(a b:Int):decide ((Sum.inl a:rN)=Sum.inl b)=(a == b):=by
 by_cases e:a=b
 ·subst e;simp
 ·have h:¬(Sum.inl a:rN)=Sum.inl b:=fun q=>e (Sum.inl.inj q)
  rw [decide_eq_false h];exact(beq_eq_false_iff_ne.mpr e).symm
theorem C9(a b:Str):decide ((Sum.inr a:rN)=Sum.inr b)=decide (a=b):=by
 by_cases e:a=b
 ·subst e;simp
 ·have h:¬(Sum.inr a:rN)=Sum.inr b:=fun q=>e (Sum.inr.inj q)
  rw [decide_eq_false h,decide_eq_false e]
theorem C7(a:Int)(b:Str):decide ((Sum.inl a:rN)=Sum.inr b)=false:=decide_eq_false (fun q=>nomatch q)
theorem C8(a:Str)(b:Int):decide ((Sum.inr a:rN)=Sum.inl b)=false:=decide_eq_false (fun q=>nomatch q)
def qF(prog:Program)(w:World):PySem.KeyKind prog w rN where
 is:=CA
 hash:=FX w
 inj:=fun v a b ha hb=>by
  rcases cu ha with⟨i,t,rfl,rfl⟩ | ⟨x,t,rfl,rfl⟩
  ·rcases cu hb with⟨j,u,rfl,e⟩ | ⟨y,u,rfl,e⟩
   ·injection e with e1 _;rw [e1]
   ·exact nomatch e
  ·rcases cu hb with⟨j,u,rfl,e⟩ | ⟨y,u,rfl,e⟩
   ·exact nomatch e
   ·injection e with e1 _;rw [e1]
 byValue:=fun k v h=>by
  rcases cu h with⟨i,t,rfl,rfl⟩ | ⟨x,t,rfl,rfl⟩<;>rfl
 pyHash:=fun hv h=>by
  rcases cu hv with⟨i,t,rfl,rfl⟩ | ⟨x,t,rfl,rfl⟩
  ·exact wpAny_pyHash_int h
  ·exact wpAny_pyHash_str h
 eqBool:=fun hu hv h=>by
  rcases cu hu with⟨i,t,rfl,rfl⟩ | ⟨x,t,rfl,rfl⟩
  ·rcases cu hv with⟨j,u,rfl,rfl⟩ | ⟨y,u,rfl,rfl⟩
   ·rw [C6]at h;exact wpAny_eqBool_int h
   ·rw [C7]at h;exact SeqAt.EqAt.int_str i t y u _ _ _ _ h
  ·rcases cu hv with⟨j,u,rfl,rfl⟩ | ⟨y,u,rfl,rfl⟩
   ·rw [C8]at h;exact SeqAt.EqAt.str_int x t j u _ _ _ _ h
   ·rw [C9]at h;exact wpAny_eqBool_str h
 «strs»:=fun k x t v h=>by
  rcases cu h with⟨i,u,rfl,e⟩ | ⟨y,u,rfl,e⟩
  ·exact nomatch e
  ·injection e with e1 _
   subst e1
   cases v<;>rfl
inductive V where
 | non | bl (b:Bool) | int (i:Int) | str (x:Str) | byt (b:Array UInt8) | flt (b:UInt64) | ref (a:Addr) | ty (n:String)
 deriving DecidableEq
variable {v y:V} {vs xs:List V}
def aS:V->Value->Prop
 | .non,u=>u=Value.none
 | .bl b,u=>u=Value.bool b
 | .int i,u=>∃t,u=Value.int i t
 | .str x,u=>∃t,u=Value.str x t
 | .byt b,u=>∃t,u=Value.bytes b t
 | .flt b,u=>∃t,u=Value.float b t
 | .ref a,u=>u=Value.ref a
 | .ty n,u=>u=Value.type n
abbrev aQ:List V->List Value->Prop:=Paired aS
theorem aQ.length(r:aQ xs us):xs.length=us.length:=Paired.length r
theorem aQ.get:∀{xs:List V} {us:List Value} {i:Nat} {x:V},aQ xs us->xs[i]?=some x->∃u,us[i]?=some u/\aS x u
 | _,_,_,_,.nil,e=>by simp at e
 | _,_,0,_,.cons r _,e=>by simp at e;subst e;exact⟨_,rfl,r⟩
 | _,_,i+1,x,.cons _ t,e=>by
  obtain⟨u,h1,h2⟩:=aQ.get (i:=i) (x:=x) t (by simpa using e);exact⟨u,by simpa using h1,h2⟩
theorem aQ.set{x:V}(r:aS x u):∀{xs:List V} {us:List Value} (i:Nat),aQ xs us->aQ (xs.set i x) (us.set i u)
 | _,_,_,.nil=>.nil
 | _,_,0,.cons _ t=>.cons r t
 | _,_,i+1,.cons q t=>.cons q (aQ.set r i t)
theorem aQ.append:∀{xs ys:List V} {us ws:List Value},aQ xs us->aQ ys ws->aQ (xs++ys) (us++ws)
 | _,_,_,_,.nil,s=>s
 | _,_,_,_,.cons r t,s=>.cons r (aQ.append t s)
theorem aQ.take:∀{xs:List V} {us:List Value} (n:Nat),aQ xs us->aQ (xs.take n) (us.take n)
 | _,_,0,_=>.nil
 | _,_,_+1,.nil=>.nil
 | _,_,n+1,.cons r t=>.cons r (aQ.take n t)
theorem aQ.drop:∀{xs:List V} {us:List Value} (n:Nat),aQ xs us->aQ (xs.drop n) (us.drop n)
 | _,_,0,r=>r
 | _,_,_+1,.nil=>.nil
 | _,_,n+1,.cons _ t=>aQ.drop n t
def oH:Option V->Option Value->Prop
 | some v,some u=>aS v u
 | none,none=>True
 | _,_=>False
def KV{κ:Type}:List (κ×V)->List (κ×Value)->Prop:=Paired fun(p:κ×V) (q:κ×Value)=>p.1=q.1/\aS p.2 q.2
def kV:rN->V
 | .inl i=>.int i
 | .inr x=>.str x
inductive HO where
 | lst (xs:List V)
 | tup (xs:List V)
 | dK (kvs:List (rN×V)) | dT (kvs:List (List rN×V))
 | set (S:Int->Bool) (n:Nat)
 | ins (C dx:Addr) (fs:List (Str×V))
 | own (x:Addr)
 | xd (fs:List (Str×V))
 | met (f x:Addr)
 | rng (lo hi:Int)
 | frz (o:Obj) (u:HO)
 | tbl (ps:Array Value)
 | ext (φ:Heap->Prop)
variable {o:HO}
abbrev Hp:=Addr->Option HO
variable {H H':Hp} {R:V->V->Hp->Prop}
def upd(H:Hp)(a:Addr)(o:HO):Hp:=fun b=>if b=a then some o else H b
theorem ag:upd H a o a=some o:=by unfold upd;rw [if_pos rfl]
theorem aj(h:b≠a):upd H a o b=H b:=by unfold upd;rw [if_neg h]
theorem de{u:HO}:upd (upd H a o) a u=upd H a u:=by
 funext b;unfold upd;split<;>rfl
theorem gy{u:HO}(h:H a=some o)(h':H b=some u)(d:o≠u):a≠b:=by
 intro e;subst e;rw [h]at h';exact d (Option.some.inj h')
theorem au(h:H a=some o)(h':H b=none):a≠b:=by
 intro e;subst e;rw [h]at h';cases h'
section
variable (P:Program) (w:World)
def dh(H:Hp)(h:Heap)(a:Addr):HO->Prop
 | .lst xs=>xs.length<=sizeLine/\∃(its:List Value) (n:Nat),aQ xs its/\h.get? a=some { cls:=.type "list",data:=.seq its.toArray n }
 | .tup xs=>xs.length<=sizeLine/\∃its:List Value,aQ xs its/\IsTup h a its.toArray
 | .dK kvs=>kvs.length<=sizeLine/\(a == sysModules)=false/\∃vs,KV kvs vs/\h.DictOf (qF P w) a vs
 | .dT kvs=>kvs.length<=sizeLine/\(a == sysModules)=false/\∃xs:List (List rN×Addr×Value),
   Paired (fun(p:List rN×V) (q:List rN×Addr×Value)=>p.1=q.1/\H q.2.1=some (.tup (p.1.map kV))/\aS p.2 q.2.2) kvs xs/\
   ∃o es ep,h.get? a=some o/\o.ExactDict/\o.data=.dict es ep/\es.toList=xs.map (entryOfKey (tupleKind (qF P w)))/\(xs.map (·.1)).Nodup
 | .set S n=>h.SetOf (intKind P w) a S n
 | .ins C dx fs=>H dx=some (.own a)/\fs.length<=1000/\dx≠a/\h.get? a=some (instObj C dx)/\
   ∃mA,h.Ns1 dx mA/\(∀f,oH (fs.lookup f) (mA f))/\PySem.Within mA (fs.map (·.1))
 | .own _=>∃o,h.get? a=some o
 | .xd fs=>∃mA,h.Ns1 a mA/\∀f,oH (fs.lookup f) (mA f)
 | .rng lo hi=>∃t u v,h.get? a=some { cls:=.type "range",data:=.fields #[.int lo t,.int hi u,.int 1 v] }
 | .frz o u=>h.get? a=some o/\dh H h a u
 | .tbl ps=>h.get? a=some { cls:=.none,data:=.fields ps }
 | .met f x=>h.get? a=some (PySem.W.methodObj (.ref f) (.ref x))
 | .ext φ=>φ h/\(∃o,h.get? a=some o)/\∀h1 h2:Heap,φ h1->(∀o,h1.get? a=some o->h2.get? a=some o)->φ h2
def jC(H:Hp)(h:Heap):Prop:=∀a o,H a=some o->dh P w H h a o
end
theorem dh.lt(x:dh P w H h a o):a < h.objs.size:=by
 cases o with
 | lst xs=>obtain⟨_,_,_,_,e⟩:=x;exact ab7 e
 | tup xs=>obtain⟨_,_,_,p⟩:=x;exact p.lt
 | dK kvs=>obtain⟨_,_,_,_,o,_,_,e,_⟩:=x;exact ab7 e
 | dT kvs=>obtain⟨_,_,_,_,o,_,_,e,_⟩:=x;exact ab7 e
 | set S n=>obtain⟨o,_,_,_,e,_⟩:=x;exact ab7 e
 | ins C dx fs=>obtain⟨_,_,_,e,_⟩:=x;exact ab7 e
 | own y=>obtain⟨_,e⟩:=x;exact ab7 e
 | xd fs=>obtain⟨_,⟨_,_,_,e,_⟩,_⟩:=x;exact ab7 e
 | rng lo hi=>obtain⟨_,_,_,e⟩:=x;exact ab7 e
 | frz ob u=>obtain⟨e,_⟩:=x;exact ab7 e
 | tbl ps=>exact ab7 (show h.get? a=some _ from x)
 | met f y=>exact ab7 (show h.get? a=some _ from x)
 | ext φ=>obtain⟨_,⟨_,e⟩,_⟩:=x;exact ab7 e
theorem Paired.mapP{α β:Type}{F G:α->β->Prop}:∀{Yj:List α} {Yk:List β},Paired F Yj Yk->(∀a b,F a b->G a b)->Paired G Yj Yk
 | _,_,.nil,_=>.nil
 | _,_,.cons r t,f=>.cons (f _ _ r) (Paired.mapP t f)
theorem dh.stay(x:dh P w H h a o)(k:∀b u,(b=a\/H b=some (.own a))->h.get? b=some u->h'.get? b=some u)
  (ho:∀b,H b=some (.own a)->H' b=some (.own a)) (ht:∀b xs,H b=some (.tup xs)->H' b=some (.tup xs)):dh P w H' h' a o:=by
 induction o with
 | lst xs=>obtain⟨z,its,n,r,e⟩:=x;exact⟨z,its,n,r,k _ _ (.inl rfl) e⟩
 | tup xs=>obtain⟨z,its,r,ob,e,c⟩:=x;exact⟨z,its,r,ob,k _ _ (.inl rfl) e,c⟩
 | dK kvs=>obtain⟨z,y,vs,r,ob,es,ep,e,c⟩:=x;exact⟨z,y,vs,r,ob,es,ep,k _ _ (.inl rfl) e,c⟩
 | dT kvs=>
  obtain⟨z,y,xs,r,ob,es,ep,e,c⟩:=x;exact⟨z,y,xs,Paired.mapP r fun p q z=>⟨z.1,ht _ _ z.2.1,z.2.2⟩,ob,es,ep,k _ _ (.inl rfl) e,c⟩
 | set S n=>obtain⟨ob,es,ep,t,e,c⟩:=x;exact⟨ob,es,ep,t,k _ _ (.inl rfl) e,c⟩
 | ins C dx fs=>
  obtain⟨d,z,ne,e,mA,⟨od,es,ep,e2,c⟩,r⟩:=x;exact⟨ho _ d,z,ne,k _ _ (.inl rfl) e,mA,⟨od,es,ep,k _ _ (.inr d) e2,c⟩,r⟩
 | own y=>obtain⟨ob,e⟩:=x;exact⟨ob,k _ _ (.inl rfl) e⟩
 | xd fs=>obtain⟨mA,⟨od,es,ep,e,c⟩,r⟩:=x;exact⟨mA,⟨od,es,ep,k _ _ (.inl rfl) e,c⟩,r⟩
 | rng lo hi=>obtain⟨t,u,v,e⟩:=x;exact⟨t,u,v,k _ _ (.inl rfl) e⟩
 | frz ob u ih=>obtain⟨e,q⟩:=x;exact⟨k _ _ (.inl rfl) e,ih q⟩
 | tbl ps=>
  have e:h.get? a=some { cls:=.none,data:=.fields ps }:=x;show h'.get? a=some { cls:=.none,data:=.fields ps };exact k a _ (.inl rfl) e
 | met f y=>
  have e:h.get? a=some (PySem.W.methodObj (.ref f) (.ref y)):=x;show h'.get? a=some (PySem.W.methodObj (.ref f) (.ref y));exact k a _ (.inl rfl) e
 | ext φ=>obtain⟨p,⟨o,e⟩,st⟩:=x;exact⟨st _ _ p fun o q=>k _ _ (.inl rfl) q,⟨o,k _ _ (.inl rfl) e⟩,st⟩
theorem jC.lt(x:jC P w H h)(e:H a=some o):a < h.objs.size:=(x a o e).lt
theorem jC.fresh(x:jC P w H h)(e:h.objs.size<=a):H a=none:=by
 cases q:H a with
 | none=>rfl
 | some u=>exact absurd (ab0 (x.lt q) e) (ah1 _)
theorem jC.kept(x:jC P w H h)(k:∀b u,h.get? b=some u->h'.get? b=some u):jC P w H h':=fun a o e=>
 (x a o e).stay (fun b u _ q=>k b u q) (fun _ q=>q) fun _ _ q=>q
theorem jC.laid(x:jC P w H h)(k:∀b u,h.get? b=some u->h'.get? b=some u)(hp:h.objs.size<=a)(new:dh P w (upd H a o) h' a o):jC P w (upd H a o) h':=fun b u e=>by
 have hn:=x.fresh hp
 by_cases hb:b=a
 ·subst hb;rw [ag]at e;cases e;exact new
 ·rw [aj hb]at e
  exact(x b u e).stay (fun c v _ q=>k c v q) (fun c q=>by rw [aj (au q hn)];exact q) fun c xs q=>by rw [aj (au q hn)];exact q
def Rd(H:Hp)(a:Addr)(u:HO):Prop:=H a=some u\/∃o,H a=some (.frz o u)
theorem Rd.ok{u:HO}(r:Rd H a u)(x:jC P w H h):dh P w H h a u:=by
 rcases r with r | ⟨o,r⟩
 ·exact x a u r
 ·obtain⟨_,q⟩:=x a _ r
  exact q
def Fo:Option HO->Prop
 | some (.lst _)=>True
 | some (.dK _)=>True
 | some (.dT _)=>True
 | some (.set _ _)=>True
 | some (.ins _ _ _)=>True
 | some (.ext _)=>True
 | _=>False
section
variable {x e:Addr} {o':HO}
theorem jC.write(ok:jC P w H h)(mu:Fo (H x))(he:e=x\/H e=some (.own x))(k:∀b u,b≠e->h.get? b=some u->h'.get? b=some u)(heo:∃u,h'.get? e=some u)
  (new:dh P w (upd H x o') h' x o'):jC P w (upd H x o') h':=fun b u q=>by
 have nown:∀c y,H c=some (.own y)->c≠x:=fun c y r z=>by subst z;rw [r]at mu;exact mu
 have ntup:∀c xs,H c=some (.tup xs)->c≠x:=fun c xs r z=>by subst z;rw [r]at mu;exact mu
 by_cases hb:b=x
 ·subst hb;rw [ag]at q;cases q;exact new
 ·rw [aj hb]at q
  by_cases hbe:b=e
  ·have q':H b=some (.own x):=by
    rcases he with z | z
    ·exact absurd (hbe.trans z) hb
    ·rw [hbe];exact z
   rw [q]at q';cases q';obtain⟨v,hv⟩:=heo;exact⟨v,by rw [hbe];exact hv⟩
  ·refine(ok b u q).stay (fun c v hc r=>k c v ?_ r) (fun c r=>by rw [aj (nown c b r)];exact r) fun c xs r=>by rw [aj (ntup c xs r)];exact r
   rcases hc with rfl | hc
   ·exact hbe
   ·rintro rfl
    rcases he with z | z
    ·exact nown c b hc z
    ·rw [hc]at z;cases z;exact hb rfl
end
structure Un(fs ex:List Addr)(H H':Hp)(h h':Heap):Prop where
 keep:∀b o,h.get? b=some o->H b=none->b∉fs->b∉ex->h'.get? b=some o
 slot:∀b o,h.get? b=some o->H b=none->b∈fs->b∉ex->∃sl,h'.get? b=some { o with slots:=sl }
 free:∀b o,h.get? b=some o->H b=none->b∉ex->H' b=none
 there:∀b o,h.get? b=some o->b∉ex->∃o',h'.get? b=some o'
 tups:∀b xs,H b=some (.tup xs)->H' b=some (.tup xs)
 frzs:∀b o u,H b=some (.frz o u)->H' b=some (.frz o u)
 tbls:∀b ps,H b=some (.tbl ps)->∃more,H' b=some (.tbl (ps++more))
section
variable {fs fs' ex ex':List Addr} {H1 H2:Hp} {h1 h2:Heap} {x e:Addr}
theorem Un.any(u:Un fs ex H H1 h h1){ob:Obj}(q:h.get? b=some ob)(n:H b=none)(hx:b∉ex):∃sl,h1.get? b=some { ob with slots:=sl }:=by
 by_cases hb:b∈fs
 ·exact u.slot b ob q n hb hx
 ·exact⟨ob.slots,u.keep b ob q n hb hx⟩
theorem Un.kept(k:∀b u,h.get? b=some u->h'.get? b=some u):Un fs ex H H h h':=
 ⟨fun b ob q _ _ _=>k b ob q,fun b ob q _ _ _=>⟨ob.slots,k b ob q⟩,fun _ _ _ n _=>n,fun b ob q _=>⟨ob,k b ob q⟩,fun _ _ q=>q,fun _ _ _ q=>q,fun _ ps q=>⟨#[],by rw [q];simp⟩⟩
theorem Un.refl:Un fs ex H H h h:=Un.kept fun _ _ q=>q
theorem Un.laid(k:∀b u,h.get? b=some u->h'.get? b=some u)(hp:h.objs.size<=a)(hn:H a=none):Un fs ex H (upd H a o) h h' where
 keep:=fun b u q _ _ _=>k b u q
 slot:=fun b u q _ _ _=>⟨u.slots,k b u q⟩
 free:=fun b u q n _=>by rw [aj (ac6 (ab0 (ab7 q) hp))];exact n
 there:=fun b u q _=>⟨u,k b u q⟩
 tups:=fun b xs q=>by rw [aj (au q hn)];exact q
 frzs:=fun b u xs q=>by rw [aj (au q hn)];exact q
 tbls:=fun b ps q=>⟨#[],by rw [aj (au q hn),q];simp⟩
theorem Un.write(mu:Fo (H x))(he:e=x\/H e=some (.own x))(k:∀b u,b≠e->h.get? b=some u->h'.get? b=some u)(heo:∃u,h'.get? e=some u):Un fs ex H (upd H x o) h h':=by
 have hx:∀b,H b=none->b≠x:=fun b n z=>by subst z;rw [n]at mu;exact mu
 have hb:∀b,H b=none->b≠e:=fun b n z=>by
  subst z;rcases he with r | r
  ·exact hx b n r
  ·rw [n]at r;cases r
 have hm:∀b u,H b=some u->¬Fo (some u)->b≠x:=fun b u q nm z=>by subst z;rw [q]at mu;exact nm mu
 refine⟨fun b u q n _ _=>k b u (hb b n) q,fun b u q n _ _=>⟨u.slots,k b u (hb b n) q⟩,fun b u q n _=>by rw [aj (hx b n)];exact n,fun b u q _=>?_,
  fun b xs q=>by rw [aj (hm b _ q fun z=>z)];exact q,fun b u xs q=>by rw [aj (hm b _ q fun z=>z)];exact q,fun b ps q=>⟨#[],by rw [aj (hm b _ q fun z=>z),q];simp⟩⟩
 by_cases hbe:b=e
 ·subst hbe;exact heo
 ·exact⟨u,k b u hbe q⟩
end
def Fx(h:Heap)(H:Hp):List Addr:=(List.range h.objs.size).filter fun a=>(H a).isSome
def qw(h:Heap)(H:Hp):Heap:=PySem.W.hideAll h (Fx h H)
theorem wW(h:Heap)(H:Hp):(qw h H).objs.size=h.objs.size:=PySem.W.hideAll_size _ _
theorem yA{o:Obj}(e:h.get? b=some o)(n:H b=none):(qw h H).get? b=some o:=
 PySem.W.hideAll_get _ e fun hm=>by
  have q:(H b).isSome=true:=(aq0.mp hm).2;rw [n]at q;simp at q
theorem Bg{o:Obj}(e:(qw h H).get? b=some o):h.get? b=some o/\H b=none:=by
 have e':h.get? b=some o:=PySem.W.of_hideAll (Fx h H) e;refine⟨e',?_⟩
 cases q:H b with
 | none=>rfl
 | some x=>
  have hm:b∈Fx h H:=aq0.mpr ⟨ah6.mpr (ab7 e'),by simp [q]⟩;have z:(qw h H).get? b=none:=PySem.W.hideAll_none (Fx h H) hm;rw [z]at e;cases e
structure Mod(K:Frag)(mg:Str->Option Value)(base:Heap):Prop where
 kin:K.In base
 glob:base.Ns mainGlobals mg
 blt:∃mb,base.Ns builtinsNs mb/\∀x:Str,x≠"__name__"->mb x=bootBuiltins x
 nolimit:base.NoLimit
structure Cx where
 prog:Program
 w:World
 K:Frag
 mg:Str->Option Value
 base:Heap
 A:Around
 N:List Str
 Zh:Shared
 Z2:Hp
 env:Env
 outer:List Env
 stack:List Env
 ex:List Addr
 fn:Str->Bool
 calm:Bool
 pn:List (Addr×Obj)
 xe:Value->Shared->Prop
variable {X:Cx}
def tR(l:List Env):List Addr:=l.filterMap (·.frame)
abbrev Cx.fs(X:Cx):List Addr:=tR X.outer
def Fp(sc:Scope)(x:Str):Prop:=sc.names.lookup x=some .local\/sc.names.lookup x=some .cell\/sc.names.lookup x=some .free
def Ea(sc:Scope)(x:Str):Prop:=sc.names.lookup x=some .local\/sc.names.lookup x=some .cell
def FL(env:Env)(h:Heap)(m:Str->Option Value)(x:Str)(u:Value):Prop:=
 (env.kindOf x=some .local/\m x=some u)\/((env.kindOf x=some .cell\/env.kindOf x=some .free)/\∃c,env.cells.lookup x=some c/\h.IsCell c (some u))
structure Cx.Ok(X:Cx):Prop where
 mod:Mod X.K X.mg X.base
 kind:X.env.scope.kind=.function
 glob:X.env.globals=mainGlobals
 blt:X.env.builtins=builtinsNs
 above:X.Zh.heap.objs.size<=X.env.locals
 inj:∀x y c,X.env.cells.lookup x=some c->X.env.cells.lookup y=some c->x=y
 has:∀x,(X.env.kindOf x=some .cell\/X.env.kindOf x=some .free)->∃c,X.env.cells.lookup x=some c
 cab:∀x c,X.fn x=true->X.env.cells.lookup x=some c->X.Zh.heap.objs.size<=c
 hd:X.calm=true->X.A.handled=none
 frames:X.A.frames=some X.stack
 stk:X.stack=X.outer\/(X.stack=X.env::X.outer/\X.env.frame=some X.env.locals)
 exf:∀b∈X.ex,b≠X.env.locals/\∀x c,X.env.cells.lookup x=some c->c≠b
 bs:∀b o,X.base.get? b=some o->X.Zh.heap.get? b=some o/\X.Z2 b=none
 bsz:X.base.objs.size<=X.Zh.heap.objs.size
 noex:∀b o,X.base.get? b=some o->b∉X.ex
 exfs:∀b∈X.ex,b∉X.fs
 funs:X.Zh.heap.FunFrames X.base X.outer
 frf:∀b∈X.fs,X.Z2 b=none
structure aJ(X:Cx)(pins:List (Addr×Obj))(Z:List (Option V))(H:Hp)(s:Shared):Prop where
 ok:X.Ok
 os:s.os=X.Zh.os
 bare:AllBare s.gens
 base:Un X.fs X.ex X.Z2 H X.Zh.heap s.heap
 loc:∃m,s.heap.Ns X.env.locals m/\∀(i:Nat) (x:Str) (v:V),X.N[i]?=some x->Z[i]?=some (some v)->Fp X.env.scope x->∃u,aS v u/\FL X.env s.heap m x u
 cell:∀x c,X.env.cells.lookup x=some c->∃v,s.heap.IsCell c v
 free:H X.env.locals=none
 freeC:∀x c,X.env.cells.lookup x=some c->H c=none
 pin:∀p∈X.pn++pins,s.heap.get? p.1=some p.2/\H p.1=none/\p.1≠X.env.locals/\p.1∉X.fs/\∀v,p.2.data≠.cell v
 hok:jC X.prog X.w H s.heap
 len:Z.length=X.N.length
section
variable {Z:List (Option V)}
theorem Cx.Ok.nofr(ok:X.Ok){o:Obj}(e:X.base.get? b=some o):b∉X.fs:=fun hb=>by
 have:=(ok.funs.mem hb).1
 rw [e]at this;cases this
theorem aJ.bs(I:aJ X pins Z H s):∀b o,X.base.get? b=some o->s.heap.get? b=some o/\H b=none:=fun b o e=>
 ⟨I.base.keep b o (I.ok.bs b o e).1 (I.ok.bs b o e).2 (I.ok.nofr e) (I.ok.noex b o e),I.base.free b o (I.ok.bs b o e).1 (I.ok.bs b o e).2 (I.ok.noex b o e)⟩
theorem aJ.bk(I:aJ X pins Z H s):∀b o,X.base.get? b=some o->s.heap.get? b=some o:=fun b o e=>(I.bs b o e).1
theorem aJ.mod(I:aJ X pins Z H s):Mod X.K X.mg X.base:=I.ok.mod
theorem aJ.kIn(I:aJ X pins Z H s):X.K.In s.heap:=I.ok.mod.kin.keeps I.bk
theorem aJ.lt(I:aJ X pins Z H s):X.env.locals < s.heap.objs.size:=let ⟨_,hn,_⟩:=I.loc;hn.lt
theorem aJ.sz(I:aJ X pins Z H s):X.Zh.heap.objs.size<=s.heap.objs.size:=ab9 I.ok.above (ah8 I.lt)
theorem aJ.nofs(I:aJ X pins Z H s)(h:s.heap.objs.size<=a):a∉X.fs:=fun hb=>by
 obtain⟨_,o,ho,_⟩:=I.ok.funs.mem hb;exact absurd (ab0 (ab7 ho) (ab9 I.sz h)) (ah1 _)
theorem aJ.cne(I:aJ X pins Z H s):∀x c,X.env.cells.lookup x=some c->c≠X.env.locals:=fun x c e z=>by
 obtain⟨v,o,ho,hd⟩:=I.cell x c e;obtain⟨m,⟨o',es,ep,ho',hd',_⟩,_⟩:=I.loc;rw [z,ho']at ho;cases ho;rw [hd']at hd;cases hd
theorem aJ.funs(I:aJ X pins Z H s):s.heap.FunFrames X.base X.outer:=by
 have all:∀(l:List Env),(∀b∈tR l,b∈X.fs)->X.Zh.heap.FunFrames X.base l->s.heap.FunFrames X.base l:=by
  intro l
  induction l with
  | nil=>intro _ _;trivial
  | cons env r ih=>
   intro hs hl;obtain⟨hk,⟨L,o,hf,hn,ho,hd⟩,hr⟩:=hl;have hL:L∈X.fs:=hs L (by unfold tR;rw [an6,hf];exact ad8);obtain⟨sl,e⟩:=I.base.slot L o ho (I.ok.frf L hL) hL fun z=>I.ok.exfs L z hL;exact⟨hk,⟨L,_,hf,hn,e,hd⟩,ih (fun b hb=>hs b (by unfold tR;rw [an6,hf];exact ae0 _ hb)) hr⟩
 exact all X.outer (fun _ hb=>hb) I.ok.funs
theorem aJ.stack(I:aJ X pins Z H s):s.heap.FunFrames X.base X.stack:=by
 rcases I.ok.stk with e | ⟨e,hf⟩
 ·rw [e];exact I.funs
 ·rw [e]
  obtain⟨m,hn,_⟩:=I.loc;refine .cons (by rw [I.ok.kind];decide) hf hn ?_ I.funs;exact Heap.get?_none_of_le (ab9 I.ok.bsz I.ok.above)
theorem aJ.stkSub(I:aJ X pins Z H s):∀b∈tR X.stack,b∈X.env.locals::X.fs:=fun b hb=>by
 rcases I.ok.stk with e | ⟨e,hf⟩
 ·rw [e]at hb;exact ae0 _ hb
 ·rw [e]at hb
  unfold tR at hb;rw [an6,hf]at hb;exact hb
theorem aJ.stkFree(I:aJ X pins Z H s):∀b∈tR X.stack,H b=none:=fun b hb=>by
 rcases aa8.mp (I.stkSub b hb)with e | hb
 ·rw [e];exact I.free
 ·obtain⟨_,o,ho,_⟩:=I.ok.funs.mem hb
  exact I.base.free b o ho (I.ok.frf b hb) fun z=>I.ok.exfs b z hb
theorem aJ.step{d':Drawn}(I:aJ X pins Z H s)
  (hch:∀b∈ch,(b∈X.ex\/X.Zh.heap.objs.size<=b)/\b≠X.env.locals/\(∀x c,X.env.cells.lookup x=some c->c≠b)/\∀p∈X.pn++pins,p.1≠b)
  (keep:∀b o,b≠X.env.locals->b∉X.fs->b∉ch->s.heap.get? b=some o->H b=none->h'.get? b=some o)
  (slot:∀b o,b≠X.env.locals->b∈X.fs->b∉ch->s.heap.get? b=some o->H b=none->∃sl,h'.get? b=some { o with slots:=sl }) (free:∀b o,b∉ch->s.heap.get? b=some o->H b=none->H' b=none)
  (there:∀b o,b∉ch->s.heap.get? b=some o->∃o',h'.get? b=some o')
  (tups:∀b xs,H b=some (.tup xs)->H' b=some (.tup xs)) (frzs:∀b o u,H b=some (.frz o u)->H' b=some (.frz o u)) (tbls:∀b ps,H b=some (.tbl ps)->∃more,H' b=some (.tbl (ps++more)))
  (ns:∀m,s.heap.Ns X.env.locals m->h'.Ns X.env.locals m) (hok:jC X.prog X.w H' h') (hg:AllBare g') :
  aJ X pins Z H' { s with heap:=h',gens:=g',drawn:=d',toks:=t' }:=by
 have neL:∀b o,X.Zh.heap.get? b=some o->b≠X.env.locals:=fun b o e=>ac6 (ab0 (ab7 e) I.ok.above)
 have neC:∀b o,X.Zh.heap.get? b=some o->b∉X.ex->b∉ch:=fun b o e hx hb=>by
  rcases(hch b hb).1 with z | z
  ·exact hx z
  ·exact absurd (ab0 (ab7 e) z) (ah1 _)
 have cellK:∀x c,X.env.cells.lookup x=some c->∀v,s.heap.IsCell c v->h'.IsCell c v:=fun x c e v ⟨o,ho,hd⟩=>by
  have nch:c∉ch:=fun z=>(hch c z).2.2.1 x c e rfl
  by_cases hc:c∈X.fs
  ·obtain⟨sl,q⟩:=slot c o (I.cne x c e) hc nch ho (I.freeC x c e)
   exact⟨_,q,hd⟩
  ·exact⟨o,keep c o (I.cne x c e) hc nch ho (I.freeC x c e),hd⟩
 refine⟨I.ok,I.os,hg,⟨fun b o e n hb hx=>?_,fun b o e n hb hx=>?_,fun b o e n hx=>?_,fun b o e hx=>?_,fun b xs e=>tups b xs (I.base.tups b xs e),fun b o xs e=>frzs b o xs (I.base.frzs b o xs e),fun b ps e=>?_⟩,?_,fun x c e=>?_,?_,fun x c e=>?_,fun p hp=>?_,hok,I.len⟩
 ·exact keep b o (neL b o e) hb (neC b o e hx) (I.base.keep b o e n hb hx) (I.base.free b o e n hx)
 ·obtain⟨sl,e1⟩:=I.base.slot b o e n hb hx
  obtain⟨sl',e2⟩:=slot b _ (neL b o e) hb (neC b o e hx) e1 (I.base.free b o e n hx);exact⟨sl',e2⟩
 ·obtain⟨o',e1⟩:=I.base.there b o e hx
  exact free b o' (neC b o e hx) e1 (I.base.free b o e n hx)
 ·obtain⟨o',e1⟩:=I.base.there b o e hx
  exact there b o' (neC b o e hx) e1
 ·obtain⟨m1,e1⟩:=I.base.tbls b ps e
  obtain⟨m2,e2⟩:=tbls b _ e1;exact⟨m1++m2,by rw [e2,Array.append_assoc]⟩
 ·obtain⟨m,hn,hl⟩:=I.loc
  refine⟨m,ns m hn,fun i x v e1 e2 e3=>?_⟩;obtain⟨u,r,l⟩:=hl i x v e1 e2 e3;refine⟨u,r,?_⟩;rcases l with l | ⟨k,c,e,z⟩
  ·exact .inl l
  ·exact .inr ⟨k,c,e,cellK x c e _ z⟩
 ·obtain⟨v,z⟩:=I.cell x c e
  exact⟨v,cellK x c e v z⟩
 ·obtain⟨m,⟨o,_,_,ho,_⟩,_⟩:=I.loc
  exact free _ o (fun z=>(hch _ z).2.1 rfl) ho I.free
 ·obtain⟨v,o,ho,hd⟩:=I.cell x c e
  exact free c o (fun z=>(hch c z).2.2.1 x c e rfl) ho (I.freeC x c e)
 ·obtain⟨e,n,ne,nf,d⟩:=I.pin p hp
  have nch:p.1∉ch:=fun z=>(hch p.1 z).2.2.2 p hp rfl;exact⟨keep p.1 p.2 ne nf nch e n,free p.1 p.2 nch e n,ne,nf,d⟩
theorem aJ.un(I:aJ X pins Z H s)(u:Un X.fs [] H H' s.heap h')(hok:jC X.prog X.w H' h'):aJ X pins Z H' { s with heap:=h',toks:=t' }:=by
 obtain⟨m,⟨o,es,ep,ho,r⟩,_⟩:=id I.loc;obtain⟨sl,hL⟩:=u.any ho I.free (by simp)
 exact I.step (g':=s.gens) (d':=s.drawn) (ch:=[]) (fun _ z=>nomatch z) (fun b o _ hb _ e n=>u.keep b o e n hb (by simp)) (fun b o _ hb _ e n=>u.slot b o e n hb (by simp)) (fun b o _ e n=>u.free b o e n (by simp)) (fun b o _ e=>u.there b o e (by simp)) u.tups u.frzs u.tbls (fun m' hm=>by
  obtain⟨o',es',ep',ho',r'⟩:=hm;rw [ho]at ho';cases ho'
  exact⟨_,es',ep',hL,r'⟩) hok I.bare
theorem aJ.call{d':Drawn}(I:aJ X pins Z H s)(u:Un (tR X.stack) ch H H' s.heap h')(hok:jC X.prog X.w H' h')(hg:AllBare g')
  (hch:∀b∈ch,(b∈X.ex\/X.Zh.heap.objs.size<=b)/\b≠X.env.locals/\(∀x c,X.env.cells.lookup x=some c->c≠b)/\∀p∈X.pn++pins,p.1≠b) :
  aJ X pins Z H' { s with heap:=h',gens:=g',drawn:=d',toks:=t' }:=by
 obtain⟨m,⟨o,es,ep,ho,r⟩,_⟩:=id I.loc;obtain⟨sl,hL⟩:=u.any ho I.free fun z=>(hch _ z).2.1 rfl
 exact I.step (ch:=ch) hch (fun b o hL hb hc e n=>u.keep b o e n (fun z=>(aa8.mp (I.stkSub b z)).elim hL hb) hc) (fun b o _ _ hc e n=>u.any e n hc) (fun b o hc e n=>u.free b o e n hc) (fun b o hc e=>u.there b o e hc) u.tups u.frzs u.tbls (fun m' hm=>by
  obtain⟨o',es',ep',ho',r'⟩:=hm;rw [ho]at ho';cases ho'
  exact⟨_,es',ep',hL,r'⟩) hok hg
theorem aJ.turned{it:Addr}(I:aJ X pins Z H s)(k:∀b o,b≠it->s.heap.get? b=some o->h'.get? b=some o)(hn:H it=none)(hL:it≠X.env.locals)
  (h1:it∈X.ex\/X.Zh.heap.objs.size<=it) (h2:∀x c,X.env.cells.lookup x=some c->c≠it) (h3:∀p∈X.pn++pins,p.1≠it):aJ X pins Z H { s with heap:=h',toks:=t' }:=by
 have nit:∀b u,H b=some u->b≠it:=fun b u e z=>by rw [z,hn]at e;cases e
 refine I.step (g':=s.gens) (d':=s.drawn) (ch:=[it]) (fun b hb=>?_) (fun b o _ _ hc e _=>k b o (fun z=>hc (by simp [z])) e) (fun b o _ _ hc e _=>⟨o.slots,k b o (fun z=>hc (by simp [z])) e⟩) (fun _ _ _ _ n=>n)
  (fun b o hc e=>⟨o,k b o (fun z=>hc (by simp [z])) e⟩) (fun _ _ e=>e) (fun _ _ _ e=>e) (fun b ps e=>⟨#[],by rw [e];simp⟩) (fun m hm=>?_) (fun b u e=>?_) I.bare
 ·have e:b=it:=by simpa using hb
  subst e;exact⟨h1,hL,h2,h3⟩
 ·obtain⟨o,es,ep,ho,r⟩:=hm
  exact⟨o,es,ep,k _ o (Ne.symm hL) ho,r⟩
 ·refine(I.hok b u e).stay (fun c v hc q=>k c v ?_ q) (fun _ q=>q) fun _ _ q=>q
  rcases hc with z | z
  ·rw [z];exact nit b u e
  ·exact nit c _ z
theorem aJ.tok(I:aJ X pins Z H s)(t:Nat):aJ X pins Z H { s with toks:=t }:=I.un (h':=s.heap) (t':=t) Un.refl I.hok
theorem aJ.kept(I:aJ X pins Z H s)(k:∀b u,s.heap.get? b=some u->h'.get? b=some u):aJ X pins Z H { s with heap:=h',toks:=t' }:=I.un (Un.kept k) (I.hok.kept k)
theorem aJ.laid(I:aJ X pins Z H s)(k:∀b u,s.heap.get? b=some u->h'.get? b=some u)(hp:s.heap.objs.size<=a)(new:dh X.prog X.w (upd H a o) h' a o):
  aJ X pins Z (upd H a o) { s with heap:=h',toks:=t' }:=I.un (Un.laid k hp (I.hok.fresh hp)) (I.hok.laid k hp new)
theorem aJ.write{x e:Addr}(I:aJ X pins Z H s)(mu:Fo (H x))(he:e=x\/H e=some (.own x))(k:∀b u,b≠e->s.heap.get? b=some u->h'.get? b=some u)(heo:∃u,h'.get? e=some u)
  (new:dh X.prog X.w (upd H x o) h' x o):aJ X pins Z (upd H x o) { s with heap:=h',toks:=t' }:=I.un (Un.write mu he k heo) (I.hok.write mu he k heo new)
theorem aJ.pins_of{pins':List (Addr×Obj)}(I:aJ X pins Z H s)(h:∀p∈pins',s.heap.get? p.1=some p.2/\H p.1=none/\p.1≠X.env.locals/\p.1∉X.fs/\∀v,p.2.data≠.cell v):aJ X pins' Z H s:=
 ⟨I.ok,I.os,I.bare,I.base,I.loc,I.cell,I.free,I.freeC,fun p hp=>(ac9.mp hp).elim (fun z=>I.pin p (ah2 _ z)) (h p),I.hok,I.len⟩
theorem sI{N:List Str}(hN:N.Nodup)(a:N[i]?=some x)(b:N[j]?=some x):i=j:=by
 obtain⟨h1,e1⟩:=aa3.mp a;obtain⟨h2,e2⟩:=aa3.mp b;exact(List.getElem_inj hN).mp (e1.trans e2.symm)
theorem p7{Q:Unit->Shared->Prop}(I:aJ X pins Z H s)(hN:X.N.Nodup)(hi:X.N[i]?=some x)(hx:Ea X.env.scope x)(r:aS v u)
  (h:∀s',aJ X pins (Z.set i (some v)) H s'->(∃a,Heap.SameBut a s.heap s'.heap/\(a=X.env.locals\/X.env.cells.lookup x=some a))->Q () s') (hf:X.fn x=true\/X.env.scope.names.lookup x=some .local:=by first | exact .inl rfl | exact .inr rfl | assumption):wpAny M A (storeName X.env x u) Q E s:=by
 obtain⟨m,hn,hl⟩:=id I.loc
 have hcls:(X.env.scope.kind == .class || (X.env.scope.kind == .module && X.env.locals != X.env.globals))=false:=by rw [I.ok.kind];rfl
 have Yl:i < Z.length:=by rw [I.len];exact(aa3.mp hi).1
 have cne:=I.cne
 have tracked:∀{a:Addr} {h':Heap},(∃o,s.heap.get? a=some o/\H a=none)->Heap.SameBut a s.heap h'->jC X.prog X.w H h':=fun {a h'} ha hs b ob e=>by
  obtain⟨_,_,hfree⟩:=ha;refine(I.hok b ob e).stay (fun c w' hc q=>(hs.2 c ?_).trans q) (fun _ q=>q) fun _ _ q=>q;rintro rfl;rcases hc with rfl | hc
  ·rw [hfree]at e;cases e
  ·rw [hfree]at hc;cases hc
 rcases hx with hk | hk
 ·refine wpAny_storeName_local hk hn (fun h' hn' hs=>?_) hcls
  obtain⟨oL,_,_,hoL,_⟩:=id hn;refine h _ ⟨I.ok,I.os,I.bare,⟨fun b o e n hb hx=>?_,fun b o e n hb hx=>?_,I.base.free,fun b o e hx=>?_,I.base.tups,I.base.frzs,I.base.tbls⟩,⟨_,hn',fun j y v' e1 e2 e3=>?_⟩,fun y c e=>?_,I.free,I.freeC,fun p hp=>?_,tracked ⟨oL,hoL,I.free⟩ hs,by simpa using I.len⟩ ⟨_,hs,.inl rfl⟩
  ·exact(hs.2 b (ac6 (ab0 (ab7 e) I.ok.above))).trans (I.base.keep b o e n hb hx)
  ·obtain⟨sl,e1⟩:=I.base.slot b o e n hb hx
   exact⟨sl,(hs.2 b (ac6 (ab0 (ab7 e) I.ok.above))).trans e1⟩
  ·obtain⟨o',e1⟩:=I.base.there b o e hx
   exact⟨o',(hs.2 b (ac6 (ab0 (ab7 e) I.ok.above))).trans e1⟩
  ·by_cases hj:j=i
   ·subst hj
    rw [hi]at e1;cases e1;rw [List.getElem?_set_self Yl]at e2;cases e2;exact⟨u,r,.inl ⟨hk,by simp⟩⟩
   ·rw [List.getElem?_set_ne (Ne.symm hj)]at e2
    obtain⟨u',r',q⟩:=hl j y v' e1 e2 e3;refine⟨u',r',?_⟩;rcases q with⟨k,e⟩ | ⟨k,c,e,z⟩
    ·refine .inl ⟨k,?_⟩
     have:y≠x:=fun e=>hj (sI hN e1 (e▸hi))
     simp [this,e]
    ·exact .inr ⟨k,c,e,z.sameBut hs (cne y c e)⟩
  ·obtain⟨w',z⟩:=I.cell y c e
   exact⟨w',z.sameBut hs (cne y c e)⟩
  ·obtain⟨e,n,ne,nf,d⟩:=I.pin p hp
   exact⟨(hs.2 p.1 ne).trans e,n,ne,nf,d⟩
 ·have hfn:X.fn x=true:=by
   rcases hf with z | z
   ·exact z
   ·rw [z]at hk;cases hk
  obtain⟨c,hc⟩:=I.ok.has x (.inl hk);obtain⟨w',z⟩:=I.cell x c hc;refine wpAny_storeName_cell I.ok.kind hk hc z (fun h' hc' hs=>?_);obtain⟨oc,hoc,hocd⟩:=id z;refine h { s with heap:=h' } ⟨I.ok,I.os,I.bare,⟨fun b o e n hb hx=>?_,fun b o e n hb hx=>?_,I.base.free,fun b o e hx=>?_,I.base.tups,I.base.frzs,I.base.tbls⟩,⟨m,hn.sameBut hs (Ne.symm (cne x c hc)),fun j y v' e1 e2 e3=>?_⟩,fun y c' e=>?_,I.free,I.freeC,fun p hp=>?_,tracked ⟨oc,hoc,I.freeC x c hc⟩ hs,by simpa using I.len⟩ ⟨c,hs,.inr hc⟩
  ·exact(hs.2 b (ac6 (ab0 (ab7 e) (I.ok.cab x c hfn hc)))).trans (I.base.keep b o e n hb hx)
  ·obtain⟨sl,e1⟩:=I.base.slot b o e n hb hx
   exact⟨sl,(hs.2 b (ac6 (ab0 (ab7 e) (I.ok.cab x c hfn hc)))).trans e1⟩
  ·obtain⟨o',e1⟩:=I.base.there b o e hx
   exact⟨o',(hs.2 b (ac6 (ab0 (ab7 e) (I.ok.cab x c hfn hc)))).trans e1⟩
  ·by_cases hj:j=i
   ·subst hj
    rw [hi]at e1;cases e1;rw [List.getElem?_set_self Yl]at e2;cases e2;exact⟨u,r,.inr ⟨.inl hk,c,hc,hc'⟩⟩
   ·rw [List.getElem?_set_ne (Ne.symm hj)]at e2
    obtain⟨u',r',q⟩:=hl j y v' e1 e2 e3;refine⟨u',r',?_⟩;rcases q with q | ⟨k,c',e,z'⟩
    ·exact .inl q
    ·refine .inr ⟨k,c',e,z'.sameBut hs ?_⟩
     rintro rfl;exact hj (sI hN e1 (I.ok.inj _ _ _ e hc▸hi))
  ·by_cases hcc:c'=c
   ·subst hcc;exact⟨_,hc'⟩
   ·obtain⟨w2,z2⟩:=I.cell y c' e
    exact⟨w2,z2.sameBut hs hcc⟩
  ·obtain⟨e,n,ne,nf,d⟩:=I.pin p hp
   refine⟨(hs.2 p.1 ?_).trans e,n,ne,nf,d⟩;intro q;rw [q,hoc]at e;have q':oc=p.2:=Option.some.inj e;exact d w' (by rw [<-q'];exact hocd)
theorem ou{Q:Unit->Shared->Prop}(I:aJ X pins Z H s)(hN:X.N.Nodup)(hi:X.N[i]?=some x)(hx:Ea X.env.scope x)(r:aS v u)
  (h:∀s',aJ X pins (Z.set i (some v)) H s'->Q () s') (hf:X.fn x=true\/X.env.scope.names.lookup x=some .local:=by first | exact .inl rfl | exact .inr rfl | assumption):wpAny M A (storeName X.env x u) Q E s:=
 p7 I hN hi hx r (fun s' I' _=>h s' I') hf
theorem aJ.call'(I:aJ X pins Z H s)(ho:s'.os=s.os)(u:Un (tR X.stack) ch H H' s.heap s'.heap)(hok:jC X.prog X.w H' s'.heap)(hg:AllBare s'.gens)
  (hch:∀b∈ch,(b∈X.ex\/X.Zh.heap.objs.size<=b)/\b≠X.env.locals/\(∀x c,X.env.cells.lookup x=some c->c≠b)/\∀p∈X.pn++pins,p.1≠b):aJ X pins Z H' s':=by
 obtain⟨h',g',d',t',o'⟩:=s';have e:o'=s.os:=ho;subst e;exact I.call (g':=g') (t':=t') (d':=d') u hok hg hch
end
abbrev XK:=Value->Option Addr->Hp->Prop
abbrev St:=List (Option V)
variable {Z:St}
abbrev VK:=V->Hp->Prop
abbrev TE:=St->Hp->VK->Prop
variable {ta te:TE}
abbrev TT:=St->Hp->(Bool->Hp->Prop)->Prop
abbrev TA:=St->Hp->(List V->Hp->Prop)->Prop
variable {t:TA}
structure jF where
 nx:St->Hp->Prop
 rt:VK
 bk:St->Hp->Prop:=fun _ _=>False
 ct:St->Hp->Prop:=fun _ _=>False
variable {D:jF}
abbrev TS:=jF->St->Hp->Prop
variable {tb:TS}
def EP(X:Cx)(pins:List (Addr×Obj))(Z:St)(Q:VK)(u:Value)(s':Shared):Prop:=∃v H',aJ X pins Z H' s'/\aS v u/\Q v H'
def TP(X:Cx)(pins:List (Addr×Obj))(Z:St)(Q:Bool->Hp->Prop)(b:Bool)(s':Shared):Prop:=∃H',aJ X pins Z H' s'/\Q b H'
def AP(X:Cx)(pins:List (Addr×Obj))(Z:St)(Q:List V->Hp->Prop)(us:List Value)(s':Shared):Prop:=∃vs H',aJ X pins Z H' s'/\aQ vs us/\Q vs H'
def SP(X:Cx)(pins:List (Addr×Obj))(D:jF)(f:Flow)(s':Shared):Prop:=
 match f with
 | .next=>∃Zc H',aJ X pins Zc H' s'/\D.nx Zc H'
 | .brk=>∃Zc H',aJ X pins Zc H' s'/\D.bk Zc H'
 | .cont=>∃Zc H',aJ X pins Zc H' s'/\D.ct Zc H'
 | .ret u=>∃v Zc H',aJ X pins Zc H' s'/\aS v u/\D.rt v H'
def PE(X:Cx)(e:Expr)(t:TE):Prop:=
 ∀(pins:List (Addr×Obj)) (s:Shared) (Z:St) (H:Hp) (Q:VK),aJ X pins Z H s->t Z H Q->wpAny (model X.prog X.w) X.A (eval e X.env) (EP X pins Z Q) X.xe s
def PT(X:Cx)(e:Expr)(t:TT):Prop:=
 ∀(pins:List (Addr×Obj)) (s:Shared) (Z:St) (H:Hp) (Q:Bool->Hp->Prop),aJ X pins Z H s->t Z H Q->wpAny (model X.prog X.w) X.A (isTrue e X.env (eval e X.env)) (TP X pins Z Q) X.xe s
def PW(X:Cx)(e:Expr)(t:TT):Prop:=
 ∀(whole:Sem Value) (pins:List (Addr×Obj)) (s:Shared) (Z:St) (H:Hp) (Q:Bool->Hp->Prop),aJ X pins Z H s->t Z H Q->wpAny (model X.prog X.w) X.A (isTrue e X.env whole) (TP X pins Z Q) X.xe s
theorem PW.pt{t:TT}(h:PW X e t):PT X e t:=h _
def PA(X:Cx)(es:List Expr)(t:TA):Prop:=
 ∀(pos:Pos) (pins:List (Addr×Obj)) (s:Shared) (Z:St) (H:Hp) (Q:List V->Hp->Prop),aJ X pins Z H s->t Z H Q->wpAny (model X.prog X.w) X.A (spliced (backTo pos (starEach es X.env))) (AP X pins Z Q) X.xe s
def PS(X:Cx)(st:Stmt)(t:TS):Prop:=
 ∀(pins:List (Addr×Obj)) (s:Shared) (Z:St) (H:Hp) (D:jF),aJ X pins Z H s->t D Z H->wpAny (model X.prog X.w) X.A (exec st X.env) (SP X pins D) X.xe s
def vE(X:Cx)(st:List Stmt)(t:TS):Prop:=
 ∀(pins:List (Addr×Obj)) (s:Shared) (Z:St) (H:Hp) (D:jF),aJ X pins Z H s->t D Z H->wpAny (model X.prog X.w) X.A (execs st X.env) (SP X pins D) X.xe s
theorem ck{α:Type}{t:Sem α}{Q Q':α->Shared->Prop}(h:wpAny M A t Q E s)(hQ:∀a s,Q a s->Q' a s):wpAny M A t Q' E s:=af5 h hQ fun _ _ x=>x
section
theorem bin{a b:Expr}{tb:TE}(ha:PE X a ta)(hb:PE X b tb)(I:aJ X pins Z H s)(h:ta Z H fun x H1=>tb Z H1 fun y H2=>R x y H2)
  {α:Type} {Q:α->Shared->Prop} {f:Value->Value->Sem α}
  (hf:∀v u s2 x y H2,aJ X pins Z H2 s2->aS x v->aS y u->R x y H2->wpAny (model X.prog X.w) X.A (f v u) Q X.xe s2) :
  wpAny (model X.prog X.w) X.A (eval a X.env) (fun v Zg=>wpAny (model X.prog X.w) X.A (eval b X.env) (fun u Zw=>wpAny (model X.prog X.w) X.A (f v u) Q X.xe Zw) X.xe Zg) X.xe s:=by
 refine ck (ha pins s Z H _ I h) fun v s1 zq0=>?_;obtain⟨x,H1,I1,r1,q1⟩:=zq0;refine ck (hb pins s1 Z H1 _ I1 q1) fun u s2 zq0=>?_;obtain⟨y,H2,I2,r2,q2⟩:=zq0;exact hf v u s2 x y H2 I2 r1 r2 q2
def DY(i:Nat):TE:=fun Z H Q=>∃v,Z[i]?=some (some v)/\Q v H
def tC(v:V):TE:=fun _ H Q=>Q v H
theorem Du(hN:X.N[i]?=some x)(hv:Fp X.env.scope x)(hd:(x == ("__debug__":Str))=false:=by decide)(hcd:(x == ("__classdict__":Str))=false:=by decide):PE X (.Name x pos) (DY i):=by
 intro pins s Z H Q I h;obtain⟨v,e,h⟩:=h;obtain⟨m,hn,hl⟩:=I.loc;obtain⟨u,r,l⟩:=hl i x v hN e hv;have fin:EP X pins Z Q u s:=⟨v,H,I,r,h⟩;rcases l with⟨hk,hm⟩ | ⟨hk,c,hc,hcell⟩
 ·exact wpAny_Name (wpAny_loadName_local I.ok.kind hk hn hm fin) hd
 ·rcases hk with hk | hk
  ·exact wpAny_Name (wpAny_loadName_cell I.ok.kind hk hc hcell fin) hd
  ·exact wpAny_Name (wpAny_loadName_free I.ok.kind hk hc hcell fin hcd) hd
theorem af{i j pos}:PE X (.Constant (.int i) j pos) (tC (.int i)):=fun _ _ _ H _ I h=>wpAny_Constant_int ⟨.int i,H,I.tok _,⟨_,rfl⟩,h⟩
theorem jc{b j pos}:PE X (.Constant (.bool b) j pos) (tC (.bl b)):=fun _ _ _ H _ I h=>Constant_bool ⟨.bl b,H,I,rfl,h⟩
theorem aV{j pos}:PE X (.Constant .none j pos) (tC .non):=fun _ _ _ H _ I h=>Constant_none ⟨.non,H,I,rfl,h⟩
theorem bD{x j pos}:PE X (.Constant (.str x) j pos) (tC (.str x)):=fun _ _ _ H _ I h=>Calls.Constant_str ⟨.str x,H,I.tok _,⟨_,rfl⟩,h⟩
def Gl(X:Cx)(x:Str):Prop:=X.env.kindOf x=some .globalImplicit
theorem mB(I:aJ X pins Z H s)(hg:Gl X x)(hm:X.mg x=some u)(h:Q u s)
  (hd:(x == ("__debug__":Str))=false:=by decide):wpAny (model X.prog X.w) X.A (eval (.Name x pos) X.env) Q E s:=
 Calls.Name_function_global I.ok.kind hg (Calls.loadGlobal_global (by rw [I.ok.glob];exact I.mod.glob.keeps I.bk) hm h) hd
theorem eX(I:aJ X pins Z H s)(hg:Gl X x)(hm:X.mg x=none)(hv:bootBuiltins x=some u)(h:Q u s)
  (hn:x≠"__name__":=by decide) (hd:(x == ("__debug__":Str))=false:=by decide):wpAny (model X.prog X.w) X.A (eval (.Name x pos) X.env) Q E s:=by
 obtain⟨mb,h1,h2⟩:=I.mod.blt;exact Calls.Name_function_global I.ok.kind hg (Calls.loadGlobal_builtin (by rw [I.ok.glob];exact I.mod.glob.keeps I.bk) hm (by rw [I.ok.blt];exact h1.keeps I.bk) ((h2 x hn).trans hv) h) hd
theorem BA(hg:Gl X x)(hm:X.mg x=some u)(r:aS v u)(hd:(x == ("__debug__":Str))=false:=by decide):PE X (.Name x pos) (tC v):=
 fun _ _ _ H _ I h=>mB I hg hm ⟨v,H,I,r,h⟩ hd
theorem i5(hg:Gl X x)(hm:X.mg x=none)(hv:bootBuiltins x=some u)(r:aS v u)(hn:x≠"__name__":=by decide)(hd:(x == ("__debug__":Str))=false:=by decide):PE X (.Name x pos) (tC v):=
 fun _ _ _ H _ I h=>eX I hg hm hv ⟨v,H,I,r,h⟩ hn hd
variable {a b:Expr} {tb:TE}
def tB(t:TE):TT:=fun Z H Q=>t Z H fun x H1=>∃c,x=.bl c/\Q c H1
variable {tA tB':TT} {rest:List Expr}
def DO(t u:TT):TT:=fun Z H Q=>t Z H fun c H1=>if c=true then u Z H1 Q else Q false H1
def Ga(t u:TT):TT:=fun Z H Q=>t Z H fun c H1=>if c=true then Q true H1 else u Z H1 Q
def DT(t:TT):TT:=fun Z H Q=>t Z H fun c H1=>Q (!c) H1
theorem fj(ha:PT X a tA):PW X (.BoolOp .And [a] pos) tA:=by
 intro wh pins s Z H Q I h;refine isTrue_and (ck (ha pins s Z H Q I h) fun c s1 e=>?_)
 cases c with
 | true=>exact isTrue_and_nil e
 | false=>exact e
theorem cW(ha:PT X a tA):PW X (.BoolOp .Or [a] pos) tA:=by
 intro wh pins s Z H Q I h;refine isTrue_or (ck (ha pins s Z H Q I h) fun c s1 e=>?_)
 cases c with
 | false=>exact isTrue_or_nil e
 | true=>exact e
theorem fY(ha:PT X a tA)(hb:PW X (.BoolOp .And (b::rest) pos) tB'):PW X (.BoolOp .And (a::b::rest) pos) (DO tA tB'):=by
 intro wh pins s Z H Q I h;refine isTrue_and (ck (ha pins s Z H _ I h) fun c s1 zq0=>?_);obtain⟨H1,I1,q1⟩:=zq0
 cases c with
 | true=>exact hb wh pins s1 Z H1 Q I1 q1
 | false=>exact⟨H1,I1,q1⟩
theorem dq(ha:PT X a tA)(hb:PW X (.BoolOp .Or (b::rest) pos) tB'):PW X (.BoolOp .Or (a::b::rest) pos) (Ga tA tB'):=by
 intro wh pins s Z H Q I h;refine isTrue_or (ck (ha pins s Z H _ I h) fun c s1 zq0=>?_);obtain⟨H1,I1,q1⟩:=zq0
 cases c with
 | true=>exact⟨H1,I1,q1⟩
 | false=>exact hb wh pins s1 Z H1 Q I1 q1
theorem cI(ha:PT X a tA):PT X (.UnaryOp .Not a pos) (DT tA):=by
 intro pins s Z H Q I h;exact isTrue_not (ha pins s Z H (fun c H1=>Q (!c) H1) I h)
def tK(ta tb:TE):TE:=fun Z H Q=>ta Z H fun x H1=>∃c,x=.bl c/\if c=true then tb Z H1 Q else Q (.bl false) H1
def Ah(ta tb:TE):TE:=fun Z H Q=>ta Z H fun x H1=>∃c,x=.bl c/\if c=true then Q (.bl true) H1 else tb Z H1 Q
def tO(ta:TE):TE:=fun Z H Q=>ta Z H fun x H1=>∃c,x=.bl c/\Q (.bl (!c)) H1
theorem q9{op}{t:TE}(h:PE X a t):PE X (.BoolOp op [a] pos) t:=fun pins s Z H Q I hw=>BoolOp_one (h pins s Z H Q I hw)
theorem qZ(ha:PE X a ta)(hb:PE X (.BoolOp .And (b::rest) pos) tb):PE X (.BoolOp .And (a::b::rest) pos) (tK ta tb):=by
 intro pins s Z H Q I h;refine BoolOp_and (ck (ha pins s Z H _ I h) fun v s1 zq0=>?_);obtain⟨x,H1,I1,r1,q1⟩:=zq0;obtain⟨c,rfl,q1⟩:=q1;cases r1;refine ae1 ?_
 cases c with
 | true=>exact hb pins s1 Z H1 Q I1 q1
 | false=>exact⟨.bl false,H1,I1,rfl,q1⟩
theorem E4(ha:PE X a ta)(hb:PE X (.BoolOp .Or (b::rest) pos) tb):PE X (.BoolOp .Or (a::b::rest) pos) (Ah ta tb):=by
 intro pins s Z H Q I h;refine BoolOp_or (ck (ha pins s Z H _ I h) fun v s1 zq0=>?_);obtain⟨x,H1,I1,r1,q1⟩:=zq0;obtain⟨c,rfl,q1⟩:=q1;cases r1;refine ae1 ?_
 cases c with
 | false=>exact hb pins s1 Z H1 Q I1 q1
 | true=>exact⟨.bl true,H1,I1,rfl,q1⟩
theorem Ds(ha:PE X a ta):PE X (.UnaryOp .Not a pos) (tO ta):=by
 intro pins s Z H Q I h;refine UnaryOp_ (ck (ha pins s Z H _ I h) fun v s1 zq0=>?_);obtain⟨x,H1,I1,r1,q1⟩:=zq0;obtain⟨c,rfl,q1⟩:=q1;cases r1;exact not_of (ae1 ⟨.bl (!c),H1,I1,rfl,q1⟩)
def F9(t:TT)(ta tb:TE):TE:=fun Z H Q=>t Z H fun c H1=>if c=true then ta Z H1 Q else tb Z H1 Q
theorem dQ(hc:PT X c tA)(ha:PE X a ta)(hb:PE X b tb):PE X (.IfExp c a b pos) (F9 tA ta tb):=by
 intro pins s Z H Q I h;refine wpAny_IfExp (ck (hc pins s Z H _ I h) fun d s1 zq0=>?_);obtain⟨H1,I1,q1⟩:=zq0
 cases d with
 | true=>exact ha pins s1 Z H1 Q I1 q1
 | false=>exact hb pins s1 Z H1 Q I1 q1
end
def aL(K:Frag)(H:Hp)(a:Addr)(xs:List V):Prop:=
 Rd H a (.lst xs)\/
  ∃(o:Obj) (its:Array Value) (n:Nat),K.lookup a=some o/\o.cls=.type "list"/\o.dict=none/\o.data=.seq its n/\its.size<=sizeLine/\aQ xs its.toList
def bH(K:Frag)(H:Hp)(a:Addr)(xs:List V):Prop:=
 Rd H a (.tup xs)\/
  ∃(o:Obj) (its:Array Value) (n:Nat),K.lookup a=some o/\o.cls=.type "tuple"/\o.data=.seq its n/\its.size<=sizeLine/\aQ xs its.toList
def FR:Value->Option V
 | .none=>some .non
 | .bool b=>some (.bl b)
 | .int i _=>some (.int i)
 | .str x _=>some (.str x)
 | .bytes b _=>some (.byt b)
 | .float b _=>some (.flt b)
 | .ref a=>some (.ref a)
 | .type n=>some (.ty n)
 | _=>none
theorem aS.abs{x:V}(r:aS x u):FR u=some x:=by
 cases x with
 | non=>cases r;rfl
 | bl _=>cases r;rfl
 | int _=>obtain⟨t,rfl⟩:=r;rfl
 | str _=>obtain⟨t,rfl⟩:=r;rfl
 | byt _=>obtain⟨t,rfl⟩:=r;rfl
 | flt _=>obtain⟨t,rfl⟩:=r;rfl
 | ref _=>cases r;rfl
 | ty _=>cases r;rfl
theorem aS.inj{x:V}(r:aS x u)(q:aS y u):x=y:=Option.some.inj (r.abs.symm.trans q.abs)
theorem aQ.inj:∀{xs ys:List V} {us:List Value},aQ xs us->aQ ys us->xs=ys
 | _,_,_,.nil,.nil=>rfl
 | _,_,_,.cons r t,.cons r' t'=>by rw [r.inj r',aQ.inj t t']
section
variable {ys:List V}
theorem aL.of(h:H a=some (.lst xs)):aL K H a xs:=.inl (.inl h)
theorem bH.of(h:H a=some (.tup xs)):bH K H a xs:=.inl (.inl h)
theorem aJ.list(I:aJ X pins Z H s)(h:aL X.K H a xs):∃its:List Value,aQ xs its/\PlainL s.heap a its.toArray/\xs.length<=sizeLine:=by
 rcases h with h | ⟨o,its,n,hk,hc,hd,hs,hz,r⟩
 ·obtain⟨z,its,n,r,e⟩:=h.ok I.hok
  exact⟨its,r,⟨_,n,e,rfl,rfl,rfl⟩,z⟩
 ·refine⟨its.toList,r,⟨o,n,I.kIn a o hk,hc,hd,by simpa using hs⟩,?_⟩
  have e:=r.length;simp only [an7]at e;omega
theorem aJ.tuple(I:aJ X pins Z H s)(h:bH X.K H a xs):∃its:List Value,aQ xs its/\IsTup s.heap a its.toArray/\xs.length<=sizeLine:=by
 rcases h with h | ⟨o,its,n,hk,hc,hs,hz,r⟩
 ·obtain⟨z,its,r,p⟩:=h.ok I.hok
  exact⟨its,r,p,z⟩
 ·refine⟨its.toList,r,⟨o,I.kIn a o hk,hc,n,by simpa using hs⟩,?_⟩
  have e:=r.length;simp only [an7]at e;omega
theorem aJ.list_inj(I:aJ X pins Z H s)(h:aL X.K H a xs)(h':aL X.K H a ys):xs=ys:=by
 obtain⟨its,r,⟨o,n,e,_,_,d⟩,_⟩:=I.list h;obtain⟨its',r',⟨o',n',e',_,_,d'⟩,_⟩:=I.list h';rw [e]at e';cases e';rw [d]at d'
 injection d' with d1 _
 have:its=its':=by simpa using congrArg Array.toList d1
 subst this;exact r.inj r'
theorem aJ.tuple_inj(I:aJ X pins Z H s)(h:bH X.K H a xs)(h':bH X.K H a ys):xs=ys:=by
 obtain⟨its,r,⟨o,e,_,n,d⟩,_⟩:=I.tuple h;obtain⟨its',r',⟨o',e',_,n',d'⟩,_⟩:=I.tuple h';rw [e]at e';cases e';rw [d]at d'
 injection d' with d1 _
 have:its=its':=by simpa using congrArg Array.toList d1
 subst this;exact r.inj r'
end
abbrev Cx.wish(X:Cx)(E:Value->Shared->Prop):Cx:={ X with xe:=E }
abbrev Cx.nox(X:Cx):Cx:=X.wish fun _ _=>False
theorem Cx.Ok.wish(ok:X.Ok)(E:Value->Shared->Prop):(X.wish E).Ok:=
 ⟨ok.mod,ok.kind,ok.glob,ok.blt,ok.above,ok.inj,ok.has,ok.cab,ok.hd,ok.frames,ok.stk,ok.exf,ok.bs,ok.bsz,ok.noex,ok.exfs,ok.funs,ok.frf⟩
theorem Cx.Ok.unwish(ok:(X.wish E).Ok):X.Ok:=
 ⟨ok.mod,ok.kind,ok.glob,ok.blt,ok.above,ok.inj,ok.has,ok.cab,ok.hd,ok.frames,ok.stk,ok.exf,ok.bs,ok.bsz,ok.noex,ok.exfs,ok.funs,ok.frf⟩
theorem aJ.wish(I:aJ X pins Z H s)(E:Value->Shared->Prop):aJ (X.wish E) pins Z H s:=⟨I.ok.wish E,I.os,I.bare,I.base,I.loc,I.cell,I.free,I.freeC,I.pin,I.hok,I.len⟩
theorem aJ.unwish(I:aJ (X.wish E) pins Z H s):aJ X pins Z H s:=⟨I.ok.unwish,I.os,I.bare,I.base,I.loc,I.cell,I.free,I.freeC,I.pin,I.hok,I.len⟩
theorem SP.unwish{f:Flow}(h:SP (X.wish E) pins D f s'):SP X pins D f s':=by
 cases f with
 | next=>obtain⟨Zc,H',I,q⟩:=h;exact⟨Zc,H',I.unwish,q⟩
 | brk=>obtain⟨Zc,H',I,q⟩:=h;exact⟨Zc,H',I.unwish,q⟩
 | cont=>obtain⟨Zc,H',I,q⟩:=h;exact⟨Zc,H',I.unwish,q⟩
 | ret u=>obtain⟨v,Zc,H',I,r,q⟩:=h;exact⟨v,Zc,H',I.unwish,r,q⟩
theorem vE.nox{st:List Stmt}{t:TS}(h:vE X.nox st t):vE X st t:=fun pins s Z H D I hw=>
 af5 (h pins s Z H D (I.wish _) hw) (fun _ _ q=>q.unwish) fun _ _ z=>False.elim z
section
variable {st:Stmt} {rest:List Stmt} {t u:TS}
def wc:TS:=fun D Z H=>D.nx Z H
def hV(t u:TS):TS:=fun D Z H=>t { D with nx:=u D } Z H
theorem aF:vE X [] wc:=fun _ _ Z H _ I h=>an1 ⟨Z,H,I,h⟩
theorem ae(h1:PS X st t)(h2:vE X rest u):vE X (st::rest) (hV t u):=by
 intro pins s Z H D I h;refine wpAny_execs_cons (ck (h1 pins s Z H { D with nx:=u D } I h) fun f s1 q=>?_)
 cases f with
 | next=>
  obtain⟨Zc,H',I',q⟩:=q;exact h2 pins s1 Zc H' D I' q
 | ret v=>exact q
 | brk=>exact q
 | cont=>exact q
theorem ai(h1:PS X st t):vE X [st] t:=by
 intro pins s Z H D I h;refine wpAny_execs_cons (ck (h1 pins s Z H D I h) fun f s1 q=>?_)
 cases f with
 | next=>exact an1 q
 | ret v=>exact q
 | brk=>exact q
 | cont=>exact q
def Ab:TS:=fun D Z H=>D.ct Z H
theorem sX:PS X (.Continue pos) Ab:=fun _ _ Z H _ I h=>wpAny_Continue ⟨Z,H,I,h⟩
theorem aJ.quiet(I:aJ X pins Z H s):interactive X.env=false:=by simp [interactive,I.ok.kind]
def Ac(te:TE):TS:=fun D Z H=>te Z H fun _ H1=>D.nx Z H1
theorem bF(he:PE X e te)(hs:swapsWith e none pos.line X.env=pure false:=by rfl):PS X (.Expr e pos) (Ac te):=by
 intro pins s Z H D I h;exact wpAny_Expr_any (ck (he pins s Z H _ I h) fun v s1 ⟨x,H1,I1,r1,q1⟩=>⟨Z,H1,I1,q1⟩) I.quiet hs
def DX(te:TE):TS:=fun D Z H=>te Z H D.rt
theorem aw(he:PE X e te):PS X (.Return (some e) pos) (DX te):=by
 intro pins s Z H D I h;exact wpAny_Return_some (ck (he pins s Z H _ I h) fun v s1 ⟨x,H1,I1,r1,q1⟩=>⟨x,Z,H1,I1,r1,q1⟩)
def CI:TS:=fun D _ H=>D.rt .non H
def Ad(c:TT)(t u:TS):TS:=fun D Z H=>c Z H fun b H1=>if b=true then t D Z H1 else u D Z H1
theorem aW{a b:List Stmt}{tc:TT}(hc:PT X c tc)(ha:vE X a t)(hb:vE X b u):PS X (.If c a b pos) (Ad tc t u):=by
 intro pins s Z H D I h;refine wpAny_If (ck (hc pins s Z H _ I h) fun d s1 zq0=>?_);obtain⟨H1,I1,q1⟩:=zq0
 cases d with
 | true=>exact ha pins s1 Z H1 D I1 q1
 | false=>exact hb pins s1 Z H1 D I1 q1
def DS:TS:=fun _ _ _=>False
theorem ke:PS X st DS:=fun _ _ _ _ _ _ h=>h.elim
end
abbrev TG:=V->St->Hp->(St->Hp->Prop)->Prop
variable {g:TG}
abbrev AA:=List V->St->Hp->(St->Hp->Prop)->Prop
def PG(X:Cx)(target:Expr)(t:TG):Prop:=
 ∀(pins:List (Addr×Obj)) (s:Shared) (Z:St) (H:Hp) (v:V) (u:Value) (Q:St->Hp->Prop),aJ X pins Z H s->aS v u->t v Z H Q->
  wpAny (model X.prog X.w) X.A (assign target X.env u) (fun _ s'=>∃Zc H',aJ X pins Zc H' s'/\Q Zc H') X.xe s
def Ej(X:Cx)(ts:List Expr)(t:AA):Prop:=
 ∀(pins:List (Addr×Obj)) (s:Shared) (Z:St) (H:Hp) (vs:List V) (us:List Value) (Q:St->Hp->Prop),aJ X pins Z H s->aQ vs us->t vs Z H Q->
  wpAny (model X.prog X.w) X.A (assignInOrder ((assignEach ts X.env).map (·.2)) us) (fun _ s'=>∃Zc H',aJ X pins Zc H' s'/\Q Zc H') X.xe s
abbrev AB:=V->V->V->Hp->(Hp->Prop)->Prop
def CM(X:Cx)(t:AB):Prop:=
 ∀(pins:List (Addr×Obj)) (s:Shared) (Z:St) (H:Hp) (o i v:V) (ov iv u:Value) (Q:Hp->Prop),aJ X pins Z H s->aS o ov->aS i iv->aS v u->t o i v H Q->
  wpAny (model X.prog X.w) X.A (setItem ov iv u) (fun _ s'=>∃H',aJ X pins Z H' s'/\Q H') X.xe s
abbrev Ed:=V->V->Hp->VK->Prop
def PIp(X:Cx)(op:Operator)(t:Ed):Prop:=
 ∀(pins:List (Addr×Obj)) (s:Shared) (Z:St) (H:Hp) (x y:V) (v u:Value) (Q:VK),aJ X pins Z H s->aS x v->aS y u->t x y H Q->
  wpAny (model X.prog X.w) X.A (inplaceOp op v u) (EP X pins Z Q) X.xe s
def g8(i:Nat):TG:=fun v Z H Q=>Q (Z.set i (some v)) H
theorem bL(hN:X.N.Nodup)(hi:X.N[i]?=some x)(hx:Ea X.env.scope x)(hf:X.fn x=true\/X.env.scope.names.lookup x=some .local:=by first | exact .inl rfl | exact .inr rfl | assumption):PG X (.Name x pos) (g8 i):=by
 intro pins s Z H v u Q I r h;exact wpAny_assign_Name (ou I hN hi hx r (fun s' I'=>⟨_,H,I',h⟩) hf)
def Eu:AA:=fun vs Z H Q=>vs=[]/\Q Z H
def Co(t:TG)(u:AA):AA:=fun vs Z H Q=>∃v r,vs=v::r/\t v Z H fun Zc H'=>u r Zc H' Q
theorem cS:Ej X [] Eu:=by
 intro pins s Z H vs us Q I r h;obtain⟨e,h⟩:=h;subst e;cases r;exact assignInOrder_nil ⟨Z,H,I,h⟩
theorem ba{t:TG}{u:AA}(h1:PG X e t)(h2:Ej X es u)
  (hs:(assignEach (e::es) X.env).map (·.2)=assign e X.env::(assignEach es X.env).map (·.2):=by rfl):Ej X (e::es) (Co t u):=by
 intro pins s Z H vs us Q I r h;obtain⟨v,vr,e1,h⟩:=h;subst e1
 cases r with
 | cons r rr=>
  rw [hs];refine assignInOrder_cons (ck (h1 pins s Z H _ _ _ I r h) fun _ s1 zq0=>?_);obtain⟨Z3,H1,I1,q1⟩:=zq0;exact h2 pins s1 Z3 H1 _ _ Q I1 rr q1
def CV(K:Frag)(n:Nat)(t:AA):TG:=fun v Z H Q=>∃a xs,v=.ref a/\bH K H a xs/\xs.length=n/\t xs Z H Q
theorem Dv{t:AA}(hc:X.calm=true)(h:Ej X es t)
  (hn:(assignEach es X.env).length=n:=by rfl) (hst:(assignEach es X.env).findIdx? (·.1)=none:=by rfl):PG X (.Tuple es k pos) (CV X.K n t):=by
 intro pins s Z H v u Q I r hw;obtain⟨a,xs,e1,hq,hl,hw⟩:=hw;subst e1;cases r;obtain⟨its,rv,ht,hz⟩:=I.tuple hq;refine assign_Tuple_tuple (I.ok.hd hc) ht (by simp [hn,<-hl,rv.length]) hst fun h' hx=>?_;have I1:aJ X pins Z H { s with heap:=h' }:=I.kept (t':=s.toks) fun b o e=>hx b o (ac6 (ab7 e)) e;exact h pins _ Z H xs _ Q I1 (by simpa using rv) hw
def Ew(to ti:TE)(t:AB):TG:=fun v Z H Q=>to Z H fun o H1=>ti Z H1 fun i H2=>t o i v H2 fun H3=>Q Z H3
theorem uF{o i:Expr}{to ti:TE}{t:AB}(ho:PE X o to)(hi:PE X i ti)(hs:CM X t)
  (ha:∀v,assign (.Subscript o i pos) X.env v=(do
   let ov <-holding [v] (eval o X.env)
   let iv <-holding [v,ov] (eval i X.env)
   standAt pos
   holding [v,ov,iv] (setItem ov iv v)
   release [v,ov,iv] []):=by intro _;rfl):PG X (.Subscript o i pos) (Ew to ti t):=by
 intro pins s Z H v u Q I r h;rw [ha];refine aa2 (ae2 (ck (ho pins s Z H _ I h) fun ov s1 zq0=>?_));obtain⟨x,H1,I1,r1,q1⟩:=zq0;refine aa2 (ae2 (ck (hi pins s1 Z H1 _ I1 q1) fun iv s2 zq0=>?_));obtain⟨y,H2,I2,r2,q2⟩:=zq0;refine aa2 (am5 (aa2 (ae2 (ck (hs pins s2 Z H2 x y v ov iv u _ I2 r1 r2 r q2) fun _ s3 zq0=>?_))));obtain⟨H3,I3,q3⟩:=zq0;exact wpAny_release ⟨Z,H3,I3,q3⟩
def vo(te:TE)(g:TG):TS:=fun D Z H=>te Z H fun x H1=>g x Z H1 D.nx
theorem lj(he:PE X e te)(hg:PG X tg g)(hs:swapsWithSole [tg] e pos.line X.env=pure false:=by rfl)(hw:swappedStores [tg] e X.env=pure none:=by rfl)
  (h1:(assignEach [tg] X.env).map (·.2)=[assign tg X.env]:=by rfl):PS X (.Assign [tg] e pos) (vo te g):=by
 intro pins s Z H D I h;refine wpAny_Assign_stores (ck (he pins s Z H _ I h) fun v s1 zq0=>?_) hs hw;obtain⟨x,H1,I1,r1,q1⟩:=zq0;rw [h1];exact ck (hg pins s1 Z H1 x v _ I1 r1 q1) fun _ s2 q=>q
theorem zw(hN:X.N.Nodup)(hi:X.N[i]?=some x)(hx:Ea X.env.scope x)(he:PE X e te)(hs:swapsWith e (some (.Name x pos')) pos.line X.env=pure false:=by rfl)(hf:X.fn x=true\/X.env.scope.names.lookup x=some .local:=by first | exact .inl rfl | exact .inr rfl | assumption):
  PS X (.Assign [.Name x pos'] e pos) (vo te (g8 i)):=by
 intro pins s Z H D I h;refine wpAny_Assign_Name (ck (he pins s Z H _ I h) fun v s1 zq0=>?_) hs;obtain⟨y,H1,I1,r1,q1⟩:=zq0;exact ou I1 hN hi hx r1 (fun s2 I2=>⟨_,H1,I2,q1⟩) hf
def z7(i:Nat)(te:TE)(ti:Ed):TS:=fun D Z H=>∃x,Z[i]?=some (some x)/\te Z H fun y H1=>ti x y H1 fun z H2=>D.nx (Z.set i (some z)) H2
theorem zu{op:Operator}{ti:Ed}(hN:X.N.Nodup)(hi:X.N[i]?=some x)(hx:Ea X.env.scope x)(he:PE X e te)(ho:PIp X op ti)(hf:X.fn x=true\/X.env.scope.names.lookup x=some .local:=by first | exact .inl rfl | exact .inr rfl | assumption):
  PS X (.AugAssign (.Name x pos') op e pos) (z7 i te ti):=by
 intro pins s Z H D I h;obtain⟨v,e1,h⟩:=h;obtain⟨m,hn,hl⟩:=I.loc
 have vis:Fp X.env.scope x:=by rcases hx with k | k;exact .inl k;exact .inr (.inl k)
 obtain⟨u,r,l⟩:=hl i x v hi e1 vis;refine wpAny_AugAssign_Name ?_
 have go:wpAny (model X.prog X.w) X.A (eval e X.env) (fun w Zw=>wpAny (model X.prog X.w) X.A (inplaceOp op u w) (fun r Zn=>wpAny (model X.prog X.w) X.A (storeName X.env x r) (fun _=>SP X pins D .next) X.xe Zn) X.xe Zw) X.xe s:=by
  refine ck (he pins s Z H _ I h) fun w s1 zq0=>?_;obtain⟨y,H1,I1,r1,q1⟩:=zq0;refine ck (ho pins s1 Z H1 v y u w _ I1 r r1 q1) fun z s2 zq0=>?_;obtain⟨zv,H2,I2,r2,q2⟩:=zq0;exact ou I2 hN hi hx r2 (fun s3 I3=>⟨_,H2,I3,q2⟩) hf
 rcases l with⟨hk,hm⟩ | ⟨hk,c,hc,hcell⟩
 ·exact wpAny_loadName_local I.ok.kind hk hn hm go
 ·rcases hk with hk | hk
  ·exact wpAny_loadName_cell I.ok.kind hk hc hcell go
  ·rcases hx with k | k
   ·have:X.env.scope.names.lookup x=some .free:=hk
    rw [k]at this;cases this
   ·have:X.env.scope.names.lookup x=some .free:=hk
    rw [k]at this;cases this
def DZ(c:TT)(tb:TS):TS:=fun D Z H=>∃W:Nat->St->Hp->Prop,(∃m,W m Z H)/\∀m Z H,W m Z H->
 c Z H fun b H1=>if b=true then ∃N:St->Hp->Prop,(∀Zc H',N Zc H'->∃m',m' < m/\W m' Zc H')/\tb { D with nx:=N,ct:=N,bk:=D.nx } Z H1 else D.nx Z H1
theorem zx{tc:TT}(hp:PassesOwn (model X.prog X.w) X.A X.env X.xe)(hc:PT X c tc)(hb:vE X body tb):PS X (.While c body [] pos) (DZ tc tb):=by
 intro pins s Z H D I h;obtain⟨W,⟨m0,w0⟩,turn⟩:=h;refine wpAny_While (codeAny_whileLoop (fun n s'=>∃Zc H',aJ X pins Zc H' s'/\W n Zc H') ?_ m0 ⟨Z,H,I,w0⟩);rintro n s1 ⟨Z3,H1,I1,w1⟩;refine ah7 hp (ck (hc pins s1 Z3 H1 _ I1 (turn n Z3 H1 w1)) fun b s2 zq0=>?_);obtain⟨H2,I2,q2⟩:=zq0
 cases b with
 | true=>
  obtain⟨N,hN,q2⟩:=q2;rw [if_pos rfl];refine ah7 hp (ck (hb pins s2 Z3 H2 _ I2 q2) fun f s3 q3=>?_)
  cases f with
  | next=>
   obtain⟨Zr,H3,I3,n3⟩:=q3;obtain⟨m',hm,w3⟩:=hN Zr H3 n3;exact⟨m',hm,Zr,H3,I3,w3⟩
  | cont=>
   obtain⟨Zr,H3,I3,n3⟩:=q3;obtain⟨m',hm,w3⟩:=hN Zr H3 n3;exact⟨m',hm,Zr,H3,I3,w3⟩
  | brk=>exact q3
  | ret v=>exact q3
 | false=>
  rw [if_neg aa6];exact an1 ⟨Z3,H2,I2,q2⟩
structure It where
 go:Nat->Hp->Prop
 yld:Nat->Hp->V->Hp->Prop
 stop:Nat->Hp->Prop
def l6(X:Cx)(pins:List (Addr×Obj))(H:Hp)(b:Addr):Prop:=
 H b=none/\b≠X.env.locals/\b∉X.fs/\(b∈X.ex\/X.Zh.heap.objs.size<=b)/\(∀x c,X.env.cells.lookup x=some c->c≠b)/\∀p∈X.pn++pins,p.1≠b
theorem aJ.fpOk(I:aJ X pins Z H s)(hb:s.heap.objs.size<=b)(hn:H' b=none):l6 X pins H' b:=by
 refine⟨hn,ai8 (ab0 I.lt hb),I.nofs hb,.inr (ab9 I.sz hb),fun x c e z=>?_,fun p hp z=>?_⟩
 ·obtain⟨v,q⟩:=I.cell x c e
  exact absurd (ab0 q.lt (by rw [z];exact hb)) (ah1 _)
 ·exact absurd (ab0 (ab7 (I.pin p hp).1) (by rw [z];exact hb)) (ah1 _)
structure oI(P:Program)(w:World)(K:Frag)(tg:Expr)(J:It)(fp:List Addr)(it:Addr)(tn:Nat->Heap->Prop):Prop where
 mem:it∈fp
 obj:∀i h,tn i h->∀b∈fp,∃o,h.get? b=some o/\∀v,o.data≠.cell v
 keep:∀i h h',tn i h->(∀b∈fp,∀o,h.get? b=some o->h'.get? b=some o)->tn i h'
 item:∀(X:Cx),X.prog=P->X.w=w->X.K=K->X.calm=true->∀(i:Nat) (pins:List (Addr×Obj)) (s:Shared) (Z:St) (H:Hp) (E:Value->Shared->Prop),aJ X pins Z H s->(∀b∈fp,l6 X pins H b)->tn i s.heap->J.go i H->
  wpAny (model P w) X.A (pyNext (.ref it)) (fun r s1=>∃u,r=some u/\
   wpAny (model P w) X.A (letOwnedTupleGo tg (.ref it) u) (fun _ s2=>∃x H',aJ X pins Z H' s2/\aS x u/\J.yld i H x H'/\tn (i+1) s2.heap/\∀b∈fp,H' b=none) E s1) E s
 done:∀(X:Cx),X.prog=P->X.w=w->X.K=K->X.calm=true->∀(i:Nat) (pins:List (Addr×Obj)) (s:Shared) (Z:St) (H:Hp) (E:Value->Shared->Prop),aJ X pins Z H s->(∀b∈fp,l6 X pins H b)->tn i s.heap->J.stop i H->
  wpAny (model P w) X.A (pyNext (.ref it)) (fun r s1=>r=none/\aJ X pins Z H s1) E s
 self:∀(A:Around) (i:Nat) (s:Shared) (Q:Value->Shared->Prop) (E:Value->Shared->Prop),tn i s.heap->Q (.ref it) s->wpAny (model P w) A (pyIter (.ref it)) Q E s
abbrev TI:=St->Hp->(It->Hp->Prop)->Prop
def Ec(X:Cx)(pins:List (Addr×Obj))(Z:St)(tg:Expr)(R:It->Hp->Prop)(itv:Value)(s2:Shared):Prop:=
 ∃(it:Addr) (fp:List Addr) (tn:Nat->Heap->Prop) (J:It) (H':Hp),itv=.ref it/\aJ X pins Z H' s2/\oI X.prog X.w X.K tg J fp it tn/\tn 0 s2.heap/\(∀b∈fp,l6 X pins H' b)/\R J H'
def PI(X:Cx)(tg iter:Expr)(wi:TI):Prop:=
 ∀(pins:List (Addr×Obj)) (s:Shared) (Z:St) (H:Hp) (R:It->Hp->Prop),aJ X pins Z H s->wi Z H R->
  wpAny (model X.prog X.w) X.A (eval iter X.env) (fun v s1=>wpAny (model X.prog X.w) X.A (pyIter v) (Ec X pins Z tg R) X.xe s1) X.xe s
theorem pN{it:Addr}{o:Obj}{n:String}{vs:Array Value}{Q:Unit->Shared->Prop}(ho:s.heap.get? it=some o)(hc:o.cls=.type n)(hd:o.data=.fields vs)
  (hn:["enumerate","zip","dict_itemiterator","dict_reverseitemiterator","odict_iterator","itertools.zip_longest","itertools.pairwise"].contains n=false) (hQ:Q () s):wpAny M A (letOwnedTupleGo tg (.ref it) u) Q E s:=by
 unfold letOwnedTupleGo
 cases tg<;>first
  | exact aa7 hQ
  | (cases u<;>first | exact aa7 hQ | (refine aa2 (wpAny_load ho ?_);rw [hc,hd];show wpAny M A (if (["enumerate","zip","dict_itemiterator","dict_reverseitemiterator","odict_iterator","itertools.zip_longest","itertools.pairwise"].contains n && vs[0]? == some (rawInt _))=true then _ else _) Q E s;rw [if_neg (by intro h;rw [hn,ai4]at h;cases h)];exact aa7 hQ))
def xW(K:Frag)(a:Addr):It:=
 ⟨fun i H=>∃xs x,aL K H a xs/\xs[i]?=some x,fun i H x H'=>H'=H/\∀xs,aL K H a xs->xs[i]?=some x,fun i H=>∃xs,aL K H a xs/\xs.length<=i⟩
def Ce(K:Frag)(a:Addr):It:=
 ⟨fun i H=>∃xs x,bH K H a xs/\xs[i]?=some x,fun i H x H'=>H'=H/\∀xs,bH K H a xs->xs[i]?=some x,fun i H=>∃xs,bH K H a xs/\xs.length<=i⟩
def wm(lo:Int)(n:Nat):It:=⟨fun i _=>i < n,fun i H x H'=>H'=H/\x=.int (lo+i),fun i _=>n<=i⟩
theorem xK(a it:Addr):oI P w K tg (xW K a) [it] it (fun i h=>h.IsListIter it a i) where
 mem:=by simp
 obj:=fun i h st b hb=>by
  have e:b=it:=by simpa using hb
  subst e;obtain⟨o,e,c,d⟩:=st;exact⟨o,e,fun v z=>by rw [d]at z;cases z⟩
 keep:=fun i h h' st k=>st.at fun o e=>k it (by simp) o e
 item:=by
  intro X hP hw hK hc i pins s Z H E I hf st hg;subst hP hw hK;obtain⟨xs,x,hq,hx⟩:=hg;obtain⟨its,rv,p,hz⟩:=I.list hq;obtain⟨u,hu,ru⟩:=rv.get hx;obtain⟨f0,f1,f2,f3,f4,f5⟩:=hf it (by simp);refine wpAny_pyNext_list_item st p.isList (x:=u) (by simpa using hu) fun h' st' sb=>?_;have I1:aJ X pins Z H { s with heap:=h' }:=I.turned (t':=s.toks) (fun b o hb e=>(sb.2 b hb).trans e) f0 f1 f3 f4 f5;obtain⟨o,e,c,d⟩:=id st';exact⟨u,rfl,pN (s:={ s with heap:=h' }) e c d (by decide) ⟨x,H,I1,ru,⟨rfl,fun ys hy=>by rw [I.list_inj hy hq];exact hx⟩,st',fun b hb=>(hf b hb).1⟩⟩
 done:=by
  intro X hP hw hK hc i pins s Z H E I hf st hg;subst hP hw hK;obtain⟨xs,hq,hx⟩:=hg;obtain⟨its,rv,p,hz⟩:=I.list hq;obtain⟨f0,f1,f2,f3,f4,f5⟩:=hf it (by simp);have hl:=rv.length;exact wpAny_pyNext_list_end (I.ok.hd hc) st p.isList (by simp;omega) fun h' eb=>⟨rfl,I.turned (t':=s.toks) (fun b o hb e=>eb b o hb e) f0 f1 f3 f4 f5⟩
 self:=fun _ _ _ _ _ st h=>wpAny_pyIter_listiter st h
theorem vz(a it:Addr):oI P w K tg (Ce K a) [it] it (fun i h=>h.IsTupleIter it a i) where
 mem:=by simp
 obj:=fun i h st b hb=>by
  have e:b=it:=by simpa using hb
  subst e;obtain⟨o,e,c,d⟩:=st;exact⟨o,e,fun v z=>by rw [d]at z;cases z⟩
 keep:=fun i h h' st k=>st.at fun o e=>k it (by simp) o e
 item:=by
  intro X hP hw hK hc i pins s Z H E I hf st hg;subst hP hw hK;obtain⟨xs,x,hq,hx⟩:=hg;obtain⟨its,rv,p,hz⟩:=I.tuple hq;obtain⟨u,hu,ru⟩:=rv.get hx;obtain⟨f0,f1,f2,f3,f4,f5⟩:=hf it (by simp);refine wpAny_pyNext_tuple_item st (show s.heap.IsTuple a its.toArray from p) (x:=u) (by simpa using hu) fun h' st' sb=>?_;have I1:aJ X pins Z H { s with heap:=h' }:=I.turned (t':=s.toks) (fun b o hb e=>(sb.2 b hb).trans e) f0 f1 f3 f4 f5;obtain⟨o,e,c,d⟩:=id st';exact⟨u,rfl,pN (s:={ s with heap:=h' }) e c d (by decide) ⟨x,H,I1,ru,⟨rfl,fun ys hy=>by rw [I.tuple_inj hy hq];exact hx⟩,st',fun b hb=>(hf b hb).1⟩⟩
 done:=by
  intro X hP hw hK hc i pins s Z H E I hf st hg;subst hP hw hK;obtain⟨xs,hq,hx⟩:=hg;obtain⟨its,rv,p,hz⟩:=I.tuple hq;obtain⟨f0,f1,f2,f3,f4,f5⟩:=hf it (by simp);have hl:=rv.length;exact wpAny_pyNext_tuple_end (I.ok.hd hc) st (show s.heap.IsTuple a its.toArray from p) (by simp;omega) fun h' eb=>⟨rfl,I.turned (t':=s.toks) (fun b o hb e=>eb b o hb e) f0 f1 f3 f4 f5⟩
 self:=fun _ _ _ _ _ st h=>wpAny_pyIter_tupleiter st h
theorem oy(it:Addr)(lo:Int)(n:Nat):oI P w K tg (wm lo n) [it] it (fun i h=>IsRangeIter h it (lo+(i:Nat) * 1) ((n:Int) - (i:Nat)) 1) where
 mem:=by simp
 obj:=fun i h st b hb=>by
  have e:b=it:=by simpa using hb
  subst e
  exact⟨_,st,fun v z=>by
   have z':Data.fields _=Data.cell v:=z
   cases z'⟩
 keep:=fun i h h' st k=>k it (by simp) _ st
 item:=by
  intro X hP hw hK hc i pins s Z H E I hf st hg;subst hP hw hK;obtain⟨f0,f1,f2,f3,f4,f5⟩:=hf it (by simp);have W:=Walks.range (prog:=X.prog) (w:=X.w) (I.ok.hd hc) it lo 1 n;refine W.item i s _ _ hg st fun v h' tk hv st' kk=>?_;obtain⟨t,rfl⟩:=hv;have I1:aJ X pins Z H { s with heap:=h',toks:=tk }:=I.turned (fun b o hb e=>kk b o (by simpa using hb) e) f0 f1 f3 f4 f5;refine⟨_,rfl,pN (s:={ s with heap:=h',toks:=tk }) (n:="range_iterator") st' rfl rfl (by decide) ⟨.int (lo+i),H,I1,⟨t,?_⟩,⟨rfl,rfl⟩,st',fun b hb=>(hf b hb).1⟩⟩;rw [ao3]
 done:=by
  intro X hP hw hK hc i pins s Z H E I hf st hg;subst hP hw hK;obtain⟨f0,f1,f2,f3,f4,f5⟩:=hf it (by simp);exact wpAny_pyNext_range_end (I.ok.hd hc) st (by have:n<=i:=hg;omega) fun h' eb=>⟨rfl,I.turned (t':=s.toks) (fun b o hb e=>eb b o hb e) f0 f1 f3 f4 f5⟩
 self:=fun _ _ _ _ _ st h=>wpAny_pyIter_rangeiter st h
theorem tu{R:It->Hp->Prop}{lo hi:Int}{t u v:Tok}{tk:Nat}(I:aJ X pins Z H s)(h1:-(2 ^ 62)<=lo)(h2:lo < 2 ^ 62)(h3:-(2 ^ 62)<=hi)(h4:hi < 2 ^ 62)
  (q:R (wm lo (hi - lo).toNat) H):wpAny (model X.prog X.w) X.A (pyIter (.ref s.heap.objs.size)) (Ec X pins Z tg R) E { s with heap:=s.heap.push { cls:=.type "range",data:=.fields #[.int lo t,.int hi u,.int 1 v] },toks:=tk }:=by
 refine ao0 (IsRange.new ..) (small_one h1 h2 h3 h4) ?_;have I1:aJ X pins Z H { s with heap:=s.heap.push { cls:=.type "range",data:=.fields #[.int lo t,.int hi u,.int 1 v] },toks:=tk }:=I.kept fun b o e=>aa4 _ e
 refine⟨(s.heap.push { cls:=.type "range",data:=.fields #[.int lo t,.int hi u,.int 1 v] }).objs.size,[(s.heap.push { cls:=.type "range",data:=.fields #[.int lo t,.int hi u,.int 1 v] }).objs.size],_,_,H,rfl,
  I1.kept (t':=tk) fun b o e=>aa4 _ e,oy _ lo (hi - lo).toNat,?_,fun b hb=>?_,q⟩
 ·have e1:lo+((0:Nat):Int) * 1=lo:=by simp
  have e2:(((hi - lo).toNat:Nat):Int) - ((0:Nat):Int)=Builtin.Range.rangeSize lo hi 1:=by rw [rangeSize_one];split<;>omega
  show IsRangeIter _ _ (lo+((0:Nat):Int) * 1) ((((hi - lo).toNat:Nat):Int) - ((0:Nat):Int)) 1;rw [e1,e2];exact ab3 _ rfl
 ·have e:b=(s.heap.push { cls:=.type "range",data:=.fields #[.int lo t,.int hi u,.int 1 v] }).objs.size:=by simpa using hb
  subst e;exact I1.fpOk (aa9 _) (I1.hok.fresh (aa9 _))
def Cp(ta:TA):TI:=fun Z H R=>ta Z H fun vs H1=>∃j:Int,vs=[.int j]/\-(2 ^ 62)<=j/\j < 2 ^ 62/\R (wm 0 j.toNat) H1
def Cq(ta:TA):TI:=fun Z H R=>ta Z H fun vs H1=>∃i j:Int,vs=[.int i,.int j]/\(-(2 ^ 62)<=i/\i < 2 ^ 62/\-(2 ^ 62)<=j/\j < 2 ^ 62)/\R (wm i (j - i).toNat) H1
theorem c9{a:Expr}{ta:TA}(hg:Gl X "range")(hm:X.mg "range"=none)(ha:PA X [a] ta)(hs:starEach [a] X.env=[(false,eval a X.env)]:=by rfl):PI X tg (.Call (.Name "range" p) [a] [] pos) (Cp ta):=by
 intro pins s Z H R I h;refine Call_ (eX I hg hm boot_range (PyProof.Rows.callWith_type1 (ck (ha pos pins s Z H _ I h) fun us s1 zq0=>?_) hs rfl));obtain⟨vs,H1,I1,r1,q1⟩:=zq0;obtain⟨j,e,q1,q2,q⟩:=q1;subst e
 cases r1 with
 | cons r rr=>
  cases rr;obtain⟨t,rfl⟩:=r;exact call_range_1 (tu I1 (by omega) (by omega) q1 q2 (by simpa using q))
theorem xv{a b:Expr}{ta:TA}(hg:Gl X "range")(hm:X.mg "range"=none)(ha:PA X [a,b] ta)(hs:starEach [a,b] X.env=[(false,eval a X.env),(false,eval b X.env)]:=by rfl)(hs2:starEach [b] X.env=[(false,eval b X.env)]:=by rfl):
  PI X tg (.Call (.Name "range" p) [a,b] [] pos) (Cq ta):=by
 intro pins s Z H R I h;refine Call_ (eX I hg hm boot_range (PyProof.Rows.callWith_type1 (ck (ha pos pins s Z H _ I h) fun us s1 zq0=>?_) (by rw [hs,hs2]) (by rw [hs2];rfl)));obtain⟨vs,H1,I1,r1,q1⟩:=zq0;obtain⟨i,j,e,⟨q1,q2,q3,q4⟩,q⟩:=q1;subst e
 cases r1 with
 | cons r rr=>
  cases rr with
  | cons r' rr=>
   cases rr;obtain⟨t,rfl⟩:=r;obtain⟨t',rfl⟩:=r';exact call_range_2 (tu I1 q1 q2 q3 q4 q)
def Ff(wi:TI)(g:TG)(tb:TS):TS:=fun D Z H=>wi Z H fun J H1=>∃W:Nat->Nat->St->Hp->Prop,(∃m,W 0 m Z H1)/\∀i m Z H,W i m Z H->
 (J.stop i H/\D.nx Z H)\/(J.go i H/\∃N:St->Hp->Prop,(∀Zc H',N Zc H'->∃m',m' < m/\W (i+1) m' Zc H')/\∀x H',J.yld i H x H'->g x Z H' fun Zf H2=>tb { D with nx:=N,ct:=N,bk:=D.nx } Zf H2)
def rf(fp:List Addr)(h:Heap):List (Addr×Obj):=fp.filterMap fun b=>(h.get? b).map fun o=>(b,o)
theorem eu{o:Obj}(hb:b∈fp)(e:h.get? b=some o):(b,o)∈rf fp h:=List.mem_filterMap.mpr ⟨b,hb,by rw [e];rfl⟩
theorem xi{p:Addr×Obj}(hp:p∈rf fp h):p.1∈fp/\h.get? p.1=some p.2:=by
 obtain⟨b,hb,e⟩:=List.mem_filterMap.mp hp
 cases q:h.get? b with
 | none=>rw [q]at e;cases e
 | some o=>
  rw [q]at e;have e':(b,o)=p:=Option.some.inj e;subst e';exact⟨hb,q⟩
theorem aJ.pinned(I:aJ X pins Z H s)(hf:∀b∈fp,l6 X pins H b)(ho:∀b∈fp,∃o,s.heap.get? b=some o/\∀v,o.data≠.cell v):aJ X (pins++rf fp s.heap) Z H s:=
 I.pins_of fun p hp=>(ac9.mp hp).elim (fun z=>I.pin p (ac7 _ z)) fun z=>by
  obtain⟨hb,e⟩:=xi z;obtain⟨f0,f1,f2,_⟩:=hf p.1 hb;obtain⟨o,e',d⟩:=ho p.1 hb;rw [e]at e';cases e';exact⟨e,f0,f1,f2,d⟩
theorem aJ.unpinned{pl:List (Addr×Obj)}(I:aJ X (pins++pl) Z H s):aJ X pins Z H s:=I.pins_of fun p hp=>I.pin p (ac7 _ (ah2 _ hp))
theorem bK{iter:Expr}{wi:TI}(hp:PassesOwn (model X.prog X.w) X.A X.env X.xe)(hc:X.calm=true)(hi:PI X tg iter wi)(hg:PG X tg g)(hb:vE X body tb)
  (hs:∀x,foldedSetIterable iter X.env x=pure x:=by intro _;rfl):PS X (.For tg iter body [] pos) (Ff wi g tb):=by
 intro pins s Z H D I h;refine wpAny_For (ck (hi pins s Z H _ I h) fun v s1 h1=>ck h1 fun itv s2 h2=>?_) hs;obtain⟨it,fp,tn,J,H2,e,I2,T,st2,f2,W,⟨m0,w0⟩,turn⟩:=h2;subst e;have stat:∀{H':Hp},(∀b∈fp,H' b=none)->∀b∈fp,l6 X pins H' b:=fun hn b hb=>⟨hn b hb,(f2 b hb).2⟩;refine codeAny_forLoop_any (fun n s'=>∃i Zc H',aJ X pins Zc H' s'/\tn i s'.heap/\(∀b∈fp,H' b=none)/\W i n Zc H') ?_ m0 ⟨0,Z,H2,I2,st2,fun b hb=>(f2 b hb).1,w0⟩;rintro n s3 ⟨i,Zr,H3,I3,st3,fr3,w3⟩;rcases turn i n Zr H3 w3 with⟨stop,qn⟩ | ⟨go,N,hN,step⟩
 ·refine ah7 hp (ck (T.done X rfl rfl rfl hc i pins s3 Zr H3 X.xe I3 (stat fr3) st3 stop) fun r s4 zq0=>?_)
  obtain⟨hr,I4⟩:=zq0;subst hr;exact an1 ⟨Zr,H3,I4,qn⟩
 ·refine ah7 hp (ck (T.item X rfl rfl rfl hc i pins s3 Zr H3 X.xe I3 (stat fr3) st3 go) fun r s4 zq0=>?_)
  obtain⟨u,hr,h4⟩:=zq0;subst hr;refine ah7 hp (ck h4 fun _ s5 zq0=>?_);obtain⟨x,H5,I5,r5,y5,st5,fr5⟩:=zq0;have I5':=I5.pinned (stat fr5) (T.obj _ _ st5);refine ah7 hp (ck (hg _ s5 Zr H5 x u _ I5' r5 (step x H5 y5)) fun _ s6 zq0=>?_);obtain⟨Zz,H6,I6,q6⟩:=zq0;refine ah7 hp (ck (hb _ s6 Zz H6 _ I6 q6) fun f s7 q7=>?_)
  have again:∀{Zs:St} {H7:Hp},aJ X (pins++rf fp s5.heap) Zs H7 s7->N Zs H7->∃m,m < n/\∃i Zc H',aJ X pins Zc H' s7/\tn i s7.heap/\(∀b∈fp,H' b=none)/\W i m Zc H':=fun {Zs H7} I7 n7=>by
   obtain⟨m',hm,w7⟩:=hN Zs H7 n7;refine⟨m',hm,i+1,Zs,H7,I7.unpinned,T.keep _ _ _ st5 fun b hb o e=>(I7.pin (b,o) (ac7 _ (ac7 _ (eu hb e)))).1,fun b hb=>?_,w7⟩;obtain⟨o,e,d⟩:=T.obj _ _ st5 b hb;exact(I7.pin (b,o) (ac7 _ (ac7 _ (eu hb e)))).2.1
  cases f with
  | next=>obtain⟨Zs,H7,I7,n7⟩:=q7;exact again I7 n7
  | cont=>obtain⟨Zs,H7,I7,n7⟩:=q7;exact again I7 n7
  | brk=>obtain⟨Zs,H7,I7,q7⟩:=q7;exact⟨Zs,H7,I7.unpinned,q7⟩
  | ret v=>obtain⟨x7,Zs,H7,I7,r7,q7⟩:=q7;exact⟨x7,Zs,H7,I7.unpinned,r7,q7⟩
theorem yx(Pv:Nat->St->Hp->Prop)(h0:Pv 0 Z H)(hl:∀i Z H,i<=xs.length->Pv i Z H->aL K H a xs)
  (hs:∀i x Z H,xs[i]?=some x->Pv i Z H->g x Z H fun Zf H2=>tb { D with nx:=Pv (i+1),ct:=Pv (i+1),bk:=D.nx } Zf H2) (hd:∀Z H,Pv xs.length Z H->D.nx Z H) :
  ∃W:Nat->Nat->St->Hp->Prop,(∃m,W 0 m Z H)/\∀i m Z H,W i m Z H->
   ((xW K a).stop i H/\D.nx Z H)\/((xW K a).go i H/\∃N:St->Hp->Prop,(∀Zc H',N Zc H'->∃m',m' < m/\W (i+1) m' Zc H')/\∀x H',(xW K a).yld i H x H'->g x Z H' fun Zf H2=>tb { D with nx:=N,ct:=N,bk:=D.nx } Zf H2):=by
 refine⟨fun i m Z H=>m=xs.length - i/\i<=xs.length/\Pv i Z H,⟨xs.length,by simp,ad3 _,h0⟩,?_⟩;rintro i m Z H ⟨rfl,hi,p⟩;have q:=hl i Z H hi p
 by_cases hlt:i < xs.length
 ·refine .inr ⟨⟨xs,xs[i],q,by simp [hlt]⟩,Pv (i+1),fun Zc H' p'=>⟨xs.length - (i+1),by omega,rfl,hlt,p'⟩,fun x H' y=>?_⟩
  obtain⟨e,y⟩:=y;subst e;exact hs i x Z _ (y xs q) p
 ·have e:i=xs.length:=by omega
  subst e;exact .inl ⟨⟨xs,q,aa9 _⟩,hd Z H p⟩
theorem AS(Pv:Nat->St->Hp->Prop)(h0:Pv 0 Z H)(hl:∀i Z H,i<=xs.length->Pv i Z H->bH K H a xs)
  (hs:∀i x Z H,xs[i]?=some x->Pv i Z H->g x Z H fun Zf H2=>tb { D with nx:=Pv (i+1),ct:=Pv (i+1),bk:=D.nx } Zf H2) (hd:∀Z H,Pv xs.length Z H->D.nx Z H) :
  ∃W:Nat->Nat->St->Hp->Prop,(∃m,W 0 m Z H)/\∀i m Z H,W i m Z H->
   ((Ce K a).stop i H/\D.nx Z H)\/((Ce K a).go i H/\∃N:St->Hp->Prop,(∀Zc H',N Zc H'->∃m',m' < m/\W (i+1) m' Zc H')/\∀x H',(Ce K a).yld i H x H'->g x Z H' fun Zf H2=>tb { D with nx:=N,ct:=N,bk:=D.nx } Zf H2):=by
 refine⟨fun i m Z H=>m=xs.length - i/\i<=xs.length/\Pv i Z H,⟨xs.length,by simp,ad3 _,h0⟩,?_⟩;rintro i m Z H ⟨rfl,hi,p⟩;have q:=hl i Z H hi p
 by_cases hlt:i < xs.length
 ·refine .inr ⟨⟨xs,xs[i],q,by simp [hlt]⟩,Pv (i+1),fun Zc H' p'=>⟨xs.length - (i+1),by omega,rfl,hlt,p'⟩,fun x H' y=>?_⟩
  obtain⟨e,y⟩:=y;subst e;exact hs i x Z _ (y xs q) p
 ·have e:i=xs.length:=by omega
  subst e;exact .inl ⟨⟨xs,q,aa9 _⟩,hd Z H p⟩
theorem wU{lo:Int}(Pv:Nat->St->Hp->Prop)(h0:Pv 0 Z H)
  (hs:∀i Z H,i < n->Pv i Z H->g (.int (lo+i)) Z H fun Zf H2=>tb { D with nx:=Pv (i+1),ct:=Pv (i+1),bk:=D.nx } Zf H2) (hd:∀Z H,Pv n Z H->D.nx Z H) :
  ∃W:Nat->Nat->St->Hp->Prop,(∃m,W 0 m Z H)/\∀i m Z H,W i m Z H->
   ((wm lo n).stop i H/\D.nx Z H)\/((wm lo n).go i H/\∃N:St->Hp->Prop,(∀Zc H',N Zc H'->∃m',m' < m/\W (i+1) m' Zc H')/\∀x H',(wm lo n).yld i H x H'->g x Z H' fun Zf H2=>tb { D with nx:=N,ct:=N,bk:=D.nx } Zf H2):=by
 refine⟨fun i m Z H=>m=n - i/\i<=n/\Pv i Z H,⟨n,by simp,ad3 _,h0⟩,?_⟩;rintro i m Z H ⟨rfl,hi,p⟩
 by_cases hlt:i < n
 ·refine .inr ⟨hlt,Pv (i+1),fun Zc H' p'=>⟨n - (i+1),by omega,rfl,hlt,p'⟩,fun x H' y=>?_⟩
  obtain⟨e,y⟩:=y;subst e y;exact hs i Z _ hlt p
 ·have e:i=n:=by omega
  subst e;exact .inl ⟨aa9 _,hd Z H p⟩
abbrev R2:=V->V->Hp->VK->Prop
def cX(X:Cx)(f:Value->Value->Sem Value)(r:R2):Prop:=
 ∀(pins:List (Addr×Obj)) (s:Shared) (Z:St) (H:Hp) (x y:V) (v u:Value) (Q:VK),aJ X pins Z H s->aS x v->aS y u->r x y H Q->
  wpAny (model X.prog X.w) X.A (f v u) (EP X pins Z Q) X.xe s
def Em(X:Cx)(f:Value->Sem Value)(r:V->Hp->VK->Prop):Prop:=
 ∀(pins:List (Addr×Obj)) (s:Shared) (Z:St) (H:Hp) (x:V) (v:Value) (Q:VK),aJ X pins Z H s->aS x v->r x H Q->
  wpAny (model X.prog X.w) X.A (f v) (EP X pins Z Q) X.xe s
def cC(X:Cx)(f:Value)(r:List V->Hp->VK->Prop):Prop:=
 ∀(pins:List (Addr×Obj)) (s:Shared) (Z:St) (H:Hp) (xs:List V) (us:List Value) (Q:VK),aJ X pins Z H s->aQ xs us->r xs H Q->
  wpAny (model X.prog X.w) X.A (call f us) (EP X pins Z Q) X.xe s
def FP(X:Cx)(r:V->Hp->(Bool->Hp->Prop)->Prop):Prop:=
 ∀(pins:List (Addr×Obj)) (s:Shared) (Z:St) (H:Hp) (x:V) (v:Value) (Q:Bool->Hp->Prop),aJ X pins Z H s->aS x v->r x H Q->
  wpAny (model X.prog X.w) X.A (truthy v) (TP X pins Z Q) X.xe s
def DU(r:R2)(ta tb:TE):TE:=fun Z H Q=>ta Z H fun x H1=>tb Z H1 fun y H2=>r x y H2 Q
def Ge(r:V->Hp->VK->Prop)(ta:TE):TE:=fun Z H Q=>ta Z H fun x H1=>r x H1 Q
def rI(C:Int->Int->Prop)(g:Int->Int->V):R2:=fun x y H Q=>∃i j,x=.int i/\y=.int j/\C i j/\Q (g i j) H
def tS(g:Int->Int->V):R2:=fun x y H Q=>∃i j,x=.int i/\y=.int j/\Q (g i j) H
def rU(g:Int->V):V->Hp->VK->Prop:=fun x H Q=>∃i,x=.int i/\Q (g i) H
section
variable {a b:Expr} {tb tc:TE}
theorem AF(ha:PE X a ta)(hb:PE X b tb)(I:aJ X pins Z H s)
  (h:ta Z H fun x H1=>tb Z H1 fun y H2=>R x y H2) {Q:Value->Shared->Prop} {f:Value->Value->Sem Value}
  (hf:∀v u s2 x y H2,aJ X pins Z H2 s2->aS x v->aS y u->R x y H2->wpAny (model X.prog X.w) X.A (f v u) Q X.xe s2) :
  wpAny (model X.prog X.w) X.A (eval a X.env) (fun v Zg=>wpAny (model X.prog X.w) X.A (eval b X.env) (fun u Zw=>wpAny (model X.prog X.w) X.A (f v u) Q X.xe Zw) X.xe Zg) X.xe s:=by
 refine ck (ha pins s Z H _ I h) fun v s1 zq0=>?_;obtain⟨x,H1,I1,r1,q1⟩:=zq0;refine ck (hb pins s1 Z H1 _ I1 q1) fun u s2 zq0=>?_;obtain⟨y,H2,I2,r2,q2⟩:=zq0;exact hf v u s2 x y H2 I2 r1 r2 q2
theorem aq{op:Operator}{r:R2}(ho:cX X (binaryOp op) r)(ha:PE X a ta)(hb:PE X b tb):PE X (.BinOp a op b pos) (DU r ta tb):=by
 intro pins s Z H Q I h;exact wpAny_BinOp (AF ha hb I h fun v u s2 x y H2 I2 rx ry q=>ho pins s2 Z H2 x y v u Q I2 rx ry q)
theorem sV{op:UnaryOp}{r:V->Hp->VK->Prop}(ho:Em X (unaryOp op) r)(ha:PE X a ta):PE X (.UnaryOp op a pos) (Ge r ta):=by
 intro pins s Z H Q I h;exact UnaryOp_ (ck (ha pins s Z H _ I h) fun v s1 ⟨x,H1,I1,r1,q1⟩=>ho pins s1 Z H1 x v Q I1 r1 q1)
theorem ES{f:Value->Value->Sem Value}{C:Int->Int->Prop}{g:Int->Int->Int}
  (rule:∀(i j:Int) (t u:Tok) (s:Shared) (Q:Value->Shared->Prop) (E:Value->Shared->Prop),C i j->Q (.int (g i j) s.toks) { s with toks:=s.toks+1 }->wpAny (model X.prog X.w) X.A (f (.int i t) (.int j u)) Q E s) :
  cX X f (rI C fun i j=>.int (g i j)):=by
 intro pins s Z H x y v u Q I rx ry h;obtain⟨i,j,rfl,rfl,hc,q⟩:=h;obtain⟨t,rfl⟩:=rx;obtain⟨t',rfl⟩:=ry;exact rule i j t t' s _ _ hc ⟨.int (g i j),H,I.tok _,⟨_,rfl⟩,q⟩
theorem ET{f:Value->Value->Sem Value}{g:Int->Int->Int}
  (rule:∀(i j:Int) (t u:Tok) (s:Shared) (Q:Value->Shared->Prop) (E:Value->Shared->Prop),Q (.int (g i j) s.toks) { s with toks:=s.toks+1 }->wpAny (model X.prog X.w) X.A (f (.int i t) (.int j u)) Q E s) :
  cX X f (tS fun i j=>.int (g i j)):=by
 intro pins s Z H x y v u Q I rx ry h;obtain⟨i,j,rfl,rfl,q⟩:=h;obtain⟨t,rfl⟩:=rx;obtain⟨t',rfl⟩:=ry;exact rule i j t t' s _ _ ⟨.int (g i j),H,I.tok _,⟨_,rfl⟩,q⟩
theorem Bq{f:Value->Value->Sem Value}{g:Int->Int->Bool}
  (rule:∀(i j:Int) (t u:Tok) (s:Shared) (Q:Value->Shared->Prop) (E:Value->Shared->Prop),Q (.bool (g i j)) s->wpAny (model X.prog X.w) X.A (f (.int i t) (.int j u)) Q E s) :
  cX X f (tS fun i j=>.bl (g i j)):=by
 intro pins s Z H x y v u Q I rx ry h;obtain⟨i,j,rfl,rfl,q⟩:=h;obtain⟨t,rfl⟩:=rx;obtain⟨t',rfl⟩:=ry;exact rule i j t t' s _ _ ⟨.bl (g i j),H,I,rfl,q⟩
def FF(i j:Int):Prop:=0 < j/\j < 1073741824
def FG(i j:Int):Prop:=0<=j/\j<=1000000/\i.natAbs < 2 ^ 64
theorem op_add:cX X (binaryOp .Add) (tS fun i j=>.int (i+j)):=ET fun _ _ _ _ _ _ _ q=>add_int q
theorem bZ:cX X (binaryOp .Sub) (tS fun i j=>.int (i - j)):=ET fun _ _ _ _ _ _ _ q=>sub_int q
theorem cj:cX X (binaryOp .FloorDiv) (rI FF fun i j=>.int (i / j)):=ES fun i j _ _ _ _ _ hc q=>by
 have h1:(0:Int) < j:=hc.1;have h2:j < 1073741824:=hc.2;exact floordiv_int (by omega) (by rw [Int.fdiv_eq_ediv_of_nonneg i (by omega)];exact q) (.inl (PyProof.noPylong_small (by omega)))
theorem bc:cX X (binaryOp .Mod) (rI (fun _ j=>0 < j) fun i j=>.int (i % j)):=ES fun i j _ _ _ _ _ hc q=>by
 have h1:(0:Int) < j:=hc;exact mod_int' (by omega) (by rw [Int.fmod_eq_emod_of_nonneg i (by omega)];exact q)
theorem qW:cX X (binaryOp .Pow) (rI FG fun i j=>.int (i ^ j.toNat)):=ES fun _ _ _ _ _ _ _ hc q=>pow_int_small hc.1 hc.2.1 hc.2.2 q
theorem unI{f:Value->Sem Value}{g:Int->Int}
  (rule:∀(i:Int) (t:Tok) (s:Shared) (Q:Value->Shared->Prop) (E:Value->Shared->Prop),Q (.int (g i) s.toks) { s with toks:=s.toks+1 }->wpAny (model X.prog X.w) X.A (f (.int i t)) Q E s) :
  Em X f (rU fun i=>.int (g i)):=by
 intro pins s Z H x v Q I rx h;obtain⟨i,rfl,q⟩:=h;obtain⟨t,rfl⟩:=rx;exact rule i t s _ _ ⟨.int (g i),H,I.tok _,⟨_,rfl⟩,q⟩
theorem oz:Em X (unaryOp .USub) (rU fun i=>.int (-i)):=unI fun _ _ _ _ _ q=>neg_int q
end
def xE:V->V->Bool
 | .non,.non=>true | .non,.int _=>true | .int _,.non=>true | .non,.bl _=>true | .bl _,.non=>true | .non,.str _=>true | .str _,.non=>true
 | .int _,.int _=>true | .bl _,.bl _=>true | .str _,.str _=>true | .byt _,.byt _=>true
 | .int _,.str _=>true | .str _,.int _=>true | .bl _,.str _=>true | .str _,.bl _=>true
 | _,_=>false
def sZ:R2:=fun x y H Q=>xE x y=true/\Q (.bl (decide (x=y))) H
def tT:R2:=fun x y H Q=>xE x y=true/\Q (.bl (!decide (x=y))) H
theorem vL{i j:Int}:decide (V.int i=V.int j)=(i == j):=by
 rw [ah4];simp
theorem ye{i j:Bool}:decide (V.bl i=V.bl j)=(i == j):=by
 rw [ah4];simp
theorem vM{i j:Str}:decide (V.str i=V.str j)=(i == j):=by
 rw [ah4];simp
theorem vK{i j:Array UInt8}:decide (V.byt i=V.byt j)=(i.toList == j.toList):=by
 rw [ah4];cases i;cases j;simp
section
variable {a b:Expr} {tb tc:TE}
theorem bj{Q:VK}{k k':Bool}(I:aJ X pins Z H s)(q:Q (.bl k) H)(e:k=k'):EP X pins Z Q (.bool k') s:=by
 subst e;exact⟨.bl k,H,I,rfl,q⟩
theorem EW:cX X (compareOp .Eq) sZ:=by
 intro pins s Z H x y v u Q I rx ry h;obtain⟨hs,q⟩:=h
 cases x with
 | non=>
  cases rx
  cases y with
  | non=>cases ry;exact PySem.EqNone.eq_none_none (bj I q (by simp))
  | bl j=>cases ry;exact PySem.EqNone.eq_none_bool (bj I q (by simp))
  | int j=>obtain⟨t',rfl⟩:=ry;exact PySem.EqNone.eq_none_int (bj I q (by simp))
  | str j=>obtain⟨t',rfl⟩:=ry;exact PySem.EqNone.eq_none_str (bj I q (by simp))
  | _=>exact absurd (show false=true from hs) aa6
 | bl i=>
  cases rx
  cases y with
  | non=>cases ry;exact PySem.EqNone.eq_bool_none (bj I q (by simp))
  | bl j=>cases ry;exact eq_bool (bj I q ye)
  | str j=>obtain⟨t',rfl⟩:=ry;exact PySem.EqMixed.eq_bool_str (bj I q (by simp))
  | _=>exact absurd (show false=true from hs) aa6
 | int i=>
  obtain⟨t,rfl⟩:=rx
  cases y with
  | non=>cases ry;exact PySem.EqNone.eq_int_none (bj I q (by simp))
  | int j=>obtain⟨t',rfl⟩:=ry;exact eq_int (bj I q vL)
  | str j=>obtain⟨t',rfl⟩:=ry;exact PySem.EqMixed.eq_int_str (bj I q (by simp))
  | _=>exact absurd (show false=true from hs) aa6
 | str i=>
  obtain⟨t,rfl⟩:=rx
  cases y with
  | non=>cases ry;exact PySem.EqNone.eq_str_none (bj I q (by simp))
  | bl j=>cases ry;exact PySem.EqMixed.eq_str_bool (bj I q (by simp))
  | int j=>obtain⟨t',rfl⟩:=ry;exact PySem.EqMixed.eq_str_int (bj I q (by simp))
  | str j=>obtain⟨t',rfl⟩:=ry;exact eq_str (bj I q vM)
  | _=>exact absurd (show false=true from hs) aa6
 | byt i=>
  obtain⟨t,rfl⟩:=rx
  cases y with
  | byt j=>obtain⟨t',rfl⟩:=ry;exact PySem.W.eq_bytes (bj I q vK)
  | _=>exact absurd (show false=true from hs) aa6
 | _=>cases y<;>exact absurd (show false=true from hs) aa6
theorem EY:cX X (compareOp .NotEq) tT:=by
 intro pins s Z H x y v u Q I rx ry h;obtain⟨hs,q⟩:=h
 cases x with
 | non=>
  cases rx
  cases y with
  | non=>cases ry;exact PySem.EqNone.ne_none_none (bj I q (by simp))
  | bl j=>cases ry;exact PySem.EqNone.ne_none_bool (bj I q (by simp))
  | int j=>obtain⟨t',rfl⟩:=ry;exact PySem.EqNone.ne_none_int (bj I q (by simp))
  | str j=>obtain⟨t',rfl⟩:=ry;exact PySem.EqNone.ne_none_str (bj I q (by simp))
  | _=>exact absurd (show false=true from hs) aa6
 | bl i=>
  cases rx
  cases y with
  | non=>cases ry;exact PySem.EqNone.ne_bool_none (bj I q (by simp))
  | bl j=>cases ry;exact ne_bool (bj I q (congrArg not ye))
  | str j=>obtain⟨t',rfl⟩:=ry;exact PySem.EqMixed.ne_bool_str (bj I q (by simp))
  | _=>exact absurd (show false=true from hs) aa6
 | int i=>
  obtain⟨t,rfl⟩:=rx
  cases y with
  | non=>cases ry;exact PySem.EqNone.ne_int_none (bj I q (by simp))
  | int j=>obtain⟨t',rfl⟩:=ry;exact ne_int (bj I q (congrArg not vL))
  | str j=>obtain⟨t',rfl⟩:=ry;exact PySem.EqMixed.ne_int_str (bj I q (by simp))
  | _=>exact absurd (show false=true from hs) aa6
 | str i=>
  obtain⟨t,rfl⟩:=rx
  cases y with
  | non=>cases ry;exact PySem.EqNone.ne_str_none (bj I q (by simp))
  | bl j=>cases ry;exact PySem.EqMixed.ne_str_bool (bj I q (by simp))
  | int j=>obtain⟨t',rfl⟩:=ry;exact PySem.EqMixed.ne_str_int (bj I q (by simp))
  | str j=>obtain⟨t',rfl⟩:=ry;exact ne_str (bj I q (congrArg not vM))
  | _=>exact absurd (show false=true from hs) aa6
 | byt i=>
  obtain⟨t,rfl⟩:=rx
  cases y with
  | byt j=>obtain⟨t',rfl⟩:=ry;exact PySem.W.ne_bytes (bj I q (congrArg not vK))
  | _=>exact absurd (show false=true from hs) aa6
 | _=>cases y<;>exact absurd (show false=true from hs) aa6
theorem EX:cX X (compareOp .Lt) (tS fun i j=>.bl (decide (i < j))):=Bq fun _ _ _ _ _ _ _ q=>lt_int q
theorem gz:cX X (compareOp .LtE) (tS fun i j=>.bl (decide (i<=j))):=Bq fun _ _ _ _ _ _ _ q=>le_int q
theorem nK:cX X (compareOp .Gt) (tS fun i j=>.bl (decide (j < i))):=Bq fun _ _ _ _ _ _ _ q=>gt_int q
theorem zi:cX X (compareOp .GtE) (tS fun i j=>.bl (decide (j<=i))):=Bq fun _ _ _ _ _ _ _ q=>ge_int q
theorem op_in_str:cX X (compareOp .In) (fun x y H Q=>∃i j,x=.str i/\y=.str j/\Q (.bl (!(Builtin.Str.occurrences j i 0 j.length 1).isEmpty)) H):=by
 intro pins s Z H x y v u Q I rx ry h;obtain⟨i,j,rfl,rfl,q⟩:=h;obtain⟨t,rfl⟩:=rx;obtain⟨t',rfl⟩:=ry;exact in_str (bj I q rfl)
theorem dJ:cX X (compareOp .Is) (fun x y H Q=>y=.non/\Q (.bl (decide (x=.non))) H):=by
 intro pins s Z H x y v u Q I rx ry h;obtain⟨rfl,q⟩:=h;cases ry;refine is_none_gen (bj I q ?_)
 cases x<;>first
  | (cases rx;rfl)
  | (obtain⟨t,rfl⟩:=rx;rfl)
theorem mE:cX X (compareOp .IsNot) (fun x y H Q=>y=.non/\Q (.bl (!decide (x=.non))) H):=by
 intro pins s Z H x y v u Q I rx ry h;obtain⟨rfl,q⟩:=h;cases ry;refine isnot_none_gen (bj I q ?_)
 cases x<;>first
  | (cases rx;rfl)
  | (obtain⟨t,rfl⟩:=rx;rfl)
theorem op_notin_str:cX X (compareOp .NotIn) (fun x y H Q=>∃i j,x=.str i/\y=.str j/\Q (.bl (!(!(Builtin.Str.occurrences j i 0 j.length 1).isEmpty))) H):=by
 intro pins s Z H x y v u Q I rx ry h;obtain⟨i,j,rfl,rfl,q⟩:=h;obtain⟨t,rfl⟩:=rx;obtain⟨t',rfl⟩:=ry;exact notIn_str (bj I q rfl)
theorem cX.or{f:Value->Value->Sem Value}{r r':R2}(h:cX X f r)(h':cX X f r'):cX X f (fun x y H Q=>r x y H Q\/r' x y H Q):=by
 intro pins s Z H x y v u Q I rx ry q;rcases q with q | q
 ·exact h pins s Z H x y v u Q I rx ry q
 ·exact h' pins s Z H x y v u Q I rx ry q
theorem aB(b:Expr)(h:op≠.In:=by decide)(h2:op≠.NotIn:=by decide):behindInMarks op b=false:=by
 have e1:(op == CmpOp.In)=false:=by cases op<;>first | rfl | exact absurd rfl h
 have e2:(op == CmpOp.NotIn)=false:=by cases op<;>first | rfl | exact absurd rfl h2
 cases b<;>simp [behindInMarks,e1,e2]
theorem dP{r:R2}(ho:cX X (compareOp op) r)(ha:PE X a ta)(hb:PE X b tb)(hm:behindInMarks op b=false):PE X (.Compare a [op] [b] pos) (DU r ta tb):=by
 intro pins s Z H Q I h;exact wpAny_Compare1 (AF ha hb I h fun v u s2 x y H2 I2 rx ry q=>ho pins s2 Z H2 x y v u Q I2 rx ry q) hm
def p9(t:TE):TT:=fun Z H Q=>t Z H fun x H'=>∃k,x=.bl k/\Q k H'
theorem av{r:R2}(ho:cX X (compareOp op) r)(ha:PE X a ta)(hb:PE X b tb)(hm:behindInMarks op b=false):PT X (.Compare a [op] [b] pos) (p9 (DU r ta tb)):=by
 intro pins s Z H Q I h
 refine wpAny_isTrue_Compare1 (ck (ha pins s Z H _ I h) fun v s1 ⟨x,H1,I1,r1,q1⟩=>ck (hb pins s1 Z H1 _ I1 q1) fun u s2 ⟨y,H2,I2,r2,q2⟩=>
  ck (ho pins s2 Z H2 x y v u _ I2 r1 r2 q2) fun c s3 ⟨z,H3,I3,r3,k,e,q3⟩=>?_) hm
 subst e;cases r3;exact ae1 ⟨H3,I3,q3⟩
def vq(r r':R2)(ta tb tc:TE):TE:=fun Z H Q=>ta Z H fun x H1=>tb Z H1 fun y H2=>r x y H2 fun z H3=>∃k,z=.bl k/\
 (if k=true then tc Z H3 fun w' H4=>r' y w' H4 Q else Q (.bl false) H3)
theorem sS{op':CmpOp}{r r':R2}(ho:cX X (compareOp op) r)(ho':cX X (compareOp op') r')(ha:PE X a ta)(hb:PE X b tb)(hc:PE X c tc)
  (hm:lastMarks [op,op'] [b,c]=false:=by with_unfolding_all rfl):PE X (.Compare a [op,op'] [b,c] pos) (vq r r' ta tb tc):=by
 intro pins s Z H Q I h
 refine Compare_chain (ck (ha pins s Z H _ I h) fun v s1 ⟨x,H1,I1,r1,q1⟩=>chain_link (ck (hb pins s1 Z H1 _ I1 q1) fun u s2 ⟨y,H2,I2,r2,q2⟩=>
  ck (ho pins s2 Z H2 x y v u _ I2 r1 r2 q2) fun d s3 ⟨z,H3,I3,r3,k,e,q3⟩=>?_)) hm
 subst e;cases r3;refine ae1 ?_
 cases k with
 | false=>exact ite_ff ⟨.bl false,H3,I3,rfl,q3⟩
 | true=>exact ite_tt (chain_last (ck (hc pins s3 Z H3 _ I3 q3) fun w' s4 ⟨z',H4,I4,r4,q4⟩=>ho' pins s4 Z H4 y z' u w' Q I4 r2 r4 q4))
theorem iy{op':CmpOp}{r r':R2}(ho:cX X (compareOp op) r)(ho':cX X (compareOp op') r')(ha:PE X a ta)(hb:PE X b tb)(hc:PE X c tc)
  (hm:lastMarks [op,op'] [b,c]=false:=by with_unfolding_all rfl):PT X (.Compare a [op,op'] [b,c] pos) (p9 (vq r r' ta tb tc)):=by
 intro pins s Z H Q I h
 refine isTrue_chain (ck (ha pins s Z H _ I h) fun v s1 ⟨x,H1,I1,r1,q1⟩=>test_link (ck (hb pins s1 Z H1 _ I1 q1) fun u s2 ⟨y,H2,I2,r2,q2⟩=>
  ck (ho pins s2 Z H2 x y v u _ I2 r1 r2 q2) fun d s3 ⟨z,H3,I3,r3,k,e,q3⟩=>?_)) hm
 subst e;cases r3;refine ae1 ?_
 cases k with
 | false=>
  obtain⟨k',e',q'⟩:=q3;cases e';exact ite_ff ⟨H3,I3,q'⟩
 | true=>
  refine ite_tt (test_last (ck (hc pins s3 Z H3 _ I3 q3) fun w' s4 ⟨z',H4,I4,r4,q4⟩=>ck (ho' pins s4 Z H4 y z' u w' _ I4 r2 r4 q4) fun d' s5 zq0=>?_));obtain⟨z2,H5,I5,r5,k2,e2,q5⟩:=zq0;subst e2;cases r5;exact ae1 ⟨H5,I5,q5⟩
def AD(K:Frag)(x:V)(H:Hp)(k:Bool):Prop:=
 match x with
 | .non=>k=false
 | .bl b=>k=b
 | .int i=>k=(i != 0)
 | .str y=>y.length<=sizeLine/\k=((y.length:Int) != 0)
 | .byt y=>y.size<=sizeLine/\k=((y.size:Int) != 0)
 | .ref p=>(∃xs,aL K H p xs/\k=!xs.isEmpty)\/(∃xs,bH K H p xs/\k=!xs.isEmpty)\/∃kvs,H p=some (.dK kvs)/\k=!kvs.isEmpty
 | _=>False
theorem ug{κ:Type}{kvs:List (κ×V)}{vs:List (κ×Value)}(r:KV kvs vs):(!vs.isEmpty)=!kvs.isEmpty:=by
 cases r<;>rfl
theorem m8{its:List Value}(r:aQ xs its):(!its.toArray.isEmpty)=!xs.isEmpty:=by
 cases r<;>simp
theorem jj:(sizeLine:Nat) < 2 ^ 63:=by rw [sizeLine_eq];decide
theorem D0:FP X (fun x H Q=>∃k,AD X.K x H k/\Q k H):=by
 intro pins s Z H x v Q I rx h;obtain⟨k,e,q⟩:=h;have hl:=jj;have hs:sizeLine=16777216:=sizeLine_eq
 cases x with
 | non=>
  cases rx;have e':k=false:=e;subst e';exact truthy_none ⟨H,I,q⟩
 | bl b=>
  cases rx;have e':k=b:=e;subst e';exact ae1 ⟨H,I,q⟩
 | int i=>
  obtain⟨t,rfl⟩:=rx;have e':k=(i != 0):=e;subst e';exact PySem.P.truthy_int ⟨H,I,q⟩
 | str y=>
  obtain⟨t,rfl⟩:=rx;obtain⟨hy,e'⟩:y.length<=sizeLine/\k=((y.length:Int) != 0):=e;subst e';exact PySem.P.truthy_str (by omega) ⟨H,I.tok _,q⟩
 | byt y=>
  obtain⟨t,rfl⟩:=rx;obtain⟨hy,e'⟩:y.size<=sizeLine/\k=((y.size:Int) != 0):=e;subst e';exact PySem.W.truthy_bytes (by omega) ⟨H,I.tok _,q⟩
 | ref p=>
  cases rx;have e':(∃xs,aL X.K H p xs/\k=!xs.isEmpty)\/(∃xs,bH X.K H p xs/\k=!xs.isEmpty)\/∃kvs,H p=some (.dK kvs)/\k=!kvs.isEmpty:=e;rcases e' with⟨xs,hx,e'⟩ | ⟨xs,hx,e'⟩ | ⟨kvs,hx,e'⟩
  ·subst e'
   obtain⟨its,r,pl,hz⟩:=I.list hx;have hlen:=r.length;exact wpAny_truthy_list pl.isList (by simp only [ab1];omega) ⟨H,I.tok _,by rw [m8 r];exact q⟩
  ·subst e'
   obtain⟨its,r,pl,hz⟩:=I.tuple hx;have hlen:=r.length;exact truthy_tuple pl (by simp only [ab1];omega) ⟨H,I.tok _,by rw [m8 r];exact q⟩
  ·subst e'
   obtain⟨hz,hS,vs,r,m⟩:kvs.length<=sizeLine/\(p == sysModules)=false/\∃vs,KV kvs vs/\s.heap.DictOf (qF X.prog X.w) p vs:=I.hok p _ hx;have hlen:kvs.length=vs.length:=Paired.length r;exact wpAny_truthy_dict hS m (by omega) ⟨H,I.tok _,by rw [ug r];exact q⟩
 | _=>exact(show False from e).elim
theorem bu(ha:PE X a ta)(he:∀whole,isTrue a X.env whole=(do let v <-whole;standAt a.pos;holding [v] (truthy v))):
  PT X a (fun Z H Q=>ta Z H fun x H'=>∃k,AD X.K x H' k/\Q k H'):=by
 intro pins s Z H Q I h;exact isTrue_plain (ck (ha pins s Z H _ I h) fun v s1 ⟨x,H1,I1,r1,q1⟩=>D0 pins s1 Z H1 x v Q I1 r1 q1) (he _)
theorem op_add_str:cX X (binaryOp .Add) (fun x y H Q=>∃i j,x=.str i/\y=.str j/\i.length+j.length<=sizeLine/\Q (.str (i++j)) H):=by
 intro pins s Z H x y v u Q I rx ry h;obtain⟨i,j,rfl,rfl,hz,q⟩:=h;obtain⟨t,rfl⟩:=rx;obtain⟨t',rfl⟩:=ry;exact add_str (fun t' tk=>⟨.str (i++j),H,I.tok _,⟨_,rfl⟩,q⟩) hz
theorem eV{x:V}(r:aQ [x] us):∃u,us=[u]/\aS x u:=by
 cases r with
 | cons r1 r2=>cases r2;exact⟨_,rfl,r1⟩
theorem tP{x:V}(r:aQ [x,y] us):∃u w',us=[u,w']/\aS x u/\aS y w':=by
 cases r with
 | cons r1 r2=>
  cases r2 with
  | cons r3 r4=>cases r4;exact⟨_,_,rfl,r1,r3⟩
theorem pJ(hc:X.calm=true):cC X (.builtin "max") (fun xs H Q=>∃i j,xs=[.int i,.int j]/\Q (.int (if j > i then j else i)) H):=by
 intro pins s Z H xs us Q I r h;obtain⟨i,j,rfl,q⟩:=h;obtain⟨u,w',rfl,⟨t,rfl⟩,⟨t',rfl⟩⟩:=tP r;refine max_two_ints (I.ok.hd hc) fun h' tk k=>⟨_,H,I.kept k,?_,q⟩
 by_cases hj:j > i
 ·rw [if_pos hj,if_pos hj];exact⟨_,rfl⟩
 ·rw [if_neg hj,if_neg hj];exact⟨_,rfl⟩
theorem kG(hc:X.calm=true):cC X (.builtin "min") (fun xs H Q=>∃i j,xs=[.int i,.int j]/\Q (.int (if j < i then j else i)) H):=by
 intro pins s Z H xs us Q I r h;obtain⟨i,j,rfl,q⟩:=h;obtain⟨u,w',rfl,⟨t,rfl⟩,⟨t',rfl⟩⟩:=tP r;refine min_two_ints (I.ok.hd hc) fun h' tk k=>⟨_,H,I.kept k,?_,q⟩
 by_cases hj:j < i
 ·rw [if_pos hj,if_pos hj];exact⟨_,rfl⟩
 ·rw [if_neg hj,if_neg hj];exact⟨_,rfl⟩
theorem wy:cC X (.type "int") (fun xs H Q=>(∃i,xs=[.int i]/\Q (.int i) H)\/∃k,xs=[.bl k]/\Q (.int (if k then 1 else 0)) H):=by
 intro pins s Z H xs us Q I r h;rcases h with⟨i,rfl,q⟩ | ⟨k,rfl,q⟩
 ·obtain⟨u,rfl,t,rfl⟩:=eV r
  exact call_int_int ⟨.int i,H,I,⟨_,rfl⟩,q⟩
 ·obtain⟨u,rfl,r1⟩:=eV r
  cases r1;exact call_int_bool ⟨.int (if k then 1 else 0),H,I.tok _,⟨_,rfl⟩,q⟩
theorem call_str_int:cC X (.type "str") (fun xs H Q=>∃i,xs=[.int i]/\i.natAbs.log2 < 1920/\Q (.str (toString i)) H):=by
 intro pins s Z H xs us Q I r h;obtain⟨i,rfl,hz,q⟩:=h;obtain⟨u,rfl,t,rfl⟩:=eV r;exact PySem.P.str_of_int hz ⟨.str _,H,I.tok _,⟨_,rfl⟩,q⟩
end
structure tW(h:Heap)(x dx C:Addr)(mA:Str->Option Value):Prop where
 obj:h.get? x=some (instObj C dx)
 ns:h.Ns1 dx mA
 ne:dx≠x
theorem w5(n:h.Ns1 dx mA):∃od,h.get? dx=some od/\∀name,PySem.W.lookIn name od=some (mA name):=by
 obtain⟨o,es,ep,ho,hd,hk,_,hm⟩:=n;refine⟨o,ho,fun name=>?_⟩;have e:=hm name;unfold nsFind findBy at e;rw [<-Array.find?_toList]at e;unfold PySem.W.lookIn;rw [hd];dsimp only
 split
 ·rename_i y q
  rw [q]at e;exact congrArg some e
 ·rename_i q
  rw [q]at e
  have a:es.toList.any (·.refKey)=false:=by
   rw [List.any_eq_false];intro y hy;obtain⟨z,t,hkey⟩:=hk y (Array.mem_toList_iff.mp hy);simp [DictEntry.refKey,hkey]
  have a':¬es.toList.any (·.refKey)=true:=by rw [a];exact aa6
  rw [if_neg a'];exact congrArg some e
theorem tW.look{x:Addr}(I:tW h x dx C mA):∃od,PySem.W.InstAt h x (instObj C dx) C (some od)/\∀name,PySem.W.lookIn name od=some (mA name):=
 let ⟨od,ho,hl⟩:=w5 I.ns
 ⟨od,⟨I.obj,rfl,rfl,ho⟩,hl⟩
section
variable {prog:Program} {x:Addr} {name:Str} {v:Value}
theorem AU{expr:Bool}(X:K.In s.heap)(I:tW s.heap x dx C mA)(hg:PySem.W.plainGet K C name=true)(hh:PySem.W.hasDictIn K C=true)
  (ha:findIn K (.ref C) name=some none) (hv:mA name=some v) (hv':PySem.W.handedIn v=true) (h:Q v { s with toks:=s.toks+1 }) :
  wpAny (model prog w) A (getAttr (.ref x) name expr) Q E s:=by
 obtain⟨od,J,hl⟩:=I.look;exact PySem.W.get_value X J (PySem.W.plainGet_of hg).1 (PySem.W.findObj_own hh ha rfl (by rw [hl,hv])) hv' h
theorem yy{pl:Sem Bool}{Q:Value×List Value->Shared->Prop}(X:K.In s.heap)(I:tW s.heap x dx C mA)(hg:PySem.W.plainGet K C name=true)
  (hf:findIn K (.ref C) name=some (some (.ref f))) (ht:PySem.W.isFn K (.ref f)=true) (hv:mA name=none) (h:Q (.ref f,[.ref x]) s) :
  wpAny (model prog w) A (getMethod (.ref x) name pl) Q E s:=by
 obtain⟨od,J,hl⟩:=I.look
 exact PySem.W.method_fn X J (PySem.W.plainGet_of hg).1 (PySem.W.plainGet_of hg).2 hf (beq_iff_eq.mp ht) (by show(PySem.W.lookIn name od).map (·.isSome)=some false;rw [hl,hv];rfl) h
theorem BZ{ns:List Str}{Q:Unit->Shared->Prop}(X:K.In s.heap)(I:tW s.heap x dx C mA)
  (hs:findIn K (.ref C) "__setattr__"=some (some (.builtin "object.__setattr__"))) (hp:PySem.W.plainOver K C=true) (ht:PySem.W.takerIn K C name=some none) (hh:PySem.W.hasDictIn K C=true)
  (hw:PySem.Within mA ns) (hsz:ns.length<=sizeLine)
  (h:∀h',tW h' x dx C (fun y=>if y=name then some v else mA y)->Heap.SameBut dx s.heap h'->Q () { s with heap:=h',toks:=s.toks+2 }) :
  wpAny (model prog w) A (setAttr (.ref x) name v) Q E s:=by
 obtain⟨od,J,hl⟩:=I.look;refine PySem.W.set_plain X J hs (PySem.W.osa_open (s:={ s with toks:=s.toks+1 }) (r:=none) X J hp ht fun b=>?_);obtain⟨cd,hc,hd'⟩:=PySem.W.any_some hh;have hx:s.heap.get? x=some ⟨.ref C,some dx,.plain,#[]⟩:=I.obj;refine aa2 (aa7 (aa2 (aa2 (wpAny_loadPart hx (aa2 (PySem.W.Looks.here (s:={ s with toks:=s.toks+1 }) (PySem.W.looks_clsIn X hc) ?_))))));rw [hd'];refine aa7 (a:=some dx) (aa2 (aa7 (aa2 ?_)));refine wpAny_nsSet1 (s:={ s with toks:=s.toks+1 }) I.ns fun h' hn2 hs2=>?_;obtain⟨oD,esD,epD,hoD,hdD,hcD⟩:=hn2.count (PySem.Within.cons name v hw);refine aa2 (wpAny_lookBehind hoD (by rw [hdD];exact pastItsLine_dict (ab9 hcD (by rw [ad1];omega))) ?_);exact aa7 (h _ ⟨(hs2.2 _ (Ne.symm I.ne)).trans I.obj,hn2,I.ne⟩ hs2)
theorem yY{R:Result->Shared->Prop}{vs:List Value}(X:K.In s.heap)(hm:PySem.W.makesIn K C=true)
  (hi:findIn K (.ref C) "__init__"=some (some (.ref f))) (hf:PySem.W.typeIn K (.ref f)=some (.type "function"))
  (h:codeAny (model prog w) (A.under (.builtin "type.__call__" ⟨.ref C::vs,kw⟩)) (.call (.ref f) ⟨.ref (s.heap.objs.size+1)::vs,kw⟩) (PySem.W.InitBack (s.heap.objs.size+1) R)
   { s with heap:=(s.heap.push emptyDict).push (instObj C s.heap.objs.size) }) :
  codeAny (model prog w) A (.call (.ref C) ⟨vs,kw⟩) R s:=by
 obtain⟨hh,g,d,t,os⟩:=s;exact PySem.W.make_core (PySem.W.makes_of X hm) (PySem.W.looks_findIn X hi) (fun self=>PySem.W.bind_fn X self hf) (.inl rfl) h
end
def bU(f:Str)(v:V):List (Str×V)->List (Str×V)
 | []=>[(f,v)]
 | (g,x)::r=>if g=f then(g,v)::r else(g,x)::bU f v r
theorem ik(f g:Str)(v:V):∀fs:List (Str×V),(bU f v fs).lookup g=if g=f then some v else fs.lookup g
 | []=>by
  show List.lookup g [(f,v)]=_
  by_cases h:g=f
  ·have hb:(g == f)=true:=beq_iff_eq.mpr h
   simp only [List.lookup,hb,if_pos h]
  ·have hb:(g == f)=false:=beq_eq_false_iff_ne.mpr h
   simp only [List.lookup,hb,if_neg h]
 | (k,x)::r=>by
  have ih:=ik f g v r;rw [show bU f v ((k,x)::r)=(if k=f then(k,v)::r else(k,x)::bU f v r)from rfl]
  by_cases hk:k=f
  ·rw [if_pos hk]
   by_cases h:g=k
   ·have hb:(g == k)=true:=beq_iff_eq.mpr h
    simp only [List.lookup,hb,if_pos (h.trans hk)]
   ·have hb:(g == k)=false:=beq_eq_false_iff_ne.mpr h
    simp only [List.lookup,hb,if_neg (fun e:g=f=>h (e.trans hk.symm))]
  ·rw [if_neg hk]
   by_cases h:g=k
   ·have hb:(g == k)=true:=beq_iff_eq.mpr h
    simp only [List.lookup,hb,if_neg (fun e:g=f=>hk (h.symm.trans e))]
   ·have hb:(g == k)=false:=beq_eq_false_iff_ne.mpr h
    simp only [List.lookup,hb];exact ih
theorem kS(f:Str)(v:V):∀fs:List (Str×V),f∈(bU f v fs).map (·.1)/\∀g,g∈fs.map (·.1)->g∈(bU f v fs).map (·.1)
 | []=>⟨by simp [bU],fun g h=>by simp at h⟩
 | (k,x)::r=>by
  obtain⟨i1,i2⟩:=kS f v r;rw [show bU f v ((k,x)::r)=(if k=f then(k,v)::r else(k,x)::bU f v r)from rfl]
  by_cases hk:k=f
  ·rw [if_pos hk]
   subst hk;exact⟨by simp,fun g h=>by simpa using h⟩
  ·rw [if_neg hk]
   refine⟨?_,fun g h=>?_⟩
   ·rw [ad7]
    exact ae0 _ i1
   ·rw [ad7]at h |-
    rcases aa8.mp h with e | e
    ·exact aa8.mpr (.inl e)
    ·exact ae0 _ (i2 g e)
theorem cv(f:Str)(v:V):∀fs:List (Str×V),(bU f v fs).length<=fs.length+1
 | []=>by simp [bU]
 | (k,x)::r=>by
  have ih:=cv f v r;rw [show bU f v ((k,x)::r)=(if k=f then(k,v)::r else(k,x)::bU f v r)from rfl]
  by_cases hk:k=f
  ·rw [if_pos hk,ad1,ad1];omega
  ·rw [if_neg hk,ad1,ad1];omega
theorem oH.some_of{o:Option Value}(r:oH (some v) o):∃u,o=some u/\aS v u:=by
 cases o with
 | none=>exact(show False from r).elim
 | some u=>exact⟨u,rfl,r⟩
theorem oH.none_of{o:Option Value}(r:oH none o):o=none:=by
 cases o with
 | none=>rfl
 | some u=>exact(show False from r).elim
theorem wV(r:aS v u):PySem.W.handedIn u=true:=by
 cases v with
 | non=>cases(show u=Value.none from r);rfl
 | bl b=>cases(show u=Value.bool b from r);rfl
 | int i=>obtain⟨t,e⟩:=(show ∃t,u=Value.int i t from r);cases e;rfl
 | str x=>obtain⟨t,e⟩:=(show ∃t,u=Value.str x t from r);cases e;rfl
 | byt b=>obtain⟨t,e⟩:=(show ∃t,u=Value.bytes b t from r);cases e;rfl
 | flt b=>obtain⟨t,e⟩:=(show ∃t,u=Value.float b t from r);cases e;rfl
 | ref a=>cases(show u=Value.ref a from r);rfl
 | ty n=>cases(show u=Value.type n from r);rfl
section
variable {fs fs':List (Str×V)}
theorem mr(hok:jC P w H h)(e:H a=some (.ins C dx fs)):∃mA,tW h a dx C mA/\(∀f,oH (fs.lookup f) (mA f))/\PySem.Within mA (fs.map (·.1))/\fs.length<=1000/\H dx=some (.own a):=by
 obtain⟨d,z,ne,ob,mA,n,r,q⟩:=(show dh P w H h a (.ins C dx fs)from hok a _ e);exact⟨mA,⟨ob,n,ne⟩,r,q,z,d⟩
end
structure rO(K:Frag)(C:Addr):Prop where
 pg:PySem.W.plainGet K C Str.empty=true
 hd:PySem.W.hasDictIn K C=true
 po:PySem.W.plainOver K C=true
 sa:findIn K (.ref C) "__setattr__"=some (some (.builtin "object.__setattr__"))
theorem rO.get(c:rO K C)(f:Str):PySem.W.plainGet K C f=true:=c.pg
def NoAttr(K:Frag)(C:Addr)(f:Str):Prop:=findIn K (.ref C) f=some none
theorem NoAttr.taker{f:Str}(n:NoAttr K C f):PySem.W.takerIn K C f=some none:=by
 unfold PySem.W.takerIn;rw [show findIn K (.ref C) f=some none from n];rfl
structure CK(K:Frag)(C:Addr)(m:Str)(f:Addr):Prop where
 at_:findIn K (.ref C) m=some (some (.ref f))
 fn:PySem.W.isFn K (.ref f)=true
 kp:keepIn K (.ref f)=true
section
variable {fs:List (Str×V)} {f:Str}
theorem ud{b:Bool}(I:aJ X pins Z H s)(e:H a=some (.ins C dx fs))(c:rO X.K C)(n:NoAttr X.K C f)(l:fs.lookup f=some v)
  (h:∀u s',aJ X pins Z H s'->aS v u->Q u s'):wpAny (model X.prog X.w) A (getAttr (.ref a) f b) Q E s:=by
 obtain⟨mA,O,r,_,_,_⟩:=mr I.hok e;obtain⟨u,hu,ru⟩:=oH.some_of (v:=v) (o:=mA f) (by rw [<-l];exact r f);exact AU I.kIn O (c.get f) c.hd n hu (wV ru) (h u _ (I.tok _) ru)
theorem m5{g:Addr}{pl:Sem Bool}{Q:Value×List Value->Shared->Prop}(I:aJ X pins Z H s)(e:H a=some (.ins C dx fs))(c:rO X.K C)(k:CK X.K C m g)(l:fs.lookup m=none)
  (h:Q (.ref g,[.ref a]) s):wpAny (model X.prog X.w) A (getMethod (.ref a) m pl) Q E s:=by
 obtain⟨mA,O,r,_,_,_⟩:=mr I.hok e;have hn:mA m=none:=oH.none_of (by rw [<-l];exact r m);exact yy I.kIn O (c.get m) k.at_ k.fn hn h
theorem uW{Q:Unit->Shared->Prop}(I:aJ X pins Z H s)(e:H a=some (.ins C dx fs))(c:rO X.K C)(n:NoAttr X.K C f)(hl:fs.length < 1000)(ry:aS y u)
  (h:∀s',aJ X pins Z (upd H a (.ins C dx (bU f y fs))) s'->Q () s'):wpAny (model X.prog X.w) A (setAttr (.ref a) f u) Q E s:=by
 obtain⟨mA,O,r,wi,_,ho⟩:=mr I.hok e
 have hz:(fs.map (·.1)).length<=sizeLine:=by rw [aa0,sizeLine_eq];omega
 refine BZ I.kIn O c.sa c.po n.taker c.hd wi hz fun h' O' sb=>h _ ?_
 have hd:∃o,h'.get? dx=some o:=let ⟨o,_,_,e',_⟩:=O'.ns;⟨o,e'⟩
 refine I.write (x:=a) (e:=dx) (by rw [e];exact True.intro) (.inr ho) (fun b q hb z=>(sb.2 b hb).trans z) hd ?_;refine⟨by rw [aj O.ne];exact ho,?_,O.ne,O'.obj,_,O'.ns,fun g=>?_,fun g hg=>?_⟩
 ·have:=cv f y fs;omega
 ·show oH ((bU f y fs).lookup g) (if g=f then some u else mA g)
  rw [ik]
  by_cases q:g=f
  ·rw [if_pos q,if_pos q];exact ry
  ·rw [if_neg q,if_neg q];exact r g
 ·by_cases q:g=f
  ·rw [q];exact(kS f y fs).1
  ·refine(kS f y fs).2 g (wi g fun z=>hg ?_)
   show(if g=f then some u else mA g)=none;rw [if_neg q];exact z
theorem aJ.made(I:aJ X pins Z H s):aJ X pins Z (upd (upd H s.heap.objs.size (.own (s.heap.objs.size+1))) (s.heap.objs.size+1) (.ins C s.heap.objs.size []))
  { s with heap:=(s.heap.push emptyDict).push (instObj C s.heap.objs.size) }:=by
 have e1:(s.heap.push emptyDict).get? s.heap.objs.size=some emptyDict:=ab3 s.heap rfl
 have e2:((s.heap.push emptyDict).push (instObj C s.heap.objs.size)).get? (s.heap.objs.size+1)=some (instObj C s.heap.objs.size):=by
  have:=ab3 (s.heap.push emptyDict) (o:=instObj C s.heap.objs.size) rfl
  rwa [ae7]at this
 have e3:(s.heap.push emptyDict).Ns s.heap.objs.size (fun _=>none):=⟨emptyDict,#[],_,e1,rfl,(fun e he=>absurd he (by simp)),fun _=>rfl⟩;have I1:=I.laid (a:=s.heap.objs.size) (o:=.own (s.heap.objs.size+1)) (h':=s.heap.push emptyDict) (t':=s.toks) (fun b u q=>aa4 _ q) (aa9 _) ⟨_,e1⟩;refine I1.laid (a:=s.heap.objs.size+1) (o:=.ins C s.heap.objs.size []) (t':=s.toks) (fun b u q=>aa4 _ q) (Nat.le_of_eq (ae7 _ _)) ?_;have ne:s.heap.objs.size≠s.heap.objs.size+1:=ac6 (am2 _);refine⟨by rw [aj ne,ag],ad3 _,ne,e2,fun _=>none,(Heap.Ns1.of_empty e3).at fun o q=>aa4 _ q,fun _=>True.intro,fun y hy=>absurd rfl hy⟩
theorem AE{prog:Program}{env:Env}{f:Str}(hb:attributeBase e f env (eval e env)=eval e env)
  (h:wpAny (model prog w) A (eval e env) (fun o Zg=>wpAny (model prog w) A (getAttr o f true) Q E Zg) E s):wpAny (model prog w) A (eval (.Attribute e f pos) env) Q E s:=
 Attribute_any_ h (by rw [arm_eval_Attribute,hb])
end
def Fe(K:Frag)(ta:TE)(f:Str):TE:=fun Z H Q=>ta Z H fun x H1=>∃a C dx fs v,x=.ref a/\H1 a=some (.ins C dx fs)/\rO K C/\NoAttr K C f/\fs.lookup f=some v/\Q v H1
def Fb(K:Frag)(ta tv:TE)(f:Str):TS:=fun D Z H=>tv Z H fun y H1=>ta Z H1 fun x H2=>∃a C dx fs,x=.ref a/\H2 a=some (.ins C dx fs)/\rO K C/\NoAttr K C f/\fs.length < 1000/\
 D.nx Z (upd H2 a (.ins C dx (bU f y fs)))
section
variable {o value:Expr} {f:Str} {tpos:Pos} {tv:TE}
theorem bq(he:PE X e ta)(hb:attributeBase e f X.env (eval e X.env)=eval e X.env):PE X (.Attribute e f pos) (Fe X.K ta f):=by
 intro pins s Z H Q I h;refine AE hb (ck (he pins s Z H _ I h) fun u s1 zq0=>?_);obtain⟨x,H1,I1,rx,a,C,dx,fs,v,ex,ea,c,n,l,q⟩:=zq0;subst ex;obtain rfl:u=Value.ref a:=rx;exact ud I1 ea c n l fun u' s2 I2 ru=>⟨v,H1,I2,ru,q⟩
theorem cN(ha:PE X o ta)(hv:PE X value tv)(hs:swapsWith value (some (.Attribute o f pos')) pos.line X.env=pure false):PS X (.Assign [.Attribute o f pos'] value pos) (Fb X.K ta tv f):=by
 intro pins s Z H D I h;refine plainObj_wpAny_Assign_Attribute (ck (hv pins s Z H _ I h) fun u s1 ⟨y,H1,I1,ry,q⟩=>ck (ha pins s1 Z H1 _ I1 q) fun ov s2 zq0=>?_) hs;obtain⟨x,H2,I2,rx,a,C,dx,fs,ex,ea,c,n,l,q2⟩:=zq0;subst ex;obtain rfl:ov=Value.ref a:=rx;exact uW I2 ea c n l ry fun s3 I3=>⟨Z,_,I3,q2⟩
end
section
variable {c:Value} {b:Bool}
inductive jL(K:Frag)(H:Hp):V->Value->Prop where
 | non:jL K H .non (.type "NoneType")
 | bl (x:Bool):jL K H (.bl x) (.type "bool")
 | int (i:Int):jL K H (.int i) (.type "int")
 | str (x:Str):jL K H (.str x) (.type "str")
 | flt (x:UInt64):jL K H (.flt x) (.type "float")
 | lst {a:Addr} {xs:List V} (e:H a=some (.lst xs)):jL K H (.ref a) (.type "list")
 | frz {a:Addr} {o:Obj} {xs:List V} (e:H a=some (.frz o (.lst xs))):jL K H (.ref a) (.type "list")
 | tup {a:Addr} {xs:List V} (e:H a=some (.tup xs)):jL K H (.ref a) (.type "tuple")
 | dK {a:Addr} {kvs:List (rN×V)} (e:H a=some (.dK kvs)):jL K H (.ref a) (.type "dict")
 | dT {a:Addr} {kvs:List (List rN×V)} (e:H a=some (.dT kvs)):jL K H (.ref a) (.type "dict")
 | ins {a C dx:Addr} {fs:List (Str×V)} (e:H a=some (.ins C dx fs)) (cl:rO K C) (ha:findIn K (.ref C) "__class__"=some (some (.builtin "object.__class__")))
   (hn:PySem.W.specialIn K (.builtin "object.__class__") "__get__"=some (some (.builtin "getset_descriptor.__get__"))) (htk:PySem.W.takesIn K (.builtin "object.__class__")=some true)
   (hm:PySem.W.mroIn K C (.type "object")=some true):jL K H (.ref a) (.ref C)
theorem wY{x:V}{t:Value}(I:aJ X pins Z H s)(rx:aS x u)(ty:jL X.K H x t)(e:PySem.W.kitOne X.K t c=some b)(h:∀tk,Q (.bool b) { s with toks:=tk }):
  wpAny (model X.prog X.w) A (call (.builtin "isinstance") [u,c]) Q E s:=by
 cases ty with
 | non=>cases(show u=Value.none from rx);exact kia_one PySem.W.kitx_none I.kIn True.intro e (fun z=>nomatch z) h
 | bl y=>cases(show u=Value.bool y from rx);exact kia_one PySem.W.kitx_bool I.kIn True.intro e (fun z=>nomatch z) h
 | int i=>obtain⟨t,q⟩:=(show ∃t,u=Value.int i t from rx);cases q;exact kia_one PySem.W.kitx_int I.kIn True.intro e (fun z=>nomatch z) h
 | str y=>obtain⟨t,q⟩:=(show ∃t,u=Value.str y t from rx);cases q;exact kia_one PySem.W.kitx_str I.kIn True.intro e (fun z=>nomatch z) h
 | flt y=>obtain⟨t,q⟩:=(show ∃t,u=Value.float y t from rx);cases q;exact kia_one PySem.W.kitx_float I.kIn True.intro e (fun z=>nomatch z) h
 | @lst a xs ea=>
  cases(show u=Value.ref a from rx);obtain⟨_,_,n,_,h1⟩:=(show dh X.prog X.w H s.heap a (.lst xs)from I.hok a _ ea);exact kia_one PySem.W.kitx_list I.kIn ⟨_,h1,rfl⟩ e (fun z=>nomatch z) h
 | @frz a ob xs ea=>
  cases(show u=Value.ref a from rx);obtain⟨_,_,_,n,_,h1⟩:=(show dh X.prog X.w H s.heap a (.frz ob (.lst xs))from I.hok a _ ea);exact kia_one PySem.W.kitx_list I.kIn ⟨_,h1,rfl⟩ e (fun z=>nomatch z) h
 | @tup a xs ea=>
  cases(show u=Value.ref a from rx);obtain⟨_,_,_,p⟩:=(show dh X.prog X.w H s.heap a (.tup xs)from I.hok a _ ea);obtain⟨o,h1,h2,_⟩:=p;exact kia_one PySem.W.kitx_tuple I.kIn ⟨o,h1,h2⟩ e (fun z=>nomatch z) h
 | @dK a kvs ea=>
  cases(show u=Value.ref a from rx);obtain⟨_,_,vs,_,p⟩:=(show dh X.prog X.w H s.heap a (.dK kvs)from I.hok a _ ea);obtain⟨o,es,ep,h1,h2,_⟩:=p;exact kia_one PySem.W.kitx_dict I.kIn ⟨o,h1,h2.1⟩ e (fun z=>nomatch z) h
 | @dT a kvs ea=>
  cases(show u=Value.ref a from rx);obtain⟨_,_,xs,_,o,es,ep,h1,h2,_⟩:=(show dh X.prog X.w H s.heap a (.dT kvs)from I.hok a _ ea);exact kia_one PySem.W.kitx_dict I.kIn ⟨o,h1,h2.1⟩ e (fun z=>nomatch z) h
 | @ins a C dx fs ea cl ha hn htk hm=>
  cases(show u=Value.ref a from rx);obtain⟨mA,O,_⟩:=mr I.hok ea;obtain⟨od,J,_⟩:=O.look;exact kia_one (PySem.W.kitx_own (cl.get _) cl.hd ha hn htk hm) I.kIn J e (fun z=>nomatch z) h
end
structure dy(k:Nat)(A:Around):Prop where
 hd:A.handled=none
 dp:A.depth+3 * k+5 < recursionLimit
 un:A.units+16 * k+200 < cLine
theorem dy.mono(r:dy k A)(h:j<=k):dy j A:=⟨r.hd,by have:=r.dp;omega,by have:=r.un;omega⟩
theorem dy.deeper(r:dy (k+1) A)(env:Env):dy k (A.deeper env):=
 ⟨r.hd,by have:=r.dp;show A.depth+1+3 * k+5 < _;omega,by have:=r.un;show A.units+3+16 * k+200 < _;omega⟩
theorem uo:(A.under (.builtin "type.__call__" ⟨.ref C::us,kw⟩)).depth=A.depth+1:=by
 first | rfl | simp [Around.under,Code.weight,Code.isCreation,Code.isGuard,Code.isCaller,Code.frames,Code.isFrame,guardIds]
theorem uq:(A.under (.builtin "type.__call__" ⟨.ref C::us,kw⟩)).units=A.units+1:=by
 first | rfl | simp [Around.under,Code.cUnits,Code.frames,Code.isFrame]
theorem dy.make(r:dy (k+1) A)(C:Addr)(us:List Value)(kw:List (Str×Value)):dy k (A.under (.builtin "type.__call__" ⟨.ref C::us,kw⟩)):=
 ⟨r.hd,by have:=r.dp;rw [uo];omega,by have:=r.un;rw [uq];omega⟩
theorem dy.depth(r:dy k A):A.depth < recursionLimit:=by have:=r.dp;omega
theorem dy.units(r:dy k A):A.units+64 < cLine:=by have:=r.un;omega
def tN:TA:=fun _ H Q=>Q [] H
def ow(ta:TE)(tr:TA):TA:=fun Z H Q=>ta Z H fun x H1=>tr Z H1 fun xs H2=>Q (x::xs) H2
theorem ah:PA X [] tN:=fun _ _ _ _ H Q I h=>Calls.spliced_nil ⟨[],H,I,.nil,h⟩
theorem aa(ha:PE X e te)(hr:PA X es t)(hs:starEach (e::es) X.env=(false,eval e X.env)::starEach es X.env:=by rfl):PA X (e::es) (ow te t):=by
 intro pos pins s Z H Q I h;rw [hs];show wpAny _ _ (spliced ((false,eval e X.env)::backTo pos (starEach es X.env))) _ _ s;refine Calls.spliced_cons (ck (ha pins s Z H _ I h) fun u s1 zq0=>?_);obtain⟨x,H1,I1,r1,q1⟩:=zq0;exact ck (hr pos pins s1 Z H1 _ I1 q1) fun us s2 ⟨xs,H2,I2,r2,q2⟩=>⟨x::xs,H2,I2,.cons r1 r2,q2⟩
def Fh(t:TA):TE:=fun Z H Q=>t Z H fun xs H1=>xs.length<=sizeLine/\∀p,H1 p=none->Q (.ref p) (upd H1 p (.tup xs))
def Fg(t:TA):TE:=fun Z H Q=>t Z H fun xs H1=>xs.length<=sizeLine/\∀p,H1 p=none->Q (.ref p) (upd H1 p (.lst xs))
theorem dj{x1}(h:PA X es t):PE X (.Tuple es x1 pos) (Fh t):=by
 intro pins s Z H Q I hq;refine wpAny_Tuple_spliced (ck (h pos pins s Z H _ I hq) fun us s1 ⟨xs,H1,I1,r,z,q⟩=>⟨by rw [<-r.length];exact z,?_⟩);have hf:H1 s1.heap.objs.size=none:=I1.hok.fresh (aa9 _);refine⟨.ref s1.heap.objs.size,upd H1 s1.heap.objs.size (.tup xs),I1.laid (t':=s1.toks) (fun b u e=>aa4 _ e) (aa9 _) ?_,rfl,q _ hf⟩;exact⟨z,us,r,⟨_,ab3 _ rfl,rfl,_,rfl⟩⟩
theorem bQ(h:PA X es t):PE X (.List es pos) (Fg t):=by
 intro pins s Z H Q I hq;refine wpAny_List_spliced (ck (h pos pins s Z H _ I hq) fun us s1 ⟨xs,H1,I1,r,z,q⟩=>⟨by rw [<-r.length];exact z,?_⟩);have hf:H1 s1.heap.objs.size=none:=I1.hok.fresh (aa9 _);refine⟨.ref s1.heap.objs.size,upd H1 s1.heap.objs.size (.lst xs),I1.laid (t':=s1.toks) (fun b u e=>aa4 _ e) (aa9 _) ?_,rfl,q _ hf⟩;exact⟨z,us,0,r,ab3 _ rfl⟩
abbrev Sp:=List V->Hp->VK->XK->Prop
variable {sp:Sp}
abbrev Ap:=List Env->Hp->Shared->XK->Value->Shared->Prop
variable {CX:Ap}
structure tV(P:Program)(w:World)(K:Frag)(mg:Str->Option Value)(base:Heap)(A:Around)(outer:List Env)(s:Shared)(H:Hp):Prop where
 frames:A.frames=some outer
 mod:Mod K mg base
 bs:∀b o,base.get? b=some o->s.heap.get? b=some o/\H b=none
 bsz:base.objs.size<=s.heap.objs.size
 funs:s.heap.FunFrames base outer
 frf:∀b∈tR outer,H b=none
 hok:jC P w H s.heap
 bare:AllBare s.gens
def CE(outer:List Env)(P:Program)(w:World)(H:Hp)(s:Shared)(Q:VK)(u:Value)(s':Shared):Prop:=
 ∃v H',s'.os=s.os/\AllBare s'.gens/\Un (tR outer) [] H H' s.heap s'.heap/\jC P w H' s'.heap/\aS v u/\Q v H'
def CR(CX:Ap)(outer:List Env)(P:Program)(w:World)(H:Hp)(s:Shared)(Q:VK)(E:XK)(r:Result)(s':Shared):Prop:=
 match r with
 | .ok (.ret u)=>CE outer P w H s Q u s'
 | .ok _=>False
 | .error e=>CX outer H s E e s'
structure aN(P:Program)(w:World)(K:Frag)(mg:Str->Option Value)(base:Heap)(CX:Ap)(k:Nat)(f:Addr)(fd:FuncData)(ps:List Str)(sp:Sp):Prop where
 len:∀vs H Q E,sp vs H Q E->vs.length=ps.length
 run:∀(A:Around) (outer:List Env) (s:Shared) (H:Hp) (args:Args) (us:List Value) (vs:List V) (Q:VK) (E:XK),dy k A->tV P w K mg base A outer s H->BindsTo s fd args (ps.zip us)->aQ vs us->sp vs H Q E->
  codeAny (model P w) A (.call (.ref f) args) (CR CX outer P w H s Q E) s
theorem aN.mono(F:aN P w K mg base CX j f fd ps sp)(h:j<=k):
  aN P w K mg base CX k f fd ps sp:=⟨F.len,fun A outer s H args us vs Q E hr=>F.run A outer s H args us vs Q E (hr.mono h)⟩
theorem aN.imp{sp':Sp}(F:aN P w K mg base CX k f fd ps sp)
  (h:∀vs H Q E,sp' vs H Q E->sp vs H Q E):aN P w K mg base CX k f fd ps sp':=
 ⟨fun vs H Q E q=>F.len vs H Q E (h _ _ _ _ q),fun A outer s H args us vs Q E hr he hb hv hs=>F.run A outer s H args us vs Q E hr he hb hv (h _ _ _ _ hs)⟩
theorem tV.make{outer:List Env}(e:tV P w K mg base A outer s H)(C:Addr)(us:List Value)(kw:List (Str×Value)):
  tV P w K mg base (A.under (.builtin "type.__call__" ⟨.ref C::us,kw⟩)) outer s H:=⟨by first | exact e.frames | (simpa [Around.under,Code.envs,Code.isFrame,pushEnvs]using e.frames),e.mod,e.bs,e.bsz,e.funs,e.frf,e.hok,e.bare⟩
theorem aJ.env0(I:aJ X pins Z H s):tV X.prog X.w X.K X.mg X.base X.A X.stack s H:=
 ⟨I.ok.frames,I.ok.mod,I.bs,ab9 I.ok.bsz I.sz,I.stack,I.stkFree,I.hok,I.bare⟩
theorem aJ.after{Q:VK}(I:aJ X pins Z H s)(h:CE X.stack X.prog X.w H s Q u s'):EP X pins Z Q u s':=by
 obtain⟨v,H',os,bare,un,hok,r,q⟩:=h;obtain⟨hh,g,d,t,os'⟩:=s';obtain rfl:os'=s.os:=os;exact⟨v,H',I.call (h':=hh) (g':=g) (d':=d) (t':=t) (ch:=[]) un hok bare (fun b z=>absurd z (by simp)),r,q⟩
def tL(sp:Sp)(dvs:List V)(E:XK)(t:TA):TE:=fun Z H Q=>t Z H fun vs H1=>sp (vs++dvs) H1 Q E
def Af(C:Addr)(sp:Sp)(dvs:List V)(E:XK)(t:TA):TE:=fun Z H Q=>t Z H fun vs H1=>∀x dx,H1 x=none->H1 dx=none->dx≠x->
 sp (.ref x::(vs++dvs)) (upd (upd H1 dx (.own x)) x (.ins C dx [])) (fun v H2=>v=.non/\Q (.ref x) H2) E
def dE(K:Frag)(fd:FuncData)(ps:List Str)(ds:List Value):Prop:=
 ∀(s:Shared) (us:List Value),K.In s.heap->(us++ds).length=ps.length->BindsTo s fd ⟨us,[]⟩ (ps.zip (us++ds))
theorem dE.all(h:∀us:List Value,us.length=ps.length->bindArgs fd ⟨us,[]⟩=pure (ps.zip us)):dE K fd ps []:=fun s us _ hl=>by
 rw [af4]at hl |-;exact .of_eq (h us hl)
def mR(CX:Ap)(X:Cx)(E:XK):Prop:=∀(pins:List (Addr×Obj)) (Z:St) (H:Hp) (s:Shared) (e:Value) (s':Shared),aJ X pins Z H s->CX X.stack H s E e s'->X.xe e s'
section
variable {dvs:List V} {ds:List Value} {E:XK} {apos:Pos} {o:Expr}
theorem nS{Q:VK}(F:aN X.prog X.w X.K X.mg X.base CX k f fd ps sp)(hr:dy k X.A)(hb:dE X.K fd ps ds)(hd:aQ dvs ds)(hx:mR CX X E)
  (I:aJ X pins Z H s) (r:aQ vs us) (h:sp (vs++dvs) H Q E):wpAny (model X.prog X.w) X.A (call (.ref f) us) (EP X pins Z Q) X.xe s:=by
 have r2:aQ (vs++dvs) (us++ds):=r.append hd
 have hl:(us++ds).length=ps.length:=by rw [<-r2.length];exact F.len _ _ _ _ h
 refine wpAny_call (ap5 (F.run X.A X.stack s H ⟨us,[]⟩ (us++ds) (vs++dvs) Q E hr I.env0 (hb s us I.kIn hl) r2 h) fun r s' hq=>?_)
 cases r with
 | error e=>exact hx pins Z H s e s' I hq
 | ok fl=>
  cases fl with
  | ret u=>exact I.after hq
  | next=>exact False.elim hq
  | brk=>exact False.elim hq
  | cont=>exact False.elim hq
theorem By(F:aN X.prog X.w X.K X.mg X.base CX k f fd ps sp)(hr:dy k X.A)(hg:Gl X x)(hm:X.mg x=some (.ref f))(hk:keepIn X.K (.ref f)=true)(hb:dE X.K fd ps ds)(hd:aQ dvs ds)(hx:mR CX X E)
  (ha:PA X (e::es) t) (hdb:(x == ("__debug__":Str))=false:=by decide) (he:starEach (e::es) X.env=(false,eval e X.env)::starEach es X.env:=by rfl) (hpl:(backTo pos (starEach es X.env)).any (·.1)=false:=by rfl) :
  PE X (.Call (.Name x p) (e::es) [] pos) (tL sp dvs E t):=by
 intro pins s Z H Q I h;refine ag3 (mB I hg hm ?_ hdb);refine PySem.W.callWith_K (h₀:=X.base) I.ok.mod.kin hk (ck (ha pos pins s Z H _ I h) fun us s1 ⟨vs,H1,I1,r,q⟩=>⟨I1.kIn,?_⟩) he hpl;exact nS F hr hb hd hx I1 r q
structure Mk(K:Frag)(C f:Addr):Prop where
 makes:PySem.W.makesIn K C=true
 init:findIn K (.ref C) "__init__"=some (some (.ref f))
 fn:PySem.W.isFn K (.ref f)=true
 kp:keepIn K (.ref C)=true
theorem zM{Q:VK}(M:Mk X.K C f)(F:aN X.prog X.w X.K X.mg X.base CX k f fd ps sp)(hr:dy (k+1) X.A)(hb:dE X.K fd ps ds)(hd:aQ dvs ds)
  (hx:mR CX X E) (I:aJ X pins Z H s) (r:aQ vs us)
  (h:∀x dx,H x=none->H dx=none->dx≠x->sp (.ref x::(vs++dvs)) (upd (upd H dx (.own x)) x (.ins C dx [])) (fun v H2=>v=.non/\Q (.ref x) H2) E) :
  wpAny (model X.prog X.w) X.A (call (.ref C) us) (EP X pins Z Q) X.xe s:=by
 have hq:=h (s.heap.objs.size+1) s.heap.objs.size (I.hok.fresh (am7 _)) (I.hok.fresh (aa9 _)) (ac6 (am2 _));have I2:=aJ.made (C:=C) I;have r2:aQ (V.ref (s.heap.objs.size+1)::(vs++dvs)) (Value.ref (s.heap.objs.size+1)::(us++ds)):=.cons rfl (r.append hd)
 have hl:(Value.ref (s.heap.objs.size+1)::us++ds).length=ps.length:=by
  have e:=r2.length;rw [F.len _ _ _ _ hq]at e;exact e.symm
 refine wpAny_call (yY (f:=f) I.kIn M.makes M.init (beq_iff_eq.mp M.fn) (ap5 (F.run _ X.stack _ _ ⟨Value.ref (s.heap.objs.size+1)::us,[]⟩ (Value.ref (s.heap.objs.size+1)::(us++ds)) _ _ E (hr.make C us [])
  (I2.env0.make C us []) (hb _ (Value.ref (s.heap.objs.size+1)::us) I2.kIn hl) r2 hq) fun r s' hq'=>?_))
 cases r with
 | error e=>exact hx pins Z _ _ e s' I2 hq'
 | ok fl=>
  cases fl with
  | ret u=>
   obtain⟨v,H',I3,rv,ev,q3⟩:=I2.after hq';subst ev;exact⟨rv,⟨V.ref (s.heap.objs.size+1),H',I3,rfl,q3⟩⟩
  | next=>exact False.elim hq'
  | brk=>exact False.elim hq'
  | cont=>exact False.elim hq'
theorem BB(M:Mk X.K C f)(F:aN X.prog X.w X.K X.mg X.base CX k f fd ps sp)(hr:dy (k+1) X.A)(hg:Gl X x)(hm:X.mg x=some (.ref C))(hb:dE X.K fd ps ds)(hd:aQ dvs ds)(hx:mR CX X E)
  (ha:PA X (e::es) t) (hdb:(x == ("__debug__":Str))=false:=by decide) (he:starEach (e::es) X.env=(false,eval e X.env)::starEach es X.env:=by rfl) (hpl:(backTo pos (starEach es X.env)).any (·.1)=false:=by rfl) :
  PE X (.Call (.Name x p) (e::es) [] pos) (Af C sp dvs E t):=by
 intro pins s Z H Q I h;refine ag3 (mB I hg hm ?_ hdb);refine PySem.W.callWith_K (h₀:=X.base) I.ok.mod.kin M.kp (ck (ha pos pins s Z H _ I h) fun us s1 ⟨vs,H1,I1,r,q⟩=>⟨I1.kIn,?_⟩) he hpl;exact zM M F hr hb hd hx I1 r q
end
def PK(X:Cx)(kws:List Keyword)(t:TA):Prop:=
 ∀(pos:Pos) (pins:List (Addr×Obj)) (s:Shared) (Z:St) (H:Hp) (Q:List V->Hp->Prop),aJ X pins Z H s->t Z H Q->wpAny (model X.prog X.w) X.A (evalAll ((backToKw pos (keywordEach kws X.env)).map (·.2))) (AP X pins Z Q) X.xe s
section
variable {ks:List Str} {E:XK} {apos kpos:Pos} {o:Expr} {kws:List Keyword} {tk:TA} {nm:Option Str}
theorem Dy:PK X [] tN:=fun _ _ _ _ H Q I h=>wpAny_evalAll_nil ⟨[],H,I,.nil,h⟩
theorem BF(ha:PE X e te)(hr:PK X kws t):PK X (⟨nm,e,kpos⟩::kws) (ow te t):=by
 intro pos pins s Z H Q I h
 show wpAny _ _ (evalAll ((do let v <-eval e X.env;standAt pos;pure v)::(backToKw pos (keywordEach kws X.env)).map (·.2))) _ _ s
 refine wpAny_evalAll_cons (aa2 (ck (ha pins s Z H _ I h) fun u s1 ⟨x,H1,I1,r1,q1⟩=>aa2 (am5 (aa7 ?_))));exact ck (hr pos pins s1 Z H1 _ I1 q1) fun us s2 ⟨xs,H2,I2,r2,q2⟩=>⟨x::xs,H2,I2,.cons r1 r2,q2⟩
structure FK(K:Frag)(fd:FuncData)(ps ks:List Str)(g:List Value->List Value->List Value)(gV:List V->List V->List V):Prop where
 to:∀(s:Shared) (us ws:List Value),K.In s.heap->(g us ws).length=ps.length->BindsTo s fd ⟨us,ks.zip ws⟩ (ps.zip (g us ws))
 rel:∀{vs:List V} {us:List Value} {zs:List V} {ws:List Value},aQ vs us->aQ zs ws->aQ (gV vs zs) (g us ws)
variable {g:List Value->List Value->List Value} {gV:List V->List V->List V}
end
structure ay(N P:List Str)(sc:Scope):Prop where
 kind:sc.kind=.function
 co:sc.isCoroutine=false
 gen:sc.isGenerator=false
 nd:N.Nodup
 pre:N.take P.length=P
 par:∀x∈P,sc.names.lookup x=some .local\/sc.names.lookup x=some .cell
 nofree:∀y∈sc.names,y.2≠.free
theorem pI:∀{binds:List (Str×Value)} {m:Str->Option Value},(∀v,(x,v)∉binds)->bindL kindOf binds m x=m x
 | [],_,_=>rfl
 | (n,v)::r,m,h=>by
  unfold bindL;rw [pI fun w hw=>h w (ae0 _ hw)]
  split
  ·have:x≠n:=by rintro rfl;exact h v ad8
   simp [this]
  ·rfl
theorem pG:∀{binds:List (Str×Value)} {m:Str->Option Value},(∀v,(x,v)∉binds)->bindC kindOf binds m x=m x
 | [],_,_=>rfl
 | (n,v)::r,m,h=>by
  unfold bindC;rw [pG fun w hw=>h w (ae0 _ hw)]
  split
  ·rfl
  ·have:x≠n:=by rintro rfl;exact h v ad8
   simp [this]
theorem pH{kindOf:Str->Option NameKind}{x:Str}{v:Value}:∀{P:List Str} {vs:List Value} {i:Nat} {m:Str->Option Value},P.Nodup->P[i]?=some x->vs[i]?=some v->kindOf x=some .local->
  bindL kindOf (P.zip vs) m x=some v
 | [],_,_,_,_,h,_,_=>by simp at h
 | _::_,[],_,_,_,_,h,_=>by simp at h
 | p::P,w::vs,0,m,nd,h1,h2,hk=>by
  simp at h1 h2;subst h1;subst h2;show bindL kindOf ((p,w)::P.zip vs) m p=_;unfold bindL;rw [pI fun v hv=>(aj2.mp nd).1 (aq1 hv).1,if_pos hk];simp
 | p::P,w::vs,i+1,m,nd,h1,h2,hk=>by
  show bindL kindOf ((p,w)::P.zip vs) m x=_;unfold bindL;exact pH (i:=i) (aj2.mp nd).2 (by simpa using h1) (by simpa using h2) hk
theorem pF{kindOf:Str->Option NameKind}{x:Str}{v:Value}:∀{P:List Str} {vs:List Value} {i:Nat} {m:Str->Option Value},P.Nodup->P[i]?=some x->vs[i]?=some v->kindOf x≠some .local->
  bindC kindOf (P.zip vs) m x=some v
 | [],_,_,_,_,h,_,_=>by simp at h
 | _::_,[],_,_,_,_,h,_=>by simp at h
 | p::P,w::vs,0,m,nd,h1,h2,hk=>by
  simp at h1 h2;subst h1;subst h2;show bindC kindOf ((p,w)::P.zip vs) m p=_;unfold bindC;rw [pG fun v hv=>(aj2.mp nd).1 (aq1 hv).1,if_neg hk];simp
 | p::P,w::vs,i+1,m,nd,h1,h2,hk=>by
  show bindC kindOf ((p,w)::P.zip vs) m x=_;unfold bindC;exact pF (i:=i) (aj2.mp nd).2 (by simpa using h1) (by simpa using h2) hk
def start(N:List Str)(vs:List V):St:=vs.map some++List.replicate (N.length - vs.length) none
def r6(CX:Ap)(P:Program)(w:World)(K:Frag)(mg:Str->Option Value)(base:Heap)(N:List Str)(qual:Str)(scope:Scope)(f:Addr)(cd:Value)(A:Around)(outer:List Env)(s:Shared)(H:Hp)(E:XK):Cx where
 prog:=P
 w:=w
 K:=K
 mg:=mg
 base:=base
 A:=A.deeper (envOfC qual scope s.heap.objs.size f cd)
 N:=N
 Zh:=s
 Z2:=H
 env:=envOfC qual scope s.heap.objs.size f cd
 outer:=outer
 stack:=envOfC qual scope s.heap.objs.size f cd::outer
 ex:=[]
 calm:=true
 fn:=fun _=>true
 pn:=[]
 xe:=fun e s'=>wpAny (model P w) (A.deeper (envOfC qual scope s.heap.objs.size f cd)) (leaving (envOfC qual scope s.heap.objs.size f cd) e) (fun _ s''=>CX outer H s E e s'') (fun e' s''=>CX outer H s E e' s'') s'
theorem rR{sc:Scope}(h:sc.names.lookup x=some .cell):∃c,(cellsFrom n sc.names []).lookup x=some c:=by
 have q:=PySem.W.cellsFrom_some sc.names n [] (.inl h);exact Option.isSome_iff_exists.mp q
theorem wX{N:List Str}{qual:Str}{scope:Scope}{cd:Value}{outer:List Env}{s1:Shared}{E:XK}
  (S:ay N ps scope) (hd:A.handled=none) (e0:tV P w K mg base A outer s H) (hl:vs.length=ps.length) (r:aQ vs us)
  (x:InCallC s s.heap.objs.size (bindL (envOfC qual scope s.heap.objs.size f cd).kindOf (ps.zip us) fun _=>none) (cellsFrom (s.heap.objs.size+1) scope.names []) (bindC (envOfC qual scope s.heap.objs.size f cd).kindOf (ps.zip us) fun _=>none) s1) :
  aJ (r6 CX P w K mg base N qual scope f cd A outer s H E) [] (start N vs) H s1:=by
 have hpl:ps.length<=N.length:=by have:=congrArg List.length S.pre;rw [ac3]at this;omega
 obtain⟨h1,tk,rfl,hk⟩:=x.done;have noA:∀b:Addr,b∉(r6 CX P w K mg base N qual scope f cd A outer s H E).ex:=fun b z=>absurd (show b∈([]:List Addr)from z) (by simp)
 refine⟨⟨e0.mod,S.kind,rfl,rfl,aa9 _,fun y z c h1 h2=>?_,fun y hy=>?_,fun y c _ h=>?_,fun _=>hd,Around.frames_deeper e0.frames,.inr ⟨rfl,rfl⟩,fun b z=>absurd z (noA b),e0.bs,e0.bsz,fun b _ _=>noA b,fun b z=>absurd z (noA b),e0.funs,e0.frf⟩,
  rfl,e0.bare,Un.kept hk,⟨_,x.toInCall.ns,fun i y v h1 h2 h3=>?_⟩,fun y c h=>⟨_,x.cell y c h⟩,e0.hok.fresh (aa9 _),fun y c h=>?_,fun p hp=>absurd (show p∈([]:List (Addr×Obj))from hp) (by simp),e0.hok.kept hk,?_⟩
 ·exact name_of_addr x.apart (PySem.mem_of_lookup h1) (PySem.mem_of_lookup h2)
 ·have hy:scope.names.lookup y=some .cell\/scope.names.lookup y=some .free:=hy
  rcases hy with hy | hy
  ·exact rR hy
  ·exact absurd rfl (S.nofree _ (PySem.mem_of_lookup hy))
 ·exact ah8 (x.above y c (PySem.mem_of_lookup h))
 ·have hi:i < vs.length:=by
   unfold start at h2
   by_cases hi:i < vs.length
   ·exact hi
   ·rw [ac4 (by simpa using hi)]at h2
    rw [List.getElem?_replicate]at h2
    split at h2<;>cases h2
  have ha:vs[i]?=some v:=by
   unfold start at h2;rw [ab5 (by simpa using hi),aa5]at h2
   cases e:vs[i]? with
   | none=>rw [e]at h2;cases h2
   | some a=>rw [e]at h2;cases h2;rfl
  obtain⟨u,hu,rv⟩:=r.get ha
  have hp:ps[i]?=some y:=by
   rw [<-S.pre,List.getElem?_take_of_lt (by omega)];exact h1
  have ndP:ps.Nodup:=by rw [<-S.pre];exact S.nd.sublist (List.take_sublist _ _)
  refine⟨u,rv,?_⟩;rcases S.par y (ac5 hp)with k | k
  ·exact .inl ⟨k,pH ndP hp hu k⟩
  ·obtain⟨c,e⟩:=rR (n:=s.heap.objs.size+1) k
   refine .inr ⟨.inl k,c,e,?_⟩;have q:=x.cell y c e;rw [pF ndP hp hu (by show scope.names.lookup y≠_;rw [k];decide)]at q;exact q
 ·exact e0.hok.fresh (ah8 (x.above y c (PySem.mem_of_lookup h)))
 ·unfold start
  show _=N.length;rw [ab2,aa0,al9];omega
theorem Cm{name qual:Str}{params:Arguments}{scope:Scope}{dV kV doc pm cdv ct oc:Value}{an od:Option Addr}
  {osl:Array (Option Value)} {N ps:List Str} {sp:Sp} (lk:K.lookup f=some ⟨oc,od,.func (fnOf name qual params body scope dV kV doc pm an cdv ct),osl⟩) (hcd:codeIn K cdv qual=true) (S:ay N ps scope)
  (len:∀vs H Q E,sp vs H Q E->vs.length=ps.length)
  (hbody:∀(A:Around) (outer:List Env) (s:Shared) (H:Hp) (vs:List V) (Q:VK) (E:XK),dy k (A.deeper (envOfC qual scope s.heap.objs.size f cdv))->sp vs H Q E->
   ∃t,vE (r6 CX P w K mg base N qual scope f cdv A outer s H E) body t/\t { nx:=fun _ H'=>Q .non H',rt:=Q } (start N vs) H) :
  aN P w K mg base CX (k+1) f (fnOf name qual params body scope dV kV doc pm an cdv ct) ps sp:=by
 refine⟨len,fun A outer s H args us vs Q E hr e0 hb r hsp=>?_⟩;have hl:=len _ _ _ _ hsp;have KX:K.In s.heap:=e0.mod.kin.keeps fun b o e=>(e0.bs b o e).1;have lim:s.heap.NoLimit:=e0.mod.nolimit.keeps fun b o e=>(e0.bs b o e).1
 have hkind:∀y∈ps.zip us,scope.names.lookup y.1=some .local\/(scope.names.lookup y.1=some .cell/\((cellsFrom (s.heap.objs.size+1) scope.names []).lookup y.1).isSome=true):=fun⟨n,v⟩ hy=>by
  rcases S.par n (aq1 hy).1 with q | q
  ·exact .inl q
  ·exact .inr ⟨q,PySem.W.cellsFrom_some _ _ _ (.inl q)⟩
 refine codeAny_call_function hr.depth (KX _ _ lk) rfl S.co S.gen rfl (PySem.W.codeRec_of KX hcd) (hb _ _ _ _ ?_);refine wpAny_newFunctionEnv_cells S.kind hkind fun env he s1 x=>?_;subst he;refine⟨lim.keeps x.toInCall.keep,codeAny_func ?_⟩;obtain⟨t,ht,hq⟩:=hbody A outer s H vs Q E (hr.deeper _) hsp;have I:aJ (r6 CX P w K mg base N qual scope f cdv A outer s H E) [] (start N vs) H s1:=wX S hr.hd e0 hl r x;refine af5 (ht [] s1 (start N vs) H _ I hq) (fun fl s' hs=>?_) fun e s' hs=>hs
 have fin:∀{Zc:St} {H':Hp} {v:V} {u:Value},aJ (r6 CX P w K mg base N qual scope f cdv A outer s H E) [] Zc H' s'->aS v u->Q v H'->CE outer P w H s Q u s':=
  fun {Zc H' v u} J rv q=>⟨v,H',J.os,J.bare,J.base,J.hok,rv,q⟩
 cases fl with
 | ret u=>
  obtain⟨v,Zc,H',J,rv,q⟩:=hs;exact fin J rv q
 | next=>
  obtain⟨Zc,H',J,q⟩:=hs;exact fin (v:=V.non) (u:=Value.none) J rfl q
 | brk=>
  obtain⟨_,_,_,q⟩:=hs;exact False.elim q
 | cont=>
  obtain⟨_,_,_,q⟩:=hs;exact False.elim q
section
variable {id T:String} {r:List V->Hp->VK->Prop}
def DP(r:List V->Hp->VK->Prop)(t:TA):TE:=fun Z H Q=>t Z H fun vs H1=>r vs H1 Q
theorem az(hc:cC X (.builtin id) r)(hg:Gl X x)(hm:X.mg x=none)(hv:bootBuiltins x=some (.builtin id))(ha:PA X (e::es) t)(hn:x≠"__name__":=by decide)(hdb:(x == ("__debug__":Str))=false:=by decide)
  (he:starEach (e::es) X.env=(false,eval e X.env)::starEach es X.env:=by rfl) (hpl:(backTo pos (starEach es X.env)).any (·.1)=false:=by rfl):PE X (.Call (.Name x p) (e::es) [] pos) (DP r t):=by
 intro pins s Z H Q I h;refine ag3 (eX I hg hm hv ?_ hn hdb);exact PyProof.Rows.callWith_builtin1 (ck (ha pos pins s Z H _ I h) fun us s1 ⟨vs,H1,I1,r1,q1⟩=>hc pins s1 Z H1 vs us Q I1 r1 q1) he hpl
theorem bo(hc:cC X (.type T) r)(hg:Gl X x)(hm:X.mg x=none)(hv:bootBuiltins x=some (.type T))(ha:PA X (e::es) t)(hn:x≠"__name__":=by decide)(hdb:(x == ("__debug__":Str))=false:=by decide)
  (he:starEach (e::es) X.env=(false,eval e X.env)::starEach es X.env:=by rfl) (hpl:(backTo pos (starEach es X.env)).any (·.1)=false:=by rfl):PE X (.Call (.Name x p) (e::es) [] pos) (DP r t):=by
 intro pins s Z H Q I h;refine ag3 (eX I hg hm hv ?_ hn hdb);exact PyProof.Rows.callWith_type1 (ck (ha pos pins s Z H _ I h) fun us s1 ⟨vs,H1,I1,r1,q1⟩=>hc pins s1 Z H1 vs us Q I1 r1 q1) he hpl
end
end L2
namespace HT
open PySem PyProof.Rows
def lexLt:List Int->List Int->Bool
 | [],[]=>false
 | [],_::_=>true
 | _::_,[]=>false
 | x::xs,y::ys=>if x=y then lexLt xs ys else decide (x < y)
theorem uk(x y:Int)(xs ys:List Int):lexLt (x::xs) (y::ys)=if x=y then lexLt xs ys else decide (x < y):=rfl
theorem oN:lexLt [] []=false:=rfl
theorem nk(y:Int)(ys:List Int):lexLt [] (y::ys)=true:=rfl
theorem nj(x:Int)(xs:List Int):lexLt (x::xs) []=false:=rfl
theorem yt(A:Around)(s:Shared)(a:Int)(t:Tok)(c:Int)(u:Tok):∃e,SeqAt.EqAt A s (.int a t) (.int c u) e/\(e=true↔a=c):=
 ⟨(a == c),SeqAt.EqAt.int_int a t c u,by simp⟩
theorem zF(A:Around)(s:Shared)(a:Int)(t:Tok)(c:Int)(u:Tok)(prog:Program)(w:World)(E:Value->Shared->Prop)(Q:Value->Shared->Prop)(h:Q (.bool (decide (a < c))) s):
  wpAny (model prog w) A (richCompare .Lt (.int a t) (.int c u)) Q E s:=
 (PyProof.Rows.lt_int h:wpAny (model prog w) A (compareOp .Lt (.int a t) (.int c u)) Q E s)
section
open PySem.SeqAt
open PySem.AutoSeq1 (wpAny_loadPart')
open PySem.MeetsSeq PySem.MeetsSeq2 PySem.MeetsSeq3
theorem pC(l b:Addr)(items items2:Array Value)(n n2:Nat)(dd dd2:Option Addr)(sl sl2:Array (Option Value))(ns ms:List Int)(hi:IntsAre items.toList ns)(hj:IntsAre items2.toList ms):
  Meets (Builtin.«tuple.__lt__» ⟨[.ref l,.ref b],[]⟩)
   (fun _ R s=>s.heap.get? l=some { cls:=.type "tuple",dict:=dd,data:=.seq items n,slots:=sl }/\s.heap.get? b=some { cls:=.type "tuple",dict:=dd2,data:=.seq items2 n2,slots:=sl2 }/\
    R (.ok (.ret (.bool (lexLt ns ms)))) s):=
 .of_wp fun prog w A R s h=>by
  obtain⟨hp,g,d,tk,os⟩:=s;obtain⟨hl,hb,h⟩:=h;have f2:=AutoSeq1.sub_tuple_tuple
  have z1:items.size=ns.length:=by rw [<-hi.length];simp
  have z2:items2.size=ms.length:=by rw [<-hj.length];simp
  wp_walk using aj3 hl,aj3 hb,am3 _ (fun rest b s'=>b.1=none/\s'=⟨hp,g,d,tk,os⟩/\∃(vs ws:List Value) (ns' ms':List Int),rest=vs.zip ws/\
   IntsAre vs ns'/\IntsAre ws ms'/\ns'.length+items2.size=ms'.length+items.size/\R (.ok (.ret (.bool (lexLt ns' ms')))) ⟨hp,g,d,tk,os⟩) _
  case turn=>
   rintro⟨y,x⟩ rest b s' ⟨hb',rfl,vs,ws,ns',ms',hz,hvi,hwi,hlen,hR⟩
   cases hvi with
   | nil=>rw [List.zip_nil_left]at hz;cases hz
   | cons a t hvi'=>
    cases hwi with
    | nil=>rw [List.zip_nil_right]at hz;cases hz
    | cons c u hwi'=>
     rw [List.zip_cons_cons]at hz
     injection hz with hyx hrest
     injection hyx with hy hx
     subst hy hx;rw [uk]at hR;simp only [ad1]at hlen;obtain⟨e,he,hiff⟩:=yt A.in1 ⟨hp,g,d,tk,os⟩ a t c u;refine aa2 (he prog w _ _ ?_)
     cases e with
     | true=>
      rw [if_pos (hiff.mp rfl)]at hR
      wp_walk
      exact⟨rfl,rfl,_,_,_,_,hrest,hvi',hwi',by omega,hR⟩
     | false=>
      rw [if_neg (fun q=>absurd (hiff.mpr q) aa6)]at hR;have hri:=zF A.in1 ⟨hp,g,d,tk,os⟩ a t c u prog w
      wp_walk using hri
      exact⟨_,rfl,by simpa using hR⟩
  case fin=>
   rintro⟨b1,b2⟩ s' ⟨hb',rfl,vs,ws,ns',ms',hz,hvi,hwi,hlen,hR⟩;simp only at hb';subst hb'
   have hv:lexLt ns' ms'=decide (items.size < items2.size):=by
    cases hvi with
    | nil=>
     cases hwi with
     | nil=>
      simp only [an2]at hlen;rw [oN];exact(decide_eq_false (by omega)).symm
     | cons c u hw=>
      simp only [an2,ad1]at hlen;rw [nk];exact(decide_eq_true (by omega)).symm
    | cons a t hv=>
     cases hwi with
     | nil=>
      simp only [an2,ad1]at hlen;rw [nj];exact(decide_eq_false (by omega)).symm
     | cons c u hw=>
      rw [List.zip_cons_cons]at hz;cases hz
   rw [hv]at hR
   wp_walk
   exact⟨_,rfl,by simpa [Builtin.Tuple.tupleCompareSizes]using hR⟩
  case h=>
   exact⟨rfl,rfl,items.toList,items2.toList,ns,ms,rfl,hi,hj,by omega,h⟩
end
section
variable {prog:Program} {w:World} {A:Around} {E:Value->Shared->Prop} {s:Shared}
theorem lt_tupInts{l b:Addr}{items items2:Array Value}{ns ms:List Int}{Q:Value->Shared->Prop}(hl:IsTup s.heap l items)(hb:IsTup s.heap b items2)(hi:IntsAre items.toList ns)(hj:IntsAre items2.toList ms)
  (hu:A.units < cLine) (h:Q (.bool (lexLt ns ms)) s):wpAny (model prog w) A (compareOp .Lt (.ref l) (.ref b)) Q E s:=by
 obtain⟨⟨cls,dd,data,sl⟩,ho,hc,n,hd⟩:=id hl;obtain⟨⟨cls2,dd2,data2,sl2⟩,ho2,hc2,n2,hd2⟩:=id hb;simp only at hc hd hc2 hd2;subst hc hd hc2 hd2
 exact richCompare_meets_room (op:=.Lt) ⟨_,ho,rfl⟩ ⟨_,ho2,rfl⟩ PySem.F.slot_tuple_lt PySem.F.entry_tuple_lt (PySem.F.args_tuple_lt_2 _ _) (pC l b items items2 n n2 dd dd2 sl sl2 ns ms hi hj)
  ⟨ho,ho2,show Value.bool (lexLt ns ms)≠Value.notImplemented/\Q (.bool (lexLt ns ms)) s from⟨(fun x=>nomatch x),h⟩⟩ hu
theorem cat_tup{t b:Addr}{vs ws:List Value}{Q:Value->Shared->Prop}(ht:IsTup s.heap t vs.toArray)(hb:IsTup s.heap b ws.toArray)(hv:vs≠[])
  (h1:ws=[]->Q (.ref t) s) (h2:ws≠[]->Q (.ref s.heap.objs.size) { s with heap:=s.heap.push { cls:=.type "tuple",data:=.seq (vs++ws).toArray } })
  (hsz:vs.length+ws.length<=sizeLine):wpAny (model prog w) A (binaryOp .Add (.ref t) (.ref b)) Q E s:=by
 obtain⟨⟨cls,dd,data,sl⟩,ho,hc,n,hd⟩:=id ht;obtain⟨⟨cls2,dd2,data2,sl2⟩,ho2,hc2,n2,hd2⟩:=id hb;simp only at hc hd hc2 hd2;subst hc hd hc2 hd2
 have e:vs.toArray++ws.toArray=(vs++ws).toArray:=by simp
 by_cases hw:ws=[]
 ·exact concat_meets ⟨_,ho,rfl⟩ ⟨_,ho2,rfl⟩ noFill_tuple_add seq_tuple_add PySem.F.slot_tuple_add PySem.F.entry_tuple_add (PySem.F.args_tuple_add_2 _ _)
   (tuple_addW1 t b vs.toArray ws.toArray n n2 dd dd2 sl sl2 (by simpa using hv) (by simp [hw])) ⟨ho,ho2,h1 hw⟩
 ·refine concat_meets ⟨_,ho,rfl⟩ ⟨_,ho2,rfl⟩ noFill_tuple_add seq_tuple_add PySem.F.slot_tuple_add PySem.F.entry_tuple_add (PySem.F.args_tuple_add_2 _ _)
   (tuple_addW2 t b vs.toArray ws.toArray n n2 dd dd2 sl sl2 (by simpa using hv) (by simpa using hw) (by rw [ab1,ab1];exact hsz)) ⟨ho,ho2,?_⟩
  rw [e];exact h2 hw
def sIx(n d:Nat):Option Int->Nat
 | none=>d
 | some v=>if v < 0 then(v+(n:Int)).toNat else min v.toNat n
theorem sIx_none(n d:Nat):sIx n d none=d:=rfl
theorem sIx_nat(n d k:Nat):sIx n d (some (k:Int))=min k n:=by
 show(if (k:Int) < 0 then((k:Int)+(n:Int)).toNat else min (k:Int).toNat n)=min k n;rw [if_neg (by omega),ae4]
theorem DJ(n d:Nat)(hd:d<=n)(o:Option Int):sIx n d o<=n:=by
 cases o with
 | none=>exact hd
 | some v=>
  show(if v < 0 then(v+(n:Int)).toNat else min v.toNat n)<=n
  by_cases hv:v < 0
  ·rw [if_pos hv];omega
  ·rw [if_neg hv];exact ak1 _ _
theorem vH(v:Int)(n d:Nat):(if v < 0 then max (v+(n:Int)) 0 else min v (n:Int))=((sIx n d (some v):Nat):Int):=by
 show(if v < 0 then max (v+(n:Int)) 0 else min v (n:Int))=(((if v < 0 then(v+(n:Int)).toNat else min v.toNat n):Nat):Int)
 by_cases hv:v < 0
 ·simp only [if_pos hv];omega
 ·simp only [if_neg hv];omega
theorem tY(lo hi:Option Int)(n:Nat):Builtin.Slice.sliceAdjust lo hi 1 (n:Int)=(((sIx n 0 lo:Nat):Int),((sIx n n hi:Nat):Int)):=by
 have h1:¬((1:Int) < 0):=by omega
 unfold Builtin.Slice.sliceAdjust;simp only [h1,if_false];refine Prod.ext ?_ ?_
 ·cases lo with
  | none=>rfl
  | some v=>exact vH v n 0
 ·cases hi with
  | none=>rfl
  | some v=>exact vH v n n
theorem uH(i j:Nat):Builtin.Slice.slicePlaces (i:Int) (j:Int) 1=j - i:=by
 unfold Builtin.Slice.slicePlaces
 have h1:(1:Int) > 0:=by omega
 simp only [h1,if_true,Int.ediv_one]
 split<;>omega
theorem n8{v:Value}{o:Option Int}{Q:Option Int->Shared->Prop}(p:IsPart v o)(h:Q o s):wpAny (model prog w) A (Builtin.Slice.slicePartIndex v) Q E s:=by
 cases p with
 | none=>exact slicePart_none h
 | int i t=>exact slicePart_int h
theorem lJ{sl:Addr}{vl vu:Value}{lo hi:Option Int}{n:Nat}{Q:Int×Int×Nat->Shared->Prop}(hs:s.heap.IsSliceOf sl vl vu .none)(pl:IsPart vl lo)(pu:IsPart vu hi)
  (h:Q (((sIx n 0 lo:Nat):Int),1,sIx n n hi - sIx n 0 lo) s):wpAny (model prog w) A (Builtin.Slice.sliceApplied (.ref sl) (pure (n:Int))) Q E s:=by
 obtain⟨os,hos,hcs,hds⟩:=id hs;unfold Builtin.Slice.sliceApplied Builtin.Slice.sliceFields;refine aa2 (aa2 (af2 hos hds (x:=vl) rfl (aa2 (af2 hos hds (x:=vu) rfl (aa2 (af2 hos hds (x:=.none) rfl (aa7 ?_)))))));refine aa2 (slicePart_none ?_);show wpAny _ _ (if ((1:Int) == 0)=true then _ else _) _ _ s;rw [if_neg (by decide)];refine aa2 (n8 pl (aa2 (n8 pu (aa2 (aa7 ?_)))))
 show wpAny _ _ (match Builtin.Slice.sliceAdjust lo hi 1 (n:Int)with | (lo,hi)=>pure (lo,(1:Int),Builtin.Slice.slicePlaces lo hi 1)) _ _ s
 rw [tY lo hi n];show wpAny _ _ (pure (((sIx n 0 lo:Nat):Int),(1:Int),Builtin.Slice.slicePlaces ((sIx n 0 lo:Nat):Int) ((sIx n n hi:Nat):Int) 1)) _ _ s;rw [uH];exact aa7 h
theorem zp(xs:Array Value)(i k:Nat):((List.range k).filterMap fun(m:Nat)=>xs[((i:Int)+(m:Int) * 1).toNat]?).toArray=((xs.toList.drop i).take k).toArray:=by
 have e:(fun(m:Nat)=>xs[((i:Int)+(m:Int) * 1).toNat]?)=fun m=>xs[i+m]?:=by
  funext m
  have:((i:Int)+(m:Int) * 1).toNat=i+m:=by omega
  rw [this]
 rw [e]
 have:=pick_run xs i k
 rw [List.filterMap_map]at this;have e2:((fun x=>xs[x]?)∘fun x=>i+x)=fun m=>xs[i+m]?:=rfl;rw [e2]at this;rw [this]
theorem getItem_tuple_cut{t sl:Addr}{items:Array Value}{vl vu:Value}{lo hi:Option Int}{Q:Value->Shared->Prop}(ht:IsTup s.heap t items)(hs:s.heap.IsSliceOf sl vl vu .none)(pl:IsPart vl lo)(pu:IsPart vu hi)
  (hw:¬(sIx items.size 0 lo=0/\sIx items.size items.size hi=items.size))
  (h:Q (.ref s.heap.objs.size) { s with heap:=s.heap.push { cls:=.type "tuple",data:=.seq ((items.toList.drop (sIx items.size 0 lo)).take (sIx items.size items.size hi - sIx items.size 0 lo)).toArray } })
  (hsz:items.size<=sizeLine):wpAny (model prog w) A (getItem (.ref t) (.ref sl)) Q E s:=by
 have htake:sizeOk (.seq ((items.toList.drop (sIx items.size 0 lo)).take (sIx items.size items.size hi - sIx items.size 0 lo)).toArray):=by
  show((items.toList.drop (sIx items.size 0 lo)).take (sIx items.size items.size hi - sIx items.size 0 lo)).toArray.size<=sizeLine;rw [ab1,ac3,ag4,an7];omega
 have hj:sIx items.size items.size hi<=items.size:=DJ _ _ (aa9 _) hi;obtain⟨os,hos,hcs,hds⟩:=id hs;have hTs:s.TypeIs (.ref sl) "slice":=⟨os,hos,hcs⟩;unfold getItem
 try with_reducible refine ae2 ?_
 first | refine aa2 (aa7 ?_) | skip
 refine aa2 (wpAny_sequenceKey ht.typeIs (by decide) ?_)
 refine aa2 (wpAny_callSpecial?_slot (name:=Str.ofString "__getitem__") ht.typeIs PyProof.Rows.slot_tuple_getitem
  (ag5 PyProof.Rows.slot_tuple_getitem ht.typeIs entry_tuple_getitem ?_ (args_tuple_getitem _ _)))
 show wpAny _ _ (Builtin.Tuple.tupleItemsOf (.ref t) >>= _) _ _ s;refine aa2 (tupleItemsOf_ ht ?_);refine aa2 (al2 hTs ?_);rw [if_pos (by decide)];refine aa2 (lJ hs pl pu ?_)
 have hno:¬((((sIx items.size 0 lo:Nat):Int) == 0 && (1:Int) == 1 && (sIx items.size items.size hi - sIx items.size 0 lo) == items.size)=true):=by
  intro q;rw [af9,af9]at q;have q1:((sIx items.size 0 lo:Nat):Int)=0:=eq_of_beq q.1.1;have q2:sIx items.size items.size hi - sIx items.size 0 lo=items.size:=eq_of_beq q.2;exact hw ⟨by omega,by omega⟩
 show wpAny _ _ (if (((sIx items.size 0 lo:Nat):Int) == 0 && (1:Int) == 1 && (sIx items.size items.size hi - sIx items.size 0 lo) == items.size)=true then _ else _) _ _ s;rw [if_neg hno,zp]
 first
  | exact aa2 (m:=Builtin.Tuple.tupleExact _) (ag1 (aa7 ⟨_,rfl,aa7 h⟩) htake)
  | exact aa2 (m:=Builtin.Tuple.tupleExact _) (ag1 (aa2 (aa7 (aa7 ⟨_,rfl,aa7 h⟩))) htake)
  | exact aa2 (aa2 (m:=Builtin.Tuple.tupleExact _) (ag1 (aa7 (aa7 ⟨_,rfl,aa7 h⟩)) htake))
  | exact aa2 (aa2 (m:=Builtin.Tuple.tupleExact _) (ag1 (aa7 ⟨_,rfl,aa7 h⟩) htake))
end
end HT
namespace L2
open PySem PySem.Spec PyProof.Rows
variable {A:Around} {H:Hp} {X:Cx} {its:List Value} {n:Nat} {pins:List (Addr×Obj)} {r:V->Option Int->Option Int->Hp->VK->Prop} {s:Shared} {v:Value} {x:V} {xs:List V} {α:Type} {Z:St}
abbrev TO:=St->Hp->(Option Int->Hp->Prop)->Prop
def PO(X:Cx)(e:Option Expr)(t:TO):Prop:=
 ∀(pins:List (Addr×Obj)) (s:Shared) (Z:St) (H:Hp) (Q:Option Int->Hp->Prop),aJ X pins Z H s->t Z H Q->
  wpAny (model X.prog X.w) X.A (evalPart e X.env) (fun u s'=>∃o H',aJ X pins Z H' s'/\IsPart u o/\Q o H') X.xe s
def rJ:TO:=fun _ H Q=>Q none H
def we(t:TE):TO:=fun Z H Q=>t Z H fun x H1=>∃i,x=.int i/\Q (some i) H1
theorem uf{ns:List Int}:∀{us:List Value},aQ (ns.map V.int) us->IntsAre us ns:=by
 induction ns with
 | nil=>intro us r;rw [ah9]at r;cases r;exact .nil
 | cons n ns ih=>
  intro us r;rw [ad7]at r
  cases r with
  | cons r1 r2=>
   obtain⟨t,e⟩:=r1;subst e;exact .cons n t (ih r2)
section
variable {e:Expr} {te:TE} {lo hi:Option Expr} {tl th:TO} {pos p2:Pos}
theorem cT:PO X none rJ:=by
 intro pins s Z H Q I h;rw [evalPart_none];exact aa7 ⟨none,H,I,.none,h⟩
theorem BG(h:PE X e te):PO X (some e) (we te):=by
 intro pins s Z H Q I hw;rw [evalPart_some];refine ck (h pins s Z H _ I hw) fun u s1 zq0=>?_;obtain⟨x,H1,I1,r1,q1⟩:=zq0;obtain⟨i,rfl,q⟩:=q1;obtain⟨t,rfl⟩:=r1;exact⟨some i,H1,I1,.int i t,q⟩
def As(X:Cx)(r:V->Option Int->Option Int->Hp->VK->Prop):Prop:=
 ∀(pins:List (Addr×Obj)) (s:Shared) (Z:St) (H:Hp) (x:V) (v vl vu:Value) (lo hi:Option Int) (sl:Addr) (Q:VK),aJ X pins Z H s->aS x v->s.heap.IsSliceOf sl vl vu .none->IsPart vl lo->IsPart vu hi->r x lo hi H Q->
  ∃T id,typeLookup (.type T) "__getitem__"=pure (some (.builtin id))/\s.TypeIs v T/\wpAny (model X.prog X.w) X.A (getItem v (.ref sl)) (EP X pins Z Q) X.xe s
theorem As.or{r':V->Option Int->Option Int->Hp->VK->Prop}(h:As X r)(h':As X r'):As X (fun x lo hi H Q=>r x lo hi H Q\/r' x lo hi H Q):=by
 intro pins s Z H x v vl vu lo hi sl Q I rx hs pl pu q;rcases q with q | q
 ·exact h pins s Z H x v vl vu lo hi sl Q I rx hs pl pu q
 ·exact h' pins s Z H x v vl vu lo hi sl Q I rx hs pl pu q
def Gd(r:V->Option Int->Option Int->Hp->VK->Prop)(te:TE)(tl th:TO):TE:=fun Z H Q=>te Z H fun x H1=>tl Z H1 fun l H2=>th Z H2 fun u H3=>r x l u H3 Q
theorem cy(hr:As X r)(he:PE X e te)(hl:PO X lo tl)(hu:PO X hi th):PE X (.Subscript e (.Slice lo hi none p2) pos) (Gd r te tl th):=by
 intro pins s Z H Q I h;refine Subscript_ (ck (he pins s Z H _ I h) fun v s1 zq0=>?_);obtain⟨x,H1,I1,r1,q1⟩:=zq0;refine wpAny_Slice (ck (hl pins s1 Z H1 _ I1 q1) fun vl s2 ⟨l,H2,I2,pl,q2⟩=>ck (hu pins s2 Z H2 _ I2 q2) fun vu s3 zq0=>?_);obtain⟨u,H3,I3,pu,q3⟩:=zq0;rw [evalPart_none];refine aa7 ?_;have I4:aJ X pins Z H3 { s3 with heap:=s3.heap.push { cls:=.type "slice",data:=.fields #[vl,vu,.none] } }:=I3.kept (t':=s3.toks) fun b ob q=>aa4 _ q;obtain⟨T,id,hT,ht,hg⟩:=hr pins { s3 with heap:=s3.heap.push { cls:=.type "slice",data:=.fields #[vl,vu,.none] } } Z H3 x v vl vu l u s3.heap.objs.size Q I4 r1 (Heap.IsSliceOf.new ..) pl pu q3;show wpAny (model X.prog X.w) X.A (subscriptTail e (.Slice lo hi none p2) v (.ref s3.heap.objs.size)) (EP X pins Z Q) X.xe { s3 with heap:=s3.heap.push { cls:=.type "slice",data:=.fields #[vl,vu,.none] } };exact tail_any (ops:=[.ref s3.heap.objs.size,v]) ht hT hg (by with_unfolding_all rfl)
def kK(xs:List V)(lo hi:Option Int):List V:=(xs.drop (HT.sIx xs.length 0 lo)).take (HT.sIx xs.length xs.length hi - HT.sIx xs.length 0 lo)
theorem lT(xs:List V)(lo hi:Option Int):(kK xs lo hi).length<=xs.length:=by
 unfold kK;rw [ac3,ag4];omega
def DI(K:Frag):V->Option Int->Option Int->Hp->VK->Prop:=fun x lo hi H Q=>∃a xs,x=.ref a/\bH K H a xs/\
 ¬(HT.sIx xs.length 0 lo=0/\HT.sIx xs.length xs.length hi=xs.length)/\∀p,H p=none->Q (.ref p) (upd H p (.tup (kK xs lo hi)))
theorem sl_tup:As X (DI X.K):=by
 intro pins s Z H x v vl vu lo hi sl Q I rx hs pl pu h;obtain⟨a,xs,rfl,hx,hw,q⟩:=h;cases rx;obtain⟨its,r,ht,hz⟩:=I.tuple hx
 have hlen:its.toArray.size=xs.length:=by rw [ab1];exact r.length.symm
 refine⟨"tuple",_,PyProof.Rows.slot_tuple_getitem.lookup,ht.typeIs,?_⟩;refine HT.getItem_tuple_cut ht hs pl pu (by rw [hlen];exact hw) ?_ (by rw [hlen];exact hz);rw [hlen];refine⟨.ref s.heap.objs.size,_,I.laid (t':=s.toks) (o:=.tup (kK xs lo hi)) (fun b ob q=>aa4 _ q) (aa9 _) ?_,rfl,q _ (I.hok.fresh (aa9 _))⟩;exact⟨ab9 (lT xs lo hi) hz,_,(r.drop (HT.sIx xs.length 0 lo)).take (HT.sIx xs.length xs.length hi - HT.sIx xs.length 0 lo),IsTup.new _ _⟩
def vW(K:Frag):R2:=fun x y H Q=>∃a b xs ys,x=.ref a/\y=.ref b/\bH K H a xs/\bH K H b ys/\xs≠[]/\xs.length+ys.length<=sizeLine/\
 (ys=[]->Q (.ref a) H)/\(ys≠[]->∀p,H p=none->Q (.ref p) (upd H p (.tup (xs++ys))))
theorem aQ.nil_iff{us:List Value}(r:aQ xs us):us=[]↔xs=[]:=by
 cases r with
 | nil=>simp
 | cons _ _=>simp
theorem Bt:cX X (binaryOp .Add) (vW X.K):=by
 intro pins s Z H x y v u Q I rx ry h;obtain⟨a,b,xs,ys,rfl,rfl,ha,hb,hx,hz,q1,q2⟩:=h;cases rx;cases ry;obtain⟨its,r1,p1,_⟩:=I.tuple ha;obtain⟨its2,r2,p2,_⟩:=I.tuple hb;refine HT.cat_tup p1 p2 (fun z=>hx (r1.nil_iff.mp z)) (fun z=>⟨.ref a,H,I,rfl,q1 (r2.nil_iff.mp z)⟩) (fun z=>?_) (by rw [<-r1.length,<-r2.length];exact hz);refine⟨.ref s.heap.objs.size,_,I.laid (t':=s.toks) (o:=.tup (xs++ys)) (fun b ob q=>aa4 _ q) (aa9 _) ?_,rfl,q2 (fun w=>z (r2.nil_iff.mpr w)) _ (I.hok.fresh (aa9 _))⟩;exact⟨by rw [ab2];exact hz,_,r1.append r2,IsTup.new _ _⟩
end
def AX(n:Nat)(i:Int):Option Nat:=if 0<=i then(if i < n then some i.toNat else none)else if -(n:Int)<=i then some (i+n).toNat else none
def dC(xs:List α)(i:Int):Option α:=(AX xs.length i).bind fun j=>xs[j]?
theorem vO{i:Int}{j:Nat}(h:AX n i=some j):seqIndex? i n=some j/\j < n/\-(n:Int)<=i/\i < n:=by
 unfold AX at h
 by_cases h0:0<=i
 ·rw [if_pos h0]at h
  by_cases h1:i < n
  ·rw [if_pos h1]at h
   have e:i.toNat=j:=Option.some.inj h;exact⟨by rw [seqIndex_of h0 h1,e],by omega,by omega,h1⟩
  ·rw [if_neg h1]at h;cases h
 ·rw [if_neg h0]at h
  by_cases h1:-(n:Int)<=i
  ·rw [if_pos h1]at h
   have e:(i+n).toNat=j:=Option.some.inj h;exact⟨by rw [seqIndex_neg (by omega) h1,e],by omega,h1,by omega⟩
  ·rw [if_neg h1]at h;cases h
theorem qm{xs:List α}{i:Int}{v:α}(h:dC xs i=some v):∃j,seqIndex? i xs.length=some j/\xs[j]?=some v/\j < xs.length/\-(xs.length:Int)<=i/\i < xs.length:=by
 unfold dC at h
 cases e:AX xs.length i with
 | none=>rw [e]at h;cases h
 | some j=>
  rw [e]at h;obtain⟨h1,h2,h3,h4⟩:=vO e;exact⟨j,h1,h,h2,h3,h4⟩
theorem aA{xs:List α}{j:Nat}{v:α}(h:xs[j]?=some v):dC xs (j:Int)=some v:=by
 have hj:j < xs.length:=(aa3.mp h).1
 have e:AX xs.length (j:Int)=some j:=by
  unfold AX;rw [if_pos (by omega),if_pos (by omega)];simp
 unfold dC;rw [e];exact h
def vF(b:Expr):Prop:=∀o i,subscripted b false o i=operate [o,i] (getItem o i)
def xR(X:Cx)(r:R2):Prop:=
 ∀(value slice:Expr) (pins:List (Addr×Obj)) (s:Shared) (Z:St) (H:Hp) (x y:V) (v u:Value) (Q:VK),aJ X pins Z H s->aS x v->aS y u->r x y H Q->
  subscripted slice false v u=operate [v,u] (getItem v u)->wpAny (model X.prog X.w) X.A (subscriptTail value slice v u) (EP X pins Z Q) X.xe s
def Az(X:Cx)(id:String)(r:V->List V->Hp->VK->Prop):Prop:=
 ∀(pins:List (Addr×Obj)) (s:Shared) (Z:St) (H:Hp) (x:V) (xs:List V) (v:Value) (us:List Value) (Q:VK),aJ X pins Z H s->aS x v->aQ xs us->r x xs H Q->
  wpAny (model X.prog X.w) X.A (call (.builtin id) (v::us)) (EP X pins Z Q) X.xe s
section
variable {a b:Expr} {ta tb:TE} {pos:Pos}
theorem xR.or{r r':R2}(h:xR X r)(h':xR X r'):xR X (fun x y H Q=>r x y H Q\/r' x y H Q):=by
 intro value slice pins s Z H x y v u Q I rx ry q hs;rcases q with q | q
 ·exact h value slice pins s Z H x y v u Q I rx ry q hs
 ·exact h' value slice pins s Z H x y v u Q I rx ry q hs
theorem ax{r:R2}(hr:xR X r)(ha:PE X a ta)(hb:PE X b tb)(hs:vF b):PE X (.Subscript a b pos) (DU r ta tb):=by
 intro pins s Z H Q I h;exact Subscript_ (AF ha hb I h fun v u s2 x y H2 I2 rx ry q=>hr a b pins s2 Z H2 x y v u Q I2 rx ry q (hs _ _))
def DA(K:Frag):R2:=fun x y H Q=>∃p xs i v,x=.ref p/\y=.int i/\aL K H p xs/\dC xs i=some v/\Q v H
def DC(K:Frag):R2:=fun x y H Q=>∃p xs i v,x=.ref p/\y=.int i/\bH K H p xs/\dC xs i=some v/\Q v H
def DB:R2:=fun x y H Q=>∃z i c,x=.str z/\y=.int i/\z.length<=sizeLine/\dC z.cps.toList i=some c/\Q (.str ⟨#[c]⟩) H
theorem ix_list:xR X (DA X.K):=by
 intro value slice pins s Z H x y v u Q I rx ry h hs;obtain⟨p,xs,i,z,rfl,rfl,hq,he,q⟩:=h;cases rx;obtain⟨t,rfl⟩:=ry;obtain⟨its,r,pl,hz⟩:=I.list hq;obtain⟨j,h1,h2,h3,h4,h5⟩:=qm he;obtain⟨w,ew,rw'⟩:=r.get h2;have hl:=r.length;have hn:=jj;have fin:EP X pins Z Q w s:=⟨z,H,I,rw',q⟩
 by_cases h0:0<=i
 ·have hj:i.toNat=j:=by
   rw [seqIndex_of h0 h5]at h1;exact Option.some.inj h1
  exact item_listR pl.isList h0 (by omega) (by rw [hj];simpa using ew) fin hs
 ·have hj:(i+(its.toArray.size:Int)).toNat=j:=by
   rw [seqIndex_neg (by omega) h4]at h1;rw [ab1,<-hl];exact Option.some.inj h1
  exact subscriptTail_builtinR (x:=w) pl.isList.typeIs slot_list_getitem.lookup
   (wpAny_getItem_list_neg (Q:=fun r s'=>r=w/\EP X pins Z Q r s') pl.isList (by omega) (by rw [ab1]<;>omega) (by omega) (by rw [hj];simpa using ew) ⟨rfl,fin⟩) hs
theorem ix_tup:xR X (DC X.K):=by
 intro value slice pins s Z H x y v u Q I rx ry h hs;obtain⟨p,xs,i,z,rfl,rfl,hq,he,q⟩:=h;cases rx;obtain⟨t,rfl⟩:=ry;obtain⟨its,r,pl,hz⟩:=I.tuple hq;obtain⟨j,h1,h2,h3,h4,h5⟩:=qm he;obtain⟨w,ew,rw'⟩:=r.get h2;have hl:=r.length;have hn:=jj;have fin:EP X pins Z Q w s:=⟨z,H,I,rw',q⟩
 exact subscriptTail_builtinR (x:=w) pl.typeIs slot_tuple_getitem.lookup
  (getItem_tuple (j:=j) (Q:=fun r s'=>r=w/\EP X pins Z Q r s') pl (by omega) (by omega) (by rw [ab1,<-hl];exact h1) (by simpa using ew) ⟨rfl,fin⟩) hs
theorem C2:xR X DB:=by
 intro value slice pins s Z H x y v u Q I rx ry h hs;obtain⟨z,i,c,rfl,rfl,hz,he,q⟩:=h;obtain⟨t,rfl⟩:=rx;obtain⟨t',rfl⟩:=ry;obtain⟨j,h1,h2,h3,h4,h5⟩:=qm he
 have hl:z.cps.toList.length=z.length:=by simp [Str.length]
 rw [hl]at h1 h4 h5;have hn:=jj
 exact tail_any (typeIs_str s z t) slot_str_getitem.lookup (getItem_str (c:=c) (by
  have e1:decide (i < -(2 ^ 63:Int))=false:=decide_eq_false (by omega);have e2:decide (i>=2 ^ 63)=false:=decide_eq_false (by omega)
  rw [e1,e2,Bool.or_false]) (by rw [h1];simpa using h2) ⟨.str ⟨#[c]⟩,H,I.tok _,⟨_,rfl⟩,q⟩) hs
def pe(K:Frag):R2:=fun x y H Q=>DA K x y H Q\/DC K x y H Q\/DB x y H Q
theorem C1:xR X (pe X.K):=ix_list.or (ix_tup.or C2)
theorem ur(its:List Value)(n j:Nat)(u:Value):Obj.mapSeq (·.setIfInBounds j u) { cls:=.type "list",data:=.seq its.toArray n }={ cls:=.type "list",data:=.seq (its.set j u).toArray n }:=by
 simp [Obj.mapSeq]
theorem aJ.lst{pins:List (Addr×Obj)}{Z:St}{H:Hp}{s:Shared}{p:Addr}{xs:List V}(I:aJ X pins Z H s)(h:H p=some (.lst xs)):
  ∃(its:List Value) (n:Nat),aQ xs its/\s.heap.get? p=some { cls:=.type "list",data:=.seq its.toArray n }/\xs.length<=sizeLine:=by
 obtain⟨z,its,n,r,e⟩:=I.hok p _ h;exact⟨its,n,r,e,z⟩
theorem aJ.lstUpd{p:Addr}{ys:List V}{its':List Value}{n':Nat}{f:Obj->Obj}(I:aJ X pins Z H s)(h:H p=some (.lst xs))
  (ho:s.heap.get? p=some { cls:=.type "list",data:=.seq its.toArray n }) (hf:f { cls:=.type "list",data:=.seq its.toArray n }={ cls:=.type "list",data:=.seq its'.toArray n' }) (r:aQ ys its') (hz:ys.length<=sizeLine) (t:Nat) :
  aJ X pins Z (upd H p (.lst ys)) { s with heap:=s.heap.update p f,toks:=t }:=by
 have e:(s.heap.update p f).get? p=some { cls:=.type "list",data:=.seq its'.toArray n' }:=by
  rw [af6 f ho (by rw [hf]<;>rfl),hf]
 refine I.write (x:=p) (e:=p) (by rw [h];trivial) (.inl rfl) (fun b u hb q=>(ad4 _ _ (Ne.symm hb)).trans q) ⟨_,e⟩ ?_;exact⟨hz,its',n',r,e⟩
def CC:V->V->V->Hp->(Hp->Prop)->Prop:=fun o i v H Q=>∃p xs k j,o=.ref p/\i=.int k/\H p=some (.lst xs)/\AX xs.length k=some j/\Q (upd H p (.lst (xs.set j v)))
theorem zN:CM X CC:=by
 intro pins s Z H o i v ov iv u Q I ro ri rv h;obtain⟨p,xs,k,j,rfl,rfl,hp,hj,q⟩:=h;cases ro;obtain⟨t,rfl⟩:=ri;obtain⟨its,n,r,ho,hz⟩:=I.lst hp;obtain⟨h1,h2,h3,h4⟩:=vO hj;have hl:=r.length;have hn:=jj
 have I':aJ X pins Z (upd H p (.lst (xs.set j v))) { s with heap:=s.heap.update p (Obj.mapSeq (·.setIfInBounds j u)) }:=
  I.lstUpd hp ho (ur its n j u) (r.set rv j) (by rw [List.length_set];exact hz) s.toks
 by_cases h0:0<=k
 ·have hk:k.toNat=j:=by
   rw [seqIndex_of h0 h4]at h1;exact Option.some.inj h1
  exact PySem.W.ki_setAt ho h0 (by omega) (by rw [ab1,<-hl];exact h4) (by rw [hk];exact⟨_,I',q⟩)
 ·have hk:(k+(its.toArray.size:Int)).toNat=j:=by
   rw [seqIndex_neg (by omega) h3]at h1;rw [ab1,<-hl];exact Option.some.inj h1
  exact PySem.W.ki_setBack ho (by omega) (by rw [ab1,<-hl];exact h3) (by omega) (by rw [hk];exact⟨_,I',q⟩)
theorem rC(lo hi:Option Int)(n:Nat):(sliceBounds lo hi none n).1=((HT.sIx n 0 lo:Nat):Int)/\(sliceBounds lo hi none n).2.1=((HT.sIx n n hi:Nat):Int)/\(sliceBounds lo hi none n).2.2=1:=by
 refine⟨?_,?_,rfl⟩
 ·cases lo with
  | none=>simp [sliceBounds,HT.sIx]
  | some i=>
   simp only [sliceBounds,HT.sIx,Option.getD_none,show(1:Int) > 0 by decide,if_true]
   by_cases h:i < 0
   ·simp only [h,if_true]<;>omega
   ·simp only [h,if_false]<;>omega
 ·cases hi with
  | none=>simp [sliceBounds,HT.sIx]
  | some i=>
   simp only [sliceBounds,HT.sIx,Option.getD_none,show(1:Int) > 0 by decide,if_true]
   by_cases h:i < 0
   ·simp only [h,if_true]<;>omega
   ·simp only [h,if_false]<;>omega
theorem pB(its:List Value)(lo hi:Option Int):slicePick its.toArray lo hi none=((its.drop (HT.sIx its.length 0 lo)).take (HT.sIx its.length its.length hi - HT.sIx its.length 0 lo)).toArray:=by
 obtain⟨h1,h2,h3⟩:=rC lo hi its.toArray.size;unfold slicePick;rw [h1,h2,h3]
 simp only [sliceRange_one,pick_run,ab1]<;>rfl
def DG(K:Frag):V->Option Int->Option Int->Hp->VK->Prop:=fun x lo hi H Q=>∃a xs,x=.ref a/\aL K H a xs/\∀p,H p=none->Q (.ref p) (upd H p (.lst (kK xs lo hi)))
theorem sl_list:As X (DG X.K):=by
 intro pins s Z H x v vl vu lo hi sl Q I rx hs pl pu h;obtain⟨a,xs,rfl,hx,q⟩:=h;cases rx;obtain⟨its,r,ht,hz⟩:=I.list hx;have hlen:=r.length;refine⟨"list",_,slot_list_getitem.lookup,ht.isList.typeIs,?_⟩
 refine wpAny_getItem_list_slice ht.isList hs pl pu .none (by simp) ?_ (by rw [ab1]<;>omega)
 rw [pB,<-hlen];refine⟨.ref s.heap.objs.size,_,I.laid (t':=s.toks) (o:=.lst (kK xs lo hi)) (fun b ob q=>aa4 _ q) (aa9 _) ?_,rfl,q _ (I.hok.fresh (aa9 _))⟩;exact⟨ab9 (lT xs lo hi) hz,_,0,(r.drop (HT.sIx xs.length 0 lo)).take (HT.sIx xs.length xs.length hi - HT.sIx xs.length 0 lo),ab3 _ rfl⟩
def fE:V->Bool
 | .non=>true
 | .bl _=>true
 | .int _=>true
 | .str _=>true
 | _=>false
def xS:V->V->Bool
 | .non,.non=>true
 | .bl a,.bl b=>a == b
 | .bl a,.int b=>(if a then 1 else 0) == b
 | .int a,.bl b=>a == (if b then 1 else 0)
 | .int a,.int b=>a == b
 | .str a,.str b=>a == b
 | _,_=>false
theorem yr{y:V}{u:Value}(ry:aS y u)(rx:aS x v)(fy:fE y=true)(fx:fE x=true):SeqAt.EqAt A s u v (xS y x):=by
 cases y with
 | non=>
  cases ry
  cases x with
  | non=>cases rx;exact SeqAt.EqAt.same _
  | bl b=>cases rx;exact SeqAt.EqAt.none_bool b
  | int b=>obtain⟨t,rfl⟩:=rx;exact SeqAt.EqAt.none_int b t
  | str b=>obtain⟨t,rfl⟩:=rx;exact SeqAt.EqAt.none_str b t
  | _=>exact absurd (show false=true from fx) aa6
 | bl a=>
  cases ry
  cases x with
  | non=>cases rx;exact SeqAt.EqAt.bool_none a
  | bl b=>cases rx;exact SeqAt.EqAt.bool_bool a b
  | int b=>obtain⟨t,rfl⟩:=rx;exact SeqAt.EqAt.bool_int a b t
  | str b=>obtain⟨t,rfl⟩:=rx;exact SeqAt.EqAt.bool_str a b t
  | _=>exact absurd (show false=true from fx) aa6
 | int a=>
  obtain⟨t',rfl⟩:=ry
  cases x with
  | non=>cases rx;exact SeqAt.EqAt.int_none a t'
  | bl b=>cases rx;exact SeqAt.EqAt.int_bool a t' b
  | int b=>obtain⟨t,rfl⟩:=rx;exact SeqAt.EqAt.int_int a t' b t
  | str b=>obtain⟨t,rfl⟩:=rx;exact SeqAt.EqAt.int_str a t' b t
  | _=>exact absurd (show false=true from fx) aa6
 | str a=>
  obtain⟨t',rfl⟩:=ry
  cases x with
  | non=>cases rx;exact SeqAt.EqAt.str_none a t'
  | bl b=>cases rx;exact SeqAt.EqAt.str_bool a t' b
  | int b=>obtain⟨t,rfl⟩:=rx;exact SeqAt.EqAt.str_int a t' b t
  | str b=>obtain⟨t,rfl⟩:=rx;exact SeqAt.EqAt.str_str a t' b t
  | _=>exact absurd (show false=true from fx) aa6
 | _=>exact absurd (show false=true from fy) aa6
def uc(x:V)(u:Value):Bool:=match u with
 | .none=>xS .non x
 | .bool b=>xS (.bl b) x
 | .int i _=>xS (.int i) x
 | .str z _=>xS (.str z) x
 | _=>false
theorem yu{y:V}{u:Value}(r:aS y u)(f:fE y=true):uc x u=xS y x:=by
 cases y with
 | non=>cases r;rfl
 | bl b=>cases r;rfl
 | int i=>obtain⟨t,rfl⟩:=r;rfl
 | str z=>obtain⟨t,rfl⟩:=r;rfl
 | _=>exact absurd (show false=true from f) aa6
theorem jN:∀{xs:List V} {us:List Value},aQ xs us->xs.all fE=true->us.any (uc x)=xs.any fun y=>xS y x
 | _,_,.nil,_=>rfl
 | y::xs,u::us,.cons r t,f=>by
  rw [ao8,af9]at f;rw [List.any_cons,List.any_cons,yu r f.1,jN t f.2]
theorem ip(rx:aS x v)(fx:fE x=true):∀{xs:List V} {us:List Value},aQ xs us->xs.all fE=true->∀u∈us,SeqAt.EqAt A s u v (uc x u)
 | _,_,.nil,_=>fun u hu=>by cases hu
 | y::xs,u::us,.cons r t,f=>fun u' hu=>by
  rw [ao8,af9]at f;rcases aa8.mp hu with rfl | hu
  ·rw [yu r f.1];exact yr r rx f.1 fx
  ·exact ip rx fx t f.2 u' hu
def Cu(x:V)(xs:List V):Bool:=xs.any fun y=>xS y x
def E7(K:Frag)(neg:Bool):R2:=fun x y H Q=>∃p xs,y=.ref p/\(aL K H p xs\/bH K H p xs)/\fE x=true/\xs.all fE=true/\Q (.bl (if neg then !Cu x xs else Cu x xs)) H
theorem xt:cX X (compareOp .In) (E7 X.K false):=by
 intro pins s Z H x y v u Q I rx ry h;obtain⟨p,xs,rfl,hq,fx,fs,q⟩:=h;cases ry;rcases hq with hq | hq
 ·obtain⟨its,r,pl,hz⟩:=I.list hq
  refine SeqAt.in_listAt (uc x) pl.isList (fun w hw=>ip rx fx r fs w (by simpa using hw)) ⟨.bl _,H,I,rfl,?_⟩;rw [show its.toArray.any (uc x)=its.any (uc x)by simp,jN r fs];exact q
 ·obtain⟨its,r,pl,hz⟩:=I.tuple hq
  refine SeqAt.in_tupleAt (uc x) pl (fun w hw=>ip rx fx r fs w (by simpa using hw)) ⟨.bl _,H,I,rfl,?_⟩;rw [show its.toArray.any (uc x)=its.any (uc x)by simp,jN r fs];exact q
theorem qV:cX X (compareOp .NotIn) (E7 X.K true):=by
 intro pins s Z H x y v u Q I rx ry h;obtain⟨p,xs,rfl,hq,fx,fs,q⟩:=h;cases ry;rcases hq with hq | hq
 ·obtain⟨its,r,pl,hz⟩:=I.list hq
  refine SeqAt.notIn_listAt (uc x) pl.isList (fun w hw=>ip rx fx r fs w (by simpa using hw)) ⟨.bl _,H,I,rfl,?_⟩;rw [show its.toArray.any (uc x)=its.any (uc x)by simp,jN r fs];exact q
 ·obtain⟨its,r,pl,hz⟩:=I.tuple hq
  refine SeqAt.notIn_tupleAt (uc x) pl (fun w hw=>ip rx fx r fs w (by simpa using hw)) ⟨.bl _,H,I,rfl,?_⟩;rw [show its.toArray.any (uc x)=its.any (uc x)by simp,jN r fs];exact q
theorem qu:cC X (.builtin "len") (fun xs H Q=>∃p ys,xs=[.ref p]/\(aL X.K H p ys\/bH X.K H p ys)/\Q (.int ys.length) H):=by
 intro pins s Z H xs us Q I r h;obtain⟨p,ys,rfl,hq,q⟩:=h;obtain⟨u,rfl,rx⟩:=eV r;cases rx;have hn:=jj;rcases hq with hq | hq
 ·obtain⟨its,r',pl,hz⟩:=I.list hq
  have hlen:=r'.length
  exact Calls.call_len_list pl.isList (by simp only [ab1]<;>omega) ⟨.int ys.length,H,I.tok _,⟨s.toks+1,by rw [ab1,hlen]⟩,q⟩
 ·obtain⟨its,r',pl,hz⟩:=I.tuple hq
  have hlen:=r'.length
  exact len_tuple pl (by simp only [ab1]<;>omega) ⟨.int ys.length,H,I.tok _,⟨s.toks+1,by rw [ab1,hlen]⟩,q⟩
theorem call_len_str:cC X (.builtin "len") (fun xs H Q=>∃z,xs=[.str z]/\z.length<=sizeLine/\Q (.int z.length) H):=by
 intro pins s Z H xs us Q I r h;obtain⟨z,rfl,hz,q⟩:=h;obtain⟨u,rfl,t,rfl⟩:=eV r;have hn:=jj;exact len_str (by omega) ⟨.int z.length,H,I.tok _,⟨_,rfl⟩,q⟩
theorem cC.or{f:Value}{r r':List V->Hp->VK->Prop}(h:cC X f r)(h':cC X f r'):cC X f (fun xs H Q=>r xs H Q\/r' xs H Q):=by
 intro pins s Z H xs us Q I rs q;rcases q with q | q
 ·exact h pins s Z H xs us Q I rs q
 ·exact h' pins s Z H xs us Q I rs q
theorem qv:cC X (.type "list") (fun xs H Q=>∃p ys,xs=[.ref p]/\(aL X.K H p ys\/bH X.K H p ys)/\∀l,H l=none->Q (.ref l) (upd H l (.lst ys))):=by
 intro pins s Z H xs us Q I r h;obtain⟨p,ys,rfl,hq,q⟩:=h;obtain⟨u,rfl,rx⟩:=eV r;cases rx
 have fin:∀(its:List Value),aQ ys its->ys.length<=sizeLine->∀(h':Heap) (c':Nat),(∀b o',s.heap.get? b=some o'->h'.get? b=some o')->
   h'.get? s.heap.objs.size=some { cls:=.type "list",dict:=none,data:=.seq its.toArray c',slots:=#[] }->EP X pins Z Q (.ref s.heap.objs.size) { s with heap:=h' }:=fun its r' hz h' c' kp e=>
  ⟨.ref s.heap.objs.size,_,I.laid (t':=s.toks) kp (aa9 _) (show dh X.prog X.w _ h' _ (.lst ys)from⟨hz,its,c',r',e⟩),rfl,q _ (I.hok.fresh (aa9 _))⟩
 rcases hq with hq | hq
 ·obtain⟨its,r',pl,hz⟩:=I.list hq
  have hlen:=r'.length;obtain⟨o,ho,hc,n,hd⟩:=pl.isList
  exact call_list_seq p (.inl rfl) ho hc hd (fun h' c' kp e=>fin its r' hz h' c' kp e) (by simp only [ab1]<;>omega)
 ·obtain⟨its,r',pl,hz⟩:=I.tuple hq
  have hlen:=r'.length;obtain⟨o,ho,hc,n,hd⟩:=pl
  exact call_list_seq p (.inr rfl) ho hc hd (fun h' c' kp e=>fin its r' hz h' c' kp e) (by simp only [ab1]<;>omega)
theorem oK:cC X (.type "tuple") (fun xs H Q=>∃p ys,xs=[.ref p]/\((aL X.K H p ys/\∀l,H l=none->Q (.ref l) (upd H l (.tup ys)))\/(bH X.K H p ys/\Q (.ref p) H))):=by
 intro pins s Z H xs us Q I r h;obtain⟨p,ys,rfl,h⟩:=h;obtain⟨u,rfl,rx⟩:=eV r;cases rx;rcases h with⟨hq,q⟩ | ⟨hq,q⟩
 ·obtain⟨its,r',pl,hz⟩:=I.list hq
  have hlen:=r'.length
  refine call_tuple_list pl.isList (fun h' kp=>?_) (by simp only [ab1]<;>omega)
  have I1:aJ X pins Z H { s with heap:=h' }:=I.kept (t':=s.toks) kp
  have I2:aJ X pins Z (upd H h'.objs.size (.tup ys)) { s with heap:=h'.push { cls:=.type "tuple",data:=.seq its.toArray } }:=
   I1.laid (t':=s.toks) (fun b o e=>aa4 _ e) (aa9 _) (show dh X.prog X.w _ _ _ (.tup ys)from⟨hz,its,r',IsTup.new _ _⟩)
  exact⟨.ref h'.objs.size,_,I2,rfl,q _ (I1.hok.fresh (aa9 _))⟩
 ·obtain⟨its,r',pl,hz⟩:=I.tuple hq
  exact call_tuple_same pl ⟨.ref p,H,I,rfl,q⟩
def Fi(K:Frag)(T:String)(x:V)(H:Hp):Prop:=match x with
 | .str _=>T="str"
 | .int _=>T="int"
 | .ref p=>(T="list"/\∃xs,aL K H p xs)\/(T="tuple"/\∃o,K.lookup p=some o/\o.cls=.type "tuple"/\o.dict=none)\/
   (T="dict"/\((∃kvs,H p=some (.dK kvs))\/∃kvs,H p=some (.dT kvs)))\/(T="set"/\∃S n,H p=some (.set S n))
 | _=>False
theorem D3{T:String}(I:aJ X pins Z H s)(r:aS x v)(ty:Fi X.K T x H):
  s.TypeIs v T/\∀a,v=.ref a->∃ob,s.heap.get? a=some ob/\ob.dict=none:=by
 cases x with
 | str z=>
  obtain⟨t,rfl⟩:=r;cases(show T="str" from ty);exact⟨typeIs_str s z t,fun _ e=>nomatch e⟩
 | int i=>
  obtain⟨t,rfl⟩:=r;cases(show T="int" from ty);exact⟨typeIs_int s i t,fun _ e=>nomatch e⟩
 | ref p=>
  cases r;rcases ty with⟨rfl,xs,hq⟩ | ⟨rfl,o,hk,hc,hd⟩ | ⟨rfl,hk⟩ | ⟨rfl,S,n,hk⟩
  ·obtain⟨its,_,pl,_⟩:=I.list hq
   refine⟨pl.isList.typeIs,fun a e=>?_⟩;cases e;obtain⟨o,n,e,c,hd,_⟩:=pl;exact⟨o,e,hd⟩
  ·refine⟨⟨o,I.kIn p o hk,hc⟩,fun a e=>?_⟩
   cases e;exact⟨o,I.kIn _ o hk,hd⟩
  ·have z:∃o,s.heap.get? p=some o/\o.ExactDict:=by
    rcases hk with⟨kvs,hk⟩ | ⟨kvs,hk⟩
    ·obtain⟨_,_,_,_,o,_,_,e,ex,_⟩:=I.hok p _ hk
     exact⟨o,e,ex⟩
    ·obtain⟨_,_,_,_,o,_,_,e,ex,_⟩:=I.hok p _ hk
     exact⟨o,e,ex⟩
   obtain⟨o,e,ex⟩:=z;refine⟨⟨o,e,ex.1⟩,fun a e2=>?_⟩;cases e2;exact⟨o,e,ex.2.1⟩
  ·obtain⟨o,_,_,_,e,ex,_⟩:=I.hok p _ hk
   refine⟨⟨o,e,ex.1⟩,fun a e2=>?_⟩;cases e2;exact⟨o,e,ex.2.1⟩
 | _=>exact False.elim ty
def F8(K:Frag)(T:String)(r:V->List V->Hp->VK->Prop)(to:TE):TE:=fun Z H Q=>to Z H fun x H1=>Fi K T x H1/\r x [] H1 Q
def F7(K:Frag)(T:String)(r:V->List V->Hp->VK->Prop)(to:TE)(t:TA):TE:=fun Z H Q=>to Z H fun x H1=>Fi K T x H1/\t Z H1 fun xs H2=>r x xs H2 Q
variable {o e:Expr} {es:List Expr} {to:TE} {t:TA} {name:Str} {apos cpos:Pos} {T id:String} {r:V->List V->Hp->VK->Prop}
theorem EZ(pa:PlainAttrs T)(slot:Slot T name id)(hty:typeOf (.builtin id)=pure (.type "method_descriptor"))(hm:Az X id r)(ho:PE X o to)(ha:PA X (e::es) t)
  (hbase:attributeBase o name X.env (eval o X.env)=eval o X.env:=by rfl)
  (hfew:((backTo cpos (starEach (e::es) X.env)).all (fun x=>!x.1) && (backToKw cpos (keywordEach [] X.env)).all (fun x=>x.1.isSome)
   && decide ((e::es).length+([]:List Keyword).length+(if ([]:List Keyword).isEmpty then 0 else 1) < 30))=true:=by rfl)
  (hline:(apos.endLine == cpos.line)=true:=by rfl) (hs:starEach (e::es) X.env=(false,eval e X.env)::starEach es X.env:=by rfl) (hplain:(backTo cpos (starEach es X.env)).any (·.1)=false:=by rfl) :
  PE X (.Call (.Attribute o name apos) (e::es) [] cpos) (F7 X.K T r to t):=by
 intro pins s Z H Q I h;refine wpAny_Call_method_late hbase hfew hline rfl (ck (ho pins s Z H _ I h) fun v s1 zq0=>?_);obtain⟨x,H1,I1,r1,ty,q1⟩:=zq0;obtain⟨h1,h2⟩:=D3 I1 r1 ty;refine⟨T,id,pa,slot,hty,h1,h2,?_⟩;have hA:=ha cpos pins s1 Z H1 _ I1 q1;rw [hs]at hA |-
 refine Calls.callWith_builtin (by show(false || (backTo cpos (starEach es X.env)).any (·.1))=false;rw [hplain]<;>rfl) (Calls.evalArgs_plain ?_)
 exact ck hA fun us s2 ⟨vs,H2,I2,r2,q2⟩=>hm pins s2 Z H2 x vs v us Q I2 r1 r2 q2
end
def FN(X:Cx)(id:String)(r:V->List V->Hp->VK->Prop):Prop:=
 ∀(pins:List (Addr×Obj)) (s:Shared) (Z:St) (H:Hp) (x:V) (xs:List V) (v:Value) (us:List Value) (Q:VK),aJ X pins Z H s->aS x v->aQ xs us->r x xs H Q->
  wpAny (model X.prog X.w) X.A (call (.builtin id) (v::us)) (EP X pins Z Q) X.xe s
theorem aQ.one:∀{x:V} {us:List Value},aQ [x] us->∃u,us=[u]/\aS x u
 | _,_,.cons r .nil=>⟨_,rfl,r⟩
theorem aQ.eraseIdx:∀{xs:List V} {us:List Value} (i:Nat),aQ xs us->aQ (xs.eraseIdx i) (us.eraseIdx i)
 | _,_,_,.nil=>.nil
 | _,_,0,.cons _ t=>t
 | _,_,i+1,.cons r t=>.cons r (aQ.eraseIdx i t)
theorem aQ.rep{us:List Value}(h:aQ xs us):∀k:Nat,aQ (List.replicate k xs).flatten (List.replicate k us).flatten
 | 0=>.nil
 | k+1=>by
  rw [af0,af0,aj7,aj7];exact aQ.append h (aQ.rep h k)
theorem pR:∀(l:List α) (i:Nat),(l.eraseIdx i).length<=l.length
 | [],_=>aa9 _
 | _::_,0=>am7 _
 | _::r,i+1=>af8 (pR r i)
theorem kO(its:List Value):∀(k:Nat) (acc:List Value),
  List.foldl (fun x1 x2=>x1++x2) acc.toArray (List.replicate k its.toArray)=(acc++(List.replicate k its).flatten).toArray
 | 0,acc=>by simp
 | k+1,acc=>by
  have e:acc.toArray++its.toArray=(acc++its).toArray:=by simp
  have e2:(acc++its)++(List.replicate k its).flatten=acc++(List.replicate (k+1) its).flatten:=by
   rw [af0,aj7,al3]
  rw [<-e2,<-kO its k (acc++its),<-e,af0,ae6]
section
variable {l b:Addr} {ys zs:List V}
theorem aJ.lset{its':List Value}{f:Array Value->Array Value}{t':Nat}(I:aJ X pins Z H s)(hH:H l=some (.lst xs))
  (e:s.heap.get? l=some { cls:=.type "list",data:=.seq its.toArray n }) (hf:f its.toArray=its'.toArray) (hv:aQ ys its') (hz:ys.length<=sizeLine) :
  aJ X pins Z (upd H l (.lst ys)) { s with heap:=s.heap.update l (Obj.mapSeq f),toks:=t' }:=by
 have q:=PySem.IsL.update e f;rw [hf]at q;refine I.write (x:=l) (e:=l) (by rw [hH];exact trivial) (.inl rfl) (fun b' u hb hu=>(ad4 s.heap (Obj.mapSeq f) (Ne.symm hb)).trans hu) ⟨_,q⟩ ?_;exact⟨hz,its',_,hv,q⟩
theorem aJ.lnew{t':Nat}(I:aJ X pins Z H s)(hv:aQ ys its)(hz:ys.length<=sizeLine):
  aJ X pins Z (upd H s.heap.objs.size (.lst ys)) { s with heap:=s.heap.push { cls:=.type "list",data:=.seq its.toArray },toks:=t' }:=
 I.laid (fun _ _ q=>aa4 _ q) (aa9 _) ⟨hz,its,0,hv,ab3 _ rfl⟩
theorem aJ.fresh(I:aJ X pins Z H s):H s.heap.objs.size=none:=I.hok.fresh (aa9 _)
theorem aJ.lstM(I:aJ X pins Z H s)(hH:H l=some (.lst xs)):xs.length<=sizeLine/\∃(its:List Value) (n:Nat),aQ xs its/\xs.length=its.length/\s.heap.get? l=some { cls:=.type "list",data:=.seq its.toArray n }:=by
 obtain⟨z,its,n,r,e⟩:=I.hok l _ hH;exact⟨z,its,n,r,r.length,e⟩
theorem sJ(h:n<=sizeLine):Builtin.List.listTooLong n=false:=by
 unfold Builtin.List.listTooLong;exact decide_eq_false (by omega)
end
def BI:V->List V->Hp->VK->Prop:=fun x vs H Q=>∃l xs y,x=.ref l/\vs=[y]/\H l=some (.lst xs)/\xs.length < sizeLine/\Q .non (upd H l (.lst (xs++[y])))
theorem bT:FN X "list.append" BI:=by
 intro pins s Z H x vs v us Q I rx rv h;obtain⟨l,xs,y,rfl,rfl,hH,hz,q⟩:=h;cases rx;obtain⟨u,rfl,ru⟩:=rv.one;obtain⟨z,its,n,r,hl,e⟩:=I.lstM hH;refine call_meets F.slot_list_append ⟨_,e,rfl⟩ F.entry_list_append (F.args_list_append_2 _ _) (PySem.list_append l its.toArray n u (by rw [ab1];omega)) ⟨e,?_⟩;refine⟨.non,_,I.lset (its':=its++[u]) hH e (by simp) (r.append (.cons ru .nil)) ?_,rfl,q⟩;rw [ab2,List.length_singleton];omega
def BM:V->List V->Hp->VK->Prop:=fun x vs H Q=>∃l b xs zs,x=.ref l/\vs=[.ref b]/\H l=some (.lst xs)/\H b=some (.lst zs)/\xs.length+zs.length<=sizeLine/\Q .non (upd H l (.lst (xs++zs)))
theorem pU:FN X "list.extend" BM:=by
 intro pins s Z H x vs v us Q I rx rv h;obtain⟨l,b,xs,zs,rfl,rfl,hH,hB,hz,q⟩:=h;cases rx;obtain⟨u,rfl,ru⟩:=rv.one;cases ru;obtain⟨z,its,n,r,hl,e⟩:=I.lstM hH;obtain⟨z2,its2,n2,r2,hl2,e2⟩:=I.lstM hB
 have hsz:its.toArray.size+its2.toArray.size<=sizeLine:=by rw [ab1,ab1];omega
 have hlong:¬(!its.toArray.isEmpty && Builtin.List.listTooLong (its.toArray.size+its2.toArray.size))=true:=by
  rw [sJ hsz,Bool.and_false];exact aa6
 refine call_meets F.slot_list_extend ⟨_,e,rfl⟩ F.entry_list_extend (F.args_list_extend_2 _ _)
  (AutoSeq1.list_extend_list_list_0 l its.toArray n b its2.toArray n2 hlong (by rw [ab1];omega) (by omega)) ⟨e,e2,?_⟩
 refine⟨.non,_,I.lset (its':=its++its2) hH e (by simp) (r.append r2) ?_,rfl,q⟩;rw [ab2];omega
def DD:V->List V->Hp->VK->Prop:=fun x vs H Q=>∃l xs i k y,x=.ref l/\vs=[.int i]/\H l=some (.lst xs)/\-(2 ^ 63)<=i/\i < 2 ^ 63/\seqIndex? i xs.length=some k/\xs[k]?=some y/\Q y (upd H l (.lst (xs.eraseIdx k)))
theorem yZ:FN X "list.pop" DD:=by
 intro pins s Z H x vs v us Q I rx rv h;obtain⟨l,xs,i,k,y,rfl,rfl,hH,h1,h2,hk,hy,q⟩:=h;cases rx;obtain⟨u,rfl,ru⟩:=rv.one;obtain⟨t,rfl⟩:=ru;obtain⟨z,its,n,r,hl,e⟩:=I.lstM hH;obtain⟨w,hw,rw'⟩:=r.get hy
 refine call_meets F.slot_list_pop ⟨_,e,rfl⟩ F.entry_list_pop (F.args_list_pop_2 _ _)
  (MeetsSeq.list_pop_at l its.toArray n i t k w (fitsIndex_both h1 h2) (by rw [ab1,<-hl];exact hk) (by rw [<-Array.getElem?_toList];exact hw) (by rw [ab1];omega)) ⟨e,?_⟩
 refine⟨y,_,I.lset (its':=its.eraseIdx k) hH e ?_ (r.eraseIdx k) ?_,rw',q⟩
 ·show its.toArray.eraseIdxIfInBounds k=(its.eraseIdx k).toArray
  rw [List.eraseIdxIfInBounds_toArray]
 ·have:=pR xs k
  omega
def BJ:R2:=fun x y H Q=>∃l b xs zs,x=.ref l/\y=.ref b/\H l=some (.lst xs)/\H b=some (.lst zs)/\xs.length+zs.length<=sizeLine/\∀p,H p=none->Q (.ref p) (upd H p (.lst (xs++zs)))
theorem op_cat:cX X (binaryOp .Add) BJ:=by
 intro pins s Z H x y v u Q I rx ry h;obtain⟨l,b,xs,zs,rfl,rfl,hH,hB,hz,q⟩:=h;cases rx;cases ry;obtain⟨z,its,n,r,hl,e⟩:=I.lstM hH;obtain⟨z2,its2,n2,r2,hl2,e2⟩:=I.lstM hB;refine PySem.P.add_list e e2 ?_ (by rw [ab1,ab1];omega)
 have ea:its.toArray++its2.toArray=(its++its2).toArray:=by simp
 rw [ea];exact⟨.ref _,_,I.lnew (t':=s.toks) (r.append r2) (by rw [ab2];omega),rfl,q _ I.fresh⟩
def DE:R2:=fun x y H Q=>∃l k xs,x=.ref l/\y=.int k/\H l=some (.lst xs)/\-(2 ^ 63)<=k/\k < 2 ^ 63/\xs.length * k.toNat<=sizeLine/\
 ∀p,H p=none->Q (.ref p) (upd H p (.lst (List.replicate k.toNat xs).flatten))
theorem qD(xs:List α)(k:Nat):(List.replicate k xs).flatten.length=k * xs.length:=by
 induction k with
 | zero=>simp
 | succ k ih=>rw [af0,aj7,ab2,ih,an8,Nat.add_comm]
theorem Dr:cX X (binaryOp .Mult) DE:=by
 intro pins s Z H x y v u Q I rx ry h;obtain⟨l,k,xs,rfl,rfl,hH,h1,h2,hz,q⟩:=h;cases rx;obtain⟨t,rfl⟩:=ry;obtain⟨z,its,n,r,hl,e⟩:=I.lstM hH
 have hlen:its.toArray.size * k.toNat<=sizeLine:=by rw [ab1,<-hl];exact hz
 have hcap:¬its.toArray.size * k.toNat > (2 ^ 63 - 1) / 8:=by
  have:(sizeLine:Nat)<=(2 ^ 63 - 1) / 8:=by decide
  omega
 have hfit:¬(!Builtin.List.listFitsIndex k)=true:=by
  rw [fitsIndex_both h1 h2];exact aa6
 have hlong:¬Builtin.List.listTooLong (its.toArray.size * k.toNat)=true:=by
  rw [sJ hlen];exact aa6
 have hnew:List.foldl (fun x1 x2=>x1++x2) #[] (List.replicate (if its.toArray.isEmpty=true then 0 else k.toNat) its.toArray)=(List.replicate k.toNat its).flatten.toArray:=by
  have f0:∀m:Nat,List.foldl (fun x1 x2=>x1++x2) #[] (List.replicate m its.toArray)=(List.replicate m its).flatten.toArray:=fun m=>by
   have:=kO its m []
   rw [List.nil_append]at this;exact this
  rw [f0]
  cases its with
  | nil=>simp
  | cons a r'=>rw [if_neg (by simp)]
 refine wpAny_binaryOp_repeat_ref (T:="list") (U:="int") (by decide) ⟨_,e,rfl⟩ (fun s'=>typeIs_int s' k t) noFill_list_mul F.fills_int_mul F.slot_int_rmul repeat_list F.slot_int_index.lookup
  (call_meets F.slot_int_rmul (typeIs_int s k t) F.entry_int_rmul (F.args_int_rmul_2 _ _) (int___rmul___int_list k t l its.toArray n)
   ⟨e,rfl,⟨_,e,rfl⟩,call_meets F.slot_list_mul ⟨_,e,rfl⟩ F.entry_list_mul (F.args_list_mul_2 _ _) (AutoListH.list___mul___list_int_3 l its.toArray n k t hfit hcap hlong) ⟨e,?_⟩⟩)
 rw [hnew];exact⟨.ref _,_,I.lnew (t':=s.toks) (r.rep k.toNat) (by rw [qD,ap6];exact hz),rfl,q _ I.fresh⟩
section
variable {prog:Program} {w:World} {E:Value->Shared->Prop}
set_option maxRecDepth 100000 in
end
end L2
namespace Att
open PySem PySem.W PySem.Calls PyProof.Rows
theorem l7{P:Params}{h:Heap}:∀(ns:List Int) (vs:List Value),WellAll P h vs (ns.map WData.int)->IntsAre vs ns:=by
 intro ns
 induction ns with
 | nil=>
  intro vs w;rw [ah9]at w;cases w;exact .nil
 | cons n ns ih=>
  intro vs w;rw [ad7]at w
  cases w with
  | cons a b=>
   cases a;exact .cons _ _ (ih _ b)
theorem script_of{l:OpenLaw}{n:Nat}(hn:l.most=some n){P:Params}{h:Heap}{args:List WData}{vals:List Value}
  (hpre:l.row.toRowW.claim.pre args=true) (hwl:WellAll P h vals args) :
  ∃a vs ns,vals=[Value.ref a]/\args=[WData.list (ns.map WData.int)]/\h.get? a=some { cls:=.type "list",data:=.seq vs.toArray }/\IntsAre vs ns/\ns.length<=n:=by
 have hsh:WShape.hasAll [] args [.list .int]=true:=(pre_splitW hpre).1;have hc:l.pre.holds [] { args:=args }=true:=(pre_splitW hpre).2;obtain⟨d,r,rfl,h1,h2⟩:=hasAllW_cons hsh;obtain rfl:=hasAllW_nil h2;obtain⟨xs,rfl,h3⟩:=hasW_list h1;obtain⟨ns,rfl⟩:=items_int h3
 have hlen:ns.length<=n:=by
  unfold OpenLaw.pre at hc
  have h4:(WTm.not (.lt (.lit (.int (n:Int))) (.len (.arg 0)))).holds [] { args:=[.list (ns.map .int)] }=true:=by
   have h4:=(holds_andW hc).1;rw [hn]at h4;exact h4
  have h5:=condW_of h4 (w_not (w_lt w_lit (w_len_list (w_arg rfl))));rw [aa0]at h5;refine Nat.le_of_not_lt fun q=>?_
  have q':(n:Int) < ((ns.length:Nat):Int):=by omega
  first
   | (rw [decide_eq_true q']at h5;exact absurd h5 (by decide))
   | (simp at h5;omega)
 cases hwl with
 | cons w1 w2=>
  cases w2
  cases w1 with
  | list ho hall=>exact⟨_,_,ns,rfl,rfl,ho,l7 ns _ hall,hlen⟩
theorem post_true(l:OpenLaw)(args:List WData):l.row.toRowW.claim.post args (.bool true) args=true:=
 postW_of (r:=l.row.toRowW) (X:=(true == true))
  (show WShape.has [] (.bool true) .bool=true by first | rfl | decide | simp [WShape.has,WShape.arms,WShape.armsAll])
  (show(WTm.eq .res (.lit (.bool true))).value [] { args:=args,res:=some (.bool true),after:=args }=some (.bool (true == true))from w_eq_bool (w_res rfl) w_lit) rfl
section
variable {prog:Program} {w:World} {A:Around} {E:Value->Shared->Prop} {s:Shared} {K:Frag}
end
end Att
namespace L2
open PySem PySem.Spec PyProof.Rows
theorem qa:∀{vs:List Value} {ns:List Int},IntsAre vs ns->aQ (ns.map V.int) vs
 | _,_,.nil=>.nil
 | _,_,.cons n t h=>.cons ⟨t,rfl⟩ (qa h)
def CL(H:Hp):Prop:=∀b,H b=none\/∃o xs,H b=some (.frz o (.lst xs))
theorem yV{P:Program}{w:World}{K:Frag}{mg mb:Str->Option Value}{CX:Ap}{k:Nat}{fa a:Addr}{fd:FuncData}{x:Str}{sp:Sp}{Zg:Shared}{vs:List Value}{ns:List Int}
  (KX:K.In Zg.heap) (hns:Zg.heap.Ns mainGlobals mg) (hb:Zg.heap.Ns builtinsNs mb) (hbb:∀x:Str,x≠"__name__"->mb x=bootBuiltins x) (hlim:Zg.heap.NoLimit) (hg:Zg.gens=#[])
  (ha:Zg.heap.get? a=some { cls:=.type "list",data:=.seq vs.toArray }) (hi:IntsAre vs ns) (hl:ns.length<=sizeLine) (hr:dy k callerA)
  (F:∀base:Heap,K.In base->base.Ns mainGlobals mg->aN P w K mg base CX k fa fd [x] sp) (hbind:∀(s:Shared) (u:Value),BindsTo s fd ⟨[u],[]⟩ [(x,u)])
  (hsp:∀H:Hp,CL H->aL K H a (ns.map V.int)->sp [.ref a] H (fun v _=>v=.bl true) fun _ _ _=>False)
  (hCX:∀H e s',CX [] H Zg (fun _ _ _=>False) e s'->False) :
  codeAny (model P w) callerA (.call (.ref fa) ⟨[.ref a],[]⟩) (fun r s'=>r=.ok (.ret (.bool true))/\OldK Zg.heap s'.heap/\s'.os=Zg.os/\AllBare s'.gens) Zg:=by
 have rv:=qa hi;have lenV:=hi.length
 have core:∀H:Hp,CL H->aL K H a (ns.map V.int)->jC P w H Zg.heap->(∀b,H b≠none->b=a)->(H a≠none->K.lookup a=none)->
   codeAny (model P w) callerA (.call (.ref fa) ⟨[.ref a],[]⟩) (fun r s'=>r=.ok (.ret (.bool true))/\OldK Zg.heap s'.heap/\s'.os=Zg.os/\AllBare s'.gens) Zg:=by
  intro H hO hS hok hA hK;have base_of:∀{b:Addr} {o:Obj},Zg.heap.get? b=some o->H b=none->(qw Zg.heap H).get? b=some o:=fun e n=>yA e n
  have noA:∀{b:Addr} {o:Obj} {es:Array DictEntry} {ep:Nat},Zg.heap.get? b=some o->o.data=.dict es ep->H b=none:=fun {b o es ep} e d=>by
   cases q:H b with
   | none=>rfl
   | some u=>
    have e':b=a:=hA b (by rw [q];simp);subst e';rw [ha]at e;cases e;have d':Data.seq vs.toArray _=Data.dict es ep:=d;cases d'
  have nsK:∀{b:Addr} {m:Str->Option Value},Zg.heap.Ns b m->(qw Zg.heap H).Ns b m:=fun {b m} ⟨o,es,ep,e,d,r⟩=>⟨o,es,ep,base_of e (noA e d),d,r⟩
  have hKb:K.In (qw Zg.heap H):=fun b o e=>base_of (KX b o e) (by
   cases q:H b with
   | none=>rfl
   | some u=>
    have e':b=a:=hA b (by rw [q];simp);subst e'
    rw [hK (by rw [q];simp)]at e;cases e)
  have hM:Mod K mg (qw Zg.heap H):=⟨hKb,nsK hns,⟨mb,nsK hb,hbb⟩,let ⟨mc,h1,h2⟩:=hlim;⟨mc,nsK h1,h2⟩⟩;have e0:tV P w K mg (qw Zg.heap H) callerA [] Zg H:=⟨rfl,hM,fun b o e=>Bg e,Nat.le_of_eq (wW _ _),trivial,fun b hb=>absurd (show b∈([]:List Addr)from hb) (by simp),hok,.of_eq hg⟩;refine ap5 ((F _ hKb (nsK hns)).run callerA [] Zg H ⟨[.ref a],[]⟩ [.ref a] [.ref a] _ _ hr e0 (hbind Zg (.ref a)) (.cons rfl .nil) (hsp H hO hS)) fun r s' h=>?_
  cases r with
  | error e=>exact(hCX H e s' h).elim
  | ok fl=>
   cases fl with
   | next=>exact False.elim h
   | brk=>exact False.elim h
   | cont=>exact False.elim h
   | ret u=>
    obtain⟨v,H',os,bare,un,hok',r',q⟩:=h;have q':v=.bl true:=q;subst q';obtain rfl:u=Value.bool true:=r';refine⟨rfl,OldK.of_keep fun b o e=>?_,os,bare⟩
    cases q:H b with
    | none=>exact un.keep b o e q (by intro z;exact absurd (show b∈([]:List Addr)from z) (by simp)) (by simp)
    | some u=>
     rcases hO b with z | ⟨ob,xs,z⟩
     ·rw [q]at z;cases z
     ·have z2:=un.frzs b ob _ z
      obtain⟨e1,_⟩:=hok b _ z;obtain⟨e2,_⟩:=hok' b _ z2;rw [e]at e1;cases e1;exact e2
 cases hk:K.lookup a with
 | some o=>
  have e:=KX a o hk;rw [ha]at e;cases e;refine core (fun _=>none) (fun _=>.inl rfl) (.inr ⟨_,vs.toArray,_,hk,rfl,rfl,rfl,by rw [ab1,lenV];exact hl,by simpa using rv⟩) (fun b u z=>by have z':(none:Option HO)=some u:=z;cases z') (fun b z=>absurd rfl z) fun z=>absurd rfl z
 | none=>
  refine core (fun b=>if b=a then some (.frz { cls:=.type "list",data:=.seq vs.toArray } (.lst (ns.map V.int)))else none) (fun b=>?_) (.inl (.inr ⟨{ cls:=.type "list",data:=.seq vs.toArray },if_pos rfl⟩)) (fun b u z=>?_) (fun b z=>?_) fun _=>hk
  ·by_cases hb:b=a
   ·exact .inr ⟨_,_,if_pos hb⟩
   ·exact .inl (if_neg hb)
  ·by_cases hb:b=a
   ·have z':=(if_pos hb).symm.trans z
    cases z';subst hb;exact⟨ha,by rw [aa0];exact hl,vs,_,rv,ha⟩
   ·have z':=(if_neg hb).symm.trans z
    cases z'
  ·by_cases hb:b=a
   ·exact hb
   ·exact absurd (if_neg hb) z
abbrev KOf{K:Frag}{h:Heap}(_:K.In h):Frag:=K
end L2
namespace L2
open PySem PySem.Spec PyProof.Rows
variable {H:Hp} {f:Addr} {qual x:Str} {st:Stmt}
def bA(s:Stmt)(j:Nat):Stmt:=match s with
 | .ClassDef _ _ _ body _ _ _ _ _ _ _=>body.getD j (.Pass ⟨0,0,0,0⟩)
 | _=>.Pass ⟨0,0,0,0⟩
def cZ(s:Stmt):Arguments:=match s with
 | .FunctionDef _ a _ _ _ _ _ _ _ _=>a
 | _=>{ posonlyargs:=[],args:=[],vararg:=none,kwonlyargs:=[],kw_defaults:=[],kwarg:=none,defaults:=[] }
def cH(s:Stmt):List Stmt:=match s with
 | .FunctionDef _ _ b _ _ _ _ _ _ _=>b
 | _=>[]
def ao(s:Stmt):Scope:=match s with
 | .FunctionDef _ _ _ _ _ _ sc _ _ _=>sc
 | _=>{ kind:=.function,names:=[],isGenerator:=false,isCoroutine:=false }
abbrev cc:Ap:=fun _ _ _ _ _ _=>False
abbrev E0:XK:=fun _ _ _=>False
theorem pW{X:Cx}:mR cc X E0:=fun _ _ _ _ _ _ _ h=>h.elim
structure cM(K:Frag)(x qual:Str)(st:Stmt)(f:Addr)(fd:FuncData):Prop where
 ex:∃(oc:Value) (od:Option Addr) (kV doc pm:Value) (an:Option Addr) (cdv ct:Value) (osl:Array (Option Value)),
  fd=fnOf x qual (cZ st) (cH st) (ao st) .none kV doc pm an cdv ct/\K.lookup f=some ⟨oc,od,.func fd,osl⟩/\codeIn K cdv qual=true
 kp:keepIn K (.ref f)=true
section
variable {P:Program} {w:World} {K:Frag} {mg:Str->Option Value} {base:Heap}
theorem cM.ok{fd:FuncData}{N ps:List Str}{k:Nat}{sp:Sp}(F:cM K x qual st f fd)(S:ay N ps (ao st))(len:∀vs H Q E,sp vs H Q E->vs.length=ps.length)
  (hbody:∀(cdv:Value) (A:Around) (outer:List Env) (s:Shared) (H:Hp) (vs:List V) (Q:VK) (E:XK),dy k (A.deeper (envOfC qual (ao st) s.heap.objs.size f cdv))->sp vs H Q E->
   ∃t,vE (r6 cc P w K mg base N qual (ao st) f cdv A outer s H E).nox (cH st) t/\t { nx:=fun _ H'=>Q .non H',rt:=Q } (start N vs) H):aN P w K mg base cc (k+1) f fd ps sp:=by
 obtain⟨oc,od,kV,doc,pm,an,cdv,ct,osl,rfl,lk,hcd⟩:=F.ex;refine Cm lk hcd S len fun A outer s H vs Q E hr hsp=>?_;obtain⟨t,h,q⟩:=hbody cdv A outer s H vs Q E hr hsp;exact⟨t,h.nox,q⟩
theorem cM.binds{fd:FuncData}{ps:List Str}(F:cM K x qual st f fd)
  (h:∀(kV doc pm:Value) (an:Option Addr) (cdv ct:Value) (us:List Value),us.length=ps.length->bindArgs (fnOf x qual (cZ st) (cH st) (ao st) .none kV doc pm an cdv ct) ⟨us,[]⟩=pure (ps.zip us)):dE K fd ps []:=by
 obtain⟨oc,od,kV,doc,pm,an,cdv,ct,osl,rfl,lk,hcd⟩:=F.ex;exact .all (h kV doc pm an cdv ct)
theorem fun_mk{oc:Value}{od an:Option Addr}{osl:Array (Option Value)}{kV doc pm cdv ct:Value}(l:K.lookup f=some ⟨oc,od,.func (fnOf x qual (cZ st) (cH st) (ao st) .none kV doc pm an cdv ct),osl⟩)
  (c:codeIn K cdv qual=true) (k:keepIn K (.ref f)=true):cM K x qual st f (fnOf x qual (cZ st) (cH st) (ao st) .none kV doc pm an cdv ct):=⟨⟨oc,od,kV,doc,pm,an,cdv,ct,osl,rfl,l,c⟩,k⟩
end
section
variable {X:Cx}
end
def ar(H H':Hp):Prop:=∀b o,H b=some o->H' b=some o
theorem ar.refl(H:Hp):ar H H:=fun _ _ h=>h
theorem ar.trans{H1 H2:Hp}(a:ar H H1)(b:ar H1 H2):ar H H2:=fun c o h=>b c o (a c o h)
theorem ar.free{H':Hp}(e:ar H H'){l:Addr}(h:H' l=Option.none):H l=Option.none:=by
 cases q:H l with
 | none=>rfl
 | some o=>
  rw [e l o q]at h;cases h
theorem ar.seq{K:Frag}{H':Hp}{a:Addr}{xs:List V}(e:ar H H')(h:aL K H a xs):aL K H' a xs:=by
 rcases h with(h | ⟨o,h⟩) | h
 ·exact .inl (.inl (e _ _ h))
 ·exact .inl (.inr ⟨o,e _ _ h⟩)
 ·exact .inr h
end L2
namespace GM
end GM
set_option maxHeartbeats 4000000
namespace L2
open PySem PySem.Spec PyProof.Rows
variable {A:Around} {C a:Addr} {E:Value->Shared->Prop} {F:List V->Hp->Prop} {H:Hp} {K:Frag} {Q:VK} {R:It->Hp->Prop} {X:Cx} {cl:List (Str×Addr)} {env:Env} {g:TG} {i j:Int} {js:List Nat} {ox:List Str} {pins:List (Addr×Obj)} {pos:Pos} {r:V->Hp->(It->Hp->Prop)->Prop} {s:Shared} {scope:Scope} {tg:Expr} {v:V} {w:World} {x y z:Str} {xs:List V} {Z:St}
def fC(cells:List (Str×Addr)):List (Str×NameKind)->List (Str×Addr)->List (Str×Addr)
 | [],cs=>cs
 | (n,k)::r,cs=>fC cells r (if k == .free then(n,(cells.lookup n).getD 0)::cs else cs)
theorem jb(h:∀y∈scope.names,y.2=.free->∃c,env.cells.lookup y.1=some c):closureFor scope env=pure (fC env.cells scope.names []):=by
 simp only [closureFor];generalize scope.names=l at h |-
 have key:∀(l:List (Str×NameKind)) (cs:List (Str×Addr)),(∀y∈l,y.2=.free->∃c,env.cells.lookup y.1=some c)->
   (forIn l cs (fun(x:Str×NameKind) (r:List (Str×Addr))=>(if (x.snd == NameKind.free)=true then(do let a <-cellOf env x.fst;pure (ForInStep.yield ((x.fst,a)::r)))else pure (ForInStep.yield r):Sem (ForInStep (List (Str×Addr))))):Sem (List (Str×Addr)))=pure (fC env.cells l cs):=by
  intro l
  induction l with
  | nil=>intro cs _;rfl
  | cons x r ih=>
   intro cs h;obtain⟨n,k⟩:=x;have hr:∀y∈r,y.2=.free->∃c,env.cells.lookup y.1=some c:=fun y hy=>h y (ae0 _ hy);rw [af7]
   by_cases hk:k=.free
   ·subst hk
    obtain⟨c,hc⟩:=h (n,.free) ad8 rfl
    have e:cellOf env n=pure c:=by unfold cellOf;rw [show env.cells.lookup n=some c from hc]
    simp only [beq_self_eq_true,if_true,e];show(forIn r ((n,c)::cs) _:Sem _)=_;rw [ih _ hr];simp only [fC,beq_self_eq_true,if_true];rw [show env.cells.lookup n=some c from hc];rfl
   ·have hb:(k == NameKind.free)=false:=by simpa using hk
    simp only [hb,ad9,if_false];show(forIn r cs _:Sem _)=_;rw [ih _ hr];simp only [fC,hb,ad9,if_false]
 rw [key l [] h];rfl
theorem kJ{cells:List (Str×Addr)}:∀{l:List (Str×NameKind)} {cs:List (Str×Addr)} {x:Str} {c:Addr},(∀y∈l,y.2=.free->∃c,cells.lookup y.1=some c)->
  (∀x c,cs.lookup x=some c->cells.lookup x=some c)->(fC cells l cs).lookup x=some c->cells.lookup x=some c
 | [],_,_,_,_,hs,e=>hs _ _ e
 | (n,k)::r,cs,x,c,h,hs,e=>by
  refine kJ (l:=r) (fun y hy=>h y (ae0 _ hy)) ?_ e;intro z d
  by_cases hk:k=.free
  ·subst hk
   obtain⟨c',hc'⟩:=h (n,.free) ad8 rfl;have hc'':cells.lookup n=some c':=hc';simp only [beq_self_eq_true,if_true,ag6,hc'',Option.getD_some]
   cases hz:z == n with
   | true=>
    have:z=n:=by simpa using hz
    subst this;intro q;cases q;exact hc''
   | false=>exact hs z d
  ·have hb:(k == NameKind.free)=false:=by simpa using hk
   simp only [hb,ad9,if_false];exact hs z d
theorem kI{cells:List (Str×Addr)}:∀{l:List (Str×NameKind)} {cs:List (Str×Addr)} {x:Str},((x,NameKind.free)∈l\/∃c,cs.lookup x=some c)->∃c,(fC cells l cs).lookup x=some c
 | [],_,_,h=>by
  rcases h with h | h
  ·cases h
  ·exact h
 | (n,k)::r,cs,x,h=>by
  refine kI (l:=r) ?_;rcases h with h | ⟨c,h⟩
  ·rcases aa8.mp h with e | h
   ·cases e
    refine .inr ⟨(cells.lookup n).getD 0,?_⟩;simp only [beq_self_eq_true,if_true,ag6]
   ·exact .inl h
  ·by_cases hk:k=.free
   ·subst hk
    simp only [beq_self_eq_true,if_true,ag6]
    cases hz:x == n with
    | true=>exact .inr ⟨_,rfl⟩
    | false=>exact .inr ⟨c,h⟩
   ·have hb:(k == NameKind.free)=false:=by simpa using hk
    simp only [hb,ad9,if_false];exact .inr ⟨c,h⟩
theorem fG{env:Env}:∀{names:List (Str×NameKind)} {x:Str},
  (names.map fun(n,k)=>if (k == NameKind.free && env.scope.kind == .function && env.kindOf n == some .cell)then(n,NameKind.cell)else(n,k)).lookup x =
   (names.lookup x).map fun k=>if (k == NameKind.free && env.scope.kind == .function && env.kindOf x == some .cell)then NameKind.cell else k
 | [],_=>rfl
 | (n,k)::r,x=>by
  have ih:=@fG env r x;show List.lookup x ((if (k == NameKind.free && env.scope.kind == .function && env.kindOf n == some .cell)=true then(n,NameKind.cell)else(n,k))::_)=_
  cases hx:x == n with
  | true=>
   have e:x=n:=by simpa using hx
   subst e
   by_cases hc:(k == NameKind.free && env.scope.kind == .function && env.kindOf x == some .cell)=true
   ·rw [if_pos hc];simp only [ag6,hx,an3];rw [if_pos hc]
   ·rw [if_neg hc];simp only [ag6,hx,an3];rw [if_neg hc]
  | false=>
   by_cases hc:(k == NameKind.free && env.scope.kind == .function && env.kindOf n == some .cell)=true
   ·rw [if_pos hc];simp only [ag6,hx];exact ih
   ·rw [if_neg hc];simp only [ag6,hx];exact ih
theorem mem_of_lookup{κ ν:Type}[BEq κ][LawfulBEq κ]:∀{l:List (κ×ν)} {x:κ} {v:ν},l.lookup x=some v->(x,v)∈l
 | [],_,_,h=>by cases h
 | (n,k)::r,x,v,h=>by
  rw [ag6]at h
  cases hx:x == n with
  | true=>
   rw [hx]at h
   have e:x=n:=by simpa using hx
   cases h;rw [e];exact ad8
  | false=>
   rw [hx]at h;exact ae0 _ (mem_of_lookup h)
theorem jR:∀(names:List (Str×NameKind)) (n:Nat) (h:Heap),names.filter (fun y=>y.2 == .cell)=[]->cellsFrom n names cl=cl/\pushCells h names=h
 | [],_,_,_=>⟨rfl,rfl⟩
 | (a,k)::r,n,h,e=>by
  have hk:(k == NameKind.cell)=false:=by
   cases q:k == NameKind.cell with
   | false=>rfl
   | true=>rw [List.filter_cons_of_pos (by exact q)]at e;cases e
  rw [List.filter_cons_of_neg (by show ¬(k == NameKind.cell)=true;rw [hk];exact aa6)]at e;unfold cellsFrom pushCells;rw [if_neg (by rw [hk];exact aa6),if_neg (by rw [hk];exact aa6)];exact jR r n h e
theorem kH:∀(names:List (Str×NameKind)) (n:Nat) (h:Heap),names.filter (fun y=>y.2 == .cell)=[(x,.cell)]->cellsFrom n names cl=(x,n)::cl/\pushCells h names=h.push { cls:=.type "cell",data:=.cell none }
 | [],_,_,e=>nomatch e
 | (a,k)::r,n,h,e=>by
  unfold cellsFrom pushCells
  cases q:k == NameKind.cell with
  | true=>
   rw [List.filter_cons_of_pos (by exact q)]at e;obtain⟨e1,e2⟩:=List.cons.inj e;cases e1;exact jR r _ _ e2
  | false=>
   rw [List.filter_cons_of_neg (by show ¬(k == NameKind.cell)=true;rw [q];exact aa6)]at e;exact kH r n h e
def nB(ox:List Str)(C:Addr):List (Str×Addr):=ox.map fun x=>(x,C+1)
theorem vT{c:Addr}:∀{ox:List Str},(nB ox C++cl).lookup y=some c->(y∈ox/\c=C+1)\/cl.lookup y=some c
 | [],e=>.inr e
 | x::r,e=>by
  have e:(match y == x with | true=>some (C+1) | false=>(nB r C++cl).lookup y)=some c:=e
  cases h:y == x with
  | true=>
   rw [h]at e;cases e;exact .inl ⟨by simp at h;simp [h],rfl⟩
  | false=>
   rw [h]at e;exact(vT e).imp (fun z=>⟨.tail _ z.1,z.2⟩) id
theorem qH:∀{ox:List Str},y∈ox->(nB ox C++cl).lookup y=some (C+1)
 | x::r,h=>by
  show(match y == x with | true=>some (C+1) | false=>(nB r C++cl).lookup y)=_
  cases e:y == x with
  | true=>rfl
  | false=>
   rcases aa8.mp h with z | z
   ·rw [z]at e;simp at e
   ·exact qH z
theorem uw:∀{ox:List Str},y∉ox->(nB ox C++cl).lookup y=cl.lookup y
 | [],_=>rfl
 | x::r,h=>by
  show(match y == x with | true=>some (C+1) | false=>(nB r C++cl).lookup y)=_
  cases e:y == x with
  | true=>exact absurd (by simp at e;simp [e]) h
  | false=>exact uw fun z=>h (.tail _ z)
theorem mj{M:Model}{globals:Addr}{qual:Str}{func:Option Addr}{code:Value}{out:Env}{builtins:Addr}{Q:Env->Shared->Prop}
  (hc:scope.names.filter (fun y=>y.2 == .cell)=ox.map fun x=>(x,.cell)) (h1:ox.length<=1)
  (hQ:∀Zl:Heap,(∀b o,s.heap.get? b=some o->Zl.get? b=some o)->Zl.Ns s.heap.objs.size (fun _=>none)->(ox=[]\/∃v,Zl.IsCell (s.heap.objs.size+1) v)->Q (newEnv scope s.heap.objs.size globals (nB ox s.heap.objs.size++cl) qual func code (some out) builtins) { s with heap:=Zl }) :
  wpAny M A (newFunctionEnv scope globals cl [] qual func code (some out) builtins) Q E s:=by
 simp only [newFunctionEnv,Option.isSome_some,if_true];refine aa2 (wpAny_alloc ?_)
 refine aa2 (wpAny_layCells _ (fun name kind cells=>by cases hkc:kind == NameKind.cell<;>simp [hkc]) _ _ _ _ ?_)
 rw [show({ s with heap:=s.heap.push { cls:=.type "dict",data:=.dict #[] } }:Shared).heap.objs.size=s.heap.objs.size+1 from ae7 ..,aj8];generalize hP:s.heap.push { cls:=.type "dict",data:=.dict #[] }=P;have hn:P.Ns s.heap.objs.size (fun _=>none):=hP▸Heap.Ns.new ..;have up:∀b o,s.heap.get? b=some o->P.get? b=some o:=fun b o e=>hP▸aa4 _ e
 match ox,h1 with
 | [],_=>
  rw [(jR scope.names _ P hc).1,(jR scope.names 0 P hc (cl:=cl)).2];exact aa2 (aa7 (aa7 (hQ P up hn (.inl rfl))))
 | [x],_=>
  rw [(kH scope.names _ P hc).1,(kH scope.names 0 P hc (cl:=cl)).2];have e:=ab3 P (o:={ cls:=.type "cell",data:=.cell none }) rfl;rw [show P.objs.size=s.heap.objs.size+1 by rw [<-hP,ae7]]at e;exact aa2 (aa7 (aa7 (hQ _ (fun b o z=>aa4 _ (up b o z)) (hn.keeps fun b o z=>aa4 _ z) (.inr ⟨none,_,e,rfl⟩))))
structure bw(X:Cx)(scope:Scope)(ox:List Str)(js:List Nat):Prop where
 kind:scope.kind=.function
 one:ox.length<=1
 cell:scope.names.filter (fun y=>y.2 == .cell)=ox.map fun x=>(x,.cell)
 own:∀x∈ox,scope.names.lookup x=some .cell
 names:∀y∈scope.names,y.2=.local->scope.names.lookup y.1=some .local
 free:∀y∈scope.names,y.2=.free->X.env.kindOf y.1=some .cell\/X.env.kindOf y.1=some .free
 js:∀j∈js,scope.names.lookup (X.N.getD j "")=some .free
def vI(out:Scope)(N:List Str)(scope:Scope)(ox:List Str)(js:List Nat):Bool:=
 (scope.kind == .function) && decide (ox.length<=1) && (scope.names.filter (fun y=>y.2 == .cell) == ox.map fun x=>(x,.cell)) && ox.all (fun x=>scope.names.lookup x == some .cell) && scope.names.all (fun y=>y.2 != .local || scope.names.lookup y.1 == some .local) &&
  scope.names.all (fun y=>y.2 != .free || (out.names.lookup y.1 == some .cell || out.names.lookup y.1 == some .free)) && js.all fun j=>scope.names.lookup (N.getD j "") == some .free
theorem bw.of(h:vI X.env.scope X.N scope ox js=true):bw X scope ox js:=by
 simp only [vI,af9,ag7]at h;obtain⟨⟨⟨⟨⟨⟨h1,h6⟩,h2⟩,h0⟩,h3⟩,h4⟩,h5⟩:=h;refine⟨by simpa using h1,by simpa using h6,by simpa using h2,fun y hy=>by simpa using h0 y hy,fun y hy e=>?_,fun y hy e=>?_,fun j hj=>by simpa using h5 j hj⟩
 ·have:=h3 y hy
  rw [e]at this;simpa using this
 ·have:=h4 y hy
  rw [e]at this;simpa [Env.kindOf]using this
def pK(X:Cx)(scope:Scope)(ox own:List Str)(js:List Nat)(C:Addr)(s:Shared)(H:Hp)(ex:List Addr)(pn:List (Addr×Obj))(E:Value->Shared->Prop):Cx where
 prog:=X.prog
 w:=X.w
 K:=X.K
 mg:=X.mg
 base:=X.base
 A:=X.A
 N:=own++js.map fun j=>X.N.getD j ""
 Zh:=s
 Z2:=H
 env:=compEnvC scope (nB ox C++fC X.env.cells scope.names []) C X.env
 outer:=X.stack
 stack:=X.stack
 ex:=ex
 fn:=fun y=>ox.contains y
 calm:=X.calm
 pn:=pn
 xe:=E
abbrev CP(X:Cx)(scope:Scope):=pK X scope []
abbrev FU(X:Cx)(scope:Scope)(x:Str):=pK X scope [x] [x]
def Zt(n:Nat)(js:List Nat)(Z:St):St:=List.replicate n none++js.map fun j=>Z.getD j none
section
variable {H':Hp} {own:List Str} {fp:List Addr}
theorem bw.clos(ok:bw X scope ox js)(I:aJ X pins Z H s):∀y∈scope.names,y.2=.free->∃c,X.env.cells.lookup y.1=some c:=fun y hy e=>I.ok.has y.1 (ok.free y hy e)
theorem bw.sub(ok:bw X scope ox js)(I:aJ X pins Z H s){c:Addr}(e:(nB ox C++fC X.env.cells scope.names []).lookup y=some c):(y∈ox/\c=C+1)\/X.env.cells.lookup y=some c:=
 (vT e).imp id fun e=>kJ (ok.clos I) (fun _ _ z=>by cases z) e
theorem bw.kindOf(ok:bw X scope ox js)(h:(compEnvC scope cl C X.env).kindOf y=some .cell\/(compEnvC scope cl C X.env).kindOf y=some .free):y∈ox\/(y,NameKind.free)∈scope.names:=by
 have e:(compEnvC scope cl C X.env).kindOf y=(scope.names.lookup y).map fun k=>if (k == NameKind.free && X.env.scope.kind == .function && X.env.kindOf y == some .cell)then NameKind.cell else k:=fG;rw [e]at h
 cases q:scope.names.lookup y with
 | none=>rw [q]at h;simp at h
 | some k=>
  have hm:=mem_of_lookup q
  by_cases hk:k=.free
  ·subst hk;exact .inr hm
  ·have hb:(k == NameKind.free)=false:=by simpa using hk
   rw [q]at h;simp only [an3,hb,ai4,ad9,if_false]at h;rcases h with h | h
   ·have hc:k=.cell:=Option.some.inj h
    subst hc
    have:(y,NameKind.cell)∈scope.names.filter (fun y=>y.2 == .cell):=aq0.mpr ⟨hm,rfl⟩
    rw [ok.cell]at this;obtain⟨z,hz,e⟩:=ac0.mp this;cases e;exact .inl hz
   ·exact absurd (Option.some.inj h) hk
theorem AV(h:scope.names.lookup x=some .free):(compEnvC scope cl C X.env).kindOf x=some .cell\/(compEnvC scope cl C X.env).kindOf x=some .free:=by
 have e:(compEnvC scope cl C X.env).kindOf x=(scope.names.lookup x).map fun k=>if (k == NameKind.free && X.env.scope.kind == .function && X.env.kindOf x == some .cell)then NameKind.cell else k:=fG;rw [e,h];simp only [an3]
 split
 ·exact .inl rfl
 ·exact .inr rfl
theorem AJ(ok:bw X scope ox js)(I:aJ X pins Z H s)(hC:s.heap.objs.size<=C)(f:∀b∈fp,l6 X pins H b)(fo:∀b∈fp,∃o,s.heap.get? b=some o):(pK X scope ox own js C s H fp (X.pn++pins) E).Ok where
 mod:=I.ok.mod
 kind:=ok.kind
 glob:=I.ok.glob
 blt:=I.ok.blt
 above:=hC
 inj:=fun y z c e1 e2=>by
  have lt:∀y,X.env.cells.lookup y=some (C+1)->False:=fun y e=>by
   obtain⟨v,q⟩:=I.cell y _ e;exact ai7.mpr (am7 C) (ab0 q.lt hC)
  rcases ok.sub I e1 with⟨h1,h2⟩ | h1
  ·rcases ok.sub I e2 with⟨h3,_⟩ | h3
   ·match ox,ok.one,h1,h3 with
    | [_],_,h1,h3=>exact(ab6.mp h1).trans (ab6.mp h3).symm
   ·exact(lt z (h2▸h3)).elim
  ·rcases ok.sub I e2 with⟨_,h3⟩ | h3
   ·exact(lt y (h3▸h1)).elim
   ·exact I.ok.inj y z c h1 h3
 has:=fun y h=>by
  rcases Classical.em (y∈ox)with z | z
  ·exact⟨_,qH z⟩
  ·obtain⟨c,e⟩:=kI (cells:=X.env.cells) (cs:=[]) (.inl ((ok.kindOf h).resolve_left z))
   exact⟨c,(uw z).trans e⟩
 cab:=fun y c h e=>by
  have e:=(qH (C:=C) (cl:=fC X.env.cells scope.names []) (List.contains_iff_mem.mp h)).symm.trans e;cases e;exact ao4 hC
 hd:=I.ok.hd
 frames:=I.ok.frames
 stk:=.inl rfl
 exf:=fun b hb=>by
  obtain⟨o,e⟩:=fo b hb;obtain⟨_,_,_,_,f4,_⟩:=f b hb;have lt:=ab7 e;refine⟨ac6 (ab0 lt hC),fun y c q=>?_⟩;rcases ok.sub I q with⟨_,h⟩ | h
  ·rw [h]
   exact fun z=>ai7.mpr (am7 C) (ab0 (show C+1 < s.heap.objs.size by rw [z];exact lt) hC)
  ·exact f4 y c h
 bs:=I.bs
 bsz:=ab9 I.ok.bsz I.sz
 noex:=fun b o e hb=>by
  obtain⟨_,_,_,f3,_,_⟩:=f b hb;rcases f3 with z | z
  ·exact I.ok.noex b o e z
  ·exact absurd (ab0 (ab7 e) (ab9 I.ok.bsz z)) (ah1 _)
 exfs:=fun b hb hs=>by
  obtain⟨_,f1,f2,_,_,_⟩:=f b hb;rcases aa8.mp (I.stkSub b hs)with e | e
  ·exact f1 e
  ·exact f2 e
 funs:=I.stack
 frf:=I.stkFree
theorem yF{s':Shared}{pins':List (Addr×Obj)}{m:Str->Option Value}(ok:bw X scope ox js)(I:aJ X pins Z H s)(hC:s.heap.objs.size<=C)(f:∀b∈fp,l6 X pins H b)(fo:∀b∈fp,∃o,s.heap.get? b=some o)
  (hos:s'.os=s.os) (hg:AllBare s'.gens) (u:Un (tR X.stack) fp H H' s.heap s'.heap) (hn:s'.heap.Ns C m) (hok:jC X.prog X.w H' s'.heap) (hCf:H' C=none) (hcc:ox=[]\/((∃v,s'.heap.IsCell (C+1) v)/\H' (C+1)=none))
  (hp:∀p∈pins',s'.heap.get? p.1=some p.2/\H' p.1=none/\p.1≠C/\p.1∉tR X.stack/\∀v,p.2.data≠.cell v) :
  aJ (pK X scope ox own js C s H fp (X.pn++pins) E) pins' (Zt own.length js Z) H' s':=by
 have Ok:=AJ (own:=own) (E:=E) ok I hC f fo
 have cellAt:∀x c,X.env.cells.lookup x=some c->∀v,s.heap.IsCell c v->s'.heap.IsCell c v:=fun x c e v ⟨o,ho,hd⟩=>by
  have nx:c∉fp:=fun z=>by
   obtain⟨_,_,_,_,f4,_⟩:=f c z;exact f4 x c e rfl
  obtain⟨sl,q⟩:=u.any ho (I.freeC x c e) nx;exact⟨_,q,hd⟩
 refine⟨Ok,hos,hg,u,⟨m,hn,?_⟩,?_,hCf,?_,?_,hok,?_⟩
 ·intro i y v e1 e2 _
  have e1':(own++js.map fun j=>X.N.getD j "")[i]?=some y:=e1;have e2':(List.replicate own.length none++js.map fun j=>Z.getD j none)[i]?=some (some v):=e2
  by_cases hi:i < own.length
  ·rw [ab5 (by simpa using hi),List.getElem?_replicate]at e2'
   split at e2'<;>cases e2'
  ·rw [ac4 (by omega),aa5]at e1'
   rw [ac4 (by simpa using ai7.mp hi),aa5,al9]at e2'
   cases hj:js[i - own.length]? with
   | none=>rw [hj]at e1';cases e1'
   | some j=>
    rw [hj]at e1' e2';have ex:X.N.getD j ""=y:=Option.some.inj e1';have ev:Z.getD j none=some v:=Option.some.inj e2';have hjm:j∈js:=ac5 hj
    have hjl:j < Z.length:=by
     apply ae3;intro h;rw [ab8,aj6 (ai7.mp h)]at ev;cases ev
    have Yv:Z[j]?=some (some v):=by
     rw [ab8,aa1 hjl]at ev;rw [aa1 hjl];exact congrArg some ev
    have hNl:j < X.N.length:=by rw [<-I.len];exact hjl
    have hN:X.N[j]?=some y:=by
     rw [ab8,aa1 hNl]at ex;rw [aa1 hNl];exact congrArg some ex
    have hfr:scope.names.lookup y=some .free:=by rw [<-ex];exact ok.js j hjm
    have hk:=ok.free _ (mem_of_lookup hfr) rfl;obtain⟨m0,_,hl⟩:=I.loc;obtain⟨w',r,l⟩:=hl j y v hN Yv (.inr hk);refine⟨w',r,?_⟩;rcases l with⟨hk',_⟩ | ⟨_,c,hc,hz⟩
    ·have hk'':X.env.kindOf y=some .local:=hk'
     rcases hk with q | q
     ·exact absurd (hk''.symm.trans q) (by intro z;cases z)
     ·exact absurd (hk''.symm.trans q) (by intro z;cases z)
    ·obtain⟨c',hc'⟩:∃c',(fC X.env.cells scope.names []).lookup y=some c':=kI (.inl (mem_of_lookup hfr))
     have e:X.env.cells.lookup y=some c':=kJ (ok.clos I) (fun _ _ z=>by cases z) hc';rw [hc]at e;cases e;exact .inr ⟨AV hfr,c,(uw fun z=>by rw [ok.own y z]at hfr;cases hfr).trans hc',cellAt y c hc _ hz⟩
 ·intro y c e
  rcases ok.sub I e with⟨z,h⟩ | h
  ·rw [h]
   exact(hcc.resolve_left fun q=>by rw [q]at z;cases z).1
  ·obtain⟨v,z⟩:=I.cell y c h
   exact⟨v,cellAt y c h v z⟩
 ·intro y c e
  rcases ok.sub I e with⟨z,h⟩ | h
  ·rw [h]
   exact(hcc.resolve_left fun q=>by rw [q]at z;cases z).2
  ·obtain⟨v,o,ho,_⟩:=I.cell y c h
   refine u.free c o ho (I.freeC y c h) fun z=>?_;obtain⟨_,_,_,_,f4,_⟩:=f c z;exact f4 y c h rfl
 ·intro p hpm
  rcases ac9.mp hpm with h | h
  ·have h':p∈X.pn++pins:=h
   obtain⟨e,n,ne,nf,d⟩:=I.pin p h'
   have nfr:p.1∉tR X.stack:=fun z=>by
    rcases aa8.mp (I.stkSub _ z)with q | q
    ·exact ne q
    ·exact nf q
   have nex:p.1∉fp:=fun z=>by
    obtain⟨_,_,_,_,_,f5⟩:=f p.1 z;exact f5 p h' rfl
   exact⟨u.keep p.1 p.2 e n nfr nex,u.free p.1 p.2 e n nex,ac6 (ab0 (ab7 e) hC),nfr,d⟩
  ·exact hp p h
 ·show(List.replicate own.length none++js.map fun j=>Z.getD j none).length=(own++js.map fun j=>X.N.getD j "").length
  simp
theorem aJ.track{D:Addr}{ys:List V}{its:List Value}{n:Nat}(I:aJ X pins Z H s)(hn:H D=none)(ho:s.heap.get? D=some { cls:=.type "list",data:=.seq its.toArray n })(r:aQ ys its)(hz:ys.length<=sizeLine)
  (h1:D∈X.ex\/X.Zh.heap.objs.size<=D) (hL:D≠X.env.locals) (h2:∀x c,X.env.cells.lookup x=some c->c≠D) (h3:∀p∈X.pn++pins,p.1≠D):aJ X pins Z (upd H D (.lst ys)) s:=by
 have ne:∀b o,H b=some o->b≠D:=fun b o e=>au e hn
 refine I.step (h':=s.heap) (g':=s.gens) (d':=s.drawn) (t':=s.toks) (ch:=[D]) (fun b hb=>?_) (fun b o _ _ _ e _=>e) (fun b o _ _ _ e _=>⟨o.slots,e⟩) (fun b o hc _ n=>?_)
  (fun b o _ e=>⟨o,e⟩) (fun b xs e=>?_) (fun b o u e=>?_) (fun b ps e=>⟨#[],?_⟩) (fun _ z=>z) (fun b u e=>?_) I.bare
 ·have e:b=D:=by simpa using hb
  subst e;exact⟨h1,hL,h2,h3⟩
 ·rw [aj (fun z=>hc (by simp [z]))];exact n
 ·rw [aj (ne _ _ e)];exact e
 ·rw [aj (ne _ _ e)];exact e
 ·rw [aj (ne _ _ e),e];simp
 ·by_cases hb:b=D
  ·subst hb
   rw [ag]at e;cases e;exact⟨hz,its,n,r,ho⟩
  ·rw [aj hb]at e
   exact(I.hok b u e).stay (fun c v _ q=>q) (fun c q=>by rw [aj (ne _ _ q)];exact q) fun c xs q=>by rw [aj (ne _ _ q)];exact q
end
structure FO(X:Cx)(pins:List (Addr×Obj))(C:Addr):Prop where
 ne:C≠X.env.locals
 old:C∈X.ex\/X.Zh.heap.objs.size<=C
 cells:∀x c,X.env.cells.lookup x=some c->c≠C
 pin:∀p∈X.pn++pins,p.1≠C
theorem FO.go{h':Heap}(o:FO X pins C)(I:aJ X pins Z H s)(hn:H C=none)(sb:Heap.SameBut C s.heap h'):aJ X pins Z H { s with heap:=h' }:=
 I.turned (t':=s.toks) (fun b q hb e=>(sb.2 b hb).trans e) hn o.ne o.old o.cells o.pin
section
variable {prog:Program} {R:Result->Shared->Prop}
theorem rZ{elt target iter:Expr}{ifs:List Expr}{it acc:Value}(I:Nat->Shared->Prop)
  (turn:∀n s,I n s->wpAny (model prog w) A (pyNext it) (fun r Zg=>match r with
   | none=>R (.ok .next) Zg
   | some v=>wpAny (model prog w) A (letOwnedTupleGo target it v) (fun _ Yn=>wpAny (model prog w) A (assign target env v) (fun _ Zw=>
     wpAny (model prog w) A (forIn ifs true fun c r=>if r=true then do let ok <-isTrue c env (eval c env);pure (ForInStep.yield ok)else pure (ForInStep.yield r)) (fun ok Zn=>
      if ok=true then wpAny (model prog w) A (eval elt env) (fun x Z8=>
       wpAny (model prog w) A (call (.builtin "list.append") [acc,x]) (fun _ Yo=>∃m,m < n/\I m Yo) (notedBy (model prog w) A env fun e s'=>R (.error e) s') Z8) (notedBy (model prog w) A env fun e s'=>R (.error e) s') Zn
      else ∃m,m < n/\I m Zn) (notedBy (model prog w) A env fun e s'=>R (.error e) s') Zw) (notedBy (model prog w) A env fun e s'=>R (.error e) s') Yn) (notedBy (model prog w) A env fun e s'=>R (.error e) s') Zg)
    (notedBy (model prog w) A env fun e s'=>R (.error e) s') s)
  (n:Nat) (h:I n s) :
  codeAny (model prog w) A (.compLoop (.ListComp elt [⟨target,iter,ifs,0⟩] scope pos) 0 it acc env) R s:=by
 refine codeAny_loop rfl I (fun n s hI=>?_) n h;show wpAny _ A ((compTurn (.ListComp elt [⟨target,iter,ifs,0⟩] scope pos) 0 it acc env).onRaise (fun x=>do noteFrame x env;theTreesLotGoes x)) _ _ s;refine wpAny_noted ?_;rw [compTurn_list];refine aa2 (am5 (aa2 (af5 (turn n s hI) (fun r Zg Zl=>?_) fun _ _ h'=>h')))
 cases r with
 | none=>exact aa7 Zl
 | some v=>
  refine aa2 (af5 Zl (fun _ Yn Yw=>?_) fun _ _ h'=>h');refine aa2 (af5 Yw (fun _ Zw Zu=>aa2 (af5 Zu (fun ok Zn Z0=>?_) fun _ _ h'=>h')) fun _ _ h'=>h')
  cases ok with
  | false=>exact aa7 ⟨rfl,Z0⟩
  | true=>
   exact aa2 (aa2 (af5 Z0 (fun x Z8 Zk=>aa2 (af5 Zk (fun _ Yo Zj=>aa7 (aa7 ⟨rfl,Zj⟩)) fun _ _ h'=>h')) fun _ _ h'=>h'))
end
def CN(X:Cx)(ifs:List Expr)(t:TT):Prop:=
 ∀(pins:List (Addr×Obj)) (s:Shared) (Z:St) (H:Hp) (Q:Bool->Hp->Prop),aJ X pins Z H s->t Z H Q->
  wpAny (model X.prog X.w) X.A (forIn ifs true fun c r=>if r=true then do let ok <-isTrue c X.env (eval c X.env);pure (ForInStep.yield ok)else pure (ForInStep.yield r)) (TP X pins Z Q) X.xe s
def z6:TT:=fun _ H Q=>Q true H
theorem cJ:CN X [] z6:=fun pins s Z H Q I h=>wpAny_tests_nil ⟨H,I,h⟩
theorem BH{c:Expr}{t:TT}(h:PT X c t):CN X [c] t:=fun pins s Z H Q I q=>wpAny_tests_one (h pins s Z H Q I q)
def DQ(n:Nat)(js:List Nat)(wi:TI)(g:TG)(tt:TT)(te:TE)(Z:St)(H:Hp)(F:List V->Hp->Prop):Prop:=wi Z H fun J H1=>∃W:Nat->Nat->List V->Hp->Prop,(∃m,W 0 m [] H1)/\∀i m ys H,W i m ys H->
 (J.stop i H/\F ys H)\/
 (J.go i H/\ys.length < sizeLine/\∃N:List V->Hp->Prop,(∀ys' H',N ys' H'->∃m',m' < m/\W (i+1) m' ys' H')/\∀x H',J.yld i H x H'->g x (Zt n js Z) H' fun Zf H2=>tt Zf H2 fun b H3=>if b=true then te Zf H3 fun y H4=>N (ys++[y]) H4 else N ys H3)
def tM(n:Nat)(js:List Nat)(wi:TI)(g:TG)(tt:TT)(te:TE):TE:=fun Z H Q=>DQ n js wi g tt te Z H fun ys H=>∀p,H p=none->Q (.ref p) (upd H p (.lst ys))
section
variable {own:List Str} {iter elt:Expr} {ifs:List Expr} {wi:TI} {tt:TT} {te:TE}
abbrev kD:Value->Shared->Prop:=fun _ _=>False
theorem mX{H2:Hp}{s2:Shared}{it:Addr}{fp:List Addr}{tn:Nat->Heap->Prop}{J:It}{RR:Value->Addr->Result->Shared->Prop}
  (hc:X.calm=true) (ok:bw X scope ox js)
  (hg:∀C s H ex pn,PG (pK X scope ox own js C s H ex pn kD) tg g) (ht:∀C s H ex pn,CN (pK X scope ox own js C s H ex pn kD) ifs tt) (he:∀C s H ex pn,PE (pK X scope ox own js C s H ex pn kD) elt te)
  (I2:aJ X pins Z H2 s2) (T:oI X.prog X.w X.K tg J fp it tn) (st2:tn 0 s2.heap) (f2:∀b∈fp,l6 X pins H2 b) {W:Nat->Nat->List V->Hp->Prop} {m0:Nat} (w0:W 0 m0 [] H2)
  (turn:∀i m ys H,W i m ys H->(J.stop i H/\F ys H)\/
   (J.go i H/\ys.length < sizeLine/\∃N:List V->Hp->Prop,(∀ys' H',N ys' H'->∃m',m' < m/\W (i+1) m' ys' H')/\∀x H',J.yld i H x H'->g x (Zt own.length js Z) H' fun Zf H2=>tt Zf H2 fun b H3=>if b=true then te Zf H3 fun y H4=>N (ys++[y]) H4 else N ys H3))
  (hRR:∀(D C:Addr) (s':Shared) (H':Hp) (ys:List V) (m:Str->Option Value),F ys H'->H' D=none->aJ X pins Z (upd H' D (.lst ys)) s'->s'.heap.Ns C m->
   FO X pins C->(upd H' D (.lst ys)) C=none->RR (.ref D) C (.ok .next) s') :
  wpAny (model X.prog X.w) X.A (newList []) (fun acc Zn=>wpAny (model X.prog X.w) X.A (newFunctionEnv scope X.env.globals (fC X.env.cells scope.names []) [] X.env.qual none .none (some X.env)) (fun cenv Z8=>
   codeAny (model X.prog X.w) X.A (.compStart (.ListComp elt [⟨tg,iter,ifs,0⟩] scope pos) 0 (.ref it) acc { cenv with scope:=relabel scope X.env }) (RR acc cenv.locals) Z8) E Zn) E s2:=by
 refine ag1 (mj ok.cell ok.one fun Zl up Z9 Ya=>?_);dsimp only at up Z9 Ya |-;generalize hP:s2.heap.push { cls:=.type "list",dict:=none,data:=.seq ([]:List Value).toArray }=P2 at up Z9 Ya |-
 have hC:P2.objs.size=s2.heap.objs.size+1:=by rw [<-hP,ae7]
 have hDC:s2.heap.objs.size≠P2.objs.size:=by rw [hC];exact ac6 (am2 _)
 have hCle:s2.heap.objs.size<=P2.objs.size:=by rw [hC];exact am7 _
 have below:∀b,b < s2.heap.objs.size->b≠P2.objs.size/\b≠s2.heap.objs.size:=fun b hb=>⟨by rw [hC];exact ac6 (al4 hb),ac6 hb⟩;have old:∀b o,s2.heap.get? b=some o->Zl.get? b=some o:=fun b o e=>up b o (hP▸aa4 _ e);have hacc:Zl.get? s2.heap.objs.size=some { cls:=.type "list",data:=.seq ([]:List Value).toArray 0 }:=up _ _ (hP▸ab3 _ rfl);generalize hDe:s2.heap.objs.size=D at hacc hDC hCle hC below;generalize hCe:P2.objs.size=C at Z9 Ya hDC hCle hC below |-
 have fo:∀b∈fp,∃o,s2.heap.get? b=some o:=fun b hb=>let ⟨o,e,_⟩:=T.obj _ _ st2 b hb;⟨o,e⟩
 have fD:∀b∈fp,b≠D/\b≠C/\C+1≠b:=fun b hb=>by
  obtain⟨o,e⟩:=fo b hb;have lt:b < D:=hDe▸ab7 e
  have:=below b lt
  exact⟨this.2,this.1,fun z=>ai7.mpr (ao4 hCle) (show C+1 < D by rw [z];exact lt)⟩
 have H2C:H2 C=none:=I2.hok.fresh (by rw [hDe];exact hCle);have H2c:H2 (C+1)=none:=I2.hok.fresh (by rw [hDe];exact ao4 hCle);have H2D:H2 D=none:=I2.hok.fresh (by rw [hDe];exact aa9 _)
 have stkD:D∉tR X.stack:=fun z=>by
  have h1:=I2.nofs (a:=D) (by rw [hDe];exact aa9 _);rcases aa8.mp (I2.stkSub _ z)with q | q
  ·have:=I2.lt
   rw [<-q,hDe]at this;exact ah1 _ this
  ·exact h1 q
 have neLoc:D≠X.env.locals/\C≠X.env.locals:=by
  have h1:=I2.lt;rw [hDe]at h1;exact⟨ai8 h1,ai8 (ab0 h1 hCle)⟩
 have cellLt:∀x c,X.env.cells.lookup x=some c->c < D:=fun x c e=>by
  obtain⟨v,z⟩:=I2.cell x c e;rw [<-hDe];exact z.lt
 have hclx:∀{s':Shared} {H':Hp} {p Zc},aJ (pK X scope ox own js C s2 H2 fp (X.pn++pins) kD) p Zc H' s'->ox=[]\/((∃v,s'.heap.IsCell (C+1) v)/\H' (C+1)=none):=fun {s' H' p Zc} J=>by
  cases ox with
  | nil=>exact .inl rfl
  | cons y r=>
   have e:=qH (C:=C) (cl:=fC X.env.cells scope.names []) (ox:=y::r) (.head _);exact .inr ⟨J.cell y _ e,J.freeC y _ e⟩
 have cellNe:∀y c,(nB ox C++fC X.env.cells scope.names []).lookup y=some c->c≠D:=fun y c e=>by
  rcases ok.sub I2 e with⟨_,h⟩ | h
  ·rw [h]
   exact ai8 (Nat.lt_succ_of_le hCle)
  ·exact ac6 (cellLt y c h)
 have pinLt:∀p∈X.pn++pins,p.1 < D:=fun p hp=>by rw [<-hDe];exact ab7 (I2.pin p hp).1
 have hs0:X.Zh.heap.objs.size<=D:=by rw [<-hDe];exact I2.sz
 have start:∀{s':Shared} {H':Hp} {m:Str->Option Value} {o:Obj},s'.os=s2.os->AllBare s'.gens->Un (tR X.stack) fp H2 H' s2.heap s'.heap->s'.heap.Ns C m->jC X.prog X.w H' s'.heap->H' C=none->(ox=[]\/((∃v,s'.heap.IsCell (C+1) v)/\H' (C+1)=none))->s'.heap.get? D=some o->H' D=none->(∀v,o.data≠.cell v)->
   aJ (pK X scope ox own js C s2 H2 fp (X.pn++pins) kD) [(D,o)] (Zt own.length js Z) H' s':=fun {s' H' m o} a1 a2 a3 a4 a5 a6 b1 a7 a8 a9=>
  yF ok I2 (by rw [hDe];exact hCle) f2 fo a1 a2 a3 a4 a5 a6 b1 fun p hp=>by
   have e:p=(D,o):=by simpa using hp
   subst e;exact⟨a7,a8,hDC,stkD,a9⟩
 have fpC:∀{H':Hp} {o:Obj},(∀b∈fp,H' b=none)->∀b∈fp,l6 (pK X scope ox own js C s2 H2 fp (X.pn++pins) kD) [(D,o)] H' b:=fun {H' o} hn b hb=>by
  obtain⟨_,q1,q2,q3,q4,q5⟩:=f2 b hb;refine⟨hn b hb,(fD b hb).2.1,fun z=>?_,.inl hb,fun y c e=>?_,fun p hp=>?_⟩
  ·rcases aa8.mp (I2.stkSub b z)with e | e
   ·exact q1 e
   ·exact q2 e
  ·rcases ok.sub I2 e with⟨_,h⟩ | h
   ·rw [h]
    exact(fD b hb).2.2
   ·exact q4 y c h
  ·rcases ac9.mp hp with h | h
   ·exact q5 p h
   ·have e:p=(D,o):=by simpa using h
    subst e;exact(fD b hb).1.symm
 have nocell:∀(its:Array Value) (n:Nat) (v:Option Value),({ cls:=.type "list",data:=.seq its n }:Obj).data≠.cell v:=fun _ _ _ z=>by cases z
 have loop:∀Zn:Shared,Zn={ s2 with heap:=Zl }->
   codeAny (model X.prog X.w) X.A (.compLoop (.ListComp elt [⟨tg,iter,ifs,0⟩] scope pos) 0 (.ref it) (.ref D) (compEnvC scope (nB ox C++fC X.env.cells scope.names []) C X.env)) (RR (.ref D) C) Zn:=by
  rintro Zn rfl
  refine rZ (fun n s'=>∃i ys its k H',aJ (pK X scope ox own js C s2 H2 fp (X.pn++pins) kD) [(D,{ cls:=.type "list",data:=.seq (its:List Value).toArray k })] (Zt own.length js Z) H' s'/\tn i s'.heap/\(∀b∈fp,H' b=none)/\
   W i n ys H'/\aQ ys its/\ys.length<=sizeLine) ?_ m0 ⟨0,[],[],0,H2,start rfl I2.bare (Un.kept old) Z9 (I2.hok.kept old) H2C (Ya.imp id fun z=>⟨z,H2c⟩) hacc H2D (nocell _ _),T.keep _ _ _ st2 (fun b _ o e=>old b o e),fun b hb=>(f2 b hb).1,w0,.nil,ad3 _⟩
  rintro n s3 ⟨i,ys,its,k,H3,I3,st3,fr3,w3,rv,hz⟩;rcases turn i n ys H3 w3 with⟨stop,q⟩ | ⟨go,hlt,N,hN,step⟩
  ·refine af5 (T.done (pK X scope ox own js C s2 H2 fp (X.pn++pins) kD) rfl rfl rfl hc i _ s3 _ H3 kD I3 (fpC fr3) st3 stop) (fun r s4 zq0=>?_) fun _ _ f=>f.elim
   obtain⟨hr,I4⟩:=zq0;subst hr;obtain⟨zD,nD,_⟩:=I4.pin (D,_) (ac7 _ ad8);obtain⟨m,hm,_⟩:=I4.loc;have I5:aJ X pins Z H3 s4:=I2.call' I4.os I4.base I4.hok I4.bare fun b hb=>⟨(f2 b hb).2.2.2.1,(f2 b hb).2.1,(f2 b hb).2.2.2.2.1,(f2 b hb).2.2.2.2.2⟩;have I6:aJ X pins Z (upd H3 D (.lst ys)) s4:=I5.track nD zD rv hz (.inr hs0) neLoc.1 (fun x c e=>ac6 (cellLt x c e)) fun p hp=>ac6 (pinLt p hp);have nC:H3 C=none:=I4.free;exact hRR D C s4 H3 ys m q nD I6 hm ⟨neLoc.2,.inr (ab9 hs0 hCle),fun x c e=>ac6 (ab0 (cellLt x c e) hCle),fun p hp=>ac6 (ab0 (pinLt p hp) hCle)⟩ (by rw [aj (Ne.symm hDC)];exact nC)
  ·refine af5 (T.item (pK X scope ox own js C s2 H2 fp (X.pn++pins) kD) rfl rfl rfl hc i _ s3 _ H3 kD I3 (fpC fr3) st3 go) (fun r s4 zq0=>?_) fun _ _ f=>f.elim
   obtain⟨u,hr,h4⟩:=zq0;subst hr;refine af5 h4 (fun _ s5 zq0=>?_) fun _ _ f=>f.elim;obtain⟨x',H5,I5,r5,y5,st5,fr5⟩:=zq0;have I5':=I5.pinned (fpC fr5) (T.obj _ _ st5);refine af5 (hg _ _ _ _ _ _ s5 _ H5 x' u _ I5' r5 (step x' H5 y5)) (fun _ s6 zq0=>?_) fun _ _ f=>f.elim;obtain⟨Zz,H6,I6,q6⟩:=zq0;refine af5 (ht _ _ _ _ _ _ s6 Zz H6 _ I6 q6) (fun b s7 zq0=>?_) fun _ _ f=>f.elim;obtain⟨H7,I7,q7⟩:=zq0
   have back:∀{s8:Shared} {H8:Hp} {m':Nat} {ys':List V} {its':List Value} {k':Nat},aJ (pK X scope ox own js C s2 H2 fp (X.pn++pins) kD) [] Zz H8 s8->s8.heap.get? D=some { cls:=.type "list",data:=.seq its'.toArray k' }->H8 D=none->
     (∀b∈fp,∀o,s5.heap.get? b=some o->s8.heap.get? b=some o)->(∀b∈fp,H8 b=none)->W (i+1) m' ys' H8->aQ ys' its'->ys'.length<=sizeLine->
     ∃i ys its k H',aJ (pK X scope ox own js C s2 H2 fp (X.pn++pins) kD) [(D,{ cls:=.type "list",data:=.seq (its:List Value).toArray k })] (Zt own.length js Z) H' s8/\tn i s8.heap/\(∀b∈fp,H' b=none)/\W i m' ys H'/\aQ ys its/\ys.length<=sizeLine:=
    fun {s8 H8 m' ys' its' k'} J zD nD kf fr w' rv' hz'=>by
     obtain⟨m,hm,_⟩:=J.loc;exact⟨i+1,ys',its',k',H8,start J.os J.bare J.base hm J.hok J.free (hclx J) zD nD (nocell _ _),T.keep _ _ _ st5 kf,fr,w',rv',hz'⟩
   cases b with
   | false=>
    rw [if_neg aa6];rw [if_neg aa6]at q7;obtain⟨m',hm',w'⟩:=hN _ _ q7;have pD:=I7.pin (D,_) (ac7 _ (ah2 _ ad8));refine⟨m',hm',back (I7.pins_of (pins':=[]) fun p hp=>nomatch hp) pD.1 pD.2.1 (fun b hb o e=>(I7.pin (b,o) (ac7 _ (ac7 _ (eu hb e)))).1) (fun b hb=>?_) w' rv hz⟩;obtain⟨o,e,_⟩:=T.obj _ _ st5 b hb;exact(I7.pin (b,o) (ac7 _ (ac7 _ (eu hb e)))).2.1
   | true=>
    rw [if_pos rfl];rw [if_pos rfl]at q7;refine af5 (he _ _ _ _ _ _ s7 Zz H7 _ I7 q7) (fun yv s8 zq0=>?_) fun _ _ f=>f.elim;obtain⟨y,H8,I8,r8,q8⟩:=zq0;obtain⟨m',hm',w'⟩:=hN _ _ q8;have pD:=I8.pin (D,_) (ac7 _ (ah2 _ ad8));refine append_at (hsz:=by rw [ab1,<-rv.length];exact hz) pD.1 fun h9 sb9 z9=>?_;have I8':aJ (pK X scope ox own js C s2 H2 fp (X.pn++pins) kD) [] Zz H8 s8:=I8.pins_of fun p hp=>nomatch hp
    have I9:aJ (pK X scope ox own js C s2 H2 fp (X.pn++pins) kD) [] Zz H8 { s8 with heap:=h9 }:=I8'.turned (t':=s8.toks) (it:=D) (fun b o hb e=>(sb9.2 b hb).trans e) pD.2.1 hDC (.inr (by show s2.heap.objs.size<=D;rw [hDe];exact aa9 _))
     cellNe fun p hp=>by
      rcases ac9.mp hp with h | h
      ·exact ac6 (pinLt p h)
      ·cases h
    refine⟨m',hm',back (its':=its++[yv]) (k':=k+1) I9 (by rw [z9];simp) pD.2.1 (fun b hb o e=>(sb9.2 b (fD b hb).1).trans (I8.pin (b,o) (ac7 _ (ac7 _ (eu hb e)))).1) (fun b hb=>?_) w' (rv.append (.cons r8 .nil)) (by simp;omega)⟩;obtain⟨o,e,_⟩:=T.obj _ _ st5 b hb;exact(I8.pin (b,o) (ac7 _ (ac7 _ (eu hb e)))).2.1
 exact codeAny_compStart_list (loop _ rfl) (T.self X.A 0 _ _ _ (T.keep _ _ _ st2 (fun b _ o e=>old b o e)) (loop _ rfl))
theorem sU(hc:X.calm=true)(hi:PI X tg iter wi)(ok:bw X scope ox js)
  (hg:∀C s H ex pn,PG (pK X scope ox own js C s H ex pn kD) tg g) (ht:∀C s H ex pn,CN (pK X scope ox own js C s H ex pn kD) ifs tt) (he:∀C s H ex pn,PE (pK X scope ox own js C s H ex pn kD) elt te)
  (hs:∀x,foldedSetIterable iter X.env x=pure x:=by intro _;rfl):PE X (.ListComp elt [⟨tg,iter,ifs,0⟩] scope pos) (tM own.length js wi g tt te):=by
 intro pins s Z H Q I h;rw [eval_ListComp];refine wpAny_comprehension_free (use:=none) rfl hs (jb (ok.clos I)) ok.kind ok.names (ck (hi pins s Z H _ I h) fun v s1 h1=>ck h1 fun itv s2 h2=>?_);obtain⟨it,fp,tn,J,H2,e,I2,T,st2,f2,W,⟨m0,w0⟩,turn⟩:=h2;subst e;refine mX (RR:=fun acc C=>compPost (model X.prog X.w) X.A X.xe none (EP X pins Z Q) acc C) hc ok hg ht he I2 T st2 f2 w0 turn ?_;intro D C s' H' ys m q nD I6 hm o nC;exact⟨m,hm,fun h' sb=>⟨.ref D,_,o.go I6 nC sb,rfl,q D nD⟩⟩
theorem c8(hc:X.calm=true)(hi:PI X tg iter wi)(ok:bw X scope [] js)
  (hg:∀C s H ex pn,PG (CP X scope own js C s H ex pn kD) tg g) (ht:∀C s H ex pn,CN (CP X scope own js C s H ex pn kD) ifs tt) (he:∀C s H ex pn,PE (CP X scope own js C s H ex pn kD) elt te)
  (hs:∀x,foldedSetIterable iter X.env x=pure x:=by intro _;rfl):PE X (.ListComp elt [⟨tg,iter,ifs,0⟩] scope pos) (tM own.length js wi g tt te):=sU hc hi ok hg ht he hs
theorem zk(hc:X.calm=true)(hi:PI X tg iter wi)(ok:bw X scope [x] js)
  (hg:∀C s H ex pn,PG (FU X scope x js C s H ex pn kD) tg g) (ht:∀C s H ex pn,CN (FU X scope x js C s H ex pn kD) ifs tt) (he:∀C s H ex pn,PE (FU X scope x js C s H ex pn kD) elt te)
  (hs:∀x,foldedSetIterable iter X.env x=pure x:=by intro _;rfl):PE X (.ListComp elt [⟨tg,iter,ifs,0⟩] scope pos) (tM 1 js wi g tt te):=sU hc hi ok hg ht he hs
theorem nQ{i:Nat}{py spos:Pos}(hN:X.N.Nodup)(hix:X.N[i]?=some x)(hx:Ea X.env.scope x)(hc:X.calm=true)(hi:PI X tg iter wi)(ok:bw X scope [] js)
  (hg:∀C s H ex pn,PG (CP X scope own js C s H ex pn kD) tg g) (ht:∀C s H ex pn,CN (CP X scope own js C s H ex pn kD) ifs tt) (he:∀C s H ex pn,PE (CP X scope own js C s H ex pn kD) elt te)
  (hsw:swapsWith (.ListComp elt [⟨tg,iter,ifs,0⟩] scope pos) (some (.Name x py)) spos.line X.env=pure true)
  (hf:X.fn x=true\/X.env.scope.names.lookup x=some .local:=by first | exact .inl rfl | exact .inr rfl | assumption)
  (hs:∀x,foldedSetIterable iter X.env x=pure x:=by intro _;rfl):PS X (.Assign [.Name x py] (.ListComp elt [⟨tg,iter,ifs,0⟩] scope pos) spos) (vo (tM own.length js wi g tt te) (g8 i)):=by
 intro pins s Z H Dd I h;rw [exec_Assign_Name_used _ _ _ _ hsw];refine aa2 (am5 (aa2 ?_));show wpAny _ X.A (do let _ <-comprehension (.ListComp elt [⟨tg,iter,ifs,0⟩] scope pos) scope X.env _ (newList []) false (eval iter X.env) (some (assign (.Name x py) X.env))) _ _ s
 refine aa2 (af5 (wpAny_comprehension_free (use:=some (assign (.Name x py) X.env)) (Q:=fun _ s'=>SP X pins Dd .next s') rfl hs (jb (ok.clos I)) ok.kind ok.names
  (ck (hi pins s Z H _ I h) fun v s1 h1=>ck h1 fun itv s2 h2=>?_)) (fun _ s' hq=>aa7 (aa7 hq)) fun _ _ e=>e)
 obtain⟨it,fp,tn,J,H2,e,I2,T,st2,f2,W,⟨m0,w0⟩,turn⟩:=h2;subst e;refine mX (RR:=fun acc C=>compPost (model X.prog X.w) X.A X.xe (some (assign (.Name x py) X.env)) (fun _ s'=>SP X pins Dd .next s') acc C) hc ok hg ht he I2 T st2 f2 w0 turn ?_;intro D C s' H' ys m q nD I6 hm o nC;show wpAny _ X.A (assign (.Name x py) X.env (.ref D)) _ _ _;refine wpAny_assign_Name (p7 I6 hN hix hx (v:=.ref D) rfl (fun s2' I7 zq0=>?_) hf);obtain⟨a,sa,ha⟩:=zq0
 have hCa:C≠a:=by
  rcases ha with e | e
  ·rw [e];exact o.ne
  ·exact fun z=>o.cells x a e z.symm
 exact⟨m,hm.sameBut sa hCa,fun h' sb=>⟨_,_,o.go I7 nC sb,q D nD⟩⟩
end
def Aw(X:Cx)(tg:Expr)(r:V->Hp->(It->Hp->Prop)->Prop):Prop:=
 ∀(pins:List (Addr×Obj)) (s:Shared) (Z:St) (H:Hp) (x:V) (v:Value) (R:It->Hp->Prop),aJ X pins Z H s->aS x v->r x H R->
  wpAny (model X.prog X.w) X.A (pyIter v) (Ec X pins Z tg R) X.xe s
def Ay(z:Str):It:=⟨fun i _=>i < z.length,fun i H x H'=>H'=H/\∃c,z.cps[i]?=some c/\x=.str ⟨#[c]⟩,fun i _=>i=z.length⟩
theorem qe{P:Program}(hh:A.handled=none)(I:Addr)(z:Str)(t:Tok){ty:String}(hty:ty="str_ascii_iterator"\/ty="str_iterator"):
  Walks P w A I [I] [I] z.cps.size (SignAt z) (fun i h=>h.IsStrIter I ty z t i):=by
 rcases hty with e | e
 ·subst e;exact Walks.strAscii hh I z t
 ·subst e;exact Walks.strWide hh I z t
theorem Aj{P:Program}(z:Str)(t:Tok)(it:Addr){ty:String}(hty:ty="str_ascii_iterator"\/ty="str_iterator"):
  oI P w K tg (Ay z) [it] it (fun i h=>h.IsStrIter it ty z t i) where
 mem:=by simp
 obj:=fun i h st b hb=>by
  have e:b=it:=by simpa using hb
  subst e;obtain⟨o,e,c,d⟩:=st;exact⟨o,e,fun v z=>by rw [d]at z;cases z⟩
 keep:=fun i h h' st k=>by
  obtain⟨o,e,r⟩:=st;exact⟨o,k it (by simp) o e,r⟩
 item:=by
  intro X hP hw hK hc i pins s Z H E I hf st hg;subst hP hw hK;obtain⟨f0,f1,f2,f3,f4,f5⟩:=hf it (by simp);refine(qe (I.ok.hd hc) it z t hty).item i s _ _ hg st fun v h' tk hv st' kk=>?_;obtain⟨c,u,hcz,rfl⟩:=hv;have I1:aJ X pins Z H { s with heap:=h',toks:=tk }:=I.turned (fun b o hb e=>kk b o (by simpa using hb) e) f0 f1 f3 f4 f5;obtain⟨o,e,cl,d⟩:=id st'
  refine⟨_,rfl,pN (s:={ s with heap:=h',toks:=tk }) (n:=ty) e cl d (by rcases hty with q | q<;>(subst q;decide)) ⟨.str ⟨#[c]⟩,H,I1,⟨u,rfl⟩,⟨rfl,c,hcz,rfl⟩,st',fun b hb=>(hf b hb).1⟩⟩
 done:=by
  intro X hP hw hK hc i pins s Z H E I hf st hg;subst hP hw hK;obtain⟨f0,f1,f2,f3,f4,f5⟩:=hf it (by simp);have e:i=z.length:=hg;subst e;exact(qe (I.ok.hd hc) it z t hty).done s _ _ st fun h' tk kk=>⟨rfl,I.turned (fun b o hb e=>kk b o (by simpa using hb) e) f0 f1 f3 f4 f5⟩
 self:=fun A i s Q E st h=>by
  rcases hty with e | e
  ·subst e;exact wpAny_pyIter_striter_ascii st h
  ·subst e;exact wpAny_pyIter_striter_wide st h
theorem Aw.or{r':V->Hp->(It->Hp->Prop)->Prop}(h:Aw X tg r)(h':Aw X tg r'):Aw X tg (fun x H R=>r x H R\/r' x H R):=by
 intro pins s Z H x v R I rx q;rcases q with q | q
 ·exact h pins s Z H x v R I rx q
 ·exact h' pins s Z H x v R I rx q
theorem it_list:Aw X tg (fun x H R=>∃a,x=.ref a/\(∃xs,aL X.K H a xs)/\R (xW X.K a) H):=by
 intro pins s1 Z H1 x v R I1 r1 q1;obtain⟨a,e,⟨xs,hq⟩,q⟩:=q1;subst e;cases r1;obtain⟨its,rv,p,hz⟩:=I1.list hq;refine al5 p.isList ?_;refine⟨s1.heap.objs.size,[s1.heap.objs.size],_,_,H1,rfl,I1.kept (t':=s1.toks) fun b o e=>aa4 _ e,xK a _,⟨_,ab3 _ rfl,rfl,rfl⟩,fun b hb=>?_,q⟩
 have e:b=s1.heap.objs.size:=by simpa using hb
 subst e;exact I1.fpOk (aa9 _) (I1.hok.fresh (aa9 _))
theorem it_tup:Aw X tg (fun x H R=>∃a,x=.ref a/\(∃xs,bH X.K H a xs)/\R (Ce X.K a) H):=by
 intro pins s1 Z H1 x v R I1 r1 q1;obtain⟨a,e,⟨xs,hq⟩,q⟩:=q1;subst e;cases r1;obtain⟨its,rv,p,hz⟩:=I1.tuple hq;refine wpAny_pyIter_tuple (show s1.heap.IsTuple a its.toArray from p) ?_;refine⟨s1.heap.objs.size,[s1.heap.objs.size],_,_,H1,rfl,I1.kept (t':=s1.toks) fun b o e=>aa4 _ e,vz a _,⟨_,ab3 _ rfl,rfl,rfl⟩,fun b hb=>?_,q⟩
 have e:b=s1.heap.objs.size:=by simpa using hb
 subst e;exact I1.fpOk (aa9 _) (I1.hok.fresh (aa9 _))
theorem CZ:Aw X tg (fun x H R=>∃z,x=.str z/\R (Ay z) H):=by
 intro pins s1 Z H1 x v R I1 r1 q1;obtain⟨z,e,q⟩:=q1;subst e;obtain⟨t,rfl⟩:=r1
 have fin:∀(o:Obj) (ty:String),(ty="str_ascii_iterator"\/ty="str_iterator")->(s1.heap.push o).IsStrIter s1.heap.objs.size ty z t 0->Ec X pins Z tg R (.ref s1.heap.objs.size) { s1 with heap:=s1.heap.push o }:=fun o ty hty st=>by
  refine⟨s1.heap.objs.size,[s1.heap.objs.size],_,_,H1,rfl,I1.kept (t':=s1.toks) fun b o e=>aa4 _ e,Aj z t _ hty,st,fun b hb=>?_,q⟩
  have e:b=s1.heap.objs.size:=by simpa using hb
  subst e;exact I1.fpOk (aa9 _) (I1.hok.fresh (aa9 _))
 cases ha:z.cps.all (· < 128)
 ·exact wpAny_pyIter_wide ha (fin _ _ (.inr rfl) ⟨_,ab3 _ rfl,rfl,rfl⟩)
 ·exact wpAny_pyIter_ascii ha (fin _ _ (.inl rfl) ⟨_,ab3 _ rfl,rfl,rfl⟩)
def BN(K:Frag):V->Hp->(It->Hp->Prop)->Prop:=fun x H R=>(∃a,x=.ref a/\(∃xs,aL K H a xs)/\R (xW K a) H)\/(∃a,x=.ref a/\(∃xs,bH K H a xs)/\R (Ce K a) H)\/∃z,x=.str z/\R (Ay z) H
theorem itA:Aw X tg (BN X.K):=it_list.or (it_tup.or CZ)
def Ft(r:V->Hp->(It->Hp->Prop)->Prop)(tl:TE):TI:=fun Z H R=>tl Z H fun x H1=>r x H1 R
theorem E5{l:Expr}{tl:TE}(hr:Aw X tg r)(hl:PE X l tl):PI X tg l (Ft r tl):=by
 intro pins s Z H R I h;exact ck (hl pins s Z H _ I h) fun v s1 ⟨x,H1,I1,r1,q1⟩=>hr pins s1 Z H1 x v R I1 r1 q1
theorem Dw{l:Expr}{tl:TE}(hl:PE X l tl):PI X tg l (Ft (BN X.K) tl):=E5 itA hl
theorem bN(h:aL K H a xs)(q:R (xW K a) H):BN K (.ref a) H R:=.inl ⟨a,rfl,⟨xs,h⟩,q⟩
theorem BP(h:bH K H a xs)(q:R (Ce K a) H):BN K (.ref a) H R:=.inr (.inl ⟨a,rfl,⟨xs,h⟩,q⟩)
theorem BO(q:R (Ay z) H):BN K (.str z) H R:=.inr (.inr ⟨z,rfl,q⟩)
theorem Fq{tb:TS}{D:jF}(Pv:Nat->St->Hp->Prop)(h0:Pv 0 Z H)
  (hs:∀i c Z H,z.cps.toList[i]?=some c->Pv i Z H->g (.str ⟨#[c]⟩) Z H fun Zf H2=>tb { D with nx:=Pv (i+1),ct:=Pv (i+1),bk:=D.nx } Zf H2) (hd:∀Z H,Pv z.length Z H->D.nx Z H) :
  ∃W:Nat->Nat->St->Hp->Prop,(∃m,W 0 m Z H)/\∀i m Z H,W i m Z H->
   ((Ay z).stop i H/\D.nx Z H)\/((Ay z).go i H/\∃N:St->Hp->Prop,(∀Zc H',N Zc H'->∃m',m' < m/\W (i+1) m' Zc H')/\∀x H',(Ay z).yld i H x H'->g x Z H' fun Zf H2=>tb { D with nx:=N,ct:=N,bk:=D.nx } Zf H2):=by
 refine⟨fun i m Z H=>m=z.length - i/\i<=z.length/\Pv i Z H,⟨z.length,by simp,ad3 _,h0⟩,?_⟩;rintro i m Z H ⟨rfl,hi,p⟩
 by_cases hlt:i < z.length
 ·refine .inr ⟨hlt,Pv (i+1),fun Zc H' p'=>⟨z.length - (i+1),by omega,rfl,hlt,p'⟩,fun x H' y=>?_⟩
  obtain⟨e,c,hc,e2⟩:=y;subst e e2;exact hs i c Z _ (by simpa using hc) p
 ·have e:i=z.length:=by omega
  subst e;exact .inl ⟨rfl,hd Z H p⟩
section
variable {n:Nat} {tt:TT} {te:TE}
abbrev vB(J:It)(n:Nat)(js:List Nat)(g:TG)(tt:TT)(te:TE)(Z:St)(H:Hp)(F:List V->Hp->Prop):Prop:=
 ∃W:Nat->Nat->List V->Hp->Prop,(∃m,W 0 m [] H)/\∀i m ys H,W i m ys H->(J.stop i H/\F ys H)\/
  (J.go i H/\ys.length < sizeLine/\∃N:List V->Hp->Prop,(∀ys' H',N ys' H'->∃m',m' < m/\W (i+1) m' ys' H')/\∀x H',J.yld i H x H'->g x (Zt n js Z) H' fun Zf H2=>tt Zf H2 fun b H3=>if b=true then te Zf H3 fun y H4=>N (ys++[y]) H4 else N ys H3)
abbrev gq(n:Nat)(js:List Nat)(g:TG)(tt:TT)(te:TE)(Z:St)(x:V)(ys:List V)(H:Hp)(N:List V->Hp->Prop):Prop:=
 g x (Zt n js Z) H fun Zf H2=>tt Zf H2 fun b H3=>if b=true then te Zf H3 fun y H4=>N (ys++[y]) H4 else N ys H3
theorem t6{lo:Int}{k:Nat}(Pv:Nat->List V->Hp->Prop)(hk:k<=sizeLine)(h0:Pv 0 [] H)(hn:∀i ys H,Pv i ys H->ys.length<=i)
  (hs:∀i ys H,i < k->Pv i ys H->gq n js g tt te Z (.int (lo+i)) ys H (Pv (i+1))) (hd:∀ys H,Pv k ys H->F ys H):vB (wm lo k) n js g tt te Z H F:=by
 refine⟨fun i m ys H=>m=k - i/\i<=k/\Pv i ys H,⟨k,by simp,ad3 _,h0⟩,?_⟩;rintro i m ys H ⟨rfl,hi,p⟩
 by_cases hlt:i < k
 ·refine .inr ⟨hlt,ad2 (hn i ys H p) (ab0 hlt hk),Pv (i+1),fun Zc H' p'=>⟨k - (i+1),by omega,rfl,hlt,p'⟩,fun x H' y=>?_⟩
  obtain⟨e,y⟩:=y;subst e y;exact hs i ys _ hlt p
 ·have e:i=k:=by omega
  subst e;exact .inl ⟨aa9 _,hd ys H p⟩
theorem wH(Pv:Nat->List V->Hp->Prop)(hk:xs.length<=sizeLine)(h0:Pv 0 [] H)(hn:∀i ys H,Pv i ys H->ys.length<=i)(hl:∀i ys H,Pv i ys H->aL K H a xs)
  (hs:∀i x ys H,xs[i]?=some x->Pv i ys H->gq n js g tt te Z x ys H (Pv (i+1))) (hd:∀ys H,Pv xs.length ys H->F ys H):vB (xW K a) n js g tt te Z H F:=by
 refine⟨fun i m ys H=>m=xs.length - i/\i<=xs.length/\Pv i ys H,⟨xs.length,by simp,ad3 _,h0⟩,?_⟩;rintro i m ys H ⟨rfl,hi,p⟩;have q:=hl i ys H p
 by_cases hlt:i < xs.length
 ·refine .inr ⟨⟨xs,xs[i],q,by simp [hlt]⟩,ad2 (hn i ys H p) (ab0 hlt hk),Pv (i+1),fun Zc H' p'=>⟨xs.length - (i+1),by omega,rfl,hlt,p'⟩,fun x H' y=>?_⟩
  obtain⟨e,y⟩:=y;subst e;exact hs i x ys _ (y xs q) p
 ·have e:i=xs.length:=by omega
  subst e;exact .inl ⟨⟨xs,q,aa9 _⟩,hd ys H p⟩
theorem yb(Pv:Nat->List V->Hp->Prop)(hk:z.length<=sizeLine)(h0:Pv 0 [] H)(hn:∀i ys H,Pv i ys H->ys.length<=i)
  (hs:∀i c ys H,z.cps.toList[i]?=some c->Pv i ys H->gq n js g tt te Z (.str ⟨#[c]⟩) ys H (Pv (i+1))) (hd:∀ys H,Pv z.length ys H->F ys H):vB (Ay z) n js g tt te Z H F:=by
 refine⟨fun i m ys H=>m=z.length - i/\i<=z.length/\Pv i ys H,⟨z.length,by simp,ad3 _,h0⟩,?_⟩;rintro i m ys H ⟨rfl,hi,p⟩
 by_cases hlt:i < z.length
 ·refine .inr ⟨hlt,ad2 (hn i ys H p) (ab0 hlt hk),Pv (i+1),fun Zc H' p'=>⟨z.length - (i+1),by omega,rfl,hlt,p'⟩,fun x H' y=>?_⟩
  obtain⟨e,c,hc,e2⟩:=y;subst e e2;exact hs i c ys _ (by simpa using hc) p
 ·have e:i=z.length:=by omega
  subst e;exact .inl ⟨rfl,hd ys H p⟩
end
theorem xG(xs:Array Nat):∀(n:Nat) (acc:Array Nat),((List.replicate n xs).foldl (· ++ ·) acc).size=acc.size+n * xs.size
 | 0,acc=>by simp
 | n+1,acc=>by
  rw [af0,ae6,xG xs n,ao5,an8];omega
theorem pM(xs:Array Nat):∀(n:Nat) (acc:Array Nat),((List.replicate n xs).foldl (· ++ ·) acc).toList=acc.toList++(List.replicate n xs.toList).flatten
 | 0,acc=>by simp
 | n+1,acc=>by
  rw [af0,ae6,pM xs n,af0,aj7,ah5,al3]
def rg(z:Str)(k:Int):Str:=if k < 1 then Str.empty else if (k == 1 || z.length == 0)=true then z else⟨(List.replicate k.toNat z.cps).foldl (· ++ ·) #[]⟩
theorem uQ(z:Str)(k:Int):(rg z k).cps.toList=(List.replicate k.toNat z.cps.toList).flatten:=by
 unfold rg
 split
 ·have e:k.toNat=0:=by omega
  rw [e];rfl
 ·split
  ·rename_i h1 h2
   rw [ak6]at h2;rcases h2 with h2 | h2
   ·have e:k=1:=by simpa using h2
    subst e;simp
   ·have e:z.cps.size=0:=by simpa [Str.length]using h2
    have e2:z.cps.toList=[]:=by
     rw [<-ag0];simpa using e
    rw [e2];simp
  ·simpa using pM z.cps k.toNat #[]
theorem tx(z:Str)(k:Int):(rg z k).length=k.toNat * z.length:=by
 have e:(rg z k).length=(rg z k).cps.toList.length:=by simp [Str.length]
 rw [e,uQ,qD];simp [Str.length]
section
variable {a b c:Expr} {ta tb tc:TE}
theorem op_mulB:cX X (binaryOp .Mult) (rI IntMulOk fun i j=>.int (i * j)):=ES fun _ _ _ _ _ _ _ hc q=>mul_int q hc
theorem op_mul_str:cX X (binaryOp .Mult) (fun x y H Q=>∃z k,x=.str z/\y=.int k/\(-1000000<=k/\k<=1000000/\z.length<=16)/\Q (.str (rg z k)) H):=by
 intro pins s Z H x y v u Q I rx ry h;obtain⟨z,k,rfl,rfl,⟨h2,h1,h3⟩,q⟩:=h;obtain⟨t,rfl⟩:=rx;obtain⟨t',rfl⟩:=ry;have hs:sizeLine=16777216:=sizeLine_eq;have hl:=tx z k;have hb:z.length * k.toNat<=16 * 1000000:=Nat.mul_le_mul h3 (by omega);rw [ap6]at hl;have fin:∀t' tk,EP X pins Z Q (.str (rg z k) t') { s with toks:=tk }:=fun t' tk=>⟨.str _,H,I.tok _,⟨t',rfl⟩,q⟩;refine P.mul_str ?_ (fun h4 h5=>?_) (fun h4 h5=>?_) ?_
 ·have e1:¬k < -(2 ^ 63:Int):=by omega
  have e2:¬k>=2 ^ 63:=by omega
  rw [decide_eq_false e1,decide_eq_false e2];rfl
 ·have h6:(16:Int)<=(2 ^ 63 - 1) / k:=by
   rw [Int.le_ediv_iff_mul_le (by omega)];omega
  omega
 ·unfold Builtin.Str.tooLong
  exact decide_eq_false (by omega)
 ·unfold rg at fin hl
  by_cases h4:k < 1
  ·rw [if_pos h4]at fin |-
   exact⟨by decide,fin _ _⟩
  ·rw [if_neg h4]at fin hl |-
   by_cases h5:(k == 1 || z.length == 0)=true
   ·rw [if_pos h5]at fin |-
    exact fin t s.toks
   ·rw [if_neg h5]at fin hl |-
    exact⟨by omega,fin _ _⟩
def vX:R2:=fun x y H Q=>rI IntMulOk (fun i j=>.int (i * j)) x y H Q\/(∃z k,x=.str z/\y=.int k/\(-1000000<=k/\k<=1000000/\z.length<=16)/\Q (.str (rg z k)) H)\/DE x y H Q
theorem opMul:cX X (binaryOp .Mult) vX:=op_mulB.or (op_mul_str.or Dr)
theorem zC:vX (.int i) (.int j) H Q↔IntMulOk i j/\Q (.int (i * j)) H:=by
 simp [vX,rI,DE]
def eT(K:Frag):R2:=fun x y H Q=>tS (fun i j=>.int (i+j)) x y H Q\/(∃i j,x=.str i/\y=.str j/\i.length+j.length<=sizeLine/\Q (.str (i++j)) H)\/BJ x y H Q\/vW K x y H Q
theorem opAdd:cX X (binaryOp .Add) (eT X.K):=op_add.or (op_add_str.or (op_cat.or Bt))
theorem nR:eT K (.int i) (.int j) H Q↔Q (.int (i+j)) H:=by
 simp [eT,tS,BJ,vW]
theorem zy{i j:Str}:eT K (.str i) (.str j) H Q↔i.length+j.length<=sizeLine/\Q (.str (i++j)) H:=by
 simp [eT,tS,BJ,vW]
theorem iz{l b:Addr}{zs:List V}(h1:H l=some (.lst xs))(h2:H b=some (.lst zs))(hz:xs.length+zs.length<=sizeLine)(q:∀p,H p=none->Q (.ref p) (upd H p (.lst (xs++zs)))):eT K (.ref l) (.ref b) H Q:=
 .inr (.inr (.inl ⟨l,b,xs,zs,rfl,rfl,h1,h2,hz,q⟩))
def DH:V->Option Int->Option Int->Hp->VK->Prop:=fun x lo hi H Q=>∃z,x=.str z/\z.length<=sizeLine/\Q (.str (Txt.slice z lo hi)) H
theorem DK:As X DH:=by
 intro pins s Z H x v vl vu lo hi sl Q I rx hs pl pu h;obtain⟨z,rfl,hz,q⟩:=h;obtain⟨t,rfl⟩:=rx;have fin:∀t' tk,EP X pins Z Q (.str (Txt.slice z lo hi) t') { s with toks:=tk }:=fun t' tk=>⟨.str _,H,I.tok _,⟨t',rfl⟩,q⟩;refine⟨"str",_,F.slot_str_getitem.lookup,typeIs_str _ _ _,?_⟩
 cases pl with
 | none=>cases pu with
  | none=>exact ai5 (l:=none) (u:=none) (st:=none) hs rfl (post_val_or_str ⟨ab9 (Txt.slice_le z _ _) hz,fun t' k=>fin t' k⟩)
  | int j u=>exact ai5 (l:=none) (u:=some (j,u)) (st:=none) hs rfl (post_val_or_str ⟨ab9 (Txt.slice_le z _ _) hz,fun t' k=>fin t' k⟩)
 | int i u=>cases pu with
  | none=>exact ai5 (l:=some (i,u)) (u:=none) (st:=none) hs rfl (post_val_or_str ⟨ab9 (Txt.slice_le z _ _) hz,fun t' k=>fin t' k⟩)
  | int j u'=>exact ai5 (l:=some (i,u)) (u:=some (j,u')) (st:=none) hs rfl (post_val_or_str ⟨ab9 (Txt.slice_le z _ _) hz,fun t' k=>fin t' k⟩)
def uO(K:Frag):V->Option Int->Option Int->Hp->VK->Prop:=fun x lo hi H Q=>DG K x lo hi H Q\/DI K x lo hi H Q\/DH x lo hi H Q
theorem slA:As X (uO X.K):=sl_list.or (sl_tup.or DK)
theorem DF{lo hi:Option Int}:uO K (.str z) lo hi H Q↔z.length<=sizeLine/\Q (.str (Txt.slice z lo hi)) H:=by
 simp [uO,DG,DI,DH]
theorem eE{a:Addr}{lo hi:Option Int}(h:aL K H a xs)(q:∀p,H p=none->Q (.ref p) (upd H p (.lst (kK xs lo hi)))):uO K (.ref a) lo hi H Q:=.inl ⟨a,xs,rfl,h,q⟩
theorem ixA:xR X (pe X.K):=C1
theorem E8:pe K (.str z) (.int i) H Q↔z.length<=sizeLine/\∃c,dC z.cps.toList i=some c/\Q (.str ⟨#[c]⟩) H:=by
 simp [pe,DA,DC,DB]
theorem bG{p:Addr}(h:aL K H p xs)(hv:dC xs i=some v)(q:Q v H):pe K (.ref p) (.int i) H Q:=.inl ⟨p,xs,i,v,rfl,rfl,h,hv,q⟩
theorem aR{p:Addr}(h:bH K H p xs)(hv:dC xs i=some v)(q:Q v H):pe K (.ref p) (.int i) H Q:=.inr (.inl ⟨p,xs,i,v,rfl,rfl,h,hv,q⟩)
theorem opEq:cX X (compareOp .Eq) sZ:=EW
theorem opNe:cX X (compareOp .NotEq) tT:=EY
theorem mh:cX X (compareOp .Lt) (tS fun i j=>.bl (decide (i < j))):=EX
theorem uJ:sZ (.int i) (.int j) H Q↔Q (.bl (decide (i=j))) H:=by simp [sZ,xE]
theorem uM:tT (.int i) (.int j) H Q↔Q (.bl (!decide (i=j))) H:=by simp [tT,xE]
theorem uK{i j:Str}:sZ (.str i) (.str j) H Q↔Q (.bl (decide (i=j))) H:=by simp [sZ,xE]
theorem uN{i j:Str}:tT (.str i) (.str j) H Q↔Q (.bl (!decide (i=j))) H:=by simp [tT,xE]
def uL(K:Frag):R2:=fun x y H Q=>(∃i j,x=.str i/\y=.str j/\Q (.bl (!(Builtin.Str.occurrences j i 0 j.length 1).isEmpty)) H)\/E7 K false x y H Q
def mG(K:Frag):R2:=fun x y H Q=>(∃i j,x=.str i/\y=.str j/\Q (.bl (!(!(Builtin.Str.occurrences j i 0 j.length 1).isEmpty))) H)\/E7 K true x y H Q
theorem F1:cX X (compareOp .In) (uL X.K):=op_in_str.or xt
theorem Br:cX X (compareOp .NotIn) (mG X.K):=op_notin_str.or qV
theorem Dz{c:Nat}:uL K (.str ⟨#[c]⟩) (.str z) H Q↔Q (.bl (decide (c∈z.cps.toList))) H:=by
 simp [uL,E7,StrLaws.found_one]
theorem wz:cC X (.builtin "len") (fun xs H Q=>(∃z,xs=[.str z]/\z.length<=sizeLine/\Q (.int z.length) H)\/∃p ys,xs=[.ref p]/\(aL X.K H p ys\/bH X.K H p ys)/\Q (.int ys.length) H):=call_len_str.or qu
theorem call_int_text:cC X (.type "int") (fun xs H Q=>∃z n,xs=[.str z]/\intText? z=some n/\z.length<=640/\Q (.int n) H):=by
 intro pins s Z H xs us Q I r h;obtain⟨z,n,rfl,hn,hl,q⟩:=h;obtain⟨u,rfl,ru⟩:=eV r;obtain⟨t,rfl⟩:=ru;exact PySem.W.KIN.call_text hn hl ⟨.int n,H,I.tok _,⟨_,rfl⟩,q⟩
theorem fm:cC X (.type "int") (fun xs H Q=>(∃z n,xs=[.str z]/\intText? z=some n/\z.length<=640/\Q (.int n) H)\/((∃i,xs=[.int i]/\Q (.int i) H)\/∃k,xs=[.bl k]/\Q (.int (if k then 1 else 0)) H)):=call_int_text.or wy
theorem fW:Az X "str.startswith" (fun x xs H Q=>∃z y,x=.str z/\xs=[.str y]/\Q (.bl (Txt.startswith z y)) H):=by
 intro pins s Z H x xs v us Q I rx r h;obtain⟨z,y,rfl,rfl,q⟩:=h;obtain⟨t,rfl⟩:=rx;obtain⟨u,rfl,t',rfl⟩:=eV r;exact SC.startswith ⟨.bl _,H,I,rfl,q⟩
theorem rQ:cC X (.builtin "isinstance") (fun xs H Q=>∃x n t b,xs=[x,.ty n]/\jL X.K H x t/\PySem.W.kitOne X.K t (.type n)=some b/\Q (.bl b) H):=by
 intro pins s Z H xs us Q I r h;obtain⟨x,n,t,b,rfl,ty,e,q⟩:=h;obtain⟨u,w',rfl,ru,rw'⟩:=tP r;cases rw';exact wY I ru ty e fun tk=>⟨.bl b,H,I.tok _,rfl,q⟩
theorem oB:∀{bs:List Bool} {us:List Value},aQ (bs.map V.bl) us->us=bs.map Value.bool
 | [],_,.nil=>rfl
 | b::bs,_,.cons r t=>by
  have e:_=Value.bool b:=r;rw [ad7,e,oB t]
theorem xA(bs:List Bool):(List.range bs.length).all (fun i=>bs.getD i true)=bs.all id:=by
 induction bs with
 | nil=>rfl
 | cons b bs ih=>
  rw [ad1,List.range_succ_eq_map,ao8,ai9,ao8,<-ih];rfl
theorem wu(hc:X.calm=true):cC X (.builtin "all") (fun xs H Q=>∃(p:Addr) (bs:List Bool),xs=[.ref p]/\aL X.K H p (bs.map V.bl)/\Q (.bl (bs.all id)) H):=by
 intro pins s Z H xs us Q I r h;obtain⟨p,bs,rfl,hq,q⟩:=h;obtain⟨u,rfl,ru⟩:=eV r;cases ru;obtain⟨its,rv,pl,hz⟩:=I.list hq;have e:=oB rv;subst e;have hh:X.A.in1.handled=none:=I.ok.hd hc;refine call_all_walk (al5 pl.isList ⟨s.heap.objs.size,[s.heap.objs.size,p],[s.heap.objs.size],_,_,_,fun i=>bs.getD i true,rfl,Walks.list hh _ p ?_ _,⟨⟨_,ab3 _ rfl,rfl,rfl⟩,pl.isList.push _⟩,?_,fun h' tk hk=>?_⟩)
 ·obtain⟨o,n,e,_⟩:=pl
  exact ac6 (ab7 e)
 ·intro i v s' Q' E' hv hQ'
  have hv':(bs.map Value.bool)[i]?=some v:=by simpa using hv
  rw [aa5]at hv'
  cases hb:bs[i]? with
  | none=>rw [hb]at hv';cases hv'
  | some b=>
   rw [hb]at hv';cases hv';have hQ2:Q' (bs.getD i true) s':=hQ';rw [ab8,hb]at hQ2;exact ae1 hQ2
 ·refine⟨.bl (bs.all id),H,I.kept (h':=h') (t':=tk) fun b o e=>hk b o ?_ (aa4 _ e),?_,q⟩
  ·intro z
   have z':b=s.heap.objs.size:=by simpa using z
   exact absurd (ab7 e) (by rw [z'];exact ah1 _)
  ·show Value.bool _=Value.bool _
   rw [<-xA];simp
theorem nO(h:∃u,X.mg x=some u/\aS v u)(hg:Gl X x:=by rfl)(hd:(x == ("__debug__":Str))=false:=by decide):PE X (.Name x pos) (tC v):=
 let ⟨_,hm,r⟩:=h;BA hg hm r hd
end
structure bR(P:Program)(w:World)(K:Frag)(mg:Str->Option Value)(base:Heap)(x:Str)(k:Nat)(ps:List Str)(sp:Sp):Prop where
 ex:∃(f:Addr) (fd:FuncData),aN P w K mg base cc k f fd ps sp/\mg x=some (.ref f)/\keepIn K (.ref f)=true/\dE K fd ps []
section
variable {k:Nat} {ps:List Str} {sp:Sp} {p:Pos} {e:Expr} {es:List Expr} {t:TA}
theorem aD(d:bR X.prog X.w X.K X.mg X.base x k ps sp)(hr:dy k X.A)(hg:Gl X x)(ha:PA X (e::es) t)(hdb:(x == ("__debug__":Str))=false:=by decide)
  (he:starEach (e::es) X.env=(false,eval e X.env)::starEach es X.env:=by rfl) (hpl:(backTo pos (starEach es X.env)).any (·.1)=false:=by rfl):PE X (.Call (.Name x p) (e::es) [] pos) (tL sp [] E0 t):=
 let ⟨_,_,F,hm,hk,hb⟩:=d.ex;By F hr hg hm hk hb .nil pW ha hdb he hpl
end
end L2
namespace L3
open PySem PySem.Spec PyProof.Rows
section
variable {prog:Program} {w:World} {A:Around} {E:Value->Shared->Prop} {s:Shared}
theorem qG{it t:Addr}{i:Nat}{its:Array Value}{x:Value}{Q:Value->Shared->Prop}(qi:s.heap.IsTupleIter it t i)(qt:s.heap.IsTuple t its)(qx:its[i]?=some x)
  (hQ:∀h',h'.IsTupleIter it t (i+1)->Heap.SameBut it s.heap h'->Q x { s with heap:=h' }):wpAny (model prog w) A (Builtin.SmallTypes.nextOf (.ref it)) Q E s:=by
 obtain⟨oi,qo,qc,qd⟩:=id qi;obtain⟨ot,qot,_,nt,qdt⟩:=qt;unfold Builtin.SmallTypes.nextOf;refine aa2 (wpAny_callSpecial?_slot (name:=Str.ofString "__next__") qi.typeIs F.slot_tuple_iterator_next (ag5 F.slot_tuple_iterator_next qi.typeIs F.entry_tuple_iterator_next ?_ (F.args_tuple_iterator_next_1 _)));show wpAny _ _ (field (.ref it) 0 >>= _) _ _ s;refine aa2 (af2 qo qd (x:=.ref t) rfl ?_);show wpAny _ _ (if (Value.ref t == Value.none)=true then _ else _) _ _ s;rw [if_neg (show ¬((Value.ref t == Value.none)=true)from aa6)];show wpAny _ _ (field (.ref it) 1 >>= _) _ _ s;refine aa2 (af2 qo qd (x:=.int i 0) rfl ?_);show wpAny _ _ (seqItems? (.ref t) >>= _) _ _ s;refine aa2 (ae8 qot qdt ?_);simp only [ae4,qx];refine aa2 (wpAny_setField qo qd (by simp) (aa7 ⟨x,rfl,aa7 (hQ _ ?_ (Heap.SameBut.update ..))⟩));exact⟨_,af6 _ qo (Obj.isFreed_of_fields (Obj.data_mapFields qd _)),(Obj.cls_mapFields ..).trans qc,by rw [Obj.data_mapFields qd];simp [rawInt]⟩
theorem sH{it t:Addr}{i:Nat}{its:Array Value}{Q:Value->Shared->Prop}(hh:A.handled=none)(qi:s.heap.IsTupleIter it t i)(qt:s.heap.IsTuple t its)(qx:its[i]?=none)
  (hE:∀h' e,Heap.ExtBut it s.heap h'->(∃o,h'.get? e=some o/\o.cls=.type "StopIteration")->E (.ref e) { s with heap:=h' }):wpAny (model prog w) A (Builtin.SmallTypes.nextOf (.ref it)) Q E s:=by
 obtain⟨oi,qo,qc,qd⟩:=id qi;obtain⟨ot,qot,_,nt,qdt⟩:=qt;unfold Builtin.SmallTypes.nextOf;refine aa2 (wpAny_callSpecial?_slot (name:=Str.ofString "__next__") qi.typeIs F.slot_tuple_iterator_next (ag5 F.slot_tuple_iterator_next qi.typeIs F.entry_tuple_iterator_next ?_ (F.args_tuple_iterator_next_1 _)));show wpAny _ _ (field (.ref it) 0 >>= _) _ _ s;refine aa2 (af2 qo qd (x:=.ref t) rfl ?_);show wpAny _ _ (if (Value.ref t == Value.none)=true then _ else _) _ _ s;rw [if_neg (show ¬((Value.ref t == Value.none)=true)from aa6)];show wpAny _ _ (field (.ref it) 1 >>= _) _ _ s;refine aa2 (af2 qo qd (x:=.int i 0) rfl ?_);show wpAny _ _ (seqItems? (.ref t) >>= _) _ _ s;refine aa2 (ae8 qot qdt ?_);simp only [ae4,qx];refine aa2 (ap7 (aa2 (wpAny_setField qo qd (by simp) ?_)));show wpAny _ _ (newExc (.type "StopIteration") [] >>= _) _ _ _;refine aa2 ?_;simp only [newExc,newTuple]
 refine aa2 (ag1 ?_ (by size_fits));refine aa2 (m:=firstArgMember _ _) (wpAny_of_eq (a:=Value.none) (by first | rfl | (simp only [firstArgMember];rfl)) ?_)
 refine ag1 ?_ (by size_fits);simp only [raiseNew];refine aa2 (wpAny_handled ?_)
 first | rw [show A.in1.handled=none from hh] | rw [hh]
 exact aa2 (aa7 (wpAny_throw (hE _ _ (((Heap.SameBut.update ..).extBut.push _).push _) ⟨_,ab3 _ rfl,rfl⟩)))
end
theorem draws_tuple{prog:Program}{w:World}{A:Around}(hh:A.handled=none)(it t:Addr)(hne:t≠it)(its:Array Value):
  Draws prog w A it [it,t] its.size (fun i v=>its[i]?=some v) (fun i h=>h.IsTupleIter it t i/\h.IsTuple t its) where
 live:=fun _ _ st=>let ⟨o,ho,_⟩:=st.1;⟨o,ho⟩
 frame:=fun _ _ _ st hk=>⟨st.1.at fun o e=>hk it (by simp) o e,let ⟨o,ho,r⟩:=st.2;⟨o,hk t (by simp) o ho,r⟩⟩
 item:=fun i s Q E hi st hQ=>qG st.1 st.2 (x:=its[i]) (by simp [hi]) fun h' qi qs=>hQ _ h' s.toks (by simp [hi]) ⟨qi,st.2.extBut qs.extBut hne⟩ qs
 done:=fun s Q E st hE=>sH hh st.1 st.2 (by simp) hE
abbrev jM(h:Heap)(z TI TO:Addr)(f0:Value)(b1:Bool):Prop:=h.get? z=some { cls:=.type "zip",dict:=none,data:=.fields #[f0,.bool b1,.bool false,.ref TI,.ref TO],slots:=#[] }
def qh(f0:Value):Prop:=f0=.none\/∃T:Addr,f0=rawInt T
def FQ(h:Heap)(z TI TO:Addr):Prop:=∃f0 b1,jM h z TI TO f0 b1/\qh f0
structure ZAp(z TI TO i1 i2:Addr)(f1 f2:List Addr):Prop where
 a1:TI≠z
 a2:TO≠z
 a3:TI≠TO
 m1:i1∈f1
 m2:i2∈f2
 z1:z∉f1
 z2:z∉f2
 t1:TI∉f1
 t2:TI∉f2
 o1:TO∉f1
 o2:TO∉f2
 n1:i1∉f2
 n2:i2∉f1
section
variable {prog:Program} {w:World} {A:Around} {E:Value->Shared->Prop} {s:Shared} {z TI TO i1 i2:Addr} {f1 f2:List Addr} {n1 n2 k:Nat} {P1 P2:Nat->Value->Prop} {S1 S2:Nat->Heap->Prop} {a b:Value}
theorem oM{it c:Addr}{fp:List Addr}{n i:Nat}{P:Nat->Value->Prop}{St:Nat->Heap->Prop}{h h':Heap}(D:Draws prog w A it fp n P St)(st:St i h)(sb:Heap.SameBut c h h')(hc:c∉fp):St i h':=
 D.frame i h h' st fun d hd o e=>(sb.2 d fun q=>hc (q▸hd)).trans e
theorem x9{M:Model}{c:Addr}{Q:Option Obj->Shared->Prop}(h:Q (s.heap.get? c) s):wpAny M A (loadIfAlive c) Q E s:=fun Γ p _=>by
 show Sem.wp M Γ (.loadIfAlive c .pure) _ _ p s;rw [Sem.wp_loadIfAlive];exact h
theorem nL{f0:Value}{b1:Bool}{Q:Bool->Shared->Prop}(qz:jM s.heap z TI TO f0 b1)(hf:qh f0)(h1:Q true s)
  (h2:∀h',f0≠.none->jM h' z TI TO f0 true->Heap.SameBut z s.heap h'->Q false { s with heap:=h' }):wpAny (model prog w) A (Builtin.SmallTypes.ownedTupleIsFree (.ref z)) Q E s:=by
 unfold Builtin.SmallTypes.ownedTupleIsFree;rcases hf with rfl | ⟨T,rfl⟩
 ·exact aa2 (af2 qz rfl (x:=.none) rfl (aa7 h1))
 ·refine aa2 (af2 qz rfl (x:=rawInt T) rfl ?_)
  show wpAny _ _ (loadIfAlive ((T:Int)).toNat >>= _) _ _ s;refine aa2 (x9 ?_)
  cases s.heap.get? ((T:Int)).toNat with
  | none=>exact aa7 h1
  | some o=>
   show wpAny _ _ (field (.ref z) 1 >>= _) _ _ s;refine aa2 (af2 qz rfl (x:=.bool b1) rfl ?_)
   cases b1 with
   | true=>exact aa7 (h2 s.heap (fun z=>nomatch z) qz (Heap.SameBut.refl ..))
   | false=>
    show wpAny _ _ (setField (.ref z) 1 (.bool true) >>= _) _ _ s;exact aa2 (ag8 qz (by simp) fun h' q e=>aa7 (h2 h' (fun z=>nomatch z) q e))
theorem xP{f0:Value}{b1:Bool}{Q:Value->Shared->Prop}(D1:Draws prog w A i1 f1 n1 P1 S1)(D2:Draws prog w A i2 f2 n2 P2 S2)(ap:ZAp z TI TO i1 i2 f1 f2)(qz:jM s.heap z TI TO f0 b1)(hf:qh f0)(qI:IsPair s.heap TI (.ref i1) (.ref i2))(qO:IsPair s.heap TO a b)
  (st1:S1 k s.heap) (st2:S2 k s.heap) (k1:k < n1) (k2:k < n2)
  (hQ:∀x y h' tk,P1 k x->P2 k y->FQ h' z TI TO->(f0=.none->IsZip h' z TI TO (rawInt s.heap.objs.size))->IsPair h' TI (.ref i1) (.ref i2)->(∃a b,IsPair h' TO a b)->S1 (k+1) h'->S2 (k+1) h'->IsPair h' s.heap.objs.size x y->h'.objs.size=s.heap.objs.size+1->
   (∀c o,c≠z->c≠TO->c≠i1->c≠i2->s.heap.get? c=some o->h'.get? c=some o)->Q (.ref s.heap.objs.size) { s with heap:=h',toks:=tk }) :
  wpAny (model prog w) A (Builtin.«zip.__next__» ⟨[.ref z],[]⟩) (fun fin s'=>∃v,fin=.done (.ret v)/\Q v s') E s:=by
 have c1:i1≠z:=fun q=>ap.z1 (q▸ap.m1);have c2:i2≠z:=fun q=>ap.z2 (q▸ap.m2);have c3:TO≠i1:=fun q=>ap.o1 (q▸ap.m1);have c4:TO≠i2:=fun q=>ap.o2 (q▸ap.m2);have c5:TI≠i1:=fun q=>ap.t1 (q▸ap.m1);have c6:TI≠i2:=fun q=>ap.t2 (q▸ap.m2);show wpAny _ _ (field (.ref z) 2 >>= _) _ _ _;refine aa2 (af2 qz rfl (x:=.bool false) rfl ?_);show wpAny _ _ (field (.ref z) 3 >>= _) _ _ _;refine aa2 (af2 qz rfl (x:=.ref TI) rfl ?_);refine aa2 (ae8 qI rfl ?_);show wpAny _ _ (Builtin.SmallTypes.ownedTupleIsFree (.ref z) >>= _) _ _ _;refine aa2 (nL qz hf ?_ fun h₀ Yp Yq Zv=>?_)
 ·simp only [if_true]
  refine aa2 (ap7 ?_);refine aa2 (af2 qz rfl (x:=.ref TO) rfl ?_);refine aa2 (ag8 qz (by simp) fun Zl Zx Zo=>?_);replace Zx:jM Zl z TI TO .ellipsis b1:=Zx;refine aa2 ?_;simp only [List.zipIdx_cons,List.zipIdx_nil,af7,aj8];refine aa2 (aa2 (ao9 ?_));show wpAny _ _ (Builtin.SmallTypes.nextOf (.ref i1) >>= _) _ _ _;refine aa2 (D1.item k _ _ _ k1 (oM D1 st1 Zo ap.z1) fun x Zu Ye p1 u1 Zi=>aa7 ?_);have Z4:IsPair Zu TO a b:=Zi.extBut _ _ c3 (Zo.extBut _ _ ap.a2 qO);refine aa2 (ae8 Z4 rfl ?_);refine aa2 (am8 Z4 fun Z0 Yb Zp=>?_);replace Yb:IsPair Z0 TO x b:=Yb;refine aa2 (aj9 (aa7 ?_));refine aa2 (aa2 (ao9 ?_));show wpAny _ _ (Builtin.SmallTypes.nextOf (.ref i2) >>= _) _ _ _;refine aa2 (D2.item k _ _ _ k2 (oM D2 (oM D2 (oM D2 st2 Zo ap.z2) Zi ap.n1) Zp ap.o2) fun y Zk Yy p2 u2 Zm=>aa7 ?_);have Yr:IsPair Zk TO x b:=Zm.extBut _ _ c4 Yb;refine aa2 (ae8 Yr rfl ?_);refine aa2 (am8 Yr fun Zj Yc Zy=>?_);replace Yc:IsPair Zj TO x y:=Yc;refine aa2 (aj9 (aa7 (aa7 ?_)));refine aa2 (ae8 Yc rfl ?_);refine aa2 (wpAny_newTuple ?_)
  have sz:Zj.objs.size=s.heap.objs.size:=by rw [Zy.1,Zm.1,Zp.1,Zi.1,Zo.1]
  have Ys:jM Zj z TI TO .ellipsis b1:=Zy.extBut _ _ ap.a2.symm (Zm.extBut _ _ c2.symm (Zp.extBut _ _ ap.a2.symm (Zi.extBut _ _ c1.symm Zx)));have Yt:∀c o,c≠z->c≠TO->c≠i1->c≠i2->s.heap.get? c=some o->Zj.get? c=some o:=fun c o d1 d2 d3 d4 e=>Zy.extBut _ _ d2 (Zm.extBut _ _ d4 (Zp.extBut _ _ d2 (Zi.extBut _ _ d3 (Zo.extBut _ _ d1 e))));have Yz:S1 (k+1) Zj:=oM D1 (oM D1 (oM D1 u1 Zp ap.o1) Zm ap.n2) Zy ap.o1;have Y0:S2 (k+1) Zj:=oM D2 u2 Zy ap.o2;have zl:z < Zj.objs.size:=ab7 Ys;show wpAny _ _ (Builtin.SmallTypes.ownedTupleHandOut (.ref z) (.ref Zj.objs.size) >>= _) _ _ _;refine aa2 ?_;unfold Builtin.SmallTypes.ownedTupleHandOut;have Y1:jM (Zj.push { cls:=.type "tuple",data:=.seq #[x,y] }) z TI TO .ellipsis b1:=aa4 _ Ys;refine aa2 (ag8 Y1 (by simp) fun Y2 Yf Yg=>?_);replace Yf:jM Y2 z TI TO (rawInt Zj.objs.size) b1:=Yf;refine ag8 Yf (by simp) fun Z5 Z6 Yh=>?_;replace Z6:jM Z5 z TI TO (rawInt Zj.objs.size) false:=Z6;have up:∀c o,c≠z->Zj.get? c=some o->Z5.get? c=some o:=fun c o d1 e=>Yh.extBut _ _ d1 (Yg.extBut _ _ d1 (aa4 _ e));have Z7:IsPair Z5 Zj.objs.size x y:=Yh.extBut _ _ (ai8 zl) (Yg.extBut _ _ (ai8 zl) (ab3 _ rfl))
  have s8:Z5.objs.size=Zj.objs.size+1:=by rw [Yh.1,Yg.1,ae7]
  rw [sz]at Z6 Z7 s8;refine aa7 ⟨_,rfl,?_⟩;show Q (.ref Zj.objs.size) _;rw [sz];exact hQ x y Z5 _ p1 p2 ⟨_,_,Z6,.inr ⟨_,rfl⟩⟩ (fun _=>Z6) (up _ _ ap.a1 (Yt _ _ ap.a1 ap.a3 c5 c6 qI)) ⟨_,_,up _ _ ap.a2 Yc⟩ (D1.frame _ _ _ Yz fun d hd o e=>up d o (fun q=>ap.z1 (q▸hd)) e) (D2.frame _ _ _ Y0 fun d hd o e=>up d o (fun q=>ap.z2 (q▸hd)) e) Z7 s8 fun c o d1 d2 d3 d4 e=>up c o d1 (Yt c o d1 d2 d3 d4 e)
 ·simp only [ad9,if_false]
  refine aa2 ?_;refine wpAny_arrayLoop ?_;simp only [af7,aj8];refine aa2 (aa2 (ae2 ?_));show wpAny _ _ (Builtin.SmallTypes.nextOf (.ref i1) >>= _) _ _ _;refine aa2 (D1.item k _ _ _ k1 (oM D1 st1 Zv ap.z1) fun x Zu Ye p1 u1 Zi=>aa7 ?_);refine aa7 ?_;refine aa2 (aa2 (ae2 ?_));show wpAny _ _ (Builtin.SmallTypes.nextOf (.ref i2) >>= _) _ _ _;refine aa2 (D2.item k _ _ _ k2 (oM D2 (oM D2 st2 Zv ap.z2) Zi ap.n1) fun y Zk Yy p2 u2 Zm=>aa7 ?_);refine aa7 (aa7 ?_);show wpAny _ _ (newTuple [x,y] >>= _) _ _ _;refine aa2 (wpAny_newTuple ?_)
  have sz:Zk.objs.size=s.heap.objs.size:=by rw [Zm.1,Zi.1,Zv.1]
  have Yd:jM Zk z TI TO f0 true:=Zm.extBut _ _ c2.symm (Zi.extBut _ _ c1.symm Yq);have Yi:∀c o,c≠z->c≠i1->c≠i2->s.heap.get? c=some o->Zk.get? c=some o:=fun c o d1 d3 d4 e=>Zm.extBut _ _ d4 (Zi.extBut _ _ d3 (Zv.extBut _ _ d1 e));have up:∀c o,Zk.get? c=some o->(Zk.push { cls:=.type "tuple",data:=.seq #[x,y] }).get? c=some o:=fun c o e=>aa4 _ e;have Z7:IsPair (Zk.push { cls:=.type "tuple",data:=.seq #[x,y] }) Zk.objs.size x y:=ab3 _ rfl;have s8:(Zk.push { cls:=.type "tuple",data:=.seq #[x,y] }).objs.size=Zk.objs.size+1:=ae7 ..;refine aa7 ⟨_,rfl,?_⟩;show Q (.ref Zk.objs.size) _;rw [sz]at Z7 s8 |-;exact hQ x y _ _ p1 p2 ⟨_,_,up _ _ Yd,hf⟩ (fun z=>absurd z Yp) (up _ _ (Yi _ _ ap.a1 c5 c6 qI)) ⟨_,_,up _ _ (Yi _ _ ap.a2 c3 c4 qO)⟩ (D1.frame _ _ _ (oM D1 u1 Zm ap.n2) fun d hd o e=>up d o e) (D2.frame _ _ _ u2 fun d hd o e=>up d o e) Z7 s8 fun c o d1 d2 d3 d4 e=>up c o (Yi c o d1 d3 d4 e)
theorem Ao{f0:Value}{b1:Bool}{Q:Fin->Shared->Prop}(D1:Draws prog w A i1 f1 n1 P1 S1)(D2:Draws prog w A i2 f2 n2 P2 S2)(ap:ZAp z TI TO i1 i2 f1 f2)(qz:jM s.heap z TI TO f0 b1)(hf:qh f0)(qI:IsPair s.heap TI (.ref i1) (.ref i2))(qO:IsPair s.heap TO a b)
  (st1:S1 k s.heap) (st2:S2 k s.heap) (kk:k=n1\/(k < n1/\k=n2))
  (hE:∀h' e tk,(∀c o,c≠z->c≠TO->c≠i1->c≠i2->s.heap.get? c=some o->h'.get? c=some o)->(∃o,h'.get? e=some o/\o.cls=.type "StopIteration")->E (.ref e) { s with heap:=h',toks:=tk }) :
  wpAny (model prog w) A (Builtin.«zip.__next__» ⟨[.ref z],[]⟩) Q E s:=by
 have c1:i1≠z:=fun q=>ap.z1 (q▸ap.m1);have c2:i2≠z:=fun q=>ap.z2 (q▸ap.m2);have c3:TO≠i1:=fun q=>ap.o1 (q▸ap.m1);have c4:TO≠i2:=fun q=>ap.o2 (q▸ap.m2);show wpAny _ _ (field (.ref z) 2 >>= _) _ _ _;refine aa2 (af2 qz rfl (x:=.bool false) rfl ?_);show wpAny _ _ (field (.ref z) 3 >>= _) _ _ _;refine aa2 (af2 qz rfl (x:=.ref TI) rfl ?_);refine aa2 (ae8 qI rfl ?_);show wpAny _ _ (Builtin.SmallTypes.ownedTupleIsFree (.ref z) >>= _) _ _ _;refine aa2 (nL qz hf ?_ fun h₀ Yp Yq Zv=>?_)
 ·simp only [if_true]
  refine aa2 (ap7 ?_);refine aa2 (af2 qz rfl (x:=.ref TO) rfl ?_);refine aa2 (ag8 qz (by simp) fun Zl Zx Zo=>?_);replace Zx:jM Zl z TI TO .ellipsis b1:=Zx;refine aa2 ?_;simp only [List.zipIdx_cons,List.zipIdx_nil,af7,aj8];refine aa2 (aa2 (ao9 ?_));show wpAny _ _ (Builtin.SmallTypes.nextOf (.ref i1) >>= _) _ _ _;rcases kk with kk | ⟨k1,kk⟩
  ·subst kk
   refine aa2 (D1.done _ _ _ (oM D1 st1 Zo ap.z1) fun Zu e Zi he=>?_);obtain⟨oe,hoe,hce⟩:=he;have Yu:jM Zu z TI TO .ellipsis b1:=Zi _ _ c1.symm Zx
   have ez:e≠z:=fun q=>by subst q;rw [Yu]at hoe;cases hoe;simp at hce
   exact ag8 Yu (by simp) fun Z0 _ Zp=>hE Z0 e _ (fun c o d1 _ d3 _ q=>Zp.extBut _ _ d1 (Zi _ _ d3 (Zo.extBut _ _ d1 q))) ⟨oe,Zp.extBut _ _ ez hoe,hce⟩
  ·subst kk
   refine aa2 (D1.item k _ _ _ k1 (oM D1 st1 Zo ap.z1) fun x Zu Ye p1 u1 Zi=>aa7 ?_);have Z4:IsPair Zu TO a b:=Zi.extBut _ _ c3 (Zo.extBut _ _ ap.a2 qO);refine aa2 (ae8 Z4 rfl ?_);refine aa2 (am8 Z4 fun Z0 Yb Zp=>?_);refine aa2 (aj9 (aa7 ?_));refine aa2 (aa2 (ao9 ?_));show wpAny _ _ (Builtin.SmallTypes.nextOf (.ref i2) >>= _) _ _ _;refine aa2 (D2.done _ _ _ (oM D2 (oM D2 (oM D2 st2 Zo ap.z2) Zi ap.n1) Zp ap.o2) fun Zk e Zm he=>?_);obtain⟨oe,hoe,hce⟩:=he;have Yd:jM Zk z TI TO .ellipsis b1:=Zm _ _ c2.symm (Zp.extBut _ _ ap.a2.symm (Zi.extBut _ _ c1.symm Zx))
   have ez:e≠z:=fun q=>by subst q;rw [Yd]at hoe;cases hoe;simp at hce
   exact ag8 Yd (by simp) fun Zj _ Zy=>hE Zj e _ (fun c o d1 d2 d3 d4 q=>Zy.extBut _ _ d1 (Zm _ _ d4 (Zp.extBut _ _ d2 (Zi.extBut _ _ d3 (Zo.extBut _ _ d1 q))))) ⟨oe,Zy.extBut _ _ ez hoe,hce⟩
 ·simp only [ad9,if_false]
  refine aa2 ?_;refine wpAny_arrayLoop ?_;simp only [af7,aj8];refine aa2 (aa2 (ae2 ?_));show wpAny _ _ (Builtin.SmallTypes.nextOf (.ref i1) >>= _) _ _ _;rcases kk with kk | ⟨k1,kk⟩
  ·subst kk
   refine aa2 (D1.done _ _ _ (oM D1 st1 Zv ap.z1) fun Zu e Zi he=>?_);exact hE Zu e _ (fun c o d1 _ d3 _ q=>Zi _ _ d3 (Zv.extBut _ _ d1 q)) he
  ·subst kk
   refine aa2 (D1.item k _ _ _ k1 (oM D1 st1 Zv ap.z1) fun x Zu Ye p1 u1 Zi=>aa7 ?_);refine aa7 ?_;refine aa2 (aa2 (ae2 ?_));show wpAny _ _ (Builtin.SmallTypes.nextOf (.ref i2) >>= _) _ _ _;refine aa2 (D2.done _ _ _ (oM D2 (oM D2 st2 Zv ap.z2) Zi ap.n1) fun Zk e Zm he=>?_);exact hE Zk e _ (fun c o d1 d2 d3 d4 q=>Zm _ _ d4 (Zi.extBut _ _ d3 (Zv.extBut _ _ d1 q))) he
theorem nextZip_item{Q:Option Value->Shared->Prop}(D1:Draws prog w A.in1 i1 f1 n1 P1 S1)(D2:Draws prog w A.in1 i2 f2 n2 P2 S2)(ap:ZAp z TI TO i1 i2 f1 f2)(qz:IsZip s.heap z TI TO .none)(qI:IsPair s.heap TI (.ref i1) (.ref i2))(qO:IsPair s.heap TO a b)
  (st1:S1 k s.heap) (st2:S2 k s.heap) (k1:k < n1) (k2:k < n2)
  (hQ:∀x y h' tk,P1 k x->P2 k y->IsZip h' z TI TO (rawInt s.heap.objs.size)->(∃a b,IsPair h' TO a b)->S1 (k+1) h'->S2 (k+1) h'->IsPair h' s.heap.objs.size x y->h'.objs.size=s.heap.objs.size+1->
   (∀c o,c≠z->c≠TO->c≠i1->c≠i2->s.heap.get? c=some o->h'.get? c=some o)->Q (some (.ref s.heap.objs.size)) { s with heap:=h',toks:=tk }):wpAny (model prog w) A (pyNext (.ref z)) Q E s:=by
 have ty:s.TypeIs (.ref z) "zip":=⟨_,qz,rfl⟩;unfold pyNext
 exact aa2 (wpAny_attempt (wpAny_callSpecial?_slot (name:=Str.ofString "__next__") ty F.slot_zip_next (ag5 F.slot_zip_next ty F.entry_zip_next
   (xP D1 D2 ap qz (.inl rfl) qI qO st1 st2 k1 k2 fun x y h' tk b1 b2 b3 b4 b5 b6 b7 b8 b9 b10 b11=>aa7 (hQ x y h' tk b1 b2 (b4 rfl) b6 b7 b8 b9 b10 b11)) (F.args_zip_next_1 _))))
theorem nextZip_end{Q:Option Value->Shared->Prop}(D1:Draws prog w A.in1 i1 f1 n1 P1 S1)(D2:Draws prog w A.in1 i2 f2 n2 P2 S2)(ap:ZAp z TI TO i1 i2 f1 f2)(qz:IsZip s.heap z TI TO .none)(qI:IsPair s.heap TI (.ref i1) (.ref i2))(qO:IsPair s.heap TO a b)
  (st1:S1 k s.heap) (st2:S2 k s.heap) (kk:k=n1\/(k < n1/\k=n2))
  (hQ:∀h' tk,(∀c o,c≠z->c≠TO->c≠i1->c≠i2->s.heap.get? c=some o->h'.get? c=some o)->Q none { s with heap:=h',toks:=tk }):wpAny (model prog w) A (pyNext (.ref z)) Q E s:=by
 have ty:s.TypeIs (.ref z) "zip":=⟨_,qz,rfl⟩;unfold pyNext;refine aa2 (wpAny_attempt (wpAny_callSpecial?_slot (name:=Str.ofString "__next__") ty F.slot_zip_next (ag5 F.slot_zip_next ty F.entry_zip_next (Ao D1 D2 ap qz (.inl rfl) qI qO st1 st2 kk fun h' e tk hk he=>?_) (F.args_zip_next_1 _))));obtain⟨oe,hoe,hce⟩:=he;exact aa2 (ap2 (T:="StopIteration") (b:=true) ⟨oe,hoe,hce⟩ isSubtype_stop (aa7 (hQ _ _ hk)))
end
def itRec(l:Bool)(a:Addr):Obj:={ cls:=.type (if l then "list_iterator" else "tuple_iterator"),data:=.fields #[.ref a,.int 0 0] }
def IsSeq(l:Bool)(h:Heap)(a:Addr)(xs:Array Value):Prop:=if l=true then h.IsList a xs else h.IsTuple a xs
theorem IsSeq.push{l:Bool}{h:Heap}{a:Addr}{xs:Array Value}(q:IsSeq l h a xs)(o:Obj):IsSeq l (h.push o) a xs:=by
 cases l
 ·exact Heap.IsTuple.push (show h.IsTuple a xs from q) o
 ·exact Heap.IsList.push (show h.IsList a xs from q) o
theorem ij{prog:Program}{w:World}{A:Around}{E:Value->Shared->Prop}{s:Shared}{l:Bool}{a:Addr}{xs:Array Value}{Q:Value->Shared->Prop}(q:IsSeq l s.heap a xs)(h:Q (.ref s.heap.objs.size) { s with heap:=s.heap.push (itRec l a) }):wpAny (model prog w) A (pyIter (.ref a)) Q E s:=by
 cases l
 ·exact wpAny_pyIter_tuple (show s.heap.IsTuple a xs from q) h
 ·exact al5 (show s.heap.IsList a xs from q) h
abbrev FA(h:Heap)(l1:Bool)(a1:Addr):Heap:=h.push (itRec l1 a1)
abbrev FC(h:Heap)(l1 l2:Bool)(a1 a2:Addr):Heap:=(FA h l1 a1).push (itRec l2 a2)
abbrev FD(h:Heap)(l1 l2:Bool)(a1 a2:Addr):Heap:=(FC h l1 l2 a1 a2).push { cls:=.type "tuple",data:=.seq #[.ref h.objs.size,.ref (FA h l1 a1).objs.size] }
abbrev FE(h:Heap)(l1 l2:Bool)(a1 a2:Addr):Heap:=(FD h l1 l2 a1 a2).push { cls:=.type "tuple",data:=.seq #[.none,.none] }
abbrev D8(h:Heap)(l1 l2:Bool)(a1 a2:Addr):Heap:=(FE h l1 l2 a1 a2).push { cls:=.type "zip",data:=.fields #[.none,.bool false,.bool false,.ref (FC h l1 l2 a1 a2).objs.size,.ref (FD h l1 l2 a1 a2).objs.size] }
theorem w9(l1 l2:Bool)(a1 a2:Addr)(xs ys:Array Value):
  Meets (Builtin.«zip.__new__» ⟨[.type "zip",.ref a1,.ref a2],[]⟩) (fun _ R s=>IsSeq l1 s.heap a1 xs/\IsSeq l2 s.heap a2 ys/\R (.ok (.ret (.ref (FE s.heap l1 l2 a1 a2).objs.size))) { s with heap:=D8 s.heap l1 l2 a1 a2 }):=
 .of_wp fun prog w A R s h=>by
  obtain⟨hp,g,d,tk,os⟩:=s;obtain⟨q1,q2,h⟩:=h;have hsub:=sub_zip;have u1:IsSeq l1 (Shared.heap ⟨hp,g,d,tk,os⟩) a1 xs:=q1;have u2:IsSeq l2 (Shared.heap ⟨hp.push (itRec l1 a1),g,d,tk,os⟩) a2 ys:=IsSeq.push q2 _
  wp_walk using ij u1,ij u2
  exact⟨_,rfl,h⟩
section
variable {prog:Program} {w:World} {A:Around} {E:Value->Shared->Prop} {s:Shared}
theorem call_zip{l1 l2:Bool}{a1 a2:Addr}{xs ys:Array Value}{Q:Value->Shared->Prop}(q1:IsSeq l1 s.heap a1 xs)(q2:IsSeq l2 s.heap a2 ys)
  (h:∀h',IsZip h' (s.heap.objs.size+4) (s.heap.objs.size+2) (s.heap.objs.size+3) .none->IsPair h' (s.heap.objs.size+2) (.ref s.heap.objs.size) (.ref (s.heap.objs.size+1))->
   IsPair h' (s.heap.objs.size+3) .none .none->h'.get? s.heap.objs.size=some (itRec l1 a1)->h'.get? (s.heap.objs.size+1)=some (itRec l2 a2)->h'.objs.size=s.heap.objs.size+5->
   (∀c o,s.heap.get? c=some o->h'.get? c=some o)->Q (.ref (s.heap.objs.size+4)) { s with heap:=h' }):wpAny (model prog w) A (call (.type "zip") [.ref a1,.ref a2]) Q E s:=by
 refine callType_new F.called_zip (by decide) (F.typeCall_zip_2 _ _) (F.newCall_zip_2 _ _) (fun obj=>F.args_object_init_3 obj _ _) F.entry_zip_new (w9 l1 l2 a1 a2 xs ys) ⟨q1,q2,?_⟩;have e1:(FA s.heap l1 a1).objs.size=s.heap.objs.size+1:=ae7 ..
 have e2:(FC s.heap l1 l2 a1 a2).objs.size=s.heap.objs.size+2:=by rw [ae7,e1]
 have e3:(FD s.heap l1 l2 a1 a2).objs.size=s.heap.objs.size+3:=by rw [ae7,e2]
 have e4:(FE s.heap l1 l2 a1 a2).objs.size=s.heap.objs.size+4:=by rw [ae7,e3]
 have e5:(D8 s.heap l1 l2 a1 a2).objs.size=s.heap.objs.size+5:=by rw [ae7,e4]
 have g5:(D8 s.heap l1 l2 a1 a2).get? (FE s.heap l1 l2 a1 a2).objs.size=some _:=ab3 _ rfl;have g4:(D8 s.heap l1 l2 a1 a2).get? (FD s.heap l1 l2 a1 a2).objs.size=some _:=aa4 _ (ab3 _ rfl);have g3:(D8 s.heap l1 l2 a1 a2).get? (FC s.heap l1 l2 a1 a2).objs.size=some _:=aa4 _ (aa4 _ (ab3 _ rfl));have g2:(D8 s.heap l1 l2 a1 a2).get? (FA s.heap l1 a1).objs.size=some (itRec l2 a2):=aa4 _ (aa4 _ (aa4 _ (ab3 _ rfl)));have g1:(D8 s.heap l1 l2 a1 a2).get? s.heap.objs.size=some (itRec l1 a1):=aa4 _ (aa4 _ (aa4 _ (aa4 _ (ab3 _ rfl))));show _/\_;rw [e2,e3,e4]at g5;rw [e1,e2]at g3;rw [e3]at g4;rw [e1]at g2;rw [e4];exact⟨⟨_,g5,rfl⟩,h _ g5 g3 g4 g1 g2 e5 fun c o q=>aa4 _ (aa4 _ (aa4 _ (aa4 _ (aa4 _ q))))⟩
end
end L3
namespace L2
open PySem PySem.Spec PyProof.Rows
variable {H:Hp} {X:Cx} {a it:Addr} {h:Heap} {l:Bool} {pins:List (Addr×Obj)} {s:Shared} {xs:List V} {Z:St}
def gp(K:Frag)(l:Bool)(H:Hp)(a:Addr)(xs:List V):Prop:=if l=true then aL K H a xs else bH K H a xs
def jH(l:Bool)(h:Heap)(it a:Addr)(i:Nat):Prop:=if l=true then h.IsListIter it a i else h.IsTupleIter it a i
theorem jH.at{h':Heap}{i:Nat}(x:jH l h it a i)(e:∀o,h.get? it=some o->h'.get? it=some o):jH l h' it a i:=by
 cases l
 ·exact Heap.IsTupleIter.at (show h.IsTupleIter it a i from x) e
 ·exact Heap.IsListIter.at (show h.IsListIter it a i from x) e
theorem jH.rec(e:h.get? it=some (L3.itRec l a)):jH l h it a 0:=by
 cases l
 ·exact⟨_,e,rfl,rfl⟩
 ·exact⟨_,e,rfl,rfl⟩
theorem jH.obj{i:Nat}(x:jH l h it a i):∃o,h.get? it=some o/\∀v,o.data≠.cell v:=by
 cases l
 ·obtain⟨o,e,_,d⟩:=(show h.IsTupleIter it a i from x)
  exact⟨o,e,fun v z=>by rw [d]at z;cases z⟩
 ·obtain⟨o,e,_,d⟩:=(show h.IsListIter it a i from x)
  exact⟨o,e,fun v z=>by rw [d]at z;cases z⟩
theorem fu{P:Program}{w:World}{A:Around}(hh:A.handled=none)(l:Bool)(it a:Addr)(hne:a≠it)(its:Array Value):
  Draws P w A it [it,a] its.size (fun i v=>its[i]?=some v) (fun i h=>jH l h it a i/\L3.IsSeq l h a its):=by
 cases l
 ·exact L3.draws_tuple hh it a hne its
 ·exact Draws.list hh it a hne its
theorem aJ.seqB(I:aJ X pins Z H s)(h:gp X.K l H a xs):∃its:List Value,aQ xs its/\L3.IsSeq l s.heap a its.toArray/\xs.length<=sizeLine:=by
 cases l
 ·obtain⟨its,r,p,z⟩:=I.tuple (show bH X.K H a xs from h)
  exact⟨its,r,p,z⟩
 ·obtain⟨its,r,p,z⟩:=I.list (show aL X.K H a xs from h)
  exact⟨its,r,p.isList,z⟩
theorem aJ.seqB_inj{ys:List V}(I:aJ X pins Z H s)(h:gp X.K l H a xs)(h':gp X.K l H a ys):xs=ys:=by
 cases l
 ·exact I.tuple_inj (show bH X.K H a xs from h) h'
 ·exact I.list_inj (show aL X.K H a xs from h) h'
theorem aJ.seqB_ne{b:Addr}(I:aJ X pins Z H s)(h:gp X.K l H a xs)(f:l6 X pins H b):a≠b:=by
 obtain⟨f0,_,_,f3,_,_⟩:=f
 have tr:∀{o:HO},Rd H a o->a≠b:=fun {o} r=>by
  rcases r with r | ⟨_,r⟩
  ·exact au r f0
  ·exact au r f0
 have kb:∀{o:Obj},X.K.lookup a=some o->a≠b:=fun {o} hk=>by
  have hb:=I.ok.mod.kin a o hk;rcases f3 with z | z
  ·exact fun q=>I.ok.noex a o hb (q▸z)
  ·exact ac6 (ab0 (ab7 hb) (ab9 I.ok.bsz z))
 cases l
 ·rcases(show bH X.K H a xs from h)with h | ⟨o,_,_,hk,_⟩
  ·exact tr h
  ·exact kb hk
 ·rcases(show aL X.K H a xs from h)with h | ⟨o,_,_,hk,_⟩
  ·exact tr h
  ·exact kb hk
def FJ(K:Frag)(l1 l2:Bool)(a1 a2:Addr):It:=
 ⟨fun i H=>∃xs ys x y,gp K l1 H a1 xs/\gp K l2 H a2 ys/\xs[i]?=some x/\ys[i]?=some y,
  fun i H v H'=>∃p x y,v=.ref p/\H p=none/\H'=upd H p (.tup [x,y])/\(∀xs,gp K l1 H a1 xs->xs[i]?=some x)/\∀ys,gp K l2 H a2 ys->ys[i]?=some y,
  fun i H=>∃xs ys,gp K l1 H a1 xs/\gp K l2 H a2 ys/\(i=xs.length\/(i < xs.length/\i=ys.length))⟩
theorem Ak{P:Program}{w:World}{K:Frag}{elts:List Expr}{kt:Nat}{pt:Pos}(l1 l2:Bool)(a1 a2 z TI TO i1 i2:Addr)(nd:[z,TI,TO,i1,i2].Nodup):
  oI P w K (.Tuple elts kt pt) (FJ K l1 l2 a1 a2) [z,TI,TO,i1,i2] z
   (fun i h=>IsZip h z TI TO .none/\IsPair h TI (.ref i1) (.ref i2)/\(∃a b,IsPair h TO a b)/\jH l1 h i1 a1 i/\jH l2 h i2 a2 i):=by
 have nd':(z≠TI/\z≠TO/\z≠i1/\z≠i2)/\(TI≠TO/\TI≠i1/\TI≠i2)/\(TO≠i1/\TO≠i2)/\i1≠i2:=by
  simpa [not_or]using nd
 obtain⟨⟨d1,d2,d3,d4⟩,⟨d5,d6,d7⟩,⟨d8,d9⟩,d10⟩:=nd'
 have zap:∀{X:Cx} {pins:List (Addr×Obj)} {Z:St} {H:Hp} {s:Shared} {xs ys:List V},aJ X pins Z H s->(∀b∈[z,TI,TO,i1,i2],l6 X pins H b)->gp X.K l1 H a1 xs->gp X.K l2 H a2 ys->L3.ZAp z TI TO i1 i2 [i1,a1] [i2,a2]:=fun {X pins Z H s xs ys} I hf q1 q2=>by
  have n1:∀b∈[z,TI,TO,i1,i2],a1≠b:=fun b hb=>I.seqB_ne q1 (hf b hb);have n2:∀b∈[z,TI,TO,i1,i2],a2≠b:=fun b hb=>I.seqB_ne q2 (hf b hb);refine⟨d1.symm,d2.symm,d5,by simp,by simp,?_,?_,?_,?_,?_,?_,?_,?_⟩
  ·simp only [aa8,ac2,or_false,not_or];exact⟨d3,(n1 z (by simp)).symm⟩
  ·simp only [aa8,ac2,or_false,not_or];exact⟨d4,(n2 z (by simp)).symm⟩
  ·simp only [aa8,ac2,or_false,not_or];exact⟨d6,(n1 TI (by simp)).symm⟩
  ·simp only [aa8,ac2,or_false,not_or];exact⟨d7,(n2 TI (by simp)).symm⟩
  ·simp only [aa8,ac2,or_false,not_or];exact⟨d8,(n1 TO (by simp)).symm⟩
  ·simp only [aa8,ac2,or_false,not_or];exact⟨d9,(n2 TO (by simp)).symm⟩
  ·simp only [aa8,ac2,or_false,not_or];exact⟨d10,(n2 i1 (by simp)).symm⟩
  ·simp only [aa8,ac2,or_false,not_or];exact⟨d10.symm,(n1 i2 (by simp)).symm⟩
 refine⟨by simp,?_,?_,?_,?_,?_⟩
 ·rintro i h ⟨qz,qI,⟨a,b,qO⟩,u1,u2⟩ c hc
  have hc':c=z\/c=TI\/c=TO\/c=i1\/c=i2:=by simpa using hc
  rcases hc' with e | e | e | e | e
  ·subst e;exact⟨_,qz,fun v q=>by cases q⟩
  ·subst e;exact⟨_,qI,fun v q=>by cases q⟩
  ·subst e;exact⟨_,qO,fun v q=>by cases q⟩
  ·subst e;exact u1.obj
  ·subst e;exact u2.obj
 ·rintro i h h' ⟨qz,qI,⟨a,b,qO⟩,u1,u2⟩ k
  exact⟨k z (by simp) _ qz,k TI (by simp) _ qI,⟨a,b,k TO (by simp) _ qO⟩,u1.at fun o e=>k i1 (by simp) o e,u2.at fun o e=>k i2 (by simp) o e⟩
 ·rintro X hP hw hK hc i pins s Z H E I hf ⟨qz,qI,⟨a,b,qO⟩,u1,u2⟩ ⟨xs,ys,x,y,q1,q2,hx,hy⟩
  subst hP hw hK;have hh:X.A.in1.handled=none:=I.ok.hd hc;obtain⟨its1,r1,p1,z1⟩:=I.seqB q1;obtain⟨its2,r2,p2,z2⟩:=I.seqB q2;have D1:=fu (P:=X.prog) (w:=X.w) hh l1 i1 a1 (I.seqB_ne q1 (hf i1 (by simp))) its1.toArray;have D2:=fu (P:=X.prog) (w:=X.w) hh l2 i2 a2 (I.seqB_ne q2 (hf i2 (by simp))) its2.toArray
  have lx:i < its1.toArray.size:=by
   have:=(aa3.mp hx).1
   rw [ab1,<-r1.length];exact this
  have ly:i < its2.toArray.size:=by
   have:=(aa3.mp hy).1
   rw [ab1,<-r2.length];exact this
  refine L3.nextZip_item D1 D2 (zap I hf q1 q2) qz qI qO ⟨u1,p1⟩ ⟨u2,p2⟩ lx ly fun v1 v2 h' tk e1 e2 z' o' s1' s2' pr sz kk=>?_;obtain⟨w1,g1,rx⟩:=r1.get hx;obtain⟨w2,g2,ry⟩:=r2.get hy
  have ev1:v1=w1:=by
   have:its1[i]?=some v1:=by simpa using e1
   rw [g1]at this;exact(Option.some.inj this).symm
  have ev2:v2=w2:=by
   have:its2[i]?=some v2:=by simpa using e2
   rw [g2]at this;exact(Option.some.inj this).symm
  subst ev1 ev2;obtain⟨oa,ob,o'⟩:=o';refine⟨_,rfl,wpAny_letOwnedTupleGo_zip (s:={ s with heap:=h',toks:=tk }) z' fun h2 z2' sb=>?_⟩;have fz:s.heap.objs.size≠z:=ai8 (ab7 qz);have Hn:H s.heap.objs.size=none:=I.hok.fresh (aa9 _)
  have kp:∀c o,c∉[z,TI,TO,i1,i2]->s.heap.get? c=some o->h2.get? c=some o:=fun c o hc e=>by
   have hc':c≠z/\c≠TI/\c≠TO/\c≠i1/\c≠i2:=by simpa [not_or]using hc
   exact(sb.2 c hc'.1).trans (kk c o hc'.1 hc'.2.2.1 hc'.2.2.2.1 hc'.2.2.2.2 e)
  have nf:∀{c:Addr} {u:HO},H c=some u->c∉[z,TI,TO,i1,i2]:=fun {c u} e hc=>by
   have:=(hf c hc).1
   rw [e]at this;cases this
  have pr2:h2.get? s.heap.objs.size=some { cls:=.type "tuple",data:=.seq #[v1,v2] }:=(sb.2 _ fz).trans pr
  have I2:aJ X pins Z (upd H s.heap.objs.size (.tup [x,y])) { s with heap:=h2,toks:=tk }:=by
   refine I.step (g':=s.gens) (d':=s.drawn) (ch:=[z,TI,TO,i1,i2]) (fun c hc=>⟨(hf c hc).2.2.2.1,(hf c hc).2.1,(hf c hc).2.2.2.2.1,(hf c hc).2.2.2.2.2⟩) (fun c o _ _ hc e _=>kp c o hc e) (fun c o _ _ hc e _=>⟨o.slots,kp c o hc e⟩)
    (fun c o _ e n=>by rw [aj (ac6 (ab7 e))];exact n) (fun c o hc e=>⟨o,kp c o hc e⟩) (fun c us e=>by rw [aj (au e Hn)];exact e) (fun c o u e=>by rw [aj (au e Hn)];exact e)
    (fun c ps e=>⟨#[],by rw [aj (au e Hn),e];simp⟩) (fun m hm=>?_) (fun c u e=>?_) I.bare
   ·obtain⟨o,es,ep,ho,r⟩:=hm
    exact⟨o,es,ep,kp _ o (fun q=>(hf _ q).2.1 rfl) ho,r⟩
   ·by_cases hcs:c=s.heap.objs.size
    ·subst hcs
     rw [ag]at e;cases e;exact⟨by rw [sizeLine_eq];show 2<=16777216;omega,[v1,v2],.cons rx (.cons ry .nil),_,pr2,rfl,_,rfl⟩
    ·rw [aj hcs]at e
     refine(I.hok c u e).stay (fun d o hd q=>kp d o ?_ q) (fun d q=>by rw [aj (au q Hn)];exact q) fun d us q=>by rw [aj (au q Hn)];exact q
     rcases hd with hd | hd
     ·rw [hd];exact nf e
     ·exact nf hd
  refine⟨.ref s.heap.objs.size,_,I2,rfl,⟨_,x,y,rfl,Hn,rfl,fun us hu=>by rw [I.seqB_inj hu q1];exact hx,fun us hu=>by rw [I.seqB_inj hu q2];exact hy⟩,⟨z2',?_,⟨oa,ob,?_⟩,?_,?_⟩,fun c hc=>?_⟩
  ·exact(sb.2 _ d1.symm).trans (kk TI _ d1.symm d5 d6 d7 qI)
  ·exact(sb.2 _ d2.symm).trans o'
  ·exact s1'.1.at fun o e=>(sb.2 _ d3.symm).trans e
  ·exact s2'.1.at fun o e=>(sb.2 _ d4.symm).trans e
  ·show upd H s.heap.objs.size (.tup [x,y]) c=none
   have lt:c < s.heap.objs.size:=by
    have hc':c=z\/c=TI\/c=TO\/c=i1\/c=i2:=by simpa using hc
    rcases hc' with e | e | e | e | e
    ·subst e;exact ab7 qz
    ·subst e;exact ab7 qI
    ·subst e;exact ab7 qO
    ·subst e;obtain⟨o,e,_⟩:=u1.obj;exact ab7 e
    ·subst e;obtain⟨o,e,_⟩:=u2.obj;exact ab7 e
   rw [aj (ac6 lt)];exact(hf c hc).1
 ·rintro X hP hw hK hc i pins s Z H E I hf ⟨qz,qI,⟨a,b,qO⟩,u1,u2⟩ ⟨xs,ys,q1,q2,hend⟩
  subst hP hw hK;have hh:X.A.in1.handled=none:=I.ok.hd hc;obtain⟨its1,r1,p1,z1⟩:=I.seqB q1;obtain⟨its2,r2,p2,z2⟩:=I.seqB q2;have D1:=fu (P:=X.prog) (w:=X.w) hh l1 i1 a1 (I.seqB_ne q1 (hf i1 (by simp))) its1.toArray;have D2:=fu (P:=X.prog) (w:=X.w) hh l2 i2 a2 (I.seqB_ne q2 (hf i2 (by simp))) its2.toArray
  have kk:i=its1.toArray.size\/(i < its1.toArray.size/\i=its2.toArray.size):=by
   rw [ab1,ab1,<-r1.length,<-r2.length];exact hend
  refine L3.nextZip_end D1 D2 (zap I hf q1 q2) qz qI qO ⟨u1,p1⟩ ⟨u2,p2⟩ kk fun h' tk k=>⟨rfl,?_⟩
  have nf:∀{c:Addr} {u:HO},H c=some u->c∉[z,TI,TO,i1,i2]:=fun {c u} e hc=>by
   have:=(hf c hc).1
   rw [e]at this;cases this
  have kp:∀c o,c∉[z,TI,TO,i1,i2]->s.heap.get? c=some o->h'.get? c=some o:=fun c o hc e=>by
   have hc':c≠z/\c≠TI/\c≠TO/\c≠i1/\c≠i2:=by simpa [not_or]using hc
   exact k c o hc'.1 hc'.2.2.1 hc'.2.2.2.1 hc'.2.2.2.2 e
  refine I.step (g':=s.gens) (d':=s.drawn) (ch:=[z,TI,TO,i1,i2]) (fun c hc=>⟨(hf c hc).2.2.2.1,(hf c hc).2.1,(hf c hc).2.2.2.2.1,(hf c hc).2.2.2.2.2⟩) (fun c o _ _ hc e _=>kp c o hc e) (fun c o _ _ hc e _=>⟨o.slots,kp c o hc e⟩)
    (fun c o _ e n=>n) (fun c o hc e=>⟨o,kp c o hc e⟩) (fun c us e=>e) (fun c o u e=>e) (fun c ps e=>⟨#[],by rw [e];simp⟩) (fun m hm=>?_) (fun c u e=>?_) I.bare
  ·obtain⟨o,es,ep,ho,r⟩:=hm
   exact⟨o,es,ep,kp _ o (fun q=>(hf _ q).2.1 rfl) ho,r⟩
  ·refine(I.hok c u e).stay (fun d o hd q=>kp d o ?_ q) (fun d q=>q) fun d us q=>q
   rcases hd with hd | hd
   ·rw [hd];exact nf e
   ·exact nf hd
 ·rintro A i s Q E ⟨qz,_⟩ h
  exact wpAny_pyIter_zip qz h
def EA(K:Frag)(ta:TA):TI:=fun Z H R=>ta Z H fun vs H1=>∃l1 l2 a1 a2,vs=[.ref a1,.ref a2]/\(∃xs,gp K l1 H1 a1 xs)/\(∃ys,gp K l2 H1 a2 ys)/\R (FJ K l1 l2 a1 a2) H1
theorem Dx{elts:List Expr}{kt:Nat}{pt:Pos}{a b:Expr}{ta:TA}{p pos:Pos}(hg:Gl X "zip")(hm:X.mg "zip"=none)(ha:PA X [a,b] ta)(hs:starEach [a,b] X.env=[(false,eval a X.env),(false,eval b X.env)]:=by rfl)(hs2:starEach [b] X.env=[(false,eval b X.env)]:=by rfl):
  PI X (.Tuple elts kt pt) (.Call (.Name "zip" p) [a,b] [] pos) (EA X.K ta):=by
 intro pins s Z H R I h;refine Call_ (eX I hg hm boot_zip (PyProof.Rows.callWith_type1 (ck (ha pos pins s Z H _ I h) fun us s1 zq0=>?_) (by rw [hs,hs2]) (by rw [hs2];rfl)));obtain⟨vs,H1,I1,r1,q1⟩:=zq0;obtain⟨l1,l2,a1,a2,e,⟨xs,q1⟩,⟨ys,q2⟩,q⟩:=q1;subst e;obtain⟨u,u',rfl,e1,e2⟩:=tP r1;cases e1;cases e2;obtain⟨its1,r1,p1,z1⟩:=I1.seqB q1;obtain⟨its2,r2,p2,z2⟩:=I1.seqB q2;refine L3.call_zip p1 p2 fun h' qz qI qO g1 g2 sz kp=>wpAny_pyIter_zip qz ?_
 refine⟨s1.heap.objs.size+4,[s1.heap.objs.size+4,s1.heap.objs.size+2,s1.heap.objs.size+3,s1.heap.objs.size,s1.heap.objs.size+1],_,_,H1,rfl,I1.kept (h':=h') (t':=s1.toks) kp,
  Ak l1 l2 a1 a2 _ _ _ _ _ (by simp),⟨qz,qI,⟨_,_,qO⟩,jH.rec g1,jH.rec g2⟩,fun c hc=>?_,q⟩
 have hc':s1.heap.objs.size<=c:=by
  have:c=s1.heap.objs.size+4\/c=s1.heap.objs.size+2\/c=s1.heap.objs.size+3\/c=s1.heap.objs.size\/c=s1.heap.objs.size+1:=by simpa using hc
  rcases this with e | e | e | e | e<;>(rw [e];first | exact aa9 _ | exact Nat.le_add_right _ _)
 exact I1.fpOk hc' (I1.hok.fresh hc')
def Ite(K:Frag)(a:Addr):It:=
 ⟨fun i H=>∃xs x,aL K H a xs/\xs[i]?=some x,
  fun i H v H'=>∃p x,v=.ref p/\H p=none/\H'=upd H p (.tup [.int i,x])/\∀xs,aL K H a xs->xs[i]?=some x,
  fun i H=>∃xs,aL K H a xs/\i=xs.length⟩
def Ex(K:Frag)(ta:TA):TI:=fun Z H R=>ta Z H fun vs H1=>∃a,vs=[.ref a]/\(∃xs,aL K H1 a xs)/\R (Ite K a) H1
end L2
namespace L2
open PySem PySem.W PySem.Spec PySem.Calls PyProof.Rows
variable {x:Str}
def GB:Nat:=1048576
theorem jY:∀{ns:List Int},WData.weightAll (ns.map WData.int)<=2 ^ 20->∀x∈ns,x.natAbs < 2 ^ GB
 | [],_,_,h=>nomatch h
 | n::ns,hw,x,h=>by
  have e:WData.weightAll ((n::ns).map WData.int)=(if n == 0 then 0 else n.natAbs.log2+1)+1+WData.weightAll (ns.map WData.int):=by
   simp only [ad7,WData.weightAll,WData.weight]
  rw [e]at hw;rcases aa8.mp h with rfl | h
  ·by_cases h0:x=0
   ·subst h0;exact Nat.two_pow_pos _
   ·have hb:(x == 0)=false:=by simpa using h0
    rw [hb]at hw
    have hl:x.natAbs.log2 < GB:=by
     have:(2:Nat) ^ 20=GB:=by decide
     rw [<-this];simp only [ad9,if_false]at hw;omega
    exact(Nat.log2_lt (by omega)).mp hl
  ·exact jY (ns:=ns) (by omega) x h
theorem xF{ns:List Int}(h:WData.layableAll [WData.list (ns.map WData.int)]=true):∀x∈ns,x.natAbs < 2 ^ GB:=by
 have h1:=(layableW_iff.mp (layableW_arg h _ ad8)).2.2;exact jY (by simpa only [WData.weight]using h1)
theorem walk_ofB{l:PySem.W.OpenLaw}{n k:Nat}{q:Program}{loose:List Str}{XP:(Str->Option Value)->Heap->Prop}{YP:World->Heap->Prop}{d:DefRec}{K:Params->Frag}{CX:World->Ap}{sp:World->Sp}
  (hn:l.most=some n) (hn2:n<=sizeLine) (hdf:d.params.defaults=[]) (hr:dy k callerA)
  (hY:∀(w:World) (h:Heap),YP w h->(K w.params).In h)
  (F:∀(w:World) (mg:Str->Option Value) (fa:Addr) (h:Heap),(K w.params).In h->h.Ns mainGlobals mg->mg d.name=some (.ref fa)->
   ∃fd:FuncData,(∀(s:Shared) (u:Value),BindsTo s fd ⟨[u],[]⟩ [(x,u)])/\∀base:Heap,(K w.params).In base->base.Ns mainGlobals mg->aN l.prog w (K w.params) mg base (CX w) k fa fd [x] (sp w))
  (hsp:∀(w:World) (H:Hp) (a:Addr) (ns:List Int),ns.length<=n->(∀x∈ns,x.natAbs < 2 ^ GB)->CL H->aL (K w.params) H a (ns.map V.int)->sp w [.ref a] H (fun v _=>v=.bl true) fun _ _ _=>False)
  (hCX:∀(w:World) (H:Hp) (s:Shared) (e:Value) (s':Shared),CX w [] H s (fun _ _ _=>False) e s'->False) :
  PySem.W.WalkO q loose XP YP l.row.toRowW d [] (fun f vs=>PySem.call f vs):=by
 intro w Zh Zg mg mb G Y fa o pm cd doc dV kV ho hd hcd hD hmg hg args vals as hpre hlay hrd hwl hlo;obtain rfl:dV=.none:=Dflts.none hD hdf;obtain rfl:kV=.none:=Dflts.noKw hD;obtain⟨a,vs,ns,rfl,rfl,hobj,hints,hlen⟩:=Att.script_of hn hpre hwl;have KX:=hY w _ Y;obtain⟨fd,hb,hF⟩:=F w mg fa _ KX G.T.g hmg;refine enter_call (ap5 (yV KX G.T.g G.T.b G.T.builtins G.T.nolimit hg hobj hints (ab9 hlen hn2) hr hF hb (fun H hO hS=>hsp w H a ns hlen (xF hlay) hO hS) fun H e s'=>hCX w H Zg e s') fun r s' hq=>?_);obtain⟨rfl,h2,h3,h4⟩:=hq;exact⟨.inl ⟨.bool true,.bool true,[],rfl,fun _=>rfl,.bool true,Att.post_true l _,fun _=>⟨List.Pairwise.nil,fun _ hm=>(nomatch hm)⟩⟩,h2,h3,h4⟩
structure bp(K:Frag)(x:Str)(st:Stmt)(f:Addr)(fd:FuncData):Prop where
 ns:nsIn K mainGlobals x=some (some (.ref f))
 fn:cM K x x st f fd
theorem defAt_mk{K:Frag}{st:Stmt}{f:Addr}{oc:Value}{od an:Option Addr}{osl:Array (Option Value)}{kV doc pm cdv ct:Value}(a:nsIn K mainGlobals x=some (some (.ref f)))
  (l:K.lookup f=some ⟨oc,od,.func (fnOf x x (cZ st) (cH st) (ao st) .none kV doc pm an cdv ct),osl⟩) (c:codeIn K cdv x=true) (k:keepIn K (.ref f)=true):∃f fd,bp K x st f fd:=
 ⟨f,_,a,fun_mk l c k⟩
theorem bp.df{P:Program}{w:World}{K:Frag}{mg:Str->Option Value}{base h:Heap}{st:Stmt}{f:Addr}{fd:FuncData}{k:Nat}{ps:List Str}{sp:Sp}(A:bp K x st f fd)(X:K.In h)(G:h.Ns mainGlobals mg)
  (ok:aN P w K mg base cc k f fd ps sp) (b:dE K fd ps []):bR P w K mg base x k ps sp:=⟨f,fd,ok,mg_of X G A.ns,A.fn.kp,b⟩
end L2
namespace L2
open PySem PySem.Spec PyProof.Rows
variable {H:Hp} {K:Frag} {Q:VK} {X:Cx} {a:Addr} {e:Expr} {es:List Expr} {f:Value->Value->Sem Value} {i j:Int} {k n:Nat} {mg:Str->Option Value} {ta:TE} {v x y:V} {xs:List V} {z:Str} {Z:St}
def wo(g:TG)(tb:TS)(D:jF)(Z:St)(J:It)(H:Hp):Prop:=∃W:Nat->Nat->St->Hp->Prop,(∃m,W 0 m Z H)/\∀i m Z H,W i m Z H->
 (J.stop i H/\D.nx Z H)\/(J.go i H/\∃N:St->Hp->Prop,(∀Zc H',N Zc H'->∃m',m' < m/\W (i+1) m' Zc H')/\∀x H',J.yld i H x H'->g x Z H' fun Zf H2=>tb { D with nx:=N,ct:=N,bk:=D.nx } Zf H2)
theorem v9(wi:TI)(g:TG)(tb:TS)(D:jF)(Z:St)(H:Hp):Ff wi g tb D Z H=wi Z H (fun J H1=>wo g tb D Z J H1):=rfl
def mQ(n:Nat)(js:List Nat)(g:TG)(tt:TT)(te:TE)(Z:St)(F:List V->Hp->Prop)(J:It)(H:Hp):Prop:=vB J n js g tt te Z H F
theorem Aa(n:Nat)(js:List Nat)(wi:TI)(g:TG)(tt:TT)(te:TE)(Z:St)(H:Hp)(Q:VK):
  tM n js wi g tt te Z H Q=wi Z H (fun J H1=>mQ n js g tt te Z (fun ys H2=>∀p,H2 p=none->Q (.ref p) (upd H2 p (.lst ys))) J H1):=rfl
section
variable {g:TG} {tb:TS} {D:jF}
theorem cD(Pv:Nat->St->Hp->Prop)(h0:Pv 0 Z H)(hl:∀i Z H,i<=xs.length->Pv i Z H->aL K H a xs)
  (hs:∀i x Z H,xs[i]?=some x->Pv i Z H->g x Z H fun Zf H2=>tb { D with nx:=Pv (i+1),ct:=Pv (i+1),bk:=D.nx } Zf H2) (hd:∀Z H,Pv xs.length Z H->D.nx Z H):wo g tb D Z (xW K a) H:=yx Pv h0 hl hs hd
theorem yX(Pv:Nat->St->Hp->Prop)(h0:Pv 0 Z H)(hl:∀i Z H,i<=xs.length->Pv i Z H->bH K H a xs)
  (hs:∀i x Z H,xs[i]?=some x->Pv i Z H->g x Z H fun Zf H2=>tb { D with nx:=Pv (i+1),ct:=Pv (i+1),bk:=D.nx } Zf H2) (hd:∀Z H,Pv xs.length Z H->D.nx Z H):wo g tb D Z (Ce K a) H:=AS Pv h0 hl hs hd
theorem cB{lo:Int}(Pv:Nat->St->Hp->Prop)(h0:Pv 0 Z H)
  (hs:∀i Z H,i < n->Pv i Z H->g (.int (lo+i)) Z H fun Zf H2=>tb { D with nx:=Pv (i+1),ct:=Pv (i+1),bk:=D.nx } Zf H2) (hd:∀Z H,Pv n Z H->D.nx Z H):wo g tb D Z (wm lo n) H:=wU Pv h0 hs hd
end
section
variable {js:List Nat} {g:TG} {tt:TT} {te:TE} {F:List V->Hp->Prop}
theorem lR{lo:Int}(Pv:Nat->List V->Hp->Prop)(hk:k<=sizeLine)(h0:Pv 0 [] H)(hn:∀i ys H,Pv i ys H->ys.length<=i)
  (hs:∀i ys H,i < k->Pv i ys H->gq n js g tt te Z (.int (lo+i)) ys H (Pv (i+1))) (hd:∀ys H,Pv k ys H->F ys H):mQ n js g tt te Z F (wm lo k) H:=t6 Pv hk h0 hn hs hd
theorem cz(Pv:Nat->List V->Hp->Prop)(hk:xs.length<=sizeLine)(h0:Pv 0 [] H)(hn:∀i ys H,Pv i ys H->ys.length<=i)(hl:∀i ys H,Pv i ys H->aL K H a xs)
  (hs:∀i x ys H,xs[i]?=some x->Pv i ys H->gq n js g tt te Z x ys H (Pv (i+1))) (hd:∀ys H,Pv xs.length ys H->F ys H):mQ n js g tt te Z F (xW K a) H:=wH Pv hk h0 hn hl hs hd
theorem wC(Pv:Nat->List V->Hp->Prop)(hk:z.length<=sizeLine)(h0:Pv 0 [] H)(hn:∀i ys H,Pv i ys H->ys.length<=i)
  (hs:∀i c ys H,z.cps.toList[i]?=some c->Pv i ys H->gq n js g tt te Z (.str ⟨#[c]⟩) ys H (Pv (i+1))) (hd:∀ys H,Pv z.length ys H->F ys H):mQ n js g tt te Z F (Ay z) H:=yb Pv hk h0 hn hs hd
theorem wD{l1 l2:Bool}{a1 a2:Addr}{us vs:List V}(Pv:Nat->List V->Hp->Prop)(hk:us.length<=sizeLine)(he:us.length=vs.length)(h0:Pv 0 [] H)(hn:∀i ys H,Pv i ys H->ys.length<=i)(hl:∀i ys H,Pv i ys H->gp K l1 H a1 us/\gp K l2 H a2 vs)
  (hs:∀i x y ys H p,us[i]?=some x->vs[i]?=some y->Pv i ys H->H p=none->gq n js g tt te Z (.ref p) ys (upd H p (.tup [x,y])) (Pv (i+1))) (hd:∀ys H,Pv us.length ys H->F ys H):mQ n js g tt te Z F (FJ K l1 l2 a1 a2) H:=by
 refine⟨fun i m ys H=>m=us.length - i/\i<=us.length/\Pv i ys H,⟨us.length,by simp,ad3 _,h0⟩,?_⟩;rintro i m ys H ⟨rfl,hi,p⟩;obtain⟨q1,q2⟩:=hl i ys H p
 by_cases hlt:i < us.length
 ·refine .inr ⟨⟨us,vs,us[i],vs[i],q1,q2,by simp [hlt],by simp [he▸hlt]⟩,ad2 (hn i ys H p) (ab0 hlt hk),Pv (i+1),fun Zc H' p'=>⟨us.length - (i+1),by omega,rfl,hlt,p'⟩,fun x H' y=>?_⟩
  obtain⟨pp,u,v,e,hp,e2,y1,y2⟩:=y;subst e e2;exact hs i u v ys H pp (y1 us q1) (y2 vs q2) p hp
 ·have e:i=us.length:=by omega
  subst e;exact .inl ⟨⟨us,vs,q1,q2,.inl rfl⟩,hd ys H p⟩
end
theorem CQ{CX:Ap}{P:Program}{w:World}{base:Heap}{N:List Str}{qual:Str}{scope:Scope}{f:Addr}{cd:Value}{A:Around}{outer:List Env}{s:Shared}{E:XK}:(r6 CX P w K mg base N qual scope f cd A outer s H E).K=K:=rfl
theorem Ep{scope:Scope}{own:List Str}{js:List Nat}{C:Addr}{s:Shared}{ex:List Addr}{pn:List (Addr×Obj)}{E:Value->Shared->Prop}:(CP X scope own js C s H ex pn E).K=X.K:=rfl
theorem ak{q:Addr}{o:HO}(h:H q=none):ar H (upd H q o):=fun b o' e=>by rw [aj (au e h)];exact e
theorem ar.upd{H1:Hp}{q:Addr}{o:HO}(s:ar H H1)(h:H1 q=none):ar H (upd H1 q o):=s.trans (ak h)
theorem ar.tup{K:Frag}{H H':Hp}{a:Addr}{xs:List V}(e:ar H H')(h:bH K H a xs):bH K H' a xs:=by
 rcases h with h | h
 ·rcases h with h | ⟨o,h⟩
  ·exact .inl (.inl (e _ _ h))
  ·exact .inl (.inr ⟨o,e _ _ h⟩)
 ·exact .inr h
theorem aZ(z:Str):z.length=z.cps.toList.length:=by simp [Str.length]
theorem uX(h:0<=i):(Txt.slice z (some i) none).cps.toList=z.cps.toList.drop i.toNat:=by
 by_cases hi:i<=z.cps.toList.length
 ·rw [show Txt.slice z (some i) none=StrLaws.sliceText z (some i) none from rfl,StrLaws.sliceText_from ⟨h,hi⟩]
  show((z.cps.toList.drop i.toNat).take _)=_
  skip
  exact ag2 (by rw [ag4];omega)
 ·have e:Builtin.Str.strSliceIndices (some i) none 1 z.length=Builtin.Str.strSliceIndices (some (z.length:Int)) none 1 z.length:=sliceIdx_lo_beyond z.length (by rw [aZ];omega)
  have e2:Txt.slice z (some i) none=Txt.slice z (some (z.length:Int)) none:=by unfold Txt.slice;rw [e]
  rw [e2,show Txt.slice z (some (z.length:Int)) none=StrLaws.sliceText z (some (z.length:Int)) none from rfl,StrLaws.sliceText_from ⟨by omega,by rw [aZ];omega⟩];show((z.cps.toList.drop _).take _)=_;rw [aZ,ae4,ap3,List.take_nil,List.drop_eq_nil_of_le (by omega)]
theorem vk(z:Str)(c:Nat):Txt.startswith z ⟨#[c]⟩=decide (z.cps.toList.head?=some c):=by
 obtain⟨⟨l⟩⟩:=z
 unfold Txt.startswith
 rw [StrLaws.subAt_eq]
 cases l with
 | nil=>simp [Str.length]
 | cons a l=>
  simp [Str.length];rw [ah4];simp
theorem kB(x y:Str):decide (x=y)=decide (x.cps.toList=y.cps.toList):=by
 by_cases h:x=y
 ·subst h;simp
 ·rw [decide_eq_false h]
  symm
  apply decide_eq_false;intro e;apply h;obtain⟨⟨a⟩⟩:=x;obtain⟨⟨b⟩⟩:=y;simp at e;subst e;rfl
theorem Ee(x y:Str):(x++y).cps.toList=x.cps.toList++y.cps.toList:=by
 show(x.cps++y.cps).toList=_;rw [ah5]
theorem aP{α:Type}{xs:List α}{v:α}(h:xs.head?=some v):dC xs 0=some v:=by
 cases xs with
 | nil=>cases h
 | cons a l=>cases h;exact aA (j:=0) rfl
theorem Dl(K:Frag)(h:X.K=K:=by rfl):cX X (binaryOp .Add) (eT K):=h▸opAdd
theorem zg(K:Frag)(h:X.K=K:=by rfl):cX X (compareOp .In) (uL K):=h▸F1
theorem nJ(K:Frag)(h:X.K=K:=by rfl):cX X (compareOp .NotIn) (mG K):=h▸Br
theorem ko(K:Frag)(h:X.K=K:=by rfl):As X (uO K):=h▸slA
theorem aG(K:Frag)(h:X.K=K:=by rfl):xR X (pe K):=h▸ixA
theorem bE(K:Frag){tg l:Expr}{tl:TE}(hl:PE X l tl)(h:X.K=K:=by rfl):PI X tg l (Ft (BN K) tl):=h▸Dw hl
theorem aC(K:Frag)(h:X.K=K:=by rfl):cC X (.builtin "len") (fun xs H Q=>(∃z,xs=[.str z]/\z.length<=sizeLine/\Q (.int z.length) H)\/∃p ys,xs=[.ref p]/\(aL K H p ys\/bH K H p ys)/\Q (.int ys.length) H):=h▸wz
theorem cY(K:Frag)(h:X.K=K:=by rfl):cC X (.builtin "isinstance") (fun xs H Q=>∃x n t b,xs=[x,.ty n]/\jL K H x t/\PySem.W.kitOne K t (.type n)=some b/\Q (.bl b) H):=h▸rQ
theorem gr(K:Frag)(hc:X.calm=true)(h:X.K=K:=by rfl):cC X (.builtin "all") (fun xs H Q=>∃(p:Addr) (bs:List Bool),xs=[.ref p]/\aL K H p (bs.map V.bl)/\Q (.bl (bs.all id)) H):=h▸wu hc
theorem fS(K:Frag)(h:X.K=K:=by rfl):cC X (.type "tuple") (fun xs H Q=>∃p ys,xs=[.ref p]/\((aL K H p ys/\∀l,H l=none->Q (.ref l) (upd H l (.tup ys)))\/(bH K H p ys/\Q (.ref p) H))):=h▸oK
theorem eh(K:Frag)(h:X.K=K:=by rfl):cC X (.type "list") (fun xs H Q=>∃p ys,xs=[.ref p]/\(aL K H p ys\/bH K H p ys)/\∀l,H l=none->Q (.ref l) (upd H l (.lst ys))):=h▸qv
theorem cR(K:Frag){t:AA}{pos:Pos}(hc:X.calm=true)(h:Ej X es t)(hK:X.K=K:=by rfl)
  (hn:(assignEach es X.env).length=n:=by rfl) (hst:(assignEach es X.env).findIdx? (·.1)=none:=by rfl):PG X (.Tuple es k pos) (CV K n t):=hK▸Dv hc h hn hst
theorem bJ(K:Frag){o:Expr}{to:TE}{t:TA}{name:Str}{apos cpos:Pos}{T id:String}{r:V->List V->Hp->VK->Prop}(pa:PlainAttrs T)(slot:Slot T name id)(hty:typeOf (.builtin id)=pure (.type "method_descriptor"))(hm:Az X id r)(ho:PE X o to)(ha:PA X (e::es) t)(hK:X.K=K:=by rfl)
  (hbase:attributeBase o name X.env (eval o X.env)=eval o X.env:=by rfl)
  (hfew:((backTo cpos (starEach (e::es) X.env)).all (fun x=>!x.1) && (backToKw cpos (keywordEach [] X.env)).all (fun x=>x.1.isSome)
   && decide ((e::es).length+([]:List Keyword).length+(if ([]:List Keyword).isEmpty then 0 else 1) < 30))=true:=by rfl)
  (hline:(apos.endLine == cpos.line)=true:=by rfl) (hs:starEach (e::es) X.env=(false,eval e X.env)::starEach es X.env:=by rfl) (hplain:(backTo cpos (starEach es X.env)).any (·.1)=false:=by rfl) :
  PE X (.Call (.Attribute o name apos) (e::es) [] cpos) (F7 K T r to t):=hK▸EZ pa slot hty hm ho ha hbase hfew hline hs hplain
def cV:Expr->Option V
 | .Constant (.int i) _ _=>some (.int i)
 | .Constant (.str x) _ _=>some (.str x)
 | .Constant (.bool b) _ _=>some (.bl b)
 | .Constant .none _ _=>some .non
 | _=>none
def Gp(vs:List V):TA:=fun _ H Q=>Q vs H
theorem E1(h:cV e=some v):PE X e (tC v):=by
 unfold cV at h
 split at h
 ·cases h;exact af
 ·cases h;exact bD
 ·cases h;exact jc
 ·cases h;exact aV
 ·cases h
theorem B7(h:cV e=some v):starEach (e::es) X.env=(false,eval e X.env)::starEach es X.env:=by
 unfold cV at h
 split at h<;>first | rfl | cases h
theorem kZ:∀{es:List Expr} {vs:List V},es.map cV=vs.map some->PA X es (Gp vs)
 | [],[],_=>ah
 | [],_::_,h=>by cases h
 | _::_,[],h=>by cases h
 | e::es,v::vs,h=>by
  have h1:cV e=some v:=(List.cons.inj h).1;have h2:es.map cV=vs.map some:=(List.cons.inj h).2;exact aa (E1 h1) (kZ h2) (B7 h1)
def F5:Option V->(V->Prop)->Prop
 | some v,k=>k v
 | none,_=>False
def zI:St->Nat->(V->Prop)->Prop
 | [],_,_=>False
 | o::_,0,k=>F5 o k
 | _::Z,i+1,k=>zI Z i k
theorem pZ{k:V->Prop}:zI (some v::Z) 0 k=k v:=rfl
theorem tw{o:Option V}{i:Nat}{k:V->Prop}:zI (o::Z) (i+1) k=zI Z i k:=rfl
theorem mH{k:V->Prop}:∀{Z:St} {i:Nat},zI Z i k↔∃v,Z[i]?=some (some v)/\k v
 | [],i=>by simp [zI]
 | some v::Z,0=>by simp [zI,F5]
 | none::Z,0=>by simp [zI,F5]
 | o::Z,i+1=>by rw [tw,mH];simp
def DV(i:Nat):TE:=fun Z H Q=>zI Z i fun v=>Q v H
theorem DW(i:Nat):DV i=DY i:=by
 funext Z H Q
 exact propext mH
def Au:V->(Int->Prop)->Prop
 | .int i,k=>k i
 | _,_=>False
theorem mq{k:Int->Prop}:Au (.int i) k=k i:=rfl
theorem jP{k:Int->Prop}:Au v k↔∃i,v=.int i/\k i:=by cases v<;>simp [Au]
def Cf:V->(Bool->Prop)->Prop
 | .bl i,k=>k i
 | _,_=>False
theorem ql{i:Bool}{k:Bool->Prop}:Cf (.bl i) k=k i:=rfl
theorem jO{k:Bool->Prop}:Cf v k↔∃i,v=.bl i/\k i:=by cases v<;>simp [Cf]
def ED(g:Int->Int->V):R2:=fun x y H Q=>Au x fun i=>Au y fun j=>Q (g i j) H
def jI(C:Int->Int->Prop)(g:Int->Int->V):R2:=fun x y H Q=>Au x fun i=>Au y fun j=>C i j/\Q (g i j) H
def jU(g:Int->V):V->Hp->VK->Prop:=fun x H Q=>Au x fun i=>Q (g i) H
def sC(t:TE):TT:=fun Z H Q=>t Z H fun x H1=>Cf x fun k=>Q k H1
def sy(t:TE):TO:=fun Z H Q=>t Z H fun x H1=>Au x fun i=>Q (some i) H1
def yL(i:Nat)(te:TE)(ti:Ed):TS:=fun D Z H=>zI Z i fun x=>te Z H fun y H1=>ti x y H1 fun z H2=>D.nx (Z.set i (some z)) H2
def su(ta tb:TE):TE:=fun Z H Q=>ta Z H fun x H1=>Cf x fun c=>if c=true then tb Z H1 Q else Q (.bl false) H1
def yQ(ta tb:TE):TE:=fun Z H Q=>ta Z H fun x H1=>Cf x fun c=>if c=true then Q (.bl true) H1 else tb Z H1 Q
def sv(ta:TE):TE:=fun Z H Q=>ta Z H fun x H1=>Cf x fun c=>Q (.bl (!c)) H1
theorem A3(i:Nat)(te:TE)(ti:Ed):yL i te ti=z7 i te ti:=by
 funext D Z H
 unfold yL z7;simp only [mH]
theorem yK(ta tb:TE):su ta tb=tK ta tb:=by
 funext Z H Q
 unfold su tK;simp only [jO]
theorem A6(ta tb:TE):yQ ta tb=Ah ta tb:=by
 funext Z H Q
 unfold yQ Ah;simp only [jO]
theorem yP(ta:TE):sv ta=tO ta:=by
 funext Z H Q
 unfold sv tO;simp only [jO]
theorem C4(g:Int->Int->V):ED g=tS g:=by
 funext x y H Q
 unfold ED tS;simp only [jP,exists_and_left]
theorem EE(C:Int->Int->Prop)(g:Int->Int->V):jI C g=rI C g:=by
 funext x y H Q
 unfold jI rI;simp only [jP,exists_and_left]
theorem EG(g:Int->V):jU g=rU g:=by
 funext x H Q
 unfold jU rU;simp only [jP]
theorem yS(t:TE):sC t=p9 t:=by
 funext Z H Q
 unfold sC p9;simp only [jO]
theorem yR(t:TE):sy t=we t:=by
 funext Z H Q
 unfold sy we;simp only [jP]
def xT(r:R2):R2
 | .int i,.int j,H,Q=>Q (.bl (decide (i=j))) H
 | .str i,.str j,H,Q=>Q (.bl (decide (i=j))) H
 | x,y,H,Q=>r x y H Q
def xU(r:R2):R2
 | .int i,.int j,H,Q=>Q (.bl (!decide (i=j))) H
 | .str i,.str j,H,Q=>Q (.bl (!decide (i=j))) H
 | x,y,H,Q=>r x y H Q
def nh(r:R2):R2
 | .int i,.int j,H,Q=>Q (.int (i+j)) H
 | x,y,H,Q=>r x y H Q
def ui(r:R2):R2
 | .int i,.int j,H,Q=>IntMulOk i j/\Q (.int (i * j)) H
 | x,y,H,Q=>r x y H Q
theorem qy{r:R2}:xT r (.int i) (.int j) H Q=Q (.bl (decide (i=j))) H:=rfl
theorem qA{r:R2}{i j:Str}:xT r (.str i) (.str j) H Q=Q (.bl (decide (i=j))) H:=rfl
theorem qB{r:R2}:xU r (.int i) (.int j) H Q=Q (.bl (!decide (i=j))) H:=rfl
theorem qC{r:R2}{i j:Str}:xU r (.str i) (.str j) H Q=Q (.bl (!decide (i=j))) H:=rfl
theorem my{r:R2}:nh r (.int i) (.int j) H Q=Q (.int (i+j)) H:=rfl
theorem mz{r:R2}:ui r (.int i) (.int j) H Q=(IntMulOk i j/\Q (.int (i * j)) H):=rfl
theorem yM{r:R2}(h1:∀i j H Q,r (.int i) (.int j) H Q↔Q (.bl (decide (i=j))) H)(h2:∀i j H Q,r (.str i) (.str j) H Q↔Q (.bl (decide (i=j))) H):xT r=r:=by
 funext x y H Q
 unfold xT
 split
 ·exact propext (h1 _ _ _ _).symm
 ·exact propext (h2 _ _ _ _).symm
 ·rfl
theorem yO{r:R2}(h1:∀i j H Q,r (.int i) (.int j) H Q↔Q (.bl (!decide (i=j))) H)(h2:∀i j H Q,r (.str i) (.str j) H Q↔Q (.bl (!decide (i=j))) H):xU r=r:=by
 funext x y H Q
 unfold xU
 split
 ·exact propext (h1 _ _ _ _).symm
 ·exact propext (h2 _ _ _ _).symm
 ·rfl
theorem vP{r:R2}(h1:∀i j H Q,r (.int i) (.int j) H Q↔Q (.int (i+j)) H):nh r=r:=by
 funext x y H Q
 unfold nh
 split
 ·exact propext (h1 _ _ _ _).symm
 ·rfl
theorem A5{r:R2}(h1:∀i j H Q,r (.int i) (.int j) H Q↔IntMulOk i j/\Q (.int (i * j)) H):ui r=r:=by
 funext x y H Q
 unfold ui
 split
 ·exact propext (h1 _ _ _ _).symm
 ·rfl
theorem Cw:xT sZ=sZ:=yM (fun _ _ _ _=>uJ) (fun _ _ _ _=>uK)
theorem Cz:xU tT=tT:=yO (fun _ _ _ _=>uM) (fun _ _ _ _=>uN)
theorem yI(K:Frag):nh (eT K)=eT K:=vP fun _ _ _ _=>nR
theorem EC:xT sZ x y H Q↔sZ x y H Q:=by rw [Cw]
theorem EF:xU tT x y H Q↔tT x y H Q:=by rw [Cz]
theorem AY:nh (eT K) x y H Q↔eT K x y H Q:=by rw [yI]
theorem pr(i:Nat){x:Str}{pos:Pos}(hN:X.N[i]?=some x:=by rfl)(hv:Fp X.env.scope x:=by first | exact Or.inl rfl | exact Or.inr (Or.inl rfl) | exact Or.inr (Or.inr rfl))(hd:(x == ("__debug__":Str))=false:=by decide)
  (hcd:(x == ("__classdict__":Str))=false:=by decide):PE X (.Name x pos) (DV i):=by
 rw [DW];exact Du hN hv hd hcd
theorem o0{g:Int->Int->V}(h:cX X f (tS g)):cX X f (ED g):=by rw [C4];exact h
theorem o1{C:Int->Int->Prop}{g:Int->Int->V}(h:cX X f (rI C g)):cX X f (jI C g):=by rw [EE];exact h
theorem u1{f:Value->Sem Value}{g:Int->V}(h:Em X f (rU g)):Em X f (jU g):=by rw [EG];exact h
theorem kX:cX X (compareOp .Eq) (xT sZ):=by rw [Cw];exact opEq
theorem Av:cX X (compareOp .NotEq) (xU tT):=by rw [Cz];exact opNe
theorem bz(K:Frag)(h:X.K=K:=by rfl):cX X (binaryOp .Add) (nh (eT K)):=by rw [yI];exact Dl K h
theorem bh{t:TE}(h:PT X e (p9 t)):PT X e (sC t):=by rw [yS];exact h
theorem E6{st:Stmt}{i:Nat}{te:TE}{ti:Ed}(h:PS X st (z7 i te ti)):PS X st (yL i te ti):=by rw [A3];exact h
theorem vV{tb:TE}(h:PE X e (tK ta tb)):PE X e (su ta tb):=by rw [yK];exact h
theorem E3{tb:TE}(h:PE X e (Ah ta tb)):PE X e (yQ ta tb):=by rw [A6];exact h
theorem E2(h:PE X e (tO ta)):PE X e (sv ta):=by rw [yP];exact h
theorem ka{t:TE}(h:PE X e t):PO X (some e) (sy t):=by rw [yR];exact BG h
theorem itN{p:Prop}[d:Decidable p]{A B:Prop}:(if (!decide p)=true then A else B)=(if p then B else A):=by
 by_cases h:p<;>simp [h]
theorem itD{p:Prop}[d:Decidable p]{A B:Prop}:(if decide p=true then A else B)=(if p then A else B):=by
 by_cases h:p<;>simp [h]
theorem FT{t u:TS}{D:jF}(C:St->Hp->Prop)(h2:∀Z H,C Z H->u D Z H)(h1:∀u':TS,(∀Z H,C Z H->u' D Z H)->hV t u' D Z H):hV t u D Z H:=h1 u h2
theorem aH{t u:TS}{D:jF}{Z:St}{H:Hp}(C:St->Hp->Prop)(h1:∀u':TS,(∀Z H,C Z H->u' D Z H)->hV t u' D Z H)(h2:∀R:TS,(∀Z H,u D Z H->R D Z H)->∀Z H,C Z H->R D Z H):hV t u D Z H:=h1 u (h2 u fun _ _ z=>z)
theorem bR.up{P:Program}{w:World}{base:Heap}{x:Str}{j:Nat}{ps:List Str}{sp:Sp}(d:bR P w K mg base x j ps sp)(h:j<=k):bR P w K mg base x k ps sp:=
 let ⟨f,fd,F,r⟩:=d.ex;⟨f,fd,F.mono h,r⟩
theorem const_mk{x:Str}{u:Value}(e:nsIn K mainGlobals x=some (some u))(r:aS v u):∃u,nsIn K mainGlobals x=some (some u)/\aS v u:=⟨u,e,r⟩
theorem CO{b k:Bool}:AD K (.bl b) H k↔k=b:=Iff.rfl
theorem Fj:Fi K "str" (.str z) H↔True:=⟨fun _=>trivial,fun _=>rfl⟩
theorem str_iff{x y:Str}:x=y↔x.cps.toList=y.cps.toList:=by
 constructor
 ·intro e;rw [e]
 ·intro e
  obtain⟨⟨a⟩⟩:=x;obtain⟨⟨b⟩⟩:=y;simp at e;subst e;rfl
open AutoSeq1 (wpAny_loadPart')
theorem kW:fillsNumberSlot (.type "tuple") "mul"=pure false:=
 PySem.fillsNumberSlot_seq (id:="tuple.__mul__") (r:=some (.builtin "tuple.__rmul__")) F.slot_tuple_mul.lookup (by decide +kernel) F.slot_tuple_rmul.lookup (by decide +kernel)
theorem rh:seqRepeat? (.type "tuple")=pure (some (.builtin "tuple.__mul__")):=by
 unfold seqRepeat?;rw [PySem.seqSlot_of (T:="tuple") (name:="__mul__") (id:="tuple.__mul__") F.slot_tuple_mul.lookup (by decide +kernel),PySem.seqSlot_of (T:="tuple") (name:="__rmul__") (id:="tuple.__rmul__") F.slot_tuple_rmul.lookup (by decide +kernel)];rfl
theorem m7(a:Int)(t:Tok)(l:Addr)(items:Array Value)(n:Nat)(dd:Option Addr)(sl:Array (Option Value)):
  Meets (Builtin.«int.__rmul__» ⟨[.int a t,.ref l],[]⟩) (fun _ R s=>s.heap.get? l=some { cls:=.type "tuple",dict:=dd,data:=.seq items n,slots:=sl }/\R (.ok (.ret Value.notImplemented)) s):=
 .of_wp fun prog w A R s h=>by obtain⟨hp,g,d,tk,os⟩:=s;obtain⟨hl,h⟩:=h;wp_walk;exact⟨_,rfl,h⟩
theorem vw(l:Addr)(items:Array Value)(n:Nat)(dd:Option Addr)(sl:Array (Option Value))(u:Tok):
  Meets (Builtin.«tuple.__mul__» ⟨[.ref l,.int 1 u],[]⟩) (fun _ R s=>s.heap.get? l=some { cls:=.type "tuple",dict:=dd,data:=.seq items n,slots:=sl }/\R (.ok (.ret (Value.ref l))) s):=
 .of_wp fun prog w A R s h=>by
  obtain⟨hp,g,d,tk,os⟩:=s;obtain⟨hl,h⟩:=h;have hT:Shared.TypeIs ⟨hp,g,d,tk,os⟩ (.ref l) "tuple":=⟨_,hl,rfl⟩
  wp_walk using aj3 hl,al2 hT
  exact⟨_,rfl,h⟩
theorem mZ{α:Type}(xs:Array α):∀(n:Nat) (acc:Array α),((List.replicate n xs).foldl (· ++ ·) acc).size=acc.size+n * xs.size
 | 0,acc=>by simp
 | n+1,acc=>by
  rw [af0,ae6,mZ xs n,ao5,an8];omega
theorem vx(l:Addr)(items:Array Value)(n:Nat)(dd:Option Addr)(sl:Array (Option Value))(x:Int)(u:Tok)(h1:1 < x)(h2:x < 1000000)(h0:items.isEmpty=false)(hz:items.size * x.toNat<=sizeLine):
  Meets (Builtin.«tuple.__mul__» ⟨[.ref l,.int x u],[]⟩) (fun _ R s=>s.heap.get? l=some { cls:=.type "tuple",dict:=dd,data:=.seq items n,slots:=sl }/\R (.ok (.ret (Value.ref s.heap.objs.size))) { s with heap:=s.heap.push { cls:=Value.type "tuple",data:=Data.seq ((List.replicate x.toNat items).foldl (· ++ ·) #[]) } }):=
 .of_wp fun prog w A R s h=>by
  obtain⟨hp,g,d,tk,os⟩:=s;obtain⟨hl,h⟩:=h;have hT:Shared.TypeIs ⟨hp,g,d,tk,os⟩ (.ref l) "tuple":=⟨_,hl,rfl⟩
  wp_walk using aj3 hl,al2 hT
  refine aj4 (by rw [decide_eq_false (show ¬x < -2 ^ 63 by omega),decide_eq_false (show ¬x>=2 ^ 63 by omega)];rfl) ?_
  wp_walk using aj3 hl,al2 hT
  refine aj4 (by rw [h0];simp;omega) ?_;refine aj4 (by rw [h0];simp;omega) ?_
  have e:(items.size:Int) * x=((items.size * x.toNat:Nat):Int):=by rw [an4,ak3 (by omega)]
  have hs:sizeLine=16777216:=sizeLine_eq;refine aj4 (decide_eq_false (by rw [e];omega)) ?_
  have hm:¬((items.size:Int) * x > (sizeLine:Int)):=by rw [e];exact_mod_cast ai7.mpr hz
  refine aj4 (by unfold Builtin.Tuple.tupleTooMany;exact decide_eq_false (fun z=>hm (of_decide_eq_true z))) ?_
  have hf:(List.foldl (fun x1 x2=>x1++x2) #[] (List.replicate x.toNat items)).size<=sizeLine:=by
   rw [mZ,Array.size_empty,al1,ap6];exact hz
  wp_walk using aj3 hl,al2 hT
  refine aj4 (decide_eq_false (ai7.mpr hf)) ?_
  wp_walk
  exact⟨_,rfl,h⟩
def zE(K:Frag):R2:=fun x y H Q=>∃l k xs,x=.ref l/\y=.int k/\bH K H l xs/\1<=k/\k < 1000000/\xs≠[]/\xs.length * k.toNat<=sizeLine/\
 (k=1->Q (.ref l) H)/\∀p,H p=none->Q (.ref p) (upd H p (.tup (List.replicate k.toNat xs).flatten))
theorem Bu:cX X (binaryOp .Mult) (zE X.K):=by
 intro pins s Z H x y v u Q I rx ry h;obtain⟨l,k,xs,rfl,rfl,hH,h1,h2,hx,hz,q1,q⟩:=h;cases rx;obtain⟨t,rfl⟩:=ry;obtain⟨its,r,p,hl⟩:=I.tuple hH;obtain⟨⟨cls,dd,data,sl⟩,ho,hc,n,hd⟩:=id p;simp only at hc hd;subst hc hd
 have hlen:its.toArray.size * k.toNat<=sizeLine:=by rw [ab1,<-r.length];exact hz
 refine wpAny_binaryOp_repeat_ref (T:="tuple") (U:="int") (by decide) ⟨_,ho,rfl⟩ (fun s'=>typeIs_int s' k t) kW F.fills_int_mul F.slot_int_rmul rh F.slot_int_index.lookup
  (call_meets F.slot_int_rmul (typeIs_int s k t) F.entry_int_rmul (F.args_int_rmul_2 _ _) (m7 k t l its.toArray n dd sl) ⟨ho,rfl,⟨_,ho,rfl⟩,?_⟩)
 by_cases hk:k=1
 ·subst hk
  exact call_meets F.slot_tuple_mul ⟨_,ho,rfl⟩ F.entry_tuple_mul (F.args_tuple_mul_2 _ _) (vw l its.toArray n dd sl t) ⟨ho,.ref l,H,I,rfl,q1 rfl⟩
 ·have hne:its.toArray.isEmpty=false:=by
   cases its with
   | nil=>exact absurd (r.nil_iff.mp rfl) hx
   | cons a b=>rfl
  refine call_meets F.slot_tuple_mul ⟨_,ho,rfl⟩ F.entry_tuple_mul (F.args_tuple_mul_2 _ _) (vx l its.toArray n dd sl k t (by omega) h2 hne hlen) ⟨ho,?_⟩
  have hnew:List.foldl (fun x1 x2=>x1++x2) #[] (List.replicate k.toNat its.toArray)=(List.replicate k.toNat its).flatten.toArray:=by
   have:=kO its k.toNat []
   rw [List.nil_append]at this;exact this
  refine⟨.ref s.heap.objs.size,_,I.laid (t':=s.toks) (o:=.tup (List.replicate k.toNat xs).flatten) (fun b ob q=>aa4 _ q) (aa9 _) ?_,rfl,q _ (I.hok.fresh (aa9 _))⟩;rw [hnew];exact⟨by rw [qD,ap6];exact hz,_,r.rep k.toNat,IsTup.new _ _⟩
def iC(K:Frag):R2:=fun x y H Q=>vX x y H Q\/zE K x y H Q
theorem Dn(K:Frag)(h:X.K=K:=by rfl):cX X (binaryOp .Mult) (iC K):=h▸opMul.or Bu
theorem tj:iC K (.int i) (.int j) H Q↔IntMulOk i j/\Q (.int (i * j)) H:=by
 simp [iC,zC,zE]
theorem yN(K:Frag):ui (iC K)=iC K:=A5 fun _ _ _ _=>tj
theorem A4:ui (iC K) x y H Q↔iC K x y H Q:=by rw [yN]
theorem gI(K:Frag)(h:X.K=K:=by rfl):cX X (binaryOp .Mult) (ui (iC K)):=by rw [yN];exact Dn K h
end L2
namespace L2
open PySem PySem.Spec PyProof.Rows
variable {m:Nat} {n:Int}
def lN(c:Nat):List Nat->List (List Nat)
 | []=>[[]]
 | a::l=>if a=c then []::lN c l else match lN c l with
  | []=>[[a]]
  | p::r=>(a::p)::r
theorem vb(c:Nat):∀l,lN c l≠[]
 | []=>by simp [lN]
 | a::l=>by
  simp only [lN]
  split
  ·simp
  ·split<;>simp
theorem v5(c:Nat):∀l,(lN c l).length<=l.length+1
 | []=>by simp [lN]
 | a::l=>by
  have h:=v5 c l;simp only [lN]
  split
  ·simp;omega
  ·split
   ·simp
   ·rename_i p r e
    rw [e]at h;simp at h |-;omega
def dk(c:Nat):List Nat->Nat->List Nat
 | [],_=>[]
 | b::l,i=>if b=c then i::dk c l (i+1)else dk c l (i+1)
theorem nE(x:Str)(c:Nat)(lim:Nat):∀(l:List Nat) (i:Nat) (acc:Array Nat) (fr:Nat),x.cps.toList.drop i=l->acc.size<=i->fr<=i->x.length < lim->
  (forIn (List.range' i (l.length+1)) (acc,fr) (StrLaws.occBody x ⟨#[c]⟩ x.length lim)).run.fst.toList=acc.toList++dk c l i
 | [],i,acc,fr,hl,ha,hf,hm=>by
  have hi:x.length<=i:=by
   rw [aZ];exact ak0.mp hl
  show(forIn [i] (acc,fr) _:Id _).run.fst.toList=_;rw [af7];unfold StrLaws.occBody;rw [if_neg (by intro h;have:=h.1.2;have e1:(⟨#[c]⟩:Str).length=1:=rfl;rw [e1]at this;omega)];show acc.toList=_;simp [dk]
 | b::l,i,acc,fr,hl,ha,hf,hm=>by
  have hb:x.cps.toList[i]?=some b:=by
   have:(x.cps.toList.drop i)[0]?=some b:=by rw [hl];rfl
   rwa [ag9,ap8]at this
  have hi:i < x.length:=by
   rw [aZ];obtain⟨h,_⟩:=aa3.mp hb;exact h
  have hd:x.cps.toList.drop (i+1)=l:=by
   rw [<-al6,hl];rfl
  have e1:(⟨#[c]⟩:Str).length=1:=rfl;show(forIn (i::List.range' (i+1) (l.length+1)) (acc,fr) _:Id _).run.fst.toList=_;rw [af7];unfold StrLaws.occBody
  by_cases hc:b=c
  ·rw [if_pos ⟨⟨⟨by show acc.size < lim;omega,hf⟩,by rw [e1];omega⟩,((StrLaws.subAt_one x c i).mpr (by rw [hb,hc])).2⟩]
   show(forIn (List.range' (i+1) (l.length+1)) (acc.push i,i+1) (StrLaws.occBody x ⟨#[c]⟩ x.length lim):Id _).run.fst.toList=_;rw [nE x c lim l (i+1) _ _ hd (by rw [Array.size_push];omega) (aa9 _) hm];simp [dk,hc]
  ·rw [if_neg (fun h=>hc (by have:=(StrLaws.subAt_one x c i).mp ⟨h.1.2,h.2⟩;rw [hb]at this;exact Option.some.inj this))]
   show(forIn (List.range' (i+1) (l.length+1)) (acc,fr) (StrLaws.occBody x ⟨#[c]⟩ x.length lim):Id _).run.fst.toList=_;rw [nE x c lim l (i+1) _ _ hd (by omega) (by omega) hm];simp [dk,hc]
theorem Be(x:Str)(c:Nat):Builtin.Str.occurrences x ⟨#[c]⟩ 0 x.length (x.length+1)=dk c x.cps.toList 0:=by
 rw [StrLaws.occ_eq]
 have e:x.length+1 - 0=x.cps.toList.length+1:=by rw [aZ];rfl
 rw [e];have h:=nE x c (x.length+1) x.cps.toList 0 #[] 0 rfl (aa9 _) (aa9 _) (am2 _);rw [h];rfl
theorem jk(x:Str)(c:Nat):∀(l:List Nat) (a j:Nat),a<=j->x.cps.toList.drop j=l->j<=x.length->
  (StrLaws.partsFrom x 1 a (dk c l j)).map (fun z=>z.cps.toList)=match lN c l with
   | []=>[]
   | p::r=>((x.cps.toList.drop a).take (j - a)++p)::r
 | [],a,j,haj,hl,hj=>by
  have hj':x.length<=j:=by rw [aZ];exact ak0.mp hl
  have e:j=x.length:=by omega
  subst e;simp [dk,lN,StrLaws.partsFrom,StrLaws.strSub_toList]
 | b::l,a,j,haj,hl,hj=>by
  have hb:x.cps.toList[j]?=some b:=by
   have:(x.cps.toList.drop j)[0]?=some b:=by rw [hl];rfl
   rwa [ag9,ap8]at this
  have hi:j < x.length:=by
   rw [aZ];obtain⟨h,_⟩:=aa3.mp hb;exact h
  have hd:x.cps.toList.drop (j+1)=l:=by
   rw [<-al6,hl];rfl
  by_cases hc:b=c
  ·have ih:=jk x c l (j+1) (j+1) (aa9 _) hd hi
   simp only [dk,hc,if_true,StrLaws.partsFrom,ad7,lN,af4];rw [ih]
   cases hs:lN c l with
   | nil=>exact absurd hs (vb c l)
   | cons p r=>simp [StrLaws.strSub_toList]
  ·have ih:=jk x c l a (j+1) (by omega) hd hi
   simp only [dk,hc,if_false,lN];rw [ih]
   cases hs:lN c l with
   | nil=>exact absurd hs (vb c l)
   | cons p r=>
    have ht:(x.cps.toList.drop a).take (j+1 - a)=(x.cps.toList.drop a).take (j - a)++[b]:=by
     have e1:j+1 - a=(j - a)+1:=by omega
     rw [e1,ac1,ag9]
     have e2:a+(j - a)=j:=by omega
     rw [e2,hb];rfl
    simp [ht]
theorem zW(c:Nat):∀{l:List Nat},dk c l 0=[]->lN c l=[l]:=by
 have key:∀(l:List Nat) (i:Nat),dk c l i=[]->lN c l=[l]:=by
  intro l
  induction l with
  | nil=>intro i _;rfl
  | cons a l ih=>
   intro i h;simp only [dk]at h
   split at h
   ·cases h
   ·rename_i hc
    simp only [lN,hc,if_false];rw [ih _ h]
 intro l h;exact key l 0 h
theorem iR(x:Str){c:Nat}(hc:c < 256):(Txt.split x ⟨#[c]⟩).map (fun z=>z.cps.toList)=lN c x.cps.toList:=by
 unfold Txt.split;have e1:(⟨#[c]⟩:Str).length=1:=rfl
 have ek:Builtin.Str.strKind ⟨#[c]⟩=1:=by simp [Builtin.Str.strKind,hc]
 have ek2:1<=Builtin.Str.strKind x:=by unfold Builtin.Str.strKind;split<;>(try split)<;>omega
 rw [e1,ek,decide_eq_false (show ¬Builtin.Str.strKind x < 1 by omega),Bool.or_false,Be]
 split
 ·rename_i h
  have h:x.length < 1:=by simpa using h
  have:x.cps.toList=[]:=by
   rw [aZ]at h;exact ag0.mp (by omega)
  rw [ad7,ah9,this];rfl
 ·split
  ·rename_i h
   have h:dk c x.cps.toList 0=[]:=by simpa using h
   rw [zW c h];rfl
  ·rw [StrLaws.partsBetween_eq,jk x c x.cps.toList 0 0 (aa9 _) rfl (ad3 _)]
   cases hs:lN c x.cps.toList with
   | nil=>exact absurd hs (vb c _)
   | cons p r=>simp
theorem lO:∀(tk:Nat) (xs:List Str),aQ (xs.map V.str) (strsFrom tk xs)
 | _,[]=>.nil
 | tk,x::r=>.cons ⟨tk,rfl⟩ (lO (tk+1) r)
theorem p8:∀{xs:List Str} {us:List Value},aQ (xs.map V.str) us->StrsAre us xs
 | [],_,.nil=>.nil
 | x::r,_,.cons ⟨t,e⟩ q=>by subst e;exact .cons x t (p8 q)
section
variable {X:Cx}
theorem j5:Az X "str.split" (fun x xs H Q=>∃z c,x=.str z/\xs=[.str ⟨#[c]⟩]/\c < 256/\z.length < sizeLine/\∀p,H p=none->Q (.ref p) (upd H p (.lst ((Txt.split z ⟨#[c]⟩).map V.str)))):=by
 intro pins s Z H x xs v us Q I rx r h;obtain⟨z,c,rfl,rfl,hc,hz,q⟩:=h;obtain⟨t,rfl⟩:=rx;obtain⟨u,rfl,t',rfl⟩:=eV r;have hs:sizeLine=16777216:=sizeLine_eq
 have hlen:(Txt.split z ⟨#[c]⟩).length<=sizeLine:=by
  have h1:(Txt.split z ⟨#[c]⟩).length=(lN c z.cps.toList).length:=by rw [<-iR z hc,aa0]
  have h2:=v5 c z.cps.toList;rw [<-aZ]at h2;omega
 have fin:∀(its:List Value) (tk:Nat),aQ ((Txt.split z ⟨#[c]⟩).map V.str) its->EP X pins Z Q (.ref s.heap.objs.size) { s with toks:=tk,heap:=s.heap.push { cls:=.type "list",data:=.seq its.toArray } }:=fun its tk rv=>
  ⟨.ref s.heap.objs.size,_,I.laid (t':=tk) (o:=.lst ((Txt.split z ⟨#[c]⟩).map V.str)) (fun b ob q=>aa4 _ q) (aa9 _) ⟨by rw [aa0];exact hlen,its,0,rv,ab3 _ rfl⟩,rfl,q _ (I.hok.fresh (aa9 _))⟩
 cases h1:(decide (z.length < (⟨#[c]⟩:Str).length) || decide (Builtin.Str.strKind z < Builtin.Str.strKind ⟨#[c]⟩))with
 | true=>
  have e:Txt.split z ⟨#[c]⟩=[z]:=by unfold Txt.split;rw [if_pos h1]
  rw [e]at fin;exact call_meets F.slot_str_split (typeIs_str _ _ _) F.entry_str_split (F.args_str_split_2 _ _) (meets_str_split_cannot_occur z ⟨#[c]⟩ t t' h1) (fin _ s.toks (.cons ⟨t,rfl⟩ .nil))
 | false=>
  cases hf:(Builtin.Str.occurrences z ⟨#[c]⟩ 0 z.length (z.length+1)).isEmpty with
  | true=>
   have e:Txt.split z ⟨#[c]⟩=[z]:=by unfold Txt.split;rw [if_neg (by rw [h1];exact aa6),if_pos hf]
   rw [e]at fin;exact call_meets F.slot_str_split (typeIs_str _ _ _) F.entry_str_split (F.args_str_split_2 _ _) (meets_str_split_not_found z ⟨#[c]⟩ t t' h1 rfl hf) (fin _ s.toks (.cons ⟨t,rfl⟩ .nil))
  | false=>
   have e:Txt.split z ⟨#[c]⟩=Builtin.Str.partsBetween z (Builtin.Str.occurrences z ⟨#[c]⟩ 0 z.length (z.length+1)) (⟨#[c]⟩:Str).length:=by
    unfold Txt.split;rw [if_neg (by rw [h1];exact aa6),if_neg (by rw [hf];exact aa6)]
   rw [e]at fin hlen;exact call_meets F.slot_str_split (typeIs_str _ _ _) F.entry_str_split (F.args_str_split_2 _ _) (meets_str_split_sep z ⟨#[c]⟩ t t' h1 rfl hf (ah8 hz) hlen) (fin _ _ (lO _ _))
theorem Bb:Az X "str.join" (fun x xs H Q=>∃z p ys,x=.str z/\xs=[.ref p]/\aL X.K H p (ys.map V.str)/\(ys.map (·.length)).sum+ys.length * z.length<=16777216/\Q (.str (Txt.join z ys)) H):=by
 intro pins s Z H x xs v us Q I rx r h;obtain⟨z,p,ys,rfl,rfl,hq,hok,q⟩:=h;obtain⟨t,rfl⟩:=rx;obtain⟨u,rfl,ru⟩:=eV r;cases ru;obtain⟨its,rv,pl,hz⟩:=I.list hq;exact join_list pl.isList (p8 rv) hok fun t' k=>⟨.str _,H,I.tok _,⟨t',rfl⟩,q⟩
theorem sG(K:Frag)(h:X.K=K:=by rfl):Az X "str.join" (fun x xs H Q=>∃z p ys,x=.str z/\xs=[.ref p]/\aL K H p (ys.map V.str)/\(ys.map (·.length)).sum+ys.length * z.length<=16777216/\Q (.str (Txt.join z ys)) H):=h▸Bb
end
def sf(l:List Nat):Bool:=l.all fun c=>decide (c∈[48,49,50,51,52,53,54,55,56,57])
def gv(w:List Nat):List Nat:=if w.head?=some 45 then w.tail else w
def so(w:List Nat):Bool:=decide (1<=(gv w).length) && (decide ((gv w).length<=40) && (sf (gv w) && (decide ((gv w).head?≠some 48) || decide (w=[48]))))
theorem uh(w:List Nat):so w=(if gv w=[]\/40 < (gv w).length then false else if sf (gv w)=false then false else(decide ((gv w).head?≠some 48) || decide (w=[48]))):=by
 unfold so
 split
 ·rename_i h
  rcases h with h | h
  ·rw [h];rfl
  ·have:¬(gv w).length<=40:=by omega
   simp [this]
 ·rename_i h
  have h1:1<=(gv w).length:=by
   cases e:gv w with
   | nil=>exact absurd (Or.inl e) h
   | cons a b=>simp
  have h2:(gv w).length<=40:=by
   have:¬40 < (gv w).length:=fun z=>h (Or.inr z)
   omega
  simp only [h1,h2,decide_true,am6]
  split
  ·rename_i h3;rw [h3];rfl
  ·rename_i h3
   have h3:sf (gv w)=true:=by simpa using h3
   rw [h3];rfl
def gH(n:Int):List Nat:=(Str.ofString (toString n)).cps.toList
def dg(m:Nat):List Nat:=(Nat.toDigits 10 m).map Char.toNat
theorem j7(m:Nat):gH (m:Int)=dg m:=PySem.W.KIN.signs_num m
theorem j8(k:Nat):gH (-((k+1:Nat):Int))=45::dg (k+1):=by
 have e:toString (-((k+1:Nat):Int))="-" ++ toString (k+1):=rfl;have h:=PySem.W.KIN.signs_num (k+1);unfold gH dg;rw [<-h,e];have e2:toString (((k+1:Nat):Nat):Int)=toString (k+1):=rfl;rw [e2];simp only [PyProof.Rows.signs_ofString,String.toList_append];rfl
theorem kL(m:Nat):∀c∈dg m,48<=c/\c<=57:=by
 intro c hc;obtain⟨ch,hch,e⟩:=ac0.mp hc;have r:=PyProof.Rows.digit_range (Nat.isDigit_of_mem_toDigits (by decide) (by decide) hch);rw [<-e];exact r
theorem r9(m:Nat):dg m≠[]:=by
 intro e;have h:=toDigits_len_ge 10 m;rw [List.map_eq_nil_iff.mp e]at h;exact absurd h (by decide)
theorem se(h:m < 10):dg m=[m+48]:=by
 unfold dg;rw [Nat.toDigits_of_lt_base h]
 have:∀m,m < 10->(Nat.digitChar m).toNat=m+48:=by decide
 show [(Nat.digitChar m).toNat]=_;rw [this m h]
theorem CS(h:¬m < 10):dg m=dg (m / 10)++[m % 10+48]:=by
 have hm:m % 10 < 10:=Nat.mod_lt m (by decide);have t:Nat.toDigits 10 (m / 10)++Nat.toDigits 10 (m % 10)=Nat.toDigits 10 (10 * (m / 10)+m % 10):=Nat.toDigits_append_toDigits (by decide) (by omega) hm;rw [Nat.div_add_mod]at t;rw [<-se hm];unfold dg;rw [<-t,ab4]
theorem AK(m:Nat)(h0:0 < m):(dg m).head?≠some 48:=by
 induction m using Nat.strongRecOn with
 | _ m ih=>
  by_cases h:m < 10
  ·rw [se h]
   simp;omega
  ·rw [CS h]
   have:=ih (m / 10) (by omega) (by omega)
   cases hd:dg (m / 10)with
   | nil=>exact absurd hd (r9 _)
   | cons a l=>rw [hd]at this;exact this
theorem t7{k:Nat}(hk:1<=k)(hm:m < 10 ^ k):(dg m).length<=k:=by
 unfold dg;rw [aa0];exact digits10_le hk hm
theorem nA(n:Int):∀c∈gH n,c=45\/(48<=c/\c<=57):=by
 intro c hc;rcases ap9 n 0 with h | h
 ·obtain⟨k,rfl⟩:∃k:Nat,n = -((k+1:Nat):Int):=⟨n.natAbs - 1,by omega⟩
  rw [j8]at hc;rcases aa8.mp hc with e | e
  ·exact .inl e
  ·exact .inr (kL _ c e)
 ·obtain⟨m,rfl⟩:=ae9 h
  rw [j7]at hc;exact .inr (kL _ c hc)
theorem AL(m:Nat):sf (dg m)=true:=by
 unfold sf;rw [ag7];intro c hc;obtain⟨h1,h2⟩:=kL m c hc
 have h9:∀k,k < 10->48+k=48\/48+k=49\/48+k=50\/48+k=51\/48+k=52\/48+k=53\/48+k=54\/48+k=55\/48+k=56\/48+k=57:=by decide
 have:=h9 (c - 48) (by omega)
 rw [Nat.add_sub_cancel' h1]at this;simpa using this
theorem wR(n:Int):gv (gH n)=dg n.natAbs:=by
 rcases ap9 n 0 with h | h
 ·obtain⟨k,rfl⟩:∃k:Nat,n = -((k+1:Nat):Int):=⟨n.natAbs - 1,by omega⟩
  rw [j8]
  have e:(-((k+1:Nat):Int)).natAbs=k+1:=by omega
  rw [e];rfl
 ·obtain⟨m,rfl⟩:=ae9 h
  rw [j7];unfold gv;rw [if_neg]
  ·rfl
  ·intro e
   cases hd:dg m with
   | nil=>exact absurd hd (r9 _)
   | cons a l=>
    rw [hd]at e
    have:a=45:=by simpa using e
    have:=kL m a (by rw [hd];exact ad8)
    omega
theorem kP(h:n.natAbs < 10 ^ 40):so (gH n)=true:=by
 have hl:(dg n.natAbs).length<=40:=t7 (by decide) h
 have hl0:1<=(dg n.natAbs).length:=by
  cases hd:dg n.natAbs with
  | nil=>exact absurd hd (r9 _)
  | cons a l=>simp
 unfold so;rw [wR,AL,decide_eq_true hl,decide_eq_true hl0]
 by_cases h0:n=0
 ·subst h0
  decide +kernel
 ·rw [decide_eq_true (AK n.natAbs (by omega))]
  rfl
theorem fJ{k:Nat}(hk:1<=k)(h:n.natAbs < 10 ^ k):(gH n).length<=k+1:=by
 rcases ap9 n 0 with h1 | h1
 ·obtain⟨j,rfl⟩:∃k:Nat,n = -((k+1:Nat):Int):=⟨n.natAbs - 1,by omega⟩
  have e:(-((j+1:Nat):Int)).natAbs=j+1:=by omega
  rw [e]at h;rw [j8,ad1]
  have:=t7 hk h
  omega
 ·obtain⟨m,rfl⟩:=ae9 h1
  rw [j7]
  have:=t7 hk (show m < 10 ^ k from h)
  omega
theorem mw(h:n.natAbs < 10 ^ 600):intText? (Str.ofString (toString n))=some n:=by
 have hl:=fJ (by decide) h
 have hl2:(Str.ofString (toString n)).length<=4300:=by rw [aZ];exact ab9 hl (by decide)
 rcases ap9 n 0 with h1 | h1
 ·obtain⟨k,rfl⟩:∃k:Nat,n = -((k+1:Nat):Int):=⟨n.natAbs - 1,by omega⟩
  rw [PySem.intText_neg (cs:=dg (k+1)) (j8 k) (kL _) (r9 _) hl2]
  have:=PySem.W.KIN.val_back (k+1)
  unfold dg;rw [this]
 ·obtain⟨m,rfl⟩:=ae9 h1
  have e:(Str.ofString (toString ((m:Nat):Int))).cps.toList=dg m:=j7 m;rw [PySem.intText_digits (by rw [e];exact kL _) (by rw [e];exact r9 _) hl2,e]
  have:=PySem.W.KIN.val_back m
  unfold dg;rw [this]
def cQ(c:Nat):List (List Nat)->List Nat
 | []=>[]
 | p::r=>p++(r.map (c::·)).flatten
theorem pL(c:Nat):∀(l:List Str) (a:Array Nat),(l.foldl (fun acc p=>acc++(⟨#[c]⟩:Str).cps++p.cps) a).toList=a.toList++(l.map (fun p=>c::p.cps.toList)).flatten
 | [],a=>by simp
 | p::l,a=>by
  rw [ae6,pL c l];simp
theorem cA(c:Nat)(ys:List Str):(Txt.join ⟨#[c]⟩ ys).cps.toList=cQ c (ys.map fun z=>z.cps.toList):=by
 unfold Txt.join Builtin.Str.glued
 cases ys with
 | nil=>rfl
 | cons p r=>
  show(r.foldl (fun acc p=>acc++(⟨#[c]⟩:Str).cps++p.cps) p.cps).toList=_;rw [pL];simp [cQ,Function.comp_def]
theorem v3(c:Nat):∀(p:List Nat) (l:List Nat),c∉p->lN c (p++c::l)=p::lN c l
 | [],l,_=>by simp [lN]
 | a::p,l,h=>by
  have h1:a≠c:=fun e=>h (by rw [e];exact ad8);have h2:c∉p:=fun e=>h (ae0 _ e);rw [ai6];simp only [lN,h1,if_false];rw [v3 c p l h2]
theorem tH(c:Nat):∀(p:List Nat),c∉p->lN c p=[p]
 | [],_=>rfl
 | a::p,h=>by
  have h1:a≠c:=fun e=>h (by rw [e];exact ad8);have h2:c∉p:=fun e=>h (ae0 _ e);simp only [lN,h1,if_false];rw [tH c p h2]
theorem oq(c:Nat):∀(ps:List (List Nat)),ps≠[]->(∀p∈ps,c∉p)->lN c (cQ c ps)=ps
 | [],h,_=>absurd rfl h
 | [p],_,h=>by
  simp [cQ];exact tH c p (h p ad8)
 | p::q::r,_,h=>by
  have ih:=oq c (q::r) (by simp) (fun x hx=>h x (ae0 _ hx))
  have e:cQ c (p::q::r)=p++c::cQ c (q::r):=by simp [cQ]
  rw [e,v3 c p _ (h p ad8),ih]
end L2
namespace L3
open PySem PySem.Spec PyProof.Rows
theorem il(l:Bool)(a:Addr)(xs:Array Value):
  Meets (Builtin.«enumerate.__new__» ⟨[.type "enumerate",.ref a],[]⟩) (fun _ R s=>IsSeq l s.heap a xs/\
   R (.ok (.ret (.ref (s.heap.push (itRec l a)).objs.size))) { s with heap:=(s.heap.push (itRec l a)).push { cls:=.type "enumerate",data:=.fields #[.none,.bool false,.ref s.heap.objs.size,rawInt 0,.none,.none] } }):=
 .of_wp fun prog w A R s h=>by
  obtain⟨hp,g,d,tk,os⟩:=s;obtain⟨q1,h⟩:=h;have hsub:=sub_enumerate;have u1:IsSeq l (Shared.heap ⟨hp,g,d,tk,os⟩) a xs:=q1
  have tl:∃o,hp.get? a=some o:=by
   cases l
   ·obtain⟨o,e,_⟩:=(show hp.IsTuple a xs from q1);exact⟨o,e⟩
   ·obtain⟨o,e,_⟩:=(show hp.IsList a xs from q1);exact⟨o,e⟩
  obtain⟨ob,hl⟩:=tl;obtain⟨c,dct,dt,sl⟩:=ob
  wp_walk using AutoSeq1.wpAny_loadPart' hl
  refine wpAny_stack_any fun st=>aa7 ?_
  split
  ·rename_i c _ _ _ _ _
   cases(c == Value.type "enumerate")
   ·wp_walk using AutoSeq1.wpAny_loadPart' hl,ij u1
    exact⟨_,rfl,h⟩
   ·wp_walk using AutoSeq1.wpAny_loadPart' hl,ij u1
    exact⟨_,rfl,h⟩
  ·wp_walk using AutoSeq1.wpAny_loadPart' hl,ij u1
   exact⟨_,rfl,h⟩
section
variable {prog:Program} {w:World} {A:Around} {E:Value->Shared->Prop} {s:Shared}
theorem call_enumerateB{l:Bool}{a:Addr}{xs:Array Value}{Q:Value->Shared->Prop}(hL:IsSeq l s.heap a xs)
  (h:∀h',IsEnum h' (s.heap.objs.size+1) s.heap.objs.size 0 .none->h'.get? s.heap.objs.size=some (itRec l a)->h'.objs.size=s.heap.objs.size+2->
   (∀b o,s.heap.get? b=some o->h'.get? b=some o)->Q (.ref (s.heap.objs.size+1)) { s with heap:=h' }) :
  wpAny (model prog w) A (call (.type "enumerate") [.ref a]) Q E s:=by
 refine callType_new F.called_enumerate (by decide) (F.typeCall_enumerate_1 _) (F.newCall_enumerate_1 _) (fun obj=>F.args_object_init_2 obj _) F.entry_enumerate_new
  (il l a xs) ⟨hL,?_⟩
 have hz:(s.heap.push (itRec l a)).objs.size=s.heap.objs.size+1:=ae7 ..;show _/\_;rw [hz]
 have he:IsEnum ((s.heap.push (itRec l a)).push
   { cls:=.type "enumerate",data:=.fields #[.none,.bool false,.ref s.heap.objs.size,rawInt 0,.none,.none] }) (s.heap.objs.size+1) s.heap.objs.size 0 .none:=by
  have:=ab3 (s.heap.push (itRec l a))
   (o:={ cls:=.type "enumerate",data:=.fields #[.none,.bool false,.ref s.heap.objs.size,rawInt 0,.none,.none] }) rfl
  rw [hz]at this;exact this
 refine⟨⟨_,he,rfl⟩,h _ he (aa4 _ (ab3 _ rfl)) (by rw [ae7,hz]) fun b o x=>aa4 _ (aa4 _ x)⟩
end
end L3
namespace L2
open PySem PySem.Spec PyProof.Rows
variable {A:Around} {C T a c f:Addr} {D:List (Str×V)} {H:Hp} {K:Frag} {P:Program} {Q:VK} {X:Cx} {an od:Option Addr} {base:Heap} {cdv ct doc kV oc pm u:Value} {e:Expr} {fd:FuncData} {i:Int} {j k n nv:Nat} {kind m qual x z:Str} {l:Bool} {mg:Str->Option Value} {ns:List Int} {o:Obj} {osl:Array (Option Value)} {p pos:Pos} {pl:Sem Bool} {ps:List Str} {sp:Sp} {st:Stmt} {us:List Value} {w:World} {xs:List V} {y:V} {Z:St}
def Fn(K:Frag)(l:Bool)(a:Addr):It:=
 ⟨fun i H=>∃xs x,gp K l H a xs/\xs[i]?=some x,
  fun i H v H'=>∃p x,v=.ref p/\H p=none/\H'=upd H p (.tup [.int i,x])/\∀xs,gp K l H a xs->xs[i]?=some x,
  fun i H=>∃xs,gp K l H a xs/\i=xs.length⟩
theorem vy{elts:List Expr}{kt:Nat}{pt:Pos}(l:Bool)(a z it:Addr)(nd:z≠it):
  oI P w K (.Tuple elts kt pt) (Fn K l a) [z,it] z (fun i h=>(∃old,IsEnum h z it ((i:Nat):Int) old)/\jH l h it a i):=by
 refine⟨by simp,?_,?_,?_,?_,?_⟩
 ·rintro i h ⟨⟨old,qz⟩,u⟩ c hc
  have hc':c=z\/c=it:=by simpa using hc
  rcases hc' with e | e
  ·subst e;exact⟨_,qz,fun v q=>by cases q⟩
  ·subst e
   exact u.obj
 ·rintro i h h' ⟨⟨old,qz⟩,u⟩ k
  exact⟨⟨old,k z (by simp) _ qz⟩,u.at fun o e=>k it (by simp) o e⟩
 ·rintro X hP hw hK hc i pins s Z H E I hf ⟨⟨old,qz⟩,u⟩ ⟨xs,x,q1,hx⟩
  subst hP hw hK;have hh:X.A.in1.handled=none:=I.ok.hd hc;obtain⟨its,r1,p1,z1⟩:=I.seqB q1;have na:a≠it:=I.seqB_ne q1 (hf it (by simp));have nz:a≠z:=I.seqB_ne q1 (hf z (by simp))
  have lx:i < its.toArray.size:=by
   have:=(aa3.mp hx).1
   rw [ab1,<-r1.length];exact this
  have hef:z∉[it,a]:=by
   simp only [aa8,ac2,or_false,not_or];exact⟨nd,nz.symm⟩
  refine wpAny_pyNext_enum_itemD (fu (P:=X.prog) (w:=X.w) hh l it a na its.toArray) qz ⟨u,p1⟩ lx nd hef fun v h' tk ev z' s' pr sz kk=>?_;obtain⟨w1,g1,rx⟩:=r1.get hx
  have ev1:v=w1:=by
   have:its[i]?=some v:=by simpa using ev
   rw [g1]at this;exact(Option.some.inj this).symm
  subst ev1;refine⟨_,rfl,wpAny_letOwnedTupleGo_enum (s:={ s with heap:=h',toks:=tk+1 }) z' fun h2 z2 sb=>?_⟩;have fz:s.heap.objs.size≠z:=ai8 (ab7 qz);have Hn:H s.heap.objs.size=none:=I.hok.fresh (aa9 _)
  have kp:∀c o,c∉[z,it]->s.heap.get? c=some o->h2.get? c=some o:=fun c o hc e=>by
   have hc':c≠z/\c≠it:=by simpa [not_or]using hc
   exact(sb.2 c hc'.1).trans (kk c o hc'.1 hc'.2 e)
  have nf:∀{c:Addr} {u:HO},H c=some u->c∉[z,it]:=fun {c u} e hc=>by
   have:=(hf c hc).1
   rw [e]at this;cases this
  have pr2:h2.get? s.heap.objs.size=some { cls:=.type "tuple",data:=.seq #[.int i tk,v] }:=(sb.2 _ fz).trans pr
  have I2:aJ X pins Z (upd H s.heap.objs.size (.tup [.int i,x])) { s with heap:=h2,toks:=tk+1 }:=by
   refine I.step (g':=s.gens) (d':=s.drawn) (ch:=[z,it]) (fun c hc=>⟨(hf c hc).2.2.2.1,(hf c hc).2.1,(hf c hc).2.2.2.2.1,(hf c hc).2.2.2.2.2⟩) (fun c o _ _ hc e _=>kp c o hc e) (fun c o _ _ hc e _=>⟨o.slots,kp c o hc e⟩)
    (fun c o _ e n=>by rw [aj (ac6 (ab7 e))];exact n) (fun c o hc e=>⟨o,kp c o hc e⟩) (fun c us e=>by rw [aj (au e Hn)];exact e) (fun c o u e=>by rw [aj (au e Hn)];exact e)
    (fun c ps e=>⟨#[],by rw [aj (au e Hn),e];simp⟩) (fun m hm=>?_) (fun c u e=>?_) I.bare
   ·obtain⟨o,es,ep,ho,r⟩:=hm
    exact⟨o,es,ep,kp _ o (fun q=>(hf _ q).2.1 rfl) ho,r⟩
   ·by_cases hcs:c=s.heap.objs.size
    ·subst hcs
     rw [ag]at e;cases e;exact⟨by rw [sizeLine_eq];show 2<=16777216;omega,[.int i tk,v],.cons ⟨_,rfl⟩ (.cons rx .nil),_,pr2,rfl,_,rfl⟩
    ·rw [aj hcs]at e
     refine(I.hok c u e).stay (fun d o hd q=>kp d o ?_ q) (fun d q=>by rw [aj (au q Hn)];exact q) fun d us q=>by rw [aj (au q Hn)];exact q
     rcases hd with hd | hd
     ·rw [hd];exact nf e
     ·exact nf hd
  refine⟨.ref s.heap.objs.size,_,I2,rfl,⟨_,x,rfl,Hn,rfl,fun us hu=>by rw [I.seqB_inj hu q1];exact hx⟩,⟨⟨v,?_⟩,?_⟩,fun c hc=>?_⟩
  ·have e:(((i+1:Nat)):Int)=(i:Int)+1:=by omega
   rw [e];exact z2
  ·exact s'.1.at fun o e=>(sb.2 _ nd.symm).trans e
  ·show upd H s.heap.objs.size (.tup [.int i,x]) c=none
   have lt:c < s.heap.objs.size:=by
    have hc':c=z\/c=it:=by simpa using hc
    rcases hc' with e | e
    ·subst e;exact ab7 qz
    ·subst e;obtain⟨o,e,_⟩:=u.obj;exact ab7 e
   rw [aj (ac6 lt)];exact(hf c hc).1
 ·rintro X hP hw hK hc i pins s Z H E I hf ⟨⟨old,qz⟩,u⟩ ⟨xs,q1,hend⟩
  subst hP hw hK;have hh:X.A.in1.handled=none:=I.ok.hd hc;obtain⟨its,r1,p1,z1⟩:=I.seqB q1;have na:a≠it:=I.seqB_ne q1 (hf it (by simp))
  have ei:i=its.toArray.size:=by rw [ab1,<-r1.length];exact hend
  subst ei;obtain⟨f0,f1,f2,f3,f4,f5⟩:=hf it (by simp);exact wpAny_pyNext_enum_endD (fu (P:=X.prog) (w:=X.w) hh l it a na its.toArray) qz ⟨u,p1⟩ fun h' k=>⟨rfl,I.turned (t':=s.toks) (fun b o hb e=>k b o hb e) f0 f1 f3 f4 f5⟩
 ·rintro A i s Q E ⟨⟨old,qz⟩,_⟩ h
  exact wpAny_pyIter_enum qz h
def yB(K:Frag)(ta:TA):TI:=fun Z H R=>ta Z H fun vs H1=>∃a,vs=[.ref a]/\∃l,(∃xs,gp K l H1 a xs)/\R (Fn K l a) H1
theorem gA{elts:List Expr}{kt:Nat}{pt:Pos}{a:Expr}{ta:TA}(hg:Gl X "enumerate")(hm:X.mg "enumerate"=none)(ha:PA X [a] ta)(hs:starEach [a] X.env=[(false,eval a X.env)]:=by rfl):
  PI X (.Tuple elts kt pt) (.Call (.Name "enumerate" p) [a] [] pos) (yB X.K ta):=by
 intro pins s Z H R I h;refine Call_ (eX I hg hm boot_enumerate (PyProof.Rows.callWith_type1 (ck (ha pos pins s Z H _ I h) fun us s1 zq0=>?_) hs rfl));obtain⟨vs,H1,I1,r1,q1⟩:=zq0;obtain⟨a1,e,l,⟨xs,q1⟩,q⟩:=q1;subst e;obtain⟨u,rfl,e1⟩:=eV r1;cases e1;obtain⟨its1,r1,p1,z1⟩:=I1.seqB q1;refine L3.call_enumerateB p1 fun h' qz qI sz kp=>wpAny_pyIter_enum qz ?_;refine⟨s1.heap.objs.size+1,[s1.heap.objs.size+1,s1.heap.objs.size],_,_,H1,rfl,I1.kept (h':=h') (t':=s1.toks) kp,vy l a1 _ _ (Nat.succ_ne_self _),⟨⟨_,qz⟩,jH.rec qI⟩,fun c hc=>?_,q⟩
 have hc':s1.heap.objs.size<=c:=by
  have:c=s1.heap.objs.size+1\/c=s1.heap.objs.size:=by simpa using hc
  rcases this with e | e<;>(rw [e];first | exact aa9 _ | exact Nat.le_add_right _ _)
 exact I1.fpOk hc' (I1.hok.fresh hc')
theorem gG{g:TG}{tb:TS}{D:jF}{us:List V}(Pv:Nat->St->Hp->Prop)(h0:Pv 0 Z H)(hl:∀i Z H,i<=us.length->Pv i Z H->gp K l H a us)
  (hs:∀i x Z H p,us[i]?=some x->Pv i Z H->H p=none->g (.ref p) Z (upd H p (.tup [.int i,x])) fun Zf H2=>tb { D with nx:=Pv (i+1),ct:=Pv (i+1),bk:=D.nx } Zf H2) (hd:∀Z H,Pv us.length Z H->D.nx Z H):wo g tb D Z (Fn K l a) H:=by
 refine⟨fun i m Z H=>m=us.length - i/\i<=us.length/\Pv i Z H,⟨us.length,by simp,ad3 _,h0⟩,?_⟩;rintro i m Z H ⟨rfl,hi,p⟩;have q1:=hl i Z H hi p
 by_cases hlt:i < us.length
 ·refine .inr ⟨⟨us,us[i],q1,by simp [hlt]⟩,Pv (i+1),fun Zc H' p'=>⟨us.length - (i+1),by omega,rfl,hlt,p'⟩,fun x H' y=>?_⟩
  obtain⟨pp,u,e,hp,e2,y1⟩:=y;subst e e2;exact hs i u Z H pp (y1 us q1) p hp
 ·have e:i=us.length:=by omega
  subst e;exact .inl ⟨⟨us,q1,rfl⟩,hd Z H p⟩
theorem lQ{js:List Nat}{g:TG}{tt:TT}{te:TE}{F:List V->Hp->Prop}{us:List V}(Pv:Nat->List V->Hp->Prop)(hk:us.length<=sizeLine)(h0:Pv 0 [] H)(hn:∀i ys H,Pv i ys H->ys.length<=i)(hl:∀i ys H,Pv i ys H->gp K l H a us)
  (hs:∀i x ys H p,us[i]?=some x->Pv i ys H->H p=none->gq n js g tt te Z (.ref p) ys (upd H p (.tup [.int i,x])) (Pv (i+1))) (hd:∀ys H,Pv us.length ys H->F ys H):mQ n js g tt te Z F (Fn K l a) H:=by
 refine⟨fun i m ys H=>m=us.length - i/\i<=us.length/\Pv i ys H,⟨us.length,by simp,ad3 _,h0⟩,?_⟩;rintro i m ys H ⟨rfl,hi,p⟩;have q1:=hl i ys H p
 by_cases hlt:i < us.length
 ·refine .inr ⟨⟨us,us[i],q1,by simp [hlt]⟩,ad2 (hn i ys H p) (ab0 hlt hk),Pv (i+1),fun Zc H' p'=>⟨us.length - (i+1),by omega,rfl,hlt,p'⟩,fun x H' y=>?_⟩
  obtain⟨pp,u,e,hp,e2,y1⟩:=y;subst e e2;exact hs i u ys H pp (y1 us q1) p hp
 ·have e:i=us.length:=by omega
  subst e;exact .inl ⟨⟨us,q1,rfl⟩,hd ys H p⟩
structure qg(K:Frag)(x qual:Str)(st:Stmt)(f:Addr)(fd:FuncData)(T:Addr):Prop where
 ex:∃(oc:Value) (od:Option Addr) (kV doc pm:Value) (an:Option Addr) (cdv ct:Value) (osl:Array (Option Value)),
  fd=fnOf x qual (cZ st) (cH st) (ao st) (.ref T) kV doc pm an cdv ct/\K.lookup f=some ⟨oc,od,.func fd,osl⟩/\codeIn K cdv qual=true
 kp:keepIn K (.ref f)=true
theorem qg.ok{N:List Str}(F:qg K x qual st f fd T)(S:ay N ps (ao st))(len:∀vs H Q E,sp vs H Q E->vs.length=ps.length)
  (hbody:∀(cdv:Value) (A:Around) (outer:List Env) (s:Shared) (H:Hp) (vs:List V) (Q:VK) (E:XK),dy k (A.deeper (envOfC qual (ao st) s.heap.objs.size f cdv))->sp vs H Q E->
   ∃t,vE (r6 cc P w K mg base N qual (ao st) f cdv A outer s H E).nox (cH st) t/\t { nx:=fun _ H'=>Q .non H',rt:=Q } (start N vs) H):aN P w K mg base cc (k+1) f fd ps sp:=by
 obtain⟨oc,od,kV,doc,pm,an,cdv,ct,osl,rfl,lk,hcd⟩:=F.ex;refine Cm lk hcd S len fun A outer s H vs Q E hr hsp=>?_;obtain⟨t,h,q⟩:=hbody cdv A outer s H vs Q E hr hsp;exact⟨t,h.nox,q⟩
structure FH(P:Program)(w:World)(K:Frag)(mg:Str->Option Value)(base:Heap)(x:Str)(k:Nat)(ps:List Str)(sp:Sp)(dvs:List V):Prop where
 ex:∃(f:Addr) (fd:FuncData) (ds:List Value),aN P w K mg base cc k f fd ps sp/\mg x=some (.ref f)/\keepIn K (.ref f)=true/\dE K fd ps ds/\aQ dvs ds
section
variable {es:List Expr} {t:TA} {dvs:List V}
end
structure xV(K:Frag)(x:Str)(st:Stmt)(f:Addr)(fd:FuncData)(u:Value):Prop where
 ns:nsIn K mainGlobals x=some (some (.ref f))
 fn:∃(T:Addr) (o:Obj) (n:Nat),qg K x x st f fd T/\K.lookup T=some o/\o.data=.seq #[u] n
theorem qg.binds(F:qg K x qual st f fd T)(t:K.lookup T=some o)(d:o.data=.seq #[u] n)
  (h:∀(kV doc pm:Value) (an:Option Addr) (cdv ct:Value) (us:List Value),us.length=ps.length->
   ∃k:Option (Array Value)->Sem (List (Str×Value)),bindArgs (fnOf x qual (cZ st) (cH st) (ao st) (.ref T) kV doc pm an cdv ct) ⟨us,[]⟩=seqItems? (.ref T) >>= k/\k (some #[u])=pure (ps.zip us)):dE K fd ps []:=by
 obtain⟨oc,od,kV,doc,pm,an,cdv,ct,osl,rfl,lk,hcd⟩:=F.ex;intro s us X hl;rw [af4]at hl |-;obtain⟨k,h1,h2⟩:=h kV doc pm an cdv ct us hl;exact BindsTo.of_defaults (T:=T) rfl (X _ _ t) d h1 h2
theorem qg.bindsD(F:qg K x qual st f fd T)(t:K.lookup T=some o)(d:o.data=.seq #[u] n)
  (h:∀(kV doc pm:Value) (an:Option Addr) (cdv ct:Value) (us:List Value),us.length+1=ps.length->
   ∃k:Option (Array Value)->Sem (List (Str×Value)),bindArgs (fnOf x qual (cZ st) (cH st) (ao st) (.ref T) kV doc pm an cdv ct) ⟨us,[]⟩=seqItems? (.ref T) >>= k/\k (some #[u])=pure (ps.zip (us++[u]))):dE K fd ps [u]:=by
 obtain⟨oc,od,kV,doc,pm,an,cdv,ct,osl,rfl,lk,hcd⟩:=F.ex;intro s us X hl;obtain⟨k,h1,h2⟩:=h kV doc pm an cdv ct us (by rw [<-hl,ab2];rfl);exact BindsTo.of_defaults (T:=T) rfl (X _ _ t) d h1 h2
def oF(K:Frag)(H:Hp):Nat->V->V->Bool->Prop
 | 0,x,y,b=>(fE x=true/\fE y=true/\b=xS x y)\/∃a,x=.ref a/\y=.ref a/\b=true
 | n+1,x,y,b=>oF K H 0 x y b\/∃(a c:Addr) (l:Bool) (xs ys:List V) (e:Nat->Bool),x=.ref a/\y=.ref c/\a≠c/\gp K l H a xs/\gp K l H c ys/\
   (∀j x y,xs[j]?=some x->ys[j]?=some y->oF K H n x y (e j))/\b=((List.range (min xs.length ys.length)).all e && xs.length == ys.length)
theorem oF.flat{x:V}(fx:fE x=true)(fy:fE y=true):oF K H n x y (xS x y):=by
 cases n
 ·unfold oF;exact .inl ⟨fx,fy,rfl⟩
 ·unfold oF;refine .inl ?_;unfold oF;exact .inl ⟨fx,fy,rfl⟩
theorem oF.same:oF K H n (.ref a) (.ref a) true:=by
 cases n
 ·unfold oF;exact .inr ⟨a,rfl,rfl,rfl⟩
 ·unfold oF;refine .inl ?_;unfold oF;exact .inr ⟨a,rfl,rfl,rfl⟩
section
variable {pins:List (Addr×Obj)} {s:Shared}
theorem gC(r:aQ xs us)(h:j < us.toArray.size):∃x,xs[j]?=some x/\aS x us.toArray[j]:=by
 have l1:=r.length;simp only [ab1]at h
 have hx:j < xs.length:=by omega
 obtain⟨u,e1,r1⟩:=aQ.get r (i:=j) (x:=xs[j]) (by simp [hx])
 have g1:us.toArray[j]=u:=by simpa [h]using e1
 exact⟨xs[j],by simp [hx],by rw [g1];exact r1⟩
theorem zG{ys:List V}{vs:List Value}{e:Nat->Bool}(rx:aQ xs us)(ry:aQ ys vs)(p1:L3.IsSeq l s.heap a us.toArray)(p2:L3.IsSeq l s.heap c vs.toArray)(hu:A.units < cLine)
  (he:∀j (h1:j < us.toArray.size) (h2:j < vs.toArray.size),SeqAt.EqAt A.in1 s us.toArray[j] vs.toArray[j] (e j)):SeqAt.RcAt A s (.ref a) (.ref c) ((List.range (min xs.length ys.length)).all e && xs.length == ys.length):=by
 have s1:us.toArray.size=xs.length:=by rw [ab1,rx.length]
 have s2:vs.toArray.size=ys.length:=by rw [ab1,ry.length]
 cases l
 ·have:=SeqAt.RcAt.tuples (show s.heap.IsTuple a us.toArray from p1) (show s.heap.IsTuple c vs.toArray from p2) hu he
  rw [s1,s2]at this;exact this
 ·by_cases hl:xs.length=ys.length
  ·have:=SeqAt.RcAt.lists (show s.heap.IsList a us.toArray from p1) (show s.heap.IsList c vs.toArray from p2) (by rw [s1,s2,hl]) hu he
   rw [s1]at this;rw [hl,Nat.min_self,beq_self_eq_true,Bool.and_true,<-hl];exact this
  ·have:=SeqAt.RcAt.lists_lengths (show s.heap.IsList a us.toArray from p1) (show s.heap.IsList c vs.toArray from p2) (by rw [s1,s2];simpa using hl) hu
   rw [show(xs.length == ys.length)=false by simpa using hl,Bool.and_false];exact this
theorem zH{ys:List V}{vs:List Value}{e:Nat->Bool}(rx:aQ xs us)(ry:aQ ys vs)(p1:L3.IsSeq l s.heap a us.toArray)(p2:L3.IsSeq l s.heap c vs.toArray)(hu:A.units < cLine)
  (he:∀j (h1:j < us.toArray.size) (h2:j < vs.toArray.size),SeqAt.EqAt A.in1 s us.toArray[j] vs.toArray[j] (e j)):SeqAt.RcNeAt A s (.ref a) (.ref c) (!((List.range (min xs.length ys.length)).all e && xs.length == ys.length)):=by
 have s1:us.toArray.size=xs.length:=by rw [ab1,rx.length]
 have s2:vs.toArray.size=ys.length:=by rw [ab1,ry.length]
 cases l
 ·have:=SeqAt.RcNeAt.tuples (show s.heap.IsTuple a us.toArray from p1) (show s.heap.IsTuple c vs.toArray from p2) hu he
  rw [s1,s2]at this;exact this
 ·by_cases hl:xs.length=ys.length
  ·have:=SeqAt.RcNeAt.lists (show s.heap.IsList a us.toArray from p1) (show s.heap.IsList c vs.toArray from p2) (by rw [s1,s2,hl]) hu he
   rw [s1]at this;rw [hl,Nat.min_self,beq_self_eq_true,Bool.and_true,<-hl];exact this
  ·have:=SeqAt.RcNeAt.lists_lengths (show s.heap.IsList a us.toArray from p1) (show s.heap.IsList c vs.toArray from p2) (by rw [s1,s2];simpa using hl) hu
   rw [show(xs.length == ys.length)=false by simpa using hl,Bool.and_false];exact this
theorem oF.at(I:aJ X pins Z H s):∀{n:Nat} {A:Around} {x y:V} {u v:Value} {b:Bool},A.units+n < cLine->aS x u->aS y v->oF X.K H n x y b->SeqAt.EqAt A s u v b:=by
 have z0:∀{A:Around} {x y:V} {u v:Value} {b:Bool},aS x u->aS y v->oF X.K H 0 x y b->SeqAt.EqAt A s u v b:=by
  intro A x y u v b rx ry h;unfold oF at h;rcases h with⟨fx,fy,rfl⟩ | ⟨a,rfl,rfl,rfl⟩
  ·exact yr rx ry fx fy
  ·cases rx;cases ry;exact SeqAt.EqAt.same _
 intro n
 induction n with
 | zero=>intro A x y u v b _ rx ry h;exact z0 rx ry h
 | succ n ih=>
  intro A x y u v b hu rx ry h;unfold oF at h;rcases h with h | ⟨a,c,l,xs,ys,e,rfl,rfl,ne,h1,h2,he,rfl⟩
  ·exact z0 rx ry h
  ·cases rx;cases ry
   obtain⟨us,r1,p1,_⟩:=I.seqB h1;obtain⟨vs,r2,p2,_⟩:=I.seqB h2;refine SeqAt.EqAt.of_refs ne (zG r1 r2 p1 p2 (by omega) fun j j1 j2=>?_);obtain⟨x,ex,rx⟩:=gC r1 j1;obtain⟨y,ey,ry⟩:=gC r2 j2;exact ih (A:=A.in1) (by show A.units+1+n < cLine;omega) rx ry (he j x y ex ey)
def Aq(K:Frag)(H:Hp)(n:Nat)(x y:V)(b:Bool):Prop:=∃(a c:Addr) (l:Bool) (xs ys:List V) (e:Nat->Bool),x=.ref a/\y=.ref c/\gp K l H a xs/\gp K l H c ys/\
 (∀j x y,xs[j]?=some x->ys[j]?=some y->oF K H n x y (e j))/\b=((List.range (min xs.length ys.length)).all e && xs.length == ys.length)
theorem Dp(n:Nat)(hu:X.A.units+n+1 < cLine):cX X (compareOp .Eq) (fun x y H Q=>∃b,Aq X.K H n x y b/\Q (.bl b) H):=by
 intro pins s Z H x y v u Q I rx ry h;obtain⟨b,⟨a,c,l,xs,ys,e,rfl,rfl,h1,h2,he,rfl⟩,q⟩:=h;cases rx;cases ry;obtain⟨us,r1,p1,_⟩:=I.seqB h1;obtain⟨vs,r2,p2,_⟩:=I.seqB h2;refine zG (A:=X.A) r1 r2 p1 p2 (by omega) (fun j j1 j2=>?_) X.prog X.w X.xe _ (bj I q rfl);obtain⟨x,ex,rx⟩:=gC r1 j1;obtain⟨y,ey,ry⟩:=gC r2 j2;exact oF.at I (A:=X.A.in1) (by show X.A.units+1+n < cLine;omega) rx ry (he j x y ex ey)
theorem Dq(n:Nat)(hu:X.A.units+n+1 < cLine):cX X (compareOp .NotEq) (fun x y H Q=>∃b,Aq X.K H n x y b/\Q (.bl (!b)) H):=by
 intro pins s Z H x y v u Q I rx ry h;obtain⟨b,⟨a,c,l,xs,ys,e,rfl,rfl,h1,h2,he,rfl⟩,q⟩:=h;cases rx;cases ry;obtain⟨us,r1,p1,_⟩:=I.seqB h1;obtain⟨vs,r2,p2,_⟩:=I.seqB h2;refine zH (A:=X.A) r1 r2 p1 p2 (by omega) (fun j j1 j2=>?_) X.prog X.w X.xe _ (bj I q rfl);obtain⟨x,ex,rx⟩:=gC r1 j1;obtain⟨y,ey,ry⟩:=gC r2 j2;exact oF.at I (A:=X.A.in1) (by show X.A.units+1+n < cLine;omega) rx ry (he j x y ex ey)
def lp(K:Frag):R2:=fun x y H Q=>sZ x y H Q\/∃b,Aq K H 4 x y b/\Q (.bl b) H
def lq(K:Frag):R2:=fun x y H Q=>tT x y H Q\/∃b,Aq K H 4 x y b/\Q (.bl (!b)) H
theorem Fs(hr:dy k A):A.units+4+1 < cLine:=ad2 (Nat.add_le_add_left (by decide:5<=64) _) hr.units
theorem ER(K:Frag)(hu:X.A.units+4+1 < cLine)(h:X.K=K:=by rfl):cX X (compareOp .Eq) (lp K):=h▸opEq.or (Dp 4 hu)
theorem EV(K:Frag)(hu:X.A.units+4+1 < cLine)(h:X.K=K:=by rfl):cX X (compareOp .NotEq) (lq K):=h▸opNe.or (Dq 4 hu)
end
theorem BK{j:Int}:lp K (.int i) (.int j) H Q↔Q (.bl (decide (i=j))) H:=by simp [lp,uJ,Aq]
theorem BQ{j:Int}:lq K (.int i) (.int j) H Q↔Q (.bl (!decide (i=j))) H:=by simp [lq,uM,Aq]
theorem BL{i j:Str}:lp K (.str i) (.str j) H Q↔Q (.bl (decide (i=j))) H:=by simp [lp,uK,Aq]
theorem BR{i j:Str}:lq K (.str i) (.str j) H Q↔Q (.bl (!decide (i=j))) H:=by simp [lq,uN,Aq]
theorem Cv(K:Frag):xT (lp K)=lp K:=yM (fun _ _ _ _=>BK) (fun _ _ _ _=>BL)
theorem Cy(K:Frag):xU (lq K)=lq K:=yO (fun _ _ _ _=>BQ) (fun _ _ _ _=>BR)
theorem C3{x:V}:xT (lp K) x y H Q↔lp K x y H Q:=by rw [Cv]
theorem C5{x:V}:xU (lq K) x y H Q↔lq K x y H Q:=by rw [Cy]
theorem F0(K:Frag)(hu:X.A.units+4+1 < cLine)(h:X.K=K:=by rfl):cX X (compareOp .Eq) (xT (lp K)):=by rw [Cv];exact ER K hu h
theorem EK(K:Frag)(hu:X.A.units+4+1 < cLine)(h:X.K=K:=by rfl):cX X (compareOp .NotEq) (xU (lq K)):=by rw [Cy];exact EV K hu h
theorem Aq.of_same(h1:gp K l H a xs)(h2:gp K l H c xs)(hf:∀x∈xs,fE x=true\/∃p,x=.ref p):Aq K H n (.ref a) (.ref c) true:=by
 refine⟨a,c,l,xs,xs,fun _=>true,rfl,rfl,h1,h2,fun j x y hx hy=>?_,?_⟩
 ·rw [hx]at hy
  cases hy;rcases hf x (ac5 hx)with f | ⟨p,rfl⟩
  ·have:=oF.flat (K:=K) (H:=H) (n:=n) f f
   have e:xS x x=true:=by cases x<;>first | rfl | (simp [xS];done) | exact absurd (show false=true from f) aa6
   rw [e]at this;exact this
  ·exact oF.same
 ·simp
theorem xx(h1:gp K l H a xs)(h2:gp K l H c xs)(hf:∀x∈xs,fE x=true\/∃p,x=.ref p)(q:Q (.bl true) H):lp K (.ref a) (.ref c) H Q:=.inr ⟨true,.of_same h1 h2 hf,q⟩
theorem xy(h1:gp K l H a xs)(h2:gp K l H c xs)(hf:∀x∈xs,fE x=true\/∃p,x=.ref p)(q:Q (.bl false) H):lq K (.ref a) (.ref c) H Q:=.inr ⟨true,.of_same h1 h2 hf,q⟩
structure jG(P:Program)(w:World)(K:Frag)(mg:Str->Option Value)(base:Heap)(k:Nat)(f:Addr)(ps:List Str)(sp:Sp):Prop where
 ex:∃fd:FuncData,aN P w K mg base cc k f fd ps sp/\keepIn K (.ref f)=true/\dE K fd ps []
structure aK(P:Program)(w:World)(K:Frag)(mg:Str->Option Value)(base:Heap)(C:Addr)(m:Str)(k:Nat)(ps:List Str)(sp:Sp):Prop where
 cl:rO K C
 ex:∃(f:Addr) (fd:FuncData),CK K C m f/\aN P w K mg base cc k f fd ps sp/\dE K fd ps []
structure Cc(K:Frag)(C:Addr)(m:Str)(f:Addr):Prop where
 rd:PySem.W.readsIn K C (.type "type")=true
 at_:PySem.W.findCls K (.ref C) (.type "type") m=some (.val (.ref f))
 ga:PySem.W.specialIn K (.ref C) "__getattribute__"=some (some (.builtin "type.__getattribute__"))
 kp:keepIn K (.ref f)=true
structure lZ(P:Program)(w:World)(K:Frag)(mg:Str->Option Value)(base:Heap)(x m:Str)(k:Nat)(ps:List Str)(sp:Sp):Prop where
 ex:∃(C f:Addr) (fd:FuncData),mg x=some (.ref C)/\Cc K C m f/\aN P w K mg base cc k f fd ps sp/\dE K fd ps []
structure h8(P:Program)(w:World)(K:Frag)(mg:Str->Option Value)(base:Heap)(x:Str)(C:Addr)(k:Nat)(ps:List Str)(sp:Sp):Prop where
 ex:∃(f:Addr) (fd:FuncData),Mk K C f/\aN P w K mg base cc k f fd ps sp/\mg x=some (.ref C)/\dE K fd ps []
theorem jG.up(d:jG P w K mg base j f ps sp)(h:j<=k):jG P w K mg base k f ps sp:=let ⟨fd,F,b,c⟩:=d.ex;⟨fd,F.mono h,b,c⟩
theorem aK.up(d:aK P w K mg base C m j ps sp)(h:j<=k):aK P w K mg base C m k ps sp:=let ⟨f,fd,a,F,c⟩:=d.ex;⟨d.cl,f,fd,a,F.mono h,c⟩
theorem lZ.up(d:lZ P w K mg base x m j ps sp)(h:j<=k):lZ P w K mg base x m k ps sp:=let ⟨C,f,fd,a,b,F,c⟩:=d.ex;⟨C,f,fd,a,b,F.mono h,c⟩
theorem h8.up(d:h8 P w K mg base x C j ps sp)(h:j<=k):h8 P w K mg base x C k ps sp:=let ⟨f,fd,a,F,b,c⟩:=d.ex;⟨f,fd,a,F.mono h,b,c⟩
theorem aK.imp{sp':Sp}(d:aK P w K mg base C m k ps sp)(h:∀vs H Q E,sp' vs H Q E->sp vs H Q E):aK P w K mg base C m k ps sp':=let ⟨f,fd,a,F,c⟩:=d.ex;⟨d.cl,f,fd,a,F.imp h,c⟩
def vt(P:Program)(w:World)(K:Frag)(mg:Str->Option Value)(base:Heap)(k:Nat)(m:Str)(ta:TE)(t:TA):TE:=fun Z H Q=>ta Z H fun x H1=>∃(a C dx:Addr) (fs:List (Str×V)) (ps:List Str) (sp:Sp),
 x=.ref a/\H1 a=some (.ins C dx fs)/\fs.lookup m=none/\aK P w K mg base C m k ps sp/\t Z H1 fun vs H2=>sp (x::vs) H2 Q E0
def z8(P:Program)(w:World)(K:Frag)(mg:Str->Option Value)(base:Heap)(k:Nat)(tf:TE)(t:TA):TE:=fun Z H Q=>tf Z H fun x H1=>∃(f:Addr) (ps:List Str) (sp:Sp),
 x=.ref f/\jG P w K mg base k f ps sp/\t Z H1 fun vs H2=>sp vs H2 Q E0
section
variable {apos:Pos} {o:Expr} {es:List Expr} {ta:TE} {t:TA}
theorem dR(P:Program)(w:World)(K:Frag)(mg:Str->Option Value)(base:Heap)(hr:dy k X.A)(he:PE X o ta)(ha:PA X (e::es) t)(e1:X.prog=P:=by rfl)(e2:X.w=w:=by rfl)(e3:X.K=K:=by rfl)(e4:X.mg=mg:=by rfl)(e5:X.base=base:=by rfl)
  (hst:starEach (e::es) X.env=(false,eval e X.env)::starEach es X.env:=by rfl) (hpl:(backTo pos (starEach es X.env)).any (·.1)=false:=by rfl)
  (ht:eval (.Call (.Attribute o m apos) (e::es) [] pos) X.env=(do
   let ov <-eval o X.env
   standAt apos.atName
   let (f,first) <-holding [ov] (getMethod ov m pl)
   callWith pos f first (backTo pos (starEach (e::es) X.env)) (backToKw pos (keywordEach [] X.env))):=by rfl) :
  PE X (.Call (.Attribute o m apos) (e::es) [] pos) (vt P w K mg base k m ta t):=by
 subst e1 e2 e3 e4 e5;intro pins s Z H Q I h;refine PySem.W.methodCall_KW (pl:=pl) (ck (he pins s Z H _ I h) fun u s1 zq0=>?_) ht;obtain⟨x,H1,I1,rx,a,C,dx,fs,ps,sp,ex,ea,l,M,q⟩:=zq0;subst ex;obtain rfl:u=Value.ref a:=rx;obtain⟨f,fd,hm,F,hb⟩:=M.ex;refine m5 I1 ea M.cl hm l ?_;refine PySem.W.callWith_K (first:=[.ref a]) (h₀:=X.base) I.ok.mod.kin hm.kp (ck (ha pos pins s1 Z H1 _ I1 q) fun us s2 ⟨vs,H2,I2,r,q2⟩=>⟨I2.kIn,?_⟩) hst hpl;exact nS (us:=.ref a::us) (vs:=.ref a::vs) (dvs:=[]) (E:=E0) F hr hb .nil pW I2 (.cons rfl r) (by rw [af4];exact q2)
theorem eC(P:Program)(w:World)(K:Frag)(mg:Str->Option Value)(base:Heap)(hr:dy k X.A)(he:PE X o ta)(e1:X.prog=P:=by rfl)(e2:X.w=w:=by rfl)(e3:X.K=K:=by rfl)(e4:X.mg=mg:=by rfl)(e5:X.base=base:=by rfl)
  (ht:eval (.Call (.Attribute o m apos) [] [] pos) X.env=(do
   let ov <-eval o X.env
   standAt apos.atName
   let (f,first) <-holding [ov] (getMethod ov m pl)
   callWith pos f first (backTo pos (starEach [] X.env)) (backToKw pos (keywordEach [] X.env))):=by rfl) :
  PE X (.Call (.Attribute o m apos) [] [] pos) (vt P w K mg base k m ta tN):=by
 subst e1 e2 e3 e4 e5;intro pins s Z H Q I h;refine PySem.W.methodCall_KW (pl:=pl) (ck (he pins s Z H _ I h) fun u s1 zq0=>?_) ht;obtain⟨x,H1,I1,rx,a,C,dx,fs,ps,sp,ex,ea,l,M,q⟩:=zq0;subst ex;obtain rfl:u=Value.ref a:=rx;obtain⟨f,fd,hm,F,hb⟩:=M.ex;refine m5 I1 ea M.cl hm l ?_;exact PySem.W.callWith_K0 (first:=[.ref a]) I1.kIn hm.kp (nS (us:=[.ref a]) (vs:=[.ref a]) (dvs:=[]) (E:=E0) F hr hb .nil pW I1 (.cons rfl .nil) q)
theorem zj(P:Program)(w:World)(K:Frag)(mg:Str->Option Value)(base:Heap)(hr:dy k X.A)(he:PE X o ta)(ha:PA X (e::es) t)(e1:X.prog=P:=by rfl)(e2:X.w=w:=by rfl)(e3:X.K=K:=by rfl)(e4:X.mg=mg:=by rfl)(e5:X.base=base:=by rfl)
  (hst:starEach (e::es) X.env=(false,eval e X.env)::starEach es X.env:=by rfl) (hpl:(backTo pos (starEach es X.env)).any (·.1)=false:=by rfl)
  (hev:eval (.Call o (e::es) [] pos) X.env=(do callWith pos (<-eval o X.env) [] (backTo pos (starEach (e::es) X.env)) (backToKw pos (keywordEach [] X.env))):=by rfl) :
  PE X (.Call o (e::es) [] pos) (z8 P w K mg base k ta t):=by
 subst e1 e2 e3 e4 e5;intro pins s Z H Q I h;refine Call_ (ck (he pins s Z H _ I h) fun u s1 zq0=>?_) hev;obtain⟨x,H1,I1,rx,f,ps,sp,ex,M,q⟩:=zq0;subst ex;obtain rfl:u=Value.ref f:=rx;obtain⟨fd,F,hk,hb⟩:=M.ex;refine PySem.W.callWith_K (h₀:=X.base) I.ok.mod.kin hk (ck (ha pos pins s1 Z H1 _ I1 q) fun us s2 ⟨vs,H2,I2,r,q2⟩=>⟨I2.kIn,?_⟩) hst hpl;exact nS (us:=us) (vs:=vs) (dvs:=[]) (E:=E0) F hr hb .nil pW I2 r (by rw [af4];exact q2)
theorem ix(d:lZ X.prog X.w X.K X.mg X.base x m k ps sp)(hr:dy k X.A)(hg:Gl X x)(ha:PA X (e::es) t)(hdb:(x == ("__debug__":Str))=false:=by decide)
  (hst:starEach (e::es) X.env=(false,eval e X.env)::starEach es X.env:=by rfl) (hpl:(backTo pos (starEach es X.env)).any (·.1)=false:=by rfl)
  (ht:eval (.Call (.Attribute (.Name x p) m apos) (e::es) [] pos) X.env=(do
   let ov <-eval (.Name x p) X.env
   standAt apos.atName
   let (f,first) <-holding [ov] (getMethod ov m pl)
   callWith pos f first (backTo pos (starEach (e::es) X.env)) (backToKw pos (keywordEach [] X.env))):=by rfl) :
  PE X (.Call (.Attribute (.Name x p) m apos) (e::es) [] pos) (tL sp [] E0 t):=by
 obtain⟨C,f,fd,hm,c,F,hb⟩:=d.ex;intro pins s Z H Q I h;refine PySem.W.methodCall_KW (pl:=pl) (mB I hg hm ?_ hdb) ht;refine PySem.W.method_cls I.kIn c.ga (PySem.W.cls_value I.kIn c.rd c.at_ rfl ?_);have I1:=I.tok (s.toks+1);refine PySem.W.callWith_K (first:=[]) (h₀:=X.base) I.ok.mod.kin c.kp (ck (ha pos pins _ Z H _ I1 h) fun us s2 ⟨vs,H2,I2,r,q2⟩=>⟨I2.kIn,?_⟩) hst hpl;exact nS (us:=us) (vs:=vs) F hr hb .nil pW I2 r q2
theorem pX(d:h8 X.prog X.w X.K X.mg X.base x C k ps sp)(hr:dy (k+1) X.A)(hg:Gl X x)(ha:PA X (e::es) t)(hdb:(x == ("__debug__":Str))=false:=by decide)
  (he:starEach (e::es) X.env=(false,eval e X.env)::starEach es X.env:=by rfl) (hpl:(backTo pos (starEach es X.env)).any (·.1)=false:=by rfl) :
  PE X (.Call (.Name x p) (e::es) [] pos) (Af C sp [] E0 t):=
 let ⟨_,_,M,F,hm,hb⟩:=d.ex;BB M F hr hg hm hb .nil pW ha hdb he hpl
end
def kE(K:Frag)(a:Addr)(D:List (Str×V)):Prop:=(a == sysModules)=false/\∃o es ep,K.lookup a=some o/\o.ExactDict/\o.data=.dict es ep/\KTD.Rows aS es.toList D
section
variable {prog:Program} {E:Value->Shared->Prop} {s:Shared} {k:Str} {tk:Tok}
theorem kE.typeIs(X:K.In s.heap)(T:kE K a D):s.TypeIs (.ref a) "dict":=let ⟨_,o,_,_,ho,hc,_⟩:=T;⟨o,X _ _ ho,hc.1⟩
theorem lU{Q:Option Value->Shared->Prop}(X:K.In s.heap)(T:kE K a D)(h1:∀d v,KTD.datumAt k D=some d->aS d v->Q (some v) { s with toks:=s.toks+1 })(h2:KTD.datumAt k D=none->Q none { s with toks:=s.toks+1 }):
  wpAny (model prog w) A (dictGet a (.str k tk)) Q E s:=by
 obtain⟨_,o,es,ep,ho,hc,hd,hr⟩:=T;have ho:=X _ _ ho;unfold dictGet
 try with_reducible refine ae2 ?_
 refine aa2 (wpAny_pyHash_str (aa2 (KTD.kt_dictFind_strs (s:={ s with toks:=s.toks+1 }) ho hd (by obtain⟨l⟩:=es;simpa using hr.exact) ?_)))
 have hq:Q (findBy (fun k v=>v.isStr k) es k) { s with toks:=s.toks+1 }:=by
  have hf:findBy (fun k v=>v.isStr k) es k=(es.toList.find? fun e=>e.key.isStr k).map (·.val):=by
   obtain⟨l⟩:=es;simp [findBy]
  rw [hf]
  cases hat:KTD.datumAt k D with
  | some d=>obtain⟨v,hv,hfl⟩:=hr.find_some hat;rw [hv];exact h1 d v hat hfl
  | none=>rw [hr.find_none hat];exact h2 hat
 rw [findBy_of_findIdx?]at hq
 cases hi:es.findIdx? fun e=>e.key.isStr k with
 | none=>rw [hi]at hq;exact aa7 hq
 | some i=>rw [hi]at hq;exact aa2 (wpAny_dictEntries (s:={ s with toks:=s.toks+1 }) ho hd (aa7 hq))
theorem xg{Q:Value->Shared->Prop}(X:K.In s.heap)(T:kE K a D)(h:Q (.bool (!(KTD.datumAt k D).isSome)) { s with toks:=s.toks+1 }):wpAny (model prog w) A (compareOp .NotIn (.str k tk) (.ref a)) Q E s:=by
 have ty:=T.typeIs X;show wpAny _ _ (do return .bool (!(<-contains (.ref a) (.str k tk)))) Q E s;refine aa2 ?_;unfold contains
 try with_reducible refine ae2 ?_
 refine aa2 (ak7 ty F.slot_dict_contains.lookup ?_);show wpAny _ _ (if (some (Value.builtin "dict.__contains__") == some Value.none)=true then _ else _) _ E s;rw [if_neg (by rw [beq_builtin_none];exact aa6)]
 refine aa2 (wpAny_callSpecialUnlessNone?_slot (name:=Str.ofString "__contains__") ty F.slot_dict_contains
  (ag5 F.slot_dict_contains ty F.entry_dict_contains ?_ (F.args_dict_contains_2 _ _)))
 show wpAny _ _ (dictGet a (.str k tk) >>= _) _ _ s;refine aa2 (lU X T (fun d v ha _=>?_) fun hn=>?_)
 ·rw [ha]at h
  show wpAny _ _ (ret (.bool true)) _ _ _;exact aa7 ⟨_,rfl,ae1 (aa7 h)⟩
 ·rw [hn]at h
  show wpAny _ _ (Builtin.Dict.pendingKey? a (.str k tk) >>= _) _ _ _;exact aa2 (wpAny_pendingKey_other T.1 (aa7 ⟨_,rfl,ae1 (aa7 h)⟩))
theorem yH{value slice:Expr}{v:V}{Q:Value->Shared->Prop}(X:K.In s.heap)(T:kE K a D)(hv:KTD.datumAt k D=some v)(h:∀u,aS v u->Q u { s with toks:=s.toks+1 })
  (hs:subscripted slice false (.ref a) (.str k tk)=operate [.ref a,.str k tk] (getItem (.ref a) (.str k tk))) (hg:∀r,letTemporaryGo value (.ref a) r=pure ()) :
  wpAny (model prog w) A (subscriptTail value slice (.ref a) (.str k tk)) Q E s:=by
 have ty:=T.typeIs X;refine subscriptTail_builtin ty F.slot_dict_getitem.lookup ?_ hs hg;unfold getItem
 try with_reducible refine ae2 ?_
 refine aa2 (wpAny_sequenceKey ty (by decide) ?_)
 refine aa2 (wpAny_callSpecial?_slot (name:=Str.ofString "__getitem__") ty F.slot_dict_getitem
  (ag5 F.slot_dict_getitem ty F.entry_dict_getitem ?_ (F.args_dict_getitem_2 _ _)))
 show wpAny _ _ (dictGet a (.str k tk) >>= _) _ _ s;refine aa2 (lU X T (fun d v' ha hr=>?_) fun hn=>?_)
 ·rw [hv]at ha
  cases ha;exact aa7 ⟨v',rfl,aa7 (h v' hr)⟩
 ·rw [hv]at hn;cases hn
end
theorem uE(K:Frag)(h:X.K=K:=by rfl):cX X (compareOp .NotIn) (fun x y H Q=>∃k a D,x=.str k/\y=.ref a/\kE K a D/\Q (.bl (!(KTD.datumAt k D).isSome)) H):=by
 subst h;intro pins s Z H x y v u Q I rx ry h;obtain⟨k,a,D,rfl,rfl,T,q⟩:=h;obtain⟨t,rfl⟩:=rx;cases ry;exact xg I.kIn T ⟨.bl _,H,I.tok _,rfl,q⟩
theorem zm(K:Frag){b:Expr}{ta tb:TE}(ha:PE X (.Name x p) ta)(hb:PE X b tb)(hs:vF b)(hg:∀v r,letTemporaryGo (.Name x p) v r=pure ():=by intro _ _;with_unfolding_all rfl)(h:X.K=K:=by rfl):
  PE X (.Subscript (.Name x p) b pos) (DU (fun x y H Q=>∃k a D v,x=.str k/\False\/x=.ref a/\y=.str k/\kE K a D/\KTD.datumAt k D=some v/\Q v H) ta tb):=by
 subst h;intro pins s Z H Q I h;refine Subscript_ (AF ha hb I h fun v u s2 x y H2 I2 rx ry q=>?_);obtain⟨k,a,D,z,q⟩:=q;rcases q with q | ⟨rfl,rfl,T,hv,q⟩
 ·exact q.2.elim
 cases rx;obtain⟨t,rfl⟩:=ry;exact yH I2.kIn T hv (fun u ru=>⟨z,H2,I2.tok _,ru,q⟩) (hs _ _) (hg _)
theorem qJ{a b:String}:(Str.ofString a=Str.ofString b)↔a=b:=by
 constructor
 ·intro h
  rw [Str.ofString_eq_toList,Str.ofString_eq_toList]at h
  have h1:(a.toList.map Char.toNat)=(b.toList.map Char.toNat):=by
   have:=congrArg (fun s:Str=>s.cps.toList) h
   simpa using this
  have h2:a.toList=b.toList:=by
   refine List.map_inj_right (f:=Char.toNat) (fun x y e=>?_) |>.mp h1
   exact Char.toNat_inj.mp e
  exact String.toList_inj.mp h2
 ·intro h;rw [h]
def xh:Option Int->V
 | none=>.non
 | some i=>.int i
def aY(us:List Int)(v:Int):Int:=us.getD (v - 1).toNat 0
theorem fH{us:List Int}{v:Int}(h1:1<=v)(h2:v<=us.length):dC (us.map V.int) (v - 1)=some (.int (aY us v)):=by
 obtain⟨k,hk⟩:=ae9 (show 0<=v - 1 by omega);rw [hk]
 have hl:k < us.length:=by omega
 refine aA ?_;rw [aa5,aa1 hl];simp [aY,hk,List.getD,aa1 hl]
structure bO where
 size:Int
 start:Int
 after:Int->Option (List Int)->List Int->Option Int
 closes:Int->Option (List Int)->Bool
def BV(K:Frag)(H:Hp)(nv:Nat)(b:Option (List Int))(x:V):Prop:=(b=none/\x=.non)\/∃a us,b=some us/\x=.ref a/\bH K H a (us.map V.int)/\us.length=nv
theorem BV.same{H':Hp}{b:Option (List Int)}{x:V}(s:ar H H')(h:BV K H nv b x):BV K H' nv b x:=by
 rcases h with h | ⟨a,us,h1,h2,h3,h4⟩
 ·exact .inl h
 ·exact .inr ⟨a,us,h1,h2,s.tup h3,h4⟩
abbrev pE:=Addr->Hp->Prop
def og(RI:pE)(v:V):Sp:=fun vs H Q _=>∃r,vs=[.ref r]/\RI r H/\Q v H
def dc(K:Frag)(nv:Nat)(RI:pE)(S:bO)(G:Int->Prop):Sp:=fun vs H Q _=>∃r m x c b us,vs=[.ref r,.int m,x,.ref c]/\RI r H/\G m/\BV K H nv b x/\bH K H c (us.map V.int)/\us.length=nv/\Q (xh (S.after m b us)) H
def kr(K:Frag)(nv:Nat)(RI:pE)(S:bO)(G:Int->Prop):Sp:=fun vs H Q _=>∃r m x b,vs=[.ref r,.int m,x]/\RI r H/\G m/\BV K H nv b x/\Q (.bl (S.closes m b)) H
structure bS(P:Program)(w:World)(K:Frag)(mg:Str->Option Value)(base:Heap)(k:Nat)(nv:Nat)(C:Addr)(S:bO)(RI:pE)(G:Int->Prop):Prop where
 mono:∀r H H',ar H H'->RI r H->RI r H'
 ins:∀r H,RI r H->∃dx fs,H r=some (.ins C dx fs)/\fs.lookup (Str.ofString "size")=none/\fs.lookup (Str.ofString "start")=none/\fs.lookup (Str.ofString "after")=none/\fs.lookup (Str.ofString "closes")=none/\fs.lookup (Str.ofString "shown")=none
 g0:G S.start
 gS:∀m b us m',G m->S.after m b us=some m'->G m'
 size:aK P w K mg base C "size" k ["self"] (og RI (.int S.size))
 start:aK P w K mg base C "start" k ["self"] (og RI (.int S.start))
 after:aK P w K mg base C "after" k ["self","memory","before","column"] (dc K nv RI S G)
 closes:aK P w K mg base C "closes" k ["self","memory","last"] (kr K nv RI S G)
theorem bS.up{S:bO}{RI:pE}{G:Int->Prop}(R:bS P w K mg base j nv C S RI G)(h:j<=k):bS P w K mg base k nv C S RI G:=
 ⟨R.mono,R.ins,R.g0,R.gS,R.size.up h,R.start.up h,R.after.up h,R.closes.up h⟩
def ja(S:bO)(m:Int)(b:Option (List Int))(i:Nat):List (List Int)->Option Nat
 | []=>if S.closes m b=true then none else some i
 | c::cs=>match S.after m b c with
  | none=>some i
  | some m'=>ja S m' (some c) (i+1) cs
def brk(S:bO)(cols:List (List Int)):Option Int:=(ja S S.start none 0 cols).map fun(n:Nat)=>(n:Int)
def eW(K:Frag)(H:Hp)(l:Addr)(nv:Nat)(cols:List (List Int)):Prop:=∃ps:List Addr,aL K H l (ps.map V.ref)/\ps.length=cols.length/\∀(i:Nat) (p:Addr) (us:List Int),ps[i]?=some p->cols[i]?=some us->bH K H p (us.map V.int)/\us.length=nv
theorem eW.same{H':Hp}{l:Addr}{cols:List (List Int)}(s:ar H H')(h:eW K H l nv cols):eW K H' l nv cols:=by
 obtain⟨ps,h1,h2,h3⟩:=h;exact⟨ps,s.seq h1,h2,fun i p us a b=>⟨s.tup (h3 i p us a b).1,(h3 i p us a b).2⟩⟩
def n9(P:Program)(w:World)(K:Frag)(mg:Str->Option Value)(base:Heap)(k:Nat):Sp:=fun vs H Q _=>∃(r l:Addr) (nv:Nat) (C:Addr) (S:bO) (RI:pE) (G:Int->Prop) (cols:List (List Int)),
 vs=[.ref r,.ref l]/\bS P w K mg base k nv C S RI G/\RI r H/\eW K H l nv cols/\cols.length<=1000/\∀H',ar H H'->Q (xh (brk S cols)) H'
structure fw(z kind:Str)(ns:List Int):Prop where
 cs:z.cps.toList=cQ 32 (kind.cps.toList::ns.map gH)
 nb:∀n∈ns,n.natAbs < 10 ^ 40
 nl:ns.length<=20
 ks:32∉kind.cps.toList
 kl:kind.length<=20
 k0:kind.cps.toList≠[]
theorem mC(n:Int):32∉gH n:=fun h=>by
 have:=nA n 32 h
 omega
theorem B8{y:Str}(h:x.cps.toList=y.cps.toList):x=y:=by
 have:=kB x y
 rw [decide_eq_true h]at this;exact of_decide_eq_true this
theorem eM:∀{xs ys:List Str},xs.map (fun z=>z.cps.toList)=ys.map (fun z=>z.cps.toList)->xs=ys
 | [],[],_=>rfl
 | [],_::_,h=>by simp at h
 | _::_,[],h=>by simp at h
 | x::xs,y::ys,h=>by
  rw [ad7,ad7]at h
  injection h with h1 h2
  rw [B8 h1,eM h2]
def aO(n:Int):Str:=Str.ofString (toString n)
theorem fw.split(R:fw z kind ns):Txt.split z ⟨#[32]⟩=kind::ns.map aO:=by
 refine eM ?_;rw [iR z (by decide),R.cs,oq 32 _ (by simp) (fun p hp=>?_),ad7,ai0]
 ·rfl
 ·rcases aa8.mp hp with rfl | hp
  ·exact R.ks
  ·obtain⟨n,_,rfl⟩:=ac0.mp hp
   exact mC n
theorem iX(c:Nat):∀(ps:List (List Nat)) (m:Nat),(∀p∈ps,p.length<=m)->(cQ c ps).length<=ps.length * (m+1)
 | [],_,_=>by simp [cQ]
 | p::ps,m,h=>by
  have h1:=h p (by simp);have h2:=iX c ps m (fun q hq=>h q (by simp [hq]))
  have h3:(cQ c (p::ps)).length<=p.length+1+(cQ c ps).length:=by
   cases ps with
   | nil=>simp [cQ]
   | cons q ps=>
    simp [cQ,ab2];omega
  rw [ad1,an8];omega
theorem fw.len(R:fw z kind ns):z.length<=10000:=by
 rw [aZ,R.cs]
 have h:=iX 32 (kind.cps.toList::ns.map gH) 60 (fun p hp=>by
  rcases aa8.mp hp with rfl | hp
  ·have:=R.kl;rw [aZ]at this;omega
  ·obtain⟨n,hn,rfl⟩:=ac0.mp hp
   have:=fJ (n:=n) (k:=40) (by decide) (R.nb n hn)
   omega)
 have:=R.nl
 simp only [ad1,aa0]at h;omega
theorem vh(z y:Str){c:Nat}(hy:y.cps.toList.head?=some c)(hz:z.cps.toList.head?≠some c):Txt.startswith z y=false:=by
 obtain⟨⟨l⟩⟩:=z;obtain⟨⟨m⟩⟩:=y
 unfold Txt.startswith
 rw [StrLaws.subAt_eq]
 cases m with
 | nil=>simp at hy
 | cons b m=>
  cases l with
  | nil=>simp [Str.length]
  | cons a l=>
   simp at hy hz;subst hy;simp [Str.length];intro _ h;exact absurd h hz
theorem fw.head(R:fw z kind ns):z.cps.toList.head?=kind.cps.toList.head?:=by
 rw [R.cs]
 cases e:kind.cps.toList with
 | nil=>exact absurd e R.k0
 | cons a l=>
  cases ns with
  | nil=>simp [cQ]
  | cons n ns=>simp [cQ]
theorem zo:PE X e (fun _ _ _=>False):=fun _ _ _ _ _ _ h=>h.elim
theorem ft(xs:List V)(k:Nat):kK xs (some (k:Int)) none=xs.drop k:=by
 unfold kK;rw [HT.sIx_nat,HT.sIx_none]
 by_cases h:k<=xs.length
 ·rw [an5 h,ag2 (by rw [ag4];omega)]
 ·rw [Nat.min_eq_right (by omega),al7 (aa9 _),al7 (by omega),List.take_nil]
theorem iV(xs:List V)(k:Nat):kK xs none (some (k:Int))=xs.take k:=by
 unfold kK HT.sIx
 have e:¬((k:Int) < 0):=by omega
 simp [e]
theorem m6(i:Int):∀D:List Int,Cu (.int i) (D.map V.int)=decide (i∈D)
 | []=>rfl
 | d::D=>by
  have ih:=m6 i D
  have e:Cu (.int i) ((d::D).map V.int)=((d == i) || Cu (.int i) (D.map V.int)):=rfl
  rw [e,ih,ah4,ak6,beq_iff_eq,decide_eq_true_eq,decide_eq_true_eq,aa8];exact⟨fun h=>h.imp Eq.symm id,fun h=>h.imp Eq.symm id⟩
theorem zB{D:List Int}(h:aL K H a (D.map V.int))(q:Q (.bl (decide (i∈D))) H):uL K (.int i) (.ref a) H Q:=by
 refine .inr ⟨a,_,rfl,.inl h,rfl,?_,?_⟩
 ·rw [ai9];exact ag7.mpr fun _ _=>rfl
 ·rw [m6];exact q
theorem aL.at_ins{q x dx:Addr}{fs:List (Str×V)}{o:HO}(h:aL K H q xs)(hx:H x=some (.ins C dx fs)):aL K (upd H x o) q xs:=by
 rcases h with(h | ⟨u,h⟩) | h
 ·exact .inl (.inl (by rw [aj (gy h hx (by intro z;cases z))];exact h))
 ·exact .inl (.inr ⟨u,by rw [aj (gy h hx (by intro z;cases z))];exact h⟩)
 ·exact .inr h
theorem oA{x l:Addr}{A L B:HO}:upd (upd (upd H x A) l L) x B=upd (upd H l L) x B:=by
 funext b
 unfold upd
 by_cases h:b=x
 ·rw [if_pos h,if_pos h]
 ·rw [if_neg h,if_neg h,if_neg h]
structure bX(K:Frag)(C:Addr)(m qual:Str)(st:Stmt)(f:Addr)(fd:FuncData):Prop where
 me:CK K C m f
 fn:cM K m qual st f fd
theorem methAt_mk(a:findIn K (.ref C) m=some (some (.ref f)))(i:PySem.W.isFn K (.ref f)=true)
  (l:K.lookup f=some ⟨oc,od,.func (fnOf m qual (cZ st) (cH st) (ao st) .none kV doc pm an cdv ct),osl⟩) (c:codeIn K cdv qual=true) (k:keepIn K (.ref f)=true):∃f fd,bX K C m qual st f fd:=
 ⟨f,_,⟨a,i,k⟩,fun_mk l c k⟩
theorem bX.ok(A:bX K C m qual st f fd)(cl:rO K C)(ok:aN P w K mg base cc k f fd ps sp)(b:dE K fd ps []):aK P w K mg base C m k ps sp:=⟨cl,f,fd,A.me,ok,b⟩
structure jD(K:Frag)(x m qual:Str)(st:Stmt)(C f:Addr)(fd:FuncData):Prop where
 ns:nsIn K mainGlobals x=some (some (.ref C))
 cm:Cc K C m f
 fn:cM K m qual st f fd
theorem cmethAt_mk(n:nsIn K mainGlobals x=some (some (.ref C)))(r:PySem.W.readsIn K C (.type "type")=true)(a:PySem.W.findCls K (.ref C) (.type "type") m=some (.val (.ref f)))
  (g:PySem.W.specialIn K (.ref C) "__getattribute__"=some (some (.builtin "type.__getattribute__")))
  (l:K.lookup f=some ⟨oc,od,.func (fnOf m qual (cZ st) (cH st) (ao st) .none kV doc pm an cdv ct),osl⟩) (c:codeIn K cdv qual=true) (k:keepIn K (.ref f)=true):∃C f fd,jD K x m qual st C f fd:=
 ⟨C,f,_,n,⟨r,a,g,k⟩,fun_mk l c k⟩
theorem jD.df{h:Heap}(A:jD K x m qual st C f fd)(X:K.In h)(G:h.Ns mainGlobals mg)(ok:aN P w K mg base cc k f fd ps sp)(b:dE K fd ps []):lZ P w K mg base x m k ps sp:=
 ⟨C,f,fd,mg_of X G A.ns,A.cm,ok,b⟩
structure qk(K:Frag)(x qual:Str)(st:Stmt)(C f:Addr)(fd:FuncData):Prop where
 ns:nsIn K mainGlobals x=some (some (.ref C))
 mm:Mk K C f
 fn:cM K "__init__" qual st f fd
theorem mkAt_mk(n:nsIn K mainGlobals x=some (some (.ref C)))(mk:PySem.W.makesIn K C=true)(a:findIn K (.ref C) "__init__"=some (some (.ref f)))(i:PySem.W.isFn K (.ref f)=true)(kc:keepIn K (.ref C)=true)
  (l:K.lookup f=some ⟨oc,od,.func (fnOf "__init__" qual (cZ st) (cH st) (ao st) .none kV doc pm an cdv ct),osl⟩) (c:codeIn K cdv qual=true) (k:keepIn K (.ref f)=true):∃f fd,qk K x qual st C f fd:=
 ⟨f,_,n,⟨mk,a,i,kc⟩,fun_mk l c k⟩
theorem qk.df{h:Heap}(A:qk K x qual st C f fd)(X:K.In h)(G:h.Ns mainGlobals mg)(ok:aN P w K mg base cc k f fd ps sp)(b:dE K fd ps []):h8 P w K mg base x C k ps sp:=
 ⟨f,fd,A.mm,ok,mg_of X G A.ns,b⟩
theorem kR(c:Nat)(a b:List Nat)(ps:List (List Nat)):cQ c (a::b::ps)=a++c::cQ c (b::ps):=by simp [cQ]
theorem C0{k:Int}(h0:0<=k)(h1:k < n):AX n k=some k.toNat:=by
 unfold AX;obtain⟨j,rfl⟩:=ae9 h0;simp;omega
theorem B9{n:Int}(h:n.natAbs < 10 ^ 40):n.natAbs.log2 < 1920:=by
 by_cases h0:n.natAbs=0
 ·rw [h0];decide
 ·exact(Nat.log2_lt h0).mpr (ab0 h (by decide +kernel))
theorem bI{n:Int}(h:n.natAbs < 10 ^ 40):(aO n).length<=41:=by
 rw [aZ];exact fJ (n:=n) (k:=40) (by decide) h
theorem sL{us:List Int}{v:Int}(h1:0<=v)(h2:v < us.length):dC (us.map V.int) v=some (.int (aY us (v+1))):=by
 have:=fH (us:=us) (v:=v+1) (by omega) (by omega)
 rwa [show v+1 - 1=v by omega]at this
theorem rowsR{e:DictEntry}{t:Tok}{es:List DictEntry}(h1:e.key=.str x t)(h2:e.val=.ref f)(r:KTD.Rows aS es D):KTD.Rows aS (e::es) ((x,V.ref f)::D):=.cons h1 h2 r
theorem tab_mk{es:Array DictEntry}{ep:Nat}(l:K.lookup a=some o)(s:(a == sysModules)=false)(x:o.cls=.type "dict")(y:o.dict=none)(z:o.slots=#[])(d:o.data=.dict es ep)(r:KTD.Rows aS es.toList D):kE K a D:=⟨s,o,es,ep,l,⟨x,y,z⟩,d,r⟩
theorem defAtD_mk2{v:V}(a:nsIn K mainGlobals x=some (some (.ref f)))
  (l:K.lookup f=some ⟨oc,od,.func (fnOf x x (cZ st) (cH st) (ao st) (.ref T) kV doc pm an cdv ct),osl⟩) (c:codeIn K cdv x=true) (k:keepIn K (.ref f)=true)
  (t:K.lookup T=some o) (d:o.data=.seq #[u] n) (r:aS v u):∃f fd u,xV K x st f fd u/\aS v u:=
 ⟨f,_,u,⟨a,T,o,n,⟨⟨oc,od,kV,doc,pm,an,cdv,ct,osl,rfl,l,c⟩,k⟩,t,d⟩,r⟩
theorem oJ:cC X (.type "str") (fun xs H Q=>∃z,xs=[.str z]/\Q (.str z) H):=by
 intro pins s Z H xs us Q I r h;obtain⟨z,rfl,q⟩:=h;obtain⟨u,rfl,ru⟩:=eV r;obtain⟨t,rfl⟩:=ru;exact P.str_of_str ⟨.str z,H,I,⟨t,rfl⟩,q⟩
def uP:List V->Hp->VK->Prop:=fun xs H Q=>(∃i,xs=[.int i]/\i.natAbs.log2 < 1920/\Q (.str (aO i)) H)\/∃z,xs=[.str z]/\Q (.str z) H
theorem iU:cC X (.type "str") uP:=call_str_int.or oJ
theorem rStr_i:uP [.int i] H Q↔i.natAbs.log2 < 1920/\Q (.str (aO i)) H:=by simp [uP]
theorem rStr_s:uP [.str z] H Q↔Q (.str z) H:=by simp [uP]
theorem yc(ns:List Int)(lo hi:Option Int):∃ms:List Int,kK (ns.map V.int) lo hi=ms.map V.int/\ms.length<=ns.length/\∀m∈ms,m∈ns:=by
 refine⟨(ns.drop (HT.sIx (ns.map V.int).length 0 lo)).take (HT.sIx (ns.map V.int).length (ns.map V.int).length hi - HT.sIx (ns.map V.int).length 0 lo),?_,?_,fun m hm=>?_⟩
 ·unfold kK
  rw [ap0,List.map_drop]
 ·rw [ac3,ag4]
  omega
 ·exact am9 (af3 hm)
theorem zK(nb:∀n∈ns,n.natAbs < 10 ^ 40)(nl:ns.length<=20)(ks:32∉kind.cps.toList)(kl:kind.length<=20)(k0:kind.cps.toList≠[]):fw (Txt.join (Str.ofString " ") (kind::ns.map aO)) kind ns:=by
 have e32:(Str.ofString " ")=⟨#[32]⟩:=by decide +kernel
 refine⟨?_,nb,nl,ks,kl,k0⟩;rw [e32,cA,ad7,ai0];rfl
end L2
namespace L3
open PySem PySem.Spec PyProof.Rows
section
variable {prog:Program} {w:World} {A:Around} {E:Value->Shared->Prop} {s:Shared}
end
end L3
namespace L2
open PySem PySem.Spec PyProof.Rows
variable {cols:List (List Int)}
def FW(K:Frag)(n:Nat)(t:AA):TG:=fun v Z H Q=>∃a l xs,v=.ref a/\gp K l H a xs/\xs.length=n/\t xs Z H Q
theorem lX{K:Frag}{H:Hp}{a:Addr}{i:Int}{D:List Int}{Q:VK}(h:aL K H a (D.map V.int))(q:Q (.bl (!decide (i∈D))) H):mG K (.int i) (.ref a) H Q:=by
 refine .inr ⟨a,_,rfl,.inl h,rfl,?_,?_⟩
 ·rw [ai9];exact ag7.mpr fun _ _=>rfl
 ·rw [m6];exact q
section
variable {X:Cx} {e st:Expr} {te:TE} {p2 pos:Pos}
def Gb(K:Frag)(te ts:TE):TE:=fun Z H Q=>te Z H fun x H1=>ts Z H1 fun y H2=>y=.int (-1)/\∃a xs,x=.ref a/\aL K H2 a xs/\∀p,H2 p=none->Q (.ref p) (upd H2 p (.lst xs.reverse))
end
def aT(B:Nat->Bool)(i:Nat):Nat->Option Nat
 | 0=>none
 | k+1=>if B i=true then some i else aT B (i+1) k
theorem sh(B:Nat->Bool):∀(k i:Nat),aT B i (k+1)=match aT B i k with | some j=>some j | none=>if B (i+k)=true then some (i+k)else none
 | 0,i=>by simp [aT]
 | k+1,i=>by
  have ih:=sh B k (i+1);rw [aT,ih]
  by_cases hb:B i=true
  ·simp [aT,hb]
  ·rw [if_neg hb]
   simp only [aT];rw [if_neg hb,show i+1+k=i+(k+1)by omega]
def dn(cols:List (List Int)):Nat->Option (List Int)
 | 0=>none
 | i+1=>cols[i]?
structure Walks(S:bO)(cols:List (List Int))(mem:Nat->Int)(B:Nat->Bool):Prop where
 m0:S.start=mem 0
 st:∀(i:Nat) (us:List Int),cols[i]?=some us->S.after (mem i) (dn cols i) us=if B i=true then none else some (mem (i+1))
theorem Walks.go{S:bO}{mem:Nat->Int}{B:Nat->Bool}(h:Walks S cols mem B):∀(k i:Nat),i+k=cols.length->ja S (mem i) (dn cols i) i (cols.drop i)=match aT B i k with | some j=>some j | none=>if S.closes (mem cols.length) (dn cols cols.length)=true then none else some cols.length
 | 0,i,e=>by
  have e':i=cols.length:=by omega
  subst e';rw [ap3];rfl
 | k+1,i,e=>by
  have hi:i < cols.length:=by omega
  rw [ak2 hi];simp only [ja,aT];rw [h.st i cols[i] (aa1 hi)]
  by_cases hb:B i=true
  ·rw [if_pos hb,if_pos hb]
  ·rw [if_neg hb,if_neg hb]
   have:=h.go k (i+1) (by omega)
   rw [show dn cols (i+1)=some cols[i]from aa1 hi]at this;exact this
theorem zJ{x kind:Str}{a b:Int}(hx:x.cps.toList=kind.cps.toList++[32])(na:a.natAbs < 10 ^ 40)(nb:b.natAbs < 10 ^ 40)(ks:32∉kind.cps.toList)(kl:kind.length<=20)(k0:kind.cps.toList≠[]):fw (x++aO a++Str.ofString " " ++ aO b) kind [a,b]:=by
 refine⟨?_,fun n hn=>?_,by simp,ks,kl,k0⟩
 ·have e32:(Str.ofString " ").cps.toList=[32]:=by decide +kernel
  have ea:∀u v:Str,(u++v).cps.toList=u.cps.toList++v.cps.toList:=fun u v=>by
   show(u.cps++v.cps).toList=_;rw [ah5]
  rw [ea,ea,ea,hx,e32];simp only [ad7,ah9,cQ];simp;rfl
 ·rcases aa8.mp hn with rfl | hn
  ·exact na
  ·rw [ab6.mp hn];exact nb
theorem A9{K:Frag}{H:Hp}{nv:Nat}{ps:List Addr}{l:Addr}{o:Int}(hps:aL K H l (ps.map V.ref))(hpl:ps.length=cols.length)(hpc:∀(i:Nat) (p:Addr) (us:List Int),ps[i]?=some p->cols[i]?=some us->bH K H p (us.map V.int)/\us.length=nv)(o0:0<=o)(o1:o < nv){p:Int}(p0:0<=p)(p1:p < cols.length){Q:VK}(q:Q (.int (aY (cols.getD p.toNat []) (o+1))) H):pe K (.ref l) (.int p) H fun x H1=>pe K x (.int o) H1 Q:=by
 obtain⟨i,rfl⟩:=ae9 p0
 have hi:i < cols.length:=by omega
 have e2:cols[i]?=some cols[i]:=aa1 hi;obtain⟨h1,h2⟩:=hpc i _ _ (aa1 (show i < ps.length by omega)) e2;refine bG hps (show dC _ ((i:Nat):Int)=some (.ref ps[i])from aA (by rw [aa5,aa1 (show i < ps.length by omega)];rfl)) ?_;refine aR h1 (sL o0 (by omega)) ?_;rw [ab8,ae4,e2]at q;exact q
end L2
namespace L3
open PySem PySem.Spec PyProof.Rows L2 HT
section
variable {prog:Program} {w:World} {A:Around} {E:Value->Shared->Prop} {s:Shared}
theorem cat_tup0{t b:Addr}{ws:List Value}{Q:Value->Shared->Prop}(ht:IsTup s.heap t (List.toArray []))(hb:IsTup s.heap b ws.toArray)
  (h1:Q (.ref b) s):wpAny (model prog w) A (binaryOp .Add (.ref t) (.ref b)) Q E s:=by
 obtain⟨⟨cls,dd,data,sl⟩,ho,hc,n,hd⟩:=id ht;obtain⟨⟨cls2,dd2,data2,sl2⟩,ho2,hc2,n2,hd2⟩:=id hb;simp only at hc hd hc2 hd2;subst hc hd hc2 hd2
 exact concat_meets ⟨_,ho,rfl⟩ ⟨_,ho2,rfl⟩ noFill_tuple_add seq_tuple_add PySem.F.slot_tuple_add PySem.F.entry_tuple_add (PySem.F.args_tuple_add_2 _ _)
   (tuple_addW0 t b #[] ws.toArray n n2 dd dd2 sl sl2 (by simp)) ⟨ho,ho2,h1⟩
end
end L3
namespace L2
open PySem PySem.Spec PyProof.Rows
variable {A:Around} {D:jF} {E:Value->Shared->Prop} {H:Hp} {K:Frag} {Q:VK} {R:Result->Shared->Prop} {X:Cx} {a b c i j t u:Int} {kf:Nat->List Int} {n:Nat} {p:Pos} {pins:List (Addr×Obj)} {prog:Program} {r:Addr} {rest z:Str} {s:Shared} {tg:Expr} {v:Tok} {w:World} {x y:V} {xs:List V} {Z:St}
def zA(K:Frag):R2:=fun x y H Q=>∃a b ys,x=.ref a/\y=.ref b/\bH K H a []/\bH K H b ys/\Q (.ref b) H
theorem Bs:cX X (binaryOp .Add) (zA X.K):=by
 intro pins s Z H x y v u Q I rx ry h;obtain⟨a,b,ys,rfl,rfl,ha,hb,q⟩:=h;cases rx;cases ry;obtain⟨its,r1,p1,_⟩:=I.tuple ha;obtain⟨its2,r2,p2,_⟩:=I.tuple hb;cases r1;exact L3.cat_tup0 p1 p2 ⟨.ref b,H,I,rfl,q⟩
def iA(K:Frag):R2:=fun x y H Q=>eT K x y H Q\/zA K x y H Q
theorem Dm(K:Frag)(h:X.K=K:=by rfl):cX X (binaryOp .Add) (iA K):=by
 subst h;exact opAdd.or Bs
theorem zz{K:Frag}:iA K (.int i) (.int j) H Q↔Q (.int (i+j)) H:=by
 simp [iA,nR,zA]
theorem yJ(K:Frag):nh (iA K)=iA K:=vP fun _ _ _ _=>zz
theorem AZ{K:Frag}:nh (iA K) x y H Q↔iA K x y H Q:=by rw [yJ]
theorem vS(K:Frag)(h:X.K=K:=by rfl):cX X (binaryOp .Add) (nh (iA K)):=by rw [yJ];exact Dm K h
theorem sY{K:Frag}{a b:Addr}{ys:List V}(ha:H a=some (.tup xs))(hb:H b=some (.tup ys))(hz:xs.length+ys.length<=sizeLine)(q:∀p H',ar H H'->H' p=some (.tup (xs++ys))->Q (.ref p) H'):iA K (.ref a) (.ref b) H Q:=by
 by_cases hx:xs=[]
 ·subst hx
  exact .inr ⟨a,b,ys,rfl,rfl,bH.of ha,bH.of hb,q b H (ar.refl H) hb⟩
 ·refine .inl (.inr (.inr (.inr ⟨a,b,xs,ys,rfl,rfl,bH.of ha,bH.of hb,hx,hz,fun e=>?_,fun _ p hp=>q p _ (ak hp) ag⟩)))
  subst e;exact q a H (ar.refl H) (by rw [af4];exact ha)
def Itd(lo:Int)(n:Nat):It:=⟨fun i _=>i < n,fun i H x H'=>H'=H/\x=.int (lo - i),fun i _=>n<=i⟩
def Ez(ta:TA):TI:=fun Z H R=>ta Z H fun vs H1=>∃i j:Int,vs=[.int i,.int j,.int (-1)]/\(-(2 ^ 62)<=i/\i < 2 ^ 62/\-(2 ^ 62)<=j/\j < 2 ^ 62)/\R (Itd i (i - j).toNat) H1
theorem jd:∀{ns:List Int} {us:List Value},aQ (ns.map V.int) us->∃ps:List (Int×Tok),us=ps.map (fun p=>Value.int p.1 p.2)/\ps.map (·.1)=ns
 | [],_,.nil=>⟨[],rfl,rfl⟩
 | n::ns,_,.cons r t=>by
  obtain⟨ps,e1,e2⟩:=jd t;obtain⟨tk,rfl⟩:=r;exact⟨(n,tk)::ps,by rw [e1];rfl,by rw [<-e2];rfl⟩
theorem wB(hc:X.calm=true)(K:Frag)(hK:X.K=K:=by rfl):cC X (.builtin "min") (fun xs H Q=>∃p ns,xs=[.ref p]/\aL K H p (List.map V.int ns)/\ns≠[]/\∀i∈ns,Q (.int i) H):=by
 subst hK;intro pins s Z H xs us Q I r h;obtain⟨p,ns,rfl,hp,hne,q⟩:=h;obtain⟨u,rfl,ru⟩:=eV r;cases ru;obtain⟨its,rv,ht,_⟩:=I.list hp;obtain⟨ps,e1,e2⟩:=jd rv
 have hl:s.heap.IsList p (intItems ps.toArray):=by
  have:=ht.isList
  rw [e1]at this;simpa [intItems]using this
 refine min_intList (I.ok.hd hc) hl (by
  rw [ab1]
  have:ps.length=ns.length:=by rw [<-e2,aa0]
  have:ns.length≠0:=fun z=>hne (ag0.mp z)
  omega) fun v h' tk hv hk=>?_
 simp only [intItems,List.map_toArray,List.getElem?_toArray,aa5,Option.map_eq_some_iff]at hv;obtain⟨⟨a,t⟩,ha,rfl⟩:=hv;refine⟨.int a,H,I.kept (t':=tk) fun b o e=>hk b o e,⟨t,rfl⟩,q a ?_⟩;rw [<-e2];exact List.mem_map_of_mem (f:=fun p:Int×Tok=>p.1) (ac5 ha)
def gh(c:Nat):Nat->List Nat->List (List Nat)
 | 0,l=>[l]
 | _+1,[]=>[[]]
 | n+1,a::l=>if a=c then []::gh c n l else match gh c (n+1) l with
  | []=>[[a]]
  | p::r=>(a::p)::r
theorem rH(c:Nat):∀n l,gh c n l≠[]
 | 0,l=>by simp [gh]
 | n+1,[]=>by simp [gh]
 | n+1,a::l=>by
  simp only [gh]
  split
  ·simp
  ·split<;>simp
theorem i4(x:Str)(c:Nat)(lim:Nat):∀(l:List Nat) (i:Nat) (acc:Array Nat) (fr:Nat),x.cps.toList.drop i=l->fr<=i->
  (forIn (List.range' i (l.length+1)) (acc,fr) (StrLaws.occBody x ⟨#[c]⟩ x.length lim)).run.fst.toList=acc.toList++(dk c l i).take (lim - acc.size)
 | [],i,acc,fr,hl,hf=>by
  have hi:x.length<=i:=by
   rw [aZ];exact ak0.mp hl
  show(forIn [i] (acc,fr) _:Id _).run.fst.toList=_;rw [af7];unfold StrLaws.occBody;rw [if_neg (by intro h;have:=h.1.2;have e1:(⟨#[c]⟩:Str).length=1:=rfl;rw [e1]at this;omega)];show acc.toList=_;simp [dk]
 | b::l,i,acc,fr,hl,hf=>by
  have hb:x.cps.toList[i]?=some b:=by
   have:(x.cps.toList.drop i)[0]?=some b:=by rw [hl];rfl
   rwa [ag9,ap8]at this
  have hi:i < x.length:=by
   rw [aZ];obtain⟨h,_⟩:=aa3.mp hb;exact h
  have hd:x.cps.toList.drop (i+1)=l:=by
   rw [<-al6,hl];rfl
  have e1:(⟨#[c]⟩:Str).length=1:=rfl;show(forIn (i::List.range' (i+1) (l.length+1)) (acc,fr) _:Id _).run.fst.toList=_;rw [af7];unfold StrLaws.occBody
  by_cases hc:b=c
  ·by_cases hs:acc.size < lim
   ·rw [if_pos ⟨⟨⟨hs,hf⟩,by rw [e1];omega⟩,((StrLaws.subAt_one x c i).mpr (by rw [hb,hc])).2⟩]
    show(forIn (List.range' (i+1) (l.length+1)) (acc.push i,i+1) (StrLaws.occBody x ⟨#[c]⟩ x.length lim):Id _).run.fst.toList=_;rw [i4 x c lim l (i+1) _ _ hd (aa9 _),Array.size_push];simp only [dk,hc,if_true];rw [show lim - acc.size=(lim - (acc.size+1))+1 by omega,List.take_succ_cons];simp
   ·rw [if_neg (fun h=>hs h.1.1.1)]
    show(forIn (List.range' (i+1) (l.length+1)) (acc,fr) (StrLaws.occBody x ⟨#[c]⟩ x.length lim):Id _).run.fst.toList=_;rw [i4 x c lim l (i+1) _ _ hd (by omega)];rw [show lim - acc.size=0 by omega];simp
  ·rw [if_neg (fun h=>hc (by have:=(StrLaws.subAt_one x c i).mp ⟨h.1.2,h.2⟩;rw [hb]at this;exact Option.some.inj this))]
   show(forIn (List.range' (i+1) (l.length+1)) (acc,fr) (StrLaws.occBody x ⟨#[c]⟩ x.length lim):Id _).run.fst.toList=_;rw [i4 x c lim l (i+1) _ _ hd (by omega)];simp [dk,hc]
theorem y8(x:Str)(c n:Nat):Builtin.Str.occurrences x ⟨#[c]⟩ 0 x.length n=(dk c x.cps.toList 0).take n:=by
 rw [StrLaws.occ_eq]
 have e:x.length+1 - 0=x.cps.toList.length+1:=by rw [aZ];rfl
 rw [e];have h:=i4 x c n x.cps.toList 0 #[] 0 rfl (aa9 _);rw [h];rfl
theorem iw(x:Str)(c:Nat):∀(l:List Nat) (n a j:Nat),a<=j->x.cps.toList.drop j=l->j<=x.length->
  (StrLaws.partsFrom x 1 a ((dk c l j).take n)).map (fun z=>z.cps.toList)=match gh c n l with
   | []=>[]
   | p::r=>((x.cps.toList.drop a).take (j - a)++p)::r
 | l,0,a,j,haj,hl,hj=>by
  simp only [List.take_zero,gh,StrLaws.partsFrom,ad7,ah9,StrLaws.strSub_toList];congr 1;rw [ag2 (by rw [ag4,aZ];omega)]
  have:=List.take_append_drop (j - a) (x.cps.toList.drop a)
  rw [al6,show a+(j - a)=j by omega,hl]at this;exact this.symm
 | [],n+1,a,j,haj,hl,hj=>by
  have hj':x.length<=j:=by rw [aZ];exact ak0.mp hl
  have e:j=x.length:=by omega
  subst e;simp [dk,gh,StrLaws.partsFrom,StrLaws.strSub_toList]
 | b::l,n+1,a,j,haj,hl,hj=>by
  have hb:x.cps.toList[j]?=some b:=by
   have:(x.cps.toList.drop j)[0]?=some b:=by rw [hl];rfl
   rwa [ag9,ap8]at this
  have hi:j < x.length:=by
   rw [aZ];obtain⟨h,_⟩:=aa3.mp hb;exact h
  have hd:x.cps.toList.drop (j+1)=l:=by
   rw [<-al6,hl];rfl
  by_cases hc:b=c
  ·have ih:=iw x c l n (j+1) (j+1) (aa9 _) hd hi
   simp only [dk,hc,if_true,List.take_succ_cons,StrLaws.partsFrom,ad7,gh,af4];rw [ih]
   cases hs:gh c n l with
   | nil=>exact absurd hs (rH c n l)
   | cons p r=>simp [StrLaws.strSub_toList]
  ·have ih:=iw x c l (n+1) a (j+1) (by omega) hd hi
   simp only [dk,hc,if_false,gh];rw [ih]
   cases hs:gh c (n+1) l with
   | nil=>exact absurd hs (rH c (n+1) l)
   | cons p r=>
    have ht:(x.cps.toList.drop a).take (j+1 - a)=(x.cps.toList.drop a).take (j - a)++[b]:=by
     have e1:j+1 - a=(j - a)+1:=by omega
     rw [e1,ac1,ag9]
     have e2:a+(j - a)=j:=by omega
     rw [e2,hb];rfl
    simp [ht]
theorem kA(c n:Nat)(rest:List Nat):∀(p:List Nat),c∉p->gh c (n+1) (p++c::rest)=p::gh c n rest
 | [],_=>by simp [gh]
 | a::p,h=>by
  have h1:¬a=c:=fun e=>h (by simp [e]);have ih:=kA c n rest p (fun e=>h (by simp [e]));show gh c (n+1) (a::(p++c::rest))=_;simp only [gh,h1,if_false];rw [ih]
theorem sW(c:Nat)(rest:List Nat):∀(p:List Nat) (i:Nat),dk c (p++c::rest) i≠[]
 | [],i=>by simp [dk]
 | a::p,i=>by
  show dk c (a::(p++c::rest)) i≠[];simp only [dk]
  split
  ·simp
  ·exact sW c rest p (i+1)
def iu(z:Str)(c k:Nat):List Str:=Builtin.Str.partsBetween z ((dk c z.cps.toList 0).take k) 1
theorem qY(z:Str)(c k:Nat):(iu z c k).map (fun y=>y.cps.toList)=gh c k z.cps.toList:=by
 unfold iu;rw [StrLaws.partsBetween_eq,iw z c z.cps.toList k 0 0 (aa9 _) rfl (ad3 _)]
 cases hs:gh c k z.cps.toList with
 | nil=>exact absurd hs (rH c k _)
 | cons p r=>simp
theorem xc:Az X "str.split" (fun x xs H Q=>∃z c k,x=.str z/\xs=[.str ⟨#[c]⟩,.int k]/\c < 256/\0 < k/\k < 2 ^ 30/\dk c z.cps.toList 0≠[]/\z.length < sizeLine/\(iu z c k.toNat).length<=sizeLine/\∀p,H p=none->Q (.ref p) (upd H p (.lst ((iu z c k.toNat).map V.str)))):=by
 intro pins s Z H x xs v us Q I rx r h;obtain⟨z,c,k,rfl,rfl,hc,k0,k1,hne,hz,hlen,q⟩:=h;obtain⟨t,rfl⟩:=rx;obtain⟨u,u2,rfl,⟨t',rfl⟩,⟨t2,rfl⟩⟩:=tP r
 have ek:Builtin.Str.strKind ⟨#[c]⟩=1:=by simp [Builtin.Str.strKind,hc]
 have ek2:1<=Builtin.Str.strKind z:=by unfold Builtin.Str.strKind;split<;>(try split)<;>omega
 have hzl:1<=z.length:=by
  rw [aZ]
  cases hz':z.cps.toList with
  | nil=>rw [hz']at hne;exact absurd rfl hne
  | cons a l=>simp
 have h1:(decide (z.length < (⟨#[c]⟩:Str).length) || decide (Builtin.Str.strKind z < Builtin.Str.strKind ⟨#[c]⟩))=false:=by
  rw [ek];have e1:(⟨#[c]⟩:Str).length=1:=rfl;rw [e1,decide_eq_false (by omega),decide_eq_false (by omega)];rfl
 have hk:(decide (k < -(2 ^ 63:Int)) || decide (k>=2 ^ 63))=false:=by
  rw [decide_eq_false (by omega),decide_eq_false (by omega)];rfl
 have el:Builtin.Str.occurrences z ⟨#[c]⟩ 0 z.length (PySem.limitOf z k)=(dk c z.cps.toList 0).take k.toNat:=by
  rw [y8];unfold PySem.limitOf;rw [if_neg (by omega)]
 have hf:(Builtin.Str.occurrences z ⟨#[c]⟩ 0 z.length (PySem.limitOf z k)).isEmpty=false:=by
  rw [el]
  cases hp:dk c z.cps.toList 0 with
  | nil=>exact absurd hp hne
  | cons a l=>rw [show k.toNat=(k.toNat - 1)+1 by omega];rfl
 have ep:Builtin.Str.partsBetween z (Builtin.Str.occurrences z ⟨#[c]⟩ 0 z.length (PySem.limitOf z k)) (⟨#[c]⟩:Str).length=iu z c k.toNat:=by rw [el];rfl
 have fin:∀(its:List Value) (tk:Nat),aQ ((iu z c k.toNat).map V.str) its->EP X pins Z Q (.ref s.heap.objs.size) { s with toks:=tk,heap:=s.heap.push { cls:=.type "list",data:=.seq its.toArray } }:=fun its tk rv=>
  ⟨.ref s.heap.objs.size,_,I.laid (t':=tk) (o:=.lst ((iu z c k.toNat).map V.str)) (fun b ob q=>aa4 _ q) (aa9 _) ⟨by rw [aa0];exact hlen,its,0,rv,ab3 _ rfl⟩,rfl,q _ (I.hok.fresh (aa9 _))⟩
 rw [<-ep]at fin hlen;exact call_meets F.slot_str_split (typeIs_str _ _ _) F.entry_str_split (F.args_str_split_3 _ _ _) (meets_str_split_sep_max z ⟨#[c]⟩ k t t' t2 hk h1 rfl hf (ah8 hz) hlen) (fin _ _ (lO _ _))
def xX(K:Frag)(a:Addr)(xs:List V):Prop:=∃(o:Obj) (its:Array Value) (n:Nat),K.lookup a=some o/\o.cls=.type "tuple"/\o.data=.seq its n/\its.size<=sizeLine/\aQ xs its.toList
theorem xX.at{K:Frag}{a:Addr}(h:xX K a xs)(H:Hp):bH K H a xs:=.inr h
theorem ktup_mk{K:Frag}{a:Addr}{o:Obj}{its:Array Value}(l:K.lookup a=some o)(x:o.cls=.type "tuple")(d:o.data=.seq its n)(z:its.size<=sizeLine)(r:aQ xs its.toList):xX K a xs:=⟨o,its,n,l,x,d,z,r⟩
theorem vm(z y:Str){rest:List Nat}(h:z.cps.toList=y.cps.toList++rest):Txt.startswith z y=true:=by
 obtain⟨⟨l⟩⟩:=z;obtain⟨⟨m⟩⟩:=y;simp at h;subst h
 unfold Txt.startswith
 rw [StrLaws.subAt_eq];simp [Str.length]
structure mS(z rest:Str)(t u:Int):Prop where
 cs:z.cps.toList=(Str.ofString "every").cps.toList++32::(gH t++32::(gH u++32::rest.cps.toList))
 tb:t.natAbs < 10 ^ 40
 ub:u.natAbs < 10 ^ 40
 rl:rest.length<=10000
theorem mS.split(R:mS z rest t u):iu z 32 3=[Str.ofString "every",aO t,aO u,rest]:=by
 refine eM ?_;rw [qY,R.cs,kA 32 2 _ _ (by decide +kernel),kA 32 1 _ _ (mC t),kA 32 0 _ _ (mC u)];simp only [gh,ad7,ah9];rfl
theorem mS.pos(R:mS z rest t u):dk 32 z.cps.toList 0≠[]:=by
 rw [R.cs];exact sW 32 _ _ 0
theorem mS.len(R:mS z rest t u):z.length<=20000:=by
 rw [aZ,R.cs];have h1:=fJ (n:=t) (k:=40) (by decide) R.tb;have h2:=fJ (n:=u) (k:=40) (by decide) R.ub;have h3:=R.rl;rw [aZ]at h3
 have h4:(Str.ofString "every").cps.toList.length=5:=by decide +kernel
 simp only [ab2,ad1];omega
theorem mS.starts(R:mS z rest t u):Txt.startswith z (Str.ofString "every ")=true:=by
 refine vm z _ (rest:=gH t++32::(gH u++32::rest.cps.toList)) ?_;rw [R.cs,show(Str.ofString "every ").cps.toList=(Str.ofString "every").cps.toList++[32]by decide +kernel,al3];rfl
def qf:V->Str
 | .str z=>z
 | .int n=>aO n
 | _=>Str.ofString ""
def En(x:V):Prop:=(∃z,x=.str z)\/∃n:Int,x=.int n/\n.natAbs < 10 ^ 40
theorem rT{K:Frag}{F:List V->Hp->Prop}{q:Addr}(h:aL K H q xs)(hw:∀x∈xs,En x)(nl:xs.length<=100)(hd:F ((xs.map qf).map V.str) H):
  mQ (0+1) [] (g8 0) z6 (DP uP (ow (DV 0) tN)) Z F (xW K q) H:=by
 have hs:sizeLine=16777216:=sizeLine_eq;refine cz (xs:=xs) (fun i ys H'=>ys=((xs.map qf).take i).map V.str/\H=H') (by omega) ⟨rfl,rfl⟩ ?_ ?_ ?_ ?_
 ·rintro i ys H' ⟨rfl,rfl⟩
  rw [aa0,ac3];omega
 ·rintro i ys H' ⟨rfl,rfl⟩
  exact h
 ·rintro i x ys H' hx ⟨rfl,rfl⟩
  have fin:∀v:Str,qf x=v->((xs.map qf).take i).map V.str++[V.str v]=((xs.map qf).take (i+1)).map V.str:=fun v e=>by
   rw [ac1,aa5,hx,ab4,<-e];rfl
  rcases hw x (ac5 hx)with⟨z,rfl⟩ | ⟨n,rfl,hn⟩
  ·simp only [gq,DP,ow,DV,pZ,tN,g8,z6,Zt,List.getElem?_cons_zero,List.set_cons_zero,Option.some.injEq,exists_eq_left',rStr_s,List.replicate,ai6,ah9,if_true]
   exact⟨fin _ rfl,trivial⟩
  ·simp only [gq,DP,ow,DV,pZ,tN,g8,z6,Zt,List.getElem?_cons_zero,List.set_cons_zero,Option.some.injEq,exists_eq_left',rStr_i,List.replicate,ai6,ah9,if_true]
   exact⟨B9 hn,fin _ rfl,trivial⟩
 ·rintro ys H' ⟨rfl,rfl⟩
  rw [ag2 (by simp)];exact hd
theorem tq{K:Frag}{a:Addr}{ws:List Str}(h:bH K H a (ws.map V.str))(q:Q (.bl (!decide (z∈ws))) H):mG K (.str z) (.ref a) H Q:=by
 have e:∀ws:List Str,Cu (.str z) (ws.map V.str)=decide (z∈ws):=by
  intro ws
  induction ws with
  | nil=>rfl
  | cons d D ih=>
   have e:Cu (.str z) ((d::D).map V.str)=((d == z) || Cu (.str z) (D.map V.str)):=rfl
   rw [e,ih,ah4,ak6,beq_iff_eq,decide_eq_true_eq,decide_eq_true_eq,aa8];exact⟨fun h=>h.imp Eq.symm id,fun h=>h.imp Eq.symm id⟩
 refine .inr ⟨a,_,rfl,.inr h,rfl,?_,?_⟩
 ·rw [ai9];exact ag7.mpr fun _ _=>rfl
 ·rw [e];exact q
def iS(a b c:Int):Nat:=(Builtin.Range.rangeSize a b c).toNat
theorem zY{i:Nat}(hc:0 < c)(h:i < iS a b c):a+(i:Int) * c < b:=by
 unfold iS Builtin.Range.rangeSize at h;rw [if_pos (show c > 0 from hc)]at h
 by_cases hab:a < b
 ·rw [if_pos hab]at h
  have hq:(i:Int)<=(b - a - 1) / c:=by omega
  have h2:(i:Int) * c<=(b - a - 1) / c * c:=am4 hq (by omega);have h3:=Int.ediv_mul_le (b - a - 1) (show c≠0 by omega);omega
 ·rw [if_neg hab]at h;simp at h
theorem kg(hc:0 < c):0<=Builtin.Range.rangeSize a b c/\(Builtin.Range.rangeSize a b c<=b - a\/Builtin.Range.rangeSize a b c=0):=by
 unfold Builtin.Range.rangeSize;rw [if_pos (show c > 0 from hc)]
 by_cases hab:a < b
 ·rw [if_pos hab]
  have h1:=Int.ediv_le_self c (show 0<=b - a - 1 by omega);have h0:=Int.ediv_nonneg (show 0<=b - a - 1 by omega) (show 0<=c by omega);omega
 ·rw [if_neg hab];omega
theorem uY(h1:-(2 ^ 61)<=a)(h2:a < 2 ^ 61)(h3:-(2 ^ 61)<=b)(h4:b < 2 ^ 61)(hc:0 < c)(hc':c < 2 ^ 61):Builtin.Range.small a b c=true:=by
 unfold Builtin.Range.small;have hr:=kg (a:=a) (b:=b) hc;generalize Builtin.Range.rangeSize a b c=n at hr;simp only [Builtin.Range.rangeFitsLong,af9,ak6,decide_eq_true_eq,beq_iff_eq];rw [if_pos (show c > 0 from hc)];simp only [af9,decide_eq_true_eq];omega
def Ax(lo c:Int)(n:Nat):It:=⟨fun i _=>i < n,fun i H x H'=>H'=H/\x=.int (lo+i * c),fun i _=>n<=i⟩
theorem xN{P:Program}{K:Frag}(it:Addr)(lo c:Int)(n:Nat):oI P w K tg (Ax lo c n) [it] it (fun i h=>IsRangeIter h it (lo+(i:Nat) * c) ((n:Int) - (i:Nat)) c) where
 mem:=by simp
 obj:=fun i h st b hb=>by
  have e:b=it:=by simpa using hb
  subst e
  exact⟨_,st,fun v z=>by
   have z':Data.fields _=Data.cell v:=z
   cases z'⟩
 keep:=fun i h h' st k=>k it (by simp) _ st
 item:=by
  intro X hP hw hK hc i pins s Z H E I hf st hg;subst hP hw hK;obtain⟨f0,f1,f2,f3,f4,f5⟩:=hf it (by simp);have W:=PySem.Walks.range (prog:=X.prog) (w:=X.w) (I.ok.hd hc) it lo c n;refine W.item i s _ _ hg st fun v h' tk hv st' kk=>?_;obtain⟨t,rfl⟩:=hv;have I1:aJ X pins Z H { s with heap:=h',toks:=tk }:=I.turned (fun b o hb e=>kk b o (by simpa using hb) e) f0 f1 f3 f4 f5;exact⟨_,rfl,pN (s:={ s with heap:=h',toks:=tk }) (n:="range_iterator") st' rfl rfl (by decide) ⟨.int (lo+i * c),H,I1,⟨t,rfl⟩,⟨rfl,rfl⟩,st',fun b hb=>(hf b hb).1⟩⟩
 done:=by
  intro X hP hw hK hc i pins s Z H E I hf st hg;subst hP hw hK;obtain⟨f0,f1,f2,f3,f4,f5⟩:=hf it (by simp);exact wpAny_pyNext_range_end (I.ok.hd hc) st (by have:n<=i:=hg;omega) fun h' eb=>⟨rfl,I.turned (t':=s.toks) (fun b o hb e=>eb b o hb e) f0 f1 f3 f4 f5⟩
 self:=fun _ _ _ _ _ st h=>wpAny_pyIter_rangeiter st h
theorem xC{R:It->Hp->Prop}{lo hi:Int}{t u:Tok}{tk:Nat}(I:aJ X pins Z H s)(h1:-(2 ^ 61)<=lo)(h2:lo < 2 ^ 61)(h3:-(2 ^ 61)<=hi)(h4:hi < 2 ^ 61)(hc:0 < c)(hc':c < 2 ^ 61)
  (q:R (Ax lo c (iS lo hi c)) H):wpAny (model X.prog X.w) X.A (pyIter (.ref s.heap.objs.size)) (Ec X pins Z tg R) E { s with heap:=s.heap.push { cls:=.type "range",data:=.fields #[.int lo t,.int hi u,.int c v] },toks:=tk }:=by
 refine ao0 (IsRange.new ..) (uY h1 h2 h3 h4 hc hc') ?_;have I1:aJ X pins Z H { s with heap:=s.heap.push { cls:=.type "range",data:=.fields #[.int lo t,.int hi u,.int c v] },toks:=tk }:=I.kept fun b o e=>aa4 _ e
 refine⟨(s.heap.push { cls:=.type "range",data:=.fields #[.int lo t,.int hi u,.int c v] }).objs.size,[(s.heap.push { cls:=.type "range",data:=.fields #[.int lo t,.int hi u,.int c v] }).objs.size],_,_,H,rfl,
  I1.kept (t':=tk) fun b o e=>aa4 _ e,xN _ lo c (iS lo hi c),?_,fun b hb=>?_,q⟩
 ·have e1:lo+((0:Nat):Int) * c=lo:=by simp
  have e2:((iS lo hi c:Nat):Int) - ((0:Nat):Int)=Builtin.Range.rangeSize lo hi c:=by
   have:=(kg (a:=lo) (b:=hi) hc).1
   unfold iS;omega
  show IsRangeIter _ _ (lo+((0:Nat):Int) * c) (((iS lo hi c:Nat):Int) - ((0:Nat):Int)) c;rw [e1,e2];exact ab3 _ rfl
 ·have e:b=(s.heap.push { cls:=.type "range",data:=.fields #[.int lo t,.int hi u,.int c v] }).objs.size:=by simpa using hb
  subst e;exact I1.fpOk (aa9 _) (I1.hok.fresh (aa9 _))
def Ct(ta:TA):TI:=fun Z H R=>ta Z H fun vs H1=>∃i j c:Int,vs=[.int i,.int j,.int c]/\(-(2 ^ 61)<=i/\i < 2 ^ 61/\-(2 ^ 61)<=j/\j < 2 ^ 61)/\(0 < c/\c < 1000)/\R (Ax i c (iS i j c)) H1
theorem uG{a b c:Expr}{ta:TA}{pos:Pos}(hg:Gl X "range")(hm:X.mg "range"=none)(ha:PA X [a,b,c] ta)(hs:starEach [a,b,c] X.env=[(false,eval a X.env),(false,eval b X.env),(false,eval c X.env)]:=by rfl)(hs2:starEach [b,c] X.env=[(false,eval b X.env),(false,eval c X.env)]:=by rfl):
  PI X tg (.Call (.Name "range" p) [a,b,c] [] pos) (Ct ta):=by
 intro pins s Z H R I h;refine Call_ (eX I hg hm boot_range (PyProof.Rows.callWith_type1 (ck (ha pos pins s Z H _ I h) fun us s1 zq0=>?_) (by rw [hs,hs2]) (by rw [hs2];rfl)));obtain⟨vs,H1,I1,r1,q1⟩:=zq0;obtain⟨i,j,c,e,⟨q1,q2,q3,q4⟩,⟨q5,q6⟩,q⟩:=q1;subst e
 cases r1 with
 | cons r rr=>
  cases rr with
  | cons r' rr=>
   cases rr with
   | cons r'' rr=>
    cases rr;obtain⟨t,rfl⟩:=r;obtain⟨t',rfl⟩:=r';obtain⟨t'',rfl⟩:=r'';exact call_range_3 (by omega) (xC I1 q1 q2 q3 q4 q5 (by omega) q) (Or.inl (PyProof.noPylong_small (by omega)))
theorem w6{g:TG}{tb:TS}{lo:Int}(Pv:Nat->St->Hp->Prop)(h0:Pv 0 Z H)
  (hs:∀i Z H,i < n->Pv i Z H->g (.int (lo+i * c)) Z H fun Zf H2=>tb { D with nx:=Pv (i+1),ct:=Pv (i+1),bk:=D.nx } Zf H2) (hd:∀Z H,Pv n Z H->D.nx Z H):wo g tb D Z (Ax lo c n) H:=by
 refine⟨fun i m Z H=>m=n - i/\i<=n/\Pv i Z H,⟨n,by simp,ad3 _,h0⟩,?_⟩;rintro i m Z H ⟨rfl,hi,p⟩
 by_cases hlt:i < n
 ·refine .inr ⟨hlt,Pv (i+1),fun Zc H' p'=>⟨n - (i+1),by omega,rfl,hlt,p'⟩,fun x H' y=>?_⟩
  obtain⟨e,y⟩:=y;subst e y;exact hs i Z _ hlt p
 ·have e:i=n:=by omega
  subst e;exact .inl ⟨aa9 _,hd Z H p⟩
theorem wO{k:V->Prop}{Z:L2.St}{i:Nat}:(zI Z i k)=(∃v,Z[i]?=some (some v)/\k v):=propext mH
theorem wJ{v:V}{k:Int->Prop}:(Au v k)=(∃i,v=V.int i/\k i):=propext jP
theorem wI{v:V}{k:Bool->Prop}:(Cf v k)=(∃i,v=V.bl i/\k i):=propext jO
theorem AM:(xT sZ x y H Q)=(sZ x y H Q):=propext EC
theorem AN:(xU tT x y H Q)=(tT x y H Q):=propext EF
theorem wK:(nh (eT K) x y H Q)=(eT K x y H Q):=propext AY
theorem wM:(ui (iC K) x y H Q)=(iC K x y H Q):=propext A4
theorem yh:(xT (lp K) x y H Q)=(lp K x y H Q):=propext C3
theorem yi:(xU (lq K) x y H Q)=(lq K x y H Q):=propext C5
theorem wL:(nh (iA K) x y H Q)=(iA K x y H Q):=propext AZ
theorem t8:(eT K (V.int i) (V.int j) H Q)=(Q (V.int (i+j)) H):=propext nR
theorem t9{i j:Str}:(eT K (V.str i) (V.str j) H Q)=(i.length+j.length<=sizeLine/\Q (V.str (i++j)) H):=propext zy
theorem ua:(iC K (V.int i) (V.int j) H Q)=(IntMulOk i j/\Q (V.int (i * j)) H):=propext tj
theorem yp{lo hi:Option Int}:(uO K (V.str z) lo hi H Q)=(z.length<=sizeLine/\Q (V.str (Txt.slice z lo hi)) H):=propext DF
theorem AO:(pe K (V.str z) (V.int i) H Q)=(z.length<=sizeLine/\∃c,dC z.cps.toList i=some c/\Q (V.str { cps:=#[c] }) H):=propext E8
theorem yj:(sZ (V.int i) (V.int j) H Q)=(Q (V.bl (decide (i=j))) H):=propext uJ
theorem yn:(tT (V.int i) (V.int j) H Q)=(Q (V.bl !decide (i=j)) H):=propext uM
theorem yk{i j:Str}:(sZ (V.str i) (V.str j) H Q)=(Q (V.bl (decide (i=j))) H):=propext uK
theorem yo{i j:Str}:(tT (V.str i) (V.str j) H Q)=(Q (V.bl !decide (i=j)) H):=propext uN
theorem ym{c:Nat}:(uL K (V.str { cps:=#[c] }) (V.str z) H Q)=(Q (V.bl (decide (c∈z.cps.toList))) H):=propext Dz
theorem yq:(uP [V.int i] H Q)=(i.natAbs.log2 < 1920/\Q (V.str (aO i)) H):=propext rStr_i
theorem yf{b k:Bool}:(AD K (V.bl b) H k)=(k=b):=propext CO
theorem AQ:(Fi K "str" (V.str z) H)=(True):=propext Fj
theorem yg{α:Sort u}{p:α->Prop}{a':α}:(∃a,a'=a/\p a)=p a':=propext exists_eq_left'
theorem CT{α:Sort u}{a':α}:(∃a,a'=a)=True:=eq_true ⟨_,rfl⟩
theorem Et{α:Sort u}{a':α}:(∃a,a=a')=True:=eq_true ⟨_,rfl⟩
theorem Ck{α:Sort u}{p:α->Prop}{a':α}:(∃a,a=a'/\p a)=p a':=propext exists_eq_left
theorem Ci{α:Sort u}{p:α->Prop}{b:Prop}:(∃x,b/\p x)=(b/\∃x,p x):=propext exists_and_left
theorem Cg{a b c:Prop}:((a/\b)/\c)=(a/\b/\c):=propext and_assoc
theorem Cj{α:Sort u}:(∃_:α,False)=False:=eq_false exists_false
theorem FV{p:Prop}{x:Decidable p}:(decide p=false)=¬p:=propext decide_eq_false_iff_not
theorem EB{c:TT}{t u w:TS}{Z:L2.St}(h:∀A B:Hp->Prop,(∀H,hV t w D Z H->A H)->(∀H,hV u w D Z H->B H)->c Z H fun b H1=>if b=true then A H1 else B H1):hV (Ad c t u) w D Z H:=h _ _ (fun _ x=>x) fun _ x=>x
theorem ig{c:TT}{t w:TS}{Z:L2.St}(h:∀A B:Hp->Prop,(∀H,hV t w D Z H->A H)->(∀H,w D Z H->B H)->c Z H fun b H1=>if b=true then A H1 else B H1):hV (Ad c t wc) w D Z H:=h _ _ (fun _ x=>x) fun _ x=>x
theorem lz{t r w:TS}{Z:L2.St}(h:∀k:L2.St->Hp->Prop,(∀Z H,hV r w D Z H->k Z H)->t { D with nx:=k } Z H):hV (hV t r) w D Z H:=h _ fun _ _ x=>x
theorem FY{t r:TS}{Z:L2.St}(h:∀k:L2.St->Hp->Prop,(∀Z H,r D Z H->k Z H)->t { D with nx:=k } Z H):hV t r D Z H:=h _ fun _ _ x=>x
theorem kF(a v:Value):argsOk "min" ⟨[a],[(Str.ofString "default",v)]⟩:=by unfold argsOk;kernel_rfl
def t4(kf:Nat->List Int)(i j:Nat):Bool:=HT.lexLt (kf i) (kf j)
section
variable {it al bb:Addr} {items:Array Value} {G:Heap->Prop} {d:Value}
theorem xb(hd:A.handled=none)(hal:al≠it)(hbi:bb≠it)(hba:bb≠al)(gk:∀h h',G h->(∀b o,b≠it->b≠bb->h.get? b=some o->h'.get? b=some o)->G h')
  (cm:∀(i j:Nat) (vi vj:Value) (s:Shared) (Q:Value->Shared->Prop) (E:Value->Shared->Prop),items[i]?=some vi->items[j]?=some vj->G s.heap->Q (.bool (t4 kf i j)) s->wpAny (model prog w) A.in1 (richCompare .Lt vi vj) Q E s) :
  ∀(k j:Nat) (s:Shared) (v0:Value) (c0:Nat),items.size - (j+1)=k->j+1<=items.size->(s.heap.IsListIter it al (j+1)/\s.heap.IsList al items)->items[argBest (t4 kf) j]?=some v0->G s.heap->
   s.heap.get? bb=some { cls:=.type "list",dict:=none,data:=.seq #[v0,v0] c0,slots:=#[] }->
   (∀v h' tt,items[argBest (t4 kf) (items.size - 1)]?=some v->(∀b o,b≠it->b≠bb->s.heap.get? b=some o->h'.get? b=some o)->R (.ok (.ret v)) { s with heap:=h',toks:=tt })->
   codeAny (model prog w) A (.builtin "min.loop" ⟨[.ref it,.none,.ref bb],[(Str.ofString "default",d)]⟩) R s:=by
 have nm:(toString "min" ++ toString ".loop":String)="min.loop":=by decide
 have wk:=Walks.list (prog:=prog) (w:=w) (A:=A.in1) hd it al hal items
 have hbw:bb∉[it]:=by simpa using hbi
 have ns:∀{b:Addr},b≠it->b∉[it]:=fun h=>by simpa using h
 intro k
 induction k with
 | zero=>
  intro j s v0 c0 ek ej at0 pv0 g hbb fin
  have jn:j+1=items.size:=by omega
  refine aq2 F.entry_min_loop (?_);rw [Around.under_plainId (F.plain_min_loop) _];show wpAny _ A.in1 (seqItems? (.ref bb) >>= _) _ _ s;refine aa2 (ae8 hbb rfl ?_);show wpAny _ A.in1 (tryCatch (pyNext (.ref it)) _ >>= _) _ _ s;refine aa2 (al8 (wk.done s _ _ (jn▸at0) fun h' tt kk'=>?_));have hbb':=kk' bb _ hbw hbb;show wpAny _ A.in1 (updateSeq bb (fun _=>#[]) >>= _) _ _ _;refine aa2 ?_;refine aj5 hbb' rfl (aa2 (aj9 (aa7 (?_))));refine fin v0 _ tt (by rw [<-jn];exact pv0) fun b o ni nb e=>(ad4 _ _ (Ne.symm nb)).trans (kk' b o (ns ni) e)
 | succ k rec0=>
  intro j s v0 c0 ek ej at0 pv0 g hbb fin
  have jlt:j+1 < items.size:=by omega
  refine aq2 F.entry_min_loop (?_);rw [Around.under_plainId (F.plain_min_loop) _];show wpAny _ A.in1 (seqItems? (.ref bb) >>= _) _ _ s;refine aa2 (ae8 hbb rfl ?_);show wpAny _ A.in1 (tryCatch (pyNext (.ref it)) _ >>= _) _ _ s;refine aa2 (al8 (wk.item (j+1) s _ _ jlt at0 fun v h' tt pv at1 kk'=>?_));have hbb':=kk' bb _ hbw hbb;have g':G h':=gk _ _ g fun b o ni _ e=>kk' b o (ns ni) e;show wpAny _ A.in1 (tryCatch (holding [v,v] (richCompare .Lt v v0 >>= _)) _ >>= _) _ _ _;refine aa2 (al8 (ae2 (aa2 (cm (j+1) (argBest (t4 kf) j) v v0 _ _ _ pv pv0 g' ?_))));refine aa2 (ae2 (ae1 (?_)));refine aa2 (aj9 (aa7 (?_)))
  cases eb:t4 kf (j+1) (argBest (t4 kf) j)with
  | true=>
   simp only [if_true];refine aa2 ?_;refine aj5 hbb' rfl (aa2 (aj9 (?_)));rw [nm]
   refine aa7 ⟨plainId_quiet F.plain_min_loop _,rec0 (j+1) _ v _ (by omega) jlt (wk.frame _ _ _ at1 fun b bf o e=>?_) (by simp only [argBest,eb,if_true];exact pv) (gk _ _ g' fun b o _ nb e=>(ad4 _ _ (Ne.symm nb)).trans e) (af6 _ hbb' rfl)
    fun v' h2 tt2 pv' kk2=>?_⟩
   ·exact(ad4 _ _ (fun h:bb=b=>by subst h;simp at bf;exact bf.elim hbi hba)).trans e
   ·exact fin v' h2 tt2 pv' fun b o ni nb e=>kk2 b o ni nb ((ad4 _ _ (Ne.symm nb)).trans (kk' b o (ns ni) e))
  | false=>
   simp only [if_false,ad9];refine aa2 (aj9 (?_));rw [nm];refine aa7 ⟨plainId_quiet F.plain_min_loop _,rec0 (j+1) _ v0 c0 (by omega) jlt at1 (by simp only [argBest,eb,ad9,if_false];exact pv0) g' hbb' fun v' h2 tt2 pv' kk2=>?_⟩;exact fin v' h2 tt2 pv' fun b o ni nb e=>kk2 b o ni nb (kk' b o (ns ni) e)
theorem l8(hd:A.handled=none)(hal:al≠it)(hbi:bb≠it)(hba:bb≠al)(gk:∀h h',G h->(∀b o,b≠it->b≠bb->h.get? b=some o->h'.get? b=some o)->G h')
  (cm:∀(i j:Nat) (vi vj:Value) (s:Shared) (Q:Value->Shared->Prop) (E:Value->Shared->Prop),items[i]?=some vi->items[j]?=some vj->G s.heap->Q (.bool (t4 kf i j)) s->wpAny (model prog w) A.in1 (richCompare .Lt vi vj) Q E s)
  {s:Shared} {c0:Nat} (at0:s.heap.IsListIter it al 0/\s.heap.IsList al items) (g:G s.heap) (hbb:s.heap.get? bb=some { cls:=.type "list",dict:=none,data:=.seq #[] c0,slots:=#[] })
  (h0:items.size=0->∀h' tt,(∀b o,b≠it->b≠bb->s.heap.get? b=some o->h'.get? b=some o)->R (.ok (.ret d)) { s with heap:=h',toks:=tt })
  (fin:0 < items.size->∀v h' tt,items[argBest (t4 kf) (items.size - 1)]?=some v->(∀b o,b≠it->b≠bb->s.heap.get? b=some o->h'.get? b=some o)->R (.ok (.ret v)) { s with heap:=h',toks:=tt }) :
  codeAny (model prog w) A (.builtin "min.loop" ⟨[.ref it,.none,.ref bb],[(Str.ofString "default",d)]⟩) R s:=by
 have nm:(toString "min" ++ toString ".loop":String)="min.loop":=by decide
 have wk:=Walks.list (prog:=prog) (w:=w) (A:=A.in1) hd it al hal items
 have hbw:bb∉[it]:=by simpa using hbi
 have ns:∀{b:Addr},b≠it->b∉[it]:=fun h=>by simpa using h
 refine aq2 F.entry_min_loop (?_);rw [Around.under_plainId (F.plain_min_loop) _];show wpAny _ A.in1 (seqItems? (.ref bb) >>= _) _ _ s;refine aa2 (ae8 hbb rfl ?_);show wpAny _ A.in1 (tryCatch (pyNext (.ref it)) _ >>= _) _ _ s
 by_cases n0:0 < items.size
 ·refine aa2 (al8 (wk.item 0 s _ _ n0 at0 fun v h' tt pv at1 kk'=>?_))
  have hbb':=kk' bb _ hbw hbb;show wpAny _ A.in1 (updateSeq bb (fun _=>#[v,v]) >>= _) _ _ _;refine aa2 ?_;refine aj5 hbb' rfl ?_;rw [nm];refine aa7 ⟨plainId_quiet F.plain_min_loop _,xb hd hal hbi hba gk cm _ 0 _ v _ rfl n0 (wk.frame _ _ _ at1 fun b bf o e=>?_) pv (gk _ _ (gk _ _ g fun b o ni _ e=>kk' b o (ns ni) e) fun b o _ nb e=>(ad4 _ _ (Ne.symm nb)).trans e) (af6 _ hbb' rfl) fun v' h2 tt2 pv' kk2=>?_⟩
  ·exact(ad4 _ _ (fun h:bb=b=>by subst h;simp at bf;exact bf.elim hbi hba)).trans e
  ·exact fin n0 v' h2 tt2 pv' fun b o ni nb e=>kk2 b o ni nb ((ad4 _ _ (Ne.symm nb)).trans (kk' b o (ns ni) e))
 ·have e0:items.size=0:=by omega
  refine aa2 (al8 (wk.done s _ _ (by rw [e0];exact at0) fun h' tt kk'=>?_));refine aa2 (ap7 (aa7 (?_)));exact h0 e0 h' tt fun b o ni _ e=>kk' b o (ns ni) e
end
theorem wA{l:Addr}{items:Array Value}{G:Heap->Prop}{d:Value}{Q:Value->Shared->Prop}(hd:A.handled=none)(hil:s.heap.IsList l items)
  (gk:∀it bb h h',s.heap.objs.size<=it->s.heap.objs.size<=bb->G h->(∀b o,b≠it->b≠bb->h.get? b=some o->h'.get? b=some o)->G h') (g:G s.heap)
  (cm:∀(i j:Nat) (vi vj:Value) (s:Shared) (Q:Value->Shared->Prop) (E:Value->Shared->Prop),items[i]?=some vi->items[j]?=some vj->G s.heap->Q (.bool (t4 kf i j)) s->wpAny (model prog w) A.in1 (richCompare .Lt vi vj) Q E s)
  (h0:items.size=0->∀h' tt,(∀b o,s.heap.get? b=some o->h'.get? b=some o)->Q d { s with heap:=h',toks:=tt })
  (fin:0 < items.size->∀v h' tt,items[argBest (t4 kf) (items.size - 1)]?=some v->(∀b o,s.heap.get? b=some o->h'.get? b=some o)->Q v { s with heap:=h',toks:=tt }) :
  wpAny (model prog w) A (call (.builtin "min") [.ref l] [(Str.ofString "default",d)]) Q E s:=by
 have nm:(toString "min" ++ toString ".loop":String)="min.loop":=by decide
 refine kmk_tree F.kind_min F.plain_min F.entry_min (kF _ _) ?_;show wpAny _ A.in1 (Builtin.Builtins.bindParams "min" ["key","default"] 0 ⟨[],[(Str.ofString "default",d)]⟩ >>= _) _ _ s;refine aa2 (wpAny_of_eq (show Builtin.Builtins.bindParams "min" ["key","default"] 0 ⟨[],[(Str.ofString "default",d)]⟩=pure [none,some d]from rfl) ?_);refine aa2 (aa7 ?_);refine aa2 (al5 hil ?_);refine aa2 (ag1 (?_))
 have llt:l < s.heap.objs.size:=by
  obtain⟨o,ho,_⟩:=hil;exact ab7 ho
 rw [nm];refine aa7 ⟨plainId_quiet F.plain_min_loop _,?_⟩
 have esz:(s.heap.push { cls:=.type "list_iterator",data:=.fields #[.ref l,.int 0 0] }).objs.size=s.heap.objs.size+1:=by simp [Heap.push]
 have kp:∀b o,s.heap.get? b=some o->((s.heap.push { cls:=.type "list_iterator",data:=.fields #[.ref l,.int 0 0] }).push { cls:=.type "list",data:=.seq #[] }).get? b=some o:=fun b o e=>aa4 _ (aa4 _ e)
 refine l8 (it:=s.heap.objs.size) (al:=l) (bb:=(s.heap.push { cls:=.type "list_iterator",data:=.fields #[.ref l,.int 0 0] }).objs.size) (items:=items) (G:=G) (kf:=kf) hd (ac6 llt) (by rw [esz];exact Nat.succ_ne_self _) (by rw [esz];exact(ac6 (al4 llt)).symm) (fun h h' g k=>gk _ _ h h' (aa9 _) (by rw [esz];exact am7 _) g k) cm
  ⟨⟨_,aa4 _ (ab3 _ rfl),rfl,rfl⟩,hil.at fun o e=>kp _ _ e⟩ (gk _ _ _ _ (aa9 _) (aa9 _) g fun b o _ _ e=>kp b o e) (ab3 _ rfl) (fun e h' tt k=>h0 e h' tt fun b o eb=>?_) (fun n0 v h' tt hv k=>fin n0 v h' tt hv fun b o eb=>?_)
 ·have:=ab7 eb
  exact k b o (ac6 this) (by rw [esz];exact ac6 (al4 this)) (kp b o eb)
 ·have:=ab7 eb
  exact k b o (ac6 this) (by rw [esz];exact ac6 (al4 this)) (kp b o eb)
def w8(a b:Int×Int):Bool:=decide (a.1 < b.1) || (decide (a.1=b.1) && decide (a.2 < b.2))
theorem w4(a b c d:Int):HT.lexLt [a,b] [c,d]=w8 (a,b) (c,d):=by
 simp only [HT.lexLt,w8]
 by_cases h:a=c
 ·subst h
  by_cases h2:b=d
  ·subst h2;simp
  ·simp [h2]
 ·simp [h]
theorem rP(ks:List (Int×Int))(kf:Nat->List Int)(hk:∀i k,ks[i]?=some k->kf i=[k.1,k.2]):∀n,n < ks.length->∃k,ks[argBest (t4 kf) n]?=some k/\∀j k',j<=n->ks[j]?=some k'->w8 k' k=false
 | 0,h=>by
  refine⟨ks[0],aa1 h,fun j k' hj e=>?_⟩
  obtain rfl:j=0:=by omega
  rw [aa1 h]at e;cases e;simp [w8]
 | n+1,h=>by
  obtain⟨k,h1,h2⟩:=rP ks kf hk n (by omega);have e1:ks[n+1]?=some ks[n+1]:=aa1 h
  have hb:t4 kf (n+1) (argBest (t4 kf) n)=w8 ks[n+1] k:=by
   show HT.lexLt (kf (n+1)) (kf (argBest (t4 kf) n))=_;rw [hk _ _ e1,hk _ _ h1,w4]
  cases hl:w8 ks[n+1] k with
  | true=>
   refine⟨ks[n+1],by simp only [argBest,hb,hl,if_true];exact e1,fun j k' hj e=>?_⟩
   by_cases hjn:j=n+1
   ·subst hjn
    rw [e1]at e;cases e;simp [w8]
   ·have:=h2 j k' (by omega) e
    unfold w8 at this hl |-;simp only [ak6,af9,decide_eq_true_eq,Bool.or_eq_false_iff,Bool.and_eq_false_iff,decide_eq_false_iff_not]at this hl |-;omega
  | false=>
   refine⟨k,by simp only [argBest,hb,hl,ad9,if_false];exact h1,fun j k' hj e=>?_⟩
   by_cases hjn:j=n+1
   ·subst hjn
    rw [e1]at e;cases e;exact hl
   ·exact h2 j k' (by omega) e
def CG(K:Frag)(t tk:TA):TE:=fun Z H Q=>t Z H fun vs H1=>tk Z H1 fun zs H2=>∃(p:Addr) (ts:List Addr) (ks:List (Int×Int)),vs=[.ref p]/\zs=[.non]/\aL K H2 p (ts.map V.ref)/\ts.length=ks.length/\(∀(i:Nat) (t:Addr) (k:Int×Int),ts[i]?=some t->ks[i]?=some k->bH K H2 t [.int k.1,.int k.2])/\
 (ks=[]->Q .non H2)/\∀(i:Nat) (t:Addr) (k:Int×Int),ts[i]?=some t->ks[i]?=some k->(∀k'∈ks,w8 k' k=false)->Q (.ref t) H2
theorem BC{e v:Expr}{t tk:TA}{kp pos:Pos}(K:Frag)(hu:X.A.units+4+1 < cLine)(hc:X.calm=true)(hg:Gl X "min")(hm:X.mg "min"=none)(ha:PA X [e] t)(hkw:PK X [⟨some (Str.ofString "default"),v,kp⟩] tk)(hK:X.K=K:=by rfl)(hs:starEach [e] X.env=[(false,eval e X.env)]:=by rfl):
  PE X (.Call (.Name "min" p) [e] [⟨some (Str.ofString "default"),v,kp⟩] pos) (CG K t tk):=by
 subst hK;intro pins s Z H Q I h;refine ag3 (eX I hg hm boot_min ?_ (by decide) (by decide));refine callWith_kw (ck (ha pos pins s Z H _ I h) fun us s1 ⟨vs,H1,I1,r1,q1⟩=>ck (hkw pos pins s1 Z H1 _ I1 q1) fun ws s2 zq0=>?_) (by rw [hs];rfl) (by rw [hs];rfl);obtain⟨zs,H2,I2,r2,q2⟩:=zq0;obtain⟨l,ts,ks,rfl,rfl,hl,htl,htc,q0,qn⟩:=q2;obtain⟨u,rfl,ru⟩:=eV r1;cases ru;obtain⟨u,rfl,ru⟩:=eV r2;cases ru;show wpAny _ _ (call (.builtin "min") [.ref l] [(Str.ofString "default",.none)]) _ _ s2;obtain⟨its,rv,pl,_⟩:=I2.list hl;have hil:=pl.isList;have hlen:=rv.length;rw [aa0]at hlen
 have tup:∀(i:Nat) (t:Addr) (k:Int×Int),ts[i]?=some t->ks[i]?=some k->∃vs:List Value,IsTup s2.heap t vs.toArray/\IntsAre vs [k.1,k.2]:=fun i t k e1 e2=>by
  obtain⟨vs,r,p,_⟩:=I2.tuple (htc i t k e1 e2);exact⟨vs,p,uf (ns:=[k.1,k.2]) r⟩
 have tlt:∀(i:Nat) (t:Addr) (k:Int×Int),ts[i]?=some t->ks[i]?=some k->t < s2.heap.objs.size:=fun i t k e1 e2=>by
  obtain⟨vs,⟨o,ho,_⟩,_⟩:=tup i t k e1 e2;exact ab7 ho
 have at':∀(i:Nat) (v:Value),its.toArray[i]?=some v->∃t k,ts[i]?=some t/\ks[i]?=some k/\v=.ref t:=fun i v hv=>by
  have hi:i < its.length:=by
   have:=(Array.getElem?_eq_some_iff.mp hv).1
   simpa using this
  have e1:ts[i]?=some (ts[i]'(by omega)):=aa1 (by omega);have e2:ks[i]?=some (ks[i]'(by omega)):=aa1 (by omega);obtain⟨u,h1,h2⟩:=rv.get (i:=i) (x:=.ref (ts[i]'(by omega))) (by rw [aa5,e1];rfl);rw [List.getElem?_toArray,h1]at hv;cases hv;cases h2;exact⟨_,_,e1,e2,rfl⟩
 have hkf:∀(i:Nat) (k:Int×Int),ks[i]?=some k->(fun i=>match ks[i]? with | some k=>[k.1,k.2] | none=>[]) i=[k.1,k.2]:=fun i k e=>by
  simp only [e]
 refine wA (kf:=fun i=>match ks[i]? with | some k=>[k.1,k.2] | none=>[]) (G:=fun h=>∀(i:Nat) (t:Addr) (k:Int×Int),ts[i]?=some t->ks[i]?=some k->∃vs:List Value,IsTup h t vs.toArray/\IntsAre vs [k.1,k.2]) (I2.ok.hd hc) hil ?_ tup ?_ ?_ ?_
 ·intro J S h h' hJ hS g k i t kk e1 e2
  obtain⟨vs,⟨o,ho,hr⟩,hv⟩:=g i t kk e1 e2
  have:=tlt i t kk e1 e2
  exact⟨vs,⟨o,k t o (ac6 (ab0 this hJ)) (ac6 (ab0 this hS)) ho,hr⟩,hv⟩
 ·intro i j vi vj s Q E hi hj g q
  obtain⟨t,k,e1,e2,rfl⟩:=at' i vi hi;obtain⟨t',k',e1',e2',rfl⟩:=at' j vj hj;obtain⟨vs,p,hv⟩:=g i t k e1 e2;obtain⟨vs',p',hv'⟩:=g j t' k' e1' e2';unfold t4 at q;rw [hkf i k e2,hkf j k' e2']at q;exact HT.lt_tupInts (A:=X.A.in1) p p' hv hv' (by show X.A.units+1 < cLine;omega) q
 ·intro h0 h' tk kp
  rw [ab1]at h0;exact⟨.non,H2,I2.kept (t':=tk) kp,rfl,q0 (ag0.mp (by omega))⟩
 ·intro hn v h' tk hv kp
  rw [ab1]at hn hv;obtain⟨k0,h1,h2⟩:=rP ks _ hkf (its.length - 1) (by omega);obtain⟨t,k,e1,e2,rfl⟩:=at' _ v hv;rw [h1]at e2;cases e2;refine⟨.ref t,H2,I2.kept (t':=tk) kp,rfl,qn _ t k0 e1 h1 fun k' hk'=>?_⟩;obtain⟨j,hj,rfl⟩:=List.getElem_of_mem hk';exact h2 j _ (by omega) (aa1 hj)
theorem sg{t u:Tok}(hd:A.handled=none)(hr:IsRange s.heap r a b c t u v)(big:Builtin.Range.small a b c=false)(en:Builtin.Range.rangeSize a b c=n)(nl:n<=2 ^ 24)(B:Addr)(res:Value)(e0:Nat)
  (hB:s.heap.get? B=some { cls:=.type "list",data:=.seq #[] e0 })
  (fin:∀h' tk acc e',(∀b o,b≠B->s.heap.get? b=some o->h'.get? b=some o)->h'.get? B=some { cls:=.type "list",dict:=none,data:=.seq acc e',slots:=#[] }->ItemsOf (fun i v=>∃t,v=.int (a+i * c) t) acc n->R (.ok (.ret res)) { s with heap:=h',toks:=tk }) :
  wpAny (model prog w) A.in1 (Builtin.List.listExtendWith (.ref B) (.ref r) res) (fun f s'=>match f with | .done f=>R (.ok f) s' | .again c'=>c'.quiet=true/\codeAny (model prog w) A c' R s') (fun e s'=>R (.error e) s') s:=by
 have nBr:B≠r:=fun e=>by rw [e,hr]at hB;simp at hB
 have Blt:B < s.heap.objs.size:=ab7 hB;have nBJ:B≠s.heap.objs.size:=ac6 Blt;have wk:=(Walks.longrange (prog:=prog) (w:=w) (A:=A.in1) hd s.heap.objs.size a c n).toS
 have run:∀(h:Heap) (e1 tk:Nat),IsLongIter h s.heap.objs.size (a+((0:Nat):Int) * c) ((n:Int) - ((0:Nat):Int)) c->(∀b o,b≠B->s.heap.get? b=some o->h.get? b=some o)->h.get? B=some { cls:=.type "list",data:=.seq #[] e1 }->
   codeAny (model prog w) A (.builtin "list.extend.loop" ⟨[.ref B,.ref s.heap.objs.size,res],[]⟩) R { s with heap:=h,toks:=tk }:=by
  intro h e1 tk ih hk hB1;refine codeAny_extend_loopS wk (by rw [sizeLine_eq];omega) B (fun hm=>nBJ (ab6.mp hm)) res n 0 _ #[] e1 rfl (ad3 _) ih hB1 (ItemsOf.nil _) fun s' acc e' mv hB' hacc=>?_;rw [Moved.eq_with mv];refine fin s'.heap s'.toks acc e' (fun b o hb e=>mv.heap b o (fun hm=>?_) (hk b o hb e)) hB' hacc;rcases aa8.mp hm with z | hm
  ·exact hb z
  ·exact absurd (ab7 e) (by rw [ab6.mp hm];exact ah1 _)
 unfold Builtin.List.listExtendWith;refine aa2 (al2 (T:="range") ⟨_,hr,rfl⟩ ?_);simp only [show Builtin.List.listSameRef (.ref B) (.ref r)=false by simp [Builtin.List.listSameRef,nBr],show(Value.type "range" == Value.type "list")=false by decide,show(Value.type "range" == Value.type "tuple")=false by decide,Bool.or_false,ad9,if_false];refine aa2 (wpAny_pyIter_longrange hr big ?_);refine aa2 (ae2 (wpAny_hint_range (n:=n) (aa4 _ hr) en nl ?_))
 have it1:IsLongIter (s.heap.push { cls:=.type "longrange_iterator",data:=.fields #[rawInt a,rawInt (Builtin.Range.rangeSize a b c),rawInt c] }) s.heap.objs.size (a+((0:Nat):Int) * c) ((n:Int) - ((0:Nat):Int)) c:=by
  rw [en];simpa using ab3 _ rfl
 have hB1:=aa4 { cls:=.type "longrange_iterator",data:=.fields #[rawInt a,rawInt (Builtin.Range.rangeSize a b c),rawInt c] } hB;refine wpAny_ite_split (fun _=>?_) (fun _=>aa7 ⟨plainId_quiet F.plain_extend_loop _,run _ e0 _ it1 (fun b o _ e=>aa4 _ e) hB1⟩);refine aa2 (ap7 (aa2 ?_))
 show wpAny _ _ (updateSeq B (·.push .none) >>= fun _=>updateSeq B (·.pop)) _ _ _
 refine aa2 (aj5 hB1 rfl ?_)
 have hB2:=af6 (Obj.mapSeq (·.push Value.none)) hB1 rfl
 refine aj5 (hz:=by seq_fits) hB2 rfl ?_
 have hB3:=af6 (Obj.mapSeq (·.pop)) hB2 rfl
 refine aa7 ⟨plainId_quiet F.plain_extend_loop _,run _ _ _ ?_ (fun b o hb e=>?_) hB3⟩
 ·exact(ad4 _ _ nBJ).trans ((ad4 _ _ nBJ).trans it1)
 ·exact(ad4 _ _ (Ne.symm hb)).trans ((ad4 _ _ (Ne.symm hb)).trans (aa4 _ e))
theorem mT{Q:Value->Shared->Prop}{t u:Tok}(hd:A.handled=none)(hr:IsRange s.heap r a b c t u v)(big:Builtin.Range.small a b c=false)(en:Builtin.Range.rangeSize a b c=n)(nl:n<=2 ^ 24)
  (fin:∀h' tk acc e',(∀b o,s.heap.get? b=some o->h'.get? b=some o)->h'.get? s.heap.objs.size=some { cls:=.type "list",dict:=none,data:=.seq acc e',slots:=#[] }->ItemsOf (fun i v=>∃t,v=.int (a+i * c) t) acc n->Q (.ref s.heap.objs.size) { s with heap:=h',toks:=tk }) :
  wpAny (model prog w) A (call (.type "list") [.ref r]) Q E s:=by
 refine callType_codes (Q₁:=fun ob s1=>ob=.ref s.heap.objs.size/\s1={ s with heap:=s.heap.push { cls:=.type "list",data:=.seq #[] } }) F.called_list (F.typeCall_list_1 _) F.entry_list_init (code_list_new _ ⟨rfl,rfl⟩) fun ob s1 h1=>?_;obtain⟨rfl,rfl⟩:=h1;have hB:(s.heap.push { cls:=.type "list",data:=.seq #[] }).get? s.heap.objs.size=some { cls:=.type "list",data:=.seq #[] }:=ab3 _ rfl;have hr1:IsRange (s.heap.push { cls:=.type "list",data:=.seq #[] }) r a b c t u v:=aa4 _ hr;have nBr:s.heap.objs.size≠r:=(ac6 (ab7 hr)).symm;refine⟨⟨_,hB,rfl⟩,F.args_list_init_2 _ _,?_⟩;show wpAny _ A.in1.in1 (do let old <-Builtin.List.listItems (.ref s.heap.objs.size);Builtin.List.listUpdate (.ref s.heap.objs.size) (fun _=>#[]);letGo old.toList.reverse;Builtin.List.listExtendWith (.ref s.heap.objs.size) (.ref r) .none) _ _ _;refine aa2 ?_;unfold Builtin.List.listItems;refine aa2 (ae8 hB rfl (aa7 ?_));show wpAny _ _ (updateSeq s.heap.objs.size (fun _=>#[]) >>= fun _=>letGo (#[]:Array Value).toList.reverse >>= fun _=>Builtin.List.listExtendWith (.ref s.heap.objs.size) (.ref r) .none) _ _ _;refine aa2 (aj5 hB rfl ?_);have hB2:=af6 (Obj.mapSeq (fun _=>(#[]:Array Value))) hB rfl;refine aa2 (aj9 ?_);refine sg (A:=A.in1) hd (show IsRange _ r a b c t u v from(ad4 _ _ nBr).trans hr1) big en nl _ .none _ hB2 fun h' tk acc e' hk hB' hacc=>?_;exact⟨rfl,fin h' tk acc e' (fun b o e=>hk b o (ac6 (ab7 e)) ((ad4 _ _ (ac6 (ab7 e)).symm).trans (aa4 _ e))) hB' hacc⟩
def intsFrom(a:Int)(n:Nat):List Int:=(List.range n).map fun(i:Nat)=>a+i
theorem oC:∀(ns:List Int) (us:List Value),us.length=ns.length->(∀(j:Nat) v n,us[j]?=some v->ns[j]?=some n->∃t,v=.int n t)->aQ (ns.map V.int) us
 | [],[],_,_=>.nil
 | [],_::_,h,_=>by simp at h
 | _::_,[],h,_=>by simp at h
 | n::ns,u::us,h,hv=>by
  obtain⟨t,e⟩:=hv 0 u n rfl rfl;exact .cons ⟨t,e⟩ (oC ns us (by simpa using h) fun j v n e1 e2=>hv (j+1) v n e1 e2)
theorem t5{t u:Tok}(hc:X.calm=true)(I:aJ X pins Z H s)(hr:IsRange s.heap r i j 1 t u v)(hl:j - i<=1000)
  (q:∀l,H l=none->Q (.ref l) (upd H l (.lst ((intsFrom i (j - i).toNat).map V.int)))):wpAny (model X.prog X.w) X.A (call (.type "list") [.ref r]) (EP X pins Z Q) X.xe s:=by
 have hs:sizeLine=16777216:=sizeLine_eq
 have en:Builtin.Range.rangeSize i j 1=(((j - i).toNat:Nat):Int):=by rw [rangeSize_one];split<;>omega
 have nl:(j - i).toNat<=2 ^ 24:=by omega
 have fin:∀h' tk acc e',(∀b o,s.heap.get? b=some o->h'.get? b=some o)->h'.get? s.heap.objs.size=some { cls:=.type "list",dict:=none,data:=.seq acc e',slots:=#[] }->ItemsOf (fun k v=>∃t,v=.int (i+k * 1) t) acc (j - i).toNat->EP X pins Z Q (.ref s.heap.objs.size) { s with heap:=h',toks:=tk }:=fun h' tk acc e' hk hB hacc=>by
  have rv:aQ ((intsFrom i (j - i).toNat).map V.int) acc.toList:=by
   refine oC _ _ (by simp [intsFrom,hacc.1]) fun k v n e1 e2=>?_;obtain⟨t,rfl⟩:=hacc.2 k v (by simpa using e1)
   have hk:k < (j - i).toNat:=by
    have:=(aa3.mp e2).1
    simpa [intsFrom]using this
   simp only [intsFrom,aa5,ak4 hk]at e2;cases e2;exact⟨t,by rw [ao3]⟩
  refine⟨.ref s.heap.objs.size,_,I.laid (t':=tk) hk (aa9 _) (show dh X.prog X.w _ h' _ (.lst ((intsFrom i (j - i).toNat).map V.int))from⟨by simp [intsFrom];omega,acc.toList,e',rv,hB⟩),rfl,q _ (I.hok.fresh (aa9 _))⟩
 cases hb:Builtin.Range.small i j 1 with
 | true=>exact call_list_range (I.ok.hd hc) hr hb en nl fin
 | false=>exact mT (I.ok.hd hc) hr hb en nl fin
def wb(ta:TA):TE:=fun Z H Q=>ta Z H fun vs H1=>∃i j:Int,vs=[.int i,.int j]/\j - i<=1000/\∀l,H1 l=none->Q (.ref l) (upd H1 l (.lst ((intsFrom i (j - i).toNat).map V.int)))
def Ca(ta:TA):TE:=fun Z H Q=>ta Z H fun vs H1=>∃j:Int,vs=[.int j]/\j<=1000/\∀l,H1 l=none->Q (.ref l) (upd H1 l (.lst ((intsFrom 0 j.toNat).map V.int)))
theorem xu{a b:Expr}{ta:TA}{p2 pos pos2:Pos}(hc:X.calm=true)(hgl:Gl X "list")(hml:X.mg "list"=none)(hg:Gl X "range")(hm:X.mg "range"=none)(ha:PA X [a,b] ta)(hs:starEach [a,b] X.env=[(false,eval a X.env),(false,eval b X.env)]:=by rfl)(hs2:starEach [b] X.env=[(false,eval b X.env)]:=by rfl):
  PE X (.Call (.Name "list" p) [.Call (.Name "range" p2) [a,b] [] pos2] [] pos) (wb ta):=by
 intro pins s Z H Q I h;refine ag3 (eX I hgl hml boot_list (PyProof.Rows.callWith_type1 ?_ rfl rfl));show wpAny _ _ (spliced ((false,eval (.Call (.Name "range" p2) [a,b] [] pos2) X.env)::backTo pos (starEach [] X.env))) _ _ s;refine Calls.spliced_cons ?_;refine ag3 (eX I hg hm boot_range (PyProof.Rows.callWith_type1 (ck (ha pos2 pins s Z H _ I h) fun us s1 zq0=>?_) (by rw [hs,hs2]) (by rw [hs2];rfl)));obtain⟨vs,H1,I1,r1,q1⟩:=zq0;obtain⟨i,j,e,hl,q⟩:=q1;subst e
 cases r1 with
 | cons r rr=>
  cases rr with
  | cons r' rr=>
   cases rr;obtain⟨t,rfl⟩:=r;obtain⟨t',rfl⟩:=r';refine call_range_2 (Calls.spliced_nil ?_);exact t5 hc (I1.kept fun b o e=>aa4 _ e) (IsRange.new ..) hl q
end L2
namespace XE
open PySem
open Sem (wp)
section
variable {M:Model} {A:Around} {E:Value->Shared->Prop} {s:Shared}
end
section
variable {M:Model} {A:Around} {E:Value->Shared->Prop} {h:Heap} {g:Array GenState} {d:Drawn} {t:Nat} {os:OsState}
variable {nm q:Str} {C N:Addr} {bs bm bmB:List Value} {hdct:Bool} {sn:List Str} {sub:List Value} {ab:Bool} {col:Option Bool} {dd:Option Addr} {k0 k1 k2 k3 k5:Option Value} {B newId initId:String} {no:Str->Prop}
end
section
variable {prog:Program} {w:World} {A:Around} {E:Value->Shared->Prop} {h:Heap} {g:Array GenState} {d:Drawn} {t:Nat} {os:OsState}
variable {nm q:Str} {C N:Addr} {bs bm bmB:List Value} {hdct:Bool} {sn:List Str} {sub:List Value} {ab:Bool} {col:Option Bool} {dd:Option Addr} {k0 k1 k2 k3 k5:Option Value} {B newId initId:String}
end
section
variable {M:Model} {A:Around} {E:Value->Shared->Prop} {env:Env}
variable {nm q:Str} {C N:Addr} {bs bm:List Value} {hdct:Bool} {sn:List Str} {sub:List Value} {ab:Bool} {col:Option Bool} {dd:Option Addr} {k0 k1 k2 k3 k5:Option Value} {newId:String}
end
section
variable {prog:Program} {w:World} {A:Around} {E:Value->Shared->Prop} {s:Shared} {env:Env}
variable {nm q:Str} {C N:Addr} {bs bm:List Value} {hdct:Bool} {sn:List Str} {sub:List Value} {ab:Bool} {col:Option Bool} {dd:Option Addr} {k0 k1 k2 k3 k5:Option Value} {newId:String}
end
section
open Builtin Builtin.ObjectAttr
variable {prog:Program} {w:World} {A:Around} {E:Value->Shared->Prop} {h:Heap} {g:Array GenState} {d:Drawn} {t:Nat} {os:OsState}
variable {nm q:Str} {C N x:Addr} {bs bm bmB:List Value} {sn:List Str} {sub:List Value} {ab:Bool} {col:Option Bool} {dd:Option Addr} {k0 k1 k2 k3 k5:Option Value} {B newId sa owner:String}
 {mN mA:Str->Option Value} {name:Str} {v:Value} {no:Str->Prop}
end
section
open Builtin Builtin.ObjectAttr
variable {prog:Program} {w:World} {A:Around} {E:Value->Shared->Prop} {h:Heap} {g:Array GenState} {d:Drawn} {t:Nat} {os:OsState}
variable {nm q:Str} {C N a dx:Addr} {bs bm bmB:List Value} {sn:List Str} {sub:List Value} {ab:Bool} {col:Option Bool} {dd:Option Addr} {k0 k1 k2 k3 k5:Option Value} {B newId:String}
 {mN mA:Str->Option Value} {name:Str} {v:Value} {no:Str->Prop} {o:Obj} {vs:Array Value}
end
end XE
namespace L2
open PySem PySem.Spec PyProof.Rows
variable {A:Around} {C a d fI:Addr} {E:Value->Shared->Prop} {H:Hp} {P:Program} {X:Cx} {fs:List (Str×V)} {no:List Str} {pins:List (Addr×Obj)} {pos:Pos} {s:Shared} {w:World} {Z:St}
section
variable {h:Heap}
end
section
variable {T:Addr} {ts:List Addr} {fl:Value} {h':Heap}
end
section
variable {K:Frag} {mg:Str->Option Value} {base:Heap} {N:List Str} {qual:Str} {scope:Scope} {f:Addr} {cd:Value} {outer:List Env} {Zh:Shared} {Z2:Hp} {E:XK}
end
section
variable {h:Heap}
end
section
variable {f:Str}
end
section
variable {f x:Str} {o e value:Expr} {es:List Expr} {ta tv:TE} {t:TA} {pos' np cpos:Pos} {k:Nat} {fd:FuncData} {ps:List Str} {sp:Sp} {E:XK}
end
section
variable {scope:Scope} {own:List Str} {js:List Nat} {tg iter elt:Expr} {ifs:List Expr} {wi:TI} {g:TG} {tt:TT} {te:TE}
end
section
variable {e:Value}
end
section
variable {T L:Addr} {ts:List Addr} {M:Model} {Q:Unit->Shared->Prop}
end
section
variable {k:Nat} {f L:Addr} {fd:FuncData} {ps:List Str} {sp:Sp} {x y v n r:Str} {p cpos np vp hpos rp rn apos spos:Pos} {e:Expr} {es:List Expr} {t:TA} {iv ie ir:Nat}
end
end L2
namespace XE
open PySem
open Sem (wp)
section
variable {prog:Program} {w:World} {A:Around} {E:Value->Shared->Prop} {h:Heap} {g:Array GenState} {d:Drawn} {t:Nat} {os:OsState}
variable {nm q:Str} {C N a:Addr} {bs bm bmB:List Value} {sn:List Str} {sub:List Value} {ab:Bool} {col:Option Bool} {dd:Option Addr} {k0 k1 k2 k3 k5:Option Value} {B newId:String}
 {mN:Str->Option Value} {no:Str->Prop} {o:Obj} {vs:Array Value}
end
end XE
namespace L2
open PySem PySem.Spec PyProof.Rows
variable {A:Around} {C a d:Addr} {E:Value->Shared->Prop} {H H':Hp} {P:Program} {Q:Bool->Shared->Prop} {Ss:List bO} {X:Cx} {apos cpos p pos:Pos} {c:List Int} {cols:List (List Int)} {e tg:Expr} {es:List Expr} {h:Heap} {i j k:Nat} {ks x y:List (Option (List Int))} {pins:List (Addr×Obj)} {t:TA} {u v:Value} {vs:List Value} {w:World} {xs:List (List Int×Addr×V)} {α κ:Type}
section
variable {ps qs:List Str} {sp sq:Sp} {x y v n r f:Str} {np vp hpos rp rn spos:Pos} {o value:Expr} {ta:TE} {E:XK} {L:Addr} {no:List Str} {iv ie ir:Nat}
end
section
variable {K:Frag} {fI S N c:Addr} {nm q f:Str} {bs sub:List Value} {sn:List Str} {ab b:Bool} {col:Option Bool} {dd:Option Addr} {k0 k1 k2 k3 k5:Option Value} {c0:Value} {ds:Option Addr} {cd:ClassData} {sl:Array (Option Value)} {T:String}
end
def TJ:=Str->L2.St->Hp->VK->Prop
section
variable {e1 e2:Expr} {t:TJ} {te:TE} {x:Str}
theorem sk:cX X (inplaceOp .Mult) (rI IntMulOk fun i j=>.int (i * j)):=ES fun _ _ _ _ _ _ _ hc q=>imul_int q hc
end
theorem xM{K:Frag}(it:Addr)(lo:Int)(n:Nat):oI P w K tg (wm lo n) [it] it (fun i h=>IsLongIter h it (lo+(i:Nat) * 1) ((n:Int) - (i:Nat)) 1) where
 mem:=by simp
 obj:=fun i h st b hb=>by
  have e:b=it:=by simpa using hb
  subst e
  exact⟨_,st,fun v z=>by
   have z':Data.fields _=Data.cell v:=z
   cases z'⟩
 keep:=fun i h h' st k=>k it (by simp) _ st
 item:=by
  intro X hP hw hK hc i pins s Z H E I hf st hg;subst hP hw hK;obtain⟨f0,f1,f2,f3,f4,f5⟩:=hf it (by simp);have W:=Walks.longrange (prog:=X.prog) (w:=X.w) (I.ok.hd hc) it lo 1 n;refine W.item i s _ _ hg st fun v h' tk hv st' kk=>?_;obtain⟨t,rfl⟩:=hv;have I1:aJ X pins Z H { s with heap:=h',toks:=tk }:=I.turned (fun b o hb e=>kk b o (by simpa using hb) e) f0 f1 f3 f4 f5;refine⟨_,rfl,pN (s:={ s with heap:=h',toks:=tk }) (n:="longrange_iterator") st' rfl rfl (by decide) ⟨.int (lo+i),H,I1,⟨t,?_⟩,⟨rfl,rfl⟩,st',fun b hb=>(hf b hb).1⟩⟩;rw [ao3]
 done:=by
  intro X hP hw hK hc i pins s Z H E I hf st hg;subst hP hw hK;obtain⟨f0,f1,f2,f3,f4,f5⟩:=hf it (by simp);exact wpAny_pyNext_long_end (I.ok.hd hc) st (by have:n<=i:=hg;omega) fun h' eb=>⟨rfl,I.turned (t':=s.toks) (fun b o hb e=>eb b o hb e) f0 f1 f3 f4 f5⟩
 self:=fun _ _ _ _ _ st h=>wpAny_pyIter_longiter st h
theorem xB{Z:St}{s:Shared}{R:It->Hp->Prop}{lo hi:Int}{t u v:Tok}{tk:Nat}(I:aJ X pins Z H s)
  (q:R (wm lo (hi - lo).toNat) H):wpAny (model X.prog X.w) X.A (pyIter (.ref s.heap.objs.size)) (Ec X pins Z tg R) E { s with heap:=s.heap.push { cls:=.type "range",data:=.fields #[.int lo t,.int hi u,.int 1 v] },toks:=tk }:=by
 have I1:aJ X pins Z H { s with heap:=s.heap.push { cls:=.type "range",data:=.fields #[.int lo t,.int hi u,.int 1 v] },toks:=tk }:=I.kept fun b o e=>aa4 _ e
 have e1:lo+((0:Nat):Int) * 1=lo:=by simp
 have e2:(((hi - lo).toNat:Nat):Int) - ((0:Nat):Int)=Builtin.Range.rangeSize lo hi 1:=by rw [rangeSize_one];split<;>omega
 cases hs:Builtin.Range.small lo hi 1 with
 | true=>
  refine ao0 (IsRange.new ..) hs ?_
  refine⟨(s.heap.push { cls:=.type "range",data:=.fields #[.int lo t,.int hi u,.int 1 v] }).objs.size,[(s.heap.push { cls:=.type "range",data:=.fields #[.int lo t,.int hi u,.int 1 v] }).objs.size],_,_,H,rfl,
   I1.kept (t':=tk) fun b o e=>aa4 _ e,oy _ lo (hi - lo).toNat,?_,fun b hb=>?_,q⟩
  ·show IsRangeIter _ _ (lo+((0:Nat):Int) * 1) ((((hi - lo).toNat:Nat):Int) - ((0:Nat):Int)) 1
   rw [e1,e2];exact ab3 _ rfl
  ·have e:b=(s.heap.push { cls:=.type "range",data:=.fields #[.int lo t,.int hi u,.int 1 v] }).objs.size:=by simpa using hb
   subst e;exact I1.fpOk (aa9 _) (I1.hok.fresh (aa9 _))
 | false=>
  refine wpAny_pyIter_longrange (IsRange.new ..) hs ?_
  refine⟨(s.heap.push { cls:=.type "range",data:=.fields #[.int lo t,.int hi u,.int 1 v] }).objs.size,[(s.heap.push { cls:=.type "range",data:=.fields #[.int lo t,.int hi u,.int 1 v] }).objs.size],_,_,H,rfl,
   I1.kept (t':=tk) fun b o e=>aa4 _ e,xM _ lo (hi - lo).toNat,?_,fun b hb=>?_,q⟩
  ·show IsLongIter _ _ (lo+((0:Nat):Int) * 1) ((((hi - lo).toNat:Nat):Int) - ((0:Nat):Int)) 1
   rw [e1,e2];exact ab3 _ rfl
  ·have e:b=(s.heap.push { cls:=.type "range",data:=.fields #[.int lo t,.int hi u,.int 1 v] }).objs.size:=by simpa using hb
   subst e;exact I1.fpOk (aa9 _) (I1.hok.fresh (aa9 _))
def yC(ta:TA):TI:=fun Z H R=>ta Z H fun vs H1=>∃i j:Int,vs=[.int i,.int j]/\R (wm i (j - i).toNat) H1
theorem nP{a b:Expr}{ta:TA}(hg:Gl X "range")(hm:X.mg "range"=none)(ha:PA X [a,b] ta)(hs:starEach [a,b] X.env=[(false,eval a X.env),(false,eval b X.env)]:=by rfl)(hs2:starEach [b] X.env=[(false,eval b X.env)]:=by rfl):
  PI X tg (.Call (.Name "range" p) [a,b] [] pos) (yC ta):=by
 intro pins s Z H R I h;refine Call_ (eX I hg hm boot_range (PyProof.Rows.callWith_type1 (ck (ha pos pins s Z H _ I h) fun us s1 zq0=>?_) (by rw [hs,hs2]) (by rw [hs2];rfl)));obtain⟨vs,H1,I1,r1,q1⟩:=zq0;obtain⟨i,j,e,q⟩:=q1;subst e
 cases r1 with
 | cons r rr=>
  cases rr with
  | cons r' rr=>
   cases rr;obtain⟨t,rfl⟩:=r;obtain⟨t',rfl⟩:=r';exact call_range_2 (xB I1 q)
abbrev Eo(P:Program)(w:World):HeapKind P w (List Int):=tupleKind (intKind P w)
section
abbrev xQ(P:Program)(w:World)(h:Heap)(c:List Int)(a:Addr):Prop:=IsTupleKey (intKind P w) h c a
def fF(P:Program)(w:World)(h:Heap):Option (List Int)->Value->Prop
 | none,v=>v=.none
 | some c,v=>∃a,v=.ref a/\xQ P w h c a
inductive cU(P:Program)(w:World)(h:Heap):List (Option (List Int))->List Value->Prop
 | nil:cU P w h [] []
 | cons {k:Option (List Int)} {v:Value} {ks:List (Option (List Int))} {vs:List Value}:fF P w h k v->cU P w h ks vs->cU P w h (k::ks) (v::vs)
def wj(P:Program)(w:World)(h:Heap)(ks:List (Option (List Int)))(a:Addr):Prop:=∃o items n,h.get? a=some o/\o.cls=.type "tuple"/\o.data=.seq items n/\cU P w h ks items.toList
variable {h':Heap}
theorem fF.inj{x y:Option (List Int)}(hx:fF P w h x v)(hy:fF P w h y v):x=y:=by
 cases x with
 | none=>
  cases y with
  | none=>rfl
  | some c=>obtain⟨a,e,_⟩:=hy;rw [show v=.none from hx]at e;cases e
 | some c=>
  obtain⟨a,rfl,ha⟩:=hx
  cases y with
  | none=>have hy:Value.ref a=.none:=hy;cases hy
  | some d=>
   obtain⟨b,e,hb⟩:=hy;cases e;rw [ha.inj hb]
theorem cU.inj(hx:cU P w h x vs)(hy:cU P w h y vs):x=y:=by
 induction hx generalizing y with
 | nil=>cases hy;rfl
 | cons h1 _ ih=>
  cases hy with
  | cons h2 t2=>rw [h1.inj h2,ih t2]
theorem cU.length(hx:cU P w h x vs):x.length=vs.length:=by
 induction hx with
 | nil=>rfl
 | cons _ _ ih=>simp [ih]
theorem fF.imp{k:Option (List Int)}(f:∀c a,xQ P w h c a->xQ P w h' c a)(x:fF P w h k v):fF P w h' k v:=by
 cases k with
 | none=>exact x
 | some c=>obtain⟨a,e,ha⟩:=x;exact⟨a,e,f c a ha⟩
theorem cU.imp(f:∀c a,xQ P w h c a->xQ P w h' c a)(hx:cU P w h x vs):cU P w h' x vs:=by
 induction hx with
 | nil=>exact .nil
 | cons h1 _ ih=>exact .cons (h1.imp f) ih
theorem wj.typeIs{s:Shared}(x:wj P w s.heap ks a):s.TypeIs (.ref a) "tuple":=let ⟨o,_,_,ho,hc,_⟩:=x;⟨o,ho,hc⟩
theorem wj.inj(hx:wj P w h x a)(hy:wj P w h y a):x=y:=by
 obtain⟨o,items,n,ho,_,hd,hi⟩:=hx;obtain⟨o',items',n',ho',_,hd',hi'⟩:=hy;obtain rfl:o=o':=Option.some.inj (ho.symm.trans ho');rw [hd]at hd'
 injection hd' with h1 _
 subst h1;exact hi.inj hi'
theorem wj.keeps{o:Obj}{es ep}(x:wj P w h ks a)(ho:h.get? d=some o)(hd:o.data=.dict es ep)(hs:Heap.SameBut d h h'):wj P w h' ks a:=by
 obtain⟨o',items,n,ho',hc,hd',hi⟩:=x
 have hne:a≠d:=by
  rintro rfl;obtain rfl:o'=o:=Option.some.inj (ho'.symm.trans ho);rw [hd]at hd';exact nomatch hd'
 exact⟨o',items,n,(hs.2 a hne).trans ho',hc,hd',hi.imp fun c b x=>x.keeps ho hd hs⟩
def y7:Int:=reduceHash 0xFCA86420
def ng(P:Program)(w:World):Option (List Int)->Int
 | none=>y7
 | some c=>tupleKeyHash (intKind P w) c
def kQ:Option (List Int)->Nat
 | none=>1
 | some c=>c.length+1
def y4(P:Program)(w:World)(ks:List (Option (List Int))):Int:=reduceHash (Builtin.Tuple.tupleHashOf (ks.map (ng P w)))
def uv(ks:List (Option (List Int))):Nat:=(ks.map kQ).sum+1
variable {s:Shared}
theorem wZ{k:Option (List Int)}{Q:Int->Shared->Prop}(hu:A.units < cLine)(hk:fF P w s.heap k v)(q:Q (ng P w k) { s with toks:=s.toks+kQ k }):wpAny (model P w) A (pyHash v) Q E s:=by
 cases k with
 | none=>
  have hk:v=.none:=hk;subst hk;exact PySem.W.pyHash_slot (T:="NoneType") rfl F.slot_NoneType_hash F.entry_NoneType_hash (F.args_NoneType_hash_1 _) (beq_builtin_none _) (.inr hu) (aa2 (aa7 (aa2 (wpAny_mkInt (aa7 ⟨_,_,rfl,q⟩)))))
 | some c=>
  obtain⟨a,rfl,ha⟩:=hk;exact wpAny_pyHash_tuple hu ha q
theorem De{Q:Int->Shared->Prop}(hu:A.units+1 < cLine)(hk:wj P w s.heap ks a)(q:Q (y4 P w ks) { s with toks:=s.toks+uv ks }):wpAny (model P w) A (pyHash (.ref a)) Q E s:=by
 have hT:=hk.typeIs;obtain⟨o,items,n,ho,_,hd,hi⟩:=hk;refine PySem.W.pyHash_slot (T:="tuple") hT F.slot_tuple_hash F.entry_tuple_hash (F.args_tuple_hash_1 _) (beq_builtin_none _) (.inr (by omega)) ?_;show wpAny _ _ (Builtin.Tuple.tupleItemsOf (.ref a) >>= _) _ _ s;refine aa2 (wpAny_tupleItemsOf ho hd ?_);refine aa2 ?_;rw [<-ao1]
 refine am3 _
  (fun rest (b:Array Int) s'=>∃done left,ks=done++left/\cU P w s.heap left rest/\b.toList=done.map (ng P w)/\s'={ s with toks:=s.toks+(done.map kQ).sum })
  _ ?_ ?_ _ _ ⟨[],ks,rfl,hi,rfl,rfl⟩
 ·rintro x rest b s' ⟨done,left,rfl,hl,hb,rfl⟩
  cases hl with
  | @cons k _ ks' _ h1 hl'=>
   refine aa2 (wZ (A:=A.in1) (by show A.units+1 < cLine;exact hu) h1 ?_)
   first
    | exact aa7 ⟨done++[k],ks',by simp,hl',by simp [hb],by simp [Nat.add_assoc]⟩
    | exact aa2 (aa7 (aa7 ⟨done++[k],ks',by simp,hl',by simp [hb],by simp [Nat.add_assoc]⟩))
 ·rintro b s' ⟨done,left,rfl,hl,hb,rfl⟩
  cases hl;rw [af4]at q;show wpAny _ _ (retInt (Builtin.Tuple.tupleHashOf b.toList)) _ _ _;rw [hb];refine aa2 (wpAny_mkInt (aa7 ⟨_,_,rfl,?_⟩));unfold y4 uv at q;simpa [Nat.add_assoc]using q
theorem xQ.any{P':Program}{w':World}(x:xQ P w h c a):xQ P' w' h c a:=by
 obtain⟨o,items,n,ho,hc,hd,hi⟩:=x;refine⟨o,items,n,ho,hc,hd,?_⟩;generalize items.toList=vs at hi
 induction hi with
 | nil=>exact .nil
 | cons h1 _ ih=>exact .cons h1 ih
theorem xQ.isTuple(x:xQ P w h c a):∃items,h.IsTuple a items:=by
 obtain⟨o,items,n,ho,hc,hd,_⟩:=x;exact⟨items,o,ho,hc,n,hd⟩
theorem AW{x y:Option (List Int)}(hu:A.units < cLine)(hx:fF P w s.heap x u)(hy:fF P w s.heap y v):SeqAt.EqAt A s u v (decide (x=y)):=by
 cases x with
 | none=>
  have hx:u=.none:=hx;subst hx
  cases y with
  | none=>
   have hy:v=.none:=hy;subst hy;rw [decide_eq_true rfl];exact SeqAt.EqAt.same _
  | some c=>
   obtain⟨b,rfl,hb⟩:=hy;obtain⟨items,ht⟩:=hb.isTuple;rw [decide_eq_false (fun e=>by cases e)];exact SeqAt.EqAt.none_tuple ht hu
 | some c=>
  obtain⟨a,rfl,ha⟩:=hx
  cases y with
  | none=>
   have hy:v=.none:=hy;subst hy;obtain⟨items,ht⟩:=ha.isTuple;rw [decide_eq_false (fun e=>by cases e)];exact SeqAt.EqAt.tuple_none ht hu
  | some d=>
   obtain⟨b,rfl,hb⟩:=hy
   have e:decide (some c=some d)=decide (c=d):=by
    by_cases h:c=d
    ·rw [h,decide_eq_true rfl,decide_eq_true rfl]
    ·rw [decide_eq_false h,decide_eq_false (fun z=>h (Option.some.inj z))]
   rw [e];exact fun P' w' E Q q=>wpAny_eqBool_tuple hu ha.any hb.any q
theorem cU.at(hx:cU P w h x vs)(e:vs[j]?=some v):∃k,x[j]?=some k/\fF P w h k v:=by
 induction hx generalizing j with
 | nil=>cases e
 | cons h1 _ ih=>
  cases j with
  | zero=>cases e;exact⟨_,rfl,h1⟩
  | succ j=>exact ih e
theorem sE[DecidableEq α]:∀(x y:List α),((List.range (min x.length y.length)).all (fun j=>decide (x[j]?=y[j]?)) && x.length == y.length)=decide (x=y):=by
 intro x y;rw [ah4,af9,ag7,decide_eq_true_iff]
 constructor
 ·rintro⟨h1,h2⟩
  have hl:x.length=y.length:=by simpa using h2
  refine List.ext_getElem? fun j=>?_
  by_cases hj:j < x.length
  ·exact of_decide_eq_true (h1 j (ah6.mpr (by omega)))
  ·rw [aj6 (by omega),aj6 (by omega)]
 ·rintro rfl
  simp
theorem FZ{b:Addr}(hu:A.units+1 < cLine)(hx:wj P w s.heap x a)(hy:wj P w s.heap y b)(q:Q (decide (x=y)) s):wpAny (model P w) A (eqBool (.ref a) (.ref b)) Q E s:=by
 by_cases hab:a=b
 ·subst hab
  obtain rfl:=hx.inj hy;rw [decide_eq_true rfl]at q;exact SeqAt.EqAt.same (.ref a) P w E Q q
 ·obtain⟨oa,xs,na,hoa,hca,hda,hia⟩:=hx
  obtain⟨ob,ys,nb,hob,hcb,hdb,hib⟩:=hy
  have ht:SeqAt.EqAt A s (.ref a) (.ref b) ((List.range (min xs.size ys.size)).all (fun j=>decide (x[j]?=y[j]?)) && xs.size == ys.size):=by
   refine SeqAt.EqAt.of_refs hab (SeqAt.RcAt.tuples ⟨oa,hoa,hca,na,hda⟩ ⟨ob,hob,hcb,nb,hdb⟩ (by omega) fun j j1 j2=>?_);obtain⟨k1,e1,i1⟩:=hia.at (j:=j) (v:=xs[j]) (by simp [j1]);obtain⟨k2,e2,i2⟩:=hib.at (j:=j) (v:=ys[j]) (by simp [j2])
   have e:decide (x[j]?=y[j]?)=decide (k1=k2):=by
    rw [e1,e2]
    by_cases h:k1=k2
    ·rw [h,decide_eq_true rfl,decide_eq_true rfl]
    ·rw [decide_eq_false h,decide_eq_false (fun z=>h (Option.some.inj z))]
   rw [e];exact AW (A:=A.in1) (by show A.units+1 < cLine;exact hu) i1 i2
  have lx:xs.size=x.length:=by rw [hia.length];simp
  have ly:ys.size=y.length:=by rw [hib.length];simp
  rw [lx,ly,sE]at ht;exact ht P w E Q q
theorem AH{n:Nat}{ks:List Int}(hk:xQ P w s.heap ks a)(q:Q true s):wpAny (model P w) A (eqIsQuiet (n+1) (.ref a)) Q E s:=by
 have hT:=hk.typeIs;obtain⟨o,items,n,ho,_,hd,hi⟩:=hk;unfold eqIsQuiet;refine aa2 (ak7 hT F.slot_tuple_eq.lookup ?_);show wpAny _ _ (isInstance (.ref a) (.type "tuple") >>= _) _ _ s;refine aa2 (ap2 hT isSubtype_tuple_tuple ?_);simp only [ap1,ad9,if_false];refine aa2 (ae8 ho hd ?_);refine aa2 ?_;show wpAny _ _ (forIn items _ _) _ _ s;rw [<-ao1];refine am3 _ (fun rest r s'=>r.1=none/\s'=s/\∀v∈rest,carriedByValue v=true) _ ?_ ?_ _ _ ⟨rfl,rfl,hi.byValue⟩
 ·rintro v rest r s' ⟨hr,rfl,hall⟩
  rw [eqIsQuiet_byValue _ (hall v ad8)];refine aa2 (aa7 ?_);simp only [ap1,ad9,if_false];exact aa7 ⟨rfl,rfl,fun u hu'=>hall u (ae0 _ hu')⟩
 ·rintro⟨r1,r2⟩ s' ⟨hr,rfl,_⟩
  simp only at hr;subst hr;exact aa7 q
theorem Bc(hk:wj P w s.heap ks a)(q:Q true s):wpAny (model P w) A (eqIsQuiet 8 (.ref a)) Q E s:=by
 have hT:=hk.typeIs;obtain⟨o,items,n,ho,_,hd,hi⟩:=hk;unfold eqIsQuiet;refine aa2 (ak7 hT F.slot_tuple_eq.lookup ?_);show wpAny _ _ (isInstance (.ref a) (.type "tuple") >>= _) _ _ s;refine aa2 (ap2 hT isSubtype_tuple_tuple ?_);simp only [ap1,ad9,if_false];refine aa2 (ae8 ho hd ?_);refine aa2 ?_;show wpAny _ _ (forIn items _ _) _ _ s;rw [<-ao1];refine am3 _ (fun rest r s'=>r.1=none/\s'=s/\∃ks',cU P w s.heap ks' rest) _ ?_ ?_ _ _ ⟨rfl,rfl,ks,hi⟩
 ·rintro v rest r s' ⟨hr,rfl,ks',hall⟩
  cases hall with
  | @cons k _ ks2 _ h1 h2=>
   have go:wpAny (model P w) A (eqIsQuiet 7 v) (fun b s2=>b=true/\s2=s') E s':=by
    cases k with
    | none=>
     have h1:v=.none:=h1;subst h1;rw [eqIsQuiet_byValue _ rfl];exact aa7 ⟨rfl,rfl⟩
    | some c=>
     obtain⟨b,rfl,hb⟩:=h1;exact AH (n:=6) hb ⟨rfl,rfl⟩
   refine aa2 (af5 go (fun b s2 zq0=>?_) fun _ _ x=>x);obtain⟨e1,e2⟩:=zq0;subst e1 e2;simp only [ap1,ad9,if_false];exact aa7 ⟨rfl,rfl,ks2,h2⟩
 ·rintro⟨r1,r2⟩ s' ⟨hr,rfl,_⟩
  simp only at hr;subst hr;exact aa7 q
end
def EI(P:Program)(w:World):HeapKind P w (List (Option (List Int))) where
 is:=wj P w
 hash:=y4 P w
 draws:=uv
 room:=fun A=>A.units+1 < cLine
 inj:=fun hx hy=>hx.inj hy
 keeps:=fun x ho hd hs=>x.keeps ho hd hs
 pyHash:=fun hu hk h=>De hu hk h
 eqBool:=fun hu hx hy h=>FZ hu hx hy h
 quiet:=fun hk h=>Bc hk h
structure KK(P:Program)(w:World)(κ:Type)[DecidableEq κ] where
 knd:HeapKind P w κ
 at_:Hp->κ->Addr->Prop
 same:∀{H H':Hp} {k:κ} {a:Addr},ar H H'->at_ H k a->at_ H' k a
 upd_:∀{H:Hp} {k:κ} {a z:Addr} {o:HO},at_ H k a->(∀vs,H z≠some (.tup vs))->at_ (upd H z o) k a
 is_:∀{H:Hp} {h:Heap} {k:κ} {a:Addr},jC P w H h->at_ H k a->knd.is h k a
 room:∀{A:Around},A.units+2 < cLine->knd.room A.in1
def oG(x:κ×Addr×V)(y:κ×Addr×Value):Prop:=x.1=y.1/\x.2.1=y.2.1/\aS x.2.2 y.2.2
section
variable [DecidableEq κ] (kk:KK P w κ)
def dO(d:Addr)(xs:List (κ×Addr×V)):HO:=.ext fun h=>(d == sysModules)=false/\∃o es ep ys,h.get? d=some o/\o.ExactDict/\o.data=.dict es ep/\es.toList=ys.map (entryOfKey kk.knd)/\Paired oG xs ys
structure bB(H:Hp)(d:Addr)(xs:List (κ×Addr×V)):Prop where
 ob:H d=some (dO kk d xs)
 ks:∀x∈xs,kk.at_ H x.1 x.2.1
 nd:(xs.map (·.1)).Nodup
 sz:xs.length<=100000
def i9(xs:List (κ×Addr×V))(k:κ):Option V:=(xs.find? fun x=>decide (x.1=k)).map (·.2.2)
def eD(xs:List (κ×Addr×V))(k:κ)(a:Addr)(v:V):List (κ×Addr×V):=if (i9 xs k).isSome then xs.map (fun x=>if x.1=k then(x.1,x.2.1,v)else x)else xs++[(k,a,v)]
variable {kk}
theorem bB.same{xs:List (κ×Addr×V)}(h:bB kk H d xs)(s:ar H H'):bB kk H' d xs:=⟨s _ _ h.ob,fun x hx=>kk.same s (h.ks x hx),h.nd,h.sz⟩
theorem Paired.len'{β:Type}{F:α->β->Prop}{l:List α}{m:List β}(h:Paired F l m):l.length=m.length:=Paired.length h
theorem A8{xs:List (κ×Addr×V)}{ys:List (κ×Addr×Value)}(h:Paired oG xs ys):xs.map (·.1)=ys.map (·.1):=by
 induction h with
 | nil=>rfl
 | cons r _ ih=>rw [ad7,ad7,ih,r.1]
theorem qr{xs:List (κ×Addr×V)}{ys:List (κ×Addr×Value)}(h:Paired oG xs ys)(k:κ):(i9 xs k=none/\atKey ys k=none)\/∃v p,i9 xs k=some v/\atKey ys k=some p/\aS v p.2:=by
 induction h with
 | nil=>exact .inl ⟨rfl,rfl⟩
 | @cons x y xs ys r _ ih=>
  unfold i9 atKey at ih |-;rw [aq3,aq3,<-r.1]
  by_cases hk:x.1=k
  ·rw [decide_eq_true hk]
   exact .inr ⟨_,_,rfl,rfl,r.2.2⟩
  ·rw [decide_eq_false hk]
   exact ih
theorem vn{xs:List (κ×Addr×V)}{ys:List (κ×Addr×Value)}(h:Paired oG xs ys){k:κ}{v:V}(r:aS v u):Paired oG (eD xs k a v) (storedH ys k a u):=by
 rcases qr h k with⟨h1,h2⟩ | ⟨v',p,h1,h2,_⟩
 ·rw [storedH_new h2]
  unfold eD;rw [h1];show Paired oG (xs++[(k,a,v)]) (ys++[(k,a,u)]);clear h1 h2
  induction h with
  | nil=>exact .cons ⟨rfl,rfl,r⟩ .nil
  | cons r' _ ih=>exact .cons r' ih
 ·rw [storedH_old h2]
  unfold eD;rw [h1];show Paired oG (xs.map _) (ys.map _);clear h1 h2
  induction h with
  | nil=>exact .nil
  | @cons x y xs ys r' _ ih=>
   rw [ad7,ad7];refine .cons ?_ ih;unfold putAt;rw [<-r'.1]
   by_cases hk:x.1=k
   ·rw [if_pos hk,if_pos hk]
    exact⟨rfl,r'.2.1,r⟩
   ·rw [if_neg hk,if_neg hk]
    exact r'
variable {Z:St} {s:Shared} {xs:List (κ×Addr×V)} {k:κ}
theorem iW(ok:jC P w H h)(D:bB kk H d xs):(d == sysModules)=false/\∃ys,h.DictOfH kk.knd d ys/\Paired oG xs ys:=by
 obtain⟨⟨hd,o,es,ep,ys,ho,hx,hda,he,hp⟩,_⟩:=ok d _ D.ob;refine⟨hd,ys,⟨o,es,ep,ho,hx,hda,he,fun y hy=>?_,by rw [<-A8 hp];exact D.nd⟩,hp⟩
 have:∀(xs:List (κ×Addr×V)) (ys:List (κ×Addr×Value)),Paired oG xs ys->(∀x∈xs,kk.at_ H x.1 x.2.1)->∀y∈ys,kk.at_ H y.1 y.2.1:=by
  intro xs ys h
  induction h with
  | nil=>intro _ y hy;cases hy
  | @cons x y xs ys r _ ih=>
   intro hk y' hy;rcases aa8.mp hy with rfl | hy
   ·have:=hk x (by simp)
    rw [r.1,r.2.1]at this;exact this
   ·exact ih (fun x hx=>hk x (by simp [hx])) y' hy
 exact kk.is_ ok (this xs ys hp D.ks y hy)
theorem aJ.sysB(I:aJ X pins Z H s):sysModules < s.heap.objs.size:=Nat.lt_trans (by decide) (I.mod.glob.keeps I.bk).lt
variable {kk':KK X.prog X.w κ}
theorem vJ{h':Heap}{t':Nat}{v:V}{ys:List (κ×Addr×Value)}(I:aJ X pins Z H s)(D:bB kk' H d xs)(hd:(d == sysModules)=false)(hp:Paired oG xs ys)(r:aS v u)(dd:h'.DictOfH kk'.knd d (storedH ys k a u))(hs:Heap.SameBut d s.heap h'):
  aJ X pins Z (upd H d (dO kk' d (eD xs k a v))) { s with heap:=h',toks:=t' }:=by
 obtain⟨o,es,ep,ho,hx,hda,he,_,_⟩:=dd;refine I.write (x:=d) (e:=d) (by rw [D.ob];trivial) (.inl rfl) (fun b ob hb q=>?_) ⟨o,ho⟩ ⟨⟨hd,o,es,ep,_,ho,hx,hda,he,vn hp r⟩,⟨o,ho⟩,?_⟩
 ·rw [hs.2 b hb]
  exact q
 ·rintro h1 h2 ⟨g1,o',es',ep',ys',ho',r'⟩ keep
  exact⟨g1,o',es',ep',ys',keep _ ho',r'⟩
theorem Es{v:V}{Q:Unit->Shared->Prop}(hu:X.A.units+2 < cLine)(I:aJ X pins Z H s)(D:bB kk' H d xs)(hk:kk'.at_ H k a)(r:aS v u)(q:∀s',aJ X pins Z (upd H d (dO kk' d (eD xs k a v))) s'->Q () s'):
  wpAny (model X.prog X.w) X.A (setItem (.ref d) (.ref a) u) Q E s:=by
 obtain⟨hd,ys,dd,hp⟩:=iW I.hok D
 have hl:ys.length<=sizeLine:=by
  have:=D.sz
  have:=Paired.len' hp
  rw [sizeLine_eq];omega
 exact wpAny_setItem_heap (kk'.room hu) (kk'.is_ I.hok hk) dd (fun h' dd' hs=>q _ (vJ I D hd hp r dd' hs)) hl
theorem Er(hu:X.A.units+2 < cLine)(I:aJ X pins Z H s)(D:bB kk' H d xs)(hk:kk'.at_ H k a)(q:∀t,Q (i9 xs k).isSome { s with toks:=t }):
  wpAny (model X.prog X.w) X.A (contains (.ref d) (.ref a)) Q E s:=by
 obtain⟨hd,ys,dd,hp⟩:=iW I.hok D;unfold contains
 try with_reducible refine ae2 ?_
 refine aa2 (ak7 dd.typeIs slot_dict_contains.lookup ?_);show wpAny _ _ (if (some (Value.builtin "dict.__contains__") == some Value.none)=true then _ else _) _ E s;rw [if_neg (by rw [beq_builtin_none];exact aa6)]
 refine aa2 (wpAny_callSpecialUnlessNone?_slot (name:=Str.ofString "__contains__") dd.typeIs slot_dict_contains
  (ag5 slot_dict_contains dd.typeIs entry_dict_contains ?_ (args_dict_contains _ _)))
 show wpAny _ _ (dictGet d (.ref a) >>= _) _ _ s;refine aa2 (wpAny_dictGet_heap (kk'.room hu) (kk'.is_ I.hok hk) dd ?_);rcases qr hp k with⟨h1,h2⟩ | ⟨v,p,h1,h2,_⟩
 ·rw [h2]
  rw [h1]at q;show wpAny _ _ (Builtin.Dict.pendingKey? d (.ref a) >>= _) _ _ _;exact aa2 (wpAny_pendingKey_other hd (aa7 ⟨_,rfl,ae1 (q _)⟩))
 ·rw [h2]
  rw [h1]at q;show wpAny _ _ (ret (.bool true)) _ _ _;exact aa7 ⟨_,rfl,ae1 (q _)⟩
def BS(kk:KK P w κ):R2:=fun x y H Q=>∃d a k xs,x=.ref a/\y=.ref d/\bB kk H d xs/\kk.at_ H k a/\Q (.bl (!(i9 xs k).isSome)) H
theorem zh(hu:X.A.units+2 < cLine):cX X (compareOp .NotIn) (BS kk'):=by
 intro pins s Z H x y v u Q I rx ry h;obtain⟨d,a,k,xs,rfl,rfl,D,hk,q⟩:=h;cases rx;cases ry;show wpAny _ _ (do return Value.bool (!(<-contains (.ref d) (.ref a))):Sem Value) _ _ s;exact aa2 (Er hu I D hk fun t=>aa7 ⟨.bl (!(i9 xs k).isSome),H,I.tok t,rfl,q⟩)
def F4(kk:KK P w κ):R2:=fun x y H Q=>∃d a k xs v,x=.ref d/\y=.ref a/\bB kk H d xs/\kk.at_ H k a/\i9 xs k=some v/\Q v H
theorem ixD(hu:X.A.units+2 < cLine):xR X (F4 kk'):=by
 intro value slice pins s Z H x y v u Q I rx ry h hs;obtain⟨d,a,k,xs,z,rfl,rfl,D,hk,hv,q⟩:=h;cases rx;cases ry;obtain⟨hd,ys,dd,hp⟩:=iW I.hok D;have hT:s.TypeIs (.ref d) "dict":=dd.typeIs;rcases qr hp k with⟨h1,_⟩ | ⟨v',p,h1,h2,r⟩
 ·rw [h1]at hv;cases hv
 rw [h1]at hv;cases hv;unfold subscriptTail;refine aa2 ?_;rw [getitemInPython_of_ne hT.not_modules];refine aa2 (ak7 hT PySem.F.slot_dict_getitem.lookup ?_)
 have fin:wpAny (model X.prog X.w) X.A (subscripted slice false (.ref d) (.ref a)) (fun r Zn=>wpAny (model X.prog X.w) X.A (letTemporaryGo value (.ref d) r >>= fun _=>pure r) (EP X pins Z Q) X.xe Zn) X.xe s:=by
  rw [hs];exact wpAny_operating (wpAny_getItem_heap (kk'.room hu) (kk'.is_ I.hok hk) dd h2 (aa2 (wpAny_letTemporaryGo (aa7 ⟨z,H,I.tok _,r,q⟩))))
 first
  | exact aa7 (aa2 fin)
  | exact aa2 (aa7 (aa2 fin))
  | exact aa2 fin
def E9(kk:KK P w κ):AB:=fun o i v H Q=>∃d a k xs,o=.ref d/\i=.ref a/\bB kk H d xs/\kk.at_ H k a/\Q (upd H d (dO kk d (eD xs k a v)))
theorem Fc(hu:X.A.units+2 < cLine):CM X (E9 kk'):=by
 intro pins s Z H o i v ov iv u Q I ro ri rv h;obtain⟨d,a,k,xs,rfl,rfl,D,hk,q⟩:=h;cases ro;cases ri;exact Es hu I D hk rv fun s' I'=>⟨_,I',q⟩
def CB(kk:KK P w κ):V->List V->Hp->VK->Prop:=fun x vs H Q=>∃d a k xs,x=.ref d/\vs=[.ref a]/\bB kk H d xs/\kk.at_ H k a/\Q ((i9 xs k).getD .non) H
theorem Ba(hu:X.A.units+2 < cLine):Az X "dict.get" (CB kk'):=by
 intro pins s Z H x vs v us Q I rx rv h;obtain⟨d,a,k,xs,rfl,rfl,D,hk,q⟩:=h;cases rx;obtain⟨u,rfl,ru⟩:=rv.one;cases ru;obtain⟨hd,ys,dd,hp⟩:=iW I.hok D;refine call_meetsIn PySem.F.slot_dict_get dd.typeIs PySem.F.entry_dict_get (PySem.F.args_dict_get_2 _ _) (meetsH_dict_get kk'.knd d a hd) ⟨kk'.room hu,k,ys,kk'.is_ I.hok hk,dd,?_⟩;rcases qr hp k with⟨h1,h2⟩ | ⟨v',p,h1,h2,r⟩
 ·rw [h1]at q
  rw [h2];exact⟨.non,H,I.tok _,rfl,q⟩
 ·rw [h1]at q
  rw [h2];exact⟨v',H,I.tok _,r,q⟩
def CF(kk:KK P w κ)(to:TE)(t:TA):TE:=fun Z H Q=>to Z H fun x H1=>(∃d xs,x=.ref d/\bB kk H1 d xs)/\t Z H1 fun vs H2=>CB kk x vs H2 Q
theorem Bz{o:Expr}{to:TE}(hu:X.A.units+2 < cLine)(ho:PE X o to)(ha:PA X [e] t)(hbase:attributeBase o "get" X.env (eval o X.env)=eval o X.env:=by rfl)
  (hfew:((backTo cpos (starEach [e] X.env)).all (fun x=>!x.1) && (backToKw cpos (keywordEach [] X.env)).all (fun x=>x.1.isSome)
   && decide (([e]:List Expr).length+([]:List Keyword).length+(if ([]:List Keyword).isEmpty then 0 else 1) < 30))=true:=by rfl)
  (hline:(apos.endLine == cpos.line)=true:=by rfl) (hs:starEach [e] X.env=(false,eval e X.env)::starEach [] X.env:=by rfl) (hplain:(backTo cpos (starEach [] X.env)).any (·.1)=false:=by rfl) :
  PE X (.Call (.Attribute o "get" apos) [e] [] cpos) (CF kk' to t):=by
 intro pins s Z H Q I h;refine wpAny_Call_method_late hbase hfew hline rfl (ck (ho pins s Z H _ I h) fun v s1 zq0=>?_);obtain⟨x,H1,I1,r1,⟨d,xs,ex,D⟩,q1⟩:=zq0;subst ex;cases r1;obtain⟨_,ys,dd,_⟩:=iW I1.hok D;refine⟨"dict","dict.get",PySem.F.plainAttrs_dict,PySem.F.slot_dict_get,PySem.F.type_dict_get,dd.typeIs,fun a e=>?_,?_⟩
 ·cases e
  obtain⟨ob,_,_,h1,h2,_⟩:=dd;exact⟨ob,h1,h2.2.1⟩
 have hA:=ha cpos pins s1 Z H1 _ I1 q1;rw [hs]at hA |-
 refine Calls.callWith_builtin (by show(false || (backTo cpos (starEach [] X.env)).any (·.1))=false;rw [hplain]<;>rfl) (Calls.evalArgs_plain ?_)
 exact ck hA fun us s2 ⟨vs,H2,I2,r2,q2⟩=>Ba hu pins s2 Z H2 (.ref d) vs _ us Q I2 rfl r2 q2
theorem yd(kk:KK P w κ)(hb:sysModules < h.objs.size):dh P w H (h.push { cls:=.type "dict",data:=.dict #[] }) h.objs.size (dO kk h.objs.size []):=by
 refine⟨⟨beq_eq_false_iff_ne.mpr (Ne.symm (ac6 hb)),_,#[],0,[],ab3 _ rfl,⟨rfl,rfl,rfl⟩,rfl,rfl,.nil⟩,⟨_,ab3 _ rfl⟩,?_⟩;rintro h1 h2 ⟨g1,o',es',ep',ys',ho',r'⟩ keep;exact⟨g1,o',es',ep',ys',keep _ ho',r'⟩
def Ag(kk:KK P w κ):TE:=fun _ H Q=>∀p,H p=none->Q (.ref p) (upd H p (dO kk p []))
theorem BD:PE X (.Dict [] [] pos) (Ag kk'):=fun pins s Z H Q I h=>
 wpAny_Dict_empty ⟨.ref s.heap.objs.size,_,I.laid (a:=s.heap.objs.size) (o:=dO kk' s.heap.objs.size []) (t':=s.toks) (fun _ _ q=>aa4 _ q) (aa9 _) (yd kk' I.sysB),rfl,h _ (I.hok.fresh (aa9 _))⟩
def CH(kk:KK P w κ)(tk tv:TE):TE:=fun Z H Q=>∀p,H p=none->tk Z (upd H p (dO kk p [])) fun x H1=>tv Z H1 fun v H2=>H2 p=some (dO kk p [])/\∃a k,x=.ref a/\kk.at_ H2 k a/\Q (.ref p) (upd H2 p (dO kk p [(k,a,v)]))
theorem BE{e1 e2:Expr}{tk tv:TE}(hu:X.A.units+2 < cLine)(h1:PE X e1 tk)(h2:PE X e2 tv)(hr:∀{B:Around},B.units=X.A.units->kk'.knd.room B):PE X (.Dict [some e1] [e2] pos) (CH kk' tk tv):=by
 intro pins s Z H Q I h;have hn:=I.hok.fresh (aa9 s.heap.objs.size);have I1:=I.laid (a:=s.heap.objs.size) (o:=dO kk' s.heap.objs.size []) (h':=s.heap.push { cls:=.type "dict",data:=.dict #[] }) (t':=s.toks) (fun _ _ q=>aa4 _ q) (aa9 _) (yd kk' I.sysB);rw [arm_eval_Dict,zip_pairTrees [some e1] [e2] X.env pos rfl rfl,dictDisplay_pairs (pairTrees [some e1] [e2] X.env pos) (by simp [pairTrees]) (by simp [pairTrees])];refine aa2 (am5 (aa2 ?_));unfold subDict;refine aa2 (wpAny_alloc ?_);refine aa2 (ae2 ?_);rw [if_pos (by simp [pairTrees])];refine aa2 (pairTrees_cons_walk (ck (h1 pins _ Z _ _ I1 (h _ hn)) fun u s1 ⟨x,H1,I1,rx,q1⟩=>ck (h2 pins s1 Z H1 _ I1 q1) fun w2 s2 ⟨v,H2,I2,rv,hob,a,k,ex,hk,q2⟩=>pairTrees_nil_walk ?_));subst ex;cases rx;have D:bB kk' H2 s.heap.objs.size []:=⟨hob,(fun _ z=>nomatch z),List.nodup_nil,ad3 _⟩;obtain⟨hd,ys,dd,hp⟩:=iW I2.hok D;cases hp;refine ae2 ?_;refine aa2 ?_;rw [af7];refine aa2 (aa2 (wpAny_dictSet_heap (hr rfl) (kk'.is_ I2.hok hk) dd (fun h' dd' hs=>aa7 ?_) (ad3 _)));show wpAny _ _ (forIn [] _ _) _ _ _;rw [aj8];exact aa7 (aa7 (aa7 (aa7 ⟨.ref s.heap.objs.size,_,vJ I2 D hd .nil rv dd' hs,rfl,q2⟩)))
end
theorem sr:∀{c:List Int} {its:List Value},aQ (c.map V.int) its->ItemsAre (intKind P w) c its
 | [],_,r=>by cases r;exact .nil
 | i::c,_,r=>by
  rw [ad7]at r
  cases r with
  | cons r rr=>
   obtain⟨t,rfl⟩:=r;exact .cons (by show Value.isInt i (.int i t)=true;simp [Value.isInt]) (sr rr)
theorem yG(ok:jC P w H h)(e:H a=some (.tup (c.map V.int))):xQ P w h c a:=by
 obtain⟨_,its,r,o,ho,hc,n,hd⟩:=ok a _ e;exact⟨o,its.toArray,n,ho,hc,hd,sr (by simpa using r)⟩
def AG(P:Program)(w:World):KK P w (List Int) where
 knd:=Eo P w
 at_:=fun H c a=>H a=some (.tup (c.map V.int))
 same:=fun s h=>s _ _ h
 upd_:=fun h hz=>by rw [aj (fun e=>hz _ (by rw [<-e];exact h))];exact h
 is_:=fun ok e=>yG ok e
 room:=fun hu=>by show _+1 < cLine;omega
def m9(H:Hp):Option (List Int)->V->Prop
 | none,v=>v=.non
 | some c,v=>∃a,v=.ref a/\H a=some (.tup (c.map V.int))
def Eb(H:Hp):List (Option (List Int))->List V->Prop
 | [],[]=>True
 | k::ks,v::vs=>m9 H k v/\Eb H ks vs
 | _,_=>False
theorem m9.imp{k:Option (List Int)}{v:V}(f:∀a c,H a=some (.tup (List.map V.int c))->H' a=some (.tup (List.map V.int c)))(h:m9 H k v):m9 H' k v:=by
 cases k with
 | none=>exact h
 | some c=>obtain⟨a,e,ha⟩:=h;exact⟨a,e,f a c ha⟩
theorem Eb.imp(f:∀a c,H a=some (.tup (List.map V.int c))->H' a=some (.tup (List.map V.int c))):∀{ks:List (Option (List Int))} {vs:List V},Eb H ks vs->Eb H' ks vs
 | [],[],_=>True.intro
 | _::_,_::_,⟨h1,h2⟩=>⟨h1.imp f,h2.imp f⟩
theorem pP(ok:jC P w H h):∀{ks:List (Option (List Int))} {vs:List V} {its:List Value},Eb H ks vs->aQ vs its->cU P w h ks its
 | [],[],_,_,r=>by cases r;exact .nil
 | k::ks,v::vs,_,⟨h1,h2⟩,r=>by
  cases r with
  | cons r rr=>
   refine .cons ?_ (pP ok h2 rr)
   cases k with
   | none=>
    have h1:v=.non:=h1;subst h1;exact r
   | some c=>
    obtain⟨a,rfl,ha⟩:=h1;exact⟨a,r,yG ok ha⟩
def g9(P:Program)(w:World):KK P w (List (Option (List Int))) where
 knd:=EI P w
 at_:=fun H ks a=>∃vs,H a=some (.tup vs)/\Eb H ks vs
 same:=fun s ⟨vs,e,h⟩=>⟨vs,s _ _ e,h.imp fun _ _ z=>s _ _ z⟩
 upd_:=fun {H k a z o} ⟨vs,e,h⟩ hz=>by
  have f:∀b ws,H b=some (.tup ws)->upd H z o b=some (.tup ws):=fun b ws hb=>by rw [aj (fun q=>hz _ (by rw [<-q];exact hb))];exact hb
  exact⟨vs,f _ _ e,h.imp fun _ _ q=>f _ _ q⟩
 is_:=fun {H h k a} ok ⟨vs,e,hn⟩=>by
  obtain⟨_,its,r,o,ho,hc,n,hd⟩:=ok a _ e;exact⟨o,its.toArray,n,ho,hc,hd,by simpa using pP ok hn r⟩
 room:=fun hu=>by show _+1+1 < cLine;omega
theorem Df{B:Around}(hu:A.units+2 < cLine)(e:B.units=A.units):(g9 P w).knd.room B:=by show B.units+1 < cLine;omega
theorem ee(hr:dy k A):A.units+2 < cLine:=ad2 (Nat.add_le_add_left (by decide:2<=64) _) hr.units
section
variable [DecidableEq κ] {kk:KK P w κ} {xs:List (κ×Addr×V)} {k:κ} {v:V}
theorem xw:(eD xs k a v).map (·.1)=if (i9 xs k).isSome then xs.map (·.1)else xs.map (·.1)++[k]:=by
 unfold eD
 split
 ·rw [ai0]
  refine ak5 fun x _=>?_;show(if x.1=k then(x.1,x.2.1,v)else x).1=x.1
  split<;>rfl
 ·rw [ab4];rfl
theorem qq(h:i9 xs k=none):k∉xs.map (·.1):=by
 intro hm;obtain⟨x,hx,rfl⟩:=ac0.mp hm;unfold i9 at h
 cases e:xs.find? fun y=>decide (y.1=x.1)with
 | none=>exact absurd (List.find?_eq_none.mp e x hx) (by simp)
 | some y=>rw [e]at h;cases h
theorem bB.put(D:bB kk H d xs)(hk:kk.at_ H k a)(hl:xs.length < 100000):bB kk (upd H d (dO kk d (eD xs k a v))) d (eD xs k a v):=by
 have nt:∀vs,H d≠some (.tup vs):=fun vs e=>by rw [D.ob]at e;cases e
 refine⟨ag,fun x hx=>?_,?_,?_⟩
 ·refine kk.upd_ ?_ nt
  unfold eD at hx
  split at hx
  ·obtain⟨y,hy,rfl⟩:=ac0.mp hx
   have:=D.ks y hy
   show kk.at_ H (if y.1=k then(y.1,y.2.1,v)else y).1 (if y.1=k then(y.1,y.2.1,v)else y).2.1
   split<;>exact this
  ·rcases ac9.mp hx with hx | hx
   ·exact D.ks x hx
   ·rw [ab6.mp hx];exact hk
 ·rw [xw]
  cases e:i9 xs k with
  | none=>
   show(xs.map (·.1)++[k]).Nodup
   refine ao6.mpr ⟨D.nd,by simp,fun x hx y hy=>?_⟩;rw [ab6.mp hy];rintro rfl;exact qq e hx
  | some z=>exact D.nd
 ·unfold eD
  split
  ·rw [aa0];omega
  ·rw [ab2];simp;omega
theorem bB.upd{z:Addr}{o:HO}(D:bB kk H d xs)(hz:d≠z)(nt:∀vs,H z≠some (.tup vs)):bB kk (upd H z o) d xs:=⟨by rw [aj hz];exact D.ob,fun x hx=>kk.upd_ (D.ks x hx) nt,D.nd,D.sz⟩
theorem jQ:i9 (eD xs k a v) k=some v:=by
 unfold eD
 cases e:i9 xs k with
 | none=>
  show i9 (xs++[(k,a,v)]) k=some v;unfold i9 at e |-;rw [List.find?_append]
  cases e2:xs.find? fun x=>decide (x.1=k)with
  | some y=>rw [e2]at e;cases e
  | none=>simp
 | some z=>
  show i9 (xs.map _) k=some v;have e0:=e;unfold i9 at e0 |-;rw [List.find?_map]
  have hf:(fun x:κ×Addr×V=>decide (x.1=k))∘(fun x=>if x.1=k then(x.1,x.2.1,v)else x)=fun x=>decide (x.1=k):=by
   funext x
   show decide ((if x.1=k then(x.1,x.2.1,v)else x).1=k)=decide (x.1=k)
   split<;>rfl
  rw [hf]
  cases e2:xs.find? fun x=>decide (x.1=k)with
  | none=>rw [e2]at e0;cases e0
  | some y=>
   have:y.1=k:=by have:=List.find?_some e2;simpa using this
   show some ((if y.1=k then(y.1,y.2.1,v)else y).2.2)=some v;rw [if_pos this]
theorem gF{k':κ}(h:k'≠k):i9 (eD xs k a v) k'=i9 xs k':=by
 unfold eD
 split
 ·unfold i9
  rw [List.find?_map]
  have hf:(fun x:κ×Addr×V=>decide (x.1=k'))∘(fun x=>if x.1=k then(x.1,x.2.1,v)else x)=fun x=>decide (x.1=k'):=by
   funext x
   show decide ((if x.1=k then(x.1,x.2.1,v)else x).1=k')=decide (x.1=k')
   split<;>rfl
  rw [hf]
  cases e2:xs.find? fun x=>decide (x.1=k')with
  | none=>rfl
  | some y=>
   have hy:y.1=k':=by have:=List.find?_some e2;simpa using this
   show some ((if y.1=k then(y.1,y.2.1,v)else y).2.2)=some y.2.2;rw [if_neg (by rw [hy];exact h)]
 ·unfold i9
  rw [List.find?_append]
  cases e2:xs.find? fun x=>decide (x.1=k')with
  | some y=>rfl
  | none=>
   have:decide (k=k')=false:=decide_eq_false (fun z=>h z.symm)
   simp [this]
end
def rB:List (Option Int)->Option (List Int)
 | []=>some []
 | none::_=>none
 | some x::l=>(rB l).map (x::·)
theorem lI:∀{l:List (Option Int)} {r:List Int},l=r.map some->rB l=some r
 | [],[],_=>rfl
 | [],_::_,h=>by cases h
 | x::l,[],h=>by cases h
 | x::l,y::r,h=>by
  rw [ad7]at h;cases h
  show(rB (r.map some)).map (y::·)=_
  rw [lI rfl];rfl
theorem lH:∀{l:List (Option Int)} {i:Nat},l[i]?=some none->rB l=none
 | [],_,h=>by cases h
 | none::_,_,_=>rfl
 | some x::l,0,h=>by cases h
 | some x::l,i+1,h=>by
  show(rB l).map (x::·)=none
  rw [lH (l:=l) (i:=i) h];rfl
def kh(Ss:List bO)(ms:List Int)(b:Option (List Int))(c:List Int):List (Option Int):=List.zipWith (fun S m=>S.after m b c) Ss ms
def eA(Ss:List bO)(ms:List Int)(b:Option (List Int))(c:List Int):Option (List Int):=rB (kh Ss ms b c)
def bY(Ss:List bO)(ms:List Int)(b:Option (List Int)):Bool:=(List.zipWith (fun S m=>S.closes m b) Ss ms).all id
abbrev MS:=Option (List Int)×List Int
variable {met:List MS} {s:MS}
def cg(Ss:List bO)(s:MS)(c:List Int):Option MS:=(eA Ss s.2 s.1 c).map fun ms=>(some c,ms)
def bP(s:MS):List (Option (List Int)):=[s.1,some s.2]
theorem pQ{t:MS}(h:bP s=bP t):s=t:=by
 obtain⟨a,b⟩:=s;obtain⟨c,d⟩:=t;unfold bP at h;simp at h;rw [h.1,h.2]
def dF(Ss:List bO)(cols:List (List Int))(met:List MS)(s:MS)(xs:List (List Int×Addr×V)):Prop:=
 (∀c∈cols,∀s',cg Ss s c=some s'->∃j:Nat,met[j]?=some s'/\i9 xs c=some (.int j))/\(∀c,(c∈cols->cg Ss s c=none)->i9 xs c=none)/\xs.map (·.1)=cols.filter fun c=>(cg Ss s c).isSome
theorem dF.more(h:dF Ss cols met s xs)(t:List MS):dF Ss cols (met++t) s xs:=
 ⟨fun c hc s' e=>let ⟨j,h1,h2⟩:=h.1 c hc s' e;⟨j,by rw [ab5 (aa3.mp h1).1];exact h1,h2⟩,h.2⟩
theorem dF.put{s':MS}(h:dF Ss (cols.take i) met s xs)(hc:cols[i]?=some c)(hn:cg Ss s c=some s')(hj:met[j]?=some s')(hnd:cols.Nodup):dF Ss (cols.take (i+1)) met s (eD xs c a (.int j)):=by
 have et:cols.take (i+1)=cols.take i++[c]:=by rw [ac1,hc];rfl
 rw [et]
 have hct:c∉cols.take i:=fun hm=>by
  obtain⟨k,hk⟩:=ae5 hm
  have hki:k < i:=by
   have:=(aa3.mp hk).1
   rw [ac3]at this;omega
  rw [aj0,if_pos hki]at hk;obtain⟨k1,k2⟩:=aa3.mp hk;obtain⟨i1,i2⟩:=aa3.mp hc
  have:=(List.getElem_inj hnd).mp (k2.trans i2.symm)
  omega
 refine⟨?_,?_,?_⟩
 rotate_left
 rotate_left
 ·have h0:=h.2.1 c fun hm=>absurd hm hct
  unfold eD;rw [h0,ao2,<-h.2.2];simp [hn]
 ·intro c' hc' t ht
  by_cases e:c'=c
  ·subst e
   rw [hn]at ht;cases ht;exact⟨j,hj,jQ⟩
  ·rcases ac9.mp hc' with hc' | hc'
   ·rw [gF e]
    exact h.1 c' hc' t ht
   ·exact absurd (ab6.mp hc') e
 ·intro c' hc'
  have e:c'≠c:=fun e=>by
   have:=hc' (by rw [e];simp)
   rw [e,hn]at this;cases this
  rw [gF e];exact h.2.1 c' fun hm=>hc' (by simp [hm])
theorem dF.skip(h:dF Ss (cols.take i) met s xs)(hc:cols[i]?=some c)(hn:cg Ss s c=none):dF Ss (cols.take (i+1)) met s xs:=by
 have et:cols.take (i+1)=cols.take i++[c]:=by rw [ac1,hc];rfl
 rw [et];refine⟨?_,?_,?_⟩
 ·intro c' hc' t ht
  rcases ac9.mp hc' with hc' | hc'
  ·exact h.1 c' hc' t ht
  ·rw [ab6.mp hc',hn]at ht
   cases ht
 ·intro c' hc'
  refine h.2.1 c' fun hm=>hc' (by simp [hm])
 ·rw [ao2,<-h.2.2]
  simp [hn]
def jJ(met:List MS)(xs:List (List (Option (List Int))×Addr×V)):Prop:=(∀(j:Nat) (s:MS),met[j]?=some s->i9 xs (bP s)=some (.int j))/\∀k,i9 xs k≠none->∃s∈met,k=bP s
theorem jJ.fresh{xs:List (List (Option (List Int))×Addr×V)}(h:jJ met xs)(e:i9 xs (bP s)=none):s∉met:=fun hs=>by
 obtain⟨j,hj⟩:=ae5 hs;rw [h.1 j s hj]at e;cases e
theorem jJ.known{xs:List (List (Option (List Int))×Addr×V)}(h:jJ met xs)(e:i9 xs (bP s)≠none):∃j:Nat,met[j]?=some s/\i9 xs (bP s)=some (.int j):=by
 obtain⟨t,ht,e2⟩:=h.2 _ e;cases pQ e2;obtain⟨j,hj⟩:=ae5 ht;exact⟨j,hj,h.1 j s hj⟩
theorem jJ.put{xs:List (List (Option (List Int))×Addr×V)}(h:jJ met xs)(hs:s∉met):jJ (met++[s]) (eD xs (bP s) a (.int met.length)):=by
 constructor
 ·intro j t ht
  by_cases hj:j < met.length
  ·rw [ab5 hj]at ht
   have hne:bP t≠bP s:=fun e=>hs (by rw [<-pQ e];exact ac5 ht);rw [gF hne];exact h.1 j t ht
  ·rw [ac4 (by omega)]at ht
   have h0:j - met.length=0:=by
    have:=(aa3.mp ht).1
    simp at this;omega
   rw [h0]at ht;cases ht;rw [jQ,show j=met.length by omega]
 ·intro k hk
  by_cases e:k=bP s
  ·exact⟨s,by simp,e⟩
  ·rw [gF e]at hk
   obtain⟨t,ht,e2⟩:=h.2 k hk;exact⟨t,by simp [ht],e2⟩
theorem nu[DecidableEq α]:∀(l u:List α),l.Nodup->(∀x∈l,x∈u)->l.length<=u.length
 | [],_,_,_=>ad3 _
 | x::l,u,h,hs=>by
  have hx:=hs x (by simp);have hn:=aj2.mp h
  have:=nu l (u.erase x) hn.2 fun y hy=>(List.mem_erase_of_ne (fun e=>hn.1 (by rw [<-e];exact hy))).mpr (hs y (by simp [hy]))
  rw [List.length_erase_of_mem hx]at this
  have:0 < u.length:=List.length_pos_of_mem hx
  rw [ad1];omega
structure vD(Ss:List bO)(cols:List (List Int))(met:List MS):Prop where
 nd:met.Nodup
 st:met[0]?=some (none,Ss.map (·.start))
 sub:∀(i:Nat) (s:MS),met[i]?=some s->0 < i->∃(j:Nat) (t:MS) (c:List Int),j < i/\met[j]?=some t/\c∈cols/\cg Ss t c=some s
theorem Fm{c:TT}{Z:L2.St}{X Y:Hp->Prop}(h:∀A B:Hp->Prop,(∀H,X H->A H)->(∀H,Y H->B H)->c Z H fun b H1=>if b=true then A H1 else B H1):c Z H fun b H1=>if b=true then X H1 else Y H1:=h X Y (fun _ x=>x) fun _ x=>x
def xZ(zs:List Addr)(H H':Hp):Prop:=∀b o,b∉zs->H b=some o->H' b=some o
section
variable {it:Addr} {es:Array DictEntry} {ep:Nat}
end
section
variable {es:Array DictEntry} {ep:Nat}
end
section
variable [DecidableEq κ]
def DR(kk:KK P w κ)(to:TE):TE:=fun Z H Q=>to Z H fun x H1=>∃d xs,x=.ref d/\bB kk H1 d xs/\∀(p:Addr) (ts:List Addr) (H2:Hp),H1 p=none->H2 p=some (.lst (ts.map V.ref))->ts.length=xs.length->(∀(j:Nat) (t:Addr) (e:κ×Addr×V),ts[j]?=some t->xs[j]?=some e->H1 t=none/\H2 t=some (.tup [.ref e.2.1,e.2.2]))->ar H1 H2->Q (.ref p) H2
variable {kk':KK X.prog X.w κ}
end
def Itv(K:Frag)(a:Addr)(n:Nat):It:=
 ⟨fun i H=>∃xs x,aL K H a xs/\xs.length=n/\i < n/\xs[n - 1 - i]?=some x,fun i H x H'=>H'=H/\∀xs,aL K H a xs->xs[n - 1 - i]?=some x,fun i _=>n<=i⟩
def Ey(K:Frag)(ta:TA):TI:=fun Z H R=>ta Z H fun vs H1=>∃a xs,vs=[.ref a]/\aL K H1 a xs/\R (Itv K a xs.length) H1
section
variable {s:Shared} {r l:Addr} {items:Array Value}
end
def Ae(K:Frag)(ta:TA):TE:=fun Z H Q=>ta Z H fun vs H1=>∃a xs,vs=[.ref a]/\aL K H1 a xs/\∀l,H1 l=none->Q (.ref l) (upd H1 l (.lst xs.reverse))
section
variable {f B fI L:Addr} {fd:FuncData} {ps qs:List Str} {sp sq:Sp} {no:List Str} {x y n r:Str} {np hpos rp rn spos:Pos} {ie ir:Nat}
end
end L2
namespace L3
open PySem PySem.Spec PyProof.Rows
section
variable {prog:Program} {w:World} {A:Around} {E:Value->Shared->Prop} {s:Shared} {e z TI TO i1 i2:Addr} {f1 f2:List Addr} {n1 n2 k:Nat} {P1 P2:Nat->Value->Prop} {S1 S2:Nat->Heap->Prop} {a b old:Value}
end
end L3
namespace L2
open PySem PySem.Spec PyProof.Rows
def FI(K:Frag)(l1 l2:Bool)(a1 a2:Addr):It:=
 ⟨fun i H=>∃xs ys x y,gp K l1 H a1 xs/\gp K l2 H a2 ys/\xs[i]?=some x/\ys[i]?=some y,
  fun i H v H'=>∃p q x y,v=.ref p/\H q=none/\H p=none/\p≠q/\H'=upd (upd H q (.tup [x,y])) p (.tup [.int i,.ref q])/\(∀xs,gp K l1 H a1 xs->xs[i]?=some x)/\∀ys,gp K l2 H a2 ys->ys[i]?=some y,
  fun i H=>∃xs ys,gp K l1 H a1 xs/\gp K l2 H a2 ys/\(i=xs.length\/(i < xs.length/\i=ys.length))⟩
def CW(K:Frag)(ta:TA):TI:=fun Z H R=>ta Z H fun vs H1=>∃l1 l2 a1 a2,vs=[.ref a1,.ref a2]/\(∃xs,gp K l1 H1 a1 xs)/\(∃ys,gp K l2 H1 a2 ys)/\R (FI K l1 l2 a1 a2) H1
end L2
seal PySem.wpAny
namespace K94
open PySem PyProof.Rows L2
local macro_rules | `(tactic| walk_at "s") => `(tactic| exact ⟨rfl, rfl, rfl, by decide +kernel, rfl, by decide +kernel, by decide +kernel⟩)
variable {B:Nat->Bool} {C Cs f l q t x z:Addr} {D us:List Int} {Dt:List (Str×V)} {Gs:List (Int->Prop)} {H H':Hp} {In:Addr->Str->Hp->Prop} {K:Frag} {P:Program} {Q:VK} {RIn:pE} {Ss:List bO} {a m u x1 x2 x3 x4:Int} {b:Int×Int} {base:Heap} {bs:List (Int×Int)} {cols:List (List Int)} {fd:FuncData} {i j k n nv:Nat} {met:List MS} {mg:Str->Option Value} {o:Option (Int×Int)} {ps:List Addr} {row:Str} {w:World} {ws:List Str} {xs ys:List V} {α β:Type}
theorem Fl{us:List α}(h:us.length=n+1):∃x r,us=x::r/\r.length=n:=by
 cases us with
 | nil=>cases h
 | cons x r=>exact⟨x,r,rfl,Nat.succ.inj h⟩
theorem Fy{us:List α}(h:us.length=1):∃x,us=[x]:=List.length_eq_one_iff.mp h
theorem Gq{us:List α}(h:us.length=2):∃x0 x1,us=[x0,x1]:=by
 obtain⟨x0,r,rfl,hh⟩:=Fl h;obtain⟨x1,rfl⟩:=Fy hh;exact⟨x0,x1,rfl⟩
theorem Gf{us:List α}(h:us.length=3):∃x0 x1 x2,us=[x0,x1,x2]:=by
 obtain⟨x0,r,rfl,hh⟩:=Fl h;obtain⟨x1,x2,rfl⟩:=Gq hh;exact⟨x0,x1,x2,rfl⟩
theorem Gr{us:List α}(h:us.length=4):∃x0 x1 x2 x3,us=[x0,x1,x2,x3]:=by
 obtain⟨x0,r,rfl,hh⟩:=Fl h;obtain⟨x1,x2,x3,rfl⟩:=Gf hh;exact⟨x0,x1,x2,x3,rfl⟩
theorem Gu{us:List α}(h:us.length=5):∃x0 x1 x2 x3 x4,us=[x0,x1,x2,x3,x4]:=by
 obtain⟨x0,r,rfl,hh⟩:=Fl h;obtain⟨x1,x2,x3,x4,rfl⟩:=Gr hh;exact⟨x0,x1,x2,x3,x4,rfl⟩
theorem us6{us:List α}(h:us.length=6):∃x0 x1 x2 x3 x4 x5,us=[x0,x1,x2,x3,x4,x5]:=by
 obtain⟨x0,r,rfl,hh⟩:=Fl h;obtain⟨x1,x2,x3,x4,x5,rfl⟩:=Gu hh;exact⟨x0,x1,x2,x3,x4,x5,rfl⟩
local macro_rules | `(tactic| walk_at "b1") => `(tactic| exact fun _ _ _ _ _ _ us hl => by obtain ⟨_, h⟩ := Fy hl; subst h; rfl)
local macro_rules | `(tactic| walk_at "b2") => `(tactic| exact fun _ _ _ _ _ _ us hl => by obtain ⟨_, _, h⟩ := Gq hl; subst h; rfl)
local macro_rules | `(tactic| walk_at "b3") => `(tactic| exact fun _ _ _ _ _ _ us hl => by obtain ⟨_, _, _, h⟩ := Gf hl; subst h; rfl)
local macro_rules | `(tactic| walk_at "b4") => `(tactic| exact fun _ _ _ _ _ _ us hl => by obtain ⟨_, _, _, _, h⟩ := Gr hl; subst h; rfl)
local macro_rules | `(tactic| walk_at "b5") => `(tactic| exact fun _ _ _ _ _ _ us hl => by obtain ⟨_, _, _, _, _, h⟩ := Gu hl; subst h; rfl)
local macro_rules | `(tactic| walk_at "b6") => `(tactic| exact fun _ _ _ _ _ _ us hl => by obtain ⟨_, _, _, _, _, _, h⟩ := us6 hl; subst h; rfl)
theorem bM{X:Cx}{x:Str}{e:Expr}{te:TE}{py spos:Pos}(hN:X.N.Nodup)(he:PE X e te)(hix:X.N[i]?=some x:=by rfl)(hx:X.env.scope.names.lookup x=some .local:=by rfl)(hs:swapsWith e (some (.Name x py)) spos.line X.env=pure false:=by rfl):PS X (.Assign [.Name x py] e spos) (vo te (g8 i)):=zw hN hix (.inl hx) he hs (.inr hx)
theorem gD{X:Cx}{x:Str}{pos:Pos}(hN:X.N.Nodup)(hix:X.N[i]?=some x:=by rfl)(hx:X.env.scope.names.lookup x=some .local:=by rfl):PG X (.Name x pos) (g8 i):=bL hN hix (.inl hx) (.inr hx)
theorem F6:(10:Nat) ^ 40=10000000000000000000000000000000000000000:=by decide +kernel
theorem Fw:(10:Nat) ^ 36=1000000000000000000000000000000000000:=by decide +kernel
variable {aM:Addr}
def di(i:Nat):Stmt:=PySem.Challenge.pw_fourvoices_k94_whole_great_memories.main.body.getD i (.Pass ⟨0,0,0,0⟩)
abbrev lC:Stmt:=di 6
theorem uU:ay ["column","voice"] ["column","voice"] (ao lC):=by walk_at "s"
abbrev uS:Stmt:=di 7
theorem BY:ay ["column","first","second"] ["column","first","second"] (ao uS):=by walk_at "s"
abbrev fb:Stmt:=bA (di 8) 0
theorem lF:ay ["self","row"] ["self","row"] (ao fb):=by walk_at "s"
abbrev iE:Stmt:=bA (di 8) 1
theorem rm:ay ["self"] ["self"] (ao iE):=by walk_at "s"
abbrev da:Stmt:=bA (di 8) 2
theorem pk:ay ["self"] ["self"] (ao da):=by walk_at "s"
abbrev du:Stmt:=bA (di 8) 4
theorem nW:ay ["self","memory","last"] ["self","memory","last"] (ao du):=by walk_at "s"
abbrev fc:Stmt:=bA (di 9) 0
theorem lG:ay ["self","row","first","second","numbers"] ["self","row","first","second","numbers"] (ao fc):=by walk_at "s"
abbrev gN:Stmt:=bA (di 9) 1
theorem pq:ay ["self","memory","before","column"] ["self","memory","before","column"] (ao gN):=by walk_at "s"
abbrev e7:Stmt:=bA (di 30) 0
theorem lE:ay ["self","row","voice","most"] ["self","row","voice","most"] (ao e7):=by walk_at "s"
abbrev iD:Stmt:=bA (di 30) 1
theorem rk:ay ["self"] ["self"] (ao iD):=by walk_at "s"
abbrev gM:Stmt:=bA (di 30) 2
theorem pj:ay ["self","memory","before","column"] ["self","memory","before","column"] (ao gM):=by walk_at "s"
abbrev eH:Stmt:=bA (di 31) 0
theorem km:ay ["self","row","voice","note","fewest","most"] ["self","row","voice","note","fewest","most"] (ao eH):=by walk_at "s"
abbrev gO:Stmt:=bA (di 31) 1
theorem pw:ay ["self"] ["self"] (ao gO):=by walk_at "s"
abbrev gb:Stmt:=bA (di 31) 2
theorem nZ:ay ["self","memory","before","column"] ["self","memory","before","column"] (ao gb):=by walk_at "s"
abbrev fM:Stmt:=bA (di 31) 3
theorem mi:ay ["self","memory","last"] ["self","memory","last"] (ao fM):=by walk_at "s"
abbrev eF:Stmt:=bA (di 32) 0
theorem ki:ay ["self","row","turns","turn","inner"] ["self","row","turns","turn","inner"] (ao eF):=by walk_at "s"
abbrev gL:Stmt:=bA (di 32) 1
theorem pf:ay ["self"] ["self"] (ao gL):=by walk_at "s"
abbrev fZ:Stmt:=bA (di 32) 2
theorem nV:ay ["self","memory","before","column"] ["self","memory","before","column"] (ao fZ):=by walk_at "s"
abbrev iH:Stmt:=di 13
theorem sc_broken_at:ay ["rule","line","memory","before","place","column"] ["rule","line"] (ao iH):=by walk_at "s"
abbrev iI:Stmt:=di 44
theorem sc_is_number:ay ["word","figures"] ["word"] (ao iI):=by walk_at "s"
abbrev gP:Stmt:=di 48
theorem pz:ay ["numbers","voices"] ["numbers","voices"] (ao gP):=by walk_at "s"
abbrev jm:Stmt:=di 49
theorem tE:ay ["numbers","ahead"] ["numbers","ahead"] (ao jm):=by walk_at "s"
abbrev lD:Stmt:=di 50
theorem uV:ay ["row","numbers","voices"] ["row","numbers","voices"] (ao lD):=by walk_at "s"
abbrev lA:Stmt:=di 55
theorem uT:ay ["row","numbers","voices"] ["row","numbers","voices"] (ao lA):=by walk_at "s"
abbrev jt:Stmt:=di 56
theorem tG:ay ["row","numbers","voices"] ["row","numbers","voices"] (ao jt):=by walk_at "s"
abbrev gY:Stmt:=di 60
theorem sc_plain_rule:ay ["row","voices","words"] ["row","voices"] (ao gY):=by walk_at "s"
abbrev gQ:Stmt:=di 61
theorem sc_every_rule:ay ["row","voices","words","turns","turn","inner"] ["row","voices"] (ao gQ):=by walk_at "s"
abbrev fT:Stmt:=di 62
theorem sc_read_rule:ay ["text","voices","row","rule"] ["text","voices","row"] (ao fT):=by walk_at "s"
abbrev eG:Stmt:=bA (di 16) 0
theorem kj:ay ["self","ranges","rules"] ["self","ranges","rules"] (ao eG):=by walk_at "s"
abbrev gX:Stmt:=di 17
theorem pA:ay ["column","low","high"] ["column","low","high"] (ao gX):=by walk_at "s"
abbrev lu:Stmt:=di 18
theorem sc_columns:ay ["score","told","low","high","longer","column"] ["score"] (ao lu):=by walk_at "s"
abbrev nU:Stmt:=di 19
theorem sc_weight:ay ["score","told","low","high","rule"] ["score"] (ao nU):=by walk_at "s"
abbrev fQ:Stmt:=di 20
theorem sc_not_too_wide:ay ["score","told"] ["score"] (ao fQ):=by walk_at "s"
abbrev fe:Stmt:=di 21
theorem sc_first_outside:ay ["low","high","voice","line","place","column"] ["low","high","voice","line"] (ao fe):=by walk_at "s"
abbrev rj:Stmt:=di 22
theorem sc_fault:ay ["score","line","places"] ["score","line"] (ao rj):=by walk_at "s"
abbrev eJ:Stmt:=di 25
theorem sc_memories_after:ay ["rules","memories","before","column","told","place","rule","memory"] ["rules","memories","before","column"] (ao eJ):=by walk_at "s"
abbrev iG:Stmt:=di 26
theorem rz:ay ["rules","memories","last"] ["rules","memories","last"] (ao iG):=by walk_at "s"
abbrev dS:Stmt:=bA (di 27) 0
theorem ju:ay ["self"] ["self"] (ao dS):=by walk_at "s"
abbrev f7:Stmt:=bA (di 27) 1
theorem nY:ay ["self"] ["self"] (ao f7):=by walk_at "s"
abbrev iF:Stmt:=bA (di 27) 2
theorem rq:ay ["self","state","column"] ["self","state","column"] (ao iF):=by walk_at "s"
abbrev f6:Stmt:=bA (di 27) 3
theorem nX:ay ["self","state"] ["self","state"] (ao f6):=by walk_at "s"
abbrev dz:Stmt:=bA (di 28) 0
theorem sc_Machine___init__:ay ["self","score","beginning"] ["self","score"] (ao dz):=by walk_at "s"
abbrev e8:Stmt:=bA (di 28) 1
theorem sc_Machine_build:ay ["self","met","numbers","steps","rules","last","memories","leads","column","found"] ["self","met","numbers","steps"] (ao e8):=by walk_at "s"
abbrev fL:Stmt:=bA (di 28) 2
theorem sc_Machine_walk:ay ["self","line","state","column"] ["self","line"] (ao fL):=by walk_at "s"
abbrev gg:Stmt:=di 66
theorem sc_voice_range:ay ["row","words","bounds"] ["row"] (ao gg):=by walk_at "s"
abbrev uR:Stmt:=di 67
theorem sc_read:ay ["text","ranges","rules","number","row","bounds"] ["text"] (ao uR):=by walk_at "s"
abbrev nT:Stmt:=di 69
theorem xD:ay ["_law_script","_law_k"] ["_law_script","_law_k"] (ao nT):=by walk_at "s"
abbrev iJ:Stmt:=di 70
theorem sc_law_draws:ay ["_law_cell","_law_many","_law_digits","_law_rest","_law_seed","_law_found","_law_k"] ["_law_cell","_law_many"] (ao iJ):=by walk_at "s"
abbrev gR:Stmt:=di 71
theorem sc_law_ranges:ay ["_law_script","_law_most","_law_ways","_law_voices","_law_great","_law_low","_law_far","_law_found","_law_k","_law_wide","_law_first"] ["_law_script","_law_most"] (ao gR):=by walk_at "s"
abbrev gc:Stmt:=di 72
theorem sc_law_columns:ay ["_law_ranges_here","_law_found","_law_low","_law_high","_law_longer","_law_column","_law_note"] ["_law_ranges_here"] (ao gc):=by walk_at "s"
abbrev eI:Stmt:=di 73
theorem sc_law_great_rule:ay ["_law_cell","_law_ranges_here","_law_room","_law_ways","_law_voice","_law_low","_law_high","_law_top","_law_other","_law_first","_law_last","_law_some","_law_beat"] ["_law_cell","_law_ranges_here","_law_room"] (ao eI):=by walk_at "s"
abbrev dW:Stmt:=di 74
theorem sc_law_great_rules:ay ["_law_script","_law_ranges_here","_law_cap","_law_weight_of","_law_found","_law_k","_law_rule"] ["_law_script","_law_ranges_here","_law_cap"] (ao dW):=by walk_at "s"
abbrev lB:Stmt:=di 75
theorem sc_law_row:ay ["_law_rule","_law_words","_law_part"] ["_law_rule"] (ao lB):=by walk_at "s"
abbrev jq:Stmt:=di 76
theorem sc_law_text:ay ["_law_ranges_here","_law_rules","_law_rows"] ["_law_ranges_here","_law_rules"] (ao jq):=by walk_at "s"
abbrev jo:Stmt:=di 77
theorem sc_law_runs:ay ["_law_cell","_law_pair","_law_many","_law_held","_law_often","_law_low","_law_high","_law_ways","_law_notes","_law_count","_law_k","_law_note","_law_size"] ["_law_cell","_law_pair","_law_many","_law_held","_law_often"] (ao jo):=by walk_at "s"
abbrev ff:Stmt:=di 78
theorem sc_law_long_line:ay ["_law_cell","_law_ranges_here","_law_rules","_law_many","_law_voices","_law_k","_law_held","_law_often","_law_rule"] ["_law_cell","_law_ranges_here","_law_rules","_law_many"] (ao ff):=by walk_at "s"
abbrev gT:Stmt:=di 79
theorem sc_law_spoilt:ay ["_law_line","_law_cell","_law_at_here","_law_column","_law_voice"] ["_law_line","_law_cell"] (ao gT):=by walk_at "s"
abbrev gd:Stmt:=di 80
theorem sc_law_held_at:ay ["_law_rule","_law_line","_law_run","_law_k"] ["_law_rule","_law_line"] (ao gd):=by walk_at "s"
abbrev fP:Stmt:=di 81
theorem sc_law_times_at:ay ["_law_rule","_law_line","_law_many","_law_k"] ["_law_rule","_law_line"] (ao fP):=by walk_at "s"
abbrev fN:Stmt:=di 82
theorem sc_law_every_at:ay ["_law_rule","_law_line","_law_inner","_law_k"] ["_law_rule","_law_line"] (ao fN):=by walk_at "s"
abbrev gf:Stmt:=di 83
theorem n6:ay ["_law_rule","_law_line"] ["_law_rule","_law_line"] (ao gf):=by walk_at "s"
abbrev fO:Stmt:=di 84
theorem sc_law_range_at:ay ["_law_pair","_law_voice","_law_line","_law_k"] ["_law_pair","_law_voice","_law_line"] (ao fO):=by walk_at "s"
abbrev dU:Stmt:=di 85
theorem sc_law_first_fault:ay ["_law_ranges_here","_law_rules","_law_line","_law_found","_law_row_here","_law_place"] ["_law_ranges_here","_law_rules","_law_line"] (ao dU):=by walk_at "s"
abbrev iK:Stmt:=di 86
theorem rA:ay ["_law_found"] ["_law_found"] (ao iK):=by walk_at "s"
abbrev jr:Stmt:=di 87
theorem tF:ay ["_law_found","_law_due"] ["_law_found","_law_due"] (ao jr):=by walk_at "s"
abbrev gU:Stmt:=di 88
theorem sc_law_walked:ay ["_law_machine","_law_ranges_here","_law_rules","_law_part","_law_lost","_law_state","_law_ends"] ["_law_machine","_law_ranges_here","_law_rules","_law_part","_law_lost"] (ao gU):=by walk_at "s"
abbrev gW:Stmt:=di 89
theorem sc_law_weight:ay ["_law_ranges_here","_law_rules","_law_found","_law_rule"] ["_law_ranges_here","_law_rules"] (ao gW):=by walk_at "s"
abbrev p4:Stmt:=di 90
theorem sc_law:ay ["_law_script","_law_ranges_here","_law_cap","_law_rules","_law_many","_law_line","_law_score","_law_due","_law_handed","_law_machine","_law_lost","_law_k"] ["_law_script"] (ao p4):=by walk_at "s"
structure Txt(mg:Str->Option Value)(aM:Addr):Prop where
 n_len:mg "len"=none
 n_range:mg "range"=none
 n_all:mg "all"=none
 n_min:mg "min"=none
 n_max:mg "max"=none
 n_abs:mg "abs"=none
 n_tuple:mg "tuple"=none
 n_list:mg "list"=none
 n_isinstance:mg "isinstance"=none
 n_bool:mg "bool"=none
 n_int:mg "int"=none
 n_str:mg "str"=none
 n_enumerate:mg "enumerate"=none
 n_zip:mg "zip"=none
 g_FIGURES:∃u,mg "FIGURES"=some u/\aS (.str "0123456789") u
 g_MOST_FIGURES:∃u,mg "MOST_FIGURES"=some u/\aS (.int 40) u
 g_MOST_VOICES:∃u,mg "MOST_VOICES"=some u/\aS (.int 4) u
 g_MOST_RULES:∃u,mg "MOST_RULES"=some u/\aS (.int 12) u
 g_MOST_WEIGHT:∃u,mg "MOST_WEIGHT"=some u/\aS (.int 400) u
 g_MOST_NUMBERS:∃u,mg "MOST_NUMBERS"=some u/\aS (.int 12) u
 g_START:∃u,mg "START"=some u/\aS (.int 0) u
 g_MAKERS:∃u,mg "MAKERS"=some u/\aS (.ref aM) u
structure El(mg:Str->Option Value)(aM aI:Addr):Prop extends Txt mg aM where
 g_INNER_KINDS:∃u,mg "INNER_KINDS"=some u/\aS (.ref aI) u
local macro_rules | `(tactic| walk_at "r") => `(tactic| (try dsimp only [↓pZ, ↓tw, ↓mq, ↓ql, ↓qy, ↓qA, ↓qB, ↓qC, ↓my, ↓mz, DV, ED, jI, jU, sC, sy, yL, su, yQ, sv, hV, wc, vo, g8, tC, DU, Ge, Ad, DX, CI, Ac, DP, tL, ow, tN, DO, Ga, DT, F9, Gd, rJ, L2.start, List.map_cons, List.map_nil, List.length_cons, List.length_nil, List.replicate, List.cons_append, List.nil_append, List.set_cons_zero, List.set_cons_succ, pZ, tw, mq, ql, qy, qA, qB, qC, my, mz]) <;> (try simp only [↓pZ, ↓tw, ↓mq, ↓ql, ↓qy, ↓qA, ↓qB, ↓qC, ↓my, ↓mz, ↓itD, ↓itN, DV, ED, jI, jU, sC, sy, yL, su, yQ, sv, hV, wc, vo, g8, DY, tC, DU, Ge, Ad, p9, DX, CI, Ac, DP, tL, ow, tN, DO, Ga, DT, tK, Ah, tO, F9, Gd, we, rJ, F7, F8, CV, Co, Eu, tS, rI, rU, L2.start, t8, t9, ua, yp, AO, yj, yn, yk, yo, ym, List.map_cons, List.map_nil, List.length_cons, List.length_nil, List.replicate, List.cons_append, List.nil_append, List.append_nil, List.getElem?_cons_zero, List.getElem?_cons_succ, List.set_cons_zero, List.set_cons_succ, Option.some.injEq, CT, Et, yg, Ck, Ci, V.int.injEq, V.str.injEq, V.bl.injEq, V.ref.injEq, V.ty.injEq, List.cons.injEq, and_true, true_and, Ft, Cp, Cq, yC, Ab, CF, Ag, CH, Ez, Ca, wb, Ey, Ae, DR, EA, Ex, yB, CW, vt, FW, yq, Ew, CC, vq, z8, Fe, Fb, Af, z7, v9, Aa, z6, Int.zero_add, if_true, Bool.false_eq_true, if_false, Zt, List.getD_cons_zero, List.getD_cons_succ, Cg, CQ, Ep, decide_eq_true_eq, reduceCtorEq, false_and, Cj, false_or, or_false, List.length_map, Fg, Fh, Gp, Gb, yf, AQ, Bool.not_eq_true', FV, ite_not, pZ, tw, mq, ql, qy, qA, qB, qC, my, mz]) <;> try simp only [wO, wJ, wI, AM, AN, wK, wM, yh, yi, wL, yg, Ck, Ci, Cg, and_true, true_and, V.int.injEq, V.str.injEq, V.bl.injEq, V.ref.injEq, reduceCtorEq, false_and, Cj, false_or, or_false])
local macro_rules | `(tactic| walk_at "f") => `(tactic| simp only [ik, qJ, String.reduceEq, if_false, if_true, List.lookup])
def p6:Sp:=fun vs H Q _=>∃z,vs=[.str z]/\z.length<=10000/\∀H',ar H H'->Q (.bl (so z.cps.toList)) H'
def iN(K:Frag):Sp:=fun vs H Q _=>∃(c:Addr) (v:Int) (us:List Int),vs=[.ref c,.int v]/\bH K H c (us.map V.int)/\1<=v/\v<=us.length/\Q (.int (aY us v)) H
def u7(K:Frag):Sp:=fun vs H Q _=>∃(c:Addr) (a b:Int) (us:List Int),vs=[.ref c,.int a,.int b]/\bH K H c (us.map V.int)/\1<=a/\a<=us.length/\1<=b/\b<=us.length/\Q (.int (aY us b - aY us a)) H
def eK(K:Frag):Sp:=fun vs H Q _=>∃(x C dx:Addr) (fs:List (Str×V)) (row:Str),vs=[.ref x,.str row]/\H x=some (.ins C dx fs)/\rO K C/\NoAttr K C "row"/\fs.length < 100/\Q .non (upd H x (.ins C dx (bU "row" (.str row) fs)))
def dZ(n:Nat)(v:List V->V):Sp:=fun vs H Q _=>vs.length=n/\Q (v vs) H
def lK(K:Frag):Sp:=fun vs H Q _=>∃(q:Addr) (xs:List V) (j:Int),vs=[.ref q,.int j]/\aL K H q xs/\Q (.bl (decide (1<=(xs.length:Int) - j) && decide ((xs.length:Int) - j<=12))) H
def eU(K:Frag):Sp:=fun vs H Q _=>∃(q:Addr) (ns:List Int) (nv:Int),vs=[.ref q,.int nv]/\aL K H q (ns.map V.int)/\ns.length<=1000/\∀H',ar H H'->Q (.bl (ns.all fun n=>decide (1<=n) && decide (n<=nv))) H'
def kx(P:Program)(w:World)(K:Frag)(mg:Str->Option Value)(base:Heap)(aM:Addr)(k:Nat):Sp:=fun vs H Q _=>∃(row kind:Str) (ns:List Int) (nv:Int) (D:List (Str×V)) (f:Addr) (sp:Sp) (Res:V->Hp->Prop),vs=[.str row,.int nv]/\fw row kind ns/\kE K aM D/\KTD.datumAt kind D=some (.ref f)/\
 jG P w K mg base k f ["row","numbers","voices"] sp/\(∀q H' Q',ar H H'->H' q=some (.lst (ns.map V.int))->(∀v H'',Res v H''->Q' v H'')->sp [.str row,.ref q,.int nv] H' Q' E0)/\∀v H',Res v H'->Q v H'
def zT(P:Program)(w:World)(K:Frag)(mg:Str->Option Value)(base:Heap)(aM:Addr)(k:Nat):Sp:=fun vs H Q _=>∃(row kind:Str) (ns:List Int) (nv z:Int) (D:List (Str×V)) (f:Addr) (sp:Sp) (Res:V->Hp->Prop),vs=[.str row,.int nv,.int z]/\fw row kind ns/\kind.cps.toList.head?≠some 101/\kE K aM D/\KTD.datumAt kind D=some (.ref f)/\
 jG P w K mg base k f ["row","numbers","voices"] sp/\(∀q H' Q',ar H H'->H' q=some (.lst (ns.map V.int))->(∀v H'',Res v H''->Q' v H'')->sp [.str row,.ref q,.int nv] H' Q' E0)/\∀v H',Res v H'->v≠.non/\Q v H'
def dH(row:Str)(x1 x2:Int)(n:Addr):List (Str×V):=bU "numbers" (.ref n) (bU "second" (.int x2) (bU "first" (.int x1) (bU "row" (.str row) [])))
def ia(C:Addr)(row:Str)(x1 x2:Int)(D:List Int):pE:=fun r H=>∃(dx n:Addr),H r=some (.ins C dx (dH row x1 x2 n))/\H n=some (.lst (D.map V.int))
structure ml(K:Frag)(C:Addr):Prop where
 cl:rO K C
 n1:NoAttr K C "row"
 n2:NoAttr K C "first"
 n3:NoAttr K C "second"
 n4:NoAttr K C "numbers"
def jA(K:Frag)(C:Addr):Sp:=fun vs H Q _=>∃(x dx q:Addr) (row:Str) (x1 x2:Int) (D:List Int),vs=[.ref x,.str row,.int x1,.int x2,.ref q]/\H x=some (.ins C dx [])/\aL K H q (D.map V.int)/\D.length<=20/\
 ∀n H',H n=none->H'=upd (upd H n (.lst (D.map V.int))) x (.ins C dx (dH row x1 x2 n))->Q .non H'
def ky(K:Frag)(C:Addr):Sp:=fun vs H Q _=>∃(q:Addr) (row:Str) (x1 x2:Int) (D:List Int) (nv:Int),vs=[.str row,.ref q,.int nv]/\aL K H q ((x1::x2::D).map V.int)/\1<=x1/\x1<=nv/\1<=x2/\x2<=nv/\1<=D.length/\D.length<=12/\
 ∀r H',ar H H'->ia C row x1 x2 D r H'->Q (.ref r) H'
def eQ(a b:Int)(D:List Int):bO:=⟨1,0,fun m _ us=>if aY us b - aY us a∈D then some m else none,fun _ _=>true⟩
def dG(row:Str)(x1 x2:Int):List (Str×V):=(bU "most" (.int x2) (bU "voice" (.int x1) (bU "row" (.str row) [])))
def fv(C:Addr)(row:Str)(x1 x2:Int):pE:=fun r H=>∃(dx:Addr),H r=some (.ins C dx (dG row x1 x2))
structure jE(K:Frag)(C:Addr):Prop where
 cl:rO K C
 n1:NoAttr K C "row"
 n2:NoAttr K C "voice"
 n3:NoAttr K C "most"
def jw(K:Frag)(C:Addr):Sp:=fun vs H Q _=>∃(x dx:Addr) (row:Str) (x1 x2:Int),vs=[.ref x,.str row,.int x1,.int x2]/\H x=some (.ins C dx [])/\Q .non (upd H x (.ins C dx (dG row x1 x2)))
def kv(K:Frag)(C:Addr):Sp:=fun vs H Q _=>∃(q:Addr) (row:Str) (x1 x2:Int) (nv:Int),vs=[.str row,.ref q,.int nv]/\aL K H q ([x1,x2].map V.int)/\1<=x1/\x1<=nv/\1<=x2/\
 ∀r H',ar H H'->fv C row x1 x2 r H'->Q (.ref r) H'
def dY(x1 x2:Int):bO:=⟨x2,0,fun m b us=>match b with | none=>some 0 | some bs=>if aY bs x1=aY us x1 then(if m+1 < x2 then some (m+1)else none)else some 0,fun _ _=>true⟩
def pT(x2 m:Int):Prop:=0<=m/\m < x2
def cb(row:Str)(x1 x2 x3 x4:Int):List (Str×V):=(bU "most" (.int x4) (bU "fewest" (.int x3) (bU "note" (.int x2) (bU "voice" (.int x1) (bU "row" (.str row) [])))))
def cP(C:Addr)(row:Str)(x1 x2 x3 x4:Int):pE:=fun r H=>∃(dx:Addr),H r=some (.ins C dx (cb row x1 x2 x3 x4))
structure gj(K:Frag)(C:Addr):Prop where
 cl:rO K C
 n1:NoAttr K C "row"
 n2:NoAttr K C "voice"
 n3:NoAttr K C "note"
 n4:NoAttr K C "fewest"
 n5:NoAttr K C "most"
def iQ(K:Frag)(C:Addr):Sp:=fun vs H Q _=>∃(x dx:Addr) (row:Str) (x1 x2 x3 x4:Int),vs=[.ref x,.str row,.int x1,.int x2,.int x3,.int x4]/\H x=some (.ins C dx [])/\Q .non (upd H x (.ins C dx (cb row x1 x2 x3 x4)))
def i7(K:Frag)(C:Addr):Sp:=fun vs H Q _=>∃(q:Addr) (row:Str) (x1 x2 x3 x4:Int) (nv:Int),vs=[.str row,.ref q,.int nv]/\aL K H q ([x1,x2,x3,x4].map V.int)/\1<=x1/\x1<=nv/\0<=x3/\0<=x4/\
 ∀r H',ar H H'->cP C row x1 x2 x3 x4 r H'->Q (.ref r) H'
def cE(x1 x2 x3 x4:Int):bO:=⟨x4+1,0,fun m _ us=>if aY us x1=x2 then(if m < x4 then some (m+1)else none)else some m,fun m _=>decide (m>=x3)⟩
def jZ(x4 m:Int):Prop:=0<=m/\m<=x4
def cq(row:Str)(t u:Int)(ri:Addr):List (Str×V):=bU "inner" (.ref ri) (bU "turn" (.int u) (bU "turns" (.int t) (bU "row" (.str row) [])))
def eL(C:Addr)(row:Str)(t u:Int)(RIn:pE):pE:=fun r H=>∃(dx ri:Addr),H r=some (.ins C dx (cq row t u ri))/\RIn ri H
structure hZ(K:Frag)(C:Addr):Prop where
 cl:rO K C
 n1:NoAttr K C "row"
 n2:NoAttr K C "turns"
 n3:NoAttr K C "turn"
 n4:NoAttr K C "inner"
def iM(K:Frag)(C:Addr):Sp:=fun vs H Q _=>∃(x dx ri:Addr) (row:Str) (t u:Int),vs=[.ref x,.str row,.int t,.int u,.ref ri]/\H x=some (.ins C dx [])/\Q .non (upd H x (.ins C dx (cq row t u ri)))
def dX(t u:Int)(S:bO):bO:=⟨t,0,fun m b us=>if m=u then(if S.after S.start b us=none then none else some ((m+1) % t))else some ((m+1) % t),fun _ _=>true⟩
def nq(t m:Int):Prop:=0<=m/\m < t
def mJ(P:Program)(w:World)(K:Frag)(mg:Str->Option Value)(base:Heap)(aM C:Addr)(k:Nat):Sp:=fun vs H Q _=>∃(row rest kind:Str) (t u:Int) (ns:List Int) (nv:Int) (D:List (Str×V)) (f:Addr) (sp:Sp) (RIn:pE),vs=[.str row,.int nv]/\mS row rest t u/\fw rest kind ns/\(kind=Str.ofString "span"\/kind=Str.ofString "clock")/\0<=u/\u < t/\kE K aM D/\KTD.datumAt kind D=some (.ref f)/\
 jG P w K mg base k f ["row","numbers","voices"] sp/\(∀q H' Q',ar H H'->H' q=some (.lst (ns.map V.int))->(∀ri H'',ar H H''->RIn ri H''->Q' (.ref ri) H'')->sp [.str rest,.ref q,.int nv] H' Q' E0)/\(∀r H H',ar H H'->RIn r H->RIn r H')/\∀r H',ar H H'->eL C row t u RIn r H'->Q (.ref r) H'
def vZ(P:Program)(w:World)(K:Frag)(mg:Str->Option Value)(base:Heap)(aM C:Addr)(k:Nat):Sp:=fun vs H Q E=>∃(row:Str) (nv z:Int),vs=[.str row,.int nv,.int z]/\(∃rest t u,mS row rest t u)/\mJ P w K mg base aM C k [.str row,.int nv] H (fun v H'=>v≠.non/\Q v H') E
theorem xO{x:HO}(h0:H q=none)(s:ar H H'):ar H (upd H' q x):=fun b o hb=>by
 rw [aj (au hb h0)];exact s _ _ hb
def Ek(P:Program)(w:World)(K:Frag)(mg:Str->Option Value)(base:Heap)(nv:Nat)(S:bO)(G:Int->Prop)(r:Addr)(H:Hp):Prop:=∃(C:Addr) (RI:pE),bS P w K mg base 7 nv C S RI G/\RI r H
structure jh(P:Program)(w:World)(K:Frag)(mg:Str->Option Value)(base:Heap)(nv:Nat)(Ss:List bO)(Gs:List (Int->Prop))(H:Hp)(b:Addr)(rs:List Addr):Prop where
 sq:aL K H b (rs.map V.ref)
 len:rs.length=Ss.length
 gl:Gs.length=Ss.length
 at_:∀(j:Nat) (r:Addr) (S:bO) (G:Int->Prop),rs[j]?=some r->Ss[j]?=some S->Gs[j]?=some G->Ek P w K mg base nv S G r H
theorem jh.same{b:Addr}{rs:List Addr}(h:jh P w K mg base nv Ss Gs H b rs)(s:ar H H'):jh P w K mg base nv Ss Gs H' b rs:=
 ⟨s.seq h.sq,h.len,h.gl,fun j r S G e1 e2 e3=>let ⟨C,RI,h1,h2⟩:=h.at_ j r S G e1 e2 e3;⟨C,RI,h1,h1.mono _ _ _ s h2⟩⟩
def qj(Gs:List (Int->Prop))(ms:List Int):Prop:=ms.length=Gs.length/\∀(j:Nat) (G:Int->Prop) (m:Int),Gs[j]?=some G->ms[j]?=some m->G m
def jy(P:Program)(w:World)(K:Frag)(mg:Str->Option Value)(base:Heap):Sp:=fun vs H Q _=>∃(rb ma ca:Addr) (bx:V) (nv:Nat) (Ss:List bO) (Gs:List (Int->Prop)) (rs:List Addr) (ms c:List Int) (b:Option (List Int)),vs=[.ref rb,.ref ma,bx,.ref ca]/\
 jh P w K mg base nv Ss Gs H rb rs/\Ss.length<=100/\bH K H ma (ms.map V.int)/\qj Gs ms/\BV K H nv b bx/\bH K H ca (c.map V.int)/\c.length=nv/\(eA Ss ms b c=none->∀H',ar H H'->Q .non H')/\∀ms',eA Ss ms b c=some ms'->qj Gs ms'->∀p H',H' p=some (.tup (ms'.map V.int))->H p=none->ar H H'->Q (.ref p) H'
def jv(P:Program)(w:World)(K:Frag)(mg:Str->Option Value)(base:Heap):Sp:=fun vs H Q _=>∃(rb ma:Addr) (bx:V) (nv:Nat) (Ss:List bO) (Gs:List (Int->Prop)) (rs:List Addr) (ms:List Int) (b:Option (List Int)),vs=[.ref rb,.ref ma,bx]/\
 jh P w K mg base nv Ss Gs H rb rs/\Ss.length<=100/\bH K H ma (ms.map V.int)/\qj Gs ms/\BV K H nv b bx/\∀H',ar H H'->Q (.bl (bY Ss ms b)) H'
theorem xj(F:cM K "is_number" "is_number" iI f fd)(T:Txt mg aM):aN P w K mg base cc 1 f fd ["word"] p6:=by
 refine F.ok sc_is_number (fun _ _ _ _ h=>?_) (fun _ A _ s H vs Q E hr h=>?_)
 ·obtain⟨z,rfl,_⟩:=h
  rfl
 obtain⟨z,rfl,hz,k⟩:=h
 refine⟨_,(ae (bM (i:=1) sc_is_number.nd (dQ (bu (bJ K PySem.F.plainAttrs_str PySem.F.slot_str_startswith PySem.F.type_str_startswith fW (pr 0) (aa bD ah)) (fun _=>rfl)) (cy (ko K) (pr 0) (ka af) cT) (pr 0)))
 (ae (aW (PW.pt (dq (bh (av kX (pr 1) bD (aB _))) (cW (bh (av (o0 nK) (az (aC K) (by rfl) T.n_len boot_len (aa (pr 1) ah)) (nO T.g_MOST_FIGURES) (aB _)))))) (ai (aw jc)) aF)
 (ae (aW (cI (bu (az (gr K rfl) (by rfl) T.n_all boot_all (aa (c8 (own:=["sign"]) (js:=[]) rfl (bE K (pr 1)) (bw.of (by rfl)) (fun _ _ _ _ _=>(bL (i:=0) (show List.Nodup (["sign"]:List Str)from by decide +kernel) rfl (Or.inl rfl))) (fun _ _ _ _ _=>cJ) (fun _ _ _ _ _=>(dP (zg K) (pr 0) (nO T.g_FIGURES) (by with_unfolding_all rfl)))) ah)) (fun _=>rfl))) (ai (aw jc)) aF)
 (ai (aw (E3 (E4 (dP Av (ax (aG K) (pr 1) af (fun _ _=>rfl)) bD (aB _)) (q9 (dP kX (pr 0) bD (aB _)))))))))),?_⟩
 have hs:sizeLine=16777216:=sizeLine_eq
 have c0:(Str.ofString "").cps.toList=[]:=by decide +kernel
 have c45:(Str.ofString "-")=⟨#[45]⟩:=by decide +kernel
 have c48:(Str.ofString "0").cps.toList=[48]:=by decide +kernel
 have cF:(Str.ofString "0123456789").cps.toList=[48,49,50,51,52,53,54,55,56,57]:=by decide +kernel
 refine FT (fun Z H'=>∃y,Z=[some (.str z),some (.str y)]/\H=H'/\y.cps.toList=gv z.cps.toList) ?_ ?_
 ·rintro _ _ ⟨y,rfl,rfl,hy⟩
  have hyl:y.length<=10000:=by
   rw [aZ,hy];rw [aZ]at hz;refine ab9 ?_ hz;unfold gv
   split
   ·rw [List.length_tail];omega
   ·exact aa9 _
  walk_at "r";have hk:=k;rw [uh,<-hy,<-aZ]at hk;have q0:=hk H (ar.refl H)
  by_cases h1:y=Str.ofString ""
  ·rw [if_pos h1]
   rw [if_pos (Or.inl (by rw [h1,c0]))]at q0;exact q0
  rw [if_neg h1];refine⟨by omega,?_⟩
  by_cases h2:(40:Int) < y.length
  ·rw [if_pos h2]
   rw [if_pos (Or.inr (by omega))]at q0;exact q0
  rw [if_neg h2]
  have h3:¬(y.cps.toList=[]\/40 < y.length):=by
   rintro(e | e)
   ·exact h1 (str_iff.mpr (by rw [e,c0]))
   ·omega
  rw [if_neg h3]at hk;have e0:y.cps.toList≠[]:=fun e=>h3 (Or.inl e);refine BO (wC (fun i ys H'=>ys=(y.cps.toList.take i).map (fun c=>V.bl (decide (c∈[48,49,50,51,52,53,54,55,56,57])))/\H=H') (by omega) ⟨rfl,rfl⟩ ?_ ?_ ?_)
  ·rintro i ys H' ⟨rfl,rfl⟩
   rw [aa0,ac3];omega
  ·rintro i c ys H' hc ⟨rfl,rfl⟩
   walk_at "r";rw [cF,ac1,hc];simp
  ·rintro ys H' ⟨rfl,rfl⟩ p hp
   rw [aZ,ac8];refine⟨y.cps.toList.map (fun c=>decide (c∈[48,49,50,51,52,53,54,55,56,57])),aL.of (by rw [ag,ai0];rfl),?_⟩
   have ed:(List.map (fun c=>decide (c∈[48,49,50,51,52,53,54,55,56,57])) y.cps.toList).all id=sf y.cps.toList:=by
    unfold sf;rw [ai9];rfl
   have q1:=hk _ (ak (o:=.lst ((y.cps.toList.take y.cps.toList.length).map (fun c=>V.bl (decide (c∈[48,49,50,51,52,53,54,55,56,57]))))) hp);rw [ac8]at q1;rw [ed]
   by_cases h4:sf y.cps.toList=false
   ·rw [if_pos h4]
    rw [if_pos h4]at q1;exact q1
   rw [if_neg h4];rw [if_neg h4]at q1;refine⟨by rw [<-aZ];omega,?_⟩
   cases hh:y.cps.toList with
   | nil=>exact absurd hh e0
   | cons a l=>
    rw [hh]at q1;refine⟨a,aP rfl,?_⟩
    by_cases ha:a=48
    ·subst ha
     rw [if_pos (str_iff.mpr (by rw [c48])),kB,c48];simpa using q1
    ·rw [if_neg (fun e=>ha (by have:=str_iff.mp e;rw [c48]at this;simpa using this))]
     simpa [ha]using q1
 ·intro u' hu
  walk_at "r";rw [c45,vk]
  by_cases h1:z.cps.toList.head?=some 45
  ·rw [if_pos (by simpa using h1)]
   exact⟨by omega,hu _ _ ⟨_,rfl,rfl,by rw [uX (by decide)];unfold gv;rw [if_pos h1];simp⟩⟩
  ·rw [if_neg (by simpa using h1)]
   exact hu _ _ ⟨_,rfl,rfl,by unfold gv;rw [if_neg h1]⟩
theorem uA(F:cM K "note_in" "note_in" lC f fd):aN P w K mg base cc 1 f fd ["column","voice"] (iN K):=by
 refine F.ok uU (fun _ _ _ _ h=>?_) (fun _ A _ s H vs Q E hr h=>?_)
 ·obtain⟨c,v,us,rfl,_⟩:=h
  rfl
 obtain⟨c,v,us,rfl,hc,h1,h2,k⟩:=h;refine⟨_,(ai (aw (ax (aG K) (pr 0) (aq (o0 bZ) (pr 1) af) (fun _ _=>rfl)))),?_⟩;walk_at "r";exact aR hc (fH h1 h2) k
theorem Bn(F:cM K "span" "span" uS f fd)(D_note_in:bR P w K mg base "note_in" 1 ["column","voice"] (iN K)):aN P w K mg base cc 2 f fd ["column","first","second"] (u7 K):=by
 refine F.ok BY (fun _ _ _ _ h=>?_) (fun _ A _ s H vs Q E hr h=>?_)
 ·obtain⟨c,a,b,us,rfl,_⟩:=h
  rfl
 obtain⟨c,a,b,us,rfl,hc,h1,h2,h3,h4,k⟩:=h;refine⟨_,(ai (aw (aq (o0 bZ) (aD D_note_in hr (by rfl) (aa (pr 0) (aa (pr 2) ah))) (aD D_note_in hr (by rfl) (aa (pr 0) (aa (pr 1) ah)))))),?_⟩;walk_at "r";refine⟨c,b,us,rfl,hc,h3,h4,c,a,us,rfl,hc,h1,h2,?_⟩;walk_at "r";exact k
theorem qP(F:cM K "__init__" "Rule.__init__" fb f fd):aN P w K mg base cc 1 f fd ["self","row"] (eK K):=by
 refine F.ok lF (fun _ _ _ _ h=>?_) (fun _ A _ s H vs Q E hr h=>?_)
 ·obtain⟨x,C,dx,fs,row,rfl,_⟩:=h
  rfl
 obtain⟨x,C,dx,fs,row,rfl,hx,cl,na,hl,k⟩:=h;refine⟨_,(ai (cN (pr 0) (pr 1) rfl)),?_⟩;walk_at "r";exact⟨C,dx,fs,hx,cl,na,by omega,k⟩
theorem qQ(F:cM K "size" "Rule.size" iE f fd):aN P w K mg base cc 1 f fd ["self"] (dZ 1 fun _=>.int 1):=by
 refine F.ok rm (fun vs H Q E h=>h.1) (fun cdv A outer s H vs Q E hr h=>?_);obtain⟨hl,k⟩:=h;obtain⟨a,rfl⟩:=Fy hl;refine⟨_,(ai (aw af)),?_⟩;walk_at "r";exact k
theorem eN(F:cM K "start" "Rule.start" da f fd):aN P w K mg base cc 1 f fd ["self"] (dZ 1 fun _=>.int 0):=by
 refine F.ok pk (fun vs H Q E h=>h.1) (fun cdv A outer s H vs Q E hr h=>?_);obtain⟨hl,k⟩:=h;obtain⟨a,rfl⟩:=Fy hl;refine⟨_,(ai (aw af)),?_⟩;walk_at "r";exact k
theorem fK(F:cM K "closes" "Rule.closes" du f fd):aN P w K mg base cc 1 f fd ["self","memory","last"] (dZ 3 fun _=>.bl true):=by
 refine F.ok nW (fun vs H Q E h=>h.1) (fun cdv A outer s H vs Q E hr h=>?_);obtain⟨hl,k⟩:=h;obtain⟨a,b,c,rfl⟩:=Gf hl;refine⟨_,(ai (aw jc)),?_⟩;walk_at "r";exact k
theorem sO(F:cM K "has_list" "has_list" jm f fd)(T:Txt mg aM):aN P w K mg base cc 1 f fd ["numbers","ahead"] (lK K):=by
 refine F.ok tE (fun _ _ _ _ h=>?_) (fun _ A _ s H vs Q E hr h=>?_)
 ·obtain⟨q,xs,j,rfl,_⟩:=h
  rfl
 obtain⟨q,xs,j,rfl,hq,k⟩:=h;refine⟨_,(ai (aw (sS (o0 gz) (o0 gz) af (aq (o0 bZ) (az (aC K) (by rfl) T.n_len boot_len (aa (pr 0) ah)) (pr 1)) (nO T.g_MOST_NUMBERS)))),?_⟩;walk_at "r";refine⟨xs,.inl hq,?_⟩;walk_at "r"
 by_cases h1:(1:Int)<=(xs.length:Int) - j
 ·rw [if_pos h1]
  rw [decide_eq_true h1,am6]at k;exact k
 ·rw [if_neg h1]
  rw [decide_eq_false h1,ai4]at k;exact k
theorem oW(F:cM K "are_voices" "are_voices" gP f fd)(T:Txt mg aM):aN P w K mg base cc 1 f fd ["numbers","voices"] (eU K):=by
 refine F.ok pz (fun _ _ _ _ h=>?_) (fun _ A _ s H vs Q E hr h=>?_)
 ·obtain⟨q,ns,nv,rfl,_⟩:=h
  rfl
 obtain⟨q,ns,nv,rfl,hq,hl,k⟩:=h;refine⟨_,(ai (aw (az (gr K rfl) (by rfl) T.n_all boot_all (aa (c8 (own:=["number"]) (js:=[1]) rfl (bE K (pr 0)) (bw.of (by rfl)) (fun _ _ _ _ _=>(bL (i:=0) (show List.Nodup (["number","voices"]:List Str)from by decide +kernel) rfl (Or.inl rfl))) (fun _ _ _ _ _=>cJ) (fun _ _ _ _ _=>(sS (o0 gz) (o0 gz) af (pr 0) (pr 1)))) ah)))),?_⟩;walk_at "r";have hs:sizeLine=16777216:=sizeLine_eq;refine bN hq (cz (xs:=ns.map V.int) (fun i ys H'=>ys=((ns.take i).map fun n=>decide (1<=n) && decide (n<=nv)).map V.bl/\H=H') (by rw [aa0];omega) ⟨rfl,rfl⟩ ?_ ?_ ?_ ?_)
 ·rintro i ys H' ⟨rfl,rfl⟩
  rw [aa0,aa0,ac3];omega
 ·rintro i ys H' ⟨rfl,rfl⟩
  exact hq
 ·rintro i x ys H' hx ⟨rfl,rfl⟩
  rw [aa5]at hx
  cases hn:ns[i]? with
  | none=>rw [hn]at hx;cases hx
  | some n=>
   rw [hn]at hx;cases hx;walk_at "r";rw [ac1,hn]
   by_cases h1:(1:Int)<=n
   ·rw [if_pos h1]
    simp [h1]
   ·rw [if_neg h1]
    simp [h1]
 ·rintro ys H' ⟨rfl,rfl⟩ p hp
  refine⟨_,aL.of ag,?_⟩;rw [ai9,aa0,ac8];exact k _ (ak hp)
theorem oZ(F:cM K "plain_rule" "plain_rule" gY f fd)(T:Txt mg aM)(D_is_number:bR P w K mg base "is_number" 7 ["word"] p6):aN P w K mg base cc 8 f fd ["row","voices"] (kx P w K mg base aM 7):=by
 refine F.ok sc_plain_rule (fun _ _ _ _ h=>?_) (fun _ A _ s H vs Q E hr h=>?_)
 ·obtain⟨row,kind,ns,nv,D,f,sp,Res,rfl,_⟩:=h
  rfl
 obtain⟨row,kind,ns,nv,D,g,sp,Res,rfl,R,tab,hg,fn,k,kq⟩:=h
 refine⟨_,(ae (bM (i:=2) sc_plain_rule.nd (bJ K PySem.F.plainAttrs_str PySem.F.slot_str_split PySem.F.type_str_split j5 (pr 0) (aa bD ah)))
 (ae (aW (PW.pt (dq (bh (av (uE K) (ax (aG K) (pr 2) af (fun _ _=>rfl)) (nO T.g_MAKERS) (by with_unfolding_all rfl))) (cW (cI (bu (az (gr K rfl) (by rfl) T.n_all boot_all (aa (c8 (own:=["word"]) (js:=[]) rfl (bE K (cy (ko K) (pr 2) (ka af) cT)) (bw.of (by rfl)) (fun _ _ _ _ _=>(bL (i:=0) (show List.Nodup (["word"]:List Str)from by decide +kernel) rfl (Or.inl rfl))) (fun _ _ _ _ _=>cJ) (fun _ _ _ _ _=>(aD D_is_number hr (by rfl) (aa (pr 0) ah)))) ah)) (fun _=>rfl)))))) (ai (aw aV)) aF)
 (ai (aw (zj P w K mg base hr (zm K (nO T.g_MAKERS) (ax (aG K) (pr 2) af (fun _ _=>rfl)) (fun _ _=>rfl)) (aa (pr 0) (aa (c8 (own:=["word"]) (js:=[]) rfl (bE K (cy (ko K) (pr 2) (ka af) cT)) (bw.of (by rfl)) (fun _ _ _ _ _=>(bL (i:=0) (show List.Nodup (["word"]:List Str)from by decide +kernel) rfl (Or.inl rfl))) (fun _ _ _ _ _=>cJ) (fun _ _ _ _ _=>(bo (fm) (by rfl) T.n_int boot_int (aa (pr 0) ah)))) (aa (pr 1) ah)))))))),?_⟩
 walk_at "r";have hs:sizeLine=16777216:=sizeLine_eq;have hl:=R.len;have hnl:=R.nl;refine⟨32,by decide +kernel,by decide,by omega,fun p hp=>?_⟩;rw [R.split];have sp0:ar H (upd H p (.lst ((kind::ns.map aO).map V.str))):=ak hp;generalize hH0:upd H p (.lst ((kind::ns.map aO).map V.str))=H0 at sp0
 have hp0:H0 p=some (.lst ((kind::ns.map aO).map V.str)):=by rw [<-hH0,ag]
 refine bG (aL.of hp0) (aP rfl) ⟨kind,rfl,D,tab,?_⟩;rw [hg];walk_at "r";refine eE (aL.of hp0) fun q hq=>?_;rw [show(some (1:Int))=some ((1:Nat):Int)from rfl,ft];show BN _ _ _ _;have s1:ar H0 (upd H0 q (.lst ((ns.map aO).map V.str))):=ak hq;refine bN (xs:=(ns.map aO).map V.str) (aL.of ag) (cz (xs:=(ns.map aO).map V.str) (fun i ys H'=>ys=(List.replicate i true).map V.bl/\ar (upd H0 q (.lst ((ns.map aO).map V.str))) H') (by simp;omega) ⟨rfl,ar.refl _⟩ ?_ ?_ ?_ ?_)
 ·rintro i ys H' ⟨rfl,sm⟩
  simp
 ·rintro i ys H' ⟨rfl,sm⟩
  exact sm.seq (aL.of ag)
 ·rintro i x ys H' hx ⟨rfl,sm⟩
  obtain⟨n,hn,rfl⟩:∃n∈ns,x=.str (aO n):=by
   have:=ac5 hx
   simp only [ai0,ac0,Function.comp_apply]at this;obtain⟨n,hn,e⟩:=this;exact⟨n,hn,e.symm⟩
  walk_at "r";refine⟨aO n,rfl,?_,fun H1 s1=>⟨?_,sm.trans s1⟩⟩
  ·rw [aZ]
   have:=fJ (n:=n) (k:=40) (by decide) (R.nb n hn)
   show(gH n).length<=_;omega
  ·show _=(List.replicate (i+1) true).map V.bl
   rw [show(aO n).cps.toList=gH n from rfl,kP (R.nb n hn),List.replicate_succ',ab4];rfl
 rintro ys H1 ⟨rfl,sm⟩ p1 hp1;simp only [aa0];refine⟨_,aL.of ag,?_⟩;rw [show(List.replicate ns.length true).all id=true by simp];walk_at "r";have s2:ar H0 (upd H1 p1 (.lst ((List.replicate ns.length true).map V.bl))):=(s1.trans sm).upd hp1;generalize upd H1 p1 (.lst ((List.replicate ns.length true).map V.bl))=H2 at s2;have hp2:=s2 _ _ hp0;refine bG (aL.of hp2) (aP rfl) ⟨kind,rfl,D,tab,_,hg,g,rfl,_,_,fn,?_⟩;refine eE (aL.of hp2) fun q2 hq2=>?_;rw [ft];show BN _ _ _ _;have s3:ar H0 (upd H2 q2 (.lst ((ns.map aO).map V.str))):=s2.upd hq2;refine bN (xs:=(ns.map aO).map V.str) (aL.of ag) (cz (xs:=(ns.map aO).map V.str) (fun i ys H'=>ys=(ns.take i).map V.int/\upd H2 q2 (.lst ((ns.map aO).map V.str))=H') (by simp;omega) ⟨rfl,rfl⟩ ?_ ?_ ?_ ?_)
 ·rintro i ys H' ⟨rfl,rfl⟩
  rw [aa0,ac3];omega
 ·rintro i ys H' ⟨rfl,rfl⟩
  exact aL.of ag
 ·rintro i x ys H' hx ⟨rfl,rfl⟩
  cases hn:ns[i]? with
  | none=>rw [aa5,aa5,hn]at hx;cases hx
  | some n=>
   rw [aa5,aa5,hn]at hx;cases hx;have hb:=R.nb n (ac5 hn);walk_at "r";refine⟨n,mw (ab0 hb (ah3 (by decide) (by decide))),?_,?_⟩
   ·rw [aZ]
    have:=fJ (n:=n) (k:=40) (by decide) hb
    show(gH n).length<=_;omega
   ·rw [ac1,hn,ab4]
    rfl
 rintro ys H3 ⟨rfl,rfl⟩ p3 hp3;refine k p3 _ _ (sp0.trans (s3.upd hp3)) ?_ kq;rw [ag,aa0,aa0,ac8]
theorem qR(F:cM K "__init__" "Span.__init__" fc f fd)(T:Txt mg aM)(TC:ml K C)(DC_Rule___init__:lZ P w K mg base "Rule" "__init__" 1 ["self","row"] (eK K)):aN P w K mg base cc 2 f fd ["self","row","first","second","numbers"] (jA K C):=by
 refine F.ok lG (fun _ _ _ _ h=>?_) (fun _ A _ s H vs Q E hr h=>?_)
 ·obtain⟨x,dx,q,row,x1,x2,D,rfl,_⟩:=h
  rfl
 obtain⟨x,dx,q,row,x1,x2,D,rfl,hx,hq,hl,k⟩:=h
 refine⟨_,(ae (bF (ix DC_Rule___init__ hr (by rfl) (aa (pr 0) (aa (pr 1) ah))))
 (ae (cN (pr 0) (pr 2) rfl)
 (ae (cN (pr 0) (pr 3) rfl)
 (ai (cN (pr 0) (bo (eh K) (by rfl) T.n_list boot_list (aa (pr 4) ah)) rfl))))),?_⟩
 walk_at "r";have ln:∀(f:Str) (v:V) (l:List (Str×V)) (n:Nat),l.length<=n->(bU f v l).length<=n+1:=fun f v l n h=>ab9 (cv f v l) (af8 h);refine⟨x,C,dx,[],row,rfl,hx,TC.cl,TC.n1,by decide,?_⟩;refine⟨C,dx,_,ag,TC.cl,TC.n2,ad2 (ln _ _ _ _ (ad3 0)) (by decide),C,dx,_,ag,TC.cl,TC.n3,ad2 (ln _ _ _ _ (ln _ _ _ _ (ad3 0))) (by decide),D.map V.int,.inl (((hq.at_ins hx).at_ins ag).at_ins ag),fun n hn=>?_⟩
 have nx:n≠x:=fun e=>by subst e;rw [ag]at hn;cases hn
 rw [aj nx,aj nx,aj nx]at hn;refine⟨C,dx,_,by rw [aj (Ne.symm nx),ag],TC.cl,TC.n4,ad2 (ln _ _ _ _ (ln _ _ _ _ (ln _ _ _ _ (ad3 0)))) (by decide),?_⟩;refine k n _ hn ?_;rw [de,de,oA];rfl
theorem uC(F:cM K "span_of" "span_of" lD f fd)(T:Txt mg aM)(D_has_list:bR P w K mg base "has_list" 3 ["numbers","ahead"] (lK K))(D_are_voices:bR P w K mg base "are_voices" 3 ["numbers","voices"] (eU K))(DM_Span:h8 P w K mg base "Span" C 2 ["self","row","first","second","numbers"] (jA K C)):aN P w K mg base cc 4 f fd ["row","numbers","voices"] (ky K C):=by
 refine F.ok uV (fun _ _ _ _ h=>?_) (fun _ A _ s H vs Q E hr h=>?_)
 ·obtain⟨q,row,x1,x2,D,nv,rfl,_⟩:=h
  rfl
 obtain⟨q,row,x1,x2,D,nv,rfl,hq,x1_1,x1_2,x2_1,x2_2,l1,l2,k⟩:=h
 refine⟨_,(ae (aW (PW.pt (dq (cI (bu (aD D_has_list hr (by rfl) (aa (pr 1) (aa af ah))) (fun _=>rfl))) (cW (cI (bu (aD D_are_voices hr (by rfl) (aa (cy (ko K) (pr 1) cT (ka af)) (aa (pr 2) ah))) (fun _=>rfl)))))) (ai (aw aV)) aF)
 (ai (aw (pX DM_Span hr (by rfl) (aa (pr 0) (aa (ax (aG K) (pr 1) af (fun _ _=>rfl)) (aa (ax (aG K) (pr 1) af (fun _ _=>rfl)) (aa (cy (ko K) (pr 1) (ka af) cT) ah)))))))),?_⟩
 walk_at "r";have hs:sizeLine=16777216:=sizeLine_eq;refine⟨q,_,2,rfl,hq,?_⟩;rw [show(decide (1<=(((x1::x2::D).map V.int).length:Int) - 2) && decide ((((x1::x2::D).map V.int).length:Int) - 2<=12))=true by simp;omega];walk_at "r";refine eE hq fun q1 hq1=>?_;rw [show(some (2:Int))=some ((2:Nat):Int)from rfl,iV];have s1:ar H (upd H q1 (.lst ((((x1::x2::D).map V.int)).take 2))):=ak hq1;refine⟨q1,[x1,x2],nv,rfl,aL.of ag,by simp,fun H1 s2=>?_⟩;rw [show([x1,x2].all fun n=>decide (1<=n) && decide (n<=nv))=true by simp;omega];walk_at "r";have s3:=s1.trans s2;have hq3:=s3.seq hq;refine bG hq3 (aP rfl) (bG hq3 (show dC _ ((1:Nat):Int)=_ from aA rfl) (eE hq3 fun q2 hq2=>?_));rw [ft];show ∀x dx:Addr,_;intro x dx hx hdx hne;have s4:ar H (upd H1 q2 (.lst (((x1::x2::D).map V.int).drop 2))):=s3.upd hq2;have hq2':(upd H1 q2 (.lst (((x1::x2::D).map V.int).drop 2))) q2=some (.lst (D.map V.int)):=ag;generalize upd H1 q2 (.lst (((x1::x2::D).map V.int).drop 2))=H2 at s4 hx hdx hq2';have s5:ar H (upd (upd H2 dx (.own x)) x (.ins C dx [])):=(s4.upd hdx).upd (by rw [aj (Ne.symm hne)];exact hx)
 have hq5:(upd (upd H2 dx (.own x)) x (.ins C dx [])) q2=some (.lst (D.map V.int)):=by
  rw [aj (au hq2' hx),aj (au hq2' hdx)];exact hq2'
 refine⟨x,dx,q2,row,x1,x2,D,rfl,ag,aL.of hq5,by omega,fun n H3 hn e=>⟨rfl,?_⟩⟩;subst e
 have nx:n≠x:=fun z=>by subst z;rw [ag]at hn;cases hn
 refine k x _ ?_ ⟨dx,n,ag,by rw [aj nx,ag]⟩;intro c o hc;have n1:c≠x:=au (s4 _ _ hc) hx;rw [aj n1,aj (au (s5 _ _ hc) hn)];exact s5 _ _ hc
theorem oT{b:Int}(F:cM K "after" "Span.after" gN f fd)(T:Txt mg aM)(TC:ml K C)(ha:1<=a/\a<=nv)(hb:1<=b/\b<=nv)(D_span:bR P w K mg base "span" 2 ["column","first","second"] (u7 K)):aN P w K mg base cc 3 f fd ["self","memory","before","column"] (dc K nv (ia C row a b D) (eQ a b D) fun _=>True):=by
 refine F.ok pq (fun _ _ _ _ h=>?_) (fun _ A _ s H vs Q E hr h=>?_)
 ·obtain⟨r,m,x,c,bb,us,rfl,_⟩:=h
  rfl
 obtain⟨r,m,x,c,bb,us,rfl,⟨dx,n,hr1,hn⟩,_,hbv,hc,hu,k⟩:=h;refine⟨_,(ai (aw (dQ (bh (av (zg K) (aD D_span hr (by rfl) (aa (pr 3) (aa (bq (pr 0) rfl) (aa (bq (pr 0) rfl) ah)))) (bq (pr 0) rfl) (by with_unfolding_all rfl))) (pr 1) aV))),?_⟩;walk_at "r"
 have l1:(dH row a b n).lookup (Str.ofString "first")=some (.int a):=by unfold dH;walk_at "f"
 have l2:(dH row a b n).lookup (Str.ofString "second")=some (.int b):=by unfold dH;walk_at "f"
 have l3:(dH row a b n).lookup (Str.ofString "numbers")=some (.ref n):=by unfold dH;walk_at "f"
 refine⟨C,dx,_,hr1,TC.cl,TC.n2,_,l1,C,dx,_,hr1,TC.cl,TC.n3,_,l2,c,a,b,us,rfl,hc,ha.1,by rw [hu];exact ha.2,hb.1,by rw [hu];exact hb.2,C,dx,_,hr1,TC.cl,TC.n4,_,l3,zB (aL.of hn) ⟨_,rfl,?_⟩⟩
 by_cases h:aY us b - aY us a∈D
 ·rw [if_pos (decide_eq_true h)]
  simp only [eQ]at k;rw [if_pos h]at k;exact k
 ·rw [if_neg (by rw [decide_eq_false h];exact aa6)]
  simp only [eQ]at k;rw [if_neg h]at k;exact k
theorem zV{lv:Nat}{b:Int}(TC:ml K C)(h1:aK P w K mg base C "size" lv ["self"] (dZ 1 fun _=>.int 1))(h2:aK P w K mg base C "start" lv ["self"] (dZ 1 fun _=>.int 0))(h3:aK P w K mg base C "closes" lv ["self","memory","last"] (dZ 3 fun _=>.bl true))
  (h4:aK P w K mg base C "after" lv ["self","memory","before","column"] (dc K nv (ia C row a b D) (eQ a b D) fun _=>True)):bS P w K mg base lv nv C (eQ a b D) (ia C row a b D) (fun _=>True):=by
 refine⟨fun r H H' s h=>?_,fun r H h=>?_,trivial,fun _ _ _ _ _ _=>trivial,h1.imp ?_,h2.imp ?_,h4,h3.imp ?_⟩
 ·obtain⟨dx,n,e1,e2⟩:=h
  exact⟨dx,n,s _ _ e1,s _ _ e2⟩
 ·obtain⟨dx,n,e1,e2⟩:=h
  refine⟨dx,_,e1,?_,?_,?_,?_,?_⟩<;>(unfold dH;walk_at "f")
 ·rintro vs H Q E ⟨r,rfl,_,q⟩
  exact⟨rfl,q⟩
 ·rintro vs H Q E ⟨r,rfl,_,q⟩
  exact⟨rfl,q⟩
 ·rintro vs H Q E ⟨r,m,x,b,rfl,_,_,_,q⟩
  exact⟨rfl,q⟩
theorem qL(F:cM K "__init__" "Held.__init__" e7 f fd)(T:Txt mg aM)(TC:jE K C)(DC_Rule___init__:lZ P w K mg base "Rule" "__init__" 1 ["self","row"] (eK K)):aN P w K mg base cc 2 f fd ["self","row","voice","most"] (jw K C):=by
 refine F.ok lE (fun _ _ _ _ h=>?_) (fun _ A _ s H vs Q E hr h=>?_)
 ·obtain⟨x,dx,row,x1,x2,rfl,_⟩:=h
  rfl
 obtain⟨x,dx,row,x1,x2,rfl,hx,k⟩:=h
 refine⟨_,(ae (bF (ix DC_Rule___init__ hr (by rfl) (aa (pr 0) (aa (pr 1) ah))))
 (ae (cN (pr 0) (pr 2) rfl)
 (ai (cN (pr 0) (pr 3) rfl)))),?_⟩
 walk_at "r";have ln:∀(f:Str) (v:V) (l:List (Str×V)) (n:Nat),l.length<=n->(bU f v l).length<=n+1:=fun f v l n h=>ab9 (cv f v l) (af8 h);refine⟨x,C,dx,[],row,rfl,hx,TC.cl,TC.n1,by decide,?_⟩;refine⟨C,dx,_,ag,TC.cl,TC.n2,ad2 (ln _ _ _ _ (ad3 0)) (by decide),C,dx,_,ag,TC.cl,TC.n3,ad2 (ln _ _ _ _ (ln _ _ _ _ (ad3 0))) (by decide),?_⟩;rw [de,de];exact k
theorem uz(F:cM K "held_of" "held_of" lA f fd)(T:Txt mg aM)(D_are_voices:bR P w K mg base "are_voices" 3 ["numbers","voices"] (eU K))(DM_Held:h8 P w K mg base "Held" C 2 ["self","row","voice","most"] (jw K C)):aN P w K mg base cc 4 f fd ["row","numbers","voices"] (kv K C):=by
 refine F.ok uT (fun _ _ _ _ h=>?_) (fun _ A _ s H vs Q E hr h=>?_)
 ·obtain⟨q,row,x1,x2,nv,rfl,_⟩:=h
  rfl
 obtain⟨q,row,x1,x2,nv,rfl,hq,b1,b2,b3,k⟩:=h
 refine⟨_,(ae (aW (PW.pt (dq (bh (av Av (az (aC K) (by rfl) T.n_len boot_len (aa (pr 1) ah)) af (aB _))) (dq (cI (bu (aD D_are_voices hr (by rfl) (aa (cy (ko K) (pr 1) cT (ka af)) (aa (pr 2) ah))) (fun _=>rfl))) (cW (bh (av (o0 mh) (ax (aG K) (pr 1) af (fun _ _=>rfl)) af (aB _))))))) (ai (aw aV)) aF)
 (ai (aw (pX DM_Held hr (by rfl) (aa (pr 0) (aa (ax (aG K) (pr 1) af (fun _ _=>rfl)) (aa (ax (aG K) (pr 1) af (fun _ _=>rfl)) ah))))))),?_⟩
 walk_at "r";have hs:sizeLine=16777216:=sizeLine_eq;refine⟨_,.inl hq,?_⟩;walk_at "r";rw [if_pos (show(((0:Nat)+1+1:Nat):Int)=2 from rfl)];refine eE hq fun q1 hq1=>?_;rw [show(some (1:Int))=some ((1:Nat):Int)from rfl,iV];have s1:ar H (upd H q1 (.lst (([x1,x2].map V.int).take 1))):=ak hq1;refine⟨q1,[x1],nv,rfl,aL.of ag,by simp,fun H1 s2=>?_⟩;rw [show([x1].all fun n=>decide (1<=n) && decide (n<=nv))=true by simp;omega];walk_at "r";have s3:=s1.trans s2;have hq3:=s3.seq hq;refine bG hq3 (show dC _ ((1:Nat):Int)=_ from aA rfl) ?_;walk_at "r";rw [if_neg (show ¬(x2 < 1)by omega)];refine bG hq3 (aP rfl) (bG hq3 (show dC _ ((1:Nat):Int)=_ from aA rfl) ?_);show ∀x dx:Addr,_;intro x dx hx hdx hne;have s5:ar H (upd (upd H1 dx (.own x)) x (.ins C dx [])):=(s3.upd hdx).upd (by rw [aj (Ne.symm hne)];exact hx);refine⟨x,dx,row,x1,x2,rfl,ag,rfl,?_⟩;refine k x _ ?_ ⟨dx,ag⟩;intro c o hc;rw [aj (au (s3 _ _ hc) hx)];exact s5 _ _ hc
theorem qM(F:cM K "size" "Held.size" iD f fd)(TC:jE K C):aN P w K mg base cc 1 f fd ["self"] (og (fv C row x1 x2) (.int x2)):=by
 refine F.ok rk (fun _ _ _ _ h=>?_) (fun _ A _ s H vs Q E hr h=>?_)
 ·obtain⟨r,rfl,_⟩:=h
  rfl
 obtain⟨r,rfl,⟨dx,hr1⟩,k⟩:=h;refine⟨_,(ai (aw (bq (pr 0) rfl))),?_⟩;walk_at "r"
 have l2:(dG row x1 x2).lookup (Str.ofString "most")=some (.int x2):=by unfold dG;walk_at "f"
 exact⟨C,dx,_,hr1,TC.cl,TC.n3,_,l2,k⟩
theorem oR(F:cM K "after" "Held.after" gM f fd)(T:Txt mg aM)(TC:jE K C)(ha:1<=x1/\x1<=nv)(D_note_in:bR P w K mg base "note_in" 2 ["column","voice"] (iN K)):aN P w K mg base cc 3 f fd ["self","memory","before","column"] (dc K nv (fv C row x1 x2) (dY x1 x2) (pT x2)):=by
 refine F.ok pj (fun _ _ _ _ h=>?_) (fun _ A _ s H vs Q E hr h=>?_)
 ·obtain⟨r,m,x,c,bb,us,rfl,_⟩:=h
  rfl
 obtain⟨r,m,x,c,bb,us,rfl,⟨dx,hr1⟩,_,hbv,hc,hu,k⟩:=h
 refine⟨_,(ae (aW (PW.pt (dq (bh (av dJ (pr 2) aV (aB _))) (cW (bh (av Av (aD D_note_in hr (by rfl) (aa (pr 2) (aa (bq (pr 0) rfl) ah))) (aD D_note_in hr (by rfl) (aa (pr 3) (aa (bq (pr 0) rfl) ah))) (aB _)))))) (ai (aw af)) aF)
 (ai (aw (dQ (bh (av (o0 mh) (aq (bz K) (pr 1) af) (bq (pr 0) rfl) (aB _))) (aq (bz K) (pr 1) af) aV)))),?_⟩
 walk_at "r"
 have l1:(dG row x1 x2).lookup (Str.ofString "voice")=some (.int x1):=by unfold dG;walk_at "f"
 have l2:(dG row x1 x2).lookup (Str.ofString "most")=some (.int x2):=by unfold dG;walk_at "f"
 rcases hbv with⟨rfl,rfl⟩ | ⟨a,bs,rfl,rfl,hba,hbl⟩
 ·rw [if_pos rfl]
  exact k
 rw [if_neg (fun z=>by cases z)];refine⟨C,dx,_,hr1,TC.cl,TC.n2,_,l1,a,x1,bs,rfl,hba,ha.1,by rw [hbl];exact ha.2,C,dx,_,hr1,TC.cl,TC.n2,_,l1,c,x1,us,rfl,hc,ha.1,by rw [hu];exact ha.2,?_⟩;walk_at "r";simp only [dY]at k
 by_cases h:aY bs x1=aY us x1
 ·rw [if_pos h]
  rw [if_pos h]at k;refine⟨C,dx,_,hr1,TC.cl,TC.n3,_,l2,_,rfl,?_⟩
  by_cases h2:m+1 < x2
  ·rw [if_pos h2]
   rw [if_pos h2]at k;exact k
  ·rw [if_neg h2]
   rw [if_neg h2]at k;exact k
 ·rw [if_neg h]
  rw [if_neg h]at k;exact k
theorem yz(h0:1<=x2)(TC:jE K C)(h1:aK P w K mg base C "size" 7 ["self"] (og (fv C row x1 x2) (.int x2)))(h2:aK P w K mg base C "start" 7 ["self"] (dZ 1 fun _=>.int 0))(h3:aK P w K mg base C "closes" 7 ["self","memory","last"] (dZ 3 fun _=>.bl true))
  (h4:aK P w K mg base C "after" 7 ["self","memory","before","column"] (dc K nv (fv C row x1 x2) (dY x1 x2) (pT x2))):bS P w K mg base 7 nv C (dY x1 x2) (fv C row x1 x2) (pT x2):=by
 refine⟨fun r H H' s h=>?_,fun r H h=>?_,⟨show(0:Int)<=0 by decide,show(0:Int) < x2 by omega⟩,fun m b us m' hm e=>?_,h1,h2.imp ?_,h4,h3.imp ?_⟩
 ·obtain⟨dx,e1⟩:=h
  exact⟨dx,s _ _ e1⟩
 ·obtain⟨dx,e1⟩:=h
  refine⟨dx,_,e1,?_,?_,?_,?_,?_⟩<;>(unfold dG;walk_at "f")
 ·simp only [dY]at e
  obtain⟨m0,m1⟩:=hm
  cases b with
  | none=>cases e;exact⟨by decide,by omega⟩
  | some bs=>
   simp only at e
   split at e
   ·split at e
    ·cases e;exact⟨by omega,by omega⟩
    ·cases e
   ·cases e;exact⟨by decide,by omega⟩
 ·rintro vs H Q E ⟨r,rfl,_,q⟩
  exact⟨rfl,q⟩
 ·rintro vs H Q E ⟨r,m,x,b,rfl,_,_,_,q⟩
  exact⟨rfl,q⟩
theorem oU(F:cM K "__init__" "Times.__init__" eH f fd)(T:Txt mg aM)(TC:gj K C)(DC_Rule___init__:lZ P w K mg base "Rule" "__init__" 1 ["self","row"] (eK K)):aN P w K mg base cc 2 f fd ["self","row","voice","note","fewest","most"] (iQ K C):=by
 refine F.ok km (fun _ _ _ _ h=>?_) (fun _ A _ s H vs Q E hr h=>?_)
 ·obtain⟨x,dx,row,x1,x2,x3,x4,rfl,_⟩:=h
  rfl
 obtain⟨x,dx,row,x1,x2,x3,x4,rfl,hx,k⟩:=h
 refine⟨_,(ae (bF (ix DC_Rule___init__ hr (by rfl) (aa (pr 0) (aa (pr 1) ah))))
 (ae (cN (pr 0) (pr 2) rfl)
 (ae (cN (pr 0) (pr 3) rfl)
 (ae (cN (pr 0) (pr 4) rfl)
 (ai (cN (pr 0) (pr 5) rfl)))))),?_⟩
 walk_at "r";have ln:∀(f:Str) (v:V) (l:List (Str×V)) (n:Nat),l.length<=n->(bU f v l).length<=n+1:=fun f v l n h=>ab9 (cv f v l) (af8 h);refine⟨x,C,dx,[],row,rfl,hx,TC.cl,TC.n1,by decide,?_⟩;refine⟨C,dx,_,ag,TC.cl,TC.n2,ad2 (ln _ _ _ _ (ad3 0)) (by decide),C,dx,_,ag,TC.cl,TC.n3,ad2 (ln _ _ _ _ (ln _ _ _ _ (ad3 0))) (by decide),C,dx,_,ag,TC.cl,TC.n4,ad2 (ln _ _ _ _ (ln _ _ _ _ (ln _ _ _ _ (ad3 0)))) (by decide),C,dx,_,ag,TC.cl,TC.n5,ad2 (ln _ _ _ _ (ln _ _ _ _ (ln _ _ _ _ (ln _ _ _ _ (ad3 0))))) (by decide),?_⟩;rw [de,de,de,de];exact k
theorem sR(F:cM K "times_of" "times_of" jt f fd)(T:Txt mg aM)(D_are_voices:bR P w K mg base "are_voices" 3 ["numbers","voices"] (eU K))(DM_Times:h8 P w K mg base "Times" C 2 ["self","row","voice","note","fewest","most"] (iQ K C)):aN P w K mg base cc 4 f fd ["row","numbers","voices"] (i7 K C):=by
 refine F.ok tG (fun _ _ _ _ h=>?_) (fun _ A _ s H vs Q E hr h=>?_)
 ·obtain⟨q,row,x1,x2,x3,x4,nv,rfl,_⟩:=h
  rfl
 obtain⟨q,row,x1,x2,x3,x4,nv,rfl,hq,b1,b2,b3,b4,k⟩:=h
 refine⟨_,(ae (aW (PW.pt (dq (bh (av Av (az (aC K) (by rfl) T.n_len boot_len (aa (pr 1) ah)) af (aB _))) (dq (cI (bu (aD D_are_voices hr (by rfl) (aa (cy (ko K) (pr 1) cT (ka af)) (aa (pr 2) ah))) (fun _=>rfl))) (cW (bh (av (o0 mh) (az (wB rfl K) (by rfl) T.n_min boot_min (aa (cy (ko K) (pr 1) (ka af) cT) ah)) af (aB _))))))) (ai (aw aV)) aF)
 (ai (aw (pX DM_Times hr (by rfl) (aa (pr 0) (aa (ax (aG K) (pr 1) af (fun _ _=>rfl)) (aa (ax (aG K) (pr 1) af (fun _ _=>rfl)) (aa (ax (aG K) (pr 1) af (fun _ _=>rfl)) (aa (ax (aG K) (pr 1) af (fun _ _=>rfl)) ah))))))))),?_⟩
 walk_at "r";have hs:sizeLine=16777216:=sizeLine_eq;refine⟨_,.inl hq,?_⟩;walk_at "r";rw [if_pos (show(((0:Nat)+1+1+1+1:Nat):Int)=4 from rfl)];refine eE hq fun q1 hq1=>?_;rw [show(some (1:Int))=some ((1:Nat):Int)from rfl,iV];have s1:ar H (upd H q1 (.lst (([x1,x2,x3,x4].map V.int).take 1))):=ak hq1;refine⟨q1,[x1],nv,rfl,aL.of ag,by simp,fun H1 s2=>?_⟩;rw [show([x1].all fun n=>decide (1<=n) && decide (n<=nv))=true by simp;omega];walk_at "r";have s3:=s1.trans s2;have hq3:=s3.seq hq;refine eE hq3 fun q4 hq4=>?_;rw [show(some (2:Int))=some ((2:Nat):Int)from rfl,ft];have s4:ar H (upd H1 q4 (.lst (([x1,x2,x3,x4].map V.int).drop 2))):=s3.upd hq4;have hm:(upd H1 q4 (.lst (([x1,x2,x3,x4].map V.int).drop 2))) q4=some (.lst ([x3,x4].map V.int)):=ag;generalize upd H1 q4 (.lst (([x1,x2,x3,x4].map V.int).drop 2))=H2 at s4 hm;refine⟨q4,rfl,[x3,x4],aL.of hm,by simp,fun i hi=>?_⟩
 have hi0:0<=i:=by
  rcases aa8.mp hi with rfl | hi
  ·exact b3
  ·rw [ab6.mp hi];exact b4
 walk_at "r";rw [if_neg (show ¬(i < 0)by omega)];have hq5:=s4.seq hq;refine bG hq5 (aP rfl) (bG hq5 (show dC _ ((1:Nat):Int)=_ from aA rfl) (bG hq5 (show dC _ ((2:Nat):Int)=_ from aA rfl) (bG hq5 (show dC _ ((3:Nat):Int)=_ from aA rfl) ?_)));show ∀x dx:Addr,_;intro x dx hx hdx hne;have s5:ar H (upd (upd H2 dx (.own x)) x (.ins C dx [])):=(s4.upd hdx).upd (by rw [aj (Ne.symm hne)];exact hx);refine⟨x,dx,row,x1,x2,x3,x4,rfl,ag,rfl,?_⟩;refine k x _ ?_ ⟨dx,ag⟩;intro c o hc;rw [aj (au (s4 _ _ hc) hx)];exact s5 _ _ hc
theorem oV(F:cM K "size" "Times.size" gO f fd)(TC:gj K C):aN P w K mg base cc 1 f fd ["self"] (og (cP C row x1 x2 x3 x4) (.int (x4+1))):=by
 refine F.ok pw (fun _ _ _ _ h=>?_) (fun _ A _ s H vs Q E hr h=>?_)
 ·obtain⟨r,rfl,_⟩:=h
  rfl
 obtain⟨r,rfl,⟨dx,hr1⟩,k⟩:=h;refine⟨_,(ai (aw (aq (bz K) (bq (pr 0) rfl) af))),?_⟩;walk_at "r"
 have l5:(cb row x1 x2 x3 x4).lookup (Str.ofString "most")=some (.int x4):=by unfold cb;walk_at "f"
 refine⟨C,dx,_,hr1,TC.cl,TC.n5,_,l5,?_⟩;walk_at "r";exact k
theorem l9(F:cM K "closes" "Times.closes" fM f fd)(TC:gj K C):aN P w K mg base cc 1 f fd ["self","memory","last"] (kr K nv (cP C row x1 x2 x3 x4) (cE x1 x2 x3 x4) (jZ x4)):=by
 refine F.ok mi (fun _ _ _ _ h=>?_) (fun _ A _ s H vs Q E hr h=>?_)
 ·obtain⟨r,m,x,bb,rfl,_⟩:=h
  rfl
 obtain⟨r,m,x,bb,rfl,⟨dx,hr1⟩,_,_,k⟩:=h;refine⟨_,(ai (aw (dP (o0 zi) (pr 1) (bq (pr 0) rfl) (aB _)))),?_⟩;walk_at "r"
 have l4:(cb row x1 x2 x3 x4).lookup (Str.ofString "fewest")=some (.int x3):=by unfold cb;walk_at "f"
 refine⟨C,dx,_,hr1,TC.cl,TC.n4,_,l4,?_⟩;walk_at "r";exact k
theorem nH(F:cM K "after" "Times.after" gb f fd)(T:Txt mg aM)(TC:gj K C)(ha:1<=x1/\x1<=nv)(D_note_in:bR P w K mg base "note_in" 2 ["column","voice"] (iN K)):aN P w K mg base cc 3 f fd ["self","memory","before","column"] (dc K nv (cP C row x1 x2 x3 x4) (cE x1 x2 x3 x4) (jZ x4)):=by
 refine F.ok nZ (fun _ _ _ _ h=>?_) (fun _ A _ s H vs Q E hr h=>?_)
 ·obtain⟨r,m,x,c,bb,us,rfl,_⟩:=h
  rfl
 obtain⟨r,m,x,c,bb,us,rfl,⟨dx,hr1⟩,_,hbv,hc,hu,k⟩:=h
 refine⟨_,(ae (aW (bh (av Av (aD D_note_in hr (by rfl) (aa (pr 3) (aa (bq (pr 0) rfl) ah))) (bq (pr 0) rfl) (aB _))) (ai (aw (pr 1))) aF)
 (ai (aw (dQ (bh (av (o0 mh) (pr 1) (bq (pr 0) rfl) (aB _))) (aq (bz K) (pr 1) af) aV)))),?_⟩
 walk_at "r"
 have l1:(cb row x1 x2 x3 x4).lookup (Str.ofString "voice")=some (.int x1):=by unfold cb;walk_at "f"
 have l2:(cb row x1 x2 x3 x4).lookup (Str.ofString "note")=some (.int x2):=by unfold cb;walk_at "f"
 have l5:(cb row x1 x2 x3 x4).lookup (Str.ofString "most")=some (.int x4):=by unfold cb;walk_at "f"
 refine⟨C,dx,_,hr1,TC.cl,TC.n2,_,l1,c,x1,us,rfl,hc,ha.1,by rw [hu];exact ha.2,C,dx,_,hr1,TC.cl,TC.n3,_,l2,?_⟩;walk_at "r";simp only [cE]at k
 by_cases h:aY us x1=x2
 ·rw [if_pos h]
  rw [if_pos h]at k;refine⟨C,dx,_,hr1,TC.cl,TC.n5,_,l5,_,rfl,?_⟩
  by_cases h2:m < x4
  ·rw [if_pos h2]
   rw [if_pos h2]at k;exact k
  ·rw [if_neg h2]
   rw [if_neg h2]at k;exact k
 ·rw [if_neg h]
  rw [if_neg h]at k;exact k
theorem xJ(h0:0<=x4)(TC:gj K C)(h1:aK P w K mg base C "size" 7 ["self"] (og (cP C row x1 x2 x3 x4) (.int (x4+1))))(h2:aK P w K mg base C "start" 7 ["self"] (dZ 1 fun _=>.int 0))(h3:aK P w K mg base C "closes" 7 ["self","memory","last"] (kr K nv (cP C row x1 x2 x3 x4) (cE x1 x2 x3 x4) (jZ x4)))
  (h4:aK P w K mg base C "after" 7 ["self","memory","before","column"] (dc K nv (cP C row x1 x2 x3 x4) (cE x1 x2 x3 x4) (jZ x4))):bS P w K mg base 7 nv C (cE x1 x2 x3 x4) (cP C row x1 x2 x3 x4) (jZ x4):=by
 refine⟨fun r H H' s h=>?_,fun r H h=>?_,⟨show(0:Int)<=0 by decide,show(0:Int)<=x4 by omega⟩,fun m b us m' hm e=>?_,h1,h2.imp ?_,h4,h3⟩
 ·obtain⟨dx,e1⟩:=h
  exact⟨dx,s _ _ e1⟩
 ·obtain⟨dx,e1⟩:=h
  refine⟨dx,_,e1,?_,?_,?_,?_,?_⟩<;>(unfold cb;walk_at "f")
 ·simp only [cE]at e
  obtain⟨m0,m1⟩:=hm
  split at e
  ·split at e
   ·cases e;exact⟨by omega,by omega⟩
   ·cases e
  ·cases e;exact⟨m0,m1⟩
 ·rintro vs H Q E ⟨r,rfl,_,q⟩
  exact⟨rfl,q⟩
theorem oP(F:cM K "__init__" "Every.__init__" eF f fd)(T:Txt mg aM)(TC:hZ K C)(DC_Rule___init__:lZ P w K mg base "Rule" "__init__" 1 ["self","row"] (eK K)):aN P w K mg base cc 2 f fd ["self","row","turns","turn","inner"] (iM K C):=by
 refine F.ok ki (fun _ _ _ _ h=>?_) (fun _ A _ s H vs Q E hr h=>?_)
 ·obtain⟨x,dx,ri,row,t,u,rfl,_⟩:=h
  rfl
 obtain⟨x,dx,ri,row,t,u,rfl,hx,k⟩:=h
 refine⟨_,(ae (bF (ix DC_Rule___init__ hr (by rfl) (aa (pr 0) (aa (pr 1) ah))))
 (ae (cN (pr 0) (pr 2) rfl)
 (ae (cN (pr 0) (pr 3) rfl)
 (ai (cN (pr 0) (pr 4) rfl))))),?_⟩
 walk_at "r";have ln:∀(f:Str) (v:V) (l:List (Str×V)) (n:Nat),l.length<=n->(bU f v l).length<=n+1:=fun f v l n h=>ab9 (cv f v l) (af8 h);refine⟨x,C,dx,[],row,rfl,hx,TC.cl,TC.n1,by decide,?_⟩;refine⟨C,dx,_,ag,TC.cl,TC.n2,ad2 (ln _ _ _ _ (ad3 0)) (by decide),C,dx,_,ag,TC.cl,TC.n3,ad2 (ln _ _ _ _ (ln _ _ _ _ (ad3 0))) (by decide),C,dx,_,ag,TC.cl,TC.n4,ad2 (ln _ _ _ _ (ln _ _ _ _ (ln _ _ _ _ (ad3 0)))) (by decide),?_⟩;rw [de,de,de];exact k
theorem oQ{t:Int}(F:cM K "size" "Every.size" gL f fd)(TC:hZ K C):aN P w K mg base cc 1 f fd ["self"] (og (eL C row t u RIn) (.int t)):=by
 refine F.ok pf (fun _ _ _ _ h=>?_) (fun _ A _ s H vs Q E hr h=>?_)
 ·obtain⟨r,rfl,_⟩:=h
  rfl
 obtain⟨r,rfl,⟨dx,ri,hr1,_⟩,k⟩:=h;refine⟨_,(ai (aw (bq (pr 0) rfl))),?_⟩;walk_at "r"
 have l2:(cq row t u ri).lookup (Str.ofString "turns")=some (.int t):=by unfold cq;walk_at "f"
 exact⟨C,dx,_,hr1,TC.cl,TC.n2,_,l2,k⟩
theorem nF{Cn:Addr}{t:Int}{S:bO}{G:Int->Prop}(F:cM K "after" "Every.after" fZ f fd)(T:Txt mg aM)(TC:hZ K C)(ht:0 < t)(R:bS P w K mg base 4 nv Cn S RIn G):aN P w K mg base cc 5 f fd ["self","memory","before","column"] (dc K nv (eL C row t u RIn) (dX t u S) (nq t)):=by
 refine F.ok nV (fun _ _ _ _ h=>?_) (fun _ A _ s H vs Q E hr h=>?_)
 ·obtain⟨r,m,x,c,bb,us,rfl,_⟩:=h
  rfl
 obtain⟨r,m,x,c,bb,us,rfl,⟨dx,ri,hr1,hin⟩,_,hbv,hc,hu,k⟩:=h
 refine⟨_,(ae (aW (PW.pt (fY (bh (av kX (pr 1) (bq (pr 0) rfl) (aB _))) (fj (bh (av dJ (dR P w K mg base hr (bq (pr 0) rfl) (aa (eC P w K mg base hr (bq (pr 0) rfl)) (aa (pr 2) (aa (pr 3) ah)))) aV (aB _)))))) (ai (aw aV)) aF)
 (ai (aw (aq (o1 bc) (aq (bz K) (pr 1) af) (bq (pr 0) rfl))))),?_⟩
 walk_at "r"
 have l2:(cq row t u ri).lookup (Str.ofString "turns")=some (.int t):=by unfold cq;walk_at "f"
 have l3:(cq row t u ri).lookup (Str.ofString "turn")=some (.int u):=by unfold cq;walk_at "f"
 have l4:(cq row t u ri).lookup (Str.ofString "inner")=some (.ref ri):=by unfold cq;walk_at "f"
 refine⟨C,dx,_,hr1,TC.cl,TC.n3,_,l3,?_⟩;walk_at "r";obtain⟨dx2,fs,hir,q1,q2,q3,q4,q5⟩:=R.ins ri H hin;simp only [dX]at k
 by_cases hm:m=u
 ·rw [if_pos hm]
  rw [if_pos hm]at k;refine⟨C,dx,_,hr1,TC.cl,TC.n4,_,l4,ri,rfl,Cn,dx2,fs,hir,q3,_,_,R.after,C,dx,_,hr1,TC.cl,TC.n4,_,l4,ri,rfl,Cn,dx2,fs,hir,q2,_,_,R.start,ri,rfl,hin,ri,_,x,c,bb,us,rfl,hin,R.g0,hbv,hc,hu,?_⟩
  cases ha:S.after S.start bb us with
  | none=>
   rw [if_pos (show xh none=V.non from rfl)];rw [ha,if_pos rfl]at k;exact k
  | some m'=>
   rw [if_neg (show ¬(xh (some m')=V.non)from fun z=>by cases z)];rw [ha,if_neg (fun z=>by cases z)]at k;exact⟨C,dx,_,hr1,TC.cl,TC.n2,_,l2,_,rfl,ht,k⟩
 ·rw [if_neg hm]
  rw [if_neg hm]at k;exact⟨C,dx,_,hr1,TC.cl,TC.n2,_,l2,_,rfl,ht,k⟩
theorem wQ{Cn:Addr}{t:Int}{S:bO}{G:Int->Prop}(ht:0 < t)(TC:hZ K C)(R:bS P w K mg base 4 nv Cn S RIn G)(h1:aK P w K mg base C "size" 7 ["self"] (og (eL C row t u RIn) (.int t)))(h2:aK P w K mg base C "start" 7 ["self"] (dZ 1 fun _=>.int 0))(h3:aK P w K mg base C "closes" 7 ["self","memory","last"] (dZ 3 fun _=>.bl true))
  (h4:aK P w K mg base C "after" 7 ["self","memory","before","column"] (dc K nv (eL C row t u RIn) (dX t u S) (nq t))):bS P w K mg base 7 nv C (dX t u S) (eL C row t u RIn) (nq t):=by
 refine⟨fun r H H' s h=>?_,fun r H h=>?_,⟨show(0:Int)<=0 by decide,show(0:Int) < t by omega⟩,fun m b us m' hm e=>?_,h1,h2.imp ?_,h4,h3.imp ?_⟩
 ·obtain⟨dx,ri,e1,e2⟩:=h
  exact⟨dx,ri,s _ _ e1,R.mono _ _ _ s e2⟩
 ·obtain⟨dx,ri,e1,e2⟩:=h
  refine⟨dx,_,e1,?_,?_,?_,?_,?_⟩<;>(unfold cq;walk_at "f")
 ·simp only [dX]at e
  have hb:nq t ((m+1) % t):=⟨ad5 _ (by omega),ad0 _ ht⟩
  split at e
  ·split at e
   ·cases e
   ·cases e;exact hb
  ·cases e;exact hb
 ·rintro vs H Q E ⟨r,rfl,_,q⟩
  exact⟨rfl,q⟩
 ·rintro vs H Q E ⟨r,m,x,b,rfl,_,_,_,q⟩
  exact⟨rfl,q⟩
theorem oX{aI:Addr}(F:cM K "every_rule" "every_rule" gQ f fd)(T:El mg aM aI)(hI:xX K aI [.str "span",.str "clock"])(D_is_number:bR P w K mg base "is_number" 8 ["word"] p6)(D_plain_rule:bR P w K mg base "plain_rule" 8 ["row","voices"] (kx P w K mg base aM 7))(DM_Every:h8 P w K mg base "Every" C 7 ["self","row","turns","turn","inner"] (iM K C)):aN P w K mg base cc 9 f fd ["row","voices"] (mJ P w K mg base aM C 7):=by
 refine F.ok sc_every_rule (fun _ _ _ _ h=>?_) (fun _ A _ s H vs Q E hr h=>?_)
 ·obtain⟨row,rest,kind,t,u,ns,nv,D,g,sp,RIn,rfl,_⟩:=h
  rfl
 obtain⟨row,rest,kind,t,u,ns,nv,D,g,sp,RIn,rfl,RE,R,hkd,u0,u1,tab,hg,fn,k,mono,kq⟩:=h
 refine⟨_,(ae (bM (i:=2) sc_every_rule.nd (bJ K PySem.F.plainAttrs_str PySem.F.slot_str_split PySem.F.type_str_split xc (pr 0) (aa bD (aa af ah))))
 (ae (aW (PW.pt (dq (bh (av Av (az (aC K) (by rfl) T.n_len boot_len (aa (pr 2) ah)) af (aB _))) (dq (cI (bu (aD D_is_number hr (by rfl) (aa (ax (aG K) (pr 2) af (fun _ _=>rfl)) ah)) (fun _=>rfl))) (cW (cI (bu (aD D_is_number hr (by rfl) (aa (ax (aG K) (pr 2) af (fun _ _=>rfl)) ah)) (fun _=>rfl))))))) (ai (aw aV)) aF)
 (ae (bM (i:=3) sc_every_rule.nd (bo (fm) (by rfl) T.n_int boot_int (aa (ax (aG K) (pr 2) af (fun _ _=>rfl)) ah)))
 (ae (bM (i:=4) sc_every_rule.nd (bo (fm) (by rfl) T.n_int boot_int (aa (ax (aG K) (pr 2) af (fun _ _=>rfl)) ah)))
 (ae (aW (PW.pt (dq (cI (bh (iy (o0 gz) (o0 mh) af (pr 4) (pr 3)))) (cW (bh (av (nJ K) (ax (aG K) (bJ K PySem.F.plainAttrs_str PySem.F.slot_str_split PySem.F.type_str_split j5 (ax (aG K) (pr 2) af (fun _ _=>rfl)) (aa bD ah)) af (fun _ _=>rfl)) (nO T.g_INNER_KINDS) (by with_unfolding_all rfl)))))) (ai (aw aV)) aF)
 (ae (bM (i:=5) sc_every_rule.nd (aD D_plain_rule hr (by rfl) (aa (ax (aG K) (pr 2) af (fun _ _=>rfl)) (aa (pr 1) ah))))
 (ai (aw (dQ (bh (av dJ (pr 5) aV (aB _))) aV (pX DM_Every hr (by rfl) (aa (pr 0) (aa (pr 3) (aa (pr 4) (aa (pr 5) ah)))))))))))))),?_⟩
 have hs:sizeLine=16777216:=sizeLine_eq;have hl:=RE.len;refine aH (fun Z H'=>∃p:Addr,H' p=some (.lst ([Str.ofString "every",aO t,aO u,rest].map V.str))/\Z=[some (.str row),some (.int nv),some (.ref p),none,none,none]/\ar H H') ?_ ?_
 ·intro u' hu
  walk_at "r";refine⟨32,by decide +kernel,by decide,by decide,by decide,RE.pos,by omega,?_,fun p hp=>?_⟩
  ·rw [show Int.toNat 3=3 from rfl,RE.split];show 4<=_;omega
  ·rw [show Int.toNat 3=3 from rfl,RE.split]
   exact hu _ _ ⟨p,ag,rfl,ak hp⟩
 rintro Ω ω _ H0 ⟨p,hp0,rfl,s0⟩;have a0:aL K H0 p ([Str.ofString "every",aO t,aO u,rest].map V.str):=aL.of hp0
 have num:∀{n:Int} {H1:Hp} {Q':VK},n.natAbs < 10 ^ 40->(∀H',ar H1 H'->Q' (.bl true) H')->p6 [.str (aO n)] H1 Q' E0:=fun {n H1 Q'} hn hq=>by
  refine⟨aO n,rfl,?_,fun H' s'=>?_⟩
  ·have:=bI hn;omega
  ·rw [show(aO n).cps.toList=gH n from rfl,kP hn]
   exact hq H' s'
 refine ω _ _ (aH (fun Z H'=>Z=[some (.str row),some (.int nv),some (.ref p),none,none,none]/\ar H0 H') ?_ ?_)
 ·intro u' hu
  walk_at "r";refine⟨_,.inl a0,?_⟩;walk_at "r";rw [if_pos (show(((0:Nat)+1+1+1+1:Nat):Int)=4 from rfl)];refine bG a0 (show dC _ ((1:Nat):Int)=_ from aA rfl) (num RE.tb fun H1 s1=>?_);walk_at "r";refine bG (s1.seq a0) (show dC _ ((2:Nat):Int)=_ from aA rfl) (num RE.ub fun H2 s2=>?_);walk_at "r";exact hu _ _ ⟨rfl,s1.trans s2⟩
 clear a0;rintro Ω ω _ H1 ⟨rfl,s01⟩;have s1:=s0.trans s01;have a1:aL K H1 p ([Str.ofString "every",aO t,aO u,rest].map V.str):=aL.of (s01 _ _ hp0);have int':∀{n:Int},n.natAbs < 10 ^ 40->intText? (aO n)=some n/\(aO n).length<=640:=fun {n} hn=>⟨mw (ab0 hn (ah3 (by decide) (by decide))),by have:=bI hn;omega⟩;refine ω _ _ (aH (fun Z H'=>Z=[some (.str row),some (.int nv),some (.ref p),some (.int t),none,none]/\H1=H') ?_ ?_)
 ·intro u' hu
  walk_at "r";refine bG a1 (show dC _ ((1:Nat):Int)=_ from aA rfl) ?_;walk_at "r";exact⟨t,(int' RE.tb).1,(int' RE.tb).2,hu _ _ ⟨rfl,rfl⟩⟩
 rintro Ω ω _ _ ⟨rfl,rfl⟩;refine ω _ _ (aH (fun Z H'=>Z=[some (.str row),some (.int nv),some (.ref p),some (.int t),some (.int u),none]/\H1=H') ?_ ?_)
 ·intro u' hu
  walk_at "r";refine bG a1 (show dC _ ((2:Nat):Int)=_ from aA rfl) ?_;walk_at "r";exact⟨u,(int' RE.ub).1,(int' RE.ub).2,hu _ _ ⟨rfl,rfl⟩⟩
 rintro Ω ω _ _ ⟨rfl,rfl⟩;have hrl:=RE.rl;refine ω _ _ (aH (fun Z H'=>Z=[some (.str row),some (.int nv),some (.ref p),some (.int t),some (.int u),none]/\ar H1 H') ?_ ?_)
 ·intro u' hu
  walk_at "r";rw [if_pos u0,if_pos u1];refine bG a1 (show dC _ ((3:Nat):Int)=_ from aA rfl) ?_;walk_at "r";refine⟨32,by decide +kernel,by decide,by omega,fun p1 hp1=>?_⟩;rw [R.split];have s':ar H1 (upd H1 p1 (.lst ((kind::ns.map aO).map V.str))):=ak hp1;refine bG (aL.of ag) (aP rfl) (tq (ws:=[Str.ofString "span",Str.ofString "clock"]) (hI.at _) ⟨_,rfl,?_⟩)
  rw [decide_eq_true (show kind∈[Str.ofString "span",Str.ofString "clock"]by rcases hkd with rfl | rfl<;>simp),if_neg (by exact aa6)]
  exact hu _ _ ⟨rfl,s'⟩
 rintro Ω ω _ H2 ⟨rfl,s12⟩;have s2:=s1.trans s12;have a2:aL K H2 p ([Str.ofString "every",aO t,aO u,rest].map V.str):=s12.seq a1;refine ω _ _ (aH (fun Z H'=>∃ri:Addr,RIn ri H'/\Z=[some (.str row),some (.int nv),some (.ref p),some (.int t),some (.int u),some (.ref ri)]/\ar H H') ?_ ?_)
 ·intro u' hu
  walk_at "r";refine bG a2 (show dC _ ((3:Nat):Int)=_ from aA rfl) ?_;refine⟨rest,kind,ns,nv,D,g,sp,fun v H''=>∃ri,v=.ref ri/\ar H H''/\RIn ri H'',rfl,R,tab,hg,fn,fun q H' Q' sm hq hres=>k q H' Q' (s2.trans sm) hq fun ri H'' s'' hri=>hres _ _ ⟨ri,rfl,s'',hri⟩,?_⟩;rintro v H' ⟨ri,rfl,s',hri⟩;exact hu _ _ ⟨ri,hri,rfl,s'⟩
 rintro Ω ω _ H3 ⟨ri,hri,rfl,s3⟩;refine ω _ _ ?_;walk_at "r";show ∀x dx:Addr,_;intro x dx hx hdx hne;have s5:ar H (upd (upd H3 dx (.own x)) x (.ins C dx [])):=(s3.upd hdx).upd (by rw [aj (Ne.symm hne)];exact hx)
 have s35:ar H3 (upd (upd (upd H3 dx (.own x)) x (.ins C dx [])) x (.ins C dx (cq row t u ri))):=fun c o hc=>by
  have n1:c≠x:=au hc hx;rw [aj n1,aj n1,aj (au hc hdx)];exact hc
 refine⟨x,dx,ri,row,t,u,rfl,ag,rfl,?_⟩;exact kq x _ (s3.trans s35) ⟨dx,ri,ag,mono _ _ _ s35 hri⟩
theorem pb{T0:Addr}(F:qg K "read_rule" "read_rule" fT f fd T0)(T:Txt mg aM)(D_plain_rule:bR P w K mg base "plain_rule" 9 ["row","voices"] (kx P w K mg base aM 7))(D_every_rule:bR P w K mg base "every_rule" 9 ["row","voices"] (mJ P w K mg base aM C 7)):aN P w K mg base cc 10 f fd ["text","voices","row"] (vZ P w K mg base aM C 7):=by
 refine F.ok sc_read_rule (fun _ _ _ _ h=>?_) (fun _ A _ s H vs Q E hr h=>?_)
 ·obtain⟨row,nv,z,rfl,_⟩:=h
  rfl
 obtain⟨row,nv,z,rfl,⟨rest,t,u,RE⟩,k⟩:=h
 refine⟨_,(ae (bM (i:=3) sc_read_rule.nd (dQ (bu (bJ K PySem.F.plainAttrs_str PySem.F.slot_str_startswith PySem.F.type_str_startswith fW (pr 0) (aa bD ah)) (fun _=>rfl)) (aD D_every_rule hr (by rfl) (aa (pr 0) (aa (pr 1) ah))) (aD D_plain_rule hr (by rfl) (aa (pr 0) (aa (pr 1) ah)))))
 (ae (aW (bh (av dJ (pr 3) aV (aB _))) (ai ke) aF)
 (ai (aw (pr 3))))),?_⟩
 walk_at "r";rw [RE.starts,if_pos rfl];obtain⟨row',rest',kind,t',u',ns,nv',D,g,sp,RIn,e,k⟩:=k;refine⟨row',rest',kind,t',u',ns,nv',D,g,sp,RIn,e,?_⟩;obtain⟨k1,k2,k3,k4,k5,k6,k7,k8,k9,k10,k11⟩:=k;refine⟨k1,k2,k3,k4,k5,k6,k7,k8,k9,k10,fun r H' s' hr=>?_⟩;obtain⟨hn,q⟩:=k11 r H' s' hr;rw [if_neg hn];exact q
theorem qT(F:cM K "broken_at" "broken_at" iH f fd)(T:Txt mg aM):aN P w K mg base cc 8 f fd ["rule","line"] (n9 P w K mg base 7):=by
 refine F.ok sc_broken_at (fun _ _ _ _ h=>?_) (fun _ A _ s H vs Q E hr h=>?_)
 ·obtain⟨r,l,nv,C,S,RI,G,cols,rfl,_⟩:=h
  rfl
 obtain⟨r,l,nv,C,S,RI,G,cols,rfl,R,hri,hL,hcl,k⟩:=h
 refine⟨_,(ae (bM (i:=2) sc_broken_at.nd (eC P w K mg base hr (pr 0)))
 (ae (bM (i:=3) sc_broken_at.nd aV)
 (ae (bK PassesOwn.never rfl (gA rfl T.n_enumerate (aa (pr 1) ah)) (cR K (n:=2) rfl (ba (gD (i:=4) sc_broken_at.nd) (ba (gD (i:=5) sc_broken_at.nd) cS)))
 (ae (bM (i:=2) sc_broken_at.nd (dR P w K mg base hr (pr 0) (aa (pr 2) (aa (pr 3) (aa (pr 5) ah)))))
 (ae (aW (bh (av dJ (pr 2) aV (aB _))) (ai (aw (pr 4))) aF)
 (ai (bM (i:=3) sc_broken_at.nd (pr 5))))))
 (ai (aw (dQ (bu (dR P w K mg base hr (pr 0) (aa (pr 2) (aa (pr 3) ah))) (fun _=>rfl)) aV (az (aC K) (by rfl) T.n_len boot_len (aa (pr 1) ah)))))))),?_⟩
 have hs:sizeLine=16777216:=sizeLine_eq;walk_at "r";obtain⟨dx,fs,hir,q1,q2,q3,q4,q5⟩:=R.ins r H hri;refine⟨C,dx,fs,hir,q2,_,_,R.start,r,rfl,hri,?_⟩;obtain⟨ps,hps,hpl,hpc⟩:=hL;obtain⟨Pv,hPv⟩:∃Pv:Nat->L2.St->Hp->Prop,Pv=fun i Z H'=>∃(m:Int) (bx:V) (b:Option (List Int)) (o o':Option V),Z=[some (.ref r),some (.ref l),some (.int m),some bx,o,o']/\ar H H'/\G m/\BV K H' nv b bx/\ja S S.start none 0 cols=ja S m b i (cols.drop i):=⟨_,rfl⟩;refine⟨true,⟨_,hps⟩,gG (l:=true) (us:=ps.map V.ref) Pv (by rw [hPv];exact⟨S.start,.non,none,none,none,rfl,ar.refl H,R.g0,.inl ⟨rfl,rfl⟩,rfl⟩) (fun i Z H' _ h=>by rw [hPv]at h;obtain⟨m,bx,b,o,o',_,sm,_⟩:=h;exact sm.seq hps) ?_ ?_⟩
 ·intro i y Z H1 p hx hI hp0
  have hI':=hI;rw [hPv]at hI';clear hI;obtain⟨m,bx,b,o,o',rfl,sm,gm,hb,e⟩:=hI'
  obtain⟨c,hc0,rfl⟩:∃c,ps[i]?=some c/\y=.ref c:=by
   rw [aa5]at hx
   cases hc:ps[i]? with
   | none=>rw [hc]at hx;cases hx
   | some c=>rw [hc]at hx;exact⟨c,rfl,(Option.some.inj hx).symm⟩
  have hi:i < cols.length:=by have:=(aa3.mp hc0).1;omega
  have hu:cols[i]?=some cols[i]:=aa1 hi;obtain⟨hct,hcl'⟩:=hpc i c _ hc0 hu;have s2:ar H (upd H1 p (.tup [.int i,.ref c])):=sm.upd hp0;have hb2:BV K (upd H1 p (.tup [.int i,.ref c])) nv b bx:=hb.same (ak hp0);walk_at "r";refine⟨_,bH.of ag,rfl,?_⟩;walk_at "r";generalize upd H1 p (.tup [.int i,.ref c])=H2 at s2 hb2;have hri2:=R.mono r _ _ s2 hri;obtain⟨dx2,fs2,hir2,z1,z2,z3,z4,z5⟩:=R.ins r H2 hri2;refine⟨C,dx2,fs2,hir2,z3,_,_,R.after,r,m,bx,c,b,_,rfl,hri2,gm,hb2,s2.tup hct,hcl',?_⟩;have ed:cols.drop i=cols[i]::cols.drop (i+1):=(ak2 hi);rw [ed]at e;simp only [ja]at e
  cases ha:S.after m b cols[i]with
  | none=>
   rw [ha]at e;simp only at e;show if xh none=V.non then _ else _;rw [if_pos (show xh none=V.non from rfl)];have hk:=k H2 s2;unfold brk at hk;rw [e]at hk;exact hk
  | some m'=>
   rw [ha]at e;simp only at e
   have hne:¬(xh (some m')=V.non):=fun z=>by cases z
   show if xh (some m')=V.non then _ else _;rw [if_neg hne];rw [hPv];exact⟨m',_,some cols[i],_,_,rfl,s2,R.gS _ _ _ _ gm ha,.inr ⟨c,_,rfl,rfl,s2.tup hct,hcl'⟩,e⟩
 ·intro Z H1 hI
  rw [hPv]at hI;obtain⟨m,bx,b,o,o',rfl,sm,gm,hb,e⟩:=hI;walk_at "r";have hri2:=R.mono r _ _ sm hri;obtain⟨dx2,fs2,hir2,z1,z2,z3,z4,z5⟩:=R.ins r H1 hri2;refine⟨C,dx2,fs2,hir2,z4,_,_,R.closes,r,m,bx,b,rfl,hri2,gm,hb,?_⟩;walk_at "r";have hk:=k H1 sm;unfold brk at hk;rw [e,aa0,hpl,al7 (aa9 _)]at hk;simp only [ja]at hk
  by_cases hc:S.closes m b=true
  ·rw [if_pos hc]
   rw [if_pos hc]at hk;exact hk
  ·rw [if_neg hc]
   rw [if_neg hc]at hk;refine⟨_,.inl (sm.seq hps),?_⟩;rw [aa0,hpl];exact hk
theorem qU(F:cM K "memories_after" "memories_after" eJ f fd)(T:Txt mg aM):aN P w K mg base cc 8 f fd ["rules","memories","before","column"] (jy P w K mg base):=by
 refine F.ok sc_memories_after (fun _ _ _ _ h=>?_) (fun _ A _ s H vs Q E hr h=>?_)
 ·obtain⟨rb,ma,ca,bx,nv,Ss,Gs,rs,ms,c,b,rfl,_⟩:=h
  rfl
 obtain⟨rb,ma,ca,bx,nv,Ss,Gs,rs,ms,c,b,rfl,RM,lS,hma,hM,hb,hc,hcl,k1,k2⟩:=h
 refine⟨_,(ae (bM (i:=4) sc_memories_after.nd (bQ ah))
 (ae (bK PassesOwn.never rfl (gA rfl T.n_enumerate (aa (pr 0) ah)) (cR K (n:=2) rfl (ba (gD (i:=5) sc_memories_after.nd) (ba (gD (i:=6) sc_memories_after.nd) cS)))
 (ae (bM (i:=7) sc_memories_after.nd (dR P w K mg base hr (pr 6) (aa (ax (aG K) (pr 1) (pr 5) (fun _ _=>rfl)) (aa (pr 2) (aa (pr 3) ah)))))
 (ae (aW (bh (av dJ (pr 7) aV (aB _))) (ai (aw aV)) aF)
 (ai (bF (bJ K PySem.F.plainAttrs_list PySem.F.slot_list_append PySem.F.type_list_append bT (pr 4) (aa (pr 7) ah)))))))
 (ai (aw (bo (fS K) (by rfl) T.n_tuple boot_tuple (aa (pr 4) ah)))))),?_⟩
 have hs:sizeLine=16777216:=sizeLine_eq;have lr:=RM.len;have lg:=RM.gl;have lm:=hM.1
 have lres:(kh Ss ms b c).length=Ss.length:=by
  unfold kh;rw [List.length_zipWith];omega
 refine aH (fun Z H'=>∃q:Addr,H q=none/\H' q=some (.lst [])/\Z=[some (.ref rb),some (.ref ma),some bx,some (.ref ca),some (.ref q),none,none,none]/\ar H H') ?_ ?_
 ·intro u' hu
  walk_at "r";exact⟨by omega,fun q hq=>hu _ _ ⟨q,hq,ag,rfl,ak hq⟩⟩
 rintro Ω ω _ H1 ⟨q,hq0,hq1,rfl,s1⟩;refine ω _ _ (aH (fun Z H'=>∃(r:List Int) (o5 o6 o7:Option V),kh Ss ms b c=r.map some/\H' q=some (.lst (r.map V.int))/\Z=[some (.ref rb),some (.ref ma),some bx,some (.ref ca),some (.ref q),o5,o6,o7]/\ar H H') ?_ ?_)
 ·intro u' hu
  walk_at "r";obtain⟨Pv,hPv⟩:∃Pv:Nat->L2.St->Hp->Prop,Pv=fun i Z H'=>∃(r:List Int) (o5 o6 o7:Option V),(kh Ss ms b c).take i=r.map some/\r.length=i/\H' q=some (.lst (r.map V.int))/\Z=[some (.ref rb),some (.ref ma),some bx,some (.ref ca),some (.ref q),o5,o6,o7]/\ar H H':=⟨_,rfl⟩;refine⟨true,⟨_,s1.seq RM.sq⟩,gG (l:=true) (us:=rs.map V.ref) Pv (by rw [hPv];exact⟨[],none,none,none,rfl,rfl,hq1,rfl,s1⟩) (fun i Z H' _ h=>?_) ?_ ?_⟩
  ·rw [hPv]at h
   obtain⟨_,_,_,_,_,_,_,_,s'⟩:=h;exact s'.seq RM.sq
  ·intro i y Z H2 p hx hI hp0
   rw [hPv]at hI;obtain⟨r,o5,o6,o7,hr1,hrl,hq2,rfl,s2⟩:=hI;rw [aa5]at hx
   cases hri:rs[i]? with
   | none=>rw [hri]at hx;cases hx
   | some ra=>
    rw [hri]at hx;cases hx
    have hi:i < Ss.length:=by rw [<-lr];exact(aa3.mp hri).1
    obtain⟨S,hS⟩:∃S,Ss[i]?=some S:=⟨_,aa1 hi⟩;obtain⟨G,hG⟩:∃G,Gs[i]?=some G:=⟨_,aa1 (by omega)⟩;obtain⟨m,hm⟩:∃m,ms[i]?=some m:=⟨_,aa1 (by omega)⟩
    have hres:(kh Ss ms b c)[i]?=some (S.after m b c):=by
     unfold kh;rw [am0,hS,hm]
    have s3:ar H (upd H2 p (.tup [.int i,.ref ra])):=s2.upd hp0;have hq3:=(ak (o:=HO.tup [.int i,.ref ra]) hp0) _ _ hq2;have s23:=ak (o:=HO.tup [.int i,.ref ra]) hp0;walk_at "r";refine⟨_,bH.of ag,rfl,?_⟩;walk_at "r";generalize upd H2 p (.tup [.int i,.ref ra])=H3 at s3 hq3 s23;obtain⟨C,RI,RO,hRI⟩:=(RM.same s3).at_ i ra S G hri hS hG;obtain⟨dx,fs,hir,z1,z2,z3,z4,z5⟩:=RO.ins ra H3 hRI;refine⟨C,dx,fs,hir,z3,_,_,RO.after,aR (s3.tup hma) (aA (by rw [aa5,hm];rfl)) ⟨ra,m,bx,ca,b,c,rfl,hRI,hM.2 i G m hG hm,hb.same s3,s3.tup hc,hcl,?_⟩⟩
    cases ha:S.after m b c with
    | none=>
     show if xh none=V.non then _ else _;rw [if_pos (show xh none=V.non from rfl)];exact k1 (lH (i:=i) (by rw [hres,ha])) _ s3
    | some m'=>
     show if xh (some m')=V.non then _ else _;rw [if_neg (show ¬(xh (some m')=V.non)from fun z=>by cases z)];refine⟨.inl ⟨rfl,_,aL.of hq3⟩,q,_,_,rfl,rfl,hq3,by rw [aa0];omega,?_⟩;rw [hPv];refine⟨r++[m'],_,_,_,?_,by rw [ab2,hrl];rfl,?_,rfl,xO hq0 s3⟩
     ·rw [ac1,hr1,hres,ha,ab4]
      rfl
     ·rw [ag,ab4]
      rfl
  ·intro Z H2 hI
   rw [hPv]at hI;obtain⟨r,o5,o6,o7,hr1,hrl,hq2,rfl,s2⟩:=hI;rw [aa0,lr,<-lres,ac8]at hr1;exact hu _ _ ⟨r,o5,o6,o7,hr1,hq2,rfl,s2⟩
 rintro Ω ω _ H2 ⟨r,o5,o6,o7,hr1,hq2,rfl,s2⟩;refine ω _ _ ?_;walk_at "r";have hsome:=lI hr1;refine⟨_,.inl ⟨aL.of hq2,fun p hp=>k2 r hsome ⟨?_,fun j G m' hG hm'=>?_⟩ p _ ag (s2.free hp) (s2.upd hp)⟩⟩
 ·have:=congrArg List.length hr1
  rw [aa0]at this;omega
 ·have hj:j < Gs.length:=(aa3.mp hG).1
  obtain⟨S,hS⟩:∃S,Ss[j]?=some S:=⟨_,aa1 (by omega)⟩;obtain⟨m,hm⟩:∃m,ms[j]?=some m:=⟨_,aa1 (by omega)⟩;obtain⟨ra,hra⟩:∃ra,rs[j]?=some ra:=⟨_,aa1 (by omega)⟩;obtain⟨C,RI,RO,_⟩:=RM.at_ j ra S G hra hS hG
  have hres:(kh Ss ms b c)[j]?=some (S.after m b c):=by
   unfold kh;rw [am0,hS,hm]
  rw [hr1,aa5,hm']at hres;exact RO.gS m b c m' (hM.2 j G m hG hm) (Option.some.inj hres).symm
theorem qS(F:cM K "all_close" "all_close" iG f fd)(T:Txt mg aM):aN P w K mg base cc 8 f fd ["rules","memories","last"] (jv P w K mg base):=by
 refine F.ok rz (fun _ _ _ _ h=>?_) (fun _ A _ s H vs Q E hr h=>?_)
 ·obtain⟨rb,ma,bx,nv,Ss,Gs,rs,ms,b,rfl,_⟩:=h
  rfl
 obtain⟨rb,ma,bx,nv,Ss,Gs,rs,ms,b,rfl,RM,lS,hma,hM,hb,k⟩:=h;refine⟨_,(ai (aw (az (gr K rfl) (by rfl) T.n_all boot_all (aa (c8 (own:=["rule","memory"]) (js:=[2]) rfl (Dx rfl T.n_zip (aa (pr 0) (aa (pr 1) ah))) (bw.of (by rfl)) (fun _ _ _ _ _=>(cR K (n:=2) rfl (ba (bL (i:=0) (show List.Nodup (["rule","memory","last"]:List Str)from by decide +kernel) rfl (Or.inl rfl)) (ba (bL (i:=1) (show List.Nodup (["rule","memory","last"]:List Str)from by decide +kernel) rfl (Or.inl rfl)) cS)))) (fun _ _ _ _ _=>cJ) (fun _ _ _ _ _=>(dR P w K mg base hr (pr 0) (aa (pr 1) (aa (pr 2) ah))))) ah)))),?_⟩;have hs:sizeLine=16777216:=sizeLine_eq;have lr:=RM.len;have lg:=RM.gl;have lm:=hM.1;walk_at "r";refine⟨true,⟨_,RM.sq⟩,false,⟨_,hma⟩,wD (l1:=true) (l2:=false) (us:=rs.map V.ref) (vs:=ms.map V.int) (fun i ys H'=>ys=((List.zipWith (fun S m=>S.closes m b) Ss ms).take i).map V.bl/\ar H H') (by rw [aa0];omega) (by rw [aa0,aa0];omega) ⟨rfl,ar.refl _⟩ ?_ ?_ ?_ ?_⟩
 ·rintro i ys H' ⟨rfl,_⟩
  rw [aa0,ac3];omega
 ·rintro i ys H' ⟨rfl,s'⟩
  exact⟨s'.seq RM.sq,s'.tup hma⟩
 ·rintro i x y ys H1 p hx hy ⟨rfl,s1⟩ hp
  rw [aa5]at hx hy
  cases hri:rs[i]? with
  | none=>rw [hri]at hx;cases hx
  | some ra=>
   cases hm:ms[i]? with
   | none=>rw [hm]at hy;cases hy
   | some m=>
    rw [hri]at hx;rw [hm]at hy;cases hx;cases hy
    have hi:i < Ss.length:=by rw [<-lr];exact(aa3.mp hri).1
    obtain⟨S,hS⟩:∃S,Ss[i]?=some S:=⟨_,aa1 hi⟩;obtain⟨G,hG⟩:∃G,Gs[i]?=some G:=⟨_,aa1 (by omega)⟩;have s2:ar H (upd H1 p (.tup [.ref ra,.int m])):=s1.upd hp;simp only [gq];walk_at "r";refine⟨_,bH.of ag,rfl,?_⟩;walk_at "r";generalize upd H1 p (.tup [.ref ra,.int m])=H2 at s2;obtain⟨C,RI,RO,hRI⟩:=(RM.same s2).at_ i ra S G hri hS hG;obtain⟨dx,fs,hir,z1,z2,z3,z4,z5⟩:=RO.ins ra H2 hRI;refine⟨C,dx,fs,hir,z4,_,_,RO.closes,ra,m,bx,b,rfl,hRI,hM.2 i G m hG hm,hb.same s2,?_⟩
    have hz:(List.zipWith (fun S m=>S.closes m b) Ss ms)[i]?=some (S.closes m b):=by rw [am0,hS,hm]
    refine⟨?_,s2⟩;rw [ac1,hz,ab4];rfl
 ·rintro ys H1 ⟨rfl,s1⟩ p hp
  refine⟨_,aL.of ag,?_⟩;rw [aa0];have e:(List.zipWith (fun S m=>S.closes m b) Ss ms).take rs.length=List.zipWith (fun S m=>S.closes m b) Ss ms:=ag2 (by rw [List.length_zipWith];omega);rw [e];exact k _ (s1.upd hp)
structure hX(P:Program)(w:World)(Ss:List bO)(Gs:List (Int->Prop))(cols:List (List Int))(nv:Nat)(U:List MS)(H:Hp)(ma na la wa:Addr)(H':Hp)(met:List MS)(ds:List Addr):Prop where
 mt:∃ps:List Addr,H' ma=some (.lst (ps.map V.ref))/\ps.length=met.length/\∀(j:Nat) (p:Addr) (s:MS),ps[j]?=some p->met[j]?=some s->(g9 P w).at_ H' (bP s) p
 nm:∃xs,bB (g9 P w) H' na xs/\jJ met xs/\xs.length<=met.length
 la_:H' la=some (.lst (ds.map V.ref))
 ld:∀(i:Nat) (d:Addr) (s:MS),ds[i]?=some d->met[i]?=some s->∃xs,bB (AG P w) H' d xs/\dF Ss cols met s xs
 fr:∀d∈ds,H d=none
 wl:H' wa=some (.lst ((met.take ds.length).map fun s=>V.bl (bY Ss s.2 s.1)))
 le:ds.length<=met.length
 mf:vD Ss cols met
 al:∀s∈met,s∈U/\qj Gs s.2/\∀c,s.1=some c->c.length=nv
 sx:xZ [ma,na,la,wa] H H'
section
variable {U:List MS} {H'':Hp} {ma na la wa:Addr} {ds:List Addr}
theorem hX.same(B:hX P w Ss Gs cols nv U H ma na la wa H' met ds)(s:ar H' H''):hX P w Ss Gs cols nv U H ma na la wa H'' met ds where
 mt:=let ⟨ps,h1,h2,h3⟩:=B.mt;⟨ps,s _ _ h1,h2,fun j p t e1 e2=>(g9 P w).same s (h3 j p t e1 e2)⟩
 nm:=let ⟨xs,h1,h2,h3⟩:=B.nm;⟨xs,h1.same s,h2,h3⟩
 la_:=s _ _ B.la_
 ld:=fun i d t e1 e2=>let ⟨xs,h1,h2⟩:=B.ld i d t e1 e2;⟨xs,h1.same s,h2⟩
 fr:=B.fr
 wl:=s _ _ B.wl
 le:=B.le
 mf:=B.mf
 al:=B.al
 sx:=fun b o hb e=>s _ _ (B.sx b o hb e)
theorem hX.upd{o:HO}(B:hX P w Ss Gs cols nv U H ma na la wa H' met ds)(nt:∀vs,H' z≠some (.tup vs))(h0:H z=none)(n1:z≠ma)(n2:z≠na)(n3:z≠la)(n4:z≠wa)(nd:∀d∈ds,d≠z):hX P w Ss Gs cols nv U H ma na la wa (upd H' z o) met ds where
 mt:=let ⟨ps,h1,h2,h3⟩:=B.mt;⟨ps,by rw [aj n1.symm];exact h1,h2,fun j p t e1 e2=>(g9 P w).upd_ (h3 j p t e1 e2) nt⟩
 nm:=let ⟨xs,h1,h2,h3⟩:=B.nm;⟨xs,h1.upd n2.symm nt,h2,h3⟩
 la_:=by rw [aj n3.symm];exact B.la_
 ld:=fun i d t e1 e2=>let ⟨xs,h1,h2⟩:=B.ld i d t e1 e2;⟨xs,h1.upd (nd d (ac5 e1)) nt,h2⟩
 fr:=B.fr
 wl:=by rw [aj n4.symm];exact B.wl
 le:=B.le
 mf:=B.mf
 al:=B.al
 sx:=fun b o' hb e=>by rw [aj (fun q=>by rw [q,h0]at e;cases e)];exact B.sx b o' hb e
theorem hX.put{xs:List (List (Option (List Int))×Addr×V)}{p:Addr}{s' t:MS}{c:List Int}(B:hX P w Ss Gs cols nv U H ma na la wa H' met ds)(D:bB (g9 P w) H' na xs)(hN:jJ met xs)(hx:xs.length<=met.length)(h1:H' ma=some (.lst (ps.map V.ref)))(h2:ps.length=met.length)
  (h3:∀(j:Nat) (p:Addr) (s:MS),ps[j]?=some p->met[j]?=some s->(g9 P w).at_ H' (bP s) p) (hp:(g9 P w).at_ H' (bP s') p) (hnew:s'∉met) (hU:s'∈U) (hM:qj Gs s'.2) (hw:∀c,s'.1=some c->c.length=nv) (hfrom:met[i]?=some t) (hc:c∈cols) (hn:cg Ss t c=some s')
  (lm:met.length < 100000) (n1:ma≠na) (n3:ma≠la) (n4:ma≠wa) (m3:na≠la) (m4:na≠wa) (hma:H ma≠none) (hna:H na≠none) :
  hX P w Ss Gs cols nv U H ma na la wa (L2.upd (L2.upd H' na (dO (g9 P w) na (eD xs (bP s') p (.int met.length)))) ma (.lst (ps.map V.ref++[.ref p]))) (met++[s']) ds:=by
 have ntN:∀vs,H' na≠some (.tup vs):=fun vs e=>by rw [D.ob]at e;cases e
 have ntM:∀vs,(L2.upd H' na (dO (g9 P w) na (eD xs (bP s') p (.int met.length)))) ma≠some (.tup vs):=fun vs e=>by rw [aj n1,h1]at e;cases e
 have dM:∀d∈ds,d≠ma:=fun d hd e=>hma (by rw [<-e];exact B.fr d hd);have dN:∀d∈ds,d≠na:=fun d hd e=>hna (by rw [<-e];exact B.fr d hd);have up2:∀{k:List (Option (List Int))} {a:Addr},(g9 P w).at_ H' k a->(g9 P w).at_ (L2.upd (L2.upd H' na (dO (g9 P w) na (eD xs (bP s') p (.int met.length)))) ma (.lst (ps.map V.ref++[.ref p]))) k a:=fun h=>(g9 P w).upd_ ((g9 P w).upd_ h ntN) ntM
 have hput:(eD xs (bP s') p (V.int met.length)).length<=met.length+1:=by
  unfold eD
  split
  ·rw [aa0];omega
  ·rw [ab2];simp;omega
 refine⟨⟨ps++[p],by rw [ag,ab4];rfl,by rw [ab2,ab2,h2];rfl,fun j q t e1 e2=>?_⟩,⟨_,(D.put hp (by omega)).upd n1.symm ntM,hN.put hnew,by rw [ab2];exact hput⟩,?_,fun i d t e1 e2=>?_,B.fr,?_,?_,⟨?_,?_,fun i' t' e1 hi=>?_⟩,fun t ht=>?_,fun b o hb e=>?_⟩
 ·by_cases hj:j < ps.length
  ·rw [ab5 hj]at e1
   rw [ab5 (by rw [<-h2];exact hj)]at e2;exact up2 (h3 j q t e1 e2)
  ·rw [ac4 (by omega)]at e1
   rw [ac4 (by rw [<-h2];omega),<-h2]at e2
   have h0:j - ps.length=0:=by
    have:=(aa3.mp e1).1
    simp at this;omega
   rw [h0]at e1 e2;cases e1;cases e2;exact up2 hp
 ·rw [aj n3.symm,aj m3.symm]
  exact B.la_
 ·have hlt:i < met.length:=ab0 (aa3.mp e1).1 B.le
  rw [ab5 hlt]at e2;obtain⟨ys,g1,g2⟩:=B.ld i d t e1 e2;have hd:=ac5 e1;exact⟨ys,(g1.upd (dN d hd) ntN).upd (dM d hd) ntM,g2.more _⟩
 ·rw [aj n4.symm,aj m4.symm,List.take_append_of_le_length B.le]
  exact B.wl
 ·rw [ab2]
  have:=B.le
  omega
 ·refine ao6.mpr ⟨B.mf.nd,by simp,fun x hx y hy=>?_⟩
  rw [ab6.mp hy];rintro rfl;exact hnew hx
 ·rw [ab5 (aa3.mp B.mf.st).1]
  exact B.mf.st
 ·by_cases hj:i' < met.length
  ·rw [ab5 hj]at e1
   obtain⟨j,t0,c0,g1,g2,g3,g4⟩:=B.mf.sub i' t' e1 hi;exact⟨j,t0,c0,g1,by rw [ab5 (by omega)];exact g2,g3,g4⟩
  ·rw [ac4 (by omega)]at e1
   have h0:i' - met.length=0:=by
    have:=(aa3.mp e1).1
    simp at this;omega
   rw [h0]at e1;cases e1;have hlt:=(aa3.mp hfrom).1;exact⟨i,t,c,by omega,by rw [ab5 hlt];exact hfrom,hc,hn⟩
 ·rcases ac9.mp ht with ht | ht
  ·exact B.al t ht
  ·rw [ab6.mp ht]
   exact⟨hU,hM,hw⟩
 ·have hb1:b≠ma:=fun q=>hb (by simp [q])
  have hb2:b≠na:=fun q=>hb (by simp [q]);rw [aj hb1,aj hb2];exact B.sx b o hb e
theorem hX.close{dA:Addr}{ys:List (List Int×Addr×V)}{st:MS}{H4:Hp}(B:hX P w Ss Gs cols nv U H ma na la wa H' met ds)(D:bB (AG P w) H' dA ys)(L:dF Ss cols met st ys)(hst:met[ds.length]?=some st)(h0:H dA=none)(n3:ma≠la)(n4:ma≠wa)(m3:na≠la)(m4:na≠wa)(lw:la≠wa)(hla:H la≠none)(hwa:H wa≠none)
  (s:ar (L2.upd H' la (.lst (ds.map V.ref++[.ref dA]))) H4):hX P w Ss Gs cols nv U H ma na la wa (L2.upd H4 wa (.lst (((met.take ds.length).map fun s=>V.bl (bY Ss s.2 s.1))++[.bl (bY Ss st.2 st.1)]))) met (ds++[dA]):=by
 have ntL:∀vs,H' la≠some (.tup vs):=fun vs e=>by rw [B.la_]at e;cases e
 have hw4:H4 wa=some (.lst ((met.take ds.length).map fun s=>V.bl (bY Ss s.2 s.1))):=s _ _ (by rw [aj lw.symm];exact B.wl)
 have ntW:∀vs,H4 wa≠some (.tup vs):=fun vs e=>by rw [hw4]at e;cases e
 have dL:∀d∈ds++[dA],d≠la/\d≠wa:=fun d hd=>by
  have:H d=none:=by
   rcases ac9.mp hd with hd | hd
   ·exact B.fr d hd
   ·rw [ab6.mp hd];exact h0
  exact⟨fun e=>hla (by rw [<-e];exact this),fun e=>hwa (by rw [<-e];exact this)⟩
 have hlt:=(aa3.mp hst).1;have kN:∀{k:List (Option (List Int))} {a:Addr},(g9 P w).at_ H' k a->(g9 P w).at_ (L2.upd H4 wa (.lst (((met.take ds.length).map fun s=>V.bl (bY Ss s.2 s.1))++[.bl (bY Ss st.2 st.1)]))) k a:=fun h=>(g9 P w).upd_ ((g9 P w).same s ((g9 P w).upd_ h ntL)) ntW;obtain⟨ps,g1,g2,g3⟩:=B.mt;obtain⟨xs,d1,d2,d3⟩:=B.nm;refine⟨⟨ps,by rw [aj n4];exact s _ _ (by rw [aj n3];exact g1),g2,fun j p t e1 e2=>kN (g3 j p t e1 e2)⟩,⟨xs,((d1.upd m3 ntL).same s).upd m4 ntW,d2,d3⟩,?_,fun i d t e1 e2=>?_,fun d hd=>?_,?_,by rw [ab2];simp;omega,B.mf,B.al,fun b o hb e=>?_⟩
 ·rw [aj lw,ab4]
  exact s _ _ ag
 ·have hd:=ac5 e1
  by_cases hi:i < ds.length
  ·rw [ab5 hi]at e1
   obtain⟨zs,q1,q2⟩:=B.ld i d t e1 e2;exact⟨zs,((q1.upd (dL d hd).1 ntL).same s).upd (dL d hd).2 ntW,q2⟩
  ·rw [ac4 (by omega)]at e1
   have h0':i - ds.length=0:=by
    have:=(aa3.mp e1).1
    simp at this;omega
   rw [h0']at e1;cases e1;rw [show i=ds.length by omega,hst]at e2;cases e2;exact⟨ys,((D.upd (dL dA hd).1 ntL).same s).upd (dL dA hd).2 ntW,L⟩
 ·rcases ac9.mp hd with hd | hd
  ·exact B.fr d hd
  ·rw [ab6.mp hd];exact h0
 ·rw [ag,ab2]
  show _=some (HO.lst (List.map _ (List.take (ds.length+1) met)));rw [ac1,hst,ab4];rfl
 ·have hb1:b≠la:=fun q=>hb (by simp [q])
  have hb2:b≠wa:=fun q=>hb (by simp [q]);rw [aj hb2];exact s _ _ (by rw [aj hb1];exact B.sx b o hb e)
end
def c7(a b:Addr):List (Str×V):=bU "rules" (.ref b) (bU "ranges" (.ref a) [])
structure dm(K:Frag)(C:Addr):Prop where
 cl:rO K C
 n1:NoAttr K C "ranges"
 n2:NoAttr K C "rules"
theorem kT(a b:Addr):(c7 a b).lookup (Str.ofString "ranges")=some (.ref a):=by unfold c7;walk_at "f"
theorem jX(a b:Addr):(c7 a b).lookup (Str.ofString "rules")=some (.ref b):=by unfold c7;walk_at "f"
def bW(K:Frag)(H:Hp)(a:Addr)(bs:List (Int×Int)):Prop:=∃ts:List Addr,aL K H a (ts.map V.ref)/\ts.length=bs.length/\∀(i:Nat) (t:Addr) (b:Int×Int),ts[i]?=some t->bs[i]?=some b->bH K H t [.int b.1,.int b.2]
theorem bW.same{a:Addr}(s:ar H H')(h:bW K H a bs):bW K H' a bs:=by
 obtain⟨ts,h1,h2,h3⟩:=h;exact⟨ts,s.seq h1,h2,fun i t b e1 e2=>s.tup (h3 i t b e1 e2)⟩
def fR(b:Int×Int):Int:=b.2 - b.1+1
def rL(bs:List (Int×Int)):Int:=bs.foldl (fun t b=>t * fR b) 1
theorem mF(f:α->Int):∀(l:List α) (t:Int) (m:Nat),t.natAbs < 2 ^ m->(∀b∈l,(f b).natAbs < 2 ^ 200)->(l.foldl (fun t b=>t * f b) t).natAbs < 2 ^ (m+200 * l.length)
 | [],t,m,h,_=>by simpa using h
 | b::l,t,m,h,hb=>by
  have h1:(t * f b).natAbs < 2 ^ (m+200):=by
   rw [Int.natAbs_mul,Nat.pow_add];exact Nat.mul_lt_mul_of_lt_of_le h (ah8 (hb b (by simp))) (Nat.pow_pos (by decide))
  have:=mF f l (t * f b) (m+200) h1 fun x hx=>hb x (by simp [hx])
  rw [ad1,show m+200 * (l.length+1)=m+200+200 * l.length by omega];exact this
theorem vA(h:∀b∈bs,(fR b).natAbs < 2 ^ 200):(rL bs).natAbs < 2 ^ (1+200 * bs.length):=mF fR bs 1 1 (by decide) h
theorem uu{b:Int}{m:Nat}(ha:a.natAbs < 2 ^ m)(hb:b.natAbs < 2 ^ 200)(h:m<=100000):IntMulOk a b:=IntMulOk.of_le (m:=m) (n:=200) (intBits_le_iff.mpr ha) (intBits_le_iff.mpr hb) (by omega)
def iP(K:Frag)(C:Addr):Sp:=fun vs H Q _=>∃(x dx a b:Addr) (xs ys:List V),vs=[.ref x,.ref a,.ref b]/\H x=some (.ins C dx [])/\aL K H a xs/\aL K H b ys/\
 ∀p q H',H p=none->H q=none->q≠p->H'=upd (upd (upd H p (.lst xs)) q (.lst ys)) x (.ins C dx (c7 p q))->Q .non H'
def wN(b:Int×Int):Nat:=(b.2 - b.1+1).toNat
def dD(b:Int×Int)(c:List Int):List (List Int):=(List.range (wN b)).map fun(j:Nat)=>c++[b.1+(j:Int)]
def br(bs:List (Int×Int)):List (List Int):=bs.foldl (fun told b=>told.flatMap (dD b)) [[]]
def ib(bs:List (Int×Int)):Nat:=bs.foldl (fun t b=>t * wN b) 1
theorem mW(bs:List (Int×Int))(b:Int×Int):br (bs++[b])=(br bs).flatMap (dD b):=by
 unfold br;rw [ai1];rfl
theorem jS(bs:List (Int×Int))(b:Int×Int):ib (bs++[b])=ib bs * wN b:=by
 unfold ib;rw [ai1];rfl
theorem jT{w:Nat}{f:α->List β}(h:∀x,(f x).length=w):∀l:List α,(l.flatMap f).length=l.length * w
 | []=>by simp
 | x::l=>by rw [ao7,ab2,h,jT h l,ad1,Nat.add_mul,Nat.one_mul,Nat.add_comm]
theorem gu(b:Int×Int)(c:List Int):(dD b c).length=wN b:=by
 unfold dD;rw [aa0,ai2]
theorem fq(bs:List (Int×Int)):(br bs).length=ib bs:=by
 have go:∀(bs:List (Int×Int)) (told:List (List Int)),(bs.foldl (fun told b=>told.flatMap (dD b)) told).length=bs.foldl (fun t b=>t * wN b) told.length:=by
  intro bs
  induction bs with
  | nil=>intro told;rfl
  | cons b bs ih=>intro told;rw [ae6,ae6,ih,jT (gu b)]
 exact go bs [[]]
theorem mP(h:∀b∈bs,b.1<=b.2):rL bs=(ib bs:Int):=by
 have go:∀(bs:List (Int×Int)) (t:Nat),(∀b∈bs,b.1<=b.2)->bs.foldl (fun t b=>t * fR b) (t:Int)=((bs.foldl (fun t b=>t * wN b) t:Nat):Int):=by
  intro bs
  induction bs with
  | nil=>intro t _;rfl
  | cons b bs ih=>
   intro t hb
   have:=hb b (by simp)
   rw [ae6,ae6,<-ih _ fun x hx=>hb x (by simp [hx]),an4];congr 2;unfold fR wN;omega
 exact go bs 1 h
theorem mU:∀(bs:List (Int×Int)) (t:Nat),(∀b∈bs,1<=wN b)->t<=bs.foldl (fun t b=>t * wN b) t
 | [],t,_=>aa9 _
 | b::bs,t,h=>ab9 (al0 t (h b (by simp))) (mU bs _ fun x hx=>h x (by simp [hx]))
theorem gs(h:∀b∈bs,1<=wN b)(i:Nat):1<=ib (bs.take i)/\ib (bs.take i)<=ib bs:=by
 refine⟨mU _ 1 fun b hb=>h b (af3 hb),?_⟩
 conv=>rhs;unfold ib;rw [<-List.take_append_drop i bs,ai1]
 exact mU _ _ fun b hb=>h b (am9 hb)
theorem An(h:∀b∈bs,1<=wN b)(hb:bs[i]?=some b):wN b<=ib bs:=by
 have h1:=(gs h (i+1)).2;rw [ac1,hb]at h1;have h2:ib (bs.take i++[b])=ib (bs.take i) * wN b:=jS _ _;have h3:=(gs h i).1;refine ab9 ?_ h1;show wN b<=ib (bs.take i++[b]);rw [h2];exact aj1 _ h3
def fB(H:Hp)(ps:List Addr)(cols:List (List Int)):Prop:=ps.length=cols.length/\∀(i:Nat) (p:Addr) (us:List Int),ps[i]?=some p->cols[i]?=some us->H p=some (.tup (us.map V.int))
def cO(H:Hp)(q:Addr)(cols:List (List Int)):Prop:=∃ps:List Addr,H q=some (.lst (ps.map V.ref))/\fB H ps cols
theorem fB.same(h:fB H ps cols)(s:ar H H'):fB H' ps cols:=⟨h.1,fun i p us e1 e2=>s _ _ (h.2 i p us e1 e2)⟩
theorem fB.upd(h:fB H ps cols)(hz:H z=some (.lst xs)):fB (upd H z (.lst ys)) ps cols:=⟨h.1,fun i p us e1 e2=>by
 have:=h.2 i p us e1 e2
 rw [aj (gy this hz (fun e=>by cases e))]
 exact this⟩
theorem fB.append{qs:List Addr}{dols:List (List Int)}(h:fB H ps cols)(g:fB H qs dols):fB H (ps++qs) (cols++dols):=by
 refine⟨by rw [ab2,ab2,h.1,g.1],fun i p us e1 e2=>?_⟩
 by_cases hi:i < ps.length
 ·rw [ab5 hi]at e1
  rw [ab5 (by rw [<-h.1];exact hi)]at e2;exact h.2 i p us e1 e2
 ·rw [ac4 (by omega)]at e1
  rw [ac4 (by rw [<-h.1];omega),<-h.1]at e2;exact g.2 _ p us e1 e2
theorem ic(bs:List (Int×Int)):∀c∈br bs,c.length=bs.length:=by
 have go:∀(bs:List (Int×Int)) (told:List (List Int)) (n:Nat),(∀c∈told,c.length=n)->∀c∈bs.foldl (fun told b=>told.flatMap (dD b)) told,c.length=n+bs.length:=by
  intro bs
  induction bs with
  | nil=>intro told n h c hc;exact h c hc
  | cons b bs ih=>
   intro told n h c hc;rw [ae6]at hc
   have:=ih _ (n+1) (fun c hc=>by
    obtain⟨d,hd,hc⟩:=ah0.mp hc;unfold dD at hc;obtain⟨j,_,rfl⟩:=ac0.mp hc;rw [ab2,h d hd]
    rfl) c hc
   rw [this,ad1];omega
 intro c hc
 have:=go bs [[]] 0 (fun c hc=>by rw [ab6.mp hc];rfl) c hc
 omega
theorem mY{f:α->List β}:∀{l:List α},l.Nodup->(∀x∈l,(f x).Nodup)->(∀x y z,z∈f x->z∈f y->x=y)->(l.flatMap f).Nodup
 | [],_,_,_=>by simp
 | x::l,h,h1,h2=>by
  have hn:=aj2.mp h;rw [ao7];refine ao6.mpr ⟨h1 x (by simp),mY hn.2 (fun y hy=>h1 y (by simp [hy])) h2,fun a ha b hb e=>?_⟩;obtain⟨y,hy,hb⟩:=ah0.mp hb;rw [<-e]at hb;rw [h2 x y a ha hb]at hn;exact hn.1 hy
theorem rY(bs:List (Int×Int)):(br bs).Nodup:=by
 have go:∀(bs:List (Int×Int)) (told:List (List Int)),told.Nodup->(bs.foldl (fun told b=>told.flatMap (dD b)) told).Nodup:=by
  intro bs
  induction bs with
  | nil=>intro told h;exact h
  | cons b bs ih=>
   intro told h;rw [ae6];refine ih _ (mY h (fun c _=>?_) fun x y z hx hy=>?_)
   ·unfold dD
    refine List.pairwise_map.mpr (List.nodup_range.imp fun {i j} hij e=>?_)
    have:=List.append_cancel_left e
    simp at this;omega
   ·unfold dD at hx hy
    obtain⟨i,_,rfl⟩:=ac0.mp hx;obtain⟨j,_,e⟩:=ac0.mp hy
    have:=congrArg List.dropLast e
    simp at this;exact this.symm
 exact go bs [[]] (by simp)
theorem cO.same(s:ar H H')(h:cO H q cols):cO H' q cols:=by
 obtain⟨ps,h1,h2⟩:=h;exact⟨ps,s _ _ h1,h2.same s⟩
def zS(K:Frag):Sp:=fun vs H Q _=>∃(c:Addr) (us:List Int) (b:Int×Int),vs=[.ref c,.int b.1,.int b.2]/\H c=some (.tup (us.map V.int))/\us.length<=10/\wN b<=400/\∀q H',H q=none->cO H' q (dD b us)->ar H H'->Q (.ref q) H'
def ji(P:Program)(w:World)(K:Frag)(mg:Str->Option Value)(base:Heap)(C:Addr)(nv:Nat)(bs:List (Int×Int))(Ss:List bO)(Gs:List (Int->Prop))(x:Addr)(H:Hp):Prop:=∃(dx a b:Addr) (rs:List Addr),H x=some (.ins C dx (c7 a b))/\bW K H a bs/\jh P w K mg base nv Ss Gs H b rs
theorem ji.same(h:ji P w K mg base C nv bs Ss Gs x H)(s:ar H H'):ji P w K mg base C nv bs Ss Gs x H':=by
 obtain⟨dx,a,b,rs,h1,h2,h3⟩:=h;exact⟨dx,a,b,rs,s _ _ h1,h2.same s,h3.same s⟩
def Fz(bs:List (Int×Int))(Ss:List bO):Int:=Ss.foldl (fun t S=>t * S.size) (rL bs)
def oo(P:Program)(w:World)(K:Frag)(mg:Str->Option Value)(base:Heap)(C:Addr):Sp:=fun vs H Q _=>∃(x:Addr) (nv:Nat) (bs:List (Int×Int)) (Ss:List bO) (Gs:List (Int->Prop)),vs=[.ref x]/\ji P w K mg base C nv bs Ss Gs x H/\bs.length<=100/\Ss.length<=100/\(∀b∈bs,(fR b).natAbs < 2 ^ 200)/\(∀S∈Ss,(S.size).natAbs < 2 ^ 200)/\Q (.int (Fz bs Ss)) H
def p5(P:Program)(w:World)(K:Frag)(mg:Str->Option Value)(base:Heap)(C:Addr):Sp:=fun vs H Q _=>∃(x:Addr) (nv:Nat) (bs:List (Int×Int)) (Ss:List bO) (Gs:List (Int->Prop)),vs=[.ref x]/\ji P w K mg base C nv bs Ss Gs x H/\bs.length<=100/\Ss.length<=100/\(∀b∈bs,(fR b).natAbs < 2 ^ 200)/\(∀S∈Ss,(S.size).natAbs < 2 ^ 200)/\Fz bs Ss<=400/\Q (.ref x) H
def i6(K:Frag)(C:Addr):Sp:=fun vs H Q _=>∃(x dx a b:Addr) (bs:List (Int×Int)),vs=[.ref x]/\H x=some (.ins C dx (c7 a b))/\bW K H a bs/\bs.length<=4/\(∀b∈bs,1<=wN b)/\ib bs<=400/\∀q H',H q=none->cO H' q (br bs)->ar H H'->Q (.ref q) H'
def bC(la wa sc:Addr):List (Str×V):=bU "score" (.ref sc) (bU "well" (.ref wa) (bU "leads" (.ref la) []))
structure gE(K:Frag)(C:Addr):Prop where
 cl:rO K C
 n1:NoAttr K C "leads"
 n2:NoAttr K C "well"
 n3:NoAttr K C "score"
theorem gw(a b c:Addr):(bC a b c).lookup (Str.ofString "leads")=some (.ref a):=by unfold bC;walk_at "f"
theorem vR(a b c:Addr):(bC a b c).lookup (Str.ofString "well")=some (.ref b):=by unfold bC;walk_at "f"
theorem yW(a b c:Addr):(bC a b c).lookup (Str.ofString "score")=some (.ref c):=by unfold bC;walk_at "f"
structure tU(Ss:List bO)(cols:List (List Int))(U:List MS):Prop where
 st:(none,Ss.map (·.start))∈U
 cl:∀s∈U,∀c∈cols,∀s',cg Ss s c=some s'->s'∈U
 sz:U.length<=10000
def xY(P:Program)(w:World)(Ss:List bO)(cols:List (List Int))(la wa:Addr)(H:Hp)(met:List MS):Prop:=∃ds:List Addr,H la=some (.lst (ds.map V.ref))/\ds.length=met.length/\H wa=some (.lst (met.map fun s=>V.bl (bY Ss s.2 s.1)))/\
 ∀(i:Nat) (d:Addr) (s:MS),ds[i]?=some d->met[i]?=some s->∃xs,bB (AG P w) H d xs/\dF Ss cols met s xs
def zQ(P:Program)(w:World)(K:Frag)(mg:Str->Option Value)(base:Heap)(C Cs:Addr)(vs:List V)(H:Hp)(Q:VK)(x dx ma na sa la wa sc dsc ra rb p0:Addr)(nv:Nat)(Ss:List bO)(Gs:List (Int->Prop))(rs cs:List Addr)(cols:List (List Int))(U:List MS)(Hs:Hp):Prop:=vs=[.ref x,.ref ma,.ref na,.ref sa]/\
 H x=some (.ins C dx (bC la wa sc))/\H sc=some (.ins Cs dsc (c7 ra rb))/\ar Hs H/\Hs ma=none/\Hs na=none/\Hs la=none/\Hs wa=none/\jh P w K mg base nv Ss Gs Hs rb rs/\Ss.length<=100/\qj Gs (Ss.map (·.start))/\
 H ma=some (.lst [.ref p0])/\(g9 P w).at_ H (bP (none,Ss.map (·.start))) p0/\bB (g9 P w) H na [(bP (none,Ss.map (·.start)),p0,.int 0)]/\H la=some (.lst [])/\H wa=some (.lst [])/\ma≠la/\ma≠wa/\la≠wa/\
 H sa=some (.lst (cs.map V.ref))/\sa≠ma/\sa≠la/\sa≠wa/\fB H cs cols/\(∀c∈cols,c.length=nv)/\cols.length<=1000/\cols.Nodup/\tU Ss cols U/\
 ∀met H',vD Ss cols met->(∀s∈met,s∈U)->(∀(s:MS),s∈met->∀c∈cols,∀s',cg Ss s c=some s'->s'∈met)->xY P w Ss cols la wa H' met->xZ [ma,na,la,wa] H H'->Q .non H'
def rD(P:Program)(w:World)(K:Frag)(mg:Str->Option Value)(base:Heap)(C Cs:Addr):Sp:=fun vs H Q _=>∃(x dx ma na sa la wa sc dsc ra rb p0:Addr) (nv:Nat) (Ss:List bO) (Gs:List (Int->Prop)) (rs cs:List Addr) (cols:List (List Int)) (U:List MS) (Hs:Hp),zQ P w K mg base C Cs vs H Q x dx ma na sa la wa sc dsc ra rb p0 nv Ss Gs rs cs cols U Hs
theorem oS(F:cM K "__init__" "Score.__init__" eG f fd)(T:Txt mg aM)(TC:dm K C):aN P w K mg base cc 1 f fd ["self","ranges","rules"] (iP K C):=by
 refine F.ok kj (fun _ _ _ _ h=>?_) (fun _ A _ s H vs Q E hr h=>?_)
 ·obtain⟨x,dx,a,b,xs,ys,rfl,_⟩:=h
  rfl
 obtain⟨x,dx,a,b,xs,ys,rfl,hx,ha,hb,k⟩:=h
 refine⟨_,(ae (cN (pr 0) (bo (eh K) (by rfl) T.n_list boot_list (aa (pr 1) ah)) rfl)
 (ai (cN (pr 0) (bo (eh K) (by rfl) T.n_list boot_list (aa (pr 2) ah)) rfl))),?_⟩
 walk_at "r";have ln:∀(f:Str) (v:V) (l:List (Str×V)) (n:Nat),l.length<=n->(bU f v l).length<=n+1:=fun f v l n h=>ab9 (cv f v l) (af8 h);refine⟨xs,.inl ha,fun p hp=>?_⟩
 have px:p≠x:=fun e=>by subst e;rw [hx]at hp;cases hp
 refine⟨C,dx,[],by rw [aj (Ne.symm px)];exact hx,TC.cl,TC.n1,by decide,ys,.inl (((ak hp).seq hb).at_ins (by rw [aj (Ne.symm px)];exact hx)),fun q hq=>?_⟩
 have qx:q≠x:=fun e=>by subst e;rw [ag]at hq;cases hq
 rw [aj qx]at hq
 have qp:q≠p:=fun e=>by subst e;rw [ag]at hq;cases hq
 rw [aj qp]at hq;refine⟨C,dx,_,by rw [aj (Ne.symm qx),ag],TC.cl,TC.n2,ad2 (ln _ _ _ _ (ad3 0)) (by decide),?_⟩;refine k p q _ hp hq qp ?_;rw [oA];rfl
theorem xr(F:cM K "weight" "weight" nU f fd)(T:Txt mg aM)(TC:dm K C):aN P w K mg base cc 8 f fd ["score"] (oo P w K mg base C):=by
 refine F.ok sc_weight (fun _ _ _ _ h=>?_) (fun _ A _ s H vs Q E hr h=>?_)
 ·obtain⟨x,nv,bs,Ss,Gs,rfl,_⟩:=h
  rfl
 obtain⟨x,nv,bs,Ss,Gs,rfl,⟨dx,a,b,rs,hx,⟨ts,hts,htl,htc⟩,RM⟩,lb,lr,hwb,hwr,q⟩:=h;have hrs:=RM.sq;have hrl:=RM.len;have lg:=RM.gl
 refine⟨_,(ae (bM (i:=1) sc_weight.nd af)
 (ae (bK PassesOwn.never rfl (bE K (bq (pr 0) rfl)) (cR K (n:=2) rfl (ba (gD (i:=2) sc_weight.nd) (ba (gD (i:=3) sc_weight.nd) cS)))
 (ai (E6 (zu (i:=1) sc_weight.nd rfl (Or.inl rfl) (aq (bz K) (aq (o0 bZ) (pr 3) (pr 2)) af) (o1 sk)))))
 (ae (bK PassesOwn.never rfl (bE K (bq (pr 0) rfl)) (gD (i:=4) sc_weight.nd)
 (ai (E6 (zu (i:=1) sc_weight.nd rfl (Or.inl rfl) (eC P w K mg base hr (pr 4)) (o1 sk)))))
 (ai (aw (pr 1)))))),?_⟩
 refine aH (fun Z H'=>Z=[some (.ref x),some (.int 1),none,none,none]/\H=H') ?_ ?_
 ·intro u' hu
  walk_at "r";exact hu _ _ ⟨rfl,rfl⟩
 rintro Ω ω _ _ ⟨rfl,rfl⟩;refine ω _ _ (aH (fun Z H'=>∃o1 o2:Option V,Z=[some (.ref x),some (.int (rL bs)),o1,o2,none]/\H=H') ?_ ?_)
 ·intro u' hu
  walk_at "r";refine⟨C,dx,_,hx,TC.cl,TC.n1,_,kT a b,bN hts (cD (xs:=ts.map V.ref) (fun i Z H'=>∃o1 o2:Option V,Z=[some (.ref x),some (.int (rL (bs.take i))),o1,o2,none]/\H=H') ⟨none,none,rfl,rfl⟩ (fun i Z H' _ z=>by obtain⟨_,_,_,z⟩:=z;exact z▸hts) ?_ ?_)⟩
  ·rintro i y Z H1 hy ⟨o1,o2,rfl,rfl⟩
   rw [aa5]at hy
   cases ht:ts[i]? with
   | none=>rw [ht]at hy;cases hy
   | some t=>
    rw [ht]at hy;cases hy
    have hi:i < bs.length:=by rw [<-htl];exact(aa3.mp ht).1
    have hb:bs[i]?=some bs[i]:=aa1 hi
    have e:rL (bs.take (i+1))=rL (bs.take i) * fR bs[i]:=by
     unfold rL;rw [ac1,hb,ai1];rfl
    walk_at "r";refine⟨_,htc i t _ ht hb,rfl,?_⟩;walk_at "r";rw [e];have hw:=hwb _ (ad6 hi);have ht:=vA (bs:=bs.take i) fun b hb=>hwb b (af3 hb);exact⟨uu ht hw (by rw [ac3];omega),rfl⟩
  ·rintro Z H1 ⟨o1,o2,rfl,rfl⟩
   rw [aa0,htl,ac8];exact hu _ _ ⟨o1,o2,rfl,rfl⟩
 rintro Ω ω _ _ ⟨o1,o2,rfl,rfl⟩;refine ω _ _ ?_;walk_at "r";refine⟨C,dx,_,hx,TC.cl,TC.n2,_,jX a b,bN hrs (cD (xs:=rs.map V.ref) (fun i Z H'=>∃o3:Option V,Z=[some (.ref x),some (.int ((Ss.take i).foldl (fun t S=>t * S.size) (rL bs))),o1,o2,o3]/\H=H') ⟨none,rfl,rfl⟩ (fun i Z H' _ z=>by obtain⟨_,_,z⟩:=z;exact z▸hrs) ?_ ?_)⟩
 ·rintro i y Z H1 hy ⟨o3,rfl,rfl⟩
  rw [aa5]at hy
  cases ht:rs[i]? with
  | none=>rw [ht]at hy;cases hy
  | some r=>
   rw [ht]at hy;cases hy
   have hi:i < Ss.length:=by rw [<-hrl];exact(aa3.mp ht).1
   have hb:Ss[i]?=some Ss[i]:=aa1 hi;obtain⟨Cr,RI,RB,hri⟩:=RM.at_ i r _ (Gs[i]'(by omega)) ht hb (aa1 (by omega));obtain⟨dr,fr,hir,q1,_⟩:=RB.ins r _ hri;walk_at "r";refine⟨Cr,dr,fr,hir,q1,_,_,RB.size,r,rfl,hri,?_⟩;walk_at "r";rw [ac1,hb,ai1];have hw:=hwr _ (ad6 hi);have ht:=mF (fun S:bO=>S.size) (Ss.take i) (rL bs) _ (vA hwb) fun S hS=>hwr S (af3 hS);exact⟨uu ht hw (by rw [ac3];omega),rfl⟩
 ·rintro Z H1 ⟨o3,rfl,rfl⟩
  rw [aa0,hrl,ac8];walk_at "r";exact q
theorem md(F:cM K "not_too_wide" "not_too_wide" fQ f fd)(T:Txt mg aM)(D_weight:bR P w K mg base "weight" 8 ["score"] (oo P w K mg base C)):aN P w K mg base cc 9 f fd ["score"] (p5 P w K mg base C):=by
 refine F.ok sc_not_too_wide (fun _ _ _ _ h=>?_) (fun _ A _ s H vs Q E hr h=>?_)
 ·obtain⟨x,nv,bs,Ss,Gs,rfl,_⟩:=h
  rfl
 obtain⟨x,nv,bs,Ss,Gs,rfl,S,lb,lr,hwb,hwr,hle,q⟩:=h
 refine⟨_,(ae (bM (i:=1) sc_not_too_wide.nd (aD D_weight hr (by rfl) (aa (pr 0) ah)))
 (ae (aW (bh (av (o0 nK) (pr 1) (nO T.g_MOST_WEIGHT) (aB _))) (ai ke) aF)
 (ai (aw (pr 0))))),?_⟩
 walk_at "r";refine⟨x,nv,bs,Ss,Gs,rfl,S,lb,lr,hwb,hwr,?_⟩;walk_at "r";rw [if_neg (by omega)];exact q
theorem oY(F:cM K "lengthened" "lengthened" gX f fd)(T:Txt mg aM):aN P w K mg base cc 1 f fd ["column","low","high"] (zS K):=by
 refine F.ok pA (fun _ _ _ _ h=>?_) (fun _ A _ s H vs Q E hr h=>?_)
 ·obtain⟨c,us,b,rfl,_⟩:=h
  rfl
 obtain⟨c,us,b,rfl,hc,hu,hw,k⟩:=h;refine⟨_,(ai (aw (c8 (own:=["note"]) (js:=[0]) rfl (nP rfl T.n_range (aa (pr 1) (aa (aq (vS K) (pr 2) af) ah))) (bw.of (by rfl)) (fun _ _ _ _ _=>(bL (i:=0) (show List.Nodup (["note","column"]:List Str)from by decide +kernel) rfl (Or.inl rfl))) (fun _ _ _ _ _=>cJ) (fun _ _ _ _ _=>(aq (vS K) (pr 1) (dj (aa (pr 0) ah))))))),?_⟩;have hs:sizeLine=16777216:=sizeLine_eq;walk_at "r"
 have ek:(b.2+1 - b.1).toNat=wN b:=by unfold wN;omega
 rw [ek];refine lR (fun i ys H'=>∃ps:List Addr,ys=ps.map V.ref/\ps.length=i/\(∀(j:Nat) (p:Addr),ps[j]?=some p->H' p=some (.tup ((us++[b.1+(j:Int)]).map V.int)))/\ar H H') (by omega) ⟨[],rfl,rfl,(fun j p e=>nomatch e),ar.refl _⟩ ?_ ?_ ?_
 ·rintro i ys H' ⟨ps,rfl,hl,_⟩
  rw [aa0];omega
 ·rintro i ys H1 hi ⟨ps,rfl,hl,hp,s1⟩
  simp only [gq];walk_at "r";refine⟨by omega,fun t ht=>?_⟩;have s2:=s1.upd (o:=HO.tup [V.int (b.1+i)]) ht;have ht2:(upd H1 t (HO.tup [V.int (b.1+i)])) t=some (.tup [V.int (b.1+i)]):=ag;have s12:ar H1 (upd H1 t (HO.tup [V.int (b.1+i)])):=ak ht;generalize upd H1 t (HO.tup [V.int (b.1+i)])=H2 at s2 ht2 s12;refine sY (s2 _ _ hc) ht2 (by rw [aa0];simp;omega) fun p H3 s3 hp3=>?_;refine⟨ps++[p],by rw [ab4];rfl,by rw [ab2,hl];rfl,fun j p' e=>?_,s2.trans s3⟩
  by_cases hj:j < ps.length
  ·rw [ab5 hj]at e
   exact(s12.trans s3) _ _ (hp j p' e)
  ·rw [ac4 (by omega)]at e
   have ej:j=ps.length:=by
    have:=(aa3.mp e).1
    simp at this;omega
   rw [ej,ai3]at e;cases e;rw [hp3,ej,hl,ab4];rfl
 ·rintro ys H1 ⟨ps,rfl,hl,hp,s1⟩ q hq
  refine k q _ (s1.free hq) ⟨ps,ag,by rw [gu];exact hl,fun i p us' e1 e2=>?_⟩ (s1.upd hq)
  have hi:i < wN b:=by rw [<-hl];exact(aa3.mp e1).1
  unfold dD at e2;rw [aa5,ak4 hi]at e2;cases e2;exact(ak hq) _ _ (hp i p e1)
theorem ux(F:cM K "columns" "columns" lu f fd)(T:Txt mg aM)(TC:dm K C)(D_lengthened:bR P w K mg base "lengthened" 1 ["column","low","high"] (zS K)):aN P w K mg base cc 2 f fd ["score"] (i6 K C):=by
 refine F.ok sc_columns (fun _ _ _ _ h=>?_) (fun _ A _ s H vs Q E hr h=>?_)
 ·obtain⟨x,dx,a,b,bs,rfl,_⟩:=h
  rfl
 obtain⟨x,dx,a,b,bs,rfl,hx,⟨ts,hts,htl,htc⟩,lb,hw,hc,k⟩:=h
 refine⟨_,(ae (bM (i:=1) sc_columns.nd (bQ (aa (dj ah) ah)))
 (ae (bK PassesOwn.never rfl (bE K (bq (pr 0) rfl)) (cR K (n:=2) rfl (ba (gD (i:=2) sc_columns.nd) (ba (gD (i:=3) sc_columns.nd) cS)))
 (ae (bM (i:=4) sc_columns.nd (bQ ah))
 (ae (bK PassesOwn.never rfl (bE K (pr 1)) (gD (i:=5) sc_columns.nd)
 (ai (bF (bJ K PySem.F.plainAttrs_list PySem.F.slot_list_extend PySem.F.type_list_extend pU (pr 4) (aa (aD D_lengthened hr (by rfl) (aa (pr 5) (aa (pr 2) (aa (pr 3) ah)))) ah)))))
 (ai (bM (i:=1) sc_columns.nd (pr 4))))))
 (ai (aw (pr 1))))),?_⟩
 have hs:sizeLine=16777216:=sizeLine_eq;refine aH (fun Z H'=>∃q:Addr,H q=none/\cO H' q (br [])/\Z=[some (.ref x),some (.ref q),none,none,none,none]/\ar H H') ?_ ?_
 ·intro u' hu
  walk_at "r";refine⟨by omega,fun t ht=>⟨by omega,fun q hq=>?_⟩⟩;have s1:=ak (o:=HO.tup []) ht;refine hu _ _ ⟨q,s1.free hq,⟨[t],ag,rfl,fun i p us e1 e2=>?_⟩,rfl,s1.upd hq⟩
  have hi:i=0:=by
   have:=(aa3.mp e1).1
   simp at this;exact this
  subst hi;cases e1;cases e2;exact(ak hq) _ _ ag
 rintro Ω ω _ H1 ⟨q,hq0,hq1,rfl,s1⟩;refine ω _ _ (aH (fun Z H'=>∃(q:Addr) (o2 o3 o4 o5:Option V),H q=none/\cO H' q (br bs)/\Z=[some (.ref x),some (.ref q),o2,o3,o4,o5]/\ar H H') ?_ ?_)
 ·intro u' hu
  walk_at "r";refine⟨C,dx,_,s1 _ _ hx,TC.cl,TC.n1,_,kT a b,bN (s1.seq hts) (cD (xs:=ts.map V.ref) (fun i Z H'=>∃(q:Addr) (o2 o3 o4 o5:Option V),H q=none/\cO H' q (br (bs.take i))/\Z=[some (.ref x),some (.ref q),o2,o3,o4,o5]/\ar H H') ⟨q,none,none,none,none,hq0,hq1,rfl,s1⟩ (fun i Z H' _ h=>?_) ?_ ?_)⟩
  ·obtain⟨_,_,_,_,_,_,_,_,s'⟩:=h
   exact s'.seq hts
  ·rintro i y Z H2 hy ⟨q,o2,o3,o4,o5,hq0,⟨ps,hq2,hpc⟩,rfl,s2⟩
   rw [aa5]at hy
   cases ht:ts[i]? with
   | none=>rw [ht]at hy;cases hy
   | some t=>
    rw [ht]at hy;cases hy
    have hi:i < bs.length:=by rw [<-htl];exact(aa3.mp ht).1
    have hb:bs[i]?=some bs[i]:=aa1 hi;walk_at "r";refine⟨_,s2.tup (htc i t _ ht hb),rfl,?_⟩;walk_at "r";refine⟨by omega,fun p hp=>?_⟩;have s23:=ak (o:=HO.lst []) hp;have hp3:(upd H2 p (HO.lst [])) p=some (.lst (([]:List Addr).map V.ref)):=ag;have hH3:=hp3;generalize upd H2 p (HO.lst [])=H3 at s23 hp3;have ew:wN bs[i]<=400:=ab9 (An hw hb) hc
    have en:ib (bs.take (i+1))=ib (bs.take i) * wN bs[i]:=by
     rw [ac1,hb];exact jS _ _
    have en':=(gs hw (i+1)).2
    have ec:br (bs.take (i+1))=(br (bs.take i)).flatMap (dD bs[i]):=by
     rw [ac1,hb];exact mW _ _
    have ewd:=ic (bs.take i);have ecl:=fq (bs.take i);have hpl:=hpc.1;rw [ec];generalize bs[i]=b at *;generalize br (bs.take i)=cols at *;refine bN (aL.of (s23 _ _ hq2)) (cD (xs:=ps.map V.ref) (fun j Z H'=>∃(o5:Option V) (ps':List Addr),H' p=some (.lst (ps'.map V.ref))/\fB H' ps' ((cols.take j).flatMap (dD b))/\ar H2 H'/\Z=[some (V.ref x),some (V.ref q),some (V.int b.1),some (V.int b.2),some (V.ref p),o5]) ⟨o5,[],hp3,⟨rfl,fun i p us e=>nomatch e⟩,s23,rfl⟩ (fun j Z H' _ h=>?_) ?_ ?_)
    ·obtain⟨_,_,_,_,s',_⟩:=h
     exact aL.of (s' _ _ hq2)
    ·rintro j y Z H4 hy ⟨o5,ps',hp4,hT,s24,rfl⟩
     rw [aa5]at hy
     cases hcj:ps[j]? with
     | none=>rw [hcj]at hy;cases hy
     | some c=>
      rw [hcj]at hy;cases hy
      have hj:j < cols.length:=by rw [<-hpl];exact(aa3.mp hcj).1
      have hcc:cols[j]?=some cols[j]:=aa1 hj;have hus:=hpc.2 j c _ hcj hcc;have hul:=ewd _ (ad6 hj)
      have estep:(cols.take (j+1)).flatMap (dD b)=(cols.take j).flatMap (dD b)++dD b cols[j]:=by
       rw [ac1,hcc,List.flatMap_append];simp
      rw [estep];generalize cols[j]=us at *;walk_at "r";refine⟨.inl ⟨rfl,_,aL.of hp4⟩,c,us,b,rfl,s24 _ _ hus,by rw [hul,ac3];omega,ew,fun r H5 hr0 hr5 s45=>?_⟩;obtain⟨rs,hr5,hrT⟩:=hr5;have hp5:=s45 _ _ hp4
      have l1:ps'.length<=400:=by
       rw [hT.1,jT (gu b),ac3];refine ab9 (an0 _ (ak1 _ _)) ?_;rw [ecl,<-en];omega
      have l2:rs.length<=400:=by rw [hrT.1,gu];exact ew
      refine⟨p,r,_,_,rfl,rfl,hp5,hr5,by rw [aa0,aa0];omega,some (.ref c),ps' ++ rs,by rw [ag,ab4],((hT.same s45).append hrT).upd hp5,xO hp (s24.trans s45),rfl⟩
    ·rintro Z H4 ⟨o5,ps',hp4,hT,s24,rfl⟩
     rw [aa0,hpl,ac8]at hT;walk_at "r";exact⟨p,s2.free hp,⟨ps',hp4,hT⟩,rfl,s2.trans s24⟩
  ·rintro Z H2 ⟨q,o2,o3,o4,o5,hq0,hq2,rfl,s2⟩
   rw [aa0,htl,ac8]at hq2;exact hu _ _ ⟨q,o2,o3,o4,o5,hq0,hq2,rfl,s2⟩
 rintro Ω ω _ H2 ⟨q,o2,o3,o4,o5,hq0,hq2,rfl,s2⟩;refine ω _ _ ?_;walk_at "r";exact k q H2 hq0 hq2 s2
theorem y9(F:cM K "build" "Machine.build" e8 f fd)(T:Txt mg aM)(TC:gE K C)(TS:dm K Cs)(D_memories_after:bR P w K mg base "memories_after" 9 ["rules","memories","before","column"] (jy P w K mg base))(D_all_close:bR P w K mg base "all_close" 9 ["rules","memories","last"] (jv P w K mg base)):
  aN P w K mg base cc 10 f fd ["self","met","numbers","steps"] (rD P w K mg base C Cs):=by
 refine F.ok sc_Machine_build (fun _ _ _ _ h=>?_) (fun _ A _ s H vs Q E hr h=>?_)
 ·obtain⟨x,dx,ma,na,sa,la,wa,sc,dsc,ra,rb,p0,nv,Ss,Gs,rs,cs,cols,U,Hs,rfl,_⟩:=h
  rfl
 obtain⟨x,dx,ma,na,sa,la,wa,sc,dsc,ra,rb,p0,nv,Ss,Gs,rs,cs,cols,U,Hs,rfl,hx,hsc,sHs,z1,z2,z3,z4,RM,lS,hM0,hma,hp0,hna,hla,hwa,n1,n2,n3,hsa,q1,q2,q3,hT,hcw,hcl,hnd,CU,k⟩:=h
 refine⟨_,(ae (bM (i:=4) sc_Machine_build.nd (bq (bq (pr 0) rfl) rfl))
 (ai (zx PassesOwn.never (bh (av (o0 mh) (az (aC K) (by rfl) T.n_len boot_len (aa (bq (pr 0) rfl) ah)) (az (aC K) (by rfl) T.n_len boot_len (aa (pr 1) ah)) (aB _))) (ae (bM (i:=5) sc_Machine_build.nd (ax (aG K) (ax (aG K) (pr 1) (az (aC K) (by rfl) T.n_len boot_len (aa (bq (pr 0) rfl) ah)) (fun _ _=>rfl)) af (fun _ _=>rfl)))
 (ae (bM (i:=6) sc_Machine_build.nd (ax (aG K) (ax (aG K) (pr 1) (az (aC K) (by rfl) T.n_len boot_len (aa (bq (pr 0) rfl) ah)) (fun _ _=>rfl)) af (fun _ _=>rfl)))
 (ae (bM (i:=7) sc_Machine_build.nd (BD (kk':=AG P w)))
 (ae (bK PassesOwn.never rfl (bE K (pr 3)) (gD (i:=8) sc_Machine_build.nd)
 (ae (bM (i:=9) sc_Machine_build.nd (dj (aa (pr 8) (aa (aD D_memories_after hr (by rfl) (aa (pr 4) (aa (pr 6) (aa (pr 5) (aa (pr 8) ah))))) ah))))
 (ae (aW (bh (av dJ (ax (aG K) (pr 9) af (fun _ _=>rfl)) aV (aB _))) (ai sX) aF)
 (ae (aW (bh (av (zh (kk':=g9 P w) (ee hr)) (pr 9) (pr 2) (by with_unfolding_all rfl))) (ae (lj (az (aC K) (by rfl) T.n_len boot_len (aa (pr 1) ah)) (uF (pr 2) (pr 9) (Fc (kk':=g9 P w) (ee hr))))
 (ai (bF (bJ K PySem.F.plainAttrs_list PySem.F.slot_list_append PySem.F.type_list_append bT (pr 1) (aa (pr 9) ah))))) aF)
 (ai (lj (ax (ixD (kk':=g9 P w) (ee hr)) (pr 2) (pr 9) (fun _ _=>rfl)) (uF (pr 7) (pr 8) (Fc (kk':=AG P w) (ee hr)))))))))
 (ae (bF (bJ K PySem.F.plainAttrs_list PySem.F.slot_list_append PySem.F.type_list_append bT (bq (pr 0) rfl) (aa (pr 7) ah)))
 (ai (bF (bJ K PySem.F.plainAttrs_list PySem.F.slot_list_append PySem.F.type_list_append bT (bq (pr 0) rfl) (aa (aD D_all_close hr (by rfl) (aa (pr 4) (aa (pr 6) (aa (pr 5) ah)))) ah)))))))))))),?_⟩
 have hs:sizeLine=16777216:=sizeLine_eq;have mna:ma≠na:=gy hma hna.ob (fun e=>by cases e);have nla:na≠la:=gy hna.ob hla (fun e=>by cases e);have nwa:na≠wa:=gy hna.ob hwa (fun e=>by cases e)
 have xm:x∉[ma,na,la,wa]:=fun h=>by
  simp only [aa8,ac2,or_false]at h;rcases h with rfl | rfl | rfl | rfl
  ·rw [hma]at hx;cases hx
  ·rw [hna.ob]at hx;cases hx
  ·rw [hla]at hx;cases hx
  ·rw [hwa]at hx;cases hx
 have sm:sa∉[ma,na,la,wa]:=fun h=>by
  simp only [aa8,ac2,or_false]at h;rcases h with rfl | rfl | rfl | rfl
  ·exact q1 rfl
  ·rw [hna.ob]at hsa;cases hsa
  ·exact q2 rfl
  ·exact q3 rfl
 have tm:∀{a:Addr} {vs:List V},H a=some (.tup vs)->a∉[ma,na,la,wa]:=fun {a vs} e h=>by
  simp only [aa8,ac2,or_false]at h;rcases h with rfl | rfl | rfl | rfl
  ·rw [hma]at e;cases e
  ·rw [hna.ob]at e;cases e
  ·rw [hla]at e;cases e
  ·rw [hwa]at e;cases e
 have toS:∀{H':Hp},xZ [ma,na,la,wa] H H'->ar Hs H':=fun {H'} sx b o e=>by
  refine sx b o (fun h=>?_) (sHs b o e);simp only [aa8,ac2,or_false]at h;rcases h with rfl | rfl | rfl | rfl
  ·rw [z1]at e;cases e
  ·rw [z2]at e;cases e
  ·rw [z3]at e;cases e
  ·rw [z4]at e;cases e
 have lenU:∀{H':Hp} {met:List MS} {ds:List Addr},hX P w Ss Gs cols nv U H ma na la wa H' met ds->met.length<=U.length:=fun B=>nu _ U B.mf.nd fun s hs=>(B.al s hs).1;have szU:=CU.sz;refine aH (fun Z H'=>H=H'/\Z=[some (.ref x),some (.ref ma),some (.ref na),some (.ref sa),some (.ref rb),none,none,none,none,none]) ?_ ?_
 ·intro u' hu
  walk_at "r";exact⟨C,dx,_,hx,TC.cl,TC.n3,_,yW la wa sc,sc,rfl,Cs,dsc,_,hsc,TS.cl,TS.n2,_,jX ra rb,hu _ _ ⟨rfl,rfl⟩⟩
 rintro Ω ω _ _ ⟨rfl,rfl⟩;obtain⟨W,hW⟩:∃W:Nat->L2.St->Hp->Prop,W=fun m Z H'=>∃(met:List MS) (ds:List Addr) (o5 o6 o7 o8 o9:Option V),hX P w Ss Gs cols nv U H ma na la wa H' met ds/\m=U.length - ds.length/\Z=[some (.ref x),some (.ref ma),some (.ref na),some (.ref sa),some (.ref rb),o5,o6,o7,o8,o9]:=⟨_,rfl⟩;refine ω _ _ ?_;refine⟨W,⟨U.length,?_⟩,?_⟩
 ·rw [hW]
  refine⟨[(none,Ss.map (·.start))],[],none,none,none,none,none,⟨⟨[p0],hma,rfl,fun j p t e1 e2=>?_⟩,⟨_,hna,⟨fun j t e=>?_,fun k hk=>?_⟩,aa9 _⟩,hla,fun i d t e=>(by cases e),(fun d hd=>by cases hd),hwa,ad3 _,⟨by simp,rfl,fun i t e hi=>?_⟩,fun t ht=>?_,fun b o _ e=>e⟩,rfl,rfl⟩
  ·have hj:j=0:=by
    have:=(aa3.mp e1).1
    simp at this;exact this
   subst hj;cases e1;cases e2;exact hp0
  ·have hj:j=0:=by
    have:=(aa3.mp e).1
    simp at this;exact this
   subst hj;cases e;simp [i9]
  ·refine⟨(none,Ss.map (·.start)),by simp,?_⟩
   by_cases e:k=bP (none,Ss.map (·.start))
   ·exact e
   ·refine absurd ?_ hk
    unfold i9;rw [aq3,decide_eq_false (fun z=>e z.symm)];rfl
  ·have hj:i=0:=by
    have:=(aa3.mp e).1
    simp at this;exact this
   omega
  ·rw [ab6.mp ht]
   exact⟨CU.st,hM0,fun c e=>by cases e⟩
 intro m Z H1 hI;rw [hW]at hI;obtain⟨met,ds,o5,o6,o7,o8,o9,B,rfl,rfl⟩:=hI;have hx1:=B.sx x _ xm hx;obtain⟨ps,hm1,hpl,hpk⟩:=B.mt;have ltU:=lenU B;refine Fm fun A0 B0 hA hB=>?_;walk_at "r";refine⟨C,dx,_,hx1,TC.cl,TC.n1,_,gw la wa sc,.inr ⟨_,rfl,_,.inl (aL.of B.la_),_,.inl (aL.of hm1),?_⟩⟩;rw [aa0,aa0,hpl]
 by_cases hlt:(ds.length:Int) < (met.length:Int)
 ·rw [if_pos hlt]
  refine hA _ ?_
  have hlt:ds.length < met.length:=by omega
  obtain⟨st,hst⟩:∃st,met[ds.length]?=some st:=⟨_,aa1 hlt⟩;obtain⟨pp,hpp⟩:∃pp,ps[ds.length]?=some pp:=⟨_,aa1 (by omega)⟩;obtain⟨vs,hv1,hv2⟩:=hpk _ _ _ hpp hst
  obtain⟨bx,mA,rfl,hbx,hmA⟩:∃bx mA,vs=[bx,.ref mA]/\m9 H1 st.1 bx/\H1 mA=some (.tup (st.2.map V.int)):=by
   cases vs with
   | nil=>exact hv2.elim
   | cons v1 vs=>
    cases vs with
    | nil=>exact hv2.2.elim
    | cons v2 vs=>
     cases vs with
     | nil=>
      obtain⟨g1,⟨b,e,g2⟩,_⟩:=hv2;exact⟨v1,b,by rw [e],g1,g2⟩
     | cons _ _=>exact hv2.2.2.elim
  obtain⟨hstU,hstM,hstW⟩:=B.al st (ac5 hst)
  have hbv:∀H',ar H1 H'->BV K H' nv st.1 bx:=fun H' s'=>by
   cases e:st.1 with
   | none=>
    rw [e]at hbx;exact .inl ⟨rfl,hbx⟩
   | some c=>
    rw [e]at hbx;obtain⟨b,rfl,hb⟩:=hbx;exact .inr ⟨b,c,rfl,rfl,bH.of (s' _ _ hb),hstW c e⟩
  obtain⟨N,hN⟩:∃N:L2.St->Hp->Prop,N=fun Z H'=>∃(met':List MS) (ds':List Addr) (o5 o6 o7 o8 o9:Option V),hX P w Ss Gs cols nv U H ma na la wa H' met' ds'/\ds'.length=ds.length+1/\Z=[some (.ref x),some (.ref ma),some (.ref na),some (.ref sa),some (.ref rb),o5,o6,o7,o8,o9]:=⟨_,rfl⟩;refine⟨N,fun Zc H' h=>?_,?_⟩
  ·rw [hN]at h
   obtain⟨met',ds',o5,o6,o7,o8,o9,B',hl',rfl⟩:=h;refine⟨U.length - ds'.length,by omega,?_⟩;rw [hW];exact⟨met',ds',o5,o6,o7,o8,o9,B',rfl,rfl⟩
  have at1:∀Q',Q' bx H1->pe K (V.ref ma) (V.int ds.length) H1 fun y H2=>pe K y (V.int 0) H2 Q':=fun Q' h'=>bG (aL.of hm1) (aA (by rw [aa5,hpp];rfl)) (aR (bH.of hv1) (aP rfl) h');have at2:∀Q',Q' (V.ref mA) H1->pe K (V.ref ma) (V.int ds.length) H1 fun y H2=>pe K y (V.int 1) H2 Q':=fun Q' h'=>bG (aL.of hm1) (aA (by rw [aa5,hpp];rfl)) (aR (bH.of hv1) (show dC _ ((1:Nat):Int)=_ from aA rfl) h');refine aH (fun Z H'=>H1=H'/\Z=[some (.ref x),some (.ref ma),some (.ref na),some (.ref sa),some (.ref rb),some bx,o6,o7,o8,o9]) ?_ ?_
  ·intro u2 ee
   walk_at "r";refine⟨C,dx,_,hx1,TC.cl,TC.n1,_,gw la wa sc,.inr ⟨_,rfl,_,.inl (aL.of B.la_),?_⟩⟩;rw [aa0];exact at1 _ (ee _ _ ⟨rfl,rfl⟩)
  rintro Ω ω _ _ ⟨rfl,rfl⟩;refine ω _ _ (aH (fun Z H'=>H1=H'/\Z=[some (.ref x),some (.ref ma),some (.ref na),some (.ref sa),some (.ref rb),some bx,some (.ref mA),o7,o8,o9]) ?_ ?_)
  ·intro u2 ee
   walk_at "r";refine⟨C,dx,_,hx1,TC.cl,TC.n1,_,gw la wa sc,.inr ⟨_,rfl,_,.inl (aL.of B.la_),?_⟩⟩;rw [aa0];exact at2 _ (ee _ _ ⟨rfl,rfl⟩)
  rintro Ω ω _ _ ⟨rfl,rfl⟩;refine ω _ _ (aH (fun Z H'=>∃dA:Addr,H1 dA=none/\bB (AG P w) H' dA []/\ar H1 H'/\Z=[some (.ref x),some (.ref ma),some (.ref na),some (.ref sa),some (.ref rb),some bx,some (.ref mA),some (.ref dA),o8,o9]) ?_ ?_)
  ·intro u2 ee
   simp only [hV,vo,Ag,g8];walk_at "r";exact fun p hp=>ee _ _ ⟨p,hp,⟨ag,(fun _ z=>nomatch z),List.nodup_nil,ad3 _⟩,ak hp,rfl⟩
  rintro Ω ω _ H2 ⟨dA,hd1,hD2,s12,rfl⟩
  have inH:∀{z:Addr},z∈[ma,na,la,wa]->H1 z≠none:=fun {z} h e=>by
   simp only [aa8,ac2,or_false]at h;rcases h with rfl | rfl | rfl | rfl
   ·rw [hm1]at e;cases e
   ·obtain⟨xs,D,_⟩:=B.nm;rw [D.ob]at e;cases e
   ·rw [B.la_]at e;cases e
   ·rw [B.wl]at e;cases e
  have dnot:dA∉[ma,na,la,wa]:=fun h=>inH h hd1
  have hd0:H dA=none:=by
   cases e:H dA with
   | none=>rfl
   | some o=>rw [B.sx dA o dnot e]at hd1;cases hd1
  have dds:∀d∈ds,d≠dA:=fun d hd e=>by
   obtain⟨j,hj⟩:=ae5 hd;obtain⟨s',hs'⟩:∃s',met[j]?=some s':=⟨_,aa1 (ab0 (aa3.mp hj).1 B.le)⟩;obtain⟨xs,D,_⟩:=B.ld j d s' hj hs'
   have:=D.ob
   rw [e,hd1]at this;cases this
  have n4:dA≠ma/\dA≠na/\dA≠la/\dA≠wa:=⟨fun e=>dnot (by simp [e]),fun e=>dnot (by simp [e]),fun e=>dnot (by simp [e]),fun e=>dnot (by simp [e])⟩;have tup1:∀{b:Addr} {ws:List V},H b=some (.tup ws)->H2 b=some (.tup ws):=fun e=>s12 _ _ (B.sx _ _ (tm e) e);have B2:=B.same s12;obtain⟨Pv,hPv⟩:∃Pv:Nat->L2.St->Hp->Prop,Pv=fun i Z H'=>∃(met':List MS) (ys:List (List Int×Addr×V)) (o8 o9:Option V),hX P w Ss Gs cols nv U H ma na la wa H' met' ds/\met'[ds.length]?=some st/\bB (AG P w) H' dA ys/\dF Ss (cols.take i) met' st ys/\ys.length<=i/\(∀b ws,H2 b=some (.tup ws)->H' b=some (.tup ws))/\Z=[some (.ref x),some (.ref ma),some (.ref na),some (.ref sa),some (.ref rb),some bx,some (.ref mA),some (.ref dA),o8,o9]:=⟨_,rfl⟩;refine ω _ _ (aH (fun Z H'=>Pv cols.length Z H') ?_ ?_)
  ·intro u2 ee
   refine FY fun k9 hk9=>?_;simp only [v9];walk_at "r";refine bN (aL.of (B2.sx sa _ sm hsa)) (cD (xs:=cs.map V.ref) Pv (by rw [hPv];exact⟨met,[],o8,o9,B2,hst,hD2,⟨fun c hc=>(by rw [List.take_zero]at hc;cases hc),fun _ _=>rfl,rfl⟩,ad3 _,fun _ _ e=>e,rfl⟩) (fun i Z H' _ h=>?_) ?_ ?_)
   ·rw [hPv]at h
    obtain⟨_,_,_,_,B',_⟩:=h;exact aL.of (B'.sx sa _ sm hsa)
   ·intro i y Z H3 hy hI
    rw [hPv]at hI;obtain⟨met3,ys,o8,o9,B3,hst3,hD3,L3,hyl,keep3,rfl⟩:=hI;rw [aa5]at hy
    cases hci:cs[i]? with
    | none=>rw [hci]at hy;cases hy
    | some ca=>
     rw [hci]at hy;cases hy
     have hi:i < cols.length:=by rw [<-hT.1];exact(aa3.mp hci).1
     obtain⟨c,hc⟩:∃c,cols[i]?=some c:=⟨_,aa1 hi⟩;have hcm:=ac5 hc;have hca:=keep3 _ _ (tup1 (hT.2 i ca c hci hc));have hmA3:=keep3 _ _ (s12 _ _ hmA)
     have hbv3:BV K H3 nv st.1 bx:=by
      cases e:st.1 with
      | none=>
       rw [e]at hbx;exact .inl ⟨rfl,hbx⟩
      | some c'=>
       rw [e]at hbx;obtain⟨b,rfl,hb⟩:=hbx;exact .inr ⟨b,c',rfl,rfl,bH.of (keep3 _ _ (s12 _ _ hb)),hstW c' e⟩
     have lU3:=lenU B3;simp only [g8];refine aH (fun Z H'=>∃fA:Addr,((cg Ss st c=none/\H' fA=some (.tup [.ref ca,.non]))\/∃ms' p,eA Ss st.2 st.1 c=some ms'/\qj Gs ms'/\H' p=some (.tup (ms'.map V.int))/\H' fA=some (.tup [.ref ca,.ref p]))/\ar H3 H'/\Z=[some (.ref x),some (.ref ma),some (.ref na),some (.ref sa),some (.ref rb),some bx,some (.ref mA),some (.ref dA),some (.ref ca),some (.ref fA)]) ?_ ?_
     ·intro u3 hu3
      walk_at "r";refine⟨rb,mA,ca,bx,nv,Ss,Gs,rs,st.2,c,st.1,rfl,RM.same (toS B3.sx),lS,bH.of hmA3,hstM,hbv3,bH.of hca,hcw c hcm,fun hno H4 s34=>⟨by omega,fun fA hfA=>hu3 _ _ ⟨fA,.inl ⟨?_,ag⟩,s34.upd hfA,rfl⟩⟩,fun ms' hms hMs p H4 hp _ s34=>⟨by omega,fun fA hfA=>hu3 _ _ ⟨fA,.inr ⟨ms',p,hms,hMs,(ak hfA) _ _ hp,ag⟩,s34.upd hfA,rfl⟩⟩⟩;unfold cg;rw [hno];rfl
     rintro Ω ω _ H4 ⟨fA,hcase,s34,rfl⟩;have B4:=B3.same s34;have hD4:=hD3.same s34;have hca4:=s34 _ _ hca;refine ω _ _ ?_;rcases hcase with⟨hno,hf4⟩ | ⟨ms',p,hms,hMs,hp4,hf4⟩
     ·refine ig fun A1 B1 hA1 hB1=>?_
      walk_at "r";refine aR (bH.of hf4) (show dC _ ((1:Nat):Int)=_ from aA rfl) ?_;rw [if_pos rfl];refine hA1 _ ?_;simp only [hV,Ab];show Pv (i+1) _ _;rw [hPv];exact⟨met3,ys,_,_,B4,hst3,hD4,L3.skip hc hno,by omega,fun b ws e=>s34 _ _ (keep3 b ws e),rfl⟩
     ·have hnx:cg Ss st c=some (some c,ms'):=by
       unfold cg;rw [hms];rfl
      have hkey:(g9 P w).at_ H4 (bP (some c,ms')) fA:=⟨_,hf4,⟨ca,rfl,hca4⟩,⟨p,rfl,hp4⟩,True.intro⟩;refine ig fun A1 B1 hA1 hB1=>?_;walk_at "r";refine aR (bH.of hf4) (show dC _ ((1:Nat):Int)=_ from aA rfl) ?_;rw [if_neg (fun e=>by cases e)];refine hB1 _ ?_;refine aH (fun Z H'=>∃met5,hX P w Ss Gs cols nv U H ma na la wa H' met5 ds/\met5[ds.length]?=some st/\(some c,ms')∈met5/\bB (AG P w) H' dA ys/\dF Ss (cols.take i) met5 st ys/\(∀b ws,H4 b=some (.tup ws)->H' b=some (.tup ws))/\Z=[some (.ref x),some (.ref ma),some (.ref na),some (.ref sa),some (.ref rb),some bx,some (.ref mA),some (.ref dA),some (.ref ca),some (.ref fA)]) ?_ ?_
      ·intro u3 hu3
       obtain⟨xs,D4,N4,xl⟩:=B4.nm;obtain⟨ps4,g1,g2,g3⟩:=B4.mt;refine ig fun A2 B2' hA2 hB2=>?_;walk_at "r";refine⟨na,fA,bP (some c,ms'),xs,rfl,rfl,D4,hkey,_,rfl,?_⟩
       cases ea:i9 xs (bP (some c,ms'))with
       | none=>
        rw [if_pos (show(!(none:Option V).isSome)=true from rfl)];refine hA2 _ (lz fun k7 hk7=>?_);walk_at "r";refine⟨_,.inl (aL.of g1),na,fA,bP (some c,ms'),xs,rfl,rfl,D4,hkey,?_⟩;rw [aa0,g2];refine hk7 _ _ ?_;walk_at "r"
        have ntN:∀vs,H4 na≠some (.tup vs):=fun vs e=>by rw [D4.ob]at e;cases e
        have hm4:(L2.upd H4 na (dO (g9 P w) na (eD xs (bP (some c,ms')) fA (.int met3.length)))) ma=some (.lst (ps4.map V.ref)):=by rw [aj mna];exact g1
        have ntM:∀vs,(L2.upd H4 na (dO (g9 P w) na (eD xs (bP (some c,ms')) fA (.int met3.length)))) ma≠some (.tup vs):=fun vs e=>by rw [hm4]at e;cases e
        have hnew:=N4.fresh ea;have hltm:ds.length < met3.length:=(aa3.mp hst3).1;refine⟨.inl ⟨rfl,_,aL.of hm4⟩,ma,_,_,rfl,rfl,hm4,by rw [aa0];omega,hu3 _ _ ⟨met3++[(some c,ms')],B4.put D4 N4 xl g1 g2 g3 hkey hnew (CU.cl st hstU c hcm _ hnx) hMs (fun c' e=>by cases e;exact hcw c hcm) hst3 hcm hnx (by omega) mna n1 n2 nla nwa (by rw [hma];exact fun e=>by cases e) (by rw [hna.ob];exact fun e=>by cases e),?_,by simp,?_,L3.more _,fun b ws e=>?_,rfl⟩⟩
        ·rw [ab5 hltm]
         exact hst3
        ·exact(hD4.upd n4.2.1 ntN).upd n4.1 ntM
        ·have h1:b≠na:=fun q=>ntN ws (by rw [<-q];exact e)
         have h2:b≠ma:=fun q=>by rw [q,g1]at e;cases e
         rw [aj h2,aj h1];exact e
       | some z=>
        rw [if_neg (by simp)];obtain⟨j,hj,_⟩:=N4.known (s:=(some c,ms')) (by rw [ea];exact fun e=>by cases e);exact hB2 _ (hu3 _ _ ⟨met3,B4,hst3,ac5 hj,hD4,L3,fun _ _ e=>e,rfl⟩)
      rintro Ω ω _ H5 ⟨met5,B5,hst5,hin5,hD5,L5,keep5,rfl⟩;refine ω _ _ ?_;walk_at "r";obtain⟨xs5,D5,N5,_⟩:=B5.nm;obtain⟨j,hj⟩:=ae5 hin5;have hf5:=keep5 _ _ hf4;have hca5:=keep5 _ _ hca4;have hkey5:(g9 P w).at_ H5 (bP (some c,ms')) fA:=⟨_,hf5,⟨ca,rfl,hca5⟩,⟨p,rfl,keep5 _ _ hp4⟩,True.intro⟩
      have ntD:∀vs,H5 dA≠some (.tup vs):=fun vs e=>by rw [hD5.ob]at e;cases e
      refine⟨na,fA,_,xs5,.int j,rfl,rfl,D5,hkey5,N5.1 j _ hj,dA,ca,c,ys,rfl,rfl,hD5,hca5,?_⟩;rw [hPv];refine⟨met5,_,_,_,B5.upd ntD hd0 n4.1 n4.2.1 n4.2.2.1 n4.2.2.2 dds,hst5,hD5.put hca5 (by omega),L5.put hc hnx hj hnd,?_,fun b ws e=>?_,rfl⟩
      ·unfold eD
       split
       ·rw [aa0];omega
       ·rw [ab2];simp;omega
      ·have h5:=keep5 _ _ (s34 _ _ (keep3 b ws e))
       rw [aj (fun q=>ntD ws (by rw [<-q];exact h5))];exact h5
   ·intro Z H3 hI
    rw [aa0,hT.1]at hI;exact hk9 _ _ (ee _ _ hI)
  intro Ω ω;intro Z H3 hI;rw [hPv]at hI;obtain⟨met3,ys,o8,o9,B3,hst3,hD3,L3,hyl,keep3,rfl⟩:=hI;rw [ac8]at L3;have hx3:=B3.sx x _ xm hx;have hlt3:ds.length < met3.length:=(aa3.mp hst3).1;have lU3:=lenU B3;refine ω _ _ (aH (fun Z H'=>H'=L2.upd H3 la (.lst (ds.map V.ref++[.ref dA]))/\Z=[some (.ref x),some (.ref ma),some (.ref na),some (.ref sa),some (.ref rb),some bx,some (.ref mA),some (.ref dA),o8,o9]) ?_ ?_)
  ·intro u2 ee
   walk_at "r";exact⟨C,dx,_,hx3,TC.cl,TC.n1,_,gw la wa sc,.inl ⟨rfl,_,aL.of B3.la_⟩,la,_,_,rfl,rfl,B3.la_,by rw [aa0];omega,ee _ _ ⟨rfl,rfl⟩⟩
  rintro Ω ω _ _ ⟨rfl,rfl⟩;refine ω _ _ ?_;walk_at "r";have xla:x≠la:=fun e=>xm (by simp [e])
  have ntL:∀vs,H3 la≠some (.tup vs):=fun vs e=>by rw [B3.la_]at e;cases e
  have hw3:(L2.upd H3 la (.lst (ds.map V.ref++[.ref dA]))) wa=some (.lst ((met3.take ds.length).map fun s=>V.bl (bY Ss s.2 s.1))):=by rw [aj n3.symm];exact B3.wl
  have sS3:ar Hs (L2.upd H3 la (.lst (ds.map V.ref++[.ref dA]))):=xO z3 (toS B3.sx)
  have tk:∀{b:Addr} {ws:List V},H2 b=some (.tup ws)->(L2.upd H3 la (.lst (ds.map V.ref++[.ref dA]))) b=some (.tup ws):=fun {b ws} e=>by
   have h3:=keep3 _ _ e;rw [aj (fun q=>ntL ws (by rw [<-q];exact h3))];exact h3
  have hbv3:BV K (L2.upd H3 la (.lst (ds.map V.ref++[.ref dA]))) nv st.1 bx:=by
   cases e:st.1 with
   | none=>
    rw [e]at hbx;exact .inl ⟨rfl,hbx⟩
   | some c'=>
    rw [e]at hbx;obtain⟨b,rfl,hb⟩:=hbx;exact .inr ⟨b,c',rfl,rfl,bH.of (tk (s12 _ _ hb)),hstW c' e⟩
  refine⟨C,dx,_,by rw [aj xla];exact hx3,TC.cl,TC.n2,_,vR la wa sc,.inl ⟨rfl,_,aL.of hw3⟩,rb,mA,bx,nv,Ss,Gs,rs,st.2,st.1,rfl,RM.same sS3,lS,bH.of (tk (s12 _ _ hmA)),hstM,hbv3,fun H4 s4=>⟨wa,_,_,rfl,rfl,s4 _ _ hw3,by rw [aa0,ac3];omega,?_⟩⟩;rw [hN];exact⟨met3,ds++[dA],_,_,_,_,_,B3.close hD3 L3 hst3 hd0 n1 n2 nla nwa n3 (by rw [hla];exact fun e=>by cases e) (by rw [hwa];exact fun e=>by cases e) s4,by rw [ab2];rfl,rfl⟩
 ·rw [if_neg hlt]
  refine hB _ ?_;have le:=B.le
  have e:ds.length=met.length:=by omega
  refine k met H1 B.mf (fun s hs=>(B.al s hs).1) (fun s hs c hc s' hn=>?_) ⟨ds,B.la_,e,?_,B.ld⟩ B.sx
  ·obtain⟨j,hj⟩:=ae5 hs
   obtain⟨d,hd⟩:∃d,ds[j]?=some d:=⟨_,aa1 (by rw [e];exact(aa3.mp hj).1)⟩;obtain⟨xs,_,L⟩:=B.ld j d s hd hj;obtain⟨j',g,_⟩:=L.1 c hc s' hn;exact ac5 g
  ·have:=B.wl
   rw [e,ac8]at this;exact this
def je(P:Program)(w:World)(C:Addr)(Ss:List bO)(cols:List (List Int))(met:List MS)(x:Addr)(H:Hp):Prop:=∃dx la wa sc:Addr,H x=some (.ins C dx (bC la wa sc))/\xY P w Ss cols la wa H met
theorem je.same(h:je P w C Ss cols met x H)(s:ar H H'):je P w C Ss cols met x H':=by
 obtain⟨dx,la,wa,sc,h1,ds,h2,h3,h4,h5⟩:=h;exact⟨dx,la,wa,sc,s _ _ h1,ds,s _ _ h2,h3,s _ _ h4,fun i d t e1 e2=>let ⟨xs,g1,g2⟩:=h5 i d t e1 e2;⟨xs,g1.same s,g2⟩⟩
def mL(P:Program)(w:World)(C:Addr):Sp:=fun vs H Q _=>∃(x:Addr) (Ss:List bO) (cols:List (List Int)) (met:List MS),vs=[.ref x]/\je P w C Ss cols met x H/\Q (.int met.length) H
def DM(P:Program)(w:World)(C:Addr):Sp:=fun vs H Q _=>∃(x ca:Addr) (Ss:List bO) (cols:List (List Int)) (met:List MS) (i:Nat) (c:List Int) (s:MS),vs=[.ref x,.int i,.ref ca]/\je P w C Ss cols met x H/\met[i]?=some s/\H ca=some (.tup (c.map V.int))/\
 (∀(j:Nat) s',c∈cols->cg Ss s c=some s'->met[j]?=some s'->Q (.int j) H)/\((c∈cols->cg Ss s c=none)->Q .non H)
def uZ(P:Program)(w:World)(C:Addr):Sp:=fun vs H Q _=>∃(x:Addr) (Ss:List bO) (cols:List (List Int)) (met:List MS) (i:Nat) (s:MS),vs=[.ref x,.int i]/\je P w C Ss cols met x H/\met[i]?=some s/\Q (.bl (bY Ss s.2 s.1)) H
def gZ(K:Frag)(C:Addr):Sp:=fun vs H Q _=>∃(x dx:Addr),vs=[.ref x]/\H x=some (.ins C dx [])/\∀l w H',H l=none->H w=none->w≠l->H'=upd (upd (upd H l (.lst [])) w (.lst [])) x (.ins C dx (bU "well" (.ref w) (bU "leads" (.ref l) [])))->Q .non H'
def jx(P:Program)(w:World)(K:Frag)(mg:Str->Option Value)(base:Heap)(C Cs:Addr):Sp:=fun vs H Q _=>∃(x dx sc:Addr) (nv:Nat) (bs:List (Int×Int)) (Ss:List bO) (Gs:List (Int->Prop)) (U:List MS) (H0:Hp),vs=[.ref x,.ref sc]/\H x=some (.ins C dx [])/\H0 x=none/\ar H0 H/\ji P w K mg base Cs nv bs Ss Gs sc H0/\Ss.length<=100/\
 qj Gs (Ss.map (·.start))/\bs.length=nv/\bs.length<=4/\(∀b∈bs,1<=wN b)/\ib bs<=400/\tU Ss (br bs) U/\∀met H',vD Ss (br bs) met->(∀s∈met,s∈U)->(∀(s:MS),s∈met->∀c∈br bs,∀s',cg Ss s c=some s'->s'∈met)->(∃dx la wa:Addr,H' x=some (.ins C dx (bC la wa sc))/\xY P w Ss (br bs) la wa H' met)->(∀b o,b≠x->H b=some o->H' b=some o)->Q .non H'
theorem Bi(F:cM K "ends" "States.ends" f6 f fd)(T:Txt mg aM)(TC:gE K C):aN P w K mg base cc 1 f fd ["self","state"] (uZ P w C):=by
 refine F.ok nX (fun _ _ _ _ h=>?_) (fun _ A _ s H vs Q E hr h=>?_)
 ·obtain⟨x,Ss,cols,met,i,s,rfl,_⟩:=h
  rfl
 obtain⟨x,Ss,cols,met,i,st,rfl,⟨dx,la,wa,sc,hx,ds,h1,h2,h3,h4⟩,hst,q⟩:=h;refine⟨_,(ai (aw (ax (aG K) (bq (pr 0) rfl) (pr 1) (fun _ _=>rfl)))),?_⟩;walk_at "r";exact⟨C,dx,_,hx,TC.cl,TC.n2,_,vR la wa sc,bG (aL.of h3) (aA (by rw [aa5,hst];rfl)) q⟩
theorem nG(F:cM K "__init__" "States.__init__" dS f fd)(T:Txt mg aM)(TC:gE K C):aN P w K mg base cc 1 f fd ["self"] (gZ K C):=by
 refine F.ok ju (fun _ _ _ _ h=>?_) (fun _ A _ s H vs Q E hr h=>?_)
 ·obtain⟨x,dx,rfl,_⟩:=h
  rfl
 obtain⟨x,dx,rfl,hx,k⟩:=h
 refine⟨_,(ae (cN (pr 0) (bQ ah) rfl)
 (ai (cN (pr 0) (bQ ah) rfl))),?_⟩
 have hs:sizeLine=16777216:=sizeLine_eq;walk_at "r";have ln:∀(f:Str) (v:V) (l:List (Str×V)) (n:Nat),l.length<=n->(bU f v l).length<=n+1:=fun f v l n h=>ab9 (cv f v l) (af8 h);refine⟨by omega,fun l hl=>?_⟩
 have lx:l≠x:=fun e=>by subst e;rw [hx]at hl;cases hl
 refine⟨C,dx,[],by rw [aj (Ne.symm lx)];exact hx,TC.cl,TC.n1,by decide,by omega,fun w' hw=>?_⟩
 have wx:w'≠x:=fun e=>by subst e;rw [ag]at hw;cases hw
 rw [aj wx]at hw
 have wl:w'≠l:=fun e=>by subst e;rw [ag]at hw;cases hw
 rw [aj wl]at hw;refine⟨C,dx,_,by rw [aj (Ne.symm wx),ag],TC.cl,TC.n2,ad2 (ln _ _ _ _ (ad3 0)) (by decide),?_⟩;refine k l w' _ hl hw wl ?_;rw [oA]
theorem zc(F:cM K "size" "States.size" f7 f fd)(T:Txt mg aM)(TC:gE K C):aN P w K mg base cc 1 f fd ["self"] (mL P w C):=by
 refine F.ok nY (fun _ _ _ _ h=>?_) (fun _ A _ s H vs Q E hr h=>?_)
 ·obtain⟨x,Ss,cols,met,rfl,_⟩:=h
  rfl
 obtain⟨x,Ss,cols,met,rfl,⟨dx,la,wa,sc,hx,ds,h1,h2,_⟩,q⟩:=h;refine⟨_,(ai (aw (az (aC K) (by rfl) T.n_len boot_len (aa (bq (pr 0) rfl) ah)))),?_⟩;walk_at "r";refine⟨C,dx,_,hx,TC.cl,TC.n1,_,gw la wa sc,.inr ⟨_,rfl,_,.inl (aL.of h1),?_⟩⟩;rw [aa0,h2];exact q
theorem EO(F:cM K "to" "States.to" iF f fd)(T:Txt mg aM)(TC:gE K C):aN P w K mg base cc 1 f fd ["self","state","column"] (DM P w C):=by
 refine F.ok rq (fun _ _ _ _ h=>?_) (fun _ A _ s H vs Q E hr h=>?_)
 ·obtain⟨x,ca,Ss,cols,met,i,c,s,rfl,_⟩:=h
  rfl
 obtain⟨x,ca,Ss,cols,met,i,c,st,rfl,⟨dx,la,wa,sc,hx,ds,h1,h2,h3,h4⟩,hst,hc,q1,q2⟩:=h;refine⟨_,(ai (aw (Bz (kk':=AG P w) (ee hr) (ax (aG K) (bq (pr 0) rfl) (pr 1) (fun _ _=>rfl)) (aa (pr 2) ah)))),?_⟩;walk_at "r";obtain⟨d,hd⟩:∃d,ds[i]?=some d:=⟨_,aa1 (by rw [h2];exact(aa3.mp hst).1)⟩;obtain⟨xs,D,L⟩:=h4 i d st hd hst;refine⟨C,dx,_,hx,TC.cl,TC.n1,_,gw la wa sc,bG (aL.of h1) (aA (by rw [aa5,hd];rfl)) ?_⟩;refine⟨⟨d,rfl,xs,D⟩,d,ca,c,xs,rfl,rfl,D,hc,?_⟩
 by_cases hcc:c∈cols
 ·cases hn:cg Ss st c with
  | none=>
   rw [L.2.1 c fun _=>hn];exact q2 fun _=>hn
  | some s'=>
   obtain⟨j,hj,ha⟩:=L.1 c hcc s' hn;rw [ha];exact q1 j s' hcc hn hj
 ·rw [L.2.1 c fun h=>absurd h hcc]
  exact q2 fun h=>absurd h hcc
theorem qN(F:cM K "__init__" "Machine.__init__" dz f fd)(T:Txt mg aM)(TC:gE K C)(TS:dm K Cs)(DC_States___init__:lZ P w K mg base "States" "__init__" 10 ["self"] (gZ K C))(D_columns:bR P w K mg base "columns" 10 ["score"] (i6 K Cs))(M_build:aK P w K mg base C "build" 10 ["self","met","numbers","steps"] (rD P w K mg base C Cs)):
  aN P w K mg base cc 11 f fd ["self","score"] (jx P w K mg base C Cs):=by
 refine F.ok sc_Machine___init__ (fun _ _ _ _ h=>?_) (fun _ A _ s H vs Q E hr h=>?_)
 ·obtain⟨x,dx,sc,nv,bs,Ss,Gs,U,H0,rfl,_⟩:=h
  rfl
 obtain⟨x,dx,sc,nv,bs,Ss,Gs,U,H0,rfl,hx,hx0,s0,⟨dsc,ra,rb,rs,hsc,RA,RM⟩,lS,hM0,hnv,lb,hw,hc,CU,k⟩:=h
 refine⟨_,(ae (bF (ix DC_States___init__ hr (by rfl) (aa (pr 0) ah)))
 (ae (cN (pr 0) (pr 1) rfl)
 (ae (bM (i:=2) sc_Machine___init__.nd (dj (aa aV (aa (bo (fS K) (by rfl) T.n_tuple boot_tuple (aa (c8 (own:=["rule"]) (js:=[]) rfl (bE K (bq (pr 1) rfl)) (bw.of (by rfl)) (fun _ _ _ _ _=>(bL (i:=0) (show List.Nodup (["rule"]:List Str)from by decide +kernel) rfl (Or.inl rfl))) (fun _ _ _ _ _=>cJ) (fun _ _ _ _ _=>(eC P w K mg base hr (pr 0)))) ah)) ah))))
 (ai (bF (dR P w K mg base hr (pr 0) (aa (bQ (aa (pr 2) ah)) (aa (BE (kk':=g9 P w) (ee hr) (pr 2) (nO T.g_START) (Df (ee hr))) (aa (aD D_columns hr (by rfl) (aa (pr 1) ah)) ah))))))))),?_⟩
 have hs:sizeLine=16777216:=sizeLine_eq
 have scx:sc≠x:=fun e=>by rw [e,hx0]at hsc;cases hsc
 refine aH (fun Z H'=>∃la wa:Addr,H la=none/\H wa=none/\wa≠la/\H'=upd (upd (upd H la (.lst [])) wa (.lst [])) x (.ins C dx (bU "well" (.ref wa) (bU "leads" (.ref la) [])))/\Z=[some (.ref x),some (.ref sc),none]) ?_ ?_
 ·intro u' hu
  walk_at "r";exact⟨x,dx,rfl,hx,fun l w' H' hl hw' hne e=>hu _ _ ⟨l,w',hl,hw',hne,e,rfl⟩⟩
 rintro Ω ω _ H1 ⟨la,wa,hla,hwa,nwl,eH1,rfl⟩
 have hx1:H1 x=some (.ins C dx (bU "well" (.ref wa) (bU "leads" (.ref la) []))):=by rw [eH1,ag]
 refine ω _ _ (aH (fun Z H'=>H'=upd H1 x (.ins C dx (bC la wa sc))/\Z=[some (.ref x),some (.ref sc),none]) ?_ ?_)
 ·intro u' hu
  walk_at "r";have ln:∀(f:Str) (v:V) (l:List (Str×V)) (n:Nat),l.length<=n->(bU f v l).length<=n+1:=fun f v l n h=>ab9 (cv f v l) (af8 h);exact⟨C,dx,_,hx1,TC.cl,TC.n3,ad2 (ln _ _ _ _ (ln _ _ _ _ (ad3 0))) (by decide),hu _ _ ⟨rfl,rfl⟩⟩
 rintro Ω ω _ H2 ⟨eH2,rfl⟩
 have lax:la≠x:=fun e=>by rw [e,hx]at hla;cases hla
 have wax:wa≠x:=fun e=>by rw [e,hx]at hwa;cases hwa
 have e2:H2=upd (upd (upd H la (.lst [])) wa (.lst [])) x (.ins C dx (bC la wa sc)):=by rw [eH2,eH1,de]
 have hx2:H2 x=some (.ins C dx (bC la wa sc)):=by rw [e2,ag]
 have hla2:H2 la=some (.lst []):=by rw [e2,aj lax,aj nwl.symm,ag]
 have hwa2:H2 wa=some (.lst []):=by rw [e2,aj wax,ag]
 have old2:∀b o,b≠x->H b=some o->H2 b=some o:=fun b o hb e=>by rw [e2,aj hb,aj (au e hwa),aj (au e hla)];exact e
 have s02:ar H0 H2:=fun b o e=>old2 b o (fun q=>by rw [q,hx0]at e;cases e) (s0 _ _ e)
 have hla0:H0 la=none:=by
  cases e:H0 la with
  | none=>rfl
  | some o=>rw [s0 _ _ e]at hla;cases hla
 have hwa0:H0 wa=none:=by
  cases e:H0 wa with
  | none=>rfl
  | some o=>rw [s0 _ _ e]at hwa;cases hwa
 clear e2 eH2 eH1 hx1;clear H1;have RM2:=RM.same s02
 refine ω _ _ (aH (fun Z H'=>∃bg mA:Addr,H' bg=some (.tup [.non,.ref mA])/\H' mA=some (.tup ((Ss.map (·.start)).map V.int))/\ar H2 H'/\Z=[some (.ref x),some (.ref sc),some (.ref bg)]) ?_ ?_)
 ·intro u' hu
  walk_at "r";have lr:=RM.len;have lg:=RM.gl
  refine⟨Cs,dsc,_,s02 _ _ hsc,TS.cl,TS.n2,_,jX ra rb,bN RM2.sq (cz (xs:=rs.map V.ref) (fun i ys H'=>ys=((Ss.take i).map (·.start)).map V.int/\H2=H') (by rw [aa0];omega) ⟨rfl,rfl⟩ ?_ ?_ ?_ ?_)⟩
  ·rintro i ys H' ⟨rfl,rfl⟩
   rw [aa0,aa0,ac3];omega
  ·rintro i ys H' ⟨rfl,rfl⟩
   exact RM2.sq
  ·rintro i y ys H' hy ⟨rfl,rfl⟩
   rw [aa5]at hy
   cases hri:rs[i]? with
   | none=>rw [hri]at hy;cases hy
   | some r=>
    rw [hri]at hy;cases hy
    have hi:i < Ss.length:=by rw [<-lr];exact(aa3.mp hri).1
    obtain⟨S,hS⟩:∃S,Ss[i]?=some S:=⟨_,aa1 hi⟩;obtain⟨G,hG⟩:∃G,Gs[i]?=some G:=⟨_,aa1 (by omega)⟩;obtain⟨Cr,RI,RO,hRI⟩:=RM2.at_ i r S G hri hS hG;obtain⟨dr,fs,hir,z1,z2,z3,z4,z5⟩:=RO.ins r H2 hRI;simp only [gq];walk_at "r";refine⟨Cr,dr,fs,hir,z2,_,_,RO.start.up (by decide),r,rfl,hRI,?_⟩;rw [ac1,hS,ab4,ab4];exact⟨rfl,rfl⟩
  ·rintro ys H' ⟨rfl,rfl⟩ p hp
   rw [aa0,lr,ac8];refine⟨_,.inl ⟨aL.of ag,fun l hl=>⟨by omega,fun bg hbg=>hu _ _ ⟨bg,l,ag,(ak hbg) _ _ ag,((ak hp).upd hl).upd hbg,rfl⟩⟩⟩⟩
 rintro Ω ω _ H3 ⟨bg,mA,hbg,hmA,s23,rfl⟩;refine ω _ _ ?_;walk_at "r";have hx3:=s23 _ _ hx2;have s03:=s02.trans s23;refine⟨C,dx,_,hx3,by unfold bC;walk_at "f",_,_,M_build,by omega,fun ma hma na hna=>?_⟩;have hna3:H3 na=none:=(ak hma).free hna
 have nma:na≠ma:=fun e=>by rw [e,ag]at hna;cases hna
 have hk4:(g9 P w).at_ (upd (upd H3 ma (.lst [.ref bg])) na (dO (g9 P w) na [])) (bP (none,Ss.map (·.start))) bg:=⟨_,(ak hna) _ _ ((ak hma) _ _ hbg),rfl,⟨mA,rfl,(ak hna) _ _ ((ak hma) _ _ hmA)⟩,True.intro⟩
 refine⟨ag,_,hk4,?_⟩;rw [de]
 have s35:ar H3 (upd (upd H3 ma (.lst [.ref bg])) na (dO (g9 P w) na [(bP (none,Ss.map (·.start)),bg,.int 0)])):=(ak hma).upd hna
 have hma5:(upd (upd H3 ma (.lst [.ref bg])) na (dO (g9 P w) na [(bP (none,Ss.map (·.start)),bg,.int 0)])) ma=some (.lst [.ref bg]):=by rw [aj nma.symm,ag]
 have hna5:(upd (upd H3 ma (.lst [.ref bg])) na (dO (g9 P w) na [(bP (none,Ss.map (·.start)),bg,.int 0)])) na=some (dO (g9 P w) na [(bP (none,Ss.map (·.start)),bg,.int 0)]):=ag
 refine(fun(key:∀H5:Hp,ar H3 H5->H5 ma=some (.lst [.ref bg])->H5 na=some (dO (g9 P w) na [(bP (none,Ss.map (·.start)),bg,.int 0)])->i6 K Cs [V.ref sc] H5 _ _)=>key _ s35 hma5 hna5) ?_
 clear s35 hma5 hna5;intro H5 s35 hma5 hna5;have s05:=s03.trans s35;refine⟨sc,dsc,ra,rb,bs,rfl,s05 _ _ hsc,RA.same s05,lb,hw,hc,fun sa H6 hsa0 hC6 s56=>?_⟩;obtain⟨cs,hsa,hT⟩:=hC6;have s06:=s05.trans s56;have s36:=s35.trans s56
 have fr0:∀{z:Addr},H3 z=none->H0 z=none:=fun {z} h=>by
  cases e:H0 z with
  | none=>rfl
  | some o=>rw [s03 _ _ e]at h;cases h
 have hla3:=s23 _ _ hla2;have hwa3:=s23 _ _ hwa2
 refine⟨x,dx,ma,na,sa,la,wa,sc,dsc,ra,rb,bg,nv,Ss,Gs,rs,cs,br bs,U,H0,rfl,s36 _ _ hx3,s06 _ _ hsc,s06,fr0 hma,fr0 hna3,hla0,hwa0,RM,lS,hM0,s56 _ _ hma5,⟨_,s36 _ _ hbg,rfl,⟨mA,rfl,s36 _ _ hmA⟩,True.intro⟩,
  ⟨s56 _ _ hna5,fun y hy=>?_,by simp,by simp⟩,s36 _ _ hla3,s36 _ _ hwa3,(au hla3 hma).symm,(au hwa3 hma).symm,nwl.symm,hsa,(au hma5 hsa0).symm,(au (s35 _ _ hla3) hsa0).symm,(au (s35 _ _ hwa3) hsa0).symm,hT,fun c hcc=>by rw [ic bs c hcc,hnv],by rw [fq];omega,rY bs,CU,fun met H' mf sub cl mb sx=>k met H' mf sub cl ⟨dx,la,wa,?_,mb⟩ fun b o hb e=>?_⟩
 ·rw [ab6.mp hy]
  exact⟨_,s36 _ _ hbg,rfl,⟨mA,rfl,s36 _ _ hmA⟩,True.intro⟩
 ·refine sx x _ (fun h=>?_) (s36 _ _ hx3)
  simp only [aa8,ac2,or_false]at h;rcases h with e | e | e | e
  ·exact au hx3 hma e
  ·exact au hx3 hna3 e
  ·exact lax e.symm
  ·exact wax e.symm
 ·have h3:=s23 _ _ (old2 b o hb e)
  refine sx b o (fun h=>?_) (s36 _ _ h3);simp only [aa8,ac2,or_false]at h;rcases h with q | q | q | q
  ·exact au h3 hma q
  ·exact au h3 hna3 q
  ·exact au e hla q
  ·exact au e hwa q
inductive fg where
 | span (o t:Int) (D:List Int)
 | held (o most:Int)
 | times (o nt lw hg:Int)
variable {R:fg}
def iZ(o:Int)(cols:List (List Int))(i:Nat):Int:=aY (cols.getD i []) (o+1)
def ue(o nt:Int)(us:List Int):Bool:=decide (aY us (o+1)=nt)
def d0(o nt:Int)(cols:List (List Int))(i:Nat):Nat:=((cols.take i).filter (ue o nt)).length
def eZ(o:Int)(cols:List (List Int)):Nat->Nat
 | 0=>0
 | i+1=>if iZ o cols i=iZ o cols (i+1)then eZ o cols i+1 else 0
def tQ(cols:List (List Int))(i:Nat):fg->Bool
 | .span o t D=>!decide (iZ t cols i - iZ o cols i∈D)
 | .held o most=>decide (most<=(eZ o cols i:Int))
 | .times o nt _ hg=>decide (iZ o cols i=nt) && decide ((d0 o nt cols i:Int)>=hg)
def EU(cols:List (List Int))(i:Nat):fg->Bool
 | .times o nt lw _=>decide ((d0 o nt cols i:Int) < lw)
 | _=>false
def iL:fg->bO
 | .span o t D=>eQ (o+1) (t+1) D
 | .held o most=>dY (o+1) most
 | .times o nt lw hg=>cE (o+1) nt lw hg
def Dc:fg->Int->Prop
 | .held _ most=>pT most
 | .times _ _ _ hg=>jZ hg
 | _=>fun _=>True
def xa(cols:List (List Int))(i:Nat):fg->Int
 | .held o _=>(match i with | 0=>0 | i+1=>(eZ o cols i:Int))
 | .times o nt _ _=>(d0 o nt cols i:Int)
 | _=>0
def pO(nv:Nat):fg->Prop
 | .span o t _=>0<=o/\o < nv/\0<=t/\t < nv
 | .held o most=>0<=o/\o < nv/\1<=most
 | .times o _ _ hg=>0<=o/\o < nv/\0<=hg
theorem ny{o:Int}(h:cols[i]?=some us):iZ o cols i=aY us (o+1):=by
 unfold iZ;rw [ab8,h];rfl
theorem rX(o nt:Int)(cols:List (List Int))(i:Nat)(us:List Int)(h:cols[i]?=some us):d0 o nt cols (i+1)=d0 o nt cols i+if ue o nt us=true then 1 else 0:=by
 unfold d0;rw [ac1,h,ao2,ab2];congr 1
 by_cases hh:ue o nt us=true
 ·simp [hh]
 ·simp [hh]
theorem D6(nv:Nat)(cols:List (List Int))(R:fg)(hg:pO nv R):Walks (iL R) cols (fun i=>xa cols i R) (fun i=>tQ cols i R):=by
 have prev:∀{i:Nat} {us:List Int},cols[i+1]?=some us->∃bs,cols[i]?=some bs/\dn cols (i+1)=some bs:=fun {i us} hu=>by
  have hi:i+1 < cols.length:=(aa3.mp hu).1;exact⟨cols[i],aa1 (by omega),aa1 (by omega)⟩
 cases R with
 | span o t D=>
  refine⟨rfl,fun i us hu=>?_⟩;simp only [iL,eQ,xa,tQ,ny hu]
  by_cases h:aY us (t+1) - aY us (o+1)∈D
  ·rw [if_pos h,decide_eq_true h];rfl
  ·rw [if_neg h,decide_eq_false h];rfl
 | held o most=>
  obtain⟨_,_,h1⟩:=hg;refine⟨rfl,fun i us hu=>?_⟩
  cases i with
  | zero=>
   have:tQ cols 0 (.held o most)=false:=decide_eq_false (by show ¬(most<=(0:Int));omega)
   rw [this];rfl
  | succ i=>
   obtain⟨bs,hb,hp⟩:=prev hu;show(dY (o+1) most).after (eZ o cols i:Int) (dn cols (i+1)) us=if tQ cols (i+1) (.held o most)=true then none else some (eZ o cols (i+1):Int);rw [hp]
   have er:eZ o cols (i+1)=if aY bs (o+1)=aY us (o+1)then eZ o cols i+1 else 0:=by rw [<-ny hb,<-ny hu];rfl
   simp only [dY]
   by_cases h:aY bs (o+1)=aY us (o+1)
   ·rw [if_pos h]at er
    rw [if_pos h,er]
    by_cases h2:(eZ o cols i:Int)+1 < most
    ·have eb:tQ cols (i+1) (.held o most)=false:=by show decide (most<=((eZ o cols (i+1):Nat):Int))=_;rw [er];exact decide_eq_false (by omega)
     rw [if_pos h2,eb];rfl
    ·have eb:tQ cols (i+1) (.held o most)=true:=by show decide (most<=((eZ o cols (i+1):Nat):Int))=_;rw [er];exact decide_eq_true (by omega)
     rw [if_neg h2,eb];rfl
   ·rw [if_neg h]at er
    have eb:tQ cols (i+1) (.held o most)=false:=by show decide (most<=((eZ o cols (i+1):Nat):Int))=_;rw [er];exact decide_eq_false (by omega)
    rw [if_neg h,er,eb];rfl
 | times o nt lw hgh=>
  refine⟨rfl,fun i us hu=>?_⟩;have hc:=rX o nt cols i us hu;simp only [iL,cE,xa,tQ,ny hu]
  by_cases h:aY us (o+1)=nt
  ·have hh:ue o nt us=true:=decide_eq_true h
   rw [if_pos hh]at hc;rw [if_pos h,hc,decide_eq_true h]
   by_cases h2:(d0 o nt cols i:Int) < hgh
   ·rw [if_pos h2,decide_eq_false (by omega)]
    rfl
   ·rw [if_neg h2,decide_eq_true (by omega)]
    rfl
  ·have hh:ue o nt us=false:=decide_eq_false h
   rw [if_neg (by rw [hh];exact aa6)]at hc;rw [if_neg h,hc,decide_eq_false h];rfl
theorem AI(nv:Nat)(cols:List (List Int))(R:fg)(hg:pO nv R)(i:Nat)(hi:i<=cols.length):(iL R).closes (xa cols i R) (dn cols i)=!EU cols i R:=by
 cases R with
 | span o t D=>rfl
 | held o most=>rfl
 | times o nt lw hgh=>
  show decide ((d0 o nt cols i:Int)>=lw)=!decide ((d0 o nt cols i:Int) < lw)
  by_cases h:(d0 o nt cols i:Int) < lw
  ·rw [decide_eq_true h,decide_eq_false (by omega)];rfl
  ·rw [decide_eq_false h,decide_eq_true (by omega)];rfl
inductive aE where
 | plain (R:fg)
 | every (m a:Int) (R:fg)
def CY:fg->Prop
 | .span _ _ _=>True
 | _=>False
def eS(cols:List (List Int))(i:Nat):aE->Bool
 | .plain R=>tQ cols i R
 | .every m a R=>decide ((i:Int) % m=a) && tQ cols i R
def cf(nv:Nat):aE->Prop
 | .plain R=>pO nv R
 | .every m a R=>pO nv R/\CY R/\1<=m/\0<=a/\a < m
theorem AR{CX:Ap}{ps:List Str}{sp sp':Sp}(F:aN P w K mg base CX k f fd ps sp)(G:aN P w K mg base CX k f fd ps sp'):aN P w K mg base CX k f fd ps (fun vs H Q E=>sp vs H Q E\/sp' vs H Q E):=
 ⟨fun vs H Q E q=>q.elim (F.len vs H Q E) (G.len vs H Q E),fun A outer s H args us vs Q E hr he hb hv hs=>hs.elim (F.run A outer s H args us vs Q E hr he hb hv) (G.run A outer s H args us vs Q E hr he hb hv)⟩
def bV:aE->Int
 | .plain R=>(iL R).size
 | .every m _ _=>m
def uD(cols:List (List Int)):aE->Bool
 | .plain R=>EU cols cols.length R
 | .every _ _ _=>false
def aU:aE->bO
 | .plain R=>iL R
 | .every m a R=>dX m a (iL R)
def gx(cols:List (List Int))(i:Nat):aE->Int
 | .plain R=>xa cols i R
 | .every m _ _=>(i:Int) % m
def D9:aE->Int->Prop
 | .plain R=>Dc R
 | .every m _ _=>nq m
theorem zO(R:aE):(aU R).size=bV R:=by
 cases R<;>rfl
theorem yE{b:Option (List Int)}(hu:cols[i]?=some us)(hi:CY R):(iL R).after (iL R).start b us=if tQ cols i R=true then none else some 0:=by
 cases R with
 | span o t D=>
  show(if aY us (t+1) - aY us (o+1)∈D then some 0 else none)=if (!decide (iZ t cols i - iZ o cols i∈D))=true then none else some 0;rw [ny hu,ny hu]
  by_cases h:aY us (t+1) - aY us (o+1)∈D
  ·rw [if_pos h,decide_eq_true h];rfl
  ·rw [if_neg h,decide_eq_false h];rfl
 | _=>exact hi.elim
theorem mO(nv:Nat)(cols:List (List Int))(R:aE)(hg:cf nv R):Walks (aU R) cols (fun i=>gx cols i R) (fun i=>eS cols i R):=by
 cases R with
 | plain R=>exact D6 nv cols R hg
 | every m a R=>
  obtain⟨hg,hin,m1,a0,a1⟩:=hg;refine⟨by show(0:Int)=((0:Nat):Int) % m;simp,fun i us hu=>?_⟩
  have em:((i:Int) % m+1) % m=((i+1:Nat):Int) % m:=by
   rw [Int.emod_add_emod];rfl
  show(if (i:Int) % m=a then(if (iL R).after (iL R).start (dn cols i) us=none then none else some (((i:Int) % m+1) % m))else some (((i:Int) % m+1) % m))=if (decide ((i:Int) % m=a) && tQ cols i R)=true then none else some (((i+1:Nat):Int) % m);rw [em,yE hu hin]
  by_cases h:(i:Int) % m=a
  ·rw [if_pos h,decide_eq_true h,am6]
   by_cases hb:tQ cols i R=true
   ·rw [if_pos hb,if_pos rfl,if_pos hb]
   ·rw [if_neg hb,if_neg hb,if_neg (fun z=>by cases z)]
  ·rw [if_neg h,decide_eq_false h,ai4]
   rfl
theorem j6{o:Int}(h:j < i):iZ o (cols.take i) j=iZ o cols j:=by
 unfold iZ;rw [ab8,ab8,aj0,if_pos h]
theorem Bv(cols:List (List Int))(i:Nat)(hi:i<=cols.length)(R:fg):EU (cols.take i) (cols.take i).length R=EU cols i R:=by
 have hl:(cols.take i).length=i:=by rw [ac3];omega
 rw [hl]
 cases R with
 | times o nt lw hgh=>
  show decide ((d0 o nt (cols.take i) i:Int) < lw)=decide ((d0 o nt cols i:Int) < lw)
  have:d0 o nt (cols.take i) i=d0 o nt cols i:=by
   unfold d0;rw [List.take_take,Nat.min_self]
  rw [this]
 | _=>rfl
theorem rV(nv:Nat)(cols:List (List Int))(R:aE)(hg:cf nv R)(i:Nat)(hi:i<=cols.length):(aU R).closes (gx cols i R) (dn cols i)=!uD (cols.take i) R:=by
 cases R with
 | plain R=>
  show(iL R).closes (xa cols i R) (dn cols i)=!EU (cols.take i) (cols.take i).length R;rw [Bv cols i hi];exact AI nv cols R hg i hi
 | every m a R=>rfl
def cG:fg->Str
 | .span _ _ _=>"span"
 | .held _ _=>"held"
 | .times _ _ _ _=>"times"
def b0:fg->List Int
 | .span o t D=>(o+1)::(t+1)::D
 | .held o most=>[o+1,most]
 | .times o nt lw hg=>[o+1,nt,lw,hg]
def vQ:fg->Prop
 | .span _ _ D=>1<=D.length/\D.length<=12
 | .times _ _ lw _=>0<=lw
 | _=>True
def EJ(R:fg):Prop:=(∀n∈b0 R,n.natAbs < 10 ^ 40)/\vQ R
def qK:aE->Prop
 | .plain R=>EJ R
 | .every m a R=>EJ R/\m.natAbs < 10 ^ 40/\a.natAbs < 10 ^ 40
theorem sM(h:EJ R):(b0 R).length<=20:=by
 have hl:=h.2
 cases R<;>simp only [b0,vQ,ad1,an2]at hl |-<;>omega
def tX(RI:pE):Prop:=∀(r:Addr) (H:Hp) (z:Addr) (xs:List Addr) (ys:List V),RI r H->H z=some (.lst (xs.map V.ref))->RI r (upd H z (.lst ys))
def fU(P:Program)(w:World)(K:Frag)(mg:Str->Option Value)(base:Heap)(nv:Nat)(R:aE)(r:Addr)(H:Hp):Prop:=∃(C:Addr) (RI:pE),bS P w K mg base 7 nv C (aU R) RI (D9 R)/\tX RI/\RI r H
theorem fU.same{R:aE}{r:Addr}(s:ar H H')(h:fU P w K mg base nv R r H):fU P w K mg base nv R r H':=by
 obtain⟨C,RI,h1,h0,h2⟩:=h;exact⟨C,RI,h1,h0,h1.mono _ _ _ s h2⟩
theorem fU.stab{R:aE}{r:Addr}{xs:List Addr}(h:fU P w K mg base nv R r H)(hz:H z=some (.lst (xs.map V.ref))):fU P w K mg base nv R r (upd H z (.lst ys)):=by
 obtain⟨C,RI,h1,h0,h2⟩:=h;exact⟨C,RI,h1,h0,h0 _ _ _ _ _ h2 hz⟩
def mn(P:Program)(w:World)(K:Frag)(mg:Str->Option Value)(base:Heap)(nv:Nat)(H:Hp)(b:Addr)(Rs:List aE):Prop:=∃rs:List Addr,aL K H b (rs.map V.ref)/\rs.length=Rs.length/\∀(j:Nat) (r:Addr) (R:aE),rs[j]?=some r->Rs[j]?=some R->fU P w K mg base nv R r H
theorem mn.same{b:Addr}{Rs:List aE}(s:ar H H')(h:mn P w K mg base nv H b Rs):mn P w K mg base nv H' b Rs:=by
 obtain⟨rs,h1,h2,h3⟩:=h;exact⟨rs,s.seq h1,h2,fun j r R e1 e2=>(h3 j r R e1 e2).same s⟩
def dw(P:Program)(w:World)(K:Frag)(mg:Str->Option Value)(base:Heap)(C:Addr)(nv:Nat)(bs:List (Int×Int))(Rs:List aE)(x:Addr)(H:Hp):Prop:=∃(dx a b:Addr),H x=some (.ins C dx (c7 a b))/\bW K H a bs/\mn P w K mg base nv H b Rs
theorem dw.same{Rs:List aE}(s:ar H H')(h:dw P w K mg base C nv bs Rs x H):dw P w K mg base C nv bs Rs x H':=by
 obtain⟨dx,a,b,h1,h2,h3⟩:=h;exact⟨dx,a,b,s _ _ h1,h2.same s,h3.same s⟩
def dB(bs:List (Int×Int))(Rs:List aE):Int:=Rs.foldl (fun t R=>t * bV R) (rL bs)
def jz(P:Program)(w:World)(K:Frag)(mg:Str->Option Value)(base:Heap)(C:Addr):Sp:=fun vs H Q _=>∃(x:Addr) (nv:Nat) (bs:List (Int×Int)) (Rs:List aE),vs=[.ref x]/\dw P w K mg base C nv bs Rs x H/\bs.length<=100/\Rs.length<=100/\(∀b∈bs,(fR b).natAbs < 2 ^ 60)/\(∀R∈Rs,(bV R).natAbs < 2 ^ 60)/\dB bs Rs<=400/\Q (.ref x) H
theorem dw.toM{Rs:List aE}(h:dw P w K mg base C nv bs Rs x H):ji P w K mg base C nv bs (Rs.map aU) (Rs.map D9) x H:=by
 obtain⟨dx,a,b,h1,h2,rs,h3,h4,h5⟩:=h;refine⟨dx,a,b,rs,h1,h2,⟨h3,by rw [aa0,h4],by rw [aa0,aa0],fun j r S G e1 e2 e3=>?_⟩⟩;rw [aa5]at e2 e3
 cases hR:Rs[j]? with
 | none=>rw [hR]at e2;cases e2
 | some R=>
  rw [hR]at e2 e3;cases e2;cases e3;obtain⟨C,RI,g1,_,g2⟩:=h5 j r R e1 hR;exact⟨C,RI,g1,g2⟩
theorem D7(bs:List (Int×Int))(Rs:List aE):Fz bs (Rs.map aU)=dB bs Rs:=by
 unfold Fz dB;rw [List.foldl_map];simp only [zO]
theorem CJ(h:a.natAbs < 2 ^ 60):a.natAbs < 2 ^ 200:=Nat.lt_trans h (by decide +kernel)
theorem xf:∀vs H Q E,jz P w K mg base C vs H Q E->p5 P w K mg base C vs H Q E:=fun vs H Q E zq=>by
 obtain⟨x,nv,bs,Rs,h1,h3,l1,l2,h4,h5,h6,h7⟩:=zq
 exact⟨x,nv,bs,Rs.map aU,Rs.map D9,h1,h3.toM,l1,by rw [aa0];exact l2,fun b hb=>CJ (h4 b hb),fun S hS=>by
  obtain⟨R,hR,rfl⟩:=ac0.mp hS;rw [zO]
  exact CJ (h5 R hR),by rw [D7];exact h6,h7⟩
def Ei(P:Program)(w:World)(K:Frag)(mg:Str->Option Value)(base:Heap)(Dt:List (Str×V))(nv:Nat)(R:fg):Prop:=∃(f C:Addr) (sp:Sp) (RI:Str->pE),KTD.datumAt (cG R) Dt=some (.ref f)/\jG P w K mg base 7 f ["row","numbers","voices"] sp/\
 (∀(row:Str) (q:Addr) (H':Hp) (Q':VK),H' q=some (.lst ((b0 R).map V.int))->(∀r H'',ar H' H''->RI row r H''->Q' (.ref r) H'')->sp [.str row,.ref q,.int nv] H' Q' E0)/\
 (∀row,bS P w K mg base 7 nv C (iL R) (RI row) (Dc R))/\(CY R->∀row,bS P w K mg base 4 nv C (iL R) (RI row) (Dc R))/\∀row,tX (RI row)
theorem pd{T0:Addr}(F:qg K "read_rule" "read_rule" fT f fd T0)(T:Txt mg aM)(D_plain_rule:bR P w K mg base "plain_rule" 9 ["row","voices"] (kx P w K mg base aM 7)):aN P w K mg base cc 10 f fd ["text","voices","row"] (zT P w K mg base aM 7):=by
 refine F.ok sc_read_rule (fun _ _ _ _ h=>?_) (fun _ A _ s H vs Q E hr h=>?_)
 ·obtain⟨row,kind,ns,nv,z,D,g,sp,Res,rfl,_⟩:=h
  rfl
 obtain⟨row,kind,ns,nv,z,D,g,sp,Res,rfl,R,hk,tab,hg,fn,k,kq⟩:=h
 refine⟨_,(ae (bM (i:=3) sc_read_rule.nd (dQ (bu (bJ K PySem.F.plainAttrs_str PySem.F.slot_str_startswith PySem.F.type_str_startswith fW (pr 0) (aa bD ah)) (fun _=>rfl)) zo (aD D_plain_rule hr (by rfl) (aa (pr 0) (aa (pr 1) ah)))))
 (ae (aW (bh (av dJ (pr 3) aV (aB _))) (ai ke) aF)
 (ai (aw (pr 3))))),?_⟩
 walk_at "r";rw [vh row _ (c:=101) (by decide +kernel) (by rw [R.head];exact hk),if_neg aa6];refine⟨row,kind,ns,nv,D,g,sp,Res,rfl,R,tab,hg,fn,k,fun v H' hv=>?_⟩;obtain⟨hn,q⟩:=kq v H' hv;rw [if_neg hn];exact q
theorem vN{n:Addr}{xs:List Addr}(hD:1<=D.length)(hn:H n=some (.lst (D.map V.int)))(hz:H z=some (.lst (xs.map V.ref))):n≠z:=fun e=>by
 subst e;rw [hn]at hz
 cases D with
 | nil=>simp at hD
 | cons d D=>
  cases xs with
  | nil=>cases hz
  | cons x xs=>cases hz
theorem xI(hD:1<=D.length):tX (ia C row x1 x2 D):=fun r H z zs ys h hz=>by
 obtain⟨dx,n,h1,h2⟩:=h;exact⟨dx,n,by rw [aj (gy h1 hz (fun e=>by cases e))];exact h1,by rw [aj (vN hD h2 hz)];exact h2⟩
theorem xH:tX (fv C row x1 x2):=fun r H z zs ys h hz=>by
 obtain⟨dx,h1⟩:=h;exact⟨dx,by rw [aj (gy h1 hz (fun e=>by cases e))];exact h1⟩
theorem vf:tX (cP C row x1 x2 x3 x4):=fun r H z zs ys h hz=>by
 obtain⟨dx,h1⟩:=h;exact⟨dx,by rw [aj (gy h1 hz (fun e=>by cases e))];exact h1⟩
theorem ve{t:Int}(h:tX RIn):tX (eL C row t u RIn):=fun r H z zs ys hr hz=>by
 obtain⟨dx,ri,h1,h2⟩:=hr;exact⟨dx,ri,by rw [aj (gy h1 hz (fun e=>by cases e))];exact h1,h _ _ _ _ _ h2 hz⟩
theorem EH{f_span C_Span:Addr}{f_held C_Held:Addr}{f_times C_Times:Addr}
  (hd_span:KTD.datumAt ("span":Str) Dt=some (.ref f_span)) (fn_span:jG P w K mg base 7 f_span ["row","numbers","voices"] (ky K C_Span)) (RO_span:∀(row:Str) (x1 x2:Int) (D:List Int) (nv:Nat),(1<=x1/\x1<=nv)->(1<=x2/\x2<=nv)->bS P w K mg base 4 nv C_Span (eQ x1 x2 D) (ia C_Span row x1 x2 D) fun _=>True)
  (hd_held:KTD.datumAt ("held":Str) Dt=some (.ref f_held)) (fn_held:jG P w K mg base 7 f_held ["row","numbers","voices"] (kv K C_Held)) (RO_held:∀(row:Str) (x1 x2:Int) (nv:Nat),(1<=x1/\x1<=nv)->1<=x2->bS P w K mg base 7 nv C_Held (dY x1 x2) (fv C_Held row x1 x2) (pT x2))
  (hd_times:KTD.datumAt ("times":Str) Dt=some (.ref f_times)) (fn_times:jG P w K mg base 7 f_times ["row","numbers","voices"] (i7 K C_Times)) (RO_times:∀(row:Str) (x1 x2 x3 x4:Int) (nv:Nat),(1<=x1/\x1<=nv)->0<=x4->bS P w K mg base 7 nv C_Times (cE x1 x2 x3 x4) (cP C_Times row x1 x2 x3 x4) (jZ x4))
  (nv:Nat) (R:fg) (hg:pO nv R) (hl:vQ R):Ei P w K mg base Dt nv R:=by
 cases R with
 | span o t D=>
  obtain⟨o0,o1,t0,t1⟩:=hg;exact⟨f_span,C_Span,_,fun row=>ia C_Span row (o+1) (t+1) D,hd_span,fn_span,fun row q H' Q' hq k=>⟨q,row,(o+1),(t+1),D,nv,rfl,aL.of hq,by omega,by omega,by omega,by omega,hl.1,hl.2,k⟩,fun row=>(RO_span row (o+1) (t+1) D nv ⟨by omega,by omega⟩ ⟨by omega,by omega⟩).up (by decide),fun _ row=>RO_span row (o+1) (t+1) D nv ⟨by omega,by omega⟩ ⟨by omega,by omega⟩,fun row=>xI (D:=D) hl.1⟩
 | held o most=>
  obtain⟨o0,o1,f0⟩:=hg;exact⟨f_held,C_Held,_,fun row=>fv C_Held row (o+1) most,hd_held,fn_held,fun row q H' Q' hq k=>⟨q,row,(o+1),most,nv,rfl,aL.of hq,by omega,by omega,f0,k⟩,fun row=>RO_held row (o+1) most nv ⟨by omega,by omega⟩ f0,fun z=>z.elim,fun row=>xH⟩
 | times o nt lw hgh=>
  obtain⟨o0,o1,f0⟩:=hg;exact⟨f_times,C_Times,_,fun row=>cP C_Times row (o+1) nt lw hgh,hd_times,fn_times,fun row q H' Q' hq k=>⟨q,row,(o+1),nt,lw,hgh,nv,rfl,aL.of hq,by omega,by omega,hl,f0,k⟩,fun row=>RO_times row (o+1) nt lw hgh nv ⟨by omega,by omega⟩ f0,fun z=>z.elim,fun row=>vf⟩
def cK:aE->Str
 | .plain R=>Txt.join (Str.ofString " ") (cG R::(b0 R).map aO)
 | .every m a R=>Txt.join (Str.ofString " ") (Str.ofString "every"::aO m::aO a::cG R::(b0 R).map aO)
theorem iY(R:fg):(cG R).length<=20/\32∉(cG R).cps.toList/\(cG R).cps.toList≠[]/\(cG R).cps.toList.head?≠some 101:=by
 cases R with
 | span _ _ _=>exact show(Str.ofString "span").length<=20/\32∉(Str.ofString "span").cps.toList/\(Str.ofString "span").cps.toList≠[]/\(Str.ofString "span").cps.toList.head?≠some 101 from⟨by decide +kernel,by decide +kernel,by decide +kernel,by decide +kernel⟩
 | held _ _=>exact show(Str.ofString "held").length<=20/\32∉(Str.ofString "held").cps.toList/\(Str.ofString "held").cps.toList≠[]/\(Str.ofString "held").cps.toList.head?≠some 101 from⟨by decide +kernel,by decide +kernel,by decide +kernel,by decide +kernel⟩
 | times _ _ _ _=>exact show(Str.ofString "times").length<=20/\32∉(Str.ofString "times").cps.toList/\(Str.ofString "times").cps.toList≠[]/\(Str.ofString "times").cps.toList.head?≠some 101 from⟨by decide +kernel,by decide +kernel,by decide +kernel,by decide +kernel⟩
theorem mI(h:EJ R):fw (Txt.join (Str.ofString " ") (cG R::(b0 R).map aO)) (cG R) (b0 R):=zK h.1 (sM h) (iY R).2.1 (iY R).1 (iY R).2.2.1
theorem BW(h:EJ R)(hm:m.natAbs < 10 ^ 40)(ha:a.natAbs < 10 ^ 40):mS (cK (.every m a R)) (Txt.join (Str.ofString " ") (cG R::(b0 R).map aO)) m a:=by
 have e32:(Str.ofString " ")=⟨#[32]⟩:=by decide +kernel
 refine⟨?_,hm,ha,(mI h).len⟩;show(Txt.join (Str.ofString " ") (Str.ofString "every"::aO m::aO a::cG R::(b0 R).map aO)).cps.toList=_;rw [e32,cA,cA];simp only [ad7];rw [kR,kR,kR];rfl
def iO(P:Program)(w:World)(K:Frag)(mg:Str->Option Value)(base:Heap):Sp:=fun vs H Q _=>∃(z:Int) (R:aE) (nv:Nat),vs=[.str (cK R),.int nv,.int z]/\cf nv R/\qK R/\∀(r:Addr) H',fU P w K mg base nv R r H'->ar H H'->Q (.ref r) H'
theorem xn{CE:Addr}(F:aN P w K mg base cc 10 f fd ["text","voices","row"] (zT P w K mg base aM 7))(G:aN P w K mg base cc 10 f fd ["text","voices","row"] (vZ P w K mg base aM CE 7))(tab:kE K aM Dt)(MD:∀(nv:Nat) (R:fg),pO nv R->vQ R->Ei P w K mg base Dt nv R)
  (RO:∀(row:Str) (t u:Int) (nv:Nat) (Cn:Addr) (S:bO) (RIn:pE) (G:Int->Prop),0 < t->bS P w K mg base 4 nv Cn S RIn G->bS P w K mg base 7 nv CE (dX t u S) (eL CE row t u RIn) (nq t)) :
  aN P w K mg base cc 10 f fd ["text","voices","row"] (iO P w K mg base):=by
 refine(AR F G).imp fun vs H Q E h=>?_;obtain⟨z,R,nv,rfl,hg,ho,q⟩:=h
 cases R with
 | plain R=>
  obtain⟨f,C,sp,RI,hd,fn,mk,ro,_,sb⟩:=MD nv R hg ho.2;refine .inl ⟨_,cG R,b0 R,nv,z,Dt,f,sp,fun v H'=>∃r,v=.ref r/\ar H H'/\RI (cK (.plain R)) r H',rfl,mI ho,(iY R).2.2.2,tab,hd,fn,fun q H' Q' s hq k=>mk _ q H' Q' hq fun r H'' s' hr=>k _ _ ⟨r,rfl,s.trans s',hr⟩,?_⟩;rintro v H' ⟨r,rfl,s,hr⟩;exact⟨fun z=>(by cases z),q r H' ⟨C,RI (cK (.plain R)),ro _,sb _,hr⟩ s⟩
 | every m a R=>
  obtain⟨hg,hin,m1,a0,a1⟩:=hg;obtain⟨ho,hm,ha⟩:=ho;obtain⟨f,C,sp,RI,hd,fn,mk,_,ro,sb⟩:=MD nv R hg ho.2
  have hk:cG R=Str.ofString "span"\/cG R=Str.ofString "clock":=by
   cases R with
   | span o t D=>exact .inl rfl
   | _=>exact hin.elim
  have re:=BW ho hm ha;have r4:=ro hin (Txt.join (Str.ofString " ") (cG R::(b0 R).map aO));refine .inr ⟨_,nv,z,rfl,⟨_,_,_,re⟩,_,_,cG R,m,a,b0 R,nv,Dt,f,sp,RI (Txt.join (Str.ofString " ") (cG R::(b0 R).map aO)),rfl,re,mI ho,hk,a0,a1,tab,hd,fn,fun q H' Q' s hq k=>mk _ q H' Q' hq fun r H'' s' hr=>k _ _ (s.trans s') hr,r4.mono,fun r H' s hr=>⟨fun z=>(by cases z),q r H' ⟨CE,_,RO _ m a nv C _ _ _ (by omega) r4,ve (sb _),hr⟩ s⟩⟩
theorem lY{c:Nat}(hc:c < 256)(h:ws≠[])(hn:∀z∈ws,c∉z.cps.toList):Txt.split (Txt.join ⟨#[c]⟩ ws) ⟨#[c]⟩=ws:=by
 refine eM ?_;rw [iR _ hc,cA,oq c _ (by simpa using h) (fun p hp=>?_)];obtain⟨z,hz,rfl⟩:=ac0.mp hp;exact hn z hz
def rG(K:Frag):Sp:=fun vs H Q _=>∃row:Str,vs=[.str row]/\row.length<=10000/\((∃lo hi:Int,fw row (Str.ofString "voice") [lo,hi]/\lo<=hi/\∀p H',H' p=some (.tup [.int lo,.int hi])->ar H H'->Q (.ref p) H')\/∃w0 ws,Txt.split row ⟨#[32]⟩=w0::ws/\w0≠Str.ofString "voice"/\∀H',ar H H'->Q .non H')
def mM(P:Program)(w:World)(K:Frag)(mg:Str->Option Value)(base:Heap)(C:Addr):Sp:=fun vs H Q _=>∃(text:Str) (bs:List (Int×Int)) (vr:Int×Int->Str) (Rs:List aE),vs=[.str text]/\text.length<=1000000/\Txt.split text ⟨#[10]⟩=bs.map vr++Rs.map cK/\1<=bs.length/\bs.length<=4/\Rs.length<=12/\
 (∀b∈bs,fw (vr b) (Str.ofString "voice") [b.1,b.2]/\b.1<=b.2/\(fR b).natAbs < 2 ^ 60)/\(∀R∈Rs,cf bs.length R/\qK R/\(bV R).natAbs < 2 ^ 60)/\dB bs Rs<=400/\∀x H',dw P w K mg base C bs.length bs Rs x H'->ar H H'->Q (.ref x) H'
theorem fk(R:aE)(h:qK R):(cK R).length<=10000/\∃w0 ws,Txt.split (cK R) ⟨#[32]⟩=w0::ws/\w0≠Str.ofString "voice":=by
 cases R with
 | plain R=>
  have hr:=mI h;refine⟨hr.len,cG R,(b0 R).map aO,hr.split,?_⟩
  cases R with
  | span _ _ _=>exact show Str.ofString "span"≠Str.ofString "voice" by decide +kernel
  | held _ _=>exact show Str.ofString "held"≠Str.ofString "voice" by decide +kernel
  | times _ _ _ _=>exact show Str.ofString "times"≠Str.ofString "voice" by decide +kernel
 | every m a R=>
  obtain⟨h,hm,ha⟩:=h
  have e32:(Str.ofString " ")=⟨#[32]⟩:=by decide +kernel
  have nn:∀n:Int,32∉(aO n).cps.toList:=fun n=>mC n
  have hw:∀z∈(Str.ofString "every"::aO m::aO a::cG R::(b0 R).map aO),32∉z.cps.toList:=fun z hz=>by
   rcases aa8.mp hz with rfl | hz
   ·decide +kernel
   rcases aa8.mp hz with rfl | hz
   ·exact nn m
   rcases aa8.mp hz with rfl | hz
   ·exact nn a
   rcases aa8.mp hz with rfl | hz
   ·exact(iY R).2.1
   ·obtain⟨n,_,rfl⟩:=ac0.mp hz
    exact nn n
  refine⟨?_,Str.ofString "every",aO m::aO a::cG R::(b0 R).map aO,?_,by decide +kernel⟩
  ·show(Txt.join (Str.ofString " ") (Str.ofString "every"::aO m::aO a::cG R::(b0 R).map aO)).length<=10000
   rw [aZ,e32,cA]
   have hl:=iX 32 ((Str.ofString "every"::aO m::aO a::cG R::(b0 R).map aO).map fun z=>z.cps.toList) 60 (fun p hp=>by
    obtain⟨z,hz,rfl⟩:=ac0.mp hp;rw [<-aZ];rcases aa8.mp hz with rfl | hz
    ·decide +kernel
    rcases aa8.mp hz with rfl | hz
    ·have:=bI hm;omega
    rcases aa8.mp hz with rfl | hz
    ·have:=bI ha;omega
    rcases aa8.mp hz with rfl | hz
    ·have:=(iY R).1;omega
    ·obtain⟨n,hn,rfl⟩:=ac0.mp hz
     have:=bI (h.1 n hn);omega)
   have:=sM h
   simp only [aa0,ad1]at hl;omega
  ·show Txt.split (Txt.join (Str.ofString " ") (Str.ofString "every"::aO m::aO a::cG R::(b0 R).map aO)) ⟨#[32]⟩=_
   rw [e32];exact lY (by decide) (by simp) hw
theorem nI(F:cM K "voice_range" "voice_range" gg f fd)(T:Txt mg aM)(D_is_number:bR P w K mg base "is_number" 1 ["word"] p6):aN P w K mg base cc 2 f fd ["row"] (rG K):=by
 refine F.ok sc_voice_range (fun _ _ _ _ h=>?_) (fun _ A _ s H vs Q E hr h=>?_)
 ·obtain⟨row,rfl,_⟩:=h
  rfl
 obtain⟨row,rfl,hl,h⟩:=h
 refine⟨_,(ae (bM (i:=1) sc_voice_range.nd (bJ K PySem.F.plainAttrs_str PySem.F.slot_str_split PySem.F.type_str_split j5 (pr 0) (aa bD ah)))
 (ae (aW (PW.pt (dq (bh (av Av (az (aC K) (by rfl) T.n_len boot_len (aa (pr 1) ah)) af (aB _))) (dq (bh (av Av (ax (aG K) (pr 1) af (fun _ _=>rfl)) bD (aB _))) (cW (cI (bu (az (gr K rfl) (by rfl) T.n_all boot_all (aa (c8 (own:=["word"]) (js:=[]) rfl (bE K (cy (ko K) (pr 1) (ka af) cT)) (bw.of (by rfl)) (fun _ _ _ _ _=>(bL (i:=0) (show List.Nodup (["word"]:List Str)from by decide +kernel) rfl (Or.inl rfl))) (fun _ _ _ _ _=>cJ) (fun _ _ _ _ _=>(aD D_is_number hr (by rfl) (aa (pr 0) ah)))) ah)) (fun _=>rfl))))))) (ai (aw aV)) aF)
 (ae (bM (i:=2) sc_voice_range.nd (dj (aa (bo (fm) (by rfl) T.n_int boot_int (aa (ax (aG K) (pr 1) af (fun _ _=>rfl)) ah)) (aa (bo (fm) (by rfl) T.n_int boot_int (aa (ax (aG K) (pr 1) af (fun _ _=>rfl)) ah)) ah))))
 (ai (aw (dQ (bh (av (o0 gz) (ax (aG K) (pr 2) af (fun _ _=>rfl)) (ax (aG K) (pr 2) af (fun _ _=>rfl)) (aB _))) (pr 2) aV)))))),?_⟩
 have hs:sizeLine=16777216:=sizeLine_eq;refine aH (fun Z H'=>∃p:Addr,H' p=some (.lst ((Txt.split row ⟨#[32]⟩).map V.str))/\Z=[some (.str row),some (.ref p),none]/\ar H H') ?_ ?_
 ·intro u' hu
  walk_at "r";exact⟨32,by decide +kernel,by decide,by omega,fun p hp=>hu _ _ ⟨p,ag,rfl,ak hp⟩⟩
 rintro Ω ω _ H1 ⟨p,hp1,rfl,s1⟩;refine ω _ _ ?_;rcases h with⟨lo,hi,RI,hle,q⟩ | ⟨w0,ws,hsp,hw0,q⟩
 ·rw [RI.split]at hp1
  have b1:=RI.nb lo (by simp);have b2:=RI.nb hi (by simp);have nlen:∀n:Int,n.natAbs < 10 ^ 40->(aO n).length<=41:=fun n h=>bI h;refine aH (fun Z H'=>Z=[some (.str row),some (.ref p),none]/\ar H1 H') ?_ ?_
  ·intro u' hu
   walk_at "r";refine⟨_,.inl (aL.of hp1),?_⟩;rw [if_pos (by simp)];refine bG (aL.of hp1) (aP rfl) ?_;walk_at "r";refine eE (aL.of hp1) fun q2 hq2=>?_;rw [show(some (1:Int))=some ((1:Nat):Int)from rfl,ft];show BN _ _ _ _;have s2:ar H1 (upd H1 q2 (.lst (([lo,hi].map aO).map V.str))):=ak hq2;refine bN (xs:=([lo,hi].map aO).map V.str) (aL.of ag) (cz (xs:=([lo,hi].map aO).map V.str) (fun i ys H'=>ys=(List.replicate i true).map V.bl/\ar (upd H1 q2 (.lst (([lo,hi].map aO).map V.str))) H') (by simp;omega) ⟨rfl,ar.refl _⟩ ?_ ?_ ?_ ?_)
   ·rintro i ys H' ⟨rfl,sm⟩
    simp
   ·rintro i ys H' ⟨rfl,sm⟩
    exact sm.seq (aL.of ag)
   ·rintro i x ys H' hx ⟨rfl,sm⟩
    obtain⟨n,hn,rfl⟩:∃n∈[lo,hi],x=.str (aO n):=by
     have:=ac5 hx
     simp only [ai0,ac0,Function.comp_apply]at this;obtain⟨n,hn,e⟩:=this;exact⟨n,hn,e.symm⟩
    walk_at "r";refine⟨aO n,rfl,?_,fun H1 s1=>⟨?_,sm.trans s1⟩⟩
    ·have:=nlen n (RI.nb n hn)
     omega
    ·show _=(List.replicate (i+1) true).map V.bl
     rw [show(aO n).cps.toList=gH n from rfl,kP (RI.nb n hn),List.replicate_succ',ab4];rfl
   rintro ys H2 ⟨rfl,sm⟩ p1 hp1';refine⟨_,aL.of ag,?_⟩;rw [show(List.replicate (([lo,hi].map aO).map V.str).length true).all id=true by simp];walk_at "r";exact hu _ _ ⟨rfl,(s2.trans sm).upd hp1'⟩
  rintro Ω ω _ H2 ⟨rfl,s12⟩;have hp2:=s12 _ _ hp1;refine ω _ _ (aH (fun Z H'=>∃t:Addr,H' t=some (.tup [.int lo,.int hi])/\Z=[some (.str row),some (.ref p),some (.ref t)]/\ar H2 H') ?_ ?_)
  ·intro u' hu
   walk_at "r";refine bG (aL.of hp2) (show dC _ ((1:Nat):Int)=_ from aA rfl) ?_;walk_at "r";refine⟨lo,mw (ab0 b1 (ah3 (by decide) (by decide))),by have:=nlen lo b1;omega,bG (aL.of hp2) (show dC _ ((2:Nat):Int)=_ from aA rfl) ?_⟩;walk_at "r";exact⟨hi,mw (ab0 b2 (ah3 (by decide) (by decide))),by have:=nlen hi b2;omega,by omega,fun t ht=>hu _ _ ⟨t,ag,rfl,ak ht⟩⟩
  rintro Ω ω _ H3 ⟨t,ht,rfl,s23⟩;refine ω _ _ ?_;walk_at "r";refine aR (bH.of ht) (aP rfl) (aR (bH.of ht) (show dC _ ((1:Nat):Int)=_ from aA rfl) ?_);walk_at "r";rw [if_pos hle];exact q t _ ht ((s1.trans s12).trans s23)
 ·rw [hsp]at hp1
  walk_at "r";refine⟨_,.inl (aL.of hp1),?_⟩
  by_cases h3:(((w0::ws).map V.str).length:Int)=3
  ·rw [if_pos h3]
   refine bG (aL.of hp1) (aP rfl) ?_;walk_at "r";rw [if_neg hw0];exact q _ s1
  ·rw [if_neg h3]
   exact q _ s1
theorem F2{g:TG}{x:V}{Z:L2.St}{tb:TS}{D:jF}(h:∀B:L2.St->Hp->Prop,(∀Z H,tb D Z H->B Z H)->g x Z H B):g x Z H fun Zf H2=>tb D Zf H2:=h _ fun _ _ z=>z
theorem Bl(F:cM K "read" "read" uR f fd)(T:Txt mg aM)(TC:dm K C)(D_voice_range:bR P w K mg base "voice_range" 10 ["row"] (rG K))(D_read_rule:bR P w K mg base "read_rule" 10 ["text","voices","row"] (iO P w K mg base))(DM_Score:h8 P w K mg base "Score" C 9 ["self","ranges","rules"] (iP K C))(D_not_too_wide:bR P w K mg base "not_too_wide" 10 ["score"] (jz P w K mg base C)):aN P w K mg base cc 11 f fd ["text"] (mM P w K mg base C):=by
 refine F.ok sc_read (fun _ _ _ _ h=>?_) (fun _ A _ s H vs Q E hr h=>?_)
 ·obtain⟨text,bs,vr,Rs,rfl,_⟩:=h
  rfl
 obtain⟨text,bs,vr,Rs,rfl,htl,hsp,nv1,nv4,rl,hb,hR,hwt,q⟩:=h
 refine⟨_,(ae (bM (i:=1) sc_read.nd (bQ ah))
 (ae (bM (i:=2) sc_read.nd (bQ ah))
 (ae (bK PassesOwn.never rfl (gA rfl T.n_enumerate (aa (bJ K PySem.F.plainAttrs_str PySem.F.slot_str_split PySem.F.type_str_split j5 (pr 0) (aa bD ah)) ah)) (cR K (n:=2) rfl (ba (gD (i:=3) sc_read.nd) (ba (gD (i:=4) sc_read.nd) cS)))
 (ae (bM (i:=5) sc_read.nd (aD D_voice_range hr (by rfl) (aa (pr 4) ah)))
 (ai (aW (PW.pt (fY (bh (av mE (pr 5) aV (aB _))) (fY (bh (av (o0 mh) (az (aC K) (by rfl) T.n_len boot_len (aa (pr 1) ah)) (nO T.g_MOST_VOICES) (aB _))) (fj (bh (av kX (az (aC K) (by rfl) T.n_len boot_len (aa (pr 2) ah)) af (aB _))))))) (ai (bF (bJ K PySem.F.plainAttrs_list PySem.F.slot_list_append PySem.F.type_list_append bT (pr 1) (aa (pr 5) ah)))) (ai (aW (PW.pt (dq (bh (av kX (az (aC K) (by rfl) T.n_len boot_len (aa (pr 1) ah)) af (aB _))) (cW (bh (av kX (az (aC K) (by rfl) T.n_len boot_len (aa (pr 2) ah)) (nO T.g_MOST_RULES) (aB _)))))) (ai ke) (ai (bF (bJ K PySem.F.plainAttrs_list PySem.F.slot_list_append PySem.F.type_list_append bT (pr 2) (aa (aD D_read_rule hr (by rfl) (aa (pr 4) (aa (az (aC K) (by rfl) T.n_len boot_len (aa (pr 1) ah)) (aa (pr 3) ah)))) ah))))))))))
 (ai (aw (aD D_not_too_wide hr (by rfl) (aa (pX DM_Score hr (by rfl) (aa (pr 1) (aa (pr 2) ah))) ah))))))),?_⟩
 have hs:sizeLine=16777216:=sizeLine_eq;refine aH (fun Z H'=>∃ra:Addr,H ra=none/\H' ra=some (.lst (([]:List Addr).map V.ref))/\Z=[some (.str text),some (.ref ra),none,none,none,none]/\ar H H') ?_ ?_
 ·intro u' hu
  walk_at "r";exact⟨by omega,fun p hp=>hu _ _ ⟨p,hp,ag,rfl,ak hp⟩⟩
 rintro Ω ω _ H1 ⟨ra,hra,hra1,rfl,s1⟩;refine ω _ _ (aH (fun Z H'=>∃ru:Addr,H ru=none/\ru≠ra/\H' ru=some (.lst (([]:List Addr).map V.ref))/\H' ra=some (.lst (([]:List Addr).map V.ref))/\Z=[some (.str text),some (.ref ra),some (.ref ru),none,none,none]/\ar H H') ?_ ?_)
 ·intro u' hu
  walk_at "r";exact⟨by omega,fun p hp=>hu _ _ ⟨p,s1.free hp,(au hra1 hp).symm,ag,(ak hp) _ _ hra1,rfl,s1.upd hp⟩⟩
 clear hra1 s1;rintro Ω ω _ H2 ⟨ru,hru,rra,hru2,hra2,rfl,s2⟩;refine ω _ _ (aH (fun Z H'=>∃(ts rs:List Addr) (o3 o4 o5:Option V),Z=[some (.str text),some (.ref ra),some (.ref ru),o3,o4,o5]/\ts.length=bs.length/\rs.length=Rs.length/\H' ra=some (.lst (ts.map V.ref))/\H' ru=some (.lst (rs.map V.ref))/\(∀(j:Nat) (t:Addr) (b:Int×Int),ts[j]?=some t->bs[j]?=some b->H' t=some (.tup [.int b.1,.int b.2]))/\(∀(j:Nat) (r:Addr) (R:aE),rs[j]?=some r->Rs[j]?=some R->fU P w K mg base bs.length R r H')/\ar H H') ?_ ?_)
 ·intro u' hu
  walk_at "r";refine⟨10,by decide +kernel,by decide,by omega,fun sp hsp0=>?_⟩;rw [hsp];have s3:ar H2 (upd H2 sp (.lst ((bs.map vr++Rs.map cK).map V.str))):=ak hsp0;have nsa:sp≠ra:=(au hra2 hsp0).symm;have nsu:sp≠ru:=(au hru2 hsp0).symm;obtain⟨Pv,hPv⟩:∃Pv:Nat->L2.St->Hp->Prop,Pv=fun i Z H'=>∃(ts rs:List Addr) (o3 o4 o5:Option V),Z=[some (.str text),some (.ref ra),some (.ref ru),o3,o4,o5]/\ts.length=min i bs.length/\rs.length=i - bs.length/\H' ra=some (.lst (ts.map V.ref))/\H' ru=some (.lst (rs.map V.ref))/\H' sp=some (.lst ((bs.map vr++Rs.map cK).map V.str))/\(∀(j:Nat) (t:Addr) (b:Int×Int),ts[j]?=some t->bs[j]?=some b->H' t=some (.tup [.int b.1,.int b.2]))/\(∀(j:Nat) (r:Addr) (R:aE),rs[j]?=some r->Rs[j]?=some R->fU P w K mg base bs.length R r H')/\ar H H':=⟨_,rfl⟩
  refine⟨true,⟨_,aL.of ag⟩,gG (l:=true) (us:=(bs.map vr++Rs.map cK).map V.str) Pv
   (by rw [hPv];exact⟨[],[],none,none,none,rfl,by simp,by simp,s3 _ _ hra2,s3 _ _ hru2,ag,fun j t b e=>(by cases e),fun j r R e=>(by cases e),s2.trans s3⟩) (fun i Z H' _ h=>by rw [hPv]at h;obtain⟨_,_,_,_,_,_,_,_,_,_,h,_⟩:=h;exact aL.of h) ?_ ?_⟩
  ·rintro i y Z H4 p hx hI hp0
   have hI':=hI;rw [hPv]at hI';clear hI;obtain⟨ts,rs,o3,o4,o5,rfl,tl,rsl,ha4,hu4,hs4,ht4,hr4,s4⟩:=hI'
   have hi:i < bs.length+Rs.length:=by have:=(aa3.mp hx).1;simpa using this
   rw [aa5]at hx;have sp5:ar H4 (upd H4 p (.tup [.int i,y])):=ak hp0;have hp5:(upd H4 p (.tup [.int i,y])) p=some (.tup [.int i,y]):=ag;refine F2 fun B hB=>?_
   by_cases hv:i < bs.length
   ·-- a voice's row
    have eb:bs[i]?=some bs[i]:=aa1 hv;obtain⟨hrow,hle,_⟩:=hb _ (ad6 hv);rw [an5 (ah8 hv)]at tl;rw [Nat.sub_eq_zero_of_le (ah8 hv)]at rsl;rw [ab5 (by simpa using hv),aa5,eb]at hx;cases hx;walk_at "r";refine⟨_,bH.of hp5,rfl,?_⟩;walk_at "r";refine hB _ _ (FY fun kk hkk=>?_);walk_at "r";generalize upd H4 p (.tup [.int i,.str (vr bs[i])])=H5 at sp5 hp5;refine⟨vr bs[i],rfl,hrow.len,.inl ⟨_,_,hrow,hle,fun t H6 ht6 s56=>?_⟩⟩;have s46:=sp5.trans s56;refine hkk _ _ ?_;walk_at "r";refine⟨_,.inl (aL.of (s46 _ _ ha4)),?_⟩;rw [if_pos (by rw [aa0];omega)];refine⟨_,.inl (aL.of (s46 _ _ hu4)),?_⟩;rw [if_pos (by rw [aa0];omega)];have ha6:=s46 _ _ ha4;refine⟨.inl ⟨rfl,_,aL.of ha6⟩,ra,_,_,rfl,rfl,ha6,by rw [aa0];omega,?_⟩;have rs0:rs=[]:=ag0.mp (by omega);subst rs0;rw [hPv];refine⟨ts++[t],[],_,_,_,rfl,by simp;omega,by simp;omega,by rw [ag,ab4];rfl,by rw [aj rra];exact s46 _ _ hu4,by rw [aj nsa];exact s46 _ _ hs4,fun j t' b' e1 e2=>?_,fun j r R e=>(by cases e),fun c u hc=>?_⟩
    ·by_cases hj:j < ts.length
     ·rw [ab5 hj]at e1
      have:=s46 _ _ (ht4 j t' b' e1 e2)
      rw [aj (gy this ha6 (fun e=>by cases e))];exact this
     ·rw [ac4 (by omega)]at e1
      have ej:j=ts.length:=by
       have:=(aa3.mp e1).1
       simp at this;omega
      rw [ej,ai3]at e1;cases e1;rw [show j=i by omega,eb]at e2;cases e2;rw [aj (gy ht6 ha6 (fun e=>by cases e))];exact ht6
    ·rw [aj (au hc hra)]
     exact(s4.trans s46) _ _ hc
   ·-- a rule's row
    have hk:i - bs.length < Rs.length:=by omega
    rw [Nat.min_eq_right (ai7.mp hv)]at tl;have eR:Rs[i - bs.length]?=some (Rs[i - bs.length]'hk):=aa1 hk;obtain⟨hgd,hok,_⟩:=hR _ (ad6 hk);obtain⟨hlen,w0,ws,hsw,hw0⟩:=fk _ hok;rw [ac4 (by simpa using hv),aa0,aa5,eR]at hx;cases hx;walk_at "r";refine⟨_,bH.of hp5,rfl,?_⟩;walk_at "r";refine hB _ _ (FY fun kk hkk=>?_);walk_at "r";generalize upd H4 p (.tup [.int i,.str (cK (Rs[i - bs.length]'hk))])=H5 at sp5 hp5;refine⟨_,rfl,hlen,.inr ⟨w0,ws,hsw,hw0,fun H6 s56=>?_⟩⟩;have s46:=sp5.trans s56;refine hkk _ _ ?_;walk_at "r";refine⟨_,.inl (aL.of (s46 _ _ ha4)),?_⟩;rw [if_neg (by rw [aa0];omega)];refine⟨_,.inl (aL.of (s46 _ _ hu4)),?_⟩;rw [if_neg (by rw [aa0];omega)];refine⟨.inl ⟨rfl,_,aL.of (s46 _ _ hu4)⟩,_,.inl (aL.of (s46 _ _ ha4)),?_⟩;rw [aa0,show ts.length=bs.length by omega];refine⟨i,_,bs.length,rfl,hgd,hok,fun r H7 hr7 s67=>?_⟩;have s47:=s46.trans s67;have hu7:=s47 _ _ hu4;refine⟨ru,_,_,rfl,rfl,hu7,by rw [aa0];omega,?_⟩;rw [hPv];refine⟨ts,rs++[r],_,_,_,rfl,by omega,by simp;omega,by rw [aj rra.symm];exact s47 _ _ ha4,by rw [ag,ab4];rfl,by rw [aj nsu];exact s47 _ _ hs4,fun j t' b' e1 e2=>?_,fun j r' R' e1 e2=>?_,fun c u hc=>?_⟩
    ·have:=s47 _ _ (ht4 j t' b' e1 e2)
     rw [aj (gy this hu7 (fun e=>by cases e))];exact this
    ·by_cases hj:j < rs.length
     ·rw [ab5 hj]at e1
      exact((hr4 j r' R' e1 e2).same s47).stab hu7
     ·rw [ac4 (by omega)]at e1
      have ej:j=rs.length:=by
       have:=(aa3.mp e1).1
       simp at this;omega
      rw [ej,ai3]at e1;cases e1;rw [show j=i - bs.length by omega,eR]at e2;cases e2;exact hr7.stab hu7
    ·rw [aj (au hc hru)]
     exact(s4.trans s47) _ _ hc
  ·intro Z H4 hI
   rw [hPv]at hI;obtain⟨ts,rs,o3,o4,o5,rfl,tl,rsl,ha4,hu4,hs4,ht4,hr4,s4⟩:=hI;rw [aa0,ab2,aa0,aa0]at tl rsl;exact hu _ _ ⟨ts,rs,o3,o4,o5,rfl,by omega,by omega,ha4,hu4,ht4,hr4,s4⟩
 clear hra2 hru2 s2;clear H2;rintro Ω ω _ H2 ⟨ts,rs,o3,o4,o5,rfl,tl,rsl,ha2,ee,ht2,hr2,s2⟩;refine ω _ _ ?_;walk_at "r";intro x dx hx hdx dxx;have s3:ar H2 (upd (upd H2 dx (.own x)) x (.ins C dx [])):=(ak hdx).upd (by rw [aj dxx.symm];exact hx);refine⟨x,dx,ra,ru,ts.map V.ref,rs.map V.ref,rfl,ag,s3.seq (aL.of ha2),s3.seq (aL.of ee),fun p q' H' hp hq hqp e=>⟨rfl,?_⟩⟩
 have px:p≠x:=fun e=>by subst e;rw [ag]at hp;cases hp
 have qx:q'≠x:=fun e=>by subst e;rw [ag]at hq;cases hq
 have s4:ar H2 H':=fun c u hc=>by
  have h3:=s3 _ _ hc;have cx:c≠x:=au hc hx;rw [e,aj cx,aj (au h3 hq),aj (au h3 hp)];exact h3
 have SA:dw P w K mg base C bs.length bs Rs x H':=⟨dx,p,q',by rw [e,ag],⟨ts,aL.of (by rw [e,aj px,aj hqp.symm,ag]),tl,fun i t b e1 e2=>bH.of (s4 _ _ (ht2 i t b e1 e2))⟩,⟨rs,aL.of (by rw [e,aj qx,ag]),rsl,fun j r R e1 e2=>(hr2 j r R e1 e2).same s4⟩⟩;exact⟨x,bs.length,bs,Rs,rfl,SA,by omega,by omega,fun b hb'=>(hb b hb').2.2,fun R hR'=>(hR R hR').2.2,hwt,q x H' SA (s2.trans s4)⟩
def qX(bs:List (Int×Int))(cols:List (List Int))(v i:Nat):Bool:=let n:=aY (cols.getD i []) ((v:Int)+1);let b:=bs.getD v (0,0);!(decide (b.1<=n) && decide (n<=b.2))
def jl(bs:List (Int×Int))(cols:List (List Int))(v:Nat):Option Nat:=aT (qX bs cols v) 0 cols.length
def fX(cols:List (List Int))(R:aE):Option Nat:=ja (aU R) (aU R).start none 0 cols
def lW:Option Nat->V
 | none=>.non
 | some n=>.int n
theorem Bf(o:Option Nat):lW o=xh (o.map fun(n:Nat)=>(n:Int)):=by cases o<;>rfl
def places(bs:List (Int×Int))(Rs:List aE)(cols:List (List Int)):List (Option Nat):=(List.range bs.length).map (jl bs cols)++Rs.map (fX cols)
def aX:Nat->List (Option Nat)->List (Int×Int)
 | _,[]=>[]
 | i,none::l=>aX (i+1) l
 | i,some p::l=>((p:Int),(i:Int))::aX (i+1) l
def lL(K:Frag):Sp:=fun vs H Q _=>∃(l:Addr) (lo hi:Int) (v nv:Nat) (cols:List (List Int)),vs=[.int lo,.int hi,.int v,.ref l]/\eW K H l nv cols/\v < nv/\∀H',ar H H'->Q (lW (aT (fun i=>!(decide (lo<=aY (cols.getD i []) ((v:Int)+1)) && decide (aY (cols.getD i []) ((v:Int)+1)<=hi))) 0 cols.length)) H'
def mK(P:Program)(w:World)(K:Frag)(mg:Str->Option Value)(base:Heap):Sp:=fun vs H Q _=>∃(x C l:Addr) (bs:List (Int×Int)) (Rs:List aE) (cols:List (List Int)),vs=[.ref x,.ref l]/\dm K C/\dw P w K mg base C bs.length bs Rs x H/\eW K H l bs.length cols/\cols.length<=1000/\bs.length<=4/\Rs.length<=12/\
 (aX 0 (places bs Rs cols)=[]->∀H',ar H H'->Q .non H')/\∀(t:Addr) (k:Int×Int) H',k∈aX 0 (places bs Rs cols)->(∀k'∈aX 0 (places bs Rs cols),w8 k' k=false)->H' t=some (.tup [.int k.1,.int k.2])->ar H H'->Q (.ref t) H'
theorem kY(F:cM K "first_outside" "first_outside" fe f fd)(T:Txt mg aM):aN P w K mg base cc 1 f fd ["low","high","voice","line"] (lL K):=by
 refine F.ok sc_first_outside (fun _ _ _ _ h=>?_) (fun _ A _ s H vs Q E hr h=>?_)
 ·obtain⟨l,lo,hi,v,nv,cols,rfl,_⟩:=h
  rfl
 obtain⟨l,lo,hi,v,nv,cols,rfl,⟨ps,hps,hpl,hpc⟩,hv,q⟩:=h
 refine⟨_,(ae (bK PassesOwn.never rfl (gA rfl T.n_enumerate (aa (pr 3) ah)) (cR K (n:=2) rfl (ba (gD (i:=4) sc_first_outside.nd) (ba (gD (i:=5) sc_first_outside.nd) cS)))
 (ai (aW (cI (bh (iy (o0 gz) (o0 gz) (pr 0) (ax (aG K) (pr 5) (pr 2) (fun _ _=>rfl)) (pr 1)))) (ai (aw (pr 4))) aF)))
 (ai (aw aV))),?_⟩
 have hs:sizeLine=16777216:=sizeLine_eq;walk_at "r";generalize hB:(fun i=>!(decide (lo<=aY (cols.getD i []) ((v:Int)+1)) && decide (aY (cols.getD i []) ((v:Int)+1)<=hi)))=B at q;refine⟨true,⟨_,hps⟩,gG (l:=true) (us:=ps.map V.ref) (fun i Z H'=>∃(o o':Option V),Z=[some (.int lo),some (.int hi),some (.int v),some (.ref l),o,o']/\ar H H'/\aT B 0 cols.length=aT B i (cols.length - i)) ⟨none,none,rfl,ar.refl _,rfl⟩ (fun i Z H' _ h=>by obtain⟨_,_,_,sm,_⟩:=h;exact sm.seq hps) ?_ ?_⟩
 ·rintro i y Z H1 p hx ⟨o,o',rfl,sm,e⟩ hp0
  obtain⟨c,hc0,rfl⟩:∃c,ps[i]?=some c/\y=.ref c:=by
   rw [aa5]at hx
   cases hc:ps[i]? with
   | none=>rw [hc]at hx;cases hx
   | some c=>rw [hc]at hx;exact⟨c,rfl,(Option.some.inj hx).symm⟩
  have hi':i < cols.length:=by have:=(aa3.mp hc0).1;omega
  have hu:cols[i]?=some cols[i]:=aa1 hi';obtain⟨hct,hcl'⟩:=hpc i c _ hc0 hu;have s2:ar H (upd H1 p (.tup [.int i,.ref c])):=sm.upd hp0
  have hgd:cols.getD i []=cols[i]:=by rw [ab8,hu];rfl
  have eB:B i=!(decide (lo<=aY cols[i] ((v:Int)+1)) && decide (aY cols[i] ((v:Int)+1)<=hi)):=by rw [<-hB];show(!(decide (lo<=aY (cols.getD i []) ((v:Int)+1)) && decide (aY (cols.getD i []) ((v:Int)+1)<=hi)))=_;rw [hgd]
  rw [show cols.length - i=cols.length - (i+1)+1 by omega,aT]at e;walk_at "r";refine⟨_,bH.of ag,rfl,?_⟩;walk_at "r";generalize upd H1 p (.tup [.int i,.ref c])=H2 at s2;refine aR (s2.tup hct) (sL (by omega) (by omega)) ?_;walk_at "r"
  by_cases h1:lo<=aY cols[i] ((v:Int)+1)
  ·rw [if_pos h1]
   by_cases h2:aY cols[i] ((v:Int)+1)<=hi
   ·rw [if_pos h2]
    rw [decide_eq_true h1,decide_eq_true h2]at eB;rw [if_neg (by rw [eB];exact aa6)]at e;exact⟨s2,e⟩
   ·rw [if_neg h2]
    rw [decide_eq_true h1,decide_eq_false h2]at eB;rw [if_pos (by rw [eB];rfl)]at e;have q':=q _ s2;rw [e]at q';exact q'
  ·rw [if_neg h1]
   rw [decide_eq_false h1]at eB;rw [if_pos (by rw [eB];rfl)]at e;have q':=q _ s2;rw [e]at q';exact q'
 ·rintro Z H1 ⟨o,o',rfl,sm,e⟩
  walk_at "r";rw [aa0,hpl,ai3,aT]at e;have q':=q _ sm;rw [e]at q';exact q'
theorem gJ:∀(l:List (Option Nat)) (n:Nat) (x:Option Nat),aX n (l++[x])=aX n l++(match x with | none=>[] | some p=>[((p:Int),((n+l.length:Nat):Int))])
 | [],n,none=>rfl
 | [],n,some p=>by simp [aX]
 | none::l,n,x=>by
  rw [ai6,aX,aX,gJ l (n+1) x,ad1,show n+1+l.length=n+(l.length+1)by omega]
 | some q::l,n,x=>by
  rw [ai6,aX,aX,gJ l (n+1) x,ad1,show n+1+l.length=n+(l.length+1)by omega,ai6]
theorem zb(F:cM K "fault" "fault" rj f fd)(T:Txt mg aM)(D_first_outside:bR P w K mg base "first_outside" 8 ["low","high","voice","line"] (lL K))(D_broken_at:bR P w K mg base "broken_at" 8 ["rule","line"] (n9 P w K mg base 7)):aN P w K mg base cc 9 f fd ["score","line"] (mK P w K mg base):=by
 refine F.ok sc_fault (fun _ _ _ _ h=>?_) (fun _ A _ s H vs Q E hr h=>?_)
 ·obtain⟨x,C,l,bs,Rs,cols,rfl,_⟩:=h
  rfl
 obtain⟨x,C,l,bs,Rs,cols,rfl,TC,⟨dx,a,b,hx,⟨ts,hts,htl,htc⟩,⟨rs,hrs,hrl,hrc⟩⟩,LL,hcl,nv4,rl,q0,qn⟩:=h
 refine⟨_,(ae (nQ (i:=2) sc_fault.nd rfl (Or.inl rfl) (own:=["voice","bounds"]) (js:=[1]) rfl (gA rfl T.n_enumerate (aa (bq (pr 0) rfl) ah)) (bw.of (by rfl)) (fun _ _ _ _ _=>(cR K (n:=2) rfl (ba (bL (i:=0) (show List.Nodup (["voice","bounds","line"]:List Str)from by decide +kernel) rfl (Or.inl rfl)) (ba (bL (i:=1) (show List.Nodup (["voice","bounds","line"]:List Str)from by decide +kernel) rfl (Or.inl rfl)) cS)))) (fun _ _ _ _ _=>cJ) (fun _ _ _ _ _=>(aD D_first_outside hr (by rfl) (aa (ax (aG K) (pr 1) af (fun _ _=>rfl)) (aa (ax (aG K) (pr 1) af (fun _ _=>rfl)) (aa (pr 0) (aa (pr 2) ah)))))) rfl)
 (ae (bF (bJ K PySem.F.plainAttrs_list PySem.F.slot_list_extend PySem.F.type_list_extend pU (pr 2) (aa (c8 (own:=["rule"]) (js:=[1]) rfl (bE K (bq (pr 0) rfl)) (bw.of (by rfl)) (fun _ _ _ _ _=>(bL (i:=0) (show List.Nodup (["rule","line"]:List Str)from by decide +kernel) rfl (Or.inl rfl))) (fun _ _ _ _ _=>cJ) (fun _ _ _ _ _=>(aD D_broken_at hr (by rfl) (aa (pr 0) (aa (pr 1) ah))))) ah)))
 (ai (aw (BC K (Fs hr) rfl (by rfl) T.n_min (aa (c8 (own:=["row","place"]) (js:=[]) rfl (gA rfl T.n_enumerate (aa (pr 2) ah)) (bw.of (by rfl)) (fun _ _ _ _ _=>(cR K (n:=2) rfl (ba (bL (i:=0) (show List.Nodup (["row","place"]:List Str)from by decide +kernel) rfl (Or.inl rfl)) (ba (bL (i:=1) (show List.Nodup (["row","place"]:List Str)from by decide +kernel) rfl (Or.inl rfl)) cS)))) (fun _ _ _ _ _=>BH (bh (av mE (pr 1) aV (aB _)))) (fun _ _ _ _ _=>(dj (aa (pr 1) (aa (pr 0) ah))))) ah) (BF aV Dy)))))),?_⟩
 have hs:sizeLine=16777216:=sizeLine_eq;refine aH (fun Z H'=>∃pl:Addr,H pl=none/\H' pl=some (.lst (((List.range bs.length).map (jl bs cols)).map lW))/\Z=[some (.ref x),some (.ref l),some (.ref pl)]/\ar H H') ?_ ?_
 ·intro u' hu
  walk_at "r";refine⟨C,dx,_,hx,TC.cl,TC.n1,_,kT a b,?_⟩;walk_at "r";refine⟨true,⟨_,hts⟩,lQ (l:=true) (us:=ts.map V.ref) (fun i ys H'=>ys=((List.range i).map (jl bs cols)).map lW/\ar H H') (by rw [aa0];omega) ⟨rfl,ar.refl _⟩ (fun i ys H' h=>by obtain⟨rfl,_⟩:=h;simp) (fun i ys H' h=>h.2.seq hts) ?_ ?_⟩
  ·rintro i y ys H1 p hy ⟨rfl,sm⟩ hp0
   obtain⟨t,ht0,rfl⟩:∃t,ts[i]?=some t/\y=.ref t:=by
    rw [aa5]at hy
    cases hc:ts[i]? with
    | none=>rw [hc]at hy;cases hy
    | some c=>rw [hc]at hy;exact⟨c,rfl,(Option.some.inj hy).symm⟩
   have hi:i < bs.length:=by have:=(aa3.mp ht0).1;omega
   have eb:bs[i]?=some bs[i]:=aa1 hi;have htt:=htc i t _ ht0 eb;have s2:ar H (upd H1 p (.tup [.int i,.ref t])):=sm.upd hp0;walk_at "r";refine⟨_,bH.of ag,rfl,?_⟩;walk_at "r";generalize upd H1 p (.tup [.int i,.ref t])=H2 at s2;refine aR (s2.tup htt) (aP rfl) (aR (s2.tup htt) (show dC _ ((1:Nat):Int)=_ from aA rfl) ⟨l,_,_,i,bs.length,cols,rfl,LL.same s2,hi,fun H3 s3=>⟨?_,s2.trans s3⟩⟩);rw [List.range_succ,ab4,ab4]
   have ep:jl bs cols i=aT (fun j=>!(decide (bs[i].1<=aY (cols.getD j []) ((i:Int)+1)) && decide (aY (cols.getD j []) ((i:Int)+1)<=bs[i].2))) 0 cols.length:=by
    have hg:bs.getD i (0,0)=bs[i]:=by rw [ab8,eb];rfl
    unfold jl qX;rw [hg]
   rw [<-ep];rfl
  ·rintro ys H1 ⟨rfl,sm⟩ p hp
   rw [aa0,htl];exact hu _ _ ⟨p,sm.free hp,ag,rfl,sm.upd hp⟩
 rintro Ω ω _ H1 ⟨pl,hpl,hpl1,rfl,s1⟩;refine ω _ _ (aH (fun Z H'=>H' pl=some (.lst ((places bs Rs cols).map lW))/\Z=[some (.ref x),some (.ref l),some (.ref pl)]/\ar H H') ?_ ?_)
 ·intro u' hu
  walk_at "r";refine⟨.inl ⟨rfl,_,aL.of hpl1⟩,C,dx,_,s1 _ _ hx,TC.cl,TC.n2,_,jX a b,?_⟩;refine bN (s1.seq hrs) (cz (xs:=rs.map V.ref) (fun i ys H'=>ys=((Rs.take i).map (fX cols)).map lW/\ar H1 H') (by rw [aa0];omega) ⟨rfl,ar.refl _⟩ (fun i ys H' h=>by obtain⟨rfl,_⟩:=h;simp;omega) (fun i ys H' h=>(s1.trans h.2).seq hrs) ?_ ?_)
  ·rintro i y ys H2 hy ⟨rfl,sm⟩
   obtain⟨r,hr0,rfl⟩:∃r,rs[i]?=some r/\y=.ref r:=by
    rw [aa5]at hy
    cases hc:rs[i]? with
    | none=>rw [hc]at hy;cases hy
    | some c=>rw [hc]at hy;exact⟨c,rfl,(Option.some.inj hy).symm⟩
   have hi:i < Rs.length:=by have:=(aa3.mp hr0).1;omega
   have eR:Rs[i]?=some Rs[i]:=aa1 hi;obtain⟨Cr,RI,RB,_,hri⟩:=hrc i r _ hr0 eR;walk_at "r";refine⟨r,l,bs.length,Cr,aU Rs[i],RI,D9 Rs[i],cols,rfl,RB,RB.mono _ _ _ (s1.trans sm) hri,LL.same (s1.trans sm),by omega,fun H3 s3=>⟨?_,sm.trans s3⟩⟩;rw [ac1,eR,ab4,ab4];show _=_++[lW (fX cols Rs[i])];rw [Bf];rfl
  ·rintro ys H2 ⟨rfl,sm⟩ p hp
   rw [aa0,hrl,ac8];have s2:=(s1.trans sm).upd (o:=.lst ((Rs.map (fX cols)).map lW)) hp;have hpl2:=(ak (o:=.lst ((Rs.map (fX cols)).map lW)) hp) _ _ (sm _ _ hpl1);refine⟨pl,p,_,_,rfl,rfl,hpl2,ag,by simp;omega,hu _ _ ⟨?_,rfl,fun c u hc=>?_⟩⟩
   ·rw [ag,<-ab4]
    rfl
   ·rw [aj (au hc hpl)]
    exact s2 _ _ hc
 clear hpl1 s1;clear H1;rintro Ω ω _ H1 ⟨hpl1,rfl,s1⟩
 have hlen:(places bs Rs cols).length=bs.length+Rs.length:=by simp [places]
 generalize places bs Rs cols=L at hpl1 q0 qn hlen;refine ω _ _ ?_;walk_at "r";simp only [CG];walk_at "r";refine⟨true,⟨_,aL.of hpl1⟩,lQ (l:=true) (us:=L.map lW) (fun i ys H'=>∃ts':List Addr,ys=ts'.map V.ref/\ts'.length=(aX 0 (L.take i)).length/\ts'.length<=i/\(∀(j:Nat) (t:Addr) (k:Int×Int),ts'[j]?=some t->(aX 0 (L.take i))[j]?=some k->H' t=some (.tup [.int k.1,.int k.2]))/\ar H1 H') (by rw [aa0];omega) ⟨[],rfl,rfl,aa9 _,fun j t k e=>(by cases e),ar.refl _⟩ (fun i ys H' h=>by obtain⟨ts',rfl,_,h,_⟩:=h;rw [aa0];exact h) (fun i ys H' h=>by obtain⟨_,_,_,_,_,h⟩:=h;exact h.seq (aL.of hpl1)) ?_ ?_⟩
 ·rintro i y ys H2 p hy ⟨ts',rfl,h1,h2,h3,sm⟩ hp0
  obtain⟨z,hz0,rfl⟩:∃z,L[i]?=some z/\y=lW z:=by
   rw [aa5]at hy
   cases hc:L[i]? with
   | none=>rw [hc]at hy;cases hy
   | some c=>rw [hc]at hy;exact⟨c,rfl,(Option.some.inj hy).symm⟩
  have hi:i < L.length:=(aa3.mp hz0).1
  have ht:L.take (i+1)=L.take i++[z]:=by rw [ac1,hz0];rfl
  have hll:(L.take i).length=i:=by rw [ac3];omega
  have hsn:=gJ (L.take i) 0 z;rw [<-ht,hll,al1]at hsn;have s2:ar H1 (upd H2 p (.tup [.int i,lW z])):=sm.upd hp0;have s12:ar H2 (upd H2 p (.tup [.int i,lW z])):=ak hp0;walk_at "r";refine⟨_,bH.of ag,rfl,?_⟩;walk_at "r";generalize upd H2 p (.tup [.int i,lW z])=H3 at s2 s12
  cases z with
  | none=>
   rw [if_pos (show lW none=V.non from rfl)]
   have hsn':aX 0 (L.take (i+1))=aX 0 (L.take i):=by rw [hsn];simp
   rw [hsn'];exact⟨ts',rfl,h1,by omega,fun j t k e1 e2=>s12 _ _ (h3 j t k e1 e2),s2⟩
  | some n=>
   rw [if_neg (show ¬(lW (some n)=V.non)from fun z=>by cases z)];have hsn':aX 0 (L.take (i+1))=aX 0 (L.take i)++[((n:Int),(i:Int))]:=hsn;rw [hsn'];refine⟨by omega,fun p2 hp2=>⟨ts' ++ [p2],by rw [ab4];rfl,by simp [h1],by simp;omega,fun j t k e1 e2=>?_,s2.upd hp2⟩⟩
   by_cases hj:j < ts'.length
   ·rw [ab5 hj]at e1
    rw [ab5 (by omega)]at e2;exact(ak hp2) _ _ (s12 _ _ (h3 j t k e1 e2))
   ·rw [ac4 (by omega)]at e1 e2
    have ej:j=ts'.length:=by
     have:=(aa3.mp e1).1
     simp at this;omega
    rw [ej,ai3]at e1;rw [ej,h1,ai3]at e2;cases e1;cases e2;exact ag
 ·rintro ys H2 ⟨ts',rfl,h1,h2,h3,sm⟩ p hp
  rw [aa0,ac8]at h1 h3;have sp:=sm.upd (o:=.lst (ts'.map V.ref)) hp;refine⟨ts',aL.of ag,aX 0 L,h1,fun j t k e1 e2=>bH.of ((ak hp) _ _ (h3 j t k e1 e2)),fun e0=>q0 e0 _ (s1.trans sp),fun j t k e1 e2 hm=>qn t k _ (ac5 e2) hm ((ak hp) _ _ (h3 j t k e1 e2)) (s1.trans sp)⟩
def dv(Ss:List bO)(cols:List (List Int)):MS->List (List Int)->Option MS
 | s,[]=>some s
 | s,c::l=>if c∈cols then(match cg Ss s c with | none=>none | some s'=>dv Ss cols s' l)else none
def kC(P:Program)(w:World)(C:Addr)(Ss:List bO)(cols:List (List Int))(met:List MS)(x:Addr)(H:Hp):Prop:=je P w C Ss cols met x H/\met[0]?=some (none,Ss.map (·.start))/\∀(s:MS),s∈met->∀c∈cols,∀s',cg Ss s c=some s'->s'∈met
theorem kC.same(h:kC P w C Ss cols met x H)(s:ar H H'):kC P w C Ss cols met x H':=⟨h.1.same s,h.2⟩
def va(P:Program)(w:World)(K:Frag)(C:Addr):Sp:=fun vs H Q _=>∃(x l:Addr) (Ss:List bO) (cols:List (List Int)) (met:List MS) (line:List (List Int)),vs=[.ref x,.ref l]/\kC P w C Ss cols met x H/\cO H l line/\
 (dv Ss cols (none,Ss.map (·.start)) line=none->Q .non H)/\∀(j:Nat) (s:MS),dv Ss cols (none,Ss.map (·.start)) line=some s->met[j]?=some s->Q (.int j) H
theorem Bp(F:cM K "walk" "Machine.walk" fL f fd)(T:Txt mg aM)(M_to:aK P w K mg base C "to" 1 ["self","state","column"] (DM P w C)):aN P w K mg base cc 2 f fd ["self","line"] (va P w K C):=by
 refine F.ok sc_Machine_walk (fun _ _ _ _ h=>?_) (fun _ A _ s H vs Q E hr h=>?_)
 ·obtain⟨x,l,Ss,cols,met,line,rfl,_⟩:=h
  rfl
 obtain⟨x,l,Ss,cols,met,line,rfl,⟨MA,m0,mc⟩,⟨ps,hps,hpl,hpc⟩,kn,ks⟩:=h
 refine⟨_,(ae (bM (i:=2) sc_Machine_walk.nd (nO T.g_START))
 (ae (bK PassesOwn.never rfl (bE K (pr 1)) (gD (i:=3) sc_Machine_walk.nd)
 (ae (bM (i:=2) sc_Machine_walk.nd (dR P w K mg base hr (pr 0) (aa (pr 2) (aa (pr 3) ah))))
 (ai (aW (bh (av dJ (pr 2) aV (aB _))) (ai (aw aV)) aF))))
 (ai (aw (pr 2))))),?_⟩
 have hs:sizeLine=16777216:=sizeLine_eq;refine aH (fun Z H'=>Z=[some (.ref x),some (.ref l),some (.int 0),none]/\H=H') ?_ ?_
 ·intro u' hu
  walk_at "r";exact hu _ _ ⟨rfl,rfl⟩
 rintro Ω ω _ _ ⟨rfl,rfl⟩
 obtain⟨Pv,hPv⟩:∃Pv:Nat->L2.St->Hp->Prop,Pv=fun i Z H'=>∃(j:Nat) (s:MS) (o3:Option V),met[j]?=some s/\dv Ss cols (none,Ss.map (·.start)) line=dv Ss cols s (line.drop i)/\Z=[some (.ref x),some (.ref l),some (.int j),o3]/\H=H':=⟨_,rfl⟩
 refine ω _ _ (aH (fun Z H'=>Pv line.length Z H') ?_ ?_)
 ·intro u' hu
  walk_at "r";refine bN (aL.of hps) (cD (xs:=ps.map V.ref) Pv (by rw [hPv];exact⟨0,_,none,m0,rfl,rfl,rfl⟩) (fun i Z H' _ h=>by rw [hPv]at h;obtain⟨_,_,_,_,_,_,rfl⟩:=h;exact aL.of hps) ?_ ?_)
  ·intro i y Z H' hy hI
   rw [hPv]at hI;obtain⟨j,st,o3,hj,hw,rfl,rfl⟩:=hI;rw [aa5]at hy
   cases ht:ps[i]? with
   | none=>rw [ht]at hy;cases hy
   | some t=>
    rw [ht]at hy;cases hy
    have hi:i < line.length:=by rw [<-hpl];exact(aa3.mp ht).1
    have hc:=hpc i t line[i] ht (aa1 hi);rw [ak2 hi,dv]at hw;walk_at "r";obtain⟨dx,la,wl,sc,hx,MB⟩:=id MA;refine⟨C,dx,_,hx,by unfold bC;walk_at "f",_,_,M_to,x,t,Ss,cols,met,j,line[i],st,rfl,MA,hj,hc,fun j' s' hcc hn hj'=>?_,fun h=>?_⟩
    ·rw [if_pos hcc,hn]at hw
     rw [if_neg (by simp),hPv];exact⟨j',s',_,hj',hw,rfl,rfl⟩
    ·show(if V.non=V.non then _ else _)
     rw [if_pos rfl];refine kn ?_;rw [hw]
     by_cases hcc:line[i]∈cols
     ·rw [if_pos hcc,h hcc]
     ·rw [if_neg hcc]
  ·intro Z H' hI
   rw [aa0,hpl]at hI;exact hu _ _ hI
 intro Ω ω;intro Z H' hI;rw [hPv]at hI;obtain⟨j,st,o3,hj,hw,rfl,rfl⟩:=hI;rw [ap3,dv]at hw;refine ω _ _ ?_;walk_at "r";exact ks j st hw hj
def wq(ns:List Int)(k:Int):Int:=ns.getD k.toNat 0
def zP(K:Frag):Sp:=fun vs H Q _=>∃(a:Addr) (ns:List Int) (k:Int),vs=[.ref a,.int k]/\aL K H a (ns.map V.int)/\0<=k/\k<=1000/\Q (.int (wq ns k)) H
def ku:Sp:=fun vs H Q _=>∃(c:Int) (n:Nat),vs=[.int c,.int n]/\n<=500/\∀(q:Addr) (ys:List Int) H',ys.length=n->(∀y∈ys,0<=y/\y < 399999)->H q=none->H' q=some (.lst (ys.map V.int))->ar H H'->Q (.ref q) H'
def pV(b:Int×Int):List Int:=[b.1,b.2]
def Dh(b:Int×Int):Prop:=b.1<=b.2/\b.1.natAbs<=10 ^ 36/\b.2 - b.1 < 12
theorem Dh.big(h:Dh b):b.1<=b.2/\b.1.natAbs < 10 ^ 40/\b.2.natAbs < 10 ^ 40/\(fR b).natAbs < 2 ^ 200/\1<=wN b:=by
 obtain⟨h1,h2,h3⟩:=h;have e36:=Fw;have e40:=F6
 have e2:(2:Nat) ^ 200=1606938044258990275541962092341162602522202993782792835301376:=by decide +kernel
 rw [e36]at h2;rw [e40,e2];unfold fR wN;omega
theorem cO.ranges(h:cO H q (bs.map pV)):bW K H q bs:=by
 obtain⟨ps,h1,h2,h3⟩:=h;refine⟨ps,aL.of h1,by rw [h2,aa0],fun i t b e1 e2=>bH.of (h3 i t (pV b) e1 (by rw [aa5,e2];rfl))⟩
theorem cO.at_(h:cO H q cols):H q=some (.lst (h.choose.map V.ref)):=h.choose_spec.1
theorem cO.put(h:cO H q cols)(ht:H t=none):∃xs:List V,(upd H t (.tup (us.map V.int))) q=some (.lst xs)/\xs.length=cols.length/\cO (upd (upd H t (.tup (us.map V.int))) q (.lst (xs++[.ref t]))) q (cols++[us]):=by
 obtain⟨ps,h1,h2⟩:=h;have hq:=(ak ht (o:=HO.tup (us.map V.int))) _ _ h1;refine⟨ps.map V.ref,hq,by rw [aa0,h2.1],ps++[t],by rw [ag,ab4];rfl,?_⟩;refine((h2.same (ak ht)).append ⟨rfl,fun i p us' e1 e2=>?_⟩).upd hq
 have hi:i=0:=by
  have:=(aa3.mp e1).1
  simp at this;exact this
 subst hi;cases e1;cases e2;exact ag
theorem iB{a:Addr}{i:Int}(h:aL K H a xs)(h0:0<=i)(h1:i < xs.length)(q:∀v∈xs,xs[i.toNat]?=some v->Q v H):pe K (.ref a) (.int i) H Q:=by
 obtain⟨m,rfl⟩:∃m:Nat,i=m:=⟨i.toNat,by omega⟩;have e:xs[m]?=some xs[m]:=aa1 (by omega);exact bG h (aA e) (q _ (ad6 _) (by rw [ae4];exact e))
def oh(K:Frag):Sp:=fun vs H Q _=>∃(a:Addr) (ns:List Int) (most:Nat),vs=[.ref a,.int most]/\aL K H a (ns.map V.int)/\1<=most/\most<=400/\∀(q:Addr) (bs:List (Int×Int)) H',1<=bs.length->bs.length<=4->(∀b∈bs,Dh b)->ib bs<=most->H q=none->cO H' q (bs.map pV)->ar H H'->Q (.ref q) H'
def Ar(bs:List (Int×Int))(us:List Int):Prop:=us.length=bs.length/\∀(i:Nat) (b:Int×Int) (u:Int),bs[i]?=some b->us[i]?=some u->b.1<=u/\u<=b.2
theorem Ar.nil:Ar [] []:=⟨rfl,fun i b u e=>nomatch e⟩
theorem Ar.cons_iff:Ar (b::bs) (u::us)↔(b.1<=u/\u<=b.2)/\Ar bs us:=by
 constructor
 ·rintro⟨h1,h2⟩
  refine⟨h2 0 b u rfl rfl,by simpa using h1,fun i b' u' e1 e2=>h2 (i+1) b' u' e1 e2⟩
 ·rintro⟨h1,h2,h3⟩
  refine⟨by simpa using h2,fun i b' u' e1 e2=>?_⟩
  cases i with
  | zero=>cases e1;cases e2;exact h1
  | succ i=>exact h3 i b' u' e1 e2
theorem wG:us∈br bs↔Ar bs us:=by
 have go:∀(bs:List (Int×Int)) (told:List (List Int)) (c:List Int),c∈bs.foldl (fun told b=>told.flatMap (dD b)) told↔∃p∈told,∃us,Ar bs us/\c=p++us:=by
  intro bs
  induction bs with
  | nil=>
   intro told c
   constructor
   ·intro h
    exact⟨c,h,[],Ar.nil,by simp⟩
   ·rintro⟨p,hp,us,⟨h1,_⟩,rfl⟩
    rw [ag0.mp h1,af4];exact hp
  | cons b bs ih=>
   intro told c;rw [ae6,ih]
   constructor
   ·rintro⟨p,hp,us,hus,rfl⟩
    obtain⟨d,hd,hp⟩:=ah0.mp hp;unfold dD at hp;obtain⟨j,hj,rfl⟩:=ac0.mp hp;have hj:j < wN b:=ah6.mp hj;refine⟨d,hd,(b.1+(j:Int))::us,Ar.cons_iff.mpr ⟨?_,hus⟩,by simp⟩;unfold wN at hj;omega
   ·rintro⟨p,hp,us,hus,rfl⟩
    cases us with
    | nil=>cases hus.1
    | cons u us=>
     obtain⟨⟨h1,h2⟩,h3⟩:=Ar.cons_iff.mp hus;refine⟨p++[u],ah0.mpr ⟨p,hp,?_⟩,us,h3,by simp⟩;unfold dD;refine ac0.mpr ⟨(u - b.1).toNat,ah6.mpr ?_,?_⟩
     ·unfold wN
      omega
     ·rw [show b.1+((u - b.1).toNat:Int)=u by omega]
 unfold br;rw [go]
 constructor
 ·rintro⟨p,hp,us',h,rfl⟩
  rw [ab6.mp hp];exact h
 ·intro h
  exact⟨[],by simp,us,h,rfl⟩
def kz:Sp:=fun vs H Q _=>∃i:Int,vs=[.int i]/\Q (.bl true) H
def rE(K:Frag):Sp:=fun vs H Q _=>∃(a:Addr) (bs:List (Int×Int)),vs=[.ref a]/\bW K H a bs/\bs.length<=4/\(∀b∈bs,1<=wN b)/\ib bs<=400/\∀q H',H q=none->cO H' q (br bs)->ar H H'->Q (.ref q) H'
theorem EL(F:cM K "_law_at" "_law_at" nT f fd)(T:Txt mg aM):aN P w K mg base cc 1 f fd ["_law_script","_law_k"] (zP K):=by
 refine F.ok xD (fun _ _ _ _ h=>?_) (fun _ A _ s H vs Q E hr h=>?_)
 ·obtain⟨a,ns,k,rfl,_⟩:=h
  rfl
 obtain⟨a,ns,k,rfl,hS,h0,h1,q⟩:=h
 refine⟨_,(ae (aW (bh (av (o0 mh) (pr 1) (az (aC K) (by rfl) T.n_len boot_len (aa (pr 0) ah)) (aB _))) (ai (aw (ax (aG K) (pr 0) (pr 1) (fun _ _=>rfl)))) aF)
 (ai (aw af))),?_⟩
 walk_at "r";refine⟨_,.inl hS,?_⟩;obtain⟨m,rfl⟩:∃m:Nat,k=m:=⟨k.toNat,by omega⟩;unfold wq at q;rw [ae4,ab8]at q;rw [aa0]
 by_cases hk:(m:Int) < (ns.length:Int)
 ·rw [if_pos hk]
  have e:ns[m]?=some ns[m]:=aa1 (by omega);rw [e]at q;exact bG hS (aA (by rw [aa5,e];rfl)) q
 ·rw [if_neg hk]
  rw [aj6 (by omega)]at q;exact q
theorem za(F:cM K "_law_draws" "_law_draws" iJ f fd)(T:Txt mg aM):aN P w K mg base cc 1 f fd ["_law_cell","_law_many"] ku:=by
 refine F.ok sc_law_draws (fun _ _ _ _ h=>?_) (fun _ A _ s H vs Q E hr h=>?_)
 ·obtain⟨c,n,rfl,_⟩:=h
  rfl
 obtain⟨c,n,rfl,hn,q⟩:=h
 refine⟨_,(ae (bM (i:=2) sc_law_draws.nd (dP kX (aq (o1 bc) (aq (o1 cj) (pr 0) af) af) af (aB _)))
 (ae (bM (i:=3) sc_law_draws.nd (aq (o1 cj) (pr 0) af))
 (ae (bM (i:=4) sc_law_draws.nd (aq (bz K) (aq (o1 bc) (pr 0) af) af))
 (ae (bM (i:=5) sc_law_draws.nd (bQ ah))
 (ae (bK PassesOwn.never rfl (xv rfl T.n_range (aa af (aa (aq (bz K) (pr 1) af) ah))) (gD (i:=6) sc_law_draws.nd)
 (ai (aW (PW.pt (fY (bu (pr 2) (fun _=>rfl)) (fj (bh (av (nJ K) (pr 3) (bQ (aa af (aa (sV (u1 oz) af) ah))) (by with_unfolding_all rfl)))))) (ae (bF (bJ K PySem.F.plainAttrs_list PySem.F.slot_list_append PySem.F.type_list_append bT (pr 5) (aa (aq (o1 bc) (pr 3) af) ah)))
 (ai (bM (i:=3) sc_law_draws.nd (aq (o1 cj) (pr 3) af)))) (ae (bM (i:=4) sc_law_draws.nd (aq (bz K) (aq (o1 bc) (aq (gI K) (aq (o1 bc) (aq (bz K) (aq (gI K) (pr 4) af) (pr 6)) af) (aq (bz K) (pr 4) (aq (gI K) af (pr 6)))) af) af))
 (ai (bF (bJ K PySem.F.plainAttrs_list PySem.F.slot_list_append PySem.F.type_list_append bT (pr 5) (aa (aq (o1 cj) (pr 4) af) ah))))))))
 (ai (aw (pr 5)))))))),?_⟩
 have hs:sizeLine=16777216:=sizeLine_eq;refine aH (fun Z H'=>∃b:Bool,Z=[some (.int c),some (.int n),some (.bl b),none,none,none,none]/\H=H') ?_ ?_
 ·intro u' hu
  walk_at "r";exact⟨⟨by decide,by decide⟩,by decide,hu _ _ ⟨_,rfl,rfl⟩⟩
 rintro Ω ω _ _ ⟨b,rfl,rfl⟩;refine ω _ _ (aH (fun Z H'=>∃r:Int,Z=[some (.int c),some (.int n),some (.bl b),some (.int r),none,none,none]/\H=H') ?_ ?_)
 ·intro u' hu
  walk_at "r";exact⟨⟨by decide,by decide⟩,hu _ _ ⟨_,rfl,rfl⟩⟩
 rintro Ω ω _ _ ⟨r,rfl,rfl⟩;refine ω _ _ (aH (fun Z H'=>∃sd:Int,1<=sd/\sd<=1999993/\Z=[some (.int c),some (.int n),some (.bl b),some (.int r),some (.int sd),none,none]/\H=H') ?_ ?_)
 ·intro u' hu
  walk_at "r";exact⟨by decide,hu _ _ ⟨_,by omega,by omega,rfl,rfl⟩⟩
 rintro Ω ω _ _ ⟨sd,d1,d2,rfl,rfl⟩;refine ω _ _ (aH (fun Z H'=>∃p:Addr,H p=none/\H' p=some (.lst (([]:List Int).map V.int))/\Z=[some (.int c),some (.int n),some (.bl b),some (.int r),some (.int sd),some (.ref p),none]/\ar H H') ?_ ?_)
 ·intro u' hu
  walk_at "r";exact⟨by omega,fun p hp=>hu _ _ ⟨p,hp,ag,rfl,ak hp⟩⟩
 rintro Ω ω _ H1 ⟨p,hp,hp1,rfl,s1⟩;refine ω _ _ (aH (fun Z H'=>∃(ys:List Int) (r sd:Int) (o6:Option V),ys.length=n/\(∀y∈ys,0<=y/\y < 399999)/\H' p=some (.lst (ys.map V.int))/\Z=[some (.int c),some (.int n),some (.bl b),some (.int r),some (.int sd),some (.ref p),o6]/\ar H H') ?_ ?_)
 ·intro u' hu
  walk_at "r";obtain⟨Pv,hPv⟩:∃Pv:Nat->L2.St->Hp->Prop,Pv=fun i Z H'=>∃(ys:List Int) (r sd:Int) (o6:Option V),ys.length=i/\(∀y∈ys,0<=y/\y < 399999)/\1<=sd/\sd<=1999993/\H' p=some (.lst (ys.map V.int))/\Z=[some (.int c),some (.int n),some (.bl b),some (.int r),some (.int sd),some (.ref p),o6]/\ar H H':=⟨_,rfl⟩;refine⟨by omega,by omega,by omega,by omega,cB Pv (by rw [hPv];exact⟨[],r,sd,none,rfl,(fun _ h=>nomatch h),d1,d2,hp1,rfl,s1⟩) ?_ ?_⟩
  ·clear s1 hp1 d1 d2
   clear r sd H1;rintro i Z H1 hi hI;rw [hPv]at hI;obtain⟨ys,r,sd,o6,hl,hy,d1,d2,hp1,rfl,s1⟩:=hI;walk_at "r"
   have app:∀{x:Int} {H2:Hp} {r' sd':Int},0<=x->x < 399999->1<=sd'->sd'<=1999993->ar H H2->Pv (i+1) [some (.int c),some (.int n),some (.bl b),some (.int r'),some (.int sd'),some (.ref p),some (.int (1+i))] (upd H2 p (.lst (ys.map V.int++[.int x]))):=fun {x H2 r' sd'} x0 x1 e1 e2 s2=>by
    rw [hPv];refine⟨ys++[x],r',sd',_,by rw [ab2,hl];rfl,fun y h=>?_,e1,e2,by rw [ag,ab4];rfl,rfl,xO hp s2⟩;rcases ac9.mp h with h | h
    ·exact hy y h
    ·rw [ab6.mp h]
     exact⟨x0,x1⟩
   have e2:(2:Nat) ^ 21=2097152:=by decide
   have k1:IntMulOk ((sd * 69069+(1+(i:Int))) % 1999993) (sd+3 * (1+(i:Int))):=IntMulOk.of_le (m:=21) (n:=21) (intBits_le_iff.mpr (by rw [e2];omega)) (intBits_le_iff.mpr (by rw [e2];omega)) (by decide);have m0:=ad5 ((sd * 69069+(1+(i:Int))) % 1999993 * (sd+3 * (1+(i:Int)))) (show(1999993:Int)≠0 by decide);have m1:=ad0 ((sd * 69069+(1+(i:Int))) % 1999993 * (sd+3 * (1+(i:Int)))) (show(0:Int) < 1999993 by decide);generalize(sd * 69069+(1+(i:Int))) % 1999993 * (sd+3 * (1+(i:Int))) % 1999993=sd' at m0 m1
   by_cases hb:b=true
   ·rw [if_pos hb]
    refine⟨by omega,fun z hz=>lX (D:=[0,-1]) (aL.of ag) ⟨_,rfl,?_⟩⟩;have hp2:=(ak hz (o:=HO.lst [V.int 0,V.int (-1)])) _ _ hp1;have s2:=s1.upd hz (o:=HO.lst [V.int 0,V.int (-1)])
    by_cases hr:r∈[0,-1]
    ·rw [if_neg (by simp [hr])]
     refine⟨.of_right (by decide),by decide,.of_left (by decide),k1,by decide,.inl ⟨rfl,_,aL.of hp2⟩,⟨by decide,by decide⟩,p,_,_,rfl,rfl,hp2,by rw [aa0];omega,app (by omega) (by omega) (by omega) (by omega) s2⟩
    ·rw [if_pos (by simp [hr])]
     exact⟨.inl ⟨rfl,_,aL.of hp2⟩,by decide,p,_,_,rfl,rfl,hp2,by rw [aa0];omega,⟨by decide,by decide⟩,app (by omega) (by omega) d1 d2 s2⟩
   ·rw [if_neg hb]
    refine⟨.of_right (by decide),by decide,.of_left (by decide),k1,by decide,.inl ⟨rfl,_,aL.of hp1⟩,⟨by decide,by decide⟩,p,_,_,rfl,rfl,hp1,by rw [aa0];omega,app (by omega) (by omega) (by omega) (by omega) s1⟩
  ·rintro Z H3 hI
   rw [hPv]at hI;obtain⟨ys,r,sd,o6,hl,hy,_,_,hp1,rfl,s1⟩:=hI;exact hu _ _ ⟨ys,r,sd,o6,by omega,hy,hp1,rfl,s1⟩
 rintro Ω ω _ H2 ⟨ys,r,sd,o6,hl,hy,hp2,rfl,s2⟩;refine ω _ _ ?_;walk_at "r";exact q p ys H2 hl hy hp hp2 s2
theorem xk(F:cM K "_law_ranges" "_law_ranges" gR f fd)(T:Txt mg aM)(D_law_at:bR P w K mg base "_law_at" 1 ["_law_script","_law_k"] (zP K))(D_law_draws:bR P w K mg base "_law_draws" 1 ["_law_cell","_law_many"] ku):aN P w K mg base cc 2 f fd ["_law_script","_law_most"] (oh K):=by
 refine F.ok sc_law_ranges (fun _ _ _ _ h=>?_) (fun _ A _ s H vs Q E hr h=>?_)
 ·obtain⟨a,ns,most,rfl,_⟩:=h
  rfl
 obtain⟨a,ns,most,rfl,hS,m1,m2,k⟩:=h
 refine⟨_,(ae (bM (i:=2) sc_law_ranges.nd (aD D_law_draws hr (by rfl) (aa (aD D_law_at hr (by rfl) (aa (pr 0) (aa af ah))) (aa af ah))))
 (ae (bM (i:=3) sc_law_ranges.nd (ax (aG K) (bQ (kZ (vs:=[.int (1),.int (1),.int (2),.int (2),.int (2),.int (3),.int (4),.int (1)]) rfl)) (aq (o1 bc) (aD D_law_at hr (by rfl) (aa (pr 0) (aa af ah))) af) (fun _ _=>rfl)))
 (ae (bM (i:=4) sc_law_ranges.nd (aq (o1 bc) (aq (o1 cj) (aD D_law_at hr (by rfl) (aa (pr 0) (aa af ah))) af) (aq (o1 qW) af af)))
 (ae (bM (i:=5) sc_law_ranges.nd (ax (aG K) (bQ (aa af (aa af (aa (sV (u1 oz) af) (aa (aq (o1 bc) (pr 4) (aq (o1 qW) af af)) (aa (aq (o0 bZ) af (pr 4)) ah)))))) (aq (o1 bc) (aD D_law_at hr (by rfl) (aa (pr 0) (aa af ah))) af) (fun _ _=>rfl)))
 (ae (bM (i:=6) sc_law_ranges.nd (ax (aG K) (bQ (aa af (aa af (aa af (aa (aq (o1 bc) (aq (o1 cj) (aD D_law_at hr (by rfl) (aa (pr 0) (aa af ah))) af) (aq (o1 qW) af af)) ah))))) (aq (o1 bc) (aD D_law_at hr (by rfl) (aa (pr 0) (aa af ah))) af) (fun _ _=>rfl)))
 (ae (bM (i:=7) sc_law_ranges.nd (bQ ah))
 (ae (bK PassesOwn.never rfl (c9 rfl T.n_range (aa (pr 3) ah)) (gD (i:=8) sc_law_ranges.nd)
 (ae (bM (i:=9) sc_law_ranges.nd (aq (bz K) af (aq (o1 bc) (ax (aG K) (pr 2) (aq (bz K) af (pr 8)) (fun _ _=>rfl)) (az (kG rfl) (by rfl) T.n_min boot_min (aa (pr 1) (aa (aq (bz K) af (aq (gI K) af (bo (fm) (by rfl) T.n_int boot_int (aa (dP kX (pr 3) af (aB _)) ah)))) ah))))))
 (ae (bM (i:=10) sc_law_ranges.nd (aq (o0 bZ) (aq (bz K) (aq (bz K) (pr 5) (aq (gI K) (pr 8) (pr 6))) (aq (o1 bc) (aq (o1 cj) (ax (aG K) (pr 2) (aq (bz K) af (pr 8)) (fun _ _=>rfl)) af) af)) af))
 (ae (bF (bJ K PySem.F.plainAttrs_list PySem.F.slot_list_append PySem.F.type_list_append bT (pr 7) (aa (dj (aa (pr 10) (aa (aq (o0 bZ) (aq (bz K) (pr 10) (pr 9)) af) ah))) ah)))
 (ai (bM (i:=1) sc_law_ranges.nd (aq (o1 cj) (pr 1) (pr 9))))))))
 (ai (aw (pr 7)))))))))),?_⟩
 have hs:sizeLine=16777216:=sizeLine_eq;refine aH (fun Z H'=>∃(wa:Addr) (ys:List Int),ys.length=6/\(∀y∈ys,0<=y/\y < 399999)/\H' wa=some (.lst (ys.map V.int))/\Z=[some (.ref a),some (.int most),some (.ref wa),none,none,none,none,none,none,none,none]/\ar H H') ?_ ?_
 ·intro u' hu
  walk_at "r";exact⟨a,ns,0,rfl,hS,by decide,by decide,_,6,rfl,by decide,fun q ys H' hl hy _ hq s1=>hu _ _ ⟨q,ys,hl,hy,hq,rfl,s1⟩⟩
 rintro Ω ω _ H1 ⟨wa,ys,yl,hy,hw,rfl,s1⟩;refine ω _ _ (aH (fun Z H'=>∃v:Int,1<=v/\v<=4/\Z=[some (.ref a),some (.int most),some (.ref wa),some (.int v),none,none,none,none,none,none,none]/\ar H1 H') ?_ ?_)
 ·intro u' hu
  walk_at "r";refine⟨by omega,fun p hp=>⟨a,ns,0,rfl,(s1.upd hp).seq hS,by decide,by decide,_,rfl,by decide,iB (aL.of ag) (by omega) (by simp;omega) fun v hv _=>?_⟩⟩;simp only [aa8,ac2,or_false]at hv
  rcases hv with rfl | rfl | rfl | rfl | rfl | rfl | rfl | rfl<;>exact hu _ _ ⟨_,by decide,by decide,rfl,ak hp⟩
 rintro Ω ω _ H2 ⟨v,v1,v4,rfl,s2⟩;have s02:=s1.trans s2;refine ω _ _ (aH (fun Z H'=>∃g:Int,0<=g/\g < 100000000000000000000000000000000000/\Z=[some (.ref a),some (.int most),some (.ref wa),some (.int v),some (.int g),none,none,none,none,none,none]/\H2=H') ?_ ?_)
 ·intro u' hu
  walk_at "r"
  have e35:(10:Int) ^ Int.toNat 35=100000000000000000000000000000000000:=by decide +kernel
  refine⟨a,ns,1,rfl,s02.seq hS,by decide,by decide,_,rfl,⟨by decide,by decide⟩,⟨by decide,by decide,by decide⟩,?_⟩;rw [e35];exact⟨by decide,hu _ _ ⟨_,by omega,by omega,rfl,rfl⟩⟩
 rintro Ω ω _ _ ⟨g,g0,g1,rfl,rfl⟩;refine ω _ _ (aH (fun Z H'=>∃lo:Int,lo.natAbs < 100000000000000000000000000000000000/\Z=[some (.ref a),some (.int most),some (.ref wa),some (.int v),some (.int g),some (.int lo),none,none,none,none,none]/\ar H1 H') ?_ ?_)
 ·intro u' hu
  walk_at "r"
  have e9:(10:Int) ^ Int.toNat 9=1000000000:=by decide +kernel
  rw [e9];refine⟨⟨by decide,by decide,by decide⟩,by decide,by omega,fun p hp=>⟨a,ns,1,rfl,(s02.upd hp).seq hS,by decide,by decide,_,rfl,by decide,iB (aL.of ag) (by omega) (by simp;omega) fun v hv _=>?_⟩⟩;simp only [aa8,ac2,or_false]at hv
  rcases hv with rfl | rfl | rfl | rfl | rfl<;>exact hu _ _ ⟨_,by omega,rfl,s2.upd hp⟩
 clear s02 s2;clear H2;rintro Ω ω _ H2 ⟨lo,hlo,rfl,s2⟩;have s02:=s1.trans s2;refine ω _ _ (aH (fun Z H'=>∃fr:Int,0<=fr/\fr<=100000000000000000000/\Z=[some (.ref a),some (.int most),some (.ref wa),some (.int v),some (.int g),some (.int lo),some (.int fr),none,none,none,none]/\ar H1 H') ?_ ?_)
 ·intro u' hu
  walk_at "r"
  have e20:(10:Int) ^ Int.toNat 20=100000000000000000000:=by decide +kernel
  rw [e20];refine⟨a,ns,2,rfl,s02.seq hS,by decide,by decide,_,rfl,⟨by decide,by decide⟩,⟨by decide,by decide,by decide⟩,by decide,by omega,fun p hp=>⟨a,ns,2,rfl,(s02.upd hp).seq hS,by decide,by decide,_,rfl,by decide,iB (aL.of ag) (by omega) (by simp;omega) fun v hv _=>?_⟩⟩;simp only [aa8,ac2,or_false]at hv
  rcases hv with rfl | rfl | rfl | rfl<;>exact hu _ _ ⟨_,by omega,by omega,rfl,s2.upd hp⟩
 clear s02 s2;clear H2;rintro Ω ω _ H2 ⟨fr,f0,f1,rfl,s2⟩;refine ω _ _ (aH (fun Z H'=>∃q:Addr,H1 q=none/\H' q=some (.lst (([]:List Addr).map V.ref))/\Z=[some (.ref a),some (.int most),some (.ref wa),some (.int v),some (.int g),some (.int lo),some (.int fr),some (.ref q),none,none,none]/\ar H1 H') ?_ ?_)
 ·intro u' hu
  walk_at "r";exact⟨by omega,fun q hq=>hu _ _ ⟨q,s2.free hq,ag,rfl,s2.upd hq⟩⟩
 clear s2;clear H2;rintro Ω ω _ H2 ⟨q,hq1,hq2,rfl,s2⟩;have hq0:H q=none:=s1.free hq1;refine ω _ _ (aH (fun Z H'=>∃(bs:List (Int×Int)) (o1 o8 o9 o10:Option V),1<=bs.length/\bs.length<=4/\(∀b∈bs,Dh b)/\ib bs<=most/\cO H' q (bs.map pV)/\Z=[some (.ref a),o1,some (.ref wa),some (.int v),some (.int g),some (.int lo),some (.int fr),some (.ref q),o8,o9,o10]/\ar H1 H') ?_ ?_)
 ·intro u' hu
  walk_at "r";obtain⟨Pv,hPv⟩:∃Pv:Nat->L2.St->Hp->Prop,Pv=fun i Z H'=>∃(bs:List (Int×Int)) (m:Nat) (o8 o9 o10:Option V),bs.length=i/\(∀b∈bs,Dh b)/\1<=m/\ib bs * m<=most/\cO H' q (bs.map pV)/\Z=[some (.ref a),some (.int m),some (.ref wa),some (.int v),some (.int g),some (.int lo),some (.int fr),some (.ref q),o8,o9,o10]/\ar H1 H':=⟨_,rfl⟩;refine⟨by omega,by omega,cB Pv (by rw [hPv];exact⟨[],most,none,none,none,rfl,(fun _ h=>nomatch h),m1,by show 1 * most<=most;omega,⟨[],hq2,rfl,fun i p us e=>nomatch e⟩,rfl,s2⟩) ?_ ?_⟩
  ·rintro i Z H3 hi hI
   rw [hPv]at hI;obtain⟨bs,m,o8,o9,o10,hl,hb,hm,hc,hC,rfl,s3⟩:=hI
   have hi4:(i:Int)<=3:=by omega
   walk_at "r";have hw3:=s3 _ _ hw
   have hc1:1<=ib bs:=by
    have:=(gs (bs:=bs) (fun b h=>(hb b h).big.2.2.2.2) bs.length).1
    rwa [ac8]at this
   have hm4:m<=400:=ab9 (ab9 (aj1 m hc1) hc) m2;refine iB (aL.of hw3) (by omega) (by rw [aa0];omega) fun y hyv _=>?_;obtain⟨y,hyy,rfl⟩:=ac0.mp hyv;clear hyv;obtain⟨y0,y1⟩:=hy y hyy;obtain⟨d,hd⟩:∃d:Int,d=if (6+6 * if v=1 then 1 else 0) < (m:Int)then 6+6 * (if v=1 then 1 else 0)else(m:Int):=⟨_,rfl⟩
   have d1:1<=d:=by rw [hd];split<;>split<;>omega
   have d2:d<=m:=by rw [hd];split<;>omega
   have d3:d<=12:=by rw [hd];split<;>split<;>omega
   rw [<-hd];have r0:=ad5 y (show d≠0 by omega);have r1:=ad0 y (show 0 < d by omega);obtain⟨wd,hwd⟩:∃wd:Nat,1+y % d=wd:=⟨(1+y % d).toNat,by omega⟩
   have w1:1<=wd:=by omega
   have w2:wd<=12:=by omega
   have w3:wd<=m:=by omega
   refine⟨.of_left (by decide),_,rfl,by omega,IntMulOk.of_le (m:=10) (n:=80) (intBits_le_iff.mpr (by omega)) (intBits_le_iff.mpr (ad2 (m:=100000000000000000000) (by omega) (by decide +kernel))) (by decide),iB (aL.of hw3) (by omega) (by rw [aa0];omega) fun y2 hyv _=>?_⟩;obtain⟨y2,hyy2,rfl⟩:=ac0.mp hyv;clear hyv;obtain⟨z0,z1⟩:=hy y2 hyy2;have p0:0<=(i:Int) * fr:=Int.mul_nonneg (by omega) f0;have p1:(i:Int) * fr<=3 * 100000000000000000000:=Int.mul_le_mul hi4 f1 f0 (by decide);obtain⟨x,hx⟩:∃x:Int,x=lo+(i:Int) * fr+y2 / 12 % 7 - 3:=⟨_,rfl⟩
   have x36:x.natAbs<=10 ^ 36:=by
    have e36:=Fw;rw [e36];omega
   refine⟨_,rfl,⟨by decide,by decide⟩,by decide,.inl ⟨rfl,_,aL.of hC.at_⟩,by omega,fun p hp=>?_⟩;rw [<-hx,hwd];obtain⟨xs,hx1,hx2,hx3⟩:=hC.put (us:=pV (x,x+wd - 1)) hp;refine⟨q,_,_,rfl,rfl,hx1,by rw [hx2,aa0];omega,⟨by omega,by omega⟩,?_⟩;rw [hPv];have em:(m:Int) / (wd:Int)=((m / wd:Nat):Int):=rfl;rw [em];refine⟨bs++[(x,x+wd - 1)],m / wd,_,_,_,by rw [ab2,hl];rfl,fun b hb'=>?_,Nat.div_pos w3 w1,?_,?_,rfl,?_⟩
   ·rcases ac9.mp hb' with hb' | hb'
    ·exact hb b hb'
    ·rw [ab6.mp hb']
     unfold Dh;show x<=x+wd - 1/\x.natAbs<=_/\x+wd - 1 - x < 12;exact⟨by omega,x36,by omega⟩
   ·rw [jS]
    have ew:wN (x,x+(wd:Int) - 1)=wd:=by
     unfold wN;show(x+(wd:Int) - 1 - x+1).toNat=wd;omega
    rw [ew,Nat.mul_assoc];exact ab9 (Nat.mul_le_mul_left _ (Nat.mul_div_le m wd)) hc
   ·rw [ab4]
    exact hx3
   ·exact xO hq1 (s3.upd hp)
  ·rintro Z H3 hI
   rw [hPv]at hI;obtain⟨bs,m,o8,o9,o10,hl,hb,hm,hc,hC,rfl,s3⟩:=hI;exact hu _ _ ⟨bs,_,o8,o9,o10,by omega,by omega,hb,ab9 (al0 _ hm) hc,hC,rfl,s3⟩
 rintro Ω ω _ H3 ⟨bs,o1,o8,o9,o10,l1,l4,hb,hc,hC,rfl,s3⟩;refine ω _ _ ?_;walk_at "r";exact k q bs H3 l1 l4 hb hc hq0 hC (s1.trans s3)
theorem Bk(F:cM K "_law_columns" "_law_columns" gc f fd)(T:Txt mg aM):aN P w K mg base cc 1 f fd ["_law_ranges_here"] (rE K):=by
 refine F.ok sc_law_columns (fun _ _ _ _ h=>?_) (fun _ A _ s H vs Q E hr h=>?_)
 ·obtain⟨a,bs,rfl,_⟩:=h
  rfl
 obtain⟨a,bs,rfl,⟨ts,hts,htl,htc⟩,lb,hw,hc,k⟩:=h
 refine⟨_,(ae (bM (i:=1) sc_law_columns.nd (bQ (aa (dj ah) ah)))
 (ae (bK PassesOwn.never rfl (bE K (pr 0)) (cR K (n:=2) rfl (ba (gD (i:=2) sc_law_columns.nd) (ba (gD (i:=3) sc_law_columns.nd) cS)))
 (ae (bM (i:=4) sc_law_columns.nd (bQ ah))
 (ae (bK PassesOwn.never rfl (bE K (pr 1)) (gD (i:=5) sc_law_columns.nd)
 (ai (bK PassesOwn.never rfl (nP rfl T.n_range (aa (pr 2) (aa (aq (vS K) (pr 3) af) ah))) (gD (i:=6) sc_law_columns.nd)
 (ai (bF (bJ K PySem.F.plainAttrs_list PySem.F.slot_list_append PySem.F.type_list_append bT (pr 4) (aa (aq (vS K) (pr 5) (dj (aa (pr 6) ah))) ah)))))))
 (ai (bM (i:=1) sc_law_columns.nd (pr 4))))))
 (ai (aw (pr 1))))),?_⟩
 have hs:sizeLine=16777216:=sizeLine_eq;refine aH (fun Z H'=>∃q:Addr,H q=none/\cO H' q (br [])/\Z=[some (.ref a),some (.ref q),none,none,none,none,none]/\ar H H') ?_ ?_
 ·intro u' hu
  walk_at "r";refine⟨by omega,fun t ht=>⟨by omega,fun q hq=>?_⟩⟩;have s1:=ak (o:=HO.tup []) ht;refine hu _ _ ⟨q,s1.free hq,⟨[t],ag,rfl,fun i p us e1 e2=>?_⟩,rfl,s1.upd hq⟩
  have hi:i=0:=by
   have:=(aa3.mp e1).1
   simp at this;exact this
  subst hi;cases e1;cases e2;exact(ak hq) _ _ ag
 rintro Ω ω _ H1 ⟨q,hq0,hq1,rfl,s1⟩;refine ω _ _ (aH (fun Z H'=>∃(q:Addr) (o2 o3 o4 o5 o6:Option V),H q=none/\cO H' q (br bs)/\Z=[some (.ref a),some (.ref q),o2,o3,o4,o5,o6]/\ar H H') ?_ ?_)
 ·intro u' hu
  walk_at "r";refine bN (s1.seq hts) (cD (xs:=ts.map V.ref) (fun i Z H'=>∃(q:Addr) (o2 o3 o4 o5 o6:Option V),H q=none/\cO H' q (br (bs.take i))/\Z=[some (.ref a),some (.ref q),o2,o3,o4,o5,o6]/\ar H H') ⟨q,none,none,none,none,none,hq0,hq1,rfl,s1⟩ (fun i Z H' _ h=>?_) ?_ ?_)
  ·obtain⟨_,_,_,_,_,_,_,_,_,s'⟩:=h
   exact s'.seq hts
  ·rintro i y Z H2 hy ⟨q,o2,o3,o4,o5,o6,hq0,⟨ps,hq2,hpc⟩,rfl,s2⟩
   rw [aa5]at hy
   cases ht:ts[i]? with
   | none=>rw [ht]at hy;cases hy
   | some t=>
    rw [ht]at hy;cases hy
    have hi:i < bs.length:=by rw [<-htl];exact(aa3.mp ht).1
    have hb:bs[i]?=some bs[i]:=aa1 hi;walk_at "r";refine⟨_,s2.tup (htc i t _ ht hb),rfl,?_⟩;walk_at "r";refine⟨by omega,fun p hp=>?_⟩;have s23:=ak (o:=HO.lst []) hp;have hp3:(upd H2 p (HO.lst [])) p=some (.lst (([]:List Addr).map V.ref)):=ag;generalize upd H2 p (HO.lst [])=H3 at s23 hp3;have ew:wN bs[i]<=400:=ab9 (An hw hb) hc
    have en:ib (bs.take (i+1))=ib (bs.take i) * wN bs[i]:=by
     rw [ac1,hb];exact jS _ _
    have en':=(gs hw (i+1)).2
    have ec:br (bs.take (i+1))=(br (bs.take i)).flatMap (dD bs[i]):=by
     rw [ac1,hb];exact mW _ _
    have ewd:=ic (bs.take i);have ecl:=fq (bs.take i);have hpl:=hpc.1;rw [ec];generalize bs[i]=b at *;generalize br (bs.take i)=cols at *;obtain⟨Pv,hPv⟩:∃Pv:Nat->L2.St->Hp->Prop,Pv=fun j Z H'=>∃(o5 o6:Option V) (ps':List Addr),H' p=some (.lst (ps'.map V.ref))/\fB H' ps' ((cols.take j).flatMap (dD b))/\ar H2 H'/\Z=[some (V.ref a),some (V.ref q),some (V.int b.1),some (V.int b.2),some (V.ref p),o5,o6]:=⟨_,rfl⟩;refine bN (aL.of (s23 _ _ hq2)) (cD (xs:=ps.map V.ref) Pv (by rw [hPv];exact⟨o5,o6,[],hp3,⟨rfl,fun i p us e=>nomatch e⟩,s23,rfl⟩) (fun j Z H' _ h=>?_) ?_ ?_)
    ·rw [hPv]at h
     obtain⟨_,_,_,_,_,s',_⟩:=h;exact aL.of (s' _ _ hq2)
    ·rintro j y Z H4 hy hI
     rw [hPv]at hI;obtain⟨o5,o6,ps',hp4,hT,s24,rfl⟩:=hI;rw [aa5]at hy
     cases hcj:ps[j]? with
     | none=>rw [hcj]at hy;cases hy
     | some c=>
      rw [hcj]at hy;cases hy
      have hj:j < cols.length:=by rw [<-hpl];exact(aa3.mp hcj).1
      have hcc:cols[j]?=some cols[j]:=aa1 hj;have hus:=hpc.2 j c _ hcj hcc;have hul:=ewd _ (ad6 hj)
      have estep:(cols.take (j+1)).flatMap (dD b)=(cols.take j).flatMap (dD b)++dD b cols[j]:=by
       rw [ac1,hcc,List.flatMap_append];simp
      have l1:((cols.take j).flatMap (dD b)).length<=400:=by
       rw [jT (gu b),ac3];refine ab9 (an0 _ (ak1 _ _)) ?_;rw [ecl,<-en];omega
      generalize cols[j]=us at *;generalize(cols.take j).flatMap (dD b)=done1 at *;walk_at "r"
      have ek:(b.2+1 - b.1).toNat=wN b:=by unfold wN;omega
      rw [ek];refine cB (fun m Z H'=>∃(o6:Option V) (ps':List Addr),H' p=some (.lst (ps'.map V.ref))/\fB H' ps' (done1++(dD b us).take m)/\ar H2 H'/\Z=[some (V.ref a),some (V.ref q),some (V.int b.1),some (V.int b.2),some (V.ref p),some (.ref c),o6]) ⟨o6,ps',hp4,by simpa using hT,s24,rfl⟩ ?_ ?_
      ·rintro m Z H5 hm ⟨o6,ps',hp5,hT5,s25,rfl⟩
       have hx:(dD b us)[m]?=some (us++[b.1+(m:Int)]):=by
        unfold dD;rw [aa5,ak4 hm];rfl
       walk_at "r";refine⟨.inl ⟨rfl,_,aL.of hp5⟩,by omega,fun t ht=>?_⟩;have s56:=ak (o:=HO.tup [V.int (b.1+(m:Int))]) ht;have ht2:(upd H5 t (HO.tup [V.int (b.1+(m:Int))])) t=some (.tup [V.int (b.1+(m:Int))]):=ag;generalize upd H5 t (HO.tup [V.int (b.1+(m:Int))])=H6 at s56 ht2;refine sY ((s25.trans s56) _ _ hus) ht2 (by rw [aa0,hul,ac3];simp;omega) fun z H7 s7 hz7=>?_;have s57:=s56.trans s7;have hp7:=s57 _ _ hp5
       have hz:H7 z=some (.tup ((us++[b.1+(m:Int)]).map V.int)):=by rw [hz7,ab4];rfl
       have ll:ps'.length<=800:=by
        rw [hT5.1,ab2,ac3];omega
       refine⟨p,_,_,rfl,rfl,hp7,by rw [aa0];omega,some (.int (b.1+(m:Int))),ps' ++ [z],by rw [ag,ab4];rfl,?_,xO hp (s25.trans s57),rfl⟩;rw [ac1,hx,<-al3];refine((hT5.same s57).append ⟨rfl,fun i p us' e1 e2=>?_⟩).upd hp7
       have hi:i=0:=by
        have:=(aa3.mp e1).1
        simp at this;exact this
       subst hi;cases e1;cases e2;exact hz
      ·rintro Z H5 ⟨o6,ps',hp5,hT5,s25,rfl⟩
       rw [hPv];refine⟨_,_,ps',hp5,?_,s25,rfl⟩;rw [estep];rw [ag2 (by rw [gu];omega)]at hT5;exact hT5
    ·rintro Z H4 hI
     rw [hPv]at hI;obtain⟨o5,o6,ps',hp4,hT,s24,rfl⟩:=hI;rw [aa0,hpl,ac8]at hT;walk_at "r";exact⟨p,s2.free hp,⟨ps',hp4,hT⟩,rfl,s2.trans s24⟩
  ·rintro Z H2 ⟨q,o2,o3,o4,o5,o6,hq0,hq2,rfl,s2⟩
   rw [aa0,htl,ac8]at hq2;exact hu _ _ ⟨q,o2,o3,o4,o5,o6,hq0,hq2,rfl,s2⟩
 rintro Ω ω _ H2 ⟨q,o2,o3,o4,o5,o6,hq0,hq2,rfl,s2⟩;refine ω _ _ ?_;walk_at "r";exact k q H2 hq0 hq2 s2
theorem zf(F:cM K "_law_whole" "_law_whole" iK f fd)(T:Txt mg aM):aN P w K mg base cc 1 f fd ["_law_found"] kz:=by
 refine F.ok rA (fun _ _ _ _ h=>?_) (fun _ A _ s H vs Q E hr h=>?_)
 ·obtain⟨i,rfl,_⟩:=h
  rfl
 obtain⟨i,rfl,q⟩:=h;refine⟨_,(ai (aw (vV (qZ (az (cY K) (by rfl) T.n_isinstance boot_isinstance (aa (pr 0) (aa (i5 (v:=.ty "int") (by rfl) T.n_int boot_int rfl) ah))) (q9 (E2 (Ds (az (cY K) (by rfl) T.n_isinstance boot_isinstance (aa (pr 0) (aa (i5 (v:=.ty "bool") (by rfl) T.n_bool boot_bool rfl) ah)))))))))),?_⟩;walk_at "r";refine⟨_,.int _,true,rfl,?_⟩;rw [if_pos rfl];exact⟨_,.int _,false,rfl,q⟩
def gn(H:Hp)(t:Addr):aE->Prop
 | .plain (.held o m)=>H t=some (.tup [.str "held",.int (o+1),.int m])
 | .plain (.times o nt lw hg)=>H t=some (.tup [.str "times",.int (o+1),.int nt,.int lw,.int hg])
 | .every m a (.span o u D)=>∃i d,H t=some (.tup [.str "every",.int m,.int a,.ref i])/\H i=some (.tup [.str "span",.int (o+1),.int (u+1),.ref d])/\H d=some (.lst (D.map V.int))
 | _=>False
theorem gn.same(s:ar H H'):∀{R:aE},gn H t R->gn H' t R
 | .plain (.held _ _),h=>s _ _ h
 | .plain (.times _ _ _ _),h=>s _ _ h
 | .every _ _ (.span _ _ _),⟨i,d,h1,h2,h3⟩=>⟨i,d,s _ _ h1,s _ _ h2,s _ _ h3⟩
 | .plain (.span _ _ _),h=>h.elim
 | .every _ _ (.held _ _),h=>h.elim
 | .every _ _ (.times _ _ _ _),h=>h.elim
theorem fh(n:Nat)(i:Int):(L2.intsFrom i n).length=n:=by
 unfold L2.intsFrom;rw [aa0,ai2]
theorem jV{x:Int}{i:Int}(h:x∈L2.intsFrom i n):i<=x/\x < i+n:=by
 obtain⟨j,hj,rfl⟩:=ac0.mp h
 have:=ah6.mp hj
 omega
theorem pS(f:α->β):∀(l:List α) (m:Nat),(l.map f).eraseIdx m=(l.eraseIdx m).map f
 | [],_=>rfl
 | _::_,0=>rfl
 | x::l,m+1=>congrArg (f x::·) (pS f l m)
def Bh(b:Int×Int):Prop:=b.1<=b.2/\b.1.natAbs<=10 ^ 36/\b.2 - b.1 < 6
def DL(K:Frag):Sp:=fun vs H Q _=>∃(c:Int) (a:Addr) (bs:List (Int×Int)) (room:Int),vs=[.int c,.ref a,.int room]/\bW K H a bs/\1<=bs.length/\bs.length<=4/\(∀b∈bs,Bh b)/\1<=room/\room<=400/\∀t R H',gn H' t R->cf bs.length R->qK R->1<=bV R->bV R<=room->ar H H'->Q (.ref t) H'
theorem EN(F:cM K "_law_great_rule" "_law_great_rule" eI f fd)(T:Txt mg aM)(D_law_draws:bR P w K mg base "_law_draws" 1 ["_law_cell","_law_many"] ku):aN P w K mg base cc 2 f fd ["_law_cell","_law_ranges_here","_law_room"] (DL K):=by
 refine F.ok sc_law_great_rule (fun _ _ _ _ h=>?_) (fun _ A _ s H vs Q E hr h=>?_)
 ·obtain⟨c,a,bs,room,rfl,_⟩:=h
  rfl
 obtain⟨c,a,bs,room,rfl,⟨ts,hts,htl,htc⟩,b1,b4,hb,r1,r4,k⟩:=h
 refine⟨_,(ae (bM (i:=3) sc_law_great_rule.nd (aD D_law_draws hr (by rfl) (aa (pr 0) (aa af ah))))
 (ae (bM (i:=4) sc_law_great_rule.nd (aq (bz K) af (aq (o1 bc) (ax (aG K) (pr 3) af (fun _ _=>rfl)) (az (aC K) (by rfl) T.n_len boot_len (aa (pr 1) ah)))))
 (ae (lj (ax (aG K) (pr 1) (aq (o0 bZ) (pr 4) af) (fun _ _=>rfl)) (cR K (n:=2) rfl (ba (gD (i:=5) sc_law_great_rule.nd) (ba (gD (i:=6) sc_law_great_rule.nd) cS))))
 (ae (aW (bh (av kX (aq (o1 bc) (aq (o1 cj) (pr 0) af) af) af (aB _))) (ai (aw (dj (aa bD (aa (pr 4) (aa (aq (bz K) af (aq (o1 bc) (ax (aG K) (pr 3) af (fun _ _=>rfl)) (pr 2))) ah)))))) aF)
 (ae (aW (bh (av kX (aq (o1 bc) (aq (o1 cj) (pr 0) af) af) af (aB _))) (ae (bM (i:=7) sc_law_great_rule.nd (aq (o1 bc) (ax (aG K) (pr 3) af (fun _ _=>rfl)) (pr 2)))
 (ai (aw (dj (aa bD (aa (pr 4) (aa (aq (bz K) (pr 5) (aq (o1 bc) (ax (aG K) (pr 3) af (fun _ _=>rfl)) (aq (bz K) (aq (o0 bZ) (pr 6) (pr 5)) af))) (aa (aq (o1 bc) (ax (aG K) (pr 3) af (fun _ _=>rfl)) (aq (bz K) (pr 7) af)) (aa (pr 7) ah))))))))) aF)
 (ae (bM (i:=8) sc_law_great_rule.nd (aq (bz K) af (aq (o1 bc) (ax (aG K) (pr 3) af (fun _ _=>rfl)) (az (aC K) (by rfl) T.n_len boot_len (aa (pr 1) ah)))))
 (ae (lj (ax (aG K) (pr 1) (aq (o0 bZ) (pr 8) af) (fun _ _=>rfl)) (cR K (n:=2) rfl (ba (gD (i:=9) sc_law_great_rule.nd) (ba (gD (i:=10) sc_law_great_rule.nd) cS))))
 (ae (bM (i:=11) sc_law_great_rule.nd (xu rfl (by rfl) T.n_list (by rfl) T.n_range (aa (aq (o0 bZ) (pr 9) (pr 6)) (aa (aq (bz K) (aq (o0 bZ) (pr 10) (pr 5)) af) ah))))
 (ae (aW (PW.pt (fY (bh (av kX (aq (o1 bc) (ax (aG K) (pr 3) af (fun _ _=>rfl)) af) af (aB _))) (fj (bh (av (o0 nK) (az (aC K) (by rfl) T.n_len boot_len (aa (pr 11) ah)) af (aB _)))))) (ai (bF (bJ K PySem.F.plainAttrs_list PySem.F.slot_list_pop PySem.F.type_list_pop yZ (pr 11) (aa (aq (o1 bc) (aq (o1 cj) (ax (aG K) (pr 3) af (fun _ _=>rfl)) af) (az (aC K) (by rfl) T.n_len boot_len (aa (pr 11) ah))) ah)))) aF)
 (ae (bM (i:=12) sc_law_great_rule.nd (aq (bz K) af (aq (o1 bc) (ax (aG K) (pr 3) af (fun _ _=>rfl)) (pr 2))))
 (ai (aw (dj (aa bD (aa (pr 12) (aa (aq (o1 bc) (ax (aG K) (pr 3) af (fun _ _=>rfl)) (pr 12)) (aa (dj (aa bD (aa (pr 4) (aa (pr 8) (aa (pr 11) ah))))) ah))))))))))))))))),?_⟩
 have hs:sizeLine=16777216:=sizeLine_eq;refine aH (fun Z H'=>∃(wa:Addr) (ys:List Int),ys.length=7/\(∀y∈ys,0<=y/\y < 399999)/\H' wa=some (.lst (ys.map V.int))/\Z=[some (.int c),some (.ref a),some (.int room),some (.ref wa),none,none,none,none,none,none,none,none,none]/\ar H H') ?_ ?_
 ·intro u' hu
  walk_at "r";exact⟨_,7,rfl,by decide,fun q ys H' hl hy _ hq s1=>hu _ _ ⟨q,ys,hl,hy,hq,rfl,s1⟩⟩
 rintro Ω ω _ H1 ⟨wa,ys,yl,hy,hw,rfl,s1⟩
 have way:∀{H':Hp} {Q':VK} (i:Nat),ar H1 H'->i < 7->(∀y:Int,0<=y->y < 399999->Q' (.int y) H')->pe K (.ref wa) (.int i) H' Q':=fun {H' Q'} i s' hi q=>by
  have e:ys[i]?=some ys[i]:=aa1 (by omega);exact bG (aL.of (s' _ _ hw)) (aA (by rw [aa5,e];rfl)) (q _ (hy _ (ad6 _)).1 (hy _ (ad6 _)).2)
 have rng:∀{H':Hp} {Q':VK} (v:Int),ar H1 H'->1<=v->v<=bs.length->(∀t b,Bh b->bH K H' t [.int b.1,.int b.2]->Q' (.ref t) H')->pe K (.ref a) (.int (v - 1)) H' Q':=fun {H' Q'} v s' h1 h2 q=>by
  obtain⟨m,hm⟩:∃m:Nat,v - 1=m:=⟨(v - 1).toNat,by omega⟩
  have hl:m < bs.length:=by omega
  have e:ts[m]?=some ts[m]:=aa1 (by omega);rw [hm];exact bG ((s1.trans s').seq hts) (aA (by rw [aa5,e];rfl)) (q _ bs[m] (hb _ (ad6 _)) ((s1.trans s').tup (htc m _ _ e (aa1 hl))))
 refine ω _ _ (aH (fun Z H'=>∃v:Int,1<=v/\v<=bs.length/\Z=[some (.int c),some (.ref a),some (.int room),some (.ref wa),some (.int v),none,none,none,none,none,none,none,none]/\H1=H') ?_ ?_)
 ·intro u' hu
  walk_at "r";refine way 0 (ar.refl _) (by decide) fun y y0 y1=>?_;refine⟨_,.inl (s1.seq hts),y,rfl,?_⟩;rw [aa0,htl];refine⟨by omega,hu _ _ ⟨_,?_,?_,rfl,rfl⟩⟩
  ·have:=ad5 y (show(bs.length:Int)≠0 by omega)
   omega
  ·have:=ad0 y (show 0 < (bs.length:Int)by omega)
   omega
 rintro Ω ω _ _ ⟨v,v1,v2,rfl,rfl⟩;refine ω _ _ (aH (fun Z H'=>∃lo hi:Int,Bh (lo,hi)/\Z=[some (.int c),some (.ref a),some (.int room),some (.ref wa),some (.int v),some (.int lo),some (.int hi),none,none,none,none,none,none]/\H1=H') ?_ ?_)
 ·intro u' hu
  walk_at "r";refine rng v (ar.refl _) v1 v2 fun t b okb ht=>?_;walk_at "r";exact⟨_,ht,rfl,_,_,rfl,_,_,rfl,rfl,hu _ _ ⟨_,_,okb,rfl,rfl⟩⟩
 rintro Ω ω _ _ ⟨lo,hi,⟨l1,l2,l3⟩,rfl,rfl⟩;have n40:=F6;have n36:=Fw;refine ω _ _ ?_;dsimp only at l1 l2 l3;rw [n36]at l2
 have ev:v - 1+1=v:=by omega
 refine aH (fun Z H'=>Z=[some (.int c),some (.ref a),some (.int room),some (.ref wa),some (.int v),some (.int lo),some (.int hi),none,none,none,none,none,none]/\H1=H') ?_ ?_
 ·intro u' hu
  refine ig fun A0 B0 hA hB=>?_;walk_at "r";refine⟨⟨by decide,by decide⟩,by decide,?_⟩
  by_cases h:c / 7 % 3=0
  ·rw [if_pos h]
   refine hA _ ?_;walk_at "r";refine way 1 (ar.refl _) (by decide) fun y y0 y1=>?_;walk_at "r";have z0:=ad5 y (show room≠0 by omega);have z1:=ad0 y (show 0 < room by omega);refine⟨by omega,by omega,fun t ht=>k t (.plain (.held (v - 1) (1+y % room))) _ (by show _=_;rw [ag,ev]) ⟨by omega,by omega,by omega⟩ ⟨fun n hn=>?_,trivial⟩ (by show 1<=1+y % room;omega) (by show 1+y % room<=room;omega) (s1.upd ht)⟩;simp only [b0,aa8,ac2,or_false]at hn;rw [n40]
   rcases hn with rfl | rfl<;>omega
  ·rw [if_neg h]
   exact hB _ (hu _ _ ⟨rfl,rfl⟩)
 rintro Ω ω _ _ ⟨rfl,rfl⟩;refine ω _ _ (aH (fun Z H'=>Z=[some (.int c),some (.ref a),some (.int room),some (.ref wa),some (.int v),some (.int lo),some (.int hi),none,none,none,none,none,none]/\H1=H') ?_ ?_)
 ·intro u' hu
  refine ig fun A0 B0 hA hB=>?_;walk_at "r";refine⟨⟨by decide,by decide⟩,by decide,?_⟩
  by_cases h:c / 7 % 3=1
  ·rw [if_pos h]
   refine hA _ ?_;walk_at "r";refine way 1 (ar.refl _) (by decide) fun y y0 y1=>?_;walk_at "r";have z0:=ad5 y (show room≠0 by omega);have z1:=ad0 y (show 0 < room by omega);generalize y % room=tp at z0 z1;refine⟨by omega,way 2 (ar.refl _) (by decide) fun y2 _ _=>⟨y2,rfl,by omega,way 3 (ar.refl _) (by decide) fun y3 _ _=>⟨y3,rfl,by omega,by omega,fun t ht=>?_⟩⟩⟩;have w0:=ad5 y2 (show hi - lo+1≠0 by omega);have w1:=ad0 y2 (show 0 < hi - lo+1 by omega);have q0:=ad5 y3 (show tp+1≠0 by omega);have q1:=ad0 y3 (show 0 < tp+1 by omega);generalize y2 % (hi - lo+1)=m2 at w0 w1;generalize y3 % (tp+1)=m3 at q0 q1;refine k t (.plain (.times (v - 1) (lo+m2) m3 tp)) _ (by show _=_;rw [ag,ev]) ⟨by omega,by omega,by omega⟩ ⟨fun n hn=>?_,by show 0<=m3;omega⟩ (by show 1<=tp+1;omega) (by show tp+1<=room;omega) (s1.upd ht);simp only [b0,aa8,ac2,or_false]at hn;rw [n40]
   rcases hn with rfl | rfl | rfl | rfl<;>omega
  ·rw [if_neg h]
   exact hB _ (hu _ _ ⟨rfl,rfl⟩)
 rintro Ω ω _ _ ⟨rfl,rfl⟩;refine ω _ _ (aH (fun Z H'=>∃u:Int,1<=u/\u<=bs.length/\Z=[some (.int c),some (.ref a),some (.int room),some (.ref wa),some (.int v),some (.int lo),some (.int hi),none,some (.int u),none,none,none,none]/\H1=H') ?_ ?_)
 ·intro u' hu
  walk_at "r";refine way 4 (ar.refl _) (by decide) fun y y0 y1=>?_;refine⟨_,.inl (s1.seq hts),y,rfl,?_⟩;rw [aa0,htl];refine⟨by omega,hu _ _ ⟨_,?_,?_,rfl,rfl⟩⟩
  ·have:=ad5 y (show(bs.length:Int)≠0 by omega)
   omega
  ·have:=ad0 y (show 0 < (bs.length:Int)by omega)
   omega
 rintro Ω ω _ _ ⟨u,u1,u2,rfl,rfl⟩;refine ω _ _ (aH (fun Z H'=>∃fi la:Int,Bh (fi,la)/\Z=[some (.int c),some (.ref a),some (.int room),some (.ref wa),some (.int v),some (.int lo),some (.int hi),none,some (.int u),some (.int fi),some (.int la),none,none]/\H1=H') ?_ ?_)
 ·intro u' hu
  walk_at "r";refine rng u (ar.refl _) u1 u2 fun t b okb ht=>?_;walk_at "r";exact⟨_,ht,rfl,_,_,rfl,_,_,rfl,rfl,hu _ _ ⟨_,_,okb,rfl,rfl⟩⟩
 rintro Ω ω _ _ ⟨fi,la,⟨f1,f2,f3⟩,rfl,rfl⟩;refine ω _ _ ?_;dsimp only at f1 f2 f3;rw [n36]at f2;refine aH (fun Z H'=>∃(d:Addr) (D:List Int),H1 d=none/\H' d=some (.lst (D.map V.int))/\1<=D.length/\D.length<=12/\(∀x∈D,x.natAbs < 10 ^ 40)/\Z=[some (.int c),some (.ref a),some (.int room),some (.ref wa),some (.int v),some (.int lo),some (.int hi),none,some (.int u),some (.int fi),some (.int la),some (.ref d),none]/\ar H1 H') ?_ ?_
 ·intro u' hu
  walk_at "r";refine⟨by omega,fun d hd=>hu _ _ ⟨d,_,hd,ag,?_,?_,fun x hx=>?_,rfl,ak hd⟩⟩
  ·rw [fh];omega
  ·rw [fh];omega
  ·have:=jV hx
   rw [n40];omega
 rintro Ω ω _ H2 ⟨d,D,hd0,hd,D1,D2,hD,rfl,s2⟩;refine ω _ _ (aH (fun Z H'=>∃(D:List Int),H' d=some (.lst (D.map V.int))/\1<=D.length/\D.length<=12/\(∀x∈D,x.natAbs < 10 ^ 40)/\Z=[some (.int c),some (.ref a),some (.int room),some (.ref wa),some (.int v),some (.int lo),some (.int hi),none,some (.int u),some (.int fi),some (.int la),some (.ref d),none]/\ar H1 H') ?_ ?_)
 ·intro u' hu
  refine ig fun A0 B0 hA hB=>?_;have no:B0 H2:=hB _ (hu _ _ ⟨D,hd,D1,D2,hD,rfl,s2⟩);walk_at "r";refine way 5 s2 (by decide) fun y y0 y1=>⟨y,rfl,by decide,?_⟩
  by_cases h:y % 3=0
  ·rw [if_pos h]
   refine⟨_,.inl (aL.of hd),?_⟩;rw [aa0]
   by_cases h2:1 < (D.length:Int)
   ·rw [if_pos h2]
    refine hA _ ?_;walk_at "r";refine⟨.inl ⟨rfl,_,aL.of hd⟩,way 5 s2 (by decide) fun z z0 z1=>⟨z,rfl,⟨by decide,by decide⟩,_,.inl (aL.of hd),?_⟩⟩;rw [aa0];have q0:=ad5 (z / 3) (show(D.length:Int)≠0 by omega);have q1:=ad0 (z / 3) (show 0 < (D.length:Int)by omega);obtain⟨m,hm⟩:∃m:Nat,z / 3 % (D.length:Int)=m:=⟨(z / 3 % (D.length:Int)).toNat,by omega⟩;rw [hm]at q0 q1 |-
    have hml:m < D.length:=by omega
    refine⟨by omega,d,_,_,m,.int D[m],rfl,rfl,hd,by omega,by omega,?_,by rw [aa5,aa1 hml];rfl,hu _ _ ⟨D.eraseIdx m,by rw [ag,pS],?_,?_,fun x hx=>hD x (List.mem_of_mem_eraseIdx hx),rfl,xO hd0 s2⟩⟩
    ·unfold seqIndex?
     rw [aa0];simp only [show ¬((m:Int) < 0)by omega,if_false,q0,q1,decide_true,Bool.and_self,if_true,ae4]
    ·rw [List.length_eraseIdx,if_pos hml]
     omega
    ·rw [List.length_eraseIdx,if_pos hml]
     omega
   ·rw [if_neg h2]
    exact no
  ·rw [if_neg h]
   exact no
 clear hd D1 D2 hD s2;clear D H2;rintro Ω ω _ H2 ⟨D,hd,D1,D2,hD,rfl,s2⟩;refine ω _ _ (aH (fun Z H'=>∃bt:Int,1<=bt/\bt<=room/\Z=[some (.int c),some (.ref a),some (.int room),some (.ref wa),some (.int v),some (.int lo),some (.int hi),none,some (.int u),some (.int fi),some (.int la),some (.ref d),some (.int bt)]/\H2=H') ?_ ?_)
 ·intro u' hu
  walk_at "r";refine way 1 s2 (by decide) fun y y0 y1=>?_;walk_at "r";have z0:=ad5 y (show room≠0 by omega);have z1:=ad0 y (show 0 < room by omega);exact⟨by omega,hu _ _ ⟨_,by omega,by omega,rfl,rfl⟩⟩
 rintro Ω ω _ _ ⟨bt,t1,t2,rfl,rfl⟩;refine ω _ _ ?_;walk_at "r";refine way 6 s2 (by decide) fun y y0 y1=>?_;walk_at "r";have z0:=ad5 y (show bt≠0 by omega);have z1:=ad0 y (show 0 < bt by omega);generalize y % bt=ph at z0 z1;refine⟨by omega,by omega,fun i hi0=>⟨by omega,fun t ht=>?_⟩⟩;have s3:=(ak hi0 (o:=.tup [.str "span",.int v,.int u,.ref d])).upd (o:=.tup [.str "every",.int bt,.int ph,.ref i]) ht;refine k t (.every bt ph (.span (v - 1) (u - 1) D)) _ ⟨i,d,ag,?_,s3 _ _ hd⟩ ⟨⟨by omega,by omega,by omega,by omega⟩,trivial,by omega,by omega,by omega⟩ ⟨⟨fun n hn=>?_,D1,D2⟩,by rw [n40];omega,by rw [n40];omega⟩ t1 t2 ((s1.trans s2).trans s3)
 ·rw [ev,show u - 1+1=u by omega,aj (au ag ht)]
  exact ag
 ·rcases aa8.mp hn with rfl | hn
  ·rw [n40];omega
  rcases aa8.mp hn with rfl | hn
  ·rw [n40];omega
  ·exact hD n hn
def fV(H:Hp)(q:Addr)(Rs:List aE):Prop:=∃ps:List Addr,H q=some (.lst (ps.map V.ref))/\ps.length=Rs.length/\∀(i:Nat) (p:Addr) (R:aE),ps[i]?=some p->Rs[i]?=some R->gn H p R
theorem fV.same{Rs:List aE}(h:fV H q Rs)(s:ar H H'):fV H' q Rs:=by
 obtain⟨ps,h1,h2,h3⟩:=h;exact⟨ps,s _ _ h1,h2,fun i p R e1 e2=>(h3 i p R e1 e2).same s⟩
theorem rK(h:H t=some (.tup xs))(hq:H q=some (.lst ys)):t≠q:=fun e=>by
 rw [e,hq]at h;cases h
theorem gn.upd{xs:List Addr}(hq:H q=some (.lst (xs.map V.ref))):∀{R:aE},qK R->gn H t R->gn (upd H q (.lst ys)) t R
 | .plain (.held _ _),_,h=>(aj (rK h hq)).trans h
 | .plain (.times _ _ _ _),_,h=>(aj (rK h hq)).trans h
 | .every _ _ (.span _ _ _),ok,⟨i,d,h1,h2,h3⟩=>⟨i,d,(aj (rK h1 hq)).trans h1,(aj (rK h2 hq)).trans h2,(aj (vN ok.1.2.1 h3 hq)).trans h3⟩
 | .plain (.span _ _ _),_,h=>h.elim
 | .every _ _ (.held _ _),_,h=>h.elim
 | .every _ _ (.times _ _ _ _),_,h=>h.elim
def Ef(nv:Nat)(R:aE):Prop:=cf nv R/\qK R/\1<=bV R
theorem i8(bs:List (Int×Int))(Rs:List aE)(R:aE):dB bs (Rs++[R])=dB bs Rs * bV R:=by
 unfold dB;rw [ai1];rfl
def zR(K:Frag):Sp:=fun vs H Q _=>∃(l a:Addr) (ns:List Int) (bs:List (Int×Int)) (cap:Int),vs=[.ref l,.ref a,.int cap]/\aL K H l (ns.map V.int)/\bW K H a bs/\1<=bs.length/\bs.length<=4/\(∀b∈bs,Bh b)/\(ib bs:Int)<=cap/\cap<=400/\∀q Rs H',fV H' q Rs->1<=Rs.length->Rs.length<=3->(∀R∈Rs,Ef bs.length R)->dB bs Rs<=cap->H q=none->ar H H'->Q (.ref q) H'
theorem Di(F:cM K "_law_great_rules" "_law_great_rules" dW f fd)(T:Txt mg aM)(D_law_columns:bR P w K mg base "_law_columns" 2 ["_law_ranges_here"] (rE K))(D_law_at:bR P w K mg base "_law_at" 2 ["_law_script","_law_k"] (zP K))(D_law_great_rule:bR P w K mg base "_law_great_rule" 2 ["_law_cell","_law_ranges_here","_law_room"] (DL K)):aN P w K mg base cc 3 f fd ["_law_script","_law_ranges_here","_law_cap"] (zR K):=by
 refine F.ok sc_law_great_rules (fun _ _ _ _ h=>?_) (fun _ A _ s H vs Q E hr h=>?_)
 ·obtain⟨l,a,ns,bs,cap,rfl,_⟩:=h
  rfl
 obtain⟨l,a,ns,bs,cap,rfl,hS,hR,b1,b4,hb,hc,c4,k⟩:=h
 refine⟨_,(ae (bM (i:=3) sc_law_great_rules.nd (az (aC K) (by rfl) T.n_len boot_len (aa (aD D_law_columns hr (by rfl) (aa (pr 1) ah)) ah)))
 (ae (bM (i:=4) sc_law_great_rules.nd (bQ ah))
 (ae (bK PassesOwn.never rfl (c9 rfl T.n_range (aa (aq (bz K) af (aq (o1 bc) (aD D_law_at hr (by rfl) (aa (pr 0) (aa af ah))) af)) ah)) (gD (i:=5) sc_law_great_rules.nd)
 (ae (bM (i:=6) sc_law_great_rules.nd (aD D_law_great_rule hr (by rfl) (aa (aD D_law_at hr (by rfl) (aa (pr 0) (aa (aq (bz K) af (pr 5)) ah))) (aa (pr 1) (aa (aq (o1 cj) (pr 2) (pr 3)) ah)))))
 (ae (aW (bh (av kX (ax (aG K) (pr 6) af (fun _ _=>rfl)) bD (aB _))) (ai (bM (i:=3) sc_law_great_rules.nd (aq (gI K) (pr 3) (aq (bz K) (ax (aG K) (pr 6) af (fun _ _=>rfl)) af)))) (ai (aW (bh (av kX (ax (aG K) (pr 6) af (fun _ _=>rfl)) bD (aB _))) (ai (bM (i:=3) sc_law_great_rules.nd (aq (gI K) (pr 3) (ax (aG K) (pr 6) af (fun _ _=>rfl))))) (ai (bM (i:=3) sc_law_great_rules.nd (aq (gI K) (pr 3) (ax (aG K) (pr 6) af (fun _ _=>rfl))))))))
 (ai (bF (bJ K PySem.F.plainAttrs_list PySem.F.slot_list_append PySem.F.type_list_append bT (pr 4) (aa (pr 6) ah)))))))
 (ai (aw (pr 4)))))),?_⟩
 have hs:sizeLine=16777216:=sizeLine_eq
 have hw1:∀b∈bs,1<=wN b:=fun b h=>by
  have:=(hb b h).1
  unfold wN;omega
 have ec:rL bs=(ib bs:Int):=mP fun b h=>(hb b h).1
 have c1:1<=ib bs:=by
  have:=(gs hw1 bs.length).1
  rwa [ac8]at this
 refine aH (fun Z H'=>Z=[some (.ref l),some (.ref a),some (.int cap),some (.int (ib bs)),none,none,none]/\ar H H') ?_ ?_
 ·intro u' hu
  walk_at "r";refine⟨a,bs,rfl,hR,b4,hw1,by omega,fun q H1 _ hq s1=>?_⟩;obtain⟨ps,hps,hpl⟩:=hq;walk_at "r";refine⟨_,.inl (aL.of hps),?_⟩;rw [aa0,hpl.1,fq];exact hu _ _ ⟨rfl,s1⟩
 rintro Ω ω _ H1 ⟨rfl,s1⟩;refine ω _ _ (aH (fun Z H'=>∃q:Addr,H q=none/\H' q=some (.lst [])/\Z=[some (.ref l),some (.ref a),some (.int cap),some (.int (ib bs)),some (.ref q),none,none]/\ar H H') ?_ ?_)
 ·intro u' hu
  walk_at "r";exact⟨by omega,fun q hq=>hu _ _ ⟨q,s1.free hq,ag,rfl,s1.upd hq⟩⟩
 clear s1;clear H1;rintro Ω ω _ H1 ⟨q,hq0,hq1,rfl,s1⟩;obtain⟨Pv,hPv⟩:∃Pv:Nat->L2.St->Hp->Prop,Pv=fun i Z H'=>∃(Rs:List aE) (ps:List Addr) (o5 o6:Option V),Rs.length=i/\ps.length=i/\H' q=some (.lst (ps.map V.ref))/\(∀(j:Nat) (p:Addr) (R:aE),ps[j]?=some p->Rs[j]?=some R->gn H' p R)/\(∀R∈Rs,Ef bs.length R)/\1<=dB bs Rs/\dB bs Rs<=cap/\Z=[some (.ref l),some (.ref a),some (.int cap),some (.int (dB bs Rs)),some (.ref q),o5,o6]/\ar H H':=⟨_,rfl⟩;refine ω _ _ (aH (fun Z H'=>∃i,1<=i/\i<=3/\Pv i Z H') ?_ ?_)
 ·intro u' hu
  walk_at "r";refine⟨l,ns,3,rfl,s1.seq hS,by decide,by decide,?_⟩;walk_at "r";have g0:=ad5 (wq ns 3) (show(3:Int)≠0 by decide);have g1:=ad0 (wq ns 3) (show 0 < (3:Int)by decide);generalize wq ns 3 % 3=g at g0 g1;refine⟨by decide,by omega,by omega,cB Pv (by rw [hPv];exact⟨[],[],none,none,rfl,rfl,hq1,fun j p R e=>(by cases e),fun _ h=>(nomatch h),by show 1<=rL bs;omega,by show rL bs<=cap;omega,by show _=[_,_,_,some (V.int (rL bs)),_,_,_];rw [ec],s1⟩) ?_ ?_⟩
  ·clear s1 hq1
   clear H1;intro i Z H1 hi hI;rw [hPv]at hI;obtain⟨Rs,ps,o5,o6,rl,pl,hq1,hrc,hok,w1,w2,rfl,s1⟩:=hI
   have i3:i < 3:=by omega
   have hW:∀W:Int,1<=W->W<=cap->1<=cap / W/\cap / W<=400/\W * (cap / W)<=cap:=fun W h1 h2=>by
    have e1:1<=cap / W:=(Int.le_ediv_iff_mul_le (by omega)).mpr (by omega);have e2:W * (cap / W)<=cap:=Int.mul_ediv_self_le (by omega);refine⟨e1,?_,e2⟩
    have:=am4 h1 (show 0<=cap / W by omega)
    omega
   obtain⟨r1,r4,rW⟩:=hW _ w1 w2;refine aH (fun Z H'=>∃(o5:Option V) (t:Addr) (R:aE),gn H' t R/\Ef bs.length R/\bV R<=cap / dB bs Rs/\Z=[some (.ref l),some (.ref a),some (.int cap),some (.int (dB bs Rs)),some (.ref q),o5,some (.ref t)]/\ar H1 H') ?_ ?_
   ·intro u2 ee
    walk_at "r";refine⟨l,ns,_,rfl,s1.seq hS,by omega,by omega,?_⟩;walk_at "r";refine⟨⟨by omega,by omega⟩,_,a,bs,_,rfl,hR.same s1,b1,b4,hb,r1,r4,fun t R H2 h1 h2 h3 h4 h5 s2=>ee _ _ ⟨_,t,R,h1,⟨h2,h3,h4⟩,h5,rfl,s2⟩⟩
   rintro Ω ω _ H2 ⟨o5,t,R,hT,okR,szR,rfl,s2⟩;have wS:dB bs Rs * bV R<=cap:=af1 (Int.mul_le_mul_of_nonneg_left szR (by omega)) rW
   have wP:1<=dB bs Rs * bV R:=by
    have:=Int.mul_le_mul w1 okR.2.2 (by decide) (by omega)
    omega
   refine ω _ _ (aH (fun Z H'=>Z=[some (.ref l),some (.ref a),some (.int cap),some (.int (dB bs Rs * bV R)),some (.ref q),o5,some (.ref t)]/\H2=H') ?_ ?_)
   ·intro u2 ee
    have z1:=okR.2.2;have mok:IntMulOk (dB bs Rs) (bV R):=IntMulOk.of_le (m:=20) (n:=20) (intBits_le_iff.mpr (by omega)) (intBits_le_iff.mpr (by omega)) (by decide);walk_at "r"
    cases R with
    | plain R=>
     cases R with
     | span o u D=>exact hT.elim
     | held o m=>
      have g:=bH.of (K:=K) hT;refine aR g (aP rfl) ?_;walk_at "r";refine aR g (aP rfl) ?_;walk_at "r";refine aR g (show dC _ ((2:Nat):Int)=_ from aA rfl) ?_;walk_at "r";exact⟨mok,ee _ _ ⟨rfl,rfl⟩⟩
     | times o nt lw hg=>
      have g:=bH.of (K:=K) hT;refine aR g (aP rfl) ?_;walk_at "r";refine aR g (show dC _ ((4:Nat):Int)=_ from aA rfl) ?_;walk_at "r";exact⟨mok,ee _ _ ⟨rfl,rfl⟩⟩
    | every m ph R=>
     cases R with
     | held _ _=>exact hT.elim
     | times _ _ _ _=>exact hT.elim
     | span o u D=>
      obtain⟨_,_,g,_⟩:=hT;have g:=bH.of (K:=K) g;refine aR g (aP rfl) ?_;walk_at "r";refine aR g (aP rfl) ?_;walk_at "r";refine aR g (show dC _ ((1:Nat):Int)=_ from aA rfl) ?_;walk_at "r";exact⟨mok,ee _ _ ⟨rfl,rfl⟩⟩
   rintro Ω ω _ _ ⟨rfl,rfl⟩;refine ω _ _ ?_;walk_at "r";have hq2:=s2 _ _ hq1;refine⟨.inl ⟨rfl,_,aL.of hq2⟩,q,_,_,rfl,rfl,hq2,by rw [aa0];omega,?_⟩;rw [hPv];refine⟨Rs++[R],ps++[t],_,_,by rw [ab2,rl];rfl,by rw [ab2,pl];rfl,by rw [ag,ab4];rfl,fun j p R' e1 e2=>?_,fun R' hR'=>?_,by rw [i8];exact wP,by rw [i8];exact wS,by rw [i8],xO hq0 (s1.trans s2)⟩
   ·by_cases hj:j < ps.length
    ·rw [ab5 hj]at e1
     rw [ab5 (by omega)]at e2;exact((hrc j p R' e1 e2).same s2).upd hq2 (hok R' (ac5 e2)).2.1
    ·rw [ac4 (by omega)]at e1
     rw [ac4 (by omega),rl,<-pl]at e2
     have ej:j=ps.length:=by
      have:=(aa3.mp e1).1
      simp at this;omega
     rw [ej,ai3]at e1 e2;cases e1;cases e2;exact hT.upd hq2 okR.2.1
   ·rcases ac9.mp hR' with h | h
    ·exact hok R' h
    ·rw [ab6.mp h]
     exact okR
  ·intro Z H2 hI
   exact hu _ _ ⟨_,by omega,by omega,hI⟩
 rintro Ω ω Z H2 ⟨i,i1,i3,hI⟩;rw [hPv]at hI;obtain⟨Rs,ps,o5,o6,rl,pl,hq2,hrc,hok,w1,w2,rfl,s2⟩:=hI;refine ω _ _ ?_;walk_at "r";exact k q Rs H2 ⟨ps,hq2,by omega,hrc⟩ (by omega) (by omega) hok w2 hq0 s2
theorem Cb(bs:List (Int×Int))(h:∀b∈bs,(fR b).natAbs < 2 ^ 200)(Rs:List aE)(hR:∀R∈Rs,(bV R).natAbs < 2 ^ 200):(dB bs Rs).natAbs < 2 ^ (1+200 * bs.length+200 * Rs.length):=mF bV Rs (rL bs) _ (vA h) hR
def zU(K:Frag):Sp:=fun vs H Q _=>∃(a q:Addr) (bs:List (Int×Int)) (Rs:List aE),vs=[.ref a,.ref q]/\bW K H a bs/\fV H q Rs/\bs.length<=4/\(∀b∈bs,Bh b)/\ib bs<=400/\Rs.length<=3/\(∀R∈Rs,(bV R).natAbs < 2 ^ 200)/\∀H',ar H H'->Q (.int (dB bs Rs)) H'
theorem Dk(F:cM K "_law_weight" "_law_weight" gW f fd)(T:Txt mg aM)(D_law_columns:bR P w K mg base "_law_columns" 1 ["_law_ranges_here"] (rE K)):aN P w K mg base cc 2 f fd ["_law_ranges_here","_law_rules"] (zU K):=by
 refine F.ok sc_law_weight (fun _ _ _ _ h=>?_) (fun _ A _ s H vs Q E hr h=>?_)
 ·obtain⟨a,q,bs,Rs,rfl,_⟩:=h
  rfl
 obtain⟨a,q,bs,Rs,rfl,hR,⟨ps,hps,hpl,hpc⟩,b4,hb,hc,r3,hsz,k⟩:=h
 refine⟨_,(ae (bM (i:=2) sc_law_weight.nd (az (aC K) (by rfl) T.n_len boot_len (aa (aD D_law_columns hr (by rfl) (aa (pr 0) ah)) ah)))
 (ae (bK PassesOwn.never rfl (bE K (pr 1)) (gD (i:=3) sc_law_weight.nd)
 (ai (aW (bh (av kX (ax (aG K) (pr 3) af (fun _ _=>rfl)) bD (aB _))) (ai (bM (i:=2) sc_law_weight.nd (aq (gI K) (pr 2) (aq (bz K) (ax (aG K) (pr 3) af (fun _ _=>rfl)) af)))) (ai (aW (bh (av kX (ax (aG K) (pr 3) af (fun _ _=>rfl)) bD (aB _))) (ai (bM (i:=2) sc_law_weight.nd (aq (gI K) (pr 2) (ax (aG K) (pr 3) af (fun _ _=>rfl))))) (ai (bM (i:=2) sc_law_weight.nd (aq (gI K) (pr 2) (ax (aG K) (pr 3) af (fun _ _=>rfl))))))))))
 (ai (aw (pr 2))))),?_⟩
 have hs:sizeLine=16777216:=sizeLine_eq
 have hw1:∀b∈bs,1<=wN b:=fun b h=>by
  have:=(hb b h).1
  unfold wN;omega
 have ec:rL bs=(ib bs:Int):=mP fun b h=>(hb b h).1;refine aH (fun Z H'=>Z=[some (.ref a),some (.ref q),some (.int (rL bs)),none]/\ar H H') ?_ ?_
 ·intro u' hu
  walk_at "r";refine⟨a,bs,rfl,hR,b4,hw1,by omega,fun q H1 _ hq s1=>?_⟩;obtain⟨ps,hps,hpl⟩:=hq;walk_at "r";refine⟨_,.inl (aL.of hps),?_⟩;rw [aa0,hpl.1,fq,<-ec];exact hu _ _ ⟨rfl,s1⟩
 rintro Ω ω _ H1 ⟨rfl,s1⟩;have hps1:=s1 _ _ hps;obtain⟨Pv,hPv⟩:∃Pv:Nat->L2.St->Hp->Prop,Pv=fun i Z H'=>∃o3:Option V,Z=[some (.ref a),some (.ref q),some (.int (dB bs (Rs.take i))),o3]/\H1=H':=⟨_,rfl⟩;refine ω _ _ (aH (fun Z H'=>Pv Rs.length Z H') ?_ ?_)
 ·intro u' hu
  walk_at "r";refine bN (aL.of hps1) (cD (xs:=ps.map V.ref) Pv (by rw [hPv];exact⟨none,rfl,rfl⟩) (fun i Z H' _ z=>by rw [hPv]at z;obtain⟨_,_,rfl⟩:=z;exact aL.of hps1) ?_ ?_)
  ·intro i y Z H' hy hI
   rw [hPv]at hI;obtain⟨o3,rfl,rfl⟩:=hI;rw [aa5]at hy
   cases ht:ps[i]? with
   | none=>rw [ht]at hy;cases hy
   | some t=>
    rw [ht]at hy;cases hy
    have hi:i < Rs.length:=by rw [<-hpl];exact(aa3.mp ht).1
    have hRi:Rs[i]?=some Rs[i]:=aa1 hi;have hT:=(hpc i t _ ht hRi).same s1
    have eP:Pv (i+1) [some (.ref a),some (.ref q),some (.int (dB bs (Rs.take i) * bV Rs[i])),some (.ref t)] H1:=by
     rw [hPv];exact⟨some (.ref t),by rw [ac1,hRi,ak9,i8],rfl⟩
    have mok:IntMulOk (dB bs (Rs.take i)) (bV Rs[i]):=uu (Cb bs (fun b h=>?_) (Rs.take i) fun R h=>hsz R (af3 h)) (hsz _ (ad6 hi)) (by rw [ac3];omega)
    rotate_left
    ·have:=hb b h
     obtain⟨h1,_,h3⟩:=this;unfold fR;exact ab0 (m:=2 ^ 10) (by omega) (ah3 (by decide) (by decide))
    clear hRi;generalize Rs[i]=R at hT eP mok;walk_at "r"
    cases R with
    | plain R=>
     cases R with
     | span o u D=>exact hT.elim
     | held o m=>
      have g:=bH.of (K:=K) hT;refine aR g (aP rfl) ?_;walk_at "r";refine aR g (aP rfl) ?_;walk_at "r";refine aR g (show dC _ ((2:Nat):Int)=_ from aA rfl) ?_;walk_at "r";exact⟨mok,eP⟩
     | times o nt lw hg=>
      have g:=bH.of (K:=K) hT;refine aR g (aP rfl) ?_;walk_at "r";refine aR g (show dC _ ((4:Nat):Int)=_ from aA rfl) ?_;walk_at "r";exact⟨mok,eP⟩
    | every m ph R=>
     cases R with
     | held _ _=>exact hT.elim
     | times _ _ _ _=>exact hT.elim
     | span o u D=>
      obtain⟨_,_,g,_⟩:=hT;have g:=bH.of (K:=K) g;refine aR g (aP rfl) ?_;walk_at "r";refine aR g (aP rfl) ?_;walk_at "r";refine aR g (show dC _ ((1:Nat):Int)=_ from aA rfl) ?_;walk_at "r";exact⟨mok,eP⟩
  ·intro Z H' hI
   rw [aa0,hpl]at hI;exact hu _ _ hI
 intro Ω ω;intro Z H2 hI;rw [hPv]at hI;obtain⟨o3,rfl,rfl⟩:=hI;refine ω _ _ ?_;walk_at "r";rw [ac8];exact k _ s1
def eY(cols:List (List Int))(R:aE):Option Nat:=match aT (fun i=>eS cols i R) 0 cols.length with | some j=>some j | none=>if uD cols R=true then some cols.length else none
theorem gB{R:aE}(hg:cf nv R):fX cols R=eY cols R:=by
 have h:=(mO nv cols R hg).go cols.length 0 (by omega);have hc:=rV nv cols R hg cols.length (aa9 _);rw [ac8]at hc;unfold fX eY;rw [<-(mO nv cols R hg).m0,List.drop_zero,hc]at h;show ja (aU R) (aU R).start (dn cols 0) 0 cols=_;rw [h]
 cases aT (fun i=>eS cols i R) 0 cols.length with
 | some j=>rfl
 | none=>
  cases uD cols R with
  | true=>rfl
  | false=>rfl
def lM(K:Frag):Sp:=fun vs H Q _=>∃(p l:Addr) (lo hi:Int) (v nv:Nat) (cols:List (List Int)),vs=[.ref p,.int v,.ref l]/\bH K H p [.int lo,.int hi]/\eW K H l nv cols/\v < nv/\cols.length<=1000/\Q (lW (aT (fun i=>!(decide (lo<=aY (cols.getD i []) ((v:Int)+1)) && decide (aY (cols.getD i []) ((v:Int)+1)<=hi))) 0 cols.length)) H
def cL(K:Frag)(ok:aE->Prop):Sp:=fun vs H Q _=>∃(t l:Addr) (R:aE) (nv:Nat) (cols:List (List Int)),vs=[.ref t,.ref l]/\gn H t R/\ok R/\cf nv R/\eW K H l nv cols/\cols.length<=1000/\Q (lW (eY cols R)) H
theorem mV{i:Int}(h:eW K H l nv cols)(h0:0<=i)(h1:i < cols.length)(q:∀c,bH K H c ((cols.getD i.toNat []).map V.int)->(cols.getD i.toNat []).length=nv->Q (.ref c) H):pe K (.ref l) (.int i) H Q:=by
 obtain⟨ps,hps,hpl,hpc⟩:=h;obtain⟨j,rfl⟩:=ae9 h0
 have hj:j < cols.length:=by omega
 have e2:cols[j]?=some cols[j]:=aa1 hj;have e1:ps[j]?=some ps[j]:=aa1 (by omega);obtain⟨g1,g2⟩:=hpc j _ _ e1 e2
 have eg:cols.getD (j:Int).toNat []=cols[j]:=by rw [ae4,ab8,e2];rfl
 rw [eg]at q;exact bG hps (aA (by rw [aa5,e1];rfl)) (q _ g1 g2)
theorem sP(F:cM K "_law_range_at" "_law_range_at" fO f fd)(T:Txt mg aM):aN P w K mg base cc 1 f fd ["_law_pair","_law_voice","_law_line"] (lM K):=by
 refine F.ok sc_law_range_at (fun _ _ _ _ h=>?_) (fun _ A _ s H vs Q E hr h=>?_)
 ·obtain⟨p,l,lo,hi,v,nv,cols,rfl,_⟩:=h
  rfl
 obtain⟨p,l,lo,hi,v,nv,cols,rfl,hp,⟨ps,hps,hpl,hpc⟩,hv,lc,q⟩:=h
 refine⟨_,(ae (bK PassesOwn.never rfl (c9 rfl T.n_range (aa (az (aC K) (by rfl) T.n_len boot_len (aa (pr 2) ah)) ah)) (gD (i:=3) sc_law_range_at.nd)
 (ai (aW (cI (bh (iy (o0 gz) (o0 gz) (ax (aG K) (pr 0) af (fun _ _=>rfl)) (ax (aG K) (ax (aG K) (pr 2) (pr 3) (fun _ _=>rfl)) (pr 1) (fun _ _=>rfl)) (ax (aG K) (pr 0) af (fun _ _=>rfl))))) (ai (aw (pr 3))) aF)))
 (ai (aw aV))),?_⟩
 generalize hB:(fun i=>!(decide (lo<=aY (cols.getD i []) ((v:Int)+1)) && decide (aY (cols.getD i []) ((v:Int)+1)<=hi)))=B at q;walk_at "r";refine⟨_,.inl hps,?_⟩;rw [aa0,hpl];refine⟨by omega,by omega,cB (fun i Z H'=>∃o3,aT B 0 cols.length=aT B i (cols.length - i)/\Z=[some (.ref p),some (.int v),some (.ref l),o3]/\H=H') ⟨none,rfl,rfl,rfl⟩ ?_ ?_⟩
 ·rintro i Z H' hl ⟨o3,e,rfl,rfl⟩
  have hi':i < cols.length:=by omega
  have eB:B i=!(decide (lo<=aY (cols.getD i []) ((v:Int)+1)) && decide (aY (cols.getD i []) ((v:Int)+1)<=hi)):=by rw [<-hB]
  rw [show cols.length - i=cols.length - (i+1)+1 by omega,aT]at e;walk_at "r";refine aR hp (aP rfl) (A9 hps hpl hpc (by omega) (by omega) (by omega) (by omega) ?_);rw [ae4];generalize aY (cols.getD i []) ((v:Int)+1)=n at eB |-;walk_at "r"
  by_cases h1:lo<=n
  ·rw [if_pos h1]
   refine aR hp (show dC _ ((1:Nat):Int)=_ from aA rfl) ?_;walk_at "r"
   by_cases h2:n<=hi
   ·rw [if_pos h2]
    rw [decide_eq_true h1,decide_eq_true h2]at eB;rw [if_neg (by rw [eB];exact aa6)]at e;exact e
   ·rw [if_neg h2]
    rw [decide_eq_true h1,decide_eq_false h2]at eB;rw [if_pos (by rw [eB];rfl)]at e;rw [e]at q;exact q
  ·rw [if_neg h1]
   rw [decide_eq_false h1]at eB;rw [if_pos (by rw [eB];rfl)]at e;rw [e]at q;exact q
 ·rintro Z H' ⟨o3,e,rfl,rfl⟩
  walk_at "r";rw [show cols.length - (cols.length:Int).toNat=0 by omega,aT]at e;rw [e]at q;exact q
theorem uy(F:cM K "_law_held_at" "_law_held_at" gd f fd)(T:Txt mg aM):aN P w K mg base cc 1 f fd ["_law_rule","_law_line"] (cL K fun R=>∃o m,R=.plain (.held o m)):=by
 refine F.ok sc_law_held_at (fun _ _ _ _ h=>?_) (fun _ A _ s H vs Q E hr h=>?_)
 ·obtain⟨t,l,R,nv,cols,rfl,_⟩:=h
  rfl
 obtain⟨t,l,_,nv,cols,rfl,hT,⟨o,m,rfl⟩,⟨q0,q1,m1⟩,LL,lc,q⟩:=h;obtain⟨ps,hps,hpl,hpc⟩:=id LL
 refine⟨_,(ae (bM (i:=2) sc_law_held_at.nd af)
 (ae (bK PassesOwn.never rfl (c9 rfl T.n_range (aa (az (aC K) (by rfl) T.n_len boot_len (aa (pr 1) ah)) ah)) (gD (i:=3) sc_law_held_at.nd)
 (ae (bM (i:=2) sc_law_held_at.nd (aq (bz K) (pr 2) af))
 (ae (aW (PW.pt (fY (bh (av (o0 nK) (pr 3) af (aB _))) (fj (bh (av Av (ax (aG K) (ax (aG K) (pr 1) (pr 3) (fun _ _=>rfl)) (aq (o0 bZ) (ax (aG K) (pr 0) af (fun _ _=>rfl)) af) (fun _ _=>rfl)) (ax (aG K) (ax (aG K) (pr 1) (aq (o0 bZ) (pr 3) af) (fun _ _=>rfl)) (aq (o0 bZ) (ax (aG K) (pr 0) af (fun _ _=>rfl)) af) (fun _ _=>rfl)) (aB _)))))) (ai (bM (i:=2) sc_law_held_at.nd af)) aF)
 (ai (aW (bh (av (o0 nK) (pr 2) (ax (aG K) (pr 0) af (fun _ _=>rfl)) (aB _))) (ai (aw (pr 3))) aF)))))
 (ai (aw aV)))),?_⟩
 have g:=bH.of (K:=K) hT;have eB:∀i,eS cols i (.plain (.held o m))=decide (m<=(eZ o cols i:Int)):=fun _=>rfl
 have eP:eY cols (.plain (.held o m))=aT (fun i=>eS cols i (.plain (.held o m))) 0 cols.length:=by
  unfold eY
  cases aT (fun i=>eS cols i (.plain (.held o m))) 0 cols.length<;>rfl
 rw [eP]at q;clear eP;generalize hB:(fun i=>eS cols i (.plain (.held o m)))=B at q
 have eB:∀i,B i=decide (m<=(eZ o cols i:Int)):=fun i=>by rw [<-hB];rfl
 obtain⟨Pv,hPv⟩:∃Pv:Nat->L2.St->Hp->Prop,Pv=fun i Z H'=>∃(r:Int) (o3:Option V),(i=0->r=0)/\(∀j,i=j+1->r=(eZ o cols j:Int)+1)/\aT B 0 cols.length=aT B i (cols.length - i)/\Z=[some (.ref t),some (.ref l),some (.int r),o3]/\H=H':=⟨_,rfl⟩;refine aH (fun Z H'=>Z=[some (.ref t),some (.ref l),some (.int 0),none]/\H=H') ?_ ?_
 ·intro u' hu
  walk_at "r";exact hu _ _ ⟨rfl,rfl⟩
 rintro Ω ω _ _ ⟨rfl,rfl⟩;refine ω _ _ (aH (fun Z H'=>Pv cols.length Z H') ?_ ?_)
 ·intro u' hu
  walk_at "r";refine⟨_,.inl hps,?_⟩;rw [aa0,hpl];refine⟨by omega,by omega,cB Pv (by rw [hPv];exact⟨0,none,fun _=>rfl,fun j h=>(by omega),rfl,rfl,rfl⟩) ?_ ?_⟩
  ·intro i Z H' hi hI
   rw [hPv]at hI;obtain⟨r,o3,r0,rS,e,rfl,rfl⟩:=hI
   have hi':i < cols.length:=by omega
   rw [show cols.length - i=cols.length - (i+1)+1 by omega,aT,eB i]at e;refine aH (fun Z H'=>Z=[some (.ref t),some (.ref l),some (.int (r+1)),some (.int i)]/\H=H') ?_ ?_
   ·intro u2 ee
    walk_at "r";exact ee _ _ ⟨rfl,rfl⟩
   rintro Ω ω _ _ ⟨rfl,rfl⟩;refine ω _ _ (aH (fun Z H'=>Z=[some (.ref t),some (.ref l),some (.int ((eZ o cols i:Int)+1)),some (.int i)]/\H=H') ?_ ?_)
   ·intro u2 ee
    walk_at "r"
    cases i with
    | zero=>
     rw [if_neg (by decide)];exact ee _ _ ⟨by rw [r0 rfl];rfl,rfl⟩
    | succ k=>
     have ek:=rS k rfl;rw [if_pos (by omega)];have j1:dC [V.str "held",.int (o+1),.int m] ((1:Nat):Int)=some (.int (o+1)):=aA rfl;refine mV LL (by omega) (by omega) fun c1 hc1 l1=>aR g j1 ⟨_,rfl,aR hc1 (fH (by omega) (by omega)) ?_⟩;refine mV LL (by omega) (by omega) fun c2 hc2 l2=>aR g j1 ⟨_,rfl,aR hc2 (fH (by omega) (by omega)) ?_⟩;have n1:aY (cols.getD ((k+1:Nat):Int).toNat []) (o+1)=iZ o cols (k+1):=rfl
     have n2:aY (cols.getD (((k+1:Nat):Int) - 1).toNat []) (o+1)=iZ o cols k:=by rw [show(((k+1:Nat):Int) - 1).toNat=k by omega];rfl
     rw [n1,n2];walk_at "r";have er:eZ o cols (k+1)=if iZ o cols k=iZ o cols (k+1)then eZ o cols k+1 else 0:=rfl
     by_cases h:iZ o cols (k+1)=iZ o cols k
     ·rw [if_pos h]
      rw [if_pos h.symm]at er;exact ee _ _ ⟨by rw [ek,er];rfl,rfl⟩
     ·rw [if_neg h]
      rw [if_neg (fun z=>h z.symm)]at er;exact ee _ _ ⟨by rw [er];rfl,rfl⟩
   rintro Ω ω _ _ ⟨rfl,rfl⟩;refine ω _ _ ?_;walk_at "r";refine aR g (show dC _ ((2:Nat):Int)=_ from aA rfl) ?_;walk_at "r"
   by_cases h:m < (eZ o cols i:Int)+1
   ·rw [if_pos h]
    rw [if_pos (decide_eq_true (show m<=(eZ o cols i:Int)by omega))]at e;rw [e]at q;exact q
   ·rw [if_neg h]
    rw [if_neg (by rw [decide_eq_false (show ¬m<=(eZ o cols i:Int)by omega)];exact aa6)]at e;rw [hPv];exact⟨_,_,fun z=>(by omega),fun j hj=>by rw [show j=i by omega],e,rfl,rfl⟩
  ·intro Z H' hI
   exact hu _ _ hI
 intro Ω ω;intro Z H' hI;rw [hPv]at hI;obtain⟨r,o3,_,_,e,rfl,rfl⟩:=hI;rw [ai3,aT]at e;rw [e]at q;refine ω _ _ ?_;walk_at "r";exact q
theorem sQ(F:cM K "_law_times_at" "_law_times_at" fP f fd)(T:Txt mg aM):aN P w K mg base cc 1 f fd ["_law_rule","_law_line"] (cL K fun R=>∃o nt lw hg,R=.plain (.times o nt lw hg)):=by
 refine F.ok sc_law_times_at (fun _ _ _ _ h=>?_) (fun _ A _ s H vs Q E hr h=>?_)
 ·obtain⟨t,l,R,nv,cols,rfl,_⟩:=h
  rfl
 obtain⟨t,l,_,nv,cols,rfl,hT,⟨o,nt,lw,hg,rfl⟩,⟨q0,q1,m1⟩,LL,lc,q⟩:=h;obtain⟨ps,hps,hpl,hpc⟩:=id LL
 refine⟨_,(ae (bM (i:=2) sc_law_times_at.nd af)
 (ae (bK PassesOwn.never rfl (c9 rfl T.n_range (aa (az (aC K) (by rfl) T.n_len boot_len (aa (pr 1) ah)) ah)) (gD (i:=3) sc_law_times_at.nd)
 (ai (aW (bh (av kX (ax (aG K) (ax (aG K) (pr 1) (pr 3) (fun _ _=>rfl)) (aq (o0 bZ) (ax (aG K) (pr 0) af (fun _ _=>rfl)) af) (fun _ _=>rfl)) (ax (aG K) (pr 0) af (fun _ _=>rfl)) (aB _))) (ae (bM (i:=2) sc_law_times_at.nd (aq (bz K) (pr 2) af))
 (ai (aW (bh (av (o0 nK) (pr 2) (ax (aG K) (pr 0) af (fun _ _=>rfl)) (aB _))) (ai (aw (pr 3))) aF))) aF)))
 (ae (aW (bh (av (o0 mh) (pr 2) (ax (aG K) (pr 0) af (fun _ _=>rfl)) (aB _))) (ai (aw (az (aC K) (by rfl) T.n_len boot_len (aa (pr 1) ah)))) aF)
 (ai (aw aV))))),?_⟩
 have g:=bH.of (K:=K) hT;have j1:dC [V.str "times",.int (o+1),.int nt,.int lw,.int hg] ((1:Nat):Int)=some (.int (o+1)):=aA rfl;have j2:dC [V.str "times",.int (o+1),.int nt,.int lw,.int hg] ((2:Nat):Int)=some (.int nt):=aA rfl;have j3:dC [V.str "times",.int (o+1),.int nt,.int lw,.int hg] ((3:Nat):Int)=some (.int lw):=aA rfl;have j4:dC [V.str "times",.int (o+1),.int nt,.int lw,.int hg] ((4:Nat):Int)=some (.int hg):=aA rfl;unfold eY at q;generalize hB:(fun i=>eS cols i (.plain (.times o nt lw hg)))=B at q
 have eB:∀i,B i=(decide (iZ o cols i=nt) && decide ((d0 o nt cols i:Int)>=hg)):=fun i=>by rw [<-hB];rfl
 have eO:uD cols (.plain (.times o nt lw hg))=decide ((d0 o nt cols cols.length:Int) < lw):=rfl;obtain⟨Pv,hPv⟩:∃Pv:Nat->L2.St->Hp->Prop,Pv=fun i Z H'=>∃(o3:Option V),aT B 0 cols.length=aT B i (cols.length - i)/\Z=[some (.ref t),some (.ref l),some (.int (d0 o nt cols i)),o3]/\H=H':=⟨_,rfl⟩;refine aH (fun Z H'=>Z=[some (.ref t),some (.ref l),some (.int 0),none]/\H=H') ?_ ?_
 ·intro u' hu
  walk_at "r";exact hu _ _ ⟨rfl,rfl⟩
 rintro Ω ω _ _ ⟨rfl,rfl⟩;refine ω _ _ (aH (fun Z H'=>Pv cols.length Z H') ?_ ?_)
 ·intro u' hu
  walk_at "r";refine⟨_,.inl hps,?_⟩;rw [aa0,hpl];refine⟨by omega,by omega,cB Pv (by rw [hPv];exact⟨none,rfl,rfl,rfl⟩) ?_ ?_⟩
  ·intro i Z H' hi hI
   rw [hPv]at hI;obtain⟨o3,e,rfl,rfl⟩:=hI
   have hi':i < cols.length:=by omega
   have hu:cols[i]?=some cols[i]:=aa1 hi';have hc:=rX o nt cols i _ hu;rw [show cols.length - i=cols.length - (i+1)+1 by omega,aT,eB i]at e
   have hh:ue o nt cols[i]=decide (iZ o cols i=nt):=by unfold ue;rw [ny hu]
   rw [hh]at hc;walk_at "r";refine mV LL (by omega) (by omega) fun c1 hc1 l1=>aR g j1 ⟨_,rfl,aR hc1 (fH (by omega) (by omega)) (aR g j2 ?_)⟩;have n1:aY (cols.getD ((i:Nat):Int).toNat []) (o+1)=iZ o cols i:=rfl;rw [n1];walk_at "r"
   by_cases h:iZ o cols i=nt
   ·rw [if_pos h]
    rw [decide_eq_true h,if_pos rfl]at hc;rw [decide_eq_true h,am6]at e;refine aR g j4 ?_;walk_at "r"
    by_cases h2:hg < (d0 o nt cols i:Int)+1
    ·rw [if_pos h2]
     rw [if_pos (decide_eq_true (show(d0 o nt cols i:Int)>=hg by omega))]at e;rw [e]at q;exact q
    ·rw [if_neg h2]
     rw [if_neg (by rw [decide_eq_false (show ¬(d0 o nt cols i:Int)>=hg by omega)];exact aa6)]at e;rw [hPv];exact⟨_,e,by rw [hc];rfl,rfl⟩
   ·rw [if_neg h]
    rw [decide_eq_false h,if_neg aa6]at hc;rw [decide_eq_false h,ai4,if_neg aa6]at e;rw [hPv];exact⟨_,e,by rw [hc];rfl,rfl⟩
  ·intro Z H' hI
   exact hu _ _ hI
 intro Ω ω;intro Z H' hI;rw [hPv]at hI;obtain⟨o3,e,rfl,rfl⟩:=hI;rw [ai3,aT]at e;rw [e,eO]at q;refine ω _ _ ?_;walk_at "r";refine aR g j3 ?_;walk_at "r"
 by_cases h:(d0 o nt cols cols.length:Int) < lw
 ·rw [if_pos h]
  refine⟨_,.inl hps,?_⟩;rw [aa0,hpl];have q':Q (lW (if decide ((d0 o nt cols cols.length:Int) < lw)=true then some cols.length else none)) H:=q;rw [if_pos (decide_eq_true h)]at q';exact q'
 ·rw [if_neg h]
  have q':Q (lW (if decide ((d0 o nt cols cols.length:Int) < lw)=true then some cols.length else none)) H:=q;rw [if_neg (by rw [decide_eq_false h];exact aa6)]at q';exact q'
theorem firstN_iff:∀{k i p:Nat},aT B i k=some p↔i<=p/\p < i+k/\B p=true/\∀j,i<=j->j < p->B j=false
 | 0,i,p=>by
  rw [aT]
  constructor
  ·intro h;cases h
  ·rintro⟨h1,h2,_⟩;omega
 | k+1,i,p=>by
  rw [aT]
  by_cases h:B i=true
  ·rw [if_pos h]
   constructor
   ·intro e;cases e;exact⟨aa9 _,by omega,h,fun j h1 h2=>by omega⟩
   ·rintro⟨h1,h2,h3,h4⟩
    by_cases e:i=p
    ·rw [e]
    ·have:=h4 i (aa9 _) (by omega)
     rw [this]at h;cases h
  ·rw [if_neg h,firstN_iff]
   have hf:B i=false:=by simpa using h
   constructor
   ·rintro⟨h1,h2,h3,h4⟩
    refine⟨by omega,by omega,h3,fun j j1 j2=>?_⟩
    by_cases e:j=i
    ·rw [e];exact hf
    ·exact h4 j (by omega) j2
   ·rintro⟨h1,h2,h3,h4⟩
    have:i≠p:=fun e=>by rw [<-e]at h3;exact h h3
    exact⟨by omega,by omega,h3,fun j j1 j2=>h4 j (by omega) j2⟩
theorem lV(h:∀j,j < n->B j=false):aT B 0 n=none:=by
 cases e:aT B 0 n with
 | none=>rfl
 | some p=>
  obtain⟨_,h2,h3,_⟩:=firstN_iff.mp e;rw [h p (by omega)]at h3;cases h3
theorem si{p:Nat}(hp:p < n)(hb:B p=true)(h:∀j,j < p->B j=false):aT B 0 n=some p:=firstN_iff.mpr ⟨ad3 _,by omega,hb,fun j _ hj=>h j hj⟩
theorem zX{b c:Int}(hc:0 < c):b<=a+(iS a b c:Int) * c:=by
 unfold iS Builtin.Range.rangeSize;rw [if_pos (show c > 0 from hc)]
 by_cases hab:a < b
 ·rw [if_pos hab]
  have h0:=Int.ediv_nonneg (show 0<=b - a - 1 by omega) (show 0<=c by omega);have h1:=ad0 (b - a - 1) hc;have h2:=am1 (b - a - 1) c;generalize hq:(b - a - 1) / c=q at h0 h2;rw [show(((q+1).toNat:Nat):Int)=q+1 by omega,Int.add_mul,Int.mul_comm q c];omega
 ·rw [if_neg hab]
  simp;omega
theorem y6{k j:Int}(m1:1<=m)(a0:0<=a)(a1:a < m)(hk:k % m=a)(h1:k < j)(h2:j < k+m):j % m≠a:=fun h=>by
 have e1:=am1 k m;have e2:=am1 j m;rw [hk]at e1;rw [h]at e2
 have h3:m * (k / m) < m * (j / m):=by omega
 have h4:m * (j / m) < m * (k / m)+m:=by omega
 have h5:k / m < j / m:=Int.lt_of_mul_lt_mul_left h3 (by omega)
 have h6:m * (j / m) < m * (k / m+1):=by rw [Int.mul_add,ao3];exact h4
 have h7:j / m < k / m+1:=Int.lt_of_mul_lt_mul_left h6 (by omega);omega
theorem sN(F:cM K "_law_every_at" "_law_every_at" fN f fd)(T:Txt mg aM):aN P w K mg base cc 1 f fd ["_law_rule","_law_line"] (cL K fun R=>bV R < 1000/\∃m a o u D,R=.every m a (.span o u D)):=by
 refine F.ok sc_law_every_at (fun _ _ _ _ h=>?_) (fun _ A _ s H vs Q E hr h=>?_)
 ·obtain⟨t,l,R,nv,cols,rfl,_⟩:=h
  rfl
 obtain⟨t,l,_,nv,cols,rfl,hT,⟨hz,m,a,o,u,D,rfl⟩,⟨⟨p0,p1,p2,p3⟩,_,m1,a0,a1⟩,LL,lc,q⟩:=h;obtain⟨ps,hps,hpl,hpc⟩:=id LL;obtain⟨ti,td,h1,h2,h3⟩:=hT;have hz:m < 1000:=hz
 refine⟨_,(ae (bM (i:=2) sc_law_every_at.nd (ax (aG K) (pr 0) af (fun _ _=>rfl)))
 (ae (bK PassesOwn.never rfl (uG rfl T.n_range (aa (ax (aG K) (pr 0) af (fun _ _=>rfl)) (aa (az (aC K) (by rfl) T.n_len boot_len (aa (pr 1) ah)) (aa (ax (aG K) (pr 0) af (fun _ _=>rfl)) ah)))) (gD (i:=3) sc_law_every_at.nd)
 (ai (aW (bh (av (nJ K) (aq (o0 bZ) (ax (aG K) (ax (aG K) (pr 1) (pr 3) (fun _ _=>rfl)) (aq (o0 bZ) (ax (aG K) (pr 2) af (fun _ _=>rfl)) af) (fun _ _=>rfl)) (ax (aG K) (ax (aG K) (pr 1) (pr 3) (fun _ _=>rfl)) (aq (o0 bZ) (ax (aG K) (pr 2) af (fun _ _=>rfl)) af) (fun _ _=>rfl))) (ax (aG K) (pr 2) af (fun _ _=>rfl)) (by with_unfolding_all rfl))) (ai (aw (pr 3))) aF)))
 (ai (aw aV)))),?_⟩
 have g:=bH.of (K:=K) h1;have gi:=bH.of (K:=K) h2;have j1:dC [V.str "every",.int m,.int a,.ref ti] ((1:Nat):Int)=some (.int m):=aA rfl;have j2:dC [V.str "every",.int m,.int a,.ref ti] ((2:Nat):Int)=some (.int a):=aA rfl;have j3:dC [V.str "every",.int m,.int a,.ref ti] ((3:Nat):Int)=some (.ref ti):=aA rfl;have i1:dC [V.str "span",.int (o+1),.int (u+1),.ref td] ((1:Nat):Int)=some (.int (o+1)):=aA rfl;have i2:dC [V.str "span",.int (o+1),.int (u+1),.ref td] ((2:Nat):Int)=some (.int (u+1)):=aA rfl;have i3:dC [V.str "span",.int (o+1),.int (u+1),.ref td] ((3:Nat):Int)=some (.ref td):=aA rfl
 have eP:eY cols (.every m a (.span o u D))=aT (fun i=>eS cols i (.every m a (.span o u D))) 0 cols.length:=by
  unfold eY
  cases aT (fun i=>eS cols i (.every m a (.span o u D))) 0 cols.length<;>rfl
 rw [eP]at q;clear eP;generalize hB:(fun i=>eS cols i (.every m a (.span o u D)))=B at q
 have eB:∀i:Nat,B i=(decide ((i:Int) % m=a) && !decide (iZ u cols i - iZ o cols i∈D)):=fun i=>by rw [<-hB];rfl
 obtain⟨Pv,hPv⟩:∃Pv:Nat->L2.St->Hp->Prop,Pv=fun(i:Nat) Z H'=>∃(o3:Option V),(∀j:Nat,(j:Int) < a+(i:Int) * m->B j=false)/\Z=[some (.ref t),some (.ref l),some (.ref ti),o3]/\H=H':=⟨_,rfl⟩;refine aH (fun Z H'=>Z=[some (.ref t),some (.ref l),some (.ref ti),none]/\H=H') ?_ ?_
 ·intro u' hu
  walk_at "r";refine aR g j3 (hu _ _ ⟨rfl,rfl⟩)
 rintro Ω ω _ _ ⟨rfl,rfl⟩;refine ω _ _ (aH (fun Z H'=>Pv (iS a cols.length m) Z H') ?_ ?_)
 ·intro u' hu
  walk_at "r";simp only [Ct];walk_at "r";refine aR g j2 ⟨_,.inl hps,aR g j1 ?_⟩;rw [aa0,hpl]
  have h0:Pv 0 [some (.ref t),some (.ref l),some (.ref ti),none] H:=by
   rw [hPv];refine⟨none,fun j hj=>?_,rfl,rfl⟩
   have hj:(j:Int) < a:=by simpa using hj
   rw [eB,decide_eq_false (by rw [Int.emod_eq_of_lt (by omega) (by omega)];omega),ai4]
  refine⟨a,rfl,m,rfl,by omega,by omega,by omega,by omega,by omega,by omega,w6 Pv h0 ?_ ?_⟩
  ·intro i Z H' hi hI
   rw [hPv]at hI;obtain⟨o3,e,rfl,rfl⟩:=hI;have hlt:=zY (show 0 < m by omega) hi;have i0:0<=(i:Int) * m:=Int.mul_nonneg (by omega) (by omega);obtain⟨k,hk⟩:∃k:Nat,a+(i:Int) * m=k:=⟨(a+(i:Int) * m).toNat,by omega⟩
   have hm:(k:Int) % m=a:=by rw [<-hk,Int.add_mul_emod_self_right,Int.emod_eq_of_lt a0 a1]
   have nxt:a+((i+1:Nat):Int) * m=k+m:=by rw [<-hk,show((i+1:Nat):Int)=(i:Int)+1 by omega,Int.add_mul];omega
   rw [hk]at e hlt
   have ebk:B k=!decide (iZ u cols k - iZ o cols k∈D):=by rw [eB,decide_eq_true hm,am6]
   rw [hk];walk_at "r";refine mV LL (by omega) (by omega) fun c1 hc1 l1=>aR gi i2 ⟨_,rfl,aR hc1 (fH (by omega) (by omega)) ?_⟩;refine mV LL (by omega) (by omega) fun c2 hc2 l2=>aR gi i1 ⟨_,rfl,aR hc2 (fH (by omega) (by omega)) ⟨_,rfl,_,rfl,aR gi i3 ?_⟩⟩;have n1:∀x,aY (cols.getD ((k:Nat):Int).toNat []) (x+1)=iZ x cols k:=fun _=>rfl;rw [n1,n1];refine lX (D:=D) (aL.of h3) ⟨_,rfl,?_⟩;rw [<-ebk]
   by_cases hb:B k=true
   ·rw [if_pos hb]
    rw [si (show k < cols.length by omega) hb fun j hj=>e j (by omega)]at q;exact q
   ·rw [if_neg hb,hPv]
    refine⟨_,fun j hj=>?_,rfl,rfl⟩;rw [nxt]at hj
    by_cases h1:(j:Int) < k
    ·exact e j h1
    ·by_cases h2:j=k
     ·rw [h2]
      simpa using hb
     ·rw [eB,decide_eq_false (y6 m1 a0 a1 hm (by omega) hj),ai4]
  ·intro Z H' hI
   exact hu _ _ hI
 intro Ω ω;intro Z H' hI;rw [hPv]at hI;obtain⟨o3,e,rfl,rfl⟩:=hI;have hge:=zX (a:=a) (b:=cols.length) (show 0 < m by omega);rw [lV fun j hj=>e j (by omega)]at q;refine ω _ _ ?_;walk_at "r";exact q
theorem uB(F:cM K "_law_rule_at" "_law_rule_at" gf f fd)(T:Txt mg aM)(D_law_held_at:bR P w K mg base "_law_held_at" 1 ["_law_rule","_law_line"] (cL K fun R=>∃o m,R=.plain (.held o m)))(D_law_times_at:bR P w K mg base "_law_times_at" 1 ["_law_rule","_law_line"] (cL K fun R=>∃o nt lw hg,R=.plain (.times o nt lw hg)))(D_law_every_at:bR P w K mg base "_law_every_at" 1 ["_law_rule","_law_line"] (cL K fun R=>bV R < 1000/\∃m a o u D,R=.every m a (.span o u D))):aN P w K mg base cc 2 f fd ["_law_rule","_law_line"] (cL K fun R=>bV R < 1000):=by
 refine F.ok n6 (fun _ _ _ _ h=>?_) (fun _ A _ s H vs Q E hr h=>?_)
 ·obtain⟨t,l,R,nv,cols,rfl,_⟩:=h
  rfl
 obtain⟨t,l,R,nv,cols,rfl,hT,hz,hg,LL,lc,q⟩:=h
 refine⟨_,(ae (aW (bh (av kX (ax (aG K) (pr 0) af (fun _ _=>rfl)) bD (aB _))) (ai (aw (aD D_law_held_at hr (by rfl) (aa (pr 0) (aa (pr 1) ah))))) aF)
 (ae (aW (bh (av kX (ax (aG K) (pr 0) af (fun _ _=>rfl)) bD (aB _))) (ai (aw (aD D_law_times_at hr (by rfl) (aa (pr 0) (aa (pr 1) ah))))) aF)
 (ai (aw (aD D_law_every_at hr (by rfl) (aa (pr 0) (aa (pr 1) ah))))))),?_⟩
 walk_at "r"
 cases R with
 | plain R=>
  cases R with
  | span o u D=>exact hT.elim
  | held o m=>
   have g:=bH.of (K:=K) hT;refine aR g (aP rfl) ?_;walk_at "r";exact⟨t,l,_,nv,cols,rfl,hT,⟨o,m,rfl⟩,hg,LL,lc,q⟩
  | times o nt lw hgh=>
   have g:=bH.of (K:=K) hT;refine aR g (aP rfl) ?_;walk_at "r";refine aR g (aP rfl) ?_;walk_at "r";exact⟨t,l,_,nv,cols,rfl,hT,⟨o,nt,lw,hgh,rfl⟩,hg,LL,lc,q⟩
 | every m ph R=>
  cases R with
  | held _ _=>exact hT.elim
  | times _ _ _ _=>exact hT.elim
  | span o u D=>
   obtain⟨_,_,g,_⟩:=id hT;have g:=bH.of (K:=K) g;refine aR g (aP rfl) ?_;walk_at "r";refine aR g (aP rfl) ?_;walk_at "r";exact⟨t,l,_,nv,cols,rfl,hT,⟨hz,m,ph,o,u,D,rfl⟩,hg,LL,lc,q⟩
theorem ltP_f{a:Int×Int}:w8 a b=false↔¬(a.1 < b.1\/a.1=b.1/\a.2 < b.2):=by
 unfold w8;simp
def g6(S:Int×Int->Prop)(o:Option (Int×Int)):Prop:=(o=none/\∀k,¬S k)\/∃k,o=some k/\S k/\∀k',S k'->w8 k' k=false
theorem g6.uniq{S:Int×Int->Prop}{o':Option (Int×Int)}(h:g6 S o)(h':g6 S o'):o=o':=by
 rcases h with⟨rfl,h⟩ | ⟨k,rfl,h1,h2⟩
 ·rcases h' with⟨rfl,_⟩ | ⟨k',rfl,h1',_⟩
  ·rfl
  ·exact absurd h1' (h _)
 ·rcases h' with⟨rfl,h'⟩ | ⟨k',rfl,h1',h2'⟩
  ·exact absurd h1 (h' _)
  ·have a:=ltP_f.mp (h2 k' h1')
   have b:=ltP_f.mp (h2' k h1)
   have:k=k':=Prod.ext (by omega) (by omega)
   rw [this]
def jK(K:Frag)(H:Hp)(v:V)(o:Option (Int×Int)):Prop:=(o=none/\v=.non)\/∃t p,o=some p/\v=.ref t/\H t=some (.tup [.int p.1,.int p.2])
theorem jK.same{v:V}(s:ar H H')(h:jK K H v o):jK K H' v o:=h.imp id fun⟨t,p,h1,h2,h3⟩=>⟨t,p,h1,h2,s _ _ h3⟩
theorem nN:∀{l:List (Option Nat)} {n:Nat} {k:Int×Int},k∈aX n l->k.2 < ((n+l.length:Nat):Int)
 | [],_,_,h=>nomatch h
 | none::l,n,k,h=>by
  have:=nN (n:=n+1) (show k∈aX (n+1) l from h)
  rw [ad1];omega
 | some p::l,n,k,h=>by
  rcases aa8.mp (show k∈((p:Int),(n:Int))::aX (n+1) l from h)with rfl | h
  ·rw [ad1]
   show(n:Int) < _;omega
  ·have:=nN h
   rw [ad1];omega
def ya(o:Option (Int×Int))(x:Option Nat)(i:Nat):Option (Int×Int):=match x with
 | none=>o
 | some p=>match o with
  | none=>some ((p:Int),(i:Int))
  | some k=>if (p:Int) < k.1 then some ((p:Int),(i:Int))else some k
theorem tZ{l:List (Option Nat)}{x:Option Nat}(h:g6 (fun k=>k∈aX 0 l) o):g6 (fun k=>k∈aX 0 (l++[x])) (ya o x l.length):=by
 have es:=gJ l 0 x
 cases x with
 | none=>
  rw [es];show g6 (fun k=>k∈aX 0 l++[]) o;rw [af4];exact h
 | some p=>
  rw [es,al1];rcases h with⟨rfl,h⟩ | ⟨k,rfl,h1,h2⟩
  ·refine .inr ⟨_,rfl,ac7 _ (by simp),fun k' hk=>?_⟩
   rcases ac9.mp hk with hk | hk
   ·exact absurd hk (h k')
   ·have hk:k'=((p:Int),(l.length:Int)):=by simpa using hk
    rw [hk];exact ltP_f.mpr (by omega)
  ·have hlt:=nN h1
   rw [al1]at hlt
   by_cases hp:(p:Int) < k.1
   ·refine .inr ⟨_,if_pos hp,ac7 _ (by simp),fun k' hk=>?_⟩
    rcases ac9.mp hk with hk | hk
    ·have:=ltP_f.mp (h2 k' hk)
     exact ltP_f.mpr (by show ¬(k'.1 < (p:Int)\/k'.1=(p:Int)/\k'.2 < (l.length:Int));omega)
    ·have hk:k'=((p:Int),(l.length:Int)):=by simpa using hk
     rw [hk];exact ltP_f.mpr (by omega)
   ·refine .inr ⟨k,if_neg hp,ah2 _ h1,fun k' hk=>?_⟩
    rcases ac9.mp hk with hk | hk
    ·exact h2 k' hk
    ·have hk:k'=((p:Int),(l.length:Int)):=by simpa using hk
     rw [hk];exact ltP_f.mpr (by show ¬((p:Int) < k.1\/(p:Int)=k.1/\(l.length:Int) < k.2);omega)
theorem uI(bs:List (Int×Int))(Rs:List aE)(cols:List (List Int)):(places bs Rs cols).length=bs.length+Rs.length:=by
 unfold places;rw [ab2,aa0,aa0,ai2]
theorem zt{Rs:List aE}(h:i < bs.length):(places bs Rs cols)[i]?=some (jl bs cols i):=by
 unfold places;rw [ab5 (by rw [aa0,ai2];exact h),aa5,ak4 h];rfl
theorem zr{Rs:List aE}{R:aE}(h:¬i < bs.length)(hR:Rs[i - bs.length]?=some R):(places bs Rs cols)[i]?=some (fX cols R):=by
 unfold places;rw [ac4 (by rw [aa0,ai2];omega),aa0,ai2,aa5,hR];rfl
def B6(K:Frag):Sp:=fun vs H Q _=>∃(a q l:Addr) (bs:List (Int×Int)) (Rs:List aE) (cols:List (List Int)),vs=[.ref a,.ref q,.ref l]/\bW K H a bs/\fV H q Rs/\bs.length<=4/\Rs.length<=12/\(∀R∈Rs,cf bs.length R/\bV R < 1000)/\eW K H l bs.length cols/\cols.length<=1000/\∀v o H',jK K H' v o->g6 (fun k=>k∈aX 0 (places bs Rs cols)) o->ar H H'->Q v H'
theorem EM(F:cM K "_law_first_fault" "_law_first_fault" dU f fd)(T:Txt mg aM)(D_law_range_at:bR P w K mg base "_law_range_at" 2 ["_law_pair","_law_voice","_law_line"] (lM K))(D_law_rule_at:bR P w K mg base "_law_rule_at" 2 ["_law_rule","_law_line"] (cL K fun R=>bV R < 1000)):aN P w K mg base cc 3 f fd ["_law_ranges_here","_law_rules","_law_line"] (B6 K):=by
 refine F.ok sc_law_first_fault (fun _ _ _ _ h=>?_) (fun _ A _ s H vs Q E hr h=>?_)
 ·obtain⟨a,q,l,bs,Rs,cols,rfl,_⟩:=h
  rfl
 obtain⟨a,q,l,bs,Rs,cols,rfl,⟨ts,hts,htl,htc⟩,⟨ps,hps,hpl,hpc⟩,b4,r12,hok,LL,lc,k⟩:=h
 refine⟨_,(ae (bM (i:=3) sc_law_first_fault.nd aV)
 (ae (bK PassesOwn.never rfl (c9 rfl T.n_range (aa (aq (bz K) (az (aC K) (by rfl) T.n_len boot_len (aa (pr 0) ah)) (az (aC K) (by rfl) T.n_len boot_len (aa (pr 1) ah))) ah)) (gD (i:=4) sc_law_first_fault.nd)
 (ae (aW (bh (av (o0 mh) (pr 4) (az (aC K) (by rfl) T.n_len boot_len (aa (pr 0) ah)) (aB _))) (ai (bM (i:=5) sc_law_first_fault.nd (aD D_law_range_at hr (by rfl) (aa (ax (aG K) (pr 0) (pr 4) (fun _ _=>rfl)) (aa (pr 4) (aa (pr 2) ah)))))) (ai (bM (i:=5) sc_law_first_fault.nd (aD D_law_rule_at hr (by rfl) (aa (ax (aG K) (pr 1) (aq (o0 bZ) (pr 4) (az (aC K) (by rfl) T.n_len boot_len (aa (pr 0) ah))) (fun _ _=>rfl)) (aa (pr 2) ah))))))
 (ai (aW (PW.pt (fY (bh (av mE (pr 5) aV (aB _))) (fj (PW.pt (dq (bh (av dJ (pr 3) aV (aB _))) (cW (bh (av (o0 mh) (pr 5) (ax (aG K) (pr 3) af (fun _ _=>rfl)) (aB _))))))))) (ai (bM (i:=3) sc_law_first_fault.nd (dj (aa (pr 5) (aa (pr 4) ah))))) aF))))
 (ai (aw (pr 3))))),?_⟩
 have hs:sizeLine=16777216:=sizeLine_eq;obtain⟨Pl,hPl⟩:∃Pl,Pl=places bs Rs cols:=⟨_,rfl⟩;rw [<-hPl]at k
 have pll:Pl.length=bs.length+Rs.length:=by rw [hPl,uI]
 obtain⟨Pv,hPv⟩:∃Pv:Nat->L2.St->Hp->Prop,Pv=fun i Z H'=>∃(v:V) (o:Option (Int×Int)) (o4 o5:Option V),jK K H' v o/\g6 (fun k=>k∈aX 0 (Pl.take i)) o/\Z=[some (.ref a),some (.ref q),some (.ref l),some v,o4,o5]/\ar H H':=⟨_,rfl⟩;refine aH (fun Z H'=>Z=[some (.ref a),some (.ref q),some (.ref l),some .non,none,none]/\H=H') ?_ ?_
 ·intro u' hu
  walk_at "r";exact hu _ _ ⟨rfl,rfl⟩
 rintro Ω ω _ _ ⟨rfl,rfl⟩;refine ω _ _ (aH (fun Z H'=>Pv Pl.length Z H') ?_ ?_)
 ·intro u' hu
  walk_at "r";refine⟨_,.inl hts,_,.inl (aL.of hps),?_⟩;rw [aa0,aa0,htl,hpl];refine⟨by omega,by omega,cB Pv (by rw [hPv];exact⟨.non,none,none,none,.inl ⟨rfl,rfl⟩,.inl ⟨rfl,fun k h=>(nomatch h)⟩,rfl,ar.refl _⟩) ?_ ?_⟩
  ·intro i Z H1 hi hI
   rw [hPv]at hI;obtain⟨v,o,o4,o5,hv,hL,rfl,s1⟩:=hI
   have hi':i < Pl.length:=by omega
   refine aH (fun Z H'=>Z=[some (.ref a),some (.ref q),some (.ref l),some v,some (.int i),some (lW Pl[i])]/\H1=H') ?_ ?_
   ·intro u2 ee
    have ePl:Pl[i]?=some Pl[i]:=aa1 hi';generalize Pl[i]=x at ePl ee;rw [hPl]at ePl;refine EB fun A0 B0 hA hB=>?_;walk_at "r";refine⟨_,.inl (s1.seq hts),?_⟩;rw [aa0,htl]
    by_cases hb:(i:Int) < (bs.length:Int)
    ·rw [if_pos hb]
     have hb':i < bs.length:=by omega
     rw [zt hb']at ePl
     injection ePl with ePl
     have e1:ts[i]?=some ts[i]:=aa1 (by omega);have e2:bs[i]?=some bs[i]:=aa1 hb';refine hA _ ?_;walk_at "r";refine bG (s1.seq hts) (aA (by rw [aa5,e1];rfl)) ?_;refine⟨ts[i],l,bs[i].1,bs[i].2,i,bs.length,cols,rfl,s1.tup (htc i _ _ e1 e2),LL.same s1,hb',lc,?_⟩
     have ex:aT (fun j=>!(decide (bs[i].1<=aY (cols.getD j []) ((i:Int)+1)) && decide (aY (cols.getD j []) ((i:Int)+1)<=bs[i].2))) 0 cols.length=x:=by
      rw [<-ePl];unfold jl qX;rw [ab8 (l:=bs),e2];rfl
     rw [ex];exact ee _ _ ⟨rfl,rfl⟩
    ·rw [if_neg hb]
     have hk:i - bs.length < Rs.length:=by omega
     have e1:ps[i - bs.length]?=some (ps[i - bs.length]'(by omega)):=aa1 (by omega);have e2:Rs[i - bs.length]?=some (Rs[i - bs.length]'hk):=aa1 hk;rw [zr (by omega) e2]at ePl
     injection ePl with ePl
     obtain⟨g1,g2⟩:=hok _ (ad6 hk);rw [gB g1]at ePl;refine hB _ ?_;walk_at "r";refine⟨_,.inl (s1.seq hts),?_⟩;rw [aa0,htl,show(i:Int) - (bs.length:Int)=((i - bs.length:Nat):Int)by omega];refine bG (aL.of (s1 _ _ hps)) (aA (by rw [aa5,e1];rfl)) ?_;refine⟨_,l,_,bs.length,cols,rfl,(hpc _ _ _ e1 e2).same s1,g2,g1,LL.same s1,lc,?_⟩;rw [ePl];exact ee _ _ ⟨rfl,rfl⟩
   rintro Ω ω _ _ ⟨rfl,rfl⟩;have hL':=tZ (x:=Pl[i]) hL;rw [ac3,an5 (by omega),List.take_append_getElem hi']at hL';generalize Pl[i]=x at hL' |-;refine ω _ _ ?_;walk_at "r"
   cases x with
   | none=>
    rw [if_pos (show lW none=V.non from rfl),hPv];exact⟨v,o,_,_,hv,hL',rfl,s1⟩
   | some p=>
    have new:∀t,H1 t=none->ya o (some p) i=some ((p:Int),(i:Int))->Pv (i+1) [some (.ref a),some (.ref q),some (.ref l),some (.ref t),some (.int i),some (lW (some p))] (upd H1 t (.tup [lW (some p),.int i])):=fun t ht e=>by
     rw [e]at hL';rw [hPv];exact⟨_,_,_,_,.inr ⟨t,_,rfl,rfl,ag⟩,hL',rfl,s1.upd ht⟩
    rw [if_neg (show lW (some p)≠V.non by simp [lW])];rcases hv with⟨rfl,rfl⟩ | ⟨t,pr,rfl,rfl,ht⟩
    ·rw [if_pos rfl]
     exact⟨by omega,fun t ht=>new t ht rfl⟩
    ·rw [if_neg (by simp)]
     refine aR (bH.of ht) (aP rfl) ⟨p,rfl,_,rfl,?_⟩
     by_cases h:(p:Int) < pr.1
     ·rw [if_pos h]
      exact⟨by omega,fun t' ht'=>new t' ht' (if_pos h)⟩
     ·rw [if_neg h,hPv]
      have e:ya (some pr) (some p) i=some pr:=if_neg h;rw [e]at hL';exact⟨_,_,_,_,.inr ⟨t,pr,rfl,rfl,ht⟩,hL',rfl,s1⟩
  ·intro Z H' hI
   rw [show((bs.length:Int)+(Rs.length:Int)).toNat=Pl.length by omega]at hI;exact hu _ _ hI
 intro Ω ω;intro Z H' hI;rw [hPv]at hI;obtain⟨v,o,o4,o5,hv,hL,rfl,s1⟩:=hI;rw [ac8]at hL;refine ω _ _ ?_;walk_at "r";exact k v o _ hv hL s1
def u9(K:Frag):Sp:=fun vs H Q _=>∃(v v':V) (o:Option (Int×Int)),vs=[v,v']/\jK K H v o/\jK K H v' o/\Q (.bl true) H
theorem Bo(F:cM K "_law_told" "_law_told" jr f fd)(T:Txt mg aM)(D_law_whole:bR P w K mg base "_law_whole" 6 ["_law_found"] kz):aN P w K mg base cc 7 f fd ["_law_found","_law_due"] (u9 K):=by
 refine F.ok tF (fun _ _ _ _ h=>?_) (fun _ A _ s H vs Q E hr h=>?_)
 ·obtain⟨v,v',o,rfl,_⟩:=h
  rfl
 obtain⟨v,v',o,rfl,hv,hv',q⟩:=h
 refine⟨_,(ae (aW (bh (av dJ (pr 1) aV (aB _))) (ai (aw (dP dJ (pr 0) aV (aB _)))) aF)
 (ae (aW (PW.pt (dq (cI (bu (az (cY K) (by rfl) T.n_isinstance boot_isinstance (aa (pr 0) (aa (i5 (v:=.ty "tuple") (by rfl) T.n_tuple boot_tuple rfl) ah))) (fun _=>rfl))) (cW (bh (av (EK K (Fs hr)) (az (aC K) (by rfl) T.n_len boot_len (aa (pr 0) ah)) af (aB _)))))) (ai (aw jc)) aF)
 (ai (aw (vV (qZ (aD D_law_whole hr (by rfl) (aa (ax (aG K) (pr 0) af (fun _ _=>rfl)) ah)) (vV (qZ (aD D_law_whole hr (by rfl) (aa (ax (aG K) (pr 0) af (fun _ _=>rfl)) ah)) (q9 (dP (F0 K (Fs hr)) (pr 0) (pr 1) (aB _))))))))))),?_⟩
 rcases hv' with⟨rfl,rfl⟩ | ⟨t',p,rfl,rfl,ht'⟩
 ·rcases hv with⟨_,rfl⟩ | ⟨_,_,e,_⟩
  ·walk_at "r"
   exact q
  ·cases e
 ·rcases hv with⟨e,_⟩ | ⟨t,_,e,rfl,ht⟩
  ·cases e
  ·cases e
   walk_at "r";refine⟨_,.tup ht,true,rfl,?_⟩;rw [if_neg (by decide)];refine⟨_,.inr (bH.of ht),?_⟩;rw [if_pos (show((([V.int p.1,V.int p.2]:List V).length:Nat):Int)=2 from rfl)];refine aR (bH.of ht) (aP rfl) ⟨_,rfl,_,rfl,?_⟩;rw [if_pos rfl];refine aR (bH.of ht) (show dC _ ((1:Nat):Int)=_ from aA rfl) ⟨_,rfl,_,rfl,?_⟩;rw [if_pos rfl]
   exact xx (l:=false) (bH.of ht) (bH.of ht') (fun x hx=>.inl (by simp at hx;rcases hx with rfl | rfl<;>rfl)) q
def g7(H:Hp)(l:Addr)(nv:Nat)(cols:List (List Int)):Prop:=cO H l cols/\∀c∈cols,c.length=nv
theorem g7.same(h:g7 H l nv cols)(s:ar H H'):g7 H' l nv cols:=⟨h.1.same s,h.2⟩
theorem g7.line(h:g7 H l nv cols):eW K H l nv cols:=by
 obtain⟨⟨ps,h1,h2,h3⟩,h4⟩:=h;exact⟨ps,aL.of h1,h2,fun i p us e1 e2=>⟨bH.of (h3 i p us e1 e2),h4 us (ac5 e2)⟩⟩
def oj(K:Frag):Sp:=fun vs H Q _=>∃(l:Addr) (c:Int) (nv:Nat) (cols:List (List Int)),vs=[.ref l,.int c]/\g7 H l nv cols/\1<=nv/\nv<=4/\cols.length<=1000/\∀q cols' H',g7 H' q nv cols'->cols'.length=cols.length->ar H H'->Q (.ref q) H'
theorem xp(F:cM K "_law_spoilt" "_law_spoilt" gT f fd)(T:Txt mg aM):aN P w K mg base cc 1 f fd ["_law_line","_law_cell"] (oj K):=by
 refine F.ok sc_law_spoilt (fun _ _ _ _ h=>?_) (fun _ A _ s H vs Q E hr h=>?_)
 ·obtain⟨l,c,nv,cols,rfl,_⟩:=h
  rfl
 obtain⟨l,c,nv,cols,rfl,hL,n1,n4,lc,k⟩:=h;obtain⟨⟨ps,hps,hpl,hpc⟩,hw⟩:=id hL
 refine⟨_,(ae (aW (PW.pt (dq (bh (av kX (az (aC K) (by rfl) T.n_len boot_len (aa (pr 0) ah)) af (aB _))) (cW (bh (av Av (aq (o1 bc) (pr 1) af) af (aB _)))))) (ai (aw (pr 0))) aF)
 (ae (bM (i:=2) sc_law_spoilt.nd (aq (o1 bc) (aq (o1 cj) (pr 1) af) (az (aC K) (by rfl) T.n_len boot_len (aa (pr 0) ah))))
 (ae (bM (i:=3) sc_law_spoilt.nd (bo (eh K) (by rfl) T.n_list boot_list (aa (ax (aG K) (pr 0) (pr 2) (fun _ _=>rfl)) ah)))
 (ae (bM (i:=4) sc_law_spoilt.nd (aq (o1 bc) (aq (o1 cj) (pr 1) af) (az (aC K) (by rfl) T.n_len boot_len (aa (pr 3) ah))))
 (ae (lj (aq (bz K) (ax (aG K) (pr 3) (pr 4) (fun _ _=>rfl)) (ax (aG K) (bQ (aa (sV (u1 oz) af) (aa af (aa (sV (u1 oz) af) (aa (aq (bz K) (aq (o1 qW) af af) af) ah))))) (aq (o1 bc) (aq (o1 cj) (pr 1) af) af) (fun _ _=>rfl))) (uF (pr 3) (pr 4) zN))
 (ai (aw (aq (bz K) (aq (bz K) (cy (ko K) (pr 0) cT (ka (pr 2))) (bQ (aa (bo (fS K) (by rfl) T.n_tuple boot_tuple (aa (pr 3) ah)) ah))) (cy (ko K) (pr 0) (ka (aq (bz K) (pr 2) af)) cT))))))))),?_⟩
 have hs:sizeLine=16777216:=sizeLine_eq;refine aH (fun Z H'=>1<=cols.length/\Z=[some (.ref l),some (.int c),none,none,none]/\H=H') ?_ ?_
 ·intro u' hu
  refine ig fun A0 B0 hA hB=>?_
  have no:A0 H:=hA _ (by
   walk_at "r"
   exact k l cols H hL rfl (ar.refl _))
  walk_at "r";refine⟨_,.inl (aL.of hps),?_⟩;rw [aa0,hpl]
  by_cases h:(cols.length:Int)=0
  ·rw [if_pos h]
   exact no
  ·rw [if_neg h]
   refine⟨by decide,?_⟩
   by_cases h3:c % 5=3
   ·rw [if_pos h3]
    exact hB _ (hu _ _ ⟨by omega,rfl,rfl⟩)
   ·rw [if_neg h3]
    exact no
 rintro Ω ω _ _ ⟨l1,rfl,rfl⟩;refine ω _ _ (aH (fun Z H'=>∃m:Nat,m < cols.length/\Z=[some (.ref l),some (.int c),some (.int m),none,none]/\H=H') ?_ ?_)
 ·intro u' hu
  walk_at "r";refine⟨⟨by decide,by decide⟩,_,.inl (aL.of hps),?_⟩;rw [aa0,hpl];have z0:=ad5 (c / 5) (show(cols.length:Int)≠0 by omega);have z1:=ad0 (c / 5) (show 0 < (cols.length:Int)by omega);obtain⟨m,hm⟩:∃m:Nat,c / 5 % (cols.length:Int)=m:=⟨(c / 5 % (cols.length:Int)).toNat,by omega⟩;rw [hm]at z0 z1 |-;exact⟨by omega,hu _ _ ⟨m,by omega,rfl,rfl⟩⟩
 rintro Ω ω _ _ ⟨m,hm,rfl,rfl⟩;have em:cols[m]?=some cols[m]:=aa1 hm;have ep:ps[m]?=some (ps[m]'(by omega)):=aa1 (by omega);have hwm:(cols[m]).length=nv:=hw _ (ad6 hm);refine ω _ _ (aH (fun Z H'=>∃p,H p=none/\H' p=some (.lst ((cols[m]).map V.int))/\Z=[some (.ref l),some (.int c),some (.int m),some (.ref p),none]/\ar H H') ?_ ?_)
 ·intro u' hu
  walk_at "r";exact bG (aL.of hps) (aA (by rw [aa5,ep];rfl)) ⟨_,rfl,_,.inr (bH.of (hpc m _ _ ep em)),fun p hp=>hu _ _ ⟨p,hp,ag,rfl,ak hp⟩⟩
 rintro Ω ω _ H1 ⟨p,hp0,hp1,rfl,s1⟩;refine ω _ _ (aH (fun Z H'=>∃v:Nat,v < nv/\Z=[some (.ref l),some (.int c),some (.int m),some (.ref p),some (.int v)]/\H1=H') ?_ ?_)
 ·intro u' hu
  walk_at "r";refine⟨⟨by decide,by decide⟩,_,.inl (aL.of hp1),?_⟩;rw [aa0,hwm];have z0:=ad5 (c / 1000) (show(nv:Int)≠0 by omega);have z1:=ad0 (c / 1000) (show 0 < (nv:Int)by omega);obtain⟨v,hv⟩:∃v:Nat,c / 1000 % (nv:Int)=v:=⟨(c / 1000 % (nv:Int)).toNat,by omega⟩;rw [hv]at z0 z1 |-;exact⟨by omega,hu _ _ ⟨v,by omega,rfl,rfl⟩⟩
 rintro Ω ω _ _ ⟨v,hv,rfl,rfl⟩;refine ω _ _ (aH (fun Z H'=>∃us:List Int,us.length=nv/\H' p=some (.lst (us.map V.int))/\Z=[some (.ref l),some (.int c),some (.int m),some (.ref p),some (.int v)]/\ar H H') ?_ ?_)
 ·intro u' hu
  walk_at "r";have ev:(cols[m])[v]?=some ((cols[m])[v]'(by omega)):=aa1 (by omega);refine bG (aL.of hp1) (aA (by rw [aa5,ev];rfl)) ⟨⟨by decide,by decide,by decide⟩,by omega,fun q hq=>⟨⟨by decide,by decide⟩,by decide,?_⟩⟩;have s2:=ak (o:=.lst [.int (-1),.int 1,.int (-40),.int (10 ^ Int.toNat 9+7)]) hq;have g0:=ad5 (c / 5000) (show(4:Int)≠0 by decide);have g1:=ad0 (c / 5000) (show 0 < (4:Int)by decide);refine iB (aL.of ag) g0 (by simp;omega) fun z hz _=>?_
  obtain⟨d,rfl⟩:∃d:Int,z=.int d:=by
   simp only [aa8,ac2,or_false]at hz
   rcases hz with rfl | rfl | rfl | rfl<;>exact⟨_,rfl⟩
  walk_at "r";refine⟨_,s2 _ _ hp1,v,?_,hu _ _ ⟨(cols[m]).set v ((cols[m])[v]'(by omega)+d),by rw [List.length_set];exact hwm,by rw [ag,List.map_set],rfl,xO hp0 (s1.trans s2)⟩⟩;rw [aa0,hwm];exact C0 (by omega) (by omega)
 clear hp1 s1;clear H1;rintro Ω ω _ H1 ⟨us,ul,hp1,rfl,s1⟩;have hps1:=s1 _ _ hps;refine ω _ _ ?_;walk_at "r";refine eE (aL.of hps1) fun q1 hq1=>?_;rw [iV];have s2:=ak (o:=.lst ((ps.map V.ref).take m)) hq1;have e2:(upd H1 q1 (.lst ((ps.map V.ref).take m))) q1=some (.lst ((ps.map V.ref).take m)):=ag;generalize upd H1 q1 (.lst ((ps.map V.ref).take m))=H2 at s2 e2;refine⟨_,.inl ⟨aL.of (s2 _ _ hp1),fun t ht=>⟨by omega,fun q2 hq2=>?_⟩⟩⟩;have e3:(upd H2 t (.tup (us.map V.int))) t=some (.tup (us.map V.int)):=ag;have s3:=ak (o:=.tup (us.map V.int)) ht;generalize upd H2 t (.tup (us.map V.int))=H3 at e3 s3 hq2;have e4:(upd H3 q2 (.lst [.ref t])) q2=some (.lst [.ref t]):=ag;have s4:=ak (o:=.lst [.ref t]) hq2;generalize upd H3 q2 (.lst [.ref t])=H4 at e4 s4;have s14:=(s2.trans s3).trans s4;refine iz ((s3.trans s4) _ _ e2) e4 (by simp;omega) fun q3 hq3=>?_;have e5:(upd H4 q3 (.lst ((ps.map V.ref).take m++[.ref t]))) q3=_:=ag;have s5:=ak (o:=.lst ((ps.map V.ref).take m++[.ref t])) hq3;generalize upd H4 q3 (.lst ((ps.map V.ref).take m++[.ref t]))=H5 at e5 s5;refine eE (aL.of ((s14.trans s5) _ _ hps1)) fun q4 hq4=>?_;rw [show(m:Int)+1=((m+1:Nat):Int)by omega,ft];have e6:(upd H5 q4 (.lst ((ps.map V.ref).drop (m+1)))) q4=_:=ag;have s6:=ak (o:=.lst ((ps.map V.ref).drop (m+1))) hq4;generalize upd H5 q4 (.lst ((ps.map V.ref).drop (m+1)))=H6 at e6 s6;refine iz (s6 _ _ e5) e6 (by simp;omega) fun q5 hq5=>?_;have s7:=ak (o:=.lst ((ps.map V.ref).take m++[.ref t]++(ps.map V.ref).drop (m+1))) hq5;have sT:=((s4.trans s5).trans s6).trans s7;have sA:=((s1.trans (s2.trans s3))).trans sT;have tl0:fB H ps cols:=⟨hpl,hpc⟩
 have tA:fB H (ps.take m) (cols.take m):=⟨by rw [ac3,ac3,hpl],fun i p us e1 e2=>by
  rw [aj0]at e1 e2
  split at e1
  ·rename_i h
   rw [if_pos h]at e2;exact hpc i p us e1 e2
  ·cases e1⟩
 have tC:fB H (ps.drop (m+1)) (cols.drop (m+1)):=⟨by rw [ag4,ag4,hpl],fun i p us e1 e2=>by
  rw [ag9]at e1 e2
  exact hpc _ p us e1 e2⟩
 have tB:fB H3 [t] [us]:=⟨rfl,fun i p us' e1 e2=>by
  cases i with
  | zero=>cases e1;cases e2;exact e3
  | succ i=>cases e1⟩
 refine k q5 (cols.take m++[us]++cols.drop (m+1)) _ ⟨⟨ps.take m++[t]++ps.drop (m+1),by rw [ag,ab4,ab4,ap0,List.map_drop];rfl,((tA.same sA).append (tB.same sT)).append (tC.same sA)⟩,fun c' hc'=>?_⟩ (by simp;omega) sA;rcases ac9.mp hc' with h | h
 ·rcases ac9.mp h with h | h
  ·exact hw _ (af3 h)
  ·rw [ab6.mp h]
   exact ul
 ·exact hw _ (am9 h)
def vC(In:Addr->Str->Hp->Prop)(H:Hp)(v:V)(ws:List Str):Prop:=(∃z:Str,v=.str z/\ws=[z])\/(∃n:Int,v=.int n/\n.natAbs < 10 ^ 40/\ws=[aO n])\/(∃(d:Addr) (D:List Int),v=.ref d/\H d=some (.lst (D.map V.int))/\D.length<=20/\(∀n∈D,n.natAbs < 10 ^ 40)/\ws=D.map aO)\/∃(i:Addr) (ys:List V) (z:Str),v=.ref i/\H i=some (.tup ys)/\In i z H/\ws=[z]
def u4(In:Addr->Str->Hp->Prop):Sp:=fun vs H Q _=>∃(i:Addr) (z:Str),vs=[.ref i]/\In i z H/\∀H',ar H H'->Q (.str z) H'
def jg(In:Addr->Str->Hp->Prop)(t:Addr)(z:Str)(H:Hp):Prop:=∃(xs:List V) (wss:List (List Str)),H t=some (.tup xs)/\xs.length=wss.length/\xs.length<=10/\(∀(i:Nat) (v:V) (ws:List Str),xs[i]?=some v->wss[i]?=some ws->vC In H v ws)/\(∀ws∈wss,∀y∈ws,y.length<=20000)/\(∀ws∈wss,ws.length<=20)/\z=Txt.join (Str.ofString " ") wss.flatten
theorem qE{n:Int}(h:n.natAbs < 10 ^ 40):n.natAbs.log2 < 1920:=by
 by_cases h0:n.natAbs=0
 ·rw [h0];decide
 ·exact(Nat.log2_lt h0).mpr (ab0 h (by decide +kernel))
theorem zZ{f:Str->Nat}{m:Nat}:∀{l:List Str},(∀y∈l,f y<=m)->(l.map f).sum<=l.length * m
 | [],_=>by simp
 | y::l,h=>by
  have h1:=h y (by simp);have h2:=zZ (l:=l) fun z hz=>h z (by simp [hz]);rw [ad7,List.sum_cons,ad1,Nat.add_mul];omega
theorem vC.same(hIn:∀i z H H',ar H H'->In i z H->In i z H'){v:V}(s:ar H H')(h:vC In H v ws):vC In H' v ws:=by
 rcases h with h | h | ⟨d,D,h1,h2,h3⟩ | ⟨i,ys,z,h1,h2,h3,h4⟩
 ·exact .inl h
 ·exact .inr (.inl h)
 ·exact .inr (.inr (.inl ⟨d,D,h1,s _ _ h2,h3⟩))
 ·exact .inr (.inr (.inr ⟨i,ys,z,h1,s _ _ h2,hIn _ _ _ _ s h3,h4⟩))
theorem zd(hIn:∀i z H H',ar H H'->In i z H->In i z H')(F:cM K "_law_row" "_law_row" lB f fd)(T:Txt mg aM)(D_law_row:bR P w K mg base "_law_row" j ["_law_rule"] (u4 In)):aN P w K mg base cc (j+1) f fd ["_law_rule"] (u4 (jg In)):=by
 refine F.ok sc_law_row (fun _ _ _ _ h=>?_) (fun _ A _ s H vs Q E hr h=>?_)
 ·obtain⟨t,z,rfl,_⟩:=h
  rfl
 obtain⟨t,z,rfl,⟨xs,wss,ht,hl,l10,hit,hy,hw,rfl⟩,k⟩:=h
 refine⟨_,(ae (bM (i:=1) sc_law_row.nd (bQ ah))
 (ae (bK PassesOwn.never rfl (bE K (pr 0)) (gD (i:=2) sc_law_row.nd)
 (ai (aW (bu (az (cY K) (by rfl) T.n_isinstance boot_isinstance (aa (pr 2) (aa (i5 (v:=.ty "list") (by rfl) T.n_list boot_list rfl) ah))) (fun _=>rfl)) (ai (bM (i:=1) sc_law_row.nd (aq (bz K) (pr 1) (c8 (own:=["_law_number"]) (js:=[]) rfl (bE K (pr 2)) (bw.of (by rfl)) (fun _ _ _ _ _=>(bL (i:=0) (show List.Nodup (["_law_number"]:List Str)from by decide +kernel) rfl (Or.inl rfl))) (fun _ _ _ _ _=>cJ) (fun _ _ _ _ _=>(bo (iU) (by rfl) T.n_str boot_str (aa (pr 0) ah))))))) (ai (aW (bu (az (cY K) (by rfl) T.n_isinstance boot_isinstance (aa (pr 2) (aa (i5 (v:=.ty "tuple") (by rfl) T.n_tuple boot_tuple rfl) ah))) (fun _=>rfl)) (ai (bF (bJ K PySem.F.plainAttrs_list PySem.F.slot_list_append PySem.F.type_list_append bT (pr 1) (aa (aD D_law_row hr (by rfl) (aa (pr 2) ah)) ah)))) (ai (bF (bJ K PySem.F.plainAttrs_list PySem.F.slot_list_append PySem.F.type_list_append bT (pr 1) (aa (bo (iU) (by rfl) T.n_str boot_str (aa (pr 2) ah)) ah)))))))))
 (ai (aw (bJ K PySem.F.plainAttrs_str PySem.F.slot_str_join PySem.F.type_str_join (sG K) bD (aa (pr 1) ah)))))),?_⟩
 have hs:sizeLine=16777216:=sizeLine_eq
 have fl:∀i,((wss.take i).flatten).length<=20 * i:=fun i=>by
  induction i with
  | zero=>simp
  | succ i ih=>
   rw [ac1]
   cases e:wss[i]? with
   | none=>
    rw [Option.toList_none,af4];omega
   | some ws=>
    have:=hw ws (ac5 e)
    simp only [ak9,List.flatten_append,ab2,List.flatten_singleton];omega
 obtain⟨Pv,hPv⟩:∃Pv:Nat->L2.St->Hp->Prop,Pv=fun i Z H'=>∃(q:Addr) (o2:Option V),H q=none/\H' q=some (.lst (((wss.take i).flatten).map V.str))/\Z=[some (.ref t),some (.ref q),o2]/\ar H H':=⟨_,rfl⟩;refine aH (fun Z H'=>Pv 0 Z H') ?_ ?_
 ·intro u' hu
  walk_at "r";exact⟨by omega,fun q hq=>hu _ _ (by rw [hPv];exact⟨q,none,hq,ag,rfl,ak hq⟩)⟩
 intro Ω ω;intro Z H1 h0;have hI0:=h0;rw [hPv]at hI0;obtain⟨q0,o2,_,_,rfl,s1⟩:=hI0;refine ω _ _ (aH (fun Z H'=>Pv xs.length Z H') ?_ ?_)
 ·intro u' hu
  walk_at "r";refine BP (bH.of (s1 _ _ ht)) (yX (xs:=xs) Pv h0 (fun i Z H' _ z=>by rw [hPv]at z;obtain⟨_,_,_,_,_,z⟩:=z;exact bH.of (z _ _ ht)) ?_ ?_)
  ·intro i v Z H2 hv hI
   rw [hPv]at hI;obtain⟨q,o2,hq0,hq2,rfl,s2⟩:=hI
   have hi:i < wss.length:=by rw [<-hl];exact(aa3.mp hv).1
   have ew:wss[i]?=some wss[i]:=aa1 hi;have fi:=fl i
   have nx:∀(q':Addr) (H':Hp),H q'=none->H' q'=some (.lst (((wss.take i).flatten).map V.str++(wss[i]).map V.str))->ar H H'->Pv (i+1) [some (.ref t),some (.ref q'),some v] H':=fun q' H' h1 h2 h3=>by
    rw [hPv];exact⟨q',some v,h1,by rw [h2,ac1,ew,ak9,List.flatten_append,List.flatten_singleton,ab4],rfl,h3⟩
   have it:=(hit i v _ hv ew).same hIn s2;generalize wss[i]=ws at nx it;walk_at "r";rcases it with⟨z,rfl,rfl⟩ | ⟨n,rfl,hn,rfl⟩ | ⟨d,D,rfl,hd,D20,hD,rfl⟩ | ⟨i',ys,z,rfl,hi',hin,rfl⟩
   ·refine⟨_,.str z,false,rfl,?_⟩
    rw [if_neg aa6];refine⟨_,.str z,false,rfl,?_⟩;rw [if_neg aa6];exact⟨.inl ⟨rfl,_,aL.of hq2⟩,rStr_s.mpr ⟨q,_,_,rfl,rfl,hq2,by rw [aa0];omega,nx q _ hq0 ag (xO hq0 s2)⟩⟩
   ·refine⟨_,.int n,false,rfl,?_⟩
    rw [if_neg aa6];refine⟨_,.int n,false,rfl,?_⟩;rw [if_neg aa6];exact⟨.inl ⟨rfl,_,aL.of hq2⟩,rStr_i.mpr ⟨qE hn,q,_,_,rfl,rfl,hq2,by rw [aa0];omega,nx q _ hq0 ag (xO hq0 s2)⟩⟩
   ·refine⟨_,.lst hd,true,rfl,?_⟩
    rw [if_pos rfl];refine bN (aL.of hd) (rT (aL.of hd) (fun x hx=>?_) (by rw [aa0];omega) fun p hp=>?_)
    ·obtain⟨n,hn,rfl⟩:=ac0.mp hx
     exact .inr ⟨n,rfl,hD n hn⟩
    ·have ed:(D.map V.int).map qf=D.map aO:=by rw [ai0];rfl
     rw [ed];have s3:=ak (o:=.lst ((D.map aO).map V.str)) hp;exact iz (s3 _ _ hq2) ag (by rw [aa0,aa0,aa0];omega) fun q' hq'=>nx q' _ ((s2.trans s3).free hq') ag ((s2.trans s3).upd hq')
   ·refine⟨_,.tup hi',false,rfl,?_⟩
    rw [if_neg aa6];refine⟨_,.tup hi',true,rfl,?_⟩;rw [if_pos rfl];exact⟨.inl ⟨rfl,_,aL.of hq2⟩,i',z,rfl,hin,fun H3 s3=>⟨q,_,_,rfl,rfl,s3 _ _ hq2,by rw [aa0];omega,nx q _ hq0 ag (xO hq0 (s2.trans s3))⟩⟩
  ·intro Z H' hI
   exact hu _ _ hI
 intro Ω ω;intro Z H2 hI;rw [hPv]at hI;obtain⟨q,o2,hq0,hq2,rfl,s2⟩:=hI;rw [hl,ac8]at hq2;refine ω _ _ ?_;walk_at "r";have f9:=fl wss.length;rw [ac8]at f9
 have hsum:=zZ (f:=fun y=>y.length) (m:=20000) (l:=wss.flatten) fun y hy'=>by
  obtain⟨ws,h1,h2⟩:=List.mem_flatten.mp hy';exact hy ws h1 y h2
 have o1:(Str.ofString " ").length=1:=by decide +kernel
 refine⟨_,aL.of hq2,?_,k _ s2⟩;rw [o1];omega
def Cd:Addr->Str->Hp->Prop:=fun _ _ _=>False
theorem jg.same(hIn:∀i z H H',ar H H'->In i z H->In i z H'):∀i z H H',ar H H'->jg In i z H->jg In i z H':=fun i z H H' s ⟨xs,wss,h1,h2,h3,h4,h5⟩=>⟨xs,wss,s _ _ h1,h2,h3,fun i v ws e1 e2=>(h4 i v ws e1 e2).same hIn s,h5⟩
theorem A7(e m a k:Str)(ws:List Str):Txt.join (Str.ofString " ") [e,m,a,Txt.join (Str.ofString " ") (k::ws)]=Txt.join (Str.ofString " ") (e::m::a::k::ws):=by
 refine str_iff.mpr ?_;rw [show Str.ofString " "=⟨#[32]⟩by decide +kernel,cA,cA];simp only [ad7,ah9,cA,cQ];simp
theorem Dg:aN P w K mg base cc 2 f fd ["_law_rule"] (u4 Cd):=by
 refine⟨fun vs H Q E h=>?_,fun A outer s H args us vs Q E hr he hb hv h=>?_⟩<;>(obtain⟨_,_,_,h,_⟩:=h;exact h.elim)
theorem zL:∀{R:aE},qK R->gn H t R->jg (jg Cd) t (cK R) H
 | .plain (.held o m),ok,h=>by
  have hn:=ok.1;have n1:=hn (o+1) (by simp [b0]);have n2:=hn m (by simp [b0]);have a1:=bI n1;have a2:=bI n2;refine⟨_,[["held"],[aO (o+1)],[aO m]],h,rfl,by simp,fun i v ws e1 e2=>?_,?_,?_,rfl⟩
  ·rcases i with _ | _ | _ | i
   ·cases e1;cases e2;exact .inl ⟨_,rfl,rfl⟩
   ·cases e1;cases e2;exact .inr (.inl ⟨_,rfl,n1,rfl⟩)
   ·cases e1;cases e2;exact .inr (.inl ⟨_,rfl,n2,rfl⟩)
   ·cases e1
  ·intro ws hws y hy
   simp only [aa8,ac2,or_false]at hws
   rcases hws with rfl | rfl | rfl<;>(rw [ab6.mp hy];first | omega | decide +kernel)
  ·intro ws hws
   simp only [aa8,ac2,or_false]at hws
   rcases hws with rfl | rfl | rfl<;>simp
 | .plain (.times o nt lw hg),ok,h=>by
  have hn:=ok.1;have n1:=hn (o+1) (by simp [b0]);have n2:=hn nt (by simp [b0]);have n3:=hn lw (by simp [b0]);have n4:=hn hg (by simp [b0]);have a1:=bI n1;have a2:=bI n2;have a3:=bI n3;have a4:=bI n4;refine⟨_,[["times"],[aO (o+1)],[aO nt],[aO lw],[aO hg]],h,rfl,by simp,fun i v ws e1 e2=>?_,?_,?_,rfl⟩
  ·rcases i with _ | _ | _ | _ | _ | i
   ·cases e1;cases e2;exact .inl ⟨_,rfl,rfl⟩
   ·cases e1;cases e2;exact .inr (.inl ⟨_,rfl,n1,rfl⟩)
   ·cases e1;cases e2;exact .inr (.inl ⟨_,rfl,n2,rfl⟩)
   ·cases e1;cases e2;exact .inr (.inl ⟨_,rfl,n3,rfl⟩)
   ·cases e1;cases e2;exact .inr (.inl ⟨_,rfl,n4,rfl⟩)
   ·cases e1
  ·intro ws hws y hy
   simp only [aa8,ac2,or_false]at hws
   rcases hws with rfl | rfl | rfl | rfl | rfl<;>(rw [ab6.mp hy];first | omega | decide +kernel)
  ·intro ws hws
   simp only [aa8,ac2,or_false]at hws
   rcases hws with rfl | rfl | rfl | rfl | rfl<;>simp
 | .every m a (.span o u D),ok,⟨i,d,h1,h2,h3⟩=>by
  obtain⟨⟨hn,D1,D2⟩,m1,a1⟩:=ok;have n1:=hn (o+1) (by simp [b0]);have n2:=hn (u+1) (by simp [b0]);have nD:∀n∈D,n.natAbs < 10 ^ 40:=fun n h=>hn n (by simp [b0,h]);have b1:=bI n1;have b2:=bI n2;have b3:=bI m1;have b4:=bI a1
  have inn:jg Cd i (Txt.join (Str.ofString " ") ("span"::aO (o+1)::aO (u+1)::D.map aO)) H:=by
   refine⟨_,[["span"],[aO (o+1)],[aO (u+1)],D.map aO],h2,rfl,by simp,fun i v ws e1 e2=>?_,?_,?_,by simp⟩
   ·rcases i with _ | _ | _ | _ | i
    ·cases e1;cases e2;exact .inl ⟨_,rfl,rfl⟩
    ·cases e1;cases e2;exact .inr (.inl ⟨_,rfl,n1,rfl⟩)
    ·cases e1;cases e2;exact .inr (.inl ⟨_,rfl,n2,rfl⟩)
    ·cases e1;cases e2;exact .inr (.inr (.inl ⟨d,D,rfl,h3,by omega,nD,rfl⟩))
    ·cases e1
   ·intro ws hws y hy
    simp only [aa8,ac2,or_false]at hws;rcases hws with rfl | rfl | rfl | rfl
    ·rw [ab6.mp hy];decide +kernel
    ·rw [ab6.mp hy];omega
    ·rw [ab6.mp hy];omega
    ·obtain⟨n,hn',rfl⟩:=ac0.mp hy
     have:=bI (nD n hn')
     omega
   ·intro ws hws
    simp only [aa8,ac2,or_false]at hws;rcases hws with rfl | rfl | rfl | rfl
    ·simp
    ·simp
    ·simp
    ·rw [aa0];omega
  have tl:=(fk (.plain (.span o u D)) ⟨hn,D1,D2⟩).1;refine⟨_,[["every"],[aO m],[aO a],[Txt.join (Str.ofString " ") ("span"::aO (o+1)::aO (u+1)::D.map aO)]],h1,rfl,by simp,fun j v ws e1 e2=>?_,?_,?_,(A7 "every" (aO m) (aO a) "span" _).symm⟩
  ·match j with
   | 0=>cases e1;cases e2;exact .inl ⟨_,rfl,rfl⟩
   | 1=>cases e1;cases e2;exact .inr (.inl ⟨_,rfl,m1,rfl⟩)
   | 2=>cases e1;cases e2;exact .inr (.inl ⟨_,rfl,a1,rfl⟩)
   | 3=>cases e1;cases e2;exact .inr (.inr (.inr ⟨i,_,_,rfl,h2,inn,rfl⟩))
   | j+4=>cases e1
  ·intro ws hws y hy
   simp only [aa8,ac2,or_false]at hws;rcases hws with rfl | rfl | rfl | rfl
   ·rw [ab6.mp hy];decide +kernel
   ·rw [ab6.mp hy];omega
   ·rw [ab6.mp hy];omega
   ·rw [ab6.mp hy]
    exact ab9 tl (by decide)
  ·intro ws hws
   simp only [aa8,ac2,or_false]at hws
   rcases hws with rfl | rfl | rfl | rfl<;>simp
 | .plain (.span _ _ _),_,h=>h.elim
 | .every _ _ (.held _ _),_,h=>h.elim
 | .every _ _ (.times _ _ _ _),_,h=>h.elim
def oE(b:Int×Int):Str:=Str.ofString "voice " ++ aO b.1++Str.ofString " " ++ aO b.2
def gK(bs:List (Int×Int))(Rs:List aE):List Str:=bs.map oE++Rs.map cK
def jB(bs:List (Int×Int))(Rs:List aE):Str:=Txt.join (Str.ofString "\n") (gK bs Rs)
theorem iT(a b:Str):(a++b).length=a.length+b.length:=by
 show(a.cps++b.cps).size=a.cps.size+b.cps.size;exact ao5
theorem mD{n:Int}(h:n.natAbs < 10 ^ 40):(aO n).length<=41:=bI h
theorem Al(h1:b.1.natAbs < 10 ^ 40)(h2:b.2.natAbs < 10 ^ 40):(oE b).length<=89:=by
 have e1:(Str.ofString "voice ").length=6:=by decide +kernel
 have e2:(Str.ofString " ").length=1:=by decide +kernel
 have:=mD h1
 have:=mD h2
 unfold oE;rw [iT,iT,iT];omega
def rF(K:Frag):Sp:=fun vs H Q _=>∃(a q:Addr) (bs:List (Int×Int)) (Rs:List aE),vs=[.ref a,.ref q]/\bW K H a bs/\fV H q Rs/\bs.length<=10/\Rs.length<=30/\(∀b∈bs,b.1.natAbs < 10 ^ 40/\b.2.natAbs < 10 ^ 40)/\(∀R∈Rs,qK R)/\∀H',ar H H'->Q (.str (jB bs Rs)) H'
theorem ze(F:cM K "_law_text" "_law_text" jq f fd)(T:Txt mg aM)(D_law_row:bR P w K mg base "_law_row" 4 ["_law_rule"] (u4 (jg (jg Cd)))):aN P w K mg base cc 5 f fd ["_law_ranges_here","_law_rules"] (rF K):=by
 refine F.ok sc_law_text (fun _ _ _ _ h=>?_) (fun _ A _ s H vs Q E hr h=>?_)
 ·obtain⟨a,q,bs,Rs,rfl,_⟩:=h
  rfl
 obtain⟨a,q,bs,Rs,rfl,⟨ts,hts,htl,htc⟩,⟨rs,hrs,hrl,hrc⟩,lb,lr,hb,hR,k⟩:=h
 refine⟨_,(ae (nQ (i:=2) sc_law_text.nd rfl (Or.inl rfl) (own:=["_law_low","_law_high"]) (js:=[]) rfl (bE K (pr 0)) (bw.of (by rfl)) (fun _ _ _ _ _=>(cR K (n:=2) rfl (ba (bL (i:=0) (show List.Nodup (["_law_low","_law_high"]:List Str)from by decide +kernel) rfl (Or.inl rfl)) (ba (bL (i:=1) (show List.Nodup (["_law_low","_law_high"]:List Str)from by decide +kernel) rfl (Or.inl rfl)) cS)))) (fun _ _ _ _ _=>cJ) (fun _ _ _ _ _=>(aq (bz K) (aq (bz K) (aq (bz K) bD (bo (iU) (by rfl) T.n_str boot_str (aa (pr 0) ah))) bD) (bo (iU) (by rfl) T.n_str boot_str (aa (pr 1) ah)))) rfl)
 (ai (aw (bJ K PySem.F.plainAttrs_str PySem.F.slot_str_join PySem.F.type_str_join (sG K) bD (aa (aq (bz K) (pr 2) (c8 (own:=["_law_rule"]) (js:=[]) rfl (bE K (pr 1)) (bw.of (by rfl)) (fun _ _ _ _ _=>(bL (i:=0) (show List.Nodup (["_law_rule"]:List Str)from by decide +kernel) rfl (Or.inl rfl))) (fun _ _ _ _ _=>cJ) (fun _ _ _ _ _=>(aD D_law_row hr (by rfl) (aa (pr 0) ah))))) ah))))),?_⟩
 have hs:sizeLine=16777216:=sizeLine_eq;refine aH (fun Z H'=>∃p:Addr,H p=none/\H' p=some (.lst ((bs.map oE).map V.str))/\Z=[some (.ref a),some (.ref q),some (.ref p)]/\ar H H') ?_ ?_
 ·intro u' hu
  walk_at "r";refine bN hts (cz (xs:=ts.map V.ref) (fun i ys H'=>ys=((bs.take i).map oE).map V.str/\H=H') (by rw [aa0];omega) ⟨rfl,rfl⟩ ?_ ?_ ?_ ?_)
  ·rintro i ys H' ⟨rfl,rfl⟩
   rw [aa0,aa0,ac3];omega
  ·rintro i ys H' ⟨rfl,rfl⟩
   exact hts
  ·rintro i y ys H' hy ⟨rfl,rfl⟩
   rw [aa5]at hy
   cases ht:ts[i]? with
   | none=>rw [ht]at hy;cases hy
   | some t=>
    rw [ht]at hy;cases hy
    have hi:i < bs.length:=by rw [<-htl];exact(aa3.mp ht).1
    have hbi:bs[i]?=some bs[i]:=aa1 hi;walk_at "r";refine⟨_,htc i t _ ht hbi,rfl,?_⟩;walk_at "r";obtain⟨n1,n2⟩:=hb _ (ad6 hi)
    have e1:(Str.ofString "voice ").length=6:=by decide +kernel
    have e2:(Str.ofString " ").length=1:=by decide +kernel
    have:=mD n1
    have:=mD n2
    refine⟨qE n1,by omega,by rw [iT];omega,qE n2,by rw [iT,iT];omega,?_⟩;rw [ac1,hbi,ab4,ab4];rfl
  ·rintro ys H' ⟨rfl,rfl⟩ p hp
   rw [aa0,htl,ac8];exact hu _ _ ⟨p,hp,ag,rfl,ak hp⟩
 rintro Ω ω _ H1 ⟨p,hp0,hp1,rfl,s1⟩;have hq1:=aL.of (K:=K) (s1 _ _ hrs);have hIn2:=jg.same (jg.same (In:=Cd) fun _ _ _ _ _ h=>h);refine ω _ _ ?_;walk_at "r";refine bN hq1 (cz (xs:=rs.map V.ref) (fun i ys H'=>ys=((Rs.take i).map cK).map V.str/\ar H1 H') (by rw [aa0];omega) ⟨rfl,ar.refl _⟩ ?_ ?_ ?_ ?_)
 ·rintro i ys H' ⟨rfl,_⟩
  rw [aa0,aa0,ac3];omega
 ·rintro i ys H' ⟨rfl,s2⟩
  exact s2.seq hq1
 ·rintro i y ys H' hy ⟨rfl,s2⟩
  rw [aa5]at hy
  cases ht:rs[i]? with
  | none=>rw [ht]at hy;cases hy
  | some t=>
   rw [ht]at hy;cases hy
   have hi:i < Rs.length:=by rw [<-hrl];exact(aa3.mp ht).1
   have hRi:Rs[i]?=some Rs[i]:=aa1 hi;walk_at "r";refine⟨t,_,rfl,zL (hR _ (ad6 hi)) ((hrc i t _ ht hRi).same (s1.trans s2)),fun H3 s3=>⟨?_,s2.trans s3⟩⟩;rw [ac1,hRi,ab4,ab4];rfl
 ·rintro ys H2 ⟨rfl,s2⟩ p2 hp2
  rw [aa0,hrl,ac8];have s3:=ak (o:=.lst ((Rs.map cK).map V.str)) hp2;refine iz ((s2.trans s3) _ _ hp1) ag (by simp;omega) fun q' hq'=>?_;walk_at "r";refine⟨gK bs Rs,aL.of (by rw [ag];unfold gK;rw [ab4]),?_,k _ (((s1.trans s2).trans s3).upd hq')⟩
  have hl:∀z∈gK bs Rs,z.length<=20000:=fun z hz=>by
   rcases ac9.mp hz with hz | hz
   ·obtain⟨b,hb',rfl⟩:=ac0.mp hz
    have:=Al (hb b hb').1 (hb b hb').2
    omega
   ·obtain⟨R,hR',rfl⟩:=ac0.mp hz
    exact ab9 (fk R (hR R hR')).1 (by decide)
  have h1:=StrLaws.sumLen_le (B:=20000) (gK bs Rs) hl
  have e1:(Str.ofString "\n").length=1:=by decide +kernel
  have l16:(gK bs Rs).length<=40:=by
   unfold gK;rw [ab2,aa0,aa0];omega
  rw [e1]
  have:=an0 20000 l16
  omega
theorem wg(h1:b.1.natAbs < 10 ^ 40)(h2:b.2.natAbs < 10 ^ 40):fw (oE b) (Str.ofString "voice") [b.1,b.2]:=zJ (by decide +kernel) h1 h2 (by decide +kernel) (by decide +kernel) (by decide +kernel)
theorem yT{c d:Nat}(hne:d≠c):∀ps:List (List Nat),(∀p∈ps,d∉p)->d∉cQ c ps
 | [],_=>by simp [cQ]
 | p::r,h=>by
  intro hd;rw [cQ,ac9,List.mem_flatten]at hd;rcases hd with hd | ⟨l,hl,hd⟩
  ·exact h p (.head _) hd
  ·obtain⟨q,hq,rfl⟩:=ac0.mp hl
   rcases aa8.mp hd with e | e
   ·exact hne e
   ·exact h q (.tail _ hq) e
theorem j9(n:Int):10∉(aO n).cps.toList:=fun h=>by
 have:=nA n 10 h
 omega
theorem yU(R:fg):10∉(cG R).cps.toList:=by
 cases R<;>(simp only [cG];decide +kernel)
theorem sD(h:∀z∈ws,10∉z.cps.toList):10∉(Txt.join (Str.ofString " ") ws).cps.toList:=by
 rw [show(Str.ofString " ")=⟨#[32]⟩by decide +kernel,cA];refine yT (by decide) _ fun p hp=>?_;obtain⟨z,hz,rfl⟩:=ac0.mp hp;exact h z hz
theorem vv(R:aE):10∉(cK R).cps.toList:=by
 have one:∀R:fg,∀z∈cG R::(b0 R).map aO,10∉z.cps.toList:=fun R z hz=>by
  rcases aa8.mp hz with rfl | hz
  ·exact yU R
  ·obtain⟨n,_,rfl⟩:=ac0.mp hz
   exact j9 n
 cases R with
 | plain R=>exact sD (one R)
 | every m a R=>
  refine sD fun z hz=>?_;rcases aa8.mp hz with rfl | hz
  ·decide +kernel
  rcases aa8.mp hz with rfl | hz
  ·exact j9 m
  rcases aa8.mp hz with rfl | hz
  ·exact j9 a
  exact one R z hz
theorem Am(b:Int×Int):10∉(oE b).cps.toList:=by
 show 10∉((Str.ofString "voice ").cps++(aO b.1).cps++(Str.ofString " ").cps++(aO b.2).cps).toList;rw [ah5,ah5,ah5];intro h;rcases ac9.mp h with h | h
 ·rcases ac9.mp h with h | h
  ·rcases ac9.mp h with h | h
   ·exact absurd h (by decide +kernel)
   ·exact j9 _ h
  ·exact absurd h (by decide +kernel)
 ·exact j9 _ h
theorem vc{Rs:List aE}(h:1<=bs.length):Txt.split (jB bs Rs) ⟨#[10]⟩=bs.map oE++Rs.map cK:=by
 have h:bs.map oE++Rs.map cK≠[]:=fun e=>by
  rw [List.map_eq_nil_iff.mp (List.append_eq_nil_iff.mp e).1]at h;exact absurd h (by decide)
 unfold jB gK;rw [show(Str.ofString "\n")=⟨#[10]⟩by decide +kernel];refine lY (by decide) h fun z hz=>?_;rcases ac9.mp hz with hz | hz
 ·obtain⟨b,_,rfl⟩:=ac0.mp hz
  exact Am b
 ·obtain⟨R,_,rfl⟩:=ac0.mp hz
  exact vv R
theorem Ai{Rs:List aE}(b4:bs.length<=4)(r4:Rs.length<=12)(hb:∀b∈bs,b.1.natAbs < 10 ^ 40/\b.2.natAbs < 10 ^ 40)(hR:∀R∈Rs,qK R):(jB bs Rs).length<=1000000:=by
 unfold jB gK;rw [aZ,show(Str.ofString "\n")=⟨#[10]⟩by decide +kernel,cA]
 have hl:=iX 10 ((bs.map oE++Rs.map cK).map fun z=>z.cps.toList) 10000 (fun p hp=>by
  obtain⟨z,hz,rfl⟩:=ac0.mp hp;rw [<-aZ];rcases ac9.mp hz with hz | hz
  ·obtain⟨b,hb',rfl⟩:=ac0.mp hz
   exact(wg (hb b hb').1 (hb b hb').2).len
  ·obtain⟨R,hR',rfl⟩:=ac0.mp hz
   exact(fk R (hR R hR')).1)
 simp only [aa0,ab2]at hl;omega
theorem BU{Rs:List aE}{E}(b1:1<=bs.length)(b4:bs.length<=4)(r12:Rs.length<=12)(hb:∀b∈bs,Bh b)(hR:∀R∈Rs,Ef bs.length R)(hz:∀R∈Rs,bV R<=400)(hw:dB bs Rs<=400)(q:∀x H',dw P w K mg base C bs.length bs Rs x H'->ar H H'->Q (.ref x) H'):mM P w K mg base C [.str (jB bs Rs)] H Q E:=by
 have n36:=Fw;have n40:=F6
 have nb:∀b∈bs,b.1.natAbs < 10 ^ 40/\b.2.natAbs < 10 ^ 40:=fun b h=>by
  obtain⟨h1,h2,h3⟩:=hb b h;rw [n36]at h2;rw [n40];omega
 refine⟨jB bs Rs,bs,oE,Rs,rfl,Ai b4 r12 nb fun R h=>(hR R h).2.1,vc b1,b1,b4,r12,fun b h=>⟨wg (nb b h).1 (nb b h).2,(hb b h).1,?_⟩,fun R h=>⟨(hR R h).1,(hR R h).2.1,?_⟩,hw,q⟩
 ·obtain⟨h1,_,h3⟩:=hb b h
  unfold fR;omega
 ·have:=(hR R h).2.2
  have:=hz R h
  omega
theorem yw{Rs:List aE}{E}(TC:dm K C)(SA:dw P w K mg base C bs.length bs Rs x H)(LL:eW K H l bs.length cols)(hc:cols.length<=1000)(b4:bs.length<=4)(r4:Rs.length<=12)(q:∀v o H',jK K H' v o->g6 (fun k=>k∈aX 0 (places bs Rs cols)) o->ar H H'->Q v H'):mK P w K mg base [.ref x,.ref l] H Q E:=by
 refine⟨x,C,l,bs,Rs,cols,rfl,TC,SA,LL,hc,b4,r4,fun e H' s=>q _ none _ (.inl ⟨rfl,rfl⟩) (.inl ⟨rfl,fun k hk=>?_⟩) s,fun t k H' hk hm ht s=>q _ (some k) _ (.inr ⟨t,k,rfl,rfl,ht⟩) (.inr ⟨k,rfl,hk,hm⟩) s⟩;rw [e]at hk;cases hk
def u6(K:Frag):Sp:=fun vs H Q _=>∃(c:Int) (pa of_:Addr) (lo hi:Int) (n:Nat) (x:V) (h m:Int),vs=[.int c,.ref pa,.int n,.int h,.ref of_]/\bH K H pa [.int lo,.int hi]/\lo<=hi/\n<=200/\1<=h/\h<=400/\H of_=some (.tup [x,.int m])/\(x=.non\/∃k:Int,x=.int k)/\∀q ys H',ys.length=n->H' q=some (.lst ((ys:List Int).map V.int))->H q=none->ar H H'->Q (.ref q) H'
theorem Bm(F:cM K "_law_runs" "_law_runs" jo f fd)(T:Txt mg aM)(D_law_draws:bR P w K mg base "_law_draws" 1 ["_law_cell","_law_many"] ku):aN P w K mg base cc 2 f fd ["_law_cell","_law_pair","_law_many","_law_held","_law_often"] (u6 K):=by
 refine F.ok sc_law_runs (fun _ _ _ _ h=>?_) (fun _ A _ s H vs Q E hr h=>?_)
 ·obtain⟨c,pa,of_,lo,hi,n,x,h,m,rfl,_⟩:=h
  rfl
 obtain⟨c,pa,of_,lo,hi,n,x,h,m,rfl,hp,lh,n2,h1,h4,hof,hx,k⟩:=h
 refine⟨_,(ae (lj (pr 1) (cR K (n:=2) rfl (ba (gD (i:=5) sc_law_runs.nd) (ba (gD (i:=6) sc_law_runs.nd) cS))))
 (ae (bM (i:=7) sc_law_runs.nd (aD D_law_draws hr (by rfl) (aa (pr 0) (aa (aq (gI K) af (pr 2)) ah))))
 (ae (bM (i:=8) sc_law_runs.nd (bQ ah))
 (ae (bM (i:=9) sc_law_runs.nd af)
 (ae (bK PassesOwn.never rfl (c9 rfl T.n_range (aa (pr 2) ah)) (gD (i:=10) sc_law_runs.nd)
 (ae (bM (i:=11) sc_law_runs.nd (aq (bz K) (pr 5) (aq (o1 bc) (ax (aG K) (pr 7) (aq (gI K) af (pr 10)) (fun _ _=>rfl)) (aq (bz K) (aq (o0 bZ) (pr 6) (pr 5)) af))))
 (ae (aW (PW.pt (dq (PW.pt (fY (bh (av kX (pr 11) (ax (aG K) (pr 4) af (fun _ _=>rfl)) (aB _))) (fj (bh (av (o0 zi) (pr 9) (ax (aG K) (pr 4) af (fun _ _=>rfl)) (aB _)))))) (cW (bh (av (zg K) (pr 11) (cy (ko K) (pr 8) (ka (sV (u1 oz) af)) cT) (by with_unfolding_all rfl)))))) (ai (bM (i:=11) sc_law_runs.nd (aq (bz K) (pr 5) (aq (o1 bc) (aq (bz K) (aq (o0 bZ) (pr 11) (pr 5)) af) (aq (bz K) (aq (o0 bZ) (pr 6) (pr 5)) af))))) aF)
 (ae (bM (i:=12) sc_law_runs.nd (ax (aG K) (bQ (aa (aq (bz K) af (aq (o1 bc) (aq (o1 cj) (ax (aG K) (pr 7) (aq (bz K) (aq (gI K) af (pr 10)) af) (fun _ _=>rfl)) af) (pr 3))) (aa (pr 3) (aa af ah)))) (aq (o1 bc) (ax (aG K) (pr 7) (aq (bz K) (aq (gI K) af (pr 10)) af) (fun _ _=>rfl)) af) (fun _ _=>rfl)))
 (ae (aW (bh (av kX (aq (o1 bc) (aq (o1 cj) (ax (aG K) (pr 7) (aq (bz K) (aq (gI K) af (pr 10)) af) (fun _ _=>rfl)) af) af) af (aB _))) (ai (bM (i:=12) sc_law_runs.nd (aq (bz K) (pr 3) af))) aF)
 (ae (aW (bh (av kX (pr 11) (ax (aG K) (pr 4) af (fun _ _=>rfl)) (aB _))) (ae (bM (i:=12) sc_law_runs.nd (az (kG rfl) (by rfl) T.n_min boot_min (aa (pr 12) (aa (az (pJ rfl) (by rfl) T.n_max boot_max (aa af (aa (aq (o0 bZ) (ax (aG K) (pr 4) af (fun _ _=>rfl)) (pr 9)) ah))) ah))))
 (ai (bM (i:=9) sc_law_runs.nd (aq (bz K) (pr 9) (pr 12))))) aF)
 (ae (bM (i:=8) sc_law_runs.nd (aq (bz K) (pr 8) (aq (gI K) (bQ (aa (pr 11) ah)) (pr 12))))
 (ai (aW (bh (av (o0 zi) (az (aC K) (by rfl) T.n_len boot_len (aa (pr 8) ah)) (pr 2) (aB _))) (ai (aw (cy (ko K) (pr 8) cT (ka (pr 2))))) aF)))))))))
 (ai (aw (pr 8)))))))),?_⟩
 have hs:sizeLine=16777216:=sizeLine_eq;refine aH (fun Z H'=>Z=[some (.int c),some (.ref pa),some (.int n),some (.int h),some (.ref of_),some (.int lo),some (.int hi),none,none,none,none,none,none]/\H=H') ?_ ?_
 ·intro u' hu
  walk_at "r";exact⟨_,hp,rfl,_,_,rfl,_,_,rfl,rfl,hu _ _ ⟨rfl,rfl⟩⟩
 rintro Ω ω _ _ ⟨rfl,rfl⟩;refine ω _ _ (aH (fun Z H'=>∃(wa:Addr) (ws:List Int),ws.length=2 * n/\(∀y∈ws,0<=y/\y < 399999)/\H' wa=some (.lst (ws.map V.int))/\Z=[some (.int c),some (.ref pa),some (.int n),some (.int h),some (.ref of_),some (.int lo),some (.int hi),some (.ref wa),none,none,none,none,none]/\ar H H') ?_ ?_)
 ·intro u' hu
  walk_at "r";exact⟨.of_left (by decide),_,2 * n,rfl,by omega,fun q ys H' hl hy _ hq s1=>hu _ _ ⟨q,ys,hl,hy,hq,rfl,s1⟩⟩
 rintro Ω ω _ H1 ⟨wa,ws,wl,hy,hw,rfl,s1⟩
 have way:∀{H':Hp} {Q':VK} (i:Nat),ar H1 H'->i < 2 * n->(∀y:Int,0<=y->y < 399999->Q' (.int y) H')->pe K (.ref wa) (.int i) H' Q':=fun {H' Q'} i s' hi q=>by
  have e:ws[i]?=some ws[i]:=aa1 (by omega);exact bG (aL.of (s' _ _ hw)) (aA (by rw [aa5,e];rfl)) (q _ (hy _ (ad6 _)).1 (hy _ (ad6 _)).2)
 have j0:dC [x,V.int m] ((0:Nat):Int)=some x:=aA rfl;have j1:dC [x,V.int m] ((1:Nat):Int)=some (.int m):=aA rfl;have of1:∀{H':Hp} {Q':VK},ar H1 H'->Q' x H'->pe K (.ref of_) (.int 0) H' Q':=fun {H' Q'} s' q=>aR (bH.of (s' _ _ (s1 _ _ hof))) j0 q;have of2:∀{H':Hp} {Q':VK},ar H1 H'->Q' (.int m) H'->pe K (.ref of_) (.int 1) H' Q':=fun {H' Q'} s' q=>aR (bH.of (s' _ _ (s1 _ _ hof))) j1 q
 have sEq:∀{H':Hp} {Q':VK} (z:Int),(∀b,Q' (.bl b) H')->sZ (.int z) x H' Q':=fun {H' Q'} z q=>by
  rcases hx with rfl | ⟨y,rfl⟩<;>exact⟨rfl,q _⟩
 obtain⟨Pv,hPv⟩:∃Pv:Nat->L2.St->Hp->Prop,Pv=fun i Z H'=>∃(o10 o11 o12:Option V) (cn:Int) (na:Addr) (ns:List Int),(i=0/\ns=[]\/i<=ns.length/\ns.length < n)/\0<=cn/\H na=none/\H' na=some (.lst (ns.map V.int))/\Z=[some (.int c),some (.ref pa),some (.int n),some (.int h),some (.ref of_),some (.int lo),some (.int hi),some (.ref wa),some (.ref na),some (.int cn),o10,o11,o12]/\ar H1 H':=⟨_,rfl⟩;refine ω _ _ (aH (fun Z H'=>∃na,H1 na=none/\H' na=some (.lst [])/\Z=[some (.int c),some (.ref pa),some (.int n),some (.int h),some (.ref of_),some (.int lo),some (.int hi),some (.ref wa),some (.ref na),none,none,none,none]/\ar H1 H') ?_ ?_)
 ·intro u' hu
  walk_at "r";exact⟨by omega,fun p hp=>hu _ _ ⟨p,hp,ag,rfl,ak hp⟩⟩
 rintro Ω ω _ H2 ⟨na,hn0,hn1,rfl,s2⟩
 have g0:∀{p:Addr},H1 p=none->H p=none:=fun {p} hp=>by
  cases e:H p with
  | none=>rfl
  | some o=>rw [s1 _ _ e]at hp;cases hp
 refine ω _ _ (aH (fun Z H'=>Pv 0 Z H') ?_ ?_)
 ·intro u' hu
  walk_at "r";exact hu _ _ (by rw [hPv];exact⟨none,none,none,0,na,[],.inl ⟨rfl,rfl⟩,by decide,g0 hn0,hn1,rfl,s2⟩)
 intro Ω ω;intro Y3 H0' hI0;refine ω _ _ (aH (fun Z H'=>Pv n Z H') ?_ ?_)
 ·intro u' hu
  have hI0':=hI0;rw [hPv]at hI0';obtain⟨o10,o11,o12,cn,na,ns,hn,c0,hna,hna1,rfl,s3⟩:=hI0';walk_at "r";refine⟨by omega,by omega,cB Pv hI0 ?_ ?_⟩
  ·clear hI0 hna1 hna hn c0 s3
   intro i Z H' hin hI;rw [hPv]at hI;obtain⟨o10,o11,o12,cn,na,ns,hn,c0,hna,hna1,rfl,s3⟩:=hI
   have hin':i < n:=by omega
   have nl:ns.length < 200:=by
    rcases hn with⟨_,rfl⟩ | ⟨_,h⟩
    ·exact(by decide)
    ·omega
   have wd:0 < hi - lo+1:=by omega
   clear hy hp;refine aH (fun Z H2=>∃z:Int,Z=[some (.int c),some (.ref pa),some (.int n),some (.int h),some (.ref of_),some (.int lo),some (.int hi),some (.ref wa),some (.ref na),some (.int cn),some (.int i),some (.int z),o12]/\H'=H2) ?_ ?_
   ·intro u2 ee
    walk_at "r";exact⟨.of_left (by decide),way (2 * i) s3 (by omega) fun y _ _=>⟨y,rfl,wd,ee _ _ ⟨_,rfl,rfl⟩⟩⟩
   rintro Ω ω _ _ ⟨z,rfl,rfl⟩
   have sub:∀{G:V->Hp->Prop},(∀H2 b,ar H' H2->G (.bl b) H2)->uO K (.ref na) (some (-1)) none H' fun y H2=>uL K (.int z) y H2 G:=fun {G} q=>eE (aL.of hna1) fun p hp=>by
    obtain⟨ms,e,_,_⟩:=yc ns (some (-1)) none;rw [e];refine .inr ⟨p,_,rfl,.inl (aL.of ag),rfl,?_,q _ _ (ak hp)⟩;rw [ai9];exact ag7.mpr fun _ _=>rfl
   refine ω _ _ (aH (fun Z H2=>∃z:Int,Z=[some (.int c),some (.ref pa),some (.int n),some (.int h),some (.ref of_),some (.int lo),some (.int hi),some (.ref wa),some (.ref na),some (.int cn),some (.int i),some (.int z),o12]/\ar H' H2) ?_ ?_)
   ·intro u2 ee
    refine ig fun A0 B0 hA hB=>?_
    have yes:∀H2,ar H' H2->A0 H2:=fun H2 s4=>hA _ (by
     walk_at "r"
     exact⟨wd,ee _ _ ⟨_,rfl,s4⟩⟩)
    have no:∀H2,ar H' H2->B0 H2:=fun H2 s4=>hB _ (ee _ _ ⟨_,rfl,s4⟩);walk_at "r";refine of1 s3 (sEq z fun b=>⟨b,rfl,?_⟩)
    have ab:∀{H2:Hp} (b:Bool),ar H' H2->if b=true then A0 H2 else B0 H2:=fun {H2} b s4=>by
     cases b
     ·exact no _ s4
     ·exact yes _ s4
    cases b
    ·exact sub fun H2 b s4=>⟨b,rfl,ab b s4⟩
    ·refine of2 s3 ⟨m,rfl,?_⟩
     by_cases hm:m<=cn
     ·rw [if_pos hm]
      exact yes _ (ar.refl _)
     ·rw [if_neg hm]
      exact sub fun H2 b s4=>⟨b,rfl,ab b s4⟩
   clear sub z;rintro Ω ω _ H2 ⟨z,rfl,s4⟩;refine ω _ _ (aH (fun Z H3=>∃sz:Int,1<=sz/\sz<=401/\Z=[some (.int c),some (.ref pa),some (.int n),some (.int h),some (.ref of_),some (.int lo),some (.int hi),some (.ref wa),some (.ref na),some (.int cn),some (.int i),some (.int z),some (.int sz)]/\ar H' H3) ?_ ?_)
   ·intro u2 ee
    walk_at "r";refine⟨.of_left (by decide),way (2 * i+1) (s3.trans s4) (by omega) fun y y0 _=>⟨y,rfl,⟨by decide,by decide⟩,by omega,by omega,fun p hp=>⟨.of_left (by decide),?_⟩⟩⟩;have s5:=ak (o:=.lst [.int (1+y / 120 % h),.int h,.int 1]) hp;refine way (2 * i+1) ((s3.trans s4).trans s5) (by omega) fun y' y0' _=>⟨y',rfl,by decide,?_⟩;refine iB (aL.of ag) (by omega) (by simp;omega) fun v hv _=>?_;have f0:=ad5 (y / 120) (show h≠0 by omega);have f1:=ad0 (y / 120) (show 0 < h by omega)
    obtain⟨sz,rfl,z1,z2⟩:∃sz:Int,v=.int sz/\1<=sz/\sz<=401:=by
     simp only [aa8,ac2,or_false]at hv
     rcases hv with rfl | rfl | rfl<;>exact⟨_,rfl,by omega,by omega⟩
    exact ee _ _ ⟨sz,z1,z2,rfl,s4.trans s5⟩
   clear s4 H2;rintro Ω ω _ H2 ⟨sz,z1,z2,rfl,s4⟩;refine ω _ _ (aH (fun Z H3=>∃sz:Int,1<=sz/\sz<=401/\Z=[some (.int c),some (.ref pa),some (.int n),some (.int h),some (.ref of_),some (.int lo),some (.int hi),some (.ref wa),some (.ref na),some (.int cn),some (.int i),some (.int z),some (.int sz)]/\H2=H3) ?_ ?_)
   ·intro u2 ee
    walk_at "r";refine⟨.of_left (by decide),way (2 * i+1) (s3.trans s4) (by omega) fun y y0 _=>⟨y,rfl,⟨by decide,by decide⟩,by decide,?_⟩⟩
    by_cases h7:y / 3 % 40=7
    ·rw [if_pos h7]
     exact ee _ _ ⟨_,by omega,by omega,rfl,rfl⟩
    ·rw [if_neg h7]
     exact ee _ _ ⟨_,z1,z2,rfl,rfl⟩
   clear z1 z2 sz;rintro Ω ω _ _ ⟨sz,z1,z2,rfl,rfl⟩;refine ω _ _ (aH (fun Z H3=>∃sz cn:Int,1<=sz/\sz<=401/\0<=cn/\Z=[some (.int c),some (.ref pa),some (.int n),some (.int h),some (.ref of_),some (.int lo),some (.int hi),some (.ref wa),some (.ref na),some (.int cn),some (.int i),some (.int z),some (.int sz)]/\H2=H3) ?_ ?_)
   ·intro u2 ee
    walk_at "r";refine of1 (s3.trans s4) (sEq z fun b=>⟨b,rfl,?_⟩);cases b
    ·exact ee _ _ ⟨_,_,z1,z2,c0,rfl,rfl⟩
    ·refine of2 (s3.trans s4) ⟨m,rfl,?_⟩
     have q1:1<=(if m - cn > 1 then m - cn else 1):=by
      split<;>omega
     generalize(if m - cn > 1 then m - cn else 1)=mx at q1
     have q2:1<=(if mx < sz then mx else sz)/\(if mx < sz then mx else sz)<=401:=by
      split<;>omega
     generalize(if mx < sz then mx else sz)=s9 at q2;exact ee _ _ ⟨s9,cn+s9,q2.1,q2.2,by omega,rfl,rfl⟩
   clear z1 z2 sz c0 cn;rintro Ω ω _ _ ⟨sz,cn,z1,z2,c0,rfl,rfl⟩;obtain⟨k',rfl⟩:∃k':Nat,sz=k':=⟨sz.toNat,by omega⟩;refine ω _ _ (aH (fun Z H3=>∃nb,H2 nb=none/\H3 nb=some (.lst ((ns++List.replicate k' z).map V.int))/\Z=[some (.int c),some (.ref pa),some (.int n),some (.int h),some (.ref of_),some (.int lo),some (.int hi),some (.ref wa),some (.ref nb),some (.int cn),some (.int i),some (.int z),some (.int k')]/\ar H2 H3) ?_ ?_)
   ·intro u2 ee
    walk_at "r";refine⟨by omega,fun p hp=>.inl (.inr (.inr ⟨p,k',_,rfl,rfl,ag,by omega,by omega,by rw [ae4];simp;omega,fun r hr=>?_⟩))⟩;have s5:=ak (o:=.lst [V.int z]) hp;rw [ae4,List.flatten_replicate_singleton,<-List.map_replicate];have s6:=s5.trans (ak (o:=.lst ((List.replicate k' z).map V.int)) hr);refine iz (s6 _ _ (s4 _ _ hna1)) ag (by simp;omega) fun t ht=>ee _ _ ⟨t,?_,by rw [ag,ab4],rfl,s6.trans (ak ht)⟩
    cases e:H2 t with
    | none=>rfl
    | some o=>rw [s6 _ _ e]at ht;cases ht
   rintro Ω ω _ H3 ⟨nb,hb0,hb1,rfl,s5⟩
   have n0:∀p,H3 p=none->H p=none:=fun p hp=>by
    cases e:H p with
    | none=>rfl
    | some o=>rw [(((s1.trans s3).trans s4).trans s5) _ _ e]at hp;cases hp
   refine ω _ _ ?_;walk_at "r";refine⟨_,.inl (aL.of hb1),?_⟩;rw [aa0]
   have nl2:(ns++List.replicate k' z).length=ns.length+k':=by rw [ab2,al9]
   by_cases hn2:(n:Int)<=((ns++List.replicate k' z).length:Nat)
   ·rw [if_pos hn2]
    refine eE (aL.of hb1) fun q hq=>?_;rw [iV,<-ap0];exact k q _ _ (by rw [ac3];omega) ag (n0 _ hq) ((((s1.trans s3).trans s4).trans s5).trans (ak hq))
   ·rw [if_neg hn2,hPv]
    refine⟨_,_,_,cn,nb,_,.inr ⟨?_,by omega⟩,c0,?_,hb1,rfl,(s3.trans s4).trans s5⟩
    ·rcases hn with⟨rfl,_⟩ | ⟨h,_⟩<;>omega
    ·cases e:H nb with
     | none=>rfl
     | some o=>rw [((s1.trans s3).trans s4) _ _ e]at hb0;cases hb0
  ·intro Z H' hI
   exact hu _ _ hI
 clear hI0;intro Ω ω;intro Z H' hI;rw [hPv]at hI;obtain⟨o10,o11,o12,cn,na,ns,hn,c0,hna,hna1,rfl,s3⟩:=hI;refine ω _ _ ?_;walk_at "r"
 exact k na ns H' (by rcases hn with⟨h,rfl⟩ | ⟨h,h'⟩;exact h.symm;omega) hna1 hna (s1.trans s3)
def u5(K:Frag):Sp:=fun vs H Q _=>∃(c:Int) (a l:Addr) (bs:List (Int×Int)) (Rs:List aE) (n:Nat),vs=[.int c,.ref a,.ref l,.int n]/\bW K H a bs/\1<=bs.length/\bs.length<=4/\(∀b∈bs,Bh b)/\fV H l Rs/\Rs.length<=3/\(∀R∈Rs,Ef bs.length R)/\n<=200/\∀q cols H',g7 H' q bs.length cols->cols.length=n->ar H H'->Q (.ref q) H'
theorem BX{R:aE}(h:gn H t R):∃(kd:Str) (xs:List V),H t=some (.tup (.str kd::xs))/\(kd="held"->∃o m:Int,xs=[.int o,.int m])/\(kd="times"->∃o nt lw hg:Int,xs=[.int o,.int nt,.int lw,.int hg]):=by
 cases R with
 | plain R=>
  cases R with
  | span o u D=>exact h.elim
  | held o m=>exact⟨_,_,h,fun _=>⟨_,_,rfl⟩,fun e=>absurd e (by decide +kernel)⟩
  | times o nt lw hg=>exact⟨_,_,h,fun e=>absurd e (by decide +kernel),fun _=>⟨_,_,_,_,rfl⟩⟩
 | every m ph R=>
  cases R with
  | held _ _=>exact h.elim
  | times _ _ _ _=>exact h.elim
  | span o u D=>
   obtain⟨i,d,h,_,_⟩:=h;exact⟨_,_,h,fun e=>absurd e (by decide +kernel),fun e=>absurd e (by decide +kernel)⟩
def x6(H:Hp)(p:Addr)(vs:List Addr)(n:Nat):Prop:=H p=some (.lst (vs.map V.ref))/\∀v∈vs,v≠p/\∃ys:List Int,ys.length=n/\H v=some (.lst (ys.map V.int))
theorem Bj(F:cM K "_law_long_line" "_law_long_line" ff f fd)(T:Txt mg aM)(D_law_runs:bR P w K mg base "_law_runs" 2 ["_law_cell","_law_pair","_law_many","_law_held","_law_often"] (u6 K)):aN P w K mg base cc 3 f fd ["_law_cell","_law_ranges_here","_law_rules","_law_many"] (u5 K):=by
 refine F.ok sc_law_long_line (fun _ _ _ _ h=>?_) (fun _ A _ s H vs Q E hr h=>?_)
 ·obtain⟨c,a,l,bs,Rs,n,rfl,_⟩:=h
  rfl
 obtain⟨c,a,l,bs,Rs,n,rfl,hR,b1,b4,hb,hT,r3,hok,n2,k⟩:=h
 refine⟨_,(ae (zw (i:=4) sc_law_long_line.nd rfl (Or.inr rfl) (bQ ah))
 (ae (bK PassesOwn.never rfl (c9 rfl T.n_range (aa (az (aC K) (by rfl) T.n_len boot_len (aa (pr 1) ah)) ah)) (gD (i:=5) sc_law_long_line.nd)
 (ae (bM (i:=6) sc_law_long_line.nd (aq (bz K) af (aq (o1 bc) (pr 0) af)))
 (ae (bM (i:=7) sc_law_long_line.nd (dj (aa aV (aa (pr 3) ah))))
 (ae (bK PassesOwn.never rfl (bE K (pr 2)) (gD (i:=8) sc_law_long_line.nd)
 (ae (aW (PW.pt (fY (bh (av kX (ax (aG K) (pr 8) af (fun _ _=>rfl)) bD (aB _))) (fj (bh (av kX (ax (aG K) (pr 8) af (fun _ _=>rfl)) (aq (bz K) (pr 5) af) (aB _)))))) (ai (bM (i:=6) sc_law_long_line.nd (az (kG rfl) (by rfl) T.n_min boot_min (aa (ax (aG K) (pr 8) af (fun _ _=>rfl)) (aa (pr 3) ah))))) aF)
 (ai (aW (PW.pt (fY (bh (av kX (ax (aG K) (pr 8) af (fun _ _=>rfl)) bD (aB _))) (fj (bh (av kX (ax (aG K) (pr 8) af (fun _ _=>rfl)) (aq (bz K) (pr 5) af) (aB _)))))) (ai (bM (i:=7) sc_law_long_line.nd (dj (aa (ax (aG K) (pr 8) af (fun _ _=>rfl)) (aa (ax (aG K) (pr 8) af (fun _ _=>rfl)) ah))))) aF))))
 (ai (bF (bJ K PySem.F.plainAttrs_list PySem.F.slot_list_append PySem.F.type_list_append bT (pr 4) (aa (aD D_law_runs hr (by rfl) (aa (aq (bz K) (pr 0) (aq (gI K) (aq (gI K) af (pr 5)) (pr 5))) (aa (ax (aG K) (pr 1) (pr 5) (fun _ _=>rfl)) (aa (pr 3) (aa (az (pJ rfl) (by rfl) T.n_max boot_max (aa af (aa (pr 6) ah))) (aa (pr 7) ah)))))) ah))))))))
 (ai (aw (zk (x:="_law_k") (js:=[4]) rfl (c9 rfl T.n_range (aa (pr 3) ah)) (bw.of (by rfl)) (fun _ _ _ _ _=>(bL (i:=0) (show List.Nodup (["_law_k","_law_voices"]:List Str)from by decide +kernel) rfl (Or.inr rfl))) (fun _ _ _ _ _=>cJ) (fun _ _ _ _ _=>(bo (fS K) (by rfl) T.n_tuple boot_tuple (aa (c8 (own:=["_law_notes"]) (js:=[0]) rfl (bE K (pr 1)) (bw.of (by rfl)) (fun _ _ _ _ _=>(bL (i:=0) (show List.Nodup (["_law_notes","_law_k"]:List Str)from by decide +kernel) rfl (Or.inl rfl))) (fun _ _ _ _ _=>cJ) (fun _ _ _ _ _=>(ax (aG K) (pr 0) (pr 1) (fun _ _=>rfl)))) ah)))))))),?_⟩
 have hs:sizeLine=16777216:=sizeLine_eq;obtain⟨ts,hts,htl,htc⟩:=id hR;obtain⟨rs,hrs,hrl,hrc⟩:=id hT;refine aH (fun Z H'=>∃p,H p=none/\H' p=some (.lst [])/\Z=[some (.int c),some (.ref a),some (.ref l),some (.int n),some (.ref p),none,none,none,none]/\ar H H') ?_ ?_
 ·intro u' hu
  walk_at "r";exact⟨by omega,fun p hp=>hu _ _ ⟨p,hp,ag,rfl,ak hp⟩⟩
 rintro Ω ω _ H1 ⟨p,hp0,hp1,rfl,s1⟩;obtain⟨Pv,hPv⟩:∃Pv:Nat->L2.St->Hp->Prop,Pv=fun i Z H'=>∃(o5 o6 o7 o8:Option V) (vs:List Addr),vs.length=i/\x6 H' p vs n/\Z=[some (.int c),some (.ref a),some (.ref l),some (.int n),some (.ref p),o5,o6,o7,o8]/\ar H H':=⟨_,rfl⟩;refine ω _ _ (aH (fun Z H'=>Pv bs.length Z H') ?_ ?_)
 ·intro u' hu
  walk_at "r";refine⟨_,.inl (s1.seq hts),?_⟩;rw [aa0,htl];refine⟨by omega,by omega,cB Pv (by rw [hPv];exact⟨_,_,_,_,[],rfl,⟨hp1,fun _ h=>(nomatch h)⟩,rfl,s1⟩) ?_ ?_⟩
  ·clear s1 hp1 H1
   intro i Z H1 hi hI;rw [hPv]at hI;obtain⟨o5,o6,o7,o8,vs,vl,hv,rfl,s1⟩:=hI
   have hi':i < bs.length:=by omega
   refine aH (fun Z H'=>∃hd:Int,hd<=200/\Z=[some (.int c),some (.ref a),some (.ref l),some (.int n),some (.ref p),some (.int i),some (.int hd),o7,o8]/\H1=H') ?_ ?_
   ·intro u2 ee
    walk_at "r"
    have:=ad0 c (show 0 < (9:Int)by decide)
    exact⟨by decide,ee _ _ ⟨_,by omega,rfl,rfl⟩⟩
   rintro Ω ω _ _ ⟨hd,hd2,rfl,rfl⟩;obtain⟨Pw,hPw⟩:∃Pw:Nat->L2.St->Hp->Prop,Pw=fun _ Z H'=>∃(o8:Option V) (hd m:Int) (of_:Addr) (x:V),hd<=200/\(x=.non\/∃k:Int,x=.int k)/\H' of_=some (.tup [x,.int m])/\Z=[some (.int c),some (.ref a),some (.ref l),some (.int n),some (.ref p),some (.int i),some (.int hd),some (.ref of_),o8]/\ar H1 H':=⟨_,rfl⟩;refine ω _ _ (aH (fun Z H'=>Pw 0 Z H') ?_ ?_)
   ·intro u2 ee
    walk_at "r";exact⟨by omega,fun q hq=>ee _ _ (by rw [hPw];exact⟨_,hd,n,q,.non,hd2,.inl rfl,ag,rfl,ak hq⟩)⟩
   intro Ω ω;intro Zf H2 hI2;refine ω _ _ (aH (fun Z H'=>Pw Rs.length Z H') ?_ ?_)
   ·intro u2 ee
    have hI2':=hI2;rw [hPw]at hI2';obtain⟨o8,hd,m,of_,x,hd2,hx,hof,rfl,s2⟩:=hI2';walk_at "r";refine bN (aL.of ((s1.trans s2) _ _ hrs)) (cD (xs:=rs.map V.ref) Pw hI2 (fun i Z H' _ z=>by rw [hPw]at z;obtain⟨_,_,_,_,_,_,_,_,_,s⟩:=z;exact aL.of ((s1.trans s) _ _ hrs)) ?_ ?_)
    ·clear hI2 hof hx hd2 s2
     intro j y Z H2 hy hI2;rw [hPw]at hI2;obtain⟨o8,hd,m,of_,x,hd2,hx,hof,rfl,s2⟩:=hI2;rw [aa5]at hy
     cases ht:rs[j]? with
     | none=>rw [ht]at hy;cases hy
     | some t=>
      rw [ht]at hy;cases hy
      have hj:j < Rs.length:=by rw [<-hrl];exact(aa3.mp ht).1
      have hTj:=(hrc j t _ ht (aa1 hj)).same (s1.trans s2);obtain⟨kd,xs,hk,hkh,hkt⟩:=BX hTj;clear hTj;refine aH (fun Z H'=>∃hd:Int,hd<=200/\Z=[some (.int c),some (.ref a),some (.ref l),some (.int n),some (.ref p),some (.int i),some (.int hd),some (.ref of_),some (.ref t)]/\H2=H') ?_ ?_
      ·intro u3 hu3
       have same:u3 _ _ _:=hu3 _ _ ⟨hd,hd2,rfl,rfl⟩;walk_at "r";refine aR (bH.of hk) (aP rfl) ?_;walk_at "r"
       by_cases e:kd="held"
       ·obtain⟨o,m',rfl⟩:=hkh e
        rw [if_pos e];refine aR (bH.of hk) (show dC _ ((1:Nat):Int)=_ from aA rfl) ?_;walk_at "r"
        by_cases e2:o=(i:Int)+1
        ·rw [if_pos e2]
         refine aR (bH.of hk) (show dC _ ((2:Nat):Int)=_ from aA rfl) ?_;walk_at "r"
         exact hu3 _ _ ⟨_,by split<;>omega,rfl,rfl⟩
        ·rw [if_neg e2]
         exact same
       ·rw [if_neg e]
        exact same
      clear hd2 hd hkh;rintro Ω ω _ _ ⟨hd,hd2,rfl,rfl⟩
      have stay:Pw (j+1) [some (.int c),some (.ref a),some (.ref l),some (.int n),some (.ref p),some (.int i),some (.int hd),some (.ref of_),some (.ref t)] H2:=by
       rw [hPw];exact⟨_,hd,m,of_,x,hd2,hx,hof,rfl,s2⟩
      refine ω _ _ ?_;walk_at "r";refine aR (bH.of hk) (aP rfl) ?_;walk_at "r"
      by_cases e:kd="times"
      ·obtain⟨o,nt,lw,hg,rfl⟩:=hkt e
       rw [if_pos e];refine aR (bH.of hk) (show dC _ ((1:Nat):Int)=_ from aA rfl) ?_;walk_at "r"
       by_cases e2:o=(i:Int)+1
       ·rw [if_pos e2]
        refine aR (bH.of hk) (show dC _ ((2:Nat):Int)=_ from aA rfl) (aR (bH.of hk) (show dC _ ((4:Nat):Int)=_ from aA rfl) ⟨by omega,fun q hq=>?_⟩);rw [hPw];exact⟨_,hd,hg,q,.int nt,hd2,.inr ⟨_,rfl⟩,ag,rfl,s2.trans (ak hq)⟩
       ·rw [if_neg e2]
        exact stay
      ·rw [if_neg e]
       exact stay
    ·intro Z H' hI
     rw [aa0,hrl]at hI;exact ee _ _ hI
   clear hI2;intro Ω ω;intro Zf H2 hI2;rw [hPw]at hI2;obtain⟨o8,hd,m,of_,x,hd2,hx,hof,rfl,s2⟩:=hI2;have hps:=s2 _ _ hv.1;have tb:=(s1.trans s2).tup (htc i _ _ (aa1 (by omega)) (aa1 hi'));have hbi:=hb _ (ad6 hi')
   have g1:1<=(if hd > 1 then hd else 1)/\(if hd > 1 then hd else 1)<=400:=by
    split<;>omega
   refine ω _ _ ?_;walk_at "r";refine⟨.inl ⟨rfl,_,aL.of hps⟩,.of_left (by decide),IntMulOk.of_le (m:=20) (n:=20) (intBits_le_iff.mpr (by omega)) (intBits_le_iff.mpr (by omega)) (by decide),bG ((s1.trans s2).seq hts) (aA (by rw [aa5,aa1 (show i < ts.length by omega)];rfl)) ?_⟩;refine⟨_,_,of_,_,_,n,x,_,m,rfl,tb,hbi.1,n2,g1.1,g1.2,hof,hx,fun q ys H3 yl hq hq0 s3=>?_⟩
   have np:q≠p:=fun e=>by rw [e,hps]at hq0;cases hq0
   refine⟨p,_,_,rfl,rfl,s3 _ _ hps,by rw [aa0];omega,?_⟩;rw [hPv];refine⟨_,_,_,_,vs++[q],by rw [ab2,vl];rfl,⟨by rw [ag,ab4];rfl,fun v hv'=>?_⟩,rfl,xO hp0 ((s1.trans s2).trans s3)⟩;rcases ac9.mp hv' with h | h
   ·obtain⟨n1,ys',l1,e1⟩:=hv.2 v h
    exact⟨n1,ys',l1,by rw [aj n1];exact(s2.trans s3) _ _ e1⟩
   ·rw [ab6.mp h]
    exact⟨np,ys,yl,by rw [aj np];exact hq⟩
  ·intro Z H' hI
   exact hu _ _ hI
 clear s1 hp1 H1;intro Ω ω;intro Z H1 hI;rw [hPv]at hI;obtain⟨o5,o6,o7,o8,vs,vl,hv,rfl,s1⟩:=hI;refine ω _ _ ?_;walk_at "r";refine⟨by omega,by omega,lR (fun i ys H'=>∃ps cols,ys=(ps:List Addr).map V.ref/\fB H' ps cols/\cols.length=i/\(∀c∈cols,(c:List Int).length=bs.length)/\ar H1 H') (by omega) ⟨[],[],rfl,⟨rfl,fun i p us e=>by cases e⟩,rfl,fun _ h=>(nomatch h),ar.refl _⟩ ?_ ?_ ?_⟩
 ·rintro i ys H' ⟨ps,cols,rfl,tl,cl,_,_⟩
  rw [aa0,tl.1];omega
 ·rintro i ys H' hi ⟨ps,cols,rfl,tl,cl,cw,s2⟩
  have hi':i < n:=by omega
  have hpL:=aL.of (K:=K) (s2 _ _ hv.1);walk_at "r";refine bN hpL (cz (xs:=vs.map V.ref) (fun j ys H2=>∃us:List Int,us.length=j/\ys=us.map V.int/\H'=H2) (by rw [aa0];omega) ⟨[],rfl,rfl,rfl⟩ ?_ ?_ ?_ ?_)
  ·rintro j ys H2 ⟨us,ul,rfl,rfl⟩
   rw [aa0];omega
  ·rintro j ys H2 ⟨us,ul,rfl,rfl⟩
   exact hpL
  ·rintro j y ys H2 hy ⟨us,ul,rfl,rfl⟩
   obtain⟨v,hvm,rfl⟩:=ac0.mp (ac5 hy);obtain⟨_,zs,zl,hz⟩:=hv.2 v hvm;walk_at "r";refine bG (aL.of (s2 _ _ hz)) (aA (by rw [aa5,aa1 (show i < zs.length by omega)];rfl)) ⟨us++[zs[i]'(by omega)],by rw [ab2,ul];rfl,by rw [ab4];rfl,rfl⟩
  ·rintro ys H2 ⟨us,ul,rfl,rfl⟩ q hq
   rw [aa0]at ul;have s3:=ak (o:=.lst (us.map V.int)) hq;refine⟨_,.inl ⟨aL.of ag,fun t ht=>⟨ps++[t],by rw [ab4];rfl,cols++[us],(tl.same (s3.trans (ak ht))).append ⟨rfl,fun j p us' e1 e2=>?_⟩,by rw [ab2,cl];rfl,fun c hc=>?_,(s2.trans s3).trans (ak ht)⟩⟩⟩
   ·cases j with
    | zero=>cases e1;cases e2;exact ag
    | succ j=>cases e1
   ·rcases ac9.mp hc with h | h
    ·exact cw c h
    ·rw [ab6.mp h]
     omega
 ·rintro ys H' ⟨ps,cols,rfl,tl,cl,cw,s2⟩ q hq
  exact k q cols _ ⟨⟨ps,ag,tl.same (ak hq)⟩,cw⟩ (by omega) ((s1.trans s2).trans (ak hq))
def jf:List aE->List Int->Prop
 | [],[]=>True
 | R::Rs,m::ms=>(0<=m/\m < bV R)/\jf Rs ms
 | _,_=>False
def dI:List aE->List (List Int)
 | []=>[[]]
 | R::Rs=>(L2.intsFrom 0 (bV R).toNat).flatMap fun m=>(dI Rs).map (m::·)
theorem sF:∀{Rs:List aE} {ms:List Int},jf Rs ms->ms∈dI Rs
 | [],[],_=>.head _
 | [],_::_,h=>h.elim
 | _::_,[],h=>h.elim
 | R::Rs,m::ms,⟨⟨h1,h2⟩,h3⟩=>by
  refine ah0.mpr ⟨m,?_,ac0.mpr ⟨ms,sF h3,rfl⟩⟩;unfold L2.intsFrom;exact ac0.mpr ⟨m.toNat,ah6.mpr (by omega),by omega⟩
theorem sj:∀{Rs:List aE} {ms:List Int},ms∈dI Rs->jf Rs ms
 | [],ms,h=>by
  rw [ab6.mp h];trivial
 | R::Rs,ms,h=>by
  obtain⟨m,hm,h⟩:=ah0.mp h;obtain⟨ms',h',rfl⟩:=ac0.mp h
  have:=jV hm
  exact⟨by omega,sj h'⟩
theorem jW(f:α->List β)(n:Nat):∀l:List α,(∀a,(f a).length=n)->(l.flatMap f).length=l.length * n
 | [],_=>(Nat.zero_mul _).symm
 | a::l,h=>by
  rw [ao7,ab2,h,jW f n l h,ad1,an8,Nat.add_comm]
theorem kU:∀(Rs:List aE) (a:Int),(∀R∈Rs,1<=bV R)->Rs.foldl (fun t R=>t * bV R) a=a * ((dI Rs).length:Int)
 | [],a,_=>(ao3 a).symm
 | R::Rs,a,h=>by
  rw [ae6,kU Rs _ fun R' h'=>h R' (.tail _ h')];have h1:=h R (.head _)
  show _=a * ((((L2.intsFrom 0 (bV R).toNat).flatMap fun m=>(dI Rs).map (m::·)).length:Nat):Int)
  rw [jW _ (dI Rs).length _ fun m=>aa0 ..,fh,an4,ak3 (by omega),Int.mul_assoc]
theorem x8{R:aE}{m':Int}{b:Option (List Int)}(hg:cf nv R)(h:0<=m/\m < bV R)(e:(aU R).after m b us=some m'):0<=m'/\m' < bV R:=by
 obtain⟨h1,h2⟩:=h
 cases R with
 | plain R=>
  cases R with
  | span o t D=>
   simp only [aU,iL,eQ]at e
   split at e
   ·cases e;exact⟨h1,h2⟩
   ·cases e
  | held o most=>
   obtain⟨_,_,g⟩:=hg;simp only [aU,iL,dY]at e;show 0<=m'/\m' < most
   split at e
   ·cases e;omega
   ·split at e
    ·split at e
     ·cases e;omega
     ·cases e
    ·cases e;omega
  | times o nt lw hg'=>
   have h2:m < hg' + 1:=h2;simp only [aU,iL,cE]at e;show 0<=m'/\m' < hg' + 1
   split at e
   ·split at e
    ·cases e;omega
    ·cases e
   ·cases e;omega
 | every t u R=>
  obtain⟨_,_,g,_,_⟩:=hg;have h3:=ad5 (m+1) (show t≠0 by omega);have h4:=ad0 (m+1) (show 0 < t by omega);simp only [aU,dX]at e;show 0<=m'/\m' < t
  split at e
  ·split at e
   ·cases e
   ·cases e;exact⟨h3,h4⟩
  ·cases e;exact⟨h3,h4⟩
theorem nr{b:Option (List Int)}:∀{Rs:List aE} {ms ms':List Int},(∀R∈Rs,cf nv R)->jf Rs ms->eA (Rs.map aU) ms b us=some ms'->jf Rs ms'
 | [],[],_,_,_,e=>by cases e;trivial
 | [],_::_,_,_,h,_=>h.elim
 | _::_,[],_,_,h,_=>h.elim
 | R::Rs,m::ms,ms',hg,⟨h1,h2⟩,e=>by
  have e:rB ((aU R).after m b us::kh (Rs.map aU) ms b us)=some ms':=e
  cases ea:(aU R).after m b us with
  | none=>rw [ea]at e;cases e
  | some m1=>
   rw [ea]at e
   have e:(rB (kh (Rs.map aU) ms b us)).map (m1::·)=some ms':=e
   cases er:rB (kh (Rs.map aU) ms b us)with
   | none=>rw [er]at e;cases e
   | some r=>
    rw [er]at e;cases e;exact⟨x8 (hg R (.head _)) h1 ea,nr (fun R' h'=>hg R' (.tail _ h')) h2 er⟩
theorem tJ:∀{Rs:List aE},(∀R∈Rs,1<=bV R)->jf Rs ((Rs.map aU).map (·.start))
 | [],_=>trivial
 | R::Rs,h=>by
  have e:(aU R).start=0:=by
   cases R with
   | plain R=>cases R<;>rfl
   | every _ _ _=>rfl
  have h1:=h R (.head _);refine⟨?_,tJ fun R' h'=>h R' (.tail _ h')⟩;show 0<=(aU R).start/\(aU R).start < bV R;rw [e];omega
def Eh(bs:List (Int×Int))(Rs:List aE):List MS:=(none,(Rs.map aU).map (·.start))::(br bs).flatMap fun c=>(dI Rs).map fun ms=>(some c,ms)
theorem v8{Rs:List aE}(hb:∀b∈bs,b.1<=b.2)(h:∀R∈Rs,1<=bV R):((Eh bs Rs).length:Int)=dB bs Rs+1:=by
 unfold Eh dB;rw [ad1,jW _ (dI Rs).length _ fun m=>aa0 ..,fq,kU Rs _ h,mP hb]
 push_cast
 rfl
theorem vd{Rs:List aE}(hb:∀b∈bs,b.1<=b.2)(hg:∀R∈Rs,cf bs.length R)(h:∀R∈Rs,1<=bV R)(hw:dB bs Rs<=400):tU (Rs.map aU) (br bs) (Eh bs Rs):=by
 refine⟨.head _,fun s hs c hc s' e=>?_,?_⟩
 ·have hm:jf Rs s.2:=by
   rcases aa8.mp hs with rfl | hs
   ·exact tJ h
   ·obtain⟨c',_,hs⟩:=ah0.mp hs
    obtain⟨ms,hms,rfl⟩:=ac0.mp hs;exact sj hms
  unfold cg at e
  cases ea:eA (Rs.map aU) s.2 s.1 c with
  | none=>rw [ea]at e;cases e
  | some ms=>
   rw [ea]at e;cases e;exact .tail _ (ah0.mpr ⟨c,hc,ac0.mpr ⟨ms,sF (nr hg hm ea),rfl⟩⟩)
 ·have:=v8 hb h
  omega
theorem tI{Rs:List aE}(hb:∀b∈bs,b.1<=b.2)(h:∀R∈Rs,1<=bV R)(m:vD (Rs.map aU) (br bs) met)(hU:∀s∈met,s∈Eh bs Rs):1<=met.length/\(met.length:Int)<=dB bs Rs+1:=by
 have h1:=(aa3.mp m.st).1;have h2:=nu met (Eh bs Rs) m.nd hU;have h3:=v8 hb h;exact⟨by omega,by omega⟩
def oO(bs:List (Int×Int))(Rs:List aE)(cols:List (List Int))(j:Nat):Prop:=cols.getD j []∈br bs/\∀R∈Rs,eS cols j R=false
theorem rM(f:α->bO)(g:α->Int)(h:bO->Int->β):∀l:List α,List.zipWith h (l.map f) (l.map g)=l.map fun a=>h (f a) (g a)
 | []=>rfl
 | a::l=>congrArg (h (f a) (g a)::·) (rM f g h l)
theorem Bd{Rs:List aE}(hg:∀R∈Rs,cf nv R)(hi:i < cols.length):((∀R∈Rs,eS cols i R=false)->cg (Rs.map aU) (dn cols i,Rs.map (gx cols i)) (cols.getD i [])=some (dn cols (i+1),Rs.map (gx cols (i+1))))/\(¬(∀R∈Rs,eS cols i R=false)->cg (Rs.map aU) (dn cols i,Rs.map (gx cols i)) (cols.getD i [])=none):=by
 have hc:cols[i]?=some cols[i]:=aa1 hi
 have ec:cols.getD i []=cols[i]:=by rw [ab8,hc];rfl
 have ep:dn cols (i+1)=some cols[i]:=hc
 have er:kh (Rs.map aU) (Rs.map (gx cols i)) (dn cols i) cols[i]=Rs.map fun R=>if eS cols i R=true then none else some (gx cols (i+1) R):=by
  unfold kh;rw [rM aU (gx cols i) fun S m=>S.after m (dn cols i) cols[i]];exact ak5 fun R hR=>(mO nv cols R (hg R hR)).st i _ hc
 unfold cg eA;rw [ec,ep];dsimp only;rw [er];refine⟨fun h=>?_,fun h=>?_⟩
 ·rw [lI (r:=Rs.map (gx cols (i+1))) (by
   rw [ai0]
   exact ak5 fun R hR=>by rw [h R hR];rfl)]
  rfl
 ·obtain⟨R,hR,hb⟩:∃R,R∈Rs/\eS cols i R=true:=ae3 fun z=>h fun R hR=>by
   cases e:eS cols i R with
   | false=>rfl
   | true=>exact absurd ⟨R,hR,e⟩ z
  obtain⟨j,hj⟩:=ae5 hR;rw [lH (i:=j) (by rw [aa5,hj];show some (if eS cols i R=true then none else _)=_;rw [if_pos hb])];rfl
theorem qb{U:List (List Int)}{c:List Int}:∀{l:List (List Int)} {s:MS},dv Ss U s (l++[c])=match dv Ss U s l with | none=>none | some t=>if c∈U then cg Ss t c else none
 | [],s=>by
  show(if c∈U then(match cg Ss s c with | none=>none | some s'=>dv Ss U s' [])else none)=if c∈U then cg Ss s c else none
  split
  ·cases cg Ss s c<;>rfl
  ·rfl
 | d::l,s=>by
  show(if d∈U then(match cg Ss s d with | none=>none | some s'=>dv Ss U s' (l++[c]))else none)=match (if d∈U then(match cg Ss s d with | none=>none | some s'=>dv Ss U s' l)else none)with | none=>none | some t=>if c∈U then cg Ss t c else none
  by_cases h:d∈U
  ·rw [if_pos h,if_pos h]
   cases cg Ss s d with
   | none=>rfl
   | some s'=>exact qb
  ·rw [if_neg h,if_neg h]
theorem lP{nv:Nat}{bs:List (Int×Int)}{Rs:List aE}{cols:List (List Int)}(hg:∀R∈Rs,cf nv R):∀i,i<=cols.length->((∀j,j < i->oO bs Rs cols j)->dv (Rs.map aU) (br bs) (none,(Rs.map aU).map (·.start)) (cols.take i)=some (dn cols i,Rs.map (gx cols i)))/\((∃j,j < i/\¬oO bs Rs cols j)->dv (Rs.map aU) (br bs) (none,(Rs.map aU).map (·.start)) (cols.take i)=none)
 | 0,_=>by
  refine⟨fun _=>?_,fun⟨j,h,_⟩=>absurd h (Nat.not_lt_zero _)⟩;rw [List.take_zero,ai0];show some ((none:Option (List Int)),_)=some (none,_);exact congrArg (fun z=>some ((none:Option (List Int)),z)) (ak5 fun R hR=>(mO nv cols R (hg R hR)).m0)
 | i+1,hi=>by
  obtain⟨h1,h2⟩:=lP (cols:=cols) (bs:=bs) hg i (by omega);obtain⟨n1,n2⟩:=Bd (cols:=cols) (i:=i) hg (by omega)
  have hc:cols[i]?=some (cols.getD i []):=by rw [ab8,aa1 (by omega)];rfl
  rw [ac1,hc,ak9,qb];refine⟨fun h=>?_,fun⟨j,hj,hb⟩=>?_⟩
  ·rw [h1 fun j hj=>h j (by omega)]
   dsimp only;rw [if_pos (h i (by omega)).1,n1 (h i (by omega)).2]
  ·by_cases hall:∀j,j < i->oO bs Rs cols j
   ·have ej:j=i:=ae3 fun z=>hb (hall j (by omega))
    subst ej;rw [h1 hall];dsimp only
    by_cases hU:cols.getD j []∈br bs
    ·rw [if_pos hU,n2 fun z=>hb ⟨hU,z⟩]
    ·rw [if_neg hU]
   ·rw [h2 (ae3 fun z=>hall fun j hj=>ae3 fun y=>z ⟨j,hj,y⟩)]
theorem wF{Rs:List aE}(hg:∀R∈Rs,cf nv R):bY (Rs.map aU) (Rs.map (gx cols cols.length)) (dn cols cols.length)=true↔∀R∈Rs,uD cols R=false:=by
 unfold bY;rw [rM aU (gx cols cols.length) fun S m=>S.closes m (dn cols cols.length),ai9,ag7]
 have e:∀R∈Rs,(aU R).closes (gx cols cols.length R) (dn cols cols.length)=!uD cols R:=fun R hR=>by
  have:=rV nv cols R (hg R hR) cols.length (aa9 _)
  rw [ac8]at this;exact this
 refine⟨fun h R hR=>?_,fun h R hR=>?_⟩
 ·have:=h R hR
  rw [Function.comp_apply,id,e R hR]at this;simpa using this
 ·rw [Function.comp_apply,id,e R hR,h R hR]
  rfl
theorem yD(h:(cols.getD j []).length=bs.length):cols.getD j []∈br bs↔∀v,v < bs.length->qX bs cols v j=false:=by
 rw [wG]
 have eo:∀{v:Nat} {b:Int×Int} {u:Int},bs[v]?=some b->(cols.getD j [])[v]?=some u->(qX bs cols v j=false↔b.1<=u/\u<=b.2):=fun {v b u} h1 h2=>by
  unfold qX aY;rw [show((v:Int)+1 - 1).toNat=v by omega,ab8 (l:=cols.getD j []),h2,ab8 (l:=bs),h1];simp
 refine⟨fun⟨_,g⟩ v hv=>?_,fun g=>⟨h,fun v b u h1 h2=>?_⟩⟩
 ·exact(eo (aa1 hv) (aa1 (by omega))).mpr (g v _ _ (aa1 hv) (aa1 (by omega)))
 ·exact(eo h1 h2).mp (g v (aa3.mp h1).1)
theorem tD{o:Int}:∀{j:Nat},j < k->eZ o (cols.take k) j=eZ o cols j
 | 0,_=>rfl
 | j+1,h=>by
  show(if iZ o (cols.take k) j=iZ o (cols.take k) (j+1)then eZ o (cols.take k) j+1 else 0)=if iZ o cols j=iZ o cols (j+1)then eZ o cols j+1 else 0;rw [j6 h,j6 (by omega),tD (by omega)]
theorem vG(h:j < k)(R:aE):eS (cols.take k) j R=eS cols j R:=by
 have hk:∀R:fg,tQ (cols.take k) j R=tQ cols j R:=fun R=>by
  cases R with
  | span o t D=>show(!decide (iZ t (cols.take k) j - iZ o (cols.take k) j∈D))=_;rw [j6 h,j6 h];rfl
  | held o most=>show decide (most<=(eZ o (cols.take k) j:Int))=_;rw [tD h];rfl
  | times o nt lw hg=>
   have e:d0 o nt (cols.take k) j=d0 o nt cols j:=by
    unfold d0;rw [List.take_take,an5 (by omega)]
   show(decide (iZ o (cols.take k) j=nt) && decide ((d0 o nt (cols.take k) j:Int)>=hg))=_;rw [j6 h,e];rfl
 cases R with
 | plain R=>exact hk R
 | every m a R=>show(decide _ && tQ (cols.take k) j R)=_;rw [hk R];rfl
theorem vU{Rs:List aE}(h:j < k):oO bs Rs (cols.take k) j↔oO bs Rs cols j:=by
 unfold oO;rw [ab8,ab8,aj0,if_pos h];refine⟨fun⟨h1,h2⟩=>⟨h1,fun R hR=>?_⟩,fun⟨h1,h2⟩=>⟨h1,fun R hR=>?_⟩⟩
 ·rw [<-vG h];exact h2 R hR
 ·rw [vG h];exact h2 R hR
theorem nM:∀{l:List (Option Nat)} {n i p:Nat},l[i]?=some (some p)->((p:Int),((n+i:Nat):Int))∈aX n l
 | [],_,_,_,h=>by cases h
 | x::l,n,0,p,h=>by
  cases h;exact .head _
 | x::l,n,i+1,p,h=>by
  have:=nM (n:=n+1) (show l[i]?=some (some p)from h)
  rw [show n+1+i=n+(i+1)by omega]at this
  cases x with
  | none=>exact this
  | some q=>exact .tail _ this
theorem iq:∀{l:List (Option Nat)} {n:Nat} {k:Int×Int},k∈aX n l->∃p:Nat,some p∈l/\k.1=p
 | [],_,_,h=>nomatch h
 | none::l,n,k,h=>let ⟨p,h1,h2⟩:=iq (show k∈aX (n+1) l from h);⟨p,.tail _ h1,h2⟩
 | some q::l,n,k,h=>by
  rcases aa8.mp (show k∈((q:Int),(n:Int))::aX (n+1) l from h)with rfl | h
  ·exact⟨q,.head _,rfl⟩
  ·obtain⟨p,h1,h2⟩:=iq h
   exact⟨p,.tail _ h1,h2⟩
theorem uj{l:List (Option Nat)}(h:g6 (fun k=>k∈aX 0 l) o):o=none↔∀x∈l,x=none:=by
 rcases h with⟨rfl,h⟩ | ⟨k,rfl,h1,_⟩
 ·refine⟨fun _ x hx=>?_,fun _=>rfl⟩
  cases x with
  | none=>rfl
  | some p=>
   obtain⟨i,hi⟩:=ae5 hx;exact absurd (nM (n:=0) hi) (h _)
 ·refine⟨fun e=>(by cases e),fun h=>?_⟩
  obtain⟨p,hp,_⟩:=iq h1;cases h _ hp
theorem kM(hb:B j=true):∀{k i:Nat},i<=j->j < i+k->∃p,aT B i k=some p/\p<=j
 | 0,i,h1,h2=>by omega
 | k+1,i,h1,h2=>by
  unfold aT
  by_cases h:B i=true
  ·rw [if_pos h]
   exact⟨i,rfl,h1⟩
  ·rw [if_neg h]
   have:i≠j:=fun e=>h (e▸hb)
   exact kM hb (by omega) (by omega)
theorem wt{Rs:List aE}(hg:∀R∈Rs,cf bs.length R)(hw:∀c∈cols,c.length=bs.length)(hj:j < cols.length)(h:¬oO bs Rs cols j):∃p,some p∈places bs Rs cols/\p<=j:=by
 have hl:(cols.getD j []).length=bs.length:=by
  rw [ab8,aa1 hj];exact hw _ (ad6 hj)
 by_cases hr:∃R,R∈Rs/\eS cols j R=true
 ·obtain⟨R,hR,hb⟩:=hr
  obtain⟨p,e,hp⟩:=kM (B:=fun i=>eS cols i R) hb (k:=cols.length) (ad3 _) (by omega)
  have ep:fX cols R=some p:=by rw [gB (hg R hR)];unfold eY;rw [e]
  exact⟨p,ac7 _ (ac0.mpr ⟨R,hR,ep⟩),hp⟩
 ·have hr':∀R∈Rs,eS cols j R=false:=fun R hR=>by
   cases e:eS cols j R with
   | false=>rfl
   | true=>exact absurd ⟨R,hR,e⟩ hr
  have hv:∃v,v < bs.length/\qX bs cols v j=true:=ae3 fun z=>h ⟨(yD hl).mpr fun v hv=>by
   cases e:qX bs cols v j with
   | false=>rfl
   | true=>exact absurd ⟨v,hv,e⟩ z,hr'⟩
  obtain⟨v,hv,hb⟩:=hv;obtain⟨p,e,hp⟩:=kM (B:=qX bs cols v) hb (k:=cols.length) (ad3 _) (by omega);exact⟨p,ah2 _ (ac0.mpr ⟨v,ah6.mpr hv,e⟩),hp⟩
theorem pY{Rs:List aE}(hg:∀R∈Rs,cf bs.length R)(hw:∀c∈cols,c.length=bs.length){p:Nat}(h:some p∈places bs Rs cols):p<=cols.length/\(p < cols.length->¬oO bs Rs cols p):=by
 rcases ac9.mp h with h | h
 ·obtain⟨v,hv,e⟩:=ac0.mp h
  obtain⟨_,h2,h3,_⟩:=firstN_iff.mp e
  have hp:p < cols.length:=by omega
  refine⟨by omega,fun _ zq0=>?_⟩;obtain⟨z,_⟩:=zq0
  have hl:(cols.getD p []).length=bs.length:=by
   rw [ab8,aa1 hp];exact hw _ (ad6 hp)
  rw [(yD hl).mp z v (ah6.mp hv)]at h3;cases h3
 ·obtain⟨R,hR,e⟩:=ac0.mp h
  rw [gB (hg R hR)]at e;unfold eY at e
  cases ef:aT (fun i=>eS cols i R) 0 cols.length with
  | some q=>
   rw [ef]at e;cases e;obtain⟨_,h2,h3,_⟩:=firstN_iff.mp ef;refine⟨by omega,fun _ zq0=>?_⟩;obtain⟨_,z⟩:=zq0;rw [z R hR]at h3;cases h3
  | none=>
   rw [ef]at e;dsimp only at e
   split at e
   ·cases e
    exact⟨aa9 _,fun z=>absurd z (ah1 _)⟩
   ·cases e
abbrev DN(Rs:List aE):MS:=(none,(Rs.map aU).map (·.start))
theorem Bx{Rs:List aE}{pc:List (List Int)}(hg:∀R∈Rs,cf bs.length R)(hw:∀c∈pc,c.length=bs.length)(h:∀j,j < pc.length->oO bs Rs pc j):∃s,dv (Rs.map aU) (br bs) (DN Rs) pc=some s/\(bY (Rs.map aU) s.2 s.1=true↔∀x∈places bs Rs pc,x=none):=by
 have e:=(lP (cols:=pc) (bs:=bs) hg pc.length (aa9 _)).1 h;rw [ac8]at e;refine⟨_,e,?_⟩;rw [wF hg]
 have hno:∀p,some p∈places bs Rs pc->p=pc.length:=fun p hp=>by
  obtain⟨h1,h2⟩:=pY hg hw hp;exact ae3 fun z=>h2 (by omega) (h p (by omega))
 have hn:∀R∈Rs,aT (fun i=>eS pc i R) 0 pc.length=none:=fun R hR=>lV fun j hj=>(h j hj).2 R hR;refine⟨fun ho x hx=>?_,fun ho R hR=>?_⟩
 ·cases x with
  | none=>rfl
  | some p=>
   exfalso
   rcases ac9.mp hx with hv | hr
   ·obtain⟨v,_,e⟩:=ac0.mp hv
    obtain⟨_,h2,_,_⟩:=firstN_iff.mp e
    have:=hno p hx
    omega
   ·obtain⟨R,hR,e⟩:=ac0.mp hr
    rw [gB (hg R hR)]at e;unfold eY at e;rw [hn R hR,ho R hR]at e;cases e
 ·have e:=ho (fX pc R) (ac7 _ (ac0.mpr ⟨R,hR,rfl⟩))
  rw [gB (hg R hR)]at e;unfold eY at e;rw [hn R hR]at e
  cases eo:uD pc R with
  | false=>rfl
  | true=>rw [eo]at e;cases e
def um(n:Nat)(o:Option (Int×Int)):Int:=match o with | none=>n | some k=>k.1
theorem Bw{Rs:List aE}(hg:∀R∈Rs,cf bs.length R)(hw:∀c∈cols,c.length=bs.length)(h:g6 (fun k=>k∈aX 0 (places bs Rs cols)) o)(k:Nat):
  (um cols.length o < ((cols.take k).length:Int)->dv (Rs.map aU) (br bs) (DN Rs) (cols.take k)=none)/\
  (((cols.take k).length:Int)<=um cols.length o->∃s,dv (Rs.map aU) (br bs) (DN Rs) (cols.take k)=some s/\(bY (Rs.map aU) s.2 s.1=true↔∀x∈places bs Rs (cols.take k),x=none)):=by
 have hl:(cols.take k).length<=k/\(cols.take k).length<=cols.length:=by rw [ac3];omega
 have hw':∀c∈cols.take k,c.length=bs.length:=fun c hc=>hw c (af3 hc);refine⟨fun hlt=>?_,fun hle=>Bx hg hw' fun j hj=>?_⟩
 ·have ex:∃j,j < (cols.take k).length/\¬oO bs Rs (cols.take k) j:=by
   rcases h with⟨rfl,_⟩ | ⟨κ,rfl,h1,_⟩
   ·exact absurd hlt (by show ¬((cols.length:Int) < _);omega)
   ·obtain⟨p,hp,e⟩:=iq h1
    have hlt:κ.1 < ((cols.take k).length:Int):=hlt;obtain⟨g1,g2⟩:=pY hg hw hp;exact⟨p,by omega,fun z=>g2 (by omega) ((vU (by omega)).mp z)⟩
  have:=(lP (cols:=cols.take k) (bs:=bs) hg _ (aa9 _)).2 ex
  rw [ac8]at this;exact this
 ·refine(vU (by omega)).mpr (ae3 fun z=>?_)
  obtain⟨p,hp,hpj⟩:=wt hg hw (j:=j) (by omega) z;obtain⟨i,hi⟩:=ae5 hp;have hm:=nM (n:=0) hi;rcases h with⟨_,h⟩ | ⟨κ,rfl,_,h2⟩
  ·exact h _ hm
  ·have:=ltP_f.mp (h2 _ hm)
   have hle:((cols.take k).length:Int)<=κ.1:=hle;dsimp only at this;omega
def om(P:Program)(w:World)(K:Frag)(C:Addr):Sp:=fun vs H Q _=>∃(x a q l:Addr) (lost:Int) (bs:List (Int×Int)) (Rs:List aE) (pc:List (List Int)) (met:List MS),vs=[.ref x,.ref a,.ref q,.ref l,.int lost]/\kC P w C (Rs.map aU) (br bs) met x H/\bW K H a bs/\fV H q Rs/\bs.length<=4/\Rs.length<=12/\(∀R∈Rs,cf bs.length R/\bV R < 1000)/\g7 H l bs.length pc/\pc.length<=1000/\
 (lost < (pc.length:Int)->dv (Rs.map aU) (br bs) (DN Rs) pc=none)/\
 ((pc.length:Int)<=lost->∃s,dv (Rs.map aU) (br bs) (DN Rs) pc=some s/\(bY (Rs.map aU) s.2 s.1=true↔∀x∈places bs Rs pc,x=none))/\∀H',ar H H'->Q (.bl true) H'
theorem xq(F:cM K "_law_walked" "_law_walked" gU f fd)(T:Txt mg aM)(M_walk:aK P w K mg base C "walk" 3 ["self","line"] (va P w K C))(M_size:aK P w K mg base C "size" 3 ["self"] (mL P w C))(M_ends:aK P w K mg base C "ends" 3 ["self","state"] (uZ P w C))(D_law_whole:bR P w K mg base "_law_whole" 3 ["_law_found"] kz)(D_law_first_fault:bR P w K mg base "_law_first_fault" 3 ["_law_ranges_here","_law_rules","_law_line"] (B6 K)):aN P w K mg base cc 4 f fd ["_law_machine","_law_ranges_here","_law_rules","_law_part","_law_lost"] (om P w K C):=by
 refine F.ok sc_law_walked (fun _ _ _ _ h=>?_) (fun _ A _ s H vs Q E hr h=>?_)
 ·obtain⟨x,a,q,l,lost,bs,Rs,pc,met,rfl,_⟩:=h
  rfl
 obtain⟨x,a,q,l,lost,bs,Rs,pc,met,rfl,MO,hR,hT,b4,r12,hok,hL,lc,no,yes,k⟩:=h
 refine⟨_,(ae (bM (i:=5) sc_law_walked.nd (dR P w K mg base hr (pr 0) (aa (bo (eh K) (by rfl) T.n_list boot_list (aa (pr 3) ah)) ah)))
 (ae (aW (bh (av (o0 nK) (az (aC K) (by rfl) T.n_len boot_len (aa (pr 3) ah)) (pr 4) (aB _))) (ai (aw (dP dJ (pr 5) aV (aB _)))) aF)
 (ae (aW (PW.pt (dq (cI (bu (aD D_law_whole hr (by rfl) (aa (pr 5) ah)) (fun _=>rfl))) (cW (cI (bh (iy (o0 gz) (o0 mh) af (pr 5) (eC P w K mg base hr (pr 0)))))))) (ai (aw jc)) aF)
 (ae (bM (i:=6) sc_law_walked.nd (dR P w K mg base hr (pr 0) (aa (pr 5) ah)))
 (ai (aw (vV (qZ (az (cY K) (by rfl) T.n_isinstance boot_isinstance (aa (pr 6) (aa (i5 (v:=.ty "bool") (by rfl) T.n_bool boot_bool rfl) ah))) (q9 (dP kX (pr 6) (dP dJ (aD D_law_first_fault hr (by rfl) (aa (pr 1) (aa (pr 2) (aa (pr 3) ah)))) aV (aB _)) (aB _))))))))))),?_⟩
 have hs:sizeLine=16777216:=sizeLine_eq;obtain⟨⟨ps,hps,hpl,hpc⟩,hw⟩:=id hL;refine aH (fun Z H'=>∃wv:V,((dv (Rs.map aU) (br bs) (DN Rs) pc=none/\wv=.non)\/∃(j:Nat) (s:MS),dv (Rs.map aU) (br bs) (DN Rs) pc=some s/\met[j]?=some s/\wv=.int j)/\Z=[some (.ref x),some (.ref a),some (.ref q),some (.ref l),some (.int lost),some wv,none]/\ar H H') ?_ ?_
 ·intro u' hu
  obtain⟨dx,la,wl,sc,hx,MB⟩:=id MO.1;walk_at "r";refine⟨C,dx,_,hx,by unfold bC;walk_at "f",_,_,M_walk,_,.inl (aL.of hps),fun l' hl'=>?_⟩;have s2:=ak (o:=.lst (ps.map V.ref)) hl';exact⟨x,l',_,_,met,pc,rfl,MO.same s2,⟨ps,ag,fB.same ⟨hpl,hpc⟩ s2⟩,fun e=>hu _ _ ⟨_,.inl ⟨e,rfl⟩,rfl,s2⟩,fun j s e hj=>hu _ _ ⟨_,.inr ⟨j,s,e,hj,rfl⟩,rfl,s2⟩⟩
 rintro Ω ω _ H1 ⟨wv,hwv,rfl,s1⟩;refine ω _ _ (aH (fun Z H'=>(pc.length:Int)<=lost/\Z=[some (.ref x),some (.ref a),some (.ref q),some (.ref l),some (.int lost),some wv,none]/\H1=H') ?_ ?_)
 ·intro u' hu
  walk_at "r";refine⟨_,.inl (aL.of (s1 _ _ hps)),?_⟩;rw [aa0,hpl]
  by_cases h:lost < (pc.length:Int)
  ·rw [if_pos h]
   rcases hwv with⟨_,rfl⟩ | ⟨_,_,e2,_⟩
   ·exact k _ s1
   ·rw [no h]at e2;cases e2
  ·rw [if_neg h]
   exact hu _ _ ⟨by omega,rfl,rfl⟩
 rintro Ω ω _ _ ⟨hle,rfl,rfl⟩;obtain⟨s,es,ec⟩:=yes hle
 obtain⟨j,hj,rfl⟩:∃j:Nat,met[j]?=some s/\wv=.int j:=by
  rcases hwv with⟨e,_⟩ | ⟨j,s',e,hj,rfl⟩
  ·rw [es]at e;cases e
  ·rw [es]at e;cases e;exact⟨j,hj,rfl⟩
 have hjl:=(aa3.mp hj).1;obtain⟨dx,la,wl,sc,hx,MB⟩:=id (MO.same s1).1;refine ω _ _ (aH (fun Z H'=>Z=[some (.ref x),some (.ref a),some (.ref q),some (.ref l),some (.int lost),some (.int j),none]/\H1=H') ?_ ?_)
 ·intro u' hu
  walk_at "r";refine⟨_,rfl,_,rfl,?_⟩;rw [if_neg (by decide),if_pos (by omega)];refine⟨C,dx,_,hx,by unfold bC;walk_at "f",_,_,M_size,x,_,_,met,rfl,(MO.same s1).1,_,rfl,?_⟩;rw [if_pos (by omega)];exact hu _ _ ⟨rfl,rfl⟩
 rintro Ω ω _ _ ⟨rfl,rfl⟩;refine ω _ _ (aH (fun Z H'=>Z=[some (.ref x),some (.ref a),some (.ref q),some (.ref l),some (.int lost),some (.int j),some (.bl (bY (Rs.map aU) s.2 s.1))]/\H1=H') ?_ ?_)
 ·intro u' hu
  walk_at "r";exact⟨C,dx,_,hx,by unfold bC;walk_at "f",_,_,M_ends,x,_,_,met,j,s,rfl,(MO.same s1).1,hj,hu _ _ ⟨rfl,rfl⟩⟩
 rintro Ω ω _ _ ⟨rfl,rfl⟩;refine ω _ _ ?_;walk_at "r";refine⟨_,.bl _,true,by rfl,?_⟩;rw [if_pos rfl];refine⟨a,q,l,bs,Rs,pc,rfl,hR.same s1,hT.same s1,b4,r12,hok,(hL.same s1).line,lc,fun v o H2 pv le s2=>?_⟩;refine⟨rfl,?_⟩
 have e:decide (V.bl (bY (Rs.map aU) s.2 s.1)=V.bl (decide (v=V.non)))=true:=by
  have ln:=uj le;rcases pv with⟨rfl,rfl⟩ | ⟨t,p,rfl,rfl,_⟩
  ·rw [ec.mpr (ln.mp rfl)]
   exact decide_eq_true rfl
  ·have nc:bY (Rs.map aU) s.2 s.1=false:=by
    cases e:bY (Rs.map aU) s.2 s.1 with
    | false=>rfl
    | true=>exact absurd (ln.mpr (ec.mp e)) (fun z=>by cases z)
   rw [nc];exact decide_eq_true rfl
 rw [e];exact k _ (s1.trans s2)
def vY(K:Frag):Sp:=fun vs H Q _=>∃(a:Addr) (ns:List Int),vs=[.ref a]/\aL K H a (ns.map V.int)/\(∀x∈ns,x.natAbs < 2 ^ GB)/\ns.length<=63/\∀H',Q (.bl true) H'
theorem CD:∀{Rs:List aE},(∀R∈Rs,1<=bV R)->1<=(dI Rs).length/\∀R∈Rs,bV R<=((dI Rs).length:Int)
 | [],_=>⟨aa9 _,fun _ h=>nomatch h⟩
 | R::Rs,h=>by
  obtain⟨h1,h2⟩:=CD fun R' h'=>h R' (.tail _ h');have hR:=h R (.head _)
  have e:(dI (R::Rs)).length=(bV R).toNat * (dI Rs).length:=by
   show((L2.intsFrom 0 (bV R).toNat).flatMap fun m=>(dI Rs).map (m::·)).length=_
   rw [jW _ (dI Rs).length _ fun m=>aa0 ..,fh]
  have g1:(bV R).toNat<=(bV R).toNat * (dI Rs).length:=al0 _ h1;have g2:(dI Rs).length<=(bV R).toNat * (dI Rs).length:=aj1 _ (by omega);rw [e];refine⟨by omega,fun R' h'=>?_⟩;rcases aa8.mp h' with rfl | h'
  ·omega
  ·have:=h2 R' h'
   omega
theorem Fd{Rs:List aE}(hb:∀b∈bs,b.1<=b.2)(hw:∀b∈bs,1<=wN b)(h:∀R∈Rs,1<=bV R):∀R∈Rs,bV R<=dB bs Rs:=fun R hR=>by
 have e:dB bs Rs=rL bs * ((dI Rs).length:Int):=kU Rs _ h;have c1:1<=ib bs:=mU bs 1 hw
 have:=(CD h).2 R hR
 rw [e,mP hb,<-an4];have g:=aj1 (dI Rs).length (show 0 < ib bs by omega);omega
theorem vg{Rs:List aE}(h:∀R∈Rs,cf nv R):qj (Rs.map D9) ((Rs.map aU).map (·.start)):=by
 refine⟨by rw [aa0,aa0,aa0],fun j G m e1 e2=>?_⟩;rw [aa5]at e1 e2;rw [aa5]at e2
 cases hR:Rs[j]? with
 | none=>rw [hR]at e1;cases e1
 | some R=>
  rw [hR]at e1 e2;cases e1;cases e2;have hg:=h R (ac5 hR)
  cases R with
  | plain R=>
   cases R with
   | span o t D=>trivial
   | held o most=>exact⟨Int.le_refl _,by show(0:Int) < most;obtain⟨_,_,g⟩:=hg;omega⟩
   | times o nt lw hh=>exact⟨Int.le_refl _,by show(0:Int)<=hh;obtain⟨_,_,g⟩:=hg;omega⟩
  | every m a R=>exact⟨Int.le_refl _,by show(0:Int) < m;obtain⟨_,_,g,_⟩:=hg;omega⟩
theorem Dj(F:cM K "law" "law" p4 f fd)(T:Txt mg aM)(TS:dm K Cs)(D_law_at:bR P w K mg base "_law_at" 12 ["_law_script","_law_k"] (zP K))(D_law_ranges:bR P w K mg base "_law_ranges" 12 ["_law_script","_law_most"] (oh K))(D_law_great_rules:bR P w K mg base "_law_great_rules" 12 ["_law_script","_law_ranges_here","_law_cap"] (zR K))(D_law_long_line:bR P w K mg base "_law_long_line" 12 ["_law_cell","_law_ranges_here","_law_rules","_law_many"] (u5 K))(D_law_spoilt:bR P w K mg base "_law_spoilt" 12 ["_law_line","_law_cell"] (oj K))(D_read:bR P w K mg base "read" 12 ["text"] (mM P w K mg base Cs))(D_law_text:bR P w K mg base "_law_text" 12 ["_law_ranges_here","_law_rules"] (rF K))
  (D_law_first_fault:bR P w K mg base "_law_first_fault" 12 ["_law_ranges_here","_law_rules","_law_line"] (B6 K)) (D_law_told:bR P w K mg base "_law_told" 12 ["_law_found","_law_due"] (u9 K)) (D_fault:bR P w K mg base "fault" 12 ["score","line"] (mK P w K mg base)) (DM_Machine:h8 P w K mg base "Machine" C 11 ["self","score"] (jx P w K mg base C Cs)) (D_law_whole:bR P w K mg base "_law_whole" 12 ["_law_found"] kz) (M_size:aK P w K mg base C "size" 12 ["self"] (mL P w C)) (D_law_weight:bR P w K mg base "_law_weight" 12 ["_law_ranges_here","_law_rules"] (zU K)) (D_law_walked:bR P w K mg base "_law_walked" 12 ["_law_machine","_law_ranges_here","_law_rules","_law_part","_law_lost"] (om P w K C)):aN P w K mg base cc 13 f fd ["_law_script"] (vY K):=by
 refine F.ok sc_law (fun _ _ _ _ h=>?_) (fun _ A _ s H vs Q E hr h=>?_)
 ·obtain⟨a,ns,rfl,_⟩:=h
  rfl
 obtain⟨a,ns,rfl,hS,hB,ln,k⟩:=h
 refine⟨_,(ae (bM (i:=1) sc_law.nd (aD D_law_ranges hr (by rfl) (aa (pr 0) (aa af ah))))
 (ae (bM (i:=2) sc_law.nd (ax (aG K) (bQ (kZ (vs:=[.int (40),.int (40),.int (40),.int (100),.int (100),.int (400)]) rfl)) (aq (o1 bc) (aq (o1 cj) (aD D_law_at hr (by rfl) (aa (pr 0) (aa af ah))) af) af) (fun _ _=>rfl)))
 (ae (bM (i:=3) sc_law.nd (aD D_law_great_rules hr (by rfl) (aa (pr 0) (aa (pr 1) (aa (pr 2) ah)))))
 (ae (bM (i:=4) sc_law.nd (aq (o1 bc) (aD D_law_at hr (by rfl) (aa (pr 0) (aa af ah))) af))
 (ae (bM (i:=5) sc_law.nd (aD D_law_long_line hr (by rfl) (aa (aD D_law_at hr (by rfl) (aa (pr 0) (aa af ah))) (aa (pr 1) (aa (pr 3) (aa (pr 4) ah))))))
 (ae (bM (i:=5) sc_law.nd (aD D_law_spoilt hr (by rfl) (aa (pr 5) (aa (aD D_law_at hr (by rfl) (aa (pr 0) (aa af ah))) ah))))
 (ae (bM (i:=6) sc_law.nd (aD D_read hr (by rfl) (aa (aD D_law_text hr (by rfl) (aa (pr 1) (aa (pr 3) ah))) ah)))
 (ae (bM (i:=7) sc_law.nd (aD D_law_first_fault hr (by rfl) (aa (pr 1) (aa (pr 3) (aa (pr 5) ah)))))
 (ae (bM (i:=8) sc_law.nd (bo (eh K) (by rfl) T.n_list boot_list (aa (pr 5) ah)))
 (ae (aW (PW.pt (dq (cI (bu (aD D_law_told hr (by rfl) (aa (aD D_fault hr (by rfl) (aa (pr 6) (aa (pr 8) ah))) (aa (pr 7) ah))) (fun _=>rfl))) (cW (bh (av (EK K (Fs hr)) (pr 8) (pr 5) (aB _)))))) (ai (aw jc)) aF)
 (ae (bM (i:=9) sc_law.nd (pX DM_Machine hr (by rfl) (aa (pr 6) ah)))
 (ae (aW (PW.pt (dq (cI (bu (aD D_law_whole hr (by rfl) (aa (eC P w K mg base hr (pr 9)) ah)) (fun _=>rfl))) (cW (cI (bh (iy (o0 gz) (o0 gz) af (eC P w K mg base hr (pr 9)) (aq (bz K) (aD D_law_weight hr (by rfl) (aa (pr 1) (aa (pr 3) ah))) af))))))) (ai (aw jc)) aF)
 (ae (bM (i:=10) sc_law.nd (pr 4))
 (ae (aW (bh (av mE (pr 7) aV (aB _))) (ai (bM (i:=10) sc_law.nd (ax (aG K) (pr 7) af (fun _ _=>rfl)))) aF)
 (ae (bK PassesOwn.never rfl (bE K (bQ (aa (pr 10) (aa (aq (bz K) (pr 10) af) (aa (pr 4) (aa (aq (o1 bc) (aD D_law_at hr (by rfl) (aa (pr 0) (aa af ah))) (aq (bz K) (pr 4) af)) ah)))))) (gD (i:=11) sc_law.nd)
 (ai (aW (cI (bu (aD D_law_walked hr (by rfl) (aa (pr 9) (aa (pr 1) (aa (pr 3) (aa (cy (ko K) (pr 5) cT (ka (pr 11))) (aa (pr 10) ah)))))) (fun _=>rfl))) (ai (aw jc)) aF)))
 (ai (aw jc))))))))))))))))),?_⟩
 have hs:sizeLine=16777216:=sizeLine_eq;refine aH (fun Z H'=>∃(q:Addr) (bs:List (Int×Int)),1<=bs.length/\bs.length<=4/\(∀b∈bs,Dh b)/\ib bs<=6/\bW K H' q bs/\Z=[some (.ref a),some (.ref q),none,none,none,none,none,none,none,none,none,none]/\ar H H') ?_ ?_
 ·intro u' hu
  walk_at "r";exact⟨a,ns,6,rfl,hS,by decide,by decide,fun q bs H1 l1 l4 hb hc hq hC s1=>hu _ _ ⟨q,bs,l1,l4,hb,hc,hC.ranges,rfl,s1⟩⟩
 rintro Ω ω _ H1 ⟨q,bs,l1,l4,hbW,hc,RA,rfl,s1⟩;have hw1:∀b∈bs,1<=wN b:=fun b h=>(hbW b h).big.2.2.2.2;have hb1:∀b∈bs,b.1<=b.2:=fun b h=>(hbW b h).1;have hbb:∀b∈bs,b.1.natAbs < 10 ^ 40/\b.2.natAbs < 10 ^ 40:=fun b h=>⟨(hbW b h).big.2.1,(hbW b h).big.2.2.1⟩
 have hb:∀b∈bs,Bh b:=fun b h=>by
  obtain⟨i,hi⟩:=ae5 h;have g:=An hw1 hi;obtain⟨h1,h2,_⟩:=hbW b h;unfold wN at g;exact⟨h1,h2,by omega⟩
 have c1:1<=ib bs:=mU bs 1 hw1;refine ω _ _ (aH (fun Z H'=>∃cap:Int,40<=cap/\cap<=400/\Z=[some (.ref a),some (.ref q),some (.int cap),none,none,none,none,none,none,none,none,none]/\ar H1 H') ?_ ?_)
 ·intro u' hu
  walk_at "r";refine⟨by omega,fun p hp=>⟨a,ns,3,rfl,(s1.trans (ak hp)).seq hS,by decide,by decide,_,rfl,⟨by decide,by decide⟩,by decide,?_⟩⟩;have g0:=ad5 (wq ns 3 / 3) (show(6:Int)≠0 by decide);have g1:=ad0 (wq ns 3 / 3) (show 0 < (6:Int)by decide);refine iB (aL.of ag) g0 (by simp;omega) fun z hz _=>?_
  obtain⟨cap,rfl,z1,z2⟩:∃cap:Int,z=.int cap/\40<=cap/\cap<=400:=by
   simp only [aa8,ac2,or_false]at hz
   rcases hz with rfl | rfl | rfl | rfl | rfl | rfl<;>exact⟨_,rfl,by decide,by decide⟩
  exact hu _ _ ⟨cap,z1,z2,rfl,ak hp⟩
 rintro Ω ω _ H2 ⟨cap,cap1,cap4,rfl,s2⟩;refine ω _ _ (aH (fun Z H'=>∃(r:Addr) (Rs:List aE),fV H' r Rs/\Rs.length<=3/\(∀R∈Rs,Ef bs.length R)/\dB bs Rs<=400/\Z=[some (.ref a),some (.ref q),some (.int cap),some (.ref r),none,none,none,none,none,none,none,none]/\ar H2 H') ?_ ?_)
 ·intro u' hu
  walk_at "r";exact⟨a,q,ns,bs,cap,rfl,(s1.trans s2).seq hS,RA.same s2,l1,l4,hb,by omega,cap4,fun r Rs H' h1 h2 h3 h4 h5 _ s3=>hu _ _ ⟨r,Rs,h1,h3,h4,by omega,rfl,s3⟩⟩
 rintro Ω ω _ H3 ⟨r,Rs,RT,r3,hok,hwt,rfl,s3⟩;have hs1:∀R∈Rs,1<=bV R:=fun R h=>(hok R h).2.2;have hg:∀R∈Rs,cf bs.length R:=fun R h=>(hok R h).1;have hs4:∀R∈Rs,bV R<=400:=fun R h=>af1 (Fd hb1 hw1 hs1 R h) hwt;have s13:=(s1.trans s2).trans s3;refine ω _ _ (aH (fun Z H'=>∃n:Nat,n<=200/\Z=[some (.ref a),some (.ref q),some (.int cap),some (.ref r),some (.int n),none,none,none,none,none,none,none]/\H3=H') ?_ ?_)
 ·intro u' hu
  walk_at "r";have g0:=ad5 (wq ns 7) (show(201:Int)≠0 by decide);have g1:=ad0 (wq ns 7) (show 0 < (201:Int)by decide);refine⟨a,ns,7,rfl,s13.seq hS,by decide,by decide,_,rfl,by decide,hu _ _ ⟨(wq ns 7 % 201).toNat,by omega,?_,rfl⟩⟩;rw [ak3 g0]
 rintro Ω ω _ _ ⟨n,n2,rfl,rfl⟩;refine ω _ _ (aH (fun Z H'=>∃(l:Addr) (cols:List (List Int)),g7 H' l bs.length cols/\cols.length=n/\Z=[some (.ref a),some (.ref q),some (.int cap),some (.ref r),some (.int n),some (.ref l),none,none,none,none,none,none]/\ar H3 H') ?_ ?_)
 ·intro u' hu
  walk_at "r";refine⟨a,ns,8,rfl,s13.seq hS,by decide,by decide,?_⟩;exact⟨_,q,r,bs,Rs,n,rfl,RA.same (s2.trans s3),l1,l4,hb,RT,r3,hok,n2,fun l cols H' h1 h2 s4=>hu _ _ ⟨l,cols,h1,h2,rfl,s4⟩⟩
 rintro Ω ω _ H4 ⟨l0,cols0,LN0,cl0,rfl,s4⟩;refine ω _ _ (aH (fun Z H'=>∃(l:Addr) (cols:List (List Int)),g7 H' l bs.length cols/\cols.length=n/\Z=[some (.ref a),some (.ref q),some (.int cap),some (.ref r),some (.int n),some (.ref l),none,none,none,none,none,none]/\ar H3 H') ?_ ?_)
 ·intro u' hu
  walk_at "r";refine⟨a,ns,9,rfl,(s13.trans s4).seq hS,by decide,by decide,?_⟩;exact⟨l0,_,bs.length,cols0,rfl,LN0,l1,l4,by omega,fun l cols H' h1 h2 s5=>hu _ _ ⟨l,cols,h1,h2.trans cl0,rfl,s4.trans s5⟩⟩
 clear LN0 cl0 s4 H4;rintro Ω ω _ H4 ⟨l,cols,LN,cl,rfl,s4⟩;have RA4:=RA.same ((s2.trans s3).trans s4);have RT4:=RT.same s4;refine ω _ _ (aH (fun Z H'=>∃sc,dw P w K mg base Cs bs.length bs Rs sc H'/\Z=[some (.ref a),some (.ref q),some (.int cap),some (.ref r),some (.int n),some (.ref l),some (.ref sc),none,none,none,none,none]/\ar H4 H') ?_ ?_)
 ·intro u' hu
  walk_at "r";refine⟨q,r,bs,Rs,rfl,RA4,RT4,by omega,by omega,hbb,fun R h=>(hok R h).2.1,fun H5 s5=>?_⟩;exact BU l1 l4 (by omega) hb hok hs4 hwt fun sc H6 SA s6=>hu _ _ ⟨sc,SA,rfl,s5.trans s6⟩
 rintro Ω ω _ H5 ⟨sc,SA,rfl,s5⟩;have hok5:∀R∈Rs,cf bs.length R/\bV R < 1000:=fun R h=>⟨hg R h,by have:=hs4 R h;omega⟩;refine ω _ _ (aH (fun Z H'=>∃(v7:V) (o:Option (Int×Int)),jK K H' v7 o/\g6 (fun k=>k∈aX 0 (places bs Rs cols)) o/\Z=[some (.ref a),some (.ref q),some (.int cap),some (.ref r),some (.int n),some (.ref l),some (.ref sc),some v7,none,none,none,none]/\ar H5 H') ?_ ?_)
 ·intro u' hu
  walk_at "r";exact⟨q,r,l,bs,Rs,cols,rfl,RA4.same s5,RT4.same s5,l4,by omega,hok5,(LN.same s5).line,by omega,fun v o H' pv le s6=>hu _ _ ⟨v,o,pv,le,rfl,s6⟩⟩
 rintro Ω ω _ H6 ⟨v7,o,pv,le,rfl,s6⟩;have LN6:=LN.same (s5.trans s6);obtain⟨⟨ps,hps,hpl,hpc⟩,hw⟩:=id LN6;refine ω _ _ (aH (fun Z H'=>∃hd:Addr,H' hd=some (.lst (ps.map V.ref))/\Z=[some (.ref a),some (.ref q),some (.int cap),some (.ref r),some (.int n),some (.ref l),some (.ref sc),some v7,some (.ref hd),none,none,none]/\ar H6 H') ?_ ?_)
 ·intro u' hu
  walk_at "r";exact⟨_,.inl (aL.of hps),fun hd hhd=>hu _ _ ⟨hd,ag,rfl,ak hhd⟩⟩
 rintro Ω ω _ H7 ⟨hd,hhd,rfl,s7⟩;have LNh:g7 H7 hd bs.length cols:=⟨⟨ps,hhd,fB.same ⟨hpl,hpc⟩ s7⟩,hw⟩;refine ω _ _ (aH (fun Z H'=>Z=[some (.ref a),some (.ref q),some (.int cap),some (.ref r),some (.int n),some (.ref l),some (.ref sc),some v7,some (.ref hd),none,none,none]/\ar H7 H') ?_ ?_)
 ·intro u' hu
  walk_at "r";refine yw TS (SA.same (s6.trans s7)) LNh.line (by omega) l4 (by omega) fun v o' H8 pv' le' s8=>?_;rw [le'.uniq le]at pv';walk_at "r";refine⟨v,v7,o,rfl,pv',(pv.same s7).same s8,true,rfl,?_⟩;rw [if_neg (by decide)];refine xy (l:=true) (aL.of (s8 _ _ hhd)) (aL.of ((s7.trans s8) _ _ hps)) (fun y hy=>.inr (by obtain⟨p,_,rfl⟩:=ac0.mp hy;exact⟨p,rfl⟩)) ⟨false,rfl,?_⟩;rw [if_neg (by decide)];exact hu _ _ ⟨rfl,s8⟩
 rintro Ω ω _ H8 ⟨rfl,s8⟩;have SA8:=SA.same ((s6.trans s7).trans s8);refine ω _ _ (aH (fun Z H'=>∃(x:Addr) (met:List MS),kC P w C (Rs.map aU) (br bs) met x H'/\1<=met.length/\(met.length:Int)<=dB bs Rs+1/\Z=[some (.ref a),some (.ref q),some (.int cap),some (.ref r),some (.int n),some (.ref l),some (.ref sc),some v7,some (.ref hd),some (.ref x),none,none]/\ar H8 H') ?_ ?_)
 ·intro u' hu
  walk_at "r";intro x dx hx hdx dxx;have s89:ar H8 (upd (upd H8 dx (.own x)) x (.ins C dx [])):=(ak hdx).upd (by rw [aj dxx.symm];exact hx);refine⟨x,dx,sc,bs.length,bs,Rs.map aU,Rs.map D9,Eh bs Rs,H8,rfl,ag,hx,s89,SA8.toM,by rw [aa0];omega,vg hg,rfl,l4,hw1,by omega,vd hb1 hg hs1 hwt,fun met H' mf sub cl ma old=>⟨rfl,hu _ _ ⟨x,met,?_,(tI hb1 hs1 mf sub).1,(tI hb1 hs1 mf sub).2,rfl,fun b o e=>old b o (au e hx) (s89 _ _ e)⟩⟩⟩;obtain⟨dx',la,wa,hx',MB⟩:=ma;exact⟨⟨dx',la,wa,sc,hx',MB⟩,mf.st,cl⟩
 rintro Ω ω _ H9 ⟨x,met,MO,m1,m2,rfl,s9⟩;have s49:=(((s5.trans s6).trans s7).trans s8).trans s9;obtain⟨dx,la,wl,sc',hx,MB⟩:=id MO.1;refine ω _ _ (aH (fun Z H'=>Z=[some (.ref a),some (.ref q),some (.int cap),some (.ref r),some (.int n),some (.ref l),some (.ref sc),some v7,some (.ref hd),some (.ref x),none,none]/\ar H9 H') ?_ ?_)
 ·intro u' hu
  walk_at "r";refine⟨C,dx,_,hx,by unfold bC;walk_at "f",_,_,M_size,x,_,_,met,rfl,MO.1,_,rfl,true,rfl,?_⟩;rw [if_neg (by decide)];refine⟨C,dx,_,hx,by unfold bC;walk_at "f",_,_,M_size,x,_,_,met,rfl,MO.1,_,rfl,?_⟩;rw [if_pos (by omega)];refine⟨q,r,bs,Rs,rfl,RA4.same s49,RT4.same s49,l4,hb,by omega,r3,fun R h=>?_,fun H10 s10=>?_⟩
  ·have:=hs4 R h
   have:=hs1 R h
   exact ab0 (m:=2 ^ 10) (by omega) (ah3 (by decide) (by decide))
  ·walk_at "r"
   rw [if_pos m2];exact hu _ _ ⟨rfl,s10⟩
 rintro Ω ω _ H10 ⟨rfl,s10⟩;have s4t:=s49.trans s10;refine ω _ _ (aH (fun Z H'=>Z=[some (.ref a),some (.ref q),some (.int cap),some (.ref r),some (.int n),some (.ref l),some (.ref sc),some v7,some (.ref hd),some (.ref x),some (.int n),none]/\H10=H') ?_ ?_)
 ·intro u' hu
  walk_at "r";exact hu _ _ ⟨rfl,rfl⟩
 rintro Ω ω _ _ ⟨rfl,rfl⟩;obtain⟨lost,hlost⟩:∃lost:Int,lost=um cols.length o:=⟨_,rfl⟩;have PV:=((((pv.same s7).same s8).same s9).same s10);refine ω _ _ (aH (fun Z H'=>Z=[some (.ref a),some (.ref q),some (.int cap),some (.ref r),some (.int n),some (.ref l),some (.ref sc),some v7,some (.ref hd),some (.ref x),some (.int lost),none]/\H10=H') ?_ ?_)
 ·intro u' hu
  have pv10:=PV;walk_at "r";rcases pv10 with⟨ho,hv⟩ | ⟨t,p,ho,hv,ht⟩
  ·rw [if_pos hv]
   refine hu _ _ ⟨?_,rfl⟩;rw [hlost,ho,<-cl];rfl
  ·rw [if_neg (by rw [hv];exact fun z=>by cases z),hv]
   refine aR (bH.of ht) (aP rfl) (hu _ _ ⟨?_,rfl⟩);rw [hlost,ho,hv];rfl
 rintro Ω ω _ _ ⟨rfl,rfl⟩
 obtain⟨m,hm⟩:∃m:Nat,lost=m:=by
  rcases le with⟨rfl,_⟩ | ⟨κ,rfl,h1,_⟩
  ·exact⟨_,hlost⟩
  ·obtain⟨p,_,e⟩:=iq h1
   exact⟨p,hlost.trans e⟩
 have part:∀k:Nat,_:=Bw hg LN.2 le;rw [<-hlost]at part;refine ω _ _ ?_;walk_at "r";have g0:=ad5 (wq ns 10) (show((n:Int)+1)≠0 by omega);obtain⟨g,hg'⟩:∃g:Nat,wq ns 10 % ((n:Int)+1)=g:=⟨(wq ns 10 % ((n:Int)+1)).toNat,by omega⟩;refine⟨a,ns,10,rfl,(s13.trans (s4.trans s4t)).seq hS,by decide,by decide,_,rfl,by omega,by omega,fun p hp=>?_⟩;rw [hg',hm,show(m:Int)+1=((m+1:Nat):Int)by omega];obtain⟨xs,hxs⟩:∃xs:List V,xs=[V.int (m:Nat),V.int ((m+1:Nat):Int),V.int n,V.int g]:=⟨_,rfl⟩
 have hx4:∀y∈xs,∃j:Nat,y=.int j:=fun y hy=>by
  rw [hxs]at hy;simp only [aa8,ac2,or_false]at hy
  rcases hy with rfl | rfl | rfl | rfl<;>exact⟨_,rfl⟩
 rw [<-hxs];have sp:=ak (o:=.lst xs) hp;obtain⟨Pv,hPv⟩:∃Pv:Nat->L2.St->Hp->Prop,Pv=fun _ Z H'=>∃o11:Option V,H' p=some (.lst xs)/\Z=[some (.ref a),some (.ref q),some (.int cap),some (.ref r),some (.int n),some (.ref l),some (.ref sc),some v7,some (.ref hd),some (.ref x),some (.int lost),o11]/\ar H10 H':=⟨_,rfl⟩;refine bN (aL.of ag) (cD (xs:=xs) Pv (by rw [hPv];exact⟨none,ag,by rw [hm],sp⟩) (fun i Z H' _ z=>by rw [hPv]at z;obtain⟨_,z,_,_⟩:=z;exact aL.of z) ?_ ?_)
 ·intro i y Z H11 hy hI
  rw [hPv]at hI;obtain⟨o11,hp11,rfl,s11⟩:=hI;obtain⟨j,rfl⟩:=hx4 y (ac5 hy);have s411:=s4t.trans s11;obtain⟨⟨ls,hls,hll,hlc⟩,hlw⟩:=LN.same s411;walk_at "r";refine eE (aL.of hls) fun pa hpa=>?_;rw [iV,<-ap0];have s12:=ak (o:=.lst ((ls.take j).map V.ref)) hpa;have pt:=part j;refine⟨x,q,r,pa,lost,bs,Rs,cols.take j,met,rfl,(MO.same (s10.trans s11)).same s12,RA4.same (s411.trans s12),RT4.same (s411.trans s12),l4,by omega,hok5,⟨⟨ls.take j,ag,?_⟩,fun c hc=>hlw c (af3 hc)⟩,?_,pt.1,pt.2,fun H13 s13=>⟨true,rfl,?_⟩⟩
  ·refine fB.same ⟨by rw [ac3,ac3,hll],fun i p us e1 e2=>?_⟩ s12
   rw [aj0]at e1 e2
   split at e1
   ·rename_i h
    rw [if_pos h]at e2;exact hlc i p us e1 e2
   ·cases e1
  ·rw [ac3]
   omega
  ·rw [if_neg (by decide),hPv]
   exact⟨_,(s12.trans s13) _ _ hp11,rfl,(s11.trans s12).trans s13⟩
 ·intro Z H' hI
  rw [hPv]at hI;obtain⟨o11,_,rfl,_⟩:=hI;walk_at "r";exact k _
theorem all_mk{l:PySem.W.OpenLaw}{h:Heap}{fa:Addr}{Zad:Addr}{Zac:Addr}{Zab:Addr}{Zae:Addr}{Zag:Addr}{Zaa:Addr}{Zao:Addr}{Zat:FuncData}{Zap:Addr}{Zau:FuncData}{Zaq:Addr}{Zav:FuncData}{a_MAKERS:Addr}{D_MAKERS:List (Str×V)}{a_INNER_KINDS:Addr}(X:K.In h)(G:h.Ns mainGlobals mg)(hfa:mg "law"=some (.ref fa))
  (Zdb:nsIn K mainGlobals "Span"=some (some (.ref Zad)))
  (Zak:ml K Zad)
  (Zdc:nsIn K mainGlobals "Held"=some (some (.ref Zac)))
  (Zai:jE K Zac)
  (Zdd:nsIn K mainGlobals "Times"=some (some (.ref Zab)))
  (Zah:gj K Zab)
  (Zde:nsIn K mainGlobals "Every"=some (some (.ref Zae)))
  (Zaj:hZ K Zae)
  (Zdf:nsIn K mainGlobals "Score"=some (some (.ref Zag)))
  (Zal:dm K Zag)
  (Zdg:nsIn K mainGlobals "Machine"=some (some (.ref Zaa)))
  (Zaf:gE K Zaa)
  (Zaw:∃f fd,bp K "note_in" lC f fd)
  (Zax:∃f fd,bp K "span" uS f fd)
  (Zay:∃C f fd,jD K "Rule" "__init__" "Rule.__init__" fb C f fd)
  (Zaz:∃f fd,bX K Zad "size" "Rule.size" iE f fd)
  (Za0:∃f fd,bX K Zad "start" "Rule.start" da f fd)
  (Za1:∃f fd,bX K Zad "closes" "Rule.closes" du f fd)
  (Za2:∃f fd,bX K Zac "start" "Rule.start" da f fd)
  (Za3:∃f fd,bX K Zac "closes" "Rule.closes" du f fd)
  (Za4:∃f fd,bX K Zab "start" "Rule.start" da f fd)
  (Za5:∃f fd,bX K Zae "start" "Rule.start" da f fd)
  (Za6:∃f fd,bX K Zae "closes" "Rule.closes" du f fd)
  (Za7:∃f fd,bX K Zac "size" "Held.size" iD f fd)
  (Za8:∃f fd,bX K Zab "size" "Times.size" gO f fd)
  (Za9:∃f fd,bX K Zae "size" "Every.size" gL f fd)
  (Zba:∃f fd,bX K Zad "after" "Span.after" gN f fd)
  (Zbb:∃f fd,bX K Zac "after" "Held.after" gM f fd)
  (Zbc:∃f fd,bX K Zab "closes" "Times.closes" fM f fd)
  (Zbd:∃f fd,bX K Zab "after" "Times.after" gb f fd)
  (Zbe:∃f fd,bX K Zae "after" "Every.after" fZ f fd)
  (Zbf:∃f fd,qk K "Span" "Span.__init__" fc Zad f fd)
  (Zbg:∃f fd,qk K "Held" "Held.__init__" e7 Zac f fd)
  (Zbh:∃f fd,qk K "Times" "Times.__init__" eH Zab f fd)
  (Zbi:∃f fd,qk K "Every" "Every.__init__" eF Zae f fd)
  (Zbj:∃f fd,bp K "is_number" iI f fd)
  (Zbk:∃f fd,bp K "has_list" jm f fd)
  (Zbl:∃f fd,bp K "are_voices" gP f fd)
  (Zbm:bp K "span_of" lD Zao Zat)
  (Zbn:bp K "held_of" lA Zap Zau)
  (Zbo:bp K "times_of" jt Zaq Zav)
  (Zbp:∃f fd,bp K "plain_rule" gY f fd)
  (Zbq:∃f fd,bp K "every_rule" gQ f fd)
  (Zbr:∃f fd u,xV K "read_rule" fT f fd u/\aS (.int 0) u)
  (Zbs:∃f fd,bp K "broken_at" iH f fd)
  (Zbt:∃f fd,qk K "Score" "Score.__init__" eG Zag f fd)
  (Zbu:∃f fd,bp K "weight" nU f fd)
  (Zbv:∃f fd,bp K "not_too_wide" fQ f fd)
  (Zbw:∃f fd,bp K "first_outside" fe f fd)
  (Zbx:∃f fd,bp K "fault" rj f fd)
  (Zby:∃f fd,bp K "voice_range" gg f fd)
  (Zbz:∃f fd,bp K "read" uR f fd)
  (Zb0:∃f fd,bp K "lengthened" gX f fd)
  (Zb1:∃f fd,bp K "columns" lu f fd)
  (Zb2:∃f fd,bp K "memories_after" eJ f fd)
  (Zb3:∃f fd,bp K "all_close" iG f fd)
  (Zb4:∃C f fd,jD K "States" "__init__" "States.__init__" dS C f fd)
  (Zb5:∃f fd,bX K Zaa "size" "States.size" f7 f fd)
  (Zb6:∃f fd,bX K Zaa "to" "States.to" iF f fd)
  (Zb7:∃f fd,bX K Zaa "ends" "States.ends" f6 f fd)
  (Zb8:∃f fd,bX K Zaa "walk" "Machine.walk" fL f fd)
  (Zb9:∃f fd,bX K Zaa "build" "Machine.build" e8 f fd)
  (Zca:∃f fd,qk K "Machine" "Machine.__init__" dz Zaa f fd)
  (Zcb:∃f fd,bp K "_law_at" nT f fd)
  (Zcc:∃f fd,bp K "_law_draws" iJ f fd)
  (Zcd:∃f fd,bp K "_law_ranges" gR f fd)
  (Zce:∃f fd,bp K "_law_columns" gc f fd)
  (Zcf:∃f fd,bp K "_law_whole" iK f fd)
  (Zcg:∃f fd,bp K "_law_great_rule" eI f fd)
  (Zch:∃f fd,bp K "_law_great_rules" dW f fd)
  (Zci:∃f fd,bp K "_law_weight" gW f fd)
  (Zcj:∃f fd,bp K "_law_range_at" fO f fd)
  (Zck:∃f fd,bp K "_law_held_at" gd f fd)
  (Zcl:∃f fd,bp K "_law_times_at" fP f fd)
  (Zcm:∃f fd,bp K "_law_every_at" fN f fd)
  (Zcn:∃f fd,bp K "_law_rule_at" gf f fd)
  (Zco:∃f fd,bp K "_law_first_fault" dU f fd)
  (Zcp:∃f fd,bp K "_law_told" jr f fd)
  (Zcq:∃f fd,bp K "_law_spoilt" gT f fd)
  (Zcr:∃f fd,bp K "_law_row" lB f fd)
  (Zcs:∃f fd,bp K "_law_text" jq f fd)
  (Zct:∃f fd,bp K "_law_runs" jo f fd)
  (Zcu:∃f fd,bp K "_law_long_line" ff f fd)
  (Zcv:∃f fd,bp K "_law_walked" gU f fd)
  (n_MAKERS:nsIn K mainGlobals "MAKERS"=some (some (.ref a_MAKERS)))
  (t_MAKERS:kE K a_MAKERS D_MAKERS)
  (d_MAKERS_span:KTD.datumAt ("span":Str) D_MAKERS=some (.ref Zao))
  (d_MAKERS_held:KTD.datumAt ("held":Str) D_MAKERS=some (.ref Zap))
  (d_MAKERS_times:KTD.datumAt ("times":Str) D_MAKERS=some (.ref Zaq))
  (n_INNER_KINDS:nsIn K mainGlobals "INNER_KINDS"=some (some (.ref a_INNER_KINDS)))
  (q_INNER_KINDS:xX K a_INNER_KINDS [.str "span",.str "clock"])
  (z_len:nsIn K mainGlobals "len"=some none)
  (z_range:nsIn K mainGlobals "range"=some none)
  (z_all:nsIn K mainGlobals "all"=some none)
  (z_min:nsIn K mainGlobals "min"=some none)
  (z_max:nsIn K mainGlobals "max"=some none)
  (z_abs:nsIn K mainGlobals "abs"=some none)
  (z_tuple:nsIn K mainGlobals "tuple"=some none)
  (z_list:nsIn K mainGlobals "list"=some none)
  (z_isinstance:nsIn K mainGlobals "isinstance"=some none)
  (z_bool:nsIn K mainGlobals "bool"=some none)
  (z_int:nsIn K mainGlobals "int"=some none)
  (z_str:nsIn K mainGlobals "str"=some none)
  (z_enumerate:nsIn K mainGlobals "enumerate"=some none)
  (z_zip:nsIn K mainGlobals "zip"=some none)
  (g_FIGURES:∃u,nsIn K mainGlobals "FIGURES"=some (some u)/\aS (.str "0123456789") u)
  (g_MOST_FIGURES:∃u,nsIn K mainGlobals "MOST_FIGURES"=some (some u)/\aS (.int 40) u)
  (g_MOST_VOICES:∃u,nsIn K mainGlobals "MOST_VOICES"=some (some u)/\aS (.int 4) u)
  (g_MOST_RULES:∃u,nsIn K mainGlobals "MOST_RULES"=some (some u)/\aS (.int 12) u)
  (g_MOST_WEIGHT:∃u,nsIn K mainGlobals "MOST_WEIGHT"=some (some u)/\aS (.int 400) u)
  (g_MOST_NUMBERS:∃u,nsIn K mainGlobals "MOST_NUMBERS"=some (some u)/\aS (.int 12) u)
  (g_START:∃u,nsIn K mainGlobals "START"=some (some u)/\aS (.int 0) u)
  (Zcw:∃f fd,bp K "law" p4 f fd)
  :∃fd:FuncData,(∀(s:Shared) (v:Value),BindsTo s fd ⟨[v],[]⟩ [("_law_script",v)])/\∀base:Heap,K.In base->base.Ns mainGlobals mg->aN l.prog w K mg base cc 13 fa fd ["_law_script"] (vY K):=by
 obtain⟨Zi7,Zi8,Zcx⟩:=Zcw;obtain⟨Zi9,Zja,Zdh⟩:=Zaw;have Zdi:=Zdh.fn;obtain⟨Zjb,Zjc,Zdj⟩:=Zax;have Zdk:=Zdj.fn;obtain⟨Zjd,Zje,Zjf,Zdl⟩:=Zay;have Zdm:=Zdl.fn;obtain⟨Zjg,Zjh,Zdn⟩:=Zaz;have Zdo:=Zdn.fn;obtain⟨Zji,Zjj,Zdp⟩:=Za0;have Zdq:=Zdp.fn;obtain⟨Zjk,Zjl,Zdr⟩:=Za1;have Zds:=Zdr.fn;obtain⟨Zjm,Zjn,Zdt⟩:=Za2;have Zdu:=Zdt.fn;obtain⟨Zjo,Zjp,Zdv⟩:=Za3;have Zdw:=Zdv.fn;obtain⟨Zjq,Zjr,Zdx⟩:=Za4;have Zdy:=Zdx.fn;obtain⟨Zjs,Zjt,Zdz⟩:=Za5;have Zd0:=Zdz.fn;obtain⟨Zju,Zjv,Zd1⟩:=Za6;have Zd2:=Zd1.fn;obtain⟨Zjw,Zjx,Zd3⟩:=Za7;have Zd4:=Zd3.fn;obtain⟨Zjy,Zjz,Zd5⟩:=Za8;have Zd6:=Zd5.fn;obtain⟨Zj0,Zj1,Zd7⟩:=Za9;have Zd8:=Zd7.fn;obtain⟨Zj2,Zj3,Zd9⟩:=Zba;have Zea:=Zd9.fn;obtain⟨Zj4,Zj5,Zeb⟩:=Zbb;have Zec:=Zeb.fn;obtain⟨Zj6,Zj7,Zed⟩:=Zbc;have Zee:=Zed.fn;obtain⟨Zj8,Zj9,Zef⟩:=Zbd;have Zeg:=Zef.fn;obtain⟨Zka,Zkb,Zeh⟩:=Zbe;have Zei:=Zeh.fn;obtain⟨Zkc,Zkd,Zej⟩:=Zbf;have Zek:=Zej.fn;obtain⟨Zke,Zkf,Zel⟩:=Zbg;have Zem:=Zel.fn;obtain⟨Zkg,Zkh,Zen⟩:=Zbh;have Zeo:=Zen.fn;obtain⟨Zki,Zkj,Zep⟩:=Zbi;have Zeq:=Zep.fn;obtain⟨Zkk,Zkl,Zer⟩:=Zbj;have Zes:=Zer.fn;obtain⟨Zkm,Zkn,Zet⟩:=Zbk;have Zeu:=Zet.fn;obtain⟨Zko,Zkp,Zev⟩:=Zbl;have Zew:=Zev.fn;have Zcy:=Zbm.fn;have Zcz:=Zbn.fn;have Zc0:=Zbo.fn;obtain⟨Zkq,Zkr,Zex⟩:=Zbp;have Zey:=Zex.fn;obtain⟨Zks,Zkt,Zez⟩:=Zbq;have Ze0:=Zez.fn;obtain⟨Zc1,Zc2,Zhd,Zc3,Zhe⟩:=Zbr;obtain⟨Zku,Zkv,Zkw,Zam,Ze1,Ze2⟩:=Zc3.fn;obtain⟨Zkx,Zky,Ze3⟩:=Zbs;have Ze4:=Ze3.fn;obtain⟨Zkz,Zk0,Ze5⟩:=Zbt;have Ze6:=Ze5.fn;obtain⟨Zk1,Zk2,Ze7⟩:=Zbu;have Ze8:=Ze7.fn;obtain⟨Zk3,Zk4,Ze9⟩:=Zbv;have Zfa:=Ze9.fn;obtain⟨Zk5,Zk6,Zfb⟩:=Zbw;have Zfc:=Zfb.fn;obtain⟨Zk7,Zk8,Zfd⟩:=Zbx;have Zfe:=Zfd.fn
 obtain⟨Zk9,Zla,Zff⟩:=Zby
 have Zfg:=Zff.fn;obtain⟨Zlb,Zlc,Zfh⟩:=Zbz;have Zfi:=Zfh.fn;obtain⟨Zld,Zle,Zfj⟩:=Zb0;have Zfk:=Zfj.fn;obtain⟨Zlf,Zlg,Zfl⟩:=Zb1;have Zfm:=Zfl.fn;obtain⟨Zlh,Zli,Zfn⟩:=Zb2;have Zfo:=Zfn.fn;obtain⟨Zlj,Zlk,Zfp⟩:=Zb3;have Zfq:=Zfp.fn;obtain⟨Zll,Zlm,Zln,Zfr⟩:=Zb4;have Zfs:=Zfr.fn;obtain⟨Zlo,Zlp,Zft⟩:=Zb5;have Zfu:=Zft.fn;obtain⟨Zlq,Zlr,Zfv⟩:=Zb6;have Zfw:=Zfv.fn;obtain⟨Zls,Zlt,Zfx⟩:=Zb7;have Zfy:=Zfx.fn;obtain⟨Zlu,Zlv,Zfz⟩:=Zb8;have Zf0:=Zfz.fn;obtain⟨Zlw,Zlx,Zf1⟩:=Zb9;have Zf2:=Zf1.fn;obtain⟨Zly,Zlz,Zf3⟩:=Zca;have Zf4:=Zf3.fn;obtain⟨Zl0,Zl1,Zf5⟩:=Zcb;have Zf6:=Zf5.fn;obtain⟨Zl2,Zl3,Zf7⟩:=Zcc;have Zf8:=Zf7.fn;obtain⟨Zl4,Zl5,Zf9⟩:=Zcd;have Zga:=Zf9.fn;obtain⟨Zl6,Zl7,Zgb⟩:=Zce;have Zgc:=Zgb.fn;obtain⟨Zl8,Zl9,Zgd⟩:=Zcf;have Zge:=Zgd.fn;obtain⟨Zma,Zmb,Zgf⟩:=Zcg;have Zgg:=Zgf.fn;obtain⟨Zmc,Zmd,Zgh⟩:=Zch;have Zgi:=Zgh.fn;obtain⟨Zme,Zmf,Zgj⟩:=Zci;have Zgk:=Zgj.fn;obtain⟨Zmg,Zmh,Zgl⟩:=Zcj;have Zgm:=Zgl.fn;obtain⟨Zmi,Zmj,Zgn⟩:=Zck;have Zgo:=Zgn.fn;obtain⟨Zmk,Zml,Zgp⟩:=Zcl;have Zgq:=Zgp.fn;obtain⟨Zmm,Zmn,Zgr⟩:=Zcm;have Zgs:=Zgr.fn;obtain⟨Zmo,Zmp,Zgt⟩:=Zcn;have Zgu:=Zgt.fn;obtain⟨Zmq,Zmr,Zgv⟩:=Zco;have Zgw:=Zgv.fn;obtain⟨Zms,Zmt,Zgx⟩:=Zcp;have Zgy:=Zgx.fn;obtain⟨Zmu,Zmv,Zgz⟩:=Zcq;have Zg0:=Zgz.fn;obtain⟨Zmw,Zmx,Zar⟩:=Zcr;have Zan:=Zar.fn;obtain⟨Zmy,Zmz,Zg1⟩:=Zcs;have Zg2:=Zg1.fn;obtain⟨Zm0,Zm1,Zg3⟩:=Zct;have Zg4:=Zg3.fn;obtain⟨Zm2,Zm3,Zg5⟩:=Zcu;have Zg6:=Zg5.fn;obtain⟨Zm4,Zm5,Zg7⟩:=Zcv;have Zg8:=Zg7.fn;obtain⟨u_FIGURES,g_FIGURES,r_FIGURES⟩:=g_FIGURES;obtain⟨u_MOST_FIGURES,g_MOST_FIGURES,r_MOST_FIGURES⟩:=g_MOST_FIGURES;obtain⟨u_MOST_VOICES,g_MOST_VOICES,r_MOST_VOICES⟩:=g_MOST_VOICES;obtain⟨u_MOST_RULES,g_MOST_RULES,r_MOST_RULES⟩:=g_MOST_RULES;obtain⟨u_MOST_WEIGHT,g_MOST_WEIGHT,r_MOST_WEIGHT⟩:=g_MOST_WEIGHT;obtain⟨u_MOST_NUMBERS,g_MOST_NUMBERS,r_MOST_NUMBERS⟩:=g_MOST_NUMBERS;obtain⟨u_START,g_START,r_START⟩:=g_START;have e:=hfa.symm.trans (mg_of X G Zcx.ns);cases e;have T:Txt mg a_MAKERS:={ n_len:=mg_none_of X G z_len,n_range:=mg_none_of X G z_range,n_all:=mg_none_of X G z_all,n_min:=mg_none_of X G z_min,n_max:=mg_none_of X G z_max,n_abs:=mg_none_of X G z_abs,n_tuple:=mg_none_of X G z_tuple,n_list:=mg_none_of X G z_list,n_isinstance:=mg_none_of X G z_isinstance,n_bool:=mg_none_of X G z_bool,n_int:=mg_none_of X G z_int,n_str:=mg_none_of X G z_str,n_enumerate:=mg_none_of X G z_enumerate,n_zip:=mg_none_of X G z_zip,g_FIGURES:=⟨_,mg_of X G g_FIGURES,r_FIGURES⟩,g_MOST_FIGURES:=⟨_,mg_of X G g_MOST_FIGURES,r_MOST_FIGURES⟩,g_MOST_VOICES:=⟨_,mg_of X G g_MOST_VOICES,r_MOST_VOICES⟩,g_MOST_RULES:=⟨_,mg_of X G g_MOST_RULES,r_MOST_RULES⟩,g_MOST_WEIGHT:=⟨_,mg_of X G g_MOST_WEIGHT,r_MOST_WEIGHT⟩,g_MOST_NUMBERS:=⟨_,mg_of X G g_MOST_NUMBERS,r_MOST_NUMBERS⟩,g_START:=⟨_,mg_of X G g_START,r_START⟩,g_MAKERS:=⟨_,mg_of X G n_MAKERS,rfl⟩ };have TE_INNER_KINDS:El mg a_MAKERS a_INNER_KINDS:={ T with g_INNER_KINDS:=⟨_,mg_of X G n_INNER_KINDS,rfl⟩ };obtain⟨oc,od,kV,doc,pm,an,cdv,ct,osl,rfl,lk,hcd⟩:=Zcx.fn.ex;refine⟨fnOf "law" "law" (cZ p4) (cH p4) (ao p4) .none kV doc pm an cdv ct,fun s v=>.of_eq rfl,fun base _ _=>?_⟩;have Zc4:bR l.prog w K mg base "note_in" 1 ["column","voice"] (iN K):=Zdh.df X G (uA Zdi) (Zdi.binds (by walk_at "b2"));have Zhf:bR l.prog w K mg base "span" 2 ["column","first","second"] (u7 K):=Zdj.df X G (Bn Zdk Zc4) (Zdk.binds (by walk_at "b3"));have Zas:lZ l.prog w K mg base "Rule" "__init__" 1 ["self","row"] (eK K):=Zdl.df X G (qP Zdm) (Zdm.binds (by walk_at "b2"));have Zhg:aK l.prog w K mg base Zad "size" 1 ["self"] (dZ 1 fun _=>.int 1):=Zdn.ok Zak.cl (qQ Zdo) (Zdo.binds (by walk_at "b1"));have Zhh:aK l.prog w K mg base Zad "start" 1 ["self"] (dZ 1 fun _=>.int 0):=Zdp.ok Zak.cl (eN Zdq) (Zdq.binds (by walk_at "b1"));have Zhi:aK l.prog w K mg base Zad "closes" 1 ["self","memory","last"] (dZ 3 fun _=>.bl true):=Zdr.ok Zak.cl (fK Zds) (Zds.binds (by walk_at "b3"));have Zhj:aK l.prog w K mg base Zac "start" 1 ["self"] (dZ 1 fun _=>.int 0):=Zdt.ok Zai.cl (eN Zdu) (Zdu.binds (by walk_at "b1"));have Zhk:aK l.prog w K mg base Zac "closes" 1 ["self","memory","last"] (dZ 3 fun _=>.bl true):=Zdv.ok Zai.cl (fK Zdw) (Zdw.binds (by walk_at "b3"));have Zhl:aK l.prog w K mg base Zab "start" 1 ["self"] (dZ 1 fun _=>.int 0):=Zdx.ok Zah.cl (eN Zdy) (Zdy.binds (by walk_at "b1"));have Zhm:aK l.prog w K mg base Zae "start" 1 ["self"] (dZ 1 fun _=>.int 0):=Zdz.ok Zaj.cl (eN Zd0) (Zd0.binds (by walk_at "b1"));have Zhn:aK l.prog w K mg base Zae "closes" 1 ["self","memory","last"] (dZ 3 fun _=>.bl true):=Zd1.ok Zaj.cl (fK Zd2) (Zd2.binds (by walk_at "b3"));have Zho:∀(row:Str) (a c:Int),aK l.prog w K mg base Zac "size" 1 ["self"] (og (fv Zac row a c) (.int c)):=fun row a c=>Zd3.ok Zai.cl (qM Zd4 Zai) (Zd4.binds (by walk_at "b1"));have Zhp:∀(row:Str) (a c d e:Int),aK l.prog w K mg base Zab "size" 1 ["self"] (og (cP Zab row a c d e) (.int (e+1))):=fun row a c d e=>Zd5.ok Zah.cl (oV Zd6 Zah) (Zd6.binds (by walk_at "b1"));have Zhq:∀(row:Str) (t u:Int) (RIn:pE),aK l.prog w K mg base Zae "size" 1 ["self"] (og (eL Zae row t u RIn) (.int t)):=fun row t u RIn=>Zd7.ok Zaj.cl (oQ Zd8 Zaj) (Zd8.binds (by walk_at "b1"));have Zhr:∀(row:Str) (a b:Int) (D:List Int) (nv:Nat) (_:1<=a/\a<=nv) (_:1<=b/\b<=nv),aK l.prog w K mg base Zad "after" 3 ["self","memory","before","column"] (dc K nv (ia Zad row a b D) (eQ a b D) fun _=>True):=fun row a b D nv ha hb=>Zd9.ok Zak.cl (oT Zea T Zak ha hb Zhf) (Zea.binds (by walk_at "b4"));have Zhs:∀(row:Str) (a c:Int) (nv:Nat) (_:1<=a/\a<=nv),aK l.prog w K mg base Zac "after" 3 ["self","memory","before","column"] (dc K nv (fv Zac row a c) (dY a c) (pT c)):=fun row a c nv ha=>Zeb.ok Zai.cl (oR Zec T Zai ha (Zc4.up (by decide))) (Zec.binds (by walk_at "b4"));have Zht:∀(row:Str) (a c d e:Int) (nv:Nat),aK l.prog w K mg base Zab "closes" 1 ["self","memory","last"] (kr K nv (cP Zab row a c d e) (cE a c d e) (jZ e)):=fun row a c d e nv=>Zed.ok Zah.cl (l9 Zee Zah) (Zee.binds (by walk_at "b3"));have Zhu:∀(row:Str) (a c d e:Int) (nv:Nat) (_:1<=a/\a<=nv),aK l.prog w K mg base Zab "after" 3 ["self","memory","before","column"] (dc K nv (cP Zab row a c d e) (cE a c d e) (jZ e)):=fun row a c d e nv ha=>Zef.ok Zah.cl (nH Zeg T Zah ha (Zc4.up (by decide))) (Zeg.binds (by walk_at "b4"));have Zhv:∀(row:Str) (t u:Int) (nv:Nat) (Cn:Addr) (S:bO) (RIn:pE) (G:Int->Prop) (_:0 < t) (_:bS l.prog w K mg base 4 nv Cn S RIn G),aK l.prog w K mg base Zae "after" 5 ["self","memory","before","column"] (dc K nv (eL Zae row t u RIn) (dX t u S) (nq t)):=fun row t u nv Cn S RIn G ht R=>Zeh.ok Zaj.cl (nF Zei T Zaj ht R) (Zei.binds (by walk_at "b4"));have Zhw:h8 l.prog w K mg base "Span" Zad 2 ["self","row","first","second","numbers"] (jA K Zad):=Zej.df X G (qR Zek T Zak Zas) (Zek.binds (by walk_at "b5"));have Zhx:h8 l.prog w K mg base "Held" Zac 2 ["self","row","voice","most"] (jw K Zac):=Zel.df X G (qL Zem T Zai Zas) (Zem.binds (by walk_at "b4"));have Zhy:h8 l.prog w K mg base "Times" Zab 2 ["self","row","voice","note","fewest","most"] (iQ K Zab):=Zen.df X G (oU Zeo T Zah Zas) (Zeo.binds (by walk_at "b6"));have Zhz:h8 l.prog w K mg base "Every" Zae 2 ["self","row","turns","turn","inner"] (iM K Zae):=Zep.df X G (oP Zeq T Zaj Zas) (Zeq.binds (by walk_at "b5"));have Zc5:bR l.prog w K mg base "is_number" 1 ["word"] p6:=Zer.df X G (xj Zes T) (Zes.binds (by walk_at "b1"));have Zh0:bR l.prog w K mg base "has_list" 1 ["numbers","ahead"] (lK K):=Zet.df X G (sO Zeu T) (Zeu.binds (by walk_at "b2"));have Zc6:bR l.prog w K mg base "are_voices" 1 ["numbers","voices"] (eU K):=Zev.df X G (oW Zew T) (Zew.binds (by walk_at "b2"));have Zh1:aN l.prog w K mg base cc 4 Zao Zat ["row","numbers","voices"] (ky K Zad):=uC Zcy T (Zh0.up (by decide)) (Zc6.up (by decide)) Zhw;have Zh2:jG l.prog w K mg base 4 Zao ["row","numbers","voices"] (ky K Zad):=⟨Zat,Zh1,Zcy.kp,Zcy.binds (by walk_at "b3")⟩;have Zh3:aN l.prog w K mg base cc 4 Zap Zau ["row","numbers","voices"] (kv K Zac):=uz Zcz T (Zc6.up (by decide)) Zhx;have Zh4:jG l.prog w K mg base 4 Zap ["row","numbers","voices"] (kv K Zac):=⟨Zau,Zh3,Zcz.kp,Zcz.binds (by walk_at "b3")⟩;have Zh5:aN l.prog w K mg base cc 4 Zaq Zav ["row","numbers","voices"] (i7 K Zab):=sR Zc0 T (Zc6.up (by decide)) Zhy;have Zh6:jG l.prog w K mg base 4 Zaq ["row","numbers","voices"] (i7 K Zab):=⟨Zav,Zh5,Zc0.kp,Zc0.binds (by walk_at "b3")⟩;have Zc7:bR l.prog w K mg base "plain_rule" 8 ["row","voices"] (kx l.prog w K mg base a_MAKERS 7):=Zex.df X G (oZ Zey T (Zc5.up (by decide))) (Zey.binds (by walk_at "b2"));have Zh7:bR l.prog w K mg base "every_rule" 9 ["row","voices"] (mJ l.prog w K mg base a_MAKERS Zae 7):=Zez.df X G (oX Ze0 TE_INNER_KINDS q_INNER_KINDS (Zc5.up (by decide)) Zc7 (Zhz.up (by decide))) (Ze0.binds (by walk_at "b2"));have Zg9:aN l.prog w K mg base cc 10 Zc1 Zc2 ["text","voices","row"] (iO l.prog w K mg base):=xn (pd Zam T (Zc7.up (by decide))) (pb Zam T (Zc7.up (by decide)) Zh7) t_MAKERS (EH d_MAKERS_span (Zh2.up (by decide)) (fun row a b D nv ha hb=>zV Zak (Zhg.up (by decide)) (Zhh.up (by decide)) (Zhi.up (by decide)) ((Zhr row a b D nv ha hb).up (by decide))) d_MAKERS_held (Zh4.up (by decide)) (fun row a c nv ha c1=>yz c1 Zai ((Zho row a c).up (by decide)) (Zhj.up (by decide)) (Zhk.up (by decide)) ((Zhs row a c nv ha).up (by decide))) d_MAKERS_times (Zh6.up (by decide)) (fun row a c d e nv ha e1=>xJ e1 Zah ((Zhp row a c d e).up (by decide)) (Zhl.up (by decide)) ((Zht row a c d e nv).up (by decide)) ((Zhu row a c d e nv ha).up (by decide)))) (fun row t u nv Cn S RIn G ht R=>wQ ht Zaj R ((Zhq row t u RIn).up (by decide)) (Zhm.up (by decide)) (Zhn.up (by decide)) ((Zhv row t u nv Cn S RIn G ht R).up (by decide)));have Zh8:bR l.prog w K mg base "read_rule" 10 ["text","voices","row"] (iO l.prog w K mg base):=⟨Zc1,Zc2,Zg9,mg_of X G Zc3.ns,Zam.kp,Zam.binds Ze1 Ze2 fun _ _ _ _ _ _ us hl=>match us,hl with | [_,_,_],_=>⟨_,rfl,rfl⟩⟩;have Zm6:FH l.prog w K mg base "read_rule" 10 ["text","voices","row"] (iO l.prog w K mg base) [(.int 0)]:=⟨Zc1,Zc2,[Zhd],Zg9,mg_of X G Zc3.ns,Zam.kp,Zam.bindsD Ze1 Ze2 fun _ _ _ _ _ _ us hl=>match us,hl with | [_,_],_=>⟨_,rfl,rfl⟩,.cons Zhe .nil⟩;have Zh9:bR l.prog w K mg base "broken_at" 8 ["rule","line"] (n9 l.prog w K mg base 7):=Ze3.df X G (qT Ze4 T) (Ze4.binds (by walk_at "b2"));have Zia:h8 l.prog w K mg base "Score" Zag 1 ["self","ranges","rules"] (iP K Zag):=Ze5.df X G (oS Ze6 T Zal) (Ze6.binds (by walk_at "b3"));have Zib:bR l.prog w K mg base "weight" 8 ["score"] (oo l.prog w K mg base Zag):=Ze7.df X G (xr Ze8 T Zal) (Ze8.binds (by walk_at "b1"));have Zic:bR l.prog w K mg base "not_too_wide" 9 ["score"] (jz l.prog w K mg base Zag):=Ze9.df X G ((md Zfa T Zib).imp xf) (Zfa.binds (by walk_at "b1"));have Zid:bR l.prog w K mg base "first_outside" 1 ["low","high","voice","line"] (lL K):=Zfb.df X G (kY Zfc T) (Zfc.binds (by walk_at "b4"));have Zie:bR l.prog w K mg base "fault" 9 ["score","line"] (mK l.prog w K mg base):=Zfd.df X G (zb Zfe T (Zid.up (by decide)) Zh9) (Zfe.binds (by walk_at "b2"));have Zif:bR l.prog w K mg base "voice_range" 2 ["row"] (rG K):=Zff.df X G (nI Zfg T Zc5) (Zfg.binds (by walk_at "b1"));have Zig:bR l.prog w K mg base "read" 11 ["text"] (mM l.prog w K mg base Zag):=Zfh.df X G (Bl Zfi T Zal (Zif.up (by decide)) Zh8 (Zia.up (by decide)) (Zic.up (by decide))) (Zfi.binds (by walk_at "b1"));have Zih:bR l.prog w K mg base "lengthened" 1 ["column","low","high"] (zS K):=Zfj.df X G (oY Zfk T) (Zfk.binds (by walk_at "b3"));have Zii:bR l.prog w K mg base "columns" 2 ["score"] (i6 K Zag):=Zfl.df X G (ux Zfm T Zal Zih) (Zfm.binds (by walk_at "b1"));have Zij:bR l.prog w K mg base "memories_after" 8 ["rules","memories","before","column"] (jy l.prog w K mg base):=Zfn.df X G (qU Zfo T) (Zfo.binds (by walk_at "b4"));have Zik:bR l.prog w K mg base "all_close" 8 ["rules","memories","last"] (jv l.prog w K mg base):=Zfp.df X G (qS Zfq T) (Zfq.binds (by walk_at "b3"));have Zil:lZ l.prog w K mg base "States" "__init__" 1 ["self"] (gZ K Zaa):=Zfr.df X G (nG Zfs T Zaf) (Zfs.binds (by walk_at "b1"));have Zha:aK l.prog w K mg base Zaa "size" 1 ["self"] (mL l.prog w Zaa):=Zft.ok Zaf.cl (zc Zfu T Zaf) (Zfu.binds (by walk_at "b1"));have Zim:aK l.prog w K mg base Zaa "to" 1 ["self","state","column"] (DM l.prog w Zaa):=Zfv.ok Zaf.cl (EO Zfw T Zaf) (Zfw.binds (by walk_at "b3"));have Zin:aK l.prog w K mg base Zaa "ends" 1 ["self","state"] (uZ l.prog w Zaa):=Zfx.ok Zaf.cl (Bi Zfy T Zaf) (Zfy.binds (by walk_at "b2"));have Zio:aK l.prog w K mg base Zaa "walk" 2 ["self","line"] (va l.prog w K Zaa):=Zfz.ok Zaf.cl (Bp Zf0 T Zim) (Zf0.binds (by walk_at "b2"));have Zip:aK l.prog w K mg base Zaa "build" 10 ["self","met","numbers","steps"] (rD l.prog w K mg base Zaa Zag):=Zf1.ok Zaf.cl (y9 Zf2 T Zaf Zal (Zij.up (by decide)) (Zik.up (by decide))) (Zf2.binds (by walk_at "b4"));have Ziq:h8 l.prog w K mg base "Machine" Zaa 11 ["self","score"] (jx l.prog w K mg base Zaa Zag):=Zf3.df X G (qN Zf4 T Zaf Zal (Zil.up (by decide)) (Zii.up (by decide)) Zip) (Zf4.binds (by walk_at "b2"));have Zc8:bR l.prog w K mg base "_law_at" 1 ["_law_script","_law_k"] (zP K):=Zf5.df X G (EL Zf6 T) (Zf6.binds (by walk_at "b2"));have Zc9:bR l.prog w K mg base "_law_draws" 1 ["_law_cell","_law_many"] ku:=Zf7.df X G (za Zf8 T) (Zf8.binds (by walk_at "b2"));have Zir:bR l.prog w K mg base "_law_ranges" 2 ["_law_script","_law_most"] (oh K):=Zf9.df X G (xk Zga T Zc8 Zc9) (Zga.binds (by walk_at "b2"));have Zhb:bR l.prog w K mg base "_law_columns" 1 ["_law_ranges_here"] (rE K):=Zgb.df X G (Bk Zgc T) (Zgc.binds (by walk_at "b1"));have Zda:bR l.prog w K mg base "_law_whole" 1 ["_law_found"] kz:=Zgd.df X G (zf Zge T) (Zge.binds (by walk_at "b1"));have Zis:bR l.prog w K mg base "_law_great_rule" 2 ["_law_cell","_law_ranges_here","_law_room"] (DL K):=Zgf.df X G (EN Zgg T Zc9) (Zgg.binds (by walk_at "b3"));have Zit:bR l.prog w K mg base "_law_great_rules" 3 ["_law_script","_law_ranges_here","_law_cap"] (zR K):=Zgh.df X G (Di Zgi T (Zhb.up (by decide)) (Zc8.up (by decide)) Zis) (Zgi.binds (by walk_at "b3"));have Ziu:bR l.prog w K mg base "_law_weight" 2 ["_law_ranges_here","_law_rules"] (zU K):=Zgj.df X G (Dk Zgk T Zhb) (Zgk.binds (by walk_at "b2"));have Ziv:bR l.prog w K mg base "_law_range_at" 1 ["_law_pair","_law_voice","_law_line"] (lM K):=Zgl.df X G (sP Zgm T) (Zgm.binds (by walk_at "b3"));have Ziw:bR l.prog w K mg base "_law_held_at" 1 ["_law_rule","_law_line"] (cL K fun R=>∃o m,R=.plain (.held o m)):=Zgn.df X G (uy Zgo T) (Zgo.binds (by walk_at "b2"));have Zix:bR l.prog w K mg base "_law_times_at" 1 ["_law_rule","_law_line"] (cL K fun R=>∃o nt lw hg,R=.plain (.times o nt lw hg)):=Zgp.df X G (sQ Zgq T) (Zgq.binds (by walk_at "b2"));have Ziy:bR l.prog w K mg base "_law_every_at" 1 ["_law_rule","_law_line"] (cL K fun R=>bV R < 1000/\∃m a o u D,R=.every m a (.span o u D)):=Zgr.df X G (sN Zgs T) (Zgs.binds (by walk_at "b2"));have Ziz:bR l.prog w K mg base "_law_rule_at" 2 ["_law_rule","_law_line"] (cL K fun R=>bV R < 1000):=Zgt.df X G (uB Zgu T Ziw Zix Ziy) (Zgu.binds (by walk_at "b2"));have Zhc:bR l.prog w K mg base "_law_first_fault" 3 ["_law_ranges_here","_law_rules","_law_line"] (B6 K):=Zgv.df X G (EM Zgw T (Ziv.up (by decide)) Ziz) (Zgw.binds (by walk_at "b3"));have Zi0:bR l.prog w K mg base "_law_told" 7 ["_law_found","_law_due"] (u9 K):=Zgx.df X G (Bo Zgy T (Zda.up (by decide))) (Zgy.binds (by walk_at "b2"));have Zi1:bR l.prog w K mg base "_law_spoilt" 1 ["_law_line","_law_cell"] (oj K):=Zgz.df X G (xp Zg0 T) (Zg0.binds (by walk_at "b2"));have R0:bR l.prog w K mg base "_law_row" 2 ["_law_rule"] (u4 Cd):=Zar.df X G Dg (Zan.binds (by walk_at "b1"));have R1:bR l.prog w K mg base "_law_row" 3 ["_law_rule"] (u4 (jg Cd)):=Zar.df X G (zd (fun _ _ _ _ _ h=>h) Zan T R0) (Zan.binds (by walk_at "b1"));have Zi2:bR l.prog w K mg base "_law_row" 4 ["_law_rule"] (u4 (jg (jg Cd))):=Zar.df X G (zd (jg.same fun _ _ _ _ _ h=>h) Zan T R1) (Zan.binds (by walk_at "b1"));have Zi3:bR l.prog w K mg base "_law_text" 5 ["_law_ranges_here","_law_rules"] (rF K):=Zg1.df X G (ze Zg2 T Zi2) (Zg2.binds (by walk_at "b2"));have Zi4:bR l.prog w K mg base "_law_runs" 2 ["_law_cell","_law_pair","_law_many","_law_held","_law_often"] (u6 K):=Zg3.df X G (Bm Zg4 T Zc9) (Zg4.binds (by walk_at "b5"));have Zi5:bR l.prog w K mg base "_law_long_line" 3 ["_law_cell","_law_ranges_here","_law_rules","_law_many"] (u5 K):=Zg5.df X G (Bj Zg6 T Zi4) (Zg6.binds (by walk_at "b4"));have Zi6:bR l.prog w K mg base "_law_walked" 4 ["_law_machine","_law_ranges_here","_law_rules","_law_part","_law_lost"] (om l.prog w K Zaa):=Zg7.df X G (xq Zg8 T (Zio.up (by decide)) (Zha.up (by decide)) (Zin.up (by decide)) (Zda.up (by decide)) Zhc) (Zg8.binds (by walk_at "b5"));exact Dj Zcx.fn T Zal (Zc8.up (by decide)) (Zir.up (by decide)) (Zit.up (by decide)) (Zi5.up (by decide)) (Zi1.up (by decide)) (Zig.up (by decide)) (Zi3.up (by decide)) (Zhc.up (by decide)) (Zi0.up (by decide)) (Zie.up (by decide)) Ziq (Zda.up (by decide)) (Zha.up (by decide)) (Ziu.up (by decide)) (Zi6.up (by decide))
theorem walk{l:PySem.W.OpenLaw}{q:Program}{loose:List Str}{XP:(Str->Option Value)->Heap->Prop}{YP:World->Heap->Prop}{d:DefRec}{K:Params->Frag}(hn:l.most=some 63)(hdf:d.params.defaults=[])
  (hY:∀(w:World) (h:Heap),YP w h->(K w.params).In h)
  (F:∀(w:World) (mg:Str->Option Value) (fa:Addr) (h:Heap),(K w.params).In h->h.Ns mainGlobals mg->mg d.name=some (.ref fa)->
   ∃fd:FuncData,(∀(s:Shared) (u:Value),BindsTo s fd ⟨[u],[]⟩ [("_law_script",u)])/\∀base:Heap,(K w.params).In base->base.Ns mainGlobals mg->aN l.prog w (K w.params) mg base cc 13 fa fd ["_law_script"] (vY (K w.params))) :
  PySem.W.WalkO q loose XP YP l.row.toRowW d [] (fun f vs=>PySem.call f vs):=
 L2.walk_ofB (n:=63) (k:=13) (x:="_law_script") (CX:=fun _=>cc) (sp:=fun w=>vY (K w.params)) hn (by decide) hdf ⟨rfl,by decide,by decide⟩ hY F (fun _ _ a ns hl hb _ hS=>⟨a,ns,rfl,hS,hb,hl,fun _=>rfl⟩) fun _ _ _ _ _ z=>z
end K94
namespace PySem.W.Fast
abbrev N:=Nat
def tw18331923753905860608:=N
def tw4015675525873778127:=N
def tw3290210846058877984:=N
def tw6362481846686156429:=N
def tw690684375944492354:=N
def tw11583950959464571968:=N
def tw15759123035736625216:=N
def tw13296010934653648953:=N
def tw12241015191217461376:=N
def tw8808581985765511328:=N
def tw9200008851400362144:=N
def tw521390175853065408:=N
def tw5566701486981955776:=N
def tw13029043286851586272:=N
def tw5877776562953166048:=N
def tw4550569809874760137:=N
def tw3344150451528509728:=N
def tw4007827917800974624:=N
def tw12509761425430265120:=N
def tw1813312185850056992:=N
def tw324051006402688320:=N
def tw14071166455813438816:=N
def tw13488676931210447524:=N
def tw4033010731389775687:=N
def tw16776793210265659636:=N
def tw16282701845309957835:=N
def tw3520423041622047942:=N
def tw1727841815895407040:=N
def tw2781284268228895200:=N
def tw2469902707847952449:=N
def tw16976036383244154368:=N
def tw938270930642736956:=N
def tw4109982030943296032:=N
def tw5115856332956803616:=N
def tw14936645173419635597:=N
def tw3594764898847687326:=N
def tw1684850176587216404:=N
def tw17093725047295364578:=N
def tw11217428010699807296:=N
def tw17310705568089383842:=N
def tw14503686176700631648:=N
def tw144557549920938592:=N
def tw11943613500096466493:=N
def tw10172429567397343872:=N
def tw18101035598110474880:=N
def tw16443953952775499713:=N
def tw17400159791061545994:=N
def tw4199059750918516570:=N
def tw11270434129769360064:=N
def tw1411753808139580096:=N
def tw11887794655464650432:=N
def tw11581531568866118251:=N
def tw10362562250318325442:=N
def tw9577245222140168456:=N
def tw16501348722362488576:=N
def tw8239364485173291776:=N
def tw15326559089166635776:=N
def tw8292618520918554368:=N
def tw5348974915881506592:=N
def tw11157190201105670944:=N
def tw8818873257868432192:=N
def tw11062474710967857984:=N
def tw10999475657147547456:=N
def tw15962263988645560128:=N
def tw13848744649352908640:=N
def tw9735655635484404241:=N
def tw14034713686530078560:=N
def tw14075121125457205649:=N
def tw10301587109523019648:=N
def tw10405195317241826208:=N
def tw16340292289235663776:=N
def tw5386314152171569957:=N
def tw8745054380238184384:=N
def tw18161015838773685184:=N
def tw3300249402161442752:=N
def tw6678870655348106176:=N
def tw15966778046046995209:=N
def tw8646206756110458848:=N
def tw10644214042176104339:=N
def tw11647227488868563936:=N
def tw5749878261602275329:=N
def tw11945923004028438561:=N
def tw9657612756656594145:=N
def tw10957198743310006587:=N
def tw3993975684507607361:=N
def tw4477357591546147137:=N
def tw16925285166608127064:=N
def tw15685265309491849537:=N
def tw6006459805345621345:=N
def tw9328563057284790625:=N
def tw3549149032167653729:=N
def tw9839352518634614145:=N
def tw15871888061942072179:=N
def tw6669240868333893756:=N
def tw14976191324246101545:=N
def tw17383551731303050657:=N
def tw9150288263938246081:=N
def tw9581013981577592257:=N
def tw4933033645456403445:=N
def tw12746253323436622901:=N
def tw5216654397210046945:=N
def tw3096819085214987718:=N
def tw15171255582337025657:=N
def tw15690360973581287969:=N
def tw2973500136571720225:=N
def tw8228849436578439713:=N
def tw2852130264934835064:=N
def tw15888214969892533303:=N
def tw14561574638357156580:=N
def tw2625514789147592385:=N
def tw12473977440052662654:=N
def tw14435762160444687938:=N
def tw8410040944388549377:=N
def tw13095217251001718561:=N
def tw284668845955813176:=N
def tw242416454841484065:=N
def tw7783547792407345985:=N
def tw7085026577652275186:=N
def tw14581188129356247987:=N
def tw13253136070650521473:=N
def tw1091761559775120696:=N
def tw11534791314020898753:=N
def tw12853171549452573633:=N
def tw13386070495499506200:=N
def tw18097173478541862978:=N
def tw15643702794948762690:=N
def tw15684685718508046434:=N
def tw9654959250825493116:=N
def tw2215436704682265730:=N
def tw2955202289372337469:=N
def tw13500005410155246786:=N
def tw9355929821930077378:=N
def tw10906376636570931858:=N
def tw4069680013414444322:=N
def tw12060865563487050050:=N
def tw12192954835391868258:=N
def tw13805838111470384822:=N
def tw12059214953238874498:=N
def tw3539495734690303426:=N
def tw17123376110233262562:=N
def tw3250108699204779610:=N
def tw12304397476182343170:=N
def tw4696500758509523490:=N
def tw11823185511946287455:=N
def tw15269713701537928515:=N
def tw4080433399719246434:=N
def tw581521362960440510:=N
def tw15369630647568065763:=N
def tw14930298667931565730:=N
def tw7201543819167002274:=N
def tw5427909437592835778:=N
def tw11137046599723586257:=N
def tw14997835453464722114:=N
def tw9106622553511512802:=N
def tw17051182754338939650:=N
def tw665254262102871810:=N
def tw6462067595729803657:=N
def tw3260863178799256354:=N
def tw12408540067824687107:=N
def tw15287543799847218978:=N
def tw11600968858139784589:=N
def tw14670739389755966274:=N
def tw8687244422963334999:=N
def tw18335714264228495170:=N
def tw15819377966738761475:=N
def tw18346561005190890370:=N
def tw5896062649597608950:=N
def tw8184241043189440973:=N
def tw14704225164808659874:=N
def tw2959937083315573790:=N
def tw6876852391472806882:=N
def tw9410912973489317515:=N
def tw8749680498197433166:=N
def tw7487663493031627779:=N
def tw616124917206858755:=N
def tw5282876421942653671:=N
def tw17889149053818375054:=N
def tw14281014910373376067:=N
def tw8118175065143935075:=N
def tw13351198126610411291:=N
def tw2898654845800930403:=N
def tw6785064418062672635:=N
def tw15039173478830959813:=N
def tw10801247968066133155:=N
def tw3456076005066304675:=N
def tw16056466857548869859:=N
def tw5139096562712325379:=N
def tw4708776508782452035:=N
def tw7526515928815639875:=N
def tw2466180843343085195:=N
def tw6629347425128993123:=N
def tw7250379609855263346:=N
def tw8550336759022710126:=N
def tw11841191371825215860:=N
def tw4149828318550630819:=N
def tw4295660778045461180:=N
def tw6395660594676015243:=N
def tw17724076141308608963:=N
def tw1436503763928685027:=N
def tw4825473801698952675:=N
def tw17469006119860603395:=N
def tw8249283449786322327:=N
def tw8459441858819008003:=N
def tw10154668054605851139:=N
def tw15345057966384782180:=N
def tw5141960413323261645:=N
def tw10381063423200114950:=N
def tw10414284357381835862:=N
def tw2843072822662536005:=N
def tw4174179680928145059:=N
def tw6665322678541567647:=N
def tw17373438906679055043:=N
def tw8280893989400554211:=N
def tw12085386304946028252:=N
def tw5183082585303906019:=N
def tw15500337381428724483:=N
def tw17467725133138399867:=N
def tw8066509075379894111:=N
def tw1302455952862246691:=N
def tw9133686290288688963:=N
def tw14784580446939364195:=N
def tw786492843865271139:=N
def tw15499256044378073987:=N
def tw16116088705223202755:=N
def tw15963128403541138403:=N
def tw8576797208938064867:=N
def tw4907420322526821913:=N
def tw10066831174114914574:=N
def tw378090279455834000:=N
def tw11359116477832489028:=N
def tw7258499988460875876:=N
def tw9291330449628491908:=N
def tw11700336117811093966:=N
def tw5826850537642796831:=N
def tw597933250835314884:=N
def tw14456198709692779748:=N
def tw1528019408156908804:=N
def tw992413337337633145:=N
def tw17246134715838779748:=N
def tw15948029202842758500:=N
def tw5956728242909883055:=N
def tw17349018246163388089:=N
def tw15166214096667503012:=N
def tw13594378912830317518:=N
def tw3872630991463021988:=N
def tw12898122237841265547:=N
def tw18350758392020932100:=N
def tw8381772430884913320:=N
def tw16198222376528323255:=N
def tw16459483673111316468:=N
def tw16913488112221878615:=N
def tw17095499021332060891:=N
def tw11477328649739160405:=N
def tw9199054268683839140:=N
def tw17933739587916722623:=N
def tw6332946991177150180:=N
def tw6555651115663472089:=N
def tw15766284839432808661:=N
def tw2626997619636977444:=N
def tw18309500174052593388:=N
def tw3744906443079854418:=N
def tw17996758763437030293:=N
def tw15199816183797613412:=N
def tw7452319827876255993:=N
def tw15596101589454489881:=N
def tw16648347305626434629:=N
def tw15770715899140416581:=N
def tw11032453263067534437:=N
def tw18372555414161992487:=N
def tw6788961101096672437:=N
def tw2712342109297459333:=N
def tw10820569707870523623:=N
def tw17322731386232844485:=N
def tw11912541351521465541:=N
def tw18387184619456094405:=N
def tw3829008235252705477:=N
def tw11868200751363785559:=N
def tw1890553210683044133:=N
def tw4826565872114201925:=N
def tw10672990573853426021:=N
def tw18428663331832896869:=N
def tw13696314299031070085:=N
def tw15153968768393411147:=N
def tw10289687787929832869:=N
def tw5873256754277689095:=N
def tw3618281503982663109:=N
def tw8260956298738153925:=N
def tw10748795597436831173:=N
def tw10311697690179077523:=N
def tw11300464550157194725:=N
def tw11964373050601622278:=N
def tw58681762434685477:=N
def tw5849948380672224805:=N
def tw11126202722359770255:=N
def tw2255859195723605669:=N
def tw6498607647900473293:=N
def tw4120640380568230597:=N
def tw12417675470990490406:=N
def tw4362439487683644701:=N
def tw2215507364306293130:=N
def tw18427298191452154629:=N
def tw5750852048898940677:=N
def tw4943732474942283525:=N
def tw7027105342114080549:=N
def tw9081492358853645093:=N
def tw1214191201269866277:=N
def tw6752577282427981134:=N
def tw7325693683496081317:=N
def tw557333433853597368:=N
def tw10255249192157620197:=N
def tw18363848220564899474:=N
def tw16713642074898631718:=N
def tw585243331225231480:=N
def tw5843619573634947238:=N
def tw17957199634514734246:=N
def tw4891123580194906253:=N
def tw11307425044598192294:=N
def tw7604482107867825350:=N
def tw4320418721300658374:=N
def tw6288303924355887302:=N
def tw954056078212314482:=N
def tw475581186794321158:=N
def tw12485981814073527654:=N
def tw11115375057445372334:=N
def tw9894131948222401958:=N
def tw18143899994116534702:=N
def tw15012887004226201062:=N
def tw12202730705733820763:=N
def tw11433730147591706086:=N
def tw4567175102488968710:=N
def tw12093535441700064774:=N
def tw7657471514569925609:=N
def tw14564792823378216404:=N
def tw14072849755535324742:=N
def tw8454895469283824663:=N
def tw1956484145178743945:=N
def tw12208859868927410764:=N
def tw12679209555400195231:=N
def tw5604848579917106217:=N
def tw6632466378130666150:=N
def tw8414746975007118022:=N
def tw17277200074431047560:=N
def tw675070924577273586:=N
def tw9928309811379073767:=N
def tw1420302756123277094:=N
def tw1027585263590581426:=N
def tw15394023129596136294:=N
def tw18045636544461621094:=N
def tw11034004598872130827:=N
def tw3062837360640315155:=N
def tw2491748697406783462:=N
def tw8535598406557820902:=N
def tw716630485441275878:=N
def tw6970790956356257799:=N
def tw8001848922919854737:=N
def tw8145594155607976329:=N
def tw1432977175332790205:=N
def tw16548165268359558247:=N
def tw13866555752397784167:=N
def tw7660569080177840231:=N
def tw7809764668400211079:=N
def tw3104793742219778183:=N
def tw2418676700562526525:=N
def tw8723890633468532871:=N
def tw2537522534822733547:=N
def tw6489492014361124305:=N
def tw3922827487953287367:=N
def tw2420109692965704935:=N
def tw7134183002209976583:=N
def tw6091056831645534523:=N
def tw11063345961536932213:=N
def tw6143412923826268393:=N
def tw12167544118948194567:=N
def tw17450445073375732007:=N
def tw18036230942605659463:=N
def tw12450255038294384304:=N
def tw9904482213841523258:=N
def tw3391943403032236423:=N
def tw3881742914417089927:=N
def tw2690077029576696199:=N
def tw12476203013488464604:=N
def tw14327072840604768086:=N
def tw9642309707143601342:=N
def tw16194861926338385415:=N
def tw11532616011024946695:=N
def tw9642964455106240504:=N
def tw501280949941626903:=N
def tw16696220618540935756:=N
def tw15873079523771101907:=N
def tw15560909913397466695:=N
def tw5475181589437117063:=N
def tw7693294831052818377:=N
def tw3071638744165226215:=N
def tw17125925254864545511:=N
def tw11516369091920397822:=N
def tw11998924789354094311:=N
def tw5536704446764249863:=N
def tw5252674785680743175:=N
def tw6983088891958801191:=N
def tw7025000071336491815:=N
def tw5186348390581611725:=N
def tw10743335107796133832:=N
def tw16977719267638098823:=N
def tw6716185639397900438:=N
def tw11625763579588500455:=N
def tw8557366422673142036:=N
def tw7452474652185140264:=N
def tw16891723368286043003:=N
def tw10588006999832176718:=N
def tw16256932916066427188:=N
def tw11153556554405182536:=N
def tw10072283703449478550:=N
def tw1356422781437287624:=N
def tw4801201409378869448:=N
def tw9803923311435810024:=N
def tw11098568891832297704:=N
def tw7559645440032193800:=N
def tw680768291716292904:=N
def tw2191873979768947498:=N
def tw13973205385916728648:=N
def tw11571960711215742312:=N
def tw1326960124062176648:=N
def tw4045568538533742647:=N
def tw9021396366462916008:=N
def tw353762297637963176:=N
def tw12939735085735542248:=N
def tw844776621920467432:=N
def tw16119500710407905800:=N
def tw9939102395444437544:=N
def tw6739933471156427304:=N
def tw17766090268750761270:=N
def tw3732417476685086280:=N
def tw13640021336037198037:=N
def tw18309392038508603132:=N
def tw4858660453716076823:=N
def tw3067240867624396595:=N
def tw11345112852402870639:=N
def tw7230633297797819048:=N
def tw5596924496289618632:=N
def tw1344271929137839944:=N
def tw2511448505105013608:=N
def tw7160922926704267153:=N
def tw16647524227715041775:=N
def tw15169434865032761256:=N
def tw10553976301650594792:=N
def tw10265803497938350056:=N
def tw10100875235813993423:=N
def tw803932384259600425:=N
def tw8815906274665112617:=N
def tw11706456895147467918:=N
def tw9601094549044335753:=N
def tw11546096438098638985:=N
def tw10182199719192608905:=N
def tw15371318328117802640:=N
def tw1415936370427327625:=N
def tw9373732146584656073:=N
def tw16789030662454849002:=N
def tw14415955449705237769:=N
def tw2811010229411283903:=N
def tw14674325329212012693:=N
def tw15370297185537135945:=N
def tw2592158717410768693:=N
def tw6057313250513557865:=N
def tw16996181652017418840:=N
def tw12987278528228013481:=N
def tw297800662284170250:=N
def tw10809600655668061641:=N
def tw5083360215932625395:=N
def tw3794591749908320745:=N
def tw5788005923387797993:=N
def tw12462103941131234825:=N
def tw15621746960080765817:=N
def tw10019430884103231454:=N
def tw17331495036562936780:=N
def tw8040392498819706441:=N
def tw194091372269234487:=N
def tw9623103304090743340:=N
def tw12679810171354820110:=N
def tw7657183861192299145:=N
def tw10682644954229795465:=N
def tw2717275787181171535:=N
def tw2477954483831147305:=N
def tw16263887141497958185:=N
def tw16877933405981500242:=N
def tw6640404424682387966:=N
def tw10267208144824533135:=N
def tw15920332763528374121:=N
def tw128096334331319177:=N
def tw15894527500825187241:=N
def tw5025035939202387881:=N
def tw10561948460194009362:=N
def tw165505479819914282:=N
def tw15752943114643321674:=N
def tw7455508041605163313:=N
def tw16005131875783991466:=N
def tw4545812695070934456:=N
def tw15237475871313801100:=N
def tw6987801294185389290:=N
def tw10813021184739683733:=N
def tw5253495182578100886:=N
def tw3820324541008992650:=N
def tw7861705179315956956:=N
def tw8846517414900254122:=N
def tw6158181615320126954:=N
def tw237613739821741460:=N
def tw16777981211186500170:=N
def tw3052185726374544628:=N
def tw12236682711906621563:=N
def tw14197183098123685514:=N
def tw17342925261514031754:=N
def tw2935644067664955605:=N
def tw14105917992167477930:=N
def tw5317299350681494218:=N
def tw90745549301756887:=N
def tw14803262396368582346:=N
def tw9146246262569302730:=N
def tw570780811794775959:=N
def tw1881936126025240793:=N
def tw11804092835360785162:=N
def tw10049894499111883530:=N
def tw16969930472030664458:=N
def tw9324964468556601162:=N
def tw4545551617015673674:=N
def tw15506773640590321514:=N
def tw16190395939671642986:=N
def tw1013613247759608714:=N
def tw5543954728373870474:=N
def tw11335838988673613425:=N
def tw17416954761969507242:=N
def tw9439637681285295018:=N
def tw13472171429035445194:=N
def tw10569650209230839499:=N
def tw6948052761027313642:=N
def tw2486292698333026347:=N
def tw15272775334974562108:=N
def tw15656698186533139531:=N
def tw3912606754324376683:=N
def tw16180377828894447787:=N
def tw11918463452947649487:=N
def tw15844799588733177003:=N
def tw17548578624622918970:=N
def tw13901698409811436779:=N
def tw17774250101121915055:=N
def tw1074691298426634064:=N
def tw8891873575261490507:=N
def tw17545773143254522219:=N
def tw4145288804659917074:=N
def tw1855661084758186507:=N
def tw16852052899981519567:=N
def tw13540841935197285228:=N
def tw13248496101900086923:=N
def tw11088440926213213339:=N
def tw12043350276673426123:=N
def tw12620587085503987499:=N
def tw10575749812092927819:=N
def tw15648452280666585687:=N
def tw18084798368094594544:=N
def tw15414214881899565931:=N
def tw8516634226466643819:=N
def tw901275399912815531:=N
def tw636492042821094234:=N
def tw9463279884866792277:=N
def tw17163382405826555851:=N
def tw6526883269641067467:=N
def tw2364407755322986141:=N
def tw13172728189137947627:=N
def tw5837688483543787476:=N
def tw8648445012459520920:=N
def tw15020218202253289612:=N
def tw15426152689311440044:=N
def tw16981587461706837164:=N
def tw2669192451505627323:=N
def tw5674841645180207372:=N
def tw13306542980409174771:=N
def tw8726025977214636332:=N
def tw288254190781590974:=N
def tw17804559662577601844:=N
def tw17221160773350516140:=N
def tw6318393112685866444:=N
def tw18352661820056965682:=N
def tw10120046144652280300:=N
def tw18178591146389930476:=N
def tw4390072649866317324:=N
def tw4129501688634419724:=N
def tw478967218347170316:=N
def tw3254831810762938956:=N
def tw2425237485900875660:=N
def tw4262738712459315820:=N
def tw13399221527628671802:=N
def tw12472705551218582156:=N
def tw5326793513241048695:=N
def tw7338738414516259889:=N
def tw15054665390691015372:=N
def tw5434798012753289932:=N
def tw6355392639799825132:=N
def tw1379446960130473558:=N
def tw7865014528047114577:=N
def tw10570137171082087212:=N
def tw15753425503391409904:=N
def tw4783135589649944461:=N
def tw14390181895323029388:=N
def tw7862603539095287254:=N
def tw6087535019003825036:=N
def tw11253582292706021260:=N
def tw16763968580008425299:=N
def tw3107517418823398641:=N
def tw13809838536630573971:=N
def tw8515088480946272597:=N
def tw5888206913495810321:=N
def tw17079062101838396589:=N
def tw11761481898283720909:=N
def tw16375596999760819437:=N
def tw10202381266598269177:=N
def tw10453865407695276526:=N
def tw16395919799526051157:=N
def tw10257733391804468854:=N
def tw17070289765171187573:=N
def tw7718715864234852062:=N
def tw5587077661223350328:=N
def tw3930885463559603661:=N
def tw11949971319251525438:=N
def tw15045675816006413837:=N
def tw13584545173422434398:=N
def tw9638485096264042093:=N
def tw14250892593826762349:=N
def tw2676825901012938173:=N
def tw2983754735574960405:=N
def tw352321137508842157:=N
def tw7419125320083520373:=N
def tw16789200110587626349:=N
def tw14323740681915367277:=N
def tw8418038947355194253:=N
def tw9743120242007232429:=N
def tw11971467383781084109:=N
def tw11455328775621132302:=N
def tw15027753674562849300:=N
def tw12993008354518303378:=N
def tw7969536297628105117:=N
def tw692501014010087566:=N
def tw8817679987194819758:=N
def tw12991603711487629518:=N
def tw1253794638164703470:=N
def tw8904425119513160208:=N
def tw10088028140537066869:=N
def tw15161855285904989518:=N
def tw2938330734781965584:=N
def tw13106978448629061998:=N
def tw14168451646547493262:=N
def tw13825319873306965390:=N
def tw6030839025881216829:=N
def tw16384353491531832942:=N
def tw1242427620304850864:=N
def tw13715283899885877870:=N
def tw11262894852538145753:=N
def tw17612462481700858138:=N
def tw12910527620303924942:=N
def tw10246154891227774417:=N
def tw4594514370888379214:=N
def tw8759177803401388089:=N
def tw16284243413235429262:=N
def tw10834863292350920622:=N
def tw1034227949827958734:=N
def tw7815054727385251790:=N
def tw14705072725189412846:=N
def tw9455082559861585967:=N
def tw13236146229722951791:=N
def tw12018152290796756079:=N
def tw5266196828439181781:=N
def tw944825400711434415:=N
def tw3784300988324162513:=N
def tw12363113081662771439:=N
def tw9302350888525419791:=N
def tw1930777642165318360:=N
def tw9299802810900335186:=N
def tw16912868705412458067:=N
def tw9129579803938918799:=N
def tw2653121620036230543:=N
def tw7289719828580094351:=N
def tw6698964451541673359:=N
def tw11093302217328262874:=N
def tw13026314197045309903:=N
def tw3957674654142454676:=N
def tw4362001059008986607:=N
def tw2215255167821718031:=N
def tw4764109218804638420:=N
def tw10652351730956848822:=N
def tw17714811780119412303:=N
def tw17802104142174320052:=N
def tw1797114222535658063:=N
def tw3229896760166721501:=N
def tw11900060393037394511:=N
def tw12468571867790060627:=N
def tw11592383259007459983:=N
def tw7495594184317462197:=N
def tw7156569871073116847:=N
def tw17508852921174865647:=N
def tw5458301783872978671:=N
def tw15985451021644129007:=N
def tw7784107701051879151:=N
def tw18442429286918980527:=N
def tw17378554996476921278:=N
def tw984404074638417663:=N
def tw8608754602446452752:=N
def tw2321333698381879376:=N
def tw14499148947363171440:=N
def tw15355207049001821271:=N
def tw5451728794125070480:=N
def tw13252753390566833296:=N
def tw3920053147585046704:=N
def tw3447564535120128176:=N
def tw15797633969259441328:=N
def tw16483319809691496031:=N
def tw16596056122155618640:=N
def tw6957267471949123765:=N
def tw12020421145011837488:=N
def tw17224126344967117360:=N
def tw9697437515476356986:=N
def tw17808999481935035952:=N
def tw3305842880904377936:=N
def tw1789524016774145616:=N
def tw10486950309659905776:=N
def tw5868439909951606774:=N
def tw15149230346450412304:=N
def tw9257577387338509072:=N
def tw15011646474057804402:=N
def tw9823094868044253046:=N
def tw7726595328886271824:=N
def tw7399582074379355571:=N
def tw8935438027212226480:=N
def tw1340150261486103504:=N
def tw5671963935018344946:=N
def tw5953176700372624465:=N
def tw18038063012289724497:=N
def tw14690454016182590609:=N
def tw15827996156561467957:=N
def tw15764192125524702551:=N
def tw1189321091409834675:=N
def tw6954385489495882929:=N
def tw11162267915503073521:=N
def tw9955053306508569215:=N
def tw10953400014681211185:=N
def tw15480132914216081777:=N
def tw14323908590429844017:=N
def tw18005521080111646321:=N
def tw2696385190391567034:=N
def tw14289298747857522321:=N
def tw1941608109246046132:=N
def tw7029045020177887737:=N
def tw13320490919011876724:=N
def tw4536060375180325617:=N
def tw12151437835887564625:=N
def tw13890144554201960305:=N
def tw1075867658728401431:=N
def tw16473622280805679025:=N
def tw8261974236709160913:=N
def tw16624965579977223773:=N
def tw17278313696182061041:=N
def tw739527595953693855:=N
def tw7132615827219631122:=N
def tw17657413875973155444:=N
def tw16736589695059357787:=N
def tw8115783445022387986:=N
def tw18279186121178585394:=N
def tw3789916935696014706:=N
def tw3434889990268709266:=N
def tw3404557643033805625:=N
def tw18343989368885308818:=N
def tw3981409126046908764:=N
def tw11580685101207181975:=N
def tw10281277542892562646:=N
def tw13640995681960699382:=N
def tw1818589177150687352:=N
def tw1870194664591242652:=N
def tw11738350410470751858:=N
def tw6171336503839493778:=N
def tw10641349299544423218:=N
def tw7297846297970469714:=N
def tw4367074757533432536:=N
def tw10623469334372772057:=N
def tw14692034729526297586:=N
def tw4116979646112208223:=N
def tw3862659714505267251:=N
def tw363077820355153783:=N
def tw10356869130940395667:=N
def tw6268101599362593971:=N
def tw16159040742262512156:=N
def tw876450251826804947:=N
def tw4571847662935744662:=N
def tw13785465647108807955:=N
def tw14706886990983012659:=N
def tw15955652973569441881:=N
def tw10162532454121529747:=N
def tw675378325079255287:=N
def tw7669152381461382579:=N
def tw10881516091854320825:=N
def tw14438021288917272374:=N
def tw15721015508595061363:=N
def tw5917755968738283219:=N
def tw6254577674786332505:=N
def tw11130221903617984275:=N
def tw10978084558040726355:=N
def tw9498087058831546259:=N
def tw8360911051591236531:=N
def tw3205496676477464148:=N
def tw9199087370377880756:=N
def tw1298469590326115572:=N
def tw4337909982373832980:=N
def tw17804821250930101620:=N
def tw7055344684867992948:=N
def tw3065022249907316506:=N
def tw14885337786722795924:=N
def tw18199377535852085684:=N
def tw3716474401883328980:=N
def tw16508416961674000852:=N
def tw9607346086590282196:=N
def tw4727882326667180532:=N
def tw17256552638942928055:=N
def tw16893595642240995863:=N
def tw9409338775210594132:=N
def tw3896697828973541145:=N
def tw5277234776528343892:=N
def tw12950892274102264660:=N
def tw12929507851842718644:=N
def tw11406159170404947418:=N
def tw17708732034045495252:=N
def tw18100403603562104853:=N
def tw3706939434530368533:=N
def tw3779097837714995262:=N
def tw17764195365127189653:=N
def tw8204171178417814332:=N
def tw3264103422151914709:=N
def tw11266766931450198229:=N
def tw4500850084338671861:=N
def tw10434624074947095382:=N
def tw9726015203975996085:=N
def tw16968737317739613493:=N
def tw8816653652298616149:=N
def tw15657957511513050808:=N
def tw5492698360405180917:=N
def tw3469176878039587517:=N
def tw9799538722486022837:=N
def tw16727236737842480853:=N
def tw15214205137530183673:=N
def tw7695861158955633657:=N
def tw13661273340991866645:=N
def tw18135805774765592373:=N
def tw674797216620288831:=N
def tw989440286826610046:=N
def tw8461518098220583797:=N
def tw9850807890905787253:=N
def tw16236437862517840789:=N
def tw8418041774421457529:=N
def tw17549090030436269013:=N
def tw13460337997503594485:=N
def tw15387045619109355542:=N
def tw10566330685590897782:=N
def tw12397182256595695734:=N
def tw3583543932272712600:=N
def tw18377028534972474550:=N
def tw3006152022471441590:=N
def tw4183947915538742582:=N
def tw4165126805024298327:=N
def tw7547308281050586454:=N
def tw6763394161625279479:=N
def tw8169840366719622118:=N
def tw1113142797381689846:=N
def tw991287784279909910:=N
def tw1945658648399469053:=N
def tw18183463599763752158:=N
def tw1780260373474704410:=N
def tw6552835259723571166:=N
def tw10119283062840510134:=N
def tw1656175418908433206:=N
def tw15670506223111421814:=N
def tw13910733560873256478:=N
def tw14770425302121271254:=N
def tw12070930031947914686:=N
def tw9230442033434585020:=N
def tw7589592097740336151:=N
def tw5806148598296754231:=N
def tw12725350947209344575:=N
def tw356510274120502423:=N
def tw1008316291025050871:=N
def tw2557559429207111959:=N
def tw2800720708790233527:=N
def tw16896197371893805627:=N
def tw9173348896784748919:=N
def tw12856131606411205111:=N
def tw6900826063277856279:=N
def tw8204721123636909623:=N
def tw5676958602303230457:=N
def tw2256745760161875516:=N
def tw1147701478316002999:=N
def tw18067260624101855389:=N
def tw5744675859846287932:=N
def tw3696221091304909211:=N
def tw17723443284926415294:=N
def tw11074482838945587224:=N
def tw982023989943431224:=N
def tw15121419865751073694:=N
def tw9014506050357535928:=N
def tw17242610658183116671:=N
def tw5938106192627557592:=N
def tw15198409404978285880:=N
def tw9970426323951686040:=N
def tw11728764649312290714:=N
def tw16380628103216477624:=N
def tw6637021008351167000:=N
def tw554817181086005182:=N
def tw4203365501075686587:=N
def tw756209860029350267:=N
def tw1571961781818418040:=N
def tw1875483609315171224:=N
def tw16930322835504636856:=N
def tw4899363774715620381:=N
def tw11893472981639926718:=N
def tw17081702366975402429:=N
def tw4453055712339036703:=N
def tw8837944806042225471:=N
def tw4720775077648493689:=N
def tw12945258047156812444:=N
def tw1014201446214263769:=N
def tw4660363230845178297:=N
def tw9441603026614991321:=N
def tw13680172493543619065:=N
def tw1639767245803134942:=N
def tw13328176285562679453:=N
def tw14803401569242186521:=N
def tw1432414622510991102:=N
def tw5098960297513294649:=N
def tw3785550722555359129:=N
def tw515874372652268698:=N
def tw1105470887176598746:=N
def tw4374183681920004474:=N
def tw17820874180994142714:=N
def tw10513527408072995260:=N
def tw5861150373727128122:=N
def tw1310466210992672346:=N
def tw4114140708789719770:=N
def tw3815422828959469338:=N
def tw6155987468349220730:=N
def tw10857094607755984762:=N
def tw13527152526688530426:=N
def tw11181313651281549471:=N
def tw9776459885413552251:=N
def tw16020811402860041342:=N
def tw4001137340838869115:=N
def tw17752254344030125435:=N
def tw5705525159750919579:=N
def tw5950817400810806747:=N
def tw13297842713731540828:=N
def tw16190394538377250143:=N
def tw18334533753569299227:=N
def tw7883392125150844670:=N
def tw1509359470652653406:=N
def tw15818784832712596732:=N
def tw8857291145801183516:=N
def tw9619953802480077597:=N
def tw18259260597298329148:=N
def tw15826469269413172478:=N
def tw16152506147356283580:=N
def tw11868704745310315645:=N
def tw221180528941556477:=N
def tw8773302135191944285:=N
def tw4933116898669715741:=N
def tw11135517130712133021:=N
def tw9085037949703887389:=N
def tw3194483753654681149:=N
def tw18300723713001027229:=N
def tw9060028267762702109:=N
def tw18316148657119739262:=N
def tw9807910251540974461:=N
def tw12934888968953676733:=N
def tw7524087928963838014:=N
def tw10572197782180227134:=N
def tw3209146777989794974:=N
def tw11149666672307298526:=N
def tw3101142158422017950:=N
def tw3573053048961200030:=N
def tw13056649949724381375:=N
def tw2561610535849530015:=N
def tw13701818978493399679:=N
def tw12887445549599806367:=N
def tw12191979508778497951:=N
end PySem.W.Fast
local macro_rules | `(tactic| walk_at "h0") => `(tactic| (refine' L2.defAt_mk ?a ?l ?c ?k; (case a=>k_is); (case l=>k_is); (case c=>k_is); (case k=>k_is)))
local macro_rules | `(tactic| walk_at "h1") => `(tactic| (refine' L2.methAt_mk ?a ?i ?l ?c ?k; (case a=>k_is); (case i=>k_is); (case l=>k_is); (case c=>k_is); (case k=>k_is)))
local macro_rules | `(tactic| walk_at "h2") => `(tactic| (refine' L2.const_mk ?e ?r; (case e=>k_is); (case r=>exact⟨_,by with_unfolding_all rfl⟩)))
local macro_rules | `(tactic| walk_at "h3") => `(tactic| (refine' L2.mkAt_mk ?n ?m ?a ?i ?kc ?l ?c ?k; (case n=>k_is); (case m=>k_is); (case a=>k_is); (case i=>k_is); (case kc=>k_is); (case l=>k_is); (case c=>k_is); (case k=>k_is)))
local macro_rules | `(tactic| walk_at "h4") => `(tactic| (refine'⟨?a,L2.fun_mk ?l ?c ?k⟩; (case a=>k_is); (case l=>k_is); (case c=>k_is); (case k=>k_is)))
open PySem PySem.W PyProof.Rows
set_option maxRecDepth 100000 in
set_option maxHeartbeats 0 in
theorem PySem.Challenge.cw_fourvoices_k94_whole_great_memories_holds : PySem.Challenge.rw_fourvoices_k94_whole_great_memories.Holds := by
 w_on;o_law;k_head;(case hw=>w_witness2)
 k_fill
 refine K94.walk (l:=PySem.Challenge.rw_fourvoices_k94_whole_great_memories) rfl rfl (fun w h Y=>PySem.W.kIn_of Y) ?F
 case F=>
  intro w mg fa h KX G hmg;refine' K94.all_mk KX G hmg ?Zdb ?Zak ?Zdc ?Zai ?Zdd ?Zah ?Zde ?Zaj ?Zdf ?Zal ?Zdg ?Zaf ?Zaw ?Zax ?Zay ?Zaz ?Za0 ?Za1 ?Za2 ?Za3 ?Za4 ?Za5 ?Za6 ?Za7 ?Za8 ?Za9 ?Zba ?Zbb ?Zbc ?Zbd ?Zbe ?Zbf ?Zbg ?Zbh ?Zbi ?Zbj ?Zbk ?Zbl ?Zbm ?Zbn ?Zbo ?Zbp ?Zbq ?Zbr ?Zbs ?Zbt ?Zbu ?Zbv ?Zbw ?Zbx ?Zby ?Zbz ?Zb0 ?Zb1 ?Zb2 ?Zb3 ?Zb4 ?Zb5 ?Zb6 ?Zb7 ?Zb8 ?Zb9 ?Zca ?Zcb ?Zcc ?Zcd ?Zce ?Zcf ?Zcg ?Zch ?Zci ?Zcj ?Zck ?Zcl ?Zcm ?Zcn ?Zco ?Zcp ?Zcq ?Zcr ?Zcs ?Zct ?Zcu ?Zcv ?n_MAKERS ?t_MAKERS ?d_MAKERS_span ?d_MAKERS_held ?d_MAKERS_times ?n_INNER_KINDS ?q_INNER_KINDS ?z_len ?z_range ?z_all ?z_min ?z_max ?z_abs ?z_tuple ?z_list ?z_isinstance ?z_bool ?z_int ?z_str ?z_enumerate ?z_zip ?g_FIGURES ?g_MOST_FIGURES ?g_MOST_VOICES ?g_MOST_RULES ?g_MOST_WEIGHT ?g_MOST_NUMBERS ?g_START ?Zcw
  (case Zdb=>k_is)
  (case Zak=>(refine'⟨⟨?a_1,?b_1,?c_1,?d_1⟩,?f0_1,?f1_1,?f2_1,?f3_1⟩;(case a_1=>k_is);(case b_1=>k_is);(case c_1=>k_is);(case d_1=>k_is);(case f0_1=>delta L2.NoAttr;k_is);(case f1_1=>delta L2.NoAttr;k_is);(case f2_1=>delta L2.NoAttr;k_is);(case f3_1=>delta L2.NoAttr;k_is)))
  (case Zdc=>k_is)
  (case Zai=>(refine'⟨⟨?a_3,?b_3,?c_3,?d_3⟩,?f0_3,?f1_3,?f2_3⟩;(case a_3=>k_is);(case b_3=>k_is);(case c_3=>k_is);(case d_3=>k_is);(case f0_3=>delta L2.NoAttr;k_is);(case f1_3=>delta L2.NoAttr;k_is);(case f2_3=>delta L2.NoAttr;k_is)))
  (case Zdd=>k_is)
  (case Zah=>(refine'⟨⟨?a_5,?b_5,?c_5,?d_5⟩,?f0_5,?f1_5,?f2_5,?f3_5,?f4_5⟩;(case a_5=>k_is);(case b_5=>k_is);(case c_5=>k_is);(case d_5=>k_is);(case f0_5=>delta L2.NoAttr;k_is);(case f1_5=>delta L2.NoAttr;k_is);(case f2_5=>delta L2.NoAttr;k_is);(case f3_5=>delta L2.NoAttr;k_is);(case f4_5=>delta L2.NoAttr;k_is)))
  (case Zde=>k_is)
  (case Zaj=>(refine'⟨⟨?a_7,?b_7,?c_7,?d_7⟩,?f0_7,?f1_7,?f2_7,?f3_7⟩;(case a_7=>k_is);(case b_7=>k_is);(case c_7=>k_is);(case d_7=>k_is);(case f0_7=>delta L2.NoAttr;k_is);(case f1_7=>delta L2.NoAttr;k_is);(case f2_7=>delta L2.NoAttr;k_is);(case f3_7=>delta L2.NoAttr;k_is)))
  (case Zdf=>k_is)
  (case Zal=>(refine'⟨⟨?a_9,?b_9,?c_9,?d_9⟩,?f0_9,?f1_9⟩;(case a_9=>k_is);(case b_9=>k_is);(case c_9=>k_is);(case d_9=>k_is);(case f0_9=>delta L2.NoAttr;k_is);(case f1_9=>delta L2.NoAttr;k_is)))
  (case Zdg=>k_is)
  (case Zaf=>(refine'⟨⟨?a_11,?b_11,?c_11,?d_11⟩,?f0_11,?f1_11,?f2_11⟩;(case a_11=>k_is);(case b_11=>k_is);(case c_11=>k_is);(case d_11=>k_is);(case f0_11=>delta L2.NoAttr;k_is);(case f1_11=>delta L2.NoAttr;k_is);(case f2_11=>delta L2.NoAttr;k_is)))
  (case Zaw=>walk_at "h0")
  (case Zax=>walk_at "h0")
  (case Zay=>(refine' L2.cmethAt_mk ?n_14 ?r_14 ?a_14 ?g_14 ?l_14 ?c_14 ?k_14;(case n_14=>k_is);(case r_14=>k_is);(case a_14=>k_is);(case g_14=>k_is);(case l_14=>k_is);(case c_14=>k_is);(case k_14=>k_is)))
  (case Zaz=>walk_at "h1")
  (case Za0=>walk_at "h1")
  (case Za1=>walk_at "h1")
  (case Za2=>walk_at "h1")
  (case Za3=>walk_at "h1")
  (case Za4=>walk_at "h1")
  (case Za5=>walk_at "h1")
  (case Za6=>walk_at "h1")
  (case Za7=>walk_at "h1")
  (case Za8=>walk_at "h1")
  (case Za9=>walk_at "h1")
  (case Zba=>walk_at "h1")
  (case Zbb=>walk_at "h1")
  (case Zbc=>walk_at "h1")
  (case Zbd=>walk_at "h1")
  (case Zbe=>walk_at "h1")
  (case Zbf=>walk_at "h3")
  (case Zbg=>walk_at "h3")
  (case Zbh=>walk_at "h3")
  (case Zbi=>walk_at "h3")
  (case Zbj=>walk_at "h0")
  (case Zbk=>walk_at "h0")
  (case Zbl=>walk_at "h0")
  (case Zbm=>walk_at "h4")
  (case Zbn=>walk_at "h4")
  (case Zbo=>walk_at "h4")
  (case Zbp=>walk_at "h0")
  (case Zbq=>walk_at "h0")
  (case Zbr=>(refine' L2.defAtD_mk2 ?a_43 ?l_43 ?c_43 ?k_43 ?t_43 ?d_43 ?r_43;(case a_43=>k_is);(case l_43=>k_is);(case c_43=>k_is);(case k_43=>k_is);(case t_43=>k_is);(case d_43=>rfl);(case r_43=>exact⟨_,rfl⟩)))
  (case Zbs=>walk_at "h0")
  (case Zbt=>walk_at "h3")
  (case Zbu=>walk_at "h0")
  (case Zbv=>walk_at "h0")
  (case Zbw=>walk_at "h0")
  (case Zbx=>walk_at "h0")
  (case Zby=>walk_at "h0")
  (case Zbz=>walk_at "h0")
  (case Zb0=>walk_at "h0")
  (case Zb1=>walk_at "h0")
  (case Zb2=>walk_at "h0")
  (case Zb3=>walk_at "h0")
  (case Zb4=>(refine' L2.cmethAt_mk ?n_56 ?r_56 ?a_56 ?g_56 ?l_56 ?c_56 ?k_56;(case n_56=>k_is);(case r_56=>k_is);(case a_56=>k_is);(case g_56=>k_is);(case l_56=>k_is);(case c_56=>k_is);(case k_56=>k_is)))
  (case Zb5=>walk_at "h1")
  (case Zb6=>walk_at "h1")
  (case Zb7=>walk_at "h1")
  (case Zb8=>walk_at "h1")
  (case Zb9=>walk_at "h1")
  (case Zca=>walk_at "h3")
  (case Zcb=>walk_at "h0")
  (case Zcc=>walk_at "h0")
  (case Zcd=>walk_at "h0")
  (case Zce=>walk_at "h0")
  (case Zcf=>walk_at "h0")
  (case Zcg=>walk_at "h0")
  (case Zch=>walk_at "h0")
  (case Zci=>walk_at "h0")
  (case Zcj=>walk_at "h0")
  (case Zck=>walk_at "h0")
  (case Zcl=>walk_at "h0")
  (case Zcm=>walk_at "h0")
  (case Zcn=>walk_at "h0")
  (case Zco=>walk_at "h0")
  (case Zcp=>walk_at "h0")
  (case Zcq=>walk_at "h0")
  (case Zcr=>walk_at "h0")
  (case Zcs=>walk_at "h0")
  (case Zct=>walk_at "h0")
  (case Zcu=>walk_at "h0")
  (case Zcv=>walk_at "h0")
  (case n_MAKERS=>k_is)
  (case t_MAKERS=>(refine' L2.tab_mk ?l_85 ?s_85 ?x_85 ?y_85 ?z_85 ?d_85 ?r_85;(case l_85=>k_is);(case s_85=>rfl);(case x_85=>rfl);(case y_85=>rfl);(case z_85=>rfl);(case d_85=>rfl);(case r_85=>exact(L2.rowsR rfl rfl (L2.rowsR rfl rfl (L2.rowsR rfl rfl (L2.rowsR rfl rfl (L2.rowsR rfl rfl (L2.rowsR rfl rfl (L2.rowsR rfl rfl (L2.rowsR rfl rfl (L2.rowsR rfl rfl .nil))))))))))))
  (case d_MAKERS_span=>with_unfolding_all rfl)
  (case d_MAKERS_held=>with_unfolding_all rfl)
  (case d_MAKERS_times=>with_unfolding_all rfl)
  (case n_INNER_KINDS=>k_is)
  (case q_INNER_KINDS=>(refine' L2.ktup_mk ?l_90 ?x_90 ?d_90 ?z_90 ?r_90;(case l_90=>k_is);(case x_90=>rfl);(case d_90=>rfl);(case z_90=>decide);(case r_90=>exact(.cons ⟨_,rfl⟩ (.cons ⟨_,rfl⟩ .nil)))))
  (case z_len=>k_is)
  (case z_range=>k_is)
  (case z_all=>k_is)
  (case z_min=>k_is)
  (case z_max=>k_is)
  (case z_abs=>k_is)
  (case z_tuple=>k_is)
  (case z_list=>k_is)
  (case z_isinstance=>k_is)
  (case z_bool=>k_is)
  (case z_int=>k_is)
  (case z_str=>k_is)
  (case z_enumerate=>k_is)
  (case z_zip=>k_is)
  (case g_FIGURES=>walk_at "h2")
  (case g_MOST_FIGURES=>walk_at "h2")
  (case g_MOST_VOICES=>walk_at "h2")
  (case g_MOST_RULES=>walk_at "h2")
  (case g_MOST_WEIGHT=>walk_at "h2")
  (case g_MOST_NUMBERS=>walk_at "h2")
  (case g_START=>walk_at "h2")
  (case Zcw=>walk_at "h0")
