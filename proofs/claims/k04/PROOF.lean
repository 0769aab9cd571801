import PyProof.Rows.All
import Wide.All
import OpenK.AllK
import Wide.FinOn
import Lean
import PyProof.EqAt
import PyProof.EqKinds
import PyProof.TupleCall
import KE.KTab
import KE.KRevSl
import PyProof.Rows.Range3
import PyProof.WalkInts
import PyProof.Rows.StrSplitMax
import KE.KMinKey
import PyProof.LongRange
import PyProof.ListRange
import PyProof.ExcClass3
import PyProof.InstStore
import PyProof.StationsW
import PyProof.ExcQuiet
import PyProof.RulesTry
import PyProof.ExcArgsOwn
import PySem.Challenge.RW_fourvoices_k04_lines_refused
set_option Elab.async false
set_option linter.all false
set_option maxRecDepth 100000
namespace L2
open PySem PySem.Spec PyProof.Rows
abbrev Key := Sum Int Str
def keyIs : Key → Value → Bool
  | .inl k, v => Value.isInt k v
  | .inr x, v => Value.isStrOf x v
def keyH (w : World) : Key → Int
  | .inl k => hashInt k
  | .inr x => hashStr w x
theorem keyIs_shape : ∀ {k : Key} {v : Value}, keyIs k v = true → (∃ i t, k = Sum.inl i ∧ v = Value.int i t) ∨ (∃ x t, k = Sum.inr x ∧ v = Value.str x t)
  | .inl i, v, h => by
    obtain ⟨t, e⟩ := Value.isInt_shape (k := i) (v := v) h
    exact .inl ⟨i, t, rfl, e⟩
  | .inr x, v, h => by
    obtain ⟨t, e⟩ := Value.isStrOf_shape (x := x) (v := v) h
    exact .inr ⟨x, t, rfl, e⟩
theorem key_ll (a b : Int) : decide ((Sum.inl a : Key) = Sum.inl b) = (a == b) := by
  by_cases e : a = b
  · subst e; simp
  · have h : ¬ (Sum.inl a : Key) = Sum.inl b := fun q => e (Sum.inl.inj q)
    rw [decide_eq_false h]
    exact (beq_eq_false_iff_ne.mpr e).symm
theorem key_rr (a b : Str) : decide ((Sum.inr a : Key) = Sum.inr b) = decide (a = b) := by
  by_cases e : a = b
  · subst e; simp
  · have h : ¬ (Sum.inr a : Key) = Sum.inr b := fun q => e (Sum.inr.inj q)
    rw [decide_eq_false h, decide_eq_false e]
theorem key_lr (a : Int) (b : Str) : decide ((Sum.inl a : Key) = Sum.inr b) = false := decide_eq_false (fun q => nomatch q)
theorem key_rl (a : Str) (b : Int) : decide ((Sum.inr a : Key) = Sum.inl b) = false := decide_eq_false (fun q => nomatch q)
def mixKind (prog : Program) (w : World) : PySem.KeyKind prog w Key where
  is := keyIs
  hash := keyH w
  inj := fun v a b ha hb => by
    rcases keyIs_shape ha with ⟨i, t, rfl, rfl⟩ | ⟨x, t, rfl, rfl⟩
    · rcases keyIs_shape hb with ⟨j, u, rfl, e⟩ | ⟨y, u, rfl, e⟩
      · injection e with e1 _; rw [e1]
      · exact nomatch e
    · rcases keyIs_shape hb with ⟨j, u, rfl, e⟩ | ⟨y, u, rfl, e⟩
      · exact nomatch e
      · injection e with e1 _; rw [e1]
  byValue := fun k v h => by
    rcases keyIs_shape h with ⟨i, t, rfl, rfl⟩ | ⟨x, t, rfl, rfl⟩ <;> rfl
  pyHash := fun hv h => by
    rcases keyIs_shape hv with ⟨i, t, rfl, rfl⟩ | ⟨x, t, rfl, rfl⟩
    · exact wpAny_pyHash_int h
    · exact wpAny_pyHash_str h
  eqBool := fun hu hv h => by
    rcases keyIs_shape hu with ⟨i, t, rfl, rfl⟩ | ⟨x, t, rfl, rfl⟩
    · rcases keyIs_shape hv with ⟨j, u, rfl, rfl⟩ | ⟨y, u, rfl, rfl⟩
      · rw [key_ll] at h; exact wpAny_eqBool_int h
      · rw [key_lr] at h; exact SeqAt.EqAt.int_str i t y u _ _ _ _ h
    · rcases keyIs_shape hv with ⟨j, u, rfl, rfl⟩ | ⟨y, u, rfl, rfl⟩
      · rw [key_rl] at h; exact SeqAt.EqAt.str_int x t j u _ _ _ _ h
      · rw [key_rr] at h; exact wpAny_eqBool_str h
  «strs» := fun k x t v h => by
    rcases keyIs_shape h with ⟨i, u, rfl, e⟩ | ⟨y, u, rfl, e⟩
    · exact nomatch e
    · injection e with e1 _
      subst e1
      cases v <;> rfl
end L2
namespace L2
open PySem PySem.Spec PyProof.Rows
inductive V where
  | non | bl (b : Bool) | int (i : Int) | str (x : Str) | byt (b : Array UInt8) | flt (b : UInt64) | ref (a : Addr) | ty (n : String)
  deriving DecidableEq
def RelV : V → Value → Prop
  | .non, u => u = Value.none
  | .bl b, u => u = Value.bool b
  | .int i, u => ∃ t, u = Value.int i t
  | .str x, u => ∃ t, u = Value.str x t
  | .byt b, u => ∃ t, u = Value.bytes b t
  | .flt b, u => ∃ t, u = Value.float b t
  | .ref a, u => u = Value.ref a
  | .ty n, u => u = Value.type n
abbrev Vals : List V → List Value → Prop := Paired RelV
theorem Vals.length {xs : List V} {us : List Value} (r : Vals xs us) : xs.length = us.length := Paired.length r
theorem Vals.get : ∀ {xs : List V} {us : List Value} {i : Nat} {x : V}, Vals xs us → xs[i]? = some x → ∃ u, us[i]? = some u ∧ RelV x u
  | _, _, _, _, .nil, e => by simp at e
  | _, _, 0, _, .cons r _, e => by simp at e; subst e; exact ⟨_, rfl, r⟩
  | _, _, i + 1, x, .cons _ t, e => by
    obtain ⟨u, h1, h2⟩ := Vals.get (i := i) (x := x) t (by simpa using e)
    exact ⟨u, by simpa using h1, h2⟩
theorem Vals.set {x : V} {u : Value} (r : RelV x u) : ∀ {xs : List V} {us : List Value} (i : Nat), Vals xs us → Vals (xs.set i x) (us.set i u)
  | _, _, _, .nil => .nil
  | _, _, 0, .cons _ t => .cons r t
  | _, _, i + 1, .cons q t => .cons q (Vals.set r i t)
theorem Vals.append : ∀ {xs ys : List V} {us ws : List Value}, Vals xs us → Vals ys ws → Vals (xs ++ ys) (us ++ ws)
  | _, _, _, _, .nil, s => s
  | _, _, _, _, .cons r t, s => .cons r (Vals.append t s)
theorem Vals.take : ∀ {xs : List V} {us : List Value} (n : Nat), Vals xs us → Vals (xs.take n) (us.take n)
  | _, _, 0, _ => .nil
  | _, _, _ + 1, .nil => .nil
  | _, _, n + 1, .cons r t => .cons r (Vals.take n t)
theorem Vals.drop : ∀ {xs : List V} {us : List Value} (n : Nat), Vals xs us → Vals (xs.drop n) (us.drop n)
  | _, _, 0, r => r
  | _, _, _ + 1, .nil => .nil
  | _, _, n + 1, .cons _ t => Vals.drop n t
def RelO : Option V → Option Value → Prop
  | some v, some u => RelV v u
  | none, none => True
  | _, _ => False
def KV {κ : Type} : List (κ × V) → List (κ × Value) → Prop := Paired fun (p : κ × V) (q : κ × Value) => p.1 = q.1 ∧ RelV p.2 q.2
def kV : Key → V
  | .inl i => .int i
  | .inr x => .str x
inductive HO where
  | lst (xs : List V)
  | tup (xs : List V)
  | dK (kvs : List (Key × V)) | dT (kvs : List (List Key × V))
  | set (S : Int → Bool) (n : Nat)
  | ins (C dx : Addr) (fs : List (Str × V))
  | own (x : Addr)
  | xd (fs : List (Str × V))
  | met (f x : Addr)
  | rng (lo hi : Int)
  | frz (o : Obj) (u : HO)
  | tbl (ps : Array Value)
  | ext (φ : Heap → Prop)
abbrev Hp := Addr → Option HO
def upd (H : Hp) (a : Addr) (o : HO) : Hp := fun b => if b = a then some o else H b
theorem upd_same {H : Hp} {a : Addr} {o : HO} : upd H a o a = some o := by unfold upd; rw [if_pos rfl]
theorem upd_ne {H : Hp} {a b : Addr} {o : HO} (h : b ≠ a) : upd H a o b = H b := by unfold upd; rw [if_neg h]
theorem ne_of_none {H : Hp} {a b : Addr} {o : HO} (h : H a = some o) (h' : H b = none) : a ≠ b := by
  intro e; subst e; rw [h] at h'; cases h'
section
variable (P : Program) (w : World)
def ObjOk (H : Hp) (h : Heap) (a : Addr) : HO → Prop
  | .lst xs => xs.length ≤ sizeLine ∧ ∃ (its : List Value) (n : Nat), Vals xs its ∧ h.get? a = some { cls := .type "list", data := .seq its.toArray n }
  | .tup xs => xs.length ≤ sizeLine ∧ ∃ its : List Value, Vals xs its ∧ IsTup h a its.toArray
  | .dK kvs => kvs.length ≤ sizeLine ∧ (a == sysModules) = false ∧ ∃ vs, KV kvs vs ∧ h.DictOf (mixKind P w) a vs
  | .dT kvs => kvs.length ≤ sizeLine ∧ (a == sysModules) = false ∧ ∃ xs : List (List Key × Addr × Value),
      Paired (fun (p : List Key × V) (q : List Key × Addr × Value) => p.1 = q.1 ∧ H q.2.1 = some (.tup (p.1.map kV)) ∧ RelV p.2 q.2.2) kvs xs ∧
      ∃ o es ep, h.get? a = some o ∧ o.ExactDict ∧ o.data = .dict es ep ∧ es.toList = xs.map (entryOfKey (tupleKind (mixKind P w))) ∧ (xs.map (·.1)).Nodup
  | .set S n => h.SetOf (intKind P w) a S n
  | .ins C dx fs => H dx = some (.own a) ∧ fs.length ≤ 1000 ∧ dx ≠ a ∧ h.get? a = some (PySem.W.instObj C dx) ∧
      ∃ mA, h.Ns1 dx mA ∧ (∀ f, RelO (fs.lookup f) (mA f)) ∧ PySem.Within mA (fs.map (·.1))
  | .own _ => ∃ o, h.get? a = some o
  | .xd fs => ∃ mA, h.Ns1 a mA ∧ ∀ f, RelO (fs.lookup f) (mA f)
  | .rng lo hi => ∃ t u v, h.get? a = some { cls := .type "range", data := .fields #[.int lo t, .int hi u, .int 1 v] }
  | .frz o u => h.get? a = some o ∧ ObjOk H h a u
  | .tbl ps => h.get? a = some { cls := .none, data := .fields ps }
  | .met f x => h.get? a = some (PySem.W.methodObj (.ref f) (.ref x))
  | .ext φ => φ h ∧ (∃ o, h.get? a = some o) ∧ ∀ h1 h2 : Heap, φ h1 → (∀ o, h1.get? a = some o → h2.get? a = some o) → φ h2
def HOk (H : Hp) (h : Heap) : Prop := ∀ a o, H a = some o → ObjOk P w H h a o
end
section
variable {P : Program} {w : World} {H H' : Hp} {h h' : Heap} {a : Addr} {o : HO}
theorem ObjOk.lt (x : ObjOk P w H h a o) : a < h.objs.size := by
  cases o with
  | lst xs => obtain ⟨_, _, _, _, e⟩ := x; exact Heap.lt_size e
  | tup xs => obtain ⟨_, _, _, p⟩ := x; exact p.lt
  | dK kvs => obtain ⟨_, _, _, _, o, _, _, e, _⟩ := x; exact Heap.lt_size e
  | dT kvs => obtain ⟨_, _, _, _, o, _, _, e, _⟩ := x; exact Heap.lt_size e
  | set S n => obtain ⟨o, _, _, _, e, _⟩ := x; exact Heap.lt_size e
  | ins C dx fs => obtain ⟨_, _, _, e, _⟩ := x; exact Heap.lt_size e
  | own y => obtain ⟨_, e⟩ := x; exact Heap.lt_size e
  | xd fs => obtain ⟨_, ⟨_, _, _, e, _⟩, _⟩ := x; exact Heap.lt_size e
  | rng lo hi => obtain ⟨_, _, _, e⟩ := x; exact Heap.lt_size e
  | frz ob u => obtain ⟨e, _⟩ := x; exact Heap.lt_size e
  | tbl ps => exact Heap.lt_size (show h.get? a = some _ from x)
  | met f y => exact Heap.lt_size (show h.get? a = some _ from x)
  | ext φ => obtain ⟨_, ⟨_, e⟩, _⟩ := x; exact Heap.lt_size e
theorem Paired.mapP {α β : Type} {F G : α → β → Prop} : ∀ {l₁ : List α} {l₂ : List β}, Paired F l₁ l₂ → (∀ a b, F a b → G a b) → Paired G l₁ l₂
  | _, _, .nil, _ => .nil
  | _, _, .cons r t, f => .cons (f _ _ r) (Paired.mapP t f)
theorem ObjOk.stay (x : ObjOk P w H h a o) (k : ∀ b u, (b = a ∨ H b = some (.own a)) → h.get? b = some u → h'.get? b = some u)
    (ho : ∀ b, H b = some (.own a) → H' b = some (.own a)) (ht : ∀ b xs, H b = some (.tup xs) → H' b = some (.tup xs)) : ObjOk P w H' h' a o := by
  induction o with
  | lst xs => obtain ⟨z, its, n, r, e⟩ := x; exact ⟨z, its, n, r, k _ _ (.inl rfl) e⟩
  | tup xs => obtain ⟨z, its, r, ob, e, c⟩ := x; exact ⟨z, its, r, ob, k _ _ (.inl rfl) e, c⟩
  | dK kvs => obtain ⟨z, y, vs, r, ob, es, ep, e, c⟩ := x; exact ⟨z, y, vs, r, ob, es, ep, k _ _ (.inl rfl) e, c⟩
  | dT kvs =>
    obtain ⟨z, y, xs, r, ob, es, ep, e, c⟩ := x
    exact ⟨z, y, xs, Paired.mapP r fun p q z => ⟨z.1, ht _ _ z.2.1, z.2.2⟩, ob, es, ep, k _ _ (.inl rfl) e, c⟩
  | set S n => obtain ⟨ob, es, ep, t, e, c⟩ := x; exact ⟨ob, es, ep, t, k _ _ (.inl rfl) e, c⟩
  | ins C dx fs =>
    obtain ⟨d, z, ne, e, mA, ⟨od, es, ep, e2, c⟩, r⟩ := x
    exact ⟨ho _ d, z, ne, k _ _ (.inl rfl) e, mA, ⟨od, es, ep, k _ _ (.inr d) e2, c⟩, r⟩
  | own y => obtain ⟨ob, e⟩ := x; exact ⟨ob, k _ _ (.inl rfl) e⟩
  | xd fs => obtain ⟨mA, ⟨od, es, ep, e, c⟩, r⟩ := x; exact ⟨mA, ⟨od, es, ep, k _ _ (.inl rfl) e, c⟩, r⟩
  | rng lo hi => obtain ⟨t, u, v, e⟩ := x; exact ⟨t, u, v, k _ _ (.inl rfl) e⟩
  | frz ob u ih => obtain ⟨e, q⟩ := x; exact ⟨k _ _ (.inl rfl) e, ih q⟩
  | tbl ps =>
    have e : h.get? a = some { cls := .none, data := .fields ps } := x
    show h'.get? a = some { cls := .none, data := .fields ps }
    exact k a _ (.inl rfl) e
  | met f y =>
    have e : h.get? a = some (PySem.W.methodObj (.ref f) (.ref y)) := x
    show h'.get? a = some (PySem.W.methodObj (.ref f) (.ref y))
    exact k a _ (.inl rfl) e
  | ext φ => obtain ⟨p, ⟨o, e⟩, st⟩ := x; exact ⟨st _ _ p fun o q => k _ _ (.inl rfl) q, ⟨o, k _ _ (.inl rfl) e⟩, st⟩
theorem HOk.lt (x : HOk P w H h) (e : H a = some o) : a < h.objs.size := (x a o e).lt
theorem HOk.fresh (x : HOk P w H h) (e : h.objs.size ≤ a) : H a = none := by
  cases q : H a with
  | none => rfl
  | some u => exact absurd (Nat.lt_of_lt_of_le (x.lt q) e) (Nat.lt_irrefl _)
theorem HOk.kept (x : HOk P w H h) (k : ∀ b u, h.get? b = some u → h'.get? b = some u) : HOk P w H h' := fun a o e =>
  (x a o e).stay (fun b u _ q => k b u q) (fun _ q => q) fun _ _ q => q
theorem HOk.laid (x : HOk P w H h) (k : ∀ b u, h.get? b = some u → h'.get? b = some u) (hp : h.objs.size ≤ a) (new : ObjOk P w (upd H a o) h' a o) : HOk P w (upd H a o) h' := fun b u e => by
  have hn := x.fresh hp
  by_cases hb : b = a
  · subst hb; rw [upd_same] at e; cases e; exact new
  · rw [upd_ne hb] at e
    exact (x b u e).stay (fun c v _ q => k c v q) (fun c q => by rw [upd_ne (ne_of_none q hn)]; exact q) fun c xs q => by rw [upd_ne (ne_of_none q hn)]; exact q
end
def Rd (H : Hp) (a : Addr) (u : HO) : Prop := H a = some u ∨ ∃ o, H a = some (.frz o u)
theorem Rd.ok {P : Program} {w : World} {H : Hp} {h : Heap} {a : Addr} {u : HO} (r : Rd H a u) (x : HOk P w H h) : ObjOk P w H h a u := by
  rcases r with r | ⟨o, r⟩
  · exact x a u r
  · obtain ⟨_, q⟩ := x a _ r
    exact q
def Mut : Option HO → Prop
  | some (.lst _) => True
  | some (.dK _) => True
  | some (.dT _) => True
  | some (.set _ _) => True
  | some (.ins _ _ _) => True
  | some (.ext _) => True
  | _ => False
section
variable {P : Program} {w : World} {H : Hp} {h h' : Heap} {x e : Addr} {o' : HO}
theorem HOk.write (ok : HOk P w H h) (mu : Mut (H x)) (he : e = x ∨ H e = some (.own x)) (k : ∀ b u, b ≠ e → h.get? b = some u → h'.get? b = some u) (heo : ∃ u, h'.get? e = some u)
    (new : ObjOk P w (upd H x o') h' x o') : HOk P w (upd H x o') h' := fun b u q => by
  have nown : ∀ c y, H c = some (.own y) → c ≠ x := fun c y r z => by subst z; rw [r] at mu; exact mu
  have ntup : ∀ c xs, H c = some (.tup xs) → c ≠ x := fun c xs r z => by subst z; rw [r] at mu; exact mu
  by_cases hb : b = x
  · subst hb; rw [upd_same] at q; cases q; exact new
  · rw [upd_ne hb] at q
    by_cases hbe : b = e
    · have q' : H b = some (.own x) := by
        rcases he with z | z
        · exact absurd (hbe.trans z) hb
        · rw [hbe]; exact z
      rw [q] at q'; cases q'
      obtain ⟨v, hv⟩ := heo
      exact ⟨v, by rw [hbe]; exact hv⟩
    · refine (ok b u q).stay (fun c v hc r => k c v ?_ r) (fun c r => by rw [upd_ne (nown c b r)]; exact r) fun c xs r => by rw [upd_ne (ntup c xs r)]; exact r
      rcases hc with rfl | hc
      · exact hbe
      · rintro rfl
        rcases he with z | z
        · exact nown c b hc z
        · rw [hc] at z; cases z; exact hb rfl
end
structure Un (fs ex : List Addr) (H H' : Hp) (h h' : Heap) : Prop where
  keep : ∀ b o, h.get? b = some o → H b = none → b ∉ fs → b ∉ ex → h'.get? b = some o
  slot : ∀ b o, h.get? b = some o → H b = none → b ∈ fs → b ∉ ex → ∃ sl, h'.get? b = some { o with slots := sl }
  free : ∀ b o, h.get? b = some o → H b = none → b ∉ ex → H' b = none
  there : ∀ b o, h.get? b = some o → b ∉ ex → ∃ o', h'.get? b = some o'
  tups : ∀ b xs, H b = some (.tup xs) → H' b = some (.tup xs)
  frzs : ∀ b o u, H b = some (.frz o u) → H' b = some (.frz o u)
  tbls : ∀ b ps, H b = some (.tbl ps) → ∃ more, H' b = some (.tbl (ps ++ more))
section
variable {fs fs' ex ex' : List Addr} {H H1 H2 : Hp} {h h1 h2 h' : Heap} {a x e : Addr} {o : HO}
theorem Un.any (u : Un fs ex H H1 h h1) {b : Addr} {ob : Obj} (q : h.get? b = some ob) (n : H b = none) (hx : b ∉ ex) : ∃ sl, h1.get? b = some { ob with slots := sl } := by
  by_cases hb : b ∈ fs
  · exact u.slot b ob q n hb hx
  · exact ⟨ob.slots, u.keep b ob q n hb hx⟩
theorem Un.kept (k : ∀ b u, h.get? b = some u → h'.get? b = some u) : Un fs ex H H h h' :=
  ⟨fun b ob q _ _ _ => k b ob q, fun b ob q _ _ _ => ⟨ob.slots, k b ob q⟩, fun _ _ _ n _ => n, fun b ob q _ => ⟨ob, k b ob q⟩, fun _ _ q => q, fun _ _ _ q => q, fun _ ps q => ⟨#[], by rw [q]; simp⟩⟩
theorem Un.refl : Un fs ex H H h h := Un.kept fun _ _ q => q
theorem Un.laid (k : ∀ b u, h.get? b = some u → h'.get? b = some u) (hp : h.objs.size ≤ a) (hn : H a = none) : Un fs ex H (upd H a o) h h' where
  keep := fun b u q _ _ _ => k b u q
  slot := fun b u q _ _ _ => ⟨u.slots, k b u q⟩
  free := fun b u q n _ => by rw [upd_ne (Nat.ne_of_lt (Nat.lt_of_lt_of_le (Heap.lt_size q) hp))]; exact n
  there := fun b u q _ => ⟨u, k b u q⟩
  tups := fun b xs q => by rw [upd_ne (ne_of_none q hn)]; exact q
  frzs := fun b u xs q => by rw [upd_ne (ne_of_none q hn)]; exact q
  tbls := fun b ps q => ⟨#[], by rw [upd_ne (ne_of_none q hn), q]; simp⟩
theorem Un.write (mu : Mut (H x)) (he : e = x ∨ H e = some (.own x)) (k : ∀ b u, b ≠ e → h.get? b = some u → h'.get? b = some u) (heo : ∃ u, h'.get? e = some u) : Un fs ex H (upd H x o) h h' := by
  have hx : ∀ b, H b = none → b ≠ x := fun b n z => by subst z; rw [n] at mu; exact mu
  have hb : ∀ b, H b = none → b ≠ e := fun b n z => by
    subst z
    rcases he with r | r
    · exact hx b n r
    · rw [n] at r; cases r
  have hm : ∀ b u, H b = some u → ¬ Mut (some u) → b ≠ x := fun b u q nm z => by subst z; rw [q] at mu; exact nm mu
  refine ⟨fun b u q n _ _ => k b u (hb b n) q, fun b u q n _ _ => ⟨u.slots, k b u (hb b n) q⟩, fun b u q n _ => by rw [upd_ne (hx b n)]; exact n, fun b u q _ => ?_,
    fun b xs q => by rw [upd_ne (hm b _ q fun z => z)]; exact q, fun b u xs q => by rw [upd_ne (hm b _ q fun z => z)]; exact q, fun b ps q => ⟨#[], by rw [upd_ne (hm b _ q fun z => z), q]; simp⟩⟩
  by_cases hbe : b = e
  · subst hbe; exact heo
  · exact ⟨u, k b u hbe q⟩
end
def trk (h : Heap) (H : Hp) : List Addr := (List.range h.objs.size).filter fun a => (H a).isSome
def hidT (h : Heap) (H : Hp) : Heap := PySem.W.hideAll h (trk h H)
theorem hidT_size (h : Heap) (H : Hp) : (hidT h H).objs.size = h.objs.size := PySem.W.hideAll_size _ _
theorem hidT_get {h : Heap} {H : Hp} {b : Addr} {o : Obj} (e : h.get? b = some o) (n : H b = none) : (hidT h H).get? b = some o :=
  PySem.W.hideAll_get _ e fun hm => by
    have q : (H b).isSome = true := (List.mem_filter.mp hm).2
    rw [n] at q; simp at q
theorem of_hidT {h : Heap} {H : Hp} {b : Addr} {o : Obj} (e : (hidT h H).get? b = some o) : h.get? b = some o ∧ H b = none := by
  have e' : h.get? b = some o := PySem.W.of_hideAll (trk h H) e
  refine ⟨e', ?_⟩
  cases q : H b with
  | none => rfl
  | some x =>
    have hm : b ∈ trk h H := List.mem_filter.mpr ⟨List.mem_range.mpr (Heap.lt_size e'), by simp [q]⟩
    have z : (hidT h H).get? b = none := PySem.W.hideAll_none (trk h H) hm
    rw [z] at e; cases e
def allNews (g h : Heap) (L : Addr) : List (Addr × Obj) := (List.range h.objs.size).filterMap fun a => if a = L ∨ (g.get? a).isSome = true then none else (h.get? a).map fun o => (a, o)
def rest (g h : Heap) (L d : Addr) : List (Addr × Obj) := (allNews g h L).filter fun p => decide (p.1 ≠ d)
end L2
namespace L2
open PySem PySem.Spec PyProof.Rows
structure Mod (K : PySem.W.Frag) (mg : Str → Option Value) (base : Heap) : Prop where
  kin : K.In base
  glob : base.Ns mainGlobals mg
  blt : ∃ mb, base.Ns builtinsNs mb ∧ ∀ x : Str, x ≠ "__name__" → mb x = bootBuiltins x
  nolimit : base.NoLimit
structure Cx where
  prog : Program
  w : World
  K : PySem.W.Frag
  mg : Str → Option Value
  base : Heap
  A : Around
  N : List Str
  s₀ : Shared
  H₀ : Hp
  env : Env
  outer : List Env
  stack : List Env
  ex : List Addr
  fn : Str → Bool
  calm : Bool
  pn : List (Addr × Obj)
  xe : Value → Shared → Prop
def frs (l : List Env) : List Addr := l.filterMap (·.frame)
abbrev Cx.fs (X : Cx) : List Addr := frs X.outer
def Vis (sc : Scope) (x : Str) : Prop := sc.names.lookup x = some .local ∨ sc.names.lookup x = some .cell ∨ sc.names.lookup x = some .free
def Loc (sc : Scope) (x : Str) : Prop := sc.names.lookup x = some .local ∨ sc.names.lookup x = some .cell
def Look (env : Env) (h : Heap) (m : Str → Option Value) (x : Str) (u : Value) : Prop :=
  (env.kindOf x = some .local ∧ m x = some u) ∨ ((env.kindOf x = some .cell ∨ env.kindOf x = some .free) ∧ ∃ c, env.cells.lookup x = some c ∧ h.IsCell c (some u))
structure Cx.Ok (X : Cx) : Prop where
  mod : Mod X.K X.mg X.base
  kind : X.env.scope.kind = .function
  glob : X.env.globals = mainGlobals
  blt : X.env.builtins = builtinsNs
  above : X.s₀.heap.objs.size ≤ X.env.locals
  inj : ∀ x y c, X.env.cells.lookup x = some c → X.env.cells.lookup y = some c → x = y
  has : ∀ x, (X.env.kindOf x = some .cell ∨ X.env.kindOf x = some .free) → ∃ c, X.env.cells.lookup x = some c
  cab : ∀ x c, X.fn x = true → X.env.cells.lookup x = some c → X.s₀.heap.objs.size ≤ c
  hd : X.calm = true → X.A.handled = none
  frames : X.A.frames = some X.stack
  stk : X.stack = X.outer ∨ (X.stack = X.env :: X.outer ∧ X.env.frame = some X.env.locals)
  exf : ∀ b ∈ X.ex, b ≠ X.env.locals ∧ ∀ x c, X.env.cells.lookup x = some c → c ≠ b
  bs : ∀ b o, X.base.get? b = some o → X.s₀.heap.get? b = some o ∧ X.H₀ b = none
  bsz : X.base.objs.size ≤ X.s₀.heap.objs.size
  noex : ∀ b o, X.base.get? b = some o → b ∉ X.ex
  exfs : ∀ b ∈ X.ex, b ∉ X.fs
  funs : X.s₀.heap.FunFrames X.base X.outer
  frf : ∀ b ∈ X.fs, X.H₀ b = none
structure Inv (X : Cx) (pins : List (Addr × Obj)) (σ : List (Option V)) (H : Hp) (s : Shared) : Prop where
  ok : X.Ok
  os : s.os = X.s₀.os
  bare : AllBare s.gens
  base : Un X.fs X.ex X.H₀ H X.s₀.heap s.heap
  loc : ∃ m, s.heap.Ns X.env.locals m ∧ ∀ (i : Nat) (x : Str) (v : V), X.N[i]? = some x → σ[i]? = some (some v) → Vis X.env.scope x → ∃ u, RelV v u ∧ Look X.env s.heap m x u
  cell : ∀ x c, X.env.cells.lookup x = some c → ∃ v, s.heap.IsCell c v
  free : H X.env.locals = none
  freeC : ∀ x c, X.env.cells.lookup x = some c → H c = none
  pin : ∀ p ∈ X.pn ++ pins, s.heap.get? p.1 = some p.2 ∧ H p.1 = none ∧ p.1 ≠ X.env.locals ∧ p.1 ∉ X.fs ∧ ∀ v, p.2.data ≠ .cell v
  hok : HOk X.prog X.w H s.heap
  len : σ.length = X.N.length
section
variable {X : Cx} {pins : List (Addr × Obj)} {σ : List (Option V)} {H H' : Hp} {s : Shared} {h' : Heap}
theorem Cx.Ok.nofr (ok : X.Ok) {b : Addr} {o : Obj} (e : X.base.get? b = some o) : b ∉ X.fs := fun hb => by
  have := (ok.funs.mem hb).1
  rw [e] at this; cases this
theorem Inv.bs (I : Inv X pins σ H s) : ∀ b o, X.base.get? b = some o → s.heap.get? b = some o ∧ H b = none := fun b o e =>
  ⟨I.base.keep b o (I.ok.bs b o e).1 (I.ok.bs b o e).2 (I.ok.nofr e) (I.ok.noex b o e), I.base.free b o (I.ok.bs b o e).1 (I.ok.bs b o e).2 (I.ok.noex b o e)⟩
theorem Inv.bk (I : Inv X pins σ H s) : ∀ b o, X.base.get? b = some o → s.heap.get? b = some o := fun b o e => (I.bs b o e).1
theorem Inv.mod (I : Inv X pins σ H s) : Mod X.K X.mg X.base := I.ok.mod
theorem Inv.kIn (I : Inv X pins σ H s) : X.K.In s.heap := I.ok.mod.kin.keeps I.bk
theorem Inv.nolimit (I : Inv X pins σ H s) : s.heap.NoLimit := I.ok.mod.nolimit.keeps I.bk
theorem Inv.lt (I : Inv X pins σ H s) : X.env.locals < s.heap.objs.size := let ⟨_, hn, _⟩ := I.loc; hn.lt
theorem Inv.sz (I : Inv X pins σ H s) : X.s₀.heap.objs.size ≤ s.heap.objs.size := Nat.le_trans I.ok.above (Nat.le_of_lt I.lt)
theorem Inv.nofs (I : Inv X pins σ H s) {a : Addr} (h : s.heap.objs.size ≤ a) : a ∉ X.fs := fun hb => by
  obtain ⟨_, o, ho, _⟩ := I.ok.funs.mem hb
  exact absurd (Nat.lt_of_lt_of_le (Heap.lt_size ho) (Nat.le_trans I.sz h)) (Nat.lt_irrefl _)
theorem Inv.cne (I : Inv X pins σ H s) : ∀ x c, X.env.cells.lookup x = some c → c ≠ X.env.locals := fun x c e z => by
  obtain ⟨v, o, ho, hd⟩ := I.cell x c e
  obtain ⟨m, ⟨o', es, ep, ho', hd', _⟩, _⟩ := I.loc
  rw [z, ho'] at ho; cases ho; rw [hd'] at hd; cases hd
theorem Inv.funs (I : Inv X pins σ H s) : s.heap.FunFrames X.base X.outer := by
  have all : ∀ (l : List Env), (∀ b ∈ frs l, b ∈ X.fs) → X.s₀.heap.FunFrames X.base l → s.heap.FunFrames X.base l := by
    intro l
    induction l with
    | nil => intro _ _; trivial
    | cons env r ih =>
      intro hs hl
      obtain ⟨hk, ⟨L, o, hf, hn, ho, hd⟩, hr⟩ := hl
      have hL : L ∈ X.fs := hs L (by unfold frs; rw [List.filterMap_cons, hf]; exact List.mem_cons_self)
      obtain ⟨sl, e⟩ := I.base.slot L o ho (I.ok.frf L hL) hL fun z => I.ok.exfs L z hL
      exact ⟨hk, ⟨L, _, hf, hn, e, hd⟩, ih (fun b hb => hs b (by unfold frs; rw [List.filterMap_cons, hf]; exact List.mem_cons_of_mem _ hb)) hr⟩
  exact all X.outer (fun _ hb => hb) I.ok.funs
theorem Inv.stack (I : Inv X pins σ H s) : s.heap.FunFrames X.base X.stack := by
  rcases I.ok.stk with e | ⟨e, hf⟩
  · rw [e]; exact I.funs
  · rw [e]
    obtain ⟨m, hn, _⟩ := I.loc
    refine .cons (by rw [I.ok.kind]; decide) hf hn ?_ I.funs
    exact Heap.get?_none_of_le (Nat.le_trans I.ok.bsz I.ok.above)
theorem Inv.stkSub (I : Inv X pins σ H s) : ∀ b ∈ frs X.stack, b ∈ X.env.locals :: X.fs := fun b hb => by
  rcases I.ok.stk with e | ⟨e, hf⟩
  · rw [e] at hb; exact List.mem_cons_of_mem _ hb
  · rw [e] at hb
    unfold frs at hb
    rw [List.filterMap_cons, hf] at hb
    exact hb
theorem Inv.stkFree (I : Inv X pins σ H s) : ∀ b ∈ frs X.stack, H b = none := fun b hb => by
  rcases List.mem_cons.mp (I.stkSub b hb) with e | hb
  · rw [e]; exact I.free
  · obtain ⟨_, o, ho, _⟩ := I.ok.funs.mem hb
    exact I.base.free b o ho (I.ok.frf b hb) fun z => I.ok.exfs b z hb
theorem Inv.step {g' : Array GenState} {t' : Nat} {d' : Drawn} {ch : List Addr} (I : Inv X pins σ H s)
    (hch : ∀ b ∈ ch, (b ∈ X.ex ∨ X.s₀.heap.objs.size ≤ b) ∧ b ≠ X.env.locals ∧ (∀ x c, X.env.cells.lookup x = some c → c ≠ b) ∧ ∀ p ∈ X.pn ++ pins, p.1 ≠ b)
    (keep : ∀ b o, b ≠ X.env.locals → b ∉ X.fs → b ∉ ch → s.heap.get? b = some o → H b = none → h'.get? b = some o)
    (slot : ∀ b o, b ≠ X.env.locals → b ∈ X.fs → b ∉ ch → s.heap.get? b = some o → H b = none → ∃ sl, h'.get? b = some { o with slots := sl }) (free : ∀ b o, b ∉ ch → s.heap.get? b = some o → H b = none → H' b = none)
    (there : ∀ b o, b ∉ ch → s.heap.get? b = some o → ∃ o', h'.get? b = some o')
    (tups : ∀ b xs, H b = some (.tup xs) → H' b = some (.tup xs)) (frzs : ∀ b o u, H b = some (.frz o u) → H' b = some (.frz o u)) (tbls : ∀ b ps, H b = some (.tbl ps) → ∃ more, H' b = some (.tbl (ps ++ more)))
    (ns : ∀ m, s.heap.Ns X.env.locals m → h'.Ns X.env.locals m) (hok : HOk X.prog X.w H' h') (hg : AllBare g') :
    Inv X pins σ H' { s with heap := h', gens := g', drawn := d', toks := t' } := by
  have neL : ∀ b o, X.s₀.heap.get? b = some o → b ≠ X.env.locals := fun b o e => Nat.ne_of_lt (Nat.lt_of_lt_of_le (Heap.lt_size e) I.ok.above)
  have neC : ∀ b o, X.s₀.heap.get? b = some o → b ∉ X.ex → b ∉ ch := fun b o e hx hb => by
    rcases (hch b hb).1 with z | z
    · exact hx z
    · exact absurd (Nat.lt_of_lt_of_le (Heap.lt_size e) z) (Nat.lt_irrefl _)
  have cellK : ∀ x c, X.env.cells.lookup x = some c → ∀ v, s.heap.IsCell c v → h'.IsCell c v := fun x c e v ⟨o, ho, hd⟩ => by
    have nch : c ∉ ch := fun z => (hch c z).2.2.1 x c e rfl
    by_cases hc : c ∈ X.fs
    · obtain ⟨sl, q⟩ := slot c o (I.cne x c e) hc nch ho (I.freeC x c e)
      exact ⟨_, q, hd⟩
    · exact ⟨o, keep c o (I.cne x c e) hc nch ho (I.freeC x c e), hd⟩
  refine ⟨I.ok, I.os, hg, ⟨fun b o e n hb hx => ?_, fun b o e n hb hx => ?_, fun b o e n hx => ?_, fun b o e hx => ?_, fun b xs e => tups b xs (I.base.tups b xs e), fun b o xs e => frzs b o xs (I.base.frzs b o xs e), fun b ps e => ?_⟩, ?_, fun x c e => ?_, ?_, fun x c e => ?_, fun p hp => ?_, hok, I.len⟩
  · exact keep b o (neL b o e) hb (neC b o e hx) (I.base.keep b o e n hb hx) (I.base.free b o e n hx)
  · obtain ⟨sl, e1⟩ := I.base.slot b o e n hb hx
    obtain ⟨sl', e2⟩ := slot b _ (neL b o e) hb (neC b o e hx) e1 (I.base.free b o e n hx)
    exact ⟨sl', e2⟩
  · obtain ⟨o', e1⟩ := I.base.there b o e hx
    exact free b o' (neC b o e hx) e1 (I.base.free b o e n hx)
  · obtain ⟨o', e1⟩ := I.base.there b o e hx
    exact there b o' (neC b o e hx) e1
  · obtain ⟨m1, e1⟩ := I.base.tbls b ps e
    obtain ⟨m2, e2⟩ := tbls b _ e1
    exact ⟨m1 ++ m2, by rw [e2, Array.append_assoc]⟩
  · obtain ⟨m, hn, hl⟩ := I.loc
    refine ⟨m, ns m hn, fun i x v e1 e2 e3 => ?_⟩
    obtain ⟨u, r, l⟩ := hl i x v e1 e2 e3
    refine ⟨u, r, ?_⟩
    rcases l with l | ⟨k, c, e, z⟩
    · exact .inl l
    · exact .inr ⟨k, c, e, cellK x c e _ z⟩
  · obtain ⟨v, z⟩ := I.cell x c e
    exact ⟨v, cellK x c e v z⟩
  · obtain ⟨m, ⟨o, _, _, ho, _⟩, _⟩ := I.loc
    exact free _ o (fun z => (hch _ z).2.1 rfl) ho I.free
  · obtain ⟨v, o, ho, hd⟩ := I.cell x c e
    exact free c o (fun z => (hch c z).2.2.1 x c e rfl) ho (I.freeC x c e)
  · obtain ⟨e, n, ne, nf, d⟩ := I.pin p hp
    have nch : p.1 ∉ ch := fun z => (hch p.1 z).2.2.2 p hp rfl
    exact ⟨keep p.1 p.2 ne nf nch e n, free p.1 p.2 nch e n, ne, nf, d⟩
theorem Inv.un {t' : Nat} (I : Inv X pins σ H s) (u : Un X.fs [] H H' s.heap h') (hok : HOk X.prog X.w H' h') : Inv X pins σ H' { s with heap := h', toks := t' } := by
  obtain ⟨m, ⟨o, es, ep, ho, r⟩, _⟩ := id I.loc
  obtain ⟨sl, hL⟩ := u.any ho I.free (by simp)
  exact I.step (g' := s.gens) (d' := s.drawn) (ch := []) (fun _ z => nomatch z) (fun b o _ hb _ e n => u.keep b o e n hb (by simp)) (fun b o _ hb _ e n => u.slot b o e n hb (by simp)) (fun b o _ e n => u.free b o e n (by simp)) (fun b o _ e => u.there b o e (by simp)) u.tups u.frzs u.tbls (fun m' hm => by
    obtain ⟨o', es', ep', ho', r'⟩ := hm
    rw [ho] at ho'; cases ho'
    exact ⟨_, es', ep', hL, r'⟩) hok I.bare
theorem Inv.call {g' : Array GenState} {t' : Nat} {d' : Drawn} {ch : List Addr} (I : Inv X pins σ H s) (u : Un (frs X.stack) ch H H' s.heap h') (hok : HOk X.prog X.w H' h') (hg : AllBare g')
    (hch : ∀ b ∈ ch, (b ∈ X.ex ∨ X.s₀.heap.objs.size ≤ b) ∧ b ≠ X.env.locals ∧ (∀ x c, X.env.cells.lookup x = some c → c ≠ b) ∧ ∀ p ∈ X.pn ++ pins, p.1 ≠ b) :
    Inv X pins σ H' { s with heap := h', gens := g', drawn := d', toks := t' } := by
  obtain ⟨m, ⟨o, es, ep, ho, r⟩, _⟩ := id I.loc
  obtain ⟨sl, hL⟩ := u.any ho I.free fun z => (hch _ z).2.1 rfl
  exact I.step (ch := ch) hch (fun b o hL hb hc e n => u.keep b o e n (fun z => (List.mem_cons.mp (I.stkSub b z)).elim hL hb) hc) (fun b o _ _ hc e n => u.any e n hc) (fun b o hc e n => u.free b o e n hc) (fun b o hc e => u.there b o e hc) u.tups u.frzs u.tbls (fun m' hm => by
    obtain ⟨o', es', ep', ho', r'⟩ := hm
    rw [ho] at ho'; cases ho'
    exact ⟨_, es', ep', hL, r'⟩) hok hg
theorem Inv.turned {t' : Nat} {it : Addr} (I : Inv X pins σ H s) (k : ∀ b o, b ≠ it → s.heap.get? b = some o → h'.get? b = some o) (hn : H it = none) (hL : it ≠ X.env.locals)
    (h1 : it ∈ X.ex ∨ X.s₀.heap.objs.size ≤ it) (h2 : ∀ x c, X.env.cells.lookup x = some c → c ≠ it) (h3 : ∀ p ∈ X.pn ++ pins, p.1 ≠ it) : Inv X pins σ H { s with heap := h', toks := t' } := by
  have nit : ∀ b u, H b = some u → b ≠ it := fun b u e z => by rw [z, hn] at e; cases e
  refine I.step (g' := s.gens) (d' := s.drawn) (ch := [it]) (fun b hb => ?_) (fun b o _ _ hc e _ => k b o (fun z => hc (by simp [z])) e) (fun b o _ _ hc e _ => ⟨o.slots, k b o (fun z => hc (by simp [z])) e⟩) (fun _ _ _ _ n => n)
    (fun b o hc e => ⟨o, k b o (fun z => hc (by simp [z])) e⟩) (fun _ _ e => e) (fun _ _ _ e => e) (fun b ps e => ⟨#[], by rw [e]; simp⟩) (fun m hm => ?_) (fun b u e => ?_) I.bare
  · have e : b = it := by simpa using hb
    subst e
    exact ⟨h1, hL, h2, h3⟩
  · obtain ⟨o, es, ep, ho, r⟩ := hm
    exact ⟨o, es, ep, k _ o (Ne.symm hL) ho, r⟩
  · refine (I.hok b u e).stay (fun c v hc q => k c v ?_ q) (fun _ q => q) fun _ _ q => q
    rcases hc with z | z
    · rw [z]; exact nit b u e
    · exact nit c _ z
theorem Inv.tok (I : Inv X pins σ H s) (t : Nat) : Inv X pins σ H { s with toks := t } := I.un (h' := s.heap) (t' := t) Un.refl I.hok
theorem Inv.kept {t' : Nat} (I : Inv X pins σ H s) (k : ∀ b u, s.heap.get? b = some u → h'.get? b = some u) : Inv X pins σ H { s with heap := h', toks := t' } := I.un (Un.kept k) (I.hok.kept k)
theorem Inv.laid {a : Addr} {o : HO} {t' : Nat} (I : Inv X pins σ H s) (k : ∀ b u, s.heap.get? b = some u → h'.get? b = some u) (hp : s.heap.objs.size ≤ a) (new : ObjOk X.prog X.w (upd H a o) h' a o) :
    Inv X pins σ (upd H a o) { s with heap := h', toks := t' } := I.un (Un.laid k hp (I.hok.fresh hp)) (I.hok.laid k hp new)
theorem Inv.write {x e : Addr} {o : HO} {t' : Nat} (I : Inv X pins σ H s) (mu : Mut (H x)) (he : e = x ∨ H e = some (.own x)) (k : ∀ b u, b ≠ e → s.heap.get? b = some u → h'.get? b = some u) (heo : ∃ u, h'.get? e = some u)
    (new : ObjOk X.prog X.w (upd H x o) h' x o) : Inv X pins σ (upd H x o) { s with heap := h', toks := t' } := I.un (Un.write mu he k heo) (I.hok.write mu he k heo new)
theorem Inv.pins_of {pins' : List (Addr × Obj)} (I : Inv X pins σ H s) (h : ∀ p ∈ pins', s.heap.get? p.1 = some p.2 ∧ H p.1 = none ∧ p.1 ≠ X.env.locals ∧ p.1 ∉ X.fs ∧ ∀ v, p.2.data ≠ .cell v) : Inv X pins' σ H s :=
  ⟨I.ok, I.os, I.bare, I.base, I.loc, I.cell, I.free, I.freeC, fun p hp => (List.mem_append.mp hp).elim (fun z => I.pin p (List.mem_append_left _ z)) (h p), I.hok, I.len⟩
theorem nodup_ix {N : List Str} (hN : N.Nodup) {i j : Nat} {x : Str} (a : N[i]? = some x) (b : N[j]? = some x) : i = j := by
  obtain ⟨h1, e1⟩ := List.getElem?_eq_some_iff.mp a
  obtain ⟨h2, e2⟩ := List.getElem?_eq_some_iff.mp b
  exact (List.getElem_inj hN).mp (e1.trans e2.symm)
theorem store_ok2 {M : Model} {A : Around} {E : Value → Shared → Prop} {i : Nat} {x : Str} {v : V} {u : Value} {Q : Unit → Shared → Prop} (I : Inv X pins σ H s) (hN : X.N.Nodup) (hi : X.N[i]? = some x) (hx : Loc X.env.scope x) (r : RelV v u)
    (h : ∀ s', Inv X pins (σ.set i (some v)) H s' → (∃ a, Heap.SameBut a s.heap s'.heap ∧ (a = X.env.locals ∨ X.env.cells.lookup x = some a)) → Q () s') (hf : X.fn x = true ∨ X.env.scope.names.lookup x = some .local := by first | exact .inl rfl | exact .inr rfl | assumption) : wpAny M A (storeName X.env x u) Q E s := by
  obtain ⟨m, hn, hl⟩ := id I.loc
  have hcls : (X.env.scope.kind == .class || (X.env.scope.kind == .module && X.env.locals != X.env.globals)) = false := by rw [I.ok.kind]; rfl
  have hiσ : i < σ.length := by rw [I.len]; exact (List.getElem?_eq_some_iff.mp hi).1
  have cne := I.cne
  have tracked : ∀ {a : Addr} {h' : Heap}, (∃ o, s.heap.get? a = some o ∧ H a = none) → Heap.SameBut a s.heap h' → HOk X.prog X.w H h' := fun {a h'} ha hs b ob e => by
    obtain ⟨_, _, hfree⟩ := ha
    refine (I.hok b ob e).stay (fun c w' hc q => (hs.2 c ?_).trans q) (fun _ q => q) fun _ _ q => q
    rintro rfl
    rcases hc with rfl | hc
    · rw [hfree] at e; cases e
    · rw [hfree] at hc; cases hc
  rcases hx with hk | hk
  · refine wpAny_storeName_local hk hn (fun h' hn' hs => ?_) hcls
    obtain ⟨oL, _, _, hoL, _⟩ := id hn
    refine h _ ⟨I.ok, I.os, I.bare, ⟨fun b o e n hb hx => ?_, fun b o e n hb hx => ?_, I.base.free, fun b o e hx => ?_, I.base.tups, I.base.frzs, I.base.tbls⟩, ⟨_, hn', fun j y v' e1 e2 e3 => ?_⟩, fun y c e => ?_, I.free, I.freeC, fun p hp => ?_, tracked ⟨oL, hoL, I.free⟩ hs, by simpa using I.len⟩ ⟨_, hs, .inl rfl⟩
    · exact (hs.2 b (Nat.ne_of_lt (Nat.lt_of_lt_of_le (Heap.lt_size e) I.ok.above))).trans (I.base.keep b o e n hb hx)
    · obtain ⟨sl, e1⟩ := I.base.slot b o e n hb hx
      exact ⟨sl, (hs.2 b (Nat.ne_of_lt (Nat.lt_of_lt_of_le (Heap.lt_size e) I.ok.above))).trans e1⟩
    · obtain ⟨o', e1⟩ := I.base.there b o e hx
      exact ⟨o', (hs.2 b (Nat.ne_of_lt (Nat.lt_of_lt_of_le (Heap.lt_size e) I.ok.above))).trans e1⟩
    · by_cases hj : j = i
      · subst hj
        rw [hi] at e1; cases e1
        rw [List.getElem?_set_self hiσ] at e2
        cases e2
        exact ⟨u, r, .inl ⟨hk, by simp⟩⟩
      · rw [List.getElem?_set_ne (Ne.symm hj)] at e2
        obtain ⟨u', r', q⟩ := hl j y v' e1 e2 e3
        refine ⟨u', r', ?_⟩
        rcases q with ⟨k, e⟩ | ⟨k, c, e, z⟩
        · refine .inl ⟨k, ?_⟩
          have : y ≠ x := fun e => hj (nodup_ix hN e1 (e ▸ hi))
          simp [this, e]
        · exact .inr ⟨k, c, e, z.sameBut hs (cne y c e)⟩
    · obtain ⟨w', z⟩ := I.cell y c e
      exact ⟨w', z.sameBut hs (cne y c e)⟩
    · obtain ⟨e, n, ne, nf, d⟩ := I.pin p hp
      exact ⟨(hs.2 p.1 ne).trans e, n, ne, nf, d⟩
  · have hfn : X.fn x = true := by
      rcases hf with z | z
      · exact z
      · rw [z] at hk; cases hk
    obtain ⟨c, hc⟩ := I.ok.has x (.inl hk)
    obtain ⟨w', z⟩ := I.cell x c hc
    refine wpAny_storeName_cell I.ok.kind hk hc z (fun h' hc' hs => ?_)
    obtain ⟨oc, hoc, hocd⟩ := id z
    refine h { s with heap := h' } ⟨I.ok, I.os, I.bare, ⟨fun b o e n hb hx => ?_, fun b o e n hb hx => ?_, I.base.free, fun b o e hx => ?_, I.base.tups, I.base.frzs, I.base.tbls⟩, ⟨m, hn.sameBut hs (Ne.symm (cne x c hc)), fun j y v' e1 e2 e3 => ?_⟩, fun y c' e => ?_, I.free, I.freeC, fun p hp => ?_, tracked ⟨oc, hoc, I.freeC x c hc⟩ hs, by simpa using I.len⟩ ⟨c, hs, .inr hc⟩
    · exact (hs.2 b (Nat.ne_of_lt (Nat.lt_of_lt_of_le (Heap.lt_size e) (I.ok.cab x c hfn hc)))).trans (I.base.keep b o e n hb hx)
    · obtain ⟨sl, e1⟩ := I.base.slot b o e n hb hx
      exact ⟨sl, (hs.2 b (Nat.ne_of_lt (Nat.lt_of_lt_of_le (Heap.lt_size e) (I.ok.cab x c hfn hc)))).trans e1⟩
    · obtain ⟨o', e1⟩ := I.base.there b o e hx
      exact ⟨o', (hs.2 b (Nat.ne_of_lt (Nat.lt_of_lt_of_le (Heap.lt_size e) (I.ok.cab x c hfn hc)))).trans e1⟩
    · by_cases hj : j = i
      · subst hj
        rw [hi] at e1; cases e1
        rw [List.getElem?_set_self hiσ] at e2
        cases e2
        exact ⟨u, r, .inr ⟨.inl hk, c, hc, hc'⟩⟩
      · rw [List.getElem?_set_ne (Ne.symm hj)] at e2
        obtain ⟨u', r', q⟩ := hl j y v' e1 e2 e3
        refine ⟨u', r', ?_⟩
        rcases q with q | ⟨k, c', e, z'⟩
        · exact .inl q
        · refine .inr ⟨k, c', e, z'.sameBut hs ?_⟩
          rintro rfl
          exact hj (nodup_ix hN e1 (I.ok.inj _ _ _ e hc ▸ hi))
    · by_cases hcc : c' = c
      · subst hcc; exact ⟨_, hc'⟩
      · obtain ⟨w2, z2⟩ := I.cell y c' e
        exact ⟨w2, z2.sameBut hs hcc⟩
    · obtain ⟨e, n, ne, nf, d⟩ := I.pin p hp
      refine ⟨(hs.2 p.1 ?_).trans e, n, ne, nf, d⟩
      intro q
      rw [q, hoc] at e
      have q' : oc = p.2 := Option.some.inj e
      exact d w' (by rw [← q']; exact hocd)
theorem store_ok {M : Model} {A : Around} {E : Value → Shared → Prop} {i : Nat} {x : Str} {v : V} {u : Value} {Q : Unit → Shared → Prop} (I : Inv X pins σ H s) (hN : X.N.Nodup) (hi : X.N[i]? = some x) (hx : Loc X.env.scope x) (r : RelV v u)
    (h : ∀ s', Inv X pins (σ.set i (some v)) H s' → Q () s') (hf : X.fn x = true ∨ X.env.scope.names.lookup x = some .local := by first | exact .inl rfl | exact .inr rfl | assumption) : wpAny M A (storeName X.env x u) Q E s :=
  store_ok2 I hN hi hx r (fun s' I' _ => h s' I') hf
theorem Inv.call' {s' : Shared} {ch : List Addr} (I : Inv X pins σ H s) (ho : s'.os = s.os) (u : Un (frs X.stack) ch H H' s.heap s'.heap) (hok : HOk X.prog X.w H' s'.heap) (hg : AllBare s'.gens)
    (hch : ∀ b ∈ ch, (b ∈ X.ex ∨ X.s₀.heap.objs.size ≤ b) ∧ b ≠ X.env.locals ∧ (∀ x c, X.env.cells.lookup x = some c → c ≠ b) ∧ ∀ p ∈ X.pn ++ pins, p.1 ≠ b) : Inv X pins σ H' s' := by
  obtain ⟨h', g', d', t', o'⟩ := s'
  have e : o' = s.os := ho
  subst e
  exact I.call (g' := g') (t' := t') (d' := d') u hok hg hch
end
abbrev XK := Value → Option Addr → Hp → Prop
abbrev St := List (Option V)
abbrev VK := V → Hp → Prop
abbrev TE := St → Hp → VK → Prop
abbrev TT := St → Hp → (Bool → Hp → Prop) → Prop
abbrev TA := St → Hp → (List V → Hp → Prop) → Prop
structure Ends where
  nx : St → Hp → Prop
  rt : VK
  bk : St → Hp → Prop := fun _ _ => False
  ct : St → Hp → Prop := fun _ _ => False
abbrev TS := Ends → St → Hp → Prop
def EP (X : Cx) (pins : List (Addr × Obj)) (σ : St) (Q : VK) (u : Value) (s' : Shared) : Prop := ∃ v H', Inv X pins σ H' s' ∧ RelV v u ∧ Q v H'
def TP (X : Cx) (pins : List (Addr × Obj)) (σ : St) (Q : Bool → Hp → Prop) (b : Bool) (s' : Shared) : Prop := ∃ H', Inv X pins σ H' s' ∧ Q b H'
def AP (X : Cx) (pins : List (Addr × Obj)) (σ : St) (Q : List V → Hp → Prop) (us : List Value) (s' : Shared) : Prop := ∃ vs H', Inv X pins σ H' s' ∧ Vals vs us ∧ Q vs H'
def SP (X : Cx) (pins : List (Addr × Obj)) (D : Ends) (f : Flow) (s' : Shared) : Prop :=
  match f with
  | .next => ∃ σ' H', Inv X pins σ' H' s' ∧ D.nx σ' H'
  | .brk => ∃ σ' H', Inv X pins σ' H' s' ∧ D.bk σ' H'
  | .cont => ∃ σ' H', Inv X pins σ' H' s' ∧ D.ct σ' H'
  | .ret u => ∃ v σ' H', Inv X pins σ' H' s' ∧ RelV v u ∧ D.rt v H'
def PE (X : Cx) (e : Expr) (t : TE) : Prop :=
  ∀ (pins : List (Addr × Obj)) (s : Shared) (σ : St) (H : Hp) (Q : VK), Inv X pins σ H s → t σ H Q → wpAny (model X.prog X.w) X.A (eval e X.env) (EP X pins σ Q) X.xe s
def PT (X : Cx) (e : Expr) (t : TT) : Prop :=
  ∀ (pins : List (Addr × Obj)) (s : Shared) (σ : St) (H : Hp) (Q : Bool → Hp → Prop), Inv X pins σ H s → t σ H Q → wpAny (model X.prog X.w) X.A (isTrue e X.env (eval e X.env)) (TP X pins σ Q) X.xe s
def PW (X : Cx) (e : Expr) (t : TT) : Prop :=
  ∀ (whole : Sem Value) (pins : List (Addr × Obj)) (s : Shared) (σ : St) (H : Hp) (Q : Bool → Hp → Prop), Inv X pins σ H s → t σ H Q → wpAny (model X.prog X.w) X.A (isTrue e X.env whole) (TP X pins σ Q) X.xe s
theorem PW.pt {X : Cx} {e : Expr} {t : TT} (h : PW X e t) : PT X e t := h _
def PA (X : Cx) (es : List Expr) (t : TA) : Prop :=
  ∀ (pos : Pos) (pins : List (Addr × Obj)) (s : Shared) (σ : St) (H : Hp) (Q : List V → Hp → Prop), Inv X pins σ H s → t σ H Q → wpAny (model X.prog X.w) X.A (spliced (backTo pos (starEach es X.env))) (AP X pins σ Q) X.xe s
def PS (X : Cx) (st : Stmt) (t : TS) : Prop :=
  ∀ (pins : List (Addr × Obj)) (s : Shared) (σ : St) (H : Hp) (D : Ends), Inv X pins σ H s → t D σ H → wpAny (model X.prog X.w) X.A (exec st X.env) (SP X pins D) X.xe s
def PSs (X : Cx) (st : List Stmt) (t : TS) : Prop :=
  ∀ (pins : List (Addr × Obj)) (s : Shared) (σ : St) (H : Hp) (D : Ends), Inv X pins σ H s → t D σ H → wpAny (model X.prog X.w) X.A (execs st X.env) (SP X pins D) X.xe s
theorem thn {α : Type} {t : Sem α} {Q Q' : α → Shared → Prop} {M : Model} {A : Around} {E : Value → Shared → Prop} {s : Shared} (h : wpAny M A t Q E s) (hQ : ∀ a s, Q a s → Q' a s) : wpAny M A t Q' E s := wpAny_mono h hQ fun _ _ x => x
end L2
namespace L2
open PySem PySem.Spec PyProof.Rows
section
variable {X : Cx}
theorem bin {a b : Expr} {ta tb : TE} (ha : PE X a ta) (hb : PE X b tb) {pins : List (Addr × Obj)} {s : Shared} {σ : St} {H : Hp} {R : V → V → Hp → Prop} (I : Inv X pins σ H s) (h : ta σ H fun x H1 => tb σ H1 fun y H2 => R x y H2)
    {α : Type} {Q : α → Shared → Prop} {f : Value → Value → Sem α}
    (hf : ∀ v u s2 x y H2, Inv X pins σ H2 s2 → RelV x v → RelV y u → R x y H2 → wpAny (model X.prog X.w) X.A (f v u) Q X.xe s2) :
    wpAny (model X.prog X.w) X.A (eval a X.env) (fun v s₁ => wpAny (model X.prog X.w) X.A (eval b X.env) (fun u s₂ => wpAny (model X.prog X.w) X.A (f v u) Q X.xe s₂) X.xe s₁) X.xe s := by
  refine thn (ha pins s σ H _ I h) fun v s1 ⟨x, H1, I1, r1, q1⟩ => ?_
  refine thn (hb pins s1 σ H1 _ I1 q1) fun u s2 ⟨y, H2, I2, r2, q2⟩ => ?_
  exact hf v u s2 x y H2 I2 r1 r2 q2
def tVar (i : Nat) : TE := fun σ H Q => ∃ v, σ[i]? = some (some v) ∧ Q v H
def tC (v : V) : TE := fun _ H Q => Q v H
theorem pe_var {i : Nat} {x : Str} {pos : Pos} (hN : X.N[i]? = some x) (hv : Vis X.env.scope x) (hd : (x == ("__debug__" : Str)) = false := by decide) (hcd : (x == ("__classdict__" : Str)) = false := by decide) : PE X (.Name x pos) (tVar i) := by
  intro pins s σ H Q I h
  obtain ⟨v, e, h⟩ := h
  obtain ⟨m, hn, hl⟩ := I.loc
  obtain ⟨u, r, l⟩ := hl i x v hN e hv
  have fin : EP X pins σ Q u s := ⟨v, H, I, r, h⟩
  rcases l with ⟨hk, hm⟩ | ⟨hk, c, hc, hcell⟩
  · exact wpAny_Name (wpAny_loadName_local I.ok.kind hk hn hm fin) hd
  · rcases hk with hk | hk
    · exact wpAny_Name (wpAny_loadName_cell I.ok.kind hk hc hcell fin) hd
    · exact wpAny_Name (wpAny_loadName_free I.ok.kind hk hc hcell fin hcd) hd
theorem pe_int {i j pos} : PE X (.Constant (.int i) j pos) (tC (.int i)) := fun _ _ _ H _ I h => wpAny_Constant_int ⟨.int i, H, I.tok _, ⟨_, rfl⟩, h⟩
theorem pe_bl {b j pos} : PE X (.Constant (.bool b) j pos) (tC (.bl b)) := fun _ _ _ H _ I h => Constant_bool ⟨.bl b, H, I, rfl, h⟩
theorem pe_non {j pos} : PE X (.Constant .none j pos) (tC .non) := fun _ _ _ H _ I h => Constant_none ⟨.non, H, I, rfl, h⟩
theorem pe_str {x j pos} : PE X (.Constant (.str x) j pos) (tC (.str x)) := fun _ _ _ H _ I h => Calls.Constant_str ⟨.str x, H, I.tok _, ⟨_, rfl⟩, h⟩
def Gl (X : Cx) (x : Str) : Prop := X.env.kindOf x = some .globalImplicit
theorem ld_glob {E : Value → Shared → Prop} {pins : List (Addr × Obj)} {s : Shared} {σ : St} {H : Hp} {x : Str} {u : Value} {pos : Pos} {Q : Value → Shared → Prop} (I : Inv X pins σ H s) (hg : Gl X x) (hm : X.mg x = some u) (h : Q u s)
    (hd : (x == ("__debug__" : Str)) = false := by decide) : wpAny (model X.prog X.w) X.A (eval (.Name x pos) X.env) Q E s :=
  Calls.Name_function_global I.ok.kind hg (Calls.loadGlobal_global (by rw [I.ok.glob]; exact I.mod.glob.keeps I.bk) hm h) hd
theorem ld_blt {E : Value → Shared → Prop} {pins : List (Addr × Obj)} {s : Shared} {σ : St} {H : Hp} {x : Str} {u : Value} {pos : Pos} {Q : Value → Shared → Prop} (I : Inv X pins σ H s) (hg : Gl X x) (hm : X.mg x = none) (hv : bootBuiltins x = some u) (h : Q u s)
    (hn : x ≠ "__name__" := by decide) (hd : (x == ("__debug__" : Str)) = false := by decide) : wpAny (model X.prog X.w) X.A (eval (.Name x pos) X.env) Q E s := by
  obtain ⟨mb, h1, h2⟩ := I.mod.blt
  exact Calls.Name_function_global I.ok.kind hg (Calls.loadGlobal_builtin (by rw [I.ok.glob]; exact I.mod.glob.keeps I.bk) hm (by rw [I.ok.blt]; exact h1.keeps I.bk) ((h2 x hn).trans hv) h) hd
theorem pe_glob {x : Str} {v : V} {u : Value} {pos : Pos} (hg : Gl X x) (hm : X.mg x = some u) (r : RelV v u) (hd : (x == ("__debug__" : Str)) = false := by decide) : PE X (.Name x pos) (tC v) :=
  fun _ _ _ H _ I h => ld_glob I hg hm ⟨v, H, I, r, h⟩ hd
theorem pe_bltn {x : Str} {v : V} {u : Value} {pos : Pos} (hg : Gl X x) (hm : X.mg x = none) (hv : bootBuiltins x = some u) (r : RelV v u) (hn : x ≠ "__name__" := by decide) (hd : (x == ("__debug__" : Str)) = false := by decide) : PE X (.Name x pos) (tC v) :=
  fun _ _ _ H _ I h => ld_blt I hg hm hv ⟨v, H, I, r, h⟩ hn hd
variable {a b : Expr} {ta tb : TE} {pos : Pos}
variable {tA tB' : TT} {rest : List Expr}
def tAnd (t u : TT) : TT := fun σ H Q => t σ H fun c H1 => if c = true then u σ H1 Q else Q false H1
def tOr (t u : TT) : TT := fun σ H Q => t σ H fun c H1 => if c = true then Q true H1 else u σ H1 Q
def tNot (t : TT) : TT := fun σ H Q => t σ H fun c H1 => Q (!c) H1
theorem pw_and1 (ha : PT X a tA) : PW X (.BoolOp .And [a] pos) tA := by
  intro wh pins s σ H Q I h
  refine isTrue_and (thn (ha pins s σ H Q I h) fun c s1 e => ?_)
  cases c with
  | true => exact isTrue_and_nil e
  | false => exact e
theorem pw_or1 (ha : PT X a tA) : PW X (.BoolOp .Or [a] pos) tA := by
  intro wh pins s σ H Q I h
  refine isTrue_or (thn (ha pins s σ H Q I h) fun c s1 e => ?_)
  cases c with
  | false => exact isTrue_or_nil e
  | true => exact e
theorem pw_and (ha : PT X a tA) (hb : PW X (.BoolOp .And (b :: rest) pos) tB') : PW X (.BoolOp .And (a :: b :: rest) pos) (tAnd tA tB') := by
  intro wh pins s σ H Q I h
  refine isTrue_and (thn (ha pins s σ H _ I h) fun c s1 ⟨H1, I1, q1⟩ => ?_)
  cases c with
  | true => exact hb wh pins s1 σ H1 Q I1 q1
  | false => exact ⟨H1, I1, q1⟩
theorem pw_or (ha : PT X a tA) (hb : PW X (.BoolOp .Or (b :: rest) pos) tB') : PW X (.BoolOp .Or (a :: b :: rest) pos) (tOr tA tB') := by
  intro wh pins s σ H Q I h
  refine isTrue_or (thn (ha pins s σ H _ I h) fun c s1 ⟨H1, I1, q1⟩ => ?_)
  cases c with
  | true => exact ⟨H1, I1, q1⟩
  | false => exact hb wh pins s1 σ H1 Q I1 q1
theorem pt_not (ha : PT X a tA) : PT X (.UnaryOp .Not a pos) (tNot tA) := by
  intro pins s σ H Q I h
  exact isTrue_not (ha pins s σ H (fun c H1 => Q (!c) H1) I h)
def tAndV (ta tb : TE) : TE := fun σ H Q => ta σ H fun x H1 => ∃ c, x = .bl c ∧ if c = true then tb σ H1 Q else Q (.bl false) H1
def tOrV (ta tb : TE) : TE := fun σ H Q => ta σ H fun x H1 => ∃ c, x = .bl c ∧ if c = true then Q (.bl true) H1 else tb σ H1 Q
def tNotV (ta : TE) : TE := fun σ H Q => ta σ H fun x H1 => ∃ c, x = .bl c ∧ Q (.bl (!c)) H1
theorem pe_one {op} {t : TE} (h : PE X a t) : PE X (.BoolOp op [a] pos) t := fun pins s σ H Q I hw => BoolOp_one (h pins s σ H Q I hw)
theorem pe_and (ha : PE X a ta) (hb : PE X (.BoolOp .And (b :: rest) pos) tb) : PE X (.BoolOp .And (a :: b :: rest) pos) (tAndV ta tb) := by
  intro pins s σ H Q I h
  refine BoolOp_and (thn (ha pins s σ H _ I h) fun v s1 ⟨x, H1, I1, r1, q1⟩ => ?_)
  obtain ⟨c, rfl, q1⟩ := q1
  cases r1
  refine wpAny_truthy_bool ?_
  cases c with
  | true => exact hb pins s1 σ H1 Q I1 q1
  | false => exact ⟨.bl false, H1, I1, rfl, q1⟩
theorem pe_or (ha : PE X a ta) (hb : PE X (.BoolOp .Or (b :: rest) pos) tb) : PE X (.BoolOp .Or (a :: b :: rest) pos) (tOrV ta tb) := by
  intro pins s σ H Q I h
  refine BoolOp_or (thn (ha pins s σ H _ I h) fun v s1 ⟨x, H1, I1, r1, q1⟩ => ?_)
  obtain ⟨c, rfl, q1⟩ := q1
  cases r1
  refine wpAny_truthy_bool ?_
  cases c with
  | false => exact hb pins s1 σ H1 Q I1 q1
  | true => exact ⟨.bl true, H1, I1, rfl, q1⟩
theorem pe_not (ha : PE X a ta) : PE X (.UnaryOp .Not a pos) (tNotV ta) := by
  intro pins s σ H Q I h
  refine UnaryOp_ (thn (ha pins s σ H _ I h) fun v s1 ⟨x, H1, I1, r1, q1⟩ => ?_)
  obtain ⟨c, rfl, q1⟩ := q1
  cases r1
  exact not_of (wpAny_truthy_bool ⟨.bl (!c), H1, I1, rfl, q1⟩)
def tIf (t : TT) (ta tb : TE) : TE := fun σ H Q => t σ H fun c H1 => if c = true then ta σ H1 Q else tb σ H1 Q
theorem pe_ifExp {c : Expr} (hc : PT X c tA) (ha : PE X a ta) (hb : PE X b tb) : PE X (.IfExp c a b pos) (tIf tA ta tb) := by
  intro pins s σ H Q I h
  refine wpAny_IfExp (thn (hc pins s σ H _ I h) fun d s1 ⟨H1, I1, q1⟩ => ?_)
  cases d with
  | true => exact ha pins s1 σ H1 Q I1 q1
  | false => exact hb pins s1 σ H1 Q I1 q1
end
end L2
namespace L2
open PySem PySem.Spec PyProof.Rows
def SqL (K : PySem.W.Frag) (H : Hp) (a : Addr) (xs : List V) : Prop :=
  Rd H a (.lst xs) ∨
    ∃ (o : Obj) (its : Array Value) (n : Nat), K.lookup a = some o ∧ o.cls = .type "list" ∧ o.dict = none ∧ o.data = .seq its n ∧ its.size ≤ sizeLine ∧ Vals xs its.toList
def SqT (K : PySem.W.Frag) (H : Hp) (a : Addr) (xs : List V) : Prop :=
  Rd H a (.tup xs) ∨
    ∃ (o : Obj) (its : Array Value) (n : Nat), K.lookup a = some o ∧ o.cls = .type "tuple" ∧ o.data = .seq its n ∧ its.size ≤ sizeLine ∧ Vals xs its.toList
def absV : Value → Option V
  | .none => some .non
  | .bool b => some (.bl b)
  | .int i _ => some (.int i)
  | .str x _ => some (.str x)
  | .bytes b _ => some (.byt b)
  | .float b _ => some (.flt b)
  | .ref a => some (.ref a)
  | .type n => some (.ty n)
  | _ => none
theorem RelV.abs {x : V} {u : Value} (r : RelV x u) : absV u = some x := by
  cases x with
  | non => cases r; rfl
  | bl _ => cases r; rfl
  | int _ => obtain ⟨t, rfl⟩ := r; rfl
  | str _ => obtain ⟨t, rfl⟩ := r; rfl
  | byt _ => obtain ⟨t, rfl⟩ := r; rfl
  | flt _ => obtain ⟨t, rfl⟩ := r; rfl
  | ref _ => cases r; rfl
  | ty _ => cases r; rfl
theorem RelV.inj {x y : V} {u : Value} (r : RelV x u) (q : RelV y u) : x = y := Option.some.inj (r.abs.symm.trans q.abs)
theorem Vals.inj : ∀ {xs ys : List V} {us : List Value}, Vals xs us → Vals ys us → xs = ys
  | _, _, _, .nil, .nil => rfl
  | _, _, _, .cons r t, .cons r' t' => by rw [r.inj r', Vals.inj t t']
section
variable {X : Cx} {pins : List (Addr × Obj)} {σ : St} {H : Hp} {s : Shared} {a : Addr} {xs ys : List V}
theorem SqL.of {K : PySem.W.Frag} (h : H a = some (.lst xs)) : SqL K H a xs := .inl (.inl h)
theorem SqT.of {K : PySem.W.Frag} (h : H a = some (.tup xs)) : SqT K H a xs := .inl (.inl h)
theorem Inv.list (I : Inv X pins σ H s) (h : SqL X.K H a xs) : ∃ its : List Value, Vals xs its ∧ PlainL s.heap a its.toArray ∧ xs.length ≤ sizeLine := by
  rcases h with h | ⟨o, its, n, hk, hc, hd, hs, hz, r⟩
  · obtain ⟨z, its, n, r, e⟩ := h.ok I.hok
    exact ⟨its, r, ⟨_, n, e, rfl, rfl, rfl⟩, z⟩
  · refine ⟨its.toList, r, ⟨o, n, I.kIn a o hk, hc, hd, by simpa using hs⟩, ?_⟩
    have e := r.length
    simp only [Array.length_toList] at e
    omega
theorem Inv.tuple (I : Inv X pins σ H s) (h : SqT X.K H a xs) : ∃ its : List Value, Vals xs its ∧ IsTup s.heap a its.toArray ∧ xs.length ≤ sizeLine := by
  rcases h with h | ⟨o, its, n, hk, hc, hs, hz, r⟩
  · obtain ⟨z, its, r, p⟩ := h.ok I.hok
    exact ⟨its, r, p, z⟩
  · refine ⟨its.toList, r, ⟨o, I.kIn a o hk, hc, n, by simpa using hs⟩, ?_⟩
    have e := r.length
    simp only [Array.length_toList] at e
    omega
theorem Inv.list_inj (I : Inv X pins σ H s) (h : SqL X.K H a xs) (h' : SqL X.K H a ys) : xs = ys := by
  obtain ⟨its, r, ⟨o, n, e, _, _, d⟩, _⟩ := I.list h
  obtain ⟨its', r', ⟨o', n', e', _, _, d'⟩, _⟩ := I.list h'
  rw [e] at e'; cases e'
  rw [d] at d'
  injection d' with d1 _
  have : its = its' := by simpa using congrArg Array.toList d1
  subst this
  exact r.inj r'
theorem Inv.tuple_inj (I : Inv X pins σ H s) (h : SqT X.K H a xs) (h' : SqT X.K H a ys) : xs = ys := by
  obtain ⟨its, r, ⟨o, e, _, n, d⟩, _⟩ := I.tuple h
  obtain ⟨its', r', ⟨o', e', _, n', d'⟩, _⟩ := I.tuple h'
  rw [e] at e'; cases e'
  rw [d] at d'
  injection d' with d1 _
  have : its = its' := by simpa using congrArg Array.toList d1
  subst this
  exact r.inj r'
end
abbrev Cx.wish (X : Cx) (E : Value → Shared → Prop) : Cx := { X with xe := E }
abbrev Cx.nox (X : Cx) : Cx := X.wish fun _ _ => False
theorem Cx.Ok.wish {X : Cx} (ok : X.Ok) (E : Value → Shared → Prop) : (X.wish E).Ok :=
  ⟨ok.mod, ok.kind, ok.glob, ok.blt, ok.above, ok.inj, ok.has, ok.cab, ok.hd, ok.frames, ok.stk, ok.exf, ok.bs, ok.bsz, ok.noex, ok.exfs, ok.funs, ok.frf⟩
theorem Cx.Ok.unwish {X : Cx} {E : Value → Shared → Prop} (ok : (X.wish E).Ok) : X.Ok :=
  ⟨ok.mod, ok.kind, ok.glob, ok.blt, ok.above, ok.inj, ok.has, ok.cab, ok.hd, ok.frames, ok.stk, ok.exf, ok.bs, ok.bsz, ok.noex, ok.exfs, ok.funs, ok.frf⟩
section
variable {X : Cx} {pins : List (Addr × Obj)} {σ : St} {H : Hp} {s : Shared} {E : Value → Shared → Prop}
theorem Inv.wish (I : Inv X pins σ H s) (E : Value → Shared → Prop) : Inv (X.wish E) pins σ H s := ⟨I.ok.wish E, I.os, I.bare, I.base, I.loc, I.cell, I.free, I.freeC, I.pin, I.hok, I.len⟩
theorem Inv.unwish (I : Inv (X.wish E) pins σ H s) : Inv X pins σ H s := ⟨I.ok.unwish, I.os, I.bare, I.base, I.loc, I.cell, I.free, I.freeC, I.pin, I.hok, I.len⟩
theorem SP.unwish {D : Ends} {f : Flow} {s' : Shared} (h : SP (X.wish E) pins D f s') : SP X pins D f s' := by
  cases f with
  | next => obtain ⟨σ', H', I, q⟩ := h; exact ⟨σ', H', I.unwish, q⟩
  | brk => obtain ⟨σ', H', I, q⟩ := h; exact ⟨σ', H', I.unwish, q⟩
  | cont => obtain ⟨σ', H', I, q⟩ := h; exact ⟨σ', H', I.unwish, q⟩
  | ret u => obtain ⟨v, σ', H', I, r, q⟩ := h; exact ⟨v, σ', H', I.unwish, r, q⟩
theorem PE.nox {e : Expr} {t : TE} (h : PE X.nox e t) : PE X e t := fun pins s σ H Q I hw =>
  wpAny_mono (h pins s σ H Q (I.wish _) hw) (fun _ _ ⟨v, H', I', r, q⟩ => ⟨v, H', I'.unwish, r, q⟩) fun _ _ z => False.elim z
theorem PT.nox {e : Expr} {t : TT} (h : PT X.nox e t) : PT X e t := fun pins s σ H Q I hw =>
  wpAny_mono (h pins s σ H Q (I.wish _) hw) (fun _ _ ⟨H', I', q⟩ => ⟨H', I'.unwish, q⟩) fun _ _ z => False.elim z
theorem PSs.nox {st : List Stmt} {t : TS} (h : PSs X.nox st t) : PSs X st t := fun pins s σ H D I hw =>
  wpAny_mono (h pins s σ H D (I.wish _) hw) (fun _ _ q => q.unwish) fun _ _ z => False.elim z
end
section
variable {X : Cx} {st : Stmt} {rest : List Stmt} {t u : TS} {e : Expr} {te : TE} {pos : Pos}
def tNext : TS := fun D σ H => D.nx σ H
def tSeq (t u : TS) : TS := fun D σ H => t { D with nx := u D } σ H
theorem pss_nil : PSs X [] tNext := fun _ _ σ H _ I h => wpAny_execs_nil ⟨σ, H, I, h⟩
theorem pss_cons (h1 : PS X st t) (h2 : PSs X rest u) : PSs X (st :: rest) (tSeq t u) := by
  intro pins s σ H D I h
  refine wpAny_execs_cons (thn (h1 pins s σ H { D with nx := u D } I h) fun f s1 q => ?_)
  cases f with
  | next =>
    obtain ⟨σ', H', I', q⟩ := q
    exact h2 pins s1 σ' H' D I' q
  | ret v => exact q
  | brk => exact q
  | cont => exact q
theorem pss_one (h1 : PS X st t) : PSs X [st] t := by
  intro pins s σ H D I h
  refine wpAny_execs_cons (thn (h1 pins s σ H D I h) fun f s1 q => ?_)
  cases f with
  | next => exact wpAny_execs_nil q
  | ret v => exact q
  | brk => exact q
  | cont => exact q
theorem Inv.quiet {pins : List (Addr × Obj)} {σ : St} {H : Hp} {s : Shared} (I : Inv X pins σ H s) : interactive X.env = false := by simp [interactive, I.ok.kind]
def tDrop (te : TE) : TS := fun D σ H => te σ H fun _ H1 => D.nx σ H1
theorem ps_expr (he : PE X e te) (hs : swapsWith e none pos.line X.env = pure false := by rfl) : PS X (.Expr e pos) (tDrop te) := by
  intro pins s σ H D I h
  exact wpAny_Expr_any (thn (he pins s σ H _ I h) fun v s1 ⟨x, H1, I1, r1, q1⟩ => ⟨σ, H1, I1, q1⟩) I.quiet hs
def tRet (te : TE) : TS := fun D σ H => te σ H D.rt
theorem ps_ret (he : PE X e te) : PS X (.Return (some e) pos) (tRet te) := by
  intro pins s σ H D I h
  exact wpAny_Return_some (thn (he pins s σ H _ I h) fun v s1 ⟨x, H1, I1, r1, q1⟩ => ⟨x, σ, H1, I1, r1, q1⟩)
def tRetN : TS := fun D _ H => D.rt .non H
def tIfS (c : TT) (t u : TS) : TS := fun D σ H => c σ H fun b H1 => if b = true then t D σ H1 else u D σ H1
theorem ps_if {c : Expr} {a b : List Stmt} {tc : TT} (hc : PT X c tc) (ha : PSs X a t) (hb : PSs X b u) : PS X (.If c a b pos) (tIfS tc t u) := by
  intro pins s σ H D I h
  refine wpAny_If (thn (hc pins s σ H _ I h) fun d s1 ⟨H1, I1, q1⟩ => ?_)
  cases d with
  | true => exact ha pins s1 σ H1 D I1 q1
  | false => exact hb pins s1 σ H1 D I1 q1
end
abbrev TG := V → St → Hp → (St → Hp → Prop) → Prop
abbrev TGs := List V → St → Hp → (St → Hp → Prop) → Prop
def PG (X : Cx) (target : Expr) (t : TG) : Prop :=
  ∀ (pins : List (Addr × Obj)) (s : Shared) (σ : St) (H : Hp) (v : V) (u : Value) (Q : St → Hp → Prop), Inv X pins σ H s → RelV v u → t v σ H Q →
    wpAny (model X.prog X.w) X.A (assign target X.env u) (fun _ s' => ∃ σ' H', Inv X pins σ' H' s' ∧ Q σ' H') X.xe s
def PGs (X : Cx) (ts : List Expr) (t : TGs) : Prop :=
  ∀ (pins : List (Addr × Obj)) (s : Shared) (σ : St) (H : Hp) (vs : List V) (us : List Value) (Q : St → Hp → Prop), Inv X pins σ H s → Vals vs us → t vs σ H Q →
    wpAny (model X.prog X.w) X.A (assignInOrder ((assignEach ts X.env).map (·.2)) us) (fun _ s' => ∃ σ' H', Inv X pins σ' H' s' ∧ Q σ' H') X.xe s
abbrev TSet := V → V → V → Hp → (Hp → Prop) → Prop
def PSet (X : Cx) (t : TSet) : Prop :=
  ∀ (pins : List (Addr × Obj)) (s : Shared) (σ : St) (H : Hp) (o i v : V) (ov iv u : Value) (Q : Hp → Prop), Inv X pins σ H s → RelV o ov → RelV i iv → RelV v u → t o i v H Q →
    wpAny (model X.prog X.w) X.A (setItem ov iv u) (fun _ s' => ∃ H', Inv X pins σ H' s' ∧ Q H') X.xe s
abbrev TIp := V → V → Hp → VK → Prop
section
variable {X : Cx} {pos : Pos}
def gName (i : Nat) : TG := fun v σ H Q => Q (σ.set i (some v)) H
theorem pg_name {i : Nat} {x : Str} (hN : X.N.Nodup) (hi : X.N[i]? = some x) (hx : Loc X.env.scope x) (hf : X.fn x = true ∨ X.env.scope.names.lookup x = some .local := by first | exact .inl rfl | exact .inr rfl | assumption) : PG X (.Name x pos) (gName i) := by
  intro pins s σ H v u Q I r h
  exact wpAny_assign_Name (store_ok I hN hi hx r (fun s' I' => ⟨_, H, I', h⟩) hf)
def gNil : TGs := fun vs σ H Q => vs = [] ∧ Q σ H
def gCons (t : TG) (u : TGs) : TGs := fun vs σ H Q => ∃ v r, vs = v :: r ∧ t v σ H fun σ' H' => u r σ' H' Q
theorem pgs_nil : PGs X [] gNil := by
  intro pins s σ H vs us Q I r h
  obtain ⟨e, h⟩ := h
  subst e
  cases r
  exact assignInOrder_nil ⟨σ, H, I, h⟩
theorem pgs_cons {e : Expr} {es : List Expr} {t : TG} {u : TGs} (h1 : PG X e t) (h2 : PGs X es u)
    (hs : (assignEach (e :: es) X.env).map (·.2) = assign e X.env :: (assignEach es X.env).map (·.2) := by rfl) : PGs X (e :: es) (gCons t u) := by
  intro pins s σ H vs us Q I r h
  obtain ⟨v, vr, e1, h⟩ := h
  subst e1
  cases r with
  | cons r rr =>
    rw [hs]
    refine assignInOrder_cons (thn (h1 pins s σ H _ _ _ I r h) fun _ s1 ⟨σ1, H1, I1, q1⟩ => ?_)
    exact h2 pins s1 σ1 H1 _ _ Q I1 rr q1
def gTup (K : PySem.W.Frag) (n : Nat) (t : TGs) : TG := fun v σ H Q => ∃ a xs, v = .ref a ∧ SqT K H a xs ∧ xs.length = n ∧ t xs σ H Q
theorem pg_tup {es : List Expr} {k : Nat} {t : TGs} {n : Nat} (hc : X.calm = true) (h : PGs X es t)
    (hn : (assignEach es X.env).length = n := by rfl) (hst : (assignEach es X.env).findIdx? (·.1) = none := by rfl) : PG X (.Tuple es k pos) (gTup X.K n t) := by
  intro pins s σ H v u Q I r hw
  obtain ⟨a, xs, e1, hq, hl, hw⟩ := hw
  subst e1
  cases r
  obtain ⟨its, rv, ht, hz⟩ := I.tuple hq
  refine assign_Tuple_tuple (I.ok.hd hc) ht (by simp [hn, ← hl, rv.length]) hst fun h' hx => ?_
  have I1 : Inv X pins σ H { s with heap := h' } := I.kept (t' := s.toks) fun b o e => hx b o (Nat.ne_of_lt (Heap.lt_size e)) e
  exact h pins _ σ H xs _ Q I1 (by simpa using rv) hw
def gSub (to ti : TE) (t : TSet) : TG := fun v σ H Q => to σ H fun o H1 => ti σ H1 fun i H2 => t o i v H2 fun H3 => Q σ H3
theorem pg_sub {o i : Expr} {to ti : TE} {t : TSet} (ho : PE X o to) (hi : PE X i ti) (hs : PSet X t)
    (ha : ∀ v, assign (.Subscript o i pos) X.env v = (do
      let ov ← holding [v] (eval o X.env)
      let iv ← holding [v, ov] (eval i X.env)
      standAt pos
      holding [v, ov, iv] (setItem ov iv v)
      release [v, ov, iv] []) := by intro _; rfl) : PG X (.Subscript o i pos) (gSub to ti t) := by
  intro pins s σ H v u Q I r h
  rw [ha]
  refine wpAny_bind (wpAny_holding (thn (ho pins s σ H _ I h) fun ov s1 ⟨x, H1, I1, r1, q1⟩ => ?_))
  refine wpAny_bind (wpAny_holding (thn (hi pins s1 σ H1 _ I1 q1) fun iv s2 ⟨y, H2, I2, r2, q2⟩ => ?_))
  refine wpAny_bind (wpAny_standAt (wpAny_bind (wpAny_holding (thn (hs pins s2 σ H2 x y v ov iv u _ I2 r1 r2 r q2) fun _ s3 ⟨H3, I3, q3⟩ => ?_))))
  exact wpAny_release ⟨σ, H3, I3, q3⟩
def tAsg (te : TE) (g : TG) : TS := fun D σ H => te σ H fun x H1 => g x σ H1 D.nx
theorem ps_asg {tg e : Expr} {te : TE} {g : TG} (he : PE X e te) (hg : PG X tg g) (hs : swapsWithSole [tg] e pos.line X.env = pure false := by rfl) (hw : swappedStores [tg] e X.env = pure none := by rfl)
    (h1 : (assignEach [tg] X.env).map (·.2) = [assign tg X.env] := by rfl) : PS X (.Assign [tg] e pos) (tAsg te g) := by
  intro pins s σ H D I h
  refine wpAny_Assign_stores (thn (he pins s σ H _ I h) fun v s1 ⟨x, H1, I1, r1, q1⟩ => ?_) hs hw
  rw [h1]
  exact thn (hg pins s1 σ H1 x v _ I1 r1 q1) fun _ s2 q => q
theorem ps_set {i : Nat} {x : Str} {e : Expr} {te : TE} {pos' : Pos} (hN : X.N.Nodup) (hi : X.N[i]? = some x) (hx : Loc X.env.scope x) (he : PE X e te) (hs : swapsWith e (some (.Name x pos')) pos.line X.env = pure false := by rfl) (hf : X.fn x = true ∨ X.env.scope.names.lookup x = some .local := by first | exact .inl rfl | exact .inr rfl | assumption) :
    PS X (.Assign [.Name x pos'] e pos) (tAsg te (gName i)) := by
  intro pins s σ H D I h
  refine wpAny_Assign_Name (thn (he pins s σ H _ I h) fun v s1 ⟨y, H1, I1, r1, q1⟩ => ?_) hs
  exact store_ok I1 hN hi hx r1 (fun s2 I2 => ⟨_, H1, I2, q1⟩) hf
def tAug (i : Nat) (te : TE) (ti : TIp) : TS := fun D σ H => ∃ x, σ[i]? = some (some x) ∧ te σ H fun y H1 => ti x y H1 fun z H2 => D.nx (σ.set i (some z)) H2
end
section
variable {X : Cx} {pos : Pos}
def tWhile (c : TT) (tb : TS) : TS := fun D σ H => ∃ W : Nat → St → Hp → Prop, (∃ m, W m σ H) ∧ ∀ m σ H, W m σ H →
  c σ H fun b H1 => if b = true then ∃ N : St → Hp → Prop, (∀ σ' H', N σ' H' → ∃ m', m' < m ∧ W m' σ' H') ∧ tb { D with nx := N, ct := N, bk := D.nx } σ H1 else D.nx σ H1
theorem ps_while {c : Expr} {body : List Stmt} {tc : TT} {tb : TS} (hp : PassesOwn (model X.prog X.w) X.A X.env X.xe) (hc : PT X c tc) (hb : PSs X body tb) : PS X (.While c body [] pos) (tWhile tc tb) := by
  intro pins s σ H D I h
  obtain ⟨W, ⟨m0, w0⟩, turn⟩ := h
  refine wpAny_While (codeAny_whileLoop (fun n s' => ∃ σ' H', Inv X pins σ' H' s' ∧ W n σ' H') ?_ m0 ⟨σ, H, I, w0⟩)
  rintro n s1 ⟨σ1, H1, I1, w1⟩
  refine wpAny_passesOwn hp (thn (hc pins s1 σ1 H1 _ I1 (turn n σ1 H1 w1)) fun b s2 ⟨H2, I2, q2⟩ => ?_)
  cases b with
  | true =>
    obtain ⟨N, hN, q2⟩ := q2
    rw [if_pos rfl]
    refine wpAny_passesOwn hp (thn (hb pins s2 σ1 H2 _ I2 q2) fun f s3 q3 => ?_)
    cases f with
    | next =>
      obtain ⟨σ3, H3, I3, n3⟩ := q3
      obtain ⟨m', hm, w3⟩ := hN σ3 H3 n3
      exact ⟨m', hm, σ3, H3, I3, w3⟩
    | cont =>
      obtain ⟨σ3, H3, I3, n3⟩ := q3
      obtain ⟨m', hm, w3⟩ := hN σ3 H3 n3
      exact ⟨m', hm, σ3, H3, I3, w3⟩
    | brk => exact q3
    | ret v => exact q3
  | false =>
    rw [if_neg Bool.false_ne_true]
    exact wpAny_execs_nil ⟨σ1, H2, I2, q2⟩
end
structure It where
  go : Nat → Hp → Prop
  yld : Nat → Hp → V → Hp → Prop
  stop : Nat → Hp → Prop
def FpOk (X : Cx) (pins : List (Addr × Obj)) (H : Hp) (b : Addr) : Prop :=
  H b = none ∧ b ≠ X.env.locals ∧ b ∉ X.fs ∧ (b ∈ X.ex ∨ X.s₀.heap.objs.size ≤ b) ∧ (∀ x c, X.env.cells.lookup x = some c → c ≠ b) ∧ ∀ p ∈ X.pn ++ pins, p.1 ≠ b
theorem Inv.fpOk {X : Cx} {pins : List (Addr × Obj)} {σ : St} {H H' : Hp} {s : Shared} {b : Addr} (I : Inv X pins σ H s) (hb : s.heap.objs.size ≤ b) (hn : H' b = none) : FpOk X pins H' b := by
  refine ⟨hn, Nat.ne_of_gt (Nat.lt_of_lt_of_le I.lt hb), I.nofs hb, .inr (Nat.le_trans I.sz hb), fun x c e z => ?_, fun p hp z => ?_⟩
  · obtain ⟨v, q⟩ := I.cell x c e
    exact absurd (Nat.lt_of_lt_of_le q.lt (by rw [z]; exact hb)) (Nat.lt_irrefl _)
  · exact absurd (Nat.lt_of_lt_of_le (Heap.lt_size (I.pin p hp).1) (by rw [z]; exact hb)) (Nat.lt_irrefl _)
structure Turn (P : Program) (w : World) (K : PySem.W.Frag) (tg : Expr) (J : It) (fp : List Addr) (it : Addr) (tn : Nat → Heap → Prop) : Prop where
  mem : it ∈ fp
  obj : ∀ i h, tn i h → ∀ b ∈ fp, ∃ o, h.get? b = some o ∧ ∀ v, o.data ≠ .cell v
  keep : ∀ i h h', tn i h → (∀ b ∈ fp, ∀ o, h.get? b = some o → h'.get? b = some o) → tn i h'
  item : ∀ (X : Cx), X.prog = P → X.w = w → X.K = K → X.calm = true → ∀ (i : Nat) (pins : List (Addr × Obj)) (s : Shared) (σ : St) (H : Hp) (E : Value → Shared → Prop), Inv X pins σ H s → (∀ b ∈ fp, FpOk X pins H b) → tn i s.heap → J.go i H →
    wpAny (model P w) X.A (pyNext (.ref it)) (fun r s1 => ∃ u, r = some u ∧
      wpAny (model P w) X.A (letOwnedTupleGo tg (.ref it) u) (fun _ s2 => ∃ x H', Inv X pins σ H' s2 ∧ RelV x u ∧ J.yld i H x H' ∧ tn (i + 1) s2.heap ∧ ∀ b ∈ fp, H' b = none) E s1) E s
  done : ∀ (X : Cx), X.prog = P → X.w = w → X.K = K → X.calm = true → ∀ (i : Nat) (pins : List (Addr × Obj)) (s : Shared) (σ : St) (H : Hp) (E : Value → Shared → Prop), Inv X pins σ H s → (∀ b ∈ fp, FpOk X pins H b) → tn i s.heap → J.stop i H →
    wpAny (model P w) X.A (pyNext (.ref it)) (fun r s1 => r = none ∧ Inv X pins σ H s1) E s
  self : ∀ (A : Around) (i : Nat) (s : Shared) (Q : Value → Shared → Prop) (E : Value → Shared → Prop), tn i s.heap → Q (.ref it) s → wpAny (model P w) A (pyIter (.ref it)) Q E s
abbrev TI := St → Hp → (It → Hp → Prop) → Prop
def PIE (X : Cx) (pins : List (Addr × Obj)) (σ : St) (tg : Expr) (R : It → Hp → Prop) (itv : Value) (s2 : Shared) : Prop :=
  ∃ (it : Addr) (fp : List Addr) (tn : Nat → Heap → Prop) (J : It) (H' : Hp), itv = .ref it ∧ Inv X pins σ H' s2 ∧ Turn X.prog X.w X.K tg J fp it tn ∧ tn 0 s2.heap ∧ (∀ b ∈ fp, FpOk X pins H' b) ∧ R J H'
def PI (X : Cx) (tg iter : Expr) (wi : TI) : Prop :=
  ∀ (pins : List (Addr × Obj)) (s : Shared) (σ : St) (H : Hp) (R : It → Hp → Prop), Inv X pins σ H s → wi σ H R →
    wpAny (model X.prog X.w) X.A (eval iter X.env) (fun v s1 => wpAny (model X.prog X.w) X.A (pyIter v) (PIE X pins σ tg R) X.xe s1) X.xe s
theorem go_of {M : Model} {A : Around} {E : Value → Shared → Prop} {s : Shared} {tg : Expr} {it : Addr} {u : Value} {o : Obj} {n : String} {vs : Array Value} {Q : Unit → Shared → Prop} (ho : s.heap.get? it = some o) (hc : o.cls = .type n) (hd : o.data = .fields vs)
    (hn : ["enumerate", "zip", "dict_itemiterator", "dict_reverseitemiterator", "odict_iterator", "itertools.zip_longest", "itertools.pairwise"].contains n = false) (hQ : Q () s) : wpAny M A (letOwnedTupleGo tg (.ref it) u) Q E s := by
  unfold letOwnedTupleGo
  cases tg <;> first
    | exact wpAny_pure hQ
    | (cases u <;> first
        | exact wpAny_pure hQ
        | (refine wpAny_bind (wpAny_load ho ?_)
           rw [hc, hd]
           show wpAny M A (if (["enumerate", "zip", "dict_itemiterator", "dict_reverseitemiterator", "odict_iterator", "itertools.zip_longest", "itertools.pairwise"].contains n && vs[0]? == some (rawInt _)) = true then _ else _) Q E s
           rw [if_neg (by intro h; rw [hn, Bool.false_and] at h; cases h)]
           exact wpAny_pure hQ))
def Itl (K : PySem.W.Frag) (a : Addr) : It :=
  ⟨fun i H => ∃ xs x, SqL K H a xs ∧ xs[i]? = some x, fun i H x H' => H' = H ∧ ∀ xs, SqL K H a xs → xs[i]? = some x, fun i H => ∃ xs, SqL K H a xs ∧ xs.length ≤ i⟩
def Itt (K : PySem.W.Frag) (a : Addr) : It :=
  ⟨fun i H => ∃ xs x, SqT K H a xs ∧ xs[i]? = some x, fun i H x H' => H' = H ∧ ∀ xs, SqT K H a xs → xs[i]? = some x, fun i H => ∃ xs, SqT K H a xs ∧ xs.length ≤ i⟩
def Itr (lo : Int) (n : Nat) : It := ⟨fun i _ => i < n, fun i H x H' => H' = H ∧ x = .int (lo + i), fun i _ => n ≤ i⟩
theorem turn_list {P : Program} {w : World} {K : PySem.W.Frag} {tg : Expr} (a it : Addr) : Turn P w K tg (Itl K a) [it] it (fun i h => h.IsListIter it a i) where
  mem := by simp
  obj := fun i h st b hb => by
    have e : b = it := by simpa using hb
    subst e
    obtain ⟨o, e, c, d⟩ := st
    exact ⟨o, e, fun v z => by rw [d] at z; cases z⟩
  keep := fun i h h' st k => st.at fun o e => k it (by simp) o e
  item := by
    intro X hP hw hK hc i pins s σ H E I hf st hg
    subst hP hw hK
    obtain ⟨xs, x, hq, hx⟩ := hg
    obtain ⟨its, rv, p, hz⟩ := I.list hq
    obtain ⟨u, hu, ru⟩ := rv.get hx
    obtain ⟨f0, f1, f2, f3, f4, f5⟩ := hf it (by simp)
    refine wpAny_pyNext_list_item st p.isList (x := u) (by simpa using hu) fun h' st' sb => ?_
    have I1 : Inv X pins σ H { s with heap := h' } := I.turned (t' := s.toks) (fun b o hb e => (sb.2 b hb).trans e) f0 f1 f3 f4 f5
    obtain ⟨o, e, c, d⟩ := id st'
    exact ⟨u, rfl, go_of (s := { s with heap := h' }) e c d (by decide) ⟨x, H, I1, ru, ⟨rfl, fun ys hy => by rw [I.list_inj hy hq]; exact hx⟩, st', fun b hb => (hf b hb).1⟩⟩
  done := by
    intro X hP hw hK hc i pins s σ H E I hf st hg
    subst hP hw hK
    obtain ⟨xs, hq, hx⟩ := hg
    obtain ⟨its, rv, p, hz⟩ := I.list hq
    obtain ⟨f0, f1, f2, f3, f4, f5⟩ := hf it (by simp)
    have hl := rv.length
    exact wpAny_pyNext_list_end (I.ok.hd hc) st p.isList (by simp; omega) fun h' eb => ⟨rfl, I.turned (t' := s.toks) (fun b o hb e => eb b o hb e) f0 f1 f3 f4 f5⟩
  self := fun _ _ _ _ _ st h => wpAny_pyIter_listiter st h
theorem turn_tuple {P : Program} {w : World} {K : PySem.W.Frag} {tg : Expr} (a it : Addr) : Turn P w K tg (Itt K a) [it] it (fun i h => h.IsTupleIter it a i) where
  mem := by simp
  obj := fun i h st b hb => by
    have e : b = it := by simpa using hb
    subst e
    obtain ⟨o, e, c, d⟩ := st
    exact ⟨o, e, fun v z => by rw [d] at z; cases z⟩
  keep := fun i h h' st k => st.at fun o e => k it (by simp) o e
  item := by
    intro X hP hw hK hc i pins s σ H E I hf st hg
    subst hP hw hK
    obtain ⟨xs, x, hq, hx⟩ := hg
    obtain ⟨its, rv, p, hz⟩ := I.tuple hq
    obtain ⟨u, hu, ru⟩ := rv.get hx
    obtain ⟨f0, f1, f2, f3, f4, f5⟩ := hf it (by simp)
    refine wpAny_pyNext_tuple_item st (show s.heap.IsTuple a its.toArray from p) (x := u) (by simpa using hu) fun h' st' sb => ?_
    have I1 : Inv X pins σ H { s with heap := h' } := I.turned (t' := s.toks) (fun b o hb e => (sb.2 b hb).trans e) f0 f1 f3 f4 f5
    obtain ⟨o, e, c, d⟩ := id st'
    exact ⟨u, rfl, go_of (s := { s with heap := h' }) e c d (by decide) ⟨x, H, I1, ru, ⟨rfl, fun ys hy => by rw [I.tuple_inj hy hq]; exact hx⟩, st', fun b hb => (hf b hb).1⟩⟩
  done := by
    intro X hP hw hK hc i pins s σ H E I hf st hg
    subst hP hw hK
    obtain ⟨xs, hq, hx⟩ := hg
    obtain ⟨its, rv, p, hz⟩ := I.tuple hq
    obtain ⟨f0, f1, f2, f3, f4, f5⟩ := hf it (by simp)
    have hl := rv.length
    exact wpAny_pyNext_tuple_end (I.ok.hd hc) st (show s.heap.IsTuple a its.toArray from p) (by simp; omega) fun h' eb => ⟨rfl, I.turned (t' := s.toks) (fun b o hb e => eb b o hb e) f0 f1 f3 f4 f5⟩
  self := fun _ _ _ _ _ st h => wpAny_pyIter_tupleiter st h
theorem turn_range {P : Program} {w : World} {K : PySem.W.Frag} {tg : Expr} (it : Addr) (lo : Int) (n : Nat) : Turn P w K tg (Itr lo n) [it] it (fun i h => IsRangeIter h it (lo + (i : Nat) * 1) ((n : Int) - (i : Nat)) 1) where
  mem := by simp
  obj := fun i h st b hb => by
    have e : b = it := by simpa using hb
    subst e
    exact ⟨_, st, fun v z => by
      have z' : Data.fields _ = Data.cell v := z
      cases z'⟩
  keep := fun i h h' st k => k it (by simp) _ st
  item := by
    intro X hP hw hK hc i pins s σ H E I hf st hg
    subst hP hw hK
    obtain ⟨f0, f1, f2, f3, f4, f5⟩ := hf it (by simp)
    have W := Walks.range (prog := X.prog) (w := X.w) (I.ok.hd hc) it lo 1 n
    refine W.item i s _ _ hg st fun v h' tk hv st' kk => ?_
    obtain ⟨t, rfl⟩ := hv
    have I1 : Inv X pins σ H { s with heap := h', toks := tk } := I.turned (fun b o hb e => kk b o (by simpa using hb) e) f0 f1 f3 f4 f5
    refine ⟨_, rfl, go_of (s := { s with heap := h', toks := tk }) (n := "range_iterator") st' rfl rfl (by decide) ⟨.int (lo + i), H, I1, ⟨t, ?_⟩, ⟨rfl, rfl⟩, st', fun b hb => (hf b hb).1⟩⟩
    rw [Int.mul_one]
  done := by
    intro X hP hw hK hc i pins s σ H E I hf st hg
    subst hP hw hK
    obtain ⟨f0, f1, f2, f3, f4, f5⟩ := hf it (by simp)
    exact wpAny_pyNext_range_end (I.ok.hd hc) st (by have : n ≤ i := hg; omega) fun h' eb => ⟨rfl, I.turned (t' := s.toks) (fun b o hb e => eb b o hb e) f0 f1 f3 f4 f5⟩
  self := fun _ _ _ _ _ st h => wpAny_pyIter_rangeiter st h
end L2
namespace L2
open PySem PySem.Spec PyProof.Rows
section
variable {X : Cx} {tg : Expr}
theorem range_it {pins : List (Addr × Obj)} {σ : St} {H : Hp} {s : Shared} {R : It → Hp → Prop} {E : Value → Shared → Prop} {lo hi : Int} {t u v : Tok} {tk : Nat} (I : Inv X pins σ H s) (h1 : -(2 ^ 62) ≤ lo) (h2 : lo < 2 ^ 62) (h3 : -(2 ^ 62) ≤ hi) (h4 : hi < 2 ^ 62)
    (q : R (Itr lo (hi - lo).toNat) H) : wpAny (model X.prog X.w) X.A (pyIter (.ref s.heap.objs.size)) (PIE X pins σ tg R) E { s with heap := s.heap.push { cls := .type "range", data := .fields #[.int lo t, .int hi u, .int 1 v] }, toks := tk } := by
  refine wpAny_pyIter_range (IsRange.new ..) (small_one h1 h2 h3 h4) ?_
  have I1 : Inv X pins σ H { s with heap := s.heap.push { cls := .type "range", data := .fields #[.int lo t, .int hi u, .int 1 v] }, toks := tk } := I.kept fun b o e => Heap.get?_push_of_some _ e
  refine ⟨(s.heap.push { cls := .type "range", data := .fields #[.int lo t, .int hi u, .int 1 v] }).objs.size, [(s.heap.push { cls := .type "range", data := .fields #[.int lo t, .int hi u, .int 1 v] }).objs.size], _, _, H, rfl,
    I1.kept (t' := tk) fun b o e => Heap.get?_push_of_some _ e, turn_range _ lo (hi - lo).toNat, ?_, fun b hb => ?_, q⟩
  · have e1 : lo + ((0 : Nat) : Int) * 1 = lo := by simp
    have e2 : (((hi - lo).toNat : Nat) : Int) - ((0 : Nat) : Int) = Builtin.Range.rangeSize lo hi 1 := by rw [rangeSize_one]; split <;> omega
    show IsRangeIter _ _ (lo + ((0 : Nat) : Int) * 1) ((((hi - lo).toNat : Nat) : Int) - ((0 : Nat) : Int)) 1
    rw [e1, e2]
    exact Heap.get?_push_size _ rfl
  · have e : b = (s.heap.push { cls := .type "range", data := .fields #[.int lo t, .int hi u, .int 1 v] }).objs.size := by simpa using hb
    subst e
    exact I1.fpOk (Nat.le_refl _) (I1.hok.fresh (Nat.le_refl _))
def iRng1 (ta : TA) : TI := fun σ H R => ta σ H fun vs H1 => ∃ j : Int, vs = [.int j] ∧ -(2 ^ 62) ≤ j ∧ j < 2 ^ 62 ∧ R (Itr 0 j.toNat) H1
def iRng2 (ta : TA) : TI := fun σ H R => ta σ H fun vs H1 => ∃ i j : Int, vs = [.int i, .int j] ∧ (-(2 ^ 62) ≤ i ∧ i < 2 ^ 62 ∧ -(2 ^ 62) ≤ j ∧ j < 2 ^ 62) ∧ R (Itr i (j - i).toNat) H1
theorem pi_range1 {a : Expr} {ta : TA} {p pos : Pos} (hg : Gl X "range") (hm : X.mg "range" = none) (ha : PA X [a] ta) (hs : starEach [a] X.env = [(false, eval a X.env)] := by rfl) : PI X tg (.Call (.Name "range" p) [a] [] pos) (iRng1 ta) := by
  intro pins s σ H R I h
  refine Call_ (ld_blt I hg hm boot_range (PyProof.Rows.callWith_type1 (thn (ha pos pins s σ H _ I h) fun us s1 ⟨vs, H1, I1, r1, q1⟩ => ?_) hs rfl))
  obtain ⟨j, e, q1, q2, q⟩ := q1
  subst e
  cases r1 with
  | cons r rr =>
    cases rr
    obtain ⟨t, rfl⟩ := r
    exact call_range_1 (range_it I1 (by omega) (by omega) q1 q2 (by simpa using q))
theorem pi_range2 {a b : Expr} {ta : TA} {p pos : Pos} (hg : Gl X "range") (hm : X.mg "range" = none) (ha : PA X [a, b] ta) (hs : starEach [a, b] X.env = [(false, eval a X.env), (false, eval b X.env)] := by rfl) (hs2 : starEach [b] X.env = [(false, eval b X.env)] := by rfl) :
    PI X tg (.Call (.Name "range" p) [a, b] [] pos) (iRng2 ta) := by
  intro pins s σ H R I h
  refine Call_ (ld_blt I hg hm boot_range (PyProof.Rows.callWith_type1 (thn (ha pos pins s σ H _ I h) fun us s1 ⟨vs, H1, I1, r1, q1⟩ => ?_) (by rw [hs, hs2]) (by rw [hs2]; rfl)))
  obtain ⟨i, j, e, ⟨q1, q2, q3, q4⟩, q⟩ := q1
  subst e
  cases r1 with
  | cons r rr =>
    cases rr with
    | cons r' rr =>
      cases rr
      obtain ⟨t, rfl⟩ := r
      obtain ⟨t', rfl⟩ := r'
      exact call_range_2 (range_it I1 q1 q2 q3 q4 q)
def tFor (wi : TI) (g : TG) (tb : TS) : TS := fun D σ H => wi σ H fun J H1 => ∃ W : Nat → Nat → St → Hp → Prop, (∃ m, W 0 m σ H1) ∧ ∀ i m σ H, W i m σ H →
  (J.stop i H ∧ D.nx σ H) ∨ (J.go i H ∧ ∃ N : St → Hp → Prop, (∀ σ' H', N σ' H' → ∃ m', m' < m ∧ W (i + 1) m' σ' H') ∧ ∀ x H', J.yld i H x H' → g x σ H' fun σ2 H2 => tb { D with nx := N, ct := N, bk := D.nx } σ2 H2)
def pinsAt (fp : List Addr) (h : Heap) : List (Addr × Obj) := fp.filterMap fun b => (h.get? b).map fun o => (b, o)
theorem mem_pinsAt {fp : List Addr} {h : Heap} {b : Addr} {o : Obj} (hb : b ∈ fp) (e : h.get? b = some o) : (b, o) ∈ pinsAt fp h := List.mem_filterMap.mpr ⟨b, hb, by rw [e]; rfl⟩
theorem of_pinsAt {fp : List Addr} {h : Heap} {p : Addr × Obj} (hp : p ∈ pinsAt fp h) : p.1 ∈ fp ∧ h.get? p.1 = some p.2 := by
  obtain ⟨b, hb, e⟩ := List.mem_filterMap.mp hp
  cases q : h.get? b with
  | none => rw [q] at e; cases e
  | some o =>
    rw [q] at e
    have e' : (b, o) = p := Option.some.inj e
    subst e'
    exact ⟨hb, q⟩
theorem Inv.pinned {pins : List (Addr × Obj)} {σ : St} {H : Hp} {s : Shared} {fp : List Addr} (I : Inv X pins σ H s) (hf : ∀ b ∈ fp, FpOk X pins H b) (ho : ∀ b ∈ fp, ∃ o, s.heap.get? b = some o ∧ ∀ v, o.data ≠ .cell v) : Inv X (pins ++ pinsAt fp s.heap) σ H s :=
  I.pins_of fun p hp => (List.mem_append.mp hp).elim (fun z => I.pin p (List.mem_append_right _ z)) fun z => by
    obtain ⟨hb, e⟩ := of_pinsAt z
    obtain ⟨f0, f1, f2, _⟩ := hf p.1 hb
    obtain ⟨o, e', d⟩ := ho p.1 hb
    rw [e] at e'; cases e'
    exact ⟨e, f0, f1, f2, d⟩
theorem Inv.unpinned {pins pl : List (Addr × Obj)} {σ : St} {H : Hp} {s : Shared} (I : Inv X (pins ++ pl) σ H s) : Inv X pins σ H s := I.pins_of fun p hp => I.pin p (List.mem_append_right _ (List.mem_append_left _ hp))
theorem ps_for {iter : Expr} {body : List Stmt} {wi : TI} {g : TG} {tb : TS} {pos : Pos} (hp : PassesOwn (model X.prog X.w) X.A X.env X.xe) (hc : X.calm = true) (hi : PI X tg iter wi) (hg : PG X tg g) (hb : PSs X body tb)
    (hs : ∀ x, foldedSetIterable iter X.env x = pure x := by intro _; rfl) : PS X (.For tg iter body [] pos) (tFor wi g tb) := by
  intro pins s σ H D I h
  refine wpAny_For (thn (hi pins s σ H _ I h) fun v s1 h1 => thn h1 fun itv s2 h2 => ?_) hs
  obtain ⟨it, fp, tn, J, H2, e, I2, T, st2, f2, W, ⟨m0, w0⟩, turn⟩ := h2
  subst e
  have stat : ∀ {H' : Hp}, (∀ b ∈ fp, H' b = none) → ∀ b ∈ fp, FpOk X pins H' b := fun hn b hb => ⟨hn b hb, (f2 b hb).2⟩
  refine codeAny_forLoop_any (fun n s' => ∃ i σ' H', Inv X pins σ' H' s' ∧ tn i s'.heap ∧ (∀ b ∈ fp, H' b = none) ∧ W i n σ' H') ?_ m0 ⟨0, σ, H2, I2, st2, fun b hb => (f2 b hb).1, w0⟩
  rintro n s3 ⟨i, σ3, H3, I3, st3, fr3, w3⟩
  rcases turn i n σ3 H3 w3 with ⟨stop, qn⟩ | ⟨go, N, hN, step⟩
  · refine wpAny_passesOwn hp (thn (T.done X rfl rfl rfl hc i pins s3 σ3 H3 X.xe I3 (stat fr3) st3 stop) fun r s4 ⟨hr, I4⟩ => ?_)
    subst hr
    exact wpAny_execs_nil ⟨σ3, H3, I4, qn⟩
  · refine wpAny_passesOwn hp (thn (T.item X rfl rfl rfl hc i pins s3 σ3 H3 X.xe I3 (stat fr3) st3 go) fun r s4 ⟨u, hr, h4⟩ => ?_)
    subst hr
    refine wpAny_passesOwn hp (thn h4 fun _ s5 ⟨x, H5, I5, r5, y5, st5, fr5⟩ => ?_)
    have I5' := I5.pinned (stat fr5) (T.obj _ _ st5)
    refine wpAny_passesOwn hp (thn (hg _ s5 σ3 H5 x u _ I5' r5 (step x H5 y5)) fun _ s6 ⟨σ6, H6, I6, q6⟩ => ?_)
    refine wpAny_passesOwn hp (thn (hb _ s6 σ6 H6 _ I6 q6) fun f s7 q7 => ?_)
    have again : ∀ {σ7 : St} {H7 : Hp}, Inv X (pins ++ pinsAt fp s5.heap) σ7 H7 s7 → N σ7 H7 → ∃ m, m < n ∧ ∃ i σ' H', Inv X pins σ' H' s7 ∧ tn i s7.heap ∧ (∀ b ∈ fp, H' b = none) ∧ W i m σ' H' := fun {σ7 H7} I7 n7 => by
      obtain ⟨m', hm, w7⟩ := hN σ7 H7 n7
      refine ⟨m', hm, i + 1, σ7, H7, I7.unpinned, T.keep _ _ _ st5 fun b hb o e => (I7.pin (b, o) (List.mem_append_right _ (List.mem_append_right _ (mem_pinsAt hb e)))).1, fun b hb => ?_, w7⟩
      obtain ⟨o, e, d⟩ := T.obj _ _ st5 b hb
      exact (I7.pin (b, o) (List.mem_append_right _ (List.mem_append_right _ (mem_pinsAt hb e)))).2.1
    cases f with
    | next => obtain ⟨σ7, H7, I7, n7⟩ := q7; exact again I7 n7
    | cont => obtain ⟨σ7, H7, I7, n7⟩ := q7; exact again I7 n7
    | brk => obtain ⟨σ7, H7, I7, q7⟩ := q7; exact ⟨σ7, H7, I7.unpinned, q7⟩
    | ret v => obtain ⟨x7, σ7, H7, I7, r7, q7⟩ := q7; exact ⟨x7, σ7, H7, I7.unpinned, r7, q7⟩
end
theorem for_list {K : PySem.W.Frag} {a : Addr} {xs : List V} {g : TG} {tb : TS} {D : Ends} {σ : St} {H : Hp} (Pv : Nat → St → Hp → Prop) (h0 : Pv 0 σ H) (hl : ∀ i σ H, i ≤ xs.length → Pv i σ H → SqL K H a xs)
    (hs : ∀ i x σ H, xs[i]? = some x → Pv i σ H → g x σ H fun σ2 H2 => tb { D with nx := Pv (i + 1), ct := Pv (i + 1), bk := D.nx } σ2 H2) (hd : ∀ σ H, Pv xs.length σ H → D.nx σ H) :
    ∃ W : Nat → Nat → St → Hp → Prop, (∃ m, W 0 m σ H) ∧ ∀ i m σ H, W i m σ H →
      ((Itl K a).stop i H ∧ D.nx σ H) ∨ ((Itl K a).go i H ∧ ∃ N : St → Hp → Prop, (∀ σ' H', N σ' H' → ∃ m', m' < m ∧ W (i + 1) m' σ' H') ∧ ∀ x H', (Itl K a).yld i H x H' → g x σ H' fun σ2 H2 => tb { D with nx := N, ct := N, bk := D.nx } σ2 H2) := by
  refine ⟨fun i m σ H => m = xs.length - i ∧ i ≤ xs.length ∧ Pv i σ H, ⟨xs.length, by simp, Nat.zero_le _, h0⟩, ?_⟩
  rintro i m σ H ⟨rfl, hi, p⟩
  have q := hl i σ H hi p
  by_cases hlt : i < xs.length
  · refine .inr ⟨⟨xs, xs[i], q, by simp [hlt]⟩, Pv (i + 1), fun σ' H' p' => ⟨xs.length - (i + 1), by omega, rfl, hlt, p'⟩, fun x H' y => ?_⟩
    obtain ⟨e, y⟩ := y
    subst e
    exact hs i x σ _ (y xs q) p
  · have e : i = xs.length := by omega
    subst e
    exact .inl ⟨⟨xs, q, Nat.le_refl _⟩, hd σ H p⟩
theorem for_range {lo : Int} {n : Nat} {g : TG} {tb : TS} {D : Ends} {σ : St} {H : Hp} (Pv : Nat → St → Hp → Prop) (h0 : Pv 0 σ H)
    (hs : ∀ i σ H, i < n → Pv i σ H → g (.int (lo + i)) σ H fun σ2 H2 => tb { D with nx := Pv (i + 1), ct := Pv (i + 1), bk := D.nx } σ2 H2) (hd : ∀ σ H, Pv n σ H → D.nx σ H) :
    ∃ W : Nat → Nat → St → Hp → Prop, (∃ m, W 0 m σ H) ∧ ∀ i m σ H, W i m σ H →
      ((Itr lo n).stop i H ∧ D.nx σ H) ∨ ((Itr lo n).go i H ∧ ∃ N : St → Hp → Prop, (∀ σ' H', N σ' H' → ∃ m', m' < m ∧ W (i + 1) m' σ' H') ∧ ∀ x H', (Itr lo n).yld i H x H' → g x σ H' fun σ2 H2 => tb { D with nx := N, ct := N, bk := D.nx } σ2 H2) := by
  refine ⟨fun i m σ H => m = n - i ∧ i ≤ n ∧ Pv i σ H, ⟨n, by simp, Nat.zero_le _, h0⟩, ?_⟩
  rintro i m σ H ⟨rfl, hi, p⟩
  by_cases hlt : i < n
  · refine .inr ⟨hlt, Pv (i + 1), fun σ' H' p' => ⟨n - (i + 1), by omega, rfl, hlt, p'⟩, fun x H' y => ?_⟩
    obtain ⟨e, y⟩ := y
    subst e y
    exact hs i σ _ hlt p
  · have e : i = n := by omega
    subst e
    exact .inl ⟨Nat.le_refl _, hd σ H p⟩
end L2
namespace L2
open PySem PySem.Spec PyProof.Rows
abbrev R2 := V → V → Hp → VK → Prop
def OpR (X : Cx) (f : Value → Value → Sem Value) (r : R2) : Prop :=
  ∀ (pins : List (Addr × Obj)) (s : Shared) (σ : St) (H : Hp) (x y : V) (v u : Value) (Q : VK), Inv X pins σ H s → RelV x v → RelV y u → r x y H Q →
    wpAny (model X.prog X.w) X.A (f v u) (EP X pins σ Q) X.xe s
def UnR (X : Cx) (f : Value → Sem Value) (r : V → Hp → VK → Prop) : Prop :=
  ∀ (pins : List (Addr × Obj)) (s : Shared) (σ : St) (H : Hp) (x : V) (v : Value) (Q : VK), Inv X pins σ H s → RelV x v → r x H Q →
    wpAny (model X.prog X.w) X.A (f v) (EP X pins σ Q) X.xe s
def CallR (X : Cx) (f : Value) (r : List V → Hp → VK → Prop) : Prop :=
  ∀ (pins : List (Addr × Obj)) (s : Shared) (σ : St) (H : Hp) (xs : List V) (us : List Value) (Q : VK), Inv X pins σ H s → Vals xs us → r xs H Q →
    wpAny (model X.prog X.w) X.A (call f us) (EP X pins σ Q) X.xe s
def TruR (X : Cx) (r : V → Hp → (Bool → Hp → Prop) → Prop) : Prop :=
  ∀ (pins : List (Addr × Obj)) (s : Shared) (σ : St) (H : Hp) (x : V) (v : Value) (Q : Bool → Hp → Prop), Inv X pins σ H s → RelV x v → r x H Q →
    wpAny (model X.prog X.w) X.A (truthy v) (TP X pins σ Q) X.xe s
def tOp (r : R2) (ta tb : TE) : TE := fun σ H Q => ta σ H fun x H1 => tb σ H1 fun y H2 => r x y H2 Q
def tUn (r : V → Hp → VK → Prop) (ta : TE) : TE := fun σ H Q => ta σ H fun x H1 => r x H1 Q
def rI (C : Int → Int → Prop) (g : Int → Int → V) : R2 := fun x y H Q => ∃ i j, x = .int i ∧ y = .int j ∧ C i j ∧ Q (g i j) H
def rI0 (g : Int → Int → V) : R2 := fun x y H Q => ∃ i j, x = .int i ∧ y = .int j ∧ Q (g i j) H
def rU (g : Int → V) : V → Hp → VK → Prop := fun x H Q => ∃ i, x = .int i ∧ Q (g i) H
section
variable {X : Cx} {a b c : Expr} {ta tb tc : TE} {pos : Pos}
theorem binT (ha : PE X a ta) (hb : PE X b tb) {pins : List (Addr × Obj)} {s : Shared} {σ : St} {H : Hp} {R : V → V → Hp → Prop} (I : Inv X pins σ H s)
    (h : ta σ H fun x H1 => tb σ H1 fun y H2 => R x y H2) {Q : Value → Shared → Prop} {f : Value → Value → Sem Value}
    (hf : ∀ v u s2 x y H2, Inv X pins σ H2 s2 → RelV x v → RelV y u → R x y H2 → wpAny (model X.prog X.w) X.A (f v u) Q X.xe s2) :
    wpAny (model X.prog X.w) X.A (eval a X.env) (fun v s₁ => wpAny (model X.prog X.w) X.A (eval b X.env) (fun u s₂ => wpAny (model X.prog X.w) X.A (f v u) Q X.xe s₂) X.xe s₁) X.xe s := by
  refine thn (ha pins s σ H _ I h) fun v s1 ⟨x, H1, I1, r1, q1⟩ => ?_
  refine thn (hb pins s1 σ H1 _ I1 q1) fun u s2 ⟨y, H2, I2, r2, q2⟩ => ?_
  exact hf v u s2 x y H2 I2 r1 r2 q2
theorem pe_op {op : Operator} {r : R2} (ho : OpR X (binaryOp op) r) (ha : PE X a ta) (hb : PE X b tb) : PE X (.BinOp a op b pos) (tOp r ta tb) := by
  intro pins s σ H Q I h
  exact wpAny_BinOp (binT ha hb I h fun v u s2 x y H2 I2 rx ry q => ho pins s2 σ H2 x y v u Q I2 rx ry q)
theorem pe_un {op : UnaryOp} {r : V → Hp → VK → Prop} (ho : UnR X (unaryOp op) r) (ha : PE X a ta) : PE X (.UnaryOp op a pos) (tUn r ta) := by
  intro pins s σ H Q I h
  exact UnaryOp_ (thn (ha pins s σ H _ I h) fun v s1 ⟨x, H1, I1, r1, q1⟩ => ho pins s1 σ H1 x v Q I1 r1 q1)
theorem opI {f : Value → Value → Sem Value} {C : Int → Int → Prop} {g : Int → Int → Int}
    (rule : ∀ (i j : Int) (t u : Tok) (s : Shared) (Q : Value → Shared → Prop) (E : Value → Shared → Prop), C i j → Q (.int (g i j) s.toks) { s with toks := s.toks + 1 } → wpAny (model X.prog X.w) X.A (f (.int i t) (.int j u)) Q E s) :
    OpR X f (rI C fun i j => .int (g i j)) := by
  intro pins s σ H x y v u Q I rx ry h
  obtain ⟨i, j, rfl, rfl, hc, q⟩ := h
  obtain ⟨t, rfl⟩ := rx
  obtain ⟨t', rfl⟩ := ry
  exact rule i j t t' s _ _ hc ⟨.int (g i j), H, I.tok _, ⟨_, rfl⟩, q⟩
theorem opI0 {f : Value → Value → Sem Value} {g : Int → Int → Int}
    (rule : ∀ (i j : Int) (t u : Tok) (s : Shared) (Q : Value → Shared → Prop) (E : Value → Shared → Prop), Q (.int (g i j) s.toks) { s with toks := s.toks + 1 } → wpAny (model X.prog X.w) X.A (f (.int i t) (.int j u)) Q E s) :
    OpR X f (rI0 fun i j => .int (g i j)) := by
  intro pins s σ H x y v u Q I rx ry h
  obtain ⟨i, j, rfl, rfl, q⟩ := h
  obtain ⟨t, rfl⟩ := rx
  obtain ⟨t', rfl⟩ := ry
  exact rule i j t t' s _ _ ⟨.int (g i j), H, I.tok _, ⟨_, rfl⟩, q⟩
theorem opB0 {f : Value → Value → Sem Value} {g : Int → Int → Bool}
    (rule : ∀ (i j : Int) (t u : Tok) (s : Shared) (Q : Value → Shared → Prop) (E : Value → Shared → Prop), Q (.bool (g i j)) s → wpAny (model X.prog X.w) X.A (f (.int i t) (.int j u)) Q E s) :
    OpR X f (rI0 fun i j => .bl (g i j)) := by
  intro pins s σ H x y v u Q I rx ry h
  obtain ⟨i, j, rfl, rfl, q⟩ := h
  obtain ⟨t, rfl⟩ := rx
  obtain ⟨t', rfl⟩ := ry
  exact rule i j t t' s _ _ ⟨.bl (g i j), H, I, rfl, q⟩
def CDiv (i j : Int) : Prop := 0 < j ∧ j < 1073741824
def CPow (i j : Int) : Prop := 0 ≤ j ∧ j ≤ 1000000 ∧ i.natAbs < 2 ^ 64
theorem op_add : OpR X (binaryOp .Add) (rI0 fun i j => .int (i + j)) := opI0 fun _ _ _ _ _ _ _ q => add_int q
theorem op_sub : OpR X (binaryOp .Sub) (rI0 fun i j => .int (i - j)) := opI0 fun _ _ _ _ _ _ _ q => sub_int q
theorem op_fdiv : OpR X (binaryOp .FloorDiv) (rI CDiv fun i j => .int (i / j)) := opI fun i j _ _ _ _ _ hc q => by
  have h1 : (0 : Int) < j := hc.1
  have h2 : j < 1073741824 := hc.2
  exact floordiv_int (by omega) (by rw [Int.fdiv_eq_ediv_of_nonneg i (by omega)]; exact q) (.inl (PyProof.noPylong_small (by omega)))
theorem op_mod : OpR X (binaryOp .Mod) (rI (fun _ j => 0 < j) fun i j => .int (i % j)) := opI fun i j _ _ _ _ _ hc q => by
  have h1 : (0 : Int) < j := hc
  exact mod_int' (by omega) (by rw [Int.fmod_eq_emod_of_nonneg i (by omega)]; exact q)
theorem op_pow : OpR X (binaryOp .Pow) (rI CPow fun i j => .int (i ^ j.toNat)) := opI fun _ _ _ _ _ _ _ hc q => pow_int_small hc.1 hc.2.1 hc.2.2 q
theorem unI {f : Value → Sem Value} {g : Int → Int}
    (rule : ∀ (i : Int) (t : Tok) (s : Shared) (Q : Value → Shared → Prop) (E : Value → Shared → Prop), Q (.int (g i) s.toks) { s with toks := s.toks + 1 } → wpAny (model X.prog X.w) X.A (f (.int i t)) Q E s) :
    UnR X f (rU fun i => .int (g i)) := by
  intro pins s σ H x v Q I rx h
  obtain ⟨i, rfl, q⟩ := h
  obtain ⟨t, rfl⟩ := rx
  exact rule i t s _ _ ⟨.int (g i), H, I.tok _, ⟨_, rfl⟩, q⟩
theorem un_neg : UnR X (unaryOp .USub) (rU fun i => .int (-i)) := unI fun _ _ _ _ _ q => neg_int q
end
def scal : V → V → Bool
  | .non, .non => true | .non, .int _ => true | .int _, .non => true | .non, .bl _ => true | .bl _, .non => true | .non, .str _ => true | .str _, .non => true
  | .int _, .int _ => true | .bl _, .bl _ => true | .str _, .str _ => true | .byt _, .byt _ => true
  | .int _, .str _ => true | .str _, .int _ => true | .bl _, .str _ => true | .str _, .bl _ => true
  | _, _ => false
def rEq : R2 := fun x y H Q => scal x y = true ∧ Q (.bl (decide (x = y))) H
def rNe : R2 := fun x y H Q => scal x y = true ∧ Q (.bl (!decide (x = y))) H
theorem dec_int {i j : Int} : decide (V.int i = V.int j) = (i == j) := by
  rw [Bool.eq_iff_iff]
  simp
theorem dec_bl {i j : Bool} : decide (V.bl i = V.bl j) = (i == j) := by
  rw [Bool.eq_iff_iff]
  simp
theorem dec_str {i j : Str} : decide (V.str i = V.str j) = (i == j) := by
  rw [Bool.eq_iff_iff]
  simp
theorem dec_byt {i j : Array UInt8} : decide (V.byt i = V.byt j) = (i.toList == j.toList) := by
  rw [Bool.eq_iff_iff]
  cases i
  cases j
  simp
section
variable {X : Cx} {a b c : Expr} {ta tb tc : TE} {pos : Pos}
theorem fin_bl {pins : List (Addr × Obj)} {σ : St} {H : Hp} {s : Shared} {Q : VK} {k k' : Bool} (I : Inv X pins σ H s) (q : Q (.bl k) H) (e : k = k') : EP X pins σ Q (.bool k') s := by
  subst e
  exact ⟨.bl k, H, I, rfl, q⟩
theorem op_eq : OpR X (compareOp .Eq) rEq := by
  intro pins s σ H x y v u Q I rx ry h
  obtain ⟨hs, q⟩ := h
  cases x with
  | non =>
    cases rx
    cases y with
    | non => cases ry; exact PySem.EqNone.eq_none_none (fin_bl I q (by simp))
    | bl j => cases ry; exact PySem.EqNone.eq_none_bool (fin_bl I q (by simp))
    | int j => obtain ⟨t', rfl⟩ := ry; exact PySem.EqNone.eq_none_int (fin_bl I q (by simp))
    | str j => obtain ⟨t', rfl⟩ := ry; exact PySem.EqNone.eq_none_str (fin_bl I q (by simp))
    | _ => exact absurd (show false = true from hs) Bool.false_ne_true
  | bl i =>
    cases rx
    cases y with
    | non => cases ry; exact PySem.EqNone.eq_bool_none (fin_bl I q (by simp))
    | bl j => cases ry; exact eq_bool (fin_bl I q dec_bl)
    | str j => obtain ⟨t', rfl⟩ := ry; exact PySem.EqMixed.eq_bool_str (fin_bl I q (by simp))
    | _ => exact absurd (show false = true from hs) Bool.false_ne_true
  | int i =>
    obtain ⟨t, rfl⟩ := rx
    cases y with
    | non => cases ry; exact PySem.EqNone.eq_int_none (fin_bl I q (by simp))
    | int j => obtain ⟨t', rfl⟩ := ry; exact eq_int (fin_bl I q dec_int)
    | str j => obtain ⟨t', rfl⟩ := ry; exact PySem.EqMixed.eq_int_str (fin_bl I q (by simp))
    | _ => exact absurd (show false = true from hs) Bool.false_ne_true
  | str i =>
    obtain ⟨t, rfl⟩ := rx
    cases y with
    | non => cases ry; exact PySem.EqNone.eq_str_none (fin_bl I q (by simp))
    | bl j => cases ry; exact PySem.EqMixed.eq_str_bool (fin_bl I q (by simp))
    | int j => obtain ⟨t', rfl⟩ := ry; exact PySem.EqMixed.eq_str_int (fin_bl I q (by simp))
    | str j => obtain ⟨t', rfl⟩ := ry; exact eq_str (fin_bl I q dec_str)
    | _ => exact absurd (show false = true from hs) Bool.false_ne_true
  | byt i =>
    obtain ⟨t, rfl⟩ := rx
    cases y with
    | byt j => obtain ⟨t', rfl⟩ := ry; exact PySem.W.eq_bytes (fin_bl I q dec_byt)
    | _ => exact absurd (show false = true from hs) Bool.false_ne_true
  | _ => cases y <;> exact absurd (show false = true from hs) Bool.false_ne_true
theorem op_ne : OpR X (compareOp .NotEq) rNe := by
  intro pins s σ H x y v u Q I rx ry h
  obtain ⟨hs, q⟩ := h
  cases x with
  | non =>
    cases rx
    cases y with
    | non => cases ry; exact PySem.EqNone.ne_none_none (fin_bl I q (by simp))
    | bl j => cases ry; exact PySem.EqNone.ne_none_bool (fin_bl I q (by simp))
    | int j => obtain ⟨t', rfl⟩ := ry; exact PySem.EqNone.ne_none_int (fin_bl I q (by simp))
    | str j => obtain ⟨t', rfl⟩ := ry; exact PySem.EqNone.ne_none_str (fin_bl I q (by simp))
    | _ => exact absurd (show false = true from hs) Bool.false_ne_true
  | bl i =>
    cases rx
    cases y with
    | non => cases ry; exact PySem.EqNone.ne_bool_none (fin_bl I q (by simp))
    | bl j => cases ry; exact ne_bool (fin_bl I q (congrArg not dec_bl))
    | str j => obtain ⟨t', rfl⟩ := ry; exact PySem.EqMixed.ne_bool_str (fin_bl I q (by simp))
    | _ => exact absurd (show false = true from hs) Bool.false_ne_true
  | int i =>
    obtain ⟨t, rfl⟩ := rx
    cases y with
    | non => cases ry; exact PySem.EqNone.ne_int_none (fin_bl I q (by simp))
    | int j => obtain ⟨t', rfl⟩ := ry; exact ne_int (fin_bl I q (congrArg not dec_int))
    | str j => obtain ⟨t', rfl⟩ := ry; exact PySem.EqMixed.ne_int_str (fin_bl I q (by simp))
    | _ => exact absurd (show false = true from hs) Bool.false_ne_true
  | str i =>
    obtain ⟨t, rfl⟩ := rx
    cases y with
    | non => cases ry; exact PySem.EqNone.ne_str_none (fin_bl I q (by simp))
    | bl j => cases ry; exact PySem.EqMixed.ne_str_bool (fin_bl I q (by simp))
    | int j => obtain ⟨t', rfl⟩ := ry; exact PySem.EqMixed.ne_str_int (fin_bl I q (by simp))
    | str j => obtain ⟨t', rfl⟩ := ry; exact ne_str (fin_bl I q (congrArg not dec_str))
    | _ => exact absurd (show false = true from hs) Bool.false_ne_true
  | byt i =>
    obtain ⟨t, rfl⟩ := rx
    cases y with
    | byt j => obtain ⟨t', rfl⟩ := ry; exact PySem.W.ne_bytes (fin_bl I q (congrArg not dec_byt))
    | _ => exact absurd (show false = true from hs) Bool.false_ne_true
  | _ => cases y <;> exact absurd (show false = true from hs) Bool.false_ne_true
theorem op_lt : OpR X (compareOp .Lt) (rI0 fun i j => .bl (decide (i < j))) := opB0 fun _ _ _ _ _ _ _ q => lt_int q
theorem op_le : OpR X (compareOp .LtE) (rI0 fun i j => .bl (decide (i ≤ j))) := opB0 fun _ _ _ _ _ _ _ q => le_int q
theorem op_gt : OpR X (compareOp .Gt) (rI0 fun i j => .bl (decide (j < i))) := opB0 fun _ _ _ _ _ _ _ q => gt_int q
theorem op_in_str : OpR X (compareOp .In) (fun x y H Q => ∃ i j, x = .str i ∧ y = .str j ∧ Q (.bl (!(Builtin.Str.occurrences j i 0 j.length 1).isEmpty)) H) := by
  intro pins s σ H x y v u Q I rx ry h
  obtain ⟨i, j, rfl, rfl, q⟩ := h
  obtain ⟨t, rfl⟩ := rx
  obtain ⟨t', rfl⟩ := ry
  exact in_str (fin_bl I q rfl)
theorem op_isN : OpR X (compareOp .Is) (fun x y H Q => y = .non ∧ Q (.bl (decide (x = .non))) H) := by
  intro pins s σ H x y v u Q I rx ry h
  obtain ⟨rfl, q⟩ := h
  cases ry
  refine is_none_gen (fin_bl I q ?_)
  cases x <;> first
    | (cases rx; rfl)
    | (obtain ⟨t, rfl⟩ := rx; rfl)
theorem op_notN : OpR X (compareOp .IsNot) (fun x y H Q => y = .non ∧ Q (.bl (!decide (x = .non))) H) := by
  intro pins s σ H x y v u Q I rx ry h
  obtain ⟨rfl, q⟩ := h
  cases ry
  refine isnot_none_gen (fin_bl I q ?_)
  cases x <;> first
    | (cases rx; rfl)
    | (obtain ⟨t, rfl⟩ := rx; rfl)
theorem op_notin_str : OpR X (compareOp .NotIn) (fun x y H Q => ∃ i j, x = .str i ∧ y = .str j ∧ Q (.bl (!(!(Builtin.Str.occurrences j i 0 j.length 1).isEmpty))) H) := by
  intro pins s σ H x y v u Q I rx ry h
  obtain ⟨i, j, rfl, rfl, q⟩ := h
  obtain ⟨t, rfl⟩ := rx
  obtain ⟨t', rfl⟩ := ry
  exact notIn_str (fin_bl I q rfl)
theorem OpR.or {f : Value → Value → Sem Value} {r r' : R2} (h : OpR X f r) (h' : OpR X f r') : OpR X f (fun x y H Q => r x y H Q ∨ r' x y H Q) := by
  intro pins s σ H x y v u Q I rx ry q
  rcases q with q | q
  · exact h pins s σ H x y v u Q I rx ry q
  · exact h' pins s σ H x y v u Q I rx ry q
theorem nomark (b : Expr) {op : CmpOp} (h : op ≠ .In := by decide) (h2 : op ≠ .NotIn := by decide) : behindInMarks op b = false := by
  have e1 : (op == CmpOp.In) = false := by cases op <;> first | rfl | exact absurd rfl h
  have e2 : (op == CmpOp.NotIn) = false := by cases op <;> first | rfl | exact absurd rfl h2
  cases b <;> simp [behindInMarks, e1, e2]
theorem pe_cmpR {op : CmpOp} {r : R2} (ho : OpR X (compareOp op) r) (ha : PE X a ta) (hb : PE X b tb) (hm : behindInMarks op b = false) : PE X (.Compare a [op] [b] pos) (tOp r ta tb) := by
  intro pins s σ H Q I h
  exact wpAny_Compare1 (binT ha hb I h fun v u s2 x y H2 I2 rx ry q => ho pins s2 σ H2 x y v u Q I2 rx ry q) hm
def tTest (t : TE) : TT := fun σ H Q => t σ H fun x H' => ∃ k, x = .bl k ∧ Q k H'
theorem pt_cmpR {op : CmpOp} {r : R2} (ho : OpR X (compareOp op) r) (ha : PE X a ta) (hb : PE X b tb) (hm : behindInMarks op b = false) : PT X (.Compare a [op] [b] pos) (tTest (tOp r ta tb)) := by
  intro pins s σ H Q I h
  refine wpAny_isTrue_Compare1 (thn (ha pins s σ H _ I h) fun v s1 ⟨x, H1, I1, r1, q1⟩ => thn (hb pins s1 σ H1 _ I1 q1) fun u s2 ⟨y, H2, I2, r2, q2⟩ =>
    thn (ho pins s2 σ H2 x y v u _ I2 r1 r2 q2) fun c s3 ⟨z, H3, I3, r3, k, e, q3⟩ => ?_) hm
  subst e
  cases r3
  exact wpAny_truthy_bool ⟨H3, I3, q3⟩
def tChain (r r' : R2) (ta tb tc : TE) : TE := fun σ H Q => ta σ H fun x H1 => tb σ H1 fun y H2 => r x y H2 fun z H3 => ∃ k, z = .bl k ∧
  (if k = true then tc σ H3 fun w' H4 => r' y w' H4 Q else Q (.bl false) H3)
def TruV (K : PySem.W.Frag) (x : V) (H : Hp) (k : Bool) : Prop :=
  match x with
  | .non => k = false
  | .bl b => k = b
  | .int i => k = (i != 0)
  | .str y => y.length ≤ sizeLine ∧ k = ((y.length : Int) != 0)
  | .byt y => y.size ≤ sizeLine ∧ k = ((y.size : Int) != 0)
  | .ref p => (∃ xs, SqL K H p xs ∧ k = !xs.isEmpty) ∨ (∃ xs, SqT K H p xs ∧ k = !xs.isEmpty) ∨ ∃ kvs, H p = some (.dK kvs) ∧ k = !kvs.isEmpty
  | _ => False
theorem isEmpty_kv {κ : Type} {kvs : List (κ × V)} {vs : List (κ × Value)} (r : KV kvs vs) : (!vs.isEmpty) = !kvs.isEmpty := by
  cases r <;> rfl
theorem isEmpty_of {xs : List V} {its : List Value} (r : Vals xs its) : (!its.toArray.isEmpty) = !xs.isEmpty := by
  cases r <;> simp
theorem line63 : (sizeLine : Nat) < 2 ^ 63 := by rw [sizeLine_eq]; decide
theorem tru_ok : TruR X (fun x H Q => ∃ k, TruV X.K x H k ∧ Q k H) := by
  intro pins s σ H x v Q I rx h
  obtain ⟨k, e, q⟩ := h
  have hl := line63
  have hs : sizeLine = 16777216 := sizeLine_eq
  cases x with
  | non =>
    cases rx
    have e' : k = false := e
    subst e'
    exact truthy_none ⟨H, I, q⟩
  | bl b =>
    cases rx
    have e' : k = b := e
    subst e'
    exact wpAny_truthy_bool ⟨H, I, q⟩
  | int i =>
    obtain ⟨t, rfl⟩ := rx
    have e' : k = (i != 0) := e
    subst e'
    exact PySem.P.truthy_int ⟨H, I, q⟩
  | str y =>
    obtain ⟨t, rfl⟩ := rx
    obtain ⟨hy, e'⟩ : y.length ≤ sizeLine ∧ k = ((y.length : Int) != 0) := e
    subst e'
    exact PySem.P.truthy_str (by omega) ⟨H, I.tok _, q⟩
  | byt y =>
    obtain ⟨t, rfl⟩ := rx
    obtain ⟨hy, e'⟩ : y.size ≤ sizeLine ∧ k = ((y.size : Int) != 0) := e
    subst e'
    exact PySem.W.truthy_bytes (by omega) ⟨H, I.tok _, q⟩
  | ref p =>
    cases rx
    have e' : (∃ xs, SqL X.K H p xs ∧ k = !xs.isEmpty) ∨ (∃ xs, SqT X.K H p xs ∧ k = !xs.isEmpty) ∨ ∃ kvs, H p = some (.dK kvs) ∧ k = !kvs.isEmpty := e
    rcases e' with ⟨xs, hx, e'⟩ | ⟨xs, hx, e'⟩ | ⟨kvs, hx, e'⟩
    · subst e'
      obtain ⟨its, r, pl, hz⟩ := I.list hx
      have hlen := r.length
      exact wpAny_truthy_list pl.isList (by simp only [List.size_toArray]; omega) ⟨H, I.tok _, by rw [isEmpty_of r]; exact q⟩
    · subst e'
      obtain ⟨its, r, pl, hz⟩ := I.tuple hx
      have hlen := r.length
      exact truthy_tuple pl (by simp only [List.size_toArray]; omega) ⟨H, I.tok _, by rw [isEmpty_of r]; exact q⟩
    · subst e'
      obtain ⟨hz, hS, vs, r, m⟩ : kvs.length ≤ sizeLine ∧ (p == sysModules) = false ∧ ∃ vs, KV kvs vs ∧ s.heap.DictOf (mixKind X.prog X.w) p vs := I.hok p _ hx
      have hlen : kvs.length = vs.length := Paired.length r
      exact wpAny_truthy_dict hS m (by omega) ⟨H, I.tok _, by rw [isEmpty_kv r]; exact q⟩
  | _ => exact (show False from e).elim
theorem pt_truth (ha : PE X a ta) (he : ∀ whole, isTrue a X.env whole = (do let v ← whole; standAt a.pos; holding [v] (truthy v))) :
    PT X a (fun σ H Q => ta σ H fun x H' => ∃ k, TruV X.K x H' k ∧ Q k H') := by
  intro pins s σ H Q I h
  exact isTrue_plain (thn (ha pins s σ H _ I h) fun v s1 ⟨x, H1, I1, r1, q1⟩ => tru_ok pins s1 σ H1 x v Q I1 r1 q1) (he _)
theorem op_add_str : OpR X (binaryOp .Add) (fun x y H Q => ∃ i j, x = .str i ∧ y = .str j ∧ i.length + j.length ≤ sizeLine ∧ Q (.str (i ++ j)) H) := by
  intro pins s σ H x y v u Q I rx ry h
  obtain ⟨i, j, rfl, rfl, hz, q⟩ := h
  obtain ⟨t, rfl⟩ := rx
  obtain ⟨t', rfl⟩ := ry
  exact add_str (fun t' tk => ⟨.str (i ++ j), H, I.tok _, ⟨_, rfl⟩, q⟩) hz
theorem vals1 {x : V} {us : List Value} (r : Vals [x] us) : ∃ u, us = [u] ∧ RelV x u := by
  cases r with
  | cons r1 r2 => cases r2; exact ⟨_, rfl, r1⟩
theorem vals2 {x y : V} {us : List Value} (r : Vals [x, y] us) : ∃ u w', us = [u, w'] ∧ RelV x u ∧ RelV y w' := by
  cases r with
  | cons r1 r2 =>
    cases r2 with
    | cons r3 r4 => cases r4; exact ⟨_, _, rfl, r1, r3⟩
theorem call_abs : CallR X (.builtin "abs") (fun xs H Q => ∃ i, xs = [.int i] ∧ Q (.int (if i < 0 then -i else i)) H) := by
  intro pins s σ H xs us Q I r h
  obtain ⟨i, rfl, q⟩ := h
  obtain ⟨u, rfl, t, rfl⟩ := vals1 r
  exact call_abs_int fun u tk => ⟨.int (if i < 0 then -i else i), H, I.tok _, ⟨_, rfl⟩, q⟩
theorem call_max2 (hc : X.calm = true) : CallR X (.builtin "max") (fun xs H Q => ∃ i j, xs = [.int i, .int j] ∧ Q (.int (if j > i then j else i)) H) := by
  intro pins s σ H xs us Q I r h
  obtain ⟨i, j, rfl, q⟩ := h
  obtain ⟨u, w', rfl, ⟨t, rfl⟩, ⟨t', rfl⟩⟩ := vals2 r
  refine max_two_ints (I.ok.hd hc) fun h' tk k => ⟨_, H, I.kept k, ?_, q⟩
  by_cases hj : j > i
  · rw [if_pos hj, if_pos hj]; exact ⟨_, rfl⟩
  · rw [if_neg hj, if_neg hj]; exact ⟨_, rfl⟩
theorem call_min2 (hc : X.calm = true) : CallR X (.builtin "min") (fun xs H Q => ∃ i j, xs = [.int i, .int j] ∧ Q (.int (if j < i then j else i)) H) := by
  intro pins s σ H xs us Q I r h
  obtain ⟨i, j, rfl, q⟩ := h
  obtain ⟨u, w', rfl, ⟨t, rfl⟩, ⟨t', rfl⟩⟩ := vals2 r
  refine min_two_ints (I.ok.hd hc) fun h' tk k => ⟨_, H, I.kept k, ?_, q⟩
  by_cases hj : j < i
  · rw [if_pos hj, if_pos hj]; exact ⟨_, rfl⟩
  · rw [if_neg hj, if_neg hj]; exact ⟨_, rfl⟩
theorem call_int1 : CallR X (.type "int") (fun xs H Q => (∃ i, xs = [.int i] ∧ Q (.int i) H) ∨ ∃ k, xs = [.bl k] ∧ Q (.int (if k then 1 else 0)) H) := by
  intro pins s σ H xs us Q I r h
  rcases h with ⟨i, rfl, q⟩ | ⟨k, rfl, q⟩
  · obtain ⟨u, rfl, t, rfl⟩ := vals1 r
    exact call_int_int ⟨.int i, H, I, ⟨_, rfl⟩, q⟩
  · obtain ⟨u, rfl, r1⟩ := vals1 r
    cases r1
    exact call_int_bool ⟨.int (if k then 1 else 0), H, I.tok _, ⟨_, rfl⟩, q⟩
theorem call_str_int : CallR X (.type "str") (fun xs H Q => ∃ i, xs = [.int i] ∧ i.natAbs.log2 < 1920 ∧ Q (.str (toString i)) H) := by
  intro pins s σ H xs us Q I r h
  obtain ⟨i, rfl, hz, q⟩ := h
  obtain ⟨u, rfl, t, rfl⟩ := vals1 r
  exact PySem.P.str_of_int hz ⟨.str _, H, I.tok _, ⟨_, rfl⟩, q⟩
theorem call_divmod : CallR X (.builtin "divmod") (fun xs H Q => ∃ i j, xs = [.int i, .int j] ∧ CDiv i j ∧ ∀ p, H p = none → Q (.ref p) (upd H p (.tup [.int (i / j), .int (i % j)]))) := by
  intro pins s σ H xs us Q I r h
  obtain ⟨i, j, rfl, ⟨h1, h2⟩, q⟩ := h
  obtain ⟨u, w', rfl, ⟨t, rfl⟩, ⟨t', rfl⟩⟩ := vals2 r
  refine divmod_int (by omega) ?_ (.inl (PyProof.noPylong_small (by omega)))
  rw [Int.fdiv_eq_ediv_of_nonneg i (by omega), Int.fmod_eq_emod_of_nonneg i (by omega)]
  have hn : H s.heap.objs.size = none := I.hok.fresh (Nat.le_refl _)
  refine ⟨.ref s.heap.objs.size, _, ?_, rfl, q _ hn⟩
  refine I.laid (fun b o e => Heap.get?_push_of_some _ e) (Nat.le_refl _) ⟨by simp only [List.length_cons, List.length_nil]; rw [sizeLine_eq]; decide, [.int (i / j) s.toks, .int (i % j) (s.toks + 1)], .cons ⟨_, rfl⟩ (.cons ⟨_, rfl⟩ .nil), ?_⟩
  exact ⟨_, Heap.get?_push_size s.heap rfl, rfl, 0, rfl⟩
end
end L2
namespace L2
open PySem PySem.Spec PyProof.Rows
structure ObjM (h : Heap) (x dx C : Addr) (mA : Str → Option Value) : Prop where
  obj : h.get? x = some (PySem.W.instObj C dx)
  ns : h.Ns1 dx mA
  ne : dx ≠ x
theorem lookIn_ns {h : Heap} {dx : Addr} {mA : Str → Option Value} (n : h.Ns1 dx mA) : ∃ od, h.get? dx = some od ∧ ∀ name, PySem.W.lookIn name od = some (mA name) := by
  obtain ⟨o, es, ep, ho, hd, hk, _, hm⟩ := n
  refine ⟨o, ho, fun name => ?_⟩
  have e := hm name
  unfold nsFind findBy at e
  rw [← Array.find?_toList] at e
  unfold PySem.W.lookIn
  rw [hd]
  dsimp only
  split
  · rename_i y q
    rw [q] at e
    exact congrArg some e
  · rename_i q
    rw [q] at e
    have a : es.toList.any (·.refKey) = false := by
      rw [List.any_eq_false]
      intro y hy
      obtain ⟨z, t, hkey⟩ := hk y (Array.mem_toList_iff.mp hy)
      simp [DictEntry.refKey, hkey]
    have a' : ¬ es.toList.any (·.refKey) = true := by rw [a]; exact Bool.false_ne_true
    rw [if_neg a']
    exact congrArg some e
theorem ObjM.look {h : Heap} {x dx C : Addr} {mA : Str → Option Value} (I : ObjM h x dx C mA) : ∃ od, PySem.W.InstAt h x (PySem.W.instObj C dx) C (some od) ∧ ∀ name, PySem.W.lookIn name od = some (mA name) :=
  let ⟨od, ho, hl⟩ := lookIn_ns I.ns
  ⟨od, ⟨I.obj, rfl, rfl, ho⟩, hl⟩
section
variable {prog : Program} {w : World} {A : Around} {E : Value → Shared → Prop} {s : Shared} {K : PySem.W.Frag} {x dx C f : Addr} {mA : Str → Option Value} {name : Str} {v : Value}
end
def putF (f : Str) (v : V) : List (Str × V) → List (Str × V)
  | [] => [(f, v)]
  | (g, x) :: r => if g = f then (g, v) :: r else (g, x) :: putF f v r
theorem lookup_putF (f g : Str) (v : V) : ∀ fs : List (Str × V), (putF f v fs).lookup g = if g = f then some v else fs.lookup g
  | [] => by
    show List.lookup g [(f, v)] = _
    by_cases h : g = f
    · have hb : (g == f) = true := beq_iff_eq.mpr h
      simp only [List.lookup, hb, if_pos h]
    · have hb : (g == f) = false := beq_eq_false_iff_ne.mpr h
      simp only [List.lookup, hb, if_neg h]
  | (k, x) :: r => by
    have ih := lookup_putF f g v r
    rw [show putF f v ((k, x) :: r) = (if k = f then (k, v) :: r else (k, x) :: putF f v r) from rfl]
    by_cases hk : k = f
    · rw [if_pos hk]
      by_cases h : g = k
      · have hb : (g == k) = true := beq_iff_eq.mpr h
        simp only [List.lookup, hb, if_pos (h.trans hk)]
      · have hb : (g == k) = false := beq_eq_false_iff_ne.mpr h
        simp only [List.lookup, hb, if_neg (fun e : g = f => h (e.trans hk.symm))]
    · rw [if_neg hk]
      by_cases h : g = k
      · have hb : (g == k) = true := beq_iff_eq.mpr h
        simp only [List.lookup, hb, if_neg (fun e : g = f => hk (h.symm.trans e))]
      · have hb : (g == k) = false := beq_eq_false_iff_ne.mpr h
        simp only [List.lookup, hb]
        exact ih
theorem RelO.some_of {v : V} {o : Option Value} (r : RelO (some v) o) : ∃ u, o = some u ∧ RelV v u := by
  cases o with
  | none => exact (show False from r).elim
  | some u => exact ⟨u, rfl, r⟩
theorem handed_of {v : V} {u : Value} (r : RelV v u) : PySem.W.handedIn u = true := by
  cases v with
  | non => cases (show u = Value.none from r); rfl
  | bl b => cases (show u = Value.bool b from r); rfl
  | int i => obtain ⟨t, e⟩ := (show ∃ t, u = Value.int i t from r); cases e; rfl
  | str x => obtain ⟨t, e⟩ := (show ∃ t, u = Value.str x t from r); cases e; rfl
  | byt b => obtain ⟨t, e⟩ := (show ∃ t, u = Value.bytes b t from r); cases e; rfl
  | flt b => obtain ⟨t, e⟩ := (show ∃ t, u = Value.float b t from r); cases e; rfl
  | ref a => cases (show u = Value.ref a from r); rfl
  | ty n => cases (show u = Value.type n from r); rfl
section
variable {P : Program} {w : World} {H H' : Hp} {h h' : Heap} {a C dx : Addr} {fs fs' : List (Str × V)}
theorem ins_get (hok : HOk P w H h) (e : H a = some (.ins C dx fs)) : ∃ mA, ObjM h a dx C mA ∧ (∀ f, RelO (fs.lookup f) (mA f)) ∧ PySem.Within mA (fs.map (·.1)) ∧ fs.length ≤ 1000 ∧ H dx = some (.own a) := by
  obtain ⟨d, z, ne, ob, mA, n, r, q⟩ := (show ObjOk P w H h a (.ins C dx fs) from hok a _ e)
  exact ⟨mA, ⟨ob, n, ne⟩, r, q, z, d⟩
end
structure Cls (K : PySem.W.Frag) (C : Addr) : Prop where
  pg : PySem.W.plainGet K C Str.empty = true
  hd : PySem.W.hasDictIn K C = true
  po : PySem.W.plainOver K C = true
  sa : PySem.W.findIn K (.ref C) "__setattr__" = some (some (.builtin "object.__setattr__"))
theorem Cls.get {K : PySem.W.Frag} {C : Addr} (c : Cls K C) (f : Str) : PySem.W.plainGet K C f = true := c.pg
def NoAttr (K : PySem.W.Frag) (C : Addr) (f : Str) : Prop := PySem.W.findIn K (.ref C) f = some none
structure Meth (K : PySem.W.Frag) (C : Addr) (m : Str) (f : Addr) : Prop where
  at_ : PySem.W.findIn K (.ref C) m = some (some (.ref f))
  fn : PySem.W.isFn K (.ref f) = true
  kp : PySem.W.keepIn K (.ref f) = true
section
variable {X : Cx} {pins : List (Addr × Obj)} {σ : St} {H : Hp} {s : Shared} {a C dx : Addr} {fs : List (Str × V)} {f : Str} {v : V} {A : Around} {E : Value → Shared → Prop}
theorem Inv.made (I : Inv X pins σ H s) : Inv X pins σ (upd (upd H s.heap.objs.size (.own (s.heap.objs.size + 1))) (s.heap.objs.size + 1) (.ins C s.heap.objs.size []))
    { s with heap := (s.heap.push PySem.W.emptyDict).push (PySem.W.instObj C s.heap.objs.size) } := by
  have e1 : (s.heap.push PySem.W.emptyDict).get? s.heap.objs.size = some PySem.W.emptyDict := Heap.get?_push_size s.heap rfl
  have e2 : ((s.heap.push PySem.W.emptyDict).push (PySem.W.instObj C s.heap.objs.size)).get? (s.heap.objs.size + 1) = some (PySem.W.instObj C s.heap.objs.size) := by
    have := Heap.get?_push_size (s.heap.push PySem.W.emptyDict) (o := PySem.W.instObj C s.heap.objs.size) rfl
    rwa [Heap.size_push] at this
  have e3 : (s.heap.push PySem.W.emptyDict).Ns s.heap.objs.size (fun _ => none) := ⟨PySem.W.emptyDict, #[], _, e1, rfl, (fun e he => absurd he (by simp)), fun _ => rfl⟩
  have I1 := I.laid (a := s.heap.objs.size) (o := .own (s.heap.objs.size + 1)) (h' := s.heap.push PySem.W.emptyDict) (t' := s.toks) (fun b u q => Heap.get?_push_of_some _ q) (Nat.le_refl _) ⟨_, e1⟩
  refine I1.laid (a := s.heap.objs.size + 1) (o := .ins C s.heap.objs.size []) (t' := s.toks) (fun b u q => Heap.get?_push_of_some _ q) (Nat.le_of_eq (Heap.size_push _ _)) ?_
  have ne : s.heap.objs.size ≠ s.heap.objs.size + 1 := Nat.ne_of_lt (Nat.lt_succ_self _)
  refine ⟨by rw [upd_ne ne, upd_same], Nat.zero_le _, ne, e2, fun _ => none, (Heap.Ns1.of_empty e3).at fun o q => Heap.get?_push_of_some _ q, fun _ => True.intro, fun y hy => absurd rfl hy⟩
theorem attr_of {prog : Program} {w : World} {env : Env} {e : Expr} {f : Str} {pos : Pos} {s : Shared} {Q : Value → Shared → Prop} (hb : attributeBase e f env (eval e env) = eval e env)
    (h : wpAny (model prog w) A (eval e env) (fun o s₁ => wpAny (model prog w) A (getAttr o f true) Q E s₁) E s) : wpAny (model prog w) A (eval (.Attribute e f pos) env) Q E s :=
  Attribute_any_ h (by rw [arm_eval_Attribute, hb])
end
def tFld (K : PySem.W.Frag) (ta : TE) (f : Str) : TE := fun σ H Q => ta σ H fun x H1 => ∃ a C dx fs v, x = .ref a ∧ H1 a = some (.ins C dx fs) ∧ Cls K C ∧ NoAttr K C f ∧ fs.lookup f = some v ∧ Q v H1
def sFld (K : PySem.W.Frag) (ta tv : TE) (f : Str) : TS := fun D σ H => tv σ H fun y H1 => ta σ H1 fun x H2 => ∃ a C dx fs, x = .ref a ∧ H2 a = some (.ins C dx fs) ∧ Cls K C ∧ NoAttr K C f ∧ fs.length < 1000 ∧
  D.nx σ (upd H2 a (.ins C dx (putF f y fs)))
section
variable {X : Cx} {o e value : Expr} {f : Str} {pos pos' tpos : Pos} {ta tv : TE}
end
section
variable {X : Cx} {pins : List (Addr × Obj)} {σ : St} {H : Hp} {s : Shared} {A : Around} {E : Value → Shared → Prop} {Q : Value → Shared → Prop} {c : Value} {b : Bool}
inductive TyOf (K : PySem.W.Frag) (H : Hp) : V → Value → Prop where
  | non : TyOf K H .non (.type "NoneType")
  | bl (x : Bool) : TyOf K H (.bl x) (.type "bool")
  | int (i : Int) : TyOf K H (.int i) (.type "int")
  | str (x : Str) : TyOf K H (.str x) (.type "str")
  | flt (x : UInt64) : TyOf K H (.flt x) (.type "float")
  | lst {a : Addr} {xs : List V} (e : H a = some (.lst xs)) : TyOf K H (.ref a) (.type "list")
  | frz {a : Addr} {o : Obj} {xs : List V} (e : H a = some (.frz o (.lst xs))) : TyOf K H (.ref a) (.type "list")
  | tup {a : Addr} {xs : List V} (e : H a = some (.tup xs)) : TyOf K H (.ref a) (.type "tuple")
  | dK {a : Addr} {kvs : List (Key × V)} (e : H a = some (.dK kvs)) : TyOf K H (.ref a) (.type "dict")
  | dT {a : Addr} {kvs : List (List Key × V)} (e : H a = some (.dT kvs)) : TyOf K H (.ref a) (.type "dict")
  | ins {a C dx : Addr} {fs : List (Str × V)} (e : H a = some (.ins C dx fs)) (cl : Cls K C) (ha : PySem.W.findIn K (.ref C) "__class__" = some (some (.builtin "object.__class__")))
      (hn : PySem.W.specialIn K (.builtin "object.__class__") "__get__" = some (some (.builtin "getset_descriptor.__get__"))) (htk : PySem.W.takesIn K (.builtin "object.__class__") = some true)
      (hm : PySem.W.mroIn K C (.type "object") = some true) : TyOf K H (.ref a) (.ref C)
theorem isinst_ok {x : V} {u t : Value} (I : Inv X pins σ H s) (rx : RelV x u) (ty : TyOf X.K H x t) (e : PySem.W.kitOne X.K t c = some b) (h : ∀ tk, Q (.bool b) { s with toks := tk }) :
    wpAny (model X.prog X.w) A (call (.builtin "isinstance") [u, c]) Q E s := by
  cases ty with
  | non => cases (show u = Value.none from rx); exact PySem.W.kia_one PySem.W.kitx_none I.kIn True.intro e (fun z => nomatch z) h
  | bl y => cases (show u = Value.bool y from rx); exact PySem.W.kia_one PySem.W.kitx_bool I.kIn True.intro e (fun z => nomatch z) h
  | int i => obtain ⟨t, q⟩ := (show ∃ t, u = Value.int i t from rx); cases q; exact PySem.W.kia_one PySem.W.kitx_int I.kIn True.intro e (fun z => nomatch z) h
  | str y => obtain ⟨t, q⟩ := (show ∃ t, u = Value.str y t from rx); cases q; exact PySem.W.kia_one PySem.W.kitx_str I.kIn True.intro e (fun z => nomatch z) h
  | flt y => obtain ⟨t, q⟩ := (show ∃ t, u = Value.float y t from rx); cases q; exact PySem.W.kia_one PySem.W.kitx_float I.kIn True.intro e (fun z => nomatch z) h
  | @lst a xs ea =>
    cases (show u = Value.ref a from rx)
    obtain ⟨_, _, n, _, h1⟩ := (show ObjOk X.prog X.w H s.heap a (.lst xs) from I.hok a _ ea)
    exact PySem.W.kia_one PySem.W.kitx_list I.kIn ⟨_, h1, rfl⟩ e (fun z => nomatch z) h
  | @frz a ob xs ea =>
    cases (show u = Value.ref a from rx)
    obtain ⟨_, _, _, n, _, h1⟩ := (show ObjOk X.prog X.w H s.heap a (.frz ob (.lst xs)) from I.hok a _ ea)
    exact PySem.W.kia_one PySem.W.kitx_list I.kIn ⟨_, h1, rfl⟩ e (fun z => nomatch z) h
  | @tup a xs ea =>
    cases (show u = Value.ref a from rx)
    obtain ⟨_, _, _, p⟩ := (show ObjOk X.prog X.w H s.heap a (.tup xs) from I.hok a _ ea)
    obtain ⟨o, h1, h2, _⟩ := p
    exact PySem.W.kia_one PySem.W.kitx_tuple I.kIn ⟨o, h1, h2⟩ e (fun z => nomatch z) h
  | @dK a kvs ea =>
    cases (show u = Value.ref a from rx)
    obtain ⟨_, _, vs, _, p⟩ := (show ObjOk X.prog X.w H s.heap a (.dK kvs) from I.hok a _ ea)
    obtain ⟨o, es, ep, h1, h2, _⟩ := p
    exact PySem.W.kia_one PySem.W.kitx_dict I.kIn ⟨o, h1, h2.1⟩ e (fun z => nomatch z) h
  | @dT a kvs ea =>
    cases (show u = Value.ref a from rx)
    obtain ⟨_, _, xs, _, o, es, ep, h1, h2, _⟩ := (show ObjOk X.prog X.w H s.heap a (.dT kvs) from I.hok a _ ea)
    exact PySem.W.kia_one PySem.W.kitx_dict I.kIn ⟨o, h1, h2.1⟩ e (fun z => nomatch z) h
  | @ins a C dx fs ea cl ha hn htk hm =>
    cases (show u = Value.ref a from rx)
    obtain ⟨mA, O, _⟩ := ins_get I.hok ea
    obtain ⟨od, J, _⟩ := O.look
    exact PySem.W.kia_one (PySem.W.kitx_own (cl.get _) cl.hd ha hn htk hm) I.kIn J e (fun z => nomatch z) h
end
end L2
namespace L2
open PySem PySem.Spec PyProof.Rows
structure Room (k : Nat) (A : Around) : Prop where
  hd : A.handled = none
  dp : A.depth + 3 * k + 5 < recursionLimit
  un : A.units + 16 * k + 200 < cLine
theorem Room.mono {j k : Nat} {A : Around} (r : Room k A) (h : j ≤ k) : Room j A := ⟨r.hd, by have := r.dp; omega, by have := r.un; omega⟩
theorem Room.deeper {k : Nat} {A : Around} (r : Room (k + 1) A) (env : Env) : Room k (A.deeper env) :=
  ⟨r.hd, by have := r.dp; show A.depth + 1 + 3 * k + 5 < _; omega, by have := r.un; show A.units + 3 + 16 * k + 200 < _; omega⟩
theorem make_depth {A : Around} {C : Addr} {us : List Value} {kw : List (Str × Value)} : (A.under (.builtin "type.__call__" ⟨.ref C :: us, kw⟩)).depth = A.depth + 1 := by
  first | rfl | simp [Around.under, Code.weight, Code.isCreation, Code.isGuard, Code.isCaller, Code.frames, Code.isFrame, guardIds]
theorem make_units {A : Around} {C : Addr} {us : List Value} {kw : List (Str × Value)} : (A.under (.builtin "type.__call__" ⟨.ref C :: us, kw⟩)).units = A.units + 1 := by
  first | rfl | simp [Around.under, Code.cUnits, Code.frames, Code.isFrame]
theorem Room.make {k : Nat} {A : Around} (r : Room (k + 1) A) (C : Addr) (us : List Value) (kw : List (Str × Value)) : Room k (A.under (.builtin "type.__call__" ⟨.ref C :: us, kw⟩)) :=
  ⟨r.hd, by have := r.dp; rw [make_depth]; omega, by have := r.un; rw [make_units]; omega⟩
theorem Room.depth {k : Nat} {A : Around} (r : Room k A) : A.depth < recursionLimit := by have := r.dp; omega
theorem Room.units {k : Nat} {A : Around} (r : Room k A) : A.units + 64 < cLine := by have := r.un; omega
def tNil : TA := fun _ H Q => Q [] H
def tCons (ta : TE) (tr : TA) : TA := fun σ H Q => ta σ H fun x H1 => tr σ H1 fun xs H2 => Q (x :: xs) H2
section
variable {X : Cx} {e : Expr} {es : List Expr} {te : TE} {t : TA} {pos : Pos}
theorem pa_nil : PA X [] tNil := fun _ _ _ _ H Q I h => Calls.spliced_nil ⟨[], H, I, .nil, h⟩
theorem pa_cons (ha : PE X e te) (hr : PA X es t) (hs : starEach (e :: es) X.env = (false, eval e X.env) :: starEach es X.env := by rfl) : PA X (e :: es) (tCons te t) := by
  intro pos pins s σ H Q I h
  rw [hs]
  show wpAny _ _ (spliced ((false, eval e X.env) :: backTo pos (starEach es X.env))) _ _ s
  refine Calls.spliced_cons (thn (ha pins s σ H _ I h) fun u s1 ⟨x, H1, I1, r1, q1⟩ => ?_)
  exact thn (hr pos pins s1 σ H1 _ I1 q1) fun us s2 ⟨xs, H2, I2, r2, q2⟩ => ⟨x :: xs, H2, I2, .cons r1 r2, q2⟩
def tTup (t : TA) : TE := fun σ H Q => t σ H fun xs H1 => xs.length ≤ sizeLine ∧ ∀ p, H1 p = none → Q (.ref p) (upd H1 p (.tup xs))
def tLst (t : TA) : TE := fun σ H Q => t σ H fun xs H1 => xs.length ≤ sizeLine ∧ ∀ p, H1 p = none → Q (.ref p) (upd H1 p (.lst xs))
theorem pe_lst (h : PA X es t) : PE X (.List es pos) (tLst t) := by
  intro pins s σ H Q I hq
  refine wpAny_List_spliced (thn (h pos pins s σ H _ I hq) fun us s1 ⟨xs, H1, I1, r, z, q⟩ => ⟨by rw [← r.length]; exact z, ?_⟩)
  have hf : H1 s1.heap.objs.size = none := I1.hok.fresh (Nat.le_refl _)
  refine ⟨.ref s1.heap.objs.size, upd H1 s1.heap.objs.size (.lst xs), I1.laid (t' := s1.toks) (fun b u e => Heap.get?_push_of_some _ e) (Nat.le_refl _) ?_, rfl, q _ hf⟩
  exact ⟨z, us, 0, r, Heap.get?_push_size _ rfl⟩
end
abbrev Sp := List V → Hp → VK → XK → Prop
abbrev CXT := List Env → Hp → Shared → XK → Value → Shared → Prop
structure Env0 (P : Program) (w : World) (K : PySem.W.Frag) (mg : Str → Option Value) (base : Heap) (A : Around) (outer : List Env) (s : Shared) (H : Hp) : Prop where
  frames : A.frames = some outer
  mod : Mod K mg base
  bs : ∀ b o, base.get? b = some o → s.heap.get? b = some o ∧ H b = none
  bsz : base.objs.size ≤ s.heap.objs.size
  funs : s.heap.FunFrames base outer
  frf : ∀ b ∈ frs outer, H b = none
  hok : HOk P w H s.heap
  bare : AllBare s.gens
def CE (outer : List Env) (P : Program) (w : World) (H : Hp) (s : Shared) (Q : VK) (u : Value) (s' : Shared) : Prop :=
  ∃ v H', s'.os = s.os ∧ AllBare s'.gens ∧ Un (frs outer) [] H H' s.heap s'.heap ∧ HOk P w H' s'.heap ∧ RelV v u ∧ Q v H'
def CR (CX : CXT) (outer : List Env) (P : Program) (w : World) (H : Hp) (s : Shared) (Q : VK) (E : XK) (r : Result) (s' : Shared) : Prop :=
  match r with
  | .ok (.ret u) => CE outer P w H s Q u s'
  | .ok _ => False
  | .error e => CX outer H s E e s'
structure FnOk (P : Program) (w : World) (K : PySem.W.Frag) (mg : Str → Option Value) (base : Heap) (CX : CXT) (k : Nat) (f : Addr) (fd : FuncData) (ps : List Str) (sp : Sp) : Prop where
  len : ∀ vs H Q E, sp vs H Q E → vs.length = ps.length
  run : ∀ (A : Around) (outer : List Env) (s : Shared) (H : Hp) (args : Args) (us : List Value) (vs : List V) (Q : VK) (E : XK), Room k A → Env0 P w K mg base A outer s H → BindsTo s fd args (ps.zip us) → Vals vs us → sp vs H Q E →
    codeAny (model P w) A (.call (.ref f) args) (CR CX outer P w H s Q E) s
theorem FnOk.mono {P : Program} {w : World} {K : PySem.W.Frag} {mg : Str → Option Value} {base : Heap} {CX : CXT} {j k : Nat} {f : Addr} {fd : FuncData} {ps : List Str} {sp : Sp} (F : FnOk P w K mg base CX j f fd ps sp) (h : j ≤ k) :
    FnOk P w K mg base CX k f fd ps sp := ⟨F.len, fun A outer s H args us vs Q E hr => F.run A outer s H args us vs Q E (hr.mono h)⟩
theorem Env0.make {P : Program} {w : World} {K : PySem.W.Frag} {mg : Str → Option Value} {base : Heap} {A : Around} {outer : List Env} {s : Shared} {H : Hp} (e : Env0 P w K mg base A outer s H) (C : Addr) (us : List Value) (kw : List (Str × Value)) :
    Env0 P w K mg base (A.under (.builtin "type.__call__" ⟨.ref C :: us, kw⟩)) outer s H := ⟨by first | exact e.frames | (simpa [Around.under, Code.envs, Code.isFrame, pushEnvs] using e.frames), e.mod, e.bs, e.bsz, e.funs, e.frf, e.hok, e.bare⟩
section
variable {X : Cx} {pins : List (Addr × Obj)} {σ : St} {H : Hp} {s s' : Shared}
theorem Inv.env0 (I : Inv X pins σ H s) : Env0 X.prog X.w X.K X.mg X.base X.A X.stack s H :=
  ⟨I.ok.frames, I.ok.mod, I.bs, Nat.le_trans I.ok.bsz I.sz, I.stack, I.stkFree, I.hok, I.bare⟩
theorem Inv.after {Q : VK} {u : Value} (I : Inv X pins σ H s) (h : CE X.stack X.prog X.w H s Q u s') : EP X pins σ Q u s' := by
  obtain ⟨v, H', os, bare, un, hok, r, q⟩ := h
  obtain ⟨hh, g, d, t, os'⟩ := s'
  obtain rfl : os' = s.os := os
  exact ⟨v, H', I.call (h' := hh) (g' := g) (d' := d) (t' := t) (ch := []) un hok bare (fun b z => absurd z (by simp)), r, q⟩
end
def tCall (sp : Sp) (dvs : List V) (E : XK) (t : TA) : TE := fun σ H Q => t σ H fun vs H1 => sp (vs ++ dvs) H1 Q E
def tMake (C : Addr) (sp : Sp) (dvs : List V) (E : XK) (t : TA) : TE := fun σ H Q => t σ H fun vs H1 => ∀ x dx, H1 x = none → H1 dx = none → dx ≠ x →
  sp (.ref x :: (vs ++ dvs)) (upd (upd H1 dx (.own x)) x (.ins C dx [])) (fun v H2 => v = .non ∧ Q (.ref x) H2) E
def Binds (K : PySem.W.Frag) (fd : FuncData) (ps : List Str) (ds : List Value) : Prop :=
  ∀ (s : Shared) (us : List Value), K.In s.heap → (us ++ ds).length = ps.length → BindsTo s fd ⟨us, []⟩ (ps.zip (us ++ ds))
theorem Binds.all {K : PySem.W.Frag} {fd : FuncData} {ps : List Str} (h : ∀ us : List Value, us.length = ps.length → bindArgs fd ⟨us, []⟩ = pure (ps.zip us)) : Binds K fd ps [] := fun s us _ hl => by
  rw [List.append_nil] at hl ⊢
  exact .of_eq (h us hl)
def Passes (CX : CXT) (X : Cx) (E : XK) : Prop := ∀ (pins : List (Addr × Obj)) (σ : St) (H : Hp) (s : Shared) (e : Value) (s' : Shared), Inv X pins σ H s → CX X.stack H s E e s' → X.xe e s'
section
variable {X : Cx} {CX : CXT} {k : Nat} {f C : Addr} {fd : FuncData} {ps : List Str} {sp : Sp} {dvs : List V} {ds : List Value} {E : XK} {x m : Str} {p pos apos : Pos} {e o : Expr} {es : List Expr} {ta : TE} {t : TA}
theorem run_fn {pins : List (Addr × Obj)} {σ : St} {H : Hp} {s : Shared} {Q : VK} {us : List Value} {vs : List V} (F : FnOk X.prog X.w X.K X.mg X.base CX k f fd ps sp) (hr : Room k X.A) (hb : Binds X.K fd ps ds) (hd : Vals dvs ds) (hx : Passes CX X E)
    (I : Inv X pins σ H s) (r : Vals vs us) (h : sp (vs ++ dvs) H Q E) : wpAny (model X.prog X.w) X.A (call (.ref f) us) (EP X pins σ Q) X.xe s := by
  have r2 : Vals (vs ++ dvs) (us ++ ds) := r.append hd
  have hl : (us ++ ds).length = ps.length := by rw [← r2.length]; exact F.len _ _ _ _ h
  refine wpAny_call (codeAny_mono (F.run X.A X.stack s H ⟨us, []⟩ (us ++ ds) (vs ++ dvs) Q E hr I.env0 (hb s us I.kIn hl) r2 h) fun r s' hq => ?_)
  cases r with
  | error e => exact hx pins σ H s e s' I hq
  | ok fl =>
    cases fl with
    | ret u => exact I.after hq
    | next => exact False.elim hq
    | brk => exact False.elim hq
    | cont => exact False.elim hq
theorem pe_call (F : FnOk X.prog X.w X.K X.mg X.base CX k f fd ps sp) (hr : Room k X.A) (hg : Gl X x) (hm : X.mg x = some (.ref f)) (hk : PySem.W.keepIn X.K (.ref f) = true) (hb : Binds X.K fd ps ds) (hd : Vals dvs ds) (hx : Passes CX X E)
    (ha : PA X (e :: es) t) (hdb : (x == ("__debug__" : Str)) = false := by decide) (he : starEach (e :: es) X.env = (false, eval e X.env) :: starEach es X.env := by rfl) (hpl : (backTo pos (starEach es X.env)).any (·.1) = false := by rfl) :
    PE X (.Call (.Name x p) (e :: es) [] pos) (tCall sp dvs E t) := by
  intro pins s σ H Q I h
  refine wpAny_Call_Name_kw (ld_glob I hg hm ?_ hdb)
  refine PySem.W.callWith_K (h₀ := X.base) I.ok.mod.kin hk (thn (ha pos pins s σ H _ I h) fun us s1 ⟨vs, H1, I1, r, q⟩ => ⟨I1.kIn, ?_⟩) he hpl
  exact run_fn F hr hb hd hx I1 r q
structure Mk (K : PySem.W.Frag) (C f : Addr) : Prop where
  makes : PySem.W.makesIn K C = true
  init : PySem.W.findIn K (.ref C) "__init__" = some (some (.ref f))
  fn : PySem.W.isFn K (.ref f) = true
  kp : PySem.W.keepIn K (.ref C) = true
end
section
variable {X : Cx} {CX : CXT} {k : Nat} {f C : Addr} {fd : FuncData} {ps ks : List Str} {sp : Sp} {E : XK} {x m : Str} {p pos apos kpos : Pos} {e o : Expr} {es : List Expr} {kws : List Keyword} {te ta : TE} {t tk : TA} {nm : Option Str}
variable {g : List Value → List Value → List Value} {gV : List V → List V → List V}
end
structure FnScope (N P : List Str) (sc : Scope) : Prop where
  kind : sc.kind = .function
  co : sc.isCoroutine = false
  gen : sc.isGenerator = false
  nd : N.Nodup
  pre : N.take P.length = P
  par : ∀ x ∈ P, sc.names.lookup x = some .local ∨ sc.names.lookup x = some .cell
  nofree : ∀ y ∈ sc.names, y.2 ≠ .free
theorem bindL_out {kindOf : Str → Option NameKind} {x : Str} : ∀ {binds : List (Str × Value)} {m : Str → Option Value}, (∀ v, (x, v) ∉ binds) → bindL kindOf binds m x = m x
  | [], _, _ => rfl
  | (n, v) :: r, m, h => by
    unfold bindL
    rw [bindL_out fun w hw => h w (List.mem_cons_of_mem _ hw)]
    split
    · have : x ≠ n := by rintro rfl; exact h v List.mem_cons_self
      simp [this]
    · rfl
theorem bindC_out {kindOf : Str → Option NameKind} {x : Str} : ∀ {binds : List (Str × Value)} {m : Str → Option Value}, (∀ v, (x, v) ∉ binds) → bindC kindOf binds m x = m x
  | [], _, _ => rfl
  | (n, v) :: r, m, h => by
    unfold bindC
    rw [bindC_out fun w hw => h w (List.mem_cons_of_mem _ hw)]
    split
    · rfl
    · have : x ≠ n := by rintro rfl; exact h v List.mem_cons_self
      simp [this]
theorem bindL_get {kindOf : Str → Option NameKind} {x : Str} {v : Value} : ∀ {P : List Str} {vs : List Value} {i : Nat} {m : Str → Option Value}, P.Nodup → P[i]? = some x → vs[i]? = some v → kindOf x = some .local →
    bindL kindOf (P.zip vs) m x = some v
  | [], _, _, _, _, h, _, _ => by simp at h
  | _ :: _, [], _, _, _, _, h, _ => by simp at h
  | p :: P, w :: vs, 0, m, nd, h1, h2, hk => by
    simp at h1 h2; subst h1; subst h2
    show bindL kindOf ((p, w) :: P.zip vs) m p = _
    unfold bindL
    rw [bindL_out fun v hv => (List.nodup_cons.mp nd).1 (List.of_mem_zip hv).1, if_pos hk]
    simp
  | p :: P, w :: vs, i + 1, m, nd, h1, h2, hk => by
    show bindL kindOf ((p, w) :: P.zip vs) m x = _
    unfold bindL
    exact bindL_get (i := i) (List.nodup_cons.mp nd).2 (by simpa using h1) (by simpa using h2) hk
theorem bindC_get {kindOf : Str → Option NameKind} {x : Str} {v : Value} : ∀ {P : List Str} {vs : List Value} {i : Nat} {m : Str → Option Value}, P.Nodup → P[i]? = some x → vs[i]? = some v → kindOf x ≠ some .local →
    bindC kindOf (P.zip vs) m x = some v
  | [], _, _, _, _, h, _, _ => by simp at h
  | _ :: _, [], _, _, _, _, h, _ => by simp at h
  | p :: P, w :: vs, 0, m, nd, h1, h2, hk => by
    simp at h1 h2; subst h1; subst h2
    show bindC kindOf ((p, w) :: P.zip vs) m p = _
    unfold bindC
    rw [bindC_out fun v hv => (List.nodup_cons.mp nd).1 (List.of_mem_zip hv).1, if_neg hk]
    simp
  | p :: P, w :: vs, i + 1, m, nd, h1, h2, hk => by
    show bindC kindOf ((p, w) :: P.zip vs) m x = _
    unfold bindC
    exact bindC_get (i := i) (List.nodup_cons.mp nd).2 (by simpa using h1) (by simpa using h2) hk
def start (N : List Str) (vs : List V) : St := vs.map some ++ List.replicate (N.length - vs.length) none
def cxOf (CX : CXT) (P : Program) (w : World) (K : PySem.W.Frag) (mg : Str → Option Value) (base : Heap) (N : List Str) (qual : Str) (scope : Scope) (f : Addr) (cd : Value) (A : Around) (outer : List Env) (s : Shared) (H : Hp) (E : XK) : Cx where
  prog := P
  w := w
  K := K
  mg := mg
  base := base
  A := A.deeper (envOfC qual scope s.heap.objs.size f cd)
  N := N
  s₀ := s
  H₀ := H
  env := envOfC qual scope s.heap.objs.size f cd
  outer := outer
  stack := envOfC qual scope s.heap.objs.size f cd :: outer
  ex := []
  calm := true
  fn := fun _ => true
  pn := []
  xe := fun e s' => wpAny (model P w) (A.deeper (envOfC qual scope s.heap.objs.size f cd)) (leaving (envOfC qual scope s.heap.objs.size f cd) e) (fun _ s'' => CX outer H s E e s'') (fun e' s'' => CX outer H s E e' s'') s'
theorem cell_has {sc : Scope} {n : Nat} {x : Str} (h : sc.names.lookup x = some .cell) : ∃ c, (cellsFrom n sc.names []).lookup x = some c := by
  have q := PySem.W.cellsFrom_some sc.names n [] (.inl h)
  exact Option.isSome_iff_exists.mp q
theorem inv_start {CX : CXT} {P : Program} {w : World} {K : PySem.W.Frag} {mg : Str → Option Value} {base : Heap} {N ps : List Str} {qual : Str} {scope : Scope} {f : Addr} {cd : Value} {A : Around} {outer : List Env} {s s1 : Shared} {H : Hp} {E : XK} {us : List Value} {vs : List V}
    (S : FnScope N ps scope) (hd : A.handled = none) (e0 : Env0 P w K mg base A outer s H) (hl : vs.length = ps.length) (r : Vals vs us)
    (x : InCallC s s.heap.objs.size (bindL (envOfC qual scope s.heap.objs.size f cd).kindOf (ps.zip us) fun _ => none) (cellsFrom (s.heap.objs.size + 1) scope.names []) (bindC (envOfC qual scope s.heap.objs.size f cd).kindOf (ps.zip us) fun _ => none) s1) :
    Inv (cxOf CX P w K mg base N qual scope f cd A outer s H E) [] (start N vs) H s1 := by
  have hpl : ps.length ≤ N.length := by have := congrArg List.length S.pre; rw [List.length_take] at this; omega
  obtain ⟨h1, tk, rfl, hk⟩ := x.done
  have noA : ∀ b : Addr, b ∉ (cxOf CX P w K mg base N qual scope f cd A outer s H E).ex := fun b z => absurd (show b ∈ ([] : List Addr) from z) (by simp)
  refine ⟨⟨e0.mod, S.kind, rfl, rfl, Nat.le_refl _, fun y z c h1 h2 => ?_, fun y hy => ?_, fun y c _ h => ?_, fun _ => hd, Around.frames_deeper e0.frames, .inr ⟨rfl, rfl⟩, fun b z => absurd z (noA b), e0.bs, e0.bsz, fun b _ _ => noA b, fun b z => absurd z (noA b), e0.funs, e0.frf⟩,
    rfl, e0.bare, Un.kept hk, ⟨_, x.toInCall.ns, fun i y v h1 h2 h3 => ?_⟩, fun y c h => ⟨_, x.cell y c h⟩, e0.hok.fresh (Nat.le_refl _), fun y c h => ?_, fun p hp => absurd (show p ∈ ([] : List (Addr × Obj)) from hp) (by simp), e0.hok.kept hk, ?_⟩
  · exact name_of_addr x.apart (PySem.mem_of_lookup h1) (PySem.mem_of_lookup h2)
  · have hy : scope.names.lookup y = some .cell ∨ scope.names.lookup y = some .free := hy
    rcases hy with hy | hy
    · exact cell_has hy
    · exact absurd rfl (S.nofree _ (PySem.mem_of_lookup hy))
  · exact Nat.le_of_lt (x.above y c (PySem.mem_of_lookup h))
  · have hi : i < vs.length := by
      unfold start at h2
      by_cases hi : i < vs.length
      · exact hi
      · rw [List.getElem?_append_right (by simpa using hi)] at h2
        rw [List.getElem?_replicate] at h2
        split at h2 <;> cases h2
    have ha : vs[i]? = some v := by
      unfold start at h2
      rw [List.getElem?_append_left (by simpa using hi), List.getElem?_map] at h2
      cases e : vs[i]? with
      | none => rw [e] at h2; cases h2
      | some a => rw [e] at h2; cases h2; rfl
    obtain ⟨u, hu, rv⟩ := r.get ha
    have hp : ps[i]? = some y := by
      rw [← S.pre, List.getElem?_take_of_lt (by omega)]; exact h1
    have ndP : ps.Nodup := by rw [← S.pre]; exact S.nd.sublist (List.take_sublist _ _)
    refine ⟨u, rv, ?_⟩
    rcases S.par y (List.mem_of_getElem? hp) with k | k
    · exact .inl ⟨k, bindL_get ndP hp hu k⟩
    · obtain ⟨c, e⟩ := cell_has (n := s.heap.objs.size + 1) k
      refine .inr ⟨.inl k, c, e, ?_⟩
      have q := x.cell y c e
      rw [bindC_get ndP hp hu (by show scope.names.lookup y ≠ _; rw [k]; decide)] at q
      exact q
  · exact e0.hok.fresh (Nat.le_of_lt (x.above y c (PySem.mem_of_lookup h)))
  · unfold start
    show _ = N.length
    rw [List.length_append, List.length_map, List.length_replicate]
    omega
theorem fn_of {CX : CXT} {P : Program} {w : World} {K : PySem.W.Frag} {mg : Str → Option Value} {base : Heap} {k : Nat} {f : Addr} {name qual : Str} {params : Arguments} {body : List Stmt} {scope : Scope} {dV kV doc pm cdv ct oc : Value} {an od : Option Addr}
    {osl : Array (Option Value)} {N ps : List Str} {sp : Sp} (lk : K.lookup f = some ⟨oc, od, .func (PySem.W.fnOf name qual params body scope dV kV doc pm an cdv ct), osl⟩) (hcd : PySem.W.codeIn K cdv qual = true) (S : FnScope N ps scope)
    (len : ∀ vs H Q E, sp vs H Q E → vs.length = ps.length)
    (hbody : ∀ (A : Around) (outer : List Env) (s : Shared) (H : Hp) (vs : List V) (Q : VK) (E : XK), Room k (A.deeper (envOfC qual scope s.heap.objs.size f cdv)) → sp vs H Q E →
      ∃ t, PSs (cxOf CX P w K mg base N qual scope f cdv A outer s H E) body t ∧ t { nx := fun _ H' => Q .non H', rt := Q } (start N vs) H) :
    FnOk P w K mg base CX (k + 1) f (PySem.W.fnOf name qual params body scope dV kV doc pm an cdv ct) ps sp := by
  refine ⟨len, fun A outer s H args us vs Q E hr e0 hb r hsp => ?_⟩
  have hl := len _ _ _ _ hsp
  have KX : K.In s.heap := e0.mod.kin.keeps fun b o e => (e0.bs b o e).1
  have lim : s.heap.NoLimit := e0.mod.nolimit.keeps fun b o e => (e0.bs b o e).1
  have hkind : ∀ y ∈ ps.zip us, scope.names.lookup y.1 = some .local ∨ (scope.names.lookup y.1 = some .cell ∧ ((cellsFrom (s.heap.objs.size + 1) scope.names []).lookup y.1).isSome = true) := fun ⟨n, v⟩ hy => by
    rcases S.par n (List.of_mem_zip hy).1 with q | q
    · exact .inl q
    · exact .inr ⟨q, PySem.W.cellsFrom_some _ _ _ (.inl q)⟩
  refine codeAny_call_function hr.depth (KX _ _ lk) rfl S.co S.gen rfl (PySem.W.codeRec_of KX hcd) (hb _ _ _ _ ?_)
  refine wpAny_newFunctionEnv_cells S.kind hkind fun env he s1 x => ?_
  subst he
  refine ⟨lim.keeps x.toInCall.keep, codeAny_func ?_⟩
  obtain ⟨t, ht, hq⟩ := hbody A outer s H vs Q E (hr.deeper _) hsp
  have I : Inv (cxOf CX P w K mg base N qual scope f cdv A outer s H E) [] (start N vs) H s1 := inv_start S hr.hd e0 hl r x
  refine wpAny_mono (ht [] s1 (start N vs) H _ I hq) (fun fl s' hs => ?_) fun e s' hs => hs
  have fin : ∀ {σ' : St} {H' : Hp} {v : V} {u : Value}, Inv (cxOf CX P w K mg base N qual scope f cdv A outer s H E) [] σ' H' s' → RelV v u → Q v H' → CE outer P w H s Q u s' :=
    fun {σ' H' v u} J rv q => ⟨v, H', J.os, J.bare, J.base, J.hok, rv, q⟩
  cases fl with
  | ret u =>
    obtain ⟨v, σ', H', J, rv, q⟩ := hs
    exact fin J rv q
  | next =>
    obtain ⟨σ', H', J, q⟩ := hs
    exact fin (v := V.non) (u := Value.none) J rfl q
  | brk =>
    obtain ⟨_, _, _, q⟩ := hs
    exact False.elim q
  | cont =>
    obtain ⟨_, _, _, q⟩ := hs
    exact False.elim q
end L2
namespace L2
open PySem PySem.Spec PyProof.Rows
section
variable {X : Cx} {x : Str} {p pos : Pos} {e : Expr} {es : List Expr} {t : TA} {id T : String} {r : List V → Hp → VK → Prop}
def tCB (r : List V → Hp → VK → Prop) (t : TA) : TE := fun σ H Q => t σ H fun vs H1 => r vs H1 Q
theorem pe_callB (hc : CallR X (.builtin id) r) (hg : Gl X x) (hm : X.mg x = none) (hv : bootBuiltins x = some (.builtin id)) (ha : PA X (e :: es) t) (hn : x ≠ "__name__" := by decide) (hdb : (x == ("__debug__" : Str)) = false := by decide)
    (he : starEach (e :: es) X.env = (false, eval e X.env) :: starEach es X.env := by rfl) (hpl : (backTo pos (starEach es X.env)).any (·.1) = false := by rfl) : PE X (.Call (.Name x p) (e :: es) [] pos) (tCB r t) := by
  intro pins s σ H Q I h
  refine wpAny_Call_Name_kw (ld_blt I hg hm hv ?_ hn hdb)
  exact PyProof.Rows.callWith_builtin1 (thn (ha pos pins s σ H _ I h) fun us s1 ⟨vs, H1, I1, r1, q1⟩ => hc pins s1 σ H1 vs us Q I1 r1 q1) he hpl
theorem pe_callTy (hc : CallR X (.type T) r) (hg : Gl X x) (hm : X.mg x = none) (hv : bootBuiltins x = some (.type T)) (ha : PA X (e :: es) t) (hn : x ≠ "__name__" := by decide) (hdb : (x == ("__debug__" : Str)) = false := by decide)
    (he : starEach (e :: es) X.env = (false, eval e X.env) :: starEach es X.env := by rfl) (hpl : (backTo pos (starEach es X.env)).any (·.1) = false := by rfl) : PE X (.Call (.Name x p) (e :: es) [] pos) (tCB r t) := by
  intro pins s σ H Q I h
  refine wpAny_Call_Name_kw (ld_blt I hg hm hv ?_ hn hdb)
  exact PyProof.Rows.callWith_type1 (thn (ha pos pins s σ H _ I h) fun us s1 ⟨vs, H1, I1, r1, q1⟩ => hc pins s1 σ H1 vs us Q I1 r1 q1) he hpl
end
end L2
namespace HT
open PySem PyProof.Rows
section
open PySem.SeqAt
open PySem.AutoSeq1 (wpAny_loadPart')
open PySem.MeetsSeq PySem.MeetsSeq2 PySem.MeetsSeq3
end
section
variable {prog : Program} {w : World} {A : Around} {E : Value → Shared → Prop} {s : Shared}
theorem cat_tup {t b : Addr} {vs ws : List Value} {Q : Value → Shared → Prop} (ht : IsTup s.heap t vs.toArray) (hb : IsTup s.heap b ws.toArray) (hv : vs ≠ [])
    (h1 : ws = [] → Q (.ref t) s) (h2 : ws ≠ [] → Q (.ref s.heap.objs.size) { s with heap := s.heap.push { cls := .type "tuple", data := .seq (vs ++ ws).toArray } })
    (hsz : vs.length + ws.length ≤ sizeLine) : wpAny (model prog w) A (binaryOp .Add (.ref t) (.ref b)) Q E s := by
  obtain ⟨⟨cls, dd, data, sl⟩, ho, hc, n, hd⟩ := id ht
  obtain ⟨⟨cls2, dd2, data2, sl2⟩, ho2, hc2, n2, hd2⟩ := id hb
  simp only at hc hd hc2 hd2
  subst hc hd hc2 hd2
  have e : vs.toArray ++ ws.toArray = (vs ++ ws).toArray := by simp
  by_cases hw : ws = []
  · exact concat_meets ⟨_, ho, rfl⟩ ⟨_, ho2, rfl⟩ noFill_tuple_add seq_tuple_add PySem.F.slot_tuple_add PySem.F.entry_tuple_add (PySem.F.args_tuple_add_2 _ _)
      (tuple_addW1 t b vs.toArray ws.toArray n n2 dd dd2 sl sl2 (by simpa using hv) (by simp [hw])) ⟨ho, ho2, h1 hw⟩
  · refine concat_meets ⟨_, ho, rfl⟩ ⟨_, ho2, rfl⟩ noFill_tuple_add seq_tuple_add PySem.F.slot_tuple_add PySem.F.entry_tuple_add (PySem.F.args_tuple_add_2 _ _)
      (tuple_addW2 t b vs.toArray ws.toArray n n2 dd dd2 sl sl2 (by simpa using hv) (by simpa using hw) (by rw [List.size_toArray, List.size_toArray]; exact hsz)) ⟨ho, ho2, ?_⟩
    rw [e]
    exact h2 hw
def sIx (n d : Nat) : Option Int → Nat
  | none => d
  | some v => if v < 0 then (v + (n : Int)).toNat else min v.toNat n
theorem sIx_none (n d : Nat) : sIx n d none = d := rfl
theorem sIx_nat (n d k : Nat) : sIx n d (some (k : Int)) = min k n := by
  show (if (k : Int) < 0 then ((k : Int) + (n : Int)).toNat else min (k : Int).toNat n) = min k n
  rw [if_neg (by omega), Int.toNat_natCast]
theorem sIx_le (n d : Nat) (hd : d ≤ n) (o : Option Int) : sIx n d o ≤ n := by
  cases o with
  | none => exact hd
  | some v =>
    show (if v < 0 then (v + (n : Int)).toNat else min v.toNat n) ≤ n
    by_cases hv : v < 0
    · rw [if_pos hv]; omega
    · rw [if_neg hv]; exact Nat.min_le_right _ _
theorem clip_eq (v : Int) (n d : Nat) : (if v < 0 then max (v + (n : Int)) 0 else min v (n : Int)) = ((sIx n d (some v) : Nat) : Int) := by
  show (if v < 0 then max (v + (n : Int)) 0 else min v (n : Int)) = (((if v < 0 then (v + (n : Int)).toNat else min v.toNat n) : Nat) : Int)
  by_cases hv : v < 0
  · simp only [if_pos hv]; omega
  · simp only [if_neg hv]; omega
theorem adjust_gen (lo hi : Option Int) (n : Nat) : Builtin.Slice.sliceAdjust lo hi 1 (n : Int) = (((sIx n 0 lo : Nat) : Int), ((sIx n n hi : Nat) : Int)) := by
  have h1 : ¬ ((1 : Int) < 0) := by omega
  unfold Builtin.Slice.sliceAdjust
  simp only [h1, if_false]
  refine Prod.ext ?_ ?_
  · cases lo with
    | none => rfl
    | some v => exact clip_eq v n 0
  · cases hi with
    | none => rfl
    | some v => exact clip_eq v n n
theorem places_gen (i j : Nat) : Builtin.Slice.slicePlaces (i : Int) (j : Int) 1 = j - i := by
  unfold Builtin.Slice.slicePlaces
  have h1 : (1 : Int) > 0 := by omega
  simp only [h1, if_true, Int.ediv_one]
  split <;> omega
theorem slicePart_ {v : Value} {o : Option Int} {Q : Option Int → Shared → Prop} (p : IsPart v o) (h : Q o s) : wpAny (model prog w) A (Builtin.Slice.slicePartIndex v) Q E s := by
  cases p with
  | none => exact slicePart_none h
  | int i t => exact slicePart_int h
theorem sliceApplied_gen {sl : Addr} {vl vu : Value} {lo hi : Option Int} {n : Nat} {Q : Int × Int × Nat → Shared → Prop} (hs : s.heap.IsSliceOf sl vl vu .none) (pl : IsPart vl lo) (pu : IsPart vu hi)
    (h : Q (((sIx n 0 lo : Nat) : Int), 1, sIx n n hi - sIx n 0 lo) s) : wpAny (model prog w) A (Builtin.Slice.sliceApplied (.ref sl) (pure (n : Int))) Q E s := by
  obtain ⟨os, hos, hcs, hds⟩ := id hs
  unfold Builtin.Slice.sliceApplied Builtin.Slice.sliceFields
  refine wpAny_bind (wpAny_bind (wpAny_field hos hds (x := vl) rfl (wpAny_bind (wpAny_field hos hds (x := vu) rfl (wpAny_bind (wpAny_field hos hds (x := .none) rfl (wpAny_pure ?_)))))))
  refine wpAny_bind (slicePart_none ?_)
  show wpAny _ _ (if ((1 : Int) == 0) = true then _ else _) _ _ s
  rw [if_neg (by decide)]
  refine wpAny_bind (slicePart_ pl (wpAny_bind (slicePart_ pu (wpAny_bind (wpAny_pure ?_)))))
  show wpAny _ _ (match Builtin.Slice.sliceAdjust lo hi 1 (n : Int) with | (lo, hi) => pure (lo, (1 : Int), Builtin.Slice.slicePlaces lo hi 1)) _ _ s
  rw [adjust_gen lo hi n]
  show wpAny _ _ (pure (((sIx n 0 lo : Nat) : Int), (1 : Int), Builtin.Slice.slicePlaces ((sIx n 0 lo : Nat) : Int) ((sIx n n hi : Nat) : Int) 1)) _ _ s
  rw [places_gen]
  exact wpAny_pure h
theorem pick_gen (xs : Array Value) (i k : Nat) : ((List.range k).filterMap fun (m : Nat) => xs[((i : Int) + (m : Int) * 1).toNat]?).toArray = ((xs.toList.drop i).take k).toArray := by
  have e : (fun (m : Nat) => xs[((i : Int) + (m : Int) * 1).toNat]?) = fun m => xs[i + m]? := by
    funext m
    have : ((i : Int) + (m : Int) * 1).toNat = i + m := by omega
    rw [this]
  rw [e]
  have := pick_run xs i k
  rw [List.filterMap_map] at this
  have e2 : ((fun x => xs[x]?) ∘ fun x => i + x) = fun m => xs[i + m]? := rfl
  rw [e2] at this
  rw [this]
theorem getItem_tuple_cut {t sl : Addr} {items : Array Value} {vl vu : Value} {lo hi : Option Int} {Q : Value → Shared → Prop} (ht : IsTup s.heap t items) (hs : s.heap.IsSliceOf sl vl vu .none) (pl : IsPart vl lo) (pu : IsPart vu hi)
    (hw : ¬ (sIx items.size 0 lo = 0 ∧ sIx items.size items.size hi = items.size))
    (h : Q (.ref s.heap.objs.size) { s with heap := s.heap.push { cls := .type "tuple", data := .seq ((items.toList.drop (sIx items.size 0 lo)).take (sIx items.size items.size hi - sIx items.size 0 lo)).toArray } })
    (hsz : items.size ≤ sizeLine) : wpAny (model prog w) A (getItem (.ref t) (.ref sl)) Q E s := by
  have htake : sizeOk (.seq ((items.toList.drop (sIx items.size 0 lo)).take (sIx items.size items.size hi - sIx items.size 0 lo)).toArray) := by
    show ((items.toList.drop (sIx items.size 0 lo)).take (sIx items.size items.size hi - sIx items.size 0 lo)).toArray.size ≤ sizeLine
    rw [List.size_toArray, List.length_take, List.length_drop, Array.length_toList]
    omega
  have hj : sIx items.size items.size hi ≤ items.size := sIx_le _ _ (Nat.le_refl _) hi
  obtain ⟨os, hos, hcs, hds⟩ := id hs
  have hTs : s.TypeIs (.ref sl) "slice" := ⟨os, hos, hcs⟩
  unfold getItem
  try with_reducible refine wpAny_holding ?_
  first | refine wpAny_bind (wpAny_pure ?_) | skip
  refine wpAny_bind (wpAny_sequenceKey ht.typeIs (by decide) ?_)
  refine wpAny_bind (wpAny_callSpecial?_slot (name := Str.ofString "__getitem__") ht.typeIs PyProof.Rows.slot_tuple_getitem
    (wpAny_call_entry PyProof.Rows.slot_tuple_getitem ht.typeIs entry_tuple_getitem ?_ (args_tuple_getitem _ _)))
  show wpAny _ _ (Builtin.Tuple.tupleItemsOf (.ref t) >>= _) _ _ s
  refine wpAny_bind (tupleItemsOf_ ht ?_)
  refine wpAny_bind (wpAny_typeOf hTs ?_)
  rw [if_pos (by decide)]
  refine wpAny_bind (sliceApplied_gen hs pl pu ?_)
  have hno : ¬ ((((sIx items.size 0 lo : Nat) : Int) == 0 && (1 : Int) == 1 && (sIx items.size items.size hi - sIx items.size 0 lo) == items.size) = true) := by
    intro q
    rw [Bool.and_eq_true, Bool.and_eq_true] at q
    have q1 : ((sIx items.size 0 lo : Nat) : Int) = 0 := eq_of_beq q.1.1
    have q2 : sIx items.size items.size hi - sIx items.size 0 lo = items.size := eq_of_beq q.2
    exact hw ⟨by omega, by omega⟩
  show wpAny _ _ (if (((sIx items.size 0 lo : Nat) : Int) == 0 && (1 : Int) == 1 && (sIx items.size items.size hi - sIx items.size 0 lo) == items.size) = true then _ else _) _ _ s
  rw [if_neg hno, pick_gen]
  first
    | exact wpAny_bind (m := Builtin.Tuple.tupleExact _) (wpAny_newObj_type (wpAny_pure ⟨_, rfl, wpAny_pure h⟩) htake)
    | exact wpAny_bind (m := Builtin.Tuple.tupleExact _) (wpAny_newObj_type (wpAny_bind (wpAny_pure (wpAny_pure ⟨_, rfl, wpAny_pure h⟩))) htake)
    | exact wpAny_bind (wpAny_bind (m := Builtin.Tuple.tupleExact _) (wpAny_newObj_type (wpAny_pure (wpAny_pure ⟨_, rfl, wpAny_pure h⟩)) htake))
    | exact wpAny_bind (wpAny_bind (m := Builtin.Tuple.tupleExact _) (wpAny_newObj_type (wpAny_pure ⟨_, rfl, wpAny_pure h⟩) htake))
end
end HT
namespace L2
open PySem PySem.Spec PyProof.Rows
abbrev TO := St → Hp → (Option Int → Hp → Prop) → Prop
def PO (X : Cx) (e : Option Expr) (t : TO) : Prop :=
  ∀ (pins : List (Addr × Obj)) (s : Shared) (σ : St) (H : Hp) (Q : Option Int → Hp → Prop), Inv X pins σ H s → t σ H Q →
    wpAny (model X.prog X.w) X.A (evalPart e X.env) (fun u s' => ∃ o H', Inv X pins σ H' s' ∧ IsPart u o ∧ Q o H') X.xe s
def tNoPart : TO := fun _ H Q => Q none H
def tPart (t : TE) : TO := fun σ H Q => t σ H fun x H1 => ∃ i, x = .int i ∧ Q (some i) H1
section
variable {X : Cx} {e : Expr} {te : TE} {lo hi : Option Expr} {tl th : TO} {pos p2 : Pos}
theorem po_none : PO X none tNoPart := by
  intro pins s σ H Q I h
  rw [evalPart_none]
  exact wpAny_pure ⟨none, H, I, .none, h⟩
theorem po_some (h : PE X e te) : PO X (some e) (tPart te) := by
  intro pins s σ H Q I hw
  rw [evalPart_some]
  refine thn (h pins s σ H _ I hw) fun u s1 ⟨x, H1, I1, r1, q1⟩ => ?_
  obtain ⟨i, rfl, q⟩ := q1
  obtain ⟨t, rfl⟩ := r1
  exact ⟨some i, H1, I1, .int i t, q⟩
def SlR (X : Cx) (r : V → Option Int → Option Int → Hp → VK → Prop) : Prop :=
  ∀ (pins : List (Addr × Obj)) (s : Shared) (σ : St) (H : Hp) (x : V) (v vl vu : Value) (lo hi : Option Int) (sl : Addr) (Q : VK), Inv X pins σ H s → RelV x v → s.heap.IsSliceOf sl vl vu .none → IsPart vl lo → IsPart vu hi → r x lo hi H Q →
    ∃ T id, typeLookup (.type T) "__getitem__" = pure (some (.builtin id)) ∧ s.TypeIs v T ∧ wpAny (model X.prog X.w) X.A (getItem v (.ref sl)) (EP X pins σ Q) X.xe s
theorem SlR.or {r r' : V → Option Int → Option Int → Hp → VK → Prop} (h : SlR X r) (h' : SlR X r') : SlR X (fun x lo hi H Q => r x lo hi H Q ∨ r' x lo hi H Q) := by
  intro pins s σ H x v vl vu lo hi sl Q I rx hs pl pu q
  rcases q with q | q
  · exact h pins s σ H x v vl vu lo hi sl Q I rx hs pl pu q
  · exact h' pins s σ H x v vl vu lo hi sl Q I rx hs pl pu q
def tSl (r : V → Option Int → Option Int → Hp → VK → Prop) (te : TE) (tl th : TO) : TE := fun σ H Q => te σ H fun x H1 => tl σ H1 fun l H2 => th σ H2 fun u H3 => r x l u H3 Q
theorem pe_slice {r : V → Option Int → Option Int → Hp → VK → Prop} (hr : SlR X r) (he : PE X e te) (hl : PO X lo tl) (hu : PO X hi th) : PE X (.Subscript e (.Slice lo hi none p2) pos) (tSl r te tl th) := by
  intro pins s σ H Q I h
  refine Subscript_ (thn (he pins s σ H _ I h) fun v s1 ⟨x, H1, I1, r1, q1⟩ => ?_)
  refine wpAny_Slice (thn (hl pins s1 σ H1 _ I1 q1) fun vl s2 ⟨l, H2, I2, pl, q2⟩ => thn (hu pins s2 σ H2 _ I2 q2) fun vu s3 ⟨u, H3, I3, pu, q3⟩ => ?_)
  rw [evalPart_none]
  refine wpAny_pure ?_
  have I4 : Inv X pins σ H3 { s3 with heap := s3.heap.push { cls := .type "slice", data := .fields #[vl, vu, .none] } } := I3.kept (t' := s3.toks) fun b ob q => Heap.get?_push_of_some _ q
  obtain ⟨T, id, hT, ht, hg⟩ := hr pins { s3 with heap := s3.heap.push { cls := .type "slice", data := .fields #[vl, vu, .none] } } σ H3 x v vl vu l u s3.heap.objs.size Q I4 r1 (Heap.IsSliceOf.new ..) pl pu q3
  show wpAny (model X.prog X.w) X.A (subscriptTail e (.Slice lo hi none p2) v (.ref s3.heap.objs.size)) (EP X pins σ Q) X.xe { s3 with heap := s3.heap.push { cls := .type "slice", data := .fields #[vl, vu, .none] } }
  exact tail_any (ops := [.ref s3.heap.objs.size, v]) ht hT hg (by with_unfolding_all rfl)
def cutV (xs : List V) (lo hi : Option Int) : List V := (xs.drop (HT.sIx xs.length 0 lo)).take (HT.sIx xs.length xs.length hi - HT.sIx xs.length 0 lo)
theorem cutV_length (xs : List V) (lo hi : Option Int) : (cutV xs lo hi).length ≤ xs.length := by
  unfold cutV
  rw [List.length_take, List.length_drop]
  omega
def rSlT (K : PySem.W.Frag) : V → Option Int → Option Int → Hp → VK → Prop := fun x lo hi H Q => ∃ a xs, x = .ref a ∧ SqT K H a xs ∧
  ¬ (HT.sIx xs.length 0 lo = 0 ∧ HT.sIx xs.length xs.length hi = xs.length) ∧ ∀ p, H p = none → Q (.ref p) (upd H p (.tup (cutV xs lo hi)))
theorem sl_tup : SlR X (rSlT X.K) := by
  intro pins s σ H x v vl vu lo hi sl Q I rx hs pl pu h
  obtain ⟨a, xs, rfl, hx, hw, q⟩ := h
  cases rx
  obtain ⟨its, r, ht, hz⟩ := I.tuple hx
  have hlen : its.toArray.size = xs.length := by rw [List.size_toArray]; exact r.length.symm
  refine ⟨"tuple", _, PyProof.Rows.slot_tuple_getitem.lookup, ht.typeIs, ?_⟩
  refine HT.getItem_tuple_cut ht hs pl pu (by rw [hlen]; exact hw) ?_ (by rw [hlen]; exact hz)
  rw [hlen]
  refine ⟨.ref s.heap.objs.size, _, I.laid (t' := s.toks) (o := .tup (cutV xs lo hi)) (fun b ob q => Heap.get?_push_of_some _ q) (Nat.le_refl _) ?_, rfl, q _ (I.hok.fresh (Nat.le_refl _))⟩
  exact ⟨Nat.le_trans (cutV_length xs lo hi) hz, _, (r.drop (HT.sIx xs.length 0 lo)).take (HT.sIx xs.length xs.length hi - HT.sIx xs.length 0 lo), IsTup.new _ _⟩
def rCatT (K : PySem.W.Frag) : R2 := fun x y H Q => ∃ a b xs ys, x = .ref a ∧ y = .ref b ∧ SqT K H a xs ∧ SqT K H b ys ∧ xs ≠ [] ∧ xs.length + ys.length ≤ sizeLine ∧
  (ys = [] → Q (.ref a) H) ∧ (ys ≠ [] → ∀ p, H p = none → Q (.ref p) (upd H p (.tup (xs ++ ys))))
theorem Vals.nil_iff {xs : List V} {us : List Value} (r : Vals xs us) : us = [] ↔ xs = [] := by
  cases r with
  | nil => simp
  | cons _ _ => simp
theorem op_catT : OpR X (binaryOp .Add) (rCatT X.K) := by
  intro pins s σ H x y v u Q I rx ry h
  obtain ⟨a, b, xs, ys, rfl, rfl, ha, hb, hx, hz, q1, q2⟩ := h
  cases rx
  cases ry
  obtain ⟨its, r1, p1, _⟩ := I.tuple ha
  obtain ⟨its2, r2, p2, _⟩ := I.tuple hb
  refine HT.cat_tup p1 p2 (fun z => hx (r1.nil_iff.mp z)) (fun z => ⟨.ref a, H, I, rfl, q1 (r2.nil_iff.mp z)⟩) (fun z => ?_) (by rw [← r1.length, ← r2.length]; exact hz)
  refine ⟨.ref s.heap.objs.size, _, I.laid (t' := s.toks) (o := .tup (xs ++ ys)) (fun b ob q => Heap.get?_push_of_some _ q) (Nat.le_refl _) ?_, rfl, q2 (fun w => z (r2.nil_iff.mpr w)) _ (I.hok.fresh (Nat.le_refl _))⟩
  exact ⟨by rw [List.length_append]; exact hz, _, r1.append r2, IsTup.new _ _⟩
end
end L2
namespace L2
open PySem PySem.Spec PyProof.Rows
def ixN (n : Nat) (i : Int) : Option Nat := if 0 ≤ i then (if i < n then some i.toNat else none) else if -(n : Int) ≤ i then some (i + n).toNat else none
def atI {α : Type} (xs : List α) (i : Int) : Option α := (ixN xs.length i).bind fun j => xs[j]?
theorem ixN_seq {n : Nat} {i : Int} {j : Nat} (h : ixN n i = some j) : seqIndex? i n = some j ∧ j < n ∧ -(n : Int) ≤ i ∧ i < n := by
  unfold ixN at h
  by_cases h0 : 0 ≤ i
  · rw [if_pos h0] at h
    by_cases h1 : i < n
    · rw [if_pos h1] at h
      have e : i.toNat = j := Option.some.inj h
      exact ⟨by rw [seqIndex_of h0 h1, e], by omega, by omega, h1⟩
    · rw [if_neg h1] at h; cases h
  · rw [if_neg h0] at h
    by_cases h1 : -(n : Int) ≤ i
    · rw [if_pos h1] at h
      have e : (i + n).toNat = j := Option.some.inj h
      exact ⟨by rw [seqIndex_neg (by omega) h1, e], by omega, h1, by omega⟩
    · rw [if_neg h1] at h; cases h
theorem atI_get {α : Type} {xs : List α} {i : Int} {v : α} (h : atI xs i = some v) : ∃ j, seqIndex? i xs.length = some j ∧ xs[j]? = some v ∧ j < xs.length ∧ -(xs.length : Int) ≤ i ∧ i < xs.length := by
  unfold atI at h
  cases e : ixN xs.length i with
  | none => rw [e] at h; cases h
  | some j =>
    rw [e] at h
    obtain ⟨h1, h2, h3, h4⟩ := ixN_seq e
    exact ⟨j, h1, h, h2, h3, h4⟩
theorem atI_nat {α : Type} {xs : List α} {j : Nat} {v : α} (h : xs[j]? = some v) : atI xs (j : Int) = some v := by
  have hj : j < xs.length := (List.getElem?_eq_some_iff.mp h).1
  have e : ixN xs.length (j : Int) = some j := by
    unfold ixN
    rw [if_pos (by omega), if_pos (by omega)]; simp
  unfold atI; rw [e]; exact h
def PlainIx (b : Expr) : Prop := ∀ o i, subscripted b false o i = operate [o, i] (getItem o i)
def IxR (X : Cx) (r : R2) : Prop :=
  ∀ (value slice : Expr) (pins : List (Addr × Obj)) (s : Shared) (σ : St) (H : Hp) (x y : V) (v u : Value) (Q : VK), Inv X pins σ H s → RelV x v → RelV y u → r x y H Q →
    subscripted slice false v u = operate [v, u] (getItem v u) → wpAny (model X.prog X.w) X.A (subscriptTail value slice v u) (EP X pins σ Q) X.xe s
def MtR (X : Cx) (id : String) (r : V → List V → Hp → VK → Prop) : Prop :=
  ∀ (pins : List (Addr × Obj)) (s : Shared) (σ : St) (H : Hp) (x : V) (xs : List V) (v : Value) (us : List Value) (Q : VK), Inv X pins σ H s → RelV x v → Vals xs us → r x xs H Q →
    wpAny (model X.prog X.w) X.A (call (.builtin id) (v :: us)) (EP X pins σ Q) X.xe s
section
variable {X : Cx} {a b : Expr} {ta tb : TE} {pos : Pos}
theorem IxR.or {r r' : R2} (h : IxR X r) (h' : IxR X r') : IxR X (fun x y H Q => r x y H Q ∨ r' x y H Q) := by
  intro value slice pins s σ H x y v u Q I rx ry q hs
  rcases q with q | q
  · exact h value slice pins s σ H x y v u Q I rx ry q hs
  · exact h' value slice pins s σ H x y v u Q I rx ry q hs
theorem MtR.or {id : String} {r r' : V → List V → Hp → VK → Prop} (h : MtR X id r) (h' : MtR X id r') : MtR X id (fun x xs H Q => r x xs H Q ∨ r' x xs H Q) := by
  intro pins s σ H x xs v us Q I rx rs q
  rcases q with q | q
  · exact h pins s σ H x xs v us Q I rx rs q
  · exact h' pins s σ H x xs v us Q I rx rs q
theorem pe_ix {r : R2} (hr : IxR X r) (ha : PE X a ta) (hb : PE X b tb) (hs : PlainIx b) : PE X (.Subscript a b pos) (tOp r ta tb) := by
  intro pins s σ H Q I h
  exact Subscript_ (binT ha hb I h fun v u s2 x y H2 I2 rx ry q => hr a b pins s2 σ H2 x y v u Q I2 rx ry q (hs _ _))
def rIxL (K : PySem.W.Frag) : R2 := fun x y H Q => ∃ p xs i v, x = .ref p ∧ y = .int i ∧ SqL K H p xs ∧ atI xs i = some v ∧ Q v H
def rIxT (K : PySem.W.Frag) : R2 := fun x y H Q => ∃ p xs i v, x = .ref p ∧ y = .int i ∧ SqT K H p xs ∧ atI xs i = some v ∧ Q v H
def rIxS : R2 := fun x y H Q => ∃ z i c, x = .str z ∧ y = .int i ∧ z.length ≤ sizeLine ∧ atI z.cps.toList i = some c ∧ Q (.str ⟨#[c]⟩) H
theorem ix_list : IxR X (rIxL X.K) := by
  intro value slice pins s σ H x y v u Q I rx ry h hs
  obtain ⟨p, xs, i, z, rfl, rfl, hq, he, q⟩ := h
  cases rx
  obtain ⟨t, rfl⟩ := ry
  obtain ⟨its, r, pl, hz⟩ := I.list hq
  obtain ⟨j, h1, h2, h3, h4, h5⟩ := atI_get he
  obtain ⟨w, ew, rw'⟩ := r.get h2
  have hl := r.length
  have hn := line63
  have fin : EP X pins σ Q w s := ⟨z, H, I, rw', q⟩
  by_cases h0 : 0 ≤ i
  · have hj : i.toNat = j := by
      rw [seqIndex_of h0 h5] at h1
      exact Option.some.inj h1
    exact item_listR pl.isList h0 (by omega) (by rw [hj]; simpa using ew) fin hs
  · have hj : (i + (its.toArray.size : Int)).toNat = j := by
      rw [seqIndex_neg (by omega) h4] at h1
      rw [List.size_toArray, ← hl]
      exact Option.some.inj h1
    exact subscriptTail_builtinR (x := w) pl.isList.typeIs slot_list_getitem.lookup
      (wpAny_getItem_list_neg (Q := fun r s' => r = w ∧ EP X pins σ Q r s') pl.isList (by omega) (by rw [List.size_toArray] <;> omega) (by omega) (by rw [hj]; simpa using ew) ⟨rfl, fin⟩) hs
theorem ix_tup : IxR X (rIxT X.K) := by
  intro value slice pins s σ H x y v u Q I rx ry h hs
  obtain ⟨p, xs, i, z, rfl, rfl, hq, he, q⟩ := h
  cases rx
  obtain ⟨t, rfl⟩ := ry
  obtain ⟨its, r, pl, hz⟩ := I.tuple hq
  obtain ⟨j, h1, h2, h3, h4, h5⟩ := atI_get he
  obtain ⟨w, ew, rw'⟩ := r.get h2
  have hl := r.length
  have hn := line63
  have fin : EP X pins σ Q w s := ⟨z, H, I, rw', q⟩
  exact subscriptTail_builtinR (x := w) pl.typeIs slot_tuple_getitem.lookup
    (getItem_tuple (j := j) (Q := fun r s' => r = w ∧ EP X pins σ Q r s') pl (by omega) (by omega) (by rw [List.size_toArray, ← hl]; exact h1) (by simpa using ew) ⟨rfl, fin⟩) hs
theorem ix_str : IxR X rIxS := by
  intro value slice pins s σ H x y v u Q I rx ry h hs
  obtain ⟨z, i, c, rfl, rfl, hz, he, q⟩ := h
  obtain ⟨t, rfl⟩ := rx
  obtain ⟨t', rfl⟩ := ry
  obtain ⟨j, h1, h2, h3, h4, h5⟩ := atI_get he
  have hl : z.cps.toList.length = z.length := by simp [Str.length]
  rw [hl] at h1 h4 h5
  have hn := line63
  exact tail_any (typeIs_str s z t) slot_str_getitem.lookup (getItem_str (c := c) (by
    have e1 : decide (i < -(2 ^ 63 : Int)) = false := decide_eq_false (by omega)
    have e2 : decide (i ≥ 2 ^ 63) = false := decide_eq_false (by omega)
    rw [e1, e2, Bool.or_false]) (by rw [h1]; simpa using h2) ⟨.str ⟨#[c]⟩, H, I.tok _, ⟨_, rfl⟩, q⟩) hs
def rIx (K : PySem.W.Frag) : R2 := fun x y H Q => rIxL K x y H Q ∨ rIxT K x y H Q ∨ rIxS x y H Q
theorem ix_seq : IxR X (rIx X.K) := ix_list.or (ix_tup.or ix_str)
theorem mapSeq_set (its : List Value) (n j : Nat) (u : Value) : Obj.mapSeq (·.setIfInBounds j u) { cls := .type "list", data := .seq its.toArray n } = { cls := .type "list", data := .seq (its.set j u).toArray n } := by
  simp [Obj.mapSeq]
theorem Inv.lst {pins : List (Addr × Obj)} {σ : St} {H : Hp} {s : Shared} {p : Addr} {xs : List V} (I : Inv X pins σ H s) (h : H p = some (.lst xs)) :
    ∃ (its : List Value) (n : Nat), Vals xs its ∧ s.heap.get? p = some { cls := .type "list", data := .seq its.toArray n } ∧ xs.length ≤ sizeLine := by
  obtain ⟨z, its, n, r, e⟩ := I.hok p _ h
  exact ⟨its, n, r, e, z⟩
theorem Inv.lstUpd {pins : List (Addr × Obj)} {σ : St} {H : Hp} {s : Shared} {p : Addr} {xs ys : List V} {its its' : List Value} {n n' : Nat} {f : Obj → Obj} (I : Inv X pins σ H s) (h : H p = some (.lst xs))
    (ho : s.heap.get? p = some { cls := .type "list", data := .seq its.toArray n }) (hf : f { cls := .type "list", data := .seq its.toArray n } = { cls := .type "list", data := .seq its'.toArray n' }) (r : Vals ys its') (hz : ys.length ≤ sizeLine) (t : Nat) :
    Inv X pins σ (upd H p (.lst ys)) { s with heap := s.heap.update p f, toks := t } := by
  have e : (s.heap.update p f).get? p = some { cls := .type "list", data := .seq its'.toArray n' } := by
    rw [Heap.get?_update_self f ho (by rw [hf] <;> rfl), hf]
  refine I.write (x := p) (e := p) (by rw [h]; trivial) (.inl rfl) (fun b u hb q => (Heap.get?_update_other _ _ (Ne.symm hb)).trans q) ⟨_, e⟩ ?_
  exact ⟨hz, its', n', r, e⟩
def rSetL : V → V → V → Hp → (Hp → Prop) → Prop := fun o i v H Q => ∃ p xs k j, o = .ref p ∧ i = .int k ∧ H p = some (.lst xs) ∧ ixN xs.length k = some j ∧ Q (upd H p (.lst (xs.set j v)))
theorem set_list : PSet X rSetL := by
  intro pins s σ H o i v ov iv u Q I ro ri rv h
  obtain ⟨p, xs, k, j, rfl, rfl, hp, hj, q⟩ := h
  cases ro
  obtain ⟨t, rfl⟩ := ri
  obtain ⟨its, n, r, ho, hz⟩ := I.lst hp
  obtain ⟨h1, h2, h3, h4⟩ := ixN_seq hj
  have hl := r.length
  have hn := line63
  have I' : Inv X pins σ (upd H p (.lst (xs.set j v))) { s with heap := s.heap.update p (Obj.mapSeq (·.setIfInBounds j u)) } :=
    I.lstUpd hp ho (mapSeq_set its n j u) (r.set rv j) (by rw [List.length_set]; exact hz) s.toks
  by_cases h0 : 0 ≤ k
  · have hk : k.toNat = j := by
      rw [seqIndex_of h0 h4] at h1
      exact Option.some.inj h1
    exact PySem.W.ki_setAt ho h0 (by omega) (by rw [List.size_toArray, ← hl]; exact h4) (by rw [hk]; exact ⟨_, I', q⟩)
  · have hk : (k + (its.toArray.size : Int)).toNat = j := by
      rw [seqIndex_neg (by omega) h3] at h1
      rw [List.size_toArray, ← hl]
      exact Option.some.inj h1
    exact PySem.W.ki_setBack ho (by omega) (by rw [List.size_toArray, ← hl]; exact h3) (by omega) (by rw [hk]; exact ⟨_, I', q⟩)
theorem slice_bounds (lo hi : Option Int) (n : Nat) : (sliceBounds lo hi none n).1 = ((HT.sIx n 0 lo : Nat) : Int) ∧ (sliceBounds lo hi none n).2.1 = ((HT.sIx n n hi : Nat) : Int) ∧ (sliceBounds lo hi none n).2.2 = 1 := by
  refine ⟨?_, ?_, rfl⟩
  · cases lo with
    | none => simp [sliceBounds, HT.sIx]
    | some i =>
      simp only [sliceBounds, HT.sIx, Option.getD_none, show (1 : Int) > 0 by decide, if_true]
      by_cases h : i < 0
      · simp only [h, if_true] <;> omega
      · simp only [h, if_false] <;> omega
  · cases hi with
    | none => simp [sliceBounds, HT.sIx]
    | some i =>
      simp only [sliceBounds, HT.sIx, Option.getD_none, show (1 : Int) > 0 by decide, if_true]
      by_cases h : i < 0
      · simp only [h, if_true] <;> omega
      · simp only [h, if_false] <;> omega
theorem slicePick_cut (its : List Value) (lo hi : Option Int) : slicePick its.toArray lo hi none = ((its.drop (HT.sIx its.length 0 lo)).take (HT.sIx its.length its.length hi - HT.sIx its.length 0 lo)).toArray := by
  obtain ⟨h1, h2, h3⟩ := slice_bounds lo hi its.toArray.size
  unfold slicePick
  rw [h1, h2, h3]
  simp only [sliceRange_one, pick_run, List.size_toArray] <;> rfl
def rSlL (K : PySem.W.Frag) : V → Option Int → Option Int → Hp → VK → Prop := fun x lo hi H Q => ∃ a xs, x = .ref a ∧ SqL K H a xs ∧ ∀ p, H p = none → Q (.ref p) (upd H p (.lst (cutV xs lo hi)))
theorem sl_list : SlR X (rSlL X.K) := by
  intro pins s σ H x v vl vu lo hi sl Q I rx hs pl pu h
  obtain ⟨a, xs, rfl, hx, q⟩ := h
  cases rx
  obtain ⟨its, r, ht, hz⟩ := I.list hx
  have hlen := r.length
  refine ⟨"list", _, slot_list_getitem.lookup, ht.isList.typeIs, ?_⟩
  refine wpAny_getItem_list_slice ht.isList hs pl pu .none (by simp) ?_ (by rw [List.size_toArray] <;> omega)
  rw [slicePick_cut, ← hlen]
  refine ⟨.ref s.heap.objs.size, _, I.laid (t' := s.toks) (o := .lst (cutV xs lo hi)) (fun b ob q => Heap.get?_push_of_some _ q) (Nat.le_refl _) ?_, rfl, q _ (I.hok.fresh (Nat.le_refl _))⟩
  exact ⟨Nat.le_trans (cutV_length xs lo hi) hz, _, 0, (r.drop (HT.sIx xs.length 0 lo)).take (HT.sIx xs.length xs.length hi - HT.sIx xs.length 0 lo), Heap.get?_push_size _ rfl⟩
def flatV : V → Bool
  | .non => true
  | .bl _ => true
  | .int _ => true
  | .str _ => true
  | _ => false
def eqV : V → V → Bool
  | .non, .non => true
  | .bl a, .bl b => a == b
  | .bl a, .int b => (if a then 1 else 0) == b
  | .int a, .bl b => a == (if b then 1 else 0)
  | .int a, .int b => a == b
  | .str a, .str b => a == b
  | _, _ => false
theorem eqAt_V {A : Around} {s : Shared} {y x : V} {u v : Value} (ry : RelV y u) (rx : RelV x v) (fy : flatV y = true) (fx : flatV x = true) : SeqAt.EqAt A s u v (eqV y x) := by
  cases y with
  | non =>
    cases ry
    cases x with
    | non => cases rx; exact SeqAt.EqAt.same _
    | bl b => cases rx; exact SeqAt.EqAt.none_bool b
    | int b => obtain ⟨t, rfl⟩ := rx; exact SeqAt.EqAt.none_int b t
    | str b => obtain ⟨t, rfl⟩ := rx; exact SeqAt.EqAt.none_str b t
    | _ => exact absurd (show false = true from fx) Bool.false_ne_true
  | bl a =>
    cases ry
    cases x with
    | non => cases rx; exact SeqAt.EqAt.bool_none a
    | bl b => cases rx; exact SeqAt.EqAt.bool_bool a b
    | int b => obtain ⟨t, rfl⟩ := rx; exact SeqAt.EqAt.bool_int a b t
    | str b => obtain ⟨t, rfl⟩ := rx; exact SeqAt.EqAt.bool_str a b t
    | _ => exact absurd (show false = true from fx) Bool.false_ne_true
  | int a =>
    obtain ⟨t', rfl⟩ := ry
    cases x with
    | non => cases rx; exact SeqAt.EqAt.int_none a t'
    | bl b => cases rx; exact SeqAt.EqAt.int_bool a t' b
    | int b => obtain ⟨t, rfl⟩ := rx; exact SeqAt.EqAt.int_int a t' b t
    | str b => obtain ⟨t, rfl⟩ := rx; exact SeqAt.EqAt.int_str a t' b t
    | _ => exact absurd (show false = true from fx) Bool.false_ne_true
  | str a =>
    obtain ⟨t', rfl⟩ := ry
    cases x with
    | non => cases rx; exact SeqAt.EqAt.str_none a t'
    | bl b => cases rx; exact SeqAt.EqAt.str_bool a t' b
    | int b => obtain ⟨t, rfl⟩ := rx; exact SeqAt.EqAt.str_int a t' b t
    | str b => obtain ⟨t, rfl⟩ := rx; exact SeqAt.EqAt.str_str a t' b t
    | _ => exact absurd (show false = true from fx) Bool.false_ne_true
  | _ => exact absurd (show false = true from fy) Bool.false_ne_true
def eqU (x : V) (u : Value) : Bool := match u with
  | .none => eqV .non x
  | .bool b => eqV (.bl b) x
  | .int i _ => eqV (.int i) x
  | .str z _ => eqV (.str z) x
  | _ => false
theorem eqU_of {x y : V} {u : Value} (r : RelV y u) (f : flatV y = true) : eqU x u = eqV y x := by
  cases y with
  | non => cases r; rfl
  | bl b => cases r; rfl
  | int i => obtain ⟨t, rfl⟩ := r; rfl
  | str z => obtain ⟨t, rfl⟩ := r; rfl
  | _ => exact absurd (show false = true from f) Bool.false_ne_true
theorem any_eqU {x : V} : ∀ {xs : List V} {us : List Value}, Vals xs us → xs.all flatV = true → us.any (eqU x) = xs.any fun y => eqV y x
  | _, _, .nil, _ => rfl
  | y :: xs, u :: us, .cons r t, f => by
    rw [List.all_cons, Bool.and_eq_true] at f
    rw [List.any_cons, List.any_cons, eqU_of r f.1, any_eqU t f.2]
theorem mem_eqAt {A : Around} {s : Shared} {x : V} {v : Value} (rx : RelV x v) (fx : flatV x = true) : ∀ {xs : List V} {us : List Value}, Vals xs us → xs.all flatV = true → ∀ u ∈ us, SeqAt.EqAt A s u v (eqU x u)
  | _, _, .nil, _ => fun u hu => by cases hu
  | y :: xs, u :: us, .cons r t, f => fun u' hu => by
    rw [List.all_cons, Bool.and_eq_true] at f
    rcases List.mem_cons.mp hu with rfl | hu
    · rw [eqU_of r f.1]; exact eqAt_V r rx f.1 fx
    · exact mem_eqAt rx fx t f.2 u' hu
def inV (x : V) (xs : List V) : Bool := xs.any fun y => eqV y x
def rIn (K : PySem.W.Frag) (neg : Bool) : R2 := fun x y H Q => ∃ p xs, y = .ref p ∧ (SqL K H p xs ∨ SqT K H p xs) ∧ flatV x = true ∧ xs.all flatV = true ∧ Q (.bl (if neg then !inV x xs else inV x xs)) H
theorem op_in_seq : OpR X (compareOp .In) (rIn X.K false) := by
  intro pins s σ H x y v u Q I rx ry h
  obtain ⟨p, xs, rfl, hq, fx, fs, q⟩ := h
  cases ry
  rcases hq with hq | hq
  · obtain ⟨its, r, pl, hz⟩ := I.list hq
    refine SeqAt.in_listAt (eqU x) pl.isList (fun w hw => mem_eqAt rx fx r fs w (by simpa using hw)) ⟨.bl _, H, I, rfl, ?_⟩
    rw [show its.toArray.any (eqU x) = its.any (eqU x) by simp, any_eqU r fs]
    exact q
  · obtain ⟨its, r, pl, hz⟩ := I.tuple hq
    refine SeqAt.in_tupleAt (eqU x) pl (fun w hw => mem_eqAt rx fx r fs w (by simpa using hw)) ⟨.bl _, H, I, rfl, ?_⟩
    rw [show its.toArray.any (eqU x) = its.any (eqU x) by simp, any_eqU r fs]
    exact q
theorem op_notIn_seq : OpR X (compareOp .NotIn) (rIn X.K true) := by
  intro pins s σ H x y v u Q I rx ry h
  obtain ⟨p, xs, rfl, hq, fx, fs, q⟩ := h
  cases ry
  rcases hq with hq | hq
  · obtain ⟨its, r, pl, hz⟩ := I.list hq
    refine SeqAt.notIn_listAt (eqU x) pl.isList (fun w hw => mem_eqAt rx fx r fs w (by simpa using hw)) ⟨.bl _, H, I, rfl, ?_⟩
    rw [show its.toArray.any (eqU x) = its.any (eqU x) by simp, any_eqU r fs]
    exact q
  · obtain ⟨its, r, pl, hz⟩ := I.tuple hq
    refine SeqAt.notIn_tupleAt (eqU x) pl (fun w hw => mem_eqAt rx fx r fs w (by simpa using hw)) ⟨.bl _, H, I, rfl, ?_⟩
    rw [show its.toArray.any (eqU x) = its.any (eqU x) by simp, any_eqU r fs]
    exact q
theorem call_len_seq : CallR X (.builtin "len") (fun xs H Q => ∃ p ys, xs = [.ref p] ∧ (SqL X.K H p ys ∨ SqT X.K H p ys) ∧ Q (.int ys.length) H) := by
  intro pins s σ H xs us Q I r h
  obtain ⟨p, ys, rfl, hq, q⟩ := h
  obtain ⟨u, rfl, rx⟩ := vals1 r
  cases rx
  have hn := line63
  rcases hq with hq | hq
  · obtain ⟨its, r', pl, hz⟩ := I.list hq
    have hlen := r'.length
    exact Calls.call_len_list pl.isList (by simp only [List.size_toArray] <;> omega) ⟨.int ys.length, H, I.tok _, ⟨s.toks + 1, by rw [List.size_toArray, hlen]⟩, q⟩
  · obtain ⟨its, r', pl, hz⟩ := I.tuple hq
    have hlen := r'.length
    exact len_tuple pl (by simp only [List.size_toArray] <;> omega) ⟨.int ys.length, H, I.tok _, ⟨s.toks + 1, by rw [List.size_toArray, hlen]⟩, q⟩
theorem call_len_str : CallR X (.builtin "len") (fun xs H Q => ∃ z, xs = [.str z] ∧ z.length ≤ sizeLine ∧ Q (.int z.length) H) := by
  intro pins s σ H xs us Q I r h
  obtain ⟨z, rfl, hz, q⟩ := h
  obtain ⟨u, rfl, t, rfl⟩ := vals1 r
  have hn := line63
  exact len_str (by omega) ⟨.int z.length, H, I.tok _, ⟨_, rfl⟩, q⟩
theorem CallR.or {f : Value} {r r' : List V → Hp → VK → Prop} (h : CallR X f r) (h' : CallR X f r') : CallR X f (fun xs H Q => r xs H Q ∨ r' xs H Q) := by
  intro pins s σ H xs us Q I rs q
  rcases q with q | q
  · exact h pins s σ H xs us Q I rs q
  · exact h' pins s σ H xs us Q I rs q
theorem call_tuple_of : CallR X (.type "tuple") (fun xs H Q => ∃ p ys, xs = [.ref p] ∧ ((SqL X.K H p ys ∧ ∀ l, H l = none → Q (.ref l) (upd H l (.tup ys))) ∨ (SqT X.K H p ys ∧ Q (.ref p) H))) := by
  intro pins s σ H xs us Q I r h
  obtain ⟨p, ys, rfl, h⟩ := h
  obtain ⟨u, rfl, rx⟩ := vals1 r
  cases rx
  rcases h with ⟨hq, q⟩ | ⟨hq, q⟩
  · obtain ⟨its, r', pl, hz⟩ := I.list hq
    have hlen := r'.length
    refine call_tuple_list pl.isList (fun h' kp => ?_) (by simp only [List.size_toArray] <;> omega)
    have I1 : Inv X pins σ H { s with heap := h' } := I.kept (t' := s.toks) kp
    have I2 : Inv X pins σ (upd H h'.objs.size (.tup ys)) { s with heap := h'.push { cls := .type "tuple", data := .seq its.toArray } } :=
      I1.laid (t' := s.toks) (fun b o e => Heap.get?_push_of_some _ e) (Nat.le_refl _) (show ObjOk X.prog X.w _ _ _ (.tup ys) from ⟨hz, its, r', IsTup.new _ _⟩)
    exact ⟨.ref h'.objs.size, _, I2, rfl, q _ (I1.hok.fresh (Nat.le_refl _))⟩
  · obtain ⟨its, r', pl, hz⟩ := I.tuple hq
    exact call_tuple_same pl ⟨.ref p, H, I, rfl, q⟩
def tyV (K : PySem.W.Frag) (T : String) (x : V) (H : Hp) : Prop := match x with
  | .str _ => T = "str"
  | .int _ => T = "int"
  | .ref p => (T = "list" ∧ ∃ xs, SqL K H p xs) ∨ (T = "tuple" ∧ ∃ o, K.lookup p = some o ∧ o.cls = .type "tuple" ∧ o.dict = none) ∨
      (T = "dict" ∧ ((∃ kvs, H p = some (.dK kvs)) ∨ ∃ kvs, H p = some (.dT kvs))) ∨ (T = "set" ∧ ∃ S n, H p = some (.set S n))
  | _ => False
theorem tyV_is {pins : List (Addr × Obj)} {σ : St} {H : Hp} {s : Shared} {T : String} {x : V} {v : Value} (I : Inv X pins σ H s) (r : RelV x v) (ty : tyV X.K T x H) :
    s.TypeIs v T ∧ ∀ a, v = .ref a → ∃ ob, s.heap.get? a = some ob ∧ ob.dict = none := by
  cases x with
  | str z =>
    obtain ⟨t, rfl⟩ := r
    cases (show T = "str" from ty)
    exact ⟨typeIs_str s z t, fun _ e => nomatch e⟩
  | int i =>
    obtain ⟨t, rfl⟩ := r
    cases (show T = "int" from ty)
    exact ⟨typeIs_int s i t, fun _ e => nomatch e⟩
  | ref p =>
    cases r
    rcases ty with ⟨rfl, xs, hq⟩ | ⟨rfl, o, hk, hc, hd⟩ | ⟨rfl, hk⟩ | ⟨rfl, S, n, hk⟩
    · obtain ⟨its, _, pl, _⟩ := I.list hq
      refine ⟨pl.isList.typeIs, fun a e => ?_⟩
      cases e
      obtain ⟨o, n, e, c, hd, _⟩ := pl
      exact ⟨o, e, hd⟩
    · refine ⟨⟨o, I.kIn p o hk, hc⟩, fun a e => ?_⟩
      cases e
      exact ⟨o, I.kIn _ o hk, hd⟩
    · have z : ∃ o, s.heap.get? p = some o ∧ o.ExactDict := by
        rcases hk with ⟨kvs, hk⟩ | ⟨kvs, hk⟩
        · obtain ⟨_, _, _, _, o, _, _, e, ex, _⟩ := I.hok p _ hk
          exact ⟨o, e, ex⟩
        · obtain ⟨_, _, _, _, o, _, _, e, ex, _⟩ := I.hok p _ hk
          exact ⟨o, e, ex⟩
      obtain ⟨o, e, ex⟩ := z
      refine ⟨⟨o, e, ex.1⟩, fun a e2 => ?_⟩
      cases e2
      exact ⟨o, e, ex.2.1⟩
    · obtain ⟨o, _, _, _, e, ex, _⟩ := I.hok p _ hk
      refine ⟨⟨o, e, ex.1⟩, fun a e2 => ?_⟩
      cases e2
      exact ⟨o, e, ex.2.1⟩
  | _ => exact False.elim ty
def tBM0 (K : PySem.W.Frag) (T : String) (r : V → List V → Hp → VK → Prop) (to : TE) : TE := fun σ H Q => to σ H fun x H1 => tyV K T x H1 ∧ r x [] H1 Q
def tBM (K : PySem.W.Frag) (T : String) (r : V → List V → Hp → VK → Prop) (to : TE) (t : TA) : TE := fun σ H Q => to σ H fun x H1 => tyV K T x H1 ∧ t σ H1 fun xs H2 => r x xs H2 Q
variable {o e : Expr} {es : List Expr} {to : TE} {t : TA} {name : Str} {apos cpos : Pos} {T id : String} {r : V → List V → Hp → VK → Prop}
theorem pe_bm (pa : PlainAttrs T) (slot : Slot T name id) (hty : typeOf (.builtin id) = pure (.type "method_descriptor")) (hm : MtR X id r) (ho : PE X o to) (ha : PA X (e :: es) t)
    (hbase : attributeBase o name X.env (eval o X.env) = eval o X.env := by rfl)
    (hfew : ((backTo cpos (starEach (e :: es) X.env)).all (fun x => !x.1) && (backToKw cpos (keywordEach [] X.env)).all (fun x => x.1.isSome)
      && decide ((e :: es).length + ([] : List Keyword).length + (if ([] : List Keyword).isEmpty then 0 else 1) < 30)) = true := by rfl)
    (hline : (apos.endLine == cpos.line) = true := by rfl) (hs : starEach (e :: es) X.env = (false, eval e X.env) :: starEach es X.env := by rfl) (hplain : (backTo cpos (starEach es X.env)).any (·.1) = false := by rfl) :
    PE X (.Call (.Attribute o name apos) (e :: es) [] cpos) (tBM X.K T r to t) := by
  intro pins s σ H Q I h
  refine wpAny_Call_method_late hbase hfew hline rfl (thn (ho pins s σ H _ I h) fun v s1 ⟨x, H1, I1, r1, ty, q1⟩ => ?_)
  obtain ⟨h1, h2⟩ := tyV_is I1 r1 ty
  refine ⟨T, id, pa, slot, hty, h1, h2, ?_⟩
  have hA := ha cpos pins s1 σ H1 _ I1 q1
  rw [hs] at hA ⊢
  refine Calls.callWith_builtin (by show (false || (backTo cpos (starEach es X.env)).any (·.1)) = false; rw [hplain] <;> rfl) (Calls.evalArgs_plain ?_)
  exact thn hA fun us s2 ⟨vs, H2, I2, r2, q2⟩ => hm pins s2 σ H2 x vs v us Q I2 r1 r2 q2
/- xs.append(e), list.index on a module's tuple .. are MtR facts of 06m -/
end
end L2
namespace L2
open PySem PySem.Spec PyProof.Rows
def MtM (X : Cx) (id : String) (r : V → List V → Hp → VK → Prop) : Prop :=
  ∀ (pins : List (Addr × Obj)) (s : Shared) (σ : St) (H : Hp) (x : V) (xs : List V) (v : Value) (us : List Value) (Q : VK), Inv X pins σ H s → RelV x v → Vals xs us → r x xs H Q →
    wpAny (model X.prog X.w) X.A (call (.builtin id) (v :: us)) (EP X pins σ Q) X.xe s
theorem Vals.one : ∀ {x : V} {us : List Value}, Vals [x] us → ∃ u, us = [u] ∧ RelV x u
  | _, _, .cons r .nil => ⟨_, rfl, r⟩
theorem Vals.zero : ∀ {us : List Value}, Vals [] us → us = []
  | _, .nil => rfl
theorem Vals.dropLast {xs : List V} {us : List Value} (h : Vals xs us) : Vals xs.dropLast us.dropLast := by
  induction h with
  | nil => exact .nil
  | cons r t ih =>
    cases t with
    | nil => exact .nil
    | cons q t' => exact .cons r ih
theorem Vals.reverse {xs : List V} {us : List Value} (h : Vals xs us) : Vals xs.reverse us.reverse := by
  induction h with
  | nil => exact .nil
  | cons r t ih => rw [List.reverse_cons, List.reverse_cons]; exact Vals.append ih (.cons r .nil)
theorem Vals.rep {xs : List V} {us : List Value} (h : Vals xs us) : ∀ k : Nat, Vals (List.replicate k xs).flatten (List.replicate k us).flatten
  | 0 => .nil
  | k + 1 => by
    rw [List.replicate_succ, List.replicate_succ, List.flatten_cons, List.flatten_cons]
    exact Vals.append h (Vals.rep h k)
theorem foldl_rep (its : List Value) : ∀ (k : Nat) (acc : List Value),
    List.foldl (fun x1 x2 => x1 ++ x2) acc.toArray (List.replicate k its.toArray) = (acc ++ (List.replicate k its).flatten).toArray
  | 0, acc => by simp
  | k + 1, acc => by
    have e : acc.toArray ++ its.toArray = (acc ++ its).toArray := by simp
    have e2 : (acc ++ its) ++ (List.replicate k its).flatten = acc ++ (List.replicate (k + 1) its).flatten := by
      rw [List.replicate_succ, List.flatten_cons, List.append_assoc]
    rw [← e2, ← foldl_rep its k (acc ++ its), ← e, List.replicate_succ, List.foldl_cons]
section
variable {X : Cx} {pins : List (Addr × Obj)} {σ : St} {H : Hp} {s : Shared} {l b : Addr} {xs ys zs : List V}
theorem Inv.lset {its its' : List Value} {n : Nat} {f : Array Value → Array Value} {t' : Nat} (I : Inv X pins σ H s) (hH : H l = some (.lst xs))
    (e : s.heap.get? l = some { cls := .type "list", data := .seq its.toArray n }) (hf : f its.toArray = its'.toArray) (hv : Vals ys its') (hz : ys.length ≤ sizeLine) :
    Inv X pins σ (upd H l (.lst ys)) { s with heap := s.heap.update l (Obj.mapSeq f), toks := t' } := by
  have q := PySem.IsL.update e f
  rw [hf] at q
  refine I.write (x := l) (e := l) (by rw [hH]; exact trivial) (.inl rfl) (fun b' u hb hu => (Heap.get?_update_other s.heap (Obj.mapSeq f) (Ne.symm hb)).trans hu) ⟨_, q⟩ ?_
  exact ⟨hz, its', _, hv, q⟩
theorem Inv.lnew {its : List Value} {t' : Nat} (I : Inv X pins σ H s) (hv : Vals ys its) (hz : ys.length ≤ sizeLine) :
    Inv X pins σ (upd H s.heap.objs.size (.lst ys)) { s with heap := s.heap.push { cls := .type "list", data := .seq its.toArray }, toks := t' } :=
  I.laid (fun _ _ q => Heap.get?_push_of_some _ q) (Nat.le_refl _) ⟨hz, its, 0, hv, Heap.get?_push_size _ rfl⟩
theorem Inv.fresh (I : Inv X pins σ H s) : H s.heap.objs.size = none := I.hok.fresh (Nat.le_refl _)
theorem Inv.lstM (I : Inv X pins σ H s) (hH : H l = some (.lst xs)) : xs.length ≤ sizeLine ∧ ∃ (its : List Value) (n : Nat), Vals xs its ∧ xs.length = its.length ∧ s.heap.get? l = some { cls := .type "list", data := .seq its.toArray n } := by
  obtain ⟨z, its, n, r, e⟩ := I.hok l _ hH
  exact ⟨z, its, n, r, r.length, e⟩
theorem notLongL {n : Nat} (h : n ≤ sizeLine) : Builtin.List.listTooLong n = false := by
  unfold Builtin.List.listTooLong
  exact decide_eq_false (by omega)
end
section
variable {X : Cx}
def rAppend : V → List V → Hp → VK → Prop := fun x vs H Q => ∃ l xs y, x = .ref l ∧ vs = [y] ∧ H l = some (.lst xs) ∧ xs.length < sizeLine ∧ Q .non (upd H l (.lst (xs ++ [y])))
theorem mt_append : MtM X "list.append" rAppend := by
  intro pins s σ H x vs v us Q I rx rv h
  obtain ⟨l, xs, y, rfl, rfl, hH, hz, q⟩ := h
  cases rx
  obtain ⟨u, rfl, ru⟩ := rv.one
  obtain ⟨z, its, n, r, hl, e⟩ := I.lstM hH
  refine call_meets F.slot_list_append ⟨_, e, rfl⟩ F.entry_list_append (F.args_list_append_2 _ _) (PySem.list_append l its.toArray n u (by rw [List.size_toArray]; omega)) ⟨e, ?_⟩
  refine ⟨.non, _, I.lset (its' := its ++ [u]) hH e (by simp) (r.append (.cons ru .nil)) ?_, rfl, q⟩
  rw [List.length_append, List.length_singleton]
  omega
def rExtend : V → List V → Hp → VK → Prop := fun x vs H Q => ∃ l b xs zs, x = .ref l ∧ vs = [.ref b] ∧ H l = some (.lst xs) ∧ H b = some (.lst zs) ∧ xs.length + zs.length ≤ sizeLine ∧ Q .non (upd H l (.lst (xs ++ zs)))
theorem mt_extend : MtM X "list.extend" rExtend := by
  intro pins s σ H x vs v us Q I rx rv h
  obtain ⟨l, b, xs, zs, rfl, rfl, hH, hB, hz, q⟩ := h
  cases rx
  obtain ⟨u, rfl, ru⟩ := rv.one
  cases ru
  obtain ⟨z, its, n, r, hl, e⟩ := I.lstM hH
  obtain ⟨z2, its2, n2, r2, hl2, e2⟩ := I.lstM hB
  have hsz : its.toArray.size + its2.toArray.size ≤ sizeLine := by rw [List.size_toArray, List.size_toArray]; omega
  have hlong : ¬ (!its.toArray.isEmpty && Builtin.List.listTooLong (its.toArray.size + its2.toArray.size)) = true := by
    rw [notLongL hsz, Bool.and_false]
    exact Bool.false_ne_true
  refine call_meets F.slot_list_extend ⟨_, e, rfl⟩ F.entry_list_extend (F.args_list_extend_2 _ _)
    (AutoSeq1.list_extend_list_list_0 l its.toArray n b its2.toArray n2 hlong (by rw [List.size_toArray]; omega) (by omega)) ⟨e, e2, ?_⟩
  refine ⟨.non, _, I.lset (its' := its ++ its2) hH e (by simp) (r.append r2) ?_, rfl, q⟩
  rw [List.length_append]
  omega
def rCat : R2 := fun x y H Q => ∃ l b xs zs, x = .ref l ∧ y = .ref b ∧ H l = some (.lst xs) ∧ H b = some (.lst zs) ∧ xs.length + zs.length ≤ sizeLine ∧ ∀ p, H p = none → Q (.ref p) (upd H p (.lst (xs ++ zs)))
theorem op_cat : OpR X (binaryOp .Add) rCat := by
  intro pins s σ H x y v u Q I rx ry h
  obtain ⟨l, b, xs, zs, rfl, rfl, hH, hB, hz, q⟩ := h
  cases rx
  cases ry
  obtain ⟨z, its, n, r, hl, e⟩ := I.lstM hH
  obtain ⟨z2, its2, n2, r2, hl2, e2⟩ := I.lstM hB
  refine PySem.P.add_list e e2 ?_ (by rw [List.size_toArray, List.size_toArray]; omega)
  have ea : its.toArray ++ its2.toArray = (its ++ its2).toArray := by simp
  rw [ea]
  exact ⟨.ref _, _, I.lnew (t' := s.toks) (r.append r2) (by rw [List.length_append]; omega), rfl, q _ I.fresh⟩
def rRep : R2 := fun x y H Q => ∃ l k xs, x = .ref l ∧ y = .int k ∧ H l = some (.lst xs) ∧ -(2 ^ 63) ≤ k ∧ k < 2 ^ 63 ∧ xs.length * k.toNat ≤ sizeLine ∧
  ∀ p, H p = none → Q (.ref p) (upd H p (.lst (List.replicate k.toNat xs).flatten))
theorem len_rep {α : Type} (xs : List α) (k : Nat) : (List.replicate k xs).flatten.length = k * xs.length := by
  induction k with
  | zero => simp
  | succ k ih => rw [List.replicate_succ, List.flatten_cons, List.length_append, ih, Nat.succ_mul, Nat.add_comm]
theorem op_rep : OpR X (binaryOp .Mult) rRep := by
  intro pins s σ H x y v u Q I rx ry h
  obtain ⟨l, k, xs, rfl, rfl, hH, h1, h2, hz, q⟩ := h
  cases rx
  obtain ⟨t, rfl⟩ := ry
  obtain ⟨z, its, n, r, hl, e⟩ := I.lstM hH
  have hlen : its.toArray.size * k.toNat ≤ sizeLine := by rw [List.size_toArray, ← hl]; exact hz
  have hcap : ¬ its.toArray.size * k.toNat > (2 ^ 63 - 1) / 8 := by
    have : (sizeLine : Nat) ≤ (2 ^ 63 - 1) / 8 := by decide
    omega
  have hfit : ¬ (!Builtin.List.listFitsIndex k) = true := by
    rw [fitsIndex_both h1 h2]
    exact Bool.false_ne_true
  have hlong : ¬ Builtin.List.listTooLong (its.toArray.size * k.toNat) = true := by
    rw [notLongL hlen]
    exact Bool.false_ne_true
  have hnew : List.foldl (fun x1 x2 => x1 ++ x2) #[] (List.replicate (if its.toArray.isEmpty = true then 0 else k.toNat) its.toArray) = (List.replicate k.toNat its).flatten.toArray := by
    have f0 : ∀ m : Nat, List.foldl (fun x1 x2 => x1 ++ x2) #[] (List.replicate m its.toArray) = (List.replicate m its).flatten.toArray := fun m => by
      have := foldl_rep its m []
      rw [List.nil_append] at this
      exact this
    rw [f0]
    cases its with
    | nil => simp
    | cons a r' => rw [if_neg (by simp)]
  refine wpAny_binaryOp_repeat_ref (T := "list") (U := "int") (by decide) ⟨_, e, rfl⟩ (fun s' => typeIs_int s' k t) noFill_list_mul F.fills_int_mul F.slot_int_rmul repeat_list F.slot_int_index.lookup
    (call_meets F.slot_int_rmul (typeIs_int s k t) F.entry_int_rmul (F.args_int_rmul_2 _ _) (int___rmul___int_list k t l its.toArray n)
      ⟨e, rfl, ⟨_, e, rfl⟩, call_meets F.slot_list_mul ⟨_, e, rfl⟩ F.entry_list_mul (F.args_list_mul_2 _ _) (AutoListH.list___mul___list_int_3 l its.toArray n k t hfit hcap hlong) ⟨e, ?_⟩⟩)
  rw [hnew]
  exact ⟨.ref _, _, I.lnew (t' := s.toks) (r.rep k.toNat) (by rw [len_rep, Nat.mul_comm]; exact hz), rfl, q _ I.fresh⟩
end
section
variable {prog : Program} {w : World} {A : Around} {E : Value → Shared → Prop} {s : Shared}
set_option maxRecDepth 100000 in
end
section
variable {X : Cx}
end
end L2
namespace Att
open PySem PySem.W PySem.Calls PyProof.Rows
theorem ints_of_wellAll {P : Params} {h : Heap} : ∀ (ns : List Int) (vs : List Value), WellAll P h vs (ns.map WData.int) → IntsAre vs ns := by
  intro ns
  induction ns with
  | nil =>
    intro vs w
    rw [List.map_nil] at w
    cases w
    exact .nil
  | cons n ns ih =>
    intro vs w
    rw [List.map_cons] at w
    cases w with
    | cons a b =>
      cases a
      exact .cons _ _ (ih _ b)
theorem script_of {l : OpenLaw} {n : Nat} (hn : l.most = some n) {P : Params} {h : Heap} {args : List WData} {vals : List Value}
    (hpre : l.row.toRowW.claim.pre args = true) (hwl : WellAll P h vals args) :
    ∃ a vs ns, vals = [Value.ref a] ∧ args = [WData.list (ns.map WData.int)] ∧ h.get? a = some { cls := .type "list", data := .seq vs.toArray } ∧ IntsAre vs ns ∧ ns.length ≤ n := by
  have hsh : WShape.hasAll [] args [.list .int] = true := (pre_splitW hpre).1
  have hc : l.pre.holds [] { args := args } = true := (pre_splitW hpre).2
  obtain ⟨d, r, rfl, h1, h2⟩ := hasAllW_cons hsh
  obtain rfl := hasAllW_nil h2
  obtain ⟨xs, rfl, h3⟩ := hasW_list h1
  obtain ⟨ns, rfl⟩ := items_int h3
  have hlen : ns.length ≤ n := by
    unfold OpenLaw.pre at hc
    have h4 : (WTm.not (.lt (.lit (.int (n : Int))) (.len (.arg 0)))).holds [] { args := [.list (ns.map .int)] } = true := by
      have h4 := (holds_andW hc).1
      rw [hn] at h4
      exact h4
    have h5 := condW_of h4 (w_not (w_lt w_lit (w_len_list (w_arg rfl))))
    rw [List.length_map] at h5
    refine Nat.le_of_not_lt fun q => ?_
    have q' : (n : Int) < ((ns.length : Nat) : Int) := by omega
    first
      | (rw [decide_eq_true q'] at h5; exact absurd h5 (by decide))
      | (simp at h5; omega)
  cases hwl with
  | cons w1 w2 =>
    cases w2
    cases w1 with
    | list ho hall => exact ⟨_, _, ns, rfl, rfl, ho, ints_of_wellAll ns _ hall, hlen⟩
theorem post_true (l : OpenLaw) (args : List WData) : l.row.toRowW.claim.post args (.bool true) args = true :=
  postW_of (r := l.row.toRowW) (X := (true == true))
    (show WShape.has [] (.bool true) .bool = true by first | rfl | decide | simp [WShape.has, WShape.arms, WShape.armsAll])
    (show (WTm.eq .res (.lit (.bool true))).value [] { args := args, res := some (.bool true), after := args } = some (.bool (true == true)) from w_eq_bool (w_res rfl) w_lit) rfl
theorem attach_call {l : OpenLaw} {n : Nat} {q : Program} {loose : List Str} {XP : (Str → Option Value) → Heap → Prop} {YP : World → Heap → Prop} {d : DefRec}
    (hn : l.most = some n) (hdf : d.params.defaults = [])
    (call : ∀ (w : World) (s₀ s₁ : Shared) (mg mb : Str → Option Value) (fa : Addr) (o : Obj) (pm cd doc : Value) (a : Addr) (vs : List Value) (ns : List Int),
      Ground q loose [] XP w s₀ mg mb s₁.heap → YP w s₁.heap →
      s₁.heap.get? fa = some o → o.data = .func (docDef d.name d.params d.body d.scope pm cd doc) → s₁.heap.CodeRec cd d.name → mg d.name = some (.ref fa) →
      s₁.heap.get? a = some { cls := .type "list", data := .seq vs.toArray } → IntsAre vs ns → ns.length ≤ n → s₁.gens = #[] →
      codeAny (model l.prog w) callerA (.call (.ref fa) ⟨[.ref a], []⟩) (fun r s' => r = .ok (.ret (.bool true)) ∧ OldK s₁.heap s'.heap ∧ s'.os = s₁.os ∧ AllBare s'.gens) s₁) :
    WalkO q loose XP YP l.row.toRowW d [] (fun f vs => PySem.call f vs) := by
  intro w s₀ s₁ mg mb G Y fa o pm cd doc dV kV ho hd hcd hD hmg hg args vals as hpre hlay hrd hwl hlo
  obtain rfl : dV = .none := Dflts.none hD hdf
  obtain rfl : kV = .none := Dflts.noKw hD
  obtain ⟨a, vs, ns, rfl, rfl, hobj, hints, hlen⟩ := script_of hn hpre hwl
  refine enter_call (codeAny_mono (call w s₀ s₁ mg mb fa o pm cd doc a vs ns G Y ho (fd_plain hd) hcd hmg hobj hints hlen hg) fun r s' hq => ?_)
  obtain ⟨rfl, h2, h3, h4⟩ := hq
  exact ⟨.inl ⟨.bool true, .bool true, [], rfl, fun _ => rfl, .bool true, post_true l _, fun _ => ⟨List.Pairwise.nil, fun _ hm => (nomatch hm)⟩⟩, h2, h3, h4⟩
section
variable {prog : Program} {w : World} {A : Around} {E : Value → Shared → Prop} {s : Shared} {K : Frag}
end
end Att
namespace L2
open PySem PySem.Spec PyProof.Rows
theorem vals_ints : ∀ {vs : List Value} {ns : List Int}, IntsAre vs ns → Vals (ns.map V.int) vs
  | _, _, .nil => .nil
  | _, _, .cons n t h => .cons ⟨t, rfl⟩ (vals_ints h)
def Only (H : Hp) : Prop := ∀ b, H b = none ∨ ∃ o xs, H b = some (.frz o (.lst xs))
theorem law_call {P : Program} {w : World} {K : PySem.W.Frag} {mg mb : Str → Option Value} {CX : CXT} {k : Nat} {fa a : Addr} {fd : FuncData} {x : Str} {sp : Sp} {s₁ : Shared} {vs : List Value} {ns : List Int}
    (KX : K.In s₁.heap) (hns : s₁.heap.Ns mainGlobals mg) (hb : s₁.heap.Ns builtinsNs mb) (hbb : ∀ x : Str, x ≠ "__name__" → mb x = bootBuiltins x) (hlim : s₁.heap.NoLimit) (hg : s₁.gens = #[])
    (ha : s₁.heap.get? a = some { cls := .type "list", data := .seq vs.toArray }) (hi : IntsAre vs ns) (hl : ns.length ≤ sizeLine) (hr : Room k callerA)
    (F : ∀ base : Heap, K.In base → base.Ns mainGlobals mg → FnOk P w K mg base CX k fa fd [x] sp) (hbind : ∀ (s : Shared) (u : Value), BindsTo s fd ⟨[u], []⟩ [(x, u)])
    (hsp : ∀ H : Hp, Only H → SqL K H a (ns.map V.int) → sp [.ref a] H (fun v _ => v = .bl true) fun _ _ _ => False)
    (hCX : ∀ H e s', CX [] H s₁ (fun _ _ _ => False) e s' → False) :
    codeAny (model P w) callerA (.call (.ref fa) ⟨[.ref a], []⟩) (fun r s' => r = .ok (.ret (.bool true)) ∧ OldK s₁.heap s'.heap ∧ s'.os = s₁.os ∧ AllBare s'.gens) s₁ := by
  have rv := vals_ints hi
  have lenV := hi.length
  have core : ∀ H : Hp, Only H → SqL K H a (ns.map V.int) → HOk P w H s₁.heap → (∀ b, H b ≠ none → b = a) → (H a ≠ none → K.lookup a = none) →
      codeAny (model P w) callerA (.call (.ref fa) ⟨[.ref a], []⟩) (fun r s' => r = .ok (.ret (.bool true)) ∧ OldK s₁.heap s'.heap ∧ s'.os = s₁.os ∧ AllBare s'.gens) s₁ := by
    intro H hO hS hok hA hK
    have base_of : ∀ {b : Addr} {o : Obj}, s₁.heap.get? b = some o → H b = none → (hidT s₁.heap H).get? b = some o := fun e n => hidT_get e n
    have noA : ∀ {b : Addr} {o : Obj} {es : Array DictEntry} {ep : Nat}, s₁.heap.get? b = some o → o.data = .dict es ep → H b = none := fun {b o es ep} e d => by
      cases q : H b with
      | none => rfl
      | some u =>
        have e' : b = a := hA b (by rw [q]; simp)
        subst e'
        rw [ha] at e; cases e
        have d' : Data.seq vs.toArray _ = Data.dict es ep := d
        cases d'
    have nsK : ∀ {b : Addr} {m : Str → Option Value}, s₁.heap.Ns b m → (hidT s₁.heap H).Ns b m := fun {b m} ⟨o, es, ep, e, d, r⟩ => ⟨o, es, ep, base_of e (noA e d), d, r⟩
    have hKb : K.In (hidT s₁.heap H) := fun b o e => base_of (KX b o e) (by
      cases q : H b with
      | none => rfl
      | some u =>
        have e' : b = a := hA b (by rw [q]; simp)
        subst e'
        rw [hK (by rw [q]; simp)] at e; cases e)
    have hM : Mod K mg (hidT s₁.heap H) := ⟨hKb, nsK hns, ⟨mb, nsK hb, hbb⟩, let ⟨mc, h1, h2⟩ := hlim; ⟨mc, nsK h1, h2⟩⟩
    have e0 : Env0 P w K mg (hidT s₁.heap H) callerA [] s₁ H := ⟨rfl, hM, fun b o e => of_hidT e, Nat.le_of_eq (hidT_size _ _), trivial, fun b hb => absurd (show b ∈ ([] : List Addr) from hb) (by simp), hok, .of_eq hg⟩
    refine codeAny_mono ((F _ hKb (nsK hns)).run callerA [] s₁ H ⟨[.ref a], []⟩ [.ref a] [.ref a] _ _ hr e0 (hbind s₁ (.ref a)) (.cons rfl .nil) (hsp H hO hS)) fun r s' h => ?_
    cases r with
    | error e => exact (hCX H e s' h).elim
    | ok fl =>
      cases fl with
      | next => exact False.elim h
      | brk => exact False.elim h
      | cont => exact False.elim h
      | ret u =>
        obtain ⟨v, H', os, bare, un, hok', r', q⟩ := h
        have q' : v = .bl true := q
        subst q'
        obtain rfl : u = Value.bool true := r'
        refine ⟨rfl, OldK.of_keep fun b o e => ?_, os, bare⟩
        cases q : H b with
        | none => exact un.keep b o e q (by intro z; exact absurd (show b ∈ ([] : List Addr) from z) (by simp)) (by simp)
        | some u =>
          rcases hO b with z | ⟨ob, xs, z⟩
          · rw [q] at z; cases z
          · have z2 := un.frzs b ob _ z
            obtain ⟨e1, _⟩ := hok b _ z
            obtain ⟨e2, _⟩ := hok' b _ z2
            rw [e] at e1; cases e1
            exact e2
  cases hk : K.lookup a with
  | some o =>
    have e := KX a o hk
    rw [ha] at e
    cases e
    refine core (fun _ => none) (fun _ => .inl rfl) (.inr ⟨_, vs.toArray, _, hk, rfl, rfl, rfl, by rw [List.size_toArray, lenV]; exact hl, by simpa using rv⟩) (fun b u z => by have z' : (none : Option HO) = some u := z; cases z') (fun b z => absurd rfl z) fun z => absurd rfl z
  | none =>
    refine core (fun b => if b = a then some (.frz { cls := .type "list", data := .seq vs.toArray } (.lst (ns.map V.int))) else none) (fun b => ?_) (.inl (.inr ⟨{ cls := .type "list", data := .seq vs.toArray }, if_pos rfl⟩)) (fun b u z => ?_) (fun b z => ?_) fun _ => hk
    · by_cases hb : b = a
      · exact .inr ⟨_, _, if_pos hb⟩
      · exact .inl (if_neg hb)
    · by_cases hb : b = a
      · have z' := (if_pos hb).symm.trans z
        cases z'
        subst hb
        exact ⟨ha, by rw [List.length_map]; exact hl, vs, _, rv, ha⟩
      · have z' := (if_neg hb).symm.trans z
        cases z'
    · by_cases hb : b = a
      · exact hb
      · exact absurd (if_neg hb) z
end L2
namespace L2
open PySem PySem.Spec PyProof.Rows
abbrev KOf {K : PySem.W.Frag} {h : Heap} (_ : K.In h) : PySem.W.Frag := K
theorem walk_of {l : PySem.W.OpenLaw} {n k : Nat} {q : Program} {loose : List Str} {XP : (Str → Option Value) → Heap → Prop} {YP : World → Heap → Prop} {d : DefRec} {K : Params → PySem.W.Frag} {CX : World → CXT} {sp : World → Sp} {x : Str}
    (hn : l.most = some n) (hn2 : n ≤ sizeLine) (hdf : d.params.defaults = []) (hr : Room k callerA)
    (hY : ∀ (w : World) (h : Heap), YP w h → (K w.params).In h)
    (F : ∀ (w : World) (mg : Str → Option Value) (fa : Addr) (h : Heap), (K w.params).In h → h.Ns mainGlobals mg → mg d.name = some (.ref fa) →
      ∃ fd : FuncData, (∀ (s : Shared) (u : Value), BindsTo s fd ⟨[u], []⟩ [(x, u)]) ∧
        ∀ base : Heap, (K w.params).In base → base.Ns mainGlobals mg → FnOk l.prog w (K w.params) mg base (CX w) k fa fd [x] (sp w))
    (hsp : ∀ (w : World) (H : Hp) (a : Addr) (ns : List Int), ns.length ≤ n → Only H → SqL (K w.params) H a (ns.map V.int) → sp w [.ref a] H (fun v _ => v = .bl true) fun _ _ _ => False)
    (hCX : ∀ (w : World) (H : Hp) (s : Shared) (e : Value) (s' : Shared), CX w [] H s (fun _ _ _ => False) e s' → False) :
    PySem.W.WalkO q loose XP YP l.row.toRowW d [] (fun f vs => PySem.call f vs) := by
  refine Att.attach_call hn hdf fun w s₀ s₁ mg mb fa o pm cd doc a vs ns G Y ho hd hcd hmg hobj hints hlen hg => ?_
  have KX := hY w _ Y
  obtain ⟨fd, hb, hF⟩ := F w mg fa _ KX G.T.g hmg
  exact law_call KX G.T.g G.T.b G.T.builtins G.T.nolimit hg hobj hints (Nat.le_trans hlen hn2) hr hF hb (fun H hO hS => hsp w H a ns hlen hO hS) fun H e s' => hCX w H s₁ e s'
end L2
/- THE LAST THEOREM (shape; LID, My.* are yours):
   My.Adr: a structure of the addresses that your layer names (classes, functions); My.Txt K t: a structure (Prop) of the equations over K;
   My.txt_mk : {K} {implicit addresses ..} (e1 : nsIn K mainGlobals "law" = some (some (.ref f))) (e2 : K.lookup f = some ⟨oc, od, .func (fnOf "law" "law" params body scope dV kV doc pm an cdv ct), sl⟩) (e3 : codeIn K cdv "law" = true) .. : ∃ t, My.Txt K t
set_option maxRecDepth 100000 in
set_option maxHeartbeats 0 in
theorem PySem.Challenge.cw_LID_holds : PySem.Challenge.rw_LID.Holds := by
  w_on; o_law; k_head; (case hw => w_witness2)
  k_fill
  refine L2.walk_of (l := PySem.Challenge.rw_LID) (n := 63) (k := 40) (x := "script") (CX := fun w => ..) (sp := fun _ => My.sp_law) rfl (by decide) rfl ⟨rfl, by decide, by decide⟩ (fun w h Y => PySem.W.kIn_of Y) ?F ?S ?C
  case F =>
    intro w mg fa h KX G hmg
    have T : ∃ t, My.Txt (L2.KOf KX) t := by
      dsimp only [L2.KOf]                          -- K must stand as «<heap const> w.params» for k_is
      refine' My.txt_mk ?e1 ?e2 ?e3 ..
      (case e1 => PySem.W.k_is)                    -- in the order: a name -> its address -> its object -> its parts
      (case e2 => PySem.W.k_is)
      ..
    obtain ⟨t, T⟩ := T
    have e0 := hmg.symm.trans (PySem.W.mg_of KX G T.law)
    cases e0                                       -- fa is the law's own address
    exact ⟨_, fun s u => .of_eq rfl, fun base kb nb => My.law_fn T kb nb⟩     -- if «.of_eq rfl» comes too early: refine' ⟨_, ?b, fun base kb nb => My.law_fn T kb nb⟩; exact fun s u => .of_eq rfl
  case S => exact fun w H a ns hl hO hS => ..
  case C => exact ..
(the tactic k_is has no namespace: write k_is) -/
namespace L2
open PySem PySem.Spec PyProof.Rows
def inClass (s : Stmt) (j : Nat) : Stmt := match s with
  | .ClassDef _ _ _ body _ _ _ _ _ _ _ => body.getD j (.Pass ⟨0, 0, 0, 0⟩)
  | _ => .Pass ⟨0, 0, 0, 0⟩
def defArgs (s : Stmt) : Arguments := match s with
  | .FunctionDef _ a _ _ _ _ _ _ _ _ => a
  | _ => { posonlyargs := [], args := [], vararg := none, kwonlyargs := [], kw_defaults := [], kwarg := none, defaults := [] }
def defBody (s : Stmt) : List Stmt := match s with
  | .FunctionDef _ _ b _ _ _ _ _ _ _ => b
  | _ => []
def defScope (s : Stmt) : Scope := match s with
  | .FunctionDef _ _ _ _ _ _ sc _ _ _ => sc
  | _ => { kind := .function, names := [], isGenerator := false, isCoroutine := false }
abbrev CX0 : CXT := fun _ _ _ _ _ _ => False
abbrev E0 : XK := fun _ _ _ => False
theorem pass0 {X : Cx} : Passes CX0 X E0 := fun _ _ _ _ _ _ _ h => h.elim
structure Fun (K : PySem.W.Frag) (x qual : Str) (st : Stmt) (f : Addr) (fd : FuncData) : Prop where
  ex : ∃ (oc : Value) (od : Option Addr) (kV doc pm : Value) (an : Option Addr) (cdv ct : Value) (osl : Array (Option Value)),
    fd = PySem.W.fnOf x qual (defArgs st) (defBody st) (defScope st) .none kV doc pm an cdv ct ∧ K.lookup f = some ⟨oc, od, .func fd, osl⟩ ∧ PySem.W.codeIn K cdv qual = true
  kp : PySem.W.keepIn K (.ref f) = true
section
variable {P : Program} {w : World} {K : PySem.W.Frag} {mg : Str → Option Value} {base : Heap}
theorem Fun.ok {x qual : Str} {st : Stmt} {f : Addr} {fd : FuncData} {N ps : List Str} {k : Nat} {sp : Sp} (F : Fun K x qual st f fd) (S : FnScope N ps (defScope st)) (len : ∀ vs H Q E, sp vs H Q E → vs.length = ps.length)
    (hbody : ∀ (cdv : Value) (A : Around) (outer : List Env) (s : Shared) (H : Hp) (vs : List V) (Q : VK) (E : XK), Room k (A.deeper (envOfC qual (defScope st) s.heap.objs.size f cdv)) → sp vs H Q E →
      ∃ t, PSs (cxOf CX0 P w K mg base N qual (defScope st) f cdv A outer s H E).nox (defBody st) t ∧ t { nx := fun _ H' => Q .non H', rt := Q } (start N vs) H) : FnOk P w K mg base CX0 (k + 1) f fd ps sp := by
  obtain ⟨oc, od, kV, doc, pm, an, cdv, ct, osl, rfl, lk, hcd⟩ := F.ex
  refine fn_of lk hcd S len fun A outer s H vs Q E hr hsp => ?_
  obtain ⟨t, h, q⟩ := hbody cdv A outer s H vs Q E hr hsp
  exact ⟨t, h.nox, q⟩
theorem Fun.binds {x qual : Str} {st : Stmt} {f : Addr} {fd : FuncData} {ps : List Str} (F : Fun K x qual st f fd)
    (h : ∀ (kV doc pm : Value) (an : Option Addr) (cdv ct : Value) (us : List Value), us.length = ps.length → bindArgs (PySem.W.fnOf x qual (defArgs st) (defBody st) (defScope st) .none kV doc pm an cdv ct) ⟨us, []⟩ = pure (ps.zip us)) : Binds K fd ps [] := by
  obtain ⟨oc, od, kV, doc, pm, an, cdv, ct, osl, rfl, lk, hcd⟩ := F.ex
  exact .all (h kV doc pm an cdv ct)
theorem fun_mk {x qual : Str} {st : Stmt} {f : Addr} {oc : Value} {od an : Option Addr} {osl : Array (Option Value)} {kV doc pm cdv ct : Value} (l : K.lookup f = some ⟨oc, od, .func (PySem.W.fnOf x qual (defArgs st) (defBody st) (defScope st) .none kV doc pm an cdv ct), osl⟩)
    (c : PySem.W.codeIn K cdv qual = true) (k : PySem.W.keepIn K (.ref f) = true) : Fun K x qual st f (PySem.W.fnOf x qual (defArgs st) (defBody st) (defScope st) .none kV doc pm an cdv ct) := ⟨⟨oc, od, kV, doc, pm, an, cdv, ct, osl, rfl, l, c⟩, k⟩
end
section
variable {X : Cx}
end
def Same (H H' : Hp) : Prop := ∀ b o, H b = some o → H' b = some o
theorem Same.refl (H : Hp) : Same H H := fun _ _ h => h
theorem Same.trans {H H1 H2 : Hp} (a : Same H H1) (b : Same H1 H2) : Same H H2 := fun c o h => b c o (a c o h)
theorem Same.free {H H' : Hp} (e : Same H H') {l : Addr} (h : H' l = Option.none) : H l = Option.none := by
  cases q : H l with
  | none => rfl
  | some o =>
    rw [e l o q] at h
    cases h
theorem Same.seq {K : PySem.W.Frag} {H H' : Hp} {a : Addr} {xs : List V} (e : Same H H') (h : SqL K H a xs) : SqL K H' a xs := by
  rcases h with (h | ⟨o, h⟩) | h
  · exact .inl (.inl (e _ _ h))
  · exact .inl (.inr ⟨o, e _ _ h⟩)
  · exact .inr h
end L2
namespace GM
def stirSt (c p : Int) : Nat → Int × Int
  | 0 => (0, (c % 998244341 + 7919 * p) % 998244353 + 3)
  | i + 1 => ((stirSt c p i).1 * 998244353 + ((stirSt c p i).2 % 4099 * 240007 + (stirSt c p i).2 / 4099 * 89 + 1201 * (i : Int) + 11) % 998244353,
      ((stirSt c p i).2 % 4099 * 240007 + (stirSt c p i).2 / 4099 * 89 + 1201 * (i : Int) + 11) % 998244353)
def stirF (c p : Int) : Int := (stirSt c p 4).1
theorem stirSt_le (c p : Int) : ∀ i : Nat, 0 ≤ (stirSt c p i).1 ∧ (stirSt c p i).1 + 1 ≤ 998244353 ^ i
  | 0 => ⟨Int.le_refl _, Int.le_refl _⟩
  | i + 1 => by
    obtain ⟨h1, h2⟩ := stirSt_le c p i
    have h3 := Int.emod_nonneg ((stirSt c p i).2 % 4099 * 240007 + (stirSt c p i).2 / 4099 * 89 + 1201 * (i : Int) + 11) (show (998244353 : Int) ≠ 0 by decide)
    have h4 := Int.emod_lt_of_pos ((stirSt c p i).2 % 4099 * 240007 + (stirSt c p i).2 / 4099 * 89 + 1201 * (i : Int) + 11) (show (0 : Int) < 998244353 by decide)
    have e : (998244353 : Int) ^ (i + 1) = 998244353 ^ i * 998244353 := Int.pow_succ ..
    simp only [stirSt]
    rw [e]
    generalize ((stirSt c p i).2 % 4099 * 240007 + (stirSt c p i).2 / 4099 * 89 + 1201 * (i : Int) + 11) % 998244353 = r at h3 h4
    generalize (stirSt c p i).1 = f at h1 h2
    generalize (998244353 : Int) ^ i = q at h2
    omega
theorem stirF_nn (c p : Int) : 0 ≤ stirF c p := (stirSt_le c p 4).1
theorem stirF_lt (c p : Int) : stirF c p < 2 ^ 128 := by
  have h := (stirSt_le c p 4).2
  have e : (998244353 : Int) ^ 4 ≤ 2 ^ 128 := by decide
  unfold stirF
  omega
def powGo : Nat → Int → Int → Int
  | 0, p, _ => p
  | f + 1, p, a => if p ≤ a then powGo f (p * 1000000) a else p
theorem powGo_pos : ∀ (f : Nat) (p a : Int), 0 < p → 0 < powGo f p a
  | 0, _, _, h => h
  | f + 1, p, a, h => by
    simp only [powGo]
    split
    · exact powGo_pos f _ a (by omega)
    · exact h
theorem powGo_le : ∀ (f : Nat) (p a b : Int), p ≤ b → a * 1000000 ≤ b → powGo f p a ≤ b
  | 0, _, _, _, h, _ => h
  | f + 1, p, a, b, h, h' => by
    simp only [powGo]
    split
    · exact powGo_le f _ a b (by omega) h'
    · exact h
def absI (c : Int) : Int := if c < 0 then -c else c
theorem absI_nn (c : Int) : 0 ≤ absI c := by unfold absI; split <;> omega
theorem absI_natAbs (c : Int) : absI c = c.natAbs := by unfold absI; split <;> omega
def powF (c : Int) : Int := powGo ((absI c).toNat + 1) 1 (absI c)
def gotF (ns : List Int) (p : Int) : Int := match ns[p.toNat]? with
  | none => 0
  | some c => absI c + powF c * stirF (absI c) p
theorem gotF_nn (ns : List Int) (p : Int) : 0 ≤ gotF ns p := by
  unfold gotF
  split
  · exact Int.le_refl _
  · have h1 := absI_nn ‹Int›
    have h2 := Int.mul_nonneg (Int.le_of_lt (powGo_pos ((absI ‹Int›).toNat + 1) 1 (absI ‹Int›) (by decide))) (stirF_nn (absI ‹Int›) p)
    unfold powF
    omega
theorem cell_lt {n : Nat} {c p : Int} (h : c.natAbs < 2 ^ n) : (absI c + powF c * stirF (absI c) p).natAbs < 2 ^ (n + 200) := by
  have ha := absI_nn c
  have hA : absI c < (2 : Int) ^ n := by
    rw [absI_natAbs]
    exact_mod_cast h
  have hn : (1 : Int) ≤ 2 ^ n := by
    have : 1 ≤ 2 ^ n := Nat.one_le_two_pow
    exact_mod_cast this
  have hp : powF c ≤ 2 ^ n * 1000000 := powGo_le _ 1 (absI c) _ (by omega) (by omega)
  have hp0 : 0 < powF c := powGo_pos _ _ _ (by decide)
  have hs := stirF_lt (absI c) p
  have hs0 := stirF_nn (absI c) p
  have hm : powF c * stirF (absI c) p ≤ (2 ^ n * 1000000) * 2 ^ 128 := Int.mul_le_mul hp (Int.le_of_lt hs) hs0 (by omega)
  have hm0 : 0 ≤ powF c * stirF (absI c) p := Int.mul_nonneg (Int.le_of_lt hp0) hs0
  have e : (2 : Int) ^ (n + 200) = 2 ^ n * 2 ^ 200 := Int.pow_add ..
  have e2 : (2 : Int) ^ 200 = 1606938044258990275541962092341162602522202993782792835301376 := by decide
  have e3 : (2 : Int) ^ 128 = 340282366920938463463374607431768211456 := by decide
  have key : absI c + powF c * stirF (absI c) p < 2 ^ (n + 200) := by
    rw [e, e2]
    rw [e3] at hm
    generalize (2 : Int) ^ n = q at hA hn hm
    generalize powF c * stirF (absI c) p = m at hm hm0
    omega
  have k0 : 0 ≤ absI c + powF c * stirF (absI c) p := by omega
  have : ((absI c + powF c * stirF (absI c) p).natAbs : Int) < ((2 ^ (n + 200) : Nat) : Int) := by
    rw [Int.natAbs_of_nonneg k0]
    exact_mod_cast key
  exact_mod_cast this
theorem powF_lt {n : Nat} {c : Int} (h : c.natAbs < 2 ^ n) : (powF c).natAbs < 2 ^ (n + 21) := by
  have ha := absI_nn c
  have hA : absI c < (2 : Int) ^ n := by
    rw [absI_natAbs]
    exact_mod_cast h
  have hn : (1 : Int) ≤ 2 ^ n := by
    have : 1 ≤ 2 ^ n := Nat.one_le_two_pow
    exact_mod_cast this
  have hp : powF c ≤ 2 ^ n * 1000000 := powGo_le _ 1 (absI c) _ (by omega) (by omega)
  have hp0 : 0 < powF c := powGo_pos _ _ _ (by decide)
  have e : (2 : Int) ^ (n + 21) = 2 ^ n * 2 ^ 21 := Int.pow_add ..
  have e2 : (2 : Int) ^ 21 = 2097152 := by decide
  have key : powF c < 2 ^ (n + 21) := by
    rw [e, e2]
    generalize (2 : Int) ^ n = q at hA hn hp
    omega
  have : ((powF c).natAbs : Int) < ((2 ^ (n + 21) : Nat) : Int) := by
    rw [Int.natAbs_of_nonneg (Int.le_of_lt hp0)]
    exact_mod_cast key
  exact_mod_cast this
theorem stirF_natAbs (c p : Int) : (stirF c p).natAbs < 2 ^ 128 := by
  have h := stirF_lt c p
  have h0 := stirF_nn c p
  have : ((stirF c p).natAbs : Int) < ((2 ^ 128 : Nat) : Int) := by
    rw [Int.natAbs_of_nonneg h0]
    exact_mod_cast h
  exact_mod_cast this
theorem powGo_stop {f : Nat} {p a : Int} (h : ¬ p ≤ a) : powGo f p a = p := by
  cases f with
  | zero => rfl
  | succ f => simp only [powGo]; rw [if_neg h]
theorem gotF_lt {n : Nat} {ns : List Int} {p : Int} (h : ∀ x ∈ ns, x.natAbs < 2 ^ n) : (gotF ns p).natAbs < 2 ^ (n + 200) := by
  unfold gotF
  split
  · exact Nat.two_pow_pos _
  · rename_i c e
    exact cell_lt (h c (List.mem_of_getElem? e))
def cellsF (ns : List Int) (lo hi : Int) : List Int := (List.range ((if (ns.length : Int) < hi then (ns.length : Int) else hi) - lo).toNat).map fun (i : Nat) => gotF ns (lo + i)
theorem cellsF_nn {ns : List Int} {lo hi x : Int} (h : x ∈ cellsF ns lo hi) : 0 ≤ x := by
  obtain ⟨i, _, rfl⟩ := List.mem_map.mp h
  exact gotF_nn _ _
theorem cellsF_lt {n : Nat} {ns : List Int} {lo hi x : Int} (hb : ∀ x ∈ ns, x.natAbs < 2 ^ n) (h : x ∈ cellsF ns lo hi) : x.natAbs < 2 ^ (n + 200) := by
  obtain ⟨i, _, rfl⟩ := List.mem_map.mp h
  exact gotF_lt hb
end GM
set_option maxHeartbeats 4000000
namespace L2
open PySem PySem.Spec PyProof.Rows
def clAcc (cells : List (Str × Addr)) : List (Str × NameKind) → List (Str × Addr) → List (Str × Addr)
  | [], cs => cs
  | (n, k) :: r, cs => clAcc cells r (if k == .free then (n, (cells.lookup n).getD 0) :: cs else cs)
theorem closureFor_ok {scope : Scope} {env : Env} (h : ∀ y ∈ scope.names, y.2 = .free → ∃ c, env.cells.lookup y.1 = some c) : closureFor scope env = pure (clAcc env.cells scope.names []) := by
  simp only [closureFor]
  generalize scope.names = l at h ⊢
  have key : ∀ (l : List (Str × NameKind)) (cs : List (Str × Addr)), (∀ y ∈ l, y.2 = .free → ∃ c, env.cells.lookup y.1 = some c) →
     (forIn l cs (fun (x : Str × NameKind) (r : List (Str × Addr)) => (if (x.snd == NameKind.free) = true then (do let a ← cellOf env x.fst; pure (ForInStep.yield ((x.fst, a) :: r))) else pure (ForInStep.yield r) : Sem (ForInStep (List (Str × Addr))))) : Sem (List (Str × Addr))) = pure (clAcc env.cells l cs) := by
    intro l
    induction l with
    | nil => intro cs _; rfl
    | cons x r ih =>
      intro cs h
      obtain ⟨n, k⟩ := x
      have hr : ∀ y ∈ r, y.2 = .free → ∃ c, env.cells.lookup y.1 = some c := fun y hy => h y (List.mem_cons_of_mem _ hy)
      rw [List.forIn_cons]
      by_cases hk : k = .free
      · subst hk
        obtain ⟨c, hc⟩ := h (n, .free) List.mem_cons_self rfl
        have e : cellOf env n = pure c := by unfold cellOf; rw [show env.cells.lookup n = some c from hc]
        simp only [beq_self_eq_true, if_true, e]
        show (forIn r ((n, c) :: cs) _ : Sem _) = _
        rw [ih _ hr]
        simp only [clAcc, beq_self_eq_true, if_true]
        rw [show env.cells.lookup n = some c from hc]; rfl
      · have hb : (k == NameKind.free) = false := by simpa using hk
        simp only [hb, Bool.false_eq_true, if_false]
        show (forIn r cs _ : Sem _) = _
        rw [ih _ hr]
        simp only [clAcc, hb, Bool.false_eq_true, if_false]
  rw [key l [] h]; rfl
theorem clAcc_sub {cells : List (Str × Addr)} : ∀ {l : List (Str × NameKind)} {cs : List (Str × Addr)} {x : Str} {c : Addr}, (∀ y ∈ l, y.2 = .free → ∃ c, cells.lookup y.1 = some c) →
    (∀ x c, cs.lookup x = some c → cells.lookup x = some c) → (clAcc cells l cs).lookup x = some c → cells.lookup x = some c
  | [], _, _, _, _, hs, e => hs _ _ e
  | (n, k) :: r, cs, x, c, h, hs, e => by
    refine clAcc_sub (l := r) (fun y hy => h y (List.mem_cons_of_mem _ hy)) ?_ e
    intro z d
    by_cases hk : k = .free
    · subst hk
      obtain ⟨c', hc'⟩ := h (n, .free) List.mem_cons_self rfl
      have hc'' : cells.lookup n = some c' := hc'
      simp only [beq_self_eq_true, if_true, List.lookup_cons, hc'', Option.getD_some]
      cases hz : z == n with
      | true =>
        have : z = n := by simpa using hz
        subst this
        intro q
        cases q
        exact hc''
      | false => exact hs z d
    · have hb : (k == NameKind.free) = false := by simpa using hk
      simp only [hb, Bool.false_eq_true, if_false]
      exact hs z d
theorem clAcc_has {cells : List (Str × Addr)} : ∀ {l : List (Str × NameKind)} {cs : List (Str × Addr)} {x : Str}, ((x, NameKind.free) ∈ l ∨ ∃ c, cs.lookup x = some c) → ∃ c, (clAcc cells l cs).lookup x = some c
  | [], _, _, h => by
    rcases h with h | h
    · cases h
    · exact h
  | (n, k) :: r, cs, x, h => by
    refine clAcc_has (l := r) ?_
    rcases h with h | ⟨c, h⟩
    · rcases List.mem_cons.mp h with e | h
      · cases e
        refine .inr ⟨(cells.lookup n).getD 0, ?_⟩
        simp only [beq_self_eq_true, if_true, List.lookup_cons]
      · exact .inl h
    · by_cases hk : k = .free
      · subst hk
        simp only [beq_self_eq_true, if_true, List.lookup_cons]
        cases hz : x == n with
        | true => exact .inr ⟨_, rfl⟩
        | false => exact .inr ⟨c, h⟩
      · have hb : (k == NameKind.free) = false := by simpa using hk
        simp only [hb, Bool.false_eq_true, if_false]
        exact .inr ⟨c, h⟩
theorem lookup_relabel {env : Env} : ∀ {names : List (Str × NameKind)} {x : Str},
    (names.map fun (n, k) => if (k == NameKind.free && env.scope.kind == .function && env.kindOf n == some .cell) then (n, NameKind.cell) else (n, k)).lookup x =
      (names.lookup x).map fun k => if (k == NameKind.free && env.scope.kind == .function && env.kindOf x == some .cell) then NameKind.cell else k
  | [], _ => rfl
  | (n, k) :: r, x => by
    have ih := @lookup_relabel env r x
    show List.lookup x ((if (k == NameKind.free && env.scope.kind == .function && env.kindOf n == some .cell) = true then (n, NameKind.cell) else (n, k)) :: _) = _
    cases hx : x == n with
    | true =>
      have e : x = n := by simpa using hx
      subst e
      by_cases hc : (k == NameKind.free && env.scope.kind == .function && env.kindOf x == some .cell) = true
      · rw [if_pos hc]; simp only [List.lookup_cons, hx, Option.map_some]; rw [if_pos hc]
      · rw [if_neg hc]; simp only [List.lookup_cons, hx, Option.map_some]; rw [if_neg hc]
    | false =>
      by_cases hc : (k == NameKind.free && env.scope.kind == .function && env.kindOf n == some .cell) = true
      · rw [if_pos hc]; simp only [List.lookup_cons, hx]; exact ih
      · rw [if_neg hc]; simp only [List.lookup_cons, hx]; exact ih
theorem mem_of_lookup {κ ν : Type} [BEq κ] [LawfulBEq κ] : ∀ {l : List (κ × ν)} {x : κ} {v : ν}, l.lookup x = some v → (x, v) ∈ l
  | [], _, _, h => by cases h
  | (n, k) :: r, x, v, h => by
    rw [List.lookup_cons] at h
    cases hx : x == n with
    | true =>
      rw [hx] at h
      have e : x = n := by simpa using hx
      cases h
      rw [e]
      exact List.mem_cons_self
    | false =>
      rw [hx] at h
      exact List.mem_cons_of_mem _ (mem_of_lookup h)
structure CompOk (X : Cx) (scope : Scope) (js : List Nat) : Prop where
  kind : scope.kind = .function
  cell : ∀ y ∈ scope.names, y.2 ≠ .cell
  names : ∀ y ∈ scope.names, y.2 = .local → scope.names.lookup y.1 = some .local
  free : ∀ y ∈ scope.names, y.2 = .free → X.env.kindOf y.1 = some .cell ∨ X.env.kindOf y.1 = some .free
  js : ∀ j ∈ js, scope.names.lookup (X.N.getD j "") = some .free
def compOkB (out : Scope) (N : List Str) (scope : Scope) (js : List Nat) : Bool :=
  (scope.kind == .function) && scope.names.all (fun y => y.2 != .cell) && scope.names.all (fun y => y.2 != .local || scope.names.lookup y.1 == some .local) &&
    scope.names.all (fun y => y.2 != .free || (out.names.lookup y.1 == some .cell || out.names.lookup y.1 == some .free)) && js.all fun j => scope.names.lookup (N.getD j "") == some .free
theorem CompOk.of {X : Cx} {scope : Scope} {js : List Nat} (h : compOkB X.env.scope X.N scope js = true) : CompOk X scope js := by
  simp only [compOkB, Bool.and_eq_true, List.all_eq_true] at h
  obtain ⟨⟨⟨⟨h1, h2⟩, h3⟩, h4⟩, h5⟩ := h
  refine ⟨by simpa using h1, fun y hy => by simpa using h2 y hy, fun y hy e => ?_, fun y hy e => ?_, fun j hj => by simpa using h5 j hj⟩
  · have := h3 y hy
    rw [e] at this
    simpa using this
  · have := h4 y hy
    rw [e] at this
    simpa [Env.kindOf] using this
def cxC (X : Cx) (scope : Scope) (own : List Str) (js : List Nat) (C : Addr) (s : Shared) (H : Hp) (ex : List Addr) (pn : List (Addr × Obj)) (E : Value → Shared → Prop) : Cx where
  prog := X.prog
  w := X.w
  K := X.K
  mg := X.mg
  base := X.base
  A := X.A
  N := own ++ js.map fun j => X.N.getD j ""
  s₀ := s
  H₀ := H
  env := compEnvC scope (clAcc X.env.cells scope.names []) C X.env
  outer := X.stack
  stack := X.stack
  ex := ex
  fn := fun _ => false
  calm := X.calm
  pn := pn
  xe := E
def cσ (n : Nat) (js : List Nat) (σ : St) : St := List.replicate n none ++ js.map fun j => σ.getD j none
section
variable {X : Cx} {pins : List (Addr × Obj)} {σ : St} {H H' : Hp} {s : Shared} {scope : Scope} {own : List Str} {js : List Nat} {C : Addr} {fp : List Addr} {E : Value → Shared → Prop}
theorem CompOk.clos (ok : CompOk X scope js) (I : Inv X pins σ H s) : ∀ y ∈ scope.names, y.2 = .free → ∃ c, X.env.cells.lookup y.1 = some c := fun y hy e => I.ok.has y.1 (ok.free y hy e)
theorem CompOk.sub (ok : CompOk X scope js) (I : Inv X pins σ H s) {x : Str} {c : Addr} (e : (clAcc X.env.cells scope.names []).lookup x = some c) : X.env.cells.lookup x = some c :=
  clAcc_sub (ok.clos I) (fun _ _ z => by cases z) e
theorem CompOk.kindOf (ok : CompOk X scope js) {cl : List (Str × Addr)} {x : Str} (h : (compEnvC scope cl C X.env).kindOf x = some .cell ∨ (compEnvC scope cl C X.env).kindOf x = some .free) : (x, NameKind.free) ∈ scope.names := by
  have e : (compEnvC scope cl C X.env).kindOf x = (scope.names.lookup x).map fun k => if (k == NameKind.free && X.env.scope.kind == .function && X.env.kindOf x == some .cell) then NameKind.cell else k := lookup_relabel
  rw [e] at h
  cases q : scope.names.lookup x with
  | none => rw [q] at h; simp at h
  | some k =>
    have hm := mem_of_lookup q
    by_cases hk : k = .free
    · subst hk; exact hm
    · have hb : (k == NameKind.free) = false := by simpa using hk
      rw [q] at h
      simp only [Option.map_some, hb, Bool.false_and, Bool.false_eq_true, if_false] at h
      rcases h with h | h
      · exact absurd (Option.some.inj h) (ok.cell _ hm)
      · exact absurd (Option.some.inj h) hk
theorem CompOk.isFree (ok : CompOk X scope js) {cl : List (Str × Addr)} {x : Str} (h : scope.names.lookup x = some .free) : (compEnvC scope cl C X.env).kindOf x = some .cell ∨ (compEnvC scope cl C X.env).kindOf x = some .free := by
  have e : (compEnvC scope cl C X.env).kindOf x = (scope.names.lookup x).map fun k => if (k == NameKind.free && X.env.scope.kind == .function && X.env.kindOf x == some .cell) then NameKind.cell else k := lookup_relabel
  rw [e, h]
  simp only [Option.map_some]
  split
  · exact .inl rfl
  · exact .inr rfl
theorem cx_comp (ok : CompOk X scope js) (I : Inv X pins σ H s) (hC : s.heap.objs.size ≤ C) (f : ∀ b ∈ fp, FpOk X pins H b) (fo : ∀ b ∈ fp, ∃ o, s.heap.get? b = some o) : (cxC X scope own js C s H fp (X.pn ++ pins) E).Ok where
  mod := I.ok.mod
  kind := ok.kind
  glob := I.ok.glob
  blt := I.ok.blt
  above := hC
  inj := fun x y c e1 e2 => I.ok.inj x y c (ok.sub I e1) (ok.sub I e2)
  has := fun x h => clAcc_has (.inl (ok.kindOf h))
  cab := fun x c h => nomatch (show false = true from h)
  hd := I.ok.hd
  frames := I.ok.frames
  stk := .inl rfl
  exf := fun b hb => by
    obtain ⟨o, e⟩ := fo b hb
    obtain ⟨_, _, _, _, f4, _⟩ := f b hb
    exact ⟨Nat.ne_of_lt (Nat.lt_of_lt_of_le (Heap.lt_size e) hC), fun x c q => f4 x c (ok.sub I q)⟩
  bs := I.bs
  bsz := Nat.le_trans I.ok.bsz I.sz
  noex := fun b o e hb => by
    obtain ⟨_, _, _, f3, _, _⟩ := f b hb
    rcases f3 with z | z
    · exact I.ok.noex b o e z
    · exact absurd (Nat.lt_of_lt_of_le (Heap.lt_size e) (Nat.le_trans I.ok.bsz z)) (Nat.lt_irrefl _)
  exfs := fun b hb hs => by
    obtain ⟨_, f1, f2, _, _, _⟩ := f b hb
    rcases List.mem_cons.mp (I.stkSub b hs) with e | e
    · exact f1 e
    · exact f2 e
  funs := I.stack
  frf := I.stkFree
theorem inv_comp {s' : Shared} {pins' : List (Addr × Obj)} {m : Str → Option Value} (ok : CompOk X scope js) (I : Inv X pins σ H s) (hC : s.heap.objs.size ≤ C) (f : ∀ b ∈ fp, FpOk X pins H b) (fo : ∀ b ∈ fp, ∃ o, s.heap.get? b = some o)
    (hos : s'.os = s.os) (hg : AllBare s'.gens) (u : Un (frs X.stack) fp H H' s.heap s'.heap) (hn : s'.heap.Ns C m) (hok : HOk X.prog X.w H' s'.heap) (hCf : H' C = none)
    (hp : ∀ p ∈ pins', s'.heap.get? p.1 = some p.2 ∧ H' p.1 = none ∧ p.1 ≠ C ∧ p.1 ∉ frs X.stack ∧ ∀ v, p.2.data ≠ .cell v) :
    Inv (cxC X scope own js C s H fp (X.pn ++ pins) E) pins' (cσ own.length js σ) H' s' := by
  have Ok := cx_comp (own := own) (E := E) ok I hC f fo
  have cellAt : ∀ x c, X.env.cells.lookup x = some c → ∀ v, s.heap.IsCell c v → s'.heap.IsCell c v := fun x c e v ⟨o, ho, hd⟩ => by
    have nx : c ∉ fp := fun z => by
      obtain ⟨_, _, _, _, f4, _⟩ := f c z
      exact f4 x c e rfl
    obtain ⟨sl, q⟩ := u.any ho (I.freeC x c e) nx
    exact ⟨_, q, hd⟩
  refine ⟨Ok, hos, hg, u, ⟨m, hn, ?_⟩, ?_, hCf, ?_, ?_, hok, ?_⟩
  · intro i x v e1 e2 _
    have e1' : (own ++ js.map fun j => X.N.getD j "")[i]? = some x := e1
    have e2' : (List.replicate own.length none ++ js.map fun j => σ.getD j none)[i]? = some (some v) := e2
    by_cases hi : i < own.length
    · rw [List.getElem?_append_left (by simpa using hi), List.getElem?_replicate] at e2'
      split at e2' <;> cases e2'
    · rw [List.getElem?_append_right (by omega), List.getElem?_map] at e1'
      rw [List.getElem?_append_right (by simpa using Nat.not_lt.mp hi), List.getElem?_map, List.length_replicate] at e2'
      cases hj : js[i - own.length]? with
      | none => rw [hj] at e1'; cases e1'
      | some j =>
        rw [hj] at e1' e2'
        have ex : X.N.getD j "" = x := Option.some.inj e1'
        have ev : σ.getD j none = some v := Option.some.inj e2'
        have hjm : j ∈ js := List.mem_of_getElem? hj
        have hjl : j < σ.length := by
          apply Classical.byContradiction
          intro h
          rw [List.getD_eq_getElem?_getD, List.getElem?_eq_none (Nat.not_lt.mp h)] at ev
          cases ev
        have hσ : σ[j]? = some (some v) := by
          rw [List.getD_eq_getElem?_getD, List.getElem?_eq_getElem hjl] at ev
          rw [List.getElem?_eq_getElem hjl]
          exact congrArg some ev
        have hNl : j < X.N.length := by rw [← I.len]; exact hjl
        have hN : X.N[j]? = some x := by
          rw [List.getD_eq_getElem?_getD, List.getElem?_eq_getElem hNl] at ex
          rw [List.getElem?_eq_getElem hNl]
          exact congrArg some ex
        have hfr : scope.names.lookup x = some .free := by rw [← ex]; exact ok.js j hjm
        have hk := ok.free _ (mem_of_lookup hfr) rfl
        obtain ⟨m0, _, hl⟩ := I.loc
        obtain ⟨w', r, l⟩ := hl j x v hN hσ (.inr hk)
        refine ⟨w', r, ?_⟩
        rcases l with ⟨hk', _⟩ | ⟨_, c, hc, hz⟩
        · have hk'' : X.env.kindOf x = some .local := hk'
          rcases hk with q | q
          · exact absurd (hk''.symm.trans q) (by intro z; cases z)
          · exact absurd (hk''.symm.trans q) (by intro z; cases z)
        · obtain ⟨c', hc'⟩ : ∃ c', (clAcc X.env.cells scope.names []).lookup x = some c' := clAcc_has (.inl (mem_of_lookup hfr))
          have e := ok.sub I hc'
          rw [hc] at e
          cases e
          exact .inr ⟨ok.isFree hfr, c, hc', cellAt x c hc _ hz⟩
  · intro x c e
    obtain ⟨v, z⟩ := I.cell x c (ok.sub I e)
    exact ⟨v, cellAt x c (ok.sub I e) v z⟩
  · intro x c e
    obtain ⟨v, o, ho, _⟩ := I.cell x c (ok.sub I e)
    refine u.free c o ho (I.freeC x c (ok.sub I e)) fun z => ?_
    obtain ⟨_, _, _, _, f4, _⟩ := f c z
    exact f4 x c (ok.sub I e) rfl
  · intro p hpm
    rcases List.mem_append.mp hpm with h | h
    · have h' : p ∈ X.pn ++ pins := h
      obtain ⟨e, n, ne, nf, d⟩ := I.pin p h'
      have nfr : p.1 ∉ frs X.stack := fun z => by
        rcases List.mem_cons.mp (I.stkSub _ z) with q | q
        · exact ne q
        · exact nf q
      have nex : p.1 ∉ fp := fun z => by
        obtain ⟨_, _, _, _, _, f5⟩ := f p.1 z
        exact f5 p h' rfl
      exact ⟨u.keep p.1 p.2 e n nfr nex, u.free p.1 p.2 e n nex, Nat.ne_of_lt (Nat.lt_of_lt_of_le (Heap.lt_size e) hC), nfr, d⟩
    · exact hp p h
  · show (List.replicate own.length none ++ js.map fun j => σ.getD j none).length = (own ++ js.map fun j => X.N.getD j "").length
    simp
theorem Inv.track {D : Addr} {ys : List V} {its : List Value} {n : Nat} (I : Inv X pins σ H s) (hn : H D = none) (ho : s.heap.get? D = some { cls := .type "list", data := .seq its.toArray n }) (r : Vals ys its) (hz : ys.length ≤ sizeLine)
    (h1 : D ∈ X.ex ∨ X.s₀.heap.objs.size ≤ D) (hL : D ≠ X.env.locals) (h2 : ∀ x c, X.env.cells.lookup x = some c → c ≠ D) (h3 : ∀ p ∈ X.pn ++ pins, p.1 ≠ D) : Inv X pins σ (upd H D (.lst ys)) s := by
  have ne : ∀ b o, H b = some o → b ≠ D := fun b o e => ne_of_none e hn
  refine I.step (h' := s.heap) (g' := s.gens) (d' := s.drawn) (t' := s.toks) (ch := [D]) (fun b hb => ?_) (fun b o _ _ _ e _ => e) (fun b o _ _ _ e _ => ⟨o.slots, e⟩) (fun b o hc _ n => ?_)
    (fun b o _ e => ⟨o, e⟩) (fun b xs e => ?_) (fun b o u e => ?_) (fun b ps e => ⟨#[], ?_⟩) (fun _ z => z) (fun b u e => ?_) I.bare
  · have e : b = D := by simpa using hb
    subst e
    exact ⟨h1, hL, h2, h3⟩
  · rw [upd_ne (fun z => hc (by simp [z]))]; exact n
  · rw [upd_ne (ne _ _ e)]; exact e
  · rw [upd_ne (ne _ _ e)]; exact e
  · rw [upd_ne (ne _ _ e), e]; simp
  · by_cases hb : b = D
    · subst hb
      rw [upd_same] at e
      cases e
      exact ⟨hz, its, n, r, ho⟩
    · rw [upd_ne hb] at e
      exact (I.hok b u e).stay (fun c v _ q => q) (fun c q => by rw [upd_ne (ne _ _ q)]; exact q) fun c xs q => by rw [upd_ne (ne _ _ q)]; exact q
end
structure Own (X : Cx) (pins : List (Addr × Obj)) (C : Addr) : Prop where
  ne : C ≠ X.env.locals
  old : C ∈ X.ex ∨ X.s₀.heap.objs.size ≤ C
  cells : ∀ x c, X.env.cells.lookup x = some c → c ≠ C
  pin : ∀ p ∈ X.pn ++ pins, p.1 ≠ C
theorem Own.go {X : Cx} {pins : List (Addr × Obj)} {C : Addr} {σ : St} {H : Hp} {s : Shared} {h' : Heap} (o : Own X pins C) (I : Inv X pins σ H s) (hn : H C = none) (sb : Heap.SameBut C s.heap h') : Inv X pins σ H { s with heap := h' } :=
  I.turned (t' := s.toks) (fun b q hb e => (sb.2 b hb).trans e) hn o.ne o.old o.cells o.pin
section
variable {prog : Program} {w : World} {A : Around} {R : Result → Shared → Prop} {s : Shared}
theorem compLoop_go {elt target iter : Expr} {ifs : List Expr} {scope : Scope} {pos : Pos} {it acc : Value} {env : Env} (I : Nat → Shared → Prop)
    (turn : ∀ n s, I n s → wpAny (model prog w) A (pyNext it) (fun r s₁ => match r with
      | none => R (.ok .next) s₁
      | some v => wpAny (model prog w) A (letOwnedTupleGo target it v) (fun _ s₁' => wpAny (model prog w) A (assign target env v) (fun _ s₂ =>
          wpAny (model prog w) A (forIn ifs true fun c r => if r = true then do let ok ← isTrue c env (eval c env); pure (ForInStep.yield ok) else pure (ForInStep.yield r)) (fun ok s₃ =>
            if ok = true then wpAny (model prog w) A (eval elt env) (fun x s₄ =>
              wpAny (model prog w) A (call (.builtin "list.append") [acc, x]) (fun _ s₅ => ∃ m, m < n ∧ I m s₅) (notedBy (model prog w) A env fun e s' => R (.error e) s') s₄) (notedBy (model prog w) A env fun e s' => R (.error e) s') s₃
            else ∃ m, m < n ∧ I m s₃) (notedBy (model prog w) A env fun e s' => R (.error e) s') s₂) (notedBy (model prog w) A env fun e s' => R (.error e) s') s₁') (notedBy (model prog w) A env fun e s' => R (.error e) s') s₁)
        (notedBy (model prog w) A env fun e s' => R (.error e) s') s)
    (n : Nat) (h : I n s) :
    codeAny (model prog w) A (.compLoop (.ListComp elt [⟨target, iter, ifs, 0⟩] scope pos) 0 it acc env) R s := by
  refine codeAny_loop rfl I (fun n s hI => ?_) n h
  show wpAny _ A ((compTurn (.ListComp elt [⟨target, iter, ifs, 0⟩] scope pos) 0 it acc env).onRaise (fun x => do noteFrame x env; theTreesLotGoes x)) _ _ s
  refine wpAny_noted ?_
  rw [compTurn_list]
  refine wpAny_bind (wpAny_standAt (wpAny_bind (wpAny_mono (turn n s hI) (fun r s₁ h₁ => ?_) fun _ _ h' => h')))
  cases r with
  | none => exact wpAny_pure h₁
  | some v =>
    refine wpAny_bind (wpAny_mono h₁ (fun _ s₁' h₁' => ?_) fun _ _ h' => h')
    refine wpAny_bind (wpAny_mono h₁' (fun _ s₂ h₂ => wpAny_bind (wpAny_mono h₂ (fun ok s₃ h₃ => ?_) fun _ _ h' => h')) fun _ _ h' => h')
    cases ok with
    | false => exact wpAny_pure ⟨rfl, h₃⟩
    | true =>
      exact wpAny_bind (wpAny_bind (wpAny_mono h₃ (fun x s₄ h₄ => wpAny_bind (wpAny_mono h₄ (fun _ s₅ h₅ => wpAny_pure (wpAny_pure ⟨rfl, h₅⟩)) fun _ _ h' => h')) fun _ _ h' => h'))
end
def PTs (X : Cx) (ifs : List Expr) (t : TT) : Prop :=
  ∀ (pins : List (Addr × Obj)) (s : Shared) (σ : St) (H : Hp) (Q : Bool → Hp → Prop), Inv X pins σ H s → t σ H Q →
    wpAny (model X.prog X.w) X.A (forIn ifs true fun c r => if r = true then do let ok ← isTrue c X.env (eval c X.env); pure (ForInStep.yield ok) else pure (ForInStep.yield r)) (TP X pins σ Q) X.xe s
def tAll : TT := fun _ H Q => Q true H
theorem pts_nil {X : Cx} : PTs X [] tAll := fun pins s σ H Q I h => wpAny_tests_nil ⟨H, I, h⟩
def tCompW (n : Nat) (js : List Nat) (wi : TI) (g : TG) (tt : TT) (te : TE) (σ : St) (H : Hp) (F : List V → Hp → Prop) : Prop := wi σ H fun J H1 => ∃ W : Nat → Nat → List V → Hp → Prop, (∃ m, W 0 m [] H1) ∧ ∀ i m ys H, W i m ys H →
  (J.stop i H ∧ F ys H) ∨
  (J.go i H ∧ ys.length < sizeLine ∧ ∃ N : List V → Hp → Prop, (∀ ys' H', N ys' H' → ∃ m', m' < m ∧ W (i + 1) m' ys' H') ∧ ∀ x H', J.yld i H x H' → g x (cσ n js σ) H' fun σ2 H2 => tt σ2 H2 fun b H3 => if b = true then te σ2 H3 fun y H4 => N (ys ++ [y]) H4 else N ys H3)
def tComp (n : Nat) (js : List Nat) (wi : TI) (g : TG) (tt : TT) (te : TE) : TE := fun σ H Q => tCompW n js wi g tt te σ H fun ys H => ∀ p, H p = none → Q (.ref p) (upd H p (.lst ys))
section
variable {X : Cx} {scope : Scope} {own : List Str} {js : List Nat} {tg iter elt : Expr} {ifs : List Expr} {wi : TI} {g : TG} {tt : TT} {te : TE} {pos : Pos}
abbrev NoE : Value → Shared → Prop := fun _ _ => False
theorem comp_block {pins : List (Addr × Obj)} {σ : St} {H2 : Hp} {s2 : Shared} {it : Addr} {fp : List Addr} {tn : Nat → Heap → Prop} {J : It} {F : List V → Hp → Prop} {RR : Value → Addr → Result → Shared → Prop} {E : Value → Shared → Prop}
    (hc : X.calm = true) (ok : CompOk X scope js)
    (hg : ∀ C s H ex pn, PG (cxC X scope own js C s H ex pn NoE) tg g) (ht : ∀ C s H ex pn, PTs (cxC X scope own js C s H ex pn NoE) ifs tt) (he : ∀ C s H ex pn, PE (cxC X scope own js C s H ex pn NoE) elt te)
    (I2 : Inv X pins σ H2 s2) (T : Turn X.prog X.w X.K tg J fp it tn) (st2 : tn 0 s2.heap) (f2 : ∀ b ∈ fp, FpOk X pins H2 b) {W : Nat → Nat → List V → Hp → Prop} {m0 : Nat} (w0 : W 0 m0 [] H2)
    (turn : ∀ i m ys H, W i m ys H → (J.stop i H ∧ F ys H) ∨
      (J.go i H ∧ ys.length < sizeLine ∧ ∃ N : List V → Hp → Prop, (∀ ys' H', N ys' H' → ∃ m', m' < m ∧ W (i + 1) m' ys' H') ∧ ∀ x H', J.yld i H x H' → g x (cσ own.length js σ) H' fun σ2 H2 => tt σ2 H2 fun b H3 => if b = true then te σ2 H3 fun y H4 => N (ys ++ [y]) H4 else N ys H3))
    (hRR : ∀ (D C : Addr) (s' : Shared) (H' : Hp) (ys : List V) (m : Str → Option Value), F ys H' → H' D = none → Inv X pins σ (upd H' D (.lst ys)) s' → s'.heap.Ns C m →
      Own X pins C → (upd H' D (.lst ys)) C = none → RR (.ref D) C (.ok .next) s') :
    wpAny (model X.prog X.w) X.A (newList []) (fun acc s₃ => wpAny (model X.prog X.w) X.A (newFunctionEnv scope X.env.globals (clAcc X.env.cells scope.names []) [] X.env.qual none .none (some X.env)) (fun cenv s₄ =>
      codeAny (model X.prog X.w) X.A (.compStart (.ListComp elt [⟨tg, iter, ifs, 0⟩] scope pos) 0 (.ref it) acc { cenv with scope := relabel scope X.env }) (RR acc cenv.locals) s₄) E s₃) E s2 := by
  refine wpAny_newObj_type (wpAny_newFunctionEnv ok.cell (by intro y hy; simp at hy) (fun h₁ hns₁ hsb₁ => ?_) ok.kind)
  dsimp only at hns₁ hsb₁ ⊢
  generalize hP : s2.heap.push { cls := .type "list", dict := none, data := .seq ([] : List Value).toArray } = P2 at hns₁ hsb₁ ⊢
  have hC : P2.objs.size = s2.heap.objs.size + 1 := by rw [← hP, Heap.size_push]
  have hDC : s2.heap.objs.size ≠ P2.objs.size := by rw [hC]; exact Nat.ne_of_lt (Nat.lt_succ_self _)
  have hCle : s2.heap.objs.size ≤ P2.objs.size := by rw [hC]; exact Nat.le_succ _
  have below : ∀ b, b < s2.heap.objs.size → b ≠ P2.objs.size ∧ b ≠ s2.heap.objs.size := fun b hb => ⟨by rw [hC]; exact Nat.ne_of_lt (Nat.lt_succ_of_lt hb), Nat.ne_of_lt hb⟩
  have old : ∀ b o, s2.heap.get? b = some o → h₁.get? b = some o := fun b o e => hsb₁.extBut b o (below b (Heap.lt_size e)).1 (Heap.get?_push_of_some _ (hP ▸ Heap.get?_push_of_some _ e))
  have hacc : h₁.get? s2.heap.objs.size = some { cls := .type "list", data := .seq ([] : List Value).toArray 0 } := hsb₁.extBut _ _ hDC (Heap.get?_push_of_some _ (hP ▸ Heap.get?_push_size _ rfl))
  generalize hDe : s2.heap.objs.size = D at hacc hDC hCle hC below
  generalize hCe : P2.objs.size = C at hns₁ hsb₁ hDC hCle hC below ⊢
  have fo : ∀ b ∈ fp, ∃ o, s2.heap.get? b = some o := fun b hb => let ⟨o, e, _⟩ := T.obj _ _ st2 b hb; ⟨o, e⟩
  have fD : ∀ b ∈ fp, b ≠ D ∧ b ≠ C := fun b hb => by
    obtain ⟨o, e⟩ := fo b hb
    have := below b (hDe ▸ Heap.lt_size e)
    exact ⟨this.2, this.1⟩
  have H2C : H2 C = none := I2.hok.fresh (by rw [hDe]; exact hCle)
  have H2D : H2 D = none := I2.hok.fresh (by rw [hDe]; exact Nat.le_refl _)
  have stkD : D ∉ frs X.stack := fun z => by
    have h1 := I2.nofs (a := D) (by rw [hDe]; exact Nat.le_refl _)
    rcases List.mem_cons.mp (I2.stkSub _ z) with q | q
    · have := I2.lt
      rw [← q, hDe] at this
      exact Nat.lt_irrefl _ this
    · exact h1 q
  have neLoc : D ≠ X.env.locals ∧ C ≠ X.env.locals := by
    have h1 := I2.lt
    rw [hDe] at h1
    exact ⟨Nat.ne_of_gt h1, Nat.ne_of_gt (Nat.lt_of_lt_of_le h1 hCle)⟩
  have cellLt : ∀ x c, X.env.cells.lookup x = some c → c < D := fun x c e => by
    obtain ⟨v, z⟩ := I2.cell x c e
    rw [← hDe]
    exact z.lt
  have pinLt : ∀ p ∈ X.pn ++ pins, p.1 < D := fun p hp => by rw [← hDe]; exact Heap.lt_size (I2.pin p hp).1
  have hs0 : X.s₀.heap.objs.size ≤ D := by rw [← hDe]; exact I2.sz
  have start : ∀ {s' : Shared} {H' : Hp} {m : Str → Option Value} {o : Obj}, s'.os = s2.os → AllBare s'.gens → Un (frs X.stack) fp H2 H' s2.heap s'.heap → s'.heap.Ns C m → HOk X.prog X.w H' s'.heap → H' C = none → s'.heap.get? D = some o → H' D = none → (∀ v, o.data ≠ .cell v) →
      Inv (cxC X scope own js C s2 H2 fp (X.pn ++ pins) NoE) [(D, o)] (cσ own.length js σ) H' s' := fun {s' H' m o} a1 a2 a3 a4 a5 a6 a7 a8 a9 =>
    inv_comp ok I2 (by rw [hDe]; exact hCle) f2 fo a1 a2 a3 a4 a5 a6 fun p hp => by
      have e : p = (D, o) := by simpa using hp
      subst e
      exact ⟨a7, a8, hDC, stkD, a9⟩
  have fpC : ∀ {H' : Hp} {o : Obj}, (∀ b ∈ fp, H' b = none) → ∀ b ∈ fp, FpOk (cxC X scope own js C s2 H2 fp (X.pn ++ pins) NoE) [(D, o)] H' b := fun {H' o} hn b hb => by
    obtain ⟨_, q1, q2, q3, q4, q5⟩ := f2 b hb
    refine ⟨hn b hb, (fD b hb).2, fun z => ?_, .inl hb, fun x c e => q4 x c (ok.sub I2 e), fun p hp => ?_⟩
    · rcases List.mem_cons.mp (I2.stkSub b z) with e | e
      · exact q1 e
      · exact q2 e
    · rcases List.mem_append.mp hp with h | h
      · exact q5 p h
      · have e : p = (D, o) := by simpa using h
        subst e
        exact (fD b hb).1.symm
  have nocell : ∀ (its : Array Value) (n : Nat) (v : Option Value), ({ cls := .type "list", data := .seq its n } : Obj).data ≠ .cell v := fun _ _ _ z => by cases z
  have loop : ∀ s₃ : Shared, s₃ = { s2 with heap := h₁, toks := s2.toks + ([] : List (Str × Value)).length } →
      codeAny (model X.prog X.w) X.A (.compLoop (.ListComp elt [⟨tg, iter, ifs, 0⟩] scope pos) 0 (.ref it) (.ref D) (compEnvC scope (clAcc X.env.cells scope.names []) C X.env)) (RR (.ref D) C) s₃ := by
    rintro s₃ rfl
    refine compLoop_go (fun n s' => ∃ i ys its k H', Inv (cxC X scope own js C s2 H2 fp (X.pn ++ pins) NoE) [(D, { cls := .type "list", data := .seq (its : List Value).toArray k })] (cσ own.length js σ) H' s' ∧ tn i s'.heap ∧ (∀ b ∈ fp, H' b = none) ∧
      W i n ys H' ∧ Vals ys its ∧ ys.length ≤ sizeLine) ?_ m0 ⟨0, [], [], 0, H2, start rfl I2.bare (Un.kept old) hns₁ (I2.hok.kept old) H2C hacc H2D (nocell _ _), T.keep _ _ _ st2 (fun b _ o e => old b o e), fun b hb => (f2 b hb).1, w0, .nil, Nat.zero_le _⟩
    rintro n s3 ⟨i, ys, its, k, H3, I3, st3, fr3, w3, rv, hz⟩
    rcases turn i n ys H3 w3 with ⟨stop, q⟩ | ⟨go, hlt, N, hN, step⟩
    · refine wpAny_mono (T.done (cxC X scope own js C s2 H2 fp (X.pn ++ pins) NoE) rfl rfl rfl hc i _ s3 _ H3 NoE I3 (fpC fr3) st3 stop) (fun r s4 ⟨hr, I4⟩ => ?_) fun _ _ f => f.elim
      subst hr
      obtain ⟨zD, nD, _⟩ := I4.pin (D, _) (List.mem_append_right _ List.mem_cons_self)
      obtain ⟨m, hm, _⟩ := I4.loc
      have I5 : Inv X pins σ H3 s4 := I2.call' I4.os I4.base I4.hok I4.bare fun b hb => ⟨(f2 b hb).2.2.2.1, (f2 b hb).2.1, (f2 b hb).2.2.2.2.1, (f2 b hb).2.2.2.2.2⟩
      have I6 : Inv X pins σ (upd H3 D (.lst ys)) s4 := I5.track nD zD rv hz (.inr hs0) neLoc.1 (fun x c e => Nat.ne_of_lt (cellLt x c e)) fun p hp => Nat.ne_of_lt (pinLt p hp)
      have nC : H3 C = none := I4.free
      exact hRR D C s4 H3 ys m q nD I6 hm ⟨neLoc.2, .inr (Nat.le_trans hs0 hCle), fun x c e => Nat.ne_of_lt (Nat.lt_of_lt_of_le (cellLt x c e) hCle), fun p hp => Nat.ne_of_lt (Nat.lt_of_lt_of_le (pinLt p hp) hCle)⟩ (by rw [upd_ne (Ne.symm hDC)]; exact nC)
    · refine wpAny_mono (T.item (cxC X scope own js C s2 H2 fp (X.pn ++ pins) NoE) rfl rfl rfl hc i _ s3 _ H3 NoE I3 (fpC fr3) st3 go) (fun r s4 ⟨u, hr, h4⟩ => ?_) fun _ _ f => f.elim
      subst hr
      refine wpAny_mono h4 (fun _ s5 ⟨x, H5, I5, r5, y5, st5, fr5⟩ => ?_) fun _ _ f => f.elim
      have I5' := I5.pinned (fpC fr5) (T.obj _ _ st5)
      refine wpAny_mono (hg _ _ _ _ _ _ s5 _ H5 x u _ I5' r5 (step x H5 y5)) (fun _ s6 ⟨σ6, H6, I6, q6⟩ => ?_) fun _ _ f => f.elim
      refine wpAny_mono (ht _ _ _ _ _ _ s6 σ6 H6 _ I6 q6) (fun b s7 ⟨H7, I7, q7⟩ => ?_) fun _ _ f => f.elim
      have back : ∀ {s8 : Shared} {H8 : Hp} {m' : Nat} {ys' : List V} {its' : List Value} {k' : Nat}, Inv (cxC X scope own js C s2 H2 fp (X.pn ++ pins) NoE) [] σ6 H8 s8 → s8.heap.get? D = some { cls := .type "list", data := .seq its'.toArray k' } → H8 D = none →
          (∀ b ∈ fp, ∀ o, s5.heap.get? b = some o → s8.heap.get? b = some o) → (∀ b ∈ fp, H8 b = none) → W (i + 1) m' ys' H8 → Vals ys' its' → ys'.length ≤ sizeLine →
          ∃ i ys its k H', Inv (cxC X scope own js C s2 H2 fp (X.pn ++ pins) NoE) [(D, { cls := .type "list", data := .seq (its : List Value).toArray k })] (cσ own.length js σ) H' s8 ∧ tn i s8.heap ∧ (∀ b ∈ fp, H' b = none) ∧ W i m' ys H' ∧ Vals ys its ∧ ys.length ≤ sizeLine :=
        fun {s8 H8 m' ys' its' k'} J zD nD kf fr w' rv' hz' => by
          obtain ⟨m, hm, _⟩ := J.loc
          exact ⟨i + 1, ys', its', k', H8, start J.os J.bare J.base hm J.hok J.free zD nD (nocell _ _), T.keep _ _ _ st5 kf, fr, w', rv', hz'⟩
      cases b with
      | false =>
        rw [if_neg Bool.false_ne_true]
        rw [if_neg Bool.false_ne_true] at q7
        obtain ⟨m', hm', w'⟩ := hN _ _ q7
        have pD := I7.pin (D, _) (List.mem_append_right _ (List.mem_append_left _ List.mem_cons_self))
        refine ⟨m', hm', back (I7.pins_of (pins' := []) fun p hp => nomatch hp) pD.1 pD.2.1 (fun b hb o e => (I7.pin (b, o) (List.mem_append_right _ (List.mem_append_right _ (mem_pinsAt hb e)))).1) (fun b hb => ?_) w' rv hz⟩
        obtain ⟨o, e, _⟩ := T.obj _ _ st5 b hb
        exact (I7.pin (b, o) (List.mem_append_right _ (List.mem_append_right _ (mem_pinsAt hb e)))).2.1
      | true =>
        rw [if_pos rfl]
        rw [if_pos rfl] at q7
        refine wpAny_mono (he _ _ _ _ _ _ s7 σ6 H7 _ I7 q7) (fun yv s8 ⟨y, H8, I8, r8, q8⟩ => ?_) fun _ _ f => f.elim
        obtain ⟨m', hm', w'⟩ := hN _ _ q8
        have pD := I8.pin (D, _) (List.mem_append_right _ (List.mem_append_left _ List.mem_cons_self))
        refine append_at (hsz := by rw [List.size_toArray, ← rv.length]; exact hz) pD.1 fun h9 sb9 z9 => ?_
        have I8' : Inv (cxC X scope own js C s2 H2 fp (X.pn ++ pins) NoE) [] σ6 H8 s8 := I8.pins_of fun p hp => nomatch hp
        have I9 : Inv (cxC X scope own js C s2 H2 fp (X.pn ++ pins) NoE) [] σ6 H8 { s8 with heap := h9 } := I8'.turned (t' := s8.toks) (it := D) (fun b o hb e => (sb9.2 b hb).trans e) pD.2.1 hDC (.inr (by show s2.heap.objs.size ≤ D; rw [hDe]; exact Nat.le_refl _))
          (fun x c e => Nat.ne_of_lt (cellLt x c (ok.sub I2 e))) fun p hp => by
            rcases List.mem_append.mp hp with h | h
            · exact Nat.ne_of_lt (pinLt p h)
            · cases h
        refine ⟨m', hm', back (its' := its ++ [yv]) (k' := k + 1) I9 (by rw [z9]; simp) pD.2.1 (fun b hb o e => (sb9.2 b (fD b hb).1).trans (I8.pin (b, o) (List.mem_append_right _ (List.mem_append_right _ (mem_pinsAt hb e)))).1) (fun b hb => ?_) w' (rv.append (.cons r8 .nil)) (by simp; omega)⟩
        obtain ⟨o, e, _⟩ := T.obj _ _ st5 b hb
        exact (I8.pin (b, o) (List.mem_append_right _ (List.mem_append_right _ (mem_pinsAt hb e)))).2.1
  exact codeAny_compStart_list (loop _ rfl) (T.self X.A 0 _ _ _ (T.keep _ _ _ st2 (fun b _ o e => old b o e)) (loop _ rfl))
theorem pe_comp (hc : X.calm = true) (hi : PI X tg iter wi) (ok : CompOk X scope js)
    (hg : ∀ C s H ex pn, PG (cxC X scope own js C s H ex pn NoE) tg g) (ht : ∀ C s H ex pn, PTs (cxC X scope own js C s H ex pn NoE) ifs tt) (he : ∀ C s H ex pn, PE (cxC X scope own js C s H ex pn NoE) elt te)
    (hs : ∀ x, foldedSetIterable iter X.env x = pure x := by intro _; rfl) : PE X (.ListComp elt [⟨tg, iter, ifs, 0⟩] scope pos) (tComp own.length js wi g tt te) := by
  intro pins s σ H Q I h
  rw [eval_ListComp]
  refine wpAny_comprehension_free (use := none) rfl hs (closureFor_ok (ok.clos I)) ok.kind ok.names (thn (hi pins s σ H _ I h) fun v s1 h1 => thn h1 fun itv s2 h2 => ?_)
  obtain ⟨it, fp, tn, J, H2, e, I2, T, st2, f2, W, ⟨m0, w0⟩, turn⟩ := h2
  subst e
  refine comp_block (RR := fun acc C => compPost (model X.prog X.w) X.A X.xe none (EP X pins σ Q) acc C) hc ok hg ht he I2 T st2 f2 w0 turn ?_
  intro D C s' H' ys m q nD I6 hm o nC
  exact ⟨m, hm, fun h' sb => ⟨.ref D, _, o.go I6 nC sb, rfl, q D nD⟩⟩
end
end L2
namespace L2
open PySem PySem.Spec PyProof.Rows
def ItR (X : Cx) (tg : Expr) (r : V → Hp → (It → Hp → Prop) → Prop) : Prop :=
  ∀ (pins : List (Addr × Obj)) (s : Shared) (σ : St) (H : Hp) (x : V) (v : Value) (R : It → Hp → Prop), Inv X pins σ H s → RelV x v → r x H R →
    wpAny (model X.prog X.w) X.A (pyIter v) (PIE X pins σ tg R) X.xe s
def Its (z : Str) : It := ⟨fun i _ => i < z.length, fun i H x H' => H' = H ∧ ∃ c, z.cps[i]? = some c ∧ x = .str ⟨#[c]⟩, fun i _ => i = z.length⟩
theorem walks_str {P : Program} {w : World} {A : Around} (hh : A.handled = none) (I : Addr) (z : Str) (t : Tok) {ty : String} (hty : ty = "str_ascii_iterator" ∨ ty = "str_iterator") :
    Walks P w A I [I] [I] z.cps.size (SignAt z) (fun i h => h.IsStrIter I ty z t i) := by
  rcases hty with e | e
  · subst e; exact Walks.strAscii hh I z t
  · subst e; exact Walks.strWide hh I z t
theorem turn_str {P : Program} {w : World} {K : PySem.W.Frag} {tg : Expr} (z : Str) (t : Tok) (it : Addr) {ty : String} (hty : ty = "str_ascii_iterator" ∨ ty = "str_iterator") :
    Turn P w K tg (Its z) [it] it (fun i h => h.IsStrIter it ty z t i) where
  mem := by simp
  obj := fun i h st b hb => by
    have e : b = it := by simpa using hb
    subst e
    obtain ⟨o, e, c, d⟩ := st
    exact ⟨o, e, fun v z => by rw [d] at z; cases z⟩
  keep := fun i h h' st k => by
    obtain ⟨o, e, r⟩ := st
    exact ⟨o, k it (by simp) o e, r⟩
  item := by
    intro X hP hw hK hc i pins s σ H E I hf st hg
    subst hP hw hK
    obtain ⟨f0, f1, f2, f3, f4, f5⟩ := hf it (by simp)
    refine (walks_str (I.ok.hd hc) it z t hty).item i s _ _ hg st fun v h' tk hv st' kk => ?_
    obtain ⟨c, u, hcz, rfl⟩ := hv
    have I1 : Inv X pins σ H { s with heap := h', toks := tk } := I.turned (fun b o hb e => kk b o (by simpa using hb) e) f0 f1 f3 f4 f5
    obtain ⟨o, e, cl, d⟩ := id st'
    refine ⟨_, rfl, go_of (s := { s with heap := h', toks := tk }) (n := ty) e cl d (by rcases hty with q | q <;> (subst q; decide)) ⟨.str ⟨#[c]⟩, H, I1, ⟨u, rfl⟩, ⟨rfl, c, hcz, rfl⟩, st', fun b hb => (hf b hb).1⟩⟩
  done := by
    intro X hP hw hK hc i pins s σ H E I hf st hg
    subst hP hw hK
    obtain ⟨f0, f1, f2, f3, f4, f5⟩ := hf it (by simp)
    have e : i = z.length := hg
    subst e
    exact (walks_str (I.ok.hd hc) it z t hty).done s _ _ st fun h' tk kk => ⟨rfl, I.turned (fun b o hb e => kk b o (by simpa using hb) e) f0 f1 f3 f4 f5⟩
  self := fun A i s Q E st h => by
    rcases hty with e | e
    · subst e; exact wpAny_pyIter_striter_ascii st h
    · subst e; exact wpAny_pyIter_striter_wide st h
section
variable {X : Cx} {tg : Expr}
theorem ItR.or {r r' : V → Hp → (It → Hp → Prop) → Prop} (h : ItR X tg r) (h' : ItR X tg r') : ItR X tg (fun x H R => r x H R ∨ r' x H R) := by
  intro pins s σ H x v R I rx q
  rcases q with q | q
  · exact h pins s σ H x v R I rx q
  · exact h' pins s σ H x v R I rx q
theorem it_list : ItR X tg (fun x H R => ∃ a, x = .ref a ∧ (∃ xs, SqL X.K H a xs) ∧ R (Itl X.K a) H) := by
  intro pins s1 σ H1 x v R I1 r1 q1
  obtain ⟨a, e, ⟨xs, hq⟩, q⟩ := q1
  subst e
  cases r1
  obtain ⟨its, rv, p, hz⟩ := I1.list hq
  refine wpAny_pyIter_list p.isList ?_
  refine ⟨s1.heap.objs.size, [s1.heap.objs.size], _, _, H1, rfl, I1.kept (t' := s1.toks) fun b o e => Heap.get?_push_of_some _ e, turn_list a _, ⟨_, Heap.get?_push_size _ rfl, rfl, rfl⟩, fun b hb => ?_, q⟩
  have e : b = s1.heap.objs.size := by simpa using hb
  subst e
  exact I1.fpOk (Nat.le_refl _) (I1.hok.fresh (Nat.le_refl _))
theorem it_tup : ItR X tg (fun x H R => ∃ a, x = .ref a ∧ (∃ xs, SqT X.K H a xs) ∧ R (Itt X.K a) H) := by
  intro pins s1 σ H1 x v R I1 r1 q1
  obtain ⟨a, e, ⟨xs, hq⟩, q⟩ := q1
  subst e
  cases r1
  obtain ⟨its, rv, p, hz⟩ := I1.tuple hq
  refine wpAny_pyIter_tuple (show s1.heap.IsTuple a its.toArray from p) ?_
  refine ⟨s1.heap.objs.size, [s1.heap.objs.size], _, _, H1, rfl, I1.kept (t' := s1.toks) fun b o e => Heap.get?_push_of_some _ e, turn_tuple a _, ⟨_, Heap.get?_push_size _ rfl, rfl, rfl⟩, fun b hb => ?_, q⟩
  have e : b = s1.heap.objs.size := by simpa using hb
  subst e
  exact I1.fpOk (Nat.le_refl _) (I1.hok.fresh (Nat.le_refl _))
theorem it_str : ItR X tg (fun x H R => ∃ z, x = .str z ∧ R (Its z) H) := by
  intro pins s1 σ H1 x v R I1 r1 q1
  obtain ⟨z, e, q⟩ := q1
  subst e
  obtain ⟨t, rfl⟩ := r1
  have fin : ∀ (o : Obj) (ty : String), (ty = "str_ascii_iterator" ∨ ty = "str_iterator") → (s1.heap.push o).IsStrIter s1.heap.objs.size ty z t 0 → PIE X pins σ tg R (.ref s1.heap.objs.size) { s1 with heap := s1.heap.push o } := fun o ty hty st => by
    refine ⟨s1.heap.objs.size, [s1.heap.objs.size], _, _, H1, rfl, I1.kept (t' := s1.toks) fun b o e => Heap.get?_push_of_some _ e, turn_str z t _ hty, st, fun b hb => ?_, q⟩
    have e : b = s1.heap.objs.size := by simpa using hb
    subst e
    exact I1.fpOk (Nat.le_refl _) (I1.hok.fresh (Nat.le_refl _))
  cases ha : z.cps.all (· < 128)
  · exact wpAny_pyIter_wide ha (fin _ _ (.inr rfl) ⟨_, Heap.get?_push_size _ rfl, rfl, rfl⟩)
  · exact wpAny_pyIter_ascii ha (fin _ _ (.inl rfl) ⟨_, Heap.get?_push_size _ rfl, rfl, rfl⟩)
def rIt (K : PySem.W.Frag) : V → Hp → (It → Hp → Prop) → Prop := fun x H R => (∃ a, x = .ref a ∧ (∃ xs, SqL K H a xs) ∧ R (Itl K a) H) ∨ (∃ a, x = .ref a ∧ (∃ xs, SqT K H a xs) ∧ R (Itt K a) H) ∨ ∃ z, x = .str z ∧ R (Its z) H
theorem itA : ItR X tg (rIt X.K) := it_list.or (it_tup.or it_str)
def iBy (r : V → Hp → (It → Hp → Prop) → Prop) (tl : TE) : TI := fun σ H R => tl σ H fun x H1 => r x H1 R
theorem pi_by {l : Expr} {tl : TE} {r : V → Hp → (It → Hp → Prop) → Prop} (hr : ItR X tg r) (hl : PE X l tl) : PI X tg l (iBy r tl) := by
  intro pins s σ H R I h
  exact thn (hl pins s σ H _ I h) fun v s1 ⟨x, H1, I1, r1, q1⟩ => hr pins s1 σ H1 x v R I1 r1 q1
theorem pi_any {l : Expr} {tl : TE} (hl : PE X l tl) : PI X tg l (iBy (rIt X.K) tl) := pi_by itA hl
theorem rIt_lst {K : PySem.W.Frag} {H : Hp} {a : Addr} {xs : List V} {R : It → Hp → Prop} (h : SqL K H a xs) (q : R (Itl K a) H) : rIt K (.ref a) H R := .inl ⟨a, rfl, ⟨xs, h⟩, q⟩
theorem rIt_str {K : PySem.W.Frag} {H : Hp} {z : Str} {R : It → Hp → Prop} (q : R (Its z) H) : rIt K (.str z) H R := .inr (.inr ⟨z, rfl, q⟩)
end
theorem for_str {z : Str} {g : TG} {tb : TS} {D : Ends} {σ : St} {H : Hp} (Pv : Nat → St → Hp → Prop) (h0 : Pv 0 σ H)
    (hs : ∀ i c σ H, z.cps.toList[i]? = some c → Pv i σ H → g (.str ⟨#[c]⟩) σ H fun σ2 H2 => tb { D with nx := Pv (i + 1), ct := Pv (i + 1), bk := D.nx } σ2 H2) (hd : ∀ σ H, Pv z.length σ H → D.nx σ H) :
    ∃ W : Nat → Nat → St → Hp → Prop, (∃ m, W 0 m σ H) ∧ ∀ i m σ H, W i m σ H →
      ((Its z).stop i H ∧ D.nx σ H) ∨ ((Its z).go i H ∧ ∃ N : St → Hp → Prop, (∀ σ' H', N σ' H' → ∃ m', m' < m ∧ W (i + 1) m' σ' H') ∧ ∀ x H', (Its z).yld i H x H' → g x σ H' fun σ2 H2 => tb { D with nx := N, ct := N, bk := D.nx } σ2 H2) := by
  refine ⟨fun i m σ H => m = z.length - i ∧ i ≤ z.length ∧ Pv i σ H, ⟨z.length, by simp, Nat.zero_le _, h0⟩, ?_⟩
  rintro i m σ H ⟨rfl, hi, p⟩
  by_cases hlt : i < z.length
  · refine .inr ⟨hlt, Pv (i + 1), fun σ' H' p' => ⟨z.length - (i + 1), by omega, rfl, hlt, p'⟩, fun x H' y => ?_⟩
    obtain ⟨e, c, hc, e2⟩ := y
    subst e e2
    exact hs i c σ _ (by simpa using hc) p
  · have e : i = z.length := by omega
    subst e
    exact .inl ⟨rfl, hd σ H p⟩
section
variable {n : Nat} {js : List Nat} {g : TG} {tt : TT} {te : TE} {σ : St} {H : Hp} {F : List V → Hp → Prop}
abbrev CompW (J : It) (n : Nat) (js : List Nat) (g : TG) (tt : TT) (te : TE) (σ : St) (H : Hp) (F : List V → Hp → Prop) : Prop :=
  ∃ W : Nat → Nat → List V → Hp → Prop, (∃ m, W 0 m [] H) ∧ ∀ i m ys H, W i m ys H → (J.stop i H ∧ F ys H) ∨
    (J.go i H ∧ ys.length < sizeLine ∧ ∃ N : List V → Hp → Prop, (∀ ys' H', N ys' H' → ∃ m', m' < m ∧ W (i + 1) m' ys' H') ∧ ∀ x H', J.yld i H x H' → g x (cσ n js σ) H' fun σ2 H2 => tt σ2 H2 fun b H3 => if b = true then te σ2 H3 fun y H4 => N (ys ++ [y]) H4 else N ys H3)
abbrev cTurn (n : Nat) (js : List Nat) (g : TG) (tt : TT) (te : TE) (σ : St) (x : V) (ys : List V) (H : Hp) (N : List V → Hp → Prop) : Prop :=
  g x (cσ n js σ) H fun σ2 H2 => tt σ2 H2 fun b H3 => if b = true then te σ2 H3 fun y H4 => N (ys ++ [y]) H4 else N ys H3
theorem comp_range {lo : Int} {k : Nat} (Pv : Nat → List V → Hp → Prop) (hk : k ≤ sizeLine) (h0 : Pv 0 [] H) (hn : ∀ i ys H, Pv i ys H → ys.length ≤ i)
    (hs : ∀ i ys H, i < k → Pv i ys H → cTurn n js g tt te σ (.int (lo + i)) ys H (Pv (i + 1))) (hd : ∀ ys H, Pv k ys H → F ys H) : CompW (Itr lo k) n js g tt te σ H F := by
  refine ⟨fun i m ys H => m = k - i ∧ i ≤ k ∧ Pv i ys H, ⟨k, by simp, Nat.zero_le _, h0⟩, ?_⟩
  rintro i m ys H ⟨rfl, hi, p⟩
  by_cases hlt : i < k
  · refine .inr ⟨hlt, Nat.lt_of_le_of_lt (hn i ys H p) (Nat.lt_of_lt_of_le hlt hk), Pv (i + 1), fun σ' H' p' => ⟨k - (i + 1), by omega, rfl, hlt, p'⟩, fun x H' y => ?_⟩
    obtain ⟨e, y⟩ := y
    subst e y
    exact hs i ys _ hlt p
  · have e : i = k := by omega
    subst e
    exact .inl ⟨Nat.le_refl _, hd ys H p⟩
theorem comp_list {K : PySem.W.Frag} {a : Addr} {xs : List V} (Pv : Nat → List V → Hp → Prop) (hk : xs.length ≤ sizeLine) (h0 : Pv 0 [] H) (hn : ∀ i ys H, Pv i ys H → ys.length ≤ i) (hl : ∀ i ys H, Pv i ys H → SqL K H a xs)
    (hs : ∀ i x ys H, xs[i]? = some x → Pv i ys H → cTurn n js g tt te σ x ys H (Pv (i + 1))) (hd : ∀ ys H, Pv xs.length ys H → F ys H) : CompW (Itl K a) n js g tt te σ H F := by
  refine ⟨fun i m ys H => m = xs.length - i ∧ i ≤ xs.length ∧ Pv i ys H, ⟨xs.length, by simp, Nat.zero_le _, h0⟩, ?_⟩
  rintro i m ys H ⟨rfl, hi, p⟩
  have q := hl i ys H p
  by_cases hlt : i < xs.length
  · refine .inr ⟨⟨xs, xs[i], q, by simp [hlt]⟩, Nat.lt_of_le_of_lt (hn i ys H p) (Nat.lt_of_lt_of_le hlt hk), Pv (i + 1), fun σ' H' p' => ⟨xs.length - (i + 1), by omega, rfl, hlt, p'⟩, fun x H' y => ?_⟩
    obtain ⟨e, y⟩ := y
    subst e
    exact hs i x ys _ (y xs q) p
  · have e : i = xs.length := by omega
    subst e
    exact .inl ⟨⟨xs, q, Nat.le_refl _⟩, hd ys H p⟩
theorem comp_str {z : Str} (Pv : Nat → List V → Hp → Prop) (hk : z.length ≤ sizeLine) (h0 : Pv 0 [] H) (hn : ∀ i ys H, Pv i ys H → ys.length ≤ i)
    (hs : ∀ i c ys H, z.cps.toList[i]? = some c → Pv i ys H → cTurn n js g tt te σ (.str ⟨#[c]⟩) ys H (Pv (i + 1))) (hd : ∀ ys H, Pv z.length ys H → F ys H) : CompW (Its z) n js g tt te σ H F := by
  refine ⟨fun i m ys H => m = z.length - i ∧ i ≤ z.length ∧ Pv i ys H, ⟨z.length, by simp, Nat.zero_le _, h0⟩, ?_⟩
  rintro i m ys H ⟨rfl, hi, p⟩
  by_cases hlt : i < z.length
  · refine .inr ⟨hlt, Nat.lt_of_le_of_lt (hn i ys H p) (Nat.lt_of_lt_of_le hlt hk), Pv (i + 1), fun σ' H' p' => ⟨z.length - (i + 1), by omega, rfl, hlt, p'⟩, fun x H' y => ?_⟩
    obtain ⟨e, c, hc, e2⟩ := y
    subst e e2
    exact hs i c ys _ (by simpa using hc) p
  · have e : i = z.length := by omega
    subst e
    exact .inl ⟨rfl, hd ys H p⟩
end
theorem size_glue (xs : Array Nat) : ∀ (n : Nat) (acc : Array Nat), ((List.replicate n xs).foldl (· ++ ·) acc).size = acc.size + n * xs.size
  | 0, acc => by simp
  | n + 1, acc => by
    rw [List.replicate_succ, List.foldl_cons, size_glue xs n, Array.size_append, Nat.succ_mul]
    omega
theorem glue_list (xs : Array Nat) : ∀ (n : Nat) (acc : Array Nat), ((List.replicate n xs).foldl (· ++ ·) acc).toList = acc.toList ++ (List.replicate n xs.toList).flatten
  | 0, acc => by simp
  | n + 1, acc => by
    rw [List.replicate_succ, List.foldl_cons, glue_list xs n, List.replicate_succ, List.flatten_cons, Array.toList_append, List.append_assoc]
def repS (z : Str) (k : Int) : Str := if k < 1 then Str.empty else if (k == 1 || z.length == 0) = true then z else ⟨(List.replicate k.toNat z.cps).foldl (· ++ ·) #[]⟩
theorem repS_codes (z : Str) (k : Int) : (repS z k).cps.toList = (List.replicate k.toNat z.cps.toList).flatten := by
  unfold repS
  split
  · have e : k.toNat = 0 := by omega
    rw [e]; rfl
  · split
    · rename_i h1 h2
      rw [Bool.or_eq_true] at h2
      rcases h2 with h2 | h2
      · have e : k = 1 := by simpa using h2
        subst e
        simp
      · have e : z.cps.size = 0 := by simpa [Str.length] using h2
        have e2 : z.cps.toList = [] := by
          rw [← List.length_eq_zero_iff]
          simpa using e
        rw [e2]
        simp
    · simpa using glue_list z.cps k.toNat #[]
theorem repS_length (z : Str) (k : Int) : (repS z k).length = k.toNat * z.length := by
  have e : (repS z k).length = (repS z k).cps.toList.length := by simp [Str.length]
  rw [e, repS_codes, len_rep]
  simp [Str.length]
section
variable {X : Cx} {a b c : Expr} {ta tb tc : TE} {pos : Pos}
theorem op_mulB : OpR X (binaryOp .Mult) (rI IntMulOk fun i j => .int (i * j)) := opI fun _ _ _ _ _ _ _ hc q => mul_int q hc
theorem op_mul_str : OpR X (binaryOp .Mult) (fun x y H Q => ∃ z k, x = .str z ∧ y = .int k ∧ (-1000000 ≤ k ∧ k ≤ 1000000 ∧ z.length ≤ 16) ∧ Q (.str (repS z k)) H) := by
  intro pins s σ H x y v u Q I rx ry h
  obtain ⟨z, k, rfl, rfl, ⟨h2, h1, h3⟩, q⟩ := h
  obtain ⟨t, rfl⟩ := rx
  obtain ⟨t', rfl⟩ := ry
  have hs : sizeLine = 16777216 := sizeLine_eq
  have hl := repS_length z k
  have hb : z.length * k.toNat ≤ 16 * 1000000 := Nat.mul_le_mul h3 (by omega)
  rw [Nat.mul_comm] at hl
  have fin : ∀ t' tk, EP X pins σ Q (.str (repS z k) t') { s with toks := tk } := fun t' tk => ⟨.str _, H, I.tok _, ⟨t', rfl⟩, q⟩
  refine P.mul_str ?_ (fun h4 h5 => ?_) (fun h4 h5 => ?_) ?_
  · have e1 : ¬ k < -(2 ^ 63 : Int) := by omega
    have e2 : ¬ k ≥ 2 ^ 63 := by omega
    rw [decide_eq_false e1, decide_eq_false e2]; rfl
  · have h6 : (16 : Int) ≤ (2 ^ 63 - 1) / k := by
      rw [Int.le_ediv_iff_mul_le (by omega)]
      omega
    omega
  · unfold Builtin.Str.tooLong
    exact decide_eq_false (by omega)
  · unfold repS at fin hl
    by_cases h4 : k < 1
    · rw [if_pos h4] at fin ⊢
      exact ⟨by decide, fin _ _⟩
    · rw [if_neg h4] at fin hl ⊢
      by_cases h5 : (k == 1 || z.length == 0) = true
      · rw [if_pos h5] at fin ⊢
        exact fin t s.toks
      · rw [if_neg h5] at fin hl ⊢
        exact ⟨by omega, fin _ _⟩
def rMulA : R2 := fun x y H Q => rI IntMulOk (fun i j => .int (i * j)) x y H Q ∨ (∃ z k, x = .str z ∧ y = .int k ∧ (-1000000 ≤ k ∧ k ≤ 1000000 ∧ z.length ≤ 16) ∧ Q (.str (repS z k)) H) ∨ rRep x y H Q
theorem opMul : OpR X (binaryOp .Mult) rMulA := op_mulB.or (op_mul_str.or op_rep)
theorem rMulA_ii {i j : Int} {H : Hp} {Q : VK} : rMulA (.int i) (.int j) H Q ↔ IntMulOk i j ∧ Q (.int (i * j)) H := by
  simp [rMulA, rI, rRep]
theorem rMulA_si {z : Str} {j : Int} {H : Hp} {Q : VK} : rMulA (.str z) (.int j) H Q ↔ (-1000000 ≤ j ∧ j ≤ 1000000 ∧ z.length ≤ 16) ∧ Q (.str (repS z j)) H := by
  simp [rMulA, rI, rRep]
def rAddA (K : PySem.W.Frag) : R2 := fun x y H Q => rI0 (fun i j => .int (i + j)) x y H Q ∨ (∃ i j, x = .str i ∧ y = .str j ∧ i.length + j.length ≤ sizeLine ∧ Q (.str (i ++ j)) H) ∨ rCat x y H Q ∨ rCatT K x y H Q
theorem opAdd : OpR X (binaryOp .Add) (rAddA X.K) := op_add.or (op_add_str.or (op_cat.or op_catT))
theorem rAddA_ii {K : PySem.W.Frag} {i j : Int} {H : Hp} {Q : VK} : rAddA K (.int i) (.int j) H Q ↔ Q (.int (i + j)) H := by
  simp [rAddA, rI0, rCat, rCatT]
theorem rAddA_ss {K : PySem.W.Frag} {i j : Str} {H : Hp} {Q : VK} : rAddA K (.str i) (.str j) H Q ↔ i.length + j.length ≤ sizeLine ∧ Q (.str (i ++ j)) H := by
  simp [rAddA, rI0, rCat, rCatT]
theorem rAddA_ll {K : PySem.W.Frag} {l b : Addr} {xs zs : List V} {H : Hp} {Q : VK} (h1 : H l = some (.lst xs)) (h2 : H b = some (.lst zs)) (hz : xs.length + zs.length ≤ sizeLine) (q : ∀ p, H p = none → Q (.ref p) (upd H p (.lst (xs ++ zs)))) : rAddA K (.ref l) (.ref b) H Q :=
  .inr (.inr (.inl ⟨l, b, xs, zs, rfl, rfl, h1, h2, hz, q⟩))
def rSlS : V → Option Int → Option Int → Hp → VK → Prop := fun x lo hi H Q => ∃ z, x = .str z ∧ z.length ≤ sizeLine ∧ Q (.str (Txt.slice z lo hi)) H
theorem sl_str : SlR X rSlS := by
  intro pins s σ H x v vl vu lo hi sl Q I rx hs pl pu h
  obtain ⟨z, rfl, hz, q⟩ := h
  obtain ⟨t, rfl⟩ := rx
  have fin : ∀ t' tk, EP X pins σ Q (.str (Txt.slice z lo hi) t') { s with toks := tk } := fun t' tk => ⟨.str _, H, I.tok _, ⟨t', rfl⟩, q⟩
  refine ⟨"str", _, F.slot_str_getitem.lookup, typeIs_str _ _ _, ?_⟩
  cases pl with
  | none => cases pu with
    | none => exact wpAny_getItem_str_slice (l := none) (u := none) (st := none) hs rfl (post_val_or_str ⟨Nat.le_trans (Txt.slice_le z _ _) hz, fun t' k => fin t' k⟩)
    | int j u => exact wpAny_getItem_str_slice (l := none) (u := some (j, u)) (st := none) hs rfl (post_val_or_str ⟨Nat.le_trans (Txt.slice_le z _ _) hz, fun t' k => fin t' k⟩)
  | int i u => cases pu with
    | none => exact wpAny_getItem_str_slice (l := some (i, u)) (u := none) (st := none) hs rfl (post_val_or_str ⟨Nat.le_trans (Txt.slice_le z _ _) hz, fun t' k => fin t' k⟩)
    | int j u' => exact wpAny_getItem_str_slice (l := some (i, u)) (u := some (j, u')) (st := none) hs rfl (post_val_or_str ⟨Nat.le_trans (Txt.slice_le z _ _) hz, fun t' k => fin t' k⟩)
def rSlA (K : PySem.W.Frag) : V → Option Int → Option Int → Hp → VK → Prop := fun x lo hi H Q => rSlL K x lo hi H Q ∨ rSlT K x lo hi H Q ∨ rSlS x lo hi H Q
theorem slA : SlR X (rSlA X.K) := sl_list.or (sl_tup.or sl_str)
theorem rSlA_s {K : PySem.W.Frag} {z : Str} {lo hi : Option Int} {H : Hp} {Q : VK} : rSlA K (.str z) lo hi H Q ↔ z.length ≤ sizeLine ∧ Q (.str (Txt.slice z lo hi)) H := by
  simp [rSlA, rSlL, rSlT, rSlS]
theorem rSlA_l {K : PySem.W.Frag} {a : Addr} {xs : List V} {lo hi : Option Int} {H : Hp} {Q : VK} (h : SqL K H a xs) (q : ∀ p, H p = none → Q (.ref p) (upd H p (.lst (cutV xs lo hi)))) : rSlA K (.ref a) lo hi H Q := .inl ⟨a, xs, rfl, h, q⟩
theorem ixA : IxR X (rIx X.K) := ix_seq
theorem rIx_s {K : PySem.W.Frag} {z : Str} {i : Int} {H : Hp} {Q : VK} : rIx K (.str z) (.int i) H Q ↔ z.length ≤ sizeLine ∧ ∃ c, atI z.cps.toList i = some c ∧ Q (.str ⟨#[c]⟩) H := by
  simp [rIx, rIxL, rIxT, rIxS]
theorem rIx_l {K : PySem.W.Frag} {p : Addr} {xs : List V} {i : Int} {v : V} {H : Hp} {Q : VK} (h : SqL K H p xs) (hv : atI xs i = some v) (q : Q v H) : rIx K (.ref p) (.int i) H Q := .inl ⟨p, xs, i, v, rfl, rfl, h, hv, q⟩
theorem opEq : OpR X (compareOp .Eq) rEq := op_eq
theorem opNe : OpR X (compareOp .NotEq) rNe := op_ne
theorem opLt : OpR X (compareOp .Lt) (rI0 fun i j => .bl (decide (i < j))) := op_lt
theorem rEq_ii {i j : Int} {H : Hp} {Q : VK} : rEq (.int i) (.int j) H Q ↔ Q (.bl (decide (i = j))) H := by simp [rEq, scal]
theorem rNe_ii {i j : Int} {H : Hp} {Q : VK} : rNe (.int i) (.int j) H Q ↔ Q (.bl (!decide (i = j))) H := by simp [rNe, scal]
theorem rEq_ss {i j : Str} {H : Hp} {Q : VK} : rEq (.str i) (.str j) H Q ↔ Q (.bl (decide (i = j))) H := by simp [rEq, scal]
theorem rNe_ss {i j : Str} {H : Hp} {Q : VK} : rNe (.str i) (.str j) H Q ↔ Q (.bl (!decide (i = j))) H := by simp [rNe, scal]
theorem rEq_bb {i j : Bool} {H : Hp} {Q : VK} : rEq (.bl i) (.bl j) H Q ↔ Q (.bl (decide (i = j))) H := by simp [rEq, scal]
theorem rNe_bb {i j : Bool} {H : Hp} {Q : VK} : rNe (.bl i) (.bl j) H Q ↔ Q (.bl (!decide (i = j))) H := by simp [rNe, scal]
def rInA (K : PySem.W.Frag) : R2 := fun x y H Q => (∃ i j, x = .str i ∧ y = .str j ∧ Q (.bl (!(Builtin.Str.occurrences j i 0 j.length 1).isEmpty)) H) ∨ rIn K false x y H Q
def rNotInA (K : PySem.W.Frag) : R2 := fun x y H Q => (∃ i j, x = .str i ∧ y = .str j ∧ Q (.bl (!(!(Builtin.Str.occurrences j i 0 j.length 1).isEmpty))) H) ∨ rIn K true x y H Q
theorem opIn : OpR X (compareOp .In) (rInA X.K) := op_in_str.or op_in_seq
theorem opNotIn : OpR X (compareOp .NotIn) (rNotInA X.K) := op_notin_str.or op_notIn_seq
theorem rInA_c {K : PySem.W.Frag} {c : Nat} {z : Str} {H : Hp} {Q : VK} : rInA K (.str ⟨#[c]⟩) (.str z) H Q ↔ Q (.bl (decide (c ∈ z.cps.toList))) H := by
  simp [rInA, rIn, StrLaws.found_one]
theorem rNotInA_c {K : PySem.W.Frag} {c : Nat} {z : Str} {H : Hp} {Q : VK} : rNotInA K (.str ⟨#[c]⟩) (.str z) H Q ↔ Q (.bl (!decide (c ∈ z.cps.toList))) H := by
  have e' : (Builtin.Str.occurrences z ⟨#[c]⟩ 0 z.length 1).isEmpty = !decide (c ∈ z.cps.toList) := by
    rw [← StrLaws.found_one z c, Bool.not_not]
  simp [rNotInA, rIn, e']
theorem call_lenA : CallR X (.builtin "len") (fun xs H Q => (∃ z, xs = [.str z] ∧ z.length ≤ sizeLine ∧ Q (.int z.length) H) ∨ ∃ p ys, xs = [.ref p] ∧ (SqL X.K H p ys ∨ SqT X.K H p ys) ∧ Q (.int ys.length) H) := call_len_str.or call_len_seq
theorem call_int_text : CallR X (.type "int") (fun xs H Q => ∃ z n, xs = [.str z] ∧ intText? z = some n ∧ z.length ≤ 640 ∧ Q (.int n) H) := by
  intro pins s σ H xs us Q I r h
  obtain ⟨z, n, rfl, hn, hl, q⟩ := h
  obtain ⟨u, rfl, ru⟩ := vals1 r
  obtain ⟨t, rfl⟩ := ru
  exact PySem.W.KIN.call_text hn hl ⟨.int n, H, I.tok _, ⟨_, rfl⟩, q⟩
theorem call_intA : CallR X (.type "int") (fun xs H Q => (∃ z n, xs = [.str z] ∧ intText? z = some n ∧ z.length ≤ 640 ∧ Q (.int n) H) ∨ ((∃ i, xs = [.int i] ∧ Q (.int i) H) ∨ ∃ k, xs = [.bl k] ∧ Q (.int (if k then 1 else 0)) H)) := call_int_text.or call_int1
theorem mt_startswith : MtR X "str.startswith" (fun x xs H Q => ∃ z y, x = .str z ∧ xs = [.str y] ∧ Q (.bl (Txt.startswith z y)) H) := by
  intro pins s σ H x xs v us Q I rx r h
  obtain ⟨z, y, rfl, rfl, q⟩ := h
  obtain ⟨t, rfl⟩ := rx
  obtain ⟨u, rfl, t', rfl⟩ := vals1 r
  exact SC.startswith ⟨.bl _, H, I, rfl, q⟩
theorem call_isinst : CallR X (.builtin "isinstance") (fun xs H Q => ∃ x n t b, xs = [x, .ty n] ∧ TyOf X.K H x t ∧ PySem.W.kitOne X.K t (.type n) = some b ∧ Q (.bl b) H) := by
  intro pins s σ H xs us Q I r h
  obtain ⟨x, n, t, b, rfl, ty, e, q⟩ := h
  obtain ⟨u, w', rfl, ru, rw'⟩ := vals2 r
  cases rw'
  exact isinst_ok I ru ty e fun tk => ⟨.bl b, H, I.tok _, rfl, q⟩
theorem vals_bools : ∀ {bs : List Bool} {us : List Value}, Vals (bs.map V.bl) us → us = bs.map Value.bool
  | [], _, .nil => rfl
  | b :: bs, _, .cons r t => by
    have e : _ = Value.bool b := r
    rw [List.map_cons, e, vals_bools t]
theorem range_all (bs : List Bool) : (List.range bs.length).all (fun i => bs.getD i true) = bs.all id := by
  induction bs with
  | nil => rfl
  | cons b bs ih =>
    rw [List.length_cons, List.range_succ_eq_map, List.all_cons, List.all_map, List.all_cons, ← ih]
    rfl
theorem range_any (bs : List Bool) : (List.range bs.length).any (fun i => bs.getD i true) = bs.any id := by
  induction bs with
  | nil => rfl
  | cons b bs ih =>
    rw [List.length_cons, List.range_succ_eq_map, List.any_cons, List.any_map, List.any_cons, ← ih]
    rfl
theorem call_allA (hc : X.calm = true) : CallR X (.builtin "all") (fun xs H Q => ∃ (p : Addr) (bs : List Bool), xs = [.ref p] ∧ SqL X.K H p (bs.map V.bl) ∧ Q (.bl (bs.all id)) H) := by
  intro pins s σ H xs us Q I r h
  obtain ⟨p, bs, rfl, hq, q⟩ := h
  obtain ⟨u, rfl, ru⟩ := vals1 r
  cases ru
  obtain ⟨its, rv, pl, hz⟩ := I.list hq
  have e := vals_bools rv
  subst e
  have hh : X.A.in1.handled = none := I.ok.hd hc
  refine call_all_walk (wpAny_pyIter_list pl.isList ⟨s.heap.objs.size, [s.heap.objs.size, p], [s.heap.objs.size], _, _, _, fun i => bs.getD i true, rfl, Walks.list hh _ p ?_ _, ⟨⟨_, Heap.get?_push_size _ rfl, rfl, rfl⟩, pl.isList.push _⟩, ?_, fun h' tk hk => ?_⟩)
  · obtain ⟨o, n, e, _⟩ := pl
    exact Nat.ne_of_lt (Heap.lt_size e)
  · intro i v s' Q' E' hv hQ'
    have hv' : (bs.map Value.bool)[i]? = some v := by simpa using hv
    rw [List.getElem?_map] at hv'
    cases hb : bs[i]? with
    | none => rw [hb] at hv'; cases hv'
    | some b =>
      rw [hb] at hv'
      cases hv'
      have hQ2 : Q' (bs.getD i true) s' := hQ'
      rw [List.getD_eq_getElem?_getD, hb] at hQ2
      exact wpAny_truthy_bool hQ2
  · refine ⟨.bl (bs.all id), H, I.kept (h' := h') (t' := tk) fun b o e => hk b o ?_ (Heap.get?_push_of_some _ e), ?_, q⟩
    · intro z
      have z' : b = s.heap.objs.size := by simpa using z
      exact absurd (Heap.lt_size e) (by rw [z']; exact Nat.lt_irrefl _)
    · show Value.bool _ = Value.bool _
      rw [← range_all]
      simp
theorem pe_g {x : Str} {v : V} {pos : Pos} (h : ∃ u, X.mg x = some u ∧ RelV v u) (hg : Gl X x := by rfl) (hd : (x == ("__debug__" : Str)) = false := by decide) : PE X (.Name x pos) (tC v) :=
  let ⟨_, hm, r⟩ := h; pe_glob hg hm r hd
end
structure Def (P : Program) (w : World) (K : PySem.W.Frag) (mg : Str → Option Value) (base : Heap) (x : Str) (k : Nat) (ps : List Str) (sp : Sp) : Prop where
  ex : ∃ (f : Addr) (fd : FuncData), FnOk P w K mg base CX0 k f fd ps sp ∧ mg x = some (.ref f) ∧ PySem.W.keepIn K (.ref f) = true ∧ Binds K fd ps []
section
variable {X : Cx} {k : Nat} {ps : List Str} {sp : Sp} {x : Str} {p pos : Pos} {e : Expr} {es : List Expr} {t : TA}
theorem pe_def (d : Def X.prog X.w X.K X.mg X.base x k ps sp) (hr : Room k X.A) (hg : Gl X x) (ha : PA X (e :: es) t) (hdb : (x == ("__debug__" : Str)) = false := by decide)
    (he : starEach (e :: es) X.env = (false, eval e X.env) :: starEach es X.env := by rfl) (hpl : (backTo pos (starEach es X.env)).any (·.1) = false := by rfl) : PE X (.Call (.Name x p) (e :: es) [] pos) (tCall sp [] E0 t) :=
  let ⟨_, _, F, hm, hk, hb⟩ := d.ex; pe_call F hr hg hm hk hb .nil pass0 ha hdb he hpl
end
end L2
namespace L3
open PySem PySem.Spec PyProof.Rows
section
variable {prog : Program} {w : World} {A : Around} {E : Value → Shared → Prop} {s : Shared}
theorem nextTup_item {it t : Addr} {i : Nat} {its : Array Value} {x : Value} {Q : Value → Shared → Prop} (qi : s.heap.IsTupleIter it t i) (qt : s.heap.IsTuple t its) (qx : its[i]? = some x)
    (hQ : ∀ h', h'.IsTupleIter it t (i + 1) → Heap.SameBut it s.heap h' → Q x { s with heap := h' }) : wpAny (model prog w) A (Builtin.SmallTypes.nextOf (.ref it)) Q E s := by
  obtain ⟨oi, qo, qc, qd⟩ := id qi
  obtain ⟨ot, qot, _, nt, qdt⟩ := qt
  unfold Builtin.SmallTypes.nextOf
  refine wpAny_bind (wpAny_callSpecial?_slot (name := Str.ofString "__next__") qi.typeIs F.slot_tuple_iterator_next (wpAny_call_entry F.slot_tuple_iterator_next qi.typeIs F.entry_tuple_iterator_next ?_ (F.args_tuple_iterator_next_1 _)))
  show wpAny _ _ (field (.ref it) 0 >>= _) _ _ s
  refine wpAny_bind (wpAny_field qo qd (x := .ref t) rfl ?_)
  show wpAny _ _ (if (Value.ref t == Value.none) = true then _ else _) _ _ s; rw [if_neg (show ¬ ((Value.ref t == Value.none) = true) from Bool.false_ne_true)]
  show wpAny _ _ (field (.ref it) 1 >>= _) _ _ s
  refine wpAny_bind (wpAny_field qo qd (x := .int i 0) rfl ?_)
  show wpAny _ _ (seqItems? (.ref t) >>= _) _ _ s; refine wpAny_bind (wpAny_seqItems qot qdt ?_)
  simp only [Int.toNat_natCast, qx]
  refine wpAny_bind (wpAny_setField qo qd (by simp) (wpAny_pure ⟨x, rfl, wpAny_pure (hQ _ ?_ (Heap.SameBut.update ..))⟩))
  exact ⟨_, Heap.get?_update_self _ qo (Obj.isFreed_of_fields (Obj.data_mapFields qd _)), (Obj.cls_mapFields ..).trans qc, by rw [Obj.data_mapFields qd]; simp [rawInt]⟩
theorem nextTup_end {it t : Addr} {i : Nat} {its : Array Value} {Q : Value → Shared → Prop} (hh : A.handled = none) (qi : s.heap.IsTupleIter it t i) (qt : s.heap.IsTuple t its) (qx : its[i]? = none)
    (hE : ∀ h' e, Heap.ExtBut it s.heap h' → (∃ o, h'.get? e = some o ∧ o.cls = .type "StopIteration") → E (.ref e) { s with heap := h' }) : wpAny (model prog w) A (Builtin.SmallTypes.nextOf (.ref it)) Q E s := by
  obtain ⟨oi, qo, qc, qd⟩ := id qi
  obtain ⟨ot, qot, _, nt, qdt⟩ := qt
  unfold Builtin.SmallTypes.nextOf
  refine wpAny_bind (wpAny_callSpecial?_slot (name := Str.ofString "__next__") qi.typeIs F.slot_tuple_iterator_next (wpAny_call_entry F.slot_tuple_iterator_next qi.typeIs F.entry_tuple_iterator_next ?_ (F.args_tuple_iterator_next_1 _)))
  show wpAny _ _ (field (.ref it) 0 >>= _) _ _ s
  refine wpAny_bind (wpAny_field qo qd (x := .ref t) rfl ?_)
  show wpAny _ _ (if (Value.ref t == Value.none) = true then _ else _) _ _ s; rw [if_neg (show ¬ ((Value.ref t == Value.none) = true) from Bool.false_ne_true)]
  show wpAny _ _ (field (.ref it) 1 >>= _) _ _ s
  refine wpAny_bind (wpAny_field qo qd (x := .int i 0) rfl ?_)
  show wpAny _ _ (seqItems? (.ref t) >>= _) _ _ s; refine wpAny_bind (wpAny_seqItems qot qdt ?_)
  simp only [Int.toNat_natCast, qx]
  refine wpAny_bind (wpAny_rule (wpAny_bind (wpAny_setField qo qd (by simp) ?_)))
  show wpAny _ _ (newExc (.type "StopIteration") [] >>= _) _ _ _; refine wpAny_bind ?_; simp only [newExc, newTuple]
  refine wpAny_bind (wpAny_newObj_type ?_ (by size_fits)); refine wpAny_bind (m := firstArgMember _ _) (wpAny_of_eq (a := Value.none) (by first | rfl | (simp only [firstArgMember]; rfl)) ?_)
  refine wpAny_newObj_type ?_ (by size_fits); simp only [raiseNew]; refine wpAny_bind (wpAny_handled ?_)
  first | rw [show A.in1.handled = none from hh] | rw [hh]
  exact wpAny_bind (wpAny_pure (wpAny_throw (hE _ _ (((Heap.SameBut.update ..).extBut.push _).push _) ⟨_, Heap.get?_push_size _ rfl, rfl⟩)))
end
theorem draws_tuple {prog : Program} {w : World} {A : Around} (hh : A.handled = none) (it t : Addr) (hne : t ≠ it) (its : Array Value) :
    Draws prog w A it [it, t] its.size (fun i v => its[i]? = some v) (fun i h => h.IsTupleIter it t i ∧ h.IsTuple t its) where
  live := fun _ _ st => let ⟨o, ho, _⟩ := st.1; ⟨o, ho⟩
  frame := fun _ _ _ st hk => ⟨st.1.at fun o e => hk it (by simp) o e, let ⟨o, ho, r⟩ := st.2; ⟨o, hk t (by simp) o ho, r⟩⟩
  item := fun i s Q E hi st hQ => nextTup_item st.1 st.2 (x := its[i]) (by simp [hi]) fun h' qi qs => hQ _ h' s.toks (by simp [hi]) ⟨qi, st.2.extBut qs.extBut hne⟩ qs
  done := fun s Q E st hE => nextTup_end hh st.1 st.2 (by simp) hE
section
variable {prog : Program} {w : World} {A : Around} {E : Value → Shared → Prop} {s : Shared} {z TI TO i1 i2 : Addr} {f1 f2 : List Addr} {n1 n2 k : Nat} {P1 P2 : Nat → Value → Prop} {S1 S2 : Nat → Heap → Prop} {a b : Value}
theorem far {it c : Addr} {fp : List Addr} {n i : Nat} {P : Nat → Value → Prop} {St : Nat → Heap → Prop} {h h' : Heap} (D : Draws prog w A it fp n P St) (st : St i h) (sb : Heap.SameBut c h h') (hc : c ∉ fp) : St i h' :=
  D.frame i h h' st fun d hd o e => (sb.2 d fun q => hc (q ▸ hd)).trans e
end
def itRec (l : Bool) (a : Addr) : Obj := { cls := .type (if l then "list_iterator" else "tuple_iterator"), data := .fields #[.ref a, .int 0 0] }
def IsSeq (l : Bool) (h : Heap) (a : Addr) (xs : Array Value) : Prop := if l = true then h.IsList a xs else h.IsTuple a xs
theorem IsSeq.push {l : Bool} {h : Heap} {a : Addr} {xs : Array Value} (q : IsSeq l h a xs) (o : Obj) : IsSeq l (h.push o) a xs := by
  cases l
  · exact Heap.IsTuple.push (show h.IsTuple a xs from q) o
  · exact Heap.IsList.push (show h.IsList a xs from q) o
theorem iter_seq {prog : Program} {w : World} {A : Around} {E : Value → Shared → Prop} {s : Shared} {l : Bool} {a : Addr} {xs : Array Value} {Q : Value → Shared → Prop} (q : IsSeq l s.heap a xs) (h : Q (.ref s.heap.objs.size) { s with heap := s.heap.push (itRec l a) }) : wpAny (model prog w) A (pyIter (.ref a)) Q E s := by
  cases l
  · exact wpAny_pyIter_tuple (show s.heap.IsTuple a xs from q) h
  · exact wpAny_pyIter_list (show s.heap.IsList a xs from q) h
section
variable {prog : Program} {w : World} {A : Around} {E : Value → Shared → Prop} {s : Shared}
end
end L3
namespace L2
open PySem PySem.Spec PyProof.Rows
def SqB (K : PySem.W.Frag) (l : Bool) (H : Hp) (a : Addr) (xs : List V) : Prop := if l = true then SqL K H a xs else SqT K H a xs
def ItAt (l : Bool) (h : Heap) (it a : Addr) (i : Nat) : Prop := if l = true then h.IsListIter it a i else h.IsTupleIter it a i
theorem ItAt.at {l : Bool} {h h' : Heap} {it a : Addr} {i : Nat} (x : ItAt l h it a i) (e : ∀ o, h.get? it = some o → h'.get? it = some o) : ItAt l h' it a i := by
  cases l
  · exact Heap.IsTupleIter.at (show h.IsTupleIter it a i from x) e
  · exact Heap.IsListIter.at (show h.IsListIter it a i from x) e
theorem ItAt.rec {l : Bool} {h : Heap} {it a : Addr} (e : h.get? it = some (L3.itRec l a)) : ItAt l h it a 0 := by
  cases l
  · exact ⟨_, e, rfl, rfl⟩
  · exact ⟨_, e, rfl, rfl⟩
theorem ItAt.obj {l : Bool} {h : Heap} {it a : Addr} {i : Nat} (x : ItAt l h it a i) : ∃ o, h.get? it = some o ∧ ∀ v, o.data ≠ .cell v := by
  cases l
  · obtain ⟨o, e, _, d⟩ := (show h.IsTupleIter it a i from x)
    exact ⟨o, e, fun v z => by rw [d] at z; cases z⟩
  · obtain ⟨o, e, _, d⟩ := (show h.IsListIter it a i from x)
    exact ⟨o, e, fun v z => by rw [d] at z; cases z⟩
theorem draws_seq {P : Program} {w : World} {A : Around} (hh : A.handled = none) (l : Bool) (it a : Addr) (hne : a ≠ it) (its : Array Value) :
    Draws P w A it [it, a] its.size (fun i v => its[i]? = some v) (fun i h => ItAt l h it a i ∧ L3.IsSeq l h a its) := by
  cases l
  · exact L3.draws_tuple hh it a hne its
  · exact Draws.list hh it a hne its
theorem Inv.seqB {X : Cx} {pins : List (Addr × Obj)} {σ : St} {H : Hp} {s : Shared} {l : Bool} {a : Addr} {xs : List V} (I : Inv X pins σ H s) (h : SqB X.K l H a xs) : ∃ its : List Value, Vals xs its ∧ L3.IsSeq l s.heap a its.toArray ∧ xs.length ≤ sizeLine := by
  cases l
  · obtain ⟨its, r, p, z⟩ := I.tuple (show SqT X.K H a xs from h)
    exact ⟨its, r, p, z⟩
  · obtain ⟨its, r, p, z⟩ := I.list (show SqL X.K H a xs from h)
    exact ⟨its, r, p.isList, z⟩
theorem Inv.seqB_inj {X : Cx} {pins : List (Addr × Obj)} {σ : St} {H : Hp} {s : Shared} {l : Bool} {a : Addr} {xs ys : List V} (I : Inv X pins σ H s) (h : SqB X.K l H a xs) (h' : SqB X.K l H a ys) : xs = ys := by
  cases l
  · exact I.tuple_inj (show SqT X.K H a xs from h) h'
  · exact I.list_inj (show SqL X.K H a xs from h) h'
theorem Inv.seqB_ne {X : Cx} {pins : List (Addr × Obj)} {σ : St} {H : Hp} {s : Shared} {l : Bool} {a b : Addr} {xs : List V} (I : Inv X pins σ H s) (h : SqB X.K l H a xs) (f : FpOk X pins H b) : a ≠ b := by
  obtain ⟨f0, _, _, f3, _, _⟩ := f
  have tr : ∀ {o : HO}, Rd H a o → a ≠ b := fun {o} r => by
    rcases r with r | ⟨_, r⟩
    · exact ne_of_none r f0
    · exact ne_of_none r f0
  have kb : ∀ {o : Obj}, X.K.lookup a = some o → a ≠ b := fun {o} hk => by
    have hb := I.ok.mod.kin a o hk
    rcases f3 with z | z
    · exact fun q => I.ok.noex a o hb (q ▸ z)
    · exact Nat.ne_of_lt (Nat.lt_of_lt_of_le (Heap.lt_size hb) (Nat.le_trans I.ok.bsz z))
  cases l
  · rcases (show SqT X.K H a xs from h) with h | ⟨o, _, _, hk, _⟩
    · exact tr h
    · exact kb hk
  · rcases (show SqL X.K H a xs from h) with h | ⟨o, _, _, hk, _⟩
    · exact tr h
    · exact kb hk
def Itz (K : PySem.W.Frag) (l1 l2 : Bool) (a1 a2 : Addr) : It :=
  ⟨fun i H => ∃ xs ys x y, SqB K l1 H a1 xs ∧ SqB K l2 H a2 ys ∧ xs[i]? = some x ∧ ys[i]? = some y,
    fun i H v H' => ∃ p x y, v = .ref p ∧ H p = none ∧ H' = upd H p (.tup [x, y]) ∧ (∀ xs, SqB K l1 H a1 xs → xs[i]? = some x) ∧ ∀ ys, SqB K l2 H a2 ys → ys[i]? = some y,
    fun i H => ∃ xs ys, SqB K l1 H a1 xs ∧ SqB K l2 H a2 ys ∧ (i = xs.length ∨ (i < xs.length ∧ i = ys.length))⟩
def iZip (K : PySem.W.Frag) (ta : TA) : TI := fun σ H R => ta σ H fun vs H1 => ∃ l1 l2 a1 a2, vs = [.ref a1, .ref a2] ∧ (∃ xs, SqB K l1 H1 a1 xs) ∧ (∃ ys, SqB K l2 H1 a2 ys) ∧ R (Itz K l1 l2 a1 a2) H1
end L2
namespace L2
open PySem PySem.Spec PyProof.Rows
def Ite (K : PySem.W.Frag) (a : Addr) : It :=
  ⟨fun i H => ∃ xs x, SqL K H a xs ∧ xs[i]? = some x,
    fun i H v H' => ∃ p x, v = .ref p ∧ H p = none ∧ H' = upd H p (.tup [.int i, x]) ∧ ∀ xs, SqL K H a xs → xs[i]? = some x,
    fun i H => ∃ xs, SqL K H a xs ∧ i = xs.length⟩
def iEnum (K : PySem.W.Frag) (ta : TA) : TI := fun σ H R => ta σ H fun vs H1 => ∃ a, vs = [.ref a] ∧ (∃ xs, SqL K H1 a xs) ∧ R (Ite K a) H1
end L2
namespace L2
open PySem PySem.W PySem.Spec PySem.Calls PyProof.Rows
def GB : Nat := 1048576
theorem lt_of_weight : ∀ {ns : List Int}, WData.weightAll (ns.map WData.int) ≤ 2 ^ 20 → ∀ x ∈ ns, x.natAbs < 2 ^ GB
  | [], _, _, h => nomatch h
  | n :: ns, hw, x, h => by
    have e : WData.weightAll ((n :: ns).map WData.int) = (if n == 0 then 0 else n.natAbs.log2 + 1) + 1 + WData.weightAll (ns.map WData.int) := by
      simp only [List.map_cons, WData.weightAll, WData.weight]
    rw [e] at hw
    rcases List.mem_cons.mp h with rfl | h
    · by_cases h0 : x = 0
      · subst h0; exact Nat.two_pow_pos _
      · have hb : (x == 0) = false := by simpa using h0
        rw [hb] at hw
        have hl : x.natAbs.log2 < GB := by
          have : (2 : Nat) ^ 20 = GB := by decide
          rw [← this]
          simp only [Bool.false_eq_true, if_false] at hw
          omega
        exact (Nat.log2_lt (by omega)).mp hl
    · exact lt_of_weight (ns := ns) (by omega) x h
theorem script_lt {ns : List Int} (h : WData.layableAll [WData.list (ns.map WData.int)] = true) : ∀ x ∈ ns, x.natAbs < 2 ^ GB := by
  have h1 := (layableW_iff.mp (layableW_arg h _ List.mem_cons_self)).2.2
  exact lt_of_weight (by simpa only [WData.weight] using h1)
theorem walk_ofB {l : PySem.W.OpenLaw} {n k : Nat} {q : Program} {loose : List Str} {XP : (Str → Option Value) → Heap → Prop} {YP : World → Heap → Prop} {d : DefRec} {K : Params → PySem.W.Frag} {CX : World → CXT} {sp : World → Sp} {x : Str}
    (hn : l.most = some n) (hn2 : n ≤ sizeLine) (hdf : d.params.defaults = []) (hr : Room k callerA)
    (hY : ∀ (w : World) (h : Heap), YP w h → (K w.params).In h)
    (F : ∀ (w : World) (mg : Str → Option Value) (fa : Addr) (h : Heap), (K w.params).In h → h.Ns mainGlobals mg → mg d.name = some (.ref fa) →
      ∃ fd : FuncData, (∀ (s : Shared) (u : Value), BindsTo s fd ⟨[u], []⟩ [(x, u)]) ∧ ∀ base : Heap, (K w.params).In base → base.Ns mainGlobals mg → FnOk l.prog w (K w.params) mg base (CX w) k fa fd [x] (sp w))
    (hsp : ∀ (w : World) (H : Hp) (a : Addr) (ns : List Int), ns.length ≤ n → (∀ x ∈ ns, x.natAbs < 2 ^ GB) → Only H → SqL (K w.params) H a (ns.map V.int) → sp w [.ref a] H (fun v _ => v = .bl true) fun _ _ _ => False)
    (hCX : ∀ (w : World) (H : Hp) (s : Shared) (e : Value) (s' : Shared), CX w [] H s (fun _ _ _ => False) e s' → False) :
    PySem.W.WalkO q loose XP YP l.row.toRowW d [] (fun f vs => PySem.call f vs) := by
  intro w s₀ s₁ mg mb G Y fa o pm cd doc dV kV ho hd hcd hD hmg hg args vals as hpre hlay hrd hwl hlo
  obtain rfl : dV = .none := Dflts.none hD hdf
  obtain rfl : kV = .none := Dflts.noKw hD
  obtain ⟨a, vs, ns, rfl, rfl, hobj, hints, hlen⟩ := Att.script_of hn hpre hwl
  have KX := hY w _ Y
  obtain ⟨fd, hb, hF⟩ := F w mg fa _ KX G.T.g hmg
  refine enter_call (codeAny_mono (law_call KX G.T.g G.T.b G.T.builtins G.T.nolimit hg hobj hints (Nat.le_trans hlen hn2) hr hF hb (fun H hO hS => hsp w H a ns hlen (script_lt hlay) hO hS) fun H e s' => hCX w H s₁ e s') fun r s' hq => ?_)
  obtain ⟨rfl, h2, h3, h4⟩ := hq
  exact ⟨.inl ⟨.bool true, .bool true, [], rfl, fun _ => rfl, .bool true, Att.post_true l _, fun _ => ⟨List.Pairwise.nil, fun _ hm => (nomatch hm)⟩⟩, h2, h3, h4⟩
structure DefAt (K : PySem.W.Frag) (x : Str) (st : Stmt) (f : Addr) (fd : FuncData) : Prop where
  ns : PySem.W.nsIn K mainGlobals x = some (some (.ref f))
  fn : Fun K x x st f fd
theorem defAt_mk {K : PySem.W.Frag} {x : Str} {st : Stmt} {f : Addr} {oc : Value} {od an : Option Addr} {osl : Array (Option Value)} {kV doc pm cdv ct : Value} (a : PySem.W.nsIn K mainGlobals x = some (some (.ref f)))
    (l : K.lookup f = some ⟨oc, od, .func (PySem.W.fnOf x x (defArgs st) (defBody st) (defScope st) .none kV doc pm an cdv ct), osl⟩) (c : PySem.W.codeIn K cdv x = true) (k : PySem.W.keepIn K (.ref f) = true) : ∃ f fd, DefAt K x st f fd :=
  ⟨f, _, a, fun_mk l c k⟩
theorem DefAt.df {P : Program} {w : World} {K : PySem.W.Frag} {mg : Str → Option Value} {base h : Heap} {x : Str} {st : Stmt} {f : Addr} {fd : FuncData} {k : Nat} {ps : List Str} {sp : Sp} (A : DefAt K x st f fd) (X : K.In h) (G : h.Ns mainGlobals mg)
    (ok : FnOk P w K mg base CX0 k f fd ps sp) (b : Binds K fd ps []) : Def P w K mg base x k ps sp := ⟨f, fd, ok, PySem.W.mg_of X G A.ns, A.fn.kp, b⟩
end L2
namespace L2
open PySem PySem.Spec PyProof.Rows
def Loop (g : TG) (tb : TS) (D : Ends) (σ : St) (J : It) (H : Hp) : Prop := ∃ W : Nat → Nat → St → Hp → Prop, (∃ m, W 0 m σ H) ∧ ∀ i m σ H, W i m σ H →
  (J.stop i H ∧ D.nx σ H) ∨ (J.go i H ∧ ∃ N : St → Hp → Prop, (∀ σ' H', N σ' H' → ∃ m', m' < m ∧ W (i + 1) m' σ' H') ∧ ∀ x H', J.yld i H x H' → g x σ H' fun σ2 H2 => tb { D with nx := N, ct := N, bk := D.nx } σ2 H2)
theorem tFor_eq (wi : TI) (g : TG) (tb : TS) (D : Ends) (σ : St) (H : Hp) : tFor wi g tb D σ H = wi σ H (fun J H1 => Loop g tb D σ J H1) := rfl
def CLoop (n : Nat) (js : List Nat) (g : TG) (tt : TT) (te : TE) (σ : St) (F : List V → Hp → Prop) (J : It) (H : Hp) : Prop := CompW J n js g tt te σ H F
theorem tComp_eq (n : Nat) (js : List Nat) (wi : TI) (g : TG) (tt : TT) (te : TE) (σ : St) (H : Hp) (Q : VK) :
    tComp n js wi g tt te σ H Q = wi σ H (fun J H1 => CLoop n js g tt te σ (fun ys H2 => ∀ p, H2 p = none → Q (.ref p) (upd H2 p (.lst ys))) J H1) := rfl
section
variable {g : TG} {tb : TS} {D : Ends} {σ : St} {H : Hp} {K : PySem.W.Frag} {a : Addr} {xs : List V}
theorem loop_list (Pv : Nat → St → Hp → Prop) (h0 : Pv 0 σ H) (hl : ∀ i σ H, i ≤ xs.length → Pv i σ H → SqL K H a xs)
    (hs : ∀ i x σ H, xs[i]? = some x → Pv i σ H → g x σ H fun σ2 H2 => tb { D with nx := Pv (i + 1), ct := Pv (i + 1), bk := D.nx } σ2 H2) (hd : ∀ σ H, Pv xs.length σ H → D.nx σ H) : Loop g tb D σ (Itl K a) H := for_list Pv h0 hl hs hd
theorem loop_range {lo : Int} {n : Nat} (Pv : Nat → St → Hp → Prop) (h0 : Pv 0 σ H)
    (hs : ∀ i σ H, i < n → Pv i σ H → g (.int (lo + i)) σ H fun σ2 H2 => tb { D with nx := Pv (i + 1), ct := Pv (i + 1), bk := D.nx } σ2 H2) (hd : ∀ σ H, Pv n σ H → D.nx σ H) : Loop g tb D σ (Itr lo n) H := for_range Pv h0 hs hd
theorem loop_str {z : Str} (Pv : Nat → St → Hp → Prop) (h0 : Pv 0 σ H)
    (hs : ∀ i c σ H, z.cps.toList[i]? = some c → Pv i σ H → g (.str ⟨#[c]⟩) σ H fun σ2 H2 => tb { D with nx := Pv (i + 1), ct := Pv (i + 1), bk := D.nx } σ2 H2) (hd : ∀ σ H, Pv z.length σ H → D.nx σ H) : Loop g tb D σ (Its z) H := for_str Pv h0 hs hd
theorem loop_none (h : SqL K H a []) (hd : D.nx σ H) : Loop g tb D σ (Itl K a) H := ⟨fun i m σ' H' => i = 0 ∧ σ' = σ ∧ H' = H, ⟨0, rfl, rfl, rfl⟩, by
  rintro i m σ' H' ⟨rfl, rfl, rfl⟩
  exact .inl ⟨⟨[], h, Nat.le_refl _⟩, hd⟩⟩
end
section
variable {n : Nat} {js : List Nat} {g : TG} {tt : TT} {te : TE} {σ : St} {H : Hp} {F : List V → Hp → Prop} {K : PySem.W.Frag} {a : Addr} {xs : List V}
theorem cloop_range {lo : Int} {k : Nat} (Pv : Nat → List V → Hp → Prop) (hk : k ≤ sizeLine) (h0 : Pv 0 [] H) (hn : ∀ i ys H, Pv i ys H → ys.length ≤ i)
    (hs : ∀ i ys H, i < k → Pv i ys H → cTurn n js g tt te σ (.int (lo + i)) ys H (Pv (i + 1))) (hd : ∀ ys H, Pv k ys H → F ys H) : CLoop n js g tt te σ F (Itr lo k) H := comp_range Pv hk h0 hn hs hd
theorem cloop_list (Pv : Nat → List V → Hp → Prop) (hk : xs.length ≤ sizeLine) (h0 : Pv 0 [] H) (hn : ∀ i ys H, Pv i ys H → ys.length ≤ i) (hl : ∀ i ys H, Pv i ys H → SqL K H a xs)
    (hs : ∀ i x ys H, xs[i]? = some x → Pv i ys H → cTurn n js g tt te σ x ys H (Pv (i + 1))) (hd : ∀ ys H, Pv xs.length ys H → F ys H) : CLoop n js g tt te σ F (Itl K a) H := comp_list Pv hk h0 hn hl hs hd
theorem cloop_str {z : Str} (Pv : Nat → List V → Hp → Prop) (hk : z.length ≤ sizeLine) (h0 : Pv 0 [] H) (hn : ∀ i ys H, Pv i ys H → ys.length ≤ i)
    (hs : ∀ i c ys H, z.cps.toList[i]? = some c → Pv i ys H → cTurn n js g tt te σ (.str ⟨#[c]⟩) ys H (Pv (i + 1))) (hd : ∀ ys H, Pv z.length ys H → F ys H) : CLoop n js g tt te σ F (Its z) H := comp_str Pv hk h0 hn hs hd
end
theorem cxOf_K {CX : CXT} {P : Program} {w : World} {K : PySem.W.Frag} {mg : Str → Option Value} {base : Heap} {N : List Str} {qual : Str} {scope : Scope} {f : Addr} {cd : Value} {A : Around} {outer : List Env} {s : Shared} {H : Hp} {E : XK} : (cxOf CX P w K mg base N qual scope f cd A outer s H E).K = K := rfl
theorem cxC_K {X : Cx} {scope : Scope} {own : List Str} {js : List Nat} {C : Addr} {s : Shared} {H : Hp} {ex : List Addr} {pn : List (Addr × Obj)} {E : Value → Shared → Prop} : (cxC X scope own js C s H ex pn E).K = X.K := rfl
theorem cutV_one (xs : List V) {p : Int} (hp : 0 ≤ p) : cutV xs (some p) (some (p + 1)) = match xs[p.toNat]? with | none => [] | some x => [x] := by
  unfold cutV
  obtain ⟨k, rfl⟩ := Int.eq_ofNat_of_zero_le hp
  have e1 : ((k : Int) + 1) = ((k + 1 : Nat) : Int) := by omega
  rw [e1, HT.sIx_nat, HT.sIx_nat, Int.toNat_natCast]
  by_cases h : k < xs.length
  · rw [List.getElem?_eq_getElem h, Nat.min_eq_left (by omega), Nat.min_eq_left (by omega), List.drop_eq_getElem_cons h, show k + 1 - k = 1 by omega]
    rfl
  · rw [List.getElem?_eq_none (by omega), Nat.min_eq_right (by omega), Nat.min_eq_right (by omega), Nat.sub_self]
    rfl
theorem atI_in {α : Type} {xs : List α} {i : Int} (h0 : 0 ≤ i) (h1 : i < xs.length) : ∃ v, atI xs i = some v ∧ xs[i.toNat]? = some v := by
  obtain ⟨k, rfl⟩ := Int.eq_ofNat_of_zero_le h0
  have hk : k < xs.length := by omega
  exact ⟨xs[k], atI_nat (List.getElem?_eq_getElem hk), by simp [hk]⟩
theorem atI_mod {α : Type} {xs : List α} {c m : Int} (hm : 0 < m) (h : m ≤ xs.length) : ∃ v, atI xs (c % m) = some v := by
  have h1 := Int.emod_nonneg c (show m ≠ 0 by omega)
  have h2 := Int.emod_lt_of_pos c hm
  obtain ⟨v, e, _⟩ := atI_in (xs := xs) h1 (by omega)
  exact ⟨v, e⟩
theorem same_upd {H : Hp} {q : Addr} {o : HO} (h : H q = none) : Same H (upd H q o) := fun b o' e => by rw [upd_ne (ne_of_none e h)]; exact e
theorem Same.upd {H H1 : Hp} {q : Addr} {o : HO} (s : Same H H1) (h : H1 q = none) : Same H (upd H1 q o) := s.trans (same_upd h)
end L2
namespace L2
open PySem PySem.Spec PyProof.Rows
theorem str_len (z : Str) : z.length = z.cps.toList.length := by simp [Str.length]
theorem slice_from {z : Str} {i : Int} (h : 0 ≤ i) : (Txt.slice z (some i) none).cps.toList = z.cps.toList.drop i.toNat := by
  by_cases hi : i ≤ z.cps.toList.length
  · rw [show Txt.slice z (some i) none = StrLaws.sliceText z (some i) none from rfl, StrLaws.sliceText_from ⟨h, hi⟩]
    show ((z.cps.toList.drop i.toNat).take _) = _
    skip
    exact List.take_of_length_le (by rw [List.length_drop]; omega)
  · have e : Builtin.Str.strSliceIndices (some i) none 1 z.length = Builtin.Str.strSliceIndices (some (z.length : Int)) none 1 z.length := sliceIdx_lo_beyond z.length (by rw [str_len]; omega)
    have e2 : Txt.slice z (some i) none = Txt.slice z (some (z.length : Int)) none := by unfold Txt.slice; rw [e]
    rw [e2, show Txt.slice z (some (z.length : Int)) none = StrLaws.sliceText z (some (z.length : Int)) none from rfl, StrLaws.sliceText_from ⟨by omega, by rw [str_len]; omega⟩]
    show ((z.cps.toList.drop _).take _) = _
    rw [str_len, Int.toNat_natCast, List.drop_length, List.take_nil, List.drop_eq_nil_of_le (by omega)]
theorem slice_to {z : Str} {i : Int} (h : 0 ≤ i) : (Txt.slice z none (some i)).cps.toList = z.cps.toList.take i.toNat := by
  by_cases hi : i ≤ z.cps.toList.length
  · rw [show Txt.slice z none (some i) = StrLaws.sliceText z none (some i) from rfl, StrLaws.sliceText_to ⟨h, hi⟩]
    show ((z.cps.toList.drop 0).take _) = _
    rw [List.drop_zero]
    rw [Int.sub_zero]
  · have e : Builtin.Str.strSliceIndices none (some i) 1 z.length = Builtin.Str.strSliceIndices none (some (z.length : Int)) 1 z.length := sliceIdx_hi_beyond z.length (by rw [str_len]; omega)
    have e2 : Txt.slice z none (some i) = Txt.slice z none (some (z.length : Int)) := by unfold Txt.slice; rw [e]
    rw [e2, show Txt.slice z none (some (z.length : Int)) = StrLaws.sliceText z none (some (z.length : Int)) from rfl, StrLaws.sliceText_to ⟨by omega, by rw [str_len]; omega⟩]
    show ((z.cps.toList.drop 0).take _) = _
    rw [str_len, List.drop_zero, List.take_of_length_le (by omega), List.take_of_length_le (by omega)]
theorem starts_one (z : Str) (c : Nat) : Txt.startswith z ⟨#[c]⟩ = decide (z.cps.toList.head? = some c) := by
  obtain ⟨⟨l⟩⟩ := z
  unfold Txt.startswith
  rw [StrLaws.subAt_eq]
  cases l with
  | nil => simp [Str.length]
  | cons a l =>
    simp [Str.length]
    rw [Bool.eq_iff_iff]
    simp
theorem str_eq_codes (x y : Str) : decide (x = y) = decide (x.cps.toList = y.cps.toList) := by
  by_cases h : x = y
  · subst h; simp
  · rw [decide_eq_false h]
    symm
    apply decide_eq_false
    intro e
    apply h
    obtain ⟨⟨a⟩⟩ := x
    obtain ⟨⟨b⟩⟩ := y
    simp at e
    subst e
    rfl
theorem atI_all {α : Type} {xs : List α} {i : Int} {v : α} {P : α → Prop} (h : ∀ x ∈ xs, P x) (e : atI xs i = some v) : P v := by
  unfold atI at e
  cases hj : ixN xs.length i with
  | none => rw [hj] at e; cases e
  | some j => rw [hj] at e; exact h v (List.mem_of_getElem? e)
theorem atI_zero {α : Type} {xs : List α} {v : α} (h : xs.head? = some v) : atI xs 0 = some v := by
  cases xs with
  | nil => cases h
  | cons a l => cases h; exact atI_nat (j := 0) rfl
section
variable {X : Cx}
end
end L2
namespace L2
open PySem PySem.Spec PyProof.Rows
section
variable {X : Cx}
theorem opAddK (K : PySem.W.Frag) (h : X.K = K := by rfl) : OpR X (binaryOp .Add) (rAddA K) := h ▸ opAdd
theorem opInK (K : PySem.W.Frag) (h : X.K = K := by rfl) : OpR X (compareOp .In) (rInA K) := h ▸ opIn
theorem opNotInK (K : PySem.W.Frag) (h : X.K = K := by rfl) : OpR X (compareOp .NotIn) (rNotInA K) := h ▸ opNotIn
theorem slAK (K : PySem.W.Frag) (h : X.K = K := by rfl) : SlR X (rSlA K) := h ▸ slA
theorem ixAK (K : PySem.W.Frag) (h : X.K = K := by rfl) : IxR X (rIx K) := h ▸ ixA
theorem pi_anyK (K : PySem.W.Frag) {tg l : Expr} {tl : TE} (hl : PE X l tl) (h : X.K = K := by rfl) : PI X tg l (iBy (rIt K) tl) := h ▸ pi_any hl
theorem call_lenK (K : PySem.W.Frag) (h : X.K = K := by rfl) : CallR X (.builtin "len") (fun xs H Q => (∃ z, xs = [.str z] ∧ z.length ≤ sizeLine ∧ Q (.int z.length) H) ∨ ∃ p ys, xs = [.ref p] ∧ (SqL K H p ys ∨ SqT K H p ys) ∧ Q (.int ys.length) H) := h ▸ call_lenA
theorem call_isinstK (K : PySem.W.Frag) (h : X.K = K := by rfl) : CallR X (.builtin "isinstance") (fun xs H Q => ∃ x n t b, xs = [x, .ty n] ∧ TyOf K H x t ∧ PySem.W.kitOne K t (.type n) = some b ∧ Q (.bl b) H) := h ▸ call_isinst
theorem call_allK (K : PySem.W.Frag) (hc : X.calm = true) (h : X.K = K := by rfl) : CallR X (.builtin "all") (fun xs H Q => ∃ (p : Addr) (bs : List Bool), xs = [.ref p] ∧ SqL K H p (bs.map V.bl) ∧ Q (.bl (bs.all id)) H) := h ▸ call_allA hc
theorem call_tupleK (K : PySem.W.Frag) (h : X.K = K := by rfl) : CallR X (.type "tuple") (fun xs H Q => ∃ p ys, xs = [.ref p] ∧ ((SqL K H p ys ∧ ∀ l, H l = none → Q (.ref l) (upd H l (.tup ys))) ∨ (SqT K H p ys ∧ Q (.ref p) H))) := h ▸ call_tuple_of
theorem pg_tupK (K : PySem.W.Frag) {es : List Expr} {k : Nat} {t : TGs} {n : Nat} {pos : Pos} (hc : X.calm = true) (h : PGs X es t) (hK : X.K = K := by rfl)
    (hn : (assignEach es X.env).length = n := by rfl) (hst : (assignEach es X.env).findIdx? (·.1) = none := by rfl) : PG X (.Tuple es k pos) (gTup K n t) := hK ▸ pg_tup hc h hn hst
theorem pe_bmK (K : PySem.W.Frag) {o e : Expr} {es : List Expr} {to : TE} {t : TA} {name : Str} {apos cpos : Pos} {T id : String} {r : V → List V → Hp → VK → Prop} (pa : PlainAttrs T) (slot : Slot T name id) (hty : typeOf (.builtin id) = pure (.type "method_descriptor")) (hm : MtR X id r) (ho : PE X o to) (ha : PA X (e :: es) t) (hK : X.K = K := by rfl)
    (hbase : attributeBase o name X.env (eval o X.env) = eval o X.env := by rfl)
    (hfew : ((backTo cpos (starEach (e :: es) X.env)).all (fun x => !x.1) && (backToKw cpos (keywordEach [] X.env)).all (fun x => x.1.isSome)
      && decide ((e :: es).length + ([] : List Keyword).length + (if ([] : List Keyword).isEmpty then 0 else 1) < 30)) = true := by rfl)
    (hline : (apos.endLine == cpos.line) = true := by rfl) (hs : starEach (e :: es) X.env = (false, eval e X.env) :: starEach es X.env := by rfl) (hplain : (backTo cpos (starEach es X.env)).any (·.1) = false := by rfl) :
    PE X (.Call (.Attribute o name apos) (e :: es) [] cpos) (tBM K T r to t) := hK ▸ pe_bm pa slot hty hm ho ha hbase hfew hline hs hplain
def cV : Expr → Option V
  | .Constant (.int i) _ _ => some (.int i)
  | .Constant (.str x) _ _ => some (.str x)
  | .Constant (.bool b) _ _ => some (.bl b)
  | .Constant .none _ _ => some .non
  | _ => none
def tVs (vs : List V) : TA := fun _ H Q => Q vs H
theorem pe_cV {e : Expr} {v : V} (h : cV e = some v) : PE X e (tC v) := by
  unfold cV at h
  split at h
  · cases h; exact pe_int
  · cases h; exact pe_str
  · cases h; exact pe_bl
  · cases h; exact pe_non
  · cases h
theorem star_cV {e : Expr} {es : List Expr} {v : V} (h : cV e = some v) : starEach (e :: es) X.env = (false, eval e X.env) :: starEach es X.env := by
  unfold cV at h
  split at h <;> first | rfl | cases h
theorem pa_consts : ∀ {es : List Expr} {vs : List V}, es.map cV = vs.map some → PA X es (tVs vs)
  | [], [], _ => pa_nil
  | [], _ :: _, h => by cases h
  | _ :: _, [], h => by cases h
  | e :: es, v :: vs, h => by
    have h1 : cV e = some v := (List.cons.inj h).1
    have h2 : es.map cV = vs.map some := (List.cons.inj h).2
    exact pa_cons (pe_cV h1) (pa_consts h2) (star_cV h1)
end
def rdO : Option V → (V → Prop) → Prop
  | some v, k => k v
  | none, _ => False
def rdV : St → Nat → (V → Prop) → Prop
  | [], _, _ => False
  | o :: _, 0, k => rdO o k
  | _ :: σ, i + 1, k => rdV σ i k
theorem rdV_z {v : V} {σ : St} {k : V → Prop} : rdV (some v :: σ) 0 k = k v := rfl
theorem rdV_s {o : Option V} {σ : St} {i : Nat} {k : V → Prop} : rdV (o :: σ) (i + 1) k = rdV σ i k := rfl
theorem rdV_iff {k : V → Prop} : ∀ {σ : St} {i : Nat}, rdV σ i k ↔ ∃ v, σ[i]? = some (some v) ∧ k v
  | [], i => by simp [rdV]
  | some v :: σ, 0 => by simp [rdV, rdO]
  | none :: σ, 0 => by simp [rdV, rdO]
  | o :: σ, i + 1 => by rw [rdV_s, rdV_iff]; simp
def tRd (i : Nat) : TE := fun σ H Q => rdV σ i fun v => Q v H
theorem tRd_eq (i : Nat) : tRd i = tVar i := by
  funext σ H Q
  exact propext rdV_iff
def asI : V → (Int → Prop) → Prop
  | .int i, k => k i
  | _, _ => False
theorem asI_int {i : Int} {k : Int → Prop} : asI (.int i) k = k i := rfl
theorem asI_iff {v : V} {k : Int → Prop} : asI v k ↔ ∃ i, v = .int i ∧ k i := by cases v <;> simp [asI]
def asB : V → (Bool → Prop) → Prop
  | .bl i, k => k i
  | _, _ => False
theorem asB_bl {i : Bool} {k : Bool → Prop} : asB (.bl i) k = k i := rfl
theorem asB_iff {v : V} {k : Bool → Prop} : asB v k ↔ ∃ i, v = .bl i ∧ k i := by cases v <;> simp [asB]
def jI0 (g : Int → Int → V) : R2 := fun x y H Q => asI x fun i => asI y fun j => Q (g i j) H
def jI (C : Int → Int → Prop) (g : Int → Int → V) : R2 := fun x y H Q => asI x fun i => asI y fun j => C i j ∧ Q (g i j) H
def jU (g : Int → V) : V → Hp → VK → Prop := fun x H Q => asI x fun i => Q (g i) H
def jTest (t : TE) : TT := fun σ H Q => t σ H fun x H1 => asB x fun k => Q k H1
def jPart (t : TE) : TO := fun σ H Q => t σ H fun x H1 => asI x fun i => Q (some i) H1
def jAug (i : Nat) (te : TE) (ti : TIp) : TS := fun D σ H => rdV σ i fun x => te σ H fun y H1 => ti x y H1 fun z H2 => D.nx (σ.set i (some z)) H2
def jAndV (ta tb : TE) : TE := fun σ H Q => ta σ H fun x H1 => asB x fun c => if c = true then tb σ H1 Q else Q (.bl false) H1
def jOrV (ta tb : TE) : TE := fun σ H Q => ta σ H fun x H1 => asB x fun c => if c = true then Q (.bl true) H1 else tb σ H1 Q
def jNotV (ta : TE) : TE := fun σ H Q => ta σ H fun x H1 => asB x fun c => Q (.bl (!c)) H1
theorem jAndV_eq (ta tb : TE) : jAndV ta tb = tAndV ta tb := by
  funext σ H Q
  unfold jAndV tAndV
  simp only [asB_iff]
theorem jOrV_eq (ta tb : TE) : jOrV ta tb = tOrV ta tb := by
  funext σ H Q
  unfold jOrV tOrV
  simp only [asB_iff]
theorem jNotV_eq (ta : TE) : jNotV ta = tNotV ta := by
  funext σ H Q
  unfold jNotV tNotV
  simp only [asB_iff]
theorem jI0_eq (g : Int → Int → V) : jI0 g = rI0 g := by
  funext x y H Q
  unfold jI0 rI0
  simp only [asI_iff, exists_and_left]
theorem jI_eq (C : Int → Int → Prop) (g : Int → Int → V) : jI C g = rI C g := by
  funext x y H Q
  unfold jI rI
  simp only [asI_iff, exists_and_left]
theorem jU_eq (g : Int → V) : jU g = rU g := by
  funext x H Q
  unfold jU rU
  simp only [asI_iff]
theorem jTest_eq (t : TE) : jTest t = tTest t := by
  funext σ H Q
  unfold jTest tTest
  simp only [asB_iff]
theorem jPart_eq (t : TE) : jPart t = tPart t := by
  funext σ H Q
  unfold jPart tPart
  simp only [asI_iff]
def jEq (r : R2) : R2
  | .int i, .int j, H, Q => Q (.bl (decide (i = j))) H
  | .str i, .str j, H, Q => Q (.bl (decide (i = j))) H
  | x, y, H, Q => r x y H Q
def jNe (r : R2) : R2
  | .int i, .int j, H, Q => Q (.bl (!decide (i = j))) H
  | .str i, .str j, H, Q => Q (.bl (!decide (i = j))) H
  | x, y, H, Q => r x y H Q
def jAdd (r : R2) : R2
  | .int i, .int j, H, Q => Q (.int (i + j)) H
  | x, y, H, Q => r x y H Q
def jMul (r : R2) : R2
  | .int i, .int j, H, Q => IntMulOk i j ∧ Q (.int (i * j)) H
  | x, y, H, Q => r x y H Q
theorem jEq_ii {r : R2} {i j : Int} {H : Hp} {Q : VK} : jEq r (.int i) (.int j) H Q = Q (.bl (decide (i = j))) H := rfl
theorem jEq_ss {r : R2} {i j : Str} {H : Hp} {Q : VK} : jEq r (.str i) (.str j) H Q = Q (.bl (decide (i = j))) H := rfl
theorem jNe_ii {r : R2} {i j : Int} {H : Hp} {Q : VK} : jNe r (.int i) (.int j) H Q = Q (.bl (!decide (i = j))) H := rfl
theorem jNe_ss {r : R2} {i j : Str} {H : Hp} {Q : VK} : jNe r (.str i) (.str j) H Q = Q (.bl (!decide (i = j))) H := rfl
theorem jAdd_ii {r : R2} {i j : Int} {H : Hp} {Q : VK} : jAdd r (.int i) (.int j) H Q = Q (.int (i + j)) H := rfl
theorem jMul_ii {r : R2} {i j : Int} {H : Hp} {Q : VK} : jMul r (.int i) (.int j) H Q = (IntMulOk i j ∧ Q (.int (i * j)) H) := rfl
theorem jEq_of {r : R2} (h1 : ∀ i j H Q, r (.int i) (.int j) H Q ↔ Q (.bl (decide (i = j))) H) (h2 : ∀ i j H Q, r (.str i) (.str j) H Q ↔ Q (.bl (decide (i = j))) H) : jEq r = r := by
  funext x y H Q
  unfold jEq
  split
  · exact propext (h1 _ _ _ _).symm
  · exact propext (h2 _ _ _ _).symm
  · rfl
theorem jNe_of {r : R2} (h1 : ∀ i j H Q, r (.int i) (.int j) H Q ↔ Q (.bl (!decide (i = j))) H) (h2 : ∀ i j H Q, r (.str i) (.str j) H Q ↔ Q (.bl (!decide (i = j))) H) : jNe r = r := by
  funext x y H Q
  unfold jNe
  split
  · exact propext (h1 _ _ _ _).symm
  · exact propext (h2 _ _ _ _).symm
  · rfl
theorem jAdd_of {r : R2} (h1 : ∀ i j H Q, r (.int i) (.int j) H Q ↔ Q (.int (i + j)) H) : jAdd r = r := by
  funext x y H Q
  unfold jAdd
  split
  · exact propext (h1 _ _ _ _).symm
  · rfl
theorem jMul_of {r : R2} (h1 : ∀ i j H Q, r (.int i) (.int j) H Q ↔ IntMulOk i j ∧ Q (.int (i * j)) H) : jMul r = r := by
  funext x y H Q
  unfold jMul
  split
  · exact propext (h1 _ _ _ _).symm
  · rfl
theorem jEq_r : jEq rEq = rEq := jEq_of (fun _ _ _ _ => rEq_ii) (fun _ _ _ _ => rEq_ss)
theorem jNe_r : jNe rNe = rNe := jNe_of (fun _ _ _ _ => rNe_ii) (fun _ _ _ _ => rNe_ss)
theorem jAdd_A (K : PySem.W.Frag) : jAdd (rAddA K) = rAddA K := jAdd_of fun _ _ _ _ => rAddA_ii
theorem jEq_x {x y : V} {H : Hp} {Q : VK} : jEq rEq x y H Q ↔ rEq x y H Q := by rw [jEq_r]
theorem jNe_x {x y : V} {H : Hp} {Q : VK} : jNe rNe x y H Q ↔ rNe x y H Q := by rw [jNe_r]
theorem jAddA_x {K : PySem.W.Frag} {x y : V} {H : Hp} {Q : VK} : jAdd (rAddA K) x y H Q ↔ rAddA K x y H Q := by rw [jAdd_A]
section
variable {X : Cx}
theorem pr (i : Nat) {x : Str} {pos : Pos} (hN : X.N[i]? = some x := by rfl) (hv : Vis X.env.scope x := by first | exact Or.inl rfl | exact Or.inr (Or.inl rfl) | exact Or.inr (Or.inr rfl)) (hd : (x == ("__debug__" : Str)) = false := by decide)
    (hcd : (x == ("__classdict__" : Str)) = false := by decide) : PE X (.Name x pos) (tRd i) := by
  rw [tRd_eq]
  exact pe_var hN hv hd hcd
theorem o0 {f : Value → Value → Sem Value} {g : Int → Int → V} (h : OpR X f (rI0 g)) : OpR X f (jI0 g) := by rw [jI0_eq]; exact h
theorem o1 {f : Value → Value → Sem Value} {C : Int → Int → Prop} {g : Int → Int → V} (h : OpR X f (rI C g)) : OpR X f (jI C g) := by rw [jI_eq]; exact h
theorem u1 {f : Value → Sem Value} {g : Int → V} (h : UnR X f (rU g)) : UnR X f (jU g) := by rw [jU_eq]; exact h
theorem oEq : OpR X (compareOp .Eq) (jEq rEq) := by rw [jEq_r]; exact opEq
theorem oNe : OpR X (compareOp .NotEq) (jNe rNe) := by rw [jNe_r]; exact opNe
theorem oAdd (K : PySem.W.Frag) (h : X.K = K := by rfl) : OpR X (binaryOp .Add) (jAdd (rAddA K)) := by rw [jAdd_A]; exact opAddK K h
theorem pt_j {e : Expr} {t : TE} (h : PT X e (tTest t)) : PT X e (jTest t) := by rw [jTest_eq]; exact h
theorem pe_ja {e : Expr} {ta tb : TE} (h : PE X e (tAndV ta tb)) : PE X e (jAndV ta tb) := by rw [jAndV_eq]; exact h
theorem pe_jo {e : Expr} {ta tb : TE} (h : PE X e (tOrV ta tb)) : PE X e (jOrV ta tb) := by rw [jOrV_eq]; exact h
theorem pe_jn {e : Expr} {ta : TE} (h : PE X e (tNotV ta)) : PE X e (jNotV ta) := by rw [jNotV_eq]; exact h
theorem po_j {e : Expr} {t : TE} (h : PE X e t) : PO X (some e) (jPart t) := by rw [jPart_eq]; exact po_some h
end
theorem itN {p : Prop} [d : Decidable p] {A B : Prop} : (if (!decide p) = true then A else B) = (if p then B else A) := by
  by_cases h : p <;> simp [h]
theorem itD {p : Prop} [d : Decidable p] {A B : Prop} : (if decide p = true then A else B) = (if p then A else B) := by
  by_cases h : p <;> simp [h]
theorem cut2 {t u : TS} {D : Ends} {σ : St} {H : Hp} (C : St → Hp → Prop) (h2 : ∀ σ H, C σ H → u D σ H) (h1 : ∀ u' : TS, (∀ σ H, C σ H → u' D σ H) → tSeq t u' D σ H) : tSeq t u D σ H := h1 u h2
theorem Def.up {P : Program} {w : World} {K : PySem.W.Frag} {mg : Str → Option Value} {base : Heap} {x : Str} {j k : Nat} {ps : List Str} {sp : Sp} (d : Def P w K mg base x j ps sp) (h : j ≤ k) : Def P w K mg base x k ps sp :=
  let ⟨f, fd, F, r⟩ := d.ex; ⟨f, fd, F.mono h, r⟩
theorem const_mk {K : PySem.W.Frag} {x : Str} {v : V} {u : Value} (e : PySem.W.nsIn K mainGlobals x = some (some u)) (r : RelV v u) : ∃ u, PySem.W.nsIn K mainGlobals x = some (some u) ∧ RelV v u := ⟨u, e, r⟩
theorem TruV_b {K : PySem.W.Frag} {b k : Bool} {H : Hp} : TruV K (.bl b) H k ↔ k = b := Iff.rfl
theorem tyV_s {K : PySem.W.Frag} {z : Str} {H : Hp} : tyV K "str" (.str z) H ↔ True := ⟨fun _ => trivial, fun _ => rfl⟩
theorem str_iff {x y : Str} : x = y ↔ x.cps.toList = y.cps.toList := by
  constructor
  · intro e; rw [e]
  · intro e
    obtain ⟨⟨a⟩⟩ := x
    obtain ⟨⟨b⟩⟩ := y
    simp at e
    subst e
    rfl
end L2
namespace L2
open PySem PySem.Spec PyProof.Rows
open AutoSeq1 (wpAny_loadPart')
theorem noFill_tuple_mul : fillsNumberSlot (.type "tuple") "mul" = pure false :=
  PySem.fillsNumberSlot_seq (id := "tuple.__mul__") (r := some (.builtin "tuple.__rmul__")) F.slot_tuple_mul.lookup (by decide +kernel) F.slot_tuple_rmul.lookup (by decide +kernel)
theorem repeat_tuple : seqRepeat? (.type "tuple") = pure (some (.builtin "tuple.__mul__")) := by
  unfold seqRepeat?
  rw [PySem.seqSlot_of (T := "tuple") (name := "__mul__") (id := "tuple.__mul__") F.slot_tuple_mul.lookup (by decide +kernel), PySem.seqSlot_of (T := "tuple") (name := "__rmul__") (id := "tuple.__rmul__") F.slot_tuple_rmul.lookup (by decide +kernel)]
  rfl
theorem int_rmul_tuple (a : Int) (t : Tok) (l : Addr) (items : Array Value) (n : Nat) (dd : Option Addr) (sl : Array (Option Value)) :
    Meets (Builtin.«int.__rmul__» ⟨[.int a t, .ref l], []⟩) (fun _ R s => s.heap.get? l = some { cls := .type "tuple", dict := dd, data := .seq items n, slots := sl } ∧ R (.ok (.ret Value.notImplemented)) s) :=
  .of_wp fun prog w A R s h => by obtain ⟨hp, g, d, tk, os⟩ := s; obtain ⟨hl, h⟩ := h; wp_walk; exact ⟨_, rfl, h⟩
theorem tuple_mul1 (l : Addr) (items : Array Value) (n : Nat) (dd : Option Addr) (sl : Array (Option Value)) (u : Tok) :
    Meets (Builtin.«tuple.__mul__» ⟨[.ref l, .int 1 u], []⟩) (fun _ R s => s.heap.get? l = some { cls := .type "tuple", dict := dd, data := .seq items n, slots := sl } ∧ R (.ok (.ret (Value.ref l))) s) :=
  .of_wp fun prog w A R s h => by
    obtain ⟨hp, g, d, tk, os⟩ := s; obtain ⟨hl, h⟩ := h
    have hT : Shared.TypeIs ⟨hp, g, d, tk, os⟩ (.ref l) "tuple" := ⟨_, hl, rfl⟩
    wp_walk using wpAny_loadPart' hl, wpAny_typeOf hT
    exact ⟨_, rfl, h⟩
theorem foldA_size {α : Type} (xs : Array α) : ∀ (n : Nat) (acc : Array α), ((List.replicate n xs).foldl (· ++ ·) acc).size = acc.size + n * xs.size
  | 0, acc => by simp
  | n + 1, acc => by
    rw [List.replicate_succ, List.foldl_cons, foldA_size xs n, Array.size_append, Nat.succ_mul]
    omega
theorem tuple_mul2 (l : Addr) (items : Array Value) (n : Nat) (dd : Option Addr) (sl : Array (Option Value)) (x : Int) (u : Tok) (h1 : 1 < x) (h2 : x < 1000000) (h0 : items.isEmpty = false) (hz : items.size * x.toNat ≤ sizeLine) :
    Meets (Builtin.«tuple.__mul__» ⟨[.ref l, .int x u], []⟩) (fun _ R s => s.heap.get? l = some { cls := .type "tuple", dict := dd, data := .seq items n, slots := sl } ∧ R (.ok (.ret (Value.ref s.heap.objs.size))) { s with heap := s.heap.push { cls := Value.type "tuple", data := Data.seq ((List.replicate x.toNat items).foldl (· ++ ·) #[]) } }) :=
  .of_wp fun prog w A R s h => by
    obtain ⟨hp, g, d, tk, os⟩ := s; obtain ⟨hl, h⟩ := h
    have hT : Shared.TypeIs ⟨hp, g, d, tk, os⟩ (.ref l) "tuple" := ⟨_, hl, rfl⟩
    wp_walk using wpAny_loadPart' hl, wpAny_typeOf hT
    refine wpAny_ite_false (by rw [decide_eq_false (show ¬ x < -2 ^ 63 by omega), decide_eq_false (show ¬ x ≥ 2 ^ 63 by omega)]; rfl) ?_
    wp_walk using wpAny_loadPart' hl, wpAny_typeOf hT
    refine wpAny_ite_false (by rw [h0]; simp; omega) ?_
    refine wpAny_ite_false (by rw [h0]; simp; omega) ?_
    have e : (items.size : Int) * x = ((items.size * x.toNat : Nat) : Int) := by rw [Int.natCast_mul, Int.toNat_of_nonneg (by omega)]
    have hs : sizeLine = 16777216 := sizeLine_eq
    refine wpAny_ite_false (decide_eq_false (by rw [e]; omega)) ?_
    have hm : ¬ ((items.size : Int) * x > (sizeLine : Int)) := by rw [e]; exact_mod_cast Nat.not_lt.mpr hz
    refine wpAny_ite_false (by unfold Builtin.Tuple.tupleTooMany; exact decide_eq_false (fun z => hm (of_decide_eq_true z))) ?_
    have hf : (List.foldl (fun x1 x2 => x1 ++ x2) #[] (List.replicate x.toNat items)).size ≤ sizeLine := by
      rw [foldA_size, Array.size_empty, Nat.zero_add, Nat.mul_comm]; exact hz
    wp_walk using wpAny_loadPart' hl, wpAny_typeOf hT
    refine wpAny_ite_false (decide_eq_false (Nat.not_lt.mpr hf)) ?_
    wp_walk
    exact ⟨_, rfl, h⟩
def rRepT (K : PySem.W.Frag) : R2 := fun x y H Q => ∃ l k xs, x = .ref l ∧ y = .int k ∧ SqT K H l xs ∧ 1 ≤ k ∧ k < 1000000 ∧ xs ≠ [] ∧ xs.length * k.toNat ≤ sizeLine ∧
  (k = 1 → Q (.ref l) H) ∧ ∀ p, H p = none → Q (.ref p) (upd H p (.tup (List.replicate k.toNat xs).flatten))
section
variable {X : Cx}
theorem op_repT : OpR X (binaryOp .Mult) (rRepT X.K) := by
  intro pins s σ H x y v u Q I rx ry h
  obtain ⟨l, k, xs, rfl, rfl, hH, h1, h2, hx, hz, q1, q⟩ := h
  cases rx
  obtain ⟨t, rfl⟩ := ry
  obtain ⟨its, r, p, hl⟩ := I.tuple hH
  obtain ⟨⟨cls, dd, data, sl⟩, ho, hc, n, hd⟩ := id p
  simp only at hc hd
  subst hc hd
  have hlen : its.toArray.size * k.toNat ≤ sizeLine := by rw [List.size_toArray, ← r.length]; exact hz
  refine wpAny_binaryOp_repeat_ref (T := "tuple") (U := "int") (by decide) ⟨_, ho, rfl⟩ (fun s' => typeIs_int s' k t) noFill_tuple_mul F.fills_int_mul F.slot_int_rmul repeat_tuple F.slot_int_index.lookup
    (call_meets F.slot_int_rmul (typeIs_int s k t) F.entry_int_rmul (F.args_int_rmul_2 _ _) (int_rmul_tuple k t l its.toArray n dd sl) ⟨ho, rfl, ⟨_, ho, rfl⟩, ?_⟩)
  by_cases hk : k = 1
  · subst hk
    exact call_meets F.slot_tuple_mul ⟨_, ho, rfl⟩ F.entry_tuple_mul (F.args_tuple_mul_2 _ _) (tuple_mul1 l its.toArray n dd sl t) ⟨ho, .ref l, H, I, rfl, q1 rfl⟩
  · have hne : its.toArray.isEmpty = false := by
      cases its with
      | nil => exact absurd (r.nil_iff.mp rfl) hx
      | cons a b => rfl
    refine call_meets F.slot_tuple_mul ⟨_, ho, rfl⟩ F.entry_tuple_mul (F.args_tuple_mul_2 _ _) (tuple_mul2 l its.toArray n dd sl k t (by omega) h2 hne hlen) ⟨ho, ?_⟩
    have hnew : List.foldl (fun x1 x2 => x1 ++ x2) #[] (List.replicate k.toNat its.toArray) = (List.replicate k.toNat its).flatten.toArray := by
      have := foldl_rep its k.toNat []
      rw [List.nil_append] at this
      exact this
    refine ⟨.ref s.heap.objs.size, _, I.laid (t' := s.toks) (o := .tup (List.replicate k.toNat xs).flatten) (fun b ob q => Heap.get?_push_of_some _ q) (Nat.le_refl _) ?_, rfl, q _ (I.hok.fresh (Nat.le_refl _))⟩
    rw [hnew]
    exact ⟨by rw [len_rep, Nat.mul_comm]; exact hz, _, r.rep k.toNat, IsTup.new _ _⟩
def rMulB (K : PySem.W.Frag) : R2 := fun x y H Q => rMulA x y H Q ∨ rRepT K x y H Q
theorem opMulK (K : PySem.W.Frag) (h : X.K = K := by rfl) : OpR X (binaryOp .Mult) (rMulB K) := h ▸ opMul.or op_repT
theorem rMulB_ii {K : PySem.W.Frag} {i j : Int} {H : Hp} {Q : VK} : rMulB K (.int i) (.int j) H Q ↔ IntMulOk i j ∧ Q (.int (i * j)) H := by
  simp [rMulB, rMulA_ii, rRepT]
theorem rMulB_si {K : PySem.W.Frag} {z : Str} {j : Int} {H : Hp} {Q : VK} : rMulB K (.str z) (.int j) H Q ↔ (-1000000 ≤ j ∧ j ≤ 1000000 ∧ z.length ≤ 16) ∧ Q (.str (repS z j)) H := by
  simp [rMulB, rMulA_si, rRepT]
theorem jMul_B (K : PySem.W.Frag) : jMul (rMulB K) = rMulB K := jMul_of fun _ _ _ _ => rMulB_ii
theorem jMulB_x {K : PySem.W.Frag} {x y : V} {H : Hp} {Q : VK} : jMul (rMulB K) x y H Q ↔ rMulB K x y H Q := by rw [jMul_B]
theorem oMul (K : PySem.W.Frag) (h : X.K = K := by rfl) : OpR X (binaryOp .Mult) (jMul (rMulB K)) := by rw [jMul_B]; exact opMulK K h
end
end L2
namespace L2
open PySem PySem.Spec PyProof.Rows
def spl (c : Nat) : List Nat → List (List Nat)
  | [] => [[]]
  | a :: l => if a = c then [] :: spl c l else match spl c l with
    | [] => [[a]]
    | p :: r => (a :: p) :: r
theorem spl_ne (c : Nat) : ∀ l, spl c l ≠ []
  | [] => by simp [spl]
  | a :: l => by
    simp only [spl]
    split
    · simp
    · split <;> simp
theorem spl_len (c : Nat) : ∀ l, (spl c l).length ≤ l.length + 1
  | [] => by simp [spl]
  | a :: l => by
    have h := spl_len c l
    simp only [spl]
    split
    · simp; omega
    · split
      · simp
      · rename_i p r e
        rw [e] at h
        simp at h ⊢
        omega
def posF (c : Nat) : List Nat → Nat → List Nat
  | [], _ => []
  | b :: l, i => if b = c then i :: posF c l (i + 1) else posF c l (i + 1)
theorem occ_scan (x : Str) (c : Nat) (lim : Nat) : ∀ (l : List Nat) (i : Nat) (acc : Array Nat) (fr : Nat), x.cps.toList.drop i = l → acc.size ≤ i → fr ≤ i → x.length < lim →
    (forIn (List.range' i (l.length + 1)) (acc, fr) (StrLaws.occBody x ⟨#[c]⟩ x.length lim)).run.fst.toList = acc.toList ++ posF c l i
  | [], i, acc, fr, hl, ha, hf, hm => by
    have hi : x.length ≤ i := by
      rw [str_len]
      exact List.drop_eq_nil_iff.mp hl
    show (forIn [i] (acc, fr) _ : Id _).run.fst.toList = _
    rw [List.forIn_cons]
    unfold StrLaws.occBody
    rw [if_neg (by intro h; have := h.1.2; have e1 : (⟨#[c]⟩ : Str).length = 1 := rfl; rw [e1] at this; omega)]
    show acc.toList = _
    simp [posF]
  | b :: l, i, acc, fr, hl, ha, hf, hm => by
    have hb : x.cps.toList[i]? = some b := by
      have : (x.cps.toList.drop i)[0]? = some b := by rw [hl]; rfl
      rwa [List.getElem?_drop, Nat.add_zero] at this
    have hi : i < x.length := by
      rw [str_len]
      obtain ⟨h, _⟩ := List.getElem?_eq_some_iff.mp hb
      exact h
    have hd : x.cps.toList.drop (i + 1) = l := by
      rw [← List.drop_drop, hl]; rfl
    have e1 : (⟨#[c]⟩ : Str).length = 1 := rfl
    show (forIn (i :: List.range' (i + 1) (l.length + 1)) (acc, fr) _ : Id _).run.fst.toList = _
    rw [List.forIn_cons]
    unfold StrLaws.occBody
    by_cases hc : b = c
    · rw [if_pos ⟨⟨⟨by show acc.size < lim; omega, hf⟩, by rw [e1]; omega⟩, ((StrLaws.subAt_one x c i).mpr (by rw [hb, hc])).2⟩]
      show (forIn (List.range' (i + 1) (l.length + 1)) (acc.push i, i + 1) (StrLaws.occBody x ⟨#[c]⟩ x.length lim) : Id _).run.fst.toList = _
      rw [occ_scan x c lim l (i + 1) _ _ hd (by rw [Array.size_push]; omega) (Nat.le_refl _) hm]
      simp [posF, hc]
    · rw [if_neg (fun h => hc (by have := (StrLaws.subAt_one x c i).mp ⟨h.1.2, h.2⟩; rw [hb] at this; exact Option.some.inj this))]
      show (forIn (List.range' (i + 1) (l.length + 1)) (acc, fr) (StrLaws.occBody x ⟨#[c]⟩ x.length lim) : Id _).run.fst.toList = _
      rw [occ_scan x c lim l (i + 1) _ _ hd (by omega) (by omega) hm]
      simp [posF, hc]
theorem occ_one (x : Str) (c : Nat) : Builtin.Str.occurrences x ⟨#[c]⟩ 0 x.length (x.length + 1) = posF c x.cps.toList 0 := by
  rw [StrLaws.occ_eq]
  have e : x.length + 1 - 0 = x.cps.toList.length + 1 := by rw [str_len]; rfl
  rw [e]
  have h := occ_scan x c (x.length + 1) x.cps.toList 0 #[] 0 rfl (Nat.le_refl _) (Nat.le_refl _) (Nat.lt_succ_self _)
  rw [h]
  rfl
theorem parts_scan (x : Str) (c : Nat) : ∀ (l : List Nat) (a j : Nat), a ≤ j → x.cps.toList.drop j = l → j ≤ x.length →
    (StrLaws.partsFrom x 1 a (posF c l j)).map (fun z => z.cps.toList) = match spl c l with
      | [] => []
      | p :: r => ((x.cps.toList.drop a).take (j - a) ++ p) :: r
  | [], a, j, haj, hl, hj => by
    have hj' : x.length ≤ j := by rw [str_len]; exact List.drop_eq_nil_iff.mp hl
    have e : j = x.length := by omega
    subst e
    simp [posF, spl, StrLaws.partsFrom, StrLaws.strSub_toList]
  | b :: l, a, j, haj, hl, hj => by
    have hb : x.cps.toList[j]? = some b := by
      have : (x.cps.toList.drop j)[0]? = some b := by rw [hl]; rfl
      rwa [List.getElem?_drop, Nat.add_zero] at this
    have hi : j < x.length := by
      rw [str_len]
      obtain ⟨h, _⟩ := List.getElem?_eq_some_iff.mp hb
      exact h
    have hd : x.cps.toList.drop (j + 1) = l := by
      rw [← List.drop_drop, hl]; rfl
    by_cases hc : b = c
    · have ih := parts_scan x c l (j + 1) (j + 1) (Nat.le_refl _) hd hi
      simp only [posF, hc, if_true, StrLaws.partsFrom, List.map_cons, spl, List.append_nil]
      rw [ih]
      cases hs : spl c l with
      | nil => exact absurd hs (spl_ne c l)
      | cons p r => simp [StrLaws.strSub_toList]
    · have ih := parts_scan x c l a (j + 1) (by omega) hd hi
      simp only [posF, hc, if_false, spl]
      rw [ih]
      cases hs : spl c l with
      | nil => exact absurd hs (spl_ne c l)
      | cons p r =>
        have ht : (x.cps.toList.drop a).take (j + 1 - a) = (x.cps.toList.drop a).take (j - a) ++ [b] := by
          have e1 : j + 1 - a = (j - a) + 1 := by omega
          rw [e1, List.take_add_one, List.getElem?_drop]
          have e2 : a + (j - a) = j := by omega
          rw [e2, hb]; rfl
        simp [ht]
theorem spl_none (c : Nat) : ∀ {l : List Nat}, posF c l 0 = [] → spl c l = [l] := by
  have key : ∀ (l : List Nat) (i : Nat), posF c l i = [] → spl c l = [l] := by
    intro l
    induction l with
    | nil => intro i _; rfl
    | cons a l ih =>
      intro i h
      simp only [posF] at h
      split at h
      · cases h
      · rename_i hc
        simp only [spl, hc, if_false]
        rw [ih _ h]
  intro l h
  exact key l 0 h
theorem split_codes (x : Str) {c : Nat} (hc : c < 256) : (Txt.split x ⟨#[c]⟩).map (fun z => z.cps.toList) = spl c x.cps.toList := by
  unfold Txt.split
  have e1 : (⟨#[c]⟩ : Str).length = 1 := rfl
  have ek : Builtin.Str.strKind ⟨#[c]⟩ = 1 := by simp [Builtin.Str.strKind, hc]
  have ek2 : 1 ≤ Builtin.Str.strKind x := by unfold Builtin.Str.strKind; split <;> (try split) <;> omega
  rw [e1, ek, decide_eq_false (show ¬ Builtin.Str.strKind x < 1 by omega), Bool.or_false, occ_one]
  split
  · rename_i h
    have h : x.length < 1 := by simpa using h
    have : x.cps.toList = [] := by
      rw [str_len] at h
      exact List.length_eq_zero_iff.mp (by omega)
    rw [List.map_cons, List.map_nil, this]; rfl
  · split
    · rename_i h
      have h : posF c x.cps.toList 0 = [] := by simpa using h
      rw [spl_none c h]; rfl
    · rw [StrLaws.partsBetween_eq, parts_scan x c x.cps.toList 0 0 (Nat.le_refl _) rfl (Nat.zero_le _)]
      cases hs : spl c x.cps.toList with
      | nil => exact absurd hs (spl_ne c _)
      | cons p r => simp
end L2
namespace L2
open PySem PySem.Spec PyProof.Rows
theorem vals_strs : ∀ (tk : Nat) (xs : List Str), Vals (xs.map V.str) (strsFrom tk xs)
  | _, [] => .nil
  | tk, x :: r => .cons ⟨tk, rfl⟩ (vals_strs (tk + 1) r)
theorem strs_vals : ∀ {xs : List Str} {us : List Value}, Vals (xs.map V.str) us → StrsAre us xs
  | [], _, .nil => .nil
  | x :: r, _, .cons ⟨t, e⟩ q => by subst e; exact .cons x t (strs_vals q)
section
variable {X : Cx}
theorem mt_split : MtR X "str.split" (fun x xs H Q => ∃ z c, x = .str z ∧ xs = [.str ⟨#[c]⟩] ∧ c < 256 ∧ z.length < sizeLine ∧ ∀ p, H p = none → Q (.ref p) (upd H p (.lst ((Txt.split z ⟨#[c]⟩).map V.str)))) := by
  intro pins s σ H x xs v us Q I rx r h
  obtain ⟨z, c, rfl, rfl, hc, hz, q⟩ := h
  obtain ⟨t, rfl⟩ := rx
  obtain ⟨u, rfl, t', rfl⟩ := vals1 r
  have hs : sizeLine = 16777216 := sizeLine_eq
  have hlen : (Txt.split z ⟨#[c]⟩).length ≤ sizeLine := by
    have h1 : (Txt.split z ⟨#[c]⟩).length = (spl c z.cps.toList).length := by rw [← split_codes z hc, List.length_map]
    have h2 := spl_len c z.cps.toList
    rw [← str_len] at h2
    omega
  have fin : ∀ (its : List Value) (tk : Nat), Vals ((Txt.split z ⟨#[c]⟩).map V.str) its → EP X pins σ Q (.ref s.heap.objs.size) { s with toks := tk, heap := s.heap.push { cls := .type "list", data := .seq its.toArray } } := fun its tk rv =>
    ⟨.ref s.heap.objs.size, _, I.laid (t' := tk) (o := .lst ((Txt.split z ⟨#[c]⟩).map V.str)) (fun b ob q => Heap.get?_push_of_some _ q) (Nat.le_refl _) ⟨by rw [List.length_map]; exact hlen, its, 0, rv, Heap.get?_push_size _ rfl⟩, rfl, q _ (I.hok.fresh (Nat.le_refl _))⟩
  cases h1 : (decide (z.length < (⟨#[c]⟩ : Str).length) || decide (Builtin.Str.strKind z < Builtin.Str.strKind ⟨#[c]⟩)) with
  | true =>
    have e : Txt.split z ⟨#[c]⟩ = [z] := by unfold Txt.split; rw [if_pos h1]
    rw [e] at fin
    exact call_meets F.slot_str_split (typeIs_str _ _ _) F.entry_str_split (F.args_str_split_2 _ _) (meets_str_split_cannot_occur z ⟨#[c]⟩ t t' h1) (fin _ s.toks (.cons ⟨t, rfl⟩ .nil))
  | false =>
    cases hf : (Builtin.Str.occurrences z ⟨#[c]⟩ 0 z.length (z.length + 1)).isEmpty with
    | true =>
      have e : Txt.split z ⟨#[c]⟩ = [z] := by unfold Txt.split; rw [if_neg (by rw [h1]; exact Bool.false_ne_true), if_pos hf]
      rw [e] at fin
      exact call_meets F.slot_str_split (typeIs_str _ _ _) F.entry_str_split (F.args_str_split_2 _ _) (meets_str_split_not_found z ⟨#[c]⟩ t t' h1 rfl hf) (fin _ s.toks (.cons ⟨t, rfl⟩ .nil))
    | false =>
      have e : Txt.split z ⟨#[c]⟩ = Builtin.Str.partsBetween z (Builtin.Str.occurrences z ⟨#[c]⟩ 0 z.length (z.length + 1)) (⟨#[c]⟩ : Str).length := by
        unfold Txt.split; rw [if_neg (by rw [h1]; exact Bool.false_ne_true), if_neg (by rw [hf]; exact Bool.false_ne_true)]
      rw [e] at fin hlen
      exact call_meets F.slot_str_split (typeIs_str _ _ _) F.entry_str_split (F.args_str_split_2 _ _) (meets_str_split_sep z ⟨#[c]⟩ t t' h1 rfl hf (Nat.le_of_lt hz) hlen) (fin _ _ (vals_strs _ _))
theorem mt_join : MtR X "str.join" (fun x xs H Q => ∃ z p ys, x = .str z ∧ xs = [.ref p] ∧ SqL X.K H p (ys.map V.str) ∧ (ys.map (·.length)).sum + ys.length * z.length ≤ 16777216 ∧ Q (.str (Txt.join z ys)) H) := by
  intro pins s σ H x xs v us Q I rx r h
  obtain ⟨z, p, ys, rfl, rfl, hq, hok, q⟩ := h
  obtain ⟨t, rfl⟩ := rx
  obtain ⟨u, rfl, ru⟩ := vals1 r
  cases ru
  obtain ⟨its, rv, pl, hz⟩ := I.list hq
  exact join_list pl.isList (strs_vals rv) hok fun t' k => ⟨.str _, H, I.tok _, ⟨t', rfl⟩, q⟩
theorem mt_joinK (K : PySem.W.Frag) (h : X.K = K := by rfl) : MtR X "str.join" (fun x xs H Q => ∃ z p ys, x = .str z ∧ xs = [.ref p] ∧ SqL K H p (ys.map V.str) ∧ (ys.map (·.length)).sum + ys.length * z.length ≤ 16777216 ∧ Q (.str (Txt.join z ys)) H) := h ▸ mt_join
def eqVs : List V → List V → Bool
  | [], [] => true
  | x :: xs, y :: ys => eqV x y && eqVs xs ys
  | _, _ => false
def rEqB (K : PySem.W.Frag) : R2 := fun x y H Q => rEq x y H Q ∨ ∃ a b xs ys, x = .ref a ∧ y = .ref b ∧ SqT K H a xs ∧ SqT K H b ys ∧ xs.all flatV = true ∧ ys.all flatV = true ∧ Q (.bl (eqVs xs ys)) H
def rNeB (K : PySem.W.Frag) : R2 := fun x y H Q => rNe x y H Q ∨ ∃ a b xs ys, x = .ref a ∧ y = .ref b ∧ SqT K H a xs ∧ SqT K H b ys ∧ xs.all flatV = true ∧ ys.all flatV = true ∧ Q (.bl (!eqVs xs ys)) H
end
theorem rEqB_ii {K : PySem.W.Frag} {i j : Int} {H : Hp} {Q : VK} : rEqB K (.int i) (.int j) H Q ↔ Q (.bl (decide (i = j))) H := by simp [rEqB, rEq_ii]
theorem rNeB_ii {K : PySem.W.Frag} {i j : Int} {H : Hp} {Q : VK} : rNeB K (.int i) (.int j) H Q ↔ Q (.bl (!decide (i = j))) H := by simp [rNeB, rNe_ii]
theorem rEqB_ss {K : PySem.W.Frag} {i j : Str} {H : Hp} {Q : VK} : rEqB K (.str i) (.str j) H Q ↔ Q (.bl (decide (i = j))) H := by simp [rEqB, rEq_ss]
theorem rNeB_ss {K : PySem.W.Frag} {i j : Str} {H : Hp} {Q : VK} : rNeB K (.str i) (.str j) H Q ↔ Q (.bl (!decide (i = j))) H := by simp [rNeB, rNe_ss]
theorem rEqB_bb {K : PySem.W.Frag} {i j : Bool} {H : Hp} {Q : VK} : rEqB K (.bl i) (.bl j) H Q ↔ Q (.bl (decide (i = j))) H := by simp [rEqB, rEq_bb]
theorem rNeB_bb {K : PySem.W.Frag} {i j : Bool} {H : Hp} {Q : VK} : rNeB K (.bl i) (.bl j) H Q ↔ Q (.bl (!decide (i = j))) H := by simp [rNeB, rNe_bb]
end L2
namespace L2
open PySem PySem.Spec PyProof.Rows
def digs (l : List Nat) : Bool := l.all fun c => decide (c ∈ [48, 49, 50, 51, 52, 53, 54, 55, 56, 57])
def figs (w : List Nat) : List Nat := if w.head? = some 45 then w.tail else w
def isNum (w : List Nat) : Bool := decide (1 ≤ (figs w).length) && (decide ((figs w).length ≤ 40) && (digs (figs w) && (decide ((figs w).head? ≠ some 48) || decide (w = [48]))))
theorem isNum_prog (w : List Nat) : isNum w = (if figs w = [] ∨ 40 < (figs w).length then false else if digs (figs w) = false then false else (decide ((figs w).head? ≠ some 48) || decide (w = [48]))) := by
  unfold isNum
  split
  · rename_i h
    rcases h with h | h
    · rw [h]; rfl
    · have : ¬ (figs w).length ≤ 40 := by omega
      simp [this]
  · rename_i h
    have h1 : 1 ≤ (figs w).length := by
      cases e : figs w with
      | nil => exact absurd (Or.inl e) h
      | cons a b => simp
    have h2 : (figs w).length ≤ 40 := by
      have : ¬ 40 < (figs w).length := fun z => h (Or.inr z)
      omega
    simp only [h1, h2, decide_true, Bool.true_and]
    split
    · rename_i h3; rw [h3]; rfl
    · rename_i h3
      have h3 : digs (figs w) = true := by simpa using h3
      rw [h3]; rfl
theorem isNum_false (w : List Nat) (hd : digs (figs w) = false) : isNum w = false := by
  unfold isNum
  rw [hd]; simp
def numC (n : Int) : List Nat := (Str.ofString (toString n)).cps.toList
def dg (m : Nat) : List Nat := (Nat.toDigits 10 m).map Char.toNat
theorem numC_nat (m : Nat) : numC (m : Int) = dg m := PySem.W.KIN.signs_num m
theorem numC_neg (k : Nat) : numC (-((k + 1 : Nat) : Int)) = 45 :: dg (k + 1) := by
  have e : toString (-((k + 1 : Nat) : Int)) = "-" ++ toString (k + 1) := rfl
  have h := PySem.W.KIN.signs_num (k + 1)
  unfold numC dg
  rw [← h, e]
  have e2 : toString (((k + 1 : Nat) : Nat) : Int) = toString (k + 1) := rfl
  rw [e2]
  simp only [PyProof.Rows.signs_ofString, String.toList_append]
  rfl
theorem dg_all (m : Nat) : ∀ c ∈ dg m, 48 ≤ c ∧ c ≤ 57 := by
  intro c hc
  obtain ⟨ch, hch, e⟩ := List.mem_map.mp hc
  have r := PyProof.Rows.digit_range (Nat.isDigit_of_mem_toDigits (by decide) (by decide) hch)
  rw [← e]
  exact r
theorem dg_ne (m : Nat) : dg m ≠ [] := by
  intro e
  have h := toDigits_len_ge 10 m
  rw [List.map_eq_nil_iff.mp e] at h
  exact absurd h (by decide)
theorem dg_small {m : Nat} (h : m < 10) : dg m = [m + 48] := by
  unfold dg
  rw [Nat.toDigits_of_lt_base h]
  have : ∀ m, m < 10 → (Nat.digitChar m).toNat = m + 48 := by decide
  show [(Nat.digitChar m).toNat] = _
  rw [this m h]
theorem dg_big {m : Nat} (h : ¬ m < 10) : dg m = dg (m / 10) ++ [m % 10 + 48] := by
  have hm : m % 10 < 10 := Nat.mod_lt m (by decide)
  have t : Nat.toDigits 10 (m / 10) ++ Nat.toDigits 10 (m % 10) = Nat.toDigits 10 (10 * (m / 10) + m % 10) := Nat.toDigits_append_toDigits (by decide) (by omega) hm
  rw [Nat.div_add_mod] at t
  rw [← dg_small hm]
  unfold dg
  rw [← t, List.map_append]
theorem dg_len {k m : Nat} (hk : 1 ≤ k) (hm : m < 10 ^ k) : (dg m).length ≤ k := by
  unfold dg
  rw [List.length_map]
  exact digits10_le hk hm
theorem numC_signs (n : Int) : ∀ c ∈ numC n, c = 45 ∨ (48 ≤ c ∧ c ≤ 57) := by
  intro c hc
  rcases Int.lt_or_le n 0 with h | h
  · obtain ⟨k, rfl⟩ : ∃ k : Nat, n = -((k + 1 : Nat) : Int) := ⟨n.natAbs - 1, by omega⟩
    rw [numC_neg] at hc
    rcases List.mem_cons.mp hc with e | e
    · exact .inl e
    · exact .inr (dg_all _ c e)
  · obtain ⟨m, rfl⟩ := Int.eq_ofNat_of_zero_le h
    rw [numC_nat] at hc
    exact .inr (dg_all _ c hc)
theorem numC_len {n : Int} {k : Nat} (hk : 1 ≤ k) (h : n.natAbs < 10 ^ k) : (numC n).length ≤ k + 1 := by
  rcases Int.lt_or_le n 0 with h1 | h1
  · obtain ⟨j, rfl⟩ : ∃ k : Nat, n = -((k + 1 : Nat) : Int) := ⟨n.natAbs - 1, by omega⟩
    have e : (-((j + 1 : Nat) : Int)).natAbs = j + 1 := by omega
    rw [e] at h
    rw [numC_neg, List.length_cons]
    have := dg_len hk h
    omega
  · obtain ⟨m, rfl⟩ := Int.eq_ofNat_of_zero_le h1
    rw [numC_nat]
    have := dg_len hk (show m < 10 ^ k from h)
    omega
theorem int_num {n : Int} (h : n.natAbs < 10 ^ 600) : intText? (Str.ofString (toString n)) = some n := by
  have hl := numC_len (by decide) h
  have hl2 : (Str.ofString (toString n)).length ≤ 4300 := by rw [str_len]; exact Nat.le_trans hl (by decide)
  rcases Int.lt_or_le n 0 with h1 | h1
  · obtain ⟨k, rfl⟩ : ∃ k : Nat, n = -((k + 1 : Nat) : Int) := ⟨n.natAbs - 1, by omega⟩
    rw [PySem.intText_neg (cs := dg (k + 1)) (numC_neg k) (dg_all _) (dg_ne _) hl2]
    have := PySem.W.KIN.val_back (k + 1)
    unfold dg
    rw [this]
  · obtain ⟨m, rfl⟩ := Int.eq_ofNat_of_zero_le h1
    have e : (Str.ofString (toString ((m : Nat) : Int))).cps.toList = dg m := numC_nat m
    rw [PySem.intText_digits (by rw [e]; exact dg_all _) (by rw [e]; exact dg_ne _) hl2, e]
    have := PySem.W.KIN.val_back m
    unfold dg
    rw [this]
def joinC (c : Nat) : List (List Nat) → List Nat
  | [] => []
  | p :: r => p ++ (r.map (c :: ·)).flatten
theorem glue_fold (c : Nat) : ∀ (l : List Str) (a : Array Nat), (l.foldl (fun acc p => acc ++ (⟨#[c]⟩ : Str).cps ++ p.cps) a).toList = a.toList ++ (l.map (fun p => c :: p.cps.toList)).flatten
  | [], a => by simp
  | p :: l, a => by
    rw [List.foldl_cons, glue_fold c l]
    simp
theorem join_codes (c : Nat) (ys : List Str) : (Txt.join ⟨#[c]⟩ ys).cps.toList = joinC c (ys.map fun z => z.cps.toList) := by
  unfold Txt.join Builtin.Str.glued
  cases ys with
  | nil => rfl
  | cons p r =>
    show (r.foldl (fun acc p => acc ++ (⟨#[c]⟩ : Str).cps ++ p.cps) p.cps).toList = _
    rw [glue_fold]
    simp [joinC, Function.comp_def]
theorem spl_cat (c : Nat) : ∀ (p : List Nat) (l : List Nat), c ∉ p → spl c (p ++ c :: l) = p :: spl c l
  | [], l, _ => by simp [spl]
  | a :: p, l, h => by
    have h1 : a ≠ c := fun e => h (by rw [e]; exact List.mem_cons_self)
    have h2 : c ∉ p := fun e => h (List.mem_cons_of_mem _ e)
    rw [List.cons_append]
    simp only [spl, h1, if_false]
    rw [spl_cat c p l h2]
theorem spl_pure (c : Nat) : ∀ (p : List Nat), c ∉ p → spl c p = [p]
  | [], _ => rfl
  | a :: p, h => by
    have h1 : a ≠ c := fun e => h (by rw [e]; exact List.mem_cons_self)
    have h2 : c ∉ p := fun e => h (List.mem_cons_of_mem _ e)
    simp only [spl, h1, if_false]
    rw [spl_pure c p h2]
theorem spl_join (c : Nat) : ∀ (ps : List (List Nat)), ps ≠ [] → (∀ p ∈ ps, c ∉ p) → spl c (joinC c ps) = ps
  | [], h, _ => absurd rfl h
  | [p], _, h => by
    simp [joinC]
    exact spl_pure c p (h p List.mem_cons_self)
  | p :: q :: r, _, h => by
    have ih := spl_join c (q :: r) (by simp) (fun x hx => h x (List.mem_cons_of_mem _ hx))
    have e : joinC c (p :: q :: r) = p ++ c :: joinC c (q :: r) := by simp [joinC]
    rw [e, spl_cat c p _ (h p List.mem_cons_self), ih]
end L2
namespace L3
open PySem PySem.Spec PyProof.Rows
theorem meets_enumerate_newB (l : Bool) (a : Addr) (xs : Array Value) :
    Meets (Builtin.«enumerate.__new__» ⟨[.type "enumerate", .ref a], []⟩) (fun _ R s => IsSeq l s.heap a xs ∧
      R (.ok (.ret (.ref (s.heap.push (itRec l a)).objs.size))) { s with heap := (s.heap.push (itRec l a)).push { cls := .type "enumerate", data := .fields #[.none, .bool false, .ref s.heap.objs.size, rawInt 0, .none, .none] } }) :=
  .of_wp fun prog w A R s h => by
    obtain ⟨hp, g, d, tk, os⟩ := s; obtain ⟨q1, h⟩ := h
    have hsub := sub_enumerate
    have u1 : IsSeq l (Shared.heap ⟨hp, g, d, tk, os⟩) a xs := q1
    have tl : ∃ o, hp.get? a = some o := by
      cases l
      · obtain ⟨o, e, _⟩ := (show hp.IsTuple a xs from q1); exact ⟨o, e⟩
      · obtain ⟨o, e, _⟩ := (show hp.IsList a xs from q1); exact ⟨o, e⟩
    obtain ⟨ob, hl⟩ := tl
    obtain ⟨c, dct, dt, sl⟩ := ob
    wp_walk using AutoSeq1.wpAny_loadPart' hl
    refine wpAny_stack_any fun st => wpAny_pure ?_
    split
    · rename_i c _ _ _ _ _
      cases (c == Value.type "enumerate")
      · wp_walk using AutoSeq1.wpAny_loadPart' hl, iter_seq u1
        exact ⟨_, rfl, h⟩
      · wp_walk using AutoSeq1.wpAny_loadPart' hl, iter_seq u1
        exact ⟨_, rfl, h⟩
    · wp_walk using AutoSeq1.wpAny_loadPart' hl, iter_seq u1
      exact ⟨_, rfl, h⟩
section
variable {prog : Program} {w : World} {A : Around} {E : Value → Shared → Prop} {s : Shared}
theorem call_enumerateB {l : Bool} {a : Addr} {xs : Array Value} {Q : Value → Shared → Prop} (hL : IsSeq l s.heap a xs)
    (h : ∀ h', IsEnum h' (s.heap.objs.size + 1) s.heap.objs.size 0 .none → h'.get? s.heap.objs.size = some (itRec l a) → h'.objs.size = s.heap.objs.size + 2 →
      (∀ b o, s.heap.get? b = some o → h'.get? b = some o) → Q (.ref (s.heap.objs.size + 1)) { s with heap := h' }) :
    wpAny (model prog w) A (call (.type "enumerate") [.ref a]) Q E s := by
  refine callType_new F.called_enumerate (by decide) (F.typeCall_enumerate_1 _) (F.newCall_enumerate_1 _) (fun obj => F.args_object_init_2 obj _) F.entry_enumerate_new
    (meets_enumerate_newB l a xs) ⟨hL, ?_⟩
  have hz : (s.heap.push (itRec l a)).objs.size = s.heap.objs.size + 1 := Heap.size_push ..
  show _ ∧ _
  rw [hz]
  have he : IsEnum ((s.heap.push (itRec l a)).push
      { cls := .type "enumerate", data := .fields #[.none, .bool false, .ref s.heap.objs.size, rawInt 0, .none, .none] }) (s.heap.objs.size + 1) s.heap.objs.size 0 .none := by
    have := Heap.get?_push_size (s.heap.push (itRec l a))
      (o := { cls := .type "enumerate", data := .fields #[.none, .bool false, .ref s.heap.objs.size, rawInt 0, .none, .none] }) rfl
    rw [hz] at this; exact this
  refine ⟨⟨_, he, rfl⟩, h _ he (Heap.get?_push_of_some _ (Heap.get?_push_size _ rfl)) (by rw [Heap.size_push, hz]) fun b o x => Heap.get?_push_of_some _ (Heap.get?_push_of_some _ x)⟩
end
end L3
namespace L2
open PySem PySem.Spec PyProof.Rows
def Itf (K : PySem.W.Frag) (l : Bool) (a : Addr) : It :=
  ⟨fun i H => ∃ xs x, SqB K l H a xs ∧ xs[i]? = some x,
    fun i H v H' => ∃ p x, v = .ref p ∧ H p = none ∧ H' = upd H p (.tup [.int i, x]) ∧ ∀ xs, SqB K l H a xs → xs[i]? = some x,
    fun i H => ∃ xs, SqB K l H a xs ∧ i = xs.length⟩
theorem turn_enumB {P : Program} {w : World} {K : PySem.W.Frag} {elts : List Expr} {kt : Nat} {pt : Pos} (l : Bool) (a z it : Addr) (nd : z ≠ it) :
    Turn P w K (.Tuple elts kt pt) (Itf K l a) [z, it] z (fun i h => (∃ old, IsEnum h z it ((i : Nat) : Int) old) ∧ ItAt l h it a i) := by
  refine ⟨by simp, ?_, ?_, ?_, ?_, ?_⟩
  · rintro i h ⟨⟨old, qz⟩, u⟩ c hc
    have hc' : c = z ∨ c = it := by simpa using hc
    rcases hc' with e | e
    · subst e; exact ⟨_, qz, fun v q => by cases q⟩
    · subst e
      exact u.obj
  · rintro i h h' ⟨⟨old, qz⟩, u⟩ k
    exact ⟨⟨old, k z (by simp) _ qz⟩, u.at fun o e => k it (by simp) o e⟩
  · rintro X hP hw hK hc i pins s σ H E I hf ⟨⟨old, qz⟩, u⟩ ⟨xs, x, q1, hx⟩
    subst hP hw hK
    have hh : X.A.in1.handled = none := I.ok.hd hc
    obtain ⟨its, r1, p1, z1⟩ := I.seqB q1
    have na : a ≠ it := I.seqB_ne q1 (hf it (by simp))
    have nz : a ≠ z := I.seqB_ne q1 (hf z (by simp))
    have lx : i < its.toArray.size := by
      have := (List.getElem?_eq_some_iff.mp hx).1
      rw [List.size_toArray, ← r1.length]; exact this
    have hef : z ∉ [it, a] := by
      simp only [List.mem_cons, List.not_mem_nil, or_false, not_or]
      exact ⟨nd, nz.symm⟩
    refine wpAny_pyNext_enum_itemD (draws_seq (P := X.prog) (w := X.w) hh l it a na its.toArray) qz ⟨u, p1⟩ lx nd hef fun v h' tk ev z' s' pr sz kk => ?_
    obtain ⟨w1, g1, rx⟩ := r1.get hx
    have ev1 : v = w1 := by
      have : its[i]? = some v := by simpa using ev
      rw [g1] at this; exact (Option.some.inj this).symm
    subst ev1
    refine ⟨_, rfl, wpAny_letOwnedTupleGo_enum (s := { s with heap := h', toks := tk + 1 }) z' fun h2 z2 sb => ?_⟩
    have fz : s.heap.objs.size ≠ z := Nat.ne_of_gt (Heap.lt_size qz)
    have Hn : H s.heap.objs.size = none := I.hok.fresh (Nat.le_refl _)
    have kp : ∀ c o, c ∉ [z, it] → s.heap.get? c = some o → h2.get? c = some o := fun c o hc e => by
      have hc' : c ≠ z ∧ c ≠ it := by simpa [not_or] using hc
      exact (sb.2 c hc'.1).trans (kk c o hc'.1 hc'.2 e)
    have nf : ∀ {c : Addr} {u : HO}, H c = some u → c ∉ [z, it] := fun {c u} e hc => by
      have := (hf c hc).1
      rw [e] at this; cases this
    have pr2 : h2.get? s.heap.objs.size = some { cls := .type "tuple", data := .seq #[.int i tk, v] } := (sb.2 _ fz).trans pr
    have I2 : Inv X pins σ (upd H s.heap.objs.size (.tup [.int i, x])) { s with heap := h2, toks := tk + 1 } := by
      refine I.step (g' := s.gens) (d' := s.drawn) (ch := [z, it]) (fun c hc => ⟨(hf c hc).2.2.2.1, (hf c hc).2.1, (hf c hc).2.2.2.2.1, (hf c hc).2.2.2.2.2⟩) (fun c o _ _ hc e _ => kp c o hc e) (fun c o _ _ hc e _ => ⟨o.slots, kp c o hc e⟩)
        (fun c o _ e n => by rw [upd_ne (Nat.ne_of_lt (Heap.lt_size e))]; exact n) (fun c o hc e => ⟨o, kp c o hc e⟩) (fun c us e => by rw [upd_ne (ne_of_none e Hn)]; exact e) (fun c o u e => by rw [upd_ne (ne_of_none e Hn)]; exact e)
        (fun c ps e => ⟨#[], by rw [upd_ne (ne_of_none e Hn), e]; simp⟩) (fun m hm => ?_) (fun c u e => ?_) I.bare
      · obtain ⟨o, es, ep, ho, r⟩ := hm
        exact ⟨o, es, ep, kp _ o (fun q => (hf _ q).2.1 rfl) ho, r⟩
      · by_cases hcs : c = s.heap.objs.size
        · subst hcs
          rw [upd_same] at e
          cases e
          exact ⟨by rw [sizeLine_eq]; show 2 ≤ 16777216; omega, [.int i tk, v], .cons ⟨_, rfl⟩ (.cons rx .nil), _, pr2, rfl, _, rfl⟩
        · rw [upd_ne hcs] at e
          refine (I.hok c u e).stay (fun d o hd q => kp d o ?_ q) (fun d q => by rw [upd_ne (ne_of_none q Hn)]; exact q) fun d us q => by rw [upd_ne (ne_of_none q Hn)]; exact q
          rcases hd with hd | hd
          · rw [hd]; exact nf e
          · exact nf hd
    refine ⟨.ref s.heap.objs.size, _, I2, rfl, ⟨_, x, rfl, Hn, rfl, fun us hu => by rw [I.seqB_inj hu q1]; exact hx⟩, ⟨⟨v, ?_⟩, ?_⟩, fun c hc => ?_⟩
    · have e : (((i + 1 : Nat)) : Int) = (i : Int) + 1 := by omega
      rw [e]; exact z2
    · exact s'.1.at fun o e => (sb.2 _ nd.symm).trans e
    · show upd H s.heap.objs.size (.tup [.int i, x]) c = none
      have lt : c < s.heap.objs.size := by
        have hc' : c = z ∨ c = it := by simpa using hc
        rcases hc' with e | e
        · subst e; exact Heap.lt_size qz
        · subst e; obtain ⟨o, e, _⟩ := u.obj; exact Heap.lt_size e
      rw [upd_ne (Nat.ne_of_lt lt)]
      exact (hf c hc).1
  · rintro X hP hw hK hc i pins s σ H E I hf ⟨⟨old, qz⟩, u⟩ ⟨xs, q1, hend⟩
    subst hP hw hK
    have hh : X.A.in1.handled = none := I.ok.hd hc
    obtain ⟨its, r1, p1, z1⟩ := I.seqB q1
    have na : a ≠ it := I.seqB_ne q1 (hf it (by simp))
    have ei : i = its.toArray.size := by rw [List.size_toArray, ← r1.length]; exact hend
    subst ei
    obtain ⟨f0, f1, f2, f3, f4, f5⟩ := hf it (by simp)
    exact wpAny_pyNext_enum_endD (draws_seq (P := X.prog) (w := X.w) hh l it a na its.toArray) qz ⟨u, p1⟩ fun h' k => ⟨rfl, I.turned (t' := s.toks) (fun b o hb e => k b o hb e) f0 f1 f3 f4 f5⟩
  · rintro A i s Q E ⟨⟨old, qz⟩, _⟩ h
    exact wpAny_pyIter_enum qz h
def iEnumB (K : PySem.W.Frag) (ta : TA) : TI := fun σ H R => ta σ H fun vs H1 => ∃ a, vs = [.ref a] ∧ ∃ l, (∃ xs, SqB K l H1 a xs) ∧ R (Itf K l a) H1
theorem pi_enumB {X : Cx} {elts : List Expr} {kt : Nat} {pt : Pos} {a : Expr} {ta : TA} {p pos : Pos} (hg : Gl X "enumerate") (hm : X.mg "enumerate" = none) (ha : PA X [a] ta) (hs : starEach [a] X.env = [(false, eval a X.env)] := by rfl) :
    PI X (.Tuple elts kt pt) (.Call (.Name "enumerate" p) [a] [] pos) (iEnumB X.K ta) := by
  intro pins s σ H R I h
  refine Call_ (ld_blt I hg hm boot_enumerate (PyProof.Rows.callWith_type1 (thn (ha pos pins s σ H _ I h) fun us s1 ⟨vs, H1, I1, r1, q1⟩ => ?_) hs rfl))
  obtain ⟨a1, e, l, ⟨xs, q1⟩, q⟩ := q1
  subst e
  obtain ⟨u, rfl, e1⟩ := vals1 r1
  cases e1
  obtain ⟨its1, r1, p1, z1⟩ := I1.seqB q1
  refine L3.call_enumerateB p1 fun h' qz qI sz kp => wpAny_pyIter_enum qz ?_
  refine ⟨s1.heap.objs.size + 1, [s1.heap.objs.size + 1, s1.heap.objs.size], _, _, H1, rfl, I1.kept (h' := h') (t' := s1.toks) kp, turn_enumB l a1 _ _ (Nat.succ_ne_self _), ⟨⟨_, qz⟩, ItAt.rec qI⟩, fun c hc => ?_, q⟩
  have hc' : s1.heap.objs.size ≤ c := by
    have : c = s1.heap.objs.size + 1 ∨ c = s1.heap.objs.size := by simpa using hc
    rcases this with e | e <;> (rw [e]; first | exact Nat.le_refl _ | exact Nat.le_add_right _ _)
  exact I1.fpOk hc' (I1.hok.fresh hc')
theorem loop_enumB {g : TG} {tb : TS} {D : Ends} {σ : St} {H : Hp} {K : PySem.W.Frag} {l : Bool} {a : Addr} {us : List V} (Pv : Nat → St → Hp → Prop) (h0 : Pv 0 σ H) (hl : ∀ i σ H, i ≤ us.length → Pv i σ H → SqB K l H a us)
    (hs : ∀ i x σ H p, us[i]? = some x → Pv i σ H → H p = none → g (.ref p) σ (upd H p (.tup [.int i, x])) fun σ2 H2 => tb { D with nx := Pv (i + 1), ct := Pv (i + 1), bk := D.nx } σ2 H2) (hd : ∀ σ H, Pv us.length σ H → D.nx σ H) : Loop g tb D σ (Itf K l a) H := by
  refine ⟨fun i m σ H => m = us.length - i ∧ i ≤ us.length ∧ Pv i σ H, ⟨us.length, by simp, Nat.zero_le _, h0⟩, ?_⟩
  rintro i m σ H ⟨rfl, hi, p⟩
  have q1 := hl i σ H hi p
  by_cases hlt : i < us.length
  · refine .inr ⟨⟨us, us[i], q1, by simp [hlt]⟩, Pv (i + 1), fun σ' H' p' => ⟨us.length - (i + 1), by omega, rfl, hlt, p'⟩, fun x H' y => ?_⟩
    obtain ⟨pp, u, e, hp, e2, y1⟩ := y
    subst e e2
    exact hs i u σ H pp (y1 us q1) p hp
  · have e : i = us.length := by omega
    subst e
    exact .inl ⟨⟨us, q1, rfl⟩, hd σ H p⟩
theorem cloop_enumB {n : Nat} {js : List Nat} {g : TG} {tt : TT} {te : TE} {σ : St} {H : Hp} {F : List V → Hp → Prop} {K : PySem.W.Frag} {l : Bool} {a : Addr} {us : List V} (Pv : Nat → List V → Hp → Prop) (hk : us.length ≤ sizeLine) (h0 : Pv 0 [] H) (hn : ∀ i ys H, Pv i ys H → ys.length ≤ i) (hl : ∀ i ys H, Pv i ys H → SqB K l H a us)
    (hs : ∀ i x ys H p, us[i]? = some x → Pv i ys H → H p = none → cTurn n js g tt te σ (.ref p) ys (upd H p (.tup [.int i, x])) (Pv (i + 1))) (hd : ∀ ys H, Pv us.length ys H → F ys H) : CLoop n js g tt te σ F (Itf K l a) H := by
  refine ⟨fun i m ys H => m = us.length - i ∧ i ≤ us.length ∧ Pv i ys H, ⟨us.length, by simp, Nat.zero_le _, h0⟩, ?_⟩
  rintro i m ys H ⟨rfl, hi, p⟩
  have q1 := hl i ys H p
  by_cases hlt : i < us.length
  · refine .inr ⟨⟨us, us[i], q1, by simp [hlt]⟩, Nat.lt_of_le_of_lt (hn i ys H p) (Nat.lt_of_lt_of_le hlt hk), Pv (i + 1), fun σ' H' p' => ⟨us.length - (i + 1), by omega, rfl, hlt, p'⟩, fun x H' y => ?_⟩
    obtain ⟨pp, u, e, hp, e2, y1⟩ := y
    subst e e2
    exact hs i u ys H pp (y1 us q1) p hp
  · have e : i = us.length := by omega
    subst e
    exact .inl ⟨⟨us, q1, rfl⟩, hd ys H p⟩
structure FunD (K : PySem.W.Frag) (x qual : Str) (st : Stmt) (f : Addr) (fd : FuncData) (T : Addr) : Prop where
  ex : ∃ (oc : Value) (od : Option Addr) (kV doc pm : Value) (an : Option Addr) (cdv ct : Value) (osl : Array (Option Value)),
    fd = PySem.W.fnOf x qual (defArgs st) (defBody st) (defScope st) (.ref T) kV doc pm an cdv ct ∧ K.lookup f = some ⟨oc, od, .func fd, osl⟩ ∧ PySem.W.codeIn K cdv qual = true
  kp : PySem.W.keepIn K (.ref f) = true
section
variable {P : Program} {w : World} {K : PySem.W.Frag} {mg : Str → Option Value} {base : Heap}
end
section
variable {X : Cx} {k : Nat} {ps : List Str} {sp : Sp} {x : Str} {p pos : Pos} {e : Expr} {es : List Expr} {t : TA} {dvs : List V}
end
theorem FunD.binds {K : PySem.W.Frag} {x qual : Str} {st : Stmt} {f T : Addr} {fd : FuncData} {ps : List Str} (F : FunD K x qual st f fd T) {o : Obj} {u : Value} {n : Nat} (t : K.lookup T = some o) (d : o.data = .seq #[u] n)
    (h : ∀ (kV doc pm : Value) (an : Option Addr) (cdv ct : Value) (us : List Value), us.length = ps.length →
      ∃ k : Option (Array Value) → Sem (List (Str × Value)), bindArgs (PySem.W.fnOf x qual (defArgs st) (defBody st) (defScope st) (.ref T) kV doc pm an cdv ct) ⟨us, []⟩ = seqItems? (.ref T) >>= k ∧ k (some #[u]) = pure (ps.zip us)) : Binds K fd ps [] := by
  obtain ⟨oc, od, kV, doc, pm, an, cdv, ct, osl, rfl, lk, hcd⟩ := F.ex
  intro s us X hl
  rw [List.append_nil] at hl ⊢
  obtain ⟨k, h1, h2⟩ := h kV doc pm an cdv ct us hl
  exact BindsTo.of_defaults (T := T) rfl (X _ _ t) d h1 h2
end L2
namespace L2
open PySem PySem.Spec PyProof.Rows
def EqD (K : PySem.W.Frag) (H : Hp) : Nat → V → V → Bool → Prop
  | 0, x, y, b => (flatV x = true ∧ flatV y = true ∧ b = eqV x y) ∨ ∃ a, x = .ref a ∧ y = .ref a ∧ b = true
  | n + 1, x, y, b => EqD K H 0 x y b ∨ ∃ (a c : Addr) (l : Bool) (xs ys : List V) (e : Nat → Bool), x = .ref a ∧ y = .ref c ∧ a ≠ c ∧ SqB K l H a xs ∧ SqB K l H c ys ∧
      (∀ j x y, xs[j]? = some x → ys[j]? = some y → EqD K H n x y (e j)) ∧ b = ((List.range (min xs.length ys.length)).all e && xs.length == ys.length)
theorem EqD.flat {K : PySem.W.Frag} {H : Hp} {n : Nat} {x y : V} (fx : flatV x = true) (fy : flatV y = true) : EqD K H n x y (eqV x y) := by
  cases n
  · unfold EqD; exact .inl ⟨fx, fy, rfl⟩
  · unfold EqD; refine .inl ?_; unfold EqD; exact .inl ⟨fx, fy, rfl⟩
theorem EqD.same {K : PySem.W.Frag} {H : Hp} {n : Nat} {a : Addr} : EqD K H n (.ref a) (.ref a) true := by
  cases n
  · unfold EqD; exact .inr ⟨a, rfl, rfl, rfl⟩
  · unfold EqD; refine .inl ?_; unfold EqD; exact .inr ⟨a, rfl, rfl, rfl⟩
section
variable {X : Cx} {pins : List (Addr × Obj)} {σ : St} {H : Hp} {s : Shared}
theorem vals_arr {xs : List V} {us : List Value} (r : Vals xs us) {j : Nat} (h : j < us.toArray.size) : ∃ x, xs[j]? = some x ∧ RelV x us.toArray[j] := by
  have l1 := r.length
  simp only [List.size_toArray] at h
  have hx : j < xs.length := by omega
  obtain ⟨u, e1, r1⟩ := Vals.get r (i := j) (x := xs[j]) (by simp [hx])
  have g1 : us.toArray[j] = u := by simpa [h] using e1
  exact ⟨xs[j], by simp [hx], by rw [g1]; exact r1⟩
theorem rc_seq {A : Around} {l : Bool} {a c : Addr} {xs ys : List V} {us vs : List Value} {e : Nat → Bool} (rx : Vals xs us) (ry : Vals ys vs) (p1 : L3.IsSeq l s.heap a us.toArray) (p2 : L3.IsSeq l s.heap c vs.toArray) (hu : A.units < cLine)
    (he : ∀ j (h1 : j < us.toArray.size) (h2 : j < vs.toArray.size), SeqAt.EqAt A.in1 s us.toArray[j] vs.toArray[j] (e j)) : SeqAt.RcAt A s (.ref a) (.ref c) ((List.range (min xs.length ys.length)).all e && xs.length == ys.length) := by
  have s1 : us.toArray.size = xs.length := by rw [List.size_toArray, rx.length]
  have s2 : vs.toArray.size = ys.length := by rw [List.size_toArray, ry.length]
  cases l
  · have := SeqAt.RcAt.tuples (show s.heap.IsTuple a us.toArray from p1) (show s.heap.IsTuple c vs.toArray from p2) hu he
    rw [s1, s2] at this
    exact this
  · by_cases hl : xs.length = ys.length
    · have := SeqAt.RcAt.lists (show s.heap.IsList a us.toArray from p1) (show s.heap.IsList c vs.toArray from p2) (by rw [s1, s2, hl]) hu he
      rw [s1] at this
      rw [hl, Nat.min_self, beq_self_eq_true, Bool.and_true, ← hl]
      exact this
    · have := SeqAt.RcAt.lists_lengths (show s.heap.IsList a us.toArray from p1) (show s.heap.IsList c vs.toArray from p2) (by rw [s1, s2]; simpa using hl) hu
      rw [show (xs.length == ys.length) = false by simpa using hl, Bool.and_false]
      exact this
theorem rcne_seq {A : Around} {l : Bool} {a c : Addr} {xs ys : List V} {us vs : List Value} {e : Nat → Bool} (rx : Vals xs us) (ry : Vals ys vs) (p1 : L3.IsSeq l s.heap a us.toArray) (p2 : L3.IsSeq l s.heap c vs.toArray) (hu : A.units < cLine)
    (he : ∀ j (h1 : j < us.toArray.size) (h2 : j < vs.toArray.size), SeqAt.EqAt A.in1 s us.toArray[j] vs.toArray[j] (e j)) : SeqAt.RcNeAt A s (.ref a) (.ref c) (!((List.range (min xs.length ys.length)).all e && xs.length == ys.length)) := by
  have s1 : us.toArray.size = xs.length := by rw [List.size_toArray, rx.length]
  have s2 : vs.toArray.size = ys.length := by rw [List.size_toArray, ry.length]
  cases l
  · have := SeqAt.RcNeAt.tuples (show s.heap.IsTuple a us.toArray from p1) (show s.heap.IsTuple c vs.toArray from p2) hu he
    rw [s1, s2] at this
    exact this
  · by_cases hl : xs.length = ys.length
    · have := SeqAt.RcNeAt.lists (show s.heap.IsList a us.toArray from p1) (show s.heap.IsList c vs.toArray from p2) (by rw [s1, s2, hl]) hu he
      rw [s1] at this
      rw [hl, Nat.min_self, beq_self_eq_true, Bool.and_true, ← hl]
      exact this
    · have := SeqAt.RcNeAt.lists_lengths (show s.heap.IsList a us.toArray from p1) (show s.heap.IsList c vs.toArray from p2) (by rw [s1, s2]; simpa using hl) hu
      rw [show (xs.length == ys.length) = false by simpa using hl, Bool.and_false]
      exact this
theorem EqD.at (I : Inv X pins σ H s) : ∀ {n : Nat} {A : Around} {x y : V} {u v : Value} {b : Bool}, A.units + n < cLine → RelV x u → RelV y v → EqD X.K H n x y b → SeqAt.EqAt A s u v b := by
  have z0 : ∀ {A : Around} {x y : V} {u v : Value} {b : Bool}, RelV x u → RelV y v → EqD X.K H 0 x y b → SeqAt.EqAt A s u v b := by
    intro A x y u v b rx ry h
    unfold EqD at h
    rcases h with ⟨fx, fy, rfl⟩ | ⟨a, rfl, rfl, rfl⟩
    · exact eqAt_V rx ry fx fy
    · cases rx; cases ry; exact SeqAt.EqAt.same _
  intro n
  induction n with
  | zero => intro A x y u v b _ rx ry h; exact z0 rx ry h
  | succ n ih =>
    intro A x y u v b hu rx ry h
    unfold EqD at h
    rcases h with h | ⟨a, c, l, xs, ys, e, rfl, rfl, ne, h1, h2, he, rfl⟩
    · exact z0 rx ry h
    · cases rx; cases ry
      obtain ⟨us, r1, p1, _⟩ := I.seqB h1
      obtain ⟨vs, r2, p2, _⟩ := I.seqB h2
      refine SeqAt.EqAt.of_refs ne (rc_seq r1 r2 p1 p2 (by omega) fun j j1 j2 => ?_)
      obtain ⟨x, ex, rx⟩ := vals_arr r1 j1
      obtain ⟨y, ey, ry⟩ := vals_arr r2 j2
      exact ih (A := A.in1) (by show A.units + 1 + n < cLine; omega) rx ry (he j x y ex ey)
def EqS (K : PySem.W.Frag) (H : Hp) (n : Nat) (x y : V) (b : Bool) : Prop := ∃ (a c : Addr) (l : Bool) (xs ys : List V) (e : Nat → Bool), x = .ref a ∧ y = .ref c ∧ SqB K l H a xs ∧ SqB K l H c ys ∧
  (∀ j x y, xs[j]? = some x → ys[j]? = some y → EqD K H n x y (e j)) ∧ b = ((List.range (min xs.length ys.length)).all e && xs.length == ys.length)
theorem op_eqS (n : Nat) (hu : X.A.units + n + 1 < cLine) : OpR X (compareOp .Eq) (fun x y H Q => ∃ b, EqS X.K H n x y b ∧ Q (.bl b) H) := by
  intro pins s σ H x y v u Q I rx ry h
  obtain ⟨b, ⟨a, c, l, xs, ys, e, rfl, rfl, h1, h2, he, rfl⟩, q⟩ := h
  cases rx; cases ry
  obtain ⟨us, r1, p1, _⟩ := I.seqB h1
  obtain ⟨vs, r2, p2, _⟩ := I.seqB h2
  refine rc_seq (A := X.A) r1 r2 p1 p2 (by omega) (fun j j1 j2 => ?_) X.prog X.w X.xe _ (fin_bl I q rfl)
  obtain ⟨x, ex, rx⟩ := vals_arr r1 j1
  obtain ⟨y, ey, ry⟩ := vals_arr r2 j2
  exact EqD.at I (A := X.A.in1) (by show X.A.units + 1 + n < cLine; omega) rx ry (he j x y ex ey)
theorem op_neS (n : Nat) (hu : X.A.units + n + 1 < cLine) : OpR X (compareOp .NotEq) (fun x y H Q => ∃ b, EqS X.K H n x y b ∧ Q (.bl (!b)) H) := by
  intro pins s σ H x y v u Q I rx ry h
  obtain ⟨b, ⟨a, c, l, xs, ys, e, rfl, rfl, h1, h2, he, rfl⟩, q⟩ := h
  cases rx; cases ry
  obtain ⟨us, r1, p1, _⟩ := I.seqB h1
  obtain ⟨vs, r2, p2, _⟩ := I.seqB h2
  refine rcne_seq (A := X.A) r1 r2 p1 p2 (by omega) (fun j j1 j2 => ?_) X.prog X.w X.xe _ (fin_bl I q rfl)
  obtain ⟨x, ex, rx⟩ := vals_arr r1 j1
  obtain ⟨y, ey, ry⟩ := vals_arr r2 j2
  exact EqD.at I (A := X.A.in1) (by show X.A.units + 1 + n < cLine; omega) rx ry (he j x y ex ey)
def rEqC (K : PySem.W.Frag) : R2 := fun x y H Q => rEq x y H Q ∨ ∃ b, EqS K H 4 x y b ∧ Q (.bl b) H
def rNeC (K : PySem.W.Frag) : R2 := fun x y H Q => rNe x y H Q ∨ ∃ b, EqS K H 4 x y b ∧ Q (.bl (!b)) H
theorem hu5 {A : Around} {k : Nat} (hr : Room k A) : A.units + 4 + 1 < cLine := Nat.lt_of_le_of_lt (Nat.add_le_add_left (by decide : 5 ≤ 64) _) hr.units
theorem opEqC (K : PySem.W.Frag) (hu : X.A.units + 4 + 1 < cLine) (h : X.K = K := by rfl) : OpR X (compareOp .Eq) (rEqC K) := h ▸ opEq.or (op_eqS 4 hu)
theorem opNeC (K : PySem.W.Frag) (hu : X.A.units + 4 + 1 < cLine) (h : X.K = K := by rfl) : OpR X (compareOp .NotEq) (rNeC K) := h ▸ opNe.or (op_neS 4 hu)
end
theorem rEqC_ii {K : PySem.W.Frag} {i j : Int} {H : Hp} {Q : VK} : rEqC K (.int i) (.int j) H Q ↔ Q (.bl (decide (i = j))) H := by simp [rEqC, rEq_ii, EqS]
theorem rNeC_ii {K : PySem.W.Frag} {i j : Int} {H : Hp} {Q : VK} : rNeC K (.int i) (.int j) H Q ↔ Q (.bl (!decide (i = j))) H := by simp [rNeC, rNe_ii, EqS]
theorem rEqC_ss {K : PySem.W.Frag} {i j : Str} {H : Hp} {Q : VK} : rEqC K (.str i) (.str j) H Q ↔ Q (.bl (decide (i = j))) H := by simp [rEqC, rEq_ss, EqS]
theorem rNeC_ss {K : PySem.W.Frag} {i j : Str} {H : Hp} {Q : VK} : rNeC K (.str i) (.str j) H Q ↔ Q (.bl (!decide (i = j))) H := by simp [rNeC, rNe_ss, EqS]
theorem jEq_C (K : PySem.W.Frag) : jEq (rEqC K) = rEqC K := jEq_of (fun _ _ _ _ => rEqC_ii) (fun _ _ _ _ => rEqC_ss)
theorem jNe_C (K : PySem.W.Frag) : jNe (rNeC K) = rNeC K := jNe_of (fun _ _ _ _ => rNeC_ii) (fun _ _ _ _ => rNeC_ss)
theorem jEqC_x {K : PySem.W.Frag} {x y : V} {H : Hp} {Q : VK} : jEq (rEqC K) x y H Q ↔ rEqC K x y H Q := by rw [jEq_C]
theorem jNeC_x {K : PySem.W.Frag} {x y : V} {H : Hp} {Q : VK} : jNe (rNeC K) x y H Q ↔ rNeC K x y H Q := by rw [jNe_C]
theorem oEqC {X : Cx} (K : PySem.W.Frag) (hu : X.A.units + 4 + 1 < cLine) (h : X.K = K := by rfl) : OpR X (compareOp .Eq) (jEq (rEqC K)) := by rw [jEq_C]; exact opEqC K hu h
theorem oNeC {X : Cx} (K : PySem.W.Frag) (hu : X.A.units + 4 + 1 < cLine) (h : X.K = K := by rfl) : OpR X (compareOp .NotEq) (jNe (rNeC K)) := by rw [jNe_C]; exact opNeC K hu h
end L2
namespace L2
open PySem PySem.Spec PyProof.Rows
structure FnAt (P : Program) (w : World) (K : PySem.W.Frag) (mg : Str → Option Value) (base : Heap) (k : Nat) (f : Addr) (ps : List Str) (sp : Sp) : Prop where
  ex : ∃ fd : FuncData, FnOk P w K mg base CX0 k f fd ps sp ∧ PySem.W.keepIn K (.ref f) = true ∧ Binds K fd ps []
structure MethOk (P : Program) (w : World) (K : PySem.W.Frag) (mg : Str → Option Value) (base : Heap) (C : Addr) (m : Str) (k : Nat) (ps : List Str) (sp : Sp) : Prop where
  cl : Cls K C
  ex : ∃ (f : Addr) (fd : FuncData), Meth K C m f ∧ FnOk P w K mg base CX0 k f fd ps sp ∧ Binds K fd ps []
structure CMeth (K : PySem.W.Frag) (C : Addr) (m : Str) (f : Addr) : Prop where
  rd : PySem.W.readsIn K C (.type "type") = true
  at_ : PySem.W.findCls K (.ref C) (.type "type") m = some (.val (.ref f))
  ga : PySem.W.specialIn K (.ref C) "__getattribute__" = some (some (.builtin "type.__getattribute__"))
  kp : PySem.W.keepIn K (.ref f) = true
structure DefC (P : Program) (w : World) (K : PySem.W.Frag) (mg : Str → Option Value) (base : Heap) (x m : Str) (k : Nat) (ps : List Str) (sp : Sp) : Prop where
  ex : ∃ (C f : Addr) (fd : FuncData), mg x = some (.ref C) ∧ CMeth K C m f ∧ FnOk P w K mg base CX0 k f fd ps sp ∧ Binds K fd ps []
structure DefM (P : Program) (w : World) (K : PySem.W.Frag) (mg : Str → Option Value) (base : Heap) (x : Str) (C : Addr) (k : Nat) (ps : List Str) (sp : Sp) : Prop where
  ex : ∃ (f : Addr) (fd : FuncData), Mk K C f ∧ FnOk P w K mg base CX0 k f fd ps sp ∧ mg x = some (.ref C) ∧ Binds K fd ps []
section
variable {P : Program} {w : World} {K : PySem.W.Frag} {mg : Str → Option Value} {base : Heap} {j k : Nat} {ps : List Str} {sp : Sp} {x m : Str} {C f : Addr}
end
def tMethG (P : Program) (w : World) (K : PySem.W.Frag) (mg : Str → Option Value) (base : Heap) (k : Nat) (m : Str) (ta : TE) (t : TA) : TE := fun σ H Q => ta σ H fun x H1 => ∃ (a C dx : Addr) (fs : List (Str × V)) (ps : List Str) (sp : Sp),
  x = .ref a ∧ H1 a = some (.ins C dx fs) ∧ fs.lookup m = none ∧ MethOk P w K mg base C m k ps sp ∧ t σ H1 fun vs H2 => sp (x :: vs) H2 Q E0
def tCallE (P : Program) (w : World) (K : PySem.W.Frag) (mg : Str → Option Value) (base : Heap) (k : Nat) (tf : TE) (t : TA) : TE := fun σ H Q => tf σ H fun x H1 => ∃ (f : Addr) (ps : List Str) (sp : Sp),
  x = .ref f ∧ FnAt P w K mg base k f ps sp ∧ t σ H1 fun vs H2 => sp vs H2 Q E0
section
variable {X : Cx} {k : Nat} {f C : Addr} {fd : FuncData} {ps : List Str} {sp : Sp} {x m : Str} {p pos apos : Pos} {e o : Expr} {es : List Expr} {ta : TE} {t : TA}
end
def TabK (K : PySem.W.Frag) (a : Addr) (D : List (Str × V)) : Prop := (a == sysModules) = false ∧ ∃ o es ep, K.lookup a = some o ∧ o.ExactDict ∧ o.data = .dict es ep ∧ KTD.Rows RelV es.toList D
section
variable {prog : Program} {w : World} {A : Around} {E : Value → Shared → Prop} {s : Shared} {K : PySem.W.Frag} {a : Addr} {D : List (Str × V)} {k : Str} {tk : Tok}
theorem TabK.typeIs (X : K.In s.heap) (T : TabK K a D) : s.TypeIs (.ref a) "dict" := let ⟨_, o, _, _, ho, hc, _⟩ := T; ⟨o, X _ _ ho, hc.1⟩
end
section
variable {X : Cx}
end
end L2
namespace L2
open PySem PySem.Spec PyProof.Rows
theorem ofString_inj {a b : String} : (Str.ofString a = Str.ofString b) ↔ a = b := by
  constructor
  · intro h
    rw [Str.ofString_eq_toList, Str.ofString_eq_toList] at h
    have h1 : (a.toList.map Char.toNat) = (b.toList.map Char.toNat) := by
      have := congrArg (fun s : Str => s.cps.toList) h
      simpa using this
    have h2 : a.toList = b.toList := by
      refine List.map_inj_right (f := Char.toNat) (fun x y e => ?_) |>.mp h1
      exact Char.toNat_inj.mp e
    exact String.toList_inj.mp h2
  · intro h; rw [h]
def ofI : Option Int → V
  | none => .non
  | some i => .int i
structure RSem where
  size : Int
  start : Int
  after : Int → Option (List Int) → List Int → Option Int
  closes : Int → Option (List Int) → Bool
def brkGo (S : RSem) (m : Int) (b : Option (List Int)) (i : Nat) : List (List Int) → Option Nat
  | [] => if S.closes m b = true then none else some i
  | c :: cs => match S.after m b c with
    | none => some i
    | some m' => brkGo S m' (some c) (i + 1) cs
def brk (S : RSem) (cols : List (List Int)) : Option Int := (brkGo S S.start none 0 cols).map fun (n : Nat) => (n : Int)
def LineAt (K : PySem.W.Frag) (H : Hp) (l : Addr) (nv : Nat) (cols : List (List Int)) : Prop := ∃ ps : List Addr, SqL K H l (ps.map V.ref) ∧ ps.length = cols.length ∧ ∀ (i : Nat) (p : Addr) (us : List Int), ps[i]? = some p → cols[i]? = some us → SqT K H p (us.map V.int) ∧ us.length = nv
structure RowIs (z kind : Str) (ns : List Int) : Prop where
  cs : z.cps.toList = joinC 32 (kind.cps.toList :: ns.map numC)
  nb : ∀ n ∈ ns, n.natAbs < 10 ^ 40
  nl : ns.length ≤ 20
  ks : 32 ∉ kind.cps.toList
  kl : kind.length ≤ 20
  k0 : kind.cps.toList ≠ []
theorem numC_no (n : Int) : 32 ∉ numC n := fun h => by
  have := numC_signs n 32 h
  omega
theorem str_ext {x y : Str} (h : x.cps.toList = y.cps.toList) : x = y := by
  have := str_eq_codes x y
  rw [decide_eq_true h] at this
  exact of_decide_eq_true this
theorem map_codes_inj : ∀ {xs ys : List Str}, xs.map (fun z => z.cps.toList) = ys.map (fun z => z.cps.toList) → xs = ys
  | [], [], _ => rfl
  | [], _ :: _, h => by simp at h
  | _ :: _, [], h => by simp at h
  | x :: xs, y :: ys, h => by
    rw [List.map_cons, List.map_cons] at h
    injection h with h1 h2
    rw [str_ext h1, map_codes_inj h2]
def numS (n : Int) : Str := Str.ofString (toString n)
theorem RowIs.split {z kind : Str} {ns : List Int} (R : RowIs z kind ns) : Txt.split z ⟨#[32]⟩ = kind :: ns.map numS := by
  refine map_codes_inj ?_
  rw [split_codes z (by decide), R.cs, spl_join 32 _ (by simp) (fun p hp => ?_), List.map_cons, List.map_map]
  · rfl
  · rcases List.mem_cons.mp hp with rfl | hp
    · exact R.ks
    · obtain ⟨n, _, rfl⟩ := List.mem_map.mp hp
      exact numC_no n
theorem joinC_len (c : Nat) : ∀ (ps : List (List Nat)) (m : Nat), (∀ p ∈ ps, p.length ≤ m) → (joinC c ps).length ≤ ps.length * (m + 1)
  | [], _, _ => by simp [joinC]
  | p :: ps, m, h => by
    have h1 := h p (by simp)
    have h2 := joinC_len c ps m (fun q hq => h q (by simp [hq]))
    have h3 : (joinC c (p :: ps)).length ≤ p.length + 1 + (joinC c ps).length := by
      cases ps with
      | nil => simp [joinC]
      | cons q ps =>
        simp [joinC, List.length_append]
        omega
    rw [List.length_cons, Nat.succ_mul]
    omega
theorem RowIs.head {z kind : Str} {ns : List Int} (R : RowIs z kind ns) : z.cps.toList.head? = kind.cps.toList.head? := by
  rw [R.cs]
  cases e : kind.cps.toList with
  | nil => exact absurd e R.k0
  | cons a l =>
    cases ns with
    | nil => simp [joinC]
    | cons n ns => simp [joinC]
end L2
namespace L2
open PySem PySem.Spec PyProof.Rows
theorem cutV_from (xs : List V) (k : Nat) : cutV xs (some (k : Int)) none = xs.drop k := by
  unfold cutV
  rw [HT.sIx_nat, HT.sIx_none]
  by_cases h : k ≤ xs.length
  · rw [Nat.min_eq_left h, List.take_of_length_le (by rw [List.length_drop]; omega)]
  · rw [Nat.min_eq_right (by omega), List.drop_of_length_le (Nat.le_refl _), List.drop_of_length_le (by omega), List.take_nil]
end L2
namespace L2
open PySem PySem.Spec PyProof.Rows
structure CMethAt (K : PySem.W.Frag) (x m qual : Str) (st : Stmt) (C f : Addr) (fd : FuncData) : Prop where
  ns : PySem.W.nsIn K mainGlobals x = some (some (.ref C))
  cm : CMeth K C m f
  fn : Fun K m qual st f fd
theorem CMethAt.df {P : Program} {w : World} {K : PySem.W.Frag} {mg : Str → Option Value} {base h : Heap} {x m qual : Str} {st : Stmt} {C f : Addr} {fd : FuncData} {k : Nat} {ps : List Str} {sp : Sp} (A : CMethAt K x m qual st C f fd) (X : K.In h) (G : h.Ns mainGlobals mg) (ok : FnOk P w K mg base CX0 k f fd ps sp) (b : Binds K fd ps []) : DefC P w K mg base x m k ps sp :=
  ⟨C, f, fd, PySem.W.mg_of X G A.ns, A.cm, ok, b⟩
structure MkAt (K : PySem.W.Frag) (x qual : Str) (st : Stmt) (C f : Addr) (fd : FuncData) : Prop where
  ns : PySem.W.nsIn K mainGlobals x = some (some (.ref C))
  mm : Mk K C f
  fn : Fun K "__init__" qual st f fd
theorem MkAt.df {P : Program} {w : World} {K : PySem.W.Frag} {mg : Str → Option Value} {base h : Heap} {x qual : Str} {st : Stmt} {C f : Addr} {fd : FuncData} {k : Nat} {ps : List Str} {sp : Sp} (A : MkAt K x qual st C f fd) (X : K.In h) (G : h.Ns mainGlobals mg) (ok : FnOk P w K mg base CX0 k f fd ps sp) (b : Binds K fd ps []) : DefM P w K mg base x C k ps sp :=
  ⟨f, fd, A.mm, ok, PySem.W.mg_of X G A.ns, b⟩
theorem ixN_in {n : Nat} {k : Int} (h0 : 0 ≤ k) (h1 : k < n) : ixN n k = some k.toNat := by
  unfold ixN
  obtain ⟨j, rfl⟩ := Int.eq_ofNat_of_zero_le h0
  simp
  omega
end L2
namespace L2
open PySem PySem.Spec PyProof.Rows
section
variable {X : Cx}
theorem call_str_text : CallR X (.type "str") (fun xs H Q => ∃ z, xs = [.str z] ∧ Q (.str z) H) := by
  intro pins s σ H xs us Q I r h
  obtain ⟨z, rfl, q⟩ := h
  obtain ⟨u, rfl, ru⟩ := vals1 r
  obtain ⟨t, rfl⟩ := ru
  exact P.str_of_str ⟨.str z, H, I, ⟨t, rfl⟩, q⟩
def rStr : List V → Hp → VK → Prop := fun xs H Q => (∃ i, xs = [.int i] ∧ i.natAbs.log2 < 1920 ∧ Q (.str (numS i)) H) ∨ ∃ z, xs = [.str z] ∧ Q (.str z) H
theorem call_strB : CallR X (.type "str") rStr := call_str_int.or call_str_text
end
theorem rStr_i {i : Int} {H : Hp} {Q : VK} : rStr [.int i] H Q ↔ i.natAbs.log2 < 1920 ∧ Q (.str (numS i)) H := by simp [rStr]
theorem rStr_s {z : Str} {H : Hp} {Q : VK} : rStr [.str z] H Q ↔ Q (.str z) H := by simp [rStr]
end L2
namespace L3
open PySem PySem.Spec PyProof.Rows
section
variable {prog : Program} {w : World} {A : Around} {E : Value → Shared → Prop} {s : Shared}
end
end L3
namespace L2
open PySem PySem.Spec PyProof.Rows
def gSeq (K : PySem.W.Frag) (n : Nat) (t : TGs) : TG := fun v σ H Q => ∃ a l xs, v = .ref a ∧ SqB K l H a xs ∧ xs.length = n ∧ t xs σ H Q
end L2
namespace L2
open PySem PySem.Spec PyProof.Rows
section
variable {X : Cx} {e st : Expr} {te : TE} {p2 pos : Pos}
def tRev (K : PySem.W.Frag) (te ts : TE) : TE := fun σ H Q => te σ H fun x H1 => ts σ H1 fun y H2 => y = .int (-1) ∧ ∃ a xs, x = .ref a ∧ SqL K H2 a xs ∧ ∀ p, H2 p = none → Q (.ref p) (upd H2 p (.lst xs.reverse))
end
end L2
namespace L2
open PySem PySem.Spec PyProof.Rows
def firstN (B : Nat → Bool) (i : Nat) : Nat → Option Nat
  | 0 => none
  | k + 1 => if B i = true then some i else firstN B (i + 1) k
theorem firstN_snoc (B : Nat → Bool) : ∀ (k i : Nat), firstN B i (k + 1) = match firstN B i k with | some j => some j | none => if B (i + k) = true then some (i + k) else none
  | 0, i => by simp [firstN]
  | k + 1, i => by
    have ih := firstN_snoc B k (i + 1)
    rw [firstN, ih]
    by_cases hb : B i = true
    · simp [firstN, hb]
    · rw [if_neg hb]
      simp only [firstN]
      rw [if_neg hb, show i + 1 + k = i + (k + 1) by omega]
def prevC (cols : List (List Int)) : Nat → Option (List Int)
  | 0 => none
  | i + 1 => cols[i]?
structure Walks (S : RSem) (cols : List (List Int)) (mem : Nat → Int) (B : Nat → Bool) : Prop where
  m0 : S.start = mem 0
  st : ∀ (i : Nat) (us : List Int), cols[i]? = some us → S.after (mem i) (prevC cols i) us = if B i = true then none else some (mem (i + 1))
theorem Walks.go {S : RSem} {cols : List (List Int)} {mem : Nat → Int} {B : Nat → Bool} (h : Walks S cols mem B) : ∀ (k i : Nat), i + k = cols.length → brkGo S (mem i) (prevC cols i) i (cols.drop i) = match firstN B i k with | some j => some j | none => if S.closes (mem cols.length) (prevC cols cols.length) = true then none else some cols.length
  | 0, i, e => by
    have e' : i = cols.length := by omega
    subst e'
    rw [List.drop_length]
    rfl
  | k + 1, i, e => by
    have hi : i < cols.length := by omega
    rw [List.drop_eq_getElem_cons hi]
    simp only [brkGo, firstN]
    rw [h.st i cols[i] (List.getElem?_eq_getElem hi)]
    by_cases hb : B i = true
    · rw [if_pos hb, if_pos hb]
    · rw [if_neg hb, if_neg hb]
      have := h.go k (i + 1) (by omega)
      rw [show prevC cols (i + 1) = some cols[i] from List.getElem?_eq_getElem hi] at this
      exact this
def dueW (B : Nat → Bool) (n : Nat) (cl : Bool) : Option Int := match firstN B 0 n with | some j => some (j : Int) | none => if cl = true then none else some (n : Int)
theorem Walks.brk {S : RSem} {cols : List (List Int)} {mem : Nat → Int} {B : Nat → Bool} (h : Walks S cols mem B) : brk S cols = dueW B cols.length (S.closes (mem cols.length) (prevC cols cols.length)) := by
  have := h.go cols.length 0 (by omega)
  unfold L2.brk dueW
  rw [h.m0]
  rw [show prevC cols 0 = none from rfl, List.drop_zero] at this
  rw [this]
  cases firstN B 0 cols.length with
  | some j => rfl
  | none =>
    simp only
    by_cases hc : S.closes (mem cols.length) (prevC cols cols.length) = true
    · rw [if_pos hc, if_pos hc]; rfl
    · rw [if_neg hc, if_neg hc]; rfl
def ColsAt (H : Hp) (nv : Nat) (ps : List Addr) (cols : List (List Int)) : Prop := ps.length = cols.length ∧ ∀ (i : Nat) (p : Addr) (us : List Int), ps[i]? = some p → cols[i]? = some us → H p = some (.tup (us.map V.int)) ∧ us.length = nv
theorem ColsAt.at {K : PySem.W.Frag} {H : Hp} {nv : Nat} {ps : List Addr} {cols : List (List Int)} (h : ColsAt H nv ps cols) : ∀ (i : Nat) (p : Addr) (us : List Int), ps[i]? = some p → cols[i]? = some us → SqT K H p (us.map V.int) ∧ us.length = nv := fun i p us e1 e2 => ⟨SqT.of (h.2 i p us e1 e2).1, (h.2 i p us e1 e2).2⟩
theorem ColsAt.line {K : PySem.W.Frag} {H : Hp} {nv : Nat} {ps : List Addr} {cols : List (List Int)} {l : Addr} (h : ColsAt H nv ps cols) (hl : H l = some (.lst (ps.map V.ref))) : LineAt K H l nv cols := ⟨ps, SqL.of hl, h.1, h.at⟩
end L2
namespace L3
open PySem PySem.Spec PyProof.Rows L2 HT
section
variable {prog : Program} {w : World} {A : Around} {E : Value → Shared → Prop} {s : Shared}
end
end L3
namespace L2
open PySem PySem.Spec PyProof.Rows
section
variable {X : Cx}
def rCat0 (K : PySem.W.Frag) : R2 := fun x y H Q => ∃ a b ys, x = .ref a ∧ y = .ref b ∧ SqT K H a [] ∧ SqT K H b ys ∧ Q (.ref b) H
def rAddT (K : PySem.W.Frag) : R2 := fun x y H Q => rAddA K x y H Q ∨ rCat0 K x y H Q
end
theorem rAddT_ii {K : PySem.W.Frag} {i j : Int} {H : Hp} {Q : VK} : rAddT K (.int i) (.int j) H Q ↔ Q (.int (i + j)) H := by
  simp [rAddT, rAddA_ii, rCat0]
theorem jAdd_T (K : PySem.W.Frag) : jAdd (rAddT K) = rAddT K := jAdd_of fun _ _ _ _ => rAddT_ii
theorem jAddT_x {K : PySem.W.Frag} {x y : V} {H : Hp} {Q : VK} : jAdd (rAddT K) x y H Q ↔ rAddT K x y H Q := by rw [jAdd_T]
end L2
namespace L2
open PySem PySem.Spec PyProof.Rows
def Itd (lo : Int) (n : Nat) : It := ⟨fun i _ => i < n, fun i H x H' => H' = H ∧ x = .int (lo - i), fun i _ => n ≤ i⟩
section
variable {X : Cx} {tg : Expr}
def iRngD (ta : TA) : TI := fun σ H R => ta σ H fun vs H1 => ∃ i j : Int, vs = [.int i, .int j, .int (-1)] ∧ (-(2 ^ 62) ≤ i ∧ i < 2 ^ 62 ∧ -(2 ^ 62) ≤ j ∧ j < 2 ^ 62) ∧ R (Itd i (i - j).toNat) H1
end
end L2
namespace L2
open PySem PySem.Spec PyProof.Rows
def splN (c : Nat) : Nat → List Nat → List (List Nat)
  | 0, l => [l]
  | _ + 1, [] => [[]]
  | n + 1, a :: l => if a = c then [] :: splN c n l else match splN c (n + 1) l with
    | [] => [[a]]
    | p :: r => (a :: p) :: r
theorem splN_ne (c : Nat) : ∀ n l, splN c n l ≠ []
  | 0, l => by simp [splN]
  | n + 1, [] => by simp [splN]
  | n + 1, a :: l => by
    simp only [splN]
    split
    · simp
    · split <;> simp
theorem parts_scanN (x : Str) (c : Nat) : ∀ (l : List Nat) (n a j : Nat), a ≤ j → x.cps.toList.drop j = l → j ≤ x.length →
    (StrLaws.partsFrom x 1 a ((posF c l j).take n)).map (fun z => z.cps.toList) = match splN c n l with
      | [] => []
      | p :: r => ((x.cps.toList.drop a).take (j - a) ++ p) :: r
  | l, 0, a, j, haj, hl, hj => by
    simp only [List.take_zero, splN, StrLaws.partsFrom, List.map_cons, List.map_nil, StrLaws.strSub_toList]
    congr 1
    rw [List.take_of_length_le (by rw [List.length_drop, str_len]; omega)]
    have := List.take_append_drop (j - a) (x.cps.toList.drop a)
    rw [List.drop_drop, show a + (j - a) = j by omega, hl] at this
    exact this.symm
  | [], n + 1, a, j, haj, hl, hj => by
    have hj' : x.length ≤ j := by rw [str_len]; exact List.drop_eq_nil_iff.mp hl
    have e : j = x.length := by omega
    subst e
    simp [posF, splN, StrLaws.partsFrom, StrLaws.strSub_toList]
  | b :: l, n + 1, a, j, haj, hl, hj => by
    have hb : x.cps.toList[j]? = some b := by
      have : (x.cps.toList.drop j)[0]? = some b := by rw [hl]; rfl
      rwa [List.getElem?_drop, Nat.add_zero] at this
    have hi : j < x.length := by
      rw [str_len]
      obtain ⟨h, _⟩ := List.getElem?_eq_some_iff.mp hb
      exact h
    have hd : x.cps.toList.drop (j + 1) = l := by
      rw [← List.drop_drop, hl]; rfl
    by_cases hc : b = c
    · have ih := parts_scanN x c l n (j + 1) (j + 1) (Nat.le_refl _) hd hi
      simp only [posF, hc, if_true, List.take_succ_cons, StrLaws.partsFrom, List.map_cons, splN, List.append_nil]
      rw [ih]
      cases hs : splN c n l with
      | nil => exact absurd hs (splN_ne c n l)
      | cons p r => simp [StrLaws.strSub_toList]
    · have ih := parts_scanN x c l (n + 1) a (j + 1) (by omega) hd hi
      simp only [posF, hc, if_false, splN]
      rw [ih]
      cases hs : splN c (n + 1) l with
      | nil => exact absurd hs (splN_ne c (n + 1) l)
      | cons p r =>
        have ht : (x.cps.toList.drop a).take (j + 1 - a) = (x.cps.toList.drop a).take (j - a) ++ [b] := by
          have e1 : j + 1 - a = (j - a) + 1 := by omega
          rw [e1, List.take_add_one, List.getElem?_drop]
          have e2 : a + (j - a) = j := by omega
          rw [e2, hb]; rfl
        simp [ht]
theorem splN_cut (c n : Nat) (rest : List Nat) : ∀ (p : List Nat), c ∉ p → splN c (n + 1) (p ++ c :: rest) = p :: splN c n rest
  | [], _ => by simp [splN]
  | a :: p, h => by
    have h1 : ¬ a = c := fun e => h (by simp [e])
    have ih := splN_cut c n rest p (fun e => h (by simp [e]))
    show splN c (n + 1) (a :: (p ++ c :: rest)) = _
    simp only [splN, h1, if_false]
    rw [ih]
theorem pos_some (c : Nat) (rest : List Nat) : ∀ (p : List Nat) (i : Nat), posF c (p ++ c :: rest) i ≠ []
  | [], i => by simp [posF]
  | a :: p, i => by
    show posF c (a :: (p ++ c :: rest)) i ≠ []
    simp only [posF]
    split
    · simp
    · exact pos_some c rest p (i + 1)
def parts2 (z : Str) (c k : Nat) : List Str := Builtin.Str.partsBetween z ((posF c z.cps.toList 0).take k) 1
theorem parts2_codes (z : Str) (c k : Nat) : (parts2 z c k).map (fun y => y.cps.toList) = splN c k z.cps.toList := by
  unfold parts2
  rw [StrLaws.partsBetween_eq, parts_scanN z c z.cps.toList k 0 0 (Nat.le_refl _) rfl (Nat.zero_le _)]
  cases hs : splN c k z.cps.toList with
  | nil => exact absurd hs (splN_ne c k _)
  | cons p r => simp
end L2
namespace L2
open PySem PySem.Spec PyProof.Rows
structure RowE (z rest : Str) (t u : Int) : Prop where
  cs : z.cps.toList = (Str.ofString "every").cps.toList ++ 32 :: (numC t ++ 32 :: (numC u ++ 32 :: rest.cps.toList))
  tb : t.natAbs < 10 ^ 40
  ub : u.natAbs < 10 ^ 40
  rl : rest.length ≤ 10000
theorem RowE.split {z rest : Str} {t u : Int} (R : RowE z rest t u) : parts2 z 32 3 = [Str.ofString "every", numS t, numS u, rest] := by
  refine map_codes_inj ?_
  rw [parts2_codes, R.cs, splN_cut 32 2 _ _ (by decide +kernel), splN_cut 32 1 _ _ (numC_no t), splN_cut 32 0 _ _ (numC_no u)]
  simp only [splN, List.map_cons, List.map_nil]
  rfl
theorem RowE.pos {z rest : Str} {t u : Int} (R : RowE z rest t u) : posF 32 z.cps.toList 0 ≠ [] := by
  rw [R.cs]
  exact pos_some 32 _ _ 0
end L2
namespace L2
open PySem PySem.Spec PyProof.Rows
section
variable {X : Cx} {tg : Expr}
end
end L2
namespace L2
open PySem PySem.Spec PyProof.Rows
theorem e_rdV_iff {k : V → Prop} {σ : L2.St} {i : Nat} : (rdV σ i k) = (∃ v, σ[i]? = some (some v) ∧ k v) := propext rdV_iff
theorem e_asI_iff {v : V} {k : Int → Prop} : (asI v k) = (∃ i, v = V.int i ∧ k i) := propext asI_iff
theorem e_asB_iff {v : V} {k : Bool → Prop} : (asB v k) = (∃ i, v = V.bl i ∧ k i) := propext asB_iff
theorem e_jEq_x {x y : V} {H : Hp} {Q : VK} : (jEq rEq x y H Q) = (rEq x y H Q) := propext jEq_x
theorem e_jNe_x {x y : V} {H : Hp} {Q : VK} : (jNe rNe x y H Q) = (rNe x y H Q) := propext jNe_x
theorem e_jAddA_x {K : W.Frag} {x y : V} {H : Hp} {Q : VK} : (jAdd (rAddA K) x y H Q) = (rAddA K x y H Q) := propext jAddA_x
theorem e_jMulB_x {K : W.Frag} {x y : V} {H : Hp} {Q : VK} : (jMul (rMulB K) x y H Q) = (rMulB K x y H Q) := propext jMulB_x
theorem e_jEqC_x {K : W.Frag} {x y : V} {H : Hp} {Q : VK} : (jEq (rEqC K) x y H Q) = (rEqC K x y H Q) := propext jEqC_x
theorem e_jNeC_x {K : W.Frag} {x y : V} {H : Hp} {Q : VK} : (jNe (rNeC K) x y H Q) = (rNeC K x y H Q) := propext jNeC_x
theorem e_jAddT_x {K : W.Frag} {x y : V} {H : Hp} {Q : VK} : (jAdd (rAddT K) x y H Q) = (rAddT K x y H Q) := propext jAddT_x
theorem e_rAddA_ii {K : W.Frag} {i j : Int} {H : Hp} {Q : VK} : (rAddA K (V.int i) (V.int j) H Q) = (Q (V.int (i + j)) H) := propext rAddA_ii
theorem e_rAddT_ii {K : W.Frag} {i j : Int} {H : Hp} {Q : VK} : (rAddT K (V.int i) (V.int j) H Q) = (Q (V.int (i + j)) H) := propext rAddT_ii
theorem e_rAddA_ss {K : W.Frag} {i j : Str} {H : Hp} {Q : VK} : (rAddA K (V.str i) (V.str j) H Q) = (i.length + j.length ≤ sizeLine ∧ Q (V.str (i ++ j)) H) := propext rAddA_ss
theorem e_rMulA_ii {i j : Int} {H : Hp} {Q : VK} : (rMulA (V.int i) (V.int j) H Q) = (IntMulOk i j ∧ Q (V.int (i * j)) H) := propext rMulA_ii
theorem e_rMulA_si {z : Str} {j : Int} {H : Hp} {Q : VK} : (rMulA (V.str z) (V.int j) H Q) = ((-1000000 ≤ j ∧ j ≤ 1000000 ∧ z.length ≤ 16) ∧ Q (V.str (repS z j)) H) := propext rMulA_si
theorem e_rMulB_ii {K : W.Frag} {i j : Int} {H : Hp} {Q : VK} : (rMulB K (V.int i) (V.int j) H Q) = (IntMulOk i j ∧ Q (V.int (i * j)) H) := propext rMulB_ii
theorem e_rMulB_si {K : W.Frag} {z : Str} {j : Int} {H : Hp} {Q : VK} : (rMulB K (V.str z) (V.int j) H Q) = ((-1000000 ≤ j ∧ j ≤ 1000000 ∧ z.length ≤ 16) ∧ Q (V.str (repS z j)) H) := propext rMulB_si
theorem e_rSlA_s {K : W.Frag} {z : Str} {lo hi : Option Int} {H : Hp} {Q : VK} : (rSlA K (V.str z) lo hi H Q) = (z.length ≤ sizeLine ∧ Q (V.str (Txt.slice z lo hi)) H) := propext rSlA_s
theorem e_rIx_s {K : W.Frag} {z : Str} {i : Int} {H : Hp} {Q : VK} : (rIx K (V.str z) (V.int i) H Q) = (z.length ≤ sizeLine ∧ ∃ c, atI z.cps.toList i = some c ∧ Q (V.str { cps := #[c] }) H) := propext rIx_s
theorem e_rEq_ii {i j : Int} {H : Hp} {Q : VK} : (rEq (V.int i) (V.int j) H Q) = (Q (V.bl (decide (i = j))) H) := propext rEq_ii
theorem e_rNe_ii {i j : Int} {H : Hp} {Q : VK} : (rNe (V.int i) (V.int j) H Q) = (Q (V.bl !decide (i = j)) H) := propext rNe_ii
theorem e_rEq_ss {i j : Str} {H : Hp} {Q : VK} : (rEq (V.str i) (V.str j) H Q) = (Q (V.bl (decide (i = j))) H) := propext rEq_ss
theorem e_rEqB_ii {K : W.Frag} {i j : Int} {H : Hp} {Q : VK} : (rEqB K (V.int i) (V.int j) H Q) = (Q (V.bl (decide (i = j))) H) := propext rEqB_ii
theorem e_rNeB_ii {K : W.Frag} {i j : Int} {H : Hp} {Q : VK} : (rNeB K (V.int i) (V.int j) H Q) = (Q (V.bl !decide (i = j)) H) := propext rNeB_ii
theorem e_rEqB_ss {K : W.Frag} {i j : Str} {H : Hp} {Q : VK} : (rEqB K (V.str i) (V.str j) H Q) = (Q (V.bl (decide (i = j))) H) := propext rEqB_ss
theorem e_rNeB_ss {K : W.Frag} {i j : Str} {H : Hp} {Q : VK} : (rNeB K (V.str i) (V.str j) H Q) = (Q (V.bl !decide (i = j)) H) := propext rNeB_ss
theorem e_rEqB_bb {K : W.Frag} {i j : Bool} {H : Hp} {Q : VK} : (rEqB K (V.bl i) (V.bl j) H Q) = (Q (V.bl (decide (i = j))) H) := propext rEqB_bb
theorem e_rNeB_bb {K : W.Frag} {i j : Bool} {H : Hp} {Q : VK} : (rNeB K (V.bl i) (V.bl j) H Q) = (Q (V.bl !decide (i = j)) H) := propext rNeB_bb
theorem e_rNe_ss {i j : Str} {H : Hp} {Q : VK} : (rNe (V.str i) (V.str j) H Q) = (Q (V.bl !decide (i = j)) H) := propext rNe_ss
theorem e_rEq_bb {i j : Bool} {H : Hp} {Q : VK} : (rEq (V.bl i) (V.bl j) H Q) = (Q (V.bl (decide (i = j))) H) := propext rEq_bb
theorem e_rNe_bb {i j : Bool} {H : Hp} {Q : VK} : (rNe (V.bl i) (V.bl j) H Q) = (Q (V.bl !decide (i = j)) H) := propext rNe_bb
theorem e_rInA_c {K : W.Frag} {c : Nat} {z : Str} {H : Hp} {Q : VK} : (rInA K (V.str { cps := #[c] }) (V.str z) H Q) = (Q (V.bl (decide (c ∈ z.cps.toList))) H) := propext rInA_c
theorem e_rNotInA_c {K : W.Frag} {c : Nat} {z : Str} {H : Hp} {Q : VK} : (rNotInA K (V.str { cps := #[c] }) (V.str z) H Q) = (Q (V.bl !decide (c ∈ z.cps.toList)) H) := propext rNotInA_c
theorem e_rStr_i {i : Int} {H : Hp} {Q : VK} : (rStr [V.int i] H Q) = (i.natAbs.log2 < 1920 ∧ Q (V.str (numS i)) H) := propext rStr_i
theorem e_rStr_s {z : Str} {H : Hp} {Q : VK} : (rStr [V.str z] H Q) = (Q (V.str z) H) := propext rStr_s
theorem e_rEqC_ii {K : W.Frag} {i j : Int} {H : Hp} {Q : VK} : (rEqC K (V.int i) (V.int j) H Q) = (Q (V.bl (decide (i = j))) H) := propext rEqC_ii
theorem e_rNeC_ii {K : W.Frag} {i j : Int} {H : Hp} {Q : VK} : (rNeC K (V.int i) (V.int j) H Q) = (Q (V.bl !decide (i = j)) H) := propext rNeC_ii
theorem e_rEqC_ss {K : W.Frag} {i j : Str} {H : Hp} {Q : VK} : (rEqC K (V.str i) (V.str j) H Q) = (Q (V.bl (decide (i = j))) H) := propext rEqC_ss
theorem e_rNeC_ss {K : W.Frag} {i j : Str} {H : Hp} {Q : VK} : (rNeC K (V.str i) (V.str j) H Q) = (Q (V.bl !decide (i = j)) H) := propext rNeC_ss
theorem e_TruV_b {K : W.Frag} {b k : Bool} {H : Hp} : (TruV K (V.bl b) H k) = (k = b) := propext TruV_b
theorem e_tyV_s {K : W.Frag} {z : Str} {H : Hp} : (tyV K "str" (V.str z) H) = (True) := propext tyV_s
theorem e_jAddA_ss {K : PySem.W.Frag} {i j : Str} {H : Hp} {Q : VK} : jAdd (rAddA K) (.str i) (.str j) H Q = (i.length + j.length ≤ sizeLine ∧ Q (.str (i ++ j)) H) := by rw [e_jAddA_x, e_rAddA_ss]
theorem e_jMulB_si {K : PySem.W.Frag} {z : Str} {j : Int} {H : Hp} {Q : VK} : jMul (rMulB K) (.str z) (.int j) H Q = ((-1000000 ≤ j ∧ j ≤ 1000000 ∧ z.length ≤ 16) ∧ Q (.str (repS z j)) H) := by rw [e_jMulB_x, e_rMulB_si]
theorem e_exL' {α : Sort u} {p : α → Prop} {a' : α} : (∃ a, a' = a ∧ p a) = p a' := propext exists_eq_left'
theorem e_exE' {α : Sort u} {a' : α} : (∃ a, a' = a) = True := eq_true ⟨_, rfl⟩
theorem e_exE {α : Sort u} {a' : α} : (∃ a, a = a') = True := eq_true ⟨_, rfl⟩
theorem e_exL {α : Sort u} {p : α → Prop} {a' : α} : (∃ a, a = a' ∧ p a) = p a' := propext exists_eq_left
theorem e_exA {α : Sort u} {p : α → Prop} {b : Prop} : (∃ x, b ∧ p x) = (b ∧ ∃ x, p x) := propext exists_and_left
theorem e_asc {a b c : Prop} : ((a ∧ b) ∧ c) = (a ∧ b ∧ c) := propext and_assoc
theorem e_exF {α : Sort u} : (∃ _ : α, False) = False := eq_false exists_false
theorem e_exC {b : Prop} (α : Sort u) [Nonempty α] : (∃ _ : α, b) = b := propext (exists_const α)
theorem e_dF {p : Prop} {x : Decidable p} : (decide p = false) = ¬p := propext decide_eq_false_iff_not
theorem ifcut1 {c : TT} {t w : TS} {D : Ends} {σ : L2.St} {H : Hp} (h : ∀ A B : Hp → Prop, (∀ H, tSeq t w D σ H → A H) → (∀ H, w D σ H → B H) → c σ H fun b H1 => if b = true then A H1 else B H1) : tSeq (tIfS c t tNext) w D σ H := h _ _ (fun _ x => x) fun _ x => x
end L2
namespace L2
open PySem PySem.Spec PyProof.Rows
section
variable {prog : Program} {w : World} {A : Around} {R : Result → Shared → Prop} {it al bb : Addr} {items : Array Value} {G : Heap → Prop} {kf : Nat → List Int} {d : Value}
end
section
variable {prog : Program} {w : World} {A : Around} {E : Value → Shared → Prop} {s : Shared}
end
end L2
namespace L2
open PySem PySem.Spec PyProof.Rows
section
variable {prog : Program} {w : World} {A : Around} {E : Value → Shared → Prop} {s : Shared}
end
end L2
namespace XE
open PySem
open Sem (wp)
section
variable {M : Model} {A : Around} {E : Value → Shared → Prop} {s : Shared}
def Tr (h : Heap) (e T : Addr) (cls : Value) (dc : Option Addr) (fl : Value) : Prop :=
  ∃ oe vs oT ts, h.get? e = some oe ∧ (oe.cls = cls ∧ oe.dict = dc) ∧ oe.data = .fields vs ∧ vs[1]? = some (.ref T) ∧ T ≠ e ∧ h.get? T = some oT ∧ oT.data = .fields ts ∧ ts[3]? = some fl
def New (h : Heap) (e : Addr) (cls : Value) (dc : Option Addr) : Prop := ∃ oe vs, h.get? e = some oe ∧ (oe.cls = cls ∧ oe.dict = dc) ∧ oe.data = .fields vs ∧ vs[1]? = some .none
def On (base : Heap) (l : List Env) (e : Addr) (h : Heap) : Prop := base.StaysIn h ∧ base.get? e = none ∧ h.FunFrames base l
theorem Tr.there {h : Heap} {e T : Addr} {cls : Value} {dc : Option Addr} {fl : Value} (x : Tr h e T cls dc fl) : ∃ o vs, h.get? e = some o ∧ o.cls = cls ∧ o.dict = dc ∧ o.data = .fields vs :=
  let ⟨o, vs, _, _, a, b, c, _⟩ := x; ⟨o, vs, a, b.1, b.2, c⟩
theorem Tr.tb {h : Heap} {e T : Addr} {cls : Value} {dc : Option Addr} {fl : Value} (x : Tr h e T cls dc fl) : ∃ o vs, h.get? T = some o ∧ o.data = .fields vs :=
  let ⟨_, _, o, vs, _, _, _, _, _, a, b, _⟩ := x; ⟨o, vs, a, b⟩
theorem entry {base : Heap} {env : Env} {outer : List Env} {L e : Addr} {oe : Obj} {vs : Array Value} {head : Value} {hadNext : Bool} {Q : Unit → Shared → Prop}
    (hfr : A.frames = some (env :: outer)) (o : On base (env :: outer) e s.heap) (hf : env.frame = some L) (he : s.heap.get? e = some oe) (hd : oe.data = .fields vs) (hsz : 1 < vs.size)
    (h : ∀ h' T, s.heap.objs.size ≤ T → On base (env :: outer) e h' → Tr h' e T oe.cls oe.dict (rawInt L) → s.heap.UpToSlots h' → Q () { s with heap := h' }) :
    wpAny M A (do let a ← frameOf env; let pl ← entryPlaceOf L hadNext; let b ← EntryCells.newEntry head a .none (rawInt L) .none pl; setField (.ref e) 1 b) Q E s := by
  obtain ⟨hkb, hen, hl⟩ := o
  have hene : e ∉ (env :: outer).filterMap (·.frame) := fun hm => by
    obtain ⟨_, o, ho, hnf⟩ := hl.mem hm
    rw [he] at ho; injection ho with ho; subst ho; exact hnf vs hd
  refine wpAny_bind (wpAny_frameOf_fun hfr hl hf fun h₁ hs₁ => ?_)
  refine wpAny_bind (wpAny_entryPlaceOf fun pl hpl => ?_)
  unfold EntryCells.newEntry newFields
  refine wpAny_bind (wpAny_newObj_type ?_ (hpl.sizeOk5 _ _ _ _ _))
  have he₁ : h₁.get? e = some oe := (hs₁.2.1 e hene).trans he
  have kb₁ : base.StaysIn h₁ := fun b o hbo => (hs₁.2.1 b fun hm => by rw [(hl.mem hm).1] at hbo; cases hbo).trans (hkb b o hbo)
  generalize hT : ({ cls := .type "traceback", dict := none, data := .fields ([head, .ref L, .none, rawInt L, .none] ++ (if pl.isEmpty then List.replicate 6 Value.none else pl)).toArray } : Obj) = oT
  have he₂ := Heap.get?_push_of_some (h := h₁) oT he₁
  refine wpAny_setField he₂ hd hsz (h _ h₁.objs.size (Nat.le_of_eq hs₁.1.symm) ?_ ?_ ?_)
  all_goals
    have hTe : h₁.objs.size ≠ e := Nat.ne_of_gt (Heap.lt_size he₁)
    have hd₃ := Obj.data_mapFields hd (·.setIfInBounds 1 (Value.ref h₁.objs.size))
    have he₃ := Heap.get?_update_self (Obj.mapFields (·.setIfInBounds 1 (Value.ref h₁.objs.size))) he₂ (Obj.isFreed_of_fields hd₃)
    have keep : ∀ b o, b ≠ e → h₁.get? b = some o → ((h₁.push oT).update e (Obj.mapFields (·.setIfInBounds 1 (Value.ref h₁.objs.size)))).get? b = some o :=
      fun b o hbe hb => by
        rw [Heap.get?_update_other _ _ (Ne.symm hbe)]
        exact Heap.get?_push_of_some _ hb
    have noRecord : ∀ b o, s.heap.get? b = some o → (∀ vs, o.data ≠ .fields vs) → b ≠ e := fun b o hb hnf q => by
      rw [q, he] at hb; injection hb with hb; subst hb; exact hnf vs hd
  · refine ⟨fun b o hbo => keep b o (fun q => by rw [q, hen] at hbo; cases hbo) (kb₁ b o hbo), hen, hl.of_keeps fun b o hb hnf => ?_⟩
    obtain ⟨sl, hs⟩ := hs₁.2.2 b o hb
    exact ⟨_, keep b _ (noRecord b o hb hnf) hs, rfl⟩
  · have hT₃ := (Heap.get?_update_other (h₁.push oT) (Obj.mapFields (·.setIfInBounds 1 (Value.ref h₁.objs.size))) (Ne.symm hTe)).trans (Heap.get?_push_size h₁ (by rw [← hT]; rfl))
    refine ⟨_, _, _, _, he₃, ⟨Obj.cls_mapFields _ _, ?_⟩, hd₃, by simp [hsz], hTe, hT₃, by rw [← hT], by first | (simp; done) | (rcases hpl with rfl | ⟨_, _, _, _, _, _, _, rfl⟩ <;> simp)⟩
    unfold Obj.mapFields
    split <;> rfl
  · intro b o hb hnf
    obtain ⟨sl, hs⟩ := hs₁.2.2 b o hb
    exact ⟨sl, keep b _ (noRecord b o hb hnf) hs⟩
theorem note_new {base : Heap} {env : Env} {outer : List Env} {L e : Addr} {cls : Value} {dc : Option Addr} {Q : Unit → Shared → Prop}
    (hfr : A.frames = some (env :: outer)) (hf : env.frame = some L) (o : On base (env :: outer) e s.heap) (x : New s.heap e cls dc)
    (h : ∀ h' T, s.heap.objs.size ≤ T → On base (env :: outer) e h' → Tr h' e T cls dc (rawInt L) → s.heap.UpToSlots h' → Q () { s with heap := h' }) : wpAny M A (noteFrame (.ref e) env) Q E s := by
  obtain ⟨oe, vs, he, ⟨rfl, rfl⟩, hd, h1⟩ := x
  unfold noteFrame
  simp only [hf]
  refine wpAny_bind (wpAny_field he hd h1 ?_)
  rw [if_neg (by decide)]
  exact entry hfr o hf he hd (Array.getElem?_eq_some_iff.mp h1).1 h
theorem note_on {base : Heap} {env : Env} {outer : List Env} {L e T : Addr} {cls : Value} {dc : Option Addr} {Q : Unit → Shared → Prop}
    (hfr : A.frames = some (env :: outer)) (hf : env.frame = some L) (o : On base (env :: outer) e s.heap) (hnT : base.get? T = none) {fl : Value} (hfl : ¬ ((fl == rawInt L) = true)) (x : Tr s.heap e T cls dc fl)
    (h : ∀ h' T, s.heap.objs.size ≤ T → On base (env :: outer) e h' → Tr h' e T cls dc (rawInt L) → s.heap.UpToSlots h' → Q () { s with heap := h' }) : wpAny M A (noteFrame (.ref e) env) Q E s := by
  obtain ⟨oe, vs, oT, ts, he, ⟨rfl, rfl⟩, hd, h1, hTe, hT, hdT, h3⟩ := x
  obtain ⟨hkb, hen, hl⟩ := o
  unfold noteFrame
  simp only [hf]
  refine wpAny_bind (wpAny_field he hd h1 ?_)
  rw [if_pos (show (Value.ref T != Value.none) = true from by simp)]
  refine wpAny_bind (wpAny_field hT hdT h3 ?_)
  rw [if_neg hfl]
  refine wpAny_bind (wpAny_setField hT hdT (Array.getElem?_eq_some_iff.mp h3).1 ?_)
  have other : ∀ b, b ≠ T → (s.heap.update T (Obj.mapFields (·.setIfInBounds 3 Value.none))).get? b = s.heap.get? b := fun b hb => Heap.get?_update_other _ _ (Ne.symm hb)
  have noRecord : ∀ b o, s.heap.get? b = some o → (∀ vs, o.data ≠ .fields vs) → b ≠ T := fun b o hb hnf q => by
    rw [q, hT] at hb; injection hb with hb; subst hb; exact hnf ts hdT
  have hsz : (s.heap.update T (Obj.mapFields (·.setIfInBounds 3 Value.none))).objs.size = s.heap.objs.size := Heap.size_after_update _ _ _
  exact entry (s := { s with heap := s.heap.update T (Obj.mapFields (·.setIfInBounds 3 Value.none)) }) hfr
    ⟨fun b o hbo => (other b fun q => by rw [q, hnT] at hbo; cases hbo).trans (hkb b o hbo), hen, hl.of_keeps fun b o hb hnf => ⟨o, (other b (noRecord b o hb hnf)).trans hb, rfl⟩⟩ hf ((other e (Ne.symm hTe)).trans he) hd (Array.getElem?_eq_some_iff.mp h1).1
    fun h' T' x0 x1 x2 x3 => h h' T' (hsz ▸ x0) x1 x2 fun b o hb hnf => x3 b o ((other b (noRecord b o hb hnf)).trans hb) hnf
theorem note_held {env : Env} {L e T : Addr} {cls : Value} {dc : Option Addr} {Q : Unit → Shared → Prop}
    (hf : env.frame = some L) (x : Tr s.heap e T cls dc (rawInt L)) (h : Q () s) : wpAny M A (noteFrame (.ref e) env) Q E s := by
  obtain ⟨oe, vs, oT, ts, he, _, hd, h1, hTe, hT, hdT, h3⟩ := x
  unfold noteFrame
  simp only [hf]
  refine wpAny_bind (wpAny_field he hd h1 ?_)
  rw [if_pos (show (Value.ref T != Value.none) = true from by simp)]
  refine wpAny_bind (wpAny_field hT hdT h3 ?_)
  rw [if_pos (show (rawInt L == rawInt L) = true from by simp)]
  exact wpAny_pure h
theorem land {base : Heap} {l : List Env} {e T : Addr} {cls fl : Value} {dc : Option Addr} {Q : Unit → Shared → Prop} (o : On base l e s.heap) (hnT : base.get? T = none) (x : Tr s.heap e T cls dc fl)
    (h : ∀ h', On base l e h' → Tr h' e T cls dc .none → s.heap.UpToSlots h' → Q () { s with heap := h' }) : wpAny M A (setFlight (.ref e) none) Q E s := by
  obtain ⟨oe, vs, oT, ts, he, hcls, hd, h1, hTe, hT, hdT, h3⟩ := x
  obtain ⟨hkb, hen, hl⟩ := o
  have hsz3 : 3 < ts.size := (Array.getElem?_eq_some_iff.mp h3).1
  have other : ∀ b, b ≠ T → (s.heap.update T (Obj.mapFields (·.setIfInBounds 3 ((none : Option Addr).elim Value.none fun f => rawInt f)))).get? b = s.heap.get? b :=
    fun b hb => Heap.get?_update_other _ _ (Ne.symm hb)
  have noRecord : ∀ b o, s.heap.get? b = some o → (∀ vs, o.data ≠ .fields vs) → b ≠ T := fun b o hb hnf q => by
    rw [q, hT] at hb; injection hb with hb; subst hb; exact hnf ts hdT
  unfold setFlight
  refine wpAny_bind (wpAny_field he hd h1 ?_)
  rw [if_pos (show (Value.ref T != Value.none) = true from by simp)]
  refine wpAny_setField hT hdT hsz3 (h _ ⟨fun b o hbo => (other b fun q => by rw [q, hnT] at hbo; cases hbo).trans (hkb b o hbo), hen,
    hl.of_keeps fun b o hb hnf => ⟨o, (other b (noRecord b o hb hnf)).trans hb, rfl⟩⟩ ?_ fun b o hb hnf => ⟨o.slots, (other b (noRecord b o hb hnf)).trans hb⟩)
  exact ⟨oe, vs, _, _, (other e (Ne.symm hTe)).trans he, hcls, hd, h1, hTe, Heap.get?_update_self _ hT (Obj.isFreed_of_fields (Obj.data_mapFields hdT _)), Obj.data_mapFields hdT _, by simp [hsz3]⟩
def Out (h : Heap) (e : Addr) (cls : Value) (dc : Option Addr) (ts : List Addr) : Prop := (ts = [] ∧ New h e cls dc) ∨ ∃ T fl, ts = [T] ∧ Tr h e T cls dc fl
theorem note_out {base : Heap} {env : Env} {outer : List Env} {L e : Addr} {cls : Value} {dc : Option Addr} {ts : List Addr} {Q : Unit → Shared → Prop}
    (hfr : A.frames = some (env :: outer)) (hf : env.frame = some L) (o : On base (env :: outer) e s.heap) (hts : ∀ T ∈ ts, base.get? T = none) (x : Out s.heap e cls dc ts)
    (h : ∀ h' T, (T ∈ ts ∨ s.heap.objs.size ≤ T) → On base (env :: outer) e h' → Tr h' e T cls dc (rawInt L) → s.heap.UpToSlots h' → Q () { s with heap := h' }) : wpAny M A (noteFrame (.ref e) env) Q E s := by
  rcases x with ⟨rfl, x⟩ | ⟨T, fl, rfl, x⟩
  · exact note_new hfr hf o x fun h' T a => h h' T (.inr a)
  · by_cases hfl : (fl == rawInt L) = true
    · have e : fl = rawInt L := by simpa using hfl
      subst e
      exact note_held hf x (h s.heap T (.inl (.head _)) o x (.refl _))
    · exact note_on hfr hf o (hts T (.head _)) hfl x fun h' T a => h h' T (.inr a)
theorem note_same {env env' : Env} (hf : env'.frame = env.frame) (e : Value) : noteFrame e env' = noteFrame e env := by
  unfold noteFrame frameOf
  rw [hf]
theorem pass_on {base : Heap} {l : List Env} {e T : Addr} {cls fl : Value} {dc : Option Addr} {what : String} {env : Env} {α : Type} {Q : α → Shared → Prop} (o : On base l e s.heap) (hnT : base.get? T = none) (x : Tr s.heap e T cls dc fl)
    (h : ∀ h' fl', On base l e h' → Tr h' e T cls dc fl' → s.heap.UpToSlots h' → E (.ref e) { s with heap := h' }) : wpAny M A (passOn what (.ref e) env) Q E s := by
  obtain ⟨oe, vs, oT, ts, he, hcls, hd, h1, hTe, hT, hdT, h3⟩ := x
  obtain ⟨hkb, hen, hl⟩ := o
  have hsz3 : 3 < ts.size := (Array.getElem?_eq_some_iff.mp h3).1
  have noRecord : ∀ b o, s.heap.get? b = some o → (∀ vs, o.data ≠ .fields vs) → b ≠ T := fun b o hb hnf q => by
    rw [q, hT] at hb; injection hb with hb; subst hb; exact hnf ts hdT
  unfold passOn
  refine wpAny_bind (wpAny_field he hd h1 ?_)
  rw [if_neg (by simp)]
  unfold setFlight
  refine wpAny_bind (wpAny_bind (wpAny_field he hd h1 ?_))
  rw [if_pos (show (Value.ref T != Value.none) = true from by simp)]
  generalize env.frame.elim Value.none (fun f => rawInt f) = fl'
  have other : ∀ b, b ≠ T → (s.heap.update T (Obj.mapFields (·.setIfInBounds 3 fl'))).get? b = s.heap.get? b :=
    fun b hb => Heap.get?_update_other _ _ (Ne.symm hb)
  refine wpAny_setField hT hdT hsz3 (wpAny_throw (h _ fl' ⟨fun b o hbo => (other b fun q => by rw [q, hnT] at hbo; cases hbo).trans (hkb b o hbo), hen,
    hl.of_keeps fun b o hb hnf => ⟨o, (other b (noRecord b o hb hnf)).trans hb, rfl⟩⟩ ?_ fun b o hb hnf => ⟨o.slots, (other b (noRecord b o hb hnf)).trans hb⟩))
  exact ⟨oe, vs, _, _, (other e (Ne.symm hTe)).trans he, hcls, hd, h1, hTe, Heap.get?_update_self _ hT (Obj.isFreed_of_fields (Obj.data_mapFields hdT _)), Obj.data_mapFields hdT _, by simp [hsz3]⟩
theorem none_of_base {base h : Heap} {T : Addr} {ts : List Addr} (k : base.StaysIn h) (hts : ∀ T ∈ ts, base.get? T = none) (hT : T ∈ ts ∨ h.objs.size ≤ T) : base.get? T = none := by
  rcases hT with hT | hT
  · exact hts T hT
  · cases q : base.get? T with
    | none => rfl
    | some o => exact absurd (Heap.lt_size (k _ _ q)) (Nat.not_lt.mpr hT)
theorem leave_out {base : Heap} {env : Env} {outer : List Env} {L e : Addr} {cls : Value} {dc : Option Addr} {ts : List Addr} {Q : Unit → Shared → Prop}
    (hfr : A.frames = some (env :: outer)) (hf : env.frame = some L) (o : On base (env :: outer) e s.heap) (hts : ∀ T ∈ ts, base.get? T = none) (x : Out s.heap e cls dc ts)
    (h : ∀ h' T, (T ∈ ts ∨ s.heap.objs.size ≤ T) → On base outer e h' → Tr h' e T cls dc .none → s.heap.UpToSlots h' → Q () { s with heap := h' }) : wpAny M A (leaving env (.ref e)) Q E s := by
  unfold leaving
  refine wpAny_bind (note_out hfr hf o hts x fun h₁ T hT o1 x1 u1 => ?_)
  refine land (s := { s with heap := h₁ }) o1 (none_of_base o.1 hts hT) x1 fun h₂ o2 x2 u2 => ?_
  obtain ⟨a, b, _, _, c⟩ := o2
  exact h h₂ T hT ⟨a, b, c⟩ x2 (u1.trans u2)
end
inductive Tail (h : Heap) (no : Str → Prop) (bmB : List Value) : List Value → Prop
  | base : Tail h no bmB bmB
  | own {A : Addr} {c0 : Value} {dd : Option Addr} {cd : ClassData} {sl : Array (Option Value)} {mA : Str → Option Value} {tl : List Value} :
      h.get? A = some { cls := c0, dict := dd, data := .cls cd, slots := sl } → h.Ns cd.ns mA → (∀ n, no n → mA n = none) → Tail h no bmB tl → Tail h no bmB (.ref A :: tl)
theorem Tail.hasType {h : Heap} {no : Str → Prop} {bmB tl : List Value} (T : Tail h no bmB tl) {X : String} {b : Bool} (hb : bmB.contains (.type X) = b) : tl.contains (.type X) = b := by
  induction T with
  | base => exact hb
  | own _ _ _ _ ih => rw [List.contains_cons, ih]; rfl
theorem Tail.keeps {h h' : Heap} {no : Str → Prop} {bmB tl : List Value} (T : Tail h no bmB tl) (hk : ∀ b o, h.get? b = some o → h'.get? b = some o) : Tail h' no bmB tl := by
  induction T with
  | base => exact .base
  | own hA hN hq _ ih => exact .own (hk _ _ hA) (hN.keeps hk) hq ih
theorem Tail.ot {h : Heap} {no : Str → Prop} {bmB tl : List Value} (T : Tail h no bmB tl) (hi : no "__init__") : OwnTail h bmB tl := by
  induction T with
  | base => exact .base
  | own hA hN hq _ ih => exact .own hA hN (hq _ hi) ih
section
variable {M : Model} {A : Around} {E : Value → Shared → Prop} {h : Heap} {g : Array GenState} {d : Drawn} {t : Nat} {os : OsState}
variable {nm q : Str} {C N : Addr} {bs bm bmB : List Value} {hdct : Bool} {sn : List Str} {sub : List Value} {ab : Bool} {col : Option Bool} {dd : Option Addr} {k0 k1 k2 k3 k5 : Option Value} {B newId initId : String} {no : Str → Prop}
theorem along {tl : List Value} {n : Str} {y : Option Value} {Q : Option Value → Shared → Prop} (hn : no n) (T : Tail h no bmB tl) (hrest : lookupAlong bmB n = pure y) (hq : Q y ⟨h, g, d, t, os⟩) :
    wpAny M A (lookupAlong tl n) Q E ⟨h, g, d, t, os⟩ := by
  induction T with
  | base => rw [hrest]; exact wpAny_pure hq
  | own hA hN hni _ ih =>
    rw [lookupAlong_cons]
    refine wpAny_bind (wpAny_classOwn_cls hA hN ?_)
    rw [hni n hn]
    exact ih
theorem lookup {mN : Str → Option Value} {n : Str} {y : Option Value} {Q : Option Value → Shared → Prop} (hno : no n)
    (hC : h.get? C = some (excClassObj nm q C N bs bm hdct sn sub ab col dd k0 k1 k2 k3 k5 newId)) (hn : h.Ns N mN) (T : Tail h no bmB bm) (hbm : mroOf (.type B) = pure bmB) (hB : typeLookup (.type B) n = pure y)
    (hq : Q (match mN n with | some v => some v | none => y) ⟨h, g, d, t, os⟩) : wpAny M A (typeLookup (.ref C) n) Q E ⟨h, g, d, t, os⟩ := by
  have hrest : lookupAlong bmB n = pure y := by rw [typeLookup_eq, hbm] at hB; exact hB
  rw [typeLookup_eq]
  refine wpAny_bind (wpAny_mroOf_exc hC ?_)
  rw [lookupAlong_cons]
  refine wpAny_bind (wpAny_classOwn_exc hC hn ?_)
  cases hv : mN n with
  | some v => rw [hv] at hq; exact wpAny_pure hq
  | none => rw [hv] at hq; exact along hno T hrest hq
end
section
variable {prog : Program} {w : World} {A : Around} {E : Value → Shared → Prop} {h : Heap} {g : Array GenState} {d : Drawn} {t : Nat} {os : OsState}
variable {nm q : Str} {C N : Addr} {bs bm bmB : List Value} {hdct : Bool} {sn : List Str} {sub : List Value} {ab : Bool} {col : Option Bool} {dd : Option Addr} {k0 k1 k2 k3 k5 : Option Value} {B newId initId : String}
theorem made {mN : Str → Option Value} {rest : List Value} {fI : Addr} {oI : Obj} {Q : Fin → Shared → Prop} (F : ExcBaseFacts B newId initId bmB) (T : OwnTail h bmB bm)
    (hC : h.get? C = some (excClassObj nm q C N bs bm hdct sn sub ab col dd k0 k1 k2 k3 k5 newId)) (hn : h.Ns N mN) (hi : mN "__init__" = some (.ref fI)) (hfI : h.get? fI = some oI) (hfc : oI.cls = .type "function")
    (hq : ∀ h', Heap.MadeExcOf h h' (h.objs.size + 1) (.ref C) rest → wpAny (model prog w) A (call (.ref fI) (.ref (h.objs.size + 1) :: rest)) (fun r s' => r = .none ∧ Q (.done (.ret (.ref (h.objs.size + 1)))) s') E ⟨h', g, d, t, os⟩)
    (hrest : rest.length ≤ sizeLine := by size_fits) : wpAny (model prog w) A (Builtin.«type.__call__» ⟨.ref C :: rest, []⟩) Q E ⟨h, g, d, t, os⟩ := by
  repeat (first | with_reducible refine wpAny_loadPart_at hC ?_ | with_reducible refine wpAny_madeBy_exc hC ?_ | wp_step)
  refine codeAny_call_builtin_code (Code.quiet_builtin _ F.quiet) (wpAny_check_new_subU F F.hasB T hC ?_)
  refine codeAny_exc_new_subU F F.hasB F T hC ?_ hrest
  show wpAny _ _ _ _ _ _
  generalize ho : ({ cls := .ref C, data := .fields #[.ref h.objs.size, .none, .none, .none, .bool false, .none] } : Obj) = oe
  have hk : ∀ b o, h.get? b = some o → ((h.push { cls := .type "tuple", data := .seq rest.toArray }).push oe).get? b = some o := fun b o e => Heap.get?_push_of_some _ (Heap.get?_push_of_some _ e)
  have hC₁ := hk _ _ hC
  have hn₁ := hn.keeps hk
  have T₁ := T.keeps hk
  have hget : ((h.push { cls := .type "tuple", data := .seq rest.toArray }).push oe).get? (h.objs.size + 1) = some oe := by subst ho; heap_get
  have hoc : oe.cls = .ref C := by subst ho; rfl
  have hcC : (Value.ref C :: bm).contains (.ref C) = true := by simp
  unfold isInstance
  repeat (first | (with_reducible refine wpAny_loadPart_at hget ?_; rw [hoc]) | (with_reducible refine wpAny_isSubtype_exc hC₁ ?_; rw [hcC]) | wp_step)
  show wpAny _ _ (typeLookup (.ref C) _) _ _ _
  refine wpAny_typeLookup_tail hC₁ hn₁ T₁ F.mroIs F.init.lookup ?_
  rw [hi]
  refine wpAny_holding (wpAny_bind ?_)
  unfold bindSpecial
  refine wpAny_bind (wpAny_typeOf (T := "function") ⟨_, hk _ _ hfI, hfc⟩ ?_)
  rw [if_pos (by decide)]
  refine wpAny_pure (wpAny_bind (wpAny_mono (hq _ ⟨hk, Heap.get?_none_of_le (Nat.le_succ _), h.objs.size, by rw [hget, ← ho], Heap.get?_none_of_le (Nat.le_refl _), ?_⟩) (fun r s' hr => ?_) fun _ _ x => x))
  · exact Heap.get?_push_of_some _ (Heap.get?_push_at rfl rfl)
  · obtain ⟨rfl, hQ⟩ := hr
    wp_walk
    exact hQ
theorem call_own {mN : Str → Option Value} {rest : List Value} {fI : Addr} {oI : Obj} {Q : Value → Shared → Prop} (F : ExcBaseFacts B newId initId bmB) (T : OwnTail h bmB bm)
    (hC : h.get? C = some (excClassObj nm q C N bs bm hdct sn sub ab col dd k0 k1 k2 k3 k5 newId)) (hn : h.Ns N mN) (hi : mN "__init__" = some (.ref fI)) (hfI : h.get? fI = some oI) (hfc : oI.cls = .type "function")
    (hq : ∀ h', Heap.MadeExcOf h h' (h.objs.size + 1) (.ref C) rest → wpAny (model prog w) (A.under (.builtin "type.__call__" ⟨.ref C :: rest, []⟩)) (call (.ref fI) (.ref (h.objs.size + 1) :: rest)) (fun r s' => r = .none ∧ Q (.ref (h.objs.size + 1)) s') E ⟨h', g, d, t, os⟩)
    (hrest : rest.length ≤ sizeLine := by size_fits) : wpAny (model prog w) A (call (.ref C) rest) Q E ⟨h, g, d, t, os⟩ := by
  have f1 := tc_lookup
  have f2 := tc_bind (.ref C)
  have hT : (⟨h, g, d, t, os⟩ : Shared).TypeIs (.ref C) "type" := ⟨_, hC, rfl⟩
  refine wpAny_call (codeAny_of_tree ?_)
  show wpAny _ _ (callAny (.ref C) _) _ _ _
  repeat (any_goals (first | assumption | with_reducible refine wpAny_loadPart_at hC ?_ | wp_step))
  refine ⟨rfl, ?_⟩
  refine codeAny_call_builtin_at (Code.quiet_builtin _ (by decide +kernel)) entry_typeCall (wpAny_check_type_call_sub hC (made (hrest := hrest) F T hC hn hi hfI hfc fun h' hm => ?_))
  exact hq h' hm
end
section
variable {M : Model} {A : Around} {E : Value → Shared → Prop} {env : Env}
variable {nm q : Str} {C N : Addr} {bs bm : List Value} {hdct : Bool} {sn : List Str} {sub : List Value} {ab : Bool} {col : Option Bool} {dd : Option Addr} {k0 k1 k2 k3 k5 : Option Value} {newId : String}
theorem raise_made {s : Shared} {x : Sem Value} {Q : Flow → Shared → Prop} (hbase : bm.contains (.type "BaseException") = true) (hh : A.handled = none)
    (h : wpAny M A x (fun v s₁ => ∃ e oe, v = .ref e ∧ s₁.heap.get? C = some (excClassObj nm q C N bs bm hdct sn sub ab col dd k0 k1 k2 k3 k5 newId) ∧
      s₁.heap.get? e = some oe ∧ oe.cls = .ref C ∧ (∃ vs, oe.data = .fields vs ∧ vs[1]? = some .none) ∧ E (.ref e) s₁) E s) :
    wpAny M A (raiseStmt env (some x) none) Q E s := by
  have hcB : (Value.ref C :: bm).contains (.type "BaseException") = true := by rw [List.contains_cons, hbase, Bool.or_true]
  unfold raiseStmt
  refine wpAny_bind (wpAny_mono h (fun v s₁ h₁ => ?_) fun _ _ x => x)
  obtain ⟨e, ⟨oc, od, odt, osl⟩, rfl, hC, he, hcls, ⟨vs, hd, h1⟩, hE⟩ := h₁
  cases hcls
  cases hd
  obtain ⟨hp, g, d, tk, os⟩ := s₁
  repeat (first | with_reducible refine wpAny_loadPart_at he ?_ | with_reducible refine wpAny_loadPart_at hC ?_ | (with_reducible refine wpAny_isSubtype_exc hC ?_; rw [hcB]) | wp_step)
  rw [h1]
  repeat wp_step
  exact wpAny_raiseNew_none hh hE
end
section
variable {prog : Program} {w : World} {A : Around} {E : Value → Shared → Prop} {s : Shared} {env : Env}
variable {nm q : Str} {C N : Addr} {bs bm : List Value} {hdct : Bool} {sn : List Str} {sub : List Value} {ab : Bool} {col : Option Bool} {dd : Option Addr} {k0 k1 k2 k3 k5 : Option Value} {newId : String}
theorem raise_of {ex : Expr} {pos : Pos} {Q : Flow → Shared → Prop} (hbm : bm.contains (.type "BaseException") = true) (hh : A.handled = none)
    (h : wpAny (model prog w) A (eval ex env) (fun v s₁ => ∃ e oe, v = .ref e ∧ s₁.heap.get? C = some (excClassObj nm q C N bs bm hdct sn sub ab col dd k0 k1 k2 k3 k5 newId) ∧
      s₁.heap.get? e = some oe ∧ oe.cls = .ref C ∧ (∃ vs, oe.data = .fields vs ∧ vs[1]? = some .none) ∧ E (.ref e) s₁) E s) :
    wpAny (model prog w) A (exec (.Raise (some ex) none pos) env) Q E s := by
  rw [arm_exec_Raise]
  simp only [evalOpt, Option.map]
  exact wpAny_bind (wpAny_standAt (raise_made hbm hh (wpAny_bind (wpAny_mono h (fun v s₃ h₃ => wpAny_bind (wpAny_standAt (wpAny_pure h₃))) fun _ _ x => x))))
end
section
open Builtin Builtin.ObjectAttr
variable {prog : Program} {w : World} {A : Around} {E : Value → Shared → Prop} {h : Heap} {g : Array GenState} {d : Drawn} {t : Nat} {os : OsState}
variable {nm q : Str} {C N x : Addr} {bs bm bmB : List Value} {sn : List Str} {sub : List Value} {ab : Bool} {col : Option Bool} {dd : Option Addr} {k0 k1 k2 k3 k5 : Option Value} {B newId sa owner : String}
  {mN mA : Str → Option Value} {name : Str} {v : Value} {no : Str → Prop}
theorem refuse_tail {self : Value} {what : Str} {tl : List Value} (T : Tail h no bmB tl) (hb : refuseLoop self what bmB = pure ()) : refuseLoop self what tl = pure () := by
  induction T with
  | base => exact hb
  | own _ _ _ _ ih => rw [refuseLoop_ref]; exact ih
theorem check_sa {M : Model} {o : Obj} {nameV : Value} {Q : Unit → Shared → Prop} (SF : StoreFacts B bmB sa owner) (T : Tail h no bmB bm)
    (hC : h.get? C = some (excClassObj nm q C N bs bm true sn sub ab col dd k0 k1 k2 k3 k5 newId)) (hx : h.get? x = some o) (hc : o.cls = .ref C) (hq : Q () ⟨h, g, d, t, os⟩) :
    wpAny M A (checkBuiltinCall sa ⟨[.ref x, nameV, v], []⟩) Q E ⟨h, g, d, t, os⟩ := by
  have hcB : (Value.ref C :: bm).contains (.type owner) = true := by rw [List.contains_cons, T.hasType SF.hasOwner, Bool.or_true]
  have ha := SF.args (.ref x) nameV v
  simp only [checkBuiltinCall, SF.kind, SF.split]
  refine wpAny_bind ?_
  · unfold isInstance
    repeat (first | (with_reducible refine wpAny_loadPart_at hx ?_; rw [hc]) | (with_reducible refine wpAny_isSubtype_exc hC ?_; rw [hcB]) | wp_step)
    cases hsig : Manifest.signature? sa with
    | none => exact wpAny_pure hq
    | some sig =>
      simp only [argsOk, hsig] at ha
      have h2 : Bind.checkArgs sa sig ⟨[.ref x, nameV, v], []⟩ = pure () := ha
      show wpAny M A (Bind.checkArgs sa sig ⟨[.ref x, nameV, v], []⟩) Q E _
      rw [h2]; exact wpAny_pure hq
theorem store_first {o : Obj} {Q : Unit → Shared → Prop} (SF : StoreFacts B bmB sa owner) (T : Tail h no bmB bm) (h1 : no "__setattr__") (h2 : no name)
    (hC : h.get? C = some (excClassObj nm q C N bs bm true sn sub ab col dd k0 k1 k2 k3 k5 newId)) (hn : h.Ns N mN) (hns : mN "__setattr__" = none) (hna : mN name = none)
    (hB : typeLookup (.type B) name = pure none) (hx : h.get? x = some o) (hc : o.cls = .ref C) (hnc : ∀ c, o.data ≠ .cls c) (hdn : o.dict = none)
    (hq : ∀ h' tk', h'.get? x = some { o with dict := some h.objs.size } → h'.Ns1 h.objs.size (fun y => if y = name then some v else none) → (∀ b ob, b ≠ x → h.get? b = some ob → h'.get? b = some ob) → h.objs.size < h'.objs.size → Q () ⟨h', g, d, tk', os⟩) :
    wpAny (model prog w) A (setAttr (.ref x) name v) Q E ⟨h, g, d, t, os⟩ := by
  have f3 := SF.slot.bind (.ref x)
  have hpass := refuse_tail T (SF.passes (.ref x))
  unfold setAttr callSpecial? specialOf
  repeat (any_goals (first | assumption | (with_reducible refine wpAny_loadPart_at hx ?_; rw [hc]) | (with_reducible refine lookup h1 hC hn T SF.mro SF.slot.lookup ?_; rw [hns]) | wp_step))
  refine codeAny_call_builtin SF.slot.plain SF.entry (check_sa SF T hC hx hc ?_)
  unfold Builtin.«object.__setattr__»
  repeat (first | rw [refuse_eq] | (rw [refuseLoop_ref, hpass]) | (with_reducible refine wpAny_loadPart_at hx ?_; rw [hc]) | with_reducible refine wpAny_mroOf_exc hC ?_ | (with_reducible refine lookup h2 hC hn T SF.mro hB ?_; rw [hna]) | wp_step)
  rw [hdn, if_neg (by simp [typeHasDict])]
  split
  · rename_i hcd
    cases hcd
  split
  · rename_i c hcd
    exact absurd hcd (hnc c)
  · have hx₁ : (h.push { cls := .type "dict", data := .dict #[] }).get? x = some o := Heap.get?_push_of_some _ hx
    have hxs : x ≠ h.objs.size := Nat.ne_of_lt (Heap.lt_size hx)
    refine wpAny_bind (wpAny_alloc' ?_)
    refine wpAny_bind (wpAny_update' hx₁ ?_)
    refine wpAny_pure ?_
    have hgd : ((h.push { cls := .type "dict", data := .dict #[] }).update x fun o => { cls := o.cls, dict := some h.objs.size, data := o.data, slots := o.slots }).get? h.objs.size
        = some { cls := .type "dict", data := .dict #[] } :=
      (Heap.get?_update_ne _ _ _ _ hxs.symm).trans (Heap.get?_push_at rfl rfl)
    have hnd : ((h.push { cls := .type "dict", data := .dict #[] }).update x fun o => { cls := o.cls, dict := some h.objs.size, data := o.data, slots := o.slots }).Ns h.objs.size (fun _ => none) :=
      ⟨_, #[], _, hgd, rfl, fun e he => absurd he (by simp), fun _ => rfl⟩
    show wpAny _ _ (storeInDict h.objs.size (.str name _) name v) _ _ _
    unfold storeInDict newKeyGuard
    refine wpAny_bind (wpAny_pure (wpAny_bind (wpAny_nsSet1 (Heap.Ns1.of_empty hnd) fun h' hn' hs => ?_)))
    obtain ⟨oD, esD, epD, hoD, hdD, hcD⟩ := hn'.count (Within.cons name v Within.nil)
    refine wpAny_bind (wpAny_lookBehind hoD (by rw [hdD]; exact pastItsLine_dict (Nat.le_trans hcD (by rw [List.length_cons, List.length_nil, sizeLine_eq]; omega))) ?_)
    wp_walk
    have hx' : h'.get? x = some { o with dict := some h.objs.size } := ?_
    refine hq h' _ hx' hn' (fun b ob hbx hb => ?_) (Heap.lt_size hoD)
    · exact (hs.2 b (Nat.ne_of_lt (Heap.lt_size hb))).trans ((Heap.get?_update_ne _ _ _ _ hbx).trans (Heap.get?_push_of_some _ hb))
    · refine (hs.2 x hxs).trans (Heap.get?_update_self _ hx₁ ?_)
      have hfr := (Heap.get?_some_iff.mp hx).2
      obtain ⟨oc, od, odt, osl⟩ := o
      cases odt <;> first | rfl | exact hfr
end
section
open Builtin Builtin.ObjectAttr
variable {prog : Program} {w : World} {A : Around} {E : Value → Shared → Prop} {h : Heap} {g : Array GenState} {d : Drawn} {t : Nat} {os : OsState}
variable {nm q : Str} {C N a dx : Addr} {bs bm bmB : List Value} {sn : List Str} {sub : List Value} {ab : Bool} {col : Option Bool} {dd : Option Addr} {k0 k1 k2 k3 k5 : Option Value} {B newId : String}
  {mN mA : Str → Option Value} {name : Str} {v : Value} {no : Str → Prop} {o : Obj} {vs : Array Value}
theorem field_entry {tk : Tok} {Q : Fin → Shared → Prop} (FB : ExcAttrBase B bmB) (hC : h.get? C = some (excClassObj nm q C N bs bm true sn sub ab col dd k0 k1 k2 k3 k5 newId)) (hN : h.Ns N mN) (T : Tail h no bmB bm) (hno : no name) (hna : mN name = none)
    (hB : typeLookup (.type B) name = pure none) (hx : h.get? a = some o) (hc : o.cls = .ref C) (hd : o.data = .fields vs) (hdx : o.dict = some dx) (hns : h.Ns dx mA) (hv : mA name = some v) (hq : Q (.done (.ret v)) ⟨h, g, d, t, os⟩) :
    wpAny (model prog w) A (Builtin.«object.__getattribute__» ⟨[.ref a, .str name tk], []⟩) Q E ⟨h, g, d, t, os⟩ := by
  unfold Builtin.«object.__getattribute__»
  repeat (first | (with_reducible refine wpAny_loadPart_at hx ?_; rw [hc]) | (with_reducible refine lookup hno hC hN T FB.mro hB ?_; rw [hna]) | wp_step)
  split
  · rename_i c hcd
    rw [hd] at hcd
    cases hcd
  unfold instanceDict
  repeat (first | (with_reducible refine wpAny_loadPart_at hx ?_; rw [hc]) | with_reducible refine wpAny_loadPart_at hC ?_ | wp_step)
  rw [hdx]
  repeat (first | (with_reducible refine wpAny_nsGet hns ?_; rw [hv]) | wp_step)
  exact hq
theorem check_ga {M : Model} {nameV : Value} {Q : Unit → Shared → Prop} (FB : ExcAttrBase B bmB) (hC : h.get? C = some (excClassObj nm q C N bs bm true sn sub ab col dd k0 k1 k2 k3 k5 newId)) (T : Tail h no bmB bm)
    (hx : h.get? a = some o) (hc : o.cls = .ref C) (hq : Q () ⟨h, g, d, t, os⟩) : wpAny M A (checkBuiltinCall "BaseException.__getattribute__" ⟨[.ref a, nameV], []⟩) Q E ⟨h, g, d, t, os⟩ := by
  have hk : builtinKind "BaseException.__getattribute__" = some .slot := by decide +kernel
  have hsplit : splitId "BaseException.__getattribute__" = some ("BaseException", "__getattribute__") := by decide +kernel
  have hcB : (Value.ref C :: bm).contains (.type "BaseException") = true := by rw [List.contains_cons, T.hasType FB.hasBase]; rfl
  have ha := F.args_bexc_ga (.ref a) nameV
  simp only [checkBuiltinCall, hk, hsplit]
  refine wpAny_bind ?_
  · unfold isInstance
    repeat (first | (with_reducible refine wpAny_loadPart_at hx ?_; rw [hc]) | (with_reducible refine wpAny_isSubtype_exc hC ?_; rw [hcB]) | wp_step)
    exact hq
theorem field_attr {expr : Bool} {Q : Value → Shared → Prop} (FB : ExcAttrBase B bmB) (hC : h.get? C = some (excClassObj nm q C N bs bm true sn sub ab col dd k0 k1 k2 k3 k5 newId)) (hN : h.Ns N mN) (T : Tail h no bmB bm)
    (n1 : no "__getattribute__") (n2 : no "__getattr__") (m1 : mN "__getattribute__" = none) (m2 : mN "__getattr__" = none) (hno : no name) (hna : mN name = none)
    (hB : typeLookup (.type B) name = pure none) (hx : h.get? a = some o) (hc : o.cls = .ref C) (hd : o.data = .fields vs) (hdx : o.dict = some dx) (hns : h.Ns dx mA) (hv : mA name = some v) (hh : handedOut v = pure v) (hq : Q v ⟨h, g, d, t + 1, os⟩) :
    wpAny (model prog w) A (getAttr (.ref a) name expr) Q E ⟨h, g, d, t, os⟩ := by
  have f3 := FB.ga.bind (.ref a)
  have hx0 : (expr && onTheHeap (Value.builtin "BaseException.__getattribute__")) = false := by cases expr <;> rfl
  have hx2 : (Value.builtin "BaseException.__getattribute__" == Value.builtin "object.__getattribute__") = false := by decide +kernel
  have hx1 : (onTheHeap (Value.ref C) && Value.builtin "BaseException.__getattribute__" == Value.builtin "object.__getattribute__") = false := by rw [hx2]; rfl
  unfold getAttr getAttrBy
  repeat (any_goals (first | assumption | (with_reducible refine wpAny_loadPart_at hx ?_; rw [hc]) | (with_reducible refine lookup n1 hC hN T FB.mro FB.ga.lookup ?_; rw [m1]) | (with_reducible refine lookup n2 hC hN T FB.mro FB.noGetattr ?_; rw [m2]) | wp_step))
  refine codeAny_call_builtin FB.ga.plain F.entry_bexc_ga (check_ga FB hC T hx hc (field_entry FB hC hN T hno hna hB hx hc hd hdx hns hv ?_))
  repeat (any_goals (first | assumption | wp_step))
end
end XE
namespace L2
open PySem PySem.Spec PyProof.Rows
def XO (C d a : Addr) : HO := .ext fun h => ∃ o vs, h.get? a = some o ∧ o.cls = .ref C ∧ o.dict = some d ∧ o.data = .fields vs
def XN (C a : Addr) : HO := .ext fun h => ∃ o vs, h.get? a = some o ∧ o.cls = .ref C ∧ o.dict = none ∧ o.data = .fields vs ∧ vs[1]? = some .none
section
variable {P : Program} {w : World} {H : Hp} {h : Heap} {a C d : Addr}
theorem XO.ok (x : ∃ o vs, h.get? a = some o ∧ o.cls = .ref C ∧ o.dict = some d ∧ o.data = .fields vs) : ObjOk P w H h a (XO C d a) :=
  ⟨x, let ⟨o, _, e, _⟩ := x; ⟨o, e⟩, fun _ _ ⟨o, vs, e, r⟩ k => ⟨o, vs, k o e, r⟩⟩
theorem XN.ok (x : ∃ o vs, h.get? a = some o ∧ o.cls = .ref C ∧ o.dict = none ∧ o.data = .fields vs ∧ vs[1]? = some .none) : ObjOk P w H h a (XN C a) :=
  ⟨x, let ⟨o, _, e, _⟩ := x; ⟨o, e⟩, fun _ _ ⟨o, vs, e, r⟩ k => ⟨o, vs, k o e, r⟩⟩
theorem XO.of (x : ObjOk P w H h a (XO C d a)) : ∃ o vs, h.get? a = some o ∧ o.cls = .ref C ∧ o.dict = some d ∧ o.data = .fields vs := x.1
theorem XN.of (x : ObjOk P w H h a (XN C a)) : ∃ o vs, h.get? a = some o ∧ o.cls = .ref C ∧ o.dict = none ∧ o.data = .fields vs ∧ vs[1]? = some .none := x.1
end
structure ThrS (X : Cx) (pins : List (Addr × Obj)) (σ : St) (H : Hp) (s : Shared) (a C d : Addr) (fs : List (Str × V)) (ts : List Addr) : Prop where
  inv : Inv X pins σ H s
  xo : H a = some (XO C d a)
  xd : H d = some (.xd fs)
  own : ∀ T ∈ ts, Own X pins T ∧ H T = none ∧ X.s₀.heap.objs.size ≤ T
  out : XE.Out s.heap a (.ref C) (some d) ts
def Thr (X : Cx) (E : XK) (e : Value) (s : Shared) : Prop := ∃ pins σ H a C d fs ts, e = .ref a ∧ ThrS X pins σ H s a C d fs ts ∧ E e (some d) H
section
variable {X : Cx} {pins : List (Addr × Obj)} {σ : St} {H : Hp} {s : Shared} {a C d T : Addr} {fs : List (Str × V)} {ts : List Addr} {fl : Value} {h' : Heap}
abbrev hidX (X : Cx) (s : Shared) (a : Addr) (ts : List Addr) : Heap := PySem.W.hideAll s.heap (a :: ts ++ frs X.stack)
theorem ThrS.on (t : ThrS X pins σ H s a C d fs ts) : XE.On (hidX X s a ts) X.stack a s.heap :=
  ⟨fun b o q => PySem.W.of_hideAll _ q, PySem.W.hideAll_none _ (by simp), PySem.W.funFrames_hide t.inv.stack fun env he b hb => by
    refine List.mem_append_right _ ?_
    exact List.mem_filterMap.mpr ⟨env, he, hb⟩⟩
theorem ThrS.hid (t : ThrS X pins σ H s a C d fs ts) : ∀ T ∈ ts, (hidX X s a ts).get? T = none := fun T hT => PySem.W.hideAll_none _ (by simp [hT])
theorem ThrS.pass (t : ThrS X pins σ H s a C d fs ts) (st : (hidX X s a ts).StaysIn h') (tr : XE.Tr h' a T (.ref C) (some d) fl) (u : s.heap.UpToSlots h') :
    Un (frs X.stack) ts H H s.heap h' ∧ HOk X.prog X.w H h' := by
  have keepB : ∀ b o, s.heap.get? b = some o → b ≠ a → b ∉ ts → b ∉ frs X.stack → h'.get? b = some o := fun b o q h1 h2 h3 =>
    st b o (PySem.W.hideAll_get _ q (by simp only [List.cons_append, List.mem_cons, List.mem_append]; exact fun z => z.elim h1 fun z => z.elim h2 h3))
  have fr : ∀ b o, s.heap.get? b = some o → b ∈ frs X.stack → ∃ sl, h'.get? b = some { o with slots := sl } := fun b o q hb => by
    obtain ⟨_, o', ho', hd⟩ := t.inv.stack.mem hb
    rw [q] at ho'
    cases ho'
    exact u b o q hd
  have na : ∀ b, H b = none → b ≠ a := fun b n z => by rw [z, t.xo] at n; cases n
  refine ⟨⟨fun b o q n hb hx => keepB b o q (na b n) hx hb, fun b o q n hb hx => fr b o q hb, fun b o q n _ => n, fun b o q hx => ?_, fun _ _ q => q, fun _ _ _ q => q, fun b ps q => ⟨#[], by rw [q]; simp⟩⟩, fun b o' q => ?_⟩
  · by_cases h1 : b = a
    · subst h1
      obtain ⟨o1, _, e1, _⟩ := tr.there
      exact ⟨o1, e1⟩
    · by_cases h2 : b ∈ frs X.stack
      · obtain ⟨sl, e⟩ := fr b o q h2
        exact ⟨_, e⟩
      · exact ⟨o, keepB b o q h1 hx h2⟩
  · by_cases h1 : b = a
    · subst h1
      rw [t.xo] at q
      cases q
      exact XO.ok tr.there
    · refine (t.inv.hok b o' q).stay (fun c v hc r => keepB c v r ?_ ?_ ?_) (fun _ z => z) fun _ _ z => z
      · rcases hc with rfl | hc
        · exact h1
        · intro z
          rw [z, t.xo] at hc
          cases hc
      · intro z
        have n := (t.own c z).2.1
        rcases hc with rfl | hc
        · rw [n] at q; cases q
        · rw [n] at hc; cases hc
      · intro z
        have n := t.inv.stkFree c z
        rcases hc with rfl | hc
        · rw [n] at q; cases q
        · rw [n] at hc; cases hc
theorem ThrS.go (t : ThrS X pins σ H s a C d fs ts) (st : (hidX X s a ts).StaysIn h') (tr : XE.Tr h' a T (.ref C) (some d) fl) (u : s.heap.UpToSlots h') : Inv X pins σ H { s with heap := h' } :=
  t.inv.call' (s' := { s with heap := h' }) rfl (t.pass st tr u).1 (t.pass st tr u).2 t.inv.bare fun b hb => ⟨(t.own b hb).1.old, (t.own b hb).1.ne, (t.own b hb).1.cells, (t.own b hb).1.pin⟩
theorem Inv.ownN (I : Inv X pins σ H s) (hT : s.heap.objs.size ≤ T) : Own X pins T where
  ne := Nat.ne_of_gt (Nat.lt_of_lt_of_le I.lt hT)
  old := .inr (Nat.le_trans I.sz hT)
  cells := fun x c e => by
    obtain ⟨v, o, ho, _⟩ := I.cell x c e
    exact Nat.ne_of_lt (Nat.lt_of_lt_of_le (Heap.lt_size ho) hT)
  pin := fun p hp => Nat.ne_of_lt (Nat.lt_of_lt_of_le (Heap.lt_size (I.pin p hp).1) hT)
end
def CXW (P : Program) (w : World) : CXT := fun outer H s E e s' => ∃ a C d fs T H', e = .ref a ∧ s'.os = s.os ∧ AllBare s'.gens ∧ Un (frs outer) [] H H' s.heap s'.heap ∧ HOk P w H' s'.heap ∧
  H' a = some (XO C d a) ∧ H' d = some (.xd fs) ∧ H' T = none ∧ s.heap.objs.size ≤ T ∧ XE.Tr s'.heap a T (.ref C) (some d) .none ∧ E e (some d) H'
theorem CXW.thr {X : Cx} {pins : List (Addr × Obj)} {σ : St} {H : Hp} {s s' : Shared} {E : XK} {e : Value} (I : Inv X pins σ H s) (x : CXW X.prog X.w X.stack H s E e s') : Thr X E e s' := by
  obtain ⟨a, C, d, fs, T, H', rfl, os, bare, un, hok, ha, hd, hT, sz, tr, q⟩ := x
  refine ⟨pins, σ, H', a, C, d, fs, [T], rfl, ⟨I.call' os un hok bare (fun b z => nomatch z), ha, hd, fun T' hT' => ?_, (.inr ⟨T, _, rfl, tr⟩)⟩, q⟩
  obtain rfl : T' = T := by simpa using hT'
  exact ⟨I.ownN sz, hT, Nat.le_trans I.sz sz⟩
section
variable {P : Program} {w : World} {K : PySem.W.Frag} {mg : Str → Option Value} {base : Heap} {N : List Str} {qual : Str} {scope : Scope} {f : Addr} {cd : Value} {A : Around} {outer : List Env} {s₀ : Shared} {H₀ : Hp} {E : XK}
theorem leave_fn {e : Value} {s : Shared} (t : Thr (cxOf (CXW P w) P w K mg base N qual scope f cd A outer s₀ H₀ E) E e s) : (cxOf (CXW P w) P w K mg base N qual scope f cd A outer s₀ H₀ E).xe e s := by
  obtain ⟨pins, σ, H, a, C, d, fs, ts, rfl, t, q⟩ := t
  show wpAny (model P w) (A.deeper (envOfC qual scope s₀.heap.objs.size f cd)) (leaving (envOfC qual scope s₀.heap.objs.size f cd) (.ref a)) _ _ s
  refine XE.leave_out (base := hidX (cxOf (CXW P w) P w K mg base N qual scope f cd A outer s₀ H₀ E) s a ts) t.inv.ok.frames rfl t.on t.hid t.out fun h' T hT o tr u => ?_
  have I' := t.go o.1 tr u
  have hok := (t.pass o.1 tr u).2
  have sz : s₀.heap.objs.size ≤ T ∧ H T = none := by
    rcases hT with hT | hT
    · exact ⟨(t.own T hT).2.2, (t.own T hT).2.1⟩
    · exact ⟨Nat.le_trans t.inv.sz hT, t.inv.hok.fresh hT⟩
  exact ⟨a, C, d, fs, T, H, rfl, I'.os, I'.bare, I'.base, hok, t.xo, t.xd, sz.2, sz.1, tr, q⟩
theorem Fun.okX {x qual : Str} {st : Stmt} {f : Addr} {fd : FuncData} {N ps : List Str} {k : Nat} {sp : Sp} (F : Fun K x qual st f fd) (S : FnScope N ps (defScope st)) (len : ∀ vs H Q E, sp vs H Q E → vs.length = ps.length)
    (hbody : ∀ (cdv : Value) (A : Around) (outer : List Env) (s : Shared) (H : Hp) (vs : List V) (Q : VK) (E : XK), Room k (A.deeper (envOfC qual (defScope st) s.heap.objs.size f cdv)) → sp vs H Q E →
      ∃ t, PSs (cxOf (CXW P w) P w K mg base N qual (defScope st) f cdv A outer s H E) (defBody st) t ∧ t { nx := fun _ H' => Q .non H', rt := Q } (start N vs) H) : FnOk P w K mg base (CXW P w) (k + 1) f fd ps sp := by
  obtain ⟨oc, od, kV, doc, pm, an, cdv, ct, osl, rfl, lk, hcd⟩ := F.ex
  exact fn_of lk hcd S len fun A outer s H vs Q E hr hsp => hbody cdv A outer s H vs Q E hr hsp
end
theorem ns_some {K : PySem.W.Frag} {h : Heap} {N : Addr} {mg : Str → Option Value} {n : Str} {v : Value} (X : K.In h) (G : h.Ns N mg) (e : PySem.W.nsIn K N n = some (some v)) : mg n = some v := by
  obtain ⟨o, es, ep, ho, hd, _, hf⟩ := G
  unfold PySem.W.nsIn at e
  split at e
  · rename_i c d es' n' sl q
    have := X _ _ q
    rw [ho] at this
    cases this
    cases hd
    split at e
    · rename_i en he
      cases e
      rw [← hf]
      unfold nsFind findBy
      rw [← Array.find?_toList, he]
      rfl
    · split at e <;> cases e
  · cases e
abbrev bmV : List Value := [.type "ValueError", .type "Exception", .type "BaseException", .type "object"]
structure ExK (K : PySem.W.Frag) (C fI : Addr) (no : List Str) : Prop where
  cls : ∃ nm q N bs S sn sub ab col dd k0 k1 k2 k3 k5, K.lookup C = some (excClassObj nm q C N bs (.ref S :: bmV) true sn sub ab col dd k0 k1 k2 k3 k5 "ValueError.__new__") ∧ PySem.W.nsOkIn K N = true ∧
    PySem.W.nsIn K N "__init__" = some (some (.ref fI)) ∧ (∀ n ∈ no, PySem.W.nsIn K N n = some none) ∧
    ∃ c0 ds cd sl, K.lookup S = some ⟨c0, ds, .cls cd, sl⟩ ∧ PySem.W.nsOkIn K cd.ns = true ∧ PySem.W.nsIn K cd.ns "__init__" = some none ∧ ∀ n ∈ no, PySem.W.nsIn K cd.ns n = some none
  kp : PySem.W.keepIn K (.ref C) = true
  fn : PySem.W.isFn K (.ref fI) = true
structure ExH (h : Heap) (C fI : Addr) (no : List Str) (nm q : Str) (N : Addr) (bs : List Value) (S : Addr) (sn : List Str) (sub : List Value) (ab : Bool) (col : Option Bool) (dd : Option Addr) (k0 k1 k2 k3 k5 : Option Value) (mN : Str → Option Value) : Prop where
  c : h.get? C = some (excClassObj nm q C N bs (.ref S :: bmV) true sn sub ab col dd k0 k1 k2 k3 k5 "ValueError.__new__")
  n : h.Ns N mN
  i : mN "__init__" = some (.ref fI)
  o : ∀ n ∈ no, mN n = none
  t : XE.Tail h (fun n => n = "__init__" ∨ n ∈ no) bmV (.ref S :: bmV)
theorem ExK.at {K : PySem.W.Frag} {C fI : Addr} {no : List Str} (x : ExK K C fI no) {h : Heap} (X : K.In h) : ∃ nm q N bs S sn sub ab col dd k0 k1 k2 k3 k5 mN, ExH h C fI no nm q N bs S sn sub ab col dd k0 k1 k2 k3 k5 mN := by
  obtain ⟨nm, q, N, bs, S, sn, sub, ab, col, dd, k0, k1, k2, k3, k5, lk, ok, ii, nn, c0, ds, cd, sl, lS, okS, iS, nS⟩ := x.cls
  have hN : h.Ns N (h.nsMap N) := .of_isNs (PySem.W.isNs_of_in X ok)
  have hS : h.Ns cd.ns (h.nsMap cd.ns) := .of_isNs (PySem.W.isNs_of_in X okS)
  exact ⟨nm, q, N, bs, S, sn, sub, ab, col, dd, k0, k1, k2, k3, k5, _, X _ _ lk, hN, ns_some X hN ii, fun n hn => PySem.W.ns_none_of X hN (nn n hn), .own (X _ _ lS) hS (fun n hn => by
    rcases hn with rfl | hn
    · exact PySem.W.ns_none_of X hS iS
    · exact PySem.W.ns_none_of X hS (nS n hn)) .base⟩
def XF (C d a : Addr) : HO := .ext fun h => ∃ o vs, h.get? a = some o ∧ o.cls = .ref C ∧ o.dict = some d ∧ o.data = .fields vs ∧ vs[1]? = some .none
section
variable {P : Program} {w : World} {H : Hp} {h : Heap} {a C d : Addr}
theorem XF.ok (x : ∃ o vs, h.get? a = some o ∧ o.cls = .ref C ∧ o.dict = some d ∧ o.data = .fields vs ∧ vs[1]? = some .none) : ObjOk P w H h a (XF C d a) :=
  ⟨x, let ⟨o, _, e, _⟩ := x; ⟨o, e⟩, fun _ _ ⟨o, vs, e, r⟩ k => ⟨o, vs, k o e, r⟩⟩
theorem XF.of (x : ObjOk P w H h a (XF C d a)) : ∃ o vs, h.get? a = some o ∧ o.cls = .ref C ∧ o.dict = some d ∧ o.data = .fields vs ∧ vs[1]? = some .none := x.1
end
section
variable {X : Cx} {pins : List (Addr × Obj)} {σ : St} {H : Hp} {s : Shared}
theorem Inv.trackO {D : Addr} {o : HO} (I : Inv X pins σ H s) (hn : H D = none) (new : ObjOk X.prog X.w (upd H D o) s.heap D o) (w : Own X pins D) : Inv X pins σ (upd H D o) s := by
  have ne : ∀ b o, H b = some o → b ≠ D := fun b o e => ne_of_none e hn
  refine I.step (h' := s.heap) (g' := s.gens) (d' := s.drawn) (t' := s.toks) (ch := [D]) (fun b hb => ?_) (fun b o _ _ _ e _ => e) (fun b o _ _ _ e _ => ⟨o.slots, e⟩) (fun b o hc _ n => ?_)
    (fun b o _ e => ⟨o, e⟩) (fun b xs e => ?_) (fun b o u e => ?_) (fun b ps e => ⟨#[], ?_⟩) (fun _ z => z) (fun b u e => ?_) I.bare
  · have e : b = D := by simpa using hb
    subst e
    exact ⟨w.old, w.ne, w.cells, w.pin⟩
  · rw [upd_ne (fun z => hc (by simp [z]))]; exact n
  · rw [upd_ne (ne _ _ e)]; exact e
  · rw [upd_ne (ne _ _ e)]; exact e
  · rw [upd_ne (ne _ _ e), e]; simp
  · by_cases hb : b = D
    · subst hb
      rw [upd_same] at e
      cases e
      exact new
    · rw [upd_ne hb] at e
      exact (I.hok b u e).stay (fun c v _ q => q) (fun c q => by rw [upd_ne (ne _ _ q)]; exact q) fun c xs q => by rw [upd_ne (ne _ _ q)]; exact q
variable {a C d fI : Addr} {no : List Str} {f : Str} {A : Around} {E : Value → Shared → Prop}
theorem setX_ok {y : V} {u : Value} {Q : Unit → Shared → Prop} (I : Inv X pins σ H s) (e : H a = some (XN C a)) (c : ExK X.K C fI no) (h1 : ("__setattr__" : Str) ∈ no) (h2 : f ∈ no) (hB : typeLookup (.type "ValueError") f = pure none) (ry : RelV y u)
    (h : ∀ s' d, H d = none → d ≠ a → Inv X pins σ (upd (upd H a (XF C d a)) d (.xd [(f, y)])) s' → Q () s') : wpAny (model X.prog X.w) A (setAttr (.ref a) f u) Q E s := by
  obtain ⟨o, vs, ea, ec, ed, ef, e1⟩ := XN.of (I.hok a _ e)
  obtain ⟨nm, q, N, bs, S, sn, sub, ab, col, dd, k0, k1, k2, k3, k5, mN, x⟩ := c.at I.kIn
  obtain ⟨hp, g, dr, tk, os⟩ := s
  refine XE.store_first PySem.F.store_ValueError x.t (.inr h1) (.inr h2) x.c x.n (x.o _ h1) (x.o _ h2) hB ea ec (fun c z => by rw [ef] at z; cases z) ed fun h' tk' ha hn hk hz => ?_
  have fr : hp.objs.size ≤ hp.objs.size := Nat.le_refl _
  have hdn : H hp.objs.size = none := I.hok.fresh fr
  have hda : hp.objs.size ≠ a := Nat.ne_of_gt (Heap.lt_size ea)
  have I2 : Inv X pins σ (upd H a (XF C hp.objs.size a)) ⟨h', g, dr, tk', os⟩ :=
    I.write (t' := tk') (x := a) (e := a) (by rw [e]; trivial) (.inl rfl) (fun b ob hb q => hk b ob hb q) ⟨_, ha⟩ (XF.ok ⟨_, vs, ha, ec, rfl, ef, e1⟩)
  refine h _ hp.objs.size hdn hda (I2.trackO (by rw [upd_ne hda]; exact hdn) ⟨_, hn, fun z => ?_⟩ ?_)
  · by_cases hz : z = f
    · subst hz
      simpa [List.lookup, RelO] using ry
    · have : (z == f) = false := by simpa using hz
      simp [List.lookup, this, hz, RelO]
  · have w := I.ownN (T := hp.objs.size) fr
    exact ⟨w.ne, w.old, w.cells, w.pin⟩
theorem getX_ok {b : Bool} {fs : List (Str × V)} {v : V} {Q : Value → Shared → Prop} (I : Inv X pins σ H s) (e : H a = some (XO C d a)) (ed : H d = some (.xd fs)) (c : ExK X.K C fI no) (h1 : ("__getattribute__" : Str) ∈ no) (h2 : ("__getattr__" : Str) ∈ no) (h3 : f ∈ no)
    (hB : typeLookup (.type "ValueError") f = pure none) (l : fs.lookup f = some v) (h : ∀ u s', Inv X pins σ H s' → RelV v u → Q u s') : wpAny (model X.prog X.w) A (getAttr (.ref a) f b) Q E s := by
  obtain ⟨o, vs, ea, ec, edi, ef⟩ := XO.of (I.hok a _ e)
  obtain ⟨mA, hm, r⟩ := I.hok d _ ed
  obtain ⟨u, hu, ru⟩ := RelO.some_of (v := v) (o := mA f) (by rw [← l]; exact r f)
  obtain ⟨nm, q, N, bs, S, sn, sub, ab, col, dd, k0, k1, k2, k3, k5, mN, x⟩ := c.at I.kIn
  have I' := I.tok (s.toks + 1)
  obtain ⟨hp, g, dr, tk, os⟩ := s
  exact XE.field_attr PySem.F.attrBase_ValueError x.c x.n x.t (.inr h1) (.inr h2) (x.o _ h1) (x.o _ h2) (.inr h3) (x.o _ h3) hB ea ec ef edi hm.ns hu (PySem.W.handedOut_of (handed_of ru)) (h u _ I' ru)
end
theorem fn_at {K : PySem.W.Frag} {f : Addr} {h : Heap} (e : PySem.W.isFn K (.ref f) = true) (X : K.In h) : ∃ o, h.get? f = some o ∧ o.cls = .type "function" := by
  have e : (K.lookup f).map (·.cls) = some (.type "function") := beq_iff_eq.mp e
  cases q : K.lookup f with
  | none => rw [q] at e; cases e
  | some o => rw [q] at e; exact ⟨o, X _ _ q, Option.some.inj e⟩
def sFldX (C : Addr) (ta tv : TE) (f : Str) : TS := fun D σ H => tv σ H fun y H1 => ta σ H1 fun x H2 => ∃ a, x = .ref a ∧ H2 a = some (XN C a) ∧ ∀ d, H2 d = none → d ≠ a → D.nx σ (upd (upd H2 a (XF C d a)) d (.xd [(f, y)]))
def tFldX (C : Addr) (ta : TE) (f : Str) : TE := fun σ H Q => ta σ H fun x H1 => ∃ a d fs v, x = .ref a ∧ H1 a = some (XO C d a) ∧ H1 d = some (.xd fs) ∧ fs.lookup f = some v ∧ Q v H1
def tRaise (C : Addr) (sp : Sp) (E : XK) (t : TA) : TS := fun _ σ H => t σ H fun vs H1 => vs.length ≤ sizeLine ∧ ∀ a, H1 a = none → sp (.ref a :: vs) (upd H1 a (XN C a)) (fun v H2 => v = .non ∧ ∃ d fs, H2 a = some (XF C d a) ∧ H2 d = some (.xd fs) ∧ E (.ref a) (some d) (upd H2 a (XO C d a))) E0
section
variable {X : Cx} {C fI : Addr} {no : List Str} {f x : Str} {o e value : Expr} {es : List Expr} {ta tv : TE} {t : TA} {pos pos' np cpos : Pos} {k : Nat} {fd : FuncData} {ps : List Str} {sp : Sp} {E : XK}
theorem ps_fldX (c : ExK X.K C fI no) (h1 : ("__setattr__" : Str) ∈ no) (h2 : f ∈ no) (hB : typeLookup (.type "ValueError") f = pure none) (ha : PE X o ta) (hv : PE X value tv) (hs : swapsWith value (some (.Attribute o f pos')) pos.line X.env = pure false) :
    PS X (.Assign [.Attribute o f pos'] value pos) (sFldX C ta tv f) := by
  intro pins s σ H D I h
  refine plainObj_wpAny_Assign_Attribute (thn (hv pins s σ H _ I h) fun u s1 ⟨y, H1, I1, ry, q⟩ => thn (ha pins s1 σ H1 _ I1 q) fun ov s2 ⟨x, H2, I2, rx, a, ex, ea, q2⟩ => ?_) hs
  subst ex
  obtain rfl : ov = Value.ref a := rx
  exact setX_ok I2 ea c h1 h2 hB ry fun s3 d hd hda I3 => ⟨σ, _, I3, q2 d hd hda⟩
theorem pe_fldX (c : ExK X.K C fI no) (h1 : ("__getattribute__" : Str) ∈ no) (h2 : ("__getattr__" : Str) ∈ no) (h3 : f ∈ no) (hB : typeLookup (.type "ValueError") f = pure none) (he : PE X e ta) (hb : attributeBase e f X.env (eval e X.env) = eval e X.env) : PE X (.Attribute e f pos) (tFldX C ta f) := by
  intro pins s σ H Q I h
  refine attr_of hb (thn (he pins s σ H _ I h) fun u s1 ⟨x, H1, I1, rx, a, d, fs, v, ex, ea, ed, l, q⟩ => ?_)
  subst ex
  obtain rfl : u = Value.ref a := rx
  exact getX_ok I1 ea ed c h1 h2 h3 hB l fun u' s2 I2 ru => ⟨v, H1, I2, ru, q⟩
theorem ps_raise (hc : X.calm = true) (c : ExK X.K C fI no) (F : FnOk X.prog X.w X.K X.mg X.base CX0 k fI fd ps sp) (hr : Room (k + 1) X.A) (hg : Gl X x) (hm : X.mg x = some (.ref C)) (hb : Binds X.K fd ps []) (hx : ∀ e s', Thr X E e s' → X.xe e s')
    (ha : PA X (e :: es) t) (hdb : (x == ("__debug__" : Str)) = false := by decide) (he : starEach (e :: es) X.env = (false, eval e X.env) :: starEach es X.env := by rfl) (hpl : (backTo cpos (starEach es X.env)).any (·.1) = false := by rfl) :
    PS X (.Raise (some (.Call (.Name x np) (e :: es) [] cpos)) none pos) (tRaise C sp E t) := by
  intro pins s σ H D I h
  obtain ⟨nm, q, N, bs, S, sn, sub, ab, col, dd, k0, k1, k2, k3, k5, lk, _⟩ := c.cls
  refine XE.raise_of (C := C) (nm := nm) (q := q) (N := N) (bs := bs) (bm := .ref S :: bmV) (hdct := true) (sn := sn) (sub := sub) (ab := ab) (col := col) (dd := dd) (k0 := k0) (k1 := k1) (k2 := k2) (k3 := k3) (k5 := k5) (newId := "ValueError.__new__") (by rfl) (I.ok.hd hc) ?_
  refine wpAny_Call_Name_kw (ld_glob I hg hm ?_ hdb)
  refine PySem.W.callWith_K (h₀ := X.base) I.ok.mod.kin c.kp (thn (ha cpos pins s σ H _ I h) fun us s1 ⟨vs, H1, I1, r, hz, q⟩ => ⟨I1.kIn, ?_⟩) he hpl
  obtain ⟨nm', q', N', bs', S', sn', sub', ab', col', dd', k0', k1', k2', k3', k5', mN, x1⟩ := c.at I1.kIn
  have T1 : OwnTail s1.heap bmV (.ref S' :: bmV) := x1.t.ot (.inl rfl)
  have fnI : ∃ oI, s1.heap.get? fI = some oI ∧ oI.cls = .type "function" := by
    exact fn_at c.fn I1.kIn
  obtain ⟨oI, hfI, hfc⟩ := fnI
  obtain ⟨hp, g, dr, tk, os⟩ := s1
  show wpAny _ _ (call (.ref C) us) _ _ _
  refine XE.call_own PySem.F.excBase_ValueError T1 x1.c x1.n x1.i hfI hfc (fun h' hm => ?_) (by rw [← r.length]; exact hz)
  have hsz : hp.objs.size ≤ hp.objs.size + 1 := Nat.le_succ _
  have hq := q (hp.objs.size + 1) (I1.hok.fresh hsz)
  have I2 : Inv X pins σ (upd H1 (hp.objs.size + 1) (XN C (hp.objs.size + 1))) ⟨h', g, dr, tk, os⟩ := by
    refine I1.laid (t' := tk) (fun b o q => hm.keeps b o q) hsz (XN.ok ?_)
    obtain ⟨t, ht, _⟩ := hm.there
    exact ⟨_, _, ht, rfl, rfl, rfl, rfl⟩
  have r2 : Vals (V.ref (hp.objs.size + 1) :: vs) (Value.ref (hp.objs.size + 1) :: us) := .cons rfl r
  have hl : (Value.ref (hp.objs.size + 1) :: us ++ []).length = ps.length := by
    rw [List.append_nil, ← r2.length]; exact F.len _ _ _ _ hq
  refine wpAny_call (codeAny_mono (F.run _ X.stack _ _ ⟨Value.ref (hp.objs.size + 1) :: us, []⟩ (Value.ref (hp.objs.size + 1) :: us) _ _ E0 (hr.make C us []) (I2.env0.make C us []) (by
    have := hb _ (Value.ref (hp.objs.size + 1) :: us) I2.kIn hl
    simpa using this) r2 hq) fun r' s' hq' => ?_)
  cases r' with
  | error e => exact hq'.elim
  | ok fl =>
    cases fl with
    | ret u =>
      obtain ⟨v, H', I3, rv, ev, d, fs, ha', hd', hE⟩ := I2.after hq'
      subst ev
      obtain ⟨oe, vs', he1, he2, he3, he4, he5⟩ := XF.of (I3.hok _ _ ha')
      refine ⟨rv, _, oe, rfl, I3.kIn _ _ lk, he1, he2, ⟨vs', he4, he5⟩, hx _ _ ?_⟩
      have hda : d ≠ hp.objs.size + 1 := fun z => by rw [z, ha'] at hd'; cases hd'
      refine ⟨pins, σ, upd H' (hp.objs.size + 1) (XO C d (hp.objs.size + 1)), _, C, d, fs, [], rfl, ⟨?_, upd_same, by rw [upd_ne hda]; exact hd', fun _ z => (nomatch z), (.inl ⟨rfl, oe, vs', he1, ⟨he2, he3⟩, he4, he5⟩)⟩, hE⟩
      exact I3.write (t' := s'.toks) (h' := s'.heap) (x := hp.objs.size + 1) (e := hp.objs.size + 1) (by rw [ha']; trivial) (.inl rfl) (fun b u _ q => q) ⟨_, he1⟩ (XO.ok ⟨oe, vs', he1, he2, he3, he4⟩)
    | next => exact False.elim hq'
    | brk => exact False.elim hq'
    | cont => exact False.elim hq'
end
end L2
namespace L2
open PySem PySem.Spec PyProof.Rows
section
variable {X : Cx} {scope : Scope} {own : List Str} {js : List Nat} {tg iter elt : Expr} {ifs : List Expr} {wi : TI} {g : TG} {tt : TT} {te : TE} {pos : Pos}
theorem comp_blockX {pins : List (Addr × Obj)} {σ : St} {H2 : Hp} {s2 : Shared} {it : Addr} {fp : List Addr} {tn : Nat → Heap → Prop} {J : It} {F : List V → Hp → Prop} {RR : Value → Addr → Result → Shared → Prop} {E : Value → Shared → Prop} {EX : XK}
    (hst : X.stack = X.env :: X.outer) {L : Addr} (hfr : X.env.frame = some L) (hc : X.calm = true) (ok : CompOk X scope js)
    (hg : ∀ C s H ex pn, PG (cxC X scope own js C s H ex pn NoE) tg g) (ht : ∀ C s H ex pn, PTs (cxC X scope own js C s H ex pn NoE) ifs tt) (he : ∀ C s H ex pn, PE (cxC X scope own js C s H ex pn (Thr (cxC X scope own js C s H ex pn NoE) EX)) elt te)
    (I2 : Inv X pins σ H2 s2) (T : Turn X.prog X.w X.K tg J fp it tn) (st2 : tn 0 s2.heap) (f2 : ∀ b ∈ fp, FpOk X pins H2 b) {W : Nat → Nat → List V → Hp → Prop} {m0 : Nat} (w0 : W 0 m0 [] H2)
    (turn : ∀ i m ys H, W i m ys H → (J.stop i H ∧ F ys H) ∨
      (J.go i H ∧ ys.length < sizeLine ∧ ∃ N : List V → Hp → Prop, (∀ ys' H', N ys' H' → ∃ m', m' < m ∧ W (i + 1) m' ys' H') ∧ ∀ x H', J.yld i H x H' → g x (cσ own.length js σ) H' fun σ2 H2 => tt σ2 H2 fun b H3 => if b = true then te σ2 H3 fun y H4 => N (ys ++ [y]) H4 else N ys H3))
    (hRR : ∀ (D C : Addr) (s' : Shared) (H' : Hp) (ys : List V) (m : Str → Option Value), F ys H' → H' D = none → Inv X pins σ (upd H' D (.lst ys)) s' → s'.heap.Ns C m →
      Own X pins C → (upd H' D (.lst ys)) C = none → RR (.ref D) C (.ok .next) s')
    (hRE : ∀ (D C : Addr) (s' : Shared) (H' : Hp) (a Cc d T : Addr) (fs : List (Str × V)) (m : Str → Option Value), ThrS X pins σ H' s' a Cc d fs [T] → EX (.ref a) (some d) H' → s'.heap.Ns C m → Own X pins C → H' C = none → RR (.ref D) C (.error (.ref a)) s') :
    wpAny (model X.prog X.w) X.A (newList []) (fun acc s₃ => wpAny (model X.prog X.w) X.A (newFunctionEnv scope X.env.globals (clAcc X.env.cells scope.names []) [] X.env.qual none .none (some X.env)) (fun cenv s₄ =>
      codeAny (model X.prog X.w) X.A (.compStart (.ListComp elt [⟨tg, iter, ifs, 0⟩] scope pos) 0 (.ref it) acc { cenv with scope := relabel scope X.env }) (RR acc cenv.locals) s₄) E s₃) E s2 := by
  refine wpAny_newObj_type (wpAny_newFunctionEnv ok.cell (by intro y hy; simp at hy) (fun h₁ hns₁ hsb₁ => ?_) ok.kind)
  dsimp only at hns₁ hsb₁ ⊢
  generalize hP : s2.heap.push { cls := .type "list", dict := none, data := .seq ([] : List Value).toArray } = P2 at hns₁ hsb₁ ⊢
  have hC : P2.objs.size = s2.heap.objs.size + 1 := by rw [← hP, Heap.size_push]
  have hDC : s2.heap.objs.size ≠ P2.objs.size := by rw [hC]; exact Nat.ne_of_lt (Nat.lt_succ_self _)
  have hCle : s2.heap.objs.size ≤ P2.objs.size := by rw [hC]; exact Nat.le_succ _
  have below : ∀ b, b < s2.heap.objs.size → b ≠ P2.objs.size ∧ b ≠ s2.heap.objs.size := fun b hb => ⟨by rw [hC]; exact Nat.ne_of_lt (Nat.lt_succ_of_lt hb), Nat.ne_of_lt hb⟩
  have old : ∀ b o, s2.heap.get? b = some o → h₁.get? b = some o := fun b o e => hsb₁.extBut b o (below b (Heap.lt_size e)).1 (Heap.get?_push_of_some _ (hP ▸ Heap.get?_push_of_some _ e))
  have hacc : h₁.get? s2.heap.objs.size = some { cls := .type "list", data := .seq ([] : List Value).toArray 0 } := hsb₁.extBut _ _ hDC (Heap.get?_push_of_some _ (hP ▸ Heap.get?_push_size _ rfl))
  generalize hDe : s2.heap.objs.size = D at hacc hDC hCle hC below
  generalize hCe : P2.objs.size = C at hns₁ hsb₁ hDC hCle hC below ⊢
  have fo : ∀ b ∈ fp, ∃ o, s2.heap.get? b = some o := fun b hb => let ⟨o, e, _⟩ := T.obj _ _ st2 b hb; ⟨o, e⟩
  have fD : ∀ b ∈ fp, b ≠ D ∧ b ≠ C := fun b hb => by
    obtain ⟨o, e⟩ := fo b hb
    have := below b (hDe ▸ Heap.lt_size e)
    exact ⟨this.2, this.1⟩
  have H2C : H2 C = none := I2.hok.fresh (by rw [hDe]; exact hCle)
  have H2D : H2 D = none := I2.hok.fresh (by rw [hDe]; exact Nat.le_refl _)
  have stkD : D ∉ frs X.stack := fun z => by
    have h1 := I2.nofs (a := D) (by rw [hDe]; exact Nat.le_refl _)
    rcases List.mem_cons.mp (I2.stkSub _ z) with q | q
    · have := I2.lt
      rw [← q, hDe] at this
      exact Nat.lt_irrefl _ this
    · exact h1 q
  have neLoc : D ≠ X.env.locals ∧ C ≠ X.env.locals := by
    have h1 := I2.lt
    rw [hDe] at h1
    exact ⟨Nat.ne_of_gt h1, Nat.ne_of_gt (Nat.lt_of_lt_of_le h1 hCle)⟩
  have cellLt : ∀ x c, X.env.cells.lookup x = some c → c < D := fun x c e => by
    obtain ⟨v, z⟩ := I2.cell x c e
    rw [← hDe]
    exact z.lt
  have pinLt : ∀ p ∈ X.pn ++ pins, p.1 < D := fun p hp => by rw [← hDe]; exact Heap.lt_size (I2.pin p hp).1
  have hs0 : X.s₀.heap.objs.size ≤ D := by rw [← hDe]; exact I2.sz
  have start : ∀ {s' : Shared} {H' : Hp} {m : Str → Option Value} {o : Obj}, s'.os = s2.os → AllBare s'.gens → Un (frs X.stack) fp H2 H' s2.heap s'.heap → s'.heap.Ns C m → HOk X.prog X.w H' s'.heap → H' C = none → s'.heap.get? D = some o → H' D = none → (∀ v, o.data ≠ .cell v) →
      Inv (cxC X scope own js C s2 H2 fp (X.pn ++ pins) NoE) [(D, o)] (cσ own.length js σ) H' s' := fun {s' H' m o} a1 a2 a3 a4 a5 a6 a7 a8 a9 =>
    inv_comp ok I2 (by rw [hDe]; exact hCle) f2 fo a1 a2 a3 a4 a5 a6 fun p hp => by
      have e : p = (D, o) := by simpa using hp
      subst e
      exact ⟨a7, a8, hDC, stkD, a9⟩
  have fpC : ∀ {H' : Hp} {o : Obj}, (∀ b ∈ fp, H' b = none) → ∀ b ∈ fp, FpOk (cxC X scope own js C s2 H2 fp (X.pn ++ pins) NoE) [(D, o)] H' b := fun {H' o} hn b hb => by
    obtain ⟨_, q1, q2, q3, q4, q5⟩ := f2 b hb
    refine ⟨hn b hb, (fD b hb).2, fun z => ?_, .inl hb, fun x c e => q4 x c (ok.sub I2 e), fun p hp => ?_⟩
    · rcases List.mem_cons.mp (I2.stkSub b z) with e | e
      · exact q1 e
      · exact q2 e
    · rcases List.mem_append.mp hp with h | h
      · exact q5 p h
      · have e : p = (D, o) := by simpa using h
        subst e
        exact (fD b hb).1.symm
  have nocell : ∀ (its : Array Value) (n : Nat) (v : Option Value), ({ cls := .type "list", data := .seq its n } : Obj).data ≠ .cell v := fun _ _ _ z => by cases z
  have loop : ∀ s₃ : Shared, s₃ = { s2 with heap := h₁, toks := s2.toks + ([] : List (Str × Value)).length } →
      codeAny (model X.prog X.w) X.A (.compLoop (.ListComp elt [⟨tg, iter, ifs, 0⟩] scope pos) 0 (.ref it) (.ref D) (compEnvC scope (clAcc X.env.cells scope.names []) C X.env)) (RR (.ref D) C) s₃ := by
    rintro s₃ rfl
    refine compLoop_go (fun n s' => ∃ i ys its k H', Inv (cxC X scope own js C s2 H2 fp (X.pn ++ pins) NoE) [(D, { cls := .type "list", data := .seq (its : List Value).toArray k })] (cσ own.length js σ) H' s' ∧ tn i s'.heap ∧ (∀ b ∈ fp, H' b = none) ∧
      W i n ys H' ∧ Vals ys its ∧ ys.length ≤ sizeLine) ?_ m0 ⟨0, [], [], 0, H2, start rfl I2.bare (Un.kept old) hns₁ (I2.hok.kept old) H2C hacc H2D (nocell _ _), T.keep _ _ _ st2 (fun b _ o e => old b o e), fun b hb => (f2 b hb).1, w0, .nil, Nat.zero_le _⟩
    rintro n s3 ⟨i, ys, its, k, H3, I3, st3, fr3, w3, rv, hz⟩
    rcases turn i n ys H3 w3 with ⟨stop, q⟩ | ⟨go, hlt, N, hN, step⟩
    · refine wpAny_mono (T.done (cxC X scope own js C s2 H2 fp (X.pn ++ pins) NoE) rfl rfl rfl hc i _ s3 _ H3 NoE I3 (fpC fr3) st3 stop) (fun r s4 ⟨hr, I4⟩ => ?_) fun _ _ f => f.elim
      subst hr
      obtain ⟨zD, nD, _⟩ := I4.pin (D, _) (List.mem_append_right _ List.mem_cons_self)
      obtain ⟨m, hm, _⟩ := I4.loc
      have I5 : Inv X pins σ H3 s4 := I2.call' I4.os I4.base I4.hok I4.bare fun b hb => ⟨(f2 b hb).2.2.2.1, (f2 b hb).2.1, (f2 b hb).2.2.2.2.1, (f2 b hb).2.2.2.2.2⟩
      have I6 : Inv X pins σ (upd H3 D (.lst ys)) s4 := I5.track nD zD rv hz (.inr hs0) neLoc.1 (fun x c e => Nat.ne_of_lt (cellLt x c e)) fun p hp => Nat.ne_of_lt (pinLt p hp)
      have nC : H3 C = none := I4.free
      exact hRR D C s4 H3 ys m q nD I6 hm ⟨neLoc.2, .inr (Nat.le_trans hs0 hCle), fun x c e => Nat.ne_of_lt (Nat.lt_of_lt_of_le (cellLt x c e) hCle), fun p hp => Nat.ne_of_lt (Nat.lt_of_lt_of_le (pinLt p hp) hCle)⟩ (by rw [upd_ne (Ne.symm hDC)]; exact nC)
    · refine wpAny_mono (T.item (cxC X scope own js C s2 H2 fp (X.pn ++ pins) NoE) rfl rfl rfl hc i _ s3 _ H3 NoE I3 (fpC fr3) st3 go) (fun r s4 ⟨u, hr, h4⟩ => ?_) fun _ _ f => f.elim
      subst hr
      refine wpAny_mono h4 (fun _ s5 ⟨x, H5, I5, r5, y5, st5, fr5⟩ => ?_) fun _ _ f => f.elim
      have I5' := I5.pinned (fpC fr5) (T.obj _ _ st5)
      refine wpAny_mono (hg _ _ _ _ _ _ s5 _ H5 x u _ I5' r5 (step x H5 y5)) (fun _ s6 ⟨σ6, H6, I6, q6⟩ => ?_) fun _ _ f => f.elim
      refine wpAny_mono (ht _ _ _ _ _ _ s6 σ6 H6 _ I6 q6) (fun b s7 ⟨H7, I7, q7⟩ => ?_) fun _ _ f => f.elim
      have back : ∀ {s8 : Shared} {H8 : Hp} {m' : Nat} {ys' : List V} {its' : List Value} {k' : Nat}, Inv (cxC X scope own js C s2 H2 fp (X.pn ++ pins) NoE) [] σ6 H8 s8 → s8.heap.get? D = some { cls := .type "list", data := .seq its'.toArray k' } → H8 D = none →
          (∀ b ∈ fp, ∀ o, s5.heap.get? b = some o → s8.heap.get? b = some o) → (∀ b ∈ fp, H8 b = none) → W (i + 1) m' ys' H8 → Vals ys' its' → ys'.length ≤ sizeLine →
          ∃ i ys its k H', Inv (cxC X scope own js C s2 H2 fp (X.pn ++ pins) NoE) [(D, { cls := .type "list", data := .seq (its : List Value).toArray k })] (cσ own.length js σ) H' s8 ∧ tn i s8.heap ∧ (∀ b ∈ fp, H' b = none) ∧ W i m' ys H' ∧ Vals ys its ∧ ys.length ≤ sizeLine :=
        fun {s8 H8 m' ys' its' k'} J zD nD kf fr w' rv' hz' => by
          obtain ⟨m, hm, _⟩ := J.loc
          exact ⟨i + 1, ys', its', k', H8, start J.os J.bare J.base hm J.hok J.free zD nD (nocell _ _), T.keep _ _ _ st5 kf, fr, w', rv', hz'⟩
      cases b with
      | false =>
        rw [if_neg Bool.false_ne_true]
        rw [if_neg Bool.false_ne_true] at q7
        obtain ⟨m', hm', w'⟩ := hN _ _ q7
        have pD := I7.pin (D, _) (List.mem_append_right _ (List.mem_append_left _ List.mem_cons_self))
        refine ⟨m', hm', back (I7.pins_of (pins' := []) fun p hp => nomatch hp) pD.1 pD.2.1 (fun b hb o e => (I7.pin (b, o) (List.mem_append_right _ (List.mem_append_right _ (mem_pinsAt hb e)))).1) (fun b hb => ?_) w' rv hz⟩
        obtain ⟨o, e, _⟩ := T.obj _ _ st5 b hb
        exact (I7.pin (b, o) (List.mem_append_right _ (List.mem_append_right _ (mem_pinsAt hb e)))).2.1
      | true =>
        rw [if_pos rfl]
        rw [if_pos rfl] at q7
        refine wpAny_mono (he C s2 H2 fp (X.pn ++ pins) _ s7 σ6 H7 _ (I7.wish _) q7) (fun yv s8 ⟨y, H8, I8, r8, q8⟩ => ?_) fun e8 s8 t8 => ?_
        rotate_left
        · obtain ⟨pins', σ', H', a, Cc, d, fs, ts, rfl, tS, qE⟩ := t8
          show wpAny (model X.prog X.w) X.A (noteFrame (.ref a) (compEnvC scope (clAcc X.env.cells scope.names []) C X.env)) _ _ s8
          rw [XE.note_same (env := X.env) (env' := compEnvC scope (clAcc X.env.cells scope.names []) C X.env) rfl]
          have hA : X.A.frames = some (X.env :: X.outer) := by rw [← hst]; exact I2.ok.frames
          have hon := tS.on
          rw [show (cxC X scope own js C s2 H2 fp (X.pn ++ pins) NoE).stack = X.env :: X.outer from hst] at hon
          refine XE.note_out hA hfr hon tS.hid tS.out fun h' T hT o tr u => ?_
          have I' := tS.go o.1 tr u
          have IX : Inv X pins σ H' { s8 with heap := h' } := I2.call' I'.os I'.base I'.hok I'.bare fun b hb => ⟨(f2 b hb).2.2.2.1, (f2 b hb).2.1, (f2 b hb).2.2.2.2.1, (f2 b hb).2.2.2.2.2⟩
          obtain ⟨m, hm, _⟩ := I'.loc
          have hTs : s2.heap.objs.size ≤ T ∧ H' T = none := by
            rcases hT with hT | hT
            · exact ⟨(tS.own T hT).2.2, (tS.own T hT).2.1⟩
            · exact ⟨Nat.le_trans tS.inv.sz hT, tS.inv.hok.fresh hT⟩
          refine hRE D C _ H' a Cc d T fs m ⟨IX, tS.xo, tS.xd, fun T' hT' => ?_, .inr ⟨T, _, rfl, tr⟩⟩ qE hm ⟨neLoc.2, .inr (Nat.le_trans hs0 hCle), fun x c e => Nat.ne_of_lt (Nat.lt_of_lt_of_le (cellLt x c e) hCle), fun p hp => Nat.ne_of_lt (Nat.lt_of_lt_of_le (pinLt p hp) hCle)⟩ I'.free
          obtain rfl : T' = T := by simpa using hT'
          exact ⟨I2.ownN hTs.1, hTs.2, Nat.le_trans I2.sz hTs.1⟩
        have I8 : Inv (cxC X scope own js C s2 H2 fp (X.pn ++ pins) NoE) _ σ6 H8 s8 := I8.wish NoE
        obtain ⟨m', hm', w'⟩ := hN _ _ q8
        have pD := I8.pin (D, _) (List.mem_append_right _ (List.mem_append_left _ List.mem_cons_self))
        refine append_at (hsz := by rw [List.size_toArray, ← rv.length]; exact hz) pD.1 fun h9 sb9 z9 => ?_
        have I8' : Inv (cxC X scope own js C s2 H2 fp (X.pn ++ pins) NoE) [] σ6 H8 s8 := I8.pins_of fun p hp => nomatch hp
        have I9 : Inv (cxC X scope own js C s2 H2 fp (X.pn ++ pins) NoE) [] σ6 H8 { s8 with heap := h9 } := I8'.turned (t' := s8.toks) (it := D) (fun b o hb e => (sb9.2 b hb).trans e) pD.2.1 hDC (.inr (by show s2.heap.objs.size ≤ D; rw [hDe]; exact Nat.le_refl _))
          (fun x c e => Nat.ne_of_lt (cellLt x c (ok.sub I2 e))) fun p hp => by
            rcases List.mem_append.mp hp with h | h
            · exact Nat.ne_of_lt (pinLt p h)
            · cases h
        refine ⟨m', hm', back (its' := its ++ [yv]) (k' := k + 1) I9 (by rw [z9]; simp) pD.2.1 (fun b hb o e => (sb9.2 b (fD b hb).1).trans (I8.pin (b, o) (List.mem_append_right _ (List.mem_append_right _ (mem_pinsAt hb e)))).1) (fun b hb => ?_) w' (rv.append (.cons r8 .nil)) (by simp; omega)⟩
        obtain ⟨o, e, _⟩ := T.obj _ _ st5 b hb
        exact (I8.pin (b, o) (List.mem_append_right _ (List.mem_append_right _ (mem_pinsAt hb e)))).2.1
  exact codeAny_compStart_list (loop _ rfl) (T.self X.A 0 _ _ _ (T.keep _ _ _ st2 (fun b _ o e => old b o e)) (loop _ rfl))
theorem pe_compX {E : XK} {L : Addr} (hst : X.stack = X.env :: X.outer) (hfr : X.env.frame = some L) (hx : ∀ e s', Thr X E e s' → X.xe e s') (hc : X.calm = true) (hi : PI X tg iter wi) (ok : CompOk X scope js)
    (hg : ∀ C s H ex pn, PG (cxC X scope own js C s H ex pn NoE) tg g) (ht : ∀ C s H ex pn, PTs (cxC X scope own js C s H ex pn NoE) ifs tt) (he : ∀ C s H ex pn, PE (cxC X scope own js C s H ex pn (Thr (cxC X scope own js C s H ex pn NoE) E)) elt te)
    (hs : ∀ x, foldedSetIterable iter X.env x = pure x := by intro _; rfl) : PE X (.ListComp elt [⟨tg, iter, ifs, 0⟩] scope pos) (tComp own.length js wi g tt te) := by
  intro pins s σ H Q I h
  rw [eval_ListComp]
  refine wpAny_comprehension_free (use := none) rfl hs (closureFor_ok (ok.clos I)) ok.kind ok.names (thn (hi pins s σ H _ I h) fun v s1 h1 => thn h1 fun itv s2 h2 => ?_)
  obtain ⟨it, fp, tn, J, H2, e, I2, T, st2, f2, W, ⟨m0, w0⟩, turn⟩ := h2
  subst e
  refine comp_blockX (EX := E) (RR := fun acc C => compPost (model X.prog X.w) X.A X.xe none (EP X pins σ Q) acc C) hst hfr hc ok hg ht he I2 T st2 f2 w0 turn ?_ ?_
  · intro D C s' H' ys m q nD I6 hm o nC
    exact ⟨m, hm, fun h' sb => ⟨.ref D, _, o.go I6 nC sb, rfl, q D nD⟩⟩
  · intro D C s' H' a Cc d T fs m tS qE hm o nC
    refine ⟨m, hm, fun h' sb cenv _ => ?_⟩
    have I3 : Inv X pins σ H' { s' with heap := h' } := o.go tS.inv nC sb
    have ha : a ≠ C := fun z => by rw [← z, tS.xo] at nC; cases nC
    obtain ⟨fl', tr⟩ : ∃ fl', XE.Tr s'.heap a T (.ref Cc) (some d) fl' := by
      rcases tS.out with ⟨z, _⟩ | ⟨T', fl', z, tr⟩
      · cases z
      · cases z; exact ⟨fl', tr⟩
    have hT : T ≠ C := fun z => by
      obtain ⟨oT, vs, e1, e2⟩ := tr.tb
      obtain ⟨o', es, ep, e3, e4, _⟩ := hm
      rw [z, e3] at e1
      cases e1
      rw [e4] at e2
      cases e2
    have tr' : XE.Tr h' a T (.ref Cc) (some d) fl' := by
      obtain ⟨oe, vs, oT, ts, x1, x2, x3, x4, x5, x6, x7⟩ := tr
      exact ⟨oe, vs, oT, ts, (sb.2 a ha).trans x1, x2, x3, x4, x5, (sb.2 T hT).trans x6, x7⟩
    have t3 : ThrS X pins σ H' { s' with heap := h' } a Cc d fs [T] := ⟨I3, tS.xo, tS.xd, tS.own, .inr ⟨T, _, rfl, tr'⟩⟩
    refine XE.pass_on t3.on (t3.hid T (.head _)) tr' fun h2 fl2 on2 tr2 u2 => hx _ _ ?_
    exact ⟨pins, σ, H', a, Cc, d, fs, [T], rfl, ⟨t3.go on2.1 tr2 u2, tS.xo, tS.xd, tS.own, .inr ⟨T, _, rfl, tr2⟩⟩, qE⟩
theorem passC {E : XK} {C : Addr} {s : Shared} {H : Hp} {ex : List Addr} {pn : List (Addr × Obj)} : Passes (CXW X.prog X.w) (cxC X scope own js C s H ex pn (Thr (cxC X scope own js C s H ex pn NoE) E)) E :=
  fun _ _ _ _ _ _ I c => CXW.thr (X := cxC X scope own js C s H ex pn NoE) (I.wish NoE) c
end
end L2
namespace L2
open PySem PySem.Spec PyProof.Rows
abbrev Cx.held (X : Cx) (e : Value) (E : Value → Shared → Prop) : Cx := { X with A := X.A.mark (some e), calm := false, xe := E }
section
variable {X : Cx} {pins : List (Addr × Obj)} {σ : St} {H : Hp} {s : Shared} {e : Value} {E : Value → Shared → Prop}
theorem Cx.Ok.held (ok : X.Ok) (e : Value) (E : Value → Shared → Prop) : (X.held e E).Ok :=
  ⟨ok.mod, ok.kind, ok.glob, ok.blt, ok.above, ok.inj, ok.has, ok.cab, fun z => (nomatch z), ok.frames, ok.stk, ok.exf, ok.bs, ok.bsz, ok.noex, ok.exfs, ok.funs, ok.frf⟩
theorem Inv.held (I : Inv X pins σ H s) (e : Value) (E : Value → Shared → Prop) : Inv (X.held e E) pins σ H s := ⟨I.ok.held e E, I.os, I.bare, I.base, I.loc, I.cell, I.free, I.freeC, I.pin, I.hok, I.len⟩
theorem Inv.unheld (ok : X.Ok) (I : Inv (X.held e E) pins σ H s) : Inv X pins σ H s := ⟨ok, I.os, I.bare, I.base, I.loc, I.cell, I.free, I.freeC, I.pin, I.hok, I.len⟩
theorem forget_ok {M : Model} {A : Around} {i : Nat} {x : Str} {pos : Pos} {Q : Unit → Shared → Prop} (I : Inv X pins σ H s) (hN : X.N.Nodup) (hi : X.N[i]? = some x) (hk : X.env.scope.names.lookup x = some .local)
    (h : ∀ s', Inv X pins (σ.set i none) H s' → Q () s') : wpAny M A (do bindName X.env x .none; unbindBehindTheSuite X.env x pos) Q E s := by
  obtain ⟨m, hn, hl⟩ := id I.loc
  have hcls : (X.env.scope.kind == .class || (X.env.scope.kind == .module && X.env.locals != X.env.globals)) = false := by rw [I.ok.kind]; rfl
  have hiσ : i < σ.length := by rw [I.len]; exact (List.getElem?_eq_some_iff.mp hi).1
  obtain ⟨oL, _, _, hoL, _⟩ := id hn
  refine wpAny_nameGoes_keeps hk hn hcls fun h' v hn' hs => ?_
  have tracked : HOk X.prog X.w H h' := fun b ob e => by
    refine (I.hok b ob e).stay (fun c w' hc q => (hs.2 c ?_).trans q) (fun _ q => q) fun _ _ q => q
    rintro rfl
    rcases hc with rfl | hc
    · rw [I.free] at e; cases e
    · rw [I.free] at hc; cases hc
  have low : ∀ b o, X.s₀.heap.get? b = some o → h'.get? b = s.heap.get? b := fun b o e => hs.2 b (Nat.ne_of_lt (Nat.lt_of_lt_of_le (Heap.lt_size e) I.ok.above))
  refine h _ ⟨I.ok, I.os, I.bare, ⟨fun b o e n hb hx => (low b o e).trans (I.base.keep b o e n hb hx), fun b o e n hb hx => ?_, I.base.free, fun b o e hx => ?_, I.base.tups, I.base.frzs, I.base.tbls⟩, ⟨_, hn', fun j y v' e1 e2 e3 => ?_⟩, fun y c e => ?_, I.free, I.freeC, fun p hp => ?_, tracked, by simpa using I.len⟩
  · obtain ⟨sl, e1⟩ := I.base.slot b o e n hb hx
    exact ⟨sl, (low b o e).trans e1⟩
  · obtain ⟨o', e1⟩ := I.base.there b o e hx
    exact ⟨o', (low b o e).trans e1⟩
  · by_cases hj : j = i
    · subst hj
      rw [List.getElem?_set_self hiσ] at e2
      cases e2
    · rw [List.getElem?_set_ne (Ne.symm hj)] at e2
      obtain ⟨u', r', q⟩ := hl j y v' e1 e2 e3
      refine ⟨u', r', ?_⟩
      rcases q with ⟨k, e⟩ | ⟨k, c, e, z⟩
      · refine .inl ⟨k, ?_⟩
        have : y ≠ x := fun e => hj (nodup_ix hN e1 (e ▸ hi))
        simp [this, e]
      · exact .inr ⟨k, c, e, z.sameBut hs (I.cne y c e)⟩
  · obtain ⟨w', z⟩ := I.cell y c e
    exact ⟨w', z.sameBut hs (I.cne y c e)⟩
  · obtain ⟨e, n, ne, nf, d⟩ := I.pin p hp
    exact ⟨(hs.2 p.1 ne).trans e, n, ne, nf, d⟩
end
def ThrAt (X : Cx) (pins : List (Addr × Obj)) (σ : St) (E : XK) (e : Value) (s : Shared) : Prop := ∃ H a C d fs ts, e = .ref a ∧ ThrS X pins σ H s a C d fs ts ∧ E e (some d) H
theorem CXW.at_ {X : Cx} {pins : List (Addr × Obj)} {σ : St} {H : Hp} {s s' : Shared} {E : XK} {e : Value} (I : Inv X pins σ H s) (x : CXW X.prog X.w X.stack H s E e s') : ThrAt X pins σ E e s' := by
  obtain ⟨a, C, d, fs, T, H', rfl, os, bare, un, hok, ha, hd, hT, sz, tr, q⟩ := x
  refine ⟨H', a, C, d, fs, [T], rfl, ⟨I.call' os un hok bare (fun b z => nomatch z), ha, hd, fun T' hT' => ?_, .inr ⟨T, _, rfl, tr⟩⟩, q⟩
  obtain rfl : T' = T := by simpa using hT'
  exact ⟨I.ownN sz, hT, Nat.le_trans I.sz sz⟩
section
variable {X : Cx} {pins : List (Addr × Obj)} {σ : St} {H : Hp} {s : Shared} {a C d T L : Addr} {fs : List (Str × V)} {ts : List Addr} {M : Model} {A : Around} {E : Value → Shared → Prop} {Q : Unit → Shared → Prop}
theorem ThrS.note (t : ThrS X pins σ H s a C d fs ts) (hst : X.stack = X.env :: X.outer) (hfr : X.env.frame = some L) (hA : A.frames = some X.stack)
    (h : ∀ h' T, ThrS X pins σ H { s with heap := h' } a C d fs [T] → Q () { s with heap := h' }) : wpAny M A (noteFrame (.ref a) X.env) Q E s := by
  have hon := t.on
  rw [hst] at hon hA
  refine XE.note_out hA hfr hon t.hid t.out fun h' T hT o tr u => h h' T ⟨t.go o.1 tr u, t.xo, t.xd, fun T' hT' => ?_, .inr ⟨T, _, rfl, tr⟩⟩
  obtain rfl : T' = T := by simpa using hT'
  rcases hT with hT | hT
  · exact t.own _ hT
  · exact ⟨t.inv.ownN hT, t.inv.hok.fresh hT, Nat.le_trans t.inv.sz hT⟩
theorem ThrS.tr (t : ThrS X pins σ H s a C d fs [T]) : ∃ fl, XE.Tr s.heap a T (.ref C) (some d) fl := by
  rcases t.out with ⟨z, _⟩ | ⟨T', fl', z, tr⟩
  · cases z
  · cases z; exact ⟨fl', tr⟩
theorem ThrS.land (t : ThrS X pins σ H s a C d fs [T]) (h : ∀ h', ThrS X pins σ H { s with heap := h' } a C d fs [T] → Q () { s with heap := h' }) : wpAny M A (setFlight (.ref a) none) Q E s := by
  obtain ⟨fl, tr⟩ := t.tr
  exact XE.land t.on (t.hid T (.head _)) tr fun h' o tr' u => h h' ⟨t.go o.1 tr' u, t.xo, t.xd, t.own, .inr ⟨T, _, rfl, tr'⟩⟩
end
section
variable {X : Cx} {k : Nat} {f C fI L : Addr} {fd : FuncData} {ps : List Str} {sp : Sp} {no : List Str} {x y v n r : Str} {p pos cpos np vp hpos rp rn apos spos : Pos} {e : Expr} {es : List Expr} {t : TA} {iv ie ir : Nat}
theorem call_at {pins : List (Addr × Obj)} {σ : St} {H : Hp} {s : Shared} {Q : VK} {E : XK} (F : FnOk X.prog X.w X.K X.mg X.base (CXW X.prog X.w) k f fd ps sp) (hr : Room k X.A) (hg : Gl X x) (hm : X.mg x = some (.ref f)) (hk : PySem.W.keepIn X.K (.ref f) = true) (hb : Binds X.K fd ps [])
    (ha : PA X.nox (e :: es) t) (I : Inv X pins σ H s) (h : t σ H fun vs H1 => sp vs H1 Q E) (hdb : (x == ("__debug__" : Str)) = false) (he : starEach (e :: es) X.env = (false, eval e X.env) :: starEach es X.env) (hpl : (backTo pos (starEach es X.env)).any (·.1) = false) :
    wpAny (model X.prog X.w) X.A (eval (.Call (.Name x p) (e :: es) [] pos) X.env) (EP X pins σ Q) (ThrAt X pins σ E) s := by
  refine wpAny_Call_Name_kw (ld_glob I hg hm ?_ hdb)
  refine PySem.W.callWith_K (h₀ := X.base) I.ok.mod.kin hk (wpAny_mono (ha pos pins s σ H _ (I.wish _) h) (fun us s1 ⟨vs, H1, I1, r, q⟩ => ⟨I1.kIn, ?_⟩) fun _ _ z => z.elim) he hpl
  have I1 : Inv X pins σ H1 s1 := I1.unwish
  have hl : (us ++ []).length = ps.length := by rw [List.append_nil, ← r.length]; exact F.len _ _ _ _ q
  refine wpAny_call (codeAny_mono (F.run X.A X.stack s1 H1 ⟨us, []⟩ us vs Q E hr I1.env0 (by have := hb s1 us I1.kIn hl; simpa using this) r q) fun r s' hq => ?_)
  cases r with
  | error e => exact CXW.at_ I1 hq
  | ok fl =>
    cases fl with
    | ret u => exact I1.after hq
    | next => exact False.elim hq
    | brk => exact False.elim hq
    | cont => exact False.elim hq
def tTry (iv ie ir : Nat) (C : Addr) (sp : Sp) (t : TA) : TS := fun D σ H => t σ H fun vs H1 => sp vs H1 (fun u H2 => D.nx (σ.set iv (some u)) H2)
  (fun x _ H2 => ∃ a d, x = .ref a ∧ H2 a = some (XO C d a) ∧ D.nx (((σ.set ie (some (.ref a))).set ir (some (.ref a))).set ie none) H2)
theorem ps_try (hc : X.calm = true) (hst : X.stack = X.env :: X.outer) (hfr : X.env.frame = some L) (c : ExK X.K C fI no) (hgC : Gl X y) (hmC : X.mg y = some (.ref C))
    (hN : X.N.Nodup) (hv : X.N[iv]? = some v) (hvl : Loc X.env.scope v) (hn : X.N[ie]? = some n) (hnl : X.env.scope.names.lookup n = some .local) (hrr : X.N[ir]? = some r) (hrl : Loc X.env.scope r) (hfnv : X.fn v = true ∨ X.env.scope.names.lookup v = some .local) (hfnr : X.fn r = true ∨ X.env.scope.names.lookup r = some .local)
    (F : FnOk X.prog X.w X.K X.mg X.base (CXW X.prog X.w) k f fd ps sp) (hr : Room k X.A) (hg : Gl X x) (hm : X.mg x = some (.ref f)) (hk : PySem.W.keepIn X.K (.ref f) = true) (hb : Binds X.K fd ps [])
    (ha : PA X.nox (e :: es) t) (hdb : (x == ("__debug__" : Str)) = false := by decide) (hdy : (y == ("__debug__" : Str)) = false := by decide) (hdn : (n == ("__debug__" : Str)) = false := by decide) (hdc : (n == ("__classdict__" : Str)) = false := by decide)
    (he : starEach (e :: es) X.env = (false, eval e X.env) :: starEach es X.env := by rfl) (hpl : (backTo cpos (starEach es X.env)).any (·.1) = false := by rfl)
    (hs1 : swapsWith (.Call (.Name x p) (e :: es) [] cpos) (some (.Name v vp)) apos.line X.env = pure false := by rfl) (hs2 : swapsWith (.Name n rn) (some (.Name r rp)) spos.line X.env = pure false := by rfl) (hie : ie ≠ ir := by decide) :
    PS X (.Try [.Assign [.Name v vp] (.Call (.Name x p) (e :: es) [] cpos) apos] [.ExceptHandler (some (.Name y np)) (some n) [.Assign [.Name r rp] (.Name n rn) spos] hpos] [] [] pos) (tTry iv ie ir C sp t) := by
  intro pins s σ H D I h
  refine wpAny_Try_except ?_
  have hcall := call_at (pos := cpos) (p := p) F hr hg hm hk hb ha I h hdb he hpl
  refine wpAny_execs_cons (wpAny_Assign_Name (wpAny_mono hcall (fun u s1 ⟨w, H1, I1, r1, q1⟩ => ?_) fun e1 s1 t1 => ?_) hs1)
  · exact store_ok I1 hN hv hvl r1 (fun s2 I2 => wpAny_execs_nil (wpAny_execs_nil ⟨_, H1, I2, q1⟩)) hfnv
  · obtain ⟨H2, a, C', d, fs, ts, rfl, tS, a', d', e', hx', qD⟩ := t1
    cases e'
    refine tS.note hst hfr I.ok.frames fun h1 T1 t1 => ?_
    refine t1.land fun h2 t2 => ?_
    obtain ⟨nm, q, N, bs, S, sn, sub, ab, col, dd, k0, k1, k2, k3, k5, mN, x2⟩ := c.at t2.inv.kIn
    obtain ⟨oe, vs, oe1, oe2, _, _⟩ := XO.of (t2.inv.hok a _ hx')
    refine wpAny_handleBy_cons (codeAny_handlers_test (Calls.Name_function_global t2.inv.ok.kind hgC (Calls.loadGlobal_global (by rw [t2.inv.ok.glob]; exact t2.inv.mod.glob.keeps t2.inv.bk) hmC ?_) hdy)) (by intro q; cases q)
    refine wpAny_excMatches_sub_self x2.c oe1 oe2 rfl ?_
    refine codeAny_handlers_suite_as ?_
    refine t2.land fun h3 t3 => ?_
    have hie' : ie < σ.length := by rw [I.len]; exact (List.getElem?_eq_some_iff.mp hn).1
    refine store_ok t3.inv hN hn (.inl hnl) (v := .ref a) rfl (fun s4 I4 => ?_) (.inr hnl)
    refine wpAny_execs_cons (wpAny_Assign_Name (wpAny_mono (pe_var (X := X.held (.ref a) fun _ _ => False) (i := ie) (x := n) (pos := rn) hn (.inl hnl) hdn hdc pins s4 _ H2 (fun v H => v = .ref a ∧ H = H2) (I4.held _ _) ⟨_, List.getElem?_set_self hie', rfl, rfl⟩) (fun u s5 ⟨w, H5, I5, r5, e5, e6⟩ => ?_) fun _ _ z => z.elim) hs2)
    subst e5 e6
    refine store_ok (I5.unheld I.ok) hN hrr hrl r5 (fun s6 I6 => wpAny_execs_nil ?_) hfnr
    exact forget_ok I6 hN hn hnl fun s7 I7 => ⟨_, _, I7, qD⟩
end
end L2
namespace XE
open PySem
open Sem (wp)
section
variable {prog : Program} {w : World} {A : Around} {E : Value → Shared → Prop} {h : Heap} {g : Array GenState} {d : Drawn} {t : Nat} {os : OsState}
variable {nm q : Str} {C N a : Addr} {bs bm bmB : List Value} {sn : List Str} {sub : List Value} {ab : Bool} {col : Option Bool} {dd : Option Addr} {k0 k1 k2 k3 k5 : Option Value} {B newId : String}
  {mN : Str → Option Value} {no : Str → Prop} {o : Obj} {vs : Array Value}
theorem class_get {R : Result → Shared → Prop} (T : Tail h no bmB bm) (hob : bmB.contains (.type "object") = true) (hC : h.get? C = some (excClassObj nm q C N bs bm true sn sub ab col dd k0 k1 k2 k3 k5 newId))
    (hx : h.get? a = some o) (hc : o.cls = .ref C) (hq : R (.ok (.ret (.ref C))) ⟨h, g, d, t, os⟩) :
    codeAny (model prog w) A (.call (.builtin "getset_descriptor.__get__") ⟨[.builtin "object.__class__", .ref a, .ref C], []⟩) R ⟨h, g, d, t, os⟩ := by
  have hT5 : (⟨h, g, d, t, os⟩ : Shared).TypeIs (.builtin "object.__class__") "getset_descriptor" := F.typeOf_object_class
  have hcB : (Value.ref C :: bm).contains (.type (".".intercalate ("object.__class__".cutAt '.').dropLast)) = true := by
    rw [F.owner_object_class, List.contains_cons, T.hasType hob]; rfl
  refine codeAny_call_builtin F.slot_gs_get.plain F.entry_gs_get (F.slot_gs_get.check _ _ _ _ _ _ _ _ hT5 (F.args_gs_get _ _ _) ?_)
  repeat (any_goals (first | assumption | (with_reducible refine wpAny_loadPart_at hx ?_; rw [hc]) | (with_reducible refine wpAny_isSubtype_exc hC ?_; rw [hcB]) | wp_step))
  refine ⟨Code.quiet_builtin _ (by decide +kernel), codeAny_builtin F.entry_object_class ?_⟩
  repeat (any_goals (first | assumption | (with_reducible refine wpAny_loadPart_at hx ?_; rw [hc]) | wp_step))
theorem class_entry {tk : Tok} {Q : Fin → Shared → Prop} (FB : ExcAttrBase B bmB) (T : Tail h no bmB bm) (hob : bmB.contains (.type "object") = true) (hcl : no "__class__") (hna : mN "__class__" = none) (hlk : typeLookup (.type B) "__class__" = pure (some (.builtin "object.__class__")))
    (hC : h.get? C = some (excClassObj nm q C N bs bm true sn sub ab col dd k0 k1 k2 k3 k5 newId)) (hN : h.Ns N mN) (hx : h.get? a = some o) (hc : o.cls = .ref C) (hq : Q (.done (.ret (.ref C))) ⟨h, g, d, t, os⟩) :
    wpAny (model prog w) A (Builtin.«object.__getattribute__» ⟨[.ref a, .str "__class__" tk], []⟩) Q E ⟨h, g, d, t, os⟩ := by
  have hT5 : (⟨h, g, d, t, os⟩ : Shared).TypeIs (.builtin "object.__class__") "getset_descriptor" := F.typeOf_object_class
  have f5 := F.typeOf_object_class
  have f6 := F.slot_gs_get.lookup
  have f7 := F.slot_gs_set.lookup
  repeat (any_goals (first | assumption | (with_reducible refine wpAny_loadPart_at hx ?_; rw [hc]) | (with_reducible refine lookup hcl hC hN T FB.mro hlk ?_; rw [hna]) | wp_step))
  refine class_get T hob hC hx hc ?_
  repeat (any_goals (first | assumption | wp_step))
theorem class_attr {Q : Option Value → Shared → Prop} (FB : ExcAttrBase B bmB) (T : Tail h no bmB bm) (hob : bmB.contains (.type "object") = true) (hcl : no "__class__") (hna : mN "__class__" = none) (hlk : typeLookup (.type B) "__class__" = pure (some (.builtin "object.__class__")))
    (n1 : no "__getattribute__") (n2 : no "__getattr__") (m1 : mN "__getattribute__" = none) (m2 : mN "__getattr__" = none)
    (hC : h.get? C = some (excClassObj nm q C N bs bm true sn sub ab col dd k0 k1 k2 k3 k5 newId)) (hN : h.Ns N mN) (hx : h.get? a = some o) (hc : o.cls = .ref C) (hq : Q (some (.ref C)) ⟨h, g, d, t + 1, os⟩) :
    wpAny (model prog w) A (getAttr? (.ref a) "__class__") Q E ⟨h, g, d, t, os⟩ := by
  have f3 := FB.ga.bind (.ref a)
  have hx2 : (Value.builtin "BaseException.__getattribute__" == Value.builtin "object.__getattribute__") = false := by decide +kernel
  have hx0 : (false && onTheHeap (Value.builtin "BaseException.__getattribute__")) = false := rfl
  have hx1 : (onTheHeap (Value.ref C) && Value.builtin "BaseException.__getattribute__" == Value.builtin "object.__getattribute__") = false := by rw [hx2]; rfl
  unfold getAttr? getAttrBy? 
  repeat (any_goals (first | assumption | (with_reducible refine wpAny_loadPart_at hx ?_; rw [hc]) | (with_reducible refine lookup n1 hC hN T FB.mro FB.ga.lookup ?_; rw [m1]) | (with_reducible refine lookup n2 hC hN T FB.mro FB.noGetattr ?_; rw [m2]) | wp_step))
  refine codeAny_call_builtin FB.ga.plain F.entry_bexc_ga (check_ga FB hC T hx hc (class_entry FB T hob hcl hna hlk hC hN hx hc ?_))
  repeat (any_goals (first | assumption | wp_step))
end
end XE
namespace L2
open PySem PySem.Spec PyProof.Rows
theorem lkV_class : typeLookup (.type "ValueError") "__class__" = pure (some (.builtin "object.__class__")) := by rw [typeLookup_type, builtinLookup_eq_fast]; kernel_rfl
theorem kitx_exc {K : PySem.W.Frag} {C fI a : Addr} {no : List Str} (c : ExK K C fI no) (h1 : ("__class__" : Str) ∈ no) (h2 : ("__getattribute__" : Str) ∈ no) (h3 : ("__getattr__" : Str) ∈ no) :
    PySem.W.KitX K (.ref a) (.ref C) (fun h => ∃ o, h.get? a = some o ∧ o.cls = .ref C) where
  ty := fun M h _ p => by
    obtain ⟨o, e1, e2⟩ := p
    exact e2 ▸ (PySem.W.Looks.ld e1).andThen .now
  it := fun M h X _ => by
    obtain ⟨nm, q, N, bs, S, sn, sub, ab, col, dd, k0, k1, k2, k3, k5, mN, x⟩ := c.at X
    intro A' Q' E' s' k q
    unfold isType loadHead
    exact wpAny_bind (wpAny_loadPart (k _ _ x.c) (wpAny_pure q))
  ne := fun h tp dd' its n sl X ht => by
    obtain ⟨nm, q, N, bs, S, sn, sub, ab, col, dd, k0, k1, k2, k3, k5, mN, x⟩ := c.at X
    refine Bool.eq_false_iff.mpr fun q => ?_
    cases beq_iff_eq.mp q
    have z := congrArg (Option.map (·.cls)) (x.c.symm.trans ht)
    exact absurd z (by simp [excClassObj])
  ca := fun {prog w A E Q s} X p k => by
    obtain ⟨o, e1, e2⟩ := p
    obtain ⟨nm, q, N, bs, S, sn, sub, ab, col, dd, k0, k1, k2, k3, k5, mN, x⟩ := c.at X
    obtain ⟨h, g, d, t, os⟩ := s
    exact XE.class_attr PySem.F.attrBase_ValueError x.t rfl (.inr h1) (x.o _ h1) lkV_class (.inr h2) (.inr h3) (x.o _ h2) (x.o _ h3) x.c x.n e1 e2 k
def rIsi (K : PySem.W.Frag) (C : Addr) : List V → Hp → VK → Prop := fun xs H Q => ∃ a d y u b, xs = [.ref a, y] ∧ H a = some (XO C d a) ∧ RelV y u ∧ (∀ u', RelV y u' → u' = u) ∧ PySem.W.kitOne K (.ref C) u = some b ∧ Q (.bl b) H
theorem call_isinstX {X : Cx} {C fI : Addr} {no : List Str} (K : PySem.W.Frag) (c : ExK X.K C fI no) (h1 : ("__class__" : Str) ∈ no) (h2 : ("__getattribute__" : Str) ∈ no) (h3 : ("__getattr__" : Str) ∈ no) (hK : X.K = K := by rfl) : CallR X (.builtin "isinstance") (rIsi K C) := by
  subst hK
  intro pins s σ H xs us Q I r h
  obtain ⟨a, d, y, u, b, rfl, ha, ry, uy, e, q⟩ := h
  obtain ⟨u1, u2, rfl, r1, r2⟩ := vals2 r
  cases (show u1 = Value.ref a from r1)
  cases uy u2 r2
  obtain ⟨o, vs, e1, e2, _⟩ := XO.of (I.hok a _ ha)
  exact PySem.W.kia_one (kitx_exc c h1 h2 h3) I.kIn ⟨o, e1, e2⟩ e (fun z => nomatch z) fun tk => ⟨.bl b, H, I.tok _, rfl, q⟩
end L2
namespace L2
open PySem PySem.Spec PyProof.Rows
theorem dg_lt (m : Nat) : m < 10 ^ (dg m).length := by
  induction m using Nat.strongRecOn with
  | _ m ih =>
    by_cases h : m < 10
    · rw [dg_small h]; simpa using h
    · rw [dg_big h, List.length_append]
      have := ih (m / 10) (by omega)
      simp only [List.length_cons, List.length_nil]
      rw [Nat.zero_add, Nat.pow_succ]
      omega
theorem digs_app {l r : List Nat} : digs (l ++ r) = (digs l && digs r) := by unfold digs; exact List.all_append
theorem digs_one {c : Nat} (h : digs [c] = true) : 48 ≤ c ∧ c ≤ 57 := by
  unfold digs at h
  simp at h
  omega
theorem dg_surj : ∀ (k : Nat) (l : List Nat), l.length = k → l ≠ [] → digs l = true → (l.head? ≠ some 48 ∨ l = [48]) → ∃ m, dg m = l ∧ (l ≠ [48] → 0 < m) := by
  intro k
  induction k with
  | zero => intro l hl hn; exact absurd (List.length_eq_zero_iff.mp hl) hn
  | succ k ih =>
    intro l hl hn hd hh
    obtain ⟨l', c, rfl⟩ : ∃ l' c, l = l' ++ [c] := ⟨l.dropLast, l.getLast hn, (List.dropLast_concat_getLast hn).symm⟩
    rw [digs_app, Bool.and_eq_true] at hd
    have hc := digs_one hd.2
    by_cases h0 : l' = []
    · subst h0
      refine ⟨c - 48, ?_, fun h => ?_⟩
      · rw [dg_small (by omega), show c - 48 + 48 = c by omega]; rfl
      · have : c ≠ 48 := fun e => h (by rw [e]; rfl)
        omega
    · have hh' : l'.head? ≠ some 48 := by
        rcases hh with hh | hh
        · intro e; apply hh
          cases l' with
          | nil => exact absurd rfl h0
          | cons x r => exact e
        · have := congrArg List.length hh
          simp at this
          exact absurd this h0
      obtain ⟨m, hm, hp⟩ := ih l' (by simpa using hl) h0 hd.1 (.inl hh')
      have hm0 : 0 < m := hp fun e => hh' (by rw [e]; rfl)
      refine ⟨m * 10 + (c - 48), ?_, fun _ => by omega⟩
      rw [dg_big (by omega), show (m * 10 + (c - 48)) / 10 = m by omega, show (m * 10 + (c - 48)) % 10 + 48 = c by omega, hm]
theorem isNum_ex {w : List Nat} (h : isNum w = true) : ∃ n : Int, numC n = w ∧ n.natAbs < 10 ^ 40 := by
  unfold isNum at h
  simp only [Bool.and_eq_true, decide_eq_true_eq, Bool.or_eq_true] at h
  obtain ⟨h1, h2, h3, h4⟩ := h
  have hne : figs w ≠ [] := fun e => by rw [e] at h1; simp at h1
  by_cases hw : w.head? = some 45
  · have hf : figs w = w.tail := by unfold figs; rw [if_pos hw]
    have hcons : w = 45 :: w.tail := by
      cases w with
      | nil => cases hw
      | cons a r => cases hw; rfl
    have h48 : (figs w).head? ≠ some 48 := by
      rcases h4 with h4 | h4
      · exact h4
      · rw [h4] at hw; cases hw
    obtain ⟨m, hm, hp⟩ := dg_surj _ (figs w) rfl hne h3 (.inl h48)
    have m0 : 0 < m := hp fun e => h48 (by rw [e]; rfl)
    refine ⟨-(((m - 1) + 1 : Nat) : Int), ?_, ?_⟩
    · rw [numC_neg, show m - 1 + 1 = m by omega, hm, hf, ← hcons]
    · have := dg_lt m
      rw [hm] at this
      have h5 : 10 ^ (figs w).length ≤ 10 ^ 40 := Nat.pow_le_pow_right (by decide) h2
      omega
  · have hf : figs w = w := by unfold figs; rw [if_neg hw]
    rw [hf] at h1 h2 h3 h4 hne
    obtain ⟨m, hm, _⟩ := dg_surj _ w rfl hne h3 h4
    refine ⟨(m : Int), by rw [numC_nat, hm], ?_⟩
    have := dg_lt m
    rw [hm] at this
    have h5 : 10 ^ w.length ≤ 10 ^ 40 := Nat.pow_le_pow_right (by decide) h2
    omega
theorem isNum_int {z : Str} (h : isNum z.cps.toList = true) : ∃ n : Int, intText? z = some n ∧ z.length ≤ 640 := by
  obtain ⟨n, e, hn⟩ := isNum_ex h
  have ez : z = Str.ofString (toString n) := str_iff.mpr e.symm
  refine ⟨n, by rw [ez]; exact int_num (Nat.lt_of_lt_of_le hn (by decide +kernel)), ?_⟩
  rw [str_len, ← e]
  exact Nat.le_trans (numC_len (k := 40) (by decide) hn) (by decide)
end L2
namespace L2
open PySem PySem.Spec PyProof.Rows
structure DefX (P : Program) (w : World) (K : PySem.W.Frag) (mg : Str → Option Value) (base : Heap) (x : Str) (k : Nat) (ps : List Str) (sp : Sp) : Prop where
  ex : ∃ (f : Addr) (fd : FuncData), FnOk P w K mg base (CXW P w) k f fd ps sp ∧ mg x = some (.ref f) ∧ PySem.W.keepIn K (.ref f) = true ∧ Binds K fd ps []
structure DefE (P : Program) (w : World) (K : PySem.W.Frag) (mg : Str → Option Value) (base : Heap) (x : Str) (C : Addr) (k : Nat) (ps : List Str) (sp : Sp) (no : List Str) : Prop where
  ex : ∃ (fI : Addr) (fd : FuncData), ExK K C fI no ∧ FnOk P w K mg base CX0 k fI fd ps sp ∧ mg x = some (.ref C) ∧ Binds K fd ps []
section
variable {X : Cx} {k j : Nat} {ps qs : List Str} {sp sq : Sp} {x y v n r f : Str} {p pos cpos np vp hpos rp rn apos spos : Pos} {e o value : Expr} {es : List Expr} {ta : TE} {t : TA} {E : XK} {C L : Addr} {no : List Str} {iv ie ir : Nat}
theorem pe_defX (d : DefX X.prog X.w X.K X.mg X.base x k ps sp) (hr : Room k X.A) (hg : Gl X x) (hx : Passes (CXW X.prog X.w) X E) (ha : PA X (e :: es) t) (hdb : (x == ("__debug__" : Str)) = false := by decide)
    (he : starEach (e :: es) X.env = (false, eval e X.env) :: starEach es X.env := by rfl) (hpl : (backTo pos (starEach es X.env)).any (·.1) = false := by rfl) : PE X (.Call (.Name x p) (e :: es) [] pos) (tCall sp [] E t) :=
  let ⟨_, _, F, hm, hk, hb⟩ := d.ex; pe_call F hr hg hm hk hb .nil hx ha hdb he hpl
theorem ps_raiseD (d : DefE X.prog X.w X.K X.mg X.base x C k ps sp no) (hc : X.calm = true) (hr : Room (k + 1) X.A) (hg : Gl X x) (hx : ∀ e s', Thr X E e s' → X.xe e s') (ha : PA X (e :: es) t) (hdb : (x == ("__debug__" : Str)) = false := by decide)
    (he : starEach (e :: es) X.env = (false, eval e X.env) :: starEach es X.env := by rfl) (hpl : (backTo cpos (starEach es X.env)).any (·.1) = false := by rfl) : PS X (.Raise (some (.Call (.Name x np) (e :: es) [] cpos)) none pos) (tRaise C sp E t) :=
  let ⟨_, _, c, F, hm, hb⟩ := d.ex; ps_raise hc c F hr hg hm hb hx ha hdb he hpl
theorem pe_fldD (d : DefE X.prog X.w X.K X.mg X.base x C k ps sp no) (h1 : ("__getattribute__" : Str) ∈ no) (h2 : ("__getattr__" : Str) ∈ no) (h3 : f ∈ no) (hB : typeLookup (.type "ValueError") f = pure none) (he : PE X e ta) (hb : attributeBase e f X.env (eval e X.env) = eval e X.env) : PE X (.Attribute e f pos) (tFldX C ta f) :=
  let ⟨_, _, c, _⟩ := d.ex; pe_fldX c h1 h2 h3 hB he hb
theorem call_isiD (K : PySem.W.Frag) (d : DefE X.prog X.w X.K X.mg X.base x C k ps sp no) (h1 : ("__class__" : Str) ∈ no) (h2 : ("__getattribute__" : Str) ∈ no) (h3 : ("__getattr__" : Str) ∈ no) (hK : X.K = K := by rfl) : CallR X (.builtin "isinstance") (rIsi K C) :=
  let ⟨_, _, c, _⟩ := d.ex; call_isinstX K c h1 h2 h3 hK
theorem ps_tryD (dE : DefE X.prog X.w X.K X.mg X.base y C j qs sq no) (dF : DefX X.prog X.w X.K X.mg X.base x k ps sp) (hc : X.calm = true) (hst : X.stack = X.env :: X.outer) (hfr : X.env.frame = some L) (hgC : Gl X y)
    (hN : X.N.Nodup) (hv : X.N[iv]? = some v) (hvl : Loc X.env.scope v) (hn : X.N[ie]? = some n) (hnl : X.env.scope.names.lookup n = some .local) (hrr : X.N[ir]? = some r) (hrl : Loc X.env.scope r) (hfnv : X.fn v = true ∨ X.env.scope.names.lookup v = some .local) (hfnr : X.fn r = true ∨ X.env.scope.names.lookup r = some .local)
    (hr : Room k X.A) (hg : Gl X x) (ha : PA X.nox (e :: es) t) (hdb : (x == ("__debug__" : Str)) = false := by decide) (hdy : (y == ("__debug__" : Str)) = false := by decide) (hdn : (n == ("__debug__" : Str)) = false := by decide) (hdc : (n == ("__classdict__" : Str)) = false := by decide)
    (he : starEach (e :: es) X.env = (false, eval e X.env) :: starEach es X.env := by rfl) (hpl : (backTo cpos (starEach es X.env)).any (·.1) = false := by rfl)
    (hs1 : swapsWith (.Call (.Name x p) (e :: es) [] cpos) (some (.Name v vp)) apos.line X.env = pure false := by rfl) (hs2 : swapsWith (.Name n rn) (some (.Name r rp)) spos.line X.env = pure false := by rfl) (hie : ie ≠ ir := by decide) :
    PS X (.Try [.Assign [.Name v vp] (.Call (.Name x p) (e :: es) [] cpos) apos] [.ExceptHandler (some (.Name y np)) (some n) [.Assign [.Name r rp] (.Name n rn) spos] hpos] [] [] pos) (tTry iv ie ir C sp t) :=
  let ⟨_, _, c, _, hmC, _⟩ := dE.ex; let ⟨_, _, F, hm, hk, hb⟩ := dF.ex
  ps_try hc hst hfr c hgC hmC hN hv hvl hn hnl hrr hrl hfnv hfnr F hr hg hm hk hb ha hdb hdy hdn hdc he hpl hs1 hs2 hie
end
def spX1 (C : Addr) (f : Str) : Sp := fun vs H Q _ => ∃ a v, vs = [.ref a, v] ∧ H a = some (XN C a) ∧ ∀ d, H d = none → d ≠ a → Q .non (upd (upd H a (XF C d a)) d (.xd [(f, v)]))
section
variable {X : Cx}
theorem call_anyA (hc : X.calm = true) : CallR X (.builtin "any") (fun xs H Q => ∃ (p : Addr) (bs : List Bool), xs = [.ref p] ∧ SqL X.K H p (bs.map V.bl) ∧ Q (.bl (bs.any id)) H) := by
  intro pins s σ H xs us Q I r h
  obtain ⟨p, bs, rfl, hq, q⟩ := h
  obtain ⟨u, rfl, ru⟩ := vals1 r
  cases ru
  obtain ⟨its, rv, pl, hz⟩ := I.list hq
  have e := vals_bools rv
  subst e
  have hh : X.A.in1.handled = none := I.ok.hd hc
  refine call_any_walk (wpAny_pyIter_list pl.isList ⟨s.heap.objs.size, [s.heap.objs.size, p], [s.heap.objs.size], _, _, _, fun i => bs.getD i true, rfl, Walks.list hh _ p ?_ _, ⟨⟨_, Heap.get?_push_size _ rfl, rfl, rfl⟩, pl.isList.push _⟩, ?_, fun h' tk hk => ?_⟩)
  · obtain ⟨o, n, e, _⟩ := pl
    exact Nat.ne_of_lt (Heap.lt_size e)
  · intro i v s' Q' E' hv hQ'
    have hv' : (bs.map Value.bool)[i]? = some v := by simpa using hv
    rw [List.getElem?_map] at hv'
    cases hb : bs[i]? with
    | none => rw [hb] at hv'; cases hv'
    | some b =>
      rw [hb] at hv'
      cases hv'
      have hQ2 : Q' (bs.getD i true) s' := hQ'
      rw [List.getD_eq_getElem?_getD, hb] at hQ2
      exact wpAny_truthy_bool hQ2
  · refine ⟨.bl (bs.any id), H, I.kept (h' := h') (t' := tk) fun b o e => hk b o ?_ (Heap.get?_push_of_some _ e), ?_, q⟩
    · intro z
      have z' : b = s.heap.objs.size := by simpa using z
      exact absurd (Heap.lt_size e) (by rw [z']; exact Nat.lt_irrefl _)
    · show Value.bool _ = Value.bool _
      rw [← range_any]
      simp
theorem call_anyK (K : PySem.W.Frag) (hc : X.calm = true) (h : X.K = K := by rfl) : CallR X (.builtin "any") (fun xs H Q => ∃ (p : Addr) (bs : List Bool), xs = [.ref p] ∧ SqL K H p (bs.map V.bl) ∧ Q (.bl (bs.any id)) H) := h ▸ call_anyA hc
end
end L2
namespace L2
open PySem PySem.Spec PyProof.Rows
section
variable {K : PySem.W.Frag} {C fI S N c : Addr} {nm q f : Str} {bs sub : List Value} {sn : List Str} {ab b : Bool} {col : Option Bool} {dd : Option Addr} {k0 k1 k2 k3 k5 : Option Value} {c0 : Value} {ds : Option Addr} {cd : ClassData} {sl : Array (Option Value)} {T : String}
theorem nsok_mk {cl : Value} {d : Option Addr} {es : Array DictEntry} {n : Nat} {sl : Array (Option Value)} (l : K.lookup N = some ⟨cl, d, .dict es n, sl⟩) (e : (es.toList.all fun e => match e.key with | .str _ _ => true | _ => false) = true) : PySem.W.nsOkIn K N = true := by
  unfold PySem.W.nsOkIn
  rw [l]
  show es.all _ = true
  rw [← Array.all_toList]
  exact e
theorem exk_mk (lk : K.lookup C = some (excClassObj nm q C N bs (.ref S :: bmV) true sn sub ab col dd k0 k1 k2 k3 k5 "ValueError.__new__")) (ok : PySem.W.nsOkIn K N = true) (ii : PySem.W.nsIn K N "__init__" = some (some (.ref fI)))
    (a1 : PySem.W.nsIn K N "__setattr__" = some none) (a2 : PySem.W.nsIn K N "__getattribute__" = some none) (a3 : PySem.W.nsIn K N "__getattr__" = some none) (a4 : PySem.W.nsIn K N "__class__" = some none) (a5 : PySem.W.nsIn K N f = some none)
    (lS : K.lookup S = some ⟨c0, ds, .cls cd, sl⟩) (okS : PySem.W.nsOkIn K cd.ns = true) (iS : PySem.W.nsIn K cd.ns "__init__" = some none)
    (b1 : PySem.W.nsIn K cd.ns "__setattr__" = some none) (b2 : PySem.W.nsIn K cd.ns "__getattribute__" = some none) (b3 : PySem.W.nsIn K cd.ns "__getattr__" = some none) (b4 : PySem.W.nsIn K cd.ns "__class__" = some none) (b5 : PySem.W.nsIn K cd.ns f = some none)
    (kp : PySem.W.keepIn K (.ref C) = true) (fn : PySem.W.isFn K (.ref fI) = true) : ExK K C fI ["__setattr__", "__getattribute__", "__getattr__", "__class__", f] :=
  ⟨⟨nm, q, N, bs, S, sn, sub, ab, col, dd, k0, k1, k2, k3, k5, lk, ok, ii, fun n hn => by
      simp only [List.mem_cons, List.not_mem_nil, or_false] at hn
      rcases hn with rfl | rfl | rfl | rfl | rfl <;> assumption, c0, ds, cd, sl, lS, okS, iS, fun n hn => by
      simp only [List.mem_cons, List.not_mem_nil, or_false] at hn
      rcases hn with rfl | rfl | rfl | rfl | rfl <;> assumption⟩, kp, fn⟩
theorem exAt_mk {cl cl' : Value} {d d' : Option Addr} {es es' : Array DictEntry} {n n' : Nat} {zl zl' : Array (Option Value)} {qual : Str} {st : Stmt} {oc : Value} {od an : Option Addr} {osl : Array (Option Value)} {kV doc pm cdv ct : Value}
    (lk : K.lookup C = some (excClassObj nm q C N bs (.ref S :: bmV) true sn sub ab col dd k0 k1 k2 k3 k5 "ValueError.__new__")) (lN : K.lookup N = some ⟨cl, d, .dict es n, zl⟩) (eN : (es.toList.all fun e => match e.key with | .str _ _ => true | _ => false) = true) (ii : PySem.W.nsIn K N "__init__" = some (some (.ref fI)))
    (a1 : PySem.W.nsIn K N "__setattr__" = some none) (a2 : PySem.W.nsIn K N "__getattribute__" = some none) (a3 : PySem.W.nsIn K N "__getattr__" = some none) (a4 : PySem.W.nsIn K N "__class__" = some none) (a5 : PySem.W.nsIn K N f = some none)
    (lS : K.lookup S = some ⟨c0, ds, .cls cd, sl⟩) (lM : K.lookup cd.ns = some ⟨cl', d', .dict es' n', zl'⟩) (eM : (es'.toList.all fun e => match e.key with | .str _ _ => true | _ => false) = true) (iS : PySem.W.nsIn K cd.ns "__init__" = some none)
    (b1 : PySem.W.nsIn K cd.ns "__setattr__" = some none) (b2 : PySem.W.nsIn K cd.ns "__getattribute__" = some none) (b3 : PySem.W.nsIn K cd.ns "__getattr__" = some none) (b4 : PySem.W.nsIn K cd.ns "__class__" = some none) (b5 : PySem.W.nsIn K cd.ns f = some none)
    (kp : PySem.W.keepIn K (.ref C) = true) (fn : PySem.W.isFn K (.ref fI) = true)
    (l : K.lookup fI = some ⟨oc, od, .func (PySem.W.fnOf "__init__" qual (defArgs st) (defBody st) (defScope st) .none kV doc pm an cdv ct), osl⟩) (c : PySem.W.codeIn K cdv qual = true) (k : PySem.W.keepIn K (.ref fI) = true) :
    ∃ fI fd, ExK K C fI ["__setattr__", "__getattribute__", "__getattr__", "__class__", f] ∧ Fun K "__init__" qual st fI fd :=
  ⟨fI, _, exk_mk lk (nsok_mk lN eN) ii a1 a2 a3 a4 a5 lS (nsok_mk lM eM) iS b1 b2 b3 b4 b5 kp fn, fun_mk l c k⟩
theorem kit_own {t : Value} (n : (t == .ref c) = false) (h1 : PySem.W.isClsIn K c = true) (h2 : PySem.W.typeIn K (.ref c) = some (.type "type")) (h3 : PySem.W.subIn K t (.ref c) = some b) : PySem.W.kitOne K t (.ref c) = some b := by
  unfold PySem.W.kitOne PySem.W.kitCls
  have h1 : (PySem.W.clsIn K c).isSome = true := h1
  rw [n, if_neg Bool.false_ne_true]
  simp only [h1, h2, beq_self_eq_true, Bool.and_self, if_true]
  exact h3
theorem kit_ty {t : Value} (n : (t == .type T) = false) (h1 : PySem.W.kitMeta T = true) (h3 : PySem.W.subIn K t (.type T) = some b) : PySem.W.kitOne K t (.type T) = some b := by
  unfold PySem.W.kitOne PySem.W.kitCls
  rw [n, if_neg Bool.false_ne_true]
  simp only [h1, if_true]
  exact h3
end
end L2
seal PySem.wpAny
namespace K04
open PySem PyProof.Rows L2
def top (i : Nat) : Stmt := PySem.Challenge.pw_fourvoices_k04_lines_refused.main.body.getD i (.Pass ⟨0, 0, 0, 0⟩)
abbrev s_is_number : Stmt := top 17
theorem sc_is_number : FnScope ["word", "figures"] ["word"] (defScope s_is_number) := ⟨rfl, rfl, rfl, by decide +kernel, rfl, by decide +kernel, by decide +kernel⟩
abbrev s_is_note : Stmt := top 20
theorem sc_is_note : FnScope ["word"] ["word"] (defScope s_is_note) := ⟨rfl, rfl, rfl, by decide +kernel, rfl, by decide +kernel, by decide +kernel⟩
abbrev s_note_of : Stmt := top 21
theorem sc_note_of : FnScope ["word"] ["word"] (defScope s_note_of) := ⟨rfl, rfl, rfl, by decide +kernel, rfl, by decide +kernel, by decide +kernel⟩
abbrev s_BadLine___init__ : Stmt := inClass (top 3) 0
theorem sc_BadLine___init__ : FnScope ["self", "place"] ["self", "place"] (defScope s_BadLine___init__) := ⟨rfl, rfl, rfl, by decide +kernel, rfl, by decide +kernel, by decide +kernel⟩
abbrev s_read_column : Stmt := top 22
theorem sc_read_column : FnScope ["piece", "voices", "place", "words"] ["piece", "voices", "place"] (defScope s_read_column) := ⟨rfl, rfl, rfl, by decide +kernel, rfl, by decide +kernel, by decide +kernel⟩
abbrev s_read_line : Stmt := top 23
theorem sc_read_line : FnScope ["text", "voices"] ["text", "voices"] (defScope s_read_line) := ⟨rfl, rfl, rfl, by decide +kernel, rfl, by decide +kernel, by decide +kernel⟩
abbrev s_law_stirred : Stmt := top 25
theorem sc_law_stirred : FnScope ["_law_cell", "_law_place", "_law_found", "_law_rest", "_law_turn", "_law_upper", "_law_lower"] ["_law_cell", "_law_place"] (defScope s_law_stirred) := ⟨rfl, rfl, rfl, by decide +kernel, rfl, by decide +kernel, by decide +kernel⟩
abbrev s_law_got : Stmt := top 26
theorem sc_law_got : FnScope ["_law_script", "_law_place", "_law_cell", "_law_power"] ["_law_script", "_law_place"] (defScope s_law_got) := ⟨rfl, rfl, rfl, by decide +kernel, rfl, by decide +kernel, by decide +kernel⟩
abbrev s_law_cells : Stmt := top 27
theorem sc_law_cells : FnScope ["_law_script", "_law_first", "_law_last"] ["_law_script", "_law_first", "_law_last"] (defScope s_law_cells) := ⟨rfl, rfl, rfl, by decide +kernel, rfl, by decide +kernel, by decide +kernel⟩
abbrev s_law_sign : Stmt := top 28
theorem sc_law_sign : FnScope ["_law_cell", "_law_some"] ["_law_cell"] (defScope s_law_sign) := ⟨rfl, rfl, rfl, by decide +kernel, rfl, by decide +kernel, by decide +kernel⟩
abbrev s_law_note : Stmt := top 29
theorem sc_law_note : FnScope ["_law_cell"] ["_law_cell"] (defScope s_law_note) := ⟨rfl, rfl, rfl, by decide +kernel, rfl, by decide +kernel, by decide +kernel⟩
abbrev s_law_bad_note : Stmt := top 30
theorem sc_law_bad_note : FnScope ["_law_cell", "_law_way", "_law_note_here"] ["_law_cell"] (defScope s_law_bad_note) := ⟨rfl, rfl, rfl, by decide +kernel, rfl, by decide +kernel, by decide +kernel⟩
abbrev s_law_piece : Stmt := top 31
theorem sc_law_piece : FnScope ["_law_cell", "_law_voices", "_law_bad", "_law_notes", "_law_k", "_law_way"] ["_law_cell", "_law_voices", "_law_bad"] (defScope s_law_piece) := ⟨rfl, rfl, rfl, by decide +kernel, rfl, by decide +kernel, by decide +kernel⟩
abbrev s_law_text : Stmt := top 32
theorem sc_law_text : FnScope ["_law_script", "_law_voices", "_law_cells_here", "_law_way", "_law_at", "_law_pieces", "_law_k", "_law_bad"] ["_law_script"] (defScope s_law_text) := ⟨rfl, rfl, rfl, by decide +kernel, rfl, by decide +kernel, by decide +kernel⟩
abbrev s_law_number : Stmt := top 33
theorem sc_law_number : FnScope ["_law_word", "_law_figures", "_law_sign_here"] ["_law_word"] (defScope s_law_number) := ⟨rfl, rfl, rfl, by decide +kernel, rfl, by decide +kernel, by decide +kernel⟩
abbrev s_law_column : Stmt := top 34
theorem sc_law_column : FnScope ["_law_piece_here", "_law_voices", "_law_parts", "_law_column_here", "_law_part"] ["_law_piece_here", "_law_voices"] (defScope s_law_column) := ⟨rfl, rfl, rfl, by decide +kernel, rfl, by decide +kernel, by decide +kernel⟩
abbrev s_law_refusal : Stmt := top 35
theorem sc_law_refusal : FnScope ["_law_e", "_law_place", "_law_others"] ["_law_e", "_law_place"] (defScope s_law_refusal) := ⟨rfl, rfl, rfl, by decide +kernel, rfl, by decide +kernel, by decide +kernel⟩
abbrev s_law : Stmt := top 36
theorem sc_law : FnScope ["_law_script", "_law_voices", "_law_text_here", "_law_due", "_law_place", "_law_pieces", "_law_k", "_law_refused", "_law_found", "_law_e"] ["_law_script"] (defScope s_law) := ⟨rfl, rfl, rfl, by decide +kernel, rfl, by decide +kernel, by decide +kernel⟩
structure Txt (mg : Str → Option Value) (aM : Addr) : Prop where
  n_len : mg "len" = none
  n_abs : mg "abs" = none
  n_divmod : mg "divmod" = none
  n_range : mg "range" = none
  n_min : mg "min" = none
  n_max : mg "max" = none
  n_int : mg "int" = none
  n_str : mg "str" = none
  n_all : mg "all" = none
  n_any : mg "any" = none
  n_tuple : mg "tuple" = none
  n_list : mg "list" = none
  n_enumerate : mg "enumerate" = none
  n_isinstance : mg "isinstance" = none
  n_bool : mg "bool" = none
  n_ValueError : mg "ValueError" = none
  g_FIGURES : ∃ u, mg "FIGURES" = some u ∧ RelV (.str "0123456789") u
  g_MOST_FIGURES : ∃ u, mg "MOST_FIGURES" = some u ∧ RelV (.int 40) u
  g_HOLE : ∃ u, mg "HOLE" = some u ∧ RelV (.str ".") u
local macro_rules | `(tactic| walk_at "rd") => `(tactic| (try dsimp only [↓rdV_z, ↓rdV_s, ↓asI_int, ↓asB_bl, ↓jEq_ii, ↓jEq_ss, ↓jNe_ii, ↓jNe_ss, ↓jAdd_ii, ↓jMul_ii, tRd, jI0, jI, jU, jTest, jPart, jAug, jAndV, jOrV, jNotV, tSeq, tNext, tAsg, gName, tC, tOp, tUn, tIfS, tRet, tRetN, tDrop, tCB, tCall, tCons, tNil, tAnd, tOr, tNot, tIf, tSl, tNoPart, L2.start, List.map_cons, List.map_nil, List.length_cons, List.length_nil, List.replicate, List.cons_append, List.nil_append, List.set_cons_zero, List.set_cons_succ, rdV_z, rdV_s, asI_int, asB_bl, jEq_ii, jEq_ss, jNe_ii, jNe_ss, jAdd_ii, jMul_ii]) <;> (try simp only [↓rdV_z, ↓rdV_s, ↓asI_int, ↓asB_bl, ↓jEq_ii, ↓jEq_ss, ↓jNe_ii, ↓jNe_ss, ↓jAdd_ii, ↓jMul_ii, ↓itD, ↓itN, tRd, jI0, jI, jU, jTest, jPart, jAug, jAndV, jOrV, jNotV, tSeq, tNext, tAsg, gName, tVar, tC, tOp, tUn, tIfS, tTest, tRet, tRetN, tDrop, tCB, tCall, tCons, tNil, tAnd, tOr, tNot, tAndV, tOrV, tNotV, tIf, tSl, tPart, tNoPart, tBM, tBM0, gTup, gCons, gNil, rI0, rI, rU, L2.start, e_rAddA_ii, e_rAddT_ii, e_rAddA_ss, e_jAddA_ss, e_jMulB_si, e_rMulA_ii, e_rMulA_si, e_rMulB_ii, e_rMulB_si, e_rSlA_s, e_rIx_s, e_rEq_ii, e_rNe_ii, e_rEq_ss, e_rEqB_ii, e_rNeB_ii, e_rEqB_ss, e_rNeB_ss, e_rEqB_bb, e_rNeB_bb, e_rNe_ss, e_rEq_bb, e_rNe_bb, e_rInA_c, e_rNotInA_c, List.map_cons, List.map_nil, List.length_cons, List.length_nil, List.replicate, List.cons_append, List.nil_append, List.append_nil, List.getElem?_cons_zero, List.getElem?_cons_succ, List.set_cons_zero, List.set_cons_succ, Option.some.injEq, e_exE', e_exE, e_exL', e_exL, e_exA, V.int.injEq, V.str.injEq, V.bl.injEq, V.ref.injEq, V.ty.injEq, List.cons.injEq, and_true, true_and, iBy, iRng1, iRng2, iRngD, iZip, iEnum, iEnumB, tMethG, gSeq, e_rStr_i, e_rStr_s, gSub, rSetL, tChain, tCallE, tFld, sFld, tMake, tAug, e_rEqC_ii, e_rNeC_ii, e_rEqC_ss, e_rNeC_ss, tFor_eq, tComp_eq, tAll, Int.zero_add, if_true, Bool.false_eq_true, if_false, cσ, List.getD_cons_zero, List.getD_cons_succ, e_asc, cxOf_K, cxC_K, decide_eq_true_eq, reduceCtorEq, false_and, e_exF, false_or, or_false, e_exC, List.length_map, tLst, tTup, tVs, tRev, e_TruV_b, e_tyV_s, Bool.not_eq_true', e_dF, ite_not, rdV_z, rdV_s, asI_int, asB_bl, jEq_ii, jEq_ss, jNe_ii, jNe_ss, jAdd_ii, jMul_ii]) <;> try simp only [e_rdV_iff, e_asI_iff, e_asB_iff, e_jEq_x, e_jNe_x, e_jAddA_x, e_jMulB_x, e_jEqC_x, e_jNeC_x, e_jAddT_x, e_exL', e_exL, e_exA, e_asc, and_true, true_and, V.int.injEq, V.str.injEq, V.bl.injEq, V.ref.injEq, reduceCtorEq, false_and, e_exF, false_or, or_false])
local macro_rules | `(tactic| walk_at "flds") => `(tactic| simp only [lookup_putF, ofString_inj, String.reduceEq, if_false, if_true, List.lookup])
def spStirred : Sp := fun vs H Q _ => ∃ c p, vs = [.int c, .int p] ∧ ∀ H', Same H H' → Q (.int (GM.stirF c p)) H'
def spGot (K : PySem.W.Frag) : Sp := fun vs H Q _ => ∃ a ns p, vs = [.ref a, .int p] ∧ SqL K H a (ns.map V.int) ∧ (∀ x ∈ ns, x.natAbs < 2 ^ GB) ∧ 0 ≤ p ∧ p ≤ 1000 ∧ ∀ H', Same H H' → Q (.int (GM.gotF ns p)) H'
def spCells (K : PySem.W.Frag) : Sp := fun vs H Q _ => ∃ a ns lo hi, vs = [.ref a, .int lo, .int hi] ∧ SqL K H a (ns.map V.int) ∧ (∀ x ∈ ns, x.natAbs < 2 ^ GB) ∧ ns.length ≤ 63 ∧ 0 ≤ lo ∧ lo ≤ 100 ∧ 0 ≤ hi ∧ hi ≤ 100 ∧
  ∀ q H', H' q = some (.lst ((GM.cellsF ns lo hi).map V.int)) → Same H H' → Q (.ref q) H'
def spNum : Sp := fun vs H Q _ => ∃ z, vs = [.str z] ∧ z.length ≤ 10000 ∧ ∀ H', Same H H' → Q (.bl (isNum z.cps.toList)) H'
theorem lkV_place : typeLookup (.type "ValueError") "place" = pure none := by rw [typeLookup_type, builtinLookup_eq_fast]; kernel_rfl
abbrev no4 : List Str := ["__setattr__", "__getattribute__", "__getattr__", "__class__", "place"]
def isN (z : Str) : Bool := decide (z.cps.toList = [46]) || isNum z.cps.toList
def nV (z : Str) : V := if z = Str.ofString "." then .non else .int ((intText? z).getD 0)
def wordsOf (z : Str) : List Str := Txt.split z ⟨#[44]⟩
def colB (v : Int) (z : Str) : Bool := decide (((wordsOf z).length : Int) = v) && (wordsOf z).all isN
def colV (z : Str) : List V := (wordsOf z).map nV
def BadAt (C : Addr) (pl : Int) (H : Hp) (a d : Addr) : Prop := H a = some (XO C d a) ∧ H d = some (.xd [("place", .int pl)])
def spIsNote : Sp := fun vs H Q _ => ∃ z, vs = [.str z] ∧ z.length ≤ 10000 ∧ ∀ H', Same H H' → Q (.bl (isN z)) H'
def spNoteOf : Sp := fun vs H Q _ => ∃ z, vs = [.str z] ∧ isN z = true ∧ ∀ H', Same H H' → Q (nV z) H'
def spReadCol (C : Addr) : Sp := fun vs H Q E => ∃ (z : Str) (v pl : Int), vs = [.str z, .int v, .int pl] ∧ z.length ≤ 10000 ∧
  (colB v z = true → ∀ p H', H' p = some (.tup (colV z)) → Same H H' → Q (.ref p) H') ∧ (colB v z = false → ∀ a d H', BadAt C pl H' a d → Same H H' → E (.ref a) (some d) H')
theorem dot_codes : (Str.ofString ".").cps.toList = [46] := by decide +kernel
theorem comma_eq : Str.ofString "," = ⟨#[44]⟩ := by decide +kernel
theorem blank_eq : Str.ofString " " = ⟨#[32]⟩ := by decide +kernel
section
variable {P : Program} {w : World} {K : PySem.W.Frag} {mg : Str → Option Value} {base : Heap} {aM : Addr}
theorem ok_stirred {f : Addr} {fd : FuncData} (F : Fun K "_law_stirred" "_law_stirred" s_law_stirred f fd) (T : Txt mg aM) : FnOk P w K mg base CX0 1 f fd ["_law_cell", "_law_place"] spStirred := by
  refine F.ok sc_law_stirred (fun vs H Q E h => ?_) (fun cdv A outer s H vs Q E hr h => ?_)
  · obtain ⟨c, p, rfl, _⟩ := h
    rfl
  obtain ⟨c, p, rfl, k⟩ := h
  refine ⟨_, (pss_cons (ps_set (i := 2) sc_law_stirred.nd rfl (Or.inl rfl) pe_int)
  (pss_cons (ps_set (i := 3) sc_law_stirred.nd rfl (Or.inl rfl) (pe_op (oAdd K) (pe_op (o1 op_mod) (pe_op (oAdd K) (pe_op (o1 op_mod) (pr 0) pe_int) (pe_op (oMul K) pe_int (pr 1))) pe_int) pe_int))
  (pss_cons (ps_for PassesOwn.never rfl (pi_range1 rfl T.n_range (pa_cons pe_int pa_nil)) (pg_name (i := 4) sc_law_stirred.nd rfl (Or.inl rfl))
  (pss_cons (ps_asg (pe_callB (call_divmod) (by rfl) T.n_divmod boot_divmod (pa_cons (pr 3) (pa_cons pe_int pa_nil))) (pg_tupK K (n := 2) rfl (pgs_cons (pg_name (i := 5) sc_law_stirred.nd rfl (Or.inl rfl)) (pgs_cons (pg_name (i := 6) sc_law_stirred.nd rfl (Or.inl rfl)) pgs_nil))))
  (pss_cons (ps_set (i := 3) sc_law_stirred.nd rfl (Or.inl rfl) (pe_op (o1 op_mod) (pe_op (oAdd K) (pe_op (oAdd K) (pe_op (oAdd K) (pe_op (oMul K) (pr 6) pe_int) (pe_op (oMul K) (pr 5) pe_int)) (pe_op (oMul K) pe_int (pr 4))) pe_int) pe_int))
  (pss_one (ps_set (i := 2) sc_law_stirred.nd rfl (Or.inl rfl) (pe_op (oAdd K) (pe_op (oMul K) (pr 2) pe_int) (pr 3)))))))
  (pss_one (ps_ret (pr 2)))))), ?_⟩
  walk_at "rd"
  refine ⟨by decide, .of_left (by decide), by decide, by decide, by decide, ?_⟩
  refine loop_range (n := 4) (fun i σ H' => ∃ o4 o5 o6, σ = [some (.int c), some (.int p), some (.int (GM.stirSt c p i).1), some (.int (GM.stirSt c p i).2), o4, o5, o6] ∧ Same H H') ⟨none, none, none, rfl, Same.refl H⟩ ?_ ?_
  · rintro i σ H1 hi ⟨o4, o5, o6, rfl, sm⟩
    walk_at "rd"
    refine ⟨⟨by decide, by decide⟩, fun q hq => ⟨_, SqT.of upd_same, rfl, ?_⟩⟩
    walk_at "rd"
    refine ⟨.of_right (by decide), .of_right (by decide), .of_left (by decide), by decide, .of_right (by decide), ?_⟩
    exact ⟨rfl, rfl, sm.upd hq⟩
  · rintro σ H1 ⟨o4, o5, o6, rfl, sm⟩
    walk_at "rd"
    exact k _ sm
theorem ok_got {f : Addr} {fd : FuncData} (F : Fun K "_law_got" "_law_got" s_law_got f fd) (T : Txt mg aM) (D_law_stirred : Def P w K mg base "_law_stirred" 1 ["_law_cell", "_law_place"] spStirred) : FnOk P w K mg base CX0 2 f fd ["_law_script", "_law_place"] (spGot K) := by
  refine F.ok sc_law_got (fun vs H Q E h => ?_) (fun cdv A outer s H vs Q E hr h => ?_)
  · obtain ⟨a, ns, p, rfl, _⟩ := h
    rfl
  obtain ⟨a, ns, p, rfl, hS, hB, hp0, hp1, k⟩ := h
  refine ⟨_, (pss_cons (ps_for PassesOwn.never rfl (pi_anyK K (pe_slice (slAK K) (pr 0) (po_j (pr 1)) (po_j (pe_op (oAdd K) (pr 1) pe_int)))) (pg_name (i := 2) sc_law_got.nd rfl (Or.inl rfl))
  (pss_cons (ps_set (i := 3) sc_law_got.nd rfl (Or.inl rfl) pe_int)
  (pss_cons (ps_while PassesOwn.never (pt_j (pt_cmpR (o0 op_le) (pr 3) (pe_callB (call_abs) (by rfl) T.n_abs boot_abs (pa_cons (pr 2) pa_nil)) (nomark _))) (pss_one (ps_set (i := 3) sc_law_got.nd rfl (Or.inl rfl) (pe_op (oMul K) (pr 3) (pe_op (o1 op_pow) pe_int pe_int)))))
  (pss_one (ps_ret (pe_op (oAdd K) (pe_callB (call_abs) (by rfl) T.n_abs boot_abs (pa_cons (pr 2) pa_nil)) (pe_op (oMul K) (pr 3) (pe_def D_law_stirred hr (by rfl) (pa_cons (pe_callB (call_abs) (by rfl) T.n_abs boot_abs (pa_cons (pr 2) pa_nil)) (pa_cons (pr 1) pa_nil))))))))))
  (pss_one (ps_ret pe_int))), ?_⟩
  walk_at "rd"
  refine rSlA_l hS fun q hq => ?_
  show rIt _ _ _ _
  rw [cutV_one _ hp0, List.getElem?_map]
  cases hc : ns[p.toNat]? with
  | none =>
    refine rIt_lst (SqL.of upd_same) (loop_none (SqL.of upd_same) ?_)
    walk_at "rd"
    have e : GM.gotF ns p = 0 := by unfold GM.gotF; rw [hc]
    rw [← e]
    exact k _ (same_upd hq)
  | some c =>
    have e : GM.gotF ns p = GM.absI c + GM.powF c * GM.stirF (GM.absI c) p := by unfold GM.gotF; rw [hc]
    have hcB := hB c (List.mem_of_getElem? hc)
    refine rIt_lst (SqL.of upd_same) (loop_list (xs := [.int c]) (fun i σ H' => i = 0 ∧ σ = [some (.ref a), some (.int p), none, none] ∧ H' = upd H q (.lst [.int c])) ⟨rfl, rfl, rfl⟩ (fun i σ H' _ h => by rw [h.2.2]; exact SqL.of upd_same) ?_ (fun σ H' h => by cases h.1))
    rintro i x σ H' hx ⟨rfl, rfl, rfl⟩
    cases hx
    walk_at "rd"
    refine ⟨fun m σ H' => ∃ pw, σ = [some (.ref a), some (.int p), some (.int c), some (.int pw)] ∧ Same H H' ∧ 0 < pw ∧ GM.absI c < pw + m ∧ GM.powGo m pw (GM.absI c) = GM.powF c, ⟨(GM.absI c).toNat + 1, 1, rfl, same_upd hq, by decide, by omega, rfl⟩, ?_⟩
    rintro m σ H' ⟨pw, rfl, sm, h0, h1, h2⟩
    walk_at "rd"
    have ea : (if c < 0 then -c else c) = GM.absI c := rfl
    rw [ea]
    by_cases hle : pw ≤ GM.absI c
    · rw [if_pos hle]
      obtain ⟨m', rfl⟩ : ∃ m', m = m' + 1 := ⟨m - 1, by omega⟩
      refine ⟨fun σ' H' => σ' = [some (.ref a), some (.int p), some (.int c), some (.int (pw * 1000000))] ∧ Same H H', ?_, ?_⟩
      · rintro σ' H'' ⟨rfl, sm'⟩
        refine ⟨m', Nat.lt_succ_self _, pw * 1000000, rfl, sm', by omega, by omega, ?_⟩
        rw [← h2]
        simp only [GM.powGo]
        rw [if_pos hle]
      · walk_at "rd"
        exact ⟨⟨by decide, by decide, by decide⟩, .of_right (by decide), rfl, sm⟩
    · rw [if_neg hle]
      rw [GM.powGo_stop hle] at h2
      subst h2
      walk_at "rd"
      refine ⟨_, _, rfl, fun H2 s2 => ?_⟩
      walk_at "rd"
      refine ⟨.of_le (intBits_le_iff.mpr (GM.powF_lt hcB)) (intBits_le_iff.mpr (GM.stirF_natAbs _ _)) (by decide), ?_⟩
      rw [← e]
      exact k _ (sm.trans s2)
theorem ok_cells {f : Addr} {fd : FuncData} (F : Fun K "_law_cells" "_law_cells" s_law_cells f fd) (T : Txt mg aM) (D_law_got : Def P w K mg base "_law_got" 2 ["_law_script", "_law_place"] (spGot K)) : FnOk P w K mg base CX0 3 f fd ["_law_script", "_law_first", "_law_last"] (spCells K) := by
  refine F.ok sc_law_cells (fun vs H Q E h => ?_) (fun cdv A outer s H vs Q E hr h => ?_)
  · obtain ⟨a, ns, lo, hi, rfl, _⟩ := h
    rfl
  obtain ⟨a, ns, lo, hi, rfl, hS, hB, hn, h1, h2, h3, h4, k⟩ := h
  refine ⟨_, (pss_one (ps_ret (pe_comp (own := ["_law_k"]) (js := [0]) rfl (pi_range2 rfl T.n_range (pa_cons (pr 1) (pa_cons (pe_callB (call_min2 rfl) (by rfl) T.n_min boot_min (pa_cons (pr 2) (pa_cons (pe_callB (call_lenK K) (by rfl) T.n_len boot_len (pa_cons (pr 0) pa_nil)) pa_nil))) pa_nil))) (CompOk.of (by rfl)) (fun _ _ _ _ _ => (pg_name (i := 0) (show List.Nodup (["_law_k", "_law_script"] : List Str) from by decide +kernel) rfl (Or.inl rfl))) (fun _ _ _ _ _ => pts_nil) (fun _ _ _ _ _ => (pe_def D_law_got hr (by rfl) (pa_cons (pr 1) (pa_cons (pr 0) pa_nil))))))), ?_⟩
  walk_at "rd"
  refine ⟨_, .inl hS, ?_⟩
  walk_at "rd"
  have hb : 0 ≤ (if (ns.length : Int) < hi then (ns.length : Int) else hi) ∧ (if (ns.length : Int) < hi then (ns.length : Int) else hi) ≤ 100 := by split <;> omega
  have hs : sizeLine = 16777216 := sizeLine_eq
  refine ⟨by omega, by omega, by omega, by omega, cloop_range (fun i ys H' => ys = ((List.range i).map fun (j : Nat) => V.int (GM.gotF ns (lo + j))) ∧ Same H H') (by omega) ⟨rfl, Same.refl _⟩ (fun i ys H' h => by rw [h.1]; simp) ?_ ?_⟩
  · rintro i ys H1 hi ⟨rfl, sm⟩
    walk_at "rd"
    refine ⟨a, ns, lo + i, rfl, sm.seq hS, hB, by omega, by omega, fun H2 s2 => ?_⟩
    exact ⟨by rw [List.range_succ, List.map_append]; rfl, sm.trans s2⟩
  · rintro ys H1 ⟨rfl, sm⟩ q hq
    exact k q _ (by rw [upd_same]; unfold GM.cellsF; rw [List.map_map]; rfl) (sm.upd hq)
theorem ok_number {f : Addr} {fd : FuncData} (F : Fun K "is_number" "is_number" s_is_number f fd) (T : Txt mg aM) : FnOk P w K mg base CX0 1 f fd ["word"] spNum := by
  refine F.ok sc_is_number (fun vs H Q E h => ?_) (fun cdv A outer s H vs Q E hr h => ?_)
  · obtain ⟨z, rfl, _⟩ := h
    rfl
  obtain ⟨z, rfl, hz, k⟩ := h
  refine ⟨_, (pss_cons (ps_set (i := 1) sc_is_number.nd rfl (Or.inl rfl) (pe_ifExp (pt_truth (pe_bmK K PySem.F.plainAttrs_str PySem.F.slot_str_startswith PySem.F.type_str_startswith mt_startswith (pr 0) (pa_cons pe_str pa_nil)) (fun _ => rfl)) (pe_slice (slAK K) (pr 0) (po_j pe_int) po_none) (pr 0)))
  (pss_cons (ps_if (PW.pt (pw_or (pt_j (pt_cmpR oEq (pr 1) pe_str (nomark _))) (pw_or1 (pt_j (pt_cmpR (o0 op_gt) (pe_callB (call_lenK K) (by rfl) T.n_len boot_len (pa_cons (pr 1) pa_nil)) (pe_g T.g_MOST_FIGURES) (nomark _)))))) (pss_one (ps_ret pe_bl)) pss_nil)
  (pss_cons (ps_if (pt_not (pt_truth (pe_callB (call_allK K rfl) (by rfl) T.n_all boot_all (pa_cons (pe_comp (own := ["sign"]) (js := []) rfl (pi_anyK K (pr 1)) (CompOk.of (by rfl)) (fun _ _ _ _ _ => (pg_name (i := 0) (show List.Nodup (["sign"] : List Str) from by decide +kernel) rfl (Or.inl rfl))) (fun _ _ _ _ _ => pts_nil) (fun _ _ _ _ _ => (pe_cmpR (opInK K) (pr 0) (pe_g T.g_FIGURES) (by with_unfolding_all rfl)))) pa_nil)) (fun _ => rfl))) (pss_one (ps_ret pe_bl)) pss_nil)
  (pss_one (ps_ret (pe_jo (pe_or (pe_cmpR oNe (pe_ix (ixAK K) (pr 1) pe_int (fun _ _ => rfl)) pe_str (nomark _)) (pe_one (pe_cmpR oEq (pr 0) pe_str (nomark _)))))))))), ?_⟩
  have hs : sizeLine = 16777216 := sizeLine_eq
  have c0 : (Str.ofString "").cps.toList = [] := by decide +kernel
  have c45 : (Str.ofString "-") = ⟨#[45]⟩ := by decide +kernel
  have c48 : (Str.ofString "0").cps.toList = [48] := by decide +kernel
  have cF : (Str.ofString "0123456789").cps.toList = [48, 49, 50, 51, 52, 53, 54, 55, 56, 57] := by decide +kernel
  refine cut2 (fun σ H' => ∃ y, σ = [some (.str z), some (.str y)] ∧ H = H' ∧ y.cps.toList = figs z.cps.toList) ?_ ?_
  · rintro _ _ ⟨y, rfl, rfl, hy⟩
    have hyl : y.length ≤ 10000 := by
      rw [str_len, hy]
      rw [str_len] at hz
      refine Nat.le_trans ?_ hz
      unfold figs
      split
      · rw [List.length_tail]; omega
      · exact Nat.le_refl _
    walk_at "rd"
    have hk := k
    rw [isNum_prog, ← hy, ← str_len] at hk
    have q0 := hk H (Same.refl H)
    by_cases h1 : y = Str.ofString ""
    · rw [if_pos h1]
      rw [if_pos (Or.inl (by rw [h1, c0]))] at q0
      exact q0
    rw [if_neg h1]
    refine ⟨by omega, ?_⟩
    by_cases h2 : (40 : Int) < y.length
    · rw [if_pos h2]
      rw [if_pos (Or.inr (by omega))] at q0
      exact q0
    rw [if_neg h2]
    have h3 : ¬ (y.cps.toList = [] ∨ 40 < y.length) := by
      rintro (e | e)
      · exact h1 (str_iff.mpr (by rw [e, c0]))
      · omega
    rw [if_neg h3] at hk
    have e0 : y.cps.toList ≠ [] := fun e => h3 (Or.inl e)
    refine rIt_str (cloop_str (fun i ys H' => ys = (y.cps.toList.take i).map (fun c => V.bl (decide (c ∈ [48, 49, 50, 51, 52, 53, 54, 55, 56, 57]))) ∧ H = H') (by omega) ⟨rfl, rfl⟩ ?_ ?_ ?_)
    · rintro i ys H' ⟨rfl, rfl⟩
      rw [List.length_map, List.length_take]
      omega
    · rintro i c ys H' hc ⟨rfl, rfl⟩
      walk_at "rd"
      rw [cF, List.take_add_one, hc]
      simp
    · rintro ys H' ⟨rfl, rfl⟩ p hp
      rw [str_len, List.take_length]
      refine ⟨y.cps.toList.map (fun c => decide (c ∈ [48, 49, 50, 51, 52, 53, 54, 55, 56, 57])), SqL.of (by rw [upd_same, List.map_map]; rfl), ?_⟩
      have ed : (List.map (fun c => decide (c ∈ [48, 49, 50, 51, 52, 53, 54, 55, 56, 57])) y.cps.toList).all id = digs y.cps.toList := by
        unfold digs
        rw [List.all_map]
        rfl
      have q1 := hk _ (same_upd (o := .lst ((y.cps.toList.take y.cps.toList.length).map (fun c => V.bl (decide (c ∈ [48, 49, 50, 51, 52, 53, 54, 55, 56, 57]))))) hp)
      rw [List.take_length] at q1
      rw [ed]
      by_cases h4 : digs y.cps.toList = false
      · rw [if_pos h4]
        rw [if_pos h4] at q1
        exact q1
      rw [if_neg h4]
      rw [if_neg h4] at q1
      refine ⟨by rw [← str_len]; omega, ?_⟩
      cases hh : y.cps.toList with
      | nil => exact absurd hh e0
      | cons a l =>
        rw [hh] at q1
        refine ⟨a, atI_zero rfl, ?_⟩
        by_cases ha : a = 48
        · subst ha
          rw [if_pos (str_iff.mpr (by rw [c48])), str_eq_codes, c48]
          simpa using q1
        · rw [if_neg (fun e => ha (by have := str_iff.mp e; rw [c48] at this; simpa using this))]
          simpa [ha] using q1
  · intro u' hu
    walk_at "rd"
    rw [c45, starts_one]
    by_cases h1 : z.cps.toList.head? = some 45
    · rw [if_pos (by simpa using h1)]
      exact ⟨by omega, hu _ _ ⟨_, rfl, rfl, by rw [slice_from (by decide)]; unfold figs; rw [if_pos h1]; simp⟩⟩
    · rw [if_neg (by simpa using h1)]
      exact hu _ _ ⟨_, rfl, rfl, by unfold figs; rw [if_neg h1]⟩
theorem ok_is_note {f : Addr} {fd : FuncData} (F : Fun K "is_note" "is_note" s_is_note f fd) (T : Txt mg aM) (D_is_number : Def P w K mg base "is_number" 1 ["word"] spNum) : FnOk P w K mg base CX0 2 f fd ["word"] spIsNote := by
  refine F.ok sc_is_note (fun vs H Q E h => ?_) (fun cdv A outer s H vs Q E hr h => ?_)
  · obtain ⟨z, rfl, _⟩ := h
    rfl
  obtain ⟨z, rfl, hz, k⟩ := h
  refine ⟨_, (pss_one (ps_ret (pe_jo (pe_or (pe_cmpR oEq (pr 0) (pe_g T.g_HOLE) (nomark _)) (pe_one (pe_def D_is_number hr (by rfl) (pa_cons (pr 0) pa_nil))))))), ?_⟩
  unfold isN at k
  walk_at "rd"
  by_cases h : z.cps.toList = [46]
  · rw [if_pos (str_iff.mpr (by rw [h, dot_codes]))]
    have := k H (Same.refl H)
    rw [decide_eq_true h] at this
    exact this
  · rw [if_neg (fun e => h (by rw [e, dot_codes]))]
    exact ⟨z, rfl, hz, fun H' s => by have := k H' s; rw [decide_eq_false h] at this; exact this⟩
theorem ok_note_of {f : Addr} {fd : FuncData} (F : Fun K "note_of" "note_of" s_note_of f fd) (T : Txt mg aM) : FnOk P w K mg base CX0 1 f fd ["word"] spNoteOf := by
  refine F.ok sc_note_of (fun vs H Q E h => ?_) (fun cdv A outer s H vs Q E hr h => ?_)
  · obtain ⟨z, rfl, _⟩ := h
    rfl
  obtain ⟨z, rfl, hz, k⟩ := h
  refine ⟨_, (pss_one (ps_ret (pe_ifExp (pt_j (pt_cmpR oEq (pr 0) (pe_g T.g_HOLE) (nomark _))) pe_non (pe_callTy (call_intA) (by rfl) T.n_int boot_int (pa_cons (pr 0) pa_nil))))), ?_⟩
  walk_at "rd"
  have hk := k H (Same.refl H)
  unfold nV at hk
  by_cases h : z = Str.ofString "."
  · rw [if_pos h]
    rw [if_pos h] at hk
    exact hk
  · rw [if_neg h]
    rw [if_neg h] at hk
    have hn : isNum z.cps.toList = true := by
      unfold isN at hz
      rw [decide_eq_false (fun e => h (str_iff.mpr (by rw [e, dot_codes]))), Bool.false_or] at hz
      exact hz
    obtain ⟨n, e, hl⟩ := isNum_int hn
    rw [e] at hk
    exact ⟨n, e, hl, hk⟩
theorem ok_BadLine {f C : Addr} {fd : FuncData} (F : Fun K "__init__" "BadLine.__init__" s_BadLine___init__ f fd) (TX : ExK K C f no4) : FnOk P w K mg base CX0 1 f fd ["self", "place"] (spX1 C "place") := by
  refine F.ok sc_BadLine___init__ (fun vs H Q E h => ?_) (fun cdv A outer s H vs Q E hr h => ?_)
  · obtain ⟨a, v, rfl, _⟩ := h
    rfl
  obtain ⟨a, v, rfl, ha, k⟩ := h
  refine ⟨_, (pss_one (ps_fldX TX (by decide +kernel) (by decide +kernel) lkV_place (pr 0) (pr 1) rfl)), ?_⟩
  walk_at "rd"
  simp only [sFldX]
  walk_at "rd"
  exact ⟨ha, fun d hd hda => k d hd hda⟩
end
theorem spl_le (c : Nat) : ∀ (l p : List Nat), p ∈ spl c l → p.length ≤ l.length
  | [], p, h => by simp [spl] at h; subst h; exact Nat.le_refl _
  | x :: l, p, h => by
    unfold spl at h
    split at h
    · rcases List.mem_cons.mp h with rfl | h
      · exact Nat.zero_le _
      · exact Nat.le_succ_of_le (spl_le c l p h)
    · split at h
      · rcases List.mem_singleton.mp h with rfl
        simp
      · rename_i q ps e
        rcases List.mem_cons.mp h with rfl | h
        · have := spl_le c l q (by rw [e]; exact List.mem_cons_self)
          simp
          exact this
        · exact Nat.le_succ_of_le (spl_le c l p (by rw [e]; exact List.mem_cons_of_mem _ h))
theorem word_le {z y : Str} {c : Nat} (hc : c < 256) (h : y ∈ Txt.split z ⟨#[c]⟩) : y.length ≤ z.length := by
  have h1 : y.cps.toList ∈ spl c z.cps.toList := by
    rw [← split_codes z hc]
    exact List.mem_map.mpr ⟨y, h, rfl⟩
  rw [str_len, str_len]
  exact spl_le _ _ _ h1
section
variable {P : Program} {w : World} {K : PySem.W.Frag} {mg : Str → Option Value} {base : Heap} {aM : Addr}
theorem ok_read_column {f C : Addr} {fd : FuncData} (F : Fun K "read_column" "read_column" s_read_column f fd) (T : Txt mg aM) (D_is_note : Def P w K mg base "is_note" 2 ["word"] spIsNote) (D_note_of : Def P w K mg base "note_of" 2 ["word"] spNoteOf) (DE_BadLine : DefE P w K mg base "BadLine" C 1 ["self", "place"] (spX1 C "place") no4) : FnOk P w K mg base (CXW P w) 3 f fd ["piece", "voices", "place"] (spReadCol C) := by
  refine F.okX sc_read_column (fun vs H Q E h => ?_) (fun cdv A outer s H vs Q E hr h => ?_)
  · obtain ⟨z, v, pl, rfl, _⟩ := h
    rfl
  obtain ⟨z, v, pl, rfl, hz, k1, k2⟩ := h
  refine ⟨_, (pss_cons (ps_set (i := 3) sc_read_column.nd rfl (Or.inl rfl) (pe_bmK K PySem.F.plainAttrs_str PySem.F.slot_str_split PySem.F.type_str_split mt_split (pr 0) (pa_cons pe_str pa_nil)))
  (pss_cons (ps_if (PW.pt (pw_or (pt_j (pt_cmpR oNe (pe_callB (call_lenK K) (by rfl) T.n_len boot_len (pa_cons (pr 3) pa_nil)) (pr 1) (nomark _))) (pw_or1 (pt_not (pt_truth (pe_callB (call_allK K rfl) (by rfl) T.n_all boot_all (pa_cons (pe_comp (own := ["word"]) (js := []) rfl (pi_anyK K (pr 3)) (CompOk.of (by rfl)) (fun _ _ _ _ _ => (pg_name (i := 0) (show List.Nodup (["word"] : List Str) from by decide +kernel) rfl (Or.inl rfl))) (fun _ _ _ _ _ => pts_nil) (fun _ _ _ _ _ => (pe_def D_is_note hr (by rfl) (pa_cons (pr 0) pa_nil)))) pa_nil)) (fun _ => rfl)))))) (pss_one (ps_raiseD DE_BadLine rfl hr (by rfl) (fun _ _ => leave_fn) (pa_cons (pr 2) pa_nil))) pss_nil)
  (pss_one (ps_ret (pe_callTy (call_tupleK K) (by rfl) T.n_tuple boot_tuple (pa_cons (pe_comp (own := ["word"]) (js := []) rfl (pi_anyK K (pr 3)) (CompOk.of (by rfl)) (fun _ _ _ _ _ => (pg_name (i := 0) (show List.Nodup (["word"] : List Str) from by decide +kernel) rfl (Or.inl rfl))) (fun _ _ _ _ _ => pts_nil) (fun _ _ _ _ _ => (pe_def D_note_of hr (by rfl) (pa_cons (pr 0) pa_nil)))) pa_nil)))))), ?_⟩
  have hs : sizeLine = 16777216 := sizeLine_eq
  refine cut2 (fun σ H' => ∃ p : Addr, H p = none ∧ H' p = some (.lst ((wordsOf z).map V.str)) ∧ σ = [some (.str z), some (.int v), some (.int pl), some (.ref p)] ∧ Same H H') ?_ ?_
  rotate_left
  · intro u' hu
    walk_at "rd"
    exact ⟨44, comma_eq, by decide, by omega, fun p hp => hu _ _ ⟨p, hp, upd_same, rfl, same_upd hp⟩⟩
  rintro _ H1 ⟨p, hp, hp1, rfl, s1⟩
  have hw : ∀ y ∈ wordsOf z, y.length ≤ 10000 := fun y hy => Nat.le_trans (word_le (by decide) hy) hz
  have hl : (wordsOf z).length ≤ 10001 := by
    have h1 : (wordsOf z).length = (spl 44 z.cps.toList).length := by
      unfold wordsOf
      rw [← split_codes z (by decide), List.length_map]
    rw [h1]
    have := spl_len 44 z.cps.toList
    rw [← str_len] at this
    omega
  unfold colB at k1 k2
  unfold colV at k1
  generalize wordsOf z = ws at *
  have alli : ∀ l : List Str, (l.map isN).all id = l.all isN := fun l => by
    rw [List.all_map]; rfl
  refine ifcut1 fun A0 B0 hA hB => ?_
  have bad : (decide ((ws.length : Int) = v) && ws.all isN) = false → ∀ H2, Same H1 H2 → A0 H2 := fun hb H2 s12 => hA _ (by
    have s2 := s1.trans s12
    simp only [tSeq, tRaise]
    walk_at "rd"
    refine ⟨by omega, fun a ha => ⟨a, .int pl, rfl, upd_same, fun d hd hda => ⟨rfl, d, by rw [upd_ne (Ne.symm hda)]; exact upd_same, _, upd_same, ?_⟩⟩⟩
    have had : H2 d = none := by
      rw [upd_ne hda] at hd
      exact hd
    refine k2 hb a d _ ⟨upd_same, by rw [upd_ne hda, upd_same]⟩ fun c o hc => ?_
    have ca : c ≠ a := ne_of_none (s2 _ _ hc) ha
    have cd : c ≠ d := ne_of_none (s2 _ _ hc) had
    rw [upd_ne ca, upd_ne cd, upd_ne ca, upd_ne ca]
    exact s2 _ _ hc)
  have wat : ∀ (i : Nat) (x : V), (ws.map V.str)[i]? = some x → ∃ y, x = .str y ∧ ws[i]? = some y := by
    intro i x hx
    rw [List.getElem?_map] at hx
    cases hy : ws[i]? with
    | none => rw [hy] at hx; cases hx
    | some y => rw [hy] at hx; exact ⟨y, (Option.some.inj hx).symm, rfl⟩
  walk_at "rd"
  refine ⟨_, .inl (SqL.of hp1), ?_⟩
  rw [List.length_map]
  by_cases hv : (ws.length : Int) = v
  · rw [if_pos hv]
    refine rIt_lst (SqL.of hp1) (cloop_list (xs := ws.map V.str) (fun i ys H' => ys = ((ws.take i).map isN).map V.bl ∧ Same H1 H') (by rw [List.length_map]; omega) ⟨rfl, Same.refl _⟩ ?_ ?_ ?_ ?_)
    · rintro i ys H' ⟨rfl, sm⟩
      rw [List.length_map, List.length_map, List.length_take]
      omega
    · rintro i ys H' ⟨rfl, sm⟩
      exact SqL.of (sm _ _ hp1)
    · rintro i x ys H' hx ⟨rfl, sm⟩
      obtain ⟨y, rfl, hy⟩ := wat i x hx
      walk_at "rd"
      refine ⟨y, rfl, hw y (List.mem_of_getElem? hy), fun H2 s2 => ⟨?_, sm.trans s2⟩⟩
      rw [List.take_add_one, hy, List.map_append, List.map_append]
      rfl
    · rintro ys H2 ⟨rfl, sm⟩ p1 hp1'
      rw [List.length_map, List.take_length]
      refine ⟨_, SqL.of upd_same, ?_⟩
      rw [alli]
      have s2 : Same H1 (upd H2 p1 (.lst ((ws.map isN).map V.bl))) := sm.upd hp1'
      generalize upd H2 p1 (.lst ((ws.map isN).map V.bl)) = H3 at s2
      by_cases hall : ws.all isN = false
      · rw [if_pos hall]
        exact bad (by rw [hall, Bool.and_false]) _ s2
      · rw [if_neg hall]
        have hall' : ws.all isN = true := by simpa using hall
        refine hB _ ?_
        walk_at "rd"
        refine rIt_lst (SqL.of (s2 _ _ hp1)) (cloop_list (xs := ws.map V.str) (fun i ys H' => ys = (ws.take i).map nV ∧ Same H3 H') (by rw [List.length_map]; omega) ⟨rfl, Same.refl _⟩ ?_ ?_ ?_ ?_)
        · rintro i ys H' ⟨rfl, sm⟩
          rw [List.length_map, List.length_take]
          omega
        · rintro i ys H' ⟨rfl, sm⟩
          exact SqL.of (sm _ _ (s2 _ _ hp1))
        · rintro i x ys H' hx ⟨rfl, sm⟩
          obtain ⟨y, rfl, hy⟩ := wat i x hx
          walk_at "rd"
          refine ⟨y, rfl, List.all_eq_true.mp hall' y (List.mem_of_getElem? hy), fun H4 s4 => ⟨?_, sm.trans s4⟩⟩
          rw [List.take_add_one, hy, List.map_append]
          rfl
        · rintro ys H4 ⟨rfl, s4⟩ p2 hp2
          rw [List.length_map, List.take_length]
          exact ⟨_, .inl ⟨SqL.of upd_same, fun l hl => k1 (by rw [decide_eq_true hv, hall']; rfl) l _ upd_same ((((s1.trans s2).trans s4).upd hp2).upd hl)⟩⟩
  · rw [if_neg hv]
    exact bad (by rw [decide_eq_false hv, Bool.false_and]) _ (Same.refl _)
end
def piecesOf (z : Str) : List Str := if z = Str.ofString "" then [] else Txt.split z ⟨#[32]⟩
def badGo (v : Int) : List Str → Nat → Option Nat
  | [], _ => none
  | p :: ps, i => if colB v p = true then badGo v ps (i + 1) else some i
theorem badGo_some (v : Int) : ∀ (ws : List Str) (k i : Nat) (y : Str), (∀ (j : Nat) (x : Str), j < i → ws[j]? = some x → colB v x = true) → ws[i]? = some y → colB v y = false → badGo v ws k = some (k + i)
  | [], _, _, _, _, h, _ => by cases h
  | x :: ws, k, 0, y, _, h, hy => by
    cases h
    unfold badGo
    rw [if_neg (by rw [hy]; exact Bool.false_ne_true)]
    rfl
  | x :: ws, k, i + 1, y, hb, h, hy => by
    unfold badGo
    rw [if_pos (hb 0 x (Nat.succ_pos _) rfl), badGo_some v ws (k + 1) i y (fun j z hj hz => hb (j + 1) z (Nat.succ_lt_succ hj) hz) h hy]
    exact congrArg some (by omega)
theorem badGo_none (v : Int) : ∀ (ws : List Str) (k : Nat), (∀ (j : Nat) (x : Str), ws[j]? = some x → colB v x = true) → badGo v ws k = none
  | [], _, _ => rfl
  | x :: ws, k, h => by
    unfold badGo
    rw [if_pos (h 0 x rfl)]
    exact badGo_none v ws (k + 1) fun j z hz => h (j + 1) z hz
def TupsAt (H : Hp) (ps : List Addr) (ws : List Str) : Prop := ps.length = ws.length ∧ ∀ (j : Nat) (p : Addr) (y : Str), ps[j]? = some p → ws[j]? = some y → H p = some (.tup (colV y))
def spReadLine (C : Addr) : Sp := fun vs H Q E => ∃ (z : Str) (v : Int), vs = [.str z, .int v] ∧ z.length ≤ 10000 ∧
  (badGo v (piecesOf z) 0 = none → ∀ q ps H', H' q = some (.lst (ps.map V.ref)) → TupsAt H' ps (piecesOf z) → Same H H' → Q (.ref q) H') ∧
  (∀ i, badGo v (piecesOf z) 0 = some i → ∀ a d H', BadAt C i H' a d → Same H H' → E (.ref a) (some d) H')
section
variable {P : Program} {w : World} {K : PySem.W.Frag} {mg : Str → Option Value} {base : Heap} {aM : Addr}
theorem ok_read_line {f C : Addr} {fd : FuncData} (F : Fun K "read_line" "read_line" s_read_line f fd) (T : Txt mg aM) (DX_read_column : DefX P w K mg base "read_column" 3 ["piece", "voices", "place"] (spReadCol C)) : FnOk P w K mg base (CXW P w) 4 f fd ["text", "voices"] (spReadLine C) := by
  refine F.okX sc_read_line (fun vs H Q E h => ?_) (fun cdv A outer s H vs Q E hr h => ?_)
  · obtain ⟨z, v, rfl, _⟩ := h
    rfl
  obtain ⟨z, v, rfl, hz, k1, k2⟩ := h
  refine ⟨_, (pss_cons (ps_if (pt_j (pt_cmpR oEq (pr 0) pe_str (nomark _))) (pss_one (ps_ret (pe_lst pa_nil))) pss_nil)
  (pss_one (ps_ret (pe_compX (own := ["place", "piece"]) (js := [1]) rfl rfl (fun _ _ => leave_fn) rfl (pi_enumB rfl T.n_enumerate (pa_cons (pe_bmK K PySem.F.plainAttrs_str PySem.F.slot_str_split PySem.F.type_str_split mt_split (pr 0) (pa_cons pe_str pa_nil)) pa_nil)) (CompOk.of (by rfl)) (fun _ _ _ _ _ => (pg_tupK K (n := 2) rfl (pgs_cons (pg_name (i := 0) (show List.Nodup (["place", "piece", "voices"] : List Str) from by decide +kernel) rfl (Or.inl rfl)) (pgs_cons (pg_name (i := 1) (show List.Nodup (["place", "piece", "voices"] : List Str) from by decide +kernel) rfl (Or.inl rfl)) pgs_nil)))) (fun _ _ _ _ _ => pts_nil) (fun _ _ _ _ _ => (pe_defX DX_read_column hr (by rfl) passC (pa_cons (pr 1) (pa_cons (pr 2) (pa_cons (pr 0) pa_nil))))))))), ?_⟩
  have hs : sizeLine = 16777216 := sizeLine_eq
  refine ifcut1 fun A0 B0 hA hB => ?_
  walk_at "rd"
  by_cases h0 : z = Str.ofString ""
  · rw [if_pos h0]
    refine hA _ ?_
    walk_at "rd"
    unfold piecesOf at k1
    rw [if_pos h0] at k1
    exact ⟨by omega, fun p hp => k1 rfl p [] _ upd_same ⟨rfl, fun j p y e => by cases e⟩ (same_upd hp)⟩
  rw [if_neg h0]
  refine hB _ ?_
  unfold piecesOf at k1 k2
  rw [if_neg h0] at k1 k2
  walk_at "rd"
  have wle : ∀ y ∈ Txt.split z ⟨#[32]⟩, y.length ≤ 10000 := fun y hy => Nat.le_trans (word_le (by decide) hy) hz
  have wll : (Txt.split z ⟨#[32]⟩).length ≤ 10001 := by
    have h1 : (Txt.split z ⟨#[32]⟩).length = (spl 32 z.cps.toList).length := by rw [← split_codes z (by decide), List.length_map]
    rw [h1]
    have := spl_len 32 z.cps.toList
    rw [← str_len] at this
    omega
  refine ⟨32, blank_eq, by decide, by omega, fun p hp => ⟨true, ⟨_, SqL.of upd_same⟩, ?_⟩⟩
  generalize Txt.split z ⟨#[32]⟩ = ws at *
  have s1 : Same H (upd H p (HO.lst (List.map V.str ws))) := same_upd hp
  have l1 : (upd H p (HO.lst (List.map V.str ws))) p = some (.lst (ws.map V.str)) := upd_same
  generalize upd H p (HO.lst (List.map V.str ws)) = H1 at s1 l1
  refine cloop_enumB (l := true) (us := ws.map V.str) (fun i ys H' => ∃ ps : List Addr, ys = ps.map V.ref ∧ ps.length = i ∧ (∀ (j : Nat) (x : Str), j < i → ws[j]? = some x → colB v x = true) ∧ (∀ (j : Nat) (q : Addr) (y : Str), ps[j]? = some q → ws[j]? = some y → H' q = some (.tup (colV y))) ∧ Same H1 H')
    (by rw [List.length_map]; omega) ⟨[], rfl, rfl, fun j x h => absurd h (Nat.not_lt_zero _), fun j q y e => (by cases e), Same.refl _⟩ ?_ ?_ ?_ ?_
  · rintro i ys H' ⟨ps, rfl, hi, _⟩
    rw [List.length_map]; omega
  · rintro i ys H' ⟨ps, rfl, hi, _, _, sm⟩
    exact SqL.of (sm _ _ l1)
  · rintro i x ys H2 p2 hx ⟨ps, rfl, hi, hg, ht, sm⟩ hp2
    obtain ⟨y, rfl, hy⟩ : ∃ y, x = .str y ∧ ws[i]? = some y := by
      rw [List.getElem?_map] at hx
      cases hy : ws[i]? with
      | none => rw [hy] at hx; cases hx
      | some y => rw [hy] at hx; exact ⟨y, (Option.some.inj hx).symm, rfl⟩
    have s2 : Same H2 (upd H2 p2 (.tup [.int i, .str y])) := same_upd hp2
    simp only [cTurn]
    walk_at "rd"
    refine ⟨_, SqT.of upd_same, rfl, ?_⟩
    walk_at "rd"
    generalize upd H2 p2 (.tup [.int i, .str y]) = H3 at s2
    refine ⟨y, v, i, rfl, wle y (List.mem_of_getElem? hy), fun hb q H4 hq s4 => ?_, fun hb a d H4 hbad s4 => ?_⟩
    · refine ⟨ps ++ [q], by rw [List.map_append]; rfl, by simp [hi], fun j x hj hx' => ?_, fun j q' y' e1 e2 => ?_, (sm.trans s2).trans s4⟩
      · by_cases hji : j = i
        · subst hji
          rw [hy] at hx'
          cases hx'
          exact hb
        · exact hg j x (by omega) hx'
      · by_cases hj : j < ps.length
        · rw [List.getElem?_append_left hj] at e1
          exact s4 _ _ (s2 _ _ (ht j q' y' e1 e2))
        · rw [List.getElem?_append_right (by omega)] at e1
          have ej : j = ps.length := by
            have := (List.getElem?_eq_some_iff.mp e1).1
            simp at this
            omega
          rw [ej, Nat.sub_self] at e1
          cases e1
          rw [ej, hi, hy] at e2
          cases e2
          exact hq
    · have := badGo_some v ws 0 i y hg hy hb
      rw [Nat.zero_add] at this
      exact k2 i this a d H4 hbad (s1.trans ((sm.trans s2).trans s4))
  · rintro ys H2 ⟨ps, rfl, hi, hg, ht, sm⟩ p2 hp2
    rw [List.length_map] at hi hg
    refine k1 (badGo_none v ws 0 fun j x hx => hg j x (List.getElem?_eq_some_iff.mp hx).1 hx) p2 ps _ upd_same ⟨hi, fun j q y e1 e2 => ?_⟩ (s1.trans (sm.upd hp2))
    exact (same_upd hp2) _ _ (ht j q y e1 e2)
end
def numV (z : Str) : V := if isNum z.cps.toList = true then .int ((intText? z).getD 0) else .non
def spLNum : Sp := fun vs H Q _ => ∃ z, vs = [.str z] ∧ z.length ≤ 10000 ∧ ∀ H', Same H H' → Q (numV z) H'
section
variable {P : Program} {w : World} {K : PySem.W.Frag} {mg : Str → Option Value} {base : Heap} {aM : Addr}
theorem ok_lnum {f : Addr} {fd : FuncData} (F : Fun K "_law_number" "_law_number" s_law_number f fd) (T : Txt mg aM) : FnOk P w K mg base CX0 1 f fd ["_law_word"] spLNum := by
  refine F.ok sc_law_number (fun vs H Q E h => ?_) (fun cdv A outer s H vs Q E hr h => ?_)
  · obtain ⟨z, rfl, _⟩ := h
    rfl
  obtain ⟨z, rfl, hz, k⟩ := h
  refine ⟨_, (pss_cons (ps_set (i := 1) sc_law_number.nd rfl (Or.inl rfl) (pr 0))
  (pss_cons (ps_if (pt_j (pt_cmpR oEq (pe_slice (slAK K) (pr 0) po_none (po_j pe_int)) pe_str (nomark _))) (pss_one (ps_set (i := 1) sc_law_number.nd rfl (Or.inl rfl) (pe_slice (slAK K) (pr 0) (po_j pe_int) po_none))) pss_nil)
  (pss_cons (ps_if (PW.pt (pw_or (pt_j (pt_cmpR (o0 opLt) (pe_callB (call_lenK K) (by rfl) T.n_len boot_len (pa_cons (pr 1) pa_nil)) pe_int (nomark _))) (pw_or1 (pt_j (pt_cmpR (o0 op_gt) (pe_callB (call_lenK K) (by rfl) T.n_len boot_len (pa_cons (pr 1) pa_nil)) pe_int (nomark _)))))) (pss_one (ps_ret pe_non)) pss_nil)
  (pss_cons (ps_for PassesOwn.never rfl (pi_anyK K (pr 1)) (pg_name (i := 2) sc_law_number.nd rfl (Or.inl rfl))
  (pss_one (ps_if (pt_j (pt_cmpR (opNotInK K) (pr 2) pe_str (by with_unfolding_all rfl))) (pss_one (ps_ret pe_non)) pss_nil)))
  (pss_cons (ps_if (PW.pt (pw_and (pt_j (pt_cmpR oEq (pe_ix (ixAK K) (pr 1) pe_int (fun _ _ => rfl)) pe_str (nomark _))) (pw_and1 (pt_j (pt_cmpR oNe (pr 0) pe_str (nomark _)))))) (pss_one (ps_ret pe_non)) pss_nil)
  (pss_one (ps_ret (pe_callTy (call_intA) (by rfl) T.n_int boot_int (pa_cons (pr 0) pa_nil))))))))), ?_⟩
  have hs : sizeLine = 16777216 := sizeLine_eq
  have c45 : (Str.ofString "-").cps.toList = [45] := by decide +kernel
  have c48 : (Str.ofString "0").cps.toList = [48] := by decide +kernel
  have cF : (Str.ofString "0123456789").cps.toList = [48, 49, 50, 51, 52, 53, 54, 55, 56, 57] := by decide +kernel
  have kF : isNum z.cps.toList = false → Q .non H := fun e => by
    have := k H (Same.refl H)
    unfold numV at this
    rw [if_neg (by rw [e]; exact Bool.false_ne_true)] at this
    exact this
  refine cut2 (fun σ H' => σ = [some (.str z), some (.str z), none] ∧ H = H') ?_ (by intro u' hu; walk_at "rd"; exact hu _ _ ⟨rfl, rfl⟩)
  rintro _ _ ⟨rfl, rfl⟩
  refine cut2 (fun σ H' => ∃ y, σ = [some (.str z), some (.str y), none] ∧ H = H' ∧ y.cps.toList = figs z.cps.toList) ?_ ?_
  rotate_left
  · intro u' hu
    walk_at "rd"
    refine ⟨by omega, ?_⟩
    have e1 : (Txt.slice z none (some 1)).cps.toList = z.cps.toList.take 1 := slice_to (by decide)
    by_cases hm : Txt.slice z none (some 1) = Str.ofString "-"
    · rw [if_pos hm]
      refine ⟨by omega, hu _ _ ⟨_, rfl, rfl, ?_⟩⟩
      rw [slice_from (by decide)]
      rw [hm, c45] at e1
      unfold figs
      cases hh : z.cps.toList with
      | nil => rw [hh] at e1; cases e1
      | cons a l =>
        rw [hh] at e1
        have : a = 45 := by simpa using e1.symm
        subst this
        rfl
    · rw [if_neg hm]
      refine hu _ _ ⟨z, rfl, rfl, ?_⟩
      unfold figs
      rw [if_neg fun e => hm (str_iff.mpr ?_)]
      rw [e1, c45]
      cases hh : z.cps.toList with
      | nil => rw [hh] at e; cases e
      | cons a l => rw [hh] at e; cases e; rfl
  rintro _ _ ⟨y, rfl, rfl, hy⟩
  have hyl : y.length ≤ 10000 := by
    rw [str_len, hy]
    rw [str_len] at hz
    refine Nat.le_trans ?_ hz
    unfold figs
    split
    · rw [List.length_tail]; omega
    · exact Nat.le_refl _
  have ly : y.length = (figs z.cps.toList).length := by rw [str_len, hy]
  refine cut2 (fun σ H' => 1 ≤ y.length ∧ y.length ≤ 40 ∧ σ = [some (.str z), some (.str y), none] ∧ H = H') ?_ ?_
  rotate_left
  · intro u' hu
    walk_at "rd"
    refine ⟨by omega, ?_⟩
    by_cases h1 : (y.length : Int) < 1
    · rw [if_pos h1]
      refine kF ?_
      unfold isNum
      rw [decide_eq_false (show ¬ (1 ≤ (figs z.cps.toList).length) by omega), Bool.false_and]
    rw [if_neg h1]
    refine ⟨by omega, ?_⟩
    by_cases h2 : (40 : Int) < y.length
    · rw [if_pos h2]
      refine kF ?_
      unfold isNum
      rw [decide_eq_false (show ¬ ((figs z.cps.toList).length ≤ 40) by omega), Bool.false_and, Bool.and_false]
    rw [if_neg h2]
    exact hu _ _ ⟨by omega, by omega, rfl, rfl⟩
  rintro _ _ ⟨y1, y40, rfl, rfl⟩
  refine cut2 (fun σ H' => ∃ o, σ = [some (.str z), some (.str y), o] ∧ H = H' ∧ digs y.cps.toList = true) ?_ ?_
  rotate_left
  · intro u' hu
    walk_at "rd"
    refine rIt_str (loop_str (fun i σ H' => ∃ o, σ = [some (.str z), some (.str y), o] ∧ H = H' ∧ digs (y.cps.toList.take i) = true) ⟨none, rfl, rfl, rfl⟩ ?_ ?_)
    · rintro i c σ H1 hc ⟨o, rfl, rfl, hd⟩
      walk_at "rd"
      rw [cF]
      have et : y.cps.toList.take (i + 1) = y.cps.toList.take i ++ [c] := by
        rw [List.take_add_one, hc]; rfl
      split
      · rename_i hin
        rw [et]
        unfold digs at hd ⊢
        rw [List.all_append, hd]
        simpa using hin
      · rename_i hin
        refine kF (isNum_false _ ?_)
        rw [← hy]
        unfold digs
        rw [List.all_eq_false]
        exact ⟨c, List.mem_of_getElem? hc, by simpa using hin⟩
    · rintro σ H1 ⟨o, rfl, rfl, hd⟩
      rw [str_len, List.take_length] at hd
      exact hu _ _ ⟨o, rfl, rfl, hd⟩
  rintro _ _ ⟨o, rfl, rfl, hd⟩
  have hn : isNum z.cps.toList = (decide ((figs z.cps.toList).head? ≠ some 48) || decide (z.cps.toList = [48])) := by
    unfold isNum
    rw [decide_eq_true (show 1 ≤ (figs z.cps.toList).length by omega), decide_eq_true (show (figs z.cps.toList).length ≤ 40 by omega), ← hy, hd]
    rfl
  obtain ⟨a, l, hal⟩ : ∃ a l, y.cps.toList = a :: l := by
    cases hh : y.cps.toList with
    | nil => rw [str_len, hh] at y1; exact absurd y1 (by decide)
    | cons a l => exact ⟨a, l, rfl⟩
  refine cut2 (fun σ H' => isNum z.cps.toList = true ∧ σ = [some (.str z), some (.str y), o] ∧ H = H') ?_ ?_
  rotate_left
  · intro u' hu
    walk_at "rd"
    refine ⟨by omega, a, by rw [hal]; exact atI_zero rfl, ?_⟩
    rw [← hy, hal] at hn
    by_cases ha : a = 48
    · subst ha
      rw [if_pos (str_iff.mpr (by rw [c48]))]
      by_cases hz0 : z = Str.ofString "0"
      · rw [if_pos hz0]
        exact hu _ _ ⟨by rw [hn, decide_eq_true (show z.cps.toList = [48] by rw [hz0, c48]), Bool.or_true], rfl, rfl⟩
      · rw [if_neg hz0]
        refine kF ?_
        rw [hn, decide_eq_false (show ¬ (z.cps.toList = [48]) from fun e => hz0 (str_iff.mpr (by rw [e, c48]))), Bool.or_false]
        exact decide_eq_false fun h => h rfl
    · rw [if_neg fun e => ha (by have := str_iff.mp e; rw [c48] at this; simpa using this)]
      refine hu _ _ ⟨?_, rfl, rfl⟩
      rw [hn, decide_eq_true (show (a :: l).head? ≠ some 48 from fun e => ha (Option.some.inj e)), Bool.true_or]
  rintro _ _ ⟨hnum, rfl, rfl⟩
  walk_at "rd"
  obtain ⟨n, e, hl⟩ := isNum_int hnum
  have hk := k H (Same.refl H)
  unfold numV at hk
  rw [if_pos hnum, e] at hk
  exact ⟨n, e, hl, hk⟩
end
theorem atI_end {L : List V} {x : V} : atI (L ++ [x]) (-1) = some x := by
  unfold atI ixN
  rw [if_neg (by decide), if_pos (by rw [List.length_append]; simp; omega)]
  show (L ++ [x])[((-1 : Int) + ((L ++ [x]).length : Nat)).toNat]? = some x
  rw [show ((-1 : Int) + ((L ++ [x]).length : Nat)).toNat = L.length by rw [List.length_append]; simp; omega]
  simp
def spLCol : Sp := fun vs H Q _ => ∃ (z : Str) (v : Int), vs = [.str z, .int v] ∧ z.length ≤ 10000 ∧
  (colB v z = true → ∀ p H', H' p = some (.tup (colV z)) → H p = none → Same H H' → Q (.ref p) H') ∧ (colB v z = false → ∀ H', Same H H' → Q .non H')
section
variable {P : Program} {w : World} {K : PySem.W.Frag} {mg : Str → Option Value} {base : Heap} {aM : Addr}
theorem ok_lcol {f : Addr} {fd : FuncData} (F : Fun K "_law_column" "_law_column" s_law_column f fd) (T : Txt mg aM) (D_law_number : Def P w K mg base "_law_number" 1 ["_law_word"] spLNum) : FnOk P w K mg base CX0 2 f fd ["_law_piece_here", "_law_voices"] spLCol := by
  refine F.ok sc_law_column (fun vs H Q E h => ?_) (fun cdv A outer s H vs Q E hr h => ?_)
  · obtain ⟨z, v, rfl, _⟩ := h
    rfl
  obtain ⟨z, v, rfl, hz, k1, k2⟩ := h
  refine ⟨_, (pss_cons (ps_set (i := 2) sc_law_column.nd rfl (Or.inl rfl) (pe_bmK K PySem.F.plainAttrs_str PySem.F.slot_str_split PySem.F.type_str_split mt_split (pr 0) (pa_cons pe_str pa_nil)))
  (pss_cons (ps_if (pt_j (pt_cmpR oNe (pe_callB (call_lenK K) (by rfl) T.n_len boot_len (pa_cons (pr 2) pa_nil)) (pr 1) (nomark _))) (pss_one (ps_ret pe_non)) pss_nil)
  (pss_cons (ps_set (i := 3) sc_law_column.nd rfl (Or.inl rfl) (pe_lst pa_nil))
  (pss_cons (ps_for PassesOwn.never rfl (pi_anyK K (pr 2)) (pg_name (i := 4) sc_law_column.nd rfl (Or.inl rfl))
  (pss_one (ps_if (pt_j (pt_cmpR oEq (pr 4) pe_str (nomark _))) (pss_one (ps_expr (pe_bmK K PySem.F.plainAttrs_list PySem.F.slot_list_append PySem.F.type_list_append mt_append (pr 3) (pa_cons pe_non pa_nil)))) (pss_cons (ps_expr (pe_bmK K PySem.F.plainAttrs_list PySem.F.slot_list_append PySem.F.type_list_append mt_append (pr 3) (pa_cons (pe_def D_law_number hr (by rfl) (pa_cons (pr 4) pa_nil)) pa_nil)))
  (pss_one (ps_if (pt_j (pt_cmpR op_isN (pe_ix (ixAK K) (pr 3) (pe_un (u1 un_neg) pe_int) (fun _ _ => rfl)) pe_non (nomark _))) (pss_one (ps_ret pe_non)) pss_nil))))))
  (pss_one (ps_ret (pe_callTy (call_tupleK K) (by rfl) T.n_tuple boot_tuple (pa_cons (pr 3) pa_nil)))))))), ?_⟩
  have hs : sizeLine = 16777216 := sizeLine_eq
  refine cut2 (fun σ H' => ∃ p : Addr, H' p = some (.lst ((wordsOf z).map V.str)) ∧ σ = [some (.str z), some (.int v), some (.ref p), none, none] ∧ Same H H') ?_ ?_
  rotate_left
  · intro u' hu
    walk_at "rd"
    exact ⟨44, comma_eq, by decide, by omega, fun p hp => hu _ _ ⟨p, upd_same, rfl, same_upd hp⟩⟩
  rintro _ H1 ⟨p, hp1, rfl, s1⟩
  have hw : ∀ y ∈ wordsOf z, y.length ≤ 10000 := fun y hy => Nat.le_trans (word_le (by decide) hy) hz
  have hl : (wordsOf z).length ≤ 10001 := by
    have h1 : (wordsOf z).length = (spl 44 z.cps.toList).length := by
      unfold wordsOf
      rw [← split_codes z (by decide), List.length_map]
    rw [h1]
    have := spl_len 44 z.cps.toList
    rw [← str_len] at this
    omega
  unfold colB at k1 k2
  unfold colV at k1
  generalize wordsOf z = ws at *
  refine cut2 (fun σ H' => (ws.length : Int) = v ∧ σ = [some (.str z), some (.int v), some (.ref p), none, none] ∧ H1 = H') ?_ ?_
  rotate_left
  · intro u' hu
    walk_at "rd"
    refine ⟨_, .inl (SqL.of hp1), ?_⟩
    rw [List.length_map]
    by_cases hv : (ws.length : Int) = v
    · rw [if_pos hv]
      exact hu _ _ ⟨hv, rfl, rfl⟩
    · rw [if_neg hv]
      exact k2 (by rw [decide_eq_false hv, Bool.false_and]) _ s1
  rintro _ _ ⟨hv, rfl, rfl⟩
  rw [decide_eq_true hv, Bool.true_and] at k1 k2
  refine cut2 (fun σ H' => ∃ c : Addr, H1 c = none ∧ H' c = some (.lst []) ∧ σ = [some (.str z), some (.int v), some (.ref p), some (.ref c), none] ∧ Same H1 H') ?_ ?_
  rotate_left
  · intro u' hu
    walk_at "rd"
    exact ⟨by omega, fun c hc => hu _ _ ⟨c, hc, upd_same, rfl, same_upd hc⟩⟩
  rintro _ H2 ⟨c, hc1, hc2, rfl, s2⟩
  refine cut2 (fun σ H' => ∃ o, ws.all isN = true ∧ H' c = some (.lst (ws.map nV)) ∧ σ = [some (.str z), some (.int v), some (.ref p), some (.ref c), o] ∧ Same H1 H') ?_ ?_
  rotate_left
  · intro u' hu
    walk_at "rd"
    refine rIt_lst (SqL.of (s2 _ _ hp1)) (loop_list (xs := ws.map V.str) (fun i σ H' => ∃ o, σ = [some (.str z), some (.int v), some (.ref p), some (.ref c), o] ∧ (ws.take i).all isN = true ∧ H' c = some (.lst ((ws.take i).map nV)) ∧ Same H1 H') ⟨none, rfl, rfl, hc2, s2⟩ (fun i σ H' _ z => by obtain ⟨_, _, _, _, z⟩ := z; exact SqL.of (z _ _ hp1)) ?_ ?_)
    · rintro i x σ H3 hx ⟨o, rfl, ha, hc3, s3⟩
      obtain ⟨y, rfl, hy⟩ : ∃ y, x = .str y ∧ ws[i]? = some y := by
        rw [List.getElem?_map] at hx
        cases hy : ws[i]? with
        | none => rw [hy] at hx; cases hx
        | some y => rw [hy] at hx; exact ⟨y, (Option.some.inj hx).symm, rfl⟩
      have et : ws.take (i + 1) = ws.take i ++ [y] := by rw [List.take_add_one, hy]; rfl
      have hi : (ws.take i).length ≤ 10001 := by rw [List.length_take]; omega
      have upc : ∀ (H4 : Hp) (x : HO), Same H1 H4 → Same H1 (upd H4 c x) := fun H4 x s4 b o hb => by
        rw [upd_ne (ne_of_none hb hc1)]
        exact s4 _ _ hb
      walk_at "rd"
      by_cases hd : y = Str.ofString "."
      · rw [if_pos hd]
        refine ⟨.inl ⟨rfl, _, SqL.of hc3⟩, _, _, _, rfl, rfl, hc3, by rw [List.length_map]; omega, ?_⟩
        refine ⟨?_, ?_, upc _ _ s3⟩
        · rw [et, List.all_append, ha, hd]
          have : isN (Str.ofString ".") = true := by
            unfold isN
            rw [dot_codes]
            rfl
          simp [this]
        · rw [upd_same, et, List.map_append, hd]
          have : nV (Str.ofString ".") = .non := by unfold nV; rw [if_pos rfl]
          simp [this]
      · rw [if_neg hd]
        have eN : isN y = isNum y.cps.toList := by
          unfold isN
          rw [decide_eq_false (fun e => hd (str_iff.mpr (by rw [e, dot_codes]))), Bool.false_or]
        refine ⟨.inl ⟨rfl, _, SqL.of hc3⟩, y, rfl, hw y (List.mem_of_getElem? hy), fun H4 s4 => ?_⟩
        have hc4 := s4 _ _ hc3
        refine ⟨_, _, _, rfl, rfl, hc4, by rw [List.length_map]; omega, ?_⟩
        walk_at "rd"
        refine rIx_l (SqL.of upd_same) atI_end ?_
        by_cases hn : isNum y.cps.toList = true
        · have e1 : numV y = nV y := by
            unfold numV nV
            rw [if_pos hn, if_neg hd]
          have e2 : ¬ (numV y = .non) := fun e => by
            unfold numV at e
            rw [if_pos hn] at e
            cases e
          rw [if_neg e2, e1]
          refine ⟨?_, ?_, upc _ _ (s3.trans s4)⟩
          · rw [et, List.all_append, ha]
            simp [eN, hn]
          · rw [upd_same, et, List.map_append]
            rfl
        · have hn' : isNum y.cps.toList = false := by simpa using hn
          have e2 : numV y = .non := by
            unfold numV
            rw [if_neg hn]
          rw [if_pos e2]
          refine k2 ?_ _ (s1.trans (upc _ _ (s3.trans s4)))
          rw [List.all_eq_false]
          exact ⟨y, List.mem_of_getElem? hy, by rw [eN, hn']; exact Bool.false_ne_true⟩
    · rintro σ H3 ⟨o, rfl, ha, hc3, s3⟩
      rw [List.length_map, List.take_length] at ha hc3
      exact hu _ _ ⟨o, ha, hc3, rfl, s3⟩
  rintro _ H3 ⟨o, ha, hc3, rfl, s3⟩
  walk_at "rd"
  exact ⟨_, .inl ⟨SqL.of hc3, fun l hl => k1 ha l _ upd_same ((s1.trans s3).free hl) ((s1.trans s3).upd hl)⟩⟩
end
theorem boot_ValueError : bootBuiltins "ValueError" = some (.type "ValueError") := PyProof.Rows.Boot.«ValueError»
structure TxtX (mg : Str → Option Value) (aM : Addr) (K : PySem.W.Frag) (C cS c1 c2 c3 c4 c5 c6 c7 c8 c9 cA cB : Addr) : Prop extends Txt mg aM where
  c_ScoreError : ∃ u, mg "ScoreError" = some u ∧ RelV (.ref cS) u
  c_BadRow : ∃ u, mg "BadRow" = some u ∧ RelV (.ref c1) u
  c_Unlike : ∃ u, mg "Unlike" = some u ∧ RelV (.ref c2) u
  c_Unfit : ∃ u, mg "Unfit" = some u ∧ RelV (.ref c3) u
  c_NoLine : ∃ u, mg "NoLine" = some u ∧ RelV (.ref c4) u
  c_Apart : ∃ u, mg "Apart" = some u ∧ RelV (.ref c5) u
  c_Crowded : ∃ u, mg "Crowded" = some u ∧ RelV (.ref c6) u
  c_Endless : ∃ u, mg "Endless" = some u ∧ RelV (.ref c7) u
  c_NoName : ∃ u, mg "NoName" = some u ∧ RelV (.ref c8) u
  c_NoNumber : ∃ u, mg "NoNumber" = some u ∧ RelV (.ref c9) u
  c_NoRow : ∃ u, mg "NoRow" = some u ∧ RelV (.ref cA) u
  c_TooWide : ∃ u, mg "TooWide" = some u ∧ RelV (.ref cB) u
  kS : PySem.W.kitOne K (.ref C) (.ref cS) = some true
  kV : PySem.W.kitOne K (.ref C) (.type "ValueError") = some true
  k1 : PySem.W.kitOne K (.ref C) (.ref c1) = some false
  k2 : PySem.W.kitOne K (.ref C) (.ref c2) = some false
  k3 : PySem.W.kitOne K (.ref C) (.ref c3) = some false
  k4 : PySem.W.kitOne K (.ref C) (.ref c4) = some false
  k5 : PySem.W.kitOne K (.ref C) (.ref c5) = some false
  k6 : PySem.W.kitOne K (.ref C) (.ref c6) = some false
  k7 : PySem.W.kitOne K (.ref C) (.ref c7) = some false
  k8 : PySem.W.kitOne K (.ref C) (.ref c8) = some false
  k9 : PySem.W.kitOne K (.ref C) (.ref c9) = some false
  kA : PySem.W.kitOne K (.ref C) (.ref cA) = some false
  kB : PySem.W.kitOne K (.ref C) (.ref cB) = some false
def spRefusal (C : Addr) : Sp := fun vs H Q _ => ∃ (a d : Addr) (pl q : Int), vs = [.ref a, .int q] ∧ BadAt C pl H a d ∧ ∀ H', Same H H' → Q (.bl (decide (pl = q))) H'
section
variable {P : Program} {w : World} {K : PySem.W.Frag} {mg : Str → Option Value} {base : Heap} {aM : Addr}
theorem ok_refusal {f C cS c1 c2 c3 c4 c5 c6 c7 c8 c9 cA cB : Addr} {fd : FuncData} (F : Fun K "_law_refusal" "_law_refusal" s_law_refusal f fd) (T : TxtX mg aM K C cS c1 c2 c3 c4 c5 c6 c7 c8 c9 cA cB) (DE_BadLine : DefE P w K mg base "BadLine" C 1 ["self", "place"] (spX1 C "place") no4) : FnOk P w K mg base CX0 1 f fd ["_law_e", "_law_place"] (spRefusal C) := by
  refine F.ok sc_law_refusal (fun vs H Q E h => ?_) (fun cdv A outer s H vs Q E hr h => ?_)
  · obtain ⟨a, d, pl, q, rfl, _⟩ := h
    rfl
  obtain ⟨a, d, pl, q, rfl, ⟨ha, hd⟩, k⟩ := h
  refine ⟨_, (pss_cons (ps_if (PW.pt (pw_or (pt_not (pt_truth (pe_callB (call_isiD K DE_BadLine (by decide +kernel) (by decide +kernel) (by decide +kernel)) (by rfl) T.n_isinstance boot_isinstance (pa_cons (pr 0) (pa_cons (pe_g T.c_ScoreError) pa_nil))) (fun _ => rfl))) (pw_or1 (pt_not (pt_truth (pe_callB (call_isiD K DE_BadLine (by decide +kernel) (by decide +kernel) (by decide +kernel)) (by rfl) T.n_isinstance boot_isinstance (pa_cons (pr 0) (pa_cons (pe_bltn (v := .ty "ValueError") (by rfl) T.n_ValueError boot_ValueError rfl) pa_nil))) (fun _ => rfl)))))) (pss_one (ps_ret pe_bl)) pss_nil)
  (pss_cons (ps_set (i := 2) sc_law_refusal.nd rfl (Or.inl rfl) (pe_lst (pa_cons (pe_callB (call_isiD K DE_BadLine (by decide +kernel) (by decide +kernel) (by decide +kernel)) (by rfl) T.n_isinstance boot_isinstance (pa_cons (pr 0) (pa_cons (pe_g T.c_BadRow) pa_nil))) (pa_cons (pe_callB (call_isiD K DE_BadLine (by decide +kernel) (by decide +kernel) (by decide +kernel)) (by rfl) T.n_isinstance boot_isinstance (pa_cons (pr 0) (pa_cons (pe_g T.c_Unlike) pa_nil))) (pa_cons (pe_callB (call_isiD K DE_BadLine (by decide +kernel) (by decide +kernel) (by decide +kernel)) (by rfl) T.n_isinstance boot_isinstance (pa_cons (pr 0) (pa_cons (pe_g T.c_Unfit) pa_nil))) (pa_cons (pe_callB (call_isiD K DE_BadLine (by decide +kernel) (by decide +kernel) (by decide +kernel)) (by rfl) T.n_isinstance boot_isinstance (pa_cons (pr 0) (pa_cons (pe_g T.c_NoLine) pa_nil))) pa_nil))))))
  (pss_cons (ps_set (i := 2) sc_law_refusal.nd rfl (Or.inl rfl) (pe_op (oAdd K) (pr 2) (pe_lst (pa_cons (pe_callB (call_isiD K DE_BadLine (by decide +kernel) (by decide +kernel) (by decide +kernel)) (by rfl) T.n_isinstance boot_isinstance (pa_cons (pr 0) (pa_cons (pe_g T.c_Apart) pa_nil))) (pa_cons (pe_callB (call_isiD K DE_BadLine (by decide +kernel) (by decide +kernel) (by decide +kernel)) (by rfl) T.n_isinstance boot_isinstance (pa_cons (pr 0) (pa_cons (pe_g T.c_Crowded) pa_nil))) (pa_cons (pe_callB (call_isiD K DE_BadLine (by decide +kernel) (by decide +kernel) (by decide +kernel)) (by rfl) T.n_isinstance boot_isinstance (pa_cons (pr 0) (pa_cons (pe_g T.c_Endless) pa_nil))) (pa_cons (pe_callB (call_isiD K DE_BadLine (by decide +kernel) (by decide +kernel) (by decide +kernel)) (by rfl) T.n_isinstance boot_isinstance (pa_cons (pr 0) (pa_cons (pe_g T.c_NoName) pa_nil))) pa_nil)))))))
  (pss_cons (ps_if (pt_truth (pe_callB (call_anyK K rfl) (by rfl) T.n_any boot_any (pa_cons (pe_op (oAdd K) (pr 2) (pe_lst (pa_cons (pe_callB (call_isiD K DE_BadLine (by decide +kernel) (by decide +kernel) (by decide +kernel)) (by rfl) T.n_isinstance boot_isinstance (pa_cons (pr 0) (pa_cons (pe_g T.c_NoNumber) pa_nil))) (pa_cons (pe_callB (call_isiD K DE_BadLine (by decide +kernel) (by decide +kernel) (by decide +kernel)) (by rfl) T.n_isinstance boot_isinstance (pa_cons (pr 0) (pa_cons (pe_g T.c_NoRow) pa_nil))) (pa_cons (pe_callB (call_isiD K DE_BadLine (by decide +kernel) (by decide +kernel) (by decide +kernel)) (by rfl) T.n_isinstance boot_isinstance (pa_cons (pr 0) (pa_cons (pe_g T.c_TooWide) pa_nil))) pa_nil))))) pa_nil)) (fun _ => rfl)) (pss_one (ps_ret pe_bl)) pss_nil)
  (pss_one (ps_ret (pe_ja (pe_and (pe_callB (call_isinstK K) (by rfl) T.n_isinstance boot_isinstance (pa_cons (pe_fldD DE_BadLine (by decide +kernel) (by decide +kernel) (by decide +kernel) lkV_place (pr 0) rfl) (pa_cons (pe_bltn (v := .ty "int") (by rfl) T.n_int boot_int rfl) pa_nil))) (pe_ja (pe_and (pe_jn (pe_not (pe_callB (call_isinstK K) (by rfl) T.n_isinstance boot_isinstance (pa_cons (pe_fldD DE_BadLine (by decide +kernel) (by decide +kernel) (by decide +kernel) lkV_place (pr 0) rfl) (pa_cons (pe_bltn (v := .ty "bool") (by rfl) T.n_bool boot_bool rfl) pa_nil))))) (pe_one (pe_cmpR oEq (pe_fldD DE_BadLine (by decide +kernel) (by decide +kernel) (by decide +kernel) lkV_place (pr 0) rfl) (pr 1) (nomark _))))))))))))), ?_⟩
  have hs : sizeLine = 16777216 := sizeLine_eq
  have isi : ∀ {c : Addr} {b : Bool} {H' : Hp} {Q' : VK}, Same H H' → PySem.W.kitOne K (.ref C) (.ref c) = some b → Q' (.bl b) H' → rIsi K C [.ref a, .ref c] H' Q' := fun {c b H' Q'} s e q => ⟨a, d, _, _, _, rfl, s _ _ ha, rfl, fun u' h => h, e, q⟩
  refine cut2 (fun σ H' => σ = [some (.ref a), some (.int q), none] ∧ H = H') ?_ ?_
  rotate_left
  · intro u' hu
    walk_at "rd"
    refine isi (Same.refl H) T.kS ?_
    walk_at "rd"
    refine ⟨a, d, _, _, _, rfl, ha, rfl, fun u' h => h, T.kV, true, TruV_b.mpr rfl, ?_⟩
    rw [if_neg (show ¬ (true = false) from fun z => by cases z)]
    exact hu _ _ ⟨rfl, rfl⟩
  rintro _ _ ⟨rfl, rfl⟩
  refine cut2 (fun σ H' => ∃ p : Addr, H' p = some (.lst ((List.replicate 4 false).map V.bl)) ∧ σ = [some (.ref a), some (.int q), some (.ref p)] ∧ Same H H') ?_ ?_
  rotate_left
  · intro u' hu
    walk_at "rd"
    exact isi (Same.refl H) T.k1 (isi (Same.refl H) T.k2 (isi (Same.refl H) T.k3 (isi (Same.refl H) T.k4 ⟨by omega, fun p hp => hu _ _ ⟨p, upd_same, rfl, same_upd hp⟩⟩)))
  rintro _ H1 ⟨p, hp, rfl, s1⟩
  refine cut2 (fun σ H' => ∃ p : Addr, H' p = some (.lst ((List.replicate 8 false).map V.bl)) ∧ σ = [some (.ref a), some (.int q), some (.ref p)] ∧ Same H H') ?_ ?_
  rotate_left
  · intro u' hu
    walk_at "rd"
    refine isi s1 T.k5 (isi s1 T.k6 (isi s1 T.k7 (isi s1 T.k8 ⟨by omega, fun p1 hp1 => ?_⟩)))
    refine rAddA_ll ((same_upd hp1) _ _ hp) upd_same (by simp; omega) fun p2 hp2 => ?_
    exact hu _ _ ⟨p2, upd_same, rfl, (s1.upd hp1).upd hp2⟩
  rintro _ H2 ⟨p2, hp2, rfl, s2⟩
  refine cut2 (fun σ H' => σ = [some (.ref a), some (.int q), some (.ref p2)] ∧ Same H H') ?_ ?_
  rotate_left
  · intro u' hu
    walk_at "rd"
    refine isi s2 T.k9 (isi s2 T.kA (isi s2 T.kB ⟨by omega, fun p1 hp1 => ?_⟩))
    refine rAddA_ll ((same_upd hp1) _ _ hp2) upd_same (by simp; omega) fun p3 hp3 => ?_
    refine ⟨p3, rfl, List.replicate 11 false, SqL.of upd_same, ?_⟩
    rw [if_neg (by decide)]
    exact hu _ _ ⟨rfl, (s2.upd hp1).upd hp3⟩
  rintro _ H3 ⟨rfl, s3⟩
  walk_at "rd"
  have fld : ∀ {Q' : VK}, Q' (.int pl) H3 → tFldX C (tRd 0) (Str.ofString "place") [some (.ref a), some (.int q), some (.ref p2)] H3 Q' := fun {Q'} q' => ⟨a, d, _, _, rfl, s3 _ _ ha, s3 _ _ hd, by simp [List.lookup], q'⟩
  refine fld ⟨_, .int _, true, rfl, ?_⟩
  rw [if_pos rfl]
  refine fld ⟨_, .int _, false, rfl, ?_⟩
  rw [if_pos rfl]
  exact fld (rEq_ii.mpr (k _ s3))
end
def spTx (m : Nat) : Sp := fun vs H Q _ => ∃ c, vs = [.int c] ∧ 0 ≤ c ∧ c.natAbs < 2 ^ 1800 ∧ ∀ z H', z.length ≤ m → Same H H' → Q (.str z) H'
theorem log2_40 {n : Int} (h : n.natAbs < 10 ^ 40) : n.natAbs.log2 < 1920 := by
  by_cases h0 : n.natAbs = 0
  · rw [h0]; decide
  · exact (Nat.log2_lt h0).mpr (Nat.lt_of_lt_of_le h (by decide +kernel))
theorem numS_le {n : Int} (h : n.natAbs < 10 ^ 40) : (numS n).length ≤ 41 := by
  rw [str_len]
  exact numC_len (k := 40) (by decide) h
theorem app_len (a b : Str) : (a ++ b).length = a.length + b.length := by
  show (a.cps ++ b.cps).size = a.cps.size + b.cps.size
  exact Array.size_append
section
variable {P : Program} {w : World} {K : PySem.W.Frag} {mg : Str → Option Value} {base : Heap} {aM : Addr}
theorem ok_sign {f : Addr} {fd : FuncData} (F : Fun K "_law_sign" "_law_sign" s_law_sign f fd) (T : Txt mg aM) : FnOk P w K mg base CX0 1 f fd ["_law_cell"] (spTx 1) := by
  refine F.ok sc_law_sign (fun vs H Q E h => ?_) (fun cdv A outer s H vs Q E hr h => ?_)
  · obtain ⟨c, rfl, _⟩ := h
    rfl
  obtain ⟨c, rfl, h0, hB, k⟩ := h
  refine ⟨_, (pss_cons (ps_set (i := 1) sc_law_sign.nd rfl (Or.inl rfl) pe_str)
  (pss_cons (ps_set (i := 1) sc_law_sign.nd rfl (Or.inl rfl) (pe_op (oAdd K) (pr 1) pe_str))
  (pss_one (ps_ret (pe_ix (ixAK K) (pr 1) (pe_op (o1 op_mod) (pr 0) (pe_callB (call_lenK K) (by rfl) T.n_len boot_len (pa_cons (pr 1) pa_nil))) (fun _ _ => rfl)))))), ?_⟩
  walk_at "rd"
  have hs : sizeLine = 16777216 := sizeLine_eq
  generalize hz : (Str.ofString "zyxwvutsrqponmlkjihgfedcba9876543210-.,ZYXWVUTSRQPONMLKJIHGFEDCBA" ++ Str.ofString " +_*/=<>()[]{}|~^&#@!?;:'\"$\\\n`") = z
  have hl : 0 < z.length ∧ z.length ≤ 1000 := by subst hz; decide +kernel
  have hl' : (Str.ofString "zyxwvutsrqponmlkjihgfedcba9876543210-.,ZYXWVUTSRQPONMLKJIHGFEDCBA").length + (Str.ofString " +_*/=<>()[]{}|~^&#@!?;:'\"$\\\n`").length ≤ 1000 := by decide +kernel
  obtain ⟨ch, hch⟩ := atI_mod (xs := z.cps.toList) (c := c) (m := (z.length : Int)) (by omega) (by simp [Str.length])
  exact ⟨by omega, by omega, by omega, by omega, ch, hch, k _ _ (Nat.le_refl _) (Same.refl _)⟩
theorem ok_note {f : Addr} {fd : FuncData} (F : Fun K "_law_note" "_law_note" s_law_note f fd) (T : Txt mg aM) : FnOk P w K mg base CX0 1 f fd ["_law_cell"] (spTx 41) := by
  refine F.ok sc_law_note (fun vs H Q E h => ?_) (fun cdv A outer s H vs Q E hr h => ?_)
  · obtain ⟨c, rfl, _⟩ := h
    rfl
  obtain ⟨c, rfl, h0, hB, k⟩ := h
  refine ⟨_, (pss_cons (ps_if (pt_j (pt_cmpR oEq (pe_op (o1 op_mod) (pr 0) pe_int) pe_int (nomark _))) (pss_one (ps_ret pe_str)) pss_nil)
  (pss_cons (ps_if (pt_j (pt_cmpR oEq (pe_op (o1 op_mod) (pr 0) pe_int) pe_int (nomark _))) (pss_one (ps_ret (pe_callTy (call_strB) (by rfl) T.n_str boot_str (pa_cons (pe_op (oAdd K) (pe_op (o1 op_pow) pe_int pe_int) (pe_op (o1 op_mod) (pe_op (o1 op_fdiv) (pr 0) pe_int) (pe_op (o1 op_pow) pe_int pe_int))) pa_nil)))) pss_nil)
  (pss_one (ps_ret (pe_callTy (call_strB) (by rfl) T.n_str boot_str (pa_cons (pe_op (o0 op_sub) (pe_op (o1 op_mod) (pe_op (o1 op_fdiv) (pr 0) pe_int) pe_int) pe_int) pa_nil)))))), ?_⟩
  walk_at "rd"
  refine ⟨by decide, ?_⟩
  by_cases h1 : c % 5 = 1
  · rw [if_pos h1]
    exact k _ _ (by decide +kernel) (Same.refl _)
  rw [if_neg h1]
  refine ⟨by decide, ?_⟩
  by_cases h2 : c % 5 = 2
  · rw [if_pos h2]
    have e39 : (10 : Int) ^ Int.toNat 39 = 1000000000000000000000000000000000000000 := by decide +kernel
    have e30 : (10 : Int) ^ Int.toNat 30 = 1000000000000000000000000000000 := by decide +kernel
    rw [e39, e30]
    have m0 := Int.emod_nonneg (c / 5) (show (1000000000000000000000000000000 : Int) ≠ 0 by decide)
    have m1 := Int.emod_lt_of_pos (c / 5) (show (0 : Int) < 1000000000000000000000000000000 by decide)
    have hb : (1000000000000000000000000000000000000000 + c / 5 % 1000000000000000000000000000000 : Int).natAbs < 10 ^ 40 := by
      have e40 : (10 : Nat) ^ 40 = 10000000000000000000000000000000000000000 := by decide +kernel
      omega
    exact ⟨⟨by decide, by decide, by decide⟩, ⟨by decide, by decide⟩, ⟨by decide, by decide, by decide⟩, by decide, log2_40 hb, k _ _ (numS_le hb) (Same.refl _)⟩
  · rw [if_neg h2]
    have hb : (c / 5 % 199 - 99 : Int).natAbs < 10 ^ 40 := by
      have e40 : (10 : Nat) ^ 40 = 10000000000000000000000000000000000000000 := by decide +kernel
      omega
    exact ⟨⟨by decide, by decide⟩, by decide, log2_40 hb, k _ _ (numS_le hb) (Same.refl _)⟩
theorem ok_bad_note {f : Addr} {fd : FuncData} (F : Fun K "_law_bad_note" "_law_bad_note" s_law_bad_note f fd) (T : Txt mg aM) (D_law_sign : Def P w K mg base "_law_sign" 1 ["_law_cell"] (spTx 1)) : FnOk P w K mg base CX0 2 f fd ["_law_cell"] (spTx 44) := by
  refine F.ok sc_law_bad_note (fun vs H Q E h => ?_) (fun cdv A outer s H vs Q E hr h => ?_)
  · obtain ⟨c, rfl, _⟩ := h
    rfl
  obtain ⟨c, rfl, h0, hB, k⟩ := h
  refine ⟨_, (pss_cons (ps_set (i := 1) sc_law_bad_note.nd rfl (Or.inl rfl) (pe_op (o1 op_mod) (pr 0) pe_int))
  (pss_cons (ps_set (i := 2) sc_law_bad_note.nd rfl (Or.inl rfl) (pe_callTy (call_strB) (by rfl) T.n_str boot_str (pa_cons (pe_op (o1 op_mod) (pe_op (o1 op_fdiv) (pr 0) pe_int) pe_int) pa_nil)))
  (pss_cons (ps_if (pt_j (pt_cmpR oEq (pr 1) pe_int (nomark _))) (pss_one (ps_ret (pe_op (oMul K) pe_str pe_int))) pss_nil)
  (pss_cons (ps_if (pt_j (pt_cmpR oEq (pr 1) pe_int (nomark _))) (pss_one (ps_ret (pe_op (oAdd K) pe_str (pr 2)))) pss_nil)
  (pss_cons (ps_if (pt_j (pt_cmpR oEq (pr 1) pe_int (nomark _))) (pss_one (ps_ret (pe_ix (ixAK K) (pe_lst (pa_consts (vs := [.str (Str.ofString "-0"), .str (Str.ofString "-"), .str (Str.ofString "--1"), .str (Str.ofString "+1"), .str (Str.ofString ".."), .str (Str.ofString "1.0")]) rfl)) (pe_op (o1 op_mod) (pe_op (o1 op_fdiv) (pr 0) pe_int) pe_int) (fun _ _ => rfl)))) pss_nil)
  (pss_cons (ps_if (pt_j (pt_cmpR oEq (pr 1) pe_int (nomark _))) (pss_one (ps_ret (pe_def D_law_sign hr (by rfl) (pa_cons (pe_op (o1 op_fdiv) (pr 0) pe_int) pa_nil)))) pss_nil)
  (pss_cons (ps_if (pt_j (pt_cmpR oEq (pr 1) pe_int (nomark _))) (pss_one (ps_ret (pe_op (oAdd K) (pe_op (oAdd K) (pe_slice (slAK K) (pr 2) po_none (po_j pe_int)) (pe_ix (ixAK K) pe_str (pe_op (o1 op_mod) (pe_op (o1 op_fdiv) (pr 0) pe_int) pe_int) (fun _ _ => rfl))) (pe_slice (slAK K) (pr 2) (po_j pe_int) po_none)))) pss_nil)
  (pss_one (ps_ret pe_str))))))))), ?_⟩
  walk_at "rd"
  have hs : sizeLine = 16777216 := sizeLine_eq
  have hb : (c / 6 % 100 : Int).natAbs < 10 ^ 40 := by
    have e40 : (10 : Nat) ^ 40 = 10000000000000000000000000000000000000000 := by decide +kernel
    omega
  have hl := numS_le hb
  refine ⟨by decide, ⟨by decide, by decide⟩, by decide, log2_40 hb, ?_⟩
  generalize numS (c / 6 % 100) = y at hl
  have o1 : (Str.ofString "0").length = 1 := by decide +kernel
  by_cases w0 : c % 6 = 0
  · rw [if_pos w0]
    exact ⟨by decide, by decide, by decide +kernel, k _ _ (by decide +kernel) (Same.refl _)⟩
  rw [if_neg w0]
  by_cases w1 : c % 6 = 1
  · rw [if_pos w1]
    exact ⟨by omega, k _ _ (by rw [app_len]; omega) (Same.refl _)⟩
  rw [if_neg w1]
  by_cases w2 : c % 6 = 2
  · rw [if_pos w2]
    refine ⟨by omega, fun p hp => ⟨⟨by decide, by decide⟩, by decide, ?_⟩⟩
    obtain ⟨x, hx⟩ := atI_mod (xs := [V.str (Str.ofString "-0"), .str (Str.ofString "-"), .str (Str.ofString "--1"), .str (Str.ofString "+1"), .str (Str.ofString ".."), .str (Str.ofString "1.0")]) (c := c / 6) (m := 6) (by decide) (by decide)
    obtain ⟨z, hz, rfl⟩ := atI_all (P := fun x => ∃ z : Str, z.length ≤ 44 ∧ x = .str z) (fun x hx => by
      rcases List.mem_cons.mp hx with rfl | hx
      · exact ⟨_, by decide +kernel, rfl⟩
      rcases List.mem_cons.mp hx with rfl | hx
      · exact ⟨_, by decide +kernel, rfl⟩
      rcases List.mem_cons.mp hx with rfl | hx
      · exact ⟨_, by decide +kernel, rfl⟩
      rcases List.mem_cons.mp hx with rfl | hx
      · exact ⟨_, by decide +kernel, rfl⟩
      rcases List.mem_cons.mp hx with rfl | hx
      · exact ⟨_, by decide +kernel, rfl⟩
      rcases List.mem_singleton.mp hx with rfl
      exact ⟨_, by decide +kernel, rfl⟩) hx
    exact rIx_l (SqL.of upd_same) hx (k _ _ hz (same_upd hp))
  rw [if_neg w2]
  by_cases w3 : c % 6 = 3
  · rw [if_pos w3]
    exact ⟨⟨by decide, by decide⟩, _, rfl, by omega, by omega, fun z H' hz s' => k _ _ (by omega) s'⟩
  rw [if_neg w3]
  by_cases w4 : c % 6 = 4
  · rw [if_pos w4]
    obtain ⟨ch, hch⟩ := atI_mod (xs := (Str.ofString " ,.-\n").cps.toList) (c := c / 600) (m := 5) (by decide) (by decide +kernel)
    have l1 : (Txt.slice y none (some 1)).length ≤ 41 := by
      rw [str_len, slice_to (by decide), List.length_take, ← str_len]
      omega
    have l2 : (Txt.slice y (some 1) none).length ≤ y.length := by
      rw [str_len, slice_from (by decide), List.length_drop, ← str_len]
      omega
    have l3 : (Txt.slice y none (some 1)).length ≤ 1 := by
      rw [str_len, slice_to (by decide), List.length_take]
      exact Nat.min_le_left _ _
    have l4 : (⟨#[ch]⟩ : Str).length = 1 := rfl
    have l5 : (Str.ofString " ,.-\n").length ≤ 100 := by decide +kernel
    refine ⟨by omega, ⟨by decide, by decide⟩, by decide, by omega, ch, hch, by omega, by omega, by rw [app_len]; omega, k _ _ (by rw [app_len, app_len]; omega) (Same.refl _)⟩
  rw [if_neg w4]
  exact k _ _ (by decide +kernel) (Same.refl _)
end
def spPiece : Sp := fun vs H Q _ => ∃ (c v : Int) (b : Bool), vs = [.int c, .int v, .bl b] ∧ 0 ≤ c ∧ c.natAbs < 2 ^ (GB + 200) ∧ 1 ≤ v ∧ v ≤ 4 ∧ ∀ z H', z.length ≤ 230 → Same H H' → Q (.str z) H'
def Wds (H H' : Hp) (q : Addr) (m : Nat) (zs : List Str) : Prop := H q = none ∧ H' q = some (.lst (zs.map V.str)) ∧ (∀ z ∈ zs, z.length ≤ m) ∧ Same H H'
theorem up0 {H H' : Hp} {q : Addr} {x : HO} (h0 : H q = none) (s : Same H H') : Same H (upd H' q x) := fun b o hb => by
  rw [upd_ne (ne_of_none hb h0)]
  exact s _ _ hb
theorem join_short {z : Str} {n m : Nat} {ys : List Str} (e : z = ⟨#[n]⟩) (h : ∀ y ∈ ys, y.length ≤ m) : (ys.map (fun x => x.length)).sum + ys.length * z.length ≤ ys.length * (m + 1) ∧ (Txt.join z ys).length ≤ ys.length * (m + 1) := by
  subst e
  have e1 : (⟨#[n]⟩ : Str).length = 1 := rfl
  constructor
  · have := StrLaws.sumLen_le (B := m) ys h
    rw [e1, Nat.mul_add]
    omega
  · rw [str_len, join_codes]
    have := joinC_len n (ys.map fun z => z.cps.toList) m (fun p hp => by
      obtain ⟨y, hy, rfl⟩ := List.mem_map.mp hp
      rw [← str_len]
      exact h y hy)
    rwa [List.length_map] at this
section
variable {P : Program} {w : World} {K : PySem.W.Frag} {mg : Str → Option Value} {base : Heap} {aM : Addr}
theorem ok_piece {f : Addr} {fd : FuncData} (F : Fun K "_law_piece" "_law_piece" s_law_piece f fd) (T : Txt mg aM) (D_law_note : Def P w K mg base "_law_note" 2 ["_law_cell"] (spTx 41)) (D_law_bad_note : Def P w K mg base "_law_bad_note" 2 ["_law_cell"] (spTx 44)) : FnOk P w K mg base CX0 3 f fd ["_law_cell", "_law_voices", "_law_bad"] spPiece := by
  refine F.ok sc_law_piece (fun vs H Q E h => ?_) (fun cdv A outer s H vs Q E hr h => ?_)
  · obtain ⟨c, v, b, rfl, _⟩ := h
    rfl
  obtain ⟨c, v, b, rfl, h0, hB, v1, v4, k⟩ := h
  refine ⟨_, (pss_cons (ps_set (i := 3) sc_law_piece.nd rfl (Or.inl rfl) (pe_lst pa_nil))
  (pss_cons (ps_for PassesOwn.never rfl (pi_range1 rfl T.n_range (pa_cons (pr 1) pa_nil)) (pg_name (i := 4) sc_law_piece.nd rfl (Or.inl rfl))
  (pss_one (ps_expr (pe_bmK K PySem.F.plainAttrs_list PySem.F.slot_list_append PySem.F.type_list_append mt_append (pr 3) (pa_cons (pe_def D_law_note hr (by rfl) (pa_cons (pe_op (oAdd K) (pe_op (o1 op_mod) (pe_op (oMul K) (pr 0) pe_int) pe_int) (pe_op (oMul K) (pe_op (o1 op_mod) (pe_op (oMul K) (pr 0) (pe_op (oAdd K) (pr 4) pe_int)) pe_int) pe_int)) pa_nil)) pa_nil)))))
  (pss_cons (ps_set (i := 5) sc_law_piece.nd rfl (Or.inl rfl) (pe_op (o1 op_mod) (pr 0) pe_int))
  (pss_cons (ps_if (PW.pt (pw_and (pt_truth (pr 2) (fun _ => rfl)) (pw_and1 (pt_j (pt_cmpR oEq (pr 5) pe_int (nomark _)))))) (pss_one (ps_set (i := 3) sc_law_piece.nd rfl (Or.inl rfl) (pe_slice (slAK K) (pr 3) (po_j pe_int) po_none))) pss_nil)
  (pss_cons (ps_if (PW.pt (pw_and (pt_truth (pr 2) (fun _ => rfl)) (pw_and1 (pt_j (pt_cmpR oEq (pr 5) pe_int (nomark _)))))) (pss_one (ps_set (i := 3) sc_law_piece.nd rfl (Or.inl rfl) (pe_op (oAdd K) (pr 3) (pe_lst (pa_cons pe_str pa_nil))))) pss_nil)
  (pss_cons (ps_if (PW.pt (pw_and (pt_truth (pr 2) (fun _ => rfl)) (pw_and1 (pt_j (pt_cmpR (o0 op_gt) (pr 5) pe_int (nomark _)))))) (pss_one (ps_asg (pe_def D_law_bad_note hr (by rfl) (pa_cons (pe_op (o1 op_mod) (pe_op (o1 op_fdiv) (pr 0) pe_int) (pe_op (o1 op_pow) pe_int pe_int)) pa_nil)) (pg_sub (pr 3) (pe_op (o1 op_mod) (pe_op (o1 op_fdiv) (pr 0) pe_int) (pr 1)) set_list))) pss_nil)
  (pss_one (ps_ret (pe_bmK K PySem.F.plainAttrs_str PySem.F.slot_str_join PySem.F.type_str_join (mt_joinK K) pe_str (pa_cons (pr 3) pa_nil)))))))))), ?_⟩
  have hs : sizeLine = 16777216 := sizeLine_eq
  refine cut2 (fun σ H' => ∃ q : Addr, Wds H H' q 44 [] ∧ σ = [some (.int c), some (.int v), some (.bl b), some (.ref q), none, none]) ?_ ?_
  rotate_left
  · intro u' hu
    walk_at "rd"
    exact ⟨by omega, fun q hq => hu _ _ ⟨q, ⟨hq, upd_same, (fun _ h => nomatch h), same_upd hq⟩, rfl⟩⟩
  rintro _ H1 ⟨q, hq, rfl⟩
  refine cut2 (fun σ H' => ∃ o zs, Wds H H' q 44 zs ∧ (zs.length : Int) = v ∧ σ = [some (.int c), some (.int v), some (.bl b), some (.ref q), o, none]) ?_ ?_
  rotate_left
  · intro u' hu
    walk_at "rd"
    refine ⟨by omega, by omega, ?_⟩
    refine loop_range (fun i σ H' => ∃ o zs, Wds H H' q 44 zs ∧ zs.length = i ∧ σ = [some (.int c), some (.int v), some (.bl b), some (.ref q), o, none]) ⟨none, [], hq, rfl, rfl⟩ ?_ ?_
    · rintro i σ H2 hi ⟨o, zs, ⟨q0, q1, q2, q3⟩, hl, rfl⟩
      walk_at "rd"
      have hi4 : (i : Int) + 1 ≤ 4 := by omega
      have m1 := Int.emod_nonneg (c * 48271) (show (1000003 : Int) ≠ 0 by decide)
      have m2 := Int.emod_lt_of_pos (c * 48271) (show (0 : Int) < 1000003 by decide)
      have m3 := Int.emod_nonneg (c * ((i : Int) + 1)) (show (9973 : Int) ≠ 0 by decide)
      have m4 := Int.emod_lt_of_pos (c * ((i : Int) + 1)) (show (0 : Int) < 9973 by decide)
      refine ⟨.inl ⟨rfl, _, SqL.of q1⟩, .of_right (by decide), by decide, .of_right (PySem.intBits_le_64 (by omega) (by omega)), by decide, .of_right (by decide), ?_⟩
      generalize c * 48271 % 1000003 = x at m1 m2
      generalize c * ((i : Int) + 1) % 9973 = y at m3 m4
      have hb : (x + y * 1009 : Int).natAbs < 2 ^ 1800 := Nat.lt_of_lt_of_le (show _ < 2 ^ 30 by omega) (Nat.pow_le_pow_right (by decide) (by decide))
      refine ⟨_, rfl, by omega, hb, fun z H3 hz s3 => ?_⟩
      refine ⟨q, zs.map V.str, .str z, rfl, rfl, s3 _ _ q1, by rw [List.length_map]; omega, some (.int i), zs ++ [z], ⟨q0, ?_, ?_, ?_⟩, by rw [List.length_append, hl]; rfl, rfl⟩
      · rw [upd_same, List.map_append]; rfl
      · intro y hy
        rcases List.mem_append.mp hy with hy | hy
        · exact q2 y hy
        · rw [List.mem_singleton.mp hy]; omega
      · exact up0 q0 (q3.trans s3)
    · rintro σ H2 ⟨o, zs, hz, hl, rfl⟩
      exact hu _ _ ⟨o, zs, hz, by omega, rfl⟩
  rintro _ H2 ⟨o, zs, ⟨q0, q1, q2, q3⟩, hl, rfl⟩
  refine cut2 (fun σ H' => H2 = H' ∧ σ = [some (.int c), some (.int v), some (.bl b), some (.ref q), o, some (.int (c % 4))]) ?_ ?_
  rotate_left
  · intro u' hu
    walk_at "rd"
    exact ⟨by decide, hu _ _ ⟨rfl, rfl⟩⟩
  rintro _ _ ⟨rfl, rfl⟩
  refine cut2 (fun σ H' => ∃ r ys, Wds H H' r 44 ys ∧ ys.length ≤ 4 ∧ (1 < c % 4 → (ys.length : Int) = v) ∧ σ = [some (.int c), some (.int v), some (.bl b), some (.ref r), o, some (.int (c % 4))]) ?_ ?_
  rotate_left
  · intro u' hu
    walk_at "rd"
    by_cases hb : b = true
    · rw [if_pos hb]
      by_cases h4 : c % 4 = 0
      · rw [if_pos h4]
        refine rSlA_l (SqL.of q1) fun p hp => ?_
        refine hu _ _ ⟨p, zs.drop 1, ⟨q3.free hp, ?_, fun z hz => q2 z (List.mem_of_mem_drop hz), q3.upd hp⟩, by rw [List.length_drop]; omega, fun h => by omega, rfl⟩
        rw [upd_same, show (1 : Int) = ((1 : Nat) : Int) from rfl, cutV_from, List.map_drop]
      · rw [if_neg h4]
        exact hu _ _ ⟨q, zs, ⟨q0, q1, q2, q3⟩, by omega, fun _ => hl, rfl⟩
    · rw [if_neg hb]
      exact hu _ _ ⟨q, zs, ⟨q0, q1, q2, q3⟩, by omega, fun _ => hl, rfl⟩
  rintro _ H3 ⟨r, ys, ⟨r0, r1, r2, r3⟩, hy, hv, rfl⟩
  refine cut2 (fun σ H' => ∃ r ys, Wds H H' r 44 ys ∧ ys.length ≤ 5 ∧ (1 < c % 4 → (ys.length : Int) = v) ∧ σ = [some (.int c), some (.int v), some (.bl b), some (.ref r), o, some (.int (c % 4))]) ?_ ?_
  rotate_left
  · intro u' hu
    walk_at "rd"
    by_cases hb : b = true
    · rw [if_pos hb]
      by_cases h4 : c % 4 = 1
      · rw [if_pos h4]
        refine ⟨by omega, fun p hp => ?_⟩
        refine rAddA_ll ((same_upd hp) _ _ r1) upd_same (by rw [List.length_map]; simp; omega) fun p2 hp2 => ?_
        have s4 : Same H (upd H3 p (HO.lst [V.str (Str.ofString "1")])) := r3.upd hp
        refine hu _ _ ⟨p2, ys ++ [Str.ofString "1"], ⟨s4.free hp2, ?_, ?_, s4.upd hp2⟩, by rw [List.length_append]; simp; omega, fun h => by omega, rfl⟩
        · rw [upd_same, List.map_append]; rfl
        · intro y hy
          rcases List.mem_append.mp hy with hy | hy
          · exact r2 y hy
          · rw [List.mem_singleton.mp hy]; decide +kernel
      · rw [if_neg h4]
        exact hu _ _ ⟨r, ys, ⟨r0, r1, r2, r3⟩, by omega, hv, rfl⟩
    · rw [if_neg hb]
      exact hu _ _ ⟨r, ys, ⟨r0, r1, r2, r3⟩, by omega, hv, rfl⟩
  clear r0 r1 r2 r3 hy hv
  rintro _ H4 ⟨r, ys, ⟨r0, r1, r2, r3⟩, hy, hv, rfl⟩
  refine cut2 (fun σ H' => ∃ ys, Wds H H' r 44 ys ∧ ys.length ≤ 5 ∧ σ = [some (.int c), some (.int v), some (.bl b), some (.ref r), o, some (.int (c % 4))]) ?_ ?_
  rotate_left
  · intro u' hu
    walk_at "rd"
    by_cases hb : b = true
    · rw [if_pos hb]
      by_cases h4 : 1 < c % 4
      · rw [if_pos h4]
        have e9 : (10 : Int) ^ Int.toNat 9 = 1000000000 := by decide +kernel
        rw [e9]
        have m1 := Int.emod_nonneg (c / 16) (show (1000000000 : Int) ≠ 0 by decide)
        have m2 := Int.emod_lt_of_pos (c / 16) (show (0 : Int) < 1000000000 by decide)
        have m3 := Int.emod_nonneg (c / 4) (show v ≠ 0 by omega)
        have m4 := Int.emod_lt_of_pos (c / 4) (show 0 < v by omega)
        have hl := hv h4
        generalize c / 16 % 1000000000 = x at m1 m2
        have hx : (x : Int).natAbs < 2 ^ 1800 := Nat.lt_of_lt_of_le (show _ < 2 ^ 30 by omega) (Nat.pow_le_pow_right (by decide) (by decide))
        refine ⟨⟨by decide, by decide⟩, ⟨by decide, by decide, by decide⟩, by decide, _, rfl, m1, hx, fun z H5 hz s5 => ?_⟩
        refine ⟨⟨by decide, by decide⟩, by omega, _, s5 _ _ r1, _, ixN_in m3 (by rw [List.length_map]; omega), hu _ _ ⟨ys.set (c / 4 % v).toNat z, ⟨r0, ?_, ?_, up0 r0 (r3.trans s5)⟩, by rw [List.length_set]; exact hy, rfl⟩⟩
        · rw [upd_same, List.map_set]
        · intro y hy
          rcases List.mem_or_eq_of_mem_set hy with hy | rfl
          · exact r2 y hy
          · exact hz
      · rw [if_neg h4]
        exact hu _ _ ⟨ys, ⟨r0, r1, r2, r3⟩, hy, rfl⟩
    · rw [if_neg hb]
      exact hu _ _ ⟨ys, ⟨r0, r1, r2, r3⟩, hy, rfl⟩
  clear r1 r2 r3 hy hv
  rintro _ H5 ⟨ys, ⟨_, r1, r2, r3⟩, hy, rfl⟩
  walk_at "rd"
  obtain ⟨j1, j2⟩ := join_short comma_eq r2
  refine ⟨ys, SqL.of r1, ?_, k _ _ ?_ r3⟩
  · refine Nat.le_trans j1 (Nat.le_trans (Nat.mul_le_mul_right 45 hy) (by decide))
  · exact Nat.le_trans j2 (Nat.le_trans (Nat.mul_le_mul_right 45 hy) (by decide))
end
def spTextL (K : PySem.W.Frag) : Sp := fun vs H Q _ => ∃ (a : Addr) (ns : List Int), vs = [.ref a] ∧ SqL K H a (ns.map V.int) ∧ (∀ x ∈ ns, x.natAbs < 2 ^ GB) ∧ ns.length ≤ 63 ∧ ∀ z H', z.length ≤ 10000 → Same H H' → Q (.str z) H'
section
variable {P : Program} {w : World} {K : PySem.W.Frag} {mg : Str → Option Value} {base : Heap} {aM : Addr}
theorem ok_textL {f : Addr} {fd : FuncData} (F : Fun K "_law_text" "_law_text" s_law_text f fd) (T : Txt mg aM) (D_law_got : Def P w K mg base "_law_got" 3 ["_law_script", "_law_place"] (spGot K)) (D_law_cells : Def P w K mg base "_law_cells" 3 ["_law_script", "_law_first", "_law_last"] (spCells K)) (D_law_piece : Def P w K mg base "_law_piece" 3 ["_law_cell", "_law_voices", "_law_bad"] spPiece) :
    FnOk P w K mg base CX0 4 f fd ["_law_script"] (spTextL K) := by
  refine F.ok sc_law_text (fun vs H Q E h => ?_) (fun cdv A outer s H vs Q E hr h => ?_)
  · obtain ⟨a, ns, rfl, _⟩ := h
    rfl
  obtain ⟨a, ns, rfl, hS, hB, hn, k⟩ := h
  refine ⟨_, (pss_cons (ps_set (i := 1) sc_law_text.nd rfl (Or.inl rfl) (pe_op (oAdd K) pe_int (pe_op (o1 op_mod) (pe_def D_law_got hr (by rfl) (pa_cons (pr 0) (pa_cons pe_int pa_nil))) pe_int)))
  (pss_cons (ps_set (i := 2) sc_law_text.nd rfl (Or.inl rfl) (pe_def D_law_cells hr (by rfl) (pa_cons (pr 0) (pa_cons pe_int (pa_cons pe_int pa_nil)))))
  (pss_cons (ps_set (i := 3) sc_law_text.nd rfl (Or.inl rfl) (pe_op (o1 op_mod) (pe_op (o1 op_fdiv) (pe_def D_law_got hr (by rfl) (pa_cons (pr 0) (pa_cons pe_int pa_nil))) pe_int) pe_int))
  (pss_cons (ps_set (i := 4) sc_law_text.nd rfl (Or.inl rfl) (pe_op (o1 op_mod) (pe_op (o1 op_fdiv) (pe_def D_law_got hr (by rfl) (pa_cons (pr 0) (pa_cons pe_int pa_nil))) pe_int) (pe_callB (call_max2 rfl) (by rfl) T.n_max boot_max (pa_cons pe_int (pa_cons (pe_callB (call_lenK K) (by rfl) T.n_len boot_len (pa_cons (pr 2) pa_nil)) pa_nil)))))
  (pss_cons (ps_set (i := 5) sc_law_text.nd rfl (Or.inl rfl) (pe_lst pa_nil))
  (pss_cons (ps_for PassesOwn.never rfl (pi_range1 rfl T.n_range (pa_cons (pe_callB (call_lenK K) (by rfl) T.n_len boot_len (pa_cons (pr 2) pa_nil)) pa_nil)) (pg_name (i := 6) sc_law_text.nd rfl (Or.inl rfl))
  (pss_cons (ps_set (i := 7) sc_law_text.nd rfl (Or.inl rfl) (pe_jo (pe_or (pe_ja (pe_and (pe_cmpR oEq (pr 3) pe_int (nomark _)) (pe_one (pe_cmpR oEq (pr 6) (pr 4) (nomark _))))) (pe_jo (pe_or (pe_ja (pe_and (pe_cmpR oEq (pr 3) pe_int (nomark _)) (pe_one (pe_cmpR oEq (pr 6) (pe_op (o0 op_sub) (pe_callB (call_lenK K) (by rfl) T.n_len boot_len (pa_cons (pr 2) pa_nil)) pe_int) (nomark _))))) (pe_one (pe_ja (pe_and (pe_cmpR oEq (pr 3) pe_int (nomark _)) (pe_one (pe_cmpR oEq (pe_op (o1 op_mod) (pe_op (o1 op_fdiv) (pe_ix (ixAK K) (pr 2) (pr 6) (fun _ _ => rfl)) pe_int) pe_int) pe_int (nomark _)))))))))))
  (pss_one (ps_expr (pe_bmK K PySem.F.plainAttrs_list PySem.F.slot_list_append PySem.F.type_list_append mt_append (pr 5) (pa_cons (pe_def D_law_piece hr (by rfl) (pa_cons (pe_ix (ixAK K) (pr 2) (pr 6) (fun _ _ => rfl)) (pa_cons (pr 1) (pa_cons (pr 7) pa_nil)))) pa_nil))))))
  (pss_one (ps_ret (pe_bmK K PySem.F.plainAttrs_str PySem.F.slot_str_join PySem.F.type_str_join (mt_joinK K) pe_str (pa_cons (pr 5) pa_nil)))))))))), ?_⟩
  have hs : sizeLine = 16777216 := sizeLine_eq
  have g0 : ∀ p, 0 ≤ GM.gotF ns p := GM.gotF_nn ns
  have cl : (GM.cellsF ns 1 41).length ≤ 40 := by
    unfold GM.cellsF
    rw [List.length_map, List.length_range]
    split <;> omega
  refine cut2 (fun σ H' => ∃ v : Int, 1 ≤ v ∧ v ≤ 4 ∧ σ = [some (.ref a), some (.int v), none, none, none, none, none, none] ∧ Same H H') ?_ ?_
  rotate_left
  · intro u' hu
    walk_at "rd"
    refine ⟨a, ns, 0, rfl, hS, hB, by decide, by decide, fun H1 sm => ?_⟩
    walk_at "rd"
    have := g0 0
    exact ⟨by decide, hu _ _ ⟨_, by omega, by omega, rfl, sm⟩⟩
  rintro _ H1 ⟨v, v1, v4, rfl, s1⟩
  refine cut2 (fun σ H' => ∃ q : Addr, H' q = some (.lst ((GM.cellsF ns 1 41).map V.int)) ∧ σ = [some (.ref a), some (.int v), some (.ref q), none, none, none, none, none] ∧ Same H H') ?_ ?_
  rotate_left
  · intro u' hu
    walk_at "rd"
    exact ⟨a, ns, 1, 41, rfl, s1.seq hS, hB, hn, by decide, by decide, by decide, by decide, fun q H2 hq s2 => hu _ _ ⟨q, hq, rfl, s1.trans s2⟩⟩
  rintro _ H2 ⟨q, hq, rfl, s2⟩
  refine cut2 (fun σ H' => ∃ wy : Int, σ = [some (.ref a), some (.int v), some (.ref q), some (.int wy), none, none, none, none] ∧ Same H2 H') ?_ ?_
  rotate_left
  · intro u' hu
    walk_at "rd"
    refine ⟨a, ns, 0, rfl, s2.seq hS, hB, by decide, by decide, fun H3 s3 => ?_⟩
    walk_at "rd"
    exact ⟨⟨by decide, by decide⟩, by decide, hu _ _ ⟨_, rfl, s3⟩⟩
  rintro _ H3 ⟨wy, rfl, s3⟩
  refine cut2 (fun σ H' => ∃ at' : Int, σ = [some (.ref a), some (.int v), some (.ref q), some (.int wy), some (.int at'), none, none, none] ∧ Same H2 H') ?_ ?_
  rotate_left
  · intro u' hu
    walk_at "rd"
    refine ⟨a, ns, 0, rfl, (s2.trans s3).seq hS, hB, by decide, by decide, fun H4 s4 => ?_⟩
    walk_at "rd"
    exact ⟨⟨by decide, by decide⟩, _, .inl (SqL.of ((s3.trans s4) _ _ hq)), by split <;> omega, hu _ _ ⟨_, rfl, s3.trans s4⟩⟩
  rintro _ H4 ⟨at', rfl, s4⟩
  refine cut2 (fun σ H' => ∃ r : Addr, Wds H2 H' r 230 [] ∧ σ = [some (.ref a), some (.int v), some (.ref q), some (.int wy), some (.int at'), some (.ref r), none, none]) ?_ ?_
  rotate_left
  · intro u' hu
    walk_at "rd"
    exact ⟨by omega, fun r hr => hu _ _ ⟨r, ⟨s4.free hr, upd_same, (fun _ h => nomatch h), s4.upd hr⟩, rfl⟩⟩
  rintro _ H5 ⟨r, hr5, rfl⟩
  refine cut2 (fun σ H' => ∃ o o2 zs, Wds H2 H' r 230 zs ∧ zs.length ≤ 40 ∧ σ = [some (.ref a), some (.int v), some (.ref q), some (.int wy), some (.int at'), some (.ref r), o, o2]) ?_ ?_
  rotate_left
  · intro u' hu
    walk_at "rd"
    refine ⟨_, .inl (SqL.of (hr5.2.2.2 _ _ hq)), by rw [List.length_map]; omega, by rw [List.length_map]; omega, loop_range (fun i σ H' => ∃ o o2 zs, Wds H2 H' r 230 zs ∧ zs.length = i ∧ σ = [some (.ref a), some (.int v), some (.ref q), some (.int wy), some (.int at'), some (.ref r), o, o2]) ⟨none, none, [], hr5, rfl, rfl⟩ ?_ ?_⟩
    · rintro i σ H6 hi ⟨o, o2, zs, ⟨r0, r1, r2, r3⟩, hl, rfl⟩
      rw [List.length_map] at hi
      have hi' : i < (GM.cellsF ns 1 41).length := by omega
      have hix : ∀ H', Same H2 H' → ∀ Q', Q' (V.int (GM.cellsF ns 1 41)[i]) H' → rIx K (V.ref q) (V.int i) H' Q' := fun H' s' Q' h' =>
        rIx_l (SqL.of (s' _ _ hq)) (atI_nat (by rw [List.getElem?_map, List.getElem?_eq_getElem hi']; rfl)) h'
      have c0 := GM.cellsF_nn (List.getElem_mem hi')
      have cb := GM.cellsF_lt hB (List.getElem_mem hi')
      generalize (GM.cellsF ns 1 41)[i] = c at hix c0 cb
      refine cut2 (fun σ H' => ∃ bb : Bool, σ = [some (.ref a), some (.int v), some (.ref q), some (.int wy), some (.int at'), some (.ref r), some (.int i), some (.bl bb)] ∧ H6 = H') ?_ ?_
      rotate_left
      · intro u' hu
        walk_at "rd"
        have hu' := fun bb => hu _ _ ⟨bb, rfl, rfl⟩
        by_cases w1 : wy = 1
        · rw [if_pos w1, if_neg (show ¬ wy = 2 by omega), if_neg (show ¬ wy = 3 by omega)]
          split <;> exact hu' _
        rw [if_neg w1]
        by_cases w2 : wy = 2
        · rw [if_pos w2]
          refine ⟨_, .inl (SqL.of (r3 _ _ hq)), ?_⟩
          rw [if_neg (show ¬ wy = 3 by omega)]
          split <;> exact hu' _
        rw [if_neg w2]
        by_cases w3 : wy = 3
        · rw [if_pos w3]
          exact hix H6 r3 _ ⟨_, rfl, ⟨by decide, by decide⟩, by decide, hu' _⟩
        rw [if_neg w3]
        exact hu' _
      rintro _ _ ⟨bb, rfl, rfl⟩
      walk_at "rd"
      refine ⟨.inl ⟨rfl, _, SqL.of r1⟩, hix H6 r3 _ ⟨c, v, bb, rfl, c0, cb, v1, v4, fun z H7 hz s7 => ?_⟩⟩
      refine ⟨r, zs.map V.str, .str z, rfl, rfl, s7 _ _ r1, by rw [List.length_map]; omega, some (.int i), some (.bl bb), zs ++ [z], ⟨r0, ?_, ?_, ?_⟩, by rw [List.length_append, hl]; rfl, rfl, rfl⟩
      · rw [upd_same, List.map_append]; rfl
      · intro y hy
        rcases List.mem_append.mp hy with hy | hy
        · exact r2 y hy
        · rw [List.mem_singleton.mp hy]; exact hz
      · exact up0 r0 (r3.trans s7)
    · rintro σ H6 ⟨o, o2, zs, hz, hl, rfl⟩
      exact hu _ _ ⟨o, o2, zs, hz, by rw [List.length_map] at hl; omega, rfl⟩
  rintro _ H6 ⟨o, o2, zs, ⟨r0, r1, r2, r3⟩, hl, rfl⟩
  walk_at "rd"
  obtain ⟨j1, j2⟩ := join_short blank_eq r2
  refine ⟨zs, SqL.of r1, ?_, k _ _ ?_ (s2.trans r3)⟩
  · refine Nat.le_trans j1 (Nat.le_trans (Nat.mul_le_mul_right 231 hl) (by decide))
  · exact Nat.le_trans j2 (Nat.le_trans (Nat.mul_le_mul_right 231 hl) (by decide))
end
def ItemAt (v : Int) (H : Hp) (x : V) (y : Str) : Prop := if colB v y = true then ∃ p, x = .ref p ∧ H p = some (.tup (colV y)) else x = .non
def plV : Option Nat → V
  | none => .non
  | some i => .int i
theorem badGo_snoc (v : Int) (y : Str) : ∀ (ws : List Str) (k : Nat), badGo v (ws ++ [y]) k = match badGo v ws k with | some j => some j | none => if colB v y = true then none else some (k + ws.length)
  | [], k => by
    show badGo v [y] k = _
    unfold badGo badGo
    rfl
  | x :: ws, k => by
    show badGo v (x :: (ws ++ [y])) k = _
    unfold badGo
    by_cases h : colB v x = true
    · rw [if_pos h, if_pos h, badGo_snoc v y ws (k + 1), List.length_cons, show k + 1 + ws.length = k + (ws.length + 1) by omega]
    · rw [if_neg h, if_neg h]
theorem badGo_all (v : Int) : ∀ (ws : List Str) (k : Nat), badGo v ws k = none → ∀ y ∈ ws, colB v y = true
  | [], _, _, _, h => nomatch h
  | x :: ws, k, e, y, h => by
    unfold badGo at e
    by_cases hx : colB v x = true
    · rw [if_pos hx] at e
      rcases List.mem_cons.mp h with rfl | h
      · exact hx
      · exact badGo_all v ws (k + 1) e y h
    · rw [if_neg hx] at e
      cases e
theorem nV_flat (z : Str) : flatV (nV z) = true := by
  unfold nV
  split <;> rfl
theorem ItemAt.same {v : Int} {H H' : Hp} {x : V} {y : Str} (h : ItemAt v H x y) (s : Same H H') : ItemAt v H' x y := by
  unfold ItemAt at h ⊢
  split
  · rename_i c
    rw [if_pos c] at h
    obtain ⟨p, e, hp⟩ := h
    exact ⟨p, e, s _ _ hp⟩
  · rename_i c
    rw [if_neg c] at h
    exact h
theorem ItemAt.upd {v : Int} {H : Hp} {x : V} {y : Str} {d : Addr} {D D' : List V} (h : ItemAt v H x y) (hd : H d = some (.lst D)) : ItemAt v (upd H d (.lst D')) x y := by
  unfold ItemAt at h ⊢
  split
  · rename_i c
    rw [if_pos c] at h
    obtain ⟨p, e, hp⟩ := h
    refine ⟨p, e, ?_⟩
    rw [upd_ne (fun z => by rw [z, hd] at hp; cases hp)]
    exact hp
  · rename_i c
    rw [if_neg c] at h
    exact h
def spLaw (K : PySem.W.Frag) : Sp := fun vs H Q _ => ∃ (a : Addr) (ns : List Int), vs = [.ref a] ∧ SqL K H a (ns.map V.int) ∧ (∀ x ∈ ns, x.natAbs < 2 ^ GB) ∧ ns.length ≤ 63 ∧ ∀ H', Q (.bl true) H'
theorem found_due {K : PySem.W.Frag} {H : Hp} {q d : Addr} {v : Int} {ws : List Str} {ps : List Addr} {D : List V} {Q : VK} (hq : H q = some (.lst (ps.map V.ref))) (hd : H d = some (.lst D)) (ht : TupsAt H ps ws) (hl : D.length = ws.length)
    (hD : ∀ (j : Nat) (x : V) (y : Str), D[j]? = some x → ws[j]? = some y → ItemAt v H x y) (hc : ∀ y ∈ ws, colB v y = true) (k : Q (.bl true) H) : rEqC K (.ref q) (.ref d) H Q := by
  refine .inr ⟨true, ⟨q, d, true, ps.map V.ref, D, fun _ => true, rfl, rfl, SqL.of hq, SqL.of hd, fun j x y hx hy => ?_, ?_⟩, k⟩
  · rw [List.getElem?_map] at hx
    cases hp : ps[j]? with
    | none => rw [hp] at hx; cases hx
    | some p =>
      rw [hp] at hx
      obtain rfl : V.ref p = x := Option.some.inj hx
      have hj : j < ws.length := by rw [← ht.1]; exact (List.getElem?_eq_some_iff.mp hp).1
      have hw : ws[j]? = some ws[j] := List.getElem?_eq_getElem hj
      have h1 := ht.2 j p _ hp hw
      have h2 := hD j y _ hy hw
      unfold ItemAt at h2
      rw [if_pos (hc _ (List.getElem_mem hj))] at h2
      obtain ⟨p', rfl, h3⟩ := h2
      by_cases e : p = p'
      · subst e
        exact EqD.same
      · unfold EqD
        refine .inr ⟨p, p', false, _, _, fun _ => true, rfl, rfl, e, SqT.of h1, SqT.of h3, fun i x y hx hy => ?_, by simp⟩
        rw [hx] at hy
        cases hy
        obtain ⟨w, _, rfl⟩ := List.mem_map.mp (List.mem_of_getElem? hx)
        have f := nV_flat w
        have := EqD.flat (K := K) (H := H) (n := 3) f f
        have e : eqV (nV w) (nV w) = true := by
          unfold nV
          split
          · rfl
          · simp [eqV]
        rw [e] at this
        exact this
  · rw [List.length_map, hl, ht.1]
    simp
section
variable {P : Program} {w : World} {K : PySem.W.Frag} {mg : Str → Option Value} {base : Heap} {aM : Addr}
theorem ok_law {f C : Addr} {fd : FuncData} (F : Fun K "law" "law" s_law f fd) (T : Txt mg aM) (DE_BadLine : DefE P w K mg base "BadLine" C 1 ["self", "place"] (spX1 C "place") no4) (D_law_got : Def P w K mg base "_law_got" 4 ["_law_script", "_law_place"] (spGot K)) (D_law_text : Def P w K mg base "_law_text" 4 ["_law_script"] (spTextL K))
    (D_law_column : Def P w K mg base "_law_column" 4 ["_law_piece_here", "_law_voices"] spLCol) (D_law_refusal : Def P w K mg base "_law_refusal" 4 ["_law_e", "_law_place"] (spRefusal C)) (DX_read_line : DefX P w K mg base "read_line" 4 ["text", "voices"] (spReadLine C)) :
    FnOk P w K mg base CX0 5 f fd ["_law_script"] (spLaw K) := by
  refine F.ok sc_law (fun vs H Q E h => ?_) (fun cdv A outer s H vs Q E hr h => ?_)
  · obtain ⟨a, ns, rfl, _⟩ := h
    rfl
  obtain ⟨a, ns, rfl, hS, hB, hn, k⟩ := h
  refine ⟨_, (pss_cons (ps_set (i := 1) sc_law.nd rfl (Or.inl rfl) (pe_op (oAdd K) pe_int (pe_op (o1 op_mod) (pe_def D_law_got hr (by rfl) (pa_cons (pr 0) (pa_cons pe_int pa_nil))) pe_int)))
  (pss_cons (ps_set (i := 2) sc_law.nd rfl (Or.inl rfl) (pe_def D_law_text hr (by rfl) (pa_cons (pr 0) pa_nil)))
  (pss_cons (ps_set (i := 3) sc_law.nd rfl (Or.inl rfl) (pe_lst pa_nil))
  (pss_cons (ps_set (i := 4) sc_law.nd rfl (Or.inl rfl) pe_non)
  (pss_cons (ps_if (pt_j (pt_cmpR (oNeC K (hu5 hr)) (pr 2) pe_str (nomark _))) (pss_cons (ps_set (i := 5) sc_law.nd rfl (Or.inl rfl) (pe_bmK K PySem.F.plainAttrs_str PySem.F.slot_str_split PySem.F.type_str_split mt_split (pr 2) (pa_cons pe_str pa_nil)))
  (pss_one (ps_for PassesOwn.never rfl (pi_range1 rfl T.n_range (pa_cons (pe_callB (call_lenK K) (by rfl) T.n_len boot_len (pa_cons (pr 5) pa_nil)) pa_nil)) (pg_name (i := 6) sc_law.nd rfl (Or.inl rfl))
  (pss_cons (ps_expr (pe_bmK K PySem.F.plainAttrs_list PySem.F.slot_list_append PySem.F.type_list_append mt_append (pr 3) (pa_cons (pe_def D_law_column hr (by rfl) (pa_cons (pe_ix (ixAK K) (pr 5) (pr 6) (fun _ _ => rfl)) (pa_cons (pr 1) pa_nil))) pa_nil)))
  (pss_one (ps_if (PW.pt (pw_and (pt_j (pt_cmpR op_isN (pe_ix (ixAK K) (pr 3) (pe_un (u1 un_neg) pe_int) (fun _ _ => rfl)) pe_non (nomark _))) (pw_and1 (pt_j (pt_cmpR op_isN (pr 4) pe_non (nomark _)))))) (pss_one (ps_set (i := 4) sc_law.nd rfl (Or.inl rfl) (pr 6))) pss_nil)))))) pss_nil)
  (pss_cons (ps_set (i := 7) sc_law.nd rfl (Or.inl rfl) pe_non)
  (pss_cons (ps_set (i := 8) sc_law.nd rfl (Or.inl rfl) pe_non)
  (pss_cons (ps_tryD (iv := 8) (ie := 9) (ir := 7) DE_BadLine DX_read_line rfl rfl rfl (by rfl) sc_law.nd rfl (Or.inl rfl) rfl rfl rfl (Or.inl rfl) (Or.inl rfl) (Or.inl rfl) hr (by rfl) (pa_cons (pr 2) (pa_cons (pr 1) pa_nil)))
  (pss_cons (ps_if (pt_j (pt_cmpR op_notN (pr 4) pe_non (nomark _))) (pss_one (ps_ret (pe_ja (pe_and (pe_cmpR op_notN (pr 7) pe_non (nomark _)) (pe_one (pe_def D_law_refusal hr (by rfl) (pa_cons (pr 7) (pa_cons (pr 4) pa_nil)))))))) pss_nil)
  (pss_one (ps_ret (pe_ja (pe_and (pe_cmpR op_isN (pr 7) pe_non (nomark _)) (pe_ja (pe_and (pe_callB (call_isinstK K) (by rfl) T.n_isinstance boot_isinstance (pa_cons (pr 8) (pa_cons (pe_bltn (v := .ty "list") (by rfl) T.n_list boot_list rfl) pa_nil))) (pe_one (pe_cmpR (oEqC K (hu5 hr)) (pr 8) (pr 3) (nomark _)))))))))))))))))), ?_⟩
  have hs : sizeLine = 16777216 := sizeLine_eq
  refine cut2 (fun σ H' => ∃ v : Int, σ = [some (.ref a), some (.int v), none, none, none, none, none, none, none, none] ∧ Same H H') ?_ ?_
  rotate_left
  · intro u' hu
    walk_at "rd"
    refine ⟨a, ns, 0, rfl, hS, hB, by decide, by decide, fun H1 sm => ?_⟩
    walk_at "rd"
    exact ⟨by decide, hu _ _ ⟨_, rfl, sm⟩⟩
  rintro _ H1 ⟨v, rfl, s1⟩
  refine cut2 (fun σ H' => ∃ z : Str, z.length ≤ 10000 ∧ σ = [some (.ref a), some (.int v), some (.str z), none, none, none, none, none, none, none]) ?_ ?_
  rotate_left
  · intro u' hu
    walk_at "rd"
    exact ⟨a, ns, rfl, s1.seq hS, hB, hn, fun z H2 hz s2 => hu _ _ ⟨z, hz, rfl⟩⟩
  rintro _ H2 ⟨z, hz, rfl⟩
  refine cut2 (fun σ H' => ∃ d : Addr, H2 d = none ∧ H' d = some (.lst []) ∧ σ = [some (.ref a), some (.int v), some (.str z), some (.ref d), none, none, none, none, none, none]) ?_ ?_
  rotate_left
  · intro u' hu
    walk_at "rd"
    exact ⟨by omega, fun d hd => hu _ _ ⟨d, hd, upd_same, rfl⟩⟩
  rintro _ H3 ⟨d, hd2, hd3, rfl⟩
  refine cut2 (fun σ H' => H3 = H' ∧ σ = [some (.ref a), some (.int v), some (.str z), some (.ref d), some .non, none, none, none, none, none]) ?_ ?_
  rotate_left
  · intro u' hu
    walk_at "rd"
    exact hu _ _ ⟨rfl, rfl⟩
  rintro _ _ ⟨rfl, rfl⟩
  have wle : ∀ y ∈ piecesOf z, y.length ≤ 10000 := fun y hy => by
    unfold piecesOf at hy
    split at hy
    · cases hy
    · exact Nat.le_trans (word_le (by decide) hy) hz
  have wll : (piecesOf z).length ≤ 10001 := by
    unfold piecesOf
    split
    · exact Nat.zero_le _
    · have h1 : (Txt.split z ⟨#[32]⟩).length = (spl 32 z.cps.toList).length := by rw [← split_codes z (by decide), List.length_map]
      rw [h1]
      have := spl_len 32 z.cps.toList
      rw [← str_len] at this
      omega
  refine cut2 (fun σ H' => ∃ o5 o6 D, H' d = some (.lst D) ∧ D.length = (piecesOf z).length ∧ (∀ (j : Nat) (x : V) (y : Str), D[j]? = some x → (piecesOf z)[j]? = some y → ItemAt v H' x y) ∧ σ = [some (.ref a), some (.int v), some (.str z), some (.ref d), some (plV (badGo v (piecesOf z) 0)), o5, o6, none, none, none]) ?_ ?_
  rotate_left
  · intro u' hu
    walk_at "rd"
    by_cases h0 : z = Str.ofString ""
    · rw [if_pos h0]
      have e0 : piecesOf z = [] := by unfold piecesOf; rw [if_pos h0]
      rw [e0] at hu
      exact hu _ _ ⟨none, none, [], hd3, rfl, (fun j x y e => nomatch e), rfl⟩
    rw [if_neg h0]
    have e0 : piecesOf z = Txt.split z ⟨#[32]⟩ := by unfold piecesOf; rw [if_neg h0]
    refine ⟨32, blank_eq, by decide, by omega, fun p hp => ?_⟩
    rw [← e0]
    clear e0
    generalize piecesOf z = ws at *
    have s1 : Same H3 (upd H3 p (HO.lst (List.map V.str ws))) := same_upd hp
    have l1 : (upd H3 p (HO.lst (List.map V.str ws))) p = some (.lst (ws.map V.str)) := upd_same
    have hpd : p ≠ d := fun e => by rw [e, hd3] at hp; cases hp
    have hd4 := s1 _ _ hd3
    generalize upd H3 p (HO.lst (List.map V.str ws)) = H4 at s1 l1 hd4
    refine ⟨_, .inl (SqL.of l1), by rw [List.length_map]; omega, by rw [List.length_map]; omega, ?_⟩
    refine loop_range (fun i σ H' => ∃ o6 D, H' d = some (.lst D) ∧ H' p = some (.lst (ws.map V.str)) ∧ D.length = i ∧ (∀ (j : Nat) (x : V) (y : Str), D[j]? = some x → ws[j]? = some y → ItemAt v H' x y) ∧ σ = [some (.ref a), some (.int v), some (.str z), some (.ref d), some (plV (badGo v (ws.take i) 0)), some (.ref p), o6, none, none, none]) ⟨none, [], hd4, l1, rfl, (fun j x y e => nomatch e), rfl⟩ ?_ ?_
    · rintro i σ H5 hi ⟨o6, D, hd5, hp5, hl, hD, rfl⟩
      rw [List.length_map] at hi
      have hi' : i < ws.length := by omega
      have hw : ws[i]? = some ws[i] := List.getElem?_eq_getElem hi'
      have hix : ∀ H', H' p = some (.lst (ws.map V.str)) → ∀ Q', Q' (V.str ws[i]) H' → rIx K (V.ref p) (V.int i) H' Q' := fun H' s' Q' h' =>
        rIx_l (SqL.of s') (atI_nat (by rw [List.getElem?_map, List.getElem?_eq_getElem hi']; rfl)) h'
      have step : badGo v (ws.take (i + 1)) 0 = match badGo v (ws.take i) 0 with | some j => some j | none => if colB v ws[i] = true then none else some i := by
        rw [List.take_add_one, hw]
        show badGo v (ws.take i ++ [ws[i]]) 0 = _
        rw [badGo_snoc, List.length_take, Nat.zero_add, Nat.min_eq_left (by omega)]
      have hyl := wle _ (List.getElem_mem hi')
      rw [step]
      generalize ws[i] = y at hix hw hyl
      walk_at "rd"
      refine ⟨.inl ⟨rfl, _, SqL.of hd5⟩, hix H5 hp5 _ ?_⟩
      have put : ∀ (x : V) (H6 : Hp), Same H5 H6 → ItemAt v H6 x y → (upd H6 d (.lst (D ++ [x]))) d = some (.lst (D ++ [x])) ∧ (upd H6 d (.lst (D ++ [x]))) p = some (.lst (ws.map V.str)) ∧ (D ++ [x]).length = i + 1 ∧
          ∀ (j : Nat) (x' : V) (y' : Str), (D ++ [x])[j]? = some x' → ws[j]? = some y' → ItemAt v (upd H6 d (.lst (D ++ [x]))) x' y' := fun x H6 s6 hx => by
        refine ⟨upd_same, by rw [upd_ne hpd]; exact s6 _ _ hp5, by rw [List.length_append, hl]; rfl, fun j x' y' e1 e2 => ?_⟩
        have hd6 := s6 _ _ hd5
        by_cases hj : j < D.length
        · rw [List.getElem?_append_left hj] at e1
          exact ((hD j x' y' e1 e2).same s6).upd hd6
        · rw [List.getElem?_append_right (by omega)] at e1
          have ej : j = D.length := by
            have := (List.getElem?_eq_some_iff.mp e1).1
            simp at this
            omega
          rw [ej, Nat.sub_self] at e1
          cases e1
          rw [ej, hl, hw] at e2
          cases e2
          exact hx.upd hd6
      refine ⟨y, v, rfl, hyl, fun hc q H6 hq _ s6 => ?_, fun hc H6 s6 => ?_⟩
      · refine ⟨d, D, .ref q, rfl, rfl, s6 _ _ hd5, by omega, rIx_l (SqL.of upd_same) atI_end ?_⟩
        rw [if_neg (fun e => by cases e), if_pos hc]
        obtain ⟨p1, p2, p3, p4⟩ := put (.ref q) H6 s6 (by unfold ItemAt; rw [if_pos hc]; exact ⟨q, rfl, hq⟩)
        refine ⟨_, _, p1, p2, p3, p4, ?_, rfl⟩
        cases badGo v (ws.take i) 0 <;> rfl
      · refine ⟨d, D, .non, rfl, rfl, s6 _ _ hd5, by omega, rIx_l (SqL.of upd_same) atI_end ?_⟩
        have hc' : ¬ (colB v y = true) := by rw [hc]; exact Bool.false_ne_true
        rw [if_pos rfl, if_neg hc']
        obtain ⟨p1, p2, p3, p4⟩ := put .non H6 s6 (by unfold ItemAt; rw [if_neg hc'])
        cases badGo v (ws.take i) 0 with
        | none =>
          rw [if_pos (show plV none = .non from rfl)]
          exact ⟨_, _, p1, p2, p3, p4, rfl, rfl⟩
        | some j =>
          rw [if_neg (fun e => by cases e)]
          exact ⟨_, _, p1, p2, p3, p4, rfl, rfl⟩
    · rintro σ H5 ⟨o6, D, hd5, hp5, hl, hD, rfl⟩
      rw [List.length_map] at hl
      rw [List.length_map, show ((ws.length : Int)).toNat = ws.length by omega, List.take_length]
      exact hu _ _ ⟨_, o6, D, hd5, by omega, hD, rfl⟩
  rintro _ H4 ⟨o5, o6, D, hd4, hl, hD, rfl⟩
  refine cut2 (fun σ H' => H4 = H' ∧ σ = [some (.ref a), some (.int v), some (.str z), some (.ref d), some (plV (badGo v (piecesOf z) 0)), o5, o6, some .non, none, none]) ?_ ?_
  rotate_left
  · intro u' hu
    walk_at "rd"
    exact hu _ _ ⟨rfl, rfl⟩
  rintro _ _ ⟨rfl, rfl⟩
  refine cut2 (fun σ H' => H4 = H' ∧ σ = [some (.ref a), some (.int v), some (.str z), some (.ref d), some (plV (badGo v (piecesOf z) 0)), o5, o6, some .non, some .non, none]) ?_ ?_
  rotate_left
  · intro u' hu
    walk_at "rd"
    exact hu _ _ ⟨rfl, rfl⟩
  rintro _ _ ⟨rfl, rfl⟩
  refine cut2 (fun σ H' => Same H4 H' ∧ ((badGo v (piecesOf z) 0 = none ∧ ∃ q ps, H' q = some (.lst (ps.map V.ref)) ∧ TupsAt H' ps (piecesOf z) ∧ σ = [some (.ref a), some (.int v), some (.str z), some (.ref d), some .non, o5, o6, some .non, some (.ref q), none]) ∨
    ∃ i e ed, badGo v (piecesOf z) 0 = some i ∧ BadAt C i H' e ed ∧ σ = [some (.ref a), some (.int v), some (.str z), some (.ref d), some (.int i), o5, o6, some (.ref e), some .non, none])) ?_ ?_
  rotate_left
  · intro u' hu
    simp only [tSeq, tTry]
    walk_at "rd"
    refine ⟨z, v, rfl, hz, fun e q ps H5 hq ht s5 => ?_, fun i e x xd H5 hb s5 => ?_⟩
    · refine hu _ _ ⟨s5, .inl ⟨e, q, ps, hq, ht, ?_⟩⟩
      rw [e]
      rfl
    · refine ⟨x, rfl, xd, hb.1, hu _ _ ⟨s5, .inr ⟨i, x, xd, e, hb, ?_⟩⟩⟩
      rw [e]
      rfl
  rintro _ H5 ⟨s5, ⟨eb, q, ps, hq, ht, rfl⟩ | ⟨i, x, xd, eb, hb, rfl⟩⟩
  · walk_at "rd"
    refine ⟨_, .lst hq, true, rfl, ?_⟩
    rw [if_pos rfl]
    exact found_due hq (s5 _ _ hd4) ht hl (fun j x y h1 h2 => (hD j x y h1 h2).same s5) (badGo_all v _ 0 eb) (k _)
  · walk_at "rd"
    refine ⟨x, xd, i, i, rfl, hb, fun H6 _ => ?_⟩
    rw [decide_eq_true rfl]
    exact k _
end
theorem us1 {us : List Value} (hl : us.length = 1) : ∃ x0, us = [x0] := match us, hl with | [x0], _ => ⟨x0, rfl⟩
theorem us2 {us : List Value} (hl : us.length = 2) : ∃ x0 x1, us = [x0, x1] := match us, hl with | [x0, x1], _ => ⟨x0, x1, rfl⟩
theorem us3 {us : List Value} (hl : us.length = 3) : ∃ x0 x1 x2, us = [x0, x1, x2] := match us, hl with | [x0, x1, x2], _ => ⟨x0, x1, x2, rfl⟩
theorem us4 {us : List Value} (hl : us.length = 4) : ∃ x0 x1 x2 x3, us = [x0, x1, x2, x3] := match us, hl with | [x0, x1, x2, x3], _ => ⟨x0, x1, x2, x3, rfl⟩
theorem us5 {us : List Value} (hl : us.length = 5) : ∃ x0 x1 x2 x3 x4, us = [x0, x1, x2, x3, x4] := match us, hl with | [x0, x1, x2, x3, x4], _ => ⟨x0, x1, x2, x3, x4, rfl⟩
theorem us6 {us : List Value} (hl : us.length = 6) : ∃ x0 x1 x2 x3 x4 x5, us = [x0, x1, x2, x3, x4, x5] := match us, hl with | [x0, x1, x2, x3, x4, x5], _ => ⟨x0, x1, x2, x3, x4, x5, rfl⟩
theorem us7 {us : List Value} (hl : us.length = 7) : ∃ x0 x1 x2 x3 x4 x5 x6, us = [x0, x1, x2, x3, x4, x5, x6] := match us, hl with | [x0, x1, x2, x3, x4, x5, x6], _ => ⟨x0, x1, x2, x3, x4, x5, x6, rfl⟩
theorem all_mk {l : PySem.W.OpenLaw} {w : World} {K : PySem.W.Frag} {h : Heap} {mg : Str → Option Value} {fa : Addr} {C_BadLine : Addr} {C_ScoreError : Addr} {C_BadRow : Addr} {C_Unlike : Addr} {C_Unfit : Addr} {C_NoLine : Addr} {C_Apart : Addr} {C_Crowded : Addr} {C_Endless : Addr} {C_NoName : Addr} {C_NoNumber : Addr} {C_NoRow : Addr} {C_TooWide : Addr} (X : K.In h) (G : h.Ns mainGlobals mg) (hfa : mg "law" = some (.ref fa))
    (n_BadLine : PySem.W.nsIn K mainGlobals "BadLine" = some (some (.ref C_BadLine)))
    (n_ScoreError : PySem.W.nsIn K mainGlobals "ScoreError" = some (some (.ref C_ScoreError)))
    (n_BadRow : PySem.W.nsIn K mainGlobals "BadRow" = some (some (.ref C_BadRow)))
    (n_Unlike : PySem.W.nsIn K mainGlobals "Unlike" = some (some (.ref C_Unlike)))
    (n_Unfit : PySem.W.nsIn K mainGlobals "Unfit" = some (some (.ref C_Unfit)))
    (n_NoLine : PySem.W.nsIn K mainGlobals "NoLine" = some (some (.ref C_NoLine)))
    (n_Apart : PySem.W.nsIn K mainGlobals "Apart" = some (some (.ref C_Apart)))
    (n_Crowded : PySem.W.nsIn K mainGlobals "Crowded" = some (some (.ref C_Crowded)))
    (n_Endless : PySem.W.nsIn K mainGlobals "Endless" = some (some (.ref C_Endless)))
    (n_NoName : PySem.W.nsIn K mainGlobals "NoName" = some (some (.ref C_NoName)))
    (n_NoNumber : PySem.W.nsIn K mainGlobals "NoNumber" = some (some (.ref C_NoNumber)))
    (n_NoRow : PySem.W.nsIn K mainGlobals "NoRow" = some (some (.ref C_NoRow)))
    (n_TooWide : PySem.W.nsIn K mainGlobals "TooWide" = some (some (.ref C_TooWide)))
    (A_BadLine___init__ : ∃ f fd, ExK K C_BadLine f ["__setattr__", "__getattribute__", "__getattr__", "__class__", "place"] ∧ Fun K "__init__" "BadLine.__init__" s_BadLine___init__ f fd)
    (k_BadLine_ScoreError : PySem.W.kitOne K (.ref C_BadLine) (.ref C_ScoreError) = some true)
    (k_BadLine_ValueError : PySem.W.kitOne K (.ref C_BadLine) (.type "ValueError") = some true)
    (k_BadLine_BadRow : PySem.W.kitOne K (.ref C_BadLine) (.ref C_BadRow) = some false)
    (k_BadLine_Unlike : PySem.W.kitOne K (.ref C_BadLine) (.ref C_Unlike) = some false)
    (k_BadLine_Unfit : PySem.W.kitOne K (.ref C_BadLine) (.ref C_Unfit) = some false)
    (k_BadLine_NoLine : PySem.W.kitOne K (.ref C_BadLine) (.ref C_NoLine) = some false)
    (k_BadLine_Apart : PySem.W.kitOne K (.ref C_BadLine) (.ref C_Apart) = some false)
    (k_BadLine_Crowded : PySem.W.kitOne K (.ref C_BadLine) (.ref C_Crowded) = some false)
    (k_BadLine_Endless : PySem.W.kitOne K (.ref C_BadLine) (.ref C_Endless) = some false)
    (k_BadLine_NoName : PySem.W.kitOne K (.ref C_BadLine) (.ref C_NoName) = some false)
    (k_BadLine_NoNumber : PySem.W.kitOne K (.ref C_BadLine) (.ref C_NoNumber) = some false)
    (k_BadLine_NoRow : PySem.W.kitOne K (.ref C_BadLine) (.ref C_NoRow) = some false)
    (k_BadLine_TooWide : PySem.W.kitOne K (.ref C_BadLine) (.ref C_TooWide) = some false)
    (A_law_stirred : ∃ f fd, DefAt K "_law_stirred" s_law_stirred f fd)
    (A_law_got : ∃ f fd, DefAt K "_law_got" s_law_got f fd)
    (A_law_cells : ∃ f fd, DefAt K "_law_cells" s_law_cells f fd)
    (A_is_number : ∃ f fd, DefAt K "is_number" s_is_number f fd)
    (A_is_note : ∃ f fd, DefAt K "is_note" s_is_note f fd)
    (A_note_of : ∃ f fd, DefAt K "note_of" s_note_of f fd)
    (A_read_column : ∃ f fd, DefAt K "read_column" s_read_column f fd)
    (A_read_line : ∃ f fd, DefAt K "read_line" s_read_line f fd)
    (A_law_sign : ∃ f fd, DefAt K "_law_sign" s_law_sign f fd)
    (A_law_note : ∃ f fd, DefAt K "_law_note" s_law_note f fd)
    (A_law_bad_note : ∃ f fd, DefAt K "_law_bad_note" s_law_bad_note f fd)
    (A_law_piece : ∃ f fd, DefAt K "_law_piece" s_law_piece f fd)
    (A_law_text : ∃ f fd, DefAt K "_law_text" s_law_text f fd)
    (A_law_number : ∃ f fd, DefAt K "_law_number" s_law_number f fd)
    (A_law_column : ∃ f fd, DefAt K "_law_column" s_law_column f fd)
    (A_law_refusal : ∃ f fd, DefAt K "_law_refusal" s_law_refusal f fd)
    (z_len : PySem.W.nsIn K mainGlobals "len" = some none)
    (z_abs : PySem.W.nsIn K mainGlobals "abs" = some none)
    (z_divmod : PySem.W.nsIn K mainGlobals "divmod" = some none)
    (z_range : PySem.W.nsIn K mainGlobals "range" = some none)
    (z_min : PySem.W.nsIn K mainGlobals "min" = some none)
    (z_max : PySem.W.nsIn K mainGlobals "max" = some none)
    (z_int : PySem.W.nsIn K mainGlobals "int" = some none)
    (z_str : PySem.W.nsIn K mainGlobals "str" = some none)
    (z_all : PySem.W.nsIn K mainGlobals "all" = some none)
    (z_any : PySem.W.nsIn K mainGlobals "any" = some none)
    (z_tuple : PySem.W.nsIn K mainGlobals "tuple" = some none)
    (z_list : PySem.W.nsIn K mainGlobals "list" = some none)
    (z_enumerate : PySem.W.nsIn K mainGlobals "enumerate" = some none)
    (z_isinstance : PySem.W.nsIn K mainGlobals "isinstance" = some none)
    (z_bool : PySem.W.nsIn K mainGlobals "bool" = some none)
    (z_ValueError : PySem.W.nsIn K mainGlobals "ValueError" = some none)
    (g_FIGURES : ∃ u, PySem.W.nsIn K mainGlobals "FIGURES" = some (some u) ∧ RelV (.str "0123456789") u)
    (g_MOST_FIGURES : ∃ u, PySem.W.nsIn K mainGlobals "MOST_FIGURES" = some (some u) ∧ RelV (.int 40) u)
    (g_HOLE : ∃ u, PySem.W.nsIn K mainGlobals "HOLE" = some (some u) ∧ RelV (.str ".") u)
    (A_law : ∃ f fd, DefAt K "law" s_law f fd)
    : ∃ fd : FuncData, (∀ (s : Shared) (v : Value), BindsTo s fd ⟨[v], []⟩ [("_law_script", v)]) ∧ ∀ base : Heap, K.In base → base.Ns mainGlobals mg → FnOk l.prog w K mg base CX0 5 fa fd ["_law_script"] (spLaw K) := by
  obtain ⟨f_law, fd_law, B_law⟩ := A_law
  obtain ⟨f_BadLine___init__, fd_BadLine___init__, X_BadLine___init__, F_BadLine___init__⟩ := A_BadLine___init__
  obtain ⟨f_law_stirred, fd_law_stirred, B_law_stirred⟩ := A_law_stirred
  have F_law_stirred := B_law_stirred.fn
  obtain ⟨f_law_got, fd_law_got, B_law_got⟩ := A_law_got
  have F_law_got := B_law_got.fn
  obtain ⟨f_law_cells, fd_law_cells, B_law_cells⟩ := A_law_cells
  have F_law_cells := B_law_cells.fn
  obtain ⟨f_is_number, fd_is_number, B_is_number⟩ := A_is_number
  have F_is_number := B_is_number.fn
  obtain ⟨f_is_note, fd_is_note, B_is_note⟩ := A_is_note
  have F_is_note := B_is_note.fn
  obtain ⟨f_note_of, fd_note_of, B_note_of⟩ := A_note_of
  have F_note_of := B_note_of.fn
  obtain ⟨f_read_column, fd_read_column, B_read_column⟩ := A_read_column
  have F_read_column := B_read_column.fn
  obtain ⟨f_read_line, fd_read_line, B_read_line⟩ := A_read_line
  have F_read_line := B_read_line.fn
  obtain ⟨f_law_sign, fd_law_sign, B_law_sign⟩ := A_law_sign
  have F_law_sign := B_law_sign.fn
  obtain ⟨f_law_note, fd_law_note, B_law_note⟩ := A_law_note
  have F_law_note := B_law_note.fn
  obtain ⟨f_law_bad_note, fd_law_bad_note, B_law_bad_note⟩ := A_law_bad_note
  have F_law_bad_note := B_law_bad_note.fn
  obtain ⟨f_law_piece, fd_law_piece, B_law_piece⟩ := A_law_piece
  have F_law_piece := B_law_piece.fn
  obtain ⟨f_law_text, fd_law_text, B_law_text⟩ := A_law_text
  have F_law_text := B_law_text.fn
  obtain ⟨f_law_number, fd_law_number, B_law_number⟩ := A_law_number
  have F_law_number := B_law_number.fn
  obtain ⟨f_law_column, fd_law_column, B_law_column⟩ := A_law_column
  have F_law_column := B_law_column.fn
  obtain ⟨f_law_refusal, fd_law_refusal, B_law_refusal⟩ := A_law_refusal
  have F_law_refusal := B_law_refusal.fn
  obtain ⟨u_FIGURES, g_FIGURES, r_FIGURES⟩ := g_FIGURES
  obtain ⟨u_MOST_FIGURES, g_MOST_FIGURES, r_MOST_FIGURES⟩ := g_MOST_FIGURES
  obtain ⟨u_HOLE, g_HOLE, r_HOLE⟩ := g_HOLE
  have e := hfa.symm.trans (PySem.W.mg_of X G B_law.ns)
  cases e
  have T : Txt mg 0 := { n_len := PySem.W.mg_none_of X G z_len, n_abs := PySem.W.mg_none_of X G z_abs, n_divmod := PySem.W.mg_none_of X G z_divmod, n_range := PySem.W.mg_none_of X G z_range, n_min := PySem.W.mg_none_of X G z_min, n_max := PySem.W.mg_none_of X G z_max, n_int := PySem.W.mg_none_of X G z_int, n_str := PySem.W.mg_none_of X G z_str, n_all := PySem.W.mg_none_of X G z_all, n_any := PySem.W.mg_none_of X G z_any, n_tuple := PySem.W.mg_none_of X G z_tuple, n_list := PySem.W.mg_none_of X G z_list, n_enumerate := PySem.W.mg_none_of X G z_enumerate, n_isinstance := PySem.W.mg_none_of X G z_isinstance, n_bool := PySem.W.mg_none_of X G z_bool, n_ValueError := PySem.W.mg_none_of X G z_ValueError, g_FIGURES := ⟨_, PySem.W.mg_of X G g_FIGURES, r_FIGURES⟩, g_MOST_FIGURES := ⟨_, PySem.W.mg_of X G g_MOST_FIGURES, r_MOST_FIGURES⟩, g_HOLE := ⟨_, PySem.W.mg_of X G g_HOLE, r_HOLE⟩ }
  obtain ⟨oc, od, kV, doc, pm, an, cdv, ct, osl, rfl, lk, hcd⟩ := B_law.fn.ex
  refine ⟨PySem.W.fnOf "law" "law" (defArgs s_law) (defBody s_law) (defScope s_law) .none kV doc pm an cdv ct, fun s v => .of_eq rfl, fun base _ _ => ?_⟩
  have DE_BadLine : DefE l.prog w K mg base "BadLine" C_BadLine 1 ["self", "place"] (spX1 C_BadLine "place") ["__setattr__", "__getattribute__", "__getattr__", "__class__", "place"] := ⟨f_BadLine___init__, fd_BadLine___init__, X_BadLine___init__, ok_BadLine F_BadLine___init__ X_BadLine___init__, PySem.W.mg_of X G n_BadLine, F_BadLine___init__.binds (fun _ _ _ _ _ _ us hl => by obtain ⟨_, _, rfl⟩ := us2 hl; rfl)⟩
  have TX : TxtX mg 0 K C_BadLine C_ScoreError C_BadRow C_Unlike C_Unfit C_NoLine C_Apart C_Crowded C_Endless C_NoName C_NoNumber C_NoRow C_TooWide := { T with c_ScoreError := ⟨_, PySem.W.mg_of X G n_ScoreError, rfl⟩, c_BadRow := ⟨_, PySem.W.mg_of X G n_BadRow, rfl⟩, c_Unlike := ⟨_, PySem.W.mg_of X G n_Unlike, rfl⟩, c_Unfit := ⟨_, PySem.W.mg_of X G n_Unfit, rfl⟩, c_NoLine := ⟨_, PySem.W.mg_of X G n_NoLine, rfl⟩, c_Apart := ⟨_, PySem.W.mg_of X G n_Apart, rfl⟩, c_Crowded := ⟨_, PySem.W.mg_of X G n_Crowded, rfl⟩, c_Endless := ⟨_, PySem.W.mg_of X G n_Endless, rfl⟩, c_NoName := ⟨_, PySem.W.mg_of X G n_NoName, rfl⟩, c_NoNumber := ⟨_, PySem.W.mg_of X G n_NoNumber, rfl⟩, c_NoRow := ⟨_, PySem.W.mg_of X G n_NoRow, rfl⟩, c_TooWide := ⟨_, PySem.W.mg_of X G n_TooWide, rfl⟩, kS := k_BadLine_ScoreError, kV := k_BadLine_ValueError, k1 := k_BadLine_BadRow, k2 := k_BadLine_Unlike, k3 := k_BadLine_Unfit, k4 := k_BadLine_NoLine, k5 := k_BadLine_Apart, k6 := k_BadLine_Crowded, k7 := k_BadLine_Endless, k8 := k_BadLine_NoName, k9 := k_BadLine_NoNumber, kA := k_BadLine_NoRow, kB := k_BadLine_TooWide }
  have D_law_stirred : Def l.prog w K mg base "_law_stirred" 1 ["_law_cell", "_law_place"] spStirred := B_law_stirred.df X G (ok_stirred F_law_stirred T) (F_law_stirred.binds (fun _ _ _ _ _ _ us hl => by obtain ⟨_, _, rfl⟩ := us2 hl; rfl))
  have D_law_got : Def l.prog w K mg base "_law_got" 2 ["_law_script", "_law_place"] (spGot K) := B_law_got.df X G (ok_got F_law_got T D_law_stirred) (F_law_got.binds (fun _ _ _ _ _ _ us hl => by obtain ⟨_, _, rfl⟩ := us2 hl; rfl))
  have D_law_cells : Def l.prog w K mg base "_law_cells" 3 ["_law_script", "_law_first", "_law_last"] (spCells K) := B_law_cells.df X G (ok_cells F_law_cells T D_law_got) (F_law_cells.binds (fun _ _ _ _ _ _ us hl => by obtain ⟨_, _, _, rfl⟩ := us3 hl; rfl))
  have D_is_number : Def l.prog w K mg base "is_number" 1 ["word"] spNum := B_is_number.df X G (ok_number F_is_number T) (F_is_number.binds (fun _ _ _ _ _ _ us hl => by obtain ⟨_, rfl⟩ := us1 hl; rfl))
  have D_is_note : Def l.prog w K mg base "is_note" 2 ["word"] spIsNote := B_is_note.df X G (ok_is_note F_is_note T D_is_number) (F_is_note.binds (fun _ _ _ _ _ _ us hl => by obtain ⟨_, rfl⟩ := us1 hl; rfl))
  have D_note_of : Def l.prog w K mg base "note_of" 1 ["word"] spNoteOf := B_note_of.df X G (ok_note_of F_note_of T) (F_note_of.binds (fun _ _ _ _ _ _ us hl => by obtain ⟨_, rfl⟩ := us1 hl; rfl))
  have DX_read_column : DefX l.prog w K mg base "read_column" 3 ["piece", "voices", "place"] (spReadCol C_BadLine) := ⟨f_read_column, fd_read_column, ok_read_column F_read_column T D_is_note (D_note_of.up (by decide)) DE_BadLine, PySem.W.mg_of X G B_read_column.ns, F_read_column.kp, F_read_column.binds (fun _ _ _ _ _ _ us hl => by obtain ⟨_, _, _, rfl⟩ := us3 hl; rfl)⟩
  have DX_read_line : DefX l.prog w K mg base "read_line" 4 ["text", "voices"] (spReadLine C_BadLine) := ⟨f_read_line, fd_read_line, ok_read_line F_read_line T DX_read_column, PySem.W.mg_of X G B_read_line.ns, F_read_line.kp, F_read_line.binds (fun _ _ _ _ _ _ us hl => by obtain ⟨_, _, rfl⟩ := us2 hl; rfl)⟩
  have D_law_sign : Def l.prog w K mg base "_law_sign" 1 ["_law_cell"] (spTx 1) := B_law_sign.df X G (ok_sign F_law_sign T) (F_law_sign.binds (fun _ _ _ _ _ _ us hl => by obtain ⟨_, rfl⟩ := us1 hl; rfl))
  have D_law_note : Def l.prog w K mg base "_law_note" 1 ["_law_cell"] (spTx 41) := B_law_note.df X G (ok_note F_law_note T) (F_law_note.binds (fun _ _ _ _ _ _ us hl => by obtain ⟨_, rfl⟩ := us1 hl; rfl))
  have D_law_bad_note : Def l.prog w K mg base "_law_bad_note" 2 ["_law_cell"] (spTx 44) := B_law_bad_note.df X G (ok_bad_note F_law_bad_note T D_law_sign) (F_law_bad_note.binds (fun _ _ _ _ _ _ us hl => by obtain ⟨_, rfl⟩ := us1 hl; rfl))
  have D_law_piece : Def l.prog w K mg base "_law_piece" 3 ["_law_cell", "_law_voices", "_law_bad"] spPiece := B_law_piece.df X G (ok_piece F_law_piece T (D_law_note.up (by decide)) D_law_bad_note) (F_law_piece.binds (fun _ _ _ _ _ _ us hl => by obtain ⟨_, _, _, rfl⟩ := us3 hl; rfl))
  have D_law_text : Def l.prog w K mg base "_law_text" 4 ["_law_script"] (spTextL K) := B_law_text.df X G (ok_textL F_law_text T (D_law_got.up (by decide)) D_law_cells D_law_piece) (F_law_text.binds (fun _ _ _ _ _ _ us hl => by obtain ⟨_, rfl⟩ := us1 hl; rfl))
  have D_law_number : Def l.prog w K mg base "_law_number" 1 ["_law_word"] spLNum := B_law_number.df X G (ok_lnum F_law_number T) (F_law_number.binds (fun _ _ _ _ _ _ us hl => by obtain ⟨_, rfl⟩ := us1 hl; rfl))
  have D_law_column : Def l.prog w K mg base "_law_column" 2 ["_law_piece_here", "_law_voices"] spLCol := B_law_column.df X G (ok_lcol F_law_column T D_law_number) (F_law_column.binds (fun _ _ _ _ _ _ us hl => by obtain ⟨_, _, rfl⟩ := us2 hl; rfl))
  have D_law_refusal : Def l.prog w K mg base "_law_refusal" 1 ["_law_e", "_law_place"] (spRefusal C_BadLine) := B_law_refusal.df X G (ok_refusal F_law_refusal TX DE_BadLine) (F_law_refusal.binds (fun _ _ _ _ _ _ us hl => by obtain ⟨_, _, rfl⟩ := us2 hl; rfl))
  exact ok_law B_law.fn T DE_BadLine (D_law_got.up (by decide)) D_law_text (D_law_column.up (by decide)) (D_law_refusal.up (by decide)) DX_read_line
theorem walk {l : PySem.W.OpenLaw} {q : Program} {loose : List Str} {XP : (Str → Option Value) → Heap → Prop} {YP : World → Heap → Prop} {d : DefRec} {K : Params → PySem.W.Frag} (hn : l.most = some 63) (hdf : d.params.defaults = [])
    (hY : ∀ (w : World) (h : Heap), YP w h → (K w.params).In h)
    (F : ∀ (w : World) (mg : Str → Option Value) (fa : Addr) (h : Heap), (K w.params).In h → h.Ns mainGlobals mg → mg d.name = some (.ref fa) →
      ∃ fd : FuncData, (∀ (s : Shared) (u : Value), BindsTo s fd ⟨[u], []⟩ [("_law_script", u)]) ∧ ∀ base : Heap, (K w.params).In base → base.Ns mainGlobals mg → FnOk l.prog w (K w.params) mg base CX0 5 fa fd ["_law_script"] (spLaw (K w.params))) :
    PySem.W.WalkO q loose XP YP l.row.toRowW d [] (fun f vs => PySem.call f vs) :=
  L2.walk_ofB (n := 63) (k := 5) (x := "_law_script") (CX := fun _ => CX0) (sp := fun w => spLaw (K w.params)) hn (by decide) hdf ⟨rfl, by decide, by decide⟩ hY F (fun _ _ a ns hl hb _ hS => ⟨a, ns, rfl, hS, hb, hl, fun _ => rfl⟩) fun _ _ _ _ _ z => z
end K04
namespace PySem.W.Fast
def tw2116236024875947266:=0
def tw11657564559684194340:=0
def tw5439466436657942628:=0
def tw15080340553157959464:=0
def tw8579330283122849994:=0
def tw5778484258333739626:=0
def tw16571560331043879820:=0
def tw8312138036851338991:=0
def tw8400845806759329906:=0
def tw12504667239914212338:=0
def tw5394597688858190648:=0
def tw10419102184788921884:=0
end PySem.W.Fast
open PySem PySem.W PyProof.Rows
set_option maxRecDepth 100000 in
set_option maxHeartbeats 0 in
theorem PySem.Challenge.cw_fourvoices_k04_lines_refused_holds : PySem.Challenge.rw_fourvoices_k04_lines_refused.Holds := by
  w_on; o_law; k_head; (case hw => w_witness2)
  k_fill
  refine K04.walk (l := PySem.Challenge.rw_fourvoices_k04_lines_refused) rfl rfl (fun w h Y => PySem.W.kIn_of Y) ?F
  case F =>
    intro w mg fa h KX G hmg
    refine' K04.all_mk KX G hmg ?n_BadLine ?n_ScoreError ?n_BadRow ?n_Unlike ?n_Unfit ?n_NoLine ?n_Apart ?n_Crowded ?n_Endless ?n_NoName ?n_NoNumber ?n_NoRow ?n_TooWide ?A_BadLine___init__ ?k_BadLine_ScoreError ?k_BadLine_ValueError ?k_BadLine_BadRow ?k_BadLine_Unlike ?k_BadLine_Unfit ?k_BadLine_NoLine ?k_BadLine_Apart ?k_BadLine_Crowded ?k_BadLine_Endless ?k_BadLine_NoName ?k_BadLine_NoNumber ?k_BadLine_NoRow ?k_BadLine_TooWide ?A_law_stirred ?A_law_got ?A_law_cells ?A_is_number ?A_is_note ?A_note_of ?A_read_column ?A_read_line ?A_law_sign ?A_law_note ?A_law_bad_note ?A_law_piece ?A_law_text ?A_law_number ?A_law_column ?A_law_refusal ?z_len ?z_abs ?z_divmod ?z_range ?z_min ?z_max ?z_int ?z_str ?z_all ?z_any ?z_tuple ?z_list ?z_enumerate ?z_isinstance ?z_bool ?z_ValueError ?g_FIGURES ?g_MOST_FIGURES ?g_HOLE ?A_law
    (case n_BadLine => k_is)
    (case n_ScoreError => k_is)
    (case n_BadRow => k_is)
    (case n_Unlike => k_is)
    (case n_Unfit => k_is)
    (case n_NoLine => k_is)
    (case n_Apart => k_is)
    (case n_Crowded => k_is)
    (case n_Endless => k_is)
    (case n_NoName => k_is)
    (case n_NoNumber => k_is)
    (case n_NoRow => k_is)
    (case n_TooWide => k_is)
    (case A_BadLine___init__ => (refine' L2.exAt_mk ?lk_13 ?ln_13 ?en_13 ?ii_13 ?aa_13 ?ab_13 ?ac_13 ?ad_13 ?ae_13 ?ls_13 ?lm_13 ?em_13 ?is_13 ?ba_13 ?bb_13 ?bc_13 ?bd_13 ?be_13 ?kp_13 ?fn_13 ?l_13 ?c_13 ?k_13; (case lk_13 => k_is); (case ln_13 => k_is); (case en_13 => rfl); (case ii_13 => k_is); (case aa_13 => k_is); (case ab_13 => k_is); (case ac_13 => k_is); (case ad_13 => k_is); (case ae_13 => k_is); (case ls_13 => k_is); (case lm_13 => k_is); (case em_13 => rfl); (case is_13 => k_is); (case ba_13 => k_is); (case bb_13 => k_is); (case bc_13 => k_is); (case bd_13 => k_is); (case be_13 => k_is); (case kp_13 => k_is); (case fn_13 => k_is); (case l_13 => k_is); (case c_13 => k_is); (case k_13 => k_is)))
    (case k_BadLine_ScoreError => (refine' L2.kit_own ?a_14 ?b_14 ?c_14 ?d_14; (case a_14 => rfl); (case b_14 => k_is); (case c_14 => k_is); (case d_14 => k_is)))
    (case k_BadLine_ValueError => (refine' L2.kit_ty ?a_15 ?b_15 ?d_15; (case a_15 => rfl); (case b_15 => rfl); (case d_15 => k_is)))
    (case k_BadLine_BadRow => (refine' L2.kit_own ?a_16 ?b_16 ?c_16 ?d_16; (case a_16 => rfl); (case b_16 => k_is); (case c_16 => k_is); (case d_16 => k_is)))
    (case k_BadLine_Unlike => (refine' L2.kit_own ?a_17 ?b_17 ?c_17 ?d_17; (case a_17 => rfl); (case b_17 => k_is); (case c_17 => k_is); (case d_17 => k_is)))
    (case k_BadLine_Unfit => (refine' L2.kit_own ?a_18 ?b_18 ?c_18 ?d_18; (case a_18 => rfl); (case b_18 => k_is); (case c_18 => k_is); (case d_18 => k_is)))
    (case k_BadLine_NoLine => (refine' L2.kit_own ?a_19 ?b_19 ?c_19 ?d_19; (case a_19 => rfl); (case b_19 => k_is); (case c_19 => k_is); (case d_19 => k_is)))
    (case k_BadLine_Apart => (refine' L2.kit_own ?a_20 ?b_20 ?c_20 ?d_20; (case a_20 => rfl); (case b_20 => k_is); (case c_20 => k_is); (case d_20 => k_is)))
    (case k_BadLine_Crowded => (refine' L2.kit_own ?a_21 ?b_21 ?c_21 ?d_21; (case a_21 => rfl); (case b_21 => k_is); (case c_21 => k_is); (case d_21 => k_is)))
    (case k_BadLine_Endless => (refine' L2.kit_own ?a_22 ?b_22 ?c_22 ?d_22; (case a_22 => rfl); (case b_22 => k_is); (case c_22 => k_is); (case d_22 => k_is)))
    (case k_BadLine_NoName => (refine' L2.kit_own ?a_23 ?b_23 ?c_23 ?d_23; (case a_23 => rfl); (case b_23 => k_is); (case c_23 => k_is); (case d_23 => k_is)))
    (case k_BadLine_NoNumber => (refine' L2.kit_own ?a_24 ?b_24 ?c_24 ?d_24; (case a_24 => rfl); (case b_24 => k_is); (case c_24 => k_is); (case d_24 => k_is)))
    (case k_BadLine_NoRow => (refine' L2.kit_own ?a_25 ?b_25 ?c_25 ?d_25; (case a_25 => rfl); (case b_25 => k_is); (case c_25 => k_is); (case d_25 => k_is)))
    (case k_BadLine_TooWide => (refine' L2.kit_own ?a_26 ?b_26 ?c_26 ?d_26; (case a_26 => rfl); (case b_26 => k_is); (case c_26 => k_is); (case d_26 => k_is)))
    (case A_law_stirred => (refine' L2.defAt_mk ?a_27 ?l_27 ?c_27 ?k_27; (case a_27 => k_is); (case l_27 => k_is); (case c_27 => k_is); (case k_27 => k_is)))
    (case A_law_got => (refine' L2.defAt_mk ?a_28 ?l_28 ?c_28 ?k_28; (case a_28 => k_is); (case l_28 => k_is); (case c_28 => k_is); (case k_28 => k_is)))
    (case A_law_cells => (refine' L2.defAt_mk ?a_29 ?l_29 ?c_29 ?k_29; (case a_29 => k_is); (case l_29 => k_is); (case c_29 => k_is); (case k_29 => k_is)))
    (case A_is_number => (refine' L2.defAt_mk ?a_30 ?l_30 ?c_30 ?k_30; (case a_30 => k_is); (case l_30 => k_is); (case c_30 => k_is); (case k_30 => k_is)))
    (case A_is_note => (refine' L2.defAt_mk ?a_31 ?l_31 ?c_31 ?k_31; (case a_31 => k_is); (case l_31 => k_is); (case c_31 => k_is); (case k_31 => k_is)))
    (case A_note_of => (refine' L2.defAt_mk ?a_32 ?l_32 ?c_32 ?k_32; (case a_32 => k_is); (case l_32 => k_is); (case c_32 => k_is); (case k_32 => k_is)))
    (case A_read_column => (refine' L2.defAt_mk ?a_33 ?l_33 ?c_33 ?k_33; (case a_33 => k_is); (case l_33 => k_is); (case c_33 => k_is); (case k_33 => k_is)))
    (case A_read_line => (refine' L2.defAt_mk ?a_34 ?l_34 ?c_34 ?k_34; (case a_34 => k_is); (case l_34 => k_is); (case c_34 => k_is); (case k_34 => k_is)))
    (case A_law_sign => (refine' L2.defAt_mk ?a_35 ?l_35 ?c_35 ?k_35; (case a_35 => k_is); (case l_35 => k_is); (case c_35 => k_is); (case k_35 => k_is)))
    (case A_law_note => (refine' L2.defAt_mk ?a_36 ?l_36 ?c_36 ?k_36; (case a_36 => k_is); (case l_36 => k_is); (case c_36 => k_is); (case k_36 => k_is)))
    (case A_law_bad_note => (refine' L2.defAt_mk ?a_37 ?l_37 ?c_37 ?k_37; (case a_37 => k_is); (case l_37 => k_is); (case c_37 => k_is); (case k_37 => k_is)))
    (case A_law_piece => (refine' L2.defAt_mk ?a_38 ?l_38 ?c_38 ?k_38; (case a_38 => k_is); (case l_38 => k_is); (case c_38 => k_is); (case k_38 => k_is)))
    (case A_law_text => (refine' L2.defAt_mk ?a_39 ?l_39 ?c_39 ?k_39; (case a_39 => k_is); (case l_39 => k_is); (case c_39 => k_is); (case k_39 => k_is)))
    (case A_law_number => (refine' L2.defAt_mk ?a_40 ?l_40 ?c_40 ?k_40; (case a_40 => k_is); (case l_40 => k_is); (case c_40 => k_is); (case k_40 => k_is)))
    (case A_law_column => (refine' L2.defAt_mk ?a_41 ?l_41 ?c_41 ?k_41; (case a_41 => k_is); (case l_41 => k_is); (case c_41 => k_is); (case k_41 => k_is)))
    (case A_law_refusal => (refine' L2.defAt_mk ?a_42 ?l_42 ?c_42 ?k_42; (case a_42 => k_is); (case l_42 => k_is); (case c_42 => k_is); (case k_42 => k_is)))
    (case z_len => k_is)
    (case z_abs => k_is)
    (case z_divmod => k_is)
    (case z_range => k_is)
    (case z_min => k_is)
    (case z_max => k_is)
    (case z_int => k_is)
    (case z_str => k_is)
    (case z_all => k_is)
    (case z_any => k_is)
    (case z_tuple => k_is)
    (case z_list => k_is)
    (case z_enumerate => k_is)
    (case z_isinstance => k_is)
    (case z_bool => k_is)
    (case z_ValueError => k_is)
    (case g_FIGURES => (refine' L2.const_mk ?e_59 ?r_59; (case e_59 => k_is); (case r_59 => exact ⟨_, by with_unfolding_all rfl⟩)))
    (case g_MOST_FIGURES => (refine' L2.const_mk ?e_60 ?r_60; (case e_60 => k_is); (case r_60 => exact ⟨_, by with_unfolding_all rfl⟩)))
    (case g_HOLE => (refine' L2.const_mk ?e_61 ?r_61; (case e_61 => k_is); (case r_61 => exact ⟨_, by with_unfolding_all rfl⟩)))
    (case A_law => (refine' L2.defAt_mk ?a_62 ?l_62 ?c_62 ?k_62; (case a_62 => k_is); (case l_62 => k_is); (case c_62 => k_is); (case k_62 => k_is)))
