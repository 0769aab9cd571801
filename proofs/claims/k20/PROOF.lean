import PyProof.Rows.All
import Wide.All
import OpenK.AllK
import Wide.FinOn
import Lean
import PyProof.EqAt
import PyProof.EqKinds
import PyProof.TupleCall
import KE.KTab
import KE.KRevSl
import PyProof.Rows.Range3
import PyProof.WalkInts
import PyProof.Rows.StrSplitMax
import PySem.Challenge.RW_fourvoices_k20_whole_rules_walk
set_option Elab.async false
set_option linter.all false
set_option maxRecDepth 100000
namespace L2
open PySem PySem.Spec PyProof.Rows
abbrev Key := Sum Int Str
def keyIs : Key → Value → Bool
  | .inl k, v => Value.isInt k v
  | .inr x, v => Value.isStrOf x v
def keyH (w : World) : Key → Int
  | .inl k => hashInt k
  | .inr x => hashStr w x
theorem keyIs_shape : ∀ {k : Key} {v : Value}, keyIs k v = true → (∃ i t, k = Sum.inl i ∧ v = Value.int i t) ∨ (∃ x t, k = Sum.inr x ∧ v = Value.str x t)
  | .inl i, v, h => by
    obtain ⟨t, e⟩ := Value.isInt_shape (k := i) (v := v) h
    exact .inl ⟨i, t, rfl, e⟩
  | .inr x, v, h => by
    obtain ⟨t, e⟩ := Value.isStrOf_shape (x := x) (v := v) h
    exact .inr ⟨x, t, rfl, e⟩
theorem key_ll (a b : Int) : decide ((Sum.inl a : Key) = Sum.inl b) = (a == b) := by
  by_cases e : a = b
  · subst e; simp
  · have h : ¬ (Sum.inl a : Key) = Sum.inl b := fun q => e (Sum.inl.inj q)
    rw [decide_eq_false h]
    exact (beq_eq_false_iff_ne.mpr e).symm
theorem key_rr (a b : Str) : decide ((Sum.inr a : Key) = Sum.inr b) = decide (a = b) := by
  by_cases e : a = b
  · subst e; simp
  · have h : ¬ (Sum.inr a : Key) = Sum.inr b := fun q => e (Sum.inr.inj q)
    rw [decide_eq_false h, decide_eq_false e]
theorem key_lr (a : Int) (b : Str) : decide ((Sum.inl a : Key) = Sum.inr b) = false := decide_eq_false (fun q => nomatch q)
theorem key_rl (a : Str) (b : Int) : decide ((Sum.inr a : Key) = Sum.inl b) = false := decide_eq_false (fun q => nomatch q)
def mixKind (prog : Program) (w : World) : PySem.KeyKind prog w Key where
  is := keyIs
  hash := keyH w
  inj := fun v a b ha hb => by
    rcases keyIs_shape ha with ⟨i, t, rfl, rfl⟩ | ⟨x, t, rfl, rfl⟩
    · rcases keyIs_shape hb with ⟨j, u, rfl, e⟩ | ⟨y, u, rfl, e⟩
      · injection e with e1 _; rw [e1]
      · exact nomatch e
    · rcases keyIs_shape hb with ⟨j, u, rfl, e⟩ | ⟨y, u, rfl, e⟩
      · exact nomatch e
      · injection e with e1 _; rw [e1]
  byValue := fun k v h => by
    rcases keyIs_shape h with ⟨i, t, rfl, rfl⟩ | ⟨x, t, rfl, rfl⟩ <;> rfl
  pyHash := fun hv h => by
    rcases keyIs_shape hv with ⟨i, t, rfl, rfl⟩ | ⟨x, t, rfl, rfl⟩
    · exact wpAny_pyHash_int h
    · exact wpAny_pyHash_str h
  eqBool := fun hu hv h => by
    rcases keyIs_shape hu with ⟨i, t, rfl, rfl⟩ | ⟨x, t, rfl, rfl⟩
    · rcases keyIs_shape hv with ⟨j, u, rfl, rfl⟩ | ⟨y, u, rfl, rfl⟩
      · rw [key_ll] at h; exact wpAny_eqBool_int h
      · rw [key_lr] at h; exact SeqAt.EqAt.int_str i t y u _ _ _ _ h
    · rcases keyIs_shape hv with ⟨j, u, rfl, rfl⟩ | ⟨y, u, rfl, rfl⟩
      · rw [key_rl] at h; exact SeqAt.EqAt.str_int x t j u _ _ _ _ h
      · rw [key_rr] at h; exact wpAny_eqBool_str h
  «strs» := fun k x t v h => by
    rcases keyIs_shape h with ⟨i, u, rfl, e⟩ | ⟨y, u, rfl, e⟩
    · exact nomatch e
    · injection e with e1 _
      subst e1
      cases v <;> rfl
end L2
namespace L2
open PySem PySem.Spec PyProof.Rows
inductive V where
  | non | bl (b : Bool) | int (i : Int) | str (x : Str) | byt (b : Array UInt8) | flt (b : UInt64) | ref (a : Addr) | ty (n : String)
  deriving DecidableEq
def RelV : V → Value → Prop
  | .non, u => u = Value.none
  | .bl b, u => u = Value.bool b
  | .int i, u => ∃ t, u = Value.int i t
  | .str x, u => ∃ t, u = Value.str x t
  | .byt b, u => ∃ t, u = Value.bytes b t
  | .flt b, u => ∃ t, u = Value.float b t
  | .ref a, u => u = Value.ref a
  | .ty n, u => u = Value.type n
abbrev Vals : List V → List Value → Prop := Paired RelV
theorem Vals.length {xs : List V} {us : List Value} (r : Vals xs us) : xs.length = us.length := Paired.length r
theorem Vals.get : ∀ {xs : List V} {us : List Value} {i : Nat} {x : V}, Vals xs us → xs[i]? = some x → ∃ u, us[i]? = some u ∧ RelV x u
  | _, _, _, _, .nil, e => by simp at e
  | _, _, 0, _, .cons r _, e => by simp at e; subst e; exact ⟨_, rfl, r⟩
  | _, _, i + 1, x, .cons _ t, e => by
    obtain ⟨u, h1, h2⟩ := Vals.get (i := i) (x := x) t (by simpa using e)
    exact ⟨u, by simpa using h1, h2⟩
theorem Vals.set {x : V} {u : Value} (r : RelV x u) : ∀ {xs : List V} {us : List Value} (i : Nat), Vals xs us → Vals (xs.set i x) (us.set i u)
  | _, _, _, .nil => .nil
  | _, _, 0, .cons _ t => .cons r t
  | _, _, i + 1, .cons q t => .cons q (Vals.set r i t)
theorem Vals.append : ∀ {xs ys : List V} {us ws : List Value}, Vals xs us → Vals ys ws → Vals (xs ++ ys) (us ++ ws)
  | _, _, _, _, .nil, s => s
  | _, _, _, _, .cons r t, s => .cons r (Vals.append t s)
theorem Vals.take : ∀ {xs : List V} {us : List Value} (n : Nat), Vals xs us → Vals (xs.take n) (us.take n)
  | _, _, 0, _ => .nil
  | _, _, _ + 1, .nil => .nil
  | _, _, n + 1, .cons r t => .cons r (Vals.take n t)
theorem Vals.drop : ∀ {xs : List V} {us : List Value} (n : Nat), Vals xs us → Vals (xs.drop n) (us.drop n)
  | _, _, 0, r => r
  | _, _, _ + 1, .nil => .nil
  | _, _, n + 1, .cons _ t => Vals.drop n t
theorem Vals.none_of : ∀ {xs : List V} {us : List Value} {i : Nat}, Vals xs us → xs[i]? = none → us[i]? = none := fun {xs us i} r e => by
  have h1 := r.length
  have h2 : xs.length ≤ i := List.getElem?_eq_none_iff.mp e
  exact List.getElem?_eq_none_iff.mpr (by omega)
def RelO : Option V → Option Value → Prop
  | some v, some u => RelV v u
  | none, none => True
  | _, _ => False
def KV {κ : Type} : List (κ × V) → List (κ × Value) → Prop := Paired fun (p : κ × V) (q : κ × Value) => p.1 = q.1 ∧ RelV p.2 q.2
def kV : Key → V
  | .inl i => .int i
  | .inr x => .str x
inductive HO where
  | lst (xs : List V)
  | tup (xs : List V)
  | dK (kvs : List (Key × V)) | dT (kvs : List (List Key × V))
  | set (S : Int → Bool) (n : Nat)
  | ins (C dx : Addr) (fs : List (Str × V))
  | own (x : Addr)
  | xd (fs : List (Str × V))
  | met (f x : Addr)
  | rng (lo hi : Int)
  | frz (o : Obj) (u : HO)
  | tbl (ps : Array Value)
  | ext (φ : Heap → Prop)
abbrev Hp := Addr → Option HO
def upd (H : Hp) (a : Addr) (o : HO) : Hp := fun b => if b = a then some o else H b
theorem upd_same {H : Hp} {a : Addr} {o : HO} : upd H a o a = some o := by unfold upd; rw [if_pos rfl]
theorem upd_ne {H : Hp} {a b : Addr} {o : HO} (h : b ≠ a) : upd H a o b = H b := by unfold upd; rw [if_neg h]
theorem upd_upd {H : Hp} {a : Addr} {o u : HO} : upd (upd H a o) a u = upd H a u := by
  funext b; unfold upd; split <;> rfl
theorem ne_of {H : Hp} {a b : Addr} {o u : HO} (h : H a = some o) (h' : H b = some u) (d : o ≠ u) : a ≠ b := by
  intro e; subst e; rw [h] at h'; exact d (Option.some.inj h')
theorem ne_of_none {H : Hp} {a b : Addr} {o : HO} (h : H a = some o) (h' : H b = none) : a ≠ b := by
  intro e; subst e; rw [h] at h'; cases h'
section
variable (P : Program) (w : World)
def ObjOk (H : Hp) (h : Heap) (a : Addr) : HO → Prop
  | .lst xs => xs.length ≤ sizeLine ∧ ∃ (its : List Value) (n : Nat), Vals xs its ∧ h.get? a = some { cls := .type "list", data := .seq its.toArray n }
  | .tup xs => xs.length ≤ sizeLine ∧ ∃ its : List Value, Vals xs its ∧ IsTup h a its.toArray
  | .dK kvs => kvs.length ≤ sizeLine ∧ (a == sysModules) = false ∧ ∃ vs, KV kvs vs ∧ h.DictOf (mixKind P w) a vs
  | .dT kvs => kvs.length ≤ sizeLine ∧ (a == sysModules) = false ∧ ∃ xs : List (List Key × Addr × Value),
      Paired (fun (p : List Key × V) (q : List Key × Addr × Value) => p.1 = q.1 ∧ H q.2.1 = some (.tup (p.1.map kV)) ∧ RelV p.2 q.2.2) kvs xs ∧
      ∃ o es ep, h.get? a = some o ∧ o.ExactDict ∧ o.data = .dict es ep ∧ es.toList = xs.map (entryOfKey (tupleKind (mixKind P w))) ∧ (xs.map (·.1)).Nodup
  | .set S n => h.SetOf (intKind P w) a S n
  | .ins C dx fs => H dx = some (.own a) ∧ fs.length ≤ 1000 ∧ dx ≠ a ∧ h.get? a = some (PySem.W.instObj C dx) ∧
      ∃ mA, h.Ns1 dx mA ∧ (∀ f, RelO (fs.lookup f) (mA f)) ∧ PySem.Within mA (fs.map (·.1))
  | .own _ => ∃ o, h.get? a = some o
  | .xd fs => ∃ mA, h.Ns1 a mA ∧ ∀ f, RelO (fs.lookup f) (mA f)
  | .rng lo hi => ∃ t u v, h.get? a = some { cls := .type "range", data := .fields #[.int lo t, .int hi u, .int 1 v] }
  | .frz o u => h.get? a = some o ∧ ObjOk H h a u
  | .tbl ps => h.get? a = some { cls := .none, data := .fields ps }
  | .met f x => h.get? a = some (PySem.W.methodObj (.ref f) (.ref x))
  | .ext φ => φ h ∧ (∃ o, h.get? a = some o) ∧ ∀ h1 h2 : Heap, φ h1 → (∀ o, h1.get? a = some o → h2.get? a = some o) → φ h2
def HOk (H : Hp) (h : Heap) : Prop := ∀ a o, H a = some o → ObjOk P w H h a o
end
section
variable {P : Program} {w : World} {H H' : Hp} {h h' : Heap} {a : Addr} {o : HO}
theorem ObjOk.lt (x : ObjOk P w H h a o) : a < h.objs.size := by
  cases o with
  | lst xs => obtain ⟨_, _, _, _, e⟩ := x; exact Heap.lt_size e
  | tup xs => obtain ⟨_, _, _, p⟩ := x; exact p.lt
  | dK kvs => obtain ⟨_, _, _, _, o, _, _, e, _⟩ := x; exact Heap.lt_size e
  | dT kvs => obtain ⟨_, _, _, _, o, _, _, e, _⟩ := x; exact Heap.lt_size e
  | set S n => obtain ⟨o, _, _, _, e, _⟩ := x; exact Heap.lt_size e
  | ins C dx fs => obtain ⟨_, _, _, e, _⟩ := x; exact Heap.lt_size e
  | own y => obtain ⟨_, e⟩ := x; exact Heap.lt_size e
  | xd fs => obtain ⟨_, ⟨_, _, _, e, _⟩, _⟩ := x; exact Heap.lt_size e
  | rng lo hi => obtain ⟨_, _, _, e⟩ := x; exact Heap.lt_size e
  | frz ob u => obtain ⟨e, _⟩ := x; exact Heap.lt_size e
  | tbl ps => exact Heap.lt_size (show h.get? a = some _ from x)
  | met f y => exact Heap.lt_size (show h.get? a = some _ from x)
  | ext φ => obtain ⟨_, ⟨_, e⟩, _⟩ := x; exact Heap.lt_size e
theorem Paired.mapP {α β : Type} {F G : α → β → Prop} : ∀ {l₁ : List α} {l₂ : List β}, Paired F l₁ l₂ → (∀ a b, F a b → G a b) → Paired G l₁ l₂
  | _, _, .nil, _ => .nil
  | _, _, .cons r t, f => .cons (f _ _ r) (Paired.mapP t f)
theorem ObjOk.stay (x : ObjOk P w H h a o) (k : ∀ b u, (b = a ∨ H b = some (.own a)) → h.get? b = some u → h'.get? b = some u)
    (ho : ∀ b, H b = some (.own a) → H' b = some (.own a)) (ht : ∀ b xs, H b = some (.tup xs) → H' b = some (.tup xs)) : ObjOk P w H' h' a o := by
  induction o with
  | lst xs => obtain ⟨z, its, n, r, e⟩ := x; exact ⟨z, its, n, r, k _ _ (.inl rfl) e⟩
  | tup xs => obtain ⟨z, its, r, ob, e, c⟩ := x; exact ⟨z, its, r, ob, k _ _ (.inl rfl) e, c⟩
  | dK kvs => obtain ⟨z, y, vs, r, ob, es, ep, e, c⟩ := x; exact ⟨z, y, vs, r, ob, es, ep, k _ _ (.inl rfl) e, c⟩
  | dT kvs =>
    obtain ⟨z, y, xs, r, ob, es, ep, e, c⟩ := x
    exact ⟨z, y, xs, Paired.mapP r fun p q z => ⟨z.1, ht _ _ z.2.1, z.2.2⟩, ob, es, ep, k _ _ (.inl rfl) e, c⟩
  | set S n => obtain ⟨ob, es, ep, t, e, c⟩ := x; exact ⟨ob, es, ep, t, k _ _ (.inl rfl) e, c⟩
  | ins C dx fs =>
    obtain ⟨d, z, ne, e, mA, ⟨od, es, ep, e2, c⟩, r⟩ := x
    exact ⟨ho _ d, z, ne, k _ _ (.inl rfl) e, mA, ⟨od, es, ep, k _ _ (.inr d) e2, c⟩, r⟩
  | own y => obtain ⟨ob, e⟩ := x; exact ⟨ob, k _ _ (.inl rfl) e⟩
  | xd fs => obtain ⟨mA, ⟨od, es, ep, e, c⟩, r⟩ := x; exact ⟨mA, ⟨od, es, ep, k _ _ (.inl rfl) e, c⟩, r⟩
  | rng lo hi => obtain ⟨t, u, v, e⟩ := x; exact ⟨t, u, v, k _ _ (.inl rfl) e⟩
  | frz ob u ih => obtain ⟨e, q⟩ := x; exact ⟨k _ _ (.inl rfl) e, ih q⟩
  | tbl ps =>
    have e : h.get? a = some { cls := .none, data := .fields ps } := x
    show h'.get? a = some { cls := .none, data := .fields ps }
    exact k a _ (.inl rfl) e
  | met f y =>
    have e : h.get? a = some (PySem.W.methodObj (.ref f) (.ref y)) := x
    show h'.get? a = some (PySem.W.methodObj (.ref f) (.ref y))
    exact k a _ (.inl rfl) e
  | ext φ => obtain ⟨p, ⟨o, e⟩, st⟩ := x; exact ⟨st _ _ p fun o q => k _ _ (.inl rfl) q, ⟨o, k _ _ (.inl rfl) e⟩, st⟩
theorem HOk.lt (x : HOk P w H h) (e : H a = some o) : a < h.objs.size := (x a o e).lt
theorem HOk.fresh (x : HOk P w H h) (e : h.objs.size ≤ a) : H a = none := by
  cases q : H a with
  | none => rfl
  | some u => exact absurd (Nat.lt_of_lt_of_le (x.lt q) e) (Nat.lt_irrefl _)
theorem HOk.kept (x : HOk P w H h) (k : ∀ b u, h.get? b = some u → h'.get? b = some u) : HOk P w H h' := fun a o e =>
  (x a o e).stay (fun b u _ q => k b u q) (fun _ q => q) fun _ _ q => q
theorem HOk.laid (x : HOk P w H h) (k : ∀ b u, h.get? b = some u → h'.get? b = some u) (hp : h.objs.size ≤ a) (new : ObjOk P w (upd H a o) h' a o) : HOk P w (upd H a o) h' := fun b u e => by
  have hn := x.fresh hp
  by_cases hb : b = a
  · subst hb; rw [upd_same] at e; cases e; exact new
  · rw [upd_ne hb] at e
    exact (x b u e).stay (fun c v _ q => k c v q) (fun c q => by rw [upd_ne (ne_of_none q hn)]; exact q) fun c xs q => by rw [upd_ne (ne_of_none q hn)]; exact q
end
def Rd (H : Hp) (a : Addr) (u : HO) : Prop := H a = some u ∨ ∃ o, H a = some (.frz o u)
theorem Rd.ok {P : Program} {w : World} {H : Hp} {h : Heap} {a : Addr} {u : HO} (r : Rd H a u) (x : HOk P w H h) : ObjOk P w H h a u := by
  rcases r with r | ⟨o, r⟩
  · exact x a u r
  · obtain ⟨_, q⟩ := x a _ r
    exact q
def Mut : Option HO → Prop
  | some (.lst _) => True
  | some (.dK _) => True
  | some (.dT _) => True
  | some (.set _ _) => True
  | some (.ins _ _ _) => True
  | some (.ext _) => True
  | _ => False
section
variable {P : Program} {w : World} {H : Hp} {h h' : Heap} {x e : Addr} {o' : HO}
theorem HOk.write (ok : HOk P w H h) (mu : Mut (H x)) (he : e = x ∨ H e = some (.own x)) (k : ∀ b u, b ≠ e → h.get? b = some u → h'.get? b = some u) (heo : ∃ u, h'.get? e = some u)
    (new : ObjOk P w (upd H x o') h' x o') : HOk P w (upd H x o') h' := fun b u q => by
  have nown : ∀ c y, H c = some (.own y) → c ≠ x := fun c y r z => by subst z; rw [r] at mu; exact mu
  have ntup : ∀ c xs, H c = some (.tup xs) → c ≠ x := fun c xs r z => by subst z; rw [r] at mu; exact mu
  by_cases hb : b = x
  · subst hb; rw [upd_same] at q; cases q; exact new
  · rw [upd_ne hb] at q
    by_cases hbe : b = e
    · have q' : H b = some (.own x) := by
        rcases he with z | z
        · exact absurd (hbe.trans z) hb
        · rw [hbe]; exact z
      rw [q] at q'; cases q'
      obtain ⟨v, hv⟩ := heo
      exact ⟨v, by rw [hbe]; exact hv⟩
    · refine (ok b u q).stay (fun c v hc r => k c v ?_ r) (fun c r => by rw [upd_ne (nown c b r)]; exact r) fun c xs r => by rw [upd_ne (ntup c xs r)]; exact r
      rcases hc with rfl | hc
      · exact hbe
      · rintro rfl
        rcases he with z | z
        · exact nown c b hc z
        · rw [hc] at z; cases z; exact hb rfl
end
structure Un (fs ex : List Addr) (H H' : Hp) (h h' : Heap) : Prop where
  keep : ∀ b o, h.get? b = some o → H b = none → b ∉ fs → b ∉ ex → h'.get? b = some o
  slot : ∀ b o, h.get? b = some o → H b = none → b ∈ fs → b ∉ ex → ∃ sl, h'.get? b = some { o with slots := sl }
  free : ∀ b o, h.get? b = some o → H b = none → b ∉ ex → H' b = none
  there : ∀ b o, h.get? b = some o → b ∉ ex → ∃ o', h'.get? b = some o'
  tups : ∀ b xs, H b = some (.tup xs) → H' b = some (.tup xs)
  frzs : ∀ b o u, H b = some (.frz o u) → H' b = some (.frz o u)
  tbls : ∀ b ps, H b = some (.tbl ps) → ∃ more, H' b = some (.tbl (ps ++ more))
section
variable {fs fs' ex ex' : List Addr} {H H1 H2 : Hp} {h h1 h2 h' : Heap} {a x e : Addr} {o : HO}
theorem Un.any (u : Un fs ex H H1 h h1) {b : Addr} {ob : Obj} (q : h.get? b = some ob) (n : H b = none) (hx : b ∉ ex) : ∃ sl, h1.get? b = some { ob with slots := sl } := by
  by_cases hb : b ∈ fs
  · exact u.slot b ob q n hb hx
  · exact ⟨ob.slots, u.keep b ob q n hb hx⟩
theorem Un.kept (k : ∀ b u, h.get? b = some u → h'.get? b = some u) : Un fs ex H H h h' :=
  ⟨fun b ob q _ _ _ => k b ob q, fun b ob q _ _ _ => ⟨ob.slots, k b ob q⟩, fun _ _ _ n _ => n, fun b ob q _ => ⟨ob, k b ob q⟩, fun _ _ q => q, fun _ _ _ q => q, fun _ ps q => ⟨#[], by rw [q]; simp⟩⟩
theorem Un.refl : Un fs ex H H h h := Un.kept fun _ _ q => q
theorem Un.laid (k : ∀ b u, h.get? b = some u → h'.get? b = some u) (hp : h.objs.size ≤ a) (hn : H a = none) : Un fs ex H (upd H a o) h h' where
  keep := fun b u q _ _ _ => k b u q
  slot := fun b u q _ _ _ => ⟨u.slots, k b u q⟩
  free := fun b u q n _ => by rw [upd_ne (Nat.ne_of_lt (Nat.lt_of_lt_of_le (Heap.lt_size q) hp))]; exact n
  there := fun b u q _ => ⟨u, k b u q⟩
  tups := fun b xs q => by rw [upd_ne (ne_of_none q hn)]; exact q
  frzs := fun b u xs q => by rw [upd_ne (ne_of_none q hn)]; exact q
  tbls := fun b ps q => ⟨#[], by rw [upd_ne (ne_of_none q hn), q]; simp⟩
theorem Un.write (mu : Mut (H x)) (he : e = x ∨ H e = some (.own x)) (k : ∀ b u, b ≠ e → h.get? b = some u → h'.get? b = some u) (heo : ∃ u, h'.get? e = some u) : Un fs ex H (upd H x o) h h' := by
  have hx : ∀ b, H b = none → b ≠ x := fun b n z => by subst z; rw [n] at mu; exact mu
  have hb : ∀ b, H b = none → b ≠ e := fun b n z => by
    subst z
    rcases he with r | r
    · exact hx b n r
    · rw [n] at r; cases r
  have hm : ∀ b u, H b = some u → ¬ Mut (some u) → b ≠ x := fun b u q nm z => by subst z; rw [q] at mu; exact nm mu
  refine ⟨fun b u q n _ _ => k b u (hb b n) q, fun b u q n _ _ => ⟨u.slots, k b u (hb b n) q⟩, fun b u q n _ => by rw [upd_ne (hx b n)]; exact n, fun b u q _ => ?_,
    fun b xs q => by rw [upd_ne (hm b _ q fun z => z)]; exact q, fun b u xs q => by rw [upd_ne (hm b _ q fun z => z)]; exact q, fun b ps q => ⟨#[], by rw [upd_ne (hm b _ q fun z => z), q]; simp⟩⟩
  by_cases hbe : b = e
  · subst hbe; exact heo
  · exact ⟨u, k b u hbe q⟩
end
def trk (h : Heap) (H : Hp) : List Addr := (List.range h.objs.size).filter fun a => (H a).isSome
def hidT (h : Heap) (H : Hp) : Heap := PySem.W.hideAll h (trk h H)
theorem hidT_size (h : Heap) (H : Hp) : (hidT h H).objs.size = h.objs.size := PySem.W.hideAll_size _ _
theorem hidT_get {h : Heap} {H : Hp} {b : Addr} {o : Obj} (e : h.get? b = some o) (n : H b = none) : (hidT h H).get? b = some o :=
  PySem.W.hideAll_get _ e fun hm => by
    have q : (H b).isSome = true := (List.mem_filter.mp hm).2
    rw [n] at q; simp at q
theorem of_hidT {h : Heap} {H : Hp} {b : Addr} {o : Obj} (e : (hidT h H).get? b = some o) : h.get? b = some o ∧ H b = none := by
  have e' : h.get? b = some o := PySem.W.of_hideAll (trk h H) e
  refine ⟨e', ?_⟩
  cases q : H b with
  | none => rfl
  | some x =>
    have hm : b ∈ trk h H := List.mem_filter.mpr ⟨List.mem_range.mpr (Heap.lt_size e'), by simp [q]⟩
    have z : (hidT h H).get? b = none := PySem.W.hideAll_none (trk h H) hm
    rw [z] at e; cases e
def allNews (g h : Heap) (L : Addr) : List (Addr × Obj) := (List.range h.objs.size).filterMap fun a => if a = L ∨ (g.get? a).isSome = true then none else (h.get? a).map fun o => (a, o)
def rest (g h : Heap) (L d : Addr) : List (Addr × Obj) := (allNews g h L).filter fun p => decide (p.1 ≠ d)
end L2
namespace L2
open PySem PySem.Spec PyProof.Rows
structure Mod (K : PySem.W.Frag) (mg : Str → Option Value) (base : Heap) : Prop where
  kin : K.In base
  glob : base.Ns mainGlobals mg
  blt : ∃ mb, base.Ns builtinsNs mb ∧ ∀ x : Str, x ≠ "__name__" → mb x = bootBuiltins x
  nolimit : base.NoLimit
structure Cx where
  prog : Program
  w : World
  K : PySem.W.Frag
  mg : Str → Option Value
  base : Heap
  A : Around
  N : List Str
  s₀ : Shared
  H₀ : Hp
  env : Env
  outer : List Env
  stack : List Env
  ex : List Addr
  fn : Str → Bool
  calm : Bool
  pn : List (Addr × Obj)
  xe : Value → Shared → Prop
def frs (l : List Env) : List Addr := l.filterMap (·.frame)
abbrev Cx.fs (X : Cx) : List Addr := frs X.outer
def Vis (sc : Scope) (x : Str) : Prop := sc.names.lookup x = some .local ∨ sc.names.lookup x = some .cell ∨ sc.names.lookup x = some .free
def Loc (sc : Scope) (x : Str) : Prop := sc.names.lookup x = some .local ∨ sc.names.lookup x = some .cell
def Look (env : Env) (h : Heap) (m : Str → Option Value) (x : Str) (u : Value) : Prop :=
  (env.kindOf x = some .local ∧ m x = some u) ∨ ((env.kindOf x = some .cell ∨ env.kindOf x = some .free) ∧ ∃ c, env.cells.lookup x = some c ∧ h.IsCell c (some u))
structure Cx.Ok (X : Cx) : Prop where
  mod : Mod X.K X.mg X.base
  kind : X.env.scope.kind = .function
  glob : X.env.globals = mainGlobals
  blt : X.env.builtins = builtinsNs
  above : X.s₀.heap.objs.size ≤ X.env.locals
  inj : ∀ x y c, X.env.cells.lookup x = some c → X.env.cells.lookup y = some c → x = y
  has : ∀ x, (X.env.kindOf x = some .cell ∨ X.env.kindOf x = some .free) → ∃ c, X.env.cells.lookup x = some c
  cab : ∀ x c, X.fn x = true → X.env.cells.lookup x = some c → X.s₀.heap.objs.size ≤ c
  hd : X.calm = true → X.A.handled = none
  frames : X.A.frames = some X.stack
  stk : X.stack = X.outer ∨ (X.stack = X.env :: X.outer ∧ X.env.frame = some X.env.locals)
  exf : ∀ b ∈ X.ex, b ≠ X.env.locals ∧ ∀ x c, X.env.cells.lookup x = some c → c ≠ b
  bs : ∀ b o, X.base.get? b = some o → X.s₀.heap.get? b = some o ∧ X.H₀ b = none
  bsz : X.base.objs.size ≤ X.s₀.heap.objs.size
  noex : ∀ b o, X.base.get? b = some o → b ∉ X.ex
  exfs : ∀ b ∈ X.ex, b ∉ X.fs
  funs : X.s₀.heap.FunFrames X.base X.outer
  frf : ∀ b ∈ X.fs, X.H₀ b = none
structure Inv (X : Cx) (pins : List (Addr × Obj)) (σ : List (Option V)) (H : Hp) (s : Shared) : Prop where
  ok : X.Ok
  os : s.os = X.s₀.os
  bare : AllBare s.gens
  base : Un X.fs X.ex X.H₀ H X.s₀.heap s.heap
  loc : ∃ m, s.heap.Ns X.env.locals m ∧ ∀ (i : Nat) (x : Str) (v : V), X.N[i]? = some x → σ[i]? = some (some v) → Vis X.env.scope x → ∃ u, RelV v u ∧ Look X.env s.heap m x u
  cell : ∀ x c, X.env.cells.lookup x = some c → ∃ v, s.heap.IsCell c v
  free : H X.env.locals = none
  freeC : ∀ x c, X.env.cells.lookup x = some c → H c = none
  pin : ∀ p ∈ X.pn ++ pins, s.heap.get? p.1 = some p.2 ∧ H p.1 = none ∧ p.1 ≠ X.env.locals ∧ p.1 ∉ X.fs ∧ ∀ v, p.2.data ≠ .cell v
  hok : HOk X.prog X.w H s.heap
  len : σ.length = X.N.length
section
variable {X : Cx} {pins : List (Addr × Obj)} {σ : List (Option V)} {H H' : Hp} {s : Shared} {h' : Heap}
theorem Cx.Ok.nofr (ok : X.Ok) {b : Addr} {o : Obj} (e : X.base.get? b = some o) : b ∉ X.fs := fun hb => by
  have := (ok.funs.mem hb).1
  rw [e] at this; cases this
theorem Inv.bs (I : Inv X pins σ H s) : ∀ b o, X.base.get? b = some o → s.heap.get? b = some o ∧ H b = none := fun b o e =>
  ⟨I.base.keep b o (I.ok.bs b o e).1 (I.ok.bs b o e).2 (I.ok.nofr e) (I.ok.noex b o e), I.base.free b o (I.ok.bs b o e).1 (I.ok.bs b o e).2 (I.ok.noex b o e)⟩
theorem Inv.bk (I : Inv X pins σ H s) : ∀ b o, X.base.get? b = some o → s.heap.get? b = some o := fun b o e => (I.bs b o e).1
theorem Inv.mod (I : Inv X pins σ H s) : Mod X.K X.mg X.base := I.ok.mod
theorem Inv.kIn (I : Inv X pins σ H s) : X.K.In s.heap := I.ok.mod.kin.keeps I.bk
theorem Inv.nolimit (I : Inv X pins σ H s) : s.heap.NoLimit := I.ok.mod.nolimit.keeps I.bk
theorem Inv.lt (I : Inv X pins σ H s) : X.env.locals < s.heap.objs.size := let ⟨_, hn, _⟩ := I.loc; hn.lt
theorem Inv.sz (I : Inv X pins σ H s) : X.s₀.heap.objs.size ≤ s.heap.objs.size := Nat.le_trans I.ok.above (Nat.le_of_lt I.lt)
theorem Inv.nofs (I : Inv X pins σ H s) {a : Addr} (h : s.heap.objs.size ≤ a) : a ∉ X.fs := fun hb => by
  obtain ⟨_, o, ho, _⟩ := I.ok.funs.mem hb
  exact absurd (Nat.lt_of_lt_of_le (Heap.lt_size ho) (Nat.le_trans I.sz h)) (Nat.lt_irrefl _)
theorem Inv.cne (I : Inv X pins σ H s) : ∀ x c, X.env.cells.lookup x = some c → c ≠ X.env.locals := fun x c e z => by
  obtain ⟨v, o, ho, hd⟩ := I.cell x c e
  obtain ⟨m, ⟨o', es, ep, ho', hd', _⟩, _⟩ := I.loc
  rw [z, ho'] at ho; cases ho; rw [hd'] at hd; cases hd
theorem Inv.funs (I : Inv X pins σ H s) : s.heap.FunFrames X.base X.outer := by
  have all : ∀ (l : List Env), (∀ b ∈ frs l, b ∈ X.fs) → X.s₀.heap.FunFrames X.base l → s.heap.FunFrames X.base l := by
    intro l
    induction l with
    | nil => intro _ _; trivial
    | cons env r ih =>
      intro hs hl
      obtain ⟨hk, ⟨L, o, hf, hn, ho, hd⟩, hr⟩ := hl
      have hL : L ∈ X.fs := hs L (by unfold frs; rw [List.filterMap_cons, hf]; exact List.mem_cons_self)
      obtain ⟨sl, e⟩ := I.base.slot L o ho (I.ok.frf L hL) hL fun z => I.ok.exfs L z hL
      exact ⟨hk, ⟨L, _, hf, hn, e, hd⟩, ih (fun b hb => hs b (by unfold frs; rw [List.filterMap_cons, hf]; exact List.mem_cons_of_mem _ hb)) hr⟩
  exact all X.outer (fun _ hb => hb) I.ok.funs
theorem Inv.stack (I : Inv X pins σ H s) : s.heap.FunFrames X.base X.stack := by
  rcases I.ok.stk with e | ⟨e, hf⟩
  · rw [e]; exact I.funs
  · rw [e]
    obtain ⟨m, hn, _⟩ := I.loc
    refine .cons (by rw [I.ok.kind]; decide) hf hn ?_ I.funs
    exact Heap.get?_none_of_le (Nat.le_trans I.ok.bsz I.ok.above)
theorem Inv.stkSub (I : Inv X pins σ H s) : ∀ b ∈ frs X.stack, b ∈ X.env.locals :: X.fs := fun b hb => by
  rcases I.ok.stk with e | ⟨e, hf⟩
  · rw [e] at hb; exact List.mem_cons_of_mem _ hb
  · rw [e] at hb
    unfold frs at hb
    rw [List.filterMap_cons, hf] at hb
    exact hb
theorem Inv.stkFree (I : Inv X pins σ H s) : ∀ b ∈ frs X.stack, H b = none := fun b hb => by
  rcases List.mem_cons.mp (I.stkSub b hb) with e | hb
  · rw [e]; exact I.free
  · obtain ⟨_, o, ho, _⟩ := I.ok.funs.mem hb
    exact I.base.free b o ho (I.ok.frf b hb) fun z => I.ok.exfs b z hb
theorem Inv.step {g' : Array GenState} {t' : Nat} {d' : Drawn} {ch : List Addr} (I : Inv X pins σ H s)
    (hch : ∀ b ∈ ch, (b ∈ X.ex ∨ X.s₀.heap.objs.size ≤ b) ∧ b ≠ X.env.locals ∧ (∀ x c, X.env.cells.lookup x = some c → c ≠ b) ∧ ∀ p ∈ X.pn ++ pins, p.1 ≠ b)
    (keep : ∀ b o, b ≠ X.env.locals → b ∉ X.fs → b ∉ ch → s.heap.get? b = some o → H b = none → h'.get? b = some o)
    (slot : ∀ b o, b ≠ X.env.locals → b ∈ X.fs → b ∉ ch → s.heap.get? b = some o → H b = none → ∃ sl, h'.get? b = some { o with slots := sl }) (free : ∀ b o, b ∉ ch → s.heap.get? b = some o → H b = none → H' b = none)
    (there : ∀ b o, b ∉ ch → s.heap.get? b = some o → ∃ o', h'.get? b = some o')
    (tups : ∀ b xs, H b = some (.tup xs) → H' b = some (.tup xs)) (frzs : ∀ b o u, H b = some (.frz o u) → H' b = some (.frz o u)) (tbls : ∀ b ps, H b = some (.tbl ps) → ∃ more, H' b = some (.tbl (ps ++ more)))
    (ns : ∀ m, s.heap.Ns X.env.locals m → h'.Ns X.env.locals m) (hok : HOk X.prog X.w H' h') (hg : AllBare g') :
    Inv X pins σ H' { s with heap := h', gens := g', drawn := d', toks := t' } := by
  have neL : ∀ b o, X.s₀.heap.get? b = some o → b ≠ X.env.locals := fun b o e => Nat.ne_of_lt (Nat.lt_of_lt_of_le (Heap.lt_size e) I.ok.above)
  have neC : ∀ b o, X.s₀.heap.get? b = some o → b ∉ X.ex → b ∉ ch := fun b o e hx hb => by
    rcases (hch b hb).1 with z | z
    · exact hx z
    · exact absurd (Nat.lt_of_lt_of_le (Heap.lt_size e) z) (Nat.lt_irrefl _)
  have cellK : ∀ x c, X.env.cells.lookup x = some c → ∀ v, s.heap.IsCell c v → h'.IsCell c v := fun x c e v ⟨o, ho, hd⟩ => by
    have nch : c ∉ ch := fun z => (hch c z).2.2.1 x c e rfl
    by_cases hc : c ∈ X.fs
    · obtain ⟨sl, q⟩ := slot c o (I.cne x c e) hc nch ho (I.freeC x c e)
      exact ⟨_, q, hd⟩
    · exact ⟨o, keep c o (I.cne x c e) hc nch ho (I.freeC x c e), hd⟩
  refine ⟨I.ok, I.os, hg, ⟨fun b o e n hb hx => ?_, fun b o e n hb hx => ?_, fun b o e n hx => ?_, fun b o e hx => ?_, fun b xs e => tups b xs (I.base.tups b xs e), fun b o xs e => frzs b o xs (I.base.frzs b o xs e), fun b ps e => ?_⟩, ?_, fun x c e => ?_, ?_, fun x c e => ?_, fun p hp => ?_, hok, I.len⟩
  · exact keep b o (neL b o e) hb (neC b o e hx) (I.base.keep b o e n hb hx) (I.base.free b o e n hx)
  · obtain ⟨sl, e1⟩ := I.base.slot b o e n hb hx
    obtain ⟨sl', e2⟩ := slot b _ (neL b o e) hb (neC b o e hx) e1 (I.base.free b o e n hx)
    exact ⟨sl', e2⟩
  · obtain ⟨o', e1⟩ := I.base.there b o e hx
    exact free b o' (neC b o e hx) e1 (I.base.free b o e n hx)
  · obtain ⟨o', e1⟩ := I.base.there b o e hx
    exact there b o' (neC b o e hx) e1
  · obtain ⟨m1, e1⟩ := I.base.tbls b ps e
    obtain ⟨m2, e2⟩ := tbls b _ e1
    exact ⟨m1 ++ m2, by rw [e2, Array.append_assoc]⟩
  · obtain ⟨m, hn, hl⟩ := I.loc
    refine ⟨m, ns m hn, fun i x v e1 e2 e3 => ?_⟩
    obtain ⟨u, r, l⟩ := hl i x v e1 e2 e3
    refine ⟨u, r, ?_⟩
    rcases l with l | ⟨k, c, e, z⟩
    · exact .inl l
    · exact .inr ⟨k, c, e, cellK x c e _ z⟩
  · obtain ⟨v, z⟩ := I.cell x c e
    exact ⟨v, cellK x c e v z⟩
  · obtain ⟨m, ⟨o, _, _, ho, _⟩, _⟩ := I.loc
    exact free _ o (fun z => (hch _ z).2.1 rfl) ho I.free
  · obtain ⟨v, o, ho, hd⟩ := I.cell x c e
    exact free c o (fun z => (hch c z).2.2.1 x c e rfl) ho (I.freeC x c e)
  · obtain ⟨e, n, ne, nf, d⟩ := I.pin p hp
    have nch : p.1 ∉ ch := fun z => (hch p.1 z).2.2.2 p hp rfl
    exact ⟨keep p.1 p.2 ne nf nch e n, free p.1 p.2 nch e n, ne, nf, d⟩
theorem Inv.un {t' : Nat} (I : Inv X pins σ H s) (u : Un X.fs [] H H' s.heap h') (hok : HOk X.prog X.w H' h') : Inv X pins σ H' { s with heap := h', toks := t' } := by
  obtain ⟨m, ⟨o, es, ep, ho, r⟩, _⟩ := id I.loc
  obtain ⟨sl, hL⟩ := u.any ho I.free (by simp)
  exact I.step (g' := s.gens) (d' := s.drawn) (ch := []) (fun _ z => nomatch z) (fun b o _ hb _ e n => u.keep b o e n hb (by simp)) (fun b o _ hb _ e n => u.slot b o e n hb (by simp)) (fun b o _ e n => u.free b o e n (by simp)) (fun b o _ e => u.there b o e (by simp)) u.tups u.frzs u.tbls (fun m' hm => by
    obtain ⟨o', es', ep', ho', r'⟩ := hm
    rw [ho] at ho'; cases ho'
    exact ⟨_, es', ep', hL, r'⟩) hok I.bare
theorem Inv.call {g' : Array GenState} {t' : Nat} {d' : Drawn} {ch : List Addr} (I : Inv X pins σ H s) (u : Un (frs X.stack) ch H H' s.heap h') (hok : HOk X.prog X.w H' h') (hg : AllBare g')
    (hch : ∀ b ∈ ch, (b ∈ X.ex ∨ X.s₀.heap.objs.size ≤ b) ∧ b ≠ X.env.locals ∧ (∀ x c, X.env.cells.lookup x = some c → c ≠ b) ∧ ∀ p ∈ X.pn ++ pins, p.1 ≠ b) :
    Inv X pins σ H' { s with heap := h', gens := g', drawn := d', toks := t' } := by
  obtain ⟨m, ⟨o, es, ep, ho, r⟩, _⟩ := id I.loc
  obtain ⟨sl, hL⟩ := u.any ho I.free fun z => (hch _ z).2.1 rfl
  exact I.step (ch := ch) hch (fun b o hL hb hc e n => u.keep b o e n (fun z => (List.mem_cons.mp (I.stkSub b z)).elim hL hb) hc) (fun b o _ _ hc e n => u.any e n hc) (fun b o hc e n => u.free b o e n hc) (fun b o hc e => u.there b o e hc) u.tups u.frzs u.tbls (fun m' hm => by
    obtain ⟨o', es', ep', ho', r'⟩ := hm
    rw [ho] at ho'; cases ho'
    exact ⟨_, es', ep', hL, r'⟩) hok hg
theorem Inv.turned {t' : Nat} {it : Addr} (I : Inv X pins σ H s) (k : ∀ b o, b ≠ it → s.heap.get? b = some o → h'.get? b = some o) (hn : H it = none) (hL : it ≠ X.env.locals)
    (h1 : it ∈ X.ex ∨ X.s₀.heap.objs.size ≤ it) (h2 : ∀ x c, X.env.cells.lookup x = some c → c ≠ it) (h3 : ∀ p ∈ X.pn ++ pins, p.1 ≠ it) : Inv X pins σ H { s with heap := h', toks := t' } := by
  have nit : ∀ b u, H b = some u → b ≠ it := fun b u e z => by rw [z, hn] at e; cases e
  refine I.step (g' := s.gens) (d' := s.drawn) (ch := [it]) (fun b hb => ?_) (fun b o _ _ hc e _ => k b o (fun z => hc (by simp [z])) e) (fun b o _ _ hc e _ => ⟨o.slots, k b o (fun z => hc (by simp [z])) e⟩) (fun _ _ _ _ n => n)
    (fun b o hc e => ⟨o, k b o (fun z => hc (by simp [z])) e⟩) (fun _ _ e => e) (fun _ _ _ e => e) (fun b ps e => ⟨#[], by rw [e]; simp⟩) (fun m hm => ?_) (fun b u e => ?_) I.bare
  · have e : b = it := by simpa using hb
    subst e
    exact ⟨h1, hL, h2, h3⟩
  · obtain ⟨o, es, ep, ho, r⟩ := hm
    exact ⟨o, es, ep, k _ o (Ne.symm hL) ho, r⟩
  · refine (I.hok b u e).stay (fun c v hc q => k c v ?_ q) (fun _ q => q) fun _ _ q => q
    rcases hc with z | z
    · rw [z]; exact nit b u e
    · exact nit c _ z
theorem Inv.tok (I : Inv X pins σ H s) (t : Nat) : Inv X pins σ H { s with toks := t } := I.un (h' := s.heap) (t' := t) Un.refl I.hok
theorem Inv.kept {t' : Nat} (I : Inv X pins σ H s) (k : ∀ b u, s.heap.get? b = some u → h'.get? b = some u) : Inv X pins σ H { s with heap := h', toks := t' } := I.un (Un.kept k) (I.hok.kept k)
theorem Inv.laid {a : Addr} {o : HO} {t' : Nat} (I : Inv X pins σ H s) (k : ∀ b u, s.heap.get? b = some u → h'.get? b = some u) (hp : s.heap.objs.size ≤ a) (new : ObjOk X.prog X.w (upd H a o) h' a o) :
    Inv X pins σ (upd H a o) { s with heap := h', toks := t' } := I.un (Un.laid k hp (I.hok.fresh hp)) (I.hok.laid k hp new)
theorem Inv.write {x e : Addr} {o : HO} {t' : Nat} (I : Inv X pins σ H s) (mu : Mut (H x)) (he : e = x ∨ H e = some (.own x)) (k : ∀ b u, b ≠ e → s.heap.get? b = some u → h'.get? b = some u) (heo : ∃ u, h'.get? e = some u)
    (new : ObjOk X.prog X.w (upd H x o) h' x o) : Inv X pins σ (upd H x o) { s with heap := h', toks := t' } := I.un (Un.write mu he k heo) (I.hok.write mu he k heo new)
theorem Inv.pins_of {pins' : List (Addr × Obj)} (I : Inv X pins σ H s) (h : ∀ p ∈ pins', s.heap.get? p.1 = some p.2 ∧ H p.1 = none ∧ p.1 ≠ X.env.locals ∧ p.1 ∉ X.fs ∧ ∀ v, p.2.data ≠ .cell v) : Inv X pins' σ H s :=
  ⟨I.ok, I.os, I.bare, I.base, I.loc, I.cell, I.free, I.freeC, fun p hp => (List.mem_append.mp hp).elim (fun z => I.pin p (List.mem_append_left _ z)) (h p), I.hok, I.len⟩
theorem nodup_ix {N : List Str} (hN : N.Nodup) {i j : Nat} {x : Str} (a : N[i]? = some x) (b : N[j]? = some x) : i = j := by
  obtain ⟨h1, e1⟩ := List.getElem?_eq_some_iff.mp a
  obtain ⟨h2, e2⟩ := List.getElem?_eq_some_iff.mp b
  exact (List.getElem_inj hN).mp (e1.trans e2.symm)
theorem store_ok2 {M : Model} {A : Around} {E : Value → Shared → Prop} {i : Nat} {x : Str} {v : V} {u : Value} {Q : Unit → Shared → Prop} (I : Inv X pins σ H s) (hN : X.N.Nodup) (hi : X.N[i]? = some x) (hx : Loc X.env.scope x) (r : RelV v u)
    (h : ∀ s', Inv X pins (σ.set i (some v)) H s' → (∃ a, Heap.SameBut a s.heap s'.heap ∧ (a = X.env.locals ∨ X.env.cells.lookup x = some a)) → Q () s') (hf : X.fn x = true ∨ X.env.scope.names.lookup x = some .local := by first | exact .inl rfl | exact .inr rfl | assumption) : wpAny M A (storeName X.env x u) Q E s := by
  obtain ⟨m, hn, hl⟩ := id I.loc
  have hcls : (X.env.scope.kind == .class || (X.env.scope.kind == .module && X.env.locals != X.env.globals)) = false := by rw [I.ok.kind]; rfl
  have hiσ : i < σ.length := by rw [I.len]; exact (List.getElem?_eq_some_iff.mp hi).1
  have cne := I.cne
  have tracked : ∀ {a : Addr} {h' : Heap}, (∃ o, s.heap.get? a = some o ∧ H a = none) → Heap.SameBut a s.heap h' → HOk X.prog X.w H h' := fun {a h'} ha hs b ob e => by
    obtain ⟨_, _, hfree⟩ := ha
    refine (I.hok b ob e).stay (fun c w' hc q => (hs.2 c ?_).trans q) (fun _ q => q) fun _ _ q => q
    rintro rfl
    rcases hc with rfl | hc
    · rw [hfree] at e; cases e
    · rw [hfree] at hc; cases hc
  rcases hx with hk | hk
  · refine wpAny_storeName_local hk hn (fun h' hn' hs => ?_) hcls
    obtain ⟨oL, _, _, hoL, _⟩ := id hn
    refine h _ ⟨I.ok, I.os, I.bare, ⟨fun b o e n hb hx => ?_, fun b o e n hb hx => ?_, I.base.free, fun b o e hx => ?_, I.base.tups, I.base.frzs, I.base.tbls⟩, ⟨_, hn', fun j y v' e1 e2 e3 => ?_⟩, fun y c e => ?_, I.free, I.freeC, fun p hp => ?_, tracked ⟨oL, hoL, I.free⟩ hs, by simpa using I.len⟩ ⟨_, hs, .inl rfl⟩
    · exact (hs.2 b (Nat.ne_of_lt (Nat.lt_of_lt_of_le (Heap.lt_size e) I.ok.above))).trans (I.base.keep b o e n hb hx)
    · obtain ⟨sl, e1⟩ := I.base.slot b o e n hb hx
      exact ⟨sl, (hs.2 b (Nat.ne_of_lt (Nat.lt_of_lt_of_le (Heap.lt_size e) I.ok.above))).trans e1⟩
    · obtain ⟨o', e1⟩ := I.base.there b o e hx
      exact ⟨o', (hs.2 b (Nat.ne_of_lt (Nat.lt_of_lt_of_le (Heap.lt_size e) I.ok.above))).trans e1⟩
    · by_cases hj : j = i
      · subst hj
        rw [hi] at e1; cases e1
        rw [List.getElem?_set_self hiσ] at e2
        cases e2
        exact ⟨u, r, .inl ⟨hk, by simp⟩⟩
      · rw [List.getElem?_set_ne (Ne.symm hj)] at e2
        obtain ⟨u', r', q⟩ := hl j y v' e1 e2 e3
        refine ⟨u', r', ?_⟩
        rcases q with ⟨k, e⟩ | ⟨k, c, e, z⟩
        · refine .inl ⟨k, ?_⟩
          have : y ≠ x := fun e => hj (nodup_ix hN e1 (e ▸ hi))
          simp [this, e]
        · exact .inr ⟨k, c, e, z.sameBut hs (cne y c e)⟩
    · obtain ⟨w', z⟩ := I.cell y c e
      exact ⟨w', z.sameBut hs (cne y c e)⟩
    · obtain ⟨e, n, ne, nf, d⟩ := I.pin p hp
      exact ⟨(hs.2 p.1 ne).trans e, n, ne, nf, d⟩
  · have hfn : X.fn x = true := by
      rcases hf with z | z
      · exact z
      · rw [z] at hk; cases hk
    obtain ⟨c, hc⟩ := I.ok.has x (.inl hk)
    obtain ⟨w', z⟩ := I.cell x c hc
    refine wpAny_storeName_cell I.ok.kind hk hc z (fun h' hc' hs => ?_)
    obtain ⟨oc, hoc, hocd⟩ := id z
    refine h { s with heap := h' } ⟨I.ok, I.os, I.bare, ⟨fun b o e n hb hx => ?_, fun b o e n hb hx => ?_, I.base.free, fun b o e hx => ?_, I.base.tups, I.base.frzs, I.base.tbls⟩, ⟨m, hn.sameBut hs (Ne.symm (cne x c hc)), fun j y v' e1 e2 e3 => ?_⟩, fun y c' e => ?_, I.free, I.freeC, fun p hp => ?_, tracked ⟨oc, hoc, I.freeC x c hc⟩ hs, by simpa using I.len⟩ ⟨c, hs, .inr hc⟩
    · exact (hs.2 b (Nat.ne_of_lt (Nat.lt_of_lt_of_le (Heap.lt_size e) (I.ok.cab x c hfn hc)))).trans (I.base.keep b o e n hb hx)
    · obtain ⟨sl, e1⟩ := I.base.slot b o e n hb hx
      exact ⟨sl, (hs.2 b (Nat.ne_of_lt (Nat.lt_of_lt_of_le (Heap.lt_size e) (I.ok.cab x c hfn hc)))).trans e1⟩
    · obtain ⟨o', e1⟩ := I.base.there b o e hx
      exact ⟨o', (hs.2 b (Nat.ne_of_lt (Nat.lt_of_lt_of_le (Heap.lt_size e) (I.ok.cab x c hfn hc)))).trans e1⟩
    · by_cases hj : j = i
      · subst hj
        rw [hi] at e1; cases e1
        rw [List.getElem?_set_self hiσ] at e2
        cases e2
        exact ⟨u, r, .inr ⟨.inl hk, c, hc, hc'⟩⟩
      · rw [List.getElem?_set_ne (Ne.symm hj)] at e2
        obtain ⟨u', r', q⟩ := hl j y v' e1 e2 e3
        refine ⟨u', r', ?_⟩
        rcases q with q | ⟨k, c', e, z'⟩
        · exact .inl q
        · refine .inr ⟨k, c', e, z'.sameBut hs ?_⟩
          rintro rfl
          exact hj (nodup_ix hN e1 (I.ok.inj _ _ _ e hc ▸ hi))
    · by_cases hcc : c' = c
      · subst hcc; exact ⟨_, hc'⟩
      · obtain ⟨w2, z2⟩ := I.cell y c' e
        exact ⟨w2, z2.sameBut hs hcc⟩
    · obtain ⟨e, n, ne, nf, d⟩ := I.pin p hp
      refine ⟨(hs.2 p.1 ?_).trans e, n, ne, nf, d⟩
      intro q
      rw [q, hoc] at e
      have q' : oc = p.2 := Option.some.inj e
      exact d w' (by rw [← q']; exact hocd)
theorem store_ok {M : Model} {A : Around} {E : Value → Shared → Prop} {i : Nat} {x : Str} {v : V} {u : Value} {Q : Unit → Shared → Prop} (I : Inv X pins σ H s) (hN : X.N.Nodup) (hi : X.N[i]? = some x) (hx : Loc X.env.scope x) (r : RelV v u)
    (h : ∀ s', Inv X pins (σ.set i (some v)) H s' → Q () s') (hf : X.fn x = true ∨ X.env.scope.names.lookup x = some .local := by first | exact .inl rfl | exact .inr rfl | assumption) : wpAny M A (storeName X.env x u) Q E s :=
  store_ok2 I hN hi hx r (fun s' I' _ => h s' I') hf
theorem Inv.call' {s' : Shared} {ch : List Addr} (I : Inv X pins σ H s) (ho : s'.os = s.os) (u : Un (frs X.stack) ch H H' s.heap s'.heap) (hok : HOk X.prog X.w H' s'.heap) (hg : AllBare s'.gens)
    (hch : ∀ b ∈ ch, (b ∈ X.ex ∨ X.s₀.heap.objs.size ≤ b) ∧ b ≠ X.env.locals ∧ (∀ x c, X.env.cells.lookup x = some c → c ≠ b) ∧ ∀ p ∈ X.pn ++ pins, p.1 ≠ b) : Inv X pins σ H' s' := by
  obtain ⟨h', g', d', t', o'⟩ := s'
  have e : o' = s.os := ho
  subst e
  exact I.call (g' := g') (t' := t') (d' := d') u hok hg hch
end
abbrev XK := Value → Option Addr → Hp → Prop
abbrev St := List (Option V)
abbrev VK := V → Hp → Prop
abbrev TE := St → Hp → VK → Prop
abbrev TT := St → Hp → (Bool → Hp → Prop) → Prop
abbrev TA := St → Hp → (List V → Hp → Prop) → Prop
structure Ends where
  nx : St → Hp → Prop
  rt : VK
  bk : St → Hp → Prop := fun _ _ => False
  ct : St → Hp → Prop := fun _ _ => False
abbrev TS := Ends → St → Hp → Prop
def EP (X : Cx) (pins : List (Addr × Obj)) (σ : St) (Q : VK) (u : Value) (s' : Shared) : Prop := ∃ v H', Inv X pins σ H' s' ∧ RelV v u ∧ Q v H'
def TP (X : Cx) (pins : List (Addr × Obj)) (σ : St) (Q : Bool → Hp → Prop) (b : Bool) (s' : Shared) : Prop := ∃ H', Inv X pins σ H' s' ∧ Q b H'
def AP (X : Cx) (pins : List (Addr × Obj)) (σ : St) (Q : List V → Hp → Prop) (us : List Value) (s' : Shared) : Prop := ∃ vs H', Inv X pins σ H' s' ∧ Vals vs us ∧ Q vs H'
def SP (X : Cx) (pins : List (Addr × Obj)) (D : Ends) (f : Flow) (s' : Shared) : Prop :=
  match f with
  | .next => ∃ σ' H', Inv X pins σ' H' s' ∧ D.nx σ' H'
  | .brk => ∃ σ' H', Inv X pins σ' H' s' ∧ D.bk σ' H'
  | .cont => ∃ σ' H', Inv X pins σ' H' s' ∧ D.ct σ' H'
  | .ret u => ∃ v σ' H', Inv X pins σ' H' s' ∧ RelV v u ∧ D.rt v H'
def PE (X : Cx) (e : Expr) (t : TE) : Prop :=
  ∀ (pins : List (Addr × Obj)) (s : Shared) (σ : St) (H : Hp) (Q : VK), Inv X pins σ H s → t σ H Q → wpAny (model X.prog X.w) X.A (eval e X.env) (EP X pins σ Q) X.xe s
def PT (X : Cx) (e : Expr) (t : TT) : Prop :=
  ∀ (pins : List (Addr × Obj)) (s : Shared) (σ : St) (H : Hp) (Q : Bool → Hp → Prop), Inv X pins σ H s → t σ H Q → wpAny (model X.prog X.w) X.A (isTrue e X.env (eval e X.env)) (TP X pins σ Q) X.xe s
def PW (X : Cx) (e : Expr) (t : TT) : Prop :=
  ∀ (whole : Sem Value) (pins : List (Addr × Obj)) (s : Shared) (σ : St) (H : Hp) (Q : Bool → Hp → Prop), Inv X pins σ H s → t σ H Q → wpAny (model X.prog X.w) X.A (isTrue e X.env whole) (TP X pins σ Q) X.xe s
theorem PW.pt {X : Cx} {e : Expr} {t : TT} (h : PW X e t) : PT X e t := h _
def PA (X : Cx) (es : List Expr) (t : TA) : Prop :=
  ∀ (pos : Pos) (pins : List (Addr × Obj)) (s : Shared) (σ : St) (H : Hp) (Q : List V → Hp → Prop), Inv X pins σ H s → t σ H Q → wpAny (model X.prog X.w) X.A (spliced (backTo pos (starEach es X.env))) (AP X pins σ Q) X.xe s
def PS (X : Cx) (st : Stmt) (t : TS) : Prop :=
  ∀ (pins : List (Addr × Obj)) (s : Shared) (σ : St) (H : Hp) (D : Ends), Inv X pins σ H s → t D σ H → wpAny (model X.prog X.w) X.A (exec st X.env) (SP X pins D) X.xe s
def PSs (X : Cx) (st : List Stmt) (t : TS) : Prop :=
  ∀ (pins : List (Addr × Obj)) (s : Shared) (σ : St) (H : Hp) (D : Ends), Inv X pins σ H s → t D σ H → wpAny (model X.prog X.w) X.A (execs st X.env) (SP X pins D) X.xe s
theorem thn {α : Type} {t : Sem α} {Q Q' : α → Shared → Prop} {M : Model} {A : Around} {E : Value → Shared → Prop} {s : Shared} (h : wpAny M A t Q E s) (hQ : ∀ a s, Q a s → Q' a s) : wpAny M A t Q' E s := wpAny_mono h hQ fun _ _ x => x
end L2
namespace L2
open PySem PySem.Spec PyProof.Rows
section
variable {X : Cx}
theorem bin {a b : Expr} {ta tb : TE} (ha : PE X a ta) (hb : PE X b tb) {pins : List (Addr × Obj)} {s : Shared} {σ : St} {H : Hp} {R : V → V → Hp → Prop} (I : Inv X pins σ H s) (h : ta σ H fun x H1 => tb σ H1 fun y H2 => R x y H2)
    {α : Type} {Q : α → Shared → Prop} {f : Value → Value → Sem α}
    (hf : ∀ v u s2 x y H2, Inv X pins σ H2 s2 → RelV x v → RelV y u → R x y H2 → wpAny (model X.prog X.w) X.A (f v u) Q X.xe s2) :
    wpAny (model X.prog X.w) X.A (eval a X.env) (fun v s₁ => wpAny (model X.prog X.w) X.A (eval b X.env) (fun u s₂ => wpAny (model X.prog X.w) X.A (f v u) Q X.xe s₂) X.xe s₁) X.xe s := by
  refine thn (ha pins s σ H _ I h) fun v s1 ⟨x, H1, I1, r1, q1⟩ => ?_
  refine thn (hb pins s1 σ H1 _ I1 q1) fun u s2 ⟨y, H2, I2, r2, q2⟩ => ?_
  exact hf v u s2 x y H2 I2 r1 r2 q2
def tVar (i : Nat) : TE := fun σ H Q => ∃ v, σ[i]? = some (some v) ∧ Q v H
def tC (v : V) : TE := fun _ H Q => Q v H
theorem pe_var {i : Nat} {x : Str} {pos : Pos} (hN : X.N[i]? = some x) (hv : Vis X.env.scope x) (hd : (x == ("__debug__" : Str)) = false := by decide) (hcd : (x == ("__classdict__" : Str)) = false := by decide) : PE X (.Name x pos) (tVar i) := by
  intro pins s σ H Q I h
  obtain ⟨v, e, h⟩ := h
  obtain ⟨m, hn, hl⟩ := I.loc
  obtain ⟨u, r, l⟩ := hl i x v hN e hv
  have fin : EP X pins σ Q u s := ⟨v, H, I, r, h⟩
  rcases l with ⟨hk, hm⟩ | ⟨hk, c, hc, hcell⟩
  · exact wpAny_Name (wpAny_loadName_local I.ok.kind hk hn hm fin) hd
  · rcases hk with hk | hk
    · exact wpAny_Name (wpAny_loadName_cell I.ok.kind hk hc hcell fin) hd
    · exact wpAny_Name (wpAny_loadName_free I.ok.kind hk hc hcell fin hcd) hd
theorem pe_int {i j pos} : PE X (.Constant (.int i) j pos) (tC (.int i)) := fun _ _ _ H _ I h => wpAny_Constant_int ⟨.int i, H, I.tok _, ⟨_, rfl⟩, h⟩
theorem pe_bl {b j pos} : PE X (.Constant (.bool b) j pos) (tC (.bl b)) := fun _ _ _ H _ I h => Constant_bool ⟨.bl b, H, I, rfl, h⟩
theorem pe_non {j pos} : PE X (.Constant .none j pos) (tC .non) := fun _ _ _ H _ I h => Constant_none ⟨.non, H, I, rfl, h⟩
theorem pe_str {x j pos} : PE X (.Constant (.str x) j pos) (tC (.str x)) := fun _ _ _ H _ I h => Calls.Constant_str ⟨.str x, H, I.tok _, ⟨_, rfl⟩, h⟩
def Gl (X : Cx) (x : Str) : Prop := X.env.kindOf x = some .globalImplicit
theorem ld_glob {E : Value → Shared → Prop} {pins : List (Addr × Obj)} {s : Shared} {σ : St} {H : Hp} {x : Str} {u : Value} {pos : Pos} {Q : Value → Shared → Prop} (I : Inv X pins σ H s) (hg : Gl X x) (hm : X.mg x = some u) (h : Q u s)
    (hd : (x == ("__debug__" : Str)) = false := by decide) : wpAny (model X.prog X.w) X.A (eval (.Name x pos) X.env) Q E s :=
  Calls.Name_function_global I.ok.kind hg (Calls.loadGlobal_global (by rw [I.ok.glob]; exact I.mod.glob.keeps I.bk) hm h) hd
theorem ld_blt {E : Value → Shared → Prop} {pins : List (Addr × Obj)} {s : Shared} {σ : St} {H : Hp} {x : Str} {u : Value} {pos : Pos} {Q : Value → Shared → Prop} (I : Inv X pins σ H s) (hg : Gl X x) (hm : X.mg x = none) (hv : bootBuiltins x = some u) (h : Q u s)
    (hn : x ≠ "__name__" := by decide) (hd : (x == ("__debug__" : Str)) = false := by decide) : wpAny (model X.prog X.w) X.A (eval (.Name x pos) X.env) Q E s := by
  obtain ⟨mb, h1, h2⟩ := I.mod.blt
  exact Calls.Name_function_global I.ok.kind hg (Calls.loadGlobal_builtin (by rw [I.ok.glob]; exact I.mod.glob.keeps I.bk) hm (by rw [I.ok.blt]; exact h1.keeps I.bk) ((h2 x hn).trans hv) h) hd
theorem pe_glob {x : Str} {v : V} {u : Value} {pos : Pos} (hg : Gl X x) (hm : X.mg x = some u) (r : RelV v u) (hd : (x == ("__debug__" : Str)) = false := by decide) : PE X (.Name x pos) (tC v) :=
  fun _ _ _ H _ I h => ld_glob I hg hm ⟨v, H, I, r, h⟩ hd
theorem pe_bltn {x : Str} {v : V} {u : Value} {pos : Pos} (hg : Gl X x) (hm : X.mg x = none) (hv : bootBuiltins x = some u) (r : RelV v u) (hn : x ≠ "__name__" := by decide) (hd : (x == ("__debug__" : Str)) = false := by decide) : PE X (.Name x pos) (tC v) :=
  fun _ _ _ H _ I h => ld_blt I hg hm hv ⟨v, H, I, r, h⟩ hn hd
variable {a b : Expr} {ta tb : TE} {pos : Pos}
variable {tA tB' : TT} {rest : List Expr}
def tAnd (t u : TT) : TT := fun σ H Q => t σ H fun c H1 => if c = true then u σ H1 Q else Q false H1
def tOr (t u : TT) : TT := fun σ H Q => t σ H fun c H1 => if c = true then Q true H1 else u σ H1 Q
def tNot (t : TT) : TT := fun σ H Q => t σ H fun c H1 => Q (!c) H1
theorem pw_and1 (ha : PT X a tA) : PW X (.BoolOp .And [a] pos) tA := by
  intro wh pins s σ H Q I h
  refine isTrue_and (thn (ha pins s σ H Q I h) fun c s1 e => ?_)
  cases c with
  | true => exact isTrue_and_nil e
  | false => exact e
theorem pw_or1 (ha : PT X a tA) : PW X (.BoolOp .Or [a] pos) tA := by
  intro wh pins s σ H Q I h
  refine isTrue_or (thn (ha pins s σ H Q I h) fun c s1 e => ?_)
  cases c with
  | false => exact isTrue_or_nil e
  | true => exact e
theorem pw_and (ha : PT X a tA) (hb : PW X (.BoolOp .And (b :: rest) pos) tB') : PW X (.BoolOp .And (a :: b :: rest) pos) (tAnd tA tB') := by
  intro wh pins s σ H Q I h
  refine isTrue_and (thn (ha pins s σ H _ I h) fun c s1 ⟨H1, I1, q1⟩ => ?_)
  cases c with
  | true => exact hb wh pins s1 σ H1 Q I1 q1
  | false => exact ⟨H1, I1, q1⟩
theorem pw_or (ha : PT X a tA) (hb : PW X (.BoolOp .Or (b :: rest) pos) tB') : PW X (.BoolOp .Or (a :: b :: rest) pos) (tOr tA tB') := by
  intro wh pins s σ H Q I h
  refine isTrue_or (thn (ha pins s σ H _ I h) fun c s1 ⟨H1, I1, q1⟩ => ?_)
  cases c with
  | true => exact ⟨H1, I1, q1⟩
  | false => exact hb wh pins s1 σ H1 Q I1 q1
theorem pt_not (ha : PT X a tA) : PT X (.UnaryOp .Not a pos) (tNot tA) := by
  intro pins s σ H Q I h
  exact isTrue_not (ha pins s σ H (fun c H1 => Q (!c) H1) I h)
def tAndV (ta tb : TE) : TE := fun σ H Q => ta σ H fun x H1 => ∃ c, x = .bl c ∧ if c = true then tb σ H1 Q else Q (.bl false) H1
def tOrV (ta tb : TE) : TE := fun σ H Q => ta σ H fun x H1 => ∃ c, x = .bl c ∧ if c = true then Q (.bl true) H1 else tb σ H1 Q
def tNotV (ta : TE) : TE := fun σ H Q => ta σ H fun x H1 => ∃ c, x = .bl c ∧ Q (.bl (!c)) H1
theorem pe_one {op} {t : TE} (h : PE X a t) : PE X (.BoolOp op [a] pos) t := fun pins s σ H Q I hw => BoolOp_one (h pins s σ H Q I hw)
theorem pe_and (ha : PE X a ta) (hb : PE X (.BoolOp .And (b :: rest) pos) tb) : PE X (.BoolOp .And (a :: b :: rest) pos) (tAndV ta tb) := by
  intro pins s σ H Q I h
  refine BoolOp_and (thn (ha pins s σ H _ I h) fun v s1 ⟨x, H1, I1, r1, q1⟩ => ?_)
  obtain ⟨c, rfl, q1⟩ := q1
  cases r1
  refine wpAny_truthy_bool ?_
  cases c with
  | true => exact hb pins s1 σ H1 Q I1 q1
  | false => exact ⟨.bl false, H1, I1, rfl, q1⟩
theorem pe_or (ha : PE X a ta) (hb : PE X (.BoolOp .Or (b :: rest) pos) tb) : PE X (.BoolOp .Or (a :: b :: rest) pos) (tOrV ta tb) := by
  intro pins s σ H Q I h
  refine BoolOp_or (thn (ha pins s σ H _ I h) fun v s1 ⟨x, H1, I1, r1, q1⟩ => ?_)
  obtain ⟨c, rfl, q1⟩ := q1
  cases r1
  refine wpAny_truthy_bool ?_
  cases c with
  | false => exact hb pins s1 σ H1 Q I1 q1
  | true => exact ⟨.bl true, H1, I1, rfl, q1⟩
theorem pe_not (ha : PE X a ta) : PE X (.UnaryOp .Not a pos) (tNotV ta) := by
  intro pins s σ H Q I h
  refine UnaryOp_ (thn (ha pins s σ H _ I h) fun v s1 ⟨x, H1, I1, r1, q1⟩ => ?_)
  obtain ⟨c, rfl, q1⟩ := q1
  cases r1
  exact not_of (wpAny_truthy_bool ⟨.bl (!c), H1, I1, rfl, q1⟩)
def tIf (t : TT) (ta tb : TE) : TE := fun σ H Q => t σ H fun c H1 => if c = true then ta σ H1 Q else tb σ H1 Q
theorem pe_ifExp {c : Expr} (hc : PT X c tA) (ha : PE X a ta) (hb : PE X b tb) : PE X (.IfExp c a b pos) (tIf tA ta tb) := by
  intro pins s σ H Q I h
  refine wpAny_IfExp (thn (hc pins s σ H _ I h) fun d s1 ⟨H1, I1, q1⟩ => ?_)
  cases d with
  | true => exact ha pins s1 σ H1 Q I1 q1
  | false => exact hb pins s1 σ H1 Q I1 q1
end
end L2
namespace L2
open PySem PySem.Spec PyProof.Rows
def SqL (K : PySem.W.Frag) (H : Hp) (a : Addr) (xs : List V) : Prop :=
  Rd H a (.lst xs) ∨
    ∃ (o : Obj) (its : Array Value) (n : Nat), K.lookup a = some o ∧ o.cls = .type "list" ∧ o.dict = none ∧ o.data = .seq its n ∧ its.size ≤ sizeLine ∧ Vals xs its.toList
def SqT (K : PySem.W.Frag) (H : Hp) (a : Addr) (xs : List V) : Prop :=
  Rd H a (.tup xs) ∨
    ∃ (o : Obj) (its : Array Value) (n : Nat), K.lookup a = some o ∧ o.cls = .type "tuple" ∧ o.data = .seq its n ∧ its.size ≤ sizeLine ∧ Vals xs its.toList
def absV : Value → Option V
  | .none => some .non
  | .bool b => some (.bl b)
  | .int i _ => some (.int i)
  | .str x _ => some (.str x)
  | .bytes b _ => some (.byt b)
  | .float b _ => some (.flt b)
  | .ref a => some (.ref a)
  | .type n => some (.ty n)
  | _ => none
theorem RelV.abs {x : V} {u : Value} (r : RelV x u) : absV u = some x := by
  cases x with
  | non => cases r; rfl
  | bl _ => cases r; rfl
  | int _ => obtain ⟨t, rfl⟩ := r; rfl
  | str _ => obtain ⟨t, rfl⟩ := r; rfl
  | byt _ => obtain ⟨t, rfl⟩ := r; rfl
  | flt _ => obtain ⟨t, rfl⟩ := r; rfl
  | ref _ => cases r; rfl
  | ty _ => cases r; rfl
theorem RelV.inj {x y : V} {u : Value} (r : RelV x u) (q : RelV y u) : x = y := Option.some.inj (r.abs.symm.trans q.abs)
theorem Vals.inj : ∀ {xs ys : List V} {us : List Value}, Vals xs us → Vals ys us → xs = ys
  | _, _, _, .nil, .nil => rfl
  | _, _, _, .cons r t, .cons r' t' => by rw [r.inj r', Vals.inj t t']
section
variable {X : Cx} {pins : List (Addr × Obj)} {σ : St} {H : Hp} {s : Shared} {a : Addr} {xs ys : List V}
theorem SqL.of {K : PySem.W.Frag} (h : H a = some (.lst xs)) : SqL K H a xs := .inl (.inl h)
theorem SqT.of {K : PySem.W.Frag} (h : H a = some (.tup xs)) : SqT K H a xs := .inl (.inl h)
theorem Inv.list (I : Inv X pins σ H s) (h : SqL X.K H a xs) : ∃ its : List Value, Vals xs its ∧ PlainL s.heap a its.toArray ∧ xs.length ≤ sizeLine := by
  rcases h with h | ⟨o, its, n, hk, hc, hd, hs, hz, r⟩
  · obtain ⟨z, its, n, r, e⟩ := h.ok I.hok
    exact ⟨its, r, ⟨_, n, e, rfl, rfl, rfl⟩, z⟩
  · refine ⟨its.toList, r, ⟨o, n, I.kIn a o hk, hc, hd, by simpa using hs⟩, ?_⟩
    have e := r.length
    simp only [Array.length_toList] at e
    omega
theorem Inv.tuple (I : Inv X pins σ H s) (h : SqT X.K H a xs) : ∃ its : List Value, Vals xs its ∧ IsTup s.heap a its.toArray ∧ xs.length ≤ sizeLine := by
  rcases h with h | ⟨o, its, n, hk, hc, hs, hz, r⟩
  · obtain ⟨z, its, r, p⟩ := h.ok I.hok
    exact ⟨its, r, p, z⟩
  · refine ⟨its.toList, r, ⟨o, I.kIn a o hk, hc, n, by simpa using hs⟩, ?_⟩
    have e := r.length
    simp only [Array.length_toList] at e
    omega
theorem Inv.list_inj (I : Inv X pins σ H s) (h : SqL X.K H a xs) (h' : SqL X.K H a ys) : xs = ys := by
  obtain ⟨its, r, ⟨o, n, e, _, _, d⟩, _⟩ := I.list h
  obtain ⟨its', r', ⟨o', n', e', _, _, d'⟩, _⟩ := I.list h'
  rw [e] at e'; cases e'
  rw [d] at d'
  injection d' with d1 _
  have : its = its' := by simpa using congrArg Array.toList d1
  subst this
  exact r.inj r'
theorem Inv.tuple_inj (I : Inv X pins σ H s) (h : SqT X.K H a xs) (h' : SqT X.K H a ys) : xs = ys := by
  obtain ⟨its, r, ⟨o, e, _, n, d⟩, _⟩ := I.tuple h
  obtain ⟨its', r', ⟨o', e', _, n', d'⟩, _⟩ := I.tuple h'
  rw [e] at e'; cases e'
  rw [d] at d'
  injection d' with d1 _
  have : its = its' := by simpa using congrArg Array.toList d1
  subst this
  exact r.inj r'
end
abbrev Cx.wish (X : Cx) (E : Value → Shared → Prop) : Cx := { X with xe := E }
abbrev Cx.nox (X : Cx) : Cx := X.wish fun _ _ => False
theorem Cx.Ok.wish {X : Cx} (ok : X.Ok) (E : Value → Shared → Prop) : (X.wish E).Ok :=
  ⟨ok.mod, ok.kind, ok.glob, ok.blt, ok.above, ok.inj, ok.has, ok.cab, ok.hd, ok.frames, ok.stk, ok.exf, ok.bs, ok.bsz, ok.noex, ok.exfs, ok.funs, ok.frf⟩
theorem Cx.Ok.unwish {X : Cx} {E : Value → Shared → Prop} (ok : (X.wish E).Ok) : X.Ok :=
  ⟨ok.mod, ok.kind, ok.glob, ok.blt, ok.above, ok.inj, ok.has, ok.cab, ok.hd, ok.frames, ok.stk, ok.exf, ok.bs, ok.bsz, ok.noex, ok.exfs, ok.funs, ok.frf⟩
section
variable {X : Cx} {pins : List (Addr × Obj)} {σ : St} {H : Hp} {s : Shared} {E : Value → Shared → Prop}
theorem Inv.wish (I : Inv X pins σ H s) (E : Value → Shared → Prop) : Inv (X.wish E) pins σ H s := ⟨I.ok.wish E, I.os, I.bare, I.base, I.loc, I.cell, I.free, I.freeC, I.pin, I.hok, I.len⟩
theorem Inv.unwish (I : Inv (X.wish E) pins σ H s) : Inv X pins σ H s := ⟨I.ok.unwish, I.os, I.bare, I.base, I.loc, I.cell, I.free, I.freeC, I.pin, I.hok, I.len⟩
theorem SP.unwish {D : Ends} {f : Flow} {s' : Shared} (h : SP (X.wish E) pins D f s') : SP X pins D f s' := by
  cases f with
  | next => obtain ⟨σ', H', I, q⟩ := h; exact ⟨σ', H', I.unwish, q⟩
  | brk => obtain ⟨σ', H', I, q⟩ := h; exact ⟨σ', H', I.unwish, q⟩
  | cont => obtain ⟨σ', H', I, q⟩ := h; exact ⟨σ', H', I.unwish, q⟩
  | ret u => obtain ⟨v, σ', H', I, r, q⟩ := h; exact ⟨v, σ', H', I.unwish, r, q⟩
theorem PE.nox {e : Expr} {t : TE} (h : PE X.nox e t) : PE X e t := fun pins s σ H Q I hw =>
  wpAny_mono (h pins s σ H Q (I.wish _) hw) (fun _ _ ⟨v, H', I', r, q⟩ => ⟨v, H', I'.unwish, r, q⟩) fun _ _ z => False.elim z
theorem PT.nox {e : Expr} {t : TT} (h : PT X.nox e t) : PT X e t := fun pins s σ H Q I hw =>
  wpAny_mono (h pins s σ H Q (I.wish _) hw) (fun _ _ ⟨H', I', q⟩ => ⟨H', I'.unwish, q⟩) fun _ _ z => False.elim z
theorem PSs.nox {st : List Stmt} {t : TS} (h : PSs X.nox st t) : PSs X st t := fun pins s σ H D I hw =>
  wpAny_mono (h pins s σ H D (I.wish _) hw) (fun _ _ q => q.unwish) fun _ _ z => False.elim z
end
section
variable {X : Cx} {st : Stmt} {rest : List Stmt} {t u : TS} {e : Expr} {te : TE} {pos : Pos}
def tNext : TS := fun D σ H => D.nx σ H
def tSeq (t u : TS) : TS := fun D σ H => t { D with nx := u D } σ H
theorem pss_nil : PSs X [] tNext := fun _ _ σ H _ I h => wpAny_execs_nil ⟨σ, H, I, h⟩
theorem pss_cons (h1 : PS X st t) (h2 : PSs X rest u) : PSs X (st :: rest) (tSeq t u) := by
  intro pins s σ H D I h
  refine wpAny_execs_cons (thn (h1 pins s σ H { D with nx := u D } I h) fun f s1 q => ?_)
  cases f with
  | next =>
    obtain ⟨σ', H', I', q⟩ := q
    exact h2 pins s1 σ' H' D I' q
  | ret v => exact q
  | brk => exact q
  | cont => exact q
theorem pss_one (h1 : PS X st t) : PSs X [st] t := by
  intro pins s σ H D I h
  refine wpAny_execs_cons (thn (h1 pins s σ H D I h) fun f s1 q => ?_)
  cases f with
  | next => exact wpAny_execs_nil q
  | ret v => exact q
  | brk => exact q
  | cont => exact q
def tCont : TS := fun D σ H => D.ct σ H
theorem ps_continue : PS X (.Continue pos) tCont := fun _ _ σ H _ I h => wpAny_Continue ⟨σ, H, I, h⟩
theorem Inv.quiet {pins : List (Addr × Obj)} {σ : St} {H : Hp} {s : Shared} (I : Inv X pins σ H s) : interactive X.env = false := by simp [interactive, I.ok.kind]
def tDrop (te : TE) : TS := fun D σ H => te σ H fun _ H1 => D.nx σ H1
theorem ps_expr (he : PE X e te) (hs : swapsWith e none pos.line X.env = pure false := by rfl) : PS X (.Expr e pos) (tDrop te) := by
  intro pins s σ H D I h
  exact wpAny_Expr_any (thn (he pins s σ H _ I h) fun v s1 ⟨x, H1, I1, r1, q1⟩ => ⟨σ, H1, I1, q1⟩) I.quiet hs
def tRet (te : TE) : TS := fun D σ H => te σ H D.rt
theorem ps_ret (he : PE X e te) : PS X (.Return (some e) pos) (tRet te) := by
  intro pins s σ H D I h
  exact wpAny_Return_some (thn (he pins s σ H _ I h) fun v s1 ⟨x, H1, I1, r1, q1⟩ => ⟨x, σ, H1, I1, r1, q1⟩)
def tRetN : TS := fun D _ H => D.rt .non H
def tIfS (c : TT) (t u : TS) : TS := fun D σ H => c σ H fun b H1 => if b = true then t D σ H1 else u D σ H1
theorem ps_if {c : Expr} {a b : List Stmt} {tc : TT} (hc : PT X c tc) (ha : PSs X a t) (hb : PSs X b u) : PS X (.If c a b pos) (tIfS tc t u) := by
  intro pins s σ H D I h
  refine wpAny_If (thn (hc pins s σ H _ I h) fun d s1 ⟨H1, I1, q1⟩ => ?_)
  cases d with
  | true => exact ha pins s1 σ H1 D I1 q1
  | false => exact hb pins s1 σ H1 D I1 q1
def tNever : TS := fun _ _ _ => False
theorem ps_never : PS X st tNever := fun _ _ _ _ _ _ h => h.elim
end
abbrev TG := V → St → Hp → (St → Hp → Prop) → Prop
abbrev TGs := List V → St → Hp → (St → Hp → Prop) → Prop
def PG (X : Cx) (target : Expr) (t : TG) : Prop :=
  ∀ (pins : List (Addr × Obj)) (s : Shared) (σ : St) (H : Hp) (v : V) (u : Value) (Q : St → Hp → Prop), Inv X pins σ H s → RelV v u → t v σ H Q →
    wpAny (model X.prog X.w) X.A (assign target X.env u) (fun _ s' => ∃ σ' H', Inv X pins σ' H' s' ∧ Q σ' H') X.xe s
def PGs (X : Cx) (ts : List Expr) (t : TGs) : Prop :=
  ∀ (pins : List (Addr × Obj)) (s : Shared) (σ : St) (H : Hp) (vs : List V) (us : List Value) (Q : St → Hp → Prop), Inv X pins σ H s → Vals vs us → t vs σ H Q →
    wpAny (model X.prog X.w) X.A (assignInOrder ((assignEach ts X.env).map (·.2)) us) (fun _ s' => ∃ σ' H', Inv X pins σ' H' s' ∧ Q σ' H') X.xe s
abbrev TSet := V → V → V → Hp → (Hp → Prop) → Prop
def PSet (X : Cx) (t : TSet) : Prop :=
  ∀ (pins : List (Addr × Obj)) (s : Shared) (σ : St) (H : Hp) (o i v : V) (ov iv u : Value) (Q : Hp → Prop), Inv X pins σ H s → RelV o ov → RelV i iv → RelV v u → t o i v H Q →
    wpAny (model X.prog X.w) X.A (setItem ov iv u) (fun _ s' => ∃ H', Inv X pins σ H' s' ∧ Q H') X.xe s
abbrev TIp := V → V → Hp → VK → Prop
section
variable {X : Cx} {pos : Pos}
def gName (i : Nat) : TG := fun v σ H Q => Q (σ.set i (some v)) H
theorem pg_name {i : Nat} {x : Str} (hN : X.N.Nodup) (hi : X.N[i]? = some x) (hx : Loc X.env.scope x) (hf : X.fn x = true ∨ X.env.scope.names.lookup x = some .local := by first | exact .inl rfl | exact .inr rfl | assumption) : PG X (.Name x pos) (gName i) := by
  intro pins s σ H v u Q I r h
  exact wpAny_assign_Name (store_ok I hN hi hx r (fun s' I' => ⟨_, H, I', h⟩) hf)
def gNil : TGs := fun vs σ H Q => vs = [] ∧ Q σ H
def gCons (t : TG) (u : TGs) : TGs := fun vs σ H Q => ∃ v r, vs = v :: r ∧ t v σ H fun σ' H' => u r σ' H' Q
theorem pgs_nil : PGs X [] gNil := by
  intro pins s σ H vs us Q I r h
  obtain ⟨e, h⟩ := h
  subst e
  cases r
  exact assignInOrder_nil ⟨σ, H, I, h⟩
theorem pgs_cons {e : Expr} {es : List Expr} {t : TG} {u : TGs} (h1 : PG X e t) (h2 : PGs X es u)
    (hs : (assignEach (e :: es) X.env).map (·.2) = assign e X.env :: (assignEach es X.env).map (·.2) := by rfl) : PGs X (e :: es) (gCons t u) := by
  intro pins s σ H vs us Q I r h
  obtain ⟨v, vr, e1, h⟩ := h
  subst e1
  cases r with
  | cons r rr =>
    rw [hs]
    refine assignInOrder_cons (thn (h1 pins s σ H _ _ _ I r h) fun _ s1 ⟨σ1, H1, I1, q1⟩ => ?_)
    exact h2 pins s1 σ1 H1 _ _ Q I1 rr q1
def gTup (K : PySem.W.Frag) (n : Nat) (t : TGs) : TG := fun v σ H Q => ∃ a xs, v = .ref a ∧ SqT K H a xs ∧ xs.length = n ∧ t xs σ H Q
theorem pg_tup {es : List Expr} {k : Nat} {t : TGs} {n : Nat} (hc : X.calm = true) (h : PGs X es t)
    (hn : (assignEach es X.env).length = n := by rfl) (hst : (assignEach es X.env).findIdx? (·.1) = none := by rfl) : PG X (.Tuple es k pos) (gTup X.K n t) := by
  intro pins s σ H v u Q I r hw
  obtain ⟨a, xs, e1, hq, hl, hw⟩ := hw
  subst e1
  cases r
  obtain ⟨its, rv, ht, hz⟩ := I.tuple hq
  refine assign_Tuple_tuple (I.ok.hd hc) ht (by simp [hn, ← hl, rv.length]) hst fun h' hx => ?_
  have I1 : Inv X pins σ H { s with heap := h' } := I.kept (t' := s.toks) fun b o e => hx b o (Nat.ne_of_lt (Heap.lt_size e)) e
  exact h pins _ σ H xs _ Q I1 (by simpa using rv) hw
def gSub (to ti : TE) (t : TSet) : TG := fun v σ H Q => to σ H fun o H1 => ti σ H1 fun i H2 => t o i v H2 fun H3 => Q σ H3
theorem pg_sub {o i : Expr} {to ti : TE} {t : TSet} (ho : PE X o to) (hi : PE X i ti) (hs : PSet X t)
    (ha : ∀ v, assign (.Subscript o i pos) X.env v = (do
      let ov ← holding [v] (eval o X.env)
      let iv ← holding [v, ov] (eval i X.env)
      standAt pos
      holding [v, ov, iv] (setItem ov iv v)
      release [v, ov, iv] []) := by intro _; rfl) : PG X (.Subscript o i pos) (gSub to ti t) := by
  intro pins s σ H v u Q I r h
  rw [ha]
  refine wpAny_bind (wpAny_holding (thn (ho pins s σ H _ I h) fun ov s1 ⟨x, H1, I1, r1, q1⟩ => ?_))
  refine wpAny_bind (wpAny_holding (thn (hi pins s1 σ H1 _ I1 q1) fun iv s2 ⟨y, H2, I2, r2, q2⟩ => ?_))
  refine wpAny_bind (wpAny_standAt (wpAny_bind (wpAny_holding (thn (hs pins s2 σ H2 x y v ov iv u _ I2 r1 r2 r q2) fun _ s3 ⟨H3, I3, q3⟩ => ?_))))
  exact wpAny_release ⟨σ, H3, I3, q3⟩
def tAsg (te : TE) (g : TG) : TS := fun D σ H => te σ H fun x H1 => g x σ H1 D.nx
theorem ps_asg {tg e : Expr} {te : TE} {g : TG} (he : PE X e te) (hg : PG X tg g) (hs : swapsWithSole [tg] e pos.line X.env = pure false := by rfl) (hw : swappedStores [tg] e X.env = pure none := by rfl)
    (h1 : (assignEach [tg] X.env).map (·.2) = [assign tg X.env] := by rfl) : PS X (.Assign [tg] e pos) (tAsg te g) := by
  intro pins s σ H D I h
  refine wpAny_Assign_stores (thn (he pins s σ H _ I h) fun v s1 ⟨x, H1, I1, r1, q1⟩ => ?_) hs hw
  rw [h1]
  exact thn (hg pins s1 σ H1 x v _ I1 r1 q1) fun _ s2 q => q
theorem ps_set {i : Nat} {x : Str} {e : Expr} {te : TE} {pos' : Pos} (hN : X.N.Nodup) (hi : X.N[i]? = some x) (hx : Loc X.env.scope x) (he : PE X e te) (hs : swapsWith e (some (.Name x pos')) pos.line X.env = pure false := by rfl) (hf : X.fn x = true ∨ X.env.scope.names.lookup x = some .local := by first | exact .inl rfl | exact .inr rfl | assumption) :
    PS X (.Assign [.Name x pos'] e pos) (tAsg te (gName i)) := by
  intro pins s σ H D I h
  refine wpAny_Assign_Name (thn (he pins s σ H _ I h) fun v s1 ⟨y, H1, I1, r1, q1⟩ => ?_) hs
  exact store_ok I1 hN hi hx r1 (fun s2 I2 => ⟨_, H1, I2, q1⟩) hf
def tAug (i : Nat) (te : TE) (ti : TIp) : TS := fun D σ H => ∃ x, σ[i]? = some (some x) ∧ te σ H fun y H1 => ti x y H1 fun z H2 => D.nx (σ.set i (some z)) H2
end
section
variable {X : Cx} {pos : Pos}
end
structure It where
  go : Nat → Hp → Prop
  yld : Nat → Hp → V → Hp → Prop
  stop : Nat → Hp → Prop
def FpOk (X : Cx) (pins : List (Addr × Obj)) (H : Hp) (b : Addr) : Prop :=
  H b = none ∧ b ≠ X.env.locals ∧ b ∉ X.fs ∧ (b ∈ X.ex ∨ X.s₀.heap.objs.size ≤ b) ∧ (∀ x c, X.env.cells.lookup x = some c → c ≠ b) ∧ ∀ p ∈ X.pn ++ pins, p.1 ≠ b
theorem Inv.fpOk {X : Cx} {pins : List (Addr × Obj)} {σ : St} {H H' : Hp} {s : Shared} {b : Addr} (I : Inv X pins σ H s) (hb : s.heap.objs.size ≤ b) (hn : H' b = none) : FpOk X pins H' b := by
  refine ⟨hn, Nat.ne_of_gt (Nat.lt_of_lt_of_le I.lt hb), I.nofs hb, .inr (Nat.le_trans I.sz hb), fun x c e z => ?_, fun p hp z => ?_⟩
  · obtain ⟨v, q⟩ := I.cell x c e
    exact absurd (Nat.lt_of_lt_of_le q.lt (by rw [z]; exact hb)) (Nat.lt_irrefl _)
  · exact absurd (Nat.lt_of_lt_of_le (Heap.lt_size (I.pin p hp).1) (by rw [z]; exact hb)) (Nat.lt_irrefl _)
structure Turn (P : Program) (w : World) (K : PySem.W.Frag) (tg : Expr) (J : It) (fp : List Addr) (it : Addr) (tn : Nat → Heap → Prop) : Prop where
  mem : it ∈ fp
  obj : ∀ i h, tn i h → ∀ b ∈ fp, ∃ o, h.get? b = some o ∧ ∀ v, o.data ≠ .cell v
  keep : ∀ i h h', tn i h → (∀ b ∈ fp, ∀ o, h.get? b = some o → h'.get? b = some o) → tn i h'
  item : ∀ (X : Cx), X.prog = P → X.w = w → X.K = K → X.calm = true → ∀ (i : Nat) (pins : List (Addr × Obj)) (s : Shared) (σ : St) (H : Hp) (E : Value → Shared → Prop), Inv X pins σ H s → (∀ b ∈ fp, FpOk X pins H b) → tn i s.heap → J.go i H →
    wpAny (model P w) X.A (pyNext (.ref it)) (fun r s1 => ∃ u, r = some u ∧
      wpAny (model P w) X.A (letOwnedTupleGo tg (.ref it) u) (fun _ s2 => ∃ x H', Inv X pins σ H' s2 ∧ RelV x u ∧ J.yld i H x H' ∧ tn (i + 1) s2.heap ∧ ∀ b ∈ fp, H' b = none) E s1) E s
  done : ∀ (X : Cx), X.prog = P → X.w = w → X.K = K → X.calm = true → ∀ (i : Nat) (pins : List (Addr × Obj)) (s : Shared) (σ : St) (H : Hp) (E : Value → Shared → Prop), Inv X pins σ H s → (∀ b ∈ fp, FpOk X pins H b) → tn i s.heap → J.stop i H →
    wpAny (model P w) X.A (pyNext (.ref it)) (fun r s1 => r = none ∧ Inv X pins σ H s1) E s
  self : ∀ (A : Around) (i : Nat) (s : Shared) (Q : Value → Shared → Prop) (E : Value → Shared → Prop), tn i s.heap → Q (.ref it) s → wpAny (model P w) A (pyIter (.ref it)) Q E s
abbrev TI := St → Hp → (It → Hp → Prop) → Prop
def PIE (X : Cx) (pins : List (Addr × Obj)) (σ : St) (tg : Expr) (R : It → Hp → Prop) (itv : Value) (s2 : Shared) : Prop :=
  ∃ (it : Addr) (fp : List Addr) (tn : Nat → Heap → Prop) (J : It) (H' : Hp), itv = .ref it ∧ Inv X pins σ H' s2 ∧ Turn X.prog X.w X.K tg J fp it tn ∧ tn 0 s2.heap ∧ (∀ b ∈ fp, FpOk X pins H' b) ∧ R J H'
def PI (X : Cx) (tg iter : Expr) (wi : TI) : Prop :=
  ∀ (pins : List (Addr × Obj)) (s : Shared) (σ : St) (H : Hp) (R : It → Hp → Prop), Inv X pins σ H s → wi σ H R →
    wpAny (model X.prog X.w) X.A (eval iter X.env) (fun v s1 => wpAny (model X.prog X.w) X.A (pyIter v) (PIE X pins σ tg R) X.xe s1) X.xe s
theorem go_of {M : Model} {A : Around} {E : Value → Shared → Prop} {s : Shared} {tg : Expr} {it : Addr} {u : Value} {o : Obj} {n : String} {vs : Array Value} {Q : Unit → Shared → Prop} (ho : s.heap.get? it = some o) (hc : o.cls = .type n) (hd : o.data = .fields vs)
    (hn : ["enumerate", "zip", "dict_itemiterator", "dict_reverseitemiterator", "odict_iterator", "itertools.zip_longest", "itertools.pairwise"].contains n = false) (hQ : Q () s) : wpAny M A (letOwnedTupleGo tg (.ref it) u) Q E s := by
  unfold letOwnedTupleGo
  cases tg <;> first
    | exact wpAny_pure hQ
    | (cases u <;> first
        | exact wpAny_pure hQ
        | (refine wpAny_bind (wpAny_load ho ?_)
           rw [hc, hd]
           show wpAny M A (if (["enumerate", "zip", "dict_itemiterator", "dict_reverseitemiterator", "odict_iterator", "itertools.zip_longest", "itertools.pairwise"].contains n && vs[0]? == some (rawInt _)) = true then _ else _) Q E s
           rw [if_neg (by intro h; rw [hn, Bool.false_and] at h; cases h)]
           exact wpAny_pure hQ))
def Itl (K : PySem.W.Frag) (a : Addr) : It :=
  ⟨fun i H => ∃ xs x, SqL K H a xs ∧ xs[i]? = some x, fun i H x H' => H' = H ∧ ∀ xs, SqL K H a xs → xs[i]? = some x, fun i H => ∃ xs, SqL K H a xs ∧ xs.length ≤ i⟩
def Itt (K : PySem.W.Frag) (a : Addr) : It :=
  ⟨fun i H => ∃ xs x, SqT K H a xs ∧ xs[i]? = some x, fun i H x H' => H' = H ∧ ∀ xs, SqT K H a xs → xs[i]? = some x, fun i H => ∃ xs, SqT K H a xs ∧ xs.length ≤ i⟩
def Itr (lo : Int) (n : Nat) : It := ⟨fun i _ => i < n, fun i H x H' => H' = H ∧ x = .int (lo + i), fun i _ => n ≤ i⟩
theorem turn_list {P : Program} {w : World} {K : PySem.W.Frag} {tg : Expr} (a it : Addr) : Turn P w K tg (Itl K a) [it] it (fun i h => h.IsListIter it a i) where
  mem := by simp
  obj := fun i h st b hb => by
    have e : b = it := by simpa using hb
    subst e
    obtain ⟨o, e, c, d⟩ := st
    exact ⟨o, e, fun v z => by rw [d] at z; cases z⟩
  keep := fun i h h' st k => st.at fun o e => k it (by simp) o e
  item := by
    intro X hP hw hK hc i pins s σ H E I hf st hg
    subst hP hw hK
    obtain ⟨xs, x, hq, hx⟩ := hg
    obtain ⟨its, rv, p, hz⟩ := I.list hq
    obtain ⟨u, hu, ru⟩ := rv.get hx
    obtain ⟨f0, f1, f2, f3, f4, f5⟩ := hf it (by simp)
    refine wpAny_pyNext_list_item st p.isList (x := u) (by simpa using hu) fun h' st' sb => ?_
    have I1 : Inv X pins σ H { s with heap := h' } := I.turned (t' := s.toks) (fun b o hb e => (sb.2 b hb).trans e) f0 f1 f3 f4 f5
    obtain ⟨o, e, c, d⟩ := id st'
    exact ⟨u, rfl, go_of (s := { s with heap := h' }) e c d (by decide) ⟨x, H, I1, ru, ⟨rfl, fun ys hy => by rw [I.list_inj hy hq]; exact hx⟩, st', fun b hb => (hf b hb).1⟩⟩
  done := by
    intro X hP hw hK hc i pins s σ H E I hf st hg
    subst hP hw hK
    obtain ⟨xs, hq, hx⟩ := hg
    obtain ⟨its, rv, p, hz⟩ := I.list hq
    obtain ⟨f0, f1, f2, f3, f4, f5⟩ := hf it (by simp)
    have hl := rv.length
    exact wpAny_pyNext_list_end (I.ok.hd hc) st p.isList (by simp; omega) fun h' eb => ⟨rfl, I.turned (t' := s.toks) (fun b o hb e => eb b o hb e) f0 f1 f3 f4 f5⟩
  self := fun _ _ _ _ _ st h => wpAny_pyIter_listiter st h
theorem turn_tuple {P : Program} {w : World} {K : PySem.W.Frag} {tg : Expr} (a it : Addr) : Turn P w K tg (Itt K a) [it] it (fun i h => h.IsTupleIter it a i) where
  mem := by simp
  obj := fun i h st b hb => by
    have e : b = it := by simpa using hb
    subst e
    obtain ⟨o, e, c, d⟩ := st
    exact ⟨o, e, fun v z => by rw [d] at z; cases z⟩
  keep := fun i h h' st k => st.at fun o e => k it (by simp) o e
  item := by
    intro X hP hw hK hc i pins s σ H E I hf st hg
    subst hP hw hK
    obtain ⟨xs, x, hq, hx⟩ := hg
    obtain ⟨its, rv, p, hz⟩ := I.tuple hq
    obtain ⟨u, hu, ru⟩ := rv.get hx
    obtain ⟨f0, f1, f2, f3, f4, f5⟩ := hf it (by simp)
    refine wpAny_pyNext_tuple_item st (show s.heap.IsTuple a its.toArray from p) (x := u) (by simpa using hu) fun h' st' sb => ?_
    have I1 : Inv X pins σ H { s with heap := h' } := I.turned (t' := s.toks) (fun b o hb e => (sb.2 b hb).trans e) f0 f1 f3 f4 f5
    obtain ⟨o, e, c, d⟩ := id st'
    exact ⟨u, rfl, go_of (s := { s with heap := h' }) e c d (by decide) ⟨x, H, I1, ru, ⟨rfl, fun ys hy => by rw [I.tuple_inj hy hq]; exact hx⟩, st', fun b hb => (hf b hb).1⟩⟩
  done := by
    intro X hP hw hK hc i pins s σ H E I hf st hg
    subst hP hw hK
    obtain ⟨xs, hq, hx⟩ := hg
    obtain ⟨its, rv, p, hz⟩ := I.tuple hq
    obtain ⟨f0, f1, f2, f3, f4, f5⟩ := hf it (by simp)
    have hl := rv.length
    exact wpAny_pyNext_tuple_end (I.ok.hd hc) st (show s.heap.IsTuple a its.toArray from p) (by simp; omega) fun h' eb => ⟨rfl, I.turned (t' := s.toks) (fun b o hb e => eb b o hb e) f0 f1 f3 f4 f5⟩
  self := fun _ _ _ _ _ st h => wpAny_pyIter_tupleiter st h
theorem turn_range {P : Program} {w : World} {K : PySem.W.Frag} {tg : Expr} (it : Addr) (lo : Int) (n : Nat) : Turn P w K tg (Itr lo n) [it] it (fun i h => IsRangeIter h it (lo + (i : Nat) * 1) ((n : Int) - (i : Nat)) 1) where
  mem := by simp
  obj := fun i h st b hb => by
    have e : b = it := by simpa using hb
    subst e
    exact ⟨_, st, fun v z => by
      have z' : Data.fields _ = Data.cell v := z
      cases z'⟩
  keep := fun i h h' st k => k it (by simp) _ st
  item := by
    intro X hP hw hK hc i pins s σ H E I hf st hg
    subst hP hw hK
    obtain ⟨f0, f1, f2, f3, f4, f5⟩ := hf it (by simp)
    have W := Walks.range (prog := X.prog) (w := X.w) (I.ok.hd hc) it lo 1 n
    refine W.item i s _ _ hg st fun v h' tk hv st' kk => ?_
    obtain ⟨t, rfl⟩ := hv
    have I1 : Inv X pins σ H { s with heap := h', toks := tk } := I.turned (fun b o hb e => kk b o (by simpa using hb) e) f0 f1 f3 f4 f5
    refine ⟨_, rfl, go_of (s := { s with heap := h', toks := tk }) (n := "range_iterator") st' rfl rfl (by decide) ⟨.int (lo + i), H, I1, ⟨t, ?_⟩, ⟨rfl, rfl⟩, st', fun b hb => (hf b hb).1⟩⟩
    rw [Int.mul_one]
  done := by
    intro X hP hw hK hc i pins s σ H E I hf st hg
    subst hP hw hK
    obtain ⟨f0, f1, f2, f3, f4, f5⟩ := hf it (by simp)
    exact wpAny_pyNext_range_end (I.ok.hd hc) st (by have : n ≤ i := hg; omega) fun h' eb => ⟨rfl, I.turned (t' := s.toks) (fun b o hb e => eb b o hb e) f0 f1 f3 f4 f5⟩
  self := fun _ _ _ _ _ st h => wpAny_pyIter_rangeiter st h
end L2
namespace L2
open PySem PySem.Spec PyProof.Rows
section
variable {X : Cx} {tg : Expr}
theorem range_it {pins : List (Addr × Obj)} {σ : St} {H : Hp} {s : Shared} {R : It → Hp → Prop} {E : Value → Shared → Prop} {lo hi : Int} {t u v : Tok} {tk : Nat} (I : Inv X pins σ H s) (h1 : -(2 ^ 62) ≤ lo) (h2 : lo < 2 ^ 62) (h3 : -(2 ^ 62) ≤ hi) (h4 : hi < 2 ^ 62)
    (q : R (Itr lo (hi - lo).toNat) H) : wpAny (model X.prog X.w) X.A (pyIter (.ref s.heap.objs.size)) (PIE X pins σ tg R) E { s with heap := s.heap.push { cls := .type "range", data := .fields #[.int lo t, .int hi u, .int 1 v] }, toks := tk } := by
  refine wpAny_pyIter_range (IsRange.new ..) (small_one h1 h2 h3 h4) ?_
  have I1 : Inv X pins σ H { s with heap := s.heap.push { cls := .type "range", data := .fields #[.int lo t, .int hi u, .int 1 v] }, toks := tk } := I.kept fun b o e => Heap.get?_push_of_some _ e
  refine ⟨(s.heap.push { cls := .type "range", data := .fields #[.int lo t, .int hi u, .int 1 v] }).objs.size, [(s.heap.push { cls := .type "range", data := .fields #[.int lo t, .int hi u, .int 1 v] }).objs.size], _, _, H, rfl,
    I1.kept (t' := tk) fun b o e => Heap.get?_push_of_some _ e, turn_range _ lo (hi - lo).toNat, ?_, fun b hb => ?_, q⟩
  · have e1 : lo + ((0 : Nat) : Int) * 1 = lo := by simp
    have e2 : (((hi - lo).toNat : Nat) : Int) - ((0 : Nat) : Int) = Builtin.Range.rangeSize lo hi 1 := by rw [rangeSize_one]; split <;> omega
    show IsRangeIter _ _ (lo + ((0 : Nat) : Int) * 1) ((((hi - lo).toNat : Nat) : Int) - ((0 : Nat) : Int)) 1
    rw [e1, e2]
    exact Heap.get?_push_size _ rfl
  · have e : b = (s.heap.push { cls := .type "range", data := .fields #[.int lo t, .int hi u, .int 1 v] }).objs.size := by simpa using hb
    subst e
    exact I1.fpOk (Nat.le_refl _) (I1.hok.fresh (Nat.le_refl _))
def iRng1 (ta : TA) : TI := fun σ H R => ta σ H fun vs H1 => ∃ j : Int, vs = [.int j] ∧ -(2 ^ 62) ≤ j ∧ j < 2 ^ 62 ∧ R (Itr 0 j.toNat) H1
def iRng2 (ta : TA) : TI := fun σ H R => ta σ H fun vs H1 => ∃ i j : Int, vs = [.int i, .int j] ∧ (-(2 ^ 62) ≤ i ∧ i < 2 ^ 62 ∧ -(2 ^ 62) ≤ j ∧ j < 2 ^ 62) ∧ R (Itr i (j - i).toNat) H1
theorem pi_range1 {a : Expr} {ta : TA} {p pos : Pos} (hg : Gl X "range") (hm : X.mg "range" = none) (ha : PA X [a] ta) (hs : starEach [a] X.env = [(false, eval a X.env)] := by rfl) : PI X tg (.Call (.Name "range" p) [a] [] pos) (iRng1 ta) := by
  intro pins s σ H R I h
  refine Call_ (ld_blt I hg hm boot_range (PyProof.Rows.callWith_type1 (thn (ha pos pins s σ H _ I h) fun us s1 ⟨vs, H1, I1, r1, q1⟩ => ?_) hs rfl))
  obtain ⟨j, e, q1, q2, q⟩ := q1
  subst e
  cases r1 with
  | cons r rr =>
    cases rr
    obtain ⟨t, rfl⟩ := r
    exact call_range_1 (range_it I1 (by omega) (by omega) q1 q2 (by simpa using q))
def tFor (wi : TI) (g : TG) (tb : TS) : TS := fun D σ H => wi σ H fun J H1 => ∃ W : Nat → Nat → St → Hp → Prop, (∃ m, W 0 m σ H1) ∧ ∀ i m σ H, W i m σ H →
  (J.stop i H ∧ D.nx σ H) ∨ (J.go i H ∧ ∃ N : St → Hp → Prop, (∀ σ' H', N σ' H' → ∃ m', m' < m ∧ W (i + 1) m' σ' H') ∧ ∀ x H', J.yld i H x H' → g x σ H' fun σ2 H2 => tb { D with nx := N, ct := N, bk := D.nx } σ2 H2)
def pinsAt (fp : List Addr) (h : Heap) : List (Addr × Obj) := fp.filterMap fun b => (h.get? b).map fun o => (b, o)
theorem mem_pinsAt {fp : List Addr} {h : Heap} {b : Addr} {o : Obj} (hb : b ∈ fp) (e : h.get? b = some o) : (b, o) ∈ pinsAt fp h := List.mem_filterMap.mpr ⟨b, hb, by rw [e]; rfl⟩
theorem of_pinsAt {fp : List Addr} {h : Heap} {p : Addr × Obj} (hp : p ∈ pinsAt fp h) : p.1 ∈ fp ∧ h.get? p.1 = some p.2 := by
  obtain ⟨b, hb, e⟩ := List.mem_filterMap.mp hp
  cases q : h.get? b with
  | none => rw [q] at e; cases e
  | some o =>
    rw [q] at e
    have e' : (b, o) = p := Option.some.inj e
    subst e'
    exact ⟨hb, q⟩
theorem Inv.pinned {pins : List (Addr × Obj)} {σ : St} {H : Hp} {s : Shared} {fp : List Addr} (I : Inv X pins σ H s) (hf : ∀ b ∈ fp, FpOk X pins H b) (ho : ∀ b ∈ fp, ∃ o, s.heap.get? b = some o ∧ ∀ v, o.data ≠ .cell v) : Inv X (pins ++ pinsAt fp s.heap) σ H s :=
  I.pins_of fun p hp => (List.mem_append.mp hp).elim (fun z => I.pin p (List.mem_append_right _ z)) fun z => by
    obtain ⟨hb, e⟩ := of_pinsAt z
    obtain ⟨f0, f1, f2, _⟩ := hf p.1 hb
    obtain ⟨o, e', d⟩ := ho p.1 hb
    rw [e] at e'; cases e'
    exact ⟨e, f0, f1, f2, d⟩
theorem Inv.unpinned {pins pl : List (Addr × Obj)} {σ : St} {H : Hp} {s : Shared} (I : Inv X (pins ++ pl) σ H s) : Inv X pins σ H s := I.pins_of fun p hp => I.pin p (List.mem_append_right _ (List.mem_append_left _ hp))
theorem ps_for {iter : Expr} {body : List Stmt} {wi : TI} {g : TG} {tb : TS} {pos : Pos} (hp : PassesOwn (model X.prog X.w) X.A X.env X.xe) (hc : X.calm = true) (hi : PI X tg iter wi) (hg : PG X tg g) (hb : PSs X body tb)
    (hs : ∀ x, foldedSetIterable iter X.env x = pure x := by intro _; rfl) : PS X (.For tg iter body [] pos) (tFor wi g tb) := by
  intro pins s σ H D I h
  refine wpAny_For (thn (hi pins s σ H _ I h) fun v s1 h1 => thn h1 fun itv s2 h2 => ?_) hs
  obtain ⟨it, fp, tn, J, H2, e, I2, T, st2, f2, W, ⟨m0, w0⟩, turn⟩ := h2
  subst e
  have stat : ∀ {H' : Hp}, (∀ b ∈ fp, H' b = none) → ∀ b ∈ fp, FpOk X pins H' b := fun hn b hb => ⟨hn b hb, (f2 b hb).2⟩
  refine codeAny_forLoop_any (fun n s' => ∃ i σ' H', Inv X pins σ' H' s' ∧ tn i s'.heap ∧ (∀ b ∈ fp, H' b = none) ∧ W i n σ' H') ?_ m0 ⟨0, σ, H2, I2, st2, fun b hb => (f2 b hb).1, w0⟩
  rintro n s3 ⟨i, σ3, H3, I3, st3, fr3, w3⟩
  rcases turn i n σ3 H3 w3 with ⟨stop, qn⟩ | ⟨go, N, hN, step⟩
  · refine wpAny_passesOwn hp (thn (T.done X rfl rfl rfl hc i pins s3 σ3 H3 X.xe I3 (stat fr3) st3 stop) fun r s4 ⟨hr, I4⟩ => ?_)
    subst hr
    exact wpAny_execs_nil ⟨σ3, H3, I4, qn⟩
  · refine wpAny_passesOwn hp (thn (T.item X rfl rfl rfl hc i pins s3 σ3 H3 X.xe I3 (stat fr3) st3 go) fun r s4 ⟨u, hr, h4⟩ => ?_)
    subst hr
    refine wpAny_passesOwn hp (thn h4 fun _ s5 ⟨x, H5, I5, r5, y5, st5, fr5⟩ => ?_)
    have I5' := I5.pinned (stat fr5) (T.obj _ _ st5)
    refine wpAny_passesOwn hp (thn (hg _ s5 σ3 H5 x u _ I5' r5 (step x H5 y5)) fun _ s6 ⟨σ6, H6, I6, q6⟩ => ?_)
    refine wpAny_passesOwn hp (thn (hb _ s6 σ6 H6 _ I6 q6) fun f s7 q7 => ?_)
    have again : ∀ {σ7 : St} {H7 : Hp}, Inv X (pins ++ pinsAt fp s5.heap) σ7 H7 s7 → N σ7 H7 → ∃ m, m < n ∧ ∃ i σ' H', Inv X pins σ' H' s7 ∧ tn i s7.heap ∧ (∀ b ∈ fp, H' b = none) ∧ W i m σ' H' := fun {σ7 H7} I7 n7 => by
      obtain ⟨m', hm, w7⟩ := hN σ7 H7 n7
      refine ⟨m', hm, i + 1, σ7, H7, I7.unpinned, T.keep _ _ _ st5 fun b hb o e => (I7.pin (b, o) (List.mem_append_right _ (List.mem_append_right _ (mem_pinsAt hb e)))).1, fun b hb => ?_, w7⟩
      obtain ⟨o, e, d⟩ := T.obj _ _ st5 b hb
      exact (I7.pin (b, o) (List.mem_append_right _ (List.mem_append_right _ (mem_pinsAt hb e)))).2.1
    cases f with
    | next => obtain ⟨σ7, H7, I7, n7⟩ := q7; exact again I7 n7
    | cont => obtain ⟨σ7, H7, I7, n7⟩ := q7; exact again I7 n7
    | brk => obtain ⟨σ7, H7, I7, q7⟩ := q7; exact ⟨σ7, H7, I7.unpinned, q7⟩
    | ret v => obtain ⟨x7, σ7, H7, I7, r7, q7⟩ := q7; exact ⟨x7, σ7, H7, I7.unpinned, r7, q7⟩
end
theorem for_list {K : PySem.W.Frag} {a : Addr} {xs : List V} {g : TG} {tb : TS} {D : Ends} {σ : St} {H : Hp} (Pv : Nat → St → Hp → Prop) (h0 : Pv 0 σ H) (hl : ∀ i σ H, i ≤ xs.length → Pv i σ H → SqL K H a xs)
    (hs : ∀ i x σ H, xs[i]? = some x → Pv i σ H → g x σ H fun σ2 H2 => tb { D with nx := Pv (i + 1), ct := Pv (i + 1), bk := D.nx } σ2 H2) (hd : ∀ σ H, Pv xs.length σ H → D.nx σ H) :
    ∃ W : Nat → Nat → St → Hp → Prop, (∃ m, W 0 m σ H) ∧ ∀ i m σ H, W i m σ H →
      ((Itl K a).stop i H ∧ D.nx σ H) ∨ ((Itl K a).go i H ∧ ∃ N : St → Hp → Prop, (∀ σ' H', N σ' H' → ∃ m', m' < m ∧ W (i + 1) m' σ' H') ∧ ∀ x H', (Itl K a).yld i H x H' → g x σ H' fun σ2 H2 => tb { D with nx := N, ct := N, bk := D.nx } σ2 H2) := by
  refine ⟨fun i m σ H => m = xs.length - i ∧ i ≤ xs.length ∧ Pv i σ H, ⟨xs.length, by simp, Nat.zero_le _, h0⟩, ?_⟩
  rintro i m σ H ⟨rfl, hi, p⟩
  have q := hl i σ H hi p
  by_cases hlt : i < xs.length
  · refine .inr ⟨⟨xs, xs[i], q, by simp [hlt]⟩, Pv (i + 1), fun σ' H' p' => ⟨xs.length - (i + 1), by omega, rfl, hlt, p'⟩, fun x H' y => ?_⟩
    obtain ⟨e, y⟩ := y
    subst e
    exact hs i x σ _ (y xs q) p
  · have e : i = xs.length := by omega
    subst e
    exact .inl ⟨⟨xs, q, Nat.le_refl _⟩, hd σ H p⟩
theorem for_range {lo : Int} {n : Nat} {g : TG} {tb : TS} {D : Ends} {σ : St} {H : Hp} (Pv : Nat → St → Hp → Prop) (h0 : Pv 0 σ H)
    (hs : ∀ i σ H, i < n → Pv i σ H → g (.int (lo + i)) σ H fun σ2 H2 => tb { D with nx := Pv (i + 1), ct := Pv (i + 1), bk := D.nx } σ2 H2) (hd : ∀ σ H, Pv n σ H → D.nx σ H) :
    ∃ W : Nat → Nat → St → Hp → Prop, (∃ m, W 0 m σ H) ∧ ∀ i m σ H, W i m σ H →
      ((Itr lo n).stop i H ∧ D.nx σ H) ∨ ((Itr lo n).go i H ∧ ∃ N : St → Hp → Prop, (∀ σ' H', N σ' H' → ∃ m', m' < m ∧ W (i + 1) m' σ' H') ∧ ∀ x H', (Itr lo n).yld i H x H' → g x σ H' fun σ2 H2 => tb { D with nx := N, ct := N, bk := D.nx } σ2 H2) := by
  refine ⟨fun i m σ H => m = n - i ∧ i ≤ n ∧ Pv i σ H, ⟨n, by simp, Nat.zero_le _, h0⟩, ?_⟩
  rintro i m σ H ⟨rfl, hi, p⟩
  by_cases hlt : i < n
  · refine .inr ⟨hlt, Pv (i + 1), fun σ' H' p' => ⟨n - (i + 1), by omega, rfl, hlt, p'⟩, fun x H' y => ?_⟩
    obtain ⟨e, y⟩ := y
    subst e y
    exact hs i σ _ hlt p
  · have e : i = n := by omega
    subst e
    exact .inl ⟨Nat.le_refl _, hd σ H p⟩
end L2
namespace L2
open PySem PySem.Spec PyProof.Rows
abbrev R2 := V → V → Hp → VK → Prop
def OpR (X : Cx) (f : Value → Value → Sem Value) (r : R2) : Prop :=
  ∀ (pins : List (Addr × Obj)) (s : Shared) (σ : St) (H : Hp) (x y : V) (v u : Value) (Q : VK), Inv X pins σ H s → RelV x v → RelV y u → r x y H Q →
    wpAny (model X.prog X.w) X.A (f v u) (EP X pins σ Q) X.xe s
def UnR (X : Cx) (f : Value → Sem Value) (r : V → Hp → VK → Prop) : Prop :=
  ∀ (pins : List (Addr × Obj)) (s : Shared) (σ : St) (H : Hp) (x : V) (v : Value) (Q : VK), Inv X pins σ H s → RelV x v → r x H Q →
    wpAny (model X.prog X.w) X.A (f v) (EP X pins σ Q) X.xe s
def CallR (X : Cx) (f : Value) (r : List V → Hp → VK → Prop) : Prop :=
  ∀ (pins : List (Addr × Obj)) (s : Shared) (σ : St) (H : Hp) (xs : List V) (us : List Value) (Q : VK), Inv X pins σ H s → Vals xs us → r xs H Q →
    wpAny (model X.prog X.w) X.A (call f us) (EP X pins σ Q) X.xe s
def TruR (X : Cx) (r : V → Hp → (Bool → Hp → Prop) → Prop) : Prop :=
  ∀ (pins : List (Addr × Obj)) (s : Shared) (σ : St) (H : Hp) (x : V) (v : Value) (Q : Bool → Hp → Prop), Inv X pins σ H s → RelV x v → r x H Q →
    wpAny (model X.prog X.w) X.A (truthy v) (TP X pins σ Q) X.xe s
def tOp (r : R2) (ta tb : TE) : TE := fun σ H Q => ta σ H fun x H1 => tb σ H1 fun y H2 => r x y H2 Q
def tUn (r : V → Hp → VK → Prop) (ta : TE) : TE := fun σ H Q => ta σ H fun x H1 => r x H1 Q
def rI (C : Int → Int → Prop) (g : Int → Int → V) : R2 := fun x y H Q => ∃ i j, x = .int i ∧ y = .int j ∧ C i j ∧ Q (g i j) H
def rI0 (g : Int → Int → V) : R2 := fun x y H Q => ∃ i j, x = .int i ∧ y = .int j ∧ Q (g i j) H
def rU (g : Int → V) : V → Hp → VK → Prop := fun x H Q => ∃ i, x = .int i ∧ Q (g i) H
section
variable {X : Cx} {a b c : Expr} {ta tb tc : TE} {pos : Pos}
theorem binT (ha : PE X a ta) (hb : PE X b tb) {pins : List (Addr × Obj)} {s : Shared} {σ : St} {H : Hp} {R : V → V → Hp → Prop} (I : Inv X pins σ H s)
    (h : ta σ H fun x H1 => tb σ H1 fun y H2 => R x y H2) {Q : Value → Shared → Prop} {f : Value → Value → Sem Value}
    (hf : ∀ v u s2 x y H2, Inv X pins σ H2 s2 → RelV x v → RelV y u → R x y H2 → wpAny (model X.prog X.w) X.A (f v u) Q X.xe s2) :
    wpAny (model X.prog X.w) X.A (eval a X.env) (fun v s₁ => wpAny (model X.prog X.w) X.A (eval b X.env) (fun u s₂ => wpAny (model X.prog X.w) X.A (f v u) Q X.xe s₂) X.xe s₁) X.xe s := by
  refine thn (ha pins s σ H _ I h) fun v s1 ⟨x, H1, I1, r1, q1⟩ => ?_
  refine thn (hb pins s1 σ H1 _ I1 q1) fun u s2 ⟨y, H2, I2, r2, q2⟩ => ?_
  exact hf v u s2 x y H2 I2 r1 r2 q2
theorem pe_op {op : Operator} {r : R2} (ho : OpR X (binaryOp op) r) (ha : PE X a ta) (hb : PE X b tb) : PE X (.BinOp a op b pos) (tOp r ta tb) := by
  intro pins s σ H Q I h
  exact wpAny_BinOp (binT ha hb I h fun v u s2 x y H2 I2 rx ry q => ho pins s2 σ H2 x y v u Q I2 rx ry q)
theorem pe_un {op : UnaryOp} {r : V → Hp → VK → Prop} (ho : UnR X (unaryOp op) r) (ha : PE X a ta) : PE X (.UnaryOp op a pos) (tUn r ta) := by
  intro pins s σ H Q I h
  exact UnaryOp_ (thn (ha pins s σ H _ I h) fun v s1 ⟨x, H1, I1, r1, q1⟩ => ho pins s1 σ H1 x v Q I1 r1 q1)
theorem opI {f : Value → Value → Sem Value} {C : Int → Int → Prop} {g : Int → Int → Int}
    (rule : ∀ (i j : Int) (t u : Tok) (s : Shared) (Q : Value → Shared → Prop) (E : Value → Shared → Prop), C i j → Q (.int (g i j) s.toks) { s with toks := s.toks + 1 } → wpAny (model X.prog X.w) X.A (f (.int i t) (.int j u)) Q E s) :
    OpR X f (rI C fun i j => .int (g i j)) := by
  intro pins s σ H x y v u Q I rx ry h
  obtain ⟨i, j, rfl, rfl, hc, q⟩ := h
  obtain ⟨t, rfl⟩ := rx
  obtain ⟨t', rfl⟩ := ry
  exact rule i j t t' s _ _ hc ⟨.int (g i j), H, I.tok _, ⟨_, rfl⟩, q⟩
theorem opI0 {f : Value → Value → Sem Value} {g : Int → Int → Int}
    (rule : ∀ (i j : Int) (t u : Tok) (s : Shared) (Q : Value → Shared → Prop) (E : Value → Shared → Prop), Q (.int (g i j) s.toks) { s with toks := s.toks + 1 } → wpAny (model X.prog X.w) X.A (f (.int i t) (.int j u)) Q E s) :
    OpR X f (rI0 fun i j => .int (g i j)) := by
  intro pins s σ H x y v u Q I rx ry h
  obtain ⟨i, j, rfl, rfl, q⟩ := h
  obtain ⟨t, rfl⟩ := rx
  obtain ⟨t', rfl⟩ := ry
  exact rule i j t t' s _ _ ⟨.int (g i j), H, I.tok _, ⟨_, rfl⟩, q⟩
theorem opB0 {f : Value → Value → Sem Value} {g : Int → Int → Bool}
    (rule : ∀ (i j : Int) (t u : Tok) (s : Shared) (Q : Value → Shared → Prop) (E : Value → Shared → Prop), Q (.bool (g i j)) s → wpAny (model X.prog X.w) X.A (f (.int i t) (.int j u)) Q E s) :
    OpR X f (rI0 fun i j => .bl (g i j)) := by
  intro pins s σ H x y v u Q I rx ry h
  obtain ⟨i, j, rfl, rfl, q⟩ := h
  obtain ⟨t, rfl⟩ := rx
  obtain ⟨t', rfl⟩ := ry
  exact rule i j t t' s _ _ ⟨.bl (g i j), H, I, rfl, q⟩
def CDiv (i j : Int) : Prop := 0 < j ∧ j < 1073741824
def CPow (i j : Int) : Prop := 0 ≤ j ∧ j ≤ 1000000 ∧ i.natAbs < 2 ^ 64
theorem op_add : OpR X (binaryOp .Add) (rI0 fun i j => .int (i + j)) := opI0 fun _ _ _ _ _ _ _ q => add_int q
theorem op_sub : OpR X (binaryOp .Sub) (rI0 fun i j => .int (i - j)) := opI0 fun _ _ _ _ _ _ _ q => sub_int q
theorem op_fdiv : OpR X (binaryOp .FloorDiv) (rI CDiv fun i j => .int (i / j)) := opI fun i j _ _ _ _ _ hc q => by
  have h1 : (0 : Int) < j := hc.1
  have h2 : j < 1073741824 := hc.2
  exact floordiv_int (by omega) (by rw [Int.fdiv_eq_ediv_of_nonneg i (by omega)]; exact q) (.inl (PyProof.noPylong_small (by omega)))
theorem op_mod : OpR X (binaryOp .Mod) (rI (fun _ j => 0 < j) fun i j => .int (i % j)) := opI fun i j _ _ _ _ _ hc q => by
  have h1 : (0 : Int) < j := hc
  exact mod_int' (by omega) (by rw [Int.fmod_eq_emod_of_nonneg i (by omega)]; exact q)
theorem op_pow : OpR X (binaryOp .Pow) (rI CPow fun i j => .int (i ^ j.toNat)) := opI fun _ _ _ _ _ _ _ hc q => pow_int_small hc.1 hc.2.1 hc.2.2 q
theorem unI {f : Value → Sem Value} {g : Int → Int}
    (rule : ∀ (i : Int) (t : Tok) (s : Shared) (Q : Value → Shared → Prop) (E : Value → Shared → Prop), Q (.int (g i) s.toks) { s with toks := s.toks + 1 } → wpAny (model X.prog X.w) X.A (f (.int i t)) Q E s) :
    UnR X f (rU fun i => .int (g i)) := by
  intro pins s σ H x v Q I rx h
  obtain ⟨i, rfl, q⟩ := h
  obtain ⟨t, rfl⟩ := rx
  exact rule i t s _ _ ⟨.int (g i), H, I.tok _, ⟨_, rfl⟩, q⟩
theorem un_neg : UnR X (unaryOp .USub) (rU fun i => .int (-i)) := unI fun _ _ _ _ _ q => neg_int q
end
def scal : V → V → Bool
  | .non, .non => true | .non, .int _ => true | .int _, .non => true | .non, .bl _ => true | .bl _, .non => true | .non, .str _ => true | .str _, .non => true
  | .int _, .int _ => true | .bl _, .bl _ => true | .str _, .str _ => true | .byt _, .byt _ => true
  | .int _, .str _ => true | .str _, .int _ => true | .bl _, .str _ => true | .str _, .bl _ => true
  | _, _ => false
def rEq : R2 := fun x y H Q => scal x y = true ∧ Q (.bl (decide (x = y))) H
def rNe : R2 := fun x y H Q => scal x y = true ∧ Q (.bl (!decide (x = y))) H
theorem dec_int {i j : Int} : decide (V.int i = V.int j) = (i == j) := by
  rw [Bool.eq_iff_iff]
  simp
theorem dec_bl {i j : Bool} : decide (V.bl i = V.bl j) = (i == j) := by
  rw [Bool.eq_iff_iff]
  simp
theorem dec_str {i j : Str} : decide (V.str i = V.str j) = (i == j) := by
  rw [Bool.eq_iff_iff]
  simp
theorem dec_byt {i j : Array UInt8} : decide (V.byt i = V.byt j) = (i.toList == j.toList) := by
  rw [Bool.eq_iff_iff]
  cases i
  cases j
  simp
section
variable {X : Cx} {a b c : Expr} {ta tb tc : TE} {pos : Pos}
theorem fin_bl {pins : List (Addr × Obj)} {σ : St} {H : Hp} {s : Shared} {Q : VK} {k k' : Bool} (I : Inv X pins σ H s) (q : Q (.bl k) H) (e : k = k') : EP X pins σ Q (.bool k') s := by
  subst e
  exact ⟨.bl k, H, I, rfl, q⟩
theorem op_eq : OpR X (compareOp .Eq) rEq := by
  intro pins s σ H x y v u Q I rx ry h
  obtain ⟨hs, q⟩ := h
  cases x with
  | non =>
    cases rx
    cases y with
    | non => cases ry; exact PySem.EqNone.eq_none_none (fin_bl I q (by simp))
    | bl j => cases ry; exact PySem.EqNone.eq_none_bool (fin_bl I q (by simp))
    | int j => obtain ⟨t', rfl⟩ := ry; exact PySem.EqNone.eq_none_int (fin_bl I q (by simp))
    | str j => obtain ⟨t', rfl⟩ := ry; exact PySem.EqNone.eq_none_str (fin_bl I q (by simp))
    | _ => exact absurd (show false = true from hs) Bool.false_ne_true
  | bl i =>
    cases rx
    cases y with
    | non => cases ry; exact PySem.EqNone.eq_bool_none (fin_bl I q (by simp))
    | bl j => cases ry; exact eq_bool (fin_bl I q dec_bl)
    | str j => obtain ⟨t', rfl⟩ := ry; exact PySem.EqMixed.eq_bool_str (fin_bl I q (by simp))
    | _ => exact absurd (show false = true from hs) Bool.false_ne_true
  | int i =>
    obtain ⟨t, rfl⟩ := rx
    cases y with
    | non => cases ry; exact PySem.EqNone.eq_int_none (fin_bl I q (by simp))
    | int j => obtain ⟨t', rfl⟩ := ry; exact eq_int (fin_bl I q dec_int)
    | str j => obtain ⟨t', rfl⟩ := ry; exact PySem.EqMixed.eq_int_str (fin_bl I q (by simp))
    | _ => exact absurd (show false = true from hs) Bool.false_ne_true
  | str i =>
    obtain ⟨t, rfl⟩ := rx
    cases y with
    | non => cases ry; exact PySem.EqNone.eq_str_none (fin_bl I q (by simp))
    | bl j => cases ry; exact PySem.EqMixed.eq_str_bool (fin_bl I q (by simp))
    | int j => obtain ⟨t', rfl⟩ := ry; exact PySem.EqMixed.eq_str_int (fin_bl I q (by simp))
    | str j => obtain ⟨t', rfl⟩ := ry; exact eq_str (fin_bl I q dec_str)
    | _ => exact absurd (show false = true from hs) Bool.false_ne_true
  | byt i =>
    obtain ⟨t, rfl⟩ := rx
    cases y with
    | byt j => obtain ⟨t', rfl⟩ := ry; exact PySem.W.eq_bytes (fin_bl I q dec_byt)
    | _ => exact absurd (show false = true from hs) Bool.false_ne_true
  | _ => cases y <;> exact absurd (show false = true from hs) Bool.false_ne_true
theorem op_ne : OpR X (compareOp .NotEq) rNe := by
  intro pins s σ H x y v u Q I rx ry h
  obtain ⟨hs, q⟩ := h
  cases x with
  | non =>
    cases rx
    cases y with
    | non => cases ry; exact PySem.EqNone.ne_none_none (fin_bl I q (by simp))
    | bl j => cases ry; exact PySem.EqNone.ne_none_bool (fin_bl I q (by simp))
    | int j => obtain ⟨t', rfl⟩ := ry; exact PySem.EqNone.ne_none_int (fin_bl I q (by simp))
    | str j => obtain ⟨t', rfl⟩ := ry; exact PySem.EqNone.ne_none_str (fin_bl I q (by simp))
    | _ => exact absurd (show false = true from hs) Bool.false_ne_true
  | bl i =>
    cases rx
    cases y with
    | non => cases ry; exact PySem.EqNone.ne_bool_none (fin_bl I q (by simp))
    | bl j => cases ry; exact ne_bool (fin_bl I q (congrArg not dec_bl))
    | str j => obtain ⟨t', rfl⟩ := ry; exact PySem.EqMixed.ne_bool_str (fin_bl I q (by simp))
    | _ => exact absurd (show false = true from hs) Bool.false_ne_true
  | int i =>
    obtain ⟨t, rfl⟩ := rx
    cases y with
    | non => cases ry; exact PySem.EqNone.ne_int_none (fin_bl I q (by simp))
    | int j => obtain ⟨t', rfl⟩ := ry; exact ne_int (fin_bl I q (congrArg not dec_int))
    | str j => obtain ⟨t', rfl⟩ := ry; exact PySem.EqMixed.ne_int_str (fin_bl I q (by simp))
    | _ => exact absurd (show false = true from hs) Bool.false_ne_true
  | str i =>
    obtain ⟨t, rfl⟩ := rx
    cases y with
    | non => cases ry; exact PySem.EqNone.ne_str_none (fin_bl I q (by simp))
    | bl j => cases ry; exact PySem.EqMixed.ne_str_bool (fin_bl I q (by simp))
    | int j => obtain ⟨t', rfl⟩ := ry; exact PySem.EqMixed.ne_str_int (fin_bl I q (by simp))
    | str j => obtain ⟨t', rfl⟩ := ry; exact ne_str (fin_bl I q (congrArg not dec_str))
    | _ => exact absurd (show false = true from hs) Bool.false_ne_true
  | byt i =>
    obtain ⟨t, rfl⟩ := rx
    cases y with
    | byt j => obtain ⟨t', rfl⟩ := ry; exact PySem.W.ne_bytes (fin_bl I q (congrArg not dec_byt))
    | _ => exact absurd (show false = true from hs) Bool.false_ne_true
  | _ => cases y <;> exact absurd (show false = true from hs) Bool.false_ne_true
theorem op_lt : OpR X (compareOp .Lt) (rI0 fun i j => .bl (decide (i < j))) := opB0 fun _ _ _ _ _ _ _ q => lt_int q
theorem op_le : OpR X (compareOp .LtE) (rI0 fun i j => .bl (decide (i ≤ j))) := opB0 fun _ _ _ _ _ _ _ q => le_int q
theorem op_gt : OpR X (compareOp .Gt) (rI0 fun i j => .bl (decide (j < i))) := opB0 fun _ _ _ _ _ _ _ q => gt_int q
theorem op_ge : OpR X (compareOp .GtE) (rI0 fun i j => .bl (decide (j ≤ i))) := opB0 fun _ _ _ _ _ _ _ q => ge_int q
theorem op_in_str : OpR X (compareOp .In) (fun x y H Q => ∃ i j, x = .str i ∧ y = .str j ∧ Q (.bl (!(Builtin.Str.occurrences j i 0 j.length 1).isEmpty)) H) := by
  intro pins s σ H x y v u Q I rx ry h
  obtain ⟨i, j, rfl, rfl, q⟩ := h
  obtain ⟨t, rfl⟩ := rx
  obtain ⟨t', rfl⟩ := ry
  exact in_str (fin_bl I q rfl)
theorem op_isN : OpR X (compareOp .Is) (fun x y H Q => y = .non ∧ Q (.bl (decide (x = .non))) H) := by
  intro pins s σ H x y v u Q I rx ry h
  obtain ⟨rfl, q⟩ := h
  cases ry
  refine is_none_gen (fin_bl I q ?_)
  cases x <;> first
    | (cases rx; rfl)
    | (obtain ⟨t, rfl⟩ := rx; rfl)
theorem op_notN : OpR X (compareOp .IsNot) (fun x y H Q => y = .non ∧ Q (.bl (!decide (x = .non))) H) := by
  intro pins s σ H x y v u Q I rx ry h
  obtain ⟨rfl, q⟩ := h
  cases ry
  refine isnot_none_gen (fin_bl I q ?_)
  cases x <;> first
    | (cases rx; rfl)
    | (obtain ⟨t, rfl⟩ := rx; rfl)
theorem op_notin_str : OpR X (compareOp .NotIn) (fun x y H Q => ∃ i j, x = .str i ∧ y = .str j ∧ Q (.bl (!(!(Builtin.Str.occurrences j i 0 j.length 1).isEmpty))) H) := by
  intro pins s σ H x y v u Q I rx ry h
  obtain ⟨i, j, rfl, rfl, q⟩ := h
  obtain ⟨t, rfl⟩ := rx
  obtain ⟨t', rfl⟩ := ry
  exact notIn_str (fin_bl I q rfl)
theorem OpR.or {f : Value → Value → Sem Value} {r r' : R2} (h : OpR X f r) (h' : OpR X f r') : OpR X f (fun x y H Q => r x y H Q ∨ r' x y H Q) := by
  intro pins s σ H x y v u Q I rx ry q
  rcases q with q | q
  · exact h pins s σ H x y v u Q I rx ry q
  · exact h' pins s σ H x y v u Q I rx ry q
theorem nomark (b : Expr) {op : CmpOp} (h : op ≠ .In := by decide) (h2 : op ≠ .NotIn := by decide) : behindInMarks op b = false := by
  have e1 : (op == CmpOp.In) = false := by cases op <;> first | rfl | exact absurd rfl h
  have e2 : (op == CmpOp.NotIn) = false := by cases op <;> first | rfl | exact absurd rfl h2
  cases b <;> simp [behindInMarks, e1, e2]
theorem pe_cmpR {op : CmpOp} {r : R2} (ho : OpR X (compareOp op) r) (ha : PE X a ta) (hb : PE X b tb) (hm : behindInMarks op b = false) : PE X (.Compare a [op] [b] pos) (tOp r ta tb) := by
  intro pins s σ H Q I h
  exact wpAny_Compare1 (binT ha hb I h fun v u s2 x y H2 I2 rx ry q => ho pins s2 σ H2 x y v u Q I2 rx ry q) hm
def tTest (t : TE) : TT := fun σ H Q => t σ H fun x H' => ∃ k, x = .bl k ∧ Q k H'
theorem pt_cmpR {op : CmpOp} {r : R2} (ho : OpR X (compareOp op) r) (ha : PE X a ta) (hb : PE X b tb) (hm : behindInMarks op b = false) : PT X (.Compare a [op] [b] pos) (tTest (tOp r ta tb)) := by
  intro pins s σ H Q I h
  refine wpAny_isTrue_Compare1 (thn (ha pins s σ H _ I h) fun v s1 ⟨x, H1, I1, r1, q1⟩ => thn (hb pins s1 σ H1 _ I1 q1) fun u s2 ⟨y, H2, I2, r2, q2⟩ =>
    thn (ho pins s2 σ H2 x y v u _ I2 r1 r2 q2) fun c s3 ⟨z, H3, I3, r3, k, e, q3⟩ => ?_) hm
  subst e
  cases r3
  exact wpAny_truthy_bool ⟨H3, I3, q3⟩
def tChain (r r' : R2) (ta tb tc : TE) : TE := fun σ H Q => ta σ H fun x H1 => tb σ H1 fun y H2 => r x y H2 fun z H3 => ∃ k, z = .bl k ∧
  (if k = true then tc σ H3 fun w' H4 => r' y w' H4 Q else Q (.bl false) H3)
theorem pe_chain {op op' : CmpOp} {r r' : R2} (ho : OpR X (compareOp op) r) (ho' : OpR X (compareOp op') r') (ha : PE X a ta) (hb : PE X b tb) (hc : PE X c tc)
    (hm : lastMarks [op, op'] [b, c] = false := by with_unfolding_all rfl) : PE X (.Compare a [op, op'] [b, c] pos) (tChain r r' ta tb tc) := by
  intro pins s σ H Q I h
  refine Compare_chain (thn (ha pins s σ H _ I h) fun v s1 ⟨x, H1, I1, r1, q1⟩ => chain_link (thn (hb pins s1 σ H1 _ I1 q1) fun u s2 ⟨y, H2, I2, r2, q2⟩ =>
    thn (ho pins s2 σ H2 x y v u _ I2 r1 r2 q2) fun d s3 ⟨z, H3, I3, r3, k, e, q3⟩ => ?_)) hm
  subst e
  cases r3
  refine wpAny_truthy_bool ?_
  cases k with
  | false => exact ite_ff ⟨.bl false, H3, I3, rfl, q3⟩
  | true => exact ite_tt (chain_last (thn (hc pins s3 σ H3 _ I3 q3) fun w' s4 ⟨z', H4, I4, r4, q4⟩ => ho' pins s4 σ H4 y z' u w' Q I4 r2 r4 q4))
theorem pt_chain {op op' : CmpOp} {r r' : R2} (ho : OpR X (compareOp op) r) (ho' : OpR X (compareOp op') r') (ha : PE X a ta) (hb : PE X b tb) (hc : PE X c tc)
    (hm : lastMarks [op, op'] [b, c] = false := by with_unfolding_all rfl) : PT X (.Compare a [op, op'] [b, c] pos) (tTest (tChain r r' ta tb tc)) := by
  intro pins s σ H Q I h
  refine isTrue_chain (thn (ha pins s σ H _ I h) fun v s1 ⟨x, H1, I1, r1, q1⟩ => test_link (thn (hb pins s1 σ H1 _ I1 q1) fun u s2 ⟨y, H2, I2, r2, q2⟩ =>
    thn (ho pins s2 σ H2 x y v u _ I2 r1 r2 q2) fun d s3 ⟨z, H3, I3, r3, k, e, q3⟩ => ?_)) hm
  subst e
  cases r3
  refine wpAny_truthy_bool ?_
  cases k with
  | false =>
    obtain ⟨k', e', q'⟩ := q3
    cases e'
    exact ite_ff ⟨H3, I3, q'⟩
  | true =>
    refine ite_tt (test_last (thn (hc pins s3 σ H3 _ I3 q3) fun w' s4 ⟨z', H4, I4, r4, q4⟩ => thn (ho' pins s4 σ H4 y z' u w' _ I4 r2 r4 q4) fun d' s5 ⟨z2, H5, I5, r5, k2, e2, q5⟩ => ?_))
    subst e2
    cases r5
    exact wpAny_truthy_bool ⟨H5, I5, q5⟩
def TruV (K : PySem.W.Frag) (x : V) (H : Hp) (k : Bool) : Prop :=
  match x with
  | .non => k = false
  | .bl b => k = b
  | .int i => k = (i != 0)
  | .str y => y.length ≤ sizeLine ∧ k = ((y.length : Int) != 0)
  | .byt y => y.size ≤ sizeLine ∧ k = ((y.size : Int) != 0)
  | .ref p => (∃ xs, SqL K H p xs ∧ k = !xs.isEmpty) ∨ (∃ xs, SqT K H p xs ∧ k = !xs.isEmpty) ∨ ∃ kvs, H p = some (.dK kvs) ∧ k = !kvs.isEmpty
  | _ => False
theorem isEmpty_kv {κ : Type} {kvs : List (κ × V)} {vs : List (κ × Value)} (r : KV kvs vs) : (!vs.isEmpty) = !kvs.isEmpty := by
  cases r <;> rfl
theorem isEmpty_of {xs : List V} {its : List Value} (r : Vals xs its) : (!its.toArray.isEmpty) = !xs.isEmpty := by
  cases r <;> simp
theorem line63 : (sizeLine : Nat) < 2 ^ 63 := by rw [sizeLine_eq]; decide
theorem tru_ok : TruR X (fun x H Q => ∃ k, TruV X.K x H k ∧ Q k H) := by
  intro pins s σ H x v Q I rx h
  obtain ⟨k, e, q⟩ := h
  have hl := line63
  have hs : sizeLine = 16777216 := sizeLine_eq
  cases x with
  | non =>
    cases rx
    have e' : k = false := e
    subst e'
    exact truthy_none ⟨H, I, q⟩
  | bl b =>
    cases rx
    have e' : k = b := e
    subst e'
    exact wpAny_truthy_bool ⟨H, I, q⟩
  | int i =>
    obtain ⟨t, rfl⟩ := rx
    have e' : k = (i != 0) := e
    subst e'
    exact PySem.P.truthy_int ⟨H, I, q⟩
  | str y =>
    obtain ⟨t, rfl⟩ := rx
    obtain ⟨hy, e'⟩ : y.length ≤ sizeLine ∧ k = ((y.length : Int) != 0) := e
    subst e'
    exact PySem.P.truthy_str (by omega) ⟨H, I.tok _, q⟩
  | byt y =>
    obtain ⟨t, rfl⟩ := rx
    obtain ⟨hy, e'⟩ : y.size ≤ sizeLine ∧ k = ((y.size : Int) != 0) := e
    subst e'
    exact PySem.W.truthy_bytes (by omega) ⟨H, I.tok _, q⟩
  | ref p =>
    cases rx
    have e' : (∃ xs, SqL X.K H p xs ∧ k = !xs.isEmpty) ∨ (∃ xs, SqT X.K H p xs ∧ k = !xs.isEmpty) ∨ ∃ kvs, H p = some (.dK kvs) ∧ k = !kvs.isEmpty := e
    rcases e' with ⟨xs, hx, e'⟩ | ⟨xs, hx, e'⟩ | ⟨kvs, hx, e'⟩
    · subst e'
      obtain ⟨its, r, pl, hz⟩ := I.list hx
      have hlen := r.length
      exact wpAny_truthy_list pl.isList (by simp only [List.size_toArray]; omega) ⟨H, I.tok _, by rw [isEmpty_of r]; exact q⟩
    · subst e'
      obtain ⟨its, r, pl, hz⟩ := I.tuple hx
      have hlen := r.length
      exact truthy_tuple pl (by simp only [List.size_toArray]; omega) ⟨H, I.tok _, by rw [isEmpty_of r]; exact q⟩
    · subst e'
      obtain ⟨hz, hS, vs, r, m⟩ : kvs.length ≤ sizeLine ∧ (p == sysModules) = false ∧ ∃ vs, KV kvs vs ∧ s.heap.DictOf (mixKind X.prog X.w) p vs := I.hok p _ hx
      have hlen : kvs.length = vs.length := Paired.length r
      exact wpAny_truthy_dict hS m (by omega) ⟨H, I.tok _, by rw [isEmpty_kv r]; exact q⟩
  | _ => exact (show False from e).elim
theorem pt_truth (ha : PE X a ta) (he : ∀ whole, isTrue a X.env whole = (do let v ← whole; standAt a.pos; holding [v] (truthy v))) :
    PT X a (fun σ H Q => ta σ H fun x H' => ∃ k, TruV X.K x H' k ∧ Q k H') := by
  intro pins s σ H Q I h
  exact isTrue_plain (thn (ha pins s σ H _ I h) fun v s1 ⟨x, H1, I1, r1, q1⟩ => tru_ok pins s1 σ H1 x v Q I1 r1 q1) (he _)
theorem op_add_str : OpR X (binaryOp .Add) (fun x y H Q => ∃ i j, x = .str i ∧ y = .str j ∧ i.length + j.length ≤ sizeLine ∧ Q (.str (i ++ j)) H) := by
  intro pins s σ H x y v u Q I rx ry h
  obtain ⟨i, j, rfl, rfl, hz, q⟩ := h
  obtain ⟨t, rfl⟩ := rx
  obtain ⟨t', rfl⟩ := ry
  exact add_str (fun t' tk => ⟨.str (i ++ j), H, I.tok _, ⟨_, rfl⟩, q⟩) hz
theorem vals1 {x : V} {us : List Value} (r : Vals [x] us) : ∃ u, us = [u] ∧ RelV x u := by
  cases r with
  | cons r1 r2 => cases r2; exact ⟨_, rfl, r1⟩
theorem vals2 {x y : V} {us : List Value} (r : Vals [x, y] us) : ∃ u w', us = [u, w'] ∧ RelV x u ∧ RelV y w' := by
  cases r with
  | cons r1 r2 =>
    cases r2 with
    | cons r3 r4 => cases r4; exact ⟨_, _, rfl, r1, r3⟩
theorem call_abs : CallR X (.builtin "abs") (fun xs H Q => ∃ i, xs = [.int i] ∧ Q (.int (if i < 0 then -i else i)) H) := by
  intro pins s σ H xs us Q I r h
  obtain ⟨i, rfl, q⟩ := h
  obtain ⟨u, rfl, t, rfl⟩ := vals1 r
  exact call_abs_int fun u tk => ⟨.int (if i < 0 then -i else i), H, I.tok _, ⟨_, rfl⟩, q⟩
theorem call_max2 (hc : X.calm = true) : CallR X (.builtin "max") (fun xs H Q => ∃ i j, xs = [.int i, .int j] ∧ Q (.int (if j > i then j else i)) H) := by
  intro pins s σ H xs us Q I r h
  obtain ⟨i, j, rfl, q⟩ := h
  obtain ⟨u, w', rfl, ⟨t, rfl⟩, ⟨t', rfl⟩⟩ := vals2 r
  refine max_two_ints (I.ok.hd hc) fun h' tk k => ⟨_, H, I.kept k, ?_, q⟩
  by_cases hj : j > i
  · rw [if_pos hj, if_pos hj]; exact ⟨_, rfl⟩
  · rw [if_neg hj, if_neg hj]; exact ⟨_, rfl⟩
theorem call_int1 : CallR X (.type "int") (fun xs H Q => (∃ i, xs = [.int i] ∧ Q (.int i) H) ∨ ∃ k, xs = [.bl k] ∧ Q (.int (if k then 1 else 0)) H) := by
  intro pins s σ H xs us Q I r h
  rcases h with ⟨i, rfl, q⟩ | ⟨k, rfl, q⟩
  · obtain ⟨u, rfl, t, rfl⟩ := vals1 r
    exact call_int_int ⟨.int i, H, I, ⟨_, rfl⟩, q⟩
  · obtain ⟨u, rfl, r1⟩ := vals1 r
    cases r1
    exact call_int_bool ⟨.int (if k then 1 else 0), H, I.tok _, ⟨_, rfl⟩, q⟩
theorem call_str_int : CallR X (.type "str") (fun xs H Q => ∃ i, xs = [.int i] ∧ i.natAbs.log2 < 1920 ∧ Q (.str (toString i)) H) := by
  intro pins s σ H xs us Q I r h
  obtain ⟨i, rfl, hz, q⟩ := h
  obtain ⟨u, rfl, t, rfl⟩ := vals1 r
  exact PySem.P.str_of_int hz ⟨.str _, H, I.tok _, ⟨_, rfl⟩, q⟩
theorem call_divmod : CallR X (.builtin "divmod") (fun xs H Q => ∃ i j, xs = [.int i, .int j] ∧ CDiv i j ∧ ∀ p, H p = none → Q (.ref p) (upd H p (.tup [.int (i / j), .int (i % j)]))) := by
  intro pins s σ H xs us Q I r h
  obtain ⟨i, j, rfl, ⟨h1, h2⟩, q⟩ := h
  obtain ⟨u, w', rfl, ⟨t, rfl⟩, ⟨t', rfl⟩⟩ := vals2 r
  refine divmod_int (by omega) ?_ (.inl (PyProof.noPylong_small (by omega)))
  rw [Int.fdiv_eq_ediv_of_nonneg i (by omega), Int.fmod_eq_emod_of_nonneg i (by omega)]
  have hn : H s.heap.objs.size = none := I.hok.fresh (Nat.le_refl _)
  refine ⟨.ref s.heap.objs.size, _, ?_, rfl, q _ hn⟩
  refine I.laid (fun b o e => Heap.get?_push_of_some _ e) (Nat.le_refl _) ⟨by simp only [List.length_cons, List.length_nil]; rw [sizeLine_eq]; decide, [.int (i / j) s.toks, .int (i % j) (s.toks + 1)], .cons ⟨_, rfl⟩ (.cons ⟨_, rfl⟩ .nil), ?_⟩
  exact ⟨_, Heap.get?_push_size s.heap rfl, rfl, 0, rfl⟩
end
end L2
namespace L2
open PySem PySem.Spec PyProof.Rows
structure ObjM (h : Heap) (x dx C : Addr) (mA : Str → Option Value) : Prop where
  obj : h.get? x = some (PySem.W.instObj C dx)
  ns : h.Ns1 dx mA
  ne : dx ≠ x
theorem lookIn_ns {h : Heap} {dx : Addr} {mA : Str → Option Value} (n : h.Ns1 dx mA) : ∃ od, h.get? dx = some od ∧ ∀ name, PySem.W.lookIn name od = some (mA name) := by
  obtain ⟨o, es, ep, ho, hd, hk, _, hm⟩ := n
  refine ⟨o, ho, fun name => ?_⟩
  have e := hm name
  unfold nsFind findBy at e
  rw [← Array.find?_toList] at e
  unfold PySem.W.lookIn
  rw [hd]
  dsimp only
  split
  · rename_i y q
    rw [q] at e
    exact congrArg some e
  · rename_i q
    rw [q] at e
    have a : es.toList.any (·.refKey) = false := by
      rw [List.any_eq_false]
      intro y hy
      obtain ⟨z, t, hkey⟩ := hk y (Array.mem_toList_iff.mp hy)
      simp [DictEntry.refKey, hkey]
    have a' : ¬ es.toList.any (·.refKey) = true := by rw [a]; exact Bool.false_ne_true
    rw [if_neg a']
    exact congrArg some e
theorem ObjM.look {h : Heap} {x dx C : Addr} {mA : Str → Option Value} (I : ObjM h x dx C mA) : ∃ od, PySem.W.InstAt h x (PySem.W.instObj C dx) C (some od) ∧ ∀ name, PySem.W.lookIn name od = some (mA name) :=
  let ⟨od, ho, hl⟩ := lookIn_ns I.ns
  ⟨od, ⟨I.obj, rfl, rfl, ho⟩, hl⟩
section
variable {prog : Program} {w : World} {A : Around} {E : Value → Shared → Prop} {s : Shared} {K : PySem.W.Frag} {x dx C f : Addr} {mA : Str → Option Value} {name : Str} {v : Value}
theorem get_map {expr : Bool} {Q : Value → Shared → Prop} (X : K.In s.heap) (I : ObjM s.heap x dx C mA) (hg : PySem.W.plainGet K C name = true) (hh : PySem.W.hasDictIn K C = true)
    (ha : PySem.W.findIn K (.ref C) name = some none) (hv : mA name = some v) (hv' : PySem.W.handedIn v = true) (h : Q v { s with toks := s.toks + 1 }) :
    wpAny (model prog w) A (getAttr (.ref x) name expr) Q E s := by
  obtain ⟨od, J, hl⟩ := I.look
  exact PySem.W.get_value X J (PySem.W.plainGet_of hg).1 (PySem.W.findObj_own hh ha rfl (by rw [hl, hv])) hv' h
theorem get_meth {pl : Sem Bool} {Q : Value × List Value → Shared → Prop} (X : K.In s.heap) (I : ObjM s.heap x dx C mA) (hg : PySem.W.plainGet K C name = true)
    (hf : PySem.W.findIn K (.ref C) name = some (some (.ref f))) (ht : PySem.W.isFn K (.ref f) = true) (hv : mA name = none) (h : Q (.ref f, [.ref x]) s) :
    wpAny (model prog w) A (getMethod (.ref x) name pl) Q E s := by
  obtain ⟨od, J, hl⟩ := I.look
  exact PySem.W.method_fn X J (PySem.W.plainGet_of hg).1 (PySem.W.plainGet_of hg).2 hf (beq_iff_eq.mp ht) (by show (PySem.W.lookIn name od).map (·.isSome) = some false; rw [hl, hv]; rfl) h
theorem set_map {ns : List Str} {Q : Unit → Shared → Prop} (X : K.In s.heap) (I : ObjM s.heap x dx C mA)
    (hs : PySem.W.findIn K (.ref C) "__setattr__" = some (some (.builtin "object.__setattr__"))) (hp : PySem.W.plainOver K C = true) (ht : PySem.W.takerIn K C name = some none) (hh : PySem.W.hasDictIn K C = true)
    (hw : PySem.Within mA ns) (hsz : ns.length ≤ sizeLine)
    (h : ∀ h', ObjM h' x dx C (fun y => if y = name then some v else mA y) → Heap.SameBut dx s.heap h' → Q () { s with heap := h', toks := s.toks + 2 }) :
    wpAny (model prog w) A (setAttr (.ref x) name v) Q E s := by
  obtain ⟨od, J, hl⟩ := I.look
  refine PySem.W.set_plain X J hs (PySem.W.osa_open (s := { s with toks := s.toks + 1 }) (r := none) X J hp ht fun b => ?_)
  obtain ⟨cd, hc, hd'⟩ := PySem.W.any_some hh
  have hx : s.heap.get? x = some ⟨.ref C, some dx, .plain, #[]⟩ := I.obj
  refine wpAny_bind (wpAny_pure (wpAny_bind (wpAny_bind (wpAny_loadPart hx (wpAny_bind (PySem.W.Looks.here (s := { s with toks := s.toks + 1 }) (PySem.W.looks_clsIn X hc) ?_))))))
  rw [hd']
  refine wpAny_pure (a := some dx) (wpAny_bind (wpAny_pure (wpAny_bind ?_)))
  refine wpAny_nsSet1 (s := { s with toks := s.toks + 1 }) I.ns fun h' hn2 hs2 => ?_
  obtain ⟨oD, esD, epD, hoD, hdD, hcD⟩ := hn2.count (PySem.Within.cons name v hw)
  refine wpAny_bind (wpAny_lookBehind hoD (by rw [hdD]; exact pastItsLine_dict (Nat.le_trans hcD (by rw [List.length_cons]; omega))) ?_)
  exact wpAny_pure (h _ ⟨(hs2.2 _ (Ne.symm I.ne)).trans I.obj, hn2, I.ne⟩ hs2)
theorem make_map {R : Result → Shared → Prop} {vs : List Value} {kw : List (Str × Value)} (X : K.In s.heap) (hm : PySem.W.makesIn K C = true)
    (hi : PySem.W.findIn K (.ref C) "__init__" = some (some (.ref f))) (hf : PySem.W.typeIn K (.ref f) = some (.type "function"))
    (h : codeAny (model prog w) (A.under (.builtin "type.__call__" ⟨.ref C :: vs, kw⟩)) (.call (.ref f) ⟨.ref (s.heap.objs.size + 1) :: vs, kw⟩) (PySem.W.InitBack (s.heap.objs.size + 1) R)
      { s with heap := (s.heap.push PySem.W.emptyDict).push (PySem.W.instObj C s.heap.objs.size) }) :
    codeAny (model prog w) A (.call (.ref C) ⟨vs, kw⟩) R s := by
  obtain ⟨hh, g, d, t, os⟩ := s
  exact PySem.W.make_core (PySem.W.makes_of X hm) (PySem.W.looks_findIn X hi) (fun self => PySem.W.bind_fn X self hf) (.inl rfl) h
end
def putF (f : Str) (v : V) : List (Str × V) → List (Str × V)
  | [] => [(f, v)]
  | (g, x) :: r => if g = f then (g, v) :: r else (g, x) :: putF f v r
theorem lookup_putF (f g : Str) (v : V) : ∀ fs : List (Str × V), (putF f v fs).lookup g = if g = f then some v else fs.lookup g
  | [] => by
    show List.lookup g [(f, v)] = _
    by_cases h : g = f
    · have hb : (g == f) = true := beq_iff_eq.mpr h
      simp only [List.lookup, hb, if_pos h]
    · have hb : (g == f) = false := beq_eq_false_iff_ne.mpr h
      simp only [List.lookup, hb, if_neg h]
  | (k, x) :: r => by
    have ih := lookup_putF f g v r
    rw [show putF f v ((k, x) :: r) = (if k = f then (k, v) :: r else (k, x) :: putF f v r) from rfl]
    by_cases hk : k = f
    · rw [if_pos hk]
      by_cases h : g = k
      · have hb : (g == k) = true := beq_iff_eq.mpr h
        simp only [List.lookup, hb, if_pos (h.trans hk)]
      · have hb : (g == k) = false := beq_eq_false_iff_ne.mpr h
        simp only [List.lookup, hb, if_neg (fun e : g = f => h (e.trans hk.symm))]
    · rw [if_neg hk]
      by_cases h : g = k
      · have hb : (g == k) = true := beq_iff_eq.mpr h
        simp only [List.lookup, hb, if_neg (fun e : g = f => hk (h.symm.trans e))]
      · have hb : (g == k) = false := beq_eq_false_iff_ne.mpr h
        simp only [List.lookup, hb]
        exact ih
theorem keys_putF (f : Str) (v : V) : ∀ fs : List (Str × V), f ∈ (putF f v fs).map (·.1) ∧ ∀ g, g ∈ fs.map (·.1) → g ∈ (putF f v fs).map (·.1)
  | [] => ⟨by simp [putF], fun g h => by simp at h⟩
  | (k, x) :: r => by
    obtain ⟨i1, i2⟩ := keys_putF f v r
    rw [show putF f v ((k, x) :: r) = (if k = f then (k, v) :: r else (k, x) :: putF f v r) from rfl]
    by_cases hk : k = f
    · rw [if_pos hk]
      subst hk
      exact ⟨by simp, fun g h => by simpa using h⟩
    · rw [if_neg hk]
      refine ⟨?_, fun g h => ?_⟩
      · rw [List.map_cons]
        exact List.mem_cons_of_mem _ i1
      · rw [List.map_cons] at h ⊢
        rcases List.mem_cons.mp h with e | e
        · exact List.mem_cons.mpr (.inl e)
        · exact List.mem_cons_of_mem _ (i2 g e)
theorem length_putF (f : Str) (v : V) : ∀ fs : List (Str × V), (putF f v fs).length ≤ fs.length + 1
  | [] => by simp [putF]
  | (k, x) :: r => by
    have ih := length_putF f v r
    rw [show putF f v ((k, x) :: r) = (if k = f then (k, v) :: r else (k, x) :: putF f v r) from rfl]
    by_cases hk : k = f
    · rw [if_pos hk, List.length_cons, List.length_cons]; omega
    · rw [if_neg hk, List.length_cons, List.length_cons]; omega
theorem RelO.some_of {v : V} {o : Option Value} (r : RelO (some v) o) : ∃ u, o = some u ∧ RelV v u := by
  cases o with
  | none => exact (show False from r).elim
  | some u => exact ⟨u, rfl, r⟩
theorem RelO.none_of {o : Option Value} (r : RelO none o) : o = none := by
  cases o with
  | none => rfl
  | some u => exact (show False from r).elim
theorem handed_of {v : V} {u : Value} (r : RelV v u) : PySem.W.handedIn u = true := by
  cases v with
  | non => cases (show u = Value.none from r); rfl
  | bl b => cases (show u = Value.bool b from r); rfl
  | int i => obtain ⟨t, e⟩ := (show ∃ t, u = Value.int i t from r); cases e; rfl
  | str x => obtain ⟨t, e⟩ := (show ∃ t, u = Value.str x t from r); cases e; rfl
  | byt b => obtain ⟨t, e⟩ := (show ∃ t, u = Value.bytes b t from r); cases e; rfl
  | flt b => obtain ⟨t, e⟩ := (show ∃ t, u = Value.float b t from r); cases e; rfl
  | ref a => cases (show u = Value.ref a from r); rfl
  | ty n => cases (show u = Value.type n from r); rfl
section
variable {P : Program} {w : World} {H H' : Hp} {h h' : Heap} {a C dx : Addr} {fs fs' : List (Str × V)}
theorem ins_get (hok : HOk P w H h) (e : H a = some (.ins C dx fs)) : ∃ mA, ObjM h a dx C mA ∧ (∀ f, RelO (fs.lookup f) (mA f)) ∧ PySem.Within mA (fs.map (·.1)) ∧ fs.length ≤ 1000 ∧ H dx = some (.own a) := by
  obtain ⟨d, z, ne, ob, mA, n, r, q⟩ := (show ObjOk P w H h a (.ins C dx fs) from hok a _ e)
  exact ⟨mA, ⟨ob, n, ne⟩, r, q, z, d⟩
end
structure Cls (K : PySem.W.Frag) (C : Addr) : Prop where
  pg : PySem.W.plainGet K C Str.empty = true
  hd : PySem.W.hasDictIn K C = true
  po : PySem.W.plainOver K C = true
  sa : PySem.W.findIn K (.ref C) "__setattr__" = some (some (.builtin "object.__setattr__"))
theorem Cls.get {K : PySem.W.Frag} {C : Addr} (c : Cls K C) (f : Str) : PySem.W.plainGet K C f = true := c.pg
def NoAttr (K : PySem.W.Frag) (C : Addr) (f : Str) : Prop := PySem.W.findIn K (.ref C) f = some none
theorem NoAttr.taker {K : PySem.W.Frag} {C : Addr} {f : Str} (n : NoAttr K C f) : PySem.W.takerIn K C f = some none := by
  unfold PySem.W.takerIn
  rw [show PySem.W.findIn K (.ref C) f = some none from n]
  rfl
structure Meth (K : PySem.W.Frag) (C : Addr) (m : Str) (f : Addr) : Prop where
  at_ : PySem.W.findIn K (.ref C) m = some (some (.ref f))
  fn : PySem.W.isFn K (.ref f) = true
  kp : PySem.W.keepIn K (.ref f) = true
section
variable {X : Cx} {pins : List (Addr × Obj)} {σ : St} {H : Hp} {s : Shared} {a C dx : Addr} {fs : List (Str × V)} {f : Str} {v : V} {A : Around} {E : Value → Shared → Prop}
theorem getattr_ok {b : Bool} {Q : Value → Shared → Prop} (I : Inv X pins σ H s) (e : H a = some (.ins C dx fs)) (c : Cls X.K C) (n : NoAttr X.K C f) (l : fs.lookup f = some v)
    (h : ∀ u s', Inv X pins σ H s' → RelV v u → Q u s') : wpAny (model X.prog X.w) A (getAttr (.ref a) f b) Q E s := by
  obtain ⟨mA, O, r, _, _, _⟩ := ins_get I.hok e
  obtain ⟨u, hu, ru⟩ := RelO.some_of (v := v) (o := mA f) (by rw [← l]; exact r f)
  exact get_map I.kIn O (c.get f) c.hd n hu (handed_of ru) (h u _ (I.tok _) ru)
theorem getmeth_ok {m : Str} {g : Addr} {pl : Sem Bool} {Q : Value × List Value → Shared → Prop} (I : Inv X pins σ H s) (e : H a = some (.ins C dx fs)) (c : Cls X.K C) (k : Meth X.K C m g) (l : fs.lookup m = none)
    (h : Q (.ref g, [.ref a]) s) : wpAny (model X.prog X.w) A (getMethod (.ref a) m pl) Q E s := by
  obtain ⟨mA, O, r, _, _, _⟩ := ins_get I.hok e
  have hn : mA m = none := RelO.none_of (by rw [← l]; exact r m)
  exact get_meth I.kIn O (c.get m) k.at_ k.fn hn h
theorem setattr_ok {y : V} {u : Value} {Q : Unit → Shared → Prop} (I : Inv X pins σ H s) (e : H a = some (.ins C dx fs)) (c : Cls X.K C) (n : NoAttr X.K C f) (hl : fs.length < 1000) (ry : RelV y u)
    (h : ∀ s', Inv X pins σ (upd H a (.ins C dx (putF f y fs))) s' → Q () s') : wpAny (model X.prog X.w) A (setAttr (.ref a) f u) Q E s := by
  obtain ⟨mA, O, r, wi, _, ho⟩ := ins_get I.hok e
  have hz : (fs.map (·.1)).length ≤ sizeLine := by rw [List.length_map, sizeLine_eq]; omega
  refine set_map I.kIn O c.sa c.po n.taker c.hd wi hz fun h' O' sb => h _ ?_
  have hd : ∃ o, h'.get? dx = some o := let ⟨o, _, _, e', _⟩ := O'.ns; ⟨o, e'⟩
  refine I.write (x := a) (e := dx) (by rw [e]; exact True.intro) (.inr ho) (fun b q hb z => (sb.2 b hb).trans z) hd ?_
  refine ⟨by rw [upd_ne O.ne]; exact ho, ?_, O.ne, O'.obj, _, O'.ns, fun g => ?_, fun g hg => ?_⟩
  · have := length_putF f y fs; omega
  · show RelO ((putF f y fs).lookup g) (if g = f then some u else mA g)
    rw [lookup_putF]
    by_cases q : g = f
    · rw [if_pos q, if_pos q]; exact ry
    · rw [if_neg q, if_neg q]; exact r g
  · by_cases q : g = f
    · rw [q]; exact (keys_putF f y fs).1
    · refine (keys_putF f y fs).2 g (wi g fun z => hg ?_)
      show (if g = f then some u else mA g) = none
      rw [if_neg q]; exact z
theorem Inv.made (I : Inv X pins σ H s) : Inv X pins σ (upd (upd H s.heap.objs.size (.own (s.heap.objs.size + 1))) (s.heap.objs.size + 1) (.ins C s.heap.objs.size []))
    { s with heap := (s.heap.push PySem.W.emptyDict).push (PySem.W.instObj C s.heap.objs.size) } := by
  have e1 : (s.heap.push PySem.W.emptyDict).get? s.heap.objs.size = some PySem.W.emptyDict := Heap.get?_push_size s.heap rfl
  have e2 : ((s.heap.push PySem.W.emptyDict).push (PySem.W.instObj C s.heap.objs.size)).get? (s.heap.objs.size + 1) = some (PySem.W.instObj C s.heap.objs.size) := by
    have := Heap.get?_push_size (s.heap.push PySem.W.emptyDict) (o := PySem.W.instObj C s.heap.objs.size) rfl
    rwa [Heap.size_push] at this
  have e3 : (s.heap.push PySem.W.emptyDict).Ns s.heap.objs.size (fun _ => none) := ⟨PySem.W.emptyDict, #[], _, e1, rfl, (fun e he => absurd he (by simp)), fun _ => rfl⟩
  have I1 := I.laid (a := s.heap.objs.size) (o := .own (s.heap.objs.size + 1)) (h' := s.heap.push PySem.W.emptyDict) (t' := s.toks) (fun b u q => Heap.get?_push_of_some _ q) (Nat.le_refl _) ⟨_, e1⟩
  refine I1.laid (a := s.heap.objs.size + 1) (o := .ins C s.heap.objs.size []) (t' := s.toks) (fun b u q => Heap.get?_push_of_some _ q) (Nat.le_of_eq (Heap.size_push _ _)) ?_
  have ne : s.heap.objs.size ≠ s.heap.objs.size + 1 := Nat.ne_of_lt (Nat.lt_succ_self _)
  refine ⟨by rw [upd_ne ne, upd_same], Nat.zero_le _, ne, e2, fun _ => none, (Heap.Ns1.of_empty e3).at fun o q => Heap.get?_push_of_some _ q, fun _ => True.intro, fun y hy => absurd rfl hy⟩
theorem attr_of {prog : Program} {w : World} {env : Env} {e : Expr} {f : Str} {pos : Pos} {s : Shared} {Q : Value → Shared → Prop} (hb : attributeBase e f env (eval e env) = eval e env)
    (h : wpAny (model prog w) A (eval e env) (fun o s₁ => wpAny (model prog w) A (getAttr o f true) Q E s₁) E s) : wpAny (model prog w) A (eval (.Attribute e f pos) env) Q E s :=
  Attribute_any_ h (by rw [arm_eval_Attribute, hb])
end
def tFld (K : PySem.W.Frag) (ta : TE) (f : Str) : TE := fun σ H Q => ta σ H fun x H1 => ∃ a C dx fs v, x = .ref a ∧ H1 a = some (.ins C dx fs) ∧ Cls K C ∧ NoAttr K C f ∧ fs.lookup f = some v ∧ Q v H1
def sFld (K : PySem.W.Frag) (ta tv : TE) (f : Str) : TS := fun D σ H => tv σ H fun y H1 => ta σ H1 fun x H2 => ∃ a C dx fs, x = .ref a ∧ H2 a = some (.ins C dx fs) ∧ Cls K C ∧ NoAttr K C f ∧ fs.length < 1000 ∧
  D.nx σ (upd H2 a (.ins C dx (putF f y fs)))
section
variable {X : Cx} {o e value : Expr} {f : Str} {pos pos' tpos : Pos} {ta tv : TE}
theorem pe_fld (he : PE X e ta) (hb : attributeBase e f X.env (eval e X.env) = eval e X.env) : PE X (.Attribute e f pos) (tFld X.K ta f) := by
  intro pins s σ H Q I h
  refine attr_of hb (thn (he pins s σ H _ I h) fun u s1 ⟨x, H1, I1, rx, a, C, dx, fs, v, ex, ea, c, n, l, q⟩ => ?_)
  subst ex
  obtain rfl : u = Value.ref a := rx
  exact getattr_ok I1 ea c n l fun u' s2 I2 ru => ⟨v, H1, I2, ru, q⟩
theorem ps_fld (ha : PE X o ta) (hv : PE X value tv) (hs : swapsWith value (some (.Attribute o f pos')) pos.line X.env = pure false) : PS X (.Assign [.Attribute o f pos'] value pos) (sFld X.K ta tv f) := by
  intro pins s σ H D I h
  refine plainObj_wpAny_Assign_Attribute (thn (hv pins s σ H _ I h) fun u s1 ⟨y, H1, I1, ry, q⟩ => thn (ha pins s1 σ H1 _ I1 q) fun ov s2 ⟨x, H2, I2, rx, a, C, dx, fs, ex, ea, c, n, l, q2⟩ => ?_) hs
  subst ex
  obtain rfl : ov = Value.ref a := rx
  exact setattr_ok I2 ea c n l ry fun s3 I3 => ⟨σ, _, I3, q2⟩
end
section
variable {X : Cx} {pins : List (Addr × Obj)} {σ : St} {H : Hp} {s : Shared} {A : Around} {E : Value → Shared → Prop} {Q : Value → Shared → Prop} {c : Value} {b : Bool}
inductive TyOf (K : PySem.W.Frag) (H : Hp) : V → Value → Prop where
  | non : TyOf K H .non (.type "NoneType")
  | bl (x : Bool) : TyOf K H (.bl x) (.type "bool")
  | int (i : Int) : TyOf K H (.int i) (.type "int")
  | str (x : Str) : TyOf K H (.str x) (.type "str")
  | flt (x : UInt64) : TyOf K H (.flt x) (.type "float")
  | lst {a : Addr} {xs : List V} (e : H a = some (.lst xs)) : TyOf K H (.ref a) (.type "list")
  | frz {a : Addr} {o : Obj} {xs : List V} (e : H a = some (.frz o (.lst xs))) : TyOf K H (.ref a) (.type "list")
  | tup {a : Addr} {xs : List V} (e : H a = some (.tup xs)) : TyOf K H (.ref a) (.type "tuple")
  | dK {a : Addr} {kvs : List (Key × V)} (e : H a = some (.dK kvs)) : TyOf K H (.ref a) (.type "dict")
  | dT {a : Addr} {kvs : List (List Key × V)} (e : H a = some (.dT kvs)) : TyOf K H (.ref a) (.type "dict")
  | ins {a C dx : Addr} {fs : List (Str × V)} (e : H a = some (.ins C dx fs)) (cl : Cls K C) (ha : PySem.W.findIn K (.ref C) "__class__" = some (some (.builtin "object.__class__")))
      (hn : PySem.W.specialIn K (.builtin "object.__class__") "__get__" = some (some (.builtin "getset_descriptor.__get__"))) (htk : PySem.W.takesIn K (.builtin "object.__class__") = some true)
      (hm : PySem.W.mroIn K C (.type "object") = some true) : TyOf K H (.ref a) (.ref C)
theorem isinst_ok {x : V} {u t : Value} (I : Inv X pins σ H s) (rx : RelV x u) (ty : TyOf X.K H x t) (e : PySem.W.kitOne X.K t c = some b) (h : ∀ tk, Q (.bool b) { s with toks := tk }) :
    wpAny (model X.prog X.w) A (call (.builtin "isinstance") [u, c]) Q E s := by
  cases ty with
  | non => cases (show u = Value.none from rx); exact PySem.W.kia_one PySem.W.kitx_none I.kIn True.intro e (fun z => nomatch z) h
  | bl y => cases (show u = Value.bool y from rx); exact PySem.W.kia_one PySem.W.kitx_bool I.kIn True.intro e (fun z => nomatch z) h
  | int i => obtain ⟨t, q⟩ := (show ∃ t, u = Value.int i t from rx); cases q; exact PySem.W.kia_one PySem.W.kitx_int I.kIn True.intro e (fun z => nomatch z) h
  | str y => obtain ⟨t, q⟩ := (show ∃ t, u = Value.str y t from rx); cases q; exact PySem.W.kia_one PySem.W.kitx_str I.kIn True.intro e (fun z => nomatch z) h
  | flt y => obtain ⟨t, q⟩ := (show ∃ t, u = Value.float y t from rx); cases q; exact PySem.W.kia_one PySem.W.kitx_float I.kIn True.intro e (fun z => nomatch z) h
  | @lst a xs ea =>
    cases (show u = Value.ref a from rx)
    obtain ⟨_, _, n, _, h1⟩ := (show ObjOk X.prog X.w H s.heap a (.lst xs) from I.hok a _ ea)
    exact PySem.W.kia_one PySem.W.kitx_list I.kIn ⟨_, h1, rfl⟩ e (fun z => nomatch z) h
  | @frz a ob xs ea =>
    cases (show u = Value.ref a from rx)
    obtain ⟨_, _, _, n, _, h1⟩ := (show ObjOk X.prog X.w H s.heap a (.frz ob (.lst xs)) from I.hok a _ ea)
    exact PySem.W.kia_one PySem.W.kitx_list I.kIn ⟨_, h1, rfl⟩ e (fun z => nomatch z) h
  | @tup a xs ea =>
    cases (show u = Value.ref a from rx)
    obtain ⟨_, _, _, p⟩ := (show ObjOk X.prog X.w H s.heap a (.tup xs) from I.hok a _ ea)
    obtain ⟨o, h1, h2, _⟩ := p
    exact PySem.W.kia_one PySem.W.kitx_tuple I.kIn ⟨o, h1, h2⟩ e (fun z => nomatch z) h
  | @dK a kvs ea =>
    cases (show u = Value.ref a from rx)
    obtain ⟨_, _, vs, _, p⟩ := (show ObjOk X.prog X.w H s.heap a (.dK kvs) from I.hok a _ ea)
    obtain ⟨o, es, ep, h1, h2, _⟩ := p
    exact PySem.W.kia_one PySem.W.kitx_dict I.kIn ⟨o, h1, h2.1⟩ e (fun z => nomatch z) h
  | @dT a kvs ea =>
    cases (show u = Value.ref a from rx)
    obtain ⟨_, _, xs, _, o, es, ep, h1, h2, _⟩ := (show ObjOk X.prog X.w H s.heap a (.dT kvs) from I.hok a _ ea)
    exact PySem.W.kia_one PySem.W.kitx_dict I.kIn ⟨o, h1, h2.1⟩ e (fun z => nomatch z) h
  | @ins a C dx fs ea cl ha hn htk hm =>
    cases (show u = Value.ref a from rx)
    obtain ⟨mA, O, _⟩ := ins_get I.hok ea
    obtain ⟨od, J, _⟩ := O.look
    exact PySem.W.kia_one (PySem.W.kitx_own (cl.get _) cl.hd ha hn htk hm) I.kIn J e (fun z => nomatch z) h
end
end L2
namespace L2
open PySem PySem.Spec PyProof.Rows
structure Room (k : Nat) (A : Around) : Prop where
  hd : A.handled = none
  dp : A.depth + 3 * k + 5 < recursionLimit
  un : A.units + 16 * k + 200 < cLine
theorem Room.mono {j k : Nat} {A : Around} (r : Room k A) (h : j ≤ k) : Room j A := ⟨r.hd, by have := r.dp; omega, by have := r.un; omega⟩
theorem Room.deeper {k : Nat} {A : Around} (r : Room (k + 1) A) (env : Env) : Room k (A.deeper env) :=
  ⟨r.hd, by have := r.dp; show A.depth + 1 + 3 * k + 5 < _; omega, by have := r.un; show A.units + 3 + 16 * k + 200 < _; omega⟩
theorem make_depth {A : Around} {C : Addr} {us : List Value} {kw : List (Str × Value)} : (A.under (.builtin "type.__call__" ⟨.ref C :: us, kw⟩)).depth = A.depth + 1 := by
  first | rfl | simp [Around.under, Code.weight, Code.isCreation, Code.isGuard, Code.isCaller, Code.frames, Code.isFrame, guardIds]
theorem make_units {A : Around} {C : Addr} {us : List Value} {kw : List (Str × Value)} : (A.under (.builtin "type.__call__" ⟨.ref C :: us, kw⟩)).units = A.units + 1 := by
  first | rfl | simp [Around.under, Code.cUnits, Code.frames, Code.isFrame]
theorem Room.make {k : Nat} {A : Around} (r : Room (k + 1) A) (C : Addr) (us : List Value) (kw : List (Str × Value)) : Room k (A.under (.builtin "type.__call__" ⟨.ref C :: us, kw⟩)) :=
  ⟨r.hd, by have := r.dp; rw [make_depth]; omega, by have := r.un; rw [make_units]; omega⟩
theorem Room.depth {k : Nat} {A : Around} (r : Room k A) : A.depth < recursionLimit := by have := r.dp; omega
theorem Room.units {k : Nat} {A : Around} (r : Room k A) : A.units + 64 < cLine := by have := r.un; omega
def tNil : TA := fun _ H Q => Q [] H
def tCons (ta : TE) (tr : TA) : TA := fun σ H Q => ta σ H fun x H1 => tr σ H1 fun xs H2 => Q (x :: xs) H2
section
variable {X : Cx} {e : Expr} {es : List Expr} {te : TE} {t : TA} {pos : Pos}
theorem pa_nil : PA X [] tNil := fun _ _ _ _ H Q I h => Calls.spliced_nil ⟨[], H, I, .nil, h⟩
theorem pa_cons (ha : PE X e te) (hr : PA X es t) (hs : starEach (e :: es) X.env = (false, eval e X.env) :: starEach es X.env := by rfl) : PA X (e :: es) (tCons te t) := by
  intro pos pins s σ H Q I h
  rw [hs]
  show wpAny _ _ (spliced ((false, eval e X.env) :: backTo pos (starEach es X.env))) _ _ s
  refine Calls.spliced_cons (thn (ha pins s σ H _ I h) fun u s1 ⟨x, H1, I1, r1, q1⟩ => ?_)
  exact thn (hr pos pins s1 σ H1 _ I1 q1) fun us s2 ⟨xs, H2, I2, r2, q2⟩ => ⟨x :: xs, H2, I2, .cons r1 r2, q2⟩
def tTup (t : TA) : TE := fun σ H Q => t σ H fun xs H1 => xs.length ≤ sizeLine ∧ ∀ p, H1 p = none → Q (.ref p) (upd H1 p (.tup xs))
def tLst (t : TA) : TE := fun σ H Q => t σ H fun xs H1 => xs.length ≤ sizeLine ∧ ∀ p, H1 p = none → Q (.ref p) (upd H1 p (.lst xs))
theorem pe_tup {x1} (h : PA X es t) : PE X (.Tuple es x1 pos) (tTup t) := by
  intro pins s σ H Q I hq
  refine wpAny_Tuple_spliced (thn (h pos pins s σ H _ I hq) fun us s1 ⟨xs, H1, I1, r, z, q⟩ => ⟨by rw [← r.length]; exact z, ?_⟩)
  have hf : H1 s1.heap.objs.size = none := I1.hok.fresh (Nat.le_refl _)
  refine ⟨.ref s1.heap.objs.size, upd H1 s1.heap.objs.size (.tup xs), I1.laid (t' := s1.toks) (fun b u e => Heap.get?_push_of_some _ e) (Nat.le_refl _) ?_, rfl, q _ hf⟩
  exact ⟨z, us, r, ⟨_, Heap.get?_push_size _ rfl, rfl, _, rfl⟩⟩
theorem pe_lst (h : PA X es t) : PE X (.List es pos) (tLst t) := by
  intro pins s σ H Q I hq
  refine wpAny_List_spliced (thn (h pos pins s σ H _ I hq) fun us s1 ⟨xs, H1, I1, r, z, q⟩ => ⟨by rw [← r.length]; exact z, ?_⟩)
  have hf : H1 s1.heap.objs.size = none := I1.hok.fresh (Nat.le_refl _)
  refine ⟨.ref s1.heap.objs.size, upd H1 s1.heap.objs.size (.lst xs), I1.laid (t' := s1.toks) (fun b u e => Heap.get?_push_of_some _ e) (Nat.le_refl _) ?_, rfl, q _ hf⟩
  exact ⟨z, us, 0, r, Heap.get?_push_size _ rfl⟩
end
abbrev Sp := List V → Hp → VK → XK → Prop
abbrev CXT := List Env → Hp → Shared → XK → Value → Shared → Prop
structure Env0 (P : Program) (w : World) (K : PySem.W.Frag) (mg : Str → Option Value) (base : Heap) (A : Around) (outer : List Env) (s : Shared) (H : Hp) : Prop where
  frames : A.frames = some outer
  mod : Mod K mg base
  bs : ∀ b o, base.get? b = some o → s.heap.get? b = some o ∧ H b = none
  bsz : base.objs.size ≤ s.heap.objs.size
  funs : s.heap.FunFrames base outer
  frf : ∀ b ∈ frs outer, H b = none
  hok : HOk P w H s.heap
  bare : AllBare s.gens
def CE (outer : List Env) (P : Program) (w : World) (H : Hp) (s : Shared) (Q : VK) (u : Value) (s' : Shared) : Prop :=
  ∃ v H', s'.os = s.os ∧ AllBare s'.gens ∧ Un (frs outer) [] H H' s.heap s'.heap ∧ HOk P w H' s'.heap ∧ RelV v u ∧ Q v H'
def CR (CX : CXT) (outer : List Env) (P : Program) (w : World) (H : Hp) (s : Shared) (Q : VK) (E : XK) (r : Result) (s' : Shared) : Prop :=
  match r with
  | .ok (.ret u) => CE outer P w H s Q u s'
  | .ok _ => False
  | .error e => CX outer H s E e s'
structure FnOk (P : Program) (w : World) (K : PySem.W.Frag) (mg : Str → Option Value) (base : Heap) (CX : CXT) (k : Nat) (f : Addr) (fd : FuncData) (ps : List Str) (sp : Sp) : Prop where
  len : ∀ vs H Q E, sp vs H Q E → vs.length = ps.length
  run : ∀ (A : Around) (outer : List Env) (s : Shared) (H : Hp) (args : Args) (us : List Value) (vs : List V) (Q : VK) (E : XK), Room k A → Env0 P w K mg base A outer s H → BindsTo s fd args (ps.zip us) → Vals vs us → sp vs H Q E →
    codeAny (model P w) A (.call (.ref f) args) (CR CX outer P w H s Q E) s
theorem FnOk.mono {P : Program} {w : World} {K : PySem.W.Frag} {mg : Str → Option Value} {base : Heap} {CX : CXT} {j k : Nat} {f : Addr} {fd : FuncData} {ps : List Str} {sp : Sp} (F : FnOk P w K mg base CX j f fd ps sp) (h : j ≤ k) :
    FnOk P w K mg base CX k f fd ps sp := ⟨F.len, fun A outer s H args us vs Q E hr => F.run A outer s H args us vs Q E (hr.mono h)⟩
theorem FnOk.imp {P : Program} {w : World} {K : PySem.W.Frag} {mg : Str → Option Value} {base : Heap} {CX : CXT} {k : Nat} {f : Addr} {fd : FuncData} {ps : List Str} {sp sp' : Sp} (F : FnOk P w K mg base CX k f fd ps sp)
    (h : ∀ vs H Q E, sp' vs H Q E → sp vs H Q E) : FnOk P w K mg base CX k f fd ps sp' :=
  ⟨fun vs H Q E q => F.len vs H Q E (h _ _ _ _ q), fun A outer s H args us vs Q E hr he hb hv hs => F.run A outer s H args us vs Q E hr he hb hv (h _ _ _ _ hs)⟩
theorem Env0.make {P : Program} {w : World} {K : PySem.W.Frag} {mg : Str → Option Value} {base : Heap} {A : Around} {outer : List Env} {s : Shared} {H : Hp} (e : Env0 P w K mg base A outer s H) (C : Addr) (us : List Value) (kw : List (Str × Value)) :
    Env0 P w K mg base (A.under (.builtin "type.__call__" ⟨.ref C :: us, kw⟩)) outer s H := ⟨by first | exact e.frames | (simpa [Around.under, Code.envs, Code.isFrame, pushEnvs] using e.frames), e.mod, e.bs, e.bsz, e.funs, e.frf, e.hok, e.bare⟩
section
variable {X : Cx} {pins : List (Addr × Obj)} {σ : St} {H : Hp} {s s' : Shared}
theorem Inv.env0 (I : Inv X pins σ H s) : Env0 X.prog X.w X.K X.mg X.base X.A X.stack s H :=
  ⟨I.ok.frames, I.ok.mod, I.bs, Nat.le_trans I.ok.bsz I.sz, I.stack, I.stkFree, I.hok, I.bare⟩
theorem Inv.after {Q : VK} {u : Value} (I : Inv X pins σ H s) (h : CE X.stack X.prog X.w H s Q u s') : EP X pins σ Q u s' := by
  obtain ⟨v, H', os, bare, un, hok, r, q⟩ := h
  obtain ⟨hh, g, d, t, os'⟩ := s'
  obtain rfl : os' = s.os := os
  exact ⟨v, H', I.call (h' := hh) (g' := g) (d' := d) (t' := t) (ch := []) un hok bare (fun b z => absurd z (by simp)), r, q⟩
end
def tCall (sp : Sp) (dvs : List V) (E : XK) (t : TA) : TE := fun σ H Q => t σ H fun vs H1 => sp (vs ++ dvs) H1 Q E
def tMake (C : Addr) (sp : Sp) (dvs : List V) (E : XK) (t : TA) : TE := fun σ H Q => t σ H fun vs H1 => ∀ x dx, H1 x = none → H1 dx = none → dx ≠ x →
  sp (.ref x :: (vs ++ dvs)) (upd (upd H1 dx (.own x)) x (.ins C dx [])) (fun v H2 => v = .non ∧ Q (.ref x) H2) E
def Binds (K : PySem.W.Frag) (fd : FuncData) (ps : List Str) (ds : List Value) : Prop :=
  ∀ (s : Shared) (us : List Value), K.In s.heap → (us ++ ds).length = ps.length → BindsTo s fd ⟨us, []⟩ (ps.zip (us ++ ds))
theorem Binds.all {K : PySem.W.Frag} {fd : FuncData} {ps : List Str} (h : ∀ us : List Value, us.length = ps.length → bindArgs fd ⟨us, []⟩ = pure (ps.zip us)) : Binds K fd ps [] := fun s us _ hl => by
  rw [List.append_nil] at hl ⊢
  exact .of_eq (h us hl)
def Passes (CX : CXT) (X : Cx) (E : XK) : Prop := ∀ (pins : List (Addr × Obj)) (σ : St) (H : Hp) (s : Shared) (e : Value) (s' : Shared), Inv X pins σ H s → CX X.stack H s E e s' → X.xe e s'
section
variable {X : Cx} {CX : CXT} {k : Nat} {f C : Addr} {fd : FuncData} {ps : List Str} {sp : Sp} {dvs : List V} {ds : List Value} {E : XK} {x m : Str} {p pos apos : Pos} {e o : Expr} {es : List Expr} {ta : TE} {t : TA}
theorem run_fn {pins : List (Addr × Obj)} {σ : St} {H : Hp} {s : Shared} {Q : VK} {us : List Value} {vs : List V} (F : FnOk X.prog X.w X.K X.mg X.base CX k f fd ps sp) (hr : Room k X.A) (hb : Binds X.K fd ps ds) (hd : Vals dvs ds) (hx : Passes CX X E)
    (I : Inv X pins σ H s) (r : Vals vs us) (h : sp (vs ++ dvs) H Q E) : wpAny (model X.prog X.w) X.A (call (.ref f) us) (EP X pins σ Q) X.xe s := by
  have r2 : Vals (vs ++ dvs) (us ++ ds) := r.append hd
  have hl : (us ++ ds).length = ps.length := by rw [← r2.length]; exact F.len _ _ _ _ h
  refine wpAny_call (codeAny_mono (F.run X.A X.stack s H ⟨us, []⟩ (us ++ ds) (vs ++ dvs) Q E hr I.env0 (hb s us I.kIn hl) r2 h) fun r s' hq => ?_)
  cases r with
  | error e => exact hx pins σ H s e s' I hq
  | ok fl =>
    cases fl with
    | ret u => exact I.after hq
    | next => exact False.elim hq
    | brk => exact False.elim hq
    | cont => exact False.elim hq
theorem pe_call (F : FnOk X.prog X.w X.K X.mg X.base CX k f fd ps sp) (hr : Room k X.A) (hg : Gl X x) (hm : X.mg x = some (.ref f)) (hk : PySem.W.keepIn X.K (.ref f) = true) (hb : Binds X.K fd ps ds) (hd : Vals dvs ds) (hx : Passes CX X E)
    (ha : PA X (e :: es) t) (hdb : (x == ("__debug__" : Str)) = false := by decide) (he : starEach (e :: es) X.env = (false, eval e X.env) :: starEach es X.env := by rfl) (hpl : (backTo pos (starEach es X.env)).any (·.1) = false := by rfl) :
    PE X (.Call (.Name x p) (e :: es) [] pos) (tCall sp dvs E t) := by
  intro pins s σ H Q I h
  refine wpAny_Call_Name_kw (ld_glob I hg hm ?_ hdb)
  refine PySem.W.callWith_K (h₀ := X.base) I.ok.mod.kin hk (thn (ha pos pins s σ H _ I h) fun us s1 ⟨vs, H1, I1, r, q⟩ => ⟨I1.kIn, ?_⟩) he hpl
  exact run_fn F hr hb hd hx I1 r q
structure Mk (K : PySem.W.Frag) (C f : Addr) : Prop where
  makes : PySem.W.makesIn K C = true
  init : PySem.W.findIn K (.ref C) "__init__" = some (some (.ref f))
  fn : PySem.W.isFn K (.ref f) = true
  kp : PySem.W.keepIn K (.ref C) = true
theorem run_make {pins : List (Addr × Obj)} {σ : St} {H : Hp} {s : Shared} {Q : VK} {us : List Value} {vs : List V} (M : Mk X.K C f) (F : FnOk X.prog X.w X.K X.mg X.base CX k f fd ps sp) (hr : Room (k + 1) X.A) (hb : Binds X.K fd ps ds) (hd : Vals dvs ds)
    (hx : Passes CX X E) (I : Inv X pins σ H s) (r : Vals vs us)
    (h : ∀ x dx, H x = none → H dx = none → dx ≠ x → sp (.ref x :: (vs ++ dvs)) (upd (upd H dx (.own x)) x (.ins C dx [])) (fun v H2 => v = .non ∧ Q (.ref x) H2) E) :
    wpAny (model X.prog X.w) X.A (call (.ref C) us) (EP X pins σ Q) X.xe s := by
  have hq := h (s.heap.objs.size + 1) s.heap.objs.size (I.hok.fresh (Nat.le_succ _)) (I.hok.fresh (Nat.le_refl _)) (Nat.ne_of_lt (Nat.lt_succ_self _))
  have I2 := Inv.made (C := C) I
  have r2 : Vals (V.ref (s.heap.objs.size + 1) :: (vs ++ dvs)) (Value.ref (s.heap.objs.size + 1) :: (us ++ ds)) := .cons rfl (r.append hd)
  have hl : (Value.ref (s.heap.objs.size + 1) :: us ++ ds).length = ps.length := by
    have e := r2.length
    rw [F.len _ _ _ _ hq] at e
    exact e.symm
  refine wpAny_call (make_map (f := f) I.kIn M.makes M.init (beq_iff_eq.mp M.fn) (codeAny_mono (F.run _ X.stack _ _ ⟨Value.ref (s.heap.objs.size + 1) :: us, []⟩ (Value.ref (s.heap.objs.size + 1) :: (us ++ ds)) _ _ E (hr.make C us [])
    (I2.env0.make C us []) (hb _ (Value.ref (s.heap.objs.size + 1) :: us) I2.kIn hl) r2 hq) fun r s' hq' => ?_))
  cases r with
  | error e => exact hx pins σ _ _ e s' I2 hq'
  | ok fl =>
    cases fl with
    | ret u =>
      obtain ⟨v, H', I3, rv, ev, q3⟩ := I2.after hq'
      subst ev
      exact ⟨rv, ⟨V.ref (s.heap.objs.size + 1), H', I3, rfl, q3⟩⟩
    | next => exact False.elim hq'
    | brk => exact False.elim hq'
    | cont => exact False.elim hq'
theorem pe_make (M : Mk X.K C f) (F : FnOk X.prog X.w X.K X.mg X.base CX k f fd ps sp) (hr : Room (k + 1) X.A) (hg : Gl X x) (hm : X.mg x = some (.ref C)) (hb : Binds X.K fd ps ds) (hd : Vals dvs ds) (hx : Passes CX X E)
    (ha : PA X (e :: es) t) (hdb : (x == ("__debug__" : Str)) = false := by decide) (he : starEach (e :: es) X.env = (false, eval e X.env) :: starEach es X.env := by rfl) (hpl : (backTo pos (starEach es X.env)).any (·.1) = false := by rfl) :
    PE X (.Call (.Name x p) (e :: es) [] pos) (tMake C sp dvs E t) := by
  intro pins s σ H Q I h
  refine wpAny_Call_Name_kw (ld_glob I hg hm ?_ hdb)
  refine PySem.W.callWith_K (h₀ := X.base) I.ok.mod.kin M.kp (thn (ha pos pins s σ H _ I h) fun us s1 ⟨vs, H1, I1, r, q⟩ => ⟨I1.kIn, ?_⟩) he hpl
  exact run_make M F hr hb hd hx I1 r q
end
section
variable {X : Cx} {CX : CXT} {k : Nat} {f C : Addr} {fd : FuncData} {ps ks : List Str} {sp : Sp} {E : XK} {x m : Str} {p pos apos kpos : Pos} {e o : Expr} {es : List Expr} {kws : List Keyword} {te ta : TE} {t tk : TA} {nm : Option Str}
variable {g : List Value → List Value → List Value} {gV : List V → List V → List V}
end
structure FnScope (N P : List Str) (sc : Scope) : Prop where
  kind : sc.kind = .function
  co : sc.isCoroutine = false
  gen : sc.isGenerator = false
  nd : N.Nodup
  pre : N.take P.length = P
  par : ∀ x ∈ P, sc.names.lookup x = some .local ∨ sc.names.lookup x = some .cell
  nofree : ∀ y ∈ sc.names, y.2 ≠ .free
theorem bindL_out {kindOf : Str → Option NameKind} {x : Str} : ∀ {binds : List (Str × Value)} {m : Str → Option Value}, (∀ v, (x, v) ∉ binds) → bindL kindOf binds m x = m x
  | [], _, _ => rfl
  | (n, v) :: r, m, h => by
    unfold bindL
    rw [bindL_out fun w hw => h w (List.mem_cons_of_mem _ hw)]
    split
    · have : x ≠ n := by rintro rfl; exact h v List.mem_cons_self
      simp [this]
    · rfl
theorem bindC_out {kindOf : Str → Option NameKind} {x : Str} : ∀ {binds : List (Str × Value)} {m : Str → Option Value}, (∀ v, (x, v) ∉ binds) → bindC kindOf binds m x = m x
  | [], _, _ => rfl
  | (n, v) :: r, m, h => by
    unfold bindC
    rw [bindC_out fun w hw => h w (List.mem_cons_of_mem _ hw)]
    split
    · rfl
    · have : x ≠ n := by rintro rfl; exact h v List.mem_cons_self
      simp [this]
theorem bindL_get {kindOf : Str → Option NameKind} {x : Str} {v : Value} : ∀ {P : List Str} {vs : List Value} {i : Nat} {m : Str → Option Value}, P.Nodup → P[i]? = some x → vs[i]? = some v → kindOf x = some .local →
    bindL kindOf (P.zip vs) m x = some v
  | [], _, _, _, _, h, _, _ => by simp at h
  | _ :: _, [], _, _, _, _, h, _ => by simp at h
  | p :: P, w :: vs, 0, m, nd, h1, h2, hk => by
    simp at h1 h2; subst h1; subst h2
    show bindL kindOf ((p, w) :: P.zip vs) m p = _
    unfold bindL
    rw [bindL_out fun v hv => (List.nodup_cons.mp nd).1 (List.of_mem_zip hv).1, if_pos hk]
    simp
  | p :: P, w :: vs, i + 1, m, nd, h1, h2, hk => by
    show bindL kindOf ((p, w) :: P.zip vs) m x = _
    unfold bindL
    exact bindL_get (i := i) (List.nodup_cons.mp nd).2 (by simpa using h1) (by simpa using h2) hk
theorem bindC_get {kindOf : Str → Option NameKind} {x : Str} {v : Value} : ∀ {P : List Str} {vs : List Value} {i : Nat} {m : Str → Option Value}, P.Nodup → P[i]? = some x → vs[i]? = some v → kindOf x ≠ some .local →
    bindC kindOf (P.zip vs) m x = some v
  | [], _, _, _, _, h, _, _ => by simp at h
  | _ :: _, [], _, _, _, _, h, _ => by simp at h
  | p :: P, w :: vs, 0, m, nd, h1, h2, hk => by
    simp at h1 h2; subst h1; subst h2
    show bindC kindOf ((p, w) :: P.zip vs) m p = _
    unfold bindC
    rw [bindC_out fun v hv => (List.nodup_cons.mp nd).1 (List.of_mem_zip hv).1, if_neg hk]
    simp
  | p :: P, w :: vs, i + 1, m, nd, h1, h2, hk => by
    show bindC kindOf ((p, w) :: P.zip vs) m x = _
    unfold bindC
    exact bindC_get (i := i) (List.nodup_cons.mp nd).2 (by simpa using h1) (by simpa using h2) hk
def start (N : List Str) (vs : List V) : St := vs.map some ++ List.replicate (N.length - vs.length) none
def cxOf (CX : CXT) (P : Program) (w : World) (K : PySem.W.Frag) (mg : Str → Option Value) (base : Heap) (N : List Str) (qual : Str) (scope : Scope) (f : Addr) (cd : Value) (A : Around) (outer : List Env) (s : Shared) (H : Hp) (E : XK) : Cx where
  prog := P
  w := w
  K := K
  mg := mg
  base := base
  A := A.deeper (envOfC qual scope s.heap.objs.size f cd)
  N := N
  s₀ := s
  H₀ := H
  env := envOfC qual scope s.heap.objs.size f cd
  outer := outer
  stack := envOfC qual scope s.heap.objs.size f cd :: outer
  ex := []
  calm := true
  fn := fun _ => true
  pn := []
  xe := fun e s' => wpAny (model P w) (A.deeper (envOfC qual scope s.heap.objs.size f cd)) (leaving (envOfC qual scope s.heap.objs.size f cd) e) (fun _ s'' => CX outer H s E e s'') (fun e' s'' => CX outer H s E e' s'') s'
theorem cell_has {sc : Scope} {n : Nat} {x : Str} (h : sc.names.lookup x = some .cell) : ∃ c, (cellsFrom n sc.names []).lookup x = some c := by
  have q := PySem.W.cellsFrom_some sc.names n [] (.inl h)
  exact Option.isSome_iff_exists.mp q
theorem inv_start {CX : CXT} {P : Program} {w : World} {K : PySem.W.Frag} {mg : Str → Option Value} {base : Heap} {N ps : List Str} {qual : Str} {scope : Scope} {f : Addr} {cd : Value} {A : Around} {outer : List Env} {s s1 : Shared} {H : Hp} {E : XK} {us : List Value} {vs : List V}
    (S : FnScope N ps scope) (hd : A.handled = none) (e0 : Env0 P w K mg base A outer s H) (hl : vs.length = ps.length) (r : Vals vs us)
    (x : InCallC s s.heap.objs.size (bindL (envOfC qual scope s.heap.objs.size f cd).kindOf (ps.zip us) fun _ => none) (cellsFrom (s.heap.objs.size + 1) scope.names []) (bindC (envOfC qual scope s.heap.objs.size f cd).kindOf (ps.zip us) fun _ => none) s1) :
    Inv (cxOf CX P w K mg base N qual scope f cd A outer s H E) [] (start N vs) H s1 := by
  have hpl : ps.length ≤ N.length := by have := congrArg List.length S.pre; rw [List.length_take] at this; omega
  obtain ⟨h1, tk, rfl, hk⟩ := x.done
  have noA : ∀ b : Addr, b ∉ (cxOf CX P w K mg base N qual scope f cd A outer s H E).ex := fun b z => absurd (show b ∈ ([] : List Addr) from z) (by simp)
  refine ⟨⟨e0.mod, S.kind, rfl, rfl, Nat.le_refl _, fun y z c h1 h2 => ?_, fun y hy => ?_, fun y c _ h => ?_, fun _ => hd, Around.frames_deeper e0.frames, .inr ⟨rfl, rfl⟩, fun b z => absurd z (noA b), e0.bs, e0.bsz, fun b _ _ => noA b, fun b z => absurd z (noA b), e0.funs, e0.frf⟩,
    rfl, e0.bare, Un.kept hk, ⟨_, x.toInCall.ns, fun i y v h1 h2 h3 => ?_⟩, fun y c h => ⟨_, x.cell y c h⟩, e0.hok.fresh (Nat.le_refl _), fun y c h => ?_, fun p hp => absurd (show p ∈ ([] : List (Addr × Obj)) from hp) (by simp), e0.hok.kept hk, ?_⟩
  · exact name_of_addr x.apart (PySem.mem_of_lookup h1) (PySem.mem_of_lookup h2)
  · have hy : scope.names.lookup y = some .cell ∨ scope.names.lookup y = some .free := hy
    rcases hy with hy | hy
    · exact cell_has hy
    · exact absurd rfl (S.nofree _ (PySem.mem_of_lookup hy))
  · exact Nat.le_of_lt (x.above y c (PySem.mem_of_lookup h))
  · have hi : i < vs.length := by
      unfold start at h2
      by_cases hi : i < vs.length
      · exact hi
      · rw [List.getElem?_append_right (by simpa using hi)] at h2
        rw [List.getElem?_replicate] at h2
        split at h2 <;> cases h2
    have ha : vs[i]? = some v := by
      unfold start at h2
      rw [List.getElem?_append_left (by simpa using hi), List.getElem?_map] at h2
      cases e : vs[i]? with
      | none => rw [e] at h2; cases h2
      | some a => rw [e] at h2; cases h2; rfl
    obtain ⟨u, hu, rv⟩ := r.get ha
    have hp : ps[i]? = some y := by
      rw [← S.pre, List.getElem?_take_of_lt (by omega)]; exact h1
    have ndP : ps.Nodup := by rw [← S.pre]; exact S.nd.sublist (List.take_sublist _ _)
    refine ⟨u, rv, ?_⟩
    rcases S.par y (List.mem_of_getElem? hp) with k | k
    · exact .inl ⟨k, bindL_get ndP hp hu k⟩
    · obtain ⟨c, e⟩ := cell_has (n := s.heap.objs.size + 1) k
      refine .inr ⟨.inl k, c, e, ?_⟩
      have q := x.cell y c e
      rw [bindC_get ndP hp hu (by show scope.names.lookup y ≠ _; rw [k]; decide)] at q
      exact q
  · exact e0.hok.fresh (Nat.le_of_lt (x.above y c (PySem.mem_of_lookup h)))
  · unfold start
    show _ = N.length
    rw [List.length_append, List.length_map, List.length_replicate]
    omega
theorem fn_of {CX : CXT} {P : Program} {w : World} {K : PySem.W.Frag} {mg : Str → Option Value} {base : Heap} {k : Nat} {f : Addr} {name qual : Str} {params : Arguments} {body : List Stmt} {scope : Scope} {dV kV doc pm cdv ct oc : Value} {an od : Option Addr}
    {osl : Array (Option Value)} {N ps : List Str} {sp : Sp} (lk : K.lookup f = some ⟨oc, od, .func (PySem.W.fnOf name qual params body scope dV kV doc pm an cdv ct), osl⟩) (hcd : PySem.W.codeIn K cdv qual = true) (S : FnScope N ps scope)
    (len : ∀ vs H Q E, sp vs H Q E → vs.length = ps.length)
    (hbody : ∀ (A : Around) (outer : List Env) (s : Shared) (H : Hp) (vs : List V) (Q : VK) (E : XK), Room k (A.deeper (envOfC qual scope s.heap.objs.size f cdv)) → sp vs H Q E →
      ∃ t, PSs (cxOf CX P w K mg base N qual scope f cdv A outer s H E) body t ∧ t { nx := fun _ H' => Q .non H', rt := Q } (start N vs) H) :
    FnOk P w K mg base CX (k + 1) f (PySem.W.fnOf name qual params body scope dV kV doc pm an cdv ct) ps sp := by
  refine ⟨len, fun A outer s H args us vs Q E hr e0 hb r hsp => ?_⟩
  have hl := len _ _ _ _ hsp
  have KX : K.In s.heap := e0.mod.kin.keeps fun b o e => (e0.bs b o e).1
  have lim : s.heap.NoLimit := e0.mod.nolimit.keeps fun b o e => (e0.bs b o e).1
  have hkind : ∀ y ∈ ps.zip us, scope.names.lookup y.1 = some .local ∨ (scope.names.lookup y.1 = some .cell ∧ ((cellsFrom (s.heap.objs.size + 1) scope.names []).lookup y.1).isSome = true) := fun ⟨n, v⟩ hy => by
    rcases S.par n (List.of_mem_zip hy).1 with q | q
    · exact .inl q
    · exact .inr ⟨q, PySem.W.cellsFrom_some _ _ _ (.inl q)⟩
  refine codeAny_call_function hr.depth (KX _ _ lk) rfl S.co S.gen rfl (PySem.W.codeRec_of KX hcd) (hb _ _ _ _ ?_)
  refine wpAny_newFunctionEnv_cells S.kind hkind fun env he s1 x => ?_
  subst he
  refine ⟨lim.keeps x.toInCall.keep, codeAny_func ?_⟩
  obtain ⟨t, ht, hq⟩ := hbody A outer s H vs Q E (hr.deeper _) hsp
  have I : Inv (cxOf CX P w K mg base N qual scope f cdv A outer s H E) [] (start N vs) H s1 := inv_start S hr.hd e0 hl r x
  refine wpAny_mono (ht [] s1 (start N vs) H _ I hq) (fun fl s' hs => ?_) fun e s' hs => hs
  have fin : ∀ {σ' : St} {H' : Hp} {v : V} {u : Value}, Inv (cxOf CX P w K mg base N qual scope f cdv A outer s H E) [] σ' H' s' → RelV v u → Q v H' → CE outer P w H s Q u s' :=
    fun {σ' H' v u} J rv q => ⟨v, H', J.os, J.bare, J.base, J.hok, rv, q⟩
  cases fl with
  | ret u =>
    obtain ⟨v, σ', H', J, rv, q⟩ := hs
    exact fin J rv q
  | next =>
    obtain ⟨σ', H', J, q⟩ := hs
    exact fin (v := V.non) (u := Value.none) J rfl q
  | brk =>
    obtain ⟨_, _, _, q⟩ := hs
    exact False.elim q
  | cont =>
    obtain ⟨_, _, _, q⟩ := hs
    exact False.elim q
end L2
namespace L2
open PySem PySem.Spec PyProof.Rows
section
variable {X : Cx} {x : Str} {p pos : Pos} {e : Expr} {es : List Expr} {t : TA} {id T : String} {r : List V → Hp → VK → Prop}
def tCB (r : List V → Hp → VK → Prop) (t : TA) : TE := fun σ H Q => t σ H fun vs H1 => r vs H1 Q
theorem pe_callB (hc : CallR X (.builtin id) r) (hg : Gl X x) (hm : X.mg x = none) (hv : bootBuiltins x = some (.builtin id)) (ha : PA X (e :: es) t) (hn : x ≠ "__name__" := by decide) (hdb : (x == ("__debug__" : Str)) = false := by decide)
    (he : starEach (e :: es) X.env = (false, eval e X.env) :: starEach es X.env := by rfl) (hpl : (backTo pos (starEach es X.env)).any (·.1) = false := by rfl) : PE X (.Call (.Name x p) (e :: es) [] pos) (tCB r t) := by
  intro pins s σ H Q I h
  refine wpAny_Call_Name_kw (ld_blt I hg hm hv ?_ hn hdb)
  exact PyProof.Rows.callWith_builtin1 (thn (ha pos pins s σ H _ I h) fun us s1 ⟨vs, H1, I1, r1, q1⟩ => hc pins s1 σ H1 vs us Q I1 r1 q1) he hpl
theorem pe_callTy (hc : CallR X (.type T) r) (hg : Gl X x) (hm : X.mg x = none) (hv : bootBuiltins x = some (.type T)) (ha : PA X (e :: es) t) (hn : x ≠ "__name__" := by decide) (hdb : (x == ("__debug__" : Str)) = false := by decide)
    (he : starEach (e :: es) X.env = (false, eval e X.env) :: starEach es X.env := by rfl) (hpl : (backTo pos (starEach es X.env)).any (·.1) = false := by rfl) : PE X (.Call (.Name x p) (e :: es) [] pos) (tCB r t) := by
  intro pins s σ H Q I h
  refine wpAny_Call_Name_kw (ld_blt I hg hm hv ?_ hn hdb)
  exact PyProof.Rows.callWith_type1 (thn (ha pos pins s σ H _ I h) fun us s1 ⟨vs, H1, I1, r1, q1⟩ => hc pins s1 σ H1 vs us Q I1 r1 q1) he hpl
end
end L2
namespace HT
open PySem PyProof.Rows
section
open PySem.SeqAt
open PySem.AutoSeq1 (wpAny_loadPart')
open PySem.MeetsSeq PySem.MeetsSeq2 PySem.MeetsSeq3
end
section
variable {prog : Program} {w : World} {A : Around} {E : Value → Shared → Prop} {s : Shared}
theorem cat_tup {t b : Addr} {vs ws : List Value} {Q : Value → Shared → Prop} (ht : IsTup s.heap t vs.toArray) (hb : IsTup s.heap b ws.toArray) (hv : vs ≠ [])
    (h1 : ws = [] → Q (.ref t) s) (h2 : ws ≠ [] → Q (.ref s.heap.objs.size) { s with heap := s.heap.push { cls := .type "tuple", data := .seq (vs ++ ws).toArray } })
    (hsz : vs.length + ws.length ≤ sizeLine) : wpAny (model prog w) A (binaryOp .Add (.ref t) (.ref b)) Q E s := by
  obtain ⟨⟨cls, dd, data, sl⟩, ho, hc, n, hd⟩ := id ht
  obtain ⟨⟨cls2, dd2, data2, sl2⟩, ho2, hc2, n2, hd2⟩ := id hb
  simp only at hc hd hc2 hd2
  subst hc hd hc2 hd2
  have e : vs.toArray ++ ws.toArray = (vs ++ ws).toArray := by simp
  by_cases hw : ws = []
  · exact concat_meets ⟨_, ho, rfl⟩ ⟨_, ho2, rfl⟩ noFill_tuple_add seq_tuple_add PySem.F.slot_tuple_add PySem.F.entry_tuple_add (PySem.F.args_tuple_add_2 _ _)
      (tuple_addW1 t b vs.toArray ws.toArray n n2 dd dd2 sl sl2 (by simpa using hv) (by simp [hw])) ⟨ho, ho2, h1 hw⟩
  · refine concat_meets ⟨_, ho, rfl⟩ ⟨_, ho2, rfl⟩ noFill_tuple_add seq_tuple_add PySem.F.slot_tuple_add PySem.F.entry_tuple_add (PySem.F.args_tuple_add_2 _ _)
      (tuple_addW2 t b vs.toArray ws.toArray n n2 dd dd2 sl sl2 (by simpa using hv) (by simpa using hw) (by rw [List.size_toArray, List.size_toArray]; exact hsz)) ⟨ho, ho2, ?_⟩
    rw [e]
    exact h2 hw
def sIx (n d : Nat) : Option Int → Nat
  | none => d
  | some v => if v < 0 then (v + (n : Int)).toNat else min v.toNat n
theorem sIx_none (n d : Nat) : sIx n d none = d := rfl
theorem sIx_nat (n d k : Nat) : sIx n d (some (k : Int)) = min k n := by
  show (if (k : Int) < 0 then ((k : Int) + (n : Int)).toNat else min (k : Int).toNat n) = min k n
  rw [if_neg (by omega), Int.toNat_natCast]
theorem sIx_le (n d : Nat) (hd : d ≤ n) (o : Option Int) : sIx n d o ≤ n := by
  cases o with
  | none => exact hd
  | some v =>
    show (if v < 0 then (v + (n : Int)).toNat else min v.toNat n) ≤ n
    by_cases hv : v < 0
    · rw [if_pos hv]; omega
    · rw [if_neg hv]; exact Nat.min_le_right _ _
theorem clip_eq (v : Int) (n d : Nat) : (if v < 0 then max (v + (n : Int)) 0 else min v (n : Int)) = ((sIx n d (some v) : Nat) : Int) := by
  show (if v < 0 then max (v + (n : Int)) 0 else min v (n : Int)) = (((if v < 0 then (v + (n : Int)).toNat else min v.toNat n) : Nat) : Int)
  by_cases hv : v < 0
  · simp only [if_pos hv]; omega
  · simp only [if_neg hv]; omega
theorem adjust_gen (lo hi : Option Int) (n : Nat) : Builtin.Slice.sliceAdjust lo hi 1 (n : Int) = (((sIx n 0 lo : Nat) : Int), ((sIx n n hi : Nat) : Int)) := by
  have h1 : ¬ ((1 : Int) < 0) := by omega
  unfold Builtin.Slice.sliceAdjust
  simp only [h1, if_false]
  refine Prod.ext ?_ ?_
  · cases lo with
    | none => rfl
    | some v => exact clip_eq v n 0
  · cases hi with
    | none => rfl
    | some v => exact clip_eq v n n
theorem places_gen (i j : Nat) : Builtin.Slice.slicePlaces (i : Int) (j : Int) 1 = j - i := by
  unfold Builtin.Slice.slicePlaces
  have h1 : (1 : Int) > 0 := by omega
  simp only [h1, if_true, Int.ediv_one]
  split <;> omega
theorem slicePart_ {v : Value} {o : Option Int} {Q : Option Int → Shared → Prop} (p : IsPart v o) (h : Q o s) : wpAny (model prog w) A (Builtin.Slice.slicePartIndex v) Q E s := by
  cases p with
  | none => exact slicePart_none h
  | int i t => exact slicePart_int h
theorem sliceApplied_gen {sl : Addr} {vl vu : Value} {lo hi : Option Int} {n : Nat} {Q : Int × Int × Nat → Shared → Prop} (hs : s.heap.IsSliceOf sl vl vu .none) (pl : IsPart vl lo) (pu : IsPart vu hi)
    (h : Q (((sIx n 0 lo : Nat) : Int), 1, sIx n n hi - sIx n 0 lo) s) : wpAny (model prog w) A (Builtin.Slice.sliceApplied (.ref sl) (pure (n : Int))) Q E s := by
  obtain ⟨os, hos, hcs, hds⟩ := id hs
  unfold Builtin.Slice.sliceApplied Builtin.Slice.sliceFields
  refine wpAny_bind (wpAny_bind (wpAny_field hos hds (x := vl) rfl (wpAny_bind (wpAny_field hos hds (x := vu) rfl (wpAny_bind (wpAny_field hos hds (x := .none) rfl (wpAny_pure ?_)))))))
  refine wpAny_bind (slicePart_none ?_)
  show wpAny _ _ (if ((1 : Int) == 0) = true then _ else _) _ _ s
  rw [if_neg (by decide)]
  refine wpAny_bind (slicePart_ pl (wpAny_bind (slicePart_ pu (wpAny_bind (wpAny_pure ?_)))))
  show wpAny _ _ (match Builtin.Slice.sliceAdjust lo hi 1 (n : Int) with | (lo, hi) => pure (lo, (1 : Int), Builtin.Slice.slicePlaces lo hi 1)) _ _ s
  rw [adjust_gen lo hi n]
  show wpAny _ _ (pure (((sIx n 0 lo : Nat) : Int), (1 : Int), Builtin.Slice.slicePlaces ((sIx n 0 lo : Nat) : Int) ((sIx n n hi : Nat) : Int) 1)) _ _ s
  rw [places_gen]
  exact wpAny_pure h
theorem pick_gen (xs : Array Value) (i k : Nat) : ((List.range k).filterMap fun (m : Nat) => xs[((i : Int) + (m : Int) * 1).toNat]?).toArray = ((xs.toList.drop i).take k).toArray := by
  have e : (fun (m : Nat) => xs[((i : Int) + (m : Int) * 1).toNat]?) = fun m => xs[i + m]? := by
    funext m
    have : ((i : Int) + (m : Int) * 1).toNat = i + m := by omega
    rw [this]
  rw [e]
  have := pick_run xs i k
  rw [List.filterMap_map] at this
  have e2 : ((fun x => xs[x]?) ∘ fun x => i + x) = fun m => xs[i + m]? := rfl
  rw [e2] at this
  rw [this]
theorem getItem_tuple_cut {t sl : Addr} {items : Array Value} {vl vu : Value} {lo hi : Option Int} {Q : Value → Shared → Prop} (ht : IsTup s.heap t items) (hs : s.heap.IsSliceOf sl vl vu .none) (pl : IsPart vl lo) (pu : IsPart vu hi)
    (hw : ¬ (sIx items.size 0 lo = 0 ∧ sIx items.size items.size hi = items.size))
    (h : Q (.ref s.heap.objs.size) { s with heap := s.heap.push { cls := .type "tuple", data := .seq ((items.toList.drop (sIx items.size 0 lo)).take (sIx items.size items.size hi - sIx items.size 0 lo)).toArray } })
    (hsz : items.size ≤ sizeLine) : wpAny (model prog w) A (getItem (.ref t) (.ref sl)) Q E s := by
  have htake : sizeOk (.seq ((items.toList.drop (sIx items.size 0 lo)).take (sIx items.size items.size hi - sIx items.size 0 lo)).toArray) := by
    show ((items.toList.drop (sIx items.size 0 lo)).take (sIx items.size items.size hi - sIx items.size 0 lo)).toArray.size ≤ sizeLine
    rw [List.size_toArray, List.length_take, List.length_drop, Array.length_toList]
    omega
  have hj : sIx items.size items.size hi ≤ items.size := sIx_le _ _ (Nat.le_refl _) hi
  obtain ⟨os, hos, hcs, hds⟩ := id hs
  have hTs : s.TypeIs (.ref sl) "slice" := ⟨os, hos, hcs⟩
  unfold getItem
  try with_reducible refine wpAny_holding ?_
  first | refine wpAny_bind (wpAny_pure ?_) | skip
  refine wpAny_bind (wpAny_sequenceKey ht.typeIs (by decide) ?_)
  refine wpAny_bind (wpAny_callSpecial?_slot (name := Str.ofString "__getitem__") ht.typeIs PyProof.Rows.slot_tuple_getitem
    (wpAny_call_entry PyProof.Rows.slot_tuple_getitem ht.typeIs entry_tuple_getitem ?_ (args_tuple_getitem _ _)))
  show wpAny _ _ (Builtin.Tuple.tupleItemsOf (.ref t) >>= _) _ _ s
  refine wpAny_bind (tupleItemsOf_ ht ?_)
  refine wpAny_bind (wpAny_typeOf hTs ?_)
  rw [if_pos (by decide)]
  refine wpAny_bind (sliceApplied_gen hs pl pu ?_)
  have hno : ¬ ((((sIx items.size 0 lo : Nat) : Int) == 0 && (1 : Int) == 1 && (sIx items.size items.size hi - sIx items.size 0 lo) == items.size) = true) := by
    intro q
    rw [Bool.and_eq_true, Bool.and_eq_true] at q
    have q1 : ((sIx items.size 0 lo : Nat) : Int) = 0 := eq_of_beq q.1.1
    have q2 : sIx items.size items.size hi - sIx items.size 0 lo = items.size := eq_of_beq q.2
    exact hw ⟨by omega, by omega⟩
  show wpAny _ _ (if (((sIx items.size 0 lo : Nat) : Int) == 0 && (1 : Int) == 1 && (sIx items.size items.size hi - sIx items.size 0 lo) == items.size) = true then _ else _) _ _ s
  rw [if_neg hno, pick_gen]
  first
    | exact wpAny_bind (m := Builtin.Tuple.tupleExact _) (wpAny_newObj_type (wpAny_pure ⟨_, rfl, wpAny_pure h⟩) htake)
    | exact wpAny_bind (m := Builtin.Tuple.tupleExact _) (wpAny_newObj_type (wpAny_bind (wpAny_pure (wpAny_pure ⟨_, rfl, wpAny_pure h⟩))) htake)
    | exact wpAny_bind (wpAny_bind (m := Builtin.Tuple.tupleExact _) (wpAny_newObj_type (wpAny_pure (wpAny_pure ⟨_, rfl, wpAny_pure h⟩)) htake))
    | exact wpAny_bind (wpAny_bind (m := Builtin.Tuple.tupleExact _) (wpAny_newObj_type (wpAny_pure ⟨_, rfl, wpAny_pure h⟩) htake))
end
end HT
namespace L2
open PySem PySem.Spec PyProof.Rows
abbrev TO := St → Hp → (Option Int → Hp → Prop) → Prop
def PO (X : Cx) (e : Option Expr) (t : TO) : Prop :=
  ∀ (pins : List (Addr × Obj)) (s : Shared) (σ : St) (H : Hp) (Q : Option Int → Hp → Prop), Inv X pins σ H s → t σ H Q →
    wpAny (model X.prog X.w) X.A (evalPart e X.env) (fun u s' => ∃ o H', Inv X pins σ H' s' ∧ IsPart u o ∧ Q o H') X.xe s
def tNoPart : TO := fun _ H Q => Q none H
def tPart (t : TE) : TO := fun σ H Q => t σ H fun x H1 => ∃ i, x = .int i ∧ Q (some i) H1
section
variable {X : Cx} {e : Expr} {te : TE} {lo hi : Option Expr} {tl th : TO} {pos p2 : Pos}
theorem po_none : PO X none tNoPart := by
  intro pins s σ H Q I h
  rw [evalPart_none]
  exact wpAny_pure ⟨none, H, I, .none, h⟩
theorem po_some (h : PE X e te) : PO X (some e) (tPart te) := by
  intro pins s σ H Q I hw
  rw [evalPart_some]
  refine thn (h pins s σ H _ I hw) fun u s1 ⟨x, H1, I1, r1, q1⟩ => ?_
  obtain ⟨i, rfl, q⟩ := q1
  obtain ⟨t, rfl⟩ := r1
  exact ⟨some i, H1, I1, .int i t, q⟩
def SlR (X : Cx) (r : V → Option Int → Option Int → Hp → VK → Prop) : Prop :=
  ∀ (pins : List (Addr × Obj)) (s : Shared) (σ : St) (H : Hp) (x : V) (v vl vu : Value) (lo hi : Option Int) (sl : Addr) (Q : VK), Inv X pins σ H s → RelV x v → s.heap.IsSliceOf sl vl vu .none → IsPart vl lo → IsPart vu hi → r x lo hi H Q →
    ∃ T id, typeLookup (.type T) "__getitem__" = pure (some (.builtin id)) ∧ s.TypeIs v T ∧ wpAny (model X.prog X.w) X.A (getItem v (.ref sl)) (EP X pins σ Q) X.xe s
theorem SlR.or {r r' : V → Option Int → Option Int → Hp → VK → Prop} (h : SlR X r) (h' : SlR X r') : SlR X (fun x lo hi H Q => r x lo hi H Q ∨ r' x lo hi H Q) := by
  intro pins s σ H x v vl vu lo hi sl Q I rx hs pl pu q
  rcases q with q | q
  · exact h pins s σ H x v vl vu lo hi sl Q I rx hs pl pu q
  · exact h' pins s σ H x v vl vu lo hi sl Q I rx hs pl pu q
def tSl (r : V → Option Int → Option Int → Hp → VK → Prop) (te : TE) (tl th : TO) : TE := fun σ H Q => te σ H fun x H1 => tl σ H1 fun l H2 => th σ H2 fun u H3 => r x l u H3 Q
theorem pe_slice {r : V → Option Int → Option Int → Hp → VK → Prop} (hr : SlR X r) (he : PE X e te) (hl : PO X lo tl) (hu : PO X hi th) : PE X (.Subscript e (.Slice lo hi none p2) pos) (tSl r te tl th) := by
  intro pins s σ H Q I h
  refine Subscript_ (thn (he pins s σ H _ I h) fun v s1 ⟨x, H1, I1, r1, q1⟩ => ?_)
  refine wpAny_Slice (thn (hl pins s1 σ H1 _ I1 q1) fun vl s2 ⟨l, H2, I2, pl, q2⟩ => thn (hu pins s2 σ H2 _ I2 q2) fun vu s3 ⟨u, H3, I3, pu, q3⟩ => ?_)
  rw [evalPart_none]
  refine wpAny_pure ?_
  have I4 : Inv X pins σ H3 { s3 with heap := s3.heap.push { cls := .type "slice", data := .fields #[vl, vu, .none] } } := I3.kept (t' := s3.toks) fun b ob q => Heap.get?_push_of_some _ q
  obtain ⟨T, id, hT, ht, hg⟩ := hr pins { s3 with heap := s3.heap.push { cls := .type "slice", data := .fields #[vl, vu, .none] } } σ H3 x v vl vu l u s3.heap.objs.size Q I4 r1 (Heap.IsSliceOf.new ..) pl pu q3
  show wpAny (model X.prog X.w) X.A (subscriptTail e (.Slice lo hi none p2) v (.ref s3.heap.objs.size)) (EP X pins σ Q) X.xe { s3 with heap := s3.heap.push { cls := .type "slice", data := .fields #[vl, vu, .none] } }
  exact tail_any (ops := [.ref s3.heap.objs.size, v]) ht hT hg (by with_unfolding_all rfl)
def cutV (xs : List V) (lo hi : Option Int) : List V := (xs.drop (HT.sIx xs.length 0 lo)).take (HT.sIx xs.length xs.length hi - HT.sIx xs.length 0 lo)
theorem cutV_length (xs : List V) (lo hi : Option Int) : (cutV xs lo hi).length ≤ xs.length := by
  unfold cutV
  rw [List.length_take, List.length_drop]
  omega
def rSlT (K : PySem.W.Frag) : V → Option Int → Option Int → Hp → VK → Prop := fun x lo hi H Q => ∃ a xs, x = .ref a ∧ SqT K H a xs ∧
  ¬ (HT.sIx xs.length 0 lo = 0 ∧ HT.sIx xs.length xs.length hi = xs.length) ∧ ∀ p, H p = none → Q (.ref p) (upd H p (.tup (cutV xs lo hi)))
theorem sl_tup : SlR X (rSlT X.K) := by
  intro pins s σ H x v vl vu lo hi sl Q I rx hs pl pu h
  obtain ⟨a, xs, rfl, hx, hw, q⟩ := h
  cases rx
  obtain ⟨its, r, ht, hz⟩ := I.tuple hx
  have hlen : its.toArray.size = xs.length := by rw [List.size_toArray]; exact r.length.symm
  refine ⟨"tuple", _, PyProof.Rows.slot_tuple_getitem.lookup, ht.typeIs, ?_⟩
  refine HT.getItem_tuple_cut ht hs pl pu (by rw [hlen]; exact hw) ?_ (by rw [hlen]; exact hz)
  rw [hlen]
  refine ⟨.ref s.heap.objs.size, _, I.laid (t' := s.toks) (o := .tup (cutV xs lo hi)) (fun b ob q => Heap.get?_push_of_some _ q) (Nat.le_refl _) ?_, rfl, q _ (I.hok.fresh (Nat.le_refl _))⟩
  exact ⟨Nat.le_trans (cutV_length xs lo hi) hz, _, (r.drop (HT.sIx xs.length 0 lo)).take (HT.sIx xs.length xs.length hi - HT.sIx xs.length 0 lo), IsTup.new _ _⟩
def rCatT (K : PySem.W.Frag) : R2 := fun x y H Q => ∃ a b xs ys, x = .ref a ∧ y = .ref b ∧ SqT K H a xs ∧ SqT K H b ys ∧ xs ≠ [] ∧ xs.length + ys.length ≤ sizeLine ∧
  (ys = [] → Q (.ref a) H) ∧ (ys ≠ [] → ∀ p, H p = none → Q (.ref p) (upd H p (.tup (xs ++ ys))))
theorem Vals.nil_iff {xs : List V} {us : List Value} (r : Vals xs us) : us = [] ↔ xs = [] := by
  cases r with
  | nil => simp
  | cons _ _ => simp
theorem op_catT : OpR X (binaryOp .Add) (rCatT X.K) := by
  intro pins s σ H x y v u Q I rx ry h
  obtain ⟨a, b, xs, ys, rfl, rfl, ha, hb, hx, hz, q1, q2⟩ := h
  cases rx
  cases ry
  obtain ⟨its, r1, p1, _⟩ := I.tuple ha
  obtain ⟨its2, r2, p2, _⟩ := I.tuple hb
  refine HT.cat_tup p1 p2 (fun z => hx (r1.nil_iff.mp z)) (fun z => ⟨.ref a, H, I, rfl, q1 (r2.nil_iff.mp z)⟩) (fun z => ?_) (by rw [← r1.length, ← r2.length]; exact hz)
  refine ⟨.ref s.heap.objs.size, _, I.laid (t' := s.toks) (o := .tup (xs ++ ys)) (fun b ob q => Heap.get?_push_of_some _ q) (Nat.le_refl _) ?_, rfl, q2 (fun w => z (r2.nil_iff.mpr w)) _ (I.hok.fresh (Nat.le_refl _))⟩
  exact ⟨by rw [List.length_append]; exact hz, _, r1.append r2, IsTup.new _ _⟩
end
end L2
namespace L2
open PySem PySem.Spec PyProof.Rows
def ixN (n : Nat) (i : Int) : Option Nat := if 0 ≤ i then (if i < n then some i.toNat else none) else if -(n : Int) ≤ i then some (i + n).toNat else none
def atI {α : Type} (xs : List α) (i : Int) : Option α := (ixN xs.length i).bind fun j => xs[j]?
theorem ixN_seq {n : Nat} {i : Int} {j : Nat} (h : ixN n i = some j) : seqIndex? i n = some j ∧ j < n ∧ -(n : Int) ≤ i ∧ i < n := by
  unfold ixN at h
  by_cases h0 : 0 ≤ i
  · rw [if_pos h0] at h
    by_cases h1 : i < n
    · rw [if_pos h1] at h
      have e : i.toNat = j := Option.some.inj h
      exact ⟨by rw [seqIndex_of h0 h1, e], by omega, by omega, h1⟩
    · rw [if_neg h1] at h; cases h
  · rw [if_neg h0] at h
    by_cases h1 : -(n : Int) ≤ i
    · rw [if_pos h1] at h
      have e : (i + n).toNat = j := Option.some.inj h
      exact ⟨by rw [seqIndex_neg (by omega) h1, e], by omega, h1, by omega⟩
    · rw [if_neg h1] at h; cases h
theorem atI_get {α : Type} {xs : List α} {i : Int} {v : α} (h : atI xs i = some v) : ∃ j, seqIndex? i xs.length = some j ∧ xs[j]? = some v ∧ j < xs.length ∧ -(xs.length : Int) ≤ i ∧ i < xs.length := by
  unfold atI at h
  cases e : ixN xs.length i with
  | none => rw [e] at h; cases h
  | some j =>
    rw [e] at h
    obtain ⟨h1, h2, h3, h4⟩ := ixN_seq e
    exact ⟨j, h1, h, h2, h3, h4⟩
theorem atI_nat {α : Type} {xs : List α} {j : Nat} {v : α} (h : xs[j]? = some v) : atI xs (j : Int) = some v := by
  have hj : j < xs.length := (List.getElem?_eq_some_iff.mp h).1
  have e : ixN xs.length (j : Int) = some j := by
    unfold ixN
    rw [if_pos (by omega), if_pos (by omega)]; simp
  unfold atI; rw [e]; exact h
def PlainIx (b : Expr) : Prop := ∀ o i, subscripted b false o i = operate [o, i] (getItem o i)
def IxR (X : Cx) (r : R2) : Prop :=
  ∀ (value slice : Expr) (pins : List (Addr × Obj)) (s : Shared) (σ : St) (H : Hp) (x y : V) (v u : Value) (Q : VK), Inv X pins σ H s → RelV x v → RelV y u → r x y H Q →
    subscripted slice false v u = operate [v, u] (getItem v u) → wpAny (model X.prog X.w) X.A (subscriptTail value slice v u) (EP X pins σ Q) X.xe s
def MtR (X : Cx) (id : String) (r : V → List V → Hp → VK → Prop) : Prop :=
  ∀ (pins : List (Addr × Obj)) (s : Shared) (σ : St) (H : Hp) (x : V) (xs : List V) (v : Value) (us : List Value) (Q : VK), Inv X pins σ H s → RelV x v → Vals xs us → r x xs H Q →
    wpAny (model X.prog X.w) X.A (call (.builtin id) (v :: us)) (EP X pins σ Q) X.xe s
section
variable {X : Cx} {a b : Expr} {ta tb : TE} {pos : Pos}
theorem IxR.or {r r' : R2} (h : IxR X r) (h' : IxR X r') : IxR X (fun x y H Q => r x y H Q ∨ r' x y H Q) := by
  intro value slice pins s σ H x y v u Q I rx ry q hs
  rcases q with q | q
  · exact h value slice pins s σ H x y v u Q I rx ry q hs
  · exact h' value slice pins s σ H x y v u Q I rx ry q hs
theorem MtR.or {id : String} {r r' : V → List V → Hp → VK → Prop} (h : MtR X id r) (h' : MtR X id r') : MtR X id (fun x xs H Q => r x xs H Q ∨ r' x xs H Q) := by
  intro pins s σ H x xs v us Q I rx rs q
  rcases q with q | q
  · exact h pins s σ H x xs v us Q I rx rs q
  · exact h' pins s σ H x xs v us Q I rx rs q
theorem pe_ix {r : R2} (hr : IxR X r) (ha : PE X a ta) (hb : PE X b tb) (hs : PlainIx b) : PE X (.Subscript a b pos) (tOp r ta tb) := by
  intro pins s σ H Q I h
  exact Subscript_ (binT ha hb I h fun v u s2 x y H2 I2 rx ry q => hr a b pins s2 σ H2 x y v u Q I2 rx ry q (hs _ _))
def rIxL (K : PySem.W.Frag) : R2 := fun x y H Q => ∃ p xs i v, x = .ref p ∧ y = .int i ∧ SqL K H p xs ∧ atI xs i = some v ∧ Q v H
def rIxT (K : PySem.W.Frag) : R2 := fun x y H Q => ∃ p xs i v, x = .ref p ∧ y = .int i ∧ SqT K H p xs ∧ atI xs i = some v ∧ Q v H
def rIxS : R2 := fun x y H Q => ∃ z i c, x = .str z ∧ y = .int i ∧ z.length ≤ sizeLine ∧ atI z.cps.toList i = some c ∧ Q (.str ⟨#[c]⟩) H
theorem ix_list : IxR X (rIxL X.K) := by
  intro value slice pins s σ H x y v u Q I rx ry h hs
  obtain ⟨p, xs, i, z, rfl, rfl, hq, he, q⟩ := h
  cases rx
  obtain ⟨t, rfl⟩ := ry
  obtain ⟨its, r, pl, hz⟩ := I.list hq
  obtain ⟨j, h1, h2, h3, h4, h5⟩ := atI_get he
  obtain ⟨w, ew, rw'⟩ := r.get h2
  have hl := r.length
  have hn := line63
  have fin : EP X pins σ Q w s := ⟨z, H, I, rw', q⟩
  by_cases h0 : 0 ≤ i
  · have hj : i.toNat = j := by
      rw [seqIndex_of h0 h5] at h1
      exact Option.some.inj h1
    exact item_listR pl.isList h0 (by omega) (by rw [hj]; simpa using ew) fin hs
  · have hj : (i + (its.toArray.size : Int)).toNat = j := by
      rw [seqIndex_neg (by omega) h4] at h1
      rw [List.size_toArray, ← hl]
      exact Option.some.inj h1
    exact subscriptTail_builtinR (x := w) pl.isList.typeIs slot_list_getitem.lookup
      (wpAny_getItem_list_neg (Q := fun r s' => r = w ∧ EP X pins σ Q r s') pl.isList (by omega) (by rw [List.size_toArray] <;> omega) (by omega) (by rw [hj]; simpa using ew) ⟨rfl, fin⟩) hs
theorem ix_tup : IxR X (rIxT X.K) := by
  intro value slice pins s σ H x y v u Q I rx ry h hs
  obtain ⟨p, xs, i, z, rfl, rfl, hq, he, q⟩ := h
  cases rx
  obtain ⟨t, rfl⟩ := ry
  obtain ⟨its, r, pl, hz⟩ := I.tuple hq
  obtain ⟨j, h1, h2, h3, h4, h5⟩ := atI_get he
  obtain ⟨w, ew, rw'⟩ := r.get h2
  have hl := r.length
  have hn := line63
  have fin : EP X pins σ Q w s := ⟨z, H, I, rw', q⟩
  exact subscriptTail_builtinR (x := w) pl.typeIs slot_tuple_getitem.lookup
    (getItem_tuple (j := j) (Q := fun r s' => r = w ∧ EP X pins σ Q r s') pl (by omega) (by omega) (by rw [List.size_toArray, ← hl]; exact h1) (by simpa using ew) ⟨rfl, fin⟩) hs
theorem ix_str : IxR X rIxS := by
  intro value slice pins s σ H x y v u Q I rx ry h hs
  obtain ⟨z, i, c, rfl, rfl, hz, he, q⟩ := h
  obtain ⟨t, rfl⟩ := rx
  obtain ⟨t', rfl⟩ := ry
  obtain ⟨j, h1, h2, h3, h4, h5⟩ := atI_get he
  have hl : z.cps.toList.length = z.length := by simp [Str.length]
  rw [hl] at h1 h4 h5
  have hn := line63
  exact tail_any (typeIs_str s z t) slot_str_getitem.lookup (getItem_str (c := c) (by
    have e1 : decide (i < -(2 ^ 63 : Int)) = false := decide_eq_false (by omega)
    have e2 : decide (i ≥ 2 ^ 63) = false := decide_eq_false (by omega)
    rw [e1, e2, Bool.or_false]) (by rw [h1]; simpa using h2) ⟨.str ⟨#[c]⟩, H, I.tok _, ⟨_, rfl⟩, q⟩) hs
def rIx (K : PySem.W.Frag) : R2 := fun x y H Q => rIxL K x y H Q ∨ rIxT K x y H Q ∨ rIxS x y H Q
theorem ix_seq : IxR X (rIx X.K) := ix_list.or (ix_tup.or ix_str)
theorem mapSeq_set (its : List Value) (n j : Nat) (u : Value) : Obj.mapSeq (·.setIfInBounds j u) { cls := .type "list", data := .seq its.toArray n } = { cls := .type "list", data := .seq (its.set j u).toArray n } := by
  simp [Obj.mapSeq]
theorem Inv.lst {pins : List (Addr × Obj)} {σ : St} {H : Hp} {s : Shared} {p : Addr} {xs : List V} (I : Inv X pins σ H s) (h : H p = some (.lst xs)) :
    ∃ (its : List Value) (n : Nat), Vals xs its ∧ s.heap.get? p = some { cls := .type "list", data := .seq its.toArray n } ∧ xs.length ≤ sizeLine := by
  obtain ⟨z, its, n, r, e⟩ := I.hok p _ h
  exact ⟨its, n, r, e, z⟩
theorem Inv.lstUpd {pins : List (Addr × Obj)} {σ : St} {H : Hp} {s : Shared} {p : Addr} {xs ys : List V} {its its' : List Value} {n n' : Nat} {f : Obj → Obj} (I : Inv X pins σ H s) (h : H p = some (.lst xs))
    (ho : s.heap.get? p = some { cls := .type "list", data := .seq its.toArray n }) (hf : f { cls := .type "list", data := .seq its.toArray n } = { cls := .type "list", data := .seq its'.toArray n' }) (r : Vals ys its') (hz : ys.length ≤ sizeLine) (t : Nat) :
    Inv X pins σ (upd H p (.lst ys)) { s with heap := s.heap.update p f, toks := t } := by
  have e : (s.heap.update p f).get? p = some { cls := .type "list", data := .seq its'.toArray n' } := by
    rw [Heap.get?_update_self f ho (by rw [hf] <;> rfl), hf]
  refine I.write (x := p) (e := p) (by rw [h]; trivial) (.inl rfl) (fun b u hb q => (Heap.get?_update_other _ _ (Ne.symm hb)).trans q) ⟨_, e⟩ ?_
  exact ⟨hz, its', n', r, e⟩
def rSetL : V → V → V → Hp → (Hp → Prop) → Prop := fun o i v H Q => ∃ p xs k j, o = .ref p ∧ i = .int k ∧ H p = some (.lst xs) ∧ ixN xs.length k = some j ∧ Q (upd H p (.lst (xs.set j v)))
theorem set_list : PSet X rSetL := by
  intro pins s σ H o i v ov iv u Q I ro ri rv h
  obtain ⟨p, xs, k, j, rfl, rfl, hp, hj, q⟩ := h
  cases ro
  obtain ⟨t, rfl⟩ := ri
  obtain ⟨its, n, r, ho, hz⟩ := I.lst hp
  obtain ⟨h1, h2, h3, h4⟩ := ixN_seq hj
  have hl := r.length
  have hn := line63
  have I' : Inv X pins σ (upd H p (.lst (xs.set j v))) { s with heap := s.heap.update p (Obj.mapSeq (·.setIfInBounds j u)) } :=
    I.lstUpd hp ho (mapSeq_set its n j u) (r.set rv j) (by rw [List.length_set]; exact hz) s.toks
  by_cases h0 : 0 ≤ k
  · have hk : k.toNat = j := by
      rw [seqIndex_of h0 h4] at h1
      exact Option.some.inj h1
    exact PySem.W.ki_setAt ho h0 (by omega) (by rw [List.size_toArray, ← hl]; exact h4) (by rw [hk]; exact ⟨_, I', q⟩)
  · have hk : (k + (its.toArray.size : Int)).toNat = j := by
      rw [seqIndex_neg (by omega) h3] at h1
      rw [List.size_toArray, ← hl]
      exact Option.some.inj h1
    exact PySem.W.ki_setBack ho (by omega) (by rw [List.size_toArray, ← hl]; exact h3) (by omega) (by rw [hk]; exact ⟨_, I', q⟩)
theorem slice_bounds (lo hi : Option Int) (n : Nat) : (sliceBounds lo hi none n).1 = ((HT.sIx n 0 lo : Nat) : Int) ∧ (sliceBounds lo hi none n).2.1 = ((HT.sIx n n hi : Nat) : Int) ∧ (sliceBounds lo hi none n).2.2 = 1 := by
  refine ⟨?_, ?_, rfl⟩
  · cases lo with
    | none => simp [sliceBounds, HT.sIx]
    | some i =>
      simp only [sliceBounds, HT.sIx, Option.getD_none, show (1 : Int) > 0 by decide, if_true]
      by_cases h : i < 0
      · simp only [h, if_true] <;> omega
      · simp only [h, if_false] <;> omega
  · cases hi with
    | none => simp [sliceBounds, HT.sIx]
    | some i =>
      simp only [sliceBounds, HT.sIx, Option.getD_none, show (1 : Int) > 0 by decide, if_true]
      by_cases h : i < 0
      · simp only [h, if_true] <;> omega
      · simp only [h, if_false] <;> omega
theorem slicePick_cut (its : List Value) (lo hi : Option Int) : slicePick its.toArray lo hi none = ((its.drop (HT.sIx its.length 0 lo)).take (HT.sIx its.length its.length hi - HT.sIx its.length 0 lo)).toArray := by
  obtain ⟨h1, h2, h3⟩ := slice_bounds lo hi its.toArray.size
  unfold slicePick
  rw [h1, h2, h3]
  simp only [sliceRange_one, pick_run, List.size_toArray] <;> rfl
def rSlL (K : PySem.W.Frag) : V → Option Int → Option Int → Hp → VK → Prop := fun x lo hi H Q => ∃ a xs, x = .ref a ∧ SqL K H a xs ∧ ∀ p, H p = none → Q (.ref p) (upd H p (.lst (cutV xs lo hi)))
theorem sl_list : SlR X (rSlL X.K) := by
  intro pins s σ H x v vl vu lo hi sl Q I rx hs pl pu h
  obtain ⟨a, xs, rfl, hx, q⟩ := h
  cases rx
  obtain ⟨its, r, ht, hz⟩ := I.list hx
  have hlen := r.length
  refine ⟨"list", _, slot_list_getitem.lookup, ht.isList.typeIs, ?_⟩
  refine wpAny_getItem_list_slice ht.isList hs pl pu .none (by simp) ?_ (by rw [List.size_toArray] <;> omega)
  rw [slicePick_cut, ← hlen]
  refine ⟨.ref s.heap.objs.size, _, I.laid (t' := s.toks) (o := .lst (cutV xs lo hi)) (fun b ob q => Heap.get?_push_of_some _ q) (Nat.le_refl _) ?_, rfl, q _ (I.hok.fresh (Nat.le_refl _))⟩
  exact ⟨Nat.le_trans (cutV_length xs lo hi) hz, _, 0, (r.drop (HT.sIx xs.length 0 lo)).take (HT.sIx xs.length xs.length hi - HT.sIx xs.length 0 lo), Heap.get?_push_size _ rfl⟩
def flatV : V → Bool
  | .non => true
  | .bl _ => true
  | .int _ => true
  | .str _ => true
  | _ => false
def eqV : V → V → Bool
  | .non, .non => true
  | .bl a, .bl b => a == b
  | .bl a, .int b => (if a then 1 else 0) == b
  | .int a, .bl b => a == (if b then 1 else 0)
  | .int a, .int b => a == b
  | .str a, .str b => a == b
  | _, _ => false
theorem eqAt_V {A : Around} {s : Shared} {y x : V} {u v : Value} (ry : RelV y u) (rx : RelV x v) (fy : flatV y = true) (fx : flatV x = true) : SeqAt.EqAt A s u v (eqV y x) := by
  cases y with
  | non =>
    cases ry
    cases x with
    | non => cases rx; exact SeqAt.EqAt.same _
    | bl b => cases rx; exact SeqAt.EqAt.none_bool b
    | int b => obtain ⟨t, rfl⟩ := rx; exact SeqAt.EqAt.none_int b t
    | str b => obtain ⟨t, rfl⟩ := rx; exact SeqAt.EqAt.none_str b t
    | _ => exact absurd (show false = true from fx) Bool.false_ne_true
  | bl a =>
    cases ry
    cases x with
    | non => cases rx; exact SeqAt.EqAt.bool_none a
    | bl b => cases rx; exact SeqAt.EqAt.bool_bool a b
    | int b => obtain ⟨t, rfl⟩ := rx; exact SeqAt.EqAt.bool_int a b t
    | str b => obtain ⟨t, rfl⟩ := rx; exact SeqAt.EqAt.bool_str a b t
    | _ => exact absurd (show false = true from fx) Bool.false_ne_true
  | int a =>
    obtain ⟨t', rfl⟩ := ry
    cases x with
    | non => cases rx; exact SeqAt.EqAt.int_none a t'
    | bl b => cases rx; exact SeqAt.EqAt.int_bool a t' b
    | int b => obtain ⟨t, rfl⟩ := rx; exact SeqAt.EqAt.int_int a t' b t
    | str b => obtain ⟨t, rfl⟩ := rx; exact SeqAt.EqAt.int_str a t' b t
    | _ => exact absurd (show false = true from fx) Bool.false_ne_true
  | str a =>
    obtain ⟨t', rfl⟩ := ry
    cases x with
    | non => cases rx; exact SeqAt.EqAt.str_none a t'
    | bl b => cases rx; exact SeqAt.EqAt.str_bool a t' b
    | int b => obtain ⟨t, rfl⟩ := rx; exact SeqAt.EqAt.str_int a t' b t
    | str b => obtain ⟨t, rfl⟩ := rx; exact SeqAt.EqAt.str_str a t' b t
    | _ => exact absurd (show false = true from fx) Bool.false_ne_true
  | _ => exact absurd (show false = true from fy) Bool.false_ne_true
def eqU (x : V) (u : Value) : Bool := match u with
  | .none => eqV .non x
  | .bool b => eqV (.bl b) x
  | .int i _ => eqV (.int i) x
  | .str z _ => eqV (.str z) x
  | _ => false
theorem eqU_of {x y : V} {u : Value} (r : RelV y u) (f : flatV y = true) : eqU x u = eqV y x := by
  cases y with
  | non => cases r; rfl
  | bl b => cases r; rfl
  | int i => obtain ⟨t, rfl⟩ := r; rfl
  | str z => obtain ⟨t, rfl⟩ := r; rfl
  | _ => exact absurd (show false = true from f) Bool.false_ne_true
theorem any_eqU {x : V} : ∀ {xs : List V} {us : List Value}, Vals xs us → xs.all flatV = true → us.any (eqU x) = xs.any fun y => eqV y x
  | _, _, .nil, _ => rfl
  | y :: xs, u :: us, .cons r t, f => by
    rw [List.all_cons, Bool.and_eq_true] at f
    rw [List.any_cons, List.any_cons, eqU_of r f.1, any_eqU t f.2]
theorem mem_eqAt {A : Around} {s : Shared} {x : V} {v : Value} (rx : RelV x v) (fx : flatV x = true) : ∀ {xs : List V} {us : List Value}, Vals xs us → xs.all flatV = true → ∀ u ∈ us, SeqAt.EqAt A s u v (eqU x u)
  | _, _, .nil, _ => fun u hu => by cases hu
  | y :: xs, u :: us, .cons r t, f => fun u' hu => by
    rw [List.all_cons, Bool.and_eq_true] at f
    rcases List.mem_cons.mp hu with rfl | hu
    · rw [eqU_of r f.1]; exact eqAt_V r rx f.1 fx
    · exact mem_eqAt rx fx t f.2 u' hu
def inV (x : V) (xs : List V) : Bool := xs.any fun y => eqV y x
def rIn (K : PySem.W.Frag) (neg : Bool) : R2 := fun x y H Q => ∃ p xs, y = .ref p ∧ (SqL K H p xs ∨ SqT K H p xs) ∧ flatV x = true ∧ xs.all flatV = true ∧ Q (.bl (if neg then !inV x xs else inV x xs)) H
theorem op_in_seq : OpR X (compareOp .In) (rIn X.K false) := by
  intro pins s σ H x y v u Q I rx ry h
  obtain ⟨p, xs, rfl, hq, fx, fs, q⟩ := h
  cases ry
  rcases hq with hq | hq
  · obtain ⟨its, r, pl, hz⟩ := I.list hq
    refine SeqAt.in_listAt (eqU x) pl.isList (fun w hw => mem_eqAt rx fx r fs w (by simpa using hw)) ⟨.bl _, H, I, rfl, ?_⟩
    rw [show its.toArray.any (eqU x) = its.any (eqU x) by simp, any_eqU r fs]
    exact q
  · obtain ⟨its, r, pl, hz⟩ := I.tuple hq
    refine SeqAt.in_tupleAt (eqU x) pl (fun w hw => mem_eqAt rx fx r fs w (by simpa using hw)) ⟨.bl _, H, I, rfl, ?_⟩
    rw [show its.toArray.any (eqU x) = its.any (eqU x) by simp, any_eqU r fs]
    exact q
theorem op_notIn_seq : OpR X (compareOp .NotIn) (rIn X.K true) := by
  intro pins s σ H x y v u Q I rx ry h
  obtain ⟨p, xs, rfl, hq, fx, fs, q⟩ := h
  cases ry
  rcases hq with hq | hq
  · obtain ⟨its, r, pl, hz⟩ := I.list hq
    refine SeqAt.notIn_listAt (eqU x) pl.isList (fun w hw => mem_eqAt rx fx r fs w (by simpa using hw)) ⟨.bl _, H, I, rfl, ?_⟩
    rw [show its.toArray.any (eqU x) = its.any (eqU x) by simp, any_eqU r fs]
    exact q
  · obtain ⟨its, r, pl, hz⟩ := I.tuple hq
    refine SeqAt.notIn_tupleAt (eqU x) pl (fun w hw => mem_eqAt rx fx r fs w (by simpa using hw)) ⟨.bl _, H, I, rfl, ?_⟩
    rw [show its.toArray.any (eqU x) = its.any (eqU x) by simp, any_eqU r fs]
    exact q
theorem call_len_seq : CallR X (.builtin "len") (fun xs H Q => ∃ p ys, xs = [.ref p] ∧ (SqL X.K H p ys ∨ SqT X.K H p ys) ∧ Q (.int ys.length) H) := by
  intro pins s σ H xs us Q I r h
  obtain ⟨p, ys, rfl, hq, q⟩ := h
  obtain ⟨u, rfl, rx⟩ := vals1 r
  cases rx
  have hn := line63
  rcases hq with hq | hq
  · obtain ⟨its, r', pl, hz⟩ := I.list hq
    have hlen := r'.length
    exact Calls.call_len_list pl.isList (by simp only [List.size_toArray] <;> omega) ⟨.int ys.length, H, I.tok _, ⟨s.toks + 1, by rw [List.size_toArray, hlen]⟩, q⟩
  · obtain ⟨its, r', pl, hz⟩ := I.tuple hq
    have hlen := r'.length
    exact len_tuple pl (by simp only [List.size_toArray] <;> omega) ⟨.int ys.length, H, I.tok _, ⟨s.toks + 1, by rw [List.size_toArray, hlen]⟩, q⟩
theorem call_len_str : CallR X (.builtin "len") (fun xs H Q => ∃ z, xs = [.str z] ∧ z.length ≤ sizeLine ∧ Q (.int z.length) H) := by
  intro pins s σ H xs us Q I r h
  obtain ⟨z, rfl, hz, q⟩ := h
  obtain ⟨u, rfl, t, rfl⟩ := vals1 r
  have hn := line63
  exact len_str (by omega) ⟨.int z.length, H, I.tok _, ⟨_, rfl⟩, q⟩
theorem CallR.or {f : Value} {r r' : List V → Hp → VK → Prop} (h : CallR X f r) (h' : CallR X f r') : CallR X f (fun xs H Q => r xs H Q ∨ r' xs H Q) := by
  intro pins s σ H xs us Q I rs q
  rcases q with q | q
  · exact h pins s σ H xs us Q I rs q
  · exact h' pins s σ H xs us Q I rs q
theorem call_list_of : CallR X (.type "list") (fun xs H Q => ∃ p ys, xs = [.ref p] ∧ (SqL X.K H p ys ∨ SqT X.K H p ys) ∧ ∀ l, H l = none → Q (.ref l) (upd H l (.lst ys))) := by
  intro pins s σ H xs us Q I r h
  obtain ⟨p, ys, rfl, hq, q⟩ := h
  obtain ⟨u, rfl, rx⟩ := vals1 r
  cases rx
  have fin : ∀ (its : List Value), Vals ys its → ys.length ≤ sizeLine → ∀ (h' : Heap) (c' : Nat), (∀ b o', s.heap.get? b = some o' → h'.get? b = some o') →
      h'.get? s.heap.objs.size = some { cls := .type "list", dict := none, data := .seq its.toArray c', slots := #[] } → EP X pins σ Q (.ref s.heap.objs.size) { s with heap := h' } := fun its r' hz h' c' kp e =>
    ⟨.ref s.heap.objs.size, _, I.laid (t' := s.toks) kp (Nat.le_refl _) (show ObjOk X.prog X.w _ h' _ (.lst ys) from ⟨hz, its, c', r', e⟩), rfl, q _ (I.hok.fresh (Nat.le_refl _))⟩
  rcases hq with hq | hq
  · obtain ⟨its, r', pl, hz⟩ := I.list hq
    have hlen := r'.length
    obtain ⟨o, ho, hc, n, hd⟩ := pl.isList
    exact call_list_seq p (.inl rfl) ho hc hd (fun h' c' kp e => fin its r' hz h' c' kp e) (by simp only [List.size_toArray] <;> omega)
  · obtain ⟨its, r', pl, hz⟩ := I.tuple hq
    have hlen := r'.length
    obtain ⟨o, ho, hc, n, hd⟩ := pl
    exact call_list_seq p (.inr rfl) ho hc hd (fun h' c' kp e => fin its r' hz h' c' kp e) (by simp only [List.size_toArray] <;> omega)
theorem call_tuple_of : CallR X (.type "tuple") (fun xs H Q => ∃ p ys, xs = [.ref p] ∧ ((SqL X.K H p ys ∧ ∀ l, H l = none → Q (.ref l) (upd H l (.tup ys))) ∨ (SqT X.K H p ys ∧ Q (.ref p) H))) := by
  intro pins s σ H xs us Q I r h
  obtain ⟨p, ys, rfl, h⟩ := h
  obtain ⟨u, rfl, rx⟩ := vals1 r
  cases rx
  rcases h with ⟨hq, q⟩ | ⟨hq, q⟩
  · obtain ⟨its, r', pl, hz⟩ := I.list hq
    have hlen := r'.length
    refine call_tuple_list pl.isList (fun h' kp => ?_) (by simp only [List.size_toArray] <;> omega)
    have I1 : Inv X pins σ H { s with heap := h' } := I.kept (t' := s.toks) kp
    have I2 : Inv X pins σ (upd H h'.objs.size (.tup ys)) { s with heap := h'.push { cls := .type "tuple", data := .seq its.toArray } } :=
      I1.laid (t' := s.toks) (fun b o e => Heap.get?_push_of_some _ e) (Nat.le_refl _) (show ObjOk X.prog X.w _ _ _ (.tup ys) from ⟨hz, its, r', IsTup.new _ _⟩)
    exact ⟨.ref h'.objs.size, _, I2, rfl, q _ (I1.hok.fresh (Nat.le_refl _))⟩
  · obtain ⟨its, r', pl, hz⟩ := I.tuple hq
    exact call_tuple_same pl ⟨.ref p, H, I, rfl, q⟩
def tyV (K : PySem.W.Frag) (T : String) (x : V) (H : Hp) : Prop := match x with
  | .str _ => T = "str"
  | .int _ => T = "int"
  | .ref p => (T = "list" ∧ ∃ xs, SqL K H p xs) ∨ (T = "tuple" ∧ ∃ o, K.lookup p = some o ∧ o.cls = .type "tuple" ∧ o.dict = none) ∨
      (T = "dict" ∧ ((∃ kvs, H p = some (.dK kvs)) ∨ ∃ kvs, H p = some (.dT kvs))) ∨ (T = "set" ∧ ∃ S n, H p = some (.set S n))
  | _ => False
theorem tyV_is {pins : List (Addr × Obj)} {σ : St} {H : Hp} {s : Shared} {T : String} {x : V} {v : Value} (I : Inv X pins σ H s) (r : RelV x v) (ty : tyV X.K T x H) :
    s.TypeIs v T ∧ ∀ a, v = .ref a → ∃ ob, s.heap.get? a = some ob ∧ ob.dict = none := by
  cases x with
  | str z =>
    obtain ⟨t, rfl⟩ := r
    cases (show T = "str" from ty)
    exact ⟨typeIs_str s z t, fun _ e => nomatch e⟩
  | int i =>
    obtain ⟨t, rfl⟩ := r
    cases (show T = "int" from ty)
    exact ⟨typeIs_int s i t, fun _ e => nomatch e⟩
  | ref p =>
    cases r
    rcases ty with ⟨rfl, xs, hq⟩ | ⟨rfl, o, hk, hc, hd⟩ | ⟨rfl, hk⟩ | ⟨rfl, S, n, hk⟩
    · obtain ⟨its, _, pl, _⟩ := I.list hq
      refine ⟨pl.isList.typeIs, fun a e => ?_⟩
      cases e
      obtain ⟨o, n, e, c, hd, _⟩ := pl
      exact ⟨o, e, hd⟩
    · refine ⟨⟨o, I.kIn p o hk, hc⟩, fun a e => ?_⟩
      cases e
      exact ⟨o, I.kIn _ o hk, hd⟩
    · have z : ∃ o, s.heap.get? p = some o ∧ o.ExactDict := by
        rcases hk with ⟨kvs, hk⟩ | ⟨kvs, hk⟩
        · obtain ⟨_, _, _, _, o, _, _, e, ex, _⟩ := I.hok p _ hk
          exact ⟨o, e, ex⟩
        · obtain ⟨_, _, _, _, o, _, _, e, ex, _⟩ := I.hok p _ hk
          exact ⟨o, e, ex⟩
      obtain ⟨o, e, ex⟩ := z
      refine ⟨⟨o, e, ex.1⟩, fun a e2 => ?_⟩
      cases e2
      exact ⟨o, e, ex.2.1⟩
    · obtain ⟨o, _, _, _, e, ex, _⟩ := I.hok p _ hk
      refine ⟨⟨o, e, ex.1⟩, fun a e2 => ?_⟩
      cases e2
      exact ⟨o, e, ex.2.1⟩
  | _ => exact False.elim ty
def tBM0 (K : PySem.W.Frag) (T : String) (r : V → List V → Hp → VK → Prop) (to : TE) : TE := fun σ H Q => to σ H fun x H1 => tyV K T x H1 ∧ r x [] H1 Q
def tBM (K : PySem.W.Frag) (T : String) (r : V → List V → Hp → VK → Prop) (to : TE) (t : TA) : TE := fun σ H Q => to σ H fun x H1 => tyV K T x H1 ∧ t σ H1 fun xs H2 => r x xs H2 Q
variable {o e : Expr} {es : List Expr} {to : TE} {t : TA} {name : Str} {apos cpos : Pos} {T id : String} {r : V → List V → Hp → VK → Prop}
theorem pe_bm (pa : PlainAttrs T) (slot : Slot T name id) (hty : typeOf (.builtin id) = pure (.type "method_descriptor")) (hm : MtR X id r) (ho : PE X o to) (ha : PA X (e :: es) t)
    (hbase : attributeBase o name X.env (eval o X.env) = eval o X.env := by rfl)
    (hfew : ((backTo cpos (starEach (e :: es) X.env)).all (fun x => !x.1) && (backToKw cpos (keywordEach [] X.env)).all (fun x => x.1.isSome)
      && decide ((e :: es).length + ([] : List Keyword).length + (if ([] : List Keyword).isEmpty then 0 else 1) < 30)) = true := by rfl)
    (hline : (apos.endLine == cpos.line) = true := by rfl) (hs : starEach (e :: es) X.env = (false, eval e X.env) :: starEach es X.env := by rfl) (hplain : (backTo cpos (starEach es X.env)).any (·.1) = false := by rfl) :
    PE X (.Call (.Attribute o name apos) (e :: es) [] cpos) (tBM X.K T r to t) := by
  intro pins s σ H Q I h
  refine wpAny_Call_method_late hbase hfew hline rfl (thn (ho pins s σ H _ I h) fun v s1 ⟨x, H1, I1, r1, ty, q1⟩ => ?_)
  obtain ⟨h1, h2⟩ := tyV_is I1 r1 ty
  refine ⟨T, id, pa, slot, hty, h1, h2, ?_⟩
  have hA := ha cpos pins s1 σ H1 _ I1 q1
  rw [hs] at hA ⊢
  refine Calls.callWith_builtin (by show (false || (backTo cpos (starEach es X.env)).any (·.1)) = false; rw [hplain] <;> rfl) (Calls.evalArgs_plain ?_)
  exact thn hA fun us s2 ⟨vs, H2, I2, r2, q2⟩ => hm pins s2 σ H2 x vs v us Q I2 r1 r2 q2
/- xs.append(e), list.index on a module's tuple .. are MtR facts of 06m -/
end
end L2
namespace L2
open PySem PySem.Spec PyProof.Rows
def MtM (X : Cx) (id : String) (r : V → List V → Hp → VK → Prop) : Prop :=
  ∀ (pins : List (Addr × Obj)) (s : Shared) (σ : St) (H : Hp) (x : V) (xs : List V) (v : Value) (us : List Value) (Q : VK), Inv X pins σ H s → RelV x v → Vals xs us → r x xs H Q →
    wpAny (model X.prog X.w) X.A (call (.builtin id) (v :: us)) (EP X pins σ Q) X.xe s
theorem Vals.one : ∀ {x : V} {us : List Value}, Vals [x] us → ∃ u, us = [u] ∧ RelV x u
  | _, _, .cons r .nil => ⟨_, rfl, r⟩
theorem Vals.zero : ∀ {us : List Value}, Vals [] us → us = []
  | _, .nil => rfl
theorem Vals.reverse {xs : List V} {us : List Value} (h : Vals xs us) : Vals xs.reverse us.reverse := by
  induction h with
  | nil => exact .nil
  | cons r t ih => rw [List.reverse_cons, List.reverse_cons]; exact Vals.append ih (.cons r .nil)
theorem Vals.rep {xs : List V} {us : List Value} (h : Vals xs us) : ∀ k : Nat, Vals (List.replicate k xs).flatten (List.replicate k us).flatten
  | 0 => .nil
  | k + 1 => by
    rw [List.replicate_succ, List.replicate_succ, List.flatten_cons, List.flatten_cons]
    exact Vals.append h (Vals.rep h k)
theorem foldl_rep (its : List Value) : ∀ (k : Nat) (acc : List Value),
    List.foldl (fun x1 x2 => x1 ++ x2) acc.toArray (List.replicate k its.toArray) = (acc ++ (List.replicate k its).flatten).toArray
  | 0, acc => by simp
  | k + 1, acc => by
    have e : acc.toArray ++ its.toArray = (acc ++ its).toArray := by simp
    have e2 : (acc ++ its) ++ (List.replicate k its).flatten = acc ++ (List.replicate (k + 1) its).flatten := by
      rw [List.replicate_succ, List.flatten_cons, List.append_assoc]
    rw [← e2, ← foldl_rep its k (acc ++ its), ← e, List.replicate_succ, List.foldl_cons]
section
variable {X : Cx} {pins : List (Addr × Obj)} {σ : St} {H : Hp} {s : Shared} {l b : Addr} {xs ys zs : List V}
theorem Inv.lset {its its' : List Value} {n : Nat} {f : Array Value → Array Value} {t' : Nat} (I : Inv X pins σ H s) (hH : H l = some (.lst xs))
    (e : s.heap.get? l = some { cls := .type "list", data := .seq its.toArray n }) (hf : f its.toArray = its'.toArray) (hv : Vals ys its') (hz : ys.length ≤ sizeLine) :
    Inv X pins σ (upd H l (.lst ys)) { s with heap := s.heap.update l (Obj.mapSeq f), toks := t' } := by
  have q := PySem.IsL.update e f
  rw [hf] at q
  refine I.write (x := l) (e := l) (by rw [hH]; exact trivial) (.inl rfl) (fun b' u hb hu => (Heap.get?_update_other s.heap (Obj.mapSeq f) (Ne.symm hb)).trans hu) ⟨_, q⟩ ?_
  exact ⟨hz, its', _, hv, q⟩
theorem Inv.lnew {its : List Value} {t' : Nat} (I : Inv X pins σ H s) (hv : Vals ys its) (hz : ys.length ≤ sizeLine) :
    Inv X pins σ (upd H s.heap.objs.size (.lst ys)) { s with heap := s.heap.push { cls := .type "list", data := .seq its.toArray }, toks := t' } :=
  I.laid (fun _ _ q => Heap.get?_push_of_some _ q) (Nat.le_refl _) ⟨hz, its, 0, hv, Heap.get?_push_size _ rfl⟩
theorem Inv.fresh (I : Inv X pins σ H s) : H s.heap.objs.size = none := I.hok.fresh (Nat.le_refl _)
theorem Inv.lstM (I : Inv X pins σ H s) (hH : H l = some (.lst xs)) : xs.length ≤ sizeLine ∧ ∃ (its : List Value) (n : Nat), Vals xs its ∧ xs.length = its.length ∧ s.heap.get? l = some { cls := .type "list", data := .seq its.toArray n } := by
  obtain ⟨z, its, n, r, e⟩ := I.hok l _ hH
  exact ⟨z, its, n, r, r.length, e⟩
theorem notLongL {n : Nat} (h : n ≤ sizeLine) : Builtin.List.listTooLong n = false := by
  unfold Builtin.List.listTooLong
  exact decide_eq_false (by omega)
end
section
variable {X : Cx}
def rAppend : V → List V → Hp → VK → Prop := fun x vs H Q => ∃ l xs y, x = .ref l ∧ vs = [y] ∧ H l = some (.lst xs) ∧ xs.length < sizeLine ∧ Q .non (upd H l (.lst (xs ++ [y])))
theorem mt_append : MtM X "list.append" rAppend := by
  intro pins s σ H x vs v us Q I rx rv h
  obtain ⟨l, xs, y, rfl, rfl, hH, hz, q⟩ := h
  cases rx
  obtain ⟨u, rfl, ru⟩ := rv.one
  obtain ⟨z, its, n, r, hl, e⟩ := I.lstM hH
  refine call_meets F.slot_list_append ⟨_, e, rfl⟩ F.entry_list_append (F.args_list_append_2 _ _) (PySem.list_append l its.toArray n u (by rw [List.size_toArray]; omega)) ⟨e, ?_⟩
  refine ⟨.non, _, I.lset (its' := its ++ [u]) hH e (by simp) (r.append (.cons ru .nil)) ?_, rfl, q⟩
  rw [List.length_append, List.length_singleton]
  omega
def rExtend : V → List V → Hp → VK → Prop := fun x vs H Q => ∃ l b xs zs, x = .ref l ∧ vs = [.ref b] ∧ H l = some (.lst xs) ∧ H b = some (.lst zs) ∧ xs.length + zs.length ≤ sizeLine ∧ Q .non (upd H l (.lst (xs ++ zs)))
theorem mt_extend : MtM X "list.extend" rExtend := by
  intro pins s σ H x vs v us Q I rx rv h
  obtain ⟨l, b, xs, zs, rfl, rfl, hH, hB, hz, q⟩ := h
  cases rx
  obtain ⟨u, rfl, ru⟩ := rv.one
  cases ru
  obtain ⟨z, its, n, r, hl, e⟩ := I.lstM hH
  obtain ⟨z2, its2, n2, r2, hl2, e2⟩ := I.lstM hB
  have hsz : its.toArray.size + its2.toArray.size ≤ sizeLine := by rw [List.size_toArray, List.size_toArray]; omega
  have hlong : ¬ (!its.toArray.isEmpty && Builtin.List.listTooLong (its.toArray.size + its2.toArray.size)) = true := by
    rw [notLongL hsz, Bool.and_false]
    exact Bool.false_ne_true
  refine call_meets F.slot_list_extend ⟨_, e, rfl⟩ F.entry_list_extend (F.args_list_extend_2 _ _)
    (AutoSeq1.list_extend_list_list_0 l its.toArray n b its2.toArray n2 hlong (by rw [List.size_toArray]; omega) (by omega)) ⟨e, e2, ?_⟩
  refine ⟨.non, _, I.lset (its' := its ++ its2) hH e (by simp) (r.append r2) ?_, rfl, q⟩
  rw [List.length_append]
  omega
def rCat : R2 := fun x y H Q => ∃ l b xs zs, x = .ref l ∧ y = .ref b ∧ H l = some (.lst xs) ∧ H b = some (.lst zs) ∧ xs.length + zs.length ≤ sizeLine ∧ ∀ p, H p = none → Q (.ref p) (upd H p (.lst (xs ++ zs)))
theorem op_cat : OpR X (binaryOp .Add) rCat := by
  intro pins s σ H x y v u Q I rx ry h
  obtain ⟨l, b, xs, zs, rfl, rfl, hH, hB, hz, q⟩ := h
  cases rx
  cases ry
  obtain ⟨z, its, n, r, hl, e⟩ := I.lstM hH
  obtain ⟨z2, its2, n2, r2, hl2, e2⟩ := I.lstM hB
  refine PySem.P.add_list e e2 ?_ (by rw [List.size_toArray, List.size_toArray]; omega)
  have ea : its.toArray ++ its2.toArray = (its ++ its2).toArray := by simp
  rw [ea]
  exact ⟨.ref _, _, I.lnew (t' := s.toks) (r.append r2) (by rw [List.length_append]; omega), rfl, q _ I.fresh⟩
def rRep : R2 := fun x y H Q => ∃ l k xs, x = .ref l ∧ y = .int k ∧ H l = some (.lst xs) ∧ -(2 ^ 63) ≤ k ∧ k < 2 ^ 63 ∧ xs.length * k.toNat ≤ sizeLine ∧
  ∀ p, H p = none → Q (.ref p) (upd H p (.lst (List.replicate k.toNat xs).flatten))
theorem len_rep {α : Type} (xs : List α) (k : Nat) : (List.replicate k xs).flatten.length = k * xs.length := by
  induction k with
  | zero => simp
  | succ k ih => rw [List.replicate_succ, List.flatten_cons, List.length_append, ih, Nat.succ_mul, Nat.add_comm]
theorem op_rep : OpR X (binaryOp .Mult) rRep := by
  intro pins s σ H x y v u Q I rx ry h
  obtain ⟨l, k, xs, rfl, rfl, hH, h1, h2, hz, q⟩ := h
  cases rx
  obtain ⟨t, rfl⟩ := ry
  obtain ⟨z, its, n, r, hl, e⟩ := I.lstM hH
  have hlen : its.toArray.size * k.toNat ≤ sizeLine := by rw [List.size_toArray, ← hl]; exact hz
  have hcap : ¬ its.toArray.size * k.toNat > (2 ^ 63 - 1) / 8 := by
    have : (sizeLine : Nat) ≤ (2 ^ 63 - 1) / 8 := by decide
    omega
  have hfit : ¬ (!Builtin.List.listFitsIndex k) = true := by
    rw [fitsIndex_both h1 h2]
    exact Bool.false_ne_true
  have hlong : ¬ Builtin.List.listTooLong (its.toArray.size * k.toNat) = true := by
    rw [notLongL hlen]
    exact Bool.false_ne_true
  have hnew : List.foldl (fun x1 x2 => x1 ++ x2) #[] (List.replicate (if its.toArray.isEmpty = true then 0 else k.toNat) its.toArray) = (List.replicate k.toNat its).flatten.toArray := by
    have f0 : ∀ m : Nat, List.foldl (fun x1 x2 => x1 ++ x2) #[] (List.replicate m its.toArray) = (List.replicate m its).flatten.toArray := fun m => by
      have := foldl_rep its m []
      rw [List.nil_append] at this
      exact this
    rw [f0]
    cases its with
    | nil => simp
    | cons a r' => rw [if_neg (by simp)]
  refine wpAny_binaryOp_repeat_ref (T := "list") (U := "int") (by decide) ⟨_, e, rfl⟩ (fun s' => typeIs_int s' k t) noFill_list_mul F.fills_int_mul F.slot_int_rmul repeat_list F.slot_int_index.lookup
    (call_meets F.slot_int_rmul (typeIs_int s k t) F.entry_int_rmul (F.args_int_rmul_2 _ _) (int___rmul___int_list k t l its.toArray n)
      ⟨e, rfl, ⟨_, e, rfl⟩, call_meets F.slot_list_mul ⟨_, e, rfl⟩ F.entry_list_mul (F.args_list_mul_2 _ _) (AutoListH.list___mul___list_int_3 l its.toArray n k t hfit hcap hlong) ⟨e, ?_⟩⟩)
  rw [hnew]
  exact ⟨.ref _, _, I.lnew (t' := s.toks) (r.rep k.toNat) (by rw [len_rep, Nat.mul_comm]; exact hz), rfl, q _ I.fresh⟩
end
section
variable {prog : Program} {w : World} {A : Around} {E : Value → Shared → Prop} {s : Shared}
set_option maxRecDepth 100000 in
end
section
variable {X : Cx}
end
end L2
namespace Att
open PySem PySem.W PySem.Calls PyProof.Rows
theorem ints_of_wellAll {P : Params} {h : Heap} : ∀ (ns : List Int) (vs : List Value), WellAll P h vs (ns.map WData.int) → IntsAre vs ns := by
  intro ns
  induction ns with
  | nil =>
    intro vs w
    rw [List.map_nil] at w
    cases w
    exact .nil
  | cons n ns ih =>
    intro vs w
    rw [List.map_cons] at w
    cases w with
    | cons a b =>
      cases a
      exact .cons _ _ (ih _ b)
theorem script_of {l : OpenLaw} {n : Nat} (hn : l.most = some n) {P : Params} {h : Heap} {args : List WData} {vals : List Value}
    (hpre : l.row.toRowW.claim.pre args = true) (hwl : WellAll P h vals args) :
    ∃ a vs ns, vals = [Value.ref a] ∧ args = [WData.list (ns.map WData.int)] ∧ h.get? a = some { cls := .type "list", data := .seq vs.toArray } ∧ IntsAre vs ns ∧ ns.length ≤ n := by
  have hsh : WShape.hasAll [] args [.list .int] = true := (pre_splitW hpre).1
  have hc : l.pre.holds [] { args := args } = true := (pre_splitW hpre).2
  obtain ⟨d, r, rfl, h1, h2⟩ := hasAllW_cons hsh
  obtain rfl := hasAllW_nil h2
  obtain ⟨xs, rfl, h3⟩ := hasW_list h1
  obtain ⟨ns, rfl⟩ := items_int h3
  have hlen : ns.length ≤ n := by
    unfold OpenLaw.pre at hc
    have h4 : (WTm.not (.lt (.lit (.int (n : Int))) (.len (.arg 0)))).holds [] { args := [.list (ns.map .int)] } = true := by
      have h4 := (holds_andW hc).1
      rw [hn] at h4
      exact h4
    have h5 := condW_of h4 (w_not (w_lt w_lit (w_len_list (w_arg rfl))))
    rw [List.length_map] at h5
    refine Nat.le_of_not_lt fun q => ?_
    have q' : (n : Int) < ((ns.length : Nat) : Int) := by omega
    first
      | (rw [decide_eq_true q'] at h5; exact absurd h5 (by decide))
      | (simp at h5; omega)
  cases hwl with
  | cons w1 w2 =>
    cases w2
    cases w1 with
    | list ho hall => exact ⟨_, _, ns, rfl, rfl, ho, ints_of_wellAll ns _ hall, hlen⟩
theorem post_true (l : OpenLaw) (args : List WData) : l.row.toRowW.claim.post args (.bool true) args = true :=
  postW_of (r := l.row.toRowW) (X := (true == true))
    (show WShape.has [] (.bool true) .bool = true by first | rfl | decide | simp [WShape.has, WShape.arms, WShape.armsAll])
    (show (WTm.eq .res (.lit (.bool true))).value [] { args := args, res := some (.bool true), after := args } = some (.bool (true == true)) from w_eq_bool (w_res rfl) w_lit) rfl
theorem attach_call {l : OpenLaw} {n : Nat} {q : Program} {loose : List Str} {XP : (Str → Option Value) → Heap → Prop} {YP : World → Heap → Prop} {d : DefRec}
    (hn : l.most = some n) (hdf : d.params.defaults = [])
    (call : ∀ (w : World) (s₀ s₁ : Shared) (mg mb : Str → Option Value) (fa : Addr) (o : Obj) (pm cd doc : Value) (a : Addr) (vs : List Value) (ns : List Int),
      Ground q loose [] XP w s₀ mg mb s₁.heap → YP w s₁.heap →
      s₁.heap.get? fa = some o → o.data = .func (docDef d.name d.params d.body d.scope pm cd doc) → s₁.heap.CodeRec cd d.name → mg d.name = some (.ref fa) →
      s₁.heap.get? a = some { cls := .type "list", data := .seq vs.toArray } → IntsAre vs ns → ns.length ≤ n → s₁.gens = #[] →
      codeAny (model l.prog w) callerA (.call (.ref fa) ⟨[.ref a], []⟩) (fun r s' => r = .ok (.ret (.bool true)) ∧ OldK s₁.heap s'.heap ∧ s'.os = s₁.os ∧ AllBare s'.gens) s₁) :
    WalkO q loose XP YP l.row.toRowW d [] (fun f vs => PySem.call f vs) := by
  intro w s₀ s₁ mg mb G Y fa o pm cd doc dV kV ho hd hcd hD hmg hg args vals as hpre hlay hrd hwl hlo
  obtain rfl : dV = .none := Dflts.none hD hdf
  obtain rfl : kV = .none := Dflts.noKw hD
  obtain ⟨a, vs, ns, rfl, rfl, hobj, hints, hlen⟩ := script_of hn hpre hwl
  refine enter_call (codeAny_mono (call w s₀ s₁ mg mb fa o pm cd doc a vs ns G Y ho (fd_plain hd) hcd hmg hobj hints hlen hg) fun r s' hq => ?_)
  obtain ⟨rfl, h2, h3, h4⟩ := hq
  exact ⟨.inl ⟨.bool true, .bool true, [], rfl, fun _ => rfl, .bool true, post_true l _, fun _ => ⟨List.Pairwise.nil, fun _ hm => (nomatch hm)⟩⟩, h2, h3, h4⟩
section
variable {prog : Program} {w : World} {A : Around} {E : Value → Shared → Prop} {s : Shared} {K : Frag}
end
end Att
namespace L2
open PySem PySem.Spec PyProof.Rows
theorem vals_ints : ∀ {vs : List Value} {ns : List Int}, IntsAre vs ns → Vals (ns.map V.int) vs
  | _, _, .nil => .nil
  | _, _, .cons n t h => .cons ⟨t, rfl⟩ (vals_ints h)
def Only (H : Hp) : Prop := ∀ b, H b = none ∨ ∃ o xs, H b = some (.frz o (.lst xs))
theorem law_call {P : Program} {w : World} {K : PySem.W.Frag} {mg mb : Str → Option Value} {CX : CXT} {k : Nat} {fa a : Addr} {fd : FuncData} {x : Str} {sp : Sp} {s₁ : Shared} {vs : List Value} {ns : List Int}
    (KX : K.In s₁.heap) (hns : s₁.heap.Ns mainGlobals mg) (hb : s₁.heap.Ns builtinsNs mb) (hbb : ∀ x : Str, x ≠ "__name__" → mb x = bootBuiltins x) (hlim : s₁.heap.NoLimit) (hg : s₁.gens = #[])
    (ha : s₁.heap.get? a = some { cls := .type "list", data := .seq vs.toArray }) (hi : IntsAre vs ns) (hl : ns.length ≤ sizeLine) (hr : Room k callerA)
    (F : ∀ base : Heap, K.In base → base.Ns mainGlobals mg → FnOk P w K mg base CX k fa fd [x] sp) (hbind : ∀ (s : Shared) (u : Value), BindsTo s fd ⟨[u], []⟩ [(x, u)])
    (hsp : ∀ H : Hp, Only H → SqL K H a (ns.map V.int) → sp [.ref a] H (fun v _ => v = .bl true) fun _ _ _ => False)
    (hCX : ∀ H e s', CX [] H s₁ (fun _ _ _ => False) e s' → False) :
    codeAny (model P w) callerA (.call (.ref fa) ⟨[.ref a], []⟩) (fun r s' => r = .ok (.ret (.bool true)) ∧ OldK s₁.heap s'.heap ∧ s'.os = s₁.os ∧ AllBare s'.gens) s₁ := by
  have rv := vals_ints hi
  have lenV := hi.length
  have core : ∀ H : Hp, Only H → SqL K H a (ns.map V.int) → HOk P w H s₁.heap → (∀ b, H b ≠ none → b = a) → (H a ≠ none → K.lookup a = none) →
      codeAny (model P w) callerA (.call (.ref fa) ⟨[.ref a], []⟩) (fun r s' => r = .ok (.ret (.bool true)) ∧ OldK s₁.heap s'.heap ∧ s'.os = s₁.os ∧ AllBare s'.gens) s₁ := by
    intro H hO hS hok hA hK
    have base_of : ∀ {b : Addr} {o : Obj}, s₁.heap.get? b = some o → H b = none → (hidT s₁.heap H).get? b = some o := fun e n => hidT_get e n
    have noA : ∀ {b : Addr} {o : Obj} {es : Array DictEntry} {ep : Nat}, s₁.heap.get? b = some o → o.data = .dict es ep → H b = none := fun {b o es ep} e d => by
      cases q : H b with
      | none => rfl
      | some u =>
        have e' : b = a := hA b (by rw [q]; simp)
        subst e'
        rw [ha] at e; cases e
        have d' : Data.seq vs.toArray _ = Data.dict es ep := d
        cases d'
    have nsK : ∀ {b : Addr} {m : Str → Option Value}, s₁.heap.Ns b m → (hidT s₁.heap H).Ns b m := fun {b m} ⟨o, es, ep, e, d, r⟩ => ⟨o, es, ep, base_of e (noA e d), d, r⟩
    have hKb : K.In (hidT s₁.heap H) := fun b o e => base_of (KX b o e) (by
      cases q : H b with
      | none => rfl
      | some u =>
        have e' : b = a := hA b (by rw [q]; simp)
        subst e'
        rw [hK (by rw [q]; simp)] at e; cases e)
    have hM : Mod K mg (hidT s₁.heap H) := ⟨hKb, nsK hns, ⟨mb, nsK hb, hbb⟩, let ⟨mc, h1, h2⟩ := hlim; ⟨mc, nsK h1, h2⟩⟩
    have e0 : Env0 P w K mg (hidT s₁.heap H) callerA [] s₁ H := ⟨rfl, hM, fun b o e => of_hidT e, Nat.le_of_eq (hidT_size _ _), trivial, fun b hb => absurd (show b ∈ ([] : List Addr) from hb) (by simp), hok, .of_eq hg⟩
    refine codeAny_mono ((F _ hKb (nsK hns)).run callerA [] s₁ H ⟨[.ref a], []⟩ [.ref a] [.ref a] _ _ hr e0 (hbind s₁ (.ref a)) (.cons rfl .nil) (hsp H hO hS)) fun r s' h => ?_
    cases r with
    | error e => exact (hCX H e s' h).elim
    | ok fl =>
      cases fl with
      | next => exact False.elim h
      | brk => exact False.elim h
      | cont => exact False.elim h
      | ret u =>
        obtain ⟨v, H', os, bare, un, hok', r', q⟩ := h
        have q' : v = .bl true := q
        subst q'
        obtain rfl : u = Value.bool true := r'
        refine ⟨rfl, OldK.of_keep fun b o e => ?_, os, bare⟩
        cases q : H b with
        | none => exact un.keep b o e q (by intro z; exact absurd (show b ∈ ([] : List Addr) from z) (by simp)) (by simp)
        | some u =>
          rcases hO b with z | ⟨ob, xs, z⟩
          · rw [q] at z; cases z
          · have z2 := un.frzs b ob _ z
            obtain ⟨e1, _⟩ := hok b _ z
            obtain ⟨e2, _⟩ := hok' b _ z2
            rw [e] at e1; cases e1
            exact e2
  cases hk : K.lookup a with
  | some o =>
    have e := KX a o hk
    rw [ha] at e
    cases e
    refine core (fun _ => none) (fun _ => .inl rfl) (.inr ⟨_, vs.toArray, _, hk, rfl, rfl, rfl, by rw [List.size_toArray, lenV]; exact hl, by simpa using rv⟩) (fun b u z => by have z' : (none : Option HO) = some u := z; cases z') (fun b z => absurd rfl z) fun z => absurd rfl z
  | none =>
    refine core (fun b => if b = a then some (.frz { cls := .type "list", data := .seq vs.toArray } (.lst (ns.map V.int))) else none) (fun b => ?_) (.inl (.inr ⟨{ cls := .type "list", data := .seq vs.toArray }, if_pos rfl⟩)) (fun b u z => ?_) (fun b z => ?_) fun _ => hk
    · by_cases hb : b = a
      · exact .inr ⟨_, _, if_pos hb⟩
      · exact .inl (if_neg hb)
    · by_cases hb : b = a
      · have z' := (if_pos hb).symm.trans z
        cases z'
        subst hb
        exact ⟨ha, by rw [List.length_map]; exact hl, vs, _, rv, ha⟩
      · have z' := (if_neg hb).symm.trans z
        cases z'
    · by_cases hb : b = a
      · exact hb
      · exact absurd (if_neg hb) z
end L2
namespace L2
open PySem PySem.Spec PyProof.Rows
abbrev KOf {K : PySem.W.Frag} {h : Heap} (_ : K.In h) : PySem.W.Frag := K
theorem walk_of {l : PySem.W.OpenLaw} {n k : Nat} {q : Program} {loose : List Str} {XP : (Str → Option Value) → Heap → Prop} {YP : World → Heap → Prop} {d : DefRec} {K : Params → PySem.W.Frag} {CX : World → CXT} {sp : World → Sp} {x : Str}
    (hn : l.most = some n) (hn2 : n ≤ sizeLine) (hdf : d.params.defaults = []) (hr : Room k callerA)
    (hY : ∀ (w : World) (h : Heap), YP w h → (K w.params).In h)
    (F : ∀ (w : World) (mg : Str → Option Value) (fa : Addr) (h : Heap), (K w.params).In h → h.Ns mainGlobals mg → mg d.name = some (.ref fa) →
      ∃ fd : FuncData, (∀ (s : Shared) (u : Value), BindsTo s fd ⟨[u], []⟩ [(x, u)]) ∧
        ∀ base : Heap, (K w.params).In base → base.Ns mainGlobals mg → FnOk l.prog w (K w.params) mg base (CX w) k fa fd [x] (sp w))
    (hsp : ∀ (w : World) (H : Hp) (a : Addr) (ns : List Int), ns.length ≤ n → Only H → SqL (K w.params) H a (ns.map V.int) → sp w [.ref a] H (fun v _ => v = .bl true) fun _ _ _ => False)
    (hCX : ∀ (w : World) (H : Hp) (s : Shared) (e : Value) (s' : Shared), CX w [] H s (fun _ _ _ => False) e s' → False) :
    PySem.W.WalkO q loose XP YP l.row.toRowW d [] (fun f vs => PySem.call f vs) := by
  refine Att.attach_call hn hdf fun w s₀ s₁ mg mb fa o pm cd doc a vs ns G Y ho hd hcd hmg hobj hints hlen hg => ?_
  have KX := hY w _ Y
  obtain ⟨fd, hb, hF⟩ := F w mg fa _ KX G.T.g hmg
  exact law_call KX G.T.g G.T.b G.T.builtins G.T.nolimit hg hobj hints (Nat.le_trans hlen hn2) hr hF hb (fun H hO hS => hsp w H a ns hlen hO hS) fun H e s' => hCX w H s₁ e s'
end L2
/- THE LAST THEOREM (shape; LID, My.* are yours):
   My.Adr: a structure of the addresses that your layer names (classes, functions); My.Txt K t: a structure (Prop) of the equations over K;
   My.txt_mk : {K} {implicit addresses ..} (e1 : nsIn K mainGlobals "law" = some (some (.ref f))) (e2 : K.lookup f = some ⟨oc, od, .func (fnOf "law" "law" params body scope dV kV doc pm an cdv ct), sl⟩) (e3 : codeIn K cdv "law" = true) .. : ∃ t, My.Txt K t
set_option maxRecDepth 100000 in
set_option maxHeartbeats 0 in
theorem PySem.Challenge.cw_LID_holds : PySem.Challenge.rw_LID.Holds := by
  w_on; o_law; k_head; (case hw => w_witness2)
  k_fill
  refine L2.walk_of (l := PySem.Challenge.rw_LID) (n := 63) (k := 40) (x := "script") (CX := fun w => ..) (sp := fun _ => My.sp_law) rfl (by decide) rfl ⟨rfl, by decide, by decide⟩ (fun w h Y => PySem.W.kIn_of Y) ?F ?S ?C
  case F =>
    intro w mg fa h KX G hmg
    have T : ∃ t, My.Txt (L2.KOf KX) t := by
      dsimp only [L2.KOf]                          -- K must stand as «<heap const> w.params» for k_is
      refine' My.txt_mk ?e1 ?e2 ?e3 ..
      (case e1 => PySem.W.k_is)                    -- in the order: a name -> its address -> its object -> its parts
      (case e2 => PySem.W.k_is)
      ..
    obtain ⟨t, T⟩ := T
    have e0 := hmg.symm.trans (PySem.W.mg_of KX G T.law)
    cases e0                                       -- fa is the law's own address
    exact ⟨_, fun s u => .of_eq rfl, fun base kb nb => My.law_fn T kb nb⟩     -- if «.of_eq rfl» comes too early: refine' ⟨_, ?b, fun base kb nb => My.law_fn T kb nb⟩; exact fun s u => .of_eq rfl
  case S => exact fun w H a ns hl hO hS => ..
  case C => exact ..
(the tactic k_is has no namespace: write k_is) -/
namespace L2
open PySem PySem.Spec PyProof.Rows
def inClass (s : Stmt) (j : Nat) : Stmt := match s with
  | .ClassDef _ _ _ body _ _ _ _ _ _ _ => body.getD j (.Pass ⟨0, 0, 0, 0⟩)
  | _ => .Pass ⟨0, 0, 0, 0⟩
def defArgs (s : Stmt) : Arguments := match s with
  | .FunctionDef _ a _ _ _ _ _ _ _ _ => a
  | _ => { posonlyargs := [], args := [], vararg := none, kwonlyargs := [], kw_defaults := [], kwarg := none, defaults := [] }
def defBody (s : Stmt) : List Stmt := match s with
  | .FunctionDef _ _ b _ _ _ _ _ _ _ => b
  | _ => []
def defScope (s : Stmt) : Scope := match s with
  | .FunctionDef _ _ _ _ _ _ sc _ _ _ => sc
  | _ => { kind := .function, names := [], isGenerator := false, isCoroutine := false }
abbrev CX0 : CXT := fun _ _ _ _ _ _ => False
abbrev E0 : XK := fun _ _ _ => False
theorem pass0 {X : Cx} : Passes CX0 X E0 := fun _ _ _ _ _ _ _ h => h.elim
structure Fun (K : PySem.W.Frag) (x qual : Str) (st : Stmt) (f : Addr) (fd : FuncData) : Prop where
  ex : ∃ (oc : Value) (od : Option Addr) (kV doc pm : Value) (an : Option Addr) (cdv ct : Value) (osl : Array (Option Value)),
    fd = PySem.W.fnOf x qual (defArgs st) (defBody st) (defScope st) .none kV doc pm an cdv ct ∧ K.lookup f = some ⟨oc, od, .func fd, osl⟩ ∧ PySem.W.codeIn K cdv qual = true
  kp : PySem.W.keepIn K (.ref f) = true
section
variable {P : Program} {w : World} {K : PySem.W.Frag} {mg : Str → Option Value} {base : Heap}
theorem Fun.ok {x qual : Str} {st : Stmt} {f : Addr} {fd : FuncData} {N ps : List Str} {k : Nat} {sp : Sp} (F : Fun K x qual st f fd) (S : FnScope N ps (defScope st)) (len : ∀ vs H Q E, sp vs H Q E → vs.length = ps.length)
    (hbody : ∀ (cdv : Value) (A : Around) (outer : List Env) (s : Shared) (H : Hp) (vs : List V) (Q : VK) (E : XK), Room k (A.deeper (envOfC qual (defScope st) s.heap.objs.size f cdv)) → sp vs H Q E →
      ∃ t, PSs (cxOf CX0 P w K mg base N qual (defScope st) f cdv A outer s H E).nox (defBody st) t ∧ t { nx := fun _ H' => Q .non H', rt := Q } (start N vs) H) : FnOk P w K mg base CX0 (k + 1) f fd ps sp := by
  obtain ⟨oc, od, kV, doc, pm, an, cdv, ct, osl, rfl, lk, hcd⟩ := F.ex
  refine fn_of lk hcd S len fun A outer s H vs Q E hr hsp => ?_
  obtain ⟨t, h, q⟩ := hbody cdv A outer s H vs Q E hr hsp
  exact ⟨t, h.nox, q⟩
theorem Fun.binds {x qual : Str} {st : Stmt} {f : Addr} {fd : FuncData} {ps : List Str} (F : Fun K x qual st f fd)
    (h : ∀ (kV doc pm : Value) (an : Option Addr) (cdv ct : Value) (us : List Value), us.length = ps.length → bindArgs (PySem.W.fnOf x qual (defArgs st) (defBody st) (defScope st) .none kV doc pm an cdv ct) ⟨us, []⟩ = pure (ps.zip us)) : Binds K fd ps [] := by
  obtain ⟨oc, od, kV, doc, pm, an, cdv, ct, osl, rfl, lk, hcd⟩ := F.ex
  exact .all (h kV doc pm an cdv ct)
theorem fun_mk {x qual : Str} {st : Stmt} {f : Addr} {oc : Value} {od an : Option Addr} {osl : Array (Option Value)} {kV doc pm cdv ct : Value} (l : K.lookup f = some ⟨oc, od, .func (PySem.W.fnOf x qual (defArgs st) (defBody st) (defScope st) .none kV doc pm an cdv ct), osl⟩)
    (c : PySem.W.codeIn K cdv qual = true) (k : PySem.W.keepIn K (.ref f) = true) : Fun K x qual st f (PySem.W.fnOf x qual (defArgs st) (defBody st) (defScope st) .none kV doc pm an cdv ct) := ⟨⟨oc, od, kV, doc, pm, an, cdv, ct, osl, rfl, l, c⟩, k⟩
end
section
variable {X : Cx}
theorem pv (i : Nat) {x : Str} {pos : Pos} (hN : X.N[i]? = some x := by rfl) (hv : Vis X.env.scope x := by first | exact Or.inl rfl | exact Or.inr (Or.inl rfl) | exact Or.inr (Or.inr rfl)) (hd : (x == ("__debug__" : Str)) = false := by decide)
    (hcd : (x == ("__classdict__" : Str)) = false := by decide) : PE X (.Name x pos) (tVar i) := pe_var hN hv hd hcd
end
def Same (H H' : Hp) : Prop := ∀ b o, H b = some o → H' b = some o
theorem Same.refl (H : Hp) : Same H H := fun _ _ h => h
theorem Same.trans {H H1 H2 : Hp} (a : Same H H1) (b : Same H1 H2) : Same H H2 := fun c o h => b c o (a c o h)
theorem Same.free {H H' : Hp} (e : Same H H') {l : Addr} (h : H' l = Option.none) : H l = Option.none := by
  cases q : H l with
  | none => rfl
  | some o =>
    rw [e l o q] at h
    cases h
theorem Same.seq {K : PySem.W.Frag} {H H' : Hp} {a : Addr} {xs : List V} (e : Same H H') (h : SqL K H a xs) : SqL K H' a xs := by
  rcases h with (h | ⟨o, h⟩) | h
  · exact .inl (.inl (e _ _ h))
  · exact .inl (.inr ⟨o, e _ _ h⟩)
  · exact .inr h
end L2
namespace GM
end GM
set_option maxHeartbeats 4000000
namespace L2
open PySem PySem.Spec PyProof.Rows
def clAcc (cells : List (Str × Addr)) : List (Str × NameKind) → List (Str × Addr) → List (Str × Addr)
  | [], cs => cs
  | (n, k) :: r, cs => clAcc cells r (if k == .free then (n, (cells.lookup n).getD 0) :: cs else cs)
theorem closureFor_ok {scope : Scope} {env : Env} (h : ∀ y ∈ scope.names, y.2 = .free → ∃ c, env.cells.lookup y.1 = some c) : closureFor scope env = pure (clAcc env.cells scope.names []) := by
  simp only [closureFor]
  generalize scope.names = l at h ⊢
  have key : ∀ (l : List (Str × NameKind)) (cs : List (Str × Addr)), (∀ y ∈ l, y.2 = .free → ∃ c, env.cells.lookup y.1 = some c) →
     (forIn l cs (fun (x : Str × NameKind) (r : List (Str × Addr)) => (if (x.snd == NameKind.free) = true then (do let a ← cellOf env x.fst; pure (ForInStep.yield ((x.fst, a) :: r))) else pure (ForInStep.yield r) : Sem (ForInStep (List (Str × Addr))))) : Sem (List (Str × Addr))) = pure (clAcc env.cells l cs) := by
    intro l
    induction l with
    | nil => intro cs _; rfl
    | cons x r ih =>
      intro cs h
      obtain ⟨n, k⟩ := x
      have hr : ∀ y ∈ r, y.2 = .free → ∃ c, env.cells.lookup y.1 = some c := fun y hy => h y (List.mem_cons_of_mem _ hy)
      rw [List.forIn_cons]
      by_cases hk : k = .free
      · subst hk
        obtain ⟨c, hc⟩ := h (n, .free) List.mem_cons_self rfl
        have e : cellOf env n = pure c := by unfold cellOf; rw [show env.cells.lookup n = some c from hc]
        simp only [beq_self_eq_true, if_true, e]
        show (forIn r ((n, c) :: cs) _ : Sem _) = _
        rw [ih _ hr]
        simp only [clAcc, beq_self_eq_true, if_true]
        rw [show env.cells.lookup n = some c from hc]; rfl
      · have hb : (k == NameKind.free) = false := by simpa using hk
        simp only [hb, Bool.false_eq_true, if_false]
        show (forIn r cs _ : Sem _) = _
        rw [ih _ hr]
        simp only [clAcc, hb, Bool.false_eq_true, if_false]
  rw [key l [] h]; rfl
theorem clAcc_sub {cells : List (Str × Addr)} : ∀ {l : List (Str × NameKind)} {cs : List (Str × Addr)} {x : Str} {c : Addr}, (∀ y ∈ l, y.2 = .free → ∃ c, cells.lookup y.1 = some c) →
    (∀ x c, cs.lookup x = some c → cells.lookup x = some c) → (clAcc cells l cs).lookup x = some c → cells.lookup x = some c
  | [], _, _, _, _, hs, e => hs _ _ e
  | (n, k) :: r, cs, x, c, h, hs, e => by
    refine clAcc_sub (l := r) (fun y hy => h y (List.mem_cons_of_mem _ hy)) ?_ e
    intro z d
    by_cases hk : k = .free
    · subst hk
      obtain ⟨c', hc'⟩ := h (n, .free) List.mem_cons_self rfl
      have hc'' : cells.lookup n = some c' := hc'
      simp only [beq_self_eq_true, if_true, List.lookup_cons, hc'', Option.getD_some]
      cases hz : z == n with
      | true =>
        have : z = n := by simpa using hz
        subst this
        intro q
        cases q
        exact hc''
      | false => exact hs z d
    · have hb : (k == NameKind.free) = false := by simpa using hk
      simp only [hb, Bool.false_eq_true, if_false]
      exact hs z d
theorem clAcc_has {cells : List (Str × Addr)} : ∀ {l : List (Str × NameKind)} {cs : List (Str × Addr)} {x : Str}, ((x, NameKind.free) ∈ l ∨ ∃ c, cs.lookup x = some c) → ∃ c, (clAcc cells l cs).lookup x = some c
  | [], _, _, h => by
    rcases h with h | h
    · cases h
    · exact h
  | (n, k) :: r, cs, x, h => by
    refine clAcc_has (l := r) ?_
    rcases h with h | ⟨c, h⟩
    · rcases List.mem_cons.mp h with e | h
      · cases e
        refine .inr ⟨(cells.lookup n).getD 0, ?_⟩
        simp only [beq_self_eq_true, if_true, List.lookup_cons]
      · exact .inl h
    · by_cases hk : k = .free
      · subst hk
        simp only [beq_self_eq_true, if_true, List.lookup_cons]
        cases hz : x == n with
        | true => exact .inr ⟨_, rfl⟩
        | false => exact .inr ⟨c, h⟩
      · have hb : (k == NameKind.free) = false := by simpa using hk
        simp only [hb, Bool.false_eq_true, if_false]
        exact .inr ⟨c, h⟩
theorem lookup_relabel {env : Env} : ∀ {names : List (Str × NameKind)} {x : Str},
    (names.map fun (n, k) => if (k == NameKind.free && env.scope.kind == .function && env.kindOf n == some .cell) then (n, NameKind.cell) else (n, k)).lookup x =
      (names.lookup x).map fun k => if (k == NameKind.free && env.scope.kind == .function && env.kindOf x == some .cell) then NameKind.cell else k
  | [], _ => rfl
  | (n, k) :: r, x => by
    have ih := @lookup_relabel env r x
    show List.lookup x ((if (k == NameKind.free && env.scope.kind == .function && env.kindOf n == some .cell) = true then (n, NameKind.cell) else (n, k)) :: _) = _
    cases hx : x == n with
    | true =>
      have e : x = n := by simpa using hx
      subst e
      by_cases hc : (k == NameKind.free && env.scope.kind == .function && env.kindOf x == some .cell) = true
      · rw [if_pos hc]; simp only [List.lookup_cons, hx, Option.map_some]; rw [if_pos hc]
      · rw [if_neg hc]; simp only [List.lookup_cons, hx, Option.map_some]; rw [if_neg hc]
    | false =>
      by_cases hc : (k == NameKind.free && env.scope.kind == .function && env.kindOf n == some .cell) = true
      · rw [if_pos hc]; simp only [List.lookup_cons, hx]; exact ih
      · rw [if_neg hc]; simp only [List.lookup_cons, hx]; exact ih
theorem mem_of_lookup {κ ν : Type} [BEq κ] [LawfulBEq κ] : ∀ {l : List (κ × ν)} {x : κ} {v : ν}, l.lookup x = some v → (x, v) ∈ l
  | [], _, _, h => by cases h
  | (n, k) :: r, x, v, h => by
    rw [List.lookup_cons] at h
    cases hx : x == n with
    | true =>
      rw [hx] at h
      have e : x = n := by simpa using hx
      cases h
      rw [e]
      exact List.mem_cons_self
    | false =>
      rw [hx] at h
      exact List.mem_cons_of_mem _ (mem_of_lookup h)
structure CompOk (X : Cx) (scope : Scope) (js : List Nat) : Prop where
  kind : scope.kind = .function
  cell : ∀ y ∈ scope.names, y.2 ≠ .cell
  names : ∀ y ∈ scope.names, y.2 = .local → scope.names.lookup y.1 = some .local
  free : ∀ y ∈ scope.names, y.2 = .free → X.env.kindOf y.1 = some .cell ∨ X.env.kindOf y.1 = some .free
  js : ∀ j ∈ js, scope.names.lookup (X.N.getD j "") = some .free
def compOkB (out : Scope) (N : List Str) (scope : Scope) (js : List Nat) : Bool :=
  (scope.kind == .function) && scope.names.all (fun y => y.2 != .cell) && scope.names.all (fun y => y.2 != .local || scope.names.lookup y.1 == some .local) &&
    scope.names.all (fun y => y.2 != .free || (out.names.lookup y.1 == some .cell || out.names.lookup y.1 == some .free)) && js.all fun j => scope.names.lookup (N.getD j "") == some .free
theorem CompOk.of {X : Cx} {scope : Scope} {js : List Nat} (h : compOkB X.env.scope X.N scope js = true) : CompOk X scope js := by
  simp only [compOkB, Bool.and_eq_true, List.all_eq_true] at h
  obtain ⟨⟨⟨⟨h1, h2⟩, h3⟩, h4⟩, h5⟩ := h
  refine ⟨by simpa using h1, fun y hy => by simpa using h2 y hy, fun y hy e => ?_, fun y hy e => ?_, fun j hj => by simpa using h5 j hj⟩
  · have := h3 y hy
    rw [e] at this
    simpa using this
  · have := h4 y hy
    rw [e] at this
    simpa [Env.kindOf] using this
def cxC (X : Cx) (scope : Scope) (own : List Str) (js : List Nat) (C : Addr) (s : Shared) (H : Hp) (ex : List Addr) (pn : List (Addr × Obj)) (E : Value → Shared → Prop) : Cx where
  prog := X.prog
  w := X.w
  K := X.K
  mg := X.mg
  base := X.base
  A := X.A
  N := own ++ js.map fun j => X.N.getD j ""
  s₀ := s
  H₀ := H
  env := compEnvC scope (clAcc X.env.cells scope.names []) C X.env
  outer := X.stack
  stack := X.stack
  ex := ex
  fn := fun _ => false
  calm := X.calm
  pn := pn
  xe := E
def cσ (n : Nat) (js : List Nat) (σ : St) : St := List.replicate n none ++ js.map fun j => σ.getD j none
section
variable {X : Cx} {pins : List (Addr × Obj)} {σ : St} {H H' : Hp} {s : Shared} {scope : Scope} {own : List Str} {js : List Nat} {C : Addr} {fp : List Addr} {E : Value → Shared → Prop}
theorem CompOk.clos (ok : CompOk X scope js) (I : Inv X pins σ H s) : ∀ y ∈ scope.names, y.2 = .free → ∃ c, X.env.cells.lookup y.1 = some c := fun y hy e => I.ok.has y.1 (ok.free y hy e)
theorem CompOk.sub (ok : CompOk X scope js) (I : Inv X pins σ H s) {x : Str} {c : Addr} (e : (clAcc X.env.cells scope.names []).lookup x = some c) : X.env.cells.lookup x = some c :=
  clAcc_sub (ok.clos I) (fun _ _ z => by cases z) e
theorem CompOk.kindOf (ok : CompOk X scope js) {cl : List (Str × Addr)} {x : Str} (h : (compEnvC scope cl C X.env).kindOf x = some .cell ∨ (compEnvC scope cl C X.env).kindOf x = some .free) : (x, NameKind.free) ∈ scope.names := by
  have e : (compEnvC scope cl C X.env).kindOf x = (scope.names.lookup x).map fun k => if (k == NameKind.free && X.env.scope.kind == .function && X.env.kindOf x == some .cell) then NameKind.cell else k := lookup_relabel
  rw [e] at h
  cases q : scope.names.lookup x with
  | none => rw [q] at h; simp at h
  | some k =>
    have hm := mem_of_lookup q
    by_cases hk : k = .free
    · subst hk; exact hm
    · have hb : (k == NameKind.free) = false := by simpa using hk
      rw [q] at h
      simp only [Option.map_some, hb, Bool.false_and, Bool.false_eq_true, if_false] at h
      rcases h with h | h
      · exact absurd (Option.some.inj h) (ok.cell _ hm)
      · exact absurd (Option.some.inj h) hk
theorem CompOk.isFree (ok : CompOk X scope js) {cl : List (Str × Addr)} {x : Str} (h : scope.names.lookup x = some .free) : (compEnvC scope cl C X.env).kindOf x = some .cell ∨ (compEnvC scope cl C X.env).kindOf x = some .free := by
  have e : (compEnvC scope cl C X.env).kindOf x = (scope.names.lookup x).map fun k => if (k == NameKind.free && X.env.scope.kind == .function && X.env.kindOf x == some .cell) then NameKind.cell else k := lookup_relabel
  rw [e, h]
  simp only [Option.map_some]
  split
  · exact .inl rfl
  · exact .inr rfl
theorem cx_comp (ok : CompOk X scope js) (I : Inv X pins σ H s) (hC : s.heap.objs.size ≤ C) (f : ∀ b ∈ fp, FpOk X pins H b) (fo : ∀ b ∈ fp, ∃ o, s.heap.get? b = some o) : (cxC X scope own js C s H fp (X.pn ++ pins) E).Ok where
  mod := I.ok.mod
  kind := ok.kind
  glob := I.ok.glob
  blt := I.ok.blt
  above := hC
  inj := fun x y c e1 e2 => I.ok.inj x y c (ok.sub I e1) (ok.sub I e2)
  has := fun x h => clAcc_has (.inl (ok.kindOf h))
  cab := fun x c h => nomatch (show false = true from h)
  hd := I.ok.hd
  frames := I.ok.frames
  stk := .inl rfl
  exf := fun b hb => by
    obtain ⟨o, e⟩ := fo b hb
    obtain ⟨_, _, _, _, f4, _⟩ := f b hb
    exact ⟨Nat.ne_of_lt (Nat.lt_of_lt_of_le (Heap.lt_size e) hC), fun x c q => f4 x c (ok.sub I q)⟩
  bs := I.bs
  bsz := Nat.le_trans I.ok.bsz I.sz
  noex := fun b o e hb => by
    obtain ⟨_, _, _, f3, _, _⟩ := f b hb
    rcases f3 with z | z
    · exact I.ok.noex b o e z
    · exact absurd (Nat.lt_of_lt_of_le (Heap.lt_size e) (Nat.le_trans I.ok.bsz z)) (Nat.lt_irrefl _)
  exfs := fun b hb hs => by
    obtain ⟨_, f1, f2, _, _, _⟩ := f b hb
    rcases List.mem_cons.mp (I.stkSub b hs) with e | e
    · exact f1 e
    · exact f2 e
  funs := I.stack
  frf := I.stkFree
theorem inv_comp {s' : Shared} {pins' : List (Addr × Obj)} {m : Str → Option Value} (ok : CompOk X scope js) (I : Inv X pins σ H s) (hC : s.heap.objs.size ≤ C) (f : ∀ b ∈ fp, FpOk X pins H b) (fo : ∀ b ∈ fp, ∃ o, s.heap.get? b = some o)
    (hos : s'.os = s.os) (hg : AllBare s'.gens) (u : Un (frs X.stack) fp H H' s.heap s'.heap) (hn : s'.heap.Ns C m) (hok : HOk X.prog X.w H' s'.heap) (hCf : H' C = none)
    (hp : ∀ p ∈ pins', s'.heap.get? p.1 = some p.2 ∧ H' p.1 = none ∧ p.1 ≠ C ∧ p.1 ∉ frs X.stack ∧ ∀ v, p.2.data ≠ .cell v) :
    Inv (cxC X scope own js C s H fp (X.pn ++ pins) E) pins' (cσ own.length js σ) H' s' := by
  have Ok := cx_comp (own := own) (E := E) ok I hC f fo
  have cellAt : ∀ x c, X.env.cells.lookup x = some c → ∀ v, s.heap.IsCell c v → s'.heap.IsCell c v := fun x c e v ⟨o, ho, hd⟩ => by
    have nx : c ∉ fp := fun z => by
      obtain ⟨_, _, _, _, f4, _⟩ := f c z
      exact f4 x c e rfl
    obtain ⟨sl, q⟩ := u.any ho (I.freeC x c e) nx
    exact ⟨_, q, hd⟩
  refine ⟨Ok, hos, hg, u, ⟨m, hn, ?_⟩, ?_, hCf, ?_, ?_, hok, ?_⟩
  · intro i x v e1 e2 _
    have e1' : (own ++ js.map fun j => X.N.getD j "")[i]? = some x := e1
    have e2' : (List.replicate own.length none ++ js.map fun j => σ.getD j none)[i]? = some (some v) := e2
    by_cases hi : i < own.length
    · rw [List.getElem?_append_left (by simpa using hi), List.getElem?_replicate] at e2'
      split at e2' <;> cases e2'
    · rw [List.getElem?_append_right (by omega), List.getElem?_map] at e1'
      rw [List.getElem?_append_right (by simpa using Nat.not_lt.mp hi), List.getElem?_map, List.length_replicate] at e2'
      cases hj : js[i - own.length]? with
      | none => rw [hj] at e1'; cases e1'
      | some j =>
        rw [hj] at e1' e2'
        have ex : X.N.getD j "" = x := Option.some.inj e1'
        have ev : σ.getD j none = some v := Option.some.inj e2'
        have hjm : j ∈ js := List.mem_of_getElem? hj
        have hjl : j < σ.length := by
          apply Classical.byContradiction
          intro h
          rw [List.getD_eq_getElem?_getD, List.getElem?_eq_none (Nat.not_lt.mp h)] at ev
          cases ev
        have hσ : σ[j]? = some (some v) := by
          rw [List.getD_eq_getElem?_getD, List.getElem?_eq_getElem hjl] at ev
          rw [List.getElem?_eq_getElem hjl]
          exact congrArg some ev
        have hNl : j < X.N.length := by rw [← I.len]; exact hjl
        have hN : X.N[j]? = some x := by
          rw [List.getD_eq_getElem?_getD, List.getElem?_eq_getElem hNl] at ex
          rw [List.getElem?_eq_getElem hNl]
          exact congrArg some ex
        have hfr : scope.names.lookup x = some .free := by rw [← ex]; exact ok.js j hjm
        have hk := ok.free _ (mem_of_lookup hfr) rfl
        obtain ⟨m0, _, hl⟩ := I.loc
        obtain ⟨w', r, l⟩ := hl j x v hN hσ (.inr hk)
        refine ⟨w', r, ?_⟩
        rcases l with ⟨hk', _⟩ | ⟨_, c, hc, hz⟩
        · have hk'' : X.env.kindOf x = some .local := hk'
          rcases hk with q | q
          · exact absurd (hk''.symm.trans q) (by intro z; cases z)
          · exact absurd (hk''.symm.trans q) (by intro z; cases z)
        · obtain ⟨c', hc'⟩ : ∃ c', (clAcc X.env.cells scope.names []).lookup x = some c' := clAcc_has (.inl (mem_of_lookup hfr))
          have e := ok.sub I hc'
          rw [hc] at e
          cases e
          exact .inr ⟨ok.isFree hfr, c, hc', cellAt x c hc _ hz⟩
  · intro x c e
    obtain ⟨v, z⟩ := I.cell x c (ok.sub I e)
    exact ⟨v, cellAt x c (ok.sub I e) v z⟩
  · intro x c e
    obtain ⟨v, o, ho, _⟩ := I.cell x c (ok.sub I e)
    refine u.free c o ho (I.freeC x c (ok.sub I e)) fun z => ?_
    obtain ⟨_, _, _, _, f4, _⟩ := f c z
    exact f4 x c (ok.sub I e) rfl
  · intro p hpm
    rcases List.mem_append.mp hpm with h | h
    · have h' : p ∈ X.pn ++ pins := h
      obtain ⟨e, n, ne, nf, d⟩ := I.pin p h'
      have nfr : p.1 ∉ frs X.stack := fun z => by
        rcases List.mem_cons.mp (I.stkSub _ z) with q | q
        · exact ne q
        · exact nf q
      have nex : p.1 ∉ fp := fun z => by
        obtain ⟨_, _, _, _, _, f5⟩ := f p.1 z
        exact f5 p h' rfl
      exact ⟨u.keep p.1 p.2 e n nfr nex, u.free p.1 p.2 e n nex, Nat.ne_of_lt (Nat.lt_of_lt_of_le (Heap.lt_size e) hC), nfr, d⟩
    · exact hp p h
  · show (List.replicate own.length none ++ js.map fun j => σ.getD j none).length = (own ++ js.map fun j => X.N.getD j "").length
    simp
theorem Inv.track {D : Addr} {ys : List V} {its : List Value} {n : Nat} (I : Inv X pins σ H s) (hn : H D = none) (ho : s.heap.get? D = some { cls := .type "list", data := .seq its.toArray n }) (r : Vals ys its) (hz : ys.length ≤ sizeLine)
    (h1 : D ∈ X.ex ∨ X.s₀.heap.objs.size ≤ D) (hL : D ≠ X.env.locals) (h2 : ∀ x c, X.env.cells.lookup x = some c → c ≠ D) (h3 : ∀ p ∈ X.pn ++ pins, p.1 ≠ D) : Inv X pins σ (upd H D (.lst ys)) s := by
  have ne : ∀ b o, H b = some o → b ≠ D := fun b o e => ne_of_none e hn
  refine I.step (h' := s.heap) (g' := s.gens) (d' := s.drawn) (t' := s.toks) (ch := [D]) (fun b hb => ?_) (fun b o _ _ _ e _ => e) (fun b o _ _ _ e _ => ⟨o.slots, e⟩) (fun b o hc _ n => ?_)
    (fun b o _ e => ⟨o, e⟩) (fun b xs e => ?_) (fun b o u e => ?_) (fun b ps e => ⟨#[], ?_⟩) (fun _ z => z) (fun b u e => ?_) I.bare
  · have e : b = D := by simpa using hb
    subst e
    exact ⟨h1, hL, h2, h3⟩
  · rw [upd_ne (fun z => hc (by simp [z]))]; exact n
  · rw [upd_ne (ne _ _ e)]; exact e
  · rw [upd_ne (ne _ _ e)]; exact e
  · rw [upd_ne (ne _ _ e), e]; simp
  · by_cases hb : b = D
    · subst hb
      rw [upd_same] at e
      cases e
      exact ⟨hz, its, n, r, ho⟩
    · rw [upd_ne hb] at e
      exact (I.hok b u e).stay (fun c v _ q => q) (fun c q => by rw [upd_ne (ne _ _ q)]; exact q) fun c xs q => by rw [upd_ne (ne _ _ q)]; exact q
end
structure Own (X : Cx) (pins : List (Addr × Obj)) (C : Addr) : Prop where
  ne : C ≠ X.env.locals
  old : C ∈ X.ex ∨ X.s₀.heap.objs.size ≤ C
  cells : ∀ x c, X.env.cells.lookup x = some c → c ≠ C
  pin : ∀ p ∈ X.pn ++ pins, p.1 ≠ C
theorem Own.go {X : Cx} {pins : List (Addr × Obj)} {C : Addr} {σ : St} {H : Hp} {s : Shared} {h' : Heap} (o : Own X pins C) (I : Inv X pins σ H s) (hn : H C = none) (sb : Heap.SameBut C s.heap h') : Inv X pins σ H { s with heap := h' } :=
  I.turned (t' := s.toks) (fun b q hb e => (sb.2 b hb).trans e) hn o.ne o.old o.cells o.pin
section
variable {prog : Program} {w : World} {A : Around} {R : Result → Shared → Prop} {s : Shared}
theorem compLoop_go {elt target iter : Expr} {ifs : List Expr} {scope : Scope} {pos : Pos} {it acc : Value} {env : Env} (I : Nat → Shared → Prop)
    (turn : ∀ n s, I n s → wpAny (model prog w) A (pyNext it) (fun r s₁ => match r with
      | none => R (.ok .next) s₁
      | some v => wpAny (model prog w) A (letOwnedTupleGo target it v) (fun _ s₁' => wpAny (model prog w) A (assign target env v) (fun _ s₂ =>
          wpAny (model prog w) A (forIn ifs true fun c r => if r = true then do let ok ← isTrue c env (eval c env); pure (ForInStep.yield ok) else pure (ForInStep.yield r)) (fun ok s₃ =>
            if ok = true then wpAny (model prog w) A (eval elt env) (fun x s₄ =>
              wpAny (model prog w) A (call (.builtin "list.append") [acc, x]) (fun _ s₅ => ∃ m, m < n ∧ I m s₅) (notedBy (model prog w) A env fun e s' => R (.error e) s') s₄) (notedBy (model prog w) A env fun e s' => R (.error e) s') s₃
            else ∃ m, m < n ∧ I m s₃) (notedBy (model prog w) A env fun e s' => R (.error e) s') s₂) (notedBy (model prog w) A env fun e s' => R (.error e) s') s₁') (notedBy (model prog w) A env fun e s' => R (.error e) s') s₁)
        (notedBy (model prog w) A env fun e s' => R (.error e) s') s)
    (n : Nat) (h : I n s) :
    codeAny (model prog w) A (.compLoop (.ListComp elt [⟨target, iter, ifs, 0⟩] scope pos) 0 it acc env) R s := by
  refine codeAny_loop rfl I (fun n s hI => ?_) n h
  show wpAny _ A ((compTurn (.ListComp elt [⟨target, iter, ifs, 0⟩] scope pos) 0 it acc env).onRaise (fun x => do noteFrame x env; theTreesLotGoes x)) _ _ s
  refine wpAny_noted ?_
  rw [compTurn_list]
  refine wpAny_bind (wpAny_standAt (wpAny_bind (wpAny_mono (turn n s hI) (fun r s₁ h₁ => ?_) fun _ _ h' => h')))
  cases r with
  | none => exact wpAny_pure h₁
  | some v =>
    refine wpAny_bind (wpAny_mono h₁ (fun _ s₁' h₁' => ?_) fun _ _ h' => h')
    refine wpAny_bind (wpAny_mono h₁' (fun _ s₂ h₂ => wpAny_bind (wpAny_mono h₂ (fun ok s₃ h₃ => ?_) fun _ _ h' => h')) fun _ _ h' => h')
    cases ok with
    | false => exact wpAny_pure ⟨rfl, h₃⟩
    | true =>
      exact wpAny_bind (wpAny_bind (wpAny_mono h₃ (fun x s₄ h₄ => wpAny_bind (wpAny_mono h₄ (fun _ s₅ h₅ => wpAny_pure (wpAny_pure ⟨rfl, h₅⟩)) fun _ _ h' => h')) fun _ _ h' => h'))
end
def PTs (X : Cx) (ifs : List Expr) (t : TT) : Prop :=
  ∀ (pins : List (Addr × Obj)) (s : Shared) (σ : St) (H : Hp) (Q : Bool → Hp → Prop), Inv X pins σ H s → t σ H Q →
    wpAny (model X.prog X.w) X.A (forIn ifs true fun c r => if r = true then do let ok ← isTrue c X.env (eval c X.env); pure (ForInStep.yield ok) else pure (ForInStep.yield r)) (TP X pins σ Q) X.xe s
def tAll : TT := fun _ H Q => Q true H
theorem pts_nil {X : Cx} : PTs X [] tAll := fun pins s σ H Q I h => wpAny_tests_nil ⟨H, I, h⟩
theorem pts_one {X : Cx} {c : Expr} {t : TT} (h : PT X c t) : PTs X [c] t := fun pins s σ H Q I q => wpAny_tests_one (h pins s σ H Q I q)
def tCompW (n : Nat) (js : List Nat) (wi : TI) (g : TG) (tt : TT) (te : TE) (σ : St) (H : Hp) (F : List V → Hp → Prop) : Prop := wi σ H fun J H1 => ∃ W : Nat → Nat → List V → Hp → Prop, (∃ m, W 0 m [] H1) ∧ ∀ i m ys H, W i m ys H →
  (J.stop i H ∧ F ys H) ∨
  (J.go i H ∧ ys.length < sizeLine ∧ ∃ N : List V → Hp → Prop, (∀ ys' H', N ys' H' → ∃ m', m' < m ∧ W (i + 1) m' ys' H') ∧ ∀ x H', J.yld i H x H' → g x (cσ n js σ) H' fun σ2 H2 => tt σ2 H2 fun b H3 => if b = true then te σ2 H3 fun y H4 => N (ys ++ [y]) H4 else N ys H3)
def tComp (n : Nat) (js : List Nat) (wi : TI) (g : TG) (tt : TT) (te : TE) : TE := fun σ H Q => tCompW n js wi g tt te σ H fun ys H => ∀ p, H p = none → Q (.ref p) (upd H p (.lst ys))
section
variable {X : Cx} {scope : Scope} {own : List Str} {js : List Nat} {tg iter elt : Expr} {ifs : List Expr} {wi : TI} {g : TG} {tt : TT} {te : TE} {pos : Pos}
abbrev NoE : Value → Shared → Prop := fun _ _ => False
theorem comp_block {pins : List (Addr × Obj)} {σ : St} {H2 : Hp} {s2 : Shared} {it : Addr} {fp : List Addr} {tn : Nat → Heap → Prop} {J : It} {F : List V → Hp → Prop} {RR : Value → Addr → Result → Shared → Prop} {E : Value → Shared → Prop}
    (hc : X.calm = true) (ok : CompOk X scope js)
    (hg : ∀ C s H ex pn, PG (cxC X scope own js C s H ex pn NoE) tg g) (ht : ∀ C s H ex pn, PTs (cxC X scope own js C s H ex pn NoE) ifs tt) (he : ∀ C s H ex pn, PE (cxC X scope own js C s H ex pn NoE) elt te)
    (I2 : Inv X pins σ H2 s2) (T : Turn X.prog X.w X.K tg J fp it tn) (st2 : tn 0 s2.heap) (f2 : ∀ b ∈ fp, FpOk X pins H2 b) {W : Nat → Nat → List V → Hp → Prop} {m0 : Nat} (w0 : W 0 m0 [] H2)
    (turn : ∀ i m ys H, W i m ys H → (J.stop i H ∧ F ys H) ∨
      (J.go i H ∧ ys.length < sizeLine ∧ ∃ N : List V → Hp → Prop, (∀ ys' H', N ys' H' → ∃ m', m' < m ∧ W (i + 1) m' ys' H') ∧ ∀ x H', J.yld i H x H' → g x (cσ own.length js σ) H' fun σ2 H2 => tt σ2 H2 fun b H3 => if b = true then te σ2 H3 fun y H4 => N (ys ++ [y]) H4 else N ys H3))
    (hRR : ∀ (D C : Addr) (s' : Shared) (H' : Hp) (ys : List V) (m : Str → Option Value), F ys H' → H' D = none → Inv X pins σ (upd H' D (.lst ys)) s' → s'.heap.Ns C m →
      Own X pins C → (upd H' D (.lst ys)) C = none → RR (.ref D) C (.ok .next) s') :
    wpAny (model X.prog X.w) X.A (newList []) (fun acc s₃ => wpAny (model X.prog X.w) X.A (newFunctionEnv scope X.env.globals (clAcc X.env.cells scope.names []) [] X.env.qual none .none (some X.env)) (fun cenv s₄ =>
      codeAny (model X.prog X.w) X.A (.compStart (.ListComp elt [⟨tg, iter, ifs, 0⟩] scope pos) 0 (.ref it) acc { cenv with scope := relabel scope X.env }) (RR acc cenv.locals) s₄) E s₃) E s2 := by
  refine wpAny_newObj_type (wpAny_newFunctionEnv ok.cell (by intro y hy; simp at hy) (fun h₁ hns₁ hsb₁ => ?_) ok.kind)
  dsimp only at hns₁ hsb₁ ⊢
  generalize hP : s2.heap.push { cls := .type "list", dict := none, data := .seq ([] : List Value).toArray } = P2 at hns₁ hsb₁ ⊢
  have hC : P2.objs.size = s2.heap.objs.size + 1 := by rw [← hP, Heap.size_push]
  have hDC : s2.heap.objs.size ≠ P2.objs.size := by rw [hC]; exact Nat.ne_of_lt (Nat.lt_succ_self _)
  have hCle : s2.heap.objs.size ≤ P2.objs.size := by rw [hC]; exact Nat.le_succ _
  have below : ∀ b, b < s2.heap.objs.size → b ≠ P2.objs.size ∧ b ≠ s2.heap.objs.size := fun b hb => ⟨by rw [hC]; exact Nat.ne_of_lt (Nat.lt_succ_of_lt hb), Nat.ne_of_lt hb⟩
  have old : ∀ b o, s2.heap.get? b = some o → h₁.get? b = some o := fun b o e => hsb₁.extBut b o (below b (Heap.lt_size e)).1 (Heap.get?_push_of_some _ (hP ▸ Heap.get?_push_of_some _ e))
  have hacc : h₁.get? s2.heap.objs.size = some { cls := .type "list", data := .seq ([] : List Value).toArray 0 } := hsb₁.extBut _ _ hDC (Heap.get?_push_of_some _ (hP ▸ Heap.get?_push_size _ rfl))
  generalize hDe : s2.heap.objs.size = D at hacc hDC hCle hC below
  generalize hCe : P2.objs.size = C at hns₁ hsb₁ hDC hCle hC below ⊢
  have fo : ∀ b ∈ fp, ∃ o, s2.heap.get? b = some o := fun b hb => let ⟨o, e, _⟩ := T.obj _ _ st2 b hb; ⟨o, e⟩
  have fD : ∀ b ∈ fp, b ≠ D ∧ b ≠ C := fun b hb => by
    obtain ⟨o, e⟩ := fo b hb
    have := below b (hDe ▸ Heap.lt_size e)
    exact ⟨this.2, this.1⟩
  have H2C : H2 C = none := I2.hok.fresh (by rw [hDe]; exact hCle)
  have H2D : H2 D = none := I2.hok.fresh (by rw [hDe]; exact Nat.le_refl _)
  have stkD : D ∉ frs X.stack := fun z => by
    have h1 := I2.nofs (a := D) (by rw [hDe]; exact Nat.le_refl _)
    rcases List.mem_cons.mp (I2.stkSub _ z) with q | q
    · have := I2.lt
      rw [← q, hDe] at this
      exact Nat.lt_irrefl _ this
    · exact h1 q
  have neLoc : D ≠ X.env.locals ∧ C ≠ X.env.locals := by
    have h1 := I2.lt
    rw [hDe] at h1
    exact ⟨Nat.ne_of_gt h1, Nat.ne_of_gt (Nat.lt_of_lt_of_le h1 hCle)⟩
  have cellLt : ∀ x c, X.env.cells.lookup x = some c → c < D := fun x c e => by
    obtain ⟨v, z⟩ := I2.cell x c e
    rw [← hDe]
    exact z.lt
  have pinLt : ∀ p ∈ X.pn ++ pins, p.1 < D := fun p hp => by rw [← hDe]; exact Heap.lt_size (I2.pin p hp).1
  have hs0 : X.s₀.heap.objs.size ≤ D := by rw [← hDe]; exact I2.sz
  have start : ∀ {s' : Shared} {H' : Hp} {m : Str → Option Value} {o : Obj}, s'.os = s2.os → AllBare s'.gens → Un (frs X.stack) fp H2 H' s2.heap s'.heap → s'.heap.Ns C m → HOk X.prog X.w H' s'.heap → H' C = none → s'.heap.get? D = some o → H' D = none → (∀ v, o.data ≠ .cell v) →
      Inv (cxC X scope own js C s2 H2 fp (X.pn ++ pins) NoE) [(D, o)] (cσ own.length js σ) H' s' := fun {s' H' m o} a1 a2 a3 a4 a5 a6 a7 a8 a9 =>
    inv_comp ok I2 (by rw [hDe]; exact hCle) f2 fo a1 a2 a3 a4 a5 a6 fun p hp => by
      have e : p = (D, o) := by simpa using hp
      subst e
      exact ⟨a7, a8, hDC, stkD, a9⟩
  have fpC : ∀ {H' : Hp} {o : Obj}, (∀ b ∈ fp, H' b = none) → ∀ b ∈ fp, FpOk (cxC X scope own js C s2 H2 fp (X.pn ++ pins) NoE) [(D, o)] H' b := fun {H' o} hn b hb => by
    obtain ⟨_, q1, q2, q3, q4, q5⟩ := f2 b hb
    refine ⟨hn b hb, (fD b hb).2, fun z => ?_, .inl hb, fun x c e => q4 x c (ok.sub I2 e), fun p hp => ?_⟩
    · rcases List.mem_cons.mp (I2.stkSub b z) with e | e
      · exact q1 e
      · exact q2 e
    · rcases List.mem_append.mp hp with h | h
      · exact q5 p h
      · have e : p = (D, o) := by simpa using h
        subst e
        exact (fD b hb).1.symm
  have nocell : ∀ (its : Array Value) (n : Nat) (v : Option Value), ({ cls := .type "list", data := .seq its n } : Obj).data ≠ .cell v := fun _ _ _ z => by cases z
  have loop : ∀ s₃ : Shared, s₃ = { s2 with heap := h₁, toks := s2.toks + ([] : List (Str × Value)).length } →
      codeAny (model X.prog X.w) X.A (.compLoop (.ListComp elt [⟨tg, iter, ifs, 0⟩] scope pos) 0 (.ref it) (.ref D) (compEnvC scope (clAcc X.env.cells scope.names []) C X.env)) (RR (.ref D) C) s₃ := by
    rintro s₃ rfl
    refine compLoop_go (fun n s' => ∃ i ys its k H', Inv (cxC X scope own js C s2 H2 fp (X.pn ++ pins) NoE) [(D, { cls := .type "list", data := .seq (its : List Value).toArray k })] (cσ own.length js σ) H' s' ∧ tn i s'.heap ∧ (∀ b ∈ fp, H' b = none) ∧
      W i n ys H' ∧ Vals ys its ∧ ys.length ≤ sizeLine) ?_ m0 ⟨0, [], [], 0, H2, start rfl I2.bare (Un.kept old) hns₁ (I2.hok.kept old) H2C hacc H2D (nocell _ _), T.keep _ _ _ st2 (fun b _ o e => old b o e), fun b hb => (f2 b hb).1, w0, .nil, Nat.zero_le _⟩
    rintro n s3 ⟨i, ys, its, k, H3, I3, st3, fr3, w3, rv, hz⟩
    rcases turn i n ys H3 w3 with ⟨stop, q⟩ | ⟨go, hlt, N, hN, step⟩
    · refine wpAny_mono (T.done (cxC X scope own js C s2 H2 fp (X.pn ++ pins) NoE) rfl rfl rfl hc i _ s3 _ H3 NoE I3 (fpC fr3) st3 stop) (fun r s4 ⟨hr, I4⟩ => ?_) fun _ _ f => f.elim
      subst hr
      obtain ⟨zD, nD, _⟩ := I4.pin (D, _) (List.mem_append_right _ List.mem_cons_self)
      obtain ⟨m, hm, _⟩ := I4.loc
      have I5 : Inv X pins σ H3 s4 := I2.call' I4.os I4.base I4.hok I4.bare fun b hb => ⟨(f2 b hb).2.2.2.1, (f2 b hb).2.1, (f2 b hb).2.2.2.2.1, (f2 b hb).2.2.2.2.2⟩
      have I6 : Inv X pins σ (upd H3 D (.lst ys)) s4 := I5.track nD zD rv hz (.inr hs0) neLoc.1 (fun x c e => Nat.ne_of_lt (cellLt x c e)) fun p hp => Nat.ne_of_lt (pinLt p hp)
      have nC : H3 C = none := I4.free
      exact hRR D C s4 H3 ys m q nD I6 hm ⟨neLoc.2, .inr (Nat.le_trans hs0 hCle), fun x c e => Nat.ne_of_lt (Nat.lt_of_lt_of_le (cellLt x c e) hCle), fun p hp => Nat.ne_of_lt (Nat.lt_of_lt_of_le (pinLt p hp) hCle)⟩ (by rw [upd_ne (Ne.symm hDC)]; exact nC)
    · refine wpAny_mono (T.item (cxC X scope own js C s2 H2 fp (X.pn ++ pins) NoE) rfl rfl rfl hc i _ s3 _ H3 NoE I3 (fpC fr3) st3 go) (fun r s4 ⟨u, hr, h4⟩ => ?_) fun _ _ f => f.elim
      subst hr
      refine wpAny_mono h4 (fun _ s5 ⟨x, H5, I5, r5, y5, st5, fr5⟩ => ?_) fun _ _ f => f.elim
      have I5' := I5.pinned (fpC fr5) (T.obj _ _ st5)
      refine wpAny_mono (hg _ _ _ _ _ _ s5 _ H5 x u _ I5' r5 (step x H5 y5)) (fun _ s6 ⟨σ6, H6, I6, q6⟩ => ?_) fun _ _ f => f.elim
      refine wpAny_mono (ht _ _ _ _ _ _ s6 σ6 H6 _ I6 q6) (fun b s7 ⟨H7, I7, q7⟩ => ?_) fun _ _ f => f.elim
      have back : ∀ {s8 : Shared} {H8 : Hp} {m' : Nat} {ys' : List V} {its' : List Value} {k' : Nat}, Inv (cxC X scope own js C s2 H2 fp (X.pn ++ pins) NoE) [] σ6 H8 s8 → s8.heap.get? D = some { cls := .type "list", data := .seq its'.toArray k' } → H8 D = none →
          (∀ b ∈ fp, ∀ o, s5.heap.get? b = some o → s8.heap.get? b = some o) → (∀ b ∈ fp, H8 b = none) → W (i + 1) m' ys' H8 → Vals ys' its' → ys'.length ≤ sizeLine →
          ∃ i ys its k H', Inv (cxC X scope own js C s2 H2 fp (X.pn ++ pins) NoE) [(D, { cls := .type "list", data := .seq (its : List Value).toArray k })] (cσ own.length js σ) H' s8 ∧ tn i s8.heap ∧ (∀ b ∈ fp, H' b = none) ∧ W i m' ys H' ∧ Vals ys its ∧ ys.length ≤ sizeLine :=
        fun {s8 H8 m' ys' its' k'} J zD nD kf fr w' rv' hz' => by
          obtain ⟨m, hm, _⟩ := J.loc
          exact ⟨i + 1, ys', its', k', H8, start J.os J.bare J.base hm J.hok J.free zD nD (nocell _ _), T.keep _ _ _ st5 kf, fr, w', rv', hz'⟩
      cases b with
      | false =>
        rw [if_neg Bool.false_ne_true]
        rw [if_neg Bool.false_ne_true] at q7
        obtain ⟨m', hm', w'⟩ := hN _ _ q7
        have pD := I7.pin (D, _) (List.mem_append_right _ (List.mem_append_left _ List.mem_cons_self))
        refine ⟨m', hm', back (I7.pins_of (pins' := []) fun p hp => nomatch hp) pD.1 pD.2.1 (fun b hb o e => (I7.pin (b, o) (List.mem_append_right _ (List.mem_append_right _ (mem_pinsAt hb e)))).1) (fun b hb => ?_) w' rv hz⟩
        obtain ⟨o, e, _⟩ := T.obj _ _ st5 b hb
        exact (I7.pin (b, o) (List.mem_append_right _ (List.mem_append_right _ (mem_pinsAt hb e)))).2.1
      | true =>
        rw [if_pos rfl]
        rw [if_pos rfl] at q7
        refine wpAny_mono (he _ _ _ _ _ _ s7 σ6 H7 _ I7 q7) (fun yv s8 ⟨y, H8, I8, r8, q8⟩ => ?_) fun _ _ f => f.elim
        obtain ⟨m', hm', w'⟩ := hN _ _ q8
        have pD := I8.pin (D, _) (List.mem_append_right _ (List.mem_append_left _ List.mem_cons_self))
        refine append_at (hsz := by rw [List.size_toArray, ← rv.length]; exact hz) pD.1 fun h9 sb9 z9 => ?_
        have I8' : Inv (cxC X scope own js C s2 H2 fp (X.pn ++ pins) NoE) [] σ6 H8 s8 := I8.pins_of fun p hp => nomatch hp
        have I9 : Inv (cxC X scope own js C s2 H2 fp (X.pn ++ pins) NoE) [] σ6 H8 { s8 with heap := h9 } := I8'.turned (t' := s8.toks) (it := D) (fun b o hb e => (sb9.2 b hb).trans e) pD.2.1 hDC (.inr (by show s2.heap.objs.size ≤ D; rw [hDe]; exact Nat.le_refl _))
          (fun x c e => Nat.ne_of_lt (cellLt x c (ok.sub I2 e))) fun p hp => by
            rcases List.mem_append.mp hp with h | h
            · exact Nat.ne_of_lt (pinLt p h)
            · cases h
        refine ⟨m', hm', back (its' := its ++ [yv]) (k' := k + 1) I9 (by rw [z9]; simp) pD.2.1 (fun b hb o e => (sb9.2 b (fD b hb).1).trans (I8.pin (b, o) (List.mem_append_right _ (List.mem_append_right _ (mem_pinsAt hb e)))).1) (fun b hb => ?_) w' (rv.append (.cons r8 .nil)) (by simp; omega)⟩
        obtain ⟨o, e, _⟩ := T.obj _ _ st5 b hb
        exact (I8.pin (b, o) (List.mem_append_right _ (List.mem_append_right _ (mem_pinsAt hb e)))).2.1
  exact codeAny_compStart_list (loop _ rfl) (T.self X.A 0 _ _ _ (T.keep _ _ _ st2 (fun b _ o e => old b o e)) (loop _ rfl))
theorem pe_comp (hc : X.calm = true) (hi : PI X tg iter wi) (ok : CompOk X scope js)
    (hg : ∀ C s H ex pn, PG (cxC X scope own js C s H ex pn NoE) tg g) (ht : ∀ C s H ex pn, PTs (cxC X scope own js C s H ex pn NoE) ifs tt) (he : ∀ C s H ex pn, PE (cxC X scope own js C s H ex pn NoE) elt te)
    (hs : ∀ x, foldedSetIterable iter X.env x = pure x := by intro _; rfl) : PE X (.ListComp elt [⟨tg, iter, ifs, 0⟩] scope pos) (tComp own.length js wi g tt te) := by
  intro pins s σ H Q I h
  rw [eval_ListComp]
  refine wpAny_comprehension_free (use := none) rfl hs (closureFor_ok (ok.clos I)) ok.kind ok.names (thn (hi pins s σ H _ I h) fun v s1 h1 => thn h1 fun itv s2 h2 => ?_)
  obtain ⟨it, fp, tn, J, H2, e, I2, T, st2, f2, W, ⟨m0, w0⟩, turn⟩ := h2
  subst e
  refine comp_block (RR := fun acc C => compPost (model X.prog X.w) X.A X.xe none (EP X pins σ Q) acc C) hc ok hg ht he I2 T st2 f2 w0 turn ?_
  intro D C s' H' ys m q nD I6 hm o nC
  exact ⟨m, hm, fun h' sb => ⟨.ref D, _, o.go I6 nC sb, rfl, q D nD⟩⟩
end
end L2
namespace L2
open PySem PySem.Spec PyProof.Rows
def ItR (X : Cx) (tg : Expr) (r : V → Hp → (It → Hp → Prop) → Prop) : Prop :=
  ∀ (pins : List (Addr × Obj)) (s : Shared) (σ : St) (H : Hp) (x : V) (v : Value) (R : It → Hp → Prop), Inv X pins σ H s → RelV x v → r x H R →
    wpAny (model X.prog X.w) X.A (pyIter v) (PIE X pins σ tg R) X.xe s
def Its (z : Str) : It := ⟨fun i _ => i < z.length, fun i H x H' => H' = H ∧ ∃ c, z.cps[i]? = some c ∧ x = .str ⟨#[c]⟩, fun i _ => i = z.length⟩
theorem walks_str {P : Program} {w : World} {A : Around} (hh : A.handled = none) (I : Addr) (z : Str) (t : Tok) {ty : String} (hty : ty = "str_ascii_iterator" ∨ ty = "str_iterator") :
    Walks P w A I [I] [I] z.cps.size (SignAt z) (fun i h => h.IsStrIter I ty z t i) := by
  rcases hty with e | e
  · subst e; exact Walks.strAscii hh I z t
  · subst e; exact Walks.strWide hh I z t
theorem turn_str {P : Program} {w : World} {K : PySem.W.Frag} {tg : Expr} (z : Str) (t : Tok) (it : Addr) {ty : String} (hty : ty = "str_ascii_iterator" ∨ ty = "str_iterator") :
    Turn P w K tg (Its z) [it] it (fun i h => h.IsStrIter it ty z t i) where
  mem := by simp
  obj := fun i h st b hb => by
    have e : b = it := by simpa using hb
    subst e
    obtain ⟨o, e, c, d⟩ := st
    exact ⟨o, e, fun v z => by rw [d] at z; cases z⟩
  keep := fun i h h' st k => by
    obtain ⟨o, e, r⟩ := st
    exact ⟨o, k it (by simp) o e, r⟩
  item := by
    intro X hP hw hK hc i pins s σ H E I hf st hg
    subst hP hw hK
    obtain ⟨f0, f1, f2, f3, f4, f5⟩ := hf it (by simp)
    refine (walks_str (I.ok.hd hc) it z t hty).item i s _ _ hg st fun v h' tk hv st' kk => ?_
    obtain ⟨c, u, hcz, rfl⟩ := hv
    have I1 : Inv X pins σ H { s with heap := h', toks := tk } := I.turned (fun b o hb e => kk b o (by simpa using hb) e) f0 f1 f3 f4 f5
    obtain ⟨o, e, cl, d⟩ := id st'
    refine ⟨_, rfl, go_of (s := { s with heap := h', toks := tk }) (n := ty) e cl d (by rcases hty with q | q <;> (subst q; decide)) ⟨.str ⟨#[c]⟩, H, I1, ⟨u, rfl⟩, ⟨rfl, c, hcz, rfl⟩, st', fun b hb => (hf b hb).1⟩⟩
  done := by
    intro X hP hw hK hc i pins s σ H E I hf st hg
    subst hP hw hK
    obtain ⟨f0, f1, f2, f3, f4, f5⟩ := hf it (by simp)
    have e : i = z.length := hg
    subst e
    exact (walks_str (I.ok.hd hc) it z t hty).done s _ _ st fun h' tk kk => ⟨rfl, I.turned (fun b o hb e => kk b o (by simpa using hb) e) f0 f1 f3 f4 f5⟩
  self := fun A i s Q E st h => by
    rcases hty with e | e
    · subst e; exact wpAny_pyIter_striter_ascii st h
    · subst e; exact wpAny_pyIter_striter_wide st h
section
variable {X : Cx} {tg : Expr}
theorem ItR.or {r r' : V → Hp → (It → Hp → Prop) → Prop} (h : ItR X tg r) (h' : ItR X tg r') : ItR X tg (fun x H R => r x H R ∨ r' x H R) := by
  intro pins s σ H x v R I rx q
  rcases q with q | q
  · exact h pins s σ H x v R I rx q
  · exact h' pins s σ H x v R I rx q
theorem it_list : ItR X tg (fun x H R => ∃ a, x = .ref a ∧ (∃ xs, SqL X.K H a xs) ∧ R (Itl X.K a) H) := by
  intro pins s1 σ H1 x v R I1 r1 q1
  obtain ⟨a, e, ⟨xs, hq⟩, q⟩ := q1
  subst e
  cases r1
  obtain ⟨its, rv, p, hz⟩ := I1.list hq
  refine wpAny_pyIter_list p.isList ?_
  refine ⟨s1.heap.objs.size, [s1.heap.objs.size], _, _, H1, rfl, I1.kept (t' := s1.toks) fun b o e => Heap.get?_push_of_some _ e, turn_list a _, ⟨_, Heap.get?_push_size _ rfl, rfl, rfl⟩, fun b hb => ?_, q⟩
  have e : b = s1.heap.objs.size := by simpa using hb
  subst e
  exact I1.fpOk (Nat.le_refl _) (I1.hok.fresh (Nat.le_refl _))
theorem it_tup : ItR X tg (fun x H R => ∃ a, x = .ref a ∧ (∃ xs, SqT X.K H a xs) ∧ R (Itt X.K a) H) := by
  intro pins s1 σ H1 x v R I1 r1 q1
  obtain ⟨a, e, ⟨xs, hq⟩, q⟩ := q1
  subst e
  cases r1
  obtain ⟨its, rv, p, hz⟩ := I1.tuple hq
  refine wpAny_pyIter_tuple (show s1.heap.IsTuple a its.toArray from p) ?_
  refine ⟨s1.heap.objs.size, [s1.heap.objs.size], _, _, H1, rfl, I1.kept (t' := s1.toks) fun b o e => Heap.get?_push_of_some _ e, turn_tuple a _, ⟨_, Heap.get?_push_size _ rfl, rfl, rfl⟩, fun b hb => ?_, q⟩
  have e : b = s1.heap.objs.size := by simpa using hb
  subst e
  exact I1.fpOk (Nat.le_refl _) (I1.hok.fresh (Nat.le_refl _))
theorem it_str : ItR X tg (fun x H R => ∃ z, x = .str z ∧ R (Its z) H) := by
  intro pins s1 σ H1 x v R I1 r1 q1
  obtain ⟨z, e, q⟩ := q1
  subst e
  obtain ⟨t, rfl⟩ := r1
  have fin : ∀ (o : Obj) (ty : String), (ty = "str_ascii_iterator" ∨ ty = "str_iterator") → (s1.heap.push o).IsStrIter s1.heap.objs.size ty z t 0 → PIE X pins σ tg R (.ref s1.heap.objs.size) { s1 with heap := s1.heap.push o } := fun o ty hty st => by
    refine ⟨s1.heap.objs.size, [s1.heap.objs.size], _, _, H1, rfl, I1.kept (t' := s1.toks) fun b o e => Heap.get?_push_of_some _ e, turn_str z t _ hty, st, fun b hb => ?_, q⟩
    have e : b = s1.heap.objs.size := by simpa using hb
    subst e
    exact I1.fpOk (Nat.le_refl _) (I1.hok.fresh (Nat.le_refl _))
  cases ha : z.cps.all (· < 128)
  · exact wpAny_pyIter_wide ha (fin _ _ (.inr rfl) ⟨_, Heap.get?_push_size _ rfl, rfl, rfl⟩)
  · exact wpAny_pyIter_ascii ha (fin _ _ (.inl rfl) ⟨_, Heap.get?_push_size _ rfl, rfl, rfl⟩)
def rIt (K : PySem.W.Frag) : V → Hp → (It → Hp → Prop) → Prop := fun x H R => (∃ a, x = .ref a ∧ (∃ xs, SqL K H a xs) ∧ R (Itl K a) H) ∨ (∃ a, x = .ref a ∧ (∃ xs, SqT K H a xs) ∧ R (Itt K a) H) ∨ ∃ z, x = .str z ∧ R (Its z) H
theorem itA : ItR X tg (rIt X.K) := it_list.or (it_tup.or it_str)
def iBy (r : V → Hp → (It → Hp → Prop) → Prop) (tl : TE) : TI := fun σ H R => tl σ H fun x H1 => r x H1 R
theorem pi_by {l : Expr} {tl : TE} {r : V → Hp → (It → Hp → Prop) → Prop} (hr : ItR X tg r) (hl : PE X l tl) : PI X tg l (iBy r tl) := by
  intro pins s σ H R I h
  exact thn (hl pins s σ H _ I h) fun v s1 ⟨x, H1, I1, r1, q1⟩ => hr pins s1 σ H1 x v R I1 r1 q1
theorem pi_any {l : Expr} {tl : TE} (hl : PE X l tl) : PI X tg l (iBy (rIt X.K) tl) := pi_by itA hl
theorem rIt_lst {K : PySem.W.Frag} {H : Hp} {a : Addr} {xs : List V} {R : It → Hp → Prop} (h : SqL K H a xs) (q : R (Itl K a) H) : rIt K (.ref a) H R := .inl ⟨a, rfl, ⟨xs, h⟩, q⟩
theorem rIt_str {K : PySem.W.Frag} {H : Hp} {z : Str} {R : It → Hp → Prop} (q : R (Its z) H) : rIt K (.str z) H R := .inr (.inr ⟨z, rfl, q⟩)
end
theorem for_str {z : Str} {g : TG} {tb : TS} {D : Ends} {σ : St} {H : Hp} (Pv : Nat → St → Hp → Prop) (h0 : Pv 0 σ H)
    (hs : ∀ i c σ H, z.cps.toList[i]? = some c → Pv i σ H → g (.str ⟨#[c]⟩) σ H fun σ2 H2 => tb { D with nx := Pv (i + 1), ct := Pv (i + 1), bk := D.nx } σ2 H2) (hd : ∀ σ H, Pv z.length σ H → D.nx σ H) :
    ∃ W : Nat → Nat → St → Hp → Prop, (∃ m, W 0 m σ H) ∧ ∀ i m σ H, W i m σ H →
      ((Its z).stop i H ∧ D.nx σ H) ∨ ((Its z).go i H ∧ ∃ N : St → Hp → Prop, (∀ σ' H', N σ' H' → ∃ m', m' < m ∧ W (i + 1) m' σ' H') ∧ ∀ x H', (Its z).yld i H x H' → g x σ H' fun σ2 H2 => tb { D with nx := N, ct := N, bk := D.nx } σ2 H2) := by
  refine ⟨fun i m σ H => m = z.length - i ∧ i ≤ z.length ∧ Pv i σ H, ⟨z.length, by simp, Nat.zero_le _, h0⟩, ?_⟩
  rintro i m σ H ⟨rfl, hi, p⟩
  by_cases hlt : i < z.length
  · refine .inr ⟨hlt, Pv (i + 1), fun σ' H' p' => ⟨z.length - (i + 1), by omega, rfl, hlt, p'⟩, fun x H' y => ?_⟩
    obtain ⟨e, c, hc, e2⟩ := y
    subst e e2
    exact hs i c σ _ (by simpa using hc) p
  · have e : i = z.length := by omega
    subst e
    exact .inl ⟨rfl, hd σ H p⟩
section
variable {n : Nat} {js : List Nat} {g : TG} {tt : TT} {te : TE} {σ : St} {H : Hp} {F : List V → Hp → Prop}
abbrev CompW (J : It) (n : Nat) (js : List Nat) (g : TG) (tt : TT) (te : TE) (σ : St) (H : Hp) (F : List V → Hp → Prop) : Prop :=
  ∃ W : Nat → Nat → List V → Hp → Prop, (∃ m, W 0 m [] H) ∧ ∀ i m ys H, W i m ys H → (J.stop i H ∧ F ys H) ∨
    (J.go i H ∧ ys.length < sizeLine ∧ ∃ N : List V → Hp → Prop, (∀ ys' H', N ys' H' → ∃ m', m' < m ∧ W (i + 1) m' ys' H') ∧ ∀ x H', J.yld i H x H' → g x (cσ n js σ) H' fun σ2 H2 => tt σ2 H2 fun b H3 => if b = true then te σ2 H3 fun y H4 => N (ys ++ [y]) H4 else N ys H3)
abbrev cTurn (n : Nat) (js : List Nat) (g : TG) (tt : TT) (te : TE) (σ : St) (x : V) (ys : List V) (H : Hp) (N : List V → Hp → Prop) : Prop :=
  g x (cσ n js σ) H fun σ2 H2 => tt σ2 H2 fun b H3 => if b = true then te σ2 H3 fun y H4 => N (ys ++ [y]) H4 else N ys H3
theorem comp_range {lo : Int} {k : Nat} (Pv : Nat → List V → Hp → Prop) (hk : k ≤ sizeLine) (h0 : Pv 0 [] H) (hn : ∀ i ys H, Pv i ys H → ys.length ≤ i)
    (hs : ∀ i ys H, i < k → Pv i ys H → cTurn n js g tt te σ (.int (lo + i)) ys H (Pv (i + 1))) (hd : ∀ ys H, Pv k ys H → F ys H) : CompW (Itr lo k) n js g tt te σ H F := by
  refine ⟨fun i m ys H => m = k - i ∧ i ≤ k ∧ Pv i ys H, ⟨k, by simp, Nat.zero_le _, h0⟩, ?_⟩
  rintro i m ys H ⟨rfl, hi, p⟩
  by_cases hlt : i < k
  · refine .inr ⟨hlt, Nat.lt_of_le_of_lt (hn i ys H p) (Nat.lt_of_lt_of_le hlt hk), Pv (i + 1), fun σ' H' p' => ⟨k - (i + 1), by omega, rfl, hlt, p'⟩, fun x H' y => ?_⟩
    obtain ⟨e, y⟩ := y
    subst e y
    exact hs i ys _ hlt p
  · have e : i = k := by omega
    subst e
    exact .inl ⟨Nat.le_refl _, hd ys H p⟩
theorem comp_list {K : PySem.W.Frag} {a : Addr} {xs : List V} (Pv : Nat → List V → Hp → Prop) (hk : xs.length ≤ sizeLine) (h0 : Pv 0 [] H) (hn : ∀ i ys H, Pv i ys H → ys.length ≤ i) (hl : ∀ i ys H, Pv i ys H → SqL K H a xs)
    (hs : ∀ i x ys H, xs[i]? = some x → Pv i ys H → cTurn n js g tt te σ x ys H (Pv (i + 1))) (hd : ∀ ys H, Pv xs.length ys H → F ys H) : CompW (Itl K a) n js g tt te σ H F := by
  refine ⟨fun i m ys H => m = xs.length - i ∧ i ≤ xs.length ∧ Pv i ys H, ⟨xs.length, by simp, Nat.zero_le _, h0⟩, ?_⟩
  rintro i m ys H ⟨rfl, hi, p⟩
  have q := hl i ys H p
  by_cases hlt : i < xs.length
  · refine .inr ⟨⟨xs, xs[i], q, by simp [hlt]⟩, Nat.lt_of_le_of_lt (hn i ys H p) (Nat.lt_of_lt_of_le hlt hk), Pv (i + 1), fun σ' H' p' => ⟨xs.length - (i + 1), by omega, rfl, hlt, p'⟩, fun x H' y => ?_⟩
    obtain ⟨e, y⟩ := y
    subst e
    exact hs i x ys _ (y xs q) p
  · have e : i = xs.length := by omega
    subst e
    exact .inl ⟨⟨xs, q, Nat.le_refl _⟩, hd ys H p⟩
theorem comp_str {z : Str} (Pv : Nat → List V → Hp → Prop) (hk : z.length ≤ sizeLine) (h0 : Pv 0 [] H) (hn : ∀ i ys H, Pv i ys H → ys.length ≤ i)
    (hs : ∀ i c ys H, z.cps.toList[i]? = some c → Pv i ys H → cTurn n js g tt te σ (.str ⟨#[c]⟩) ys H (Pv (i + 1))) (hd : ∀ ys H, Pv z.length ys H → F ys H) : CompW (Its z) n js g tt te σ H F := by
  refine ⟨fun i m ys H => m = z.length - i ∧ i ≤ z.length ∧ Pv i ys H, ⟨z.length, by simp, Nat.zero_le _, h0⟩, ?_⟩
  rintro i m ys H ⟨rfl, hi, p⟩
  by_cases hlt : i < z.length
  · refine .inr ⟨hlt, Nat.lt_of_le_of_lt (hn i ys H p) (Nat.lt_of_lt_of_le hlt hk), Pv (i + 1), fun σ' H' p' => ⟨z.length - (i + 1), by omega, rfl, hlt, p'⟩, fun x H' y => ?_⟩
    obtain ⟨e, c, hc, e2⟩ := y
    subst e e2
    exact hs i c ys _ (by simpa using hc) p
  · have e : i = z.length := by omega
    subst e
    exact .inl ⟨rfl, hd ys H p⟩
end
theorem size_glue (xs : Array Nat) : ∀ (n : Nat) (acc : Array Nat), ((List.replicate n xs).foldl (· ++ ·) acc).size = acc.size + n * xs.size
  | 0, acc => by simp
  | n + 1, acc => by
    rw [List.replicate_succ, List.foldl_cons, size_glue xs n, Array.size_append, Nat.succ_mul]
    omega
theorem glue_list (xs : Array Nat) : ∀ (n : Nat) (acc : Array Nat), ((List.replicate n xs).foldl (· ++ ·) acc).toList = acc.toList ++ (List.replicate n xs.toList).flatten
  | 0, acc => by simp
  | n + 1, acc => by
    rw [List.replicate_succ, List.foldl_cons, glue_list xs n, List.replicate_succ, List.flatten_cons, Array.toList_append, List.append_assoc]
def repS (z : Str) (k : Int) : Str := if k < 1 then Str.empty else if (k == 1 || z.length == 0) = true then z else ⟨(List.replicate k.toNat z.cps).foldl (· ++ ·) #[]⟩
theorem repS_codes (z : Str) (k : Int) : (repS z k).cps.toList = (List.replicate k.toNat z.cps.toList).flatten := by
  unfold repS
  split
  · have e : k.toNat = 0 := by omega
    rw [e]; rfl
  · split
    · rename_i h1 h2
      rw [Bool.or_eq_true] at h2
      rcases h2 with h2 | h2
      · have e : k = 1 := by simpa using h2
        subst e
        simp
      · have e : z.cps.size = 0 := by simpa [Str.length] using h2
        have e2 : z.cps.toList = [] := by
          rw [← List.length_eq_zero_iff]
          simpa using e
        rw [e2]
        simp
    · simpa using glue_list z.cps k.toNat #[]
theorem repS_length (z : Str) (k : Int) : (repS z k).length = k.toNat * z.length := by
  have e : (repS z k).length = (repS z k).cps.toList.length := by simp [Str.length]
  rw [e, repS_codes, len_rep]
  simp [Str.length]
section
variable {X : Cx} {a b c : Expr} {ta tb tc : TE} {pos : Pos}
theorem op_mulB : OpR X (binaryOp .Mult) (rI IntMulOk fun i j => .int (i * j)) := opI fun _ _ _ _ _ _ _ hc q => mul_int q hc
theorem op_mul_str : OpR X (binaryOp .Mult) (fun x y H Q => ∃ z k, x = .str z ∧ y = .int k ∧ (-1000000 ≤ k ∧ k ≤ 1000000 ∧ z.length ≤ 16) ∧ Q (.str (repS z k)) H) := by
  intro pins s σ H x y v u Q I rx ry h
  obtain ⟨z, k, rfl, rfl, ⟨h2, h1, h3⟩, q⟩ := h
  obtain ⟨t, rfl⟩ := rx
  obtain ⟨t', rfl⟩ := ry
  have hs : sizeLine = 16777216 := sizeLine_eq
  have hl := repS_length z k
  have hb : z.length * k.toNat ≤ 16 * 1000000 := Nat.mul_le_mul h3 (by omega)
  rw [Nat.mul_comm] at hl
  have fin : ∀ t' tk, EP X pins σ Q (.str (repS z k) t') { s with toks := tk } := fun t' tk => ⟨.str _, H, I.tok _, ⟨t', rfl⟩, q⟩
  refine P.mul_str ?_ (fun h4 h5 => ?_) (fun h4 h5 => ?_) ?_
  · have e1 : ¬ k < -(2 ^ 63 : Int) := by omega
    have e2 : ¬ k ≥ 2 ^ 63 := by omega
    rw [decide_eq_false e1, decide_eq_false e2]; rfl
  · have h6 : (16 : Int) ≤ (2 ^ 63 - 1) / k := by
      rw [Int.le_ediv_iff_mul_le (by omega)]
      omega
    omega
  · unfold Builtin.Str.tooLong
    exact decide_eq_false (by omega)
  · unfold repS at fin hl
    by_cases h4 : k < 1
    · rw [if_pos h4] at fin ⊢
      exact ⟨by decide, fin _ _⟩
    · rw [if_neg h4] at fin hl ⊢
      by_cases h5 : (k == 1 || z.length == 0) = true
      · rw [if_pos h5] at fin ⊢
        exact fin t s.toks
      · rw [if_neg h5] at fin hl ⊢
        exact ⟨by omega, fin _ _⟩
def rMulA : R2 := fun x y H Q => rI IntMulOk (fun i j => .int (i * j)) x y H Q ∨ (∃ z k, x = .str z ∧ y = .int k ∧ (-1000000 ≤ k ∧ k ≤ 1000000 ∧ z.length ≤ 16) ∧ Q (.str (repS z k)) H) ∨ rRep x y H Q
theorem opMul : OpR X (binaryOp .Mult) rMulA := op_mulB.or (op_mul_str.or op_rep)
theorem rMulA_ii {i j : Int} {H : Hp} {Q : VK} : rMulA (.int i) (.int j) H Q ↔ IntMulOk i j ∧ Q (.int (i * j)) H := by
  simp [rMulA, rI, rRep]
theorem rMulA_si {z : Str} {j : Int} {H : Hp} {Q : VK} : rMulA (.str z) (.int j) H Q ↔ (-1000000 ≤ j ∧ j ≤ 1000000 ∧ z.length ≤ 16) ∧ Q (.str (repS z j)) H := by
  simp [rMulA, rI, rRep]
def rAddA (K : PySem.W.Frag) : R2 := fun x y H Q => rI0 (fun i j => .int (i + j)) x y H Q ∨ (∃ i j, x = .str i ∧ y = .str j ∧ i.length + j.length ≤ sizeLine ∧ Q (.str (i ++ j)) H) ∨ rCat x y H Q ∨ rCatT K x y H Q
theorem opAdd : OpR X (binaryOp .Add) (rAddA X.K) := op_add.or (op_add_str.or (op_cat.or op_catT))
theorem rAddA_ii {K : PySem.W.Frag} {i j : Int} {H : Hp} {Q : VK} : rAddA K (.int i) (.int j) H Q ↔ Q (.int (i + j)) H := by
  simp [rAddA, rI0, rCat, rCatT]
theorem rAddA_ss {K : PySem.W.Frag} {i j : Str} {H : Hp} {Q : VK} : rAddA K (.str i) (.str j) H Q ↔ i.length + j.length ≤ sizeLine ∧ Q (.str (i ++ j)) H := by
  simp [rAddA, rI0, rCat, rCatT]
theorem rAddA_ll {K : PySem.W.Frag} {l b : Addr} {xs zs : List V} {H : Hp} {Q : VK} (h1 : H l = some (.lst xs)) (h2 : H b = some (.lst zs)) (hz : xs.length + zs.length ≤ sizeLine) (q : ∀ p, H p = none → Q (.ref p) (upd H p (.lst (xs ++ zs)))) : rAddA K (.ref l) (.ref b) H Q :=
  .inr (.inr (.inl ⟨l, b, xs, zs, rfl, rfl, h1, h2, hz, q⟩))
def rSlS : V → Option Int → Option Int → Hp → VK → Prop := fun x lo hi H Q => ∃ z, x = .str z ∧ z.length ≤ sizeLine ∧ Q (.str (Txt.slice z lo hi)) H
theorem sl_str : SlR X rSlS := by
  intro pins s σ H x v vl vu lo hi sl Q I rx hs pl pu h
  obtain ⟨z, rfl, hz, q⟩ := h
  obtain ⟨t, rfl⟩ := rx
  have fin : ∀ t' tk, EP X pins σ Q (.str (Txt.slice z lo hi) t') { s with toks := tk } := fun t' tk => ⟨.str _, H, I.tok _, ⟨t', rfl⟩, q⟩
  refine ⟨"str", _, F.slot_str_getitem.lookup, typeIs_str _ _ _, ?_⟩
  cases pl with
  | none => cases pu with
    | none => exact wpAny_getItem_str_slice (l := none) (u := none) (st := none) hs rfl (post_val_or_str ⟨Nat.le_trans (Txt.slice_le z _ _) hz, fun t' k => fin t' k⟩)
    | int j u => exact wpAny_getItem_str_slice (l := none) (u := some (j, u)) (st := none) hs rfl (post_val_or_str ⟨Nat.le_trans (Txt.slice_le z _ _) hz, fun t' k => fin t' k⟩)
  | int i u => cases pu with
    | none => exact wpAny_getItem_str_slice (l := some (i, u)) (u := none) (st := none) hs rfl (post_val_or_str ⟨Nat.le_trans (Txt.slice_le z _ _) hz, fun t' k => fin t' k⟩)
    | int j u' => exact wpAny_getItem_str_slice (l := some (i, u)) (u := some (j, u')) (st := none) hs rfl (post_val_or_str ⟨Nat.le_trans (Txt.slice_le z _ _) hz, fun t' k => fin t' k⟩)
def rSlA (K : PySem.W.Frag) : V → Option Int → Option Int → Hp → VK → Prop := fun x lo hi H Q => rSlL K x lo hi H Q ∨ rSlT K x lo hi H Q ∨ rSlS x lo hi H Q
theorem slA : SlR X (rSlA X.K) := sl_list.or (sl_tup.or sl_str)
theorem rSlA_s {K : PySem.W.Frag} {z : Str} {lo hi : Option Int} {H : Hp} {Q : VK} : rSlA K (.str z) lo hi H Q ↔ z.length ≤ sizeLine ∧ Q (.str (Txt.slice z lo hi)) H := by
  simp [rSlA, rSlL, rSlT, rSlS]
theorem rSlA_l {K : PySem.W.Frag} {a : Addr} {xs : List V} {lo hi : Option Int} {H : Hp} {Q : VK} (h : SqL K H a xs) (q : ∀ p, H p = none → Q (.ref p) (upd H p (.lst (cutV xs lo hi)))) : rSlA K (.ref a) lo hi H Q := .inl ⟨a, xs, rfl, h, q⟩
theorem ixA : IxR X (rIx X.K) := ix_seq
theorem rIx_s {K : PySem.W.Frag} {z : Str} {i : Int} {H : Hp} {Q : VK} : rIx K (.str z) (.int i) H Q ↔ z.length ≤ sizeLine ∧ ∃ c, atI z.cps.toList i = some c ∧ Q (.str ⟨#[c]⟩) H := by
  simp [rIx, rIxL, rIxT, rIxS]
theorem rIx_l {K : PySem.W.Frag} {p : Addr} {xs : List V} {i : Int} {v : V} {H : Hp} {Q : VK} (h : SqL K H p xs) (hv : atI xs i = some v) (q : Q v H) : rIx K (.ref p) (.int i) H Q := .inl ⟨p, xs, i, v, rfl, rfl, h, hv, q⟩
theorem rIx_t {K : PySem.W.Frag} {p : Addr} {xs : List V} {i : Int} {v : V} {H : Hp} {Q : VK} (h : SqT K H p xs) (hv : atI xs i = some v) (q : Q v H) : rIx K (.ref p) (.int i) H Q := .inr (.inl ⟨p, xs, i, v, rfl, rfl, h, hv, q⟩)
theorem opEq : OpR X (compareOp .Eq) rEq := op_eq
theorem opNe : OpR X (compareOp .NotEq) rNe := op_ne
theorem opLt : OpR X (compareOp .Lt) (rI0 fun i j => .bl (decide (i < j))) := op_lt
theorem rEq_ii {i j : Int} {H : Hp} {Q : VK} : rEq (.int i) (.int j) H Q ↔ Q (.bl (decide (i = j))) H := by simp [rEq, scal]
theorem rNe_ii {i j : Int} {H : Hp} {Q : VK} : rNe (.int i) (.int j) H Q ↔ Q (.bl (!decide (i = j))) H := by simp [rNe, scal]
theorem rEq_ss {i j : Str} {H : Hp} {Q : VK} : rEq (.str i) (.str j) H Q ↔ Q (.bl (decide (i = j))) H := by simp [rEq, scal]
theorem rNe_ss {i j : Str} {H : Hp} {Q : VK} : rNe (.str i) (.str j) H Q ↔ Q (.bl (!decide (i = j))) H := by simp [rNe, scal]
theorem rEq_bb {i j : Bool} {H : Hp} {Q : VK} : rEq (.bl i) (.bl j) H Q ↔ Q (.bl (decide (i = j))) H := by simp [rEq, scal]
theorem rNe_bb {i j : Bool} {H : Hp} {Q : VK} : rNe (.bl i) (.bl j) H Q ↔ Q (.bl (!decide (i = j))) H := by simp [rNe, scal]
def rInA (K : PySem.W.Frag) : R2 := fun x y H Q => (∃ i j, x = .str i ∧ y = .str j ∧ Q (.bl (!(Builtin.Str.occurrences j i 0 j.length 1).isEmpty)) H) ∨ rIn K false x y H Q
def rNotInA (K : PySem.W.Frag) : R2 := fun x y H Q => (∃ i j, x = .str i ∧ y = .str j ∧ Q (.bl (!(!(Builtin.Str.occurrences j i 0 j.length 1).isEmpty))) H) ∨ rIn K true x y H Q
theorem opIn : OpR X (compareOp .In) (rInA X.K) := op_in_str.or op_in_seq
theorem opNotIn : OpR X (compareOp .NotIn) (rNotInA X.K) := op_notin_str.or op_notIn_seq
theorem rInA_c {K : PySem.W.Frag} {c : Nat} {z : Str} {H : Hp} {Q : VK} : rInA K (.str ⟨#[c]⟩) (.str z) H Q ↔ Q (.bl (decide (c ∈ z.cps.toList))) H := by
  simp [rInA, rIn, StrLaws.found_one]
theorem rNotInA_c {K : PySem.W.Frag} {c : Nat} {z : Str} {H : Hp} {Q : VK} : rNotInA K (.str ⟨#[c]⟩) (.str z) H Q ↔ Q (.bl (!decide (c ∈ z.cps.toList))) H := by
  have e' : (Builtin.Str.occurrences z ⟨#[c]⟩ 0 z.length 1).isEmpty = !decide (c ∈ z.cps.toList) := by
    rw [← StrLaws.found_one z c, Bool.not_not]
  simp [rNotInA, rIn, e']
theorem call_lenA : CallR X (.builtin "len") (fun xs H Q => (∃ z, xs = [.str z] ∧ z.length ≤ sizeLine ∧ Q (.int z.length) H) ∨ ∃ p ys, xs = [.ref p] ∧ (SqL X.K H p ys ∨ SqT X.K H p ys) ∧ Q (.int ys.length) H) := call_len_str.or call_len_seq
theorem call_int_text : CallR X (.type "int") (fun xs H Q => ∃ z n, xs = [.str z] ∧ intText? z = some n ∧ z.length ≤ 640 ∧ Q (.int n) H) := by
  intro pins s σ H xs us Q I r h
  obtain ⟨z, n, rfl, hn, hl, q⟩ := h
  obtain ⟨u, rfl, ru⟩ := vals1 r
  obtain ⟨t, rfl⟩ := ru
  exact PySem.W.KIN.call_text hn hl ⟨.int n, H, I.tok _, ⟨_, rfl⟩, q⟩
theorem call_intA : CallR X (.type "int") (fun xs H Q => (∃ z n, xs = [.str z] ∧ intText? z = some n ∧ z.length ≤ 640 ∧ Q (.int n) H) ∨ ((∃ i, xs = [.int i] ∧ Q (.int i) H) ∨ ∃ k, xs = [.bl k] ∧ Q (.int (if k then 1 else 0)) H)) := call_int_text.or call_int1
theorem mt_startswith : MtR X "str.startswith" (fun x xs H Q => ∃ z y, x = .str z ∧ xs = [.str y] ∧ Q (.bl (Txt.startswith z y)) H) := by
  intro pins s σ H x xs v us Q I rx r h
  obtain ⟨z, y, rfl, rfl, q⟩ := h
  obtain ⟨t, rfl⟩ := rx
  obtain ⟨u, rfl, t', rfl⟩ := vals1 r
  exact SC.startswith ⟨.bl _, H, I, rfl, q⟩
theorem call_isinst : CallR X (.builtin "isinstance") (fun xs H Q => ∃ x n t b, xs = [x, .ty n] ∧ TyOf X.K H x t ∧ PySem.W.kitOne X.K t (.type n) = some b ∧ Q (.bl b) H) := by
  intro pins s σ H xs us Q I r h
  obtain ⟨x, n, t, b, rfl, ty, e, q⟩ := h
  obtain ⟨u, w', rfl, ru, rw'⟩ := vals2 r
  cases rw'
  exact isinst_ok I ru ty e fun tk => ⟨.bl b, H, I.tok _, rfl, q⟩
theorem vals_bools : ∀ {bs : List Bool} {us : List Value}, Vals (bs.map V.bl) us → us = bs.map Value.bool
  | [], _, .nil => rfl
  | b :: bs, _, .cons r t => by
    have e : _ = Value.bool b := r
    rw [List.map_cons, e, vals_bools t]
theorem range_all (bs : List Bool) : (List.range bs.length).all (fun i => bs.getD i true) = bs.all id := by
  induction bs with
  | nil => rfl
  | cons b bs ih =>
    rw [List.length_cons, List.range_succ_eq_map, List.all_cons, List.all_map, List.all_cons, ← ih]
    rfl
theorem call_allA (hc : X.calm = true) : CallR X (.builtin "all") (fun xs H Q => ∃ (p : Addr) (bs : List Bool), xs = [.ref p] ∧ SqL X.K H p (bs.map V.bl) ∧ Q (.bl (bs.all id)) H) := by
  intro pins s σ H xs us Q I r h
  obtain ⟨p, bs, rfl, hq, q⟩ := h
  obtain ⟨u, rfl, ru⟩ := vals1 r
  cases ru
  obtain ⟨its, rv, pl, hz⟩ := I.list hq
  have e := vals_bools rv
  subst e
  have hh : X.A.in1.handled = none := I.ok.hd hc
  refine call_all_walk (wpAny_pyIter_list pl.isList ⟨s.heap.objs.size, [s.heap.objs.size, p], [s.heap.objs.size], _, _, _, fun i => bs.getD i true, rfl, Walks.list hh _ p ?_ _, ⟨⟨_, Heap.get?_push_size _ rfl, rfl, rfl⟩, pl.isList.push _⟩, ?_, fun h' tk hk => ?_⟩)
  · obtain ⟨o, n, e, _⟩ := pl
    exact Nat.ne_of_lt (Heap.lt_size e)
  · intro i v s' Q' E' hv hQ'
    have hv' : (bs.map Value.bool)[i]? = some v := by simpa using hv
    rw [List.getElem?_map] at hv'
    cases hb : bs[i]? with
    | none => rw [hb] at hv'; cases hv'
    | some b =>
      rw [hb] at hv'
      cases hv'
      have hQ2 : Q' (bs.getD i true) s' := hQ'
      rw [List.getD_eq_getElem?_getD, hb] at hQ2
      exact wpAny_truthy_bool hQ2
  · refine ⟨.bl (bs.all id), H, I.kept (h' := h') (t' := tk) fun b o e => hk b o ?_ (Heap.get?_push_of_some _ e), ?_, q⟩
    · intro z
      have z' : b = s.heap.objs.size := by simpa using z
      exact absurd (Heap.lt_size e) (by rw [z']; exact Nat.lt_irrefl _)
    · show Value.bool _ = Value.bool _
      rw [← range_all]
      simp
theorem pe_g {x : Str} {v : V} {pos : Pos} (h : ∃ u, X.mg x = some u ∧ RelV v u) (hg : Gl X x := by rfl) (hd : (x == ("__debug__" : Str)) = false := by decide) : PE X (.Name x pos) (tC v) :=
  let ⟨_, hm, r⟩ := h; pe_glob hg hm r hd
end
structure Def (P : Program) (w : World) (K : PySem.W.Frag) (mg : Str → Option Value) (base : Heap) (x : Str) (k : Nat) (ps : List Str) (sp : Sp) : Prop where
  ex : ∃ (f : Addr) (fd : FuncData), FnOk P w K mg base CX0 k f fd ps sp ∧ mg x = some (.ref f) ∧ PySem.W.keepIn K (.ref f) = true ∧ Binds K fd ps []
section
variable {X : Cx} {k : Nat} {ps : List Str} {sp : Sp} {x : Str} {p pos : Pos} {e : Expr} {es : List Expr} {t : TA}
theorem pe_def (d : Def X.prog X.w X.K X.mg X.base x k ps sp) (hr : Room k X.A) (hg : Gl X x) (ha : PA X (e :: es) t) (hdb : (x == ("__debug__" : Str)) = false := by decide)
    (he : starEach (e :: es) X.env = (false, eval e X.env) :: starEach es X.env := by rfl) (hpl : (backTo pos (starEach es X.env)).any (·.1) = false := by rfl) : PE X (.Call (.Name x p) (e :: es) [] pos) (tCall sp [] E0 t) :=
  let ⟨_, _, F, hm, hk, hb⟩ := d.ex; pe_call F hr hg hm hk hb .nil pass0 ha hdb he hpl
end
end L2
namespace L3
open PySem PySem.Spec PyProof.Rows
section
variable {prog : Program} {w : World} {A : Around} {E : Value → Shared → Prop} {s : Shared}
theorem nextTup_item {it t : Addr} {i : Nat} {its : Array Value} {x : Value} {Q : Value → Shared → Prop} (qi : s.heap.IsTupleIter it t i) (qt : s.heap.IsTuple t its) (qx : its[i]? = some x)
    (hQ : ∀ h', h'.IsTupleIter it t (i + 1) → Heap.SameBut it s.heap h' → Q x { s with heap := h' }) : wpAny (model prog w) A (Builtin.SmallTypes.nextOf (.ref it)) Q E s := by
  obtain ⟨oi, qo, qc, qd⟩ := id qi
  obtain ⟨ot, qot, _, nt, qdt⟩ := qt
  unfold Builtin.SmallTypes.nextOf
  refine wpAny_bind (wpAny_callSpecial?_slot (name := Str.ofString "__next__") qi.typeIs F.slot_tuple_iterator_next (wpAny_call_entry F.slot_tuple_iterator_next qi.typeIs F.entry_tuple_iterator_next ?_ (F.args_tuple_iterator_next_1 _)))
  show wpAny _ _ (field (.ref it) 0 >>= _) _ _ s
  refine wpAny_bind (wpAny_field qo qd (x := .ref t) rfl ?_)
  show wpAny _ _ (if (Value.ref t == Value.none) = true then _ else _) _ _ s; rw [if_neg (show ¬ ((Value.ref t == Value.none) = true) from Bool.false_ne_true)]
  show wpAny _ _ (field (.ref it) 1 >>= _) _ _ s
  refine wpAny_bind (wpAny_field qo qd (x := .int i 0) rfl ?_)
  show wpAny _ _ (seqItems? (.ref t) >>= _) _ _ s; refine wpAny_bind (wpAny_seqItems qot qdt ?_)
  simp only [Int.toNat_natCast, qx]
  refine wpAny_bind (wpAny_setField qo qd (by simp) (wpAny_pure ⟨x, rfl, wpAny_pure (hQ _ ?_ (Heap.SameBut.update ..))⟩))
  exact ⟨_, Heap.get?_update_self _ qo (Obj.isFreed_of_fields (Obj.data_mapFields qd _)), (Obj.cls_mapFields ..).trans qc, by rw [Obj.data_mapFields qd]; simp [rawInt]⟩
theorem nextTup_end {it t : Addr} {i : Nat} {its : Array Value} {Q : Value → Shared → Prop} (hh : A.handled = none) (qi : s.heap.IsTupleIter it t i) (qt : s.heap.IsTuple t its) (qx : its[i]? = none)
    (hE : ∀ h' e, Heap.ExtBut it s.heap h' → (∃ o, h'.get? e = some o ∧ o.cls = .type "StopIteration") → E (.ref e) { s with heap := h' }) : wpAny (model prog w) A (Builtin.SmallTypes.nextOf (.ref it)) Q E s := by
  obtain ⟨oi, qo, qc, qd⟩ := id qi
  obtain ⟨ot, qot, _, nt, qdt⟩ := qt
  unfold Builtin.SmallTypes.nextOf
  refine wpAny_bind (wpAny_callSpecial?_slot (name := Str.ofString "__next__") qi.typeIs F.slot_tuple_iterator_next (wpAny_call_entry F.slot_tuple_iterator_next qi.typeIs F.entry_tuple_iterator_next ?_ (F.args_tuple_iterator_next_1 _)))
  show wpAny _ _ (field (.ref it) 0 >>= _) _ _ s
  refine wpAny_bind (wpAny_field qo qd (x := .ref t) rfl ?_)
  show wpAny _ _ (if (Value.ref t == Value.none) = true then _ else _) _ _ s; rw [if_neg (show ¬ ((Value.ref t == Value.none) = true) from Bool.false_ne_true)]
  show wpAny _ _ (field (.ref it) 1 >>= _) _ _ s
  refine wpAny_bind (wpAny_field qo qd (x := .int i 0) rfl ?_)
  show wpAny _ _ (seqItems? (.ref t) >>= _) _ _ s; refine wpAny_bind (wpAny_seqItems qot qdt ?_)
  simp only [Int.toNat_natCast, qx]
  refine wpAny_bind (wpAny_rule (wpAny_bind (wpAny_setField qo qd (by simp) ?_)))
  show wpAny _ _ (newExc (.type "StopIteration") [] >>= _) _ _ _; refine wpAny_bind ?_; simp only [newExc, newTuple]
  refine wpAny_bind (wpAny_newObj_type ?_ (by size_fits)); refine wpAny_bind (m := firstArgMember _ _) (wpAny_of_eq (a := Value.none) (by first | rfl | (simp only [firstArgMember]; rfl)) ?_)
  refine wpAny_newObj_type ?_ (by size_fits); simp only [raiseNew]; refine wpAny_bind (wpAny_handled ?_)
  first | rw [show A.in1.handled = none from hh] | rw [hh]
  exact wpAny_bind (wpAny_pure (wpAny_throw (hE _ _ (((Heap.SameBut.update ..).extBut.push _).push _) ⟨_, Heap.get?_push_size _ rfl, rfl⟩)))
end
theorem draws_tuple {prog : Program} {w : World} {A : Around} (hh : A.handled = none) (it t : Addr) (hne : t ≠ it) (its : Array Value) :
    Draws prog w A it [it, t] its.size (fun i v => its[i]? = some v) (fun i h => h.IsTupleIter it t i ∧ h.IsTuple t its) where
  live := fun _ _ st => let ⟨o, ho, _⟩ := st.1; ⟨o, ho⟩
  frame := fun _ _ _ st hk => ⟨st.1.at fun o e => hk it (by simp) o e, let ⟨o, ho, r⟩ := st.2; ⟨o, hk t (by simp) o ho, r⟩⟩
  item := fun i s Q E hi st hQ => nextTup_item st.1 st.2 (x := its[i]) (by simp [hi]) fun h' qi qs => hQ _ h' s.toks (by simp [hi]) ⟨qi, st.2.extBut qs.extBut hne⟩ qs
  done := fun s Q E st hE => nextTup_end hh st.1 st.2 (by simp) hE
section
variable {prog : Program} {w : World} {A : Around} {E : Value → Shared → Prop} {s : Shared} {z TI TO i1 i2 : Addr} {f1 f2 : List Addr} {n1 n2 k : Nat} {P1 P2 : Nat → Value → Prop} {S1 S2 : Nat → Heap → Prop} {a b : Value}
theorem far {it c : Addr} {fp : List Addr} {n i : Nat} {P : Nat → Value → Prop} {St : Nat → Heap → Prop} {h h' : Heap} (D : Draws prog w A it fp n P St) (st : St i h) (sb : Heap.SameBut c h h') (hc : c ∉ fp) : St i h' :=
  D.frame i h h' st fun d hd o e => (sb.2 d fun q => hc (q ▸ hd)).trans e
end
def itRec (l : Bool) (a : Addr) : Obj := { cls := .type (if l then "list_iterator" else "tuple_iterator"), data := .fields #[.ref a, .int 0 0] }
def IsSeq (l : Bool) (h : Heap) (a : Addr) (xs : Array Value) : Prop := if l = true then h.IsList a xs else h.IsTuple a xs
theorem IsSeq.push {l : Bool} {h : Heap} {a : Addr} {xs : Array Value} (q : IsSeq l h a xs) (o : Obj) : IsSeq l (h.push o) a xs := by
  cases l
  · exact Heap.IsTuple.push (show h.IsTuple a xs from q) o
  · exact Heap.IsList.push (show h.IsList a xs from q) o
theorem iter_seq {prog : Program} {w : World} {A : Around} {E : Value → Shared → Prop} {s : Shared} {l : Bool} {a : Addr} {xs : Array Value} {Q : Value → Shared → Prop} (q : IsSeq l s.heap a xs) (h : Q (.ref s.heap.objs.size) { s with heap := s.heap.push (itRec l a) }) : wpAny (model prog w) A (pyIter (.ref a)) Q E s := by
  cases l
  · exact wpAny_pyIter_tuple (show s.heap.IsTuple a xs from q) h
  · exact wpAny_pyIter_list (show s.heap.IsList a xs from q) h
section
variable {prog : Program} {w : World} {A : Around} {E : Value → Shared → Prop} {s : Shared}
end
end L3
namespace L2
open PySem PySem.Spec PyProof.Rows
def SqB (K : PySem.W.Frag) (l : Bool) (H : Hp) (a : Addr) (xs : List V) : Prop := if l = true then SqL K H a xs else SqT K H a xs
def ItAt (l : Bool) (h : Heap) (it a : Addr) (i : Nat) : Prop := if l = true then h.IsListIter it a i else h.IsTupleIter it a i
theorem ItAt.at {l : Bool} {h h' : Heap} {it a : Addr} {i : Nat} (x : ItAt l h it a i) (e : ∀ o, h.get? it = some o → h'.get? it = some o) : ItAt l h' it a i := by
  cases l
  · exact Heap.IsTupleIter.at (show h.IsTupleIter it a i from x) e
  · exact Heap.IsListIter.at (show h.IsListIter it a i from x) e
theorem ItAt.rec {l : Bool} {h : Heap} {it a : Addr} (e : h.get? it = some (L3.itRec l a)) : ItAt l h it a 0 := by
  cases l
  · exact ⟨_, e, rfl, rfl⟩
  · exact ⟨_, e, rfl, rfl⟩
theorem ItAt.obj {l : Bool} {h : Heap} {it a : Addr} {i : Nat} (x : ItAt l h it a i) : ∃ o, h.get? it = some o ∧ ∀ v, o.data ≠ .cell v := by
  cases l
  · obtain ⟨o, e, _, d⟩ := (show h.IsTupleIter it a i from x)
    exact ⟨o, e, fun v z => by rw [d] at z; cases z⟩
  · obtain ⟨o, e, _, d⟩ := (show h.IsListIter it a i from x)
    exact ⟨o, e, fun v z => by rw [d] at z; cases z⟩
theorem draws_seq {P : Program} {w : World} {A : Around} (hh : A.handled = none) (l : Bool) (it a : Addr) (hne : a ≠ it) (its : Array Value) :
    Draws P w A it [it, a] its.size (fun i v => its[i]? = some v) (fun i h => ItAt l h it a i ∧ L3.IsSeq l h a its) := by
  cases l
  · exact L3.draws_tuple hh it a hne its
  · exact Draws.list hh it a hne its
theorem Inv.seqB {X : Cx} {pins : List (Addr × Obj)} {σ : St} {H : Hp} {s : Shared} {l : Bool} {a : Addr} {xs : List V} (I : Inv X pins σ H s) (h : SqB X.K l H a xs) : ∃ its : List Value, Vals xs its ∧ L3.IsSeq l s.heap a its.toArray ∧ xs.length ≤ sizeLine := by
  cases l
  · obtain ⟨its, r, p, z⟩ := I.tuple (show SqT X.K H a xs from h)
    exact ⟨its, r, p, z⟩
  · obtain ⟨its, r, p, z⟩ := I.list (show SqL X.K H a xs from h)
    exact ⟨its, r, p.isList, z⟩
theorem Inv.seqB_inj {X : Cx} {pins : List (Addr × Obj)} {σ : St} {H : Hp} {s : Shared} {l : Bool} {a : Addr} {xs ys : List V} (I : Inv X pins σ H s) (h : SqB X.K l H a xs) (h' : SqB X.K l H a ys) : xs = ys := by
  cases l
  · exact I.tuple_inj (show SqT X.K H a xs from h) h'
  · exact I.list_inj (show SqL X.K H a xs from h) h'
theorem Inv.seqB_ne {X : Cx} {pins : List (Addr × Obj)} {σ : St} {H : Hp} {s : Shared} {l : Bool} {a b : Addr} {xs : List V} (I : Inv X pins σ H s) (h : SqB X.K l H a xs) (f : FpOk X pins H b) : a ≠ b := by
  obtain ⟨f0, _, _, f3, _, _⟩ := f
  have tr : ∀ {o : HO}, Rd H a o → a ≠ b := fun {o} r => by
    rcases r with r | ⟨_, r⟩
    · exact ne_of_none r f0
    · exact ne_of_none r f0
  have kb : ∀ {o : Obj}, X.K.lookup a = some o → a ≠ b := fun {o} hk => by
    have hb := I.ok.mod.kin a o hk
    rcases f3 with z | z
    · exact fun q => I.ok.noex a o hb (q ▸ z)
    · exact Nat.ne_of_lt (Nat.lt_of_lt_of_le (Heap.lt_size hb) (Nat.le_trans I.ok.bsz z))
  cases l
  · rcases (show SqT X.K H a xs from h) with h | ⟨o, _, _, hk, _⟩
    · exact tr h
    · exact kb hk
  · rcases (show SqL X.K H a xs from h) with h | ⟨o, _, _, hk, _⟩
    · exact tr h
    · exact kb hk
def Itz (K : PySem.W.Frag) (l1 l2 : Bool) (a1 a2 : Addr) : It :=
  ⟨fun i H => ∃ xs ys x y, SqB K l1 H a1 xs ∧ SqB K l2 H a2 ys ∧ xs[i]? = some x ∧ ys[i]? = some y,
    fun i H v H' => ∃ p x y, v = .ref p ∧ H p = none ∧ H' = upd H p (.tup [x, y]) ∧ (∀ xs, SqB K l1 H a1 xs → xs[i]? = some x) ∧ ∀ ys, SqB K l2 H a2 ys → ys[i]? = some y,
    fun i H => ∃ xs ys, SqB K l1 H a1 xs ∧ SqB K l2 H a2 ys ∧ (i = xs.length ∨ (i < xs.length ∧ i = ys.length))⟩
def iZip (K : PySem.W.Frag) (ta : TA) : TI := fun σ H R => ta σ H fun vs H1 => ∃ l1 l2 a1 a2, vs = [.ref a1, .ref a2] ∧ (∃ xs, SqB K l1 H1 a1 xs) ∧ (∃ ys, SqB K l2 H1 a2 ys) ∧ R (Itz K l1 l2 a1 a2) H1
end L2
namespace L2
open PySem PySem.Spec PyProof.Rows
def Ite (K : PySem.W.Frag) (a : Addr) : It :=
  ⟨fun i H => ∃ xs x, SqL K H a xs ∧ xs[i]? = some x,
    fun i H v H' => ∃ p x, v = .ref p ∧ H p = none ∧ H' = upd H p (.tup [.int i, x]) ∧ ∀ xs, SqL K H a xs → xs[i]? = some x,
    fun i H => ∃ xs, SqL K H a xs ∧ i = xs.length⟩
def iEnum (K : PySem.W.Frag) (ta : TA) : TI := fun σ H R => ta σ H fun vs H1 => ∃ a, vs = [.ref a] ∧ (∃ xs, SqL K H1 a xs) ∧ R (Ite K a) H1
end L2
namespace L2
open PySem PySem.W PySem.Spec PySem.Calls PyProof.Rows
def GB : Nat := 1048576
theorem lt_of_weight : ∀ {ns : List Int}, WData.weightAll (ns.map WData.int) ≤ 2 ^ 20 → ∀ x ∈ ns, x.natAbs < 2 ^ GB
  | [], _, _, h => nomatch h
  | n :: ns, hw, x, h => by
    have e : WData.weightAll ((n :: ns).map WData.int) = (if n == 0 then 0 else n.natAbs.log2 + 1) + 1 + WData.weightAll (ns.map WData.int) := by
      simp only [List.map_cons, WData.weightAll, WData.weight]
    rw [e] at hw
    rcases List.mem_cons.mp h with rfl | h
    · by_cases h0 : x = 0
      · subst h0; exact Nat.two_pow_pos _
      · have hb : (x == 0) = false := by simpa using h0
        rw [hb] at hw
        have hl : x.natAbs.log2 < GB := by
          have : (2 : Nat) ^ 20 = GB := by decide
          rw [← this]
          simp only [Bool.false_eq_true, if_false] at hw
          omega
        exact (Nat.log2_lt (by omega)).mp hl
    · exact lt_of_weight (ns := ns) (by omega) x h
theorem script_lt {ns : List Int} (h : WData.layableAll [WData.list (ns.map WData.int)] = true) : ∀ x ∈ ns, x.natAbs < 2 ^ GB := by
  have h1 := (layableW_iff.mp (layableW_arg h _ List.mem_cons_self)).2.2
  exact lt_of_weight (by simpa only [WData.weight] using h1)
theorem walk_ofB {l : PySem.W.OpenLaw} {n k : Nat} {q : Program} {loose : List Str} {XP : (Str → Option Value) → Heap → Prop} {YP : World → Heap → Prop} {d : DefRec} {K : Params → PySem.W.Frag} {CX : World → CXT} {sp : World → Sp} {x : Str}
    (hn : l.most = some n) (hn2 : n ≤ sizeLine) (hdf : d.params.defaults = []) (hr : Room k callerA)
    (hY : ∀ (w : World) (h : Heap), YP w h → (K w.params).In h)
    (F : ∀ (w : World) (mg : Str → Option Value) (fa : Addr) (h : Heap), (K w.params).In h → h.Ns mainGlobals mg → mg d.name = some (.ref fa) →
      ∃ fd : FuncData, (∀ (s : Shared) (u : Value), BindsTo s fd ⟨[u], []⟩ [(x, u)]) ∧ ∀ base : Heap, (K w.params).In base → base.Ns mainGlobals mg → FnOk l.prog w (K w.params) mg base (CX w) k fa fd [x] (sp w))
    (hsp : ∀ (w : World) (H : Hp) (a : Addr) (ns : List Int), ns.length ≤ n → (∀ x ∈ ns, x.natAbs < 2 ^ GB) → Only H → SqL (K w.params) H a (ns.map V.int) → sp w [.ref a] H (fun v _ => v = .bl true) fun _ _ _ => False)
    (hCX : ∀ (w : World) (H : Hp) (s : Shared) (e : Value) (s' : Shared), CX w [] H s (fun _ _ _ => False) e s' → False) :
    PySem.W.WalkO q loose XP YP l.row.toRowW d [] (fun f vs => PySem.call f vs) := by
  intro w s₀ s₁ mg mb G Y fa o pm cd doc dV kV ho hd hcd hD hmg hg args vals as hpre hlay hrd hwl hlo
  obtain rfl : dV = .none := Dflts.none hD hdf
  obtain rfl : kV = .none := Dflts.noKw hD
  obtain ⟨a, vs, ns, rfl, rfl, hobj, hints, hlen⟩ := Att.script_of hn hpre hwl
  have KX := hY w _ Y
  obtain ⟨fd, hb, hF⟩ := F w mg fa _ KX G.T.g hmg
  refine enter_call (codeAny_mono (law_call KX G.T.g G.T.b G.T.builtins G.T.nolimit hg hobj hints (Nat.le_trans hlen hn2) hr hF hb (fun H hO hS => hsp w H a ns hlen (script_lt hlay) hO hS) fun H e s' => hCX w H s₁ e s') fun r s' hq => ?_)
  obtain ⟨rfl, h2, h3, h4⟩ := hq
  exact ⟨.inl ⟨.bool true, .bool true, [], rfl, fun _ => rfl, .bool true, Att.post_true l _, fun _ => ⟨List.Pairwise.nil, fun _ hm => (nomatch hm)⟩⟩, h2, h3, h4⟩
structure DefAt (K : PySem.W.Frag) (x : Str) (st : Stmt) (f : Addr) (fd : FuncData) : Prop where
  ns : PySem.W.nsIn K mainGlobals x = some (some (.ref f))
  fn : Fun K x x st f fd
theorem defAt_mk {K : PySem.W.Frag} {x : Str} {st : Stmt} {f : Addr} {oc : Value} {od an : Option Addr} {osl : Array (Option Value)} {kV doc pm cdv ct : Value} (a : PySem.W.nsIn K mainGlobals x = some (some (.ref f)))
    (l : K.lookup f = some ⟨oc, od, .func (PySem.W.fnOf x x (defArgs st) (defBody st) (defScope st) .none kV doc pm an cdv ct), osl⟩) (c : PySem.W.codeIn K cdv x = true) (k : PySem.W.keepIn K (.ref f) = true) : ∃ f fd, DefAt K x st f fd :=
  ⟨f, _, a, fun_mk l c k⟩
theorem DefAt.df {P : Program} {w : World} {K : PySem.W.Frag} {mg : Str → Option Value} {base h : Heap} {x : Str} {st : Stmt} {f : Addr} {fd : FuncData} {k : Nat} {ps : List Str} {sp : Sp} (A : DefAt K x st f fd) (X : K.In h) (G : h.Ns mainGlobals mg)
    (ok : FnOk P w K mg base CX0 k f fd ps sp) (b : Binds K fd ps []) : Def P w K mg base x k ps sp := ⟨f, fd, ok, PySem.W.mg_of X G A.ns, A.fn.kp, b⟩
end L2
namespace L2
open PySem PySem.Spec PyProof.Rows
def Loop (g : TG) (tb : TS) (D : Ends) (σ : St) (J : It) (H : Hp) : Prop := ∃ W : Nat → Nat → St → Hp → Prop, (∃ m, W 0 m σ H) ∧ ∀ i m σ H, W i m σ H →
  (J.stop i H ∧ D.nx σ H) ∨ (J.go i H ∧ ∃ N : St → Hp → Prop, (∀ σ' H', N σ' H' → ∃ m', m' < m ∧ W (i + 1) m' σ' H') ∧ ∀ x H', J.yld i H x H' → g x σ H' fun σ2 H2 => tb { D with nx := N, ct := N, bk := D.nx } σ2 H2)
theorem tFor_eq (wi : TI) (g : TG) (tb : TS) (D : Ends) (σ : St) (H : Hp) : tFor wi g tb D σ H = wi σ H (fun J H1 => Loop g tb D σ J H1) := rfl
def CLoop (n : Nat) (js : List Nat) (g : TG) (tt : TT) (te : TE) (σ : St) (F : List V → Hp → Prop) (J : It) (H : Hp) : Prop := CompW J n js g tt te σ H F
theorem tComp_eq (n : Nat) (js : List Nat) (wi : TI) (g : TG) (tt : TT) (te : TE) (σ : St) (H : Hp) (Q : VK) :
    tComp n js wi g tt te σ H Q = wi σ H (fun J H1 => CLoop n js g tt te σ (fun ys H2 => ∀ p, H2 p = none → Q (.ref p) (upd H2 p (.lst ys))) J H1) := rfl
section
variable {g : TG} {tb : TS} {D : Ends} {σ : St} {H : Hp} {K : PySem.W.Frag} {a : Addr} {xs : List V}
theorem loop_list (Pv : Nat → St → Hp → Prop) (h0 : Pv 0 σ H) (hl : ∀ i σ H, i ≤ xs.length → Pv i σ H → SqL K H a xs)
    (hs : ∀ i x σ H, xs[i]? = some x → Pv i σ H → g x σ H fun σ2 H2 => tb { D with nx := Pv (i + 1), ct := Pv (i + 1), bk := D.nx } σ2 H2) (hd : ∀ σ H, Pv xs.length σ H → D.nx σ H) : Loop g tb D σ (Itl K a) H := for_list Pv h0 hl hs hd
theorem loop_range {lo : Int} {n : Nat} (Pv : Nat → St → Hp → Prop) (h0 : Pv 0 σ H)
    (hs : ∀ i σ H, i < n → Pv i σ H → g (.int (lo + i)) σ H fun σ2 H2 => tb { D with nx := Pv (i + 1), ct := Pv (i + 1), bk := D.nx } σ2 H2) (hd : ∀ σ H, Pv n σ H → D.nx σ H) : Loop g tb D σ (Itr lo n) H := for_range Pv h0 hs hd
theorem loop_none (h : SqL K H a []) (hd : D.nx σ H) : Loop g tb D σ (Itl K a) H := ⟨fun i m σ' H' => i = 0 ∧ σ' = σ ∧ H' = H, ⟨0, rfl, rfl, rfl⟩, by
  rintro i m σ' H' ⟨rfl, rfl, rfl⟩
  exact .inl ⟨⟨[], h, Nat.le_refl _⟩, hd⟩⟩
end
section
variable {n : Nat} {js : List Nat} {g : TG} {tt : TT} {te : TE} {σ : St} {H : Hp} {F : List V → Hp → Prop} {K : PySem.W.Frag} {a : Addr} {xs : List V}
theorem cloop_range {lo : Int} {k : Nat} (Pv : Nat → List V → Hp → Prop) (hk : k ≤ sizeLine) (h0 : Pv 0 [] H) (hn : ∀ i ys H, Pv i ys H → ys.length ≤ i)
    (hs : ∀ i ys H, i < k → Pv i ys H → cTurn n js g tt te σ (.int (lo + i)) ys H (Pv (i + 1))) (hd : ∀ ys H, Pv k ys H → F ys H) : CLoop n js g tt te σ F (Itr lo k) H := comp_range Pv hk h0 hn hs hd
theorem cloop_list (Pv : Nat → List V → Hp → Prop) (hk : xs.length ≤ sizeLine) (h0 : Pv 0 [] H) (hn : ∀ i ys H, Pv i ys H → ys.length ≤ i) (hl : ∀ i ys H, Pv i ys H → SqL K H a xs)
    (hs : ∀ i x ys H, xs[i]? = some x → Pv i ys H → cTurn n js g tt te σ x ys H (Pv (i + 1))) (hd : ∀ ys H, Pv xs.length ys H → F ys H) : CLoop n js g tt te σ F (Itl K a) H := comp_list Pv hk h0 hn hl hs hd
theorem cloop_str {z : Str} (Pv : Nat → List V → Hp → Prop) (hk : z.length ≤ sizeLine) (h0 : Pv 0 [] H) (hn : ∀ i ys H, Pv i ys H → ys.length ≤ i)
    (hs : ∀ i c ys H, z.cps.toList[i]? = some c → Pv i ys H → cTurn n js g tt te σ (.str ⟨#[c]⟩) ys H (Pv (i + 1))) (hd : ∀ ys H, Pv z.length ys H → F ys H) : CLoop n js g tt te σ F (Its z) H := comp_str Pv hk h0 hn hs hd
end
theorem cxOf_K {CX : CXT} {P : Program} {w : World} {K : PySem.W.Frag} {mg : Str → Option Value} {base : Heap} {N : List Str} {qual : Str} {scope : Scope} {f : Addr} {cd : Value} {A : Around} {outer : List Env} {s : Shared} {H : Hp} {E : XK} : (cxOf CX P w K mg base N qual scope f cd A outer s H E).K = K := rfl
theorem cxC_K {X : Cx} {scope : Scope} {own : List Str} {js : List Nat} {C : Addr} {s : Shared} {H : Hp} {ex : List Addr} {pn : List (Addr × Obj)} {E : Value → Shared → Prop} : (cxC X scope own js C s H ex pn E).K = X.K := rfl
theorem cutV_one (xs : List V) {p : Int} (hp : 0 ≤ p) : cutV xs (some p) (some (p + 1)) = match xs[p.toNat]? with | none => [] | some x => [x] := by
  unfold cutV
  obtain ⟨k, rfl⟩ := Int.eq_ofNat_of_zero_le hp
  have e1 : ((k : Int) + 1) = ((k + 1 : Nat) : Int) := by omega
  rw [e1, HT.sIx_nat, HT.sIx_nat, Int.toNat_natCast]
  by_cases h : k < xs.length
  · rw [List.getElem?_eq_getElem h, Nat.min_eq_left (by omega), Nat.min_eq_left (by omega), List.drop_eq_getElem_cons h, show k + 1 - k = 1 by omega]
    rfl
  · rw [List.getElem?_eq_none (by omega), Nat.min_eq_right (by omega), Nat.min_eq_right (by omega), Nat.sub_self]
    rfl
theorem atI_in {α : Type} {xs : List α} {i : Int} (h0 : 0 ≤ i) (h1 : i < xs.length) : ∃ v, atI xs i = some v ∧ xs[i.toNat]? = some v := by
  obtain ⟨k, rfl⟩ := Int.eq_ofNat_of_zero_le h0
  have hk : k < xs.length := by omega
  exact ⟨xs[k], atI_nat (List.getElem?_eq_getElem hk), by simp [hk]⟩
theorem atI_mod {α : Type} {xs : List α} {c m : Int} (hm : 0 < m) (h : m ≤ xs.length) : ∃ v, atI xs (c % m) = some v := by
  have h1 := Int.emod_nonneg c (show m ≠ 0 by omega)
  have h2 := Int.emod_lt_of_pos c hm
  obtain ⟨v, e, _⟩ := atI_in (xs := xs) h1 (by omega)
  exact ⟨v, e⟩
theorem same_upd {H : Hp} {q : Addr} {o : HO} (h : H q = none) : Same H (upd H q o) := fun b o' e => by rw [upd_ne (ne_of_none e h)]; exact e
theorem Same.upd {H H1 : Hp} {q : Addr} {o : HO} (s : Same H H1) (h : H1 q = none) : Same H (upd H1 q o) := s.trans (same_upd h)
theorem Same.tup {K : PySem.W.Frag} {H H' : Hp} {a : Addr} {xs : List V} (e : Same H H') (h : SqT K H a xs) : SqT K H' a xs := by
  rcases h with h | h
  · rcases h with h | ⟨o, h⟩
    · exact .inl (.inl (e _ _ h))
    · exact .inl (.inr ⟨o, e _ _ h⟩)
  · exact .inr h
end L2
namespace L2
open PySem PySem.Spec PyProof.Rows
theorem str_len (z : Str) : z.length = z.cps.toList.length := by simp [Str.length]
theorem slice_from {z : Str} {i : Int} (h : 0 ≤ i) : (Txt.slice z (some i) none).cps.toList = z.cps.toList.drop i.toNat := by
  by_cases hi : i ≤ z.cps.toList.length
  · rw [show Txt.slice z (some i) none = StrLaws.sliceText z (some i) none from rfl, StrLaws.sliceText_from ⟨h, hi⟩]
    show ((z.cps.toList.drop i.toNat).take _) = _
    skip
    exact List.take_of_length_le (by rw [List.length_drop]; omega)
  · have e : Builtin.Str.strSliceIndices (some i) none 1 z.length = Builtin.Str.strSliceIndices (some (z.length : Int)) none 1 z.length := sliceIdx_lo_beyond z.length (by rw [str_len]; omega)
    have e2 : Txt.slice z (some i) none = Txt.slice z (some (z.length : Int)) none := by unfold Txt.slice; rw [e]
    rw [e2, show Txt.slice z (some (z.length : Int)) none = StrLaws.sliceText z (some (z.length : Int)) none from rfl, StrLaws.sliceText_from ⟨by omega, by rw [str_len]; omega⟩]
    show ((z.cps.toList.drop _).take _) = _
    rw [str_len, Int.toNat_natCast, List.drop_length, List.take_nil, List.drop_eq_nil_of_le (by omega)]
theorem starts_one (z : Str) (c : Nat) : Txt.startswith z ⟨#[c]⟩ = decide (z.cps.toList.head? = some c) := by
  obtain ⟨⟨l⟩⟩ := z
  unfold Txt.startswith
  rw [StrLaws.subAt_eq]
  cases l with
  | nil => simp [Str.length]
  | cons a l =>
    simp [Str.length]
    rw [Bool.eq_iff_iff]
    simp
theorem str_eq_codes (x y : Str) : decide (x = y) = decide (x.cps.toList = y.cps.toList) := by
  by_cases h : x = y
  · subst h; simp
  · rw [decide_eq_false h]
    symm
    apply decide_eq_false
    intro e
    apply h
    obtain ⟨⟨a⟩⟩ := x
    obtain ⟨⟨b⟩⟩ := y
    simp at e
    subst e
    rfl
theorem atI_all {α : Type} {xs : List α} {i : Int} {v : α} {P : α → Prop} (h : ∀ x ∈ xs, P x) (e : atI xs i = some v) : P v := by
  unfold atI at e
  cases hj : ixN xs.length i with
  | none => rw [hj] at e; cases e
  | some j => rw [hj] at e; exact h v (List.mem_of_getElem? e)
theorem atI_zero {α : Type} {xs : List α} {v : α} (h : xs.head? = some v) : atI xs 0 = some v := by
  cases xs with
  | nil => cases h
  | cons a l => cases h; exact atI_nat (j := 0) rfl
section
variable {X : Cx}
end
end L2
namespace L2
open PySem PySem.Spec PyProof.Rows
section
variable {X : Cx}
theorem opAddK (K : PySem.W.Frag) (h : X.K = K := by rfl) : OpR X (binaryOp .Add) (rAddA K) := h ▸ opAdd
theorem opInK (K : PySem.W.Frag) (h : X.K = K := by rfl) : OpR X (compareOp .In) (rInA K) := h ▸ opIn
theorem opNotInK (K : PySem.W.Frag) (h : X.K = K := by rfl) : OpR X (compareOp .NotIn) (rNotInA K) := h ▸ opNotIn
theorem slAK (K : PySem.W.Frag) (h : X.K = K := by rfl) : SlR X (rSlA K) := h ▸ slA
theorem ixAK (K : PySem.W.Frag) (h : X.K = K := by rfl) : IxR X (rIx K) := h ▸ ixA
theorem pi_anyK (K : PySem.W.Frag) {tg l : Expr} {tl : TE} (hl : PE X l tl) (h : X.K = K := by rfl) : PI X tg l (iBy (rIt K) tl) := h ▸ pi_any hl
theorem call_lenK (K : PySem.W.Frag) (h : X.K = K := by rfl) : CallR X (.builtin "len") (fun xs H Q => (∃ z, xs = [.str z] ∧ z.length ≤ sizeLine ∧ Q (.int z.length) H) ∨ ∃ p ys, xs = [.ref p] ∧ (SqL K H p ys ∨ SqT K H p ys) ∧ Q (.int ys.length) H) := h ▸ call_lenA
theorem call_isinstK (K : PySem.W.Frag) (h : X.K = K := by rfl) : CallR X (.builtin "isinstance") (fun xs H Q => ∃ x n t b, xs = [x, .ty n] ∧ TyOf K H x t ∧ PySem.W.kitOne K t (.type n) = some b ∧ Q (.bl b) H) := h ▸ call_isinst
theorem call_allK (K : PySem.W.Frag) (hc : X.calm = true) (h : X.K = K := by rfl) : CallR X (.builtin "all") (fun xs H Q => ∃ (p : Addr) (bs : List Bool), xs = [.ref p] ∧ SqL K H p (bs.map V.bl) ∧ Q (.bl (bs.all id)) H) := h ▸ call_allA hc
theorem call_tupleK (K : PySem.W.Frag) (h : X.K = K := by rfl) : CallR X (.type "tuple") (fun xs H Q => ∃ p ys, xs = [.ref p] ∧ ((SqL K H p ys ∧ ∀ l, H l = none → Q (.ref l) (upd H l (.tup ys))) ∨ (SqT K H p ys ∧ Q (.ref p) H))) := h ▸ call_tuple_of
theorem call_listK (K : PySem.W.Frag) (h : X.K = K := by rfl) : CallR X (.type "list") (fun xs H Q => ∃ p ys, xs = [.ref p] ∧ (SqL K H p ys ∨ SqT K H p ys) ∧ ∀ l, H l = none → Q (.ref l) (upd H l (.lst ys))) := h ▸ call_list_of
theorem pg_tupK (K : PySem.W.Frag) {es : List Expr} {k : Nat} {t : TGs} {n : Nat} {pos : Pos} (hc : X.calm = true) (h : PGs X es t) (hK : X.K = K := by rfl)
    (hn : (assignEach es X.env).length = n := by rfl) (hst : (assignEach es X.env).findIdx? (·.1) = none := by rfl) : PG X (.Tuple es k pos) (gTup K n t) := hK ▸ pg_tup hc h hn hst
theorem pe_bmK (K : PySem.W.Frag) {o e : Expr} {es : List Expr} {to : TE} {t : TA} {name : Str} {apos cpos : Pos} {T id : String} {r : V → List V → Hp → VK → Prop} (pa : PlainAttrs T) (slot : Slot T name id) (hty : typeOf (.builtin id) = pure (.type "method_descriptor")) (hm : MtR X id r) (ho : PE X o to) (ha : PA X (e :: es) t) (hK : X.K = K := by rfl)
    (hbase : attributeBase o name X.env (eval o X.env) = eval o X.env := by rfl)
    (hfew : ((backTo cpos (starEach (e :: es) X.env)).all (fun x => !x.1) && (backToKw cpos (keywordEach [] X.env)).all (fun x => x.1.isSome)
      && decide ((e :: es).length + ([] : List Keyword).length + (if ([] : List Keyword).isEmpty then 0 else 1) < 30)) = true := by rfl)
    (hline : (apos.endLine == cpos.line) = true := by rfl) (hs : starEach (e :: es) X.env = (false, eval e X.env) :: starEach es X.env := by rfl) (hplain : (backTo cpos (starEach es X.env)).any (·.1) = false := by rfl) :
    PE X (.Call (.Attribute o name apos) (e :: es) [] cpos) (tBM K T r to t) := hK ▸ pe_bm pa slot hty hm ho ha hbase hfew hline hs hplain
def cV : Expr → Option V
  | .Constant (.int i) _ _ => some (.int i)
  | .Constant (.str x) _ _ => some (.str x)
  | .Constant (.bool b) _ _ => some (.bl b)
  | .Constant .none _ _ => some .non
  | _ => none
def tVs (vs : List V) : TA := fun _ H Q => Q vs H
theorem pe_cV {e : Expr} {v : V} (h : cV e = some v) : PE X e (tC v) := by
  unfold cV at h
  split at h
  · cases h; exact pe_int
  · cases h; exact pe_str
  · cases h; exact pe_bl
  · cases h; exact pe_non
  · cases h
theorem star_cV {e : Expr} {es : List Expr} {v : V} (h : cV e = some v) : starEach (e :: es) X.env = (false, eval e X.env) :: starEach es X.env := by
  unfold cV at h
  split at h <;> first | rfl | cases h
theorem pa_consts : ∀ {es : List Expr} {vs : List V}, es.map cV = vs.map some → PA X es (tVs vs)
  | [], [], _ => pa_nil
  | [], _ :: _, h => by cases h
  | _ :: _, [], h => by cases h
  | e :: es, v :: vs, h => by
    have h1 : cV e = some v := (List.cons.inj h).1
    have h2 : es.map cV = vs.map some := (List.cons.inj h).2
    exact pa_cons (pe_cV h1) (pa_consts h2) (star_cV h1)
end
theorem cut2 {t u : TS} {D : Ends} {σ : St} {H : Hp} (C : St → Hp → Prop) (h2 : ∀ σ H, C σ H → u D σ H) (h1 : ∀ u' : TS, (∀ σ H, C σ H → u' D σ H) → tSeq t u' D σ H) : tSeq t u D σ H := h1 u h2
theorem Def.up {P : Program} {w : World} {K : PySem.W.Frag} {mg : Str → Option Value} {base : Heap} {x : Str} {j k : Nat} {ps : List Str} {sp : Sp} (d : Def P w K mg base x j ps sp) (h : j ≤ k) : Def P w K mg base x k ps sp :=
  let ⟨f, fd, F, r⟩ := d.ex; ⟨f, fd, F.mono h, r⟩
theorem const_mk {K : PySem.W.Frag} {x : Str} {v : V} {u : Value} (e : PySem.W.nsIn K mainGlobals x = some (some u)) (r : RelV v u) : ∃ u, PySem.W.nsIn K mainGlobals x = some (some u) ∧ RelV v u := ⟨u, e, r⟩
theorem TruV_b {K : PySem.W.Frag} {b k : Bool} {H : Hp} : TruV K (.bl b) H k ↔ k = b := Iff.rfl
theorem tyV_s {K : PySem.W.Frag} {z : Str} {H : Hp} : tyV K "str" (.str z) H ↔ True := ⟨fun _ => trivial, fun _ => rfl⟩
theorem str_iff {x y : Str} : x = y ↔ x.cps.toList = y.cps.toList := by
  constructor
  · intro e; rw [e]
  · intro e
    obtain ⟨⟨a⟩⟩ := x
    obtain ⟨⟨b⟩⟩ := y
    simp at e
    subst e
    rfl
end L2
namespace L2
open PySem PySem.Spec PyProof.Rows
open AutoSeq1 (wpAny_loadPart')
theorem noFill_tuple_mul : fillsNumberSlot (.type "tuple") "mul" = pure false :=
  PySem.fillsNumberSlot_seq (id := "tuple.__mul__") (r := some (.builtin "tuple.__rmul__")) F.slot_tuple_mul.lookup (by decide +kernel) F.slot_tuple_rmul.lookup (by decide +kernel)
theorem repeat_tuple : seqRepeat? (.type "tuple") = pure (some (.builtin "tuple.__mul__")) := by
  unfold seqRepeat?
  rw [PySem.seqSlot_of (T := "tuple") (name := "__mul__") (id := "tuple.__mul__") F.slot_tuple_mul.lookup (by decide +kernel), PySem.seqSlot_of (T := "tuple") (name := "__rmul__") (id := "tuple.__rmul__") F.slot_tuple_rmul.lookup (by decide +kernel)]
  rfl
theorem int_rmul_tuple (a : Int) (t : Tok) (l : Addr) (items : Array Value) (n : Nat) (dd : Option Addr) (sl : Array (Option Value)) :
    Meets (Builtin.«int.__rmul__» ⟨[.int a t, .ref l], []⟩) (fun _ R s => s.heap.get? l = some { cls := .type "tuple", dict := dd, data := .seq items n, slots := sl } ∧ R (.ok (.ret Value.notImplemented)) s) :=
  .of_wp fun prog w A R s h => by obtain ⟨hp, g, d, tk, os⟩ := s; obtain ⟨hl, h⟩ := h; wp_walk; exact ⟨_, rfl, h⟩
theorem tuple_mul1 (l : Addr) (items : Array Value) (n : Nat) (dd : Option Addr) (sl : Array (Option Value)) (u : Tok) :
    Meets (Builtin.«tuple.__mul__» ⟨[.ref l, .int 1 u], []⟩) (fun _ R s => s.heap.get? l = some { cls := .type "tuple", dict := dd, data := .seq items n, slots := sl } ∧ R (.ok (.ret (Value.ref l))) s) :=
  .of_wp fun prog w A R s h => by
    obtain ⟨hp, g, d, tk, os⟩ := s; obtain ⟨hl, h⟩ := h
    have hT : Shared.TypeIs ⟨hp, g, d, tk, os⟩ (.ref l) "tuple" := ⟨_, hl, rfl⟩
    wp_walk using wpAny_loadPart' hl, wpAny_typeOf hT
    exact ⟨_, rfl, h⟩
theorem foldA_size {α : Type} (xs : Array α) : ∀ (n : Nat) (acc : Array α), ((List.replicate n xs).foldl (· ++ ·) acc).size = acc.size + n * xs.size
  | 0, acc => by simp
  | n + 1, acc => by
    rw [List.replicate_succ, List.foldl_cons, foldA_size xs n, Array.size_append, Nat.succ_mul]
    omega
theorem tuple_mul2 (l : Addr) (items : Array Value) (n : Nat) (dd : Option Addr) (sl : Array (Option Value)) (x : Int) (u : Tok) (h1 : 1 < x) (h2 : x < 1000000) (h0 : items.isEmpty = false) (hz : items.size * x.toNat ≤ sizeLine) :
    Meets (Builtin.«tuple.__mul__» ⟨[.ref l, .int x u], []⟩) (fun _ R s => s.heap.get? l = some { cls := .type "tuple", dict := dd, data := .seq items n, slots := sl } ∧ R (.ok (.ret (Value.ref s.heap.objs.size))) { s with heap := s.heap.push { cls := Value.type "tuple", data := Data.seq ((List.replicate x.toNat items).foldl (· ++ ·) #[]) } }) :=
  .of_wp fun prog w A R s h => by
    obtain ⟨hp, g, d, tk, os⟩ := s; obtain ⟨hl, h⟩ := h
    have hT : Shared.TypeIs ⟨hp, g, d, tk, os⟩ (.ref l) "tuple" := ⟨_, hl, rfl⟩
    wp_walk using wpAny_loadPart' hl, wpAny_typeOf hT
    refine wpAny_ite_false (by rw [decide_eq_false (show ¬ x < -2 ^ 63 by omega), decide_eq_false (show ¬ x ≥ 2 ^ 63 by omega)]; rfl) ?_
    wp_walk using wpAny_loadPart' hl, wpAny_typeOf hT
    refine wpAny_ite_false (by rw [h0]; simp; omega) ?_
    refine wpAny_ite_false (by rw [h0]; simp; omega) ?_
    have e : (items.size : Int) * x = ((items.size * x.toNat : Nat) : Int) := by rw [Int.natCast_mul, Int.toNat_of_nonneg (by omega)]
    have hs : sizeLine = 16777216 := sizeLine_eq
    refine wpAny_ite_false (decide_eq_false (by rw [e]; omega)) ?_
    have hm : ¬ ((items.size : Int) * x > (sizeLine : Int)) := by rw [e]; exact_mod_cast Nat.not_lt.mpr hz
    refine wpAny_ite_false (by unfold Builtin.Tuple.tupleTooMany; exact decide_eq_false (fun z => hm (of_decide_eq_true z))) ?_
    have hf : (List.foldl (fun x1 x2 => x1 ++ x2) #[] (List.replicate x.toNat items)).size ≤ sizeLine := by
      rw [foldA_size, Array.size_empty, Nat.zero_add, Nat.mul_comm]; exact hz
    wp_walk using wpAny_loadPart' hl, wpAny_typeOf hT
    refine wpAny_ite_false (decide_eq_false (Nat.not_lt.mpr hf)) ?_
    wp_walk
    exact ⟨_, rfl, h⟩
def rRepT (K : PySem.W.Frag) : R2 := fun x y H Q => ∃ l k xs, x = .ref l ∧ y = .int k ∧ SqT K H l xs ∧ 1 ≤ k ∧ k < 1000000 ∧ xs ≠ [] ∧ xs.length * k.toNat ≤ sizeLine ∧
  (k = 1 → Q (.ref l) H) ∧ ∀ p, H p = none → Q (.ref p) (upd H p (.tup (List.replicate k.toNat xs).flatten))
section
variable {X : Cx}
theorem op_repT : OpR X (binaryOp .Mult) (rRepT X.K) := by
  intro pins s σ H x y v u Q I rx ry h
  obtain ⟨l, k, xs, rfl, rfl, hH, h1, h2, hx, hz, q1, q⟩ := h
  cases rx
  obtain ⟨t, rfl⟩ := ry
  obtain ⟨its, r, p, hl⟩ := I.tuple hH
  obtain ⟨⟨cls, dd, data, sl⟩, ho, hc, n, hd⟩ := id p
  simp only at hc hd
  subst hc hd
  have hlen : its.toArray.size * k.toNat ≤ sizeLine := by rw [List.size_toArray, ← r.length]; exact hz
  refine wpAny_binaryOp_repeat_ref (T := "tuple") (U := "int") (by decide) ⟨_, ho, rfl⟩ (fun s' => typeIs_int s' k t) noFill_tuple_mul F.fills_int_mul F.slot_int_rmul repeat_tuple F.slot_int_index.lookup
    (call_meets F.slot_int_rmul (typeIs_int s k t) F.entry_int_rmul (F.args_int_rmul_2 _ _) (int_rmul_tuple k t l its.toArray n dd sl) ⟨ho, rfl, ⟨_, ho, rfl⟩, ?_⟩)
  by_cases hk : k = 1
  · subst hk
    exact call_meets F.slot_tuple_mul ⟨_, ho, rfl⟩ F.entry_tuple_mul (F.args_tuple_mul_2 _ _) (tuple_mul1 l its.toArray n dd sl t) ⟨ho, .ref l, H, I, rfl, q1 rfl⟩
  · have hne : its.toArray.isEmpty = false := by
      cases its with
      | nil => exact absurd (r.nil_iff.mp rfl) hx
      | cons a b => rfl
    refine call_meets F.slot_tuple_mul ⟨_, ho, rfl⟩ F.entry_tuple_mul (F.args_tuple_mul_2 _ _) (tuple_mul2 l its.toArray n dd sl k t (by omega) h2 hne hlen) ⟨ho, ?_⟩
    have hnew : List.foldl (fun x1 x2 => x1 ++ x2) #[] (List.replicate k.toNat its.toArray) = (List.replicate k.toNat its).flatten.toArray := by
      have := foldl_rep its k.toNat []
      rw [List.nil_append] at this
      exact this
    refine ⟨.ref s.heap.objs.size, _, I.laid (t' := s.toks) (o := .tup (List.replicate k.toNat xs).flatten) (fun b ob q => Heap.get?_push_of_some _ q) (Nat.le_refl _) ?_, rfl, q _ (I.hok.fresh (Nat.le_refl _))⟩
    rw [hnew]
    exact ⟨by rw [len_rep, Nat.mul_comm]; exact hz, _, r.rep k.toNat, IsTup.new _ _⟩
def rMulB (K : PySem.W.Frag) : R2 := fun x y H Q => rMulA x y H Q ∨ rRepT K x y H Q
theorem opMulK (K : PySem.W.Frag) (h : X.K = K := by rfl) : OpR X (binaryOp .Mult) (rMulB K) := h ▸ opMul.or op_repT
theorem rMulB_ii {K : PySem.W.Frag} {i j : Int} {H : Hp} {Q : VK} : rMulB K (.int i) (.int j) H Q ↔ IntMulOk i j ∧ Q (.int (i * j)) H := by
  simp [rMulB, rMulA_ii, rRepT]
theorem rMulB_si {K : PySem.W.Frag} {z : Str} {j : Int} {H : Hp} {Q : VK} : rMulB K (.str z) (.int j) H Q ↔ (-1000000 ≤ j ∧ j ≤ 1000000 ∧ z.length ≤ 16) ∧ Q (.str (repS z j)) H := by
  simp [rMulB, rMulA_si, rRepT]
end
end L2
namespace L2
open PySem PySem.Spec PyProof.Rows
def spl (c : Nat) : List Nat → List (List Nat)
  | [] => [[]]
  | a :: l => if a = c then [] :: spl c l else match spl c l with
    | [] => [[a]]
    | p :: r => (a :: p) :: r
theorem spl_ne (c : Nat) : ∀ l, spl c l ≠ []
  | [] => by simp [spl]
  | a :: l => by
    simp only [spl]
    split
    · simp
    · split <;> simp
theorem spl_len (c : Nat) : ∀ l, (spl c l).length ≤ l.length + 1
  | [] => by simp [spl]
  | a :: l => by
    have h := spl_len c l
    simp only [spl]
    split
    · simp; omega
    · split
      · simp
      · rename_i p r e
        rw [e] at h
        simp at h ⊢
        omega
def posF (c : Nat) : List Nat → Nat → List Nat
  | [], _ => []
  | b :: l, i => if b = c then i :: posF c l (i + 1) else posF c l (i + 1)
theorem occ_scan (x : Str) (c : Nat) (lim : Nat) : ∀ (l : List Nat) (i : Nat) (acc : Array Nat) (fr : Nat), x.cps.toList.drop i = l → acc.size ≤ i → fr ≤ i → x.length < lim →
    (forIn (List.range' i (l.length + 1)) (acc, fr) (StrLaws.occBody x ⟨#[c]⟩ x.length lim)).run.fst.toList = acc.toList ++ posF c l i
  | [], i, acc, fr, hl, ha, hf, hm => by
    have hi : x.length ≤ i := by
      rw [str_len]
      exact List.drop_eq_nil_iff.mp hl
    show (forIn [i] (acc, fr) _ : Id _).run.fst.toList = _
    rw [List.forIn_cons]
    unfold StrLaws.occBody
    rw [if_neg (by intro h; have := h.1.2; have e1 : (⟨#[c]⟩ : Str).length = 1 := rfl; rw [e1] at this; omega)]
    show acc.toList = _
    simp [posF]
  | b :: l, i, acc, fr, hl, ha, hf, hm => by
    have hb : x.cps.toList[i]? = some b := by
      have : (x.cps.toList.drop i)[0]? = some b := by rw [hl]; rfl
      rwa [List.getElem?_drop, Nat.add_zero] at this
    have hi : i < x.length := by
      rw [str_len]
      obtain ⟨h, _⟩ := List.getElem?_eq_some_iff.mp hb
      exact h
    have hd : x.cps.toList.drop (i + 1) = l := by
      rw [← List.drop_drop, hl]; rfl
    have e1 : (⟨#[c]⟩ : Str).length = 1 := rfl
    show (forIn (i :: List.range' (i + 1) (l.length + 1)) (acc, fr) _ : Id _).run.fst.toList = _
    rw [List.forIn_cons]
    unfold StrLaws.occBody
    by_cases hc : b = c
    · rw [if_pos ⟨⟨⟨by show acc.size < lim; omega, hf⟩, by rw [e1]; omega⟩, ((StrLaws.subAt_one x c i).mpr (by rw [hb, hc])).2⟩]
      show (forIn (List.range' (i + 1) (l.length + 1)) (acc.push i, i + 1) (StrLaws.occBody x ⟨#[c]⟩ x.length lim) : Id _).run.fst.toList = _
      rw [occ_scan x c lim l (i + 1) _ _ hd (by rw [Array.size_push]; omega) (Nat.le_refl _) hm]
      simp [posF, hc]
    · rw [if_neg (fun h => hc (by have := (StrLaws.subAt_one x c i).mp ⟨h.1.2, h.2⟩; rw [hb] at this; exact Option.some.inj this))]
      show (forIn (List.range' (i + 1) (l.length + 1)) (acc, fr) (StrLaws.occBody x ⟨#[c]⟩ x.length lim) : Id _).run.fst.toList = _
      rw [occ_scan x c lim l (i + 1) _ _ hd (by omega) (by omega) hm]
      simp [posF, hc]
theorem occ_one (x : Str) (c : Nat) : Builtin.Str.occurrences x ⟨#[c]⟩ 0 x.length (x.length + 1) = posF c x.cps.toList 0 := by
  rw [StrLaws.occ_eq]
  have e : x.length + 1 - 0 = x.cps.toList.length + 1 := by rw [str_len]; rfl
  rw [e]
  have h := occ_scan x c (x.length + 1) x.cps.toList 0 #[] 0 rfl (Nat.le_refl _) (Nat.le_refl _) (Nat.lt_succ_self _)
  rw [h]
  rfl
theorem parts_scan (x : Str) (c : Nat) : ∀ (l : List Nat) (a j : Nat), a ≤ j → x.cps.toList.drop j = l → j ≤ x.length →
    (StrLaws.partsFrom x 1 a (posF c l j)).map (fun z => z.cps.toList) = match spl c l with
      | [] => []
      | p :: r => ((x.cps.toList.drop a).take (j - a) ++ p) :: r
  | [], a, j, haj, hl, hj => by
    have hj' : x.length ≤ j := by rw [str_len]; exact List.drop_eq_nil_iff.mp hl
    have e : j = x.length := by omega
    subst e
    simp [posF, spl, StrLaws.partsFrom, StrLaws.strSub_toList]
  | b :: l, a, j, haj, hl, hj => by
    have hb : x.cps.toList[j]? = some b := by
      have : (x.cps.toList.drop j)[0]? = some b := by rw [hl]; rfl
      rwa [List.getElem?_drop, Nat.add_zero] at this
    have hi : j < x.length := by
      rw [str_len]
      obtain ⟨h, _⟩ := List.getElem?_eq_some_iff.mp hb
      exact h
    have hd : x.cps.toList.drop (j + 1) = l := by
      rw [← List.drop_drop, hl]; rfl
    by_cases hc : b = c
    · have ih := parts_scan x c l (j + 1) (j + 1) (Nat.le_refl _) hd hi
      simp only [posF, hc, if_true, StrLaws.partsFrom, List.map_cons, spl, List.append_nil]
      rw [ih]
      cases hs : spl c l with
      | nil => exact absurd hs (spl_ne c l)
      | cons p r => simp [StrLaws.strSub_toList]
    · have ih := parts_scan x c l a (j + 1) (by omega) hd hi
      simp only [posF, hc, if_false, spl]
      rw [ih]
      cases hs : spl c l with
      | nil => exact absurd hs (spl_ne c l)
      | cons p r =>
        have ht : (x.cps.toList.drop a).take (j + 1 - a) = (x.cps.toList.drop a).take (j - a) ++ [b] := by
          have e1 : j + 1 - a = (j - a) + 1 := by omega
          rw [e1, List.take_add_one, List.getElem?_drop]
          have e2 : a + (j - a) = j := by omega
          rw [e2, hb]; rfl
        simp [ht]
theorem spl_none (c : Nat) : ∀ {l : List Nat}, posF c l 0 = [] → spl c l = [l] := by
  have key : ∀ (l : List Nat) (i : Nat), posF c l i = [] → spl c l = [l] := by
    intro l
    induction l with
    | nil => intro i _; rfl
    | cons a l ih =>
      intro i h
      simp only [posF] at h
      split at h
      · cases h
      · rename_i hc
        simp only [spl, hc, if_false]
        rw [ih _ h]
  intro l h
  exact key l 0 h
theorem split_codes (x : Str) {c : Nat} (hc : c < 256) : (Txt.split x ⟨#[c]⟩).map (fun z => z.cps.toList) = spl c x.cps.toList := by
  unfold Txt.split
  have e1 : (⟨#[c]⟩ : Str).length = 1 := rfl
  have ek : Builtin.Str.strKind ⟨#[c]⟩ = 1 := by simp [Builtin.Str.strKind, hc]
  have ek2 : 1 ≤ Builtin.Str.strKind x := by unfold Builtin.Str.strKind; split <;> (try split) <;> omega
  rw [e1, ek, decide_eq_false (show ¬ Builtin.Str.strKind x < 1 by omega), Bool.or_false, occ_one]
  split
  · rename_i h
    have h : x.length < 1 := by simpa using h
    have : x.cps.toList = [] := by
      rw [str_len] at h
      exact List.length_eq_zero_iff.mp (by omega)
    rw [List.map_cons, List.map_nil, this]; rfl
  · split
    · rename_i h
      have h : posF c x.cps.toList 0 = [] := by simpa using h
      rw [spl_none c h]; rfl
    · rw [StrLaws.partsBetween_eq, parts_scan x c x.cps.toList 0 0 (Nat.le_refl _) rfl (Nat.zero_le _)]
      cases hs : spl c x.cps.toList with
      | nil => exact absurd hs (spl_ne c _)
      | cons p r => simp
end L2
namespace L2
open PySem PySem.Spec PyProof.Rows
theorem vals_strs : ∀ (tk : Nat) (xs : List Str), Vals (xs.map V.str) (strsFrom tk xs)
  | _, [] => .nil
  | tk, x :: r => .cons ⟨tk, rfl⟩ (vals_strs (tk + 1) r)
theorem strs_vals : ∀ {xs : List Str} {us : List Value}, Vals (xs.map V.str) us → StrsAre us xs
  | [], _, .nil => .nil
  | x :: r, _, .cons ⟨t, e⟩ q => by subst e; exact .cons x t (strs_vals q)
section
variable {X : Cx}
theorem mt_split : MtR X "str.split" (fun x xs H Q => ∃ z c, x = .str z ∧ xs = [.str ⟨#[c]⟩] ∧ c < 256 ∧ z.length < sizeLine ∧ ∀ p, H p = none → Q (.ref p) (upd H p (.lst ((Txt.split z ⟨#[c]⟩).map V.str)))) := by
  intro pins s σ H x xs v us Q I rx r h
  obtain ⟨z, c, rfl, rfl, hc, hz, q⟩ := h
  obtain ⟨t, rfl⟩ := rx
  obtain ⟨u, rfl, t', rfl⟩ := vals1 r
  have hs : sizeLine = 16777216 := sizeLine_eq
  have hlen : (Txt.split z ⟨#[c]⟩).length ≤ sizeLine := by
    have h1 : (Txt.split z ⟨#[c]⟩).length = (spl c z.cps.toList).length := by rw [← split_codes z hc, List.length_map]
    have h2 := spl_len c z.cps.toList
    rw [← str_len] at h2
    omega
  have fin : ∀ (its : List Value) (tk : Nat), Vals ((Txt.split z ⟨#[c]⟩).map V.str) its → EP X pins σ Q (.ref s.heap.objs.size) { s with toks := tk, heap := s.heap.push { cls := .type "list", data := .seq its.toArray } } := fun its tk rv =>
    ⟨.ref s.heap.objs.size, _, I.laid (t' := tk) (o := .lst ((Txt.split z ⟨#[c]⟩).map V.str)) (fun b ob q => Heap.get?_push_of_some _ q) (Nat.le_refl _) ⟨by rw [List.length_map]; exact hlen, its, 0, rv, Heap.get?_push_size _ rfl⟩, rfl, q _ (I.hok.fresh (Nat.le_refl _))⟩
  cases h1 : (decide (z.length < (⟨#[c]⟩ : Str).length) || decide (Builtin.Str.strKind z < Builtin.Str.strKind ⟨#[c]⟩)) with
  | true =>
    have e : Txt.split z ⟨#[c]⟩ = [z] := by unfold Txt.split; rw [if_pos h1]
    rw [e] at fin
    exact call_meets F.slot_str_split (typeIs_str _ _ _) F.entry_str_split (F.args_str_split_2 _ _) (meets_str_split_cannot_occur z ⟨#[c]⟩ t t' h1) (fin _ s.toks (.cons ⟨t, rfl⟩ .nil))
  | false =>
    cases hf : (Builtin.Str.occurrences z ⟨#[c]⟩ 0 z.length (z.length + 1)).isEmpty with
    | true =>
      have e : Txt.split z ⟨#[c]⟩ = [z] := by unfold Txt.split; rw [if_neg (by rw [h1]; exact Bool.false_ne_true), if_pos hf]
      rw [e] at fin
      exact call_meets F.slot_str_split (typeIs_str _ _ _) F.entry_str_split (F.args_str_split_2 _ _) (meets_str_split_not_found z ⟨#[c]⟩ t t' h1 rfl hf) (fin _ s.toks (.cons ⟨t, rfl⟩ .nil))
    | false =>
      have e : Txt.split z ⟨#[c]⟩ = Builtin.Str.partsBetween z (Builtin.Str.occurrences z ⟨#[c]⟩ 0 z.length (z.length + 1)) (⟨#[c]⟩ : Str).length := by
        unfold Txt.split; rw [if_neg (by rw [h1]; exact Bool.false_ne_true), if_neg (by rw [hf]; exact Bool.false_ne_true)]
      rw [e] at fin hlen
      exact call_meets F.slot_str_split (typeIs_str _ _ _) F.entry_str_split (F.args_str_split_2 _ _) (meets_str_split_sep z ⟨#[c]⟩ t t' h1 rfl hf (Nat.le_of_lt hz) hlen) (fin _ _ (vals_strs _ _))
theorem mt_join : MtR X "str.join" (fun x xs H Q => ∃ z p ys, x = .str z ∧ xs = [.ref p] ∧ SqL X.K H p (ys.map V.str) ∧ (ys.map (·.length)).sum + ys.length * z.length ≤ 16777216 ∧ Q (.str (Txt.join z ys)) H) := by
  intro pins s σ H x xs v us Q I rx r h
  obtain ⟨z, p, ys, rfl, rfl, hq, hok, q⟩ := h
  obtain ⟨t, rfl⟩ := rx
  obtain ⟨u, rfl, ru⟩ := vals1 r
  cases ru
  obtain ⟨its, rv, pl, hz⟩ := I.list hq
  exact join_list pl.isList (strs_vals rv) hok fun t' k => ⟨.str _, H, I.tok _, ⟨t', rfl⟩, q⟩
theorem mt_joinK (K : PySem.W.Frag) (h : X.K = K := by rfl) : MtR X "str.join" (fun x xs H Q => ∃ z p ys, x = .str z ∧ xs = [.ref p] ∧ SqL K H p (ys.map V.str) ∧ (ys.map (·.length)).sum + ys.length * z.length ≤ 16777216 ∧ Q (.str (Txt.join z ys)) H) := h ▸ mt_join
def eqVs : List V → List V → Bool
  | [], [] => true
  | x :: xs, y :: ys => eqV x y && eqVs xs ys
  | _, _ => false
def rEqB (K : PySem.W.Frag) : R2 := fun x y H Q => rEq x y H Q ∨ ∃ a b xs ys, x = .ref a ∧ y = .ref b ∧ SqT K H a xs ∧ SqT K H b ys ∧ xs.all flatV = true ∧ ys.all flatV = true ∧ Q (.bl (eqVs xs ys)) H
def rNeB (K : PySem.W.Frag) : R2 := fun x y H Q => rNe x y H Q ∨ ∃ a b xs ys, x = .ref a ∧ y = .ref b ∧ SqT K H a xs ∧ SqT K H b ys ∧ xs.all flatV = true ∧ ys.all flatV = true ∧ Q (.bl (!eqVs xs ys)) H
end
theorem rEqB_ii {K : PySem.W.Frag} {i j : Int} {H : Hp} {Q : VK} : rEqB K (.int i) (.int j) H Q ↔ Q (.bl (decide (i = j))) H := by simp [rEqB, rEq_ii]
theorem rNeB_ii {K : PySem.W.Frag} {i j : Int} {H : Hp} {Q : VK} : rNeB K (.int i) (.int j) H Q ↔ Q (.bl (!decide (i = j))) H := by simp [rNeB, rNe_ii]
theorem rEqB_ss {K : PySem.W.Frag} {i j : Str} {H : Hp} {Q : VK} : rEqB K (.str i) (.str j) H Q ↔ Q (.bl (decide (i = j))) H := by simp [rEqB, rEq_ss]
theorem rNeB_ss {K : PySem.W.Frag} {i j : Str} {H : Hp} {Q : VK} : rNeB K (.str i) (.str j) H Q ↔ Q (.bl (!decide (i = j))) H := by simp [rNeB, rNe_ss]
theorem rEqB_bb {K : PySem.W.Frag} {i j : Bool} {H : Hp} {Q : VK} : rEqB K (.bl i) (.bl j) H Q ↔ Q (.bl (decide (i = j))) H := by simp [rEqB, rEq_bb]
theorem rNeB_bb {K : PySem.W.Frag} {i j : Bool} {H : Hp} {Q : VK} : rNeB K (.bl i) (.bl j) H Q ↔ Q (.bl (!decide (i = j))) H := by simp [rNeB, rNe_bb]
end L2
namespace L2
open PySem PySem.Spec PyProof.Rows
def digs (l : List Nat) : Bool := l.all fun c => decide (c ∈ [48, 49, 50, 51, 52, 53, 54, 55, 56, 57])
def figs (w : List Nat) : List Nat := if w.head? = some 45 then w.tail else w
def isNum (w : List Nat) : Bool := decide (1 ≤ (figs w).length) && (decide ((figs w).length ≤ 40) && (digs (figs w) && (decide ((figs w).head? ≠ some 48) || decide (w = [48]))))
theorem isNum_prog (w : List Nat) : isNum w = (if figs w = [] ∨ 40 < (figs w).length then false else if digs (figs w) = false then false else (decide ((figs w).head? ≠ some 48) || decide (w = [48]))) := by
  unfold isNum
  split
  · rename_i h
    rcases h with h | h
    · rw [h]; rfl
    · have : ¬ (figs w).length ≤ 40 := by omega
      simp [this]
  · rename_i h
    have h1 : 1 ≤ (figs w).length := by
      cases e : figs w with
      | nil => exact absurd (Or.inl e) h
      | cons a b => simp
    have h2 : (figs w).length ≤ 40 := by
      have : ¬ 40 < (figs w).length := fun z => h (Or.inr z)
      omega
    simp only [h1, h2, decide_true, Bool.true_and]
    split
    · rename_i h3; rw [h3]; rfl
    · rename_i h3
      have h3 : digs (figs w) = true := by simpa using h3
      rw [h3]; rfl
def numC (n : Int) : List Nat := (Str.ofString (toString n)).cps.toList
def dg (m : Nat) : List Nat := (Nat.toDigits 10 m).map Char.toNat
theorem numC_nat (m : Nat) : numC (m : Int) = dg m := PySem.W.KIN.signs_num m
theorem numC_neg (k : Nat) : numC (-((k + 1 : Nat) : Int)) = 45 :: dg (k + 1) := by
  have e : toString (-((k + 1 : Nat) : Int)) = "-" ++ toString (k + 1) := rfl
  have h := PySem.W.KIN.signs_num (k + 1)
  unfold numC dg
  rw [← h, e]
  have e2 : toString (((k + 1 : Nat) : Nat) : Int) = toString (k + 1) := rfl
  rw [e2]
  simp only [PyProof.Rows.signs_ofString, String.toList_append]
  rfl
theorem dg_all (m : Nat) : ∀ c ∈ dg m, 48 ≤ c ∧ c ≤ 57 := by
  intro c hc
  obtain ⟨ch, hch, e⟩ := List.mem_map.mp hc
  have r := PyProof.Rows.digit_range (Nat.isDigit_of_mem_toDigits (by decide) (by decide) hch)
  rw [← e]
  exact r
theorem dg_ne (m : Nat) : dg m ≠ [] := by
  intro e
  have h := toDigits_len_ge 10 m
  rw [List.map_eq_nil_iff.mp e] at h
  exact absurd h (by decide)
theorem dg_small {m : Nat} (h : m < 10) : dg m = [m + 48] := by
  unfold dg
  rw [Nat.toDigits_of_lt_base h]
  have : ∀ m, m < 10 → (Nat.digitChar m).toNat = m + 48 := by decide
  show [(Nat.digitChar m).toNat] = _
  rw [this m h]
theorem dg_big {m : Nat} (h : ¬ m < 10) : dg m = dg (m / 10) ++ [m % 10 + 48] := by
  have hm : m % 10 < 10 := Nat.mod_lt m (by decide)
  have t : Nat.toDigits 10 (m / 10) ++ Nat.toDigits 10 (m % 10) = Nat.toDigits 10 (10 * (m / 10) + m % 10) := Nat.toDigits_append_toDigits (by decide) (by omega) hm
  rw [Nat.div_add_mod] at t
  rw [← dg_small hm]
  unfold dg
  rw [← t, List.map_append]
theorem dg_head (m : Nat) (h0 : 0 < m) : (dg m).head? ≠ some 48 := by
  induction m using Nat.strongRecOn with
  | _ m ih =>
    by_cases h : m < 10
    · rw [dg_small h]
      simp
      omega
    · rw [dg_big h]
      have := ih (m / 10) (by omega) (by omega)
      cases hd : dg (m / 10) with
      | nil => exact absurd hd (dg_ne _)
      | cons a l => rw [hd] at this; exact this
theorem dg_len {k m : Nat} (hk : 1 ≤ k) (hm : m < 10 ^ k) : (dg m).length ≤ k := by
  unfold dg
  rw [List.length_map]
  exact digits10_le hk hm
theorem numC_signs (n : Int) : ∀ c ∈ numC n, c = 45 ∨ (48 ≤ c ∧ c ≤ 57) := by
  intro c hc
  rcases Int.lt_or_le n 0 with h | h
  · obtain ⟨k, rfl⟩ : ∃ k : Nat, n = -((k + 1 : Nat) : Int) := ⟨n.natAbs - 1, by omega⟩
    rw [numC_neg] at hc
    rcases List.mem_cons.mp hc with e | e
    · exact .inl e
    · exact .inr (dg_all _ c e)
  · obtain ⟨m, rfl⟩ := Int.eq_ofNat_of_zero_le h
    rw [numC_nat] at hc
    exact .inr (dg_all _ c hc)
theorem digs_dg (m : Nat) : digs (dg m) = true := by
  unfold digs
  rw [List.all_eq_true]
  intro c hc
  obtain ⟨h1, h2⟩ := dg_all m c hc
  have : c = 48 ∨ c = 49 ∨ c = 50 ∨ c = 51 ∨ c = 52 ∨ c = 53 ∨ c = 54 ∨ c = 55 ∨ c = 56 ∨ c = 57 := by omega
  simpa using this
theorem figs_numC (n : Int) : figs (numC n) = dg n.natAbs := by
  rcases Int.lt_or_le n 0 with h | h
  · obtain ⟨k, rfl⟩ : ∃ k : Nat, n = -((k + 1 : Nat) : Int) := ⟨n.natAbs - 1, by omega⟩
    rw [numC_neg]
    have e : (-((k + 1 : Nat) : Int)).natAbs = k + 1 := by omega
    rw [e]
    rfl
  · obtain ⟨m, rfl⟩ := Int.eq_ofNat_of_zero_le h
    rw [numC_nat]
    unfold figs
    rw [if_neg]
    · rfl
    · intro e
      cases hd : dg m with
      | nil => exact absurd hd (dg_ne _)
      | cons a l =>
        rw [hd] at e
        have : a = 45 := by simpa using e
        have := dg_all m a (by rw [hd]; exact List.mem_cons_self)
        omega
theorem isNum_num {n : Int} (h : n.natAbs < 10 ^ 40) : isNum (numC n) = true := by
  have hl : (dg n.natAbs).length ≤ 40 := dg_len (by decide) h
  have hl0 : 1 ≤ (dg n.natAbs).length := by
    cases hd : dg n.natAbs with
    | nil => exact absurd hd (dg_ne _)
    | cons a l => simp
  unfold isNum
  rw [figs_numC, digs_dg, decide_eq_true hl, decide_eq_true hl0]
  by_cases h0 : n = 0
  · subst h0
    decide +kernel
  · rw [decide_eq_true (dg_head n.natAbs (by omega))]
    rfl
theorem numC_len {n : Int} {k : Nat} (hk : 1 ≤ k) (h : n.natAbs < 10 ^ k) : (numC n).length ≤ k + 1 := by
  rcases Int.lt_or_le n 0 with h1 | h1
  · obtain ⟨j, rfl⟩ : ∃ k : Nat, n = -((k + 1 : Nat) : Int) := ⟨n.natAbs - 1, by omega⟩
    have e : (-((j + 1 : Nat) : Int)).natAbs = j + 1 := by omega
    rw [e] at h
    rw [numC_neg, List.length_cons]
    have := dg_len hk h
    omega
  · obtain ⟨m, rfl⟩ := Int.eq_ofNat_of_zero_le h1
    rw [numC_nat]
    have := dg_len hk (show m < 10 ^ k from h)
    omega
theorem int_num {n : Int} (h : n.natAbs < 10 ^ 600) : intText? (Str.ofString (toString n)) = some n := by
  have hl := numC_len (by decide) h
  have hl2 : (Str.ofString (toString n)).length ≤ 4300 := by rw [str_len]; exact Nat.le_trans hl (by decide)
  rcases Int.lt_or_le n 0 with h1 | h1
  · obtain ⟨k, rfl⟩ : ∃ k : Nat, n = -((k + 1 : Nat) : Int) := ⟨n.natAbs - 1, by omega⟩
    rw [PySem.intText_neg (cs := dg (k + 1)) (numC_neg k) (dg_all _) (dg_ne _) hl2]
    have := PySem.W.KIN.val_back (k + 1)
    unfold dg
    rw [this]
  · obtain ⟨m, rfl⟩ := Int.eq_ofNat_of_zero_le h1
    have e : (Str.ofString (toString ((m : Nat) : Int))).cps.toList = dg m := numC_nat m
    rw [PySem.intText_digits (by rw [e]; exact dg_all _) (by rw [e]; exact dg_ne _) hl2, e]
    have := PySem.W.KIN.val_back m
    unfold dg
    rw [this]
def joinC (c : Nat) : List (List Nat) → List Nat
  | [] => []
  | p :: r => p ++ (r.map (c :: ·)).flatten
theorem glue_fold (c : Nat) : ∀ (l : List Str) (a : Array Nat), (l.foldl (fun acc p => acc ++ (⟨#[c]⟩ : Str).cps ++ p.cps) a).toList = a.toList ++ (l.map (fun p => c :: p.cps.toList)).flatten
  | [], a => by simp
  | p :: l, a => by
    rw [List.foldl_cons, glue_fold c l]
    simp
theorem join_codes (c : Nat) (ys : List Str) : (Txt.join ⟨#[c]⟩ ys).cps.toList = joinC c (ys.map fun z => z.cps.toList) := by
  unfold Txt.join Builtin.Str.glued
  cases ys with
  | nil => rfl
  | cons p r =>
    show (r.foldl (fun acc p => acc ++ (⟨#[c]⟩ : Str).cps ++ p.cps) p.cps).toList = _
    rw [glue_fold]
    simp [joinC, Function.comp_def]
theorem spl_cat (c : Nat) : ∀ (p : List Nat) (l : List Nat), c ∉ p → spl c (p ++ c :: l) = p :: spl c l
  | [], l, _ => by simp [spl]
  | a :: p, l, h => by
    have h1 : a ≠ c := fun e => h (by rw [e]; exact List.mem_cons_self)
    have h2 : c ∉ p := fun e => h (List.mem_cons_of_mem _ e)
    rw [List.cons_append]
    simp only [spl, h1, if_false]
    rw [spl_cat c p l h2]
theorem spl_pure (c : Nat) : ∀ (p : List Nat), c ∉ p → spl c p = [p]
  | [], _ => rfl
  | a :: p, h => by
    have h1 : a ≠ c := fun e => h (by rw [e]; exact List.mem_cons_self)
    have h2 : c ∉ p := fun e => h (List.mem_cons_of_mem _ e)
    simp only [spl, h1, if_false]
    rw [spl_pure c p h2]
theorem spl_join (c : Nat) : ∀ (ps : List (List Nat)), ps ≠ [] → (∀ p ∈ ps, c ∉ p) → spl c (joinC c ps) = ps
  | [], h, _ => absurd rfl h
  | [p], _, h => by
    simp [joinC]
    exact spl_pure c p (h p List.mem_cons_self)
  | p :: q :: r, _, h => by
    have ih := spl_join c (q :: r) (by simp) (fun x hx => h x (List.mem_cons_of_mem _ hx))
    have e : joinC c (p :: q :: r) = p ++ c :: joinC c (q :: r) := by simp [joinC]
    rw [e, spl_cat c p _ (h p List.mem_cons_self), ih]
end L2
namespace L3
open PySem PySem.Spec PyProof.Rows
theorem meets_enumerate_newB (l : Bool) (a : Addr) (xs : Array Value) :
    Meets (Builtin.«enumerate.__new__» ⟨[.type "enumerate", .ref a], []⟩) (fun _ R s => IsSeq l s.heap a xs ∧
      R (.ok (.ret (.ref (s.heap.push (itRec l a)).objs.size))) { s with heap := (s.heap.push (itRec l a)).push { cls := .type "enumerate", data := .fields #[.none, .bool false, .ref s.heap.objs.size, rawInt 0, .none, .none] } }) :=
  .of_wp fun prog w A R s h => by
    obtain ⟨hp, g, d, tk, os⟩ := s; obtain ⟨q1, h⟩ := h
    have hsub := sub_enumerate
    have u1 : IsSeq l (Shared.heap ⟨hp, g, d, tk, os⟩) a xs := q1
    have tl : ∃ o, hp.get? a = some o := by
      cases l
      · obtain ⟨o, e, _⟩ := (show hp.IsTuple a xs from q1); exact ⟨o, e⟩
      · obtain ⟨o, e, _⟩ := (show hp.IsList a xs from q1); exact ⟨o, e⟩
    obtain ⟨ob, hl⟩ := tl
    obtain ⟨c, dct, dt, sl⟩ := ob
    wp_walk using AutoSeq1.wpAny_loadPart' hl
    refine wpAny_stack_any fun st => wpAny_pure ?_
    split
    · rename_i c _ _ _ _ _
      cases (c == Value.type "enumerate")
      · wp_walk using AutoSeq1.wpAny_loadPart' hl, iter_seq u1
        exact ⟨_, rfl, h⟩
      · wp_walk using AutoSeq1.wpAny_loadPart' hl, iter_seq u1
        exact ⟨_, rfl, h⟩
    · wp_walk using AutoSeq1.wpAny_loadPart' hl, iter_seq u1
      exact ⟨_, rfl, h⟩
section
variable {prog : Program} {w : World} {A : Around} {E : Value → Shared → Prop} {s : Shared}
theorem call_enumerateB {l : Bool} {a : Addr} {xs : Array Value} {Q : Value → Shared → Prop} (hL : IsSeq l s.heap a xs)
    (h : ∀ h', IsEnum h' (s.heap.objs.size + 1) s.heap.objs.size 0 .none → h'.get? s.heap.objs.size = some (itRec l a) → h'.objs.size = s.heap.objs.size + 2 →
      (∀ b o, s.heap.get? b = some o → h'.get? b = some o) → Q (.ref (s.heap.objs.size + 1)) { s with heap := h' }) :
    wpAny (model prog w) A (call (.type "enumerate") [.ref a]) Q E s := by
  refine callType_new F.called_enumerate (by decide) (F.typeCall_enumerate_1 _) (F.newCall_enumerate_1 _) (fun obj => F.args_object_init_2 obj _) F.entry_enumerate_new
    (meets_enumerate_newB l a xs) ⟨hL, ?_⟩
  have hz : (s.heap.push (itRec l a)).objs.size = s.heap.objs.size + 1 := Heap.size_push ..
  show _ ∧ _
  rw [hz]
  have he : IsEnum ((s.heap.push (itRec l a)).push
      { cls := .type "enumerate", data := .fields #[.none, .bool false, .ref s.heap.objs.size, rawInt 0, .none, .none] }) (s.heap.objs.size + 1) s.heap.objs.size 0 .none := by
    have := Heap.get?_push_size (s.heap.push (itRec l a))
      (o := { cls := .type "enumerate", data := .fields #[.none, .bool false, .ref s.heap.objs.size, rawInt 0, .none, .none] }) rfl
    rw [hz] at this; exact this
  refine ⟨⟨_, he, rfl⟩, h _ he (Heap.get?_push_of_some _ (Heap.get?_push_size _ rfl)) (by rw [Heap.size_push, hz]) fun b o x => Heap.get?_push_of_some _ (Heap.get?_push_of_some _ x)⟩
end
end L3
namespace L2
open PySem PySem.Spec PyProof.Rows
def Itf (K : PySem.W.Frag) (l : Bool) (a : Addr) : It :=
  ⟨fun i H => ∃ xs x, SqB K l H a xs ∧ xs[i]? = some x,
    fun i H v H' => ∃ p x, v = .ref p ∧ H p = none ∧ H' = upd H p (.tup [.int i, x]) ∧ ∀ xs, SqB K l H a xs → xs[i]? = some x,
    fun i H => ∃ xs, SqB K l H a xs ∧ i = xs.length⟩
theorem turn_enumB {P : Program} {w : World} {K : PySem.W.Frag} {elts : List Expr} {kt : Nat} {pt : Pos} (l : Bool) (a z it : Addr) (nd : z ≠ it) :
    Turn P w K (.Tuple elts kt pt) (Itf K l a) [z, it] z (fun i h => (∃ old, IsEnum h z it ((i : Nat) : Int) old) ∧ ItAt l h it a i) := by
  refine ⟨by simp, ?_, ?_, ?_, ?_, ?_⟩
  · rintro i h ⟨⟨old, qz⟩, u⟩ c hc
    have hc' : c = z ∨ c = it := by simpa using hc
    rcases hc' with e | e
    · subst e; exact ⟨_, qz, fun v q => by cases q⟩
    · subst e
      exact u.obj
  · rintro i h h' ⟨⟨old, qz⟩, u⟩ k
    exact ⟨⟨old, k z (by simp) _ qz⟩, u.at fun o e => k it (by simp) o e⟩
  · rintro X hP hw hK hc i pins s σ H E I hf ⟨⟨old, qz⟩, u⟩ ⟨xs, x, q1, hx⟩
    subst hP hw hK
    have hh : X.A.in1.handled = none := I.ok.hd hc
    obtain ⟨its, r1, p1, z1⟩ := I.seqB q1
    have na : a ≠ it := I.seqB_ne q1 (hf it (by simp))
    have nz : a ≠ z := I.seqB_ne q1 (hf z (by simp))
    have lx : i < its.toArray.size := by
      have := (List.getElem?_eq_some_iff.mp hx).1
      rw [List.size_toArray, ← r1.length]; exact this
    have hef : z ∉ [it, a] := by
      simp only [List.mem_cons, List.not_mem_nil, or_false, not_or]
      exact ⟨nd, nz.symm⟩
    refine wpAny_pyNext_enum_itemD (draws_seq (P := X.prog) (w := X.w) hh l it a na its.toArray) qz ⟨u, p1⟩ lx nd hef fun v h' tk ev z' s' pr sz kk => ?_
    obtain ⟨w1, g1, rx⟩ := r1.get hx
    have ev1 : v = w1 := by
      have : its[i]? = some v := by simpa using ev
      rw [g1] at this; exact (Option.some.inj this).symm
    subst ev1
    refine ⟨_, rfl, wpAny_letOwnedTupleGo_enum (s := { s with heap := h', toks := tk + 1 }) z' fun h2 z2 sb => ?_⟩
    have fz : s.heap.objs.size ≠ z := Nat.ne_of_gt (Heap.lt_size qz)
    have Hn : H s.heap.objs.size = none := I.hok.fresh (Nat.le_refl _)
    have kp : ∀ c o, c ∉ [z, it] → s.heap.get? c = some o → h2.get? c = some o := fun c o hc e => by
      have hc' : c ≠ z ∧ c ≠ it := by simpa [not_or] using hc
      exact (sb.2 c hc'.1).trans (kk c o hc'.1 hc'.2 e)
    have nf : ∀ {c : Addr} {u : HO}, H c = some u → c ∉ [z, it] := fun {c u} e hc => by
      have := (hf c hc).1
      rw [e] at this; cases this
    have pr2 : h2.get? s.heap.objs.size = some { cls := .type "tuple", data := .seq #[.int i tk, v] } := (sb.2 _ fz).trans pr
    have I2 : Inv X pins σ (upd H s.heap.objs.size (.tup [.int i, x])) { s with heap := h2, toks := tk + 1 } := by
      refine I.step (g' := s.gens) (d' := s.drawn) (ch := [z, it]) (fun c hc => ⟨(hf c hc).2.2.2.1, (hf c hc).2.1, (hf c hc).2.2.2.2.1, (hf c hc).2.2.2.2.2⟩) (fun c o _ _ hc e _ => kp c o hc e) (fun c o _ _ hc e _ => ⟨o.slots, kp c o hc e⟩)
        (fun c o _ e n => by rw [upd_ne (Nat.ne_of_lt (Heap.lt_size e))]; exact n) (fun c o hc e => ⟨o, kp c o hc e⟩) (fun c us e => by rw [upd_ne (ne_of_none e Hn)]; exact e) (fun c o u e => by rw [upd_ne (ne_of_none e Hn)]; exact e)
        (fun c ps e => ⟨#[], by rw [upd_ne (ne_of_none e Hn), e]; simp⟩) (fun m hm => ?_) (fun c u e => ?_) I.bare
      · obtain ⟨o, es, ep, ho, r⟩ := hm
        exact ⟨o, es, ep, kp _ o (fun q => (hf _ q).2.1 rfl) ho, r⟩
      · by_cases hcs : c = s.heap.objs.size
        · subst hcs
          rw [upd_same] at e
          cases e
          exact ⟨by rw [sizeLine_eq]; show 2 ≤ 16777216; omega, [.int i tk, v], .cons ⟨_, rfl⟩ (.cons rx .nil), _, pr2, rfl, _, rfl⟩
        · rw [upd_ne hcs] at e
          refine (I.hok c u e).stay (fun d o hd q => kp d o ?_ q) (fun d q => by rw [upd_ne (ne_of_none q Hn)]; exact q) fun d us q => by rw [upd_ne (ne_of_none q Hn)]; exact q
          rcases hd with hd | hd
          · rw [hd]; exact nf e
          · exact nf hd
    refine ⟨.ref s.heap.objs.size, _, I2, rfl, ⟨_, x, rfl, Hn, rfl, fun us hu => by rw [I.seqB_inj hu q1]; exact hx⟩, ⟨⟨v, ?_⟩, ?_⟩, fun c hc => ?_⟩
    · have e : (((i + 1 : Nat)) : Int) = (i : Int) + 1 := by omega
      rw [e]; exact z2
    · exact s'.1.at fun o e => (sb.2 _ nd.symm).trans e
    · show upd H s.heap.objs.size (.tup [.int i, x]) c = none
      have lt : c < s.heap.objs.size := by
        have hc' : c = z ∨ c = it := by simpa using hc
        rcases hc' with e | e
        · subst e; exact Heap.lt_size qz
        · subst e; obtain ⟨o, e, _⟩ := u.obj; exact Heap.lt_size e
      rw [upd_ne (Nat.ne_of_lt lt)]
      exact (hf c hc).1
  · rintro X hP hw hK hc i pins s σ H E I hf ⟨⟨old, qz⟩, u⟩ ⟨xs, q1, hend⟩
    subst hP hw hK
    have hh : X.A.in1.handled = none := I.ok.hd hc
    obtain ⟨its, r1, p1, z1⟩ := I.seqB q1
    have na : a ≠ it := I.seqB_ne q1 (hf it (by simp))
    have ei : i = its.toArray.size := by rw [List.size_toArray, ← r1.length]; exact hend
    subst ei
    obtain ⟨f0, f1, f2, f3, f4, f5⟩ := hf it (by simp)
    exact wpAny_pyNext_enum_endD (draws_seq (P := X.prog) (w := X.w) hh l it a na its.toArray) qz ⟨u, p1⟩ fun h' k => ⟨rfl, I.turned (t' := s.toks) (fun b o hb e => k b o hb e) f0 f1 f3 f4 f5⟩
  · rintro A i s Q E ⟨⟨old, qz⟩, _⟩ h
    exact wpAny_pyIter_enum qz h
def iEnumB (K : PySem.W.Frag) (ta : TA) : TI := fun σ H R => ta σ H fun vs H1 => ∃ a, vs = [.ref a] ∧ ∃ l, (∃ xs, SqB K l H1 a xs) ∧ R (Itf K l a) H1
theorem pi_enumB {X : Cx} {elts : List Expr} {kt : Nat} {pt : Pos} {a : Expr} {ta : TA} {p pos : Pos} (hg : Gl X "enumerate") (hm : X.mg "enumerate" = none) (ha : PA X [a] ta) (hs : starEach [a] X.env = [(false, eval a X.env)] := by rfl) :
    PI X (.Tuple elts kt pt) (.Call (.Name "enumerate" p) [a] [] pos) (iEnumB X.K ta) := by
  intro pins s σ H R I h
  refine Call_ (ld_blt I hg hm boot_enumerate (PyProof.Rows.callWith_type1 (thn (ha pos pins s σ H _ I h) fun us s1 ⟨vs, H1, I1, r1, q1⟩ => ?_) hs rfl))
  obtain ⟨a1, e, l, ⟨xs, q1⟩, q⟩ := q1
  subst e
  obtain ⟨u, rfl, e1⟩ := vals1 r1
  cases e1
  obtain ⟨its1, r1, p1, z1⟩ := I1.seqB q1
  refine L3.call_enumerateB p1 fun h' qz qI sz kp => wpAny_pyIter_enum qz ?_
  refine ⟨s1.heap.objs.size + 1, [s1.heap.objs.size + 1, s1.heap.objs.size], _, _, H1, rfl, I1.kept (h' := h') (t' := s1.toks) kp, turn_enumB l a1 _ _ (Nat.succ_ne_self _), ⟨⟨_, qz⟩, ItAt.rec qI⟩, fun c hc => ?_, q⟩
  have hc' : s1.heap.objs.size ≤ c := by
    have : c = s1.heap.objs.size + 1 ∨ c = s1.heap.objs.size := by simpa using hc
    rcases this with e | e <;> (rw [e]; first | exact Nat.le_refl _ | exact Nat.le_add_right _ _)
  exact I1.fpOk hc' (I1.hok.fresh hc')
theorem loop_enumB {g : TG} {tb : TS} {D : Ends} {σ : St} {H : Hp} {K : PySem.W.Frag} {l : Bool} {a : Addr} {us : List V} (Pv : Nat → St → Hp → Prop) (h0 : Pv 0 σ H) (hl : ∀ i σ H, i ≤ us.length → Pv i σ H → SqB K l H a us)
    (hs : ∀ i x σ H p, us[i]? = some x → Pv i σ H → H p = none → g (.ref p) σ (upd H p (.tup [.int i, x])) fun σ2 H2 => tb { D with nx := Pv (i + 1), ct := Pv (i + 1), bk := D.nx } σ2 H2) (hd : ∀ σ H, Pv us.length σ H → D.nx σ H) : Loop g tb D σ (Itf K l a) H := by
  refine ⟨fun i m σ H => m = us.length - i ∧ i ≤ us.length ∧ Pv i σ H, ⟨us.length, by simp, Nat.zero_le _, h0⟩, ?_⟩
  rintro i m σ H ⟨rfl, hi, p⟩
  have q1 := hl i σ H hi p
  by_cases hlt : i < us.length
  · refine .inr ⟨⟨us, us[i], q1, by simp [hlt]⟩, Pv (i + 1), fun σ' H' p' => ⟨us.length - (i + 1), by omega, rfl, hlt, p'⟩, fun x H' y => ?_⟩
    obtain ⟨pp, u, e, hp, e2, y1⟩ := y
    subst e e2
    exact hs i u σ H pp (y1 us q1) p hp
  · have e : i = us.length := by omega
    subst e
    exact .inl ⟨⟨us, q1, rfl⟩, hd σ H p⟩
structure FunD (K : PySem.W.Frag) (x qual : Str) (st : Stmt) (f : Addr) (fd : FuncData) (T : Addr) : Prop where
  ex : ∃ (oc : Value) (od : Option Addr) (kV doc pm : Value) (an : Option Addr) (cdv ct : Value) (osl : Array (Option Value)),
    fd = PySem.W.fnOf x qual (defArgs st) (defBody st) (defScope st) (.ref T) kV doc pm an cdv ct ∧ K.lookup f = some ⟨oc, od, .func fd, osl⟩ ∧ PySem.W.codeIn K cdv qual = true
  kp : PySem.W.keepIn K (.ref f) = true
section
variable {P : Program} {w : World} {K : PySem.W.Frag} {mg : Str → Option Value} {base : Heap}
theorem FunD.ok {x qual : Str} {st : Stmt} {f : Addr} {fd : FuncData} {T : Addr} {N ps : List Str} {k : Nat} {sp : Sp} (F : FunD K x qual st f fd T) (S : FnScope N ps (defScope st)) (len : ∀ vs H Q E, sp vs H Q E → vs.length = ps.length)
    (hbody : ∀ (cdv : Value) (A : Around) (outer : List Env) (s : Shared) (H : Hp) (vs : List V) (Q : VK) (E : XK), Room k (A.deeper (envOfC qual (defScope st) s.heap.objs.size f cdv)) → sp vs H Q E →
      ∃ t, PSs (cxOf CX0 P w K mg base N qual (defScope st) f cdv A outer s H E).nox (defBody st) t ∧ t { nx := fun _ H' => Q .non H', rt := Q } (start N vs) H) : FnOk P w K mg base CX0 (k + 1) f fd ps sp := by
  obtain ⟨oc, od, kV, doc, pm, an, cdv, ct, osl, rfl, lk, hcd⟩ := F.ex
  refine fn_of lk hcd S len fun A outer s H vs Q E hr hsp => ?_
  obtain ⟨t, h, q⟩ := hbody cdv A outer s H vs Q E hr hsp
  exact ⟨t, h.nox, q⟩
end
structure DefD (P : Program) (w : World) (K : PySem.W.Frag) (mg : Str → Option Value) (base : Heap) (x : Str) (k : Nat) (ps : List Str) (sp : Sp) (dvs : List V) : Prop where
  ex : ∃ (f : Addr) (fd : FuncData) (ds : List Value), FnOk P w K mg base CX0 k f fd ps sp ∧ mg x = some (.ref f) ∧ PySem.W.keepIn K (.ref f) = true ∧ Binds K fd ps ds ∧ Vals dvs ds
section
variable {X : Cx} {k : Nat} {ps : List Str} {sp : Sp} {x : Str} {p pos : Pos} {e : Expr} {es : List Expr} {t : TA} {dvs : List V}
theorem pe_defD (d : DefD X.prog X.w X.K X.mg X.base x k ps sp dvs) (hr : Room k X.A) (hg : Gl X x) (ha : PA X (e :: es) t) (hdb : (x == ("__debug__" : Str)) = false := by decide)
    (he : starEach (e :: es) X.env = (false, eval e X.env) :: starEach es X.env := by rfl) (hpl : (backTo pos (starEach es X.env)).any (·.1) = false := by rfl) : PE X (.Call (.Name x p) (e :: es) [] pos) (tCall sp dvs E0 t) :=
  let ⟨_, _, _, F, hm, hk, hb, hd⟩ := d.ex; pe_call F hr hg hm hk hb hd pass0 ha hdb he hpl
end
structure DefAtD (K : PySem.W.Frag) (x : Str) (st : Stmt) (f : Addr) (fd : FuncData) (u : Value) : Prop where
  ns : PySem.W.nsIn K mainGlobals x = some (some (.ref f))
  fn : ∃ (T : Addr) (o : Obj) (n : Nat), FunD K x x st f fd T ∧ K.lookup T = some o ∧ o.data = .seq #[u] n
theorem FunD.binds {K : PySem.W.Frag} {x qual : Str} {st : Stmt} {f T : Addr} {fd : FuncData} {ps : List Str} (F : FunD K x qual st f fd T) {o : Obj} {u : Value} {n : Nat} (t : K.lookup T = some o) (d : o.data = .seq #[u] n)
    (h : ∀ (kV doc pm : Value) (an : Option Addr) (cdv ct : Value) (us : List Value), us.length = ps.length →
      ∃ k : Option (Array Value) → Sem (List (Str × Value)), bindArgs (PySem.W.fnOf x qual (defArgs st) (defBody st) (defScope st) (.ref T) kV doc pm an cdv ct) ⟨us, []⟩ = seqItems? (.ref T) >>= k ∧ k (some #[u]) = pure (ps.zip us)) : Binds K fd ps [] := by
  obtain ⟨oc, od, kV, doc, pm, an, cdv, ct, osl, rfl, lk, hcd⟩ := F.ex
  intro s us X hl
  rw [List.append_nil] at hl ⊢
  obtain ⟨k, h1, h2⟩ := h kV doc pm an cdv ct us hl
  exact BindsTo.of_defaults (T := T) rfl (X _ _ t) d h1 h2
theorem FunD.bindsD {K : PySem.W.Frag} {x qual : Str} {st : Stmt} {f T : Addr} {fd : FuncData} {ps : List Str} (F : FunD K x qual st f fd T) {o : Obj} {u : Value} {n : Nat} (t : K.lookup T = some o) (d : o.data = .seq #[u] n)
    (h : ∀ (kV doc pm : Value) (an : Option Addr) (cdv ct : Value) (us : List Value), us.length + 1 = ps.length →
      ∃ k : Option (Array Value) → Sem (List (Str × Value)), bindArgs (PySem.W.fnOf x qual (defArgs st) (defBody st) (defScope st) (.ref T) kV doc pm an cdv ct) ⟨us, []⟩ = seqItems? (.ref T) >>= k ∧ k (some #[u]) = pure (ps.zip (us ++ [u]))) : Binds K fd ps [u] := by
  obtain ⟨oc, od, kV, doc, pm, an, cdv, ct, osl, rfl, lk, hcd⟩ := F.ex
  intro s us X hl
  obtain ⟨k, h1, h2⟩ := h kV doc pm an cdv ct us (by rw [← hl, List.length_append]; rfl)
  exact BindsTo.of_defaults (T := T) rfl (X _ _ t) d h1 h2
end L2
namespace L2
open PySem PySem.Spec PyProof.Rows
def EqD (K : PySem.W.Frag) (H : Hp) : Nat → V → V → Bool → Prop
  | 0, x, y, b => (flatV x = true ∧ flatV y = true ∧ b = eqV x y) ∨ ∃ a, x = .ref a ∧ y = .ref a ∧ b = true
  | n + 1, x, y, b => EqD K H 0 x y b ∨ ∃ (a c : Addr) (l : Bool) (xs ys : List V) (e : Nat → Bool), x = .ref a ∧ y = .ref c ∧ a ≠ c ∧ SqB K l H a xs ∧ SqB K l H c ys ∧
      (∀ j x y, xs[j]? = some x → ys[j]? = some y → EqD K H n x y (e j)) ∧ b = ((List.range (min xs.length ys.length)).all e && xs.length == ys.length)
theorem EqD.flat {K : PySem.W.Frag} {H : Hp} {n : Nat} {x y : V} (fx : flatV x = true) (fy : flatV y = true) : EqD K H n x y (eqV x y) := by
  cases n
  · unfold EqD; exact .inl ⟨fx, fy, rfl⟩
  · unfold EqD; refine .inl ?_; unfold EqD; exact .inl ⟨fx, fy, rfl⟩
theorem EqD.same {K : PySem.W.Frag} {H : Hp} {n : Nat} {a : Addr} : EqD K H n (.ref a) (.ref a) true := by
  cases n
  · unfold EqD; exact .inr ⟨a, rfl, rfl, rfl⟩
  · unfold EqD; refine .inl ?_; unfold EqD; exact .inr ⟨a, rfl, rfl, rfl⟩
section
variable {X : Cx} {pins : List (Addr × Obj)} {σ : St} {H : Hp} {s : Shared}
theorem vals_arr {xs : List V} {us : List Value} (r : Vals xs us) {j : Nat} (h : j < us.toArray.size) : ∃ x, xs[j]? = some x ∧ RelV x us.toArray[j] := by
  have l1 := r.length
  simp only [List.size_toArray] at h
  have hx : j < xs.length := by omega
  obtain ⟨u, e1, r1⟩ := Vals.get r (i := j) (x := xs[j]) (by simp [hx])
  have g1 : us.toArray[j] = u := by simpa [h] using e1
  exact ⟨xs[j], by simp [hx], by rw [g1]; exact r1⟩
theorem rc_seq {A : Around} {l : Bool} {a c : Addr} {xs ys : List V} {us vs : List Value} {e : Nat → Bool} (rx : Vals xs us) (ry : Vals ys vs) (p1 : L3.IsSeq l s.heap a us.toArray) (p2 : L3.IsSeq l s.heap c vs.toArray) (hu : A.units < cLine)
    (he : ∀ j (h1 : j < us.toArray.size) (h2 : j < vs.toArray.size), SeqAt.EqAt A.in1 s us.toArray[j] vs.toArray[j] (e j)) : SeqAt.RcAt A s (.ref a) (.ref c) ((List.range (min xs.length ys.length)).all e && xs.length == ys.length) := by
  have s1 : us.toArray.size = xs.length := by rw [List.size_toArray, rx.length]
  have s2 : vs.toArray.size = ys.length := by rw [List.size_toArray, ry.length]
  cases l
  · have := SeqAt.RcAt.tuples (show s.heap.IsTuple a us.toArray from p1) (show s.heap.IsTuple c vs.toArray from p2) hu he
    rw [s1, s2] at this
    exact this
  · by_cases hl : xs.length = ys.length
    · have := SeqAt.RcAt.lists (show s.heap.IsList a us.toArray from p1) (show s.heap.IsList c vs.toArray from p2) (by rw [s1, s2, hl]) hu he
      rw [s1] at this
      rw [hl, Nat.min_self, beq_self_eq_true, Bool.and_true, ← hl]
      exact this
    · have := SeqAt.RcAt.lists_lengths (show s.heap.IsList a us.toArray from p1) (show s.heap.IsList c vs.toArray from p2) (by rw [s1, s2]; simpa using hl) hu
      rw [show (xs.length == ys.length) = false by simpa using hl, Bool.and_false]
      exact this
theorem rcne_seq {A : Around} {l : Bool} {a c : Addr} {xs ys : List V} {us vs : List Value} {e : Nat → Bool} (rx : Vals xs us) (ry : Vals ys vs) (p1 : L3.IsSeq l s.heap a us.toArray) (p2 : L3.IsSeq l s.heap c vs.toArray) (hu : A.units < cLine)
    (he : ∀ j (h1 : j < us.toArray.size) (h2 : j < vs.toArray.size), SeqAt.EqAt A.in1 s us.toArray[j] vs.toArray[j] (e j)) : SeqAt.RcNeAt A s (.ref a) (.ref c) (!((List.range (min xs.length ys.length)).all e && xs.length == ys.length)) := by
  have s1 : us.toArray.size = xs.length := by rw [List.size_toArray, rx.length]
  have s2 : vs.toArray.size = ys.length := by rw [List.size_toArray, ry.length]
  cases l
  · have := SeqAt.RcNeAt.tuples (show s.heap.IsTuple a us.toArray from p1) (show s.heap.IsTuple c vs.toArray from p2) hu he
    rw [s1, s2] at this
    exact this
  · by_cases hl : xs.length = ys.length
    · have := SeqAt.RcNeAt.lists (show s.heap.IsList a us.toArray from p1) (show s.heap.IsList c vs.toArray from p2) (by rw [s1, s2, hl]) hu he
      rw [s1] at this
      rw [hl, Nat.min_self, beq_self_eq_true, Bool.and_true, ← hl]
      exact this
    · have := SeqAt.RcNeAt.lists_lengths (show s.heap.IsList a us.toArray from p1) (show s.heap.IsList c vs.toArray from p2) (by rw [s1, s2]; simpa using hl) hu
      rw [show (xs.length == ys.length) = false by simpa using hl, Bool.and_false]
      exact this
theorem EqD.at (I : Inv X pins σ H s) : ∀ {n : Nat} {A : Around} {x y : V} {u v : Value} {b : Bool}, A.units + n < cLine → RelV x u → RelV y v → EqD X.K H n x y b → SeqAt.EqAt A s u v b := by
  have z0 : ∀ {A : Around} {x y : V} {u v : Value} {b : Bool}, RelV x u → RelV y v → EqD X.K H 0 x y b → SeqAt.EqAt A s u v b := by
    intro A x y u v b rx ry h
    unfold EqD at h
    rcases h with ⟨fx, fy, rfl⟩ | ⟨a, rfl, rfl, rfl⟩
    · exact eqAt_V rx ry fx fy
    · cases rx; cases ry; exact SeqAt.EqAt.same _
  intro n
  induction n with
  | zero => intro A x y u v b _ rx ry h; exact z0 rx ry h
  | succ n ih =>
    intro A x y u v b hu rx ry h
    unfold EqD at h
    rcases h with h | ⟨a, c, l, xs, ys, e, rfl, rfl, ne, h1, h2, he, rfl⟩
    · exact z0 rx ry h
    · cases rx; cases ry
      obtain ⟨us, r1, p1, _⟩ := I.seqB h1
      obtain ⟨vs, r2, p2, _⟩ := I.seqB h2
      refine SeqAt.EqAt.of_refs ne (rc_seq r1 r2 p1 p2 (by omega) fun j j1 j2 => ?_)
      obtain ⟨x, ex, rx⟩ := vals_arr r1 j1
      obtain ⟨y, ey, ry⟩ := vals_arr r2 j2
      exact ih (A := A.in1) (by show A.units + 1 + n < cLine; omega) rx ry (he j x y ex ey)
def EqS (K : PySem.W.Frag) (H : Hp) (n : Nat) (x y : V) (b : Bool) : Prop := ∃ (a c : Addr) (l : Bool) (xs ys : List V) (e : Nat → Bool), x = .ref a ∧ y = .ref c ∧ SqB K l H a xs ∧ SqB K l H c ys ∧
  (∀ j x y, xs[j]? = some x → ys[j]? = some y → EqD K H n x y (e j)) ∧ b = ((List.range (min xs.length ys.length)).all e && xs.length == ys.length)
theorem op_eqS (n : Nat) (hu : X.A.units + n + 1 < cLine) : OpR X (compareOp .Eq) (fun x y H Q => ∃ b, EqS X.K H n x y b ∧ Q (.bl b) H) := by
  intro pins s σ H x y v u Q I rx ry h
  obtain ⟨b, ⟨a, c, l, xs, ys, e, rfl, rfl, h1, h2, he, rfl⟩, q⟩ := h
  cases rx; cases ry
  obtain ⟨us, r1, p1, _⟩ := I.seqB h1
  obtain ⟨vs, r2, p2, _⟩ := I.seqB h2
  refine rc_seq (A := X.A) r1 r2 p1 p2 (by omega) (fun j j1 j2 => ?_) X.prog X.w X.xe _ (fin_bl I q rfl)
  obtain ⟨x, ex, rx⟩ := vals_arr r1 j1
  obtain ⟨y, ey, ry⟩ := vals_arr r2 j2
  exact EqD.at I (A := X.A.in1) (by show X.A.units + 1 + n < cLine; omega) rx ry (he j x y ex ey)
theorem op_neS (n : Nat) (hu : X.A.units + n + 1 < cLine) : OpR X (compareOp .NotEq) (fun x y H Q => ∃ b, EqS X.K H n x y b ∧ Q (.bl (!b)) H) := by
  intro pins s σ H x y v u Q I rx ry h
  obtain ⟨b, ⟨a, c, l, xs, ys, e, rfl, rfl, h1, h2, he, rfl⟩, q⟩ := h
  cases rx; cases ry
  obtain ⟨us, r1, p1, _⟩ := I.seqB h1
  obtain ⟨vs, r2, p2, _⟩ := I.seqB h2
  refine rcne_seq (A := X.A) r1 r2 p1 p2 (by omega) (fun j j1 j2 => ?_) X.prog X.w X.xe _ (fin_bl I q rfl)
  obtain ⟨x, ex, rx⟩ := vals_arr r1 j1
  obtain ⟨y, ey, ry⟩ := vals_arr r2 j2
  exact EqD.at I (A := X.A.in1) (by show X.A.units + 1 + n < cLine; omega) rx ry (he j x y ex ey)
def rEqC (K : PySem.W.Frag) : R2 := fun x y H Q => rEq x y H Q ∨ ∃ b, EqS K H 4 x y b ∧ Q (.bl b) H
def rNeC (K : PySem.W.Frag) : R2 := fun x y H Q => rNe x y H Q ∨ ∃ b, EqS K H 4 x y b ∧ Q (.bl (!b)) H
theorem hu5 {A : Around} {k : Nat} (hr : Room k A) : A.units + 4 + 1 < cLine := Nat.lt_of_le_of_lt (Nat.add_le_add_left (by decide : 5 ≤ 64) _) hr.units
theorem opEqC (K : PySem.W.Frag) (hu : X.A.units + 4 + 1 < cLine) (h : X.K = K := by rfl) : OpR X (compareOp .Eq) (rEqC K) := h ▸ opEq.or (op_eqS 4 hu)
theorem opNeC (K : PySem.W.Frag) (hu : X.A.units + 4 + 1 < cLine) (h : X.K = K := by rfl) : OpR X (compareOp .NotEq) (rNeC K) := h ▸ opNe.or (op_neS 4 hu)
end
theorem rEqC_ii {K : PySem.W.Frag} {i j : Int} {H : Hp} {Q : VK} : rEqC K (.int i) (.int j) H Q ↔ Q (.bl (decide (i = j))) H := by simp [rEqC, rEq_ii, EqS]
theorem rNeC_ii {K : PySem.W.Frag} {i j : Int} {H : Hp} {Q : VK} : rNeC K (.int i) (.int j) H Q ↔ Q (.bl (!decide (i = j))) H := by simp [rNeC, rNe_ii, EqS]
theorem rEqC_ss {K : PySem.W.Frag} {i j : Str} {H : Hp} {Q : VK} : rEqC K (.str i) (.str j) H Q ↔ Q (.bl (decide (i = j))) H := by simp [rEqC, rEq_ss, EqS]
theorem rNeC_ss {K : PySem.W.Frag} {i j : Str} {H : Hp} {Q : VK} : rNeC K (.str i) (.str j) H Q ↔ Q (.bl (!decide (i = j))) H := by simp [rNeC, rNe_ss, EqS]
theorem EqS.of_same {K : PySem.W.Frag} {H : Hp} {n : Nat} {a c : Addr} {l : Bool} {xs : List V} (h1 : SqB K l H a xs) (h2 : SqB K l H c xs) (hf : ∀ x ∈ xs, flatV x = true ∨ ∃ p, x = .ref p) : EqS K H n (.ref a) (.ref c) true := by
  refine ⟨a, c, l, xs, xs, fun _ => true, rfl, rfl, h1, h2, fun j x y hx hy => ?_, ?_⟩
  · rw [hx] at hy
    cases hy
    rcases hf x (List.mem_of_getElem? hx) with f | ⟨p, rfl⟩
    · have := EqD.flat (K := K) (H := H) (n := n) f f
      have e : eqV x x = true := by cases x <;> first | rfl | (simp [eqV]; done) | exact absurd (show false = true from f) Bool.false_ne_true
      rw [e] at this
      exact this
    · exact EqD.same
  · simp
theorem rEqC_same {K : PySem.W.Frag} {H : Hp} {a c : Addr} {l : Bool} {xs : List V} {Q : VK} (h1 : SqB K l H a xs) (h2 : SqB K l H c xs) (hf : ∀ x ∈ xs, flatV x = true ∨ ∃ p, x = .ref p) (q : Q (.bl true) H) : rEqC K (.ref a) (.ref c) H Q := .inr ⟨true, .of_same h1 h2 hf, q⟩
end L2
namespace L2
open PySem PySem.Spec PyProof.Rows
structure FnAt (P : Program) (w : World) (K : PySem.W.Frag) (mg : Str → Option Value) (base : Heap) (k : Nat) (f : Addr) (ps : List Str) (sp : Sp) : Prop where
  ex : ∃ fd : FuncData, FnOk P w K mg base CX0 k f fd ps sp ∧ PySem.W.keepIn K (.ref f) = true ∧ Binds K fd ps []
structure MethOk (P : Program) (w : World) (K : PySem.W.Frag) (mg : Str → Option Value) (base : Heap) (C : Addr) (m : Str) (k : Nat) (ps : List Str) (sp : Sp) : Prop where
  cl : Cls K C
  ex : ∃ (f : Addr) (fd : FuncData), Meth K C m f ∧ FnOk P w K mg base CX0 k f fd ps sp ∧ Binds K fd ps []
structure CMeth (K : PySem.W.Frag) (C : Addr) (m : Str) (f : Addr) : Prop where
  rd : PySem.W.readsIn K C (.type "type") = true
  at_ : PySem.W.findCls K (.ref C) (.type "type") m = some (.val (.ref f))
  ga : PySem.W.specialIn K (.ref C) "__getattribute__" = some (some (.builtin "type.__getattribute__"))
  kp : PySem.W.keepIn K (.ref f) = true
structure DefC (P : Program) (w : World) (K : PySem.W.Frag) (mg : Str → Option Value) (base : Heap) (x m : Str) (k : Nat) (ps : List Str) (sp : Sp) : Prop where
  ex : ∃ (C f : Addr) (fd : FuncData), mg x = some (.ref C) ∧ CMeth K C m f ∧ FnOk P w K mg base CX0 k f fd ps sp ∧ Binds K fd ps []
structure DefM (P : Program) (w : World) (K : PySem.W.Frag) (mg : Str → Option Value) (base : Heap) (x : Str) (C : Addr) (k : Nat) (ps : List Str) (sp : Sp) : Prop where
  ex : ∃ (f : Addr) (fd : FuncData), Mk K C f ∧ FnOk P w K mg base CX0 k f fd ps sp ∧ mg x = some (.ref C) ∧ Binds K fd ps []
section
variable {P : Program} {w : World} {K : PySem.W.Frag} {mg : Str → Option Value} {base : Heap} {j k : Nat} {ps : List Str} {sp : Sp} {x m : Str} {C f : Addr}
theorem FnAt.up (d : FnAt P w K mg base j f ps sp) (h : j ≤ k) : FnAt P w K mg base k f ps sp := let ⟨fd, F, b, c⟩ := d.ex; ⟨fd, F.mono h, b, c⟩
theorem MethOk.up (d : MethOk P w K mg base C m j ps sp) (h : j ≤ k) : MethOk P w K mg base C m k ps sp := let ⟨f, fd, a, F, c⟩ := d.ex; ⟨d.cl, f, fd, a, F.mono h, c⟩
theorem DefM.up (d : DefM P w K mg base x C j ps sp) (h : j ≤ k) : DefM P w K mg base x C k ps sp := let ⟨f, fd, a, F, b, c⟩ := d.ex; ⟨f, fd, a, F.mono h, b, c⟩
theorem MethOk.imp {sp' : Sp} (d : MethOk P w K mg base C m k ps sp) (h : ∀ vs H Q E, sp' vs H Q E → sp vs H Q E) : MethOk P w K mg base C m k ps sp' := let ⟨f, fd, a, F, c⟩ := d.ex; ⟨d.cl, f, fd, a, F.imp h, c⟩
end
def tMethG (P : Program) (w : World) (K : PySem.W.Frag) (mg : Str → Option Value) (base : Heap) (k : Nat) (m : Str) (ta : TE) (t : TA) : TE := fun σ H Q => ta σ H fun x H1 => ∃ (a C dx : Addr) (fs : List (Str × V)) (ps : List Str) (sp : Sp),
  x = .ref a ∧ H1 a = some (.ins C dx fs) ∧ fs.lookup m = none ∧ MethOk P w K mg base C m k ps sp ∧ t σ H1 fun vs H2 => sp (x :: vs) H2 Q E0
def tCallE (P : Program) (w : World) (K : PySem.W.Frag) (mg : Str → Option Value) (base : Heap) (k : Nat) (tf : TE) (t : TA) : TE := fun σ H Q => tf σ H fun x H1 => ∃ (f : Addr) (ps : List Str) (sp : Sp),
  x = .ref f ∧ FnAt P w K mg base k f ps sp ∧ t σ H1 fun vs H2 => sp vs H2 Q E0
section
variable {X : Cx} {k : Nat} {f C : Addr} {fd : FuncData} {ps : List Str} {sp : Sp} {x m : Str} {p pos apos : Pos} {e o : Expr} {es : List Expr} {ta : TE} {t : TA}
theorem pe_methG (P : Program) (w : World) (K : PySem.W.Frag) (mg : Str → Option Value) (base : Heap) {pl : Sem Bool} (hr : Room k X.A) (he : PE X o ta) (ha : PA X (e :: es) t) (e1 : X.prog = P := by rfl) (e2 : X.w = w := by rfl) (e3 : X.K = K := by rfl) (e4 : X.mg = mg := by rfl) (e5 : X.base = base := by rfl)
    (hst : starEach (e :: es) X.env = (false, eval e X.env) :: starEach es X.env := by rfl) (hpl : (backTo pos (starEach es X.env)).any (·.1) = false := by rfl)
    (ht : eval (.Call (.Attribute o m apos) (e :: es) [] pos) X.env = (do
      let ov ← eval o X.env
      standAt apos.atName
      let (f, first) ← holding [ov] (getMethod ov m pl)
      callWith pos f first (backTo pos (starEach (e :: es) X.env)) (backToKw pos (keywordEach [] X.env))) := by rfl) :
    PE X (.Call (.Attribute o m apos) (e :: es) [] pos) (tMethG P w K mg base k m ta t) := by
  subst e1 e2 e3 e4 e5
  intro pins s σ H Q I h
  refine PySem.W.methodCall_KW (pl := pl) (thn (he pins s σ H _ I h) fun u s1 ⟨x, H1, I1, rx, a, C, dx, fs, ps, sp, ex, ea, l, M, q⟩ => ?_) ht
  subst ex
  obtain rfl : u = Value.ref a := rx
  obtain ⟨f, fd, hm, F, hb⟩ := M.ex
  refine getmeth_ok I1 ea M.cl hm l ?_
  refine PySem.W.callWith_K (first := [.ref a]) (h₀ := X.base) I.ok.mod.kin hm.kp (thn (ha pos pins s1 σ H1 _ I1 q) fun us s2 ⟨vs, H2, I2, r, q2⟩ => ⟨I2.kIn, ?_⟩) hst hpl
  exact run_fn (us := .ref a :: us) (vs := .ref a :: vs) (dvs := []) (E := E0) F hr hb .nil pass0 I2 (.cons rfl r) (by rw [List.append_nil]; exact q2)
theorem pe_methG0 (P : Program) (w : World) (K : PySem.W.Frag) (mg : Str → Option Value) (base : Heap) {pl : Sem Bool} (hr : Room k X.A) (he : PE X o ta) (e1 : X.prog = P := by rfl) (e2 : X.w = w := by rfl) (e3 : X.K = K := by rfl) (e4 : X.mg = mg := by rfl) (e5 : X.base = base := by rfl)
    (ht : eval (.Call (.Attribute o m apos) [] [] pos) X.env = (do
      let ov ← eval o X.env
      standAt apos.atName
      let (f, first) ← holding [ov] (getMethod ov m pl)
      callWith pos f first (backTo pos (starEach [] X.env)) (backToKw pos (keywordEach [] X.env))) := by rfl) :
    PE X (.Call (.Attribute o m apos) [] [] pos) (tMethG P w K mg base k m ta tNil) := by
  subst e1 e2 e3 e4 e5
  intro pins s σ H Q I h
  refine PySem.W.methodCall_KW (pl := pl) (thn (he pins s σ H _ I h) fun u s1 ⟨x, H1, I1, rx, a, C, dx, fs, ps, sp, ex, ea, l, M, q⟩ => ?_) ht
  subst ex
  obtain rfl : u = Value.ref a := rx
  obtain ⟨f, fd, hm, F, hb⟩ := M.ex
  refine getmeth_ok I1 ea M.cl hm l ?_
  exact PySem.W.callWith_K0 (first := [.ref a]) I1.kIn hm.kp (run_fn (us := [.ref a]) (vs := [.ref a]) (dvs := []) (E := E0) F hr hb .nil pass0 I1 (.cons rfl .nil) q)
theorem pe_callE (P : Program) (w : World) (K : PySem.W.Frag) (mg : Str → Option Value) (base : Heap) (hr : Room k X.A) (he : PE X o ta) (ha : PA X (e :: es) t) (e1 : X.prog = P := by rfl) (e2 : X.w = w := by rfl) (e3 : X.K = K := by rfl) (e4 : X.mg = mg := by rfl) (e5 : X.base = base := by rfl)
    (hst : starEach (e :: es) X.env = (false, eval e X.env) :: starEach es X.env := by rfl) (hpl : (backTo pos (starEach es X.env)).any (·.1) = false := by rfl)
    (hev : eval (.Call o (e :: es) [] pos) X.env = (do callWith pos (← eval o X.env) [] (backTo pos (starEach (e :: es) X.env)) (backToKw pos (keywordEach [] X.env))) := by rfl) :
    PE X (.Call o (e :: es) [] pos) (tCallE P w K mg base k ta t) := by
  subst e1 e2 e3 e4 e5
  intro pins s σ H Q I h
  refine Call_ (thn (he pins s σ H _ I h) fun u s1 ⟨x, H1, I1, rx, f, ps, sp, ex, M, q⟩ => ?_) hev
  subst ex
  obtain rfl : u = Value.ref f := rx
  obtain ⟨fd, F, hk, hb⟩ := M.ex
  refine PySem.W.callWith_K (h₀ := X.base) I.ok.mod.kin hk (thn (ha pos pins s1 σ H1 _ I1 q) fun us s2 ⟨vs, H2, I2, r, q2⟩ => ⟨I2.kIn, ?_⟩) hst hpl
  exact run_fn (us := us) (vs := vs) (dvs := []) (E := E0) F hr hb .nil pass0 I2 r (by rw [List.append_nil]; exact q2)
theorem pe_cmeth {pl : Sem Bool} (d : DefC X.prog X.w X.K X.mg X.base x m k ps sp) (hr : Room k X.A) (hg : Gl X x) (ha : PA X (e :: es) t) (hdb : (x == ("__debug__" : Str)) = false := by decide)
    (hst : starEach (e :: es) X.env = (false, eval e X.env) :: starEach es X.env := by rfl) (hpl : (backTo pos (starEach es X.env)).any (·.1) = false := by rfl)
    (ht : eval (.Call (.Attribute (.Name x p) m apos) (e :: es) [] pos) X.env = (do
      let ov ← eval (.Name x p) X.env
      standAt apos.atName
      let (f, first) ← holding [ov] (getMethod ov m pl)
      callWith pos f first (backTo pos (starEach (e :: es) X.env)) (backToKw pos (keywordEach [] X.env))) := by rfl) :
    PE X (.Call (.Attribute (.Name x p) m apos) (e :: es) [] pos) (tCall sp [] E0 t) := by
  obtain ⟨C, f, fd, hm, c, F, hb⟩ := d.ex
  intro pins s σ H Q I h
  refine PySem.W.methodCall_KW (pl := pl) (ld_glob I hg hm ?_ hdb) ht
  refine PySem.W.method_cls I.kIn c.ga (PySem.W.cls_value I.kIn c.rd c.at_ rfl ?_)
  have I1 := I.tok (s.toks + 1)
  refine PySem.W.callWith_K (first := []) (h₀ := X.base) I.ok.mod.kin c.kp (thn (ha pos pins _ σ H _ I1 h) fun us s2 ⟨vs, H2, I2, r, q2⟩ => ⟨I2.kIn, ?_⟩) hst hpl
  exact run_fn (us := us) (vs := vs) F hr hb .nil pass0 I2 r q2
theorem pe_mk (d : DefM X.prog X.w X.K X.mg X.base x C k ps sp) (hr : Room (k + 1) X.A) (hg : Gl X x) (ha : PA X (e :: es) t) (hdb : (x == ("__debug__" : Str)) = false := by decide)
    (he : starEach (e :: es) X.env = (false, eval e X.env) :: starEach es X.env := by rfl) (hpl : (backTo pos (starEach es X.env)).any (·.1) = false := by rfl) :
    PE X (.Call (.Name x p) (e :: es) [] pos) (tMake C sp [] E0 t) :=
  let ⟨_, _, M, F, hm, hb⟩ := d.ex; pe_make M F hr hg hm hb .nil pass0 ha hdb he hpl
end
def TabK (K : PySem.W.Frag) (a : Addr) (D : List (Str × V)) : Prop := (a == sysModules) = false ∧ ∃ o es ep, K.lookup a = some o ∧ o.ExactDict ∧ o.data = .dict es ep ∧ KTD.Rows RelV es.toList D
section
variable {prog : Program} {w : World} {A : Around} {E : Value → Shared → Prop} {s : Shared} {K : PySem.W.Frag} {a : Addr} {D : List (Str × V)} {k : Str} {tk : Tok}
theorem TabK.typeIs (X : K.In s.heap) (T : TabK K a D) : s.TypeIs (.ref a) "dict" := let ⟨_, o, _, _, ho, hc, _⟩ := T; ⟨o, X _ _ ho, hc.1⟩
theorem dictGet_tab {Q : Option Value → Shared → Prop} (X : K.In s.heap) (T : TabK K a D) (h1 : ∀ d v, KTD.datumAt k D = some d → RelV d v → Q (some v) { s with toks := s.toks + 1 }) (h2 : KTD.datumAt k D = none → Q none { s with toks := s.toks + 1 }) :
    wpAny (model prog w) A (dictGet a (.str k tk)) Q E s := by
  obtain ⟨_, o, es, ep, ho, hc, hd, hr⟩ := T
  have ho := X _ _ ho
  unfold dictGet
  try with_reducible refine wpAny_holding ?_
  refine wpAny_bind (wpAny_pyHash_str (wpAny_bind (KTD.kt_dictFind_strs (s := { s with toks := s.toks + 1 }) ho hd (by obtain ⟨l⟩ := es; simpa using hr.exact) ?_)))
  have hq : Q (findBy (fun k v => v.isStr k) es k) { s with toks := s.toks + 1 } := by
    have hf : findBy (fun k v => v.isStr k) es k = (es.toList.find? fun e => e.key.isStr k).map (·.val) := by
      obtain ⟨l⟩ := es
      simp [findBy]
    rw [hf]
    cases hat : KTD.datumAt k D with
    | some d => obtain ⟨v, hv, hfl⟩ := hr.find_some hat; rw [hv]; exact h1 d v hat hfl
    | none => rw [hr.find_none hat]; exact h2 hat
  rw [findBy_of_findIdx?] at hq
  cases hi : es.findIdx? fun e => e.key.isStr k with
  | none => rw [hi] at hq; exact wpAny_pure hq
  | some i => rw [hi] at hq; exact wpAny_bind (wpAny_dictEntries (s := { s with toks := s.toks + 1 }) ho hd (wpAny_pure hq))
theorem notin_tab {Q : Value → Shared → Prop} (X : K.In s.heap) (T : TabK K a D) (h : Q (.bool (!(KTD.datumAt k D).isSome)) { s with toks := s.toks + 1 }) : wpAny (model prog w) A (compareOp .NotIn (.str k tk) (.ref a)) Q E s := by
  have ty := T.typeIs X
  show wpAny _ _ (do return .bool (!(← contains (.ref a) (.str k tk)))) Q E s
  refine wpAny_bind ?_
  unfold contains
  try with_reducible refine wpAny_holding ?_
  refine wpAny_bind (wpAny_specialOf ty F.slot_dict_contains.lookup ?_)
  show wpAny _ _ (if (some (Value.builtin "dict.__contains__") == some Value.none) = true then _ else _) _ E s
  rw [if_neg (by rw [beq_builtin_none]; exact Bool.false_ne_true)]
  refine wpAny_bind (wpAny_callSpecialUnlessNone?_slot (name := Str.ofString "__contains__") ty F.slot_dict_contains
    (wpAny_call_entry F.slot_dict_contains ty F.entry_dict_contains ?_ (F.args_dict_contains_2 _ _)))
  show wpAny _ _ (dictGet a (.str k tk) >>= _) _ _ s
  refine wpAny_bind (dictGet_tab X T (fun d v ha _ => ?_) fun hn => ?_)
  · rw [ha] at h
    show wpAny _ _ (ret (.bool true)) _ _ _
    exact wpAny_pure ⟨_, rfl, wpAny_truthy_bool (wpAny_pure h)⟩
  · rw [hn] at h
    show wpAny _ _ (Builtin.Dict.pendingKey? a (.str k tk) >>= _) _ _ _
    exact wpAny_bind (wpAny_pendingKey_other T.1 (wpAny_pure ⟨_, rfl, wpAny_truthy_bool (wpAny_pure h)⟩))
theorem item_tab {value slice : Expr} {v : V} {Q : Value → Shared → Prop} (X : K.In s.heap) (T : TabK K a D) (hv : KTD.datumAt k D = some v) (h : ∀ u, RelV v u → Q u { s with toks := s.toks + 1 })
    (hs : subscripted slice false (.ref a) (.str k tk) = operate [.ref a, .str k tk] (getItem (.ref a) (.str k tk))) (hg : ∀ r, letTemporaryGo value (.ref a) r = pure ()) :
    wpAny (model prog w) A (subscriptTail value slice (.ref a) (.str k tk)) Q E s := by
  have ty := T.typeIs X
  refine subscriptTail_builtin ty F.slot_dict_getitem.lookup ?_ hs hg
  unfold getItem
  try with_reducible refine wpAny_holding ?_
  refine wpAny_bind (wpAny_sequenceKey ty (by decide) ?_)
  refine wpAny_bind (wpAny_callSpecial?_slot (name := Str.ofString "__getitem__") ty F.slot_dict_getitem
    (wpAny_call_entry F.slot_dict_getitem ty F.entry_dict_getitem ?_ (F.args_dict_getitem_2 _ _)))
  show wpAny _ _ (dictGet a (.str k tk) >>= _) _ _ s
  refine wpAny_bind (dictGet_tab X T (fun d v' ha hr => ?_) fun hn => ?_)
  · rw [hv] at ha
    cases ha
    exact wpAny_pure ⟨v', rfl, wpAny_pure (h v' hr)⟩
  · rw [hv] at hn; cases hn
end
section
variable {X : Cx}
theorem opNotInTab (K : PySem.W.Frag) (h : X.K = K := by rfl) : OpR X (compareOp .NotIn) (fun x y H Q => ∃ k a D, x = .str k ∧ y = .ref a ∧ TabK K a D ∧ Q (.bl (!(KTD.datumAt k D).isSome)) H) := by
  subst h
  intro pins s σ H x y v u Q I rx ry h
  obtain ⟨k, a, D, rfl, rfl, T, q⟩ := h
  obtain ⟨t, rfl⟩ := rx
  cases ry
  exact notin_tab I.kIn T ⟨.bl _, H, I.tok _, rfl, q⟩
theorem pe_ixTab (K : PySem.W.Frag) {x : Str} {p pos : Pos} {b : Expr} {ta tb : TE} (ha : PE X (.Name x p) ta) (hb : PE X b tb) (hs : PlainIx b) (hg : ∀ v r, letTemporaryGo (.Name x p) v r = pure () := by intro _ _; with_unfolding_all rfl) (h : X.K = K := by rfl) :
    PE X (.Subscript (.Name x p) b pos) (tOp (fun x y H Q => ∃ k a D v, x = .str k ∧ False ∨ x = .ref a ∧ y = .str k ∧ TabK K a D ∧ KTD.datumAt k D = some v ∧ Q v H) ta tb) := by
  subst h
  intro pins s σ H Q I h
  refine Subscript_ (binT ha hb I h fun v u s2 x y H2 I2 rx ry q => ?_)
  obtain ⟨k, a, D, z, q⟩ := q
  rcases q with q | ⟨rfl, rfl, T, hv, q⟩
  · exact q.2.elim
  cases rx
  obtain ⟨t, rfl⟩ := ry
  exact item_tab I2.kIn T hv (fun u ru => ⟨z, H2, I2.tok _, ru, q⟩) (hs _ _) (hg _)
end
end L2
namespace L2
open PySem PySem.Spec PyProof.Rows
theorem ofString_inj {a b : String} : (Str.ofString a = Str.ofString b) ↔ a = b := by
  constructor
  · intro h
    rw [Str.ofString_eq_toList, Str.ofString_eq_toList] at h
    have h1 : (a.toList.map Char.toNat) = (b.toList.map Char.toNat) := by
      have := congrArg (fun s : Str => s.cps.toList) h
      simpa using this
    have h2 : a.toList = b.toList := by
      refine List.map_inj_right (f := Char.toNat) (fun x y e => ?_) |>.mp h1
      exact Char.toNat_inj.mp e
    exact String.toList_inj.mp h2
  · intro h; rw [h]
def ofI : Option Int → V
  | none => .non
  | some i => .int i
def noteA (us : List Int) (v : Int) : Int := us.getD (v - 1).toNat 0
theorem noteA_at {us : List Int} {v : Int} (h1 : 1 ≤ v) (h2 : v ≤ us.length) : atI (us.map V.int) (v - 1) = some (.int (noteA us v)) := by
  obtain ⟨k, hk⟩ := Int.eq_ofNat_of_zero_le (show 0 ≤ v - 1 by omega)
  rw [hk]
  have hl : k < us.length := by omega
  refine atI_nat ?_
  rw [List.getElem?_map, List.getElem?_eq_getElem hl]
  simp [noteA, hk, List.getD, List.getElem?_eq_getElem hl]
structure RSem where
  size : Int
  start : Int
  after : Int → Option (List Int) → List Int → Option Int
  closes : Int → Option (List Int) → Bool
def BV (K : PySem.W.Frag) (H : Hp) (nv : Nat) (b : Option (List Int)) (x : V) : Prop := (b = none ∧ x = .non) ∨ ∃ a us, b = some us ∧ x = .ref a ∧ SqT K H a (us.map V.int) ∧ us.length = nv
theorem BV.same {K : PySem.W.Frag} {H H' : Hp} {nv : Nat} {b : Option (List Int)} {x : V} (s : Same H H') (h : BV K H nv b x) : BV K H' nv b x := by
  rcases h with h | ⟨a, us, h1, h2, h3, h4⟩
  · exact .inl h
  · exact .inr ⟨a, us, h1, h2, s.tup h3, h4⟩
abbrev RIT := Addr → Hp → Prop
def spR0 (RI : RIT) (v : V) : Sp := fun vs H Q _ => ∃ r, vs = [.ref r] ∧ RI r H ∧ Q v H
def spAfter (K : PySem.W.Frag) (nv : Nat) (RI : RIT) (S : RSem) (G : Int → Prop) : Sp := fun vs H Q _ => ∃ r m x c b us, vs = [.ref r, .int m, x, .ref c] ∧ RI r H ∧ G m ∧ BV K H nv b x ∧ SqT K H c (us.map V.int) ∧ us.length = nv ∧ Q (ofI (S.after m b us)) H
def spCloses (K : PySem.W.Frag) (nv : Nat) (RI : RIT) (S : RSem) (G : Int → Prop) : Sp := fun vs H Q _ => ∃ r m x b, vs = [.ref r, .int m, x] ∧ RI r H ∧ G m ∧ BV K H nv b x ∧ Q (.bl (S.closes m b)) H
structure RuleObj (P : Program) (w : World) (K : PySem.W.Frag) (mg : Str → Option Value) (base : Heap) (k : Nat) (nv : Nat) (C : Addr) (S : RSem) (RI : RIT) (G : Int → Prop) : Prop where
  mono : ∀ r H H', Same H H' → RI r H → RI r H'
  ins : ∀ r H, RI r H → ∃ dx fs, H r = some (.ins C dx fs) ∧ fs.lookup (Str.ofString "size") = none ∧ fs.lookup (Str.ofString "start") = none ∧ fs.lookup (Str.ofString "after") = none ∧ fs.lookup (Str.ofString "closes") = none ∧ fs.lookup (Str.ofString "shown") = none
  g0 : G S.start
  gS : ∀ m b us m', G m → S.after m b us = some m' → G m'
  size : MethOk P w K mg base C "size" k ["self"] (spR0 RI (.int S.size))
  start : MethOk P w K mg base C "start" k ["self"] (spR0 RI (.int S.start))
  after : MethOk P w K mg base C "after" k ["self", "memory", "before", "column"] (spAfter K nv RI S G)
  closes : MethOk P w K mg base C "closes" k ["self", "memory", "last"] (spCloses K nv RI S G)
theorem RuleObj.up {P : Program} {w : World} {K : PySem.W.Frag} {mg : Str → Option Value} {base : Heap} {j k nv : Nat} {C : Addr} {S : RSem} {RI : RIT} {G : Int → Prop} (R : RuleObj P w K mg base j nv C S RI G) (h : j ≤ k) : RuleObj P w K mg base k nv C S RI G :=
  ⟨R.mono, R.ins, R.g0, R.gS, R.size.up h, R.start.up h, R.after.up h, R.closes.up h⟩
def brkGo (S : RSem) (m : Int) (b : Option (List Int)) (i : Nat) : List (List Int) → Option Nat
  | [] => if S.closes m b = true then none else some i
  | c :: cs => match S.after m b c with
    | none => some i
    | some m' => brkGo S m' (some c) (i + 1) cs
def brk (S : RSem) (cols : List (List Int)) : Option Int := (brkGo S S.start none 0 cols).map fun (n : Nat) => (n : Int)
def LineAt (K : PySem.W.Frag) (H : Hp) (l : Addr) (nv : Nat) (cols : List (List Int)) : Prop := ∃ ps : List Addr, SqL K H l (ps.map V.ref) ∧ ps.length = cols.length ∧ ∀ (i : Nat) (p : Addr) (us : List Int), ps[i]? = some p → cols[i]? = some us → SqT K H p (us.map V.int) ∧ us.length = nv
theorem LineAt.same {K : PySem.W.Frag} {H H' : Hp} {l : Addr} {nv : Nat} {cols : List (List Int)} (s : Same H H') (h : LineAt K H l nv cols) : LineAt K H' l nv cols := by
  obtain ⟨ps, h1, h2, h3⟩ := h
  exact ⟨ps, s.seq h1, h2, fun i p us a b => ⟨s.tup (h3 i p us a b).1, (h3 i p us a b).2⟩⟩
def spBroken (P : Program) (w : World) (K : PySem.W.Frag) (mg : Str → Option Value) (base : Heap) (k : Nat) : Sp := fun vs H Q _ => ∃ (r l : Addr) (nv : Nat) (C : Addr) (S : RSem) (RI : RIT) (G : Int → Prop) (cols : List (List Int)),
  vs = [.ref r, .ref l] ∧ RuleObj P w K mg base k nv C S RI G ∧ RI r H ∧ LineAt K H l nv cols ∧ cols.length ≤ 1000 ∧ ∀ H', Same H H' → Q (ofI (brk S cols)) H'
structure RowIs (z kind : Str) (ns : List Int) : Prop where
  cs : z.cps.toList = joinC 32 (kind.cps.toList :: ns.map numC)
  nb : ∀ n ∈ ns, n.natAbs < 10 ^ 40
  nl : ns.length ≤ 20
  ks : 32 ∉ kind.cps.toList
  kl : kind.length ≤ 20
  k0 : kind.cps.toList ≠ []
theorem numC_no (n : Int) : 32 ∉ numC n := fun h => by
  have := numC_signs n 32 h
  omega
theorem str_ext {x y : Str} (h : x.cps.toList = y.cps.toList) : x = y := by
  have := str_eq_codes x y
  rw [decide_eq_true h] at this
  exact of_decide_eq_true this
theorem map_codes_inj : ∀ {xs ys : List Str}, xs.map (fun z => z.cps.toList) = ys.map (fun z => z.cps.toList) → xs = ys
  | [], [], _ => rfl
  | [], _ :: _, h => by simp at h
  | _ :: _, [], h => by simp at h
  | x :: xs, y :: ys, h => by
    rw [List.map_cons, List.map_cons] at h
    injection h with h1 h2
    rw [str_ext h1, map_codes_inj h2]
def numS (n : Int) : Str := Str.ofString (toString n)
theorem RowIs.split {z kind : Str} {ns : List Int} (R : RowIs z kind ns) : Txt.split z ⟨#[32]⟩ = kind :: ns.map numS := by
  refine map_codes_inj ?_
  rw [split_codes z (by decide), R.cs, spl_join 32 _ (by simp) (fun p hp => ?_), List.map_cons, List.map_map]
  · rfl
  · rcases List.mem_cons.mp hp with rfl | hp
    · exact R.ks
    · obtain ⟨n, _, rfl⟩ := List.mem_map.mp hp
      exact numC_no n
theorem joinC_len (c : Nat) : ∀ (ps : List (List Nat)) (m : Nat), (∀ p ∈ ps, p.length ≤ m) → (joinC c ps).length ≤ ps.length * (m + 1)
  | [], _, _ => by simp [joinC]
  | p :: ps, m, h => by
    have h1 := h p (by simp)
    have h2 := joinC_len c ps m (fun q hq => h q (by simp [hq]))
    have h3 : (joinC c (p :: ps)).length ≤ p.length + 1 + (joinC c ps).length := by
      cases ps with
      | nil => simp [joinC]
      | cons q ps =>
        simp [joinC, List.length_append]
        omega
    rw [List.length_cons, Nat.succ_mul]
    omega
theorem RowIs.len {z kind : Str} {ns : List Int} (R : RowIs z kind ns) : z.length ≤ 10000 := by
  rw [str_len, R.cs]
  have h := joinC_len 32 (kind.cps.toList :: ns.map numC) 60 (fun p hp => by
    rcases List.mem_cons.mp hp with rfl | hp
    · have := R.kl; rw [str_len] at this; omega
    · obtain ⟨n, hn, rfl⟩ := List.mem_map.mp hp
      have := numC_len (n := n) (k := 40) (by decide) (R.nb n hn)
      omega)
  have := R.nl
  simp only [List.length_cons, List.length_map] at h
  omega
theorem starts_not (z y : Str) {c : Nat} (hy : y.cps.toList.head? = some c) (hz : z.cps.toList.head? ≠ some c) : Txt.startswith z y = false := by
  obtain ⟨⟨l⟩⟩ := z
  obtain ⟨⟨m⟩⟩ := y
  unfold Txt.startswith
  rw [StrLaws.subAt_eq]
  cases m with
  | nil => simp at hy
  | cons b m =>
    cases l with
    | nil => simp [Str.length]
    | cons a l =>
      simp at hy hz
      subst hy
      simp [Str.length]
      intro _ h
      exact absurd h hz
theorem RowIs.head {z kind : Str} {ns : List Int} (R : RowIs z kind ns) : z.cps.toList.head? = kind.cps.toList.head? := by
  rw [R.cs]
  cases e : kind.cps.toList with
  | nil => exact absurd e R.k0
  | cons a l =>
    cases ns with
    | nil => simp [joinC]
    | cons n ns => simp [joinC]
end L2
namespace L2
open PySem PySem.Spec PyProof.Rows
theorem pe_never {X : Cx} {e : Expr} : PE X e (fun _ _ _ => False) := fun _ _ _ _ _ _ h => h.elim
theorem cutV_from (xs : List V) (k : Nat) : cutV xs (some (k : Int)) none = xs.drop k := by
  unfold cutV
  rw [HT.sIx_nat, HT.sIx_none]
  by_cases h : k ≤ xs.length
  · rw [Nat.min_eq_left h, List.take_of_length_le (by rw [List.length_drop]; omega)]
  · rw [Nat.min_eq_right (by omega), List.drop_of_length_le (Nat.le_refl _), List.drop_of_length_le (by omega), List.take_nil]
theorem cutV_to (xs : List V) (k : Nat) : cutV xs none (some (k : Int)) = xs.take k := by
  unfold cutV HT.sIx
  have e : ¬ ((k : Int) < 0) := by omega
  simp [e]
theorem inV_ints (i : Int) : ∀ D : List Int, inV (.int i) (D.map V.int) = decide (i ∈ D)
  | [] => rfl
  | d :: D => by
    have ih := inV_ints i D
    have e : inV (.int i) ((d :: D).map V.int) = ((d == i) || inV (.int i) (D.map V.int)) := rfl
    rw [e, ih, Bool.eq_iff_iff, Bool.or_eq_true, beq_iff_eq, decide_eq_true_eq, decide_eq_true_eq, List.mem_cons]
    exact ⟨fun h => h.imp Eq.symm id, fun h => h.imp Eq.symm id⟩
theorem rIn_ints {K : PySem.W.Frag} {H : Hp} {a : Addr} {i : Int} {D : List Int} {Q : VK} (h : SqL K H a (D.map V.int)) (q : Q (.bl (decide (i ∈ D))) H) : rInA K (.int i) (.ref a) H Q := by
  refine .inr ⟨a, _, rfl, .inl h, rfl, ?_, ?_⟩
  · rw [List.all_map]; exact List.all_eq_true.mpr fun _ _ => rfl
  · rw [inV_ints]; exact q
theorem SqL.at_ins {K : PySem.W.Frag} {H : Hp} {q x C dx : Addr} {fs : List (Str × V)} {xs : List V} {o : HO} (h : SqL K H q xs) (hx : H x = some (.ins C dx fs)) : SqL K (upd H x o) q xs := by
  rcases h with (h | ⟨u, h⟩) | h
  · exact .inl (.inl (by rw [upd_ne (ne_of h hx (by intro z; cases z))]; exact h))
  · exact .inl (.inr ⟨u, by rw [upd_ne (ne_of h hx (by intro z; cases z))]; exact h⟩)
  · exact .inr h
theorem upd_over {H : Hp} {x l : Addr} {A L B : HO} : upd (upd (upd H x A) l L) x B = upd (upd H l L) x B := by
  funext b
  unfold upd
  by_cases h : b = x
  · rw [if_pos h, if_pos h]
  · rw [if_neg h, if_neg h, if_neg h]
end L2
namespace L2
open PySem PySem.Spec PyProof.Rows
structure MethAt (K : PySem.W.Frag) (C : Addr) (m qual : Str) (st : Stmt) (f : Addr) (fd : FuncData) : Prop where
  me : Meth K C m f
  fn : Fun K m qual st f fd
theorem methAt_mk {K : PySem.W.Frag} {C : Addr} {m qual : Str} {st : Stmt} {f : Addr} {oc : Value} {od an : Option Addr} {osl : Array (Option Value)} {kV doc pm cdv ct : Value} (a : PySem.W.findIn K (.ref C) m = some (some (.ref f))) (i : PySem.W.isFn K (.ref f) = true)
    (l : K.lookup f = some ⟨oc, od, .func (PySem.W.fnOf m qual (defArgs st) (defBody st) (defScope st) .none kV doc pm an cdv ct), osl⟩) (c : PySem.W.codeIn K cdv qual = true) (k : PySem.W.keepIn K (.ref f) = true) : ∃ f fd, MethAt K C m qual st f fd :=
  ⟨f, _, ⟨a, i, k⟩, fun_mk l c k⟩
theorem MethAt.ok {P : Program} {w : World} {K : PySem.W.Frag} {mg : Str → Option Value} {base : Heap} {C : Addr} {m qual : Str} {st : Stmt} {f : Addr} {fd : FuncData} {k : Nat} {ps : List Str} {sp : Sp} (A : MethAt K C m qual st f fd) (cl : Cls K C) (ok : FnOk P w K mg base CX0 k f fd ps sp) (b : Binds K fd ps []) : MethOk P w K mg base C m k ps sp := ⟨cl, f, fd, A.me, ok, b⟩
structure CMethAt (K : PySem.W.Frag) (x m qual : Str) (st : Stmt) (C f : Addr) (fd : FuncData) : Prop where
  ns : PySem.W.nsIn K mainGlobals x = some (some (.ref C))
  cm : CMeth K C m f
  fn : Fun K m qual st f fd
theorem cmethAt_mk {K : PySem.W.Frag} {C : Addr} {x m qual : Str} {st : Stmt} {f : Addr} {oc : Value} {od an : Option Addr} {osl : Array (Option Value)} {kV doc pm cdv ct : Value} (n : PySem.W.nsIn K mainGlobals x = some (some (.ref C))) (r : PySem.W.readsIn K C (.type "type") = true) (a : PySem.W.findCls K (.ref C) (.type "type") m = some (.val (.ref f)))
    (g : PySem.W.specialIn K (.ref C) "__getattribute__" = some (some (.builtin "type.__getattribute__")))
    (l : K.lookup f = some ⟨oc, od, .func (PySem.W.fnOf m qual (defArgs st) (defBody st) (defScope st) .none kV doc pm an cdv ct), osl⟩) (c : PySem.W.codeIn K cdv qual = true) (k : PySem.W.keepIn K (.ref f) = true) : ∃ C f fd, CMethAt K x m qual st C f fd :=
  ⟨C, f, _, n, ⟨r, a, g, k⟩, fun_mk l c k⟩
theorem CMethAt.df {P : Program} {w : World} {K : PySem.W.Frag} {mg : Str → Option Value} {base h : Heap} {x m qual : Str} {st : Stmt} {C f : Addr} {fd : FuncData} {k : Nat} {ps : List Str} {sp : Sp} (A : CMethAt K x m qual st C f fd) (X : K.In h) (G : h.Ns mainGlobals mg) (ok : FnOk P w K mg base CX0 k f fd ps sp) (b : Binds K fd ps []) : DefC P w K mg base x m k ps sp :=
  ⟨C, f, fd, PySem.W.mg_of X G A.ns, A.cm, ok, b⟩
structure MkAt (K : PySem.W.Frag) (x qual : Str) (st : Stmt) (C f : Addr) (fd : FuncData) : Prop where
  ns : PySem.W.nsIn K mainGlobals x = some (some (.ref C))
  mm : Mk K C f
  fn : Fun K "__init__" qual st f fd
theorem mkAt_mk {K : PySem.W.Frag} {C : Addr} {x qual : Str} {st : Stmt} {f : Addr} {oc : Value} {od an : Option Addr} {osl : Array (Option Value)} {kV doc pm cdv ct : Value} (n : PySem.W.nsIn K mainGlobals x = some (some (.ref C))) (mk : PySem.W.makesIn K C = true) (a : PySem.W.findIn K (.ref C) "__init__" = some (some (.ref f))) (i : PySem.W.isFn K (.ref f) = true) (kc : PySem.W.keepIn K (.ref C) = true)
    (l : K.lookup f = some ⟨oc, od, .func (PySem.W.fnOf "__init__" qual (defArgs st) (defBody st) (defScope st) .none kV doc pm an cdv ct), osl⟩) (c : PySem.W.codeIn K cdv qual = true) (k : PySem.W.keepIn K (.ref f) = true) : ∃ f fd, MkAt K x qual st C f fd :=
  ⟨f, _, n, ⟨mk, a, i, kc⟩, fun_mk l c k⟩
theorem MkAt.df {P : Program} {w : World} {K : PySem.W.Frag} {mg : Str → Option Value} {base h : Heap} {x qual : Str} {st : Stmt} {C f : Addr} {fd : FuncData} {k : Nat} {ps : List Str} {sp : Sp} (A : MkAt K x qual st C f fd) (X : K.In h) (G : h.Ns mainGlobals mg) (ok : FnOk P w K mg base CX0 k f fd ps sp) (b : Binds K fd ps []) : DefM P w K mg base x C k ps sp :=
  ⟨f, fd, A.mm, ok, PySem.W.mg_of X G A.ns, b⟩
theorem joinC_two (c : Nat) (a b : List Nat) (ps : List (List Nat)) : joinC c (a :: b :: ps) = a ++ c :: joinC c (b :: ps) := by simp [joinC]
theorem ixN_in {n : Nat} {k : Int} (h0 : 0 ≤ k) (h1 : k < n) : ixN n k = some k.toNat := by
  unfold ixN
  obtain ⟨j, rfl⟩ := Int.eq_ofNat_of_zero_le h0
  simp
  omega
theorem str_log {n : Int} (h : n.natAbs < 10 ^ 40) : n.natAbs.log2 < 1920 := by
  by_cases h0 : n.natAbs = 0
  · rw [h0]; decide
  · exact (Nat.log2_lt h0).mpr (Nat.lt_of_lt_of_le h (by decide +kernel))
theorem numS_len {n : Int} (h : n.natAbs < 10 ^ 40) : (numS n).length ≤ 41 := by
  rw [str_len]
  exact numC_len (n := n) (k := 40) (by decide) h
theorem sum_le_of : ∀ (ys : List Str) (m : Nat), (∀ y ∈ ys, y.length ≤ m) → (ys.map (·.length)).sum ≤ ys.length * m
  | [], _, _ => by simp
  | y :: ys, m, h => by
    have h1 := h y (by simp)
    have h2 := sum_le_of ys m (fun z hz => h z (by simp [hz]))
    rw [List.map_cons, List.sum_cons, List.length_cons, Nat.succ_mul]
    omega
theorem noteA_ix {us : List Int} {v : Int} (h1 : 0 ≤ v) (h2 : v < us.length) : atI (us.map V.int) v = some (.int (noteA us (v + 1))) := by
  have := noteA_at (us := us) (v := v + 1) (by omega) (by omega)
  rwa [show v + 1 - 1 = v by omega] at this
theorem noteA_mem {us : List Int} {v : Int} (h1 : 1 ≤ v) (h2 : v ≤ us.length) : noteA us v ∈ us := by
  unfold noteA
  have hl : (v - 1).toNat < us.length := by omega
  rw [List.getD_eq_getElem?_getD, List.getElem?_eq_getElem hl]
  exact List.getElem_mem hl
theorem rowsR {e : DictEntry} {x : Str} {t : Tok} {f : Addr} {es : List DictEntry} {D : List (Str × V)} (h1 : e.key = .str x t) (h2 : e.val = .ref f) (r : KTD.Rows RelV es D) : KTD.Rows RelV (e :: es) ((x, V.ref f) :: D) := .cons h1 h2 r
theorem tab_mk {K : PySem.W.Frag} {a : Addr} {o : Obj} {es : Array DictEntry} {ep : Nat} {D : List (Str × V)} (l : K.lookup a = some o) (s : (a == sysModules) = false) (x : o.cls = .type "dict") (y : o.dict = none) (z : o.slots = #[]) (d : o.data = .dict es ep) (r : KTD.Rows RelV es.toList D) : TabK K a D := ⟨s, o, es, ep, l, ⟨x, y, z⟩, d, r⟩
theorem defAtD_mk2 {K : PySem.W.Frag} {x : Str} {st : Stmt} {f T : Addr} {oc : Value} {od an : Option Addr} {osl : Array (Option Value)} {kV doc pm cdv ct u : Value} {o : Obj} {n : Nat} {v : V} (a : PySem.W.nsIn K mainGlobals x = some (some (.ref f)))
    (l : K.lookup f = some ⟨oc, od, .func (PySem.W.fnOf x x (defArgs st) (defBody st) (defScope st) (.ref T) kV doc pm an cdv ct), osl⟩) (c : PySem.W.codeIn K cdv x = true) (k : PySem.W.keepIn K (.ref f) = true)
    (t : K.lookup T = some o) (d : o.data = .seq #[u] n) (r : RelV v u) : ∃ f fd u, DefAtD K x st f fd u ∧ RelV v u :=
  ⟨f, _, u, ⟨a, T, o, n, ⟨⟨oc, od, kV, doc, pm, an, cdv, ct, osl, rfl, l, c⟩, k⟩, t, d⟩, r⟩
end L2
namespace L2
open PySem PySem.Spec PyProof.Rows
section
variable {X : Cx}
theorem call_str_text : CallR X (.type "str") (fun xs H Q => ∃ z, xs = [.str z] ∧ Q (.str z) H) := by
  intro pins s σ H xs us Q I r h
  obtain ⟨z, rfl, q⟩ := h
  obtain ⟨u, rfl, ru⟩ := vals1 r
  obtain ⟨t, rfl⟩ := ru
  exact P.str_of_str ⟨.str z, H, I, ⟨t, rfl⟩, q⟩
def rStr : List V → Hp → VK → Prop := fun xs H Q => (∃ i, xs = [.int i] ∧ i.natAbs.log2 < 1920 ∧ Q (.str (numS i)) H) ∨ ∃ z, xs = [.str z] ∧ Q (.str z) H
theorem call_strB : CallR X (.type "str") rStr := call_str_int.or call_str_text
end
theorem rStr_i {i : Int} {H : Hp} {Q : VK} : rStr [.int i] H Q ↔ i.natAbs.log2 < 1920 ∧ Q (.str (numS i)) H := by simp [rStr]
theorem rStr_s {z : Str} {H : Hp} {Q : VK} : rStr [.str z] H Q ↔ Q (.str z) H := by simp [rStr]
theorem cutV_sub (ns : List Int) (lo hi : Option Int) : ∃ ms : List Int, cutV (ns.map V.int) lo hi = ms.map V.int ∧ ms.length ≤ ns.length ∧ ∀ m ∈ ms, m ∈ ns := by
  refine ⟨(ns.drop (HT.sIx (ns.map V.int).length 0 lo)).take (HT.sIx (ns.map V.int).length (ns.map V.int).length hi - HT.sIx (ns.map V.int).length 0 lo), ?_, ?_, fun m hm => ?_⟩
  · unfold cutV
    rw [List.map_take, List.map_drop]
  · rw [List.length_take, List.length_drop]
    omega
  · exact List.mem_of_mem_drop (List.mem_of_mem_take hm)
theorem row_join {kind : Str} {ns : List Int} (nb : ∀ n ∈ ns, n.natAbs < 10 ^ 40) (nl : ns.length ≤ 20) (ks : 32 ∉ kind.cps.toList) (kl : kind.length ≤ 20) (k0 : kind.cps.toList ≠ []) : RowIs (Txt.join (Str.ofString " ") (kind :: ns.map numS)) kind ns := by
  have e32 : (Str.ofString " ") = ⟨#[32]⟩ := by decide +kernel
  refine ⟨?_, nb, nl, ks, kl, k0⟩
  rw [e32, join_codes, List.map_cons, List.map_map]
  rfl
theorem LineAt.sub {K : PySem.W.Frag} {H : Hp} {l q : Addr} {nv : Nat} {cols : List (List Int)} {ps : List Addr} (hpl : ps.length = cols.length) (hpc : ∀ (i : Nat) (p : Addr) (us : List Int), ps[i]? = some p → cols[i]? = some us → SqT K H p (us.map V.int) ∧ us.length = nv) (a b : Nat) (hq : SqL K H q (((ps.drop a).take b).map V.ref)) : LineAt K H q nv ((cols.drop a).take b) := by
  refine ⟨_, hq, by rw [List.length_take, List.length_take, List.length_drop, List.length_drop, hpl], fun i p us e1 e2 => ?_⟩
  rw [List.getElem?_take] at e1 e2
  split at e1
  · rename_i hib
    rw [if_pos hib] at e2
    rw [List.getElem?_drop] at e1 e2
    exact hpc _ p us e1 e2
  · cases e1
end L2
namespace L3
open PySem PySem.Spec PyProof.Rows
section
variable {prog : Program} {w : World} {A : Around} {E : Value → Shared → Prop} {s : Shared}
end
end L3
namespace L2
open PySem PySem.Spec PyProof.Rows
def gSeq (K : PySem.W.Frag) (n : Nat) (t : TGs) : TG := fun v σ H Q => ∃ a l xs, v = .ref a ∧ SqB K l H a xs ∧ xs.length = n ∧ t xs σ H Q
theorem rNotIn_ints {K : PySem.W.Frag} {H : Hp} {a : Addr} {i : Int} {D : List Int} {Q : VK} (h : SqL K H a (D.map V.int)) (q : Q (.bl (!decide (i ∈ D))) H) : rNotInA K (.int i) (.ref a) H Q := by
  refine .inr ⟨a, _, rfl, .inl h, rfl, ?_, ?_⟩
  · rw [List.all_map]; exact List.all_eq_true.mpr fun _ _ => rfl
  · rw [inV_ints]; exact q
theorem EqS_nil {K : PySem.W.Frag} {H : Hp} {n : Nat} {a c : Addr} {l : Bool} {xs : List V} (h1 : SqB K l H a xs) (h2 : SqB K l H c []) : EqS K H n (.ref a) (.ref c) (xs.length == 0) := by
  refine ⟨a, c, l, xs, [], fun _ => true, rfl, rfl, h1, h2, fun j x y _ hy => (by simp at hy), ?_⟩
  simp
theorem rNeC_nil {K : PySem.W.Frag} {H : Hp} {a c : Addr} {l : Bool} {xs : List V} {Q : VK} (h1 : SqB K l H a xs) (h2 : SqB K l H c []) (q : Q (.bl (!(xs.length == 0))) H) : rNeC K (.ref a) (.ref c) H Q := .inr ⟨_, EqS_nil h1 h2, q⟩
theorem atI_lastN {α : Type} {xs : List α} {v : α} {n : Nat} (hl : xs.length = n + 1) (h : xs[n]? = some v) : atI xs (-1) = some v := by
  unfold atI ixN
  rw [if_neg (by decide), if_pos (by omega), hl]
  show xs[((-1 : Int) + ((n + 1 : Nat) : Int)).toNat]? = some v
  rw [show ((-1 : Int) + ((n + 1 : Nat) : Int)).toNat = n by omega]
  exact h
end L2
namespace L2
open PySem PySem.Spec PyProof.Rows
section
variable {X : Cx} {e st : Expr} {te : TE} {p2 pos : Pos}
def tRev (K : PySem.W.Frag) (te ts : TE) : TE := fun σ H Q => te σ H fun x H1 => ts σ H1 fun y H2 => y = .int (-1) ∧ ∃ a xs, x = .ref a ∧ SqL K H2 a xs ∧ ∀ p, H2 p = none → Q (.ref p) (upd H2 p (.lst xs.reverse))
end
end L2
namespace L2
open PySem PySem.Spec PyProof.Rows
def firstN (B : Nat → Bool) (i : Nat) : Nat → Option Nat
  | 0 => none
  | k + 1 => if B i = true then some i else firstN B (i + 1) k
theorem firstN_snoc (B : Nat → Bool) : ∀ (k i : Nat), firstN B i (k + 1) = match firstN B i k with | some j => some j | none => if B (i + k) = true then some (i + k) else none
  | 0, i => by simp [firstN]
  | k + 1, i => by
    have ih := firstN_snoc B k (i + 1)
    rw [firstN, ih]
    by_cases hb : B i = true
    · simp [firstN, hb]
    · rw [if_neg hb]
      simp only [firstN]
      rw [if_neg hb, show i + 1 + k = i + (k + 1) by omega]
def prevC (cols : List (List Int)) : Nat → Option (List Int)
  | 0 => none
  | i + 1 => cols[i]?
structure Walks (S : RSem) (cols : List (List Int)) (mem : Nat → Int) (B : Nat → Bool) : Prop where
  m0 : S.start = mem 0
  st : ∀ (i : Nat) (us : List Int), cols[i]? = some us → S.after (mem i) (prevC cols i) us = if B i = true then none else some (mem (i + 1))
theorem Walks.go {S : RSem} {cols : List (List Int)} {mem : Nat → Int} {B : Nat → Bool} (h : Walks S cols mem B) : ∀ (k i : Nat), i + k = cols.length → brkGo S (mem i) (prevC cols i) i (cols.drop i) = match firstN B i k with | some j => some j | none => if S.closes (mem cols.length) (prevC cols cols.length) = true then none else some cols.length
  | 0, i, e => by
    have e' : i = cols.length := by omega
    subst e'
    rw [List.drop_length]
    rfl
  | k + 1, i, e => by
    have hi : i < cols.length := by omega
    rw [List.drop_eq_getElem_cons hi]
    simp only [brkGo, firstN]
    rw [h.st i cols[i] (List.getElem?_eq_getElem hi)]
    by_cases hb : B i = true
    · rw [if_pos hb, if_pos hb]
    · rw [if_neg hb, if_neg hb]
      have := h.go k (i + 1) (by omega)
      rw [show prevC cols (i + 1) = some cols[i] from List.getElem?_eq_getElem hi] at this
      exact this
def dueW (B : Nat → Bool) (n : Nat) (cl : Bool) : Option Int := match firstN B 0 n with | some j => some (j : Int) | none => if cl = true then none else some (n : Int)
theorem Walks.brk {S : RSem} {cols : List (List Int)} {mem : Nat → Int} {B : Nat → Bool} (h : Walks S cols mem B) : brk S cols = dueW B cols.length (S.closes (mem cols.length) (prevC cols cols.length)) := by
  have := h.go cols.length 0 (by omega)
  unfold L2.brk dueW
  rw [h.m0]
  rw [show prevC cols 0 = none from rfl, List.drop_zero] at this
  rw [this]
  cases firstN B 0 cols.length with
  | some j => rfl
  | none =>
    simp only
    by_cases hc : S.closes (mem cols.length) (prevC cols cols.length) = true
    · rw [if_pos hc, if_pos hc]; rfl
    · rw [if_neg hc, if_neg hc]; rfl
theorem BV.prev {K : PySem.W.Frag} {H : Hp} {nv : Nat} {cols : List (List Int)} {ps : List Addr} (hpl : ps.length = cols.length) (hpc : ∀ (i : Nat) (p : Addr) (us : List Int), ps[i]? = some p → cols[i]? = some us → SqT K H p (us.map V.int) ∧ us.length = nv) {i : Nat} (hi : i < ps.length) : BV K H nv (prevC cols (i + 1)) (.ref ps[i]) := by
  have e2 : cols[i]? = some (cols[i]'(by omega)) := List.getElem?_eq_getElem (by omega)
  obtain ⟨h1, h2⟩ := hpc i _ _ (List.getElem?_eq_getElem hi) e2
  exact .inr ⟨_, _, e2, rfl, h1, h2⟩
def ColsAt (H : Hp) (nv : Nat) (ps : List Addr) (cols : List (List Int)) : Prop := ps.length = cols.length ∧ ∀ (i : Nat) (p : Addr) (us : List Int), ps[i]? = some p → cols[i]? = some us → H p = some (.tup (us.map V.int)) ∧ us.length = nv
theorem ColsAt.nil {H : Hp} {nv : Nat} : ColsAt H nv [] [] := ⟨rfl, fun _ _ _ e => by cases e⟩
theorem ColsAt.same {H H' : Hp} {nv : Nat} {ps : List Addr} {cols : List (List Int)} (s : Same H H') (h : ColsAt H nv ps cols) : ColsAt H' nv ps cols := ⟨h.1, fun i p us e1 e2 => ⟨s _ _ (h.2 i p us e1 e2).1, (h.2 i p us e1 e2).2⟩⟩
theorem ColsAt.updl {H : Hp} {nv : Nat} {ps : List Addr} {cols : List (List Int)} {l : Addr} {xs : List V} {o : HO} (hl : H l = some (.lst xs)) (h : ColsAt H nv ps cols) : ColsAt (upd H l o) nv ps cols := ⟨h.1, fun i p us e1 e2 => ⟨by
  rw [upd_ne (ne_of (h.2 i p us e1 e2).1 hl (by intro z; cases z))]
  exact (h.2 i p us e1 e2).1, (h.2 i p us e1 e2).2⟩⟩
theorem ColsAt.snoc {H : Hp} {nv : Nat} {ps : List Addr} {cols : List (List Int)} {t : Addr} {us : List Int} (h : ColsAt H nv ps cols) (ht : H t = some (.tup (us.map V.int))) (hu : us.length = nv) : ColsAt H nv (ps ++ [t]) (cols ++ [us]) := by
  refine ⟨by simp [h.1], fun j p us' e1 e2 => ?_⟩
  have hl := h.1
  by_cases hj : j < ps.length
  · rw [List.getElem?_append_left hj] at e1
    rw [List.getElem?_append_left (by omega)] at e2
    exact h.2 j p us' e1 e2
  · rw [List.getElem?_append_right (by omega)] at e1 e2
    have ej : j = ps.length := by
      have := (List.getElem?_eq_some_iff.mp e1).1
      simp at this
      omega
    rw [ej, Nat.sub_self] at e1
    rw [ej, hl, Nat.sub_self] at e2
    cases e1
    cases e2
    exact ⟨ht, hu⟩
theorem ColsAt.set {H : Hp} {nv : Nat} {ps : List Addr} {cols : List (List Int)} {t : Addr} {us : List Int} (k : Nat) (h : ColsAt H nv ps cols) (ht : H t = some (.tup (us.map V.int))) (hu : us.length = nv) : ColsAt H nv (ps.set k t) (cols.set k us) := by
  refine ⟨by simp [h.1], fun j p us' e1 e2 => ?_⟩
  rw [List.getElem?_set] at e1 e2
  by_cases hj : k = j
  · rw [if_pos hj] at e1 e2
    split at e1
    · split at e2
      · cases e1; cases e2; exact ⟨ht, hu⟩
      · cases e2
    · cases e1
  · rw [if_neg hj] at e1 e2
    exact h.2 j p us' e1 e2
theorem ColsAt.at {K : PySem.W.Frag} {H : Hp} {nv : Nat} {ps : List Addr} {cols : List (List Int)} (h : ColsAt H nv ps cols) : ∀ (i : Nat) (p : Addr) (us : List Int), ps[i]? = some p → cols[i]? = some us → SqT K H p (us.map V.int) ∧ us.length = nv := fun i p us e1 e2 => ⟨SqT.of (h.2 i p us e1 e2).1, (h.2 i p us e1 e2).2⟩
theorem ColsAt.line {K : PySem.W.Frag} {H : Hp} {nv : Nat} {ps : List Addr} {cols : List (List Int)} {l : Addr} (h : ColsAt H nv ps cols) (hl : H l = some (.lst (ps.map V.ref))) : LineAt K H l nv cols := ⟨ps, SqL.of hl, h.1, h.at⟩
theorem ixN_last (n : Nat) : ixN (n + 1) (-1) = some n := by
  unfold ixN
  rw [if_neg (by decide), if_pos (by omega)]
  congr 1
  omega
theorem line_at {K : PySem.W.Frag} {H : Hp} {nv : Nat} {cols : List (List Int)} {ps : List Addr} {l : Addr} {o : Int} (hps : SqL K H l (ps.map V.ref)) (hpl : ps.length = cols.length) (hpc : ∀ (i : Nat) (p : Addr) (us : List Int), ps[i]? = some p → cols[i]? = some us → SqT K H p (us.map V.int) ∧ us.length = nv) (o0 : 0 ≤ o) (o1 : o < nv) {p : Int} (p0 : 0 ≤ p) (p1 : p < cols.length) {Q : VK} (q : Q (.int (noteA (cols.getD p.toNat []) (o + 1))) H) : rIx K (.ref l) (.int p) H fun x H1 => rIx K x (.int o) H1 Q := by
  obtain ⟨i, rfl⟩ := Int.eq_ofNat_of_zero_le p0
  have hi : i < cols.length := by omega
  have e2 : cols[i]? = some cols[i] := List.getElem?_eq_getElem hi
  obtain ⟨h1, h2⟩ := hpc i _ _ (List.getElem?_eq_getElem (show i < ps.length by omega)) e2
  refine rIx_l hps (show atI _ ((i : Nat) : Int) = some (.ref ps[i]) from atI_nat (by rw [List.getElem?_map, List.getElem?_eq_getElem (show i < ps.length by omega)]; rfl)) ?_
  refine rIx_t h1 (noteA_ix o0 (by omega)) ?_
  rw [List.getD_eq_getElem?_getD, Int.toNat_natCast, e2] at q
  exact q
end L2
namespace L3
open PySem PySem.Spec PyProof.Rows L2 HT
section
variable {prog : Program} {w : World} {A : Around} {E : Value → Shared → Prop} {s : Shared}
end
end L3
namespace L2
open PySem PySem.Spec PyProof.Rows
section
variable {X : Cx}
def rCat0 (K : PySem.W.Frag) : R2 := fun x y H Q => ∃ a b ys, x = .ref a ∧ y = .ref b ∧ SqT K H a [] ∧ SqT K H b ys ∧ Q (.ref b) H
def rAddT (K : PySem.W.Frag) : R2 := fun x y H Q => rAddA K x y H Q ∨ rCat0 K x y H Q
end
theorem rAddT_ii {K : PySem.W.Frag} {i j : Int} {H : Hp} {Q : VK} : rAddT K (.int i) (.int j) H Q ↔ Q (.int (i + j)) H := by
  simp [rAddT, rAddA_ii, rCat0]
end L2
namespace L2
open PySem PySem.Spec PyProof.Rows
def Itd (lo : Int) (n : Nat) : It := ⟨fun i _ => i < n, fun i H x H' => H' = H ∧ x = .int (lo - i), fun i _ => n ≤ i⟩
section
variable {X : Cx} {tg : Expr}
def iRngD (ta : TA) : TI := fun σ H R => ta σ H fun vs H1 => ∃ i j : Int, vs = [.int i, .int j, .int (-1)] ∧ (-(2 ^ 62) ≤ i ∧ i < 2 ^ 62 ∧ -(2 ^ 62) ≤ j ∧ j < 2 ^ 62) ∧ R (Itd i (i - j).toNat) H1
end
theorem vals_intItems : ∀ {ns : List Int} {us : List Value}, Vals (ns.map V.int) us → ∃ ps : List (Int × Tok), us = ps.map (fun p => Value.int p.1 p.2) ∧ ps.map (·.1) = ns
  | [], _, .nil => ⟨[], rfl, rfl⟩
  | n :: ns, _, .cons r t => by
    obtain ⟨ps, e1, e2⟩ := vals_intItems t
    obtain ⟨tk, rfl⟩ := r
    exact ⟨(n, tk) :: ps, by rw [e1]; rfl, by rw [← e2]; rfl⟩
theorem call_minL {X : Cx} (hc : X.calm = true) (K : PySem.W.Frag) (hK : X.K = K := by rfl) : CallR X (.builtin "min") (fun xs H Q => ∃ p ns, xs = [.ref p] ∧ SqL K H p (List.map V.int ns) ∧ ns ≠ [] ∧ ∀ i ∈ ns, Q (.int i) H) := by
  subst hK
  intro pins s σ H xs us Q I r h
  obtain ⟨p, ns, rfl, hp, hne, q⟩ := h
  obtain ⟨u, rfl, ru⟩ := vals1 r
  cases ru
  obtain ⟨its, rv, ht, _⟩ := I.list hp
  obtain ⟨ps, e1, e2⟩ := vals_intItems rv
  have hl : s.heap.IsList p (intItems ps.toArray) := by
    have := ht.isList
    rw [e1] at this
    simpa [intItems] using this
  refine min_intList (I.ok.hd hc) hl (by
    rw [List.size_toArray]
    have : ps.length = ns.length := by rw [← e2, List.length_map]
    have : ns.length ≠ 0 := fun z => hne (List.length_eq_zero_iff.mp z)
    omega) fun v h' tk hv hk => ?_
  simp only [intItems, List.map_toArray, List.getElem?_toArray, List.getElem?_map, Option.map_eq_some_iff] at hv
  obtain ⟨⟨a, t⟩, ha, rfl⟩ := hv
  refine ⟨.int a, H, I.kept (t' := tk) fun b o e => hk b o e, ⟨t, rfl⟩, q a ?_⟩
  rw [← e2]
  exact List.mem_map_of_mem (f := fun p : Int × Tok => p.1) (List.mem_of_getElem? ha)
end L2
namespace L2
open PySem PySem.Spec PyProof.Rows
def splN (c : Nat) : Nat → List Nat → List (List Nat)
  | 0, l => [l]
  | _ + 1, [] => [[]]
  | n + 1, a :: l => if a = c then [] :: splN c n l else match splN c (n + 1) l with
    | [] => [[a]]
    | p :: r => (a :: p) :: r
theorem splN_ne (c : Nat) : ∀ n l, splN c n l ≠ []
  | 0, l => by simp [splN]
  | n + 1, [] => by simp [splN]
  | n + 1, a :: l => by
    simp only [splN]
    split
    · simp
    · split <;> simp
theorem occ_scanN (x : Str) (c : Nat) (lim : Nat) : ∀ (l : List Nat) (i : Nat) (acc : Array Nat) (fr : Nat), x.cps.toList.drop i = l → fr ≤ i →
    (forIn (List.range' i (l.length + 1)) (acc, fr) (StrLaws.occBody x ⟨#[c]⟩ x.length lim)).run.fst.toList = acc.toList ++ (posF c l i).take (lim - acc.size)
  | [], i, acc, fr, hl, hf => by
    have hi : x.length ≤ i := by
      rw [str_len]
      exact List.drop_eq_nil_iff.mp hl
    show (forIn [i] (acc, fr) _ : Id _).run.fst.toList = _
    rw [List.forIn_cons]
    unfold StrLaws.occBody
    rw [if_neg (by intro h; have := h.1.2; have e1 : (⟨#[c]⟩ : Str).length = 1 := rfl; rw [e1] at this; omega)]
    show acc.toList = _
    simp [posF]
  | b :: l, i, acc, fr, hl, hf => by
    have hb : x.cps.toList[i]? = some b := by
      have : (x.cps.toList.drop i)[0]? = some b := by rw [hl]; rfl
      rwa [List.getElem?_drop, Nat.add_zero] at this
    have hi : i < x.length := by
      rw [str_len]
      obtain ⟨h, _⟩ := List.getElem?_eq_some_iff.mp hb
      exact h
    have hd : x.cps.toList.drop (i + 1) = l := by
      rw [← List.drop_drop, hl]; rfl
    have e1 : (⟨#[c]⟩ : Str).length = 1 := rfl
    show (forIn (i :: List.range' (i + 1) (l.length + 1)) (acc, fr) _ : Id _).run.fst.toList = _
    rw [List.forIn_cons]
    unfold StrLaws.occBody
    by_cases hc : b = c
    · by_cases hs : acc.size < lim
      · rw [if_pos ⟨⟨⟨hs, hf⟩, by rw [e1]; omega⟩, ((StrLaws.subAt_one x c i).mpr (by rw [hb, hc])).2⟩]
        show (forIn (List.range' (i + 1) (l.length + 1)) (acc.push i, i + 1) (StrLaws.occBody x ⟨#[c]⟩ x.length lim) : Id _).run.fst.toList = _
        rw [occ_scanN x c lim l (i + 1) _ _ hd (Nat.le_refl _), Array.size_push]
        simp only [posF, hc, if_true]
        rw [show lim - acc.size = (lim - (acc.size + 1)) + 1 by omega, List.take_succ_cons]
        simp
      · rw [if_neg (fun h => hs h.1.1.1)]
        show (forIn (List.range' (i + 1) (l.length + 1)) (acc, fr) (StrLaws.occBody x ⟨#[c]⟩ x.length lim) : Id _).run.fst.toList = _
        rw [occ_scanN x c lim l (i + 1) _ _ hd (by omega)]
        rw [show lim - acc.size = 0 by omega]
        simp
    · rw [if_neg (fun h => hc (by have := (StrLaws.subAt_one x c i).mp ⟨h.1.2, h.2⟩; rw [hb] at this; exact Option.some.inj this))]
      show (forIn (List.range' (i + 1) (l.length + 1)) (acc, fr) (StrLaws.occBody x ⟨#[c]⟩ x.length lim) : Id _).run.fst.toList = _
      rw [occ_scanN x c lim l (i + 1) _ _ hd (by omega)]
      simp [posF, hc]
theorem occ_oneN (x : Str) (c n : Nat) : Builtin.Str.occurrences x ⟨#[c]⟩ 0 x.length n = (posF c x.cps.toList 0).take n := by
  rw [StrLaws.occ_eq]
  have e : x.length + 1 - 0 = x.cps.toList.length + 1 := by rw [str_len]; rfl
  rw [e]
  have h := occ_scanN x c n x.cps.toList 0 #[] 0 rfl (Nat.le_refl _)
  rw [h]
  rfl
theorem parts_scanN (x : Str) (c : Nat) : ∀ (l : List Nat) (n a j : Nat), a ≤ j → x.cps.toList.drop j = l → j ≤ x.length →
    (StrLaws.partsFrom x 1 a ((posF c l j).take n)).map (fun z => z.cps.toList) = match splN c n l with
      | [] => []
      | p :: r => ((x.cps.toList.drop a).take (j - a) ++ p) :: r
  | l, 0, a, j, haj, hl, hj => by
    simp only [List.take_zero, splN, StrLaws.partsFrom, List.map_cons, List.map_nil, StrLaws.strSub_toList]
    congr 1
    rw [List.take_of_length_le (by rw [List.length_drop, str_len]; omega)]
    have := List.take_append_drop (j - a) (x.cps.toList.drop a)
    rw [List.drop_drop, show a + (j - a) = j by omega, hl] at this
    exact this.symm
  | [], n + 1, a, j, haj, hl, hj => by
    have hj' : x.length ≤ j := by rw [str_len]; exact List.drop_eq_nil_iff.mp hl
    have e : j = x.length := by omega
    subst e
    simp [posF, splN, StrLaws.partsFrom, StrLaws.strSub_toList]
  | b :: l, n + 1, a, j, haj, hl, hj => by
    have hb : x.cps.toList[j]? = some b := by
      have : (x.cps.toList.drop j)[0]? = some b := by rw [hl]; rfl
      rwa [List.getElem?_drop, Nat.add_zero] at this
    have hi : j < x.length := by
      rw [str_len]
      obtain ⟨h, _⟩ := List.getElem?_eq_some_iff.mp hb
      exact h
    have hd : x.cps.toList.drop (j + 1) = l := by
      rw [← List.drop_drop, hl]; rfl
    by_cases hc : b = c
    · have ih := parts_scanN x c l n (j + 1) (j + 1) (Nat.le_refl _) hd hi
      simp only [posF, hc, if_true, List.take_succ_cons, StrLaws.partsFrom, List.map_cons, splN, List.append_nil]
      rw [ih]
      cases hs : splN c n l with
      | nil => exact absurd hs (splN_ne c n l)
      | cons p r => simp [StrLaws.strSub_toList]
    · have ih := parts_scanN x c l (n + 1) a (j + 1) (by omega) hd hi
      simp only [posF, hc, if_false, splN]
      rw [ih]
      cases hs : splN c (n + 1) l with
      | nil => exact absurd hs (splN_ne c (n + 1) l)
      | cons p r =>
        have ht : (x.cps.toList.drop a).take (j + 1 - a) = (x.cps.toList.drop a).take (j - a) ++ [b] := by
          have e1 : j + 1 - a = (j - a) + 1 := by omega
          rw [e1, List.take_add_one, List.getElem?_drop]
          have e2 : a + (j - a) = j := by omega
          rw [e2, hb]; rfl
        simp [ht]
theorem splN_cut (c n : Nat) (rest : List Nat) : ∀ (p : List Nat), c ∉ p → splN c (n + 1) (p ++ c :: rest) = p :: splN c n rest
  | [], _ => by simp [splN]
  | a :: p, h => by
    have h1 : ¬ a = c := fun e => h (by simp [e])
    have ih := splN_cut c n rest p (fun e => h (by simp [e]))
    show splN c (n + 1) (a :: (p ++ c :: rest)) = _
    simp only [splN, h1, if_false]
    rw [ih]
theorem pos_some (c : Nat) (rest : List Nat) : ∀ (p : List Nat) (i : Nat), posF c (p ++ c :: rest) i ≠ []
  | [], i => by simp [posF]
  | a :: p, i => by
    show posF c (a :: (p ++ c :: rest)) i ≠ []
    simp only [posF]
    split
    · simp
    · exact pos_some c rest p (i + 1)
def parts2 (z : Str) (c k : Nat) : List Str := Builtin.Str.partsBetween z ((posF c z.cps.toList 0).take k) 1
theorem parts2_codes (z : Str) (c k : Nat) : (parts2 z c k).map (fun y => y.cps.toList) = splN c k z.cps.toList := by
  unfold parts2
  rw [StrLaws.partsBetween_eq, parts_scanN z c z.cps.toList k 0 0 (Nat.le_refl _) rfl (Nat.zero_le _)]
  cases hs : splN c k z.cps.toList with
  | nil => exact absurd hs (splN_ne c k _)
  | cons p r => simp
theorem mt_split2 {X : Cx} : MtR X "str.split" (fun x xs H Q => ∃ z c k, x = .str z ∧ xs = [.str ⟨#[c]⟩, .int k] ∧ c < 256 ∧ 0 < k ∧ k < 2 ^ 30 ∧ posF c z.cps.toList 0 ≠ [] ∧ z.length < sizeLine ∧ (parts2 z c k.toNat).length ≤ sizeLine ∧ ∀ p, H p = none → Q (.ref p) (upd H p (.lst ((parts2 z c k.toNat).map V.str)))) := by
  intro pins s σ H x xs v us Q I rx r h
  obtain ⟨z, c, k, rfl, rfl, hc, k0, k1, hne, hz, hlen, q⟩ := h
  obtain ⟨t, rfl⟩ := rx
  obtain ⟨u, u2, rfl, ⟨t', rfl⟩, ⟨t2, rfl⟩⟩ := vals2 r
  have ek : Builtin.Str.strKind ⟨#[c]⟩ = 1 := by simp [Builtin.Str.strKind, hc]
  have ek2 : 1 ≤ Builtin.Str.strKind z := by unfold Builtin.Str.strKind; split <;> (try split) <;> omega
  have hzl : 1 ≤ z.length := by
    rw [str_len]
    cases hz' : z.cps.toList with
    | nil => rw [hz'] at hne; exact absurd rfl hne
    | cons a l => simp
  have h1 : (decide (z.length < (⟨#[c]⟩ : Str).length) || decide (Builtin.Str.strKind z < Builtin.Str.strKind ⟨#[c]⟩)) = false := by
    rw [ek]
    have e1 : (⟨#[c]⟩ : Str).length = 1 := rfl
    rw [e1, decide_eq_false (by omega), decide_eq_false (by omega)]
    rfl
  have hk : (decide (k < -(2 ^ 63 : Int)) || decide (k ≥ 2 ^ 63)) = false := by
    rw [decide_eq_false (by omega), decide_eq_false (by omega)]
    rfl
  have el : Builtin.Str.occurrences z ⟨#[c]⟩ 0 z.length (PySem.limitOf z k) = (posF c z.cps.toList 0).take k.toNat := by
    rw [occ_oneN]
    unfold PySem.limitOf
    rw [if_neg (by omega)]
  have hf : (Builtin.Str.occurrences z ⟨#[c]⟩ 0 z.length (PySem.limitOf z k)).isEmpty = false := by
    rw [el]
    cases hp : posF c z.cps.toList 0 with
    | nil => exact absurd hp hne
    | cons a l => rw [show k.toNat = (k.toNat - 1) + 1 by omega]; rfl
  have ep : Builtin.Str.partsBetween z (Builtin.Str.occurrences z ⟨#[c]⟩ 0 z.length (PySem.limitOf z k)) (⟨#[c]⟩ : Str).length = parts2 z c k.toNat := by rw [el]; rfl
  have fin : ∀ (its : List Value) (tk : Nat), Vals ((parts2 z c k.toNat).map V.str) its → EP X pins σ Q (.ref s.heap.objs.size) { s with toks := tk, heap := s.heap.push { cls := .type "list", data := .seq its.toArray } } := fun its tk rv =>
    ⟨.ref s.heap.objs.size, _, I.laid (t' := tk) (o := .lst ((parts2 z c k.toNat).map V.str)) (fun b ob q => Heap.get?_push_of_some _ q) (Nat.le_refl _) ⟨by rw [List.length_map]; exact hlen, its, 0, rv, Heap.get?_push_size _ rfl⟩, rfl, q _ (I.hok.fresh (Nat.le_refl _))⟩
  rw [← ep] at fin hlen
  exact call_meets F.slot_str_split (typeIs_str _ _ _) F.entry_str_split (F.args_str_split_3 _ _ _) (meets_str_split_sep_max z ⟨#[c]⟩ k t t' t2 hk h1 rfl hf (Nat.le_of_lt hz) hlen) (fin _ _ (vals_strs _ _))
end L2
namespace L2
open PySem PySem.Spec PyProof.Rows
def KTup (K : PySem.W.Frag) (a : Addr) (xs : List V) : Prop := ∃ (o : Obj) (its : Array Value) (n : Nat), K.lookup a = some o ∧ o.cls = .type "tuple" ∧ o.data = .seq its n ∧ its.size ≤ sizeLine ∧ Vals xs its.toList
theorem KTup.at {K : PySem.W.Frag} {a : Addr} {xs : List V} (h : KTup K a xs) (H : Hp) : SqT K H a xs := .inr h
theorem ktup_mk {K : PySem.W.Frag} {a : Addr} {o : Obj} {its : Array Value} {n : Nat} {xs : List V} (l : K.lookup a = some o) (x : o.cls = .type "tuple") (d : o.data = .seq its n) (z : its.size ≤ sizeLine) (r : Vals xs its.toList) : KTup K a xs := ⟨o, its, n, l, x, d, z, r⟩
theorem starts_pre (z y : Str) {rest : List Nat} (h : z.cps.toList = y.cps.toList ++ rest) : Txt.startswith z y = true := by
  obtain ⟨⟨l⟩⟩ := z
  obtain ⟨⟨m⟩⟩ := y
  simp at h
  subst h
  unfold Txt.startswith
  rw [StrLaws.subAt_eq]
  simp [Str.length]
structure RowE (z rest : Str) (t u : Int) : Prop where
  cs : z.cps.toList = (Str.ofString "every").cps.toList ++ 32 :: (numC t ++ 32 :: (numC u ++ 32 :: rest.cps.toList))
  tb : t.natAbs < 10 ^ 40
  ub : u.natAbs < 10 ^ 40
  rl : rest.length ≤ 10000
theorem RowE.split {z rest : Str} {t u : Int} (R : RowE z rest t u) : parts2 z 32 3 = [Str.ofString "every", numS t, numS u, rest] := by
  refine map_codes_inj ?_
  rw [parts2_codes, R.cs, splN_cut 32 2 _ _ (by decide +kernel), splN_cut 32 1 _ _ (numC_no t), splN_cut 32 0 _ _ (numC_no u)]
  simp only [splN, List.map_cons, List.map_nil]
  rfl
theorem RowE.pos {z rest : Str} {t u : Int} (R : RowE z rest t u) : posF 32 z.cps.toList 0 ≠ [] := by
  rw [R.cs]
  exact pos_some 32 _ _ 0
theorem RowE.len {z rest : Str} {t u : Int} (R : RowE z rest t u) : z.length ≤ 20000 := by
  rw [str_len, R.cs]
  have h1 := numC_len (n := t) (k := 40) (by decide) R.tb
  have h2 := numC_len (n := u) (k := 40) (by decide) R.ub
  have h3 := R.rl
  rw [str_len] at h3
  have h4 : (Str.ofString "every").cps.toList.length = 5 := by decide +kernel
  simp only [List.length_append, List.length_cons]
  omega
theorem RowE.starts {z rest : Str} {t u : Int} (R : RowE z rest t u) : Txt.startswith z (Str.ofString "every ") = true := by
  refine starts_pre z _ (rest := numC t ++ 32 :: (numC u ++ 32 :: rest.cps.toList)) ?_
  rw [R.cs, show (Str.ofString "every ").cps.toList = (Str.ofString "every").cps.toList ++ [32] by decide +kernel, List.append_assoc]
  rfl
def wordS : V → Str
  | .str z => z
  | .int n => numS n
  | _ => Str.ofString ""
def WordV (x : V) : Prop := (∃ z, x = .str z) ∨ ∃ n : Int, x = .int n ∧ n.natAbs < 10 ^ 40
theorem cloop_words {K : PySem.W.Frag} {σ : St} {H : Hp} {F : List V → Hp → Prop} {q : Addr} {xs : List V} (h : SqL K H q xs) (hw : ∀ x ∈ xs, WordV x) (nl : xs.length ≤ 100) (hd : F ((xs.map wordS).map V.str) H) :
    CLoop (0 + 1) [] (gName 0) tAll (tCB rStr (tCons (tVar 0) tNil)) σ F (Itl K q) H := by
  have hs : sizeLine = 16777216 := sizeLine_eq
  refine cloop_list (xs := xs) (fun i ys H' => ys = ((xs.map wordS).take i).map V.str ∧ H = H') (by omega) ⟨rfl, rfl⟩ ?_ ?_ ?_ ?_
  · rintro i ys H' ⟨rfl, rfl⟩
    rw [List.length_map, List.length_take]
    omega
  · rintro i ys H' ⟨rfl, rfl⟩
    exact h
  · rintro i x ys H' hx ⟨rfl, rfl⟩
    have fin : ∀ v : Str, wordS x = v → ((xs.map wordS).take i).map V.str ++ [V.str v] = ((xs.map wordS).take (i + 1)).map V.str := fun v e => by
      rw [List.take_add_one, List.getElem?_map, hx, List.map_append, ← e]
      rfl
    rcases hw x (List.mem_of_getElem? hx) with ⟨z, rfl⟩ | ⟨n, rfl, hn⟩
    · simp only [cTurn, tCB, tCons, tVar, tNil, gName, tAll, cσ, List.getElem?_cons_zero, List.set_cons_zero, Option.some.injEq, exists_eq_left', rStr_s, List.replicate, List.cons_append, List.map_nil, if_true]
      exact ⟨fin _ rfl, trivial⟩
    · simp only [cTurn, tCB, tCons, tVar, tNil, gName, tAll, cσ, List.getElem?_cons_zero, List.set_cons_zero, Option.some.injEq, exists_eq_left', rStr_i, List.replicate, List.cons_append, List.map_nil, if_true]
      exact ⟨str_log hn, fin _ rfl, trivial⟩
  · rintro ys H' ⟨rfl, rfl⟩
    rw [List.take_of_length_le (by simp)]
    exact hd
theorem rNotIn_strs {K : PySem.W.Frag} {H : Hp} {a : Addr} {z : Str} {ws : List Str} {Q : VK} (h : SqT K H a (ws.map V.str)) (q : Q (.bl (!decide (z ∈ ws))) H) : rNotInA K (.str z) (.ref a) H Q := by
  have e : ∀ ws : List Str, inV (.str z) (ws.map V.str) = decide (z ∈ ws) := by
    intro ws
    induction ws with
    | nil => rfl
    | cons d D ih =>
      have e : inV (.str z) ((d :: D).map V.str) = ((d == z) || inV (.str z) (D.map V.str)) := rfl
      rw [e, ih, Bool.eq_iff_iff, Bool.or_eq_true, beq_iff_eq, decide_eq_true_eq, decide_eq_true_eq, List.mem_cons]
      exact ⟨fun h => h.imp Eq.symm id, fun h => h.imp Eq.symm id⟩
  refine .inr ⟨a, _, rfl, .inr h, rfl, ?_, ?_⟩
  · rw [List.all_map]; exact List.all_eq_true.mpr fun _ _ => rfl
  · rw [e]; exact q
end L2
namespace L2
open PySem PySem.Spec PyProof.Rows
def stepN (a b c : Int) : Nat := (Builtin.Range.rangeSize a b c).toNat
theorem stepN_lt {a b c : Int} {i : Nat} (hc : 0 < c) (h : i < stepN a b c) : a + (i : Int) * c < b := by
  unfold stepN Builtin.Range.rangeSize at h
  rw [if_pos (show c > 0 from hc)] at h
  by_cases hab : a < b
  · rw [if_pos hab] at h
    have hq : (i : Int) ≤ (b - a - 1) / c := by omega
    have h2 : (i : Int) * c ≤ (b - a - 1) / c * c := Int.mul_le_mul_of_nonneg_right hq (by omega)
    have h3 := Int.ediv_mul_le (b - a - 1) (show c ≠ 0 by omega)
    omega
  · rw [if_neg hab] at h; simp at h
theorem rangeSize_le {a b c : Int} (hc : 0 < c) : 0 ≤ Builtin.Range.rangeSize a b c ∧ (Builtin.Range.rangeSize a b c ≤ b - a ∨ Builtin.Range.rangeSize a b c = 0) := by
  unfold Builtin.Range.rangeSize
  rw [if_pos (show c > 0 from hc)]
  by_cases hab : a < b
  · rw [if_pos hab]
    have h1 := Int.ediv_le_self c (show 0 ≤ b - a - 1 by omega)
    have h0 := Int.ediv_nonneg (show 0 ≤ b - a - 1 by omega) (show 0 ≤ c by omega)
    omega
  · rw [if_neg hab]; omega
theorem small_step {a b c : Int} (h1 : -(2 ^ 61) ≤ a) (h2 : a < 2 ^ 61) (h3 : -(2 ^ 61) ≤ b) (h4 : b < 2 ^ 61) (hc : 0 < c) (hc' : c < 2 ^ 61) : Builtin.Range.small a b c = true := by
  unfold Builtin.Range.small
  have hr := rangeSize_le (a := a) (b := b) hc
  generalize Builtin.Range.rangeSize a b c = n at hr
  simp only [Builtin.Range.rangeFitsLong, Bool.and_eq_true, Bool.or_eq_true, decide_eq_true_eq, beq_iff_eq]
  rw [if_pos (show c > 0 from hc)]
  simp only [Bool.and_eq_true, decide_eq_true_eq]
  omega
def ItSt (lo c : Int) (n : Nat) : It := ⟨fun i _ => i < n, fun i H x H' => H' = H ∧ x = .int (lo + i * c), fun i _ => n ≤ i⟩
theorem turn_step {P : Program} {w : World} {K : PySem.W.Frag} {tg : Expr} (it : Addr) (lo c : Int) (n : Nat) : Turn P w K tg (ItSt lo c n) [it] it (fun i h => IsRangeIter h it (lo + (i : Nat) * c) ((n : Int) - (i : Nat)) c) where
  mem := by simp
  obj := fun i h st b hb => by
    have e : b = it := by simpa using hb
    subst e
    exact ⟨_, st, fun v z => by
      have z' : Data.fields _ = Data.cell v := z
      cases z'⟩
  keep := fun i h h' st k => k it (by simp) _ st
  item := by
    intro X hP hw hK hc i pins s σ H E I hf st hg
    subst hP hw hK
    obtain ⟨f0, f1, f2, f3, f4, f5⟩ := hf it (by simp)
    have W := PySem.Walks.range (prog := X.prog) (w := X.w) (I.ok.hd hc) it lo c n
    refine W.item i s _ _ hg st fun v h' tk hv st' kk => ?_
    obtain ⟨t, rfl⟩ := hv
    have I1 : Inv X pins σ H { s with heap := h', toks := tk } := I.turned (fun b o hb e => kk b o (by simpa using hb) e) f0 f1 f3 f4 f5
    exact ⟨_, rfl, go_of (s := { s with heap := h', toks := tk }) (n := "range_iterator") st' rfl rfl (by decide) ⟨.int (lo + i * c), H, I1, ⟨t, rfl⟩, ⟨rfl, rfl⟩, st', fun b hb => (hf b hb).1⟩⟩
  done := by
    intro X hP hw hK hc i pins s σ H E I hf st hg
    subst hP hw hK
    obtain ⟨f0, f1, f2, f3, f4, f5⟩ := hf it (by simp)
    exact wpAny_pyNext_range_end (I.ok.hd hc) st (by have : n ≤ i := hg; omega) fun h' eb => ⟨rfl, I.turned (t' := s.toks) (fun b o hb e => eb b o hb e) f0 f1 f3 f4 f5⟩
  self := fun _ _ _ _ _ st h => wpAny_pyIter_rangeiter st h
section
variable {X : Cx} {tg : Expr}
theorem range_its {pins : List (Addr × Obj)} {σ : St} {H : Hp} {s : Shared} {R : It → Hp → Prop} {E : Value → Shared → Prop} {lo hi c : Int} {t u v : Tok} {tk : Nat} (I : Inv X pins σ H s) (h1 : -(2 ^ 61) ≤ lo) (h2 : lo < 2 ^ 61) (h3 : -(2 ^ 61) ≤ hi) (h4 : hi < 2 ^ 61) (hc : 0 < c) (hc' : c < 2 ^ 61)
    (q : R (ItSt lo c (stepN lo hi c)) H) : wpAny (model X.prog X.w) X.A (pyIter (.ref s.heap.objs.size)) (PIE X pins σ tg R) E { s with heap := s.heap.push { cls := .type "range", data := .fields #[.int lo t, .int hi u, .int c v] }, toks := tk } := by
  refine wpAny_pyIter_range (IsRange.new ..) (small_step h1 h2 h3 h4 hc hc') ?_
  have I1 : Inv X pins σ H { s with heap := s.heap.push { cls := .type "range", data := .fields #[.int lo t, .int hi u, .int c v] }, toks := tk } := I.kept fun b o e => Heap.get?_push_of_some _ e
  refine ⟨(s.heap.push { cls := .type "range", data := .fields #[.int lo t, .int hi u, .int c v] }).objs.size, [(s.heap.push { cls := .type "range", data := .fields #[.int lo t, .int hi u, .int c v] }).objs.size], _, _, H, rfl,
    I1.kept (t' := tk) fun b o e => Heap.get?_push_of_some _ e, turn_step _ lo c (stepN lo hi c), ?_, fun b hb => ?_, q⟩
  · have e1 : lo + ((0 : Nat) : Int) * c = lo := by simp
    have e2 : ((stepN lo hi c : Nat) : Int) - ((0 : Nat) : Int) = Builtin.Range.rangeSize lo hi c := by
      have := (rangeSize_le (a := lo) (b := hi) hc).1
      unfold stepN
      omega
    show IsRangeIter _ _ (lo + ((0 : Nat) : Int) * c) (((stepN lo hi c : Nat) : Int) - ((0 : Nat) : Int)) c
    rw [e1, e2]
    exact Heap.get?_push_size _ rfl
  · have e : b = (s.heap.push { cls := .type "range", data := .fields #[.int lo t, .int hi u, .int c v] }).objs.size := by simpa using hb
    subst e
    exact I1.fpOk (Nat.le_refl _) (I1.hok.fresh (Nat.le_refl _))
def iRngS (ta : TA) : TI := fun σ H R => ta σ H fun vs H1 => ∃ i j c : Int, vs = [.int i, .int j, .int c] ∧ (-(2 ^ 61) ≤ i ∧ i < 2 ^ 61 ∧ -(2 ^ 61) ≤ j ∧ j < 2 ^ 61) ∧ (0 < c ∧ c < 1000) ∧ R (ItSt i c (stepN i j c)) H1
theorem pi_range3S {a b c : Expr} {ta : TA} {p pos : Pos} (hg : Gl X "range") (hm : X.mg "range" = none) (ha : PA X [a, b, c] ta) (hs : starEach [a, b, c] X.env = [(false, eval a X.env), (false, eval b X.env), (false, eval c X.env)] := by rfl) (hs2 : starEach [b, c] X.env = [(false, eval b X.env), (false, eval c X.env)] := by rfl) :
    PI X tg (.Call (.Name "range" p) [a, b, c] [] pos) (iRngS ta) := by
  intro pins s σ H R I h
  refine Call_ (ld_blt I hg hm boot_range (PyProof.Rows.callWith_type1 (thn (ha pos pins s σ H _ I h) fun us s1 ⟨vs, H1, I1, r1, q1⟩ => ?_) (by rw [hs, hs2]) (by rw [hs2]; rfl)))
  obtain ⟨i, j, c, e, ⟨q1, q2, q3, q4⟩, ⟨q5, q6⟩, q⟩ := q1
  subst e
  cases r1 with
  | cons r rr =>
    cases rr with
    | cons r' rr =>
      cases rr with
      | cons r'' rr =>
        cases rr
        obtain ⟨t, rfl⟩ := r
        obtain ⟨t', rfl⟩ := r'
        obtain ⟨t'', rfl⟩ := r''
        exact call_range_3 (by omega) (range_its I1 q1 q2 q3 q4 q5 (by omega) q) (Or.inl (PyProof.noPylong_small (by omega)))
end
theorem loop_step {g : TG} {tb : TS} {D : Ends} {σ : St} {H : Hp} {lo c : Int} {n : Nat} (Pv : Nat → St → Hp → Prop) (h0 : Pv 0 σ H)
    (hs : ∀ i σ H, i < n → Pv i σ H → g (.int (lo + i * c)) σ H fun σ2 H2 => tb { D with nx := Pv (i + 1), ct := Pv (i + 1), bk := D.nx } σ2 H2) (hd : ∀ σ H, Pv n σ H → D.nx σ H) : Loop g tb D σ (ItSt lo c n) H := by
  refine ⟨fun i m σ H => m = n - i ∧ i ≤ n ∧ Pv i σ H, ⟨n, by simp, Nat.zero_le _, h0⟩, ?_⟩
  rintro i m σ H ⟨rfl, hi, p⟩
  by_cases hlt : i < n
  · refine .inr ⟨hlt, Pv (i + 1), fun σ' H' p' => ⟨n - (i + 1), by omega, rfl, hlt, p'⟩, fun x H' y => ?_⟩
    obtain ⟨e, y⟩ := y
    subst e y
    exact hs i σ _ hlt p
  · have e : i = n := by omega
    subst e
    exact .inl ⟨Nat.le_refl _, hd σ H p⟩
end L2
seal PySem.wpAny
namespace K20
open PySem PyProof.Rows L2
def top (i : Nat) : Stmt := PySem.Challenge.pw_fourvoices_k20_whole_rules_walk.main.body.getD i (.Pass ⟨0, 0, 0, 0⟩)
abbrev s_note_in : Stmt := top 1
theorem sc_note_in : FnScope ["column", "voice"] ["column", "voice"] (defScope s_note_in) := ⟨rfl, rfl, rfl, by decide +kernel, rfl, by decide +kernel, by decide +kernel⟩
abbrev s_span : Stmt := top 2
theorem sc_span : FnScope ["column", "first", "second"] ["column", "first", "second"] (defScope s_span) := ⟨rfl, rfl, rfl, by decide +kernel, rfl, by decide +kernel, by decide +kernel⟩
abbrev s_move : Stmt := top 20
theorem sc_move : FnScope ["before", "column", "voice"] ["before", "column", "voice"] (defScope s_move) := ⟨rfl, rfl, rfl, by decide +kernel, rfl, by decide +kernel, by decide +kernel⟩
abbrev s_Rule___init__ : Stmt := inClass (top 3) 0
theorem sc_Rule___init__ : FnScope ["self", "row"] ["self", "row"] (defScope s_Rule___init__) := ⟨rfl, rfl, rfl, by decide +kernel, rfl, by decide +kernel, by decide +kernel⟩
abbrev s_Rule_size : Stmt := inClass (top 3) 1
theorem sc_Rule_size : FnScope ["self"] ["self"] (defScope s_Rule_size) := ⟨rfl, rfl, rfl, by decide +kernel, rfl, by decide +kernel, by decide +kernel⟩
abbrev s_Rule_start : Stmt := inClass (top 3) 2
theorem sc_Rule_start : FnScope ["self"] ["self"] (defScope s_Rule_start) := ⟨rfl, rfl, rfl, by decide +kernel, rfl, by decide +kernel, by decide +kernel⟩
abbrev s_Rule_after : Stmt := inClass (top 3) 3
theorem sc_Rule_after : FnScope ["self", "memory", "before", "column"] ["self", "memory", "before", "column"] (defScope s_Rule_after) := ⟨rfl, rfl, rfl, by decide +kernel, rfl, by decide +kernel, by decide +kernel⟩
abbrev s_Rule_closes : Stmt := inClass (top 3) 4
theorem sc_Rule_closes : FnScope ["self", "memory", "last"] ["self", "memory", "last"] (defScope s_Rule_closes) := ⟨rfl, rfl, rfl, by decide +kernel, rfl, by decide +kernel, by decide +kernel⟩
abbrev s_Rule_shown : Stmt := inClass (top 3) 5
theorem sc_Rule_shown : FnScope ["self"] ["self"] (defScope s_Rule_shown) := ⟨rfl, rfl, rfl, by decide +kernel, rfl, by decide +kernel, by decide +kernel⟩
abbrev s_Span___init__ : Stmt := inClass (top 4) 0
theorem sc_Span___init__ : FnScope ["self", "row", "first", "second", "numbers"] ["self", "row", "first", "second", "numbers"] (defScope s_Span___init__) := ⟨rfl, rfl, rfl, by decide +kernel, rfl, by decide +kernel, by decide +kernel⟩
abbrev s_Span_after : Stmt := inClass (top 4) 1
theorem sc_Span_after : FnScope ["self", "memory", "before", "column"] ["self", "memory", "before", "column"] (defScope s_Span_after) := ⟨rfl, rfl, rfl, by decide +kernel, rfl, by decide +kernel, by decide +kernel⟩
abbrev s_Clock___init__ : Stmt := inClass (top 5) 0
theorem sc_Clock___init__ : FnScope ["self", "row", "first", "second", "hours", "numbers"] ["self", "row", "first", "second", "hours", "numbers"] (defScope s_Clock___init__) := ⟨rfl, rfl, rfl, by decide +kernel, rfl, by decide +kernel, by decide +kernel⟩
abbrev s_Clock_after : Stmt := inClass (top 5) 1
theorem sc_Clock_after : FnScope ["self", "memory", "before", "column"] ["self", "memory", "before", "column"] (defScope s_Clock_after) := ⟨rfl, rfl, rfl, by decide +kernel, rfl, by decide +kernel, by decide +kernel⟩
abbrev s_Begin___init__ : Stmt := inClass (top 6) 0
theorem sc_Begin___init__ : FnScope ["self", "row", "voice", "notes"] ["self", "row", "voice", "notes"] (defScope s_Begin___init__) := ⟨rfl, rfl, rfl, by decide +kernel, rfl, by decide +kernel, by decide +kernel⟩
abbrev s_Begin_after : Stmt := inClass (top 6) 1
theorem sc_Begin_after : FnScope ["self", "memory", "before", "column"] ["self", "memory", "before", "column"] (defScope s_Begin_after) := ⟨rfl, rfl, rfl, by decide +kernel, rfl, by decide +kernel, by decide +kernel⟩
abbrev s_Close___init__ : Stmt := inClass (top 7) 0
theorem sc_Close___init__ : FnScope ["self", "row", "voice", "notes"] ["self", "row", "voice", "notes"] (defScope s_Close___init__) := ⟨rfl, rfl, rfl, by decide +kernel, rfl, by decide +kernel, by decide +kernel⟩
abbrev s_Close_closes : Stmt := inClass (top 7) 1
theorem sc_Close_closes : FnScope ["self", "memory", "last"] ["self", "memory", "last"] (defScope s_Close_closes) := ⟨rfl, rfl, rfl, by decide +kernel, rfl, by decide +kernel, by decide +kernel⟩
abbrev s_Move___init__ : Stmt := inClass (top 21) 0
theorem sc_Move___init__ : FnScope ["self", "row", "voice", "numbers"] ["self", "row", "voice", "numbers"] (defScope s_Move___init__) := ⟨rfl, rfl, rfl, by decide +kernel, rfl, by decide +kernel, by decide +kernel⟩
abbrev s_Move_after : Stmt := inClass (top 21) 1
theorem sc_Move_after : FnScope ["self", "memory", "before", "column"] ["self", "memory", "before", "column"] (defScope s_Move_after) := ⟨rfl, rfl, rfl, by decide +kernel, rfl, by decide +kernel, by decide +kernel⟩
abbrev s_Alike___init__ : Stmt := inClass (top 22) 0
theorem sc_Alike___init__ : FnScope ["self", "row", "first", "second", "numbers"] ["self", "row", "first", "second", "numbers"] (defScope s_Alike___init__) := ⟨rfl, rfl, rfl, by decide +kernel, rfl, by decide +kernel, by decide +kernel⟩
abbrev s_Alike_after : Stmt := inClass (top 22) 1
theorem sc_Alike_after : FnScope ["self", "memory", "before", "column", "now"] ["self", "memory", "before", "column"] (defScope s_Alike_after) := ⟨rfl, rfl, rfl, by decide +kernel, rfl, by decide +kernel, by decide +kernel⟩
abbrev s_Back___init__ : Stmt := inClass (top 23) 0
theorem sc_Back___init__ : FnScope ["self", "row", "voice", "widest"] ["self", "row", "voice", "widest"] (defScope s_Back___init__) := ⟨rfl, rfl, rfl, by decide +kernel, rfl, by decide +kernel, by decide +kernel⟩
abbrev s_Back_size : Stmt := inClass (top 23) 1
theorem sc_Back_size : FnScope ["self"] ["self"] (defScope s_Back_size) := ⟨rfl, rfl, rfl, by decide +kernel, rfl, by decide +kernel, by decide +kernel⟩
abbrev s_Back_start : Stmt := inClass (top 23) 2
theorem sc_Back_start : FnScope ["self"] ["self"] (defScope s_Back_start) := ⟨rfl, rfl, rfl, by decide +kernel, rfl, by decide +kernel, by decide +kernel⟩
abbrev s_Back_after : Stmt := inClass (top 23) 3
theorem sc_Back_after : FnScope ["self", "memory", "before", "column", "step"] ["self", "memory", "before", "column"] (defScope s_Back_after) := ⟨rfl, rfl, rfl, by decide +kernel, rfl, by decide +kernel, by decide +kernel⟩
abbrev s_Back_closes : Stmt := inClass (top 23) 4
theorem sc_Back_closes : FnScope ["self", "memory", "last"] ["self", "memory", "last"] (defScope s_Back_closes) := ⟨rfl, rfl, rfl, by decide +kernel, rfl, by decide +kernel, by decide +kernel⟩
abbrev s_Held___init__ : Stmt := inClass (top 13) 0
theorem sc_Held___init__ : FnScope ["self", "row", "voice", "most"] ["self", "row", "voice", "most"] (defScope s_Held___init__) := ⟨rfl, rfl, rfl, by decide +kernel, rfl, by decide +kernel, by decide +kernel⟩
abbrev s_Held_size : Stmt := inClass (top 13) 1
theorem sc_Held_size : FnScope ["self"] ["self"] (defScope s_Held_size) := ⟨rfl, rfl, rfl, by decide +kernel, rfl, by decide +kernel, by decide +kernel⟩
abbrev s_Held_after : Stmt := inClass (top 13) 2
theorem sc_Held_after : FnScope ["self", "memory", "before", "column"] ["self", "memory", "before", "column"] (defScope s_Held_after) := ⟨rfl, rfl, rfl, by decide +kernel, rfl, by decide +kernel, by decide +kernel⟩
abbrev s_Times___init__ : Stmt := inClass (top 14) 0
theorem sc_Times___init__ : FnScope ["self", "row", "voice", "note", "fewest", "most"] ["self", "row", "voice", "note", "fewest", "most"] (defScope s_Times___init__) := ⟨rfl, rfl, rfl, by decide +kernel, rfl, by decide +kernel, by decide +kernel⟩
abbrev s_Times_size : Stmt := inClass (top 14) 1
theorem sc_Times_size : FnScope ["self"] ["self"] (defScope s_Times_size) := ⟨rfl, rfl, rfl, by decide +kernel, rfl, by decide +kernel, by decide +kernel⟩
abbrev s_Times_after : Stmt := inClass (top 14) 2
theorem sc_Times_after : FnScope ["self", "memory", "before", "column"] ["self", "memory", "before", "column"] (defScope s_Times_after) := ⟨rfl, rfl, rfl, by decide +kernel, rfl, by decide +kernel, by decide +kernel⟩
abbrev s_Times_closes : Stmt := inClass (top 14) 3
theorem sc_Times_closes : FnScope ["self", "memory", "last"] ["self", "memory", "last"] (defScope s_Times_closes) := ⟨rfl, rfl, rfl, by decide +kernel, rfl, by decide +kernel, by decide +kernel⟩
abbrev s_Every___init__ : Stmt := inClass (top 15) 0
theorem sc_Every___init__ : FnScope ["self", "row", "turns", "turn", "inner"] ["self", "row", "turns", "turn", "inner"] (defScope s_Every___init__) := ⟨rfl, rfl, rfl, by decide +kernel, rfl, by decide +kernel, by decide +kernel⟩
abbrev s_Every_size : Stmt := inClass (top 15) 1
theorem sc_Every_size : FnScope ["self"] ["self"] (defScope s_Every_size) := ⟨rfl, rfl, rfl, by decide +kernel, rfl, by decide +kernel, by decide +kernel⟩
abbrev s_Every_after : Stmt := inClass (top 15) 2
theorem sc_Every_after : FnScope ["self", "memory", "before", "column"] ["self", "memory", "before", "column"] (defScope s_Every_after) := ⟨rfl, rfl, rfl, by decide +kernel, rfl, by decide +kernel, by decide +kernel⟩
abbrev s_broken_at : Stmt := top 8
theorem sc_broken_at : FnScope ["rule", "line", "memory", "before", "place", "column"] ["rule", "line"] (defScope s_broken_at) := ⟨rfl, rfl, rfl, by decide +kernel, rfl, by decide +kernel, by decide +kernel⟩
abbrev s_is_number : Stmt := top 27
theorem sc_is_number : FnScope ["word", "figures"] ["word"] (defScope s_is_number) := ⟨rfl, rfl, rfl, by decide +kernel, rfl, by decide +kernel, by decide +kernel⟩
abbrev s_are_voices : Stmt := top 31
theorem sc_are_voices : FnScope ["numbers", "voices"] ["numbers", "voices"] (defScope s_are_voices) := ⟨rfl, rfl, rfl, by decide +kernel, rfl, by decide +kernel, by decide +kernel⟩
abbrev s_has_list : Stmt := top 32
theorem sc_has_list : FnScope ["numbers", "ahead"] ["numbers", "ahead"] (defScope s_has_list) := ⟨rfl, rfl, rfl, by decide +kernel, rfl, by decide +kernel, by decide +kernel⟩
abbrev s_span_of : Stmt := top 33
theorem sc_span_of : FnScope ["row", "numbers", "voices"] ["row", "numbers", "voices"] (defScope s_span_of) := ⟨rfl, rfl, rfl, by decide +kernel, rfl, by decide +kernel, by decide +kernel⟩
abbrev s_clock_of : Stmt := top 34
theorem sc_clock_of : FnScope ["row", "numbers", "voices"] ["row", "numbers", "voices"] (defScope s_clock_of) := ⟨rfl, rfl, rfl, by decide +kernel, rfl, by decide +kernel, by decide +kernel⟩
abbrev s_move_of : Stmt := top 35
theorem sc_move_of : FnScope ["row", "numbers", "voices"] ["row", "numbers", "voices"] (defScope s_move_of) := ⟨rfl, rfl, rfl, by decide +kernel, rfl, by decide +kernel, by decide +kernel⟩
abbrev s_alike_of : Stmt := top 36
theorem sc_alike_of : FnScope ["row", "numbers", "voices"] ["row", "numbers", "voices"] (defScope s_alike_of) := ⟨rfl, rfl, rfl, by decide +kernel, rfl, by decide +kernel, by decide +kernel⟩
abbrev s_back_of : Stmt := top 37
theorem sc_back_of : FnScope ["row", "numbers", "voices"] ["row", "numbers", "voices"] (defScope s_back_of) := ⟨rfl, rfl, rfl, by decide +kernel, rfl, by decide +kernel, by decide +kernel⟩
abbrev s_held_of : Stmt := top 38
theorem sc_held_of : FnScope ["row", "numbers", "voices"] ["row", "numbers", "voices"] (defScope s_held_of) := ⟨rfl, rfl, rfl, by decide +kernel, rfl, by decide +kernel, by decide +kernel⟩
abbrev s_times_of : Stmt := top 39
theorem sc_times_of : FnScope ["row", "numbers", "voices"] ["row", "numbers", "voices"] (defScope s_times_of) := ⟨rfl, rfl, rfl, by decide +kernel, rfl, by decide +kernel, by decide +kernel⟩
abbrev s_begin_of : Stmt := top 40
theorem sc_begin_of : FnScope ["row", "numbers", "voices"] ["row", "numbers", "voices"] (defScope s_begin_of) := ⟨rfl, rfl, rfl, by decide +kernel, rfl, by decide +kernel, by decide +kernel⟩
abbrev s_close_of : Stmt := top 41
theorem sc_close_of : FnScope ["row", "numbers", "voices"] ["row", "numbers", "voices"] (defScope s_close_of) := ⟨rfl, rfl, rfl, by decide +kernel, rfl, by decide +kernel, by decide +kernel⟩
abbrev s_plain_rule : Stmt := top 43
theorem sc_plain_rule : FnScope ["row", "voices", "words"] ["row", "voices"] (defScope s_plain_rule) := ⟨rfl, rfl, rfl, by decide +kernel, rfl, by decide +kernel, by decide +kernel⟩
abbrev s_every_rule : Stmt := top 44
theorem sc_every_rule : FnScope ["row", "voices", "words", "turns", "turn", "inner"] ["row", "voices"] (defScope s_every_rule) := ⟨rfl, rfl, rfl, by decide +kernel, rfl, by decide +kernel, by decide +kernel⟩
abbrev s_read_rule : Stmt := top 45
theorem sc_read_rule : FnScope ["text", "voices", "row", "rule"] ["text", "voices", "row"] (defScope s_read_rule) := ⟨rfl, rfl, rfl, by decide +kernel, rfl, by decide +kernel, by decide +kernel⟩
abbrev s_law_pick : Stmt := top 47
theorem sc_law_pick : FnScope ["_law_script", "_law_at", "_law_cell"] ["_law_script", "_law_at"] (defScope s_law_pick) := ⟨rfl, rfl, rfl, by decide +kernel, rfl, by decide +kernel, by decide +kernel⟩
abbrev s_law_stir : Stmt := top 48
theorem sc_law_stir : FnScope ["_law_number", "_law_k", "_law_upper", "_law_lower", "_law_found"] ["_law_number", "_law_k"] (defScope s_law_stir) := ⟨rfl, rfl, rfl, by decide +kernel, rfl, by decide +kernel, by decide +kernel⟩
abbrev s_law_digits : Stmt := top 49
theorem sc_law_digits : FnScope ["_law_cell", "_law_many", "_law_by", "_law_rest", "_law_found", "_law_k"] ["_law_cell", "_law_many"] (defScope s_law_digits) := ⟨rfl, rfl, rfl, by decide +kernel, rfl, by decide +kernel, by decide +kernel⟩
abbrev s_law_bases : Stmt := top 50
theorem sc_law_bases : FnScope ["_law_cell", "_law_voices", "_law_far"] ["_law_cell", "_law_voices"] (defScope s_law_bases) := ⟨rfl, rfl, rfl, by decide +kernel, rfl, by decide +kernel, by decide +kernel⟩
abbrev s_law_notes : Stmt := top 51
theorem sc_law_notes : FnScope ["_law_number", "_law_bases_here", "_law_step", "_law_wide", "_law_rest", "_law_found", "_law_v", "_law_at"] ["_law_number", "_law_bases_here", "_law_step", "_law_wide"] (defScope s_law_notes) := ⟨rfl, rfl, rfl, by decide +kernel, rfl, by decide +kernel, by decide +kernel⟩
abbrev s_law_numbers_by : Stmt := top 52
theorem sc_law_numbers_by : FnScope ["_law_seed", "_law_many", "_law_word", "_law_pair", "_law_made", "_law_bases_here", "_law_step", "_law_wide", "_law_found", "_law_number", "_law_notes_here", "_law_told"] ["_law_seed", "_law_many", "_law_word", "_law_pair", "_law_made"] (defScope s_law_numbers_by) := ⟨rfl, rfl, rfl, by decide +kernel, rfl, by decide +kernel, by decide +kernel⟩
abbrev s_law_words_by : Stmt := top 53
theorem sc_law_words_by : FnScope ["_law_script", "_law_voices", "_law_made", "_law_some", "_law_word", "_law_pair", "_law_small", "_law_seed", "_law_told", "_law_beat", "_law_many", "_law_head"] ["_law_script", "_law_voices", "_law_made"] (defScope s_law_words_by) := ⟨rfl, rfl, rfl, by decide +kernel, rfl, by decide +kernel, by decide +kernel⟩
abbrev s_law_step_breaks : Stmt := top 54
theorem sc_law_step_breaks : FnScope ["_law_row", "_law_line", "_law_at", "_law_voice", "_law_move", "_law_span", "_law_last"] ["_law_row", "_law_line", "_law_at"] (defScope s_law_step_breaks) := ⟨rfl, rfl, rfl, by decide +kernel, rfl, by decide +kernel, by decide +kernel⟩
abbrev s_law_breaks : Stmt := top 55
theorem sc_law_breaks : FnScope ["_law_row", "_law_line", "_law_at", "_law_voice", "_law_note", "_law_many"] ["_law_row", "_law_line", "_law_at"] (defScope s_law_breaks) := ⟨rfl, rfl, rfl, by decide +kernel, rfl, by decide +kernel, by decide +kernel⟩
abbrev s_law_open : Stmt := top 56
theorem sc_law_open : FnScope ["_law_row", "_law_line", "_law_voice"] ["_law_row", "_law_line"] (defScope s_law_open) := ⟨rfl, rfl, rfl, by decide +kernel, rfl, by decide +kernel, by decide +kernel⟩
abbrev s_law_grown : Stmt := top 57
theorem sc_law_grown : FnScope ["_law_cells", "_law_row", "_law_made", "_law_bases_here", "_law_step", "_law_wide", "_law_line", "_law_cell", "_law_number", "_law_k"] ["_law_cells", "_law_row", "_law_made"] (defScope s_law_grown) := ⟨rfl, rfl, rfl, by decide +kernel, rfl, by decide +kernel, by decide +kernel⟩
abbrev s_law_first : Stmt := top 58
theorem sc_law_first : FnScope ["_law_row", "_law_line", "_law_place"] ["_law_row", "_law_line"] (defScope s_law_first) := ⟨rfl, rfl, rfl, by decide +kernel, rfl, by decide +kernel, by decide +kernel⟩
abbrev s_law_size_of : Stmt := top 59
theorem sc_law_size_of : FnScope ["_law_row"] ["_law_row"] (defScope s_law_size_of) := ⟨rfl, rfl, rfl, by decide +kernel, rfl, by decide +kernel, by decide +kernel⟩
abbrev s_law_memory_good : Stmt := top 60
theorem sc_law_memory_good : FnScope ["_law_rule", "_law_row", "_law_memory", "_law_line", "_law_last", "_law_closes"] ["_law_rule", "_law_row", "_law_memory", "_law_line"] (defScope s_law_memory_good) := ⟨rfl, rfl, rfl, by decide +kernel, rfl, by decide +kernel, by decide +kernel⟩
abbrev s_law_by_turns : Stmt := top 61
theorem sc_law_by_turns : FnScope ["_law_rule", "_law_row", "_law_lines", "_law_memories", "_law_place", "_law_k", "_law_before", "_law_gone"] ["_law_rule", "_law_row", "_law_lines"] (defScope s_law_by_turns) := ⟨rfl, rfl, rfl, by decide +kernel, rfl, by decide +kernel, by decide +kernel⟩
abbrev s_law_broken : Stmt := top 62
theorem sc_law_broken : FnScope ["_law_rule", "_law_row", "_law_line", "_law_handed", "_law_found", "_law_due"] ["_law_rule", "_law_row", "_law_line"] (defScope s_law_broken) := ⟨rfl, rfl, rfl, by decide +kernel, rfl, by decide +kernel, by decide +kernel⟩
abbrev s_law : Stmt := top 63
theorem sc_law : FnScope ["_law_script", "_law_voices", "_law_step", "_law_made", "_law_row", "_law_cells", "_law_cut", "_law_lines", "_law_text", "_law_rule", "_law_size", "_law_many"] ["_law_script"] (defScope s_law) := ⟨rfl, rfl, rfl, by decide +kernel, rfl, by decide +kernel, by decide +kernel⟩
structure Txt (mg : Str → Option Value) (aM : Addr) : Prop where
  n_len : mg "len" = none
  n_range : mg "range" = none
  n_all : mg "all" = none
  n_min : mg "min" = none
  n_max : mg "max" = none
  n_abs : mg "abs" = none
  n_tuple : mg "tuple" = none
  n_list : mg "list" = none
  n_isinstance : mg "isinstance" = none
  n_bool : mg "bool" = none
  n_int : mg "int" = none
  n_str : mg "str" = none
  n_divmod : mg "divmod" = none
  n_enumerate : mg "enumerate" = none
  g_FIGURES : ∃ u, mg "FIGURES" = some u ∧ RelV (.str "0123456789") u
  g_MOST_FIGURES : ∃ u, mg "MOST_FIGURES" = some u ∧ RelV (.int 40) u
  g_MOST_NUMBERS : ∃ u, mg "MOST_NUMBERS" = some u ∧ RelV (.int 12) u
  g_NO_LEAP : ∃ u, mg "NO_LEAP" = some u ∧ RelV (.int 0) u
  g_LEAP_UP : ∃ u, mg "LEAP_UP" = some u ∧ RelV (.int 1) u
  g_LEAP_DOWN : ∃ u, mg "LEAP_DOWN" = some u ∧ RelV (.int 2) u
  g_MAKERS : ∃ u, mg "MAKERS" = some u ∧ RelV (.ref aM) u
structure TxtE (mg : Str → Option Value) (aM aI : Addr) : Prop extends Txt mg aM where
  g_INNER_KINDS : ∃ u, mg "INNER_KINDS" = some u ∧ RelV (.ref aI) u
local macro_rules | `(tactic| walk_at "rd") => `(tactic| try simp only [tSeq, tNext, tAsg, gName, tVar, tC, tOp, tUn, tIfS, tTest, tRet, tRetN, tDrop, tCB, tCall, tCons, tNil, tAnd, tOr, tNot, tAndV, tOrV, tNotV, tIf, tSl, tPart, tNoPart, tBM, tBM0, gTup, gCons, gNil, rI0, rI, rU, L2.start,
  rAddA_ii, rAddT_ii, rAddA_ss, rMulA_ii, rMulA_si, rMulB_ii, rMulB_si, rSlA_s, rIx_s, rEq_ii, rNe_ii, rEq_ss, rEqB_ii, rNeB_ii, rEqB_ss, rNeB_ss, rEqB_bb, rNeB_bb, rNe_ss, rEq_bb, rNe_bb, rInA_c, rNotInA_c, List.map_cons, List.map_nil, List.length_cons, List.length_nil, List.replicate, List.cons_append, List.nil_append, List.append_nil, List.getElem?_cons_zero, List.getElem?_cons_succ,
  List.set_cons_zero, List.set_cons_succ, Option.some.injEq, exists_eq_left', exists_eq_left, exists_and_left, V.int.injEq, V.str.injEq, V.bl.injEq, V.ref.injEq, V.ty.injEq, List.cons.injEq, and_true, true_and, iBy, iRng1, iRng2, iRngD, iZip, iEnum, iEnumB, tMethG, gSeq, rStr_i, rStr_s, gSub, rSetL, tChain, tCallE, tFld, sFld, tMake, tAug, rEqC_ii, rNeC_ii, rEqC_ss, rNeC_ss, tFor_eq, tComp_eq, tAll, Int.zero_add, if_true, Bool.false_eq_true, if_false, cσ, List.getD_cons_zero, List.getD_cons_succ, and_assoc, cxOf_K, cxC_K, decide_eq_true_eq, reduceCtorEq, false_and, exists_false, false_or, or_false, exists_const, List.length_map, tLst, tTup, tVs, tRev, TruV_b, tyV_s, Bool.not_eq_true', decide_eq_false_iff_not, ite_not])
local macro_rules | `(tactic| walk_at "flds") => `(tactic| simp only [lookup_putF, ofString_inj, String.reduceEq, if_false, if_true, List.lookup])
def spNum : Sp := fun vs H Q _ => ∃ z, vs = [.str z] ∧ z.length ≤ 10000 ∧ ∀ H', Same H H' → Q (.bl (isNum z.cps.toList)) H'
def spNoteIn (K : PySem.W.Frag) : Sp := fun vs H Q _ => ∃ (c : Addr) (v : Int) (us : List Int), vs = [.ref c, .int v] ∧ SqT K H c (us.map V.int) ∧ 1 ≤ v ∧ v ≤ us.length ∧ Q (.int (noteA us v)) H
def spSpan (K : PySem.W.Frag) : Sp := fun vs H Q _ => ∃ (c : Addr) (a b : Int) (us : List Int), vs = [.ref c, .int a, .int b] ∧ SqT K H c (us.map V.int) ∧ 1 ≤ a ∧ a ≤ us.length ∧ 1 ≤ b ∧ b ≤ us.length ∧ Q (.int (noteA us b - noteA us a)) H
def spRuleInit (K : PySem.W.Frag) : Sp := fun vs H Q _ => ∃ (x C dx : Addr) (fs : List (Str × V)) (row : Str), vs = [.ref x, .str row] ∧ H x = some (.ins C dx fs) ∧ Cls K C ∧ NoAttr K C "row" ∧ fs.length < 100 ∧ Q .non (upd H x (.ins C dx (putF "row" (.str row) fs)))
def spSay (n : Nat) (v : List V → V) : Sp := fun vs H Q _ => vs.length = n ∧ Q (v vs) H
def spShown (K : PySem.W.Frag) : Sp := fun vs H Q _ => ∃ (r C dx : Addr) (fs : List (Str × V)) (row : Str), vs = [.ref r] ∧ H r = some (.ins C dx fs) ∧ Cls K C ∧ NoAttr K C "row" ∧ fs.lookup (Str.ofString "row") = some (.str row) ∧ Q (.str row) H
def keepM (vs : List V) : V := vs.getD 1 .non
def spHasList (K : PySem.W.Frag) : Sp := fun vs H Q _ => ∃ (q : Addr) (xs : List V) (j : Int), vs = [.ref q, .int j] ∧ SqL K H q xs ∧ Q (.bl (decide (1 ≤ (xs.length : Int) - j) && decide ((xs.length : Int) - j ≤ 12))) H
def spAreVoices (K : PySem.W.Frag) : Sp := fun vs H Q _ => ∃ (q : Addr) (ns : List Int) (nv : Int), vs = [.ref q, .int nv] ∧ SqL K H q (ns.map V.int) ∧ ns.length ≤ 1000 ∧ ∀ H', Same H H' → Q (.bl (ns.all fun n => decide (1 ≤ n) && decide (n ≤ nv))) H'
def spPlain (P : Program) (w : World) (K : PySem.W.Frag) (mg : Str → Option Value) (base : Heap) (aM : Addr) (k : Nat) : Sp := fun vs H Q _ => ∃ (row kind : Str) (ns : List Int) (nv : Int) (D : List (Str × V)) (f : Addr) (sp : Sp) (Res : V → Hp → Prop), vs = [.str row, .int nv] ∧ RowIs row kind ns ∧ TabK K aM D ∧ KTD.datumAt kind D = some (.ref f) ∧
  FnAt P w K mg base k f ["row", "numbers", "voices"] sp ∧ (∀ q H' Q', Same H H' → H' q = some (.lst (ns.map V.int)) → (∀ v H'', Res v H'' → Q' v H'') → sp [.str row, .ref q, .int nv] H' Q' E0) ∧ ∀ v H', Res v H' → Q v H'
def spRead (P : Program) (w : World) (K : PySem.W.Frag) (mg : Str → Option Value) (base : Heap) (aM : Addr) (k : Nat) : Sp := fun vs H Q _ => ∃ (row kind : Str) (ns : List Int) (nv z : Int) (D : List (Str × V)) (f : Addr) (sp : Sp) (Res : V → Hp → Prop), vs = [.str row, .int nv, .int z] ∧ RowIs row kind ns ∧ kind.cps.toList.head? ≠ some 101 ∧ TabK K aM D ∧ KTD.datumAt kind D = some (.ref f) ∧
  FnAt P w K mg base k f ["row", "numbers", "voices"] sp ∧ (∀ q H' Q', Same H H' → H' q = some (.lst (ns.map V.int)) → (∀ v H'', Res v H'' → Q' v H'') → sp [.str row, .ref q, .int nv] H' Q' E0) ∧ ∀ v H', Res v H' → v ≠ .non ∧ Q v H'
def fldsSpan (row : Str) (x1 x2 : Int) (n : Addr) : List (Str × V) := putF "numbers" (.ref n) (putF "second" (.int x2) (putF "first" (.int x1) (putF "row" (.str row) [])))
def RISpan (C : Addr) (row : Str) (x1 x2 : Int) (D : List Int) : RIT := fun r H => ∃ (dx n : Addr), H r = some (.ins C dx (fldsSpan row x1 x2 n)) ∧ H n = some (.lst (D.map V.int))
structure ClsSpan (K : PySem.W.Frag) (C : Addr) : Prop where
  cl : Cls K C
  n1 : NoAttr K C "row"
  n2 : NoAttr K C "first"
  n3 : NoAttr K C "second"
  n4 : NoAttr K C "numbers"
def spSpanInit (K : PySem.W.Frag) (C : Addr) : Sp := fun vs H Q _ => ∃ (x dx q : Addr) (row : Str) (x1 x2 : Int) (D : List Int), vs = [.ref x, .str row, .int x1, .int x2, .ref q] ∧ H x = some (.ins C dx []) ∧ SqL K H q (D.map V.int) ∧ D.length ≤ 20 ∧
  ∀ n H', H n = none → H' = upd (upd H n (.lst (D.map V.int))) x (.ins C dx (fldsSpan row x1 x2 n)) → Q .non H'
def spSpanOf (K : PySem.W.Frag) (C : Addr) : Sp := fun vs H Q _ => ∃ (q : Addr) (row : Str) (x1 x2 : Int) (D : List Int) (nv : Int), vs = [.str row, .ref q, .int nv] ∧ SqL K H q ((x1 :: x2 :: D).map V.int) ∧ 1 ≤ x1 ∧ x1 ≤ nv ∧ 1 ≤ x2 ∧ x2 ≤ nv ∧ 1 ≤ D.length ∧ D.length ≤ 12 ∧
  ∀ r H', Same H H' → RISpan C row x1 x2 D r H' → Q (.ref r) H'
def semSpan (a b : Int) (D : List Int) : RSem := ⟨1, 0, fun m _ us => if noteA us b - noteA us a ∈ D then some m else none, fun _ _ => true⟩
def fldsClock (row : Str) (x1 x2 x3 : Int) (n : Addr) : List (Str × V) := putF "numbers" (.ref n) (putF "hours" (.int x3) (putF "second" (.int x2) (putF "first" (.int x1) (putF "row" (.str row) []))))
def RIClock (C : Addr) (row : Str) (x1 x2 x3 : Int) (D : List Int) : RIT := fun r H => ∃ (dx n : Addr), H r = some (.ins C dx (fldsClock row x1 x2 x3 n)) ∧ H n = some (.lst (D.map V.int))
structure ClsClock (K : PySem.W.Frag) (C : Addr) : Prop where
  cl : Cls K C
  n1 : NoAttr K C "row"
  n2 : NoAttr K C "first"
  n3 : NoAttr K C "second"
  n4 : NoAttr K C "hours"
  n5 : NoAttr K C "numbers"
def spClockInit (K : PySem.W.Frag) (C : Addr) : Sp := fun vs H Q _ => ∃ (x dx q : Addr) (row : Str) (x1 x2 x3 : Int) (D : List Int), vs = [.ref x, .str row, .int x1, .int x2, .int x3, .ref q] ∧ H x = some (.ins C dx []) ∧ SqL K H q (D.map V.int) ∧ D.length ≤ 20 ∧
  ∀ n H', H n = none → H' = upd (upd H n (.lst (D.map V.int))) x (.ins C dx (fldsClock row x1 x2 x3 n)) → Q .non H'
def spClockOf (K : PySem.W.Frag) (C : Addr) : Sp := fun vs H Q _ => ∃ (q : Addr) (row : Str) (x1 x2 x3 : Int) (D : List Int) (nv : Int), vs = [.str row, .ref q, .int nv] ∧ SqL K H q ((x1 :: x2 :: x3 :: D).map V.int) ∧ 1 ≤ x1 ∧ x1 ≤ nv ∧ 1 ≤ x2 ∧ x2 ≤ nv ∧ 1 ≤ x3 ∧ 1 ≤ D.length ∧ D.length ≤ 12 ∧
  ∀ r H', Same H H' → RIClock C row x1 x2 x3 D r H' → Q (.ref r) H'
def semClock (x1 x2 x3 : Int) (D : List Int) : RSem := ⟨1, 0, fun m _ us => if (noteA us x2 - noteA us x1) % x3 ∈ D then some m else none, fun _ _ => true⟩
def fldsMove (row : Str) (x1 : Int) (n : Addr) : List (Str × V) := putF "numbers" (.ref n) (putF "voice" (.int x1) (putF "row" (.str row) []))
def RIMove (C : Addr) (row : Str) (x1 : Int) (D : List Int) : RIT := fun r H => ∃ (dx n : Addr), H r = some (.ins C dx (fldsMove row x1 n)) ∧ H n = some (.lst (D.map V.int))
structure ClsMove (K : PySem.W.Frag) (C : Addr) : Prop where
  cl : Cls K C
  n1 : NoAttr K C "row"
  n2 : NoAttr K C "voice"
  n3 : NoAttr K C "numbers"
def spMoveInit (K : PySem.W.Frag) (C : Addr) : Sp := fun vs H Q _ => ∃ (x dx q : Addr) (row : Str) (x1 : Int) (D : List Int), vs = [.ref x, .str row, .int x1, .ref q] ∧ H x = some (.ins C dx []) ∧ SqL K H q (D.map V.int) ∧ D.length ≤ 20 ∧
  ∀ n H', H n = none → H' = upd (upd H n (.lst (D.map V.int))) x (.ins C dx (fldsMove row x1 n)) → Q .non H'
def spMoveOf (K : PySem.W.Frag) (C : Addr) : Sp := fun vs H Q _ => ∃ (q : Addr) (row : Str) (x1 : Int) (D : List Int) (nv : Int), vs = [.str row, .ref q, .int nv] ∧ SqL K H q ((x1 :: D).map V.int) ∧ 1 ≤ x1 ∧ x1 ≤ nv ∧ 1 ≤ D.length ∧ D.length ≤ 12 ∧
  ∀ r H', Same H H' → RIMove C row x1 D r H' → Q (.ref r) H'
def semMove (x1 : Int) (D : List Int) : RSem := ⟨1, 0, fun m b us => match b with | none => some m | some bs => if noteA us x1 - noteA bs x1 ∈ D then some m else none, fun _ _ => true⟩
def spMoveF (K : PySem.W.Frag) : Sp := fun vs H Q _ => ∃ (b c : Addr) (v : Int) (bs us : List Int), vs = [.ref b, .ref c, .int v] ∧ SqT K H b (bs.map V.int) ∧ SqT K H c (us.map V.int) ∧ 1 ≤ v ∧ v ≤ bs.length ∧ v ≤ us.length ∧ Q (.int (noteA us v - noteA bs v)) H
def fldsAlike (row : Str) (x1 x2 : Int) (n : Addr) : List (Str × V) := putF "numbers" (.ref n) (putF "second" (.int x2) (putF "first" (.int x1) (putF "row" (.str row) [])))
def RIAlike (C : Addr) (row : Str) (x1 x2 : Int) (D : List Int) : RIT := fun r H => ∃ (dx n : Addr), H r = some (.ins C dx (fldsAlike row x1 x2 n)) ∧ H n = some (.lst (D.map V.int))
structure ClsAlike (K : PySem.W.Frag) (C : Addr) : Prop where
  cl : Cls K C
  n1 : NoAttr K C "row"
  n2 : NoAttr K C "first"
  n3 : NoAttr K C "second"
  n4 : NoAttr K C "numbers"
def spAlikeInit (K : PySem.W.Frag) (C : Addr) : Sp := fun vs H Q _ => ∃ (x dx q : Addr) (row : Str) (x1 x2 : Int) (D : List Int), vs = [.ref x, .str row, .int x1, .int x2, .ref q] ∧ H x = some (.ins C dx []) ∧ SqL K H q (D.map V.int) ∧ D.length ≤ 20 ∧
  ∀ n H', H n = none → H' = upd (upd H n (.lst (D.map V.int))) x (.ins C dx (fldsAlike row x1 x2 n)) → Q .non H'
def spAlikeOf (K : PySem.W.Frag) (C : Addr) : Sp := fun vs H Q _ => ∃ (q : Addr) (row : Str) (x1 x2 : Int) (D : List Int) (nv : Int), vs = [.str row, .ref q, .int nv] ∧ SqL K H q ((x1 :: x2 :: D).map V.int) ∧ 1 ≤ x1 ∧ x1 ≤ nv ∧ 1 ≤ x2 ∧ x2 ≤ nv ∧ 1 ≤ D.length ∧ D.length ≤ 12 ∧
  ∀ r H', Same H H' → RIAlike C row x1 x2 D r H' → Q (.ref r) H'
def semAlike (x1 x2 : Int) (D : List Int) : RSem := ⟨1, 0, fun m b us => match b with | none => some m | some bs => if noteA us x1 - noteA bs x1 = 0 then some m else if noteA us x2 - noteA us x1 = noteA bs x2 - noteA bs x1 ∧ noteA us x2 - noteA us x1 ∈ D then none else some m, fun _ _ => true⟩
def fldsBegin (row : Str) (x1 : Int) (n : Addr) : List (Str × V) := putF "notes" (.ref n) (putF "voice" (.int x1) (putF "row" (.str row) []))
def RIBegin (C : Addr) (row : Str) (x1 : Int) (D : List Int) : RIT := fun r H => ∃ (dx n : Addr), H r = some (.ins C dx (fldsBegin row x1 n)) ∧ H n = some (.lst (D.map V.int))
structure ClsBegin (K : PySem.W.Frag) (C : Addr) : Prop where
  cl : Cls K C
  n1 : NoAttr K C "row"
  n2 : NoAttr K C "voice"
  n3 : NoAttr K C "notes"
def spBeginInit (K : PySem.W.Frag) (C : Addr) : Sp := fun vs H Q _ => ∃ (x dx q : Addr) (row : Str) (x1 : Int) (D : List Int), vs = [.ref x, .str row, .int x1, .ref q] ∧ H x = some (.ins C dx []) ∧ SqL K H q (D.map V.int) ∧ D.length ≤ 20 ∧
  ∀ n H', H n = none → H' = upd (upd H n (.lst (D.map V.int))) x (.ins C dx (fldsBegin row x1 n)) → Q .non H'
def spBeginOf (K : PySem.W.Frag) (C : Addr) : Sp := fun vs H Q _ => ∃ (q : Addr) (row : Str) (x1 : Int) (D : List Int) (nv : Int), vs = [.str row, .ref q, .int nv] ∧ SqL K H q ((x1 :: D).map V.int) ∧ 1 ≤ x1 ∧ x1 ≤ nv ∧ 1 ≤ D.length ∧ D.length ≤ 12 ∧
  ∀ r H', Same H H' → RIBegin C row x1 D r H' → Q (.ref r) H'
def semBegin (x1 : Int) (D : List Int) : RSem := ⟨1, 0, fun m b us => match b with | some _ => some m | none => if noteA us x1 ∈ D then some m else none, fun _ _ => true⟩
def fldsClose (row : Str) (x1 : Int) (n : Addr) : List (Str × V) := putF "notes" (.ref n) (putF "voice" (.int x1) (putF "row" (.str row) []))
def RIClose (C : Addr) (row : Str) (x1 : Int) (D : List Int) : RIT := fun r H => ∃ (dx n : Addr), H r = some (.ins C dx (fldsClose row x1 n)) ∧ H n = some (.lst (D.map V.int))
structure ClsClose (K : PySem.W.Frag) (C : Addr) : Prop where
  cl : Cls K C
  n1 : NoAttr K C "row"
  n2 : NoAttr K C "voice"
  n3 : NoAttr K C "notes"
def spCloseInit (K : PySem.W.Frag) (C : Addr) : Sp := fun vs H Q _ => ∃ (x dx q : Addr) (row : Str) (x1 : Int) (D : List Int), vs = [.ref x, .str row, .int x1, .ref q] ∧ H x = some (.ins C dx []) ∧ SqL K H q (D.map V.int) ∧ D.length ≤ 20 ∧
  ∀ n H', H n = none → H' = upd (upd H n (.lst (D.map V.int))) x (.ins C dx (fldsClose row x1 n)) → Q .non H'
def spCloseOf (K : PySem.W.Frag) (C : Addr) : Sp := fun vs H Q _ => ∃ (q : Addr) (row : Str) (x1 : Int) (D : List Int) (nv : Int), vs = [.str row, .ref q, .int nv] ∧ SqL K H q ((x1 :: D).map V.int) ∧ 1 ≤ x1 ∧ x1 ≤ nv ∧ 1 ≤ D.length ∧ D.length ≤ 12 ∧
  ∀ r H', Same H H' → RIClose C row x1 D r H' → Q (.ref r) H'
def semClose (x1 : Int) (D : List Int) : RSem := ⟨1, 0, fun m _ _ => some m, fun _ b => match b with | none => true | some us => decide (noteA us x1 ∈ D)⟩
def fldsBack (row : Str) (x1 x2 : Int) : List (Str × V) := (putF "widest" (.int x2) (putF "voice" (.int x1) (putF "row" (.str row) [])))
def RIBack (C : Addr) (row : Str) (x1 x2 : Int) : RIT := fun r H => ∃ (dx : Addr), H r = some (.ins C dx (fldsBack row x1 x2))
structure ClsBack (K : PySem.W.Frag) (C : Addr) : Prop where
  cl : Cls K C
  n1 : NoAttr K C "row"
  n2 : NoAttr K C "voice"
  n3 : NoAttr K C "widest"
def spBackInit (K : PySem.W.Frag) (C : Addr) : Sp := fun vs H Q _ => ∃ (x dx : Addr) (row : Str) (x1 x2 : Int), vs = [.ref x, .str row, .int x1, .int x2] ∧ H x = some (.ins C dx []) ∧ Q .non (upd H x (.ins C dx (fldsBack row x1 x2)))
def spBackOf (K : PySem.W.Frag) (C : Addr) : Sp := fun vs H Q _ => ∃ (q : Addr) (row : Str) (x1 x2 : Int) (nv : Int), vs = [.str row, .ref q, .int nv] ∧ SqL K H q ([x1, x2].map V.int) ∧ 1 ≤ x1 ∧ x1 ≤ nv ∧ 0 ≤ x2 ∧
  ∀ r H', Same H H' → RIBack C row x1 x2 r H' → Q (.ref r) H'
def semBack (x1 x2 : Int) : RSem := ⟨3, 0, fun m b us => match b with | none => some 0 | some bs => if (m = 1 ∧ 0 ≤ noteA us x1 - noteA bs x1) ∨ (m = 2 ∧ noteA us x1 - noteA bs x1 ≤ 0) then none else if noteA us x1 - noteA bs x1 > x2 then some 1 else if noteA us x1 - noteA bs x1 < 0 - x2 then some 2 else some 0, fun m _ => decide (m = 0)⟩
def fldsHeld (row : Str) (x1 x2 : Int) : List (Str × V) := (putF "most" (.int x2) (putF "voice" (.int x1) (putF "row" (.str row) [])))
def RIHeld (C : Addr) (row : Str) (x1 x2 : Int) : RIT := fun r H => ∃ (dx : Addr), H r = some (.ins C dx (fldsHeld row x1 x2))
structure ClsHeld (K : PySem.W.Frag) (C : Addr) : Prop where
  cl : Cls K C
  n1 : NoAttr K C "row"
  n2 : NoAttr K C "voice"
  n3 : NoAttr K C "most"
def spHeldInit (K : PySem.W.Frag) (C : Addr) : Sp := fun vs H Q _ => ∃ (x dx : Addr) (row : Str) (x1 x2 : Int), vs = [.ref x, .str row, .int x1, .int x2] ∧ H x = some (.ins C dx []) ∧ Q .non (upd H x (.ins C dx (fldsHeld row x1 x2)))
def spHeldOf (K : PySem.W.Frag) (C : Addr) : Sp := fun vs H Q _ => ∃ (q : Addr) (row : Str) (x1 x2 : Int) (nv : Int), vs = [.str row, .ref q, .int nv] ∧ SqL K H q ([x1, x2].map V.int) ∧ 1 ≤ x1 ∧ x1 ≤ nv ∧ 1 ≤ x2 ∧
  ∀ r H', Same H H' → RIHeld C row x1 x2 r H' → Q (.ref r) H'
def semHeld (x1 x2 : Int) : RSem := ⟨x2, 0, fun m b us => match b with | none => some 0 | some bs => if noteA bs x1 = noteA us x1 then (if m + 1 < x2 then some (m + 1) else none) else some 0, fun _ _ => true⟩
def memHd (x2 m : Int) : Prop := 0 ≤ m ∧ m < x2
def fldsTimes (row : Str) (x1 x2 x3 x4 : Int) : List (Str × V) := (putF "most" (.int x4) (putF "fewest" (.int x3) (putF "note" (.int x2) (putF "voice" (.int x1) (putF "row" (.str row) [])))))
def RITimes (C : Addr) (row : Str) (x1 x2 x3 x4 : Int) : RIT := fun r H => ∃ (dx : Addr), H r = some (.ins C dx (fldsTimes row x1 x2 x3 x4))
structure ClsTimes (K : PySem.W.Frag) (C : Addr) : Prop where
  cl : Cls K C
  n1 : NoAttr K C "row"
  n2 : NoAttr K C "voice"
  n3 : NoAttr K C "note"
  n4 : NoAttr K C "fewest"
  n5 : NoAttr K C "most"
def spTimesInit (K : PySem.W.Frag) (C : Addr) : Sp := fun vs H Q _ => ∃ (x dx : Addr) (row : Str) (x1 x2 x3 x4 : Int), vs = [.ref x, .str row, .int x1, .int x2, .int x3, .int x4] ∧ H x = some (.ins C dx []) ∧ Q .non (upd H x (.ins C dx (fldsTimes row x1 x2 x3 x4)))
def spTimesOf (K : PySem.W.Frag) (C : Addr) : Sp := fun vs H Q _ => ∃ (q : Addr) (row : Str) (x1 x2 x3 x4 : Int) (nv : Int), vs = [.str row, .ref q, .int nv] ∧ SqL K H q ([x1, x2, x3, x4].map V.int) ∧ 1 ≤ x1 ∧ x1 ≤ nv ∧ 0 ≤ x3 ∧ 0 ≤ x4 ∧
  ∀ r H', Same H H' → RITimes C row x1 x2 x3 x4 r H' → Q (.ref r) H'
def semTimes (x1 x2 x3 x4 : Int) : RSem := ⟨x4 + 1, 0, fun m _ us => if noteA us x1 = x2 then (if m < x4 then some (m + 1) else none) else some m, fun m _ => decide (m ≥ x3)⟩
def memTm (x4 m : Int) : Prop := 0 ≤ m ∧ m ≤ x4
def fldsEvery (row : Str) (t u : Int) (ri : Addr) : List (Str × V) := putF "inner" (.ref ri) (putF "turn" (.int u) (putF "turns" (.int t) (putF "row" (.str row) [])))
def RIEvery (C : Addr) (row : Str) (t u : Int) (RIn : RIT) : RIT := fun r H => ∃ (dx ri : Addr), H r = some (.ins C dx (fldsEvery row t u ri)) ∧ RIn ri H
structure ClsEvery (K : PySem.W.Frag) (C : Addr) : Prop where
  cl : Cls K C
  n1 : NoAttr K C "row"
  n2 : NoAttr K C "turns"
  n3 : NoAttr K C "turn"
  n4 : NoAttr K C "inner"
def spEveryInit (K : PySem.W.Frag) (C : Addr) : Sp := fun vs H Q _ => ∃ (x dx ri : Addr) (row : Str) (t u : Int), vs = [.ref x, .str row, .int t, .int u, .ref ri] ∧ H x = some (.ins C dx []) ∧ Q .non (upd H x (.ins C dx (fldsEvery row t u ri)))
def semEvery (t u : Int) (S : RSem) : RSem := ⟨t, 0, fun m b us => if m = u then (if S.after S.start b us = none then none else some ((m + 1) % t)) else some ((m + 1) % t), fun _ _ => true⟩
def memEv (t m : Int) : Prop := 0 ≤ m ∧ m < t
def spEvery (P : Program) (w : World) (K : PySem.W.Frag) (mg : Str → Option Value) (base : Heap) (aM C : Addr) (k : Nat) : Sp := fun vs H Q _ => ∃ (row rest kind : Str) (t u : Int) (ns : List Int) (nv : Int) (D : List (Str × V)) (f : Addr) (sp : Sp) (RIn : RIT), vs = [.str row, .int nv] ∧ RowE row rest t u ∧ RowIs rest kind ns ∧ (kind = Str.ofString "span" ∨ kind = Str.ofString "clock") ∧ 0 ≤ u ∧ u < t ∧ TabK K aM D ∧ KTD.datumAt kind D = some (.ref f) ∧
  FnAt P w K mg base k f ["row", "numbers", "voices"] sp ∧ (∀ q H' Q', Same H H' → H' q = some (.lst (ns.map V.int)) → (∀ ri H'', Same H H'' → RIn ri H'' → Q' (.ref ri) H'') → sp [.str rest, .ref q, .int nv] H' Q' E0) ∧ (∀ r H H', Same H H' → RIn r H → RIn r H') ∧ ∀ r H', Same H H' → RIEvery C row t u RIn r H' → Q (.ref r) H'
def spReadE (P : Program) (w : World) (K : PySem.W.Frag) (mg : Str → Option Value) (base : Heap) (aM C : Addr) (k : Nat) : Sp := fun vs H Q E => ∃ (row : Str) (nv z : Int), vs = [.str row, .int nv, .int z] ∧ (∃ rest t u, RowE row rest t u) ∧ spEvery P w K mg base aM C k [.str row, .int nv] H (fun v H' => v ≠ .non ∧ Q v H') E
def pickF (ns : List Int) (p : Int) : Int := ns.getD p.toNat 0
def spPick (K : PySem.W.Frag) : Sp := fun vs H Q _ => ∃ (a : Addr) (ns : List Int) (p : Int), vs = [.ref a, .int p] ∧ SqL K H a (ns.map V.int) ∧ 0 ≤ p ∧ ∀ H', Same H H' → Q (.int (pickF ns p)) H'
def spStir : Sp := fun vs H Q _ => ∃ n k : Int, vs = [.int n, .int k] ∧ 0 ≤ k ∧ k ≤ 1000 ∧ ∀ z H', 0 ≤ z → z < 1900000043 → Same H H' → Q (.int z) H'
def spDigits : Sp := fun vs H Q _ => ∃ c m : Int, vs = [.int c, .int m] ∧ 0 ≤ m ∧ m ≤ 100 ∧ ∀ q (zs : List Int) H', (zs.length : Int) = m → (∀ z ∈ zs, 0 ≤ z ∧ z < 1900000043) → H' q = some (.lst (zs.map V.int)) → H q = none → Same H H' → Q (.ref q) H'
def spBases : Sp := fun vs H Q _ => ∃ c v : Int, vs = [.int c, .int v] ∧ 1 ≤ v ∧ v ≤ 4 ∧ ∀ q (bs : List Int) H', (bs.length : Int) = v → (∀ b ∈ bs, b.natAbs ≤ 10 ^ 31) → H' q = some (.lst (bs.map V.int)) → H q = none → Same H H' → Q (.ref q) H'
section
variable {P : Program} {w : World} {K : PySem.W.Frag} {mg : Str → Option Value} {base : Heap} {aM : Addr}
theorem ok_number {f : Addr} {fd : FuncData} (F : Fun K "is_number" "is_number" s_is_number f fd) (T : Txt mg aM) : FnOk P w K mg base CX0 1 f fd ["word"] spNum := by
  refine F.ok sc_is_number (fun vs H Q E h => ?_) (fun cdv A outer s H vs Q E hr h => ?_)
  · obtain ⟨z, rfl, _⟩ := h
    rfl
  obtain ⟨z, rfl, hz, k⟩ := h
  refine ⟨_, (pss_cons (ps_set (i := 1) sc_is_number.nd rfl (Or.inl rfl) (pe_ifExp (pt_truth (pe_bmK K PySem.F.plainAttrs_str PySem.F.slot_str_startswith PySem.F.type_str_startswith mt_startswith (pv 0) (pa_cons pe_str pa_nil)) (fun _ => rfl)) (pe_slice (slAK K) (pv 0) (po_some pe_int) po_none) (pv 0)))
  (pss_cons (ps_if (PW.pt (pw_or (pt_cmpR opEq (pv 1) pe_str (nomark _)) (pw_or1 (pt_cmpR op_gt (pe_callB (call_lenK K) (by rfl) T.n_len boot_len (pa_cons (pv 1) pa_nil)) (pe_g T.g_MOST_FIGURES) (nomark _))))) (pss_one (ps_ret pe_bl)) pss_nil)
  (pss_cons (ps_if (pt_not (pt_truth (pe_callB (call_allK K rfl) (by rfl) T.n_all boot_all (pa_cons (pe_comp (own := ["sign"]) (js := []) rfl (pi_anyK K (pv 1)) (CompOk.of (by rfl)) (fun _ _ _ _ _ => (pg_name (i := 0) (show List.Nodup (["sign"] : List Str) from by decide +kernel) rfl (Or.inl rfl))) (fun _ _ _ _ _ => pts_nil) (fun _ _ _ _ _ => (pe_cmpR (opInK K) (pv 0) (pe_g T.g_FIGURES) (by with_unfolding_all rfl)))) pa_nil)) (fun _ => rfl))) (pss_one (ps_ret pe_bl)) pss_nil)
  (pss_one (ps_ret (pe_or (pe_cmpR opNe (pe_ix (ixAK K) (pv 1) pe_int (fun _ _ => rfl)) pe_str (nomark _)) (pe_one (pe_cmpR opEq (pv 0) pe_str (nomark _))))))))), ?_⟩
  have hs : sizeLine = 16777216 := sizeLine_eq
  have c0 : (Str.ofString "").cps.toList = [] := by decide +kernel
  have c45 : (Str.ofString "-") = ⟨#[45]⟩ := by decide +kernel
  have c48 : (Str.ofString "0").cps.toList = [48] := by decide +kernel
  have cF : (Str.ofString "0123456789").cps.toList = [48, 49, 50, 51, 52, 53, 54, 55, 56, 57] := by decide +kernel
  refine cut2 (fun σ H' => ∃ y, σ = [some (.str z), some (.str y)] ∧ H = H' ∧ y.cps.toList = figs z.cps.toList) ?_ ?_
  · rintro _ _ ⟨y, rfl, rfl, hy⟩
    have hyl : y.length ≤ 10000 := by
      rw [str_len, hy]
      rw [str_len] at hz
      refine Nat.le_trans ?_ hz
      unfold figs
      split
      · rw [List.length_tail]; omega
      · exact Nat.le_refl _
    walk_at "rd"
    have hk := k
    rw [isNum_prog, ← hy, ← str_len] at hk
    have q0 := hk H (Same.refl H)
    by_cases h1 : y = Str.ofString ""
    · rw [if_pos h1]
      rw [if_pos (Or.inl (by rw [h1, c0]))] at q0
      exact q0
    rw [if_neg h1]
    refine ⟨by omega, ?_⟩
    by_cases h2 : (40 : Int) < y.length
    · rw [if_pos h2]
      rw [if_pos (Or.inr (by omega))] at q0
      exact q0
    rw [if_neg h2]
    have h3 : ¬ (y.cps.toList = [] ∨ 40 < y.length) := by
      rintro (e | e)
      · exact h1 (str_iff.mpr (by rw [e, c0]))
      · omega
    rw [if_neg h3] at hk
    have e0 : y.cps.toList ≠ [] := fun e => h3 (Or.inl e)
    refine rIt_str (cloop_str (fun i ys H' => ys = (y.cps.toList.take i).map (fun c => V.bl (decide (c ∈ [48, 49, 50, 51, 52, 53, 54, 55, 56, 57]))) ∧ H = H') (by omega) ⟨rfl, rfl⟩ ?_ ?_ ?_)
    · rintro i ys H' ⟨rfl, rfl⟩
      rw [List.length_map, List.length_take]
      omega
    · rintro i c ys H' hc ⟨rfl, rfl⟩
      walk_at "rd"
      rw [cF, List.take_add_one, hc]
      simp
    · rintro ys H' ⟨rfl, rfl⟩ p hp
      rw [str_len, List.take_length]
      refine ⟨y.cps.toList.map (fun c => decide (c ∈ [48, 49, 50, 51, 52, 53, 54, 55, 56, 57])), SqL.of (by rw [upd_same, List.map_map]; rfl), ?_⟩
      have ed : (List.map (fun c => decide (c ∈ [48, 49, 50, 51, 52, 53, 54, 55, 56, 57])) y.cps.toList).all id = digs y.cps.toList := by
        unfold digs
        rw [List.all_map]
        rfl
      have q1 := hk _ (same_upd (o := .lst ((y.cps.toList.take y.cps.toList.length).map (fun c => V.bl (decide (c ∈ [48, 49, 50, 51, 52, 53, 54, 55, 56, 57]))))) hp)
      rw [List.take_length] at q1
      rw [ed]
      by_cases h4 : digs y.cps.toList = false
      · rw [if_pos h4]
        rw [if_pos h4] at q1
        exact q1
      rw [if_neg h4]
      rw [if_neg h4] at q1
      refine ⟨by rw [← str_len]; omega, ?_⟩
      cases hh : y.cps.toList with
      | nil => exact absurd hh e0
      | cons a l =>
        rw [hh] at q1
        refine ⟨a, atI_zero rfl, ?_⟩
        by_cases ha : a = 48
        · subst ha
          rw [if_pos (str_iff.mpr (by rw [c48])), str_eq_codes, c48]
          simpa using q1
        · rw [if_neg (fun e => ha (by have := str_iff.mp e; rw [c48] at this; simpa using this))]
          simpa [ha] using q1
  · intro u' hu
    walk_at "rd"
    rw [c45, starts_one]
    by_cases h1 : z.cps.toList.head? = some 45
    · rw [if_pos (by simpa using h1)]
      exact ⟨by omega, hu _ _ ⟨_, rfl, rfl, by rw [slice_from (by decide)]; unfold figs; rw [if_pos h1]; simp⟩⟩
    · rw [if_neg (by simpa using h1)]
      exact hu _ _ ⟨_, rfl, rfl, by unfold figs; rw [if_neg h1]⟩
theorem ok_note_in {f : Addr} {fd : FuncData} (F : Fun K "note_in" "note_in" s_note_in f fd) : FnOk P w K mg base CX0 1 f fd ["column", "voice"] (spNoteIn K) := by
  refine F.ok sc_note_in (fun vs H Q E h => ?_) (fun cdv A outer s H vs Q E hr h => ?_)
  · obtain ⟨c, v, us, rfl, _⟩ := h
    rfl
  obtain ⟨c, v, us, rfl, hc, h1, h2, k⟩ := h
  refine ⟨_, (pss_one (ps_ret (pe_ix (ixAK K) (pv 0) (pe_op op_sub (pv 1) pe_int) (fun _ _ => rfl)))), ?_⟩
  walk_at "rd"
  exact rIx_t hc (noteA_at h1 h2) k
theorem ok_span {f : Addr} {fd : FuncData} (F : Fun K "span" "span" s_span f fd) (D_note_in : Def P w K mg base "note_in" 1 ["column", "voice"] (spNoteIn K)) : FnOk P w K mg base CX0 2 f fd ["column", "first", "second"] (spSpan K) := by
  refine F.ok sc_span (fun vs H Q E h => ?_) (fun cdv A outer s H vs Q E hr h => ?_)
  · obtain ⟨c, a, b, us, rfl, _⟩ := h
    rfl
  obtain ⟨c, a, b, us, rfl, hc, h1, h2, h3, h4, k⟩ := h
  refine ⟨_, (pss_one (ps_ret (pe_op op_sub (pe_def D_note_in hr (by rfl) (pa_cons (pv 0) (pa_cons (pv 2) pa_nil))) (pe_def D_note_in hr (by rfl) (pa_cons (pv 0) (pa_cons (pv 1) pa_nil)))))), ?_⟩
  walk_at "rd"
  refine ⟨c, b, us, rfl, hc, h3, h4, c, a, us, rfl, hc, h1, h2, ?_⟩
  walk_at "rd"
  exact k
theorem ok_Rule_init {f : Addr} {fd : FuncData} (F : Fun K "__init__" "Rule.__init__" s_Rule___init__ f fd) : FnOk P w K mg base CX0 1 f fd ["self", "row"] (spRuleInit K) := by
  refine F.ok sc_Rule___init__ (fun vs H Q E h => ?_) (fun cdv A outer s H vs Q E hr h => ?_)
  · obtain ⟨x, C, dx, fs, row, rfl, _⟩ := h
    rfl
  obtain ⟨x, C, dx, fs, row, rfl, hx, cl, na, hl, k⟩ := h
  refine ⟨_, (pss_one (ps_fld (pv 0) (pv 1) rfl)), ?_⟩
  walk_at "rd"
  exact ⟨C, dx, fs, hx, cl, na, by omega, k⟩
theorem ok_Rule_size {f : Addr} {fd : FuncData} (F : Fun K "size" "Rule.size" s_Rule_size f fd) : FnOk P w K mg base CX0 1 f fd ["self"] (spSay 1 fun _ => .int 1) := by
  refine F.ok sc_Rule_size (fun vs H Q E h => h.1) (fun cdv A outer s H vs Q E hr h => ?_)
  obtain ⟨hl, k⟩ := h
  match vs, hl with
  | [a], _ =>
  refine ⟨_, (pss_one (ps_ret pe_int)), ?_⟩
  walk_at "rd"
  exact k
theorem ok_Rule_start {f : Addr} {fd : FuncData} (F : Fun K "start" "Rule.start" s_Rule_start f fd) : FnOk P w K mg base CX0 1 f fd ["self"] (spSay 1 fun _ => .int 0) := by
  refine F.ok sc_Rule_start (fun vs H Q E h => h.1) (fun cdv A outer s H vs Q E hr h => ?_)
  obtain ⟨hl, k⟩ := h
  match vs, hl with
  | [a], _ =>
  refine ⟨_, (pss_one (ps_ret pe_int)), ?_⟩
  walk_at "rd"
  exact k
theorem ok_Rule_closes {f : Addr} {fd : FuncData} (F : Fun K "closes" "Rule.closes" s_Rule_closes f fd) : FnOk P w K mg base CX0 1 f fd ["self", "memory", "last"] (spSay 3 fun _ => .bl true) := by
  refine F.ok sc_Rule_closes (fun vs H Q E h => h.1) (fun cdv A outer s H vs Q E hr h => ?_)
  obtain ⟨hl, k⟩ := h
  match vs, hl with
  | [a, b, c], _ =>
  refine ⟨_, (pss_one (ps_ret pe_bl)), ?_⟩
  walk_at "rd"
  exact k
theorem ok_Rule_shown {f : Addr} {fd : FuncData} (F : Fun K "shown" "Rule.shown" s_Rule_shown f fd) : FnOk P w K mg base CX0 1 f fd ["self"] (spShown K) := by
  refine F.ok sc_Rule_shown (fun vs H Q E h => ?_) (fun cdv A outer s H vs Q E hr h => ?_)
  · obtain ⟨r, C, dx, fs, row, rfl, _⟩ := h
    rfl
  obtain ⟨r, C, dx, fs, row, rfl, h1, h2, h3, h4, q⟩ := h
  refine ⟨_, (pss_one (ps_ret (pe_fld (pv 0) rfl))), ?_⟩
  walk_at "rd"
  exact ⟨C, dx, fs, h1, h2, h3, _, h4, q⟩
theorem ok_Rule_after {f : Addr} {fd : FuncData} (F : Fun K "after" "Rule.after" s_Rule_after f fd) : FnOk P w K mg base CX0 1 f fd ["self", "memory", "before", "column"] (spSay 4 keepM) := by
  refine F.ok sc_Rule_after (fun vs H Q E h => h.1) (fun cdv A outer s H vs Q E hr h => ?_)
  obtain ⟨hl, k⟩ := h
  match vs, hl with
  | [a, b, c, d], _ =>
  refine ⟨_, (pss_one (ps_ret (pv 1))), ?_⟩
  walk_at "rd"
  exact k
theorem ok_has_list {f : Addr} {fd : FuncData} (F : Fun K "has_list" "has_list" s_has_list f fd) (T : Txt mg aM) : FnOk P w K mg base CX0 1 f fd ["numbers", "ahead"] (spHasList K) := by
  refine F.ok sc_has_list (fun vs H Q E h => ?_) (fun cdv A outer s H vs Q E hr h => ?_)
  · obtain ⟨q, xs, j, rfl, _⟩ := h
    rfl
  obtain ⟨q, xs, j, rfl, hq, k⟩ := h
  refine ⟨_, (pss_one (ps_ret (pe_chain op_le op_le pe_int (pe_op op_sub (pe_callB (call_lenK K) (by rfl) T.n_len boot_len (pa_cons (pv 0) pa_nil)) (pv 1)) (pe_g T.g_MOST_NUMBERS)))), ?_⟩
  walk_at "rd"
  refine ⟨xs, .inl hq, ?_⟩
  walk_at "rd"
  by_cases h1 : (1 : Int) ≤ (xs.length : Int) - j
  · rw [if_pos h1]
    rw [decide_eq_true h1, Bool.true_and] at k
    exact k
  · rw [if_neg h1]
    rw [decide_eq_false h1, Bool.false_and] at k
    exact k
theorem ok_are_voices {f : Addr} {fd : FuncData} (F : Fun K "are_voices" "are_voices" s_are_voices f fd) (T : Txt mg aM) : FnOk P w K mg base CX0 1 f fd ["numbers", "voices"] (spAreVoices K) := by
  refine F.ok sc_are_voices (fun vs H Q E h => ?_) (fun cdv A outer s H vs Q E hr h => ?_)
  · obtain ⟨q, ns, nv, rfl, _⟩ := h
    rfl
  obtain ⟨q, ns, nv, rfl, hq, hl, k⟩ := h
  refine ⟨_, (pss_one (ps_ret (pe_callB (call_allK K rfl) (by rfl) T.n_all boot_all (pa_cons (pe_comp (own := ["number"]) (js := [1]) rfl (pi_anyK K (pv 0)) (CompOk.of (by rfl)) (fun _ _ _ _ _ => (pg_name (i := 0) (show List.Nodup (["number", "voices"] : List Str) from by decide +kernel) rfl (Or.inl rfl))) (fun _ _ _ _ _ => pts_nil) (fun _ _ _ _ _ => (pe_chain op_le op_le pe_int (pv 0) (pv 1)))) pa_nil)))), ?_⟩
  walk_at "rd"
  have hs : sizeLine = 16777216 := sizeLine_eq
  refine rIt_lst hq (cloop_list (xs := ns.map V.int) (fun i ys H' => ys = ((ns.take i).map fun n => decide (1 ≤ n) && decide (n ≤ nv)).map V.bl ∧ H = H') (by rw [List.length_map]; omega) ⟨rfl, rfl⟩ ?_ ?_ ?_ ?_)
  · rintro i ys H' ⟨rfl, rfl⟩
    rw [List.length_map, List.length_map, List.length_take]
    omega
  · rintro i ys H' ⟨rfl, rfl⟩
    exact hq
  · rintro i x ys H' hx ⟨rfl, rfl⟩
    rw [List.getElem?_map] at hx
    cases hn : ns[i]? with
    | none => rw [hn] at hx; cases hx
    | some n =>
      rw [hn] at hx
      cases hx
      walk_at "rd"
      rw [List.take_add_one, hn]
      by_cases h1 : (1 : Int) ≤ n
      · rw [if_pos h1]
        simp [h1]
      · rw [if_neg h1]
        simp [h1]
  · rintro ys H' ⟨rfl, rfl⟩ p hp
    refine ⟨_, SqL.of upd_same, ?_⟩
    rw [List.all_map, List.length_map, List.take_length]
    exact k _ (same_upd hp)
theorem ok_plain_rule {f : Addr} {fd : FuncData} (F : Fun K "plain_rule" "plain_rule" s_plain_rule f fd) (T : Txt mg aM) (D_is_number : Def P w K mg base "is_number" 7 ["word"] spNum) : FnOk P w K mg base CX0 8 f fd ["row", "voices"] (spPlain P w K mg base aM 7) := by
  refine F.ok sc_plain_rule (fun vs H Q E h => ?_) (fun cdv A outer s H vs Q E hr h => ?_)
  · obtain ⟨row, kind, ns, nv, D, f, sp, Res, rfl, _⟩ := h
    rfl
  obtain ⟨row, kind, ns, nv, D, g, sp, Res, rfl, R, tab, hg, fn, k, kq⟩ := h
  refine ⟨_, (pss_cons (ps_set (i := 2) sc_plain_rule.nd rfl (Or.inl rfl) (pe_bmK K PySem.F.plainAttrs_str PySem.F.slot_str_split PySem.F.type_str_split mt_split (pv 0) (pa_cons pe_str pa_nil)))
  (pss_cons (ps_if (PW.pt (pw_or (pt_cmpR (opNotInTab K) (pe_ix (ixAK K) (pv 2) pe_int (fun _ _ => rfl)) (pe_g T.g_MAKERS) (by with_unfolding_all rfl)) (pw_or1 (pt_not (pt_truth (pe_callB (call_allK K rfl) (by rfl) T.n_all boot_all (pa_cons (pe_comp (own := ["word"]) (js := []) rfl (pi_anyK K (pe_slice (slAK K) (pv 2) (po_some pe_int) po_none)) (CompOk.of (by rfl)) (fun _ _ _ _ _ => (pg_name (i := 0) (show List.Nodup (["word"] : List Str) from by decide +kernel) rfl (Or.inl rfl))) (fun _ _ _ _ _ => pts_nil) (fun _ _ _ _ _ => (pe_def D_is_number hr (by rfl) (pa_cons (pv 0) pa_nil)))) pa_nil)) (fun _ => rfl)))))) (pss_one (ps_ret pe_non)) pss_nil)
  (pss_one (ps_ret (pe_callE P w K mg base hr (pe_ixTab K (pe_g T.g_MAKERS) (pe_ix (ixAK K) (pv 2) pe_int (fun _ _ => rfl)) (fun _ _ => rfl)) (pa_cons (pv 0) (pa_cons (pe_comp (own := ["word"]) (js := []) rfl (pi_anyK K (pe_slice (slAK K) (pv 2) (po_some pe_int) po_none)) (CompOk.of (by rfl)) (fun _ _ _ _ _ => (pg_name (i := 0) (show List.Nodup (["word"] : List Str) from by decide +kernel) rfl (Or.inl rfl))) (fun _ _ _ _ _ => pts_nil) (fun _ _ _ _ _ => (pe_callTy (call_intA) (by rfl) T.n_int boot_int (pa_cons (pv 0) pa_nil)))) (pa_cons (pv 1) pa_nil)))))))), ?_⟩
  walk_at "rd"
  have hs : sizeLine = 16777216 := sizeLine_eq
  have hl := R.len
  have hnl := R.nl
  refine ⟨32, by decide +kernel, by decide, by omega, fun p hp => ?_⟩
  rw [R.split]
  have sp0 : Same H (upd H p (.lst ((kind :: ns.map numS).map V.str))) := same_upd hp
  generalize hH0 : upd H p (.lst ((kind :: ns.map numS).map V.str)) = H0 at sp0
  have hp0 : H0 p = some (.lst ((kind :: ns.map numS).map V.str)) := by rw [← hH0, upd_same]
  refine rIx_l (SqL.of hp0) (atI_zero rfl) ⟨kind, rfl, D, tab, ?_⟩
  rw [hg]
  walk_at "rd"
  refine rSlA_l (SqL.of hp0) fun q hq => ?_
  rw [show (some (1 : Int)) = some ((1 : Nat) : Int) from rfl, cutV_from]
  show rIt _ _ _ _
  have s1 : Same H0 (upd H0 q (.lst ((ns.map numS).map V.str))) := same_upd hq
  refine rIt_lst (xs := (ns.map numS).map V.str) (SqL.of upd_same) (cloop_list (xs := (ns.map numS).map V.str) (fun i ys H' => ys = (List.replicate i true).map V.bl ∧ Same (upd H0 q (.lst ((ns.map numS).map V.str))) H') (by simp; omega) ⟨rfl, Same.refl _⟩ ?_ ?_ ?_ ?_)
  · rintro i ys H' ⟨rfl, sm⟩
    simp
  · rintro i ys H' ⟨rfl, sm⟩
    exact sm.seq (SqL.of upd_same)
  · rintro i x ys H' hx ⟨rfl, sm⟩
    obtain ⟨n, hn, rfl⟩ : ∃ n ∈ ns, x = .str (numS n) := by
      have := List.mem_of_getElem? hx
      simp only [List.map_map, List.mem_map, Function.comp_apply] at this
      obtain ⟨n, hn, e⟩ := this
      exact ⟨n, hn, e.symm⟩
    walk_at "rd"
    refine ⟨numS n, rfl, ?_, fun H1 s1 => ⟨?_, sm.trans s1⟩⟩
    · rw [str_len]
      have := numC_len (n := n) (k := 40) (by decide) (R.nb n hn)
      show (numC n).length ≤ _
      omega
    · show _ = (List.replicate (i + 1) true).map V.bl
      rw [show (numS n).cps.toList = numC n from rfl, isNum_num (R.nb n hn), List.replicate_succ', List.map_append]
      rfl
  rintro ys H1 ⟨rfl, sm⟩ p1 hp1
  simp only [List.length_map]
  refine ⟨_, SqL.of upd_same, ?_⟩
  rw [show (List.replicate ns.length true).all id = true by simp]
  walk_at "rd"
  have s2 : Same H0 (upd H1 p1 (.lst ((List.replicate ns.length true).map V.bl))) := (s1.trans sm).upd hp1
  generalize upd H1 p1 (.lst ((List.replicate ns.length true).map V.bl)) = H2 at s2
  have hp2 := s2 _ _ hp0
  refine rIx_l (SqL.of hp2) (atI_zero rfl) ⟨kind, rfl, D, tab, _, hg, g, rfl, _, _, fn, ?_⟩
  refine rSlA_l (SqL.of hp2) fun q2 hq2 => ?_
  rw [cutV_from]
  show rIt _ _ _ _
  have s3 : Same H0 (upd H2 q2 (.lst ((ns.map numS).map V.str))) := s2.upd hq2
  refine rIt_lst (xs := (ns.map numS).map V.str) (SqL.of upd_same) (cloop_list (xs := (ns.map numS).map V.str) (fun i ys H' => ys = (ns.take i).map V.int ∧ upd H2 q2 (.lst ((ns.map numS).map V.str)) = H') (by simp; omega) ⟨rfl, rfl⟩ ?_ ?_ ?_ ?_)
  · rintro i ys H' ⟨rfl, rfl⟩
    rw [List.length_map, List.length_take]
    omega
  · rintro i ys H' ⟨rfl, rfl⟩
    exact SqL.of upd_same
  · rintro i x ys H' hx ⟨rfl, rfl⟩
    cases hn : ns[i]? with
    | none => rw [List.getElem?_map, List.getElem?_map, hn] at hx; cases hx
    | some n =>
      rw [List.getElem?_map, List.getElem?_map, hn] at hx
      cases hx
      have hb := R.nb n (List.mem_of_getElem? hn)
      walk_at "rd"
      refine ⟨n, int_num (Nat.lt_of_lt_of_le hb (Nat.pow_le_pow_right (by decide) (by decide))), ?_, ?_⟩
      · rw [str_len]
        have := numC_len (n := n) (k := 40) (by decide) hb
        show (numC n).length ≤ _
        omega
      · rw [List.take_add_one, hn, List.map_append]
        rfl
  rintro ys H3 ⟨rfl, rfl⟩ p3 hp3
  refine k p3 _ _ (sp0.trans (s3.upd hp3)) ?_ kq
  rw [upd_same, List.length_map, List.length_map, List.take_length]
theorem ok_Span_init {f C : Addr} {fd : FuncData} (F : Fun K "__init__" "Span.__init__" s_Span___init__ f fd) (T : Txt mg aM) (TC : ClsSpan K C) (DC_Rule___init__ : DefC P w K mg base "Rule" "__init__" 1 ["self", "row"] (spRuleInit K)) : FnOk P w K mg base CX0 2 f fd ["self", "row", "first", "second", "numbers"] (spSpanInit K C) := by
  refine F.ok sc_Span___init__ (fun vs H Q E h => ?_) (fun cdv A outer s H vs Q E hr h => ?_)
  · obtain ⟨x, dx, q, row, x1, x2, D, rfl, _⟩ := h
    rfl
  obtain ⟨x, dx, q, row, x1, x2, D, rfl, hx, hq, hl, k⟩ := h
  refine ⟨_, (pss_cons (ps_expr (pe_cmeth DC_Rule___init__ hr (by rfl) (pa_cons (pv 0) (pa_cons (pv 1) pa_nil))))
  (pss_cons (ps_fld (pv 0) (pv 2) rfl)
  (pss_cons (ps_fld (pv 0) (pv 3) rfl)
  (pss_one (ps_fld (pv 0) (pe_callTy (call_listK K) (by rfl) T.n_list boot_list (pa_cons (pv 4) pa_nil)) rfl))))), ?_⟩
  walk_at "rd"
  have ln : ∀ (f : Str) (v : V) (l : List (Str × V)) (n : Nat), l.length ≤ n → (putF f v l).length ≤ n + 1 := fun f v l n h => Nat.le_trans (length_putF f v l) (Nat.succ_le_succ h)
  refine ⟨x, C, dx, [], row, rfl, hx, TC.cl, TC.n1, by decide, ?_⟩
  refine ⟨C, dx, _, upd_same, TC.cl, TC.n2, Nat.lt_of_le_of_lt (ln _ _ _ _ (Nat.zero_le 0)) (by decide), C, dx, _, upd_same, TC.cl, TC.n3, Nat.lt_of_le_of_lt (ln _ _ _ _ (ln _ _ _ _ (Nat.zero_le 0))) (by decide), D.map V.int, .inl (((hq.at_ins hx).at_ins upd_same).at_ins upd_same), fun n hn => ?_⟩
  have nx : n ≠ x := fun e => by subst e; rw [upd_same] at hn; cases hn
  rw [upd_ne nx, upd_ne nx, upd_ne nx] at hn
  refine ⟨C, dx, _, by rw [upd_ne (Ne.symm nx), upd_same], TC.cl, TC.n4, Nat.lt_of_le_of_lt (ln _ _ _ _ (ln _ _ _ _ (ln _ _ _ _ (Nat.zero_le 0)))) (by decide), ?_⟩
  refine k n _ hn ?_
  rw [upd_upd, upd_upd, upd_over]
  rfl
theorem ok_span_of {f C : Addr} {fd : FuncData} (F : Fun K "span_of" "span_of" s_span_of f fd) (T : Txt mg aM) (D_has_list : Def P w K mg base "has_list" 3 ["numbers", "ahead"] (spHasList K)) (D_are_voices : Def P w K mg base "are_voices" 3 ["numbers", "voices"] (spAreVoices K)) (DM_Span : DefM P w K mg base "Span" C 2 ["self", "row", "first", "second", "numbers"] (spSpanInit K C)) : FnOk P w K mg base CX0 4 f fd ["row", "numbers", "voices"] (spSpanOf K C) := by
  refine F.ok sc_span_of (fun vs H Q E h => ?_) (fun cdv A outer s H vs Q E hr h => ?_)
  · obtain ⟨q, row, x1, x2, D, nv, rfl, _⟩ := h
    rfl
  obtain ⟨q, row, x1, x2, D, nv, rfl, hq, x1_1, x1_2, x2_1, x2_2, l1, l2, k⟩ := h
  refine ⟨_, (pss_cons (ps_if (PW.pt (pw_or (pt_not (pt_truth (pe_def D_has_list hr (by rfl) (pa_cons (pv 1) (pa_cons pe_int pa_nil))) (fun _ => rfl))) (pw_or1 (pt_not (pt_truth (pe_def D_are_voices hr (by rfl) (pa_cons (pe_slice (slAK K) (pv 1) po_none (po_some pe_int)) (pa_cons (pv 2) pa_nil))) (fun _ => rfl)))))) (pss_one (ps_ret pe_non)) pss_nil)
  (pss_one (ps_ret (pe_mk DM_Span hr (by rfl) (pa_cons (pv 0) (pa_cons (pe_ix (ixAK K) (pv 1) pe_int (fun _ _ => rfl)) (pa_cons (pe_ix (ixAK K) (pv 1) pe_int (fun _ _ => rfl)) (pa_cons (pe_slice (slAK K) (pv 1) (po_some pe_int) po_none) pa_nil)))))))), ?_⟩
  walk_at "rd"
  have hs : sizeLine = 16777216 := sizeLine_eq
  refine ⟨q, _, 2, rfl, hq, ?_⟩
  rw [show (decide (1 ≤ (((x1 :: x2 :: D).map V.int).length : Int) - 2) && decide ((((x1 :: x2 :: D).map V.int).length : Int) - 2 ≤ 12)) = true by simp; omega]
  walk_at "rd"
  refine rSlA_l hq fun q1 hq1 => ?_
  rw [show (some (2 : Int)) = some ((2 : Nat) : Int) from rfl, cutV_to]
  have s1 : Same H (upd H q1 (.lst ((((x1 :: x2 :: D).map V.int)).take 2))) := same_upd hq1
  refine ⟨q1, [x1, x2], nv, rfl, SqL.of upd_same, by simp, fun H1 s2 => ?_⟩
  rw [show ([x1, x2].all fun n => decide (1 ≤ n) && decide (n ≤ nv)) = true by simp; omega]
  walk_at "rd"
  have s3 := s1.trans s2
  have hq3 := s3.seq hq
  refine rIx_l hq3 (atI_zero rfl) (rIx_l hq3 (show atI _ ((1 : Nat) : Int) = _ from atI_nat rfl) (rSlA_l hq3 fun q2 hq2 => ?_))
  rw [cutV_from]
  show ∀ x dx : Addr, _
  intro x dx hx hdx hne
  have s4 : Same H (upd H1 q2 (.lst (((x1 :: x2 :: D).map V.int).drop 2))) := s3.upd hq2
  have hq2' : (upd H1 q2 (.lst (((x1 :: x2 :: D).map V.int).drop 2))) q2 = some (.lst (D.map V.int)) := upd_same
  generalize upd H1 q2 (.lst (((x1 :: x2 :: D).map V.int).drop 2)) = H2 at s4 hx hdx hq2'
  have s5 : Same H (upd (upd H2 dx (.own x)) x (.ins C dx [])) := (s4.upd hdx).upd (by rw [upd_ne (Ne.symm hne)]; exact hx)
  have hq5 : (upd (upd H2 dx (.own x)) x (.ins C dx [])) q2 = some (.lst (D.map V.int)) := by
    rw [upd_ne (ne_of_none hq2' hx), upd_ne (ne_of_none hq2' hdx)]
    exact hq2'
  refine ⟨x, dx, q2, row, x1, x2, D, rfl, upd_same, SqL.of hq5, by omega, fun n H3 hn e => ⟨rfl, ?_⟩⟩
  subst e
  have nx : n ≠ x := fun z => by subst z; rw [upd_same] at hn; cases hn
  refine k x _ ?_ ⟨dx, n, upd_same, by rw [upd_ne nx, upd_same]⟩
  intro c o hc
  have n1 : c ≠ x := ne_of_none (s4 _ _ hc) hx
  rw [upd_ne n1, upd_ne (ne_of_none (s5 _ _ hc) hn)]
  exact s5 _ _ hc
theorem ok_Span_after {f C : Addr} {fd : FuncData} {row : Str} {a b : Int} {D : List Int} {nv : Nat} (F : Fun K "after" "Span.after" s_Span_after f fd) (T : Txt mg aM) (TC : ClsSpan K C) (ha : 1 ≤ a ∧ a ≤ nv) (hb : 1 ≤ b ∧ b ≤ nv) (D_span : Def P w K mg base "span" 2 ["column", "first", "second"] (spSpan K)) : FnOk P w K mg base CX0 3 f fd ["self", "memory", "before", "column"] (spAfter K nv (RISpan C row a b D) (semSpan a b D) fun _ => True) := by
  refine F.ok sc_Span_after (fun vs H Q E h => ?_) (fun cdv A outer s H vs Q E hr h => ?_)
  · obtain ⟨r, m, x, c, bb, us, rfl, _⟩ := h
    rfl
  obtain ⟨r, m, x, c, bb, us, rfl, ⟨dx, n, hr1, hn⟩, _, hbv, hc, hu, k⟩ := h
  refine ⟨_, (pss_one (ps_ret (pe_ifExp (pt_cmpR (opInK K) (pe_def D_span hr (by rfl) (pa_cons (pv 3) (pa_cons (pe_fld (pv 0) rfl) (pa_cons (pe_fld (pv 0) rfl) pa_nil)))) (pe_fld (pv 0) rfl) (by with_unfolding_all rfl)) (pv 1) pe_non))), ?_⟩
  walk_at "rd"
  have l1 : (fldsSpan row a b n).lookup (Str.ofString "first") = some (.int a) := by unfold fldsSpan; walk_at "flds"
  have l2 : (fldsSpan row a b n).lookup (Str.ofString "second") = some (.int b) := by unfold fldsSpan; walk_at "flds"
  have l3 : (fldsSpan row a b n).lookup (Str.ofString "numbers") = some (.ref n) := by unfold fldsSpan; walk_at "flds"
  refine ⟨C, dx, _, hr1, TC.cl, TC.n2, _, l1, C, dx, _, hr1, TC.cl, TC.n3, _, l2, c, a, b, us, rfl, hc, ha.1, by rw [hu]; exact ha.2, hb.1, by rw [hu]; exact hb.2, C, dx, _, hr1, TC.cl, TC.n4, _, l3, rIn_ints (SqL.of hn) ⟨_, rfl, ?_⟩⟩
  by_cases h : noteA us b - noteA us a ∈ D
  · rw [if_pos (decide_eq_true h)]
    simp only [semSpan] at k
    rw [if_pos h] at k
    exact k
  · rw [if_neg (by rw [decide_eq_false h]; exact Bool.false_ne_true)]
    simp only [semSpan] at k
    rw [if_neg h] at k
    exact k
theorem span_obj {lv : Nat} {C : Addr} {row : Str} {a b : Int} {D : List Int} {nv : Nat} (TC : ClsSpan K C) (h1 : MethOk P w K mg base C "size" lv ["self"] (spSay 1 fun _ => .int 1)) (h2 : MethOk P w K mg base C "start" lv ["self"] (spSay 1 fun _ => .int 0)) (h3 : MethOk P w K mg base C "closes" lv ["self", "memory", "last"] (spSay 3 fun _ => .bl true))
    (h4 : MethOk P w K mg base C "after" lv ["self", "memory", "before", "column"] (spAfter K nv (RISpan C row a b D) (semSpan a b D) fun _ => True)) : RuleObj P w K mg base lv nv C (semSpan a b D) (RISpan C row a b D) (fun _ => True) := by
  refine ⟨fun r H H' s h => ?_, fun r H h => ?_, trivial, fun _ _ _ _ _ _ => trivial, h1.imp ?_, h2.imp ?_, h4, h3.imp ?_⟩
  · obtain ⟨dx, n, e1, e2⟩ := h
    exact ⟨dx, n, s _ _ e1, s _ _ e2⟩
  · obtain ⟨dx, n, e1, e2⟩ := h
    refine ⟨dx, _, e1, ?_, ?_, ?_, ?_, ?_⟩ <;> (unfold fldsSpan; walk_at "flds")
  · rintro vs H Q E ⟨r, rfl, _, q⟩
    exact ⟨rfl, q⟩
  · rintro vs H Q E ⟨r, rfl, _, q⟩
    exact ⟨rfl, q⟩
  · rintro vs H Q E ⟨r, m, x, b, rfl, _, _, _, q⟩
    exact ⟨rfl, q⟩
theorem span_shown {C : Addr} {row : Str} {a b : Int} {D : List Int} (TC : ClsSpan K C) (h : MethOk P w K mg base C "shown" 7 ["self"] (spShown K)) : MethOk P w K mg base C "shown" 7 ["self"] (spR0 (RISpan C row a b D) (.str row)) := h.imp <| by
  rintro vs H Q E ⟨r, rfl, ⟨dx, n, e1, e2⟩, q⟩
  exact ⟨r, C, dx, _, row, rfl, e1, TC.cl, TC.n1, by unfold fldsSpan; walk_at "flds", q⟩
theorem ok_Clock_init {f C : Addr} {fd : FuncData} (F : Fun K "__init__" "Clock.__init__" s_Clock___init__ f fd) (T : Txt mg aM) (TC : ClsClock K C) (DC_Rule___init__ : DefC P w K mg base "Rule" "__init__" 1 ["self", "row"] (spRuleInit K)) : FnOk P w K mg base CX0 2 f fd ["self", "row", "first", "second", "hours", "numbers"] (spClockInit K C) := by
  refine F.ok sc_Clock___init__ (fun vs H Q E h => ?_) (fun cdv A outer s H vs Q E hr h => ?_)
  · obtain ⟨x, dx, q, row, x1, x2, x3, D, rfl, _⟩ := h
    rfl
  obtain ⟨x, dx, q, row, x1, x2, x3, D, rfl, hx, hq, hl, k⟩ := h
  refine ⟨_, (pss_cons (ps_expr (pe_cmeth DC_Rule___init__ hr (by rfl) (pa_cons (pv 0) (pa_cons (pv 1) pa_nil))))
  (pss_cons (ps_fld (pv 0) (pv 2) rfl)
  (pss_cons (ps_fld (pv 0) (pv 3) rfl)
  (pss_cons (ps_fld (pv 0) (pv 4) rfl)
  (pss_one (ps_fld (pv 0) (pe_callTy (call_listK K) (by rfl) T.n_list boot_list (pa_cons (pv 5) pa_nil)) rfl)))))), ?_⟩
  walk_at "rd"
  have ln : ∀ (f : Str) (v : V) (l : List (Str × V)) (n : Nat), l.length ≤ n → (putF f v l).length ≤ n + 1 := fun f v l n h => Nat.le_trans (length_putF f v l) (Nat.succ_le_succ h)
  refine ⟨x, C, dx, [], row, rfl, hx, TC.cl, TC.n1, by decide, ?_⟩
  refine ⟨C, dx, _, upd_same, TC.cl, TC.n2, Nat.lt_of_le_of_lt (ln _ _ _ _ (Nat.zero_le 0)) (by decide), C, dx, _, upd_same, TC.cl, TC.n3, Nat.lt_of_le_of_lt (ln _ _ _ _ (ln _ _ _ _ (Nat.zero_le 0))) (by decide), C, dx, _, upd_same, TC.cl, TC.n4, Nat.lt_of_le_of_lt (ln _ _ _ _ (ln _ _ _ _ (ln _ _ _ _ (Nat.zero_le 0)))) (by decide), D.map V.int, .inl ((((hq.at_ins hx).at_ins upd_same).at_ins upd_same).at_ins upd_same), fun n hn => ?_⟩
  have nx : n ≠ x := fun e => by subst e; rw [upd_same] at hn; cases hn
  rw [upd_ne nx, upd_ne nx, upd_ne nx, upd_ne nx] at hn
  refine ⟨C, dx, _, by rw [upd_ne (Ne.symm nx), upd_same], TC.cl, TC.n5, Nat.lt_of_le_of_lt (ln _ _ _ _ (ln _ _ _ _ (ln _ _ _ _ (ln _ _ _ _ (Nat.zero_le 0))))) (by decide), ?_⟩
  refine k n _ hn ?_
  rw [upd_upd, upd_upd, upd_upd, upd_over]
  rfl
theorem ok_clock_of {f C : Addr} {fd : FuncData} (F : Fun K "clock_of" "clock_of" s_clock_of f fd) (T : Txt mg aM) (D_has_list : Def P w K mg base "has_list" 3 ["numbers", "ahead"] (spHasList K)) (D_are_voices : Def P w K mg base "are_voices" 3 ["numbers", "voices"] (spAreVoices K)) (DM_Clock : DefM P w K mg base "Clock" C 2 ["self", "row", "first", "second", "hours", "numbers"] (spClockInit K C)) : FnOk P w K mg base CX0 4 f fd ["row", "numbers", "voices"] (spClockOf K C) := by
  refine F.ok sc_clock_of (fun vs H Q E h => ?_) (fun cdv A outer s H vs Q E hr h => ?_)
  · obtain ⟨q, row, x1, x2, x3, D, nv, rfl, _⟩ := h
    rfl
  obtain ⟨q, row, x1, x2, x3, D, nv, rfl, hq, x1_1, x1_2, x2_1, x2_2, p3, l1, l2, k⟩ := h
  refine ⟨_, (pss_cons (ps_if (PW.pt (pw_or (pt_not (pt_truth (pe_def D_has_list hr (by rfl) (pa_cons (pv 1) (pa_cons pe_int pa_nil))) (fun _ => rfl))) (pw_or (pt_not (pt_truth (pe_def D_are_voices hr (by rfl) (pa_cons (pe_slice (slAK K) (pv 1) po_none (po_some pe_int)) (pa_cons (pv 2) pa_nil))) (fun _ => rfl))) (pw_or1 (pt_cmpR opLt (pe_ix (ixAK K) (pv 1) pe_int (fun _ _ => rfl)) pe_int (nomark _)))))) (pss_one (ps_ret pe_non)) pss_nil)
  (pss_one (ps_ret (pe_mk DM_Clock hr (by rfl) (pa_cons (pv 0) (pa_cons (pe_ix (ixAK K) (pv 1) pe_int (fun _ _ => rfl)) (pa_cons (pe_ix (ixAK K) (pv 1) pe_int (fun _ _ => rfl)) (pa_cons (pe_ix (ixAK K) (pv 1) pe_int (fun _ _ => rfl)) (pa_cons (pe_slice (slAK K) (pv 1) (po_some pe_int) po_none) pa_nil))))))))), ?_⟩
  walk_at "rd"
  have hs : sizeLine = 16777216 := sizeLine_eq
  refine ⟨q, _, 3, rfl, hq, ?_⟩
  rw [show (decide (1 ≤ (((x1 :: x2 :: x3 :: D).map V.int).length : Int) - 3) && decide ((((x1 :: x2 :: x3 :: D).map V.int).length : Int) - 3 ≤ 12)) = true by simp; omega]
  walk_at "rd"
  refine rSlA_l hq fun q1 hq1 => ?_
  rw [show (some (2 : Int)) = some ((2 : Nat) : Int) from rfl, cutV_to]
  have s1 : Same H (upd H q1 (.lst ((((x1 :: x2 :: x3 :: D).map V.int)).take 2))) := same_upd hq1
  refine ⟨q1, [x1, x2], nv, rfl, SqL.of upd_same, by simp, fun H1 s2 => ?_⟩
  rw [show ([x1, x2].all fun n => decide (1 ≤ n) && decide (n ≤ nv)) = true by simp; omega]
  walk_at "rd"
  have s3 := s1.trans s2
  have hq3 := s3.seq hq
  refine rIx_l hq3 (show atI _ ((2 : Nat) : Int) = _ from atI_nat rfl) ?_
  walk_at "rd"
  rw [if_neg (show ¬ (x3 < 1) by omega)]
  refine rIx_l hq3 (atI_zero rfl) (rIx_l hq3 (show atI _ ((1 : Nat) : Int) = _ from atI_nat rfl) (rIx_l hq3 (show atI _ ((2 : Nat) : Int) = _ from atI_nat rfl) (rSlA_l hq3 fun q2 hq2 => ?_)))
  rw [show (some (3 : Int)) = some ((3 : Nat) : Int) from rfl, cutV_from]
  show ∀ x dx : Addr, _
  intro x dx hx hdx hne
  have s4 : Same H (upd H1 q2 (.lst (((x1 :: x2 :: x3 :: D).map V.int).drop 3))) := s3.upd hq2
  have hq2' : (upd H1 q2 (.lst (((x1 :: x2 :: x3 :: D).map V.int).drop 3))) q2 = some (.lst (D.map V.int)) := upd_same
  generalize upd H1 q2 (.lst (((x1 :: x2 :: x3 :: D).map V.int).drop 3)) = H2 at s4 hx hdx hq2'
  have s5 : Same H (upd (upd H2 dx (.own x)) x (.ins C dx [])) := (s4.upd hdx).upd (by rw [upd_ne (Ne.symm hne)]; exact hx)
  have hq5 : (upd (upd H2 dx (.own x)) x (.ins C dx [])) q2 = some (.lst (D.map V.int)) := by
    rw [upd_ne (ne_of_none hq2' hx), upd_ne (ne_of_none hq2' hdx)]
    exact hq2'
  refine ⟨x, dx, q2, row, x1, x2, x3, D, rfl, upd_same, SqL.of hq5, by omega, fun n H3 hn e => ⟨rfl, ?_⟩⟩
  subst e
  have nx : n ≠ x := fun z => by subst z; rw [upd_same] at hn; cases hn
  refine k x _ ?_ ⟨dx, n, upd_same, by rw [upd_ne nx, upd_same]⟩
  intro c o hc
  have n1 : c ≠ x := ne_of_none (s4 _ _ hc) hx
  rw [upd_ne n1, upd_ne (ne_of_none (s5 _ _ hc) hn)]
  exact s5 _ _ hc
theorem ok_Clock_after {f C : Addr} {fd : FuncData} {row : Str} {x1 x2 x3 : Int} {D : List Int} {nv : Nat} (F : Fun K "after" "Clock.after" s_Clock_after f fd) (T : Txt mg aM) (TC : ClsClock K C) (ha : 1 ≤ x1 ∧ x1 ≤ nv) (hb : 1 ≤ x2 ∧ x2 ≤ nv) (h3 : 1 ≤ x3) (D_span : Def P w K mg base "span" 2 ["column", "first", "second"] (spSpan K)) : FnOk P w K mg base CX0 3 f fd ["self", "memory", "before", "column"] (spAfter K nv (RIClock C row x1 x2 x3 D) (semClock x1 x2 x3 D) fun _ => True) := by
  refine F.ok sc_Clock_after (fun vs H Q E h => ?_) (fun cdv A outer s H vs Q E hr h => ?_)
  · obtain ⟨r, m, x, c, bb, us, rfl, _⟩ := h
    rfl
  obtain ⟨r, m, x, c, bb, us, rfl, ⟨dx, n, hr1, hn⟩, _, hbv, hc, hu, k⟩ := h
  refine ⟨_, (pss_one (ps_ret (pe_ifExp (pt_cmpR (opInK K) (pe_op op_mod (pe_def D_span hr (by rfl) (pa_cons (pv 3) (pa_cons (pe_fld (pv 0) rfl) (pa_cons (pe_fld (pv 0) rfl) pa_nil)))) (pe_fld (pv 0) rfl)) (pe_fld (pv 0) rfl) (by with_unfolding_all rfl)) (pv 1) pe_non))), ?_⟩
  walk_at "rd"
  have l1 : (fldsClock row x1 x2 x3 n).lookup (Str.ofString "first") = some (.int x1) := by unfold fldsClock; walk_at "flds"
  have l2 : (fldsClock row x1 x2 x3 n).lookup (Str.ofString "second") = some (.int x2) := by unfold fldsClock; walk_at "flds"
  have l3 : (fldsClock row x1 x2 x3 n).lookup (Str.ofString "hours") = some (.int x3) := by unfold fldsClock; walk_at "flds"
  have l4 : (fldsClock row x1 x2 x3 n).lookup (Str.ofString "numbers") = some (.ref n) := by unfold fldsClock; walk_at "flds"
  refine ⟨C, dx, _, hr1, TC.cl, TC.n2, _, l1, C, dx, _, hr1, TC.cl, TC.n3, _, l2, c, x1, x2, us, rfl, hc, ha.1, by rw [hu]; exact ha.2, hb.1, by rw [hu]; exact hb.2, C, dx, _, hr1, TC.cl, TC.n4, _, l3, ?_⟩
  walk_at "rd"
  refine ⟨by omega, C, dx, _, hr1, TC.cl, TC.n5, _, l4, rIn_ints (SqL.of hn) ⟨_, rfl, ?_⟩⟩
  by_cases h : (noteA us x2 - noteA us x1) % x3 ∈ D
  · rw [if_pos (decide_eq_true h)]
    simp only [semClock] at k
    rw [if_pos h] at k
    exact k
  · rw [if_neg (by rw [decide_eq_false h]; exact Bool.false_ne_true)]
    simp only [semClock] at k
    rw [if_neg h] at k
    exact k
theorem clock_obj {lv : Nat} {C : Addr} {row : Str} {x1 x2 x3 : Int} {D : List Int} {nv : Nat} (TC : ClsClock K C) (h1 : MethOk P w K mg base C "size" lv ["self"] (spSay 1 fun _ => .int 1)) (h2 : MethOk P w K mg base C "start" lv ["self"] (spSay 1 fun _ => .int 0)) (h3 : MethOk P w K mg base C "closes" lv ["self", "memory", "last"] (spSay 3 fun _ => .bl true))
    (h4 : MethOk P w K mg base C "after" lv ["self", "memory", "before", "column"] (spAfter K nv (RIClock C row x1 x2 x3 D) (semClock x1 x2 x3 D) fun _ => True)) : RuleObj P w K mg base lv nv C (semClock x1 x2 x3 D) (RIClock C row x1 x2 x3 D) (fun _ => True) := by
  refine ⟨fun r H H' s h => ?_, fun r H h => ?_, trivial, fun _ _ _ _ _ _ => trivial, h1.imp ?_, h2.imp ?_, h4, h3.imp ?_⟩
  · obtain ⟨dx, n, e1, e2⟩ := h
    exact ⟨dx, n, s _ _ e1, s _ _ e2⟩
  · obtain ⟨dx, n, e1, e2⟩ := h
    refine ⟨dx, _, e1, ?_, ?_, ?_, ?_, ?_⟩ <;> (unfold fldsClock; walk_at "flds")
  · rintro vs H Q E ⟨r, rfl, _, q⟩
    exact ⟨rfl, q⟩
  · rintro vs H Q E ⟨r, rfl, _, q⟩
    exact ⟨rfl, q⟩
  · rintro vs H Q E ⟨r, m, x, b, rfl, _, _, _, q⟩
    exact ⟨rfl, q⟩
theorem clock_shown {C : Addr} {row : Str} {x1 x2 x3 : Int} {D : List Int} (TC : ClsClock K C) (h : MethOk P w K mg base C "shown" 7 ["self"] (spShown K)) : MethOk P w K mg base C "shown" 7 ["self"] (spR0 (RIClock C row x1 x2 x3 D) (.str row)) := h.imp <| by
  rintro vs H Q E ⟨r, rfl, ⟨dx, n, e1, e2⟩, q⟩
  exact ⟨r, C, dx, _, row, rfl, e1, TC.cl, TC.n1, by unfold fldsClock; walk_at "flds", q⟩
theorem ok_Move_init {f C : Addr} {fd : FuncData} (F : Fun K "__init__" "Move.__init__" s_Move___init__ f fd) (T : Txt mg aM) (TC : ClsMove K C) (DC_Rule___init__ : DefC P w K mg base "Rule" "__init__" 1 ["self", "row"] (spRuleInit K)) : FnOk P w K mg base CX0 2 f fd ["self", "row", "voice", "numbers"] (spMoveInit K C) := by
  refine F.ok sc_Move___init__ (fun vs H Q E h => ?_) (fun cdv A outer s H vs Q E hr h => ?_)
  · obtain ⟨x, dx, q, row, x1, D, rfl, _⟩ := h
    rfl
  obtain ⟨x, dx, q, row, x1, D, rfl, hx, hq, hl, k⟩ := h
  refine ⟨_, (pss_cons (ps_expr (pe_cmeth DC_Rule___init__ hr (by rfl) (pa_cons (pv 0) (pa_cons (pv 1) pa_nil))))
  (pss_cons (ps_fld (pv 0) (pv 2) rfl)
  (pss_one (ps_fld (pv 0) (pe_callTy (call_listK K) (by rfl) T.n_list boot_list (pa_cons (pv 3) pa_nil)) rfl)))), ?_⟩
  walk_at "rd"
  have ln : ∀ (f : Str) (v : V) (l : List (Str × V)) (n : Nat), l.length ≤ n → (putF f v l).length ≤ n + 1 := fun f v l n h => Nat.le_trans (length_putF f v l) (Nat.succ_le_succ h)
  refine ⟨x, C, dx, [], row, rfl, hx, TC.cl, TC.n1, by decide, ?_⟩
  refine ⟨C, dx, _, upd_same, TC.cl, TC.n2, Nat.lt_of_le_of_lt (ln _ _ _ _ (Nat.zero_le 0)) (by decide), D.map V.int, .inl ((hq.at_ins hx).at_ins upd_same), fun n hn => ?_⟩
  have nx : n ≠ x := fun e => by subst e; rw [upd_same] at hn; cases hn
  rw [upd_ne nx, upd_ne nx] at hn
  refine ⟨C, dx, _, by rw [upd_ne (Ne.symm nx), upd_same], TC.cl, TC.n3, Nat.lt_of_le_of_lt (ln _ _ _ _ (ln _ _ _ _ (Nat.zero_le 0))) (by decide), ?_⟩
  refine k n _ hn ?_
  rw [upd_upd, upd_over]
  rfl
theorem ok_move_of {f C : Addr} {fd : FuncData} (F : Fun K "move_of" "move_of" s_move_of f fd) (T : Txt mg aM) (D_has_list : Def P w K mg base "has_list" 3 ["numbers", "ahead"] (spHasList K)) (D_are_voices : Def P w K mg base "are_voices" 3 ["numbers", "voices"] (spAreVoices K)) (DM_Move : DefM P w K mg base "Move" C 2 ["self", "row", "voice", "numbers"] (spMoveInit K C)) : FnOk P w K mg base CX0 4 f fd ["row", "numbers", "voices"] (spMoveOf K C) := by
  refine F.ok sc_move_of (fun vs H Q E h => ?_) (fun cdv A outer s H vs Q E hr h => ?_)
  · obtain ⟨q, row, x1, D, nv, rfl, _⟩ := h
    rfl
  obtain ⟨q, row, x1, D, nv, rfl, hq, x1_1, x1_2, l1, l2, k⟩ := h
  refine ⟨_, (pss_cons (ps_if (PW.pt (pw_or (pt_not (pt_truth (pe_def D_has_list hr (by rfl) (pa_cons (pv 1) (pa_cons pe_int pa_nil))) (fun _ => rfl))) (pw_or1 (pt_not (pt_truth (pe_def D_are_voices hr (by rfl) (pa_cons (pe_slice (slAK K) (pv 1) po_none (po_some pe_int)) (pa_cons (pv 2) pa_nil))) (fun _ => rfl)))))) (pss_one (ps_ret pe_non)) pss_nil)
  (pss_one (ps_ret (pe_mk DM_Move hr (by rfl) (pa_cons (pv 0) (pa_cons (pe_ix (ixAK K) (pv 1) pe_int (fun _ _ => rfl)) (pa_cons (pe_slice (slAK K) (pv 1) (po_some pe_int) po_none) pa_nil))))))), ?_⟩
  walk_at "rd"
  have hs : sizeLine = 16777216 := sizeLine_eq
  refine ⟨q, _, 1, rfl, hq, ?_⟩
  rw [show (decide (1 ≤ (((x1 :: D).map V.int).length : Int) - 1) && decide ((((x1 :: D).map V.int).length : Int) - 1 ≤ 12)) = true by simp; omega]
  walk_at "rd"
  refine rSlA_l hq fun q1 hq1 => ?_
  rw [show (some (1 : Int)) = some ((1 : Nat) : Int) from rfl, cutV_to]
  have s1 : Same H (upd H q1 (.lst ((((x1 :: D).map V.int)).take 1))) := same_upd hq1
  refine ⟨q1, [x1], nv, rfl, SqL.of upd_same, by simp, fun H1 s2 => ?_⟩
  rw [show ([x1].all fun n => decide (1 ≤ n) && decide (n ≤ nv)) = true by simp; omega]
  walk_at "rd"
  have s3 := s1.trans s2
  have hq3 := s3.seq hq
  refine rIx_l hq3 (atI_zero rfl) (rSlA_l hq3 fun q2 hq2 => ?_)
  rw [cutV_from]
  show ∀ x dx : Addr, _
  intro x dx hx hdx hne
  have s4 : Same H (upd H1 q2 (.lst (((x1 :: D).map V.int).drop 1))) := s3.upd hq2
  have hq2' : (upd H1 q2 (.lst (((x1 :: D).map V.int).drop 1))) q2 = some (.lst (D.map V.int)) := upd_same
  generalize upd H1 q2 (.lst (((x1 :: D).map V.int).drop 1)) = H2 at s4 hx hdx hq2'
  have s5 : Same H (upd (upd H2 dx (.own x)) x (.ins C dx [])) := (s4.upd hdx).upd (by rw [upd_ne (Ne.symm hne)]; exact hx)
  have hq5 : (upd (upd H2 dx (.own x)) x (.ins C dx [])) q2 = some (.lst (D.map V.int)) := by
    rw [upd_ne (ne_of_none hq2' hx), upd_ne (ne_of_none hq2' hdx)]
    exact hq2'
  refine ⟨x, dx, q2, row, x1, D, rfl, upd_same, SqL.of hq5, by omega, fun n H3 hn e => ⟨rfl, ?_⟩⟩
  subst e
  have nx : n ≠ x := fun z => by subst z; rw [upd_same] at hn; cases hn
  refine k x _ ?_ ⟨dx, n, upd_same, by rw [upd_ne nx, upd_same]⟩
  intro c o hc
  have n1 : c ≠ x := ne_of_none (s4 _ _ hc) hx
  rw [upd_ne n1, upd_ne (ne_of_none (s5 _ _ hc) hn)]
  exact s5 _ _ hc
theorem ok_move {f : Addr} {fd : FuncData} (F : Fun K "move" "move" s_move f fd) (D_note_in : Def P w K mg base "note_in" 1 ["column", "voice"] (spNoteIn K)) : FnOk P w K mg base CX0 2 f fd ["before", "column", "voice"] (spMoveF K) := by
  refine F.ok sc_move (fun vs H Q E h => ?_) (fun cdv A outer s H vs Q E hr h => ?_)
  · obtain ⟨b, c, v, bs, us, rfl, _⟩ := h
    rfl
  obtain ⟨b, c, v, bs, us, rfl, hb, hc, h1, h2, h3, k⟩ := h
  refine ⟨_, (pss_one (ps_ret (pe_op op_sub (pe_def D_note_in hr (by rfl) (pa_cons (pv 1) (pa_cons (pv 2) pa_nil))) (pe_def D_note_in hr (by rfl) (pa_cons (pv 0) (pa_cons (pv 2) pa_nil)))))), ?_⟩
  walk_at "rd"
  refine ⟨c, v, us, rfl, hc, h1, h3, b, v, bs, rfl, hb, h1, h2, ?_⟩
  walk_at "rd"
  exact k
theorem ok_Move_after {f C : Addr} {fd : FuncData} {row : Str} {x1 : Int} {D : List Int} {nv : Nat} (F : Fun K "after" "Move.after" s_Move_after f fd) (T : Txt mg aM) (TC : ClsMove K C) (ha : 1 ≤ x1 ∧ x1 ≤ nv) (D_move : Def P w K mg base "move" 2 ["before", "column", "voice"] (spMoveF K)) : FnOk P w K mg base CX0 3 f fd ["self", "memory", "before", "column"] (spAfter K nv (RIMove C row x1 D) (semMove x1 D) fun _ => True) := by
  refine F.ok sc_Move_after (fun vs H Q E h => ?_) (fun cdv A outer s H vs Q E hr h => ?_)
  · obtain ⟨r, m, x, c, bb, us, rfl, _⟩ := h
    rfl
  obtain ⟨r, m, x, c, bb, us, rfl, ⟨dx, n, hr1, hn⟩, _, hbv, hc, hu, k⟩ := h
  refine ⟨_, (pss_one (ps_ret (pe_ifExp (PW.pt (pw_or (pt_cmpR op_isN (pv 2) pe_non (nomark _)) (pw_or1 (pt_cmpR (opInK K) (pe_def D_move hr (by rfl) (pa_cons (pv 2) (pa_cons (pv 3) (pa_cons (pe_fld (pv 0) rfl) pa_nil)))) (pe_fld (pv 0) rfl) (by with_unfolding_all rfl))))) (pv 1) pe_non))), ?_⟩
  walk_at "rd"
  have l1 : (fldsMove row x1 n).lookup (Str.ofString "voice") = some (.int x1) := by unfold fldsMove; walk_at "flds"
  have l2 : (fldsMove row x1 n).lookup (Str.ofString "numbers") = some (.ref n) := by unfold fldsMove; walk_at "flds"
  rcases hbv with ⟨rfl, rfl⟩ | ⟨a, bs, rfl, rfl, hba, hbl⟩
  · rw [if_pos rfl]
    exact k
  rw [if_neg (fun z => by cases z)]
  refine ⟨C, dx, _, hr1, TC.cl, TC.n2, _, l1, a, c, x1, bs, us, rfl, hba, hc, ha.1, by rw [hbl]; exact ha.2, by rw [hu]; exact ha.2, C, dx, _, hr1, TC.cl, TC.n3, _, l2, rIn_ints (SqL.of hn) ⟨_, rfl, ?_⟩⟩
  simp only [semMove] at k
  by_cases h : noteA us x1 - noteA bs x1 ∈ D
  · rw [if_pos (decide_eq_true h)]
    rw [if_pos h] at k
    exact k
  · rw [if_neg (by rw [decide_eq_false h]; exact Bool.false_ne_true)]
    rw [if_neg h] at k
    exact k
theorem move_obj {C : Addr} {row : Str} {x1 : Int} {D : List Int} {nv : Nat} (TC : ClsMove K C) (h1 : MethOk P w K mg base C "size" 7 ["self"] (spSay 1 fun _ => .int 1)) (h2 : MethOk P w K mg base C "start" 7 ["self"] (spSay 1 fun _ => .int 0)) (h3 : MethOk P w K mg base C "closes" 7 ["self", "memory", "last"] (spSay 3 fun _ => .bl true))
    (h4 : MethOk P w K mg base C "after" 7 ["self", "memory", "before", "column"] (spAfter K nv (RIMove C row x1 D) (semMove x1 D) fun _ => True)) : RuleObj P w K mg base 7 nv C (semMove x1 D) (RIMove C row x1 D) (fun _ => True) := by
  refine ⟨fun r H H' s h => ?_, fun r H h => ?_, trivial, fun _ _ _ _ _ _ => trivial, h1.imp ?_, h2.imp ?_, h4, h3.imp ?_⟩
  · obtain ⟨dx, n, e1, e2⟩ := h
    exact ⟨dx, n, s _ _ e1, s _ _ e2⟩
  · obtain ⟨dx, n, e1, e2⟩ := h
    refine ⟨dx, _, e1, ?_, ?_, ?_, ?_, ?_⟩ <;> (unfold fldsMove; walk_at "flds")
  · rintro vs H Q E ⟨r, rfl, _, q⟩
    exact ⟨rfl, q⟩
  · rintro vs H Q E ⟨r, rfl, _, q⟩
    exact ⟨rfl, q⟩
  · rintro vs H Q E ⟨r, m, x, b, rfl, _, _, _, q⟩
    exact ⟨rfl, q⟩
theorem move_shown {C : Addr} {row : Str} {x1 : Int} {D : List Int} (TC : ClsMove K C) (h : MethOk P w K mg base C "shown" 7 ["self"] (spShown K)) : MethOk P w K mg base C "shown" 7 ["self"] (spR0 (RIMove C row x1 D) (.str row)) := h.imp <| by
  rintro vs H Q E ⟨r, rfl, ⟨dx, n, e1, e2⟩, q⟩
  exact ⟨r, C, dx, _, row, rfl, e1, TC.cl, TC.n1, by unfold fldsMove; walk_at "flds", q⟩
theorem ok_Alike_init {f C : Addr} {fd : FuncData} (F : Fun K "__init__" "Alike.__init__" s_Alike___init__ f fd) (T : Txt mg aM) (TC : ClsAlike K C) (DC_Rule___init__ : DefC P w K mg base "Rule" "__init__" 1 ["self", "row"] (spRuleInit K)) : FnOk P w K mg base CX0 2 f fd ["self", "row", "first", "second", "numbers"] (spAlikeInit K C) := by
  refine F.ok sc_Alike___init__ (fun vs H Q E h => ?_) (fun cdv A outer s H vs Q E hr h => ?_)
  · obtain ⟨x, dx, q, row, x1, x2, D, rfl, _⟩ := h
    rfl
  obtain ⟨x, dx, q, row, x1, x2, D, rfl, hx, hq, hl, k⟩ := h
  refine ⟨_, (pss_cons (ps_expr (pe_cmeth DC_Rule___init__ hr (by rfl) (pa_cons (pv 0) (pa_cons (pv 1) pa_nil))))
  (pss_cons (ps_fld (pv 0) (pv 2) rfl)
  (pss_cons (ps_fld (pv 0) (pv 3) rfl)
  (pss_one (ps_fld (pv 0) (pe_callTy (call_listK K) (by rfl) T.n_list boot_list (pa_cons (pv 4) pa_nil)) rfl))))), ?_⟩
  walk_at "rd"
  have ln : ∀ (f : Str) (v : V) (l : List (Str × V)) (n : Nat), l.length ≤ n → (putF f v l).length ≤ n + 1 := fun f v l n h => Nat.le_trans (length_putF f v l) (Nat.succ_le_succ h)
  refine ⟨x, C, dx, [], row, rfl, hx, TC.cl, TC.n1, by decide, ?_⟩
  refine ⟨C, dx, _, upd_same, TC.cl, TC.n2, Nat.lt_of_le_of_lt (ln _ _ _ _ (Nat.zero_le 0)) (by decide), C, dx, _, upd_same, TC.cl, TC.n3, Nat.lt_of_le_of_lt (ln _ _ _ _ (ln _ _ _ _ (Nat.zero_le 0))) (by decide), D.map V.int, .inl (((hq.at_ins hx).at_ins upd_same).at_ins upd_same), fun n hn => ?_⟩
  have nx : n ≠ x := fun e => by subst e; rw [upd_same] at hn; cases hn
  rw [upd_ne nx, upd_ne nx, upd_ne nx] at hn
  refine ⟨C, dx, _, by rw [upd_ne (Ne.symm nx), upd_same], TC.cl, TC.n4, Nat.lt_of_le_of_lt (ln _ _ _ _ (ln _ _ _ _ (ln _ _ _ _ (Nat.zero_le 0)))) (by decide), ?_⟩
  refine k n _ hn ?_
  rw [upd_upd, upd_upd, upd_over]
  rfl
theorem ok_alike_of {f C : Addr} {fd : FuncData} (F : Fun K "alike_of" "alike_of" s_alike_of f fd) (T : Txt mg aM) (D_has_list : Def P w K mg base "has_list" 3 ["numbers", "ahead"] (spHasList K)) (D_are_voices : Def P w K mg base "are_voices" 3 ["numbers", "voices"] (spAreVoices K)) (DM_Alike : DefM P w K mg base "Alike" C 2 ["self", "row", "first", "second", "numbers"] (spAlikeInit K C)) : FnOk P w K mg base CX0 4 f fd ["row", "numbers", "voices"] (spAlikeOf K C) := by
  refine F.ok sc_alike_of (fun vs H Q E h => ?_) (fun cdv A outer s H vs Q E hr h => ?_)
  · obtain ⟨q, row, x1, x2, D, nv, rfl, _⟩ := h
    rfl
  obtain ⟨q, row, x1, x2, D, nv, rfl, hq, x1_1, x1_2, x2_1, x2_2, l1, l2, k⟩ := h
  refine ⟨_, (pss_cons (ps_if (PW.pt (pw_or (pt_not (pt_truth (pe_def D_has_list hr (by rfl) (pa_cons (pv 1) (pa_cons pe_int pa_nil))) (fun _ => rfl))) (pw_or1 (pt_not (pt_truth (pe_def D_are_voices hr (by rfl) (pa_cons (pe_slice (slAK K) (pv 1) po_none (po_some pe_int)) (pa_cons (pv 2) pa_nil))) (fun _ => rfl)))))) (pss_one (ps_ret pe_non)) pss_nil)
  (pss_one (ps_ret (pe_mk DM_Alike hr (by rfl) (pa_cons (pv 0) (pa_cons (pe_ix (ixAK K) (pv 1) pe_int (fun _ _ => rfl)) (pa_cons (pe_ix (ixAK K) (pv 1) pe_int (fun _ _ => rfl)) (pa_cons (pe_slice (slAK K) (pv 1) (po_some pe_int) po_none) pa_nil)))))))), ?_⟩
  walk_at "rd"
  have hs : sizeLine = 16777216 := sizeLine_eq
  refine ⟨q, _, 2, rfl, hq, ?_⟩
  rw [show (decide (1 ≤ (((x1 :: x2 :: D).map V.int).length : Int) - 2) && decide ((((x1 :: x2 :: D).map V.int).length : Int) - 2 ≤ 12)) = true by simp; omega]
  walk_at "rd"
  refine rSlA_l hq fun q1 hq1 => ?_
  rw [show (some (2 : Int)) = some ((2 : Nat) : Int) from rfl, cutV_to]
  have s1 : Same H (upd H q1 (.lst ((((x1 :: x2 :: D).map V.int)).take 2))) := same_upd hq1
  refine ⟨q1, [x1, x2], nv, rfl, SqL.of upd_same, by simp, fun H1 s2 => ?_⟩
  rw [show ([x1, x2].all fun n => decide (1 ≤ n) && decide (n ≤ nv)) = true by simp; omega]
  walk_at "rd"
  have s3 := s1.trans s2
  have hq3 := s3.seq hq
  refine rIx_l hq3 (atI_zero rfl) (rIx_l hq3 (show atI _ ((1 : Nat) : Int) = _ from atI_nat rfl) (rSlA_l hq3 fun q2 hq2 => ?_))
  rw [cutV_from]
  show ∀ x dx : Addr, _
  intro x dx hx hdx hne
  have s4 : Same H (upd H1 q2 (.lst (((x1 :: x2 :: D).map V.int).drop 2))) := s3.upd hq2
  have hq2' : (upd H1 q2 (.lst (((x1 :: x2 :: D).map V.int).drop 2))) q2 = some (.lst (D.map V.int)) := upd_same
  generalize upd H1 q2 (.lst (((x1 :: x2 :: D).map V.int).drop 2)) = H2 at s4 hx hdx hq2'
  have s5 : Same H (upd (upd H2 dx (.own x)) x (.ins C dx [])) := (s4.upd hdx).upd (by rw [upd_ne (Ne.symm hne)]; exact hx)
  have hq5 : (upd (upd H2 dx (.own x)) x (.ins C dx [])) q2 = some (.lst (D.map V.int)) := by
    rw [upd_ne (ne_of_none hq2' hx), upd_ne (ne_of_none hq2' hdx)]
    exact hq2'
  refine ⟨x, dx, q2, row, x1, x2, D, rfl, upd_same, SqL.of hq5, by omega, fun n H3 hn e => ⟨rfl, ?_⟩⟩
  subst e
  have nx : n ≠ x := fun z => by subst z; rw [upd_same] at hn; cases hn
  refine k x _ ?_ ⟨dx, n, upd_same, by rw [upd_ne nx, upd_same]⟩
  intro c o hc
  have n1 : c ≠ x := ne_of_none (s4 _ _ hc) hx
  rw [upd_ne n1, upd_ne (ne_of_none (s5 _ _ hc) hn)]
  exact s5 _ _ hc
theorem ok_Alike_after {f C : Addr} {fd : FuncData} {row : Str} {x1 x2 : Int} {D : List Int} {nv : Nat} (F : Fun K "after" "Alike.after" s_Alike_after f fd) (T : Txt mg aM) (TC : ClsAlike K C) (ha : 1 ≤ x1 ∧ x1 ≤ nv) (hb : 1 ≤ x2 ∧ x2 ≤ nv) (D_move : Def P w K mg base "move" 2 ["before", "column", "voice"] (spMoveF K)) (D_span : Def P w K mg base "span" 2 ["column", "first", "second"] (spSpan K)) : FnOk P w K mg base CX0 3 f fd ["self", "memory", "before", "column"] (spAfter K nv (RIAlike C row x1 x2 D) (semAlike x1 x2 D) fun _ => True) := by
  refine F.ok sc_Alike_after (fun vs H Q E h => ?_) (fun cdv A outer s H vs Q E hr h => ?_)
  · obtain ⟨r, m, x, c, bb, us, rfl, _⟩ := h
    rfl
  obtain ⟨r, m, x, c, bb, us, rfl, ⟨dx, n, hr1, hn⟩, _, hbv, hc, hu, k⟩ := h
  refine ⟨_, (pss_cons (ps_if (PW.pt (pw_or (pt_cmpR op_isN (pv 2) pe_non (nomark _)) (pw_or1 (pt_cmpR opEq (pe_def D_move hr (by rfl) (pa_cons (pv 2) (pa_cons (pv 3) (pa_cons (pe_fld (pv 0) rfl) pa_nil)))) pe_int (nomark _))))) (pss_one (ps_ret (pv 1))) pss_nil)
  (pss_cons (ps_set (i := 4) sc_Alike_after.nd rfl (Or.inl rfl) (pe_def D_span hr (by rfl) (pa_cons (pv 3) (pa_cons (pe_fld (pv 0) rfl) (pa_cons (pe_fld (pv 0) rfl) pa_nil)))))
  (pss_one (ps_ret (pe_ifExp (PW.pt (pw_and (pt_cmpR opEq (pv 4) (pe_def D_span hr (by rfl) (pa_cons (pv 2) (pa_cons (pe_fld (pv 0) rfl) (pa_cons (pe_fld (pv 0) rfl) pa_nil)))) (nomark _)) (pw_and1 (pt_cmpR (opInK K) (pv 4) (pe_fld (pv 0) rfl) (by with_unfolding_all rfl))))) pe_non (pv 1)))))), ?_⟩
  walk_at "rd"
  have l1 : (fldsAlike row x1 x2 n).lookup (Str.ofString "first") = some (.int x1) := by unfold fldsAlike; walk_at "flds"
  have l2 : (fldsAlike row x1 x2 n).lookup (Str.ofString "second") = some (.int x2) := by unfold fldsAlike; walk_at "flds"
  have l3 : (fldsAlike row x1 x2 n).lookup (Str.ofString "numbers") = some (.ref n) := by unfold fldsAlike; walk_at "flds"
  rcases hbv with ⟨rfl, rfl⟩ | ⟨a, bs, rfl, rfl, hba, hbl⟩
  · rw [if_pos rfl]
    exact k
  rw [if_neg (fun z => by cases z)]
  have a1 := ha.1
  have a2 := ha.2
  have b1 := hb.1
  have b2 := hb.2
  refine ⟨C, dx, _, hr1, TC.cl, TC.n2, _, l1, a, c, x1, bs, us, rfl, hba, hc, a1, by omega, by omega, ?_⟩
  walk_at "rd"
  simp only [semAlike] at k
  by_cases h0 : noteA us x1 - noteA bs x1 = 0
  · rw [if_pos h0]
    rw [if_pos h0] at k
    exact k
  rw [if_neg h0]
  rw [if_neg h0] at k
  refine ⟨C, dx, _, hr1, TC.cl, TC.n2, _, l1, C, dx, _, hr1, TC.cl, TC.n3, _, l2, c, x1, x2, us, rfl, hc, a1, by omega, b1, by omega, ?_⟩
  refine ⟨C, dx, _, hr1, TC.cl, TC.n2, _, l1, C, dx, _, hr1, TC.cl, TC.n3, _, l2, a, x1, x2, bs, rfl, hba, a1, by omega, b1, by omega, ?_⟩
  walk_at "rd"
  by_cases h1 : noteA us x2 - noteA us x1 = noteA bs x2 - noteA bs x1
  · rw [if_pos h1]
    refine ⟨C, dx, _, hr1, TC.cl, TC.n4, _, l3, rIn_ints (SqL.of hn) ⟨_, rfl, ?_⟩⟩
    by_cases h : noteA us x2 - noteA us x1 ∈ D
    · rw [if_pos (decide_eq_true h)]
      rw [if_pos ⟨h1, h⟩] at k
      exact k
    · rw [if_neg (by rw [decide_eq_false h]; exact Bool.false_ne_true)]
      rw [if_neg (fun z => h z.2)] at k
      exact k
  · rw [if_neg h1]
    rw [if_neg (fun z => h1 z.1)] at k
    exact k
theorem alike_obj {C : Addr} {row : Str} {x1 x2 : Int} {D : List Int} {nv : Nat} (TC : ClsAlike K C) (h1 : MethOk P w K mg base C "size" 7 ["self"] (spSay 1 fun _ => .int 1)) (h2 : MethOk P w K mg base C "start" 7 ["self"] (spSay 1 fun _ => .int 0)) (h3 : MethOk P w K mg base C "closes" 7 ["self", "memory", "last"] (spSay 3 fun _ => .bl true))
    (h4 : MethOk P w K mg base C "after" 7 ["self", "memory", "before", "column"] (spAfter K nv (RIAlike C row x1 x2 D) (semAlike x1 x2 D) fun _ => True)) : RuleObj P w K mg base 7 nv C (semAlike x1 x2 D) (RIAlike C row x1 x2 D) (fun _ => True) := by
  refine ⟨fun r H H' s h => ?_, fun r H h => ?_, trivial, fun _ _ _ _ _ _ => trivial, h1.imp ?_, h2.imp ?_, h4, h3.imp ?_⟩
  · obtain ⟨dx, n, e1, e2⟩ := h
    exact ⟨dx, n, s _ _ e1, s _ _ e2⟩
  · obtain ⟨dx, n, e1, e2⟩ := h
    refine ⟨dx, _, e1, ?_, ?_, ?_, ?_, ?_⟩ <;> (unfold fldsAlike; walk_at "flds")
  · rintro vs H Q E ⟨r, rfl, _, q⟩
    exact ⟨rfl, q⟩
  · rintro vs H Q E ⟨r, rfl, _, q⟩
    exact ⟨rfl, q⟩
  · rintro vs H Q E ⟨r, m, x, b, rfl, _, _, _, q⟩
    exact ⟨rfl, q⟩
theorem alike_shown {C : Addr} {row : Str} {x1 x2 : Int} {D : List Int} (TC : ClsAlike K C) (h : MethOk P w K mg base C "shown" 7 ["self"] (spShown K)) : MethOk P w K mg base C "shown" 7 ["self"] (spR0 (RIAlike C row x1 x2 D) (.str row)) := h.imp <| by
  rintro vs H Q E ⟨r, rfl, ⟨dx, n, e1, e2⟩, q⟩
  exact ⟨r, C, dx, _, row, rfl, e1, TC.cl, TC.n1, by unfold fldsAlike; walk_at "flds", q⟩
theorem ok_Begin_init {f C : Addr} {fd : FuncData} (F : Fun K "__init__" "Begin.__init__" s_Begin___init__ f fd) (T : Txt mg aM) (TC : ClsBegin K C) (DC_Rule___init__ : DefC P w K mg base "Rule" "__init__" 1 ["self", "row"] (spRuleInit K)) : FnOk P w K mg base CX0 2 f fd ["self", "row", "voice", "notes"] (spBeginInit K C) := by
  refine F.ok sc_Begin___init__ (fun vs H Q E h => ?_) (fun cdv A outer s H vs Q E hr h => ?_)
  · obtain ⟨x, dx, q, row, x1, D, rfl, _⟩ := h
    rfl
  obtain ⟨x, dx, q, row, x1, D, rfl, hx, hq, hl, k⟩ := h
  refine ⟨_, (pss_cons (ps_expr (pe_cmeth DC_Rule___init__ hr (by rfl) (pa_cons (pv 0) (pa_cons (pv 1) pa_nil))))
  (pss_cons (ps_fld (pv 0) (pv 2) rfl)
  (pss_one (ps_fld (pv 0) (pe_callTy (call_listK K) (by rfl) T.n_list boot_list (pa_cons (pv 3) pa_nil)) rfl)))), ?_⟩
  walk_at "rd"
  have ln : ∀ (f : Str) (v : V) (l : List (Str × V)) (n : Nat), l.length ≤ n → (putF f v l).length ≤ n + 1 := fun f v l n h => Nat.le_trans (length_putF f v l) (Nat.succ_le_succ h)
  refine ⟨x, C, dx, [], row, rfl, hx, TC.cl, TC.n1, by decide, ?_⟩
  refine ⟨C, dx, _, upd_same, TC.cl, TC.n2, Nat.lt_of_le_of_lt (ln _ _ _ _ (Nat.zero_le 0)) (by decide), D.map V.int, .inl ((hq.at_ins hx).at_ins upd_same), fun n hn => ?_⟩
  have nx : n ≠ x := fun e => by subst e; rw [upd_same] at hn; cases hn
  rw [upd_ne nx, upd_ne nx] at hn
  refine ⟨C, dx, _, by rw [upd_ne (Ne.symm nx), upd_same], TC.cl, TC.n3, Nat.lt_of_le_of_lt (ln _ _ _ _ (ln _ _ _ _ (Nat.zero_le 0))) (by decide), ?_⟩
  refine k n _ hn ?_
  rw [upd_upd, upd_over]
  rfl
theorem ok_begin_of {f C : Addr} {fd : FuncData} (F : Fun K "begin_of" "begin_of" s_begin_of f fd) (T : Txt mg aM) (D_has_list : Def P w K mg base "has_list" 3 ["numbers", "ahead"] (spHasList K)) (D_are_voices : Def P w K mg base "are_voices" 3 ["numbers", "voices"] (spAreVoices K)) (DM_Begin : DefM P w K mg base "Begin" C 2 ["self", "row", "voice", "notes"] (spBeginInit K C)) : FnOk P w K mg base CX0 4 f fd ["row", "numbers", "voices"] (spBeginOf K C) := by
  refine F.ok sc_begin_of (fun vs H Q E h => ?_) (fun cdv A outer s H vs Q E hr h => ?_)
  · obtain ⟨q, row, x1, D, nv, rfl, _⟩ := h
    rfl
  obtain ⟨q, row, x1, D, nv, rfl, hq, x1_1, x1_2, l1, l2, k⟩ := h
  refine ⟨_, (pss_cons (ps_if (PW.pt (pw_or (pt_not (pt_truth (pe_def D_has_list hr (by rfl) (pa_cons (pv 1) (pa_cons pe_int pa_nil))) (fun _ => rfl))) (pw_or1 (pt_not (pt_truth (pe_def D_are_voices hr (by rfl) (pa_cons (pe_slice (slAK K) (pv 1) po_none (po_some pe_int)) (pa_cons (pv 2) pa_nil))) (fun _ => rfl)))))) (pss_one (ps_ret pe_non)) pss_nil)
  (pss_one (ps_ret (pe_mk DM_Begin hr (by rfl) (pa_cons (pv 0) (pa_cons (pe_ix (ixAK K) (pv 1) pe_int (fun _ _ => rfl)) (pa_cons (pe_slice (slAK K) (pv 1) (po_some pe_int) po_none) pa_nil))))))), ?_⟩
  walk_at "rd"
  have hs : sizeLine = 16777216 := sizeLine_eq
  refine ⟨q, _, 1, rfl, hq, ?_⟩
  rw [show (decide (1 ≤ (((x1 :: D).map V.int).length : Int) - 1) && decide ((((x1 :: D).map V.int).length : Int) - 1 ≤ 12)) = true by simp; omega]
  walk_at "rd"
  refine rSlA_l hq fun q1 hq1 => ?_
  rw [show (some (1 : Int)) = some ((1 : Nat) : Int) from rfl, cutV_to]
  have s1 : Same H (upd H q1 (.lst ((((x1 :: D).map V.int)).take 1))) := same_upd hq1
  refine ⟨q1, [x1], nv, rfl, SqL.of upd_same, by simp, fun H1 s2 => ?_⟩
  rw [show ([x1].all fun n => decide (1 ≤ n) && decide (n ≤ nv)) = true by simp; omega]
  walk_at "rd"
  have s3 := s1.trans s2
  have hq3 := s3.seq hq
  refine rIx_l hq3 (atI_zero rfl) (rSlA_l hq3 fun q2 hq2 => ?_)
  rw [cutV_from]
  show ∀ x dx : Addr, _
  intro x dx hx hdx hne
  have s4 : Same H (upd H1 q2 (.lst (((x1 :: D).map V.int).drop 1))) := s3.upd hq2
  have hq2' : (upd H1 q2 (.lst (((x1 :: D).map V.int).drop 1))) q2 = some (.lst (D.map V.int)) := upd_same
  generalize upd H1 q2 (.lst (((x1 :: D).map V.int).drop 1)) = H2 at s4 hx hdx hq2'
  have s5 : Same H (upd (upd H2 dx (.own x)) x (.ins C dx [])) := (s4.upd hdx).upd (by rw [upd_ne (Ne.symm hne)]; exact hx)
  have hq5 : (upd (upd H2 dx (.own x)) x (.ins C dx [])) q2 = some (.lst (D.map V.int)) := by
    rw [upd_ne (ne_of_none hq2' hx), upd_ne (ne_of_none hq2' hdx)]
    exact hq2'
  refine ⟨x, dx, q2, row, x1, D, rfl, upd_same, SqL.of hq5, by omega, fun n H3 hn e => ⟨rfl, ?_⟩⟩
  subst e
  have nx : n ≠ x := fun z => by subst z; rw [upd_same] at hn; cases hn
  refine k x _ ?_ ⟨dx, n, upd_same, by rw [upd_ne nx, upd_same]⟩
  intro c o hc
  have n1 : c ≠ x := ne_of_none (s4 _ _ hc) hx
  rw [upd_ne n1, upd_ne (ne_of_none (s5 _ _ hc) hn)]
  exact s5 _ _ hc
theorem ok_Begin_after {f C : Addr} {fd : FuncData} {row : Str} {x1 : Int} {D : List Int} {nv : Nat} (F : Fun K "after" "Begin.after" s_Begin_after f fd) (T : Txt mg aM) (TC : ClsBegin K C) (ha : 1 ≤ x1 ∧ x1 ≤ nv) (D_note_in : Def P w K mg base "note_in" 2 ["column", "voice"] (spNoteIn K)) : FnOk P w K mg base CX0 3 f fd ["self", "memory", "before", "column"] (spAfter K nv (RIBegin C row x1 D) (semBegin x1 D) fun _ => True) := by
  refine F.ok sc_Begin_after (fun vs H Q E h => ?_) (fun cdv A outer s H vs Q E hr h => ?_)
  · obtain ⟨r, m, x, c, bb, us, rfl, _⟩ := h
    rfl
  obtain ⟨r, m, x, c, bb, us, rfl, ⟨dx, n, hr1, hn⟩, _, hbv, hc, hu, k⟩ := h
  refine ⟨_, (pss_one (ps_ret (pe_ifExp (PW.pt (pw_or (pt_cmpR op_notN (pv 2) pe_non (nomark _)) (pw_or1 (pt_cmpR (opInK K) (pe_def D_note_in hr (by rfl) (pa_cons (pv 3) (pa_cons (pe_fld (pv 0) rfl) pa_nil))) (pe_fld (pv 0) rfl) (by with_unfolding_all rfl))))) (pv 1) pe_non))), ?_⟩
  walk_at "rd"
  have l1 : (fldsBegin row x1 n).lookup (Str.ofString "voice") = some (.int x1) := by unfold fldsBegin; walk_at "flds"
  have l2 : (fldsBegin row x1 n).lookup (Str.ofString "notes") = some (.ref n) := by unfold fldsBegin; walk_at "flds"
  rcases hbv with ⟨rfl, rfl⟩ | ⟨a, bs, rfl, rfl, hba, hbl⟩
  · rw [if_pos rfl]
    refine ⟨C, dx, _, hr1, TC.cl, TC.n2, _, l1, c, x1, us, rfl, hc, ha.1, by rw [hu]; exact ha.2, C, dx, _, hr1, TC.cl, TC.n3, _, l2, rIn_ints (SqL.of hn) ⟨_, rfl, ?_⟩⟩
    simp only [semBegin] at k
    by_cases h : noteA us x1 ∈ D
    · rw [if_pos (decide_eq_true h)]
      rw [if_pos h] at k
      exact k
    · rw [if_neg (by rw [decide_eq_false h]; exact Bool.false_ne_true)]
      rw [if_neg h] at k
      exact k
  · rw [if_neg (by simp)]
    exact k
theorem begin_obj {C : Addr} {row : Str} {x1 : Int} {D : List Int} {nv : Nat} (TC : ClsBegin K C) (h1 : MethOk P w K mg base C "size" 7 ["self"] (spSay 1 fun _ => .int 1)) (h2 : MethOk P w K mg base C "start" 7 ["self"] (spSay 1 fun _ => .int 0)) (h3 : MethOk P w K mg base C "closes" 7 ["self", "memory", "last"] (spSay 3 fun _ => .bl true))
    (h4 : MethOk P w K mg base C "after" 7 ["self", "memory", "before", "column"] (spAfter K nv (RIBegin C row x1 D) (semBegin x1 D) fun _ => True)) : RuleObj P w K mg base 7 nv C (semBegin x1 D) (RIBegin C row x1 D) (fun _ => True) := by
  refine ⟨fun r H H' s h => ?_, fun r H h => ?_, trivial, fun _ _ _ _ _ _ => trivial, h1.imp ?_, h2.imp ?_, h4, h3.imp ?_⟩
  · obtain ⟨dx, n, e1, e2⟩ := h
    exact ⟨dx, n, s _ _ e1, s _ _ e2⟩
  · obtain ⟨dx, n, e1, e2⟩ := h
    refine ⟨dx, _, e1, ?_, ?_, ?_, ?_, ?_⟩ <;> (unfold fldsBegin; walk_at "flds")
  · rintro vs H Q E ⟨r, rfl, _, q⟩
    exact ⟨rfl, q⟩
  · rintro vs H Q E ⟨r, rfl, _, q⟩
    exact ⟨rfl, q⟩
  · rintro vs H Q E ⟨r, m, x, b, rfl, _, _, _, q⟩
    exact ⟨rfl, q⟩
theorem begin_shown {C : Addr} {row : Str} {x1 : Int} {D : List Int} (TC : ClsBegin K C) (h : MethOk P w K mg base C "shown" 7 ["self"] (spShown K)) : MethOk P w K mg base C "shown" 7 ["self"] (spR0 (RIBegin C row x1 D) (.str row)) := h.imp <| by
  rintro vs H Q E ⟨r, rfl, ⟨dx, n, e1, e2⟩, q⟩
  exact ⟨r, C, dx, _, row, rfl, e1, TC.cl, TC.n1, by unfold fldsBegin; walk_at "flds", q⟩
theorem ok_Close_init {f C : Addr} {fd : FuncData} (F : Fun K "__init__" "Close.__init__" s_Close___init__ f fd) (T : Txt mg aM) (TC : ClsClose K C) (DC_Rule___init__ : DefC P w K mg base "Rule" "__init__" 1 ["self", "row"] (spRuleInit K)) : FnOk P w K mg base CX0 2 f fd ["self", "row", "voice", "notes"] (spCloseInit K C) := by
  refine F.ok sc_Close___init__ (fun vs H Q E h => ?_) (fun cdv A outer s H vs Q E hr h => ?_)
  · obtain ⟨x, dx, q, row, x1, D, rfl, _⟩ := h
    rfl
  obtain ⟨x, dx, q, row, x1, D, rfl, hx, hq, hl, k⟩ := h
  refine ⟨_, (pss_cons (ps_expr (pe_cmeth DC_Rule___init__ hr (by rfl) (pa_cons (pv 0) (pa_cons (pv 1) pa_nil))))
  (pss_cons (ps_fld (pv 0) (pv 2) rfl)
  (pss_one (ps_fld (pv 0) (pe_callTy (call_listK K) (by rfl) T.n_list boot_list (pa_cons (pv 3) pa_nil)) rfl)))), ?_⟩
  walk_at "rd"
  have ln : ∀ (f : Str) (v : V) (l : List (Str × V)) (n : Nat), l.length ≤ n → (putF f v l).length ≤ n + 1 := fun f v l n h => Nat.le_trans (length_putF f v l) (Nat.succ_le_succ h)
  refine ⟨x, C, dx, [], row, rfl, hx, TC.cl, TC.n1, by decide, ?_⟩
  refine ⟨C, dx, _, upd_same, TC.cl, TC.n2, Nat.lt_of_le_of_lt (ln _ _ _ _ (Nat.zero_le 0)) (by decide), D.map V.int, .inl ((hq.at_ins hx).at_ins upd_same), fun n hn => ?_⟩
  have nx : n ≠ x := fun e => by subst e; rw [upd_same] at hn; cases hn
  rw [upd_ne nx, upd_ne nx] at hn
  refine ⟨C, dx, _, by rw [upd_ne (Ne.symm nx), upd_same], TC.cl, TC.n3, Nat.lt_of_le_of_lt (ln _ _ _ _ (ln _ _ _ _ (Nat.zero_le 0))) (by decide), ?_⟩
  refine k n _ hn ?_
  rw [upd_upd, upd_over]
  rfl
theorem ok_close_of {f C : Addr} {fd : FuncData} (F : Fun K "close_of" "close_of" s_close_of f fd) (T : Txt mg aM) (D_has_list : Def P w K mg base "has_list" 3 ["numbers", "ahead"] (spHasList K)) (D_are_voices : Def P w K mg base "are_voices" 3 ["numbers", "voices"] (spAreVoices K)) (DM_Close : DefM P w K mg base "Close" C 2 ["self", "row", "voice", "notes"] (spCloseInit K C)) : FnOk P w K mg base CX0 4 f fd ["row", "numbers", "voices"] (spCloseOf K C) := by
  refine F.ok sc_close_of (fun vs H Q E h => ?_) (fun cdv A outer s H vs Q E hr h => ?_)
  · obtain ⟨q, row, x1, D, nv, rfl, _⟩ := h
    rfl
  obtain ⟨q, row, x1, D, nv, rfl, hq, x1_1, x1_2, l1, l2, k⟩ := h
  refine ⟨_, (pss_cons (ps_if (PW.pt (pw_or (pt_not (pt_truth (pe_def D_has_list hr (by rfl) (pa_cons (pv 1) (pa_cons pe_int pa_nil))) (fun _ => rfl))) (pw_or1 (pt_not (pt_truth (pe_def D_are_voices hr (by rfl) (pa_cons (pe_slice (slAK K) (pv 1) po_none (po_some pe_int)) (pa_cons (pv 2) pa_nil))) (fun _ => rfl)))))) (pss_one (ps_ret pe_non)) pss_nil)
  (pss_one (ps_ret (pe_mk DM_Close hr (by rfl) (pa_cons (pv 0) (pa_cons (pe_ix (ixAK K) (pv 1) pe_int (fun _ _ => rfl)) (pa_cons (pe_slice (slAK K) (pv 1) (po_some pe_int) po_none) pa_nil))))))), ?_⟩
  walk_at "rd"
  have hs : sizeLine = 16777216 := sizeLine_eq
  refine ⟨q, _, 1, rfl, hq, ?_⟩
  rw [show (decide (1 ≤ (((x1 :: D).map V.int).length : Int) - 1) && decide ((((x1 :: D).map V.int).length : Int) - 1 ≤ 12)) = true by simp; omega]
  walk_at "rd"
  refine rSlA_l hq fun q1 hq1 => ?_
  rw [show (some (1 : Int)) = some ((1 : Nat) : Int) from rfl, cutV_to]
  have s1 : Same H (upd H q1 (.lst ((((x1 :: D).map V.int)).take 1))) := same_upd hq1
  refine ⟨q1, [x1], nv, rfl, SqL.of upd_same, by simp, fun H1 s2 => ?_⟩
  rw [show ([x1].all fun n => decide (1 ≤ n) && decide (n ≤ nv)) = true by simp; omega]
  walk_at "rd"
  have s3 := s1.trans s2
  have hq3 := s3.seq hq
  refine rIx_l hq3 (atI_zero rfl) (rSlA_l hq3 fun q2 hq2 => ?_)
  rw [cutV_from]
  show ∀ x dx : Addr, _
  intro x dx hx hdx hne
  have s4 : Same H (upd H1 q2 (.lst (((x1 :: D).map V.int).drop 1))) := s3.upd hq2
  have hq2' : (upd H1 q2 (.lst (((x1 :: D).map V.int).drop 1))) q2 = some (.lst (D.map V.int)) := upd_same
  generalize upd H1 q2 (.lst (((x1 :: D).map V.int).drop 1)) = H2 at s4 hx hdx hq2'
  have s5 : Same H (upd (upd H2 dx (.own x)) x (.ins C dx [])) := (s4.upd hdx).upd (by rw [upd_ne (Ne.symm hne)]; exact hx)
  have hq5 : (upd (upd H2 dx (.own x)) x (.ins C dx [])) q2 = some (.lst (D.map V.int)) := by
    rw [upd_ne (ne_of_none hq2' hx), upd_ne (ne_of_none hq2' hdx)]
    exact hq2'
  refine ⟨x, dx, q2, row, x1, D, rfl, upd_same, SqL.of hq5, by omega, fun n H3 hn e => ⟨rfl, ?_⟩⟩
  subst e
  have nx : n ≠ x := fun z => by subst z; rw [upd_same] at hn; cases hn
  refine k x _ ?_ ⟨dx, n, upd_same, by rw [upd_ne nx, upd_same]⟩
  intro c o hc
  have n1 : c ≠ x := ne_of_none (s4 _ _ hc) hx
  rw [upd_ne n1, upd_ne (ne_of_none (s5 _ _ hc) hn)]
  exact s5 _ _ hc
theorem ok_Close_closes {f C : Addr} {fd : FuncData} {row : Str} {x1 : Int} {D : List Int} {nv : Nat} (F : Fun K "closes" "Close.closes" s_Close_closes f fd) (T : Txt mg aM) (TC : ClsClose K C) (ha : 1 ≤ x1 ∧ x1 ≤ nv) (D_note_in : Def P w K mg base "note_in" 2 ["column", "voice"] (spNoteIn K)) : FnOk P w K mg base CX0 3 f fd ["self", "memory", "last"] (spCloses K nv (RIClose C row x1 D) (semClose x1 D) fun _ => True) := by
  refine F.ok sc_Close_closes (fun vs H Q E h => ?_) (fun cdv A outer s H vs Q E hr h => ?_)
  · obtain ⟨r, m, x, bb, rfl, _⟩ := h
    rfl
  obtain ⟨r, m, x, bb, rfl, ⟨dx, n, hr1, hn⟩, _, hbv, k⟩ := h
  refine ⟨_, (pss_one (ps_ret (pe_or (pe_cmpR op_isN (pv 2) pe_non (nomark _)) (pe_one (pe_cmpR (opInK K) (pe_def D_note_in hr (by rfl) (pa_cons (pv 2) (pa_cons (pe_fld (pv 0) rfl) pa_nil))) (pe_fld (pv 0) rfl) (by with_unfolding_all rfl)))))), ?_⟩
  walk_at "rd"
  have l1 : (fldsClose row x1 n).lookup (Str.ofString "voice") = some (.int x1) := by unfold fldsClose; walk_at "flds"
  have l2 : (fldsClose row x1 n).lookup (Str.ofString "notes") = some (.ref n) := by unfold fldsClose; walk_at "flds"
  rcases hbv with ⟨rfl, rfl⟩ | ⟨a, bs, rfl, rfl, hba, hbl⟩
  · rw [if_pos rfl]
    exact k
  · rw [if_neg (by simp)]
    refine ⟨C, dx, _, hr1, TC.cl, TC.n2, _, l1, a, x1, bs, rfl, hba, ha.1, by rw [hbl]; exact ha.2, C, dx, _, hr1, TC.cl, TC.n3, _, l2, rIn_ints (SqL.of hn) ?_⟩
    exact k
theorem close_obj {C : Addr} {row : Str} {x1 : Int} {D : List Int} {nv : Nat} (TC : ClsClose K C) (h1 : MethOk P w K mg base C "size" 7 ["self"] (spSay 1 fun _ => .int 1)) (h2 : MethOk P w K mg base C "start" 7 ["self"] (spSay 1 fun _ => .int 0)) (h3 : MethOk P w K mg base C "after" 7 ["self", "memory", "before", "column"] (spSay 4 keepM))
    (h4 : MethOk P w K mg base C "closes" 7 ["self", "memory", "last"] (spCloses K nv (RIClose C row x1 D) (semClose x1 D) fun _ => True)) : RuleObj P w K mg base 7 nv C (semClose x1 D) (RIClose C row x1 D) (fun _ => True) := by
  refine ⟨fun r H H' s h => ?_, fun r H h => ?_, trivial, fun _ _ _ _ _ _ => trivial, h1.imp ?_, h2.imp ?_, h3.imp ?_, h4⟩
  · obtain ⟨dx, n, e1, e2⟩ := h
    exact ⟨dx, n, s _ _ e1, s _ _ e2⟩
  · obtain ⟨dx, n, e1, e2⟩ := h
    refine ⟨dx, _, e1, ?_, ?_, ?_, ?_, ?_⟩ <;> (unfold fldsClose; walk_at "flds")
  · rintro vs H Q E ⟨r, rfl, _, q⟩
    exact ⟨rfl, q⟩
  · rintro vs H Q E ⟨r, rfl, _, q⟩
    exact ⟨rfl, q⟩
  · rintro vs H Q E ⟨r, m, x, c, b, us, rfl, _, _, _, _, _, q⟩
    exact ⟨rfl, q⟩
theorem close_shown {C : Addr} {row : Str} {x1 : Int} {D : List Int} (TC : ClsClose K C) (h : MethOk P w K mg base C "shown" 7 ["self"] (spShown K)) : MethOk P w K mg base C "shown" 7 ["self"] (spR0 (RIClose C row x1 D) (.str row)) := h.imp <| by
  rintro vs H Q E ⟨r, rfl, ⟨dx, n, e1, e2⟩, q⟩
  exact ⟨r, C, dx, _, row, rfl, e1, TC.cl, TC.n1, by unfold fldsClose; walk_at "flds", q⟩
theorem ok_Back_init {f C : Addr} {fd : FuncData} (F : Fun K "__init__" "Back.__init__" s_Back___init__ f fd) (T : Txt mg aM) (TC : ClsBack K C) (DC_Rule___init__ : DefC P w K mg base "Rule" "__init__" 1 ["self", "row"] (spRuleInit K)) : FnOk P w K mg base CX0 2 f fd ["self", "row", "voice", "widest"] (spBackInit K C) := by
  refine F.ok sc_Back___init__ (fun vs H Q E h => ?_) (fun cdv A outer s H vs Q E hr h => ?_)
  · obtain ⟨x, dx, row, x1, x2, rfl, _⟩ := h
    rfl
  obtain ⟨x, dx, row, x1, x2, rfl, hx, k⟩ := h
  refine ⟨_, (pss_cons (ps_expr (pe_cmeth DC_Rule___init__ hr (by rfl) (pa_cons (pv 0) (pa_cons (pv 1) pa_nil))))
  (pss_cons (ps_fld (pv 0) (pv 2) rfl)
  (pss_one (ps_fld (pv 0) (pv 3) rfl)))), ?_⟩
  walk_at "rd"
  have ln : ∀ (f : Str) (v : V) (l : List (Str × V)) (n : Nat), l.length ≤ n → (putF f v l).length ≤ n + 1 := fun f v l n h => Nat.le_trans (length_putF f v l) (Nat.succ_le_succ h)
  refine ⟨x, C, dx, [], row, rfl, hx, TC.cl, TC.n1, by decide, ?_⟩
  refine ⟨C, dx, _, upd_same, TC.cl, TC.n2, Nat.lt_of_le_of_lt (ln _ _ _ _ (Nat.zero_le 0)) (by decide), C, dx, _, upd_same, TC.cl, TC.n3, Nat.lt_of_le_of_lt (ln _ _ _ _ (ln _ _ _ _ (Nat.zero_le 0))) (by decide), ?_⟩
  rw [upd_upd, upd_upd]
  exact k
theorem ok_back_of {f C : Addr} {fd : FuncData} (F : Fun K "back_of" "back_of" s_back_of f fd) (T : Txt mg aM) (D_are_voices : Def P w K mg base "are_voices" 3 ["numbers", "voices"] (spAreVoices K)) (DM_Back : DefM P w K mg base "Back" C 2 ["self", "row", "voice", "widest"] (spBackInit K C)) : FnOk P w K mg base CX0 4 f fd ["row", "numbers", "voices"] (spBackOf K C) := by
  refine F.ok sc_back_of (fun vs H Q E h => ?_) (fun cdv A outer s H vs Q E hr h => ?_)
  · obtain ⟨q, row, x1, x2, nv, rfl, _⟩ := h
    rfl
  obtain ⟨q, row, x1, x2, nv, rfl, hq, b1, b2, b3, k⟩ := h
  refine ⟨_, (pss_cons (ps_if (PW.pt (pw_or (pt_cmpR opNe (pe_callB (call_lenK K) (by rfl) T.n_len boot_len (pa_cons (pv 1) pa_nil)) pe_int (nomark _)) (pw_or (pt_not (pt_truth (pe_def D_are_voices hr (by rfl) (pa_cons (pe_slice (slAK K) (pv 1) po_none (po_some pe_int)) (pa_cons (pv 2) pa_nil))) (fun _ => rfl))) (pw_or1 (pt_cmpR opLt (pe_ix (ixAK K) (pv 1) pe_int (fun _ _ => rfl)) pe_int (nomark _)))))) (pss_one (ps_ret pe_non)) pss_nil)
  (pss_one (ps_ret (pe_mk DM_Back hr (by rfl) (pa_cons (pv 0) (pa_cons (pe_ix (ixAK K) (pv 1) pe_int (fun _ _ => rfl)) (pa_cons (pe_ix (ixAK K) (pv 1) pe_int (fun _ _ => rfl)) pa_nil))))))), ?_⟩
  walk_at "rd"
  have hs : sizeLine = 16777216 := sizeLine_eq
  refine ⟨_, .inl hq, ?_⟩
  walk_at "rd"
  rw [if_pos (show (((0 : Nat) + 1 + 1 : Nat) : Int) = 2 from rfl)]
  refine rSlA_l hq fun q1 hq1 => ?_
  rw [show (some (1 : Int)) = some ((1 : Nat) : Int) from rfl, cutV_to]
  have s1 : Same H (upd H q1 (.lst (([x1, x2].map V.int).take 1))) := same_upd hq1
  refine ⟨q1, [x1], nv, rfl, SqL.of upd_same, by simp, fun H1 s2 => ?_⟩
  rw [show ([x1].all fun n => decide (1 ≤ n) && decide (n ≤ nv)) = true by simp; omega]
  walk_at "rd"
  have s3 := s1.trans s2
  have hq3 := s3.seq hq
  refine rIx_l hq3 (show atI _ ((1 : Nat) : Int) = _ from atI_nat rfl) ?_
  walk_at "rd"
  rw [if_neg (show ¬ (x2 < 0) by omega)]
  refine rIx_l hq3 (atI_zero rfl) (rIx_l hq3 (show atI _ ((1 : Nat) : Int) = _ from atI_nat rfl) ?_)
  show ∀ x dx : Addr, _
  intro x dx hx hdx hne
  have s5 : Same H (upd (upd H1 dx (.own x)) x (.ins C dx [])) := (s3.upd hdx).upd (by rw [upd_ne (Ne.symm hne)]; exact hx)
  refine ⟨x, dx, row, x1, x2, rfl, upd_same, rfl, ?_⟩
  refine k x _ ?_ ⟨dx, upd_same⟩
  intro c o hc
  rw [upd_ne (ne_of_none (s3 _ _ hc) hx)]
  exact s5 _ _ hc
theorem back_shown {C : Addr} {row : Str} {x1 x2 : Int} (TC : ClsBack K C) (h : MethOk P w K mg base C "shown" 7 ["self"] (spShown K)) : MethOk P w K mg base C "shown" 7 ["self"] (spR0 (RIBack C row x1 x2) (.str row)) := h.imp <| by
  rintro vs H Q E ⟨r, rfl, ⟨dx, e1⟩, q⟩
  exact ⟨r, C, dx, _, row, rfl, e1, TC.cl, TC.n1, by unfold fldsBack; walk_at "flds", q⟩
theorem ok_Back_size {f : Addr} {fd : FuncData} (F : Fun K "size" "Back.size" s_Back_size f fd) : FnOk P w K mg base CX0 1 f fd ["self"] (spSay 1 fun _ => .int 3) := by
  refine F.ok sc_Back_size (fun vs H Q E h => h.1) (fun cdv A outer s H vs Q E hr h => ?_)
  obtain ⟨hl, k⟩ := h
  match vs, hl with
  | [a], _ =>
  refine ⟨_, (pss_one (ps_ret pe_int)), ?_⟩
  walk_at "rd"
  exact k
theorem ok_Back_start {f : Addr} {fd : FuncData} (F : Fun K "start" "Back.start" s_Back_start f fd) (T : Txt mg aM) : FnOk P w K mg base CX0 1 f fd ["self"] (spSay 1 fun _ => .int 0) := by
  refine F.ok sc_Back_start (fun vs H Q E h => h.1) (fun cdv A outer s H vs Q E hr h => ?_)
  obtain ⟨hl, k⟩ := h
  match vs, hl with
  | [a], _ =>
  refine ⟨_, (pss_one (ps_ret (pe_g T.g_NO_LEAP))), ?_⟩
  walk_at "rd"
  exact k
def memBk (m : Int) : Prop := 0 ≤ m ∧ m ≤ 2
theorem ok_Back_closes {f C : Addr} {fd : FuncData} {row : Str} {x1 x2 : Int} {nv : Nat} (F : Fun K "closes" "Back.closes" s_Back_closes f fd) (T : Txt mg aM) : FnOk P w K mg base CX0 1 f fd ["self", "memory", "last"] (spCloses K nv (RIBack C row x1 x2) (semBack x1 x2) memBk) := by
  refine F.ok sc_Back_closes (fun vs H Q E h => ?_) (fun cdv A outer s H vs Q E hr h => ?_)
  · obtain ⟨r, m, x, bb, rfl, _⟩ := h
    rfl
  obtain ⟨r, m, x, bb, rfl, _, _, _, k⟩ := h
  refine ⟨_, (pss_one (ps_ret (pe_cmpR opEq (pv 1) (pe_g T.g_NO_LEAP) (nomark _)))), ?_⟩
  walk_at "rd"
  exact k
theorem ok_Back_after {f C : Addr} {fd : FuncData} {row : Str} {x1 x2 : Int} {nv : Nat} (F : Fun K "after" "Back.after" s_Back_after f fd) (T : Txt mg aM) (TC : ClsBack K C) (ha : 1 ≤ x1 ∧ x1 ≤ nv) (D_move : Def P w K mg base "move" 2 ["before", "column", "voice"] (spMoveF K)) : FnOk P w K mg base CX0 3 f fd ["self", "memory", "before", "column"] (spAfter K nv (RIBack C row x1 x2) (semBack x1 x2) memBk) := by
  refine F.ok sc_Back_after (fun vs H Q E h => ?_) (fun cdv A outer s H vs Q E hr h => ?_)
  · obtain ⟨r, m, x, c, bb, us, rfl, _⟩ := h
    rfl
  obtain ⟨r, m, x, c, bb, us, rfl, ⟨dx, hr1⟩, _, hbv, hc, hu, k⟩ := h
  refine ⟨_, (pss_cons (ps_if (pt_cmpR op_isN (pv 2) pe_non (nomark _)) (pss_one (ps_ret (pe_g T.g_NO_LEAP))) pss_nil)
  (pss_cons (ps_set (i := 4) sc_Back_after.nd rfl (Or.inl rfl) (pe_def D_move hr (by rfl) (pa_cons (pv 2) (pa_cons (pv 3) (pa_cons (pe_fld (pv 0) rfl) pa_nil)))))
  (pss_cons (ps_if (PW.pt (pw_or (PW.pt (pw_and (pt_cmpR opEq (pv 1) (pe_g T.g_LEAP_UP) (nomark _)) (pw_and1 (pt_cmpR op_ge (pv 4) pe_int (nomark _))))) (pw_or1 (PW.pt (pw_and (pt_cmpR opEq (pv 1) (pe_g T.g_LEAP_DOWN) (nomark _)) (pw_and1 (pt_cmpR op_le (pv 4) pe_int (nomark _)))))))) (pss_one (ps_ret pe_non)) pss_nil)
  (pss_cons (ps_if (pt_cmpR op_gt (pv 4) (pe_fld (pv 0) rfl) (nomark _)) (pss_one (ps_ret (pe_g T.g_LEAP_UP))) pss_nil)
  (pss_one (ps_ret (pe_ifExp (pt_cmpR opLt (pv 4) (pe_op op_sub pe_int (pe_fld (pv 0) rfl)) (nomark _)) (pe_g T.g_LEAP_DOWN) (pe_g T.g_NO_LEAP)))))))), ?_⟩
  walk_at "rd"
  have l1 : (fldsBack row x1 x2).lookup (Str.ofString "voice") = some (.int x1) := by unfold fldsBack; walk_at "flds"
  have l2 : (fldsBack row x1 x2).lookup (Str.ofString "widest") = some (.int x2) := by unfold fldsBack; walk_at "flds"
  rcases hbv with ⟨rfl, rfl⟩ | ⟨a, bs, rfl, rfl, hba, hbl⟩
  · rw [if_pos rfl]
    exact k
  rw [if_neg (fun z => by cases z)]
  refine ⟨C, dx, _, hr1, TC.cl, TC.n2, _, l1, a, c, x1, bs, us, rfl, hba, hc, ha.1, by rw [hbl]; exact ha.2, by rw [hu]; exact ha.2, ?_⟩
  simp only [semBack] at k
  generalize noteA us x1 - noteA bs x1 = stp at k
  walk_at "rd"
  by_cases hB : (m = 1 ∧ 0 ≤ stp) ∨ (m = 2 ∧ stp ≤ 0)
  · rw [if_pos hB] at k
    rcases hB with ⟨h1, h2⟩ | ⟨h1, h2⟩
    · rw [if_pos h1, if_pos h2]
      exact k
    · rw [if_neg (show ¬ (m = 1) by omega), if_pos h1, if_pos h2]
      exact k
  rw [if_neg hB] at k
  by_cases h1 : m = 1
  rw [if_pos h1, if_neg (fun z => hB (.inl ⟨h1, z⟩)), if_neg (show ¬ (m = 2) by omega)]
  rotate_left
  rw [if_neg h1]
  by_cases h2 : m = 2
  rw [if_pos h2, if_neg (fun z => hB (.inr ⟨h2, z⟩))]
  rotate_left
  rw [if_neg h2]
  all_goals
    refine ⟨C, dx, _, hr1, TC.cl, TC.n3, _, l2, _, rfl, ?_⟩
    by_cases h3 : x2 < stp
    · rw [if_pos h3]
      rw [if_pos (show stp > x2 from h3)] at k
      exact k
    rw [if_neg h3]
    rw [if_neg (show ¬ (stp > x2) from h3)] at k
    refine ⟨C, dx, _, hr1, TC.cl, TC.n3, _, l2, _, rfl, ?_⟩
    by_cases h4 : stp < 0 - x2
    · rw [if_pos h4]
      rw [if_pos h4] at k
      exact k
    · rw [if_neg h4]
      rw [if_neg h4] at k
      exact k
theorem back_obj {C : Addr} {row : Str} {x1 x2 : Int} {nv : Nat} (TC : ClsBack K C) (h1 : MethOk P w K mg base C "size" 7 ["self"] (spSay 1 fun _ => .int 3)) (h2 : MethOk P w K mg base C "start" 7 ["self"] (spSay 1 fun _ => .int 0)) (h3 : MethOk P w K mg base C "closes" 7 ["self", "memory", "last"] (spCloses K nv (RIBack C row x1 x2) (semBack x1 x2) memBk))
    (h4 : MethOk P w K mg base C "after" 7 ["self", "memory", "before", "column"] (spAfter K nv (RIBack C row x1 x2) (semBack x1 x2) memBk)) : RuleObj P w K mg base 7 nv C (semBack x1 x2) (RIBack C row x1 x2) memBk := by
  refine ⟨fun r H H' s h => ?_, fun r H h => ?_, ⟨show (0 : Int) ≤ 0 by decide, show (0 : Int) ≤ 2 by decide⟩, fun m b us m' _ e => ?_, h1.imp ?_, h2.imp ?_, h4, h3⟩
  · obtain ⟨dx, e1⟩ := h
    exact ⟨dx, s _ _ e1⟩
  · obtain ⟨dx, e1⟩ := h
    refine ⟨dx, _, e1, ?_, ?_, ?_, ?_, ?_⟩ <;> (unfold fldsBack; walk_at "flds")
  · simp only [semBack] at e
    cases b with
    | none => cases e; exact ⟨by decide, by decide⟩
    | some bs =>
      simp only at e
      split at e
      · cases e
      split at e
      · cases e; exact ⟨by decide, by decide⟩
      split at e
      · cases e; exact ⟨by decide, by decide⟩
      · cases e; exact ⟨by decide, by decide⟩
  · rintro vs H Q E ⟨r, rfl, _, q⟩
    exact ⟨rfl, q⟩
  · rintro vs H Q E ⟨r, rfl, _, q⟩
    exact ⟨rfl, q⟩
theorem ok_Held_init {f C : Addr} {fd : FuncData} (F : Fun K "__init__" "Held.__init__" s_Held___init__ f fd) (T : Txt mg aM) (TC : ClsHeld K C) (DC_Rule___init__ : DefC P w K mg base "Rule" "__init__" 1 ["self", "row"] (spRuleInit K)) : FnOk P w K mg base CX0 2 f fd ["self", "row", "voice", "most"] (spHeldInit K C) := by
  refine F.ok sc_Held___init__ (fun vs H Q E h => ?_) (fun cdv A outer s H vs Q E hr h => ?_)
  · obtain ⟨x, dx, row, x1, x2, rfl, _⟩ := h
    rfl
  obtain ⟨x, dx, row, x1, x2, rfl, hx, k⟩ := h
  refine ⟨_, (pss_cons (ps_expr (pe_cmeth DC_Rule___init__ hr (by rfl) (pa_cons (pv 0) (pa_cons (pv 1) pa_nil))))
  (pss_cons (ps_fld (pv 0) (pv 2) rfl)
  (pss_one (ps_fld (pv 0) (pv 3) rfl)))), ?_⟩
  walk_at "rd"
  have ln : ∀ (f : Str) (v : V) (l : List (Str × V)) (n : Nat), l.length ≤ n → (putF f v l).length ≤ n + 1 := fun f v l n h => Nat.le_trans (length_putF f v l) (Nat.succ_le_succ h)
  refine ⟨x, C, dx, [], row, rfl, hx, TC.cl, TC.n1, by decide, ?_⟩
  refine ⟨C, dx, _, upd_same, TC.cl, TC.n2, Nat.lt_of_le_of_lt (ln _ _ _ _ (Nat.zero_le 0)) (by decide), C, dx, _, upd_same, TC.cl, TC.n3, Nat.lt_of_le_of_lt (ln _ _ _ _ (ln _ _ _ _ (Nat.zero_le 0))) (by decide), ?_⟩
  rw [upd_upd, upd_upd]
  exact k
theorem ok_held_of {f C : Addr} {fd : FuncData} (F : Fun K "held_of" "held_of" s_held_of f fd) (T : Txt mg aM) (D_are_voices : Def P w K mg base "are_voices" 3 ["numbers", "voices"] (spAreVoices K)) (DM_Held : DefM P w K mg base "Held" C 2 ["self", "row", "voice", "most"] (spHeldInit K C)) : FnOk P w K mg base CX0 4 f fd ["row", "numbers", "voices"] (spHeldOf K C) := by
  refine F.ok sc_held_of (fun vs H Q E h => ?_) (fun cdv A outer s H vs Q E hr h => ?_)
  · obtain ⟨q, row, x1, x2, nv, rfl, _⟩ := h
    rfl
  obtain ⟨q, row, x1, x2, nv, rfl, hq, b1, b2, b3, k⟩ := h
  refine ⟨_, (pss_cons (ps_if (PW.pt (pw_or (pt_cmpR opNe (pe_callB (call_lenK K) (by rfl) T.n_len boot_len (pa_cons (pv 1) pa_nil)) pe_int (nomark _)) (pw_or (pt_not (pt_truth (pe_def D_are_voices hr (by rfl) (pa_cons (pe_slice (slAK K) (pv 1) po_none (po_some pe_int)) (pa_cons (pv 2) pa_nil))) (fun _ => rfl))) (pw_or1 (pt_cmpR opLt (pe_ix (ixAK K) (pv 1) pe_int (fun _ _ => rfl)) pe_int (nomark _)))))) (pss_one (ps_ret pe_non)) pss_nil)
  (pss_one (ps_ret (pe_mk DM_Held hr (by rfl) (pa_cons (pv 0) (pa_cons (pe_ix (ixAK K) (pv 1) pe_int (fun _ _ => rfl)) (pa_cons (pe_ix (ixAK K) (pv 1) pe_int (fun _ _ => rfl)) pa_nil))))))), ?_⟩
  walk_at "rd"
  have hs : sizeLine = 16777216 := sizeLine_eq
  refine ⟨_, .inl hq, ?_⟩
  walk_at "rd"
  rw [if_pos (show (((0 : Nat) + 1 + 1 : Nat) : Int) = 2 from rfl)]
  refine rSlA_l hq fun q1 hq1 => ?_
  rw [show (some (1 : Int)) = some ((1 : Nat) : Int) from rfl, cutV_to]
  have s1 : Same H (upd H q1 (.lst (([x1, x2].map V.int).take 1))) := same_upd hq1
  refine ⟨q1, [x1], nv, rfl, SqL.of upd_same, by simp, fun H1 s2 => ?_⟩
  rw [show ([x1].all fun n => decide (1 ≤ n) && decide (n ≤ nv)) = true by simp; omega]
  walk_at "rd"
  have s3 := s1.trans s2
  have hq3 := s3.seq hq
  refine rIx_l hq3 (show atI _ ((1 : Nat) : Int) = _ from atI_nat rfl) ?_
  walk_at "rd"
  rw [if_neg (show ¬ (x2 < 1) by omega)]
  refine rIx_l hq3 (atI_zero rfl) (rIx_l hq3 (show atI _ ((1 : Nat) : Int) = _ from atI_nat rfl) ?_)
  show ∀ x dx : Addr, _
  intro x dx hx hdx hne
  have s5 : Same H (upd (upd H1 dx (.own x)) x (.ins C dx [])) := (s3.upd hdx).upd (by rw [upd_ne (Ne.symm hne)]; exact hx)
  refine ⟨x, dx, row, x1, x2, rfl, upd_same, rfl, ?_⟩
  refine k x _ ?_ ⟨dx, upd_same⟩
  intro c o hc
  rw [upd_ne (ne_of_none (s3 _ _ hc) hx)]
  exact s5 _ _ hc
theorem held_shown {C : Addr} {row : Str} {x1 x2 : Int} (TC : ClsHeld K C) (h : MethOk P w K mg base C "shown" 7 ["self"] (spShown K)) : MethOk P w K mg base C "shown" 7 ["self"] (spR0 (RIHeld C row x1 x2) (.str row)) := h.imp <| by
  rintro vs H Q E ⟨r, rfl, ⟨dx, e1⟩, q⟩
  exact ⟨r, C, dx, _, row, rfl, e1, TC.cl, TC.n1, by unfold fldsHeld; walk_at "flds", q⟩
theorem ok_Held_size {f C : Addr} {fd : FuncData} {row : Str} {x1 x2 : Int} (F : Fun K "size" "Held.size" s_Held_size f fd) (TC : ClsHeld K C) : FnOk P w K mg base CX0 1 f fd ["self"] (spR0 (RIHeld C row x1 x2) (.int x2)) := by
  refine F.ok sc_Held_size (fun vs H Q E h => ?_) (fun cdv A outer s H vs Q E hr h => ?_)
  · obtain ⟨r, rfl, _⟩ := h
    rfl
  obtain ⟨r, rfl, ⟨dx, hr1⟩, k⟩ := h
  refine ⟨_, (pss_one (ps_ret (pe_fld (pv 0) rfl))), ?_⟩
  walk_at "rd"
  have l2 : (fldsHeld row x1 x2).lookup (Str.ofString "most") = some (.int x2) := by unfold fldsHeld; walk_at "flds"
  exact ⟨C, dx, _, hr1, TC.cl, TC.n3, _, l2, k⟩
theorem ok_Held_after {f C : Addr} {fd : FuncData} {row : Str} {x1 x2 : Int} {nv : Nat} (F : Fun K "after" "Held.after" s_Held_after f fd) (T : Txt mg aM) (TC : ClsHeld K C) (ha : 1 ≤ x1 ∧ x1 ≤ nv) (D_note_in : Def P w K mg base "note_in" 2 ["column", "voice"] (spNoteIn K)) : FnOk P w K mg base CX0 3 f fd ["self", "memory", "before", "column"] (spAfter K nv (RIHeld C row x1 x2) (semHeld x1 x2) (memHd x2)) := by
  refine F.ok sc_Held_after (fun vs H Q E h => ?_) (fun cdv A outer s H vs Q E hr h => ?_)
  · obtain ⟨r, m, x, c, bb, us, rfl, _⟩ := h
    rfl
  obtain ⟨r, m, x, c, bb, us, rfl, ⟨dx, hr1⟩, _, hbv, hc, hu, k⟩ := h
  refine ⟨_, (pss_cons (ps_if (PW.pt (pw_or (pt_cmpR op_isN (pv 2) pe_non (nomark _)) (pw_or1 (pt_cmpR opNe (pe_def D_note_in hr (by rfl) (pa_cons (pv 2) (pa_cons (pe_fld (pv 0) rfl) pa_nil))) (pe_def D_note_in hr (by rfl) (pa_cons (pv 3) (pa_cons (pe_fld (pv 0) rfl) pa_nil))) (nomark _))))) (pss_one (ps_ret pe_int)) pss_nil)
  (pss_one (ps_ret (pe_ifExp (pt_cmpR opLt (pe_op (opAddK K) (pv 1) pe_int) (pe_fld (pv 0) rfl) (nomark _)) (pe_op (opAddK K) (pv 1) pe_int) pe_non)))), ?_⟩
  walk_at "rd"
  have l1 : (fldsHeld row x1 x2).lookup (Str.ofString "voice") = some (.int x1) := by unfold fldsHeld; walk_at "flds"
  have l2 : (fldsHeld row x1 x2).lookup (Str.ofString "most") = some (.int x2) := by unfold fldsHeld; walk_at "flds"
  rcases hbv with ⟨rfl, rfl⟩ | ⟨a, bs, rfl, rfl, hba, hbl⟩
  · rw [if_pos rfl]
    exact k
  rw [if_neg (fun z => by cases z)]
  refine ⟨C, dx, _, hr1, TC.cl, TC.n2, _, l1, a, x1, bs, rfl, hba, ha.1, by rw [hbl]; exact ha.2, C, dx, _, hr1, TC.cl, TC.n2, _, l1, c, x1, us, rfl, hc, ha.1, by rw [hu]; exact ha.2, ?_⟩
  walk_at "rd"
  simp only [semHeld] at k
  by_cases h : noteA bs x1 = noteA us x1
  · rw [if_pos h]
    rw [if_pos h] at k
    refine ⟨C, dx, _, hr1, TC.cl, TC.n3, _, l2, _, rfl, ?_⟩
    by_cases h2 : m + 1 < x2
    · rw [if_pos h2]
      rw [if_pos h2] at k
      exact k
    · rw [if_neg h2]
      rw [if_neg h2] at k
      exact k
  · rw [if_neg h]
    rw [if_neg h] at k
    exact k
theorem held_obj {C : Addr} {row : Str} {x1 x2 : Int} {nv : Nat} (h0 : 1 ≤ x2) (TC : ClsHeld K C) (h1 : MethOk P w K mg base C "size" 7 ["self"] (spR0 (RIHeld C row x1 x2) (.int x2))) (h2 : MethOk P w K mg base C "start" 7 ["self"] (spSay 1 fun _ => .int 0)) (h3 : MethOk P w K mg base C "closes" 7 ["self", "memory", "last"] (spSay 3 fun _ => .bl true))
    (h4 : MethOk P w K mg base C "after" 7 ["self", "memory", "before", "column"] (spAfter K nv (RIHeld C row x1 x2) (semHeld x1 x2) (memHd x2))) : RuleObj P w K mg base 7 nv C (semHeld x1 x2) (RIHeld C row x1 x2) (memHd x2) := by
  refine ⟨fun r H H' s h => ?_, fun r H h => ?_, ⟨show (0 : Int) ≤ 0 by decide, show (0 : Int) < x2 by omega⟩, fun m b us m' hm e => ?_, h1, h2.imp ?_, h4, h3.imp ?_⟩
  · obtain ⟨dx, e1⟩ := h
    exact ⟨dx, s _ _ e1⟩
  · obtain ⟨dx, e1⟩ := h
    refine ⟨dx, _, e1, ?_, ?_, ?_, ?_, ?_⟩ <;> (unfold fldsHeld; walk_at "flds")
  · simp only [semHeld] at e
    obtain ⟨m0, m1⟩ := hm
    cases b with
    | none => cases e; exact ⟨by decide, by omega⟩
    | some bs =>
      simp only at e
      split at e
      · split at e
        · cases e; exact ⟨by omega, by omega⟩
        · cases e
      · cases e; exact ⟨by decide, by omega⟩
  · rintro vs H Q E ⟨r, rfl, _, q⟩
    exact ⟨rfl, q⟩
  · rintro vs H Q E ⟨r, m, x, b, rfl, _, _, _, q⟩
    exact ⟨rfl, q⟩
theorem ok_Times_init {f C : Addr} {fd : FuncData} (F : Fun K "__init__" "Times.__init__" s_Times___init__ f fd) (T : Txt mg aM) (TC : ClsTimes K C) (DC_Rule___init__ : DefC P w K mg base "Rule" "__init__" 1 ["self", "row"] (spRuleInit K)) : FnOk P w K mg base CX0 2 f fd ["self", "row", "voice", "note", "fewest", "most"] (spTimesInit K C) := by
  refine F.ok sc_Times___init__ (fun vs H Q E h => ?_) (fun cdv A outer s H vs Q E hr h => ?_)
  · obtain ⟨x, dx, row, x1, x2, x3, x4, rfl, _⟩ := h
    rfl
  obtain ⟨x, dx, row, x1, x2, x3, x4, rfl, hx, k⟩ := h
  refine ⟨_, (pss_cons (ps_expr (pe_cmeth DC_Rule___init__ hr (by rfl) (pa_cons (pv 0) (pa_cons (pv 1) pa_nil))))
  (pss_cons (ps_fld (pv 0) (pv 2) rfl)
  (pss_cons (ps_fld (pv 0) (pv 3) rfl)
  (pss_cons (ps_fld (pv 0) (pv 4) rfl)
  (pss_one (ps_fld (pv 0) (pv 5) rfl)))))), ?_⟩
  walk_at "rd"
  have ln : ∀ (f : Str) (v : V) (l : List (Str × V)) (n : Nat), l.length ≤ n → (putF f v l).length ≤ n + 1 := fun f v l n h => Nat.le_trans (length_putF f v l) (Nat.succ_le_succ h)
  refine ⟨x, C, dx, [], row, rfl, hx, TC.cl, TC.n1, by decide, ?_⟩
  refine ⟨C, dx, _, upd_same, TC.cl, TC.n2, Nat.lt_of_le_of_lt (ln _ _ _ _ (Nat.zero_le 0)) (by decide), C, dx, _, upd_same, TC.cl, TC.n3, Nat.lt_of_le_of_lt (ln _ _ _ _ (ln _ _ _ _ (Nat.zero_le 0))) (by decide), C, dx, _, upd_same, TC.cl, TC.n4, Nat.lt_of_le_of_lt (ln _ _ _ _ (ln _ _ _ _ (ln _ _ _ _ (Nat.zero_le 0)))) (by decide), C, dx, _, upd_same, TC.cl, TC.n5, Nat.lt_of_le_of_lt (ln _ _ _ _ (ln _ _ _ _ (ln _ _ _ _ (ln _ _ _ _ (Nat.zero_le 0))))) (by decide), ?_⟩
  rw [upd_upd, upd_upd, upd_upd, upd_upd]
  exact k
theorem times_shown {C : Addr} {row : Str} {x1 x2 x3 x4 : Int} (TC : ClsTimes K C) (h : MethOk P w K mg base C "shown" 7 ["self"] (spShown K)) : MethOk P w K mg base C "shown" 7 ["self"] (spR0 (RITimes C row x1 x2 x3 x4) (.str row)) := h.imp <| by
  rintro vs H Q E ⟨r, rfl, ⟨dx, e1⟩, q⟩
  exact ⟨r, C, dx, _, row, rfl, e1, TC.cl, TC.n1, by unfold fldsTimes; walk_at "flds", q⟩
theorem ok_times_of {f C : Addr} {fd : FuncData} (F : Fun K "times_of" "times_of" s_times_of f fd) (T : Txt mg aM) (D_are_voices : Def P w K mg base "are_voices" 3 ["numbers", "voices"] (spAreVoices K)) (DM_Times : DefM P w K mg base "Times" C 2 ["self", "row", "voice", "note", "fewest", "most"] (spTimesInit K C)) : FnOk P w K mg base CX0 4 f fd ["row", "numbers", "voices"] (spTimesOf K C) := by
  refine F.ok sc_times_of (fun vs H Q E h => ?_) (fun cdv A outer s H vs Q E hr h => ?_)
  · obtain ⟨q, row, x1, x2, x3, x4, nv, rfl, _⟩ := h
    rfl
  obtain ⟨q, row, x1, x2, x3, x4, nv, rfl, hq, b1, b2, b3, b4, k⟩ := h
  refine ⟨_, (pss_cons (ps_if (PW.pt (pw_or (pt_cmpR opNe (pe_callB (call_lenK K) (by rfl) T.n_len boot_len (pa_cons (pv 1) pa_nil)) pe_int (nomark _)) (pw_or (pt_not (pt_truth (pe_def D_are_voices hr (by rfl) (pa_cons (pe_slice (slAK K) (pv 1) po_none (po_some pe_int)) (pa_cons (pv 2) pa_nil))) (fun _ => rfl))) (pw_or1 (pt_cmpR opLt (pe_callB (call_minL rfl K) (by rfl) T.n_min boot_min (pa_cons (pe_slice (slAK K) (pv 1) (po_some pe_int) po_none) pa_nil)) pe_int (nomark _)))))) (pss_one (ps_ret pe_non)) pss_nil)
  (pss_one (ps_ret (pe_mk DM_Times hr (by rfl) (pa_cons (pv 0) (pa_cons (pe_ix (ixAK K) (pv 1) pe_int (fun _ _ => rfl)) (pa_cons (pe_ix (ixAK K) (pv 1) pe_int (fun _ _ => rfl)) (pa_cons (pe_ix (ixAK K) (pv 1) pe_int (fun _ _ => rfl)) (pa_cons (pe_ix (ixAK K) (pv 1) pe_int (fun _ _ => rfl)) pa_nil))))))))), ?_⟩
  walk_at "rd"
  have hs : sizeLine = 16777216 := sizeLine_eq
  refine ⟨_, .inl hq, ?_⟩
  walk_at "rd"
  rw [if_pos (show (((0 : Nat) + 1 + 1 + 1 + 1 : Nat) : Int) = 4 from rfl)]
  refine rSlA_l hq fun q1 hq1 => ?_
  rw [show (some (1 : Int)) = some ((1 : Nat) : Int) from rfl, cutV_to]
  have s1 : Same H (upd H q1 (.lst (([x1, x2, x3, x4].map V.int).take 1))) := same_upd hq1
  refine ⟨q1, [x1], nv, rfl, SqL.of upd_same, by simp, fun H1 s2 => ?_⟩
  rw [show ([x1].all fun n => decide (1 ≤ n) && decide (n ≤ nv)) = true by simp; omega]
  walk_at "rd"
  have s3 := s1.trans s2
  have hq3 := s3.seq hq
  refine rSlA_l hq3 fun q4 hq4 => ?_
  rw [show (some (2 : Int)) = some ((2 : Nat) : Int) from rfl, cutV_from]
  have s4 : Same H (upd H1 q4 (.lst (([x1, x2, x3, x4].map V.int).drop 2))) := s3.upd hq4
  have hm : (upd H1 q4 (.lst (([x1, x2, x3, x4].map V.int).drop 2))) q4 = some (.lst ([x3, x4].map V.int)) := upd_same
  generalize upd H1 q4 (.lst (([x1, x2, x3, x4].map V.int).drop 2)) = H2 at s4 hm
  refine ⟨q4, rfl, [x3, x4], SqL.of hm, by simp, fun i hi => ?_⟩
  have hi0 : 0 ≤ i := by
    rcases List.mem_cons.mp hi with rfl | hi
    · exact b3
    · rw [List.mem_singleton.mp hi]; exact b4
  walk_at "rd"
  rw [if_neg (show ¬ (i < 0) by omega)]
  have hq5 := s4.seq hq
  refine rIx_l hq5 (atI_zero rfl) (rIx_l hq5 (show atI _ ((1 : Nat) : Int) = _ from atI_nat rfl) (rIx_l hq5 (show atI _ ((2 : Nat) : Int) = _ from atI_nat rfl) (rIx_l hq5 (show atI _ ((3 : Nat) : Int) = _ from atI_nat rfl) ?_)))
  show ∀ x dx : Addr, _
  intro x dx hx hdx hne
  have s5 : Same H (upd (upd H2 dx (.own x)) x (.ins C dx [])) := (s4.upd hdx).upd (by rw [upd_ne (Ne.symm hne)]; exact hx)
  refine ⟨x, dx, row, x1, x2, x3, x4, rfl, upd_same, rfl, ?_⟩
  refine k x _ ?_ ⟨dx, upd_same⟩
  intro c o hc
  rw [upd_ne (ne_of_none (s4 _ _ hc) hx)]
  exact s5 _ _ hc
theorem ok_Times_size {f C : Addr} {fd : FuncData} {row : Str} {x1 x2 x3 x4 : Int} (F : Fun K "size" "Times.size" s_Times_size f fd) (TC : ClsTimes K C) : FnOk P w K mg base CX0 1 f fd ["self"] (spR0 (RITimes C row x1 x2 x3 x4) (.int (x4 + 1))) := by
  refine F.ok sc_Times_size (fun vs H Q E h => ?_) (fun cdv A outer s H vs Q E hr h => ?_)
  · obtain ⟨r, rfl, _⟩ := h
    rfl
  obtain ⟨r, rfl, ⟨dx, hr1⟩, k⟩ := h
  refine ⟨_, (pss_one (ps_ret (pe_op (opAddK K) (pe_fld (pv 0) rfl) pe_int))), ?_⟩
  walk_at "rd"
  have l5 : (fldsTimes row x1 x2 x3 x4).lookup (Str.ofString "most") = some (.int x4) := by unfold fldsTimes; walk_at "flds"
  refine ⟨C, dx, _, hr1, TC.cl, TC.n5, _, l5, ?_⟩
  walk_at "rd"
  exact k
theorem ok_Times_closes {f C : Addr} {fd : FuncData} {row : Str} {x1 x2 x3 x4 : Int} {nv : Nat} (F : Fun K "closes" "Times.closes" s_Times_closes f fd) (TC : ClsTimes K C) : FnOk P w K mg base CX0 1 f fd ["self", "memory", "last"] (spCloses K nv (RITimes C row x1 x2 x3 x4) (semTimes x1 x2 x3 x4) (memTm x4)) := by
  refine F.ok sc_Times_closes (fun vs H Q E h => ?_) (fun cdv A outer s H vs Q E hr h => ?_)
  · obtain ⟨r, m, x, bb, rfl, _⟩ := h
    rfl
  obtain ⟨r, m, x, bb, rfl, ⟨dx, hr1⟩, _, _, k⟩ := h
  refine ⟨_, (pss_one (ps_ret (pe_cmpR op_ge (pv 1) (pe_fld (pv 0) rfl) (nomark _)))), ?_⟩
  walk_at "rd"
  have l4 : (fldsTimes row x1 x2 x3 x4).lookup (Str.ofString "fewest") = some (.int x3) := by unfold fldsTimes; walk_at "flds"
  refine ⟨C, dx, _, hr1, TC.cl, TC.n4, _, l4, ?_⟩
  walk_at "rd"
  exact k
theorem ok_Times_after {f C : Addr} {fd : FuncData} {row : Str} {x1 x2 x3 x4 : Int} {nv : Nat} (F : Fun K "after" "Times.after" s_Times_after f fd) (T : Txt mg aM) (TC : ClsTimes K C) (ha : 1 ≤ x1 ∧ x1 ≤ nv) (D_note_in : Def P w K mg base "note_in" 2 ["column", "voice"] (spNoteIn K)) : FnOk P w K mg base CX0 3 f fd ["self", "memory", "before", "column"] (spAfter K nv (RITimes C row x1 x2 x3 x4) (semTimes x1 x2 x3 x4) (memTm x4)) := by
  refine F.ok sc_Times_after (fun vs H Q E h => ?_) (fun cdv A outer s H vs Q E hr h => ?_)
  · obtain ⟨r, m, x, c, bb, us, rfl, _⟩ := h
    rfl
  obtain ⟨r, m, x, c, bb, us, rfl, ⟨dx, hr1⟩, _, hbv, hc, hu, k⟩ := h
  refine ⟨_, (pss_cons (ps_if (pt_cmpR opNe (pe_def D_note_in hr (by rfl) (pa_cons (pv 3) (pa_cons (pe_fld (pv 0) rfl) pa_nil))) (pe_fld (pv 0) rfl) (nomark _)) (pss_one (ps_ret (pv 1))) pss_nil)
  (pss_one (ps_ret (pe_ifExp (pt_cmpR opLt (pv 1) (pe_fld (pv 0) rfl) (nomark _)) (pe_op (opAddK K) (pv 1) pe_int) pe_non)))), ?_⟩
  walk_at "rd"
  have l1 : (fldsTimes row x1 x2 x3 x4).lookup (Str.ofString "voice") = some (.int x1) := by unfold fldsTimes; walk_at "flds"
  have l2 : (fldsTimes row x1 x2 x3 x4).lookup (Str.ofString "note") = some (.int x2) := by unfold fldsTimes; walk_at "flds"
  have l5 : (fldsTimes row x1 x2 x3 x4).lookup (Str.ofString "most") = some (.int x4) := by unfold fldsTimes; walk_at "flds"
  refine ⟨C, dx, _, hr1, TC.cl, TC.n2, _, l1, c, x1, us, rfl, hc, ha.1, by rw [hu]; exact ha.2, C, dx, _, hr1, TC.cl, TC.n3, _, l2, ?_⟩
  walk_at "rd"
  simp only [semTimes] at k
  by_cases h : noteA us x1 = x2
  · rw [if_pos h]
    rw [if_pos h] at k
    refine ⟨C, dx, _, hr1, TC.cl, TC.n5, _, l5, _, rfl, ?_⟩
    by_cases h2 : m < x4
    · rw [if_pos h2]
      rw [if_pos h2] at k
      exact k
    · rw [if_neg h2]
      rw [if_neg h2] at k
      exact k
  · rw [if_neg h]
    rw [if_neg h] at k
    exact k
theorem times_obj {C : Addr} {row : Str} {x1 x2 x3 x4 : Int} {nv : Nat} (h0 : 0 ≤ x4) (TC : ClsTimes K C) (h1 : MethOk P w K mg base C "size" 7 ["self"] (spR0 (RITimes C row x1 x2 x3 x4) (.int (x4 + 1)))) (h2 : MethOk P w K mg base C "start" 7 ["self"] (spSay 1 fun _ => .int 0)) (h3 : MethOk P w K mg base C "closes" 7 ["self", "memory", "last"] (spCloses K nv (RITimes C row x1 x2 x3 x4) (semTimes x1 x2 x3 x4) (memTm x4)))
    (h4 : MethOk P w K mg base C "after" 7 ["self", "memory", "before", "column"] (spAfter K nv (RITimes C row x1 x2 x3 x4) (semTimes x1 x2 x3 x4) (memTm x4))) : RuleObj P w K mg base 7 nv C (semTimes x1 x2 x3 x4) (RITimes C row x1 x2 x3 x4) (memTm x4) := by
  refine ⟨fun r H H' s h => ?_, fun r H h => ?_, ⟨show (0 : Int) ≤ 0 by decide, show (0 : Int) ≤ x4 by omega⟩, fun m b us m' hm e => ?_, h1, h2.imp ?_, h4, h3⟩
  · obtain ⟨dx, e1⟩ := h
    exact ⟨dx, s _ _ e1⟩
  · obtain ⟨dx, e1⟩ := h
    refine ⟨dx, _, e1, ?_, ?_, ?_, ?_, ?_⟩ <;> (unfold fldsTimes; walk_at "flds")
  · simp only [semTimes] at e
    obtain ⟨m0, m1⟩ := hm
    split at e
    · split at e
      · cases e; exact ⟨by omega, by omega⟩
      · cases e
    · cases e; exact ⟨m0, m1⟩
  · rintro vs H Q E ⟨r, rfl, _, q⟩
    exact ⟨rfl, q⟩
theorem ok_Every_init {f C : Addr} {fd : FuncData} (F : Fun K "__init__" "Every.__init__" s_Every___init__ f fd) (T : Txt mg aM) (TC : ClsEvery K C) (DC_Rule___init__ : DefC P w K mg base "Rule" "__init__" 1 ["self", "row"] (spRuleInit K)) : FnOk P w K mg base CX0 2 f fd ["self", "row", "turns", "turn", "inner"] (spEveryInit K C) := by
  refine F.ok sc_Every___init__ (fun vs H Q E h => ?_) (fun cdv A outer s H vs Q E hr h => ?_)
  · obtain ⟨x, dx, ri, row, t, u, rfl, _⟩ := h
    rfl
  obtain ⟨x, dx, ri, row, t, u, rfl, hx, k⟩ := h
  refine ⟨_, (pss_cons (ps_expr (pe_cmeth DC_Rule___init__ hr (by rfl) (pa_cons (pv 0) (pa_cons (pv 1) pa_nil))))
  (pss_cons (ps_fld (pv 0) (pv 2) rfl)
  (pss_cons (ps_fld (pv 0) (pv 3) rfl)
  (pss_one (ps_fld (pv 0) (pv 4) rfl))))), ?_⟩
  walk_at "rd"
  have ln : ∀ (f : Str) (v : V) (l : List (Str × V)) (n : Nat), l.length ≤ n → (putF f v l).length ≤ n + 1 := fun f v l n h => Nat.le_trans (length_putF f v l) (Nat.succ_le_succ h)
  refine ⟨x, C, dx, [], row, rfl, hx, TC.cl, TC.n1, by decide, ?_⟩
  refine ⟨C, dx, _, upd_same, TC.cl, TC.n2, Nat.lt_of_le_of_lt (ln _ _ _ _ (Nat.zero_le 0)) (by decide), C, dx, _, upd_same, TC.cl, TC.n3, Nat.lt_of_le_of_lt (ln _ _ _ _ (ln _ _ _ _ (Nat.zero_le 0))) (by decide), C, dx, _, upd_same, TC.cl, TC.n4, Nat.lt_of_le_of_lt (ln _ _ _ _ (ln _ _ _ _ (ln _ _ _ _ (Nat.zero_le 0)))) (by decide), ?_⟩
  rw [upd_upd, upd_upd, upd_upd]
  exact k
theorem ok_Every_size {f C : Addr} {fd : FuncData} {row : Str} {t u : Int} {RIn : RIT} (F : Fun K "size" "Every.size" s_Every_size f fd) (TC : ClsEvery K C) : FnOk P w K mg base CX0 1 f fd ["self"] (spR0 (RIEvery C row t u RIn) (.int t)) := by
  refine F.ok sc_Every_size (fun vs H Q E h => ?_) (fun cdv A outer s H vs Q E hr h => ?_)
  · obtain ⟨r, rfl, _⟩ := h
    rfl
  obtain ⟨r, rfl, ⟨dx, ri, hr1, _⟩, k⟩ := h
  refine ⟨_, (pss_one (ps_ret (pe_fld (pv 0) rfl))), ?_⟩
  walk_at "rd"
  have l2 : (fldsEvery row t u ri).lookup (Str.ofString "turns") = some (.int t) := by unfold fldsEvery; walk_at "flds"
  exact ⟨C, dx, _, hr1, TC.cl, TC.n2, _, l2, k⟩
theorem ok_Every_after {f C Cn : Addr} {fd : FuncData} {row : Str} {t u : Int} {nv : Nat} {S : RSem} {RIn : RIT} {G : Int → Prop} (F : Fun K "after" "Every.after" s_Every_after f fd) (T : Txt mg aM) (TC : ClsEvery K C) (ht : 0 < t) (R : RuleObj P w K mg base 4 nv Cn S RIn G) : FnOk P w K mg base CX0 5 f fd ["self", "memory", "before", "column"] (spAfter K nv (RIEvery C row t u RIn) (semEvery t u S) (memEv t)) := by
  refine F.ok sc_Every_after (fun vs H Q E h => ?_) (fun cdv A outer s H vs Q E hr h => ?_)
  · obtain ⟨r, m, x, c, bb, us, rfl, _⟩ := h
    rfl
  obtain ⟨r, m, x, c, bb, us, rfl, ⟨dx, ri, hr1, hin⟩, _, hbv, hc, hu, k⟩ := h
  refine ⟨_, (pss_cons (ps_if (PW.pt (pw_and (pt_cmpR opEq (pv 1) (pe_fld (pv 0) rfl) (nomark _)) (pw_and1 (pt_cmpR op_isN (pe_methG P w K mg base hr (pe_fld (pv 0) rfl) (pa_cons (pe_methG0 P w K mg base hr (pe_fld (pv 0) rfl)) (pa_cons (pv 2) (pa_cons (pv 3) pa_nil)))) pe_non (nomark _))))) (pss_one (ps_ret pe_non)) pss_nil)
  (pss_one (ps_ret (pe_op op_mod (pe_op (opAddK K) (pv 1) pe_int) (pe_fld (pv 0) rfl))))), ?_⟩
  walk_at "rd"
  have l2 : (fldsEvery row t u ri).lookup (Str.ofString "turns") = some (.int t) := by unfold fldsEvery; walk_at "flds"
  have l3 : (fldsEvery row t u ri).lookup (Str.ofString "turn") = some (.int u) := by unfold fldsEvery; walk_at "flds"
  have l4 : (fldsEvery row t u ri).lookup (Str.ofString "inner") = some (.ref ri) := by unfold fldsEvery; walk_at "flds"
  refine ⟨C, dx, _, hr1, TC.cl, TC.n3, _, l3, ?_⟩
  walk_at "rd"
  obtain ⟨dx2, fs, hir, q1, q2, q3, q4, q5⟩ := R.ins ri H hin
  simp only [semEvery] at k
  by_cases hm : m = u
  · rw [if_pos hm]
    rw [if_pos hm] at k
    refine ⟨C, dx, _, hr1, TC.cl, TC.n4, _, l4, ri, rfl, Cn, dx2, fs, hir, q3, _, _, R.after, C, dx, _, hr1, TC.cl, TC.n4, _, l4, ri, rfl, Cn, dx2, fs, hir, q2, _, _, R.start, ri, rfl, hin, ri, _, x, c, bb, us, rfl, hin, R.g0, hbv, hc, hu, ?_⟩
    cases ha : S.after S.start bb us with
    | none =>
      rw [if_pos (show ofI none = V.non from rfl)]
      rw [ha, if_pos rfl] at k
      exact k
    | some m' =>
      rw [if_neg (show ¬ (ofI (some m') = V.non) from fun z => by cases z)]
      rw [ha, if_neg (fun z => by cases z)] at k
      exact ⟨C, dx, _, hr1, TC.cl, TC.n2, _, l2, _, rfl, ht, k⟩
  · rw [if_neg hm]
    rw [if_neg hm] at k
    exact ⟨C, dx, _, hr1, TC.cl, TC.n2, _, l2, _, rfl, ht, k⟩
theorem every_obj {C Cn : Addr} {row : Str} {t u : Int} {nv : Nat} {S : RSem} {RIn : RIT} {G : Int → Prop} (ht : 0 < t) (TC : ClsEvery K C) (R : RuleObj P w K mg base 4 nv Cn S RIn G) (h1 : MethOk P w K mg base C "size" 7 ["self"] (spR0 (RIEvery C row t u RIn) (.int t))) (h2 : MethOk P w K mg base C "start" 7 ["self"] (spSay 1 fun _ => .int 0)) (h3 : MethOk P w K mg base C "closes" 7 ["self", "memory", "last"] (spSay 3 fun _ => .bl true))
    (h4 : MethOk P w K mg base C "after" 7 ["self", "memory", "before", "column"] (spAfter K nv (RIEvery C row t u RIn) (semEvery t u S) (memEv t))) : RuleObj P w K mg base 7 nv C (semEvery t u S) (RIEvery C row t u RIn) (memEv t) := by
  refine ⟨fun r H H' s h => ?_, fun r H h => ?_, ⟨show (0 : Int) ≤ 0 by decide, show (0 : Int) < t by omega⟩, fun m b us m' hm e => ?_, h1, h2.imp ?_, h4, h3.imp ?_⟩
  · obtain ⟨dx, ri, e1, e2⟩ := h
    exact ⟨dx, ri, s _ _ e1, R.mono _ _ _ s e2⟩
  · obtain ⟨dx, ri, e1, e2⟩ := h
    refine ⟨dx, _, e1, ?_, ?_, ?_, ?_, ?_⟩ <;> (unfold fldsEvery; walk_at "flds")
  · simp only [semEvery] at e
    have hb : memEv t ((m + 1) % t) := ⟨Int.emod_nonneg _ (by omega), Int.emod_lt_of_pos _ ht⟩
    split at e
    · split at e
      · cases e
      · cases e; exact hb
    · cases e; exact hb
  · rintro vs H Q E ⟨r, rfl, _, q⟩
    exact ⟨rfl, q⟩
  · rintro vs H Q E ⟨r, m, x, b, rfl, _, _, _, q⟩
    exact ⟨rfl, q⟩
theorem every_shown {C : Addr} {row : Str} {t u : Int} {RIn : RIT} (TC : ClsEvery K C) (h : MethOk P w K mg base C "shown" 7 ["self"] (spShown K)) : MethOk P w K mg base C "shown" 7 ["self"] (spR0 (RIEvery C row t u RIn) (.str row)) := h.imp <| by
  rintro vs H Q E ⟨r, rfl, ⟨dx, ri, e1, e2⟩, q⟩
  exact ⟨r, C, dx, _, row, rfl, e1, TC.cl, TC.n1, by unfold fldsEvery; walk_at "flds", q⟩
theorem ok_every_rule {f C aI : Addr} {fd : FuncData} (F : Fun K "every_rule" "every_rule" s_every_rule f fd) (T : TxtE mg aM aI) (hI : KTup K aI [.str "span", .str "clock"]) (D_is_number : Def P w K mg base "is_number" 8 ["word"] spNum) (D_plain_rule : Def P w K mg base "plain_rule" 8 ["row", "voices"] (spPlain P w K mg base aM 7)) (DM_Every : DefM P w K mg base "Every" C 7 ["self", "row", "turns", "turn", "inner"] (spEveryInit K C)) : FnOk P w K mg base CX0 9 f fd ["row", "voices"] (spEvery P w K mg base aM C 7) := by
  refine F.ok sc_every_rule (fun vs H Q E h => ?_) (fun cdv A outer s H vs Q E hr h => ?_)
  · obtain ⟨row, rest, kind, t, u, ns, nv, D, g, sp, RIn, rfl, _⟩ := h
    rfl
  obtain ⟨row, rest, kind, t, u, ns, nv, D, g, sp, RIn, rfl, RE, R, hkd, u0, u1, tab, hg, fn, k, mono, kq⟩ := h
  refine ⟨_, (pss_cons (ps_set (i := 2) sc_every_rule.nd rfl (Or.inl rfl) (pe_bmK K PySem.F.plainAttrs_str PySem.F.slot_str_split PySem.F.type_str_split mt_split2 (pv 0) (pa_cons pe_str (pa_cons pe_int pa_nil))))
  (pss_cons (ps_if (PW.pt (pw_or (pt_cmpR opNe (pe_callB (call_lenK K) (by rfl) T.n_len boot_len (pa_cons (pv 2) pa_nil)) pe_int (nomark _)) (pw_or (pt_not (pt_truth (pe_def D_is_number hr (by rfl) (pa_cons (pe_ix (ixAK K) (pv 2) pe_int (fun _ _ => rfl)) pa_nil)) (fun _ => rfl))) (pw_or1 (pt_not (pt_truth (pe_def D_is_number hr (by rfl) (pa_cons (pe_ix (ixAK K) (pv 2) pe_int (fun _ _ => rfl)) pa_nil)) (fun _ => rfl))))))) (pss_one (ps_ret pe_non)) pss_nil)
  (pss_cons (ps_set (i := 3) sc_every_rule.nd rfl (Or.inl rfl) (pe_callTy (call_intA) (by rfl) T.n_int boot_int (pa_cons (pe_ix (ixAK K) (pv 2) pe_int (fun _ _ => rfl)) pa_nil)))
  (pss_cons (ps_set (i := 4) sc_every_rule.nd rfl (Or.inl rfl) (pe_callTy (call_intA) (by rfl) T.n_int boot_int (pa_cons (pe_ix (ixAK K) (pv 2) pe_int (fun _ _ => rfl)) pa_nil)))
  (pss_cons (ps_if (PW.pt (pw_or (pt_not (pt_chain op_le opLt pe_int (pv 4) (pv 3))) (pw_or1 (pt_cmpR (opNotInK K) (pe_ix (ixAK K) (pe_bmK K PySem.F.plainAttrs_str PySem.F.slot_str_split PySem.F.type_str_split mt_split (pe_ix (ixAK K) (pv 2) pe_int (fun _ _ => rfl)) (pa_cons pe_str pa_nil)) pe_int (fun _ _ => rfl)) (pe_g T.g_INNER_KINDS) (by with_unfolding_all rfl))))) (pss_one (ps_ret pe_non)) pss_nil)
  (pss_cons (ps_set (i := 5) sc_every_rule.nd rfl (Or.inl rfl) (pe_def D_plain_rule hr (by rfl) (pa_cons (pe_ix (ixAK K) (pv 2) pe_int (fun _ _ => rfl)) (pa_cons (pv 1) pa_nil))))
  (pss_one (ps_ret (pe_ifExp (pt_cmpR op_isN (pv 5) pe_non (nomark _)) pe_non (pe_mk DM_Every hr (by rfl) (pa_cons (pv 0) (pa_cons (pv 3) (pa_cons (pv 4) (pa_cons (pv 5) pa_nil)))))))))))))), ?_⟩
  have hs : sizeLine = 16777216 := sizeLine_eq
  have hl := RE.len
  refine cut2 (fun σ H' => ∃ p : Addr, H' p = some (.lst ([Str.ofString "every", numS t, numS u, rest].map V.str)) ∧ σ = [some (.str row), some (.int nv), some (.ref p), none, none, none] ∧ Same H H') ?_ ?_
  rotate_left
  · intro u' hu
    walk_at "rd"
    refine ⟨32, by decide +kernel, by decide, by decide, by decide, RE.pos, by omega, ?_, fun p hp => ?_⟩
    · rw [show Int.toNat 3 = 3 from rfl, RE.split]; show 4 ≤ _; omega
    · rw [show Int.toNat 3 = 3 from rfl, RE.split]
      exact hu _ _ ⟨p, upd_same, rfl, same_upd hp⟩
  rintro _ H0 ⟨p, hp0, rfl, s0⟩
  have a0 : SqL K H0 p ([Str.ofString "every", numS t, numS u, rest].map V.str) := SqL.of hp0
  have num : ∀ {n : Int} {H1 : Hp} {Q' : VK}, n.natAbs < 10 ^ 40 → (∀ H', Same H1 H' → Q' (.bl true) H') → spNum [.str (numS n)] H1 Q' E0 := fun {n H1 Q'} hn hq => by
    refine ⟨numS n, rfl, ?_, fun H' s' => ?_⟩
    · have := numS_len hn; omega
    · rw [show (numS n).cps.toList = numC n from rfl, isNum_num hn]
      exact hq H' s'
  refine cut2 (fun σ H' => σ = [some (.str row), some (.int nv), some (.ref p), none, none, none] ∧ Same H0 H') ?_ ?_
  rotate_left
  · intro u' hu
    walk_at "rd"
    refine ⟨_, .inl a0, ?_⟩
    walk_at "rd"
    rw [if_pos (show (((0 : Nat) + 1 + 1 + 1 + 1 : Nat) : Int) = 4 from rfl)]
    refine rIx_l a0 (show atI _ ((1 : Nat) : Int) = _ from atI_nat rfl) (num RE.tb fun H1 s1 => ?_)
    walk_at "rd"
    refine rIx_l (s1.seq a0) (show atI _ ((2 : Nat) : Int) = _ from atI_nat rfl) (num RE.ub fun H2 s2 => ?_)
    walk_at "rd"
    exact hu _ _ ⟨rfl, s1.trans s2⟩
  clear a0
  rintro _ H1 ⟨rfl, s01⟩
  have s1 := s0.trans s01
  have a1 : SqL K H1 p ([Str.ofString "every", numS t, numS u, rest].map V.str) := SqL.of (s01 _ _ hp0)
  have int' : ∀ {n : Int}, n.natAbs < 10 ^ 40 → intText? (numS n) = some n ∧ (numS n).length ≤ 640 := fun {n} hn => ⟨int_num (Nat.lt_of_lt_of_le hn (Nat.pow_le_pow_right (by decide) (by decide))), by have := numS_len hn; omega⟩
  refine cut2 (fun σ H' => σ = [some (.str row), some (.int nv), some (.ref p), some (.int t), none, none] ∧ H1 = H') ?_ ?_
  rotate_left
  · intro u' hu
    walk_at "rd"
    refine rIx_l a1 (show atI _ ((1 : Nat) : Int) = _ from atI_nat rfl) ?_
    walk_at "rd"
    exact ⟨t, (int' RE.tb).1, (int' RE.tb).2, hu _ _ ⟨rfl, rfl⟩⟩
  rintro _ _ ⟨rfl, rfl⟩
  refine cut2 (fun σ H' => σ = [some (.str row), some (.int nv), some (.ref p), some (.int t), some (.int u), none] ∧ H1 = H') ?_ ?_
  rotate_left
  · intro u' hu
    walk_at "rd"
    refine rIx_l a1 (show atI _ ((2 : Nat) : Int) = _ from atI_nat rfl) ?_
    walk_at "rd"
    exact ⟨u, (int' RE.ub).1, (int' RE.ub).2, hu _ _ ⟨rfl, rfl⟩⟩
  rintro _ _ ⟨rfl, rfl⟩
  have hrl := RE.rl
  refine cut2 (fun σ H' => σ = [some (.str row), some (.int nv), some (.ref p), some (.int t), some (.int u), none] ∧ Same H1 H') ?_ ?_
  rotate_left
  · intro u' hu
    walk_at "rd"
    rw [if_pos u0, if_pos u1]
    refine rIx_l a1 (show atI _ ((3 : Nat) : Int) = _ from atI_nat rfl) ?_
    walk_at "rd"
    refine ⟨32, by decide +kernel, by decide, by omega, fun p1 hp1 => ?_⟩
    rw [R.split]
    have s' : Same H1 (upd H1 p1 (.lst ((kind :: ns.map numS).map V.str))) := same_upd hp1
    refine rIx_l (SqL.of upd_same) (atI_zero rfl) (rNotIn_strs (ws := [Str.ofString "span", Str.ofString "clock"]) (hI.at _) ⟨_, rfl, ?_⟩)
    rw [decide_eq_true (show kind ∈ [Str.ofString "span", Str.ofString "clock"] by rcases hkd with rfl | rfl <;> simp), if_neg (by exact Bool.false_ne_true)]
    exact hu _ _ ⟨rfl, s'⟩
  rintro _ H2 ⟨rfl, s12⟩
  have s2 := s1.trans s12
  have a2 : SqL K H2 p ([Str.ofString "every", numS t, numS u, rest].map V.str) := s12.seq a1
  refine cut2 (fun σ H' => ∃ ri : Addr, RIn ri H' ∧ σ = [some (.str row), some (.int nv), some (.ref p), some (.int t), some (.int u), some (.ref ri)] ∧ Same H H') ?_ ?_
  rotate_left
  · intro u' hu
    walk_at "rd"
    refine rIx_l a2 (show atI _ ((3 : Nat) : Int) = _ from atI_nat rfl) ?_
    refine ⟨rest, kind, ns, nv, D, g, sp, fun v H'' => ∃ ri, v = .ref ri ∧ Same H H'' ∧ RIn ri H'', rfl, R, tab, hg, fn, fun q H' Q' sm hq hres => k q H' Q' (s2.trans sm) hq fun ri H'' s'' hri => hres _ _ ⟨ri, rfl, s'', hri⟩, ?_⟩
    rintro v H' ⟨ri, rfl, s', hri⟩
    exact hu _ _ ⟨ri, hri, rfl, s'⟩
  rintro _ H3 ⟨ri, hri, rfl, s3⟩
  walk_at "rd"
  show ∀ x dx : Addr, _
  intro x dx hx hdx hne
  have s5 : Same H (upd (upd H3 dx (.own x)) x (.ins C dx [])) := (s3.upd hdx).upd (by rw [upd_ne (Ne.symm hne)]; exact hx)
  have s35 : Same H3 (upd (upd (upd H3 dx (.own x)) x (.ins C dx [])) x (.ins C dx (fldsEvery row t u ri))) := fun c o hc => by
    have n1 : c ≠ x := ne_of_none hc hx
    rw [upd_ne n1, upd_ne n1, upd_ne (ne_of_none hc hdx)]
    exact hc
  refine ⟨x, dx, ri, row, t, u, rfl, upd_same, rfl, ?_⟩
  exact kq x _ (s3.trans s35) ⟨dx, ri, upd_same, mono _ _ _ s35 hri⟩
theorem ok_read_every {f C T0 : Addr} {fd : FuncData} (F : FunD K "read_rule" "read_rule" s_read_rule f fd T0) (T : Txt mg aM) (D_plain_rule : Def P w K mg base "plain_rule" 9 ["row", "voices"] (spPlain P w K mg base aM 7)) (D_every_rule : Def P w K mg base "every_rule" 9 ["row", "voices"] (spEvery P w K mg base aM C 7)) : FnOk P w K mg base CX0 10 f fd ["text", "voices", "row"] (spReadE P w K mg base aM C 7) := by
  refine F.ok sc_read_rule (fun vs H Q E h => ?_) (fun cdv A outer s H vs Q E hr h => ?_)
  · obtain ⟨row, nv, z, rfl, _⟩ := h
    rfl
  obtain ⟨row, nv, z, rfl, ⟨rest, t, u, RE⟩, k⟩ := h
  refine ⟨_, (pss_cons (ps_set (i := 3) sc_read_rule.nd rfl (Or.inl rfl) (pe_ifExp (pt_truth (pe_bmK K PySem.F.plainAttrs_str PySem.F.slot_str_startswith PySem.F.type_str_startswith mt_startswith (pv 0) (pa_cons pe_str pa_nil)) (fun _ => rfl)) (pe_def D_every_rule hr (by rfl) (pa_cons (pv 0) (pa_cons (pv 1) pa_nil))) (pe_def D_plain_rule hr (by rfl) (pa_cons (pv 0) (pa_cons (pv 1) pa_nil)))))
  (pss_cons (ps_if (pt_cmpR op_isN (pv 3) pe_non (nomark _)) (pss_one ps_never) pss_nil)
  (pss_one (ps_ret (pv 3))))), ?_⟩
  walk_at "rd"
  rw [RE.starts, if_pos rfl]
  obtain ⟨row', rest', kind, t', u', ns, nv', D, g, sp, RIn, e, k⟩ := k
  refine ⟨row', rest', kind, t', u', ns, nv', D, g, sp, RIn, e, ?_⟩
  obtain ⟨k1, k2, k3, k4, k5, k6, k7, k8, k9, k10, k11⟩ := k
  refine ⟨k1, k2, k3, k4, k5, k6, k7, k8, k9, k10, fun r H' s' hr => ?_⟩
  obtain ⟨hn, q⟩ := k11 r H' s' hr
  rw [if_neg hn]
  exact q
theorem ok_broken_at {f : Addr} {fd : FuncData} (F : Fun K "broken_at" "broken_at" s_broken_at f fd) (T : Txt mg aM) : FnOk P w K mg base CX0 8 f fd ["rule", "line"] (spBroken P w K mg base 7) := by
  refine F.ok sc_broken_at (fun vs H Q E h => ?_) (fun cdv A outer s H vs Q E hr h => ?_)
  · obtain ⟨r, l, nv, C, S, RI, G, cols, rfl, _⟩ := h
    rfl
  obtain ⟨r, l, nv, C, S, RI, G, cols, rfl, R, hri, hL, hcl, k⟩ := h
  refine ⟨_, (pss_cons (ps_set (i := 2) sc_broken_at.nd rfl (Or.inl rfl) (pe_methG0 P w K mg base hr (pv 0)))
  (pss_cons (ps_set (i := 3) sc_broken_at.nd rfl (Or.inl rfl) pe_non)
  (pss_cons (ps_for PassesOwn.never rfl (pi_enumB rfl T.n_enumerate (pa_cons (pv 1) pa_nil)) (pg_tupK K (n := 2) rfl (pgs_cons (pg_name (i := 4) sc_broken_at.nd rfl (Or.inl rfl)) (pgs_cons (pg_name (i := 5) sc_broken_at.nd rfl (Or.inl rfl)) pgs_nil)))
  (pss_cons (ps_set (i := 2) sc_broken_at.nd rfl (Or.inl rfl) (pe_methG P w K mg base hr (pv 0) (pa_cons (pv 2) (pa_cons (pv 3) (pa_cons (pv 5) pa_nil)))))
  (pss_cons (ps_if (pt_cmpR op_isN (pv 2) pe_non (nomark _)) (pss_one (ps_ret (pv 4))) pss_nil)
  (pss_one (ps_set (i := 3) sc_broken_at.nd rfl (Or.inl rfl) (pv 5))))))
  (pss_one (ps_ret (pe_ifExp (pt_truth (pe_methG P w K mg base hr (pv 0) (pa_cons (pv 2) (pa_cons (pv 3) pa_nil))) (fun _ => rfl)) pe_non (pe_callB (call_lenK K) (by rfl) T.n_len boot_len (pa_cons (pv 1) pa_nil)))))))), ?_⟩
  have hs : sizeLine = 16777216 := sizeLine_eq
  walk_at "rd"
  obtain ⟨dx, fs, hir, q1, q2, q3, q4, q5⟩ := R.ins r H hri
  refine ⟨C, dx, fs, hir, q2, _, _, R.start, r, rfl, hri, ?_⟩
  obtain ⟨ps, hps, hpl, hpc⟩ := hL
  refine ⟨true, ⟨_, hps⟩, loop_enumB (l := true) (us := ps.map V.ref) (fun i σ H' => ∃ (m : Int) (bx : V) (b : Option (List Int)) (o o' : Option V), σ = [some (.ref r), some (.ref l), some (.int m), some bx, o, o'] ∧ Same H H' ∧ G m ∧ BV K H' nv b bx ∧ brkGo S S.start none 0 cols = brkGo S m b i (cols.drop i))
    ⟨S.start, .non, none, none, none, rfl, Same.refl H, R.g0, .inl ⟨rfl, rfl⟩, rfl⟩ (fun i σ H' _ h => by obtain ⟨m, bx, b, o, o', _, sm, _⟩ := h; exact sm.seq hps) ?_ ?_⟩
  · rintro i y σ H1 p hx ⟨m, bx, b, o, o', rfl, sm, gm, hb, e⟩ hp0
    obtain ⟨c, hc0, rfl⟩ : ∃ c, ps[i]? = some c ∧ y = .ref c := by
      rw [List.getElem?_map] at hx
      cases hc : ps[i]? with
      | none => rw [hc] at hx; cases hx
      | some c => rw [hc] at hx; exact ⟨c, rfl, (Option.some.inj hx).symm⟩
    have hi : i < cols.length := by have := (List.getElem?_eq_some_iff.mp hc0).1; omega
    have hu : cols[i]? = some cols[i] := List.getElem?_eq_getElem hi
    obtain ⟨hct, hcl'⟩ := hpc i c _ hc0 hu
    have s2 : Same H (upd H1 p (.tup [.int i, .ref c])) := sm.upd hp0
    have hb2 : BV K (upd H1 p (.tup [.int i, .ref c])) nv b bx := hb.same (same_upd hp0)
    walk_at "rd"
    refine ⟨_, SqT.of upd_same, rfl, ?_⟩
    walk_at "rd"
    generalize upd H1 p (.tup [.int i, .ref c]) = H2 at s2 hb2
    have hri2 := R.mono r _ _ s2 hri
    obtain ⟨dx2, fs2, hir2, z1, z2, z3, z4, z5⟩ := R.ins r H2 hri2
    refine ⟨C, dx2, fs2, hir2, z3, _, _, R.after, r, m, bx, c, b, _, rfl, hri2, gm, hb2, s2.tup hct, hcl', ?_⟩
    have ed : cols.drop i = cols[i] :: cols.drop (i + 1) := (List.drop_eq_getElem_cons hi)
    rw [ed] at e
    simp only [brkGo] at e
    cases ha : S.after m b cols[i] with
    | none =>
      rw [ha] at e
      simp only at e
      show if ofI none = V.non then _ else _
      rw [if_pos (show ofI none = V.non from rfl)]
      have hk := k H2 s2
      unfold brk at hk
      rw [e] at hk
      exact hk
    | some m' =>
      rw [ha] at e
      simp only at e
      have hne : ¬ (ofI (some m') = V.non) := fun z => by cases z
      show if ofI (some m') = V.non then _ else _
      rw [if_neg hne]
      exact ⟨m', rfl, s2, R.gS _ _ _ _ gm ha, some cols[i], .inr ⟨c, _, rfl, rfl, s2.tup hct, hcl'⟩, e⟩
  · rintro σ H1 ⟨m, bx, b, o, o', rfl, sm, gm, hb, e⟩
    walk_at "rd"
    have hri2 := R.mono r _ _ sm hri
    obtain ⟨dx2, fs2, hir2, z1, z2, z3, z4, z5⟩ := R.ins r H1 hri2
    refine ⟨C, dx2, fs2, hir2, z4, _, _, R.closes, r, m, bx, b, rfl, hri2, gm, hb, ?_⟩
    walk_at "rd"
    have hk := k H1 sm
    unfold brk at hk
    rw [e, List.length_map, hpl, List.drop_of_length_le (Nat.le_refl _)] at hk
    simp only [brkGo] at hk
    by_cases hc : S.closes m b = true
    · rw [if_pos hc]
      rw [if_pos hc] at hk
      exact hk
    · rw [if_neg hc]
      rw [if_neg hc] at hk
      refine ⟨_, .inl (sm.seq hps), ?_⟩
      rw [List.length_map, hpl]
      exact hk
theorem ok_pick {f : Addr} {fd : FuncData} (F : Fun K "_law_pick" "_law_pick" s_law_pick f fd) (T : Txt mg aM) : FnOk P w K mg base CX0 1 f fd ["_law_script", "_law_at"] (spPick K) := by
  refine F.ok sc_law_pick (fun vs H Q E h => ?_) (fun cdv A outer s H vs Q E hr h => ?_)
  · obtain ⟨a, ns, p, rfl, _⟩ := h
    rfl
  obtain ⟨a, ns, p, rfl, hS, hp0, k⟩ := h
  refine ⟨_, (pss_cons (ps_for PassesOwn.never rfl (pi_anyK K (pe_slice (slAK K) (pv 0) (po_some (pv 1)) (po_some (pe_op (opAddK K) (pv 1) pe_int)))) (pg_name (i := 2) sc_law_pick.nd rfl (Or.inl rfl))
  (pss_one (ps_ret (pv 2))))
  (pss_one (ps_ret pe_int))), ?_⟩
  walk_at "rd"
  refine rSlA_l hS fun q hq => ?_
  show rIt _ _ _ _
  rw [cutV_one _ hp0, List.getElem?_map]
  cases hc : ns[p.toNat]? with
  | none =>
    refine rIt_lst (SqL.of upd_same) (loop_none (SqL.of upd_same) ?_)
    walk_at "rd"
    have e : pickF ns p = 0 := by unfold pickF; simp [List.getD, hc]
    rw [← e]
    exact k _ (same_upd hq)
  | some c =>
    have e : pickF ns p = c := by unfold pickF; simp [List.getD, hc]
    refine rIt_lst (SqL.of upd_same) (loop_list (xs := [.int c]) (fun i σ H' => i = 0 ∧ σ = [some (.ref a), some (.int p), none] ∧ H' = upd H q (.lst [.int c])) ⟨rfl, rfl, rfl⟩ (fun i σ H' _ h => by rw [h.2.2]; exact SqL.of upd_same) ?_ (fun σ H' h => by cases h.1))
    rintro i x σ H' hx ⟨rfl, rfl, rfl⟩
    cases hx
    walk_at "rd"
    rw [← e]
    exact k _ (same_upd hq)
theorem ok_stir {f : Addr} {fd : FuncData} (F : Fun K "_law_stir" "_law_stir" s_law_stir f fd) (T : Txt mg aM) : FnOk P w K mg base CX0 1 f fd ["_law_number", "_law_k"] spStir := by
  refine F.ok sc_law_stir (fun vs H Q E h => ?_) (fun cdv A outer s H vs Q E hr h => ?_)
  · obtain ⟨n, k, rfl, _⟩ := h
    rfl
  obtain ⟨n, k, rfl, k0, k1, q⟩ := h
  refine ⟨_, (pss_cons (ps_asg (pe_callB (call_divmod) (by rfl) T.n_divmod boot_divmod (pa_cons (pv 0) (pa_cons pe_int pa_nil))) (pg_tupK K (n := 2) rfl (pgs_cons (pg_name (i := 2) sc_law_stir.nd rfl (Or.inl rfl)) (pgs_cons (pg_name (i := 3) sc_law_stir.nd rfl (Or.inl rfl)) pgs_nil))))
  (pss_cons (ps_set (i := 4) sc_law_stir.nd rfl (Or.inl rfl) (pe_op op_mod (pe_op (opAddK K) (pe_op (opAddK K) (pe_op (opAddK K) (pe_op (opMulK K) (pv 3) pe_int) (pe_op (opMulK K) (pv 2) pe_int)) (pe_op (opMulK K) (pe_op (opAddK K) (pe_op (opMulK K) pe_int (pv 1)) pe_int) pe_int)) pe_int) pe_int))
  (pss_one (ps_ret (pe_op op_mod (pe_op (opAddK K) (pe_op (opAddK K) (pe_op op_fdiv (pe_op (opMulK K) (pv 4) (pv 4)) pe_int) (pe_op (opMulK K) (pv 4) pe_int)) (pe_op (opMulK K) (pe_op (opMulK K) (pv 1) (pv 1)) (pv 1))) pe_int))))), ?_⟩
  walk_at "rd"
  refine ⟨⟨by decide, by decide⟩, fun p hp => ⟨_, SqT.of upd_same, rfl, ?_⟩⟩
  walk_at "rd"
  have bk : ∀ z : Int, 0 ≤ z → z < 2 ^ 64 → Builtin.Int.intBits z ≤ 64 := fun z h1 h2 => intBits_le_iff.mpr (by omega)
  generalize hz : (n % 46337 * 52361 + n / 46337 * 30011 + (2 * k + 1) * 7919 + 97) % 1600000009 = z
  have z0 : 0 ≤ z := by rw [← hz]; exact Int.emod_nonneg _ (by decide)
  have z1 : z < 1600000009 := by rw [← hz]; exact Int.emod_lt_of_pos _ (by decide)
  have kk : 0 ≤ k * k ∧ k * k ≤ 1000000 := ⟨Int.mul_nonneg k0 k0, by have := Int.mul_le_mul k1 k1 k0 (by decide : (0 : Int) ≤ 1000); omega⟩
  refine ⟨.of_right (by decide), .of_right (by decide), .of_left (by decide), .of_right (by decide), by decide, ?_⟩
  refine ⟨.of_left (bk z z0 (by omega)), ⟨by decide, by decide⟩, .of_right (by decide), .of_left (bk k k0 (by omega)), .of_left (bk _ kk.1 (by omega)), by decide, ?_⟩
  exact q _ _ (Int.emod_nonneg _ (by decide)) (Int.emod_lt_of_pos _ (by decide)) (same_upd hp)
theorem ok_bases {f : Addr} {fd : FuncData} (F : Fun K "_law_bases" "_law_bases" s_law_bases f fd) (T : Txt mg aM) : FnOk P w K mg base CX0 1 f fd ["_law_cell", "_law_voices"] spBases := by
  refine F.ok sc_law_bases (fun vs H Q E h => ?_) (fun cdv A outer s H vs Q E hr h => ?_)
  · obtain ⟨c, v, rfl, _⟩ := h
    rfl
  obtain ⟨c, v, rfl, v1, v4, q⟩ := h
  refine ⟨_, (pss_cons (ps_set (i := 0) sc_law_bases.nd rfl (Or.inl rfl) (pe_op op_mod (pv 0) (pe_op (opMulK K) pe_int (pe_op op_pow pe_int pe_int))))
  (pss_cons (ps_set (i := 2) sc_law_bases.nd rfl (Or.inr rfl) (pe_op (opMulK K) (pe_op op_sub (pe_op op_mod (pv 0) pe_int) pe_int) (pe_op op_fdiv (pv 0) pe_int)))
  (pss_one (ps_ret (pe_comp (own := ["_law_v"]) (js := [2]) rfl (pi_range1 rfl T.n_range (pa_cons (pv 1) pa_nil)) (CompOk.of (by rfl)) (fun _ _ _ _ _ => (pg_name (i := 0) (show List.Nodup (["_law_v", "_law_far"] : List Str) from by decide +kernel) rfl (Or.inl rfl))) (fun _ _ _ _ _ => pts_nil) (fun _ _ _ _ _ => (pe_op (opAddK K) (pe_op op_sub pe_int (pe_op (opMulK K) pe_int (pv 0))) (pe_op (opMulK K) (pv 1) (pe_op op_sub pe_int (pv 0)))))))))), ?_⟩
  have hs : sizeLine = 16777216 := sizeLine_eq
  walk_at "rd"
  have bk : ∀ z : Int, z.natAbs < 2 ^ 64 → Builtin.Int.intBits z ≤ 64 := fun z h => intBits_le_iff.mpr h
  generalize hd : c % (3 * 10 ^ Int.toNat 30) = d
  have d0 : 0 ≤ d := by rw [← hd]; exact Int.emod_nonneg _ (by decide)
  have d1 : d < 3 * 10 ^ 30 := by rw [← hd]; exact Int.emod_lt_of_pos _ (by decide)
  generalize hf : (d % 3 - 1) * (d / 3) = far
  have fb : far.natAbs ≤ 10 ^ 30 := by
    have h3 : d % 3 = 0 ∨ d % 3 = 1 ∨ d % 3 = 2 := by omega
    rw [← hf]
    rcases h3 with e | e | e <;> rw [e] <;> omega
  refine ⟨⟨by decide, by decide, by decide⟩, .of_left (by decide), by decide, by decide, ⟨by decide, by decide⟩, .of_left (bk _ (by omega)), by omega, by omega, ?_⟩
  refine cloop_range (fun i ys H' => ∃ bs : List Int, ys = bs.map V.int ∧ bs.length = i ∧ (∀ b ∈ bs, b.natAbs ≤ 10 ^ 31) ∧ H = H') (by omega) ⟨[], rfl, rfl, fun _ h => (by cases h), rfl⟩ (fun i ys H' h => by obtain ⟨bs, rfl, h2, _⟩ := h; simp [h2]) ?_ ?_
  · rintro i ys H' hi ⟨bs, rfl, hl, hb, rfl⟩
    walk_at "rd"
    refine ⟨.of_left (by decide), .of_right (bk _ (by omega)), bs ++ [60 - 7 * (i : Int) + far * (1 - (i : Int))], by rw [List.map_append]; rfl, by simp [hl], fun b hm => ?_⟩
    rcases List.mem_append.mp hm with h | h
    · exact hb b h
    · rw [List.mem_singleton.mp h]
      have hi4 : (i : Int) = 0 ∨ (i : Int) = 1 ∨ (i : Int) = 2 ∨ (i : Int) = 3 := by omega
      rcases hi4 with e | e | e | e <;> rw [e] <;> omega
  · rintro ys H' ⟨bs, rfl, hl, hb, rfl⟩ p hp
    exact q p bs _ (by omega) hb upd_same hp (same_upd hp)
theorem ok_digits {f : Addr} {fd : FuncData} (F : Fun K "_law_digits" "_law_digits" s_law_digits f fd) (T : Txt mg aM) (D_law_stir : Def P w K mg base "_law_stir" 1 ["_law_number", "_law_k"] spStir) : FnOk P w K mg base CX0 2 f fd ["_law_cell", "_law_many"] spDigits := by
  refine F.ok sc_law_digits (fun vs H Q E h => ?_) (fun cdv A outer s H vs Q E hr h => ?_)
  · obtain ⟨c, m, rfl, _⟩ := h
    rfl
  obtain ⟨c, m, rfl, m0, m1, q⟩ := h
  refine ⟨_, (pss_cons (ps_set (i := 2) sc_law_digits.nd rfl (Or.inl rfl) (pe_op op_mod (pv 0) pe_int))
  (pss_cons (ps_set (i := 0) sc_law_digits.nd rfl (Or.inl rfl) (pe_op op_mod (pe_op op_fdiv (pv 0) pe_int) (pe_op (opMulK K) (pe_op op_pow pe_int pe_int) (pe_op op_pow pe_int pe_int))))
  (pss_cons (ps_set (i := 3) sc_law_digits.nd rfl (Or.inl rfl) (pe_op (opMulK K) (pv 0) (pe_op op_sub pe_int (pv 2))))
  (pss_cons (ps_set (i := 4) sc_law_digits.nd rfl (Or.inl rfl) (pe_lst pa_nil))
  (pss_cons (ps_for PassesOwn.never rfl (pi_range1 rfl T.n_range (pa_cons (pv 1) pa_nil)) (pg_name (i := 5) sc_law_digits.nd rfl (Or.inl rfl))
  (pss_one (ps_if (pt_cmpR op_gt (pv 3) pe_int (nomark _)) (pss_cons (ps_expr (pe_bmK K PySem.F.plainAttrs_list PySem.F.slot_list_append PySem.F.type_list_append mt_append (pv 4) (pa_cons (pe_op op_mod (pv 3) (pe_op op_pow pe_int pe_int)) pa_nil)))
  (pss_one (ps_set (i := 3) sc_law_digits.nd rfl (Or.inl rfl) (pe_op op_fdiv (pv 3) (pe_op op_pow pe_int pe_int))))) (pss_one (ps_expr (pe_bmK K PySem.F.plainAttrs_list PySem.F.slot_list_append PySem.F.type_list_append mt_append (pv 4) (pa_cons (pe_def D_law_stir hr (by rfl) (pa_cons (pe_op (opAddK K) (pe_def D_law_stir hr (by rfl) (pa_cons (pv 0) (pa_cons (pv 5) pa_nil))) (pv 0)) (pa_cons (pv 5) pa_nil))) pa_nil)))))))
  (pss_one (ps_ret (pv 4)))))))), ?_⟩
  have hs : sizeLine = 16777216 := sizeLine_eq
  walk_at "rd"
  have bk : ∀ z : Int, z.natAbs < 2 ^ 64 → Builtin.Int.intBits z ≤ 64 := fun z h => intBits_le_iff.mpr h
  generalize hd : c / 2 % (10 ^ Int.toNat 60 * 10 ^ Int.toNat 30) = d
  have d0 : 0 ≤ d := by rw [← hd]; exact Int.emod_nonneg _ (by decide)
  refine ⟨by decide, ⟨by decide, by decide⟩, ⟨by decide, by decide, by decide⟩, ⟨by decide, by decide, by decide⟩, IntMulOk.of_le (m := 300) (n := 200) (intBits_le_iff.mpr (by decide +kernel)) (intBits_le_iff.mpr (by decide +kernel)) (by decide), by decide, .of_right (bk _ (by omega)), by omega, fun p hp => ⟨by omega, by omega, ?_⟩⟩
  have r0 : 0 ≤ d * (1 - c % 2) := Int.mul_nonneg d0 (by omega)
  refine loop_range (fun i σ H' => ∃ (rest : Int) (zs : List Int) (o : Option V), σ = [some (.int d), some (.int m), some (.int (c % 2)), some (.int rest), some (.ref p), o] ∧ 0 ≤ rest ∧ zs.length = i ∧ (∀ z ∈ zs, 0 ≤ z ∧ z < 1900000043) ∧ H' p = some (.lst (zs.map V.int)) ∧ Same H H') ⟨_, [], none, rfl, r0, rfl, fun _ h => (by cases h), upd_same, same_upd hp⟩ ?_ ?_
  · rintro i σ H1 hi ⟨rest, zs, o, rfl, r1, hl, hz, h1, s1⟩
    have app : ∀ (z : Int) (H2 : Hp), 0 ≤ z → z < 1900000043 → H2 p = some (.lst (zs.map V.int)) → Same H H2 → (upd H2 p (.lst (zs.map V.int ++ [.int z]))) p = some (.lst ((zs ++ [z]).map V.int)) ∧ Same H (upd H2 p (.lst (zs.map V.int ++ [.int z]))) := fun z H2 _ _ h2 s2 => by
      refine ⟨by rw [upd_same, List.map_append]; rfl, fun b o hb => ?_⟩
      rw [upd_ne (ne_of_none hb hp)]
      exact s2 _ _ hb
    have mem : ∀ z : Int, 0 ≤ z → z < 1900000043 → ∀ y ∈ zs ++ [z], 0 ≤ y ∧ y < 1900000043 := fun z a b y hy => by
      rcases List.mem_append.mp hy with h | h
      · exact hz y h
      · rw [List.mem_singleton.mp h]; exact ⟨a, b⟩
    walk_at "rd"
    by_cases hr0 : 0 < rest
    · rw [if_pos hr0]
      have b0 : 0 ≤ rest % 10 ^ Int.toNat 6 := Int.emod_nonneg _ (by decide)
      have b1 : rest % 10 ^ Int.toNat 6 < 1000000 := Int.emod_lt_of_pos _ (by decide)
      obtain ⟨a1, a2⟩ := app _ H1 b0 (by omega) h1 s1
      refine ⟨.inl ⟨rfl, _, SqL.of h1⟩, ⟨by decide, by decide, by decide⟩, by decide, p, _, _, rfl, rfl, h1, by rw [List.length_map]; omega, ?_⟩
      walk_at "rd"
      exact ⟨⟨by decide, by decide, by decide⟩, ⟨by decide, by decide⟩, Int.ediv_nonneg r1 (by decide), zs ++ [_], by simp [hl], mem _ b0 (by omega), a1, a2⟩
    · rw [if_neg hr0]
      refine ⟨.inl ⟨rfl, _, SqL.of h1⟩, d, _, rfl, by omega, by omega, fun z1 H2 _ _ s2 => rAddA_ii.mpr ⟨_, _, rfl, by omega, by omega, fun z H3 z0 z2 s3 => ?_⟩⟩
      have h3 := s3 _ _ (s2 _ _ h1)
      obtain ⟨a1, a2⟩ := app z H3 z0 z2 h3 ((s1.trans s2).trans s3)
      refine ⟨p, _, _, rfl, rfl, h3, by rw [List.length_map]; omega, ?_⟩
      exact ⟨r1, zs ++ [z], by simp [hl], mem _ z0 z2, a1, a2⟩
  · rintro σ H1 ⟨rest, zs, o, rfl, r1, hl, hz, h1, s1⟩
    walk_at "rd"
    exact q p zs _ (by omega) hz h1 hp s1
end
structure BasesAt (K : PySem.W.Frag) (H : Hp) (b : Addr) (bs : List Int) (st : Int) : Prop where
  lst : SqL K H b (bs.map V.int)
  l1 : 1 ≤ bs.length
  l4 : bs.length ≤ 4
  bb : ∀ b ∈ bs, b.natAbs ≤ 10 ^ 31
  s0 : 1 ≤ st
  s1 : st ≤ 10 ^ 13
theorem BasesAt.same {K : PySem.W.Frag} {H H' : Hp} {b : Addr} {bs : List Int} {st : Int} (s : Same H H') (h : BasesAt K H b bs st) : BasesAt K H' b bs st := { h with lst := s.seq h.lst }
inductive RowK where
  | span (o t : Int) (D : List Int)
  | clock (o t h : Int) (D : List Int)
  | move (o : Int) (D : List Int)
  | alike (o t : Int) (D : List Int)
  | back (o far : Int)
  | held (o most : Int)
  | times (o nt lw hg : Int)
  | begin (o : Int) (D : List Int)
  | close (o : Int) (D : List Int)
def ntF (o : Int) (cols : List (List Int)) (i : Nat) : Int := noteA (cols.getD i []) (o + 1)
def mvF (o : Int) (cols : List (List Int)) (i : Nat) : Int := ntF o cols i - ntF o cols (i - 1)
def hitF (o nt : Int) (us : List Int) : Bool := decide (noteA us (o + 1) = nt)
def cntF (o nt : Int) (cols : List (List Int)) (i : Nat) : Nat := ((cols.take i).filter (hitF o nt)).length
def runF (o : Int) (cols : List (List Int)) : Nat → Nat
  | 0 => 0
  | i + 1 => if ntF o cols i = ntF o cols (i + 1) then runF o cols i + 1 else 0
def brK (cols : List (List Int)) (i : Nat) : RowK → Bool
  | .span o t D => !decide (ntF t cols i - ntF o cols i ∈ D)
  | .clock o t h D => !decide ((ntF t cols i - ntF o cols i) % h ∈ D)
  | .move o D => decide (i ≠ 0) && !decide (mvF o cols i ∈ D)
  | .alike o t D => decide (i ≠ 0) && (decide (mvF o cols i ≠ 0) && (decide (ntF t cols i - ntF o cols i = ntF t cols (i - 1) - ntF o cols (i - 1)) && decide (ntF t cols i - ntF o cols i ∈ D)))
  | .back o far => decide (2 ≤ i) && (decide (mvF o cols (i - 1) > far ∧ mvF o cols i ≥ 0) || decide (mvF o cols (i - 1) < 0 - far ∧ mvF o cols i ≤ 0))
  | .held o most => decide (most ≤ (runF o cols i : Int))
  | .times o nt _ hg => decide (ntF o cols i = nt) && decide ((cntF o nt cols i : Int) ≥ hg)
  | .begin o D => decide (i = 0) && !decide (ntF o cols i ∈ D)
  | .close _ _ => false
def opK (cols : List (List Int)) (i : Nat) : RowK → Bool
  | .times o nt lw _ => decide ((cntF o nt cols i : Int) < lw)
  | .close o D => decide (i ≠ 0) && !decide (ntF o cols (i - 1) ∈ D)
  | .back o far => decide (2 ≤ i) && (decide (mvF o cols (i - 1) > far) || decide (mvF o cols (i - 1) < 0 - far))
  | _ => false
def semK : RowK → RSem
  | .span o t D => semSpan (o + 1) (t + 1) D
  | .clock o t h D => semClock (o + 1) (t + 1) h D
  | .move o D => semMove (o + 1) D
  | .alike o t D => semAlike (o + 1) (t + 1) D
  | .back o far => semBack (o + 1) far
  | .held o most => semHeld (o + 1) most
  | .times o nt lw hg => semTimes (o + 1) nt lw hg
  | .begin o D => semBegin (o + 1) D
  | .close o D => semClose (o + 1) D
def memG : RowK → Int → Prop
  | .back _ _ => memBk
  | .held _ most => memHd most
  | .times _ _ _ hg => memTm hg
  | _ => fun _ => True
def lpF (o far : Int) (cols : List (List Int)) (i : Nat) : Int := if i = 0 then 0 else if mvF o cols i > far then 1 else if mvF o cols i < 0 - far then 2 else 0
def memK (cols : List (List Int)) (i : Nat) : RowK → Int
  | .back o far => (match i with | 0 => 0 | i + 1 => lpF o far cols i)
  | .held o _ => (match i with | 0 => 0 | i + 1 => (runF o cols i : Int))
  | .times o nt _ _ => (cntF o nt cols i : Int)
  | _ => 0
def goodK (nv : Nat) : RowK → Prop
  | .span o t _ => 0 ≤ o ∧ o < nv ∧ 0 ≤ t ∧ t < nv
  | .clock o t h _ => 0 ≤ o ∧ o < nv ∧ 0 ≤ t ∧ t < nv ∧ 1 ≤ h
  | .move o _ => 0 ≤ o ∧ o < nv
  | .alike o t _ => 0 ≤ o ∧ o < nv ∧ 0 ≤ t ∧ t < nv
  | .back o far => 0 ≤ o ∧ o < nv ∧ 0 ≤ far
  | .held o most => 0 ≤ o ∧ o < nv ∧ 1 ≤ most
  | .times o _ _ hg => 0 ≤ o ∧ o < nv ∧ 0 ≤ hg
  | .begin o _ => 0 ≤ o ∧ o < nv
  | .close o _ => 0 ≤ o ∧ o < nv
theorem nt_at {o : Int} {cols : List (List Int)} {i : Nat} {us : List Int} (h : cols[i]? = some us) : ntF o cols i = noteA us (o + 1) := by
  unfold ntF
  rw [List.getD_eq_getElem?_getD, h]
  rfl
theorem cnt_succ (o nt : Int) (cols : List (List Int)) (i : Nat) (us : List Int) (h : cols[i]? = some us) : cntF o nt cols (i + 1) = cntF o nt cols i + if hitF o nt us = true then 1 else 0 := by
  unfold cntF
  rw [List.take_add_one, h, List.filter_append, List.length_append]
  congr 1
  by_cases hh : hitF o nt us = true
  · simp [hh]
  · simp [hh]
theorem walksK (nv : Nat) (cols : List (List Int)) (R : RowK) (hg : goodK nv R) : Walks (semK R) cols (fun i => memK cols i R) (fun i => brK cols i R) := by
  have prev : ∀ {i : Nat} {us : List Int}, cols[i + 1]? = some us → ∃ bs, cols[i]? = some bs ∧ prevC cols (i + 1) = some bs := fun {i us} hu => by
    have hi : i + 1 < cols.length := (List.getElem?_eq_some_iff.mp hu).1
    exact ⟨cols[i], List.getElem?_eq_getElem (by omega), List.getElem?_eq_getElem (by omega)⟩
  cases R with
  | span o t D =>
    refine ⟨rfl, fun i us hu => ?_⟩
    simp only [semK, semSpan, memK, brK, nt_at hu]
    by_cases h : noteA us (t + 1) - noteA us (o + 1) ∈ D
    · rw [if_pos h, decide_eq_true h]; rfl
    · rw [if_neg h, decide_eq_false h]; rfl
  | clock o t h D =>
    refine ⟨rfl, fun i us hu => ?_⟩
    simp only [semK, semClock, memK, brK, nt_at hu]
    by_cases h : (noteA us (t + 1) - noteA us (o + 1)) % h ∈ D
    · rw [if_pos h, decide_eq_true h]; rfl
    · rw [if_neg h, decide_eq_false h]; rfl
  | move o D =>
    refine ⟨rfl, fun i us hu => ?_⟩
    cases i with
    | zero => rfl
    | succ i =>
      obtain ⟨bs, hb, hp⟩ := prev hu
      simp only [semK, semMove, memK, brK, mvF, nt_at hu, Nat.add_sub_cancel, nt_at hb, hp]
      by_cases h : noteA us (o + 1) - noteA bs (o + 1) ∈ D
      · rw [if_pos h, decide_eq_true h]; simp
      · rw [if_neg h, decide_eq_false h]; simp
  | alike o t D =>
    refine ⟨rfl, fun i us hu => ?_⟩
    cases i with
    | zero => rfl
    | succ i =>
      obtain ⟨bs, hb, hp⟩ := prev hu
      simp only [semK, semAlike, memK, brK, mvF, nt_at hu, Nat.add_sub_cancel, nt_at hb, hp]
      by_cases h0 : noteA us (o + 1) - noteA bs (o + 1) = 0
      · simp [h0]
      by_cases h1 : noteA us (t + 1) - noteA us (o + 1) = noteA bs (t + 1) - noteA bs (o + 1)
      · by_cases h2 : noteA us (t + 1) - noteA us (o + 1) ∈ D
        · simp [h0, h1, h2]
        · simp [h0, h1, h2]
      · simp [h0, h1]
  | back o far =>
    obtain ⟨_, _, hf⟩ := hg
    refine ⟨rfl, fun i us hu => ?_⟩
    cases i with
    | zero => rfl
    | succ i =>
      obtain ⟨bs, hb, hp⟩ := prev hu
      show (semBack (o + 1) far).after (lpF o far cols i) (prevC cols (i + 1)) us = if brK cols (i + 1) (.back o far) = true then none else some (lpF o far cols (i + 1))
      rw [hp]
      have em : noteA us (o + 1) - noteA bs (o + 1) = mvF o cols (i + 1) := by unfold mvF; rw [nt_at hu, Nat.add_sub_cancel, nt_at hb]
      have eb : brK cols (i + 1) (.back o far) = (decide (2 ≤ i + 1) && (decide (mvF o cols i > far ∧ mvF o cols (i + 1) ≥ 0) || decide (mvF o cols i < 0 - far ∧ mvF o cols (i + 1) ≤ 0))) := rfl
      have el : (if mvF o cols (i + 1) > far then some (1 : Int) else if mvF o cols (i + 1) < 0 - far then some 2 else some 0) = some (lpF o far cols (i + 1)) := by
        have ez : lpF o far cols (i + 1) = if mvF o cols (i + 1) > far then 1 else if mvF o cols (i + 1) < 0 - far then 2 else 0 := by
          unfold lpF
          rw [if_neg (show ¬ (i + 1 = 0) by omega)]
        rw [ez]
        by_cases h1 : mvF o cols (i + 1) > far
        · rw [if_pos h1, if_pos h1]
        · rw [if_neg h1, if_neg h1]
          by_cases h2 : mvF o cols (i + 1) < 0 - far
          · rw [if_pos h2, if_pos h2]
          · rw [if_neg h2, if_neg h2]
      simp only [semBack]
      rw [em, el, eb]
      clear el eb em
      generalize lpF o far cols (i + 1) = y
      by_cases hi : i = 0
      · subst hi
        have e0 : lpF o far cols 0 = 0 := rfl
        rw [e0]
        simp
      have e1 : lpF o far cols i = if mvF o cols i > far then 1 else if mvF o cols i < 0 - far then 2 else 0 := by
        unfold lpF
        rw [if_neg hi]
      rw [e1, decide_eq_true (show 2 ≤ i + 1 by omega), Bool.true_and]
      simp only [Int.zero_sub]
      generalize mvF o cols i = a
      generalize mvF o cols (i + 1) = c
      by_cases h1 : a > far
      · have h2 : ¬ (a < -far) := by omega
        by_cases h3 : 0 ≤ c
        · simp [h1, h3]
        · simp [h1, h2, h3]
      · by_cases h2 : a < -far
        · by_cases h3 : c ≤ 0
          · simp [h1, h2, h3]
          · simp [h1, h2, h3]
        · simp [h1, h2]
  | held o most =>
    obtain ⟨_, _, h1⟩ := hg
    refine ⟨rfl, fun i us hu => ?_⟩
    cases i with
    | zero =>
      have : brK cols 0 (.held o most) = false := decide_eq_false (by show ¬ (most ≤ (0 : Int)); omega)
      rw [this]
      rfl
    | succ i =>
      obtain ⟨bs, hb, hp⟩ := prev hu
      show (semHeld (o + 1) most).after (runF o cols i : Int) (prevC cols (i + 1)) us = if brK cols (i + 1) (.held o most) = true then none else some (runF o cols (i + 1) : Int)
      rw [hp]
      have er : runF o cols (i + 1) = if noteA bs (o + 1) = noteA us (o + 1) then runF o cols i + 1 else 0 := by rw [← nt_at hb, ← nt_at hu]; rfl
      simp only [semHeld]
      by_cases h : noteA bs (o + 1) = noteA us (o + 1)
      · rw [if_pos h] at er
        rw [if_pos h, er]
        by_cases h2 : (runF o cols i : Int) + 1 < most
        · have eb : brK cols (i + 1) (.held o most) = false := by show decide (most ≤ ((runF o cols (i + 1) : Nat) : Int)) = _; rw [er]; exact decide_eq_false (by omega)
          rw [if_pos h2, eb]
          rfl
        · have eb : brK cols (i + 1) (.held o most) = true := by show decide (most ≤ ((runF o cols (i + 1) : Nat) : Int)) = _; rw [er]; exact decide_eq_true (by omega)
          rw [if_neg h2, eb]
          rfl
      · rw [if_neg h] at er
        have eb : brK cols (i + 1) (.held o most) = false := by show decide (most ≤ ((runF o cols (i + 1) : Nat) : Int)) = _; rw [er]; exact decide_eq_false (by omega)
        rw [if_neg h, er, eb]
        rfl
  | times o nt lw hgh =>
    refine ⟨rfl, fun i us hu => ?_⟩
    have hc := cnt_succ o nt cols i us hu
    simp only [semK, semTimes, memK, brK, nt_at hu]
    by_cases h : noteA us (o + 1) = nt
    · have hh : hitF o nt us = true := decide_eq_true h
      rw [if_pos hh] at hc
      rw [if_pos h, hc, decide_eq_true h]
      by_cases h2 : (cntF o nt cols i : Int) < hgh
      · rw [if_pos h2, decide_eq_false (by omega)]
        rfl
      · rw [if_neg h2, decide_eq_true (by omega)]
        rfl
    · have hh : hitF o nt us = false := decide_eq_false h
      rw [if_neg (by rw [hh]; exact Bool.false_ne_true)] at hc
      rw [if_neg h, hc, decide_eq_false h]
      rfl
  | begin o D =>
    refine ⟨rfl, fun i us hu => ?_⟩
    cases i with
    | zero =>
      simp only [semK, semBegin, memK, brK, nt_at hu, prevC]
      by_cases h : noteA us (o + 1) ∈ D
      · rw [if_pos h, decide_eq_true h]; rfl
      · rw [if_neg h, decide_eq_false h]; rfl
    | succ i =>
      obtain ⟨bs, hb, hp⟩ := prev hu
      simp only [semK, semBegin, memK, brK, hp]
      simp
  | close o D =>
    exact ⟨rfl, fun i us hu => rfl⟩
theorem closesK (nv : Nat) (cols : List (List Int)) (R : RowK) (hg : goodK nv R) (i : Nat) (hi : i ≤ cols.length) : (semK R).closes (memK cols i R) (prevC cols i) = !opK cols i R := by
  cases R with
  | span o t D => rfl
  | clock o t h D => rfl
  | move o D => rfl
  | alike o t D => rfl
  | held o most => rfl
  | begin o D => rfl
  | times o nt lw hgh =>
    show decide ((cntF o nt cols i : Int) ≥ lw) = !decide ((cntF o nt cols i : Int) < lw)
    by_cases h : (cntF o nt cols i : Int) < lw
    · rw [decide_eq_true h, decide_eq_false (by omega)]; rfl
    · rw [decide_eq_false h, decide_eq_true (by omega)]; rfl
  | close o D =>
    cases i with
    | zero => rfl
    | succ i =>
      have hb : cols[i]? = some cols[i] := List.getElem?_eq_getElem (by omega)
      show (semClose (o + 1) D).closes 0 cols[i]? = !(decide (i + 1 ≠ 0) && !decide (ntF o cols i ∈ D))
      rw [hb, nt_at hb]
      simp [semClose]
  | back o far =>
    obtain ⟨_, _, hf⟩ := hg
    cases i with
    | zero => rfl
    | succ i =>
      show decide (lpF o far cols i = 0) = !(decide (2 ≤ i + 1) && (decide (mvF o cols i > far) || decide (mvF o cols i < 0 - far)))
      by_cases h0 : i = 0
      · subst h0; rfl
      have e1 : lpF o far cols i = if mvF o cols i > far then 1 else if mvF o cols i < 0 - far then 2 else 0 := by
        unfold lpF
        rw [if_neg h0]
      rw [e1, decide_eq_true (show 2 ≤ i + 1 by omega), Bool.true_and]
      simp only [Int.zero_sub]
      generalize mvF o cols i = a
      by_cases h1 : a > far
      · simp [h1]
      · by_cases h2 : a < -far
        · simp [h1, h2]
        · simp [h1, h2]
theorem boundsK (nv : Nat) (cols : List (List Int)) (R : RowK) (i : Nat) (h : memG R (memK cols i R)) : 0 ≤ memK cols i R ∧ memK cols i R < (semK R).size := by
  cases R with
  | span o t D => exact ⟨by show (0 : Int) ≤ 0; decide, by show (0 : Int) < 1; decide⟩
  | clock o t h D => exact ⟨by show (0 : Int) ≤ 0; decide, by show (0 : Int) < 1; decide⟩
  | move o D => exact ⟨by show (0 : Int) ≤ 0; decide, by show (0 : Int) < 1; decide⟩
  | alike o t D => exact ⟨by show (0 : Int) ≤ 0; decide, by show (0 : Int) < 1; decide⟩
  | begin o D => exact ⟨by show (0 : Int) ≤ 0; decide, by show (0 : Int) < 1; decide⟩
  | close o D => exact ⟨by show (0 : Int) ≤ 0; decide, by show (0 : Int) < 1; decide⟩
  | back o far => obtain ⟨h1, h2⟩ := h; exact ⟨h1, by show _ < (3 : Int); omega⟩
  | held o most => exact h
  | times o nt lw hgh => obtain ⟨h1, h2⟩ := h; exact ⟨h1, by show _ < hgh + 1; omega⟩
def rowV : RowK → List V
  | .span o t D => .str "span" :: ((o + 1) :: (t + 1) :: D).map V.int
  | .clock o t h D => .str "clock" :: ((o + 1) :: (t + 1) :: h :: D).map V.int
  | .move o D => .str "move" :: ((o + 1) :: D).map V.int
  | .alike o t D => .str "alike" :: ((o + 1) :: (t + 1) :: D).map V.int
  | .back o far => .str "back" :: [o + 1, far].map V.int
  | .held o most => .str "held" :: [o + 1, most].map V.int
  | .times o nt lw hg => .str "times" :: [o + 1, nt, lw, hg].map V.int
  | .begin o D => .str "begin" :: ((o + 1) :: D).map V.int
  | .close o D => .str "close" :: ((o + 1) :: D).map V.int
def kd0 : RowK → Str
  | .span _ _ _ => "span"
  | .clock _ _ _ _ => "clock"
  | .move _ _ => "move"
  | .alike _ _ _ => "alike"
  | .back _ _ => "back"
  | .held _ _ => "held"
  | .times _ _ _ _ => "times"
  | .begin _ _ => "begin"
  | .close _ _ => "close"
def vo0 : RowK → Int
  | .span o _ _ => o
  | .clock o _ _ _ => o
  | .move o _ => o
  | .alike o _ _ => o
  | .back o _ => o
  | .held o _ => o
  | .times o _ _ _ => o
  | .begin o _ => o
  | .close o _ => o
theorem rowV_0 (R : RowK) : (rowV R)[0]? = some (.str (kd0 R)) := by cases R <;> rfl
theorem rowV_1 (R : RowK) : (rowV R)[1]? = some (.int (vo0 R + 1)) := by cases R <;> rfl
theorem good_vo {nv : Nat} {R : RowK} (h : goodK nv R) : 0 ≤ vo0 R ∧ vo0 R < nv := by
  cases R with
  | span _ _ _ => exact ⟨h.1, h.2.1⟩
  | clock _ _ _ _ => exact ⟨h.1, h.2.1⟩
  | move _ _ => exact ⟨h.1, h.2⟩
  | alike _ _ _ => exact ⟨h.1, h.2.1⟩
  | back _ _ => exact ⟨h.1, h.2.1⟩
  | held _ _ => exact ⟨h.1, h.2.1⟩
  | times _ _ _ _ => exact ⟨h.1, h.2.1⟩
  | begin _ _ => exact ⟨h.1, h.2⟩
  | close _ _ => exact ⟨h.1, h.2⟩
theorem kd_every (R : RowK) : ¬ (kd0 R = Str.ofString "every") := by
  cases R with
  | span _ _ _ => exact show ¬ (Str.ofString "span" = Str.ofString "every") by decide +kernel
  | clock _ _ _ _ => exact show ¬ (Str.ofString "clock" = Str.ofString "every") by decide +kernel
  | move _ _ => exact show ¬ (Str.ofString "move" = Str.ofString "every") by decide +kernel
  | alike _ _ _ => exact show ¬ (Str.ofString "alike" = Str.ofString "every") by decide +kernel
  | back _ _ => exact show ¬ (Str.ofString "back" = Str.ofString "every") by decide +kernel
  | held _ _ => exact show ¬ (Str.ofString "held" = Str.ofString "every") by decide +kernel
  | times _ _ _ _ => exact show ¬ (Str.ofString "times" = Str.ofString "every") by decide +kernel
  | begin _ _ => exact show ¬ (Str.ofString "begin" = Str.ofString "every") by decide +kernel
  | close _ _ => exact show ¬ (Str.ofString "close" = Str.ofString "every") by decide +kernel
def stepK : RowK → Prop
  | .move _ _ => True
  | .alike _ _ _ => True
  | .back _ _ => True
  | .close _ _ => True
  | _ => False
def spStepB (K : PySem.W.Frag) : Sp := fun vs H Q _ => ∃ (w l : Addr) (i nv : Nat) (cols : List (List Int)) (R : RowK), vs = [.ref w, .ref l, .int i] ∧ SqL K H w (rowV R) ∧ stepK R ∧ goodK nv R ∧ LineAt K H l nv cols ∧ 1 ≤ i ∧ i < cols.length ∧ ∀ H', Same H H' → Q (.bl (brK cols i R)) H'
section
variable {P : Program} {w : World} {K : PySem.W.Frag} {mg : Str → Option Value} {base : Heap} {aM : Addr}
theorem ok_step_breaks {f : Addr} {fd : FuncData} (F : Fun K "_law_step_breaks" "_law_step_breaks" s_law_step_breaks f fd) (T : Txt mg aM) : FnOk P w K mg base CX0 1 f fd ["_law_row", "_law_line", "_law_at"] (spStepB K) := by
  refine F.ok sc_law_step_breaks (fun vs H Q E h => ?_) (fun cdv A outer s H vs Q E hr h => ?_)
  · obtain ⟨w, l, i, nv, cols, R, rfl, _⟩ := h
    rfl
  obtain ⟨w, l, i, nv, cols, R, rfl, hw, hk, hg, ⟨ps, hps, hpl, hpc⟩, i1, i2, q⟩ := h
  refine ⟨_, (pss_cons (ps_set (i := 3) sc_law_step_breaks.nd rfl (Or.inl rfl) (pe_op op_sub (pe_ix (ixAK K) (pv 0) pe_int (fun _ _ => rfl)) pe_int))
  (pss_cons (ps_set (i := 4) sc_law_step_breaks.nd rfl (Or.inl rfl) (pe_op op_sub (pe_ix (ixAK K) (pe_ix (ixAK K) (pv 1) (pv 2) (fun _ _ => rfl)) (pv 3) (fun _ _ => rfl)) (pe_ix (ixAK K) (pe_ix (ixAK K) (pv 1) (pe_op op_sub (pv 2) pe_int) (fun _ _ => rfl)) (pv 3) (fun _ _ => rfl))))
  (pss_cons (ps_if (pt_cmpR opEq (pe_ix (ixAK K) (pv 0) pe_int (fun _ _ => rfl)) pe_str (nomark _)) (pss_one (ps_ret (pe_cmpR (opNotInK K) (pv 4) (pe_slice (slAK K) (pv 0) (po_some pe_int) po_none) (by with_unfolding_all rfl)))) pss_nil)
  (pss_cons (ps_if (pt_cmpR opEq (pe_ix (ixAK K) (pv 0) pe_int (fun _ _ => rfl)) pe_str (nomark _)) (pss_cons (ps_set (i := 5) sc_law_step_breaks.nd rfl (Or.inl rfl) (pe_op op_sub (pe_ix (ixAK K) (pe_ix (ixAK K) (pv 1) (pv 2) (fun _ _ => rfl)) (pe_op op_sub (pe_ix (ixAK K) (pv 0) pe_int (fun _ _ => rfl)) pe_int) (fun _ _ => rfl)) (pe_ix (ixAK K) (pe_ix (ixAK K) (pv 1) (pv 2) (fun _ _ => rfl)) (pv 3) (fun _ _ => rfl))))
  (pss_cons (ps_set (i := 6) sc_law_step_breaks.nd rfl (Or.inl rfl) (pe_op op_sub (pe_ix (ixAK K) (pe_ix (ixAK K) (pv 1) (pe_op op_sub (pv 2) pe_int) (fun _ _ => rfl)) (pe_op op_sub (pe_ix (ixAK K) (pv 0) pe_int (fun _ _ => rfl)) pe_int) (fun _ _ => rfl)) (pe_ix (ixAK K) (pe_ix (ixAK K) (pv 1) (pe_op op_sub (pv 2) pe_int) (fun _ _ => rfl)) (pv 3) (fun _ _ => rfl))))
  (pss_one (ps_ret (pe_and (pe_cmpR opNe (pv 4) pe_int (nomark _)) (pe_and (pe_cmpR opEq (pv 5) (pv 6) (nomark _)) (pe_one (pe_cmpR (opInK K) (pv 5) (pe_slice (slAK K) (pv 0) (po_some pe_int) po_none) (by with_unfolding_all rfl))))))))) pss_nil)
  (pss_cons (ps_if (PW.pt (pw_or (pt_cmpR opNe (pe_ix (ixAK K) (pv 0) pe_int (fun _ _ => rfl)) pe_str (nomark _)) (pw_or1 (pt_cmpR opEq (pv 2) pe_int (nomark _))))) (pss_one (ps_ret pe_bl)) pss_nil)
  (pss_cons (ps_set (i := 6) sc_law_step_breaks.nd rfl (Or.inl rfl) (pe_op op_sub (pe_ix (ixAK K) (pe_ix (ixAK K) (pv 1) (pe_op op_sub (pv 2) pe_int) (fun _ _ => rfl)) (pv 3) (fun _ _ => rfl)) (pe_ix (ixAK K) (pe_ix (ixAK K) (pv 1) (pe_op op_sub (pv 2) pe_int) (fun _ _ => rfl)) (pv 3) (fun _ _ => rfl))))
  (pss_one (ps_ret (pe_or (pe_and (pe_cmpR op_gt (pv 6) (pe_ix (ixAK K) (pv 0) pe_int (fun _ _ => rfl)) (nomark _)) (pe_one (pe_cmpR op_ge (pv 4) pe_int (nomark _)))) (pe_one (pe_and (pe_cmpR opLt (pv 6) (pe_op op_sub pe_int (pe_ix (ixAK K) (pv 0) pe_int (fun _ _ => rfl))) (nomark _)) (pe_one (pe_cmpR op_le (pv 4) pe_int (nomark _)))))))))))))), ?_⟩
  have la : ∀ {o p : Int} {Q' : VK}, 0 ≤ o → o < nv → 0 ≤ p → p < cols.length → Q' (.int (ntF o cols p.toNat)) H → rIx K (.ref l) (.int p) H fun x H1 => rIx K x (.int o) H1 Q' := fun {o p Q'} o0 o1 p0 p1 hq => line_at hps hpl hpc o0 o1 p0 p1 hq
  have la1 : ∀ {p : Int} {Q' : VK}, 0 ≤ p → p < cols.length → (∀ (pp : Addr) (us : List Int), us.length = nv → SqT K H pp (us.map V.int) → (∀ o : Int, noteA us (o + 1) = ntF o cols p.toNat) → Q' (.ref pp) H) → rIx K (.ref l) (.int p) H Q' := fun {p Q'} p0 p1 hq => by
    obtain ⟨j, rfl⟩ := Int.eq_ofNat_of_zero_le p0
    have hj : j < cols.length := by omega
    have e2 : cols[j]? = some cols[j] := List.getElem?_eq_getElem hj
    obtain ⟨h1, h2⟩ := hpc j _ _ (List.getElem?_eq_getElem (show j < ps.length by omega)) e2
    refine rIx_l hps (show atI _ ((j : Nat) : Int) = some (.ref ps[j]) from atI_nat (by rw [List.getElem?_map, List.getElem?_eq_getElem (show j < ps.length by omega)]; rfl)) (hq _ _ h2 h1 fun o => ?_)
    rw [Int.toNat_natCast, nt_at e2]
  have em : ∀ o : Int, ntF o cols (i : Int).toNat - ntF o cols ((i : Int) - 1).toNat = mvF o cols i := fun o => by
    unfold mvF
    rw [Int.toNat_natCast, show ((i : Int) - 1).toNat = i - 1 by omega]
  have hv := good_vo hg
  have ixw : ∀ {k : Nat} {x : V} {Q' : VK}, (rowV R)[k]? = some x → Q' x H → rIx K (.ref w) (.int (k : Int)) H Q' := fun hx hq => rIx_l hw (atI_nat hx) hq
  refine cut2 (fun σ H' => σ = [some (.ref w), some (.ref l), some (.int i), some (.int (vo0 R)), none, none, none] ∧ H = H') ?_ ?_
  rotate_left
  · intro u' hu
    walk_at "rd"
    refine ixw (k := 1) (rowV_1 R) ?_
    walk_at "rd"
    rw [show (vo0 R + 1 - 1) = vo0 R by omega]
    exact hu _ _ ⟨rfl, rfl⟩
  rintro _ _ ⟨rfl, rfl⟩
  refine cut2 (fun σ H' => σ = [some (.ref w), some (.ref l), some (.int i), some (.int (vo0 R)), some (.int (mvF (vo0 R) cols i)), none, none] ∧ H = H') ?_ ?_
  rotate_left
  · intro u' hu
    walk_at "rd"
    refine la hv.1 hv.2 (by omega) (by omega) (la hv.1 hv.2 (show 0 ≤ (i : Int) - 1 by omega) (by omega) ?_)
    walk_at "rd"
    rw [em]
    exact hu _ _ ⟨rfl, rfl⟩
  rintro _ _ ⟨rfl, rfl⟩
  refine cut2 (fun σ H' => kd0 R ≠ Str.ofString "move" ∧ σ = [some (.ref w), some (.ref l), some (.int i), some (.int (vo0 R)), some (.int (mvF (vo0 R) cols i)), none, none] ∧ H = H') ?_ ?_
  rotate_left
  · intro u' hu
    walk_at "rd"
    refine ixw (k := 0) (rowV_0 R) ?_
    walk_at "rd"
    by_cases hq : kd0 R = Str.ofString "move"
    · rw [if_pos hq]
      clear hu
      cases R with
      | span _ _ _ => exact absurd (show Str.ofString "span" = Str.ofString "move" from hq) (by decide +kernel)
      | clock _ _ _ _ => exact absurd (show Str.ofString "clock" = Str.ofString "move" from hq) (by decide +kernel)
      | move o D =>
        obtain ⟨o0, o1⟩ := hg
        dsimp only [vo0]
        refine rSlA_l hw fun p hp => ?_
        rw [show (some (2 : Int)) = some ((2 : Nat) : Int) from rfl, cutV_from]
        refine rNotIn_ints (D := D) (SqL.of upd_same) ?_
        have q' := q _ (same_upd (o := .lst (D.map V.int)) hp)
        rw [show brK cols i (.move o D) = (decide (i ≠ 0) && !decide (mvF o cols i ∈ D)) from rfl, decide_eq_true (show i ≠ 0 by omega), Bool.true_and] at q'
        exact q'
      | alike _ _ _ => exact absurd (show Str.ofString "alike" = Str.ofString "move" from hq) (by decide +kernel)
      | back _ _ => exact absurd (show Str.ofString "back" = Str.ofString "move" from hq) (by decide +kernel)
      | held _ _ => exact absurd (show Str.ofString "held" = Str.ofString "move" from hq) (by decide +kernel)
      | times _ _ _ _ => exact absurd (show Str.ofString "times" = Str.ofString "move" from hq) (by decide +kernel)
      | begin _ _ => exact absurd (show Str.ofString "begin" = Str.ofString "move" from hq) (by decide +kernel)
      | close _ _ => exact absurd (show Str.ofString "close" = Str.ofString "move" from hq) (by decide +kernel)
    · rw [if_neg hq]
      exact hu _ _ ⟨hq, rfl, rfl⟩
  rintro _ _ ⟨k_move, rfl, rfl⟩
  refine cut2 (fun σ H' => kd0 R ≠ Str.ofString "alike" ∧ σ = [some (.ref w), some (.ref l), some (.int i), some (.int (vo0 R)), some (.int (mvF (vo0 R) cols i)), none, none] ∧ H = H') ?_ ?_
  rotate_left
  · intro u' hu
    walk_at "rd"
    refine ixw (k := 0) (rowV_0 R) ?_
    walk_at "rd"
    by_cases hq : kd0 R = Str.ofString "alike"
    · rw [if_pos hq]
      clear hu
      cases R with
      | span _ _ _ => exact absurd (show Str.ofString "span" = Str.ofString "alike" from hq) (by decide +kernel)
      | clock _ _ _ _ => exact absurd (show Str.ofString "clock" = Str.ofString "alike" from hq) (by decide +kernel)
      | move _ _ => exact absurd (show Str.ofString "move" = Str.ofString "alike" from hq) (by decide +kernel)
      | alike o t D =>
        obtain ⟨o0, o1, t0, t1⟩ := hg
        rw [show vo0 (.alike o t D) = o from rfl]
        have at2 : ∀ {Q' : VK}, Q' (.int (t + 1)) H → rIx K (.ref w) (.int 2) H Q' := fun hq => rIx_l hw (show atI _ ((2 : Nat) : Int) = _ from atI_nat rfl) hq
        refine la1 (p := (i : Int)) (by omega) (by omega) fun pp us hul hpp hnt => at2 ?_
        walk_at "rd"
        rw [show (t + 1 - 1) = t by omega]
        refine rIx_t hpp (noteA_ix t0 (by omega)) ?_
        refine la o0 o1 (show 0 ≤ (i : Int) by omega) (by omega) ?_
        walk_at "rd"
        refine la1 (p := (i : Int) - 1) (by omega) (by omega) fun pp2 us2 hul2 hpp2 hnt2 => at2 ?_
        walk_at "rd"
        rw [show (t + 1 - 1) = t by omega]
        refine rIx_t hpp2 (noteA_ix t0 (by omega)) ?_
        refine la o0 o1 (show 0 ≤ (i : Int) - 1 by omega) (by omega) ?_
        rw [hnt t, hnt2 t]
        walk_at "rd"
        have q0 := q
        have eB : brK cols i (.alike o t D) = (decide (mvF o cols i ≠ 0) && (decide (ntF t cols i - ntF o cols i = ntF t cols (i - 1) - ntF o cols (i - 1)) && decide (ntF t cols i - ntF o cols i ∈ D))) := by
          show (decide (i ≠ 0) && _) = _
          rw [decide_eq_true (show i ≠ 0 by omega), Bool.true_and]
        rw [eB] at q
        rw [Int.toNat_natCast, show ((i : Int) - 1).toNat = i - 1 by omega]
        by_cases h0 : mvF o cols i = 0
        · rw [if_pos h0]
          rw [decide_eq_false (fun z => z h0), Bool.false_and] at q
          exact q _ (Same.refl _)
        rw [if_neg h0]
        rw [decide_eq_true h0, Bool.true_and] at q
        by_cases h1 : ntF t cols i - ntF o cols i = ntF t cols (i - 1) - ntF o cols (i - 1)
        · rw [if_pos h1]
          rw [decide_eq_true h1, Bool.true_and] at q
          refine rSlA_l hw fun p hp => ?_
          rw [show (some (3 : Int)) = some ((3 : Nat) : Int) from rfl, cutV_from]
          exact rIn_ints (D := D) (SqL.of upd_same) (q _ (same_upd (o := .lst (D.map V.int)) hp))
        · rw [if_neg h1]
          rw [decide_eq_false h1, Bool.false_and] at q
          exact q _ (Same.refl _)
      | back _ _ => exact absurd (show Str.ofString "back" = Str.ofString "alike" from hq) (by decide +kernel)
      | held _ _ => exact absurd (show Str.ofString "held" = Str.ofString "alike" from hq) (by decide +kernel)
      | times _ _ _ _ => exact absurd (show Str.ofString "times" = Str.ofString "alike" from hq) (by decide +kernel)
      | begin _ _ => exact absurd (show Str.ofString "begin" = Str.ofString "alike" from hq) (by decide +kernel)
      | close _ _ => exact absurd (show Str.ofString "close" = Str.ofString "alike" from hq) (by decide +kernel)
    · rw [if_neg hq]
      exact hu _ _ ⟨hq, rfl, rfl⟩
  rintro _ _ ⟨k_alike, rfl, rfl⟩
  walk_at "rd"
  refine ixw (k := 0) (rowV_0 R) ?_
  walk_at "rd"
  cases R with
  | span _ _ _ => exact hk.elim
  | clock _ _ _ _ => exact hk.elim
  | held _ _ => exact hk.elim
  | times _ _ _ _ => exact hk.elim
  | begin _ _ => exact hk.elim
  | move _ _ => exact absurd rfl k_move
  | alike _ _ _ => exact absurd rfl k_alike
  | close o D =>
    rw [if_neg (show ¬ (kd0 (.close o D) = Str.ofString "back") from show ¬ (Str.ofString "close" = Str.ofString "back") by decide +kernel)]
    exact q _ (Same.refl _)
  | back o far =>
    obtain ⟨o0, o1, hf⟩ := hg
    rw [if_pos (show kd0 (.back o far) = Str.ofString "back" from rfl), show vo0 (.back o far) = o from rfl]
    have eB : brK cols i (.back o far) = (decide (2 ≤ i) && (decide (mvF o cols (i - 1) > far ∧ mvF o cols i ≥ 0) || decide (mvF o cols (i - 1) < 0 - far ∧ mvF o cols i ≤ 0))) := rfl
    rw [eB] at q
    by_cases hi : (i : Int) = 1
    · rw [if_pos hi]
      rw [decide_eq_false (show ¬ (2 ≤ i) by omega), Bool.false_and] at q
      exact q _ (Same.refl _)
    rw [if_neg hi]
    rw [decide_eq_true (show 2 ≤ i by omega), Bool.true_and] at q
    refine la o0 o1 (show 0 ≤ (i : Int) - 1 by omega) (by omega) (la o0 o1 (show 0 ≤ (i : Int) - 2 by omega) (by omega) ⟨_, rfl, _, rfl, ?_⟩)
    have em1 : ntF o cols ((i : Int) - 1).toNat - ntF o cols ((i : Int) - 2).toNat = mvF o cols (i - 1) := by
      unfold mvF
      rw [show ((i : Int) - 1).toNat = i - 1 by omega, show ((i : Int) - 2).toNat = i - 1 - 1 by omega]
    rw [em1]
    have at2 : ∀ {Q' : VK}, Q' (.int far) H → rIx K (.ref w) (.int 2) H Q' := fun hq => rIx_l hw (show atI _ ((2 : Nat) : Int) = _ from atI_nat rfl) hq
    refine at2 ⟨_, rfl, ?_⟩
    have q' := q _ (Same.refl _)
    generalize mvF o cols i = c at q'
    generalize mvF o cols (i - 1) = a at q'
    by_cases h1 : far < a
    · rw [if_pos h1]
      by_cases h3 : 0 ≤ c
      · rw [if_pos h3]
        rw [decide_eq_true (show a > far ∧ c ≥ 0 from ⟨h1, h3⟩), Bool.true_or] at q'
        exact q'
      · rw [if_neg h3]
        refine at2 ⟨_, rfl, ?_⟩
        rw [if_neg (show ¬ (a < 0 - far) by omega)]
        rw [decide_eq_false (show ¬ (a > far ∧ c ≥ 0) from fun z => h3 z.2), decide_eq_false (show ¬ (a < 0 - far ∧ c ≤ 0) by omega)] at q'
        exact q'
    · rw [if_neg h1]
      refine at2 ⟨_, rfl, ?_⟩
      rw [decide_eq_false (show ¬ (a > far ∧ c ≥ 0) from fun z => h1 z.1), Bool.false_or] at q'
      by_cases h2 : a < 0 - far
      · rw [if_pos h2]
        by_cases h3 : c ≤ 0
        · rw [decide_eq_true h3]
          rw [decide_eq_true (show a < 0 - far ∧ c ≤ 0 from ⟨h2, h3⟩)] at q'
          exact q'
        · rw [decide_eq_false h3]
          rw [decide_eq_false (show ¬ (a < 0 - far ∧ c ≤ 0) from fun z => h3 z.2)] at q'
          exact q'
      · rw [if_neg h2]
        rw [decide_eq_false (show ¬ (a < 0 - far ∧ c ≤ 0) from fun z => h2 z.1)] at q'
        exact q'
end
theorem run_iff (o : Int) (cols : List (List Int)) : ∀ (i m : Nat), m ≤ runF o cols i ↔ m ≤ i ∧ ∀ k, 1 ≤ k → k ≤ m → ntF o cols (i - k) = ntF o cols i
  | 0, m => by
    show m ≤ 0 ↔ _
    constructor
    · intro h; exact ⟨h, fun k h1 h2 => by omega⟩
    · exact fun h => h.1
  | i + 1, m => by
    have ih := run_iff o cols i (m - 1)
    show m ≤ (if ntF o cols i = ntF o cols (i + 1) then runF o cols i + 1 else 0) ↔ _
    by_cases h0 : m = 0
    · subst h0
      exact ⟨fun _ => ⟨by omega, fun k h1 h2 => by omega⟩, fun _ => by omega⟩
    by_cases he : ntF o cols i = ntF o cols (i + 1)
    · rw [if_pos he]
      constructor
      · intro h
        obtain ⟨h1, h2⟩ := ih.mp (by omega)
        refine ⟨by omega, fun k k1 k2 => ?_⟩
        by_cases hk : k = 1
        · subst hk; exact he
        · have := h2 (k - 1) (by omega) (by omega)
          rw [show i - (k - 1) = i + 1 - k by omega] at this
          rw [this, he]
      · rintro ⟨h1, h2⟩
        have := ih.mpr ⟨by omega, fun k k1 k2 => by
          have := h2 (k + 1) (by omega) (by omega)
          rw [show i + 1 - (k + 1) = i - k by omega] at this
          rw [this, he]⟩
        omega
    · rw [if_neg he]
      constructor
      · intro h; omega
      · rintro ⟨h1, h2⟩
        exact absurd (h2 1 (by omega) (by omega)) he
def spBrK (K : PySem.W.Frag) : Sp := fun vs H Q _ => ∃ (w l : Addr) (i nv : Nat) (cols : List (List Int)) (R : RowK), vs = [.ref w, .ref l, .int i] ∧ SqL K H w (rowV R) ∧ goodK nv R ∧ LineAt K H l nv cols ∧ i < cols.length ∧ cols.length ≤ 100 ∧ ∀ H', Same H H' → Q (.bl (brK cols i R)) H'
section
variable {P : Program} {w : World} {K : PySem.W.Frag} {mg : Str → Option Value} {base : Heap} {aM : Addr}
theorem ok_breaks0 {f : Addr} {fd : FuncData} (F : Fun K "_law_breaks" "_law_breaks" s_law_breaks f fd) (T : Txt mg aM) (D_law_step_breaks : Def P w K mg base "_law_step_breaks" 1 ["_law_row", "_law_line", "_law_at"] (spStepB K)) : FnOk P w K mg base CX0 2 f fd ["_law_row", "_law_line", "_law_at"] (spBrK K) := by
  refine F.ok sc_law_breaks (fun vs H Q E h => ?_) (fun cdv A outer s H vs Q E hr h => ?_)
  · obtain ⟨w, l, i, nv, cols, R, rfl, _⟩ := h
    rfl
  obtain ⟨w, l, i, nv, cols, R, rfl, hw, hg, LL, i2, hcl, q⟩ := h
  refine ⟨_, (pss_cons (ps_if (pt_cmpR opEq (pe_ix (ixAK K) (pv 0) pe_int (fun _ _ => rfl)) pe_str (nomark _)) (pss_one (ps_ret (pe_and (pe_cmpR opEq (pe_op op_mod (pv 2) (pe_ix (ixAK K) (pv 0) pe_int (fun _ _ => rfl))) (pe_ix (ixAK K) (pv 0) pe_int (fun _ _ => rfl)) (nomark _)) (pe_one pe_never)))) pss_nil)
  (pss_cons (ps_set (i := 3) sc_law_breaks.nd rfl (Or.inr rfl) (pe_op op_sub (pe_ix (ixAK K) (pv 0) pe_int (fun _ _ => rfl)) pe_int))
  (pss_cons (ps_set (i := 4) sc_law_breaks.nd rfl (Or.inr rfl) (pe_ix (ixAK K) (pe_ix (ixAK K) (pv 1) (pv 2) (fun _ _ => rfl)) (pv 3) (fun _ _ => rfl)))
  (pss_cons (ps_if (pt_cmpR opEq (pe_ix (ixAK K) (pv 0) pe_int (fun _ _ => rfl)) pe_str (nomark _)) (pss_one (ps_ret (pe_cmpR (opNotInK K) (pe_op op_sub (pe_ix (ixAK K) (pe_ix (ixAK K) (pv 1) (pv 2) (fun _ _ => rfl)) (pe_op op_sub (pe_ix (ixAK K) (pv 0) pe_int (fun _ _ => rfl)) pe_int) (fun _ _ => rfl)) (pv 4)) (pe_slice (slAK K) (pv 0) (po_some pe_int) po_none) (by with_unfolding_all rfl)))) pss_nil)
  (pss_cons (ps_if (pt_cmpR opEq (pe_ix (ixAK K) (pv 0) pe_int (fun _ _ => rfl)) pe_str (nomark _)) (pss_one (ps_ret (pe_cmpR (opNotInK K) (pe_op op_mod (pe_op op_sub (pe_ix (ixAK K) (pe_ix (ixAK K) (pv 1) (pv 2) (fun _ _ => rfl)) (pe_op op_sub (pe_ix (ixAK K) (pv 0) pe_int (fun _ _ => rfl)) pe_int) (fun _ _ => rfl)) (pv 4)) (pe_ix (ixAK K) (pv 0) pe_int (fun _ _ => rfl))) (pe_slice (slAK K) (pv 0) (po_some pe_int) po_none) (by with_unfolding_all rfl)))) pss_nil)
  (pss_cons (ps_if (pt_cmpR opEq (pe_ix (ixAK K) (pv 0) pe_int (fun _ _ => rfl)) pe_str (nomark _)) (pss_one (ps_ret (pe_and (pe_cmpR opEq (pv 2) pe_int (nomark _)) (pe_one (pe_cmpR (opNotInK K) (pv 4) (pe_slice (slAK K) (pv 0) (po_some pe_int) po_none) (by with_unfolding_all rfl)))))) pss_nil)
  (pss_cons (ps_if (pt_cmpR opEq (pe_ix (ixAK K) (pv 0) pe_int (fun _ _ => rfl)) pe_str (nomark _)) (pss_cons (ps_set (i := 5) sc_law_breaks.nd rfl (Or.inl rfl) (pe_callB (call_lenK K) (by rfl) T.n_len boot_len (pa_cons (pe_comp (own := ["_law_notes_here"]) (js := [3, 4]) rfl (pi_anyK K (pe_slice (slAK K) (pv 1) po_none (po_some (pv 2)))) (CompOk.of (by rfl)) (fun _ _ _ _ _ => (pg_name (i := 0) (show List.Nodup (["_law_notes_here", "_law_voice", "_law_note"] : List Str) from by decide +kernel) rfl (Or.inl rfl))) (fun _ _ _ _ _ => pts_one (pt_cmpR opEq (pe_ix (ixAK K) (pv 0) (pv 1) (fun _ _ => rfl)) (pv 2) (nomark _))) (fun _ _ _ _ _ => (pv 0))) pa_nil)))
  (pss_one (ps_ret (pe_and (pe_cmpR opEq (pv 4) (pe_ix (ixAK K) (pv 0) pe_int (fun _ _ => rfl)) (nomark _)) (pe_one (pe_cmpR op_ge (pv 5) (pe_ix (ixAK K) (pv 0) pe_int (fun _ _ => rfl)) (nomark _))))))) pss_nil)
  (pss_cons (ps_if (pt_cmpR opEq (pe_ix (ixAK K) (pv 0) pe_int (fun _ _ => rfl)) pe_str (nomark _)) (pss_cons (ps_if (pt_cmpR opLt (pv 2) (pe_ix (ixAK K) (pv 0) pe_int (fun _ _ => rfl)) (nomark _)) (pss_one (ps_ret pe_bl)) pss_nil)
  (pss_one (ps_ret (pe_callB (call_allK K rfl) (by rfl) T.n_all boot_all (pa_cons (pe_comp (own := ["_law_notes_here"]) (js := [3, 4]) rfl (pi_anyK K (pe_slice (slAK K) (pv 1) (po_some (pe_op op_sub (pv 2) (pe_ix (ixAK K) (pv 0) pe_int (fun _ _ => rfl)))) (po_some (pv 2)))) (CompOk.of (by rfl)) (fun _ _ _ _ _ => (pg_name (i := 0) (show List.Nodup (["_law_notes_here", "_law_voice", "_law_note"] : List Str) from by decide +kernel) rfl (Or.inl rfl))) (fun _ _ _ _ _ => pts_nil) (fun _ _ _ _ _ => (pe_cmpR opEq (pe_ix (ixAK K) (pv 0) (pv 1) (fun _ _ => rfl)) (pv 2) (nomark _)))) pa_nil))))) pss_nil)
  (pss_one (ps_ret (pe_and (pe_cmpR op_gt (pv 2) pe_int (nomark _)) (pe_one (pe_def D_law_step_breaks hr (by rfl) (pa_cons (pv 0) (pa_cons (pv 1) (pa_cons (pv 2) pa_nil)))))))))))))))), ?_⟩
  have LL0 := LL
  obtain ⟨ps, hps, hpl, hpc⟩ := LL
  have hs : sizeLine = 16777216 := sizeLine_eq
  have la : ∀ {o p : Int} {Q' : VK}, 0 ≤ o → o < nv → 0 ≤ p → p < cols.length → Q' (.int (ntF o cols p.toNat)) H → rIx K (.ref l) (.int p) H fun x H1 => rIx K x (.int o) H1 Q' := fun {o p Q'} o0 o1 p0 p1 hq => line_at hps hpl hpc o0 o1 p0 p1 hq
  have la1 : ∀ {p : Int} {Q' : VK}, 0 ≤ p → p < cols.length → (∀ (pp : Addr) (us : List Int), us.length = nv → SqT K H pp (us.map V.int) → (∀ o : Int, noteA us (o + 1) = ntF o cols p.toNat) → Q' (.ref pp) H) → rIx K (.ref l) (.int p) H Q' := fun {p Q'} p0 p1 hq => by
    obtain ⟨j, rfl⟩ := Int.eq_ofNat_of_zero_le p0
    have hj : j < cols.length := by omega
    have e2 : cols[j]? = some cols[j] := List.getElem?_eq_getElem hj
    obtain ⟨h1, h2⟩ := hpc j _ _ (List.getElem?_eq_getElem (show j < ps.length by omega)) e2
    refine rIx_l hps (show atI _ ((j : Nat) : Int) = some (.ref ps[j]) from atI_nat (by rw [List.getElem?_map, List.getElem?_eq_getElem (show j < ps.length by omega)]; rfl)) (hq _ _ h2 h1 fun o => ?_)
    rw [Int.toNat_natCast, nt_at e2]
  have ixw : ∀ {k : Nat} {x : V} {Q' : VK}, (rowV R)[k]? = some x → Q' x H → rIx K (.ref w) (.int (k : Int)) H Q' := fun hx hq => rIx_l hw (atI_nat hx) hq
  have hv := good_vo hg
  refine cut2 (fun σ H' => σ = [some (.ref w), some (.ref l), some (.int i), none, none, none] ∧ H = H') ?_ ?_
  rotate_left
  · intro u' hu
    walk_at "rd"
    refine ixw (k := 0) (rowV_0 R) ?_
    walk_at "rd"
    rw [if_neg (kd_every R)]
    exact hu _ _ ⟨rfl, rfl⟩
  rintro _ _ ⟨rfl, rfl⟩
  refine cut2 (fun σ H' => σ = [some (.ref w), some (.ref l), some (.int i), some (.int (vo0 R)), none, none] ∧ H = H') ?_ ?_
  rotate_left
  · intro u' hu
    walk_at "rd"
    refine ixw (k := 1) (rowV_1 R) ?_
    walk_at "rd"
    rw [show (vo0 R + 1 - 1) = vo0 R by omega]
    exact hu _ _ ⟨rfl, rfl⟩
  rintro _ _ ⟨rfl, rfl⟩
  refine cut2 (fun σ H' => σ = [some (.ref w), some (.ref l), some (.int i), some (.int (vo0 R)), some (.int (ntF (vo0 R) cols (i : Int).toNat)), none] ∧ H = H') ?_ ?_
  rotate_left
  · intro u' hu
    walk_at "rd"
    exact la hv.1 hv.2 (by omega) (by omega) (hu _ _ ⟨rfl, rfl⟩)
  rintro _ _ ⟨rfl, rfl⟩
  refine cut2 (fun σ H' => kd0 R ≠ Str.ofString "span" ∧ σ = [some (.ref w), some (.ref l), some (.int i), some (.int (vo0 R)), some (.int (ntF (vo0 R) cols (i : Int).toNat)), none] ∧ H = H') ?_ ?_
  rotate_left
  · intro u' hu
    walk_at "rd"
    refine ixw (k := 0) (rowV_0 R) ?_
    walk_at "rd"
    by_cases hk : kd0 R = Str.ofString "span"
    · rw [if_pos hk]
      clear hu
      cases R with
      | span o t D =>
        obtain ⟨o0, o1, t0, t1⟩ := hg
        dsimp only [vo0]
        refine la1 (p := (i : Int)) (by omega) (by omega) fun pp us hul hpp hnt => ixw (k := 2) rfl ?_
        walk_at "rd"
        rw [show (t + 1 - 1) = t by omega]
        refine rIx_t hpp (noteA_ix t0 (by omega)) ?_
        walk_at "rd"
        rw [hnt t, Int.toNat_natCast]
        refine rSlA_l hw fun p hp => ?_
        rw [show (some (3 : Int)) = some ((3 : Nat) : Int) from rfl, cutV_from]
        exact rNotIn_ints (D := D) (SqL.of upd_same) (q _ (same_upd (o := .lst (D.map V.int)) hp))
      | clock _ _ _ _ => exact absurd (show Str.ofString "clock" = Str.ofString "span" from hk) (by decide +kernel)
      | move _ _ => exact absurd (show Str.ofString "move" = Str.ofString "span" from hk) (by decide +kernel)
      | alike _ _ _ => exact absurd (show Str.ofString "alike" = Str.ofString "span" from hk) (by decide +kernel)
      | back _ _ => exact absurd (show Str.ofString "back" = Str.ofString "span" from hk) (by decide +kernel)
      | held _ _ => exact absurd (show Str.ofString "held" = Str.ofString "span" from hk) (by decide +kernel)
      | times _ _ _ _ => exact absurd (show Str.ofString "times" = Str.ofString "span" from hk) (by decide +kernel)
      | begin _ _ => exact absurd (show Str.ofString "begin" = Str.ofString "span" from hk) (by decide +kernel)
      | close _ _ => exact absurd (show Str.ofString "close" = Str.ofString "span" from hk) (by decide +kernel)
    · rw [if_neg hk]
      exact hu _ _ ⟨hk, rfl, rfl⟩
  rintro _ _ ⟨k_span, rfl, rfl⟩
  refine cut2 (fun σ H' => kd0 R ≠ Str.ofString "clock" ∧ σ = [some (.ref w), some (.ref l), some (.int i), some (.int (vo0 R)), some (.int (ntF (vo0 R) cols (i : Int).toNat)), none] ∧ H = H') ?_ ?_
  rotate_left
  · intro u' hu
    walk_at "rd"
    refine ixw (k := 0) (rowV_0 R) ?_
    walk_at "rd"
    by_cases hk : kd0 R = Str.ofString "clock"
    · rw [if_pos hk]
      clear hu
      cases R with
      | span _ _ _ => exact absurd (show Str.ofString "span" = Str.ofString "clock" from hk) (by decide +kernel)
      | clock o t h D =>
        obtain ⟨o0, o1, t0, t1, h1⟩ := hg
        dsimp only [vo0]
        refine la1 (p := (i : Int)) (by omega) (by omega) fun pp us hul hpp hnt => ixw (k := 2) rfl ?_
        walk_at "rd"
        rw [show (t + 1 - 1) = t by omega]
        refine rIx_t hpp (noteA_ix t0 (by omega)) ?_
        walk_at "rd"
        rw [hnt t, Int.toNat_natCast]
        refine ixw (k := 3) rfl ⟨_, rfl, by omega, ?_⟩
        refine rSlA_l hw fun p hp => ?_
        rw [show (some (4 : Int)) = some ((4 : Nat) : Int) from rfl, cutV_from]
        exact rNotIn_ints (D := D) (SqL.of upd_same) (q _ (same_upd (o := .lst (D.map V.int)) hp))
      | move _ _ => exact absurd (show Str.ofString "move" = Str.ofString "clock" from hk) (by decide +kernel)
      | alike _ _ _ => exact absurd (show Str.ofString "alike" = Str.ofString "clock" from hk) (by decide +kernel)
      | back _ _ => exact absurd (show Str.ofString "back" = Str.ofString "clock" from hk) (by decide +kernel)
      | held _ _ => exact absurd (show Str.ofString "held" = Str.ofString "clock" from hk) (by decide +kernel)
      | times _ _ _ _ => exact absurd (show Str.ofString "times" = Str.ofString "clock" from hk) (by decide +kernel)
      | begin _ _ => exact absurd (show Str.ofString "begin" = Str.ofString "clock" from hk) (by decide +kernel)
      | close _ _ => exact absurd (show Str.ofString "close" = Str.ofString "clock" from hk) (by decide +kernel)
    · rw [if_neg hk]
      exact hu _ _ ⟨hk, rfl, rfl⟩
  rintro _ _ ⟨k_clock, rfl, rfl⟩
  refine cut2 (fun σ H' => kd0 R ≠ Str.ofString "begin" ∧ σ = [some (.ref w), some (.ref l), some (.int i), some (.int (vo0 R)), some (.int (ntF (vo0 R) cols (i : Int).toNat)), none] ∧ H = H') ?_ ?_
  rotate_left
  · intro u' hu
    walk_at "rd"
    refine ixw (k := 0) (rowV_0 R) ?_
    walk_at "rd"
    by_cases hk : kd0 R = Str.ofString "begin"
    · rw [if_pos hk]
      clear hu
      cases R with
      | span _ _ _ => exact absurd (show Str.ofString "span" = Str.ofString "begin" from hk) (by decide +kernel)
      | clock _ _ _ _ => exact absurd (show Str.ofString "clock" = Str.ofString "begin" from hk) (by decide +kernel)
      | move _ _ => exact absurd (show Str.ofString "move" = Str.ofString "begin" from hk) (by decide +kernel)
      | alike _ _ _ => exact absurd (show Str.ofString "alike" = Str.ofString "begin" from hk) (by decide +kernel)
      | back _ _ => exact absurd (show Str.ofString "back" = Str.ofString "begin" from hk) (by decide +kernel)
      | held _ _ => exact absurd (show Str.ofString "held" = Str.ofString "begin" from hk) (by decide +kernel)
      | times _ _ _ _ => exact absurd (show Str.ofString "times" = Str.ofString "begin" from hk) (by decide +kernel)
      | begin o D =>
        obtain ⟨o0, o1⟩ := hg
        dsimp only [vo0]
        by_cases hi : (i : Int) = 0
        · have e0 : i = 0 := by omega
          rw [if_pos hi]
          subst e0
          refine rSlA_l hw fun p hp => ?_
          rw [show (some (2 : Int)) = some ((2 : Nat) : Int) from rfl, cutV_from]
          exact rNotIn_ints (D := D) (SqL.of upd_same) (q _ (same_upd (o := .lst (D.map V.int)) hp))
        · rw [if_neg hi]
          have q' := q _ (Same.refl _)
          rw [show brK cols i (.begin o D) = (decide (i = 0) && !decide (ntF o cols i ∈ D)) from rfl, decide_eq_false (show ¬ (i = 0) by omega), Bool.false_and] at q'
          exact q'
      | close _ _ => exact absurd (show Str.ofString "close" = Str.ofString "begin" from hk) (by decide +kernel)
    · rw [if_neg hk]
      exact hu _ _ ⟨hk, rfl, rfl⟩
  rintro _ _ ⟨k_begin, rfl, rfl⟩
  refine cut2 (fun σ H' => kd0 R ≠ Str.ofString "times" ∧ σ = [some (.ref w), some (.ref l), some (.int i), some (.int (vo0 R)), some (.int (ntF (vo0 R) cols (i : Int).toNat)), none] ∧ H = H') ?_ ?_
  rotate_left
  · intro u' hu
    walk_at "rd"
    refine ixw (k := 0) (rowV_0 R) ?_
    walk_at "rd"
    by_cases hk : kd0 R = Str.ofString "times"
    · rw [if_pos hk]
      clear hu
      cases R with
      | span _ _ _ => exact absurd (show Str.ofString "span" = Str.ofString "times" from hk) (by decide +kernel)
      | clock _ _ _ _ => exact absurd (show Str.ofString "clock" = Str.ofString "times" from hk) (by decide +kernel)
      | move _ _ => exact absurd (show Str.ofString "move" = Str.ofString "times" from hk) (by decide +kernel)
      | alike _ _ _ => exact absurd (show Str.ofString "alike" = Str.ofString "times" from hk) (by decide +kernel)
      | back _ _ => exact absurd (show Str.ofString "back" = Str.ofString "times" from hk) (by decide +kernel)
      | held _ _ => exact absurd (show Str.ofString "held" = Str.ofString "times" from hk) (by decide +kernel)
      | times o nt lw hgh =>
        obtain ⟨o0, o1, h0⟩ := hg
        dsimp only [vo0]
        refine rSlA_l hps fun q1 hq1 => ?_
        rw [cutV_to, ← List.map_take]
        have s1 : Same H (upd H q1 (.lst ((ps.take i).map V.ref))) := same_upd hq1
        have g1 : (upd H q1 (.lst ((ps.take i).map V.ref))) q1 = some (.lst ((ps.take i).map V.ref)) := upd_same
        generalize upd H q1 (.lst ((ps.take i).map V.ref)) = H1 at s1 g1
        rw [Int.toNat_natCast]
        generalize hni : ntF o cols i = ni
        refine rIt_lst (SqL.of g1) (cloop_list (xs := (ps.take i).map V.ref) (fun j ys H' => ys.length = cntF o ni cols j ∧ ys.length ≤ j ∧ H1 = H') (by rw [List.length_map, List.length_take]; omega) ⟨rfl, Nat.le_refl _, rfl⟩ ?_ ?_ ?_ ?_)
        · rintro j ys H' ⟨h1, h2, rfl⟩
          exact h2
        · rintro j ys H' ⟨h1, h2, rfl⟩
          exact SqL.of g1
        · rintro j x ys H' hx ⟨h1, h2, rfl⟩
          have hj : j < i := by have := (List.getElem?_eq_some_iff.mp hx).1; rw [List.length_map, List.length_take] at this; omega
          have e1 : ps[j]? = some (ps[j]'(by omega)) := List.getElem?_eq_getElem (by omega)
          have e2 : cols[j]? = some (cols[j]'(by omega)) := List.getElem?_eq_getElem (by omega)
          rw [List.getElem?_map, List.getElem?_take, if_pos hj, e1] at hx
          cases hx
          obtain ⟨g3, g4⟩ := hpc _ _ _ e1 e2
          have hc := cnt_succ o ni cols j _ e2
          walk_at "rd"
          refine rIx_t (s1.tup g3) (noteA_ix o0 (by omega)) ?_
          walk_at "rd"
          by_cases h : noteA (cols[j]'(by omega)) (o + 1) = ni
          · rw [if_pos (show hitF o ni (cols[j]'(by omega)) = true from decide_eq_true h)] at hc
            simp only [h]
            simp [hc, h1]
            omega
          · rw [if_neg (show ¬ (hitF o ni (cols[j]'(by omega)) = true) by unfold hitF; rw [decide_eq_false h]; exact Bool.false_ne_true)] at hc
            simp only [h]
            simp [hc, h1]
            omega
        · rintro ys H' ⟨h1, h2, rfl⟩ p hp
          have s2 := s1.upd (o := .lst ys) hp
          rw [List.length_map, List.length_take, Nat.min_eq_left (by omega)] at h1
          refine ⟨ys, .inl (SqL.of upd_same), rIx_l (s2.seq hw) (show atI _ ((2 : Nat) : Int) = _ from atI_nat rfl) ?_⟩
          walk_at "rd"
          have q' := q _ s2
          have eB : brK cols i (.times o nt lw hgh) = (decide (ni = nt) && decide ((cntF o nt cols i : Int) ≥ hgh)) := by rw [← hni]; rfl
          rw [eB] at q'
          by_cases h : ni = nt
          · rw [if_pos h]
            rw [decide_eq_true h, Bool.true_and] at q'
            refine rIx_l (s2.seq hw) (show atI _ ((4 : Nat) : Int) = _ from atI_nat rfl) ⟨_, rfl, ?_⟩
            rw [h1, h]
            exact q'
          · rw [if_neg h]
            rw [decide_eq_false h, Bool.false_and] at q'
            exact q'
      | begin _ _ => exact absurd (show Str.ofString "begin" = Str.ofString "times" from hk) (by decide +kernel)
      | close _ _ => exact absurd (show Str.ofString "close" = Str.ofString "times" from hk) (by decide +kernel)
    · rw [if_neg hk]
      exact hu _ _ ⟨hk, rfl, rfl⟩
  rintro _ _ ⟨k_times, rfl, rfl⟩
  refine cut2 (fun σ H' => kd0 R ≠ Str.ofString "held" ∧ σ = [some (.ref w), some (.ref l), some (.int i), some (.int (vo0 R)), some (.int (ntF (vo0 R) cols (i : Int).toNat)), none] ∧ H = H') ?_ ?_
  rotate_left
  · intro u' hu
    walk_at "rd"
    refine ixw (k := 0) (rowV_0 R) ?_
    walk_at "rd"
    by_cases hk : kd0 R = Str.ofString "held"
    · rw [if_pos hk]
      clear hu
      cases R with
      | span _ _ _ => exact absurd (show Str.ofString "span" = Str.ofString "held" from hk) (by decide +kernel)
      | clock _ _ _ _ => exact absurd (show Str.ofString "clock" = Str.ofString "held" from hk) (by decide +kernel)
      | move _ _ => exact absurd (show Str.ofString "move" = Str.ofString "held" from hk) (by decide +kernel)
      | alike _ _ _ => exact absurd (show Str.ofString "alike" = Str.ofString "held" from hk) (by decide +kernel)
      | back _ _ => exact absurd (show Str.ofString "back" = Str.ofString "held" from hk) (by decide +kernel)
      | held o most =>
        obtain ⟨o0, o1, m1⟩ := hg
        dsimp only [vo0]
        refine ixw (k := 2) rfl ⟨_, rfl, ?_⟩
        have eB : brK cols i (.held o most) = decide (most ≤ (runF o cols i : Int)) := rfl
        rw [eB] at q
        have r0 := run_iff o cols i (runF o cols i)
        have ri := run_iff o cols i most.toNat
        by_cases hm : (i : Int) < most
        · rw [if_pos hm]
          have q' := q _ (Same.refl _)
          rw [decide_eq_false (show ¬ (most ≤ (runF o cols i : Int)) by have := (r0.mp (Nat.le_refl _)).1; omega)] at q'
          exact q'
        rw [if_neg hm]
        refine ixw (k := 2) rfl ⟨_, rfl, ?_⟩
        obtain ⟨a, ha⟩ : ∃ a : Nat, (a : Int) = (i : Int) - most := ⟨(i - most.toNat), by omega⟩
        rw [← ha]
        refine rSlA_l hps fun q1 hq1 => ?_
        have ec : cutV (ps.map V.ref) (some (a : Int)) (some (i : Int)) = ((ps.drop a).take (i - a)).map V.ref := by
          unfold cutV
          rw [HT.sIx_nat, HT.sIx_nat, List.length_map, Nat.min_eq_left (by omega), Nat.min_eq_left (by omega), List.map_take, List.map_drop]
        rw [ec]
        have s1 : Same H (upd H q1 (.lst (((ps.drop a).take (i - a)).map V.ref))) := same_upd hq1
        have g1 : (upd H q1 (.lst (((ps.drop a).take (i - a)).map V.ref))) q1 = some (.lst (((ps.drop a).take (i - a)).map V.ref)) := upd_same
        generalize upd H q1 (.lst (((ps.drop a).take (i - a)).map V.ref)) = H1 at s1 g1
        have hlen : ((ps.drop a).take (i - a)).length = i - a := by rw [List.length_take, List.length_drop]; omega
        refine rIt_lst (SqL.of g1) (cloop_list (xs := ((ps.drop a).take (i - a)).map V.ref) (fun j ys H' => ys = ((List.range j).map fun j => decide (ntF o cols (a + j) = ntF o cols i)).map V.bl ∧ H1 = H') (by rw [List.length_map, hlen]; omega) ⟨rfl, rfl⟩ ?_ ?_ ?_ ?_)
        · rintro j ys H' ⟨rfl, rfl⟩
          simp
        · rintro j ys H' ⟨rfl, rfl⟩
          exact SqL.of g1
        · rintro j x ys H' hx ⟨rfl, rfl⟩
          have hj : j < i - a := by have := (List.getElem?_eq_some_iff.mp hx).1; rw [List.length_map, hlen] at this; exact this
          have e1 : ps[a + j]? = some (ps[a + j]'(by omega)) := List.getElem?_eq_getElem (by omega)
          have e2 : cols[a + j]? = some (cols[a + j]'(by omega)) := List.getElem?_eq_getElem (by omega)
          rw [List.getElem?_map, List.getElem?_take, if_pos hj, List.getElem?_drop, e1] at hx
          cases hx
          obtain ⟨h1, h2⟩ := hpc _ _ _ e1 e2
          walk_at "rd"
          refine rIx_t (s1.tup h1) (noteA_ix o0 (by omega)) ?_
          walk_at "rd"
          rw [List.range_succ, List.map_append, List.map_append, Int.toNat_natCast, ← nt_at (o := o) e2]
          rfl
        · rintro ys H' ⟨rfl, rfl⟩ p hp
          refine ⟨_, SqL.of upd_same, ?_⟩
          have q' := q _ (s1.upd (o := .lst (((List.range (((ps.drop a).take (i - a)).map V.ref).length).map fun j => decide (ntF o cols (a + j) = ntF o cols i)).map V.bl)) hp)
          have ee : (((List.range (((ps.drop a).take (i - a)).map V.ref).length).map fun j => decide (ntF o cols (a + j) = ntF o cols i)).all id) = decide (most ≤ (runF o cols i : Int)) := by
            rw [List.length_map, hlen, Bool.eq_iff_iff, List.all_eq_true, decide_eq_true_eq]
            constructor
            · intro h
              have := ri.mpr ⟨by omega, fun k k1 k2 => by
                have := h _ (List.mem_map.mpr ⟨i - a - k, List.mem_range.mpr (by omega), rfl⟩)
                rw [show a + (i - a - k) = i - k by omega] at this
                exact of_decide_eq_true this⟩
              omega
            · intro h b hb
              obtain ⟨j, hj, rfl⟩ := List.mem_map.mp hb
              have hj := List.mem_range.mp hj
              have := (ri.mp (by omega)).2 (i - a - j) (by omega) (by omega)
              rw [show i - (i - a - j) = a + j by omega] at this
              exact decide_eq_true this
          rw [ee]
          exact q'
      | times _ _ _ _ => exact absurd (show Str.ofString "times" = Str.ofString "held" from hk) (by decide +kernel)
      | begin _ _ => exact absurd (show Str.ofString "begin" = Str.ofString "held" from hk) (by decide +kernel)
      | close _ _ => exact absurd (show Str.ofString "close" = Str.ofString "held" from hk) (by decide +kernel)
    · rw [if_neg hk]
      exact hu _ _ ⟨hk, rfl, rfl⟩
  rintro _ _ ⟨k_held, rfl, rfl⟩
  have hst : stepK R ∧ brK cols 0 R = false := by
    cases R with
    | span _ _ _ => exact absurd rfl k_span
    | clock _ _ _ _ => exact absurd rfl k_clock
    | move _ _ => exact ⟨trivial, rfl⟩
    | alike _ _ _ => exact ⟨trivial, rfl⟩
    | back _ _ => exact ⟨trivial, rfl⟩
    | held _ _ => exact absurd rfl k_held
    | times _ _ _ _ => exact absurd rfl k_times
    | begin _ _ => exact absurd rfl k_begin
    | close _ _ => exact ⟨trivial, rfl⟩
  walk_at "rd"
  by_cases hi : (0 : Int) < i
  · rw [if_pos hi]
    exact ⟨w, l, i, nv, cols, _, rfl, hw, hst.1, hg, LL0, by omega, i2, q⟩
  · rw [if_neg hi]
    have e0 : i = 0 := by omega
    subst e0
    rw [hst.2] at q
    exact q _ (Same.refl _)
end
inductive Row10 where
  | plain (R : RowK)
  | every (m a : Int) (R : RowK)
def innK : RowK → Prop
  | .span _ _ _ => True
  | .clock _ _ _ _ => True
  | _ => False
def row10V : Row10 → List V
  | .plain R => rowV R
  | .every m a R => .str "every" :: .int m :: .int a :: rowV R
def br10 (cols : List (List Int)) (i : Nat) : Row10 → Bool
  | .plain R => brK cols i R
  | .every m a R => decide ((i : Int) % m = a) && brK cols i R
def good10 (nv : Nat) : Row10 → Prop
  | .plain R => goodK nv R
  | .every m a R => goodK nv R ∧ innK R ∧ 1 ≤ m ∧ 0 ≤ a ∧ a < m
def spBrE (K : PySem.W.Frag) : Sp := fun vs H Q _ => ∃ (w l : Addr) (i nv : Nat) (cols : List (List Int)) (m a : Int) (R : RowK), vs = [.ref w, .ref l, .int i] ∧ SqL K H w (row10V (.every m a R)) ∧ good10 nv (.every m a R) ∧ LineAt K H l nv cols ∧ i < cols.length ∧ cols.length ≤ 100 ∧ ∀ H', Same H H' → Q (.bl (br10 cols i (.every m a R))) H'
section
variable {P : Program} {w : World} {K : PySem.W.Frag} {mg : Str → Option Value} {base : Heap} {aM : Addr}
theorem ok_breaksE {f : Addr} {fd : FuncData} (F : Fun K "_law_breaks" "_law_breaks" s_law_breaks f fd) (T : Txt mg aM) (D_law_step_breaks : Def P w K mg base "_law_step_breaks" 2 ["_law_row", "_law_line", "_law_at"] (spStepB K)) (D_law_breaks : Def P w K mg base "_law_breaks" 2 ["_law_row", "_law_line", "_law_at"] (spBrK K)) : FnOk P w K mg base CX0 3 f fd ["_law_row", "_law_line", "_law_at"] (spBrE K) := by
  refine F.ok sc_law_breaks (fun vs H Q E h => ?_) (fun cdv A outer s H vs Q E hr h => ?_)
  · obtain ⟨w, l, i, nv, cols, m, a, R, rfl, _⟩ := h
    rfl
  obtain ⟨w, l, i, nv, cols, m, a, R, rfl, hw, ⟨hg, hin, m1, a0, a1⟩, LL, i2, hcl, q⟩ := h
  refine ⟨_, (pss_cons (ps_if (pt_cmpR opEq (pe_ix (ixAK K) (pv 0) pe_int (fun _ _ => rfl)) pe_str (nomark _)) (pss_one (ps_ret (pe_and (pe_cmpR opEq (pe_op op_mod (pv 2) (pe_ix (ixAK K) (pv 0) pe_int (fun _ _ => rfl))) (pe_ix (ixAK K) (pv 0) pe_int (fun _ _ => rfl)) (nomark _)) (pe_one (pe_def D_law_breaks hr (by rfl) (pa_cons (pe_slice (slAK K) (pv 0) (po_some pe_int) po_none) (pa_cons (pv 1) (pa_cons (pv 2) pa_nil)))))))) pss_nil)
  (pss_cons (ps_set (i := 3) sc_law_breaks.nd rfl (Or.inr rfl) (pe_op op_sub (pe_ix (ixAK K) (pv 0) pe_int (fun _ _ => rfl)) pe_int))
  (pss_cons (ps_set (i := 4) sc_law_breaks.nd rfl (Or.inr rfl) (pe_ix (ixAK K) (pe_ix (ixAK K) (pv 1) (pv 2) (fun _ _ => rfl)) (pv 3) (fun _ _ => rfl)))
  (pss_cons (ps_if (pt_cmpR opEq (pe_ix (ixAK K) (pv 0) pe_int (fun _ _ => rfl)) pe_str (nomark _)) (pss_one (ps_ret (pe_cmpR (opNotInK K) (pe_op op_sub (pe_ix (ixAK K) (pe_ix (ixAK K) (pv 1) (pv 2) (fun _ _ => rfl)) (pe_op op_sub (pe_ix (ixAK K) (pv 0) pe_int (fun _ _ => rfl)) pe_int) (fun _ _ => rfl)) (pv 4)) (pe_slice (slAK K) (pv 0) (po_some pe_int) po_none) (by with_unfolding_all rfl)))) pss_nil)
  (pss_cons (ps_if (pt_cmpR opEq (pe_ix (ixAK K) (pv 0) pe_int (fun _ _ => rfl)) pe_str (nomark _)) (pss_one (ps_ret (pe_cmpR (opNotInK K) (pe_op op_mod (pe_op op_sub (pe_ix (ixAK K) (pe_ix (ixAK K) (pv 1) (pv 2) (fun _ _ => rfl)) (pe_op op_sub (pe_ix (ixAK K) (pv 0) pe_int (fun _ _ => rfl)) pe_int) (fun _ _ => rfl)) (pv 4)) (pe_ix (ixAK K) (pv 0) pe_int (fun _ _ => rfl))) (pe_slice (slAK K) (pv 0) (po_some pe_int) po_none) (by with_unfolding_all rfl)))) pss_nil)
  (pss_cons (ps_if (pt_cmpR opEq (pe_ix (ixAK K) (pv 0) pe_int (fun _ _ => rfl)) pe_str (nomark _)) (pss_one (ps_ret (pe_and (pe_cmpR opEq (pv 2) pe_int (nomark _)) (pe_one (pe_cmpR (opNotInK K) (pv 4) (pe_slice (slAK K) (pv 0) (po_some pe_int) po_none) (by with_unfolding_all rfl)))))) pss_nil)
  (pss_cons (ps_if (pt_cmpR opEq (pe_ix (ixAK K) (pv 0) pe_int (fun _ _ => rfl)) pe_str (nomark _)) (pss_cons (ps_set (i := 5) sc_law_breaks.nd rfl (Or.inl rfl) (pe_callB (call_lenK K) (by rfl) T.n_len boot_len (pa_cons (pe_comp (own := ["_law_notes_here"]) (js := [3, 4]) rfl (pi_anyK K (pe_slice (slAK K) (pv 1) po_none (po_some (pv 2)))) (CompOk.of (by rfl)) (fun _ _ _ _ _ => (pg_name (i := 0) (show List.Nodup (["_law_notes_here", "_law_voice", "_law_note"] : List Str) from by decide +kernel) rfl (Or.inl rfl))) (fun _ _ _ _ _ => pts_one (pt_cmpR opEq (pe_ix (ixAK K) (pv 0) (pv 1) (fun _ _ => rfl)) (pv 2) (nomark _))) (fun _ _ _ _ _ => (pv 0))) pa_nil)))
  (pss_one (ps_ret (pe_and (pe_cmpR opEq (pv 4) (pe_ix (ixAK K) (pv 0) pe_int (fun _ _ => rfl)) (nomark _)) (pe_one (pe_cmpR op_ge (pv 5) (pe_ix (ixAK K) (pv 0) pe_int (fun _ _ => rfl)) (nomark _))))))) pss_nil)
  (pss_cons (ps_if (pt_cmpR opEq (pe_ix (ixAK K) (pv 0) pe_int (fun _ _ => rfl)) pe_str (nomark _)) (pss_cons (ps_if (pt_cmpR opLt (pv 2) (pe_ix (ixAK K) (pv 0) pe_int (fun _ _ => rfl)) (nomark _)) (pss_one (ps_ret pe_bl)) pss_nil)
  (pss_one (ps_ret (pe_callB (call_allK K rfl) (by rfl) T.n_all boot_all (pa_cons (pe_comp (own := ["_law_notes_here"]) (js := [3, 4]) rfl (pi_anyK K (pe_slice (slAK K) (pv 1) (po_some (pe_op op_sub (pv 2) (pe_ix (ixAK K) (pv 0) pe_int (fun _ _ => rfl)))) (po_some (pv 2)))) (CompOk.of (by rfl)) (fun _ _ _ _ _ => (pg_name (i := 0) (show List.Nodup (["_law_notes_here", "_law_voice", "_law_note"] : List Str) from by decide +kernel) rfl (Or.inl rfl))) (fun _ _ _ _ _ => pts_nil) (fun _ _ _ _ _ => (pe_cmpR opEq (pe_ix (ixAK K) (pv 0) (pv 1) (fun _ _ => rfl)) (pv 2) (nomark _)))) pa_nil))))) pss_nil)
  (pss_one (ps_ret (pe_and (pe_cmpR op_gt (pv 2) pe_int (nomark _)) (pe_one (pe_def D_law_step_breaks hr (by rfl) (pa_cons (pv 0) (pa_cons (pv 1) (pa_cons (pv 2) pa_nil)))))))))))))))), ?_⟩
  have ixw : ∀ {k : Nat} {x : V} {Q' : VK}, (row10V (.every m a R))[k]? = some x → Q' x H → rIx K (.ref w) (.int (k : Int)) H Q' := fun hx hq => rIx_l hw (atI_nat hx) hq
  walk_at "rd"
  refine ixw (k := 0) rfl ?_
  walk_at "rd"
  refine ixw (k := 1) rfl ?_
  walk_at "rd"
  refine ⟨by omega, ixw (k := 2) rfl ?_⟩
  walk_at "rd"
  have eB : br10 cols i (.every m a R) = (decide ((i : Int) % m = a) && brK cols i R) := rfl
  rw [eB] at q
  by_cases h : (i : Int) % m = a
  · rw [if_pos h]
    rw [decide_eq_true h, Bool.true_and] at q
    refine rSlA_l hw fun p hp => ?_
    rw [show (some (3 : Int)) = some ((3 : Nat) : Int) from rfl, cutV_from]
    have s1 : Same H (upd H p (.lst (rowV R))) := same_upd hp
    exact ⟨p, l, i, nv, cols, R, rfl, SqL.of upd_same, hg, LL.same s1, i2, hcl, fun H' s' => q _ (s1.trans s')⟩
  · rw [if_neg h]
    rw [decide_eq_false h, Bool.false_and] at q
    exact q _ (Same.refl _)
end
theorem fnOk_or {P : Program} {w : World} {K : PySem.W.Frag} {mg : Str → Option Value} {base : Heap} {CX : CXT} {k : Nat} {f : Addr} {fd : FuncData} {ps : List Str} {sp sp' : Sp} (F : FnOk P w K mg base CX k f fd ps sp) (G : FnOk P w K mg base CX k f fd ps sp') : FnOk P w K mg base CX k f fd ps (fun vs H Q E => sp vs H Q E ∨ sp' vs H Q E) :=
  ⟨fun vs H Q E q => q.elim (F.len vs H Q E) (G.len vs H Q E), fun A outer s H args us vs Q E hr he hb hv hs => hs.elim (F.run A outer s H args us vs Q E hr he hb hv) (G.run A outer s H args us vs Q E hr he hb hv)⟩
def spBr10 (K : PySem.W.Frag) : Sp := fun vs H Q _ => ∃ (w l : Addr) (i nv : Nat) (cols : List (List Int)) (R : Row10), vs = [.ref w, .ref l, .int i] ∧ SqL K H w (row10V R) ∧ good10 nv R ∧ LineAt K H l nv cols ∧ i < cols.length ∧ cols.length ≤ 100 ∧ ∀ H', Same H H' → Q (.bl (br10 cols i R)) H'
def sz10 : Row10 → Int
  | .plain R => (semK R).size
  | .every m _ _ => m
def spSizeOf (K : PySem.W.Frag) : Sp := fun vs H Q _ => ∃ (w : Addr) (R : Row10), vs = [.ref w] ∧ SqL K H w (row10V R) ∧ Q (.int (sz10 R)) H
section
variable {P : Program} {w : World} {K : PySem.W.Frag} {mg : Str → Option Value} {base : Heap} {aM : Addr}
theorem ok_breaks10 {f : Addr} {fd : FuncData} (F : FnOk P w K mg base CX0 3 f fd ["_law_row", "_law_line", "_law_at"] (spBrK K)) (G : FnOk P w K mg base CX0 3 f fd ["_law_row", "_law_line", "_law_at"] (spBrE K)) : FnOk P w K mg base CX0 3 f fd ["_law_row", "_law_line", "_law_at"] (spBr10 K) := by
  refine (fnOk_or F G).imp fun vs H Q E h => ?_
  obtain ⟨w, l, i, nv, cols, R, rfl, hw, hg, LL, i2, hcl, q⟩ := h
  cases R with
  | plain R => exact .inl ⟨w, l, i, nv, cols, R, rfl, hw, hg, LL, i2, hcl, q⟩
  | every m a R => exact .inr ⟨w, l, i, nv, cols, m, a, R, rfl, hw, hg, LL, i2, hcl, q⟩
theorem ok_size_of {f : Addr} {fd : FuncData} (F : Fun K "_law_size_of" "_law_size_of" s_law_size_of f fd) (T : Txt mg aM) : FnOk P w K mg base CX0 1 f fd ["_law_row"] (spSizeOf K) := by
  refine F.ok sc_law_size_of (fun vs H Q E h => ?_) (fun cdv A outer s H vs Q E hr h => ?_)
  · obtain ⟨w, R, rfl, _⟩ := h
    rfl
  obtain ⟨w, R, rfl, hw, q⟩ := h
  refine ⟨_, (pss_cons (ps_if (pt_cmpR opEq (pe_ix (ixAK K) (pv 0) pe_int (fun _ _ => rfl)) pe_str (nomark _)) (pss_one (ps_ret pe_int)) pss_nil)
  (pss_cons (ps_if (pt_cmpR opEq (pe_ix (ixAK K) (pv 0) pe_int (fun _ _ => rfl)) pe_str (nomark _)) (pss_one (ps_ret (pe_ix (ixAK K) (pv 0) pe_int (fun _ _ => rfl)))) pss_nil)
  (pss_cons (ps_if (pt_cmpR opEq (pe_ix (ixAK K) (pv 0) pe_int (fun _ _ => rfl)) pe_str (nomark _)) (pss_one (ps_ret (pe_op (opAddK K) (pe_ix (ixAK K) (pv 0) pe_int (fun _ _ => rfl)) pe_int))) pss_nil)
  (pss_cons (ps_if (pt_cmpR opEq (pe_ix (ixAK K) (pv 0) pe_int (fun _ _ => rfl)) pe_str (nomark _)) (pss_one (ps_ret (pe_ix (ixAK K) (pv 0) pe_int (fun _ _ => rfl)))) pss_nil)
  (pss_one (ps_ret pe_int)))))), ?_⟩
  have ixw : ∀ {k : Nat} {x : V} {Q' : VK}, (row10V R)[k]? = some x → Q' x H → rIx K (.ref w) (.int (k : Int)) H Q' := fun hx hq => rIx_l hw (atI_nat hx) hq
  cases R with
  | every m a R =>
    walk_at "rd"
    refine ixw (k := 0) rfl ?_
    walk_at "rd"
    rw [if_neg (by decide +kernel)]
    refine ixw (k := 0) rfl ?_
    walk_at "rd"
    rw [if_neg (by decide +kernel)]
    refine ixw (k := 0) rfl ?_
    walk_at "rd"
    rw [if_neg (by decide +kernel)]
    refine ixw (k := 0) rfl ?_
    walk_at "rd"
    exact ixw (k := 1) rfl q
  | plain R =>
    cases R with
    | back o far =>
      walk_at "rd"
      refine ixw (k := 0) rfl ?_
      walk_at "rd"
      exact q
    | held o most =>
      walk_at "rd"
      refine ixw (k := 0) rfl ?_
      walk_at "rd"
      rw [if_neg (by decide +kernel)]
      refine ixw (k := 0) rfl ?_
      walk_at "rd"
      exact ixw (k := 2) rfl q
    | times o nt lw hgh =>
      walk_at "rd"
      refine ixw (k := 0) rfl ?_
      walk_at "rd"
      rw [if_neg (by decide +kernel)]
      refine ixw (k := 0) rfl ?_
      walk_at "rd"
      rw [if_neg (by decide +kernel)]
      refine ixw (k := 0) rfl ?_
      walk_at "rd"
      refine ixw (k := 4) rfl ?_
      walk_at "rd"
      exact q
    | _ =>
      walk_at "rd"
      refine ixw (k := 0) rfl ?_
      walk_at "rd"
      rw [if_neg (by decide +kernel)]
      refine ixw (k := 0) rfl ?_
      walk_at "rd"
      rw [if_neg (by decide +kernel)]
      refine ixw (k := 0) rfl ?_
      walk_at "rd"
      rw [if_neg (by decide +kernel)]
      refine ixw (k := 0) rfl ?_
      walk_at "rd"
      rw [if_neg (by decide +kernel)]
      exact q
end
def op10 (cols : List (List Int)) : Row10 → Bool
  | .plain R => opK cols cols.length R
  | .every _ _ _ => false
def spOpen (K : PySem.W.Frag) : Sp := fun vs H Q _ => ∃ (w l : Addr) (nv : Nat) (cols : List (List Int)) (R : Row10), vs = [.ref w, .ref l] ∧ SqL K H w (row10V R) ∧ good10 nv R ∧ LineAt K H l nv cols ∧ cols.length ≤ 100 ∧ ∀ H', Same H H' → Q (.bl (op10 cols R)) H'
section
variable {P : Program} {w : World} {K : PySem.W.Frag} {mg : Str → Option Value} {base : Heap} {aM : Addr}
theorem ok_open {f : Addr} {fd : FuncData} (F : Fun K "_law_open" "_law_open" s_law_open f fd) (T : Txt mg aM) : FnOk P w K mg base CX0 1 f fd ["_law_row", "_law_line"] (spOpen K) := by
  refine F.ok sc_law_open (fun vs H Q E h => ?_) (fun cdv A outer s H vs Q E hr h => ?_)
  · obtain ⟨w, l, nv, cols, R, rfl, _⟩ := h
    rfl
  obtain ⟨w, l, nv, cols, R, rfl, hw, hg, ⟨ps, hps, hpl, hpc⟩, hcl, q⟩ := h
  refine ⟨_, (pss_cons (ps_if (pt_cmpR (opEqC K (hu5 hr)) (pe_ix (ixAK K) (pv 0) pe_int (fun _ _ => rfl)) pe_str (nomark _)) (pss_one (ps_ret (pe_cmpR opLt (pe_callB (call_lenK K) (by rfl) T.n_len boot_len (pa_cons (pe_comp (own := ["_law_notes_here"]) (js := [0]) rfl (pi_anyK K (pv 1)) (CompOk.of (by rfl)) (fun _ _ _ _ _ => (pg_name (i := 0) (show List.Nodup (["_law_notes_here", "_law_row"] : List Str) from by decide +kernel) rfl (Or.inl rfl))) (fun _ _ _ _ _ => pts_one (pt_cmpR (opEqC K (hu5 hr)) (pe_ix (ixAK K) (pv 0) (pe_op op_sub (pe_ix (ixAK K) (pv 1) pe_int (fun _ _ => rfl)) pe_int) (fun _ _ => rfl)) (pe_ix (ixAK K) (pv 1) pe_int (fun _ _ => rfl)) (nomark _))) (fun _ _ _ _ _ => (pv 0))) pa_nil)) (pe_ix (ixAK K) (pv 0) pe_int (fun _ _ => rfl)) (nomark _)))) pss_nil)
  (pss_cons (ps_if (pt_cmpR (opEqC K (hu5 hr)) (pe_ix (ixAK K) (pv 0) pe_int (fun _ _ => rfl)) pe_str (nomark _)) (pss_one (ps_ret (pe_and (pe_cmpR (opNeC K (hu5 hr)) (pv 1) (pe_lst pa_nil) (nomark _)) (pe_one (pe_cmpR (opNotInK K) (pe_ix (ixAK K) (pe_ix (ixAK K) (pv 1) (pe_un un_neg pe_int) (fun _ _ => rfl)) (pe_op op_sub (pe_ix (ixAK K) (pv 0) pe_int (fun _ _ => rfl)) pe_int) (fun _ _ => rfl)) (pe_slice (slAK K) (pv 0) (po_some pe_int) po_none) (by with_unfolding_all rfl)))))) pss_nil)
  (pss_cons (ps_if (pt_cmpR (opEqC K (hu5 hr)) (pe_ix (ixAK K) (pv 0) pe_int (fun _ _ => rfl)) pe_str (nomark _)) (pss_cons (ps_set (i := 2) sc_law_open.nd rfl (Or.inl rfl) (pe_op op_sub (pe_ix (ixAK K) (pv 0) pe_int (fun _ _ => rfl)) pe_int))
  (pss_one (ps_ret (pe_and (pe_cmpR op_gt (pe_callB (call_lenK K) (by rfl) T.n_len boot_len (pa_cons (pv 1) pa_nil)) pe_int (nomark _)) (pe_one (pe_cmpR op_gt (pe_callB (call_abs) (by rfl) T.n_abs boot_abs (pa_cons (pe_op op_sub (pe_ix (ixAK K) (pe_ix (ixAK K) (pv 1) (pe_un un_neg pe_int) (fun _ _ => rfl)) (pv 2) (fun _ _ => rfl)) (pe_ix (ixAK K) (pe_ix (ixAK K) (pv 1) (pe_un un_neg pe_int) (fun _ _ => rfl)) (pv 2) (fun _ _ => rfl))) pa_nil)) (pe_ix (ixAK K) (pv 0) pe_int (fun _ _ => rfl)) (nomark _))))))) pss_nil)
  (pss_one (ps_ret pe_bl))))), ?_⟩
  have hs : sizeLine = 16777216 := sizeLine_eq
  have ixw : ∀ {k : Nat} {x : V} {Q' : VK}, (row10V R)[k]? = some x → Q' x H → rIx K (.ref w) (.int (k : Int)) H Q' := fun hx hq => rIx_l hw (atI_nat hx) hq
  cases R with
  | every m a R =>
    walk_at "rd"
    refine ixw (k := 0) rfl ?_
    walk_at "rd"
    rw [if_neg (by decide +kernel)]
    refine ixw (k := 0) rfl ?_
    walk_at "rd"
    rw [if_neg (by decide +kernel)]
    refine ixw (k := 0) rfl ?_
    walk_at "rd"
    rw [if_neg (by decide +kernel)]
    exact q _ (Same.refl _)
  | plain R =>
    cases R with
    | times o nt lw hgh =>
      walk_at "rd"
      refine ixw (k := 0) rfl ?_
      walk_at "rd"
      obtain ⟨o0, o1, _⟩ := hg
      refine rIt_lst hps (cloop_list (xs := ps.map V.ref) (fun j ys H' => ys.length = cntF o nt cols j ∧ ys.length ≤ j ∧ H = H') (by rw [List.length_map]; omega) ⟨rfl, Nat.le_refl _, rfl⟩ ?_ ?_ ?_ ?_)
      · rintro j ys H' ⟨h1, h2, rfl⟩
        exact h2
      · rintro j ys H' ⟨h1, h2, rfl⟩
        exact hps
      · rintro j x ys H' hx ⟨h1, h2, rfl⟩
        have hj : j < ps.length := by have := (List.getElem?_eq_some_iff.mp hx).1; rw [List.length_map] at this; exact this
        have e1 : ps[j]? = some ps[j] := List.getElem?_eq_getElem hj
        have e2 : cols[j]? = some (cols[j]'(by omega)) := List.getElem?_eq_getElem (by omega)
        rw [List.getElem?_map, e1] at hx
        cases hx
        obtain ⟨g3, g4⟩ := hpc _ _ _ e1 e2
        have hc := cnt_succ o nt cols j _ e2
        walk_at "rd"
        refine ixw (k := 1) rfl ?_
        walk_at "rd"
        rw [show (o + 1 - 1) = o by omega]
        refine rIx_t g3 (noteA_ix o0 (by omega)) (ixw (k := 2) rfl ?_)
        walk_at "rd"
        by_cases h : noteA (cols[j]'(by omega)) (o + 1) = nt
        · rw [if_pos (show hitF o nt (cols[j]'(by omega)) = true from decide_eq_true h)] at hc
          simp only [h]
          simp [hc, h1]
          omega
        · rw [if_neg (show ¬ (hitF o nt (cols[j]'(by omega)) = true) by unfold hitF; rw [decide_eq_false h]; exact Bool.false_ne_true)] at hc
          simp only [h]
          simp [hc, h1]
          omega
      · rintro ys H' ⟨h1, h2, rfl⟩ p hp
        have s2 : Same H (upd H p (.lst ys)) := same_upd hp
        rw [List.length_map, hpl] at h1
        refine ⟨ys, .inl (SqL.of upd_same), rIx_l (s2.seq hw) (show atI _ ((3 : Nat) : Int) = _ from atI_nat rfl) ⟨_, rfl, ?_⟩⟩
        rw [h1]
        exact q _ s2
    | close o D =>
      obtain ⟨o0, o1⟩ := hg
      walk_at "rd"
      refine ixw (k := 0) rfl ?_
      walk_at "rd"
      rw [if_neg (by decide +kernel)]
      refine ixw (k := 0) rfl ?_
      walk_at "rd"
      refine ⟨by omega, fun p hp => ?_⟩
      have s1 : Same H (upd H p (.lst [])) := same_upd hp
      have g1 : (upd H p (.lst [])) p = some (.lst []) := upd_same
      generalize upd H p (.lst []) = H1 at s1 g1
      refine rNeC_nil (l := true) (s1.seq hps) (SqL.of g1) ⟨_, rfl, ?_⟩
      have eO : op10 cols (.plain (.close o D)) = (decide (cols.length ≠ 0) && !decide (ntF o cols (cols.length - 1) ∈ D)) := rfl
      rw [eO] at q
      by_cases h0 : cols.length = 0
      · rw [if_neg (by simp [hpl, h0])]
        rw [decide_eq_false (fun z => z h0), Bool.false_and] at q
        exact q _ s1
      rw [if_pos (by simp [hpl, h0])]
      rw [decide_eq_true h0, Bool.true_and] at q
      obtain ⟨n, hn⟩ : ∃ n, cols.length = n + 1 := ⟨cols.length - 1, by omega⟩
      have e1 : ps[n]? = some (ps[n]'(by omega)) := List.getElem?_eq_getElem (by omega)
      have e2 : cols[n]? = some (cols[n]'(by omega)) := List.getElem?_eq_getElem (by omega)
      obtain ⟨g3, g4⟩ := hpc _ _ _ e1 e2
      refine rIx_l (s1.seq hps) (atI_lastN (n := n) (by rw [List.length_map]; omega) (by rw [List.getElem?_map, e1]; rfl)) (rIx_l (s1.seq hw) (show atI _ ((1 : Nat) : Int) = _ from atI_nat rfl) ⟨_, rfl, ?_⟩)
      rw [show (o + 1 - 1) = o by omega]
      refine rIx_t (s1.tup g3) (noteA_ix o0 (by omega)) (rSlA_l (s1.seq hw) fun p2 hp2 => ?_)
      rw [show (some (2 : Int)) = some ((2 : Nat) : Int) from rfl, cutV_from]
      rw [show cols.length - 1 = n by omega, nt_at e2] at q
      exact rNotIn_ints (D := D) (SqL.of upd_same) (q _ (s1.upd (o := .lst (D.map V.int)) hp2))
    | back o far =>
      obtain ⟨o0, o1, hf⟩ := hg
      walk_at "rd"
      refine ixw (k := 0) rfl ?_
      walk_at "rd"
      rw [if_neg (by decide +kernel)]
      refine ixw (k := 0) rfl ?_
      walk_at "rd"
      rw [if_neg (by decide +kernel)]
      refine ixw (k := 0) rfl ?_
      walk_at "rd"
      refine ixw (k := 1) rfl ⟨_, rfl, _, .inl hps, ?_⟩
      rw [List.length_map, hpl, show (o + 1 - 1) = o by omega]
      have eO : op10 cols (.plain (.back o far)) = (decide (2 ≤ cols.length) && (decide (mvF o cols (cols.length - 1) > far) || decide (mvF o cols (cols.length - 1) < 0 - far))) := rfl
      rw [eO] at q
      by_cases h1 : (1 : Int) < cols.length
      · rw [if_pos h1]
        rw [decide_eq_true (show 2 ≤ cols.length by omega), Bool.true_and] at q
        obtain ⟨n, hn⟩ : ∃ n, cols.length = n + 2 := ⟨cols.length - 2, by omega⟩
        have e1 : ps[n + 1]? = some (ps[n + 1]'(by omega)) := List.getElem?_eq_getElem (by omega)
        have e2 : cols[n + 1]? = some (cols[n + 1]'(by omega)) := List.getElem?_eq_getElem (by omega)
        have e3 : ps[n]? = some (ps[n]'(by omega)) := List.getElem?_eq_getElem (by omega)
        have e4 : cols[n]? = some (cols[n]'(by omega)) := List.getElem?_eq_getElem (by omega)
        obtain ⟨g3, g4⟩ := hpc _ _ _ e1 e2
        obtain ⟨g5, g6⟩ := hpc _ _ _ e3 e4
        have a2 : atI (ps.map V.ref) (-2) = some (.ref (ps[n]'(by omega))) := by
          unfold atI ixN
          rw [if_neg (by decide), if_pos (by rw [List.length_map]; omega), List.length_map]
          show (ps.map V.ref)[((-2 : Int) + (ps.length : Int)).toNat]? = _
          rw [show ((-2 : Int) + (ps.length : Int)).toNat = n by omega, List.getElem?_map, e3]
          rfl
        refine rIx_l hps (atI_lastN (n := n + 1) (by rw [List.length_map]; omega) (by rw [List.getElem?_map, e1]; rfl)) (rIx_t g3 (noteA_ix o0 (by omega)) (rIx_l hps a2 (rIx_t g5 (noteA_ix o0 (by omega)) ⟨_, rfl, _, rfl, ixw (k := 2) rfl ⟨_, rfl, ?_⟩⟩)))
        have em : mvF o cols (cols.length - 1) = noteA (cols[n + 1]'(by omega)) (o + 1) - noteA (cols[n]'(by omega)) (o + 1) := by
          unfold mvF
          rw [show cols.length - 1 = n + 1 by omega, Nat.add_sub_cancel, nt_at e2, nt_at e4]
        rw [em] at q
        have q' := q _ (Same.refl _)
        generalize noteA (cols[n + 1]'(by omega)) (o + 1) - noteA (cols[n]'(by omega)) (o + 1) = a at q'
        have eq : (decide (a > far) || decide (a < 0 - far)) = decide (far < if a < 0 then -a else a) := by
          rw [Bool.eq_iff_iff, Bool.or_eq_true, decide_eq_true_eq, decide_eq_true_eq, decide_eq_true_eq]
          split <;> omega
        rw [eq] at q'
        exact q'
      · rw [if_neg h1]
        rw [decide_eq_false (show ¬ (2 ≤ cols.length) by omega), Bool.false_and] at q
        exact q _ (Same.refl _)
    | _ =>
      walk_at "rd"
      refine ixw (k := 0) rfl ?_
      walk_at "rd"
      rw [if_neg (by decide +kernel)]
      refine ixw (k := 0) rfl ?_
      walk_at "rd"
      rw [if_neg (by decide +kernel)]
      refine ixw (k := 0) rfl ?_
      walk_at "rd"
      rw [if_neg (by decide +kernel)]
      exact q _ (Same.refl _)
end
def spColumn (K : PySem.W.Frag) : Sp := fun vs H Q _ => ∃ (n st wd : Int) (b : Addr) (bs : List Int), vs = [.int n, .ref b, .int st, .int wd] ∧ 1 ≤ wd ∧ wd ≤ 7 ∧ SqL K H b (bs.map V.int) ∧ bs.length ≤ 4 ∧ (∀ b ∈ bs, b.natAbs ≤ 10 ^ 31) ∧ 0 ≤ n ∧ n.natAbs < 2 ^ 64 ∧ 1 ≤ st ∧ st ≤ 10 ^ 13 ∧ ∀ t (us : List Int) H', us.length = bs.length → (∀ u ∈ us, u.natAbs ≤ 10 ^ 32) → H' t = some (.tup (us.map V.int)) → H t = none → Same H H' → Q (.ref t) H'
def spGrown (K : PySem.W.Frag) : Sp := fun vs H Q _ => ∃ (cl rw md b : Addr) (ms bs : List Int) (R : Row10) (st wd : Int), vs = [.ref cl, .ref rw, .ref md] ∧ SqL K H cl (ms.map V.int) ∧ ms.length ≤ 63 ∧ SqL K H rw (row10V R) ∧ good10 bs.length R ∧ SqT K H md [.ref b, .int st, .int wd] ∧ BasesAt K H b bs st ∧ 1 ≤ wd ∧ wd ≤ 7 ∧
  ∀ (l : Addr) (ps : List Addr) (cols : List (List Int)) H', H' l = some (.lst (ps.map V.ref)) → ps.length = cols.length → cols.length ≤ 63 → (∀ (i : Nat) (p : Addr) (us : List Int), ps[i]? = some p → cols[i]? = some us → SqT K H' p (us.map V.int) ∧ us.length = bs.length) → Same H H' → Q (.ref l) H'
def spFirst (K : PySem.W.Frag) : Sp := fun vs H Q _ => ∃ (w l : Addr) (nv : Nat) (cols : List (List Int)) (R : Row10), vs = [.ref w, .ref l] ∧ SqL K H w (row10V R) ∧ good10 nv R ∧ LineAt K H l nv cols ∧ cols.length ≤ 100 ∧ ∀ H', Same H H' → Q (ofI ((firstN (fun i => br10 cols i R) 0 cols.length).map fun (n : Nat) => (n : Int))) H'
section
variable {P : Program} {w : World} {K : PySem.W.Frag} {mg : Str → Option Value} {base : Heap} {aM : Addr}
theorem ok_column {f : Addr} {fd : FuncData} (F : Fun K "_law_notes" "_law_notes" s_law_notes f fd) (T : Txt mg aM) (D_law_stir : Def P w K mg base "_law_stir" 1 ["_law_number", "_law_k"] spStir) : FnOk P w K mg base CX0 2 f fd ["_law_number", "_law_bases_here", "_law_step", "_law_wide"] (spColumn K) := by
  refine F.ok sc_law_notes (fun vs H Q E h => ?_) (fun cdv A outer s H vs Q E hr h => ?_)
  · obtain ⟨n, st, wd, b, bs, rfl, _⟩ := h
    rfl
  obtain ⟨n, st, wd, b, bs, rfl, w1, w7, hb, hl, hbb, n0, n1, st0, st1, q⟩ := h
  refine ⟨_, (pss_cons (ps_set (i := 4) sc_law_notes.nd rfl (Or.inl rfl) (pe_op (opMulK K) (pe_op op_fdiv (pv 0) pe_int) (pe_op op_sub pe_int (pe_op op_mod (pv 0) pe_int))))
  (pss_cons (ps_set (i := 5) sc_law_notes.nd rfl (Or.inl rfl) (pe_lst pa_nil))
  (pss_cons (ps_for PassesOwn.never rfl (pi_range1 rfl T.n_range (pa_cons (pe_callB (call_lenK K) (by rfl) T.n_len boot_len (pa_cons (pv 1) pa_nil)) pa_nil)) (pg_name (i := 6) sc_law_notes.nd rfl (Or.inl rfl))
  (pss_cons (ps_set (i := 7) sc_law_notes.nd rfl (Or.inl rfl) (pe_op op_mod (pe_def D_law_stir hr (by rfl) (pa_cons (pe_op (opAddK K) (pe_def D_law_stir hr (by rfl) (pa_cons (pv 0) (pa_cons (pv 6) pa_nil))) (pv 0)) (pa_cons (pv 6) pa_nil))) (pv 3)))
  (pss_cons (ps_if (pt_cmpR op_gt (pv 4) pe_int (nomark _)) (pss_one (ps_set (i := 7) sc_law_notes.nd rfl (Or.inl rfl) (pe_op op_mod (pv 4) (pv 3)))) pss_nil)
  (pss_cons (ps_expr (pe_bmK K PySem.F.plainAttrs_list PySem.F.slot_list_append PySem.F.type_list_append mt_append (pv 5) (pa_cons (pe_op (opAddK K) (pe_ix (ixAK K) (pv 1) (pv 6) (fun _ _ => rfl)) (pe_op (opMulK K) (pv 2) (pv 7))) pa_nil)))
  (pss_one (ps_set (i := 4) sc_law_notes.nd rfl (Or.inl rfl) (pe_op op_fdiv (pv 4) (pv 3))))))))
  (pss_one (ps_ret (pe_callTy (call_tupleK K) (by rfl) T.n_tuple boot_tuple (pa_cons (pv 5) pa_nil))))))), ?_⟩
  have hs : sizeLine = 16777216 := sizeLine_eq
  walk_at "rd"
  have bk : ∀ z : Int, z.natAbs < 2 ^ 64 → Builtin.Int.intBits z ≤ 64 := fun z h => intBits_le_iff.mpr h
  refine ⟨⟨by decide, by decide⟩, by decide, .of_right (bk _ (by omega)), by omega, fun p hp => ⟨_, .inl ((same_upd hp).seq hb), by omega, by rw [List.length_map]; omega, ?_⟩⟩
  have r0 : 0 ≤ n / 2 * (1 - n % 2) := Int.mul_nonneg (Int.ediv_nonneg n0 (by decide)) (by omega)
  refine loop_range (fun i σ H' => ∃ (rest : Int) (us : List Int) (o o' : Option V), σ = [some (.int n), some (.ref b), some (.int st), some (.int wd), some (.int rest), some (.ref p), o, o'] ∧ 0 ≤ rest ∧ us.length = i ∧ (∀ z ∈ us, z.natAbs ≤ 10 ^ 32) ∧ H' p = some (.lst (us.map V.int)) ∧ Same H H') ⟨_, [], none, none, rfl, r0, rfl, fun _ h => (by cases h), upd_same, same_upd hp⟩ ?_ ?_
  · rintro i σ H1 hi ⟨rest, us, o, o', rfl, r1, hul, hub, h1, s1⟩
    have hi' : i < bs.length := by rw [List.length_map] at hi; omega
    have xb : (List.map V.int bs)[i]? = some (.int bs[i]) := by rw [List.getElem?_map, List.getElem?_eq_getElem hi']; rfl
    have bb := hbb _ (List.getElem_mem hi')
    walk_at "rd"
    refine ⟨n, _, rfl, by omega, by omega, fun z1 H2 _ _ s2 => ?_⟩
    walk_at "rd"
    refine ⟨_, _, rfl, by omega, by omega, fun z H3 z0 z2 s3 => ?_⟩
    walk_at "rd"
    have h3 := s3 _ _ (s2 _ _ h1)
    have s3' := (s1.trans s2).trans s3
    have fin : ∀ at' : Int, 0 ≤ at' → at' < wd → rAppend (.ref p) [.int (bs[i] + st * at')] H3 (fun x H1 => CDiv rest wd ∧ 0 ≤ rest / wd ∧ ∃ x : List Int, x.length = i + 1 ∧ (∀ z : Int, z ∈ x → z.natAbs ≤ 10 ^ 32) ∧ H1 p = some (.lst (x.map V.int)) ∧ Same H H1) := fun at' a0 a1 => by
      refine ⟨p, _, _, rfl, rfl, h3, by rw [List.length_map]; omega, ⟨by omega, by omega⟩, Int.ediv_nonneg r1 (by omega), us ++ [bs[i] + st * at'], by simp [hul], fun y hy => ?_, by rw [upd_same, List.map_append]; rfl, fun c o hc => ?_⟩
      · rcases List.mem_append.mp hy with h | h
        · exact hub y h
        · rw [List.mem_singleton.mp h]
          have m1 : 0 ≤ st * at' := Int.mul_nonneg (by omega) a0
          have m2 : st * at' ≤ 10 ^ 13 * 7 := Int.mul_le_mul st1 (by omega) a0 (by decide)
          omega
      · rw [upd_ne (ne_of_none hc hp)]
        exact s3' _ _ hc
    refine ⟨by omega, ?_⟩
    by_cases hr0 : 0 < rest
    · rw [if_pos hr0]
      exact ⟨by omega, .inl ⟨rfl, _, SqL.of h3⟩, rIx_l (s3'.seq hb) (atI_nat xb) ⟨.of_left (bk _ (by omega)), rAddA_ii.mpr (fin _ (Int.emod_nonneg _ (by omega)) (Int.emod_lt_of_pos _ (by omega)))⟩⟩
    · rw [if_neg hr0]
      exact ⟨.inl ⟨rfl, _, SqL.of h3⟩, rIx_l (s3'.seq hb) (atI_nat xb) ⟨.of_left (bk _ (by omega)), rAddA_ii.mpr (fin _ (Int.emod_nonneg _ (by omega)) (Int.emod_lt_of_pos _ (by omega)))⟩⟩
  · rintro σ H1 ⟨rest, us, o, o', rfl, r1, hul, hub, h1, s1⟩
    walk_at "rd"
    refine ⟨_, .inl ⟨SqL.of h1, fun t ht => q t us _ (by rw [List.length_map] at hul; omega) hub upd_same (s1.free ht) (s1.upd ht)⟩⟩
theorem ok_grown {f : Addr} {fd : FuncData} (F : Fun K "_law_grown" "_law_grown" s_law_grown f fd) (T : Txt mg aM) (D_law_stir : Def P w K mg base "_law_stir" 3 ["_law_number", "_law_k"] spStir) (D_law_notes : Def P w K mg base "_law_notes" 3 ["_law_number", "_law_bases_here", "_law_step", "_law_wide"] (spColumn K)) (D_law_breaks : Def P w K mg base "_law_breaks" 3 ["_law_row", "_law_line", "_law_at"] (spBr10 K)) : FnOk P w K mg base CX0 4 f fd ["_law_cells", "_law_row", "_law_made"] (spGrown K) := by
  refine F.ok sc_law_grown (fun vs H Q E h => ?_) (fun cdv A outer s H vs Q E hr h => ?_)
  · obtain ⟨cl, rw, md, b, ms, bs, R, st, wd, rfl, _⟩ := h
    rfl
  obtain ⟨cl, rw, md, b, ms, bs, R, st, wd, rfl, hS, hml, hRw, hgd, hMd, B, w1, w7, q⟩ := h
  refine ⟨_, (pss_cons (ps_asg (pv 2) (pg_tupK K (n := 3) rfl (pgs_cons (pg_name (i := 3) sc_law_grown.nd rfl (Or.inl rfl)) (pgs_cons (pg_name (i := 4) sc_law_grown.nd rfl (Or.inl rfl)) (pgs_cons (pg_name (i := 5) sc_law_grown.nd rfl (Or.inl rfl)) pgs_nil)))))
  (pss_cons (ps_set (i := 6) sc_law_grown.nd rfl (Or.inl rfl) (pe_lst pa_nil))
  (pss_cons (ps_for PassesOwn.never rfl (pi_anyK K (pv 0)) (pg_name (i := 7) sc_law_grown.nd rfl (Or.inl rfl))
  (pss_cons (ps_set (i := 8) sc_law_grown.nd rfl (Or.inl rfl) (pe_op op_mod (pv 7) (pe_op (opMulK K) pe_int (pe_op op_pow pe_int pe_int))))
  (pss_cons (ps_expr (pe_bmK K PySem.F.plainAttrs_list PySem.F.slot_list_append PySem.F.type_list_append mt_append (pv 6) (pa_cons (pe_def D_law_notes hr (by rfl) (pa_cons (pe_op op_fdiv (pv 8) pe_int) (pa_cons (pv 3) (pa_cons (pv 4) (pa_cons (pv 5) pa_nil))))) pa_nil)))
  (pss_one (ps_for PassesOwn.never rfl (pi_range1 rfl T.n_range (pa_cons (pe_op (opMulK K) (pe_op op_mod (pv 8) pe_int) pe_int) pa_nil)) (pg_name (i := 9) sc_law_grown.nd rfl (Or.inl rfl))
  (pss_one (ps_if (pt_truth (pe_def D_law_breaks hr (by rfl) (pa_cons (pv 1) (pa_cons (pv 6) (pa_cons (pe_op op_sub (pe_callB (call_lenK K) (by rfl) T.n_len boot_len (pa_cons (pv 6) pa_nil)) pe_int) pa_nil)))) (fun _ => rfl)) (pss_one (ps_asg (pe_def D_law_notes hr (by rfl) (pa_cons (pe_def D_law_stir hr (by rfl) (pa_cons (pv 8) (pa_cons (pe_op (opAddK K) pe_int (pv 9)) pa_nil))) (pa_cons (pv 3) (pa_cons (pv 4) (pa_cons (pv 5) pa_nil))))) (pg_sub (pv 6) (pe_un un_neg pe_int) set_list))) pss_nil)))))))
  (pss_one (ps_ret (pv 6)))))), ?_⟩
  have hs : sizeLine = 16777216 := sizeLine_eq
  have l1 := B.l1
  have l4 := B.l4
  refine cut2 (fun σ H' => σ = [some (.ref cl), some (.ref rw), some (.ref md), some (.ref b), some (.int st), some (.int wd), none, none, none, none] ∧ H = H') ?_ ?_
  rotate_left
  · intro u' hu
    walk_at "rd"
    refine ⟨_, hMd, rfl, ?_⟩
    walk_at "rd"
    exact hu _ _ ⟨rfl, rfl⟩
  rintro _ _ ⟨rfl, rfl⟩
  walk_at "rd"
  refine ⟨by omega, fun l hl => ?_⟩
  have s0 : Same H (upd H l (.lst [])) := same_upd hl
  refine rIt_lst (s0.seq hS) (loop_list (xs := ms.map V.int) (fun i σ H' => ∃ (ps : List Addr) (cols : List (List Int)) (o1 o2 o3 : Option V), σ = [some (.ref cl), some (.ref rw), some (.ref md), some (.ref b), some (.int st), some (.int wd), some (.ref l), o1, o2, o3] ∧ ps.length = i ∧ ColsAt H' bs.length ps cols ∧ H' l = some (.lst (ps.map V.ref)) ∧ Same H H')
    ⟨[], [], none, none, none, rfl, rfl, ColsAt.nil, upd_same, s0⟩ (fun i σ H' _ z => by obtain ⟨_, _, _, _, _, _, _, _, _, z⟩ := z; exact z.seq hS) ?_ ?_)
  · rintro i y σ H1 hy ⟨ps, cols, o1', o2, o3, rfl, hpl, hc, h1, s1⟩
    have hi : i < ms.length := by have := (List.getElem?_eq_some_iff.mp hy).1; rw [List.length_map] at this; exact this
    obtain ⟨c, rfl⟩ : ∃ c, y = .int c := by
      obtain ⟨z, hz, e⟩ := List.mem_map.mp (List.mem_of_getElem? hy)
      exact ⟨z, e.symm⟩
    refine cut2 (fun σ H' => ∃ (z : Int), 0 ≤ z ∧ z < 4 * 10 ^ 9 ∧ σ = [some (.ref cl), some (.ref rw), some (.ref md), some (.ref b), some (.int st), some (.int wd), some (.ref l), some (.int c), some (.int z), o3] ∧ H1 = H') ?_ ?_
    rotate_left
    · intro u' hu
      walk_at "rd"
      exact ⟨⟨by decide, by decide, by decide⟩, .of_left (by decide), by decide, hu _ _ ⟨_, Int.emod_nonneg _ (by decide), Int.emod_lt_of_pos _ (by decide), rfl, rfl⟩⟩
    rintro _ _ ⟨z, z0, z1, rfl, rfl⟩
    refine cut2 (fun σ H' => ∃ (ps : List Addr) (cols : List (List Int)), ps.length = i + 1 ∧ ColsAt H' bs.length ps cols ∧ H' l = some (.lst (ps.map V.ref)) ∧ σ = [some (.ref cl), some (.ref rw), some (.ref md), some (.ref b), some (.int st), some (.int wd), some (.ref l), some (.int c), some (.int z), o3] ∧ Same H H') ?_ ?_
    rotate_left
    · intro u' hu
      walk_at "rd"
      refine ⟨.inl ⟨rfl, _, SqL.of h1⟩, ⟨by decide, by decide⟩, _, st, wd, b, bs, rfl, w1, w7, s1.seq B.lst, l4, B.bb, by omega, by omega, B.s0, B.s1, fun tt us H9 hul hub ht9 _ s9 => ?_⟩
      refine ⟨l, _, _, rfl, rfl, s9 _ _ h1, by rw [List.length_map]; omega, hu _ _ ⟨ps ++ [tt], cols ++ [us], by simp [hpl], ((hc.same s9).snoc ht9 hul).updl (s9 _ _ h1), by rw [upd_same, List.map_append]; rfl, rfl, fun c' u hc' => ?_⟩⟩
      rw [upd_ne (ne_of_none hc' hl)]
      exact (s1.trans s9) _ _ hc'
    clear hpl hc h1 s1 ps cols
    rintro _ H2 ⟨ps, cols, hpl, hc, h2, rfl, s2⟩
    walk_at "rd"
    refine ⟨by decide, .of_right (by decide), by omega, by omega, loop_range (fun j σ H' => ∃ (ps : List Addr) (cols : List (List Int)) (o3 : Option V), ps.length = i + 1 ∧ ColsAt H' bs.length ps cols ∧ H' l = some (.lst (ps.map V.ref)) ∧ σ = [some (.ref cl), some (.ref rw), some (.ref md), some (.ref b), some (.int st), some (.int wd), some (.ref l), some (.int c), some (.int z), o3] ∧ Same H H') ⟨ps, cols, o3, hpl, hc, h2, rfl, s2⟩ ?_ ?_⟩
    · clear hpl hc h2 s2 ps cols
      rintro j σ H3 hj ⟨ps, cols, o3', hpl, hc, h3, rfl, s3⟩
      walk_at "rd"
      have hcl := hc.1
      have nochange : ∀ H', Same H3 H' → ∃ x : List Addr, x.length = i + 1 ∧ ∃ x_1 : List (List Int), ColsAt H' bs.length x x_1 ∧ H' l = some (.lst (x.map V.ref)) ∧ Same H H' := fun H' sm => ⟨ps, hpl, cols, hc.same sm, sm _ _ h3, s3.trans sm⟩
      refine ⟨_, .inl (SqL.of h3), ?_⟩
      rw [show (((ps.map V.ref).length : Int) - 1) = ((i : Nat) : Int) by rw [List.length_map]; omega]
      refine ⟨rw, l, i, bs.length, cols, R, rfl, s3.seq hRw, hgd, hc.line h3, by omega, by omega, fun H3' s33 => ?_⟩
      walk_at "rd"
      by_cases hb : br10 cols i R = true
      · rw [if_pos hb]
        replace hc := hc.same s33
        replace h3 := s33 _ _ h3
        replace s3 := s3.trans s33
        refine ⟨z, _, rfl, by omega, by omega, fun z' H4 z0' z1' s4 => ?_⟩
        refine ⟨z', st, wd, b, bs, rfl, w1, w7, (s3.trans s4).seq B.lst, l4, B.bb, by omega, by omega, B.s0, B.s1, fun tt us' H9 hul' hub' ht9 _ s9 => ?_⟩
        have s49 := s4.trans s9
        refine ⟨_, s49 _ _ h3, i, by rw [List.length_map, hpl]; exact ixN_last i, ps.set i tt, by simp [hpl], cols.set i us', ((hc.same s49).set i ht9 hul').updl (s49 _ _ h3), by rw [upd_same, List.map_set], fun c' u hc' => ?_⟩
        rw [upd_ne (ne_of_none hc' hl)]
        exact (s3.trans s49) _ _ hc'
      · rw [if_neg hb]
        exact nochange _ s33
    · clear hpl hc h2 s2 ps cols
      rintro σ H3 ⟨ps, cols, o3', hpl, hc, h3, rfl, s3⟩
      exact ⟨ps, cols, _, _, _, rfl, hpl, hc, h3, s3⟩
  · rintro σ H1 ⟨ps, cols, o1', o2, o3, rfl, hpl, hc, h1, s1⟩
    walk_at "rd"
    rw [List.length_map] at hpl
    have hcl := hc.1
    exact q l ps cols _ h1 hc.1 (by omega) hc.at s1
theorem ok_first {f : Addr} {fd : FuncData} (F : Fun K "_law_first" "_law_first" s_law_first f fd) (T : Txt mg aM) (D_law_breaks : Def P w K mg base "_law_breaks" 3 ["_law_row", "_law_line", "_law_at"] (spBr10 K)) : FnOk P w K mg base CX0 4 f fd ["_law_row", "_law_line"] (spFirst K) := by
  refine F.ok sc_law_first (fun vs H Q E h => ?_) (fun cdv A outer s H vs Q E hr h => ?_)
  · obtain ⟨w, l, nv, cols, R, rfl, _⟩ := h
    rfl
  obtain ⟨w, l, nv, cols, R, rfl, hw, hg, LL, hcl, q⟩ := h
  refine ⟨_, (pss_cons (ps_for PassesOwn.never rfl (pi_range1 rfl T.n_range (pa_cons (pe_callB (call_lenK K) (by rfl) T.n_len boot_len (pa_cons (pv 1) pa_nil)) pa_nil)) (pg_name (i := 2) sc_law_first.nd rfl (Or.inl rfl))
  (pss_one (ps_if (pt_truth (pe_def D_law_breaks hr (by rfl) (pa_cons (pv 0) (pa_cons (pv 1) (pa_cons (pv 2) pa_nil)))) (fun _ => rfl)) (pss_one (ps_ret (pv 2))) pss_nil)))
  (pss_one (ps_ret pe_non))), ?_⟩
  walk_at "rd"
  have LL0 := LL
  obtain ⟨ps, hps, hpl, hpc⟩ := LL
  refine ⟨_, .inl hps, by omega, by rw [List.length_map]; omega, ?_⟩
  rw [List.length_map, hpl]
  generalize hB : (fun i => br10 cols i R) = B at q
  refine loop_range (fun i σ H' => ∃ o1 : Option V, σ = [some (.ref w), some (.ref l), o1] ∧ Same H H' ∧ firstN B 0 cols.length = firstN B i (cols.length - i)) ⟨none, rfl, Same.refl _, rfl⟩ ?_ ?_
  · rintro i σ H1 hi ⟨o1', rfl, s1, e⟩
    have hi' : i < cols.length := by omega
    walk_at "rd"
    refine ⟨w, l, i, nv, cols, R, rfl, s1.seq hw, hg, LL0.same s1, hi', hcl, fun H2 s2 => ?_⟩
    walk_at "rd"
    rw [show cols.length - i = cols.length - (i + 1) + 1 by omega, firstN] at e
    have eB : br10 cols i R = B i := by rw [← hB]
    rw [eB]
    by_cases hb : B i = true
    · rw [if_pos hb]
      rw [if_pos hb] at e
      have q' := q _ (s1.trans s2)
      rw [e] at q'
      exact q'
    · rw [if_neg hb]
      rw [if_neg hb] at e
      exact ⟨s1.trans s2, e⟩
  · rintro σ H1 ⟨o1', rfl, s1, e⟩
    walk_at "rd"
    rw [Int.toNat_natCast, Nat.sub_self, firstN] at e
    have q' := q _ s1
    rw [e] at q'
    exact q'
end
def sem10 : Row10 → RSem
  | .plain R => semK R
  | .every m a R => semEvery m a (semK R)
def mem10 (cols : List (List Int)) (i : Nat) : Row10 → Int
  | .plain R => memK cols i R
  | .every m _ _ => (i : Int) % m
def G10 : Row10 → Int → Prop
  | .plain R => memG R
  | .every m _ _ => memEv m
theorem size10 (R : Row10) : (sem10 R).size = sz10 R := by
  cases R <;> rfl
theorem inn_none {cols : List (List Int)} {i : Nat} {us : List Int} {b : Option (List Int)} {R : RowK} (hu : cols[i]? = some us) (hi : innK R) : (semK R).after (semK R).start b us = if brK cols i R = true then none else some 0 := by
  cases R with
  | span o t D =>
    show (if noteA us (t + 1) - noteA us (o + 1) ∈ D then some 0 else none) = if (!decide (ntF t cols i - ntF o cols i ∈ D)) = true then none else some 0
    rw [nt_at hu, nt_at hu]
    by_cases h : noteA us (t + 1) - noteA us (o + 1) ∈ D
    · rw [if_pos h, decide_eq_true h]; rfl
    · rw [if_neg h, decide_eq_false h]; rfl
  | clock o t h D =>
    show (if (noteA us (t + 1) - noteA us (o + 1)) % h ∈ D then some 0 else none) = if (!decide ((ntF t cols i - ntF o cols i) % h ∈ D)) = true then none else some 0
    rw [nt_at hu, nt_at hu]
    by_cases h : (noteA us (t + 1) - noteA us (o + 1)) % h ∈ D
    · rw [if_pos h, decide_eq_true h]; rfl
    · rw [if_neg h, decide_eq_false h]; rfl
  | _ => exact hi.elim
theorem walks10 (nv : Nat) (cols : List (List Int)) (R : Row10) (hg : good10 nv R) : Walks (sem10 R) cols (fun i => mem10 cols i R) (fun i => br10 cols i R) := by
  cases R with
  | plain R => exact walksK nv cols R hg
  | every m a R =>
    obtain ⟨hg, hin, m1, a0, a1⟩ := hg
    refine ⟨by show (0 : Int) = ((0 : Nat) : Int) % m; simp, fun i us hu => ?_⟩
    have em : ((i : Int) % m + 1) % m = ((i + 1 : Nat) : Int) % m := by
      rw [Int.emod_add_emod]
      rfl
    show (if (i : Int) % m = a then (if (semK R).after (semK R).start (prevC cols i) us = none then none else some (((i : Int) % m + 1) % m)) else some (((i : Int) % m + 1) % m)) = if (decide ((i : Int) % m = a) && brK cols i R) = true then none else some (((i + 1 : Nat) : Int) % m)
    rw [em, inn_none hu hin]
    by_cases h : (i : Int) % m = a
    · rw [if_pos h, decide_eq_true h, Bool.true_and]
      by_cases hb : brK cols i R = true
      · rw [if_pos hb, if_pos rfl, if_pos hb]
      · rw [if_neg hb, if_neg hb, if_neg (fun z => by cases z)]
    · rw [if_neg h, decide_eq_false h, Bool.false_and]
      rfl
theorem nt_take {o : Int} {cols : List (List Int)} {i j : Nat} (h : j < i) : ntF o (cols.take i) j = ntF o cols j := by
  unfold ntF
  rw [List.getD_eq_getElem?_getD, List.getD_eq_getElem?_getD, List.getElem?_take, if_pos h]
theorem op_take (cols : List (List Int)) (i : Nat) (hi : i ≤ cols.length) (R : RowK) : opK (cols.take i) (cols.take i).length R = opK cols i R := by
  have hl : (cols.take i).length = i := by rw [List.length_take]; omega
  rw [hl]
  cases R with
  | times o nt lw hgh =>
    show decide ((cntF o nt (cols.take i) i : Int) < lw) = decide ((cntF o nt cols i : Int) < lw)
    have : cntF o nt (cols.take i) i = cntF o nt cols i := by
      unfold cntF
      rw [List.take_take, Nat.min_self]
    rw [this]
  | close o D =>
    cases i with
    | zero => rfl
    | succ i =>
      show (decide (i + 1 ≠ 0) && !decide (ntF o (cols.take (i + 1)) (i + 1 - 1) ∈ D)) = (decide (i + 1 ≠ 0) && !decide (ntF o cols (i + 1 - 1) ∈ D))
      rw [nt_take (by omega)]
  | back o far =>
    show (decide (2 ≤ i) && (decide (mvF o (cols.take i) (i - 1) > far) || decide (mvF o (cols.take i) (i - 1) < 0 - far))) = (decide (2 ≤ i) && (decide (mvF o cols (i - 1) > far) || decide (mvF o cols (i - 1) < 0 - far)))
    by_cases h2 : 2 ≤ i
    · have : mvF o (cols.take i) (i - 1) = mvF o cols (i - 1) := by
        unfold mvF
        rw [nt_take (by omega), nt_take (by omega)]
      rw [this]
    · rw [decide_eq_false h2, Bool.false_and, Bool.false_and]
  | _ => rfl
theorem closes10 (nv : Nat) (cols : List (List Int)) (R : Row10) (hg : good10 nv R) (i : Nat) (hi : i ≤ cols.length) : (sem10 R).closes (mem10 cols i R) (prevC cols i) = !op10 (cols.take i) R := by
  cases R with
  | plain R =>
    show (semK R).closes (memK cols i R) (prevC cols i) = !opK (cols.take i) (cols.take i).length R
    rw [op_take cols i hi]
    exact closesK nv cols R hg i hi
  | every m a R => rfl
theorem bounds10 (nv : Nat) (cols : List (List Int)) (R : Row10) (i : Nat) (h : G10 R (mem10 cols i R)) : 0 ≤ mem10 cols i R ∧ mem10 cols i R < sz10 R := by
  cases R with
  | plain R => exact boundsK nv cols R i h
  | every m a R => exact h
def spGood (P : Program) (w : World) (K : PySem.W.Frag) (mg : Str → Option Value) (base : Heap) : Sp := fun vs H Q _ => ∃ (r w' l C : Addr) (RI : RIT) (nv : Nat) (cols : List (List Int)) (R : Row10) (m : Int), vs = [.ref r, .ref w', .int m, .ref l] ∧ RuleObj P w K mg base 7 nv C (sem10 R) RI (G10 R) ∧ RI r H ∧ SqL K H w' (row10V R) ∧ good10 nv R ∧ LineAt K H l nv cols ∧ cols.length ≤ 100 ∧ G10 R m ∧ 0 ≤ m ∧ m < sz10 R ∧ (sem10 R).closes m (prevC cols cols.length) = !op10 cols R ∧ ∀ H', Same H H' → Q (.bl true) H'
section
variable {P : Program} {w : World} {K : PySem.W.Frag} {mg : Str → Option Value} {base : Heap} {aM : Addr}
theorem ok_good {f : Addr} {fd : FuncData} (F : Fun K "_law_memory_good" "_law_memory_good" s_law_memory_good f fd) (T : Txt mg aM) (D_law_size_of : Def P w K mg base "_law_size_of" 7 ["_law_row"] (spSizeOf K)) (D_law_open : Def P w K mg base "_law_open" 7 ["_law_row", "_law_line"] (spOpen K)) : FnOk P w K mg base CX0 8 f fd ["_law_rule", "_law_row", "_law_memory", "_law_line"] (spGood P w K mg base) := by
  refine F.ok sc_law_memory_good (fun vs H Q E h => ?_) (fun cdv A outer s H vs Q E hr h => ?_)
  · obtain ⟨r, w', l, C, RI, nv, cols, R, m, rfl, _⟩ := h
    rfl
  obtain ⟨r, w', l, C, RI, nv, cols, R, m, rfl, RB, hri, hw, hg, LL, hcl, gm, m0, m1, hc, q⟩ := h
  refine ⟨_, (pss_cons (ps_if (PW.pt (pw_or (pt_not (pt_truth (pe_callB (call_isinstK K) (by rfl) T.n_isinstance boot_isinstance (pa_cons (pv 2) (pa_cons (pe_bltn (v := .ty "int") (by rfl) T.n_int boot_int rfl) pa_nil))) (fun _ => rfl))) (pw_or1 (pt_truth (pe_callB (call_isinstK K) (by rfl) T.n_isinstance boot_isinstance (pa_cons (pv 2) (pa_cons (pe_bltn (v := .ty "bool") (by rfl) T.n_bool boot_bool rfl) pa_nil))) (fun _ => rfl))))) (pss_one (ps_ret pe_bl)) pss_nil)
  (pss_cons (ps_if (PW.pt (pw_or (pt_cmpR opLt (pv 2) pe_int (nomark _)) (pw_or1 (pt_cmpR op_ge (pv 2) (pe_def D_law_size_of hr (by rfl) (pa_cons (pv 1) pa_nil)) (nomark _))))) (pss_one (ps_ret pe_bl)) pss_nil)
  (pss_cons (ps_set (i := 4) sc_law_memory_good.nd rfl (Or.inl rfl) pe_non)
  (pss_cons (ps_if (pt_cmpR (opNeC K (hu5 hr)) (pv 3) (pe_lst pa_nil) (nomark _)) (pss_one (ps_set (i := 4) sc_law_memory_good.nd rfl (Or.inl rfl) (pe_ix (ixAK K) (pv 3) (pe_un un_neg pe_int) (fun _ _ => rfl)))) pss_nil)
  (pss_cons (ps_set (i := 5) sc_law_memory_good.nd rfl (Or.inl rfl) (pe_methG P w K mg base hr (pv 0) (pa_cons (pv 2) (pa_cons (pv 4) pa_nil))))
  (pss_one (ps_ret (pe_and (pe_callB (call_isinstK K) (by rfl) T.n_isinstance boot_isinstance (pa_cons (pv 5) (pa_cons (pe_bltn (v := .ty "bool") (by rfl) T.n_bool boot_bool rfl) pa_nil))) (pe_one (pe_cmpR (opNeC K (hu5 hr)) (pv 5) (pe_def D_law_open hr (by rfl) (pa_cons (pv 1) (pa_cons (pv 3) pa_nil))) (nomark _))))))))))), ?_⟩
  have hs : sizeLine = 16777216 := sizeLine_eq
  have LL0 := LL
  obtain ⟨ps, hps, hpl, hpc⟩ := LL
  refine cut2 (fun σ H' => σ = [some (.ref r), some (.ref w'), some (.int m), some (.ref l), none, none] ∧ H = H') ?_ ?_
  rotate_left
  · intro u' hu
    walk_at "rd"
    refine ⟨_, .int _, true, rfl, ?_⟩
    rw [if_neg (show ¬ (true = false) from fun z => by cases z)]
    refine ⟨_, .int _, false, rfl, ?_⟩
    rw [if_neg Bool.false_ne_true]
    exact hu _ _ ⟨rfl, rfl⟩
  rintro _ _ ⟨rfl, rfl⟩
  refine cut2 (fun σ H' => σ = [some (.ref r), some (.ref w'), some (.int m), some (.ref l), none, none] ∧ H = H') ?_ ?_
  rotate_left
  · intro u' hu
    walk_at "rd"
    rw [if_neg (show ¬ (m < 0) by omega)]
    refine ⟨w', R, rfl, hw, ?_⟩
    walk_at "rd"
    rw [if_neg (show ¬ (sz10 R ≤ m) by omega)]
    exact hu _ _ ⟨rfl, rfl⟩
  rintro _ _ ⟨rfl, rfl⟩
  refine cut2 (fun σ H' => σ = [some (.ref r), some (.ref w'), some (.int m), some (.ref l), some .non, none] ∧ H = H') ?_ ?_
  rotate_left
  · intro u' hu
    walk_at "rd"
    exact hu _ _ ⟨rfl, rfl⟩
  rintro _ _ ⟨rfl, rfl⟩
  refine cut2 (fun σ H' => ∃ bx : V, BV K H' nv (prevC cols cols.length) bx ∧ σ = [some (.ref r), some (.ref w'), some (.int m), some (.ref l), some bx, none] ∧ Same H H') ?_ ?_
  rotate_left
  · intro u' hu
    walk_at "rd"
    refine ⟨by omega, fun p hp => ?_⟩
    have s1 : Same H (upd H p (.lst [])) := same_upd hp
    have g1 : (upd H p (.lst [])) p = some (.lst []) := upd_same
    generalize upd H p (.lst []) = H1 at s1 g1
    refine rNeC_nil (l := true) (s1.seq hps) (SqL.of g1) ⟨_, rfl, ?_⟩
    by_cases h0 : cols.length = 0
    · rw [if_neg (by simp [hpl, h0])]
      exact hu _ _ ⟨.non, .inl ⟨by rw [h0]; rfl, rfl⟩, rfl, s1⟩
    rw [if_pos (by simp [hpl, h0])]
    obtain ⟨n, hn⟩ : ∃ n, cols.length = n + 1 := ⟨cols.length - 1, by omega⟩
    have e1 : ps[n]? = some (ps[n]'(by omega)) := List.getElem?_eq_getElem (by omega)
    have an : atI (ps.map V.ref) (-1) = some (.ref (ps[n]'(by omega))) := atI_lastN (n := n) (by rw [List.length_map]; omega) (by rw [List.getElem?_map, e1]; rfl)
    refine rIx_l (s1.seq hps) an (hu _ _ ⟨.ref (ps[n]'(by omega)), ?_, rfl, s1⟩)
    rw [hn]
    exact BV.prev hpl (fun i p us e1 e2 => ⟨s1.tup (hpc i p us e1 e2).1, (hpc i p us e1 e2).2⟩) (by omega)
  rintro _ H1 ⟨bx, hbv, rfl, s1⟩
  have hri1 := RB.mono _ _ _ s1 hri
  obtain ⟨dx, fs, hir, q1, q2, q3, q4, q5⟩ := RB.ins r _ hri1
  refine cut2 (fun σ H' => σ = [some (.ref r), some (.ref w'), some (.int m), some (.ref l), some bx, some (.bl (!op10 cols R))] ∧ H1 = H') ?_ ?_
  rotate_left
  · intro u' hu
    walk_at "rd"
    refine ⟨C, dx, fs, hir, q4, _, _, RB.closes, r, _, _, _, rfl, hri1, gm, hbv, ?_⟩
    rw [hc]
    exact hu _ _ ⟨rfl, rfl⟩
  rintro _ _ ⟨rfl, rfl⟩
  walk_at "rd"
  refine ⟨_, .bl _, true, rfl, ?_⟩
  rw [if_pos rfl]
  refine ⟨w', l, nv, cols, R, rfl, s1.seq hw, hg, LL0.same s1, hcl, fun H2 s2 => .inl (rNe_bb.mpr ?_)⟩
  have e : (!decide ((!op10 cols R) = op10 cols R)) = true := by cases op10 cols R <;> rfl
  rw [e]
  exact q _ (s1.trans s2)
end
def MemI (R : Row10) (cols : List (List Int)) (i : Nat) (x : V) : Prop := x = .non ∨ ∃ j, j = min i cols.length ∧ x = .int (mem10 cols j R) ∧ G10 R (mem10 cols j R)
theorem MemI.stay {R : Row10} {cols : List (List Int)} {i : Nat} {x : V} (h : MemI R cols i x) (hi : cols.length ≤ i) : MemI R cols (i + 1) x := by
  rcases h with h | ⟨j, rfl, h1, h2⟩
  · exact .inl h
  · exact .inr ⟨min i cols.length, by omega, h1, h2⟩
theorem two_at (ll : Nat → Addr) {k : Nat} (h : k < 2) : ([V.ref (ll 0), V.ref (ll 1)])[k]? = some (.ref (ll k)) := by
  match k, h with
  | 0, _ => rfl
  | 1, _ => rfl
theorem two_same {a x : V} {k : Nat} (h : ([a, a])[k]? = some x) : x = a := by
  match k, h with
  | 0, h => cases h; rfl
  | 1, h => cases h; rfl
def spTurns (P : Program) (w : World) (K : PySem.W.Frag) (mg : Str → Option Value) (base : Heap) : Sp := fun vs H Q _ => ∃ (r w' ls C : Addr) (RI : RIT) (nv : Nat) (R : Row10) (ll : Nat → Addr) (cc : Nat → List (List Int)), vs = [.ref r, .ref w', .ref ls] ∧ RuleObj P w K mg base 7 nv C (sem10 R) RI (G10 R) ∧ RI r H ∧ SqL K H w' (row10V R) ∧ good10 nv R ∧ SqL K H ls [.ref (ll 0), .ref (ll 1)] ∧ (∀ k, k < 2 → LineAt K H (ll k) nv (cc k) ∧ (cc k).length ≤ 63) ∧ ∀ H', Same H H' → Q (.bl true) H'
section
variable {P : Program} {w : World} {K : PySem.W.Frag} {mg : Str → Option Value} {base : Heap} {aM : Addr}
theorem ok_by_turns {f : Addr} {fd : FuncData} (F : Fun K "_law_by_turns" "_law_by_turns" s_law_by_turns f fd) (T : Txt mg aM) (D_law_memory_good : Def P w K mg base "_law_memory_good" 8 ["_law_rule", "_law_row", "_law_memory", "_law_line"] (spGood P w K mg base)) (D_law_breaks : Def P w K mg base "_law_breaks" 8 ["_law_row", "_law_line", "_law_at"] (spBr10 K)) : FnOk P w K mg base CX0 9 f fd ["_law_rule", "_law_row", "_law_lines"] (spTurns P w K mg base) := by
  refine F.ok sc_law_by_turns (fun vs H Q E h => ?_) (fun cdv A outer s H vs Q E hr h => ?_)
  · obtain ⟨r, w', ls, C, RI, nv, R, ll, cc, rfl, _⟩ := h
    rfl
  obtain ⟨r, w', ls, C, RI, nv, R, ll, cc, rfl, RB, hri, hw, hg, hls, hL, q⟩ := h
  refine ⟨_, (pss_cons (ps_set (i := 3) sc_law_by_turns.nd rfl (Or.inl rfl) (pe_lst (pa_cons (pe_methG0 P w K mg base hr (pv 0)) (pa_cons (pe_methG0 P w K mg base hr (pv 0)) pa_nil))))
  (pss_cons (ps_if (PW.pt (pw_or (pt_not (pt_truth (pe_def D_law_memory_good hr (by rfl) (pa_cons (pv 0) (pa_cons (pv 1) (pa_cons (pe_ix (ixAK K) (pv 3) pe_int (fun _ _ => rfl)) (pa_cons (pe_lst pa_nil) pa_nil))))) (fun _ => rfl))) (pw_or1 (pt_not (pt_truth (pe_def D_law_memory_good hr (by rfl) (pa_cons (pv 0) (pa_cons (pv 1) (pa_cons (pe_ix (ixAK K) (pv 3) pe_int (fun _ _ => rfl)) (pa_cons (pe_lst pa_nil) pa_nil))))) (fun _ => rfl)))))) (pss_one (ps_ret pe_bl)) pss_nil)
  (pss_cons (ps_for PassesOwn.never rfl (pi_range1 rfl T.n_range (pa_cons (pe_callB (call_max2 rfl) (by rfl) T.n_max boot_max (pa_cons (pe_callB (call_lenK K) (by rfl) T.n_len boot_len (pa_cons (pe_ix (ixAK K) (pv 2) pe_int (fun _ _ => rfl)) pa_nil)) (pa_cons (pe_callB (call_lenK K) (by rfl) T.n_len boot_len (pa_cons (pe_ix (ixAK K) (pv 2) pe_int (fun _ _ => rfl)) pa_nil)) pa_nil))) pa_nil)) (pg_name (i := 4) sc_law_by_turns.nd rfl (Or.inl rfl))
  (pss_one (ps_for PassesOwn.never rfl (pi_range1 rfl T.n_range (pa_cons pe_int pa_nil)) (pg_name (i := 5) sc_law_by_turns.nd rfl (Or.inl rfl))
  (pss_cons (ps_if (PW.pt (pw_or (pt_cmpR op_ge (pv 4) (pe_callB (call_lenK K) (by rfl) T.n_len boot_len (pa_cons (pe_ix (ixAK K) (pv 2) (pv 5) (fun _ _ => rfl)) pa_nil)) (nomark _)) (pw_or1 (pt_cmpR op_isN (pe_ix (ixAK K) (pv 3) (pv 5) (fun _ _ => rfl)) pe_non (nomark _))))) (pss_one ps_continue) pss_nil)
  (pss_cons (ps_set (i := 6) sc_law_by_turns.nd rfl (Or.inl rfl) pe_non)
  (pss_cons (ps_if (pt_cmpR op_gt (pv 4) pe_int (nomark _)) (pss_one (ps_set (i := 6) sc_law_by_turns.nd rfl (Or.inl rfl) (pe_ix (ixAK K) (pe_ix (ixAK K) (pv 2) (pv 5) (fun _ _ => rfl)) (pe_op op_sub (pv 4) pe_int) (fun _ _ => rfl)))) pss_nil)
  (pss_cons (ps_asg (pe_methG P w K mg base hr (pv 0) (pa_cons (pe_ix (ixAK K) (pv 3) (pv 5) (fun _ _ => rfl)) (pa_cons (pv 6) (pa_cons (pe_ix (ixAK K) (pe_ix (ixAK K) (pv 2) (pv 5) (fun _ _ => rfl)) (pv 4) (fun _ _ => rfl)) pa_nil)))) (pg_sub (pv 3) (pv 5) set_list))
  (pss_cons (ps_if (pt_cmpR opNe (pe_cmpR op_isN (pe_ix (ixAK K) (pv 3) (pv 5) (fun _ _ => rfl)) pe_non (nomark _)) (pe_def D_law_breaks hr (by rfl) (pa_cons (pv 1) (pa_cons (pe_ix (ixAK K) (pv 2) (pv 5) (fun _ _ => rfl)) (pa_cons (pv 4) pa_nil)))) (nomark _)) (pss_one (ps_ret pe_bl)) pss_nil)
  (pss_cons (ps_set (i := 7) sc_law_by_turns.nd rfl (Or.inl rfl) (pe_slice (slAK K) (pe_ix (ixAK K) (pv 2) (pv 5) (fun _ _ => rfl)) po_none (po_some (pe_op (opAddK K) (pv 4) pe_int))))
  (pss_one (ps_if (PW.pt (pw_and (pt_cmpR op_notN (pe_ix (ixAK K) (pv 3) (pv 5) (fun _ _ => rfl)) pe_non (nomark _)) (pw_and1 (pt_not (pt_truth (pe_def D_law_memory_good hr (by rfl) (pa_cons (pv 0) (pa_cons (pv 1) (pa_cons (pe_ix (ixAK K) (pv 3) (pv 5) (fun _ _ => rfl)) (pa_cons (pv 7) pa_nil))))) (fun _ => rfl)))))) (pss_one (ps_ret pe_bl)) pss_nil)))))))))))
  (pss_one (ps_ret pe_bl))))), ?_⟩
  have hs : sizeLine = 16777216 := sizeLine_eq
  obtain ⟨dx, fs, hir, q1, q2, q3, q4, q5⟩ := RB.ins r H hri
  have W := fun cols => walks10 nv cols R hg
  have RB8 := RB.up (k := 8) (by decide)
  refine cut2 (fun σ H' => ∃ me : Addr, H me = none ∧ H' me = some (.lst [.int (sem10 R).start, .int (sem10 R).start]) ∧ σ = [some (.ref r), some (.ref w'), some (.ref ls), some (.ref me), none, none, none, none] ∧ Same H H') ?_ ?_
  rotate_left
  · intro u' hu
    walk_at "rd"
    refine ⟨C, dx, fs, hir, q2, _, _, RB8.start, r, rfl, hri, ?_⟩
    walk_at "rd"
    refine ⟨C, dx, fs, hir, q2, _, _, RB8.start, r, rfl, hri, ?_⟩
    walk_at "rd"
    exact ⟨by omega, fun p hp => hu _ _ ⟨p, hp, upd_same, rfl, same_upd hp⟩⟩
  rintro _ H1 ⟨me, hme, hme1, rfl, s1⟩
  have good0 : ∀ {H' : Hp} {Q' : VK}, Same H H' → (∀ H'', Same H' H'' → Q' (.bl true) H'') → ∀ p, H' p = none → spGood P w K mg base [.ref r, .ref w', .int (sem10 R).start, .ref p] (upd H' p (.lst [])) Q' E0 := fun {H' Q'} s hq p hp => by
    have m0 : (sem10 R).start = mem10 [] 0 R := (W []).m0
    have c := closes10 nv [] R hg 0 (Nat.le_refl _)
    have b := bounds10 nv [] R 0 (by have := RB.g0; rw [m0] at this; exact this)
    rw [← m0] at c b
    exact ⟨r, w', p, C, RI, nv, [], R, _, rfl, RB, RB.mono _ _ _ (s.upd hp) hri, (s.upd hp).seq hw, hg, ⟨[], SqL.of upd_same, rfl, fun _ _ _ e => by cases e⟩, by simp, RB.g0, b.1, b.2, c, fun H'' s'' => hq _ ((same_upd hp).trans s'')⟩
  refine cut2 (fun σ H' => H' me = some (.lst [.int (sem10 R).start, .int (sem10 R).start]) ∧ σ = [some (.ref r), some (.ref w'), some (.ref ls), some (.ref me), none, none, none, none] ∧ Same H H') ?_ ?_
  rotate_left
  · intro u' hu
    walk_at "rd"
    refine rIx_l (SqL.of hme1) (atI_zero rfl) ⟨by omega, fun p hp => good0 s1 (fun H2 s2 => ?_) p hp⟩
    walk_at "rd"
    refine rIx_l (SqL.of (s2 _ _ hme1)) (show atI _ ((1 : Nat) : Int) = _ from atI_nat rfl) ⟨by omega, fun p hp => good0 (s1.trans s2) (fun H3 s3 => ?_) p hp⟩
    walk_at "rd"
    exact hu _ _ ⟨(s2.trans s3) _ _ hme1, rfl, s1.trans (s2.trans s3)⟩
  clear hme1 s1
  rintro _ H2 ⟨hme2, rfl, s2⟩
  obtain ⟨⟨ps0, hps0, hpl0, _⟩, hc0⟩ := hL 0 (by omega)
  obtain ⟨⟨ps1, hps1, hpl1, _⟩, hc1⟩ := hL 1 (by omega)
  walk_at "rd"
  refine rIx_l (s2.seq hls) (atI_zero rfl) ?_
  walk_at "rd"
  refine ⟨_, .inl (s2.seq hps0), rIx_l (s2.seq hls) (show atI _ ((1 : Nat) : Int) = _ from atI_nat rfl) ?_⟩
  walk_at "rd"
  refine ⟨_, .inl (s2.seq hps1), ?_⟩
  simp only [List.length_map]
  have hN : (if (ps1.length : Int) > (ps0.length : Int) then (ps1.length : Int) else (ps0.length : Int)) ≤ 63 ∧ 0 ≤ (if (ps1.length : Int) > (ps0.length : Int) then (ps1.length : Int) else (ps0.length : Int)) := by
    split <;> omega
  generalize (if (ps1.length : Int) > (ps0.length : Int) then (ps1.length : Int) else (ps0.length : Int)) = N at hN ⊢
  refine ⟨by omega, by omega, loop_range (fun i σ H' => ∃ (xs : List V) (o1 o2 o3 o4 : Option V), σ = [some (.ref r), some (.ref w'), some (.ref ls), some (.ref me), o1, o2, o3, o4] ∧ H' me = some (.lst xs) ∧ xs.length = 2 ∧ (∀ k x, xs[k]? = some x → MemI R (cc k) i x) ∧ Same H H') ⟨_, none, none, none, none, rfl, hme2, rfl, ?_, s2⟩ ?_ ?_⟩
  · intro k x hx
    have hx' := two_same hx
    have m0 : (sem10 R).start = mem10 (cc k) 0 R := (W (cc k)).m0
    exact .inr ⟨0, by omega, by rw [hx', m0], by rw [← m0]; exact RB.g0⟩
  · clear hme2 s2
    rintro i σ H3 hi ⟨xs, o1, o2, o3, o4, rfl, hme3, hxl, hm, s3⟩
    walk_at "rd"
    refine ⟨by omega, by omega, loop_range (fun j σ H' => ∃ (xs : List V) (o2 o3 o4 : Option V), σ = [some (.ref r), some (.ref w'), some (.ref ls), some (.ref me), some (.int i), o2, o3, o4] ∧ H' me = some (.lst xs) ∧ xs.length = 2 ∧ (∀ k x, xs[k]? = some x → MemI R (cc k) (if k < j then i + 1 else i) x) ∧ Same H H') ⟨xs, o2, o3, o4, rfl, hme3, hxl, fun k x hx => by rw [if_neg (by omega)]; exact hm k x hx, s3⟩ ?_ ?_⟩
    · clear hme3 hxl hm s3 xs
      rintro k σ H4 hk ⟨xs, o2', o3', o4', rfl, hme4, hxl, hm, s4⟩
      have hk2 : k < 2 := hk
      obtain ⟨LL, hcl⟩ := hL k hk2
      have LL0 := LL
      obtain ⟨ps, hps, hpl, hpc⟩ := LL
      obtain ⟨x, xk⟩ : ∃ x, xs[k]? = some x := ⟨xs[k]'(by omega), List.getElem?_eq_getElem (by omega)⟩
      have mk := hm k _ xk
      rw [if_neg (by omega)] at mk
      have lk := two_at ll hk2
      have keep : ∀ (ys : List V) (y : V), (∀ k', k' ≠ k → ys[k']? = xs[k']?) → ys[k]? = some y → MemI R (cc k) (i + 1) y → ∀ k' x', ys[k']? = some x' → MemI R (cc k') (if k' < k + 1 then i + 1 else i) x' := fun ys y he hy hx k' x' e => by
        by_cases h : k' = k
        · subst h
          rw [hy] at e
          cases e
          rw [if_pos (by omega)]
          exact hx
        · have := hm k' x' (by rw [← he k' h]; exact e)
          by_cases h' : k' < k
          · rw [if_pos h'] at this
            rw [if_pos (by omega)]
            exact this
          · rw [if_neg h'] at this
            rw [if_neg (by omega)]
            exact this
      refine cut2 (fun σ H' => i < (cc k).length ∧ x = .int (mem10 (cc k) i R) ∧ G10 R (mem10 (cc k) i R) ∧ σ = [some (.ref r), some (.ref w'), some (.ref ls), some (.ref me), some (.int i), some (.int k), o3', o4'] ∧ H4 = H') ?_ ?_
      rotate_left
      · intro u' hu
        walk_at "rd"
        refine rIx_l (s4.seq hls) (atI_nat lk) ?_
        walk_at "rd"
        refine ⟨_, .inl (s4.seq hps), ?_⟩
        rw [List.length_map, hpl]
        by_cases hi' : (cc k).length ≤ i
        · rw [if_pos (by omega)]
          simp only [tCont]
          exact ⟨xs, _, _, _, rfl, hme4, hxl, keep xs x (fun _ _ => rfl) xk (mk.stay hi'), s4⟩
        · rw [if_neg (by omega)]
          refine rIx_l (SqL.of hme4) (atI_nat xk) ?_
          rcases mk with rfl | ⟨j, hj, rfl, gm⟩
          · walk_at "rd"
            simp only [tCont]
            exact ⟨xs, _, _, _, rfl, hme4, hxl, keep xs _ (fun _ _ => rfl) xk (.inl rfl), s4⟩
          · have ej : j = i := by omega
            subst ej
            walk_at "rd"
            exact hu _ _ ⟨by omega, rfl, gm, rfl, rfl⟩
      rintro _ _ ⟨hi', rfl, gm, rfl, rfl⟩
      refine cut2 (fun σ H' => σ = [some (.ref r), some (.ref w'), some (.ref ls), some (.ref me), some (.int i), some (.int k), some .non, o4'] ∧ H4 = H') ?_ ?_
      rotate_left
      · intro u' hu
        walk_at "rd"
        exact hu _ _ ⟨rfl, rfl⟩
      rintro _ _ ⟨rfl, rfl⟩
      have e1 : ps[i]? = some (ps[i]'(by omega)) := List.getElem?_eq_getElem (by omega)
      have e2 : (cc k)[i]? = some ((cc k)[i]'hi') := List.getElem?_eq_getElem hi'
      obtain ⟨g1, g2⟩ := hpc i _ _ e1 e2
      refine cut2 (fun σ H' => ∃ bx : V, BV K H' nv (prevC (cc k) i) bx ∧ σ = [some (.ref r), some (.ref w'), some (.ref ls), some (.ref me), some (.int i), some (.int k), some bx, o4'] ∧ H4 = H') ?_ ?_
      rotate_left
      · intro u' hu
        walk_at "rd"
        by_cases h0 : i = 0
        · rw [if_neg (by omega)]
          exact hu _ _ ⟨.non, .inl ⟨by rw [h0]; rfl, rfl⟩, rfl, rfl⟩
        · rw [if_pos (by omega)]
          refine rIx_l (s4.seq hls) (atI_nat lk) ?_
          rw [show ((i : Int) - 1) = ((i - 1 : Nat) : Int) by omega]
          refine rIx_l (s4.seq hps) (atI_nat (by rw [List.getElem?_map, List.getElem?_eq_getElem (show i - 1 < ps.length by omega)]; rfl)) (hu _ _ ⟨_, ?_, rfl, rfl⟩)
          have hb := BV.prev (K := K) (H := H4) hpl (fun i p us a b => ⟨s4.tup (hpc i p us a b).1, (hpc i p us a b).2⟩) (show i - 1 < ps.length by omega)
          rw [show i - 1 + 1 = i by omega] at hb
          exact hb
      rintro _ _ ⟨bx, hbv, rfl, rfl⟩
      have wst := (W (cc k)).st i _ e2
      obtain ⟨y, hy⟩ : ∃ y, ofI ((sem10 R).after (mem10 (cc k) i R) (prevC (cc k) i) ((cc k)[i]'hi')) = y := ⟨_, rfl⟩
      refine cut2 (fun σ H' => H' me = some (.lst (xs.set k y)) ∧ σ = [some (.ref r), some (.ref w'), some (.ref ls), some (.ref me), some (.int i), some (.int k), some bx, o4'] ∧ Same H H') ?_ ?_
      rotate_left
      · intro u' hu
        walk_at "rd"
        refine ⟨C, dx, fs, s4 _ _ hir, q3, _, _, RB8.after, rIx_l (SqL.of hme4) (atI_nat xk) (rIx_l (s4.seq hls) (atI_nat lk) (rIx_l (s4.seq hps) (atI_nat (by rw [List.getElem?_map, e1]; rfl)) ⟨r, _, bx, _, _, _, rfl, RB.mono _ _ _ s4 hri, gm, hbv, s4.tup g1, g2, ?_⟩))⟩
        rw [hy]
        walk_at "rd"
        refine ⟨_, hme4, k, (by rw [ixN_in (by omega) (by omega)]; rfl), hu _ _ ⟨upd_same, rfl, fun c' u hc' => ?_⟩⟩
        rw [upd_ne (ne_of_none hc' hme)]
        exact s4 _ _ hc'
      rintro _ H5 ⟨hme5, rfl, s5⟩
      have yk : (xs.set k y)[k]? = some y := List.getElem?_set_self (by omega)
      have hyb : decide (y = .non) = br10 (cc k) i R := by
        rw [← hy, wst]
        cases br10 (cc k) i R <;> rfl
      refine cut2 (fun σ H' => σ = [some (.ref r), some (.ref w'), some (.ref ls), some (.ref me), some (.int i), some (.int k), some bx, o4'] ∧ Same H5 H') ?_ ?_
      rotate_left
      · intro u' hu
        walk_at "rd"
        refine rIx_l (SqL.of hme5) (atI_nat yk) (rIx_l (s5.seq hls) (atI_nat lk) ⟨w', ll k, i, nv, cc k, R, rfl, s5.seq hw, hg, LL0.same s5, hi', by omega, fun H6 s6 => ?_⟩)
        rw [hyb]
        walk_at "rd"
        exact hu _ _ ⟨rfl, s6⟩
      rintro _ H6 ⟨rfl, s56⟩
      have s6 := s5.trans s56
      have hme6 := s56 _ _ hme5
      refine cut2 (fun σ H' => ∃ go : Addr, LineAt K H' go nv ((cc k).take (i + 1)) ∧ σ = [some (.ref r), some (.ref w'), some (.ref ls), some (.ref me), some (.int i), some (.int k), some bx, some (.ref go)] ∧ Same H6 H') ?_ ?_
      rotate_left
      · intro u' hu
        walk_at "rd"
        refine rIx_l (s6.seq hls) (atI_nat lk) (rSlA_l (s6.seq hps) fun p hp => ?_)
        rw [show (some ((i : Int) + 1)) = some ((i + 1 : Nat) : Int) from rfl, cutV_to, ← List.map_take]
        have s6p : Same H6 (upd H6 p (.lst ((ps.take (i + 1)).map V.ref))) := same_upd hp
        have sp := s6.trans s6p
        exact hu _ _ ⟨p, LineAt.sub (l := p) (ps := ps) (cols := cc k) hpl (fun i p us a b => ⟨sp.tup (hpc i p us a b).1, (hpc i p us a b).2⟩) 0 (i + 1) (SqL.of upd_same), rfl, s6p⟩
      rintro _ H7 ⟨go, hgo, rfl, s67⟩
      have s7 := s6.trans s67
      have hme7 := s67 _ _ hme6
      walk_at "rd"
      refine rIx_l (SqL.of hme7) (atI_nat yk) ?_
      have hsl : (xs.set k y).length = 2 := by rw [List.length_set]; exact hxl
      have hse : ∀ k', k' ≠ k → (xs.set k y)[k']? = xs[k']? := fun k' h => List.getElem?_set_ne (fun e => h e.symm)
      by_cases hb : br10 (cc k) i R = true
      · have ey : y = .non := of_decide_eq_true (hyb.trans hb)
        subst ey
        walk_at "rd"
        exact ⟨_, hme7, hsl, keep _ _ hse yk (.inl rfl), s7⟩
      · have ey : y = .int (mem10 (cc k) (i + 1) R) := by
          rw [← hy, wst, if_neg hb]
          rfl
        subst ey
        have gm' : G10 R (mem10 (cc k) (i + 1) R) := RB.gS _ _ _ _ gm (by rw [wst, if_neg hb])
        have b := bounds10 nv (cc k) R (i + 1) gm'
        have hl1 : ((cc k).take (i + 1)).length = i + 1 := by rw [List.length_take]; omega
        have c := closes10 nv (cc k) R hg (i + 1) (by omega)
        have ep : prevC ((cc k).take (i + 1)) ((cc k).take (i + 1)).length = prevC (cc k) (i + 1) := by
          rw [hl1]
          show ((cc k).take (i + 1))[i]? = (cc k)[i]?
          rw [List.getElem?_take, if_pos (by omega)]
        walk_at "rd"
        refine rIx_l (SqL.of hme7) (atI_nat yk) ⟨r, w', go, C, RI, nv, _, R, _, rfl, RB, RB.mono _ _ _ s7 hri, s7.seq hw, hg, hgo, by omega, gm', b.1, b.2, by rw [ep]; exact c, fun H8 s8 => ?_⟩
        walk_at "rd"
        exact ⟨_, s8 _ _ hme7, hsl, keep _ _ hse yk (.inr ⟨i + 1, by omega, rfl, gm'⟩), s7.trans s8⟩
    · clear hme3 hxl hm s3 xs
      rintro σ H4 ⟨xs, o2', o3', o4', rfl, hme4, hxl, hm, s4⟩
      refine ⟨xs, _, _, _, _, rfl, hme4, hxl, fun k x e => ?_, s4⟩
      have := hm k x e
      rw [if_pos (by have := (List.getElem?_eq_some_iff.mp e).1; show k < 2; omega)] at this
      exact this
  · clear hme2 s2
    rintro σ H3 ⟨xs, o1, o2, o3, o4, rfl, hme3, hxl, hm, s3⟩
    walk_at "rd"
    exact q _ s3
end
def spBrokenL (P : Program) (w : World) (K : PySem.W.Frag) (mg : Str → Option Value) (base : Heap) : Sp := fun vs H Q _ => ∃ (r w' l C : Addr) (RI : RIT) (nv : Nat) (cols : List (List Int)) (R : Row10), vs = [.ref r, .ref w', .ref l] ∧ RuleObj P w K mg base 7 nv C (sem10 R) RI (G10 R) ∧ RI r H ∧ SqL K H w' (row10V R) ∧ good10 nv R ∧ LineAt K H l nv cols ∧ cols.length ≤ 63 ∧ ∀ H', Same H H' → Q (.bl true) H'
section
variable {P : Program} {w : World} {K : PySem.W.Frag} {mg : Str → Option Value} {base : Heap} {aM : Addr}
theorem ok_broken {f : Addr} {fd : FuncData} (F : Fun K "_law_broken" "_law_broken" s_law_broken f fd) (T : Txt mg aM) (D_broken_at : Def P w K mg base "broken_at" 8 ["rule", "line"] (spBroken P w K mg base 7)) (D_law_first : Def P w K mg base "_law_first" 8 ["_law_row", "_law_line"] (spFirst K)) (D_law_open : Def P w K mg base "_law_open" 8 ["_law_row", "_law_line"] (spOpen K)) : FnOk P w K mg base CX0 9 f fd ["_law_rule", "_law_row", "_law_line"] (spBrokenL P w K mg base) := by
  refine F.ok sc_law_broken (fun vs H Q E h => ?_) (fun cdv A outer s H vs Q E hr h => ?_)
  · obtain ⟨r, w', l, C, RI, nv, cols, R, rfl, _⟩ := h
    rfl
  obtain ⟨r, w', l, C, RI, nv, cols, R, rfl, RB, hri, hw, hg, LL, hcl, q⟩ := h
  refine ⟨_, (pss_cons (ps_set (i := 3) sc_law_broken.nd rfl (Or.inl rfl) (pe_callTy (call_listK K) (by rfl) T.n_list boot_list (pa_cons (pv 2) pa_nil)))
  (pss_cons (ps_set (i := 4) sc_law_broken.nd rfl (Or.inl rfl) (pe_def D_broken_at hr (by rfl) (pa_cons (pv 0) (pa_cons (pv 3) pa_nil))))
  (pss_cons (ps_set (i := 5) sc_law_broken.nd rfl (Or.inl rfl) (pe_def D_law_first hr (by rfl) (pa_cons (pv 1) (pa_cons (pv 2) pa_nil))))
  (pss_cons (ps_if (PW.pt (pw_and (pt_cmpR op_isN (pv 5) pe_non (nomark _)) (pw_and1 (pt_truth (pe_def D_law_open hr (by rfl) (pa_cons (pv 1) (pa_cons (pv 2) pa_nil))) (fun _ => rfl))))) (pss_one (ps_set (i := 5) sc_law_broken.nd rfl (Or.inl rfl) (pe_callB (call_lenK K) (by rfl) T.n_len boot_len (pa_cons (pv 2) pa_nil)))) pss_nil)
  (pss_cons (ps_if (pt_cmpR op_isN (pv 5) pe_non (nomark _)) (pss_one (ps_ret (pe_and (pe_cmpR op_isN (pv 4) pe_non (nomark _)) (pe_one (pe_cmpR (opEqC K (hu5 hr)) (pv 3) (pv 2) (nomark _)))))) pss_nil)
  (pss_one (ps_ret (pe_and (pe_callB (call_isinstK K) (by rfl) T.n_isinstance boot_isinstance (pa_cons (pv 4) (pa_cons (pe_bltn (v := .ty "int") (by rfl) T.n_int boot_int rfl) pa_nil))) (pe_and (pe_not (pe_callB (call_isinstK K) (by rfl) T.n_isinstance boot_isinstance (pa_cons (pv 4) (pa_cons (pe_bltn (v := .ty "bool") (by rfl) T.n_bool boot_bool rfl) pa_nil)))) (pe_and (pe_cmpR (opEqC K (hu5 hr)) (pv 4) (pv 5) (nomark _)) (pe_one (pe_cmpR (opEqC K (hu5 hr)) (pv 3) (pv 2) (nomark _))))))))))))), ?_⟩
  have hs : sizeLine = 16777216 := sizeLine_eq
  have LL0 := LL
  obtain ⟨ps, hps, hpl, hpc⟩ := LL
  have W := walks10 nv cols R hg
  have hbk : brk (sem10 R) cols = dueW (fun i => br10 cols i R) cols.length (!op10 cols R) := by
    have c := closes10 nv cols R hg cols.length (Nat.le_refl _)
    rw [List.take_length] at c
    rw [W.brk, c]
  have hfl : ∀ x ∈ ps.map V.ref, flatV x = true ∨ ∃ p, x = .ref p := fun x hx => by
    obtain ⟨p, _, rfl⟩ := List.mem_map.mp hx
    exact .inr ⟨p, rfl⟩
  refine cut2 (fun σ H' => ∃ hh : Addr, H' hh = some (.lst (ps.map V.ref)) ∧ σ = [some (.ref r), some (.ref w'), some (.ref l), some (.ref hh), none, none] ∧ Same H H') ?_ ?_
  rotate_left
  · intro u' hu
    walk_at "rd"
    exact ⟨_, .inl hps, fun p hp => hu _ _ ⟨p, upd_same, rfl, same_upd hp⟩⟩
  rintro _ H1 ⟨hh, hhh, rfl, s1⟩
  generalize hB : (fun i => br10 cols i R) = B at hbk
  refine cut2 (fun σ H' => σ = [some (.ref r), some (.ref w'), some (.ref l), some (.ref hh), some (ofI (dueW B cols.length (!op10 cols R))), none] ∧ Same H1 H') ?_ ?_
  rotate_left
  · intro u' hu
    walk_at "rd"
    refine ⟨r, hh, nv, C, sem10 R, RI, G10 R, cols, rfl, RB, RB.mono _ _ _ s1 hri, ⟨ps, SqL.of hhh, hpl, fun i p us a b => ⟨s1.tup (hpc i p us a b).1, (hpc i p us a b).2⟩⟩, by omega, fun H2 s2 => ?_⟩
    rw [hbk]
    exact hu _ _ ⟨rfl, s2⟩
  rintro _ H2 ⟨rfl, s12⟩
  have s2 := s1.trans s12
  refine cut2 (fun σ H' => σ = [some (.ref r), some (.ref w'), some (.ref l), some (.ref hh), some (ofI (dueW B cols.length (!op10 cols R))), some (ofI ((firstN B 0 cols.length).map fun (n : Nat) => (n : Int)))] ∧ Same H2 H') ?_ ?_
  rotate_left
  · intro u' hu
    walk_at "rd"
    refine ⟨w', l, nv, cols, R, rfl, s2.seq hw, hg, LL0.same s2, by omega, fun H3 s3 => ?_⟩
    rw [hB]
    exact hu _ _ ⟨rfl, s3⟩
  rintro _ H3 ⟨rfl, s23⟩
  have s3 := s2.trans s23
  refine cut2 (fun σ H' => σ = [some (.ref r), some (.ref w'), some (.ref l), some (.ref hh), some (ofI (dueW B cols.length (!op10 cols R))), some (ofI (dueW B cols.length (!op10 cols R)))] ∧ Same H3 H') ?_ ?_
  rotate_left
  · intro u' hu
    walk_at "rd"
    unfold dueW at hu ⊢
    cases hf : firstN B 0 cols.length with
    | some j =>
      rw [hf] at hu
      rw [if_neg (show ¬ (ofI ((some j).map fun (n : Nat) => (n : Int)) = V.non) from fun z => by cases z)]
      exact hu _ _ ⟨rfl, Same.refl _⟩
    | none =>
      rw [hf] at hu
      rw [if_pos (show (ofI ((none : Option Nat).map fun (n : Nat) => (n : Int)) = V.non) from rfl)]
      refine ⟨w', l, nv, cols, R, rfl, s3.seq hw, hg, LL0.same s3, by omega, fun H4 s4 => ?_⟩
      walk_at "rd"
      cases ho : op10 cols R with
      | true =>
        rw [ho] at hu
        rw [if_pos rfl]
        refine ⟨_, .inl ((s3.trans s4).seq hps), ?_⟩
        rw [List.length_map, hpl]
        exact hu _ _ ⟨rfl, s4⟩
      | false =>
        rw [ho] at hu
        rw [if_neg Bool.false_ne_true]
        exact hu _ _ ⟨rfl, s4⟩
  rintro _ H4 ⟨rfl, s34⟩
  have s4 := s3.trans s34
  have hh4 : H4 hh = some (.lst (ps.map V.ref)) := s34 _ _ (s23 _ _ (s12 _ _ hhh))
  generalize dueW B cols.length (!op10 cols R) = D
  cases D with
  | none =>
    walk_at "rd"
    simp only [ofI]
    walk_at "rd"
    exact rEqC_same (l := true) (SqL.of hh4) (s4.seq hps) hfl (q _ s4)
  | some d =>
    walk_at "rd"
    simp only [ofI]
    walk_at "rd"
    refine ⟨_, .int _, true, rfl, ?_⟩
    walk_at "rd"
    refine ⟨_, .int _, false, rfl, ?_⟩
    walk_at "rd"
    exact rEqC_same (l := true) (SqL.of hh4) (s4.seq hps) hfl (q _ s4)
end
structure PairAt (K : PySem.W.Frag) (H : Hp) (pr : Addr) (o t : Int) (nv : Nat) : Prop where
  tup : SqT K H pr [.int o, .int t]
  o0 : 0 ≤ o
  o1 : o < nv
  t0 : 0 ≤ t
  t1 : t < nv
theorem PairAt.same {K : PySem.W.Frag} {H H' : Hp} {pr : Addr} {o t : Int} {nv : Nat} (s : Same H H') (h : PairAt K H pr o t nv) : PairAt K H' pr o t nv := { h with tup := s.tup h.tup }
def kindK : RowK → Str
  | .span _ _ _ => "span"
  | .clock _ _ _ _ => "clock"
  | .move _ _ => "move"
  | .alike _ _ _ => "alike"
  | .back _ _ => "back"
  | .held _ _ => "held"
  | .times _ _ _ _ => "times"
  | .begin _ _ => "begin"
  | .close _ _ => "close"
def numsK : RowK → List Int
  | .span o t D => (o + 1) :: (t + 1) :: D
  | .clock o t h D => (o + 1) :: (t + 1) :: h :: D
  | .move o D => (o + 1) :: D
  | .alike o t D => (o + 1) :: (t + 1) :: D
  | .back o far => [o + 1, far]
  | .held o most => [o + 1, most]
  | .times o nt lw hg => [o + 1, nt, lw, hg]
  | .begin o D => (o + 1) :: D
  | .close o D => (o + 1) :: D
theorem rowV_eq (R : RowK) : rowV R = .str (kindK R) :: (numsK R).map V.int := by
  cases R <;> rfl
def listK : RowK → Prop
  | .span _ _ D => 1 ≤ D.length ∧ D.length ≤ 12
  | .clock _ _ _ D => 1 ≤ D.length ∧ D.length ≤ 12
  | .move _ D => 1 ≤ D.length ∧ D.length ≤ 12
  | .alike _ _ D => 1 ≤ D.length ∧ D.length ≤ 12
  | .times _ _ lw _ => 0 ≤ lw
  | .begin _ D => 1 ≤ D.length ∧ D.length ≤ 12
  | .close _ D => 1 ≤ D.length ∧ D.length ≤ 12
  | _ => True
def nbK (R : RowK) : Prop := (∀ n ∈ numsK R, n.natAbs < 10 ^ 40) ∧ listK R
def ok10 : Row10 → Prop
  | .plain R => nbK R
  | .every m a R => nbK R ∧ m.natAbs < 10 ^ 40 ∧ a.natAbs < 10 ^ 40
theorem nums_len {R : RowK} (h : nbK R) : (numsK R).length ≤ 20 := by
  have hl := h.2
  cases R <;> simp only [numsK, listK, List.length_cons, List.length_nil] at hl ⊢ <;> omega
def spNumbersBy (K : PySem.W.Frag) : Sp := fun vs H Q _ => ∃ (sd mn : Int) (kd : Str) (pr md b : Addr) (bs : List Int) (o t st wd : Int), vs = [.int sd, .int mn, .str kd, .ref pr, .ref md] ∧ 1 ≤ mn ∧ mn ≤ 12 ∧ PairAt K H pr o t bs.length ∧ SqT K H md [.ref b, .int st, .int wd] ∧ BasesAt K H b bs st ∧ 1 ≤ wd ∧ wd ≤ 7 ∧ ∀ (n : Addr) (D : List Int) H', 1 ≤ D.length → D.length ≤ 12 → (∀ d ∈ D, d.natAbs < 10 ^ 39) → H' n = some (.lst (D.map V.int)) → Same H H' → Q (.ref n) H'
def spWordsBy (K : PySem.W.Frag) : Sp := fun vs H Q _ => ∃ (l md b : Addr) (ns bs : List Int) (v st wd : Int), vs = [.ref l, .int v, .ref md] ∧ SqL K H l (ns.map V.int) ∧ (bs.length : Int) = v ∧ SqT K H md [.ref b, .int st, .int wd] ∧ BasesAt K H b bs st ∧ 1 ≤ wd ∧ wd ≤ 7 ∧ ∀ (wo : Addr) (R : Row10) H', good10 bs.length R → ok10 R → H' wo = some (.lst (row10V R)) → Same H H' → Q (.ref wo) H'
section
variable {P : Program} {w : World} {K : PySem.W.Frag} {mg : Str → Option Value} {base : Heap} {aM : Addr}
theorem ok_numbers_by {f : Addr} {fd : FuncData} (F : Fun K "_law_numbers_by" "_law_numbers_by" s_law_numbers_by f fd) (T : Txt mg aM) (D_law_digits : Def P w K mg base "_law_digits" 2 ["_law_cell", "_law_many"] spDigits) (D_law_notes : Def P w K mg base "_law_notes" 2 ["_law_number", "_law_bases_here", "_law_step", "_law_wide"] (spColumn K)) : FnOk P w K mg base CX0 3 f fd ["_law_seed", "_law_many", "_law_word", "_law_pair", "_law_made"] (spNumbersBy K) := by
  refine F.ok sc_law_numbers_by (fun vs H Q E h => ?_) (fun cdv A outer s H vs Q E hr h => ?_)
  · obtain ⟨sd, mn, kd, pr, md, b, bs, o, t, st, wd, rfl, _⟩ := h
    rfl
  obtain ⟨sd, mn, kd, pr, md, b, bs, o, t, st, wd, rfl, mn1, mn2, Pr, hMd, B, w1, w7, q⟩ := h
  refine ⟨_, (pss_cons (ps_asg (pv 4) (pg_tupK K (n := 3) rfl (pgs_cons (pg_name (i := 5) sc_law_numbers_by.nd rfl (Or.inl rfl)) (pgs_cons (pg_name (i := 6) sc_law_numbers_by.nd rfl (Or.inl rfl)) (pgs_cons (pg_name (i := 7) sc_law_numbers_by.nd rfl (Or.inl rfl)) pgs_nil)))))
  (pss_cons (ps_set (i := 8) sc_law_numbers_by.nd rfl (Or.inl rfl) (pe_lst pa_nil))
  (pss_cons (ps_for PassesOwn.never rfl (pi_anyK K (pe_def D_law_digits hr (by rfl) (pa_cons (pv 0) (pa_cons (pv 1) pa_nil)))) (pg_name (i := 9) sc_law_numbers_by.nd rfl (Or.inl rfl))
  (pss_cons (ps_set (i := 10) sc_law_numbers_by.nd rfl (Or.inl rfl) (pe_def D_law_notes hr (by rfl) (pa_cons (pe_op op_fdiv (pv 9) pe_int) (pa_cons (pv 5) (pa_cons (pv 6) (pa_cons (pv 7) pa_nil))))))
  (pss_cons (ps_set (i := 11) sc_law_numbers_by.nd rfl (Or.inl rfl) (pe_op op_sub (pe_ix (ixAK K) (pv 10) (pe_ix (ixAK K) (pv 3) pe_int (fun _ _ => rfl)) (fun _ _ => rfl)) (pe_ix (ixAK K) (pv 10) (pe_ix (ixAK K) (pv 3) pe_int (fun _ _ => rfl)) (fun _ _ => rfl))))
  (pss_cons (ps_if (pt_cmpR opEq (pv 2) pe_str (nomark _)) (pss_one (ps_set (i := 11) sc_law_numbers_by.nd rfl (Or.inl rfl) (pe_op (opMulK K) (pv 6) (pe_op op_sub (pe_op op_mod (pv 9) pe_int) pe_int)))) pss_nil)
  (pss_cons (ps_if (PW.pt (pw_or (pt_cmpR opEq (pv 2) pe_str (nomark _)) (pw_or (pt_cmpR opEq (pv 2) pe_str (nomark _)) (pw_or1 (pt_cmpR opEq (pv 2) pe_str (nomark _)))))) (pss_one (ps_set (i := 11) sc_law_numbers_by.nd rfl (Or.inl rfl) (pe_ix (ixAK K) (pv 10) (pe_ix (ixAK K) (pv 3) pe_int (fun _ _ => rfl)) (fun _ _ => rfl)))) pss_nil)
  (pss_one (ps_expr (pe_bmK K PySem.F.plainAttrs_list PySem.F.slot_list_append PySem.F.type_list_append mt_append (pv 8) (pa_cons (pe_op (opAddK K) (pv 11) (pe_op op_fdiv (pe_op op_mod (pe_op op_fdiv (pv 9) pe_int) pe_int) pe_int)) pa_nil)))))))))
  (pss_one (ps_ret (pv 8)))))), ?_⟩
  have hs : sizeLine = 16777216 := sizeLine_eq
  have l1 := B.l1
  have l4 := B.l4
  have o0 := Pr.o0
  have o1 := Pr.o1
  have t0 := Pr.t0
  have t1 := Pr.t1
  have st0 := B.s0
  have st1 := B.s1
  have bk : ∀ z : Int, z.natAbs < 2 ^ 64 → Builtin.Int.intBits z ≤ 64 := fun z h => intBits_le_iff.mpr h
  refine cut2 (fun σ H' => σ = [some (.int sd), some (.int mn), some (.str kd), some (.ref pr), some (.ref md), some (.ref b), some (.int st), some (.int wd), none, none, none, none] ∧ H = H') ?_ ?_
  rotate_left
  · intro u' hu
    walk_at "rd"
    refine ⟨_, hMd, rfl, ?_⟩
    walk_at "rd"
    exact hu _ _ ⟨rfl, rfl⟩
  rintro _ _ ⟨rfl, rfl⟩
  refine cut2 (fun σ H' => ∃ n : Addr, H n = none ∧ H' n = some (.lst []) ∧ σ = [some (.int sd), some (.int mn), some (.str kd), some (.ref pr), some (.ref md), some (.ref b), some (.int st), some (.int wd), some (.ref n), none, none, none] ∧ Same H H') ?_ ?_
  rotate_left
  · intro u' hu
    walk_at "rd"
    exact ⟨by omega, fun n hn => hu _ _ ⟨n, hn, upd_same, rfl, same_upd hn⟩⟩
  rintro _ H1 ⟨n, hn, hn1, rfl, s1⟩
  walk_at "rd"
  refine ⟨sd, mn, rfl, by omega, by omega, fun q1 zs H2 hzl hzb hq2 _ s12 => ?_⟩
  have hn2 := s12 _ _ hn1
  have nq : q1 ≠ n := fun e => by
    subst e
    rw [hq2] at hn2
    cases zs with
    | nil => simp at hzl; omega
    | cons z zs => cases hn2
  refine rIt_lst (SqL.of hq2) (loop_list (xs := zs.map V.int) (fun i σ H' => ∃ (D : List Int) (o1 o2 o3 : Option V), σ = [some (.int sd), some (.int mn), some (.str kd), some (.ref pr), some (.ref md), some (.ref b), some (.int st), some (.int wd), some (.ref n), o1, o2, o3] ∧ D.length = i ∧ (∀ d ∈ D, d.natAbs < 10 ^ 39) ∧ H' n = some (.lst (D.map V.int)) ∧ H' q1 = some (.lst (zs.map V.int)) ∧ Same H H')
    ⟨[], none, none, none, rfl, rfl, fun _ z => (by cases z), hn2, hq2, s1.trans s12⟩ (fun i σ H' _ z => by obtain ⟨_, _, _, _, _, _, _, _, z, _⟩ := z; exact SqL.of z) ?_ ?_)
  · rintro i y σ H8 hy ⟨D, o1', o2', o3', rfl, hDl, hDb, hn8, hq8, s8⟩
    have hi : i < zs.length := by have := (List.getElem?_eq_some_iff.mp hy).1; rw [List.length_map] at this; exact this
    obtain ⟨z, hz, rfl⟩ : ∃ z, z ∈ zs ∧ y = .int z := by
      obtain ⟨z, hz, e⟩ := List.mem_map.mp (List.mem_of_getElem? hy)
      exact ⟨z, hz, e.symm⟩
    obtain ⟨z0, z1⟩ := hzb z hz
    refine cut2 (fun σ H' => ∃ (tt : Addr) (us : List Int), us.length = bs.length ∧ (∀ u ∈ us, u.natAbs ≤ 10 ^ 32) ∧ H' tt = some (.tup (us.map V.int)) ∧ σ = [some (.int sd), some (.int mn), some (.str kd), some (.ref pr), some (.ref md), some (.ref b), some (.int st), some (.int wd), some (.ref n), some (.int z), some (.ref tt), o3'] ∧ Same H8 H') ?_ ?_
    rotate_left
    · intro u' hu
      walk_at "rd"
      exact ⟨⟨by decide, by decide⟩, z / 4, st, wd, b, bs, rfl, w1, w7, s8.seq B.lst, l4, B.bb, by omega, by omega, st0, st1, fun tt us H9 hul hub ht9 _ s9 => hu _ _ ⟨tt, us, hul, hub, ht9, rfl, s9⟩⟩
    rintro _ H9 ⟨tt, us, hul, hub, ht9, rfl, s89⟩
    have s9 := s8.trans s89
    have hn9 := s89 _ _ hn8
    have hq9 := s89 _ _ hq8
    have b_o := hub _ (noteA_mem (us := us) (v := o + 1) (by omega) (by omega))
    have b_t := hub _ (noteA_mem (us := us) (v := t + 1) (by omega) (by omega))
    have Pr9 := Pr.same s9
    have nb : (noteA us (o + 1)).natAbs ≤ 2 * 10 ^ 32 := by omega
    refine cut2 (fun σ H' => ∃ td : Int, td.natAbs ≤ 2 * 10 ^ 32 ∧ σ = [some (.int sd), some (.int mn), some (.str kd), some (.ref pr), some (.ref md), some (.ref b), some (.int st), some (.int wd), some (.ref n), some (.int z), some (.ref tt), some (.int td)] ∧ H9 = H') ?_ ?_
    rotate_left
    · intro u' hu
      walk_at "rd"
      refine rIx_t Pr9.tup (show atI _ ((1 : Nat) : Int) = _ from atI_nat rfl) (rIx_t (SqT.of ht9) (noteA_ix t0 (by omega)) (rIx_t Pr9.tup (atI_zero rfl) (rIx_t (SqT.of ht9) (noteA_ix o0 (by omega)) ?_)))
      walk_at "rd"
      exact hu _ _ ⟨_, by omega, rfl, rfl⟩
    rintro _ _ ⟨td, htd, rfl, rfl⟩
    refine cut2 (fun σ H' => ∃ td : Int, td.natAbs ≤ 2 * 10 ^ 32 ∧ σ = [some (.int sd), some (.int mn), some (.str kd), some (.ref pr), some (.ref md), some (.ref b), some (.int st), some (.int wd), some (.ref n), some (.int z), some (.ref tt), some (.int td)] ∧ H9 = H') ?_ ?_
    rotate_left
    · intro u' hu
      walk_at "rd"
      by_cases hk : kd = Str.ofString "move"
      · rw [if_pos hk]
        refine ⟨by decide, .of_left (bk _ (by omega)), hu _ _ ⟨_, ?_, rfl, rfl⟩⟩
        have h1 : (z % 9 - 4).natAbs ≤ 4 := by omega
        rw [Int.natAbs_mul]
        have h2 : st.natAbs ≤ 10 ^ 13 := by omega
        have := Nat.mul_le_mul h2 h1
        omega
      · rw [if_neg hk]
        exact hu _ _ ⟨td, htd, rfl, rfl⟩
    clear htd
    clear td
    rintro _ _ ⟨td, htd, rfl, rfl⟩
    refine cut2 (fun σ H' => ∃ td : Int, td.natAbs ≤ 2 * 10 ^ 32 ∧ σ = [some (.int sd), some (.int mn), some (.str kd), some (.ref pr), some (.ref md), some (.ref b), some (.int st), some (.int wd), some (.ref n), some (.int z), some (.ref tt), some (.int td)] ∧ H9 = H') ?_ ?_
    rotate_left
    · intro u' hu
      walk_at "rd"
      by_cases h1 : kd = Str.ofString "begin"
      · rw [if_pos h1]; exact rIx_t Pr9.tup (atI_zero rfl) (rIx_t (SqT.of ht9) (noteA_ix o0 (by omega)) (hu _ _ ⟨_, nb, rfl, rfl⟩))
      rw [if_neg h1]
      by_cases h2 : kd = Str.ofString "close"
      · rw [if_pos h2]; exact rIx_t Pr9.tup (atI_zero rfl) (rIx_t (SqT.of ht9) (noteA_ix o0 (by omega)) (hu _ _ ⟨_, nb, rfl, rfl⟩))
      rw [if_neg h2]
      by_cases h3 : kd = Str.ofString "times"
      · rw [if_pos h3]; exact rIx_t Pr9.tup (atI_zero rfl) (rIx_t (SqT.of ht9) (noteA_ix o0 (by omega)) (hu _ _ ⟨_, nb, rfl, rfl⟩))
      rw [if_neg h3]
      exact hu _ _ ⟨td, htd, rfl, rfl⟩
    clear htd
    clear td
    rintro _ _ ⟨td, htd, rfl, rfl⟩
    walk_at "rd"
    refine ⟨.inl ⟨rfl, _, SqL.of hn9⟩, ⟨by decide, by decide⟩, by decide, ⟨by decide, by decide⟩, n, _, _, rfl, rfl, hn9, by rw [List.length_map]; omega, D ++ [td + z / 9 % 7 / 6], by simp [hDl], fun y hy => ?_, by rw [upd_same, List.map_append]; rfl, by rw [upd_ne nq]; exact hq9, fun c u hc => ?_⟩
    · rcases List.mem_append.mp hy with h | h
      · exact hDb y h
      · rw [List.mem_singleton.mp h]; omega
    · rw [upd_ne (ne_of_none hc hn)]
      exact s9 _ _ hc
  · rintro σ H8 ⟨D, o1', o2', o3', rfl, hDl, hDb, hn8, hq8, s8⟩
    rw [List.length_map] at hDl
    walk_at "rd"
    exact q n D _ (by omega) (by omega) hDb hn8 s8
end
def kinds10 : List Str := ["span", "clock", "move", "alike", "back", "held", "times", "begin", "close", "every"]
section
variable {P : Program} {w : World} {K : PySem.W.Frag} {mg : Str → Option Value} {base : Heap} {aM : Addr}
theorem ok_words_by {f : Addr} {fd : FuncData} (F : Fun K "_law_words_by" "_law_words_by" s_law_words_by f fd) (T : Txt mg aM) (D_law_pick : Def P w K mg base "_law_pick" 3 ["_law_script", "_law_at"] (spPick K)) (D_law_numbers_by : Def P w K mg base "_law_numbers_by" 3 ["_law_seed", "_law_many", "_law_word", "_law_pair", "_law_made"] (spNumbersBy K)) : FnOk P w K mg base CX0 4 f fd ["_law_script", "_law_voices", "_law_made"] (spWordsBy K) := by
  refine F.ok sc_law_words_by (fun vs H Q E h => ?_) (fun cdv A outer s H vs Q E hr h => ?_)
  · obtain ⟨l, md, b, ns, bs, v, st, wd, rfl, _⟩ := h
    rfl
  obtain ⟨l, md, b, ns, bs, v, st, wd, rfl, hS, hbl, hMd, B, w1, w7, q⟩ := h
  refine ⟨_, (pss_cons (ps_set (i := 3) sc_law_words_by.nd rfl (Or.inl rfl) (pe_lst (pa_consts (vs := [.str (Str.ofString "span"), .str (Str.ofString "clock"), .str (Str.ofString "move"), .str (Str.ofString "alike"), .str (Str.ofString "back"), .str (Str.ofString "held"), .str (Str.ofString "times"), .str (Str.ofString "begin"), .str (Str.ofString "close"), .str (Str.ofString "every")]) rfl)))
  (pss_cons (ps_set (i := 4) sc_law_words_by.nd rfl (Or.inl rfl) (pe_ix (ixAK K) (pv 3) (pe_op op_mod (pe_def D_law_pick hr (by rfl) (pa_cons (pv 0) (pa_cons pe_int pa_nil))) pe_int) (fun _ _ => rfl)))
  (pss_cons (ps_set (i := 5) sc_law_words_by.nd rfl (Or.inl rfl) (pe_tup (pa_cons (pe_op op_mod (pe_def D_law_pick hr (by rfl) (pa_cons (pv 0) (pa_cons pe_int pa_nil))) (pv 1)) (pa_cons (pe_op op_mod (pe_op op_fdiv (pe_op op_mod (pe_def D_law_pick hr (by rfl) (pa_cons (pv 0) (pa_cons pe_int pa_nil))) pe_int) (pv 1)) (pv 1)) pa_nil))))
  (pss_cons (ps_set (i := 6) sc_law_words_by.nd rfl (Or.inl rfl) (pe_op op_mod (pe_def D_law_pick hr (by rfl) (pa_cons (pv 0) (pa_cons pe_int pa_nil))) pe_int))
  (pss_cons (ps_set (i := 7) sc_law_words_by.nd rfl (Or.inl rfl) (pe_def D_law_pick hr (by rfl) (pa_cons (pv 0) (pa_cons pe_int pa_nil))))
  (pss_cons (ps_set (i := 8) sc_law_words_by.nd rfl (Or.inl rfl) (pe_def D_law_numbers_by hr (by rfl) (pa_cons (pv 7) (pa_cons (pe_op (opAddK K) pe_int (pe_op op_mod (pe_def D_law_pick hr (by rfl) (pa_cons (pv 0) (pa_cons pe_int pa_nil))) pe_int)) (pa_cons (pv 4) (pa_cons (pv 5) (pa_cons (pv 2) pa_nil)))))))
  (pss_cons (ps_set (i := 9) sc_law_words_by.nd rfl (Or.inr rfl) (pe_op (opAddK K) pe_int (pe_op op_mod (pv 6) pe_int)))
  (pss_cons (ps_if (pt_cmpR opEq (pv 4) pe_str (nomark _)) (pss_one (ps_ret (pe_lst (pa_cons (pv 4) (pa_cons (pe_op (opAddK K) (pe_ix (ixAK K) (pv 5) pe_int (fun _ _ => rfl)) pe_int) (pa_cons (pe_callB (call_max2 rfl) (by rfl) T.n_max boot_max (pa_cons pe_int (pa_cons (pe_op op_sub (pe_op (opAddK K) (pe_op (opMulK K) (pe_ix (ixAK K) (pv 2) pe_int (fun _ _ => rfl)) (pe_op op_mod (pv 6) pe_int)) (pe_op op_mod (pe_op op_fdiv (pv 6) pe_int) pe_int)) pe_int) pa_nil))) pa_nil)))))) pss_nil)
  (pss_cons (ps_if (pt_cmpR opEq (pv 4) pe_str (nomark _)) (pss_one (ps_ret (pe_lst (pa_cons (pv 4) (pa_cons (pe_op (opAddK K) (pe_ix (ixAK K) (pv 5) pe_int (fun _ _ => rfl)) pe_int) (pa_cons (pe_op (opAddK K) pe_int (pe_op op_mod (pv 6) pe_int)) pa_nil)))))) pss_nil)
  (pss_cons (ps_if (pt_cmpR opEq (pv 4) pe_str (nomark _)) (pss_one (ps_ret (pe_lst (pa_cons (pv 4) (pa_cons (pe_op (opAddK K) (pe_ix (ixAK K) (pv 5) pe_int (fun _ _ => rfl)) pe_int) (pa_cons (pe_ix (ixAK K) (pv 8) pe_int (fun _ _ => rfl)) (pa_cons (pe_op op_mod (pv 6) pe_int) (pa_cons (pe_op op_mod (pe_op op_fdiv (pv 6) pe_int) pe_int) pa_nil)))))))) pss_nil)
  (pss_cons (ps_if (pt_cmpR opEq (pv 4) pe_str (nomark _)) (pss_one (ps_ret (pe_op (opAddK K) (pe_lst (pa_cons (pv 4) (pa_cons (pe_op (opAddK K) (pe_ix (ixAK K) (pv 5) pe_int (fun _ _ => rfl)) pe_int) (pa_cons (pe_op (opAddK K) (pe_ix (ixAK K) (pv 5) pe_int (fun _ _ => rfl)) pe_int) (pa_cons (pv 9) pa_nil))))) (pe_comp (own := ["_law_number"]) (js := [9]) rfl (pi_anyK K (pv 8)) (CompOk.of (by rfl)) (fun _ _ _ _ _ => (pg_name (i := 0) (show List.Nodup (["_law_number", "_law_beat"] : List Str) from by decide +kernel) rfl (Or.inl rfl))) (fun _ _ _ _ _ => pts_nil) (fun _ _ _ _ _ => (pe_op op_mod (pv 0) (pv 1))))))) pss_nil)
  (pss_cons (ps_if (PW.pt (pw_or (pt_cmpR opEq (pv 4) pe_str (nomark _)) (pw_or1 (pt_cmpR opEq (pv 4) pe_str (nomark _))))) (pss_one (ps_ret (pe_op (opAddK K) (pe_lst (pa_cons (pv 4) (pa_cons (pe_op (opAddK K) (pe_ix (ixAK K) (pv 5) pe_int (fun _ _ => rfl)) pe_int) (pa_cons (pe_op (opAddK K) (pe_ix (ixAK K) (pv 5) pe_int (fun _ _ => rfl)) pe_int) pa_nil)))) (pv 8)))) pss_nil)
  (pss_cons (ps_if (pt_cmpR opNe (pv 4) pe_str (nomark _)) (pss_one (ps_ret (pe_op (opAddK K) (pe_lst (pa_cons (pv 4) (pa_cons (pe_op (opAddK K) (pe_ix (ixAK K) (pv 5) pe_int (fun _ _ => rfl)) pe_int) pa_nil))) (pv 8)))) pss_nil)
  (pss_cons (ps_set (i := 10) sc_law_words_by.nd rfl (Or.inl rfl) (pe_op (opAddK K) pe_int (pe_op op_mod (pe_op op_fdiv (pv 6) pe_int) pe_int)))
  (pss_cons (ps_set (i := 11) sc_law_words_by.nd rfl (Or.inl rfl) (pe_lst (pa_cons (pv 4) (pa_cons (pv 10) (pa_cons (pe_op op_mod (pe_op op_fdiv (pv 6) pe_int) (pv 10)) pa_nil)))))
  (pss_cons (ps_if (pt_cmpR opEq (pe_op op_mod (pe_op op_fdiv (pv 6) pe_int) pe_int) pe_int (nomark _)) (pss_one (ps_ret (pe_op (opAddK K) (pe_op (opAddK K) (pv 11) (pe_lst (pa_cons pe_str (pa_cons (pe_op (opAddK K) (pe_ix (ixAK K) (pv 5) pe_int (fun _ _ => rfl)) pe_int) (pa_cons (pe_op (opAddK K) (pe_ix (ixAK K) (pv 5) pe_int (fun _ _ => rfl)) pe_int) pa_nil))))) (pv 8)))) pss_nil)
  (pss_one (ps_ret (pe_op (opAddK K) (pe_op (opAddK K) (pv 11) (pe_lst (pa_cons pe_str (pa_cons (pe_op (opAddK K) (pe_ix (ixAK K) (pv 5) pe_int (fun _ _ => rfl)) pe_int) (pa_cons (pe_op (opAddK K) (pe_ix (ixAK K) (pv 5) pe_int (fun _ _ => rfl)) pe_int) (pa_cons (pv 9) pa_nil)))))) (pe_comp (own := ["_law_number"]) (js := [9]) rfl (pi_anyK K (pv 8)) (CompOk.of (by rfl)) (fun _ _ _ _ _ => (pg_name (i := 0) (show List.Nodup (["_law_number", "_law_beat"] : List Str) from by decide +kernel) rfl (Or.inl rfl))) (fun _ _ _ _ _ => pts_nil) (fun _ _ _ _ _ => (pe_op op_mod (pv 0) (pv 1))))))))))))))))))))))), ?_⟩
  have hs : sizeLine = 16777216 := sizeLine_eq
  have l1 := B.l1
  have l4 := B.l4
  have st0 := B.s0
  have st1 := B.s1
  have bk : ∀ z : Int, z.natAbs < 2 ^ 64 → Builtin.Int.intBits z ≤ 64 := fun z h => intBits_le_iff.mpr h
  have pk : ∀ {p : Int} {H' : Hp} {Q' : VK}, Same H H' → 0 ≤ p → (∀ i H'', Same H H'' → Same H' H'' → i = pickF ns p → Q' (.int i) H'') → spPick K [.ref l, .int p] H' Q' E0 := fun {p H' Q'} s1 h0 q => ⟨l, ns, p, rfl, s1.seq hS, h0, fun H'' s2 => q _ H'' (s1.trans s2) s2 rfl⟩
  refine cut2 (fun σ H' => ∃ so : Addr, H' so = some (.lst (kinds10.map V.str)) ∧ σ = [some (.ref l), some (.int v), some (.ref md), some (.ref so), none, none, none, none, none, none, none, none] ∧ Same H H') ?_ ?_
  rotate_left
  · intro u' hu
    walk_at "rd"
    exact ⟨by omega, fun p hp => hu _ _ ⟨p, upd_same, rfl, same_upd hp⟩⟩
  rintro _ H1 ⟨so, hso, rfl, s1⟩
  refine cut2 (fun σ H' => ∃ kd : Str, kd ∈ kinds10 ∧ σ = [some (.ref l), some (.int v), some (.ref md), some (.ref so), some (.str kd), none, none, none, none, none, none, none] ∧ Same H H') ?_ ?_
  rotate_left
  · intro u' hu
    walk_at "rd"
    refine pk s1 (by decide) fun i H2 s2 s12 _ => ?_
    walk_at "rd"
    obtain ⟨x, hx⟩ := atI_mod (xs := kinds10.map V.str) (c := i) (m := 10) (by decide) (by decide)
    obtain ⟨kd, hk, rfl⟩ := atI_all (P := fun x => ∃ kd ∈ kinds10, x = .str kd) (fun x hx => by obtain ⟨y, hy, rfl⟩ := List.mem_map.mp hx; exact ⟨y, hy, rfl⟩) hx
    exact ⟨by decide, rIx_l (SqL.of (s12 _ _ hso)) hx (hu _ _ ⟨kd, hk, rfl, s2⟩)⟩
  clear hso s1
  rintro _ H1 ⟨kd, hkd, rfl, s1⟩
  refine cut2 (fun σ H' => ∃ (pr : Addr) (o t : Int), PairAt K H' pr o t bs.length ∧ σ = [some (.ref l), some (.int v), some (.ref md), some (.ref so), some (.str kd), some (.ref pr), none, none, none, none, none, none] ∧ Same H H') ?_ ?_
  rotate_left
  · intro u' hu
    walk_at "rd"
    refine pk s1 (by decide) fun i H5 s5 s45 _ => ?_
    walk_at "rd"
    refine ⟨by omega, pk s5 (by decide) fun j H6 s6 s56 _ => ?_⟩
    walk_at "rd"
    refine ⟨by decide, ⟨by omega, by omega⟩, by omega, by omega, fun p hp => hu _ _ ⟨p, _, _, ⟨SqT.of upd_same, Int.emod_nonneg _ (by omega), ?_, Int.emod_nonneg _ (by omega), ?_⟩, rfl, s6.upd hp⟩⟩
    · have := Int.emod_lt_of_pos i (show 0 < v by omega); omega
    · have := Int.emod_lt_of_pos (j % 64 / v) (show 0 < v by omega); omega
  clear s1
  clear H1
  rintro _ H1 ⟨pr, o, t, Pr1, rfl, s1⟩
  refine cut2 (fun σ H' => ∃ sm : Int, 0 ≤ sm ∧ sm < 3600 ∧ σ = [some (.ref l), some (.int v), some (.ref md), some (.ref so), some (.str kd), some (.ref pr), some (.int sm), none, none, none, none, none] ∧ Same H1 H') ?_ ?_
  rotate_left
  · intro u' hu
    walk_at "rd"
    refine pk s1 (by decide) fun i H2 s2 s12 _ => ?_
    walk_at "rd"
    exact ⟨by decide, hu _ _ ⟨_, Int.emod_nonneg _ (by decide), Int.emod_lt_of_pos _ (by decide), rfl, s12⟩⟩
  rintro _ H2 ⟨sm, sm0, sm1, rfl, s12⟩
  refine cut2 (fun σ H' => ∃ sd : Int, σ = [some (.ref l), some (.int v), some (.ref md), some (.ref so), some (.str kd), some (.ref pr), some (.int sm), some (.int sd), none, none, none, none] ∧ Same H2 H') ?_ ?_
  rotate_left
  · intro u' hu
    walk_at "rd"
    exact pk (s1.trans s12) (by decide) fun i H3 s3 s23 _ => hu _ _ ⟨i, rfl, s23⟩
  rintro _ H3 ⟨sd, rfl, s23⟩
  have s13 := s12.trans s23
  have s3 := s1.trans s13
  refine cut2 (fun σ H' => ∃ (n : Addr) (D : List Int), 1 ≤ D.length ∧ D.length ≤ 12 ∧ (∀ d ∈ D, d.natAbs < 10 ^ 39) ∧ H' n = some (.lst (D.map V.int)) ∧ σ = [some (.ref l), some (.int v), some (.ref md), some (.ref so), some (.str kd), some (.ref pr), some (.int sm), some (.int sd), some (.ref n), none, none, none] ∧ Same H1 H') ?_ ?_
  rotate_left
  · intro u' hu
    walk_at "rd"
    refine pk s3 (by decide) fun i H4 s4 s34 _ => ?_
    walk_at "rd"
    exact ⟨by decide, sd, _, kd, pr, md, b, bs, o, t, st, wd, rfl, by omega, by omega, Pr1.same (s13.trans s34), s4.tup hMd, B.same s4, w1, w7, fun n D H5 d1 d2 db hn s45 => hu _ _ ⟨n, D, d1, d2, db, hn, rfl, (s13.trans s34).trans s45⟩⟩
  clear s3 s13 s12 s23
  rintro _ H4 ⟨n, D, d1, d2, db, hn, rfl, s14⟩
  have s4 := s1.trans s14
  have Pr := Pr1.same s14
  have hMd4 := s4.tup hMd
  refine cut2 (fun σ H' => ∃ bt : Int, 1 ≤ bt ∧ bt ≤ 12 ∧ σ = [some (.ref l), some (.int v), some (.ref md), some (.ref so), some (.str kd), some (.ref pr), some (.int sm), some (.int sd), some (.ref n), some (.int bt), none, none] ∧ H4 = H') ?_ ?_
  rotate_left
  · intro u' hu
    walk_at "rd"
    exact ⟨by decide, hu _ _ ⟨_, by omega, by omega, rfl, rfl⟩⟩
  rintro _ _ ⟨bt, bt1, bt2, rfl, rfl⟩
  have o0 := Pr.o0
  have o1 := Pr.o1
  have t0 := Pr.t0
  have t1 := Pr.t1
  have db' : ∀ d ∈ D, d.natAbs < 10 ^ 40 := fun d hd => by have := db d hd; omega
  have dm : ∀ d ∈ D.map (fun x => x % bt), d.natAbs < 10 ^ 40 := fun d hd => by
    obtain ⟨x, _, rfl⟩ := List.mem_map.mp hd
    have h1 := Int.emod_nonneg x (show bt ≠ 0 by omega)
    have h2 := Int.emod_lt_of_pos x (show 0 < bt by omega)
    omega
  have ix0 : ∀ {H' : Hp} {Q' : VK}, Same H4 H' → Q' (.int o) H' → rIx K (.ref pr) (.int 0) H' Q' := fun s hq => rIx_t (s.tup Pr.tup) (atI_zero rfl) hq
  have ix1 : ∀ {H' : Hp} {Q' : VK}, Same H4 H' → Q' (.int t) H' → rIx K (.ref pr) (.int 1) H' Q' := fun s hq => rIx_t (s.tup Pr.tup) (show atI _ ((1 : Nat) : Int) = _ from atI_nat rfl) hq
  have R4 := Same.refl H4
  refine cut2 (fun σ H' => kd ≠ Str.ofString "back" ∧ σ = [some (.ref l), some (.int v), some (.ref md), some (.ref so), some (.str kd), some (.ref pr), some (.int sm), some (.int sd), some (.ref n), some (.int bt), none, none] ∧ H4 = H') ?_ ?_
  rotate_left
  · intro u' hu
    walk_at "rd"
    by_cases hk : kd = Str.ofString "back"
    · rw [if_pos hk]
      subst hk
      refine ix0 R4 ?_
      walk_at "rd"
      refine rIx_t hMd4 (show atI _ ((1 : Nat) : Int) = _ from atI_nat rfl) ?_
      walk_at "rd"
      have hX : (st * (sm % 4) + sm / 4 % 3 - 1).natAbs < 10 ^ 20 := by
        have h1 : (sm % 4).natAbs ≤ 4 := by omega
        have h2 : st.natAbs ≤ 10 ^ 13 := by omega
        have h3 := Nat.mul_le_mul h2 h1
        rw [← Int.natAbs_mul] at h3
        omega
      refine ⟨by decide, .of_left (bk _ (by omega)), ⟨by decide, by decide⟩, by decide, by omega, fun p hp => ?_⟩
      refine q p (.plain (.back o (if st * (sm % 4) + sm / 4 % 3 - 1 > 0 then st * (sm % 4) + sm / 4 % 3 - 1 else 0))) _ ⟨o0, o1, by split <;> omega⟩ ⟨List.forall_mem_cons.mpr ⟨by omega, List.forall_mem_cons.mpr ⟨by split <;> omega, fun _ z => by cases z⟩⟩, trivial⟩ upd_same (s4.upd hp)
    · rw [if_neg hk]
      exact hu _ _ ⟨hk, rfl, rfl⟩
  rintro _ _ ⟨k_back, rfl, rfl⟩
  refine cut2 (fun σ H' => kd ≠ Str.ofString "held" ∧ σ = [some (.ref l), some (.int v), some (.ref md), some (.ref so), some (.str kd), some (.ref pr), some (.int sm), some (.int sd), some (.ref n), some (.int bt), none, none] ∧ H4 = H') ?_ ?_
  rotate_left
  · intro u' hu
    walk_at "rd"
    by_cases hk : kd = Str.ofString "held"
    · rw [if_pos hk]
      subst hk
      refine ix0 R4 ?_
      walk_at "rd"
      exact ⟨by decide, by omega, fun p hp => q p (.plain (.held o (1 + sm % 5))) _ ⟨o0, o1, by omega⟩ ⟨List.forall_mem_cons.mpr ⟨by omega, List.forall_mem_cons.mpr ⟨by omega, fun _ z => by cases z⟩⟩, trivial⟩ upd_same (s4.upd hp)⟩
    · rw [if_neg hk]
      exact hu _ _ ⟨hk, rfl, rfl⟩
  rintro _ _ ⟨k_held, rfl, rfl⟩
  refine cut2 (fun σ H' => kd ≠ Str.ofString "times" ∧ σ = [some (.ref l), some (.int v), some (.ref md), some (.ref so), some (.str kd), some (.ref pr), some (.int sm), some (.int sd), some (.ref n), some (.int bt), none, none] ∧ H4 = H') ?_ ?_
  rotate_left
  · intro u' hu
    walk_at "rd"
    by_cases hk : kd = Str.ofString "times"
    · rw [if_pos hk]
      subst hk
      refine ix0 R4 ?_
      walk_at "rd"
      obtain ⟨d, D', rfl⟩ : ∃ d D', D = d :: D' := by
        cases D with
        | nil => simp at d1
        | cons d D' => exact ⟨d, D', rfl⟩
      refine rIx_l (SqL.of hn) (atI_zero rfl) ?_
      walk_at "rd"
      have hd := db' d (.head _)
      exact ⟨by decide, ⟨by decide, by decide⟩, by decide, by omega, fun p hp => q p (.plain (.times o d (sm % 4) (sm / 4 % 9))) _ ⟨o0, o1, by omega⟩ ⟨List.forall_mem_cons.mpr ⟨by omega, List.forall_mem_cons.mpr ⟨hd, List.forall_mem_cons.mpr ⟨by omega, List.forall_mem_cons.mpr ⟨by omega, fun _ z => by cases z⟩⟩⟩⟩, show 0 ≤ sm % 4 by omega⟩ upd_same (s4.upd hp)⟩
    · rw [if_neg hk]
      exact hu _ _ ⟨hk, rfl, rfl⟩
  rintro _ _ ⟨k_times, rfl, rfl⟩
  refine cut2 (fun σ H' => kd ≠ Str.ofString "clock" ∧ σ = [some (.ref l), some (.int v), some (.ref md), some (.ref so), some (.str kd), some (.ref pr), some (.int sm), some (.int sd), some (.ref n), some (.int bt), none, none] ∧ H4 = H') ?_ ?_
  rotate_left
  · intro u' hu
    walk_at "rd"
    by_cases hk : kd = Str.ofString "clock"
    · rw [if_pos hk]
      subst hk
      refine ix0 R4 ?_
      walk_at "rd"
      refine ix1 R4 ?_
      walk_at "rd"
      refine ⟨by omega, fun p hp => ?_⟩
      have sp : Same H4 (upd H4 p (.lst [.str (Str.ofString "clock"), .int (o + 1), .int (t + 1), .int bt])) := same_upd hp
      have hp5 : (upd H4 p (.lst [.str (Str.ofString "clock"), .int (o + 1), .int (t + 1), .int bt])) p = some (.lst [.str (Str.ofString "clock"), .int (o + 1), .int (t + 1), .int bt]) := upd_same
      generalize upd H4 p (.lst [.str (Str.ofString "clock"), .int (o + 1), .int (t + 1), .int bt]) = H5 at sp hp5 ⊢
      have hn5 := sp _ _ hn
      refine rIt_lst (SqL.of hn5) (cloop_list (xs := D.map V.int) (fun i ys H' => ys = ((D.take i).map fun x => x % bt).map V.int ∧ H5 = H') (by rw [List.length_map]; omega) ⟨rfl, rfl⟩ ?_ ?_ ?_ ?_)
      · rintro i ys H' ⟨rfl, rfl⟩
        rw [List.length_map, List.length_map, List.length_take]
        omega
      · rintro i ys H' ⟨rfl, rfl⟩
        exact SqL.of hn5
      · rintro i x ys H' hx ⟨rfl, rfl⟩
        rw [List.getElem?_map] at hx
        cases hd : D[i]? with
        | none => rw [hd] at hx; cases hx
        | some d =>
          rw [hd] at hx
          cases hx
          walk_at "rd"
          rw [List.take_add_one, hd]
          exact ⟨by omega, by simp⟩
      · rintro ys H' ⟨rfl, rfl⟩ p2 hp2
        rw [List.length_map, List.take_length]
        refine rAddA_ll ((same_upd hp2) _ _ hp5) upd_same (by simp; omega) fun p3 hp3 => ?_
        exact q p3 (.plain (.clock o t bt (D.map fun x => x % bt))) _ ⟨o0, o1, t0, t1, bt1⟩ ⟨List.forall_mem_cons.mpr ⟨by omega, List.forall_mem_cons.mpr ⟨by omega, List.forall_mem_cons.mpr ⟨by omega, dm⟩⟩⟩, by rw [List.length_map]; exact d1, by rw [List.length_map]; exact d2⟩ upd_same (((s4.trans sp).upd hp2).upd hp3)
    · rw [if_neg hk]
      exact hu _ _ ⟨hk, rfl, rfl⟩
  rintro _ _ ⟨k_clock, rfl, rfl⟩
  refine cut2 (fun σ H' => kd ≠ Str.ofString "span" ∧ kd ≠ Str.ofString "alike" ∧ σ = [some (.ref l), some (.int v), some (.ref md), some (.ref so), some (.str kd), some (.ref pr), some (.int sm), some (.int sd), some (.ref n), some (.int bt), none, none] ∧ H4 = H') ?_ ?_
  rotate_left
  · intro u' hu
    walk_at "rd"
    by_cases hk : kd = Str.ofString "span"
    · rw [if_pos hk]
      subst hk
      refine ix0 R4 ?_
      walk_at "rd"
      refine ix1 R4 ?_
      walk_at "rd"
      refine ⟨by omega, fun p hp => rAddA_ll upd_same ((same_upd hp) _ _ hn) (by simp; omega) fun p2 hp2 => ?_⟩
      exact q p2 (.plain (.span o t D)) _ ⟨o0, o1, t0, t1⟩ ⟨List.forall_mem_cons.mpr ⟨by omega, List.forall_mem_cons.mpr ⟨by omega, db'⟩⟩, d1, d2⟩ upd_same ((s4.upd hp).upd hp2)
    rw [if_neg hk]
    by_cases hk2 : kd = Str.ofString "alike"
    · rw [if_pos hk2]
      subst hk2
      refine ix0 R4 ?_
      walk_at "rd"
      refine ix1 R4 ?_
      walk_at "rd"
      refine ⟨by omega, fun p hp => rAddA_ll upd_same ((same_upd hp) _ _ hn) (by simp; omega) fun p2 hp2 => ?_⟩
      exact q p2 (.plain (.alike o t D)) _ ⟨o0, o1, t0, t1⟩ ⟨List.forall_mem_cons.mpr ⟨by omega, List.forall_mem_cons.mpr ⟨by omega, db'⟩⟩, d1, d2⟩ upd_same ((s4.upd hp).upd hp2)
    · rw [if_neg hk2]
      exact hu _ _ ⟨hk, hk2, rfl, rfl⟩
  rintro _ _ ⟨k_span, k_alike, rfl, rfl⟩
  refine cut2 (fun σ H' => kd = Str.ofString "every" ∧ σ = [some (.ref l), some (.int v), some (.ref md), some (.ref so), some (.str kd), some (.ref pr), some (.int sm), some (.int sd), some (.ref n), some (.int bt), none, none] ∧ H4 = H') ?_ ?_
  rotate_left
  · intro u' hu
    walk_at "rd"
    by_cases hk : kd = Str.ofString "every"
    · rw [if_pos hk]
      exact hu _ _ ⟨hk, rfl, rfl⟩
    rw [if_neg hk]
    have fin : ∃ f : Int → List Int → RowK, rowV (f o D) = .str kd :: ((o + 1) :: D).map V.int ∧ goodK bs.length (f o D) ∧ nbK (f o D) := by
      have hnb : ∀ n ∈ (o + 1) :: D, n.natAbs < 10 ^ 40 := List.forall_mem_cons.mpr ⟨by omega, db'⟩
      simp only [kinds10, List.mem_cons, List.not_mem_nil, or_false] at hkd
      rcases hkd with e | e | e | e | e | e | e | e | e | e
      · exact absurd e k_span
      · exact absurd e k_clock
      · exact ⟨.move, by rw [e]; rfl, ⟨o0, o1⟩, hnb, d1, d2⟩
      · exact absurd e k_alike
      · exact absurd e k_back
      · exact absurd e k_held
      · exact absurd e k_times
      · exact ⟨.begin, by rw [e]; rfl, ⟨o0, o1⟩, hnb, d1, d2⟩
      · exact ⟨.close, by rw [e]; rfl, ⟨o0, o1⟩, hnb, d1, d2⟩
      · exact absurd e hk
    obtain ⟨f, f1, f2, f3⟩ := fin
    refine ix0 R4 ?_
    walk_at "rd"
    refine ⟨by omega, fun p hp => rAddA_ll upd_same ((same_upd hp) _ _ hn) (by simp; omega) fun p2 hp2 => ?_⟩
    exact q p2 (.plain (f o D)) _ f2 f3 (by rw [upd_same]; show _ = some (HO.lst (rowV (f o D))); rw [f1]; rfl) ((s4.upd hp).upd hp2)
  rintro _ _ ⟨hk, rfl, rfl⟩
  subst hk
  walk_at "rd"
  refine ⟨⟨by decide, by decide⟩, by decide, ⟨by decide, by decide⟩, by omega, by omega, fun p hp => ⟨⟨by decide, by decide⟩, by decide, ?_⟩⟩
  have mm1 : 1 ≤ 1 + sm / 12 % 5 ∧ 1 + sm / 12 % 5 ≤ 5 := by omega
  have aa0 := Int.emod_nonneg (sm / 60) (show 1 + sm / 12 % 5 ≠ 0 by omega)
  have aa1 := Int.emod_lt_of_pos (sm / 60) (show 0 < 1 + sm / 12 % 5 by omega)
  generalize 1 + sm / 12 % 5 = mm at mm1 aa0 aa1 ⊢
  generalize sm / 60 % mm = aa at aa0 aa1 ⊢
  have sp : Same H4 (upd H4 p (.lst [.str (Str.ofString "every"), .int mm, .int aa])) := same_upd hp
  have hp5 : (upd H4 p (.lst [.str (Str.ofString "every"), .int mm, .int aa])) p = some (.lst [.str (Str.ofString "every"), .int mm, .int aa]) := upd_same
  generalize upd H4 p (.lst [.str (Str.ofString "every"), .int mm, .int aa]) = H5 at sp hp5 ⊢
  have hn5 := sp _ _ hn
  by_cases hk : sm / 300 % 2 = 0
  · rw [if_pos hk]
    refine ix0 sp ?_
    walk_at "rd"
    refine ix1 sp ?_
    walk_at "rd"
    refine ⟨by omega, fun p2 hp2 => rAddA_ll ((same_upd hp2) _ _ hp5) upd_same (by simp; omega) fun p3 hp3 => ?_⟩
    have s3 := (same_upd hp2).upd (o := .lst ([.str (Str.ofString "every"), .int mm, .int aa] ++ [.str (Str.ofString "span"), .int (o + 1), .int (t + 1)])) hp3
    refine rAddA_ll upd_same (s3 _ _ hn5) (by simp; omega) fun p4 hp4 => ?_
    exact q p4 (.every mm aa (.span o t D)) _ ⟨⟨o0, o1, t0, t1⟩, trivial, by omega, aa0, aa1⟩ ⟨⟨List.forall_mem_cons.mpr ⟨by omega, List.forall_mem_cons.mpr ⟨by omega, db'⟩⟩, d1, d2⟩, by omega, by omega⟩ upd_same ((s4.trans (sp.trans s3)).upd hp4)
  · rw [if_neg hk]
    refine ix0 sp ?_
    walk_at "rd"
    refine ix1 sp ?_
    walk_at "rd"
    refine ⟨by omega, fun p2 hp2 => rAddA_ll ((same_upd hp2) _ _ hp5) upd_same (by simp; omega) fun p3 hp3 => ?_⟩
    have s3 := (same_upd hp2).upd (o := .lst ([.str (Str.ofString "every"), .int mm, .int aa] ++ [.str (Str.ofString "clock"), .int (o + 1), .int (t + 1), .int bt])) hp3
    have hp6 := upd_same (H := upd H5 p2 (.lst [.str (Str.ofString "clock"), .int (o + 1), .int (t + 1), .int bt])) (a := p3) (o := .lst ([.str (Str.ofString "every"), .int mm, .int aa] ++ [.str (Str.ofString "clock"), .int (o + 1), .int (t + 1), .int bt]))
    generalize upd (upd H5 p2 (.lst [.str (Str.ofString "clock"), .int (o + 1), .int (t + 1), .int bt])) p3 (.lst ([.str (Str.ofString "every"), .int mm, .int aa] ++ [.str (Str.ofString "clock"), .int (o + 1), .int (t + 1), .int bt])) = H6 at s3 hp6 ⊢
    have hn6 := s3 _ _ hn5
    refine rIt_lst (SqL.of hn6) (cloop_list (xs := D.map V.int) (fun i ys H' => ys = ((D.take i).map fun x => x % bt).map V.int ∧ H6 = H') (by rw [List.length_map]; omega) ⟨rfl, rfl⟩ ?_ ?_ ?_ ?_)
    · rintro i ys H' ⟨rfl, rfl⟩
      rw [List.length_map, List.length_map, List.length_take]
      omega
    · rintro i ys H' ⟨rfl, rfl⟩
      exact SqL.of hn6
    · rintro i x ys H' hx ⟨rfl, rfl⟩
      rw [List.getElem?_map] at hx
      cases hd : D[i]? with
      | none => rw [hd] at hx; cases hx
      | some d =>
        rw [hd] at hx
        cases hx
        walk_at "rd"
        rw [List.take_add_one, hd]
        exact ⟨by omega, by simp⟩
    · rintro ys H' ⟨rfl, rfl⟩ p4 hp4
      rw [List.length_map, List.take_length]
      refine rAddA_ll ((same_upd hp4) _ _ hp6) upd_same (by simp; omega) fun p5 hp5' => ?_
      exact q p5 (.every mm aa (.clock o t bt (D.map fun x => x % bt))) _ ⟨⟨o0, o1, t0, t1, bt1⟩, trivial, by omega, aa0, aa1⟩ ⟨⟨List.forall_mem_cons.mpr ⟨by omega, List.forall_mem_cons.mpr ⟨by omega, List.forall_mem_cons.mpr ⟨by omega, dm⟩⟩⟩, by rw [List.length_map]; exact d1, by rw [List.length_map]; exact d2⟩, by omega, by omega⟩ upd_same (((s4.trans (sp.trans s3)).upd hp4).upd hp5')
end
def Made (P : Program) (w : World) (K : PySem.W.Frag) (mg : Str → Option Value) (base : Heap) (Dt : List (Str × V)) (nv : Nat) (R : RowK) : Prop := ∃ (f C : Addr) (sp : Sp) (RI : Str → RIT), KTD.datumAt (kindK R) Dt = some (.ref f) ∧ FnAt P w K mg base 7 f ["row", "numbers", "voices"] sp ∧
  (∀ (row : Str) (q : Addr) (H' : Hp) (Q' : VK), H' q = some (.lst ((numsK R).map V.int)) → (∀ r H'', Same H' H'' → RI row r H'' → Q' (.ref r) H'') → sp [.str row, .ref q, .int nv] H' Q' E0) ∧
  (∀ row, RuleObj P w K mg base 7 nv C (semK R) (RI row) (memG R)) ∧ (∀ row, MethOk P w K mg base C "shown" 7 ["self"] (spR0 (RI row) (.str row))) ∧ (innK R → ∀ row, RuleObj P w K mg base 4 nv C (semK R) (RI row) (memG R))
section
variable {P : Program} {w : World} {K : PySem.W.Frag} {mg : Str → Option Value} {base : Heap} {aM : Addr}
theorem ok_read_plain {f T0 : Addr} {fd : FuncData} (F : FunD K "read_rule" "read_rule" s_read_rule f fd T0) (T : Txt mg aM) (D_plain_rule : Def P w K mg base "plain_rule" 9 ["row", "voices"] (spPlain P w K mg base aM 7)) : FnOk P w K mg base CX0 10 f fd ["text", "voices", "row"] (spRead P w K mg base aM 7) := by
  refine F.ok sc_read_rule (fun vs H Q E h => ?_) (fun cdv A outer s H vs Q E hr h => ?_)
  · obtain ⟨row, kind, ns, nv, z, D, g, sp, Res, rfl, _⟩ := h
    rfl
  obtain ⟨row, kind, ns, nv, z, D, g, sp, Res, rfl, R, hk, tab, hg, fn, k, kq⟩ := h
  refine ⟨_, (pss_cons (ps_set (i := 3) sc_read_rule.nd rfl (Or.inl rfl) (pe_ifExp (pt_truth (pe_bmK K PySem.F.plainAttrs_str PySem.F.slot_str_startswith PySem.F.type_str_startswith mt_startswith (pv 0) (pa_cons pe_str pa_nil)) (fun _ => rfl)) pe_never (pe_def D_plain_rule hr (by rfl) (pa_cons (pv 0) (pa_cons (pv 1) pa_nil)))))
  (pss_cons (ps_if (pt_cmpR op_isN (pv 3) pe_non (nomark _)) (pss_one ps_never) pss_nil)
  (pss_one (ps_ret (pv 3))))), ?_⟩
  walk_at "rd"
  rw [starts_not row _ (c := 101) (by decide +kernel) (by rw [R.head]; exact hk), if_neg Bool.false_ne_true]
  refine ⟨row, kind, ns, nv, D, g, sp, Res, rfl, R, tab, hg, fn, k, fun v H' hv => ?_⟩
  obtain ⟨hn, q⟩ := kq v H' hv
  rw [if_neg hn]
  exact q
theorem mades {Dt : List (Str × V)} {f_span C_Span : Addr} {f_clock C_Clock : Addr} {f_move C_Move : Addr} {f_alike C_Alike : Addr} {f_back C_Back : Addr} {f_held C_Held : Addr} {f_times C_Times : Addr} {f_begin C_Begin : Addr} {f_close C_Close : Addr}
    (hd_span : KTD.datumAt ("span" : Str) Dt = some (.ref f_span)) (fn_span : FnAt P w K mg base 7 f_span ["row", "numbers", "voices"] (spSpanOf K C_Span)) (RO_span : ∀ (row : Str) (x1 x2 : Int) (D : List Int) (nv : Nat), (1 ≤ x1 ∧ x1 ≤ nv) → (1 ≤ x2 ∧ x2 ≤ nv) → RuleObj P w K mg base 4 nv C_Span (semSpan x1 x2 D) (RISpan C_Span row x1 x2 D) fun _ => True) (SH_span : ∀ (row : Str) (x1 x2 : Int) (D : List Int), MethOk P w K mg base C_Span "shown" 7 ["self"] (spR0 (RISpan C_Span row x1 x2 D) (.str row)))
    (hd_clock : KTD.datumAt ("clock" : Str) Dt = some (.ref f_clock)) (fn_clock : FnAt P w K mg base 7 f_clock ["row", "numbers", "voices"] (spClockOf K C_Clock)) (RO_clock : ∀ (row : Str) (x1 x2 x3 : Int) (D : List Int) (nv : Nat), (1 ≤ x1 ∧ x1 ≤ nv) → (1 ≤ x2 ∧ x2 ≤ nv) → 1 ≤ x3 → RuleObj P w K mg base 4 nv C_Clock (semClock x1 x2 x3 D) (RIClock C_Clock row x1 x2 x3 D) fun _ => True) (SH_clock : ∀ (row : Str) (x1 x2 x3 : Int) (D : List Int), MethOk P w K mg base C_Clock "shown" 7 ["self"] (spR0 (RIClock C_Clock row x1 x2 x3 D) (.str row)))
    (hd_move : KTD.datumAt ("move" : Str) Dt = some (.ref f_move)) (fn_move : FnAt P w K mg base 7 f_move ["row", "numbers", "voices"] (spMoveOf K C_Move)) (RO_move : ∀ (row : Str) (x1 : Int) (D : List Int) (nv : Nat), (1 ≤ x1 ∧ x1 ≤ nv) → RuleObj P w K mg base 7 nv C_Move (semMove x1 D) (RIMove C_Move row x1 D) fun _ => True) (SH_move : ∀ (row : Str) (x1 : Int) (D : List Int), MethOk P w K mg base C_Move "shown" 7 ["self"] (spR0 (RIMove C_Move row x1 D) (.str row)))
    (hd_alike : KTD.datumAt ("alike" : Str) Dt = some (.ref f_alike)) (fn_alike : FnAt P w K mg base 7 f_alike ["row", "numbers", "voices"] (spAlikeOf K C_Alike)) (RO_alike : ∀ (row : Str) (x1 x2 : Int) (D : List Int) (nv : Nat), (1 ≤ x1 ∧ x1 ≤ nv) → (1 ≤ x2 ∧ x2 ≤ nv) → RuleObj P w K mg base 7 nv C_Alike (semAlike x1 x2 D) (RIAlike C_Alike row x1 x2 D) fun _ => True) (SH_alike : ∀ (row : Str) (x1 x2 : Int) (D : List Int), MethOk P w K mg base C_Alike "shown" 7 ["self"] (spR0 (RIAlike C_Alike row x1 x2 D) (.str row)))
    (hd_back : KTD.datumAt ("back" : Str) Dt = some (.ref f_back)) (fn_back : FnAt P w K mg base 7 f_back ["row", "numbers", "voices"] (spBackOf K C_Back)) (RO_back : ∀ (row : Str) (x1 x2 : Int) (nv : Nat), (1 ≤ x1 ∧ x1 ≤ nv) → 0 ≤ x2 → RuleObj P w K mg base 7 nv C_Back (semBack x1 x2) (RIBack C_Back row x1 x2) memBk) (SH_back : ∀ (row : Str) (x1 x2 : Int), MethOk P w K mg base C_Back "shown" 7 ["self"] (spR0 (RIBack C_Back row x1 x2) (.str row)))
    (hd_held : KTD.datumAt ("held" : Str) Dt = some (.ref f_held)) (fn_held : FnAt P w K mg base 7 f_held ["row", "numbers", "voices"] (spHeldOf K C_Held)) (RO_held : ∀ (row : Str) (x1 x2 : Int) (nv : Nat), (1 ≤ x1 ∧ x1 ≤ nv) → 1 ≤ x2 → RuleObj P w K mg base 7 nv C_Held (semHeld x1 x2) (RIHeld C_Held row x1 x2) (memHd x2)) (SH_held : ∀ (row : Str) (x1 x2 : Int), MethOk P w K mg base C_Held "shown" 7 ["self"] (spR0 (RIHeld C_Held row x1 x2) (.str row)))
    (hd_times : KTD.datumAt ("times" : Str) Dt = some (.ref f_times)) (fn_times : FnAt P w K mg base 7 f_times ["row", "numbers", "voices"] (spTimesOf K C_Times)) (RO_times : ∀ (row : Str) (x1 x2 x3 x4 : Int) (nv : Nat), (1 ≤ x1 ∧ x1 ≤ nv) → 0 ≤ x4 → RuleObj P w K mg base 7 nv C_Times (semTimes x1 x2 x3 x4) (RITimes C_Times row x1 x2 x3 x4) (memTm x4)) (SH_times : ∀ (row : Str) (x1 x2 x3 x4 : Int), MethOk P w K mg base C_Times "shown" 7 ["self"] (spR0 (RITimes C_Times row x1 x2 x3 x4) (.str row)))
    (hd_begin : KTD.datumAt ("begin" : Str) Dt = some (.ref f_begin)) (fn_begin : FnAt P w K mg base 7 f_begin ["row", "numbers", "voices"] (spBeginOf K C_Begin)) (RO_begin : ∀ (row : Str) (x1 : Int) (D : List Int) (nv : Nat), (1 ≤ x1 ∧ x1 ≤ nv) → RuleObj P w K mg base 7 nv C_Begin (semBegin x1 D) (RIBegin C_Begin row x1 D) fun _ => True) (SH_begin : ∀ (row : Str) (x1 : Int) (D : List Int), MethOk P w K mg base C_Begin "shown" 7 ["self"] (spR0 (RIBegin C_Begin row x1 D) (.str row)))
    (hd_close : KTD.datumAt ("close" : Str) Dt = some (.ref f_close)) (fn_close : FnAt P w K mg base 7 f_close ["row", "numbers", "voices"] (spCloseOf K C_Close)) (RO_close : ∀ (row : Str) (x1 : Int) (D : List Int) (nv : Nat), (1 ≤ x1 ∧ x1 ≤ nv) → RuleObj P w K mg base 7 nv C_Close (semClose x1 D) (RIClose C_Close row x1 D) fun _ => True) (SH_close : ∀ (row : Str) (x1 : Int) (D : List Int), MethOk P w K mg base C_Close "shown" 7 ["self"] (spR0 (RIClose C_Close row x1 D) (.str row)))
    (nv : Nat) (R : RowK) (hg : goodK nv R) (hl : listK R) : Made P w K mg base Dt nv R := by
  cases R with
  | span o t D =>
    obtain ⟨o0, o1, t0, t1⟩ := hg
    exact ⟨f_span, C_Span, _, fun row => RISpan C_Span row (o + 1) (t + 1) D, hd_span, fn_span, fun row q H' Q' hq k => ⟨q, row, (o + 1), (t + 1), D, nv, rfl, SqL.of hq, by omega, by omega, by omega, by omega, hl.1, hl.2, k⟩, fun row => (RO_span row (o + 1) (t + 1) D nv ⟨by omega, by omega⟩ ⟨by omega, by omega⟩).up (by decide), fun row => SH_span row (o + 1) (t + 1) D, fun _ row => RO_span row (o + 1) (t + 1) D nv ⟨by omega, by omega⟩ ⟨by omega, by omega⟩⟩
  | clock o t h D =>
    obtain ⟨o0, o1, t0, t1, h1⟩ := hg
    exact ⟨f_clock, C_Clock, _, fun row => RIClock C_Clock row (o + 1) (t + 1) h D, hd_clock, fn_clock, fun row q H' Q' hq k => ⟨q, row, (o + 1), (t + 1), h, D, nv, rfl, SqL.of hq, by omega, by omega, by omega, by omega, h1, hl.1, hl.2, k⟩, fun row => (RO_clock row (o + 1) (t + 1) h D nv ⟨by omega, by omega⟩ ⟨by omega, by omega⟩ h1).up (by decide), fun row => SH_clock row (o + 1) (t + 1) h D, fun _ row => RO_clock row (o + 1) (t + 1) h D nv ⟨by omega, by omega⟩ ⟨by omega, by omega⟩ h1⟩
  | move o D =>
    obtain ⟨o0, o1⟩ := hg
    exact ⟨f_move, C_Move, _, fun row => RIMove C_Move row (o + 1) D, hd_move, fn_move, fun row q H' Q' hq k => ⟨q, row, (o + 1), D, nv, rfl, SqL.of hq, by omega, by omega, hl.1, hl.2, k⟩, fun row => RO_move row (o + 1) D nv ⟨by omega, by omega⟩, fun row => SH_move row (o + 1) D, fun z => z.elim⟩
  | alike o t D =>
    obtain ⟨o0, o1, t0, t1⟩ := hg
    exact ⟨f_alike, C_Alike, _, fun row => RIAlike C_Alike row (o + 1) (t + 1) D, hd_alike, fn_alike, fun row q H' Q' hq k => ⟨q, row, (o + 1), (t + 1), D, nv, rfl, SqL.of hq, by omega, by omega, by omega, by omega, hl.1, hl.2, k⟩, fun row => RO_alike row (o + 1) (t + 1) D nv ⟨by omega, by omega⟩ ⟨by omega, by omega⟩, fun row => SH_alike row (o + 1) (t + 1) D, fun z => z.elim⟩
  | back o far =>
    obtain ⟨o0, o1, f0⟩ := hg
    exact ⟨f_back, C_Back, _, fun row => RIBack C_Back row (o + 1) far, hd_back, fn_back, fun row q H' Q' hq k => ⟨q, row, (o + 1), far, nv, rfl, SqL.of hq, by omega, by omega, f0, k⟩, fun row => RO_back row (o + 1) far nv ⟨by omega, by omega⟩ f0, fun row => SH_back row (o + 1) far, fun z => z.elim⟩
  | held o most =>
    obtain ⟨o0, o1, f0⟩ := hg
    exact ⟨f_held, C_Held, _, fun row => RIHeld C_Held row (o + 1) most, hd_held, fn_held, fun row q H' Q' hq k => ⟨q, row, (o + 1), most, nv, rfl, SqL.of hq, by omega, by omega, f0, k⟩, fun row => RO_held row (o + 1) most nv ⟨by omega, by omega⟩ f0, fun row => SH_held row (o + 1) most, fun z => z.elim⟩
  | times o nt lw hgh =>
    obtain ⟨o0, o1, f0⟩ := hg
    exact ⟨f_times, C_Times, _, fun row => RITimes C_Times row (o + 1) nt lw hgh, hd_times, fn_times, fun row q H' Q' hq k => ⟨q, row, (o + 1), nt, lw, hgh, nv, rfl, SqL.of hq, by omega, by omega, hl, f0, k⟩, fun row => RO_times row (o + 1) nt lw hgh nv ⟨by omega, by omega⟩ f0, fun row => SH_times row (o + 1) nt lw hgh, fun z => z.elim⟩
  | begin o D =>
    obtain ⟨o0, o1⟩ := hg
    exact ⟨f_begin, C_Begin, _, fun row => RIBegin C_Begin row (o + 1) D, hd_begin, fn_begin, fun row q H' Q' hq k => ⟨q, row, (o + 1), D, nv, rfl, SqL.of hq, by omega, by omega, hl.1, hl.2, k⟩, fun row => RO_begin row (o + 1) D nv ⟨by omega, by omega⟩, fun row => SH_begin row (o + 1) D, fun z => z.elim⟩
  | close o D =>
    obtain ⟨o0, o1⟩ := hg
    exact ⟨f_close, C_Close, _, fun row => RIClose C_Close row (o + 1) D, hd_close, fn_close, fun row q H' Q' hq k => ⟨q, row, (o + 1), D, nv, rfl, SqL.of hq, by omega, by omega, hl.1, hl.2, k⟩, fun row => RO_close row (o + 1) D nv ⟨by omega, by omega⟩, fun row => SH_close row (o + 1) D, fun z => z.elim⟩
def text10 : Row10 → Str
  | .plain R => Txt.join (Str.ofString " ") (kindK R :: (numsK R).map numS)
  | .every m a R => Txt.join (Str.ofString " ") (Str.ofString "every" :: numS m :: numS a :: kindK R :: (numsK R).map numS)
theorem kind_ok (R : RowK) : (kindK R).length ≤ 20 ∧ 32 ∉ (kindK R).cps.toList ∧ (kindK R).cps.toList ≠ [] ∧ (kindK R).cps.toList.head? ≠ some 101 := by
  cases R with
  | span _ _ _ => exact show (Str.ofString "span").length ≤ 20 ∧ 32 ∉ (Str.ofString "span").cps.toList ∧ (Str.ofString "span").cps.toList ≠ [] ∧ (Str.ofString "span").cps.toList.head? ≠ some 101 from ⟨by decide +kernel, by decide +kernel, by decide +kernel, by decide +kernel⟩
  | clock _ _ _ _ => exact show (Str.ofString "clock").length ≤ 20 ∧ 32 ∉ (Str.ofString "clock").cps.toList ∧ (Str.ofString "clock").cps.toList ≠ [] ∧ (Str.ofString "clock").cps.toList.head? ≠ some 101 from ⟨by decide +kernel, by decide +kernel, by decide +kernel, by decide +kernel⟩
  | move _ _ => exact show (Str.ofString "move").length ≤ 20 ∧ 32 ∉ (Str.ofString "move").cps.toList ∧ (Str.ofString "move").cps.toList ≠ [] ∧ (Str.ofString "move").cps.toList.head? ≠ some 101 from ⟨by decide +kernel, by decide +kernel, by decide +kernel, by decide +kernel⟩
  | alike _ _ _ => exact show (Str.ofString "alike").length ≤ 20 ∧ 32 ∉ (Str.ofString "alike").cps.toList ∧ (Str.ofString "alike").cps.toList ≠ [] ∧ (Str.ofString "alike").cps.toList.head? ≠ some 101 from ⟨by decide +kernel, by decide +kernel, by decide +kernel, by decide +kernel⟩
  | back _ _ => exact show (Str.ofString "back").length ≤ 20 ∧ 32 ∉ (Str.ofString "back").cps.toList ∧ (Str.ofString "back").cps.toList ≠ [] ∧ (Str.ofString "back").cps.toList.head? ≠ some 101 from ⟨by decide +kernel, by decide +kernel, by decide +kernel, by decide +kernel⟩
  | held _ _ => exact show (Str.ofString "held").length ≤ 20 ∧ 32 ∉ (Str.ofString "held").cps.toList ∧ (Str.ofString "held").cps.toList ≠ [] ∧ (Str.ofString "held").cps.toList.head? ≠ some 101 from ⟨by decide +kernel, by decide +kernel, by decide +kernel, by decide +kernel⟩
  | times _ _ _ _ => exact show (Str.ofString "times").length ≤ 20 ∧ 32 ∉ (Str.ofString "times").cps.toList ∧ (Str.ofString "times").cps.toList ≠ [] ∧ (Str.ofString "times").cps.toList.head? ≠ some 101 from ⟨by decide +kernel, by decide +kernel, by decide +kernel, by decide +kernel⟩
  | begin _ _ => exact show (Str.ofString "begin").length ≤ 20 ∧ 32 ∉ (Str.ofString "begin").cps.toList ∧ (Str.ofString "begin").cps.toList ≠ [] ∧ (Str.ofString "begin").cps.toList.head? ≠ some 101 from ⟨by decide +kernel, by decide +kernel, by decide +kernel, by decide +kernel⟩
  | close _ _ => exact show (Str.ofString "close").length ≤ 20 ∧ 32 ∉ (Str.ofString "close").cps.toList ∧ (Str.ofString "close").cps.toList ≠ [] ∧ (Str.ofString "close").cps.toList.head? ≠ some 101 from ⟨by decide +kernel, by decide +kernel, by decide +kernel, by decide +kernel⟩
theorem rowK_is {R : RowK} (h : nbK R) : RowIs (Txt.join (Str.ofString " ") (kindK R :: (numsK R).map numS)) (kindK R) (numsK R) := row_join h.1 (nums_len h) (kind_ok R).2.1 (kind_ok R).1 (kind_ok R).2.2.1
theorem rowE_is {R : RowK} {m a : Int} (h : nbK R) (hm : m.natAbs < 10 ^ 40) (ha : a.natAbs < 10 ^ 40) : RowE (text10 (.every m a R)) (Txt.join (Str.ofString " ") (kindK R :: (numsK R).map numS)) m a := by
  have e32 : (Str.ofString " ") = ⟨#[32]⟩ := by decide +kernel
  refine ⟨?_, hm, ha, (rowK_is h).len⟩
  show (Txt.join (Str.ofString " ") (Str.ofString "every" :: numS m :: numS a :: kindK R :: (numsK R).map numS)).cps.toList = _
  rw [e32, join_codes, join_codes]
  simp only [List.map_cons]
  rw [joinC_two, joinC_two, joinC_two]
  rfl
def spRead10 (P : Program) (w : World) (K : PySem.W.Frag) (mg : Str → Option Value) (base : Heap) : Sp := fun vs H Q _ => ∃ (z : Int) (R : Row10) (nv : Nat), vs = [.str (text10 R), .int nv, .int z] ∧ good10 nv R ∧ ok10 R ∧ ∀ (r C : Addr) (RI : RIT) H', RuleObj P w K mg base 7 nv C (sem10 R) RI (G10 R) → MethOk P w K mg base C "shown" 7 ["self"] (spR0 RI (.str (text10 R))) → RI r H' → Same H H' → Q (.ref r) H'
theorem ok_read10 {f CE : Addr} {fd : FuncData} {Dt : List (Str × V)} (F : FnOk P w K mg base CX0 10 f fd ["text", "voices", "row"] (spRead P w K mg base aM 7)) (G : FnOk P w K mg base CX0 10 f fd ["text", "voices", "row"] (spReadE P w K mg base aM CE 7)) (tab : TabK K aM Dt) (MD : ∀ (nv : Nat) (R : RowK), goodK nv R → listK R → Made P w K mg base Dt nv R)
    (RO : ∀ (row : Str) (t u : Int) (nv : Nat) (Cn : Addr) (S : RSem) (RIn : RIT) (G : Int → Prop), 0 < t → RuleObj P w K mg base 4 nv Cn S RIn G → RuleObj P w K mg base 7 nv CE (semEvery t u S) (RIEvery CE row t u RIn) (memEv t)) (SH : ∀ (row : Str) (t u : Int) (RIn : RIT), MethOk P w K mg base CE "shown" 7 ["self"] (spR0 (RIEvery CE row t u RIn) (.str row))) :
    FnOk P w K mg base CX0 10 f fd ["text", "voices", "row"] (spRead10 P w K mg base) := by
  refine (fnOk_or F G).imp fun vs H Q E h => ?_
  obtain ⟨z, R, nv, rfl, hg, ho, q⟩ := h
  cases R with
  | plain R =>
    obtain ⟨f, C, sp, RI, hd, fn, mk, ro, sh, _⟩ := MD nv R hg ho.2
    refine .inl ⟨_, kindK R, numsK R, nv, z, Dt, f, sp, fun v H' => ∃ r, v = .ref r ∧ Same H H' ∧ RI (text10 (.plain R)) r H', rfl, rowK_is ho, (kind_ok R).2.2.2, tab, hd, fn, fun q H' Q' s hq k => mk _ q H' Q' hq fun r H'' s' hr => k _ _ ⟨r, rfl, s.trans s', hr⟩, ?_⟩
    rintro v H' ⟨r, rfl, s, hr⟩
    exact ⟨fun z => (by cases z), q r C (RI (text10 (.plain R))) H' (ro _) (sh _) hr s⟩
  | every m a R =>
    obtain ⟨hg, hin, m1, a0, a1⟩ := hg
    obtain ⟨ho, hm, ha⟩ := ho
    obtain ⟨f, C, sp, RI, hd, fn, mk, _, _, ro⟩ := MD nv R hg ho.2
    have hk : kindK R = Str.ofString "span" ∨ kindK R = Str.ofString "clock" := by
      cases R with
      | span o t D => exact .inl rfl
      | clock o t h D => exact .inr rfl
      | _ => exact hin.elim
    have re := rowE_is ho hm ha
    have r4 := ro hin (Txt.join (Str.ofString " ") (kindK R :: (numsK R).map numS))
    refine .inr ⟨_, nv, z, rfl, ⟨_, _, _, re⟩, _, _, kindK R, m, a, numsK R, nv, Dt, f, sp, RI (Txt.join (Str.ofString " ") (kindK R :: (numsK R).map numS)), rfl, re, rowK_is ho, hk, a0, a1, tab, hd, fn, fun q H' Q' s hq k => mk _ q H' Q' hq fun r H'' s' hr => k _ _ (s.trans s') hr, r4.mono, fun r H' s hr => ⟨fun z => (by cases z), q r CE _ H' (RO _ m a nv C _ _ _ (by omega) r4) (SH _ m a _) hr s⟩⟩
end
def spLaw (K : PySem.W.Frag) : Sp := fun vs H Q _ => ∃ (a : Addr) (ns : List Int), vs = [.ref a] ∧ SqL K H a (ns.map V.int) ∧ (∀ x ∈ ns, x.natAbs < 2 ^ GB) ∧ ns.length ≤ 63 ∧ ∀ H', Q (.bl true) H'
theorem words10 (R : Row10) (ho : ok10 R) : (∀ x ∈ row10V R, WordV x) ∧ (row10V R).length ≤ 25 ∧ Txt.join (Str.ofString " ") ((row10V R).map wordS) = text10 R ∧ ∀ y ∈ (row10V R).map wordS, y.length ≤ 41 := by
  have wI : ∀ n : Int, n.natAbs < 10 ^ 40 → WordV (.int n) := fun n hn => .inr ⟨n, rfl, hn⟩
  have wT : ∀ z : Str, WordV (.str z) := fun z => .inl ⟨z, rfl⟩
  have one : ∀ R : RowK, nbK R → (∀ x ∈ rowV R, WordV x) ∧ (rowV R).length ≤ 21 ∧ (rowV R).map wordS = kindK R :: (numsK R).map numS ∧ ∀ y ∈ kindK R :: (numsK R).map numS, y.length ≤ 41 := fun R h => by
    have hl := nums_len h
    refine ⟨fun x hx => ?_, ?_, ?_, fun y hy => ?_⟩
    · rw [rowV_eq] at hx
      rcases List.mem_cons.mp hx with rfl | hx
      · exact wT _
      · obtain ⟨n, hn, rfl⟩ := List.mem_map.mp hx
        exact wI n (h.1 n hn)
    · rw [rowV_eq, List.length_cons, List.length_map]
      omega
    · rw [rowV_eq, List.map_cons, List.map_map]
      rfl
    · rcases List.mem_cons.mp hy with rfl | hy
      · have := (kind_ok R).1; omega
      · obtain ⟨n, hn, rfl⟩ := List.mem_map.mp hy
        exact numS_len (h.1 n hn)
  cases R with
  | plain R =>
    obtain ⟨h1, h2, h3, h4⟩ := one R ho
    refine ⟨h1, ?_, ?_, ?_⟩
    · show (rowV R).length ≤ 25; omega
    · show Txt.join _ ((rowV R).map wordS) = _
      rw [h3]
      rfl
    · show ∀ y ∈ (rowV R).map wordS, _
      rw [h3]
      exact h4
  | every m a R =>
    obtain ⟨ho, hm, ha⟩ := ho
    obtain ⟨h1, h2, h3, h4⟩ := one R ho
    have e : (row10V (.every m a R)).map wordS = Str.ofString "every" :: numS m :: numS a :: (rowV R).map wordS := rfl
    refine ⟨fun x hx => ?_, ?_, ?_, fun y hy => ?_⟩
    · rcases List.mem_cons.mp hx with rfl | hx
      · exact wT _
      rcases List.mem_cons.mp hx with rfl | hx
      · exact wI _ hm
      rcases List.mem_cons.mp hx with rfl | hx
      · exact wI _ ha
      exact h1 x hx
    · show (rowV R).length + 1 + 1 + 1 ≤ 25; omega
    · rw [e, h3]
      rfl
    · rw [e, h3] at hy
      rcases List.mem_cons.mp hy with rfl | hy
      · decide +kernel
      rcases List.mem_cons.mp hy with rfl | hy
      · exact numS_len hm
      rcases List.mem_cons.mp hy with rfl | hy
      · exact numS_len ha
      exact h4 y hy
section
variable {P : Program} {w : World} {K : PySem.W.Frag} {mg : Str → Option Value} {base : Heap} {aM : Addr}
theorem ok_law {f : Addr} {fd : FuncData} (F : Fun K "law" "law" s_law f fd) (T : Txt mg aM)
    (D_law_pick : Def P w K mg base "_law_pick" 10 ["_law_script", "_law_at"] (spPick K)) (D_law_bases : Def P w K mg base "_law_bases" 10 ["_law_cell", "_law_voices"] spBases) (D_law_words_by : Def P w K mg base "_law_words_by" 10 ["_law_script", "_law_voices", "_law_made"] (spWordsBy K)) (D_law_grown : Def P w K mg base "_law_grown" 10 ["_law_cells", "_law_row", "_law_made"] (spGrown K)) (D_law_size_of : Def P w K mg base "_law_size_of" 10 ["_law_row"] (spSizeOf K)) (D_law_by_turns : Def P w K mg base "_law_by_turns" 10 ["_law_rule", "_law_row", "_law_lines"] (spTurns P w K mg base)) (D_law_broken : Def P w K mg base "_law_broken" 10 ["_law_rule", "_law_row", "_law_line"] (spBrokenL P w K mg base))
    (DD_read_rule : DefD P w K mg base "read_rule" 10 ["text", "voices", "row"] (spRead10 P w K mg base) [.int 0]) :
    FnOk P w K mg base CX0 11 f fd ["_law_script"] (spLaw K) := by
  refine F.ok sc_law (fun vs H Q E h => ?_) (fun cdv A outer s H vs Q E hr h => ?_)
  · obtain ⟨a, ns, rfl, _⟩ := h
    rfl
  obtain ⟨l, ns, rfl, hS, hB, hn, k⟩ := h
  refine ⟨_, (pss_cons (ps_set (i := 1) sc_law.nd rfl (Or.inl rfl) (pe_op (opAddK K) pe_int (pe_op op_mod (pe_def D_law_pick hr (by rfl) (pa_cons (pv 0) (pa_cons pe_int pa_nil))) pe_int)))
  (pss_cons (ps_set (i := 2) sc_law.nd rfl (Or.inl rfl) (pe_ix (ixAK K) (pe_lst (pa_cons pe_int (pa_cons pe_int (pa_cons (pe_op (opAddK K) (pe_op op_pow pe_int pe_int) pe_int) pa_nil)))) (pe_op op_fdiv (pe_op op_mod (pe_def D_law_pick hr (by rfl) (pa_cons (pv 0) (pa_cons pe_int pa_nil))) pe_int) pe_int) (fun _ _ => rfl)))
  (pss_cons (ps_set (i := 3) sc_law.nd rfl (Or.inl rfl) (pe_tup (pa_cons (pe_def D_law_bases hr (by rfl) (pa_cons (pe_def D_law_pick hr (by rfl) (pa_cons (pv 0) (pa_cons pe_int pa_nil))) (pa_cons (pv 1) pa_nil))) (pa_cons (pv 2) (pa_cons (pe_op (opAddK K) pe_int (pe_op op_fdiv (pe_op op_mod (pe_def D_law_pick hr (by rfl) (pa_cons (pv 0) (pa_cons pe_int pa_nil))) pe_int) pe_int)) pa_nil)))))
  (pss_cons (ps_set (i := 4) sc_law.nd rfl (Or.inl rfl) (pe_def D_law_words_by hr (by rfl) (pa_cons (pv 0) (pa_cons (pv 1) (pa_cons (pv 3) pa_nil)))))
  (pss_cons (ps_set (i := 5) sc_law.nd rfl (Or.inl rfl) (pe_slice (slAK K) (pv 0) (po_some pe_int) (po_some pe_int)))
  (pss_cons (ps_set (i := 6) sc_law.nd rfl (Or.inl rfl) (pe_op op_mod (pe_def D_law_pick hr (by rfl) (pa_cons (pv 0) (pa_cons pe_int pa_nil))) (pe_op (opAddK K) (pe_callB (call_lenK K) (by rfl) T.n_len boot_len (pa_cons (pv 5) pa_nil)) pe_int)))
  (pss_cons (ps_set (i := 7) sc_law.nd rfl (Or.inl rfl) (pe_lst (pa_cons (pe_def D_law_grown hr (by rfl) (pa_cons (pe_slice (slAK K) (pv 5) po_none (po_some (pv 6))) (pa_cons (pv 4) (pa_cons (pv 3) pa_nil)))) (pa_cons (pe_def D_law_grown hr (by rfl) (pa_cons (pe_slice (slAK K) (pv 5) (po_some (pv 6)) po_none) (pa_cons (pv 4) (pa_cons (pv 3) pa_nil)))) pa_nil))))
  (pss_cons (ps_set (i := 8) sc_law.nd rfl (Or.inl rfl) (pe_bmK K PySem.F.plainAttrs_str PySem.F.slot_str_join PySem.F.type_str_join (mt_joinK K) pe_str (pa_cons (pe_comp (own := ["_law_word"]) (js := []) rfl (pi_anyK K (pv 4)) (CompOk.of (by rfl)) (fun _ _ _ _ _ => (pg_name (i := 0) (show List.Nodup (["_law_word"] : List Str) from by decide +kernel) rfl (Or.inl rfl))) (fun _ _ _ _ _ => pts_nil) (fun _ _ _ _ _ => (pe_callTy (call_strB) (by rfl) T.n_str boot_str (pa_cons (pv 0) pa_nil)))) pa_nil)))
  (pss_cons (ps_set (i := 9) sc_law.nd rfl (Or.inl rfl) (pe_defD DD_read_rule hr (by rfl) (pa_cons (pv 8) (pa_cons (pv 1) pa_nil))))
  (pss_cons (ps_set (i := 10) sc_law.nd rfl (Or.inl rfl) (pe_methG0 P w K mg base hr (pv 9)))
  (pss_cons (ps_if (PW.pt (pw_or (pt_not (pt_truth (pe_callB (call_isinstK K) (by rfl) T.n_isinstance boot_isinstance (pa_cons (pv 10) (pa_cons (pe_bltn (v := .ty "int") (by rfl) T.n_int boot_int rfl) pa_nil))) (fun _ => rfl))) (pw_or (pt_truth (pe_callB (call_isinstK K) (by rfl) T.n_isinstance boot_isinstance (pa_cons (pv 10) (pa_cons (pe_bltn (v := .ty "bool") (by rfl) T.n_bool boot_bool rfl) pa_nil))) (fun _ => rfl)) (pw_or (pt_cmpR (opNeC K (hu5 hr)) (pv 10) (pe_def D_law_size_of hr (by rfl) (pa_cons (pv 4) pa_nil)) (nomark _)) (pw_or1 (pt_cmpR (opNeC K (hu5 hr)) (pe_methG0 P w K mg base hr (pv 9)) (pv 8) (nomark _))))))) (pss_one (ps_ret pe_bl)) pss_nil)
  (pss_cons (ps_if (pt_not (pt_truth (pe_def D_law_by_turns hr (by rfl) (pa_cons (pv 9) (pa_cons (pv 4) (pa_cons (pv 7) pa_nil)))) (fun _ => rfl))) (pss_one (ps_ret pe_bl)) pss_nil)
  (pss_cons (ps_for PassesOwn.never rfl (pi_range3S rfl T.n_range (pa_cons (pe_op op_mod (pe_def D_law_pick hr (by rfl) (pa_cons (pv 0) (pa_cons pe_int pa_nil))) pe_int) (pa_cons (pe_op (opAddK K) (pe_callB (call_lenK K) (by rfl) T.n_len boot_len (pa_cons (pe_ix (ixAK K) (pv 7) pe_int (fun _ _ => rfl)) pa_nil)) pe_int) (pa_cons pe_int pa_nil)))) (pg_name (i := 11) sc_law.nd rfl (Or.inl rfl))
  (pss_one (ps_if (pt_not (pt_truth (pe_def D_law_broken hr (by rfl) (pa_cons (pv 9) (pa_cons (pv 4) (pa_cons (pe_slice (slAK K) (pe_ix (ixAK K) (pv 7) pe_int (fun _ _ => rfl)) po_none (po_some (pv 11))) pa_nil)))) (fun _ => rfl))) (pss_one (ps_ret pe_bl)) pss_nil)))
  (pss_one (ps_ret (pe_and (pe_def D_law_broken hr (by rfl) (pa_cons (pv 9) (pa_cons (pv 4) (pa_cons (pe_ix (ixAK K) (pv 7) pe_int (fun _ _ => rfl)) pa_nil)))) (pe_one (pe_def D_law_by_turns hr (by rfl) (pa_cons (pv 9) (pa_cons (pv 4) (pa_cons (pe_lst (pa_cons (pe_ix (ixAK K) (pv 7) pe_int (fun _ _ => rfl)) (pa_cons (pe_ix (ixAK K) (pv 7) pe_int (fun _ _ => rfl)) pa_nil))) pa_nil))))))))))))))))))))), ?_⟩
  have hs : sizeLine = 16777216 := sizeLine_eq
  have pk : ∀ {p : Int} {H' : Hp} {Q' : VK}, Same H H' → 0 ≤ p → (∀ i H'', Same H H'' → Same H' H'' → i = pickF ns p → Q' (.int i) H'') → spPick K [.ref l, .int p] H' Q' E0 := fun {p H' Q'} s1 h0 q => ⟨l, ns, p, rfl, s1.seq hS, h0, fun H'' s2 => q _ H'' (s1.trans s2) s2 rfl⟩
  refine cut2 (fun σ H' => ∃ v : Int, 1 ≤ v ∧ v ≤ 4 ∧ σ = [some (.ref l), some (.int v), none, none, none, none, none, none, none, none, none, none] ∧ Same H H') ?_ ?_
  rotate_left
  · intro u' hu
    walk_at "rd"
    refine pk (Same.refl H) (by decide) fun i H1 s1 _ _ => ?_
    walk_at "rd"
    exact ⟨by decide, hu _ _ ⟨_, by omega, by omega, rfl, s1⟩⟩
  rintro _ H1 ⟨v, v1, v4, rfl, s1⟩
  refine cut2 (fun σ H' => ∃ st : Int, 1 ≤ st ∧ st ≤ 10 ^ 13 ∧ σ = [some (.ref l), some (.int v), some (.int st), none, none, none, none, none, none, none, none, none] ∧ Same H H') ?_ ?_
  rotate_left
  · intro u' hu
    walk_at "rd"
    refine ⟨⟨by decide, by decide, by decide⟩, by omega, fun p hp => pk (s1.upd hp) (by decide) fun i H3 s3 s23 _ => ?_⟩
    walk_at "rd"
    refine ⟨by decide, ⟨by decide, by decide⟩, ?_⟩
    have hp3 := s23 _ _ (upd_same (H := H1) (a := p) (o := .lst [.int 1, .int 5, .int (10 ^ Int.toNat 12 + 39)]))
    have h3 : i % 12 / 4 = 0 ∨ i % 12 / 4 = 1 ∨ i % 12 / 4 = 2 := by omega
    rcases h3 with e | e | e <;> rw [e]
    · exact rIx_l (SqL.of hp3) (atI_zero rfl) (hu _ _ ⟨_, by decide, by decide, rfl, s3⟩)
    · exact rIx_l (SqL.of hp3) (show atI _ ((1 : Nat) : Int) = _ from atI_nat rfl) (hu _ _ ⟨_, by decide, by decide, rfl, s3⟩)
    · exact rIx_l (SqL.of hp3) (show atI _ ((2 : Nat) : Int) = _ from atI_nat rfl) (hu _ _ ⟨_, by decide, by decide, rfl, s3⟩)
  clear s1
  clear H1
  rintro _ H1 ⟨st, st0, st1, rfl, s1⟩
  refine cut2 (fun σ H' => ∃ (md b : Addr) (bs : List Int) (wd : Int), (bs.length : Int) = v ∧ 1 ≤ wd ∧ wd ≤ 7 ∧ BasesAt K H' b bs st ∧ SqT K H' md [.ref b, .int st, .int wd] ∧ σ = [some (.ref l), some (.int v), some (.int st), some (.ref md), none, none, none, none, none, none, none, none] ∧ Same H H') ?_ ?_
  rotate_left
  · intro u' hu
    walk_at "rd"
    refine pk s1 (by decide) fun i H2 s2 _ _ => ⟨i, v, rfl, v1, v4, fun b bs H3 hl hb hq _ s3 => ?_⟩
    walk_at "rd"
    refine pk (s2.trans s3) (by decide) fun j H4 s4 s34 _ => ?_
    walk_at "rd"
    refine ⟨by decide, ⟨by decide, by decide⟩, by omega, fun p hp => hu _ _ ⟨p, b, bs, _, hl, by omega, by omega, ⟨SqL.of ((same_upd hp) _ _ (s34 _ _ hq)), by omega, by omega, hb, st0, st1⟩, SqT.of upd_same, rfl, s4.upd hp⟩⟩
  clear s1
  clear H1
  rintro _ H1 ⟨md, b, bs, wd, hbl, w1, w7, B, hMd, rfl, s1⟩
  refine cut2 (fun σ H' => ∃ (wo : Addr) (R : Row10), good10 bs.length R ∧ ok10 R ∧ H' wo = some (.lst (row10V R)) ∧ σ = [some (.ref l), some (.int v), some (.int st), some (.ref md), some (.ref wo), none, none, none, none, none, none, none] ∧ Same H1 H') ?_ ?_
  rotate_left
  · intro u' hu
    walk_at "rd"
    exact ⟨l, md, b, ns, bs, v, st, wd, rfl, s1.seq hS, hbl, hMd, B, w1, w7, fun wo R H2 hg ho hw s2 => hu _ _ ⟨wo, R, hg, ho, hw, rfl, s2⟩⟩
  rintro _ H2 ⟨wo, R, hg, ho, hw2, rfl, s12⟩
  have s2 := s1.trans s12
  refine cut2 (fun σ H' => ∃ (cl : Addr) (ms : List Int), ms.length ≤ 63 ∧ H' cl = some (.lst (ms.map V.int)) ∧ σ = [some (.ref l), some (.int v), some (.int st), some (.ref md), some (.ref wo), some (.ref cl), none, none, none, none, none, none] ∧ Same H2 H') ?_ ?_
  rotate_left
  · intro u' hu
    walk_at "rd"
    refine rSlA_l (s2.seq hS) fun p hp => ?_
    obtain ⟨ms, e, hml, _⟩ := cutV_sub ns (some 8) (some 52)
    rw [e]
    exact hu _ _ ⟨p, ms, by omega, upd_same, rfl, same_upd hp⟩
  rintro _ H3 ⟨cl, ms, hml, hcl3, rfl, s23⟩
  have s3 := s2.trans s23
  refine cut2 (fun σ H' => ∃ ct : Int, σ = [some (.ref l), some (.int v), some (.int st), some (.ref md), some (.ref wo), some (.ref cl), some (.int ct), none, none, none, none, none] ∧ Same H3 H') ?_ ?_
  rotate_left
  · intro u' hu
    walk_at "rd"
    refine pk s3 (by decide) fun i H4 s4 s34 _ => ⟨_, .inl (SqL.of (s34 _ _ hcl3)), ?_⟩
    walk_at "rd"
    exact ⟨by omega, hu _ _ ⟨_, rfl, s34⟩⟩
  rintro _ H4 ⟨ct, rfl, s34⟩
  have s24 := s23.trans s34
  have s14 := s12.trans s24
  have hcl4 := s34 _ _ hcl3
  refine cut2 (fun σ H' => ∃ (li : Addr) (ll : Nat → Addr) (cc : Nat → List (List Int)), H' li = some (.lst [.ref (ll 0), .ref (ll 1)]) ∧ (∀ k, k < 2 → LineAt K H' (ll k) bs.length (cc k) ∧ (cc k).length ≤ 63) ∧ σ = [some (.ref l), some (.int v), some (.int st), some (.ref md), some (.ref wo), some (.ref cl), some (.int ct), some (.ref li), none, none, none, none] ∧ Same H4 H') ?_ ?_
  rotate_left
  · intro u' hu
    walk_at "rd"
    refine rSlA_l (SqL.of hcl4) fun p hp => ?_
    obtain ⟨ms0, e0, hl0, _⟩ := cutV_sub ms none (some ct)
    rw [e0]
    have sp : Same H4 (upd H4 p (.lst (ms0.map V.int))) := same_upd hp
    refine ⟨p, wo, md, b, ms0, bs, R, st, wd, rfl, SqL.of upd_same, by omega, sp.seq (SqL.of (s24 _ _ hw2)), hg, sp.tup (s14.tup hMd), (B.same s14).same sp, w1, w7, fun l0 ps0 cs0 H5 hl0 hpl0 hcl0 hpc0 s5 => ?_⟩
    have s45 := sp.trans s5
    walk_at "rd"
    refine rSlA_l (SqL.of (s45 _ _ hcl4)) fun p' hp' => ?_
    obtain ⟨ms1, e1, hl1, _⟩ := cutV_sub ms (some ct) none
    rw [e1]
    have sp' : Same H5 (upd H5 p' (.lst (ms1.map V.int))) := same_upd hp'
    have s46 := s45.trans sp'
    refine ⟨p', wo, md, b, ms1, bs, R, st, wd, rfl, SqL.of upd_same, by omega, s46.seq (SqL.of (s24 _ _ hw2)), hg, s46.tup (s14.tup hMd), (B.same s14).same s46, w1, w7, fun l1 ps1 cs1 H6 hl1 hpl1 hcl1 hpc1 s6 => ?_⟩
    have s56 := sp'.trans s6
    walk_at "rd"
    refine ⟨by omega, fun li hli => hu _ _ ⟨li, fun k => if k = 0 then l0 else l1, fun k => if k = 0 then cs0 else cs1, upd_same, fun k hk => ?_, rfl, (s45.trans s56).upd hli⟩⟩
    have L0 : LineAt K H5 l0 bs.length cs0 := ⟨ps0, SqL.of hl0, hpl0, hpc0⟩
    have L1 : LineAt K H6 l1 bs.length cs1 := ⟨ps1, SqL.of hl1, hpl1, hpc1⟩
    match k, hk with
    | 0, _ => exact ⟨L0.same (s56.upd hli), hcl0⟩
    | 1, _ => exact ⟨L1.same (same_upd hli), hcl1⟩
  rintro _ H5 ⟨li, ll, cc, hli, hL, rfl, s45⟩
  have hw5 := s45 _ _ (s24 _ _ hw2)
  have s05 := (s2.trans s24).trans s45
  obtain ⟨t1, t2, t3, t4⟩ := words10 R ho
  generalize htx : text10 R = text at t3
  refine cut2 (fun σ H' => σ = [some (.ref l), some (.int v), some (.int st), some (.ref md), some (.ref wo), some (.ref cl), some (.int ct), some (.ref li), some (.str text), none, none, none] ∧ Same H5 H') ?_ ?_
  rotate_left
  · intro u' hu
    walk_at "rd"
    refine rIt_lst (SqL.of hw5) (cloop_words (xs := row10V R) (SqL.of hw5) t1 (by omega) fun p3 hp3 => ⟨_, SqL.of upd_same, ?_, ?_⟩)
    · have l1 : (Str.ofString " ").length = 1 := by decide +kernel
      have := sum_le_of ((row10V R).map wordS) 41 t4
      rw [l1]
      simp only [List.length_map] at this ⊢
      omega
    · rw [t3]
      exact hu _ _ ⟨rfl, same_upd hp3⟩
  rintro _ H6 ⟨rfl, s56⟩
  refine cut2 (fun σ H' => ∃ (r C : Addr) (RI : RIT), RuleObj P w K mg base 7 bs.length C (sem10 R) RI (G10 R) ∧ MethOk P w K mg base C "shown" 7 ["self"] (spR0 RI (.str text)) ∧ RI r H' ∧ σ = [some (.ref l), some (.int v), some (.int st), some (.ref md), some (.ref wo), some (.ref cl), some (.int ct), some (.ref li), some (.str text), some (.ref r), none, none] ∧ Same H6 H') ?_ ?_
  rotate_left
  · intro u' hu
    walk_at "rd"
    rw [← hbl, ← htx]
    rw [← htx] at hu
    exact ⟨0, R, bs.length, rfl, hg, ho, fun r C RI H7 RB SH hri s7 => hu _ _ ⟨r, C, RI, RB, SH, hri, (by rw [hbl]), s7⟩⟩
  rintro _ H7 ⟨r, C, RI, RB, SH, hri, rfl, s67⟩
  have s57 := s56.trans s67
  have hw7 := s57 _ _ hw5
  have hli7 := s57 _ _ hli
  have s07 := s05.trans s57
  obtain ⟨dx, fs, hir, q1, q2, q3, q4, q5⟩ := RB.ins r H7 hri
  have hz := size10 R
  refine cut2 (fun σ H' => σ = [some (.ref l), some (.int v), some (.int st), some (.ref md), some (.ref wo), some (.ref cl), some (.int ct), some (.ref li), some (.str text), some (.ref r), some (.int (sz10 R)), none] ∧ H7 = H') ?_ ?_
  rotate_left
  · intro u' hu
    walk_at "rd"
    refine ⟨C, dx, fs, hir, q1, _, _, RB.size.up (by decide), r, rfl, hri, ?_⟩
    rw [hz]
    exact hu _ _ ⟨rfl, rfl⟩
  rintro _ _ ⟨rfl, rfl⟩
  refine cut2 (fun σ H' => σ = [some (.ref l), some (.int v), some (.int st), some (.ref md), some (.ref wo), some (.ref cl), some (.int ct), some (.ref li), some (.str text), some (.ref r), some (.int (sz10 R)), none] ∧ H7 = H') ?_ ?_
  rotate_left
  · intro u' hu
    walk_at "rd"
    refine ⟨_, .int _, true, rfl, ?_⟩
    rw [if_neg (show ¬ (true = false) from fun z => by cases z)]
    refine ⟨_, .int _, false, rfl, ?_⟩
    rw [if_neg Bool.false_ne_true]
    refine ⟨wo, R, rfl, SqL.of hw7, ?_⟩
    walk_at "rd"
    refine ⟨C, dx, fs, hir, q5, _, _, SH.up (by decide), r, rfl, hri, ?_⟩
    walk_at "rd"
    exact hu _ _ ⟨rfl, rfl⟩
  rintro _ _ ⟨rfl, rfl⟩
  have L7 : ∀ k, k < 2 → LineAt K H7 (ll k) bs.length (cc k) ∧ (cc k).length ≤ 63 := fun k hk => ⟨(hL k hk).1.same s57, (hL k hk).2⟩
  refine cut2 (fun σ H' => σ = [some (.ref l), some (.int v), some (.int st), some (.ref md), some (.ref wo), some (.ref cl), some (.int ct), some (.ref li), some (.str text), some (.ref r), some (.int (sz10 R)), none] ∧ Same H7 H') ?_ ?_
  rotate_left
  · intro u' hu
    walk_at "rd"
    refine ⟨r, wo, li, C, RI, bs.length, R, ll, cc, rfl, RB, hri, SqL.of hw7, hg, SqL.of hli7, L7, fun H8 s8 => ?_⟩
    walk_at "rd"
    exact hu _ _ ⟨rfl, s8⟩
  rintro _ H8 ⟨rfl, s78⟩
  obtain ⟨⟨ps0, hps0, hpl0, hpc0⟩, hc0⟩ := L7 0 (by omega)
  refine cut2 (fun σ H' => ∃ o1 : Option V, σ = [some (.ref l), some (.int v), some (.int st), some (.ref md), some (.ref wo), some (.ref cl), some (.int ct), some (.ref li), some (.str text), some (.ref r), some (.int (sz10 R)), o1] ∧ Same H7 H') ?_ ?_
  rotate_left
  · intro u' hu
    walk_at "rd"
    simp only [iRngS]
    walk_at "rd"
    refine pk (s07.trans s78) (by decide) fun i H9 s9 s89 _ => ?_
    have s79 := s78.trans s89
    walk_at "rd"
    refine ⟨by decide, rIx_l (SqL.of (s79 _ _ hli7)) (atI_zero rfl) ?_⟩
    walk_at "rd"
    refine ⟨_, .inl (s79.seq hps0), ?_⟩
    rw [List.length_map, hpl0]
    have i0 := Int.emod_nonneg i (show (3 : Int) ≠ 0 by decide)
    have i1 := Int.emod_lt_of_pos i (show (0 : Int) < 3 by decide)
    refine ⟨by omega, by omega, by omega, by omega, by decide, by decide, loop_step (fun j σ H' => ∃ o1 : Option V, σ = [some (.ref l), some (.int v), some (.int st), some (.ref md), some (.ref wo), some (.ref cl), some (.int ct), some (.ref li), some (.str text), some (.ref r), some (.int (sz10 R)), o1] ∧ Same H7 H') ⟨none, rfl, s79⟩ ?_ ?_⟩
    · rintro j σ H10 hj ⟨o1, rfl, s10⟩
      have hlt := stepN_lt (by decide) hj
      obtain ⟨m, hm⟩ := Int.eq_ofNat_of_zero_le (show 0 ≤ i % 3 + (j : Int) * 3 by omega)
      rw [hm] at hlt ⊢
      walk_at "rd"
      refine rIx_l (SqL.of (s10 _ _ hli7)) (atI_zero rfl) (rSlA_l (s10.seq hps0) fun p hp => ?_)
      rw [cutV_to, ← List.map_take]
      have sp : Same H7 (upd H10 p (.lst ((ps0.take m).map V.ref))) := s10.upd hp
      refine ⟨r, wo, p, C, RI, bs.length, (cc 0).take m, R, rfl, RB, RB.mono _ _ _ sp hri, sp.seq (SqL.of hw7), hg, LineAt.sub (l := p) (ps := ps0) (cols := cc 0) hpl0 (fun i p us a b => ⟨sp.tup (hpc0 i p us a b).1, (hpc0 i p us a b).2⟩) 0 m (SqL.of upd_same), by rw [List.length_take]; omega, fun H11 s11 => ?_⟩
      walk_at "rd"
      exact sp.trans s11
    · rintro σ H10 ⟨o1, rfl, s10⟩
      exact hu _ _ ⟨o1, rfl, s10⟩
  rintro _ H9 ⟨o1, rfl, s79⟩
  walk_at "rd"
  have hli9 := s79 _ _ hli7
  have L9 : ∀ k, k < 2 → LineAt K H9 (ll k) bs.length (cc k) ∧ (cc k).length ≤ 63 := fun k hk => ⟨(L7 k hk).1.same s79, (L7 k hk).2⟩
  refine rIx_l (SqL.of hli9) (show atI _ ((1 : Nat) : Int) = _ from atI_nat rfl) ⟨r, wo, ll 1, C, RI, bs.length, cc 1, R, rfl, RB, RB.mono _ _ _ s79 hri, SqL.of (s79 _ _ hw7), hg, (L9 1 (by omega)).1, (L9 1 (by omega)).2, fun H10 s10 => ?_⟩
  walk_at "rd"
  refine rIx_l (SqL.of (s10 _ _ hli9)) (show atI _ ((1 : Nat) : Int) = _ from atI_nat rfl) (rIx_l (SqL.of (s10 _ _ hli9)) (atI_zero rfl) ⟨by omega, fun p hp => ?_⟩)
  have sp : Same H9 (upd H10 p (.lst [.ref (ll 1), .ref (ll 0)])) := s10.upd hp
  refine ⟨r, wo, p, C, RI, bs.length, R, fun k => ll (1 - k), fun k => cc (1 - k), rfl, RB, RB.mono _ _ _ (s79.trans sp) hri, SqL.of ((s79.trans sp) _ _ hw7), hg, SqL.of upd_same, fun k hk => ⟨(L9 (1 - k) (by omega)).1.same sp, (L9 (1 - k) (by omega)).2⟩, fun H11 s11 => k _⟩
end
theorem all_mk {l : PySem.W.OpenLaw} {w : World} {K : PySem.W.Frag} {h : Heap} {mg : Str → Option Value} {fa : Addr} {C_Span : Addr} {C_Clock : Addr} {C_Move : Addr} {C_Alike : Addr} {C_Back : Addr} {C_Held : Addr} {C_Times : Addr} {C_Begin : Addr} {C_Close : Addr} {C_Every : Addr} {f_span_of : Addr} {fd_span_of : FuncData} {f_clock_of : Addr} {fd_clock_of : FuncData} {f_move_of : Addr} {fd_move_of : FuncData} {f_alike_of : Addr} {fd_alike_of : FuncData} {f_back_of : Addr} {fd_back_of : FuncData} {f_held_of : Addr} {fd_held_of : FuncData} {f_times_of : Addr} {fd_times_of : FuncData} {f_begin_of : Addr} {fd_begin_of : FuncData} {f_close_of : Addr} {fd_close_of : FuncData} {a_MAKERS : Addr} {D_MAKERS : List (Str × V)} {a_INNER_KINDS : Addr} (X : K.In h) (G : h.Ns mainGlobals mg) (hfa : mg "law" = some (.ref fa))
    (n_Span : PySem.W.nsIn K mainGlobals "Span" = some (some (.ref C_Span)))
    (TC_Span : ClsSpan K C_Span)
    (n_Clock : PySem.W.nsIn K mainGlobals "Clock" = some (some (.ref C_Clock)))
    (TC_Clock : ClsClock K C_Clock)
    (n_Move : PySem.W.nsIn K mainGlobals "Move" = some (some (.ref C_Move)))
    (TC_Move : ClsMove K C_Move)
    (n_Alike : PySem.W.nsIn K mainGlobals "Alike" = some (some (.ref C_Alike)))
    (TC_Alike : ClsAlike K C_Alike)
    (n_Back : PySem.W.nsIn K mainGlobals "Back" = some (some (.ref C_Back)))
    (TC_Back : ClsBack K C_Back)
    (n_Held : PySem.W.nsIn K mainGlobals "Held" = some (some (.ref C_Held)))
    (TC_Held : ClsHeld K C_Held)
    (n_Times : PySem.W.nsIn K mainGlobals "Times" = some (some (.ref C_Times)))
    (TC_Times : ClsTimes K C_Times)
    (n_Begin : PySem.W.nsIn K mainGlobals "Begin" = some (some (.ref C_Begin)))
    (TC_Begin : ClsBegin K C_Begin)
    (n_Close : PySem.W.nsIn K mainGlobals "Close" = some (some (.ref C_Close)))
    (TC_Close : ClsClose K C_Close)
    (n_Every : PySem.W.nsIn K mainGlobals "Every" = some (some (.ref C_Every)))
    (TC_Every : ClsEvery K C_Every)
    (A_note_in : ∃ f fd, DefAt K "note_in" s_note_in f fd)
    (A_span : ∃ f fd, DefAt K "span" s_span f fd)
    (A_move : ∃ f fd, DefAt K "move" s_move f fd)
    (A_Rule___init__ : ∃ C f fd, CMethAt K "Rule" "__init__" "Rule.__init__" s_Rule___init__ C f fd)
    (A_Span_size : ∃ f fd, MethAt K C_Span "size" "Rule.size" s_Rule_size f fd)
    (A_Span_start : ∃ f fd, MethAt K C_Span "start" "Rule.start" s_Rule_start f fd)
    (A_Span_closes : ∃ f fd, MethAt K C_Span "closes" "Rule.closes" s_Rule_closes f fd)
    (A_Span_shown : ∃ f fd, MethAt K C_Span "shown" "Rule.shown" s_Rule_shown f fd)
    (A_Clock_size : ∃ f fd, MethAt K C_Clock "size" "Rule.size" s_Rule_size f fd)
    (A_Clock_start : ∃ f fd, MethAt K C_Clock "start" "Rule.start" s_Rule_start f fd)
    (A_Clock_closes : ∃ f fd, MethAt K C_Clock "closes" "Rule.closes" s_Rule_closes f fd)
    (A_Clock_shown : ∃ f fd, MethAt K C_Clock "shown" "Rule.shown" s_Rule_shown f fd)
    (A_Move_size : ∃ f fd, MethAt K C_Move "size" "Rule.size" s_Rule_size f fd)
    (A_Move_start : ∃ f fd, MethAt K C_Move "start" "Rule.start" s_Rule_start f fd)
    (A_Move_closes : ∃ f fd, MethAt K C_Move "closes" "Rule.closes" s_Rule_closes f fd)
    (A_Move_shown : ∃ f fd, MethAt K C_Move "shown" "Rule.shown" s_Rule_shown f fd)
    (A_Alike_size : ∃ f fd, MethAt K C_Alike "size" "Rule.size" s_Rule_size f fd)
    (A_Alike_start : ∃ f fd, MethAt K C_Alike "start" "Rule.start" s_Rule_start f fd)
    (A_Alike_closes : ∃ f fd, MethAt K C_Alike "closes" "Rule.closes" s_Rule_closes f fd)
    (A_Alike_shown : ∃ f fd, MethAt K C_Alike "shown" "Rule.shown" s_Rule_shown f fd)
    (A_Begin_size : ∃ f fd, MethAt K C_Begin "size" "Rule.size" s_Rule_size f fd)
    (A_Begin_start : ∃ f fd, MethAt K C_Begin "start" "Rule.start" s_Rule_start f fd)
    (A_Begin_closes : ∃ f fd, MethAt K C_Begin "closes" "Rule.closes" s_Rule_closes f fd)
    (A_Begin_shown : ∃ f fd, MethAt K C_Begin "shown" "Rule.shown" s_Rule_shown f fd)
    (A_Close_size : ∃ f fd, MethAt K C_Close "size" "Rule.size" s_Rule_size f fd)
    (A_Close_start : ∃ f fd, MethAt K C_Close "start" "Rule.start" s_Rule_start f fd)
    (A_Close_shown : ∃ f fd, MethAt K C_Close "shown" "Rule.shown" s_Rule_shown f fd)
    (A_Back_shown : ∃ f fd, MethAt K C_Back "shown" "Rule.shown" s_Rule_shown f fd)
    (A_Held_start : ∃ f fd, MethAt K C_Held "start" "Rule.start" s_Rule_start f fd)
    (A_Held_closes : ∃ f fd, MethAt K C_Held "closes" "Rule.closes" s_Rule_closes f fd)
    (A_Held_shown : ∃ f fd, MethAt K C_Held "shown" "Rule.shown" s_Rule_shown f fd)
    (A_Times_start : ∃ f fd, MethAt K C_Times "start" "Rule.start" s_Rule_start f fd)
    (A_Times_shown : ∃ f fd, MethAt K C_Times "shown" "Rule.shown" s_Rule_shown f fd)
    (A_Every_start : ∃ f fd, MethAt K C_Every "start" "Rule.start" s_Rule_start f fd)
    (A_Every_closes : ∃ f fd, MethAt K C_Every "closes" "Rule.closes" s_Rule_closes f fd)
    (A_Every_shown : ∃ f fd, MethAt K C_Every "shown" "Rule.shown" s_Rule_shown f fd)
    (A_Close_after : ∃ f fd, MethAt K C_Close "after" "Rule.after" s_Rule_after f fd)
    (A_Back_size : ∃ f fd, MethAt K C_Back "size" "Back.size" s_Back_size f fd)
    (A_Back_start : ∃ f fd, MethAt K C_Back "start" "Back.start" s_Back_start f fd)
    (A_Held_size : ∃ f fd, MethAt K C_Held "size" "Held.size" s_Held_size f fd)
    (A_Times_size : ∃ f fd, MethAt K C_Times "size" "Times.size" s_Times_size f fd)
    (A_Every_size : ∃ f fd, MethAt K C_Every "size" "Every.size" s_Every_size f fd)
    (A_Span_after : ∃ f fd, MethAt K C_Span "after" "Span.after" s_Span_after f fd)
    (A_Clock_after : ∃ f fd, MethAt K C_Clock "after" "Clock.after" s_Clock_after f fd)
    (A_Move_after : ∃ f fd, MethAt K C_Move "after" "Move.after" s_Move_after f fd)
    (A_Alike_after : ∃ f fd, MethAt K C_Alike "after" "Alike.after" s_Alike_after f fd)
    (A_Back_closes : ∃ f fd, MethAt K C_Back "closes" "Back.closes" s_Back_closes f fd)
    (A_Back_after : ∃ f fd, MethAt K C_Back "after" "Back.after" s_Back_after f fd)
    (A_Held_after : ∃ f fd, MethAt K C_Held "after" "Held.after" s_Held_after f fd)
    (A_Times_closes : ∃ f fd, MethAt K C_Times "closes" "Times.closes" s_Times_closes f fd)
    (A_Times_after : ∃ f fd, MethAt K C_Times "after" "Times.after" s_Times_after f fd)
    (A_Begin_after : ∃ f fd, MethAt K C_Begin "after" "Begin.after" s_Begin_after f fd)
    (A_Close_closes : ∃ f fd, MethAt K C_Close "closes" "Close.closes" s_Close_closes f fd)
    (A_Every_after : ∃ f fd, MethAt K C_Every "after" "Every.after" s_Every_after f fd)
    (A_Span___init__ : ∃ f fd, MkAt K "Span" "Span.__init__" s_Span___init__ C_Span f fd)
    (A_Clock___init__ : ∃ f fd, MkAt K "Clock" "Clock.__init__" s_Clock___init__ C_Clock f fd)
    (A_Move___init__ : ∃ f fd, MkAt K "Move" "Move.__init__" s_Move___init__ C_Move f fd)
    (A_Alike___init__ : ∃ f fd, MkAt K "Alike" "Alike.__init__" s_Alike___init__ C_Alike f fd)
    (A_Back___init__ : ∃ f fd, MkAt K "Back" "Back.__init__" s_Back___init__ C_Back f fd)
    (A_Held___init__ : ∃ f fd, MkAt K "Held" "Held.__init__" s_Held___init__ C_Held f fd)
    (A_Times___init__ : ∃ f fd, MkAt K "Times" "Times.__init__" s_Times___init__ C_Times f fd)
    (A_Begin___init__ : ∃ f fd, MkAt K "Begin" "Begin.__init__" s_Begin___init__ C_Begin f fd)
    (A_Close___init__ : ∃ f fd, MkAt K "Close" "Close.__init__" s_Close___init__ C_Close f fd)
    (A_Every___init__ : ∃ f fd, MkAt K "Every" "Every.__init__" s_Every___init__ C_Every f fd)
    (A_is_number : ∃ f fd, DefAt K "is_number" s_is_number f fd)
    (A_has_list : ∃ f fd, DefAt K "has_list" s_has_list f fd)
    (A_are_voices : ∃ f fd, DefAt K "are_voices" s_are_voices f fd)
    (B_span_of : DefAt K "span_of" s_span_of f_span_of fd_span_of)
    (B_clock_of : DefAt K "clock_of" s_clock_of f_clock_of fd_clock_of)
    (B_move_of : DefAt K "move_of" s_move_of f_move_of fd_move_of)
    (B_alike_of : DefAt K "alike_of" s_alike_of f_alike_of fd_alike_of)
    (B_back_of : DefAt K "back_of" s_back_of f_back_of fd_back_of)
    (B_held_of : DefAt K "held_of" s_held_of f_held_of fd_held_of)
    (B_times_of : DefAt K "times_of" s_times_of f_times_of fd_times_of)
    (B_begin_of : DefAt K "begin_of" s_begin_of f_begin_of fd_begin_of)
    (B_close_of : DefAt K "close_of" s_close_of f_close_of fd_close_of)
    (A_plain_rule : ∃ f fd, DefAt K "plain_rule" s_plain_rule f fd)
    (A_every_rule : ∃ f fd, DefAt K "every_rule" s_every_rule f fd)
    (A_read_rule : ∃ f fd u, DefAtD K "read_rule" s_read_rule f fd u ∧ RelV (.int 0) u)
    (A_broken_at : ∃ f fd, DefAt K "broken_at" s_broken_at f fd)
    (A_law_pick : ∃ f fd, DefAt K "_law_pick" s_law_pick f fd)
    (A_law_stir : ∃ f fd, DefAt K "_law_stir" s_law_stir f fd)
    (A_law_digits : ∃ f fd, DefAt K "_law_digits" s_law_digits f fd)
    (A_law_bases : ∃ f fd, DefAt K "_law_bases" s_law_bases f fd)
    (A_law_notes : ∃ f fd, DefAt K "_law_notes" s_law_notes f fd)
    (A_law_numbers_by : ∃ f fd, DefAt K "_law_numbers_by" s_law_numbers_by f fd)
    (A_law_words_by : ∃ f fd, DefAt K "_law_words_by" s_law_words_by f fd)
    (A_law_step_breaks : ∃ f fd, DefAt K "_law_step_breaks" s_law_step_breaks f fd)
    (A_law_breaks : ∃ f fd, DefAt K "_law_breaks" s_law_breaks f fd)
    (A_law_open : ∃ f fd, DefAt K "_law_open" s_law_open f fd)
    (A_law_grown : ∃ f fd, DefAt K "_law_grown" s_law_grown f fd)
    (A_law_first : ∃ f fd, DefAt K "_law_first" s_law_first f fd)
    (A_law_size_of : ∃ f fd, DefAt K "_law_size_of" s_law_size_of f fd)
    (A_law_memory_good : ∃ f fd, DefAt K "_law_memory_good" s_law_memory_good f fd)
    (A_law_by_turns : ∃ f fd, DefAt K "_law_by_turns" s_law_by_turns f fd)
    (A_law_broken : ∃ f fd, DefAt K "_law_broken" s_law_broken f fd)
    (n_MAKERS : PySem.W.nsIn K mainGlobals "MAKERS" = some (some (.ref a_MAKERS)))
    (t_MAKERS : TabK K a_MAKERS D_MAKERS)
    (d_MAKERS_span : KTD.datumAt ("span" : Str) D_MAKERS = some (.ref f_span_of))
    (d_MAKERS_clock : KTD.datumAt ("clock" : Str) D_MAKERS = some (.ref f_clock_of))
    (d_MAKERS_move : KTD.datumAt ("move" : Str) D_MAKERS = some (.ref f_move_of))
    (d_MAKERS_alike : KTD.datumAt ("alike" : Str) D_MAKERS = some (.ref f_alike_of))
    (d_MAKERS_back : KTD.datumAt ("back" : Str) D_MAKERS = some (.ref f_back_of))
    (d_MAKERS_held : KTD.datumAt ("held" : Str) D_MAKERS = some (.ref f_held_of))
    (d_MAKERS_times : KTD.datumAt ("times" : Str) D_MAKERS = some (.ref f_times_of))
    (d_MAKERS_begin : KTD.datumAt ("begin" : Str) D_MAKERS = some (.ref f_begin_of))
    (d_MAKERS_close : KTD.datumAt ("close" : Str) D_MAKERS = some (.ref f_close_of))
    (n_INNER_KINDS : PySem.W.nsIn K mainGlobals "INNER_KINDS" = some (some (.ref a_INNER_KINDS)))
    (q_INNER_KINDS : KTup K a_INNER_KINDS [.str "span", .str "clock"])
    (z_len : PySem.W.nsIn K mainGlobals "len" = some none)
    (z_range : PySem.W.nsIn K mainGlobals "range" = some none)
    (z_all : PySem.W.nsIn K mainGlobals "all" = some none)
    (z_min : PySem.W.nsIn K mainGlobals "min" = some none)
    (z_max : PySem.W.nsIn K mainGlobals "max" = some none)
    (z_abs : PySem.W.nsIn K mainGlobals "abs" = some none)
    (z_tuple : PySem.W.nsIn K mainGlobals "tuple" = some none)
    (z_list : PySem.W.nsIn K mainGlobals "list" = some none)
    (z_isinstance : PySem.W.nsIn K mainGlobals "isinstance" = some none)
    (z_bool : PySem.W.nsIn K mainGlobals "bool" = some none)
    (z_int : PySem.W.nsIn K mainGlobals "int" = some none)
    (z_str : PySem.W.nsIn K mainGlobals "str" = some none)
    (z_divmod : PySem.W.nsIn K mainGlobals "divmod" = some none)
    (z_enumerate : PySem.W.nsIn K mainGlobals "enumerate" = some none)
    (g_FIGURES : ∃ u, PySem.W.nsIn K mainGlobals "FIGURES" = some (some u) ∧ RelV (.str "0123456789") u)
    (g_MOST_FIGURES : ∃ u, PySem.W.nsIn K mainGlobals "MOST_FIGURES" = some (some u) ∧ RelV (.int 40) u)
    (g_MOST_NUMBERS : ∃ u, PySem.W.nsIn K mainGlobals "MOST_NUMBERS" = some (some u) ∧ RelV (.int 12) u)
    (g_NO_LEAP : ∃ u, PySem.W.nsIn K mainGlobals "NO_LEAP" = some (some u) ∧ RelV (.int 0) u)
    (g_LEAP_UP : ∃ u, PySem.W.nsIn K mainGlobals "LEAP_UP" = some (some u) ∧ RelV (.int 1) u)
    (g_LEAP_DOWN : ∃ u, PySem.W.nsIn K mainGlobals "LEAP_DOWN" = some (some u) ∧ RelV (.int 2) u)
    (A_law : ∃ f fd, DefAt K "law" s_law f fd)
    : ∃ fd : FuncData, (∀ (s : Shared) (v : Value), BindsTo s fd ⟨[v], []⟩ [("_law_script", v)]) ∧ ∀ base : Heap, K.In base → base.Ns mainGlobals mg → FnOk l.prog w K mg base CX0 11 fa fd ["_law_script"] (spLaw K) := by
  obtain ⟨f_law, fd_law, B_law⟩ := A_law
  obtain ⟨f_note_in, fd_note_in, B_note_in⟩ := A_note_in
  have F_note_in := B_note_in.fn
  obtain ⟨f_span, fd_span, B_span⟩ := A_span
  have F_span := B_span.fn
  obtain ⟨f_move, fd_move, B_move⟩ := A_move
  have F_move := B_move.fn
  obtain ⟨CC_Rule___init__, f_Rule___init__, fd_Rule___init__, B_Rule___init__⟩ := A_Rule___init__
  have F_Rule___init__ := B_Rule___init__.fn
  obtain ⟨f_Span_size, fd_Span_size, B_Span_size⟩ := A_Span_size
  have F_Span_size := B_Span_size.fn
  obtain ⟨f_Span_start, fd_Span_start, B_Span_start⟩ := A_Span_start
  have F_Span_start := B_Span_start.fn
  obtain ⟨f_Span_closes, fd_Span_closes, B_Span_closes⟩ := A_Span_closes
  have F_Span_closes := B_Span_closes.fn
  obtain ⟨f_Span_shown, fd_Span_shown, B_Span_shown⟩ := A_Span_shown
  have F_Span_shown := B_Span_shown.fn
  obtain ⟨f_Clock_size, fd_Clock_size, B_Clock_size⟩ := A_Clock_size
  have F_Clock_size := B_Clock_size.fn
  obtain ⟨f_Clock_start, fd_Clock_start, B_Clock_start⟩ := A_Clock_start
  have F_Clock_start := B_Clock_start.fn
  obtain ⟨f_Clock_closes, fd_Clock_closes, B_Clock_closes⟩ := A_Clock_closes
  have F_Clock_closes := B_Clock_closes.fn
  obtain ⟨f_Clock_shown, fd_Clock_shown, B_Clock_shown⟩ := A_Clock_shown
  have F_Clock_shown := B_Clock_shown.fn
  obtain ⟨f_Move_size, fd_Move_size, B_Move_size⟩ := A_Move_size
  have F_Move_size := B_Move_size.fn
  obtain ⟨f_Move_start, fd_Move_start, B_Move_start⟩ := A_Move_start
  have F_Move_start := B_Move_start.fn
  obtain ⟨f_Move_closes, fd_Move_closes, B_Move_closes⟩ := A_Move_closes
  have F_Move_closes := B_Move_closes.fn
  obtain ⟨f_Move_shown, fd_Move_shown, B_Move_shown⟩ := A_Move_shown
  have F_Move_shown := B_Move_shown.fn
  obtain ⟨f_Alike_size, fd_Alike_size, B_Alike_size⟩ := A_Alike_size
  have F_Alike_size := B_Alike_size.fn
  obtain ⟨f_Alike_start, fd_Alike_start, B_Alike_start⟩ := A_Alike_start
  have F_Alike_start := B_Alike_start.fn
  obtain ⟨f_Alike_closes, fd_Alike_closes, B_Alike_closes⟩ := A_Alike_closes
  have F_Alike_closes := B_Alike_closes.fn
  obtain ⟨f_Alike_shown, fd_Alike_shown, B_Alike_shown⟩ := A_Alike_shown
  have F_Alike_shown := B_Alike_shown.fn
  obtain ⟨f_Begin_size, fd_Begin_size, B_Begin_size⟩ := A_Begin_size
  have F_Begin_size := B_Begin_size.fn
  obtain ⟨f_Begin_start, fd_Begin_start, B_Begin_start⟩ := A_Begin_start
  have F_Begin_start := B_Begin_start.fn
  obtain ⟨f_Begin_closes, fd_Begin_closes, B_Begin_closes⟩ := A_Begin_closes
  have F_Begin_closes := B_Begin_closes.fn
  obtain ⟨f_Begin_shown, fd_Begin_shown, B_Begin_shown⟩ := A_Begin_shown
  have F_Begin_shown := B_Begin_shown.fn
  obtain ⟨f_Close_size, fd_Close_size, B_Close_size⟩ := A_Close_size
  have F_Close_size := B_Close_size.fn
  obtain ⟨f_Close_start, fd_Close_start, B_Close_start⟩ := A_Close_start
  have F_Close_start := B_Close_start.fn
  obtain ⟨f_Close_shown, fd_Close_shown, B_Close_shown⟩ := A_Close_shown
  have F_Close_shown := B_Close_shown.fn
  obtain ⟨f_Back_shown, fd_Back_shown, B_Back_shown⟩ := A_Back_shown
  have F_Back_shown := B_Back_shown.fn
  obtain ⟨f_Held_start, fd_Held_start, B_Held_start⟩ := A_Held_start
  have F_Held_start := B_Held_start.fn
  obtain ⟨f_Held_closes, fd_Held_closes, B_Held_closes⟩ := A_Held_closes
  have F_Held_closes := B_Held_closes.fn
  obtain ⟨f_Held_shown, fd_Held_shown, B_Held_shown⟩ := A_Held_shown
  have F_Held_shown := B_Held_shown.fn
  obtain ⟨f_Times_start, fd_Times_start, B_Times_start⟩ := A_Times_start
  have F_Times_start := B_Times_start.fn
  obtain ⟨f_Times_shown, fd_Times_shown, B_Times_shown⟩ := A_Times_shown
  have F_Times_shown := B_Times_shown.fn
  obtain ⟨f_Every_start, fd_Every_start, B_Every_start⟩ := A_Every_start
  have F_Every_start := B_Every_start.fn
  obtain ⟨f_Every_closes, fd_Every_closes, B_Every_closes⟩ := A_Every_closes
  have F_Every_closes := B_Every_closes.fn
  obtain ⟨f_Every_shown, fd_Every_shown, B_Every_shown⟩ := A_Every_shown
  have F_Every_shown := B_Every_shown.fn
  obtain ⟨f_Close_after, fd_Close_after, B_Close_after⟩ := A_Close_after
  have F_Close_after := B_Close_after.fn
  obtain ⟨f_Back_size, fd_Back_size, B_Back_size⟩ := A_Back_size
  have F_Back_size := B_Back_size.fn
  obtain ⟨f_Back_start, fd_Back_start, B_Back_start⟩ := A_Back_start
  have F_Back_start := B_Back_start.fn
  obtain ⟨f_Held_size, fd_Held_size, B_Held_size⟩ := A_Held_size
  have F_Held_size := B_Held_size.fn
  obtain ⟨f_Times_size, fd_Times_size, B_Times_size⟩ := A_Times_size
  have F_Times_size := B_Times_size.fn
  obtain ⟨f_Every_size, fd_Every_size, B_Every_size⟩ := A_Every_size
  have F_Every_size := B_Every_size.fn
  obtain ⟨f_Span_after, fd_Span_after, B_Span_after⟩ := A_Span_after
  have F_Span_after := B_Span_after.fn
  obtain ⟨f_Clock_after, fd_Clock_after, B_Clock_after⟩ := A_Clock_after
  have F_Clock_after := B_Clock_after.fn
  obtain ⟨f_Move_after, fd_Move_after, B_Move_after⟩ := A_Move_after
  have F_Move_after := B_Move_after.fn
  obtain ⟨f_Alike_after, fd_Alike_after, B_Alike_after⟩ := A_Alike_after
  have F_Alike_after := B_Alike_after.fn
  obtain ⟨f_Back_closes, fd_Back_closes, B_Back_closes⟩ := A_Back_closes
  have F_Back_closes := B_Back_closes.fn
  obtain ⟨f_Back_after, fd_Back_after, B_Back_after⟩ := A_Back_after
  have F_Back_after := B_Back_after.fn
  obtain ⟨f_Held_after, fd_Held_after, B_Held_after⟩ := A_Held_after
  have F_Held_after := B_Held_after.fn
  obtain ⟨f_Times_closes, fd_Times_closes, B_Times_closes⟩ := A_Times_closes
  have F_Times_closes := B_Times_closes.fn
  obtain ⟨f_Times_after, fd_Times_after, B_Times_after⟩ := A_Times_after
  have F_Times_after := B_Times_after.fn
  obtain ⟨f_Begin_after, fd_Begin_after, B_Begin_after⟩ := A_Begin_after
  have F_Begin_after := B_Begin_after.fn
  obtain ⟨f_Close_closes, fd_Close_closes, B_Close_closes⟩ := A_Close_closes
  have F_Close_closes := B_Close_closes.fn
  obtain ⟨f_Every_after, fd_Every_after, B_Every_after⟩ := A_Every_after
  have F_Every_after := B_Every_after.fn
  obtain ⟨f_Span___init__, fd_Span___init__, B_Span___init__⟩ := A_Span___init__
  have F_Span___init__ := B_Span___init__.fn
  obtain ⟨f_Clock___init__, fd_Clock___init__, B_Clock___init__⟩ := A_Clock___init__
  have F_Clock___init__ := B_Clock___init__.fn
  obtain ⟨f_Move___init__, fd_Move___init__, B_Move___init__⟩ := A_Move___init__
  have F_Move___init__ := B_Move___init__.fn
  obtain ⟨f_Alike___init__, fd_Alike___init__, B_Alike___init__⟩ := A_Alike___init__
  have F_Alike___init__ := B_Alike___init__.fn
  obtain ⟨f_Back___init__, fd_Back___init__, B_Back___init__⟩ := A_Back___init__
  have F_Back___init__ := B_Back___init__.fn
  obtain ⟨f_Held___init__, fd_Held___init__, B_Held___init__⟩ := A_Held___init__
  have F_Held___init__ := B_Held___init__.fn
  obtain ⟨f_Times___init__, fd_Times___init__, B_Times___init__⟩ := A_Times___init__
  have F_Times___init__ := B_Times___init__.fn
  obtain ⟨f_Begin___init__, fd_Begin___init__, B_Begin___init__⟩ := A_Begin___init__
  have F_Begin___init__ := B_Begin___init__.fn
  obtain ⟨f_Close___init__, fd_Close___init__, B_Close___init__⟩ := A_Close___init__
  have F_Close___init__ := B_Close___init__.fn
  obtain ⟨f_Every___init__, fd_Every___init__, B_Every___init__⟩ := A_Every___init__
  have F_Every___init__ := B_Every___init__.fn
  obtain ⟨f_is_number, fd_is_number, B_is_number⟩ := A_is_number
  have F_is_number := B_is_number.fn
  obtain ⟨f_has_list, fd_has_list, B_has_list⟩ := A_has_list
  have F_has_list := B_has_list.fn
  obtain ⟨f_are_voices, fd_are_voices, B_are_voices⟩ := A_are_voices
  have F_are_voices := B_are_voices.fn
  have F_span_of := B_span_of.fn
  have F_clock_of := B_clock_of.fn
  have F_move_of := B_move_of.fn
  have F_alike_of := B_alike_of.fn
  have F_back_of := B_back_of.fn
  have F_held_of := B_held_of.fn
  have F_times_of := B_times_of.fn
  have F_begin_of := B_begin_of.fn
  have F_close_of := B_close_of.fn
  obtain ⟨f_plain_rule, fd_plain_rule, B_plain_rule⟩ := A_plain_rule
  have F_plain_rule := B_plain_rule.fn
  obtain ⟨f_every_rule, fd_every_rule, B_every_rule⟩ := A_every_rule
  have F_every_rule := B_every_rule.fn
  obtain ⟨f_read_rule, fd_read_rule, u_read_rule, B_read_rule, r_read_rule⟩ := A_read_rule
  obtain ⟨T_read_rule, o_read_rule, n_read_rule, F_read_rule, t_read_rule, d_read_rule⟩ := B_read_rule.fn
  obtain ⟨f_broken_at, fd_broken_at, B_broken_at⟩ := A_broken_at
  have F_broken_at := B_broken_at.fn
  obtain ⟨f_law_pick, fd_law_pick, B_law_pick⟩ := A_law_pick
  have F_law_pick := B_law_pick.fn
  obtain ⟨f_law_stir, fd_law_stir, B_law_stir⟩ := A_law_stir
  have F_law_stir := B_law_stir.fn
  obtain ⟨f_law_digits, fd_law_digits, B_law_digits⟩ := A_law_digits
  have F_law_digits := B_law_digits.fn
  obtain ⟨f_law_bases, fd_law_bases, B_law_bases⟩ := A_law_bases
  have F_law_bases := B_law_bases.fn
  obtain ⟨f_law_notes, fd_law_notes, B_law_notes⟩ := A_law_notes
  have F_law_notes := B_law_notes.fn
  obtain ⟨f_law_numbers_by, fd_law_numbers_by, B_law_numbers_by⟩ := A_law_numbers_by
  have F_law_numbers_by := B_law_numbers_by.fn
  obtain ⟨f_law_words_by, fd_law_words_by, B_law_words_by⟩ := A_law_words_by
  have F_law_words_by := B_law_words_by.fn
  obtain ⟨f_law_step_breaks, fd_law_step_breaks, B_law_step_breaks⟩ := A_law_step_breaks
  have F_law_step_breaks := B_law_step_breaks.fn
  obtain ⟨f_law_breaks, fd_law_breaks, B_law_breaks⟩ := A_law_breaks
  have F_law_breaks := B_law_breaks.fn
  obtain ⟨f_law_open, fd_law_open, B_law_open⟩ := A_law_open
  have F_law_open := B_law_open.fn
  obtain ⟨f_law_grown, fd_law_grown, B_law_grown⟩ := A_law_grown
  have F_law_grown := B_law_grown.fn
  obtain ⟨f_law_first, fd_law_first, B_law_first⟩ := A_law_first
  have F_law_first := B_law_first.fn
  obtain ⟨f_law_size_of, fd_law_size_of, B_law_size_of⟩ := A_law_size_of
  have F_law_size_of := B_law_size_of.fn
  obtain ⟨f_law_memory_good, fd_law_memory_good, B_law_memory_good⟩ := A_law_memory_good
  have F_law_memory_good := B_law_memory_good.fn
  obtain ⟨f_law_by_turns, fd_law_by_turns, B_law_by_turns⟩ := A_law_by_turns
  have F_law_by_turns := B_law_by_turns.fn
  obtain ⟨f_law_broken, fd_law_broken, B_law_broken⟩ := A_law_broken
  have F_law_broken := B_law_broken.fn
  obtain ⟨u_FIGURES, g_FIGURES, r_FIGURES⟩ := g_FIGURES
  obtain ⟨u_MOST_FIGURES, g_MOST_FIGURES, r_MOST_FIGURES⟩ := g_MOST_FIGURES
  obtain ⟨u_MOST_NUMBERS, g_MOST_NUMBERS, r_MOST_NUMBERS⟩ := g_MOST_NUMBERS
  obtain ⟨u_NO_LEAP, g_NO_LEAP, r_NO_LEAP⟩ := g_NO_LEAP
  obtain ⟨u_LEAP_UP, g_LEAP_UP, r_LEAP_UP⟩ := g_LEAP_UP
  obtain ⟨u_LEAP_DOWN, g_LEAP_DOWN, r_LEAP_DOWN⟩ := g_LEAP_DOWN
  have e := hfa.symm.trans (PySem.W.mg_of X G B_law.ns)
  cases e
  have T : Txt mg a_MAKERS := { n_len := PySem.W.mg_none_of X G z_len, n_range := PySem.W.mg_none_of X G z_range, n_all := PySem.W.mg_none_of X G z_all, n_min := PySem.W.mg_none_of X G z_min, n_max := PySem.W.mg_none_of X G z_max, n_abs := PySem.W.mg_none_of X G z_abs, n_tuple := PySem.W.mg_none_of X G z_tuple, n_list := PySem.W.mg_none_of X G z_list, n_isinstance := PySem.W.mg_none_of X G z_isinstance, n_bool := PySem.W.mg_none_of X G z_bool, n_int := PySem.W.mg_none_of X G z_int, n_str := PySem.W.mg_none_of X G z_str, n_divmod := PySem.W.mg_none_of X G z_divmod, n_enumerate := PySem.W.mg_none_of X G z_enumerate, g_FIGURES := ⟨_, PySem.W.mg_of X G g_FIGURES, r_FIGURES⟩, g_MOST_FIGURES := ⟨_, PySem.W.mg_of X G g_MOST_FIGURES, r_MOST_FIGURES⟩, g_MOST_NUMBERS := ⟨_, PySem.W.mg_of X G g_MOST_NUMBERS, r_MOST_NUMBERS⟩, g_NO_LEAP := ⟨_, PySem.W.mg_of X G g_NO_LEAP, r_NO_LEAP⟩, g_LEAP_UP := ⟨_, PySem.W.mg_of X G g_LEAP_UP, r_LEAP_UP⟩, g_LEAP_DOWN := ⟨_, PySem.W.mg_of X G g_LEAP_DOWN, r_LEAP_DOWN⟩, g_MAKERS := ⟨_, PySem.W.mg_of X G n_MAKERS, rfl⟩ }
  have TE_INNER_KINDS : TxtE mg a_MAKERS a_INNER_KINDS := { T with g_INNER_KINDS := ⟨_, PySem.W.mg_of X G n_INNER_KINDS, rfl⟩ }
  obtain ⟨oc, od, kV, doc, pm, an, cdv, ct, osl, rfl, lk, hcd⟩ := B_law.fn.ex
  refine ⟨PySem.W.fnOf "law" "law" (defArgs s_law) (defBody s_law) (defScope s_law) .none kV doc pm an cdv ct, fun s v => .of_eq rfl, fun base _ _ => ?_⟩
  have D_note_in : Def l.prog w K mg base "note_in" 1 ["column", "voice"] (spNoteIn K) := B_note_in.df X G (ok_note_in F_note_in) (F_note_in.binds (fun _ _ _ _ _ _ us hl => match us, hl with | [_, _], _ => rfl))
  have D_span : Def l.prog w K mg base "span" 2 ["column", "first", "second"] (spSpan K) := B_span.df X G (ok_span F_span D_note_in) (F_span.binds (fun _ _ _ _ _ _ us hl => match us, hl with | [_, _, _], _ => rfl))
  have D_move : Def l.prog w K mg base "move" 2 ["before", "column", "voice"] (spMoveF K) := B_move.df X G (ok_move F_move D_note_in) (F_move.binds (fun _ _ _ _ _ _ us hl => match us, hl with | [_, _, _], _ => rfl))
  have DC_Rule___init__ : DefC l.prog w K mg base "Rule" "__init__" 1 ["self", "row"] (spRuleInit K) := B_Rule___init__.df X G (ok_Rule_init F_Rule___init__) (F_Rule___init__.binds (fun _ _ _ _ _ _ us hl => match us, hl with | [_, _], _ => rfl))
  have M_Span_size : MethOk l.prog w K mg base C_Span "size" 1 ["self"] (spSay 1 fun _ => .int 1) := B_Span_size.ok TC_Span.cl (ok_Rule_size F_Span_size) (F_Span_size.binds (fun _ _ _ _ _ _ us hl => match us, hl with | [_], _ => rfl))
  have M_Span_start : MethOk l.prog w K mg base C_Span "start" 1 ["self"] (spSay 1 fun _ => .int 0) := B_Span_start.ok TC_Span.cl (ok_Rule_start F_Span_start) (F_Span_start.binds (fun _ _ _ _ _ _ us hl => match us, hl with | [_], _ => rfl))
  have M_Span_closes : MethOk l.prog w K mg base C_Span "closes" 1 ["self", "memory", "last"] (spSay 3 fun _ => .bl true) := B_Span_closes.ok TC_Span.cl (ok_Rule_closes F_Span_closes) (F_Span_closes.binds (fun _ _ _ _ _ _ us hl => match us, hl with | [_, _, _], _ => rfl))
  have M_Span_shown : MethOk l.prog w K mg base C_Span "shown" 1 ["self"] (spShown K) := B_Span_shown.ok TC_Span.cl (ok_Rule_shown F_Span_shown) (F_Span_shown.binds (fun _ _ _ _ _ _ us hl => match us, hl with | [_], _ => rfl))
  have M_Clock_size : MethOk l.prog w K mg base C_Clock "size" 1 ["self"] (spSay 1 fun _ => .int 1) := B_Clock_size.ok TC_Clock.cl (ok_Rule_size F_Clock_size) (F_Clock_size.binds (fun _ _ _ _ _ _ us hl => match us, hl with | [_], _ => rfl))
  have M_Clock_start : MethOk l.prog w K mg base C_Clock "start" 1 ["self"] (spSay 1 fun _ => .int 0) := B_Clock_start.ok TC_Clock.cl (ok_Rule_start F_Clock_start) (F_Clock_start.binds (fun _ _ _ _ _ _ us hl => match us, hl with | [_], _ => rfl))
  have M_Clock_closes : MethOk l.prog w K mg base C_Clock "closes" 1 ["self", "memory", "last"] (spSay 3 fun _ => .bl true) := B_Clock_closes.ok TC_Clock.cl (ok_Rule_closes F_Clock_closes) (F_Clock_closes.binds (fun _ _ _ _ _ _ us hl => match us, hl with | [_, _, _], _ => rfl))
  have M_Clock_shown : MethOk l.prog w K mg base C_Clock "shown" 1 ["self"] (spShown K) := B_Clock_shown.ok TC_Clock.cl (ok_Rule_shown F_Clock_shown) (F_Clock_shown.binds (fun _ _ _ _ _ _ us hl => match us, hl with | [_], _ => rfl))
  have M_Move_size : MethOk l.prog w K mg base C_Move "size" 1 ["self"] (spSay 1 fun _ => .int 1) := B_Move_size.ok TC_Move.cl (ok_Rule_size F_Move_size) (F_Move_size.binds (fun _ _ _ _ _ _ us hl => match us, hl with | [_], _ => rfl))
  have M_Move_start : MethOk l.prog w K mg base C_Move "start" 1 ["self"] (spSay 1 fun _ => .int 0) := B_Move_start.ok TC_Move.cl (ok_Rule_start F_Move_start) (F_Move_start.binds (fun _ _ _ _ _ _ us hl => match us, hl with | [_], _ => rfl))
  have M_Move_closes : MethOk l.prog w K mg base C_Move "closes" 1 ["self", "memory", "last"] (spSay 3 fun _ => .bl true) := B_Move_closes.ok TC_Move.cl (ok_Rule_closes F_Move_closes) (F_Move_closes.binds (fun _ _ _ _ _ _ us hl => match us, hl with | [_, _, _], _ => rfl))
  have M_Move_shown : MethOk l.prog w K mg base C_Move "shown" 1 ["self"] (spShown K) := B_Move_shown.ok TC_Move.cl (ok_Rule_shown F_Move_shown) (F_Move_shown.binds (fun _ _ _ _ _ _ us hl => match us, hl with | [_], _ => rfl))
  have M_Alike_size : MethOk l.prog w K mg base C_Alike "size" 1 ["self"] (spSay 1 fun _ => .int 1) := B_Alike_size.ok TC_Alike.cl (ok_Rule_size F_Alike_size) (F_Alike_size.binds (fun _ _ _ _ _ _ us hl => match us, hl with | [_], _ => rfl))
  have M_Alike_start : MethOk l.prog w K mg base C_Alike "start" 1 ["self"] (spSay 1 fun _ => .int 0) := B_Alike_start.ok TC_Alike.cl (ok_Rule_start F_Alike_start) (F_Alike_start.binds (fun _ _ _ _ _ _ us hl => match us, hl with | [_], _ => rfl))
  have M_Alike_closes : MethOk l.prog w K mg base C_Alike "closes" 1 ["self", "memory", "last"] (spSay 3 fun _ => .bl true) := B_Alike_closes.ok TC_Alike.cl (ok_Rule_closes F_Alike_closes) (F_Alike_closes.binds (fun _ _ _ _ _ _ us hl => match us, hl with | [_, _, _], _ => rfl))
  have M_Alike_shown : MethOk l.prog w K mg base C_Alike "shown" 1 ["self"] (spShown K) := B_Alike_shown.ok TC_Alike.cl (ok_Rule_shown F_Alike_shown) (F_Alike_shown.binds (fun _ _ _ _ _ _ us hl => match us, hl with | [_], _ => rfl))
  have M_Begin_size : MethOk l.prog w K mg base C_Begin "size" 1 ["self"] (spSay 1 fun _ => .int 1) := B_Begin_size.ok TC_Begin.cl (ok_Rule_size F_Begin_size) (F_Begin_size.binds (fun _ _ _ _ _ _ us hl => match us, hl with | [_], _ => rfl))
  have M_Begin_start : MethOk l.prog w K mg base C_Begin "start" 1 ["self"] (spSay 1 fun _ => .int 0) := B_Begin_start.ok TC_Begin.cl (ok_Rule_start F_Begin_start) (F_Begin_start.binds (fun _ _ _ _ _ _ us hl => match us, hl with | [_], _ => rfl))
  have M_Begin_closes : MethOk l.prog w K mg base C_Begin "closes" 1 ["self", "memory", "last"] (spSay 3 fun _ => .bl true) := B_Begin_closes.ok TC_Begin.cl (ok_Rule_closes F_Begin_closes) (F_Begin_closes.binds (fun _ _ _ _ _ _ us hl => match us, hl with | [_, _, _], _ => rfl))
  have M_Begin_shown : MethOk l.prog w K mg base C_Begin "shown" 1 ["self"] (spShown K) := B_Begin_shown.ok TC_Begin.cl (ok_Rule_shown F_Begin_shown) (F_Begin_shown.binds (fun _ _ _ _ _ _ us hl => match us, hl with | [_], _ => rfl))
  have M_Close_size : MethOk l.prog w K mg base C_Close "size" 1 ["self"] (spSay 1 fun _ => .int 1) := B_Close_size.ok TC_Close.cl (ok_Rule_size F_Close_size) (F_Close_size.binds (fun _ _ _ _ _ _ us hl => match us, hl with | [_], _ => rfl))
  have M_Close_start : MethOk l.prog w K mg base C_Close "start" 1 ["self"] (spSay 1 fun _ => .int 0) := B_Close_start.ok TC_Close.cl (ok_Rule_start F_Close_start) (F_Close_start.binds (fun _ _ _ _ _ _ us hl => match us, hl with | [_], _ => rfl))
  have M_Close_shown : MethOk l.prog w K mg base C_Close "shown" 1 ["self"] (spShown K) := B_Close_shown.ok TC_Close.cl (ok_Rule_shown F_Close_shown) (F_Close_shown.binds (fun _ _ _ _ _ _ us hl => match us, hl with | [_], _ => rfl))
  have M_Back_shown : MethOk l.prog w K mg base C_Back "shown" 1 ["self"] (spShown K) := B_Back_shown.ok TC_Back.cl (ok_Rule_shown F_Back_shown) (F_Back_shown.binds (fun _ _ _ _ _ _ us hl => match us, hl with | [_], _ => rfl))
  have M_Held_start : MethOk l.prog w K mg base C_Held "start" 1 ["self"] (spSay 1 fun _ => .int 0) := B_Held_start.ok TC_Held.cl (ok_Rule_start F_Held_start) (F_Held_start.binds (fun _ _ _ _ _ _ us hl => match us, hl with | [_], _ => rfl))
  have M_Held_closes : MethOk l.prog w K mg base C_Held "closes" 1 ["self", "memory", "last"] (spSay 3 fun _ => .bl true) := B_Held_closes.ok TC_Held.cl (ok_Rule_closes F_Held_closes) (F_Held_closes.binds (fun _ _ _ _ _ _ us hl => match us, hl with | [_, _, _], _ => rfl))
  have M_Held_shown : MethOk l.prog w K mg base C_Held "shown" 1 ["self"] (spShown K) := B_Held_shown.ok TC_Held.cl (ok_Rule_shown F_Held_shown) (F_Held_shown.binds (fun _ _ _ _ _ _ us hl => match us, hl with | [_], _ => rfl))
  have M_Times_start : MethOk l.prog w K mg base C_Times "start" 1 ["self"] (spSay 1 fun _ => .int 0) := B_Times_start.ok TC_Times.cl (ok_Rule_start F_Times_start) (F_Times_start.binds (fun _ _ _ _ _ _ us hl => match us, hl with | [_], _ => rfl))
  have M_Times_shown : MethOk l.prog w K mg base C_Times "shown" 1 ["self"] (spShown K) := B_Times_shown.ok TC_Times.cl (ok_Rule_shown F_Times_shown) (F_Times_shown.binds (fun _ _ _ _ _ _ us hl => match us, hl with | [_], _ => rfl))
  have M_Every_start : MethOk l.prog w K mg base C_Every "start" 1 ["self"] (spSay 1 fun _ => .int 0) := B_Every_start.ok TC_Every.cl (ok_Rule_start F_Every_start) (F_Every_start.binds (fun _ _ _ _ _ _ us hl => match us, hl with | [_], _ => rfl))
  have M_Every_closes : MethOk l.prog w K mg base C_Every "closes" 1 ["self", "memory", "last"] (spSay 3 fun _ => .bl true) := B_Every_closes.ok TC_Every.cl (ok_Rule_closes F_Every_closes) (F_Every_closes.binds (fun _ _ _ _ _ _ us hl => match us, hl with | [_, _, _], _ => rfl))
  have M_Every_shown : MethOk l.prog w K mg base C_Every "shown" 1 ["self"] (spShown K) := B_Every_shown.ok TC_Every.cl (ok_Rule_shown F_Every_shown) (F_Every_shown.binds (fun _ _ _ _ _ _ us hl => match us, hl with | [_], _ => rfl))
  have M_Close_after : MethOk l.prog w K mg base C_Close "after" 1 ["self", "memory", "before", "column"] (spSay 4 keepM) := B_Close_after.ok TC_Close.cl (ok_Rule_after F_Close_after) (F_Close_after.binds (fun _ _ _ _ _ _ us hl => match us, hl with | [_, _, _, _], _ => rfl))
  have M_Back_size : MethOk l.prog w K mg base C_Back "size" 1 ["self"] (spSay 1 fun _ => .int 3) := B_Back_size.ok TC_Back.cl (ok_Back_size F_Back_size) (F_Back_size.binds (fun _ _ _ _ _ _ us hl => match us, hl with | [_], _ => rfl))
  have M_Back_start : MethOk l.prog w K mg base C_Back "start" 1 ["self"] (spSay 1 fun _ => .int 0) := B_Back_start.ok TC_Back.cl (ok_Back_start F_Back_start T) (F_Back_start.binds (fun _ _ _ _ _ _ us hl => match us, hl with | [_], _ => rfl))
  have M_Held_size : ∀ (row : Str) (a c : Int), MethOk l.prog w K mg base C_Held "size" 1 ["self"] (spR0 (RIHeld C_Held row a c) (.int c)) := fun row a c => B_Held_size.ok TC_Held.cl (ok_Held_size F_Held_size TC_Held) (F_Held_size.binds (fun _ _ _ _ _ _ us hl => match us, hl with | [_], _ => rfl))
  have M_Times_size : ∀ (row : Str) (a c d e : Int), MethOk l.prog w K mg base C_Times "size" 1 ["self"] (spR0 (RITimes C_Times row a c d e) (.int (e + 1))) := fun row a c d e => B_Times_size.ok TC_Times.cl (ok_Times_size F_Times_size TC_Times) (F_Times_size.binds (fun _ _ _ _ _ _ us hl => match us, hl with | [_], _ => rfl))
  have M_Every_size : ∀ (row : Str) (t u : Int) (RIn : RIT), MethOk l.prog w K mg base C_Every "size" 1 ["self"] (spR0 (RIEvery C_Every row t u RIn) (.int t)) := fun row t u RIn => B_Every_size.ok TC_Every.cl (ok_Every_size F_Every_size TC_Every) (F_Every_size.binds (fun _ _ _ _ _ _ us hl => match us, hl with | [_], _ => rfl))
  have M_Span_after : ∀ (row : Str) (a b : Int) (D : List Int) (nv : Nat) (_ : 1 ≤ a ∧ a ≤ nv) (_ : 1 ≤ b ∧ b ≤ nv), MethOk l.prog w K mg base C_Span "after" 3 ["self", "memory", "before", "column"] (spAfter K nv (RISpan C_Span row a b D) (semSpan a b D) fun _ => True) := fun row a b D nv ha hb => B_Span_after.ok TC_Span.cl (ok_Span_after F_Span_after T TC_Span ha hb D_span) (F_Span_after.binds (fun _ _ _ _ _ _ us hl => match us, hl with | [_, _, _, _], _ => rfl))
  have M_Clock_after : ∀ (row : Str) (a b c : Int) (D : List Int) (nv : Nat) (_ : 1 ≤ a ∧ a ≤ nv) (_ : 1 ≤ b ∧ b ≤ nv) (_ : 1 ≤ c), MethOk l.prog w K mg base C_Clock "after" 3 ["self", "memory", "before", "column"] (spAfter K nv (RIClock C_Clock row a b c D) (semClock a b c D) fun _ => True) := fun row a b c D nv ha hb hc => B_Clock_after.ok TC_Clock.cl (ok_Clock_after F_Clock_after T TC_Clock ha hb hc D_span) (F_Clock_after.binds (fun _ _ _ _ _ _ us hl => match us, hl with | [_, _, _, _], _ => rfl))
  have M_Move_after : ∀ (row : Str) (a : Int) (D : List Int) (nv : Nat) (_ : 1 ≤ a ∧ a ≤ nv), MethOk l.prog w K mg base C_Move "after" 3 ["self", "memory", "before", "column"] (spAfter K nv (RIMove C_Move row a D) (semMove a D) fun _ => True) := fun row a D nv ha => B_Move_after.ok TC_Move.cl (ok_Move_after F_Move_after T TC_Move ha D_move) (F_Move_after.binds (fun _ _ _ _ _ _ us hl => match us, hl with | [_, _, _, _], _ => rfl))
  have M_Alike_after : ∀ (row : Str) (a b : Int) (D : List Int) (nv : Nat) (_ : 1 ≤ a ∧ a ≤ nv) (_ : 1 ≤ b ∧ b ≤ nv), MethOk l.prog w K mg base C_Alike "after" 3 ["self", "memory", "before", "column"] (spAfter K nv (RIAlike C_Alike row a b D) (semAlike a b D) fun _ => True) := fun row a b D nv ha hb => B_Alike_after.ok TC_Alike.cl (ok_Alike_after F_Alike_after T TC_Alike ha hb D_move D_span) (F_Alike_after.binds (fun _ _ _ _ _ _ us hl => match us, hl with | [_, _, _, _], _ => rfl))
  have M_Back_closes : ∀ (row : Str) (a c : Int) (nv : Nat), MethOk l.prog w K mg base C_Back "closes" 1 ["self", "memory", "last"] (spCloses K nv (RIBack C_Back row a c) (semBack a c) memBk) := fun row a c nv => B_Back_closes.ok TC_Back.cl (ok_Back_closes F_Back_closes T) (F_Back_closes.binds (fun _ _ _ _ _ _ us hl => match us, hl with | [_, _, _], _ => rfl))
  have M_Back_after : ∀ (row : Str) (a c : Int) (nv : Nat) (_ : 1 ≤ a ∧ a ≤ nv), MethOk l.prog w K mg base C_Back "after" 3 ["self", "memory", "before", "column"] (spAfter K nv (RIBack C_Back row a c) (semBack a c) memBk) := fun row a c nv ha => B_Back_after.ok TC_Back.cl (ok_Back_after F_Back_after T TC_Back ha D_move) (F_Back_after.binds (fun _ _ _ _ _ _ us hl => match us, hl with | [_, _, _, _], _ => rfl))
  have M_Held_after : ∀ (row : Str) (a c : Int) (nv : Nat) (_ : 1 ≤ a ∧ a ≤ nv), MethOk l.prog w K mg base C_Held "after" 3 ["self", "memory", "before", "column"] (spAfter K nv (RIHeld C_Held row a c) (semHeld a c) (memHd c)) := fun row a c nv ha => B_Held_after.ok TC_Held.cl (ok_Held_after F_Held_after T TC_Held ha (D_note_in.up (by decide))) (F_Held_after.binds (fun _ _ _ _ _ _ us hl => match us, hl with | [_, _, _, _], _ => rfl))
  have M_Times_closes : ∀ (row : Str) (a c d e : Int) (nv : Nat), MethOk l.prog w K mg base C_Times "closes" 1 ["self", "memory", "last"] (spCloses K nv (RITimes C_Times row a c d e) (semTimes a c d e) (memTm e)) := fun row a c d e nv => B_Times_closes.ok TC_Times.cl (ok_Times_closes F_Times_closes TC_Times) (F_Times_closes.binds (fun _ _ _ _ _ _ us hl => match us, hl with | [_, _, _], _ => rfl))
  have M_Times_after : ∀ (row : Str) (a c d e : Int) (nv : Nat) (_ : 1 ≤ a ∧ a ≤ nv), MethOk l.prog w K mg base C_Times "after" 3 ["self", "memory", "before", "column"] (spAfter K nv (RITimes C_Times row a c d e) (semTimes a c d e) (memTm e)) := fun row a c d e nv ha => B_Times_after.ok TC_Times.cl (ok_Times_after F_Times_after T TC_Times ha (D_note_in.up (by decide))) (F_Times_after.binds (fun _ _ _ _ _ _ us hl => match us, hl with | [_, _, _, _], _ => rfl))
  have M_Begin_after : ∀ (row : Str) (a : Int) (D : List Int) (nv : Nat) (_ : 1 ≤ a ∧ a ≤ nv), MethOk l.prog w K mg base C_Begin "after" 3 ["self", "memory", "before", "column"] (spAfter K nv (RIBegin C_Begin row a D) (semBegin a D) fun _ => True) := fun row a D nv ha => B_Begin_after.ok TC_Begin.cl (ok_Begin_after F_Begin_after T TC_Begin ha (D_note_in.up (by decide))) (F_Begin_after.binds (fun _ _ _ _ _ _ us hl => match us, hl with | [_, _, _, _], _ => rfl))
  have M_Close_closes : ∀ (row : Str) (a : Int) (D : List Int) (nv : Nat) (_ : 1 ≤ a ∧ a ≤ nv), MethOk l.prog w K mg base C_Close "closes" 3 ["self", "memory", "last"] (spCloses K nv (RIClose C_Close row a D) (semClose a D) fun _ => True) := fun row a D nv ha => B_Close_closes.ok TC_Close.cl (ok_Close_closes F_Close_closes T TC_Close ha (D_note_in.up (by decide))) (F_Close_closes.binds (fun _ _ _ _ _ _ us hl => match us, hl with | [_, _, _], _ => rfl))
  have M_Every_after : ∀ (row : Str) (t u : Int) (nv : Nat) (Cn : Addr) (S : RSem) (RIn : RIT) (G : Int → Prop) (_ : 0 < t) (_ : RuleObj l.prog w K mg base 4 nv Cn S RIn G), MethOk l.prog w K mg base C_Every "after" 5 ["self", "memory", "before", "column"] (spAfter K nv (RIEvery C_Every row t u RIn) (semEvery t u S) (memEv t)) := fun row t u nv Cn S RIn G ht R => B_Every_after.ok TC_Every.cl (ok_Every_after F_Every_after T TC_Every ht R) (F_Every_after.binds (fun _ _ _ _ _ _ us hl => match us, hl with | [_, _, _, _], _ => rfl))
  have DM_Span : DefM l.prog w K mg base "Span" C_Span 2 ["self", "row", "first", "second", "numbers"] (spSpanInit K C_Span) := B_Span___init__.df X G (ok_Span_init F_Span___init__ T TC_Span DC_Rule___init__) (F_Span___init__.binds (fun _ _ _ _ _ _ us hl => match us, hl with | [_, _, _, _, _], _ => rfl))
  have DM_Clock : DefM l.prog w K mg base "Clock" C_Clock 2 ["self", "row", "first", "second", "hours", "numbers"] (spClockInit K C_Clock) := B_Clock___init__.df X G (ok_Clock_init F_Clock___init__ T TC_Clock DC_Rule___init__) (F_Clock___init__.binds (fun _ _ _ _ _ _ us hl => match us, hl with | [_, _, _, _, _, _], _ => rfl))
  have DM_Move : DefM l.prog w K mg base "Move" C_Move 2 ["self", "row", "voice", "numbers"] (spMoveInit K C_Move) := B_Move___init__.df X G (ok_Move_init F_Move___init__ T TC_Move DC_Rule___init__) (F_Move___init__.binds (fun _ _ _ _ _ _ us hl => match us, hl with | [_, _, _, _], _ => rfl))
  have DM_Alike : DefM l.prog w K mg base "Alike" C_Alike 2 ["self", "row", "first", "second", "numbers"] (spAlikeInit K C_Alike) := B_Alike___init__.df X G (ok_Alike_init F_Alike___init__ T TC_Alike DC_Rule___init__) (F_Alike___init__.binds (fun _ _ _ _ _ _ us hl => match us, hl with | [_, _, _, _, _], _ => rfl))
  have DM_Back : DefM l.prog w K mg base "Back" C_Back 2 ["self", "row", "voice", "widest"] (spBackInit K C_Back) := B_Back___init__.df X G (ok_Back_init F_Back___init__ T TC_Back DC_Rule___init__) (F_Back___init__.binds (fun _ _ _ _ _ _ us hl => match us, hl with | [_, _, _, _], _ => rfl))
  have DM_Held : DefM l.prog w K mg base "Held" C_Held 2 ["self", "row", "voice", "most"] (spHeldInit K C_Held) := B_Held___init__.df X G (ok_Held_init F_Held___init__ T TC_Held DC_Rule___init__) (F_Held___init__.binds (fun _ _ _ _ _ _ us hl => match us, hl with | [_, _, _, _], _ => rfl))
  have DM_Times : DefM l.prog w K mg base "Times" C_Times 2 ["self", "row", "voice", "note", "fewest", "most"] (spTimesInit K C_Times) := B_Times___init__.df X G (ok_Times_init F_Times___init__ T TC_Times DC_Rule___init__) (F_Times___init__.binds (fun _ _ _ _ _ _ us hl => match us, hl with | [_, _, _, _, _, _], _ => rfl))
  have DM_Begin : DefM l.prog w K mg base "Begin" C_Begin 2 ["self", "row", "voice", "notes"] (spBeginInit K C_Begin) := B_Begin___init__.df X G (ok_Begin_init F_Begin___init__ T TC_Begin DC_Rule___init__) (F_Begin___init__.binds (fun _ _ _ _ _ _ us hl => match us, hl with | [_, _, _, _], _ => rfl))
  have DM_Close : DefM l.prog w K mg base "Close" C_Close 2 ["self", "row", "voice", "notes"] (spCloseInit K C_Close) := B_Close___init__.df X G (ok_Close_init F_Close___init__ T TC_Close DC_Rule___init__) (F_Close___init__.binds (fun _ _ _ _ _ _ us hl => match us, hl with | [_, _, _, _], _ => rfl))
  have DM_Every : DefM l.prog w K mg base "Every" C_Every 2 ["self", "row", "turns", "turn", "inner"] (spEveryInit K C_Every) := B_Every___init__.df X G (ok_Every_init F_Every___init__ T TC_Every DC_Rule___init__) (F_Every___init__.binds (fun _ _ _ _ _ _ us hl => match us, hl with | [_, _, _, _, _], _ => rfl))
  have D_is_number : Def l.prog w K mg base "is_number" 1 ["word"] spNum := B_is_number.df X G (ok_number F_is_number T) (F_is_number.binds (fun _ _ _ _ _ _ us hl => match us, hl with | [_], _ => rfl))
  have D_has_list : Def l.prog w K mg base "has_list" 1 ["numbers", "ahead"] (spHasList K) := B_has_list.df X G (ok_has_list F_has_list T) (F_has_list.binds (fun _ _ _ _ _ _ us hl => match us, hl with | [_, _], _ => rfl))
  have D_are_voices : Def l.prog w K mg base "are_voices" 1 ["numbers", "voices"] (spAreVoices K) := B_are_voices.df X G (ok_are_voices F_are_voices T) (F_are_voices.binds (fun _ _ _ _ _ _ us hl => match us, hl with | [_, _], _ => rfl))
  have O_span_of : FnOk l.prog w K mg base CX0 4 f_span_of fd_span_of ["row", "numbers", "voices"] (spSpanOf K C_Span) := ok_span_of F_span_of T (D_has_list.up (by decide)) (D_are_voices.up (by decide)) DM_Span
  have FA_span_of : FnAt l.prog w K mg base 4 f_span_of ["row", "numbers", "voices"] (spSpanOf K C_Span) := ⟨fd_span_of, O_span_of, F_span_of.kp, F_span_of.binds (fun _ _ _ _ _ _ us hl => match us, hl with | [_, _, _], _ => rfl)⟩
  have O_clock_of : FnOk l.prog w K mg base CX0 4 f_clock_of fd_clock_of ["row", "numbers", "voices"] (spClockOf K C_Clock) := ok_clock_of F_clock_of T (D_has_list.up (by decide)) (D_are_voices.up (by decide)) DM_Clock
  have FA_clock_of : FnAt l.prog w K mg base 4 f_clock_of ["row", "numbers", "voices"] (spClockOf K C_Clock) := ⟨fd_clock_of, O_clock_of, F_clock_of.kp, F_clock_of.binds (fun _ _ _ _ _ _ us hl => match us, hl with | [_, _, _], _ => rfl)⟩
  have O_move_of : FnOk l.prog w K mg base CX0 4 f_move_of fd_move_of ["row", "numbers", "voices"] (spMoveOf K C_Move) := ok_move_of F_move_of T (D_has_list.up (by decide)) (D_are_voices.up (by decide)) DM_Move
  have FA_move_of : FnAt l.prog w K mg base 4 f_move_of ["row", "numbers", "voices"] (spMoveOf K C_Move) := ⟨fd_move_of, O_move_of, F_move_of.kp, F_move_of.binds (fun _ _ _ _ _ _ us hl => match us, hl with | [_, _, _], _ => rfl)⟩
  have O_alike_of : FnOk l.prog w K mg base CX0 4 f_alike_of fd_alike_of ["row", "numbers", "voices"] (spAlikeOf K C_Alike) := ok_alike_of F_alike_of T (D_has_list.up (by decide)) (D_are_voices.up (by decide)) DM_Alike
  have FA_alike_of : FnAt l.prog w K mg base 4 f_alike_of ["row", "numbers", "voices"] (spAlikeOf K C_Alike) := ⟨fd_alike_of, O_alike_of, F_alike_of.kp, F_alike_of.binds (fun _ _ _ _ _ _ us hl => match us, hl with | [_, _, _], _ => rfl)⟩
  have O_back_of : FnOk l.prog w K mg base CX0 4 f_back_of fd_back_of ["row", "numbers", "voices"] (spBackOf K C_Back) := ok_back_of F_back_of T (D_are_voices.up (by decide)) DM_Back
  have FA_back_of : FnAt l.prog w K mg base 4 f_back_of ["row", "numbers", "voices"] (spBackOf K C_Back) := ⟨fd_back_of, O_back_of, F_back_of.kp, F_back_of.binds (fun _ _ _ _ _ _ us hl => match us, hl with | [_, _, _], _ => rfl)⟩
  have O_held_of : FnOk l.prog w K mg base CX0 4 f_held_of fd_held_of ["row", "numbers", "voices"] (spHeldOf K C_Held) := ok_held_of F_held_of T (D_are_voices.up (by decide)) DM_Held
  have FA_held_of : FnAt l.prog w K mg base 4 f_held_of ["row", "numbers", "voices"] (spHeldOf K C_Held) := ⟨fd_held_of, O_held_of, F_held_of.kp, F_held_of.binds (fun _ _ _ _ _ _ us hl => match us, hl with | [_, _, _], _ => rfl)⟩
  have O_times_of : FnOk l.prog w K mg base CX0 4 f_times_of fd_times_of ["row", "numbers", "voices"] (spTimesOf K C_Times) := ok_times_of F_times_of T (D_are_voices.up (by decide)) DM_Times
  have FA_times_of : FnAt l.prog w K mg base 4 f_times_of ["row", "numbers", "voices"] (spTimesOf K C_Times) := ⟨fd_times_of, O_times_of, F_times_of.kp, F_times_of.binds (fun _ _ _ _ _ _ us hl => match us, hl with | [_, _, _], _ => rfl)⟩
  have O_begin_of : FnOk l.prog w K mg base CX0 4 f_begin_of fd_begin_of ["row", "numbers", "voices"] (spBeginOf K C_Begin) := ok_begin_of F_begin_of T (D_has_list.up (by decide)) (D_are_voices.up (by decide)) DM_Begin
  have FA_begin_of : FnAt l.prog w K mg base 4 f_begin_of ["row", "numbers", "voices"] (spBeginOf K C_Begin) := ⟨fd_begin_of, O_begin_of, F_begin_of.kp, F_begin_of.binds (fun _ _ _ _ _ _ us hl => match us, hl with | [_, _, _], _ => rfl)⟩
  have O_close_of : FnOk l.prog w K mg base CX0 4 f_close_of fd_close_of ["row", "numbers", "voices"] (spCloseOf K C_Close) := ok_close_of F_close_of T (D_has_list.up (by decide)) (D_are_voices.up (by decide)) DM_Close
  have FA_close_of : FnAt l.prog w K mg base 4 f_close_of ["row", "numbers", "voices"] (spCloseOf K C_Close) := ⟨fd_close_of, O_close_of, F_close_of.kp, F_close_of.binds (fun _ _ _ _ _ _ us hl => match us, hl with | [_, _, _], _ => rfl)⟩
  have D_plain_rule : Def l.prog w K mg base "plain_rule" 8 ["row", "voices"] (spPlain l.prog w K mg base a_MAKERS 7) := B_plain_rule.df X G (ok_plain_rule F_plain_rule T (D_is_number.up (by decide))) (F_plain_rule.binds (fun _ _ _ _ _ _ us hl => match us, hl with | [_, _], _ => rfl))
  have D_every_rule : Def l.prog w K mg base "every_rule" 9 ["row", "voices"] (spEvery l.prog w K mg base a_MAKERS C_Every 7) := B_every_rule.df X G (ok_every_rule F_every_rule TE_INNER_KINDS q_INNER_KINDS (D_is_number.up (by decide)) D_plain_rule (DM_Every.up (by decide))) (F_every_rule.binds (fun _ _ _ _ _ _ us hl => match us, hl with | [_, _], _ => rfl))
  have O_read_rule : FnOk l.prog w K mg base CX0 10 f_read_rule fd_read_rule ["text", "voices", "row"] (spRead10 l.prog w K mg base) := ok_read10 (ok_read_plain F_read_rule T (D_plain_rule.up (by decide))) (ok_read_every F_read_rule T (D_plain_rule.up (by decide)) D_every_rule) t_MAKERS (mades d_MAKERS_span (FA_span_of.up (by decide)) (fun row a b D nv ha hb => span_obj TC_Span (M_Span_size.up (by decide)) (M_Span_start.up (by decide)) (M_Span_closes.up (by decide)) ((M_Span_after row a b D nv ha hb).up (by decide))) (fun row a b D => span_shown TC_Span (M_Span_shown.up (by decide))) d_MAKERS_clock (FA_clock_of.up (by decide)) (fun row a b c D nv ha hb hc => clock_obj TC_Clock (M_Clock_size.up (by decide)) (M_Clock_start.up (by decide)) (M_Clock_closes.up (by decide)) ((M_Clock_after row a b c D nv ha hb hc).up (by decide))) (fun row a b c D => clock_shown TC_Clock (M_Clock_shown.up (by decide))) d_MAKERS_move (FA_move_of.up (by decide)) (fun row a D nv ha => move_obj TC_Move (M_Move_size.up (by decide)) (M_Move_start.up (by decide)) (M_Move_closes.up (by decide)) ((M_Move_after row a D nv ha).up (by decide))) (fun row a D => move_shown TC_Move (M_Move_shown.up (by decide))) d_MAKERS_alike (FA_alike_of.up (by decide)) (fun row a b D nv ha hb => alike_obj TC_Alike (M_Alike_size.up (by decide)) (M_Alike_start.up (by decide)) (M_Alike_closes.up (by decide)) ((M_Alike_after row a b D nv ha hb).up (by decide))) (fun row a b D => alike_shown TC_Alike (M_Alike_shown.up (by decide))) d_MAKERS_back (FA_back_of.up (by decide)) (fun row a c nv ha _ => back_obj TC_Back (M_Back_size.up (by decide)) (M_Back_start.up (by decide)) ((M_Back_closes row a c nv).up (by decide)) ((M_Back_after row a c nv ha).up (by decide))) (fun row a c => back_shown TC_Back (M_Back_shown.up (by decide))) d_MAKERS_held (FA_held_of.up (by decide)) (fun row a c nv ha c1 => held_obj c1 TC_Held ((M_Held_size row a c).up (by decide)) (M_Held_start.up (by decide)) (M_Held_closes.up (by decide)) ((M_Held_after row a c nv ha).up (by decide))) (fun row a c => held_shown TC_Held (M_Held_shown.up (by decide))) d_MAKERS_times (FA_times_of.up (by decide)) (fun row a c d e nv ha e1 => times_obj e1 TC_Times ((M_Times_size row a c d e).up (by decide)) (M_Times_start.up (by decide)) ((M_Times_closes row a c d e nv).up (by decide)) ((M_Times_after row a c d e nv ha).up (by decide))) (fun row a c d e => times_shown TC_Times (M_Times_shown.up (by decide))) d_MAKERS_begin (FA_begin_of.up (by decide)) (fun row a D nv ha => begin_obj TC_Begin (M_Begin_size.up (by decide)) (M_Begin_start.up (by decide)) (M_Begin_closes.up (by decide)) ((M_Begin_after row a D nv ha).up (by decide))) (fun row a D => begin_shown TC_Begin (M_Begin_shown.up (by decide))) d_MAKERS_close (FA_close_of.up (by decide)) (fun row a D nv ha => close_obj TC_Close (M_Close_size.up (by decide)) (M_Close_start.up (by decide)) (M_Close_after.up (by decide)) ((M_Close_closes row a D nv ha).up (by decide))) (fun row a D => close_shown TC_Close (M_Close_shown.up (by decide)))) (fun row t u nv Cn S RIn G ht R => every_obj ht TC_Every R ((M_Every_size row t u RIn).up (by decide)) (M_Every_start.up (by decide)) (M_Every_closes.up (by decide)) ((M_Every_after row t u nv Cn S RIn G ht R).up (by decide))) (fun row t u RIn => every_shown TC_Every (M_Every_shown.up (by decide)))
  have D_read_rule : Def l.prog w K mg base "read_rule" 10 ["text", "voices", "row"] (spRead10 l.prog w K mg base) := ⟨f_read_rule, fd_read_rule, O_read_rule, PySem.W.mg_of X G B_read_rule.ns, F_read_rule.kp, F_read_rule.binds t_read_rule d_read_rule fun _ _ _ _ _ _ us hl => match us, hl with | [_, _, _], _ => ⟨_, rfl, rfl⟩⟩
  have DD_read_rule : DefD l.prog w K mg base "read_rule" 10 ["text", "voices", "row"] (spRead10 l.prog w K mg base) [(.int 0)] := ⟨f_read_rule, fd_read_rule, [u_read_rule], O_read_rule, PySem.W.mg_of X G B_read_rule.ns, F_read_rule.kp, F_read_rule.bindsD t_read_rule d_read_rule fun _ _ _ _ _ _ us hl => match us, hl with | [_, _], _ => ⟨_, rfl, rfl⟩, .cons r_read_rule .nil⟩
  have D_broken_at : Def l.prog w K mg base "broken_at" 8 ["rule", "line"] (spBroken l.prog w K mg base 7) := B_broken_at.df X G (ok_broken_at F_broken_at T) (F_broken_at.binds (fun _ _ _ _ _ _ us hl => match us, hl with | [_, _], _ => rfl))
  have D_law_pick : Def l.prog w K mg base "_law_pick" 1 ["_law_script", "_law_at"] (spPick K) := B_law_pick.df X G (ok_pick F_law_pick T) (F_law_pick.binds (fun _ _ _ _ _ _ us hl => match us, hl with | [_, _], _ => rfl))
  have D_law_stir : Def l.prog w K mg base "_law_stir" 1 ["_law_number", "_law_k"] spStir := B_law_stir.df X G (ok_stir F_law_stir T) (F_law_stir.binds (fun _ _ _ _ _ _ us hl => match us, hl with | [_, _], _ => rfl))
  have D_law_digits : Def l.prog w K mg base "_law_digits" 2 ["_law_cell", "_law_many"] spDigits := B_law_digits.df X G (ok_digits F_law_digits T D_law_stir) (F_law_digits.binds (fun _ _ _ _ _ _ us hl => match us, hl with | [_, _], _ => rfl))
  have D_law_bases : Def l.prog w K mg base "_law_bases" 1 ["_law_cell", "_law_voices"] spBases := B_law_bases.df X G (ok_bases F_law_bases T) (F_law_bases.binds (fun _ _ _ _ _ _ us hl => match us, hl with | [_, _], _ => rfl))
  have D_law_notes : Def l.prog w K mg base "_law_notes" 2 ["_law_number", "_law_bases_here", "_law_step", "_law_wide"] (spColumn K) := B_law_notes.df X G (ok_column F_law_notes T D_law_stir) (F_law_notes.binds (fun _ _ _ _ _ _ us hl => match us, hl with | [_, _, _, _], _ => rfl))
  have D_law_numbers_by : Def l.prog w K mg base "_law_numbers_by" 3 ["_law_seed", "_law_many", "_law_word", "_law_pair", "_law_made"] (spNumbersBy K) := B_law_numbers_by.df X G (ok_numbers_by F_law_numbers_by T D_law_digits D_law_notes) (F_law_numbers_by.binds (fun _ _ _ _ _ _ us hl => match us, hl with | [_, _, _, _, _], _ => rfl))
  have D_law_words_by : Def l.prog w K mg base "_law_words_by" 4 ["_law_script", "_law_voices", "_law_made"] (spWordsBy K) := B_law_words_by.df X G (ok_words_by F_law_words_by T (D_law_pick.up (by decide)) D_law_numbers_by) (F_law_words_by.binds (fun _ _ _ _ _ _ us hl => match us, hl with | [_, _, _], _ => rfl))
  have D_law_step_breaks : Def l.prog w K mg base "_law_step_breaks" 1 ["_law_row", "_law_line", "_law_at"] (spStepB K) := B_law_step_breaks.df X G (ok_step_breaks F_law_step_breaks T) (F_law_step_breaks.binds (fun _ _ _ _ _ _ us hl => match us, hl with | [_, _, _], _ => rfl))
  have D_law_breaks : Def l.prog w K mg base "_law_breaks" 2 ["_law_row", "_law_line", "_law_at"] (spBrK K) := B_law_breaks.df X G (ok_breaks0 F_law_breaks T D_law_step_breaks) (F_law_breaks.binds (fun _ _ _ _ _ _ us hl => match us, hl with | [_, _, _], _ => rfl))
  have D_law_breaksX : Def l.prog w K mg base "_law_breaks" 3 ["_law_row", "_law_line", "_law_at"] (spBr10 K) := B_law_breaks.df X G (ok_breaks10 ((ok_breaks0 F_law_breaks T D_law_step_breaks).mono (by decide)) (ok_breaksE F_law_breaks T (D_law_step_breaks.up (by decide)) D_law_breaks)) (F_law_breaks.binds (fun _ _ _ _ _ _ us hl => match us, hl with | [_, _, _], _ => rfl))
  have D_law_open : Def l.prog w K mg base "_law_open" 1 ["_law_row", "_law_line"] (spOpen K) := B_law_open.df X G (ok_open F_law_open T) (F_law_open.binds (fun _ _ _ _ _ _ us hl => match us, hl with | [_, _], _ => rfl))
  have D_law_grown : Def l.prog w K mg base "_law_grown" 4 ["_law_cells", "_law_row", "_law_made"] (spGrown K) := B_law_grown.df X G (ok_grown F_law_grown T (D_law_stir.up (by decide)) (D_law_notes.up (by decide)) D_law_breaksX) (F_law_grown.binds (fun _ _ _ _ _ _ us hl => match us, hl with | [_, _, _], _ => rfl))
  have D_law_first : Def l.prog w K mg base "_law_first" 4 ["_law_row", "_law_line"] (spFirst K) := B_law_first.df X G (ok_first F_law_first T D_law_breaksX) (F_law_first.binds (fun _ _ _ _ _ _ us hl => match us, hl with | [_, _], _ => rfl))
  have D_law_size_of : Def l.prog w K mg base "_law_size_of" 1 ["_law_row"] (spSizeOf K) := B_law_size_of.df X G (ok_size_of F_law_size_of T) (F_law_size_of.binds (fun _ _ _ _ _ _ us hl => match us, hl with | [_], _ => rfl))
  have D_law_memory_good : Def l.prog w K mg base "_law_memory_good" 8 ["_law_rule", "_law_row", "_law_memory", "_law_line"] (spGood l.prog w K mg base) := B_law_memory_good.df X G (ok_good F_law_memory_good T (D_law_size_of.up (by decide)) (D_law_open.up (by decide))) (F_law_memory_good.binds (fun _ _ _ _ _ _ us hl => match us, hl with | [_, _, _, _], _ => rfl))
  have D_law_by_turns : Def l.prog w K mg base "_law_by_turns" 9 ["_law_rule", "_law_row", "_law_lines"] (spTurns l.prog w K mg base) := B_law_by_turns.df X G (ok_by_turns F_law_by_turns T D_law_memory_good (D_law_breaksX.up (by decide))) (F_law_by_turns.binds (fun _ _ _ _ _ _ us hl => match us, hl with | [_, _, _], _ => rfl))
  have D_law_broken : Def l.prog w K mg base "_law_broken" 9 ["_law_rule", "_law_row", "_law_line"] (spBrokenL l.prog w K mg base) := B_law_broken.df X G (ok_broken F_law_broken T D_broken_at (D_law_first.up (by decide)) (D_law_open.up (by decide))) (F_law_broken.binds (fun _ _ _ _ _ _ us hl => match us, hl with | [_, _, _], _ => rfl))
  exact ok_law B_law.fn T (D_law_pick.up (by decide)) (D_law_bases.up (by decide)) (D_law_words_by.up (by decide)) (D_law_grown.up (by decide)) (D_law_size_of.up (by decide)) (D_law_by_turns.up (by decide)) (D_law_broken.up (by decide)) DD_read_rule
theorem walk {l : PySem.W.OpenLaw} {q : Program} {loose : List Str} {XP : (Str → Option Value) → Heap → Prop} {YP : World → Heap → Prop} {d : DefRec} {K : Params → PySem.W.Frag} (hn : l.most = some 63) (hdf : d.params.defaults = [])
    (hY : ∀ (w : World) (h : Heap), YP w h → (K w.params).In h)
    (F : ∀ (w : World) (mg : Str → Option Value) (fa : Addr) (h : Heap), (K w.params).In h → h.Ns mainGlobals mg → mg d.name = some (.ref fa) →
      ∃ fd : FuncData, (∀ (s : Shared) (u : Value), BindsTo s fd ⟨[u], []⟩ [("_law_script", u)]) ∧ ∀ base : Heap, (K w.params).In base → base.Ns mainGlobals mg → FnOk l.prog w (K w.params) mg base CX0 11 fa fd ["_law_script"] (spLaw (K w.params))) :
    PySem.W.WalkO q loose XP YP l.row.toRowW d [] (fun f vs => PySem.call f vs) :=
  L2.walk_ofB (n := 63) (k := 11) (x := "_law_script") (CX := fun _ => CX0) (sp := fun w => spLaw (K w.params)) hn (by decide) hdf ⟨rfl, by decide, by decide⟩ hY F (fun _ _ a ns hl hb _ hS => ⟨a, ns, rfl, hS, hb, hl, fun _ => rfl⟩) fun _ _ _ _ _ z => z
end K20
namespace PySem.W.Fast
def tw5972642714701055185:=0
def tw7232816660338322499:=0
def tw16731489534629859303:=0
def tw10582581145835638585:=0
def tw3086224059589610331:=0
def tw7375022254015592430:=0
def tw3687198257291484360:=0
def tw8126847578231328601:=0
def tw41517734965222358:=0
def tw16114147336300554198:=0
def tw17520174619694851750:=0
def tw16853266419232994634:=0
def tw14858036083737396281:=0
def tw12851436321174436058:=0
def tw17015410129139361829:=0
def tw7001471447464207911:=0
def tw16249824765228092887:=0
def tw17041795700980397374:=0
def tw3539236912751758111:=0
def tw15346313029143501496:=0
def tw7686492769497953078:=0
def tw4663634558303003398:=0
def tw12799837649293931177:=0
def tw8066731468663598123:=0
def tw2445752138352011544:=0
def tw9237789069888882420:=0
def tw14808411111168309199:=0
def tw12815465867298322407:=0
def tw8347429648423167814:=0
def tw2510229926053239767:=0
def tw1985530482570833344:=0
def tw18215309293557672534:=0
def tw5045782235104507377:=0
def tw6614393104951001724:=0
def tw11327952610101003526:=0
def tw14252482870112191473:=0
def tw4283464734702306485:=0
def tw7018530253574357711:=0
def tw3755150018251853768:=0
def tw606032776145366983:=0
def tw3032945586592897439:=0
def tw7481913734653319765:=0
def tw4433203533330137540:=0
def tw1916969956580075157:=0
def tw6042130969650052313:=0
def tw12509523689806315977:=0
def tw17298848213435847532:=0
def tw584966188908131283:=0
def tw1194330718789247923:=0
def tw3175141435534181824:=0
def tw12001089336702541496:=0
def tw7611022214272027211:=0
def tw9770355118221627163:=0
def tw4363245431768160473:=0
def tw313121487603739437:=0
def tw11161415831768899873:=0
def tw6618350150242287624:=0
def tw17325062266529036394:=0
def tw5380303432917306104:=0
def tw16594955379037126440:=0
def tw1770791008984756561:=0
def tw1870598454974314457:=0
def tw1709438078320238642:=0
def tw13595014679319332551:=0
def tw16873885817562870931:=0
def tw2650588532696409815:=0
def tw11999742636778557090:=0
def tw5891456851112696805:=0
def tw14540870808694921564:=0
def tw9437271872728652397:=0
def tw12299659181971489770:=0
def tw8064141461494617155:=0
def tw10279255050075488191:=0
def tw1830677386480578600:=0
def tw4839583989721258150:=0
def tw10524580767673787805:=0
def tw12944687745029703941:=0
def tw8072623958619888340:=0
def tw7417905964458354950:=0
def tw4234765330268949456:=0
def tw11111629031824964918:=0
def tw15480830602574834362:=0
def tw8047720746398097399:=0
def tw15898767728483708287:=0
def tw7055480947314492917:=0
def tw15908989260015747172:=0
def tw9268111599161090664:=0
def tw16670522610824723201:=0
def tw9995702173823565003:=0
def tw12731796320455170286:=0
def tw8647628576827021696:=0
def tw5938437151112691860:=0
def tw10806226254301646250:=0
def tw386215813754426838:=0
def tw11166791792455078754:=0
def tw11555930962817323361:=0
def tw8356558244163020945:=0
def tw8681331888224803017:=0
def tw12775809892038235227:=0
def tw13221499211175905625:=0
def tw7531768268496518103:=0
def tw5058271377163740994:=0
def tw5696107137246642402:=0
def tw15804756260370842612:=0
def tw5002901471442035602:=0
def tw7525940026993831953:=0
def tw3500287169877528533:=0
def tw10464346237745509060:=0
def tw18127928150620987706:=0
def tw14919245614305089583:=0
def tw5462534581711638268:=0
def tw11322947781097273236:=0
def tw17912910660473929730:=0
def tw8793594183447393941:=0
def tw3382594138208285484:=0
def tw3872407182785334505:=0
def tw5095874739317102293:=0
def tw1862502445324301630:=0
def tw8759519694053582103:=0
def tw17272516190774285101:=0
def tw7911229985241820569:=0
def tw16176490257404544167:=0
def tw6093800187081292655:=0
def tw15710799887245222912:=0
def tw17375145621271890148:=0
def tw13050181295230891581:=0
def tw6103013124255845129:=0
def tw12341790024812865859:=0
def tw3126570792202602392:=0
def tw15085547657070621176:=0
def tw6077732828787600535:=0
def tw4745672033399277674:=0
def tw8318161682896604161:=0
def tw10809804692592734011:=0
def tw16595096021253047616:=0
def tw8828888271900758748:=0
def tw694320195563748802:=0
def tw9687669822471401788:=0
def tw10645144430308366402:=0
def tw1314025258233238406:=0
def tw4169891437646198745:=0
def tw14365300909165443873:=0
def tw6965727266442360866:=0
def tw15257332401059808622:=0
def tw3313428992490191974:=0
def tw16364384680941591074:=0
def tw1901912055350928588:=0
def tw7380630798282204764:=0
def tw9496888919413865194:=0
def tw8436890425117954996:=0
def tw11080945006894954980:=0
def tw13043040122654555033:=0
def tw3754955453715898934:=0
def tw16710806659183381414:=0
def tw11789410987076294885:=0
def tw14216264682973379836:=0
def tw6689577051204686279:=0
def tw1692201856068659544:=0
def tw1147268718673778742:=0
def tw17127651416365126265:=0
def tw16528940607967895437:=0
def tw18413784802943797626:=0
def tw15527691504878639957:=0
def tw16856173133193505854:=0
def tw15418648054229826470:=0
def tw3465426085464989626:=0
def tw7592873442393406696:=0
def tw3920486611243744458:=0
def tw5492515820548383228:=0
def tw12325437492225083517:=0
def tw5401290564280550736:=0
def tw8875647662568087841:=0
def tw9927429231295569347:=0
def tw451405684706654167:=0
def tw4548887603308652041:=0
def tw1613240097103067682:=0
def tw1618899386903789952:=0
def tw12926910803767421697:=0
def tw16033332564549695490:=0
def tw15544176562423065026:=0
def tw18259959495485854563:=0
def tw6829291268421481957:=0
def tw14657176891291651241:=0
def tw3192031668291194250:=0
def tw10589780396005626666:=0
def tw7032059006151213806:=0
def tw10046621590433012399:=0
def tw13573643483108433232:=0
def tw15997422724771753235:=0
def tw16739702039477570131:=0
def tw6096770847276506676:=0
def tw8769354450879727318:=0
def tw17536463605679324439:=0
def tw13253743061089819964:=0
def tw12214153723904620381:=0
def tw10745580850507966590:=0
end PySem.W.Fast
open PySem PySem.W PyProof.Rows
set_option maxRecDepth 100000 in
set_option maxHeartbeats 0 in
theorem PySem.Challenge.cw_fourvoices_k20_whole_rules_walk_holds : PySem.Challenge.rw_fourvoices_k20_whole_rules_walk.Holds := by
  w_on; o_law; k_head; (case hw => w_witness2)
  k_fill
  refine K20.walk (l := PySem.Challenge.rw_fourvoices_k20_whole_rules_walk) rfl rfl (fun w h Y => PySem.W.kIn_of Y) ?F
  case F =>
    intro w mg fa h KX G hmg
    refine' K20.all_mk KX G hmg ?n_Span ?TC_Span ?n_Clock ?TC_Clock ?n_Move ?TC_Move ?n_Alike ?TC_Alike ?n_Back ?TC_Back ?n_Held ?TC_Held ?n_Times ?TC_Times ?n_Begin ?TC_Begin ?n_Close ?TC_Close ?n_Every ?TC_Every ?A_note_in ?A_span ?A_move ?A_Rule___init__ ?A_Span_size ?A_Span_start ?A_Span_closes ?A_Span_shown ?A_Clock_size ?A_Clock_start ?A_Clock_closes ?A_Clock_shown ?A_Move_size ?A_Move_start ?A_Move_closes ?A_Move_shown ?A_Alike_size ?A_Alike_start ?A_Alike_closes ?A_Alike_shown ?A_Begin_size ?A_Begin_start ?A_Begin_closes ?A_Begin_shown ?A_Close_size ?A_Close_start ?A_Close_shown ?A_Back_shown ?A_Held_start ?A_Held_closes ?A_Held_shown ?A_Times_start ?A_Times_shown ?A_Every_start ?A_Every_closes ?A_Every_shown ?A_Close_after ?A_Back_size ?A_Back_start ?A_Held_size ?A_Times_size ?A_Every_size ?A_Span_after ?A_Clock_after ?A_Move_after ?A_Alike_after ?A_Back_closes ?A_Back_after ?A_Held_after ?A_Times_closes ?A_Times_after ?A_Begin_after ?A_Close_closes ?A_Every_after ?A_Span___init__ ?A_Clock___init__ ?A_Move___init__ ?A_Alike___init__ ?A_Back___init__ ?A_Held___init__ ?A_Times___init__ ?A_Begin___init__ ?A_Close___init__ ?A_Every___init__ ?A_is_number ?A_has_list ?A_are_voices ?B_span_of ?B_clock_of ?B_move_of ?B_alike_of ?B_back_of ?B_held_of ?B_times_of ?B_begin_of ?B_close_of ?A_plain_rule ?A_every_rule ?A_read_rule ?A_broken_at ?A_law_pick ?A_law_stir ?A_law_digits ?A_law_bases ?A_law_notes ?A_law_numbers_by ?A_law_words_by ?A_law_step_breaks ?A_law_breaks ?A_law_open ?A_law_grown ?A_law_first ?A_law_size_of ?A_law_memory_good ?A_law_by_turns ?A_law_broken ?n_MAKERS ?t_MAKERS ?d_MAKERS_span ?d_MAKERS_clock ?d_MAKERS_move ?d_MAKERS_alike ?d_MAKERS_back ?d_MAKERS_held ?d_MAKERS_times ?d_MAKERS_begin ?d_MAKERS_close ?n_INNER_KINDS ?q_INNER_KINDS ?z_len ?z_range ?z_all ?z_min ?z_max ?z_abs ?z_tuple ?z_list ?z_isinstance ?z_bool ?z_int ?z_str ?z_divmod ?z_enumerate ?g_FIGURES ?g_MOST_FIGURES ?g_MOST_NUMBERS ?g_NO_LEAP ?g_LEAP_UP ?g_LEAP_DOWN ?A_law
    (case n_Span => k_is)
    (case TC_Span => (refine' ⟨⟨?a_1, ?b_1, ?c_1, ?d_1⟩, ?f0_1, ?f1_1, ?f2_1, ?f3_1⟩; (case a_1 => k_is); (case b_1 => k_is); (case c_1 => k_is); (case d_1 => k_is); (case f0_1 => delta L2.NoAttr; k_is); (case f1_1 => delta L2.NoAttr; k_is); (case f2_1 => delta L2.NoAttr; k_is); (case f3_1 => delta L2.NoAttr; k_is)))
    (case n_Clock => k_is)
    (case TC_Clock => (refine' ⟨⟨?a_3, ?b_3, ?c_3, ?d_3⟩, ?f0_3, ?f1_3, ?f2_3, ?f3_3, ?f4_3⟩; (case a_3 => k_is); (case b_3 => k_is); (case c_3 => k_is); (case d_3 => k_is); (case f0_3 => delta L2.NoAttr; k_is); (case f1_3 => delta L2.NoAttr; k_is); (case f2_3 => delta L2.NoAttr; k_is); (case f3_3 => delta L2.NoAttr; k_is); (case f4_3 => delta L2.NoAttr; k_is)))
    (case n_Move => k_is)
    (case TC_Move => (refine' ⟨⟨?a_5, ?b_5, ?c_5, ?d_5⟩, ?f0_5, ?f1_5, ?f2_5⟩; (case a_5 => k_is); (case b_5 => k_is); (case c_5 => k_is); (case d_5 => k_is); (case f0_5 => delta L2.NoAttr; k_is); (case f1_5 => delta L2.NoAttr; k_is); (case f2_5 => delta L2.NoAttr; k_is)))
    (case n_Alike => k_is)
    (case TC_Alike => (refine' ⟨⟨?a_7, ?b_7, ?c_7, ?d_7⟩, ?f0_7, ?f1_7, ?f2_7, ?f3_7⟩; (case a_7 => k_is); (case b_7 => k_is); (case c_7 => k_is); (case d_7 => k_is); (case f0_7 => delta L2.NoAttr; k_is); (case f1_7 => delta L2.NoAttr; k_is); (case f2_7 => delta L2.NoAttr; k_is); (case f3_7 => delta L2.NoAttr; k_is)))
    (case n_Back => k_is)
    (case TC_Back => (refine' ⟨⟨?a_9, ?b_9, ?c_9, ?d_9⟩, ?f0_9, ?f1_9, ?f2_9⟩; (case a_9 => k_is); (case b_9 => k_is); (case c_9 => k_is); (case d_9 => k_is); (case f0_9 => delta L2.NoAttr; k_is); (case f1_9 => delta L2.NoAttr; k_is); (case f2_9 => delta L2.NoAttr; k_is)))
    (case n_Held => k_is)
    (case TC_Held => (refine' ⟨⟨?a_11, ?b_11, ?c_11, ?d_11⟩, ?f0_11, ?f1_11, ?f2_11⟩; (case a_11 => k_is); (case b_11 => k_is); (case c_11 => k_is); (case d_11 => k_is); (case f0_11 => delta L2.NoAttr; k_is); (case f1_11 => delta L2.NoAttr; k_is); (case f2_11 => delta L2.NoAttr; k_is)))
    (case n_Times => k_is)
    (case TC_Times => (refine' ⟨⟨?a_13, ?b_13, ?c_13, ?d_13⟩, ?f0_13, ?f1_13, ?f2_13, ?f3_13, ?f4_13⟩; (case a_13 => k_is); (case b_13 => k_is); (case c_13 => k_is); (case d_13 => k_is); (case f0_13 => delta L2.NoAttr; k_is); (case f1_13 => delta L2.NoAttr; k_is); (case f2_13 => delta L2.NoAttr; k_is); (case f3_13 => delta L2.NoAttr; k_is); (case f4_13 => delta L2.NoAttr; k_is)))
    (case n_Begin => k_is)
    (case TC_Begin => (refine' ⟨⟨?a_15, ?b_15, ?c_15, ?d_15⟩, ?f0_15, ?f1_15, ?f2_15⟩; (case a_15 => k_is); (case b_15 => k_is); (case c_15 => k_is); (case d_15 => k_is); (case f0_15 => delta L2.NoAttr; k_is); (case f1_15 => delta L2.NoAttr; k_is); (case f2_15 => delta L2.NoAttr; k_is)))
    (case n_Close => k_is)
    (case TC_Close => (refine' ⟨⟨?a_17, ?b_17, ?c_17, ?d_17⟩, ?f0_17, ?f1_17, ?f2_17⟩; (case a_17 => k_is); (case b_17 => k_is); (case c_17 => k_is); (case d_17 => k_is); (case f0_17 => delta L2.NoAttr; k_is); (case f1_17 => delta L2.NoAttr; k_is); (case f2_17 => delta L2.NoAttr; k_is)))
    (case n_Every => k_is)
    (case TC_Every => (refine' ⟨⟨?a_19, ?b_19, ?c_19, ?d_19⟩, ?f0_19, ?f1_19, ?f2_19, ?f3_19⟩; (case a_19 => k_is); (case b_19 => k_is); (case c_19 => k_is); (case d_19 => k_is); (case f0_19 => delta L2.NoAttr; k_is); (case f1_19 => delta L2.NoAttr; k_is); (case f2_19 => delta L2.NoAttr; k_is); (case f3_19 => delta L2.NoAttr; k_is)))
    (case A_note_in => (refine' L2.defAt_mk ?a_20 ?l_20 ?c_20 ?k_20; (case a_20 => k_is); (case l_20 => k_is); (case c_20 => k_is); (case k_20 => k_is)))
    (case A_span => (refine' L2.defAt_mk ?a_21 ?l_21 ?c_21 ?k_21; (case a_21 => k_is); (case l_21 => k_is); (case c_21 => k_is); (case k_21 => k_is)))
    (case A_move => (refine' L2.defAt_mk ?a_22 ?l_22 ?c_22 ?k_22; (case a_22 => k_is); (case l_22 => k_is); (case c_22 => k_is); (case k_22 => k_is)))
    (case A_Rule___init__ => (refine' L2.cmethAt_mk ?n_23 ?r_23 ?a_23 ?g_23 ?l_23 ?c_23 ?k_23; (case n_23 => k_is); (case r_23 => k_is); (case a_23 => k_is); (case g_23 => k_is); (case l_23 => k_is); (case c_23 => k_is); (case k_23 => k_is)))
    (case A_Span_size => (refine' L2.methAt_mk ?a_24 ?i_24 ?l_24 ?c_24 ?k_24; (case a_24 => k_is); (case i_24 => k_is); (case l_24 => k_is); (case c_24 => k_is); (case k_24 => k_is)))
    (case A_Span_start => (refine' L2.methAt_mk ?a_25 ?i_25 ?l_25 ?c_25 ?k_25; (case a_25 => k_is); (case i_25 => k_is); (case l_25 => k_is); (case c_25 => k_is); (case k_25 => k_is)))
    (case A_Span_closes => (refine' L2.methAt_mk ?a_26 ?i_26 ?l_26 ?c_26 ?k_26; (case a_26 => k_is); (case i_26 => k_is); (case l_26 => k_is); (case c_26 => k_is); (case k_26 => k_is)))
    (case A_Span_shown => (refine' L2.methAt_mk ?a_27 ?i_27 ?l_27 ?c_27 ?k_27; (case a_27 => k_is); (case i_27 => k_is); (case l_27 => k_is); (case c_27 => k_is); (case k_27 => k_is)))
    (case A_Clock_size => (refine' L2.methAt_mk ?a_28 ?i_28 ?l_28 ?c_28 ?k_28; (case a_28 => k_is); (case i_28 => k_is); (case l_28 => k_is); (case c_28 => k_is); (case k_28 => k_is)))
    (case A_Clock_start => (refine' L2.methAt_mk ?a_29 ?i_29 ?l_29 ?c_29 ?k_29; (case a_29 => k_is); (case i_29 => k_is); (case l_29 => k_is); (case c_29 => k_is); (case k_29 => k_is)))
    (case A_Clock_closes => (refine' L2.methAt_mk ?a_30 ?i_30 ?l_30 ?c_30 ?k_30; (case a_30 => k_is); (case i_30 => k_is); (case l_30 => k_is); (case c_30 => k_is); (case k_30 => k_is)))
    (case A_Clock_shown => (refine' L2.methAt_mk ?a_31 ?i_31 ?l_31 ?c_31 ?k_31; (case a_31 => k_is); (case i_31 => k_is); (case l_31 => k_is); (case c_31 => k_is); (case k_31 => k_is)))
    (case A_Move_size => (refine' L2.methAt_mk ?a_32 ?i_32 ?l_32 ?c_32 ?k_32; (case a_32 => k_is); (case i_32 => k_is); (case l_32 => k_is); (case c_32 => k_is); (case k_32 => k_is)))
    (case A_Move_start => (refine' L2.methAt_mk ?a_33 ?i_33 ?l_33 ?c_33 ?k_33; (case a_33 => k_is); (case i_33 => k_is); (case l_33 => k_is); (case c_33 => k_is); (case k_33 => k_is)))
    (case A_Move_closes => (refine' L2.methAt_mk ?a_34 ?i_34 ?l_34 ?c_34 ?k_34; (case a_34 => k_is); (case i_34 => k_is); (case l_34 => k_is); (case c_34 => k_is); (case k_34 => k_is)))
    (case A_Move_shown => (refine' L2.methAt_mk ?a_35 ?i_35 ?l_35 ?c_35 ?k_35; (case a_35 => k_is); (case i_35 => k_is); (case l_35 => k_is); (case c_35 => k_is); (case k_35 => k_is)))
    (case A_Alike_size => (refine' L2.methAt_mk ?a_36 ?i_36 ?l_36 ?c_36 ?k_36; (case a_36 => k_is); (case i_36 => k_is); (case l_36 => k_is); (case c_36 => k_is); (case k_36 => k_is)))
    (case A_Alike_start => (refine' L2.methAt_mk ?a_37 ?i_37 ?l_37 ?c_37 ?k_37; (case a_37 => k_is); (case i_37 => k_is); (case l_37 => k_is); (case c_37 => k_is); (case k_37 => k_is)))
    (case A_Alike_closes => (refine' L2.methAt_mk ?a_38 ?i_38 ?l_38 ?c_38 ?k_38; (case a_38 => k_is); (case i_38 => k_is); (case l_38 => k_is); (case c_38 => k_is); (case k_38 => k_is)))
    (case A_Alike_shown => (refine' L2.methAt_mk ?a_39 ?i_39 ?l_39 ?c_39 ?k_39; (case a_39 => k_is); (case i_39 => k_is); (case l_39 => k_is); (case c_39 => k_is); (case k_39 => k_is)))
    (case A_Begin_size => (refine' L2.methAt_mk ?a_40 ?i_40 ?l_40 ?c_40 ?k_40; (case a_40 => k_is); (case i_40 => k_is); (case l_40 => k_is); (case c_40 => k_is); (case k_40 => k_is)))
    (case A_Begin_start => (refine' L2.methAt_mk ?a_41 ?i_41 ?l_41 ?c_41 ?k_41; (case a_41 => k_is); (case i_41 => k_is); (case l_41 => k_is); (case c_41 => k_is); (case k_41 => k_is)))
    (case A_Begin_closes => (refine' L2.methAt_mk ?a_42 ?i_42 ?l_42 ?c_42 ?k_42; (case a_42 => k_is); (case i_42 => k_is); (case l_42 => k_is); (case c_42 => k_is); (case k_42 => k_is)))
    (case A_Begin_shown => (refine' L2.methAt_mk ?a_43 ?i_43 ?l_43 ?c_43 ?k_43; (case a_43 => k_is); (case i_43 => k_is); (case l_43 => k_is); (case c_43 => k_is); (case k_43 => k_is)))
    (case A_Close_size => (refine' L2.methAt_mk ?a_44 ?i_44 ?l_44 ?c_44 ?k_44; (case a_44 => k_is); (case i_44 => k_is); (case l_44 => k_is); (case c_44 => k_is); (case k_44 => k_is)))
    (case A_Close_start => (refine' L2.methAt_mk ?a_45 ?i_45 ?l_45 ?c_45 ?k_45; (case a_45 => k_is); (case i_45 => k_is); (case l_45 => k_is); (case c_45 => k_is); (case k_45 => k_is)))
    (case A_Close_shown => (refine' L2.methAt_mk ?a_46 ?i_46 ?l_46 ?c_46 ?k_46; (case a_46 => k_is); (case i_46 => k_is); (case l_46 => k_is); (case c_46 => k_is); (case k_46 => k_is)))
    (case A_Back_shown => (refine' L2.methAt_mk ?a_47 ?i_47 ?l_47 ?c_47 ?k_47; (case a_47 => k_is); (case i_47 => k_is); (case l_47 => k_is); (case c_47 => k_is); (case k_47 => k_is)))
    (case A_Held_start => (refine' L2.methAt_mk ?a_48 ?i_48 ?l_48 ?c_48 ?k_48; (case a_48 => k_is); (case i_48 => k_is); (case l_48 => k_is); (case c_48 => k_is); (case k_48 => k_is)))
    (case A_Held_closes => (refine' L2.methAt_mk ?a_49 ?i_49 ?l_49 ?c_49 ?k_49; (case a_49 => k_is); (case i_49 => k_is); (case l_49 => k_is); (case c_49 => k_is); (case k_49 => k_is)))
    (case A_Held_shown => (refine' L2.methAt_mk ?a_50 ?i_50 ?l_50 ?c_50 ?k_50; (case a_50 => k_is); (case i_50 => k_is); (case l_50 => k_is); (case c_50 => k_is); (case k_50 => k_is)))
    (case A_Times_start => (refine' L2.methAt_mk ?a_51 ?i_51 ?l_51 ?c_51 ?k_51; (case a_51 => k_is); (case i_51 => k_is); (case l_51 => k_is); (case c_51 => k_is); (case k_51 => k_is)))
    (case A_Times_shown => (refine' L2.methAt_mk ?a_52 ?i_52 ?l_52 ?c_52 ?k_52; (case a_52 => k_is); (case i_52 => k_is); (case l_52 => k_is); (case c_52 => k_is); (case k_52 => k_is)))
    (case A_Every_start => (refine' L2.methAt_mk ?a_53 ?i_53 ?l_53 ?c_53 ?k_53; (case a_53 => k_is); (case i_53 => k_is); (case l_53 => k_is); (case c_53 => k_is); (case k_53 => k_is)))
    (case A_Every_closes => (refine' L2.methAt_mk ?a_54 ?i_54 ?l_54 ?c_54 ?k_54; (case a_54 => k_is); (case i_54 => k_is); (case l_54 => k_is); (case c_54 => k_is); (case k_54 => k_is)))
    (case A_Every_shown => (refine' L2.methAt_mk ?a_55 ?i_55 ?l_55 ?c_55 ?k_55; (case a_55 => k_is); (case i_55 => k_is); (case l_55 => k_is); (case c_55 => k_is); (case k_55 => k_is)))
    (case A_Close_after => (refine' L2.methAt_mk ?a_56 ?i_56 ?l_56 ?c_56 ?k_56; (case a_56 => k_is); (case i_56 => k_is); (case l_56 => k_is); (case c_56 => k_is); (case k_56 => k_is)))
    (case A_Back_size => (refine' L2.methAt_mk ?a_57 ?i_57 ?l_57 ?c_57 ?k_57; (case a_57 => k_is); (case i_57 => k_is); (case l_57 => k_is); (case c_57 => k_is); (case k_57 => k_is)))
    (case A_Back_start => (refine' L2.methAt_mk ?a_58 ?i_58 ?l_58 ?c_58 ?k_58; (case a_58 => k_is); (case i_58 => k_is); (case l_58 => k_is); (case c_58 => k_is); (case k_58 => k_is)))
    (case A_Held_size => (refine' L2.methAt_mk ?a_59 ?i_59 ?l_59 ?c_59 ?k_59; (case a_59 => k_is); (case i_59 => k_is); (case l_59 => k_is); (case c_59 => k_is); (case k_59 => k_is)))
    (case A_Times_size => (refine' L2.methAt_mk ?a_60 ?i_60 ?l_60 ?c_60 ?k_60; (case a_60 => k_is); (case i_60 => k_is); (case l_60 => k_is); (case c_60 => k_is); (case k_60 => k_is)))
    (case A_Every_size => (refine' L2.methAt_mk ?a_61 ?i_61 ?l_61 ?c_61 ?k_61; (case a_61 => k_is); (case i_61 => k_is); (case l_61 => k_is); (case c_61 => k_is); (case k_61 => k_is)))
    (case A_Span_after => (refine' L2.methAt_mk ?a_62 ?i_62 ?l_62 ?c_62 ?k_62; (case a_62 => k_is); (case i_62 => k_is); (case l_62 => k_is); (case c_62 => k_is); (case k_62 => k_is)))
    (case A_Clock_after => (refine' L2.methAt_mk ?a_63 ?i_63 ?l_63 ?c_63 ?k_63; (case a_63 => k_is); (case i_63 => k_is); (case l_63 => k_is); (case c_63 => k_is); (case k_63 => k_is)))
    (case A_Move_after => (refine' L2.methAt_mk ?a_64 ?i_64 ?l_64 ?c_64 ?k_64; (case a_64 => k_is); (case i_64 => k_is); (case l_64 => k_is); (case c_64 => k_is); (case k_64 => k_is)))
    (case A_Alike_after => (refine' L2.methAt_mk ?a_65 ?i_65 ?l_65 ?c_65 ?k_65; (case a_65 => k_is); (case i_65 => k_is); (case l_65 => k_is); (case c_65 => k_is); (case k_65 => k_is)))
    (case A_Back_closes => (refine' L2.methAt_mk ?a_66 ?i_66 ?l_66 ?c_66 ?k_66; (case a_66 => k_is); (case i_66 => k_is); (case l_66 => k_is); (case c_66 => k_is); (case k_66 => k_is)))
    (case A_Back_after => (refine' L2.methAt_mk ?a_67 ?i_67 ?l_67 ?c_67 ?k_67; (case a_67 => k_is); (case i_67 => k_is); (case l_67 => k_is); (case c_67 => k_is); (case k_67 => k_is)))
    (case A_Held_after => (refine' L2.methAt_mk ?a_68 ?i_68 ?l_68 ?c_68 ?k_68; (case a_68 => k_is); (case i_68 => k_is); (case l_68 => k_is); (case c_68 => k_is); (case k_68 => k_is)))
    (case A_Times_closes => (refine' L2.methAt_mk ?a_69 ?i_69 ?l_69 ?c_69 ?k_69; (case a_69 => k_is); (case i_69 => k_is); (case l_69 => k_is); (case c_69 => k_is); (case k_69 => k_is)))
    (case A_Times_after => (refine' L2.methAt_mk ?a_70 ?i_70 ?l_70 ?c_70 ?k_70; (case a_70 => k_is); (case i_70 => k_is); (case l_70 => k_is); (case c_70 => k_is); (case k_70 => k_is)))
    (case A_Begin_after => (refine' L2.methAt_mk ?a_71 ?i_71 ?l_71 ?c_71 ?k_71; (case a_71 => k_is); (case i_71 => k_is); (case l_71 => k_is); (case c_71 => k_is); (case k_71 => k_is)))
    (case A_Close_closes => (refine' L2.methAt_mk ?a_72 ?i_72 ?l_72 ?c_72 ?k_72; (case a_72 => k_is); (case i_72 => k_is); (case l_72 => k_is); (case c_72 => k_is); (case k_72 => k_is)))
    (case A_Every_after => (refine' L2.methAt_mk ?a_73 ?i_73 ?l_73 ?c_73 ?k_73; (case a_73 => k_is); (case i_73 => k_is); (case l_73 => k_is); (case c_73 => k_is); (case k_73 => k_is)))
    (case A_Span___init__ => (refine' L2.mkAt_mk ?n_74 ?m_74 ?a_74 ?i_74 ?kc_74 ?l_74 ?c_74 ?k_74; (case n_74 => k_is); (case m_74 => k_is); (case a_74 => k_is); (case i_74 => k_is); (case kc_74 => k_is); (case l_74 => k_is); (case c_74 => k_is); (case k_74 => k_is)))
    (case A_Clock___init__ => (refine' L2.mkAt_mk ?n_75 ?m_75 ?a_75 ?i_75 ?kc_75 ?l_75 ?c_75 ?k_75; (case n_75 => k_is); (case m_75 => k_is); (case a_75 => k_is); (case i_75 => k_is); (case kc_75 => k_is); (case l_75 => k_is); (case c_75 => k_is); (case k_75 => k_is)))
    (case A_Move___init__ => (refine' L2.mkAt_mk ?n_76 ?m_76 ?a_76 ?i_76 ?kc_76 ?l_76 ?c_76 ?k_76; (case n_76 => k_is); (case m_76 => k_is); (case a_76 => k_is); (case i_76 => k_is); (case kc_76 => k_is); (case l_76 => k_is); (case c_76 => k_is); (case k_76 => k_is)))
    (case A_Alike___init__ => (refine' L2.mkAt_mk ?n_77 ?m_77 ?a_77 ?i_77 ?kc_77 ?l_77 ?c_77 ?k_77; (case n_77 => k_is); (case m_77 => k_is); (case a_77 => k_is); (case i_77 => k_is); (case kc_77 => k_is); (case l_77 => k_is); (case c_77 => k_is); (case k_77 => k_is)))
    (case A_Back___init__ => (refine' L2.mkAt_mk ?n_78 ?m_78 ?a_78 ?i_78 ?kc_78 ?l_78 ?c_78 ?k_78; (case n_78 => k_is); (case m_78 => k_is); (case a_78 => k_is); (case i_78 => k_is); (case kc_78 => k_is); (case l_78 => k_is); (case c_78 => k_is); (case k_78 => k_is)))
    (case A_Held___init__ => (refine' L2.mkAt_mk ?n_79 ?m_79 ?a_79 ?i_79 ?kc_79 ?l_79 ?c_79 ?k_79; (case n_79 => k_is); (case m_79 => k_is); (case a_79 => k_is); (case i_79 => k_is); (case kc_79 => k_is); (case l_79 => k_is); (case c_79 => k_is); (case k_79 => k_is)))
    (case A_Times___init__ => (refine' L2.mkAt_mk ?n_80 ?m_80 ?a_80 ?i_80 ?kc_80 ?l_80 ?c_80 ?k_80; (case n_80 => k_is); (case m_80 => k_is); (case a_80 => k_is); (case i_80 => k_is); (case kc_80 => k_is); (case l_80 => k_is); (case c_80 => k_is); (case k_80 => k_is)))
    (case A_Begin___init__ => (refine' L2.mkAt_mk ?n_81 ?m_81 ?a_81 ?i_81 ?kc_81 ?l_81 ?c_81 ?k_81; (case n_81 => k_is); (case m_81 => k_is); (case a_81 => k_is); (case i_81 => k_is); (case kc_81 => k_is); (case l_81 => k_is); (case c_81 => k_is); (case k_81 => k_is)))
    (case A_Close___init__ => (refine' L2.mkAt_mk ?n_82 ?m_82 ?a_82 ?i_82 ?kc_82 ?l_82 ?c_82 ?k_82; (case n_82 => k_is); (case m_82 => k_is); (case a_82 => k_is); (case i_82 => k_is); (case kc_82 => k_is); (case l_82 => k_is); (case c_82 => k_is); (case k_82 => k_is)))
    (case A_Every___init__ => (refine' L2.mkAt_mk ?n_83 ?m_83 ?a_83 ?i_83 ?kc_83 ?l_83 ?c_83 ?k_83; (case n_83 => k_is); (case m_83 => k_is); (case a_83 => k_is); (case i_83 => k_is); (case kc_83 => k_is); (case l_83 => k_is); (case c_83 => k_is); (case k_83 => k_is)))
    (case A_is_number => (refine' L2.defAt_mk ?a_84 ?l_84 ?c_84 ?k_84; (case a_84 => k_is); (case l_84 => k_is); (case c_84 => k_is); (case k_84 => k_is)))
    (case A_has_list => (refine' L2.defAt_mk ?a_85 ?l_85 ?c_85 ?k_85; (case a_85 => k_is); (case l_85 => k_is); (case c_85 => k_is); (case k_85 => k_is)))
    (case A_are_voices => (refine' L2.defAt_mk ?a_86 ?l_86 ?c_86 ?k_86; (case a_86 => k_is); (case l_86 => k_is); (case c_86 => k_is); (case k_86 => k_is)))
    (case B_span_of => (refine' ⟨?a_87, L2.fun_mk ?l_87 ?c_87 ?k_87⟩; (case a_87 => k_is); (case l_87 => k_is); (case c_87 => k_is); (case k_87 => k_is)))
    (case B_clock_of => (refine' ⟨?a_88, L2.fun_mk ?l_88 ?c_88 ?k_88⟩; (case a_88 => k_is); (case l_88 => k_is); (case c_88 => k_is); (case k_88 => k_is)))
    (case B_move_of => (refine' ⟨?a_89, L2.fun_mk ?l_89 ?c_89 ?k_89⟩; (case a_89 => k_is); (case l_89 => k_is); (case c_89 => k_is); (case k_89 => k_is)))
    (case B_alike_of => (refine' ⟨?a_90, L2.fun_mk ?l_90 ?c_90 ?k_90⟩; (case a_90 => k_is); (case l_90 => k_is); (case c_90 => k_is); (case k_90 => k_is)))
    (case B_back_of => (refine' ⟨?a_91, L2.fun_mk ?l_91 ?c_91 ?k_91⟩; (case a_91 => k_is); (case l_91 => k_is); (case c_91 => k_is); (case k_91 => k_is)))
    (case B_held_of => (refine' ⟨?a_92, L2.fun_mk ?l_92 ?c_92 ?k_92⟩; (case a_92 => k_is); (case l_92 => k_is); (case c_92 => k_is); (case k_92 => k_is)))
    (case B_times_of => (refine' ⟨?a_93, L2.fun_mk ?l_93 ?c_93 ?k_93⟩; (case a_93 => k_is); (case l_93 => k_is); (case c_93 => k_is); (case k_93 => k_is)))
    (case B_begin_of => (refine' ⟨?a_94, L2.fun_mk ?l_94 ?c_94 ?k_94⟩; (case a_94 => k_is); (case l_94 => k_is); (case c_94 => k_is); (case k_94 => k_is)))
    (case B_close_of => (refine' ⟨?a_95, L2.fun_mk ?l_95 ?c_95 ?k_95⟩; (case a_95 => k_is); (case l_95 => k_is); (case c_95 => k_is); (case k_95 => k_is)))
    (case A_plain_rule => (refine' L2.defAt_mk ?a_96 ?l_96 ?c_96 ?k_96; (case a_96 => k_is); (case l_96 => k_is); (case c_96 => k_is); (case k_96 => k_is)))
    (case A_every_rule => (refine' L2.defAt_mk ?a_97 ?l_97 ?c_97 ?k_97; (case a_97 => k_is); (case l_97 => k_is); (case c_97 => k_is); (case k_97 => k_is)))
    (case A_read_rule => (refine' L2.defAtD_mk2 ?a_98 ?l_98 ?c_98 ?k_98 ?t_98 ?d_98 ?r_98; (case a_98 => k_is); (case l_98 => k_is); (case c_98 => k_is); (case k_98 => k_is); (case t_98 => k_is); (case d_98 => rfl); (case r_98 => exact ⟨_, rfl⟩)))
    (case A_broken_at => (refine' L2.defAt_mk ?a_99 ?l_99 ?c_99 ?k_99; (case a_99 => k_is); (case l_99 => k_is); (case c_99 => k_is); (case k_99 => k_is)))
    (case A_law_pick => (refine' L2.defAt_mk ?a_100 ?l_100 ?c_100 ?k_100; (case a_100 => k_is); (case l_100 => k_is); (case c_100 => k_is); (case k_100 => k_is)))
    (case A_law_stir => (refine' L2.defAt_mk ?a_101 ?l_101 ?c_101 ?k_101; (case a_101 => k_is); (case l_101 => k_is); (case c_101 => k_is); (case k_101 => k_is)))
    (case A_law_digits => (refine' L2.defAt_mk ?a_102 ?l_102 ?c_102 ?k_102; (case a_102 => k_is); (case l_102 => k_is); (case c_102 => k_is); (case k_102 => k_is)))
    (case A_law_bases => (refine' L2.defAt_mk ?a_103 ?l_103 ?c_103 ?k_103; (case a_103 => k_is); (case l_103 => k_is); (case c_103 => k_is); (case k_103 => k_is)))
    (case A_law_notes => (refine' L2.defAt_mk ?a_104 ?l_104 ?c_104 ?k_104; (case a_104 => k_is); (case l_104 => k_is); (case c_104 => k_is); (case k_104 => k_is)))
    (case A_law_numbers_by => (refine' L2.defAt_mk ?a_105 ?l_105 ?c_105 ?k_105; (case a_105 => k_is); (case l_105 => k_is); (case c_105 => k_is); (case k_105 => k_is)))
    (case A_law_words_by => (refine' L2.defAt_mk ?a_106 ?l_106 ?c_106 ?k_106; (case a_106 => k_is); (case l_106 => k_is); (case c_106 => k_is); (case k_106 => k_is)))
    (case A_law_step_breaks => (refine' L2.defAt_mk ?a_107 ?l_107 ?c_107 ?k_107; (case a_107 => k_is); (case l_107 => k_is); (case c_107 => k_is); (case k_107 => k_is)))
    (case A_law_breaks => (refine' L2.defAt_mk ?a_108 ?l_108 ?c_108 ?k_108; (case a_108 => k_is); (case l_108 => k_is); (case c_108 => k_is); (case k_108 => k_is)))
    (case A_law_open => (refine' L2.defAt_mk ?a_109 ?l_109 ?c_109 ?k_109; (case a_109 => k_is); (case l_109 => k_is); (case c_109 => k_is); (case k_109 => k_is)))
    (case A_law_grown => (refine' L2.defAt_mk ?a_110 ?l_110 ?c_110 ?k_110; (case a_110 => k_is); (case l_110 => k_is); (case c_110 => k_is); (case k_110 => k_is)))
    (case A_law_first => (refine' L2.defAt_mk ?a_111 ?l_111 ?c_111 ?k_111; (case a_111 => k_is); (case l_111 => k_is); (case c_111 => k_is); (case k_111 => k_is)))
    (case A_law_size_of => (refine' L2.defAt_mk ?a_112 ?l_112 ?c_112 ?k_112; (case a_112 => k_is); (case l_112 => k_is); (case c_112 => k_is); (case k_112 => k_is)))
    (case A_law_memory_good => (refine' L2.defAt_mk ?a_113 ?l_113 ?c_113 ?k_113; (case a_113 => k_is); (case l_113 => k_is); (case c_113 => k_is); (case k_113 => k_is)))
    (case A_law_by_turns => (refine' L2.defAt_mk ?a_114 ?l_114 ?c_114 ?k_114; (case a_114 => k_is); (case l_114 => k_is); (case c_114 => k_is); (case k_114 => k_is)))
    (case A_law_broken => (refine' L2.defAt_mk ?a_115 ?l_115 ?c_115 ?k_115; (case a_115 => k_is); (case l_115 => k_is); (case c_115 => k_is); (case k_115 => k_is)))
    (case n_MAKERS => k_is)
    (case t_MAKERS => (refine' L2.tab_mk ?l_117 ?s_117 ?x_117 ?y_117 ?z_117 ?d_117 ?r_117; (case l_117 => k_is); (case s_117 => rfl); (case x_117 => rfl); (case y_117 => rfl); (case z_117 => rfl); (case d_117 => rfl); (case r_117 => exact (L2.rowsR rfl rfl (L2.rowsR rfl rfl (L2.rowsR rfl rfl (L2.rowsR rfl rfl (L2.rowsR rfl rfl (L2.rowsR rfl rfl (L2.rowsR rfl rfl (L2.rowsR rfl rfl (L2.rowsR rfl rfl .nil))))))))))))
    (case d_MAKERS_span => with_unfolding_all rfl)
    (case d_MAKERS_clock => with_unfolding_all rfl)
    (case d_MAKERS_move => with_unfolding_all rfl)
    (case d_MAKERS_alike => with_unfolding_all rfl)
    (case d_MAKERS_back => with_unfolding_all rfl)
    (case d_MAKERS_held => with_unfolding_all rfl)
    (case d_MAKERS_times => with_unfolding_all rfl)
    (case d_MAKERS_begin => with_unfolding_all rfl)
    (case d_MAKERS_close => with_unfolding_all rfl)
    (case n_INNER_KINDS => k_is)
    (case q_INNER_KINDS => (refine' L2.ktup_mk ?l_128 ?x_128 ?d_128 ?z_128 ?r_128; (case l_128 => k_is); (case x_128 => rfl); (case d_128 => rfl); (case z_128 => decide); (case r_128 => exact (.cons ⟨_, rfl⟩ (.cons ⟨_, rfl⟩ .nil)))))
    (case z_len => k_is)
    (case z_range => k_is)
    (case z_all => k_is)
    (case z_min => k_is)
    (case z_max => k_is)
    (case z_abs => k_is)
    (case z_tuple => k_is)
    (case z_list => k_is)
    (case z_isinstance => k_is)
    (case z_bool => k_is)
    (case z_int => k_is)
    (case z_str => k_is)
    (case z_divmod => k_is)
    (case z_enumerate => k_is)
    (case g_FIGURES => (refine' L2.const_mk ?e_143 ?r_143; (case e_143 => k_is); (case r_143 => exact ⟨_, by with_unfolding_all rfl⟩)))
    (case g_MOST_FIGURES => (refine' L2.const_mk ?e_144 ?r_144; (case e_144 => k_is); (case r_144 => exact ⟨_, by with_unfolding_all rfl⟩)))
    (case g_MOST_NUMBERS => (refine' L2.const_mk ?e_145 ?r_145; (case e_145 => k_is); (case r_145 => exact ⟨_, by with_unfolding_all rfl⟩)))
    (case g_NO_LEAP => (refine' L2.const_mk ?e_146 ?r_146; (case e_146 => k_is); (case r_146 => exact ⟨_, by with_unfolding_all rfl⟩)))
    (case g_LEAP_UP => (refine' L2.const_mk ?e_147 ?r_147; (case e_147 => k_is); (case r_147 => exact ⟨_, by with_unfolding_all rfl⟩)))
    (case g_LEAP_DOWN => (refine' L2.const_mk ?e_148 ?r_148; (case e_148 => k_is); (case r_148 => exact ⟨_, by with_unfolding_all rfl⟩)))
    (case A_law => (refine' L2.defAt_mk ?a_149 ?l_149 ?c_149 ?k_149; (case a_149 => k_is); (case l_149 => k_is); (case c_149 => k_is); (case k_149 => k_is)))
